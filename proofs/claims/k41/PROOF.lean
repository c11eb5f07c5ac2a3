import PyProof.Rows.All
import Wide.All
import OpenK.AllK
import Wide.FinOn
import Lean
import PyProof.EqAt
import PyProof.EqKinds
import PyProof.TupleCall
import KE.KDictSum
import KE.KTryDeep
import KE.KTryMore
import PyProof.NsDelKeeps
import PyProof.FString
import PyProof.Rows.SetFrom
import KE.KItemsList
import PySem.Challenge.RW_nearstairs_k41_rooms_beside_emptied
open List (all_cons all_eq_true any_cons any_eq_false any_eq_true any_map append_assoc append_nil drop_drop drop_eq_getElem_cons drop_length drop_of_length_le drop_sublist drop_take erase_cons_head filter_cons find?_cons getD_eq_getElem?_getD getElem?_append_left getElem?_append_right getElem?_drop getElem?_eq_getElem getElem?_eq_none getElem?_eq_some_iff getElem?_map getElem?_range getElem?_set_ne getElem?_set_self getElem_drop getElem_inj getElem_map getElem_mem getElem_take length_append length_cons length_drop length_filter_le length_map length_nil length_range length_replicate length_set length_singleton length_take map_append map_congr_left map_cons map_id map_map map_nil map_set mem_append mem_append_left mem_append_right mem_cons mem_cons_of_mem mem_cons_self mem_erase_of_ne mem_filter mem_filterMap mem_iff_getElem mem_map mem_map_of_mem mem_of_getElem? mem_of_mem_erase mem_range mem_replicate mem_singleton nodup_append nodup_cons nodup_nil not_mem_nil pairwise_append pairwise_cons pairwise_iff_getElem pairwise_map replicate_succ' take_append_drop take_length take_of_length_le take_succ take_zero)
set_option Elab.async false
set_option compiler.extract_closed false
set_option linter.all false
set_option maxRecDepth 100000
abbrev aWd:=@if_neg
abbrev aS1:=@if_pos
abbrev ay1:=@PySem.wpAny_bind
abbrev amA:=@Nat.le_refl
abbrev aHJ:=@List.length_map
abbrev au3:=@List.getElem?_eq_some_iff
abbrev a47:=@PySem.Heap.get?_push_of_some
abbrev apC:=@PyProof.Rows.wpS_bind
abbrev ais:=@List.getElem?_eq_getElem
abbrev ape:=@PySem.Heap.lt_size
abbrev aJm:=@PyProof.Rows.wpS_pure
abbrev aqS:=@Bool.false_ne_true
abbrev aZC:=@Option.some.inj
abbrev a14:=@List.length_append
abbrev atw:=@Nat.le_trans
abbrev aO7:=@PySem.wpAny_pure
abbrev ahA:=@List.size_toArray
abbrev a1M:=@PySem.Heap.get?_push_size
abbrev abm:=@Nat.ne_of_lt
abbrev a1U:=@List.mem_of_getElem?
abbrev acv:=@Bool.false_eq_true
abbrev aBl:=@Ne.symm
abbrev aRY:=@Array.length_toList
abbrev aU2:=@List.mem_singleton
abbrev akN:=@Nat.lt_of_lt_of_le
abbrev a7o:=@List.getElem?_map
abbrev aei:=@Nat.zero_le
abbrev a7Y:=@decide_eq_true
abbrev aB2:=@PySem.F.plainAttrs_list
abbrev ajG:=@List.mem_cons
abbrev aWP:=@Array.getElem?_eq_getElem
abbrev an8:=@List.getD_eq_getElem?_getD
abbrev aKq:=@List.mem_cons_self
abbrev alm:=@decide_eq_false
abbrev avG:=@List.mem_cons_of_mem
abbrev bdf:=@List.mem_append
abbrev bac:=@PySem.wpAny_mono
abbrev arC:=@PySem.F.slot_list_append
abbrev ap9:=@PySem.F.type_list_append
abbrev avl:=@List.map_append
abbrev aV4:=@bind_congr
abbrev aWn:=@List.getElem?_append_right
abbrev a1n:=@PySem.sizeLine_eq
abbrev af0:=@List.not_mem_nil
abbrev aPz:=@PyProof.Rows.wpS_forRange
abbrev aUJ:=@Nat.lt_irrefl
abbrev ahZ:=@List.getElem?_append_left
abbrev a2D:=@List.mem_append_right
abbrev aaq:=@if_false
abbrev aII:=@List.length_cons
abbrev aFk:=@congrArg
abbrev a92:=@Nat.le_of_lt
abbrev aCG:=@Array.getElem?_toList
abbrev aC3:=@List.perm_append_comm
abbrev a49:=@PySem.PassesOwn.never
abbrev aCk:=@Sum.inl.inj
abbrev a2R:=@Array.toList_append
abbrev adN:=@List.length_singleton
abbrev as2:=@List.mem_cons
abbrev aRi:=@or_false
abbrev a5M:=@PySem.W.mg_none_of
abbrev a6d:=@PyProof.Rows.wpS_mono
abbrev aMm:=@PyProof.Rows.callWith_type1
abbrev ada:=@decide_eq_true_eq
abbrev akf:=@if_true
abbrev axQ:=@List.append_assoc
abbrev arp:=@List.mem_map
abbrev auJ:=@List.mem_replicate
abbrev aNn:=@Bool.and_eq_true
abbrev aZ1:=@List.map_cons
abbrev aov:=@List.mem_map_of_mem
abbrev ain:=@List.Nodup.mem_erase_iff
abbrev aPi:=@List.nodup_cons
abbrev ano:=@List.mem_filterMap
abbrev aCy:=@decide_eq_false_iff_not
abbrev ayO:=@List.lookup_cons
abbrev aX6:=@List.getElem?_eq_none
abbrev aXA:=@PySem.wpAny_truthy_bool
abbrev aZ3:=@List.eq_nil_of_length_eq_zero
abbrev aZM:=@Nat.lt_of_le_of_lt
abbrev agt:=@List.length_take
abbrev aET:=@PySem.Heap.size_push
abbrev avg:=@PySem.boot_len
abbrev a8E:=@List.mem_append_left
abbrev aaJ:=@List.erase_cons_head
abbrev aXp:=@List.replicate_succ'
abbrev aJ4:=@Nat.ne_of_gt
abbrev am5:=@List.all_eq_true
abbrev a4J:=@PySem.wpAny_field
abbrev aeM:=@Int.le_refl
abbrev auf:=@Int.le_trans
abbrev aXr:=@PySem.wpAny_holding
abbrev atV:=@PySem.wpAny_rule
abbrev aEg:=@beq_iff_eq
abbrev a1P:=@Array.perm_iff_toList_perm
abbrev aRu:=@PyProof.Rows.wpS_modify
abbrev bbt:=@PySem.Calls.spliced_cons
abbrev an2:=@Int.emod_lt_of_pos
abbrev aiS:=@decide_false
abbrev arT:=@List.pairwise_append
abbrev aOE:=@Array.getElem_toList
abbrev aoV:=@List.drop_eq_getElem_cons
abbrev a8U:=@List.getElem?_set_self
abbrev aUl:=@Nat.lt_succ_of_lt
abbrev ao2:=@PySem.strLen_append
abbrev ayS:=@beq_eq_false_iff_ne
abbrev aqh:=@PySem.wpAny_call_entry
abbrev aYo:=@PyProof.Rows.wpS_get
abbrev bdd:=@List.append_nil
abbrev asa:=@PySem.Calls.callWith_builtin
abbrev amM:=@decide_true
abbrev aL4:=@List.getElem?_set_ne
abbrev aLH:=@Option.map_some
abbrev aXk:=@Int.emod_nonneg
abbrev ac6:=@PySem.F.slot_tuple_iterator_next
abbrev aNd:=@List.ext_getElem?
abbrev aRZ:=@Bool.not_eq_true'
abbrev aM2:=@List.drop_of_length_le
abbrev aax:=@Array.toList_push
abbrev aKe:=@List.length_set
abbrev aHi:=@PySem.Calls.evalArgs_plain
abbrev ahk:=@List.pairwise_iff_getElem
abbrev acJ:=@PySem.W.kia_one
abbrev aGX:=@List.mem_range
abbrev bcg:=@PySem.wpAny_seqItems
abbrev aYT:=@Nat.lt_trans
abbrev aHD:=@PyProof.Rows.boot_sorted
abbrev a1N:=@PySem.mem_of_lookup
abbrev aCS:=@PySem.F.plainAttrs_dict
abbrev aAl:=@PySem.wpAny_callSpecial?_slot
abbrev ab7:=@PySem.Paired.length
abbrev azs:=@PyProof.Rows.listUpdate_at
abbrev aMM:=@PySem.wpAny_execs_nil
abbrev aNg:=@Bool.eq_iff_iff
abbrev ah6:=@PySem.wpAny_Call_Name_kw
abbrev awh:=@PySem.W.kia_tup
abbrev ad4:=@PySem.wpAny_setField_rec
abbrev aI1:=@List.pairwise_cons
abbrev aKZ:=@List.length_drop
abbrev a3M:=@List.filter_cons
abbrev aEA:=@PyProof.Rows.wpS_reverse
abbrev aWl:=@PyProof.Rows.mirror_perm
abbrev aNb:=@List.getElem_mem
abbrev a3B:=@PySem.wpAny_newObj_type
abbrev aKB:=@PySem.Calls.spliced_nil
abbrev a68:=@PySem.Heap.get?_push_ne
abbrev aPr:=@PySem.codeAny_mono
abbrev abx:=@List.map_congr_left
abbrev anV:=@PySem.F.slot_dict_pop
abbrev avA:=@List.Pairwise.sublist
abbrev adx:=@Nat.sub_self
abbrev aIs:=@Nat.le_of_ble_eq_true
abbrev a4z:=@List.length_nil
abbrev aKC:=@List.cons_append
abbrev aQG:=@PySem.wpAny_pyIter_zip
abbrev aw0:=@List.take_append_drop
abbrev aL6:=@Array.toList_extract
abbrev ay7:=@List.mem_iff_getElem
abbrev asz:=@List.mem_of_mem_erase
abbrev aXy:=@PySem.wpAny_newList
abbrev auU:=@List.perm_ext_iff_of_nodup
abbrev ard:=@PySem.wpAny_passesOwn
abbrev aVV:=@List.mem_or_eq_of_mem_set
abbrev aCZ:=@PySem.tupleKind_room_in1
abbrev a0f:=@Nat.zero_add
abbrev aJu:=@List.length_range
abbrev adw:=@List.getElem?_range
abbrev abQ:=@List.find?_cons
abbrev afy:=@List.getElem?_replicate
abbrev a36:=@List.eraseIdx_cons_succ
abbrev a9k:=@List.getElem?_cons_succ
abbrev adq:=@List.take_of_length_le
abbrev amL:=@of_decide_eq_true
abbrev abW:=@Int.add_mul_ediv_right
abbrev ac0:=@Int.ediv_eq_zero_of_lt
abbrev aqc:=@PySem.wpAny_standAt
abbrev aty:=@Bool.not_true
abbrev aDL:=@List.mem_singleton
abbrev aIK:=@PySem.wpAny_execs_cons
abbrev a77:=@List.length_replicate
abbrev apy:=@List.length_filter_le
abbrev aGq:=@PySem.F.slot_dict_get
abbrev aIx:=@Array.getElem_extract
abbrev au1:=@List.mem_iff_getElem?
abbrev a40:=@List.erase_of_not_mem
abbrev ad3:=@Int.mul_ediv_add_emod
abbrev aX3:=@List.mem_filter
abbrev aMf:=@Nat.le_of_eq
abbrev agr:=@List.forIn_cons
abbrev ao1:=@Array.Perm.refl
abbrev auu:=@Array.toList_reverse
abbrev a9K:=@List.nil_append
section
open Lean in
local macro_rules|`($n:num)=>do
 if let .original ..:=n.raw.getHeadInfo then
  match n.raw[0].getAtomVal with
  |"8"=>`(rfl)
  |"7"=>`(by lia)
  |"9"=>`(by decide)
  |"6"=>`(by decide +kernel)
  |"5"=>`(by simp)
  |_=>Macro.throwUnsupported
 else Macro.throwUnsupported
open Lean in
local macro_rules|`(!$x)=>`(some $x)
open Lean in
local macro_rules|`(($x,$y,*))=>do
 if y.elemsAndSeps.size%2=1 then Macro.throwUnsupported
 let mut r:Array Term:=#[]
 for z in #[x]++y.getElems do
  let n:=z.raw.isNatLit?.getD 0
  if n<100||z.raw[0].getAtomVal.startsWith "0" then r:=r.push z
  else for i in [1:(n-100).log2+1] do r:=r.push (<-if (n-100).testBit ((n-100).log2-i) then `(rfl) else `(_))
 `(⟨$r,*⟩)
open Lean in
def pat9(n:Nat)(t:Term):MacroM (TSyntax `rcasesPat):=match n with
 |0=>`(rcasesPat|_)
 |n+1=>match t with
  |`(($x,$y,*))=>do
   let r<-(#[x]++y.getElems).mapM (pat9 n)
   `(rcasesPat|⟨$[$r:rcasesPat],*⟩)
  |`($x:ident)=>`(rcasesPat|$x:ident)
  |_=>`(rcasesPat|_)
open Lean in
local macro_rules|`(tactic|let ($x,$y,*):=$v)=>do
 if y.elemsAndSeps.size%2=1 then Macro.throwUnsupported
 let r<-pat9 12 (<-`(($x,$y,*)))
 `(tactic|obtain $r:rcasesPat:=$v)
namespace L2
open PySem PySem.Spec PyProof.Rows
abbrev Key:=Sum Int Str
def lV:Key->Value->Bool
 | .inl k,v=>Value.isInt k v
 | .inr x,v=>Value.isStrOf x v
def Na(w:World):Key->Int
 | .inl k=>hashInt k
 | .inr x=>hashStr w x
theorem ZE:∀{k:Key}{v:Value},lV k v=true->(∃i t,k=Sum.inl i/\v=Value.int i t)\/(∃x t,k=Sum.inr x/\v=Value.str x t)
 | .inl i,v,h=>by
  let(t,e,):=Value.isInt_shape (k:=i) (v:=v) h;exact .inl (i,t,8,e,)
 | .inr x,v,h=>by
  let(t,e,):=Value.isStrOf_shape (x:=x) (v:=v) h;exact .inr (x,t,8,e,)
theorem ZfY(i:Int)(t:Tok):lV (.inl i) (.int i t)=true:=by simp[lV,Value.isInt]
theorem ZfZ(x:Str)(t:Tok):lV (.inr x) (.str x t)=true:=by simp[lV,Value.isStrOf]
theorem Zkl(a b:Int):decide ((Sum.inl a:Key)=Sum.inl b)=(a ==b):=by
 by_cases e:a=b
 .subst e;simp
 .have h:¬(Sum.inl a:Key)=Sum.inl b:=λq=>e (aCk q);rw[alm h];exact(ayS.mpr e).symm
theorem Zkm(a b:Str):decide ((Sum.inr a:Key)=Sum.inr b)=decide (a=b):=by
 by_cases e:a=b
 .subst e;simp
 .have h:¬(Sum.inr a:Key)=Sum.inr b:=λq=>e (Sum.inr.inj q);rw[alm h,alm e]
theorem Zkn(a:Int)(b:Str):decide ((Sum.inl a:Key)=Sum.inr b)=false:=alm (λq=>nomatch q)
theorem Zko(a:Str)(b:Int):decide ((Sum.inr a:Key)=Sum.inl b)=false:=alm (λq=>nomatch q)
def Zy(prog:Program)(w:World):PySem.KeyKind prog w Key where
 is:=lV
 hash:=Na w
 inj:=λv a b ha hb=>by
  rcases ZE ha with⟨i,t,rfl,rfl⟩|⟨x,t,rfl,rfl⟩
  .rcases ZE hb with⟨j,u,rfl,e⟩|⟨y,u,rfl,e⟩
   .injection e with e1 _;rw[e1]
   .exact nomatch e
  .rcases ZE hb with⟨j,u,rfl,e⟩|⟨y,u,rfl,e⟩
   .exact nomatch e
   .injection e with e1 _;rw[e1]
 byValue:=λk v h=>by
  rcases ZE h with⟨i,t,rfl,rfl⟩|⟨x,t,rfl,rfl⟩ <;> rfl
 pyHash:=λhv h=>by
  rcases ZE hv with⟨i,t,rfl,rfl⟩|⟨x,t,rfl,rfl⟩
  .exact wpAny_pyHash_int h
  .exact wpAny_pyHash_str h
 eqBool:=λhu hv h=>by
  rcases ZE hu with⟨i,t,rfl,rfl⟩|⟨x,t,rfl,rfl⟩
  .rcases ZE hv with⟨j,u,rfl,rfl⟩|⟨y,u,rfl,rfl⟩
   .rw [Zkl]at h;exact wpAny_eqBool_int h
   .rw [Zkn]at h;exact SeqAt.EqAt.int_str i t y u _ _ _ _ h
  .rcases ZE hv with⟨j,u,rfl,rfl⟩|⟨y,u,rfl,rfl⟩
   .rw [Zko]at h;exact SeqAt.EqAt.str_int x t j u _ _ _ _ h
   .rw [Zkm]at h;exact wpAny_eqBool_str h
 «strs»:=λk x t v h=>by
  rcases ZE h with⟨i,u,rfl,e⟩|⟨y,u,rfl,e⟩
  .exact nomatch e
  .injection e with e1 _
   subst e1;cases v <;> rfl
theorem Zfx(prog:Program)(w:World)(k:Key)(v:Value):(Zy prog w).is k v=lV k v:=rfl
theorem Zef(prog:Program)(w:World)(i:Int)(t:Tok):(Zy prog w).is (.inl i) (.int i t)=true:=ZfY i t
theorem Zeg(prog:Program)(w:World)(x:Str)(t:Tok):(Zy prog w).is (.inr x) (.str x t)=true:=ZfZ x t
inductive V where
 |aN|bl (b:Bool)|int (i:Int)|str (x:Str)|vR (b:Array UInt8)|AO (b:UInt64)|ref (a:Addr)|ty (n:String)
 deriving DecidableEq
def RelV:V->Value->Prop
 | .aN,u=>u=Value.none
 | .bl b,u=>u=Value.bool b
 | .int i,u=>∃t,u=Value.int i t
 | .str x,u=>∃t,u=Value.str x t
 | .vR b,u=>∃t,u=Value.bytes b t
 | .AO b,u=>∃t,u=Value.float b t
 | .ref a,u=>u=Value.ref a
 | .ty n,u=>u=Value.type n
abbrev Vals:List V->List Value->Prop:=Paired RelV
theorem Vals.length{xs:List V}{us:List Value}(r:Vals xs us):xs.length=us.length:=ab7 r
theorem Vals.get:∀{xs:List V}{us:List Value}{i:Nat}{x:V},Vals xs us->xs[i]?=!x->∃u,us[i]?=!u/\RelV x u
 |_,_,_,_,.nil,e=>by simp at e
 |_,_,0,_,.cons r _,e=>by simp at e;subst e;exact(_,8,r,)
 |_,_,i+1,x,.cons _ t,e=>by
  let(u,h1,h2,):=Vals.get (i:=i) (x:=x) t (by simpa using e);exact(u,by simpa using h1,h2,)
theorem Vals.set{x:V}{u:Value}(r:RelV x u):∀{xs:List V}{us:List Value}(i:Nat),Vals xs us->Vals (xs.set i x) (us.set i u)
 |_,_,_,.nil=>.nil
 |_,_,0,.cons _ t=>.cons r t
 |_,_,i+1,.cons q t=>.cons q (Vals.set r i t)
theorem Vals.append:∀{xs ys:List V}{us ws:List Value},Vals xs us->Vals ys ws->Vals (xs++ys) (us++ws)
 |_,_,_,_,.nil,s=>s
 |_,_,_,_,.cons r t,s=>.cons r (Vals.append t s)
theorem Vals.take:∀{xs:List V}{us:List Value}(n:Nat),Vals xs us->Vals (xs.take n) (us.take n)
 |_,_,0,_=>.nil
 |_,_,_+1,.nil=>.nil
 |_,_,n+1,.cons r t=>.cons r (Vals.take n t)
theorem Vals.drop:∀{xs:List V}{us:List Value}(n:Nat),Vals xs us->Vals (xs.drop n) (us.drop n)
 |_,_,0,r=>r
 |_,_,_+1,.nil=>.nil
 |_,_,n+1,.cons _ t=>Vals.drop n t
def dR:Option V->Option Value->Prop
 |!v,some u=>RelV v u
 |none,none=>True
 |_,_=>False
def KV{κ:Type}:List (κ×V)->List (κ×Value)->Prop:=Paired λ(p:κ×V)(q:κ×Value)=>p.1=q.1/\RelV p.2 q.2
def kV:Key->V
 | .inl i=>.int i
 | .inr x=>.str x
inductive HO where
  |lst (xs:List V)
  |tup (xs:List V)
  |dK (kvs:List (Key×V))|dT (kvs:List (List Key×V))
  |set (S:Int->Bool) (n:Nat)
  |ins (C dx:Addr) (fs:List (Str×V))
  |own (x:Addr)
  |xd (fs:List (Str×V))
  |met (f x:Addr)
  |Kn (lo hi:Int)
  |cQ (o:Obj) (u:HO)
  |nQ (pos:Pos) (qual:Str)
  |ext (φ:Heap->Prop)
abbrev Hp:=Addr->Option HO
def upd(H:Hp)(a:Addr)(o:HO):Hp:=λb=>if b=a then some o else H b
theorem Za{H:Hp}{a:Addr}{o:HO}:upd H a o a=!o:=by unfold upd;rw[aS1 8]
theorem Zc{H:Hp}{a b:Addr}{o:HO}(h:b≠a):upd H a o b=H b:=by unfold upd;rw[aWd h]
theorem LD{H:Hp}{a:Addr}{o u:HO}:upd (upd H a o) a u=upd H a u:=by
 funext b;unfold upd;split <;> rfl
theorem uQ{H:Hp}{a b:Addr}{o u:HO}(h:H a=!o)(h':H b=!u)(d:o≠u):a≠b:=by
 intro e;subst e;rw[h]at h';exact d (aZC h')
theorem Zd{H:Hp}{a b:Addr}{o:HO}(h:H a=!o)(h':H b=none):a≠b:=by
 intro e;subst e;rw[h]at h';cases h'
section
variable(P:Program)(w:World)
def aH(H:Hp)(h:Heap)(a:Addr):HO->Prop
 | .lst xs=>xs.length<=sizeLine/\∃(its:List Value)(n:Nat),Vals xs its/\h.get? a=!{ cls:=.type "list",data:=.seq its.toArray n }
 | .tup xs=>xs.length<=sizeLine/\∃its:List Value,Vals xs its/\IsTup h a its.toArray
 | .dK kvs=>kvs.length<=sizeLine/\(a ==sysModules)=false/\∃vs,KV kvs vs/\h.DictOf (Zy P w) a vs
 | .dT kvs=>kvs.length<=sizeLine/\(a ==sysModules)=false/\∃xs:List (List Key×Addr×Value),
   Paired (λ(p:List Key×V)(q:List Key×Addr×Value)=>p.1=q.1/\H q.2.1=!(.tup (p.1.map kV))/\RelV p.2 q.2.2) kvs xs /\
   ∃o es ep,h.get? a=!o/\o.ExactDict/\o.data=.dict es ep/\es.toList=xs.map (entryOfKey (tupleKind (Zy P w)))/\(xs.map (·.1)).Nodup
 | .set S n=>h.SetOf (intKind P w) a S n
 | .ins C dx fs=>H dx=!(.own a)/\fs.length<=1000/\dx≠a/\h.get? a=!(W.instObj C dx) /\
   ∃mA,h.Ns1 dx mA/\(∀f,dR (fs.lookup f) (mA f))/\PySem.Within mA (fs.map (·.1))
 | .own _=>∃o,h.get? a=!o
 | .xd fs=>∃mA,h.Ns1 a mA/\∀f,dR (fs.lookup f) (mA f)
 | .Kn lo hi=>∃t u v,h.get? a=!{ cls:=.type "range",data:=.fields #[.int lo t,.int hi u,.int 1 v] }
 | .cQ o u=>h.get? a=!o/\aH H h a u
 | .nQ pos qual=>∃ps,h.get? a=!{ cls:=.none,data:=.fields ps }/\TriplesOk ps.toList/\∀cv,codeAmong pos ps.toList=!cv->∃c oc vs t,cv=.ref c/\H c=!(.cQ oc (.own a))/\oc.data=.fields vs/\vs[1]?=!(.str qual t)
 | .met f x=>h.get? a=!(W.methodObj (.ref f) (.ref x))
 | .ext φ=>φ h/\(∃o,h.get? a=!o)/\∀h1 h2:Heap,φ h1->(∀o,h1.get? a=!o->h2.get? a=!o)->φ h2
def dU(H:Hp)(h:Heap):Prop:=∀a o,H a=!o->aH P w H h a o
end
section
variable{P:Program}{w:World}{H H':Hp}{h h':Heap}{a:Addr}{o:HO}
theorem aH.lt(x:aH P w H h a o):a<h.objs.size:=by
 cases o with
 |lst xs=>let(_,_,_,_,e,):=x;exact ape e
 |tup xs=>let(_,_,_,p,):=x;exact p.lt
 |dK kvs=>let(_,_,_,_,o,_,_,e,_,):=x;exact ape e
 |dT kvs=>let(_,_,_,_,o,_,_,e,_,):=x;exact ape e
 |set S n=>let(o,_,_,_,e,_,):=x;exact ape e
 |ins C dx fs=>let(_,_,_,e,_,):=x;exact ape e
 |own y=>let(_,e,):=x;exact ape e
 |xd fs=>let(_,(_,_,_,e,_,),_,):=x;exact ape e
 |Kn lo hi=>let(_,_,_,e,):=x;exact ape e
 |cQ ob u=>let(e,_,):=x;exact ape e
 |nQ p q=>let(_,e,_,):=x;exact ape e
 |met f y=>exact ape (show h.get? a=some _ from x)
 |ext φ=>let(_,(_,e,),_,):=x;exact ape e
theorem Paired.Dz{α β:Type}{F G:α->β->Prop}:∀{l₁:List α}{l₂:List β},Paired F l₁ l₂->(∀a b,F a b->G a b)->Paired G l₁ l₂
 |_,_,.nil,_=>.nil
 |_,_,.cons r t,f=>.cons (f _ _ r) (Paired.Dz t f)
theorem aH.stay(x:aH P w H h a o)(k:∀b u,(b=a\/H b=!(.own a))->h.get? b=!u->h'.get? b=!u)
  (ho:∀b,H b=!(.own a)->H' b=!(.own a)) (ht:∀b xs,H b=!(.tup xs)->H' b=!(.tup xs))
  (hz:∀b oz,H b=!(.cQ oz (.own a))->H' b=!(.cQ oz (.own a)):=by exact λ_ _ q=>q):aH P w H' h' a o:=by
 induction o with
 |lst xs=>let(z,its,n,r,e,):=x;exact(z,its,n,r,k _ _ (.inl 8) e,)
 |tup xs=>let(z,its,r,ob,e,c,):=x;exact(z,its,r,ob,k _ _ (.inl 8) e,c,)
 |dK kvs=>let(z,y,vs,r,ob,es,ep,e,c,):=x;exact(z,y,vs,r,ob,es,ep,k _ _ (.inl 8) e,c,)
 |dT kvs=>
  let(z,y,xs,r,ob,es,ep,e,c,):=x;exact(z,y,xs,Paired.Dz r λp q z=>(z.1,ht _ _ z.2.1,z.2.2,),ob,es,ep,k _ _ (.inl 8) e,c,)
 |set S n=>let(ob,es,ep,t,e,c,):=x;exact(ob,es,ep,t,k _ _ (.inl 8) e,c,)
 |ins C dx fs=>
  let(d,z,ne,e,mA,(od,es,ep,e2,c,),r,):=x;exact(ho _ d,z,ne,k _ _ (.inl 8) e,mA,(od,es,ep,k _ _ (.inr d) e2,c,),r,)
 |own y=>let(ob,e,):=x;exact(ob,k _ _ (.inl 8) e,)
 |xd fs=>let(mA,(od,es,ep,e,c,),r,):=x;exact(mA,(od,es,ep,k _ _ (.inl 8) e,c,),r,)
 |Kn lo hi=>let(t,u,v,e,):=x;exact(t,u,v,k _ _ (.inl 8) e,)
 |cQ ob u ih=>let(e,q,):=x;exact(k _ _ (.inl 8) e,ih q,)
 |nQ p q=>
  let(ps,e,tr,hc,):=x;refine(ps,k a _ (.inl 8) e,tr,λcv e1=>?_,);let(c,oc,vs,tt,z,e2,r,):=hc cv e1;exact(c,oc,vs,tt,z,hz _ _ e2,r,)
 |met f y=>
  have e:h.get? a=!(W.methodObj (.ref f) (.ref y)):=x;show h'.get? a=!(W.methodObj (.ref f) (.ref y));exact k a _ (.inl 8) e
 |ext φ=>let(p,(o,e,),st,):=x;exact(st _ _ p λo q=>k _ _ (.inl 8) q,(o,k _ _ (.inl 8) e,),st,)
theorem dU.lt(x:dU P w H h)(e:H a=!o):a<h.objs.size:=(x a o e).lt
theorem dU.fresh(x:dU P w H h)(e:h.objs.size<=a):H a=none:=by
 cases q:H a with
 |none=>rfl
 |some u=>exact absurd (akN (x.lt q) e) (aUJ _)
theorem dU.kept(x:dU P w H h)(k:∀b u,h.get? b=!u->h'.get? b=!u):dU P w H h':=λa o e=>
 (x a o e).stay (λb u _ q=>k b u q) (λ_ q=>q) λ_ _ q=>q
theorem dU.laid(x:dU P w H h)(k:∀b u,h.get? b=!u->h'.get? b=!u)(hp:h.objs.size<=a)(new:aH P w (upd H a o) h' a o):dU P w (upd H a o) h':=λb u e=>by
 have hn:=x.fresh hp;by_cases hb:b=a
 .subst hb;rw[Za]at e;cases e;exact new
 .rw [Zc hb]at e;exact(x b u e).stay (λc v _ q=>k c v q) (λc q=>by rw[Zc (Zd q hn)];exact q) (λc xs q=>by rw[Zc (Zd q hn)];exact q) λc oz q=>by rw[Zc (Zd q hn)];exact q
end
def Rd(H:Hp)(a:Addr)(u:HO):Prop:=H a=!u\/∃o,H a=!(.cQ o u)
theorem Rd.ok{P:Program}{w:World}{H:Hp}{h:Heap}{a:Addr}{u:HO}(r:Rd H a u)(x:dU P w H h):aH P w H h a u:=by
 rcases r with r|⟨o,r⟩
 .exact x a u r
 .let(_,q,):=x a _ r;exact q
def JR:Option HO->Prop
 |some (.lst _)=>True
 |some (.dK _)=>True
 |some (.dT _)=>True
 |some (.set _ _)=>True
 |some (.ins _ _ _)=>True
 |some (.ext _)=>True
 |_=>False
section
variable{P:Program}{w:World}{H:Hp}{h h':Heap}{x e:Addr}{o':HO}
theorem dU.write(ok:dU P w H h)(mu:JR (H x))(he:e=x\/H e=!(.own x))(k:∀b u,b≠e->h.get? b=!u->h'.get? b=!u)(EX:∃u,h'.get? e=!u)
  (new:aH P w (upd H x o') h' x o'):dU P w (upd H x o') h':=λb u q=>by
 have Ho:∀c y,H c=!(.own y)->c≠x:=λc y r z=>by subst z;rw[r]at mu;exact mu
 have MJ:∀c xs,H c=!(.tup xs)->c≠x:=λc xs r z=>by subst z;rw[r]at mu;exact mu
 by_cases hb:b=x
 .subst hb;rw[Za]at q;cases q;exact new
 .rw [Zc hb]at q;by_cases DP:b=e
  .have q':H b=!(.own x):=by
    rcases he with z|z
    .exact absurd (DP.trans z) hb
    .rw [DP];exact z
   rw[q]at q';cases q';let(v,hv,):=EX;exact(v,by rw[DP];exact hv,)
  .refine (ok b u q).stay (λc v hc r=>k c v ?_ r) (λc r=>by rw[Zc (Ho c b r)];exact r) (λc xs r=>by rw[Zc (MJ c xs r)];exact r) λc oz r=>by rw[Zc (λz=>by subst z;rw[r]at mu;exact mu)];exact r
   rcases hc with rfl|hc
   .exact DP
   .rintro rfl;rcases he with z|z
    .exact Ho c b hc z
    .rw [hc]at z;cases z;exact hb 8
end
structure Un(fs ex:List Addr)(H H':Hp)(h h':Heap):Prop where
 keep:∀b o,h.get? b=!o->H b=none->b∉fs->b∉ex->h'.get? b=!o
 slot:∀b o,h.get? b=!o->H b=none->b∈fs->b∉ex->∃sl,h'.get? b=!{ o with slots:=sl }
 free:∀b o,h.get? b=!o->H b=none->b∉ex->H' b=none
 there:∀b o,h.get? b=!o->b∉ex->∃o',h'.get? b=!o'
 tups:∀b xs,H b=!(.tup xs)->H' b=!(.tup xs)
 eZ:∀b o u,H b=!(.cQ o u)->H' b=!(.cQ o u)
 fk:∀b p q,H b=!(.nQ p q)->H' b=!(.nQ p q)
section
variable{fs fs' ex ex':List Addr}{H H1 H2:Hp}{h h1 h2 h':Heap}{a x e:Addr}{o:HO}
theorem Un.any(u:Un fs ex H H1 h h1){b:Addr}{ob:Obj}(q:h.get? b=!ob)(n:H b=none)(hx:b∉ex):∃sl,h1.get? b=!{ ob with slots:=sl }:=by
 by_cases hb:b∈fs
 .exact u.slot b ob q n hb hx
 .exact (ob.slots,u.keep b ob q n hb hx,)
theorem Un.kept(k:∀b u,h.get? b=!u->h'.get? b=!u):Un fs ex H H h h':=
 (λb ob q _ _ _=>k b ob q,λb ob q _ _ _=>(ob.slots,k b ob q,),λ_ _ _ n _=>n,λb ob q _=>(ob,k b ob q,),λ_ _ q=>q,λ_ _ _ q=>q,λ_ _ _ q=>q,)
theorem Un.refl:Un fs ex H H h h:=Un.kept λ_ _ q=>q
theorem Un.laid(k:∀b u,h.get? b=!u->h'.get? b=!u)(hp:h.objs.size<=a)(hn:H a=none):Un fs ex H (upd H a o) h h' where
 keep:=λb u q _ _ _=>k b u q
 slot:=λb u q _ _ _=>(u.slots,k b u q,)
 free:=λb u q n _=>by rw[Zc (abm (akN (ape q) hp))];exact n
 there:=λb u q _=>(u,k b u q,)
 tups:=λb xs q=>by rw[Zc (Zd q hn)];exact q
 eZ:=λb u xs q=>by rw[Zc (Zd q hn)];exact q
 fk:=λb _ _ q=>by rw[Zc (Zd q hn)];exact q
theorem Un.write(mu:JR (H x))(he:e=x\/H e=!(.own x))(k:∀b u,b≠e->h.get? b=!u->h'.get? b=!u)(EX:∃u,h'.get? e=!u):Un fs ex H (upd H x o) h h':=by
 have hx:∀b,H b=none->b≠x:=λb n z=>by subst z;rw[n]at mu;exact mu
 have hb:∀b,H b=none->b≠e:=λb n z=>by
  subst z;rcases he with r|r
  .exact hx b n r
  .rw [n]at r;cases r
 have hm:∀b u,H b=!u->¬JR (!u)->b≠x:=λb u q nm z=>by subst z;rw[q]at mu;exact nm mu
 refine(λb u q n _ _=>k b u (hb b n) q,λb u q n _ _=>(u.slots,k b u (hb b n) q,),λb u q n _=>by rw[Zc (hx b n)];exact n,λb u q _=>?_,
  λb xs q=>by rw[Zc (hm b _ q λz=>z)];exact q,λb u xs q=>by rw[Zc (hm b _ q λz=>z)];exact q,λb _ _ q=>by rw[Zc (hm b _ q λz=>z)];exact q,)
 by_cases DP:b=e
 .subst DP;exact EX
 .exact (u,k b u DP q,)
end
def Kc(h:Heap)(H:Hp):List Addr:=(List.range h.objs.size).filter λa=>(H a).isSome
def pP(h:Heap)(H:Hp):Heap:=W.hideAll h (Kc h H)
theorem Zga(h:Heap)(H:Hp):(pP h H).objs.size=h.objs.size:=W.hideAll_size _ _
theorem Pb{h:Heap}{H:Hp}{b:Addr}{o:Obj}(e:h.get? b=!o)(n:H b=none):(pP h H).get? b=!o:=
 W.hideAll_get _ e λhm=>by
  have q:(H b).isSome=true:=(aX3.mp hm).2;rw[n]at q;simp at q
theorem Zjl{h:Heap}{H:Hp}{b:Addr}{o:Obj}(e:(pP h H).get? b=!o):h.get? b=!o/\H b=none:=by
 have e':h.get? b=!o:=W.of_hideAll (Kc h H) e;refine(e',?_,);cases q:H b with
 |none=>rfl
 |some x=>
  have hm:b∈Kc h H:=aX3.mpr (aGX.mpr (ape e'),by simp[q],);have z:(pP h H).get? b=none:=W.hideAll_none (Kc h H) hm;rw[z]at e;cases e
structure Mod(K:W.Frag)(mg:Str->Option Value)(base:Heap):Prop where
 zv:K.In base
 glob:base.Ns mainGlobals mg
 blt:∃mb,base.Ns builtinsNs mb/\∀x:Str,x ≠ "__name__" ->mb x=bootBuiltins x
 nolimit:base.NoLimit
structure Cx where
 prog:Program
 w:World
 K:W.Frag
 mg:Str->Option Value
 base:Heap
 A:Around
 N:List Str
 s₀:Shared
 H₀:Hp
 env:Env
 outer:List Env
 stack:List Env
 ex:List Addr
 fn:Str->Bool
 calm:Bool
 pn:List (Addr×Obj)
 xe:Value->Shared->Prop
def frs(l:List Env):List Addr:=l.filterMap (·.frame)
abbrev Cx.fs(X:Cx):List Addr:=frs X.outer
def JI(sc:Scope)(x:Str):Prop:=sc.names.lookup x=!.local\/sc.names.lookup x=!.cell\/sc.names.lookup x=!.free
def Loc(sc:Scope)(x:Str):Prop:=sc.names.lookup x=!.local\/sc.names.lookup x=!.cell
def Look(env:Env)(h:Heap)(m:Str->Option Value)(x:Str)(u:Value):Prop:=
 (env.kindOf x=!.local/\m x=!u)\/((env.kindOf x=!.cell\/env.kindOf x=!.free)/\∃c,env.cells.lookup x=!c/\h.IsCell c (!u))
structure Cx.Ok(X:Cx):Prop where
 mod:Mod X.K X.mg X.base
 kind:X.env.scope.kind=.function
 glob:X.env.globals=mainGlobals
 blt:X.env.builtins=builtinsNs
 above:X.s₀.heap.objs.size<=X.env.locals
 inj:∀x y c,X.env.cells.lookup x=!c->X.env.cells.lookup y=!c->x=y
 has:∀x,(X.env.kindOf x=!.cell\/X.env.kindOf x=!.free)->∃c,X.env.cells.lookup x=!c
 E2:∀x c,X.fn x=true->X.env.cells.lookup x=!c->X.s₀.heap.objs.size<=c
 hd:X.calm=true->X.A.handled=none
 frames:X.A.frames=!X.stack
 stk:X.stack=X.outer\/(X.stack=X.env ::X.outer/\X.env.frame=!X.env.locals)
 ID:∀b∈X.ex,b≠X.env.locals/\∀x c,X.env.cells.lookup x=!c->c≠b
 bs:∀b o,X.base.get? b=!o->X.s₀.heap.get? b=!o/\X.H₀ b=none
 yN:X.base.objs.size<=X.s₀.heap.objs.size
 vI:∀b o,X.base.get? b=!o->b∉X.ex
 vN:∀b∈X.ex,b∉X.fs
 gY:X.s₀.heap.FunFrames X.base X.outer
 zw:∀b∈X.fs,X.H₀ b=none
structure Inv(X:Cx)(pins:List (Addr×Obj))(σ:List (Option V))(H:Hp)(s:Shared):Prop where
 ok:X.Ok
 os:s.os=X.s₀.os
 bare:AllBare s.gens
 base:Un X.fs X.ex X.H₀ H X.s₀.heap s.heap
 loc:∃m,s.heap.Ns X.env.locals m/\∀(i:Nat)(x:Str)(v:V),X.N[i]?=!x->σ[i]?=!(!v)->JI X.env.scope x->∃u,RelV v u/\Look X.env s.heap m x u
 cell:∀x c,X.env.cells.lookup x=!c->∃v,s.heap.IsCell c v
 free:H X.env.locals=none
 cC:∀x c,X.env.cells.lookup x=!c->H c=none
 pin:∀p∈X.pn++pins,s.heap.get? p.1=!p.2/\H p.1=none/\p.1≠X.env.locals/\p.1∉X.fs/\∀v,p.2.data≠.cell v
 hok:dU X.prog X.w H s.heap
 len:σ.length=X.N.length
section
variable{X:Cx}{pins:List (Addr×Obj)}{σ:List (Option V)}{H H':Hp}{s:Shared}{h':Heap}
theorem Cx.Ok.MP(ok:X.Ok){b:Addr}{o:Obj}(e:X.base.get? b=!o):b∉X.fs:=λhb=>by
 have:=(ok.gY.mem hb).1;rw[e]at this;cases this
theorem Inv.bs(I:Inv X pins σ H s):∀b o,X.base.get? b=!o->s.heap.get? b=!o/\H b=none:=λb o e=>
 (I.base.keep b o (I.ok.bs b o e).1 (I.ok.bs b o e).2 (I.ok.MP e) (I.ok.vI b o e),I.base.free b o (I.ok.bs b o e).1 (I.ok.bs b o e).2 (I.ok.vI b o e),)
theorem Inv.bk(I:Inv X pins σ H s):∀b o,X.base.get? b=!o->s.heap.get? b=!o:=λb o e=>(I.bs b o e).1
theorem Inv.mod(I:Inv X pins σ H s):Mod X.K X.mg X.base:=I.ok.mod
theorem Inv.dw(I:Inv X pins σ H s):X.K.In s.heap:=I.ok.mod.zv.keeps I.bk
theorem Inv.nolimit(I:Inv X pins σ H s):s.heap.NoLimit:=I.ok.mod.nolimit.keeps I.bk
theorem Inv.lt(I:Inv X pins σ H s):X.env.locals<s.heap.objs.size:=let(_,hn,_,):=I.loc;hn.lt
theorem Inv.sz(I:Inv X pins σ H s):X.s₀.heap.objs.size<=s.heap.objs.size:=atw I.ok.above (a92 I.lt)
theorem Inv.Hq(I:Inv X pins σ H s){a:Addr}(h:s.heap.objs.size<=a):a∉X.fs:=λhb=>by
 let(_,o,ho,_,):=I.ok.gY.mem hb;exact absurd (akN (ape ho) (atw I.sz h)) (aUJ _)
theorem Inv.uX(I:Inv X pins σ H s):∀x c,X.env.cells.lookup x=!c->c≠X.env.locals:=λx c e z=>by
 let(v,o,ho,hd,):=I.cell x c e;let(m,(o',es,ep,ho',hd',_,),_,):=I.loc;rw[z,ho']at ho;cases ho;rw[hd']at hd;cases hd
theorem Inv.gY(I:Inv X pins σ H s):s.heap.FunFrames X.base X.outer:=by
 have all:∀(l:List Env),(∀b∈frs l,b∈X.fs)->X.s₀.heap.FunFrames X.base l->s.heap.FunFrames X.base l:=by
  intro l
  induction l with
  |nil=>intro _ _;trivial
  |cons env r ih=>
   intro hs hl;let(hk,(L,o,hf,hn,ho,hd,),hr,):=hl;have hL:L∈X.fs:=hs L (by unfold frs;rw[List.filterMap_cons,hf];exact aKq);let(sl,e,):=I.base.slot L o ho (I.ok.zw L hL) hL λz=>I.ok.vN L z hL;exact(hk,(L,_,hf,hn,e,hd,),ih (λb hb=>hs b (by unfold frs;rw[List.filterMap_cons,hf];exact avG _ hb)) hr,)
 exact all X.outer (λ_ hb=>hb) I.ok.gY
theorem Inv.stack(I:Inv X pins σ H s):s.heap.FunFrames X.base X.stack:=by
 rcases I.ok.stk with e|⟨e,hf⟩
 .rw [e];exact I.gY
 .rw [e];let(m,hn,_,):=I.loc;refine .cons (by rw[I.ok.kind];decide) hf hn ?_ I.gY;exact Heap.get?_none_of_le (atw I.ok.yN I.ok.above)
theorem Inv.gO(I:Inv X pins σ H s):∀b∈frs X.stack,b∈X.env.locals ::X.fs:=λb hb=>by
 rcases I.ok.stk with e|⟨e,hf⟩
 .rw [e]at hb;exact avG _ hb
 .rw [e]at hb;unfold frs at hb;rw[List.filterMap_cons,hf]at hb;exact hb
theorem Inv.oF(I:Inv X pins σ H s):∀b∈frs X.stack,H b=none:=λb hb=>by
 rcases ajG.mp (I.gO b hb) with e|hb
 .rw [e];exact I.free
 .let(_,o,ho,_,):=I.ok.gY.mem hb;exact I.base.free b o ho (I.ok.zw b hb) λz=>I.ok.vN b z hb
theorem Inv.step{g':Array GenState}{t':Nat}{d':Drawn}{ch:List Addr}(I:Inv X pins σ H s)
  (hch:∀b∈ch,(b∈X.ex\/X.s₀.heap.objs.size<=b)/\b≠X.env.locals/\(∀x c,X.env.cells.lookup x=!c->c≠b)/\∀p∈X.pn++pins,p.1≠b)
  (keep:∀b o,b≠X.env.locals->b∉X.fs->b∉ch->s.heap.get? b=!o->H b=none->h'.get? b=!o)
  (slot:∀b o,b≠X.env.locals->b∈X.fs->b∉ch->s.heap.get? b=!o->H b=none->∃sl,h'.get? b=!{ o with slots:=sl }) (free:∀b o,b∉ch->s.heap.get? b=!o->H b=none->H' b=none)
  (there:∀b o,b∉ch->s.heap.get? b=!o->∃o',h'.get? b=!o')
  (tups:∀b xs,H b=!(.tup xs)->H' b=!(.tup xs)) (eZ:∀b o u,H b=!(.cQ o u)->H' b=!(.cQ o u)) (fk:∀b p q,H b=!(.nQ p q)->H' b=!(.nQ p q))
  (ns:∀m,s.heap.Ns X.env.locals m->h'.Ns X.env.locals m) (hok:dU X.prog X.w H' h') (hg:AllBare g') :
  Inv X pins σ H' { s with heap:=h',gens:=g',drawn:=d',toks:=t' }:=by
 have QD:∀b o,X.s₀.heap.get? b=!o->b≠X.env.locals:=λb o e=>abm (akN (ape e) I.ok.above);have KG:∀b o,X.s₀.heap.get? b=!o->b∉X.ex->b∉ch:=λb o e hx hb=>by
  rcases(hch b hb).1 with z|z
  .exact hx z
  .exact absurd (akN (ape e) z) (aUJ _)
 have cellK:∀x c,X.env.cells.lookup x=!c->∀v,s.heap.IsCell c v->h'.IsCell c v:=λx c e v (o,ho,hd,)=>by
  have Ht:c∉ch:=λz=>(hch c z).2.2.1 x c e 8;by_cases hc:c∈X.fs
  .let(sl,q,):=slot c o (I.uX x c e) hc Ht ho (I.cC x c e);exact(_,q,hd,)
  .exact (o,keep c o (I.uX x c e) hc Ht ho (I.cC x c e),hd,)
 refine(I.ok,I.os,hg,(λb o e n hb hx=>?_,λb o e n hb hx=>?_,λb o e n hx=>?_,λb o e hx=>?_,λb xs e=>tups b xs (I.base.tups b xs e),λb o xs e=>eZ b o xs (I.base.eZ b o xs e),λb p r e=>fk b p r (I.base.fk b p r e),),?_,λx c e=>?_,?_,λx c e=>?_,λp hp=>?_,hok,I.len,)
 .exact keep b o (QD b o e) hb (KG b o e hx) (I.base.keep b o e n hb hx) (I.base.free b o e n hx)
 .let(sl,e1,):=I.base.slot b o e n hb hx;let(WY,e2,):=slot b _ (QD b o e) hb (KG b o e hx) e1 (I.base.free b o e n hx);exact(WY,e2,)
 .let(o',e1,):=I.base.there b o e hx;exact free b o' (KG b o e hx) e1 (I.base.free b o e n hx)
 .let(o',e1,):=I.base.there b o e hx;exact there b o' (KG b o e hx) e1
 .let(m,hn,hl,):=I.loc;refine(m,ns m hn,λi x v e1 e2 e3=>?_,);let(u,r,l,):=hl i x v e1 e2 e3;refine(u,r,?_,);rcases l with l|⟨k,c,e,z⟩
  .exact .inl l
  .exact .inr (k,c,e,cellK x c e _ z,)
 .let(v,z,):=I.cell x c e;exact(v,cellK x c e v z,)
 .let(m,(o,_,_,ho,_,),_,):=I.loc;exact free _ o (λz=>(hch _ z).2.1 8) ho I.free
 .let(v,o,ho,hd,):=I.cell x c e;exact free c o (λz=>(hch c z).2.2.1 x c e 8) ho (I.cC x c e)
 .let(e,n,ne,nf,d,):=I.pin p hp;have Ht:p.1∉ch:=λz=>(hch p.1 z).2.2.2 p hp 8;exact(keep p.1 p.2 ne nf Ht e n,free p.1 p.2 Ht e n,ne,nf,d,)
theorem Inv.un{t':Nat}(I:Inv X pins σ H s)(u:Un X.fs [] H H' s.heap h')(hok:dU X.prog X.w H' h'):Inv X pins σ H' { s with heap:=h',toks:=t' }:=by
 let(m,(o,es,ep,ho,r,),_,):=id I.loc;let(sl,hL,):=u.any ho I.free 5;exact I.step (g':=s.gens) (d':=s.drawn) (ch:=[]) (λ_ z=>nomatch z) (λb o _ hb _ e n=>u.keep b o e n hb 5) (λb o _ hb _ e n=>u.slot b o e n hb 5) (λb o _ e n=>u.free b o e n 5) (λb o _ e=>u.there b o e 5) u.tups u.eZ u.fk (λm' hm=>by
  let(o',es',NT,ho',r',):=hm;rw[ho]at ho';cases ho';exact(_,es',NT,hL,r',)) hok I.bare
theorem Inv.call{g':Array GenState}{t':Nat}{d':Drawn}{ch:List Addr}(I:Inv X pins σ H s)(u:Un (frs X.stack) ch H H' s.heap h')(hok:dU X.prog X.w H' h')(hg:AllBare g')
  (hch:∀b∈ch,(b∈X.ex\/X.s₀.heap.objs.size<=b)/\b≠X.env.locals/\(∀x c,X.env.cells.lookup x=!c->c≠b)/\∀p∈X.pn++pins,p.1≠b) :
  Inv X pins σ H' { s with heap:=h',gens:=g',drawn:=d',toks:=t' }:=by
 let(m,(o,es,ep,ho,r,),_,):=id I.loc;let(sl,hL,):=u.any ho I.free λz=>(hch _ z).2.1 8;exact I.step (ch:=ch) hch (λb o hL hb hc e n=>u.keep b o e n (λz=>(ajG.mp (I.gO b z)).elim hL hb) hc) (λb o _ _ hc e n=>u.any e n hc) (λb o hc e n=>u.free b o e n hc) (λb o hc e=>u.there b o e hc) u.tups u.eZ u.fk (λm' hm=>by
  let(o',es',NT,ho',r',):=hm;rw[ho]at ho';cases ho';exact(_,es',NT,hL,r',)) hok hg
theorem Inv.turned{t':Nat}{it:Addr}(I:Inv X pins σ H s)(k:∀b o,b≠it->s.heap.get? b=!o->h'.get? b=!o)(hn:H it=none)(hL:it≠X.env.locals)
  (h1:it∈X.ex\/X.s₀.heap.objs.size<=it) (h2:∀x c,X.env.cells.lookup x=!c->c≠it) (h3:∀p∈X.pn++pins,p.1≠it):Inv X pins σ H { s with heap:=h',toks:=t' }:=by
 have Qz:∀b u,H b=!u->b≠it:=λb u e z=>by rw[z,hn]at e;cases e
 refine I.step (g':=s.gens) (d':=s.drawn) (ch:=[it]) (λb hb=>?_) (λb o _ _ hc e _=>k b o (λz=>hc (by simp[z])) e) (λb o _ _ hc e _=>(o.slots,k b o (λz=>hc (by simp[z])) e,)) (λ_ _ _ _ n=>n)
  (λb o hc e=>(o,k b o (λz=>hc (by simp[z])) e,)) (λ_ _ e=>e) (λ_ _ _ e=>e) (λ_ _ _ e=>e) (λm hm=>?_) (λb u e=>?_) I.bare
 .have e:b=it:=by simpa using hb
  subst e;exact(h1,hL,h2,h3,)
 .let(o,es,ep,ho,r,):=hm;exact(o,es,ep,k _ o (aBl hL) ho,r,)
 .refine (I.hok b u e).stay (λc v hc q=>k c v ?_ q) (λ_ q=>q) λ_ _ q=>q;rcases hc with z|z
  .rw [z];exact Qz b u e
  .exact Qz c _ z
theorem Inv.tok(I:Inv X pins σ H s)(t:Nat):Inv X pins σ H { s with toks:=t }:=I.un (h':=s.heap) (t':=t) Un.refl I.hok
theorem Inv.kept{t':Nat}(I:Inv X pins σ H s)(k:∀b u,s.heap.get? b=!u->h'.get? b=!u):Inv X pins σ H { s with heap:=h',toks:=t' }:=I.un (Un.kept k) (I.hok.kept k)
theorem Inv.laid{a:Addr}{o:HO}{t':Nat}(I:Inv X pins σ H s)(k:∀b u,s.heap.get? b=!u->h'.get? b=!u)(hp:s.heap.objs.size<=a)(new:aH X.prog X.w (upd H a o) h' a o) :
  Inv X pins σ (upd H a o) { s with heap:=h',toks:=t' }:=I.un (Un.laid k hp (I.hok.fresh hp)) (I.hok.laid k hp new)
theorem Inv.write{x e:Addr}{o:HO}{t':Nat}(I:Inv X pins σ H s)(mu:JR (H x))(he:e=x\/H e=!(.own x))(k:∀b u,b≠e->s.heap.get? b=!u->h'.get? b=!u)(EX:∃u,h'.get? e=!u)
  (new:aH X.prog X.w (upd H x o) h' x o):Inv X pins σ (upd H x o) { s with heap:=h',toks:=t' }:=I.un (Un.write mu he k EX) (I.hok.write mu he k EX new)
theorem Inv.uK{cK:List (Addr×Obj)}(I:Inv X pins σ H s)(h:∀p∈cK,s.heap.get? p.1=!p.2/\H p.1=none/\p.1≠X.env.locals/\p.1∉X.fs/\∀v,p.2.data≠.cell v):Inv X cK σ H s:=
 (I.ok,I.os,I.bare,I.base,I.loc,I.cell,I.free,I.cC,λp hp=>(bdf.mp hp).elim (λz=>I.pin p (a8E _ z)) (h p),I.hok,I.len,)
theorem Pa{N:List Str}(hN:N.Nodup){i j:Nat}{x:Str}(a:N[i]?=!x)(b:N[j]?=!x):i=j:=by
 let(h1,e1,):=au3.mp a;let(h2,e2,):=au3.mp b;exact(getElem_inj hN).mp (e1.trans e2.symm)
theorem UQ{M:Model}{A:Around}{E:Value->Shared->Prop}{i:Nat}{x:Str}{v:V}{u:Value}{Q:Unit->Shared->Prop}(I:Inv X pins σ H s)(hN:X.N.Nodup)(hi:X.N[i]?=!x)(hx:Loc X.env.scope x)(r:RelV v u)
  (h:∀s',Inv X pins (σ.set i (!v)) H s'->(∃a,Heap.SameBut a s.heap s'.heap/\(a=X.env.locals\/X.env.cells.lookup x=!a))->Q () s') (hf:X.fn x=true\/X.env.scope.names.lookup x=!.local:=by first|exact .inl rfl|exact .inr rfl|assumption):wpAny M A (storeName X.env x u) Q E s:=by
 let(m,hn,hl,):=id I.loc;have hcls:(X.env.scope.kind == .class || (X.env.scope.kind == .module && X.env.locals !=X.env.globals))=false:=by rw[I.ok.kind];rfl
 have AG:i<σ.length:=by rw[I.len];exact(au3.mp hi).1
 have uX:=I.uX;have tracked:∀{a:Addr}{h':Heap},(∃o,s.heap.get? a=!o/\H a=none)->Heap.SameBut a s.heap h'->dU X.prog X.w H h':=λ{a h'} ha hs b ob e=>by
  let(_,_,hfree,):=ha;refine(I.hok b ob e).stay (λc w' hc q=>(hs.2 c ?_).trans q) (λ_ q=>q) λ_ _ q=>q;rintro rfl;rcases hc with rfl|hc
  .rw [hfree]at e;cases e
  .rw [hfree]at hc;cases hc
 rcases hx with hk|hk
 .refine wpAny_storeName_local hk hn (λh' hn' hs=>?_) hcls;let(oL,_,_,pN,_,):=id hn;refine h _ (I.ok,I.os,I.bare,(λb o e n hb hx=>?_,λb o e n hb hx=>?_,I.base.free,λb o e hx=>?_,I.base.tups,I.base.eZ,I.base.fk,),(_,hn',λj y v' e1 e2 e3=>?_,),λy c e=>?_,I.free,I.cC,λp hp=>?_,tracked (oL,pN,I.free,) hs,by simpa using I.len,) (_,hs,.inl 8,)
  .exact (hs.2 b (abm (akN (ape e) I.ok.above))).trans (I.base.keep b o e n hb hx)
  .let(sl,e1,):=I.base.slot b o e n hb hx;exact(sl,(hs.2 b (abm (akN (ape e) I.ok.above))).trans e1,)
  .let(o',e1,):=I.base.there b o e hx;exact(o',(hs.2 b (abm (akN (ape e) I.ok.above))).trans e1,)
  .by_cases hj:j=i
   .subst hj;rw[hi]at e1;cases e1;rw[a8U AG]at e2;cases e2;exact(u,r,.inl (hk,5,),)
   .rw [aL4 (aBl hj)]at e2;let(u',r',q,):=hl j y v' e1 e2 e3;refine(u',r',?_,);rcases q with⟨k,e⟩|⟨k,c,e,z⟩
    .refine .inl (k,?_,);have:y≠x:=λe=>hj (Pa hN e1 (e ▸hi));simp[this,e]
    .exact .inr (k,c,e,z.sameBut hs (uX y c e),)
  .let(w',z,):=I.cell y c e;exact(w',z.sameBut hs (uX y c e),)
  .let(e,n,ne,nf,d,):=I.pin p hp;exact((hs.2 p.1 ne).trans e,n,ne,nf,d,)
 .have hfn:X.fn x=true:=by
   rcases hf with z|z
   .exact z
   .rw [z]at hk;cases hk
  let(c,hc,):=I.ok.has x (.inl hk);let(w',z,):=I.cell x c hc;refine wpAny_storeName_cell I.ok.kind hk hc z (λh' hc' hs=>?_);let(oc,hoc,Nu,):=id z;refine h { s with heap:=h' } (I.ok,I.os,I.bare,(λb o e n hb hx=>?_,λb o e n hb hx=>?_,I.base.free,λb o e hx=>?_,I.base.tups,I.base.eZ,I.base.fk,),(m,hn.sameBut hs (aBl (uX x c hc)),λj y v' e1 e2 e3=>?_,),λy c' e=>?_,I.free,I.cC,λp hp=>?_,tracked (oc,hoc,I.cC x c hc,) hs,by simpa using I.len,) (c,hs,.inr hc,)
  .exact (hs.2 b (abm (akN (ape e) (I.ok.E2 x c hfn hc)))).trans (I.base.keep b o e n hb hx)
  .let(sl,e1,):=I.base.slot b o e n hb hx;exact(sl,(hs.2 b (abm (akN (ape e) (I.ok.E2 x c hfn hc)))).trans e1,)
  .let(o',e1,):=I.base.there b o e hx;exact(o',(hs.2 b (abm (akN (ape e) (I.ok.E2 x c hfn hc)))).trans e1,)
  .by_cases hj:j=i
   .subst hj;rw[hi]at e1;cases e1;rw[a8U AG]at e2;cases e2;exact(u,r,.inr (.inl hk,c,hc,hc',),)
   .rw [aL4 (aBl hj)]at e2;let(u',r',q,):=hl j y v' e1 e2 e3;refine(u',r',?_,);rcases q with q|⟨k,c',e,z'⟩
    .exact .inl q
    .refine .inr (k,c',e,z'.sameBut hs ?_,);rintro rfl;exact hj (Pa hN e1 (I.ok.inj _ _ _ e hc ▸hi))
  .by_cases hcc:c'=c
   .subst hcc;exact(_,hc',)
   .let(w2,z2,):=I.cell y c' e;exact(w2,z2.sameBut hs hcc,)
  .let(e,n,ne,nf,d,):=I.pin p hp;refine((hs.2 p.1 ?_).trans e,n,ne,nf,d,);intro q;rw[q,hoc]at e;have q':oc=p.2:=aZC e;exact d w' (by rw[<-q'];exact Nu)
theorem JD{M:Model}{A:Around}{E:Value->Shared->Prop}{i:Nat}{x:Str}{v:V}{u:Value}{Q:Unit->Shared->Prop}(I:Inv X pins σ H s)(hN:X.N.Nodup)(hi:X.N[i]?=!x)(hx:Loc X.env.scope x)(r:RelV v u)
  (h:∀s',Inv X pins (σ.set i (!v)) H s'->Q () s') (hf:X.fn x=true\/X.env.scope.names.lookup x=!.local:=by first|exact .inl rfl|exact .inr rfl|assumption):wpAny M A (storeName X.env x u) Q E s:=
 UQ I hN hi hx r (λs' I' _=>h s' I') hf
theorem Inv.Cu{s':Shared}{ch:List Addr}(I:Inv X pins σ H s)(ho:s'.os=s.os)(u:Un (frs X.stack) ch H H' s.heap s'.heap)(hok:dU X.prog X.w H' s'.heap)(hg:AllBare s'.gens)
  (hch:∀b∈ch,(b∈X.ex\/X.s₀.heap.objs.size<=b)/\b≠X.env.locals/\(∀x c,X.env.cells.lookup x=!c->c≠b)/\∀p∈X.pn++pins,p.1≠b):Inv X pins σ H' s':=by
 let(h',g',d',t',o',):=s';have e:o'=s.os:=ho;subst e;exact I.call (g':=g') (t':=t') (d':=d') u hok hg hch
end
abbrev XK:=Value->Option Addr->Hp->Prop
abbrev St:=List (Option V)
abbrev VK:=V->Hp->Prop
abbrev TE:=St->Hp->VK->Prop
abbrev TT:=St->Hp->(Bool->Hp->Prop)->Prop
abbrev TA:=St->Hp->(List V->Hp->Prop)->Prop
structure Ends where
 nx:St->Hp->Prop
 rt:VK
 bk:St->Hp->Prop:=λ_ _=>False
 ct:St->Hp->Prop:=λ_ _=>False
abbrev TS:=Ends->St->Hp->Prop
def EP(X:Cx)(pins:List (Addr×Obj))(σ:St)(Q:VK)(u:Value)(s':Shared):Prop:=∃v H',Inv X pins σ H' s'/\RelV v u/\Q v H'
def TP(X:Cx)(pins:List (Addr×Obj))(σ:St)(Q:Bool->Hp->Prop)(b:Bool)(s':Shared):Prop:=∃H',Inv X pins σ H' s'/\Q b H'
def AP(X:Cx)(pins:List (Addr×Obj))(σ:St)(Q:List V->Hp->Prop)(us:List Value)(s':Shared):Prop:=∃vs H',Inv X pins σ H' s'/\Vals vs us/\Q vs H'
def SP(X:Cx)(pins:List (Addr×Obj))(D:Ends)(f:Flow)(s':Shared):Prop:=
 match f with
 | .next=>∃ σ' H',Inv X pins σ' H' s'/\D.nx σ' H'
 | .brk=>∃ σ' H',Inv X pins σ' H' s'/\D.bk σ' H'
 | .cont=>∃ σ' H',Inv X pins σ' H' s'/\D.ct σ' H'
 | .ret u=>∃v σ' H',Inv X pins σ' H' s'/\RelV v u/\D.rt v H'
def PE(X:Cx)(e:Expr)(t:TE):Prop:=
 ∀(pins:List (Addr×Obj))(s:Shared)(σ:St)(H:Hp)(Q:VK),Inv X pins σ H s->t σ H Q->wpAny (model X.prog X.w) X.A (eval e X.env) (EP X pins σ Q) X.xe s
def PT(X:Cx)(e:Expr)(t:TT):Prop:=
 ∀(pins:List (Addr×Obj))(s:Shared)(σ:St)(H:Hp)(Q:Bool->Hp->Prop),Inv X pins σ H s->t σ H Q->wpAny (model X.prog X.w) X.A (isTrue e X.env (eval e X.env)) (TP X pins σ Q) X.xe s
def PW(X:Cx)(e:Expr)(t:TT):Prop:=
 ∀(whole:Sem Value)(pins:List (Addr×Obj))(s:Shared)(σ:St)(H:Hp)(Q:Bool->Hp->Prop),Inv X pins σ H s->t σ H Q->wpAny (model X.prog X.w) X.A (isTrue e X.env whole) (TP X pins σ Q) X.xe s
theorem PW.pt{X:Cx}{e:Expr}{t:TT}(h:PW X e t):PT X e t:=h _
def PA(X:Cx)(es:List Expr)(t:TA):Prop:=
 ∀(pos:Pos)(pins:List (Addr×Obj))(s:Shared)(σ:St)(H:Hp)(Q:List V->Hp->Prop),Inv X pins σ H s->t σ H Q->wpAny (model X.prog X.w) X.A (spliced (backTo pos (starEach es X.env))) (AP X pins σ Q) X.xe s
def PS(X:Cx)(st:Stmt)(t:TS):Prop:=
 ∀(pins:List (Addr×Obj))(s:Shared)(σ:St)(H:Hp)(D:Ends),Inv X pins σ H s->t D σ H->wpAny (model X.prog X.w) X.A (exec st X.env) (SP X pins D) X.xe s
def tP(X:Cx)(st:List Stmt)(t:TS):Prop:=
 ∀(pins:List (Addr×Obj))(s:Shared)(σ:St)(H:Hp)(D:Ends),Inv X pins σ H s->t D σ H->wpAny (model X.prog X.w) X.A (execs st X.env) (SP X pins D) X.xe s
theorem bV{α:Type}{t:Sem α}{Q Q':α->Shared->Prop}{M:Model}{A:Around}{E:Value->Shared->Prop}{s:Shared}(h:wpAny M A t Q E s)(hQ:∀a s,Q a s->Q' a s):wpAny M A t Q' E s:=bac h hQ λ_ _ x=>x
theorem fc{t:Sem Value}{Q:VK}{Q':Value ->Shared ->Prop}{M:Model}{A:Around}{E:Value ->Shared ->Prop}{s:Shared}{X:Cx}{pins:List (Addr ×Obj)}{σ:St}(h:wpAny M A t (EP X pins σ Q) E s)(k: ∀v s x H,Inv X pins σ H s ->RelV x v ->Q x H ->Q' v s):wpAny M A t Q' E s:=bac h (λv s z=>by let(x,H,i,r,q,):=z;exact k v s x H i r q) λ_ _ x=>x
theorem tW{t:Sem (List Value)}{Q:List V ->Hp ->Prop}{Q':List Value ->Shared ->Prop}{M:Model}{A:Around}{E:Value ->Shared ->Prop}{s:Shared}{X:Cx}{pins:List (Addr ×Obj)}{σ:St}(h:wpAny M A t (AP X pins σ Q) E s)(k: ∀v s x H,Inv X pins σ H s ->Vals x v ->Q x H ->Q' v s):wpAny M A t Q' E s:=bac h (λv s z=>by let(x,H,i,r,q,):=z;exact k v s x H i r q) λ_ _ x=>x
section
variable{X:Cx}
def Ge(i:Nat):TE:=λσ H Q=>∃v,σ[i]?=!(!v)/\Q v H
def tC(v:V):TE:=λ_ H Q=>Q v H
theorem Zkp{i:Nat}{x:Str}{pos:Pos}(hN:X.N[i]?=!x)(hv:JI X.env.scope x)(hd:(x ==("__debug__":Str))=false:=by decide)(hcd:(x ==("__classdict__":Str))=false:=by decide):PE X (.Name x pos) (Ge i):=by
 intro pins s σ H Q I h;let(v,e,h,):=h;let(m,hn,hl,):=I.loc;let(u,r,l,):=hl i x v hN e hv;have fin:EP X pins σ Q u s:=(v,H,I,r,h,);rcases l with⟨hk,hm⟩|⟨hk,c,hc,hcell⟩
 .exact wpAny_Name (wpAny_loadName_local I.ok.kind hk hn hm fin) hd
 .rcases hk with hk|hk
  .exact wpAny_Name (wpAny_loadName_cell I.ok.kind hk hc hcell fin) hd
  .exact wpAny_Name (wpAny_loadName_free I.ok.kind hk hc hcell fin hcd) hd
theorem Zi{i j pos}:PE X (.Constant (.int i) j pos) (tC (.int i)):=λ_ _ _ H _ I h=>wpAny_Constant_int (.int i,H,I.tok _,(_,8,),h,)
theorem fN{b j pos}:PE X (.Constant (.bool b) j pos) (tC (.bl b)):=λ_ _ _ H _ I h=>Constant_bool (.bl b,H,I,8,h,)
theorem Oh{j pos}:PE X (.Constant .none j pos) (tC .aN):=λ_ _ _ H _ I h=>Constant_none (.aN,H,I,8,h,)
theorem ZN{x j pos}:PE X (.Constant (.str x) j pos) (tC (.str x)):=λ_ _ _ H _ I h=>Calls.Constant_str (.str x,H,I.tok _,(_,8,),h,)
def Gl(X:Cx)(x:Str):Prop:=X.env.kindOf x=!.globalImplicit
theorem Ff{E:Value->Shared->Prop}{pins:List (Addr×Obj)}{s:Shared}{σ:St}{H:Hp}{x:Str}{u:Value}{pos:Pos}{Q:Value->Shared->Prop}(I:Inv X pins σ H s)(hg:Gl X x)(hm:X.mg x=!u)(h:Q u s)
  (hd:(x ==("__debug__":Str))=false:=by decide):wpAny (model X.prog X.w) X.A (eval (.Name x pos) X.env) Q E s:=
 Calls.Name_function_global I.ok.kind hg (Calls.loadGlobal_global (by rw[I.ok.glob];exact I.mod.glob.keeps I.bk) hm h) hd
theorem zE{E:Value->Shared->Prop}{pins:List (Addr×Obj)}{s:Shared}{σ:St}{H:Hp}{x:Str}{u:Value}{pos:Pos}{Q:Value->Shared->Prop}(I:Inv X pins σ H s)(hg:Gl X x)(hm:X.mg x=none)(hv:bootBuiltins x=!u)(h:Q u s)
  (hn:x ≠ "__name__":=by decide) (hd:(x ==("__debug__":Str))=false:=by decide):wpAny (model X.prog X.w) X.A (eval (.Name x pos) X.env) Q E s:=by
 let(mb,h1,h2,):=I.mod.blt;exact Calls.Name_function_global I.ok.kind hg (Calls.loadGlobal_builtin (by rw[I.ok.glob];exact I.mod.glob.keeps I.bk) hm (by rw[I.ok.blt];exact h1.keeps I.bk) ((h2 x hn).trans hv) h) hd
theorem TX{x:Str}{v:V}{u:Value}{pos:Pos}(hg:Gl X x)(hm:X.mg x=!u)(r:RelV v u)(hd:(x ==("__debug__":Str))=false:=by decide):PE X (.Name x pos) (tC v):=
 λ_ _ _ H _ I h=>Ff I hg hm (v,H,I,r,h,) hd
theorem wL{x:Str}{v:V}{u:Value}{pos:Pos}(hg:Gl X x)(hm:X.mg x=none)(hv:bootBuiltins x=!u)(r:RelV v u)(hn:x ≠ "__name__":=by decide)(hd:(x ==("__debug__":Str))=false:=by decide):PE X (.Name x pos) (tC v):=
 λ_ _ _ H _ I h=>zE I hg hm hv (v,H,I,r,h,) hn hd
variable{a b:Expr}{ta tb:TE}{pos:Pos}
def PC(X:Cx)(op:CmpOp)(a b:Expr)(t:TE):Prop:=
 ∀(pins:List (Addr×Obj))(s:Shared)(σ:St)(H:Hp)(Q:VK),Inv X pins σ H s->t σ H Q ->
  wpAny (model X.prog X.w) X.A (eval a X.env) (λv s₁=>wpAny (model X.prog X.w) X.A (eval b X.env) (λu s₂=>wpAny (model X.prog X.w) X.A (compareOp op v u) (EP X pins σ Q) X.xe s₂) X.xe s₁) X.xe s
theorem UL(b:Expr){op:CmpOp}(h:op≠.In)(h2:op≠.NotIn):behindInMarks op b=false:=by
 have e1:(op ==CmpOp.In)=false:=by cases op <;> first|rfl|exact absurd 8 h
 have e2:(op ==CmpOp.NotIn)=false:=by cases op <;> first|rfl|exact absurd 8 h2
 cases b <;> simp[behindInMarks,e1,e2]
def Mg(ta:TE):TE:=λσ H Q=>ta σ H λx H1=>Q (.bl (decide (x=.aN))) H1
def Gi(ta:TE):TE:=λσ H Q=>ta σ H λx H1=>Q (.bl ((not (decide (x=.aN))))) H1
theorem RelV.qN{x:V}{v:Value}(r:RelV x v):(v ==Value.none)=decide (x=.aN):=by
 cases x with
 |aN=>cases r;rfl
 |bl _=>cases r;rfl
 |int _=>let(t,rfl,):=r;rfl
 |str _=>let(t,rfl,):=r;rfl
 |vR _=>let(t,rfl,):=r;rfl
 |AO _=>let(t,rfl,):=r;rfl
 |ref _=>cases r;rfl
 |ty _=>cases r;rfl
theorem Zkq{j pos'}(ha:PE X a ta):PC X .Is a (.Constant .none j pos') (Mg ta):=by
 intro pins s σ H Q I h;refine fc (ha pins s σ H _ I h) λv s1 x H1 I1 r1 q1=>?_;exact Constant_none (is_none_gen (.bl _,H1,I1,by rw[r1.qN];rfl,q1,))
theorem LC{j pos'}(ha:PE X a ta):PC X .IsNot a (.Constant .none j pos') (Gi ta):=by
 intro pins s σ H Q I h;refine fc (ha pins s σ H _ I h) λv s1 x H1 I1 r1 q1=>?_;exact Constant_none (isnot_none_gen (.bl _,H1,I1,by rw[r1.qN];rfl,q1,))
def tB(t:TE):TT:=λσ H Q=>t σ H λx H1=>∃c,x=.bl c/\Q c H1
theorem Og{op:CmpOp}{t:TE}(h:PC X op a b t)(h1:behindInMarks op b=false:=by first|exact UL _ (by decide) (by decide)|rfl):PE X (.Compare a [op] [b] pos) t:=λpins s σ H Q I hw=>wpAny_Compare1 (h pins s σ H Q I hw) h1
theorem Ln{op:CmpOp}{t:TE}(h:PC X op a b t)(h1:behindInMarks op b=false:=by first|exact UL _ (by decide) (by decide)|rfl):PT X (.Compare a [op] [b] pos) (tB t):=by
 intro pins s σ H Q I hw;refine wpAny_isTrue_Compare1 (bV (h pins s σ H _ I hw) λv s1 h1=>bV h1 λu s2 h2=>bV h2 λc s3 (x,H1,I1,r1,q1,)=>?_) h1;let(d,rfl,q,):=q1;cases r1;exact aXA (H1,I1,q,)
theorem ZI{e:Expr}{t:TE}(h:PE X e t)(he:∀whole,isTrue e X.env whole=(do let v <-whole;standAt e.pos;holding [v] (truthy v)):=by intro _;rfl):PT X e (tB t):=by
 intro pins s σ H Q I hw;refine isTrue_plain (fc (h pins s σ H _ I hw) λv s1 x H1 I1 r1 q1=>?_) (he _);let(d,rfl,q,):=q1;cases r1;exact aXA (H1,I1,q,)
variable{tA Kf:TT}{rest:List Expr}
def Ml(t u:TT):TT:=λσ H Q=>t σ H λc H1=>if c=true then u σ H1 Q else Q false H1
def Qd(t u:TT):TT:=λσ H Q=>t σ H λc H1=>if c=true then Q true H1 else u σ H1 Q
def Mc(t:TT):TT:=λσ H Q=>t σ H λc H1=>Q ((not (c))) H1
theorem TV(ha:PT X a tA):PW X (.BoolOp .And [a] pos) tA:=by
 intro wh pins s σ H Q I h;refine isTrue_and (bV (ha pins s σ H Q I h) λc s1 e=>?_);cases c with
 |true=>exact isTrue_and_nil e
 |false=>exact e
theorem Lm(ha:PT X a tA):PW X (.BoolOp .Or [a] pos) tA:=by
 intro wh pins s σ H Q I h;refine isTrue_or (bV (ha pins s σ H Q I h) λc s1 e=>?_);cases c with
 |false=>exact isTrue_or_nil e
 |true=>exact e
theorem S0(ha:PT X a tA)(hb:PW X (.BoolOp .And (b ::rest) pos) Kf):PW X (.BoolOp .And (a ::b ::rest) pos) (Ml tA Kf):=by
 intro wh pins s σ H Q I h;refine isTrue_and (bV (ha pins s σ H _ I h) λc s1 (H1,I1,q1,)=>?_);cases c with
 |true=>exact hb wh pins s1 σ H1 Q I1 q1
 |false=>exact(H1,I1,q1,)
theorem pw_or(ha:PT X a tA)(hb:PW X (.BoolOp .Or (b ::rest) pos) Kf):PW X (.BoolOp .Or (a ::b ::rest) pos) (Qd tA Kf):=by
 intro wh pins s σ H Q I h;refine isTrue_or (bV (ha pins s σ H _ I h) λc s1 (H1,I1,q1,)=>?_);cases c with
 |true=>exact(H1,I1,q1,)
 |false=>exact hb wh pins s1 σ H1 Q I1 q1
theorem AY(ha:PT X a tA):PT X (.UnaryOp .Not a pos) (Mc tA):=by
 intro pins s σ H Q I h;exact isTrue_not (ha pins s σ H (λc H1=>Q ((not (c))) H1) I h)
def Gn(ta tb:TE):TE:=λσ H Q=>ta σ H λx H1=>∃c,x=.bl c/\if c=true then tb σ H1 Q else Q (.bl false) H1
def Mb(ta tb:TE):TE:=λσ H Q=>ta σ H λx H1=>∃c,x=.bl c/\if c=true then Q (.bl true) H1 else tb σ H1 Q
theorem Je{op}{t:TE}(h:PE X a t):PE X (.BoolOp op [a] pos) t:=λpins s σ H Q I hw=>BoolOp_one (h pins s σ H Q I hw)
theorem Jd(ha:PE X a ta)(hb:PE X (.BoolOp .And (b ::rest) pos) tb):PE X (.BoolOp .And (a ::b ::rest) pos) (Gn ta tb):=by
 intro pins s σ H Q I h;refine BoolOp_and (fc (ha pins s σ H _ I h) λv s1 x H1 I1 r1 q1=>?_);let(c,rfl,q1,):=q1;cases r1;refine aXA ?_;cases c with
 |true=>exact hb pins s1 σ H1 Q I1 q1
 |false=>exact(.bl false,H1,I1,8,q1,)
theorem GU(ha:PE X a ta)(hb:PE X (.BoolOp .Or (b ::rest) pos) tb):PE X (.BoolOp .Or (a ::b ::rest) pos) (Mb ta tb):=by
 intro pins s σ H Q I h;refine BoolOp_or (fc (ha pins s σ H _ I h) λv s1 x H1 I1 r1 q1=>?_);let(c,rfl,q1,):=q1;cases r1;refine aXA ?_;cases c with
 |false=>exact hb pins s1 σ H1 Q I1 q1
 |true=>exact(.bl true,H1,I1,8,q1,)
def WT(t:TT)(ta tb:TE):TE:=λσ H Q=>t σ H λc H1=>if c=true then ta σ H1 Q else tb σ H1 Q
theorem Eh{c:Expr}(hc:PT X c tA)(ha:PE X a ta)(hb:PE X b tb):PE X (.IfExp c a b pos) (WT tA ta tb):=by
 intro pins s σ H Q I h;refine wpAny_IfExp (bV (hc pins s σ H _ I h) λd s1 (H1,I1,q1,)=>?_);cases d with
 |true=>exact ha pins s1 σ H1 Q I1 q1
 |false=>exact hb pins s1 σ H1 Q I1 q1
end
def au(K:W.Frag)(H:Hp)(a:Addr)(xs:List V):Prop:=
 Rd H a (.lst xs) \/
  ∃(o:Obj)(its:Array Value)(n:Nat),K.lookup a=!o/\o.cls=.type "list" /\o.dict=none/\o.data=.seq its n/\its.size<=sizeLine/\Vals xs its.toList
def aX(K:W.Frag)(H:Hp)(a:Addr)(xs:List V):Prop:=
 Rd H a (.tup xs) \/
  ∃(o:Obj)(its:Array Value)(n:Nat),K.lookup a=!o/\o.cls=.type "tuple" /\o.data=.seq its n/\its.size<=sizeLine/\Vals xs its.toList
def N7:Value->Option V
 | .none=>!.aN
 | .bool b=>!(.bl b)
 | .int i _=>!(.int i)
 | .str x _=>!(.str x)
 | .bytes b _=>!(.vR b)
 | .float b _=>!(.AO b)
 | .ref a=>!(.ref a)
 | .type n=>!(.ty n)
 |_=>none
theorem RelV.abs{x:V}{u:Value}(r:RelV x u):N7 u=!x:=by
 cases x with
 |aN=>cases r;rfl
 |bl _=>cases r;rfl
 |int _=>let(t,rfl,):=r;rfl
 |str _=>let(t,rfl,):=r;rfl
 |vR _=>let(t,rfl,):=r;rfl
 |AO _=>let(t,rfl,):=r;rfl
 |ref _=>cases r;rfl
 |ty _=>cases r;rfl
theorem RelV.inj{x y:V}{u:Value}(r:RelV x u)(q:RelV y u):x=y:=aZC (r.abs.symm.trans q.abs)
theorem Vals.inj:∀{xs ys:List V}{us:List Value},Vals xs us->Vals ys us->xs=ys
 |_,_,_,.nil,.nil=>rfl
 |_,_,_,.cons r t,.cons r' t'=>by rw[r.inj r',Vals.inj t t']
section
variable{X:Cx}{pins:List (Addr×Obj)}{σ:St}{H:Hp}{s:Shared}{a:Addr}{xs ys:List V}
theorem au.of{K:W.Frag}(h:H a=!(.lst xs)):au K H a xs:=.inl (.inl h)
theorem aX.of{K:W.Frag}(h:H a=!(.tup xs)):aX K H a xs:=.inl (.inl h)
theorem Inv.list(I:Inv X pins σ H s)(h:au X.K H a xs):∃its:List Value,Vals xs its/\PlainL s.heap a its.toArray/\xs.length<=sizeLine:=by
 rcases h with h|⟨o,its,n,hk,hc,hd,hs,hz,r⟩
 .let(z,its,n,r,e,):=h.ok I.hok;exact(its,r,(_,n,e,115,),z,)
 .refine (its.toList,r,(o,n,I.dw a o hk,hc,hd,by simpa using hs,),?_,);have e:=r.length;simp only[aRY]at e;lia
theorem Inv.tuple(I:Inv X pins σ H s)(h:aX X.K H a xs):∃its:List Value,Vals xs its/\IsTup s.heap a its.toArray/\xs.length<=sizeLine:=by
 rcases h with h|⟨o,its,n,hk,hc,hs,hz,r⟩
 .let(z,its,r,p,):=h.ok I.hok;exact(its,r,p,z,)
 .refine (its.toList,r,(o,I.dw a o hk,hc,n,by simpa using hs,),?_,);have e:=r.length;simp only[aRY]at e;lia
theorem Inv.iW(I:Inv X pins σ H s)(h:au X.K H a xs)(h':au X.K H a ys):xs=ys:=by
 let(its,r,(o,n,e,_,_,d,),_,):=I.list h;let(its',r',(o',n',e',_,_,d',),_,):=I.list h';rw[e]at e';cases e';rw[d]at d';injection d' with d1 _
 have:its=its':=by simpa using aFk Array.toList d1
 subst this;exact r.inj r'
theorem Inv.je(I:Inv X pins σ H s)(h:aX X.K H a xs)(h':aX X.K H a ys):xs=ys:=by
 let(its,r,(o,e,_,n,d,),_,):=I.tuple h;let(its',r',(o',e',_,n',d',),_,):=I.tuple h';rw[e]at e';cases e';rw[d]at d';injection d' with d1 _
 have:its=its':=by simpa using aFk Array.toList d1
 subst this;exact r.inj r'
end
abbrev Cx.kL(X:Cx)(E:Value->Shared->Prop):Cx:={ X with xe:=E }
abbrev Cx.uP(X:Cx):Cx:=X.kL λ_ _=>False
theorem Cx.Ok.kL{X:Cx}(ok:X.Ok)(E:Value->Shared->Prop):(X.kL E).Ok:=
 (ok.mod,ok.kind,ok.glob,ok.blt,ok.above,ok.inj,ok.has,ok.E2,ok.hd,ok.frames,ok.stk,ok.ID,ok.bs,ok.yN,ok.vI,ok.vN,ok.gY,ok.zw,)
theorem Cx.Ok.dW{X:Cx}{E:Value->Shared->Prop}(ok:(X.kL E).Ok):X.Ok:=
 (ok.mod,ok.kind,ok.glob,ok.blt,ok.above,ok.inj,ok.has,ok.E2,ok.hd,ok.frames,ok.stk,ok.ID,ok.bs,ok.yN,ok.vI,ok.vN,ok.gY,ok.zw,)
section
variable{X:Cx}{pins:List (Addr×Obj)}{σ:St}{H:Hp}{s:Shared}{E:Value->Shared->Prop}
theorem Inv.kL(I:Inv X pins σ H s)(E:Value->Shared->Prop):Inv (X.kL E) pins σ H s:=(I.ok.kL E,I.os,I.bare,I.base,I.loc,I.cell,I.free,I.cC,I.pin,I.hok,I.len,)
theorem Inv.dW(I:Inv (X.kL E) pins σ H s):Inv X pins σ H s:=(I.ok.dW,I.os,I.bare,I.base,I.loc,I.cell,I.free,I.cC,I.pin,I.hok,I.len,)
theorem SP.dW{D:Ends}{f:Flow}{s':Shared}(h:SP (X.kL E) pins D f s'):SP X pins D f s':=by
 cases f with
 |next=>let(σ',H',I,q,):=h;exact(σ',H',I.dW,q,)
 |brk=>let(σ',H',I,q,):=h;exact(σ',H',I.dW,q,)
 |cont=>let(σ',H',I,q,):=h;exact(σ',H',I.dW,q,)
 |ret u=>let(v,σ',H',I,r,q,):=h;exact(v,σ',H',I.dW,r,q,)
theorem tP.uP{st:List Stmt}{t:TS}(h:tP X.uP st t):tP X st t:=λpins s σ H D I hw=>
 bac (h pins s σ H D (I.kL _) hw) (λ_ _ q=>q.dW) λ_ _ z=>False.elim z
end
section
variable{X:Cx}{st:Stmt}{rest:List Stmt}{t u:TS}{e:Expr}{te:TE}{pos:Pos}
def dB:TS:=λD σ H=>D.nx σ H
def vA(t u:TS):TS:=λD σ H=>t { D with nx:=u D } σ H
theorem Zu:tP X [] dB:=λ_ _ σ H _ I h=>aMM (σ,H,I,h,)
theorem Ze(h1:PS X st t)(h2:tP X rest u):tP X (st ::rest) (vA t u):=by
 intro pins s σ H D I h;refine aIK (bV (h1 pins s σ H { D with nx:=u D } I h) λf s1 q=>?_);cases f with
 |next=>
  let(σ',H',I',q,):=q;exact h2 pins s1 σ' H' D I' q
 |ret v=>exact q
 |brk=>exact q
 |cont=>exact q
theorem Zg(h1:PS X st t):tP X [st] t:=by
 intro pins s σ H D I h;refine aIK (bV (h1 pins s σ H D I h) λf s1 q=>?_);cases f with
 |next=>exact aMM q
 |ret v=>exact q
 |brk=>exact q
 |cont=>exact q
theorem Inv.quiet{pins:List (Addr×Obj)}{σ:St}{H:Hp}{s:Shared}(I:Inv X pins σ H s):interactive X.env=false:=by simp[interactive,I.ok.kind]
def Bw(te:TE):TS:=λD σ H=>te σ H λ_ H1=>D.nx σ H1
theorem Zn(he:PE X e te)(hs:swapsWith e none pos.line X.env=pure false:=by rfl):PS X (.Expr e pos) (Bw te):=by
 intro pins s σ H D I h;exact wpAny_Expr_any (fc (he pins s σ H _ I h) λv s1 x H1 I1 r1 q1=>(σ,H1,I1,q1,)) I.quiet hs
def Gg(te:TE):TS:=λD σ H=>te σ H D.rt
theorem Zs(he:PE X e te):PS X (.Return (!e) pos) (Gg te):=by
 intro pins s σ H D I h;exact wpAny_Return_some (fc (he pins s σ H _ I h) λv s1 x H1 I1 r1 q1=>(x,σ,H1,I1,r1,q1,))
def Gf:TS:=λD _ H=>D.rt .aN H
theorem TU:PS X (.Return none pos) Gf:=λ_ _ σ H _ I h=>wpAny_Return_none (.aN,σ,H,I,8,h,)
def C3(c:TT)(t u:TS):TS:=λD σ H=>c σ H λb H1=>if b=true then t D σ H1 else u D σ H1
theorem aF{c:Expr}{a b:List Stmt}{tc:TT}(hc:PT X c tc)(ha:tP X a t)(hb:tP X b u):PS X (.If c a b pos) (C3 tc t u):=by
 intro pins s σ H D I h;refine wpAny_If (bV (hc pins s σ H _ I h) λd s1 (H1,I1,q1,)=>?_);cases d with
 |true=>exact ha pins s1 σ H1 D I1 q1
 |false=>exact hb pins s1 σ H1 D I1 q1
end
abbrev TG:=V->St->Hp->(St->Hp->Prop)->Prop
abbrev CJ:=List V->St->Hp->(St->Hp->Prop)->Prop
def PG(X:Cx)(target:Expr)(t:TG):Prop:=
 ∀(pins:List (Addr×Obj))(s:Shared)(σ:St)(H:Hp)(v:V)(u:Value)(Q:St->Hp->Prop),Inv X pins σ H s->RelV v u->t v σ H Q ->
  wpAny (model X.prog X.w) X.A (assign target X.env u) (λ_ s'=>∃ σ' H',Inv X pins σ' H' s'/\Q σ' H') X.xe s
def JN(X:Cx)(ts:List Expr)(t:CJ):Prop:=
 ∀(pins:List (Addr×Obj))(s:Shared)(σ:St)(H:Hp)(vs:List V)(us:List Value)(Q:St->Hp->Prop),Inv X pins σ H s->Vals vs us->t vs σ H Q ->
  wpAny (model X.prog X.w) X.A (assignInOrder ((assignEach ts X.env).map (·.2)) us) (λ_ s'=>∃ σ' H',Inv X pins σ' H' s'/\Q σ' H') X.xe s
abbrev Ej:=V->V->V->Hp->(Hp->Prop)->Prop
def JM(X:Cx)(t:Ej):Prop:=
 ∀(pins:List (Addr×Obj))(s:Shared)(σ:St)(H:Hp)(o i v:V)(ov iv u:Value)(Q:Hp->Prop),Inv X pins σ H s->RelV o ov->RelV i iv->RelV v u->t o i v H Q ->
  wpAny (model X.prog X.w) X.A (setItem ov iv u) (λ_ s'=>∃H',Inv X pins σ H' s'/\Q H') X.xe s
section
variable{X:Cx}{pos:Pos}
def fT(i:Nat):TG:=λv σ H Q=>Q (σ.set i (!v)) H
theorem Zjm{i:Nat}{x:Str}(hN:X.N.Nodup)(hi:X.N[i]?=!x)(hx:Loc X.env.scope x)(hf:X.fn x=true\/X.env.scope.names.lookup x=!.local:=by first|exact .inl rfl|exact .inr rfl|assumption):PG X (.Name x pos) (fT i):=by
 intro pins s σ H v u Q I r h;exact wpAny_assign_Name (JD I hN hi hx r (λs' I'=>(_,H,I',h,)) hf)
def NN:CJ:=λvs σ H Q=>vs=[]/\Q σ H
def Iz(t:TG)(u:CJ):CJ:=λvs σ H Q=>∃v r,vs=v ::r/\t v σ H λσ' H'=>u r σ' H' Q
theorem ZF:JN X [] NN:=by
 intro pins s σ H vs us Q I r h;let(e,h,):=h;subst e;cases r;exact assignInOrder_nil (σ,H,I,h,)
theorem Zo{e:Expr}{es:List Expr}{t:TG}{u:CJ}(h1:PG X e t)(h2:JN X es u)
  (hs:(assignEach (e ::es) X.env).map (·.2)=assign e X.env ::(assignEach es X.env).map (·.2):=by rfl):JN X (e ::es) (Iz t u):=by
 intro pins s σ H vs us Q I r h;let(v,vr,e1,h,):=h;subst e1;cases r with
 |cons r rr=>
  rw[hs];refine assignInOrder_cons (bV (h1 pins s σ H _ _ _ I r h) λ_ s1 (σ1,H1,I1,q1,)=>?_);exact h2 pins s1 σ1 H1 _ _ Q I1 rr q1
def Iw(K:W.Frag)(n:Nat)(t:CJ):TG:=λv σ H Q=>∃a xs,v=.ref a/\aX K H a xs/\xs.length=n/\t xs σ H Q
theorem Zkr{es:List Expr}{k:Nat}{t:CJ}{n:Nat}(hc:X.calm=true)(h:JN X es t)
  (hn:(assignEach es X.env).length=n:=by rfl) (hst:(assignEach es X.env).findIdx? (·.1)=none:=by rfl):PG X (.Tuple es k pos) (Iw X.K n t):=by
 intro pins s σ H v u Q I r hw;let(a,xs,e1,hq,hl,hw,):=hw;subst e1;cases r;let(its,rv,ht,hz,):=I.tuple hq;refine assign_Tuple_tuple (I.ok.hd hc) ht (by simp[hn,<-hl,rv.length]) hst λh' hx=>?_;have I1:Inv X pins σ H { s with heap:=h' }:=I.kept (t':=s.toks) λb o e=>hx b o (abm (ape e)) e;exact h pins _ σ H xs _ Q I1 (by simpa using rv) hw
def NL(to ti:TE)(t:Ej):TG:=λv σ H Q=>to σ H λo H1=>ti σ H1 λi H2=>t o i v H2 λH3=>Q σ H3
theorem Ef{o i:Expr}{to ti:TE}{t:Ej}(ho:PE X o to)(hi:PE X i ti)(hs:JM X t)
  (ha:∀v,assign (.Subscript o i pos) X.env v=(do
   let ov <-holding [v] (eval o X.env)
   let iv <-holding [v,ov] (eval i X.env)
   standAt pos
   holding [v,ov,iv] (setItem ov iv v)
   release [v,ov,iv] []):=by intro _;rfl):PG X (.Subscript o i pos) (NL to ti t):=by
 intro pins s σ H v u Q I r h;rw[ha];refine ay1 (aXr (fc (ho pins s σ H _ I h) λov s1 x H1 I1 r1 q1=>?_));refine ay1 (aXr (fc (hi pins s1 σ H1 _ I1 q1) λiv s2 y H2 I2 r2 q2=>?_));refine ay1 (aqc (ay1 (aXr (bV (hs pins s2 σ H2 x y v ov iv u _ I2 r1 r2 r q2) λ_ s3 (H3,I3,q3,)=>?_))));exact wpAny_release (σ,H3,I3,q3,)
def vB(te:TE)(g:TG):TS:=λD σ H=>te σ H λx H1=>g x σ H1 D.nx
theorem tK{tg e:Expr}{te:TE}{g:TG}(he:PE X e te)(hg:PG X tg g)(hs:swapsWithSole [tg] e pos.line X.env=pure false:=by rfl)(hw:swappedStores [tg] e X.env=pure none:=by rfl)
  (h1:(assignEach [tg] X.env).map (·.2)=[assign tg X.env]:=by rfl):PS X (.Assign [tg] e pos) (vB te g):=by
 intro pins s σ H D I h;refine wpAny_Assign_stores (fc (he pins s σ H _ I h) λv s1 x H1 I1 r1 q1=>?_) hs hw;rw[h1];exact bV (hg pins s1 σ H1 x v _ I1 r1 q1) λ_ s2 q=>q
theorem Zks{i:Nat}{x:Str}{e:Expr}{te:TE}{pos':Pos}(hN:X.N.Nodup)(hi:X.N[i]?=!x)(hx:Loc X.env.scope x)(he:PE X e te)(hs:swapsWith e (!(.Name x pos')) pos.line X.env=pure false:=by rfl)(hf:X.fn x=true\/X.env.scope.names.lookup x=!.local:=by first|exact .inl rfl|exact .inr rfl|assumption) :
  PS X (.Assign [.Name x pos'] e pos) (vB te (fT i)):=by
 intro pins s σ H D I h;refine wpAny_Assign_Name (fc (he pins s σ H _ I h) λv s1 y H1 I1 r1 q1=>?_) hs;exact JD I1 hN hi hx r1 (λs2 I2=>(_,H1,I2,q1,)) hf
def Ma(i j:Nat)(ta:TA):TS:=λD σ H=>ta σ H λvs H1=>∃v w,vs=[v,w]/\D.nx ((σ.set i (!v)).set j (!w)) H1
theorem Of{i j:Nat}{x y:Str}{a b:Expr}{ta:TA}{px py pt:Pos}{kt k2 My}(hc:X.calm=true)(hN:X.N.Nodup)(hi:X.N[i]?=!x)(hj:X.N[j]?=!y)(hij:i≠j)
  (hx:X.env.scope.names.lookup x=!.local) (hy:X.env.scope.names.lookup y=!.local) (ha:PA X [a,b] ta)
  (hw:swappedStores [.Tuple [.Name x px,.Name y py] kt pt] (.Tuple [a,b] k2 My) X.env=pure (![x,y]))
  (hs:swapsWithSole [.Tuple [.Name x px,.Name y py] kt pt] (.Tuple [a,b] k2 My) pos.line X.env=pure false:=by rfl) :
  PS X (.Assign [.Tuple [.Name x px,.Name y py] kt pt] (.Tuple [a,b] k2 My) pos) (Ma i j ta):=by
 intro pins s σ H D I h;rw[exec_Assign_arm];refine ay1 (aqc ?_);rw[hs];refine ay1 (aO7 ?_);rw[aWd 9];refine ay1 (Tuple_ (tW (ha _ pins s σ H _ I h) λus s1 vs H1 I1 r1 q1=>?_));let(v,w,e1,q1,):=q1;subst e1;obtain⟨u1,u2,rfl,rv,rw'⟩:∃u1 u2,us=[u1,u2]/\RelV v u1/\RelV w u2:=by
  cases r1 with
  |cons p q=>
   cases q with
   |cons p' q'=>
    cases q';exact(109,p,p',)
 refine a3B ?_ (by show 2<=sizeLine;decide);have I2:Inv X pins σ H1 { s1 with heap:=s1.heap.push { cls:=.type "tuple",data:=.seq [u1,u2].toArray } }:=I1.kept (t':=s1.toks) λb o e=>a47 _ e;rw[hw];refine ay1 (aO7 ?_);show wpAny (model X.prog X.w) X.A (do rule "assign.swapped-stores";let items <-unpackItems (.ref s1.heap.objs.size) 2 none;assignInOrder [λv=>bindName X.env y v,λv=>bindName X.env x v] items.reverse;pure Flow.next) _ _ _;refine ay1 (atV (ay1 (unpackItems_tuple (items:=#[u1,u2]) (I.ok.hd hc) (IsTup.new s1.heap _) λh' hx'=>?_)));have I3:=I2.kept (h':=h') (t':=s1.toks) λb o e=>hx' b o (abm (ape e)) e;show wpAny _ _ (assignInOrder [λv=>bindName X.env y v,λv=>bindName X.env x v] [u2,u1] >>= λ_=>pure Flow.next) _ _ _;refine ay1 (assignInOrder_cons (wpAny_bindName (JD I3 hN hj (.inl hy) rw' (λs2 I4=>?_) (.inr hy))));refine assignInOrder_cons (wpAny_bindName (JD I4 hN hi (.inl hx) rv (λs3 I5=>assignInOrder_nil (aO7 ?_)) (.inr hx)));rw[List.set_comm _ _ (aBl hij)]at I5;exact(_,H1,I5,q1,)
end
structure It where
 go:Nat->Hp->Prop
 rY:Nat->Hp->V->Hp->Prop
 stop:Nat->Hp->Prop
def kE(X:Cx)(pins:List (Addr×Obj))(H:Hp)(b:Addr):Prop:=
 H b=none/\b≠X.env.locals/\b∉X.fs/\(b∈X.ex\/X.s₀.heap.objs.size<=b)/\(∀x c,X.env.cells.lookup x=!c->c≠b)/\∀p∈X.pn++pins,p.1≠b
theorem Inv.tG{X:Cx}{pins:List (Addr×Obj)}{σ:St}{H H':Hp}{s:Shared}{b:Addr}(I:Inv X pins σ H s)(hb:s.heap.objs.size<=b)(hn:H' b=none):kE X pins H' b:=by
 refine(hn,aJ4 (akN I.lt hb),I.Hq hb,.inr (atw I.sz hb),λx c e z=>?_,λp hp z=>?_,)
 .let(v,q,):=I.cell x c e;exact absurd (akN q.lt (by rw[z];exact hb)) (aUJ _)
 .exact absurd (akN (ape (I.pin p hp).1) (by rw[z];exact hb)) (aUJ _)
structure Turn(P:Program)(w:World)(K:W.Frag)(tg:Expr)(J:It)(fp:List Addr)(it:Addr)(tn:Nat->Heap->Prop):Prop where
 mem:it∈fp
 obj:∀i h,tn i h->∀b∈fp,∃o,h.get? b=!o/\∀v,o.data≠.cell v
 keep:∀i h h',tn i h->(∀b∈fp,∀o,h.get? b=!o->h'.get? b=!o)->tn i h'
 item:∀(X:Cx),X.prog=P->X.w=w->X.K=K->X.calm=true->∀(i:Nat)(pins:List (Addr×Obj))(s:Shared)(σ:St)(H:Hp)(E:Value->Shared->Prop),Inv X pins σ H s->(∀b∈fp,kE X pins H b)->tn i s.heap->J.go i H ->
  wpAny (model P w) X.A (pyNext (.ref it)) (λr s1=>∃u,r=!u /\
   wpAny (model P w) X.A (letOwnedTupleGo tg (.ref it) u) (λ_ s2=>∃x H',Inv X pins σ H' s2/\RelV x u/\J.rY i H x H'/\tn (i+1) s2.heap/\∀b∈fp,H' b=none) E s1) E s
 done:∀(X:Cx),X.prog=P->X.w=w->X.K=K->X.calm=true->∀(i:Nat)(pins:List (Addr×Obj))(s:Shared)(σ:St)(H:Hp)(E:Value->Shared->Prop),Inv X pins σ H s->(∀b∈fp,kE X pins H b)->tn i s.heap->J.stop i H ->
  wpAny (model P w) X.A (pyNext (.ref it)) (λr s1=>r=none/\Inv X pins σ H s1) E s
 self:∀(A:Around)(i:Nat)(s:Shared)(Q:Value->Shared->Prop)(E:Value->Shared->Prop),tn i s.heap->Q (.ref it) s->wpAny (model P w) A (pyIter (.ref it)) Q E s
abbrev TI:=St->Hp->(It->Hp->Prop)->Prop
def Vo(X:Cx)(pins:List (Addr×Obj))(σ:St)(tg:Expr)(R:It->Hp->Prop)(itv:Value)(s2:Shared):Prop:=
 ∃(it:Addr)(fp:List Addr)(tn:Nat->Heap->Prop)(J:It)(H':Hp),itv=.ref it/\Inv X pins σ H' s2/\Turn X.prog X.w X.K tg J fp it tn/\tn 0 s2.heap/\(∀b∈fp,kE X pins H' b)/\R J H'
def PI(X:Cx)(tg iter:Expr)(wi:TI):Prop:=
 ∀(pins:List (Addr×Obj))(s:Shared)(σ:St)(H:Hp)(R:It->Hp->Prop),Inv X pins σ H s->wi σ H R ->
  wpAny (model X.prog X.w) X.A (eval iter X.env) (λv s1=>wpAny (model X.prog X.w) X.A (pyIter v) (Vo X pins σ tg R) X.xe s1) X.xe s
theorem yG{M:Model}{A:Around}{E:Value->Shared->Prop}{s:Shared}{tg:Expr}{it:Addr}{u:Value}{o:Obj}{n:String}{vs:Array Value}{Q:Unit->Shared->Prop}(ho:s.heap.get? it=!o)(hc:o.cls=.type n)(hd:o.data=.fields vs)
  (hn:["enumerate","zip","dict_itemiterator","dict_reverseitemiterator","odict_iterator","itertools.zip_longest","itertools.pairwise"].contains n=false) (hQ:Q () s):wpAny M A (letOwnedTupleGo tg (.ref it) u) Q E s:=by
 unfold letOwnedTupleGo;cases tg <;> first
  |exact aO7 hQ
  | (cases u <;> first
    |exact aO7 hQ
    | (refine ay1 (wpAny_load ho ?_)
       rw[hc,hd];show wpAny M A (if(["enumerate","zip","dict_itemiterator","dict_reverseitemiterator","odict_iterator","itertools.zip_longest","itertools.pairwise"].contains n && vs[0]? ==!(rawInt _))=true then _ else _) Q E s;rw[aWd (by intro h;rw[hn,Bool.false_and]at h;cases h)];exact aO7 hQ))
def CU(K:W.Frag)(a:Addr):It:=
 (λi H=>∃xs x,au K H a xs/\xs[i]?=!x,λi H x H'=>H'=H/\∀xs,au K H a xs->xs[i]?=!x,λi H=>∃xs,au K H a xs/\xs.length<=i,)
def CT(K:W.Frag)(a:Addr):It:=
 (λi H=>∃xs x,aX K H a xs/\xs[i]?=!x,λi H x H'=>H'=H/\∀xs,aX K H a xs->xs[i]?=!x,λi H=>∃xs,aX K H a xs/\xs.length<=i,)
def Bh(lo:Int)(n:Nat):It:=(λi _=>i<n,λi H x H'=>H'=H/\x=.int (lo+i),λi _=>n<=i,)
theorem Zgh{P:Program}{w:World}{K:W.Frag}{tg:Expr}(a it:Addr):Turn P w K tg (CU K a) [it] it (λi h=>h.IsListIter it a i) where
 mem:=5
 obj:=λi h st b hb=>by
  have e:b=it:=by simpa using hb
  subst e;let(o,e,c,d,):=st;exact⟨o,e,λv z=>by rw[d]at z;cases z⟩
 keep:=λi h h' st k=>st.at λo e=>k it 5 o e
 item:=by
  intro X hP hw hK hc i pins s σ H E I hf st hg;subst hP hw hK;let(xs,x,hq,hx,):=hg;let(its,rv,p,hz,):=I.list hq;let(u,hu,ru,):=rv.get hx;let(f0,f1,f2,f3,f4,f5,):=hf it 5;refine wpAny_pyNext_list_item st p.isList (x:=u) (by simpa using hu) λh' st' sb=>?_;have I1:Inv X pins σ H { s with heap:=h' }:=I.turned (t':=s.toks) (λb o hb e=>(sb.2 b hb).trans e) f0 f1 f3 f4 f5;let(o,e,c,d,):=id st';exact(u,8,yG (s:={ s with heap:=h' }) e c d 9 (x,H,I1,ru,(8,λys hy=>by rw[I.iW hy hq];exact hx,),st',λb hb=>(hf b hb).1,),)
 done:=by
  intro X hP hw hK hc i pins s σ H E I hf st hg;subst hP hw hK;let(xs,hq,hx,):=hg;let(its,rv,p,hz,):=I.list hq;let(f0,f1,f2,f3,f4,f5,):=hf it 5;have hl:=rv.length;exact wpAny_pyNext_list_end (I.ok.hd hc) st p.isList (by simp;lia) λh' eb=>(8,I.turned (t':=s.toks) (λb o hb e=>eb b o hb e) f0 f1 f3 f4 f5,)
 self:=λ_ _ _ _ _ st h=>wpAny_pyIter_listiter st h
theorem Zfy{P:Program}{w:World}{K:W.Frag}{tg:Expr}(a it:Addr):Turn P w K tg (CT K a) [it] it (λi h=>h.IsTupleIter it a i) where
 mem:=5
 obj:=λi h st b hb=>by
  have e:b=it:=by simpa using hb
  subst e;let(o,e,c,d,):=st;exact⟨o,e,λv z=>by rw[d]at z;cases z⟩
 keep:=λi h h' st k=>st.at λo e=>k it 5 o e
 item:=by
  intro X hP hw hK hc i pins s σ H E I hf st hg;subst hP hw hK;let(xs,x,hq,hx,):=hg;let(its,rv,p,hz,):=I.tuple hq;let(u,hu,ru,):=rv.get hx;let(f0,f1,f2,f3,f4,f5,):=hf it 5;refine wpAny_pyNext_tuple_item st (show s.heap.IsTuple a its.toArray from p) (x:=u) (by simpa using hu) λh' st' sb=>?_;have I1:Inv X pins σ H { s with heap:=h' }:=I.turned (t':=s.toks) (λb o hb e=>(sb.2 b hb).trans e) f0 f1 f3 f4 f5;let(o,e,c,d,):=id st';exact(u,8,yG (s:={ s with heap:=h' }) e c d 9 (x,H,I1,ru,(8,λys hy=>by rw[I.je hy hq];exact hx,),st',λb hb=>(hf b hb).1,),)
 done:=by
  intro X hP hw hK hc i pins s σ H E I hf st hg;subst hP hw hK;let(xs,hq,hx,):=hg;let(its,rv,p,hz,):=I.tuple hq;let(f0,f1,f2,f3,f4,f5,):=hf it 5;have hl:=rv.length;exact wpAny_pyNext_tuple_end (I.ok.hd hc) st (show s.heap.IsTuple a its.toArray from p) (by simp;lia) λh' eb=>(8,I.turned (t':=s.toks) (λb o hb e=>eb b o hb e) f0 f1 f3 f4 f5,)
 self:=λ_ _ _ _ _ st h=>wpAny_pyIter_tupleiter st h
theorem Zfz{P:Program}{w:World}{K:W.Frag}{tg:Expr}(it:Addr)(lo:Int)(n:Nat):Turn P w K tg (Bh lo n) [it] it (λi h=>IsRangeIter h it (lo+(i:Nat)*1) ((n:Int)-(i:Nat)) 1) where
 mem:=5
 obj:=λi h st b hb=>by
  have e:b=it:=by simpa using hb
  subst e;exact⟨_,st,λv z=>by
   have z':Data.fields _=Data.cell v:=z;cases z'⟩
 keep:=λi h h' st k=>k it 5 _ st
 item:=by
  intro X hP hw hK hc i pins s σ H E I hf st hg;subst hP hw hK;let(f0,f1,f2,f3,f4,f5,):=hf it 5;have W:=Walks.range (prog:=X.prog) (w:=X.w) (I.ok.hd hc) it lo 1 n;refine W.item i s _ _ hg st λv h' tk hv st' kk=>?_;let(t,rfl,):=hv;have I1:Inv X pins σ H { s with heap:=h',toks:=tk }:=I.turned (λb o hb e=>kk b o (by simpa using hb) e) f0 f1 f3 f4 f5;refine(_,8,yG (s:={ s with heap:=h',toks:=tk }) (n:="range_iterator") st' 8 8 9 (.int (lo+i),H,I1,(t,?_,),(8,8,),st',λb hb=>(hf b hb).1,),);rw[Int.mul_one]
 done:=by
  intro X hP hw hK hc i pins s σ H E I hf st hg;subst hP hw hK;let(f0,f1,f2,f3,f4,f5,):=hf it 5;exact wpAny_pyNext_range_end (I.ok.hd hc) st (by have:n<=i:=hg;lia) λh' eb=>(8,I.turned (t':=s.toks) (λb o hb e=>eb b o hb e) f0 f1 f3 f4 f5,)
 self:=λ_ _ _ _ _ st h=>wpAny_pyIter_rangeiter st h
section
variable{X:Cx}{tg:Expr}
def Ci(K:W.Frag)(tl:TE):TI:=λσ H R=>tl σ H λx H1=>∃a,x=.ref a/\(∃xs,au K H1 a xs)/\R (CU K a) H1
def Ie(K:W.Frag)(tl:TE):TI:=λσ H R=>tl σ H λx H1=>∃a,x=.ref a/\(∃xs,aX K H1 a xs)/\R (CT K a) H1
theorem Zjn{l:Expr}{tl:TE}(hl:PE X l tl):PI X tg l (Ci X.K tl):=by
 intro pins s σ H R I h;refine fc (hl pins s σ H _ I h) λv s1 x H1 I1 r1 q1=>?_;let(a,e,(xs,hq,),q,):=q1;subst e;cases r1;let(its,rv,p,hz,):=I1.list hq;refine wpAny_pyIter_list p.isList ?_;refine(s1.heap.objs.size,[s1.heap.objs.size],_,_,H1,8,I1.kept (t':=s1.toks) λb o e=>a47 _ e,Zgh a _,(_,a1M _ 8,8,8,),λb hb=>?_,q,);have e:b=s1.heap.objs.size:=by simpa using hb
 subst e;exact I1.tG (amA _) (I1.hok.fresh (amA _))
theorem Zkt{l:Expr}{tl:TE}(hl:PE X l tl):PI X tg l (Ie X.K tl):=by
 intro pins s σ H R I h;refine fc (hl pins s σ H _ I h) λv s1 x H1 I1 r1 q1=>?_;let(a,e,(xs,hq,),q,):=q1;subst e;cases r1;let(its,rv,p,hz,):=I1.tuple hq;refine wpAny_pyIter_tuple (show s1.heap.IsTuple a its.toArray from p) ?_;refine(s1.heap.objs.size,[s1.heap.objs.size],_,_,H1,8,I1.kept (t':=s1.toks) λb o e=>a47 _ e,Zfy a _,(_,a1M _ 8,8,8,),λb hb=>?_,q,);have e:b=s1.heap.objs.size:=by simpa using hb
 subst e;exact I1.tG (amA _) (I1.hok.fresh (amA _))
theorem ZhR{pins:List (Addr×Obj)}{σ:St}{H:Hp}{s:Shared}{R:It->Hp->Prop}{E:Value->Shared->Prop}{lo hi:Int}{t u v:Tok}{tk:Nat}(I:Inv X pins σ H s)(h1: -(2 ^ 62)<=lo)(h2:lo<2 ^ 62)(h3: -(2 ^ 62)<=hi)(h4:hi<2 ^ 62)
  (q:R (Bh lo (hi-lo).toNat) H):wpAny (model X.prog X.w) X.A (pyIter (.ref s.heap.objs.size)) (Vo X pins σ tg R) E { s with heap:=s.heap.push { cls:=.type "range",data:=.fields #[.int lo t,.int hi u,.int 1 v] },toks:=tk }:=by
 refine wpAny_pyIter_range (IsRange.new ..) (small_one h1 h2 h3 h4) ?_;have I1:Inv X pins σ H { s with heap:=s.heap.push { cls:=.type "range",data:=.fields #[.int lo t,.int hi u,.int 1 v] },toks:=tk }:=I.kept λb o e=>a47 _ e;refine((s.heap.push { cls:=.type "range",data:=.fields #[.int lo t,.int hi u,.int 1 v] }).objs.size,[(s.heap.push { cls:=.type "range",data:=.fields #[.int lo t,.int hi u,.int 1 v] }).objs.size],_,_,H,8,
  I1.kept (t':=tk) λb o e=>a47 _ e,Zfz _ lo (hi-lo).toNat,?_,λb hb=>?_,q,)
 .have e1:lo+((0:Nat):Int)*1=lo:=5
  have e2:(((hi-lo).toNat:Nat):Int)-((0:Nat):Int)=Builtin.Range.rangeSize lo hi 1:=by rw[rangeSize_one];split <;> lia
  show IsRangeIter _ _ (lo+((0:Nat):Int)*1) ((((hi-lo).toNat:Nat):Int)-((0:Nat):Int)) 1;rw[e1,e2];exact a1M _ 8
 .have e:b=(s.heap.push { cls:=.type "range",data:=.fields #[.int lo t,.int hi u,.int 1 v] }).objs.size:=by simpa using hb
  subst e;exact I1.tG (amA _) (I1.hok.fresh (amA _))
def Ig(ta:TA):TI:=λσ H R=>ta σ H λvs H1=>∃j:Int,vs=[.int j] /\ -(2 ^ 62)<=j/\j<2 ^ 62/\R (Bh 0 j.toNat) H1
theorem ZO{a:Expr}{ta:TA}{p pos:Pos}(hg:Gl X "range")(hm:X.mg "range"=none)(ha:PA X [a] ta)(hs:starEach [a] X.env=[(false,eval a X.env)]:=by rfl):PI X tg (.Call (.Name "range" p) [a] [] pos) (Ig ta):=by
 intro pins s σ H R I h;refine Call_ (zE I hg hm boot_range (aMm (tW (ha pos pins s σ H _ I h) λus s1 vs H1 I1 r1 q1=>?_) hs 8));let(j,e,q1,q2,q,):=q1;subst e;cases r1 with
 |cons r rr=>
  cases rr;let(t,rfl,):=r;exact call_range_1 (ZhR I1 7 7 q1 q2 (by simpa using q))
def Mh(wi:TI)(g:TG)(tb:TS):TS:=λD σ H=>wi σ H λJ H1=>∃W:Nat->Nat->St->Hp->Prop,(∃m,W 0 m σ H1)/\∀i m σ H,W i m σ H ->
 (J.stop i H/\D.nx σ H)\/(J.go i H/\∃N:St->Hp->Prop,(∀ σ' H',N σ' H'->∃m',m'<m/\W (i+1) m' σ' H')/\∀x H',J.rY i H x H'->g x σ H' λσ2 H2=>tb { D with nx:=N,ct:=N,bk:=D.nx } σ2 H2)
def Jc(fp:List Addr)(h:Heap):List (Addr×Obj):=fp.filterMap λb=>(h.get? b).map λo=>(b,o)
theorem LV{fp:List Addr}{h:Heap}{b:Addr}{o:Obj}(hb:b∈fp)(e:h.get? b=!o):(b,o)∈Jc fp h:=ano.mpr (b,hb,by rw[e];rfl,)
theorem Zgi{fp:List Addr}{h:Heap}{p:Addr×Obj}(hp:p∈Jc fp h):p.1∈fp/\h.get? p.1=!p.2:=by
 let(b,hb,e,):=ano.mp hp;cases q:h.get? b with
 |none=>rw[q]at e;cases e
 |some o=>
  rw[q]at e;have e':(b,o)=p:=aZC e;subst e';exact(hb,q,)
theorem Inv.pinned{pins:List (Addr×Obj)}{σ:St}{H:Hp}{s:Shared}{fp:List Addr}(I:Inv X pins σ H s)(hf:∀b∈fp,kE X pins H b)(ho:∀b∈fp,∃o,s.heap.get? b=!o/\∀v,o.data≠.cell v):Inv X (pins++Jc fp s.heap) σ H s:=
 I.uK λp hp=>(bdf.mp hp).elim (λz=>I.pin p (a2D _ z)) λz=>by
  let(hb,e,):=Zgi z;let(f0,f1,f2,_,):=hf p.1 hb;let(o,e',d,):=ho p.1 hb;rw[e]at e';cases e';exact(e,f0,f1,f2,d,)
theorem Inv.iw{pins pl:List (Addr×Obj)}{σ:St}{H:Hp}{s:Shared}(I:Inv X (pins++pl) σ H s):Inv X pins σ H s:=I.uK λp hp=>I.pin p (a2D _ (a8E _ hp))
theorem vd{iter:Expr}{body:List Stmt}{wi:TI}{g:TG}{tb:TS}{pos:Pos}(hp:PassesOwn (model X.prog X.w) X.A X.env X.xe)(hc:X.calm=true)(hi:PI X tg iter wi)(hg:PG X tg g)(hb:tP X body tb)
  (hs:∀x,foldedSetIterable iter X.env x=pure x:=by intro _;rfl):PS X (.For tg iter body [] pos) (Mh wi g tb):=by
 intro pins s σ H D I h;refine wpAny_For (bV (hi pins s σ H _ I h) λv s1 h1=>bV h1 λitv s2 h2=>?_) hs;let(it,fp,tn,J,H2,e,I2,T,st2,f2,W,(m0,w0,),turn,):=h2;subst e;have sd:∀{H':Hp},(∀b∈fp,H' b=none)->∀b∈fp,kE X pins H' b:=λhn b hb=>(hn b hb,(f2 b hb).2,);refine codeAny_forLoop_any (λn s'=>∃i σ' H',Inv X pins σ' H' s'/\tn i s'.heap/\(∀b∈fp,H' b=none)/\W i n σ' H') ?_ m0 (0,σ,H2,I2,st2,λb hb=>(f2 b hb).1,w0,);rintro n s3 ⟨i,σ3,H3,I3,st3,E1,w3⟩;rcases turn i n σ3 H3 w3 with⟨stop,qn⟩|⟨go,N,hN,step⟩
 .refine ard hp (bV (T.done X 8 8 8 hc i pins s3 σ3 H3 X.xe I3 (sd E1) st3 stop) λr s4 (hr,I4,)=>?_);subst hr;exact aMM (σ3,H3,I4,qn,)
 .refine ard hp (bV (T.item X 8 8 8 hc i pins s3 σ3 H3 X.xe I3 (sd E1) st3 go) λr s4 (u,hr,h4,)=>?_);subst hr;refine ard hp (bV h4 λ_ s5 (x,H5,I5,r5,y5,zR,K8,)=>?_);have I5':=I5.pinned (sd K8) (T.obj _ _ zR);refine ard hp (bV (hg _ s5 σ3 H5 x u _ I5' r5 (step x H5 y5)) λ_ s6 (σ6,H6,I6,q6,)=>?_);refine ard hp (bV (hb _ s6 σ6 H6 _ I6 q6) λf s7 q7=>?_);have again:∀{σ7:St}{H7:Hp},Inv X (pins++Jc fp s5.heap) σ7 H7 s7->N σ7 H7->∃m,m<n/\∃i σ' H',Inv X pins σ' H' s7/\tn i s7.heap/\(∀b∈fp,H' b=none)/\W i m σ' H':=λ{σ7 H7} I7 n7=>by
   let(m',hm,w7,):=hN σ7 H7 n7;refine(m',hm,i+1,σ7,H7,I7.iw,T.keep _ _ _ zR λb hb o e=>(I7.pin (b,o) (a2D _ (a2D _ (LV hb e)))).1,λb hb=>?_,w7,);let(o,e,d,):=T.obj _ _ zR b hb;exact(I7.pin (b,o) (a2D _ (a2D _ (LV hb e)))).2.1
  cases f with
  |next=>let(σ7,H7,I7,n7,):=q7;exact again I7 n7
  |cont=>let(σ7,H7,I7,n7,):=q7;exact again I7 n7
  |brk=>let(σ7,H7,I7,q7,):=q7;exact(σ7,H7,I7.iw,q7,)
  |ret v=>let(x7,σ7,H7,I7,r7,q7,):=q7;exact(x7,σ7,H7,I7.iw,r7,q7,)
end
theorem LQ{K:W.Frag}{a:Addr}{xs:List V}{g:TG}{tb:TS}{D:Ends}{σ:St}{H:Hp}(Pv:Nat->St->Hp->Prop)(h0:Pv 0 σ H)(hl:∀i σ H,i<=xs.length->Pv i σ H->au K H a xs)
  (hs:∀i x σ H,xs[i]?=!x->Pv i σ H->g x σ H λσ2 H2=>tb { D with nx:=Pv (i+1),ct:=Pv (i+1),bk:=D.nx } σ2 H2) (hd:∀ σ H,Pv xs.length σ H->D.nx σ H) :
  ∃W:Nat->Nat->St->Hp->Prop,(∃m,W 0 m σ H)/\∀i m σ H,W i m σ H ->
   ((CU K a).stop i H/\D.nx σ H)\/((CU K a).go i H/\∃N:St->Hp->Prop,(∀ σ' H',N σ' H'->∃m',m'<m/\W (i+1) m' σ' H')/\∀x H',(CU K a).rY i H x H'->g x σ H' λσ2 H2=>tb { D with nx:=N,ct:=N,bk:=D.nx } σ2 H2):=by
 refine(λi m σ H=>m=xs.length-i/\i<=xs.length/\Pv i σ H,(xs.length,5,aei _,h0,),?_,);rintro i m σ H ⟨rfl,hi,p⟩;have q:=hl i σ H hi p;by_cases hlt:i<xs.length
 .refine .inr ((xs,xs[i],q,by simp[hlt],),Pv (i+1),λσ' H' p'=>(xs.length-(i+1),7,8,hlt,p',),λx H' y=>?_,);let(e,y,):=y;subst e;exact hs i x σ _ (y xs q) p
 .have e:i=xs.length:=7
  subst e;exact .inl ((xs,q,amA _,),hd σ H p,)
theorem OE{K:W.Frag}{a:Addr}{xs:List V}{g:TG}{tb:TS}{D:Ends}{σ:St}{H:Hp}(Pv:Nat->St->Hp->Prop)(h0:Pv 0 σ H)(hl:∀i σ H,i<=xs.length->Pv i σ H->aX K H a xs)
  (hs:∀i x σ H,xs[i]?=!x->Pv i σ H->g x σ H λσ2 H2=>tb { D with nx:=Pv (i+1),ct:=Pv (i+1),bk:=D.nx } σ2 H2) (hd:∀ σ H,Pv xs.length σ H->D.nx σ H) :
  ∃W:Nat->Nat->St->Hp->Prop,(∃m,W 0 m σ H)/\∀i m σ H,W i m σ H ->
   ((CT K a).stop i H/\D.nx σ H)\/((CT K a).go i H/\∃N:St->Hp->Prop,(∀ σ' H',N σ' H'->∃m',m'<m/\W (i+1) m' σ' H')/\∀x H',(CT K a).rY i H x H'->g x σ H' λσ2 H2=>tb { D with nx:=N,ct:=N,bk:=D.nx } σ2 H2):=by
 refine(λi m σ H=>m=xs.length-i/\i<=xs.length/\Pv i σ H,(xs.length,5,aei _,h0,),?_,);rintro i m σ H ⟨rfl,hi,p⟩;have q:=hl i σ H hi p;by_cases hlt:i<xs.length
 .refine .inr ((xs,xs[i],q,by simp[hlt],),Pv (i+1),λσ' H' p'=>(xs.length-(i+1),7,8,hlt,p',),λx H' y=>?_,);let(e,y,):=y;subst e;exact hs i x σ _ (y xs q) p
 .have e:i=xs.length:=7
  subst e;exact .inl ((xs,q,amA _,),hd σ H p,)
theorem LS{lo:Int}{n:Nat}{g:TG}{tb:TS}{D:Ends}{σ:St}{H:Hp}(Pv:Nat->St->Hp->Prop)(h0:Pv 0 σ H)
  (hs:∀i σ H,i<n->Pv i σ H->g (.int (lo+i)) σ H λσ2 H2=>tb { D with nx:=Pv (i+1),ct:=Pv (i+1),bk:=D.nx } σ2 H2) (hd:∀ σ H,Pv n σ H->D.nx σ H) :
  ∃W:Nat->Nat->St->Hp->Prop,(∃m,W 0 m σ H)/\∀i m σ H,W i m σ H ->
   ((Bh lo n).stop i H/\D.nx σ H)\/((Bh lo n).go i H/\∃N:St->Hp->Prop,(∀ σ' H',N σ' H'->∃m',m'<m/\W (i+1) m' σ' H')/\∀x H',(Bh lo n).rY i H x H'->g x σ H' λσ2 H2=>tb { D with nx:=N,ct:=N,bk:=D.nx } σ2 H2):=by
 refine(λi m σ H=>m=n-i/\i<=n/\Pv i σ H,(n,5,aei _,h0,),?_,);rintro i m σ H ⟨rfl,hi,p⟩;by_cases hlt:i<n
 .refine .inr (hlt,Pv (i+1),λσ' H' p'=>(n-(i+1),7,8,hlt,p',),λx H' y=>?_,);let(e,y,):=y;subst e y;exact hs i σ _ hlt p
 .have e:i=n:=7
  subst e;exact .inl (amA _,hd σ H p,)
abbrev R2:=V->V->Hp->VK->Prop
def jS(X:Cx)(f:Value->Value->Sem Value)(r:R2):Prop:=
 ∀(pins:List (Addr×Obj))(s:Shared)(σ:St)(H:Hp)(x y:V)(v u:Value)(Q:VK),Inv X pins σ H s->RelV x v->RelV y u->r x y H Q ->
  wpAny (model X.prog X.w) X.A (f v u) (EP X pins σ Q) X.xe s
def Pj(X:Cx)(f:Value->Sem Value)(r:V->Hp->VK->Prop):Prop:=
 ∀(pins:List (Addr×Obj))(s:Shared)(σ:St)(H:Hp)(x:V)(v:Value)(Q:VK),Inv X pins σ H s->RelV x v->r x H Q ->
  wpAny (model X.prog X.w) X.A (f v) (EP X pins σ Q) X.xe s
def bw(X:Cx)(f:Value)(r:List V->Hp->VK->Prop):Prop:=
 ∀(pins:List (Addr×Obj))(s:Shared)(σ:St)(H:Hp)(xs:List V)(us:List Value)(Q:VK),Inv X pins σ H s->Vals xs us->r xs H Q ->
  wpAny (model X.prog X.w) X.A (call f us) (EP X pins σ Q) X.xe s
def Kd(r:R2)(ta tb:TE):TE:=λσ H Q=>ta σ H λx H1=>tb σ H1 λy H2=>r x y H2 Q
def WQ(r:V->Hp->VK->Prop)(ta:TE):TE:=λσ H Q=>ta σ H λx H1=>r x H1 Q
inductive rI(C:Int->Int->Prop) (g:Int->Int->V)(x:V)(y:V)(H:Hp)(Q:VK):Prop
 |mk (i j:_):x=.int i->y=.int j->C i j->Q (g i j) H->rI C g x y H Q
inductive Ag(g:Int->Int->V)(x:V)(y:V)(H:Hp)(Q:VK):Prop
 |mk (i j:_):x=.int i->y=.int j->Q (g i j) H->Ag g x y H Q
inductive rU(g:Int->V)(x:V)(H:Hp)(Q:VK):Prop
 |mk (i:_):x=.int i->Q (g i) H->rU g x H Q
section
variable{X:Cx}{a b c:Expr}{ta tb tc:TE}{pos:Pos}
theorem D7(ha:PE X a ta)(hb:PE X b tb){pins:List (Addr×Obj)}{s:Shared}{σ:St}{H:Hp}{R:V->V->Hp->Prop}(I:Inv X pins σ H s)
  (h:ta σ H λx H1=>tb σ H1 λy H2=>R x y H2) {Q:Value->Shared->Prop} {f:Value->Value->Sem Value}
  (hf:∀v u s2 x y H2,Inv X pins σ H2 s2->RelV x v->RelV y u->R x y H2->wpAny (model X.prog X.w) X.A (f v u) Q X.xe s2) :
  wpAny (model X.prog X.w) X.A (eval a X.env) (λv s₁=>wpAny (model X.prog X.w) X.A (eval b X.env) (λu s₂=>wpAny (model X.prog X.w) X.A (f v u) Q X.xe s₂) X.xe s₁) X.xe s:=by
 refine fc (ha pins s σ H _ I h) λv s1 x H1 I1 r1 q1=>?_;refine fc (hb pins s1 σ H1 _ I1 q1) λu s2 y H2 I2 r2 q2=>?_;exact hf v u s2 x y H2 I2 r1 r2 q2
theorem aj{op:Operator}{r:R2}(ho:jS X (binaryOp op) r)(ha:PE X a ta)(hb:PE X b tb):PE X (.BinOp a op b pos) (Kd r ta tb):=by
 intro pins s σ H Q I h;exact wpAny_BinOp (D7 ha hb I h λv u s2 x y H2 I2 rx ry q=>ho pins s2 σ H2 x y v u Q I2 rx ry q)
theorem yg{op:UnaryOp}{r:V->Hp->VK->Prop}(ho:Pj X (unaryOp op) r)(ha:PE X a ta):PE X (.UnaryOp op a pos) (WQ r ta):=by
 intro pins s σ H Q I h;exact UnaryOp_ (fc (ha pins s σ H _ I h) λv s1 x H1 I1 r1 q1=>ho pins s1 σ H1 x v Q I1 r1 q1)
theorem Ks{f:Value->Value->Sem Value}{C:Int->Int->Prop}{g:Int->Int->Int}
  (rule:∀(i j:Int)(t u:Tok)(s:Shared)(Q:Value->Shared->Prop)(E:Value->Shared->Prop),C i j->Q (.int (g i j) s.toks) { s with toks:=s.toks+1 }->wpAny (model X.prog X.w) X.A (f (.int i t) (.int j u)) Q E s) :
  jS X f (rI C λi j=>.int (g i j)):=by
 intro pins s σ H x y v u Q I rx ry h;let(i,j,rfl,rfl,hc,q,):=h;let(t,rfl,):=rx;let(t',rfl,):=ry;exact rule i j t t' s _ _ hc (.int (g i j),H,I.tok _,(_,8,),q,)
theorem Hg{f:Value->Value->Sem Value}{g:Int->Int->Int}
  (rule:∀(i j:Int)(t u:Tok)(s:Shared)(Q:Value->Shared->Prop)(E:Value->Shared->Prop),Q (.int (g i j) s.toks) { s with toks:=s.toks+1 }->wpAny (model X.prog X.w) X.A (f (.int i t) (.int j u)) Q E s) :
  jS X f (Ag λi j=>.int (g i j)):=by
 intro pins s σ H x y v u Q I rx ry h;let(i,j,rfl,rfl,q,):=h;let(t,rfl,):=rx;let(t',rfl,):=ry;exact rule i j t t' s _ _ (.int (g i j),H,I.tok _,(_,8,),q,)
theorem Am{f:Value->Value->Sem Value}{g:Int->Int->Bool}
  (rule:∀(i j:Int)(t u:Tok)(s:Shared)(Q:Value->Shared->Prop)(E:Value->Shared->Prop),Q (.bool (g i j)) s->wpAny (model X.prog X.w) X.A (f (.int i t) (.int j u)) Q E s) :
  jS X f (Ag λi j=>.bl (g i j)):=by
 intro pins s σ H x y v u Q I rx ry h;let(i,j,rfl,rfl,q,):=h;let(t,rfl,):=rx;let(t',rfl,):=ry;exact rule i j t t' s _ _ (.bl (g i j),H,I,8,q,)
def JV(i j:Int):Prop:=0<j/\j<1073741824
def PK(i j:Int):Prop:=0<=j/\j<=1000000/\i.natAbs<2 ^ 64
def EE(i j:Int):Prop:=(-(2 ^ 64)<i/\i<2 ^ 64)\/(-(2 ^ 64)<j/\j<2 ^ 64)
theorem EE.ok{i j:Int}(h:EE i j):IntMulOk i j:=by
 rcases h with⟨h1,h2⟩|⟨h1,h2⟩
 .exact .of_left (intBits_le_64 h1 h2)
 .exact .of_right (intBits_le_64 h1 h2)
theorem ZP:jS X (binaryOp .Add) (Ag λi j=>.int (i+j)):=Hg λ_ _ _ _ _ _ _ q=>add_int q
theorem CA:jS X (binaryOp .Sub) (Ag λi j=>.int (i-j)):=Hg λ_ _ _ _ _ _ _ q=>sub_int q
theorem vU:jS X (binaryOp .Mult) (rI EE λi j=>.int (i*j)):=Ks λ_ _ _ _ _ _ _ hc q=>mul_int q hc.ok
theorem Fe:jS X (binaryOp .FloorDiv) (rI JV λi j=>.int (i/j)):=Ks λi j _ _ _ _ _ hc q=>by
 have h1:(0:Int)<j:=hc.1;have h2:j<1073741824:=hc.2;exact floordiv_int 7 (by rw[Int.fdiv_eq_ediv_of_nonneg i 7];exact q) (.inl (PyProof.noPylong_small 7))
theorem vS:jS X (binaryOp .Mod) (rI (λ_ j=>0<j) λi j=>.int (i%j)):=Ks λi j _ _ _ _ _ hc q=>by
 have h1:(0:Int)<j:=hc;exact mod_int' 7 (by rw[Int.fmod_eq_emod_of_nonneg i 7];exact q)
theorem Oe:jS X (binaryOp .Pow) (rI PK λi j=>.int (i ^ j.toNat)):=Ks λ_ _ _ _ _ _ _ hc q=>pow_int_small hc.1 hc.2.1 hc.2.2 q
theorem WJ{f:Value->Sem Value}{g:Int->Int}
  (rule:∀(i:Int)(t:Tok)(s:Shared)(Q:Value->Shared->Prop)(E:Value->Shared->Prop),Q (.int (g i) s.toks) { s with toks:=s.toks+1 }->wpAny (model X.prog X.w) X.A (f (.int i t)) Q E s) :
  Pj X f (rU λi=>.int (g i)):=by
 intro pins s σ H x v Q I rx h;let(i,rfl,q,):=h;let(t,rfl,):=rx;exact rule i t s _ _ (.int (g i),H,I.tok _,(_,8,),q,)
theorem Od:Pj X (unaryOp .USub) (rU λi=>.int (-i)):=WJ λ_ _ _ _ _ q=>neg_int q
end
def Gw:V->V->Bool
 | .aN,.aN=>true| .aN,.int _=>true| .int _,.aN=>true| .aN,.bl _=>true| .bl _,.aN=>true| .aN,.str _=>true| .str _,.aN=>true
 | .int _,.int _=>true| .bl _,.bl _=>true| .str _,.str _=>true| .vR _,.vR _=>true
 | .int _,.str _=>true| .str _,.int _=>true| .bl _,.str _=>true| .str _,.bl _=>true
 |_,_=>false
def W4:R2:=λx y H Q=>Gw x y=true/\Q (.bl (decide (x=y))) H
def W2:R2:=λx y H Q=>Gw x y=true/\Q (.bl ((not (decide (x=y))))) H
theorem TR{i j:Int}:decide (V.int i=V.int j)=(i ==j):=by
 rw[aNg];simp
theorem SY{i j:Bool}:decide (V.bl i=V.bl j)=(i ==j):=by
 rw[aNg];simp
theorem TQ{i j:Str}:decide (V.str i=V.str j)=(i ==j):=by
 rw[aNg];simp
theorem TN{i j:Array UInt8}:decide (V.vR i=V.vR j)=(i.toList ==j.toList):=by
 rw[aNg];cases i;cases j;simp
section
variable{X:Cx}{a b c:Expr}{ta tb tc:TE}{pos:Pos}
theorem ZC{pins:List (Addr×Obj)}{σ:St}{H:Hp}{s:Shared}{Q:VK}{k k':Bool}(I:Inv X pins σ H s)(q:Q (.bl k) H)(e:k=k'):EP X pins σ Q (.bool k') s:=by
 subst e;exact(.bl k,H,I,8,q,)
theorem bu:jS X (compareOp .Eq) W4:=by
 intro pins s σ H x y v u Q I rx ry h;let(hs,q,):=h;cases x with
 |aN=>
  cases rx;cases y with
  |aN=>cases ry;exact PySem.EqNone.eq_none_none (ZC I q 5)
  |bl j=>cases ry;exact PySem.EqNone.eq_none_bool (ZC I q 5)
  |int j=>let(t',rfl,):=ry;exact PySem.EqNone.eq_none_int (ZC I q 5)
  |str j=>let(t',rfl,):=ry;exact PySem.EqNone.eq_none_str (ZC I q 5)
  |_=>exact absurd (show false=true from hs) aqS
 |bl i=>
  cases rx;cases y with
  |aN=>cases ry;exact PySem.EqNone.eq_bool_none (ZC I q 5)
  |bl j=>cases ry;exact eq_bool (ZC I q SY)
  |str j=>let(t',rfl,):=ry;exact PySem.EqMixed.eq_bool_str (ZC I q 5)
  |_=>exact absurd (show false=true from hs) aqS
 |int i=>
  let(t,rfl,):=rx;cases y with
  |aN=>cases ry;exact PySem.EqNone.eq_int_none (ZC I q 5)
  |int j=>let(t',rfl,):=ry;exact eq_int (ZC I q TR)
  |str j=>let(t',rfl,):=ry;exact PySem.EqMixed.eq_int_str (ZC I q 5)
  |_=>exact absurd (show false=true from hs) aqS
 |str i=>
  let(t,rfl,):=rx;cases y with
  |aN=>cases ry;exact PySem.EqNone.eq_str_none (ZC I q 5)
  |bl j=>cases ry;exact PySem.EqMixed.eq_str_bool (ZC I q 5)
  |int j=>let(t',rfl,):=ry;exact PySem.EqMixed.eq_str_int (ZC I q 5)
  |str j=>let(t',rfl,):=ry;exact eq_str (ZC I q TQ)
  |_=>exact absurd (show false=true from hs) aqS
 |vR i=>
  let(t,rfl,):=rx;cases y with
  |vR j=>let(t',rfl,):=ry;exact W.eq_bytes (ZC I q TN)
  |_=>exact absurd (show false=true from hs) aqS
 |_=>cases y <;> exact absurd (show false=true from hs) aqS
theorem uN:jS X (compareOp .NotEq) W2:=by
 intro pins s σ H x y v u Q I rx ry h;let(hs,q,):=h;cases x with
 |aN=>
  cases rx;cases y with
  |aN=>cases ry;exact PySem.EqNone.ne_none_none (ZC I q 5)
  |bl j=>cases ry;exact PySem.EqNone.ne_none_bool (ZC I q 5)
  |int j=>let(t',rfl,):=ry;exact PySem.EqNone.ne_none_int (ZC I q 5)
  |str j=>let(t',rfl,):=ry;exact PySem.EqNone.ne_none_str (ZC I q 5)
  |_=>exact absurd (show false=true from hs) aqS
 |bl i=>
  cases rx;cases y with
  |aN=>cases ry;exact PySem.EqNone.ne_bool_none (ZC I q 5)
  |bl j=>cases ry;exact ne_bool (ZC I q (aFk not SY))
  |str j=>let(t',rfl,):=ry;exact PySem.EqMixed.ne_bool_str (ZC I q 5)
  |_=>exact absurd (show false=true from hs) aqS
 |int i=>
  let(t,rfl,):=rx;cases y with
  |aN=>cases ry;exact PySem.EqNone.ne_int_none (ZC I q 5)
  |int j=>let(t',rfl,):=ry;exact ne_int (ZC I q (aFk not TR))
  |str j=>let(t',rfl,):=ry;exact PySem.EqMixed.ne_int_str (ZC I q 5)
  |_=>exact absurd (show false=true from hs) aqS
 |str i=>
  let(t,rfl,):=rx;cases y with
  |aN=>cases ry;exact PySem.EqNone.ne_str_none (ZC I q 5)
  |bl j=>cases ry;exact PySem.EqMixed.ne_str_bool (ZC I q 5)
  |int j=>let(t',rfl,):=ry;exact PySem.EqMixed.ne_str_int (ZC I q 5)
  |str j=>let(t',rfl,):=ry;exact ne_str (ZC I q (aFk not TQ))
  |_=>exact absurd (show false=true from hs) aqS
 |vR i=>
  let(t,rfl,):=rx;cases y with
  |vR j=>let(t',rfl,):=ry;exact W.ne_bytes (ZC I q (aFk not TN))
  |_=>exact absurd (show false=true from hs) aqS
 |_=>cases y <;> exact absurd (show false=true from hs) aqS
theorem qH:jS X (compareOp .Lt) (Ag λi j=>.bl (decide (i<j))):=Am λ_ _ _ _ _ _ _ q=>lt_int q
theorem GZ:jS X (compareOp .LtE) (Ag λi j=>.bl (decide (i<=j))):=Am λ_ _ _ _ _ _ _ q=>le_int q
theorem B0:jS X (compareOp .Gt) (Ag λi j=>.bl (decide (j<i))):=Am λ_ _ _ _ _ _ _ q=>gt_int q
theorem G0:jS X (compareOp .GtE) (Ag λi j=>.bl (decide (j<=i))):=Am λ_ _ _ _ _ _ _ q=>ge_int q
theorem Zv(b:Expr){op:CmpOp}(h:op≠.In:=by decide)(h2:op≠.NotIn:=by decide):behindInMarks op b=false:=by
 have e1:(op ==CmpOp.In)=false:=by cases op <;> first|rfl|exact absurd 8 h
 have e2:(op ==CmpOp.NotIn)=false:=by cases op <;> first|rfl|exact absurd 8 h2
 cases b <;> simp[behindInMarks,e1,e2]
theorem ZR{op:CmpOp}{r:R2}(ho:jS X (compareOp op) r)(ha:PE X a ta)(hb:PE X b tb)(hm:behindInMarks op b=false):PE X (.Compare a [op] [b] pos) (Kd r ta tb):=by
 intro pins s σ H Q I h;exact wpAny_Compare1 (D7 ha hb I h λv u s2 x y H2 I2 rx ry q=>ho pins s2 σ H2 x y v u Q I2 rx ry q) hm
def Bu(t:TE):TT:=λσ H Q=>t σ H λx H'=>∃k,x=.bl k/\Q k H'
theorem Zx{op:CmpOp}{r:R2}(ho:jS X (compareOp op) r)(ha:PE X a ta)(hb:PE X b tb)(hm:behindInMarks op b=false):PT X (.Compare a [op] [b] pos) (Bu (Kd r ta tb)):=by
 intro pins s σ H Q I h;refine wpAny_isTrue_Compare1 (fc (ha pins s σ H _ I h) λv s1 x H1 I1 r1 q1=>fc (hb pins s1 σ H1 _ I1 q1) λu s2 y H2 I2 r2 q2=>
  bV (ho pins s2 σ H2 x y v u _ I2 r1 r2 q2) λc s3 (z,H3,I3,r3,k,e,q3,)=>?_) hm
 subst e;cases r3;exact aXA (H3,I3,q3,)
def Zku(r r':R2)(ta tb tc:TE):TE:=λσ H Q=>ta σ H λx H1=>tb σ H1 λy H2=>r x y H2 λz H3=>∃k,z=.bl k /\
 (if k=true then tc σ H3 λw' H4=>r' y w' H4 Q else Q (.bl false) H3)
theorem ZhS{op op':CmpOp}{r r':R2}(ho:jS X (compareOp op) r)(ho':jS X (compareOp op') r')(ha:PE X a ta)(hb:PE X b tb)(hc:PE X c tc)
  (hm:lastMarks [op,op'] [b,c]=false:=by with_unfolding_all rfl):PT X (.Compare a [op,op'] [b,c] pos) (Bu (Zku r r' ta tb tc)):=by
 intro pins s σ H Q I h;refine isTrue_chain (fc (ha pins s σ H _ I h) λv s1 x H1 I1 r1 q1=>test_link (fc (hb pins s1 σ H1 _ I1 q1) λu s2 y H2 I2 r2 q2=>
  bV (ho pins s2 σ H2 x y v u _ I2 r1 r2 q2) λd s3 (z,H3,I3,r3,k,e,q3,)=>?_)) hm
 subst e;cases r3;refine aXA ?_;cases k with
 |false=>
  let(k',e',q',):=q3;cases e';exact ite_ff (H3,I3,q',)
 |true=>
  refine ite_tt (test_last (fc (hc pins s3 σ H3 _ I3 q3) λw' s4 z' H4 I4 r4 q4=>bV (ho' pins s4 σ H4 y z' u w' _ I4 r2 r4 q4) λd' s5 (z2,H5,I5,r5,k2,e2,q5,)=>?_));subst e2;cases r5;exact aXA (H5,I5,q5,)
theorem Jb:(sizeLine:Nat)<2 ^ 63:=by rw[a1n];decide
theorem vals1{x:V}{us:List Value}(r:Vals [x] us):∃u,us=[u]/\RelV x u:=by
 cases r with
 |cons r1 r2=>cases r2;exact(_,8,r1,)
theorem vals2{x y:V}{us:List Value}(r:Vals [x,y] us):∃u w',us=[u,w']/\RelV x u/\RelV y w':=by
 cases r with
 |cons r1 r2=>
  cases r2 with
  |cons r3 r4=>cases r4;exact(109,r1,r3,)
theorem UK:bw X (.builtin "abs") (λxs H Q=>∃i,xs=[.int i]/\Q (.int (if i<0 then -i else i)) H):=by
 intro pins s σ H xs us Q I r h;let(i,rfl,q,):=h;let(u,rfl,t,rfl,):=vals1 r;exact call_abs_int λu tk=>(.int (if i<0 then -i else i),H,I.tok _,(_,8,),q,)
theorem UP(hc:X.calm=true):bw X (.builtin "max") (λxs H Q=>∃i j,xs=[.int i,.int j]/\Q (.int (if j>i then j else i)) H):=by
 intro pins s σ H xs us Q I r h;let(i,j,rfl,q,):=h;let(u,w',rfl,(t,rfl,),(t',rfl,),):=vals2 r;refine max_two_ints (I.ok.hd hc) λh' tk k=>(_,H,I.kept k,?_,q,);by_cases hj:j>i
 .rw [aS1 hj,aS1 hj];exact(_,8,)
 .rw [aWd hj,aWd hj];exact(_,8,)
theorem Zgo(hc:X.calm=true):bw X (.builtin "min") (λxs H Q=>∃i j,xs=[.int i,.int j]/\Q (.int (if j<i then j else i)) H):=by
 intro pins s σ H xs us Q I r h;let(i,j,rfl,q,):=h;let(u,w',rfl,(t,rfl,),(t',rfl,),):=vals2 r;refine min_two_ints (I.ok.hd hc) λh' tk k=>(_,H,I.kept k,?_,q,);by_cases hj:j<i
 .rw [aS1 hj,aS1 hj];exact(_,8,)
 .rw [aWd hj,aWd hj];exact(_,8,)
theorem Pg:bw X (.type "int") (λxs H Q=>(∃i,xs=[.int i]/\Q (.int i) H)\/∃k,xs=[.bl k]/\Q (.int (if k then 1 else 0)) H):=by
 intro pins s σ H xs us Q I r h;rcases h with⟨i,rfl,q⟩|⟨k,rfl,q⟩
 .let(u,rfl,t,rfl,):=vals1 r;exact call_int_int (.int i,H,I,(_,8,),q,)
 .let(u,rfl,r1,):=vals1 r;cases r1;exact call_int_bool (.int (if k then 1 else 0),H,I.tok _,(_,8,),q,)
theorem Zei:bw X (.builtin "divmod") (λxs H Q=>∃i j,xs=[.int i,.int j]/\JV i j/\∀p,H p=none->Q (.ref p) (upd H p (.tup [.int (i/j),.int (i%j)]))):=by
 intro pins s σ H xs us Q I r h;let(i,j,rfl,(h1,h2,),q,):=h;let(u,w',rfl,(t,rfl,),(t',rfl,),):=vals2 r;refine divmod_int 7 ?_ (.inl (PyProof.noPylong_small 7));rw[Int.fdiv_eq_ediv_of_nonneg i 7,Int.fmod_eq_emod_of_nonneg i 7];have hn:H s.heap.objs.size=none:=I.hok.fresh (amA _);refine(.ref s.heap.objs.size,_,?_,8,q _ hn,);refine I.laid (λb o e=>a47 _ e) (amA _) (by simp only[aII,a4z];rw[a1n];decide,[.int (i/j) s.toks,.int (i%j) (s.toks+1)],.cons (_,8,) (.cons (_,8,) .nil),?_,);exact(_,a1M s.heap 8,8,0,8,)
end
structure tQ(h:Heap)(x dx C:Addr)(mA:Str->Option Value):Prop where
 obj:h.get? x=!(W.instObj C dx)
 ns:h.Ns1 dx mA
 ne:dx≠x
theorem Zgp{h:Heap}{dx:Addr}{mA:Str->Option Value}(n:h.Ns1 dx mA):∃od,h.get? dx=!od/\∀name,W.lookIn name od=!(mA name):=by
 let(o,es,ep,ho,hd,hk,_,hm,):=n;refine(o,ho,λname=>?_,);have e:=hm name;unfold nsFind findBy at e;rw[<-Array.find?_toList]at e;unfold W.lookIn;rw[hd];dsimp only;split
 .rename_i y q;rw[q]at e;exact aFk some e
 .rename_i q;rw[q]at e;have a:es.toList.any (·.refKey)=false:=by
   rw[any_eq_false];intro y hy;let(z,t,hkey,):=hk y (Array.mem_toList_iff.mp hy);simp[DictEntry.refKey,hkey]
  have a':¬es.toList.any (·.refKey)=true:=by rw[a];exact aqS
  rw[aWd a'];exact aFk some e
theorem tQ.look{h:Heap}{x dx C:Addr}{mA:Str->Option Value}(I:tQ h x dx C mA):∃od,W.InstAt h x (W.instObj C dx) C (!od)/\∀name,W.lookIn name od=!(mA name):=
 let(od,ho,hl,):=Zgp I.ns
 (od,(I.obj,8,8,ho,),hl,)
section
variable{prog:Program}{w:World}{A:Around}{E:Value->Shared->Prop}{s:Shared}{K:W.Frag}{x dx C f:Addr}{mA:Str->Option Value}{name:Str}{v:Value}
theorem Zjo{expr:Bool}{Q:Value->Shared->Prop}(X:K.In s.heap)(I:tQ s.heap x dx C mA)(hg:W.plainGet K C name=true)(hh:W.hasDictIn K C=true)
  (ha:W.findIn K (.ref C) name=!none) (hv:mA name=!v) (hv':W.handedIn v=true) (h:Q v { s with toks:=s.toks+1 }) :
  wpAny (model prog w) A (getAttr (.ref x) name expr) Q E s:=by
 let(od,J,hl,):=I.look;exact W.get_value X J (W.plainGet_of hg).1 (W.findObj_own hh ha 8 (by rw[hl,hv])) hv' h
theorem ZhT{pl:Sem Bool}{Q:Value×List Value->Shared->Prop}(X:K.In s.heap)(I:tQ s.heap x dx C mA)(hg:W.plainGet K C name=true)
  (hf:W.findIn K (.ref C) name=!(!(.ref f))) (ht:W.isFn K (.ref f)=true) (hv:mA name=none) (h:Q (.ref f,[.ref x]) s) :
  wpAny (model prog w) A (getMethod (.ref x) name pl) Q E s:=by
 let(od,J,hl,):=I.look;exact W.method_fn X J (W.plainGet_of hg).1 (W.plainGet_of hg).2 hf (aEg.mp ht) (by show(W.lookIn name od).map (·.isSome)=!false;rw[hl,hv];rfl) h
theorem Zjp{ns:List Str}{Q:Unit->Shared->Prop}(X:K.In s.heap)(I:tQ s.heap x dx C mA)
  (hs:W.findIn K (.ref C) "__setattr__"=!(!(.builtin "object.__setattr__"))) (hp:W.plainOver K C=true) (ht:W.takerIn K C name=!none) (hh:W.hasDictIn K C=true)
  (hw:PySem.Within mA ns) (hsz:ns.length<=sizeLine)
  (h:∀h',tQ h' x dx C (λy=>if y=name then some v else mA y)->Heap.SameBut dx s.heap h'->Q () { s with heap:=h',toks:=s.toks+2 }) :
  wpAny (model prog w) A (setAttr (.ref x) name v) Q E s:=by
 let(od,J,hl,):=I.look;refine W.set_plain X J hs (W.osa_open (s:={ s with toks:=s.toks+1 }) (r:=none) X J hp ht λb=>?_);let(cd,hc,hd',):=W.any_some hh;have hx:s.heap.get? x=!(.ref C,!dx,.plain,#[],):=I.obj;refine ay1 (aO7 (ay1 (ay1 (wpAny_loadPart hx (ay1 (W.Looks.here (s:={ s with toks:=s.toks+1 }) (W.looks_clsIn X hc) ?_))))));rw[hd'];refine aO7 (a:=!dx) (ay1 (aO7 (ay1 ?_)));refine wpAny_nsSet1 (s:={ s with toks:=s.toks+1 }) I.ns λh' hn2 hs2=>?_;let(oD,esD,epD,Ym,Yx,Yz,):=hn2.count (PySem.Within.cons name v hw);refine ay1 (wpAny_lookBehind Ym (by rw[Yx];exact pastItsLine_dict (atw Yz (by rw[aII];lia))) ?_);exact aO7 (h _ ((hs2.2 _ (aBl I.ne)).trans I.obj,hn2,I.ne,) hs2)
theorem ZhU{R:Result->Shared->Prop}{vs:List Value}{kw:List (Str×Value)}(X:K.In s.heap)(hm:W.makesIn K C=true)
  (hi:W.findIn K (.ref C) "__init__"=!(!(.ref f))) (hf:W.typeIn K (.ref f)=!(.type "function"))
  (h:codeAny (model prog w) (A.under (.builtin "type.__call__" (.ref C ::vs,kw,))) (.call (.ref f) (.ref (s.heap.objs.size+1) ::vs,kw,)) (W.InitBack (s.heap.objs.size+1) R)
   { s with heap:=(s.heap.push W.emptyDict).push (W.instObj C s.heap.objs.size) }) :
  codeAny (model prog w) A (.call (.ref C) (vs,kw,)) R s:=by
 let(hh,g,d,t,os,):=s;exact W.make_core (W.makes_of X hm) (W.looks_findIn X hi) (λself=>W.bind_fn X self hf) (.inl 8) h
end
def ah(f:Str)(v:V):List (Str×V)->List (Str×V)
 | []=>[(f,v)]
 |(g,x) ::r=>if g=f then(g,v) ::r else(g,x) ::ah f v r
theorem Zh(f g:Str)(v:V):∀fs:List (Str×V),(ah f v fs).lookup g=if g=f then some v else fs.lookup g
 | []=>by
  show List.lookup g [(f,v)]=_;by_cases h:g=f
  .have hb:(g ==f)=true:=aEg.mpr h;simp only[List.lookup,hb,aS1 h]
  .have hb:(g ==f)=false:=ayS.mpr h;simp only[List.lookup,hb,aWd h]
 |(k,x) ::r=>by
  have ih:=Zh f g v r;rw[show ah f v ((k,x) ::r)=(if k=f then(k,v) ::r else(k,x) ::ah f v r) from rfl];by_cases hk:k=f
  .rw [aS1 hk];by_cases h:g=k
   .have hb:(g ==k)=true:=aEg.mpr h;simp only[List.lookup,hb,aS1 (h.trans hk)]
   .have hb:(g ==k)=false:=ayS.mpr h;simp only[List.lookup,hb,aWd (λe:g=f=>h (e.trans hk.symm))]
  .rw [aWd hk];by_cases h:g=k
   .have hb:(g ==k)=true:=aEg.mpr h;simp only[List.lookup,hb,aWd (λe:g=f=>hk (h.symm.trans e))]
   .have hb:(g ==k)=false:=ayS.mpr h;simp only[List.lookup,hb];exact ih
theorem Pf(f:Str)(v:V):∀fs:List (Str×V),f∈(ah f v fs).map (·.1)/\∀g,g∈fs.map (·.1)->g∈(ah f v fs).map (·.1)
 | []=>(by simp[ah],λg h=>by simp at h,)
 |(k,x) ::r=>by
  let(i1,i2,):=Pf f v r;rw[show ah f v ((k,x) ::r)=(if k=f then(k,v) ::r else(k,x) ::ah f v r) from rfl];by_cases hk:k=f
  .rw [aS1 hk];subst hk;exact(5,λg h=>by simpa using h,)
  .rw [aWd hk];refine(?_,λg h=>?_,)
   .rw [aZ1];exact avG _ i1
   .rw [aZ1]at h ⊢;rcases ajG.mp h with e|e
    .exact ajG.mpr (.inl e)
    .exact avG _ (i2 g e)
theorem Vh(f:Str)(v:V):∀fs:List (Str×V),(ah f v fs).length<=fs.length+1
 | []=>by simp[ah]
 |(k,x) ::r=>by
  have ih:=Vh f v r;rw[show ah f v ((k,x) ::r)=(if k=f then(k,v) ::r else(k,x) ::ah f v r) from rfl];by_cases hk:k=f
  .rw [aS1 hk,aII,aII];lia
  .rw [aWd hk,aII,aII];lia
theorem dR.some_of{v:V}{o:Option Value}(r:dR (!v) o):∃u,o=!u/\RelV v u:=by
 cases o with
 |none=>exact(show False from r).elim
 |some u=>exact(u,8,r,)
theorem dR.none_of{o:Option Value}(r:dR none o):o=none:=by
 cases o with
 |none=>rfl
 |some u=>exact(show False from r).elim
theorem Zgq{v:V}{u:Value}(r:RelV v u):W.handedIn u=true:=by
 cases v with
 |aN=>cases(show u=Value.none from r);rfl
 |bl b=>cases(show u=Value.bool b from r);rfl
 |int i=>let(t,e,):=(show ∃t,u=Value.int i t from r);cases e;rfl
 |str x=>let(t,e,):=(show ∃t,u=Value.str x t from r);cases e;rfl
 |vR b=>let(t,e,):=(show ∃t,u=Value.bytes b t from r);cases e;rfl
 |AO b=>let(t,e,):=(show ∃t,u=Value.float b t from r);cases e;rfl
 |ref a=>cases(show u=Value.ref a from r);rfl
 |ty n=>cases(show u=Value.type n from r);rfl
section
variable{P:Program}{w:World}{H H':Hp}{h h':Heap}{a C dx:Addr}{fs fs':List (Str×V)}
theorem LB(hok:dU P w H h)(e:H a=!(.ins C dx fs)):∃mA,tQ h a dx C mA/\(∀f,dR (fs.lookup f) (mA f))/\PySem.Within mA (fs.map (·.1))/\fs.length<=1000/\H dx=!(.own a):=by
 let(d,z,ne,ob,mA,n,r,q,):=(show aH P w H h a (.ins C dx fs) from hok a _ e);exact(mA,(ob,n,ne,),r,q,z,d,)
end
structure p9(K:W.Frag)(C:Addr):Prop where
 pg:W.plainGet K C Str.empty=true
 hd:W.hasDictIn K C=true
 po:W.plainOver K C=true
 sa:W.findIn K (.ref C) "__setattr__"=!(!(.builtin "object.__setattr__"))
theorem p9.get{K:W.Frag}{C:Addr}(c:p9 K C)(f:Str):W.plainGet K C f=true:=c.pg
def aP(K:W.Frag)(C:Addr)(f:Str):Prop:=W.findIn K (.ref C) f=!none
theorem aP.Gb{K:W.Frag}{C:Addr}{f:Str}(n:aP K C f):W.takerIn K C f=!none:=by
 unfold W.takerIn;rw[show W.findIn K (.ref C) f=some none from n];rfl
structure Meth(K:W.Frag)(C:Addr)(m:Str)(f:Addr):Prop where
 at_:W.findIn K (.ref C) m=!(!(.ref f))
 fn:W.isFn K (.ref f)=true
 kp:W.keepIn K (.ref f)=true
section
variable{X:Cx}{pins:List (Addr×Obj)}{σ:St}{H:Hp}{s:Shared}{a C dx:Addr}{fs:List (Str×V)}{f:Str}{v:V}{A:Around}{E:Value->Shared->Prop}
theorem ZfA{b:Bool}{Q:Value->Shared->Prop}(I:Inv X pins σ H s)(e:H a=!(.ins C dx fs))(c:p9 X.K C)(n:aP X.K C f)(l:fs.lookup f=!v)
  (h:∀u s',Inv X pins σ H s'->RelV v u->Q u s'):wpAny (model X.prog X.w) A (getAttr (.ref a) f b) Q E s:=by
 let(mA,O,r,_,_,_,):=LB I.hok e;let(u,hu,ru,):=dR.some_of (v:=v) (o:=mA f) (by rw[<-l];exact r f);exact Zjo I.dw O (c.get f) c.hd n hu (Zgq ru) (h u _ (I.tok _) ru)
theorem Pe{m:Str}{g:Addr}{pl:Sem Bool}{Q:Value×List Value->Shared->Prop}(I:Inv X pins σ H s)(e:H a=!(.ins C dx fs))(c:p9 X.K C)(k:Meth X.K C m g)(l:fs.lookup m=none)
  (h:Q (.ref g,[.ref a]) s):wpAny (model X.prog X.w) A (getMethod (.ref a) m pl) Q E s:=by
 let(mA,O,r,_,_,_,):=LB I.hok e;have hn:mA m=none:=dR.none_of (by rw[<-l];exact r m);exact ZhT I.dw O (c.get m) k.at_ k.fn hn h
theorem ZfB{y:V}{u:Value}{Q:Unit->Shared->Prop}(I:Inv X pins σ H s)(e:H a=!(.ins C dx fs))(c:p9 X.K C)(n:aP X.K C f)(hl:fs.length<1000)(ry:RelV y u)
  (h:∀s',Inv X pins σ (upd H a (.ins C dx (ah f y fs))) s'->Q () s'):wpAny (model X.prog X.w) A (setAttr (.ref a) f u) Q E s:=by
 let(mA,O,r,wi,_,ho,):=LB I.hok e;have hz:(fs.map (·.1)).length<=sizeLine:=by rw[aHJ,a1n];lia
 refine Zjp I.dw O c.sa c.po n.Gb c.hd wi hz λh' O' sb=>h _ ?_;have hd:∃o,h'.get? dx=!o:=let(o,_,_,e',_,):=O'.ns;(o,e',);refine I.write (x:=a) (e:=dx) (by rw[e];exact True.intro) (.inr ho) (λb q hb z=>(sb.2 b hb).trans z) hd ?_;refine(by rw[Zc O.ne];exact ho,?_,O.ne,O'.obj,_,O'.ns,λg=>?_,λg hg=>?_,)
 .have:=Vh f y fs;lia
 .show dR ((ah f y fs).lookup g) (if g=f then some u else mA g);rw[Zh];by_cases q:g=f
  .rw [aS1 q,aS1 q];exact ry
  .rw [aWd q,aWd q];exact r g
 .by_cases q:g=f
  .rw [q];exact(Pf f y fs).1
  .refine (Pf f y fs).2 g (wi g λz=>hg ?_);show(if g=f then some u else mA g)=none;rw[aWd q];exact z
theorem Inv.made(I:Inv X pins σ H s):Inv X pins σ (upd (upd H s.heap.objs.size (.own (s.heap.objs.size+1))) (s.heap.objs.size+1) (.ins C s.heap.objs.size []))
  { s with heap:=(s.heap.push W.emptyDict).push (W.instObj C s.heap.objs.size) }:=by
 have e1:(s.heap.push W.emptyDict).get? s.heap.objs.size=!W.emptyDict:=a1M s.heap 8;have e2:((s.heap.push W.emptyDict).push (W.instObj C s.heap.objs.size)).get? (s.heap.objs.size+1)=!(W.instObj C s.heap.objs.size):=by
  have:=a1M (s.heap.push W.emptyDict) (o:=W.instObj C s.heap.objs.size) 8;rwa [aET]at this
 have e3:(s.heap.push W.emptyDict).Ns s.heap.objs.size (λ_=>none):=(W.emptyDict,#[],_,e1,8,(λe he=>absurd he 5),λ_=>8,);have I1:=I.laid (a:=s.heap.objs.size) (o:=.own (s.heap.objs.size+1)) (h':=s.heap.push W.emptyDict) (t':=s.toks) (λb u q=>a47 _ q) (amA _) (_,e1,);refine I1.laid (a:=s.heap.objs.size+1) (o:=.ins C s.heap.objs.size []) (t':=s.toks) (λb u q=>a47 _ q) (aMf (aET _ _)) ?_;have ne:s.heap.objs.size≠s.heap.objs.size+1:=abm (Nat.lt_succ_self _);refine(by rw[Zc ne,Za],aei _,ne,e2,λ_=>none,(Heap.Ns1.of_empty e3).at λo q=>a47 _ q,λ_=>True.intro,λy hy=>absurd 8 hy,)
theorem Zjq{prog:Program}{w:World}{env:Env}{e:Expr}{f:Str}{pos:Pos}{s:Shared}{Q:Value->Shared->Prop}(hb:attributeBase e f env (eval e env)=eval e env)
  (h:wpAny (model prog w) A (eval e env) (λo s₁=>wpAny (model prog w) A (getAttr o f true) Q E s₁) E s):wpAny (model prog w) A (eval (.Attribute e f pos) env) Q E s:=
 Attribute_any_ h (by rw[arm_eval_Attribute,hb])
end
def Gk(K:W.Frag)(ta:TE)(f:Str):TE:=λσ H Q=>ta σ H λx H1=>∃a C dx fs v,x=.ref a/\H1 a=!(.ins C dx fs)/\p9 K C/\aP K C f/\fs.lookup f=!v/\Q v H1
def Mr(K:W.Frag)(ta tv:TE)(f:Str):TS:=λD σ H=>tv σ H λy H1=>ta σ H1 λx H2=>∃a C dx fs,x=.ref a/\H2 a=!(.ins C dx fs)/\p9 K C/\aP K C f/\fs.length<1000 /\
 D.nx σ (upd H2 a (.ins C dx (ah f y fs)))
def JT(X:Cx)(op:Operator)(rd:V->V->Hp->VK->Prop):Prop:=
 ∀(pins:List (Addr×Obj))(s:Shared)(σ:St)(H:Hp)(x y:V)(u v:Value)(Q:VK),Inv X pins σ H s->RelV x u->RelV y v->rd x y H Q->wpAny (model X.prog X.w) X.A (inplaceOp op u v) (EP X pins σ Q) X.xe s
section
variable{X:Cx}{o e value:Expr}{f:Str}{pos pos' tpos:Pos}{ta tv:TE}
theorem Zkv(he:PE X e ta)(hb:attributeBase e f X.env (eval e X.env)=eval e X.env):PE X (.Attribute e f pos) (Gk X.K ta f):=by
 intro pins s σ H Q I h;refine Zjq hb (bV (he pins s σ H _ I h) λu s1 (x,H1,I1,rx,a,C,dx,fs,v,ex,ea,c,n,l,q,)=>?_);subst ex;obtain rfl:u=Value.ref a:=rx;exact ZfA I1 ea c n l λu' s2 I2 ru=>(v,H1,I2,ru,q,)
theorem rD(ha:PE X o ta)(hv:PE X value tv)(hs:swapsWith value (!(.Attribute o f pos')) pos.line X.env=pure false):PS X (.Assign [.Attribute o f pos'] value pos) (Mr X.K ta tv f):=by
 intro pins s σ H D I h;refine plainObj_wpAny_Assign_Attribute (fc (hv pins s σ H _ I h) λu s1 y H1 I1 ry q=>bV (ha pins s1 σ H1 _ I1 q) λov s2 (x,H2,I2,rx,a,C,dx,fs,ex,ea,c,n,l,q2,)=>?_) hs;subst ex;obtain rfl:ov=Value.ref a:=rx;exact ZfB I2 ea c n l ry λs3 I3=>(σ,_,I3,q2,)
inductive GG(x:V)(y:V)(H:Hp)(Q:VK):Prop
 |mk (i j:_):x=.int i->y=.int j->Q (.int (i+j)) H->GG x y H Q
theorem Zkw:JT X .Add GG:=by
 rintro pins s σ H x y u v Q I rx ry ⟨i,j,rfl,rfl,q⟩;let(t,rfl,):=(show ∃t,u=Value.int i t from rx);let(t',rfl,):=(show ∃t',v=Value.int j t' from ry);exact PyProof.Rows.iadd_int (.int (i+j),H,I.tok _,(_,8,),q,)
end
section
variable{X:Cx}{pins:List (Addr×Obj)}{σ:St}{H:Hp}{s:Shared}{A:Around}{E:Value->Shared->Prop}{Q:Value->Shared->Prop}{c:Value}{b:Bool}
inductive jy (K:W.Frag) (H:Hp):V->Value->Prop where
 |aN:jy K H .aN (.type "NoneType")
 |bl (x:Bool):jy K H (.bl x) (.type "bool")
 |int (i:Int):jy K H (.int i) (.type "int")
 |str (x:Str):jy K H (.str x) (.type "str")
 |AO (x:UInt64):jy K H (.AO x) (.type "float")
 |lst {a:Addr} {xs:List V} (e:H a=!(.lst xs)):jy K H (.ref a) (.type "list")
 |cQ {a:Addr} {o:Obj} {xs:List V} (e:H a=!(.cQ o (.lst xs))):jy K H (.ref a) (.type "list")
 |tup {a:Addr} {xs:List V} (e:H a=!(.tup xs)):jy K H (.ref a) (.type "tuple")
 |dK {a:Addr} {kvs:List (Key×V)} (e:H a=!(.dK kvs)):jy K H (.ref a) (.type "dict")
 |dT {a:Addr} {kvs:List (List Key×V)} (e:H a=!(.dT kvs)):jy K H (.ref a) (.type "dict")
 | ins {a C dx:Addr} {fs:List (Str×V)} (e:H a=!(.ins C dx fs)) (cl:p9 K C) (ha:W.findIn K (.ref C) "__class__"=!(!(.builtin "object.__class__")))
   (hn:W.specialIn K (.builtin "object.__class__") "__get__"=!(!(.builtin "getset_descriptor.__get__"))) (htk:W.takesIn K (.builtin "object.__class__")=!true)
   (hm:W.mroIn K C (.type "object")=!true):jy K H (.ref a) (.ref C)
theorem Zgr{x:V}{u t:Value}(I:Inv X pins σ H s)(rx:RelV x u)(ty:jy X.K H x t)(e:W.kitOne X.K t c=!b)(h:∀tk,Q (.bool b) { s with toks:=tk }) :
  wpAny (model X.prog X.w) A (call (.builtin "isinstance") [u,c]) Q E s:=by
 cases ty with
 |aN=>cases(show u=Value.none from rx);exact acJ W.kitx_none I.dw True.intro e (λz=>nomatch z) h
 |bl y=>cases(show u=Value.bool y from rx);exact acJ W.kitx_bool I.dw True.intro e (λz=>nomatch z) h
 |int i=>let(t,q,):=(show ∃t,u=Value.int i t from rx);cases q;exact acJ W.kitx_int I.dw True.intro e (λz=>nomatch z) h
 |str y=>let(t,q,):=(show ∃t,u=Value.str y t from rx);cases q;exact acJ W.kitx_str I.dw True.intro e (λz=>nomatch z) h
 |AO y=>let(t,q,):=(show ∃t,u=Value.float y t from rx);cases q;exact acJ W.kitx_float I.dw True.intro e (λz=>nomatch z) h
 | @lst a xs ea=>
  cases(show u=Value.ref a from rx);let(_,_,n,_,h1,):=(show aH X.prog X.w H s.heap a (.lst xs) from I.hok a _ ea);exact acJ W.kitx_list I.dw (_,h1,8,) e (λz=>nomatch z) h
 | @cQ a ob xs ea=>
  cases(show u=Value.ref a from rx);let(_,_,_,n,_,h1,):=(show aH X.prog X.w H s.heap a (.cQ ob (.lst xs)) from I.hok a _ ea);exact acJ W.kitx_list I.dw (_,h1,8,) e (λz=>nomatch z) h
 | @tup a xs ea=>
  cases(show u=Value.ref a from rx);let(_,_,_,p,):=(show aH X.prog X.w H s.heap a (.tup xs) from I.hok a _ ea);let(o,h1,h2,_,):=p;exact acJ W.kitx_tuple I.dw (o,h1,h2,) e (λz=>nomatch z) h
 | @dK a kvs ea=>
  cases(show u=Value.ref a from rx);let(_,_,vs,_,p,):=(show aH X.prog X.w H s.heap a (.dK kvs) from I.hok a _ ea);let(o,es,ep,h1,h2,_,):=p;exact acJ W.kitx_dict I.dw (o,h1,h2.1,) e (λz=>nomatch z) h
 | @dT a kvs ea=>
  cases(show u=Value.ref a from rx);let(_,_,xs,_,o,es,ep,h1,h2,_,):=(show aH X.prog X.w H s.heap a (.dT kvs) from I.hok a _ ea);exact acJ W.kitx_dict I.dw (o,h1,h2.1,) e (λz=>nomatch z) h
 | @ins a C dx fs ea cl ha hn htk hm=>
  cases(show u=Value.ref a from rx);let(mA,O,_,):=LB I.hok ea;let(od,J,_,):=O.look;exact acJ (W.kitx_own (cl.get _) cl.hd ha hn htk hm) I.dw J e (λz=>nomatch z) h
end
structure aY(k:Nat)(A:Around):Prop where
 hd:A.handled=none
 dp:A.depth+3*k+05<recursionLimit
 un:A.units+16*k+200<cLine
 gd:A.guards=![]
theorem aY.mono{j k:Nat}{A:Around}(r:aY k A)(h:j<=k):aY j A:=(r.hd,by have:=r.dp;lia,by have:=r.un;lia,r.gd,)
theorem aY.deeper{k:Nat}{A:Around}(r:aY (k+1) A)(env:Env):aY k (A.deeper env):=
 (r.hd,by have:=r.dp;show A.depth+1+3*k+05<_;lia,by have:=r.un;show A.units+3+16*k+200<_;lia,r.gd,)
theorem ZfC{A:Around}{C:Addr}{us:List Value}{kw:List (Str×Value)}:(A.under (.builtin "type.__call__" (.ref C ::us,kw,))).depth=A.depth+1:=by
 first|rfl|simp[Around.under,Code.weight,Code.isCreation,Code.isGuard,Code.isCaller,Code.frames,Code.isFrame,guardIds]
theorem ZfD{A:Around}{C:Addr}{us:List Value}{kw:List (Str×Value)}:(A.under (.builtin "type.__call__" (.ref C ::us,kw,))).units=A.units+1:=by
 first|rfl|simp[Around.under,Code.cUnits,Code.frames,Code.isFrame]
theorem aY.make{k:Nat}{A:Around}(r:aY (k+1) A)(C:Addr)(us:List Value)(kw:List (Str×Value)):aY k (A.under (.builtin "type.__call__" (.ref C ::us,kw,))):=
 (r.hd,by have:=r.dp;rw[ZfC];lia,by have:=r.un;rw[ZfD];lia,r.gd,)
theorem aY.depth{k:Nat}{A:Around}(r:aY k A):A.depth<recursionLimit:=by have:=r.dp;lia
theorem aY.units{k:Nat}{A:Around}(r:aY k A):A.units+64<cLine:=by have:=r.un;lia
def C0:TA:=λ_ H Q=>Q [] H
def Bx(ta:TE)(tr:TA):TA:=λσ H Q=>ta σ H λx H1=>tr σ H1 λxs H2=>Q (x ::xs) H2
section
variable{X:Cx}{e:Expr}{es:List Expr}{te:TE}{t:TA}{pos:Pos}
theorem Zb:PA X [] C0:=λ_ _ _ _ H Q I h=>aKB ([],H,I,.nil,h,)
theorem Zjr(ha:PE X e te)(hr:PA X es t)(hs:starEach (e ::es) X.env=(false,eval e X.env) ::starEach es X.env:=by rfl):PA X (e ::es) (Bx te t):=by
 intro pos pins s σ H Q I h;rw[hs];show wpAny _ _ (spliced ((false,eval e X.env) ::backTo pos (starEach es X.env))) _ _ s;refine bbt (fc (ha pins s σ H _ I h) λu s1 x H1 I1 r1 q1=>?_);exact tW (hr pos pins s1 σ H1 _ I1 q1) λus s2 xs H2 I2 r2 q2=>(x ::xs,H2,I2,.cons r1 r2,q2,)
def L8(t:TA):TE:=λσ H Q=>t σ H λxs H1=>xs.length<=sizeLine/\∀p,H1 p=none->Q (.ref p) (upd H1 p (.tup xs))
def Mf(t:TA):TE:=λσ H Q=>t σ H λxs H1=>xs.length<=sizeLine/\∀p,H1 p=none->Q (.ref p) (upd H1 p (.lst xs))
theorem ZJ{x1}(h:PA X es t):PE X (.Tuple es x1 pos) (L8 t):=by
 intro pins s σ H Q I hq;refine wpAny_Tuple_spliced (bV (h pos pins s σ H _ I hq) λus s1 (xs,H1,I1,r,z,q,)=>(by rw[<-r.length];exact z,?_,));have hf:H1 s1.heap.objs.size=none:=I1.hok.fresh (amA _);refine(.ref s1.heap.objs.size,upd H1 s1.heap.objs.size (.tup xs),I1.laid (t':=s1.toks) (λb u e=>a47 _ e) (amA _) ?_,8,q _ hf,);exact(z,us,r,(_,a1M _ 8,113,),)
theorem ZX(h:PA X es t):PE X (.List es pos) (Mf t):=by
 intro pins s σ H Q I hq;refine wpAny_List_spliced (bV (h pos pins s σ H _ I hq) λus s1 (xs,H1,I1,r,z,q,)=>(by rw[<-r.length];exact z,?_,));have hf:H1 s1.heap.objs.size=none:=I1.hok.fresh (amA _);refine(.ref s1.heap.objs.size,upd H1 s1.heap.objs.size (.lst xs),I1.laid (t':=s1.toks) (λb u e=>a47 _ e) (amA _) ?_,8,q _ hf,);exact(z,us,0,r,a1M _ 8,)
end
abbrev Sp:=List V->Hp->VK->XK->Prop
abbrev zj:=List Env->Hp->Shared->XK->Value->Shared->Prop
structure tU(P:Program)(w:World)(K:W.Frag)(mg:Str->Option Value)(base:Heap)(A:Around)(outer:List Env)(s:Shared)(H:Hp):Prop where
 frames:A.frames=!outer
 mod:Mod K mg base
 bs:∀b o,base.get? b=!o->s.heap.get? b=!o/\H b=none
 yN:base.objs.size<=s.heap.objs.size
 gY:s.heap.FunFrames base outer
 zw:∀b∈frs outer,H b=none
 hok:dU P w H s.heap
 bare:AllBare s.gens
def CE(outer:List Env)(P:Program)(w:World)(H:Hp)(s:Shared)(Q:VK)(u:Value)(s':Shared):Prop:=
 ∃v H',s'.os=s.os/\AllBare s'.gens/\Un (frs outer) [] H H' s.heap s'.heap/\dU P w H' s'.heap/\RelV v u/\Q v H'
def CR(CX:zj)(outer:List Env)(P:Program)(w:World)(H:Hp)(s:Shared)(Q:VK)(E:XK)(r:Result)(s':Shared):Prop:=
 match r with
 | .ok (.ret u)=>CE outer P w H s Q u s'
 | .ok _=>False
 | .error e=>CX outer H s E e s'
structure aZ(P:Program)(w:World)(K:W.Frag)(mg:Str->Option Value)(base:Heap)(CX:zj)(k:Nat)(f:Addr)(fd:FuncData)(ps:List Str)(sp:Sp):Prop where
 len:∀vs H Q E,sp vs H Q E->vs.length=ps.length
 run:∀(A:Around)(outer:List Env)(s:Shared)(H:Hp)(args:Args)(us:List Value)(vs:List V)(Q:VK)(E:XK),aY k A->tU P w K mg base A outer s H->BindsTo s fd args (ps.zip us)->Vals vs us->sp vs H Q E ->
  codeAny (model P w) A (.call (.ref f) args) (CR CX outer P w H s Q E) s
theorem tU.make{P:Program}{w:World}{K:W.Frag}{mg:Str->Option Value}{base:Heap}{A:Around}{outer:List Env}{s:Shared}{H:Hp}(e:tU P w K mg base A outer s H)(C:Addr)(us:List Value)(kw:List (Str×Value)) :
  tU P w K mg base (A.under (.builtin "type.__call__" (.ref C ::us,kw,))) outer s H:=(by first|exact e.frames|(simpa[Around.under,Code.envs,Code.isFrame,pushEnvs]using e.frames),e.mod,e.bs,e.yN,e.gY,e.zw,e.hok,e.bare,)
section
variable{X:Cx}{pins:List (Addr×Obj)}{σ:St}{H:Hp}{s s':Shared}
theorem Inv.AQ(I:Inv X pins σ H s):tU X.prog X.w X.K X.mg X.base X.A X.stack s H:=
 (I.ok.frames,I.ok.mod,I.bs,atw I.ok.yN I.sz,I.stack,I.oF,I.hok,I.bare,)
theorem Inv.after{Q:VK}{u:Value}(I:Inv X pins σ H s)(h:CE X.stack X.prog X.w H s Q u s'):EP X pins σ Q u s':=by
 let(v,H',os,bare,un,hok,r,q,):=h;let(hh,g,d,t,os',):=s';obtain rfl:os'=s.os:=os;exact(v,H',I.call (h':=hh) (g':=g) (d':=d) (t':=t) (ch:=[]) un hok bare (λb z=>absurd z 5),r,q,)
end
def tY(sp:Sp)(ny:List V)(E:XK)(t:TA):TE:=λσ H Q=>t σ H λvs H1=>sp (vs++ny) H1 Q E
def tX(C:Addr)(m:Str)(sp:Sp)(ny:List V)(E:XK)(ta:TE)(t:TA):TE:=λσ H Q=>ta σ H λx H1=>∃a dx fs,x=.ref a/\H1 a=!(.ins C dx fs)/\fs.lookup m=none /\
 t σ H1 λvs H2=>sp (x ::(vs++ny)) H2 Q E
def Bv(C:Addr)(sp:Sp)(ny:List V)(E:XK)(t:TA):TE:=λσ H Q=>t σ H λvs H1=>∀x dx,H1 x=none->H1 dx=none->dx≠x ->
 sp (.ref x ::(vs++ny)) (upd (upd H1 dx (.own x)) x (.ins C dx [])) (λv H2=>v=.aN/\Q (.ref x) H2) E
def Binds(K:W.Frag)(fd:FuncData)(ps:List Str)(ds:List Value):Prop:=
 ∀(s:Shared)(us:List Value),K.In s.heap->(us++ds).length=ps.length->BindsTo s fd (us,[],) (ps.zip (us++ds))
theorem Binds.all{K:W.Frag}{fd:FuncData}{ps:List Str}(h:∀us:List Value,us.length=ps.length->bindArgs fd (us,[],)=pure (ps.zip us)):Binds K fd ps []:=λs us _ hl=>by
 rw[bdd]at hl ⊢;exact .of_eq (h us hl)
def Ed(CX:zj)(X:Cx)(E:XK):Prop:=∀(pins:List (Addr×Obj))(σ:St)(H:Hp)(s:Shared)(e:Value)(s':Shared),Inv X pins σ H s->CX X.stack H s E e s'->X.xe e s'
section
variable{X:Cx}{CX:zj}{k:Nat}{f C:Addr}{fd:FuncData}{ps:List Str}{sp:Sp}{ny:List V}{ds:List Value}{E:XK}{x m:Str}{p pos apos:Pos}{e o:Expr}{es:List Expr}{ta:TE}{t:TA}
theorem Ll{pins:List (Addr×Obj)}{σ:St}{H:Hp}{s:Shared}{Q:VK}{us:List Value}{vs:List V}(F:aZ X.prog X.w X.K X.mg X.base CX k f fd ps sp)(hr:aY k X.A)(hb:Binds X.K fd ps ds)(hd:Vals ny ds)(hx:Ed CX X E)
  (I:Inv X pins σ H s) (r:Vals vs us) (h:sp (vs++ny) H Q E):wpAny (model X.prog X.w) X.A (call (.ref f) us) (EP X pins σ Q) X.xe s:=by
 have r2:Vals (vs++ny) (us++ds):=r.append hd;have hl:(us++ds).length=ps.length:=by rw[<-r2.length];exact F.len _ _ _ _ h
 refine wpAny_call (aPr (F.run X.A X.stack s H (us,[],) (us++ds) (vs++ny) Q E hr I.AQ (hb s us I.dw hl) r2 h) λr s' hq=>?_);cases r with
 |error e=>exact hx pins σ H s e s' I hq
 |ok fl=>
  cases fl with
  |ret u=>exact I.after hq
  |next=>exact False.elim hq
  |brk=>exact False.elim hq
  |cont=>exact False.elim hq
theorem Zjs(F:aZ X.prog X.w X.K X.mg X.base CX k f fd ps sp)(hr:aY k X.A)(hg:Gl X x)(hm:X.mg x=!(.ref f))(hk:W.keepIn X.K (.ref f)=true)(hb:Binds X.K fd ps ds)(hd:Vals ny ds)(hx:Ed CX X E)
  (ha:PA X (e ::es) t) (hdb:(x ==("__debug__":Str))=false:=by decide) (he:starEach (e ::es) X.env=(false,eval e X.env) ::starEach es X.env:=by rfl) (hpl:(backTo pos (starEach es X.env)).any (·.1)=false:=by rfl) :
  PE X (.Call (.Name x p) (e ::es) [] pos) (tY sp ny E t):=by
 intro pins s σ H Q I h;refine ah6 (Ff I hg hm ?_ hdb);refine W.callWith_K (h₀:=X.base) I.ok.mod.zv hk (tW (ha pos pins s σ H _ I h) λus s1 vs H1 I1 r q=>(I1.dw,?_,)) he hpl;exact Ll F hr hb hd hx I1 r q
theorem Zjt{pl:Sem Bool}(he:PE X o ta)(c:p9 X.K C)(hm:Meth X.K C m f)(F:aZ X.prog X.w X.K X.mg X.base CX k f fd ps sp)(hr:aY k X.A)(hb:Binds X.K fd ps ds)(hd:Vals ny ds)(hx:Ed CX X E)(ha:PA X (e ::es) t)
  (hst:starEach (e ::es) X.env=(false,eval e X.env) ::starEach es X.env:=by rfl) (hpl:(backTo pos (starEach es X.env)).any (·.1)=false:=by rfl)
  (ht:eval (.Call (.Attribute o m apos) (e ::es) [] pos) X.env=(do
   let ov <-eval o X.env
   standAt apos.atName
   let(f,first) <-holding [ov] (getMethod ov m pl)
   callWith pos f first (backTo pos (starEach (e ::es) X.env)) (backToKw pos (keywordEach [] X.env))):=by rfl) :
  PE X (.Call (.Attribute o m apos) (e ::es) [] pos) (tX C m sp ny E ta t):=by
 intro pins s σ H Q I h;refine W.methodCall_KW (pl:=pl) (bV (he pins s σ H _ I h) λu s1 (x,H1,I1,rx,a,dx,fs,ex,ea,l,q,)=>?_) ht;subst ex;obtain rfl:u=Value.ref a:=rx;refine Pe I1 ea c hm l ?_;refine W.callWith_K (first:=[.ref a]) (h₀:=X.base) I.ok.mod.zv hm.kp (tW (ha pos pins s1 σ H1 _ I1 q) λus s2 vs H2 I2 r q2=>(I2.dw,?_,)) hst hpl;exact Ll (us:=.ref a ::us) (vs:=.ref a ::vs) F hr hb hd hx I2 (.cons 8 r) q2
theorem ZhV{pl:Sem Bool}(he:PE X o ta)(c:p9 X.K C)(hm:Meth X.K C m f)(F:aZ X.prog X.w X.K X.mg X.base CX k f fd ps sp)(hr:aY k X.A)(hb:Binds X.K fd ps ds)(hd:Vals ny ds)(hx:Ed CX X E)
  (ht:eval (.Call (.Attribute o m apos) [] [] pos) X.env=(do
   let ov <-eval o X.env
   standAt apos.atName
   let(f,first) <-holding [ov] (getMethod ov m pl)
   callWith pos f first (backTo pos (starEach [] X.env)) (backToKw pos (keywordEach [] X.env))):=by rfl) :
  PE X (.Call (.Attribute o m apos) [] [] pos) (tX C m sp ny E ta C0):=by
 intro pins s σ H Q I h;refine W.methodCall_KW (pl:=pl) (bV (he pins s σ H _ I h) λu s1 (x,H1,I1,rx,a,dx,fs,ex,ea,l,q,)=>?_) ht;subst ex;obtain rfl:u=Value.ref a:=rx;refine Pe I1 ea c hm l ?_;exact W.callWith_K0 (first:=[.ref a]) I1.dw hm.kp (Ll (us:=[.ref a]) (vs:=[.ref a]) F hr hb hd hx I1 (.cons 8 .nil) q)
structure Mk(K:W.Frag)(C f:Addr):Prop where
 makes:W.makesIn K C=true
 init:W.findIn K (.ref C) "__init__"=!(!(.ref f))
 fn:W.isFn K (.ref f)=true
 kp:W.keepIn K (.ref C)=true
theorem ZhW{pins:List (Addr×Obj)}{σ:St}{H:Hp}{s:Shared}{Q:VK}{us:List Value}{vs:List V}(M:Mk X.K C f)(F:aZ X.prog X.w X.K X.mg X.base CX k f fd ps sp)(hr:aY (k+1) X.A)(hb:Binds X.K fd ps ds)(hd:Vals ny ds)
  (hx:Ed CX X E) (I:Inv X pins σ H s) (r:Vals vs us)
  (h:∀x dx,H x=none->H dx=none->dx≠x->sp (.ref x ::(vs++ny)) (upd (upd H dx (.own x)) x (.ins C dx [])) (λv H2=>v=.aN/\Q (.ref x) H2) E) :
  wpAny (model X.prog X.w) X.A (call (.ref C) us) (EP X pins σ Q) X.xe s:=by
 have hq:=h (s.heap.objs.size+1) s.heap.objs.size (I.hok.fresh (Nat.le_succ _)) (I.hok.fresh (amA _)) (abm (Nat.lt_succ_self _));have I2:=Inv.made (C:=C) I;have r2:Vals (V.ref (s.heap.objs.size+1) ::(vs++ny)) (Value.ref (s.heap.objs.size+1) ::(us++ds)):=.cons 8 (r.append hd);have hl:(Value.ref (s.heap.objs.size+1) ::us++ds).length=ps.length:=by
  have e:=r2.length;rw[F.len _ _ _ _ hq]at e;exact e.symm
 refine wpAny_call (ZhU (f:=f) I.dw M.makes M.init (aEg.mp M.fn) (aPr (F.run _ X.stack _ _ (Value.ref (s.heap.objs.size+1) ::us,[],) (Value.ref (s.heap.objs.size+1) ::(us++ds)) _ _ E (hr.make C us [])
  (I2.AQ.make C us []) (hb _ (Value.ref (s.heap.objs.size+1) ::us) I2.dw hl) r2 hq) λr s' hq'=>?_))
 cases r with
 |error e=>exact hx pins σ _ _ e s' I2 hq'
 |ok fl=>
  cases fl with
  |ret u=>
   let(v,H',I3,rv,ev,q3,):=I2.after hq';subst ev;exact(rv,(V.ref (s.heap.objs.size+1),H',I3,8,q3,),)
  |next=>exact False.elim hq'
  |brk=>exact False.elim hq'
  |cont=>exact False.elim hq'
theorem Zju(M:Mk X.K C f)(F:aZ X.prog X.w X.K X.mg X.base CX k f fd ps sp)(hr:aY (k+1) X.A)(hg:Gl X x)(hm:X.mg x=!(.ref C))(hb:Binds X.K fd ps ds)(hd:Vals ny ds)(hx:Ed CX X E)
  (ha:PA X (e ::es) t) (hdb:(x ==("__debug__":Str))=false:=by decide) (he:starEach (e ::es) X.env=(false,eval e X.env) ::starEach es X.env:=by rfl) (hpl:(backTo pos (starEach es X.env)).any (·.1)=false:=by rfl) :
  PE X (.Call (.Name x p) (e ::es) [] pos) (Bv C sp ny E t):=by
 intro pins s σ H Q I h;refine ah6 (Ff I hg hm ?_ hdb);refine W.callWith_K (h₀:=X.base) I.ok.mod.zv M.kp (tW (ha pos pins s σ H _ I h) λus s1 vs H1 I1 r q=>(I1.dw,?_,)) he hpl;exact ZhW M F hr hb hd hx I1 r q
end
structure d7(N P:List Str)(sc:Scope):Prop where
 kind:sc.kind=.function
 co:sc.isCoroutine=false
 gen:sc.isGenerator=false
 nd:N.Nodup
 pre:N.take P.length=P
 par:∀x∈P,sc.names.lookup x=!.local\/sc.names.lookup x=!.cell
 Dp:∀y∈sc.names,y.2≠.free
theorem UO{kindOf:Str->Option NameKind}{x:Str}:∀{binds:List (Str×Value)}{m:Str->Option Value},(∀v,(x,v)∉binds)->bindL kindOf binds m x=m x
 | [],_,_=>rfl
 |(n,v) ::r,m,h=>by
  unfold bindL;rw[UO λw hw=>h w (avG _ hw)];split
  .have:x≠n:=by rintro rfl;exact h v aKq
   simp[this]
  .rfl
theorem UN{kindOf:Str->Option NameKind}{x:Str}:∀{binds:List (Str×Value)}{m:Str->Option Value},(∀v,(x,v)∉binds)->bindC kindOf binds m x=m x
 | [],_,_=>rfl
 |(n,v) ::r,m,h=>by
  unfold bindC;rw[UN λw hw=>h w (avG _ hw)];split
  .rfl
  .have:x≠n:=by rintro rfl;exact h v aKq
   simp[this]
theorem UM{kindOf:Str->Option NameKind}{x:Str}{v:Value}:∀{P:List Str}{vs:List Value}{i:Nat}{m:Str->Option Value},P.Nodup->P[i]?=!x->vs[i]?=!v->kindOf x=!.local ->
  bindL kindOf (P.zip vs) m x=!v
 | [],_,_,_,_,h,_,_=>by simp at h
 |_ ::_,[],_,_,_,_,h,_=>by simp at h
 |p ::P,w ::vs,0,m,nd,h1,h2,hk=>by
  simp at h1 h2;subst h1;subst h2;show bindL kindOf ((p,w) ::P.zip vs) m p=_;unfold bindL;rw[UO λv hv=>(aPi.mp nd).1 (List.of_mem_zip hv).1,aS1 hk];simp
 |p ::P,w ::vs,i+1,m,nd,h1,h2,hk=>by
  show bindL kindOf ((p,w) ::P.zip vs) m x=_;unfold bindL;exact UM (i:=i) (aPi.mp nd).2 (by simpa using h1) (by simpa using h2) hk
theorem U3{kindOf:Str->Option NameKind}{x:Str}{v:Value}:∀{P:List Str}{vs:List Value}{i:Nat}{m:Str->Option Value},P.Nodup->P[i]?=!x->vs[i]?=!v->kindOf x≠!.local ->
  bindC kindOf (P.zip vs) m x=!v
 | [],_,_,_,_,h,_,_=>by simp at h
 |_ ::_,[],_,_,_,_,h,_=>by simp at h
 |p ::P,w ::vs,0,m,nd,h1,h2,hk=>by
  simp at h1 h2;subst h1;subst h2;show bindC kindOf ((p,w) ::P.zip vs) m p=_;unfold bindC;rw[UN λv hv=>(aPi.mp nd).1 (List.of_mem_zip hv).1,aWd hk];simp
 |p ::P,w ::vs,i+1,m,nd,h1,h2,hk=>by
  show bindC kindOf ((p,w) ::P.zip vs) m x=_;unfold bindC;exact U3 (i:=i) (aPi.mp nd).2 (by simpa using h1) (by simpa using h2) hk
def start(N:List Str)(vs:List V):St:=vs.map some++List.replicate (N.length-vs.length) none
def gm(CX:zj)(P:Program)(w:World)(K:W.Frag)(mg:Str->Option Value)(base:Heap)(N:List Str)(qual:Str)(scope:Scope)(f:Addr)(cd:Value)(A:Around)(outer:List Env)(s:Shared)(H:Hp)(E:XK):Cx where
 prog:=P
 w:=w
 K:=K
 mg:=mg
 base:=base
 A:=A.deeper (envOfC qual scope s.heap.objs.size f cd)
 N:=N
 s₀:=s
 H₀:=H
 env:=envOfC qual scope s.heap.objs.size f cd
 outer:=outer
 stack:=envOfC qual scope s.heap.objs.size f cd ::outer
 ex:=[]
 calm:=true
 fn:=λ_=>true
 pn:=[]
 xe:=λe s'=>wpAny (model P w) (A.deeper (envOfC qual scope s.heap.objs.size f cd)) (leaving (envOfC qual scope s.heap.objs.size f cd) e) (λ_ s''=>CX outer H s E e s'') (λe' s''=>CX outer H s E e' s'') s'
theorem UJ{sc:Scope}{n:Nat}{x:Str}(h:sc.names.lookup x=!.cell):∃c,(cellsFrom n sc.names []).lookup x=!c:=by
 have q:=W.cellsFrom_some sc.names n [] (.inl h);exact Option.isSome_iff_exists.mp q
theorem Zgs{CX:zj}{P:Program}{w:World}{K:W.Frag}{mg:Str->Option Value}{base:Heap}{N ps:List Str}{qual:Str}{scope:Scope}{f:Addr}{cd:Value}{A:Around}{outer:List Env}{s s1:Shared}{H:Hp}{E:XK}{us:List Value}{vs:List V}
  (S:d7 N ps scope) (hd:A.handled=none) (e0:tU P w K mg base A outer s H) (hl:vs.length=ps.length) (r:Vals vs us)
  (x:InCallC s s.heap.objs.size (bindL (envOfC qual scope s.heap.objs.size f cd).kindOf (ps.zip us) λ_=>none) (cellsFrom (s.heap.objs.size+1) scope.names []) (bindC (envOfC qual scope s.heap.objs.size f cd).kindOf (ps.zip us) λ_=>none) s1) :
  Inv (gm CX P w K mg base N qual scope f cd A outer s H E) [] (start N vs) H s1:=by
 have hpl:ps.length<=N.length:=by have:=aFk List.length S.pre;rw[agt]at this;lia
 let(h1,tk,rfl,hk,):=x.done;have Dq:∀b:Addr,b∉(gm CX P w K mg base N qual scope f cd A outer s H E).ex:=λb z=>absurd (show b∈([]:List Addr) from z) 5;refine((e0.mod,S.kind,8,8,amA _,λy z c h1 h2=>?_,λy hy=>?_,λy c _ h=>?_,λ_=>hd,Around.frames_deeper e0.frames,.inr (8,8,),λb z=>absurd z (Dq b),e0.bs,e0.yN,λb _ _=>Dq b,λb z=>absurd z (Dq b),e0.gY,e0.zw,),
  8,e0.bare,Un.kept hk,(_,x.toInCall.ns,λi y v h1 h2 h3=>?_,),λy c h=>(_,x.cell y c h,),e0.hok.fresh (amA _),λy c h=>?_,λp hp=>absurd (show p∈([]:List (Addr×Obj)) from hp) 5,e0.hok.kept hk,?_,)
 .exact name_of_addr x.apart (a1N h1) (a1N h2)
 .have hy:scope.names.lookup y=!.cell\/scope.names.lookup y=!.free:=hy;rcases hy with hy|hy
  .exact UJ hy
  .exact absurd 8 (S.Dp _ (a1N hy))
 .exact a92 (x.above y c (a1N h))
 .have hi:i<vs.length:=by
   unfold start at h2;by_cases hi:i<vs.length
   .exact hi
   .rw [aWn (by simpa using hi)]at h2;rw[afy]at h2;split at h2 <;> cases h2
  have ha:vs[i]?=!v:=by
   unfold start at h2;rw[ahZ (by simpa using hi),a7o]at h2;cases e:vs[i]? with
   |none=>rw[e]at h2;cases h2
   |some a=>rw[e]at h2;cases h2;rfl
  let(u,hu,rv,):=r.get ha;have hp:ps[i]?=!y:=by
   rw[<-S.pre,List.getElem?_take_of_lt 7];exact h1
  have QE:ps.Nodup:=by rw[<-S.pre];exact S.nd.sublist (List.take_sublist _ _)
  refine(u,rv,?_,);rcases S.par y (a1U hp) with k|k
  .exact .inl (k,UM QE hp hu k,)
  .let(c,e,):=UJ (n:=s.heap.objs.size+1) k;refine .inr (.inl k,c,e,?_,);have q:=x.cell y c e;rw[U3 QE hp hu (by show scope.names.lookup y≠_;rw[k];decide)]at q;exact q
 .exact e0.hok.fresh (a92 (x.above y c (a1N h)))
 .unfold start;show _=N.length;rw[a14,aHJ,a77];lia
theorem yI{CX:zj}{P:Program}{w:World}{K:W.Frag}{mg:Str->Option Value}{base:Heap}{k:Nat}{f:Addr}{name qual:Str}{params:Arguments}{body:List Stmt}{scope:Scope}{dV kV doc pm cdv ct oc:Value}{an od:Option Addr}
  {osl:Array (Option Value)} {N ps:List Str} {sp:Sp} (lk:K.lookup f=!(oc,od,.func (W.fnOf name qual params body scope dV kV doc pm an cdv ct),osl,)) (hcd:W.codeIn K cdv qual=true) (S:d7 N ps scope)
  (len:∀vs H Q E,sp vs H Q E->vs.length=ps.length)
  (hbody:∀(A:Around)(outer:List Env)(s:Shared)(H:Hp)(vs:List V)(Q:VK)(E:XK),aY k (A.deeper (envOfC qual scope s.heap.objs.size f cdv))->sp vs H Q E ->
   ∃t,tP (gm CX P w K mg base N qual scope f cdv A outer s H E) body t/\t { nx:=λ_ H'=>Q .aN H',rt:=Q } (start N vs) H) :
  aZ P w K mg base CX (k+1) f (W.fnOf name qual params body scope dV kV doc pm an cdv ct) ps sp:=by
 refine(len,λA outer s H args us vs Q E hr e0 hb r sV=>?_,);have hl:=len _ _ _ _ sV;have KX:K.In s.heap:=e0.mod.zv.keeps λb o e=>(e0.bs b o e).1;have lim:s.heap.NoLimit:=e0.mod.nolimit.keeps λb o e=>(e0.bs b o e).1;have hkind:∀y∈ps.zip us,scope.names.lookup y.1=!.local\/(scope.names.lookup y.1=!.cell/\((cellsFrom (s.heap.objs.size+1) scope.names []).lookup y.1).isSome=true):=λ(n,v,) hy=>by
  rcases S.par n (List.of_mem_zip hy).1 with q|q
  .exact .inl q
  .exact .inr (q,W.cellsFrom_some _ _ _ (.inl q),)
 refine codeAny_call_function hr.depth (KX _ _ lk) 8 S.co S.gen 8 (W.codeRec_of KX hcd) (hb _ _ _ _ ?_);refine wpAny_newFunctionEnv_cells S.kind hkind λenv he s1 x=>?_;subst he;refine(lim.keeps x.toInCall.keep,codeAny_func ?_,);let(t,ht,hq,):=hbody A outer s H vs Q E (hr.deeper _) sV;have I:Inv (gm CX P w K mg base N qual scope f cdv A outer s H E) [] (start N vs) H s1:=Zgs S hr.hd e0 hl r x;refine bac (ht [] s1 (start N vs) H _ I hq) (λfl s' hs=>?_) λe s' hs=>hs;have fin:∀{σ':St}{H':Hp}{v:V}{u:Value},Inv (gm CX P w K mg base N qual scope f cdv A outer s H E) [] σ' H' s'->RelV v u->Q v H'->CE outer P w H s Q u s':=
  λ{σ' H' v u} J rv q=>(v,H',J.os,J.bare,J.base,J.hok,rv,q,)
 cases fl with
 |ret u=>
  let(v,σ',H',J,rv,q,):=hs;exact fin J rv q
 |next=>
  let(σ',H',J,q,):=hs;exact fin (v:=V.aN) (u:=Value.none) J 8 q
 |brk=>
  let(_,_,_,q,):=hs;exact False.elim q
 |cont=>
  let(_,_,_,q,):=hs;exact False.elim q
section
variable{X:Cx}{x:Str}{p pos:Pos}{e:Expr}{es:List Expr}{t:TA}{id T:String}{r:List V->Hp->VK->Prop}
def Ke(r:List V->Hp->VK->Prop)(t:TA):TE:=λσ H Q=>t σ H λvs H1=>r vs H1 Q
theorem ZhX(hc:bw X (.builtin id) r)(hg:Gl X x)(hm:X.mg x=none)(hv:bootBuiltins x=!(.builtin id))(ha:PA X (e ::es) t)(hn:x ≠ "__name__":=by decide)(hdb:(x ==("__debug__":Str))=false:=by decide)
  (he:starEach (e ::es) X.env=(false,eval e X.env) ::starEach es X.env:=by rfl) (hpl:(backTo pos (starEach es X.env)).any (·.1)=false:=by rfl):PE X (.Call (.Name x p) (e ::es) [] pos) (Ke r t):=by
 intro pins s σ H Q I h;refine ah6 (zE I hg hm hv ?_ hn hdb);exact PyProof.Rows.callWith_builtin1 (tW (ha pos pins s σ H _ I h) λus s1 vs H1 I1 r1 q1=>hc pins s1 σ H1 vs us Q I1 r1 q1) he hpl
theorem Zgt(hc:bw X (.type T) r)(hg:Gl X x)(hm:X.mg x=none)(hv:bootBuiltins x=!(.type T))(ha:PA X (e ::es) t)(hn:x ≠ "__name__":=by decide)(hdb:(x ==("__debug__":Str))=false:=by decide)
  (he:starEach (e ::es) X.env=(false,eval e X.env) ::starEach es X.env:=by rfl) (hpl:(backTo pos (starEach es X.env)).any (·.1)=false:=by rfl):PE X (.Call (.Name x p) (e ::es) [] pos) (Ke r t):=by
 intro pins s σ H Q I h;refine ah6 (zE I hg hm hv ?_ hn hdb);exact aMm (tW (ha pos pins s σ H _ I h) λus s1 vs H1 I1 r1 q1=>hc pins s1 σ H1 vs us Q I1 r1 q1) he hpl
end
end L2
namespace HT
open PySem PyProof.Rows
theorem qV(A:Around)(s:Shared)(a:Int)(t:Tok)(c:Int)(u:Tok):∃e,SeqAt.EqAt A s (.int a t) (.int c u) e/\(e=true↔a=c):=
 ((a ==c),SeqAt.EqAt.int_int a t c u,5,)
section
open PySem.SeqAt
open PySem.AutoSeq1 (wpAny_loadPart')
open PySem.MeetsSeq PySem.MeetsSeq2 PySem.MeetsSeq3
end
section
variable{prog:Program}{w:World}{A:Around}{E:Value->Shared->Prop}{s:Shared}
def jP(n d:Nat):Option Int->Nat
 |none=>d
 |some v=>if v<0 then(v+(n:Int)).toNat else min v.toNat n
theorem xS(n d:Nat):jP n d none=d:=rfl
theorem uD(n d k:Nat):jP n d (!(k:Int))=min k n:=by
 show(if(k:Int)<0 then((k:Int)+(n:Int)).toNat else min (k:Int).toNat n)=min k n;rw[aWd 7,Int.toNat_natCast]
end
end HT
namespace L2
open PySem PySem.Spec PyProof.Rows
abbrev TO:=St->Hp->(Option Int->Hp->Prop)->Prop
def PO(X:Cx)(e:Option Expr)(t:TO):Prop:=
 ∀(pins:List (Addr×Obj))(s:Shared)(σ:St)(H:Hp)(Q:Option Int->Hp->Prop),Inv X pins σ H s->t σ H Q ->
  wpAny (model X.prog X.w) X.A (evalPart e X.env) (λu s'=>∃o H',Inv X pins σ H' s'/\IsPart u o/\Q o H') X.xe s
def Zjv:TO:=λ_ H Q=>Q none H
def Gh(t:TE):TO:=λσ H Q=>t σ H λx H1=>∃i,x=.int i/\Q (!i) H1
theorem Pd{ns:List Int}:∀{us:List Value},Vals (ns.map V.int) us->IntsAre us ns:=by
 induction ns with
 |nil=>intro us r;rw[map_nil]at r;cases r;exact .nil
 |cons n ns ih=>
  intro us r;rw[aZ1]at r;cases r with
  |cons r1 r2=>
   let(t,e,):=r1;subst e;exact .cons n t (ih r2)
section
variable{X:Cx}{e:Expr}{te:TE}{lo hi:Option Expr}{tl th:TO}{pos p2:Pos}
theorem Zjw:PO X none Zjv:=by
 intro pins s σ H Q I h;rw[evalPart_none];exact aO7 (none,H,I,.none,h,)
theorem OD(h:PE X e te):PO X (!e) (Gh te):=by
 intro pins s σ H Q I hw;rw[evalPart_some];refine fc (h pins s σ H _ I hw) λu s1 x H1 I1 r1 q1=>?_;let(i,rfl,q,):=q1;let(t,rfl,):=r1;exact(!i,H1,I1,.int i t,q,)
def Pn(X:Cx)(r:V->Option Int->Option Int->Hp->VK->Prop):Prop:=
 ∀(pins:List (Addr×Obj))(s:Shared)(σ:St)(H:Hp)(x:V)(v vl vu:Value)(lo hi:Option Int)(sl:Addr)(Q:VK),Inv X pins σ H s->RelV x v->s.heap.IsSliceOf sl vl vu .none->IsPart vl lo->IsPart vu hi->r x lo hi H Q ->
  ∃T id,typeLookup (.type T) "__getitem__"=pure (!(.builtin id))/\s.TypeIs v T/\wpAny (model X.prog X.w) X.A (getItem v (.ref sl)) (EP X pins σ Q) X.xe s
def WR(r:V->Option Int->Option Int->Hp->VK->Prop)(te:TE)(tl th:TO):TE:=λσ H Q=>te σ H λx H1=>tl σ H1 λl H2=>th σ H2 λu H3=>r x l u H3 Q
theorem UI{r:V->Option Int->Option Int->Hp->VK->Prop}(hr:Pn X r)(he:PE X e te)(hl:PO X lo tl)(hu:PO X hi th):PE X (.Subscript e (.Slice lo hi none p2) pos) (WR r te tl th):=by
 intro pins s σ H Q I h;refine Subscript_ (fc (he pins s σ H _ I h) λv s1 x H1 I1 r1 q1=>?_);refine wpAny_Slice (bV (hl pins s1 σ H1 _ I1 q1) λvl s2 (l,H2,I2,pl,q2,)=>bV (hu pins s2 σ H2 _ I2 q2) λvu s3 (u,H3,I3,pu,q3,)=>?_);rw[evalPart_none];refine aO7 ?_;have I4:Inv X pins σ H3 { s3 with heap:=s3.heap.push { cls:=.type "slice",data:=.fields #[vl,vu,.none] } }:=I3.kept (t':=s3.toks) λb ob q=>a47 _ q;let(T,id,hT,ht,hg,):=hr pins { s3 with heap:=s3.heap.push { cls:=.type "slice",data:=.fields #[vl,vu,.none] } } σ H3 x v vl vu l u s3.heap.objs.size Q I4 r1 (Heap.IsSliceOf.new ..) pl pu q3;show wpAny (model X.prog X.w) X.A (subscriptTail e (.Slice lo hi none p2) v (.ref s3.heap.objs.size)) (EP X pins σ Q) X.xe { s3 with heap:=s3.heap.push { cls:=.type "slice",data:=.fields #[vl,vu,.none] } };exact tail_any (ops:=[.ref s3.heap.objs.size,v]) ht hT hg (by with_unfolding_all rfl)
def qW(xs:List V)(lo hi:Option Int):List V:=(xs.drop (HT.jP xs.length 0 lo)).take (HT.jP xs.length xs.length hi-HT.jP xs.length 0 lo)
theorem Zek(xs:List V)(lo hi:Option Int):(qW xs lo hi).length<=xs.length:=by
 unfold qW;rw[agt,aKZ];lia
end
def uR(n:Nat)(i:Int):Option Nat:=if 0<=i then(if i<n then some i.toNat else none) else if -(n:Int)<=i then some (i+n).toNat else none
def fU{α:Type}(xs:List α)(i:Int):Option α:=(uR xs.length i).bind λj=>xs[j]?
theorem TM{n:Nat}{i:Int}{j:Nat}(h:uR n i=!j):seqIndex? i n=!j/\j<n /\ -(n:Int)<=i/\i<n:=by
 unfold uR at h;by_cases h0:0<=i
 .rw [aS1 h0]at h;by_cases h1:i<n
  .rw [aS1 h1]at h;have e:i.toNat=j:=aZC h;exact(by rw[seqIndex_of h0 h1,e],7,7,h1,)
  .rw [aWd h1]at h;cases h
 .rw [aWd h0]at h;by_cases h1: -(n:Int)<=i
  .rw [aS1 h1]at h;have e:(i+n).toNat=j:=aZC h;exact(by rw[seqIndex_neg 7 h1,e],7,h1,7,)
  .rw [aWd h1]at h;cases h
theorem TL{α:Type}{xs:List α}{i:Int}{v:α}(h:fU xs i=!v):∃j,seqIndex? i xs.length=!j/\xs[j]?=!v/\j<xs.length /\ -(xs.length:Int)<=i/\i<xs.length:=by
 unfold fU at h;cases e:uR xs.length i with
 |none=>rw[e]at h;cases h
 |some j=>
  rw[e]at h;let(h1,h2,h3,h4,):=TM e;exact(j,h1,h,h2,h3,h4,)
theorem yV{α:Type}{xs:List α}{j:Nat}{v:α}(h:xs[j]?=!v):fU xs (j:Int)=!v:=by
 have hj:j<xs.length:=(au3.mp h).1;have e:uR xs.length (j:Int)=!j:=by
  unfold uR;rw[aS1 7,aS1 7];simp
 unfold fU;rw[e];exact h
def Zjx(b:Expr):Prop:=∀o i,subscripted b false o i=operate [o,i] (getItem o i)
def JS(X:Cx)(r:R2):Prop:=
 ∀(value slice:Expr)(pins:List (Addr×Obj))(s:Shared)(σ:St)(H:Hp)(x y:V)(v u:Value)(Q:VK),Inv X pins σ H s->RelV x v->RelV y u->r x y H Q ->
  subscripted slice false v u=operate [v,u] (getItem v u)->wpAny (model X.prog X.w) X.A (subscriptTail value slice v u) (EP X pins σ Q) X.xe s
def MtR(X:Cx)(id:String)(r:V->List V->Hp->VK->Prop):Prop:=
 ∀(pins:List (Addr×Obj))(s:Shared)(σ:St)(H:Hp)(x:V)(xs:List V)(v:Value)(us:List Value)(Q:VK),Inv X pins σ H s->RelV x v->Vals xs us->r x xs H Q ->
  wpAny (model X.prog X.w) X.A (call (.builtin id) (v ::us)) (EP X pins σ Q) X.xe s
section
variable{X:Cx}{a b:Expr}{ta tb:TE}{pos:Pos}
theorem ak{r:R2}(hr:JS X r)(ha:PE X a ta)(hb:PE X b tb)(hs:Zjx b):PE X (.Subscript a b pos) (Kd r ta tb):=by
 intro pins s σ H Q I h;exact Subscript_ (D7 ha hb I h λv u s2 x y H2 I2 rx ry q=>hr a b pins s2 σ H2 x y v u Q I2 rx ry q (hs _ _))
inductive De(K:W.Frag)(x:V)(y:V)(H:Hp)(Q:VK):Prop
 |mk (p xs i v:_):x=.ref p->y=.int i->au K H p xs->fU xs i=!v->Q v H->De K x y H Q
inductive Dc(K:W.Frag)(x:V)(y:V)(H:Hp)(Q:VK):Prop
 |mk (p xs i v:_):x=.ref p->y=.int i->aX K H p xs->fU xs i=!v->Q v H->Dc K x y H Q
theorem Zjy:JS X (De X.K):=by
 intro value slice pins s σ H x y v u Q I rx ry h hs;let(p,xs,i,z,rfl,rfl,hq,he,q,):=h;cases rx;let(t,rfl,):=ry;let(its,r,pl,hz,):=I.list hq;let(j,h1,h2,h3,h4,h5,):=TL he;let(w,ew,rw',):=r.get h2;have hl:=r.length;have hn:=Jb;have fin:EP X pins σ Q w s:=(z,H,I,rw',q,);by_cases h0:0<=i
 .have hj:i.toNat=j:=by
   rw[seqIndex_of h0 h5]at h1;exact aZC h1
  exact item_listR pl.isList h0 7 (by rw[hj];simpa using ew) fin hs
 .have hj:(i+(its.toArray.size:Int)).toNat=j:=by
   rw[seqIndex_neg 7 h4]at h1;rw[ahA,<-hl];exact aZC h1
  exact subscriptTail_builtinR (x:=w) pl.isList.typeIs slot_list_getitem.lookup
   (wpAny_getItem_list_neg (Q:=λr s'=>r=w/\EP X pins σ Q r s') pl.isList 7 (by rw[ahA] <;> lia) 7 (by rw[hj];simpa using ew) (8,fin,)) hs
theorem Zkx:JS X (Dc X.K):=by
 intro value slice pins s σ H x y v u Q I rx ry h hs;let(p,xs,i,z,rfl,rfl,hq,he,q,):=h;cases rx;let(t,rfl,):=ry;let(its,r,pl,hz,):=I.tuple hq;let(j,h1,h2,h3,h4,h5,):=TL he;let(w,ew,rw',):=r.get h2;have hl:=r.length;have hn:=Jb;have fin:EP X pins σ Q w s:=(z,H,I,rw',q,);exact subscriptTail_builtinR (x:=w) pl.typeIs slot_tuple_getitem.lookup
  (getItem_tuple (j:=j) (Q:=λr s'=>r=w/\EP X pins σ Q r s') pl 7 7 (by rw[ahA,<-hl];exact h1) (by simpa using ew) (8,fin,)) hs
theorem ZfE(its:List Value)(n j:Nat)(u:Value):Obj.mapSeq (·.setIfInBounds j u) { cls:=.type "list",data:=.seq its.toArray n }={ cls:=.type "list",data:=.seq (its.set j u).toArray n }:=by
 simp[Obj.mapSeq]
theorem Inv.lst{pins:List (Addr×Obj)}{σ:St}{H:Hp}{s:Shared}{p:Addr}{xs:List V}(I:Inv X pins σ H s)(h:H p=!(.lst xs)) :
  ∃(its:List Value)(n:Nat),Vals xs its/\s.heap.get? p=!{ cls:=.type "list",data:=.seq its.toArray n }/\xs.length<=sizeLine:=by
 let(z,its,n,r,e,):=I.hok p _ h;exact(its,n,r,e,z,)
theorem Inv.DB{pins:List (Addr×Obj)}{σ:St}{H:Hp}{s:Shared}{p:Addr}{xs ys:List V}{its its':List Value}{n n':Nat}{f:Obj->Obj}(I:Inv X pins σ H s)(h:H p=!(.lst xs))
  (ho:s.heap.get? p=!{ cls:=.type "list",data:=.seq its.toArray n }) (hf:f { cls:=.type "list",data:=.seq its.toArray n }={ cls:=.type "list",data:=.seq its'.toArray n' }) (r:Vals ys its') (hz:ys.length<=sizeLine) (t:Nat) :
  Inv X pins σ (upd H p (.lst ys)) { s with heap:=s.heap.update p f,toks:=t }:=by
 have e:(s.heap.update p f).get? p=!{ cls:=.type "list",data:=.seq its'.toArray n' }:=by
  rw[Heap.get?_update_self f ho (by rw[hf] <;> rfl),hf]
 refine I.write (x:=p) (e:=p) (by rw[h];trivial) (.inl 8) (λb u hb q=>(Heap.get?_update_other _ _ (aBl hb)).trans q) (_,e,) ?_;exact(hz,its',n',r,e,)
def GA:V->V->V->Hp->(Hp->Prop)->Prop:=λo i v H Q=>∃p xs k j,o=.ref p/\i=.int k/\H p=!(.lst xs)/\uR xs.length k=!j/\Q (upd H p (.lst (xs.set j v)))
theorem Eg:JM X GA:=by
 intro pins s σ H o i v ov iv u Q I ro ri rv h;let(p,xs,k,j,rfl,rfl,hp,hj,q,):=h;cases ro;let(t,rfl,):=ri;let(its,n,r,ho,hz,):=I.lst hp;let(h1,h2,h3,h4,):=TM hj;have hl:=r.length;have hn:=Jb;have I':Inv X pins σ (upd H p (.lst (xs.set j v))) { s with heap:=s.heap.update p (Obj.mapSeq (·.setIfInBounds j u)) }:=
  I.DB hp ho (ZfE its n j u) (r.set rv j) (by rw[aKe];exact hz) s.toks
 by_cases h0:0<=k
 .have hk:k.toNat=j:=by
   rw[seqIndex_of h0 h4]at h1;exact aZC h1
  exact W.ki_setAt ho h0 7 (by rw[ahA,<-hl];exact h4) (by rw[hk];exact(_,I',q,))
 .have hk:(k+(its.toArray.size:Int)).toNat=j:=by
   rw[seqIndex_neg 7 h3]at h1;rw[ahA,<-hl];exact aZC h1
  exact W.ki_setBack ho 7 (by rw[ahA,<-hl];exact h3) 7 (by rw[hk];exact(_,I',q,))
theorem ZdB(lo hi:Option Int)(n:Nat):(sliceBounds lo hi none n).1=((HT.jP n 0 lo:Nat):Int)/\(sliceBounds lo hi none n).2.1=((HT.jP n n hi:Nat):Int)/\(sliceBounds lo hi none n).2.2=1:=by
 refine(?_,?_,8,)
 .cases lo with
  |none=>simp[sliceBounds,HT.jP]
  |some i=>
   simp only[sliceBounds,HT.jP,Option.getD_none,show(1:Int)>0 by decide,akf];by_cases h:i<0
   .simp only[h,akf] <;> lia
   .simp only[h,aaq] <;> lia
 .cases hi with
  |none=>simp[sliceBounds,HT.jP]
  |some i=>
   simp only[sliceBounds,HT.jP,Option.getD_none,show(1:Int)>0 by decide,akf];by_cases h:i<0
   .simp only[h,akf] <;> lia
   .simp only[h,aaq] <;> lia
theorem ZcQ(its:List Value)(lo hi:Option Int):slicePick its.toArray lo hi none=((its.drop (HT.jP its.length 0 lo)).take (HT.jP its.length its.length hi-HT.jP its.length 0 lo)).toArray:=by
 let(h1,h2,h3,):=ZdB lo hi its.toArray.size;unfold slicePick;rw[h1,h2,h3];simp only[sliceRange_one,pick_run,ahA] <;> rfl
inductive C9(K:W.Frag)(x:V)(lo:Option Int)(hi:Option Int)(H:Hp)(Q:VK):Prop
 |mk (a xs:_):x=.ref a->au K H a xs->(∀p,H p=none->Q (.ref p) (upd H p (.lst (qW xs lo hi))))->C9 K x lo hi H Q
theorem Zjz:Pn X (C9 X.K):=by
 intro pins s σ H x v vl vu lo hi sl Q I rx hs pl pu h;let(a,xs,rfl,hx,q,):=h;cases rx;let(its,r,ht,hz,):=I.list hx;have hlen:=r.length;refine("list",_,slot_list_getitem.lookup,ht.isList.typeIs,?_,);refine wpAny_getItem_list_slice ht.isList hs pl pu .none 5 ?_ (by rw[ahA] <;> lia);rw[ZcQ,<-hlen];refine(.ref s.heap.objs.size,_,I.laid (t':=s.toks) (o:=.lst (qW xs lo hi)) (λb ob q=>a47 _ q) (amA _) ?_,8,q _ (I.hok.fresh (amA _)),);exact(atw (Zek xs lo hi) hz,_,0,(r.drop (HT.jP xs.length 0 lo)).take (HT.jP xs.length xs.length hi-HT.jP xs.length 0 lo),a1M _ 8,)
def gH:V->Bool
 | .aN=>true
 | .bl _=>true
 | .int _=>true
 | .str _=>true
 |_=>false
def zy:V->V->Bool
 | .aN,.aN=>true
 | .bl a,.bl b=>a ==b
 | .bl a,.int b=>(if a then 1 else 0) ==b
 | .int a,.bl b=>a ==(if b then 1 else 0)
 | .int a,.int b=>a ==b
 | .str a,.str b=>a ==b
 |_,_=>false
theorem Zky{A:Around}{s:Shared}{y x:V}{u v:Value}(ry:RelV y u)(rx:RelV x v)(fy:gH y=true)(fx:gH x=true):SeqAt.EqAt A s u v (zy y x):=by
 cases y with
 |aN=>
  cases ry;cases x with
  |aN=>cases rx;exact SeqAt.EqAt.same _
  |bl b=>cases rx;exact SeqAt.EqAt.none_bool b
  |int b=>let(t,rfl,):=rx;exact SeqAt.EqAt.none_int b t
  |str b=>let(t,rfl,):=rx;exact SeqAt.EqAt.none_str b t
  |_=>exact absurd (show false=true from fx) aqS
 |bl a=>
  cases ry;cases x with
  |aN=>cases rx;exact SeqAt.EqAt.bool_none a
  |bl b=>cases rx;exact SeqAt.EqAt.bool_bool a b
  |int b=>let(t,rfl,):=rx;exact SeqAt.EqAt.bool_int a b t
  |str b=>let(t,rfl,):=rx;exact SeqAt.EqAt.bool_str a b t
  |_=>exact absurd (show false=true from fx) aqS
 |int a=>
  let(t',rfl,):=ry;cases x with
  |aN=>cases rx;exact SeqAt.EqAt.int_none a t'
  |bl b=>cases rx;exact SeqAt.EqAt.int_bool a t' b
  |int b=>let(t,rfl,):=rx;exact SeqAt.EqAt.int_int a t' b t
  |str b=>let(t,rfl,):=rx;exact SeqAt.EqAt.int_str a t' b t
  |_=>exact absurd (show false=true from fx) aqS
 |str a=>
  let(t',rfl,):=ry;cases x with
  |aN=>cases rx;exact SeqAt.EqAt.str_none a t'
  |bl b=>cases rx;exact SeqAt.EqAt.str_bool a t' b
  |int b=>let(t,rfl,):=rx;exact SeqAt.EqAt.str_int a t' b t
  |str b=>let(t,rfl,):=rx;exact SeqAt.EqAt.str_str a t' b t
  |_=>exact absurd (show false=true from fx) aqS
 |_=>exact absurd (show false=true from fy) aqS
def tH(x:V)(u:Value):Bool:=match u with
 | .none=>zy .aN x
 | .bool b=>zy (.bl b) x
 | .int i _=>zy (.int i) x
 | .str z _=>zy (.str z) x
 |_=>false
theorem SX{x y:V}{u:Value}(r:RelV y u)(f:gH y=true):tH x u=zy y x:=by
 cases y with
 |aN=>cases r;rfl
 |bl b=>cases r;rfl
 |int i=>let(t,rfl,):=r;rfl
 |str z=>let(t,rfl,):=r;rfl
 |_=>exact absurd (show false=true from f) aqS
theorem Jx{x:V}:∀{xs:List V}{us:List Value},Vals xs us->xs.all gH=true->us.any (tH x)=xs.any λy=>zy y x
 |_,_,.nil,_=>rfl
 |y ::xs,u ::us,.cons r t,f=>by
  rw[all_cons,aNn]at f;rw[any_cons,any_cons,SX r f.1,Jx t f.2]
theorem JC{A:Around}{s:Shared}{x:V}{v:Value}(rx:RelV x v)(fx:gH x=true):∀{xs:List V}{us:List Value},Vals xs us->xs.all gH=true->∀u∈us,SeqAt.EqAt A s u v (tH x u)
 |_,_,.nil,_=>λu hu=>by cases hu
 |y ::xs,u ::us,.cons r t,f=>λu' hu=>by
  rw[all_cons,aNn]at f;rcases ajG.mp hu with rfl|hu
  .rw [SX r f.1];exact Zky r rx f.1 fx
  .exact JC rx fx t f.2 u' hu
def K0(x:V)(xs:List V):Bool:=xs.any λy=>zy y x
inductive GC(K:W.Frag) (neg:Bool)(x:V)(y:V)(H:Hp)(Q:VK):Prop
 |mk (p xs:_):y=.ref p->(au K H p xs\/aX K H p xs)->gH x=true->xs.all gH=true->Q (.bl (if neg then (not (K0 x xs)) else K0 x xs)) H->GC K neg x y H Q
theorem Zgw:jS X (compareOp .In) (GC X.K false):=by
 intro pins s σ H x y v u Q I rx ry h;let(p,xs,rfl,hq,fx,fs,q,):=h;cases ry;rcases hq with hq|hq
 .let(its,r,pl,hz,):=I.list hq;refine SeqAt.in_listAt (tH x) pl.isList (λw hw=>JC rx fx r fs w (by simpa using hw)) (.bl _,H,I,8,?_,);rw[show its.toArray.any (tH x)=its.any (tH x) by simp,Jx r fs];exact q
 .let(its,r,pl,hz,):=I.tuple hq;refine SeqAt.in_tupleAt (tH x) pl (λw hw=>JC rx fx r fs w (by simpa using hw)) (.bl _,H,I,8,?_,);rw[show its.toArray.any (tH x)=its.any (tH x) by simp,Jx r fs];exact q
theorem ZdC:jS X (compareOp .NotIn) (GC X.K true):=by
 intro pins s σ H x y v u Q I rx ry h;let(p,xs,rfl,hq,fx,fs,q,):=h;cases ry;rcases hq with hq|hq
 .let(its,r,pl,hz,):=I.list hq;refine SeqAt.notIn_listAt (tH x) pl.isList (λw hw=>JC rx fx r fs w (by simpa using hw)) (.bl _,H,I,8,?_,);rw[show its.toArray.any (tH x)=its.any (tH x) by simp,Jx r fs];exact q
 .let(its,r,pl,hz,):=I.tuple hq;refine SeqAt.notIn_tupleAt (tH x) pl (λw hw=>JC rx fx r fs w (by simpa using hw)) (.bl _,H,I,8,?_,);rw[show its.toArray.any (tH x)=its.any (tH x) by simp,Jx r fs];exact q
theorem ZdD:bw X (.builtin "len") (λxs H Q=>∃p ys,xs=[.ref p]/\(au X.K H p ys\/aX X.K H p ys)/\Q (.int ys.length) H):=by
 intro pins s σ H xs us Q I r h;let(p,ys,rfl,hq,q,):=h;let(u,rfl,rx,):=vals1 r;cases rx;have hn:=Jb;rcases hq with hq|hq
 .let(its,r',pl,hz,):=I.list hq;have hlen:=r'.length;exact Calls.call_len_list pl.isList (by simp only[ahA] <;> lia) (.int ys.length,H,I.tok _,(s.toks+1,by rw[ahA,hlen],),q,)
 .let(its,r',pl,hz,):=I.tuple hq;have hlen:=r'.length;exact len_tuple pl (by simp only[ahA] <;> lia) (.int ys.length,H,I.tok _,(s.toks+1,by rw[ahA,hlen],),q,)
theorem Vl:bw X (.builtin "len") (λxs H Q=>∃z,xs=[.str z]/\z.length<=sizeLine/\Q (.int z.length) H):=by
 intro pins s σ H xs us Q I r h;let(z,rfl,hz,q,):=h;let(u,rfl,t,rfl,):=vals1 r;have hn:=Jb;exact len_str 7 (.int z.length,H,I.tok _,(_,8,),q,)
theorem ZdE:bw X (.type "list") (λxs H Q=>∃p ys,xs=[.ref p]/\(au X.K H p ys\/aX X.K H p ys)/\∀l,H l=none->Q (.ref l) (upd H l (.lst ys))):=by
 intro pins s σ H xs us Q I r h;let(p,ys,rfl,hq,q,):=h;let(u,rfl,rx,):=vals1 r;cases rx;have fin:∀(its:List Value),Vals ys its->ys.length<=sizeLine->∀(h':Heap)(c':Nat),(∀b o',s.heap.get? b=!o'->h'.get? b=!o') ->
   h'.get? s.heap.objs.size=!{ cls:=.type "list",dict:=none,data:=.seq its.toArray c',slots:=#[] }->EP X pins σ Q (.ref s.heap.objs.size) { s with heap:=h' }:=λits r' hz h' c' kp e=>
  (.ref s.heap.objs.size,_,I.laid (t':=s.toks) kp (amA _) (show aH X.prog X.w _ h' _ (.lst ys) from(hz,its,c',r',e,)),8,q _ (I.hok.fresh (amA _)),)
 rcases hq with hq|hq
 .let(its,r',pl,hz,):=I.list hq;have hlen:=r'.length;let(o,ho,hc,n,hd,):=pl.isList;exact call_list_seq p (.inl 8) ho hc hd (λh' c' kp e=>fin its r' hz h' c' kp e) (by simp only[ahA] <;> lia)
 .let(its,r',pl,hz,):=I.tuple hq;have hlen:=r'.length;let(o,ho,hc,n,hd,):=pl;exact call_list_seq p (.inr 8) ho hc hd (λh' c' kp e=>fin its r' hz h' c' kp e) (by simp only[ahA] <;> lia)
theorem ZcR:bw X (.type "tuple") (λxs H Q=>∃p ys,xs=[.ref p]/\((au X.K H p ys/\∀l,H l=none->Q (.ref l) (upd H l (.tup ys)))\/(aX X.K H p ys/\Q (.ref p) H))):=by
 intro pins s σ H xs us Q I r h;let(p,ys,rfl,h,):=h;let(u,rfl,rx,):=vals1 r;cases rx;rcases h with⟨hq,q⟩|⟨hq,q⟩
 .let(its,r',pl,hz,):=I.list hq;have hlen:=r'.length;refine call_tuple_list pl.isList (λh' kp=>?_) (by simp only[ahA] <;> lia);have I1:Inv X pins σ H { s with heap:=h' }:=I.kept (t':=s.toks) kp;have I2:Inv X pins σ (upd H h'.objs.size (.tup ys)) { s with heap:=h'.push { cls:=.type "tuple",data:=.seq its.toArray } }:=
   I1.laid (t':=s.toks) (λb o e=>a47 _ e) (amA _) (show aH X.prog X.w _ _ _ (.tup ys) from(hz,its,r',IsTup.new _ _,))
  exact(.ref h'.objs.size,_,I2,8,q _ (I1.hok.fresh (amA _)),)
 .let(its,r',pl,hz,):=I.tuple hq;exact call_tuple_same pl (.ref p,H,I,8,q,)
def P8(K:W.Frag)(T:String)(x:V)(H:Hp):Prop:=match x with
 | .str _=>T ="str"
 | .int _=>T ="int"
 | .ref p=>(T ="list" /\ ∃xs,au K H p xs)\/(T ="tuple" /\ ∃o,K.lookup p=!o/\o.cls=.type "tuple" /\o.dict=none) \/
   (T ="dict" /\((∃kvs,H p=!(.dK kvs))\/∃kvs,H p=!(.dT kvs)))\/(T ="set" /\ ∃S n,H p=!(.set S n))
 |_=>False
theorem Zkz{pins:List (Addr×Obj)}{σ:St}{H:Hp}{s:Shared}{T:String}{x:V}{v:Value}(I:Inv X pins σ H s)(r:RelV x v)(ty:P8 X.K T x H) :
  s.TypeIs v T/\∀a,v=.ref a->∃ob,s.heap.get? a=!ob/\ob.dict=none:=by
 cases x with
 |str z=>
  let(t,rfl,):=r;cases(show T ="str" from ty);exact⟨typeIs_str s z t,λ_ e=>nomatch e⟩
 |int i=>
  let(t,rfl,):=r;cases(show T ="int" from ty);exact⟨typeIs_int s i t,λ_ e=>nomatch e⟩
 |ref p=>
  cases r;rcases ty with⟨rfl,xs,hq⟩|⟨rfl,o,hk,hc,hd⟩|⟨rfl,hk⟩|⟨rfl,S,n,hk⟩
  .let(its,_,pl,_,):=I.list hq;refine(pl.isList.typeIs,λa e=>?_,);cases e;let(o,n,e,c,hd,_,):=pl;exact(o,e,hd,)
  .refine ((o,I.dw p o hk,hc,),λa e=>?_,);cases e;exact(o,I.dw _ o hk,hd,)
  .have z:∃o,s.heap.get? p=!o/\o.ExactDict:=by
    rcases hk with⟨kvs,hk⟩|⟨kvs,hk⟩
    .let(_,_,_,_,o,_,_,e,ex,_,):=I.hok p _ hk;exact(o,e,ex,)
    .let(_,_,_,_,o,_,_,e,ex,_,):=I.hok p _ hk;exact(o,e,ex,)
   let(o,e,ex,):=z;refine((o,e,ex.1,),λa e2=>?_,);cases e2;exact(o,e,ex.2.1,)
  .let(o,_,_,_,e,ex,_,):=I.hok p _ hk;refine((o,e,ex.1,),λa e2=>?_,);cases e2;exact(o,e,ex.2.1,)
 |_=>exact False.elim ty
def Mj(K:W.Frag)(T:String)(r:V->List V->Hp->VK->Prop)(to:TE)(t:TA):TE:=λσ H Q=>to σ H λx H1=>P8 K T x H1/\t σ H1 λxs H2=>r x xs H2 Q
variable{o e:Expr}{es:List Expr}{to:TE}{t:TA}{name:Str}{apos cpos:Pos}{T id:String}{r:V->List V->Hp->VK->Prop}
theorem bZ(pa:PlainAttrs T)(slot:Slot T name id)(hty:typeOf (.builtin id)=pure (.type "method_descriptor"))(hm:MtR X id r)(ho:PE X o to)(ha:PA X (e ::es) t)
  (hbase:attributeBase o name X.env (eval o X.env)=eval o X.env:=by rfl)
  (hfew:((backTo cpos (starEach (e ::es) X.env)).all (λx=>(not (x.1))) && (backToKw cpos (keywordEach [] X.env)).all (λx=>x.1.isSome)
   && decide ((e ::es).length+([]:List Keyword).length+(if([]:List Keyword).isEmpty then 0 else 1)<30))=true:=by rfl)
  (hline:(apos.endLine ==cpos.line)=true:=by rfl) (hs:starEach (e ::es) X.env=(false,eval e X.env) ::starEach es X.env:=by rfl) (hplain:(backTo cpos (starEach es X.env)).any (·.1)=false:=by rfl) :
  PE X (.Call (.Attribute o name apos) (e ::es) [] cpos) (Mj X.K T r to t):=by
 intro pins s σ H Q I h;refine wpAny_Call_method_late hbase hfew hline 8 (bV (ho pins s σ H _ I h) λv s1 (x,H1,I1,r1,ty,q1,)=>?_);let(h1,h2,):=Zkz I1 r1 ty;refine(T,id,pa,slot,hty,h1,h2,?_,);have hA:=ha cpos pins s1 σ H1 _ I1 q1;rw[hs]at hA ⊢;refine asa (by show(false || (backTo cpos (starEach es X.env)).any (·.1))=false;rw[hplain] <;> rfl) (aHi ?_);exact bV hA λus s2 (vs,H2,I2,r2,q2,)=>hm pins s2 σ H2 x vs v us Q I2 r1 r2 q2
/- xs.append(e),list.index on a module's tuple .. are MtR facts of 06m -/
end
def Py(X:Cx)(id:String)(r:V->List V->Hp->VK->Prop):Prop:=
 ∀(pins:List (Addr×Obj))(s:Shared)(σ:St)(H:Hp)(x:V)(xs:List V)(v:Value)(us:List Value)(Q:VK),Inv X pins σ H s->RelV x v->Vals xs us->r x xs H Q ->
  wpAny (model X.prog X.w) X.A (call (.builtin id) (v ::us)) (EP X pins σ Q) X.xe s
theorem Vals.one:∀{x:V}{us:List Value},Vals [x] us->∃u,us=[u]/\RelV x u
 |_,_,.cons r .nil=>(_,8,r,)
section
variable{X:Cx}{pins:List (Addr×Obj)}{σ:St}{H:Hp}{s:Shared}{l b:Addr}{xs ys zs:List V}
theorem Inv.vK{its its':List Value}{n:Nat}{f:Array Value->Array Value}{t':Nat}(I:Inv X pins σ H s)(hH:H l=!(.lst xs))
  (e:s.heap.get? l=!{ cls:=.type "list",data:=.seq its.toArray n }) (hf:f its.toArray=its'.toArray) (hv:Vals ys its') (hz:ys.length<=sizeLine) :
  Inv X pins σ (upd H l (.lst ys)) { s with heap:=s.heap.update l (Obj.mapSeq f),toks:=t' }:=by
 have q:=PySem.IsL.update e f;rw[hf]at q;refine I.write (x:=l) (e:=l) (by rw[hH];exact trivial) (.inl 8) (λb' u hb hu=>(Heap.get?_update_other s.heap (Obj.mapSeq f) (aBl hb)).trans hu) (_,q,) ?_;exact(hz,its',_,hv,q,)
theorem Inv.Hw{its:List Value}{t':Nat}(I:Inv X pins σ H s)(hv:Vals ys its)(hz:ys.length<=sizeLine) :
  Inv X pins σ (upd H s.heap.objs.size (.lst ys)) { s with heap:=s.heap.push { cls:=.type "list",data:=.seq its.toArray },toks:=t' }:=
 I.laid (λ_ _ q=>a47 _ q) (amA _) (hz,its,0,hv,a1M _ 8,)
theorem Inv.fresh(I:Inv X pins σ H s):H s.heap.objs.size=none:=I.hok.fresh (amA _)
theorem Inv.pK(I:Inv X pins σ H s)(hH:H l=!(.lst xs)):xs.length<=sizeLine/\∃(its:List Value)(n:Nat),Vals xs its/\xs.length=its.length/\s.heap.get? l=!{ cls:=.type "list",data:=.seq its.toArray n }:=by
 let(z,its,n,r,e,):=I.hok l _ hH;exact(z,its,n,r,r.length,e,)
theorem ZhY{n:Nat}(h:n<=sizeLine):Builtin.List.listTooLong n=false:=by
 unfold Builtin.List.listTooLong;exact alm 7
end
section
variable{X:Cx}
inductive uG(x:V)(vs:List V)(H:Hp)(Q:VK):Prop
 |mk (l xs y:_):x=.ref l->vs=[y]->H l=!(.lst xs)->xs.length<sizeLine->Q .aN (upd H l (.lst (xs++[y])))->uG x vs H Q
theorem Zz:Py X "list.append" uG:=by
 intro pins s σ H x vs v us Q I rx rv h;let(l,xs,y,rfl,rfl,hH,hz,q,):=h;cases rx;let(u,rfl,ru,):=rv.one;let(z,its,n,r,hl,e,):=I.pK hH;refine call_meets F.slot_list_append (_,e,8,) F.entry_list_append (F.args_list_append_2 _ _) (PySem.list_append l its.toArray n u (by rw[ahA];lia)) (e,?_,);refine(.aN,_,I.vK (its':=its++[u]) hH e 5 (r.append (.cons ru .nil)) ?_,8,q,);rw[a14,adN];lia
inductive uF(x:V)(vs:List V)(H:Hp)(Q:VK):Prop
 |mk (l b xs zs:_):x=.ref l->vs=[.ref b]->H l=!(.lst xs)->H b=!(.lst zs)->xs.length+zs.length<=sizeLine->Q .aN (upd H l (.lst (xs++zs)))->uF x vs H Q
theorem Zgx:Py X "list.extend" uF:=by
 intro pins s σ H x vs v us Q I rx rv h;let(l,b,xs,zs,rfl,rfl,hH,hB,hz,q,):=h;cases rx;let(u,rfl,ru,):=rv.one;cases ru;let(z,its,n,r,hl,e,):=I.pK hH;let(z2,its2,n2,r2,hl2,e2,):=I.pK hB;have hsz:its.toArray.size+its2.toArray.size<=sizeLine:=by rw[ahA,ahA];lia
 have Im:¬((not (its.toArray.isEmpty)) && Builtin.List.listTooLong (its.toArray.size+its2.toArray.size))=true:=by
  rw[ZhY hsz,Bool.and_false];exact aqS
 refine call_meets F.slot_list_extend (_,e,8,) F.entry_list_extend (F.args_list_extend_2 _ _)
  (AutoSeq1.list_extend_list_list_0 l its.toArray n b its2.toArray n2 Im (by rw[ahA];lia) 7) (e,e2,?_,)
 refine(.aN,_,I.vK (its':=its++its2) hH e 5 (r.append r2) ?_,8,q,);rw[a14];lia
inductive GF(x:V)(y:V)(H:Hp)(Q:VK):Prop
 |mk (l b xs zs:_):x=.ref l->y=.ref b->H l=!(.lst xs)->H b=!(.lst zs)->xs.length+zs.length<=sizeLine->(∀p,H p=none->Q (.ref p) (upd H p (.lst (xs++zs))))->GF x y H Q
theorem ZkA:jS X (binaryOp .Add) GF:=by
 intro pins s σ H x y v u Q I rx ry h;let(l,b,xs,zs,rfl,rfl,hH,hB,hz,q,):=h;cases rx;cases ry;let(z,its,n,r,hl,e,):=I.pK hH;let(z2,its2,n2,r2,hl2,e2,):=I.pK hB;refine PySem.P.add_list e e2 ?_ (by rw[ahA,ahA];lia);have ea:its.toArray++its2.toArray=(its++its2).toArray:=5
 rw[ea];exact(.ref _,_,I.Hw (t':=s.toks) (r.append r2) (by rw[a14];lia),8,q _ I.fresh,)
end
end L2
namespace VB
open PySem PySem.W PySem.Calls PyProof.Rows
theorem ZbY{P:Params}{h:Heap}:∀(ns:List Int)(vs:List Value),WellAll P h vs (ns.map WData.int)->IntsAre vs ns:=by
 intro ns
 induction ns with
 |nil=>
  intro vs w;rw[map_nil]at w;cases w;exact .nil
 |cons n ns ih=>
  intro vs w;rw[aZ1]at w;cases w with
  |cons a b=>
   cases a;exact .cons _ _ (ih _ b)
theorem Zgy{l:OpenLaw}{n:Nat}(hn:l.most=!n){P:Params}{h:Heap}{args:List WData}{vals:List Value}
  (hpre:l.row.toRowW.claim.pre args=true) (hwl:WellAll P h vals args) :
  ∃a vs ns,vals=[Value.ref a]/\args=[WData.list (ns.map WData.int)]/\h.get? a=!{ cls:=.type "list",data:=.seq vs.toArray }/\IntsAre vs ns/\ns.length<=n:=by
 have hsh:WShape.hasAll [] args [.list .int]=true:=(pre_splitW hpre).1;have hc:l.pre.holds [] { args:=args }=true:=(pre_splitW hpre).2;let(d,r,rfl,h1,h2,):=hasAllW_cons hsh;obtain rfl:=hasAllW_nil h2;let(xs,rfl,h3,):=hasW_list h1;let(ns,rfl,):=items_int h3;have hlen:ns.length<=n:=by
  unfold OpenLaw.pre at hc;have h4:(WTm.not (.lt (.lit (.int (n:Int))) (.len (.arg 0)))).holds [] { args:=[.list (ns.map .int)] }=true:=by
   have h4:=(holds_andW hc).1;rw[hn]at h4;exact h4
  have h5:=condW_of h4 (w_not (w_lt w_lit (w_len_list (w_arg 8))));rw[aHJ]at h5;refine Nat.le_of_not_lt λq=>?_;have q':(n:Int)<((ns.length:Nat):Int):=7
  first
   |(rw[a7Y q']at h5;exact absurd h5 9)
   |(simp at h5;lia)
 cases hwl with
 |cons w1 w2=>
  cases w2;cases w1 with
  |list ho hall=>exact(_,_,ns,8,8,ho,ZbY ns _ hall,hlen,)
theorem Zgz(l:OpenLaw)(args:List WData):l.row.toRowW.claim.post args (.bool true) args=true:=
 postW_of (r:=l.row.toRowW) (X:=(true ==true))
  (show WShape.has [] (.bool true) .bool=true by first|rfl|decide|simp[WShape.has,WShape.arms,WShape.armsAll])
  (show(WTm.eq .res (.lit (.bool true))).value [] { args:=args,res:=!(.bool true),after:=args }=some (.bool (true ==true)) from w_eq_bool (w_res 8) w_lit) 8
theorem rj{l:OpenLaw}{n:Nat}{q:Program}{loose:List Str}{XP:(Str->Option Value)->Heap->Prop}{YP:World->Heap->Prop}{d:DefRec}
  (hn:l.most=!n) (hdf:d.params.defaults=[])
  (call:∀(w:World)(s₀ s₁:Shared)(mg mb:Str->Option Value)(fa:Addr)(o:Obj)(pm cd doc:Value)(a:Addr)(vs:List Value)(ns:List Int),
   Ground q loose [] XP w s₀ mg mb s₁.heap->YP w s₁.heap ->
   s₁.heap.get? fa=!o->o.data=.func (docDef d.name d.params d.body d.scope pm cd doc)->s₁.heap.CodeRec cd d.name->mg d.name=!(.ref fa) ->
   s₁.heap.get? a=!{ cls:=.type "list",data:=.seq vs.toArray }->IntsAre vs ns->ns.length<=n->s₁.gens=#[] ->
   codeAny (model l.prog w) callerA (.call (.ref fa) ([.ref a],[],)) (λr s'=>r=.ok (.ret (.bool true))/\OldK s₁.heap s'.heap/\s'.os=s₁.os/\AllBare s'.gens) s₁) :
  WalkO q loose XP YP l.row.toRowW d [] (λf vs=>PySem.call f vs):=by
 intro w s₀ s₁ mg mb G Y fa o pm cd doc dV kV ho hd hcd hD hmg hg args vals as hpre hlay hrd hwl hlo;obtain rfl:dV=.none:=Dflts.none hD hdf;obtain rfl:kV=.none:=Dflts.noKw hD;let(a,vs,ns,rfl,rfl,hobj,hints,hlen,):=Zgy hn hpre hwl;refine enter_call (aPr (call w s₀ s₁ mg mb fa o pm cd doc a vs ns G Y ho (fd_plain hd) hcd hmg hobj hints hlen hg) λr s' hq=>?_);let(rfl,h2,h3,h4,):=hq;exact(.inl (.bool true,.bool true,[],8,λ_=>8,.bool true,Zgz l _,λ_=>(List.Pairwise.nil,λ_ hm=>(nomatch hm),),),h2,h3,h4,)
end VB
namespace L2
open PySem PySem.Spec PyProof.Rows
theorem LH:∀{vs:List Value}{ns:List Int},IntsAre vs ns->Vals (ns.map V.int) vs
 |_,_,.nil=>.nil
 |_,_,.cons n t h=>.cons (t,8,) (LH h)
def ZjA(s:Stmt)(j:Nat):Stmt:=match s with
 | .ClassDef _ _ _ body _ _ _ _ _ _ _=>body.getD j (.Pass (0,0,0,0,))
 |_=>.Pass (0,0,0,0,)
def ZS(s:Stmt):Arguments:=match s with
 | .FunctionDef _ a _ _ _ _ _ _ _ _=>a
 |_=>{ posonlyargs:=[],args:=[],vararg:=none,kwonlyargs:=[],kw_defaults:=[],kwarg:=none,defaults:=[] }
def ZG(s:Stmt):List Stmt:=match s with
 | .FunctionDef _ _ b _ _ _ _ _ _ _=>b
 |_=>[]
def Zp(s:Stmt):Scope:=match s with
 | .FunctionDef _ _ _ _ _ _ sc _ _ _=>sc
 |_=>{ kind:=.function,names:=[],isGenerator:=false,isCoroutine:=false }
abbrev mJ:zj:=λ_ _ _ _ _ _=>False
abbrev E0:XK:=λ_ _ _=>False
theorem uM{X:Cx}:Ed mJ X E0:=λ_ _ _ _ _ _ _ h=>h.elim
structure oA(K:W.Frag)(x qual:Str)(st:Stmt)(f:Addr)(fd:FuncData):Prop where
 ex:∃(oc:Value)(od:Option Addr)(kV doc pm:Value)(an:Option Addr)(cdv ct:Value)(osl:Array (Option Value)),
  fd=W.fnOf x qual (ZS st) (ZG st) (Zp st) .none kV doc pm an cdv ct/\K.lookup f=!(oc,od,.func fd,osl,)/\W.codeIn K cdv qual=true
 kp:W.keepIn K (.ref f)=true
section
variable{P:Program}{w:World}{K:W.Frag}{mg:Str->Option Value}{base:Heap}
theorem oA.ok{x qual:Str}{st:Stmt}{f:Addr}{fd:FuncData}{N ps:List Str}{k:Nat}{sp:Sp}(F:oA K x qual st f fd)(S:d7 N ps (Zp st))(len:∀vs H Q E,sp vs H Q E->vs.length=ps.length)
  (hbody:∀(cdv:Value)(A:Around)(outer:List Env)(s:Shared)(H:Hp)(vs:List V)(Q:VK)(E:XK),aY k (A.deeper (envOfC qual (Zp st) s.heap.objs.size f cdv))->sp vs H Q E ->
   ∃t,tP (gm mJ P w K mg base N qual (Zp st) f cdv A outer s H E).uP (ZG st) t/\t { nx:=λ_ H'=>Q .aN H',rt:=Q } (start N vs) H):aZ P w K mg base mJ (k+1) f fd ps sp:=by
 let(oc,od,kV,doc,pm,an,cdv,ct,osl,rfl,lk,hcd,):=F.ex;refine yI lk hcd S len λA outer s H vs Q E hr sV=>?_;let(t,h,q,):=hbody cdv A outer s H vs Q E hr sV;exact(t,h.uP,q,)
theorem oA.binds{x qual:Str}{st:Stmt}{f:Addr}{fd:FuncData}{ps:List Str}(F:oA K x qual st f fd)
  (h:∀(kV doc pm:Value)(an:Option Addr)(cdv ct:Value)(us:List Value),us.length=ps.length->bindArgs (W.fnOf x qual (ZS st) (ZG st) (Zp st) .none kV doc pm an cdv ct) (us,[],)=pure (ps.zip us)):Binds K fd ps []:=by
 let(oc,od,kV,doc,pm,an,cdv,ct,osl,rfl,lk,hcd,):=F.ex;exact .all (h kV doc pm an cdv ct)
theorem Cz{x qual:Str}{st:Stmt}{f:Addr}{oc:Value}{od an:Option Addr}{osl:Array (Option Value)}{kV doc pm cdv ct:Value}(l:K.lookup f=!(oc,od,.func (W.fnOf x qual (ZS st) (ZG st) (Zp st) .none kV doc pm an cdv ct),osl,))
  (c:W.codeIn K cdv qual=true) (k:W.keepIn K (.ref f)=true):oA K x qual st f (W.fnOf x qual (ZS st) (ZG st) (Zp st) .none kV doc pm an cdv ct):=((oc,od,kV,doc,pm,an,cdv,ct,osl,8,l,c,),k,)
end
theorem Cj{A:Around}{k:Nat}(hr:aY k A):A.units+1<cLine:=aZM (Nat.add_le_add_left (9:1<=64) _) hr.units
theorem Zt{n:Nat}(h:n<=1000):n<sizeLine:=aZM h 9
section
variable{X:Cx}
theorem pv(i:Nat){x:Str}{pos:Pos}(hN:X.N[i]?=!x:=by rfl)(hv:JI X.env.scope x:=by first|exact Or.inl rfl|exact Or.inr (Or.inl rfl)|exact Or.inr (Or.inr rfl))(hd:(x ==("__debug__":Str))=false:=by decide)
  (hcd:(x ==("__classdict__":Str))=false:=by decide):PE X (.Name x pos) (Ge i):=Zkp hN hv hd hcd
end
def aA(H H':Hp):Prop:=∀b o,H b=!o->H' b=!o
theorem aA.refl(H:Hp):aA H H:=λ_ _ h=>h
theorem aA.trans{H H1 H2:Hp}(a:aA H H1)(b:aA H1 H2):aA H H2:=λc o h=>b c o (a c o h)
theorem aA.free{H H':Hp}(e:aA H H'){l:Addr}(h:H' l=Option.none):H l=Option.none:=by
 cases q:H l with
 |none=>rfl
 |some o=>
  rw[e l o q]at h;cases h
theorem aA.seq{K:W.Frag}{H H':Hp}{a:Addr}{xs:List V}(e:aA H H')(h:au K H a xs):au K H' a xs:=by
 rcases h with(h|⟨o,h⟩)|h
 .exact .inl (.inl (e _ _ h))
 .exact .inl (.inr (o,e _ _ h,))
 .exact .inr h
end L2
set_option maxHeartbeats 4000000
namespace L2
open PySem PySem.Spec PyProof.Rows
def bP(X:Cx)(N:List Str)(scope:Scope)(cl:List (Str×Addr))(C:Addr)(s0:Shared)(H0:Hp)(fp:List Addr)(pins:List (Addr×Obj)):Cx:=
 { X with N:=N,s₀:=s0,H₀:=H0,env:=compEnvC scope cl C X.env,outer:=X.stack,stack:=X.stack,ex:=fp,fn:=λx=>scope.names.lookup x ==!.cell,pn:=X.pn++pins,xe:=λ_ _=>False }
theorem JA{env:Env}:∀(names:List (Str×NameKind))(acc:List (Str×Addr)),(∀p∈names,p.2=.free->∃c,env.cells.lookup p.1=!c)->(∀x c,acc.lookup x=!c->env.cells.lookup x=!c) ->
  ∃cl,(forIn names acc λ(x:Str×NameKind) cs=>(match x with|(name,kind)=>if(kind ==NameKind.free)=true then do let a <-cellOf env name;pure (ForInStep.yield ((name,a) ::cs)) else pure (ForInStep.yield cs):Sem (ForInStep (List (Str×Addr)))))=(pure cl:Sem (List (Str×Addr))) /\
   (∀x c,cl.lookup x=!c->env.cells.lookup x=!c)/\(∀x c,acc.lookup x=!c->cl.lookup x=!c)/\∀p∈names,p.2=.free->∃c,cl.lookup p.1=!c
 | [],acc,_,h=>⟨acc,8,h,λ_ _ e=>e,λ_ z=>nomatch z⟩
 |(n,k) ::r,acc,h,ha=>by
  by_cases hk:k=.free
  .subst hk;let(c,hc,):=h (n,.free) aKq 8;have ha':∀x d,((n,c) ::acc).lookup x=!d->env.cells.lookup x=!d:=λx d e=>by
    rw[ayO]at e;cases q:x ==n with
    |true=>
     rw[q]at e;have hxn:x=n:=by simpa using q
     subst hxn;cases e;exact hc
    |false=>
     rw[q]at e;exact ha x d e
   let(cl,e1,e2,e3,e4,):=JA r ((n,c) ::acc) (λp hp=>h p (avG _ hp)) ha';have top:∃d,cl.lookup n=!d:=(c,e3 n c (by rw[ayO];simp),);refine(cl,?_,e2,λx d e=>?_,λp hp hf=>?_,)
   .rw [agr];simp only[cellOf,hc,beq_self_eq_true,akf];exact e1
   .cases q:x ==n with
    |true=>
     have hxn:x=n:=by simpa using q
     subst hxn;have z:=ha x d e;rw[hc]at z;cases z;exact e3 x c (by rw[ayO];simp)
    |false=>exact e3 x d (by rw[ayO,q];exact e)
   .rcases ajG.mp hp with rfl|hp
    .exact top
    .exact e4 p hp hf
  .let(cl,e1,e2,e3,e4,):=JA r acc (λp hp=>h p (avG _ hp)) ha;have hb:(k ==NameKind.free)=false:=by simpa using hk
   refine(cl,?_,e2,e3,λp hp hf=>?_,)
   .rw [agr];simp only[hb,acv,aaq];exact e1
   .rcases ajG.mp hp with rfl|hp
    .exact absurd hf hk
    .exact e4 p hp hf
theorem Vg{α:Type}(f:Str->α->α)(x:Str):∀l:List (Str×α),(l.map λp=>(p.1,f p.1 p.2)).lookup x=(l.lookup x).map (f x)
 | []=>rfl
 |(n,k) ::r=>by
  have ih:=Vg f x r;rw[aZ1,ayO,ayO];cases q:x ==n with
  |true=>
   have e:x=n:=by simpa using q
   subst e;rfl
  |false=>exact ih
def Ec(env:Env)(n:Str)(k:NameKind):NameKind:=if(k ==NameKind.free && env.scope.kind == .function && env.kindOf n ==!.cell)=true then .cell else k
theorem Vk(scope:Scope)(env:Env)(x:Str):(relabel scope env).names.lookup x=(scope.names.lookup x).map (Ec env x):=by
 rw[<-Vg (Ec env) x scope.names];show(scope.names.map _).lookup x=_;congr 1
 refine abx λp _=>?_;show(if _ then _ else _)=_;unfold Ec;split <;> rfl
theorem Vj(env:Env)(n:Str)(k:NameKind):Ec env n k=k\/(k=.free/\Ec env n k=.cell):=by
 unfold Ec;by_cases h:(k ==NameKind.free && env.scope.kind == .function && env.kindOf n ==!.cell)=true
 .refine .inr (?_,aS1 h,);rw[aNn,aNn]at h;exact aEg.mp h.1.1
 .exact .inl (aWd h)
theorem ZaU{scope:Scope}{env:Env}{x:Str}{k:NameKind}(h:scope.names.lookup x=!k) :
  (relabel scope env).names.lookup x=!k\/(k=.free/\(relabel scope env).names.lookup x=!.cell):=by
 rw[Vk,h];rcases Vj env x k with q|⟨q,q'⟩
 .exact .inl (aFk some q)
 .exact .inr (q,aFk some q',)
theorem ZdF{scope:Scope}{env:Env}{x:Str}{k:NameKind}(h:(relabel scope env).names.lookup x=!k):∃k',scope.names.lookup x=!k'/\(k'=k\/k'=.free):=by
 rw[Vk]at h;cases q:scope.names.lookup x with
 |none=>rw[q]at h;cases h
 |some k'=>
  rw[q]at h;have h':Ec env x k'=k:=aZC h;rcases Vj env x k' with z|⟨z,_⟩
  .exact (k',8,.inl (z.symm.trans h'),)
  .exact (k',8,.inr z,)
theorem ZT{α:Type}{x:Str}:∀{l:List (Str×α)}{k:α},l.lookup x=!k->(x,k)∈l
 | [],_,h=>by simp at h
 |(n,k) ::r,k',h=>by
  rw[ayO]at h;cases hx:x ==n with
  |true=>
   rw[hx]at h;cases h;have:x=n:=by simpa using hx
   subst this;exact aKq
  |false=>
   rw[hx]at h;exact avG _ (ZT h)
theorem ZgA{prog:Program}{w:World}{A:Around}{s:Shared}{elt target iter:PySem.Expr}{ifs:List PySem.Expr}{scope:Scope}{pos:Pos}{it acc:Value}{env:Env}{R:Result->Shared->Prop}(I:Nat->Shared->Prop)
  (turn:∀n s,I n s->wpAny (model prog w) A (pyNext it) (λr s1=>match r with
   |none=>R (.ok .next) s1
   | some v=>wpAny (model prog w) A (letOwnedTupleGo target it v) (λ_ s0=>wpAny (model prog w) A (assign target env v) (λ_ s2=>
     wpAny (model prog w) A (forIn ifs true λc r=>if r=true then do let ok <-isTrue c env (eval c env);pure (ForInStep.yield ok) else pure (ForInStep.yield r)) (λok s3=>
      if ok=true then wpAny (model prog w) A (eval elt env) (λx s4=>
       wpAny (model prog w) A (call (.builtin "list.append") [acc,x]) (λ_ s5=>∃m,m<n/\I m s5) (λ_ _=>False) s4) (λ_ _=>False) s3
      else ∃m,m<n/\I m s3) (λ_ _=>False) s2) (λ_ _=>False) s0) (λ_ _=>False) s1) (λ_ _=>False) s)
  (n:Nat) (h:I n s):codeAny (model prog w) A (.compLoop (.ListComp elt [(target,iter,ifs,0,)] scope pos) 0 it acc env) R s:=by
 have body:∀n s,I n s->wpAny (model prog w) A (compTurn (.ListComp elt [(target,iter,ifs,0,)] scope pos) 0 it acc env)
   (λfin s'=>match fin with| .done f=>R (.ok f) s'| .again c=>c=.compLoop (.ListComp elt [(target,iter,ifs,0,)] scope pos) 0 it acc env/\∃m,m<n/\I m s') (λ_ _=>False) s:=λn s hI=>by
  rw[compTurn_list];refine ay1 (aqc (ay1 (bV (turn n s hI) λr s1 h1=>?_)));cases r with
  |none=>exact aO7 h1
  |some v=>
   refine ay1 (bV h1 λ_ s0 h0=>ay1 (bV h0 λ_ s2 h2=>ay1 (bV h2 λok s3 h3=>?_)));cases ok with
   |true=>exact ay1 (ay1 (bV h3 λx s4 h4=>ay1 (bV h4 λ_ s5 h5=>aO7 (aO7 (8,h5,)))))
   |false=>exact aO7 (8,h3,)
 exact codeAny_loop 8 I (λn s hI=>wpAny_noted (bac (body n s hI) (λ_ _ q=>q) λ_ _ q=>q.elim)) n h
def qe(own:Nat)(js:List Nat)(wi:TI)(g:TG)(tc:TT)(te:TE):TE:=λσ H Q=>wi σ H λJ H1=>∀l,H1 l=none ->
 ∃W:Nat->Nat->List V->St->Hp->Prop,(∃m,W 0 m [] (List.replicate own none++js.map λj=>(σ[j]?).join) (upd H1 l (.lst [])))/\∀i m ys σ' H',W i m ys σ' H' ->
  (J.stop i H'/\Q (.ref l) H')\/(J.go i H'/\∀x H2,J.rY i H' x H2->g x σ' H2 λσ2 H3=>tc σ2 H3 λb H4=>
   if b=true then te σ2 H4 λy H5=>H5 l=!(.lst ys)/\ys.length<sizeLine/\∃m',m'<m/\W (i+1) m' (ys++[y]) σ2 (upd H5 l (.lst (ys++[y])))
   else ∃m',m'<m/\W (i+1) m' ys σ2 H4)
def Bt:TT:=λ_ H Q=>Q true H
structure d9(X:Cx)(scope:Scope)(N:List Str)(own:Nat)(js:List Nat):Prop where
 kind:scope.kind=.function
 cell:∀y∈scope.names,y.2=.cell->scope.names.lookup y.1=!.cell
 names:∀y∈scope.names,y.2=.local->scope.names.lookup y.1=!.local
 free:∀y∈scope.names,y.2=.free->X.env.kindOf y.1=!.cell\/X.env.kindOf y.1=!.free
 len:N.length=own+js.length
 js:∀k j,js[k]?=!j->N[own+k]?=X.N[j]?
 jf:∀k x,N[own+k]?=!x->scope.names.lookup x=!.free
theorem Un.but{fs ex:List Addr}{H H':Hp}{h h1 h2:Heap}{C:Addr}(u:Un fs ex H H' h h1)(hc:h.objs.size<=C)(sb:∀b o,b≠C->h1.get? b=!o->h2.get? b=!o):Un fs ex H H' h h2:=by
 have ne:∀b o,h.get? b=!o->b≠C:=λb o e=>abm (akN (ape e) hc);refine(λb o q n hb hx=>sb b o (ne b o q) (u.keep b o q n hb hx),λb o q n hb hx=>?_,u.free,λb o q hx=>?_,u.tups,u.eZ,u.fk,)
 .let(sl,e,):=u.slot b o q n hb hx;exact(sl,sb b _ (ne b o q) e,)
 .let(o',e,):=u.there b o q hx;exact(o',sb b o' (ne b o q) e,)
theorem Eb:∀(names:List (Str×NameKind))(n:Nat)(acc:List (Str×Addr)),cellsFrom n names acc=cellsFrom n names []++acc
 | [],_,_=>rfl
 |(x,k) ::r,n,acc=>by
  unfold cellsFrom;by_cases hk:(k ==NameKind.cell)=true
  .rw [aS1 hk,aS1 hk,Eb r (n+1) ((x,n) ::acc),Eb r (n+1) [(x,n)],axQ];rfl
  .rw [aWd hk,aWd hk];exact Eb r n acc
theorem OC:∀(names:List (Str×NameKind))(n:Nat)(x:Str)(c:Addr),(x,c)∈cellsFrom n names []->(x,NameKind.cell)∈names
 | [],_,_,_,h=>nomatch h
 |(y,k) ::r,n,x,c,h=>by
  unfold cellsFrom at h;by_cases hk:(k ==NameKind.cell)=true
  .rw [aS1 hk,Eb]at h;rcases bdf.mp h with q|q
   .exact avG _ (OC r _ x c q)
   .have e:(x,c)=(y,n):=by simpa using q
    cases e;have hk':k=.cell:=by simpa using hk
    subst hk';exact aKq
  .rw [aWd hk]at h;exact avG _ (OC r _ x c h)
theorem Vf{α:Type}:∀{l:List (Str×α)}{x:Str}{c:α},(x,c)∈l->∃d,l.lookup x=!d
 |(y,v) ::r,x,c,h=>by
  rw[ayO];cases q:x ==y with
  |true=>exact(v,8,)
  |false=>
   rcases ajG.mp h with e|e
   .cases e;simp at q
   .exact Vf e
theorem Om:∀(names:List (Str×NameKind))(n:Nat)(x:Str),(x,NameKind.cell)∈names->∃c,(x,c)∈cellsFrom n names []
 | [],_,_,h=>nomatch h
 |(y,k) ::r,n,x,h=>by
  unfold cellsFrom;rcases ajG.mp h with e|e
  .cases e;rw[aS1 (show(NameKind.cell ==NameKind.cell)=true from rfl),Eb];exact(n,a2D _ 5,)
  .by_cases hk:(k ==NameKind.cell)=true
   .rw [aS1 hk,Eb];let(c,q,):=Om r (n+1) x e;exact(c,a8E _ q,)
   .rw [aWd hk];exact Om r n x e
theorem U5{α:Type}:∀(l m:List (Str×α))(x:Str),(l++m).lookup x=match l.lookup x with|some c=>some c|none=>m.lookup x
 | [],m,x=>rfl
 |(y,v) ::r,m,x=>by
  rw[aKC,ayO,ayO];cases x ==y with
  |true=>rfl
  |false=>exact U5 r m x
theorem ZdG{M:Model}{A:Around}{E:Value->Shared->Prop}{s:Shared}{scope:Scope}{globals:Addr}{cl:List (Str×Addr)}{qual:Str}{env:Env}{Q:Env->Shared->Prop}
  (h:Q (newEnv scope s.heap.objs.size globals (cellsFrom (s.heap.objs.size+1) scope.names cl) qual none .none (!env) builtinsNs) { s with heap:=pushCells (s.heap.push { cls:=.type "dict",data:=.dict #[] }) scope.names }) :
  wpAny M A (newFunctionEnv scope globals cl [] qual none .none (!env)) Q E s:=by
 simp only[newFunctionEnv,Option.isSome_some,akf];refine ay1 (wpAny_alloc (ay1 (wpAny_layCells _ (λname kind cells=>by cases hkc:kind ==NameKind.cell <;> simp[hkc]) _ _ _ _ ?_)));rw[show({ s with heap:=s.heap.push { cls:=.type "dict",data:=.dict #[] } }:Shared).heap.objs.size=s.heap.objs.size+1 from aET ..];rw[List.forIn_nil];exact ay1 (aO7 (aO7 h))
structure vp(X:Cx)(scope:Scope)(qY:List (Str×Addr))(n:Nat)(h':Heap):Prop where
 k1:∀x c,qY.lookup x=!c->X.env.cells.lookup x=!c\/(n<c/\h'.IsCell c none/\(x,NameKind.cell)∈scope.names)
 k2:∀x,scope.names.lookup x=!.free->∃c,qY.lookup x=!c/\X.env.cells.lookup x=!c
 k3:∀p∈scope.names,p.2=.cell\/p.2=.free->∃c,qY.lookup p.1=!c
 k4:∀x y c,qY.lookup x=!c->qY.lookup y=!c->x=y
 k5:∀x c,scope.names.lookup x=!.cell->qY.lookup x=!c->n<c
section
variable{X:Cx}{scope:Scope}{N:List Str}{own:Nat}{js:List Nat}
theorem ZfF{cl:List (Str×Addr)}{n:Nat}{h0:Heap}(c:d9 X scope N own js)(kj:∀x c,cl.lookup x=!c->X.env.cells.lookup x=!c)(p7:∀p∈scope.names,p.2=.free->∃c,cl.lookup p.1=!c)
  (inj:∀x y c,X.env.cells.lookup x=!c->X.env.cells.lookup y=!c->x=y) (lt:∀x c,X.env.cells.lookup x=!c->c<n) (hn:h0.objs.size=n+1):vp X scope (cellsFrom (n+1) scope.names cl) n (pushCells h0 scope.names):=by
 have ok:=cellsFrom_ok scope.names h0 (n+1) [] (λ_ _ hm=>(nomatch hm),List.Pairwise.nil,) (by rw[hn];exact amA _);rw[hn]at ok;have two:∀x,(cellsFrom (n+1) scope.names cl).lookup x=match(cellsFrom (n+1) scope.names []).lookup x with|some c=>some c|none=>cl.lookup x:=λx=>by
  rw[Eb,U5];cases(cellsFrom (n+1) scope.names []).lookup x <;> rfl
 have own':∀x d,(cellsFrom (n+1) scope.names []).lookup x=!d->(pushCells h0 scope.names).IsCell d none/\n<d/\(x,NameKind.cell)∈scope.names:=λx d e=>
  ((ok.empty x d (mem_of_lookup e)).1,(ok.empty x d (mem_of_lookup e)).2,OC _ _ x d (mem_of_lookup e),)
 have part:∀x d,(cellsFrom (n+1) scope.names cl).lookup x=!d->(cellsFrom (n+1) scope.names []).lookup x=!d\/((cellsFrom (n+1) scope.names []).lookup x=none/\cl.lookup x=!d):=λx d e=>by
  rw[two]at e;cases q:(cellsFrom (n+1) scope.names []).lookup x with
  |some d'=>rw[q]at e;exact .inl e
  |none=>rw[q]at e;exact .inr (8,e,)
 have has:∀x,(x,NameKind.cell)∈scope.names->∃d,(cellsFrom (n+1) scope.names []).lookup x=!d:=λx m=>by
  let(d,q,):=Om scope.names (n+1) x m;exact Vf q
 refine(λx d e=>?_,λx e=>?_,λp hp hk=>?_,λx y d e1 e2=>?_,λx d e1 e2=>?_,)
 .rcases part x d e with q|⟨_,q⟩
  .exact .inr ((own' x d q).2.1,(own' x d q).1,(own' x d q).2.2,)
  .exact .inl (kj x d q)
 .let(d,q,):=p7 _ (ZT e) 8;have no:(cellsFrom (n+1) scope.names []).lookup x=none:=by
   cases z:(cellsFrom (n+1) scope.names []).lookup x with
   |none=>rfl
   |some d'=>
    have y:=c.cell _ (own' x d' z).2.2 8;rw[show scope.names.lookup x=_ from e]at y;cases y
  exact(d,by rw[two,no];exact q,kj x d q,)
 .rw [two];cases z:(cellsFrom (n+1) scope.names []).lookup p.1 with
  |some d'=>exact(d',8,)
  |none=>
   rcases hk with hk|hk
   .let(d,q,):=has p.1 (by rw[<-hk];exact hp);rw[z]at q;cases q
   .exact p7 p hp hk
 .rcases part x d e1 with q1|⟨_,q1⟩
  .rcases part y d e2 with q2|⟨_,q2⟩
   .exact name_of_addr ok.apart (mem_of_lookup q1) (mem_of_lookup q2)
   .exact absurd (aYT (own' x d q1).2.1 (lt y d (kj y d q2))) (aUJ _)
  .rcases part y d e2 with q2|⟨_,q2⟩
   .exact absurd (aYT (own' y d q2).2.1 (lt x d (kj x d q1))) (aUJ _)
   .exact inj x y d (kj x d q1) (kj y d q2)
 .let(d',q,):=has x (ZT e1);rw[two,q]at e2;cases e2;exact(own' x d q).2.1
theorem ZfG{pins:List (Addr×Obj)}{σ:St}{H:Hp}{s:Shared}{cl:List (Str×Addr)}{fp:List Addr}{h':Heap}{t':Nat}(c:d9 X scope N own js)(I:Inv X pins σ H s)(hf:∀b∈fp,kE X pins H b)
  (fo:∀b∈fp,b<s.heap.objs.size)
  (ci:vp X scope cl s.heap.objs.size h')
  (hn:h'.Ns s.heap.objs.size (λ_=>none)) (hk:∀b o,s.heap.get? b=!o->h'.get? b=!o) :
  Inv (bP X N scope cl s.heap.objs.size s H fp pins) [] (List.replicate own none++js.map λj=>(σ[j]?).join) H { s with heap:=h',toks:=t' }:=by
 have uX:∀x c,cl.lookup x=!c->c≠s.heap.objs.size:=λx c e=>by
  rcases ci.k1 x c e with q|⟨q,_⟩
  .let(v,q,):=I.cell x c q;exact abm q.lt
  .exact aJ4 q
 have ok:(bP X N scope cl s.heap.objs.size s H fp pins).Ok:=by
  refine(I.ok.mod,c.kind,I.ok.glob,I.ok.blt,amA _,ci.k4,λx hx=>?_,λx d z e=>a92 (ci.k5 x d (aEg.mp (show(scope.names.lookup x ==!.cell)=true from z)) e),I.ok.hd,I.ok.frames,.inl 8,λb hb=>(abm (fo b hb),λx d e=>(ci.k1 x d e).elim (λq=>(hf b hb).2.2.2.2.1 x d q) λq=>aJ4 (aYT (fo b hb) q.1),),I.bs,
   atw I.ok.yN I.sz,λb o e hb=>?_,λb hb z=>?_,I.stack,I.oF,)
  .have back:∀k,(relabel scope X.env).names.lookup x=!k->k=.cell\/k=.free->∃k',(x,k')∈scope.names/\(k'=NameKind.cell\/k'=NameKind.free):=λk e hk=>by
    let(k',e',z,):=ZdF e;refine(k',ZT e',?_,);rcases z with z|z
    .subst z;exact hk
    .exact .inr z
   obtain⟨k',m,hk'⟩:∃k',(x,k')∈scope.names/\(k'=NameKind.cell\/k'=NameKind.free):=by
    rcases hx with hx|hx
    .exact back _ hx (.inl 8)
    .exact back _ hx (.inr 8)
   exact ci.k3 _ m hk'
  .rcases (hf b hb).2.2.2.1 with z|z
   .exact I.ok.vI b o e z
   .exact absurd (akN (akN (ape e) I.ok.yN) z) (aUJ _)
  .rcases ajG.mp (I.gO b z) with q|q
   .exact (hf b hb).2.1 q
   .exact (hf b hb).2.2.1 q
 refine(ok,8,I.bare,Un.kept hk,(_,hn,λi x v e1 e2 e3=>?_,),λx d e=>?_,I.hok.fresh (amA _),λx d e=>(ci.k1 x d e).elim (λq=>I.cC x d q) λq=>I.hok.fresh (a92 q.1),λp hp=>?_,I.hok.kept hk,?_,)
 .-- a name with a value is one that the block closes over
  have hi:own<=i:=by
   by_cases hi:i<own
   .rw [ahZ (by simpa using hi),afy]at e2;split at e2 <;> cases e2
   .lia
  obtain⟨k,rfl⟩:∃k,i=own+k:=(i-own,7,);rw[aWn 5,a77,Nat.add_sub_cancel_left,a7o]at e2;cases q:js[k]? with
  |none=>rw[q]at e2;cases e2
  |some j=>
   rw[q]at e2;have vQ:(σ[j]?).join=!v:=by simpa using e2
   have e4:σ[j]?=!(!v):=by
    cases z:σ[j]? with
    |none=>rw[z]at vQ;cases vQ
    |some o=>rw[z]at vQ;rw[show o=some v from vQ]
   have lY:N[own+k]?=!x:=e1;have NH:X.N[j]?=!x:=(c.js k j q).symm.trans lY;have hfr:=c.jf k x lY;have hmem:=ZT hfr;have hk2:=c.free _ hmem 8;have vis:JI X.env.scope x:=by
    rcases hk2 with z|z
    .exact .inr (.inl z)
    .exact .inr (.inr z)
   let(m,_,hl,):=I.loc;let(u,r,l,):=hl j x v NH e4 vis;refine(u,r,?_,);rcases l with⟨z,_⟩|⟨_,d,e,⟨od,ho,hd⟩⟩
   .rcases hk2 with y|y
    .rw [show X.env.kindOf x=_ from z]at y;cases y
    .rw [show X.env.kindOf x=_ from z]at y;cases y
   .let(d',e',z',):=ci.k2 x hfr;have:d'=d:=by have z:=z';rw[e]at z;exact(aZC z).symm
    subst this;refine .inr (?_,d',e',(od,hk _ _ ho,hd,),);rcases ZaU (scope:=scope) (env:=X.env) hfr with z|⟨_,z⟩
    .exact .inr z
    .exact .inl z
 .rcases ci.k1 x d e with q|⟨_,q,_⟩
  .let(v,(o,ho,hd,),):=I.cell x d q;exact(v,o,hk _ _ ho,hd,)
  .exact (none,q,)
 .have DK:p∈X.pn++pins:=by
   have z:p∈(X.pn++pins)++[]:=hp;rwa [bdd]at z
  let(a1,a2,a3,a4,a5,):=I.pin p DK;refine(hk _ _ a1,a2,abm (ape a1),λz=>?_,a5,);rcases ajG.mp (I.gO p.1 z) with q|q
  .exact a3 q
  .exact a4 q
 .show _=N.length;rw[c.len];simp
theorem U4{pins:List (Addr×Obj)}{σ:St}{H:Hp}{s:Shared}{elt target iter:PySem.Expr}{ifs:List PySem.Expr}{pos:Pos}{it:Addr}{fp:List Addr}{tn:Nat->Heap->Prop}{J:It}{cl:List (Str×Addr)}{g:TG}{tc:TT}{te:TE}{E:Value->Shared->Prop}{Q:VK}
  {RR:Value->Addr->Result->Shared->Prop}
  (c:d9 X scope N own js) (hc:X.calm=true) (I:Inv X pins σ H s) (T:Turn X.prog X.w X.K target J fp it tn) (st:tn 0 s.heap) (hf:∀b∈fp,kE X pins H b)
  (kj:∀x c,cl.lookup x=!c->X.env.cells.lookup x=!c) (p7:∀p∈scope.names,p.2=.free->∃c,cl.lookup p.1=!c)
  (hg:∀cl C s0 H0 fp pins,PG (bP X N scope cl C s0 H0 fp pins) target g)
  (ht:∀cl C s0 H0 fp pins cK s σ H Q,Inv (bP X N scope cl C s0 H0 fp pins) cK σ H s->tc σ H Q->wpAny (model X.prog X.w) X.A (forIn ifs true λc r=>if r=true then do let ok <-isTrue c (compEnvC scope cl C X.env) (eval c (compEnvC scope cl C X.env));pure (ForInStep.yield ok) else pure (ForInStep.yield r))
   (TP (bP X N scope cl C s0 H0 fp pins) cK σ Q) (λ_ _=>False) s)
  (he:∀cl C s0 H0 fp pins,PE (bP X N scope cl C s0 H0 fp pins) elt te)
  (h:∀l,H l=none->∃W:Nat->Nat->List V->St->Hp->Prop,(∃m,W 0 m [] (List.replicate own none++js.map λj=>(σ[j]?).join) (upd H l (.lst [])))/\∀i m ys σ' H',W i m ys σ' H' ->
   (J.stop i H'/\Q (.ref l) H')\/(J.go i H'/\∀x H2,J.rY i H' x H2->g x σ' H2 λσ2 H3=>tc σ2 H3 λb H4=>
    if b=true then te σ2 H4 λy H5=>H5 l=!(.lst ys)/\ys.length<sizeLine/\∃m',m'<m/\W (i+1) m' (ys++[y]) σ2 (upd H5 l (.lst (ys++[y])))
    else ∃m',m'<m/\W (i+1) m' ys σ2 H4))
  (hRR:∀l C H' s' m',s.heap.objs.size<=C->s'.heap.Ns C m'->H' C=none->C≠X.env.locals->C∉X.fs->(∀h2,Heap.SameBut C s'.heap h2->Inv X pins σ H' { s' with heap:=h2 })->Q (.ref l) H'->RR (.ref l) C (.ok .next) s') :
  wpAny (model X.prog X.w) X.A (newList []) (λacc s3=>wpAny (model X.prog X.w) X.A (newFunctionEnv scope X.env.globals cl [] X.env.qual none .none (!X.env)) (λcenv s4=>
   codeAny (model X.prog X.w) X.A (.compStart (.ListComp elt [(target,iter,ifs,0,)] scope pos) 0 (.ref it) acc { cenv with scope:=relabel scope X.env }) (RR acc cenv.locals) s4) E s3) E s:=by
 have I2:Inv X pins σ (upd H s.heap.objs.size (.lst [])) { s with heap:=s.heap.push { cls:=.type "list",dict:=none,data:=.seq ([]:List Value).toArray },toks:=s.toks }:=I.Hw (ys:=[]) .nil (aei _);let(W,(m0,w0,),turn,):=h s.heap.objs.size I.fresh;refine a3B (ZdG ?_);dsimp only;generalize hS:({ s with heap:=s.heap.push { cls:=.type "list",dict:=none,data:=.seq ([]:List Value).toArray },toks:=s.toks }:Shared)=s2 at I2;have e2:s2.heap=s.heap.push { cls:=.type "list",dict:=none,data:=.seq ([]:List Value).toArray }:=by rw[<-hS]
 have Qe:s2.heap.objs.size=s.heap.objs.size+1:=by rw[e2,aET]
 rw[<-e2];have ci:=ZfF (h0:=s2.heap.push { cls:=.type "dict",data:=.dict #[] }) (n:=s2.heap.objs.size) c kj p7 I2.ok.inj (λx d e=>by let(v,q,):=I2.cell x d e;exact q.lt) (aET ..);have Cm:(pushCells (s2.heap.push { cls:=.type "dict",data:=.dict #[] }) scope.names).Ns s2.heap.objs.size (λ_=>none):=(Heap.Ns.new s2.heap (.type "dict")).keeps (pushCells_keeps _ _);have old:∀b o,s2.heap.get? b=!o->(pushCells (s2.heap.push { cls:=.type "dict",data:=.dict #[] }) scope.names).get? b=!o:=λb o e=>pushCells_keeps _ _ b o (a47 _ e);generalize pushCells (s2.heap.push { cls:=.type "dict",data:=.dict #[] }) scope.names=h1 at ci Cm old ⊢;generalize hcl:cellsFrom (s2.heap.objs.size+1) scope.names cl=qY at ci ⊢;have yq:∀b,b∈fp->b<s.heap.objs.size:=λb hb=>by
  let(o,e,_,):=T.obj 0 _ st b hb;exact ape e
 have hf2:∀b∈fp,kE X pins (upd H s.heap.objs.size (.lst [])) b:=λb hb=>(by rw[Zc (abm (yq b hb))];exact(hf b hb).1,(hf b hb).2,);have DA:∀b∈fp,b<s2.heap.objs.size:=λb hb=>by rw[Qe];exact aUl (yq b hb)
 have st2:tn 0 s2.heap:=T.keep 0 _ _ st λb _ o e=>by rw[e2];exact a47 _ e
 have I4:=ZfG (t':=s.toks) c I2 hf2 DA ci Cm old;have cY:tn 0 h1:=T.keep 0 _ _ st2 λb _ o e=>old b o e;have es:({ s2 with heap:=h1,toks:=s.toks }:Shared)={ s with heap:=h1,toks:=s.toks }:=by rw[<-hS]
 rw[es]at I4;generalize Yi:({ s with heap:=h1,toks:=s.toks }:Shared)=s4 at I4;have Gp:tn 0 s4.heap:=by rw[<-Yi];exact cY
 have loop:codeAny (model X.prog X.w) X.A (.compLoop (.ListComp elt [(target,iter,ifs,0,)] scope pos) 0 (.ref it) (.ref s.heap.objs.size) (compEnvC scope qY s2.heap.objs.size X.env)) (RR (.ref s.heap.objs.size) s2.heap.objs.size) s4:=by
  refine ZgA (λn s'=>∃i ys σ' H',Inv (bP X N scope qY s2.heap.objs.size s2 (upd H s.heap.objs.size (.lst [])) fp pins) [] σ' H' s'/\tn i s'.heap/\(∀b∈fp,H' b=none)/\W i n ys σ' H') ?_ m0
   (0,[],_,_,I4,Gp,λb hb=>(hf2 b hb).1,w0,)
  rintro n s5 ⟨i,ys,σ5,H5,I5,zR,K8,w5⟩;have sd:∀{H':Hp}{s':Shared}{σ':St},Inv (bP X N scope qY s2.heap.objs.size s2 (upd H s.heap.objs.size (.lst [])) fp pins) [] σ' H' s'->(∀b∈fp,H' b=none)->∀b∈fp,kE (bP X N scope qY s2.heap.objs.size s2 (upd H s.heap.objs.size (.lst [])) fp pins) [] H' b:=λJ' hn b hb=>
   (hn b hb,(J'.ok.ID b hb).1,J'.ok.vN b hb,.inl hb,(J'.ok.ID b hb).2,λp hp z=>by
    have DK:p∈X.pn++pins:=by
     have q:p∈(X.pn++pins)++[]:=hp;rwa [bdd]at q
    exact(hf b hb).2.2.2.2.2 p DK z,)
  rcases turn i n ys σ5 H5 w5 with⟨stop,q⟩|⟨go,step⟩
  .refine bac (T.done (bP X N scope qY s2.heap.objs.size s2 (upd H s.heap.objs.size (.lst [])) fp pins) 8 8 8 hc i [] s5 σ5 H5 (λ_ _=>False) I5 (sd I5 K8) zR stop) (λr s6 (hr,I6,)=>?_) λ_ _ z=>z;subst hr;let(m',hn',_,):=I6.loc;have hC:s.heap.objs.size<=s2.heap.objs.size:=by rw[Qe];exact Nat.le_succ _
   refine hRR _ _ H5 s6 m' hC hn' I6.free ?_ ?_ (λh2 sb=>?_) q
   .exact aJ4 I2.lt
   .exact I2.Hq (amA _)
   .have u:Un (frs X.stack) fp (upd H s.heap.objs.size (.lst [])) H5 s2.heap h2:=I6.base.but (amA _) sb.extBut;have z6:H5 s2.heap.objs.size=none:=I6.free;have hok:dU X.prog X.w H5 h2:=λb ob e=>(I6.hok b ob e).stay (λd w' hd z=>sb.extBut d w' (by
     rintro rfl;rcases hd with rfl|hd
     .rw [z6]at e;cases e
     .rw [z6]at hd;cases hd) z) (λ_ z=>z) λ_ _ z=>z
    have J:=I2.Cu (s':={ s6 with heap:=h2 }) (ch:=fp) (by show s6.os=s2.os;exact I6.os) u hok I6.bare λb hb=>((hf b hb).2.2.2.1,(hf b hb).2.1,(hf b hb).2.2.2.2.1,(hf b hb).2.2.2.2.2,);exact J
  .refine bac (T.item (bP X N scope qY s2.heap.objs.size s2 (upd H s.heap.objs.size (.lst [])) fp pins) 8 8 8 hc i [] s5 σ5 H5 (λ_ _=>False) I5 (sd I5 K8) zR go) (λr s6 (u,hr,h6,)=>?_) λ_ _ z=>z;subst hr;refine bac h6 (λ_ s7 (x,H7,I7,r7,y7,Mm,YM,)=>?_) λ_ _ z=>z;have I7':=I7.pinned (sd I7 YM) (T.obj _ _ Mm);refine bac (hg _ _ _ _ _ _ _ s7 σ5 H7 x u _ I7' r7 (step x H7 y7)) (λ_ s8 (σ8,H8,I8,q8,)=>?_) λ_ _ z=>z;refine bac (ht _ _ _ _ _ _ _ s8 σ8 H8 _ I8 q8) (λb s9 (H9,I9,q9,)=>?_) λ_ _ z=>z;have fin:∀{s':Shared}{H':Hp}{m':Nat}{ys':List V},Inv (bP X N scope qY s2.heap.objs.size s2 (upd H s.heap.objs.size (.lst [])) fp pins) ([]++Jc fp s7.heap) σ8 H' s'->m'<n->W (i+1) m' ys' σ8 H' ->
     ∃m,m<n/\∃i ys σ' H',Inv (bP X N scope qY s2.heap.objs.size s2 (upd H s.heap.objs.size (.lst [])) fp pins) [] σ' H' s'/\tn i s'.heap/\(∀b∈fp,H' b=none)/\W i m ys σ' H':=λ{s' H' m' ys'} J' hm w'=>by
    refine(m',hm,i+1,ys',σ8,H',J'.iw,T.keep _ _ _ Mm λb hb o e=>(J'.pin (b,o) (a2D _ (a2D _ (LV hb e)))).1,λb hb=>?_,w',);let(o,e,d,):=T.obj _ _ Mm b hb;exact(J'.pin (b,o) (a2D _ (a2D _ (LV hb e)))).2.1
   cases b with
   |false=>
    rw[aWd aqS]at q9 ⊢;let(m',hm,w',):=q9;exact fin I9 hm w'
   |true=>
    rw[aS1 8]at q9 ⊢;refine bac (he _ _ _ _ _ _ _ s9 σ8 H9 _ I9 q9) (λy Ab (z,Vv,I10,zm,el,ez,m',hm,w',)=>?_) λ_ _ z=>z;refine bac (Zz (X:=bP X N scope qY s2.heap.objs.size s2 (upd H s.heap.objs.size (.lst [])) fp pins) _ Ab σ8 Vv (.ref s.heap.objs.size) [z] _ [y] (λ_ H'=>H'=upd Vv s.heap.objs.size (.lst (ys++[z]))) I10 8 (.cons zm .nil) (135,el,ez,8,)) (λ_ s11 (_,H11,I11,_,Y5,)=>?_) λ_ _ z=>z;subst Y5;exact fin I11 hm w'
 have fin:codeAny (model X.prog X.w) X.A (.compStart (.ListComp elt [(target,iter,ifs,0,)] scope pos) 0 (.ref it) (.ref s.heap.objs.size) (compEnvC scope qY s2.heap.objs.size X.env)) (RR (.ref s.heap.objs.size) s2.heap.objs.size) s4:=
  codeAny_compStart_list loop (T.self X.A 0 s4 _ _ Gp loop)
 exact fin
theorem UH{elt target iter:PySem.Expr}{ifs:List PySem.Expr}{pos:Pos}{wi:TI}{g:TG}{tc:TT}{te:TE}(c:d9 X scope N own js)(hc:X.calm=true)(hi:PI X target iter wi)
  (hg:∀cl C s0 H0 fp pins,PG (bP X N scope cl C s0 H0 fp pins) target g)
  (ht:∀cl C s0 H0 fp pins cK s σ H Q,Inv (bP X N scope cl C s0 H0 fp pins) cK σ H s->tc σ H Q->wpAny (model X.prog X.w) X.A (forIn ifs true λc r=>if r=true then do let ok <-isTrue c (compEnvC scope cl C X.env) (eval c (compEnvC scope cl C X.env));pure (ForInStep.yield ok) else pure (ForInStep.yield r))
   (TP (bP X N scope cl C s0 H0 fp pins) cK σ Q) (λ_ _=>False) s)
  (he:∀cl C s0 H0 fp pins,PE (bP X N scope cl C s0 H0 fp pins) elt te)
  (hs:∀x,foldedSetIterable iter X.env x=pure x:=by intro _;rfl):PE X (.ListComp elt [(target,iter,ifs,0,)] scope pos) (qe own js wi g tc te):=by
 intro pins s σ H Q I h;let(cl,e1,kj,_,p7,):=JA (env:=X.env) scope.names [] (λp hp hf=>I.ok.has _ (c.free p hp hf)) (λx d e=>by simp at e);have hclos:closureFor scope X.env=pure cl:=by
  unfold closureFor;refine(aFk (λz=>z >>= λcs=>pure cs) e1).trans ?_;rfl
 rw[eval_ListComp];refine wpAny_comprehension_free (use:=none) 8 hs hclos c.kind c.names (bac (hi pins s σ H _ I h) (λx s1 h1=>bac h1 (λitv s2 h2=>?_) λ_ _ e=>e) λ_ _ e=>e);let(it,fp,tn,J,H2,e,I2,T,st2,f2,q,):=h2;subst e;refine U4 (Q:=Q) (RR:=λacc C=>compPost (model X.prog X.w) X.A X.xe none (EP X pins σ Q) acc C) c hc I2 T st2 f2 kj p7 hg ht he q ?_;intro l C H' s' m' hC hn hf hL hfs hI hq;exact(m',hn,λh2 sb=>(.ref l,H',hI h2 sb,8,hq,),)
theorem ZhZ{elt target iter:PySem.Expr}{ifs:List PySem.Expr}{pos pos' spos:Pos}{y:Str}{k:Nat}{wi:TI}{g:TG}{tc:TT}{te:TE}(c:d9 X scope N own js)(hc:X.calm=true)(hN:X.N.Nodup)(hk:X.N[k]?=!y)(hy:X.env.scope.names.lookup y=!.local)(hi:PI X target iter wi)
  (hg:∀cl C s0 H0 fp pins,PG (bP X N scope cl C s0 H0 fp pins) target g)
  (ht:∀cl C s0 H0 fp pins cK s σ H Q,Inv (bP X N scope cl C s0 H0 fp pins) cK σ H s->tc σ H Q->wpAny (model X.prog X.w) X.A (forIn ifs true λc r=>if r=true then do let ok <-isTrue c (compEnvC scope cl C X.env) (eval c (compEnvC scope cl C X.env));pure (ForInStep.yield ok) else pure (ForInStep.yield r))
   (TP (bP X N scope cl C s0 H0 fp pins) cK σ Q) (λ_ _=>False) s)
  (he:∀cl C s0 H0 fp pins,PE (bP X N scope cl C s0 H0 fp pins) elt te)
  (hs:∀x,foldedSetIterable iter X.env x=pure x:=by intro _;rfl)
  (hsw:swapsWith (.ListComp elt [(target,iter,ifs,0,)] scope pos) (!(.Name y pos')) spos.line X.env=pure true:=by rfl):PS X (.Assign [.Name y pos'] (.ListComp elt [(target,iter,ifs,0,)] scope pos) spos) (vB (qe own js wi g tc te) (fT k)):=by
 intro pins s σ H D I h;let(cl,e1,kj,_,p7,):=JA (env:=X.env) scope.names [] (λp hp hf=>I.ok.has _ (c.free p hp hf)) (λx d e=>by simp at e);have hclos:closureFor scope X.env=pure cl:=by
  unfold closureFor;refine(aFk (λz=>z >>= λcs=>pure cs) e1).trans ?_;rfl
 rw[exec_Assign_Name_used _ _ _ _ hsw];refine ay1 (aqc (ay1 ?_));show wpAny _ X.A (do let _ <-comprehension (.ListComp elt [(target,iter,ifs,0,)] scope pos) scope X.env _ (newList []) false (eval iter X.env) (!(assign (.Name y pos') X.env))) _ _ s;refine ay1 (bac (wpAny_comprehension_free (use:=!(assign (.Name y pos') X.env)) (Q:=λ_ s'=>SP X pins D .next s') 8 hs hclos c.kind c.names
  (bac (hi pins s σ H _ I h) (λxv s1 h1=>bac h1 (λit s2 h2=>?_) λ_ _ e=>e) λ_ _ e=>e)) (λ_ s' hq=>aO7 (aO7 hq)) λ_ _ e=>e)
 let(it,fp,tn,J,H2,e,I2,T,st2,f2,q,):=h2;subst e;refine U4 (Q:=λx H1=>fT k x σ H1 D.nx) (RR:=λacc C=>compPost (model X.prog X.w) X.A X.xe (!(assign (.Name y pos') X.env)) (λ_ s'=>SP X pins D .next s') acc C) c hc I2 T st2 f2 kj p7 hg ht he q ?_;intro l C H' s' m' hC hn hf hL hfs hI hq;have J0:=hI s'.heap (Heap.SameBut.refl ..);show wpAny _ X.A (assign (.Name y pos') X.env (.ref l)) _ _ _;have J1:Inv X pins σ H' s':=J0;refine wpAny_assign_Name (UQ (v:=.ref l) J1 hN hk (.inl hy) 8 (λs'' Vr mL=>?_) (.inr hy));let(a,sb,ha,):=mL;have hne:C≠a:=by
  rcases ha with rfl|ha
  .exact hL
  .rintro rfl;let(v,(o,ho,hd,),):=J1.cell y C ha;let(o',es,ep,ho',hd',_,):=hn;rw[ho]at ho';cases ho';rw[hd]at hd';cases hd'
 refine(m',hn.sameBut sb hne,λh2 EJ=>?_,);have hok:dU X.prog X.w H' h2:=λb ob e=>(Vr.hok b ob e).stay (λd w' hd z=>EJ.extBut d w' (by
  rintro rfl;rcases hd with rfl|hd
  .rw [hf]at e;cases e
  .rw [hf]at hd;cases hd) z) (λ_ z=>z) λ_ _ z=>z
 have uX:∀x d,X.env.cells.lookup x=!d->d≠C:=λx d e z=>by
  subst z;let(v,(o,ho,hd,),):=J1.cell x d e;let(o',es,ep,ho',hd',_,):=hn;rw[ho]at ho';cases ho';rw[hd]at hd';cases hd'
 have EV:∀p∈X.pn++pins,p.1≠C:=λp hp z=>by
  have a1:=(I2.pin p hp).1;exact absurd (akN (ape a1) (by rw[z];exact hC)) (aUJ _)
 have fin:Inv X pins (σ.set k (!(.ref l))) H' { s'' with heap:=h2 }:=Vr.turned (t':=s''.toks) (it:=C) (λb o hb e=>EJ.extBut b o hb e) hf hL (.inr (atw I2.sz hC)) uX EV;exact(_,H',fin,hq,)
theorem ZL{elt target iter:PySem.Expr}{pos:Pos}{wi:TI}{g:TG}{te:TE}(c:d9 X scope N own js)(hc:X.calm=true)(hi:PI X target iter wi)
  (hg:∀cl C s0 H0 fp pins,PG (bP X N scope cl C s0 H0 fp pins) target g) (he:∀cl C s0 H0 fp pins,PE (bP X N scope cl C s0 H0 fp pins) elt te)
  (hs:∀x,foldedSetIterable iter X.env x=pure x:=by intro _;rfl):PE X (.ListComp elt [(target,iter,[],0,)] scope pos) (qe own js wi g Bt te):=
 UH c hc hi hg (λcl C s0 H0 fp pins cK s σ H Q I h=>wpAny_tests_nil (H,I,h,)) he hs
theorem Zia{elt target iter P9:PySem.Expr}{pos:Pos}{wi:TI}{g:TG}{tc:TT}{te:TE}(c:d9 X scope N own js)(hc:X.calm=true)(hi:PI X target iter wi)
  (hg:∀cl C s0 H0 fp pins,PG (bP X N scope cl C s0 H0 fp pins) target g) (ht:∀cl C s0 H0 fp pins,PT (bP X N scope cl C s0 H0 fp pins) P9 tc) (he:∀cl C s0 H0 fp pins,PE (bP X N scope cl C s0 H0 fp pins) elt te)
  (hs:∀x,foldedSetIterable iter X.env x=pure x:=by intro _;rfl):PE X (.ListComp elt [(target,iter,[P9],0,)] scope pos) (qe own js wi g tc te):=
 UH c hc hi hg (λcl C s0 H0 fp pins cK s σ H Q I h=>wpAny_tests_one (ht cl C s0 H0 fp pins cK s σ H Q I h)) he hs
theorem Zib{elt target iter:PySem.Expr}{pos pos' spos:Pos}{y:Str}(k:Nat){wi:TI}{g:TG}{te:TE}(c:d9 X scope N own js)(hc:X.calm=true)(hN:X.N.Nodup)(hk:X.N[k]?=!y)(hy:X.env.scope.names.lookup y=!.local)(hi:PI X target iter wi)
  (hg:∀cl C s0 H0 fp pins,PG (bP X N scope cl C s0 H0 fp pins) target g) (he:∀cl C s0 H0 fp pins,PE (bP X N scope cl C s0 H0 fp pins) elt te)
  (hs:∀x,foldedSetIterable iter X.env x=pure x:=by intro _;rfl)
  (hsw:swapsWith (.ListComp elt [(target,iter,[],0,)] scope pos) (!(.Name y pos')) spos.line X.env=pure true:=by rfl):PS X (.Assign [.Name y pos'] (.ListComp elt [(target,iter,[],0,)] scope pos) spos) (vB (qe own js wi g Bt te) (fT k)):=
 ZhZ c hc hN hk hy hi hg (λcl C s0 H0 fp pins cK s σ H Q I h=>wpAny_tests_nil (H,I,h,)) he hs hsw
end
section
variable{X:Cx}{pins:List (Addr×Obj)}{σ:St}{H:Hp}{s:Shared}
theorem dU.Hi{P:Program}{w:World}{h h':Heap}{ch:List Addr}(hok:dU P w H h)(hn:∀b∈ch,H b=none)(k:∀b o,b∉ch->h.get? b=!o->h'.get? b=!o):dU P w H h':=λb ob e=>
 (hok b ob e).stay (λd u hd z=>k d u (λm=>by
  rcases hd with rfl|hd
  .rw [hn _ m]at e;cases e
  .rw [hn _ m]at hd;cases hd) z) (λ_ z=>z) λ_ _ z=>z
theorem Inv.kN{ch:List Addr}{h':Heap}{t':Nat}(I:Inv X pins σ H s)(hch:∀b∈ch,kE X pins H b)(k:∀b o,b∉ch->s.heap.get? b=!o->h'.get? b=!o) :
  Inv X pins σ H { s with heap:=h',toks:=t' }:=by
 have u:Un (frs X.stack) ch H H s.heap h':=(λb o q _ _ hx=>k b o hx q,λb o q _ _ hx=>(o.slots,k b o hx q,),λ_ _ _ n _=>n,λb o q hx=>(o,k b o hx q,),λ_ _ q=>q,λ_ _ _ q=>q,λ_ _ _ q=>q,);exact I.call (g':=s.gens) (d':=s.drawn) (t':=t') u (I.hok.Hi (λb hb=>(hch b hb).1) k) I.bare λb hb=>((hch b hb).2.2.2.1,(hch b hb).2.1,(hch b hb).2.2.2.2.1,(hch b hb).2.2.2.2.2,)
theorem Inv.sS{ch:List Addr}{h':Heap}{t':Nat}{o:HO}(I:Inv X pins σ H s)(hch:∀b∈ch,kE X pins H b)(k:∀b o,b∉ch->s.heap.get? b=!o->h'.get? b=!o)
  (new:aH X.prog X.w (upd H s.heap.objs.size o) h' s.heap.objs.size o):Inv X pins σ (upd H s.heap.objs.size o) { s with heap:=h',toks:=t' }:=by
 have fr:H s.heap.objs.size=none:=I.hok.fresh (amA _);have ne:∀b ob,s.heap.get? b=!ob->b≠s.heap.objs.size:=λb ob e=>abm (ape e);have nt:∀b ob,H b=!ob->b≠s.heap.objs.size:=λb ob e=>Zd e fr;have u:Un (frs X.stack) ch H (upd H s.heap.objs.size o) s.heap h':=(λb o q _ _ hx=>k b o hx q,λb o q _ _ hx=>(o.slots,k b o hx q,),λb ob q n _=>by rw[Zc (ne b ob q)];exact n,λb o q hx=>(o,k b o hx q,),
  λb xs q=>by rw[Zc (nt b _ q)];exact q,λb ob xs q=>by rw[Zc (nt b _ q)];exact q,λb _ _ q=>by rw[Zc (nt b _ q)];exact q,)
 have hok:dU X.prog X.w (upd H s.heap.objs.size o) h':=λb ob e=>by
  by_cases hb:b=s.heap.objs.size
  .subst hb;rw[Za]at e;cases e;exact new
  .rw [Zc hb]at e;refine(I.hok b ob e).stay (λd u hd z=>k d u (λm=>?_) z) (λd z=>by rw[Zc (nt d _ z)];exact z) (λd xs z=>by rw[Zc (nt d _ z)];exact z) λd oz z=>by rw[Zc (nt d _ z)];exact z
   have hn:=(hch d m).1;rcases hd with rfl|hd
   .rw [hn]at e;cases e
   .rw [hn]at hd;cases hd
 exact I.call (g':=s.gens) (d':=s.drawn) (t':=t') u hok I.bare λb hb=>((hch b hb).2.2.2.1,(hch b hb).2.1,(hch b hb).2.2.2.2.1,(hch b hb).2.2.2.2.2,)
end
theorem pA{a b:Nat}(h:a<b\/b<a):@Ne Addr a b:=λe=>by
 have e':a=b:=e;lia
theorem O3(n l1 l2:Nat)(h1:l1<n)(h2:l2<n):ZipApart (n+4) (n+2) (n+3) n (n+1) l1 l2:=
 (pA 7,pA 7,pA 7,pA 7,pA 7,pA 7,pA 7,pA 7,pA 7,pA 7,pA 7,pA 7,pA 7,pA 7,pA 7,pA 7,pA 7,pA 7,)
def Bg(K:W.Frag)(a b:Addr):It:=
 (λi H=>∃xs ys x y,au K H a xs/\au K H b ys/\xs[i]?=!x/\ys[i]?=!y,
 λi H v H'=>∃t x y,H t=none/\v=.ref t/\H'=upd H t (.tup [x,y])/\(∀xs,au K H a xs->xs[i]?=!x)/\∀ys,au K H b ys->ys[i]?=!y,
 λi H=>∃xs ys,au K H a xs/\au K H b ys/\(xs.length<=i\/ys.length<=i),)
theorem LP{h:Heap}{it l:Addr}{i:Nat}(x:h.IsListIter it l i):∃o,h.get? it=!o/\∀v,o.data≠.cell v:=by
 let(o,e,c,d,):=x;exact⟨o,e,λv z=>by rw[d]at z;cases z⟩
theorem UG{P:Program}{w:World}{K:W.Frag}{elts:List PySem.Expr}{x1}{pos:Pos}(z TI TO i1 i2 a b:Addr)(D:ZipApart z TI TO i1 i2 a b) :
  Turn P w K (.Tuple elts x1 pos) (Bg K a b) [z,TI,TO,i1,i2] z (λi h=>IsZip h z TI TO .none/\IsPair h TI (.ref i1) (.ref i2)/\(∃u v,IsPair h TO u v)/\h.IsListIter i1 a i/\h.IsListIter i2 b i) where
 mem:=5
 obj:=λi h st c hc=>by
  let(hz,hTI,(u,v,hTO,),h1,h2,):=st;simp only[as2,af0,aRi]at hc;rcases hc with rfl|rfl|rfl|rfl|rfl
  .exact ⟨_,hz,λv e=>by cases e⟩
  .exact ⟨_,hTI,λv e=>by cases e⟩
  .exact ⟨_,hTO,λv e=>by cases e⟩
  .exact LP h1
  .exact LP h2
 keep:=λi h h' st k=>by
  let(hz,hTI,(u,v,hTO,),h1,h2,):=st;exact(k z 5 _ hz,k TI 5 _ hTI,(u,v,k TO 5 _ hTO,),h1.at λo e=>k i1 5 o e,h2.at λo e=>k i2 5 o e,)
 item:=by
  intro X hP hw hK hc i pins s σ H E I hf st hg;subst hP hw hK;let(xs,ys,x,y,sZ,sW,hx,hy,):=hg;let(hz,hTI,(u0,v0,hTO,),h1,h2,):=st;let(lX,ra,pa,za,):=I.list sZ;let(ng,rb,pb,zb,):=I.list sW;let(ux,hux,Mv,):=ra.get hx;let(uy,Nr,Mu,):=rb.get hy;refine wpAny_pyNext_zip_item D hz hTI hTO h1 h2 pa.isList pb.isList (x:=ux) (y:=uy) (by simpa using hux) (by simpa using Nr) λh' a1 a2 a3 a4 a5 a6 a7=>?_;refine(.ref s.heap.objs.size,8,?_,);refine wpAny_letOwnedTupleGo_zip a1 λh2' hz' hs'=>?_;have yw:z<s.heap.objs.size:=ape hz;have kk:∀c o,c∉[z,TI,TO,i1,i2]->s.heap.get? c=!o->h2'.get? c=!o:=λc o hc e=>by
   simp only[as2,af0,aRi,not_or]at hc;exact hs'.extBut c o hc.1 (a7 c o hc.1 hc.2.2.1 hc.2.2.2.1 hc.2.2.2.2 e)
  have tp:h2'.get? s.heap.objs.size=!{ cls:=.type "tuple",data:=.seq #[ux,uy] }:=hs'.extBut _ _ (aJ4 yw) a5;have I1:Inv X pins σ (upd H s.heap.objs.size (.tup [x,y])) { s with heap:=h2',toks:=s.toks }:=
   I.sS hf kk (by show 2<=sizeLine;decide,[ux,uy],.cons Mv (.cons Mu .nil),(_,tp,113,),)
  have Pk:h2'.get? TI=s.heap.get? TI:=by
   rw[hTI];exact hs'.extBut _ _ D.TIz (a7 _ _ D.TIz D.TITO D.TIi1 D.TIi2 hTI)
  refine(.ref s.heap.objs.size,_,I1,8,(s.heap.objs.size,x,y,I.hok.fresh (amA _),8,8,λxs' h=>by rw[I.iW h sZ];exact hx,λys' h=>by rw[I.iW h sW];exact hy,),(hz',?_,(ux,uy,hs'.extBut _ _ D.TOz a2,),a3.at λo e=>hs'.extBut _ o D.i1z e,a4.at λo e=>hs'.extBut _ o D.i2z e,),λc hc=>?_,)
  .show h2'.get? TI=_;rw[Pk];exact hTI
  .have hc':=hc;have hlt:c<s.heap.objs.size:=by
    simp only[as2,af0,aRi]at hc';rcases hc' with rfl|rfl|rfl|rfl|rfl
    .exact yw
    .exact ape hTI
    .exact ape hTO
    .let(o,e,_,):=LP h1;exact ape e
    .let(o,e,_,):=LP h2;exact ape e
   rw[Zc (abm hlt)];exact(hf c hc).1
 done:=by
  intro X hP hw hK hc i pins s σ H E I hf st hg;subst hP hw hK;let(xs,ys,sZ,sW,hend,):=hg;let(hz,hTI,(u0,v0,hTO,),h1,h2,):=st;let(lX,ra,pa,za,):=I.list sZ;let(ng,rb,pb,zb,):=I.list sW;have la:=ra.length;have lb:=rb.length;refine wpAny_pyNext_zip_end (I.ok.hd hc) D hz hTI hTO h1 h2 pa.isList pb.isList ?_ λh' hk=>(8,?_,)
  .rcases hend with q|q
   .exact .inl (by simp;lia)
   .exact .inr (by simp;lia)
  .refine I.kN (t':=s.toks) hf λc o hc e=>?_;simp only[as2,af0,aRi,not_or]at hc;exact hk c o hc.1 hc.2.2.1 hc.2.2.2.1 hc.2.2.2.2 e
 self:=λ_ _ _ _ _ st h=>aQG st.1 h
def Nl(K:W.Frag)(ta:TA):TI:=λσ H R=>ta σ H λvs H1=>∃a b,vs=[.ref a,.ref b]/\(∃xs,au K H1 a xs)/\(∃ys,au K H1 b ys)/\R (Bg K a b) H1
section
variable{X:Cx}
theorem UE:bootBuiltins "zip"=!(.type "zip"):=by first|rfl|decide +kernel|kernel_rfl
theorem Zcw:bootBuiltins "enumerate"=!(.type "enumerate"):=by first|rfl|decide +kernel|kernel_rfl
theorem ZkB{elts:List PySem.Expr}{x1}{tpos:Pos}{a b:PySem.Expr}{ta:TA}{p pos:Pos}(hg:Gl X "zip")(hm:X.mg "zip"=none)(ha:PA X [a,b] ta)(hs:starEach [a,b] X.env=[(false,eval a X.env),(false,eval b X.env)]:=by rfl)(hs2:starEach [b] X.env=[(false,eval b X.env)]:=by rfl) :
  PI X (.Tuple elts x1 tpos) (.Call (.Name "zip" p) [a,b] [] pos) (Nl X.K ta):=by
 intro pins s σ H R I h;refine Call_ (zE I hg hm UE (aMm (tW (ha pos pins s σ H _ I h) λus s1 vs H1 I1 r1 q1=>?_) (by rw[hs,hs2]) (by rw[hs2];rfl)));let(l1,l2,e,(xs,sZ,),(ys,sW,),q,):=q1;subst e;let(v1,v2,rfl,r,r',):=vals2 r1;cases r;cases r';let(lX,ra,pa,za,):=I1.list sZ;let(ng,rb,pb,zb,):=I1.list sW;have yq:l1<s1.heap.objs.size:=by let(o,e,_,):=pa.isList;exact ape e
 have DA:l2<s1.heap.objs.size:=by let(o,e,_,):=pb.isList;exact ape e
 refine call_zip_2 pa.isList pb.isList λh' g5 g3 g4 g1 g2 hsz kp=>aQG g5 ?_;refine(_,[_,_,_,_,_],_,_,H1,8,I1.kept (t':=s1.toks) kp,UG _ _ _ _ _ l1 l2 (O3 s1.heap.objs.size l1 l2 yq DA),(g5,g3,(_,_,g4,),g1,g2,),λc hc=>?_,q,);have hc':s1.heap.objs.size<=c:=by
  simp only[as2,af0,aRi]at hc;rcases hc with rfl|rfl|rfl|rfl|rfl <;> first|exact amA _|exact Nat.le_add_right _ _
 exact I1.tG hc' (I1.hok.fresh hc')
def CV(K:W.Frag)(a:Addr):It:=
 (λi H=>∃xs x,au K H a xs/\xs[i]?=!x,
 λi H v H'=>∃t x,H t=none/\v=.ref t/\H'=upd H t (.tup [.int i,x])/\∀xs,au K H a xs->xs[i]?=!x,
 λi H=>∃xs,au K H a xs/\xs.length=i,)
theorem ZgC{P:Program}{w:World}{K:W.Frag}{elts:List PySem.Expr}{x1}{pos:Pos}(e it a:Addr)(hei:e≠it)(YF:a≠e)(hai:a≠it) :
  Turn P w K (.Tuple elts x1 pos) (CV K a) [e,it] e (λi h=>(∃old,IsEnum h e it i old)/\h.IsListIter it a i) where
 mem:=5
 obj:=λi h st c hc=>by
  let((old,he,),h1,):=st;simp only[as2,af0,aRi]at hc;rcases hc with rfl|rfl
  .exact ⟨_,he,λv z=>by cases z⟩
  .let(o,q,c,d,):=h1;exact⟨o,q,λv z=>by rw[d]at z;cases z⟩
 keep:=λi h h' st k=>by
  let((old,he,),h1,):=st;exact((old,k e 5 _ he,),h1.at λo q=>k it 5 o q,)
 item:=by
  intro X hP hw hK hc i pins s σ H E I hf st hg;subst hP hw hK;let(xs,x,hq,hx,):=hg;let((old,he,),h1,):=st;let(its,rv,p,hz,):=I.list hq;let(u,hu,ru,):=rv.get hx;have hlt:i<its.toArray.size:=by
   have:=(au3.mp hu).1;simpa using this
  refine wpAny_pyNext_enum_itemD (Draws.list (A:=X.A.in1) (show X.A.in1.handled=none from I.ok.hd hc) it a hai its.toArray) he (h1,p.isList,) hlt hei (by simp[hei,aBl YF]) λv h' tk hP ho hs' hT hsz hk=>?_;have vM:v=u:=by
   have z:its[i]?=!v:=by simpa using hP
   rw[hu]at z;exact(aZC z).symm
  subst vM;refine(.ref s.heap.objs.size,8,?_,);refine wpAny_letOwnedTupleGo_enum ho λh2 Yw EJ=>?_;have helt:e<s.heap.objs.size:=ape he;have kk:∀c o,c∉[e,it]->s.heap.get? c=!o->h2.get? c=!o:=λc o hc q=>by
   simp only[as2,af0,aRi,not_or]at hc;exact(EJ.2 c hc.1).trans (hk c o hc.1 hc.2 q)
  have tp:h2.get? s.heap.objs.size=!{ cls:=.type "tuple",data:=.seq #[.int i tk,v] }:=(EJ.2 _ (aJ4 helt)).trans hT;have I1:Inv X pins σ (upd H s.heap.objs.size (.tup [.int i,x])) { s with heap:=h2,toks:=tk+1 }:=
   I.sS hf kk (by show 2<=sizeLine;decide,[.int i tk,v],.cons (tk,8,) (.cons ru .nil),(_,tp,113,),)
  refine(.ref s.heap.objs.size,_,I1,8,(s.heap.objs.size,x,I.hok.fresh (amA _),8,8,λys hy=>by rw[I.iW hy hq];exact hx,),((v,by simpa using Yw,),hs'.1.at λo q=>(EJ.2 _ (aBl hei)).trans q,),λc hc=>?_,);have hlt':c<s.heap.objs.size:=by
   simp only[as2,af0,aRi]at hc;rcases hc with rfl|rfl
   .exact helt
   .let(o,q,_,):=h1;exact ape q
  rw[Zc (abm hlt')];exact(hf c hc).1
 done:=by
  intro X hP hw hK hc i pins s σ H E I hf st hg;subst hP hw hK;let(xs,hq,hx,):=hg;let((old,he,),h1,):=st;let(its,rv,p,hz,):=I.list hq;have hl:=rv.length;have ei:i=its.toArray.size:=by simp;lia
  subst ei;refine wpAny_pyNext_enum_endD (Draws.list (A:=X.A.in1) (show X.A.in1.handled=none from I.ok.hd hc) it a hai its.toArray) he (h1,p.isList,) λh' hx'=>(8,?_,);refine I.kN (t':=s.toks) hf λc o hc q=>?_;simp only[as2,af0,aRi,not_or]at hc;exact hx' c o hc.2 q
 self:=λ_ _ _ _ _ st h=>by
  let((old,he,),_,):=st;exact wpAny_pyIter_enum he h
def Ih(K:W.Frag)(ta:TA):TI:=λσ H R=>ta σ H λvs H1=>∃a,vs=[.ref a]/\(∃xs,au K H1 a xs)/\R (CV K a) H1
theorem OB{elts:List PySem.Expr}{x1}{tpos:Pos}{a:PySem.Expr}{ta:TA}{p pos:Pos}(hg:Gl X "enumerate")(hm:X.mg "enumerate"=none)(ha:PA X [a] ta)(hs:starEach [a] X.env=[(false,eval a X.env)]:=by rfl) :
  PI X (.Tuple elts x1 tpos) (.Call (.Name "enumerate" p) [a] [] pos) (Ih X.K ta):=by
 intro pins s σ H R I h;refine Call_ (zE I hg hm Zcw (aMm (tW (ha pos pins s σ H _ I h) λus s1 vs H1 I1 r1 q1=>?_) hs 8));let(l,e,(xs,hq,),q,):=q1;subst e;cases r1 with
 |cons r rr=>
  cases rr;cases r;let(its,rv,pl,hz,):=I1.list hq;have yq:l<s1.heap.objs.size:=by let(o,e,_,):=pl.isList;exact ape e
  refine call_enumerate_list pl.isList λh' he hi hsz hk=>?_;refine wpAny_pyIter_enum he ?_;refine(s1.heap.objs.size+1,[s1.heap.objs.size+1,s1.heap.objs.size],_,_,H1,8,I1.kept (t':=s1.toks) hk,ZgC (s1.heap.objs.size+1) s1.heap.objs.size l (Nat.succ_ne_self _) (pA (.inl (aUl yq))) (abm yq),((_,he,),hi,),λc hc=>?_,q,);have hc':s1.heap.objs.size<=c:=by
   simp only[as2,af0,aRi]at hc;rcases hc with rfl|rfl <;> lia
  exact I1.tG hc' (I1.hok.fresh hc')
end
def zk(H:Hp):V->Option String
 | .aN=>!"NoneType"
 | .bl _=>!"bool"
 | .int _=>!"int"
 | .str _=>!"str"
 | .ref a=>match H a with
  |some (.lst _)=>!"list"
  |some (.cQ _ (.lst _))=>!"list"
  |some (.tup _)=>!"tuple"
  |some (.dK _)=>!"dict"
  |some (.dT _)=>!"dict"
  |_=>none
 |_=>none
theorem SW{K:W.Frag}{H:Hp}{x:V}{t:String}(h:zk H x=!t):jy K H x (.type t):=by
 cases x with
 |aN=>cases h;exact .aN
 |bl b=>cases h;exact .bl b
 |int i=>cases h;exact .int i
 |str z=>cases h;exact .str z
 |ref a=>
  simp only[zk]at h;split at h
  .rename_i e;cases h;exact .lst e
  .rename_i e;cases h;exact .cQ e
  .rename_i e;cases h;exact .tup e
  .rename_i e;cases h;exact .dK e
  .rename_i e;cases h;exact .dT e
  .cases h
 |_=>cases h
def kO(t c:String):Bool:=t ==c || (t =="bool" && c =="int")
def Lj:List String:=["NoneType","bool","int","str","list","tuple","dict"]
def Ea:List String:=["bool","int","str","list","tuple","dict"]
theorem O0(K:W.Frag):∀t∈Lj,∀c∈Ea,W.kitOne K (.type t) (.type c)=!(kO t c):=by
 intro t ht c hc;simp only[Lj,as2,af0,aRi]at ht;simp only[Ea,as2,af0,aRi]at hc;rcases ht with rfl|rfl|rfl|rfl|rfl|rfl|rfl <;> rcases hc with rfl|rfl|rfl|rfl|rfl|rfl <;> rfl
theorem U0{H:Hp}{x:V}{t:String}(h:zk H x=!t):t∈Lj:=by
 cases x with
 |aN=>cases h;decide
 |bl b=>cases h;decide
 |int i=>cases h;decide
 |str z=>cases h;decide
 |ref a=>
  simp only[zk]at h;split at h <;> first|(cases h;decide)|cases h
 |_=>cases h
section
variable{X:Cx}
inductive GB(xs:List V)(H:Hp)(Q:VK):Prop
 |mk (x t c:_):xs=[x,.ty c]->zk H x=!t->c∈Ea->Q (.bl (kO t c)) H->GB xs H Q
theorem CB:bw X (.builtin "isinstance") GB:=by
 intro pins s σ H xs us Q I r h;let(x,t,c,rfl,ht,hc,q,):=h;let(u,w',rfl,rx,rc,):=vals2 r;cases rc;exact Zgr I rx (SW ht) (O0 X.K t (U0 ht) c hc) λtk=>(.bl _,H,I.tok tk,8,q,)
inductive BN(xs:List V)(H:Hp)(Q:VK):Prop
 |mk (x t c d p:_):xs=[x,.ref p]->H p=!(.tup [.ty c,.ty d])->zk H x=!t->c∈Ea->d∈Ea->Q (.bl (kO t c || kO t d)) H->BN xs H Q
theorem Zic(K:W.Frag){t c d:String}(ht:t∈Lj)(hc:c∈Ea)(hd:d∈Ea):W.kitAny K (.type t) [.type c,.type d]=!(kO t c || kO t d):=by
 unfold W.kitAny;rw[O0 K t ht c hc];cases kO t c with
 |true=>rfl
 |false=>
  show W.kitAny K (.type t) [.type d]=!(kO t d);unfold W.kitAny;rw[O0 K t ht d hd];cases kO t d <;> rfl
theorem UZ:bw X (.builtin "isinstance") BN:=by
 intro pins s σ H xs us Q I r h;let(x,t,c,d,p,rfl,hp,ht,hc,hd,q,):=h;let(u,w',rfl,rx,rc,):=vals2 r;cases rc;let(_,its,rv,(o,ho,hcl,n,hdt,),):=(show aH X.prog X.w H s.heap p (.tup [.ty c,.ty d]) from I.hok p _ hp);let(u1,u2,rfl,r1,r2,):=vals2 rv;cases r1;cases r2;have e:=Zic X.K (U0 ht) hc hd;have fin:∀tk,EP X pins σ Q (.bool (kO t c || kO t d)) { s with toks:=tk }:=λtk=>(.bl _,H,I.tok tk,8,q,);have htp:s.heap.get? p=!(.type "tuple",o.dict,.seq [Value.type c,Value.type d].toArray n,o.slots,):=by
  rw[ho];let(oc,od,odt,osl,):=o;cases hcl;cases hdt;rfl
 have ty:=SW (K:=X.K) ht;generalize hT:Value.type t=T at ty e;cases ty with
 |aN=>cases(show u=Value.none from rx);exact awh W.kitx_none I.dw True.intro htp e (λz=>nomatch z) fin
 |bl y=>cases(show u=Value.bool y from rx);exact awh W.kitx_bool I.dw True.intro htp e (λz=>nomatch z) fin
 |int i=>let(t,q,):=(show ∃t,u=Value.int i t from rx);cases q;exact awh W.kitx_int I.dw True.intro htp e (λz=>nomatch z) fin
 |str y=>let(t,q,):=(show ∃t,u=Value.str y t from rx);cases q;exact awh W.kitx_str I.dw True.intro htp e (λz=>nomatch z) fin
 |AO y=>let(t,q,):=(show ∃t,u=Value.float y t from rx);cases q;exact awh W.kitx_float I.dw True.intro htp e (λz=>nomatch z) fin
 | @lst a xs ea=>
  cases(show u=Value.ref a from rx);let(_,_,n,_,h1,):=(show aH X.prog X.w H s.heap a (.lst xs) from I.hok a _ ea);exact awh W.kitx_list I.dw (_,h1,8,) htp e (λz=>nomatch z) fin
 | @cQ a ob xs ea=>
  cases(show u=Value.ref a from rx);let(_,_,_,n,_,h1,):=(show aH X.prog X.w H s.heap a (.cQ ob (.lst xs)) from I.hok a _ ea);exact awh W.kitx_list I.dw (_,h1,8,) htp e (λz=>nomatch z) fin
 | @tup a xs ea=>
  cases(show u=Value.ref a from rx);let(_,_,_,p,):=(show aH X.prog X.w H s.heap a (.tup xs) from I.hok a _ ea);let(o,h1,h2,_,):=p;exact awh W.kitx_tuple I.dw (o,h1,h2,) htp e (λz=>nomatch z) fin
 | @dK a kvs ea=>
  cases(show u=Value.ref a from rx);let(_,_,vs,_,p,):=(show aH X.prog X.w H s.heap a (.dK kvs) from I.hok a _ ea);let(o,es,ep,h1,h2,_,):=p;exact awh W.kitx_dict I.dw (o,h1,h2.1,) htp e (λz=>nomatch z) fin
 | @dT a kvs ea=>
  cases(show u=Value.ref a from rx);let(_,_,xs,_,o,es,ep,h1,h2,_,):=(show aH X.prog X.w H s.heap a (.dT kvs) from I.hok a _ ea);exact awh W.kitx_dict I.dw (o,h1,h2.1,) htp e (λz=>nomatch z) fin
 |ins e'=>cases hT
theorem zD:bootBuiltins "isinstance"=!(.builtin "isinstance"):=by first|rfl|decide +kernel|kernel_rfl
theorem Jw:bootBuiltins "all"=!(.builtin "all"):=by first|rfl|decide +kernel|kernel_rfl
theorem O9:bootBuiltins "any"=!(.builtin "any"):=by first|rfl|decide +kernel|kernel_rfl
theorem UD:bootBuiltins "max"=!(.builtin "max"):=by first|rfl|decide +kernel|kernel_rfl
theorem Zid:bootBuiltins "min"=!(.builtin "min"):=by first|rfl|decide +kernel|kernel_rfl
theorem UC:bootBuiltins "abs"=!(.builtin "abs"):=by first|rfl|decide +kernel|kernel_rfl
theorem Zen:bootBuiltins "divmod"=!(.builtin "divmod"):=by first|rfl|decide +kernel|kernel_rfl
theorem LG:bootBuiltins "int"=!(.type "int"):=by first|rfl|decide +kernel|kernel_rfl
theorem Vc:bootBuiltins "bool"=!(.type "bool"):=by first|rfl|decide +kernel|kernel_rfl
theorem Fq:bootBuiltins "str"=!(.type "str"):=by first|rfl|decide +kernel|kernel_rfl
theorem ZU:bootBuiltins "list"=!(.type "list"):=by first|rfl|decide +kernel|kernel_rfl
theorem Ph:bootBuiltins "tuple"=!(.type "tuple"):=by first|rfl|decide +kernel|kernel_rfl
theorem OZ:∀{bs:List Bool}{its:List Value},Vals (bs.map V.bl) its->its=bs.map Value.bool
 | [],_,.nil=>rfl
 |b ::bs,_,.cons r t=>by rw[OZ t];cases r;rfl
theorem Vb{bs:List Bool}(f:Nat->Bool)(hf:∀i b,bs[i]?=!b->f i=b):(List.range bs.length).map f=bs:=by
 apply aNd;intro i;rw[a7o];by_cases h:i<bs.length
 .rw [adw h,ais h];simp only[aLH];rw[hf i _ (ais h)]
 .rw [aX6 (by simpa using h),aX6 7];rfl
theorem JF(hc:X.calm=true):bw X (.builtin "all") (λxs H Q=>∃(p:Addr)(bs:List Bool),xs=[.ref p]/\au X.K H p (bs.map V.bl)/\Q (.bl (bs.all id)) H):=by
 intro pins s σ H xs us Q I r h;let(p,bs,rfl,hq,q,):=h;let(u,rfl,rx,):=vals1 r;cases rx;let(its,rv,pl,hz,):=I.list hq;have e:=OZ rv;subst e;refine call_all_walk (wpAny_pyIter_list pl.isList ?_);refine(s.heap.objs.size,_,[s.heap.objs.size],108,λi=>bs.getD i true,8,Walks.list (A:=X.A.in1) (show X.A.in1.handled=none from I.ok.hd hc) s.heap.objs.size p ?_ (bs.map Value.bool).toArray,((_,a1M _ 8,8,8,),pl.isList.at λo e=>a47 _ e,),?_,?_,)
 .let(o,e,_,):=pl.isList;exact abm (ape e)
 .intro i v s' Q' E' hP hQ;have vM:(bs.map Value.bool)[i]?=!v:=by simpa using hP
  rw[a7o]at vM;cases z:bs[i]? with
  |none=>rw[z]at vM;cases vM
  |some b=>
   rw[z]at vM;cases vM;have:bs.getD i true=b:=by rw[an8,z];rfl
   have Iu:Q' (bs.getD i true) s':=hQ;rw[this]at Iu;exact aXA Iu
 .intro h' tk hk;refine(.bl (bs.all id),H,I.kept (t':=tk) (λb o e=>hk b o (by simpa using abm (ape e)) (a47 _ e)),?_,q,);have z:(List.range bs.length).map (λi=>bs.getD i true)=bs:=Vb _ λi b e=>by rw[an8,e];rfl
  have z2:(List.range bs.length).all (λi=>bs.getD i true)=bs.all id:=by
   conv=>rhs;rw[<-z]
   rw[List.all_map];rfl
  show Value.bool _=Value.bool _;have z3:(bs.map Value.bool).toArray.size=bs.length:=5
  rw[z3,z2]
theorem ZkC(lo:Int)(n:Nat):∀{acc:Array Value},ItemsOf (λi v=>∃t,v=.int (lo+i*1) t) acc n->Vals ((List.range n).map λi=>V.int (lo+(i:Nat))) acc.toList:=by
 intro acc h;let(hs,hi,):=h;have gen:∀(l:List Value)(k:Nat)(xs:List V),xs.length=l.length->(∀(j:Nat)(v:Value)(x:V),l[j]?=!v->xs[j]?=!x->RelV x v)->Vals xs l:=by
  intro l
  induction l with
  |nil=>intro k xs hl _;cases xs with|nil=>exact .nil|cons _ _=>simp at hl
  |cons u l ih=>
   intro k xs hl hr;cases xs with
   |nil=>simp at hl
   |cons x xs=>exact .cons (hr 0 u x 8 8) (ih k xs (by simpa using hl) λj v y e1 e2=>hr (j+1) v y (by simpa using e1) (by simpa using e2))
 refine gen _ 0 _ (by simp[hs]) λj v x e1 e2=>?_;have lY:acc[j]?=!v:=by simpa using e1
 let(t,rfl,):=hi j v lY;have hj:j<n:=by rw[<-hs];exact(Array.getElem?_eq_some_iff.mp lY).1
 rw[a7o,adw hj]at e2;cases e2;exact(t,5,)
def ZfH(ta:TA):TE:=λσ H Q=>ta σ H λvs H1=>∃i j:Int,vs=[.int i,.int j]/\(-(2 ^ 62)<=i/\i<2 ^ 62 /\ -(2 ^ 62)<=j/\j<2 ^ 62)/\(j-i).toNat<=sizeLine /\
 ∀p,H1 p=none->Q (.ref p) (upd H1 p (.lst ((List.range (j-i).toNat).map λk=>V.int (i+(k:Nat)))))
theorem ZdJ{a b:PySem.Expr}{ta:TA}{p q pos pos2:Pos}(hc:X.calm=true)(Yu:Gl X "list")(hm1:X.mg "list"=none)(hg:Gl X "range")(hm:X.mg "range"=none)(ha:PA X [a,b] ta)
  (hs:starEach [a,b] X.env=[(false,eval a X.env),(false,eval b X.env)]:=by rfl) (hs2:starEach [b] X.env=[(false,eval b X.env)]:=by rfl)
  (K1:starEach [PySem.Expr.Call (.Name "range" p) [a,b] [] pos] X.env=[(false,eval (PySem.Expr.Call (.Name "range" p) [a,b] [] pos) X.env)]:=by rfl) :
  PE X (.Call (.Name "list" q) [.Call (.Name "range" p) [a,b] [] pos] [] pos2) (ZfH ta):=by
 intro pins s σ H Q I h;refine Call_ (zE I Yu hm1 ZU (aMm (Q:=EP X pins σ Q) ?_ K1 8));rw[K1];refine bbt (Call_ (zE I hg hm boot_range (aMm (tW (ha pos pins s σ H _ I h) λus s1 vs H1 I1 r1 q1=>?_) (by rw[hs,hs2]) (by rw[hs2];rfl))));let(i,j,e,(q1,q2,q3,q4,),hz,q,):=q1;subst e;cases r1 with
 |cons r rr=>
  cases rr with
  |cons r' rr=>
   cases rr;let(t,rfl,):=r;let(t',rfl,):=r';refine call_range_2 (aKB ?_);have I2:Inv X pins σ H1 { s1 with heap:=s1.heap.push { cls:=.type "range",data:=.fields #[.int i t,.int j t',.int 1 s1.toks] },toks:=s1.toks+1 }:=I1.kept λb o e=>a47 _ e;have hsz:sizeLine=16777216:=a1n;refine call_list_range (n:=(j-i).toNat) (I.ok.hd hc) (IsRange.new ..) (small_one q1 q2 q3 q4) (by rw[rangeSize_one];split <;> lia) 7 λh' tk acc' c' hk hS hit=>?_;refine(.ref _,_,I2.laid (o:=.lst ((List.range (j-i).toNat).map λk=>V.int (i+(k:Nat)))) hk (amA _) (by simpa using hz,acc'.toList,c',ZkC i _ hit,by simpa using hS,),8,q _ (I2.hok.fresh (amA _)),)
end
structure Def(P:Program)(w:World)(K:W.Frag)(mg:Str->Option Value)(base:Heap)(x:Str)(k:Nat)(ps:List Str)(sp:Sp):Prop where
 ex:∃(f:Addr)(fd:FuncData),aZ P w K mg base mJ k f fd ps sp/\mg x=!(.ref f)/\W.keepIn K (.ref f)=true/\Binds K fd ps []
section
variable{X:Cx}{x:Str}{p pos:Pos}{e:PySem.Expr}{es:List PySem.Expr}{t:TA}{k:Nat}{ps:List Str}{sp:Sp}
theorem ZkD(D:Def X.prog X.w X.K X.mg X.base x k ps sp)(hr:aY k X.A)(hg:Gl X x)(ha:PA X (e ::es) t)
  (he:starEach (e ::es) X.env=(false,eval e X.env) ::starEach es X.env:=by rfl) (hpl:(backTo pos (starEach es X.env)).any (·.1)=false:=by rfl) (hd:(x ==("__debug__":Str))=false:=by decide) :
  PE X (.Call (.Name x p) (e ::es) [] pos) (tY sp [] E0 t):=by
 let(f,fd,F,hm,hk,hb,):=D.ex;exact Zjs F hr hg hm hk hb .nil uM ha (hdb:=hd) (he:=he) (hpl:=hpl)
end
theorem ZH{X:Cx}{K:W.Frag}{es:List PySem.Expr}{k:Nat}{t:CJ}{n:Nat}{pos:Pos}(hK:X.K=K)(hc:X.calm=true)(h:JN X es t)
  (hn:(assignEach es X.env).length=n:=by rfl) (hst:(assignEach es X.env).findIdx? (·.1)=none:=by rfl):PG X (.Tuple es k pos) (Iw K n t):=by
 subst hK;exact Zkr hc h hn hst
def Ct(iN:Scope)(oN:List Str)(scope:Scope)(N:List Str)(own:Nat)(js:List Nat):Bool:=
 scope.kind == .function && scope.names.all (λy=>y.2 != .cell || scope.names.lookup y.1 ==!.cell) && scope.names.all (λy=>y.2 != .local || scope.names.lookup y.1 ==!.local) &&
 scope.names.all (λy=>y.2 != .free || (iN.names.lookup y.1 ==some .cell || iN.names.lookup y.1 ==!.free)) && N.length ==own+js.length &&
 (js.map λj=>oN[j]?) ==(N.drop own).map some && (N.drop own).all λx=>scope.names.lookup x ==!.free
theorem Zw{X:Cx}{iN:Scope}{oN:List Str}{scope:Scope}{N:List Str}{own:Nat}{js:List Nat}(h:Ct iN oN scope N own js=true)(hs:X.env.scope=iN)(hN:X.N=oN):d9 X scope N own js:=by
 unfold Ct at h;simp only[aNn,am5,Bool.or_eq_true,aEg,bne_iff_ne,ne_eq]at h;let((((((h1,h2,),h3,),h4,),h5,),h6,),h7,):=h;refine(h1,λy hy hl=>?_,λy hy hl=>?_,λy hy hf=>?_,h5,λk j e=>?_,λk x e=>?_,)
 .rcases h2 y hy with q|q
  .exact absurd hl q
  .exact q
 .rcases h3 y hy with q|q
  .exact absurd hl q
  .exact q
 .rcases h4 y hy with q|q
  .exact absurd hf q
  .show X.env.scope.names.lookup y.1=_\/X.env.scope.names.lookup y.1=_;rw[hs];exact q
 .rw [hN];have z:=aFk (λl=>l[k]?) h6;simp only[a7o,e,aLH,getElem?_drop]at z;cases q:N[own+k]? with
  |none=>rw[q]at z;cases z
  |some y=>rw[q]at z;exact(aZC z).symm
 .refine h7 x ?_;exact a1U (i:=k) (by rw[getElem?_drop];exact e)
def SB(b:Addr)(H H':Hp):Prop:=∀a o,a≠b->H a=!o->H' a=!o
theorem SB.trans{b:Addr}{H H1 H2:Hp}(x:SB b H H1)(y:SB b H1 H2):SB b H H2:=λa o n h=>y a o n (x a o n h)
theorem aA.sb{H H':Hp}(x:aA H H')(b:Addr):SB b H H':=λa o _ h=>x a o h
theorem E6(b:Addr)(H:Hp)(o:HO):SB b H (upd H b o):=λa u n h=>by rw[Zc n];exact h
theorem Zf{H:Hp}{p:Addr}(h:H p=none)(o:HO):aA H (upd H p o):=λb u q=>by rw[Zc (Zd q h)];exact q
def jd(n:Nat)(l:Addr)(Pv:Nat->List V->St->Hp->Prop)(i:Nat)(ys:List V)(σ:St)(y:V)(H:Hp):Prop:=
 H l=!(.lst ys)/\ys.length<sizeLine/\∃m',m'<n-i/\(m'=n-(i+1)/\i+1<=n/\(ys++[y]).length<=i+1/\Pv (i+1) (ys++[y]) σ (upd H l (.lst (ys++[y]))))
def Bl(n:Nat)(Pv:Nat->List V->St->Hp->Prop)(i:Nat)(ys:List V)(σ:St)(H:Hp):Prop:=∃m',m'<n-i/\(m'=n-(i+1)/\i+1<=n/\ys.length<=i+1/\Pv (i+1) ys σ H)
theorem jd.of{n:Nat}{l:Addr}{Pv:Nat->List V->St->Hp->Prop}{i:Nat}{ys:List V}{σ:St}{y:V}{H:Hp}(hn:n<=sizeLine)(hi:i<n)(hy:ys.length<=i)(h1:H l=!(.lst ys))(h2:Pv (i+1) (ys++[y]) σ (upd H l (.lst (ys++[y])))):jd n l Pv i ys σ y H:=
 (h1,7,n-(i+1),7,8,hi,by rw[a14,adN];lia,h2,)
theorem Bl.of{n:Nat}{Pv:Nat->List V->St->Hp->Prop}{i:Nat}{ys:List V}{σ:St}{H:Hp}(hi:i<n)(hy:ys.length<=i)(h2:Pv (i+1) ys σ H):Bl n Pv i ys σ H:=
 (n-(i+1),7,8,hi,7,h2,)
theorem ZY{lo:Int}{n:Nat}{l:Addr}{g:TG}{tc:TT}{te:TE}{σ0:St}{H0:Hp}{Qf:Hp->Prop}(Pv:Nat->List V->St->Hp->Prop)(h0:Pv 0 [] σ0 H0)
  (hs:∀i ys σ' H',i<n->ys.length<=i->Pv i ys σ' H'->g (.int (lo+i)) σ' H' λσ2 H3=>tc σ2 H3 λb H4=>if b=true then te σ2 H4 λy H5=>jd n l Pv i ys σ2 y H5 else Bl n Pv i ys σ2 H4)
  (hd:∀ys σ' H',ys.length<=n->Pv n ys σ' H'->Qf H') :
  ∃W:Nat->Nat->List V->St->Hp->Prop,(∃m,W 0 m [] σ0 H0)/\∀i m ys σ' H',W i m ys σ' H' ->
  ((Bh lo n).stop i H'/\Qf H')\/((Bh lo n).go i H'/\∀x H2,(Bh lo n).rY i H' x H2->g x σ' H2 λσ2 H3=>tc σ2 H3 λb H4=>
    if b=true then te σ2 H4 λy H5=>H5 l=!(.lst ys)/\ys.length<sizeLine/\∃m',m'<m/\W (i+1) m' (ys++[y]) σ2 (upd H5 l (.lst (ys++[y])))
    else ∃m',m'<m/\W (i+1) m' ys σ2 H4):=by
 refine(λi m ys σ' H'=>m=n-i/\i<=n/\ys.length<=i/\Pv i ys σ' H',(n,8,aei _,amA _,h0,),?_,);rintro i m ys σ' H' ⟨rfl,hi,hy,p⟩;by_cases hlt:i<n
 .refine .inr (hlt,λx H2 q=>?_,);let(rfl,rfl,):=q;exact hs i ys σ' _ hlt hy p
 .have e:i=n:=7
  subst e;exact .inl (amA _,hd ys σ' H' hy p,)
theorem Fp{K:W.Frag}{a:Addr}{xs:List V}{l:Addr}{g:TG}{tc:TT}{te:TE}{σ0:St}{H0:Hp}{Qf:Hp->Prop}(Pv:Nat->List V->St->Hp->Prop)(h0:Pv 0 [] σ0 H0)
  (hl:∀i ys σ' H',i<=xs.length->Pv i ys σ' H'->au K H' a xs)
  (hs:∀i x ys σ' H',i<xs.length->xs[i]?=!x->ys.length<=i->Pv i ys σ' H'->g x σ' H' λσ2 H3=>tc σ2 H3 λb H4=>if b=true then te σ2 H4 λy H5=>jd xs.length l Pv i ys σ2 y H5 else Bl xs.length Pv i ys σ2 H4)
  (hd:∀ys σ' H',ys.length<=xs.length->Pv xs.length ys σ' H'->Qf H') :
  ∃W:Nat->Nat->List V->St->Hp->Prop,(∃m,W 0 m [] σ0 H0)/\∀i m ys σ' H',W i m ys σ' H' ->
  ((CU K a).stop i H'/\Qf H')\/((CU K a).go i H'/\∀x H2,(CU K a).rY i H' x H2->g x σ' H2 λσ2 H3=>tc σ2 H3 λb H4=>
    if b=true then te σ2 H4 λy H5=>H5 l=!(.lst ys)/\ys.length<sizeLine/\∃m',m'<m/\W (i+1) m' (ys++[y]) σ2 (upd H5 l (.lst (ys++[y])))
    else ∃m',m'<m/\W (i+1) m' ys σ2 H4):=by
 refine(λi m ys σ' H'=>m=xs.length-i/\i<=xs.length/\ys.length<=i/\Pv i ys σ' H',(xs.length,8,aei _,amA _,h0,),?_,);rintro i m ys σ' H' ⟨rfl,hi,hy,p⟩;have q:=hl i ys σ' H' hi p;by_cases hlt:i<xs.length
 .refine .inr ((xs,xs[i],q,by simp[hlt],),λx H2 z=>?_,);let(rfl,z,):=z;exact hs i x ys σ' _ hlt (z xs q) hy p
 .have e:i=xs.length:=7
  subst e;exact .inl ((xs,q,amA _,),hd ys σ' H' hy p,)
theorem Zie{K:W.Frag}{a b:Addr}{xs zs:List V}{l:Addr}{g:TG}{tc:TT}{te:TE}{σ0:St}{H0:Hp}{Qf:Hp->Prop}(hlen:xs.length=zs.length)(Pv:Nat->List V->St->Hp->Prop)(h0:Pv 0 [] σ0 H0)
  (hl:∀i ys σ' H',i<=xs.length->Pv i ys σ' H'->au K H' a xs/\au K H' b zs)
  (hs:∀i x z t ys σ' H',i<xs.length->xs[i]?=!x->zs[i]?=!z->ys.length<=i->Pv i ys σ' H'->H' t=none->g (.ref t) σ' (upd H' t (.tup [x,z])) λσ2 H3=>tc σ2 H3 λb H4=>if b=true then te σ2 H4 λy H5=>jd xs.length l Pv i ys σ2 y H5 else Bl xs.length Pv i ys σ2 H4)
  (hd:∀ys σ' H',ys.length<=xs.length->Pv xs.length ys σ' H'->Qf H') :
  ∃W:Nat->Nat->List V->St->Hp->Prop,(∃m,W 0 m [] σ0 H0)/\∀i m ys σ' H',W i m ys σ' H' ->
  ((Bg K a b).stop i H'/\Qf H')\/((Bg K a b).go i H'/\∀x H2,(Bg K a b).rY i H' x H2->g x σ' H2 λσ2 H3=>tc σ2 H3 λb H4=>
    if b=true then te σ2 H4 λy H5=>H5 l=!(.lst ys)/\ys.length<sizeLine/\∃m',m'<m/\W (i+1) m' (ys++[y]) σ2 (upd H5 l (.lst (ys++[y])))
    else ∃m',m'<m/\W (i+1) m' ys σ2 H4):=by
 refine(λi m ys σ' H'=>m=xs.length-i/\i<=xs.length/\ys.length<=i/\Pv i ys σ' H',(xs.length,8,aei _,amA _,h0,),?_,);rintro i m ys σ' H' ⟨rfl,hi,hy,p⟩;have q:=hl i ys σ' H' hi p;by_cases hlt:i<xs.length
 .have hz:i<zs.length:=7
  refine .inr ((xs,zs,xs[i],zs[i],q.1,q.2,by simp[hlt],by simp[hz],),λx H2 z=>?_,);let(t,u,v,ht,rfl,rfl,z1,z2,):=z;exact hs i u v t ys σ' _ hlt (z1 xs q.1) (z2 zs q.2) hy p ht
 .have e:i=xs.length:=7
  subst e;exact .inl ((xs,zs,q.1,q.2,.inl (amA _),),hd ys σ' H' hy p,)
theorem UB{K:W.Frag}{a:Addr}{xs:List V}{g:TG}{tb:TS}{D:Ends}{σ:St}{H:Hp}(Pv:Nat->St->Hp->Prop)(h0:Pv 0 σ H)(hl:∀i σ H,i<=xs.length->Pv i σ H->au K H a xs)
  (hs:∀i x t σ H,xs[i]?=!x->Pv i σ H->H t=none->g (.ref t) σ (upd H t (.tup [.int i,x])) λσ2 H2=>tb { D with nx:=Pv (i+1),ct:=Pv (i+1),bk:=D.nx } σ2 H2) (hd:∀ σ H,Pv xs.length σ H->D.nx σ H) :
  ∃W:Nat->Nat->St->Hp->Prop,(∃m,W 0 m σ H)/\∀i m σ H,W i m σ H ->
   ((CV K a).stop i H/\D.nx σ H)\/((CV K a).go i H/\∃N:St->Hp->Prop,(∀ σ' H',N σ' H'->∃m',m'<m/\W (i+1) m' σ' H')/\∀x H',(CV K a).rY i H x H'->g x σ H' λσ2 H2=>tb { D with nx:=N,ct:=N,bk:=D.nx } σ2 H2):=by
 refine(λi m σ H=>m=xs.length-i/\i<=xs.length/\Pv i σ H,(xs.length,5,aei _,h0,),?_,);rintro i m σ H ⟨rfl,hi,p⟩;have q:=hl i σ H hi p;by_cases hlt:i<xs.length
 .refine .inr ((xs,xs[i],q,by simp[hlt],),Pv (i+1),λσ' H' p'=>(xs.length-(i+1),7,8,hlt,p',),λx H' y=>?_,);let(t,u,ht,rfl,rfl,y,):=y;exact hs i u t σ _ (y xs q) p ht
 .have e:i=xs.length:=7
  subst e;exact .inl ((xs,q,8,),hd σ H p,)
theorem dZ{α:Type}{x:α}{xs:List α}:fU (x ::xs) 0=!x:=yV (j:=0) 8
theorem jx{α:Type}{x y:α}{xs:List α}:fU (x ::y ::xs) 1=!y:=yV (j:=1) 8
theorem jw{α:Type}{x y z:α}{xs:List α}:fU (x ::y ::z ::xs) 2=!z:=yV (j:=2) 8
theorem N3{α:Type}{x y z u:α}{xs:List α}:fU (x ::y ::z ::u ::xs) 3=!u:=yV (j:=3) 8
theorem yU{p A B:Prop}[Decidable p](h1:p->A)(h2:¬p->B):if decide p=true then A else B:=by
 by_cases h:p
 .rw [aS1 (a7Y h)];exact h1 h
 .rw [aWd (by rw[alm h];exact aqS)];exact h2 h
section
variable{X:Cx}
theorem ZZ{x:Str}{i:Int}{pos:Pos}(h:∃t,X.mg x=!(.int i t))(hg:Gl X x)(hd:(x ==("__debug__":Str))=false:=by decide):PE X (.Name x pos) (tC (.int i)):=by
 let(t,e,):=h;exact TX hg e (t,8,) hd
end
def NS:PySem.Expr->Prop
 | .Starred _ _=>False
 |_=>True
theorem yT{e:PySem.Expr}{es:List PySem.Expr}{env:Env}(h:NS e):starEach (e ::es) env=(false,eval e env) ::starEach es env:=by
 cases e <;> first|rfl|exact h.elim
def zP:List PySem.Expr->Prop
 | []=>True
 |e ::es=>NS e/\zP es
theorem CG{pos:Pos}{env:Env}:∀{es:List PySem.Expr},zP es->(backTo pos (starEach es env)).any (·.1)=false
 | [],_=>rfl
 |e ::es,h=>by
  rw[yT h.1];have ih:=CG (pos:=pos) (env:=env) h.2;simp only[backTo]at ih ⊢;simpa using ih
section
variable{X:Cx}{x:Str}{p pos:Pos}{e:PySem.Expr}{es:List PySem.Expr}{te:TE}{t:TA}{k:Nat}{ps:List Str}{sp:Sp}{id T:String}{r:List V->Hp->VK->Prop}
theorem pc(ha:PE X e te)(hr:PA X es t)(hn:NS e:=by exact True.intro):PA X (e ::es) (Bx te t):=Zjr ha hr (yT hn)
theorem Zl(D:Def X.prog X.w X.K X.mg X.base x k ps sp)(hr:aY k X.A)(hg:Gl X x)(ha:PA X (e ::es) t)(hn:zP (e ::es):=by repeat' (first|exact True.intro|refine⟨?_,?_⟩))(hd:(x ==("__debug__":Str))=false:=by decide) :
  PE X (.Call (.Name x p) (e ::es) [] pos) (tY sp [] E0 t):=ZkD D hr hg ha (yT hn.1) (CG hn.2) hd
theorem Zq(hc:bw X (.builtin id) r)(hg:Gl X x)(hm:X.mg x=none)(hv:bootBuiltins x=!(.builtin id))(ha:PA X (e ::es) t)(hnn:zP (e ::es):=by repeat' (first|exact True.intro|refine⟨?_,?_⟩))(hn:x ≠ "__name__":=by decide)(hdb:(x ==("__debug__":Str))=false:=by decide) :
  PE X (.Call (.Name x p) (e ::es) [] pos) (Ke r t):=ZhX hc hg hm hv ha hn hdb (yT hnn.1) (CG hnn.2)
theorem ZK(hc:bw X (.type T) r)(hg:Gl X x)(hm:X.mg x=none)(hv:bootBuiltins x=!(.type T))(ha:PA X (e ::es) t)(hnn:zP (e ::es):=by repeat' (first|exact True.intro|refine⟨?_,?_⟩))(hn:x ≠ "__name__":=by decide)(hdb:(x ==("__debug__":Str))=false:=by decide) :
  PE X (.Call (.Name x p) (e ::es) [] pos) (Ke r t):=Zgt hc hg hm hv ha hn hdb (yT hnn.1) (CG hnn.2)
end
theorem Zif{K:W.Frag}{a:Addr}{xs:List V}{l:Addr}{g:TG}{tc:TT}{te:TE}{σ0:St}{H0:Hp}{Qf:Hp->Prop}(Pv:Nat->List V->St->Hp->Prop)(h0:Pv 0 [] σ0 H0)
  (hl:∀i ys σ' H',i<=xs.length->Pv i ys σ' H'->aX K H' a xs)
  (hs:∀i x ys σ' H',i<xs.length->xs[i]?=!x->ys.length<=i->Pv i ys σ' H'->g x σ' H' λσ2 H3=>tc σ2 H3 λb H4=>if b=true then te σ2 H4 λy H5=>jd xs.length l Pv i ys σ2 y H5 else Bl xs.length Pv i ys σ2 H4)
  (hd:∀ys σ' H',ys.length<=xs.length->Pv xs.length ys σ' H'->Qf H') :
  ∃W:Nat->Nat->List V->St->Hp->Prop,(∃m,W 0 m [] σ0 H0)/\∀i m ys σ' H',W i m ys σ' H' ->
  ((CT K a).stop i H'/\Qf H')\/((CT K a).go i H'/\∀x H2,(CT K a).rY i H' x H2->g x σ' H2 λσ2 H3=>tc σ2 H3 λb H4=>
    if b=true then te σ2 H4 λy H5=>H5 l=!(.lst ys)/\ys.length<sizeLine/\∃m',m'<m/\W (i+1) m' (ys++[y]) σ2 (upd H5 l (.lst (ys++[y])))
    else ∃m',m'<m/\W (i+1) m' ys σ2 H4):=by
 refine(λi m ys σ' H'=>m=xs.length-i/\i<=xs.length/\ys.length<=i/\Pv i ys σ' H',(xs.length,8,aei _,amA _,h0,),?_,);rintro i m ys σ' H' ⟨rfl,hi,hy,p⟩;have q:=hl i ys σ' H' hi p;by_cases hlt:i<xs.length
 .refine .inr ((xs,xs[i],q,by simp[hlt],),λx H2 z=>?_,);let(rfl,z,):=z;exact hs i x ys σ' _ hlt (z xs q) hy p
 .have e:i=xs.length:=7
  subst e;exact .inl ((xs,q,amA _,),hd ys σ' H' hy p,)
section
variable{X:Cx}{K:W.Frag}
theorem Zm(hK:X.K=K):JS X (De K):=hK ▸Zjy
theorem ZW(hK:X.K=K):JS X (Dc K):=hK ▸Zkx
theorem UA(hK:X.K=K):Pn X (C9 K):=hK ▸Zjz
theorem Va(hK:X.K=K):jS X (compareOp .In) (GC K false):=hK ▸Zgw
theorem Ve(hK:X.K=K):jS X (compareOp .NotIn) (GC K true):=hK ▸ZdC
theorem ZD(hK:X.K=K):bw X (.builtin "len") (λxs H Q=>∃p ys,xs=[.ref p]/\(au K H p ys\/aX K H p ys)/\Q (.int ys.length) H):=hK ▸ZdD
theorem LR(hK:X.K=K):bw X (.type "list") (λxs H Q=>∃p ys,xs=[.ref p]/\(au K H p ys\/aX K H p ys)/\∀l,H l=none->Q (.ref l) (upd H l (.lst ys))):=hK ▸ZdE
theorem Zcx(hK:X.K=K):bw X (.type "tuple") (λxs H Q=>∃p ys,xs=[.ref p]/\((au K H p ys/\∀l,H l=none->Q (.ref l) (upd H l (.tup ys)))\/(aX K H p ys/\Q (.ref p) H))):=hK ▸ZcR
theorem ZfI{ns ms:List Int}(h:ns.length=ms.length):(List.range ns.length).all (λj=>ns.getD j 0 ==ms.getD j 0)=decide (ns=ms):=by
 rw[aNg,am5,ada];constructor
 .intro z;refine List.ext_getElem h λj h1 h2=>?_;have:=z j (aGX.mpr h1);rw[an8,an8,ais h1,ais h2]at this;simpa using this
 .rintro rfl j _;simp
inductive GD(K:W.Frag) (neg:Bool)(x:V)(y:V)(H:Hp)(Q:VK):Prop
 |mk (a b:Addr) (ns ms:List Int):x=.ref a->y=.ref b->au K H a (ns.map V.int)->au K H b (ms.map V.int)->Q (.bl (if neg then (not (decide (ns=ms))) else decide (ns=ms))) H->GD K neg x y H Q
theorem ZgD{A:Around}{s:Shared}{ns:List Int}{us:List Value}(r:Vals (ns.map V.int) us){ms:List Int}{ws:List Value}(r2:Vals (ms.map V.int) ws)(j:Nat)(h1:j<us.toArray.size)(h2:j<ws.toArray.size):SeqAt.EqAt A s us.toArray[j] ws.toArray[j] (ns.getD j 0 ==ms.getD j 0):=by
 have l1:ns.length=us.length:=by have:=r.length;rwa [aHJ]at this
 have l2:ms.length=ws.length:=by have:=r2.length;rwa [aHJ]at this
 have k1:j<ns.length:=by rw[l1];simpa using h1
 have k2:j<ms.length:=by rw[l2];simpa using h2
 let(u,hu,ru,):=r.get (i:=j) (x:=.int ns[j]) (by rw[a7o,ais k1];rfl);let(v,hv,rv,):=r2.get (i:=j) (x:=.int ms[j]) (by rw[a7o,ais k2];rfl);let(t,rfl,):=ru;let(t',rfl,):=rv;have e1:us.toArray[j]=.int ns[j] t:=by
  have:us[j]?=!us[j]:=ais (by simpa using h1);rw[hu]at this;simpa using(aZC this).symm
 have e2:ws.toArray[j]=.int ms[j] t':=by
  have:ws[j]?=!ws[j]:=ais (by simpa using h2);rw[hv]at this;simpa using(aZC this).symm
 rw[e1,e2,an8,an8,ais k1,ais k2];exact SeqAt.EqAt.int_int _ _ _ _
theorem ZkE(hu:X.A.units<cLine)(hK:X.K=K):jS X (compareOp .NotEq) (GD K true):=by
 subst hK;intro pins s σ H x y v u Q I rx ry h;let(a,b,ns,ms,rfl,rfl,ha,hb,q,):=h;cases rx;cases ry;let(its,r1,p1,_,):=I.list ha;let(its2,r2,p2,_,):=I.list hb;have l1:ns.length=its.length:=by have:=r1.length;rwa [aHJ]at this
 have l2:ms.length=its2.length:=by have:=r2.length;rwa [aHJ]at this
 by_cases hl:ns.length=ms.length
 .refine SeqAt.RcNeAt.lists (e:=λj=>ns.getD j 0 ==ms.getD j 0) p1.isList p2.isList (by simp;lia) hu (λj h1 h2=>ZgD r1 r2 j h1 h2) X.prog X.w X.xe _ (.bl _,H,I,8,?_,);rw[ahA,<-l1,ZfI hl];exact q
 .refine SeqAt.RcNeAt.lists_lengths p1.isList p2.isList (by simp;lia) hu X.prog X.w X.xe _ (.bl true,H,I,8,?_,);have e:decide (ns=ms)=false:=alm λz=>hl (by rw[z]);rw[e]at q;exact q
end
end L2
namespace HT
open PySem PyProof.Rows
section
open PySem.SeqAt
open PySem.AutoSeq1 (wpAny_loadPart')
open PySem.MeetsSeq PySem.MeetsSeq2 PySem.MeetsSeq3
end
end HT
namespace L2
open PySem PySem.Spec PyProof.Rows
theorem SV{h:Heap}{a:Addr}{us:Array Value}(x:IsTup h a us):a<h.objs.size:=by
 let(o,ho,_,):=x;exact ape ho
section
variable{X:Cx}
inductive uE(x:V)(vs:List V)(H:Hp)(Q:VK):Prop
 |mk (l:Addr) (ns:List Int) (k:Int):x=.ref l->vs=[.int k]->H l=!(.lst (ns.map V.int))->k∈ns->Q .aN (upd H l (.lst ((ns.erase k).map V.int)))->uE x vs H Q
theorem Uz(k:Int):∀(ns:List Int),k∈ns->∃j,ns[j]?=!k/\(∀m z,m<j->ns[m]?=!z->z≠k)/\ns.erase k=ns.eraseIdx j
 | [],h=>nomatch h
 |x ::ns,h=>by
  by_cases hx:x=k
  .subst hx;exact(0,8,λm z hm=>absurd hm (Nat.not_lt_zero _),by rw[aaJ,List.eraseIdx_cons_zero],)
  .have hm:k∈ns:=by
    rcases ajG.mp h with e|e
    .exact absurd e.symm hx
    .exact e
   let(j,h1,h2,h3,):=Uz k ns hm;refine(j+1,by simpa using h1,λm z hm hz=>?_,?_,)
   .cases m with
    |zero=>
     have e:x=z:=by simpa using hz
     rw[<-e];exact hx
    |succ m=>exact h2 m z 7 (by simpa using hz)
   .rw [List.erase_cons_tail (by simpa using hx),h3,a36]
theorem ZfJ{xs:List V}{us:List Value}:∀(j:Nat),Vals xs us->Vals (xs.eraseIdx j) (us.eraseIdx j):=by
 intro j r
 induction r generalizing j with
 |nil=>exact .nil
 |cons h t ih=>
  cases j with
  |zero=>exact t
  |succ j=>exact .cons h (ih j)
theorem UY:Py X "list.remove" uE:=by
 intro pins s σ H x vs v us Q I rx rv h;let(l,ns,k,rfl,rfl,hH,hk,q,):=h;cases rx;let(u,rfl,ru,):=rv.one;let(tk,rfl,):=ru;let(z,its,n,r,hl,e,):=I.pK hH;rw[aHJ]at hl z;let(j,h1,h2,h3,):=Uz k ns hk;have get:∀(m:Nat)(hm:m<its.toArray.size),∃(i:Int)(t:Tok),ns[m]?=!i/\its.toArray[m]=.int i t:=λm hm=>by
  have hm':m<ns.length:=by rw[hl];simpa using hm
  let(w,hw,rw',):=r.get (i:=m) (x:=.int ns[m]) (by rw[a7o,ais hm'];rfl);let(t,rfl,):=rw';refine(ns[m],t,ais hm',?_,);have:its[m]?=!its[m]:=ais (by simpa using hm);rw[hw]at this;simpa using(aZC this).symm
 have hj:j<its.toArray.size:=by
  have:=(au3.mp h1).1;rw[hl]at this;simpa using this
 refine call_meets F.slot_list_remove (_,e,8,) F.entry_list_remove (F.args_list_remove_2 _ _) (MeetsSeq.list_remove l its.toArray n (.int k tk) (λy=>match y with| .int i _=>i ==k|_=>false) (λy hy=>?_) j hj ?_ (λm hm Yp=>?_) (by rw[ahA,<-hl];exact z)) (e,?_,)
 .let(m,hm,rfl,):=Array.getElem_of_mem hy;let(i,t,_,e2,):=get m hm;rw[e2];exact MeetsSeq.EqGives.int i k t tk
 .let(i,t,e1,e2,):=get j hj;rw[h1]at e1;cases e1;rw[e2];simp
 .let(i,t,e1,e2,):=get m hm;rw[e2];simpa using h2 m i Yp e1
 .refine (.aN,_,I.vK (its':=its.eraseIdx j) (ys:=(ns.erase k).map V.int) hH e ?_ ?_ ?_,8,q,)
  .rw [List.eraseIdxIfInBounds_toArray]
  .rw [h3];have em:∀(xs:List Int)(i:Nat),(xs.eraseIdx i).map V.int=(xs.map V.int).eraseIdx i:=λxs=>by
    induction xs with
    |nil=>intro i;rfl
    |cons y xs ih=>intro i;cases i with
     |zero=>rfl
     |succ i=>rw[a36,aZ1,aZ1,a36,ih]
   rw[em];exact ZfJ j r
  .rw [aHJ];exact atw List.length_erase_le z
end
section
variable{κ:Type}[DecidableEq κ]
def aL(kvs:List (κ×V))(k:κ):Option V:=(kvs.find? λkv=>decide (kv.1=k)).map (·.2)
def putK(kvs:List (κ×V))(k:κ)(v:V):List (κ×V):=
 if(kvs.any λkv=>decide (kv.1=k))=true then kvs.map (λkv=>if kv.1=k then(kv.1,v) else kv) else kvs++[(k,v)]
def aW(kvs:List (κ×V))(k:κ):List (κ×V):=kvs.filter λkv=>decide (kv.1≠k)
theorem ZQ{p:κ×V}{r:List (κ×V)}{k:κ}(e:p.1=k):aL (p ::r) k=!p.2:=by simp[aL,abQ,e]
theorem ZM{p:κ×V}{r:List (κ×V)}{k:κ}(e:¬p.1=k):aL (p ::r) k=aL r k:=by simp[aL,abQ,e]
theorem Jv(k:κ):∀kvs:List (κ×V),(kvs.any λkv=>decide (kv.1=k))=(aL kvs k).isSome
 | []=>rfl
 |p ::r=>by
  rw[any_cons];by_cases e:p.1=k
  .simp only[ZQ e,a7Y e,Bool.true_or,Option.isSome_some]
  .rw [ZM e,alm e,Bool.false_or];exact Jv k r
theorem Uy(k j:κ)(y:V):∀kvs:List (κ×V),aL (kvs.map λkv=>if kv.1=k then(kv.1,y) else kv) j=(aL kvs j).map λx=>if j=k then y else x
 | []=>rfl
 |p ::r=>by
  have ih:=Uy k j y r;rw[aZ1];by_cases h:p.1=k
  .rw [aS1 h];by_cases e:p.1=j
   .rw [ZQ (p:=(p.1,y)) e,ZQ e,aLH,aS1 (e.symm.trans h)]
   .rw [ZM (p:=(p.1,y)) e,ZM e,ih]
  .rw [aWd h];by_cases e:p.1=j
   .rw [ZQ (p:=p) e,ZQ e,aLH,aWd (λz=>h (e.trans z))]
   .rw [ZM (p:=p) e,ZM e,ih]
theorem UX(k j:κ)(y:V):∀kvs:List (κ×V),aL kvs k=none->aL (kvs++[(k,y)]) j=if j=k then some y else aL kvs j
 | [],_=>by
  by_cases e:k=j
  .rw [aS1 e.symm];exact ZQ (p:=(k,y)) e
  .rw [aWd (λz=>e z.symm)];exact ZM (p:=(k,y)) e
 |p ::r,hn=>by
  rw[aKC];have hk:¬p.1=k:=λz=>by rw[ZQ z]at hn;cases hn
  rw[ZM hk]at hn;have ih:=UX k j y r hn;by_cases e:p.1=j
  .rw [ZQ e,ZQ e,aWd (λz=>hk (e.trans z))]
  .rw [ZM e,ZM e,ih]
theorem Fl(kvs:List (κ×V))(k j:κ)(y:V):aL (putK kvs k y) j=if j=k then some y else aL kvs j:=by
 unfold putK;by_cases a:(kvs.any λkv=>decide (kv.1=k))=true
 .rw [aS1 a,Uy];rw[Jv]at a;by_cases e:j=k
  .let(x,hx,):=Option.isSome_iff_exists.mp a;rw[aS1 e,e,hx,aLH,aS1 8]
  .rw [aWd e];cases aL kvs j with
   |none=>rfl
   |some x=>rw[aLH,aWd e]
 .rw [aWd a];refine UX k j y kvs ?_;rw[Jv]at a;cases q:aL kvs k with
  |none=>rfl
  |some x=>rw[q]at a;exact(a 8).elim
theorem Jz(kvs:List (κ×V))(k:κ)(v:V):(putK kvs k v).length<=kvs.length+1:=by
 unfold putK;split
 .rw [aHJ];lia
 .rw [a14,aII,a4z];lia
theorem dR.jv{o:Option V}{u:Option Value}(r:dR o u):o.isSome=u.isSome:=by
 cases o with
 |none=>cases u with
  |none=>rfl
  |some _=>exact(show False from r).elim
 |some _=>cases u with
  |none=>exact(show False from r).elim
  |some _=>rfl
theorem dR.getD{o:Option V}{u:Option Value}{d:V}{d':Value}(r:dR o u)(rd:RelV d d'):RelV (o.getD d) (u.getD d'):=by
 cases o with
 |none=>cases u with
  |none=>exact rd
  |some _=>exact(show False from r).elim
 |some _=>cases u with
  |none=>exact(show False from r).elim
  |some _=>exact r
theorem KV.val{kvs:List (κ×V)}{vs:List (κ×Value)}(r:KV kvs vs)(k:κ):dR (aL kvs k) (valueAt vs k):=by
 unfold KV at r
 induction r with
 |nil=>exact True.intro
 | @cons p q ps qs h t ih=>
  let(h1,h2,):=h;by_cases e:p.1=k
  .have e':q.1=k:=h1.symm.trans e;have b:valueAt (q ::qs) k=!q.2:=by simp[valueAt,abQ,e']
   rw[ZQ e,b];exact h2
  .have e':¬q.1=k:=λz=>e (h1.trans z);have b:valueAt (q ::qs) k=valueAt qs k:=by simp[valueAt,abQ,e']
   rw[ZM e,b];exact ih
theorem KV.any{kvs:List (κ×V)}{vs:List (κ×Value)}(r:KV kvs vs)(k:κ):(kvs.any λkv=>decide (kv.1=k))=vs.any λkv=>decide (kv.1=k):=by
 unfold KV at r
 induction r with
 |nil=>rfl
 |cons h t ih=>rw[any_cons,any_cons,ih,h.1]
theorem KV.repl{kvs:List (κ×V)}{vs:List (κ×Value)}(r:KV kvs vs)(k:κ){y:V}{u:Value}(ry:RelV y u) :
  KV (kvs.map λkv=>if kv.1=k then(kv.1,y) else kv) (vs.map λkv=>if kv.1=k then(kv.1,u) else kv):=by
 unfold KV at r ⊢
 induction r with
 |nil=>exact .nil
 | @cons p q ps qs h t ih=>
  rw[aZ1,aZ1];refine .cons ?_ ih;let(h1,h2,):=h;by_cases e:p.1=k
  .rw [aS1 e,aS1 (h1.symm.trans e)];exact(h1,ry,)
  .rw [aWd e,aWd (λz=>e (h1.trans z))];exact(h1,h2,)
theorem KV.put{kvs:List (κ×V)}{vs:List (κ×Value)}(r:KV kvs vs)(k:κ){y:V}{u:Value}(ry:RelV y u):KV (putK kvs k y) (stored vs k u):=by
 unfold putK stored;rw[r.any k];by_cases e:(vs.any λkv=>decide (kv.1=k))=true
 .rw [aS1 e,aS1 e];exact r.repl k ry
 .rw [aWd e,aWd e];exact Paired.snoc r (8,ry,)
theorem KV.drop{kvs:List (κ×V)}{vs:List (κ×Value)}(r:KV kvs vs)(k:κ):KV (aW kvs k) (without vs k):=by
 unfold KV at r ⊢;unfold aW without
 induction r with
 |nil=>exact .nil
 | @cons p q ps qs h t ih=>
  let(h1,h2,):=h;rw[a3M,a3M];by_cases e:p.1=k
  .have a:¬decide (p.1≠k)=true:=by simp[e]
   have b:¬decide (q.1≠k)=true:=by simp[h1.symm.trans e]
   rw[aWd a,aWd b];exact ih
  .have e':¬q.1=k:=λz=>e (h1.trans z);have a:decide (p.1≠k)=true:=by simp[e]
   have b:decide (q.1≠k)=true:=by simp[e']
   rw[aS1 a,aS1 b];exact .cons (h1,h2,) ih
theorem KV.length{kvs:List (κ×V)}{vs:List (κ×Value)}(r:KV kvs vs):kvs.length=vs.length:=ab7 r
theorem Zig(kvs:List (κ×V))(k:κ):(aW kvs k).length<=kvs.length:=apy _ _
end
theorem lW{P:Program}{w:World}{k:Key}{u:Value}(r:RelV (kV k) u):(Zy P w).is k u=true:=by
 cases k with
 |inl i=>let(t,e,):=(show ∃t,u=Value.int i t from r);subst e;exact Zef P w i t
 |inr x=>let(t,e,):=(show ∃t,u=Value.str x t from r);subst e;exact Zeg P w x t
theorem UW{P:Program}{w:World}:∀{ks:List Key}{us:List Value},Vals (ks.map kV) us->ItemsAre (Zy P w) ks us
 | [],_,r=>by rw[map_nil]at r;cases r;exact .nil
 |k ::ks,_,r=>by
  rw[aZ1]at r;cases r with
  |cons h t=>exact .cons (lW h) (UW t)
abbrev KT(H:Hp):List (List Key×V)->List (List Key×Addr×Value)->Prop:=Paired λp q=>p.1=q.1/\H q.2.1=!(.tup (p.1.map kV))/\RelV p.2 q.2.2
theorem KT.val{H:Hp}{kvs:List (List Key×V)}{xs:List (List Key×Addr×Value)}(r:KT H kvs xs)(k:List Key):dR (aL kvs k) ((atKey xs k).map (·.2)):=by
 induction r with
 |nil=>exact True.intro
 | @cons p q ps qs h t ih=>
  let(h1,_,h2,):=h;by_cases e:p.1=k
  .have e':q.1=k:=h1.symm.trans e;have b:atKey (q ::qs) k=!q.2:=by simp[atKey,abQ,e']
   rw[ZQ e,b];exact h2
  .have e':¬q.1=k:=λz=>e (h1.trans z);have b:atKey (q ::qs) k=atKey qs k:=by simp[atKey,abQ,e']
   rw[ZM e,b];exact ih
theorem KT.repl{H:Hp}{kvs:List (List Key×V)}{xs:List (List Key×Addr×Value)}(r:KT H kvs xs)(k:List Key){y:V}{u:Value}(ry:RelV y u) :
  KT H (kvs.map λkv=>if kv.1=k then(kv.1,y) else kv) (xs.map (putAt k u)):=by
 induction r with
 |nil=>exact .nil
 | @cons p q ps qs h t ih=>
  rw[aZ1,aZ1];refine .cons ?_ ih;let(h1,h2,h3,):=h;unfold putAt;by_cases e:p.1=k
  .rw [aS1 e,aS1 (h1.symm.trans e)];exact(h1,h2,ry,)
  .rw [aWd e,aWd (λz=>e (h1.trans z))];exact(h1,h2,h3,)
theorem KT.put{H:Hp}{kvs:List (List Key×V)}{xs:List (List Key×Addr×Value)}(r:KT H kvs xs)(k:List Key){b:Addr}{y:V}{u:Value}(hb:H b=!(.tup (k.map kV)))(ry:RelV y u) :
  KT H (putK kvs k y) (storedH xs k b u):=by
 have e:(kvs.any λkv=>decide (kv.1=k))=(atKey xs k).isSome:=by
  rw[Jv,(r.val k).jv,Option.isSome_map]
 unfold putK storedH;rw[e];by_cases q:(atKey xs k).isSome=true
 .rw [aS1 q,aS1 q];exact r.repl k ry
 .rw [aWd q,aWd q];exact Paired.snoc r (8,hb,ry,)
theorem KT.keeps{H H':Hp}{kvs:List (List Key×V)}{xs:List (List Key×Addr×Value)}(r:KT H kvs xs)(ht:∀b ys,H b=!(.tup ys)->H' b=!(.tup ys)):KT H' kvs xs:=
 Paired.Dz r λ_ _ z=>(z.1,ht _ _ z.2.1,z.2.2,)
section
variable{P:Program}{w:World}{H:Hp}{h:Heap}{a:Addr}
theorem BK{u:HO}(ok:dU P w H h)(e:Rd H a u):aH P w H h a u:=e.ok ok
theorem ou{kvs:List (Key×V)}(ok:dU P w H h)(e:Rd H a (.dK kvs)):kvs.length<=sizeLine/\(a ==sysModules)=false/\∃vs,KV kvs vs/\h.DictOf (Zy P w) a vs:=
 show aH P w H h a (.dK kvs) from BK ok e
theorem yL{kvs:List (Key×V)}(ok:dU P w H h)(e:H a=!(.dK kvs)):kvs.length<=sizeLine/\(a ==sysModules)=false/\∃vs,KV kvs vs/\h.DictOf (Zy P w) a vs:=ou ok (.inl e)
theorem Jg{ks:List Key}(ok:dU P w H h)(e:H a=!(.tup (ks.map kV))):(tupleKind (Zy P w)).is h ks a:=by
 let(_,its,r,o,h1,h2,n,h3,):=(show aH P w H h a (.tup (ks.map kV)) from ok a _ e);exact(o,its.toArray,n,h1,h2,h3,by simpa using UW r,)
theorem oq{kvs:List (List Key×V)}(ok:dU P w H h)(e:Rd H a (.dT kvs)):kvs.length<=sizeLine/\(a ==sysModules)=false /\
  ∃xs,KT H kvs xs/\h.DictOfH (tupleKind (Zy P w)) a xs:=by
 let(z,y,xs,r,o,es,ep,h1,h2,h3,h4,h5,):=(show aH P w H h a (.dT kvs) from BK ok e);refine(z,y,xs,r,o,es,ep,h1,h2,h3,h4,λx hx=>?_,h5,);have all:∀{l:List (List Key×V)}{m:List (List Key×Addr×Value)},KT H l m->∀x∈m,(tupleKind (Zy P w)).is h x.1 x.2.1:=by
  intro l m q
  induction q with
  |nil=>intro x hx;exact nomatch hx
  | @cons p q ps qs hq t ih=>
   intro x hx;rcases ajG.mp hx with e|hx
   .subst e;exact Jg ok (by rw[<-hq.1];exact hq.2.1)
   .exact ih x hx
 exact all r x hx
theorem IK{kvs:List (List Key×V)}(ok:dU P w H h)(e:H a=!(.dT kvs)):kvs.length<=sizeLine/\(a ==sysModules)=false /\
  ∃xs,KT H kvs xs/\h.DictOfH (tupleKind (Zy P w)) a xs:=oq ok (.inl e)
end
def d8(H:Hp)(a:Addr)(y:V)(r:Option V):Prop:=
 (∃kvs k,Rd H a (.dK kvs)/\y=kV k/\r=aL kvs k)\/∃kvs k b,Rd H a (.dT kvs)/\y=.ref b/\H b=!(.tup (k.map kV))/\r=aL kvs k
def mH(H:Hp)(a:Addr)(y v:V)(H':Hp):Prop:=
 (∃kvs k,H a=!(.dK kvs)/\y=kV k/\kvs.length<sizeLine/\H'=upd H a (.dK (putK kvs k v))) \/
 ∃kvs k b,H a=!(.dT kvs)/\y=.ref b/\H b=!(.tup (k.map kV))/\kvs.length<sizeLine/\H'=upd H a (.dT (putK kvs k v))
theorem d8.k{H:Hp}{a:Addr}{kvs:List (Key×V)}{k:Key}(e:H a=!(.dK kvs)):d8 H a (kV k) (aL kvs k):=.inl (kvs,k,.inl e,8,8,)
theorem mH.k{H:Hp}{a:Addr}{kvs:List (Key×V)}{k:Key}{v:V}(e:H a=!(.dK kvs))(hl:kvs.length<sizeLine):mH H a (kV k) v (upd H a (.dK (putK kvs k v))):=.inl (kvs,k,e,8,hl,8,)
section
variable{X:Cx}{pins:List (Addr×Obj)}{σ:St}{H:Hp}{s:Shared}{a:Addr}{y v:V}{u r:Value}{o:Option V}{A:Around}{E:Value->Shared->Prop}
theorem Inv.big(I:Inv X pins σ H s):sysModules<s.heap.objs.size:=by
 have h:mainGlobals<s.heap.objs.size:=(I.mod.glob.keeps I.bk).lt;exact aYT 9 h
theorem UU{Q:Value->Shared->Prop}(hu:A.units+1<cLine)(I:Inv X pins σ H s)(g:d8 H a y (!v))(ry:RelV y u)(h:∀w' s',Inv X pins σ H s'->RelV v w'->Q w' s') :
  wpAny (model X.prog X.w) A (getItem (.ref a) u) Q E s:=by
 rcases g with⟨kvs,k,e,ey,l⟩|⟨kvs,k,b,e,ey,eb,l⟩
 .subst ey;let(z,hd,vs,rel,dd,):=ou I.hok e;let(w',hw,rw',):=dR.some_of (v:=v) (o:=valueAt vs k) (by rw[l];exact rel.val k);exact wpAny_getItem_of (lW ry) dd.mapOf hw (h w' _ (I.tok _) rw')
 .subst ey;cases(show u=Value.ref b from ry);let(z,hd,xs,rel,dd,):=oq I.hok e;let(w',hw,rw',):=dR.some_of (v:=v) (o:=(atKey xs k).map (·.2)) (by rw[l];exact rel.val k);let(p,hp,hp2,):=Option.map_eq_some_iff.mp hw;refine wpAny_getItem_heap (aCZ hu) (Jg I.hok eb) dd hp ?_;rw[hp2];exact h w' _ (I.tok _) rw'
theorem NX{Q:Value->Shared->Prop}(hu:A.units+1<cLine)(I:Inv X pins σ H s)(g:d8 H a y o)(ry:RelV y u)(h:∀s',Inv X pins σ H s'->Q (.bool o.isSome) s') :
  wpAny (model X.prog X.w) A (compareOp .In u (.ref a)) Q E s:=by
 rcases g with⟨kvs,k,e,ey,l⟩|⟨kvs,k,b,e,ey,eb,l⟩
 .subst ey;let(z,hd,vs,rel,dd,):=ou I.hok e;refine wpAny_in_of (lW ry) hd dd.mapOf ?_;rw[<-(rel.val k).jv,<-l];exact h _ (I.tok _)
 .subst ey;cases(show u=Value.ref b from ry);let(z,hd,xs,rel,dd,):=oq I.hok e;refine wpAny_in_heap (aCZ hu) (Jg I.hok eb) hd dd ?_;have q:=(rel.val k).jv;rw[Option.isSome_map]at q;rw[<-q,<-l];exact h _ (I.tok _)
theorem OA{h':Heap}{t':Nat}{ob:HO}(I:Inv X pins σ H s)(mu:JR (H a))(hs:Heap.SameBut a s.heap h')(he:∃q,h'.get? a=!q)(new:aH X.prog X.w (upd H a ob) h' a ob) :
  Inv X pins σ (upd H a ob) { s with heap:=h',toks:=t' }:=
 I.write (x:=a) (e:=a) mu (.inl 8) (λb q hb z=>(hs.2 b hb).trans z) he new
theorem SS{P:Program}{w:World}{H':Hp}{h':Heap}{kvs:List (Key×V)}{vs:List (Key×Value)}(z:kvs.length<=sizeLine)(hd:(a ==sysModules)=false)(rel:KV kvs vs)(dd:h'.DictOf (Zy P w) a vs) :
  aH P w H' h' a (.dK kvs):=(z,hd,vs,rel,dd,)
theorem UT{H':Hp}{Q:Unit->Shared->Prop}(hu:A.units+1<cLine)(I:Inv X pins σ H s)(g:mH H a y v H')(ry:RelV y u)(rv:RelV v r)(h:∀s',Inv X pins σ H' s'->Q () s') :
  wpAny (model X.prog X.w) A (setItem (.ref a) u r) Q E s:=by
 rcases g with⟨kvs,k,e,ey,l,eH⟩|⟨kvs,k,b,e,ey,eb,l,eH⟩
 .subst ey eH;let(z,hd,vs,rel,dd,):=yL I.hok e;have hz:vs.length<=sizeLine:=by rw[<-rel.length];exact z
  have hl:(putK kvs k v).length<=sizeLine:=by have:=Jz kvs k v;lia
  refine wpAny_setItem_pairs (hsz:=hz) (lW ry) dd λh' D4 hs=>h _ ?_;have he:∃q,h'.get? a=!q:=let(q,_,_,hq,_,):=D4;(q,hq,);exact OA I (by rw[e];exact True.intro) hs he (SS hl hd (rel.put k rv) D4)
 .subst ey eH;cases(show u=Value.ref b from ry);let(z,hd,xs,rel,dd,):=IK I.hok e;have hz:xs.length<=sizeLine:=by rw[<-ab7 rel];exact z
  have hl:(putK kvs k v).length<=sizeLine:=by have:=Jz kvs k v;lia
  refine wpAny_setItem_heap (hsz:=hz) (aCZ hu) (Jg I.hok eb) dd λh' D4 hs=>h _ ?_;let(q,es,ep,hq,h2,h3,h4,_,h5,):=D4;refine OA I (by rw[e];exact True.intro) hs (q,hq,) (hl,hd,_,(rel.put k eb rv).keeps λc ys ec=>?_,q,es,ep,hq,h2,h3,h4,h5,);rw[Zc (uQ ec e (λz=>nomatch z))];exact ec
end
section
variable{X:Cx}{pins:List (Addr×Obj)}{σ:St}{H:Hp}{s:Shared}{a:Addr}{kvs:List (Key×V)}{k:Key}{u:Value}{A:Around}{E:Value->Shared->Prop}
theorem Cr{v:V}{more:List Value}{Q:Value->Shared->Prop}(I:Inv X pins σ H s)(e:H a=!(.dK kvs))(ry:RelV (kV k) u)(l:aL kvs k=!v)(hm:more=[]\/∃x,more=[x])
  (h:∀w' s',Inv X pins σ (upd H a (.dK (aW kvs k))) s'->RelV v w'->Q w' s'):wpAny (model X.prog X.w) A (call (.builtin "dict.pop") (.ref a ::u ::more)) Q E s:=by
 let(z,hd,vs,rel,dd,):=yL I.hok e;let(w',hw,rw',):=dR.some_of (v:=v) (o:=valueAt vs k) (by rw[<-l];exact rel.val k);have hp:(keyPart u).isSome=true:=by
  cases k with
  |inl i=>let(t,q,):=(show ∃t,u=Value.int i t from ry);subst q;rfl
  |inr x=>let(t,q,):=(show ∃t,u=Value.str x t from ry);subst q;rfl
 have ha:argsOk "dict.pop" (.ref a ::u ::more,[],):=by
  rcases hm with q|⟨x,q⟩
  .subst q;exact PySem.F.args_dict_pop_2 _ _
  .subst q;exact PySem.F.args_dict_pop_3 _ _ _
 refine call_meetsIn anV dd.typeIs PySem.F.entry_dict_pop ha (meets_dict_pop_there (Zy X.prog X.w) a (lW ry) more hm hp)
  (vs,w',dd,by rw[<-rel.length];exact z,hw,λh' D4 hs=>h w' _ ?_ rw',)
 have he:∃q,h'.get? a=!q:=let(q,_,_,hq,_,):=D4;(q,hq,);exact OA I (by rw[e];exact True.intro) hs he (SS (atw (Zig kvs k) z) hd (rel.drop k) D4)
theorem ZkF{r:Value}{Q:Value->Shared->Prop}(I:Inv X pins σ H s)(e:H a=!(.dK kvs))(ry:RelV (kV k) u)(l:aL kvs k=none)(h:∀s',Inv X pins σ H s'->Q r s') :
  wpAny (model X.prog X.w) A (call (.builtin "dict.pop") [.ref a,u,r]) Q E s:=by
 let(z,hd,vs,rel,dd,):=yL I.hok e;have hn:valueAt vs k=none:=dR.none_of (by rw[<-l];exact rel.val k);have hp:(keyPart u).isSome=true:=by
  cases k with
  |inl i=>let(t,q,):=(show ∃t,u=Value.int i t from ry);subst q;rfl
  |inr x=>let(t,q,):=(show ∃t,u=Value.str x t from ry);subst q;rfl
 exact call_meetsIn anV dd.typeIs PySem.F.entry_dict_pop (PySem.F.args_dict_pop_3 _ _ _) (meets_dict_pop_default (Zy X.prog X.w) a (lW ry) hd hp r) (vs,dd,hn,h _ (I.tok _),)
end
def JO(i:Expr):Prop:=∀ov iv,subscripted i false ov iv=operate [ov,iv] (getItem ov iv)
theorem ZjB{prog:Program}{w:World}{A:Around}{E:Value->Shared->Prop}{s:Shared}{env:Env}{value slice:Expr}{pos:Pos}{T id:String}{Q:Value->Shared->Prop}
  (hl:typeLookup (.type T) "__getitem__"=pure (!(.builtin id))) (hs:JO slice)
  (h:wpAny (model prog w) A (eval value env) (λo s₁=>wpAny (model prog w) A (eval slice env) (λi s₂=>s₂.TypeIs o T/\wpAny (model prog w) A (getItem o i) Q E s₂) E s₁) E s) :
  wpAny (model prog w) A (eval (.Subscript value slice pos) env) Q E s:=by
 refine Subscript_ (bac h (λo s₁ h₁=>bac h₁ (λi s₂ h₂=>?_) λ_ _ x=>x) λ_ _ x=>x);let(hT,h₂,):=h₂;unfold subscriptTail;refine ay1 ?_;rw[getitemInPython_of_ne hT.not_modules];refine ay1 (wpAny_specialOf hT hl ?_);have fin:wpAny (model prog w) A (subscripted slice false o i) (λr s₃=>wpAny (model prog w) A (letTemporaryGo value o r >>= λ_=>pure r) Q E s₃) E s₂:=by
  rw[hs o i];exact wpAny_operating (bac h₂ (λr s₃ h₃=>ay1 (wpAny_letTemporaryGo (aO7 h₃))) λ_ _ x=>x)
 first
  |exact aO7 (ay1 fin)
  |exact ay1 (aO7 (ay1 fin))
  |exact ay1 fin
theorem Zep{X:Cx}{pins:List (Addr×Obj)}{σ:St}{H:Hp}{s:Shared}{a:Addr}{y:V}{o:Option V}(I:Inv X pins σ H s)(g:d8 H a y o):s.TypeIs (.ref a) "dict":=by
 rcases g with⟨kvs,k,e,_,_⟩|⟨kvs,k,b,e,_,_,_⟩
 .let(_,_,vs,_,dd,):=ou I.hok e;exact dd.typeIs
 .let(_,_,xs,_,dd,):=oq I.hok e;exact dd.typeIs
def Gm(td ty:TE):TE:=λσ H Q=>td σ H λx H1=>ty σ H1 λy H2=>∃a v,x=.ref a/\d8 H2 a y (!v)/\Q v H2
def Mi(ty td:TE):TE:=λσ H Q=>ty σ H λy H1=>td σ H1 λx H2=>∃a o,x=.ref a/\d8 H2 a y o/\Q (.bl o.isSome) H2
def Gx(td ty tv:TE):TS:=λD σ H=>tv σ H λv H1=>td σ H1 λx H2=>ty σ H2 λy H3=>∃a H4,x=.ref a/\mH H3 a y v H4/\D.nx σ H4
def Gy(td ty tv:TE)(rd:V->V->Hp->VK->Prop):TS:=λD σ H=>td σ H λx H1=>ty σ H1 λy H2=>∃a v,x=.ref a/\d8 H2 a y (!v) /\
 tv σ H2 λy2 H3=>rd v y2 H3 λz H4=>∃H5,mH H4 a y z H5/\D.nx σ H5
section
variable{X:Cx}{o i e value:Expr}{pos pos' tpos:Pos}{td ty tv:TE}
theorem Jo(hu:X.A.units+1<cLine)(ho:PE X o td)(hi:PE X i ty)(hs:JO i):PE X (.Subscript o i pos) (Gm td ty):=by
 intro pins s σ H Q I h;refine ZjB PySem.F.slot_dict_getitem.lookup hs (fc (ho pins s σ H _ I h) λu s1 x H1 I1 rx q1=>bV (hi pins s1 σ H1 _ I1 q1) λiv s2 (y,H2,I2,ry,a,v,ex,g,q2,)=>?_);subst ex;obtain rfl:u=Value.ref a:=rx;exact(Zep I2 g,UU hu I2 g ry λw' s3 I3 rw'=>(v,H2,I3,rw',q2,),)
theorem SQ(hu:X.A.units+1<cLine)(hi:PE X i ty)(ho:PE X o td):PC X .In i o (Mi ty td):=by
 intro pins s σ H Q I h;refine fc (hi pins s σ H _ I h) λiv s1 y H1 I1 ry q1=>bV (ho pins s1 σ H1 _ I1 q1) λu s2 (x,H2,I2,rx,a,ov,ex,g,q2,)=>?_;subst ex;obtain rfl:u=Value.ref a:=rx;exact NX hu I2 g ry λs3 I3=>(.bl ov.isSome,H2,I3,8,q2,)
theorem Jl(hu:X.A.units+1<cLine)(ho:PE X o td)(hi:PE X i ty)(hv:PE X value tv)(hs:swapsWith value (!(.Subscript o i pos')) pos.line X.env=pure false) :
  PS X (.Assign [.Subscript o i pos'] value pos) (Gx td ty tv):=by
 intro pins s σ H D I h;refine wpAny_Assign_Subscript (fc (hv pins s σ H _ I h) λr s1 v H1 I1 rv q1=>fc (ho pins s1 σ H1 _ I1 q1) λu s2 x H2 I2 rx q2=>bV (hi pins s2 σ H2 _ I2 q2) λiv s3 (y,H3,I3,ry,a,H4,ex,g,q3,)=>?_) hs;subst ex;obtain rfl:u=Value.ref a:=rx;exact UT hu I3 g ry rv λs4 I4=>(σ,H4,I4,q3,)
theorem ZjC{op:Operator}{rd:V->V->Hp->VK->Prop}(hu:X.A.units+1<cLine)(ho:PE X o td)(hi:PE X i ty)(hv:PE X value tv)(hop:JT X op rd)
  (ha:∀ov iv new,augStore i ov iv new=(do holding [new,ov,iv] (setItem ov iv new);release [new,ov,iv] [];pure .next)):PS X (.AugAssign (.Subscript o i tpos) op value pos) (Gy td ty tv rd):=by
 intro pins s σ H D I h;refine wpAny_AugAssign_SubscriptAny (fc (ho pins s σ H _ I h) λu s1 x H1 I1 rx q1=>bV (hi pins s1 σ H1 _ I1 q1) λiv s2 (y,H2,I2,ry,a,v,ex,g,q2,)=>?_) ha;subst ex;obtain rfl:u=Value.ref a:=rx;refine UU hu I2 g ry λw' s3 I3 rw'=>fc (hv pins s3 σ H2 _ I3 q2) λw2 s4 y2 H3 I4 W0 q3=>bV (hop pins s4 σ H3 v y2 w' w2 _ I4 rw' W0 q3) λw3 s5 (z,H4,I5,rz,H5,g5,q4,)=>?_;exact UT hu I5 g5 ry rz λs6 I6=>(σ,H5,I6,q4,)
end
theorem Zih{P:Program}{w:World}{H:Hp}(h:Heap)(hb:sysModules<h.objs.size):aH P w H (h.push { cls:=.type "dict",data:=.dict #[] }) h.objs.size (.dK []):=
 (aei _,ayS.mpr (aBl (abm hb)),[],.nil,Heap.DictOf.new h,)
def ZkG:TE:=λ_ H Q=>∀p,H p=none->Q (.ref p) (upd H p (.dK []))
section
variable{X:Cx}{pos:Pos}
theorem Ju:PE X (.Dict [] [] pos) ZkG:=λpins s σ H Q I h=>
 wpAny_Dict_empty (.ref s.heap.objs.size,_,I.laid (a:=s.heap.objs.size) (o:=.dK []) (t':=s.toks) (λ_ _ q=>a47 _ q) (amA _) (Zih s.heap I.big),8,h _ (I.hok.fresh (amA _)),)
end
structure M1(X:Cx)(o:Expr)(m:Str)(apos:Pos)(e:Expr)(cpos:Pos):Prop where
 base:attributeBase o m X.env (eval o X.env)=eval o X.env
 few:((backTo cpos (starEach [e] X.env)).all (λx=>(not (x.1))) && (backToKw cpos (keywordEach [] X.env)).all (λx=>x.1.isSome)
  && decide (([e]:List Expr).length+([]:List Keyword).length+(if([]:List Keyword).isEmpty then 0 else 1)<30))=true
 line:(apos.endLine ==cpos.line)=true
 trees:backTo cpos (starEach [e] X.env)=[(false,eval e X.env)]
structure M2(X:Cx)(o:Expr)(m:Str)(apos:Pos)(e f:Expr)(cpos:Pos):Prop where
 base:attributeBase o m X.env (eval o X.env)=eval o X.env
 few:((backTo cpos (starEach [e,f] X.env)).all (λx=>(not (x.1))) && (backToKw cpos (keywordEach [] X.env)).all (λx=>x.1.isSome)
  && decide (([e,f]:List Expr).length+([]:List Keyword).length+(if([]:List Keyword).isEmpty then 0 else 1)<30))=true
 line:(apos.endLine ==cpos.line)=true
 trees:backTo cpos (starEach [e,f] X.env)=[(false,eval e X.env),(false,eval f X.env)]
def LX(H:Hp)(a:Addr):Prop:=(∃kvs,Rd H a (.dK kvs))\/∃kvs,Rd H a (.dT kvs)
theorem Li{X:Cx}{pins:List (Addr×Obj)}{σ:St}{H:Hp}{s:Shared}{a:Addr}(I:Inv X pins σ H s)(d:LX H a) :
  s.TypeIs (.ref a) "dict" /\(∀b,Value.ref a=.ref b->∃ob,s.heap.get? b=!ob/\ob.dict=none)/\(a ==sysModules)=false:=by
 rcases d with⟨kvs,e⟩|⟨kvs,e⟩
 .let(_,hd,vs,_,dd,):=ou I.hok e;refine(dd.typeIs,λb q=>?_,hd,);cases q;let(ob,_,_,h1,h2,_,):=dd;exact(ob,h1,h2.2.1,)
 .let(_,hd,xs,_,dd,):=oq I.hok e;refine(dd.typeIs,λb q=>?_,hd,);cases q;let(ob,_,_,h1,h2,_,):=dd;exact(ob,h1,h2.2.1,)
section
variable{X:Cx}{pins:List (Addr×Obj)}{σ:St}{H:Hp}{s:Shared}{a:Addr}{y d:V}{u r:Value}{o:Option V}{A:Around}{E:Value->Shared->Prop}
theorem ZkH{Q:Value->Shared->Prop}(hu:A.units+1<cLine)(I:Inv X pins σ H s)(g:d8 H a y o)(ry:RelV y u)(rd:RelV d r)(h:∀w' s',Inv X pins σ H s'->RelV (o.getD d) w'->Q w' s') :
  wpAny (model X.prog X.w) A (call (.builtin "dict.get") [.ref a,u,r]) Q E s:=by
 rcases g with⟨kvs,k,e,ey,l⟩|⟨kvs,k,b,e,ey,eb,l⟩
 .subst ey;let(z,hd,vs,rel,dd,):=ou I.hok e;refine call_meetsIn aGq dd.typeIs PySem.F.entry_dict_get (PySem.F.args_dict_get_3 _ _ _) (meets_dict_get_default (Zy X.prog X.w) a (lW ry) hd r) (_,dd.mapOf,h _ _ (I.tok _) ?_,);rw[l];exact(rel.val k).getD rd
 .subst ey;cases(show u=Value.ref b from ry);let(z,hd,xs,rel,dd,):=oq I.hok e;refine call_meetsIn aGq dd.typeIs PySem.F.entry_dict_get (PySem.F.args_dict_get_3 _ _ _) (meetsH_dict_get_default (tupleKind (Zy X.prog X.w)) a b hd r) (aCZ hu,k,xs,Jg I.hok eb,dd,h _ _ (I.tok _) ?_,);rw[l];exact(rel.val k).getD rd
end
def ZkI(td ty tx:TE):TE:=λσ H Q=>td σ H λx H1=>∃a,x=.ref a/\LX H1 a/\ty σ H1 λy H2=>tx σ H2 λz H3=>∃o,d8 H3 a y o/\Q (o.getD z) H3
def ZkJ(td ty:TE):TE:=λσ H Q=>td σ H λx H1=>∃a,x=.ref a/\LX H1 a/\ty σ H1 λy H2=>∃kvs k v,H2 a=!(.dK kvs)/\y=kV k/\aL kvs k=!v/\Q v (upd H2 a (.dK (aW kvs k)))
def ZkK(td ty tx:TE):TE:=λσ H Q=>td σ H λx H1=>∃a,x=.ref a/\LX H1 a/\ty σ H1 λy H2=>tx σ H2 λz H3=>∃kvs k,H3 a=!(.dK kvs)/\y=kV k /\
 (∀v,aL kvs k=!v->Q v (upd H3 a (.dK (aW kvs k))))/\(aL kvs k=none->Q z H3)
section
variable{X:Cx}{o e f:Expr}{apos cpos:Pos}{td ty tx:TE}
theorem Zii(hu:X.A.units+1<cLine)(ho:PE X o td)(he:PE X e ty)(hf:PE X f tx)(m:M2 X o "get" apos e f cpos):PE X (.Call (.Attribute o "get" apos) [e,f] [] cpos) (ZkI td ty tx):=by
 intro pins s σ H Q I h;refine wpAny_Call_method m.base m.few m.line aCS aGq PySem.F.type_dict_get (bV (ho pins s σ H _ I h) λu s1 (x,H1,I1,rx,a,ex,d,q1,)=>?_);subst ex;obtain rfl:u=Value.ref a:=rx;let(t1,t2,_,):=Li I1 d;refine(t1,t2,?_,);rw[m.trees];refine asa 8 (aHi (bbt (fc (he pins s1 σ H1 _ I1 q1) λiv s2 y H2 I2 ry q2=>
  bbt (bV (hf pins s2 σ H2 _ I2 q2) λfv s3 (z,H3,I3,rz,ov,g,q3,)=>aKB ?_))))
 exact ZkH hu I3 g ry rz λw' s4 I4 rw'=>(_,H3,I4,rw',q3,)
theorem O8(ho:PE X o td)(he:PE X e ty)(m:M1 X o "pop" apos e cpos):PE X (.Call (.Attribute o "pop" apos) [e] [] cpos) (ZkJ td ty):=by
 intro pins s σ H Q I h;refine wpAny_Call_method m.base m.few m.line aCS anV PySem.F.type_dict_pop (bV (ho pins s σ H _ I h) λu s1 (x,H1,I1,rx,a,ex,d,q1,)=>?_);subst ex;obtain rfl:u=Value.ref a:=rx;let(t1,t2,_,):=Li I1 d;refine(t1,t2,?_,);rw[m.trees];refine asa 8 (aHi (bbt (bV (he pins s1 σ H1 _ I1 q1) λiv s2 (y,H2,I2,ry,kvs,k,v,ea,ey,l,q2,)=>aKB ?_)));subst ey;exact Cr I2 ea ry l (.inl 8) λw' s3 I3 rw'=>(v,_,I3,rw',q2,)
theorem Ux(ho:PE X o td)(he:PE X e ty)(hf:PE X f tx)(m:M2 X o "pop" apos e f cpos):PE X (.Call (.Attribute o "pop" apos) [e,f] [] cpos) (ZkK td ty tx):=by
 intro pins s σ H Q I h;refine wpAny_Call_method m.base m.few m.line aCS anV PySem.F.type_dict_pop (bV (ho pins s σ H _ I h) λu s1 (x,H1,I1,rx,a,ex,d,q1,)=>?_);subst ex;obtain rfl:u=Value.ref a:=rx;let(t1,t2,_,):=Li I1 d;refine(t1,t2,?_,);rw[m.trees];refine asa 8 (aHi (bbt (fc (he pins s1 σ H1 _ I1 q1) λiv s2 y H2 I2 ry q2=>
  bbt (bV (hf pins s2 σ H2 _ I2 q2) λfv s3 (z,H3,I3,rz,kvs,k,ea,ey,q3,q4,)=>aKB ?_))))
 subst ey;cases l:aL kvs k with
 |some v=>exact Cr I3 ea ry l (.inr (fv,8,)) λw' s4 I4 rw'=>(v,_,I4,rw',q3 v l,)
 |none=>exact ZkF I3 ea ry l λs4 I4=>(z,H3,I4,rz,q4 l,)
end
section
variable{κ:Type}[DecidableEq κ]
theorem Fd:∀{l:List κ}{k:κ},l.Nodup->¬k∈l->(l++[k]).Nodup
 | [],k,_,_=>5
 |a ::r,k,h,hk=>by
  let(h1,h2,):=aPi.mp h;show(a ::(r++[k])).Nodup;refine aPi.mpr (λm=>?_,Fd h2 λm=>hk (ajG.mpr (Or.inr m)),);rcases bdf.mp m with q|q
  .exact h1 q
  .exact hk (ajG.mpr (Or.inl (aU2.mp q).symm))
theorem ZgE{p:κ×V}{r:List (κ×V)}{k:κ}(e:p.1=k):aW (p ::r) k=aW r k:=by
 unfold aW;rw[a3M,aWd (by simp[e])]
theorem ZgF{p:κ×V}{r:List (κ×V)}{k:κ}(e:¬p.1=k):aW (p ::r) k=p ::aW r k:=by
 unfold aW;rw[a3M,aS1 (by simp[e])]
end
theorem Uw{P:Program}{w:World}{k:Key}{u:Value}(h:(Zy P w).is k u=true):RelV (kV k) u:=by
 rw[Zfx]at h;rcases ZE h with⟨i,t,rfl,rfl⟩|⟨x,t,rfl,rfl⟩
 .exact (t,8,)
 .exact (t,8,)
structure Src(P0:Program)(w0:World)(it l:Addr)(its:Array Value)(pos:Nat->Heap->Prop)(sq:Heap->Prop):Prop where
 item:∀{A0:Around}{E0:Value->Shared->Prop}{t:Shared}{i:Nat}{x:Value}{Q0:Value->Shared->Prop},pos i t.heap->sq t.heap->its[i]?=!x->(∀g,pos (i+1) g->Heap.SameBut it t.heap g->Q0 x { t with heap:=g })->wpAny (model P0 w0) A0 (Builtin.SmallTypes.nextOf (.ref it)) Q0 E0 t
 stop:∀{A0:Around}{E0:Value->Shared->Prop}{t:Shared}{i:Nat}{Q0:Value->Shared->Prop},A0.handled=none->pos i t.heap->sq t.heap->its[i]?=none->(∀g e,Heap.ExtBut it t.heap g->(∃o,g.get? e=!o/\o.cls=.type "StopIteration")->E0 (.ref e) { t with heap:=g })->wpAny (model P0 w0) A0 (Builtin.SmallTypes.nextOf (.ref it)) Q0 E0 t
 jQ:∀{i:Nat}{g g':Heap},pos i g->(∀o,g.get? it=!o->g'.get? it=!o)->pos i g'
 uA:∀{g g':Heap},sq g->(∀o,g.get? l=!o->g'.get? l=!o)->sq g'
 obj:∀{i:Nat}{g:Heap},pos i g->∃o,g.get? it=!o/\∀v,o.data≠.cell v
section
variable{P0:Program}{w0:World}{A0:Around}{E0:Value->Shared->Prop}{t:Shared}
theorem ZdQ{it a:Addr}{i:Nat}{its:Array Value}{x:Value}{Q0:Value->Shared->Prop}(st:t.heap.IsTupleIter it a i)(tp:t.heap.IsTuple a its)(hx:its[i]?=!x)
  (k:∀g,g.IsTupleIter it a (i+1)->Heap.SameBut it t.heap g->Q0 x { t with heap:=g }):wpAny (model P0 w0) A0 (Builtin.SmallTypes.nextOf (.ref it)) Q0 E0 t:=by
 let(oi,gi,ci,di,):=id st;let(oa,ga,_,n,da,):=tp;unfold Builtin.SmallTypes.nextOf;refine ay1 (aAl (name:=Str.ofString "__next__") st.typeIs ac6 (aqh ac6 st.typeIs F.entry_tuple_iterator_next ?_ (F.args_tuple_iterator_next_1 _)));show wpAny _ _ (field (.ref it) 0 >>=_) _ _ t;refine ay1 (a4J gi di (x:=.ref a) 8 ?_);show wpAny _ _ (if(Value.ref a ==Value.none)=true then _ else _) _ _ t;rw[aWd (show ¬((Value.ref a ==Value.none)=true) from aqS)];show wpAny _ _ (field (.ref it) 1 >>=_) _ _ t;refine ay1 (a4J gi di (x:=.int i 0) 8 ?_);show wpAny _ _ (seqItems? (.ref a) >>=_) _ _ t;refine ay1 (bcg ga da ?_);simp only[hx,Int.toNat_natCast];refine ay1 (wpAny_setField gi di 5 (aO7 (x,8,aO7 (k _ (_,Heap.get?_update_self _ gi (Obj.isFreed_of_fields (Obj.data_mapFields di _)),(Obj.cls_mapFields ..).trans ci,?_,) (Heap.SameBut.update ..)),)));rw[Obj.data_mapFields di];simp[rawInt]
theorem ZdR{it a:Addr}{i:Nat}{its:Array Value}{Q0:Value->Shared->Prop}(hA:A0.handled=none)(st:t.heap.IsTupleIter it a i)(tp:t.heap.IsTuple a its)(hx:its[i]?=none)
  (k:∀g e,Heap.ExtBut it t.heap g->(∃o,g.get? e=!o/\o.cls=.type "StopIteration")->E0 (.ref e) { t with heap:=g }):wpAny (model P0 w0) A0 (Builtin.SmallTypes.nextOf (.ref it)) Q0 E0 t:=by
 let(oi,gi,ci,di,):=id st;let(oa,ga,_,n,da,):=tp;unfold Builtin.SmallTypes.nextOf;refine ay1 (aAl (name:=Str.ofString "__next__") st.typeIs ac6 (aqh ac6 st.typeIs F.entry_tuple_iterator_next ?_ (F.args_tuple_iterator_next_1 _)));show wpAny _ _ (field (.ref it) 0 >>=_) _ _ t;refine ay1 (a4J gi di (x:=.ref a) 8 ?_);show wpAny _ _ (if(Value.ref a ==Value.none)=true then _ else _) _ _ t;rw[aWd (show ¬((Value.ref a ==Value.none)=true) from aqS)];show wpAny _ _ (field (.ref it) 1 >>=_) _ _ t;refine ay1 (a4J gi di (x:=.int i 0) 8 ?_);show wpAny _ _ (seqItems? (.ref a) >>=_) _ _ t;refine ay1 (bcg ga da ?_);simp only[hx,Int.toNat_natCast];refine ay1 (atV (ay1 (wpAny_setField gi di 5 ?_)));show wpAny _ _ (newExc (.type "StopIteration") [] >>=_) _ _ _;refine ay1 ?_;simp only[newTuple,newExc];refine ay1 (a3B (ay1 (m:=firstArgMember _ _) (wpAny_of_eq (a:=Value.none) (by first|rfl|(simp only[firstArgMember];rfl)) (a3B ?_ (by size_fits)))) (by size_fits));simp only[raiseNew];refine ay1 (wpAny_handled ?_)
 first|rw[show A0.in1.handled=none from hA]|rw[hA]
 exact ay1 (aO7 (wpAny_throw (k _ _ (((Heap.SameBut.update ..).extBut.push _).push _) (_,a1M _ 8,8,))))
end
theorem Jy{h:Heap}{it l:Addr}{i:Nat}(x:h.IsTupleIter it l i):∃o,h.get? it=!o/\∀v,o.data≠.cell v:=by
 let(o,e,c,d,):=x;exact⟨o,e,λv z=>by rw[d]at z;cases z⟩
theorem LA{P0:Program}{w0:World}(it l:Addr)(its:Array Value):Src P0 w0 it l its (λi h=>h.IsTupleIter it l i) (λh=>h.IsTuple l its) where
 item:=λa b c d=>ZdQ a b c d
 stop:=λa b c d e=>ZdR a b c d e
 jQ:=λa b=>a.at b
 uA:=λa b=>by let(o,e,r,):=a;exact(o,b o e,r,)
 obj:=λa=>Jy a
section
variable{P0:Program}{w0:World}{A0:Around}{E0:Value->Shared->Prop}{t:Shared}{z TI TO ia ib la lb:Addr}{p1 p2:Nat->Heap->Prop}{q1 q2:Heap->Prop}{xs ys:Array Value}
theorem ZgG{k:Nat}{x y u v:Value}{Q0:Value->Shared->Prop}(S1:Src P0 w0 ia la xs p1 q1)(S2:Src P0 w0 ib lb ys p2 q2)(D:ZipApart z TI TO ia ib la lb)
  (zz:IsZip t.heap z TI TO .none) (zI:IsPair t.heap TI (.ref ia) (.ref ib)) (zO:IsPair t.heap TO u v) (a1:p1 k t.heap) (a2:p2 k t.heap) (b1:q1 t.heap) (b2:q2 t.heap) (hx:xs[k]?=!x) (hy:ys[k]?=!y)
  (fin:∀g,IsZip g z TI TO (rawInt t.heap.objs.size)->IsPair g TO x y->p1 (k+1) g->p2 (k+1) g->IsPair g t.heap.objs.size x y->g.objs.size=t.heap.objs.size+1 ->
   (∀c o,c≠z->c≠TO->c≠ia->c≠ib->t.heap.get? c=!o->g.get? c=!o)->Q0 (.ref t.heap.objs.size) { t with heap:=g }) :
  wpAny (model P0 w0) A0 (Builtin.«zip.__next__» ([.ref z],[],)) (λf s'=>∃v,f=.done (.ret v)/\Q0 v s') E0 t:=by
 show wpAny _ _ (field (.ref z) 2 >>=_) _ _ _;refine ay1 (a4J zz 8 (x:=.bool false) 8 ?_);show wpAny _ _ (field (.ref z) 3 >>=_) _ _ _;refine ay1 (a4J zz 8 (x:=.ref TI) 8 (ay1 (bcg zI 8 ?_)));show wpAny _ _ (Builtin.SmallTypes.ownedTupleIsFree (.ref z) >>=_) _ _ _;refine ay1 ?_;unfold Builtin.SmallTypes.ownedTupleIsFree;refine ay1 (a4J zz 8 (x:=.none) 8 (aO7 ?_));simp only[akf];refine ay1 (atV (ay1 (a4J zz 8 (x:=.ref TO) 8 (ay1 (ad4 zz 5 λg1 z1 c1=>?_)))))
 replace z1:IsZip g1 z TI TO .ellipsis:=z1
 refine ay1 ?_;simp only[agr,List.forIn_nil,List.zipIdx_cons,List.zipIdx_nil];refine ay1 (ay1 (wpAny_onRaise ?_));show wpAny _ _ (Builtin.SmallTypes.nextOf (.ref ia) >>=_) _ _ _;refine ay1 (S1.item (S1.jQ a1 λo e=>c1.extBut _ o D.i1z e) (S1.uA b1 λo e=>c1.extBut _ o D.l1z e) hx λg2 a12 c2=>aO7 ?_);have o2:IsPair g2 TO u v:=c2.extBut _ _ D.TOi1 (c1.extBut _ _ D.TOz zO);refine ay1 (bcg o2 8 (ay1 (wpAny_updateSeq_pair o2 λg3 o3 c3=>?_)))
 replace o3:IsPair g3 TO x v:=o3
 refine ay1 (wpAny_letGo (aO7 ?_));refine ay1 (ay1 (wpAny_onRaise ?_));show wpAny _ _ (Builtin.SmallTypes.nextOf (.ref ib) >>=_) _ _ _;have m3:∀c o,c≠z->c≠ia->c≠TO->t.heap.get? c=!o->g3.get? c=!o:=λc o n1 n2 n3 e=>c3.extBut _ _ n3 (c2.extBut _ _ n2 (c1.extBut _ _ n1 e));refine ay1 (S2.item (S2.jQ a2 λo e=>m3 _ o D.i2z D.i12.symm D.TOi2.symm e) (S2.uA b2 λo e=>m3 _ o D.l2z D.l2i1 D.l2TO e) hy λg4 a24 c4=>aO7 ?_);have o4:IsPair g4 TO x v:=c4.extBut _ _ D.TOi2 o3;refine ay1 (bcg o4 8 (ay1 (wpAny_updateSeq_pair o4 λg5 o5 c5=>?_)))
 replace o5:IsPair g5 TO x y:=o5
 refine ay1 (wpAny_letGo (aO7 (aO7 ?_)));refine ay1 (bcg o5 8 (ay1 (wpAny_newTuple ?_)));have sz:g5.objs.size=t.heap.objs.size:=by rw[c5.1,c4.1,c3.1,c2.1,c1.1]
 have m5:∀c o,c≠z->c≠TO->c≠ia->c≠ib->t.heap.get? c=!o->g5.get? c=!o:=λc o n1 n2 n3 n4 e=>c5.extBut _ _ n2 (c4.extBut _ _ n4 (m3 c o n1 n3 n2 e));have z5:IsZip g5 z TI TO .ellipsis:=c5.extBut _ _ D.TOz.symm (c4.extBut _ _ D.i2z.symm (c3.extBut _ _ D.TOz.symm (c2.extBut _ _ D.i1z.symm z1)));have a15:p1 (k+1) g5:=S1.jQ a12 λo e=>c5.extBut _ o D.TOi1.symm (c4.extBut _ o D.i12 (c3.extBut _ o D.TOi1.symm e));have a25:p2 (k+1) g5:=S2.jQ a24 λo e=>c5.extBut _ o D.TOi2.symm e;have PL:z<g5.objs.size:=ape z5;show wpAny _ _ (Builtin.SmallTypes.ownedTupleHandOut (.ref z) (.ref g5.objs.size) >>=_) _ _ _;refine ay1 ?_;unfold Builtin.SmallTypes.ownedTupleHandOut;have z6:IsZip (g5.push { cls:=.type "tuple",data:=.seq #[x,y] }) z TI TO .ellipsis:=a47 _ z5;refine ay1 (ad4 z6 5 λg7 z7 c7=>?_)
 replace z7:IsZip g7 z TI TO (rawInt g5.objs.size):=z7
 refine ad4 z7 5 λg8 z8 c8=>?_
 replace z8:IsZip g8 z TI TO (rawInt g5.objs.size):=z8
 have m8:∀c o,c≠z->g5.get? c=!o->g8.get? c=!o:=λc o n1 e=>c8.extBut _ _ n1 (c7.extBut _ _ n1 (a47 _ e));have t8:IsPair g8 g5.objs.size x y:=c8.extBut _ _ (aJ4 PL) (c7.extBut _ _ (aJ4 PL) (a1M _ 8));have s8:g8.objs.size=g5.objs.size+1:=by rw[c8.1,c7.1,aET]
 rw[sz]at z8 t8 s8;refine aO7 (_,8,?_,);show Q0 (.ref g5.objs.size) _;rw[sz];exact fin g8 z8 (m8 _ _ D.TOz o5) (S1.jQ a15 λo e=>m8 _ o D.i1z e) (S2.jQ a25 λo e=>m8 _ o D.i2z e) t8 s8 λc o n1 n2 n3 n4 e=>m8 c o n1 (m5 c o n1 n2 n3 n4 e)
theorem ZgH{k:Nat}{u v:Value}{Q0:Fin->Shared->Prop}(hA:A0.handled=none)(S1:Src P0 w0 ia la xs p1 q1)(S2:Src P0 w0 ib lb ys p2 q2)(D:ZipApart z TI TO ia ib la lb)
  (zz:IsZip t.heap z TI TO .none) (zI:IsPair t.heap TI (.ref ia) (.ref ib)) (zO:IsPair t.heap TO u v) (a1:p1 k t.heap) (b1:q1 t.heap) (hx:xs[k]?=none)
  (fin:∀g e,(∀c o,c≠z->c≠TO->c≠ia->c≠ib->t.heap.get? c=!o->g.get? c=!o)->(∃o,g.get? e=!o/\o.cls=.type "StopIteration")->E0 (.ref e) { t with heap:=g }) :
  wpAny (model P0 w0) A0 (Builtin.«zip.__next__» ([.ref z],[],)) Q0 E0 t:=by
 show wpAny _ _ (field (.ref z) 2 >>=_) _ _ _;refine ay1 (a4J zz 8 (x:=.bool false) 8 ?_);show wpAny _ _ (field (.ref z) 3 >>=_) _ _ _;refine ay1 (a4J zz 8 (x:=.ref TI) 8 (ay1 (bcg zI 8 ?_)));show wpAny _ _ (Builtin.SmallTypes.ownedTupleIsFree (.ref z) >>=_) _ _ _;refine ay1 ?_;unfold Builtin.SmallTypes.ownedTupleIsFree;refine ay1 (a4J zz 8 (x:=.none) 8 (aO7 ?_));simp only[akf];refine ay1 (atV (ay1 (a4J zz 8 (x:=.ref TO) 8 (ay1 (ad4 zz 5 λg1 z1 c1=>?_)))))
 replace z1:IsZip g1 z TI TO .ellipsis:=z1
 refine ay1 ?_;simp only[agr,List.forIn_nil,List.zipIdx_cons,List.zipIdx_nil];refine ay1 (ay1 (wpAny_onRaise ?_));show wpAny _ _ (Builtin.SmallTypes.nextOf (.ref ia) >>=_) _ _ _;refine ay1 (S1.stop hA (S1.jQ a1 λo e=>c1.extBut _ o D.i1z e) (S1.uA b1 λo e=>c1.extBut _ o D.l1z e) hx λg2 e c2 he=>?_);let(oe,NO,ce,):=he;have z2:IsZip g2 z TI TO .ellipsis:=c2 _ _ D.i1z.symm z1;have ne:e≠z:=λq=>by rw[q,z2]at NO;cases NO;simp at ce
 exact ad4 z2 5 λg3 _ c3=>fin g3 e (λc o n1 _ n3 _ q=>c3.extBut _ _ n1 (c2 _ _ n3 (c1.extBut _ _ n1 q))) (oe,c3.extBut _ _ ne NO,ce,)
theorem ZdS{k:Nat}{x y u v:Value}{Q0:Option Value->Shared->Prop}(S1:Src P0 w0 ia la xs p1 q1)(S2:Src P0 w0 ib lb ys p2 q2)(D:ZipApart z TI TO ia ib la lb)
  (zz:IsZip t.heap z TI TO .none) (zI:IsPair t.heap TI (.ref ia) (.ref ib)) (zO:IsPair t.heap TO u v) (a1:p1 k t.heap) (a2:p2 k t.heap) (b1:q1 t.heap) (b2:q2 t.heap) (hx:xs[k]?=!x) (hy:ys[k]?=!y)
  (fin:∀g,IsZip g z TI TO (rawInt t.heap.objs.size)->IsPair g TO x y->p1 (k+1) g->p2 (k+1) g->IsPair g t.heap.objs.size x y->g.objs.size=t.heap.objs.size+1 ->
   (∀c o,c≠z->c≠TO->c≠ia->c≠ib->t.heap.get? c=!o->g.get? c=!o)->Q0 (!(.ref t.heap.objs.size)) { t with heap:=g }):wpAny (model P0 w0) A0 (pyNext (.ref z)) Q0 E0 t:=by
 have ty:t.TypeIs (.ref z) "zip":=(_,zz,8,);unfold pyNext;exact ay1 (wpAny_attempt (aAl (name:=Str.ofString "__next__") ty F.slot_zip_next (aqh F.slot_zip_next ty F.entry_zip_next (ZgG S1 S2 D zz zI zO a1 a2 b1 b2 hx hy λg r1 r2 r3 r4 r5 r6 r7=>aO7 (fin g r1 r2 r3 r4 r5 r6 r7)) (F.args_zip_next_1 _))))
theorem ZdT{k:Nat}{u v:Value}{Q0:Option Value->Shared->Prop}(hA:A0.handled=none)(S1:Src P0 w0 ia la xs p1 q1)(S2:Src P0 w0 ib lb ys p2 q2)(D:ZipApart z TI TO ia ib la lb)
  (zz:IsZip t.heap z TI TO .none) (zI:IsPair t.heap TI (.ref ia) (.ref ib)) (zO:IsPair t.heap TO u v) (a1:p1 k t.heap) (b1:q1 t.heap) (hx:xs[k]?=none)
  (fin:∀g,(∀c o,c≠z->c≠TO->c≠ia->c≠ib->t.heap.get? c=!o->g.get? c=!o)->Q0 none { t with heap:=g }):wpAny (model P0 w0) A0 (pyNext (.ref z)) Q0 E0 t:=by
 have ty:t.TypeIs (.ref z) "zip":=(_,zz,8,);unfold pyNext;refine ay1 (wpAny_attempt (aAl (name:=Str.ofString "__next__") ty F.slot_zip_next (aqh F.slot_zip_next ty F.entry_zip_next (ZgH hA S1 S2 D zz zI zO a1 b1 hx λg e kp he=>?_) (F.args_zip_next_1 _))));let(oe,ge,ce,):=he;exact ay1 (wpAny_isInstance (T:="StopIteration") (b:=true) (oe,ge,ce,) isSubtype_stop (aO7 (fin _ kp)))
end
abbrev J2(h:Heap)(a:Addr):Heap:=h.push { cls:=.type "tuple_iterator",data:=.fields #[.ref a,.int 0 0] }
abbrev JZ(h:Heap)(a b:Addr):Heap:=(J2 h a).push { cls:=.type "tuple_iterator",data:=.fields #[.ref b,.int 0 0] }
abbrev JY(h:Heap)(a b:Addr):Heap:=(JZ h a b).push { cls:=.type "tuple",data:=.seq #[.ref h.objs.size,.ref (J2 h a).objs.size] }
abbrev JX(h:Heap)(a b:Addr):Heap:=(JY h a b).push { cls:=.type "tuple",data:=.seq #[.none,.none] }
abbrev EG(h:Heap)(a b:Addr):Heap:=(JX h a b).push { cls:=.type "zip",data:=.fields #[.none,.bool false,.bool false,.ref (JZ h a b).objs.size,.ref (JY h a b).objs.size] }
theorem ZfK(a b:Addr)(xs ys:Array Value) :
  Meets (Builtin.«zip.__new__» ([.type "zip",.ref a,.ref b],[],)) (λ_ R s=>s.heap.IsTuple a xs/\s.heap.IsTuple b ys/\R (.ok (.ret (.ref (JX s.heap a b).objs.size))) { s with heap:=EG s.heap a b }):=
 .of_wp λP0 w0 A0 R t h=>by
  let(hp,gn,dr,tk,os,):=t;let(ta,tb,h,):=h;have sub:=sub_zip;have qa:Heap.IsTuple (Shared.heap (hp,gn,dr,tk,os,)) a xs:=ta;have qb:Heap.IsTuple (Shared.heap (hp.push { cls:=.type "tuple_iterator",data:=.fields #[.ref a,.int 0 0] },gn,dr,tk,os,)) b ys:=Heap.IsTuple.push tb _
  wp_walk using wpAny_pyIter_tuple qa,wpAny_pyIter_tuple qb
  exact(_,8,h,)
theorem ZgI{P0:Program}{w0:World}{A0:Around}{E0:Value->Shared->Prop}{t:Shared}{a b:Addr}{xs ys:Array Value}{Q0:Value->Shared->Prop}(ta:t.heap.IsTuple a xs)(tb:t.heap.IsTuple b ys)
  (h:∀g,IsZip g (t.heap.objs.size+4) (t.heap.objs.size+2) (t.heap.objs.size+3) .none->IsPair g (t.heap.objs.size+2) (.ref t.heap.objs.size) (.ref (t.heap.objs.size+1))->IsPair g (t.heap.objs.size+3) .none .none ->
   g.IsTupleIter t.heap.objs.size a 0->g.IsTupleIter (t.heap.objs.size+1) b 0->(∀c o,t.heap.get? c=!o->g.get? c=!o)->Q0 (.ref (t.heap.objs.size+4)) { t with heap:=g }) :
  wpAny (model P0 w0) A0 (call (.type "zip") [.ref a,.ref b]) Q0 E0 t:=by
 refine callType_new F.called_zip 9 (F.typeCall_zip_2 _ _) (F.newCall_zip_2 _ _) (λobj=>F.args_object_init_3 obj _ _) F.entry_zip_new (ZfK a b xs ys) (ta,tb,?_,);have n1:(J2 t.heap a).objs.size=t.heap.objs.size+1:=aET ..;have n2:(JZ t.heap a b).objs.size=t.heap.objs.size+2:=by rw[aET,n1]
 have n3:(JY t.heap a b).objs.size=t.heap.objs.size+3:=by rw[aET,n2]
 have n4:(JX t.heap a b).objs.size=t.heap.objs.size+4:=by rw[aET,n3]
 have r5:(EG t.heap a b).get? (JX t.heap a b).objs.size=!_:=a1M _ 8;have r4:(EG t.heap a b).get? (JY t.heap a b).objs.size=!_:=a47 _ (a1M _ 8);have r3:(EG t.heap a b).get? (JZ t.heap a b).objs.size=!_:=a47 _ (a47 _ (a1M _ 8));have r2:(EG t.heap a b).get? (J2 t.heap a).objs.size=!_:=a47 _ (a47 _ (a47 _ (a1M _ 8)));have r1:(EG t.heap a b).get? t.heap.objs.size=!_:=a47 _ (a47 _ (a47 _ (a47 _ (a1M _ 8))));show _/\_;rw[n2,n3,n4]at r5;rw[n1,n2]at r3;rw[n3]at r4;rw[n1]at r2;rw[n4];refine((_,r5,8,),h _ r5 r3 r4 (_,r1,8,8,) (_,r2,8,8,) λc o q=>?_,)
 iterate 05 refine a47 _ ?_
 exact q
def zh(K:W.Frag)(a b:Addr):It:=
 (λi H=>∃xs ys x y,aX K H a xs/\aX K H b ys/\xs[i]?=!x/\ys[i]?=!y,
 λi H v H'=>∃t x y,H t=none/\v=.ref t/\H'=upd H t (.tup [x,y])/\(∀xs,aX K H a xs->xs[i]?=!x)/\∀ys,aX K H b ys->ys[i]?=!y,
 λi H=>∃xs,aX K H a xs/\(∃ys,aX K H b ys)/\xs.length<=i,)
theorem ZgJ{P:Program}{w:World}{K:W.Frag}{elts:List PySem.Expr}{x1}{pos:Pos}(z TI TO i1 i2 a b:Addr)(D:ZipApart z TI TO i1 i2 a b) :
  Turn P w K (.Tuple elts x1 pos) (zh K a b) [z,TI,TO,i1,i2] z (λi h=>IsZip h z TI TO .none/\IsPair h TI (.ref i1) (.ref i2)/\(∃u v,IsPair h TO u v)/\h.IsTupleIter i1 a i/\h.IsTupleIter i2 b i) where
 mem:=5
 obj:=λi h st c hc=>by
  let(hz,hTI,(u,v,hTO,),h1,h2,):=st;simp only[as2,af0,aRi]at hc;rcases hc with rfl|rfl|rfl|rfl|rfl
  .exact ⟨_,hz,λv e=>by cases e⟩
  .exact ⟨_,hTI,λv e=>by cases e⟩
  .exact ⟨_,hTO,λv e=>by cases e⟩
  .exact Jy h1
  .exact Jy h2
 keep:=λi h h' st k=>by
  let(hz,hTI,(u,v,hTO,),h1,h2,):=st;exact(k z 5 _ hz,k TI 5 _ hTI,(u,v,k TO 5 _ hTO,),h1.at λo e=>k i1 5 o e,h2.at λo e=>k i2 5 o e,)
 item:=by
  intro X hP hw hK hc i pins s σ H E I hf st hg;subst hP hw hK;let(xs,ys,x,y,sZ,sW,hx,hy,):=hg;let(hz,hTI,(u0,v0,hTO,),h1,h2,):=st;let(lX,ra,pa,za,):=I.tuple sZ;let(ng,rb,pb,zb,):=I.tuple sW;let(ux,hux,Mv,):=ra.get hx;let(uy,Nr,Mu,):=rb.get hy;refine ZdS (LA i1 a lX.toArray) (LA i2 b ng.toArray) D hz hTI hTO h1 h2 (show s.heap.IsTuple a lX.toArray from pa) (show s.heap.IsTuple b ng.toArray from pb) (x:=ux) (y:=uy) (by simpa using hux) (by simpa using Nr) λh' a1 a2 a3 a4 a5 a6 a7=>?_;refine(.ref s.heap.objs.size,8,?_,);refine wpAny_letOwnedTupleGo_zip a1 λh2' hz' hs'=>?_;have yw:z<s.heap.objs.size:=ape hz;have kk:∀c o,c∉[z,TI,TO,i1,i2]->s.heap.get? c=!o->h2'.get? c=!o:=λc o hc e=>by
   simp only[as2,af0,aRi,not_or]at hc;exact hs'.extBut c o hc.1 (a7 c o hc.1 hc.2.2.1 hc.2.2.2.1 hc.2.2.2.2 e)
  have tp:h2'.get? s.heap.objs.size=!{ cls:=.type "tuple",data:=.seq #[ux,uy] }:=hs'.extBut _ _ (aJ4 yw) a5;have I1:Inv X pins σ (upd H s.heap.objs.size (.tup [x,y])) { s with heap:=h2',toks:=s.toks }:=
   I.sS hf kk (by show 2<=sizeLine;decide,[ux,uy],.cons Mv (.cons Mu .nil),(_,tp,113,),)
  have Pk:h2'.get? TI=s.heap.get? TI:=by
   rw[hTI];exact hs'.extBut _ _ D.TIz (a7 _ _ D.TIz D.TITO D.TIi1 D.TIi2 hTI)
  refine(.ref s.heap.objs.size,_,I1,8,(s.heap.objs.size,x,y,I.hok.fresh (amA _),8,8,λxs' h=>by rw[I.je h sZ];exact hx,λys' h=>by rw[I.je h sW];exact hy,),(hz',?_,(ux,uy,hs'.extBut _ _ D.TOz a2,),a3.at λo e=>hs'.extBut _ o D.i1z e,a4.at λo e=>hs'.extBut _ o D.i2z e,),λc hc=>?_,)
  .show h2'.get? TI=_;rw[Pk];exact hTI
  .have hc':=hc;have hlt:c<s.heap.objs.size:=by
    simp only[as2,af0,aRi]at hc';rcases hc' with rfl|rfl|rfl|rfl|rfl
    .exact yw
    .exact ape hTI
    .exact ape hTO
    .let(o,e,_,):=Jy h1;exact ape e
    .let(o,e,_,):=Jy h2;exact ape e
   rw[Zc (abm hlt)];exact(hf c hc).1
 done:=by
  intro X hP hw hK hc i pins s σ H E I hf st hg;subst hP hw hK;let(xs,sZ,(ys,sW,),hend,):=hg;let(hz,hTI,(u0,v0,hTO,),h1,h2,):=st;let(lX,ra,pa,za,):=I.tuple sZ;let(ng,rb,pb,zb,):=I.tuple sW;have la:=ra.length;refine ZdT (I.ok.hd hc) (LA i1 a lX.toArray) (LA i2 b ng.toArray) D hz hTI hTO h1 (show s.heap.IsTuple a lX.toArray from pa) (by simp;lia) λh' hk=>(8,?_,);refine I.kN (t':=s.toks) hf λc o hc e=>?_;simp only[as2,af0,aRi,not_or]at hc;exact hk c o hc.1 hc.2.2.1 hc.2.2.2.1 hc.2.2.2.2 e
 self:=λ_ _ _ _ _ st h=>aQG st.1 h
def Ic(K:W.Frag)(ta:TA):TI:=λσ H R=>ta σ H λvs H1=>∃a b,vs=[.ref a,.ref b]/\((∃xs ys,au K H1 a xs/\au K H1 b ys/\R (Bg K a b) H1)\/∃xs ys,aX K H1 a xs/\aX K H1 b ys/\R (zh K a b) H1)
section
variable{X:Cx}
theorem ZjD{elts:List PySem.Expr}{x1}{tpos:Pos}{a b:PySem.Expr}{ta:TA}{p pos:Pos}(hg:Gl X "zip")(hm:X.mg "zip"=none)(ha:PA X [a,b] ta)(hs:starEach [a,b] X.env=[(false,eval a X.env),(false,eval b X.env)]:=by rfl)(hs2:starEach [b] X.env=[(false,eval b X.env)]:=by rfl) :
  PI X (.Tuple elts x1 tpos) (.Call (.Name "zip" p) [a,b] [] pos) (Ic X.K ta):=by
 intro pins s σ H R I h;refine Call_ (zE I hg hm UE (aMm (tW (ha pos pins s σ H _ I h) λus s1 vs H1 I1 r1 q1=>?_) (by rw[hs,hs2]) (by rw[hs2];rfl)));let(l1,l2,e,q,):=q1;subst e;let(v1,v2,rfl,r,r',):=vals2 r1;cases r;cases r';have big:∀c,c∈[s1.heap.objs.size+4,s1.heap.objs.size+2,s1.heap.objs.size+3,s1.heap.objs.size,s1.heap.objs.size+1]->s1.heap.objs.size<=c:=λc hc=>by
  simp only[as2,af0,aRi]at hc;rcases hc with rfl|rfl|rfl|rfl|rfl <;> first|exact amA _|exact Nat.le_add_right _ _
 rcases q with⟨xs,ys,sZ,sW,q⟩|⟨xs,ys,sZ,sW,q⟩
 .let(lX,ra,pa,za,):=I1.list sZ;let(ng,rb,pb,zb,):=I1.list sW;have yq:l1<s1.heap.objs.size:=by let(o,e,_,):=pa.isList;exact ape e
  have DA:l2<s1.heap.objs.size:=by let(o,e,_,):=pb.isList;exact ape e
  refine call_zip_2 pa.isList pb.isList λh' g5 g3 g4 g1 g2 hsz kp=>aQG g5 ?_;exact(_,[_,_,_,_,_],_,_,H1,8,I1.kept (t':=s1.toks) kp,UG _ _ _ _ _ l1 l2 (O3 s1.heap.objs.size l1 l2 yq DA),(g5,g3,(_,_,g4,),g1,g2,),λc hc=>I1.tG (big c hc) (I1.hok.fresh (big c hc)),q,)
 .let(lX,ra,pa,za,):=I1.tuple sZ;let(ng,rb,pb,zb,):=I1.tuple sW;have yq:l1<s1.heap.objs.size:=SV pa;have DA:l2<s1.heap.objs.size:=SV pb;refine ZgI (show s1.heap.IsTuple l1 lX.toArray from pa) (show s1.heap.IsTuple l2 ng.toArray from pb) λh' g5 g3 g4 g1 g2 kp=>aQG g5 ?_;exact(_,[_,_,_,_,_],_,_,H1,8,I1.kept (t':=s1.toks) kp,ZgJ _ _ _ _ _ l1 l2 (O3 s1.heap.objs.size l1 l2 yq DA),(g5,g3,(_,_,g4,),g1,g2,),λc hc=>I1.tG (big c hc) (I1.hok.fresh (big c hc)),q,)
end
theorem ZgK{K:W.Frag}{a b:Addr}{xs zs:List V}{l:Addr}{g:TG}{tc:TT}{te:TE}{σ0:St}{H0:Hp}{Qf:Hp->Prop}(hlen:xs.length=zs.length)(Pv:Nat->List V->St->Hp->Prop)(h0:Pv 0 [] σ0 H0)
  (hl:∀i ys σ' H',i<=xs.length->Pv i ys σ' H'->aX K H' a xs/\aX K H' b zs)
  (hs:∀i x z t ys σ' H',i<xs.length->xs[i]?=!x->zs[i]?=!z->ys.length<=i->Pv i ys σ' H'->H' t=none->g (.ref t) σ' (upd H' t (.tup [x,z])) λσ2 H3=>tc σ2 H3 λb H4=>if b=true then te σ2 H4 λy H5=>jd xs.length l Pv i ys σ2 y H5 else Bl xs.length Pv i ys σ2 H4)
  (hd:∀ys σ' H',ys.length<=xs.length->Pv xs.length ys σ' H'->Qf H') :
  ∃W:Nat->Nat->List V->St->Hp->Prop,(∃m,W 0 m [] σ0 H0)/\∀i m ys σ' H',W i m ys σ' H' ->
  ((zh K a b).stop i H'/\Qf H')\/((zh K a b).go i H'/\∀x H2,(zh K a b).rY i H' x H2->g x σ' H2 λσ2 H3=>tc σ2 H3 λb H4=>
    if b=true then te σ2 H4 λy H5=>H5 l=!(.lst ys)/\ys.length<sizeLine/\∃m',m'<m/\W (i+1) m' (ys++[y]) σ2 (upd H5 l (.lst (ys++[y])))
    else ∃m',m'<m/\W (i+1) m' ys σ2 H4):=by
 refine(λi m ys σ' H'=>m=xs.length-i/\i<=xs.length/\ys.length<=i/\Pv i ys σ' H',(xs.length,8,aei _,amA _,h0,),?_,);rintro i m ys σ' H' ⟨rfl,hi,hy,p⟩;let(qa,qb,):=hl i ys σ' H' hi p;by_cases hlt:i<xs.length
 .have hlt':i<zs.length:=7
  refine .inr ((xs,zs,xs[i],zs[i],qa,qb,by simp[hlt],by simp[hlt'],),λx H2 zq=>?_,);let(t,u,v,ht,rfl,rfl,z1,z2,):=zq;exact hs i u v t ys σ' H' hlt (z1 xs qa) (z2 zs qb) hy p ht
 .have e:i=xs.length:=7
  subst e;exact .inl ((xs,qa,(zs,qb,),amA _,),hd ys σ' H' hy p,)
section
variable{X:Cx}{K:W.Frag}{tg:PySem.Expr}
theorem zC(hK:X.K=K){l:PySem.Expr}{tl:TE}(hl:PE X l tl):PI X tg l (Ci K tl):=hK ▸Zjn hl
theorem Lz(hK:X.K=K){l:PySem.Expr}{tl:TE}(hl:PE X l tl):PI X tg l (Ie K tl):=hK ▸Zkt hl
end
section
variable{X:Cx}{K:W.Frag}
theorem yx{A:Around}{k:Nat}(hr:aY k A)(n:Nat)(h:n<=60):A.units+1+n<cLine:=by have:=hr.units;lia
end
section
variable{X:Cx}
theorem OY(hc:X.calm=true):bw X (.builtin "any") (λxs H Q=>∃(p:Addr)(bs:List Bool),xs=[.ref p]/\au X.K H p (bs.map V.bl)/\Q (.bl (bs.any id)) H):=by
 intro pins s σ H xs us Q I r h;let(p,bs,rfl,hq,q,):=h;let(u,rfl,rx,):=vals1 r;cases rx;let(its,rv,pl,hz,):=I.list hq;have e:=OZ rv;subst e;refine call_any_walk (wpAny_pyIter_list pl.isList ?_);refine(s.heap.objs.size,_,[s.heap.objs.size],108,λi=>bs.getD i true,8,Walks.list (A:=X.A.in1) (show X.A.in1.handled=none from I.ok.hd hc) s.heap.objs.size p ?_ (bs.map Value.bool).toArray,((_,a1M _ 8,8,8,),pl.isList.at λo e=>a47 _ e,),?_,?_,)
 .let(o,e,_,):=pl.isList;exact abm (ape e)
 .intro i v s' Q' E' hP hQ;have vM:(bs.map Value.bool)[i]?=!v:=by simpa using hP
  rw[a7o]at vM;cases z:bs[i]? with
  |none=>rw[z]at vM;cases vM
  |some b=>
   rw[z]at vM;cases vM;have:bs.getD i true=b:=by rw[an8,z];rfl
   have Iu:Q' (bs.getD i true) s':=hQ;rw[this]at Iu;exact aXA Iu
 .intro h' tk hk;refine(.bl (bs.any id),H,I.kept (t':=tk) (λb o e=>hk b o (by simpa using abm (ape e)) (a47 _ e)),?_,q,);have z:(List.range bs.length).map (λi=>bs.getD i true)=bs:=Vb _ λi b e=>by rw[an8,e];rfl
  have z2:(List.range bs.length).any (λi=>bs.getD i true)=bs.any id:=by
   conv=>rhs;rw[<-z]
   rw[any_map];rfl
  show Value.bool _=Value.bool _;have z3:(bs.map Value.bool).toArray.size=bs.length:=5
  rw[z3,z2]
end
theorem ZjE{K:W.Frag}{a b:Addr}{xs ys:List V}{g:TG}{tb:TS}{D:Ends}{σ:St}{H:Hp}(Pv:Nat->St->Hp->Prop)(hlen:xs.length=ys.length)(h0:Pv 0 σ H)(hl:∀i σ H,i<=xs.length->Pv i σ H->au K H a xs/\au K H b ys)
  (hs:∀i x y t σ H,xs[i]?=!x->ys[i]?=!y->Pv i σ H->H t=none->g (.ref t) σ (upd H t (.tup [x,y])) λσ2 H2=>tb { D with nx:=Pv (i+1),ct:=Pv (i+1),bk:=D.nx } σ2 H2) (hd:∀ σ H,Pv xs.length σ H->D.nx σ H) :
  ∃W:Nat->Nat->St->Hp->Prop,(∃m,W 0 m σ H)/\∀i m σ H,W i m σ H ->
   ((Bg K a b).stop i H/\D.nx σ H)\/((Bg K a b).go i H/\∃N:St->Hp->Prop,(∀ σ' H',N σ' H'->∃m',m'<m/\W (i+1) m' σ' H')/\∀x H',(Bg K a b).rY i H x H'->g x σ H' λσ2 H2=>tb { D with nx:=N,ct:=N,bk:=D.nx } σ2 H2):=by
 refine(λi m σ H=>m=xs.length-i/\i<=xs.length/\Pv i σ H,(xs.length,5,aei _,h0,),?_,);rintro i m σ H ⟨rfl,hi,p⟩;let(q1,q2,):=hl i σ H hi p;by_cases hlt:i<xs.length
 .have Ny:i<ys.length:=hlen ▸hlt;refine .inr ((xs,ys,xs[i],ys[i],q1,q2,by simp[hlt],by simp[Ny],),Pv (i+1),λσ' H' p'=>(xs.length-(i+1),7,8,hlt,p',),λx H' y=>?_,);let(t,x1,y1,ht,rfl,rfl,hx,hy,):=y;exact hs i x1 y1 t σ _ (hx xs q1) (hy ys q2) p ht
 .have e:i=xs.length:=7
  subst e;exact .inl ((xs,ys,q1,q2,.inl (amA _),),hd σ H p,)
end L2
namespace L2.Vn
open PySem PySem.Spec PyProof.Rows
def Rk(ρ:Keyed->Nat)(xs:Array Keyed)(i:Nat):Nat:=(xs[i]?).elim 0 ρ
theorem Jt{ρ:Keyed->Nat}{xs ys:Array Keyed}{i j:Nat}(h:xs[i]?=ys[j]?):Rk ρ xs i=Rk ρ ys j:=by unfold Rk;rw[h]
def iu(ρ:Keyed->Nat)(xs:Array Keyed)(i j:Nat):Prop:=K xs i<K xs j\/(K xs i=K xs j/\Rk ρ xs i<Rk ρ xs j)
theorem iu.trans{ρ:Keyed->Nat}{xs:Array Keyed}{i j k:Nat}(h1:iu ρ xs i j)(h2:iu ρ xs j k):iu ρ xs i k:=by
 unfold iu at *;lia
def rX(ρ:Keyed->Nat)(xs:Array Keyed)(n:Nat):Prop:=∀i j,i<j->j<n->iu ρ xs i j
def Dec(ρ:Keyed->Nat)(xs:Array Keyed)(n:Nat):Prop:=∀i j,i<j->j<n->iu ρ xs j i
def jH(ρ:Keyed->Nat)(xs:Array Keyed)(n:Nat):Prop:=∀i,n<=i->i<xs.size->Rk ρ xs i=i
theorem jH.mono{ρ:Keyed->Nat}{xs:Array Keyed}{m n:Nat}(h:jH ρ xs m)(l:m<=n):jH ρ xs n:=λi hi hs=>h i (atw l hi) hs
theorem Lh{ρ:Keyed->Nat}{xs:Array Keyed}{i:Nat}(h:i<xs.size):(xs.toList.map ρ)[i]?=!(Rk ρ xs i):=by
 unfold Rk;rw[a7o,aCG,aWP h];rfl
structure Inj(ρ:Keyed->Nat)(xs:Array Keyed):Prop where
 inj:∀i j,i<xs.size->j<xs.size->Rk ρ xs i=Rk ρ xs j->i=j
 lt:∀i,i<xs.size->Rk ρ xs i<xs.size
theorem ZkL{ρ:Keyed->Nat}{xs a₀:Array Keyed}(p:xs.Perm a₀)(h0:jH ρ a₀ 0):Inj ρ xs:=by
 have e0:a₀.toList.map ρ=List.range a₀.size:=by
  apply aNd;intro i;by_cases h:i<a₀.size
  .rw [Lh h,adw h,h0 i (aei _) h]
  .rw [aX6 (by simpa using h),aX6 (by simpa using h)]
 have pm:(xs.toList.map ρ).Perm (List.range a₀.size):=by rw[<-e0];exact(a1P.mp p).map ρ
 have nd:(xs.toList.map ρ).Nodup:=pm.nodup_iff.mpr List.nodup_range;refine(λi j hi hj e=>?_,λi hi=>?_,)
 .refine (List.getElem?_inj (by rw[aHJ,aRY];exact hi) nd).mp ?_;rw[Lh hi,Lh hj,e]
 .have m:Rk ρ xs i∈xs.toList.map ρ:=a1U (Lh hi);have:=aGX.mp (pm.mem_iff.mp m);rw[p.size_eq];exact this
theorem Inj.below{ρ:Keyed->Nat}{xs:Array Keyed}(I:Inj ρ xs){n:Nat}(h:jH ρ xs n){i:Nat}(hi:i<n)(hs:i<xs.size):Rk ρ xs i<n:=by
 by_cases c:Rk ρ xs i<n
 .exact c
 .have l:=I.lt i hs;have e:=h (Rk ρ xs i) 7 l;have:=I.inj _ _ l hs e;lia
theorem OX{ρ:Keyed->Nat}{xs:Array Keyed}{src d:Nat}(hs:src<xs.size)(hd:d<=src)(k:Nat) :
  Rk ρ (bubble xs src d) k=if k=src-d then Rk ρ xs src else if src-d<k/\k<=src then Rk ρ xs (k-1) else Rk ρ xs k:=by
 have e:=getElem?_bubble hs d hd k;by_cases h1:k=src-d
 .rw [aS1 h1]at e ⊢;exact Jt e
 .rw [aWd h1]at e ⊢;by_cases h2:src-d<k/\k<=src
  .rw [aS1 h2]at e ⊢;exact Jt e
  .rw [aWd h2]at e ⊢;exact Jt e
theorem AX{ρ:Keyed->Nat}{xs:Array Keyed}{i j:Nat}(hj:j<=xs.size)(k:Nat) :
  Rk ρ (mirror xs i j ((j-i)/2)) k=if i<=k/\k<j then Rk ρ xs (i+j-1-k) else Rk ρ xs k:=by
 have e:=getElem?_mirror_all (i:=i) hj k;by_cases h1:i<=k/\k<j
 .rw [aS1 h1]at e ⊢;exact Jt e
 .rw [aWd h1]at e ⊢;exact Jt e
section
variable{prog:Program}{w:World}{A:Around}{E:Value->Shared->Prop}{s:Shared}{a₀:Array Keyed}{ρ:Keyed->Nat}
theorem SB.inj{st:SortSt}(h:SBase a₀ st)(hr:jH ρ a₀ 0):Inj ρ (arrOf st):=ZkL h.perm hr
theorem ZkM{st:SortSt}{n ok:Nat}{Q:Bool->SortSt->Prop}(h0:IntKeys a₀)(hr:jH ρ a₀ 0)(hn:n<=a₀.size)(hok:ok<=n)(YJ:1<=ok)(hB:SBase a₀ st)(hs:rX ρ (arrOf st) ok)(hI:jH ρ (arrOf st) ok)
  (h:∀st',SBase a₀ st'->rX ρ (arrOf st') n->Q true st'):wpS (model prog w) A E s (binarySort' 0 n ok) Q st:=by
 rw[binarySort'_eq];simp only[a0f];refine apC (a6d (aPz (I:=λk c st1=>c=(none,())/\SBase a₀ st1/\rX ρ (arrOf st1) (min k n)/\jH ρ (arrOf st1) (min k n))
  (Q:=λc st1=>c=(none,())/\SBase a₀ st1/\rX ρ (arrOf st1) n) ?turn ?last ?first) ?after)
 case after=>
  rintro c st1 ⟨rfl,b1,i1⟩;exact aJm (h st1 b1 i1)
 case first=>
  rw[show min (max ok 1) n=ok by lia];exact(8,hB,hs,hI,)
 case last=>
  rintro c st1 ⟨hc,b1,i1,_⟩;rw[show min (max (max ok 1) n) n=n by lia]at i1;exact(hc,b1,i1,)
 case turn=>
  rintro k c st1 YE hkn ⟨rfl,b1,i1,d1⟩;rw[show min k n=k by lia]at i1 d1;have hk:k<a₀.size:=7
  have sz:=b1.size;have J:=SB.inj b1 hr;have rk:Rk ρ (arrOf st1) k=k:=d1 k (amA _) 7;have lo:∀m,m<k->¬K (arrOf st1) k<K (arrOf st1) m->iu ρ (arrOf st1) m k:=λm hm c=>by
   have:=J.below d1 hm 7;unfold iu;lia
  refine apC (a6d (aPz (I:=λx c st2=>st2=st1/\∃l r,c=(none,l,r)/\l<=r/\r<=k/\r-l<=k-x/\(∀i,i<l->iu ρ (arrOf st1) i k)/\(∀i,r<=i->i<k->iu ρ (arrOf st1) k i))
   (Q:=λc st2=>st2=st1/\∃l r,c=(none,l,r)/\l<=k/\(∀i,i<l->iu ρ (arrOf st1) i k)/\(∀i,l<=i->i<k->iu ρ (arrOf st1) k i)) ?iturn ?ilast ?ifirst) ?iafter)
  case ifirst=>exact(8,0,k,8,7,7,7,λi hi=>absurd hi 7,λi p q=>absurd q 7,)
  case ilast=>
   rintro c st2 ⟨rfl,l,r,rfl,hlr,hrk,hm,u1,u2⟩;have e:l=r:=7
   subst e;exact(8,l,l,8,hrk,u1,u2,)
  case iturn=>
   rintro x c st2 _ hxk ⟨rfl,l,r,rfl,hlr,hrk,hm,u1,u2⟩;dsimp only;by_cases hge:l ≥ r
   .rw [aS1 hge];have e:l=r:=7
    subst e;exact aJm (8,l,l,8,hrk,u1,u2,)
   .rw [aWd hge];refine apC (wpS_ltK b1 h0 hk 7 ?_);by_cases c:K (arrOf st2) k<K (arrOf st2) ((l+r)/2)
    .simp only[c,amM,akf];refine aJm (8,l,(l+r)/2,8,7,7,7,u1,λi p q=>?_,);by_cases e:i=(l+r)/2
     .subst e;exact .inl c
     .exact iu.trans (.inl c) (i1 _ _ 7 q)
    .simp only[c,aiS,acv,aaq];refine aJm (8,(l+r)/2+1,r,8,7,7,7,λi p=>?_,u2,);have v:=lo _ 7 c;by_cases e:i=(l+r)/2
     .subst e;exact v
     .exact iu.trans (i1 _ _ 7 7) v
  case iafter=>
   rintro c st2 ⟨rfl,l,r,rfl,hlk,u1,u2⟩;show wpS _ _ _ _ (do moveDown' k l;pure (ForInStep.yield (none,()))) _ _;rw[moveDown'_eq];refine apC (aRu (aJm (8,b1.setArr (bubble_perm _ _ _),?_,?_,)))
   .rw [show min (k+1) n=k+1 by lia];have hks:k<(arrOf st2).size:=7
    intro i j hij hj;show iu ρ (bubble (arrOf st2) k (k-l)) i j;unfold iu;rw[K_bubble hks 7,K_bubble hks 7,OX hks 7,OX hks 7,show k-(k-l)=l by lia];by_cases a1:i=l
    .have Cw:¬j=l:=7
     have Sg:l<j/\j<=k:=7
     rw[aS1 a1,aS1 a1,aWd Cw,aWd Cw,aS1 Sg,aS1 Sg];exact u2 _ 7 7
    .rw [aWd a1,aWd a1];by_cases a2:j=l
     .have Cw:¬(l<i/\i<=k):=7
      rw[aS1 a2,aS1 a2,aWd Cw,aWd Cw];exact u1 _ 7
     .rw [aWd a2,aWd a2];by_cases a3:l<i/\i<=k
      .have Cw:l<j/\j<=k:=7
       rw[aS1 a3,aS1 a3,aS1 Cw,aS1 Cw];exact i1 _ _ 7 7
      .rw [aWd a3,aWd a3];by_cases a4:l<j/\j<=k
       .rw [aS1 a4,aS1 a4];by_cases a5:i<j-1
        .exact i1 _ _ a5 7
        .exfalso;lia
       .rw [aWd a4,aWd a4];exact i1 _ _ 7 7
   .rw [show min (k+1) n=k+1 by lia];intro i hi hs';have hs2:i<(arrOf st2).size:=by
     have:(arrOf (setArr st2 (bubble (arrOf st2) k (k-l)))).size=(arrOf st2).size:=bubble_size _ _ _;lia
    show Rk ρ (bubble (arrOf st2) k (k-l)) i=i;rw[OX 7 7,aWd 7,aWd 7];exact d1 i 7 hs2
theorem SO{st:SortSt}{a nrem:Nat}{Q:AscSt->SortSt->Prop}(h0:IntKeys a₀)(hr:jH ρ a₀ 0)(hn:nrem<=a₀.size)(ha:1<=a)(han:a<=nrem)(hB:SBase a₀ st)(hs:rX ρ (arrOf st) a)(hI:jH ρ (arrOf st) a)
  (h:∀n,a<=n->n<=nrem->rX ρ (arrOf st) n->(n=nrem\/K (arrOf st) n<K (arrOf st) (n-1))->Q (none,n) st):wpS (model prog w) A E s (ascLoop a nrem) Q st:=by
 unfold ascLoop;have sz:=hB.size;have J:=SB.inj hB hr;refine aPz (I:=λx c st1=>st1=st/\c=(none,x)/\rX ρ (arrOf st) x) ?turn ?last (8,8,hs,)
 case last=>
  rintro c st1 ⟨rfl,rfl,i1⟩;rw[show max a nrem=nrem by lia]at i1 ⊢;exact h nrem han (amA _) i1 (.inl 8)
 case turn=>
  rintro x c st1 hax hxn ⟨rfl,rfl,i1⟩;dsimp only;refine apC (wpS_ltK hB h0 7 7 ?_);by_cases c:K (arrOf st1) x<K (arrOf st1) (x-1)
  .simp only[c,amM,akf];exact aJm (h x hax 7 i1 (.inr c))
  .simp only[c,aiS,acv,aaq];refine aJm (8,8,λi j hij hj=>?_,);by_cases hjx:j<x
   .exact i1 i j hij hjx
   .have ej:j=x:=7
    subst ej;have dx:=hI.mono hax;have r1:=J.below dx (i:=j-1) 7 7;have r2:=dx j (amA _) 7;have v:iu ρ (arrOf st1) (j-1) j:=by unfold iu;lia
    by_cases e:i=j-1
    .subst e;exact v
    .exact iu.trans (i1 i (j-1) 7 7) v
theorem T6{st:SortSt}{n nrem:Nat}{Q:Option Nat->SortSt->Prop}(h0:IntKeys a₀)(hr:jH ρ a₀ 0)(hn:nrem<=a₀.size)(h1:1<=n)(hnn:n<=nrem)(hB:SBase a₀ st)(hs:Dec ρ (arrOf st) n)(hI:jH ρ (arrOf st) n)
  (h:∀m st',SBase a₀ st'->1<=m->m<=nrem->rX ρ (arrOf st') m->jH ρ (arrOf st') m->Q (!m) st'):wpS (model prog w) A E s (tail3 n nrem) Q st:=by
 unfold tail3;have sz:=hB.size;refine apC (aEA ?_);have b1:SBase a₀ (setArr st (mirror (arrOf st) 0 n ((n-0)/2))):=hB.setArr (aWl _ _ _ _);have d1:jH ρ (mirror (arrOf st) 0 n ((n-0)/2)) n:=λi hi hs'=>by
  rw[mirror_size]at hs';rw[AX 7,aWd 7];exact hI i hi hs'
 refine apC (SO h0 hr hn h1 hnn b1 ?_ d1 λm m1 m2 i2 _=>aJm (h m _ b1 7 m2 i2 (d1.mono m1)));intro i j hij hj;show iu ρ (mirror (arrOf st) 0 n ((n-0)/2)) i j;unfold iu;rw[K_mirror 7,K_mirror 7,AX 7,AX 7,aS1 7,aS1 7,aS1 7,aS1 7];exact hs _ _ 7 7
structure DI(ρ:Keyed->Nat)(xs:Array Keyed)(x q:Nat):Prop where
 l:q+1<=x
 sz:x<=xs.size
 d:Dec ρ xs (x-(q+1))
 u:∀i j,i<x-(q+1)->x-(q+1)<=j->j<x->K xs j<K xs i
 e:∀i,x-(q+1)<=i->i<x->K xs i=K xs (x-1)
 f:jH ρ xs (x-(q+1))
theorem DI.IL{xs:Array Keyed}{x:Nat}(h:DI ρ xs x 0):Dec ρ xs x:=λi j hij hj=>by
 by_cases c:j<x-(0+1)
 .exact h.d i j hij c
 .exact .inl (h.u i j 7 7 hj)
theorem DI.rev{xs:Array Keyed}{x q:Nat}(h:DI ρ xs x q):Dec ρ (mirror xs (x-(q+1)) x ((x-(x-(q+1)))/2)) x/\jH ρ (mirror xs (x-(q+1)) x ((x-(x-(q+1)))/2)) x:=by
 have hl:=h.l;have hz:=h.sz;refine(λi j hij hj=>?_,λi hi hs=>?_,)
 .have ke:=K_mirror_equal (i:=x-(q+1)) hz h.e;unfold iu;rw[ke,ke,AX hz,AX hz];by_cases c1:j<x-(q+1)
  .rw [aWd 7,aWd 7];exact h.d i j hij c1
  .by_cases c2:i<x-(q+1)
   .exact .inl (h.u i j c2 7 hj)
   .rw [aS1 7,aS1 7];refine .inr ((h.e j 7 hj).trans (h.e i 7 7).symm,?_,);rw[h.f _ 7 7,h.f _ 7 7];lia
 .rw [mirror_size]at hs;rw[AX hz,aWd 7];exact h.f i 7 hs
theorem DI.of{xs:Array Keyed}{x:Nat}(hx:1<=x)(hz:x<xs.size)(hd:Dec ρ xs x)(hf:jH ρ xs x)(hk:K xs x<K xs (x-1)):DI ρ xs (x+1) 0:=by
 refine(7,7,hd,λi j hi hj hj'=>?_,λi hi hi'=>?_,hf,)
 .have ej:j=x:=7
  subst ej;by_cases e:i=j-1
  .subst e;exact hk
  .have v:=hd i (j-1) 7 7;unfold iu at v;lia
 .have ei:i=x:=7
  subst ei;rfl
theorem DI.more{xs:Array Keyed}{x q:Nat}(h:DI ρ xs x q)(hz:x<xs.size)(hk:K xs x=K xs (x-1)):DI ρ xs (x+1) (q+1):=by
 have hl:=h.l;have e0:x+1-(q+1+1)=x-(q+1):=7
 refine(7,7,by rw[e0];exact h.d,λi j hi hj hj'=>?_,λi hi hi'=>?_,by rw[e0];exact h.f,)
 .rw [e0]at hi hj;by_cases c:j<x
  .exact h.u i j hi hj c
  .have ej:j=x:=7
   subst ej;rw[hk];exact h.u i (j-1) hi 7 7
 .rw [show x+1-1=x by lia];by_cases c:i<x
  .rw [hk];exact h.e i 7 c
  .have ei:i=x:=7
   subst ei;rfl
theorem ZjF{st:SortSt}{n nrem:Nat}{Q:DescSt->SortSt->Prop}(h0:IntKeys a₀)(hn:nrem<=a₀.size)(hnn:n<=nrem)(hB:SBase a₀ st)(hs:DI ρ (arrOf st) n 0)
  (h:∀m q st',SBase a₀ st'->m<=nrem->DI ρ (arrOf st') m q->Q (none,m,q) st'):wpS (model prog w) A E s (descLoop n nrem) Q st:=by
 unfold descLoop;refine aPz (I:=λx c st1=>∃q,c=(none,x,q)/\SBase a₀ st1/\DI ρ (arrOf st1) x q) ?turn ?last (0,8,hB,hs,)
 case last=>
  rintro c st1 ⟨q,rfl,b1,d1⟩;rw[show max n nrem=nrem by lia]at d1 ⊢;exact h nrem q st1 b1 (amA _) d1
 case turn=>
  rintro x c st1 hax hxn ⟨q,rfl,b1,d1⟩;dsimp only;have sz:=b1.size;have hl:=d1.l;refine apC (wpS_ltK b1 h0 7 7 ?_);by_cases c:K (arrOf st1) x<K (arrOf st1) (x-1)
  .simp only[c,amM,akf];by_cases hq:q>0
   .rw [aS1 hq];let(r1,r2,):=d1.rev;refine apC (aEA (aJm (0,8,b1.setArr (aWl _ _ _ _),DI.of 7 (by show x<(mirror _ _ _ _).size;rw[mirror_size];lia) r1 r2 ?_,)));show K (mirror _ _ _ _) x<K (mirror _ _ _ _) (x-1);rw[K_mirror_equal d1.sz d1.e,K_mirror_equal d1.sz d1.e];exact c
   .rw [aWd hq];have e:q=0:=7
    subst e;exact aJm (0,8,b1,DI.of 7 7 d1.IL (d1.f.mono 7) c,)
  .simp only[c,aiS,acv,aaq];refine apC (wpS_ltK b1 h0 7 7 ?_);by_cases c2:K (arrOf st1) (x-1)<K (arrOf st1) x
   .simp only[c2,amM,akf];exact aJm (h x q st1 b1 7 d1)
   .simp only[c2,aiS,acv,aaq];exact aJm (q+1,8,b1,d1.more 7 7,)
theorem T5{st:SortSt}{n nrem:Nat}{Q:Option Nat->SortSt->Prop}(h0:IntKeys a₀)(hr:jH ρ a₀ 0)(hn:nrem<=a₀.size)(hnn:n+1<=nrem)(hB:SBase a₀ st)(hs:DI ρ (arrOf st) (n+1) 0)
  (h:∀m st',SBase a₀ st'->1<=m->m<=nrem->rX ρ (arrOf st') m->jH ρ (arrOf st') m->Q (!m) st'):wpS (model prog w) A E s (descPart n nrem) Q st:=by
 unfold descPart;refine apC (wpS_lift (atV (8,?_,)));refine apC (ZjF h0 hn hnn hB hs λm q st1 b1 m2 d1=>?_);dsimp only;have hl:=d1.l;by_cases hq:q>0
 .rw [aS1 hq];let(r1,r2,):=d1.rev;exact apC (aEA (T6 h0 hr hn 7 m2 (b1.setArr (aWl _ _ _ _)) r1 r2 h))
 .rw [aWd hq];have e:q=0:=7
  subst e;exact T6 h0 hr hn 7 m2 b1 d1.IL (d1.f.mono 7) h
theorem Zij{st:SortSt}{nrem:Nat}{Q:Option Nat->SortSt->Prop}(h0:IntKeys a₀)(hr:jH ρ a₀ 0)(hn:nrem<=a₀.size)(h1:1<=nrem)(hB:SBase a₀ st)(hI:jH ρ (arrOf st) 0)
  (h:∀m st',SBase a₀ st'->1<=m->m<=nrem->rX ρ (arrOf st') m->jH ρ (arrOf st') m->Q (!m) st'):wpS (model prog w) A E s (countRun' 0 nrem) Q st:=by
 rw[countRun0_eq];have sz:=hB.size;refine apC (SO h0 hr hn (amA 1) h1 hB (λi j hij hj=>absurd hj 7) (hI.mono (aei _)) λn n1 n2 i1 hor=>?_);dsimp only;by_cases e:n=nrem
 .rw [aS1 (by simpa using e)];exact aJm (h n st hB n1 n2 i1 (hI.mono (aei _)))
 .rw [aWd (by simpa using e)];have lt:K (arrOf st) n<K (arrOf st) (n-1):=hor.resolve_left e;by_cases g:n>1
  .rw [aS1 g];refine apC (wpS_ltK hB h0 7 7 ?_);by_cases c:K (arrOf st) 0<K (arrOf st) (n-1)
   .simp only[c,amM,akf];exact aJm (h n st hB n1 n2 i1 (hI.mono (aei _)))
   .simp only[c,aiS,acv,aaq];have all:∀k,0<=k->k<n->K (arrOf st) k=K (arrOf st) (n-1):=by
     intro k _ hk;have a1:k=0\/iu ρ (arrOf st) 0 k:=by
      by_cases z:k=0
      .exact .inl z
      .exact .inr (i1 0 k 7 hk)
     have a2:k=n-1\/iu ρ (arrOf st) k (n-1):=by
      by_cases z:k=n-1
      .exact .inl z
      .exact .inr (i1 k (n-1) 7 7)
     have a3:=i1 0 (n-1) 7 7;unfold iu at a1 a2 a3;rcases a1 with a1|a1
     .subst a1;lia
     .rcases a2 with a2|a2
      .subst a2;rfl
      .lia
    have ke:=K_mirror_equal (xs:=arrOf st) (i:=0) (j:=n) 7 all;refine apC (aEA (T5 h0 hr hn 7 (hB.setArr (aWl _ _ _ _)) (DI.of 7 (by show n<(mirror _ _ _ _).size;rw[mirror_size];lia) (λi j hij hj=>?_) (λi hi hs=>?_) ?_) h))
    .show iu ρ (mirror (arrOf st) 0 n ((n-0)/2)) j i;unfold iu;rw[ke,ke,all i 7 7,all j 7 hj,AX 7,AX 7,aS1 7,aS1 7,hI _ 7 7,hI _ 7 7];lia
    .have hs':i<(mirror (arrOf st) 0 n ((n-0)/2)).size:=hs;rw[mirror_size]at hs';show Rk ρ (mirror (arrOf st) 0 n ((n-0)/2)) i=i;rw[AX 7,aWd 7];exact hI i 7 hs'
    .show K (mirror (arrOf st) 0 n ((n-0)/2)) n<K (mirror (arrOf st) 0 n ((n-0)/2)) (n-1);rw[ke,ke];exact lt
  .rw [aWd g];have en:n=1:=7
   subst en;exact T5 h0 hr hn 7 hB (DI.of 7 7 (λi j hij hj=>absurd hj 7) (hI.mono (aei _)) lt) h
def vY(ρ:Keyed->Nat)(a₀:Array Keyed)(st:SortSt):Prop:=(arrOf st).Perm a₀/\failedOf st=none/\pendingOf st=#[(0,a₀.size,0)]/\rX ρ (arrOf st) a₀.size
theorem vY.of{st:SortSt}(hB:SBase a₀ st)(hs:rX ρ (arrOf st) a₀.size):vY ρ a₀ (setPending st ((pendingOf st).push (0,a₀.size,0))):=
 (hB.perm,hB.failed,by show(pendingOf st).push _=_;rw[hB.pend];rfl,hs,)
theorem ZjG{st:SortSt}{Q:Unit->SortSt->Prop}(h0:IntKeys a₀)(hr:jH ρ a₀ 0)(hB:SBase a₀ st)(hI:jH ρ (arrOf st) 0)(h2:2<=a₀.size)(h64:a₀.size<64)
  (h:∀st',(arrOf st').Perm a₀->failedOf st'=none->rX ρ (arrOf st') a₀.size->Q () st'):wpS (model prog w) A E s sortRuns' Q st:=by
 rw[sortRuns'_eq];refine apC (aYo ?_);dsimp only;have mr:minRun' a₀.size a₀.size 0=a₀.size:=by
  obtain⟨f,hf⟩:∃f,a₀.size=f+1:=(a₀.size-1,7,);have e:minRun' (f+1) a₀.size 0=a₀.size:=by
   rw[minRun'_succ,aS1 h64];rfl
  rwa [<-hf]at e
 simp only[hB.size,mr];refine apC (a6d (aPz
  (I:=λx c st1=>(x=0/\c=(none,0)/\SBase a₀ st1/\jH ρ (arrOf st1) 0)\/(1<=x/\c=(none,a₀.size)/\vY ρ a₀ st1))
  (Q:=λc st1=>c=(none,a₀.size)/\vY ρ a₀ st1) ?turn ?last (.inl (8,8,hB,hI,))) ?after)
 case last=>
  rintro c st1 (⟨hx,_⟩|⟨_,hc,hD⟩)
  .lia
  .exact (hc,hD,)
 case turn=>
  rintro x c st1 _ hx (⟨rfl,rfl,b1,i1⟩|⟨Q6,rfl,hD⟩)
  .dsimp only;rw[aWd 7];simp only[Nat.sub_zero,Nat.min_self,a0f];refine apC (Zij h0 hr (amA _) 7 b1 i1 λm st2 b2 m1 m2 s2 d2=>?_);dsimp only;by_cases lt:m<a₀.size
   .rw [aS1 lt];refine apC (wpS_lift (atV (8,?_,)));refine apC (ZkM h0 hr (amA _) m2 m1 b2 s2 d2 λst3 b3 s3=>?_);simp only[aty,acv,aaq];refine apC (aYo ?_);have hb:(pendingOf st3).back?=none:=by
     rw[b3.pend];rfl
    rw[hb];dsimp only;exact apC (aRu (aJm (.inr (7,8,vY.of b3 s3,))))
   .rw [aWd lt];have em:m=a₀.size:=7
    subst em;refine apC (aYo ?_);have hb:(pendingOf st2).back?=none:=by
     rw[b2.pend];rfl
    rw[hb];dsimp only;exact apC (aRu (aJm (.inr (7,8,vY.of b2 s2,))))
  .dsimp only;rw[aS1 (amA _)];exact aJm (8,hD,)
 case after=>
  rintro c st1 ⟨rfl,hD⟩;dsimp only;refine apC (a6d (aPz (I:=λ_ c st2=>st2=st1/\c=(none,())) (Q:=λc st2=>st2=st1/\c=(none,())) ?_ (λ_ _ hh=>hh) (8,8,)) ?_)
  .rintro x c st2 _ _ ⟨rfl,rfl⟩;refine apC (aYo ?_);rw[aS1 (by rw[hD.2.2.1];exact amA 1)];exact aJm (8,8,)
  .rintro c st2 ⟨rfl,rfl⟩;exact aJm (h _ hD.1 hD.2.1 hD.2.2.2)
end
end L2.Vn
namespace L2
open PySem PySem.Spec PyProof.Rows
def BMod(base:Heap)(mg:Str->Option Value):Prop:=∃bm o,mg "__builtins__"=!(.ref bm)/\bm≠builtinsNs/\bm≠mainGlobals/\base.get? bm=!o/\o.cls=.type "module" /\o.dict=!builtinsNs/\o.data=.plain
section
variable{X:Cx}{pins:List (Addr×Obj)}{σ:St}{H:Hp}{s:Shared}
theorem Inv.grown{P c':Addr}{pos:Pos}{qual:Str}{ps:Array Value}{h':Heap}{tk:Nat}(I:Inv X pins σ H s)(hP:H P=!(.nQ pos qual))(hx:Heap.ExtBut P s.heap h')(hge:s.heap.objs.size<=c')(hrec:h'.CodeRec (.ref c') qual)
  (htr:TriplesOk ps.toList) (hnf:codeAmong pos ps.toList=none) (htb:h'.get? P=!{ cls:=.none,data:=.fields (ps++#[rawInt pos.line,rawInt pos.col,.ref c']) }) :
  ∃oc vs t,h'.get? c'=!oc/\oc.data=.fields vs/\vs[1]?=!(.str qual t)/\Inv X pins σ (upd H c' (.cQ oc (.own P))) { s with heap:=h',toks:=tk }:=by
 let(c,oc,vs,t,z,hoc,hd,hv,):=hrec;cases z;have fr:H c'=none:=I.hok.fresh hge;have nP:∀b,H b=none->b≠P:=λb n z=>by rw[z,hP]at n;cases n
 have nc:∀b u,H b=!u->b≠c':=λb u e=>Zd e fr;have nh:∀b o,s.heap.get? b=!o->b≠c':=λb o e=>abm (akN (ape e) hge);have cP:c'≠P:=λz=>by rw[z,hP]at fr;cases fr
 refine(oc,vs,t,hoc,hd,hv,I.step (g':=s.gens) (d':=s.drawn) (t':=tk) (ch:=[]) (h':=h') (H':=upd H c' (.cQ oc (.own P))) (λ_ z=>nomatch z) (λb o _ _ _ e n=>hx b o (nP b n) e) (λb o _ _ _ e n=>(o.slots,hx b o (nP b n) e,))
  (λb o _ e n=>by rw[Zc (nh b o e)];exact n) (λb o _ e=>?_) (λb xs e=>by rw[Zc (nc b _ e)];exact e) (λb o u e=>by rw[Zc (nc b _ e)];exact e) (λb p q e=>by rw[Zc (nc b _ e)];exact e) (λm hm=>?_) (λb u e=>?_) I.bare,)
 .by_cases hb:b=P
  .subst hb;exact(_,htb,)
  .exact (o,hx b o hb e,)
 .let(o,es,ep,ho,r,):=hm;exact(o,es,ep,hx _ o (nP _ I.free) ho,r,)
 .by_cases hb:b=c'
  .subst hb;rw[Za]at e;cases e;exact(hoc,_,hoc,)
  .rw [Zc hb]at e;by_cases Rr:b=P
   .subst Rr;rw[hP]at e;cases e;have e1:(ps++#[rawInt pos.line,rawInt pos.col,Value.ref c']).toList=ps.toList++[rawInt pos.line,rawInt pos.col,.ref c']:=5
    refine(_,htb,?_,λcv hc=>?_,)
    .rw [e1];exact TriplesOk_snoc _ _ _ _ htr
    .rw [e1,codeAmong_snoc _ htr hnf]at hc;cases hc;exact(c',oc,vs,t,8,Za,hd,hv,)
   .refine (I.hok b u e).stay (λd v hd' q=>hx d v ?_ q) (λd q=>by rw[Zc (nc d _ q)];exact q) (λd xs q=>by rw[Zc (nc d _ q)];exact q) λd oz q=>by rw[Zc (nc d _ q)];exact q
    rcases hd' with rfl|hd'
    .exact Rr
    .intro z;rw[z,hP]at hd';cases hd'
structure rT(X:Cx)(scope:Scope)(x:Str)(fr:List Str)(js:List Nat):Prop where
 kind:scope.kind=.function
 co:scope.isCoroutine=false
 gen:scope.isGenerator=false
 yj:∀y∈scope.names,y.2≠.cell
 par:scope.names.lookup x=!.local
 free:∀y∈scope.names,y.2=.free->X.env.kindOf y.1=!.cell\/X.env.kindOf y.1=!.free
 len:fr.length=js.length
 js:∀(k j:Nat),js[k]?=!j->fr[k]?=X.N[j]?
 jf:∀(k:Nat)(y:Str),fr[k]?=!y->scope.names.lookup y=!.free
def jR(X:Cx)(A:Around)(N:List Str)(qual:Str)(scope:Scope)(f:Addr)(cd:Value)(cl:List (Str×Addr))(s:Shared)(H:Hp):Cx where
 prog:=X.prog
 w:=X.w
 K:=X.K
 mg:=X.mg
 base:=X.base
 A:=A.deeper (W.envX qual scope s.heap.objs.size f cd cl)
 N:=N
 s₀:=s
 H₀:=H
 env:=W.envX qual scope s.heap.objs.size f cd cl
 outer:=X.stack
 stack:=W.envX qual scope s.heap.objs.size f cd cl ::X.stack
 ex:=[]
 calm:=true
 fn:=λ_=>false
 pn:=[]
 xe:=λ_ _=>False
theorem ZjH{A:Around}{x:Str}{fr:List Str}{js:List Nat}{qual:Str}{scope:Scope}{f:Addr}{cd:Value}{cl:List (Str×Addr)}{s1:Shared}{u:Value}{v:V}(c:rT X scope x fr js)(I:Inv X pins σ H s)(hA:A.frames=!X.stack)(hh:A.handled=none)
  (kj:∀x c,cl.lookup x=!c->X.env.cells.lookup x=!c) (p7:∀p∈scope.names,p.2=.free->∃c,cl.lookup p.1=!c) (r:RelV v u)
  (hn:s1.heap.Ns s.heap.objs.size λy=>[(x,u)].reverse.lookup y) (hk:∀b o,s.heap.get? b=!o->s1.heap.get? b=!o) (hos:s1.os=s.os) (hg:s1.gens=s.gens) :
  Inv (jR X A (x ::fr) qual scope f cd cl s H) [] (some v ::js.map λj=>(σ[j]?).join) H s1:=by
 have Dq:∀b:Addr,b∉(jR X A (x ::fr) qual scope f cd cl s H).ex:=λb z=>absurd (show b∈([]:List Addr) from z) 5;have ok:(jR X A (x ::fr) qual scope f cd cl s H).Ok:=by
  refine(I.ok.mod,c.kind,8,8,amA _,λy z d e1 e2=>I.ok.inj y z d (kj _ _ e1) (kj _ _ e2),λy hy=>?_,λy d z _=>absurd z (by simp[jR]),λ_=>hh,Around.frames_deeper hA,.inr (8,8,),λb z=>absurd z (Dq b),I.bs,atw I.ok.yN I.sz,λb _ _=>Dq b,λb z=>absurd z (Dq b),I.stack,I.oF,);have hy:scope.names.lookup y=!.cell\/scope.names.lookup y=!.free:=hy;rcases hy with hy|hy
  .exact absurd 8 (c.yj _ (ZT hy))
  .exact p7 _ (ZT hy) 8
 refine(ok,hos,by rw[hg];exact I.bare,Un.kept hk,(_,hn,λi y v' e1 e2 e3=>?_,),λy d e=>?_,I.hok.fresh (amA _),λy d e=>I.cC y d (kj y d e),λp hp=>absurd (show p∈([]:List (Addr×Obj)) from hp) 5,I.hok.kept hk,?_,)
 .cases i with
  |zero=>
   have lY:x=y:=by simpa[jR]using e1
   have vQ:v=v':=by simpa using e2
   subst lY;subst vQ;refine(u,r,.inl (c.par,?_,),);show([(x,u)]:List (Str×Value)).reverse.lookup x=!u;simp
  |succ k=>
   have lY:fr[k]?=!y:=by simpa[jR]using e1
   rw[a9k,a7o]at e2;cases q:js[k]? with
   |none=>rw[q]at e2;cases e2
   |some j=>
    rw[q]at e2;have vQ:(σ[j]?).join=!v':=by simpa using e2
    have e4:σ[j]?=!(!v'):=by
     cases z:σ[j]? with
     |none=>rw[z]at vQ;cases vQ
     |some o=>rw[z]at vQ;rw[show o=some v' from vQ]
    have NH:X.N[j]?=!y:=(c.js k j q).symm.trans lY;have hfr:=c.jf k y lY;have hk2:=c.free _ (ZT hfr) 8;have vis:JI X.env.scope y:=by
     rcases hk2 with z|z
     .exact .inr (.inl z)
     .exact .inr (.inr z)
    let(m,_,hl,):=I.loc;let(u',r',l,):=hl j y v' NH e4 vis;refine(u',r',?_,);rcases l with⟨z,_⟩|⟨_,d,e,⟨od,ho,hd⟩⟩
    .rcases hk2 with y'|y'
     .rw [show X.env.kindOf y=_ from z]at y';cases y'
     .rw [show X.env.kindOf y=_ from z]at y';cases y'
    .let(d',e',):=p7 _ (ZT hfr) 8;have z':=kj _ _ e';have:d'=d:=by rw[e]at z';exact(aZC z').symm
     subst this;exact .inr (.inr hfr,d',e',(od,hk _ _ ho,hd,),)
 .let(v',(o,ho,hd,),):=I.cell y d (kj y d e);exact(v',o,hk _ _ ho,hd,)
 .show (some v ::_:List (Option V)).length=(x ::fr).length;rw[aII,aII,aHJ,c.len]
theorem Zik{A:Around}{x:Str}{fr:List Str}{js:List Nat}{name qual:Str}{params:Arguments}{body:PySem.Expr}{scope:Scope}{f:Addr}{pm cd ct:Value}{cl:List (Str×Addr)}{u:Value}{v:V}{te:TE}{Q:VK}{E:Value->Shared->Prop}{of:Obj}(c:rT X scope x fr js)(I:Inv X pins σ H s)
  (hA:A.frames=!X.stack) (hh:A.handled=none) (NG:A.depth<recursionLimit)
  (kj:∀x c,cl.lookup x=!c->X.env.cells.lookup x=!c) (p7:∀p∈scope.names,p.2=.free->∃c,cl.lookup p.1=!c)
  (ho:s.heap.get? f=!of) (hof:of.data=.func (W.kla_fn name qual params body scope cl pm cd ct)) (hcd:s.heap.CodeRec cd qual)
  (hb:∀u,bindArgs (W.kla_fn name qual params body scope cl pm cd ct) ([u],[],)=pure [(x,u)]) (r:RelV v u)
  (he:∀s,PE (jR X A (x ::fr) qual scope f cd cl s H) body te) (h:te (some v ::js.map λj=>(σ[j]?).join) H Q) :
  wpAny (model X.prog X.w) A (call (.ref f) [u]) (EP X pins σ Q) E s:=by
 refine wpAny_call (aPr (R:=λr s'=>∃u',r=.ok (.ret u')/\CE X.stack X.prog X.w H s Q u' s') (W.kla_callFunE NG ho hof c.co c.gen 8 hcd (by
  rw[hb u];refine aO7 ?_;refine wpAny_newFunctionEnv c.yj (λy hy=>by rw[aU2.mp hy];exact c.par) (λh₁ hns mL=>?_) c.kind;have hk₁:∀b o,s.heap.get? b=!o->h₁.get? b=!o:=λb o e=>mL.extBut b o (abm (ape e)) (a47 _ e);refine(I.nolimit.keeps hk₁,?_,);have J:=ZjH (qual:=qual) (f:=f) (cd:=cd) (s1:={ s with heap:=h₁,toks:=s.toks+[(x,u)].length }) c I hA hh kj p7 r hns hk₁ 8 8;refine W.kla_codeExpr (bac (he s [] _ _ H Q J h) (λu' s' hq=>?_) λ_ _ z=>z.elim);let(v',H',J',rv,q,):=hq;exact(u',8,v',H',J'.os,J'.bare,J'.base,J'.hok,rv,q,))) λr s' hq=>?_)
 let(u',rfl,hq,):=hq;exact I.after hq
theorem Zil{P c0:Addr}{x:Str}{fr:List Str}{js:List Nat}{params:Arguments}{body:PySem.Expr}{scope:Scope}{pos:Pos}{R:Value->Shared->Prop}(c:rT X scope x fr js)(I:Inv X pins σ H s)(hc0:X.env.code=.ref c0)(hcd:W.codeHdIn X.K c0 P=true)
  (bm:BMod X.base X.mg) (hP:H P=!(.nQ pos (X.env.qual ++ "<lambda>"))) (hd0:params.defaults=[]) (hk0:params.kw_defaults=[])
  (h:∀f cl cd pm ct of H' s',Inv X pins σ H' s'->aA H H'->(∀x c,cl.lookup x=!c->X.env.cells.lookup x=!c)->(∀p∈scope.names,p.2=.free->∃c,cl.lookup p.1=!c) -> 
   H' f=!(.cQ of (.own 0))->of.data=.func (W.kla_fn "<lambda>" (X.env.qual ++ "<lambda>") params body scope cl pm cd ct)->(∃c' oc vs t,cd=.ref c'/\H' c'=!(.cQ oc (.own P))/\oc.data=.fields vs/\vs[1]?=!(.str (X.env.qual ++ "<lambda>") t))->R (.ref f) s') :
  wpAny (model X.prog X.w) X.A (eval (.Lambda params body scope pos) X.env) R X.xe s:=by
 let(cl,e1,kj,_,p7,):=JA (env:=X.env) scope.names [] (λp hp hf=>I.ok.has _ (c.free p hp hf)) (λx d e=>by simp at e);have hclos:closureFor scope X.env=pure cl:=by
  unfold closureFor;refine(aFk (λz=>z >>= λcs=>pure cs) e1).trans ?_;rfl
 have CH:=W.codeHd_of_K I.dw hcd;let(ps,hps,htr,hcode,):=(show aH X.prog X.w H s.heap P (.nQ pos (X.env.qual ++ "<lambda>")) from I.hok P _ hP);have hg:=I.ok.mod.glob.keeps I.bk;have hgP:mainGlobals≠P:=λq=>by
  let(o,es,ep,e,hd,_,):=hg;rw[q,hps]at e;cases e;cases hd
 have hb:s.heap.BuiltinsAt X.mg P:=by
  let(b,o,a1,a2,a3,a4,a5,a6,a7,):=bm;have e:=I.bk _ _ a4;exact(b,o,a1,a2,a3,(λz=>by rw[z,hps]at e;cases e;cases a5),e,a5,a6,a7,)
 rw[arm_eval_Lambda,defaultsOf_eq,hd0,hk0];show wpAny _ _ (do let dv <-evalAll (evalEach [] X.env);let Yb <-holding dv (evalAllOpt []);makeFunction "<lambda>" (X.env.qual ++ "<lambda>") params (.expr body) scope X.env dv Yb [] pos pos.line) _ _ s;refine ay1 (evalAll_nil ?_);refine ay1 (aXr (aO7 ?_));cases hf:codeAmong pos ps.toList with
 |some cv=>
  let(c',oc,vs,t,rfl,hH,hd,hv,):=hcode cv hf;refine W.kla_makeFunctionHit hclos I.ok.glob hg hc0 CH hps htr hf hb λctv h' tk hk hsz=>?_;have I1:=I.laid (a:=h'.objs.size) (t':=tk) (o:=.cQ { cls:=.type "function",data:=.func (W.kla_fn "<lambda>" (X.env.qual ++ "<lambda>") params body scope cl ((X.mg "__name__").getD .none) (.ref c') ctv) } (.own 0)) (h':=h'.push { cls:=.type "function",data:=.func (W.kla_fn "<lambda>" (X.env.qual ++ "<lambda>") params body scope cl ((X.mg "__name__").getD .none) (.ref c') ctv) }) (λb o e=>a47 _ (hk b o e)) hsz (a1M _ 8,_,a1M _ 8,);have fr:=I.hok.fresh hsz;exact h _ cl _ _ _ _ _ _ I1 (Zf fr _) kj p7 Za 8 (c',oc,vs,t,8,by rw[Zc (Zd hH fr)];exact hH,hd,hv,)
 |none=>
  refine W.kla_makeFunction hclos I.ok.glob hg hc0 CH hps htr hf hgP hb λc' ctv h' tk hx hge hlt hrec htb=>?_;let(oc,vs,t,hoc,hd,hv,I1,):=I.grown (tk:=tk) hP hx hge hrec htr hf htb;have fr:H c'=none:=I.hok.fresh hge;have IB:upd H c' (.cQ oc (.own P)) h'.objs.size=none:=I1.hok.fresh (amA _);have I2:=I1.laid (a:=h'.objs.size) (t':=tk) (o:=.cQ (W.kla_obj "<lambda>" (X.env.qual ++ "<lambda>") params body scope cl ((X.mg "__name__").getD .none) c' ctv) (.own 0)) (h':=h'.push (W.kla_obj "<lambda>" (X.env.qual ++ "<lambda>") params body scope cl ((X.mg "__name__").getD .none) c' ctv)) (λb o e=>a47 _ e) (amA _) (a1M _ 8,_,a1M _ 8,);exact h _ cl _ _ _ _ _ _ I2 ((Zf fr _).trans (Zf IB _)) kj p7 Za 8 (c',oc,vs,t,8,by rw[Zc (Zd Za IB)];exact Za,hd,hv,)
end
end L2
namespace L2
open PySem PySem.Spec PyProof.Rows L2.Vn
def Bf(key:Int->Int)(ns:List Int)(a b:Int):Prop:=key a<key b\/(key a=key b/\ns.idxOf a<ns.idxOf b)
theorem Zim{l:List Keyed}(h:∀p∈l,∃t,p.2=.int (numOf p.2) t):Vals ((l.map λp=>numOf p.2).map V.int) (l.map (·.2)):=by
 induction l with
 |nil=>exact .nil
 |cons p r ih=>
  let(t,e,):=h p aKq;exact .cons (t,e,) (ih λq hq=>h q (avG _ hq))
theorem O7{vs:List Value}{ns:List Int}(h:IntsAre vs ns):∀{i:Nat}{v:Value},vs[i]?=!v->∃n t,ns[i]?=!n/\v=.int n t:=by
 induction h with
 |nil=>intro i v e;simp at e
 |cons n t _ ih=>
  intro i v e;cases i with
  |zero=>exact(n,t,8,by simpa using e.symm,)
  |succ i=>exact ih (by simpa using e)
theorem SN:∀{ns:List Int},ns.Nodup->∀{i:Nat}{n:Int},ns[i]?=!n->ns.idxOf n=i
 | [],_,_,_,e=>by simp at e
 |x ::r,nd,0,n,e=>by
  have e':x=n:=by simpa using e
  subst e';simp
 |x ::r,nd,i+1,n,e=>by
  let(h1,h2,):=aPi.mp nd;have e':r[i]?=!n:=by simpa using e
  have ne:x≠n:=λz=>h1 (z ▸a1U e');rw[List.idxOf_cons,show(x ==n)=false by simpa using ne];show r.idxOf n+1=i+1;rw[SN h2 e']
theorem Uv{keys:Array Value}{vs:List Value}{ns:List Int}{key:Int->Int}(hk:IntsAre keys.toList (ns.map key))(hv:IntsAre vs ns)(nd:ns.Nodup) :
  jH (λp=>ns.idxOf (numOf p.2)) (keys.zip vs.toArray) 0/\∀xs:Array Keyed,xs.Perm (keys.zip vs.toArray)->rX (λp=>ns.idxOf (numOf p.2)) xs xs.size ->
   ∃os:List Int,Vals (os.map V.int) (xs.map (·.2)).toList/\os.Perm ns/\os.Pairwise (Bf key ns):=by
 have lk:keys.size=ns.length:=by have:=hk.length;rw[aRY,aHJ]at this;lia
 have lv:vs.length=ns.length:=by have:=hv.length;lia
 have N4:∀(i:Nat)(p:Keyed),(keys.zip vs.toArray)[i]?=!p->∃n t t',ns[i]?=!n/\p=(Value.int (key n) t,Value.int n t'):=λi p e=>by
  have e':(keys.toList.zip vs)[i]?=!p:=by rw[<-ksk_zip,aCG];exact e
  rw[List.getElem?_zip_eq_some]at e';let(n1,t1,q1,r1,):=O7 hk e'.1;let(n2,t2,q2,r2,):=O7 hv e'.2;rw[a7o,q2]at q1;have GJ:key n2=n1:=by simpa using q1
  exact(n2,t1,t2,q2,Prod.ext (by rw[r1,GJ]) r2,)
 have M5:∀p∈(keys.zip vs.toArray).toList,∃n t t',n∈ns/\p=(Value.int (key n) t,Value.int n t'):=λp hp=>by
  let(i,e,):=List.getElem?_of_mem hp;rw[aCG]at e;let(n,t,t',q,r,):=N4 i p e;exact(n,t,t',a1U q,r,)
 refine(λi _ hi=>?_,λxs hp hi=>?_,)
 .let(n,t,t',q,r,):=N4 i _ (aWP hi);unfold Rk;rw[aWP hi,r];show ns.idxOf n=i;exact SN nd q
 .have pm:=a1P.mp hp;have Dv:∀p∈xs.toList,∃n t t',n∈ns/\p=(Value.int (key n) t,Value.int n t'):=λp DK=>M5 p (pm.mem_iff.mp DK);refine(xs.toList.map λp=>numOf p.2,?_,?_,?_,)
  .rw [Array.toList_map];refine Zim λp DK=>?_;let(n,t,t',_,rfl,):=Dv p DK;exact(t',8,)
  .have e:(keys.zip vs.toArray).toList.map (λp=>numOf p.2)=ns:=by
    apply aNd;intro i;rw[a7o,aCG];by_cases hlt:i<(keys.zip vs.toArray).size
    .let(n,t,t',q,r,):=N4 i _ (aWP hlt);rw[aWP hlt,r,q];rfl
    .have lz:(keys.zip vs.toArray).size=ns.length:=by rw[Array.size_zip,lk,ahA,lv,Nat.min_self]
     rw[Array.getElem?_eq_none 7,aX6 7];rfl
   rw[<-e];exact pm.map _
  .rw [pairwise_iff_getElem];intro i j hi' hj' hij;have hi2:i<xs.size:=by simpa using hi'
   have hj2:j<xs.size:=by simpa using hj'
   have v:=hi i j hij hj2;let(n1,t1,t1',_,r1,):=Dv xs[i] 5;let(n2,t2,t2',_,r2,):=Dv xs[j] 5;have k1:K xs i=key n1:=by rw[K_eq hi2,r1];rfl
   have k2:K xs j=key n2:=by rw[K_eq hj2,r2];rfl
   have q1:Rk (λp=>ns.idxOf (numOf p.2)) xs i=ns.idxOf n1:=by unfold Rk;rw[aWP hi2,r1];rfl
   have q2:Rk (λp=>ns.idxOf (numOf p.2)) xs j=ns.idxOf n2:=by unfold Rk;rw[aWP hj2,r2];rfl
   have g1:(xs.toList.map λp=>numOf p.2)[i]=n1:=by simp[r1,numOf]
   have g2:(xs.toList.map λp=>numOf p.2)[j]=n2:=by simp[r2,numOf]
   rw[g1,g2];unfold iu at v;rw[k1,k2,q1,q2]at v;exact v
section
variable{X:Cx}{pins:List (Addr×Obj)}{σ:St}{H:Hp}{s:Shared}{d:Addr}{xs:List V}{o:Obj}
theorem Inv.zQ(I:Inv X pins σ H s)(h:H d=!(.cQ o (.lst xs)))(h0:∀o' u,X.H₀ d≠!(.cQ o' u)):Inv X pins σ (upd H d (.lst xs)) s:=by
 have ne:∀b u,H b=!u->u≠.cQ o (.lst xs)->b≠d:=λb u e n z=>by rw[z,h]at e;exact n (aZC e).symm
 have nn:∀b,H b=none->b≠d:=λb e z=>by rw[z,h]at e;cases e
 refine(I.ok,I.os,I.bare,(I.base.keep,I.base.slot,λb o' e n hx=>?_,I.base.there,λb ys e=>?_,λb o' u e=>?_,λb p r e=>?_,),I.loc,I.cell,?_,λx c e=>?_,λp hp=>?_,λb u e=>?_,I.len,)
 .have q:=I.base.free b o' e n hx;rw[Zc (nn b q)];exact q
 .have q:=I.base.tups b ys e;rw[Zc (ne b _ q (by intro z;cases z))];exact q
 .have q:=I.base.eZ b o' u e;rw[Zc (λz=>h0 o' u (by rw[<-z];exact e))];exact q
 .have q:=I.base.fk b p r e;rw[Zc (ne b _ q (by intro z;cases z))];exact q
 .rw [Zc (nn _ I.free)];exact I.free
 .rw [Zc (nn _ (I.cC x c e))];exact I.cC x c e
 .let(a1,a2,a3,):=I.pin p hp;exact(a1,by rw[Zc (nn _ a2)];exact a2,a3,)
 .by_cases hb:b=d
  .subst hb;rw[Za]at e;cases e;exact(I.hok b _ h).2
  .rw [Zc hb]at e;exact(I.hok b u e).stay (λ_ _ _ z=>z) (λc z=>by rw[Zc (ne c _ z (by intro y;cases y))];exact z) (λc ys z=>by rw[Zc (ne c _ z (by intro y;cases y))];exact z) λc oz z=>by rw[Zc (ne c _ z (by intro y;cases y))];exact z
theorem Uu{a kS:Addr}{st:SortSt}{e1:Nat}{H1:Hp}{ns:List Int}{key:Int->Int}{keys:Array Value}{its:List Value}{ks:List V}{A:Around}{E:Value->Shared->Prop}{R:PySem.Fin->Shared->Prop}(I:Inv X pins σ H1 s)(hk:IntsAre keys.toList (ns.map key))(hv:IntsAre its ns)(nd:ns.Nodup)(h64:ns.length<64)
  (ha:H1 a=!(.cQ (seqObj "list" #[] e1) (.lst []))) (h0:∀o' u,X.H₀ a≠!(.cQ o' u)) (EW:H1 kS=!(.lst ks)) (hlk:ks.length<=64) (hp:(arrOf st).Perm (keys.zip its.toArray)) (hi:rX (λp=>ns.idxOf (numOf p.2)) (arrOf st) (arrOf st).size) (hf:failedOf st=none)
  (h:∀(H':Hp)(s':Shared)(os:List Int),Inv X pins σ H' s'->(∀b,b≠a->b≠kS->H' b=H1 b)->H' a=!(.lst (os.map V.int))->os.Perm ns->os.Pairwise (Bf key ns)->R (.done (.ret .none)) s') :
  wpAny (model X.prog X.w) A (ksk_tail a false e1 (.ref kS) st) R E s:=by
 have KL:a≠kS:=λz=>by rw[z,EW]at ha;cases ha
 let(os,vo,po,so,):=(Uv hk hv nd).2 _ hp hi;have lo:=po.length_eq;unfold ksk_tail;try dsimp only
 let(_,yu,n,rK,Ri,eK,):=I.pK EW;have lK:yu.length<=64:=by have:=rK.length;lia
 refine ay1 (azs eK 8 ?_ (by rw[ahA,a1n];lia) (aei _));have I6:=I.vK (t':=s.toks) (f:=λ_=>#[]) (its':=[]) (ys:=[]) EW eK 8 .nil (aei _);have Rt:upd H1 kS (.lst []) a=!(.cQ (seqObj "list" #[] e1) (.lst [])):=by rw[Zc KL];exact ha
 have oa:=(I6.hok a _ Rt).1;refine ay1 (wpAny_letGo ?_);refine ay1 (seqEpoch_at oa 8 ?_);have lo2:((arrOf st).map (·.2)).size=ns.length:=by
  have e:=vo.length;rw[aHJ]at e;have e2:((arrOf st).map (·.2)).toList.length=((arrOf st).map (·.2)).size:=aRY;lia
 refine ay1 (azs oa 8 ?_ (aei _) (by simp only[acv,aaq];rw[lo2,a1n];lia));rw[hf];simp only[bne_self_eq_false,acv,aaq];have I7:=I6.zQ Rt h0;have I8:=I7.vK (t':=s.toks) (f:=λ_=>(arrOf st).map (·.2)) (its:=[]) (its':=((arrOf st).map (·.2)).toList) (ys:=os.map V.int) Za oa (by exact(Array.toArray_toList).symm) vo (by rw[aHJ,a1n];lia);refine aO7 (h _ _ os I8 (λb n1 n2=>?_) Za po so);rw[Zc n1,Zc n1,Zc n2]
theorem ZjI{a kS:Addr}{e1:Nat}{H1:Hp}{ns:List Int}{key:Int->Int}{keys:Array Value}{its:List Value}{ks:List V}{A:Around}{E:Value->Shared->Prop}{R:PySem.Fin->Shared->Prop}(I:Inv X pins σ H1 s)(hk:IntsAre keys.toList (ns.map key))(hv:IntsAre its ns)(nd:ns.Nodup)(h64:ns.length<64)
  (ha:H1 a=!(.cQ (seqObj "list" #[] e1) (.lst []))) (h0:∀o' u,X.H₀ a≠!(.cQ o' u)) (EW:H1 kS=!(.lst ks)) (hlk:ks.length<=64)
  (h:∀(H':Hp)(s':Shared)(os:List Int),Inv X pins σ H' s'->(∀b,b≠a->b≠kS->H' b=H1 b)->H' a=!(.lst (os.map V.int))->os.Perm ns->os.Pairwise (Bf key ns)->R (.done (.ret .none)) s') :
  wpAny (model X.prog X.w) A (ksk_end a false its.toArray e1 (.ref kS) keys) R E s:=by
 have lk:keys.size=ns.length:=by have:=hk.length;rw[aRY,aHJ]at this;lia
 have lv:its.length=ns.length:=by have:=hv.length;lia
 have hzs:(keys.zip its.toArray).size=ns.length:=by rw[Array.size_zip,lk,ahA,lv,Nat.min_self]
 let(Q5,_,):=Uv hk hv nd;unfold ksk_end;simp only[acv,aaq];by_cases h2:its.toArray.size<2
 .rw [aS1 h2,aS1 h2];refine ay1 (aO7 ?_);rw[StateT.run_pure];refine ay1 (aO7 ?_);try dsimp only
  refine Uu (st:=SortSt.mk' general' (keys.zip its.toArray) #[] 07 none) I hk hv nd h64 ha h0 EW hlk (ao1 _) (λi j hij hj=>?_) 8 h;have hj2:j<(keys.zip its.toArray).size:=hj;rw[ahA]at h2;lia
 .rw [aWd h2,aWd h2];rw[ahA]at h2;rw[ksk_kind hk (by rw[lk];lia)];refine ay1 (aO7 ?_);refine ay1 (bac (ZjG (ρ:=λp=>ns.idxOf (numOf p.2)) (a₀:=keys.zip its.toArray) (st:=SortSt.mk' oneType' (keys.zip its.toArray) #[] 07 none)
   (Q:=λ_ st1=>(arrOf st1).Perm (keys.zip its.toArray)/\failedOf st1=none/\rX (λp=>ns.idxOf (numOf p.2)) (arrOf st1) (keys.zip its.toArray).size)
   (ksk_intKeys hk) Q5 (ao1 _,115,) Q5 (by rw[hzs];lia) (by rw[hzs];exact h64) λst1 a1 a2 a3=>(a1,a2,a3,)) ?_ λ_ _ e=>e)
  rintro⟨⟨⟩,st1⟩ s1 ⟨rfl,hp,hf,hs⟩;try dsimp only
  exact Uu I hk hv nd h64 ha h0 EW hlk hp (by rw[hp.size_eq];exact hs) hf h
theorem Zin{l f:Addr}{ns:List Int}{key:Int->Int}{Q:VK}{E:Value->Shared->Prop}(I:Inv X pins σ H s)(hq:au X.K H l (ns.map V.int))(h64:ns.length<64)(nd:ns.Nodup)
  (turn:∀z∈ns,∀H1 s1 u,aA H H1->Inv X pins σ H1 s1->RelV (.int z) u->wpAny (model X.prog X.w) X.A.in1.in1 (call (.ref f) [u]) (EP X pins σ λv H'=>v=.int (key z)/\H'=H1) (λ_ _=>False) s1)
  (q:∀(D:Addr)(H':Hp)(os:List Int),H D=none->aA H H'->H' D=!(.lst (os.map V.int))->os.Perm ns->os.Pairwise (Bf key ns)->Q (.ref D) H') :
  wpAny (model X.prog X.w) X.A (call (.builtin "sorted") [.ref l] [(Str.ofString "key",.ref f)]) (EP X pins σ Q) E s:=by
 let(its,rv,pl,hz,):=I.list hq;have hv:=Pd rv;have lv:its.length=ns.length:=by have:=rv.length;rw[aHJ]at this;exact this.symm
 refine call_function_entry_kw kind_sorted plain_sorted entry_sorted (ksk_s1 _ _) ?_;unfold Builtin.«sorted»;refine ay1 (m:=checkCount "sorted" 1 1 _) (aO7 ?_);refine ay1 (collect_list pl.isList ?_ (by rw[a1n];lia));refine ay1 (aXy ?_ (by rw[a1n];lia));have hsz:((s.heap.push (seqObj "list" #[] 0)).update s.heap.objs.size (Obj.mapSeq (·++its.toArray))).objs.size=s.heap.objs.size+1:=by
  rw[Heap.size_update,size_push']
 have pN:(((s.heap.push (seqObj "list" #[] 0)).update s.heap.objs.size (Obj.mapSeq (·++its.toArray))).push (seqObj "list" its.toArray 0)).get? (s.heap.objs.size+1)=!(seqObj "list" its.toArray 0):=by
  rw[<-hsz];exact a1M _ 8
 have keep:∀b o,s.heap.get? b=!o->(((s.heap.push (seqObj "list" #[] 0)).update s.heap.objs.size (Obj.mapSeq (·++its.toArray))).push (seqObj "list" its.toArray 0)).get? b=!o:=λb o e=>by
  have lt:b<s.heap.objs.size:=ape e;rw[a68 _ _ _ (by rw[hsz];exact abm (aUl lt)),Heap.get?_update_ne _ _ _ _ (abm lt),a68 _ _ _ (abm lt)];exact e
 show wpAny _ _ _ _ _ { s with heap:=((s.heap.push (seqObj "list" #[] 0)).update s.heap.objs.size (Obj.mapSeq (·++its.toArray))).push (seqObj "list" its.toArray 0) };rw[hsz];have hsz1:(((s.heap.push (seqObj "list" #[] 0)).update s.heap.objs.size (Obj.mapSeq (·++its.toArray))).push (seqObj "list" its.toArray 0)).objs.size=s.heap.objs.size+2:=by rw[size_push',hsz]
 generalize((s.heap.push (seqObj "list" #[] 0)).update s.heap.objs.size (Obj.mapSeq (·++its.toArray))).push (seqObj "list" its.toArray 0)=h1 at *;refine ay1 (aXr (wpAny_call_entry_kw slot_list_sort (_,pN,8,) entry_list_sort ?body (ksk_l1 _ _)))
 case body=>
  show wpAny (model X.prog X.w) X.A.in1.in1 (Builtin.«list.sort» ([.ref (s.heap.objs.size+1)],[(Str.ofString "key",.ref f)],)) _ _ _;rw[ksk_t1];unfold ksk_tree;refine ay1 (listItems_at pN 8 ?_);refine ay1 (azs pN 8 ?_ (by rw[ahA,a1n];lia) (aei _));obtain⟨e1,Rf⟩:∃e1,(h1.update (s.heap.objs.size+1) (Obj.mapSeq λ_=>(#[]:Array Value))).get? (s.heap.objs.size+1)=!(seqObj "list" #[] e1):=(_,get?_update_seq pN λ_=>#[],);have HC:∀b o,s.heap.get? b=!o->(h1.update (s.heap.objs.size+1) (Obj.mapSeq λ_=>(#[]:Array Value))).get? b=!o:=λb o e=>by
   have lt:b<s.heap.objs.size:=ape e;rw[Heap.get?_update_ne _ _ _ _ (abm (aUl lt))];exact keep b o e
  generalize h1.update (s.heap.objs.size+1) (Obj.mapSeq λ_=>(#[]:Array Value))=h2 at *;refine ay1 (seqEpoch_at Rf 8 ?_);refine ay1 (wpAny_newTuple ?_ (by show its.length<=_;rw[a1n];lia));refine ay1 (aXy ?_ (aei _));refine aXr ?_;have fr:H (s.heap.objs.size+1)=none:=I.hok.fresh (Nat.le_succ _);have h0:∀o' u,X.H₀ (s.heap.objs.size+1)≠!(.cQ o' u):=λo' u e=>by rw[I.base.eZ _ _ _ e]at fr;cases fr
  have ho2:(h2.push (seqObj "tuple" its.toArray 0)).get? (s.heap.objs.size+1)=!(seqObj "list" #[] e1):=a47 _ Rf;have I3:=I.laid (a:=s.heap.objs.size+1) (t':=s.toks) (o:=.cQ (seqObj "list" #[] e1) (.lst [])) (h':=h2.push (seqObj "tuple" its.toArray 0)) (λb o e=>a47 _ (HC b o e)) (Nat.le_succ _) (ho2,aei _,[],e1,.nil,ho2,);have E1:=I3.hok.fresh (amA _);have I4:=I3.laid (t':=s.toks) (o:=.lst []) (h':=(h2.push (seqObj "tuple" its.toArray 0)).push (seqObj "list" #[] 0)) (λb o e=>a47 _ e) (amA _) (aei _,[],0,.nil,a1M _ 8,);have KL:s.heap.objs.size+1≠(h2.push (seqObj "tuple" its.toArray 0)).objs.size:=Zd Za E1;have sm:aA H (upd (upd H (s.heap.objs.size+1) (.cQ (seqObj "list" #[] e1) (.lst []))) (h2.push (seqObj "tuple" its.toArray 0)).objs.size (.lst [])):=(Zf fr _).trans (Zf E1 _);have RC:H (h2.push (seqObj "tuple" its.toArray 0)).objs.size=none:=(Zf fr _).free E1;have NC:upd (upd H (s.heap.objs.size+1) (.cQ (seqObj "list" #[] e1) (.lst []))) (h2.push (seqObj "tuple" its.toArray 0)).objs.size (.lst []) (h2.push (seqObj "tuple" its.toArray 0)).objs.size=!(.lst []):=Za;have ha0:upd (upd H (s.heap.objs.size+1) (.cQ (seqObj "list" #[] e1) (.lst []))) (h2.push (seqObj "tuple" its.toArray 0)).objs.size (.lst []) (s.heap.objs.size+1)=!(.cQ (seqObj "list" #[] e1) (.lst [])):=by rw[Zc KL];exact Za
  generalize upd (upd H (s.heap.objs.size+1) (.cQ (seqObj "list" #[] e1) (.lst []))) (h2.push (seqObj "tuple" its.toArray 0)).objs.size (.lst [])=H4 at *;show wpAny (model X.prog X.w) X.A.in1.in1 (ksk_rest (s.heap.objs.size+1) (.ref f) false its.toArray e1 (.ref (h2.push (seqObj "tuple" its.toArray 0)).objs.size)) _ _ { s with heap:=(h2.push (seqObj "tuple" its.toArray 0)).push (seqObj "list" #[] 0) };generalize(h2.push (seqObj "tuple" its.toArray 0)).objs.size=kS at *;generalize(h2.push (seqObj "tuple" its.toArray 0)).push (seqObj "list" #[] 0)=h4 at *;unfold ksk_rest;refine ay1 (atV ?_);rw[List.forIn_toArray];refine ay1 (ksk_fold (λi s1=>∃H1:Hp,Inv X pins σ H1 s1/\aA H H1/\H1 (s.heap.objs.size+1)=!(.cQ (seqObj "list" #[] e1) (.lst []))/\H1 kS=!(.lst (((ns.take i).map key).map V.int))) its 0 _
   (H4,I4,sm,ha0,NC,) ?step ?done)
  case step=>
   rintro j x s1 hx ⟨H1,I1,s1',a1,k1⟩;simp only[a0f]at k1 ⊢;let(z,t,hz',rfl,):=O7 hv hx;have hj:j<ns.length:=(au3.mp hz').1;refine ay1 (wpAny_attempt (bac (turn z (a1U hz') H1 s1 _ s1' I1 (t,8,)) (λv s2 he=>?_) λ_ _ hF=>hF.elim));let(v',H',I2,r2,rfl,rfl,):=he;try dsimp only
   let(_,yu,n,rK,Ri,eK,):=I2.pK k1;have lK:yu.length<=ns.length:=by
    have:=rK.length;rw[aHJ,aHJ,agt]at this;lia
   refine ay1 (azs eK 8 ?_ (by rw[ahA,a1n];lia) (by rw[Array.size_push,ahA,a1n];lia));have ek:ns.take (j+1)=ns.take j++[z]:=by rw[take_succ,hz'];rfl
   have I5:=I2.vK (t':=s2.toks) (f:=(·.push v)) (its':=yu++[v]) (ys:=((ns.take (j+1)).map key).map V.int) k1 eK 5 (by rw[ek,avl,avl];exact rK.append (.cons r2 .nil)) (by rw[aHJ,aHJ,agt,a1n];lia);refine aO7 (8,_,I5,λb o y=>?_,?_,Za,)
   .rw [Zc (Zd y RC)];exact s1' _ _ y
   .rw [Zc KL];exact a1
  case done=>
   rintro s1 ⟨H1,I1,s1',a1,k1⟩;rw[a0f,lv,take_length]at k1;let(_,yu,n,rK,Ri,eK,):=I1.pK k1;try dsimp only
   refine ay1 (listItems_at eK 8 ?_);refine ZjI (ns:=ns) (key:=key) I1 (by simpa using Pd rK) hv nd h64 a1 h0 k1 (by rw[aHJ,aHJ];lia) λH' s2 os I2 Qo hD po so=>(_,8,?_,);refine aO7 (_,8,.ref (s.heap.objs.size+1),H',I2,8,q _ H' os fr (λb o y=>?_) hD po so,);rw[Qo b (Zd y fr) (Zd y RC)];exact s1' _ _ y
end
end L2
namespace L2
open PySem PySem.Spec PyProof.Rows
structure pY(P:Program)(w:World)(K:W.Frag)(mg:Str->Option Value)(base:Heap)(C:Addr)(m:Str)(k:Nat)(ps:List Str)(sp:Sp):Prop where
 ex:∃(f:Addr)(fd:FuncData),aZ P w K mg base mJ k f fd ps sp/\Meth K C m f/\Binds K fd ps []
structure EC(P:Program)(w:World)(K:W.Frag)(mg:Str->Option Value)(base:Heap)(C:Addr)(x:Str)(k:Nat)(ps:List Str)(sp:Sp):Prop where
 ex:∃(f:Addr)(fd:FuncData),aZ P w K mg base mJ k f fd ps sp/\Mk K C f/\mg x=!(.ref C)/\Binds K fd ps []
section
variable{X:Cx}{x m:Str}{p pos apos:Pos}{e o:PySem.Expr}{es:List PySem.Expr}{ta:TE}{t:TA}{k:Nat}{ps:List Str}{sp:Sp}{C:Addr}
theorem Zj{pl:Sem Bool}(M:pY X.prog X.w X.K X.mg X.base C m k ps sp)(hr:aY k X.A)(c:p9 X.K C)(he:PE X o ta)(ha:PA X (e ::es) t)(hn:zP (e ::es):=by repeat' (first|exact True.intro|refine⟨?_,?_⟩))
  (ht:eval (.Call (.Attribute o m apos) (e ::es) [] pos) X.env=(do
   let ov <-eval o X.env
   standAt apos.atName
   let(f,first) <-holding [ov] (getMethod ov m pl)
   callWith pos f first (backTo pos (starEach (e ::es) X.env)) (backToKw pos (keywordEach [] X.env))):=by rfl) :
  PE X (.Call (.Attribute o m apos) (e ::es) [] pos) (tX C m sp [] E0 ta t):=by
 let(f,fd,F,hm,hb,):=M.ex;exact Zjt he c hm F hr hb .nil uM ha (yT hn.1) (CG hn.2) ht
theorem LO(M:EC X.prog X.w X.K X.mg X.base C x k ps sp)(hr:aY (k+1) X.A)(hg:Gl X x)(ha:PA X (e ::es) t)(hn:zP (e ::es):=by repeat' (first|exact True.intro|refine⟨?_,?_⟩))(hd:(x ==("__debug__":Str))=false:=by decide) :
  PE X (.Call (.Name x p) (e ::es) [] pos) (Bv C sp [] E0 t):=by
 let(f,fd,F,M',hm,hb,):=M.ex;exact Zju M' F hr hg hm hb .nil uM ha (hdb:=hd) (he:=yT hn.1) (hpl:=CG hn.2)
def WS:TS:=λ_ _ _=>False
theorem x9{st:Stmt}:PS X st WS:=λ_ _ _ _ _ _ h=>False.elim h
end
theorem oA.Xb{P:Program}{w:World}{K:W.Frag}{mg:Str->Option Value}{base:Heap}{x qual:Str}{st:Stmt}{f:Addr}{fd:FuncData}{N ps:List Str}{k:Nat}{sp:Sp}(F:oA K x qual st f fd)(S:d7 N ps (Zp st))(len:∀vs H Q E,sp vs H Q E->vs.length=ps.length)
  (hbody:∀(cdv:Value)(A:Around)(outer:List Env)(s:Shared)(H:Hp)(vs:List V)(Q:VK)(E:XK),fd.code=cdv->aY k (A.deeper (envOfC qual (Zp st) s.heap.objs.size f cdv))->sp vs H Q E ->
   ∃t,tP (gm mJ P w K mg base N qual (Zp st) f cdv A outer s H E).uP (ZG st) t/\t { nx:=λ_ H'=>Q .aN H',rt:=Q } (start N vs) H):aZ P w K mg base mJ (k+1) f fd ps sp:=by
 let(oc,od,kV,doc,pm,an,cdv,ct,osl,rfl,lk,hcd,):=F.ex;refine yI lk hcd S len λA outer s H vs Q E hr sV=>?_;let(t,h,q,):=hbody cdv A outer s H vs Q E 8 hr sV;exact(t,h.uP,q,)
theorem Zk{X:Cx}{K:W.Frag}{e:PySem.Expr}{f:Str}{pos:Pos}{ta:TE}(hK:X.K=K)(he:PE X e ta)(hb:attributeBase e f X.env (eval e X.env)=eval e X.env):PE X (.Attribute e f pos) (Gk K ta f):=by
 subst hK;exact Zkv he hb
def Hy(iN:Scope)(oN:List Str)(scope:Scope)(x:Str)(fr:List Str)(js:List Nat):Bool:=
 scope.kind == .function && (not (scope.isCoroutine)) && (not (scope.isGenerator)) && scope.names.all (λy=>y.2 != .cell) && scope.names.lookup x ==some .local &&
 scope.names.all (λy=>y.2 != .free || (iN.names.lookup y.1 ==some .cell || iN.names.lookup y.1 ==!.free)) && fr.length ==js.length &&
 (js.map λj=>oN[j]?) ==fr.map some && fr.all λy=>scope.names.lookup y ==!.free
theorem Zio{X:Cx}{iN:Scope}{oN:List Str}{scope:Scope}{x:Str}{fr:List Str}{js:List Nat}(h:Hy iN oN scope x fr js=true)(hs:X.env.scope=iN)(hN:X.N=oN):rT X scope x fr js:=by
 unfold Hy at h;simp only[aNn,am5,Bool.or_eq_true,aEg,bne_iff_ne,ne_eq,aRZ]at h;let((((((((h1,h2,),h3,),h4,),h5,),h6,),h7,),h8,),h9,):=h;refine(h1,h2,h3,h4,h5,λy hy hf=>?_,h7,λk j e=>?_,λk y e=>h9 y (a1U e),)
 .rcases h6 y hy with q|q
  .exact absurd hf q
  .show X.env.scope.names.lookup y.1=_\/X.env.scope.names.lookup y.1=_;rw[hs];exact q
 .rw [hN];have z:=aFk (λl=>l[k]?) h8;simp only[a7o,e,aLH]at z;cases q:fr[k]? with
  |none=>rw[q]at z;cases z
  |some y=>rw[q]at z;exact(aZC z).symm
theorem ZkN{A:Around}{k:Nat}{env:Env}(hr:aY k A):(A.in1.in1.deeper env).units+1<cLine:=by
 have:=hr.un;show A.units+1+1+3+1<cLine;lia
def SM(K:W.Frag)(P:Addr)(qS:Pos)(qual:Str)(js:List Nat)(te:TE)(σ:St)(Q:VK)(x:V)(H1:Hp):Prop:=∃(l:Addr)(ns:List Int)(key:Int->Int),x=.ref l/\au K H1 l (ns.map V.int)/\ns.length<64/\ns.Nodup/\H1 P=!(.nQ qS qual) /\
 (∀z∈ns,∀H2,aA H1 H2->te (some (.int z) ::js.map λj=>(σ[j]?).join) H2 λv H'=>v=.int (key z)/\H'=H2) /\
 ∀(D:Addr)(H':Hp)(os:List Int),H1 D=none->aA H1 H'->H' D=!(.lst (os.map V.int))->os.Perm ns->os.Pairwise (Bf key ns)->Q (.ref D) H'
def ZkO(K:W.Frag)(P:Addr)(qS:Pos)(qual:Str)(js:List Nat)(Ka te:TE):TE:=λσ H Q=>Ka σ H λx H1=>SM K P qS qual js te σ Q x H1
section
variable{X:Cx}
theorem Zip{K:W.Frag}{P c0:Addr}{k:Nat}{y:Str}{fr:List Str}{js:List Nat}{qual:Str}{params:Arguments}{body xs:PySem.Expr}{scope:Scope}{p pos qS kpos:Pos}{Ka te:TE}(hK:X.K=K)(hr:aY k X.A)(hcl:X.calm=true)(hg:Gl X "sorted")(hm:X.mg "sorted"=none)
  (c:rT X scope y fr js) (hc0:X.env.code=.ref c0) (hcd:W.codeHdIn X.K c0 P=true) (bm:BMod X.base X.mg) (hq:X.env.qual ++ "<lambda>"=qual) (hd0:params.defaults=[]) (hk0:params.kw_defaults=[])
  (hb:∀cl pm cd ct u,bindArgs (W.kla_fn "<lambda>" qual params body scope cl pm cd ct) ([u],[],)=pure [(y,u)]) (ha:PE X xs Ka)
  (he:∀f cd cl s H,PE (jR X X.A.in1.in1 (y ::fr) qual scope f cd cl s H) body te) (hn:zP [xs]:=by repeat' (first|exact True.intro|refine⟨?_,?_⟩)) :
  PE X (.Call (.Name "sorted" p) [xs] [(!"key",.Lambda params body scope qS,kpos,)] pos) (ZkO K P qS qual js Ka te):=by
 subst hK;subst hq;intro pins s σ H Q I h;refine ah6 (zE I hg hm boot_sorted ?_ 9 9);refine callWith_kw (tW ((pc ha Zb hn.1) pos pins s σ H (λvs H1=>match vs with| [x]=>SM X.K P qS (X.env.qual ++ "<lambda>") js te σ Q x H1|_=>False) I h) λus s1 vs H1 I1 r1 q1=>?_) (by rw[yT hn.1];rfl) (by rw[yT hn.1];rfl) 8 8
 match vs,r1,q1 with
 | [],_,z=>exact z.elim
 |_ ::_ ::_,_,z=>exact z.elim
 | [x],r1,q1=>
  let(l,ns,key,rfl,hS,h64,nd,hP,ht,q,):=q1;let(u,rfl,ru,):=vals1 r1;cases ru;show wpAny _ _ (evalAll [(do let v <-eval (.Lambda params body scope qS) X.env;standAt pos;pure v)]) _ _ s1;refine wpAny_evalAll_cons (ay1 (Zil c I1 hc0 hcd bm hP hd0 hk0 λf cl cd pm ct of H2 s2 I2 sm kj p7 hf hof hcode=>ay1 (aqc (aO7 (wpAny_evalAll_nil ?_)))));show wpAny _ _ (call (.builtin "sorted") [.ref l] [(Str.ofString "key",.ref f)]) _ _ s2;refine Zin I2 (sm.seq hS) h64 nd (λz hz H3 s3 u Mq I3 ru=>?_) λD H' os hD WV hl po so=>q D H' os (sm.free hD) (sm.trans WV) hl po so;have Xc:=(I3.hok f _ (Mq _ _ hf)).1;let(c',oc,vs',t',rfl,hc',hd',hv',):=hcode;have Xh:=(I3.hok c' _ (Mq _ _ hc')).1;exact Zik (A:=X.A.in1.in1) c I3 I3.ok.frames (I3.ok.hd hcl) hr.depth kj p7 Xc hof (c',oc,vs',t',8,Xh,hd',hv',) (hb cl pm _ ct) ru (λs=>he f _ cl s H3) (ht z hz H3 (sm.trans Mq))
end
theorem ZgN{P:Program}{w:World}{K:W.Frag}{mg mb:Str->Option Value}{CX:zj}{k:Nat}{fa a tp c0:Addr}{pos:Pos}{qual:Str}{fd:FuncData}{x:Str}{sp:Sp}{s₁:Shared}{vs:List Value}{ns:List Int}
  (KX:K.In s₁.heap) (hns:s₁.heap.Ns mainGlobals mg) (hb:s₁.heap.Ns builtinsNs mb) (YD:∀x:Str,x ≠ "__name__" ->mb x=bootBuiltins x) (hlim:s₁.heap.NoLimit) (hg:s₁.gens=#[])
  (ha:s₁.heap.get? a=!{ cls:=.type "list",data:=.seq vs.toArray }) (hi:IntsAre vs ns) (hl:ns.length<=sizeLine) (hr:aY k callerA)
  (htp:s₁.heap.get? tp=!{ cls:=.none,data:=.fields #[] }) (hch:W.codeHdIn K c0 tp=true) (YH:K.lookup tp=none)
  (hbm:BMod s₁.heap mg) (F:∀base:Heap,K.In base->base.Ns mainGlobals mg->BMod base mg->aZ P w K mg base CX k fa fd [x] sp) (hbind:∀(s:Shared)(u:Value),BindsTo s fd ([u],[],) [(x,u)])
  (sV:∀H:Hp,H tp=!(.nQ pos qual)->au K H a (ns.map V.int)->sp [.ref a] H (λv _=>v=.bl true) λ_ _ _=>False)
  (NJ:∀H e s',CX [] H s₁ (λ_ _ _=>False) e s'->False) :
  codeAny (model P w) callerA (.call (.ref fa) ([.ref a],[],)) (λr s'=>r=.ok (.ret (.bool true))/\OldK s₁.heap s'.heap/\s'.os=s₁.os/\AllBare s'.gens) s₁:=by
 have rv:=LH hi;have M8:=hi.length;have nat:a≠tp:=λz=>by rw[z,htp]at ha;cases ha
 have core:∀H:Hp,H tp=!(.nQ pos qual)->au K H a (ns.map V.int)->dU P w H s₁.heap->(∀b,H b≠none->b=tp\/(b=a/\∃o xs,H b=!(.cQ o (.lst xs))))->(H a≠none->K.lookup a=none) ->
   codeAny (model P w) callerA (.call (.ref fa) ([.ref a],[],)) (λr s'=>r=.ok (.ret (.bool true))/\OldK s₁.heap s'.heap/\s'.os=s₁.os/\AllBare s'.gens) s₁:=by
  intro H hT hS hok hA hK;have Xu:∀{b:Addr}{o:Obj}{es:Array DictEntry}{ep:Nat},s₁.heap.get? b=!o->o.data=.dict es ep->H b=none:=λ{b o es ep} e d=>by
   cases q:H b with
   |none=>rfl
   |some u=>
    rcases hA b (by rw[q];simp) with z|⟨z,_⟩
    .rw [z,htp]at e;cases e;cases d
    .rw [z,ha]at e;cases e;cases d
  have Kz:∀{b:Addr}{m:Str->Option Value},s₁.heap.Ns b m->(pP s₁.heap H).Ns b m:=λ{b m}(o,es,ep,e,d,r,)=>(o,es,ep,Pb e (Xu e d),d,r,);have Ru:K.In (pP s₁.heap H):=λb o e=>Pb (KX b o e) (by
   cases q:H b with
   |none=>rfl
   |some u=>
    rcases hA b (by rw[q];simp) with z|⟨z,_⟩
    .rw [z,YH]at e;cases e
    .have n:H a≠none:=by rw[<-z,q];simp
     rw[z,hK n]at e;cases e)
  have hM:Mod K mg (pP s₁.heap H):=(Ru,Kz hns,(mb,Kz hb,YD,),let(mc,h1,h2,):=hlim;(mc,Kz h1,h2,),);have e0:tU P w K mg (pP s₁.heap H) callerA [] s₁ H:=(8,hM,λb o e=>Zjl e,aMf (Zga _ _),trivial,λb hb=>absurd (show b∈([]:List Addr) from hb) 5,hok,.of_eq hg,);have hB:BMod (pP s₁.heap H) mg:=by
   let(b,o,a1,a2,a3,a4,a5,a6,a7,):=hbm;refine(b,o,a1,a2,a3,Pb a4 ?_,a5,a6,a7,);cases q:H b with
   |none=>rfl
   |some u=>
    rcases hA b (by rw[q];simp) with z|⟨z,_⟩
    .rw [z,htp]at a4;cases a4;cases a5
    .rw [z,ha]at a4;cases a4;have a8:Value.type "list"=Value.type "module":=a5;injection a8 with a8
     exact absurd a8 9
  refine aPr ((F _ Ru (Kz hns) hB).run callerA [] s₁ H ([.ref a],[],) [.ref a] [.ref a] _ _ hr e0 (hbind s₁ (.ref a)) (.cons 8 .nil) (sV H hT hS)) λr s' h=>?_;cases r with
  |error e=>exact(NJ H e s' h).elim
  |ok fl=>
   cases fl with
   |next=>exact False.elim h
   |brk=>exact False.elim h
   |cont=>exact False.elim h
   |ret u=>
    let(v,H',os,bare,un,Il,r',q,):=h;have q':v=.bl true:=q;subst q';obtain rfl:u=Value.bool true:=r';have tab:=(W.codeHd_of_K KX hch).tab htp;have t2:=Il tp _ (un.fk _ _ _ hT);let(ps,hps,_,):=t2;have old:∀b o,s₁.heap.get? b=!o->b≠tp->s'.heap.get? b=!o:=λb o e nb=>by
     cases q:H b with
     |none=>exact un.keep b o e q (by intro z;exact absurd (show b∈([]:List Addr) from z) 5) 5
     |some u=>
      rcases hA b (by rw[q];simp) with z|⟨_,ob,xs,z⟩
      .exact absurd z nb
      .have z2:=un.eZ b ob _ z;let(e1,_,):=hok b _ z;let(e2,_,):=Il b _ z2;rw[e]at e1;cases e1;exact e2
    refine(8,(λb o e=>?_,λb o e=>?_,),os,bare,)
    .by_cases nb:b=tp
     .subst nb;rw[htp]at e;cases e;exact .inr (.inl (tab.isCodeTable,8,#[],ps,8,by rw[hps];simp,))
     .exact .inl (old b o e nb)
    .by_cases nb:b=tp
     .subst nb;exact(_,hps,)
     .exact (o,old b o e nb,)
 have tb:∀H:Hp,aH P w H s₁.heap tp (.nQ pos qual):=λH=>⟨#[],htp,True.intro,λcv e=>by cases e⟩;cases hk:K.lookup a with
 |some o=>
  have e:=KX a o hk;rw[ha]at e;cases e;refine core (λb=>if b=tp then some (.nQ pos qual) else none) (aS1 8) (.inr (_,vs.toArray,_,hk,115,by rw[ahA,M8];exact hl,by simpa using rv,)) (λb u z=>?_) (λb z=>?_) λz=>absurd (aWd nat) z
  .by_cases hb:b=tp
   .have z':=(aS1 hb).symm.trans z;cases z';subst hb;exact tb _
   .have z':=(aWd hb).symm.trans z;cases z'
  .by_cases hb:b=tp
   .exact .inl hb
   .exact absurd (aWd hb) z
 |none=>
  refine core (λb=>if b=tp then some (.nQ pos qual) else if b=a then some (.cQ { cls:=.type "list",data:=.seq vs.toArray } (.lst (ns.map V.int))) else none) (aS1 8) (.inl (.inr ({ cls:=.type "list",data:=.seq vs.toArray },(aWd nat).trans (aS1 8),))) (λb u z=>?_) (λb z=>?_) λ_=>hk
  .by_cases hb:b=tp
   .have z':=(aS1 hb).symm.trans z;cases z';subst hb;exact tb _
   .have z':=(aWd hb).symm.trans z;by_cases hb2:b=a
    .have z2:=(aS1 hb2).symm.trans z';cases z2;subst hb2;exact(ha,by rw[aHJ];exact hl,vs,_,rv,ha,)
    .have z2:=(aWd hb2).symm.trans z';cases z2
  .by_cases hb:b=tp
   .exact .inl hb
   .by_cases hb2:b=a
    .exact .inr (hb2,_,_,(aWd hb).trans (aS1 hb2),)
    .exact absurd (by show(if b=tp then _ else if b=a then _ else none)=none;rw[aWd hb,aWd hb2]) z
theorem Ziq{l:W.OpenLaw}{n k:Nat}{q:Program}{loose:List Str}{XP:(Str->Option Value)->Heap->Prop}{YP:World->Heap->Prop}{d:DefRec}{K:Params->W.Frag}{CX:World->zj}{sp:World->Sp}{x:Str}{tp:Addr}{pos:Pos}{qual:Str}{G:World->Prop}
  (hn:l.most=!n) (hn2:n<=sizeLine) (hdf:d.params.defaults=[]) (hr:aY k callerA)
  (hY:∀(w:World)(h:Heap),YP w h->(K w.params).In h/\h.get? tp=!{ cls:=.none,data:=.fields #[] })
  (F:∀(w:World)(mg:Str->Option Value)(fa:Addr)(h:Heap),(K w.params).In h->h.Ns mainGlobals mg->mg d.name=!(.ref fa) ->
   G w/\(∃c0,W.codeHdIn (K w.params) c0 tp=true)/\(K w.params).lookup tp=none/\∃fd:FuncData,(∀(s:Shared)(u:Value),BindsTo s fd ([u],[],) [(x,u)]) /\
    ∀base:Heap,(K w.params).In base->base.Ns mainGlobals mg->BMod base mg->aZ l.prog w (K w.params) mg base (CX w) k fa fd [x] (sp w))
  (sV:∀(w:World)(H:Hp)(a:Addr)(ns:List Int),G w->ns.length<=n->H tp=!(.nQ pos qual)->au (K w.params) H a (ns.map V.int)->sp w [.ref a] H (λv _=>v=.bl true) λ_ _ _=>False)
  (NJ:∀(w:World)(H:Hp)(s:Shared)(e:Value)(s':Shared),CX w [] H s (λ_ _ _=>False) e s'->False) :
  W.WalkO q loose XP YP l.row.toRowW d [] (λf vs=>PySem.call f vs):=by
 refine VB.rj hn hdf λw s₀ s₁ mg mb fa o pm cd doc a vs ns G' Y ho hd hcd hmg hobj hints hlen hg=>?_;let(KX,htp,):=hY w _ Y;let(g,(c0,hc,),hk,fd,hb,hF,):=F w mg fa _ KX G'.T.g hmg;have hbm:BMod s₁.heap mg:=by
  let(bm,ob,b1,b2,b3,b4,b5,b6,):=G'.T.bmain;refine(bm,ob,b1,b2,λz=>?_,b3,b4,b5,b6,);let(o,es,ep,e,hd',_,):=G'.T.g;rw[z,e]at b3;cases b3;rw[hd']at b6;cases b6
 exact ZgN KX G'.T.g G'.T.b G'.T.builtins G'.T.nolimit hg hobj hints (atw hlen hn2) hr htp hc hk hbm hF hb (λH hT hS=>sV w H a ns g hlen hT hS) λH e s'=>NJ w H s₁ e s'
def af(K:W.Frag)(x:Str):Addr:=match W.nsIn K mainGlobals x with
 |some (!(.ref C))=>C
 |_=>0
def tabOf(K:W.Frag)(x m:Str):Addr:=match W.findIn K (.ref (af K x)) m with
 |some (!(.ref f))=>(match K.lookup f with
  |some (_,_,.func fd,_,)=>(match fd.code with
   | .ref c=>(match K.lookup c with
    |some (_,_,.fields vs,_,)=>(match(vs[11]?:Option Value) with
     |some (.ref P)=>P
     |_=>0)
    |_=>0)
   |_=>0)
  |_=>0)
 |_=>0
theorem Fj{K:W.Frag}{x:Str}{C:Addr}(h:W.nsIn K mainGlobals x=!(!(.ref C))):af K x=C:=by
 unfold af;rw[h]
theorem Zir{K:W.Frag}{x m:Str}{f c P:Addr}{oc:Value}{od:Option Addr}{fd:FuncData}{sl:Array (Option Value)}(h1:W.findIn K (.ref (af K x)) m=!(!(.ref f)))(h2:K.lookup f=!(oc,od,.func fd,sl,))(h3:fd.code=.ref c)
  (h4:W.codeHdIn K c P=true):tabOf K x m=P:=by
 unfold W.codeHdIn at h4;split at h4
 .rename_i vs _ hk;simp only[aNn]at h4;let(((((e1,_,),_,),_,),_,),_,):=h4;split at e1
  .rename_i P' h11;have hP:P'=P:=aEg.mp e1;subst hP;unfold tabOf;simp only[h1,h2,h3,hk,h11]
  .cases e1
 .cases h4
end L2
namespace L2
open PySem PySem.F PyProof.Rows PySem.MeetsSeq
variable{K:W.Frag}{X:Cx}{pins:List Pin}{σ:St}{H:Hp}{s:Shared}
theorem rC{e:PySem.Expr}{T:String}{r:V->List V->Hp->VK->Prop}{to:TE}{t:TA}(hK:X.K=K)(h:PE X e (Mj X.K T r to t)):PE X e (Mj K T r to t):=by
 subst hK;exact h
def Me:TS:=λ_ _ _=>False
end L2
namespace L2
open PySem PySem.Calls PyProof.Rows PySem.MeetsSeq PySem.W
variable{K:W.Frag}{X:Cx}{pins:List Pin}{σ:St}{H:Hp}{s:Shared}
inductive qD(xs:List V)(H:Hp)(Q:VK):Prop
 |mk (d:Addr) (kvs:List (Key×V)) (ns:List Int):xs=[.ref d]->H d=!(.dK kvs)->kvs.map Prod.fst=ns.map Sum.inl->ns.length<64->(∀(D:Addr)(os:List Int),H D=none->os.Perm ns->os.Pairwise (·<=·)->Q (.ref D) (upd H D (.lst (os.map V.int))))->qD xs H Q
theorem T4:∀{xs:List V}{us:List Value},xs.length=us.length->(∀(i:Nat) x u,xs[i]?=!x->us[i]?=!u->RelV x u)->Vals xs us
 | [],[],_,_=>.nil
 | [],_ ::_,h,_=>nomatch h
 |_ ::_,[],h,_=>nomatch h
 |x ::xs,u ::us,h,k=>.cons (k 0 x u 8 8) (T4 (by simpa using h) λi x' u' h1 h2=>k (i+1) x' u' (by simpa using h1) (by simpa using h2))
theorem SK:∀{kvs:List (Key×V)}{vs:List (Key×Value)},KV kvs vs->∀{i:Nat}{p:Key×V}{q:Key×Value},kvs[i]?=!p->vs[i]?=!q->p.1=q.1
 |_,_,.nil,_,_,_,h,_=>nomatch h
 |_,_,.cons r t,0,_,_,h1,h2=>by cases h1;cases h2;exact r.1
 |_,_,.cons r t,i+1,_,_,h1,h2=>SK (i:=i) t (by simpa using h1) (by simpa using h2)
theorem US{P:Program}{w:World}{kvs:List (Key×V)}{vs:List (Key×Value)}{ns:List Int}{acc:Array Value}(r:KV kvs vs)(e:kvs.map Prod.fst=ns.map Sum.inl)(h:ItemsOf (λi v=>∃k x,vs[i]?=!(k,x)/\(Zy P w).is k v=true) acc vs.length):IntsAre acc.toList ns:=by
 have lv:kvs.length=vs.length:=ab7 r;have ln:kvs.length=ns.length:=by have:=aFk List.length e;simpa using this
 refine Pd (T4 (by have l3:acc.toList.length=acc.size:=aRY;have l4:=h.1;rw[aHJ];lia) λi x u hx hu=>?_);rw[aCG]at hu;let(k,y,h1,h2,):=h.2 i u hu;have hi:i<kvs.length:=by rw[lv];exact(au3.mp h1).1
 have e1:=SK r (ais hi) h1;have e2:(kvs.map Prod.fst)[i]?=!k:=by rw[a7o,ais hi];exact aFk some e1
 rw[e,a7o]at e2;rw[a7o]at hx;cases g:ns[i]? with
 |none=>rw[g]at hx;cases hx
 |some z=>
  rw[g]at hx e2;cases hx;cases e2;exact Uw h2
theorem Vi(hc:X.calm=true):bw X (.builtin "sorted") qD:=by
 intro pins s σ H xs us Q I r h;let(d,kvs,ns,rfl,hd,hk,h64,q,):=h;let(u,rfl,rx,):=vals1 r;cases rx;let(hz,hs,vs,rv,hD,):=I.hok d _ hd;let(ep,hat,):=hD.dictAt;have hl:vs.length=ns.length:=by have l1:kvs.length=vs.length:=ab7 rv;have l2:=aFk List.length hk;simp at l2;lia
 refine call_function_entry kind_sorted plain_sorted entry_sorted (args_sorted1 _) ?_;unfold Builtin.«sorted»;refine ay1 (m:=checkCount "sorted" 1 1 _) (aO7 ?_);refine ay1 (kdu_collect (A:=X.A.in1) (kdl_dict (knd:=Zy X.prog X.w) (kvs:=vs) (ep:=ep) hs) (show X.A.in1.handled=none from I.ok.hd hc) hat (by rw[a1n];lia) λh' tk acc hk' hacc=>?_);have hI:=US rv hk hacc;have la:acc.toList.length=ns.length:=by rw[aRY,hacc.1,hl]
 refine ay1 (aXy ?_ (by rw[la,a1n];lia));have pN:(h'.push (seqObj "list" acc.toList.toArray 0)).get? h'.objs.size=!(seqObj "list" acc.toList.toArray 0):=a1M _ 8;have I1:=I.kept (t':=tk) hk';show wpAny _ _ _ _ _ { s with heap:=h'.push (seqObj "list" acc.toList.toArray 0),toks:=tk };refine ay1 (aXr (aqh slot_list_sort (_,pN,8,) entry_list_sort (list_sort_tree pN hI 7 λout ns' a1 a2 a3=>(_,8,?_,)) (args_list_sort _)));refine aO7 (_,8,?_,);let(e,he,):=sortedHeap_at (out:=out) pN;have fr:H h'.objs.size=none:=I1.hok.fresh (amA _);have lo:=a2.length_eq;refine(.ref h'.objs.size,_,I1.laid (a:=h'.objs.size) (t':=tk) (o:=.lst (ns'.map V.int)) (λb o z=>?_) (amA _) (by rw[aHJ,lo,a1n];lia,out.toList,e,LH a1,he,),8,q _ ns' fr a2 a3,);have z':h'.get? b=!o:=z;have lt:=ape z';rw[sortedHeap_old (abm lt) (by rw[size_push'];exact aUl lt),a68 _ _ _ (abm lt)];exact z'
theorem ZgP{K:W.Frag}{a:Addr}{xs:List V}{l:Addr}{g:TG}{tc:TT}{te:TE}{σ0:St}{H0:Hp}{Qf:Hp->Prop}(Pv:Nat->List V->St->Hp->Prop)(h0:Pv 0 [] σ0 H0)
  (hl:∀i ys σ' H',i<=xs.length->Pv i ys σ' H'->au K H' a xs)
  (hs:∀i x t ys σ' H',i<xs.length->xs[i]?=!x->ys.length<=i->Pv i ys σ' H'->H' t=none->g (.ref t) σ' (upd H' t (.tup [.int i,x])) λσ2 H3=>tc σ2 H3 λb H4=>if b=true then te σ2 H4 λy H5=>jd xs.length l Pv i ys σ2 y H5 else Bl xs.length Pv i ys σ2 H4)
  (hd:∀ys σ' H',ys.length<=xs.length->Pv xs.length ys σ' H'->Qf H') :
  ∃W:Nat->Nat->List V->St->Hp->Prop,(∃m,W 0 m [] σ0 H0)/\∀i m ys σ' H',W i m ys σ' H' ->
  ((CV K a).stop i H'/\Qf H')\/((CV K a).go i H'/\∀x H2,(CV K a).rY i H' x H2->g x σ' H2 λσ2 H3=>tc σ2 H3 λb H4=>
    if b=true then te σ2 H4 λy H5=>H5 l=!(.lst ys)/\ys.length<sizeLine/\∃m',m'<m/\W (i+1) m' (ys++[y]) σ2 (upd H5 l (.lst (ys++[y])))
    else ∃m',m'<m/\W (i+1) m' ys σ2 H4):=by
 refine(λi m ys σ' H'=>m=xs.length-i/\i<=xs.length/\ys.length<=i/\Pv i ys σ' H',(xs.length,8,aei _,amA _,h0,),?_,);rintro i m ys σ' H' ⟨rfl,hi,hy,p⟩;have q:=hl i ys σ' H' hi p;by_cases hlt:i<xs.length
 .refine .inr ((xs,xs[i],q,by simp[hlt],),λx H2 z=>?_,);let(t,u,ht,rfl,rfl,z1,):=z;exact hs i u t ys σ' _ hlt (z1 xs q) hy p ht
 .have e:i=xs.length:=7
  subst e;exact .inl ((xs,q,8,),hd ys σ' H' hy p,)
theorem AW{C:Addr}{m:Str}{k:Nat}{ps:List Str}{sp:Sp}{o:PySem.Expr}{ta:TE}{apos pos:Pos}{pl:Sem Bool}(M:pY X.prog X.w X.K X.mg X.base C m k ps sp)(hr:aY k X.A)(c:p9 X.K C)(he:PE X o ta)
  (ht:eval (.Call (.Attribute o m apos) [] [] pos) X.env=(do
   let ov <-eval o X.env
   standAt apos.atName
   let(f,first) <-holding [ov] (getMethod ov m pl)
   callWith pos f first (backTo pos (starEach [] X.env)) (backToKw pos (keywordEach [] X.env))):=by rfl) :
  PE X (.Call (.Attribute o m apos) [] [] pos) (tX C m sp [] E0 ta C0):=by
 let(f,fd,F,hm,hb,):=M;exact ZhV he c hm F hr hb .nil (λ_ _ _ _ _ _ _ z=>z.elim) ht
end L2
namespace L2
open PySem PySem.Calls PySem.Spec PyProof.Rows PySem.W
structure cD(P:Program)(w:World)(l:List Env)(H:Hp)(s:Shared)(H':Hp)(a C:Addr)(s':Shared):Prop where
 os:s'.os=s.os
 bare:AllBare s'.gens
 ex:∃(h0 B:Heap)(t:Addr),Un (frs l) [] H H' s.heap h0/\dU P w H' h0/\(∀b∈frs l,H' b=none/\∃o,h0.get? b=!o/\∀vs,o.data≠.fields vs) /\
  (∀b o,h0.get? b=!o->b∉frs l->((∃o1,s.heap.get? b=!o1)\/H' b≠none)->B.get? b=!o)/\Heap.FlyingW B l a (.ref C) (.ref t) s'.heap/\h0.UpToSlots s'.heap
section
variable{P:Program}{w:World}{l:List Env}{H H':Hp}{s s':Shared}{a C:Addr}
theorem cD.un(f:cD P w l H s H' a C s'):Un (frs l) [] H H' s.heap s'.heap:=by
 let(h0,B,t,u,hok,hf,hB,fl,up,):=f.ex;refine(λb o e n nf nx=>fl.1 _ _ (hB b o (u.keep b o e n nf nx) nf (.inl (o,e,))),λb o e n hb nx=>?_,u.free,λb o e nx=>?_,u.tups,u.eZ,u.fk,)
 .let(sl,e0,):=u.slot b o e n hb nx;let(_,o',e',hd,):=hf b hb;rw[e0]at e';cases e';let(sl2,e2,):=up b _ e0 hd;exact(sl2,e2,)
 .let(o0,e0,):=u.there b o e nx;by_cases hb:b∈frs l
  .let(_,o',e',hd,):=hf b hb;rw[e0]at e';cases e';let(sl2,e2,):=up b _ e0 hd;exact(_,e2,)
  .exact (o0,fl.1 _ _ (hB b o0 e0 hb (.inl (o,e,))),)
theorem cD.hok(f:cD P w l H s H' a C s'):dU P w H' s'.heap:=λb u e=>by
 let(h0,B,t,_,hok,hf,hB,fl,_,):=f.ex;have kp:∀c v,H' c≠none->h0.get? c=!v->s'.heap.get? c=!v:=λc v n ev=>fl.1 _ _ (hB c v ev (λz=>n (hf c z).1) (.inr n));refine(hok b u e).stay (λc v hc ev=>kp c v ?_ ev) (λ_ z=>z) (λ_ _ z=>z);rcases hc with rfl|hc
 .rw [e];exact Option.some_ne_none _
 .rw [hc];exact Option.some_ne_none _
end
def oE(P:Program)(w:World):zj:=λouter H s E e s'=>∃a C H',e=.ref a/\cD P w outer H s H' a C s'/\E (.ref C) (!a) H'
def XP(m:Prop)(X:Cx)(pins:List (Addr×Obj))(Ex:St->Hp->Addr->Addr->Prop)(e:Value)(s':Shared):Prop:=
 ∃a C σ H',e=.ref a/\Ex σ H' C a/\((∃H0 s0,Inv X pins σ H0 s0/\cD X.prog X.w X.stack H0 s0 H' a C s')\/(m/\∃s0 vs,Inv X pins σ H' s0/\s'.os=s0.os/\s'.gens=s0.gens/\Heap.MadeExcOf s0.heap s'.heap a (.ref C) vs))
def PX(m:Prop)(X:Cx)(st:Stmt)(t:(St->Hp->Addr->Addr->Prop)->TS):Prop:=
 ∀(pins:List (Addr×Obj))(s:Shared)(σ:St)(H:Hp)(D:Ends)(Ex:St->Hp->Addr->Addr->Prop),Inv X pins σ H s->t Ex D σ H->wpAny (model X.prog X.w) X.A (exec st X.env) (SP X pins D) (XP m X pins Ex) s
def zG(m:Prop)(X:Cx)(st:List Stmt)(t:(St->Hp->Addr->Addr->Prop)->TS):Prop:=
 ∀(pins:List (Addr×Obj))(s:Shared)(σ:St)(H:Hp)(D:Ends)(Ex:St->Hp->Addr->Addr->Prop),Inv X pins σ H s->t Ex D σ H->wpAny (model X.prog X.w) X.A (execs st X.env) (SP X pins D) (XP m X pins Ex) s
section
variable{X:Cx}
variable{m:Prop}
abbrev vX:=St->Hp->Addr->Addr->Prop
def LW(m:Prop)(X:Cx)(e:PySem.Expr)(t:vX->TE):Prop:=
 ∀(pins:List (Addr×Obj))(s:Shared)(σ:St)(H:Hp)(Q:VK)(Ex:vX),Inv X pins σ H s->t Ex σ H Q->wpAny (model X.prog X.w) X.A (eval e X.env) (EP X pins σ Q) (XP m X pins Ex) s
theorem GK{st:Stmt}{t:TS}(hx:∀e s,¬X.xe e s)(h:PS X st t):PX m X st (λ_=>t):=λpins s σ H D Ex I q=>bac (h pins s σ H D I q) (λ_ _ z=>z) λe s' z=>absurd z (hx e s')
theorem Uq{st:Stmt}{rest:List Stmt}{t u:vX->TS}(h1:PX m X st t)(h2:zG m X rest u):zG m X (st ::rest) (λEx=>vA (t Ex) (u Ex)):=by
 intro pins s σ H D Ex I h;refine aIK (bV (h1 pins s σ H { D with nx:=u Ex D } Ex I h) λf s1 q=>?_);cases f with
 |next=>let(σ',H',I',q',):=q;exact h2 pins s1 σ' H' D Ex I' q'
 |brk=>exact q
 |cont=>exact q
 |ret u=>exact q
theorem Ly{st:Stmt}{t:vX->TS}(h1:PX m X st t):zG m X [st] t:=by
 intro pins s σ H D Ex I h;refine aIK (bV (h1 pins s σ H D Ex I h) λf s1 q=>?_);cases f with
 |next=>exact aMM q
 |brk=>exact q
 |cont=>exact q
 |ret u=>exact q
theorem GL{c:PySem.Expr}{a b:List Stmt}{pos:Pos}{tc:TT}{t u:vX->TS}(hx:∀e s,¬X.xe e s)(hc:PT X c tc)(ha:zG m X a t)(hb:zG m X b u):PX m X (.If c a b pos) (λEx=>C3 tc (t Ex) (u Ex)):=by
 intro pins s σ H D Ex I h;refine wpAny_If (bac (hc pins s σ H _ I h) (λd s1 (H1,I1,q1,)=>?_) λe s' z=>absurd z (hx e s'));cases d with
 |true=>exact ha pins s1 σ H1 D Ex I1 (by rw[aS1 8]at q1;exact q1)
 |false=>exact hb pins s1 σ H1 D Ex I1 (by rw[aWd aqS]at q1;exact q1)
theorem T3{e:PySem.Expr}{te:vX->TE}{pos:Pos}(he:LW m X e te)(hs:swapsWith e none pos.line X.env=pure false:=by rfl):PX m X (.Expr e pos) (λEx=>Bw (te Ex)):=by
 intro pins s σ H D Ex I h;exact wpAny_Expr_any (fc (he pins s σ H _ Ex I h) λv s1 x H1 I1 r1 q1=>(σ,H1,I1,q1,)) I.quiet hs
def SJ(C:Addr)(m:Str)(sp:Sp)(ta:TE)(t:TA)(Ex:vX):TE:=λσ H Q=>ta σ H λx H1=>∃a dx fs,x=.ref a/\H1 a=!(.ins C dx fs)/\fs.lookup m=none /\
 t σ H1 λvs H2=>sp (x ::vs) H2 Q (λc a' H3=>∃C' a1,c=.ref C'/\a'=!a1/\Ex σ H3 C' a1)
theorem ZjJ{pins:List (Addr×Obj)}{σ:St}{H:Hp}{s:Shared}{Q:VK}{us:List Value}{vs:List V}{k:Nat}{f:Addr}{fd:FuncData}{ps:List Str}{sp:Sp}{Ex:vX}(F:aZ X.prog X.w X.K X.mg X.base (oE X.prog X.w) k f fd ps sp)(hr:aY k X.A)(hb:Binds X.K fd ps [])
  (I:Inv X pins σ H s) (r:Vals vs us) (h:sp vs H Q (λc a' H3=>∃C' a1,c=.ref C'/\a'=!a1/\Ex σ H3 C' a1)):wpAny (model X.prog X.w) X.A (call (.ref f) us) (EP X pins σ Q) (XP m X pins Ex) s:=by
 have hl:us.length=ps.length:=by rw[<-r.length];exact F.len _ _ _ _ h
 have hb':=hb s us I.dw (by rw[bdd];exact hl);rw[bdd]at hb';refine wpAny_call (aPr (F.run X.A X.stack s H (us,[],) us vs Q _ hr I.AQ hb' r h) λr s' hq=>?_);cases r with
 |error e=>
  let(a,C,H',rfl,fl,C',a1,e1,e2,q,):=hq;cases e1;cases e2;exact(a,C,σ,H',8,q,.inl (H,s,I,fl,),)
 |ok fl=>
  cases fl with
  |ret u=>exact I.after hq
  |next=>exact False.elim hq
  |brk=>exact False.elim hq
  |cont=>exact False.elim hq
theorem Zis{C:Addr}{mt:Str}{k:Nat}{f:Addr}{fd:FuncData}{ps:List Str}{sp:Sp}{o e:PySem.Expr}{es:List PySem.Expr}{ta:TE}{t:TA}{apos pos:Pos}{pl:Sem Bool}(hx:∀e s,¬X.xe e s)(he:PE X o ta)(c:p9 X.K C)(hm:Meth X.K C mt f)(F:aZ X.prog X.w X.K X.mg X.base (oE X.prog X.w) k f fd ps sp)(hr:aY k X.A)(hb:Binds X.K fd ps [])(ha:PA X (e ::es) t)
  (hst:starEach (e ::es) X.env=(false,eval e X.env) ::starEach es X.env) (hpl:(backTo pos (starEach es X.env)).any (·.1)=false)
  (ht:eval (.Call (.Attribute o mt apos) (e ::es) [] pos) X.env=(do
   let ov <-eval o X.env
   standAt apos.atName
   let(f,first) <-holding [ov] (getMethod ov mt pl)
   callWith pos f first (backTo pos (starEach (e ::es) X.env)) (backToKw pos (keywordEach [] X.env))):=by rfl) :
  LW m X (.Call (.Attribute o mt apos) (e ::es) [] pos) (SJ C mt sp ta t):=by
 intro pins s σ H Q Ex I h;have no:∀{A:Type}(e:Value)(s':Shared),X.xe e s'->XP m X pins Ex e s':=λe s' z=>absurd z (hx e s');refine W.methodCall_KW (pl:=pl) (bac (he pins s σ H _ I h) (λu s1 (x,H1,I1,rx,a,dx,fs,ex,ea,l,q,)=>?_) λe s' z=>absurd z (hx e s')) ht;subst ex;obtain rfl:u=Value.ref a:=rx;refine Pe I1 ea c hm l ?_;refine W.callWith_K (first:=[.ref a]) (h₀:=X.base) I.ok.mod.zv hm.kp (bac (ha pos pins s1 σ H1 _ I1 q) (λus s2 (vs,H2,I2,r,q2,)=>(I2.dw,?_,)) λe s' z=>absurd z (hx e s')) hst hpl;exact ZjJ (us:=.ref a ::us) (vs:=.ref a ::vs) F hr hb I2 (.cons 8 r) q2
end
theorem ZkP{X:Cx}{pins:List (Addr×Obj)}{σ:St}{H0 H':Hp}{s0:Shared}{h0:Heap}(I:Inv X pins σ H0 s0)(hex:X.ex=[])(u:Un (frs X.stack) [] H0 H' s0.heap h0):Un (frs X.outer) [] X.H₀ H' X.s₀.heap h0:=by
 have ib:=I.base;rw[hex]at ib;have ne:∀b o,X.s₀.heap.get? b=!o->b≠X.env.locals:=λb o e z=>by have q1:=ape e;have q2:=I.ok.above;rw[<-z]at q2;exact absurd q1 (Nat.not_lt.mpr q2)
 have st:∀b,b∈frs X.stack->b=X.env.locals\/b∈frs X.outer:=λb hb=>ajG.mp (I.gO b hb);have su:∀b,b∈frs X.outer->b∈frs X.stack:=λb hb=>by
  rcases I.ok.stk with e|⟨e,_⟩
  .rw [e];exact hb
  .rw [e];let(v,hv,hf,):=ano.mp hb;exact ano.mpr (v,.tail _ hv,hf,)
 refine(λb o e n nf nx=>u.keep b o (ib.keep b o e n nf nx) (ib.free b o e n nx) (λz=>(st b z).elim (ne b o e) nf) nx,λb o e n hb nx=>?_,λb o e n nx=>?_,λb o e nx=>?_,λb xs e=>u.tups _ _ (ib.tups _ _ e),λb o v e=>u.eZ _ _ _ (ib.eZ _ _ _ e),λb p q e=>u.fk _ _ _ (ib.fk _ _ _ e),)
 .let(sl,e1,):=ib.slot b o e n hb nx;let(sl2,e2,):=u.slot b _ e1 (ib.free b o e n nx) (su b hb) nx;exact(sl2,e2,)
 .let(o1,e1,):=ib.there b o e nx;exact u.free b o1 e1 (ib.free b o e n nx) nx
 .let(o1,e1,):=ib.there b o e nx;exact u.there b o1 e1 nx
theorem Zit{P:Program}{w:World}{K:W.Frag}{mg:Str->Option Value}{base:Heap}{N:List Str}{qual:Str}{scope:Scope}{f:Addr}{cd:Value}{A:Around}{outer:List Env}{s:Shared}{H:Hp}{E:XK}{pins:List (Addr×Obj)}{e:Value}{s':Shared}
  (x:XP True (gm (oE P w) P w K mg base N qual scope f cd A outer s H E).uP pins (λ_ H' C a=>E (.ref C) (!a) H') e s'):(gm (oE P w) P w K mg base N qual scope f cd A outer s H E).xe e s':=by
 let(a,C,σ,H',rfl,hE,h,):=x;rcases h with⟨H0,s0,I,fl⟩|⟨_,s0,vs,I,ho,hg,hx⟩
 .let(h0,B,t,u,hok,hf,hB,fw,up,):=fl.ex;have u2:=ZkP I 8 u;refine wpAny_leaves_onW (outer:=outer) I.ok.frames 8 fw λh' fw' up'=>(a,C,H',8,(fl.os.trans I.os,fl.bare,h0,B,t,u2,hok,λb hb=>hf b ?_,λb o e nf hor=>?_,fw',up.trans up',),hE,)
  .let(v,hv,hf',):=ano.mp hb;exact ano.mpr (v,.tail _ hv,hf',)
  .have nb:b∉frs (gm (oE P w) P w K mg base N qual scope f cd A outer s H E).uP.stack:=λz=>by
    rcases ajG.mp (I.gO b z) with e1|e1
    .rcases hor with⟨o1,e2⟩|n
     .have q1:=ape e2;have q2:=I.ok.above;rw[<-e1]at q2;exact absurd q1 (Nat.not_lt.mpr q2)
     .exact n (hf b z).1
    .exact nf e1
   refine hB b o e nb (hor.imp (λ(o1,e2,)=>?_) id);exact I.base.there b o1 e2 (λz=>nomatch z)
 .have E0:=I.AQ;have hin:∀env∈(gm (oE P w) P w K mg base N qual scope f cd A outer s H E).uP.stack,∀b,env.frame=!b->b∈frs (gm (oE P w) P w K mg base N qual scope f cd A outer s H E).uP.stack:=λenv he b hb=>ano.mpr (env,he,hb,);refine wpAny_leaves_madeW (outer:=outer) (base:=hideAll s0.heap (frs (gm (oE P w) P w K mg base N qual scope f cd A outer s H E).uP.stack)) I.ok.frames 8 (λb o q=>of_hideAll _ q) (funFrames_hide E0.gY hin) hx λh' t fw' tu nt up=>(a,C,H',8,(ho.trans I.os,by rw[hg];exact I.bare,s0.heap,_,t,I.base,I.hok,λb hb=>?_,λb o e nf hor=>?_,fw',(Heap.UpToSlots.of_keeps hx.keeps).trans up,),hE,)
  .have hb':b∈frs (gm (oE P w) P w K mg base N qual scope f cd A outer s H E).uP.stack:=by
    let(v,hv,hf',):=ano.mp hb;exact ano.mpr (v,.tail _ hv,hf',)
   let(_,o,e1,e2,):=E0.gY.mem hb';exact(E0.zw b hb',o,e1,e2,)
  .refine hideAll_get _ e λz=>?_;rcases ajG.mp (I.gO b z) with e1|e1
   .rcases hor with⟨o1,e2⟩|n
    .have q1:=ape e2;have q2:=I.ok.above;rw[<-e1]at q2;exact absurd q1 (Nat.not_lt.mpr q2)
    .exact n (E0.zw b z)
   .exact nf e1
theorem oA.MD{P:Program}{w:World}{K:W.Frag}{mg:Str->Option Value}{base:Heap}{x qual:Str}{st:Stmt}{f:Addr}{fd:FuncData}{N ps:List Str}{k:Nat}{sp:Sp}(F:oA K x qual st f fd)(S:d7 N ps (Zp st))(len:∀vs H Q E,sp vs H Q E->vs.length=ps.length)
  (hb:∀(cdv:Value)(A:Around)(outer:List Env)(s:Shared)(H:Hp)(vs:List V)(Q:VK)(E:XK),aY k (A.deeper (envOfC qual (Zp st) s.heap.objs.size f cdv))->sp vs H Q E ->
   ∃t,zG True (gm (oE P w) P w K mg base N qual (Zp st) f cdv A outer s H E).uP (ZG st) t/\t (λ_ H' C a=>E (.ref C) (!a) H') { nx:=λ_ H'=>Q .aN H',rt:=Q } (start N vs) H):aZ P w K mg base (oE P w) (k+1) f fd ps sp:=by
 let(oc,od,kV,doc,pm,an,cdv,ct,osl,rfl,lk,hcd,):=F.ex;refine yI lk hcd S len λA outer s H vs Q E hr sV=>?_;let(t,h,q,):=hb cdv A outer s H vs Q E hr sV;refine(t (λ_ H' C a=>E (.ref C) (!a) H'),λpins s1 σ H1 D I hw=>?_,q,);exact bac (h pins s1 σ H1 D _ (I.kL _) hw) (λ_ _ z=>z.dW) λe s' z=>Zit z
abbrev D6:List Value:=[.type "ValueError",.type "Exception",.type "BaseException",.type "object"]
structure Ei(K:W.Frag)(C:Addr):Prop where
 ex:∃(nm q:Str)(N:Addr)(bs bm:List Value)(hdct:Bool)(sn:List Str)(sub:List Value)(ab:Bool)(col:Option Bool)(dd:Option Addr)(k0 k1 k2 k3 k5:Option Value),
  K.lookup C=!(excClassObj nm q C N bs bm hdct sn sub ab col dd k0 k1 k2 k3 k5 "ValueError.__new__")/\W.tailIn K D6 bm=true/\W.nsOkIn K N=true/\W.nsIn K N "__init__"=!none
section
variable{X:Cx}
def ZjK(C:Addr)(t:TA)(Ex:vX):TS:=λ_ σ H=>t σ H λvs H1=>vs.length<=sizeLine/\∀a,Ex σ H1 C a
theorem Ziu{x:Str}{C:Addr}{np cpos pos:Pos}{e:PySem.Expr}{es:List PySem.Expr}{t:TA}(hx:∀e s,¬X.xe e s)(hc:X.calm=true)(hg:Gl X x)(hm:X.mg x=!(.ref C))(c:Ei X.K C)(ha:PA X (e ::es) t)
  (hst:starEach (e ::es) X.env=(false,eval e X.env) ::starEach es X.env:=by rfl) (hpl:(backTo cpos (starEach es X.env)).any (·.1)=false:=by rfl) (hd:(x ==("__debug__":Str))=false:=by decide) :
  PX True X (.Raise (!(.Call (.Name x np) (e ::es) [] cpos)) none pos) (ZjK C t):=by
 intro pins s σ H D Ex I h;let(nm,q,N,bs,bm,hdct,sn,sub,ab,col,dd,k0,k1,k2,k3,k5,hl,ht,hn,hi,):=c.ex;have T:=W.tail_of_in I.mod.zv ht;refine wpAny_Raise_call_subU (C:=C) (nm:=nm) (q:=q) (N:=N) (bs:=bs) (bm:=bm) (hdct:=hdct) (sn:=sn) (sub:=sub) (ab:=ab) (col:=col) (dd:=dd) (k0:=k0) (k1:=k1) (k2:=k2) (k3:=k3) (k5:=k5)
  F.excBase_ValueError 9 F.excBase_ValueError (mN:=X.base.nsMap N) (T.hasType F.excBase_ValueError.hasBase) (I.ok.hd hc) (by rw[hst];show(false || (backTo cpos (starEach es X.env)).any (·.1))=false;rw[hpl];rfl)
  (W.nsMap_none_of_in I.mod.zv hn hi) (Ff I hg hm (8,?_,) hd)
 have h1:=ha cpos pins s σ H _ I h;rw[hst]at h1 ⊢;refine aHi (bac h1 (λus s1 (vs,H1,I1,r,hv,q,)=>(8,?_,I1.dw _ _ hl,(Heap.Ns.of_isNs (W.isNs_of_in I.mod.zv hn)).keeps I1.bk,T.keeps I1.bk,λh' a M=>?_,)) λe s' z=>absurd z (hx e s'))
 .show us.length<=sizeLine;rw[<-r.length];exact hv
 .exact (a,C,σ,H1,8,q a,.inr (True.intro,s1,us,I1,8,8,M,),)
def Gj(ta:TE):TE:=λσ H Q=>ta σ H λx H1=>∃i:Int,x=.int i/\i.natAbs<2 ^ 100/\∀y:Str,Q (.str y) H1
theorem ZjL{a b:Str}{k1 k2:Nat}{p1 p2 p3 pos:Pos}{e:PySem.Expr}{ta:TE}(he:PE X e ta)(hl:a.length+b.length<=1000) :
  PE X (.JoinedStr [.Constant (.str a) k1 p1,.FormattedValue e (-1) none p2,.Constant (.str b) k2 p3] pos) (Gj ta):=by
 intro pins s σ H Q I h;refine wpAny_JoinedStr ?_;show Joins _ _ _ [eval (.Constant (.str a) k1 p1) X.env,eval (.FormattedValue e (-1) none p2) X.env,eval (.Constant (.str b) k2 p3) X.env] _ _ _;have hz:∀n,n<=3000->n<=sizeLine:=λn q=>atw q 9;refine Calls.Constant_str (a,_,8,?_,?_,)
 .rw [ao2];exact hz _ (by have:Str.empty.length=0:=8;lia)
 refine wpAny_FormattedValue_plain (bac (he pins _ σ H _ (I.tok _) h) (λu s1 (x,H1,I1,r,i,hx,hi,q,)=>?_) λ_ _ z=>z);subst hx;let(tk,rfl,):=r;have hd:i.natAbs.log2<1920:=by
  by_cases z:i.natAbs=0
  .rw [z];decide
  .exact akN ((Nat.log2_lt z).mpr hi) 9
 have hlen:(Str.ofString (toString i)).length<=1930:=by
  have e:=int_text_length_le (k:=1920) 9 hd;rw[PySem.ofString_length];lia
 refine wpAny_formatField_int hd (109,?_,?_,)
 .rw [ao2,ao2];refine hz _ ?_;have:Str.empty.length=0:=8;have h2:((toString i:String):Str).length<=1930:=hlen;lia
 refine Calls.Constant_str (b,_,8,?_,?_,?_,)
 .rw [ao2,ao2,ao2];refine hz _ ?_;have:Str.empty.length=0:=8;have h2:((toString i:String):Str).length<=1930:=hlen;lia
 .rw [ao2,ao2,ao2];refine hz _ ?_;have:Str.empty.length=0:=8;have h2:((toString i:String):Str).length<=1930:=hlen;lia
 .exact (.str _,H1,(((I1.tok _).tok _).tok _),(_,8,),q _,)
end
theorem aH.got{P:Program}{w:World}{H:Hp}{h:Heap}{a:Addr}{o:HO}(x:aH P w H h a o):∃ob,h.get? a=!ob:=by
 cases o with
 |lst xs=>let(_,_,_,_,e,):=x;exact(_,e,)
 |tup xs=>let(_,_,_,_,e,_,):=x;exact(_,e,)
 |dK kvs=>let(_,_,_,_,o,_,_,e,_,):=x;exact(_,e,)
 |dT kvs=>let(_,_,_,_,o,_,_,e,_,):=x;exact(_,e,)
 |set S n=>let(o,_,_,_,e,_,):=x;exact(_,e,)
 |ins C dx fs=>let(_,_,_,e,_,):=x;exact(_,e,)
 |own y=>let(_,e,):=x;exact(_,e,)
 |xd fs=>let(_,(_,_,_,e,_,),_,):=x;exact(_,e,)
 |Kn lo hi=>let(_,_,_,e,):=x;exact(_,e,)
 |cQ ob u=>let(e,_,):=x;exact(_,e,)
 |nQ p q=>let(_,e,_,):=x;exact(_,e,)
 |met f y=>exact(_,(show h.get? a=some _ from x),)
 |ext φ=>let(_,e,_,):=x;exact e
def KZ(a C:Addr):HO:=.ext λh=>∃ob,h.get? a=!ob/\ob.cls=.ref C
section
variable{P:Program}{w:World}{l:List Env}{H H':Hp}{s s':Shared}{a C:Addr}
theorem cD.got(f:cD P w l H s H' a C s'):∃ob,s'.heap.get? a=!ob/\ob.cls=.ref C:=by
 let(h0,B,t,u,hok,hf,hB,fl,up,):=f.ex;exact fl.there
theorem cD.fresh(f:cD P w l H s H' a C s'):H' a=none/\s.heap.get? a=none:=by
 let(h0,B,t,u,hok,hf,hB,fl,up,):=f.ex;let(oe,vs,he,_,hd,_,):=fl.first;have nf:a∉frs l:=λz=>by
  let(_,o,e0,nd,):=hf a z;let(sl,e1,):=up a o e0 nd;rw[he]at e1;cases e1;exact nd _ hd
 have nB:∀o,B.get? a=!o->False:=λo e=>by rw[fl.2.1]at e;cases e
 refine(?_,?_,)
 .cases e:H' a with
  |none=>rfl
  |some v=>let(o,eo,):=(hok a v e).got;exact(nB o (hB a o eo nf (.inr (by rw[e];exact Option.some_ne_none _)))).elim
 .cases e:s.heap.get? a with
  |none=>rfl
  |some v=>let(o,eo,):=u.there a v e (λz=>nomatch z);exact(nB o (hB a o eo nf (.inl (v,e,)))).elim
theorem cD.P7(f:cD P w l H s H' a C s'):Un (frs l) [] H (upd H' a (KZ a C)) s.heap s'.heap/\dU P w (upd H' a (KZ a C)) s'.heap:=by
 let(n1,n2,):=f.fresh;have u:=f.un;have ne:∀{b:Addr}{v:HO},H' b=!v->b≠a:=λq z=>by rw[z,n1]at q;cases q
 refine((u.keep,u.slot,λb o e n nx=>?_,u.there,λb xs e=>?_,λb o v e=>?_,λb p q e=>?_,),λb v e=>?_,)
 .rw [Zc (λz=>by rw[z,n2]at e;cases e)];exact u.free b o e n nx
 .rw [Zc (ne (u.tups b xs e))];exact u.tups b xs e
 .rw [Zc (ne (u.eZ b o v e))];exact u.eZ b o v e
 .rw [Zc (ne (u.fk b p q e))];exact u.fk b p q e
 .by_cases hb:b=a
  .subst hb;rw[Za]at e;cases e;let(ob,g,c,):=f.got;exact((ob,g,c,),(ob,g,),λh1 h2 (o,e,c,) k=>(o,k o e,c,),)
  .rw [Zc hb]at e;exact(f.hok b v e).stay (λc x _ q=>q) (λc q=>by rw[Zc (ne q)];exact q) (λc xs q=>by rw[Zc (ne q)];exact q) λc oz q=>by rw[Zc (ne q)];exact q
theorem cD.Ia{X:Cx}{pins:List (Addr×Obj)}{σ:St}(I:Inv X pins σ H s)(f:cD X.prog X.w X.stack H s H' a C s'):Inv X pins σ (upd H' a (KZ a C)) s':=
 I.Cu f.os f.P7.1 f.P7.2 f.bare (λb h=>nomatch h)
end
abbrev Cx.held(X:Cx)(a:Addr):Cx:={ X with A:=X.A.mark (!(.ref a)),calm:=false,xe:=λ_ _=>False }
section
variable{X:Cx}{pins:List (Addr×Obj)}{σ:St}{H H':Hp}{s s':Shared}{a C:Addr}
theorem Inv.held(I:Inv X pins σ H s)(a:Addr):Inv (X.held a) pins σ H s:=
 ((I.ok.mod,I.ok.kind,I.ok.glob,I.ok.blt,I.ok.above,I.ok.inj,I.ok.has,I.ok.E2,(λz=>nomatch z),I.ok.frames,I.ok.stk,I.ok.ID,I.ok.bs,I.ok.yN,I.ok.vI,I.ok.vN,I.ok.gY,I.ok.zw,),I.os,I.bare,I.base,I.loc,I.cell,I.free,I.cC,I.pin,I.hok,I.len,)
theorem Inv.CZ(I:Inv (X.held a) pins σ H s)(ok:X.Ok):Inv X pins σ H s:=
 (ok,I.os,I.bare,I.base,I.loc,I.cell,I.free,I.cC,I.pin,I.hok,I.len,)
theorem ZjM{M:Model}{A:Around}{E:Value->Shared->Prop}{i:Nat}{x:Str}{pos:Pos}{Q:Unit->Shared->Prop}(I:Inv X pins σ H s)(hN:X.N.Nodup)(hi:X.N[i]?=!x)(hk:X.env.kindOf x=!.local)
  (h:∀s',Inv X pins (σ.set i none) H s'->Q () s'):wpAny M A (do bindName X.env x .none;unbindBehindTheSuite X.env x pos) Q E s:=by
 let(m,hn,hl,):=id I.loc;have hcls:(X.env.scope.kind == .class || (X.env.scope.kind == .module && X.env.locals !=X.env.globals))=false:=by rw[I.ok.kind];rfl
 have AG:i<σ.length:=by rw[I.len];exact(au3.mp hi).1
 have uX:=I.uX;refine wpAny_nameGoes_keeps hk hn hcls λh' v hn' hs=>?_;let(oL,_,_,pN,_,):=id hn;have hok:dU X.prog X.w H h':=λb ob e=>by
  refine(I.hok b ob e).stay (λc w' hc q=>(hs.2 c ?_).trans q) (λ_ q=>q) λ_ _ q=>q;rintro rfl;rcases hc with rfl|hc
  .rw [I.free]at e;cases e
  .rw [I.free]at hc;cases hc
 refine h _ (I.ok,I.os,I.bare,(λb o e n hb hx=>?_,λb o e n hb hx=>?_,I.base.free,λb o e hx=>?_,I.base.tups,I.base.eZ,I.base.fk,),(_,hn',λj y v' e1 e2 e3=>?_,),λy c e=>?_,I.free,I.cC,λp hp=>?_,hok,by simpa using I.len,)
 .exact (hs.2 b (abm (akN (ape e) I.ok.above))).trans (I.base.keep b o e n hb hx)
 .let(sl,e1,):=I.base.slot b o e n hb hx;exact(sl,(hs.2 b (abm (akN (ape e) I.ok.above))).trans e1,)
 .let(o',e1,):=I.base.there b o e hx;exact(o',(hs.2 b (abm (akN (ape e) I.ok.above))).trans e1,)
 .by_cases hj:j=i
  .subst hj;rw[a8U AG]at e2;cases e2
  .rw [aL4 (aBl hj)]at e2;let(u',r',q,):=hl j y v' e1 e2 e3;refine(u',r',?_,);rcases q with⟨k,e⟩|⟨k,c,e,z⟩
   .refine .inl (k,?_,);have:y≠x:=λe=>hj (Pa hN e1 (e ▸hi));simp[this,e]
   .exact .inr (k,c,e,z.sameBut hs (uX y c e),)
 .let(w',z,):=I.cell y c e;exact(w',z.sameBut hs (uX y c e),)
 .let(e,n,ne,nf,d,):=I.pin p hp;exact((hs.2 p.1 ne).trans e,n,ne,nf,d,)
end
section
variable{X:Cx}
def Br(K:W.Frag)(D0:Addr)(i:Nat)(t:vX->TS)(u:TS):TS:=λD σ H=>
 t (λσ1 H1 C a=>W.exmOne K (.ref C) (.ref D0)=!true/\∀H2,H1 a=none->H2=upd H1 a (KZ a C)->u { nx:=λσ2 H3=>D.nx (σ2.set i none) H3,bk:=λ_ _=>False,ct:=λ_ _=>False,rt:=λ_ _=>False } (σ1.set i (!(.ref a))) H2) D σ H
theorem ZjN{body:List Stmt}{x n:Str}{D0:Addr}{i:Nat}{np hpos pos:Pos}{b0:Stmt}{suite:List Stmt}{t:vX->TS}{u:TS}(hf:X.env.frame=!X.env.locals)(EU:X.stack=X.env ::X.outer)(hg:Gl X x)(hm:X.mg x=!(.ref D0))
  (hN:X.N.Nodup) (hi:X.N[i]?=!n) (hl:X.env.scope.names.lookup n=!.local) (h:zG False X body t) (hs:∀a,tP (X.held a) (b0 ::suite) u) (hd:(x ==("__debug__":Str))=false:=by decide) :
  PS X (.Try body [.ExceptHandler (!(.Name x np)) (!n) (b0 ::suite) hpos] [] [] pos) (Br X.K D0 i t u):=by
 intro pins s σ H D I ht;refine wpAny_Try_except (bac (h pins s σ H D _ I ht) (λf s1 q=>?_) λe s1 q=>?_)
 .cases f with
  |next=>exact aMM q
  |_=>exact q
 obtain⟨a,C,σ1,H1,rfl,⟨hx,hk⟩,⟨H0,s0,I0,f⟩|⟨z,_⟩⟩:=q
 .have hfr:X.A.frames=!(X.env ::X.outer):=by rw[<-EU];exact I.ok.frames
  let(h0,B,tt,uu,hok,Ro,hB,fl,u0,):=f.ex;have RE:=fl;rw[EU]at RE;refine wpAny_looks_onW hfr hf RE λh4 Yt P6=>?_;refine wpAny_landsW Yt λh5 RD P5=>?_;have f5:∀tk,cD X.prog X.w X.stack H0 s0 H1 a C { s1 with heap:=h5,toks:=tk }:=λtk=>(f.os,f.bare,h0,B,tt,uu,hok,Ro,hB,by rw[EU];exact RD,(u0.trans P6).trans P5,);have I5:=((f5 s1.toks).Ia I0).held a;refine wpAny_handleBy_cons (codeAny_handlers_test (Ff I5 hg hm ?_ hd)) (by intro q;cases q);let(ob,hob,hc,):=(f5 s1.toks).got;have LT:W.Looks (model X.prog X.w) h5 (typeOf (.ref a)) (.ref C):=hc ▸(W.Looks.ld hob).andThen .now;refine(W.exm_one I5.dw LT hx).here (codeAny_handlers_suite_as ?_);refine lands_againW (show Heap.FlyingW B (X.env ::X.outer) a (.ref C) (.ref tt) h5 from RD) λh6 YQ WI=>?_;have f6:cD X.prog X.w X.stack H0 s0 H1 a C { s1 with heap:=h6 }:=(f.os,f.bare,h0,B,tt,uu,hok,Ro,hB,by rw[EU];exact YQ,((u0.trans P6).trans P5).trans WI,);have I6:=(f6.Ia I0).held a;refine JD (X:=X.held a) I6 hN hi (.inl hl) (v:=.ref a) 8 (λs7 I7=>?_) (.inr hl);refine bac (hs a pins s7 _ _ _ I7 (hk _ f.fresh.1 8)) (λfw s8 q=>?_) λe s8 q=>q.elim;cases fw with
  |next=>
   let(σ2,H2,I8,q,):=q;exact ZjM (I8.CZ I.ok) hN hi hl λs9 I9=>(_,_,I9,q,)
  |brk=>let(_,_,_,z,):=q;exact z.elim
  |cont=>let(_,_,_,z,):=q;exact z.elim
  |ret v=>let(_,_,_,_,_,z,):=q;exact z.elim
 .exact z.elim
end
end L2
namespace L2
open PySem PySem.Calls PySem.Spec PyProof.Rows PySem.W Builtin Builtin.ObjectAttr Builtin.Getset_descriptor
structure JH(K:W.Frag)(C:Addr):Prop where
 ga:W.findIn K (.ref C) "__getattribute__"=!(!(.builtin "BaseException.__getattribute__"))
 gn:W.findIn K (.ref C) "__getattr__"=!none
 mb:W.mroIn K C (.type "BaseException")=!true
 cl:(W.clsIn K C).isSome=true
 ha:W.findIn K (.ref C) "__class__"=!(!(.builtin "object.__class__"))
 hn:W.specialIn K (.builtin "object.__class__") "__get__"=!(!(.builtin "getset_descriptor.__get__"))
 ht:W.takesIn K (.builtin "object.__class__")=!true
 hm:W.mroIn K C (.type "object")=!true
end L2
namespace L2
open PySem PySem.Calls PySem.Spec PyProof.Rows PySem.W
def askIn(K:W.Frag)(C:Addr):Bool:=W.findIn K (.ref C) "__getattribute__"==some (!(.builtin "BaseException.__getattribute__")) && W.findIn K (.ref C) "__getattr__"==some none && W.mroIn K C (.type "BaseException") ==some true && (W.clsIn K C).isSome && W.findIn K (.ref C) "__class__"==some (!(.builtin "object.__class__")) && W.specialIn K (.builtin "object.__class__") "__get__"==some (!(.builtin "getset_descriptor.__get__")) && W.takesIn K (.builtin "object.__class__") ==some true && W.mroIn K C (.type "object") ==!true
theorem ZkQ{K:W.Frag}{C:Addr}(h:askIn K C=true):JH K C:=by
 unfold askIn at h;simp only[aNn,aEg]at h;let(((((((h0,h7,),h8,),h2,),h3,),h4,),h5,),h6,):=h;exact(h0,h7,h8,h2,h3,h4,h5,h6,)
theorem ZkR{K:W.Frag}{C:Addr}(h:W.excIn K C D6 "ValueError.__new__"=true):Ei K C:=by
 unfold W.excIn at h;split at h
 .rename_i dd cd sl hl;split at h
  .rename_i hm hs;simp only[aNn,aEg,aRZ]at h;let(((((h1,h2,),h3,),h4,),h5,),h6,):=h;subst h1 h2;cases cd;cases sl;simp only at hm hs h3 h5 h6;subst hm hs h3;exact(65636,hl,h4,h5,h6,)
  .cases h
 .cases h
def L0(K:W.Frag)(S:Addr)(Cs Ds:List Addr):Bool:=decide Cs.Nodup && Cs.all λC=>W.excIn K C D6 "ValueError.__new__" && askIn K C && W.exmOne K (.ref C) (.ref S) ==some true &&
 (Cs.all λD=>W.kitOne K (.ref C) (.ref D) ==!(decide (C=D))) && (Ds.all λD=>W.kitOne K (.ref C) (.ref D) ==!false) && W.kitOne K (.ref C) (.type "ValueError") ==!true
structure Vm(K:W.Frag)(S C:Addr)(Cs Ds:List Addr):Prop where
 n:Cs.Nodup
 c:Ei K C
 a:JH K C
 s:W.exmOne K (.ref C) (.ref S)=!true
 k:∀D∈Cs,W.kitOne K (.ref C) (.ref D)=!(decide (C=D))
 d:∀D∈Ds,W.kitOne K (.ref C) (.ref D)=!false
 v:W.kitOne K (.ref C) (.type "ValueError")=!true
theorem ZkS{K:W.Frag}{S C:Addr}{Cs Ds:List Addr}(h:L0 K S Cs Ds=true)(m:C∈Cs):Vm K S C Cs Ds:=by
 unfold L0 at h;rw[aNn,ada]at h;have q:=List.all_eq_true.mp h.2 C m;simp only[aNn,aEg,am5]at q;let(((((h1,h2,),h3,),h4,),h5,),h6,):=q;exact(h.1,ZkR h1,ZkQ h2,h3,h4,h5,h6,)
structure rS(P:Program)(w:World)(K:W.Frag)(mg:Str->Option Value)(base:Heap)(C:Addr)(m:Str)(k:Nat)(ps:List Str)(sp:Sp):Prop where
 ex:∃(f:Addr)(fd:FuncData),aZ P w K mg base (oE P w) k f fd ps sp/\Meth K C m f/\Binds K fd ps []
section
variable{P:Program}{w:World}{K:W.Frag}{mg:Str->Option Value}{base:Heap}{k:Nat}{f:Addr}{fd:FuncData}{ps:List Str}{sp Qj:Sp}
theorem aZ.rise(F:aZ P w K mg base mJ k f fd ps sp):aZ P w K mg base (oE P w) k f fd ps sp:=
 ⟨F.len,λA outer s H args us vs Q E hr he hb hv hs=>aPr (F.run A outer s H args us vs Q E hr he hb hv hs) λr s' q=>by
  cases r with
  |error e=>exact q.elim
  |ok fl=>
   cases fl with
   |ret u=>exact q
   |next=>exact q
   |brk=>exact q
   |cont=>exact q⟩
def sj(a b:Sp):Sp:=λvs H Q E=>a vs H Q E\/b vs H Q E
theorem aZ.or(F:aZ P w K mg base (oE P w) k f fd ps sp)(G:aZ P w K mg base (oE P w) k f fd ps Qj):aZ P w K mg base (oE P w) k f fd ps (sj sp Qj):=
 (λvs H Q E h=>h.elim (F.len vs H Q E) (G.len vs H Q E),λA outer s H args us vs Q E hr he hb hv hs=>hs.elim (F.run A outer s H args us vs Q E hr he hb hv) (G.run A outer s H args us vs Q E hr he hb hv),)
end
section
variable{X:Cx}{m:Prop}{mt:Str}{pos apos:Pos}{e o:PySem.Expr}{es:List PySem.Expr}{ta:TE}{t:TA}{k:Nat}{ps:List Str}{sp:Sp}{C:Addr}
theorem OV{pl:Sem Bool}(M:rS X.prog X.w X.K X.mg X.base C mt k ps sp)(hx:∀e s,¬X.xe e s)(hr:aY k X.A)(c:p9 X.K C)(he:PE X o ta)(ha:PA X (e ::es) t)(hn:zP (e ::es):=by repeat' (first|exact True.intro|refine⟨?_,?_⟩))
  (ht:eval (.Call (.Attribute o mt apos) (e ::es) [] pos) X.env=(do
   let ov <-eval o X.env
   standAt apos.atName
   let(f,first) <-holding [ov] (getMethod ov mt pl)
   callWith pos f first (backTo pos (starEach (e ::es) X.env)) (backToKw pos (keywordEach [] X.env))):=by rfl) :
  LW m X (.Call (.Attribute o mt apos) (e ::es) [] pos) (SJ C mt sp ta t):=by
 let(f,fd,F,hm,hb,):=M.ex;exact Zis hx he c hm F hr hb ha (yT hn.1) (CG hn.2) ht
theorem ZjO:zG m X [] (λ_=>dB):=λpins s σ H D Ex I q=>aMM (σ,H,I,q,)
theorem ZjP{l:List Stmt}:zG m X l (λ_=>Me):=λ_ _ _ _ _ _ _ h=>h.elim
end
theorem Ziv{X:Cx}{K:W.Frag}{body:List Stmt}{x n:Str}{D0:Addr}{i:Nat}{np hpos pos:Pos}{b0:Stmt}{suite:List Stmt}{t:vX->TS}{u:TS}(hK:X.K=K)(hf:X.env.frame=!X.env.locals)(EU:X.stack=X.env ::X.outer)(hg:Gl X x)(hm:X.mg x=!(.ref D0))
  (hN:X.N.Nodup) (hi:X.N[i]?=!n) (hl:X.env.scope.names.lookup n=!.local) (h:zG False X body t) (hs:∀a,tP (X.held a) (b0 ::suite) u) (hd:(x ==("__debug__":Str))=false:=by decide) :
  PS X (.Try body [.ExceptHandler (!(.Name x np)) (!n) (b0 ::suite) hpos] [] [] pos) (Br K D0 i t u):=by
 subst hK;exact ZjN hf EU hg hm hN hi hl h hs hd
structure JU(K:W.Frag)(C:Addr)(m:Str)(f:Addr):Prop where
 ga:W.specialIn K (.ref C) "__getattribute__"=!(!(.builtin "type.__getattribute__"))
 rd:∃mc,W.readsIn K C mc=true/\W.findCls K (.ref C) mc m=!(.val (.ref f))
 kp:W.keepIn K (.ref f)=true
structure EF(P:Program)(w:World)(K:W.Frag)(mg:Str->Option Value)(base:Heap)(x m:Str)(k:Nat)(ps:List Str)(sp:Sp):Prop where
 ex:∃(C f:Addr)(fd:FuncData),aZ P w K mg base mJ k f fd ps sp/\JU K C m f/\mg x=!(.ref C)/\Binds K fd ps []
section
variable{X:Cx}{x m:Str}{p pos apos:Pos}{e o:PySem.Expr}{es:List PySem.Expr}{ta:TE}{t:TA}{k:Nat}{ps:List Str}{sp:Sp}{C:Addr}
theorem ZjQ{pl:Sem Bool}(M:EF X.prog X.w X.K X.mg X.base x m k ps sp)(hr:aY k X.A)(hg:Gl X x)(ha:PA X (e ::es) t)(hn:zP (e ::es):=by repeat' (first|exact True.intro|refine⟨?_,?_⟩))(hd:(x ==("__debug__":Str))=false:=by decide)
  (ht:eval (.Call (.Attribute (.Name x p) m apos) (e ::es) [] pos) X.env=(do
   let ov <-eval (.Name x p) X.env
   standAt apos.atName
   let(f,first) <-holding [ov] (getMethod ov m pl)
   callWith pos f first (backTo pos (starEach (e ::es) X.env)) (backToKw pos (keywordEach [] X.env))):=by rfl) :
  PE X (.Call (.Attribute (.Name x p) m apos) (e ::es) [] pos) (tY sp [] E0 t):=by
 let(C,f,fd,F,c,hm,hb,):=M.ex;let(mc,hr1,hr2,):=c.rd;intro pins s σ H Q I h;have he:PE X (.Name x p) (tC (.ref C)):=TX (v:=.ref C) hg hm 8 hd;refine W.methodCall_KW (pl:=pl) (bV (he pins s σ H (λv H1=>v=.ref C/\H1=H) I (8,8,)) λu s1 (x,H1,I1,rx,e1,e2,)=>?_) ht;subst e1 e2;obtain rfl:u=Value.ref C:=rx;have I2:Inv X pins σ H1 { s1 with toks:=s1.toks+1 }:=I1.kept (t':=s1.toks+1) λb o e=>e;refine W.method_cls I1.dw c.ga (W.cls_value I1.dw hr1 hr2 8 ?_);refine W.callWith_K (first:=[]) (h₀:=X.base) I.ok.mod.zv c.kp (tW (ha pos pins _ σ H1 _ I2 h) λus s2 vs H2 I3 r q2=>(I3.dw,?_,)) (yT hn.1) (CG hn.2);exact Ll (us:=us) (vs:=vs) F hr hb .nil uM I3 r q2
end
theorem aY.m{j k:Nat}{A:Around}(r:aY k A)(h:j<=k:=by first|decide|lia):aY j A:=r.mono h
section
variable{X:Cx}{pos:Pos}
theorem bG(i:Nat){x:Str}(hN:X.N.Nodup)(hi:X.N[i]?=!x:=by rfl)(hx:Loc X.env.scope x:=by first|exact Or.inl rfl|exact Or.inr rfl)(hf:X.fn x=true\/X.env.scope.names.lookup x=!.local:=by first|exact .inl rfl|exact .inr rfl|assumption):PG X (.Name x pos) (fT i):=Zjm hN hi hx hf
theorem cO(i:Nat){x:Str}{e:PySem.Expr}{te:TE}{pos':Pos}(hN:X.N.Nodup)(he:PE X e te)(hi:X.N[i]?=!x:=by rfl)(hx:Loc X.env.scope x:=by first|exact Or.inl rfl|exact Or.inr rfl)(hs:swapsWith e (!(.Name x pos')) pos.line X.env=pure false:=by rfl)(hf:X.fn x=true\/X.env.scope.names.lookup x=!.local:=by first|exact .inl rfl|exact .inr rfl|assumption):PS X (.Assign [.Name x pos'] e pos) (vB te (fT i)):=Zks hN hi hx he hs hf
end
end L2
namespace L2
open PySem PySem.F PyProof.Rows
variable{K:W.Frag}{X:Cx}{pins:List (Addr×Obj)}{σ:St}{H H':Hp}{s:Shared}
def om:V->PyData->Prop
 | .aN,d=>d=.none
 | .bl b,d=>d=.bool b
 | .int i,d=>d=.int i/\i.natAbs.log2<1920
 | .str x,d=>d=.str x
 |_,_=>False
def A5(N:Addr->Prop)(H:Hp):Nat->V->PyData->Prop
 |0=>om
 |n+1=>λv d=>om v d\/∃a xs ds,v=.ref a/\¬N a/\Paired (A5 N H n) xs ds/\((H a=!(.lst xs)/\d=.list ds)\/(H a=!(.tup xs)/\d=.tuple ds))
theorem U9{h:Heap}{v:V}{d:PyData}{u:Value}(f:om v d)(r:RelV v u):Reads h u d []/\d.showable=true/\d.hasDict=false/\d.depth=0:=by
 cases v with
 |aN=>cases f;cases r;exact(.none,115,)
 |bl b=>cases f;cases r;exact(.bool b,115,)
 |int i=>
  let(rfl,z,):=f;let(t,rfl,):=r;exact(.int i t,by simp only[PyData.showable];exact a7Y z,8,8,)
 |str x=>cases f;let(t,rfl,):=r;exact(.str x t,115,)
 |_=>exact f.elim
theorem OU{h:Heap}{n:Nat}{F:V->PyData->Prop}(hF:∀v d u,F v d->RelV v u->∃as,Reads h u d as/\d.showable=true/\d.hasDict=false/\d.depth<=n) :
  ∀{xs:List V}{ds:List PyData}{us:List Value},Paired F xs ds->Vals xs us->∃as,ReadsAll h us ds as/\PyData.showableAll ds=true/\PyData.hasDictAll ds=false/\PyData.depthAll ds<=n
 |_,_,_,.nil,.nil=>([],.nil,8,8,aei _,)
 |_,_,_,.cons f p,.cons r q=>by
  let(as,r1,r2,r3,r4,):=hF _ _ _ f r;let(bs,t1,t2,t3,t4,):=OU hF p q;refine(as++bs,.cons r1 t1,?_,?_,?_,)
  .simp only[PyData.showableAll,r2,t2,Bool.and_self]
  .simp only[PyData.hasDictAll,r3,t3,Bool.or_self]
  .simp only[PyData.depthAll];exact Nat.max_le.mpr (r4,t4,)
theorem O6{N:Addr->Prop}(I:Inv X pins σ H s):∀(n:Nat){v:V}{d:PyData}{u:Value},A5 N H n v d->RelV v u->∃as,Reads s.heap u d as/\d.showable=true/\d.hasDict=false/\d.depth<=n
 |0,v,d,u,h,r=>let(a,b,c,e,):=U9 h r;([],a,b,c,aMf e,)
 |n+1,v,d,u,h,r=>by
  rcases h with h|⟨a,xs,ds,rfl,_,p,c⟩
  .let(a,b,c,e,):=U9 h r;exact([],a,b,c,by rw[e];exact aei _,)
  .cases r;rcases c with⟨c,rfl⟩|⟨c,rfl⟩
   .let(its,rv,(o,m,e,hc,_,hd,),_,):=I.list (au.of c);let(as,t1,t2,t3,t4,):=OU (λv d u f r=>O6 I n f r) p rv;refine(a ::as,.list e hc hd (by simpa using t1),?_,?_,?_,)
    .simp only[PyData.showable,t2]
    .simp only[PyData.hasDict,t3]
    .simp only[PyData.depth];lia
   .let(its,rv,(o,e,hc,m,hd,),_,):=I.tuple (aX.of c);let(as,t1,t2,t3,t4,):=OU (λv d u f r=>O6 I n f r) p rv;refine(as,.tuple e hc hd (by simpa using t1),?_,?_,?_,)
    .simp only[PyData.showable,t2]
    .simp only[PyData.hasDict,t3]
    .simp only[PyData.depth];lia
inductive BL(xs:List V)(H:Hp)(Q:VK):Prop
 |mk (N:Addr->Prop) (a:Addr) (n:Nat) (d:PyData):xs=[.ref a]->n<=10->A5 N H n (.ref a) d->d.shown.length<=sizeLine->Q (.str d.shown) H->BL xs H Q
theorem OT(hg:X.A.guards=![])(hu:X.A.units+1+20<cLine):bw X (.type "str") BL:=by
 intro pins s σ H xs us Q I r h;let(N,a,n,d,rfl,hn,hr,hz,q,):=h;let(u,rfl,rx,):=vals1 r;cases rx;let(as,rd,hs,hd,dp,):=O6 I n hr 8;exact str_of_reads rd hs (λz=>by rw[hd]at z;cases z) hg 7 (λ_ _ e=>e) (λh' u tk k=>(.str d.shown,H,I.kept k,(u,8,),q,)) hz
theorem OR{B:Nat}:∀{ds:List PyData},(∀d∈ds,d.shown.length<=B)->((PyData.shownAll ds).map (·.length)).sum<=ds.length*B/\(PyData.shownAll ds).length=ds.length
 | [],_=>(by simp[PyData.shownAll],by simp[PyData.shownAll],)
 |d ::ds,h=>by
  let(h1,h2,):=OR (ds:=ds) λe he=>h e (avG _ he);have h0:=h d (aKq ..);simp only[PyData.shownAll,aZ1,List.sum_cons,aII,h2];refine(?_,trivial,);rw[Nat.add_mul];lia
theorem U8{B m:Nat}{ds:List PyData}(h:∀d∈ds,d.shown.length<=B)(hm:ds.length<=m):(PyData.shown (.list ds)).length<=m*(B+2)+3:=by
 let(h1,h2,):=OR h;have h3:=listText_len_le (PyData.shownAll ds);simp only[PyData.shown];have h4:ds.length*(B+2)<=m*(B+2):=Nat.mul_le_mul_right _ hm;rw[Nat.mul_add]at h4;lia
theorem ZgR{B m:Nat}{ds:List PyData}(h:∀d∈ds,d.shown.length<=B)(hm:ds.length<=m):(PyData.shown (.tuple ds)).length<=m*(B+2)+3:=by
 let(h1,h2,):=OR h;have h3:=tupleText_len_le (PyData.shownAll ds);simp only[PyData.shown];have h4:ds.length*(B+2)<=m*(B+2):=Nat.mul_le_mul_right _ hm;rw[Nat.mul_add]at h4;lia
end L2
namespace L2
open PySem PySem.F PyProof.Rows PySem.MeetsSeq
variable{K:W.Frag}{X:Cx}
end L2
namespace L2.aE
open PySem PySem.Spec PyProof.Rows
structure RR where
 r:Keyed->Nat
 g:Keyed->Int
def Kg(ρ:RR)(xs:Array Keyed)(i:Nat):Int:=(xs[i]?).elim 0 ρ.g
theorem cN{ρ:RR}{xs ys:Array Keyed}{i j:Nat}(h:xs[i]?=ys[j]?):Kg ρ xs i=Kg ρ ys j:=by unfold Kg;rw[h]
theorem ow{ρ:RR}{xs:Array Keyed}{src d:Nat}(hs:src<xs.size)(hd:d<=src)(k:Nat) :
  Kg ρ (bubble xs src d) k=if k=src-d then Kg ρ xs src else if src-d<k/\k<=src then Kg ρ xs (k-1) else Kg ρ xs k:=by
 have e:=getElem?_bubble hs d hd k;by_cases c:k=src-d
 .rw [aS1 c]at e ⊢;exact cN e
 .by_cases c2:src-d<k/\k<=src
  .rw [aWd c,aS1 c2]at e ⊢;exact cN e
  .rw [aWd c,aWd c2]at e ⊢;exact cN e
theorem jG{ρ:RR}{xs:Array Keyed}{i j:Nat}(hj:j<=xs.size)(k:Nat) :
  Kg ρ (mirror xs i j ((j-i)/2)) k=if i<=k/\k<j then Kg ρ xs (i+j-1-k) else Kg ρ xs k:=by
 have e:=getElem?_mirror_all (i:=i) hj k;by_cases c:i<=k/\k<j
 .rw [aS1 c]at e ⊢;exact cN e
 .rw [aWd c]at e ⊢;exact cN e
theorem cy{ρ:RR}{xs:Array Keyed}{i j:Nat}(hj:j<=xs.size)(al:∀k,i<=k->k<j->Kg ρ xs k=Kg ρ xs (j-1))(k:Nat):Kg ρ (mirror xs i j ((j-i)/2)) k=Kg ρ xs k:=by
 rw[jG hj];by_cases c:i<=k/\k<j
 .rw [aS1 c,al _ 7 7,al k c.1 c.2]
 .rw [aWd c]
def kJ(prog:Program)(w:World)(A:Around)(s:Shared)(κ:SortKind)(ρ:RR)(a₀:Array Keyed):Prop:=
 ∀p,p∈a₀.toList->∀q,q∈a₀.toList->∀(E:Value->Shared->Prop)(Q:Bool->Shared->Prop),Q (decide (ρ.g p<ρ.g q)) s->wpAny (model prog w) A (keyLt' κ p.1 q.1) Q E s
end L2.aE
namespace L2
open PySem PySem.Spec PyProof.Rows
section
open PySem.SeqAt
open PySem.AutoSeq1 (wpAny_loadPart')
open PySem.MeetsSeq PySem.MeetsSeq2 PySem.MeetsSeq3
end
section
variable{prog:Program}{w:World}{A:Around}{E:Value->Shared->Prop}{s:Shared}
def se(h:Heap)(a:Addr)(us:List Value):Heap:=((h.update a (Obj.mapSeq λ_=>#[])).push (seqObj "tuple" us.toArray 0)).push (seqObj "list" #[] 0)
theorem Ziw{h:Heap}{a b:Addr}{us:List Value}{o:Obj}(n:b≠a)(e:h.get? b=!o):(se h a us).get? b=!o:=
 a47 _ (a47 _ (by rw[Heap.get?_update_ne _ _ _ _ n];exact e))
end
def Af:Value->Addr
 | .ref a=>a
 |_=>0
theorem Up{α:Type}:∀l:List α,l.zip l=l.map λv=>(v,v)
 | []=>rfl
 |x ::r=>by rw[List.zip_cons_cons,Up r];rfl
theorem U7(us:List Value):(pairsOf us).toList=us.map λv=>(v,v):=by
 unfold pairsOf;rw[Array.toList_zip];exact Up us
variable{K:W.Frag}{X:Cx}
end L2
namespace L2.A4
open PySem PySem.Spec PyProof.Rows
def Fc:Bool->Keyed->Array Keyed->Nat->Nat->Nat->StateT SortSt Sem (Option Nat):=sortPriv% PySem.Builtin.gallop
def ZV:Nat->StateT SortSt Sem Unit:=sortPriv% PySem.Builtin.setMinGallop
def O4:Array Keyed->Array Keyed->StateT SortSt Sem (Array Keyed):=sortPriv% PySem.Builtin.mergeLo
def OO:Array Keyed->Array Keyed->StateT SortSt Sem (Array Keyed):=sortPriv% PySem.Builtin.mergeHi
def Cv(left:Bool)(key:Keyed)(arr:Array Keyed)(base i:Nat):StateT SortSt Sem (Option Bool):=do
 let x <-elem' arr (base+i)
 if left then lt' x key else return (<-lt' key x).map (not ·)
def AN(left:Bool)(key:Keyed)(arr:Array Keyed)(base n XU hi0:Nat):StateT SortSt Sem (Option Nat):=do
 let mut lo:=XU
 let mut hi:=hi0
 for _ in[0:n] do
  if lo ≥ hi then break
  let m:=lo+(hi-lo)/2
  let some more <-Cv left key arr base m|return none
  if more then lo:=m+1 else hi:=m
 return !hi
def RA(left:Bool)(key:Keyed)(arr:Array Keyed)(base n hint:Nat):StateT SortSt Sem (Option Nat):=do
 let mut iX:=0
 let mut vH:=1
 for _ in[0:n] do
  if vH ≥ n-hint then break
  let some more <-Cv left key arr base (hint+vH)|return none
  if (not (more)) then break
  iX:=vH
  vH:=2*vH+1
 AN left key arr base n (hint+iX+1) (hint+min vH (n-hint))
def RB(left:Bool)(key:Keyed)(arr:Array Keyed)(base n hint:Nat):StateT SortSt Sem (Option Nat):=do
 let mut iX:=0
 let mut vH:=1
 for _ in[0:n] do
  if vH ≥ hint+1 then break
  let some found <-Cv left key arr base (hint-vH)|return none
  if found then break
  iX:=vH
  vH:=2*vH+1
 AN left key arr base n (hint+1-min vH (hint+1)) (hint-iX)
theorem ZfL(left:Bool)(key:Keyed)(arr:Array Keyed)(base n hint:Nat):Fc left key arr base n hint=(do
 let some right <-Cv left key arr base hint|return none
 if right then RA left key arr base n hint else RB left key arr base n hint):=rfl
theorem ZbI(g:Nat):ZV g=modify (λs=>SortSt.mk' (kindOf s) (arrOf s) (pendingOf s) g (failedOf s)):=rfl
theorem yM{σ α:Type}{M:Model}{A:Around}{E:Value->Shared->Prop}{s:Shared}{m m':StateT σ Sem α}{Q:α->σ->Prop}{st:σ}(e:m=m')(h:wpS M A E s m' Q st):wpAny M A (m st) (λr s'=>s'=s/\Q r.1 r.2) E s:=by subst e;exact h
section
variable{prog:Program}{w:World}{A:Around}{E:Value->Shared->Prop}{s:Shared}{a₀:Array Keyed}{κ:SortKind}{ρ:aE.RR}
theorem qR{st:SortSt}{p q:Keyed}{Q:Option Bool->SortSt->Prop}(hk:kindOf st=κ)(h0:aE.kJ prog w A s κ ρ a₀)(mp:p∈a₀.toList)(mq:q∈a₀.toList)(h:Q (!(decide (ρ.g p<ρ.g q))) st):wpS (model prog w) A E s (lt' p q) Q st:=by
 rw[lt'_eq];refine apC (aYo ?_);rw[hk];exact apC (wpS_lift (wpAny_attempt (h0 p mp q mq _ _ (8,aJm h,))))
theorem ZA{st:SortSt}{arr:Array Keyed}{i:Nat}{Q:Keyed->SortSt->Prop}(hi:i<arr.size)(h:Q arr[i] st):wpS (model prog w) A E s (elem' arr i) Q st:=by
 rw[elem'_eq,getElem?_pos arr i hi];exact aJm h
theorem bE{arr:Array Keyed}{i:Nat}(hi:i<arr.size):aE.Kg ρ arr i=ρ.g arr[i]:=by
 unfold aE.Kg;rw[getElem?_pos arr i hi];rfl
def Bd(ρ:aE.RR)(left:Bool)(kv:Int)(arr:Array Keyed)(base i:Nat):Bool:=if left then decide (aE.Kg ρ arr (base+i)<kv) else (not (decide (kv<aE.Kg ρ arr (base+i))))
theorem ZkT{st:SortSt}{left:Bool}{key:Keyed}{arr:Array Keyed}{base i:Nat}{Q:Option Bool->SortSt->Prop}(hk:kindOf st=κ)(h0:aE.kJ prog w A s κ ρ a₀)(ha:∀p∈arr.toList,p∈a₀.toList)(mk:key∈a₀.toList)(hi:base+i<arr.size)(h:Q (!(Bd ρ left (ρ.g key) arr base i)) st):wpS (model prog w) A E s (Cv left key arr base i) Q st:=by
 unfold Cv;refine apC (ZA hi ?_);have m:arr[base+i]∈a₀.toList:=ha _ 5;unfold Bd at h;rw[bE hi]at h;cases left with
 |true=>
  simp only[akf]at h ⊢;exact qR hk h0 m mk h
 |false=>
  simp only[acv,aaq]at h ⊢;exact apC (qR hk h0 mk m (aJm h))
structure Cut(ρ:aE.RR)(left:Bool)(kv:Int)(arr:Array Keyed)(base n k:Nat):Prop where
 le:k<=n
 lo:∀i,i<k->Bd ρ left kv arr base i=true
 hi:∀i,k<=i->i<n->Bd ρ left kv arr base i=false
def e8(ρ:aE.RR)(arr:Array Keyed)(a b:Nat):Prop:=∀i j,a<=i->i<=j->j<b->aE.Kg ρ arr i<=aE.Kg ρ arr j
theorem ZjR{left:Bool}{kv:Int}{arr:Array Keyed}{base n i j:Nat}(hs:e8 ρ arr base (base+n))(hij:i<=j)(hj:j<n)(h:Bd ρ left kv arr base j=true):Bd ρ left kv arr base i=true:=by
 have q:=hs (base+i) (base+j) 7 7 7;unfold Bd at h ⊢;cases left with
 |true=>
  simp only[akf,ada]at h ⊢;lia
 |false=>
  simp only[acv,aaq,aRZ,aCy]at h ⊢;lia
section
variable{st:SortSt}{left:Bool}{key:Keyed}{arr:Array Keyed}{base n:Nat}{Q:Option Nat->SortSt->Prop}{P:Nat->Bool}
theorem TZ{lo hi:Nat}(B:∀{i:Nat}{Q:Option Bool->SortSt->Prop},i<n->Q (!(P i)) st->wpS (model prog w) A E s (Cv left key arr base i) Q st)
  (up:∀{i j:Nat},i<=j->j<n->P j=true->P i=true) (dn:∀{i j:Nat},i<=j->j<n->P i=false->P j=false)
  (h:∀k,k<=n->(∀i,i<k->P i=true)->(∀i,k<=i->i<n->P i=false)->Q (!k) st)
  (Cn:lo<=hi) (Ys:hi<=n) (u1:∀i,i<lo->P i=true) (u2:∀i,hi<=i->i<n->P i=false):wpS (model prog w) A E s (AN left key arr base n lo hi) Q st:=by
 unfold AN;refine apC (a6d (aPz (I:=λx c st2=>st2=st/\∃l r,c=(none,l,r)/\l<=r/\r<=n/\r-l<=n-x/\(∀i,i<l->P i=true)/\(∀i,r<=i->i<n->P i=false))
  (Q:=λc st2=>st2=st/\∃r,c=(none,r,r)/\r<=n/\(∀i,i<r->P i=true)/\(∀i,r<=i->i<n->P i=false)) ?iturn ?ilast ?ifirst) ?iafter)
 case ifirst=>exact(8,lo,hi,8,Cn,Ys,7,u1,u2,)
 case ilast=>
  rintro c st2 ⟨rfl,l,r,rfl,hlr,hrk,hm,u1,u2⟩;have e:l=r:=7
  subst e;exact(8,l,8,hrk,u1,u2,)
 case iturn=>
  rintro x c st2 _ hxk ⟨rfl,l,r,rfl,hlr,hrk,hm,u1,u2⟩;dsimp only;by_cases hge:l ≥ r
  .rw [aS1 hge];have e:l=r:=7
   subst e;exact aJm (8,l,8,hrk,u1,u2,)
  .rw [aWd hge];refine apC (B 7 ?_);dsimp only;cases c:P (l+(r-l)/2) with
   |true=>
    rw[aS1 8];exact aJm (8,l+(r-l)/2+1,r,8,7,7,7,λi p=>up (j:=l+(r-l)/2) 7 7 c,u2,)
   |false=>
    rw[aWd 5];exact aJm (8,l,l+(r-l)/2,8,7,7,7,u1,λi p q=>dn p q c,)
 case iafter=>
  rintro c st2 ⟨rfl,r,rfl,Yk,u1,u2⟩;exact aJm (h r Yk u1 u2)
end
theorem Fo{st:SortSt}{left:Bool}{key:Keyed}{arr:Array Keyed}{base n hint:Nat}{Q:Option Nat->SortSt->Prop}(hk:kindOf st=κ)(h0:aE.kJ prog w A s κ ρ a₀)(ha:∀p∈arr.toList,p∈a₀.toList)(mk:key∈a₀.toList)(hb:base+n<=arr.size)(hh:hint<n)(hs:e8 ρ arr base (base+n))
  (h:∀k,Cut ρ left (ρ.g key) arr base n k->Q (!k) st):wpS (model prog w) A E s (Fc left key arr base n hint) Q st:=by
 rw[ZfL];have B:∀{i:Nat}{Q:Option Bool->SortSt->Prop},i<n->Q (!(Bd ρ left (ρ.g key) arr base i)) st->wpS (model prog w) A E s (Cv left key arr base i) Q st:=λ{i Q} hi hq=>ZkT hk h0 ha mk 7 hq;have up:∀{i j:Nat},i<=j->j<n->Bd ρ left (ρ.g key) arr base j=true->Bd ρ left (ρ.g key) arr base i=true:=λhij hj hq=>ZjR hs hij hj hq;have h:=λk c1 c2 c3=>h k (c1,c2,c3,);generalize Bd ρ left (ρ.g key) arr base=P at *;have dn:∀{i j:Nat},i<=j->j<n->P i=false->P j=false:=λ{i j} hij hj hq=>by
  cases e:P j with
  |false=>rfl
  |true=>rw[up hij hj e]at hq;exact hq
 refine apC (B hh ?_);dsimp only;cases e:P hint with
 |true=>
  rw[aS1 8];unfold RA;refine apC (a6d (aPz (I:=λx c st2=>st2=st/\∃l o,c=(none,l,o)/\l<o/\x+1<=o/\hint+l<n/\P (hint+l)=true)
   (Q:=λc st2=>st2=st/\∃l o,c=(none,l,o)/\l<o/\hint+l<n/\P (hint+l)=true/\(n-hint<=o\/hint+o<n/\P (hint+o)=false)) ?jturn ?jlast ?jfirst) ?jafter)
  case jfirst=>exact(8,0,1,8,7,7,7,e,)
  case jlast=>
   rintro c st2 ⟨rfl,l,o,rfl,hlo,Np,ni,hp⟩;exact(8,l,o,8,hlo,ni,hp,.inl 7,)
  case jturn=>
   rintro x c st2 _ hxk ⟨rfl,l,o,rfl,hlo,Np,ni,hp⟩;dsimp only;by_cases hge:o ≥ n-hint
   .rw [aS1 hge];exact aJm (8,l,o,8,hlo,ni,hp,.inl hge,)
   .rw [aWd hge];refine apC (B 7 ?_);dsimp only;cases c:P (hint+o) with
    |true=>
     rw[aWd 5];exact aJm (8,o,2*o+1,8,7,7,7,c,)
    |false=>
     rw[aS1 5];exact aJm (8,l,o,8,hlo,ni,hp,.inr (7,c,),)
  case jafter=>
   rintro c st2 ⟨rfl,l,o,rfl,hlo,ni,hp,ho⟩;refine TZ B up dn h (by dsimp only;lia) (by dsimp only;lia) (λi hi=>up (j:=hint+l) (by dsimp only at hi;lia) ni hp) (λi p q=>?_);dsimp only at p;rcases ho with ho|⟨ho,c⟩
   .lia
   .exact dn (i:=hint+o) 7 q c
 |false=>
  rw[aWd 5];unfold RB;refine apC (a6d (aPz (I:=λx c st2=>st2=st/\∃l o,c=(none,l,o)/\l<o/\x+1<=o/\l<=hint/\P (hint-l)=false)
   (Q:=λc st2=>st2=st/\∃l o,c=(none,l,o)/\l<o/\l<=hint/\P (hint-l)=false/\(hint+1<=o\/o<=hint/\P (hint-o)=true)) ?kturn ?klast ?kfirst) ?kafter)
  case kfirst=>exact(8,0,1,8,7,7,7,e,)
  case klast=>
   rintro c st2 ⟨rfl,l,o,rfl,hlo,Np,ni,hp⟩;exact(8,l,o,8,hlo,ni,hp,.inl 7,)
  case kturn=>
   rintro x c st2 _ hxk ⟨rfl,l,o,rfl,hlo,Np,ni,hp⟩;dsimp only;by_cases hge:o ≥ hint+1
   .rw [aS1 hge];exact aJm (8,l,o,8,hlo,ni,hp,.inl hge,)
   .rw [aWd hge];refine apC (B 7 ?_);dsimp only;cases c:P (hint-o) with
    |true=>
     rw[aS1 8];exact aJm (8,l,o,8,hlo,ni,hp,.inr (7,c,),)
    |false=>
     rw[aWd 5];exact aJm (8,o,2*o+1,8,7,7,7,c,)
  case kafter=>
   rintro c st2 ⟨rfl,l,o,rfl,hlo,ni,hp,ho⟩;refine TZ B up dn h (by dsimp only;lia) (by dsimp only;lia) (λi hi=>?_) (λi p q=>dn (i:=hint-l) (by dsimp only at p;lia) q hp);dsimp only at hi;rcases ho with ho|⟨ho,c⟩
   .lia
   .exact up (j:=hint-o) 7 7 c
end
def Lk(ρ:aE.RR)(x y:Keyed):Prop:=ρ.g x<=ρ.g y
structure MI(ρ:aE.RR)(A B out:List Keyed)(ia ib:Nat):Prop where
 perm:(out++A.drop ia++B.drop ib).Perm (A++B)
 sa:(out++A.drop ia).Pairwise (Lk ρ)
 sb:(out++B.drop ib).Pairwise (Lk ρ)
section
variable{ρ:aE.RR}{A B out:List Keyed}{ia ib:Nat}
theorem MI.jI(h:MI ρ A B out ia ib)(k:Nat)(hk:∀t∈(B.drop ib).take k,∀x∈A.drop ia,ρ.g t<=ρ.g x):MI ρ A B (out++(B.drop ib).take k) ia (ib+k):=by
 have e:B.drop (ib+k)=(B.drop ib).drop k:=by rw[drop_drop]
 have s:=h.sb;have p:=h.perm;rw[<-aw0 k (B.drop ib)]at s p;refine(?_,?_,?_,)
 .rw [e];refine List.Perm.trans ?_ p;rw[axQ out,axQ out,axQ out,<-axQ (A.drop ia)];exact(List.Perm.append_right _ aC3).append_left _
 .have s1:(out++(B.drop ib).take k).Pairwise (Lk ρ):=by
   rw[<-axQ]at s;exact(arT.1 s).1
  have a1:=arT.1 h.sa;refine arT.2 (s1,a1.2.1,λx hx y hy=>?_,);rcases bdf.1 hx with hx|hx
  .exact a1.2.2 x hx y hy
  .exact hk x hx y hy
 .rw [e,axQ];exact s
theorem MI.nR(h:MI ρ A B out ia ib)(k:Nat)(hk:∀t∈(A.drop ia).take k,∀x∈B.drop ib,ρ.g t<=ρ.g x):MI ρ A B (out++(A.drop ia).take k) (ia+k) ib:=by
 have h2:MI ρ B A out ib ia:=(by
  refine List.Perm.trans ?_ (List.Perm.trans h.perm aC3);rw[axQ,axQ];exact aC3.append_left _,h.sb,h.sa,)
 have h3:=h2.jI k hk;refine(?_,h3.sb,h3.sa,);refine List.Perm.trans ?_ (List.Perm.trans h3.perm aC3);rw[axQ _ (A.drop _),axQ _ (B.drop _)];exact aC3.append_left _
def Res(ρ:aE.RR)(A B:List Keyed)(r:Array Keyed):Prop:=r.toList.Perm (A++B)/\r.toList.Pairwise (Lk ρ)
theorem Lg(a:Array Keyed)(i:Nat):(a.extract i a.size).toList=a.toList.drop i:=by
 rw[aL6,List.extract_eq_drop_take];exact adq 5
theorem Oz(a:Array Keyed)(i k:Nat):(a.extract i (i+k)).toList=(a.toList.drop i).take k:=by
 rw[aL6,List.extract_eq_drop_take];congr 1
 lia
theorem MI.res{a b out:Array Keyed}(h:MI ρ a.toList b.toList out.toList ia ib)(he:a.toList.drop ia=[]\/b.toList.drop ib=[]):Res ρ a.toList b.toList (out++a.extract ia a.size++b.extract ib b.size):=by
 unfold Res;rw[a2R,a2R,Lg,Lg];refine(h.perm,?_,);rcases he with he|he
 .rw [he,bdd];exact h.sb
 .rw [he,bdd];exact h.sa
theorem MI.last{a b out:Array Keyed}(h:MI ρ a.toList b.toList out.toList ia ib)(hl:∀y∈b.toList,∀x∈a.toList.drop (a.size-1),ρ.g y<=ρ.g x)(he:ia+1=a.size):Res ρ a.toList b.toList (out++b.extract ib b.size++a.extract ia a.size):=by
 have e:ia=a.size-1:=7
 have h2:=h.jI (b.toList.length) (λt ht x hx=>hl t (List.mem_of_mem_drop (List.mem_of_mem_take ht)) x (by rw[<-e];exact hx));have e2:(b.toList.drop ib).take b.toList.length=b.toList.drop ib:=adq 5;have e3:b.toList.drop (ib+b.toList.length)=[]:=aM2 7;rw[e2]at h2;unfold Res;rw[a2R,a2R,Lg,Lg];refine(?_,h2.sa,);have:=h2.perm;rw[e3,bdd]at this;exact this
end
abbrev wu:=Option (Array Keyed)×Array Keyed×Nat×Nat×Nat×Nat×Nat
def KR(a b out:Array Keyed)(ia ib g k k1:Nat):StateT SortSt Sem (ForInStep wu):=do
 let x <-elem' a ia
 if ia+1+1 ==a.size then pure (.done (!(out.push x++b.extract ib b.size++a.extract (ia+1) a.size),out.push x,ia+1,ib,g,k,k1))
 else if k<07 && k1<07 then pure (.done (none,out.push x,ia+1,ib,g,k,k1)) else pure (.yield (none,out.push x,ia+1,ib,g,k,k1))
def lo2(a b out:Array Keyed)(ia ib g k bc:Nat):StateT SortSt Sem (ForInStep wu):=do
 let x <-elem' b ib
 if ib+1 ==b.size then pure (.done (!(out.push x++a.extract ia a.size++b.extract (ib+1) b.size),out.push x,ia,ib+1,g,k,bc))
 else do
  let y <-elem' a ia
  let r <-Fc true y b (ib+1) (b.size-(ib+1)) 0
  match r with
  |some k1=>
   if k1>0 then
    if ib+1+k1 ==b.size then pure (.done (!(out.push x++b.extract (ib+1) (ib+1+k1)++a.extract ia a.size++b.extract (ib+1+k1) b.size),out.push x++b.extract (ib+1) (ib+1+k1),ia,ib+1+k1,g,k,k1))
    else KR a b (out.push x++b.extract (ib+1) (ib+1+k1)) ia (ib+1+k1) g k k1
   else KR a b (out.push x) ia (ib+1) g k k1
  |none=>pure (.done (!(out.push x++a.extract ia a.size++b.extract (ib+1) b.size),out.push x,ia,ib+1,g,k,bc))
def lo1(a b out:Array Keyed)(ia ib g ac bc:Nat):StateT SortSt Sem (ForInStep wu):=do
 ZV g
 let y <-elem' b ib
 let r <-Fc false y a ia (a.size-ia) 0
 match r with
 |some k=>
  if k>0 then
   if ia+k+1 ==a.size then pure (.done (!(out++a.extract ia (ia+k)++b.extract ib b.size++a.extract (ia+k) a.size),out++a.extract ia (ia+k),ia+k,ib,g,k,bc))
   else if ia+k ==a.size then pure (.done (!(out++a.extract ia (ia+k)++a.extract (ia+k) a.size++b.extract ib b.size),out++a.extract ia (ia+k),ia+k,ib,g,k,bc))
   else lo2 a b (out++a.extract ia (ia+k)) (ia+k) ib g k bc
  else lo2 a b out ia ib g k bc
 |none=>pure (.done (!(out++a.extract ia a.size++b.extract ib b.size),out,ia,ib,g,ac,bc))
abbrev Bk:=Option (Array Keyed)×Array Keyed×Nat×Nat×Nat×Nat
def KQ(a b:Array Keyed)(mg:Nat)(c:Bk):StateT SortSt Sem (ForInStep Bk):=do
 let y <-elem' b c.2.2.2.1
 let x <-elem' a c.2.2.1
 let r <-lt' y x
 match r with
 |some w=>
  if w then do
   let y <-elem' b c.2.2.2.1
   if c.2.2.2.1+1 ==b.size then pure (.done (!(c.2.1.push y++a.extract c.2.2.1 a.size++b.extract (c.2.2.2.1+1) b.size),c.2.1.push y,c.2.2.1,c.2.2.2.1+1,0,c.2.2.2.2.2+1))
   else if c.2.2.2.2.2+1 ≥ mg then pure (.done (none,c.2.1.push y,c.2.2.1,c.2.2.2.1+1,0,c.2.2.2.2.2+1))
   else pure (.yield (none,c.2.1.push y,c.2.2.1,c.2.2.2.1+1,0,c.2.2.2.2.2+1))
  else do
   let x <-elem' a c.2.2.1
   if c.2.2.1+1+1 ==a.size then pure (.done (!(c.2.1.push x++b.extract c.2.2.2.1 b.size++a.extract (c.2.2.1+1) a.size),c.2.1.push x,c.2.2.1+1,c.2.2.2.1,c.2.2.2.2.1+1,0))
   else if c.2.2.2.2.1+1 ≥ mg then pure (.done (none,c.2.1.push x,c.2.2.1+1,c.2.2.2.1,c.2.2.2.2.1+1,0))
   else pure (.yield (none,c.2.1.push x,c.2.2.1+1,c.2.2.2.1,c.2.2.2.2.1+1,0))
 |none=>pure (.done (!(c.2.1++a.extract c.2.2.1 a.size++b.extract c.2.2.2.1 b.size),c.2.1,c.2.2.1,c.2.2.2.1,c.2.2.2.2.1,c.2.2.2.2.2))
abbrev Es:=Option (Array Keyed)×Array Keyed×Nat×Nat×Nat
def KP(a b:Array Keyed)(c:Es):StateT SortSt Sem (ForInStep Es):=do
 let d <-forIn [0:a.size+b.size] ((none,c.2.1,c.2.2.1,c.2.2.2.1,0,0):Bk) (λ_ d=>KQ a b c.2.2.2.2 d)
 match d.1 with
 |some r=>pure (.done (!r,d.2.1,d.2.2.1,d.2.2.2.1,c.2.2.2.2))
 |none=>do
  rule "list.sort.gallop"
  let e <-forIn [0:a.size+b.size] ((none,d.2.1,d.2.2.1,d.2.2.2.1,c.2.2.2.2+1,d.2.2.2.2.1,d.2.2.2.2.2):wu) (λ_ e=>if e.2.2.2.2.1>1 then lo1 a b e.2.1 e.2.2.1 e.2.2.2.1 (e.2.2.2.2.1-1) e.2.2.2.2.2.1 e.2.2.2.2.2.2 else lo1 a b e.2.1 e.2.2.1 e.2.2.2.1 e.2.2.2.2.1 e.2.2.2.2.2.1 e.2.2.2.2.2.2)
  match e.1 with
  |some r=>pure (.done (!r,e.2.1,e.2.2.1,e.2.2.2.1,e.2.2.2.2.1))
  |none=>do
   ZV (e.2.2.2.2.1+1)
   pure (.yield (none,e.2.1,e.2.2.1,e.2.2.2.1,e.2.2.2.2.1+1))
theorem ZfM{M:Model}{A:Around}{E:Value->Shared->Prop}{s:Shared}{Q:Array Keyed->SortSt->Prop}{st:SortSt}(a b:Array Keyed)(h:wpS M A E s (do
 rule "list.sort.merge-lo"
 let x <-elem' b 0
 if 1 ==b.size then pure (#[x]++a.extract 0 a.size++b.extract 1 b.size)
 else if 0+1 ==a.size then pure (#[x]++b.extract 1 b.size++a.extract 0 a.size)
 else do
  let st <-get
  let c <-forIn [0:a.size+b.size] ((none,#[x],0,1,gallopOf st):Es) (λ_ c=>KP a b c)
  match c.1 with
  |some r=>pure r
  |none=>unsupported "internal:list.sort.merge-bound") Q st):wpS M A E s (O4 a b) Q st:=by
 show wpAny M A (O4 a b st) _ E s
 wp_delta
 wp_delta
 refine yM ?_ h;dsimp only;refine aV4 λ_=>aV4 λx=>?_;congr 1
 congr 1
 refine aV4 λst=>?_;congr 1
 .congr 1
  funext _ c
  unfold KP;congr 1
  .congr 1
   funext _ d
   unfold KQ;refine aV4 λy=>aV4 λx=>aV4 λr=>?_;cases r with
   |some w=>
    cases w with
    |true=>rfl
    |false=>rfl
   |none=>rfl
  .funext d
   cases d.1 with
   |some r=>rfl
   |none=>
    dsimp only;refine aV4 λ_=>?_;congr 1
    .congr 1
     funext _ e
     congr 1
     all_goals
      unfold lo1;refine aV4 λ_=>aV4 λy=>aV4 λr=>?_;cases r with
      |none=>rfl
      |some k=>
       dsimp only;congr 1
       .congr 1
        congr 1
        unfold lo2;refine aV4 λx=>?_;congr 1
        refine aV4 λy=>aV4 λr=>?_;cases r with
        |none=>rfl
        |some k1=>rfl
       .unfold lo2;refine aV4 λx=>?_;congr 1
        refine aV4 λy=>aV4 λr=>?_;cases r with
        |none=>rfl
        |some k1=>rfl
    .funext e
     cases e.1 with
     |some r=>rfl
     |none=>rfl
 .funext c
  cases c.1 with
  |some r=>rfl
  |none=>rfl
def Sm(st st':SortSt):Prop:=kindOf st'=kindOf st/\arrOf st'=arrOf st/\pendingOf st'=pendingOf st/\failedOf st'=failedOf st
theorem Sm.refl(st:SortSt):Sm st st:=(8,8,8,8,)
theorem Sm.trans{a b c:SortSt}(h:Sm a b)(h':Sm b c):Sm a c:=(h'.1.trans h.1,h'.2.1.trans h.2.1,h'.2.2.1.trans h.2.2.1,h'.2.2.2.trans h.2.2.2,)
section
variable{prog:Program}{w:World}{A:Around}{E:Value->Shared->Prop}{s:Shared}{a₀:Array Keyed}{κ:SortKind}{ρ:aE.RR}{a b:Array Keyed}
theorem Lf{st:SortSt}{g:Nat}{Q:Unit->SortSt->Prop}(h:∀st',Sm st st'->Q () st'):wpS (model prog w) A E s (ZV g) Q st:=by
 rw[ZbI];exact aRu (h _ (8,8,8,8,))
theorem SI(h:a.toList.Pairwise (Lk ρ))(i j:Nat):e8 ρ a i (i+(a.size-i)):=by
 intro x y hx hxy hy;have hy':y<a.size:=7
 rw[bE (show x<a.size by lia),bE hy'];by_cases e:x=y
 .subst e;lia
 .exact ahk.1 h x y (by simpa using(show x<a.size by lia)) (by simpa using hy') 7
theorem Zer{i:Nat}{x:Keyed}(h:x∈a.toList.drop i):∃j,∃hj:i+j<a.size,x=a[i+j]:=by
 let(j,hj,e,):=ay7.1 h;rw[aKZ,aRY]at hj;refine(j,7,?_,);rw[<-e,getElem_drop,aOE]
theorem Zes{i k:Nat}{x:Keyed}(h:x∈(a.toList.drop i).take k):∃j,j<k/\∃hj:i+j<a.size,x=a[i+j]:=by
 let(j,hj,e,):=ay7.1 h;rw[agt,aKZ,aRY]at hj;refine(j,7,7,?_,);rw[<-e,getElem_take,getElem_drop,aOE]
theorem Cut.low{left:Bool}{kv:Int}{i k:Nat}(h:Cut ρ left kv a i (a.size-i) k){x:Keyed}(hx:x∈(a.toList.drop i).take k):ρ.g x<=kv:=by
 let(j,hj,hs,rfl,):=Zes hx;have:=h.lo j hj;unfold Bd at this;rw[bE hs]at this;cases left with
 |true=>simp only[akf,ada]at this;lia
 |false=>simp only[acv,aaq,aRZ,aCy]at this;lia
theorem Cut.high{left:Bool}{kv:Int}{i k:Nat}(h:Cut ρ left kv a i (a.size-i) k){x:Keyed}(hx:x∈a.toList.drop (i+k)):kv<=ρ.g x:=by
 let(j,hs,rfl,):=Zer hx;have:=h.hi (k+j) 7 7;unfold Bd at this;rw[show i+(k+j)=i+k+j by lia,bE hs]at this;cases left with
 |true=>simp only[akf,aCy]at this;lia
 |false=>simp only[acv,aaq,Bool.not_eq_false',ada]at this;lia
theorem Js{i:Nat}(hi:i<a.size):(a.toList.drop i).take 1=[a[i]]:=by
 rw[aoV (by simpa using hi)];rfl
theorem LN{i:Nat}(hi:i<a.size)(h:(a.toList.drop i).Pairwise (Lk ρ)){x:Keyed}(hx:x∈a.toList.drop i):ρ.g a[i]<=ρ.g x:=by
 rw[aoV (by simpa using hi)]at h hx;rcases ajG.1 hx with rfl|hx
 .exact aeM _
 .exact (aI1.1 h).1 x hx
structure Ft(ρ:aE.RR)(a₀ a b:Array Keyed):Prop where
 ma:∀p∈a.toList,p∈a₀.toList
 mb:∀p∈b.toList,p∈a₀.toList
 sa:a.toList.Pairwise (Lk ρ)
 sb:b.toList.Pairwise (Lk ρ)
 last:∀y∈b.toList,∀x∈a.toList.drop (a.size-1),ρ.g y<=ρ.g x
def Jm(ρ:aE.RR)(a b:Array Keyed)(m:Nat)(out:Array Keyed)(ia ib:Nat):Prop:=MI ρ a.toList b.toList out.toList ia ib/\m<=ia+ib/\ia+1<a.size/\ib<b.size
def Vq(ρ:aE.RR)(a b:Array Keyed)(m:Nat)(c:wu):Prop:=(∃r q,c=(!r,q)/\Res ρ a.toList b.toList r)\/∃out ia ib g k k1,c=(none,out,ia,ib,g,k,k1)/\Jm ρ a b m out ia ib
def Pz(ρ:aE.RR)(a b:Array Keyed)(m:Nat)(st:SortSt)(r:ForInStep wu)(st':SortSt):Prop:=Sm st st'/\match r with
 | .done c=>Vq ρ a b m c
 | .yield c=>∃out ia ib g k k1,c=(none,out,ia,ib,g,k,k1)/\Jm ρ a b m out ia ib
theorem MI.oh{out:Array Keyed}{ia ib:Nat}(h:MI ρ a.toList b.toList out.toList ia ib)(hi:ia<a.size)(hk:∀x∈b.toList.drop ib,ρ.g a[ia]<=ρ.g x):MI ρ a.toList b.toList (out.push a[ia]).toList (ia+1) ib:=by
 have:=h.nR 1 (by rw[Js hi];intro t ht x hx;rw[aU2.1 ht];exact hk x hx);rw[Js hi]at this;rw[aax];exact this
theorem MI.n9{out:Array Keyed}{ia ib:Nat}(h:MI ρ a.toList b.toList out.toList ia ib)(hi:ib<b.size)(hk:∀x∈a.toList.drop ia,ρ.g b[ib]<=ρ.g x):MI ρ a.toList b.toList (out.push b[ib]).toList ia (ib+1):=by
 have:=h.jI 1 (by rw[Js hi];intro t ht x hx;rw[aU2.1 ht];exact hk x hx);rw[Js hi]at this;rw[aax];exact this
theorem SH{jT st:SortSt}{out:Array Keyed}{ia ib g k k1 m:Nat}(T:Ft ρ a₀ a b)(hS:Sm jT st)(h:Jm ρ a b m out ia ib)(hk:∀x∈b.toList.drop ib,ρ.g (a[ia]'(by have:=h.2.2.1;lia))<=ρ.g x):wpS (model prog w) A E s (KR a b out ia ib g k k1) (Pz ρ a b (m+1) jT) st:=by
 let(M,hm,ha,hb,):=h;have yv:ia<a.size:=7
 unfold KR;refine apC (ZA yv ?_);have M2:=M.oh yv hk;by_cases e:ia+1+1=a.size
 .rw [aS1 (by simpa using e)];exact aJm (hS,.inl (109,M2.last T.last e,),)
 .rw [aWd (by simpa using e)];have J:Jm ρ a b (m+1) (out.push a[ia]) (ia+1) ib:=(M2,7,7,hb,);by_cases c:(decide (k<07) && decide (k1<07))=true
  .rw [aS1 c];exact aJm (hS,.inr (229,J,),)
  .rw [aWd c];exact aJm (hS,229,J,)
theorem SG{jT st:SortSt}{out:Array Keyed}{ia ib g k bc m:Nat}(h0:aE.kJ prog w A s κ ρ a₀)(hk:kindOf st=κ)(T:Ft ρ a₀ a b)(hS:Sm jT st)(h:Jm ρ a b m out ia ib)(hq:∀x∈a.toList.drop ia,ρ.g (b[ib]'(h.2.2.2))<=ρ.g x):wpS (model prog w) A E s (lo2 a b out ia ib g k bc) (Pz ρ a b (m+1) jT) st:=by
 let(M,hm,ha,hb,):=h;have yv:ia<a.size:=7
 unfold lo2;refine apC (ZA hb ?_);have M2:=M.n9 hb hq;by_cases e:ib+1=b.size
 .rw [aS1 (by simpa using e)];exact aJm (hS,.inl (109,M2.res (.inr (aM2 (by simp;lia))),),)
 .rw [aWd (by simpa using e)];refine apC (ZA yv ?_);refine apC (Fo hk h0 T.mb (T.ma _ 5) 7 7 (SI T.sb _ 0) (λk1 C=>?_));dsimp only;have fa:∀x∈a.toList.drop ia,ρ.g a[ia]<=ρ.g x:=λx hx=>LN yv (avA (drop_sublist _ _) T.sa) hx;have M3:=M2.jI k1 (λt ht x hx=>auf (C.low ht) (fa x hx));rw[<-Oz,<-a2R]at M3;have hi:∀x∈b.toList.drop (ib+1+k1),ρ.g a[ia]<=ρ.g x:=λx hx=>C.high hx;by_cases c:k1>0
  .rw [aS1 c];by_cases e2:ib+1+k1=b.size
   .rw [aS1 (by simpa using e2)];exact aJm (hS,.inl (109,M3.res (.inr (aM2 (by simp;lia))),),)
   .rw [aWd (by simpa using e2)];have:=C.le;exact SH T hS (M3,7,ha,7,) hi
  .rw [aWd c];have e3:k1=0:=7
   subst e3;exact SH T hS (M2,7,ha,7,) hi
theorem ZkU{jT st:SortSt}{out:Array Keyed}{ia ib g ac bc m:Nat}(h0:aE.kJ prog w A s κ ρ a₀)(hk:kindOf st=κ)(T:Ft ρ a₀ a b)(hS:Sm jT st)(h:Jm ρ a b m out ia ib):wpS (model prog w) A E s (lo1 a b out ia ib g ac bc) (Pz ρ a b (m+1) jT) st:=by
 let(M,hm,ha,hb,):=h;have yv:ia<a.size:=7
 unfold lo1;refine apC (Lf λst1 DR=>?_);have hk1:kindOf st1=κ:=DR.1.trans hk;have wJ:=hS.trans DR;refine apC (ZA hb ?_);refine apC (Fo hk1 h0 T.ma (T.mb _ 5) 7 7 (SI T.sa _ 0) (λk C=>?_));dsimp only;have fb:∀x∈b.toList.drop ib,ρ.g b[ib]<=ρ.g x:=λx hx=>LN hb (avA (drop_sublist _ _) T.sb) hx;have M3:=M.nR k (λt ht x hx=>auf (C.low ht) (fb x hx));rw[<-Oz,<-a2R]at M3;have hi:∀x∈a.toList.drop (ia+k),ρ.g b[ib]<=ρ.g x:=λx hx=>C.high hx;have:=C.le;by_cases c:k>0
 .rw [aS1 c];by_cases e2:ia+k+1=a.size
  .rw [aS1 (by simpa using e2)];exact aJm (wJ,.inl (109,M3.last T.last e2,),)
  .rw [aWd (by simpa using e2)];by_cases e3:ia+k=a.size
   .rw [aS1 (by simpa using e3)];exact aJm (wJ,.inl (109,M3.res (.inl (aM2 (by simp;lia))),),)
   .rw [aWd (by simpa using e3)];exact SG h0 hk1 T wJ (M3,7,7,hb,) hi
 .rw [aWd c];have e3:k=0:=7
  subst e3;exact SG h0 hk1 T wJ (M,7,ha,hb,) hi
def Vz(ρ:aE.RR)(a b:Array Keyed)(m:Nat)(c:Bk):Prop:=(∃r q,c=(!r,q)/\Res ρ a.toList b.toList r)\/∃out ia ib k k1,c=(none,out,ia,ib,k,k1)/\Jm ρ a b m out ia ib
theorem ZkV{st:SortSt}{out:Array Keyed}{mg ia ib ac bc m:Nat}(h0:aE.kJ prog w A s κ ρ a₀)(hk:kindOf st=κ)(T:Ft ρ a₀ a b)(h:Jm ρ a b m out ia ib):wpS (model prog w) A E s (KQ a b mg (none,out,ia,ib,ac,bc)) (λr st'=>st'=st/\match r with
  | .done c=>Vz ρ a b (m+1) c
  | .yield c=>∃out ia ib k k1,c=(none,out,ia,ib,k,k1)/\Jm ρ a b (m+1) out ia ib) st:=by
 let(M,hm,ha,hb,):=h;have yv:ia<a.size:=7
 have fa:∀x∈a.toList.drop ia,ρ.g a[ia]<=ρ.g x:=λx hx=>LN yv (avA (drop_sublist _ _) T.sa) hx;have fb:∀x∈b.toList.drop ib,ρ.g b[ib]<=ρ.g x:=λx hx=>LN hb (avA (drop_sublist _ _) T.sb) hx;unfold KQ;dsimp only;refine apC (ZA hb (apC (ZA yv (apC (qR hk h0 (T.mb _ 5) (T.ma _ 5) ?_)))));dsimp only;by_cases c:ρ.g b[ib]<ρ.g a[ia]
 .rw [a7Y c,aS1 8];refine apC (ZA hb ?_);have M2:=M.n9 hb (λx hx=>by have:=fa x hx;lia);by_cases e:ib+1=b.size
  .rw [aS1 (by simpa using e)];exact aJm (8,.inl (109,M2.res (.inr (aM2 (by simp;lia))),),)
  .rw [aWd (by simpa using e)];have J:Jm ρ a b (m+1) (out.push b[ib]) ia (ib+1):=(M2,7,ha,7,);by_cases c2:bc+1 ≥ mg
   .rw [aS1 c2];exact aJm (8,.inr (165,J,),)
   .rw [aWd c2];exact aJm (293,J,)
 .rw [alm c,aWd 5];refine apC (ZA yv ?_);have M2:=M.oh yv (λx hx=>by have:=fb x hx;lia);by_cases e:ia+1+1=a.size
  .rw [aS1 (by simpa using e)];exact aJm (8,.inl (109,M2.last T.last e,),)
  .rw [aWd (by simpa using e)];have J:Jm ρ a b (m+1) (out.push a[ia]) (ia+1) ib:=(M2,7,7,hb,);by_cases c2:ac+1 ≥ mg
   .rw [aS1 c2];exact aJm (8,.inr (165,J,),)
   .rw [aWd c2];exact aJm (293,J,)
theorem Jm.weak{m m':Nat}{out:Array Keyed}{ia ib:Nat}(h:Jm ρ a b m out ia ib)(hm:m'<=m):Jm ρ a b m' out ia ib:=(h.1,by have:=h.2.1;lia,h.2.2.1,h.2.2.2,)
theorem ZkW{st:SortSt}{out:Array Keyed}{ia ib g m:Nat}(h0:aE.kJ prog w A s κ ρ a₀)(hk:kindOf st=κ)(T:Ft ρ a₀ a b)(h:Jm ρ a b m out ia ib):wpS (model prog w) A E s (KP a b (none,out,ia,ib,g)) (λr st'=>Sm st st'/\match r with
  | .done c=>∃r q,c=(!r,q)/\Res ρ a.toList b.toList r
  | .yield c=>∃out ia ib g,c=(none,out,ia,ib,g)/\Jm ρ a b (m+1) out ia ib) st:=by
 have pos:0<a.size+b.size:=by have:=h.2.2.1;lia
 unfold KP;dsimp only;refine apC (a6d (aPz (I:=λx c st2=>st2=st/\∃out ia ib k k1,c=(none,out,ia,ib,k,k1)/\Jm ρ a b (m+x) out ia ib) (Q:=λc st2=>st2=st/\Vz ρ a b (m+1) c) ?turn ?last ?first) ?after)
 case first=>exact(293,h,)
 case last=>
  rintro c st2 ⟨rfl,out,ia,ib,k,k1,rfl,J⟩;exact(8,.inr (165,J.weak 7,),)
 case turn=>
  rintro x c st2 _ hx ⟨rfl,out,ia,ib,k,k1,rfl,J⟩;refine a6d (ZkV h0 hk T J) ?_;rintro r st3 ⟨rfl,hr⟩;cases r with
  |done c=>
   refine(8,?_,);rcases hr with hr|⟨out,ia,ib,k,k1,rfl,J⟩
   .exact .inl hr
   .exact .inr (165,J.weak 7,)
  |yield c=>exact(8,hr,)
 case after=>
  rintro c st2 ⟨rfl,hc⟩;rcases hc with⟨r,q,rfl,R⟩|⟨out,ia,ib,k,k1,rfl,J⟩
  .exact aJm (Sm.refl _,109,R,)
  .dsimp only;refine apC (wpS_lift (atV (8,?_,)));refine apC (a6d (aPz (I:=λx c st3=>Sm st2 st3/\∃out ia ib g k k1,c=(none,out,ia,ib,g,k,k1)/\Jm ρ a b (m+x) out ia ib) (Q:=λc st3=>Sm st2 st3/\Vq ρ a b (m+1) c) ?jturn ?jlast ?jfirst) ?jafter)
   case jfirst=>exact(Sm.refl _,229,J.weak 7,)
   case jlast=>
    rintro c st3 ⟨hS,out,ia,ib,g,k,k1,rfl,J⟩;exact(hS,.inr (229,J.weak 7,),)
   case jturn=>
    rintro x c st3 _ hx ⟨hS,out,ia,ib,g,k,k1,rfl,J⟩;have ND:kindOf st3=κ:=hS.1.trans hk;dsimp only;rw[show(if g>1 then lo1 a b out ia ib (g-1) k k1 else lo1 a b out ia ib g k k1)=lo1 a b out ia ib (if g>1 then g-1 else g) k k1 by split <;> rfl];refine a6d (ZkU h0 ND T hS J) ?_;rintro r cY ⟨yD,hr⟩;cases r with
    |done c=>
     refine(yD,?_,);rcases hr with hr|⟨out,ia,ib,g,k,k1,rfl,J⟩
     .exact .inl hr
     .exact .inr (229,J.weak 7,)
    |yield c=>exact(yD,hr,)
   case jafter=>
    rintro c st3 ⟨hS,hc⟩;rcases hc with⟨r,q,rfl,R⟩|⟨out,ia,ib,g,k,k1,rfl,J⟩
    .exact aJm (hS,109,R,)
    .refine apC (Lf λcY yD=>aJm (hS.trans yD,133,J,))
theorem ZfN{st:SortSt}{Q:Array Keyed->SortSt->Prop}(h0:aE.kJ prog w A s κ ρ a₀)(hk:kindOf st=κ)(T:Ft ρ a₀ a b)(ha:0<a.size)(hb:0<b.size)(hf:∀x∈a.toList,ρ.g b[0]<=ρ.g x)
  (h:∀r st',Sm st st'->Res ρ a.toList b.toList r->Q r st'):wpS (model prog w) A E s (O4 a b) Q st:=by
 refine ZfM _ _ ?_;refine apC (wpS_lift (atV (8,?_,)));refine apC (ZA hb ?_);have M0:MI ρ a.toList b.toList (#[]:Array Keyed).toList 0 0:=(5,by simpa using T.sa,by simpa using T.sb,);have M1:MI ρ a.toList b.toList (#[b[0]]:Array Keyed).toList 0 1:=M0.n9 hb (λx hx=>hf x (by simpa using hx));by_cases e1:1=b.size
 .rw [aS1 (by simpa using e1)];exact aJm (h _ _ (Sm.refl _) (M1.res (.inr (aM2 (by simp;lia)))))
 .rw [aWd (by simpa using e1)];by_cases e2:0+1=a.size
  .rw [aS1 (by simpa using e2)];exact aJm (h _ _ (Sm.refl _) (M1.last T.last e2))
  .rw [aWd (by simpa using e2)];refine apC (aYo ?_);refine apC (a6d (aPz (I:=λx c st2=>Sm st st2/\∃out ia ib g,c=(none,out,ia,ib,g)/\Jm ρ a b (x+1) out ia ib) (Q:=λc st2=>Sm st st2/\∃r q,c=(!r,q)/\Res ρ a.toList b.toList r) ?turn ?last ?first) ?after)
   case first=>exact(Sm.refl _,133,M1,7,7,7,)
   case last=>
    rintro c st2 ⟨_,out,ia,ib,g,rfl,J⟩;have:=J.2.1;have:=J.2.2.1;have:=J.2.2.2;lia
   case turn=>
    rintro x c st2 _ hx ⟨hS,out,ia,ib,g,rfl,J⟩;refine a6d (ZkW h0 (hS.1.trans hk) T J) ?_;rintro r st3 ⟨DQ,hr⟩;cases r with
    |done c=>exact(hS.trans DQ,hr,)
    |yield c=>exact(hS.trans DQ,hr,)
   case after=>
    rintro c st2 ⟨hS,r,q,rfl,R⟩;exact aJm (h r st2 hS R)
end
structure MH(ρ:aE.RR)(A B O:List Keyed)(na nb:Nat):Prop where
 perm:(A.take na++B.take nb++O).Perm (A++B)
 sa:(A.take na++O).Pairwise (Lk ρ)
 sb:(B.take nb++O).Pairwise (Lk ρ)
section
variable{ρ:aE.RR}{A B O:List Keyed}{na nb:Nat}
theorem MH.jI(h:MH ρ A B O na nb)(k:Nat)(hkn:k<=nb)(hk:∀t∈(B.take nb).drop k,∀x∈A.take na,ρ.g x<=ρ.g t):MH ρ A B ((B.take nb).drop k++O) na k:=by
 have e:B.take k=(B.take nb).take k:=by rw[List.take_take,Nat.min_eq_left hkn]
 have s:=h.sb;have p:=h.perm;rw[<-aw0 k (B.take nb),axQ]at s;rw[<-aw0 k (B.take nb)]at p;refine(?_,?_,?_,)
 .rw [e];refine List.Perm.trans ?_ p;simp only[axQ];exact List.Perm.refl _
 .have s1:=(arT.1 s).2.1;have a1:=arT.1 h.sa;refine arT.2 (a1.1,s1,λx hx y hy=>?_,);rcases bdf.1 hy with hy|hy
  .exact hk y hy x hx
  .exact a1.2.2 x hx y hy
 .rw [e];exact s
theorem MH.nR(h:MH ρ A B O na nb)(k:Nat)(hkn:k<=na)(hk:∀t∈(A.take na).drop k,∀x∈B.take nb,ρ.g x<=ρ.g t):MH ρ A B ((A.take na).drop k++O) k nb:=by
 have h2:MH ρ B A O nb na:=(List.Perm.trans (aC3.append_right _) (List.Perm.trans h.perm aC3),h.sb,h.sa,);have h3:=h2.jI k hkn hk;exact(List.Perm.trans (aC3.append_right _) (List.Perm.trans h3.perm aC3),h3.sb,h3.sa,)
theorem uT(a:Array Keyed)(k:Nat):(a.extract 0 k).toList=a.toList.take k:=by
 rw[aL6,List.extract_eq_drop_take,List.drop_zero,Nat.sub_zero]
theorem E5(a:Array Keyed)(i k:Nat):(a.extract i k).toList=(a.toList.take k).drop i:=by
 rw[aL6,List.extract_eq_drop_take,drop_take]
theorem MH.res{a b out:Array Keyed}(h:MH ρ a.toList b.toList out.toList.reverse na nb)(he:na=0\/nb=0):Res ρ a.toList b.toList (a.extract 0 na++b.extract 0 nb++out.reverse):=by
 unfold Res;rw[a2R,a2R,uT,uT,auu];refine(h.perm,?_,);rcases he with rfl|rfl
 .rw [take_zero,a9K];exact h.sb
 .rw [take_zero,bdd];exact h.sa
theorem MH.first{a b out:Array Keyed}(h:MH ρ a.toList b.toList out.toList.reverse na 1)(hl:∀y∈b.toList.take 1,∀x∈a.toList,ρ.g y<=ρ.g x):Res ρ a.toList b.toList (b.extract 0 1++a.extract 0 na++out.reverse):=by
 have h2:=h.nR 0 (aei _) (λt ht x hx=>hl x hx t (List.mem_of_mem_take (List.mem_of_mem_drop ht)));rw[List.drop_zero]at h2;unfold Res;rw[a2R,a2R,uT,uT,auu];have p:=h2.perm;have s:=h2.sb;rw[take_zero,a9K,<-axQ]at p;rw[<-axQ]at s;exact(p,s,)
end
abbrev wA:=Option (Array Keyed)×Nat×Nat×Array Keyed×Nat×Nat×Nat
def tD(a b:Array Keyed)(na nb:Nat)(out:Array Keyed)(g k k1:Nat):StateT SortSt Sem (ForInStep wA):=do
 let x <-elem' a (na-1)
 if na-1 ==0 then pure (.done (!(a.extract 0 (na-1)++b.extract 0 nb++(out.push x).reverse),na-1,nb,out.push x,g,k,k1))
 else if k<07 && k1<07 then pure (.done (none,na-1,nb,out.push x,g,k,k1)) else pure (.yield (none,na-1,nb,out.push x,g,k,k1))
def hi2(a b:Array Keyed)(na nb:Nat)(out:Array Keyed)(g k bc:Nat):StateT SortSt Sem (ForInStep wA):=do
 let x <-elem' b (nb-1)
 if nb-1 ==1 then pure (.done (!(b.extract 0 (nb-1)++a.extract 0 na++(out.push x).reverse),na,nb-1,out.push x,g,k,bc))
 else do
  let y <-elem' a (na-1)
  let r <-Fc true y b 0 (nb-1) (nb-1-1)
  match r with
  |some i=>
   if nb-1-i>0 then
    if i ==1 then pure (.done (!(b.extract 0 i++a.extract 0 na++(out.push x++(b.extract i (nb-1)).reverse).reverse),na,i,out.push x++(b.extract i (nb-1)).reverse,g,k,nb-1-i))
    else if i ==0 then pure (.done (!(a.extract 0 na++b.extract 0 i++(out.push x++(b.extract i (nb-1)).reverse).reverse),na,i,out.push x++(b.extract i (nb-1)).reverse,g,k,nb-1-i))
    else tD a b na i (out.push x++(b.extract i (nb-1)).reverse) g k (nb-1-i)
   else tD a b na (nb-1) (out.push x) g k (nb-1-i)
  |none=>pure (.done (!(a.extract 0 na++b.extract 0 (nb-1)++(out.push x).reverse),na,nb-1,out.push x,g,k,bc))
def hi1(a b:Array Keyed)(na nb:Nat)(out:Array Keyed)(g ac bc:Nat):StateT SortSt Sem (ForInStep wA):=do
 ZV g
 let y <-elem' b (nb-1)
 let r <-Fc false y a 0 na (na-1)
 match r with
 |some i=>
  if na-i>0 then
   if i ==0 then pure (.done (!(a.extract 0 i++b.extract 0 nb++(out++(a.extract i na).reverse).reverse),i,nb,out++(a.extract i na).reverse,g,na-i,bc))
   else hi2 a b i nb (out++(a.extract i na).reverse) g (na-i) bc
  else hi2 a b na nb out g (na-i) bc
 |none=>pure (.done (!(a.extract 0 na++b.extract 0 nb++out.reverse),na,nb,out,g,ac,bc))
abbrev Bj:=Option (Array Keyed)×Nat×Nat×Array Keyed×Nat×Nat
def K3(a b:Array Keyed)(mg:Nat)(c:Bj):StateT SortSt Sem (ForInStep Bj):=do
 let y <-elem' b (c.2.2.1-1)
 let x <-elem' a (c.2.1-1)
 let r <-lt' y x
 match r with
 |some w=>
  if w then do
   let x <-elem' a (c.2.1-1)
   if c.2.1-1 ==0 then pure (.done (!(a.extract 0 (c.2.1-1)++b.extract 0 c.2.2.1++(c.2.2.2.1.push x).reverse),c.2.1-1,c.2.2.1,c.2.2.2.1.push x,c.2.2.2.2.1+1,0))
   else if c.2.2.2.2.1+1 ≥ mg then pure (.done (none,c.2.1-1,c.2.2.1,c.2.2.2.1.push x,c.2.2.2.2.1+1,0))
   else pure (.yield (none,c.2.1-1,c.2.2.1,c.2.2.2.1.push x,c.2.2.2.2.1+1,0))
  else do
   let y <-elem' b (c.2.2.1-1)
   if c.2.2.1-1 ==1 then pure (.done (!(b.extract 0 (c.2.2.1-1)++a.extract 0 c.2.1++(c.2.2.2.1.push y).reverse),c.2.1,c.2.2.1-1,c.2.2.2.1.push y,0,c.2.2.2.2.2+1))
   else if c.2.2.2.2.2+1 ≥ mg then pure (.done (none,c.2.1,c.2.2.1-1,c.2.2.2.1.push y,0,c.2.2.2.2.2+1))
   else pure (.yield (none,c.2.1,c.2.2.1-1,c.2.2.2.1.push y,0,c.2.2.2.2.2+1))
 |none=>pure (.done (!(a.extract 0 c.2.1++b.extract 0 c.2.2.1++c.2.2.2.1.reverse),c.2.1,c.2.2.1,c.2.2.2.1,c.2.2.2.2.1,c.2.2.2.2.2))
abbrev ED:=Option (Array Keyed)×Nat×Nat×Array Keyed×Nat
def K2(a b:Array Keyed)(c:ED):StateT SortSt Sem (ForInStep ED):=do
 let d <-forIn [0:a.size+b.size] ((none,c.2.1,c.2.2.1,c.2.2.2.1,0,0):Bj) (λ_ d=>K3 a b c.2.2.2.2 d)
 match d.1 with
 |some r=>pure (.done (!r,d.2.1,d.2.2.1,d.2.2.2.1,c.2.2.2.2))
 |none=>do
  rule "list.sort.gallop"
  let e <-forIn [0:a.size+b.size] ((none,d.2.1,d.2.2.1,d.2.2.2.1,c.2.2.2.2+1,d.2.2.2.2.1,d.2.2.2.2.2):wA) (λ_ e=>if e.2.2.2.2.1>1 then hi1 a b e.2.1 e.2.2.1 e.2.2.2.1 (e.2.2.2.2.1-1) e.2.2.2.2.2.1 e.2.2.2.2.2.2 else hi1 a b e.2.1 e.2.2.1 e.2.2.2.1 e.2.2.2.2.1 e.2.2.2.2.2.1 e.2.2.2.2.2.2)
  match e.1 with
  |some r=>pure (.done (!r,e.2.1,e.2.2.1,e.2.2.2.1,e.2.2.2.2.1))
  |none=>do
   ZV (e.2.2.2.2.1+1)
   pure (.yield (none,e.2.1,e.2.2.1,e.2.2.2.1,e.2.2.2.2.1+1))
theorem ZfO{M:Model}{A:Around}{E:Value->Shared->Prop}{s:Shared}{Q:Array Keyed->SortSt->Prop}{st:SortSt}(a b:Array Keyed)(h:wpS M A E s (do
 rule "list.sort.merge-hi"
 let x <-elem' a (a.size-1)
 if a.size-1 ==0 then pure (a.extract 0 (a.size-1)++b.extract 0 b.size++#[x].reverse)
 else if b.size ==1 then pure (b.extract 0 b.size++a.extract 0 (a.size-1)++#[x].reverse)
 else do
  let st <-get
  let c <-forIn [0:a.size+b.size] ((none,a.size-1,b.size,#[x],gallopOf st):ED) (λ_ c=>K2 a b c)
  match c.1 with
  |some r=>pure r
  |none=>unsupported "internal:list.sort.merge-bound") Q st):wpS M A E s (OO a b) Q st:=by
 show wpAny M A (OO a b st) _ E s
 wp_delta
 wp_delta
 refine yM ?_ h;dsimp only;refine aV4 λ_=>aV4 λx=>?_;congr 1
 congr 1
 refine aV4 λst=>?_;congr 1
 .congr 1
  funext _ c
  unfold K2;congr 1
  .congr 1
   funext _ d
   unfold K3;refine aV4 λy=>aV4 λx=>aV4 λr=>?_;cases r with
   |some w=>
    cases w with
    |true=>rfl
    |false=>rfl
   |none=>rfl
  .funext d
   cases d.1 with
   |some r=>rfl
   |none=>
    dsimp only;refine aV4 λ_=>?_;congr 1
    .congr 1
     funext _ e
     congr 1
     all_goals
      unfold hi1;refine aV4 λ_=>aV4 λy=>aV4 λr=>?_;cases r with
      |none=>rfl
      |some k=>
       dsimp only;congr 1
       .congr 1
        unfold hi2;refine aV4 λx=>?_;congr 1
        refine aV4 λy=>aV4 λr=>?_;cases r with
        |none=>rfl
        |some k1=>rfl
       .unfold hi2;refine aV4 λx=>?_;congr 1
        refine aV4 λy=>aV4 λr=>?_;cases r with
        |none=>rfl
        |some k1=>rfl
    .funext e
     cases e.1 with
     |some r=>rfl
     |none=>rfl
 .funext c
  cases c.1 with
  |some r=>rfl
  |none=>rfl
section
variable{prog:Program}{w:World}{A:Around}{E:Value->Shared->Prop}{s:Shared}{a₀:Array Keyed}{κ:SortKind}{ρ:aE.RR}{a b:Array Keyed}
theorem Ol(h:a.toList.Pairwise (Lk ρ)){n:Nat}(hn:n<=a.size):e8 ρ a 0 (0+n):=by
 intro x y hx hxy hy;have hy':y<a.size:=7
 rw[bE (show x<a.size by lia),bE hy'];by_cases e:x=y
 .subst e;lia
 .exact ahk.1 h x y (by simpa using(show x<a.size by lia)) (by simpa using hy') 7
theorem Oj{n:Nat}{x:Keyed}(h:x∈a.toList.take n):∃j,j<n/\∃hj:j<a.size,x=a[j]:=by
 let(j,hj,e,):=ay7.1 h;rw[agt,aRY]at hj;refine(j,7,7,?_,);rw[<-e,getElem_take,aOE]
theorem Ox{i n:Nat}{x:Keyed}(h:x∈(a.toList.take n).drop i):∃j,i<=j/\j<n/\∃hj:j<a.size,x=a[j]:=by
 let(j,hj,e,):=ay7.1 h;rw[aKZ,agt,aRY]at hj;refine(i+j,7,7,7,?_,);rw[<-e,getElem_drop,getElem_take,aOE]
theorem Cut.Hv{left:Bool}{kv:Int}{n k:Nat}(h:Cut ρ left kv a 0 n k){x:Keyed}(hx:x∈a.toList.take k):ρ.g x<=kv:=by
 let(j,hj,hs,rfl,):=Oj hx;have:=h.lo j hj;unfold Bd at this;simp only[a0f]at this;rw[bE hs]at this;cases left with
 |true=>simp only[akf,ada]at this;lia
 |false=>simp only[acv,aaq,aRZ,aCy]at this;lia
theorem Cut.Co{left:Bool}{kv:Int}{n k:Nat}(h:Cut ρ left kv a 0 n k){x:Keyed}(hx:x∈(a.toList.take n).drop k):kv<=ρ.g x:=by
 let(j,hk,hj,hs,rfl,):=Ox hx;have:=h.hi j hk hj;unfold Bd at this;simp only[a0f]at this;rw[bE hs]at this;cases left with
 |true=>simp only[akf,aCy]at this;lia
 |false=>simp only[acv,aaq,Bool.not_eq_false',ada]at this;lia
theorem LM{n:Nat}(hn:0<n)(hs:n<=a.size):(a.toList.take n).drop (n-1)=[a[n-1]]:=by
 rw[drop_take,show n-(n-1)=1 by lia];exact Js 7
theorem Lx{n:Nat}(hn:0<n)(hs:n<=a.size)(h:a.toList.Pairwise (Lk ρ)){x:Keyed}(hx:x∈a.toList.take n):ρ.g x<=ρ.g a[n-1]:=by
 let(j,hj,hs2,rfl,):=Oj hx;have:=Ol h hs j (n-1) 7 7 7;rw[bE hs2,bE (show n-1<a.size by lia)]at this;exact this
theorem MH.first'{out:Array Keyed}{na nb:Nat}(h:MH ρ a.toList b.toList out.toList.reverse na nb)(hl:∀y∈b.toList.take 1,∀x∈a.toList,ρ.g y<=ρ.g x)(e:nb=1):Res ρ a.toList b.toList (b.extract 0 nb++a.extract 0 na++out.reverse):=by
 subst e;exact h.first hl
structure Fv(ρ:aE.RR)(a₀ a b:Array Keyed):Prop where
 ma:∀p∈a.toList,p∈a₀.toList
 mb:∀p∈b.toList,p∈a₀.toList
 sa:a.toList.Pairwise (Lk ρ)
 sb:b.toList.Pairwise (Lk ρ)
 first:∀y∈b.toList.take 1,∀x∈a.toList,ρ.g y<=ρ.g x
structure Jh(ρ:aE.RR)(a b:Array Keyed)(m na nb:Nat)(out:Array Keyed):Prop where
 M:MH ρ a.toList b.toList out.toList.reverse na nb
 bd:na+nb+m<=a.size+b.size
 la:na<=a.size
 lb:nb<=b.size
 pa:1<=na
 pb:2<=nb
theorem Jh.weak{m m' na nb:Nat}{out:Array Keyed}(h:Jh ρ a b m na nb out)(hm:m'<=m):Jh ρ a b m' na nb out:=(h.M,by have:=h.bd;lia,h.la,h.lb,h.pa,h.pb,)
def Vs(ρ:aE.RR)(a b:Array Keyed)(m:Nat)(c:wA):Prop:=(∃r q,c=(!r,q)/\Res ρ a.toList b.toList r)\/∃na nb out g k k1,c=(none,na,nb,out,g,k,k1)/\Jh ρ a b m na nb out
def PD(ρ:aE.RR)(a b:Array Keyed)(m:Nat)(st:SortSt)(r:ForInStep wA)(st':SortSt):Prop:=Sm st st'/\match r with
 | .done c=>Vs ρ a b m c
 | .yield c=>∃na nb out g k k1,c=(none,na,nb,out,g,k,k1)/\Jh ρ a b m na nb out
theorem MH.oh{out:Array Keyed}{na nb:Nat}(h:MH ρ a.toList b.toList out.toList.reverse na nb)(hn:0<na)(hs:na<=a.size)(hk:∀x∈b.toList.take nb,ρ.g x<=ρ.g a[na-1]):MH ρ a.toList b.toList (out.push a[na-1]).toList.reverse (na-1) nb:=by
 have:=h.nR (na-1) 7 (by rw[LM hn hs];intro t ht x hx;rw[aU2.1 ht];exact hk x hx);rw[LM hn hs]at this;rw[aax,List.reverse_append];exact this
theorem MH.n9{out:Array Keyed}{na nb:Nat}(h:MH ρ a.toList b.toList out.toList.reverse na nb)(hn:0<nb)(hs:nb<=b.size)(hk:∀x∈a.toList.take na,ρ.g x<=ρ.g b[nb-1]):MH ρ a.toList b.toList (out.push b[nb-1]).toList.reverse na (nb-1):=by
 have:=h.jI (nb-1) 7 (by rw[LM hn hs];intro t ht x hx;rw[aU2.1 ht];exact hk x hx);rw[LM hn hs]at this;rw[aax,List.reverse_append];exact this
theorem SE(out:Array Keyed)(i n:Nat):(out++(a.extract i n).reverse).toList.reverse=(a.toList.take n).drop i++out.toList.reverse:=by
 rw[a2R,List.reverse_append,auu,List.reverse_reverse,E5]
theorem SD{jT st:SortSt}{out:Array Keyed}{na nb g k k1 m:Nat}(T:Fv ρ a₀ a b)(hS:Sm jT st)(h:Jh ρ a b m na nb out)(hk:∀x∈b.toList.take nb,ρ.g x<=ρ.g (a[na-1]'(by have:=h.pa;have:=h.la;lia))):wpS (model prog w) A E s (tD a b na nb out g k k1) (PD ρ a b (m+1) jT) st:=by
 let(M,bd,la,lb,pa,pb,):=h;unfold tD;refine apC (ZA (show na-1<a.size by lia) ?_);have M2:=M.oh 7 la hk;by_cases e:na-1=0
 .rw [aS1 (by simpa using e)];exact aJm (hS,.inl (109,M2.res (.inl e),),)
 .rw [aWd (by simpa using e)];have J:Jh ρ a b (m+1) (na-1) nb (out.push a[na-1]):=(M2,7,7,lb,7,pb,);by_cases c:(decide (k<07) && decide (k1<07))=true
  .rw [aS1 c];exact aJm (hS,.inr (229,J,),)
  .rw [aWd c];exact aJm (hS,229,J,)
theorem Sz{jT st:SortSt}{out:Array Keyed}{na nb g k bc m:Nat}(h0:aE.kJ prog w A s κ ρ a₀)(hk:kindOf st=κ)(T:Fv ρ a₀ a b)(hS:Sm jT st)(h:Jh ρ a b m na nb out)(hq:∀x∈a.toList.take na,ρ.g x<=ρ.g (b[nb-1]'(by have:=h.pb;have:=h.lb;lia))):wpS (model prog w) A E s (hi2 a b na nb out g k bc) (PD ρ a b (m+1) jT) st:=by
 let(M,bd,la,lb,pa,pb,):=h;unfold hi2;refine apC (ZA (show nb-1<b.size by lia) ?_);have M2:=M.n9 7 lb hq;by_cases e:nb-1=1
 .rw [aS1 (by simpa using e)];exact aJm (hS,.inl (109,M2.first' T.first e,),)
 .rw [aWd (by simpa using e)];refine apC (ZA (show na-1<a.size by lia) ?_);refine apC (Fo hk h0 T.mb (T.ma _ 5) 7 7 (Ol T.sb 7) (λi C=>?_));dsimp only;have fa:∀x∈a.toList.take na,ρ.g x<=ρ.g a[na-1]:=λx hx=>Lx 7 la T.sa hx;have ci:=C.le;have M3:=M2.jI i 7 (λt ht x hx=>auf (fa x hx) (C.Co ht));rw[<-SE]at M3;have hi:∀x∈b.toList.take i,ρ.g x<=ρ.g a[na-1]:=λx hx=>C.Hv hx;by_cases c:nb-1-i>0
  .rw [aS1 c];by_cases e2:i=1
   .rw [aS1 (by simpa using e2)];exact aJm (hS,.inl (109,M3.first' T.first e2,),)
   .rw [aWd (by simpa using e2)];by_cases e3:i=0
    .rw [aS1 (by simpa using e3)];exact aJm (hS,.inl (109,M3.res (.inr e3),),)
    .rw [aWd (by simpa using e3)];exact SD T hS (M3,7,la,7,pa,7,) hi
  .rw [aWd c];have e3:i=nb-1:=7
   subst e3;exact SD T hS (M2,7,la,7,pa,7,) hi
theorem ZkX{jT st:SortSt}{out:Array Keyed}{na nb g ac bc m:Nat}(h0:aE.kJ prog w A s κ ρ a₀)(hk:kindOf st=κ)(T:Fv ρ a₀ a b)(hS:Sm jT st)(h:Jh ρ a b m na nb out):wpS (model prog w) A E s (hi1 a b na nb out g ac bc) (PD ρ a b (m+1) jT) st:=by
 let(M,bd,la,lb,pa,pb,):=h;unfold hi1;refine apC (Lf λst1 DR=>?_);have hk1:kindOf st1=κ:=DR.1.trans hk;have wJ:=hS.trans DR;refine apC (ZA (show nb-1<b.size by lia) ?_);refine apC (Fo hk1 h0 T.ma (T.mb _ 5) 7 7 (Ol T.sa la) (λi C=>?_));dsimp only;have fb:∀x∈b.toList.take nb,ρ.g x<=ρ.g b[nb-1]:=λx hx=>Lx 7 lb T.sb hx;have ci:=C.le;have M3:=M.nR i ci (λt ht x hx=>auf (fb x hx) (C.Co ht));rw[<-SE]at M3;have hi:∀x∈a.toList.take i,ρ.g x<=ρ.g b[nb-1]:=λx hx=>C.Hv hx;by_cases c:na-i>0
 .rw [aS1 c];by_cases e2:i=0
  .rw [aS1 (by simpa using e2)];exact aJm (wJ,.inl (109,M3.res (.inl e2),),)
  .rw [aWd (by simpa using e2)];exact Sz h0 hk1 T wJ (M3,7,7,lb,7,pb,) hi
 .rw [aWd c];have e3:i=na:=7
  subst e3;exact Sz h0 hk1 T wJ (M,7,la,lb,pa,pb,) hi
def Vt(ρ:aE.RR)(a b:Array Keyed)(m:Nat)(c:Bj):Prop:=(∃r q,c=(!r,q)/\Res ρ a.toList b.toList r)\/∃na nb out k k1,c=(none,na,nb,out,k,k1)/\Jh ρ a b m na nb out
theorem ZkY{st:SortSt}{out:Array Keyed}{mg na nb ac bc m:Nat}(h0:aE.kJ prog w A s κ ρ a₀)(hk:kindOf st=κ)(T:Fv ρ a₀ a b)(h:Jh ρ a b m na nb out):wpS (model prog w) A E s (K3 a b mg (none,na,nb,out,ac,bc)) (λr st'=>st'=st/\match r with
  | .done c=>Vt ρ a b (m+1) c
  | .yield c=>∃na nb out k k1,c=(none,na,nb,out,k,k1)/\Jh ρ a b (m+1) na nb out) st:=by
 let(M,bd,la,lb,pa,pb,):=h;have fa:∀x∈a.toList.take na,ρ.g x<=ρ.g a[na-1]:=λx hx=>Lx 7 la T.sa hx;have fb:∀x∈b.toList.take nb,ρ.g x<=ρ.g b[nb-1]:=λx hx=>Lx 7 lb T.sb hx;have ha:na-1<a.size:=7
 have hb:nb-1<b.size:=7
 unfold K3;dsimp only;refine apC (ZA hb (apC (ZA ha (apC (qR hk h0 (T.mb _ 5) (T.ma _ 5) ?_)))));dsimp only;by_cases c:ρ.g b[nb-1]<ρ.g a[na-1]
 .rw [a7Y c,aS1 8];refine apC (ZA ha ?_);have M2:=M.oh 7 la (λx hx=>by have:=fb x hx;lia);by_cases e:na-1=0
  .rw [aS1 (by simpa using e)];exact aJm (8,.inl (109,M2.res (.inl e),),)
  .rw [aWd (by simpa using e)];have J:Jh ρ a b (m+1) (na-1) nb (out.push a[na-1]):=(M2,7,7,lb,7,pb,);by_cases c2:ac+1 ≥ mg
   .rw [aS1 c2];exact aJm (8,.inr (165,J,),)
   .rw [aWd c2];exact aJm (293,J,)
 .rw [alm c,aWd 5];refine apC (ZA hb ?_);have M2:=M.n9 7 lb (λx hx=>by have:=fa x hx;lia);by_cases e:nb-1=1
  .rw [aS1 (by simpa using e)];exact aJm (8,.inl (109,M2.first' T.first e,),)
  .rw [aWd (by simpa using e)];have J:Jh ρ a b (m+1) na (nb-1) (out.push b[nb-1]):=(M2,7,la,7,pa,7,);by_cases c2:bc+1 ≥ mg
   .rw [aS1 c2];exact aJm (8,.inr (165,J,),)
   .rw [aWd c2];exact aJm (293,J,)
theorem ZkZ{st:SortSt}{out:Array Keyed}{na nb g m:Nat}(h0:aE.kJ prog w A s κ ρ a₀)(hk:kindOf st=κ)(T:Fv ρ a₀ a b)(h:Jh ρ a b m na nb out):wpS (model prog w) A E s (K2 a b (none,na,nb,out,g)) (λr st'=>Sm st st'/\match r with
  | .done c=>∃r q,c=(!r,q)/\Res ρ a.toList b.toList r
  | .yield c=>∃na nb out g,c=(none,na,nb,out,g)/\Jh ρ a b (m+1) na nb out) st:=by
 have pos:0<a.size+b.size:=by have:=h.la;have:=h.pa;lia
 unfold K2;dsimp only;refine apC (a6d (aPz (I:=λx c st2=>st2=st/\∃na nb out k k1,c=(none,na,nb,out,k,k1)/\Jh ρ a b (m+x) na nb out) (Q:=λc st2=>st2=st/\Vt ρ a b (m+1) c) ?turn ?last ?first) ?after)
 case first=>exact(293,h,)
 case last=>
  rintro c st2 ⟨rfl,na,nb,out,k,k1,rfl,J⟩;exact(8,.inr (165,J.weak 7,),)
 case turn=>
  rintro x c st2 _ hx ⟨rfl,na,nb,out,k,k1,rfl,J⟩;refine a6d (ZkY h0 hk T J) ?_;rintro r st3 ⟨rfl,hr⟩;cases r with
  |done c=>
   refine(8,?_,);rcases hr with hr|⟨na,nb,out,k,k1,rfl,J⟩
   .exact .inl hr
   .exact .inr (165,J.weak 7,)
  |yield c=>exact(8,hr,)
 case after=>
  rintro c st2 ⟨rfl,hc⟩;rcases hc with⟨r,q,rfl,R⟩|⟨na,nb,out,k,k1,rfl,J⟩
  .exact aJm (Sm.refl _,109,R,)
  .dsimp only;refine apC (wpS_lift (atV (8,?_,)));refine apC (a6d (aPz (I:=λx c st3=>Sm st2 st3/\∃na nb out g k k1,c=(none,na,nb,out,g,k,k1)/\Jh ρ a b (m+x) na nb out) (Q:=λc st3=>Sm st2 st3/\Vs ρ a b (m+1) c) ?jturn ?jlast ?jfirst) ?jafter)
   case jfirst=>exact(Sm.refl _,229,J.weak 7,)
   case jlast=>
    rintro c st3 ⟨hS,na,nb,out,g,k,k1,rfl,J⟩;exact(hS,.inr (229,J.weak 7,),)
   case jturn=>
    rintro x c st3 _ hx ⟨hS,na,nb,out,g,k,k1,rfl,J⟩;have ND:kindOf st3=κ:=hS.1.trans hk;dsimp only;rw[show(if g>1 then hi1 a b na nb out (g-1) k k1 else hi1 a b na nb out g k k1)=hi1 a b na nb out (if g>1 then g-1 else g) k k1 by split <;> rfl];refine a6d (ZkX h0 ND T hS J) ?_;rintro r cY ⟨yD,hr⟩;cases r with
    |done c=>
     refine(yD,?_,);rcases hr with hr|⟨na,nb,out,g,k,k1,rfl,J⟩
     .exact .inl hr
     .exact .inr (229,J.weak 7,)
    |yield c=>exact(yD,hr,)
   case jafter=>
    rintro c st3 ⟨hS,hc⟩;rcases hc with⟨r,q,rfl,R⟩|⟨na,nb,out,g,k,k1,rfl,J⟩
    .exact aJm (hS,109,R,)
    .refine apC (Lf λcY yD=>aJm (hS.trans yD,133,J,))
theorem ZfP{st:SortSt}{Q:Array Keyed->SortSt->Prop}(h0:aE.kJ prog w A s κ ρ a₀)(hk:kindOf st=κ)(T:Fv ρ a₀ a b)(ha:0<a.size)(hb:0<b.size)(hf:∀x∈b.toList,ρ.g x<=ρ.g a[a.size-1])
  (h:∀r st',Sm st st'->Res ρ a.toList b.toList r->Q r st'):wpS (model prog w) A E s (OO a b) Q st:=by
 refine ZfO _ _ ?_;refine apC (wpS_lift (atV (8,?_,)));refine apC (ZA (show a.size-1<a.size by lia) ?_);have ta:a.toList.take a.size=a.toList:=adq 5;have tb:b.toList.take b.size=b.toList:=adq 5;have M0:MH ρ a.toList b.toList (#[]:Array Keyed).toList.reverse a.size b.size:=(by rw[ta,tb];simp,by rw[ta];simpa using T.sa,by rw[tb];simpa using T.sb,);have M1:MH ρ a.toList b.toList (#[a[a.size-1]]:Array Keyed).toList.reverse (a.size-1) b.size:=M0.oh ha (amA _) (λx hx=>hf x (by rw[tb]at hx;exact hx));by_cases e1:a.size-1=0
 .rw [aS1 (by simpa using e1)];exact aJm (h _ _ (Sm.refl _) (M1.res (.inl e1)))
 .rw [aWd (by simpa using e1)];by_cases e2:b.size=1
  .rw [aS1 (by simpa using e2)];exact aJm (h _ _ (Sm.refl _) (M1.first' T.first e2))
  .rw [aWd (by simpa using e2)];refine apC (aYo ?_);refine apC (a6d (aPz (I:=λx c st2=>Sm st st2/\∃na nb out g,c=(none,na,nb,out,g)/\Jh ρ a b (x+1) na nb out) (Q:=λc st2=>Sm st st2/\∃r q,c=(!r,q)/\Res ρ a.toList b.toList r) ?turn ?last ?first) ?after)
   case first=>exact(Sm.refl _,133,M1,7,7,7,7,7,)
   case last=>
    rintro c st2 ⟨_,na,nb,out,g,rfl,J⟩;have:=J.bd;have:=J.pa;lia
   case turn=>
    rintro x c st2 _ hx ⟨hS,na,nb,out,g,rfl,J⟩;refine a6d (ZkZ h0 (hS.1.trans hk) T J) ?_;rintro r st3 ⟨DQ,hr⟩;cases r with
    |done c=>exact(hS.trans DQ,hr,)
    |yield c=>exact(hS.trans DQ,hr,)
   case after=>
    rintro c st2 ⟨hS,r,q,rfl,R⟩;exact aJm (h r st2 hS R)
end
end L2.A4
set_option maxHeartbeats 400000
namespace L2.A4
open PySem PySem.Spec PyProof.Rows
def ON:Nat->StateT SortSt Sem Bool:=sortPriv% PySem.Builtin.mergeAt
def layAt(arr:Array Keyed)(at_:Nat)(l:List Keyed)(k:Nat):Array Keyed:=(l.zipIdx k).foldl (λa (p,j)=>a.setIfInBounds (at_+j) p) arr
theorem LF(arr:Array Keyed)(at_:Nat)(l:List Keyed)(k i:Nat)(h:at_+k+l.length<=arr.size):(layAt arr at_ l k)[i]?=if at_+k<=i/\i<at_+k+l.length then l[i-(at_+k)]? else arr[i]?:=by
 induction l generalizing arr k with
 |nil=>rw[aWd 5];rfl
 |cons x l ih=>
  have e:layAt arr at_ (x ::l) k=layAt (arr.setIfInBounds (at_+k) x) at_ l (k+1):=by
   unfold layAt;rw[List.zipIdx_cons,List.foldl_cons]
  simp only[aII]at h ⊢;rw[e,ih (arr.setIfInBounds (at_+k) x) (k+1) (by simp;lia)];by_cases c:at_+k=i
  .subst c;rw[aWd 7,aS1 7,adx,Array.getElem?_setIfInBounds_self_of_lt 7];rfl
  .by_cases c2:at_+(k+1)<=i/\i<at_+(k+1)+l.length
   .rw [aS1 c2,aS1 7,show i-(at_+k)=(i-(at_+(k+1)))+1 by lia,a9k]
   .rw [aWd c2,aWd 7,Array.getElem?_setIfInBounds_ne c]
theorem ZdV(arr:Array Keyed)(at_:Nat)(l:List Keyed)(h:at_+l.length<=arr.size):(layAt arr at_ l 0).toList=arr.toList.take at_++(l++arr.toList.drop (at_+l.length)):=by
 refine aNd λi=>?_;rw[aCG,LF arr at_ l 0 i 7,Nat.add_zero];have hl:(arr.toList.take at_).length=at_:=by rw[agt,aRY];lia
 by_cases c1:i<at_
 .rw [aWd 7,ahZ 7,List.getElem?_take_of_lt c1,aCG]
 .rw [aWn 7,hl];by_cases c2:i<at_+l.length
  .rw [aS1 7,ahZ 7]
  .rw [aWd 7,aWn 7,getElem?_drop,aCG];congr 1
   lia
theorem ZfQ{arr:Array Keyed}{at_ n:Nat}{l:List Keyed}(h:at_+n<=arr.size)(p:l.Perm (arr.extract at_ (at_+n)).toList):(layAt arr at_ l 0).Perm arr:=by
 rw[Oz]at p;have e:l.length=n:=by rw[p.length_eq,agt,aKZ,aRY];lia
 refine a1P.2 ?_;rw[ZdV arr at_ l 7,e];have d:arr.toList=arr.toList.take at_++((arr.toList.drop at_).take n++arr.toList.drop (at_+n)):=by
  rw[<-drop_drop,aw0,aw0]
 conv=>rhs;rw[d]
 exact(p.append_right _).append_left _
section
variable{prog:Program}{w:World}{A:Around}{E:Value->Shared->Prop}{s:Shared}{a₀:Array Keyed}{κ:SortKind}{ρ:aE.RR}
theorem pw_ex{arr:Array Keyed}{i j:Nat}(hj:j<=arr.size)(h:e8 ρ arr i j):(arr.extract i j).toList.Pairwise (Lk ρ):=by
 refine ahk.2 λx y hx hy hxy=>?_;simp only[aRY,Array.size_extract]at hx hy;have:=h (i+x) (i+y) 7 7 7;rw[bE (show i+x<arr.size by lia),bE (show i+y<arr.size by lia)]at this;simpa[Lk]using this
theorem Sy{arr:Array Keyed}{i j:Nat}{x:Keyed}(h:x∈(arr.extract i j).toList):∃k,i<=k/\k<j/\k<arr.size/\ρ.g x=aE.Kg ρ arr k/\x∈arr.toList:=by
 rw[E5]at h;let(k,h1,h2,h3,rfl,):=Ox h;exact(k,h1,h2,h3,(bE h3).symm,5,)
theorem Oi{arr:Array Keyed}{at_:Nat}{l:List Keyed}(h:at_+l.length<=arr.size){i:Nat}(h1:at_<=i)(h2:i<at_+l.length):aE.Kg ρ (layAt arr at_ l 0) i=ρ.g (l[i-at_]'7):=by
 have:=LF arr at_ l 0 i 7;rw[aS1 7,Nat.add_zero,ais 7]at this;unfold aE.Kg;rw[this];rfl
theorem E4{arr:Array Keyed}{at_:Nat}{l:List Keyed}(h:at_+l.length<=arr.size){i:Nat}(h1:i<at_\/at_+l.length<=i):aE.Kg ρ (layAt arr at_ l 0) i=aE.Kg ρ arr i:=by
 have:=LF arr at_ l 0 i 7;rw[aWd 7]at this;unfold aE.Kg;rw[this]
end
end L2.A4
set_option maxHeartbeats 1000000
namespace L2.A4
open PySem PySem.Spec PyProof.Rows
section
variable{prog:Program}{w:World}{A:Around}{E:Value->Shared->Prop}{s:Shared}{a₀:Array Keyed}{κ:SortKind}{ρ:aE.RR}
theorem ZjS{arr:Array Keyed}{u lo hi:Nat}{r:List Keyed}(h:u+r.length<=arr.size)(hr:r.Pairwise (Lk ρ))(hne:0<r.length)(hl:e8 ρ arr lo u)(hh:e8 ρ arr (u+r.length) hi)
  (bl:∀i,lo<=i->i<u->∀x∈r,aE.Kg ρ arr i<=ρ.g x) (bh:∀i,u+r.length<=i->i<hi->∀x∈r,ρ.g x<=aE.Kg ρ arr i):e8 ρ (layAt arr u r 0) lo hi:=by
 intro i j hi1 hij hj;by_cases a1:i<u
 .rw [E4 h (.inl a1)];by_cases b1:j<u
  .rw [E4 h (.inl b1)];exact hl i j hi1 hij b1
  .by_cases b2:j<u+r.length
   .rw [Oi h 7 b2];exact bl i hi1 a1 _ (aNb _)
   .rw [E4 h (.inr 7)];exact auf (bl i hi1 a1 (r[0]'hne) (aNb _)) (bh j 7 hj _ (aNb _))
 .by_cases a2:i<u+r.length
  .rw [Oi h 7 a2];by_cases b2:j<u+r.length
   .rw [Oi h 7 b2];by_cases e:i=j
    .subst e;exact aeM _
    .exact ahk.1 hr (i-u) (j-u) 7 7 7
   .rw [E4 h (.inr 7)];exact bh j 7 hj _ (aNb _)
  .rw [E4 h (.inr 7),E4 h (.inr 7)];exact hh i j 7 hij hj
theorem Cut.DC{left:Bool}{kv:Int}{arr:Array Keyed}{base n k:Nat}(h:Cut ρ left kv arr base n k){i:Nat}(h1:base<=i)(h2:i<base+k):aE.Kg ρ arr i<=kv:=by
 have:=h.lo (i-base) 7;unfold Bd at this;rw[show base+(i-base)=i by lia]at this;cases left with
 |true=>simp only[akf,ada]at this;lia
 |false=>simp only[acv,aaq,aRZ,aCy]at this;lia
theorem Cut.yy{left:Bool}{kv:Int}{arr:Array Keyed}{base n k:Nat}(h:Cut ρ left kv arr base n k){i:Nat}(h1:base+k<=i)(h2:i<base+n):kv<=aE.Kg ρ arr i:=by
 have:=h.hi (i-base) 7 7;unfold Bd at this;rw[show base+(i-base)=i by lia]at this;cases left with
 |true=>simp only[akf,aCy]at this;lia
 |false=>simp only[acv,aaq,Bool.not_eq_false',ada]at this;lia
theorem ZjT{st st':SortSt}{Q:PUnit->SortSt->Prop}(h:Q ⟨⟩ st'):wpS (model prog w) A E s (set st') Q st:=aRu (f:=λ_=>st') h
theorem ZfR{st:SortSt}{i sa na p sb nb q:Nat}{Q:Bool->SortSt->Prop}(h0:aE.kJ prog w A s κ ρ a₀)(hk:kindOf st=κ)(ha:∀x∈(arrOf st).toList,x∈a₀.toList)(hfl:failedOf st=none)
  (e1:(pendingOf st)[i]?=!(sa,na,p)) (e2:(pendingOf st)[i+1]?=!(sb,nb,q)) (mL:sb=sa+na) (pa:0<na) (pb:0<nb) (hsz:sb+nb<=(arrOf st).size) (s1:e8 ρ (arrOf st) sa (sa+na)) (s2:e8 ρ (arrOf st) sb (sb+nb))
  (h:∀st',kindOf st'=κ->failedOf st'=none->(arrOf st').Perm (arrOf st)->pendingOf st'=((pendingOf st).setIfInBounds i (sa,na+nb,p)).eraseIdxIfInBounds (i+1)->e8 ρ (arrOf st') sa (sb+nb) ->
   (∀j,j<sa\/sb+nb<=j->(arrOf st')[j]?=(arrOf st)[j]?)->Q true st'):wpS (model prog w) A E s (ON i) Q st:=by
 show wpAny (model prog w) A (ON i st) _ E s
 wp_delta
 wp_delta
 refine yM 8 ?_;refine apC (aYo ?_);rw[e1,e2];refine apC (ZjT (st':=SortSt.mk' (kindOf st) (arrOf st) (((pendingOf st).setIfInBounds i (sa,na+nb,p)).eraseIdxIfInBounds (i+1)) (gallopOf st) (failedOf st)) ?_);generalize AE:SortSt.mk' (kindOf st) (arrOf st) (((pendingOf st).setIfInBounds i (sa,na+nb,p)).eraseIdxIfInBounds (i+1)) (gallopOf st) (failedOf st)=st1;have k1:kindOf st1=κ:=by rw[<-AE];exact hk
 have f1:failedOf st1=none:=by rw[<-AE];exact hfl
 have a1:arrOf st1=arrOf st:=by rw[<-AE]
 have p1:pendingOf st1=((pendingOf st).setIfInBounds i (sa,na+nb,p)).eraseIdxIfInBounds (i+1):=by rw[<-AE]
 have hb0:sb<(arrOf st).size:=7
 refine apC (ZA hb0 ?_);refine apC (Fo k1 h0 ha (ha _ 5) (show sa+na<=(arrOf st).size by lia) pa s1 (λk C1=>?_));have c1:=C1.le;rw[<-bE hb0]at C1;dsimp only;have whole:(∀x y,sa<=x->x<sb->sb<=y->y<sb+nb->aE.Kg ρ (arrOf st) x<=aE.Kg ρ (arrOf st) y)->e8 ρ (arrOf st) sa (sb+nb):=λhc x y hx hxy hy=>by
  by_cases u:y<sb
  .exact s1 x y hx hxy 7
  .by_cases v:x<sb
   .exact hc x y hx v 7 hy
   .exact s2 x y 7 hxy hy
 by_cases z:na-k=0
 .rw [aS1 (by simpa using z)];refine aJm (h st1 k1 f1 (by rw[a1]) p1 ?_ (λj _=>by rw[a1]));rw[a1];refine whole λx y hx Nq hy Nn=>?_;exact auf (C1.DC hx 7) (s2 sb y (amA _) hy Nn)
 .rw [aWd (by simpa using z)];have DN:sa+k+(na-k)-1<(arrOf st).size:=7
  refine apC (ZA DN ?_);refine apC (Fo k1 h0 ha (ha _ 5) (show sb+nb<=(arrOf st).size by lia) 7 s2 (λn2 C2=>?_));have c2:=C2.le;rw[<-bE DN,show sa+k+(na-k)-1=sb-1 by lia]at C2;dsimp only;by_cases z2:n2=0
  .rw [aS1 (by simpa using z2)];refine aJm (h st1 k1 f1 (by rw[a1]) p1 ?_ (λj _=>by rw[a1]));rw[a1];refine whole λx y hx Nq hy Nn=>?_;exact auf (s1 x (sb-1) hx 7 7) (C2.yy 7 Nn)
  .rw [aWd (by simpa using z2)];have c3:=Nat.pos_of_ne_zero z2;have mX:∀x∈((arrOf st).extract (sa+k) sb).toList,∃j,sa+k<=j/\j<sb/\j<(arrOf st).size/\ρ.g x=aE.Kg ρ (arrOf st) j/\x∈(arrOf st).toList:=λx hx=>Sy hx;have mY:∀x∈((arrOf st).extract sb (sb+n2)).toList,∃j,sb<=j/\j<sb+n2/\j<(arrOf st).size/\ρ.g x=aE.Kg ρ (arrOf st) j/\x∈(arrOf st).toList:=λx hx=>Sy hx;have sX:((arrOf st).extract (sa+k) sb).toList.Pairwise (Lk ρ):=pw_ex 7 (λx y p q r=>s1 x y 7 q 7);have sY:((arrOf st).extract sb (sb+n2)).toList.Pairwise (Lk ρ):=pw_ex 7 (λx y p q r=>s2 x y 7 q 7);have zX:((arrOf st).extract (sa+k) sb).size=na-k:=by rw[Array.size_extract];lia
   have zY:((arrOf st).extract sb (sb+n2)).size=n2:=by rw[Array.size_extract];lia
   have low:∀x∈((arrOf st).extract (sa+k) sb).toList,aE.Kg ρ (arrOf st) sb<=ρ.g x:=λx hx=>by
    let(j,j1,j2,j3,e,_,):=mX x hx;rw[e];exact C1.yy j1 7
   have high:∀x∈((arrOf st).extract sb (sb+n2)).toList,ρ.g x<=aE.Kg ρ (arrOf st) (sb-1):=λx hx=>by
    let(j,j1,j2,j3,e,_,):=mY x hx;rw[e];exact C2.DC j1 j2
   have fin:∀r st',Sm st1 st'->Res ρ ((arrOf st).extract (sa+k) sb).toList ((arrOf st).extract sb (sb+n2)).toList r->wpS (model prog w) A E s (do
     modify λs=>SortSt.mk' (kindOf s) (layAt (arrOf s) (sa+k) r.toList 0) (pendingOf s) (gallopOf s) (failedOf s)
     return (failedOf (<-get)).isNone) Q st':=by
    rintro r st' ⟨DR,wJ,DQ,yD⟩ ⟨rp,rs⟩;refine apC (aRu (apC (aYo (aJm ?_))));have ex:((arrOf st).extract (sa+k) sb).toList++((arrOf st).extract sb (sb+n2)).toList=((arrOf st).extract (sa+k) (sa+k+(na-k+n2))).toList:=by
     rw[E5,E5,E5,drop_take,drop_take,drop_take];rw[show sb-(sa+k)=na-k by lia,show sb+n2-sb=n2 by lia,show sa+k+(na-k+n2)-(sa+k)=(na-k)+n2 by lia,List.take_add,drop_drop,show sa+k+(na-k)=sb by lia]
    have len:r.toList.length=na-k+n2:=by rw[rp.length_eq,a14,aRY,aRY,zX,zY]
    have Ib:∀x∈r.toList,aE.Kg ρ (arrOf st) sb<=ρ.g x/\ρ.g x<=aE.Kg ρ (arrOf st) (sb-1):=λx hx=>by
     rcases bdf.1 (rp.mem_iff.1 hx) with hx|hx
     .let(j,j1,j2,j3,e,_,):=mX x hx;exact(low x hx,by rw[e];exact s1 j (sb-1) 7 7 7,)
     .let(j,j1,j2,j3,e,_,):=mY x hx;exact(by rw[e];exact s2 sb j (amA _) j1 7,high x hx,)
    have K1:failedOf st'=none:=yD.trans f1;show Q (failedOf st').isNone _;rw[K1];refine h _ (DR.trans k1) 8 ?_ (DQ.trans p1) ?_ ?_
    .show (layAt (arrOf st') (sa+k) r.toList 0).Perm (arrOf st);rw[wJ,a1];exact ZfQ (n:=na-k+n2) 7 (by rw[<-ex];exact rp)
    .show e8 ρ (layAt (arrOf st') (sa+k) r.toList 0) sa (sb+nb);rw[wJ,a1];refine ZjS 7 rs 7 (λx y p q r=>s1 x y p q 7) (λx y p q r=>s2 x y 7 q r) (λi i1 i2 x hx=>?_) (λi i1 i2 x hx=>?_)
     .exact auf (C1.DC i1 7) (Ib x hx).1
     .exact auf (Ib x hx).2 (C2.yy 7 i2)
    .intro j hj;show(layAt (arrOf st') (sa+k) r.toList 0)[j]?=_;rw[wJ,a1,LF _ _ _ _ _ 7,aWd 7]
   by_cases c:na-k<=n2
   .rw [aS1 c];refine apC (ZfN h0 k1 (λx hx=>?_,λx hx=>?_,sX,sY,λy hy x hx=>?_,) (show 0<((arrOf st).extract (sa+k) sb).size by lia) (show 0<((arrOf st).extract sb (sb+n2)).size by lia) (λx hx=>?_) (λr st' hS R=>fin r st' hS R))
    .let(_,_,_,_,_,m,):=mX x hx;exact ha x m
    .let(_,_,_,_,_,m,):=mY x hx;exact ha x m
    .rw [zX,E5,drop_drop]at hx;let(j,j1,j2,j3,rfl,):=Ox hx;have ej:j=sb-1:=7
     subst ej;rw[<-bE j3];exact high y hy
    .rw [aIx,<-bE];exact low x hx
   .rw [aWd c];refine apC (ZfP h0 k1 (λx hx=>?_,λx hx=>?_,sX,sY,λy hy x hx=>?_,) (show 0<((arrOf st).extract (sa+k) sb).size by lia) (show 0<((arrOf st).extract sb (sb+n2)).size by lia) (λx hx=>?_) (λr st' hS R=>fin r st' hS R))
    .let(_,_,_,_,_,m,):=mX x hx;exact ha x m
    .let(_,_,_,_,_,m,):=mY x hx;exact ha x m
    .let(j,j1,j2,rfl,):=Oj hy;rw[aIx,<-bE,show sb+j=sb by lia];exact low x hx
    .rw [aIx,<-bE];have:=high x hx;rw[show sa+k+(((arrOf st).extract (sa+k) sb).size-1)=sb-1 by lia];exact this
end
structure GP(κ:SortKind)(a₀:Array Keyed)(P:Array (Nat×Nat×Nat))(st:SortSt):Prop where
 perm:(arrOf st).Perm a₀
 kn:kindOf st=κ
 failed:failedOf st=none
 pend:pendingOf st=P
section
variable{prog:Program}{w:World}{A:Around}{E:Value->Shared->Prop}{s:Shared}{a₀:Array Keyed}{κ:SortKind}{ρ:aE.RR}{P:Array (Nat×Nat×Nat)}
theorem GP.size{st:SortSt}(h:GP κ a₀ P st):(arrOf st).size=a₀.size:=h.perm.size_eq
theorem GP.setArr{st:SortSt}{xs:Array Keyed}(h:GP κ a₀ P st)(hp:xs.Perm (arrOf st)):GP κ a₀ P (setArr st xs):=(hp.trans h.perm,h.kn,h.failed,h.pend,)
theorem GP.mem{st:SortSt}(h:GP κ a₀ P st):∀x∈(arrOf st).toList,x∈a₀.toList:=λx hx=>(a1P.mp h.perm).mem_iff.mp hx
theorem Jk{st:SortSt}{i j:Nat}{Q:Option Bool->SortSt->Prop}(hB:GP κ a₀ P st)(h0:aE.kJ prog w A s κ ρ a₀)(hi:i<a₀.size)(hj:j<a₀.size)
  (h:Q (!(decide (aE.Kg ρ (arrOf st) i<aE.Kg ρ (arrOf st) j))) st):wpS (model prog w) A E s (ltAt' i j) Q st:=by
 have hi':i<(arrOf st).size:=by rw[hB.size];exact hi
 have hj':j<(arrOf st).size:=by rw[hB.size];exact hj
 rw[bE hi',bE hj']at h;rw[ltAt'_eq];refine apC (aYo ?_);refine apC (ZA hi' (apC (ZA hj' ?_)));exact qR hB.kn h0 (hB.mem _ 5) (hB.mem _ 5) h
theorem ZjU{st:SortSt}{lo n ok:Nat}{Q:Bool->SortSt->Prop}(h0:aE.kJ prog w A s κ ρ a₀)(hn:lo+n<=a₀.size)(hok:ok<=n)(YJ:1<=ok)(hB:GP κ a₀ P st)(hs:e8 ρ (arrOf st) lo (lo+ok))
  (h:∀st',GP κ a₀ P st'->e8 ρ (arrOf st') lo (lo+n)->(∀j,j<lo\/lo+n<=j->(arrOf st')[j]?=(arrOf st)[j]?)->Q true st'):wpS (model prog w) A E s (binarySort' lo n ok) Q st:=by
 rw[binarySort'_eq];refine apC (a6d (aPz (I:=λk c st1=>c=(none,())/\GP κ a₀ P st1/\e8 ρ (arrOf st1) lo (lo+min k n)/\∀j,j<lo\/lo+n<=j->(arrOf st1)[j]?=(arrOf st)[j]?)
  (Q:=λc st1=>c=(none,())/\GP κ a₀ P st1/\e8 ρ (arrOf st1) lo (lo+n)/\∀j,j<lo\/lo+n<=j->(arrOf st1)[j]?=(arrOf st)[j]?) ?turn ?last ?first) ?after)
 case after=>
  rintro c st1 ⟨rfl,b1,i1,o1⟩;exact aJm (h st1 b1 i1 o1)
 case first=>
  rw[show min (max ok 1) n=ok by lia];exact(8,hB,hs,λ_ _=>8,)
 case last=>
  rintro c st1 ⟨hc,b1,i1,o1⟩;rw[show min (max (max ok 1) n) n=n by lia]at i1;exact(hc,b1,i1,o1,)
 case turn=>
  rintro k c st1 YE hkn ⟨rfl,b1,i1,o1⟩;rw[show min k n=k by lia]at i1;have hk:lo+k<a₀.size:=7
  have sz:=b1.size;refine apC (a6d (aPz (I:=λx c st2=>st2=st1/\∃l r,c=(none,l,r)/\l<=r/\r<=k/\r-l<=k-x/\(∀i,i<l->aE.Kg ρ (arrOf st1) (lo+i)<=aE.Kg ρ (arrOf st1) (lo+k))/\(∀i,r<=i->i<k->aE.Kg ρ (arrOf st1) (lo+k)<=aE.Kg ρ (arrOf st1) (lo+i)))
   (Q:=λc st2=>st2=st1/\∃l r,c=(none,l,r)/\l<=k/\(∀i,i<l->aE.Kg ρ (arrOf st1) (lo+i)<=aE.Kg ρ (arrOf st1) (lo+k))/\(∀i,l<=i->i<k->aE.Kg ρ (arrOf st1) (lo+k)<=aE.Kg ρ (arrOf st1) (lo+i))) ?iturn ?ilast ?ifirst) ?iafter)
  case ifirst=>exact(8,0,k,8,7,7,7,λi hi=>absurd hi 7,λi p q=>absurd q 7,)
  case ilast=>
   rintro c st2 ⟨rfl,l,r,rfl,hlr,hrk,hm,u1,u2⟩;have e:l=r:=7
   subst e;exact(8,l,l,8,hrk,u1,u2,)
  case iturn=>
   rintro x c st2 _ hxk ⟨rfl,l,r,rfl,hlr,hrk,hm,u1,u2⟩;dsimp only;by_cases hge:l ≥ r
   .rw [aS1 hge];have e:l=r:=7
    subst e;exact aJm (8,l,l,8,hrk,u1,u2,)
   .rw [aWd hge];refine apC (Jk b1 h0 hk 7 ?_);by_cases c:aE.Kg ρ (arrOf st2) (lo+k)<aE.Kg ρ (arrOf st2) (lo+(l+r)/2)
    .simp only[c,amM,akf];refine aJm (8,l,(l+r)/2,8,7,7,7,u1,λi p q=>?_,);have:=i1 (lo+(l+r)/2) (lo+i) 7 7 7;lia
    .simp only[c,aiS,acv,aaq];refine aJm (8,(l+r)/2+1,r,8,7,7,7,λi p=>?_,u2,);have:=i1 (lo+i) (lo+(l+r)/2) 7 7 7;lia
  case iafter=>
   rintro c st2 ⟨rfl,l,r,rfl,hlk,u1,u2⟩;show wpS _ _ _ _ (do moveDown' (lo+k) (lo+l);pure (ForInStep.yield (none,()))) _ _;rw[moveDown'_eq];have hks:lo+k<(arrOf st2).size:=7
   refine apC (aRu (aJm (8,b1.setArr (bubble_perm _ _ _),?_,?_,)))
   .rw [show min (k+1) n=k+1 by lia];intro i j hi hij hj;show aE.Kg ρ (bubble (arrOf st2) (lo+k) (lo+k-(lo+l))) i<=aE.Kg ρ (bubble (arrOf st2) (lo+k) (lo+k-(lo+l))) j;rw[aE.ow hks 7,aE.ow hks 7,show lo+k-(lo+k-(lo+l))=lo+l by lia];have U1:∀i,lo<=i->i<lo+l->aE.Kg ρ (arrOf st2) i<=aE.Kg ρ (arrOf st2) (lo+k):=λi p q=>by
     have:=u1 (i-lo) 7;rw[show lo+(i-lo)=i by lia]at this;exact this
    have U2:∀i,lo+l<=i->i<lo+k->aE.Kg ρ (arrOf st2) (lo+k)<=aE.Kg ρ (arrOf st2) i:=λi p q=>by
     have:=u2 (i-lo) 7 7;rw[show lo+(i-lo)=i by lia]at this;exact this
    by_cases a1:i=lo+l
    .rw [aS1 a1];by_cases b2:j=lo+l
     .rw [aS1 b2];exact aeM _
     .rw [aWd b2,aS1 7];exact U2 _ 7 7
    .rw [aWd a1];by_cases a2:j=lo+l
     .rw [aS1 a2,aWd 7];exact U1 _ 7 7
     .rw [aWd a2];by_cases a3:lo+l<i/\i<=lo+k
      .rw [aS1 a3,aS1 7];exact i1 _ _ 7 7 7
      .rw [aWd a3];by_cases a4:lo+l<j/\j<=lo+k
       .rw [aS1 a4];exact i1 _ _ 7 7 7
       .rw [aWd a4];exact i1 _ _ 7 7 7
   .intro j hj;show(bubble (arrOf st2) (lo+k) (lo+k-(lo+l)))[j]?=_;rw[getElem?_bubble hks _ 7,aWd 7,aWd 7];exact o1 j hj
end
abbrev AS:=Option (Option Nat)×Nat
abbrev DS:=Option (Option Nat)×Nat×Nat
def yR(lo a nrem:Nat):StateT SortSt Sem AS:=forIn [a:nrem] ((none,a):AS) λ_ c=>do
 let x <-ltAt' (lo+c.2) (lo+c.2-1)
 match x with
 |some y=>if y=true then pure (.done (none,c.2)) else pure (.yield (none,c.2+1))
 |_=>pure (.done (!none,c.2))
def qd(lo n nrem:Nat):StateT SortSt Sem (Option Nat):=do
 reverseSlice' lo (lo+n)
 let c <-yR lo n nrem
 match c.1 with
 |some r=>pure r
 |none=>pure (!c.2)
def uW(lo n nrem:Nat):StateT SortSt Sem DS:=forIn [n:nrem] ((none,n,0):DS) λ_ c=>do
 let x <-ltAt' (lo+c.2.1) (lo+c.2.1-1)
 match x with
 | some y=>if y=true then(if c.2.2>0 then(do
    reverseSlice' (lo+c.2.1-(c.2.2+1)) (lo+c.2.1)
    pure (.yield (none,c.2.1+1,0))) else pure (.yield (none,c.2.1+1,0))) else(do
   let x <-ltAt' (lo+c.2.1-1) (lo+c.2.1)
   match x with
   |some z=>if z=true then pure (.done (none,c.2.1,c.2.2)) else pure (.yield (none,c.2.1+1,c.2.2+1))
   |_=>pure (.done (!none,c.2.1,c.2.2)))
 |_=>pure (.done (!none,c.2.1,c.2.2))
def qF(lo n nrem:Nat):StateT SortSt Sem (Option Nat):=do
 liftM (rule "list.sort.descending-run")
 let c <-uW lo (n+1) nrem
 match c.1 with
 |some r=>pure r
 | none=>if c.2.2>0 then(do
   reverseSlice' (lo+c.2.1-(c.2.2+1)) (lo+c.2.1)
   qd lo c.2.1 nrem) else qd lo c.2.1 nrem
theorem ZgW(lo nrem:Nat):countRun' lo nrem=(do
  let c <-yR lo 1 nrem
  match c.1 with
  |some r=>pure r
  | none=>if(c.2 ==nrem)=true then pure (!c.2) else if c.2>1 then(do
    let x <-ltAt' lo (lo+c.2-1)
    match x with
    | some y=>if y=true then pure (!c.2) else(do
      reverseSlice' lo (lo+c.2)
      qF lo c.2 nrem)
    |_=>pure none) else qF lo c.2 nrem):=by
 rw[countRun'_eq];unfold qF qd uW yR;have tl:∀{f g:AS->StateT SortSt Sem (Option Nat)}{m:StateT SortSt Sem AS},(∀r n,f (r,n)=g (r,n))->(m >>=f)=(m >>=g):=λh=>aFk _ (funext λ(r,n,)=>h r n);have td:∀{f g:DS->StateT SortSt Sem (Option Nat)}{m:StateT SortSt Sem DS},(∀r n q,f (r,n,q)=g (r,n,q))->(m >>=f)=(m >>=g):=λh=>aFk _ (funext λ(r,n,q,)=>h r n q);have bc:∀{α:Type}{f g:α->StateT SortSt Sem (Option Nat)}{m:StateT SortSt Sem α},(∀x,f x=g x)->(m >>=f)=(m >>=g):=λh=>aFk _ (funext h);refine tl λr n=>?_;cases r with
 |some r=>rfl
 |none=>
  dsimp only;split
  .rfl
  .split
   .refine bc λx=>?_;cases x with
    |none=>rfl
    |some y=>
     dsimp only;split
     .rfl
     .refine bc λ_=>bc λ_=>td λr n q=>?_;cases r with
      |some r=>rfl
      |none=>
       dsimp only;split
       .exact bc λ_=>bc λ_=>tl λr n=>by cases r <;> rfl
       .exact bc λ_=>tl λr n=>by cases r <;> rfl
   .refine bc λ_=>td λr n q=>?_;cases r with
    |some r=>rfl
    |none=>
     dsimp only;split
     .exact bc λ_=>bc λ_=>tl λr n=>by cases r <;> rfl
     .exact bc λ_=>tl λr n=>by cases r <;> rfl
section
variable{prog:Program}{w:World}{A:Around}{E:Value->Shared->Prop}{s:Shared}{a₀:Array Keyed}{κ:SortKind}{ρ:aE.RR}{P:Array (Nat×Nat×Nat)}
def Out(lo n:Nat)(xs ys:Array Keyed):Prop:=∀j,j<lo\/lo+n<=j->ys[j]?=xs[j]?
theorem LU{xs:Array Keyed}{lo n i j:Nat}(hj:j<=xs.size)(h1:lo<=i)(h2:j<=lo+n):Out lo n xs (mirror xs i j ((j-i)/2)):=λk hk=>by
 rw[getElem?_mirror_all hj,aWd 7]
theorem TY{st:SortSt}{lo a nrem:Nat}{Q:AS->SortSt->Prop}(h0:aE.kJ prog w A s κ ρ a₀)(hn:lo+nrem<=a₀.size)(ha:1<=a)(han:a<=nrem)(hB:GP κ a₀ P st)(hs:e8 ρ (arrOf st) lo (lo+a))
  (h:∀n,a<=n->n<=nrem->e8 ρ (arrOf st) lo (lo+n)->(n=nrem\/aE.Kg ρ (arrOf st) (lo+n)<aE.Kg ρ (arrOf st) (lo+n-1))->Q (none,n) st):wpS (model prog w) A E s (yR lo a nrem) Q st:=by
 unfold yR;refine aPz (I:=λx c st1=>st1=st/\c=(none,x)/\e8 ρ (arrOf st) lo (lo+x)) ?turn ?last (8,8,hs,)
 case last=>
  rintro c st1 ⟨rfl,rfl,i1⟩;rw[show max a nrem=nrem by lia]at i1 ⊢;exact h nrem han (amA _) i1 (.inl 8)
 case turn=>
  rintro x c st1 hax hxn ⟨rfl,rfl,i1⟩;dsimp only;refine apC (Jk hB h0 7 7 ?_);by_cases c:aE.Kg ρ (arrOf st1) (lo+x)<aE.Kg ρ (arrOf st1) (lo+x-1)
  .simp only[c,amM,akf];exact aJm (h x hax 7 i1 (.inr c))
  .simp only[c,aiS,acv,aaq];refine aJm (8,8,λi j hi hij hj=>?_,);by_cases hjx:j<lo+x
   .exact i1 i j hi hij hjx
   .have ej:j=lo+x:=7
    subst ej;by_cases e:i=lo+x
    .subst e;exact aeM _
    .have:=i1 i (lo+x-1) hi 7 7;lia
structure DX(ρ:aE.RR)(xs:Array Keyed)(lo x q:Nat):Prop where
 l:q+1<=x
 d:∀i j,lo<=i->i<=j->j<lo+x->aE.Kg ρ xs j<=aE.Kg ρ xs i
 e:∀i,lo+x-(q+1)<=i->i<lo+x->aE.Kg ρ xs i=aE.Kg ρ xs (lo+x-1)
theorem DX.rev{xs:Array Keyed}{lo x q:Nat}(h:DX ρ xs lo x q)(hz:lo+x<=xs.size):DX ρ (mirror xs (lo+x-(q+1)) (lo+x) ((lo+x-(lo+x-(q+1)))/2)) lo x 0:=by
 have ke:=aE.cy (ρ:=ρ) (i:=lo+x-(q+1)) hz h.e;have:=h.l;refine(7,λi j h1 h2 h3=>?_,λi h1 h2=>?_,)
 .rw [ke,ke];exact h.d i j h1 h2 h3
 .have e:i=lo+x-1:=7
  rw[e]
theorem DX.zero{xs:Array Keyed}{lo x q:Nat}(h:DX ρ xs lo x q):DX ρ xs lo x 0:=(by have:=h.l;lia,h.d,λi h1 h2=>by rw[show i=lo+x-1 by have:=h.l;lia],)
theorem DX.less{xs:Array Keyed}{lo x:Nat}(h:DX ρ xs lo x 0)(k:aE.Kg ρ xs (lo+x)<aE.Kg ρ xs (lo+x-1)):DX ρ xs lo (x+1) 0:=by
 have:=h.l;refine(7,λi j h1 h2 h3=>?_,λi h1 h2=>by rw[show i=lo+(x+1)-1 by lia],);by_cases c:j<lo+x
 .exact h.d i j h1 h2 c
 .have ej:j=lo+x:=7
  subst ej;by_cases e:i=lo+x
  .subst e;exact aeM _
  .have:=h.d i (lo+x-1) h1 7 7;lia
theorem DX.more{xs:Array Keyed}{lo x q:Nat}(h:DX ρ xs lo x q)(k:aE.Kg ρ xs (lo+x)=aE.Kg ρ xs (lo+x-1)):DX ρ xs lo (x+1) (q+1):=by
 have:=h.l;refine(7,λi j h1 h2 h3=>?_,λi h1 h2=>?_,)
 .by_cases c:j<lo+x
  .exact h.d i j h1 h2 c
  .have ej:j=lo+x:=7
   subst ej;by_cases e:i=lo+x
   .subst e;exact aeM _
   .have:=h.d i (lo+x-1) h1 7 7;lia
 .rw [show lo+(x+1)-1=lo+x by lia];by_cases c:i<lo+x
  .rw [k];exact h.e i 7 c
  .rw [show i=lo+x by lia]
theorem Zix{st:SortSt}{lo n nrem:Nat}{Q:DS->SortSt->Prop}(h0:aE.kJ prog w A s κ ρ a₀)(hn:lo+nrem<=a₀.size)(hnn:n<=nrem)(hB:GP κ a₀ P st)(hs:DX ρ (arrOf st) lo n 0)
  (h:∀m q st',GP κ a₀ P st'->m<=nrem->DX ρ (arrOf st') lo m q->Out lo nrem (arrOf st) (arrOf st')->Q (none,m,q) st'):wpS (model prog w) A E s (uW lo n nrem) Q st:=by
 unfold uW;refine aPz (I:=λx c st1=>∃q,c=(none,x,q)/\GP κ a₀ P st1/\DX ρ (arrOf st1) lo x q/\Out lo nrem (arrOf st) (arrOf st1)) ?turn ?last (0,8,hB,hs,λ_ _=>8,)
 case last=>
  rintro c st1 ⟨q,rfl,b1,d1,o1⟩;rw[show max n nrem=nrem by lia]at d1 ⊢;exact h nrem q st1 b1 (amA _) d1 o1
 case turn=>
  rintro x c st1 hax hxn ⟨q,rfl,b1,d1,o1⟩;dsimp only;have sz:=b1.size;have hl:=d1.l;refine apC (Jk b1 h0 7 7 ?_);by_cases c:aE.Kg ρ (arrOf st1) (lo+x)<aE.Kg ρ (arrOf st1) (lo+x-1)
  .simp only[c,amM,akf];by_cases hq:q>0
   .rw [aS1 hq];have ke:=aE.cy (ρ:=ρ) (i:=lo+x-(q+1)) (7:lo+x<=(arrOf st1).size) d1.e;refine apC (aEA (aJm (0,8,b1.setArr (aWl _ _ _ _),(d1.rev 7).less ?_,λk hk=>(LU 7 7 7 k hk).trans (o1 k hk),)));rw[ke,ke];exact c
   .rw [aWd hq];have e:q=0:=7
    subst e;exact aJm (0,8,b1,d1.less c,o1,)
  .simp only[c,aiS,acv,aaq];refine apC (Jk b1 h0 7 7 ?_);by_cases c2:aE.Kg ρ (arrOf st1) (lo+x-1)<aE.Kg ρ (arrOf st1) (lo+x)
   .simp only[c2,amM,akf];exact aJm (h x q st1 b1 7 d1 o1)
   .simp only[c2,aiS,acv,aaq];exact aJm (q+1,8,b1,d1.more 7,o1,)
theorem Uo{st jT:SortSt}{lo n nrem:Nat}{Q:Option Nat->SortSt->Prop}(h0:aE.kJ prog w A s κ ρ a₀)(hn:lo+nrem<=a₀.size)(h1:1<=n)(hnn:n<=nrem)(hB:GP κ a₀ P st)(hs:DX ρ (arrOf st) lo n 0)(ho:Out lo nrem (arrOf jT) (arrOf st))
  (h:∀m st',GP κ a₀ P st'->1<=m->m<=nrem->e8 ρ (arrOf st') lo (lo+m)->Out lo nrem (arrOf jT) (arrOf st')->Q (!m) st'):wpS (model prog w) A E s (qd lo n nrem) Q st:=by
 unfold qd;have sz:=hB.size;refine apC (aEA ?_);have b1:GP κ a₀ P (setArr st (mirror (arrOf st) lo (lo+n) ((lo+n-lo)/2))):=hB.setArr (aWl _ _ _ _);refine apC (TY h0 hn h1 hnn b1 ?_ λm m1 m2 i2 _=>aJm (h m _ b1 7 m2 i2 λk hk=>(LU 7 7 7 k hk).trans (ho k hk)));intro i j hi hij hj;show aE.Kg ρ (mirror (arrOf st) lo (lo+n) ((lo+n-lo)/2)) i<=aE.Kg ρ (mirror (arrOf st) lo (lo+n) ((lo+n-lo)/2)) j;rw[aE.jG 7,aE.jG 7,aS1 7,aS1 7];exact hs.d _ _ 7 7 7
theorem Um{st jT:SortSt}{lo n nrem:Nat}{Q:Option Nat->SortSt->Prop}(h0:aE.kJ prog w A s κ ρ a₀)(hn:lo+nrem<=a₀.size)(hnn:n+1<=nrem)(hB:GP κ a₀ P st)(hs:DX ρ (arrOf st) lo (n+1) 0)(ho:Out lo nrem (arrOf jT) (arrOf st))
  (h:∀m st',GP κ a₀ P st'->1<=m->m<=nrem->e8 ρ (arrOf st') lo (lo+m)->Out lo nrem (arrOf jT) (arrOf st')->Q (!m) st'):wpS (model prog w) A E s (qF lo n nrem) Q st:=by
 unfold qF;refine apC (wpS_lift (atV (8,?_,)));refine apC (Zix h0 hn hnn hB hs λm q st1 b1 m2 d1 o1=>?_);dsimp only;have hl:=d1.l;have sz:=b1.size;by_cases hq:q>0
 .rw [aS1 hq];exact apC (aEA (Uo h0 hn 7 m2 (b1.setArr (aWl _ _ _ _)) (d1.rev 7) (λk hk=>((LU 7 7 7 k hk).trans (o1 k hk)).trans (ho k hk)) h))
 .rw [aWd hq];exact Uo h0 hn 7 m2 b1 d1.zero (λk hk=>(o1 k hk).trans (ho k hk)) h
theorem ZgY{st:SortSt}{lo nrem:Nat}{Q:Option Nat->SortSt->Prop}(h0:aE.kJ prog w A s κ ρ a₀)(hn:lo+nrem<=a₀.size)(h1:1<=nrem)(hB:GP κ a₀ P st)
  (h:∀m st',GP κ a₀ P st'->1<=m->m<=nrem->e8 ρ (arrOf st') lo (lo+m)->Out lo nrem (arrOf st) (arrOf st')->Q (!m) st'):wpS (model prog w) A E s (countRun' lo nrem) Q st:=by
 rw[ZgW];have sz:=hB.size;refine apC (TY h0 hn (amA 1) h1 hB (λi j hi hij hj=>by rw[show i=j by lia];exact aeM _) λn n1 n2 i1 hor=>?_);dsimp only;by_cases e:n=nrem
 .rw [aS1 (by simpa using e)];exact aJm (h n st hB n1 n2 i1 λ_ _=>8)
 .rw [aWd (by simpa using e)];have lt:aE.Kg ρ (arrOf st) (lo+n)<aE.Kg ρ (arrOf st) (lo+n-1):=hor.resolve_left e;by_cases g:n>1
  .rw [aS1 g];refine apC (Jk hB h0 7 7 ?_);by_cases c:aE.Kg ρ (arrOf st) lo<aE.Kg ρ (arrOf st) (lo+n-1)
   .simp only[c,amM,akf];exact aJm (h n st hB n1 n2 i1 λ_ _=>8)
   .simp only[c,aiS,acv,aaq];have all:∀k,lo<=k->k<lo+n->aE.Kg ρ (arrOf st) k=aE.Kg ρ (arrOf st) (lo+n-1):=λk h1 h2=>by
     have a1:=i1 lo k (amA _) h1 h2;have a2:=i1 k (lo+n-1) h1 7 7;lia
    have ke:=aE.cy (ρ:=ρ) (xs:=arrOf st) (i:=lo) (j:=lo+n) 7 all;have dx:DX ρ (mirror (arrOf st) lo (lo+n) ((lo+n-lo)/2)) lo n 0:=(7,λi j h1 h2 h3=>by rw[ke,ke,all i h1 7,all j 7 h3];exact aeM _,λi h1 h2=>by rw[show i=lo+n-1 by lia],);exact apC (aEA (Um (jT:=st) h0 hn 7 (hB.setArr (aWl _ _ _ _)) (dx.less (by rw[ke,ke];exact lt)) (LU 7 7 7) h))
  .rw [aWd g];have en:n=1:=7
   subst en;exact Um (jT:=st) h0 hn 7 hB (DX.less (7,λi j h1 h2 h3=>by rw[show i=j by lia];exact aeM _,λi h1 h2=>by rw[show i=lo+1-1 by lia],) lt) (λ_ _=>8) h
end
abbrev Rn:=Nat×Nat×Nat
def i6:List Rn->Nat->Nat->Prop
 | [],a,b=>a=b
 |t ::r,a,b=>t.1=a/\0<t.2.1/\i6 r (a+t.2.1) b
theorem fj:∀{l m:List Rn}{a b:Nat},i6 (l++m) a b↔∃c,i6 l a c/\i6 m c b
 | [],m,a,b=>(λh=>(a,8,h,),λ(c,h1,h2,)=>by rw[show a=c from h1];exact h2,)
 |t ::r,m,a,b=>by
  constructor
  .rintro ⟨h1,h2,h3⟩;let(c,h4,h5,):=fj.mp h3;exact(c,(h1,h2,h4,),h5,)
  .rintro ⟨c,⟨h1,h2,h4⟩,h5⟩;exact(h1,h2,fj.mpr (c,h4,h5,),)
theorem LL:∀{l:List Rn}{a b:Nat},i6 l a b->l.length+a<=b
 | [],a,b,h=>by rw[show a=b from h];show 0+b<=b;lia
 |t ::r,a,b,(_,h2,h3,)=>by
  have:=LL h3;rw[aII];lia
theorem Lv:∀{l:List Rn}{a b:Nat},i6 l a b->∀t∈l,a<=t.1/\t.1+t.2.1<=b
 | [],a,b,h,t,ht=>nomatch ht
 |u ::r,a,b,(h1,h2,h3,),t,ht=>by
  have l:=LL h3;rcases ajG.mp ht with e|ht
  .subst e;lia
  .have:=Lv h3 t ht;lia
theorem Sx:∀{l:List Rn}{i:Nat}{x y:Rn},l[i]?=!x->l[i+1]?=!y->l=l.take i++x ::y ::l.drop (i+2)
 | [],i,x,y,h,_=>by simp at h
 | [a],0,x,y,h,h2=>by simp at h2
 |a ::b ::r,0,x,y,h,h2=>by
  simp only[List.getElem?_cons_zero,a9k,Option.some.injEq]at h h2;subst h h2;rfl
 |a ::r,i+1,x,y,h,h2=>by
  have:=Sx (l:=r) (i:=i) (x:=x) (y:=y) (by simpa using h) (by simpa using h2);show a ::r=a ::(r.take i++x ::y ::r.drop (i+2));rw[<-this]
theorem ZgZ(l m:List Rn)(x y v:Rn):((l++x ::y ::m).set l.length v).eraseIdx (l.length+1)=l++v ::m:=by
 induction l with
 |nil=>rfl
 |cons a r ih=>show a ::((r++x ::y ::m).set r.length v).eraseIdx (r.length+1)=a ::(r++v ::m);rw[ih]
section
variable{prog:Program}{w:World}{A:Around}{E:Value->Shared->Prop}{s:Shared}{a₀:Array Keyed}{κ:SortKind}{ρ:aE.RR}{P:Array Rn}
theorem Jf{xs ys:Array Keyed}{a b:Nat}(h:e8 ρ xs a b)(e:∀j,a<=j->j<b->ys[j]?=xs[j]?):e8 ρ ys a b:=λi j h1 h2 h3=>by
 rw[aE.cN (e i h1 7),aE.cN (e j 7 h3)];exact h i j h1 h2 h3
structure RI(κ:SortKind)(a₀:Array Keyed)(ρ:aE.RR)(lo:Nat)(st:SortSt):Prop where
 perm:(arrOf st).Perm a₀
 kn:kindOf st=κ
 failed:failedOf st=none
 tile:i6 (pendingOf st).toList 0 lo
 EI:∀t∈(pendingOf st).toList,e8 ρ (arrOf st) t.1 (t.1+t.2.1)
theorem RI.gp{lo:Nat}{st:SortSt}(h:RI κ a₀ ρ lo st):GP κ a₀ (pendingOf st) st:=(h.perm,h.kn,h.failed,8,)
theorem RI.out{lo n:Nat}{st st':SortSt}(h:RI κ a₀ ρ lo st)(g:GP κ a₀ (pendingOf st) st')(o:Out lo n (arrOf st) (arrOf st')):RI κ a₀ ρ lo st':=
 (g.perm,g.kn,g.failed,by rw[g.pend];exact h.tile,λt ht=>by
  rw[g.pend]at ht;have:=Lv h.tile t ht;exact Jf (h.EI t ht) λj h1 h2=>o j (.inl 7),)
theorem RI.merge{lo i:Nat}{x y:Rn}{st:SortSt}{Q:Bool->SortSt->Prop}(h0:aE.kJ prog w A s κ ρ a₀)(h:RI κ a₀ ρ lo st)(hlo:lo<=a₀.size)(e1:(pendingOf st)[i]?=!x)(e2:(pendingOf st)[i+1]?=!y)
  (k:∀st',RI κ a₀ ρ lo st'->(pendingOf st').size+1=(pendingOf st).size->(∀j,lo<=j->(arrOf st')[j]?=(arrOf st)[j]?)->Q true st'):wpS (model prog w) A E s (ON i) Q st:=by
 let(sa,na,p,):=x;let(sb,nb,q,):=y;have el:=Sx (l:=(pendingOf st).toList) (i:=i) (by rw[aCG];exact e1) (by rw[aCG];exact e2);have hi:i<(pendingOf st).toList.length:=by
  rw[aRY];exact(Array.getElem?_eq_some_iff.mp e1).1
 have hti:((pendingOf st).toList.take i).length=i:=by rw[agt];lia
 have ht:=h.tile;have hs:=h.EI;have hsz:(pendingOf st).size=(pendingOf st).toList.length:=aRY.symm;have hnew:(((pendingOf st).setIfInBounds i (sa,na+nb,p)).eraseIdxIfInBounds (i+1)).toList=(pendingOf st).toList.take i++(sa,na+nb,p) ::(pendingOf st).toList.drop (i+2):=by
  rw[Array.toList_eraseIdxIfInBounds,Array.toList_setIfInBounds]
  conv=>lhs;rw[el]
  have:=ZgZ ((pendingOf st).toList.take i) ((pendingOf st).toList.drop (i+2)) (sa,na,p) (sb,nb,q) (sa,na+nb,p);rw[hti]at this;exact this
 generalize(pendingOf st).toList.take i=l at *;generalize(pendingOf st).toList.drop (i+2)=m at *;rw[el]at ht hs hsz;let(c,t1,t2,t3,t4,t5,t6,):=fj.mp ht;have t2:sa=c:=t2;have t3:0<na:=t3;have t4:sb=c+na:=t4;have t5:0<nb:=t5;have t6:i6 m (c+na+nb) lo:=t6;have l6:=LL t6;refine ZfR h0 h.kn h.gp.mem h.failed e1 e2 7 t3 t5 (by rw[h.gp.size];lia) (hs (sa,na,p) 5) (hs (sb,nb,q) 5) λst' k1 f1 p1 pe s1 o1=>?_;refine k st' (p1.trans h.perm,k1,f1,?_,?_,) ?_ λj hj=>o1 j (.inr 7)
 .rw [pe,hnew];exact fj.mpr (c,t1,t2,by show 0<na+nb;lia,by show i6 m (c+(na+nb)) lo;rw[<-Nat.add_assoc];exact t6,)
 .rw [pe,hnew];intro t ht;rcases bdf.mp ht with ht|ht
  .have:=Lv t1 t ht;exact Jf (hs t (a8E _ ht)) λj h1 h2=>o1 j (.inl 7)
  .rcases ajG.mp ht with ht|ht
   .subst ht;show e8 ρ (arrOf st') sa (sa+(na+nb));rw[show sa+(na+nb)=sb+nb by lia];exact s1
   .have:=Lv t6 t ht;exact Jf (hs t (a2D _ (avG _ (avG _ ht)))) λj h1 h2=>o1 j (.inr 7)
 .have z:(pendingOf st').size=(pendingOf st').toList.length:=aRY.symm;rw[z,pe,hnew,hsz,a14,a14];rfl
theorem RI.push{lo n:Nat}{st:SortSt}(h:RI κ a₀ ρ lo st)(hn:0<n)(hs:e8 ρ (arrOf st) lo (lo+n)):RI κ a₀ ρ (lo+n) (setPending st ((pendingOf st).push (lo,n,0))):=by
 refine(h.perm,h.kn,h.failed,?_,?_,)
 .show i6 ((pendingOf st).push (lo,n,0)).toList 0 (lo+n);rw[aax];exact fj.mpr (lo,h.tile,8,hn,8,)
 .show ∀t∈((pendingOf st).push (lo,n,0)).toList,_;rw[aax];intro t ht;rcases bdf.mp ht with ht|ht
  .exact h.EI t ht
  .rw [aU2.mp ht];exact hs
theorem Ul{f:Rn->Rn}(hf:∀t,(f t).1=t.1/\(f t).2.1=t.2.1):∀{l:List Rn}{i a b:Nat},i6 l a b->i6 (l.modify i f) a b
 | [],i,a,b,h=>by cases i <;> exact h
 |t ::r,0,a,b,(h1,h2,h3,)=>by
  show i6 (f t ::r) a b;exact((hf t).1.trans h1,by rw[(hf t).2];exact h2,by rw[(hf t).2];exact h3,)
 |t ::r,i+1,a,b,(h1,h2,h3,)=>(h1,h2,Ul hf h3,)
theorem U6{f:Rn->Rn}:∀{l:List Rn}{i:Nat}{t:Rn},t∈l.modify i f->t∈l\/∃u∈l,t=f u
 | [],i,t,h=>by cases i <;> exact nomatch h
 |u ::r,0,t,h=>by
  rcases ajG.mp (show t∈f u ::r from h) with e|h
  .exact .inr (u,aKq,e,)
  .exact .inl (avG _ h)
 |u ::r,i+1,t,h=>by
  rcases ajG.mp (show t∈u ::r.modify i f from h) with e|h
  .exact .inl (e ▸aKq)
  .rcases U6 h with h|⟨v,hv,e⟩
   .exact .inl (avG _ h)
   .exact .inr (v,avG _ hv,e,)
theorem RI.pow{lo i:Nat}{st:SortSt}{f:Rn->Rn}(hf:∀t,(f t).1=t.1/\(f t).2.1=t.2.1)(h:RI κ a₀ ρ lo st):RI κ a₀ ρ lo (setPending st ((pendingOf st).modify i f)):=by
 refine(h.perm,h.kn,h.failed,?_,?_,)
 .show i6 ((pendingOf st).modify i f).toList 0 lo;rw[Array.toList_modify];exact Ul hf h.tile
 .show ∀t∈((pendingOf st).modify i f).toList,_;rw[Array.toList_modify];intro t ht;rcases U6 ht with ht|⟨u,hu,e⟩
  .exact h.EI t ht
  .rw [e,(hf u).1,(hf u).2];exact h.EI u hu
theorem xT{st:SortSt}{Q:Unit->SortSt->Prop}(h0:aE.kJ prog w A s κ ρ a₀)(hP:(arrOf st).Perm a₀)(hk:kindOf st=κ)(hf:failedOf st=none)(hp:pendingOf st=#[])
  (h:∀st',(arrOf st').Perm a₀->failedOf st'=none->e8 ρ (arrOf st') 0 a₀.size->Q () st'):wpS (model prog w) A E s sortRuns' Q st:=by
 rw[sortRuns'_eq];refine apC (aYo ?_);dsimp only;have YX:(arrOf st).size=a₀.size:=hP.size_eq;simp only[YX];generalize minRun' a₀.size a₀.size 0=mr;have r0:RI κ a₀ ρ 0 st:=⟨hP,hk,hf,by rw[hp];rfl,by rw[hp];exact λt ht=>nomatch ht⟩;refine apC (a6d (aPz (I:=λx c st1=>∃lo,c=(none,lo)/\lo<=a₀.size/\(x<=lo\/lo=a₀.size)/\RI κ a₀ ρ lo st1) (Q:=λc st1=>c=(none,a₀.size)/\RI κ a₀ ρ a₀.size st1) ?turn ?last (0,8,aei _,.inl (amA _),r0,)) ?after)
 case last=>
  rintro c st1 ⟨lo,rfl,hlo,hx,r1⟩;have e:lo=a₀.size:=7
  subst e;exact(8,r1,)
 case turn=>
  rintro x c st1 _ hx ⟨lo,rfl,hlo,hxl,r1⟩;dsimp only;by_cases g:lo ≥ a₀.size
  .rw [aS1 g];have e:lo=a₀.size:=7
   subst e;exact aJm (8,r1,)
  .rw [aWd g];refine apC (ZgY h0 7 7 r1.gp λm st2 b2 m1 m2 s2 o2=>?_);dsimp only;have r2:=r1.out b2 o2;have fin:∀{n:Nat}{st3:SortSt},0<n->lo+n<=a₀.size->RI κ a₀ ρ lo st3->e8 ρ (arrOf st3) lo (lo+n)->∃lo',(none,lo+n)=((none,lo'):Option Unit×Nat)/\lo'<=a₀.size/\(x+1<=lo'\/lo'=a₀.size)/\RI κ a₀ ρ lo' (setPending st3 ((pendingOf st3).push (lo,n,0))):=λ{n st3} h1 h2 h3 h4=>(lo+n,8,h2,7,h3.push h1 h4,);by_cases lt:m<mr
   .rw [aS1 lt];refine apC (wpS_lift (atV (8,?_,)));refine apC (ZjU h0 7 7 m1 b2 s2 λst3 b3 s3 o3=>?_);simp only[aty,acv,aaq];have r3:=r1.out (n:=a₀.size-lo) b3 λj hj=>(o3 j 7).trans (o2 j hj);have hn:0<min (a₀.size-lo) mr:=7
    have ni:lo+min (a₀.size-lo) mr<=a₀.size:=7
    clear b3 o3 b2 s2 o2 r2 m1 m2 lt;generalize min (a₀.size-lo) mr=n at *;refine apC (aYo ?_);cases eb:(pendingOf st3).back? with
    |none=>
     dsimp only;exact apC (aRu (aJm (fin hn ni r3 s3)))
    |some t=>
     let(s1,n1,z,):=t;dsimp only;generalize power' a₀.size (2*s1+n1) (2*s1+n1+n1+n) a₀.size=pw;refine apC (a6d (aPz (I:=λ_ c cY=>c=(none,())/\RI κ a₀ ρ lo cY/\e8 ρ (arrOf cY) lo (lo+n)) (Q:=λc cY=>c=(none,())/\RI κ a₀ ρ lo cY/\e8 ρ (arrOf cY) lo (lo+n)) ?_ (λ_ _ hh=>hh) (8,r3,s3,)) ?_)
     .rintro y c cY _ _ ⟨rfl,r4,h4⟩;refine apC (aYo ?_);by_cases c2:(pendingOf cY).size>1
      .have e1:(pendingOf cY)[(pendingOf cY).size-2]?=!(pendingOf cY)[(pendingOf cY).size-2]:=aWP 7;have e2:(pendingOf cY)[(pendingOf cY).size-2+1]?=!(pendingOf cY)[(pendingOf cY).size-2+1]:=aWP 7;simp only[aS1 c2];rw[e1];dsimp only;by_cases c3:(pendingOf cY)[(pendingOf cY).size-2].2.2<=pw
       .rw [aS1 c3];exact aJm (8,r4,h4,)
       .rw [aWd c3];refine apC (RI.merge h0 r4 hlo e1 e2 λzR r5 _ o5=>?_);simp only[aty,acv,aaq];exact aJm (8,r5,Jf h4 λj h1 _=>o5 j h1,)
      .simp only[aWd c2];exact aJm (8,r4,h4,)
     .rintro c cY ⟨rfl,r4,h4⟩;dsimp only;exact apC (aRu (apC (aRu (aJm (fin hn ni (r4.pow λ_=>(8,8,)) h4)))))
   .rw [aWd lt];have hn:0<m:=7
    have ni:lo+m<=a₀.size:=7
    have r3:=r2;have s3:=s2;clear b2 s2 o2 r2 m1 m2 lt;generalize m=n at *;generalize st2=st3 at *;refine apC (aYo ?_);cases eb:(pendingOf st3).back? with
    |none=>
     dsimp only;exact apC (aRu (aJm (fin hn ni r3 s3)))
    |some t=>
     let(s1,n1,z,):=t;dsimp only;generalize power' a₀.size (2*s1+n1) (2*s1+n1+n1+n) a₀.size=pw;refine apC (a6d (aPz (I:=λ_ c cY=>c=(none,())/\RI κ a₀ ρ lo cY/\e8 ρ (arrOf cY) lo (lo+n)) (Q:=λc cY=>c=(none,())/\RI κ a₀ ρ lo cY/\e8 ρ (arrOf cY) lo (lo+n)) ?_ (λ_ _ hh=>hh) (8,r3,s3,)) ?_)
     .rintro y c cY _ _ ⟨rfl,r4,h4⟩;refine apC (aYo ?_);by_cases c2:(pendingOf cY).size>1
      .have e1:(pendingOf cY)[(pendingOf cY).size-2]?=!(pendingOf cY)[(pendingOf cY).size-2]:=aWP 7;have e2:(pendingOf cY)[(pendingOf cY).size-2+1]?=!(pendingOf cY)[(pendingOf cY).size-2+1]:=aWP 7;simp only[aS1 c2];rw[e1];dsimp only;by_cases c3:(pendingOf cY)[(pendingOf cY).size-2].2.2<=pw
       .rw [aS1 c3];exact aJm (8,r4,h4,)
       .rw [aWd c3];refine apC (RI.merge h0 r4 hlo e1 e2 λzR r5 _ o5=>?_);simp only[aty,acv,aaq];exact aJm (8,r5,Jf h4 λj h1 _=>o5 j h1,)
      .simp only[aWd c2];exact aJm (8,r4,h4,)
     .rintro c cY ⟨rfl,r4,h4⟩;dsimp only;exact apC (aRu (apC (aRu (aJm (fin hn ni (r4.pow λ_=>(8,8,)) h4)))))
 case after=>
  rintro c st1 ⟨rfl,r1⟩;dsimp only;have l1:=LL r1.tile;rw[aRY]at l1;refine apC (a6d (aPz (I:=λx c st2=>c=(none,())/\RI κ a₀ ρ a₀.size st2/\(pendingOf st2).size+x<=a₀.size+1) (Q:=λc st2=>c=(none,())/\RI κ a₀ ρ a₀.size st2/\(pendingOf st2).size<=1) ?_ ?_ (8,r1,7,)) ?_)
  .rintro y c st2 _ _ ⟨rfl,r2,h2⟩;refine apC (aYo ?_);by_cases c1:(pendingOf st2).size<=1
   .rw [aS1 c1];exact aJm (8,r2,c1,)
   .rw [aWd c1];obtain⟨i,hi,hlt⟩:∃i,(if Option.any (λx=>decide (x<(pendingOf st2)[(pendingOf st2).size-2+1]?.elim 0 λx=>x.snd.fst)) (if(pendingOf st2).size-2>0 then Option.map (λx=>x.snd.fst) (pendingOf st2)[(pendingOf st2).size-2-1]? else none)=true then(pendingOf st2).size-2-1 else(pendingOf st2).size-2)=i/\i+1<(pendingOf st2).size:=(_,8,by generalize Option.any _ _=bb;cases bb <;> simp <;> lia,);rw[hi];refine apC (RI.merge h0 r2 (amA _) (aWP 7) (aWP hlt) λzR r5 z5 _=>?_);simp only[aty,acv,aaq];exact aJm (8,r5,7,)
  .rintro c st2 ⟨rfl,r2,h2⟩;exact(8,r2,7,)
  .rintro c st2 ⟨rfl,r2,h2⟩;dsimp only;refine aJm (h st2 r2.perm r2.failed ?_);have ht:=r2.tile;have hs:=r2.EI;have z:(pendingOf st2).size=(pendingOf st2).toList.length:=aRY.symm;rw[z]at h2;generalize(pendingOf st2).toList=l at *
   match l,h2,ht,hs with
   | [],_,ht,_=>
    have e:0=a₀.size:=ht;intro i j _ _ hj;lia
   | [t],_,(t1,t2,t3,),hs=>
    have e:0+t.2.1=a₀.size:=t3;have q:=hs t 5;rw[t1,e]at q;exact q
   |_ ::_ ::_,h2,_,_=>simp at h2
end
end L2.A4
set_option maxHeartbeats 4000000
namespace L2
open PySem PySem.Spec PyProof.Rows
section
variable{prog:Program}{w:World}{A:Around}{E:Value->Shared->Prop}{s:Shared}
theorem Sw{a:Addr}{us:List Value}{m:Nat}{P:PySem.Fin->Shared->Prop}{κ:SortKind}{ρ:aE.RR}(ho:s.heap.get? a=!(seqObj "list" us.toArray m))(z:us.length<=1000000)
  (hk:2<=us.length->(∀(E:Value->Shared->Prop)(Q:SortKind->Shared->Prop),Q κ { s with heap:=se s.heap a us }->wpAny (model prog w) A (keyKind' us.toArray) Q E { s with heap:=se s.heap a us })/\aE.kJ prog w A { s with heap:=se s.heap a us } κ ρ (pairsOf us))
  (g:∀q:SortSt,(arrOf q).Perm (pairsOf us)->A4.e8 ρ (arrOf q) 0 (pairsOf us).size->P (.done (.ret .none)) { s with heap:=sortedHeap s.heap a us ((arrOf q).map (·.2)) }):wpAny (model prog w) A (Builtin.«list.sort» ([.ref a],[],)) P E s:=by
 rw[list_sort_plain];have al:a<s.heap.objs.size:=ape ho;obtain⟨c,oc⟩:∃c,(s.heap.update a (Obj.mapSeq λ_=>#[])).get? a=!(seqObj "list" #[] c):=(_,get?_update_seq ho (λ_=>#[]),);have Ku:(se s.heap a us).get? a=!(seqObj "list" #[] c):=a47 _ (a47 _ oc);refine ay1 (listItems_at ho 8 (ay1 (azs ho 8 (ay1 (seqEpoch_at oc 8 (ay1 (wpAny_newTuple (ay1 (aXy (aXr ?_)))))))))) <;> try (rw[a1n];first|(rw[ahA];lia)|lia)
 show wpAny (model prog w) A _ P E { s with heap:=se s.heap a us };dsimp only;have us2:us.toArray.size=us.length:=ahA ..;by_cases few:us.toArray.size<2
 .rw [aS1 few,aS1 few];refine ay1 (aO7 ?_);rw[StateT.run_pure];refine ay1 (aO7 (ay1 (seqEpoch_at Ku 8 (ay1 (azs Ku 8 ?_ (hsz2:=by rw[Array.size_map];show(pairsOf us).size<=_;rw[pairsOf_size,a1n];lia))))));simp only[bne_self_eq_false,acv,aaq];refine aO7 (g (SortSt.mk' general' (us.toArray.zip us.toArray) #[] 07 none) (ao1 _) λi j _ hij hj=>?_);rw[pairsOf_size]at hj;rw[show i=j by lia];exact aeM _
 .rw [aWd few,aWd few];have two:2<=us.length:=7
  let(k1,k2,):=hk two;refine ay1 (k1 _ _ (ay1 (bac (A4.xT (a₀:=pairsOf us) (st:=SortSt.mk' κ (us.toArray.zip us.toArray) #[] 07 none) (Q:=λ_ q=>(arrOf q).Perm (pairsOf us)/\failedOf q=none/\A4.e8 ρ (arrOf q) 0 (pairsOf us).size) k2 (ao1 _) 8 8 8 λq a1 a2 a3=>(a1,a2,a3,)) ?_ λ_ _ e=>e)));rintro⟨⟨⟩,q⟩ t ⟨rfl,hp,hf,hs⟩;refine ay1 (seqEpoch_at Ku 8 (ay1 (azs Ku 8 ?_ (hsz2:=by rw[Array.size_map,hp.size_eq,pairsOf_size,a1n];lia))));dsimp only;rw[hf];simp only[bne_self_eq_false,acv,aaq];exact aO7 (g q hp hs)
end
theorem Zla{α:Type}:∀{l:List α},2<=l.length->∃a b r,l=a ::b ::r
 | [],h=>absurd h (Nat.not_succ_le_zero 1)
 | [_],h=>absurd h (aUJ 1)
 |a ::b ::r,_=>(a,b,r,8,)
def EM:aE.RR:=(λ_=>0,λp=>match p.1 with| .int n _=>n|_=>0,)
theorem Sv{xs:Array Keyed}{i:Nat}:aE.Kg EM xs i=PyProof.Rows.K xs i:=by
 unfold aE.Kg PyProof.Rows.K;cases xs[i]? with
 |none=>rfl
 |some p=>let(v,u,):=p;cases v <;> rfl
variable{K:W.Frag}{X:Cx}
end L2
set_option maxHeartbeats 1000000
namespace L2
open PySem PySem.Spec PySem.Calls PyProof.Rows PySem.MeetsSeq PySem.W
abbrev p8:=Addr×Int×Int
def zp(es:List p8)(a:Addr):p8:=(es.find? λe=>e.1 ==a).getD (0,0,0)
theorem Fb:∀{es:List p8},(es.map (·.1)).Nodup->∀{e:p8},e∈es->zp es e.1=e
 | [],_,_,h=>by cases h
 |x ::r,nd,e,h=>by
  rw[aZ1]at nd;let(n1,n2,):=aPi.mp nd;unfold zp;rw[abQ];rcases ajG.mp h with rfl|h
  .rw [beq_self_eq_true];rfl
  .have ne:(x.1 ==e.1)=false:=by
    rw[ayS];exact λz=>n1 (by rw[z];exact aov h)
   rw[ne];exact Fb n2 h
def gP(e:p8):Value:=.ref e.1
def Km(es:List p8):aE.RR:=(λ_=>0,λp=>(zp es (Af p.2)).2.1,)
def JJ(h:Heap)(e:p8):Prop:=∃t t',h.get? e.1=!{ cls:=.type "tuple",data:=.seq #[.int e.2.1 t,.int e.2.2 t'] }
section
variable{prog:Program}{w:World}{A:Around}{E:Value->Shared->Prop}{s:Shared}
theorem N1{a b:p8}{Q:Bool->Shared->Prop}(h1:JJ s.heap a)(h2:JJ s.heap b)(hab:a.2.1=b.2.1->a.2.2=b.2.2)(h:Q (decide (a.2.1<b.2.1)) s):wpAny (model prog w) A (keyLt' (tuples' true) (gP a) (gP b)) Q E s:=by
 let(t,t',ho,):=h1;let(u,u',ho',):=h2;refine W.kat_lt ho 8 ho' 8 (W.kat_cons ?_);let(c,e,hc,):=HT.qV A s a.2.1 t b.2.1 u;refine e prog w _ _ ?_;cases c with
 |true=>
  have z:=hc.mp 8;refine W.kat_yes (W.kat_cons ?_);let(c2,e2,hc2,):=HT.qV A s a.2.2 t' b.2.2 u';refine e2 prog w _ _ ?_;cases c2 with
  |true=>
   rw[alm 7]at h;exact W.kat_yes (W.kat_nil h)
  |false=>exact absurd (hc2.mpr (hab z)) aqS
 |false=>exact W.kat_no (oneLt_int h)
theorem Su{h:Heap}:∀{es:List p8},(∀e∈es,JJ h e)->∃fs:List Value,W.KatTups h (es.map gP) fs/\fs.length=es.length/\∀v∈fs,∃(n:Int)(t:Tok),v=.int n t
 | [],_=>⟨[],W.KatTups.nil,8,λ_ h=>by cases h⟩
 |e ::es,hh=>by
  let(fs,t,lf,hf,):=Su (es:=es) λx m=>hh x (avG _ m);let(a,b,ho,):=hh e aKq;rw[aZ1];refine(.int e.2.1 a ::fs,W.KatTups.cons ho 8 8 8 t,by rw[aII,lf];rfl,λv m=>?_,);rcases ajG.mp m with rfl|m
  .exact (_,_,8,)
  .exact hf v m
end
theorem GW{es:List p8}(nd:(es.map (·.1)).Nodup){xs:Array Keyed}(hp:xs.Perm (pairsOf (es.map gP)))(hi:A4.e8 (Km es) xs 0 (pairsOf (es.map gP)).size) :
  ∃os:List p8,(xs.map (·.2)).toList=os.map gP/\os.Perm es/\os.Pairwise λx y=>x.2.1<=y.2.1:=by
 have pm:=a1P.mp hp;rw[U7,map_map]at pm;have mx:∀p∈xs.toList,∃e∈es,p=(gP e,gP e):=λp h=>by
  let(e,m,q,):=arp.mp (pm.mem_iff.mp h);exact(e,m,q.symm,)
 refine(xs.toList.map λp=>zp es (Af p.2),?_,?_,?_,)
 .rw [Array.toList_map,map_map];refine abx λp h=>?_;let(e,m,rfl,):=mx p h;show gP e=gP (zp es e.1);rw[Fb nd m]
 .have q:=pm.map λp=>zp es (Af p.2);rw[map_map]at q;refine q.trans (List.Perm.of_eq ?_);have:es.map ((λp:Keyed=>zp es (Af p.2)) ∘ ((λv=>(v,v)) ∘ gP))=es.map id:=abx λe m=>Fb nd m;rw[this,map_id]
 .rw [pairwise_iff_getElem];intro i j h1 h2 hij;have hi2:i<xs.size:=by simpa using h1
  have hj2:j<xs.size:=by simpa using h2
  have v:=hi i j (aei _) (a92 hij) (by rw[<-hp.size_eq];exact hj2);unfold aE.Kg at v;rw[aWP hi2,aWP hj2]at v;rw[getElem_map,getElem_map,aOE,aOE];exact v
def sR(H:Hp)(es:List p8):Hp:=λa=>match es.find? λe=>e.1 ==a with
 |some e=>!(.tup [.int e.2.1,.int e.2.2])
 |none=>H a
theorem Uk{H:Hp}{es:List p8}{a:Addr}(h:∀e∈es,e.1≠a):sR H es a=H a:=by
 unfold sR;rw[List.find?_eq_none.mpr λe m=>by simpa using h e m]
theorem Ziy{H:Hp}{es:List p8}(nd:(es.map (·.1)).Nodup){e:p8}(m:e∈es):sR H es e.1=!(.tup [.int e.2.1,.int e.2.2]):=by
 have q:=Fb nd m;unfold zp at q;unfold sR;cases z:es.find? λx=>x.1 ==e.1 with
 |none=>exact absurd (List.find?_eq_none.mp z e m) 5
 |some x=>rw[z]at q;have q:x=e:=q;rw[q]
theorem UR{α β:Type}{F:α->β->Prop}:∀{l₁:List α}{l₂:List β},Paired F l₁ l₂->∀{i:Nat}{a:α}{b:β},l₁[i]?=!a->l₂[i]?=!b->F a b
 |_,_,.nil,_,_,_,h,_=>by simp at h
 |_,_,.cons r t,0,_,_,h,g=>by
  simp only[List.getElem?_cons_zero,Option.some.injEq]at h g;subst h g;exact r
 |_,_,.cons r t,i+1,_,_,h,g=>UR t (i:=i) (by simpa using h) (by simpa using g)
theorem Ss{α β:Type}{f:α->β}:∀{l:List α},(l.map f).Nodup->∀{a b:α},a∈l->b∈l->f a=f b->a=b
 | [],_,_,_,h,_,_=>nomatch h
 |x ::r,nd,a,b,ha,hb,e=>by
  let(n1,n2,):=aPi.mp nd;rcases ajG.mp ha with h1|h1 <;> rcases ajG.mp hb with h2|h2
  .rw [h1,h2]
  .exact absurd (by rw[<-h1,e];exact aov h2) n1
  .exact absurd (by rw[<-h2,<-e];exact aov h1) n1
  .exact Ss n2 h1 h2 e
theorem ZjV(os:List p8):Vals (os.map λe=>V.ref e.1) (os.map gP):=by
 induction os with
 |nil=>exact .nil
 |cons e r ih=>exact .cons 8 ih
section
variable{X:Cx}{pins:List (Addr×Obj)}{σ:St}{H H':Hp}{s:Shared}{h':Heap}
theorem Inv.more{t':Nat}(I:Inv X pins σ H s)(k:∀b u,s.heap.get? b=!u->h'.get? b=!u)(on:∀b o,H b=!o->H' b=!o)(fr:∀b u,s.heap.get? b=!u->H b=none->H' b=none)(new:∀b o,H b=none->H' b=!o->aH X.prog X.w H' h' b o) :
  Inv X pins σ H' { s with heap:=h',toks:=t' }:=by
 refine I.un (λb u q _ _ _=>k b u q,λb u q _ _ _=>(u.slots,k b u q,),λb u q n _=>fr b u q n,λb u q _=>(u,k b u q,),λb xs q=>on _ _ q,λb o u q=>on _ _ q,λb p z q=>on _ _ q,) λb u e=>?_;cases c:H b with
 |some o=>
  have e2:=aZC ((on b o c).symm.trans e);subst e2;exact(I.hok b o c).stay (λc v _ q=>k c v q) (λc q=>on _ _ q) (λc xs q=>on _ _ q) λc oz q=>on _ _ q
 |none=>exact new b u c e
end
theorem ZdY{P:Program}{w:World}(d:Addr)(hd:(d ==sysModules)=false) :
  MeetsIn P w (Builtin.«dict.items» ([.ref d],[],)) (λ_ R s=>s.TypeIs (.ref d) "dict" /\R (.ok (.ret (.ref s.heap.objs.size))) { s with heap:=s.heap.push { cls:=.type "dict_items",data:=.fields #[.ref d] } }):=
 .of_wp λA R s (ty,h,)=>by
  unfold Builtin.«dict.items»;refine ay1 ?_;unfold Builtin.Dict.noArgs;refine ay1 (wpAny_notOrdered_dict ty ?_);show wpAny _ _ (pure d) _ _ s;refine aO7 ?_;show wpAny _ _ (Builtin.Dict.showsAll d >>=_) _ _ s;unfold Builtin.Dict.showsAll;rw[aWd (by rw[hd];exact aqS)];exact ay1 (aO7 (ay1 (a3B (aO7 (_,8,h,)))))
section
variable{X:Cx}
def PB(H:Hp)(v d:Addr):Prop:=H v=!(.ext λh=>h.IsItemsView v d)
def ZjW(tl:TE):TE:=λσ H Q=>tl σ H λx H1=>∃d kvs,x=.ref d/\H1 d=!(.dK kvs)/\∀v,H1 v=none->Q (.ref v) (upd H1 v (.ext λh=>h.IsItemsView v d))
theorem Zha{l:Expr}{tl:TE}{apos cpos:Pos}(hl:PE X l tl)(hbase:attributeBase l "items" X.env (eval l X.env)=eval l X.env:=by rfl)(hline:(apos.endLine ==cpos.line)=true:=by rfl):PE X (.Call (.Attribute l "items" apos) [] [] cpos) (ZjW tl):=by
 intro pins s σ H Q I h;refine wpAny_Call_method0_late hbase hline (fc (hl pins s σ H _ I h) λv s1 x H1 I1 r1 q1=>?_);let(d,kvs,e,hd,q,):=q1;subst e;cases r1;let(t1,t2,hs,):=Li I1 (.inl (kvs,.inl hd,));refine("dict","dict.items",aCS,PySem.F.slot_dict_items,PySem.F.type_dict_items,t1,t2,asa 8 (PySem.evalArgs_none ?_),);refine call_meetsIn PySem.F.slot_dict_items t1 PySem.F.entry_dict_items (PySem.F.args_dict_items_1 _) (ZdY d hs) (t1,?_,);refine(.ref s1.heap.objs.size,_,I1.laid (a:=s1.heap.objs.size) (t':=s1.toks) (o:=.ext λh=>h.IsItemsView s1.heap.objs.size d) (λb o z=>a47 _ z) (amA _) ((_,a1M _ 8,8,8,),(_,a1M _ 8,),λh1 h2 (o,ho,x,) up=>(o,up o ho,x,),),8,q _ (I1.hok.fresh (amA _)),)
inductive qC(xs:List V)(H:Hp)(Q:VK):Prop
 |mk (v d:Addr) (ps:List (Int×Int)):xs=[.ref v]->PB H v d->H d=!(.dK (ps.map λp=>(Sum.inl p.1,V.int p.2)))->(ps.map (·.1)).Nodup->ps.length<=1000000->(∀(D:Addr)(os:List p8)(H':Hp),H D=none->aA H H'->H' D=!(.lst (os.map λe=>V.ref e.1))->(∀e∈os,H e.1=none/\H' e.1=!(.tup [.int e.2.1,.int e.2.2]))->(os.map (·.2)).Perm ps->(os.Pairwise λx y=>x.2.1<y.2.1)->Q (.ref D) H')->qC xs H Q
theorem ZdZ(hc:X.calm=true):bw X (.builtin "sorted") qC:=by
 intro pins s σ H xs us Q I r h;let(v,d,ps,rfl,hv,hd,nd,hz,q,):=h;let(u,rfl,rx,):=vals1 r;cases rx;let(hvw,_,):=I.hok v _ hv;let(_,hs,vs,rv,hD,):=I.hok d _ hd;let(ep,hat,):=hD.dictAt;have hl:vs.length=ps.length:=by have:=ab7 rv;rw[aHJ]at this;exact this.symm
 refine call_function_entry kind_sorted plain_sorted entry_sorted (args_sorted1 _) ?_;unfold Builtin.«sorted»;refine ay1 (m:=checkCount "sorted" 1 1 _) (aO7 ?_);refine ay1 (W.kdx_collect (A:=X.A.in1) (knd:=Zy X.prog X.w) (kvs:=vs) (ep:=ep) (show X.A.in1.handled=none from I.ok.hd hc) hvw hat (by rw[a1n];lia) λh' tk as hk' la hG=>?_);obtain⟨es,ea,ev,pk⟩:∃es:List p8,es.map (·.1)=as/\es.map (·.2)=ps/\∀e∈es,JJ h' e:=by
  refine(as.zip ps,List.map_fst_zip 7,List.map_snd_zip 7,λe m=>?_,);let(j,hj,):=au1.mp m;rw[List.getElem?_zip_eq_some]at hj;let(ja,jp,):=hj;let(key,k,x,e1,e2,e3,):=hG.pairs j _ ja;let(f1,f2,):=UR rv (i:=j) (by rw[a7o,jp];rfl) e1;dsimp only at f1 f2;subst f1;let(t,rfl,):=Uw e2;let(t',rfl,):=f2;exact(t,t',e3,)
 have Hs:(es.map (·.1)).Nodup:=by rw[ea];exact hG.rise.imp λh=>abm h
 have QF:(es.map λe=>e.2.1).Nodup:=by
  rw[<-ev,map_map]at nd;exact nd
 have le:es.length=ps.length:=by rw[<-ev,aHJ]
 have er:as.map Value.ref=es.map gP:=by rw[<-ea,map_map];rfl
 have ab:∀e∈es,s.heap.objs.size<e.1:=λe m=>hG.above _ (by rw[<-ea];exact aov m);rw[er];refine ay1 (aXy ?_ (by rw[aHJ,le,a1n];lia));have pN:(h'.push (seqObj "list" (es.map gP).toArray 0)).get? h'.objs.size=!(seqObj "list" (es.map gP).toArray 0):=a1M _ 8;show wpAny _ _ _ _ _ { s with heap:=h'.push (seqObj "list" (es.map gP).toArray 0),toks:=tk };have up1:∀b o,h'.get? b=!o->(h'.push (seqObj "list" (es.map gP).toArray 0)).get? b=!o:=λb o e=>a47 _ e;have QI:∀e∈es,e.1<h'.objs.size:=λe m=>by let(_,_,z,):=pk e m;exact ape z
 refine ay1 (aXr (aqh slot_list_sort (_,pN,8,) entry_list_sort (Sw (s:={ s with heap:=h'.push (seqObj "list" (es.map gP).toArray 0),toks:=tk }) (κ:=tuples' true) (ρ:=Km es) pN (by rw[aHJ,le];exact hz) (λtwo=>?_) λst a1 a2=>(_,8,?_,)) (args_list_sort _)))
 .have MB:∀e∈es,JJ (se (h'.push (seqObj "list" (es.map gP).toArray 0)) h'.objs.size (es.map gP)) e:=λe m=>by
   let(t,t',z,):=pk e m;exact(t,t',Ziw (abm (QI e m)) (up1 _ _ z),)
  refine(λE Q hQ=>?_,λx mx y my E Q hQ=>?_,)
  .let(fs,t,lf,hf,):=Su MB;refine W.kat_kind (T:=Value.type "int") t (by rw[aHJ]at two;lia) (λv m=>?_) 8 hQ;let(n,t,rfl,):=hf v m;exact .now
  .rw [U7,map_map]at mx my;let(a,ma,rfl,):=arp.mp mx;let(b,mb,rfl,):=arp.mp my;refine N1 (MB a ma) (MB b mb) (λz=>by rw[Ss QF ma mb z]) ?_;have e1:(Km es).g (gP a,gP a)=a.2.1:=by show(zp es a.1).2.1=_;rw[Fb Hs ma]
   have e2:(Km es).g (gP b,gP b)=b.2.1:=by show(zp es b.1).2.1=_;rw[Fb Hs mb]
   rw[<-e1,<-e2];exact hQ
 refine aO7 (_,8,?_,);let(os,eo,po,so,):=GW Hs a1 a2;let(e,he,):=sortedHeap_at (out:=(arrOf st).map (·.2)) pN;have lo:=po.length_eq;have D0:H h'.objs.size=none:=(I.kept (t':=tk) hk').hok.fresh (amA _);have ndO:(os.map (·.1)).Nodup:=(po.map _).nodup_iff.mpr Hs;have nE:∀{b o},H b=!o->∀e∈es,e.1≠b:=λ{b o} z e m=>aJ4 (aYT (I.hok.lt z) (ab e m));have on:∀b o,H b=!o->upd (sR H es) h'.objs.size (.lst (os.map λe=>V.ref e.1)) b=!o:=λb o z=>by rw[Zc (Zd z D0),Uk (nE z)];exact z
 have P4:∀b o,h'.get? b=!o->(sortedHeap (h'.push (seqObj "list" (es.map gP).toArray 0)) h'.objs.size (es.map gP) ((arrOf st).map (·.2))).get? b=!o:=λb o z=>by
  have lt:=ape z;rw[sortedHeap_old (abm lt) (by rw[size_push'];exact aUl lt),a68 _ _ _ (abm lt)];exact z
 have I2:Inv X pins σ (upd (sR H es) h'.objs.size (.lst (os.map λe=>V.ref e.1))) { s with heap:=sortedHeap (h'.push (seqObj "list" (es.map gP).toArray 0)) h'.objs.size (es.map gP) ((arrOf st).map (·.2)),toks:=tk }:=by
  generalize sortedHeap (h'.push (seqObj "list" (es.map gP).toArray 0)) h'.objs.size (es.map gP) ((arrOf st).map (·.2))=hF at *;refine I.more (λb u z=>P4 _ _ (hk' _ _ z)) on (λb u z n=>?_) λb o n z=>?_
  .rw [Zc (abm (ape (hk' _ _ z))),Uk λe m=>aJ4 (aYT (ape z) (ab e m))];exact n
  by_cases c:b=h'.objs.size
  .subst c;rw[Za]at z;cases z;exact(by rw[aHJ,lo,le,a1n];lia,os.map gP,e,ZjV os,by rw[<-eo];exact he,)
  .rw [Zc c]at z;unfold sR at z;cases y:es.find? λe=>e.1 ==b with
   |none=>rw[y]at z;rw[show H b=some o from z]at n;cases n
   |some x=>
    rw[y]at z;have mx:=List.mem_of_find?_eq_some y;have ex:x.1=b:=by simpa using List.find?_some y
    cases z;let(t,t',g,):=pk x mx;rw[<-ex];exact(by show 2<=sizeLine;decide,[.int x.2.1 t,.int x.2.2 t'],.cons (t,8,) (.cons (t',8,) .nil),_,P4 _ _ g,113,)
 refine(.ref h'.objs.size,_,I2,8,q _ os _ D0 on Za (λx m=>?_) (by rw[<-ev];exact po.map _) ?_,)
 .have mE:=po.mem_iff.mp m;refine(?_,by rw[Zc (abm (QI x mE))];exact Ziy Hs mE,);cases c:H x.1 with
  |none=>rfl
  |some o=>exact absurd 8 (nE c x mE)
 .have Hr:(os.map λe=>e.2.1).Nodup:=(po.map _).nodup_iff.mpr QF;have:=List.pairwise_map.mp Hr;exact(so.and this).imp λh=>by let(h1,h2,):=h;lia
end
inductive n8(xs:List V)(H:Hp)(Q:VK):Prop
 |mk (d:Addr) (kvs:List (Key×V)) (ns:List Int):xs=[.ref d]->H d=!(.dK kvs)->kvs.map Prod.fst=ns.map Sum.inl->ns.length<=1000000->(∀(D:Addr)(os:List Int),H D=none->os.Perm ns->os.Pairwise (·<=·)->Q (.ref D) (upd H D (.lst (os.map V.int))))->n8 xs H Q
section
variable{X:Cx}
theorem Zde(hc:X.calm=true):bw X (.builtin "sorted") n8:=by
 intro pins s σ H xs us Q I r h;let(d,kvs,ns,rfl,hd,hk,hz0,q,):=h;let(u,rfl,rx,):=vals1 r;cases rx;let(hz,hs,vs,rv,hD,):=I.hok d _ hd;let(ep,hat,):=hD.dictAt;have hl:vs.length=ns.length:=by have l1:kvs.length=vs.length:=ab7 rv;have l2:=aFk List.length hk;simp at l2;lia
 refine call_function_entry kind_sorted plain_sorted entry_sorted (args_sorted1 _) ?_;unfold Builtin.«sorted»;refine ay1 (m:=checkCount "sorted" 1 1 _) (aO7 ?_);refine ay1 (kdu_collect (A:=X.A.in1) (kdl_dict (knd:=Zy X.prog X.w) (kvs:=vs) (ep:=ep) hs) (show X.A.in1.handled=none from I.ok.hd hc) hat (by rw[a1n];lia) λh' tk acc hk' hacc=>?_);have hv:=US rv hk hacc;have la:acc.toList.length=ns.length:=by rw[aRY,hacc.1,hl]
 generalize acc.toList=its at *;refine ay1 (aXy ?_ (by rw[la,a1n];lia));have pN:(h'.push (seqObj "list" its.toArray 0)).get? h'.objs.size=!(seqObj "list" its.toArray 0):=a1M _ 8;have I1:=I.kept (t':=tk) hk';show wpAny _ _ _ _ _ { s with heap:=h'.push (seqObj "list" its.toArray 0),toks:=tk };refine ay1 (aXr (aqh slot_list_sort (_,pN,8,) entry_list_sort (Sw (s:={ s with heap:=h'.push (seqObj "list" its.toArray 0),toks:=tk }) (κ:=oneType') (ρ:=EM) pN 7 (λtwo=>(λE Q hQ=>?_,λx mx y my E Q hQ=>?_,)) λst hp hs=>(_,8,?_,)) (args_list_sort _)))
 .have hkk:keyKind' its.toArray=pure oneType':=by
   let(v1,v2,rest,e,):=Zla two;rw[e]at hv ⊢;exact keyKind_ints hv
  rw[hkk];exact aO7 hQ
 .let(a,t,ea,):=hv.intKeys x mx;let(b,t',eb,):=hv.intKeys y my;rw[ea,eb];refine W.kat_lt_int ?_;have e1:EM.g x=a:=by unfold EM;dsimp only;rw[ea]
  have e2:EM.g y=b:=by unfold EM;dsimp only;rw[eb]
  rw[e1,e2]at hQ;exact hQ
 refine aO7 (_,8,?_,);let(ns',h1,h2,h3,):=sorted_out hv hp (λi j hij hj=>by rw[<-Sv,<-Sv];exact hs i j (aei _) hij hj);generalize(arrOf st).map (·.2)=out at *;let(e,he,):=sortedHeap_at (out:=out) pN;have fr:H h'.objs.size=none:=I1.hok.fresh (amA _);have lo:=h2.length_eq;refine(.ref h'.objs.size,_,I1.laid (a:=h'.objs.size) (t':=tk) (o:=.lst (ns'.map V.int)) (λb o z=>?_) (amA _) (by rw[aHJ,lo,a1n];lia,out.toList,e,LH h1,he,),8,q _ ns' fr h2 h3,);have z':h'.get? b=!o:=z;have lt:=ape z';rw[sortedHeap_old (abm lt) (by rw[size_push'];exact aUl lt),a68 _ _ _ (abm lt)];exact z'
end
end L2
set_option maxHeartbeats 4000000
namespace L2
open PySem PySem.Spec PyProof.Rows
section
variable{X:Cx}
def WU(K:W.Frag)(zs:List Int):TE:=λ_ H Q=>∀a,(∀H,aX K H a (zs.map V.int))->Q (.ref a) H
theorem Uj{K:W.Frag}{x:Str}{zs:List Int}{pos:Pos}(hK:X.K=K)(h:∃a,X.mg x=!(.ref a)/\∀H,aX K H a (zs.map V.int))(hg:Gl X x)(hd:(x ==("__debug__":Str))=false:=by decide):PE X (.Name x pos) (WU K zs):=by
 let(a,e,q,):=h;intro pins s σ H Q I hw;exact Ff I hg e (.ref a,H,I,8,hw a q,) hd
end
end L2
namespace bL
open PySem L2
theorem sL(n:Nat)(h:n ≤99:=by decide):n ≤sizeLine:=atw h (by rw[a1n];decide)
variable{P:Program}{w:World}{K:W.Frag}{mg:Str->Option Value}{base:Heap}
def top(i:Nat):Stmt:=PySem.Challenge.pw_nearstairs_k41_rooms_beside_emptied.main.body.getD i (.Pass (0,0,0,0,))
theorem WZ{N P:List Str}{sc:Scope}(a:sc.kind=.function:=by rfl)(b:sc.isCoroutine=false:=by rfl)(c:sc.isGenerator=false:=by rfl)(d:N.Nodup:=by decide +kernel)(e:N.take P.length=P:=by rfl)(f:∀x∈P,sc.names.lookup x=!.local\/sc.names.lookup x=!.cell:=by decide +kernel)(g:∀y∈sc.names,y.2≠.free:=by decide +kernel):d7 N P sc:=(a,b,c,d,e,f,g,)
open Lean in
local macro_rules|`(command|#reduce 1)=>do
 let mut r:Array (TSyntax `command):=#[]
 for x in "ly Ez tN qy 1 99 2 size spot;lg Et tL qw 2 99 2 size board first;lu Eu tM qx 3 99 2 shelves board;fK rQ rO oQ 11 0 4 self shelves places rule;lB EB mD qA 11 1 2 self board;iL Bc pV mS 11 2 2 self board out;lA EA tO qz 11 3 2 self board mates;jO CS rP oR 11 4 2 self board;gB zK nG kZ 11 5 1 self;fJ CQ cW dX 11 7 2 self board;iK Bb pU mR 11 8 2 self board;cR vm i7 gQ 11 9 2 self board mates;aT jb cF gz 11 10 2 self mates;iI A9 pS mO 13 0 2 self room_plan shelves places rule writing;jM CO rM oM 13 1 2 self board;eE wM kq jh 13 2 3 self board words;dI wj jC iD 13 3 2 self board;bT wc bD bN 13 4 2 self board;jL CN rL oK 13 5 3 self board words;dG we jA iB 13 6 4 self board at word;dH wg jB iC 13 7 2 self board;eG wN ku ji 13 8 2 self board;fC yZ l7 jU 13 9 2 self board;gC zL nI k6 14 0 2 self size;bO jc cX gR 14 2 2 self board;iM Be pW mT 14 3 3 self board words spot word;fL zf mF jZ 14 4 1 self;bC pX cE mQ 16 0 3 self size room_plans;iJ Ba pT mP 16 1 2 self k;eT wR kD jm 16 2 2 self k;dj zH bX cG 16 3 3 self k board;fE zc mw jW 16 4 1 self;gA zJ gK kY 16 5 2 self k;dM wm jE iF 16 6 1 self events;fF zd mz jX 16 7 3 self k board;cH tR ic fY 16 8 2 self k;fD y9 mj jV 16 9 3 self k board;eS wQ kC jk 16 10 4 self k board words;fH ze mC jY 16 11 3 self k board;jN CP rN oO 16 12 4 self k board words;eN wO kB jj 16 13 3 self k spot;dJ wk jD iE 16 14 4 self k spot word;gE zN nK k8 20 0 4 self size near far;gD zM nJ k7 20 1 3 self hand spot;fM zg mG j0 20 2 4 self hand spot word board other near;dN wo jF iG 20 3 1 self hand board words fresh;cA rW gx fB 20 4 3 self hand board out;cJ tT ig gb 20 5 2 self board out;bY rR fV eX 20 6 3 self hand board near;cz rV gw fz 20 7 3 self hand board words fresh;cI tS ie fZ 20 8 2 self board words fresh hand words_near fresh_near;cS vn i8 gS 20 9 3 self board words far;BJ Vp JL C6 22 99 2 _law_script _law_k _law_cell;xN Pp El zT 23 99 2 _law_box_here _law_size _law_found _law_step _law_once _law_twice;qB JQ yY vC 24 99 2 _law_script _law_size _law_cells _law_k _law_cell;s_same Ew g9 uB 25 99 2 _law_found _law_due_here;jJ CK rH oG 26 99 1 _law_box_here _law_far _law_shelves _law_places _law_rule;sA Ey Em zU 27 99 1 _law_box_here _law_kind _law_size;cZ nL nA kU 28 99 2 _law_box_here _law_size _law_many_here _law_way _law_begin _law_first _law_found _law_far _law_k _law_at;xM Po Ek zS 29 99 1 _law_box_here _law_way _law_number _law_turn;xR Px Er z4 30 99 3 _law_box_here _law_size _law_some _law_write _law_spot;xP Pu Eo zW 31 99 3 _law_box_here _law_few _law_most _law_great;xO Pq En zV 32 99 1 _law_box_here _law_size _law_kind _law_rooms;jK CL rJ oJ 33 99 3 _law_box_here _law_size _law_some _law_hand;xQ Pw Ep zZ 34 99 3 _law_pair_here _law_hand _law_deed_here;uC CM JK C5 35 99 2 _law_pair_here _law_far _law_lies _law_marks _law_found _law_k _law_board;nZ Fw vZ sy 36 99 3 _law_pair_here _law_k _law_board _law_caught error;aR bH ko jg 37 99 3 _law_pair_here _law_specs _law_held _law_due_here _law_boards _law_k _law_told;bW gM nF kX 38 99 1 _law_held _law_k _law_told _law_text;dg nM nC kW 39 99 6 _law_box_here _law_pair_here _law_specs _law_some _law_book _law_held _law_turn _law_hand _law_deed_here;oS A8 A7 xH 40 99 1 _law_box_here _law_specs _law_some _law_pair_here _law_book _law_held;iH JP vj C4 41 99 1 _law_script _law_cells".splitOn ";" do
  let z:=x.splitOn " "
  let f:=λi=>mkIdent (.mkSimple z[i]!)
  let d:=λi=>Syntax.mkNumLit z[i]!
  let [s,n,p,c]:=[f 0,f 1,f 2,f 3]|Macro.throwUnsupported
  let q:TSyntaxArray `term:=((z.drop 07).map quote).toArray
  let e<-if z[05]! =="99" then `(top $(d 4)) else `(ZjA (top $(d 4)) $(d 05))
  r:=r++#[<-`(command|abbrev $s:ident:Stmt:=$e),<-`(command|abbrev $n:ident:List Str:=[$q,*]),<-`(command|abbrev $p:ident:List Str:=($n).take $(d 06)),<-`(command|theorem $c:ident:d7 $n $p (Zp $s):=WZ)]
 return mkNullNode r
#reduce 1
set_option hygiene false
open Lean in
local macro_rules|`(command|example:($t):=$v)=>do
 let `(by $q:tacticSeq):=v|Macro.throwUnsupported
 let `($o $a*):=t|Macro.throwUnsupported
 let u:=("ck - xN zT El _law_take _law_take 1 wY;HP - lu qx tM shelf_of shelf_of 1 uc;sC Room lB qA mD has Room.has 1 xw K;wD Room fJ dX cW need Room.need 2 kQ K;uJ Room iK mR pU mates Room.mates 2 uh K;BQ Room cR gQ i7 leaver_for Room.leaver_for 3 ql K;Bq Room jO oR rP drop Room.drop 3 xE K;HE Room fK oQ rO __init__ Room.__init__ 1 w6 K;F8 Room iL mS pV bring Room.bring 4 uw K;Bp Store jL oK rL lay Store.lay 1 BD K;Bm - lg qw tL spots_of spots_of 1 ua;Ah Memory bO gR cX words_of Memory.words_of 2 kR K;sE Beside gA kY gK store Steps.store 1 kP K;sI Store bT bN bD words_of Store.words_of 3 dF K;HN Room lA qz tO use Room.use 3 By K;FU Store eE jh kq take_in Store.take_in 5 qi K;F0 Store dI iD jC give_out Store.give_out 4 nW K;F7 Memory iM mT pW lay Memory.lay 2 xq K;uH - ly qy tN board_of board_of 1 uz;FZ Store dG iB jA lay_word Store.lay_word 1 nU K;HH Store iI mO pS __init__ Store.__init__ 3 t9 K;HL Memory gC k6 nI __init__ Memory.__init__ 1 BC K;wC Beside jN oO rN put Steps.put 3 BB K;BY Store eG ji ku freshen Store.freshen 1 nX K;sF Beside fH jY mC go_out Steps.go_out 5 uq K;xY Beside cS gS i8 put_down Beside.put_down 4 ur K;FY Store dH iC jB is_fresh Store.is_fresh 1 nV K;FP Store fC jU l7 settle Store.settle 1 qj K;uI Store jM oM rM has Store.has 2 wZ K;Ai Beside cH fY ic tell_found Steps.tell_found 1 wX K;BV Beside fD jV mj use_in Steps.use_in 4 t7 K;BU Beside fF jX mz leaver Steps.leaver 4 xu K;F2 Beside cI fZ ie leave_all Beside.leave_all 6 qo K;BX Beside eS jk kC come_in Steps.come_in 6 qt K;xV Beside dj cG bX words Steps.words 4 fm K;F1 Beside cJ gb ig fetch_far Beside.fetch_far 7 xB K;GI Beside bY eX fV settle_near Beside.settle_near 5 nS K;BS Beside cz fz gw leave_near Beside.leave_near 6 qm K;BR Beside cA fB gx fetch_near Beside.fetch_near 8 xC K;FT Beside eN jj kB word_in Steps.word_in 4 qh K;xX Beside dM iF jE happened Steps.happened 1 kT K;FW Beside dJ iE jD put_word Steps.put_word 2 nT K;FJ Room gB kZ nG boards Room.boards 1 BI K;vE Beside iJ mP pT lies Steps.lies 2 xr K;Bo - jJ oG rH _law_room_plan _law_room_plan 2 w9;HD - xM zS Ek _law_word _law_word 2 tZ;HZ - sA zU Em _law_plan _law_plan 3 uf K;HY - xR z4 Er _law_deed _law_deed 3 uv;FI Beside gD k7 nJ read Beside.read 15 ue K;FO Beside fM j0 mG write Beside.write 15 qg K;FN Memory fL jZ mF pairs Memory.pairs 1 ug K;BW Beside eT jm kD changed Steps.changed 2 nY K;HU - uC C5 JK _law_due _law_due 7 BG K;xW Beside dN iG jF emptied Beside.emptied 7 xD K;HM - nZ sy vZ _law_is_gone _law_is_gone 5 xA K;HX - xP zW Eo _law_many _law_many 2 xo;HR - jK oJ rJ _law_hand_deed _law_hand_deed 4 uo;HW - xQ zZ Ep _law_done _law_done 16 xF K;FQ - aR jg ko _law_emptied_right _law_emptied_right 8 BF K;FL Beside fE jW mw memory Steps.memory 2 qk K;HV - xO zV En _law_pair _law_pair 4 xg;FH - cZ kU nA _law_some_boards _law_some_boards 2 qu;HK Beside gE k8 nK __init__ Beside.__init__ 6 xG K;FG - dg kW nC _law_round_right _law_round_right 17 BA K;FF - bW kX nF _law_lists_apart _law_lists_apart 2 BE K;HS - BJ C6 JL _law_box _law_box 1 BH K;HJ - qB vC yY _law_folded _law_folded 1 qq K;HG - oS xH A7 _law_right _law_right 18 ud K;lH - bC mQ cE __init__ Steps.__init__ 5 kG K;Au - iH C4 vj law law 19 qp K".splitOn ";").map (·.splitOn " ")
 let f:=λx:Syntax=>(u.find? λr=>r.head! ==toString x.getId).getD []
 let i:=λs=>mkIdent (.mkSimple s)
 let g:=λ(z:List String)=>show MacroM Term from if z.length=10 then `($(i z[08]!) K) else pure (i z[08]!)
 let b<-(a.extract 1 a.size).mapM λ(x:TSyntax `term)=>do
  let y:=#[(⟨x.raw⟩:Ident)]
  match x.raw.getId,f x with
  |`F6,_=>`(Parser.Term.bracketedBinderF|(F6:pY P w K mg base (af K "Room") "going" 2 cF (kI K)))
  |`F5,_=>`(Parser.Term.bracketedBinderF|(F5:EF P w K mg base "Steps" "__init__" 05 cE (kG K)))
  |`FE,_=>`(Parser.Term.bracketedBinderF|(FE:rS P w K mg base (af K "Beside") "words" 4 bX (sj (fm K) (sr K))))
  |`DG,_=>`(Parser.Term.bracketedBinderF|(DG:∀n,Def P w K mg base "_law_same" (n+1) g9 (iz n)))
  |_,[]=>Macro.throwUnsupported
  |_,z=>
   let c:=Syntax.mkStrLit z[1]!
   let n:=Syntax.mkStrLit z[05]!
   let l:=Syntax.mkNumLit z[07]!
   let p:=i z[4]!
   let s<-g z
   if z[1]! =="-" then `(Parser.Term.bracketedBinderF|($y*:Def P w K mg base $n $l $p $s)) else if z[05]! =="__init__" then `(Parser.Term.bracketedBinderF|($y*:EC P w K mg base (af K $c) $c $l $p $s)) else `(Parser.Term.bracketedBinderF|($y*:pY P w K mg base (af K $c) $n $l $p $s))
 let z:=f a[0]!
 let [s,c,p]:=[i z[2]!,i z[3]!,i z[4]!]|Macro.throwUnsupported
 let [n,m]:=[Syntax.mkStrLit z[05]!,Syntax.mkStrLit z[06]!]|Macro.throwUnsupported
 let l:=Syntax.mkNumLit z[07]!
 let h<-g z
 `(command|theorem $(⟨o⟩) (F:oA K $n $m $s f fd)(T:Txt K mg)$b:bracketedBinder*:aZ P w K mg base mJ $l f fd $p ($h):=by
   refine F.ok $c (λvs H Q E h=>by first|(cases h;subst_vars;rfl)|repeat' first|(obtain⟨rfl,_⟩:=h;rfl)|obtain⟨_,h⟩:=h) λcdv A outer st H vs Q E hr h=>?_;have nd:=($c).nd;have hu:=Cj hr
   ($q))
structure Txt(K:W.Frag)(mg:Str->Option Value):Prop where
 J5:mg "abs"=none
 DF:mg "all"=none
 FD:mg "any"=none
 J6:mg "bool"=none
 Nj:mg "divmod"=none
 HQ:mg "enumerate"=none
 ET:mg "int"=none
 wF:mg "isinstance"=none
 wI:mg "len"=none
 wU:mg "list"=none
 J4:mg "max"=none
 LZ:mg "min"=none
 sJ:mg "range"=none
 DH:mg "sorted"=none
 Ce:mg "str"=none
 HF:mg "tuple"=none
 J3:mg "zip"=none
 vq:∃t,mg "FAR"=!(.int 2 t)
 KY:∃a,mg "HANDS"=!(.ref a)/\∀H,aX K H a (([0,1]:List Int).map V.int)
 fh:p9 K (af K "Room")
 QY:aP K (af K "Room") "places"
 Nd:aP K (af K "Room") "rule"
 QZ:aP K (af K "Room") "shelves"
 Q2:aP K (af K "Room") "standing"
 CW:aP K (af K "Room") "uses"
 dO:p9 K (af K "Store")
 EH:aP K (af K "Store") "fresh"
 F3:aP K (af K "Store") "held"
 Ng:aP K (af K "Store") "late"
 Aj:aP K (af K "Store") "room"
 wG:p9 K (af K "Memory")
 Ga:aP K (af K "Memory") "kept"
 Nh:aP K (af K "Memory") "size"
 aK:p9 K (af K "Beside")
 J7:aP K (af K "Beside") "bottom"
 Dg:aP K (af K "Beside") "events"
 zo:aP K (af K "Beside") "last"
 CY:aP K (af K "Beside") "size"
 qE:aP K (af K "Beside") "stores"
 PN:mg "NotThere"=!(.ref (af K "NotThere"))
 PM:Vm K (af K "NotThere") (af K "NotThere") [af K "NotThere"] []
structure av(H:Hp)(b:Addr)(a q c:Int):Prop where
 at':H b=!(.lst [.int a,.int q,.int c])
 a0:0<=a
 q0:0<=q
 q1:q<2147483647
 c0:0<=c
theorem av.sb{H H':Hp}{b x:Addr}{a q c:Int}(B:av H b a q c)(s:SB x H H')(n:b≠x):av H' b a q c:=(s _ _ n B.at',B.a0,B.q0,B.q1,B.c0,)
theorem av.same{H H':Hp}{b:Addr}{a q c:Int}(B:av H b a q c)(s:aA H H'):av H' b a q c:=(s _ _ B.at',B.a0,B.q0,B.q1,B.c0,)
inductive wY(vs:List V)(H:Hp)(Q:VK)(E:XK):Prop
 |mk (b:Addr) (a q c n:Int):vs=[.ref b,.int n]->av H b a q c->c<1099511627776->0<n->n<1073741824->(∀(r a' c':Int)(H':Hp),0<=r->r<n->av H' b a' q c'->c'<=c+1->SB b H H'->Q (.int r) H')->wY vs H Q E
theorem DW(a:Int){b:Int}(h:0<b):0<=a%b:=aXk a 7
theorem zA(a:Int){b:Int}(h:0<b):a%b<b:=an2 a h
example:(Ao ck):=by
 let(b,a,q,c,n,rfl,B,hc,hn0,hn1,k,):=h;refine(_,(Ze (aF (Zx B0 (ak (Zm (K:=K) 8) (pv 0) Zi (λ_ _=>8)) Zi (Zv _)) (Ze (tK (Zq Zei 8 T.Nj Zen (pc (ak (Zm (K:=K) 8) (pv 0) Zi (λ_ _=>8)) (pc (pv 1) Zb))) (ZH (K:=K) (n:=2) 8 8 (Zo (Ef (pv 0) Zi Eg) (Zo (bG 2 nd) ZF))))
   (Zg (Zs (pv 2)))) Zu)
   (Ze (tK (aj ZP (ak (Zm (K:=K) 8) (pv 0) Zi (λ_ _=>8)) Zi) (Ef (pv 0) Zi Eg))
   (Ze (cO 3 nd (aj ZP Zi (aj vU (ak (Zm (K:=K) 8) (pv 0) Zi (λ_ _=>8)) (ak (Zm (K:=K) 8) (pv 0) Zi (λ_ _=>8)))))
   (Ze (cO 4 nd (aj vS (aj vU (aj ZP (ak (Zm (K:=K) 8) (pv 0) Zi (λ_ _=>8)) (aj vU Zi (ak (Zm (K:=K) 8) (pv 0) Zi (λ_ _=>8)))) (pv 3)) Zi))
   (Ze (cO 05 nd (aj vS (aj ZP (aj vU (pv 4) (aj ZP (aj vS (pv 4) Zi) Zi)) (ak (Zm (K:=K) 8) (pv 0) Zi (λ_ _=>8))) Zi))
   (Zg (Zs (aj vS (aj Fe (aj vS (aj vU (pv 05) (aj ZP (aj vS (pv 05) Zi) Zi)) Zi) Zi) (pv 1))))))))),?_,)
 have hb:=B.at';have hc0:=B.c0;have Ra:=B.q0;have hq1:=B.q1;refine(_,8,b,135,au.of hb,dZ,177,?_,);refine yU (λha=>?_) (λha=>?_)
 .refine (_,8,b,135,au.of hb,dZ,141,(hn0,hn1,),λp hp=>?_,);have YC:upd H p (.tup [.int (a/n),.int (a%n)]) b=!(.lst [.int a,.int q,.int c]):=by rw[Zc (Zd hb hp)];exact hb
  refine(p,_,8,aX.of Za,125,(_,8,b,_,_,0,8,8,YC,8,?_,),);refine(177,?_,);exact k _ (a/n) c _ (DW _ hn0) (zA _ hn0) (Za,Int.ediv_nonneg B.a0 7,Ra,hq1,hc0,) 7 ((Zf hp _).sb b|>.trans (E6 b _ _))
 .refine (_,8,b,135,au.of hb,jw,177,b,_,_,2,8,8,hb,8,?_,);have hb1:upd H b (.lst [.int a,.int q,.int (c+1)]) b=!(.lst [.int a,.int q,.int (c+1)]):=Za;have i0:au K (upd H b (.lst [.int a,.int q,.int (c+1)])) b [.int a,.int q,.int (c+1)]:=au.of hb1;refine(_,8,b,135,i0,jw,_,8,b,135,i0,jw,119,.inl (7,7,),119,?_,);refine(_,8,b,135,i0,jx,_,8,b,135,i0,jw,119,.inl (9,9,),1335,.inl (7,7,),119,(by show(0:Int)<_;decide),?_,);generalize Rc:(q+39373*(c+1))*(69621+(c+1)*(c+1))%2147483587=on;have on0:0<=on:=by rw[<-Rc];exact DW _ 9
  have on1:on<2147483587:=by rw[<-Rc];exact zA _ 9
  refine(439,(by show(0:Int)<_;decide),407,.inl (7,7,),_,8,b,135,i0,jw,407,(by show(0:Int)<_;decide),?_,);generalize htw:(on*(on%30011+05)+(c+1))%2147483563=tw;have tw0:0<=tw:=by rw[<-htw];exact DW _ 9
  have tw1:tw<2147483563:=by rw[<-htw];exact zA _ 9
  refine(439,(by show(0:Int)<_;decide),407,.inl (7,7,),119,(by show(0:Int)<_;decide),119,(9,9,),183,hn0,?_,);exact k _ a (c+1) _ (DW _ hn0) (zA _ hn0) (hb1,B.a0,Ra,hq1,7,) 7 (E6 b _ _)
inductive BH(K:W.Frag)(vs:List V)(H:Hp)(Q:VK)(E:XK):Prop
 |mk (l:Addr) (ns:List Int) (k:Int):vs=[.ref l,.int k]->au K H l (ns.map V.int)->0<=k->k<1000000->(∀(r:Addr)(a q:Int)(H':Hp),H r=none->aA H H'->av H' r a q 0->Q (.ref r) H')->BH K vs H Q E
theorem Cg(b:Bool): -(2 ^ 64)<(if b then 1 else 0:Int)/\(if b then 1 else 0:Int)<2 ^ 64:=by cases b <;> decide
theorem Ui{ns:List Int}{k:Int}(h0:0<=k)(h:k<(ns.length:Int)):∃v:Int,fU (ns.map V.int) k=!(.int v):=by
 have hk:k.toNat<ns.length:=7
 have q:fU (ns.map V.int) ((k.toNat:Nat):Int)=!(.int ns[k.toNat]):=yV (by rw[a7o,ais hk] <;> rfl);rw[show((k.toNat:Nat):Int)=k by lia]at q;exact(_,q,)
theorem Zlb(i:Int):0<=(if i<0 then -i else i):=by split <;> lia
theorem Tj(i:Int)(b:Bool):0<=(if i<0 then -i else i)*(if b then 1 else 0:Int):=Int.mul_nonneg (Zlb i) (by cases b <;> decide)
example:(Dl HS):=by
 let(l,ns,k,rfl,hS,hk0,hk1,kk,):=h;refine(_,(Ze (cO 2 nd (Eh (Zx qH (pv 1) (Zq (ZD (K:=K) 8) 8 T.wI avg (pc (pv 0) Zb)) (Zv _)) (ak (Zm (K:=K) 8) (pv 0) (pv 1) (λ_ _=>8)) Zi))
   (Zg (Zs (ZX (pc (aj vU (Zq UK 8 T.J5 UC (pc (pv 2) Zb)) (ZK Pg 8 T.ET LG (pc (ZR G0 (Zq UK 8 T.J5 UC (pc (pv 2) Zb)) (aj Oe Zi Zi) (Zv _)) Zb))) (pc (aj vS (aj vU (aj ZP (aj ZP (aj vS (pv 2) Zi) (aj vU Zi (pv 1))) Zi) Zi) Zi) (pc Zi Zb))))))),?_,)
 refine(121,l,_,8,.inl hS,177,?_,);refine yU (λc=>?_) (λc=>?_)
 .rw [aHJ]at c;let(v,hv,):=Ui hk0 c;refine(121,l,135,hS,hv,?_,);refine(5559,(9,9,9,),119,.inr (183,.inr (Cg _),?_,),);refine(183,(by show(0:Int)<_;decide),183,.inl (9,9,),5015,.inr (9,9,),119,(by show(0:Int)<_;decide),(sL 3),λr hr=>?_,);exact kk r _ _ _ hr (Zf hr _) (Za,Tj _ _,DW _ 9,zA _ 9,aeM _,)
 .refine (5559,(9,9,9,),119,.inr (183,.inr (Cg _),?_,),);refine(183,(by show(0:Int)<_;decide),183,.inl (9,9,),5015,.inr (9,9,),119,(by show(0:Int)<_;decide),(sL 3),λr hr=>?_,);exact kk r _ _ _ hr (Zf hr _) (Za,Tj _ _,DW _ 9,zA _ 9,aeM _,)
inductive qq(K:W.Frag)(vs:List V)(H:Hp)(Q:VK)(E:XK):Prop
 |mk (a:Addr) (ns:List Int) (n:Nat):vs=[.ref a,.int (n:Int)]->au K H a (ns.map V.int)->ns.length<=63->0<n->n<=63->(∀(r:Addr)(ms:List Int)(H':Hp),H r=none->aA H H'->H' r=!(.lst (ms.map V.int))->ms.length=min n ns.length->Q (.ref r) H')->qq K vs H Q E
theorem Ti(ns:List Int)(lo hi:Option Int):qW (ns.map V.int) lo hi=((ns.drop (HT.jP ns.length 0 lo)).take (HT.jP ns.length ns.length hi-HT.jP ns.length 0 lo)).map V.int:=by
 unfold qW;rw[aHJ,<-List.map_drop,<-List.map_take]
theorem LK(ms:List Int)(j:Nat)(v:Int):(ms.map V.int).set j (.int v)=(ms.set j v).map V.int:=by rw[map_set]
theorem Ob{n:Nat}{i:Int}(h0:0<=i)(h:i<n):uR n i=!i.toNat:=by unfold uR;rw[aS1 h0,aS1 h]
theorem Zlc{ms:List Int}{i:Nat}{x:V}(h:(ms.map V.int)[i]?=!x):∃z,x=V.int z/\i<ms.length:=by
 rw[a7o]at h;cases e:ms[i]? with
 |none=>rw[e]at h;cases h
 |some z=>rw[e]at h;exact(z,(aZC h).symm,(au3.mp e).1,)
example:(vG HJ):=by
 let(a,ns,n,rfl,hS,h63,hn0,hn1,k,):=h;refine(_,(Ze (cO 2 nd (ZK (LR (K:=K) 8) 8 T.wU ZU (pc (UI (UA (K:=K) 8) (pv 0) Zjw (OD (pv 1))) Zb)))
   (Ze (vd a49 8 (OB 8 T.HQ (pc (UI (UA (K:=K) 8) (pv 0) (OD (pv 1)) (OD Zi)) Zb)) (ZH (K:=K) (n:=2) 8 8 (Zo (bG 3 nd) (Zo (bG 4 nd) ZF))) (Zg (tK (aj ZP (ak (Zm (K:=K) 8) (pv 2) (aj vS (pv 3) (pv 1)) (λ_ _=>8)) (aj vU (pv 4) (aj ZP (pv 3) Zi))) (Ef (pv 2) (aj vS (pv 3) (pv 1)) Eg))))
   (Zg (Zs (pv 2))))),?_,)
 refine(185,a,_,8,hS,λp hp=>?_,);have s1:=Zf hp (.lst (qW (ns.map V.int) none (!(n:Int))));refine(p,_,8,.inl (au.of Za),λr hr1=>?_,);have s2:=s1.trans (Zf hr1 (.lst (qW (ns.map V.int) none (!(n:Int)))));have Q9:H r=none:=s1.free hr1;rw[Ti]at *;generalize hms:(ns.drop (HT.jP ns.length 0 none)).take (HT.jP ns.length ns.length (!(n:Int))-HT.jP ns.length 0 none)=ms at *;have XX:ms.length=min n ns.length:=by
  rw[<-hms,HT.xS,HT.uD,agt,aKZ];lia
 generalize YI:upd (upd H p (.lst (ms.map V.int))) r (.lst (ms.map V.int))=H2 at *;have Rw:H2 r=!(.lst (ms.map V.int)):=by rw[<-YI];exact Za
 refine(441,a,_,8,s2.seq hS,λt ht=>?_,);rw[Ti];generalize hws:(ns.drop (HT.jP ns.length 0 (!(n:Int)))).take (HT.jP ns.length ns.length (!63)-HT.jP ns.length 0 (!(n:Int)))=ws;have yp:0<ws.length->n<ns.length:=λh=>by
  rw[<-hws,agt,aKZ,HT.uD]at h;lia
 have XQ:ws.length<=63:=by rw[<-hws,agt,aKZ];lia
 have s3:=s2.trans (Zf ht (.lst (ws.map V.int)));have Qu:r≠t:=Zd Rw ht;refine(t,8,(_,au.of Za,),UB (K:=K) (a:=t) (xs:=ws.map V.int) (λi σ H'=>∃(ms':List Int)(v3 v4:Option V),σ=[!(.ref a),!(.int n),!(.ref r),v3,v4]/\ms'.length=min n ns.length/\H' r=!(.lst (ms'.map V.int))/\H' t=!(.lst (ws.map V.int))/\aA H H')
  (ms,none,none,8,XX,by rw[Zc Qu];exact Rw,Za,s3,) (λi σ H' _ (164,q,_,)=>au.of q) ?_ ?_,)
 .rintro i x u σ H' hi ⟨ms',v3,v4,rfl,lm,h1,h2,s4⟩ hu;let(z,rfl,hlt,):=Zlc hi;have hnl:=yp 7;have s5:=Zf hu (.tup [.int (i:Int),.int z]);refine(u,_,8,aX.of Za,503,?_,);have m0:0<=(i:Int)%(n:Int):=DW _ 7;have m1:(i:Int)%(n:Int)<(n:Int):=zA _ 7;let(v,hv,):=Ui (ns:=ms') m0 7;refine(1463,(by show(0:Int)<_;lia),r,135,au.of (s5 _ _ h1),hv,?_,);refine(5527,.inr (7,7,),119,?_,);refine(1463,(by show(0:Int)<_;lia),r,_,_,((i:Int)%(n:Int)).toNat,8,8,s5 _ _ h1,Ob m0 (by rw[aHJ];lia),?_,);refine(ms'.set ((i:Int)%(n:Int)).toNat (v+z*((i:Int)+2)),109,by rw[aKe];exact lm,by rw[Za,LK],?_,?_,)
  .rw [Zc (aBl Qu)];exact s5 _ _ h2
  .intro b o e;rw[Zc (Zd e Q9)];exact s5 _ _ (s4 _ _ e)
 .rintro σ H' ⟨ms',v3,v4,rfl,lm,h1,h2,s4⟩;exact(_,8,k r ms' H' Q9 s4 h1 lm,)
theorem hide{t u:TS}{D:Ends}{σ:St}{H:Hp}(h:∀u',u'=u->vA t u' D σ H):vA t u D σ H:=h u 8
theorem La{te:TE}{g:TG}{u:TS}{D:Ends}{σ:St}{H:Hp}(Post:V->Hp->Prop)(h1:∀Q':VK,(∀v H1,Post v H1->Q' v H1)->te σ H Q')(h2:∀v H1,Post v H1->g v σ H1 (u D)):vA (vB te g) u D σ H:=h1 _ h2
theorem D5{ts u:TS}{D:Ends}{σ:St}{H:Hp}(Post:St->Hp->Prop)(h1:∀D':Ends,D'.rt=D.rt->(∀ σ1 H1,Post σ1 H1->D'.nx σ1 H1)->ts D' σ H)(h2:∀ σ1 H1,Post σ1 H1->u D σ1 H1):vA ts u D σ H:=h1 _ 8 h2
theorem IM{tt:TT}{ta tb:TS}{D:Ends}{σ:St}{H:Hp}(Post:Bool->Hp->Prop)(h1:∀Q':Bool->Hp->Prop,(∀v H1,Post v H1->Q' v H1)->tt σ H Q')(h2:∀c H1,Post c H1->if c=true then ta D σ H1 else tb D σ H1):C3 tt ta tb D σ H:=h1 _ h2
theorem NZ{t u:TT}{σ:St}{H:Hp}{Q:Bool->Hp->Prop}(Post:Bool->Hp->Prop)(h1:∀Q':Bool->Hp->Prop,(∀v H1,Post v H1->Q' v H1)->t σ H Q')(h2:∀c H1,Post c H1->if c=true then Q true H1 else u σ H1 Q):Qd t u σ H Q:=h1 _ h2
theorem LJ{b l:Addr}{H G:Hp}{xs:List V}(s:SB b H G)(hb:G b=!(.lst xs))(hl:G l=none):H l=none:=by
 cases e:H l with
 |none=>rfl
 |some o=>
  by_cases h:l=b
  .rw [h,hb]at hl;cases hl
  .rw [s _ _ h e]at hl;cases hl
theorem Oa{ns:List Int}{k:Int}(h0:0<=k)(h:k<(ns.length:Int)):∃v:Int,fU (ns.map V.int) k=!(.int v)/\v∈ns:=by
 have hk:k.toNat<ns.length:=7
 have q:fU (ns.map V.int) ((k.toNat:Nat):Int)=!(.int ns[k.toNat]):=yV (by rw[a7o,ais hk] <;> rfl);rw[show((k.toNat:Nat):Int)=k by lia]at q;exact(_,q,aNb hk,)
theorem Ut(ns:List Int):(ns.map V.int).all gH=true:=by
 rw[am5];intro x hx;let(n,_,rfl,):=arp.mp hx;rfl
theorem Ziz{n:Nat}(h:0<n):uR n (-1)=!(n-1):=by
 unfold uR;rw[aWd 9,aS1 7];congr 1
 lia
theorem Ov{ns:List Int}{j:Nat}{v x:Int}(h:x∈ns.set j v):x∈ns\/x=v:=by
 rcases aVV h with h|h
 .exact .inl h
 .exact .inr h
theorem Th{i j:Int}{A B:Prop}(h1:i=j->A)(h2:¬i=j->B):if decide (V.int i=V.int j)=true then A else B:=
 yU (λe=>h1 (by injection e)) (λe=>h2 λz=>e (by rw[z]))
theorem cB{b:Bool}{A B:Prop}(h:b=false)(hB:B):if b=true then A else B:=by subst h;rw[aWd aqS];exact hB
theorem dQ{b:Bool}{A B:Prop}(h:b=true)(hA:A):if b=true then A else B:=by subst h;rw[aS1 8];exact hA
theorem OM{α:Type}{xs:List α}{i:Int}(h0:0<=i)(h1:i<(xs.length:Int)):∃v,fU xs i=!v/\v∈xs:=by
 have hk:i.toNat<xs.length:=7
 have q:fU xs ((i.toNat:Nat):Int)=!xs[i.toNat]:=yV (ais hk);rw[show((i.toNat:Nat):Int)=i by lia]at q;exact(_,q,aNb hk,)
theorem So(x y:Int)(k:Bool):∃n:Int,fU [V.int x,V.int y] (if k=true then 1 else 0)=!(.int n)/\(n=x\/n=y):=by
 cases k with
 |true=>exact(y,jx,.inr 8,)
 |false=>exact(x,dZ,.inl 8,)
theorem GR(x y r:Int)(h0:0<=r)(h1:r<2):∃n:Int,fU [V.int x,V.int y] r=!(.int n)/\(n=x\/n=y):=by
 have h:r=0\/r=1:=7
 rcases h with rfl|rfl
 .exact (x,dZ,.inl 8,)
 .exact (y,jx,.inr 8,)
theorem Zld(r:Int)(h0:0<=r)(h1:r<4):∃n:Int,fU [V.int 1,V.int 1,V.int 12,V.int 24] r=!(.int n)/\(n=1\/n=12\/n=24):=by
 let(x,hx,m,):=OM (xs:=[V.int 1,V.int 1,V.int 12,V.int 24]) h0 (by show r<((4:Nat):Int);lia);simp only[as2,af0,aRi]at m;rcases m with rfl|rfl|rfl|rfl
 .exact (_,hx,.inl 8,)
 .exact (_,hx,.inl 8,)
 .exact (_,hx,.inr (.inl 8),)
 .exact (_,hx,.inr (.inr 8),)
theorem GQ(r:Int)(h0:0<=r)(h1:r<05):∃v,fU [V.int 1,V.int 1,V.int 2,V.int 3,V.int 4] r=!(.int v)/\1<=v/\v<=64:=by
 let(x,hx,m,):=OM (xs:=[V.int 1,V.int 1,V.int 2,V.int 3,V.int 4]) h0 (by show r<((05:Nat):Int);lia);simp only[as2,af0,aRi]at m;rcases m with rfl|rfl|rfl|rfl|rfl <;> exact(_,hx,9,9,)
def yX(z:Str):Prop:=z ="old" \/z ="come" \/z ="few"
theorem GO(r:Int)(h0:0<=r)(h1:r<3):∃z:Str,fU [V.str "old",V.str "come",V.str "few"] r=!(.str z)/\yX z:=by
 let(x,hx,m,):=OM (xs:=[V.str "old",V.str "come",V.str "few"]) h0 (by show r<((3:Nat):Int);lia);simp only[as2,af0,aRi]at m;rcases m with rfl|rfl|rfl
 .exact (_,hx,.inl 8,)
 .exact (_,hx,.inr (.inl 8),)
 .exact (_,hx,.inr (.inr 8),)
theorem Zhg{s:Int}(h0:1<=s)(h1:s<=16):555<=9999/s/\9999/s<=9999/\1<=(if 10000/s-480>1 then 10000/s-480 else 1)/\(if 10000/s-480>1 then 10000/s-480 else 1)+455<=9999/s:=by
 have key:∀n:Fin 17,1<=(n.val:Int)->(555<=9999/(n.val:Int)/\9999/(n.val:Int)<=9999/\1<=(if 10000/(n.val:Int)-480>1 then 10000/(n.val:Int)-480 else 1)/\(if 10000/(n.val:Int)-480>1 then 10000/(n.val:Int)-480 else 1)+455<=9999/(n.val:Int)):=6
 have e:(((s.toNat,7,):Fin 17).val:Int)=s:=by show((s.toNat:Nat):Int)=s;lia
 have q:=key (s.toNat,7,) (by rw[e];exact h0);rw[e]at q;exact q
def LY(t:Int)(ns:List Int):Prop:=∀n∈ns,0<=n/\n<=t
inductive qu(vs:List V)(H:Hp)(Q:VK)(E:XK):Prop
 |mk (b:Addr) (a q c s:Int):vs=[.ref b,.int s]->av H b a q c->c<500000000->1<=s->s<=16->(∀(l:Addr)(ns:List Int)(a' c':Int)(H':Hp),H l=none->H' l=!(.lst (ns.map V.int))->3<=ns.length->ns.length<=20->LY (9999/s) ns->av H' b a' q c'->c'<=c+40->SB b H H'->Q (.ref l) H')->qu vs H Q E
example:(lD FH ck):=by
 let(b,a,q,c,s,rfl,B,hc,hs0,hs1,k,):=h;let(WN,WM,m0,m1,):=Zhg hs0 hs1;refine(_,(Ze (cO 2 nd (aj ZP Zi (Zl ck hr.m 8 (pc (pv 0) (pc (ak (Zm (K:=K) 8) (ZX (pc Zi (pc Zi Zb))) (ZK Pg 8 T.ET LG (pc (ZR bu (Zl ck hr.m 8 (pc (pv 0) (pc Zi Zb))) Zi (Zv _)) Zb)) (λ_ _=>8)) Zb)))))
   (Ze (tK (ZJ (pc (Zl ck hr.m 8 (pc (pv 0) (pc Zi Zb))) (pc (Zl ck hr.m 8 (pc (pv 0) (pc Zi Zb))) Zb))) (ZH (K:=K) (n:=2) 8 8 (Zo (bG 3 nd) (Zo (bG 4 nd) ZF))))
   (Ze (cO 05 nd (Eh (Zx qH (pv 4) Zi (Zv _)) (pv 4) (Zl ck hr.m 8 (pc (pv 0) (pc (ak (Zm (K:=K) 8) (ZX (pc Zi (pc (Zq (UP 8) 8 T.J4 UD (pc Zi (pc (aj CA (aj Fe Zi (pv 1)) Zi) Zb))) Zb))) (aj CA (pv 4) Zi) (λ_ _=>8)) Zb)))))
   (Ze (Zib 06 (Zw (iN:=(Zp cZ)) (oN:=nL) (N:=["_law_k","_law_first","_law_way"]) (own:=1) (js:=[05,3]) 6 8 8) 8 nd 8 8 (ZO 8 T.sJ (pc (pv 2) Zb)) (λ_ _ _ _ _ _=>(bG 0 (show List.Nodup (["_law_k","_law_first","_law_way"]:List Str) by decide +kernel))) (λ_ _ _ _ _ _=>(aj ZP (pv 1) (aj vU (ak (Zm (K:=K) 8) (ZX (pc Zi (pc Zi (pc Zi (pc Zi Zb))))) (pv 2) (λ_ _=>8)) (pv 0)))))
   (Ze (cO 07 nd (Eh (Zx bu (Zl ck hr.m 8 (pc (pv 0) (pc Zi Zb))) Zi (Zv _)) (aj Fe Zi (pv 1)) (Zl ck hr.m 8 (pc (pv 0) (pc (aj ZP Zi (aj Fe Zi (pv 1))) Zb)))))
   (Ze (aF (PW.pt (pw_or (PW.pt (S0 (Zx bu (pv 3) Zi (Zv _)) (TV (Zx (Ve (K:=K) 8) (pv 07) (pv 06) 8)))) (Lm (PW.pt (S0 (Zx bu (pv 07) (aj Fe Zi (pv 1)) (Zv _)) (TV (Zx (Ve (K:=K) 8) (pv 07) (pv 06) 8))))))) (Zg (tK (pv 07) (Ef (pv 06) (yg Od Zi) Eg))) Zu)
   (Ze (vd a49 8 (ZO 8 T.sJ (pc (aj CA (pv 2) Zi) Zb)) (bG 08 nd) (Ze (cO 09 nd (aj ZP (pv 08) (Zl ck hr.m 8 (pc (pv 0) (pc (aj CA (pv 2) (pv 08)) Zb)))))
   (Zg (tK (ZJ (pc (ak (Zm (K:=K) 8) (pv 06) (pv 09) (λ_ _=>8)) (pc (ak (Zm (K:=K) 8) (pv 06) (pv 08) (λ_ _=>8)) Zb))) (ZH (K:=K) (n:=2) 8 8 (Zo (Ef (pv 06) (pv 08) Eg) (Zo (Ef (pv 06) (pv 09) Eg) ZF)))))))
   (Zg (Zs (pv 06)))))))))),?_,)
 generalize hm:(if 10000/s-480>1 then 10000/s-480 else 1)=m at m0 m1;generalize ht:(9999:Int)/s=top at *;refine hide λuu ee=>?_;refine(_,8,(sL 2),λp1 hp1=>(_,8,b,a,q,c,06,8,B.same (Zf hp1 _),7,9,9,λr1 a1 c1 H1 zm BP B1 hc1 s1=>(8,.inr (_,8,?_,),),),);have q1:b≠p1:=Zd B.at' hp1;let(n,hn,hn',):=So 05 18 (decide (V.int r1=V.int 0));refine(p1,135,au.of (s1 _ _ (aBl q1) Za),hn,b,a1,q,c1,n,8,B1,7,7,7,λr2 a2 c2 H2 zl xU B2 hc2 s2=>(119,?_,),);have XN:3<=3+r2:=7
 have XM:3+r2<=20:=7
 have u2:SB b H H2:=(((Zf hp1 _).sb b).trans s1).trans s2;dsimp only[fT];subst ee;try dsimp only
 refine hide λuu ee=>?_;refine(_,8,b,a2,q,c2,4,8,B2,7,9,9,λr3 a3 c3 H3 Df BO B3 hc3 s3=>?_,);refine(_,8,b,a3,q,c3,4,8,B3,7,9,9,λr4 a4 c4 Vu GH Ko B4' hc4 s4=>((sL 2),λp4 Rb=>(p4,_,8,aX.of Za,503,?_,),),);have B4:=B4'.same (Zf Rb (.tup [.int r3,.int r4]));have u4:SB b H (upd Vu p4 (.tup [.int r3,.int r4])):=((u2.trans s3).trans s4).trans ((Zf Rb _).sb b);generalize upd Vu p4 (.tup [.int r3,.int r4])=H4 at *;subst ee;try dsimp only
 refine La (λv G=>∃z a' c',v=.int z/\0<=z/\z+456<=top/\av G b a' q c'/\c'<=c4+1/\SB b H G) (λQ' k'=>?_) ?_
 .refine (433,yU (λZ2=>(_,8,k' _ _ (_,a4,c4,8,GH,7,B4,7,u4,),)) (λZ2=>?_),);refine(439,(7,7,),253,(sL 2),λp2 hp2=>?_,);have q2:b≠p2:=Zd B4.at' hp2;rw[hm];let(n2,hn2,Yo,):=GR 100 m (r4-2) 7 7;refine(183,p2,135,au.of Za,hn2,b,a4,q,c4,n2,8,B4.same (Zf hp2 _),7,7,7,λr5 a5 c5 H5 Mx Ql B5 hc5 s5=>?_,);exact k' _ _ (r5,a5,c5,8,Mx,7,B5,7,u4.trans (((Zf hp2 _).sb b).trans s5),)
 rintro _ H5 ⟨z,a5,c5,rfl,z0,z1,B5,hc5,u5⟩;dsimp only[fT];refine hide λuu ee=>?_;refine(121,7,7,λl hl=>?_,);have AF:H l=none:=LJ u5 B5.at' hl;have pB:l≠b:=aBl (Zd B5.at' hl);have hmn:(3+r2).toNat<=20:=7
 refine ZY (lo:=0) (n:=(3+r2).toNat) (l:=l) (λj ys σ G=>∃(v0:Option V)(ns:List Int),σ=[v0,!(.int z),!(.int r3)]/\ys=ns.map V.int/\ns.length=j/\LY top ns/\G l=!(.lst ys)/\aA H5 G)
  (none,[],115,λn hn=>(nomatch hn),Za,Zf hl _,) ?_ ?_
 .rintro j ys σ G hj hy ⟨v0,ns,rfl,rfl,hj',hb',h1,h2⟩;refine(_,8,(sL 4),λp hp=>?_,);let(n4,Yn,Nv,):=Zld r3 Df BO;have np:l≠p:=Zd h1 hp;have Ye:(j:Int)<=19:=7
  refine(_,8,p,135,au.of Za,Yn,183,.inl (7,7,),119,jd.of (atw hmn 9) hj hy (by rw[Zc np];exact h1) (_,ns++[z+n4*(0+(j:Int))],8,by rw[avl];rfl,by rw[a14,hj'];rfl,λx hx=>?_,Za,λe o y=>?_,),)
  .rcases bdf.mp hx with h|h
   .exact hb' x h
   .have ex:x=z+n4*(0+(j:Int)):=by simpa using h
    subst ex;rcases Nv with rfl|rfl|rfl
    .exact (7,7,)
    .exact (7,7,)
    .exact (7,7,)
  .rw [Zc (Zd y hl)];exact Zf hp _ _ _ (h2 _ _ y)
 rintro ys σ G hy ⟨v0,ns,rfl,rfl,hj',hb',h1,h2⟩;have B6:=B5.same h2;have u6:SB b H G:=u5.trans (h2.sb b);have ER:3<=ns.length:=7
 have XW:ns.length<=20:=7
 dsimp only[fT];subst ee;try dsimp only
 refine La (λv G'=>∃z a' c',v=.int z/\0<=z/\z<=top/\av G' b a' q c'/\c'<=c5+2/\SB b G G') (λQ' k'=>?_) ?_
 .refine (_,8,b,a5,q,c5,05,8,B6,7,9,9,λr7 a7 c7 H7 r70 r71 B7 YA s7=>(113,yU (λ_=>?_) (λ_=>?_),),)
  .refine (183,(7,7,),?_,);exact k' _ _ (_,a7,c7,8,by rw[ht];lia,by rw[ht];lia,B7,7,s7,)
  .refine (439,(7,7,),119,b,a7,q,c7,_,8,B7,7,by rw[ht];lia,by rw[ht];lia,λr8 a8 c8 H8 W6 W5 B8 hc8 s8=>?_,);exact k' _ _ (_,a8,c8,8,W6,by rw[ht]at W5;lia,B8,7,s7.trans s8,)
 rintro _ H7 ⟨fr,a7,c7,rfl,YN,K9,B7,YA,s7⟩;have h7:=s7 _ _ pB h1;have u7:SB b H H7:=u6.trans s7;refine D5 (λσ G'=>∃ns':List Int,σ=[!(.ref b),!(.int s),!(.int (3+r2)),!(.int r3),!(.int r4),!(.int z),!(.ref l),!(.int fr),none,none]/\G' l=!(.lst (ns'.map V.int))/\ns'.length=ns.length/\LY top ns'/\av G' b a7 q c7/\SB b H G') (λD' _ k'=>?_) ?_
 .refine IM (λ_ G'=>G'=H7) (λQ' k''=>?_) ?_
  .refine NZ (λ_ G'=>G'=H7) (λQ'' k3=>?_) ?_
   .exact (145,yU (λ_=>(121,l,_,8,.inl (au.of h7),8,Ut _,_,8,k3 _ _ 8,)) (λ_=>k3 _ _ 8),)
   .rintro cb _ rfl;cases cb with
    |true=>exact dQ 8 (k'' _ _ 8)
    |false=>exact cB 8 (439,(7,7,),113,yU (λ_=>(121,l,_,8,.inl (au.of h7),8,Ut _,_,8,k'' _ _ 8,)) (λ_=>k'' _ _ 8),)
  .rintro cb _ rfl;cases cb with
   |false=>exact cB 8 (k' _ _ (ns,8,h7,8,hb',B7,u7,))
   |true=>
    refine dQ 8 (185,l,135,h7,Ziz (by rw[aHJ];lia),k' _ _ (ns.set (ns.length-1) fr,8,?_,aKe,λx hx=>?_,B7.sb (E6 l _ _) (aBl pB),λe o n' y=>?_,),)
    .rw [Za,aHJ,LK]
    .rcases Ov hx with h|h
     .exact hb' x h
     .subst h;exact(YN,K9,)
    .rw [Zc (Zd y AF)];exact u7 _ _ n' y
 rintro _ H8 ⟨Xn,rfl,h8,l8,b8,B8,u8⟩;refine(433,7,7,LS (lo:=0) (n:=(3+r2-1).toNat) (λj σ G'=>∃(ns':List Int)(v8 v9:Option V)(a' c':Int),σ=[!(.ref b),!(.int s),!(.int (3+r2)),!(.int r3),!(.int r4),!(.int z),!(.ref l),!(.int fr),v8,v9]/\G' l=!(.lst (ns'.map V.int))/\ns'.length=ns.length/\LY top ns'/\av G' b a' q c'/\c'<=c7+(j:Int)/\SB b H G')
  (Xn,_,_,a7,c7,8,h8,l8,b8,B8,7,u8,) ?_ ?_,)
 .rintro j σ G' hj ⟨ns',v8,v9,a',c',rfl,tF,l',b',B',hc',u'⟩;have Ye:(j:Int)<=18:=7
  have jl:(j:Int)+1<3+r2:=7
  refine(5559,b,a',q,c',_,8,B',7,7,7,λr9 a9 c9 H9 r90 r91 B9 hc9 s9=>(119,?_,),);have h9:=s9 _ _ pB tF;let(x1,Q6,XJ,):=Oa (ns:=ns') (k:=0+(j:Int)+r9) 7 7;let(x2,Nq,XI,):=Oa (ns:=ns') (k:=0+(j:Int)) 7 7;refine(121,l,135,au.of h9,Q6,121,l,135,au.of h9,Nq,(sL 2),λt ht'=>?_,);have Xw:l≠t:=Zd h9 ht';refine(t,_,8,aX.of Za,505,l,135,(by rw[Zc Xw];exact h9),Ob 7 (by rw[aHJ];lia),?_,);refine(249,l,135,Za,Ob 7 (by rw[aKe,aHJ];lia),8,?_,);refine((ns'.set (0+(j:Int)).toNat x1).set (0+(j:Int)+r9).toNat x2,_,_,a9,c9,8,by rw[Za,LK,LK],by rw[aKe,aKe];exact l',λx hx=>?_,?_,7,λe o n' y=>?_,)
  .rcases Ov hx with h|h
   .rcases Ov h with h|h
    .exact b' x h
    .subst h;exact b' _ XJ
   .subst h;exact b' _ XI
  .exact ((B9.same (Zf ht' _)).sb (E6 l _ _) (aBl pB)).sb (E6 l _ _) (aBl pB)
  .have ne:e≠l:=Zd y AF;rw[Zc ne,Zc ne];exact Zf ht' _ _ _ (s9 _ _ n' (u' _ _ n' y))
 .rintro σ G' ⟨ns',v8,v9,a',c',rfl,tF,l',b',B',hc',u'⟩;exact(_,8,k l ns' a' c' G' AF tF 7 7 b' B' 7 u',)
def Sc:V->Prop
 | .int _=>True
 | .bl _=>True
 | .aN=>True
 | .str _=>True
 |_=>False
def Eqv:Nat->Hp->V->V->Prop
 |0,_,x,y=>x=y/\Sc x
 |n+1,H,x,y=>(x=y/\Sc x)\/∃(a b:Addr)(xs ys:List V),x=.ref a/\y=.ref b/\((H a=!(.lst xs)/\H b=!(.lst ys))\/(H a=!(.tup xs)/\H b=!(.tup ys)))/\xs.length=ys.length/\xs.length<=1000/\∀(i:Nat)(u v:V),xs[i]?=!u->ys[i]?=!v->Eqv n H u v
theorem Eqv.same:∀{n:Nat}{H H':Hp}{x y:V},Eqv n H x y->aA H H'->Eqv n H' x y
 |0,_,_,_,_,h,_=>h
 |n+1,H,H',x,y,h,s=>by
  rcases h with h|⟨a,b,xs,ys,h1,h2,h3,h5,h6,h7⟩
  .exact .inl h
  .refine .inr (a,b,xs,ys,h1,h2,?_,h5,h6,λi u v e1 e2=>(h7 i u v e1 e2).same s,);rcases h3 with⟨h3,h4⟩|⟨h3,h4⟩
   .exact .inl (s _ _ h3,s _ _ h4,)
   .exact .inr (s _ _ h3,s _ _ h4,)
inductive iz(n:Nat)(vs:List V)(H:Hp)(Q:VK)(_v3:XK):Prop
 |mk (x y:_):vs=[x,y]->Eqv n H x y->(∀H',aA H H'->Q (.bl true) H')->iz n vs H Q _v3
theorem Eqv.sc{H:Hp}{x:V}(h:Sc x):∀n,Eqv n H x x
 |0=>(8,h,)
 |_+1=>.inl (8,h,)
theorem Eqv.DV{H:Hp}{a b:Addr}{xs:List V}(n:Nat)(ha:H a=!(.tup xs))(hb:H b=!(.tup xs))(hl:xs.length<=1000)(hs:∀x∈xs,Sc x):Eqv (n+1) H (.ref a) (.ref b):=
 .inr (a,b,xs,xs,8,8,.inr (ha,hb,),8,hl,λi u v e1 e2=>by rw[e1]at e2;cases e2;exact Eqv.sc (hs u (a1U e1)) n,)
theorem Eqv.IC{H:Hp}{a b:Addr}{xs:List V}(ha:H a=!(.tup xs))(hb:H b=!(.tup xs))(hl:xs.length<=1000)(hs:∀x∈xs,Sc x):Eqv 1 H (.ref a) (.ref b):=
 .inr (a,b,xs,xs,8,8,.inr (ha,hb,),8,hl,λi u v e1 e2=>by rw[e1]at e2;cases e2;exact(8,hs u (a1U e1),),)
theorem J8{H:Hp}{a:Addr}{xs:List V}(h:H a=!(.tup xs)):zk H (.ref a)=!"tuple":=by simp only[zk,h]
theorem J9{H:Hp}{a:Addr}{xs:List V}(h:H a=!(.lst xs)):zk H (.ref a)=!"list":=by simp only[zk,h]
theorem Tg{n:Nat}{Qi:Sp}(sV:∀m,n=m+1->Qi=iz m)(F:oA K "_law_same" "_law_same" s_same f fd)(T:Txt K mg)(wB:Def P w K mg base "_law_same" n g9 Qi):aZ P w K mg base mJ (n+1) f fd g9 (iz n):=by
 refine F.ok uB (λvs H Q E h=>?_) (λcdv A outer st H vs Q E hr h=>?_)
 .let(x,y,rfl,_,):=h;rfl
 let(x,y,rfl,h,k,):=h;have nd:=uB.nd;refine(_,(Ze (aF (ZI (Zq UZ 8 T.wF zD (pc (pv 1) (pc (ZJ (pc (wL (v:=.ty "list") 8 T.wU ZU 8) (pc (wL (v:=.ty "tuple") 8 T.HF Ph 8) Zb))) Zb)))) (Ze (aF (PW.pt (pw_or (AY (ZI (Zq UZ 8 T.wF zD (pc (pv 0) (pc (ZJ (pc (wL (v:=.ty "list") 8 T.wU ZU 8) (pc (wL (v:=.ty "tuple") 8 T.HF Ph 8) Zb))) Zb))))) (Lm (Zx uN (Zq CB 8 T.wF zD (pc (pv 0) (pc (wL (v:=.ty "list") 8 T.wU ZU 8) Zb))) (Zq CB 8 T.wF zD (pc (pv 1) (pc (wL (v:=.ty "list") 8 T.wU ZU 8) Zb))) (Zv _))))) (Zg (Zs fN)) Zu)
   (Zg (Zs (Jd (ZR bu (Zq (ZD (K:=K) 8) 8 T.wI avg (pc (pv 0) Zb)) (Zq (ZD (K:=K) 8) 8 T.wI avg (pc (pv 1) Zb)) (Zv _)) (Je (Zq (JF 8) 8 T.DF Jw (pc (ZL (Zw (iN:=(Zp s_same)) (oN:=Ew) (N:=["_law_one","_law_other"]) (own:=2) (js:=[]) 6 8 8) 8 (ZjD 8 T.J3 (pc (pv 0) (pc (pv 1) Zb))) (λ_ _ _ _ _ _=>(ZH (K:=K) (n:=2) 8 8 (Zo (bG 0 (show List.Nodup (["_law_one","_law_other"]:List Str) by decide +kernel)) (Zo (bG 1 (show List.Nodup (["_law_one","_law_other"]:List Str) by decide +kernel)) ZF)))) (λ_ _ _ _ _ _=>(Zl wB hr.m 8 (pc (pv 0) (pc (pv 1) Zb))))) Zb))))))) Zu)
   (Ze (aF (PW.pt (pw_or (Ln (Zkq (pv 1))) (Lm (ZI (Zq CB 8 T.wF zD (pc (pv 1) (pc (wL (v:=.ty "str") 8 T.Ce Fq 8) Zb))))))) (Zg (Zs (Jd (ZR bu (pv 0) (pv 1) (Zv _)) (Je (ZR bu (Zq CB 8 T.wF zD (pc (pv 0) (pc (wL (v:=.ty "str") 8 T.Ce Fq 8) Zb))) (Zq CB 8 T.wF zD (pc (pv 1) (pc (wL (v:=.ty "str") 8 T.Ce Fq 8) Zb))) (Zv _)))))) Zu)
   (Zg (Zs (Jd (Zq CB 8 T.wF zD (pc (pv 0) (pc (wL (v:=.ty "int") 8 T.ET LG 8) Zb))) (Jd (ZR bu (Zq CB 8 T.wF zD (pc (pv 0) (pc (wL (v:=.ty "bool") 8 T.J6 Vc 8) Zb))) (Zq CB 8 T.wF zD (pc (pv 1) (pc (wL (v:=.ty "bool") 8 T.J6 Vc 8) Zb))) (Zv _)) (Je (ZR bu (pv 0) (pv 1) (Zv _))))))))),?_,)
 have split:(x=y/\Sc x)\/∃(m:Nat)(a b:Addr)(xs ys:List V),n=m+1/\x=.ref a/\y=.ref b/\((H a=!(.lst xs)/\H b=!(.lst ys))\/(H a=!(.tup xs)/\H b=!(.tup ys)))/\xs.length=ys.length/\xs.length<=1000/\∀(i:Nat)(u v:V),xs[i]?=!u->ys[i]?=!v->Eqv m H u v:=by
  cases n with
  |zero=>exact .inl h
  |succ m=>
   rcases h with h|⟨a,b,xs,ys,h1,h2,h3,h5,h6,h7⟩
   .exact .inl h
   .exact .inr (m,a,b,xs,ys,8,h1,h2,h3,h5,h6,h7,)
 rcases split with⟨rfl,hs⟩|⟨m,a,b,xs,ys,rfl,rfl,rfl,⟨ha,hb⟩|⟨ha,hb⟩,hl,hlen,hi⟩
 .have key:∀p,H p=none->∀o,aA H (upd H p o):=λp hp o=>Zf hp o;cases x with
  |int j=>
   refine(_,8,(sL 2),λp hp=>(116,p,8,Za,8,9,9,_,8,cB 9 ?_,),);refine(121,cB 5 (263,9,_,8,cB 9 ?_,),);refine(263,9,_,8,dQ 9 (263,9,263,9,113,dQ 9 (143,?_,),),);rw[a7Y 8];exact k _ (key p hp _)
  |bl j=>
   refine(_,8,(sL 2),λp hp=>(116,p,8,Za,8,9,9,_,8,cB 9 ?_,),);refine(121,cB 5 (263,9,_,8,cB 9 ?_,),);refine(263,9,_,8,dQ 9 (263,9,263,9,113,dQ 9 (143,?_,),),);rw[a7Y 8];exact k _ (key p hp _)
  |aN=>
   refine(_,8,(sL 2),λp hp=>(116,p,8,Za,8,9,9,_,8,cB 9 ?_,),);refine(121,dQ 5 (dQ 8 (273,dQ 9 (263,9,263,9,8,?_,),)),);rw[a7Y 8];exact k _ (key p hp _)
  |str z=>
   refine(_,8,(sL 2),λp hp=>(116,p,8,Za,8,9,9,_,8,cB 9 ?_,),);refine(121,cB 5 (263,9,_,8,dQ 9 (273,dQ 5 (263,9,263,9,8,?_,),),),);rw[a7Y 8];exact k _ (key p hp _)
  |_=>exact hs.elim
 .have he:=sV m 8;subst he;refine(_,8,(sL 2),λp hp=>?_,);have s1:=Zf hp (.tup [.ty "list",.ty "tuple"]);refine(116,p,8,Za,J9 (s1 _ _ hb),9,9,_,8,dQ 9 ?_,);refine(_,8,(sL 2),λp2 hp2=>?_,);have s2:=s1.trans (Zf hp2 (.tup [.ty "list",.ty "tuple"]));refine(116,p2,8,Za,J9 (s2 _ _ ha),9,9,_,8,cB 9 ?_,);refine(181,J9 (s2 _ _ ha),9,181,J9 (s2 _ _ hb),9,113,cB 9 ?_,);refine(_,8,a,_,8,.inl (au.of (s2 _ _ ha)),_,8,b,_,8,.inl (au.of (s2 _ _ hb)),113,?_,);generalize upd (upd H p (.tup [.ty "list",.ty "tuple"])) p2 (.tup [.ty "list",.ty "tuple"])=H2 at *;refine dQ (by rw[hl];simp) ?_;refine(121,a,b,8,.inl (_,_,au.of (s2 _ _ ha),au.of (s2 _ _ hb),λl hl'=>?_,),);have AF:H l=none:=s2.free hl';refine Zie (K:=K) (a:=a) (b:=b) (xs:=xs) (zs:=ys) (l:=l) hl (λi zs σ H'=>∃v0 v1:Option V,σ=[v0,v1]/\zs=(List.replicate i true).map V.bl/\H' l=!(.lst zs)/\aA H H')
   (none,none,8,5,Za,s2.trans (Zf hl' _),) (λi zs σ H' _ (132,q,)=>(au.of (q _ _ ha),au.of (q _ _ hb),)) ?_ ?_
  .rintro i x z t zs σ H' NF hxi Nm Ii ⟨v0,v1,rfl,rfl,h1,s3⟩ ht;have s4:=s3.trans (Zf ht (.tup [x,z]));have EN:l≠t:=Zd h1 ht;refine(t,_,8,aX.of Za,503,?_,);refine(121,x,z,8,(hi i x z hxi Nm).same s4,λH5 s5=>?_,);refine jd.of (a92 (Zt hlen)) NF Ii (s5 _ _ (by rw[Zc EN];exact h1)) (109,by rw[aXp,avl];rfl,Za,?_,);intro c o e;rw[Zc (Zd e AF)];exact s5 _ _ (s4 _ _ e)
  .rintro zs σ H' Ii ⟨v0,v1,rfl,rfl,h1,s3⟩;refine(l,_,8,au.of h1,?_,);rw[show(List.replicate xs.length true).all id=true by rw[am5];intro z hz;rw[(auJ.mp hz).2];rfl];exact k H' s3
 .have he:=sV m 8;subst he;refine(_,8,(sL 2),λp hp=>?_,);have s1:=Zf hp (.tup [.ty "list",.ty "tuple"]);refine(116,p,8,Za,J8 (s1 _ _ hb),9,9,_,8,dQ 9 ?_,);refine(_,8,(sL 2),λp2 hp2=>?_,);have s2:=s1.trans (Zf hp2 (.tup [.ty "list",.ty "tuple"]));refine(116,p2,8,Za,J8 (s2 _ _ ha),9,9,_,8,cB 9 ?_,);refine(181,J8 (s2 _ _ ha),9,181,J8 (s2 _ _ hb),9,113,cB 9 ?_,);refine(_,8,a,_,8,.inr (aX.of (s2 _ _ ha)),_,8,b,_,8,.inr (aX.of (s2 _ _ hb)),113,?_,);generalize upd (upd H p (.tup [.ty "list",.ty "tuple"])) p2 (.tup [.ty "list",.ty "tuple"])=H2 at *;refine dQ (by rw[hl];simp) ?_;refine(121,a,b,8,.inr (_,_,aX.of (s2 _ _ ha),aX.of (s2 _ _ hb),λl hl'=>?_,),);have AF:H l=none:=s2.free hl';refine ZgK (K:=K) (a:=a) (b:=b) (xs:=xs) (zs:=ys) (l:=l) hl (λi zs σ H'=>∃v0 v1:Option V,σ=[v0,v1]/\zs=(List.replicate i true).map V.bl/\H' l=!(.lst zs)/\aA H H')
   (none,none,8,5,Za,s2.trans (Zf hl' _),) (λi zs σ H' _ (132,q,)=>(aX.of (q _ _ ha),aX.of (q _ _ hb),)) ?_ ?_
  .rintro i x z t zs σ H' NF hxi Nm Ii ⟨v0,v1,rfl,rfl,h1,s3⟩ ht;have s4:=s3.trans (Zf ht (.tup [x,z]));have EN:l≠t:=Zd h1 ht;refine(t,_,8,aX.of Za,503,?_,);refine(121,x,z,8,(hi i x z hxi Nm).same s4,λH5 s5=>?_,);refine jd.of (a92 (Zt hlen)) NF Ii (s5 _ _ (by rw[Zc EN];exact h1)) (109,by rw[aXp,avl];rfl,Za,?_,);intro c o e;rw[Zc (Zd e AF)];exact s5 _ _ (s4 _ _ e)
  .rintro zs σ H' Ii ⟨v0,v1,rfl,rfl,h1,s3⟩;refine(l,_,8,au.of h1,?_,);rw[show(List.replicate xs.length true).all id=true by rw[am5];intro z hz;rw[(auJ.mp hz).2];rfl];exact k H' s3
def Mp:Sp:=λ_ _ _ _=>False
theorem Uh(F:oA K "_law_same" "_law_same" s_same f fd)(bi:Binds K fd g9 [])(m:mg "_law_same"=!(.ref f))(T:Txt K mg):∀n,Def P w K mg base "_law_same" (n+1) g9 (iz n)
 |0=>by
  have D0:Def P w K mg base "_law_same" 0 g9 Mp:=(f,fd,(λ_ _ _ _ h=>h.elim,λ_ _ _ _ _ _ _ _ _ _ _ _ _ h=>h.elim,),m,F.kp,bi,);exact(f,fd,Tg (n:=0) (λ_ h=>7) F T D0,m,F.kp,bi,)
 |n+1=>(f,fd,Tg (n:=n+1) (λj h=>by cases(show j=n by lia);rfl) F T (Uh F bi m T n),m,F.kp,bi,)
def vF:Option Int->V
 |none=>.aN
 |some g=>.int g
theorem gN{i:Nat}{v:V}{σ:St}{H:Hp}{Q:St->Hp->Prop}(h:Q (σ.set i (!v)) H):fT i v σ H Q:=h
theorem OL{b:Bool}{A B:Prop}(h1:b=true->A)(h2:¬b=true->B):if b=true then A else B:=by
 by_cases h:b=true
 .rw [aS1 h];exact h1 h
 .rw [aWd h];exact h2 h
theorem E9{ns:List Int}{i:Nat}{x:V}(h:(ns.map V.int)[i]?=!x):∃z,ns[i]?=!z/\x=V.int z:=by
 rw[a7o]at h;cases e:ns[i]? with
 |none=>rw[e]at h;cases h
 |some z=>rw[e]at h;exact(z,8,(aZC h).symm,)
theorem Tf(z:Int)(ns:List Int):K0 (.int z) (ns.map V.int)=decide (z∈ns):=by
 unfold K0;rw[any_map,aNg,any_eq_true,ada];constructor
 .rintro ⟨x,hx,e⟩;have:x=z:=by simpa[zy]using e
  rw[<-this];exact hx
 .intro h;exact(z,h,by simp[zy],)
def tpos:Pos:=(match(ZG aT).head? with
 |some (.If _ (.Return (!(.Call _ _ ((_,.Lambda _ _ _ pos,_,) ::_) _)) _ ::_) _ _)=>pos
 |_=>(0,0,0,0,))
abbrev wW:Str:="Room.going" ++ ".<locals>." ++ "<lambda>"
def Tb(K:W.Frag)(H:Hp):Prop:=H (tabOf K "Room" "going")=!(.nQ tpos wW)
theorem Tb.same{K:W.Frag}{H H':Hp}(t:Tb K H)(s:aA H H'):Tb K H':=s _ _ t
def Zr(sh s:Int)(there:List Int):List Int:=there.filter λo=>decide (o%sh=s)
theorem JG(sh s b:Int)(there:List Int):Zr sh s (there++[b])=if b%sh=s then Zr sh s there++[b] else Zr sh s there:=by
 unfold Zr;rw[List.filter_append];by_cases h:b%sh=s
 .rw [aS1 h,a3M,aS1 (by simpa using h),List.filter_nil]
 .rw [aWd h,a3M,aWd (by simpa using h),List.filter_nil,bdd]
theorem JB(sh s g:Int)(there:List Int):Zr sh s (there.erase g)=(Zr sh s there).erase g:=by
 unfold Zr;rw[List.erase_filter]
theorem bB{sh s b:Int}{there:List Int}:b∈Zr sh s there↔b∈there/\b%sh=s:=by
 unfold Zr;rw[mem_filter,ada]
structure vg(H:Hp)(ls:Addr)(aq:List Addr)(sh:Int)(there:List Int):Prop where
 top:H ls=!(.lst (aq.map V.ref))
 len:aq.length=sh.toNat
 nd:aq.Nodup
 off:ls∉aq
 at_:∀(s:Nat)(ad:Addr),aq[s]?=!ad->H ad=!(.lst ((Zr sh s there).map V.int))
theorem vg.other{H:Hp}{ls:Addr}{aq:List Addr}{sh:Int}{there:List Int}(h:vg H ls aq sh there){a:Addr}(o:HO)(h1:a≠ls)(h2:a∉aq):vg (upd H a o) ls aq sh there:=
 (by rw[Zc (aBl h1)];exact h.top,h.len,h.nd,h.off,λi ad e=>by rw[Zc (λz:ad=a=>h2 (z ▸a1U e))];exact h.at_ i ad e,)
theorem vg.put{H:Hp}{ls:Addr}{aq:List Addr}{sh:Int}{there rZ:List Int}(h:vg H ls aq sh there){s0:Nat}{ad:Addr}{ns:List Int}(e0:aq[s0]?=!ad)(hn:Zr sh s0 rZ=ns)(ho:∀s:Nat,s≠s0->Zr sh s rZ=Zr sh s there):vg (upd H ad (.lst (ns.map V.int))) ls aq sh rZ:=by
 refine(by rw[Zc (λz:ls=ad=>h.off (z ▸a1U e0))];exact h.top,h.len,h.nd,h.off,λs a e=>?_,);by_cases hs:s=s0
 .subst hs;rw[e0]at e;cases e;rw[Za,hn]
 .have ne:a≠ad:=λz=>by
   subst z;exact hs ((List.getElem?_inj (au3.mp e).1 h.nd).mp (e.trans e0.symm))
  rw[Zc ne,ho s hs];exact h.at_ s a e
theorem vg.get{H:Hp}{ls:Addr}{aq:List Addr}{sh:Int}{there:List Int}(h:vg H ls aq sh there){k:Int}(h0:0<=k)(h1:k<sh):∃(s:Nat)(ad:Addr),(s:Int)=k/\aq[s]?=!ad/\fU (aq.map V.ref) k=!(.ref ad)/\H ad=!(.lst ((Zr sh k there).map V.int)):=by
 have hk:k.toNat<aq.length:=by rw[h.len];lia
 have e:aq[k.toNat]?=!aq[k.toNat]:=ais hk;have ek:((k.toNat:Nat):Int)=k:=7
 have q:fU (aq.map V.ref) ((k.toNat:Nat):Int)=!(.ref aq[k.toNat]):=yV (by rw[a7o,e];rfl);have q2:=h.at_ _ _ e;rw[ek]at q q2;exact(k.toNat,_,ek,e,q,q2,)
theorem vg.one{H:Hp}{ls:Addr}{aq:List Addr}{sh:Int}{there:List Int}(h:vg H ls aq sh there){ad:Addr}(m:ad∈aq):∃xs,H ad=!(.lst xs):=by
 let(s,e,):=List.getElem?_of_mem m;exact(_,h.at_ s ad e,)
def gZ(sh pl:Int)(ru:Str)(ls du:Addr):List (Str×V):=ah "uses" (.ref du) (ah "standing" (.ref ls) (ah "rule" (.str ru) (ah "places" (.int pl) (ah "shelves" (.int sh) []))))
theorem E8(sh pl:Int)(ru:Str)(ls du:Addr):(gZ sh pl ru ls du).lookup ("uses":Str)=!(.ref du):=by
 unfold gZ;rw[Zh,aS1 8]
theorem Zev(sh pl:Int)(ru:Str)(ls du:Addr):(gZ sh pl ru ls du).lookup ("standing":Str)=!(.ref ls):=by
 unfold gZ;rw[Zh,aWd 6,Zh,aS1 8]
theorem Te(sh pl:Int)(ru:Str)(ls du:Addr):(gZ sh pl ru ls du).lookup ("rule":Str)=!(.str ru):=by
 unfold gZ;rw[Zh,aWd 6,Zh,aWd 6,Zh,aS1 8]
theorem Zhk(sh pl:Int)(ru:Str)(ls du:Addr):(gZ sh pl ru ls du).lookup ("places":Str)=!(.int pl):=by
 unfold gZ;rw[Zh,aWd 6,Zh,aWd 6,Zh,aWd 6,Zh,aS1 8]
theorem ZfS(sh pl:Int)(ru:Str)(ls du:Addr):(gZ sh pl ru ls du).lookup ("shelves":Str)=!(.int sh):=by
 unfold gZ;rw[Zh,aWd 6,Zh,aWd 6,Zh,aWd 6,Zh,aWd 6,Zh,aS1 8]
theorem bJ(sh pl:Int)(ru:Str)(ls du:Addr){m:Str}(h1:¬m ="uses":=by decide +kernel)(h2:¬m ="standing":=by decide +kernel)(h3:¬m ="rule":=by decide +kernel)(h4:¬m ="places":=by decide +kernel)(h5:¬m ="shelves":=by decide +kernel):(gZ sh pl ru ls du).lookup m=none:=by
 unfold gZ;rw[Zh,aWd h1,Zh,aWd h2,Zh,aWd h3,Zh,aWd h4,Zh,aWd h5];rfl
def KI(kvs:List (Key×V)):Prop:=∃ks:List Int,kvs.map Prod.fst=ks.map Sum.inl/\ks.Nodup
theorem KI.nil:KI []:=([],8,nodup_nil,)
theorem KI.put{kvs:List (Key×V)}(h:KI kvs)(b:Int)(v:V):KI (putK kvs (Sum.inl b) v):=by
 let(ks,e,nd,):=h;unfold putK;split
 .refine (ks,?_,nd,);rw[<-e,map_map];exact abx λq _=>by
   show(if q.1=Sum.inl b then(q.1,v) else q).1=q.1;split <;> rfl
 .rename_i c;refine(ks++[b],by rw[avl,avl,e];rfl,?_,);rw[nodup_append];refine(nd,5,λx hx y hy z=>c ?_,);rw[aU2.mp hy]at z;subst z;have m:(Sum.inl x:Key)∈kvs.map Prod.fst:=by rw[e];exact aov hx
  let(q,hq,eq,):=arp.mp m;exact List.any_eq_true.mpr (q,hq,by simpa using eq,)
theorem KI.drop{kvs:List (Key×V)}(h:KI kvs)(b:Int):KI (aW kvs (Sum.inl b)):=by
 let(ks,e,nd,):=h;unfold aW;refine(ks.filter λx=>decide (x≠b),?_,nd.sublist List.filter_sublist,);have l:(kvs.filter λkv=>decide (kv.1≠Sum.inl b)).map Prod.fst=(kvs.map Prod.fst).filter λk=>decide (k≠Sum.inl b):=by
  rw[List.filter_map];rfl
 rw[l,e,List.filter_map];congr 1
 refine List.filter_congr λx _=>?_;show decide ((Sum.inl x:Key)≠Sum.inl b)=decide (x≠b);rw[decide_eq_decide];exact(λz y=>z (by rw[y]),λz y=>z (aCk y),)
theorem A3{kvs:List (Key×V)}(k:Key):(aL kvs k).isSome=true↔k∈kvs.map Prod.fst:=by
 rw[<-Jv,any_eq_true,mem_map];exact(λ(q,h1,h2,)=>(q,h1,by simpa using h2,),λ(q,h1,h2,)=>(q,h1,by simpa using h2,),)
structure aB(K:W.Frag)(H:Hp)(p:Addr)(sh pl:Int)(ru:Str)(ls:Addr)(aq:List Addr)(du:Addr)(seq:List Int)(us:Int->Int)(n:Nat):Prop where
 ob:∃dx,H p=!(.ins (af K "Room") dx (gZ sh pl ru ls du))
 st:vg H ls aq sh seq
 dc:∃kvs,H du=!(.dK kvs)/\(kvs.length<=n/\KI kvs)/\∀b,aL kvs (Sum.inl b:Key)=if b∈seq then some (.int (us b)) else none
 nd:seq.Nodup
 s0:1<=sh
 s1:sh<=64
def SR(aq:List Addr)(du:Addr)(H H':Hp):Prop:=∀b o,H b=!o->b≠du->b∉aq->H' b=!o
theorem SR.of{aq:List Addr}{du:Addr}{H H':Hp}(s:aA H H'):SR aq du H H':=λb o h _ _=>s b o h
theorem SR.trans{aq:List Addr}{du:Addr}{H H1 H2:Hp}(a:SR aq du H H1)(b:SR aq du H1 H2):SR aq du H H2:=λc o h n1 n2=>b c o (a c o h n1 n2) n1 n2
section
variable{K:W.Frag}{H H':Hp}{p:Addr}{sh pl:Int}{ru:Str}{ls:Addr}{aq:List Addr}{du:Addr}{seq:List Int}{us:Int->Int}{n:Nat}
theorem aB.off(R:aB K H p sh pl ru ls aq du seq us n):p≠du/\p∉aq/\ls≠du/\ls∉aq/\du∉aq/\p≠ls:=by
 let(dx,h1,):=R.ob;let(kvs,h2,_,):=R.dc;refine(λz=>?_,λz=>?_,λz=>?_,R.st.off,λz=>?_,λz=>?_,)
 .rw [z,h2]at h1;cases h1
 .let(xs,e,):=R.st.one z;rw[e]at h1;cases h1
 .have e:=R.st.top;rw[z,h2]at e;cases e
 .let(xs,e,):=R.st.one z;rw[e]at h2;cases h2
 .have e:=R.st.top;rw[<-z,h1]at e;cases e
theorem aB.same(R:aB K H p sh pl ru ls aq du seq us n)(s:aA H H'):aB K H' p sh pl ru ls aq du seq us n:=by
 let(dx,h1,):=R.ob;let(kvs,h2,h3,):=R.dc;exact((dx,s _ _ h1,),(s _ _ R.st.top,R.st.len,R.st.nd,R.st.off,λi ad e=>s _ _ (R.st.at_ i ad e),),(kvs,s _ _ h2,h3,),R.nd,R.s0,R.s1,)
theorem SR.keep{o:HO}{b:Addr}(s:SR aq du H H')(R:aB K H p sh pl ru ls aq du seq us n)(h:H b=!o)(n1:∀kvs,o≠.dK kvs)(n2:∀xs,o≠.lst xs):H' b=!o:=by
 refine s _ _ h (λz=>?_) λz=>?_
 .let(kvs,e,_,):=R.dc;rw[z,e]at h;exact n1 kvs (aZC h).symm
 .let(xs,e,):=R.st.one z;rw[e]at h;exact n2 xs (aZC h).symm
theorem aB.Gr(R:aB K H p sh pl ru ls aq du seq us n)(b:Int):∃(s:Nat)(ad:Addr),(s:Int)=b%sh/\aq[s]?=!ad/\fU (aq.map V.ref) (b%sh)=!(.ref ad)/\H ad=!(.lst ((Zr sh (b%sh) seq).map V.int)):=by
 have h0:=R.s0;exact R.st.get (aXk _ 7) (an2 _ 7)
end
inductive uc(vs:List V)(H:Hp)(Q:VK)(E:XK):Prop
 |mk (sh b:Int):vs=[.int sh,.int b]->1<=sh->Q (.int (b%sh)) H->uc vs H Q E
example:(qJ HP):=by
 let(sh,b,rfl,h0,k,):=h;refine(_,(Zg (Zs (aj vS (pv 1) (pv 0)))),?_,);exact(439,(by show 0<sh;lia),k,)
inductive xw(K:W.Frag)(vs:List V)(H:Hp)(Q:VK)(E:XK):Prop
 |mk (p:Addr) (b sh pl:Int) (ru:Str) (ls:Addr) (aq:List Addr) (du:Addr) (seq:List Int) (us:Int->Int) (n:Nat):vs=[.ref p,.int b]->aB K H p sh pl ru ls aq du seq us n->Q (.bl (decide (b∈seq))) H->xw K vs H Q E
example:(qM sC):=by
 let(p,b,sh,pl,ru,ls,aq,du,seq,us,n,rfl,R,k,):=h;refine(_,(Zg (Zs (Og (SQ hu (pv 1) (Zk (K:=K) 8 (pv 0) 8))))),?_,);let(dx,h1,):=R.ob;let(kvs,h2,h3,h4,):=R.dc;refine(121,p,_,dx,109,h1,T.fh,T.CW,E8 ..,du,_,8,d8.k (k:=Sum.inl b) h2,?_,);rw[h4 b];by_cases c:b∈seq
 .rw [aS1 c];rw[a7Y c]at k;exact k
 .rw [aWd c];rw[alm c]at k;exact k
inductive uh(K:W.Frag)(vs:List V)(H:Hp)(Q:VK)(E:XK):Prop
 |mk (p:Addr) (b sh pl:Int) (ru:Str) (ls:Addr) (aq:List Addr) (du:Addr) (seq:List Int) (us:Int->Int) (n:Nat):vs=[.ref p,.int b]->aB K H p sh pl ru ls aq du seq us n->(∀(s:Nat)(ad:Addr),(s:Int)=b%sh->aq[s]?=!ad->H ad=!(.lst ((Zr sh (b%sh) seq).map V.int))->Q (.ref ad) H)->uh K vs H Q E
example:(mZ uJ HP):=by
 let(p,b,sh,pl,ru,ls,aq,du,seq,us,n,rfl,R,k,):=h;refine(_,(Zg (Zs (ak (Zm (K:=K) 8) (Zk (K:=K) 8 (pv 0) 8) (Zl HP hr.m 8 (pc (Zk (K:=K) 8 (pv 0) 8) (pc (pv 1) Zb))) (λ_ _=>8)))),?_,);let(dx,h1,):=R.ob;let(s,ad,e1,e2,e3,e4,):=R.Gr b;exact(_,8,p,_,dx,109,h1,T.fh,T.Q2,Zev ..,_,8,p,_,dx,109,h1,T.fh,T.QZ,ZfS ..,_,8,sh,b,8,R.s0,ls,135,au.of R.st.top,e3,k s ad e1 e2 e4,)
inductive kQ(K:W.Frag)(vs:List V)(H:Hp)(Q:VK)(E:XK):Prop
 |mk (p:Addr) (b sh pl:Int) (ru:Str) (ls:Addr) (aq:List Addr) (du:Addr) (seq:List Int) (us:Int->Int) (n:Nat):vs=[.ref p,.int b]->aB K H p sh pl ru ls aq du seq us n->b∈seq->Q .aN H->kQ K vs H Q E
example:(iT wD sC):=by
 let(p,b,sh,pl,ru,ls,aq,du,seq,us,n,rfl,R,hb,k,):=h;refine(_,(Zg (aF (AY (ZI (Zj sC hr.m T.fh (pv 0) (pc (pv 1) Zb)))) (Zg x9) Zu)),?_,);let(dx,h1,):=R.ob;refine(_,8,p,dx,_,8,h1,bJ ..,_,8,p,b,sh,pl,ru,ls,aq,du,seq,us,n,8,R,?_,);rw[a7Y hb];exact(_,8,cB 8 k,)
inductive kI(K:W.Frag)(vs:List V)(H:Hp)(Q:VK)(E:XK):Prop
 |mk (p m:Addr) (ms:List Int) (sh pl:Int) (ru:Str) (ls:Addr) (aq:List Addr) (du:Addr) (seq:List Int) (us:Int->Int) (n:Nat):vs=[.ref p,.ref m]->aB K H p sh pl ru ls aq du seq us n->Tb K H->H m=!(.lst (ms.map V.int))->ms.length<64->ms.Nodup->(∀b∈ms,b∈seq)->(∀(D:Addr)(H':Hp)(os:List Int),H D=none->aA H H'->H' D=!(.lst (os.map V.int))->os.Perm ms->(ru ="few" ->os.Pairwise (Bf us ms))->(ru ≠ "few" ->os=ms)->Q (.ref D) H')->kI K vs H Q E
theorem Zdh{f tp cg:Addr}{fd:FuncData}(F:oA K "going" "Room.going" aT f fd)(hfc:fd.code=.ref cg)(htp:tabOf K "Room" "going"=tp)(hch:W.codeHdIn K cg tp=true)(bm:BMod base mg)(T:Txt K mg):aZ P w K mg base mJ 2 f fd cF (kI K):=by
 refine F.Xb gz (λvs H Q E h=>?_) (λcdv A outer st H vs Q E Yy hr h=>?_)
 .let(p,m,ms,sh,pl,ru,ls,aq,du,seq,us,n,rfl,_,):=h;rfl
 let(p,m,ms,sh,pl,ru,ls,aq,du,seq,us,n,rfl,R,tb,hm,h64,hnd,hin,k,):=h;have nd:=gz.nd;have hu:=Cj hr;have hc0:cdv=.ref cg:=Yy.symm.trans hfc;refine(_,(Ze (aF (Zx bu (Zk (K:=K) 8 (pv 0) 8) ZN (Zv _)) (Zg (Zs (Zip (X:=(gm mJ P w K mg base jb "Room.going" (Zp aT) f cdv A outer st H E).uP) (K:=K) (P:=tp) (c0:=cg) 8 hr 8 8 T.DH (Zio (iN:=(Zp aT)) (oN:=jb) (x:="board") (fr:=["self"]) (js:=[0]) 6 8 8) hc0 hch bm 8 8 8 (λ_ _ _ _ _=>8) (pv 1) (λ_ _ _ _ _=>(Jo (ZkN hr) (Zk (K:=K) 8 (pv 1) 8) (pv 0) (λ_ _=>8)))))) Zu)
   (Zg (Zs (ZK (LR (K:=K) 8) 8 T.wU ZU (pc (pv 1) Zb))))),?_,)
 let(dx,h1,):=R.ob;let(kvs,h2,h3,h4,):=R.dc;refine(_,8,p,_,dx,109,h1,T.fh,T.Nd,Te ..,113,?_,);refine yU (λc=>?_) (λc=>?_)
 .have c':ru ="few":=by injection c
  have tb':H tp=!(.nQ tpos wW):=by
   have t:=tb;unfold Tb at t;rw[htp]at t;exact t
  refine(_,8,m,ms,us,8,au.of hm,h64,hnd,tb',λz hz H2 sm=>?_,λD H' os hD sm hl po so=>k D H' os hD sm hl po (λ_=>so) λz=>absurd c' z,);have v:=h4 z;rw[aS1 (hin z hz)]at v;exact(_,8,p,_,dx,109,sm _ _ h1,T.fh,T.CW,E8 ..,_,8,du,_,8,(by have q:=d8.k (k:=Sum.inl z) (sm _ _ h2);rw[v]at q;exact q),8,8,)
 .have c':¬ru ="few":= λz=>c (by rw[z]);exact(_,8,m,_,8,.inl (au.of hm),λD hD=>k D _ ms hD (Zf hD _) Za (List.Perm.refl _) (λz=>absurd z c') λ_=>8,)
theorem Jr{kvs:List (Key×V)}{k:Key}(j:Key):aL (aW kvs k) j=if j=k then none else aL kvs j:=by
 induction kvs with
 |nil=>by_cases e:j=k <;> simp[aW,aL,e]
 |cons q r ih=>
  by_cases e:q.1=k
  .rw [ZgE e,ih];by_cases c:j=k
   .rw [aS1 c,aS1 c]
   .rw [aWd c,aWd c,ZM (λz=>c (z.symm.trans e))]
  .rw [ZgF e];by_cases c:q.1=j
   .rw [ZQ c,aWd (λz=>e (c.trans z)),ZQ c]
   .rw [ZM c,ih,ZM c]
theorem Zhl(kvs:List (Key×V))(k:Key):(aW kvs k).length<=kvs.length:=apy ..
inductive xE(K:W.Frag)(vs:List V)(H:Hp)(Q:VK)(E:XK):Prop
 |mk (p:Addr) (b sh pl:Int) (ru:Str) (ls:Addr) (aq:List Addr) (du:Addr) (seq:List Int) (us:Int->Int) (n:Nat):vs=[.ref p,.int b]->aB K H p sh pl ru ls aq du seq us n->b∈seq->(∀H',aB K H' p sh pl ru ls aq du (seq.erase b) us n->SR aq du H H'->Q .aN H')->xE K vs H Q E
example:(pq Bq wD uJ):=by
 let(p,b,sh,pl,ru,ls,aq,du,seq,us,n,rfl,R,hb,k,):=h;refine(_,(Ze (Zn (Zj wD hr.m T.fh (pv 0) (pc (pv 1) Zb)))
   (Ze (Zn (rC (K:=K) 8 (bZ aB2 PySem.F.slot_list_remove PySem.F.type_list_remove UY (Zj uJ hr.m T.fh (pv 0) (pc (pv 1) Zb)) (pc (pv 1) Zb))))
   (Zg (Zn (O8 (Zk (K:=K) 8 (pv 0) 8) (pv 1) (8,8,8,8,)))))),?_,)
 let(dx,h1,):=R.ob;let(kvs,h2,h3,h4,):=R.dc;let(o1,o2,o3,o4,o5,o6,):=R.off;refine(_,8,p,dx,_,8,h1,bJ ..,_,8,p,b,sh,pl,ru,ls,aq,du,seq,us,n,8,R,hb,?_,);refine(_,8,p,dx,_,8,h1,bJ ..,_,8,p,b,sh,pl,ru,ls,aq,du,seq,us,n,8,R,λs ad es hs had=>?_,);have yo:ad∈aq:=a1U hs;have hmem:b∈Zr sh (b%sh) seq:=bB.mpr (hb,8,);refine(.inl (8,_,au.of had,),_,8,ad,_,b,8,8,had,hmem,?_,);have S1:vg (upd H ad (.lst (((Zr sh (b%sh) seq).erase b).map V.int))) ls aq sh (seq.erase b):=by
  refine R.st.put hs ?_ λs' hs'=>?_
  .rw [JB,es]
  .rw [JB];exact a40 λm=>hs' (by have:=(bB.mp m).2;lia)
 have np:p≠ad:=λz=>o2 (z ▸yo);have KJ:du≠ad:=λz=>o5 (z ▸yo);have tF:upd H ad (.lst (((Zr sh (b%sh) seq).erase b).map V.int)) p=!(.ins (af K "Room") dx (gZ sh pl ru ls du)):=by rw[Zc np];exact h1
 have h2':upd H ad (.lst (((Zr sh (b%sh) seq).erase b).map V.int)) du=!(.dK kvs):=by rw[Zc KJ];exact h2
 refine(_,8,p,_,dx,109,tF,T.fh,T.CW,E8 ..,du,8,.inl (_,.inl h2',),_,8,kvs,Sum.inl b,_,h2',8,(by rw[h4 b,aS1 hb]),?_,);refine k _ ((dx,by rw[Zc o1];exact tF,),S1.other _ (aBl o3) o5,(_,Za,(atw (Zhl _ _) h3.1,h3.2.drop b,),λx=>?_,),R.nd.erase b,R.s0,R.s1,) λx o e n1 n2=>?_
 .rw [Jr,h4 x];by_cases c:x=b
  .subst c;rw[aS1 8,aWd (λm=>((ain R.nd).mp m).1 8)]
  .rw [aWd (λz=>c (aCk z))];by_cases m:x∈seq
   .rw [aS1 m,aS1 ((ain R.nd).mpr (c,m,))]
   .rw [aWd m,aWd (λz=>m (asz z))]
 .rw [Zc n1,Zc (λz:x=ad=>n2 (z ▸yo))];exact e
def bump(us:Int->Int)(b:Int):Int->Int:=λx=>if x=b then us b+1 else us x
inductive By(K:W.Frag)(vs:List V)(H:Hp)(Q:VK)(E:XK):Prop
 |mk (p:Addr) (b sh pl:Int) (ru:Str) (ls:Addr) (aq:List Addr) (du:Addr) (seq:List Int) (us:Int->Int) (n:Nat):vs=[.ref p,.int b]->aB K H p sh pl ru ls aq du seq us n->n<=900->b∈seq->seq.length<=900->(∀H',aB K H' p sh pl ru ls aq du (if ru ="old" then seq.erase b++[b] else seq) (bump us b) (n+1)->SR aq du H H'->Q .aN H')->By K vs H Q E
example:(qL HN wD uJ):=by
 let(p,b,sh,pl,ru,ls,aq,du,seq,us,n,rfl,R,hn,hb,hsl,k,):=h;refine(_,(Ze (Zn (Zj wD hr.m T.fh (pv 0) (pc (pv 1) Zb)))
   (Ze (ZjC hu (Zk (K:=K) 8 (pv 0) 8) (pv 1) Zi Zkw (λ_ _ _=>8))
   (Zg (aF (Zx bu (Zk (K:=K) 8 (pv 0) 8) ZN (Zv _)) (Ze (cO 2 nd (Zj uJ hr.m T.fh (pv 0) (pc (pv 1) Zb)))
   (Ze (Zn (rC (K:=K) 8 (bZ aB2 PySem.F.slot_list_remove PySem.F.type_list_remove UY (pv 2) (pc (pv 1) Zb))))
   (Zg (Zn (rC (K:=K) 8 (bZ aB2 arC ap9 Zz (pv 2) (pc (pv 1) Zb))))))) Zu)))),?_,)
 let(dx,h1,):=R.ob;let(kvs,h2,h3,h4,):=R.dc;let(o1,o2,o3,o4,o5,o6,):=R.off;refine(_,8,p,dx,_,8,h1,bJ ..,_,8,p,b,sh,pl,ru,ls,aq,du,seq,us,n,8,R,hb,?_,);refine(_,8,p,_,dx,109,h1,T.fh,T.CW,E8 ..,_,8,du,_,8,(by have q:=d8.k (k:=Sum.inl b) h2;rw[h4 b,aS1 hb]at q;exact q),138,mH.k (k:=Sum.inl b) h2 (Zt 7),?_,);have R1:aB K (upd H du (.dK (putK kvs (Sum.inl b) (.int (us b+1))))) p sh pl ru ls aq du seq (bump us b) (n+1):=by
  refine((dx,by rw[Zc o1];exact h1,),R.st.other _ (aBl o3) o5,(_,Za,(atw (Jz ..) (by have:=h3.1;lia),h3.2.put b _,),λx=>?_,),R.nd,R.s0,R.s1,);rw[Fl];unfold bump;by_cases c:x=b
  .subst c;rw[aS1 8,aS1 hb,aS1 8]
  .rw [aWd (λz=>c (aCk z)),h4 x,aWd c]
 have s1:SR aq du H (upd H du (.dK (putK kvs (Sum.inl b) (.int (us b+1))))):=λx o e n1 n2=>by rw[Zc n1];exact e
 generalize upd H du (.dK (putK kvs (Sum.inl b) (.int (us b+1))))=H1 at *;let(gI,g1,):=R1.ob;refine(_,8,p,_,gI,109,g1,T.fh,T.Nd,Te ..,113,?_,);refine yU (λc=>?_) (λc=>?_)
 .have c':ru ="old":=by injection c
  rw[aS1 c']at k;refine(_,8,p,gI,_,8,g1,bJ ..,_,8,p,b,sh,pl,ru,ls,aq,du,seq,109,R1,λs ad es hs had=>?_,);have yo:ad∈aq:=a1U hs;have hmem:b∈Zr sh (b%sh) seq:=bB.mpr (hb,8,);refine(_,8,.inl (8,_,au.of had,),_,8,ad,_,b,8,8,had,hmem,?_,);have ll:((Zr sh (b%sh) seq).erase b).length<=900:=atw List.length_erase_le (atw (apy ..) hsl);refine(_,8,.inl (8,_,au.of Za,),_,8,ad,119,Za,Zt (by rw[aHJ];lia),?_,);rw[LD];have e1:(((Zr sh (b%sh) seq).erase b).map V.int++[V.int b])=((Zr sh (b%sh) seq).erase b++[b]).map V.int:=by rw[avl];rfl
  have S2:vg (upd H1 ad (.lst (((Zr sh (b%sh) seq).erase b++[b]).map V.int))) ls aq sh (seq.erase b++[b]):=by
   refine R1.st.put hs ?_ λs' hs'=>?_
   .rw [JG,aS1 es.symm,JB,es]
   .rw [JG,aWd 7,JB];exact a40 λm=>hs' (by have:=(bB.mp m).2;lia)
  have np:p≠ad:=λz=>o2 (z ▸yo);have MS:du≠ad:=λz=>o5 (z ▸yo);let(M9,g2,g3,g4,):=R1.dc;have Rg:∀x,x∈seq.erase b++[b]↔x∈seq:=λx=>by
   rw[mem_append,aDL,ain R.nd];constructor
   .rintro (⟨_,m⟩|rfl)
    .exact m
    .exact hb
   .intro m;by_cases z:x=b
    .exact .inr z
    .exact .inl (z,m,)
  rw[e1];refine k _ ((gI,by rw[Zc np];exact g1,),S2,(M9,by rw[Zc MS];exact g2,g3,λx=>?_,),?_,R.s0,R.s1,) λx o e n1 n2=>?_
  .rw [g4 x];by_cases m:x∈seq
   .rw [aS1 m,aS1 ((Rg x).mpr m)]
   .rw [aWd m,aWd (λz=>m ((Rg x).mp z))]
  .refine Fd (R.nd.erase b) λm=>((ain R.nd).mp m).1 8
  .rw [Zc (λz:x=ad=>n2 (z ▸yo))];exact s1 _ _ e n1 n2
 .have c':¬ru ="old":= λz=>c (by rw[z]);rw[aWd c']at k;exact k _ R1 s1
def cU(seq:List Int):Option Int->List Int
 |none=>seq
 |some g=>seq.erase g
def eV(ru:Str)(us:Int->Int)(pl:Int)(ms:List Int)(gone:Option Int):Prop:=
 ((ms.length:Int)<pl->gone=none)/\(¬(ms.length:Int)<pl->∃(g:Int)(rest:List Int),gone=!g/\(g ::rest).Perm ms/\(ru ="few" ->(g ::rest).Pairwise (Bf us ms))/\(ru ≠ "few" ->g ::rest=ms))
theorem qT{seq:List Int}{g:Option Int}:(cU seq g).Sublist seq:=by
 cases g with
 |none=>exact List.Sublist.refl _
 |some g=>exact List.erase_sublist
inductive w6(K:W.Frag)(vs:List V)(H:Hp)(Q:VK)(E:XK):Prop
 |mk (p dx:Addr) (sh pl:Int) (ru:Str):vs=[.ref p,.int sh,.int pl,.str ru]->H p=!(.ins (af K "Room") dx [])->1<=sh->sh<=64->(∀(ls:Addr)(aq:List Addr)(du:Addr)(H':Hp),aB K H' p sh pl ru ls aq du [] (λ_=>0) 0->H ls=none->H du=none->(∀ad∈aq,H ad=none)->(∀b o,H b=!o->b≠p->H' b=!o)->Q .aN H')->w6 K vs H Q E
example:(o9 HE):=by
 let(p,dx,sh,pl,ru,rfl,hp,hs0,hs1,k,):=h;refine(_,(Ze (rD (pv 0) (pv 1) 8)
   (Ze (rD (pv 0) (pv 2) 8)
   (Ze (rD (pv 0) (pv 3) 8)
   (Ze (rD (pv 0) (ZL (Zw (iN:=(Zp fK)) (oN:=rQ) (N:=["number"]) (own:=1) (js:=[]) 6 8 8) 8 (ZO 8 T.sJ (pc (pv 1) Zb)) (λ_ _ _ _ _ _=>(bG 0 (show List.Nodup (["number"]:List Str) by decide +kernel))) (λ_ _ _ _ _ _=>(ZX Zb))) 8)
   (Zg (rD (pv 0) Ju 8)))))),?_,)
 refine(121,p,_,dx,_,8,hp,T.fh,T.QZ,(by show 0<1000;decide),?_,);refine(121,p,_,dx,_,8,Za,T.fh,T.QY,(by show 1<1000;decide),?_,);refine(121,p,_,dx,_,8,Za,T.fh,T.Nd,(by show 2<1000;decide),?_,);have e3:upd (upd (upd H p (.ins (af K "Room") dx (ah "shelves" (.int sh) []))) p (.ins (af K "Room") dx (ah "places" (.int pl) (ah "shelves" (.int sh) [])))) p (.ins (af K "Room") dx (ah "rule" (.str ru) (ah "places" (.int pl) (ah "shelves" (.int sh) [])))) p=!(.ins (af K "Room") dx (ah "rule" (.str ru) (ah "places" (.int pl) (ah "shelves" (.int sh) [])))):=Za;have o3:∀b o,H b=!o->b≠p->upd (upd (upd H p (.ins (af K "Room") dx (ah "shelves" (.int sh) []))) p (.ins (af K "Room") dx (ah "places" (.int pl) (ah "shelves" (.int sh) [])))) p (.ins (af K "Room") dx (ah "rule" (.str ru) (ah "places" (.int pl) (ah "shelves" (.int sh) [])))) b=!o:=λb o e n=>by rw[Zc n,Zc n,Zc n];exact e
 generalize upd (upd (upd H p (.ins (af K "Room") dx (ah "shelves" (.int sh) []))) p (.ins (af K "Room") dx (ah "places" (.int pl) (ah "shelves" (.int sh) [])))) p (.ins (af K "Room") dx (ah "rule" (.str ru) (ah "places" (.int pl) (ah "shelves" (.int sh) []))))=H3 at *;have f3:∀b,H3 b=none->H b=none:=λb e=>by
  cases q:H b with
  |none=>rfl
  |some o=>
   by_cases z:b=p
   .rw [z,e3]at e;cases e
   .rw [o3 b o q z]at e;cases e
 refine(_,8,sh,8,7,7,λls hls=>?_,);refine ZY (lo:=0) (n:=sh.toNat) (l:=ls) (λj ys σ G=>∃(v0:Option V)(aq:List Addr),σ=[v0]/\ys=aq.map V.ref/\aq.length=j/\aq.Nodup/\ls∉aq/\G ls=!(.lst ys)/\(∀ad∈aq,H3 ad=none/\G ad=!(.lst []))/\aA H3 G)
  (none,[],115,nodup_nil,5,Za,5,Zf hls _,) ?_ ?_
 .rintro j ys σ G hj hy ⟨v0,aq,rfl,rfl,hlen,hnd,hoff,g1,g2,s1⟩;refine((sL 0),λq hq=>?_,);have nq:ls≠q:=Zd g1 hq;have QA:q∉aq:=λm=>by rw[(g2 q m).2]at hq;cases hq
  refine jd.of (atw (7:sh.toNat<=64) 9) hj hy (by rw[Zc nq];exact g1) (_,aq++[q],8,by rw[avl];rfl,by rw[a14,hlen];rfl,Fd hnd QA,?_,Za,λad m=>?_,?_,)
  .intro m;rcases bdf.mp m with m|m
   .exact hoff m
   .exact nq (by simpa using m)
  .rcases bdf.mp m with m|m
   .rw [Zc (λz:ad=ls=>hoff (z ▸m)),Zc (λz:ad=q=>QA (z ▸m))];exact g2 ad m
   .have e:ad=q:=by simpa using m
    subst e;rw[Zc (aBl nq)];exact(s1.free hq,Za,)
  .intro e o y;rw[Zc (Zd y hls),Zc (Zd (s1 _ _ y) hq)];exact s1 _ _ y
 rintro ys σ G hy ⟨v0,aq,rfl,rfl,hlen,hnd,hoff,g1,g2,s1⟩;have gp:=s1 _ _ e3;refine(_,8,p,_,dx,_,8,gp,T.fh,T.Q2,(by show 3<1000;decide),?_,);intro du AH;have MQ:ls≠p:=λz=>by rw[z,e3]at hls;cases hls
 have QG:∀ad∈aq,ad≠p:=λad m z=>by have q:=(g2 ad m).1;rw[z,e3]at q;cases q
 have Hl:p≠du:=Zd (Za (H:=G) (a:=p) (o:=.ins (af K "Room") dx (ah "standing" (.ref ls) (ah "rule" (.str ru) (ah "places" (.int pl) (ah "shelves" (.int sh) [])))))) AH;have gl:ls≠du:=λz=>by rw[<-z,Zc MQ,g1]at AH;cases AH
 have ga:du∉aq:=λm=>by rw[Zc (aBl Hl),(g2 du m).2]at AH;cases AH
 refine(_,8,p,_,dx,_,8,(by rw[Zc Hl];exact Za),T.fh,T.CW,(by show 4<1000;decide),?_,);have Iq:H3 du=none:=by
  rw[Zc (aBl Hl)]at AH;exact s1.free AH
 refine k ls aq du _ ((dx,Za,),(?_,hlen,hnd,hoff,λi ad e=>?_,),([],?_,(amA _,KI.nil,),λb=>by simp[aL],),nodup_nil,hs0,hs1,) (f3 _ hls) (f3 _ Iq) (λad m=>f3 _ (g2 ad m).1) λb o e n=>?_
 .rw [Zc MQ,Zc gl,Zc MQ];exact g1
 .have m:=a1U e;rw[Zc (QG ad m),Zc (λz:ad=du=>ga (z ▸m)),Zc (QG ad m)];exact(g2 ad m).2
 .rw [Zc (aBl Hl)];exact Za
 .have q:=s1 _ _ (o3 b o e n);have nb:b≠du:=λz=>by
   rw[<-z,Zc n,q]at AH;cases AH
  rw[Zc n,Zc nb,Zc n];exact q
def zero(us:Int->Int)(b:Int):Int->Int:=λx=>if x=b then 0 else us x
inductive uw(K:W.Frag)(vs:List V)(H:Hp)(Q:VK)(E:XK):Prop
 |mk (p:Addr) (b sh pl:Int) (ru:Str) (ls:Addr) (aq:List Addr) (du:Addr) (seq:List Int) (us:Int->Int) (n:Nat):vs=[.ref p,.int b]->aB K H p sh pl ru ls aq du seq us n->Tb K H->n<=900->b∉seq->1<=pl->(Zr sh (b%sh) seq).length<64->(∀(gone:Option Int)(H':Hp),eV ru us pl (Zr sh (b%sh) seq) gone->aB K H' p sh pl ru ls aq du (cU seq gone++[b]) (zero us b) (n+1)->SR aq du H H'->Q (vF gone) H')->uw K vs H Q E
inductive ql(K:W.Frag)(vs:List V)(H:Hp)(Q:VK)(E:XK):Prop
 |mk (p:Addr) (b sh pl:Int) (ru:Str) (ls:Addr) (aq:List Addr) (du:Addr) (seq:List Int) (us:Int->Int) (n:Nat):vs=[.ref p,.int b]->aB K H p sh pl ru ls aq du seq us n->Tb K H->1<=pl->(Zr sh (b%sh) seq).length<64->(∀(gone:Option Int)(H':Hp),eV ru us pl (Zr sh (b%sh) seq) gone->aA H H'->Q (vF gone) H')->ql K vs H Q E
example:(gT BQ uJ F6):=by
 let(p,b,sh,pl,ru,ls,aq,du,seq,us,n,rfl,R,tb,hpl,h64,k,):=h;refine(_,(Ze (cO 2 nd (Zj uJ hr.m T.fh (pv 0) (pc (pv 1) Zb)))
   (Ze (aF (Zx qH (Zq (ZD (K:=K) 8) 8 T.wI avg (pc (pv 2) Zb)) (Zk (K:=K) 8 (pv 0) 8) (Zv _)) (Zg (Zs Oh)) Zu)
   (Zg (Zs (ak (Zm (K:=K) 8) (Zj F6 hr.m T.fh (pv 0) (pc (pv 2) Zb)) Zi (λ_ _=>8)))))),?_,)
 let(dx,h1,):=R.ob;refine(_,8,p,dx,_,8,h1,bJ ..,_,8,p,b,sh,pl,ru,ls,aq,du,seq,us,n,8,R,λs ad es hs had=>?_,);have hnd:(Zr sh (b%sh) seq).Nodup:=R.nd.sublist List.filter_sublist;refine(_,8,ad,_,8,.inl (au.of had),_,8,p,_,dx,109,h1,T.fh,T.QY,Zhk ..,177,?_,);rw[aHJ];refine yU (λc=>?_) (λc=>?_)
 .exact k none H (λ_=>8,λz=>absurd z 7,) (aA.refl _)
 .refine (_,8,p,dx,_,8,h1,bJ ..,_,8,p,ad,Zr sh (b%sh) seq,sh,pl,ru,ls,aq,du,seq,us,n,8,R,tb,had,h64,hnd,(λx m=>(bB.mp m).1),λD H' os hD sm hl po s1 s2=>?_,);have lo:=po.length_eq
  match os,hl,po,s1,s2,lo with
  | [],_,_,_,_,lo=>exact absurd lo (by simp;lia)
  |g ::rest,hl,po,s1,s2,lo=>
   refine(D,135,au.of hl,dZ,?_,);exact k (!g) H' (λz=>absurd c 7,λ_=>(g,rest,8,po,s1,s2,),) sm
example:(m6 F8 sC BQ uJ Bq):=by
 let(p,b,sh,pl,ru,ls,aq,du,seq,us,n,rfl,R,tb,hn,hb,hpl,h64,k,):=h;refine(_,(Ze (aF (ZI (Zj sC hr.m T.fh (pv 0) (pc (pv 1) Zb))) (Zg x9) Zu)
   (Ze (cO 2 nd (Zj BQ hr.m T.fh (pv 0) (pc (pv 1) Zb)))
   (Ze (aF (Ln (LC (pv 2))) (Zg (Zn (Zj Bq hr.m T.fh (pv 0) (pc (pv 2) Zb)))) Zu)
   (Ze (Zn (rC (K:=K) 8 (bZ aB2 arC ap9 Zz (Zj uJ hr.m T.fh (pv 0) (pc (pv 1) Zb)) (pc (pv 1) Zb))))
   (Ze (Jl hu (Zk (K:=K) 8 (pv 0) 8) (pv 1) Zi 8)
   (Zg (Zs (pv 2)))))))),?_,)
 let(dx,h1,):=R.ob;refine(_,8,p,dx,_,8,h1,bJ ..,_,8,p,b,sh,pl,ru,ls,aq,du,seq,us,n,8,R,?_,);rw[alm hb];refine(_,8,cB 8 ?_,);refine(_,8,p,dx,_,8,h1,bJ ..,_,8,p,b,sh,pl,ru,ls,aq,du,seq,us,n,8,R,tb,hpl,h64,λgone H1 gp sm=>?_,);refine gN ?_;dsimp only;have R0:=R.same sm;have hnd:(Zr sh (b%sh) seq).Nodup:=R.nd.sublist List.filter_sublist;refine D5 (λσ G=>σ=[!(.ref p),!(.int b),!(vF gone)]/\aB K G p sh pl ru ls aq du (cU seq gone) us n/\SR aq du H G) (λD' _ k'=>?_) ?_
 .match gone,gp with
  |none,gp=>exact(121,cB 8 (k' _ _ (8,R0,SR.of sm,)),)
  |!g,gp=>
   have hg:g∈Zr sh (b%sh) seq:=by
    by_cases c:((Zr sh (b%sh) seq).length:Int)<pl
    .exact absurd (gp.1 c) 5
    .let(g',rest,e,po,_,):=gp.2 c;injection e with e
     subst e;exact po.mem_iff.mp aKq
   let(D3,tF,):=R0.ob;exact(121,dQ 8 (_,8,p,D3,_,8,tF,bJ ..,_,8,p,g,sh,pl,ru,ls,aq,du,seq,us,n,8,R0,(bB.mp hg).1,λH2 R2 s3=>k' _ _ (8,R2,(SR.of sm).trans s3,),),)
 rintro _ G ⟨rfl,R1,s1⟩;let(gI,g1,):=R1.ob;let(kvs,g2,g3,g4,):=R1.dc;let(o1,o2,o3,o4,o5,o6,):=R1.off;refine(_,8,p,gI,_,8,g1,bJ ..,_,8,p,b,sh,pl,ru,ls,aq,du,cU seq gone,us,n,8,R1,λs ad es hs YG=>?_,);have yo:ad∈aq:=a1U hs;have Ir:=R1.st.at_ s ad hs;have ll:(Zr sh s (cU seq gone)).length<=64:=by
  have q:(Zr sh s (cU seq gone)).Sublist (Zr sh s seq):=List.Sublist.filter _ (qT (g:=gone));have q2:=q.length_le;rw[es]at q2 ⊢;lia
 refine(.inl (8,_,au.of Ir,),_,8,ad,119,Ir,Zt (by rw[aHJ];lia),?_,);have nb:b∉cU seq gone:=λm=>hb (qT.subset m);have e1:((Zr sh s (cU seq gone)).map V.int++[V.int b])=(Zr sh s (cU seq gone)++[b]).map V.int:=by rw[avl];rfl
 rw[e1];have S2:vg (upd G ad (.lst ((Zr sh s (cU seq gone)++[b]).map V.int))) ls aq sh (cU seq gone++[b]):=by
  refine R1.st.put hs ?_ λs' hs'=>?_
  .rw [JG,aS1 es.symm]
  .rw [JG,aWd 7]
 have np:p≠ad:=λz=>o2 (z ▸yo);have MS:du≠ad:=λz=>o5 (z ▸yo);have K5:upd G ad (.lst ((Zr sh s (cU seq gone)++[b]).map V.int)) p=!(.ins (af K "Room") gI (gZ sh pl ru ls du)):=by rw[Zc np];exact g1
 have YL:upd G ad (.lst ((Zr sh s (cU seq gone)++[b]).map V.int)) du=!(.dK kvs):=by rw[Zc MS];exact g2
 refine(_,8,p,_,gI,109,K5,T.fh,T.CW,E8 ..,_,8,du,_,8,mH.k (k:=Sum.inl b) YL (Zt 7),?_,);refine(_,8,k gone _ gp ((gI,by rw[Zc o1];exact K5,),S2.other _ (aBl o3) o5,(_,Za,(atw (Jz ..) (by have:=g3.1;lia),g3.2.put b _,),λx=>?_,),Fd R1.nd nb,R.s0,R.s1,) λx o e n1 n2=>?_,)
 .rw [Fl];unfold zero;by_cases c:x=b
  .subst c;rw[aS1 8,aS1 (a2D _ (aU2.mpr 8)),aS1 8]
  .rw [aWd (λz=>c (aCk z)),g4 x,aWd c];by_cases m:x∈cU seq gone
   .rw [aS1 m,aS1 (a8E _ m)]
   .rw [aWd m,aWd (λz=>(bdf.mp z).elim m λq=>c (aU2.mp q))]
 .rw [Zc n1,Zc (λz:x=ad=>n2 (z ▸yo))];exact s1 _ _ e n1 n2
theorem D9:∀{a b:List Int},a.Nodup->(∀x∈a,x∈b)->a.length<=b.length
 | [],_,_,_=>aei _
 |x ::a,b,nd,h=>by
  have KJ:=aPi.mp nd;have mx:=h x aKq;have q:=D9 (b:=b.erase x) KJ.2 λy hy=>(mem_erase_of_ne (λz:y=x=>KJ.1 (by rw[<-z];exact hy))).mpr (h y (avG _ hy));rw[List.length_erase_of_mem mx]at q;have:=List.length_pos_of_mem mx;show a.length+1<=b.length;lia
theorem Td{kvs:List (Key×V)}{seq:List Int}(h:KI kvs)(nd:seq.Nodup)(e:∀b,(aL kvs (Sum.inl b:Key)).isSome=true↔b∈seq):kvs.length=seq.length:=by
 let(ks,h4,h5,):=h;have per:ks.Perm seq:=by
  refine(auU h5 nd).mpr λb=>?_;rw[<-e b,A3,h4,mem_map];constructor
  .intro m;exact(b,m,8,)
  .rintro ⟨x,hx,q⟩;rw[<-aCk q];exact hx
 have l:=aFk List.length h4;rw[aHJ,aHJ]at l;rw[l,per.length_eq]
theorem aB.norm{K:W.Frag}{H:Hp}{p:Addr}{sh pl:Int}{ru:Str}{ls:Addr}{aq:List Addr}{du:Addr}{seq:List Int}{us:Int->Int}{n:Nat}(R:aB K H p sh pl ru ls aq du seq us n):aB K H p sh pl ru ls aq du seq us seq.length:=by
 let(kvs,h2,(h3,h5,),h4,):=R.dc;refine(R.ob,R.st,(kvs,h2,(aMf (Td h5 R.nd λb=>?_),h5,),h4,),R.nd,R.s0,R.s1,);rw[h4 b];by_cases c:b∈seq
 .simp [c]
 .simp [c]
structure SA where
 sp:Addr
 rp:Addr
 ls:Addr
 aq:List Addr
 du:Addr
 dh:Addr
 df:Addr
structure Cf where
 sh:Int
 pl:Int
 ru:Str
 late:Bool
def bF(rp:Addr)(late:Bool)(dh df:Addr):List (Str×V):=ah "fresh" (.ref df) (ah "held" (.ref dh) (ah "late" (.bl late) (ah "room" (.ref rp) [])))
theorem Jq(rp:Addr)(late:Bool)(dh df:Addr):(bF rp late dh df).lookup ("fresh":Str)=!(.ref df):=by
 unfold bF;rw[Zh,aS1 8]
theorem Lu(rp:Addr)(late:Bool)(dh df:Addr):(bF rp late dh df).lookup ("held":Str)=!(.ref dh):=by
 unfold bF;rw[Zh,aWd 6,Zh,aS1 8]
theorem Tc(rp:Addr)(late:Bool)(dh df:Addr):(bF rp late dh df).lookup ("late":Str)=!(.bl late):=by
 unfold bF;rw[Zh,aWd 6,Zh,aWd 6,Zh,aS1 8]
theorem CF(rp:Addr)(late:Bool)(dh df:Addr):(bF rp late dh df).lookup ("room":Str)=!(.ref rp):=by
 unfold bF;rw[Zh,aWd 6,Zh,aWd 6,Zh,aWd 6,Zh,aS1 8]
theorem bS(rp:Addr)(late:Bool)(dh df:Addr){m:Str}(h1:¬m ="fresh":=by decide +kernel)(h2:¬m ="held":=by decide +kernel)(h3:¬m ="late":=by decide +kernel)(h4:¬m ="room":=by decide +kernel):(bF rp late dh df).lookup m=none:=by
 unfold bF;rw[Zh,aWd h1,Zh,aWd h2,Zh,aWd h3,Zh,aWd h4];rfl
structure Rm where
 seq:List Int
 us:Int->Int
 wd:Int->List Int
 fr:Int->Bool
def Mt:HO->Prop
 | .lst _=>True
 | .dK _=>True
 | .ins _ _ _=>True
 |_=>False
structure bM(O:Addr->Prop)(H H':Hp)(O':Addr->Prop):Prop where
 kp:∀x o,H x=!o->(O x->¬Mt o)->H' x=!o
 fr:∀x,O' x->O x\/H x=none
theorem bM.trans{O O1 O2:Addr->Prop}{H H1 H2:Hp}(a:bM O H H1 O1)(b:bM O1 H1 H2 O2):bM O H H2 O2:=by
 refine(λx o e n=>b.kp x o (a.kp x o e n) λh=>(a.fr x h).elim n (λz=>by rw[e]at z;cases z),λx h=>(b.fr x h).elim (a.fr x) λz=>?_,);by_cases c:O x
 .exact .inl c
 .cases q:H x with
  |none=>exact .inr 8
  |some o=>rw[a.kp x o q λh=>absurd h c]at z;cases z
theorem bM.same{O:Addr->Prop}{H H':Hp}(s:aA H H'):bM O H H' O:=(λx o e _=>s x o e,λ_ h=>.inl h,)
theorem aB.frame{K:W.Frag}{H H':Hp}{p:Addr}{sh pl:Int}{ru:Str}{ls:Addr}{aq:List Addr}{du:Addr}{seq:List Int}{us:Int->Int}{n:Nat}(R:aB K H p sh pl ru ls aq du seq us n)(h:∀x o,x=p\/x=ls\/x∈aq\/x=du->H x=!o->H' x=!o):aB K H' p sh pl ru ls aq du seq us n:=by
 let(dx,h1,):=R.ob;let(kvs,h2,h3,):=R.dc;exact((dx,h _ _ (.inl 8) h1,),(h _ _ (.inr (.inl 8)) R.st.top,R.st.len,R.st.nd,R.st.off,λi ad e=>h _ _ (.inr (.inr (.inl (a1U e)))) (R.st.at_ i ad e),),(kvs,h _ _ (.inr (.inr (.inr 8))) h2,h3,),R.nd,R.s0,R.s1,)
structure bR(H:Hp)(dh ls:Addr)(aq:List Addr)(O:Addr->Prop)(seq:List Int)(wd:Int->List Int)(kvs:List (Key×V))(wl:Int->Addr):Prop where
 dc:H dh=!(.dK kvs)
 ki:KI kvs
 v:∀b,aL kvs (Sum.inl b:Key)=if b∈seq then some (.ref (wl b)) else none
 at_:∀b∈seq,H (wl b)=!(.lst ((wd b).map V.int))/\O (wl b)/\wl b∉aq/\wl b≠ls
 inj:∀b∈seq,∀c∈seq,wl b=wl c->b=c
structure gJ(K:W.Frag)(H:Hp)(a:SA)(c:Cf)(seq:List Int)(us:Int->Int)(O:Addr->Prop):Prop where
 ob:∃dx,H a.sp=!(.ins (af K "Store") dx (bF a.rp c.late a.dh a.df))
 room:aB K H a.rp c.sh c.pl c.ru a.ls a.aq a.du seq us seq.length
 d1:∃kvs,H a.dh=!(.dK kvs)
 d2:∃kvs,H a.df=!(.dK kvs)
 n1:a.du≠a.dh
 n2:a.df≠a.dh
 n3:a.df≠a.du
 own:∀x,x=a.sp\/x=a.rp\/x=a.ls\/x∈a.aq\/x=a.du\/x=a.dh\/x=a.df->O x
 ex:∀x,O x->H x≠none
structure ay(K:W.Frag)(H:Hp)(a:SA)(c:Cf)(s:Rm)(O:Addr->Prop):Prop where
 aO:gJ K H a c s.seq s.us O
 held:∃kvs wl,bR H a.dh a.ls a.aq O s.seq s.wd kvs wl
 fresh:∃kvs,H a.df=!(.dK kvs)/\KI kvs/\∀b,aL kvs (Sum.inl b:Key)=if s.fr b=true then some (.bl true) else none
 yJ:∀b,s.fr b=true->b∈s.seq
section
variable{K:W.Frag}{H H':Hp}{a:SA}{c:Cf}{s:Rm}{O O':Addr->Prop}{kvs:List (Key×V)}{wl:Int->Addr}{seq:List Int}{us:Int->Int}
theorem bR.frame{dh ls:Addr}{aq:List Addr}{wd:Int->List Int}(h:bR H dh ls aq O seq wd kvs wl)(hO:O dh)(f:∀x o,O x->H x=!o->H' x=!o):bR H' dh ls aq O seq wd kvs wl:=
 (f _ _ hO h.dc,h.ki,h.v,λb m=>(f _ _ (h.at_ b m).2.1 (h.at_ b m).1,(h.at_ b m).2,),h.inj,)
theorem Cp{x:Addr}(h:H x≠none)(f:∀o,H x=!o->H' x=!o):H' x≠none:=λz=>by
 cases q:H x with
 |none=>exact h q
 |some o=>rw[f o q]at z;cases z
theorem N9{x y:Addr}{o:HO}(h:H x≠none):upd H y o x≠none:=by
 by_cases z:x=y
 .rw [z,Za];simp
 .rw [Zc z];exact h
theorem gJ.frame(S:gJ K H a c seq us O)(f:∀x o,O x->H x=!o->H' x=!o):gJ K H' a c seq us O:=by
 let(dx,h1,):=S.ob;let(k1,h2,):=S.d1;let(k2,h3,):=S.d2;exact((dx,f _ _ (S.own _ 5) h1,),S.room.frame λx o m e=>f x o (S.own x (by rcases m with m|m|m|m <;> simp[m])) e,(k1,f _ _ (S.own _ 5) h2,),(k2,f _ _ (S.own _ 5) h3,),S.n1,S.n2,S.n3,S.own,λx h=>Cp (S.ex x h) λo=>f x o h,)
theorem ay.frame(S:ay K H a c s O)(f:∀x o,O x->H x=!o->H' x=!o):ay K H' a c s O:=by
 let(kvs,wl,h2,):=S.held;let(kf,h3,h4,):=S.fresh;exact(S.aO.frame f,(kvs,wl,h2.frame (S.aO.own _ 5) f,),(kf,f _ _ (S.aO.own _ 5) h3,h4,),S.yJ,)
theorem gJ.same(S:gJ K H a c seq us O)(h:aA H H'):gJ K H' a c seq us O:=S.frame λx o _ e=>h x o e
theorem gJ.kinds(S:gJ K H a c seq us O){x:Addr}{kvs:List (Key×V)}(h:H x=!(.dK kvs)):x≠a.sp/\x≠a.rp/\x≠a.ls/\x∉a.aq:=by
 let(dx,h1,):=S.ob;let(dr,h2,):=S.room.ob;refine(λz=>?_,λz=>?_,λz=>?_,λm=>?_,)
 .rw [<-z,h]at h1;cases h1
 .rw [<-z,h]at h2;cases h2
 .have q:=S.room.st.top;rw[<-z,h]at q;cases q
 .let(xs,e,):=S.room.st.one m;rw[h]at e;cases e
theorem gJ.put(S:gJ K H a c seq us O){x:Addr}(hx:x=a.dh\/x=a.df)(kvs:List (Key×V)):gJ K (upd H x (.dK kvs)) a c seq us O:=by
 obtain⟨kx,ex⟩:∃kx,H x=!(.dK kx):=hx.elim (λz=>z ▸S.d1) λz=>z ▸S.d2;let(q1,q2,q3,q4,):=S.kinds ex;have nu:x≠a.du:=hx.elim (λz=>z ▸aBl S.n1) λz=>z ▸S.n3;let(dx,h1,):=S.ob;have dd:∀{y},(∃k,H y=!(.dK k))->∃k,upd H x (.dK kvs) y=!(.dK k):=λ{y} h=>by
  by_cases z:y=x
  .rw [z,Za];exact(_,8,)
  .rw [Zc z];exact h
 exact((dx,by rw[Zc (aBl q1)];exact h1,),S.room.frame λy o m e=>by
  rw[Zc (λz:y=x=>by subst z;exact m.elim q2 λm=>m.elim q3 λm=>m.elim q4 nu)];exact e,dd S.d1,dd S.d2,S.n1,S.n2,S.n3,S.own,λy h=>N9 (S.ex y h),)
theorem gJ.mono(S:gJ K H a c seq us O)(h1:∀x,x=a.sp\/x=a.rp\/x=a.ls\/x∈a.aq\/x=a.du\/x=a.dh\/x=a.df->O' x)(h2:∀x,O' x->H x≠none):gJ K H a c seq us O':=(S.ob,S.room,S.d1,S.d2,S.n1,S.n2,S.n3,h1,h2,)
theorem gJ.iZ{seq':List Int}{us':Int->Int}{n:Nat}(S:gJ K H a c seq us O)(R:aB K H' a.rp c.sh c.pl c.ru a.ls a.aq a.du seq' us' n)(r:SR a.aq a.du H H'):gJ K H' a c seq' us' O:=by
 let(dx,h1,):=S.ob;let(k1,h2,):=S.d1;let(k2,h3,):=S.d2;refine((dx,r.keep S.room h1 (λ_ z=>by cases z) (λ_ z=>by cases z),),R.norm,(k1,r _ _ h2 (aBl S.n1) (S.kinds h2).2.2.2,),(k2,r _ _ h3 S.n3 (S.kinds h3).2.2.2,),S.n1,S.n2,S.n3,S.own,λx h=>?_,);by_cases z:x=a.du
 .let(kv,e,_,):=R.dc;rw[z,e];simp
 .by_cases m:x∈a.aq
  .let(xs,e,):=R.st.one m;rw[e];simp
  .exact Cp (S.ex x h) λo e=>r x o e z m
theorem gJ.cO(S:gJ K H a c seq us O)(r:SR a.aq a.du H H'):bM O H H' O:=by
 refine(λx o e n=>r x o e (λz=>?_) λm=>?_,λ_ h=>.inl h,)
 .let(kv,q,_,):=S.room.dc;rw[z,q]at e;cases e;exact n (S.own x (by simp[z])) trivial
 .let(xs,q,):=S.room.st.one m;rw[q]at e;cases e;exact n (S.own x (by simp[m])) trivial
theorem gJ.NB{wd:Int->List Int}{seq':List Int}(S:gJ K H a c seq us O)(h:bR H a.dh a.ls a.aq O seq' wd kvs wl)(r:SR a.aq a.du H H'):bR H' a.dh a.ls a.aq O seq' wd kvs wl:=by
 let(kr,g,_,):=S.room.dc;exact(r _ _ h.dc (aBl S.n1) (S.kinds h.dc).2.2.2,h.ki,h.v,λx m=>(r _ _ (h.at_ x m).1 (λz=>by have e:=(h.at_ x m).1;rw[z,g]at e;cases e) (h.at_ x m).2.2.1,(h.at_ x m).2,),h.inj,)
theorem bR.seqs{dh ls:Addr}{aq:List Addr}{seq':List Int}{wd:Int->List Int}(h:bR H dh ls aq O seq wd kvs wl)(hs:∀b,b∈seq'↔b∈seq):bR H dh ls aq O seq' wd kvs wl:=
 (h.dc,h.ki,λb=>by rw[h.v b];exact ite_congr (propext (hs b).symm) (λ_=>8) λ_=>8,λb m=>h.at_ b ((hs b).mp m),λb m c m'=>h.inj b ((hs b).mp m) c ((hs c).mp m'),)
theorem ay.iZ{seq':List Int}{us':Int->Int}{n:Nat}(S:ay K H a c s O)(R:aB K H' a.rp c.sh c.pl c.ru a.ls a.aq a.du seq' us' n)(r:SR a.aq a.du H H')(hs:∀b,b∈seq'↔b∈s.seq):ay K H' a c (seq',us',s.wd,s.fr,) O:=by
 let(kvs,wl,h2,):=S.held;let(kf,h3,h4,):=S.fresh;exact(S.aO.iZ R r,(kvs,wl,(S.aO.NB h2 r).seqs hs,),(kf,r _ _ h3 S.aO.n3 (S.aO.kinds h3).2.2.2,h4,),λb h=>(hs b).mpr (S.yJ b h),)
theorem gJ.ya(S:gJ K H a c seq us O){x:Addr}(hx:x=a.dh\/x=a.df)(kvs:List (Key×V)):bM O H (upd H x (.dK kvs)) O:=by
 refine(λy o e n=>?_,λ_ h=>.inl h,);rw[Zc (λz=>?_)]
 .exact e
 obtain⟨kx,ex⟩:∃kx,H x=!(.dK kx):=hx.elim (λz=>z ▸S.d1) λz=>z ▸S.d2;rw[z,ex]at e;cases e;exact n (S.own y (by rw[z];rcases hx with h|h <;> simp[h])) trivial
theorem bR.put{dh ls:Addr}{aq:List Addr}{seq':List Int}{wd:Int->List Int}(h:bR H dh ls aq O seq wd kvs wl){b:Int}{l:Addr}(ws:List Int)(hl:H l=none)(ex:∀x,O x->H x≠none)(na:∀x∈aq,H x≠none)(nl:H ls≠none)(hs:∀x,x∈seq'↔x=b\/x∈seq) :
  bR (upd (upd H l (.lst (ws.map V.int))) dh (.dK (putK kvs (Sum.inl b) (.ref l)))) dh ls aq (λx=>O x\/x=l) seq' (λx=>if x=b then ws else wd x) (putK kvs (Sum.inl b) (.ref l)) (λx=>if x=b then l else wl x):=by
 have nd:l≠dh:=λz=>by rw[z,h.dc]at hl;cases hl
 have nw:∀x∈seq,wl x≠l:=λx m z=>by have q:=(h.at_ x m).1;rw[z,hl]at q;cases q
 have md:∀x,x∈seq'->x≠b->x∈seq:=λx m n=>((hs x).mp m).resolve_left n;refine(Za,h.ki.put b _,λx=>?_,λx m=>?_,λx m y m' e=>?_,)
 .rw [Fl];by_cases z:x=b
  .rw [aS1 (by rw[z]),aS1 ((hs x).mpr (.inl z)),aS1 z]
  .rw [aWd (λq=>z (aCk q)),h.v x,aWd z];exact ite_congr (propext (λm=>(hs x).mpr (.inr m),λm=>md x m z,)) (λ_=>8) λ_=>8
 .by_cases z:x=b
  .rw [aS1 z,aS1 z,Zc nd,Za];exact(8,.inr 8,λm=>na l m hl,λq=>nl (q ▸hl),)
  .rw [aWd z,aWd z];let(e1,e2,e3,e4,):=h.at_ x (md x m z);exact(by rw[Zc (λq=>by rw[q,h.dc]at e1;cases e1),Zc (nw x (md x m z))];exact e1,.inl e2,e3,e4,)
 .by_cases z:x=b
  .by_cases z':y=b
   .rw [z,z']
   .rw [aS1 z,aWd z']at e;exact absurd e.symm (nw y (md y m' z'))
  .by_cases z':y=b
   .rw [aWd z,aS1 z']at e;exact absurd e (nw x (md x m z))
   .rw [aWd z,aWd z']at e;exact h.inj x (md x m z) y (md y m' z') e
theorem ay.ni(S:ay K H a c s O)(h:bR H a.dh a.ls a.aq O s.seq s.wd kvs wl):kvs.length=s.seq.length:=by
 refine Td h.ki S.aO.room.nd λb=>?_;rw[h.v b];by_cases m:b∈s.seq
 .simp [m]
 .simp [m]
theorem ay.YO{kf:List (Key×V)}(S:ay K H a c s O)(h:KI kf)(v:∀b,aL kf (Sum.inl b:Key)=if s.fr b=true then some (.bl true) else none):kf.length<=s.seq.length:=by
 let(ks,e,nd,):=h;have l:=aFk List.length e;rw[aHJ,aHJ]at l;rw[l];refine D9 nd λb m=>S.yJ b ?_;have q:=A3 (kvs:=kf) (Sum.inl b);rw[v b,e]at q;have:=q.mpr (aov m);by_cases z:s.fr b=true
 .exact z
 .rw [aWd z]at this;cases this
end
section
variable{K:W.Frag}{H H':Hp}{a:SA}{c:Cf}{s:Rm}{O O':Addr->Prop}{kvs:List (Key×V)}{wl:Int->Addr}{seq:List Int}{us:Int->Int}
theorem gJ.laid{wd:Int->List Int}{Gv seq':List Int}{b:Int}{l:Addr}(S:gJ K H a c seq us O)(h:bR H a.dh a.ls a.aq O Gv wd kvs wl)(ws:List Int)(hl:H l=none)(hs:∀x,x∈seq'↔x=b\/x∈Gv) :
  (gJ K (upd (upd H l (.lst (ws.map V.int))) a.dh (.dK (putK kvs (Sum.inl b) (.ref l)))) a c seq us (λx=>O x\/x=l)/\bR (upd (upd H l (.lst (ws.map V.int))) a.dh (.dK (putK kvs (Sum.inl b) (.ref l)))) a.dh a.ls a.aq (λx=>O x\/x=l) seq' (λx=>if x=b then ws else wd x) (putK kvs (Sum.inl b) (.ref l)) (λx=>if x=b then l else wl x)) /\
   bM O H (upd (upd H l (.lst (ws.map V.int))) a.dh (.dK (putK kvs (Sum.inl b) (.ref l)))) (λx=>O x\/x=l):=by
 have sm:=Zf hl (.lst (ws.map V.int));have S1:=S.same sm;refine((((S1.put (x:=a.dh) (.inl 8) _).mono (λx m=>.inl (S.own x m)) λx m=>N9 ?_),h.put ws hl S.ex (λx m=>S.ex x (S.own x (by simp[m]))) (S.ex _ (S.own _ 5)) hs,),?_,)
 .rcases m with m|m
  .exact S1.ex x m
  .rw [m,Za];simp
 .have p:=(bM.same sm).trans (S1.ya (x:=a.dh) (.inl 8) (putK kvs (Sum.inl b) (.ref l)));exact(p.kp,λx m=>m.elim .inl λz=>.inr (by rw[z];exact hl),)
theorem bR.pop{wd:Int->List Int}{b:Int}(h:bR H a.dh a.ls a.aq O seq wd kvs wl)(nn:seq.Nodup)(hb:b∈seq)(S:gJ K H a c (seq.erase b) us O):bR (upd H a.dh (.dK (aW kvs (Sum.inl b)))) a.dh a.ls a.aq (λx=>O x/\x≠wl b) (seq.erase b) wd (aW kvs (Sum.inl b)) wl:=by
 have mm:∀{x},x∈seq.erase b->x≠b/\x∈seq:=λ{x} m=>(ain nn).mp m;refine(Za,h.ki.drop b,λx=>?_,λx m=>?_,λx m y m'=>h.inj x (mm m).2 y (mm m').2,)
 .rw [Jr];by_cases z:x=b
  .rw [aS1 (by rw[z]),aWd (λm=>(mm m).1 z)]
  .rw [aWd (λq=>z (aCk q)),h.v x];exact ite_congr (propext (λm=>(ain nn).mpr (z,m,),λm=>(mm m).2,)) (λ_=>8) λ_=>8
 .let(e1,e2,e3,e4,):=h.at_ x (mm m).2;exact(by rw[Zc (λz=>by rw[z,h.dc]at e1;cases e1)];exact e1,(e2,λz=>(mm m).1 (h.inj x (mm m).2 b hb z),),e3,e4,)
end
def vh:Rm:=([],λ_=>0,λ_=>[],λ_=>false,)
inductive t9(K:W.Frag)(vs:List V)(H:Hp)(Q:VK)(E:XK):Prop
 |mk (p dx tp:Addr) (sh pl:Int) (ru wr:Str):vs=[.ref p,.ref tp]->H p=!(.ins (af K "Store") dx [])->aX K H tp [.int sh,.int pl,.str ru,.str wr]->1<=sh->sh<=64->(∀(a:SA)(H':Hp),a.sp=p->ay K H' a (sh,pl,ru,decide (wr ="late"),) vh (λx=>x=p\/(H x=none/\H' x≠none))->(∀b o,H b=!o->b≠p->H' b=!o)->Q .aN H')->t9 K vs H Q E
example:(mU HH HE):=by
 let(p,dx,tp,sh,pl,ru,wr,rfl,hp,htp,s0,s1,k,):=h;refine(_,(Ze (tK (pv 1) (ZH (K:=K) (n:=4) 8 8 (Zo (bG 2 nd) (Zo (bG 3 nd) (Zo (bG 4 nd) (Zo (bG 05 nd) ZF))))))
   (Ze (rD (pv 0) (LO HE hr.m 8 (pc (pv 2) (pc (pv 3) (pc (pv 4) Zb)))) 8)
   (Ze (rD (pv 0) (ZR bu (pv 05) ZN (Zv _)) 8)
   (Ze (rD (pv 0) Ju 8)
   (Zg (rD (pv 0) Ju 8)))))),?_,)
 refine(_,8,tp,_,8,htp,125,gN (109,gN (109,gN (109,gN (8,?_,),),),),);try dsimp only
 refine(185,λrp rx Ik Q8 nrx=>(rp,rx,sh,pl,ru,8,Za,s0,s1,λls aq du H1 R1 f1 f2 f3 k1=>(8,?_,),),);have Xq:p≠rp:=Zd hp Ik;have QX:∀x o,H x=!o->H1 x=!o:=λx o e=>k1 x o (by rw[Zc (Zd e Ik),Zc (Zd e Q8)];exact e) (Zd e Ik);have fr:∀x,upd (upd H rx (.own rp)) rp (.ins (af K "Room") rx []) x=none->H x=none:=λx e=>by
  cases q:H x with
  |none=>rfl
  |some o=>rw[Zc (Zd q Ik),Zc (Zd q Q8),q]at e;cases e
 have f1:=fr _ f1;have f2:=fr _ f2;have f3:∀ad∈aq,H ad=none:=λad m=>fr _ (f3 ad m);have h1:=QX _ _ hp;refine(_,8,p,_,dx,_,8,h1,T.dO,T.Aj,(by show 0<1000;decide),?_,);let(o1,o2,o3,o4,o5,o6,):=R1.off;have q1:p≠ls:=λz=>by rw[z,R1.st.top]at h1;cases h1
 have q2:p≠du:=λz=>by let(kv,g,_,):=R1.dc;rw[z,g]at h1;cases h1
 have q3:p∉aq:=λz=>by let(xs,g,):=R1.st.one z;rw[g]at h1;cases h1
 have put:∀{G:Hp}{o:HO},aB K G rp sh pl ru ls aq du [] (λ_=>0) 0->aB K (upd G p o) rp sh pl ru ls aq du [] (λ_=>0) 0:=λ{G o} R=>by
  let(D3,e1,):=R.ob;let(kv,e2,e3,):=R.dc;exact((D3,by rw[Zc (aBl Xq)];exact e1,),R.st.other o q1 q3,(kv,by rw[Zc (aBl q2)];exact e2,e3,),R.nd,R.s0,R.s1,)
 have R2:=put (o:=.ins (af K "Store") dx (ah "room" (.ref rp) [])) R1;have e2:upd H1 p (.ins (af K "Store") dx (ah "room" (.ref rp) [])) p=!(.ins (af K "Store") dx (ah "room" (.ref rp) [])):=Za;have k2:∀x o,H x=!o->x≠p->upd H1 p (.ins (af K "Store") dx (ah "room" (.ref rp) [])) x=!o:=λx o e n=>by rw[Zc n];exact QX x o e
 generalize upd H1 p (.ins (af K "Store") dx (ah "room" (.ref rp) []))=H2 at *;refine(145,p,_,dx,_,8,e2,T.dO,T.Ng,(by show 1<1000;decide),?_,);have el:decide (V.str wr=V.str "late")=decide (wr ="late"):=decide_eq_decide.mpr (λe=>by injection e,λe=>by rw[e],);rw[el];have R3:=put (o:=.ins (af K "Store") dx (ah "late" (.bl (decide (wr ="late"))) (ah "room" (.ref rp) []))) R2;have e3:upd H2 p (.ins (af K "Store") dx (ah "late" (.bl (decide (wr ="late"))) (ah "room" (.ref rp) []))) p=!(.ins (af K "Store") dx (ah "late" (.bl (decide (wr ="late"))) (ah "room" (.ref rp) []))):=Za;have k3:∀x o,H x=!o->x≠p->upd H2 p (.ins (af K "Store") dx (ah "late" (.bl (decide (wr ="late"))) (ah "room" (.ref rp) []))) x=!o:=λx o e n=>by rw[Zc n];exact k2 x o e n
 generalize upd H2 p (.ins (af K "Store") dx (ah "late" (.bl (decide (wr ="late"))) (ah "room" (.ref rp) [])))=H3 at *;refine λdh EY=>?_;have nh:p≠dh:=Zd e3 EY;refine(_,8,p,_,dx,_,8,(by rw[Zc nh];exact e3),T.dO,T.F3,(by show 2<1000;decide),?_,);have R4:=put (o:=.ins (af K "Store") dx (ah "held" (.ref dh) (ah "late" (.bl (decide (wr ="late"))) (ah "room" (.ref rp) [])))) (R3.same (Zf EY (.dK [])));have e4:upd (upd H3 dh (.dK [])) p (.ins (af K "Store") dx (ah "held" (.ref dh) (ah "late" (.bl (decide (wr ="late"))) (ah "room" (.ref rp) [])))) p=!(.ins (af K "Store") dx (ah "held" (.ref dh) (ah "late" (.bl (decide (wr ="late"))) (ah "room" (.ref rp) [])))):=Za;have d4:upd (upd H3 dh (.dK [])) p (.ins (af K "Store") dx (ah "held" (.ref dh) (ah "late" (.bl (decide (wr ="late"))) (ah "room" (.ref rp) [])))) dh=!(.dK []):=by rw[Zc (aBl nh)];exact Za
 have RH:H dh=none:=by
  cases q:H dh with
  |none=>rfl
  |some o=>rw[k3 dh o q (aBl nh)]at EY;cases EY
 have k4:∀x o,H x=!o->x≠p->upd (upd H3 dh (.dK [])) p (.ins (af K "Store") dx (ah "held" (.ref dh) (ah "late" (.bl (decide (wr ="late"))) (ah "room" (.ref rp) [])))) x=!o:=λx o e n=>by rw[Zc n,Zc (λz:x=dh=>by rw[z,RH]at e;cases e)];exact k3 x o e n
 generalize upd (upd H3 dh (.dK [])) p (.ins (af K "Store") dx (ah "held" (.ref dh) (ah "late" (.bl (decide (wr ="late"))) (ah "room" (.ref rp) []))))=H4 at *;refine λdf hdf=>?_;have nf:p≠df:=Zd e4 hdf;refine(_,8,p,_,dx,_,8,(by rw[Zc nf];exact e4),T.dO,T.EH,(by show 3<1000;decide),?_,);have RJ:H df=none:=by
  cases q:H df with
  |none=>rfl
  |some o=>rw[k4 df o q (aBl nf)]at hdf;cases hdf
 have QB:dh≠df:=λz=>by rw[<-z,d4]at hdf;cases hdf
 let(kv,g,_,):=R3.dc;let(kv4,g4,_,):=R4.dc;have R5:=put (o:=.ins (af K "Store") dx (bF rp (decide (wr ="late")) dh df)) (R4.same (Zf hdf (.dK [])));have e5:upd (upd H4 df (.dK [])) p (.ins (af K "Store") dx (bF rp (decide (wr ="late")) dh df)) p=!(.ins (af K "Store") dx (bF rp (decide (wr ="late")) dh df)):=Za;have d5:upd (upd H4 df (.dK [])) p (.ins (af K "Store") dx (bF rp (decide (wr ="late")) dh df)) dh=!(.dK []):=by rw[Zc (aBl nh),Zc QB];exact d4
 have f5:upd (upd H4 df (.dK [])) p (.ins (af K "Store") dx (bF rp (decide (wr ="late")) dh df)) df=!(.dK []):=by rw[Zc (aBl nf)];exact Za
 have k5:∀x o,H x=!o->x≠p->upd (upd H4 df (.dK [])) p (.ins (af K "Store") dx (bF rp (decide (wr ="late")) dh df)) x=!o:=λx o e n=>by rw[Zc n,Zc (λz:x=df=>by rw[z,RJ]at e;cases e)];exact k4 x o e n
 change Q .aN (upd (upd H4 df (.dK [])) p (.ins (af K "Store") dx (bF rp (decide (wr ="late")) dh df)));generalize upd (upd H4 df (.dK [])) p (.ins (af K "Store") dx (bF rp (decide (wr ="late")) dh df))=H5 at *;refine k (p,rp,ls,aq,du,dh,df,) _ 8 ⟨((dx,e5,),R5,(_,d5,),(_,f5,),λz=>?_,aBl QB,λz=>?_,λx hx=>?_,λx hx=>?_,),([],λ_=>p,d5,KI.nil,λ_=>8,(λb m=>absurd m (by simp[vh])),λb m=>absurd m (by simp[vh]),),([],f5,KI.nil,λ_=>8,),λb h=>by cases h⟩ k5
 .have z:du=dh:=z;rw[<-z,g]at EY;cases EY
 .have z:df=du:=z;rw[z,g4]at hdf;cases hdf
 .let(dr5,r5,):=R5.ob;let(ku5,u5,_,):=R5.dc;rcases hx with rfl|rfl|rfl|hx|rfl|rfl|rfl
  .exact .inl 8
  .exact .inr (Ik,by rw[r5];simp,)
  .exact .inr (f1,by rw[R5.st.top];simp,)
  .let(xs,q,):=R5.st.one hx;exact .inr (f3 x hx,by rw[q];simp,)
  .exact .inr (f2,by rw[u5];simp,)
  .exact .inr (RH,by rw[d5];simp,)
  .exact .inr (RJ,by rw[f5];simp,)
 .rcases hx with rfl|hx
  .rw [e5];simp
  .exact hx.2
inductive wZ(K:W.Frag)(vs:List V)(H:Hp)(Q:VK)(E:XK):Prop
 |mk (a:SA) (c:Cf) (s:Rm) (O:Addr->Prop) (b:Int):vs=[.ref a.sp,.int b]->ay K H a c s O->Q (.bl (decide (b∈s.seq))) H->wZ K vs H Q E
example:(o7 uI sC):=by
 let(a,c,s,O,b,rfl,S,k,):=h;refine(_,(Zg (Zs (Zj sC hr.m T.fh (Zk (K:=K) 8 (pv 0) 8) (pc (pv 1) Zb)))),?_,);let(dx,h1,):=S.aO.ob;let(dr,h2,):=S.aO.room.ob;exact(_,8,a.sp,_,dx,109,h1,T.dO,T.Aj,CF ..,a.rp,dr,_,8,h2,bJ ..,_,8,a.rp,b,c.sh,c.pl,c.ru,a.ls,a.aq,a.du,s.seq,s.us,_,8,S.aO.room,k,)
inductive BD(K:W.Frag)(vs:List V)(H:Hp)(Q:VK)(E:XK):Prop
 |mk (p dx rp dh df:Addr) (late:Bool) (kvs:List (Key×V)) (b:Int) (lw:Addr) (zs:List V):vs=[.ref p,.int b,.ref lw]->H p=!(.ins (af K "Store") dx (bF rp late dh df))->H dh=!(.dK kvs)->kvs.length<=900->H lw=!(.lst zs)->(∀l,H l=none->Q .aN (upd (upd H l (.lst zs)) dh (.dK (putK kvs (Sum.inl b) (.ref l)))))->BD K vs H Q E
example:(oZ Bp):=by
 let(p,dx,rp,dh,df,late,kvs,b,lw,zs,rfl,hp,hd,hl,hw,k,):=h;refine(_,(Zg (Jl hu (Zk (K:=K) 8 (pv 0) 8) (pv 1) (ZK (LR (K:=K) 8) 8 T.wU ZU (pc (pv 2) Zb)) 8)),?_,);refine(_,8,lw,_,8,.inl (au.of hw),λl hl'=>?_,);have s1:=Zf hl' (.lst zs);exact(_,8,p,_,dx,109,s1 _ _ hp,T.dO,T.F3,Lu ..,_,8,dh,_,8,mH.k (k:=Sum.inl b) (s1 _ _ hd) (Zt 7),k l hl',)
def Nk(s:Rm)(b:Int)(ws:List Int):Rm:=(s.seq++[b],zero s.us b,λx=>if x=b then ws else s.wd x,s.fr,)
def qG(s:Rm)(b:Int):Rm:=(s.seq.erase b,s.us,s.wd,λx=>if x=b then false else s.fr x,)
def pM(s:Rm)(b:Int)(ws:List Int):Rm:=(s.seq,s.us,λx=>if x=b then ws else s.wd x,s.fr,)
def K7(s:Rm)(b:Int):Rm:=(s.seq,s.us,s.wd,λx=>if x=b then true else s.fr x,)
inductive qi(K:W.Frag)(vs:List V)(H:Hp)(Q:VK)(E:XK):Prop
 |mk (a:SA) (c:Cf) (s:Rm) (O:Addr->Prop) (b:Int) (lw:Addr) (ws:List Int):vs=[.ref a.sp,.int b,.ref lw]->ay K H a c s O->Tb K H->H lw=!(.lst (ws.map V.int))->(¬O lw)->b∉s.seq->s.seq.length<=800->1<=c.pl->c.pl<=16->((Zr c.sh (b%c.sh) s.seq).length:Int)<c.pl->(∀H' O',ay K H' a c (Nk s b ws) O'->bM O H H' O'->Q .aN H')->qi K vs H Q E
example:(jo FU F8 Bp):=by
 let(a,c,s,O,b,lw,ws,rfl,S,tb,pZ,hO,hb,hsl,hpl,Yl,hsh,k,):=h;refine(_,(Ze (Zn (Zj F8 hr.m T.fh (Zk (K:=K) 8 (pv 0) 8) (pc (pv 1) Zb)))
   (Zg (Zn (Zj Bp hr.m T.dO (pv 0) (pc (pv 1) (pc (pv 2) Zb)))))),?_,)
 let(dx,h1,):=S.aO.ob;let(dr,h2,):=S.aO.room.ob;refine(_,8,a.sp,_,dx,109,h1,T.dO,T.Aj,CF ..,a.rp,dr,_,8,h2,bJ ..,_,8,a.rp,b,c.sh,c.pl,c.ru,a.ls,a.aq,a.du,s.seq,s.us,_,8,S.aO.room,tb,7,hb,hpl,7,λgone G gp R1 r1=>?_,);obtain rfl:gone=none:=gp.1 hsh;let(kvs,wl,h3,):=S.held;let(kf,h4,h5,):=S.fresh;have kl:=S.ni h3;have p1:=S.aO.cO r1;have h3:=S.aO.NB h3 r1;have h4:=r1 _ _ h4 S.aO.n3 (S.aO.kinds h4).2.2.2;have S1:=S.aO.iZ R1 r1;let(dx,h1,):=S1.ob;refine(_,8,a.sp,dx,_,8,h1,bS ..,121,a.sp,dx,a.rp,a.dh,a.df,c.late,kvs,b,lw,_,8,h1,h3.dc,7,p1.kp _ _ pZ (λh=>absurd h hO),λl hl=>?_,);let(S2,p2,):=S1.laid h3 ws hl (seq':=s.seq++[b]) (b:=b) (λx=>by rw[mem_append,aDL];exact Or.comm);exact k _ _ (S2.1,(_,_,S2.2,),(kf,by rw[Zc S.aO.n2];exact Zf hl _ _ _ h4,h5,),λx h=>a8E _ (S.yJ x h),) (p1.trans p2)
inductive nW(K:W.Frag)(vs:List V)(H:Hp)(Q:VK)(E:XK):Prop
 |mk (a:SA) (c:Cf) (s:Rm) (O:Addr->Prop) (b:Int):vs=[.ref a.sp,.int b]->ay K H a c s O->b∈s.seq->(∀(t l:Addr)(H':Hp)(O':Addr->Prop),H' t=!(.tup [.ref l,.bl (s.fr b)])->H' l=!(.lst ((s.wd b).map V.int))->¬O' l->ay K H' a c (qG s b) O'->bM O H H' O'->(O l\/H l=none)->Q (.ref t) H')->nW K vs H Q E
example:(iQ F0 Bq):=by
 let(a,c,s,O,b,rfl,S,hb,k,):=h;refine(_,(Ze (Zn (Zj Bq hr.m T.fh (Zk (K:=K) 8 (pv 0) 8) (pc (pv 1) Zb)))
   (Zg (Zs (ZJ (pc (O8 (Zk (K:=K) 8 (pv 0) 8) (pv 1) (8,8,8,8,)) (pc (Ux (Zk (K:=K) 8 (pv 0) 8) (pv 1) fN (8,8,8,8,)) Zb)))))),?_,)
 let(dx,h1,):=S.aO.ob;let(dr,h2,):=S.aO.room.ob;refine(_,8,a.sp,_,dx,109,h1,T.dO,T.Aj,CF ..,a.rp,dr,_,8,h2,bJ ..,_,8,a.rp,b,c.sh,c.pl,c.ru,a.ls,a.aq,a.du,s.seq,s.us,_,8,S.aO.room,hb,λG R1 r1=>?_,);let(kvs,wl,h3,):=S.held;let(kf,h4,h5,h6,):=S.fresh;have p1:=S.aO.cO r1;have h3:=S.aO.NB h3 r1;have h4:=r1 _ _ h4 S.aO.n3 (S.aO.kinds h4).2.2.2;have S1:=S.aO.iZ R1 r1;let(dx,h1,):=S1.ob;have vb:=h3.v b;rw[aS1 hb]at vb;let(w1,w2,w3,w4,):=h3.at_ b hb;refine(_,8,a.sp,_,dx,109,h1,T.dO,T.F3,Lu ..,a.dh,8,.inl (_,.inl h3.dc,),_,8,kvs,Sum.inl b,_,h3.dc,8,vb,?_,);have nn:s.seq.Nodup:=S.aO.room.nd;have H3:=h3.pop nn hb S1;have S2:=S1.put (x:=a.dh) (.inl 8) (aW kvs (Sum.inl b));have p2:=p1.trans (S1.ya (x:=a.dh) (.inl 8) (aW kvs (Sum.inl b)));have h4:upd G a.dh (.dK (aW kvs (Sum.inl b))) a.df=!(.dK kf):=by rw[Zc S.aO.n2];exact h4
 have w1:upd G a.dh (.dK (aW kvs (Sum.inl b))) (wl b)=!(.lst ((s.wd b).map V.int)):=by rw[Zc (λz=>by rw[z,h3.dc]at w1;cases w1)];exact w1
 generalize upd G a.dh (.dK (aW kvs (Sum.inl b)))=G2 at *;let(dx,h1,):=S2.ob;have fin:∀(G3:Hp)(HB:List (Key×V)),gJ K G3 a c (s.seq.erase b) s.us O->bM O H G3 O->bR G3 a.dh a.ls a.aq (λx=>O x/\x≠wl b) (s.seq.erase b) s.wd (aW kvs (Sum.inl b)) wl->G3 a.df=!(.dK HB)->KI HB->(∀x,aL HB (Sum.inl x:Key)=if(qG s b).fr x=true then some (.bl true) else none)->G3 (wl b)=!(.lst ((s.wd b).map V.int)) ->
   2<=sizeLine/\∀t,G3 t=none->Q (.ref t) (upd G3 t (.tup [.ref (wl b),.bl (s.fr b)])):=λG3 HB S3 p3 h3' e1 e2 e3 e4=>by
  refine(9,λt ht=>?_,);have sm:=Zf ht (.tup [.ref (wl b),.bl (s.fr b)]);have core:∀x,x=a.sp\/x=a.rp\/x=a.ls\/x∈a.aq\/x=a.du\/x=a.dh\/x=a.df->O x/\x≠wl b:=λx m=>⟨S3.own x m,λz=>by
   subst z;rcases m with m|m|m|m|m|m|m
   .let(d,q,):=S3.ob;rw[<-m,e4]at q;cases q
   .let(d,q,):=S3.room.ob;rw[<-m,e4]at q;cases q
   .exact w4 m
   .exact w3 m
   .let(d,q,_,):=S3.room.dc;rw[<-m,e4]at q;cases q
   .let(d,q,):=S3.d1;rw[<-m,e4]at q;cases q
   .rw [<-m,e4]at e1;cases e1⟩
  have S4:=(S3.mono core λx h=>S3.ex x h.1).same sm;refine k t (wl b) _ (λx=>O x/\x≠wl b) Za (sm _ _ e4) (λh=>h.2 8) (S4,(_,_,h3'.frame (core _ 5) λx o _ e=>sm x o e,),(HB,sm _ _ e1,e2,e3,),λx h=>?_,) (λx o e n=>sm _ _ (p3.kp x o e n),λx h=>.inl h.1,) (.inl w2);have h:(if x=b then false else s.fr x)=true:=h;by_cases z:x=b
  .rw [aS1 z]at h;cases h
  .rw [aWd z]at h;exact(ain nn).mpr (z,S.yJ x h,)
 refine(_,8,a.sp,_,dx,109,h1,T.dO,T.EH,Jq ..,a.df,8,.inl (_,.inl h4,),_,8,kf,Sum.inl b,h4,8,λv hv=>?_,λhv=>?_,)
 .have hf:s.fr b=true:=by
   by_cases z:s.fr b=true
   .exact z
   .rw [h6 b,aWd z]at hv;cases hv
  rw[h6 b,aS1 hf]at hv;cases hv;have S3:=S2.put (x:=a.df) (.inr 8) (aW kf (Sum.inl b));have fin:=fin _ (aW kf (Sum.inl b)) S3 (p2.trans (S2.ya (x:=a.df) (.inr 8) _)) (by rw[Zc (aBl S.aO.n2)];exact H3.dc,H3.ki,H3.v,λx m=>(by rw[Zc (λz=>by have q:=(H3.at_ x m).1;rw[z,h4]at q;cases q)];exact(H3.at_ x m).1,(H3.at_ x m).2,),H3.inj,) Za (h5.drop b) (λx=>?_) (by rw[Zc (λz=>by rw[z,h4]at w1;cases w1)];exact w1)
  .rw [hf]at fin;exact fin
  .rw [Jr];by_cases z:x=b
   .rw [aS1 (by rw[z])];unfold qG;simp[z]
   .rw [aWd (λq=>z (aCk q)),h6 x];unfold qG;simp[z]
 .have hf:s.fr b=false:=by
   cases z:s.fr b with
   |false=>rfl
   |true=>rw[h6 b,aS1 z]at hv;cases hv
  have fin:=fin _ kf S2 p2 H3 h4 h5 (λx=>?_) w1
  .rw [hf]at fin;exact fin
  .rw [h6 x];unfold qG;by_cases z:x=b
   .simp [z,hf]
   .simp [z]
inductive dF(K:W.Frag)(vs:List V)(H:Hp)(Q:VK)(E:XK):Prop
 |mk (a:SA) (c:Cf) (s:Rm) (O:Addr->Prop) (b:Int):vs=[.ref a.sp,.int b]->ay K H a c s O->b∈s.seq->(∀l,H l=none->Q (.ref l) (upd H l (.lst ((s.wd b).map V.int))))->dF K vs H Q E
example:(cT sI wD):=by
 let(a,c,s,O,b,rfl,S,hb,k,):=h;refine(_,(Ze (Zn (Zj wD hr.m T.fh (Zk (K:=K) 8 (pv 0) 8) (pc (pv 1) Zb)))
   (Zg (Zs (ZK (LR (K:=K) 8) 8 T.wU ZU (pc (Jo hu (Zk (K:=K) 8 (pv 0) 8) (pv 1) (λ_ _=>8)) Zb))))),?_,)
 let(dx,h1,):=S.aO.ob;let(dr,h2,):=S.aO.room.ob;let(kvs,wl,h3,):=S.held;have vb:=h3.v b;rw[aS1 hb]at vb;refine(_,8,a.sp,_,dx,109,h1,T.dO,T.Aj,CF ..,a.rp,dr,_,8,h2,bJ ..,_,8,a.rp,b,c.sh,c.pl,c.ru,a.ls,a.aq,a.du,s.seq,s.us,_,8,S.aO.room,hb,?_,);exact(_,8,a.sp,_,dx,109,h1,T.dO,T.F3,Lu ..,_,8,a.dh,_,8,(by have q:=d8.k (k:=Sum.inl b) h3.dc;rw[vb]at q;exact q),wl b,_,8,.inl (au.of (h3.at_ b hb).1),k,)
theorem ay.lay{H:Hp}{a:SA}{c:Cf}{s:Rm}{O:Addr->Prop}(S:ay K H a c s O){b:Int}(hb:b∈s.seq)(ws:List Int){Q:Hp->Prop}(k:∀H' O',ay K H' a c (pM s b ws) O'->bM O H H' O'->Q H') :
  ∃dx kvs,H a.sp=!(.ins (af K "Store") dx (bF a.rp c.late a.dh a.df))/\H a.dh=!(.dK kvs)/\kvs.length=s.seq.length/\∀l,H l=none->Q (upd (upd H l (.lst (ws.map V.int))) a.dh (.dK (putK kvs (Sum.inl b) (.ref l)))):=by
 let(dx,h1,):=S.aO.ob;let(kvs,wl,h3,):=S.held;let(kf,h4,h5,):=S.fresh;refine(dx,kvs,h1,h3.dc,S.ni h3,λl hl=>?_,);let(S2,p2,):=S.aO.laid h3 ws hl (seq':=s.seq) (b:=b) (λx=>(.inr,λm=>m.elim (λz=>z ▸hb) id,));exact k _ _ (S2.1,(_,_,S2.2,),(kf,by rw[Zc S.aO.n2];exact Zf hl _ _ _ h4,h5,),S.yJ,) p2
theorem gJ.lst{H:Hp}{a:SA}{c:Cf}{seq:List Int}{us:Int->Int}{O:Addr->Prop}(S:gJ K H a c seq us O){l:Addr}{xs:List V}(hl:H l=!(.lst xs))(n1:l≠a.ls)(n2:l∉a.aq)(u:List V):gJ K (upd H l (.lst u)) a c seq us O:=by
 let(dx,h1,):=S.ob;let(dr,h2,):=S.room.ob;let(kr,h3,_,):=S.room.dc;let(k1,h4,):=S.d1;let(k2,h5,):=S.d2;have ne:∀{y o},H y=!o->(∀xs,o≠.lst xs)->upd H l (.lst u) y=!o:=λ{y o} e n=>by rw[Zc (λz=>by rw[z,hl]at e;exact n xs (aZC e).symm)];exact e
 have R:aB K (upd H l (.lst u)) a.rp c.sh c.pl c.ru a.ls a.aq a.du seq us seq.length:=S.room.frame λy o m e=>by
  rw[Zc (λz:y=l=>by
   subst z;rcases m with m|m|m|m
   .rw [m,h2]at hl;cases hl
   .exact n1 m
   .exact n2 m
   .rw [m,h3]at hl;cases hl)]
  exact e
 exact((dx,ne h1 (λ_ z=>by cases z),),R,(k1,ne h4 (λ_ z=>by cases z),),(k2,ne h5 (λ_ z=>by cases z),),S.n1,S.n2,S.n3,S.own,λy h=>N9 (S.ex y h),)
inductive nU(K:W.Frag)(vs:List V)(H:Hp)(Q:VK)(E:XK):Prop
 |mk (a:SA) (c:Cf) (s:Rm) (O:Addr->Prop) (b i x:Int):vs=[.ref a.sp,.int b,.int i,.int x]->ay K H a c s O->b∈s.seq->0<=i->i<(s.wd b).length->(∀H',ay K H' a c (pM s b ((s.wd b).set i.toNat x)) O->bM O H H' O->Q .aN H')->nU K vs H Q E
example:(iO FZ):=by
 let(a,c,s,O,b,i,x,rfl,S,hb,i0,i1,k,):=h;refine(_,(Zg (tK (pv 3) (Ef (Jo hu (Zk (K:=K) 8 (pv 0) 8) (pv 1) (λ_ _=>8)) (pv 2) Eg))),?_,);let(dx,h1,):=S.aO.ob;let(kvs,wl,h3,):=S.held;let(kf,h4,h5,):=S.fresh;have vb:=h3.v b;rw[aS1 hb]at vb;let(w1,w2,w3,w4,):=h3.at_ b hb;refine(121,a.sp,_,dx,109,h1,T.dO,T.F3,Lu ..,_,8,a.dh,_,8,(by have q:=d8.k (k:=Sum.inl b) h3.dc;rw[vb]at q;exact q),_,8,wl b,_,i,i.toNat,8,8,w1,?_,?_,)
 .unfold uR;rw[aS1 i0,aS1 (by rw[aHJ];exact i1)]
 .rw [<-map_set];refine k _ (S.aO.lst w1 w4 w3 _,(kvs,wl,by rw[Zc (λz=>by rw[<-z,h3.dc]at w1;cases w1)];exact h3.dc,h3.ki,h3.v,λy m=>?_,h3.inj,),(kf,by rw[Zc (λz=>by rw[<-z,h4]at w1;cases w1)];exact h4,h5,),S.yJ,) (λy o e n=>?_,λ_ h=>.inl h,)
  .show _=!(HO.lst ((if y=b then(s.wd b).set i.toNat x else s.wd y).map V.int))/\_;by_cases z:y=b
   .rw [aS1 z,z,Za];exact(8,w2,w3,w4,)
   .let(e1,e2,):=h3.at_ y m;rw[aWd z,Zc (λq=>z (h3.inj y m b hb q))];exact(e1,e2,)
  .rw [Zc (λz=>?_)]
   .exact e
   .rw [z,w1]at e;cases e;exact n (z ▸w2) trivial
inductive nX(K:W.Frag)(vs:List V)(H:Hp)(Q:VK)(E:XK):Prop
 |mk (a:SA) (c:Cf) (s:Rm) (O:Addr->Prop) (b:Int):vs=[.ref a.sp,.int b]->ay K H a c s O->b∈s.seq->s.seq.length<=800->(∀H',ay K H' a c (K7 s b) O->bM O H H' O->Q .aN H')->nX K vs H Q E
example:(jq BY):=by
 let(a,c,s,O,b,rfl,S,hb,hl,k,):=h;refine(_,(Zg (Jl hu (Zk (K:=K) 8 (pv 0) 8) (pv 1) fN 8)),?_,);let(dx,h1,):=S.aO.ob;let(kvs,wl,h3,):=S.held;let(kf,h4,h5,h6,):=S.fresh;have fl:=S.YO h5 h6;refine(_,8,a.sp,_,dx,109,h1,T.dO,T.EH,Jq ..,_,8,a.df,_,8,mH.k (k:=Sum.inl b) h4 (Zt 7),?_,);have S2:=S.aO.put (x:=a.df) (.inr 8) (putK kf (Sum.inl b) (.bl true));refine k _ (S2,(kvs,wl,by rw[Zc (aBl S.aO.n2)];exact h3.dc,h3.ki,h3.v,λx m=>(by rw[Zc (λz=>by have q:=(h3.at_ x m).1;rw[z,h4]at q;cases q)];exact(h3.at_ x m).1,(h3.at_ x m).2,),h3.inj,),(_,Za,h5.put b _,λx=>?_,),λx h=>?_,) (S.aO.ya (x:=a.df) (.inr 8) _)
 .rw [Fl];show _=if(if x=b then true else s.fr x)=true then _ else _
  by_cases z:x=b
  .rw [aS1 (by rw[z]),aS1 z,aS1 8]
  .rw [aWd (λq=>z (aCk q)),h6 x,aWd z]
 .by_cases z:x=b
  .exact z ▸hb
  .exact S.yJ x ((aWd z:(if x=b then true else s.fr x)=s.fr x).symm.trans h)
inductive uz(vs:List V)(H:Hp)(Q:VK)(E:XK):Prop
 |mk (s p:Int):vs=[.int s,.int p]->0<s->s<1073741824->Q (.int (p/s)) H->uz vs H Q E
example:(qK uH):=by
 let(s,p,rfl,h0,h1,k,):=h;refine(_,(Zg (Zs (aj Fe (pv 1) (pv 0)))),?_,);exact(439,(h0,h1,),k,)
def iy(s b:Int):List V:=(List.range s.toNat).map λk=>V.int (b*s+(k:Nat))
inductive ua(vs:List V)(H:Hp)(Q:VK)(E:XK):Prop
 |mk (s b:Int):vs=[.int s,.int b]->0<s->s<=1000->0<=b->b<=1000000->(∀(r:Addr)(H':Hp),H r=none->aA H H'->H' r=!(.lst (iy s b))->Q (.ref r) H')->ua vs H Q E
theorem Zle{b s:Int}(h0:0<=b)(h1:b<=1000000)(s0:0<s)(s1:s<=1000):0<=b*s/\b*s<=1000000000:=by
 refine(Int.mul_nonneg h0 7,?_,);exact auf (Int.mul_le_mul_of_nonneg_right h1 7) (Int.mul_le_mul_of_nonneg_left s1 9)
example:(qI Bm):=by
 let(s,b,rfl,s0,s1,b0,b1,k,):=h;refine(_,(Ze (cO 2 nd (aj vU (pv 1) (pv 0)))
   (Zg (Zs (ZdJ 8 8 T.wU 8 T.sJ (pc (pv 2) (pc (aj ZP (pv 2) (pv 0)) Zb)))))),?_,)
 let(m0,m1,):=Zle b0 b1 s0 s1;have e:(b*s+s-b*s).toNat=s.toNat:=7
 refine(439,.inl (7,7,),?_,);refine(11005,(7,7,7,7,),?_,);rw[e];refine(a92 (Zt 7),λp hp=>?_,);exact k p _ hp (Zf hp _) Za
def lT(size:Int)(dk:Addr):List (Str×V):=ah "kept" (.ref dk) (ah "size" (.int size) [])
theorem Ls(size:Int)(dk:Addr):(lT size dk).lookup ("kept":Str)=!(.ref dk):=by
 unfold lT;rw[Zh,aS1 8]
theorem S9(size:Int)(dk:Addr):(lT size dk).lookup ("size":Str)=!(.int size):=by
 unfold lT;rw[Zh,aWd 6,Zh,aS1 8]
theorem ym(size:Int)(dk:Addr){m:Str}(h1:¬m ="kept":=by decide +kernel)(h2:¬m ="size":=by decide +kernel):(lT size dk).lookup m=none:=by
 unfold lT;rw[Zh,aWd h1,Zh,aWd h2];rfl
structure dS(K:W.Frag)(H:Hp)(bm dk:Addr)(size:Int)(mem:Int->Int)(U:List Int):Prop where
 ob:∃dx,H bm=!(.ins (af K "Memory") dx (lT size dk))
 kept:∃kvs,H dk=!(.dK kvs)/\KI kvs/\∀s,aL kvs (Sum.inl s:Key)=if mem s=0 then none else !(.int (mem s))
 sup:∀s,mem s≠0->s/size∈U
theorem dS.frame{H H':Hp}{bm dk:Addr}{size:Int}{mem:Int->Int}{U:List Int}(m:dS K H bm dk size mem U)(f:∀x o,x=bm\/x=dk->H x=!o->H' x=!o):dS K H' bm dk size mem U:=by
 let(dx,e,):=m.ob;let(kvs,e2,r,):=m.kept;exact((dx,f _ _ (.inl 8) e,),(kvs,f _ _ (.inr 8) e2,r,),m.sup,)
theorem S8{size:Int}{mem:Int->Int}{U:List Int}{kvs:List (Key×V)}(z0:0<size)(h:KI kvs)(v:∀s,aL kvs (Sum.inl s:Key)=if mem s=0 then none else !(.int (mem s)))(sup:∀s,mem s≠0->s/size∈U):kvs.length<=U.length*size.toNat:=by
 let(ks,e,nd,):=h;have l:=aFk List.length e;rw[aHJ,aHJ]at l;rw[l];have q:=D9 nd (b:=U.flatMap λb=>(List.range size.toNat).map λk=>b*size+(k:Nat)) λs m=>?_
 .refine atw q (aMf ?_);clear q sup
  induction U with
  |nil=>simp
  |cons x U ih=>rw[List.flatMap_cons,a14,ih,aHJ,aJu,aII,Nat.succ_mul,Nat.add_comm]
 .have q:=A3 (kvs:=kvs) (Sum.inl s);rw[v s,e]at q;have hs:=q.mpr (aov m);have nz:mem s≠0:=λz=>by rw[aS1 z]at hs;cases hs
  rw[List.mem_flatMap];have m0:0<=s%size:=aXk _ 7;have m1:s%size<size:=an2 _ 7;refine(s/size,sup s nz,arp.mpr ((s%size).toNat,aGX.mpr 7,?_,),);have:=ad3 s size;rw[Int.toNat_of_nonneg m0,Int.mul_comm];exact this
inductive BC(K:W.Frag)(vs:List V)(H:Hp)(Q:VK)(E:XK):Prop
 |mk (p dx:Addr) (size:Int):vs=[.ref p,.int size]->H p=!(.ins (af K "Memory") dx [])->(∀(dk:Addr)(H':Hp),(∀U,dS K H' p dk size (λ_=>0) U)->H dk=none->(∀b o,H b=!o->b≠p->H' b=!o)->Q .aN H')->BC K vs H Q E
example:(lJ HL):=by
 let(p,dx,size,rfl,hp,k,):=h;refine(_,(Ze (rD (pv 0) (pv 1) 8)
   (Zg (rD (pv 0) Ju 8))),?_,)
 refine(121,p,_,dx,_,8,hp,T.wG,T.Nh,(by show 0<1000;decide),λdk K4=>?_,);have np:p≠dk:=Zd (Za (H:=H) (a:=p) (o:=.ins (af K "Memory") dx (ah "size" (.int size) []))) K4;refine(_,8,p,_,dx,_,8,(by rw[Zc np];exact Za),T.wG,T.Ga,(by show 1<1000;decide),?_,);rw[Zc (aBl np)]at K4;refine k dk _ (λU=>((dx,Za,),([],by rw[Zc (aBl np)];exact Za,KI.nil,λ_=>8,),λs h=>absurd 8 h,)) K4 λx o e n=>?_;rw[Zc n,Zc (Zd e K4),Zc n];exact e
def aV(size:Int)(mem:Int->Int)(b:Int):List Int:=(List.range size.toNat).map λk=>mem (b*size+(k:Nat))
def gX(size:Int)(mem:Int->Int)(b:Int)(ws:List Int)(i:Nat):Int->Int:=λs=>if b*size<=s/\s<b*size+i then ws.getD (s-b*size).toNat 0 else mem s
def qU(size:Int)(mem:Int->Int)(b:Int)(ws:List Int):Int->Int:=gX size mem b ws size.toNat
theorem Ug{s b:Int}{i:Nat}{x:V}(h:(iy s b)[i]?=!x):x=.int (b*s+(i:Nat))/\i<s.toNat:=by
 unfold iy at h;rw[a7o]at h;by_cases c:i<s.toNat
 .rw [adw c]at h;exact((aZC h).symm,c,)
 .rw [aX6 (by rw[aJu];lia)]at h;cases h
inductive kR(K:W.Frag)(vs:List V)(H:Hp)(Q:VK)(E:XK):Prop
 |mk (bm dk:Addr) (size b:Int) (mem:Int->Int) (U:List Int):vs=[.ref bm,.int b]->dS K H bm dk size mem U->0<size->size<=1000->0<=b->b<=1000000->(∀l H',H l=none->aA H H'->H' l=!(.lst ((aV size mem b).map V.int))->Q (.ref l) H')->kR K vs H Q E
example:(gV Ah Bm):=by
 let(bm,dk,size,b,mem,U,rfl,M,z0,z1,b0,b1,k,):=h;refine(_,(Zg (Zs (ZL (Zw (iN:=(Zp bO)) (oN:=jc) (N:=["spot","self"]) (own:=1) (js:=[0]) 6 8 8) 8 (zC (K:=K) 8 (Zl Bm hr.m 8 (pc (Zk (K:=K) 8 (pv 0) 8) (pc (pv 1) Zb)))) (λ_ _ _ _ _ _=>(bG 0 (show List.Nodup (["spot","self"]:List Str) by decide +kernel))) (λ_ _ _ _ _ _=>(Zii hu (Zk (K:=K) 8 (pv 1) 8) (pv 0) Zi (8,8,8,8,)))))),?_,);let(dx,h1,):=M.ob;let(kvs,h2,h3,h4,):=M.kept;refine(_,8,bm,_,dx,109,h1,T.wG,T.Nh,S9 ..,_,8,size,b,8,z0,z1,b0,b1,λr H1 hr1 s1 e1=>(r,8,(_,au.of e1,),λl hl=>?_,),);have tF:=s1 _ _ h1;have hk:=s1 _ _ h2;have KO:(iy size b).length=size.toNat:=by unfold iy;rw[aHJ,aJu]
 refine Fp (K:=K) (a:=r) (xs:=iy size b) (l:=l) (λi ys σ' G'=>∃v0:Option V,σ'=[v0,!(.ref bm)]/\ys=((List.range i).map λk=>mem (b*size+(k:Nat))).map V.int/\G'=upd H1 l (.lst ys)) (none,115,) (λi ys σ' G' _ (108,q,)=>au.of (by rw[q,Zc (Zd e1 hl)];exact e1)) ?_ ?_
 .rintro i x ys σ' G' hi hxi hys ⟨v0,rfl,rfl,rfl⟩;let(rfl,_,):=Ug hxi;have sl:=Zf hl (.lst (((List.range i).map λk=>mem (b*size+(k:Nat))).map V.int));have q:=d8.k (k:=Sum.inl (b*size+(i:Nat))) (sl _ _ hk);rw[h4]at q;refine(_,8,bm,_,dx,109,sl _ _ tF,T.wG,T.Ga,Ls ..,dk,8,.inl (_,.inl (sl _ _ hk),),110,q,?_,);have eg:(if mem (b*size+(i:Nat))=0 then none else !(V.int (mem (b*size+(i:Nat))))).getD (V.int 0)=V.int (mem (b*size+(i:Nat))):=by
   by_cases c:mem (b*size+(i:Nat))=0
   .rw [aS1 c,c];rfl
   .rw [aWd c];rfl
  rw[eg];exact jd.of (a92 (Zt 7)) hi hys Za (_,8,by rw[List.range_succ,avl,avl];rfl,LD,)
 .rintro ys σ' G' _ ⟨v0,rfl,rfl,rfl⟩;rw[KO];exact k l _ (s1.free hl) (s1.trans (Zf hl _)) Za
inductive xq(K:W.Frag)(vs:List V)(H:Hp)(Q:VK)(E:XK):Prop
 |mk (bm dk:Addr) (size b:Int) (mem:Int->Int) (U:List Int) (lw:Addr) (ws:List Int):vs=[.ref bm,.int b,.ref lw]->dS K H bm dk size mem U->0<size->size<=1000->0<=b->b<=1000000->b∈U->U.length<=800->H lw=!(.lst (ws.map V.int))->ws.length=size.toNat->(∀H',dS K H' bm dk size (qU size mem b ws) U->(∀x o,H x=!o->x≠dk->H' x=!o)->Q .aN H')->xq K vs H Q E
theorem Zhr{size:Int}{mem:Int->Int}{b:Int}{ws:List Int}{i:Nat}{x:Int}(h:ws[i]?=!x)(s:Int):gX size mem b ws (i+1) s=if s=b*size+(i:Nat) then x else gX size mem b ws i s:=by
 unfold gX;have gd:ws.getD i 0=x:=by rw[an8,h];rfl
 by_cases c:s=b*size+(i:Nat)
 .rw [aS1 c,aS1 7];have:(s-b*size).toNat=i:=7
  rw[this,gd]
 .rw [aWd c];by_cases d:b*size<=s/\s<b*size+(i:Nat)
  .rw [aS1 d,aS1 7]
  .rw [aWd d,aWd 7]
theorem ZfT{size b:Int}{i:Nat}(z0:0<size)(hi:i<size.toNat):(b*size+(i:Nat))/size=b:=by
 rw[Int.add_comm,abW _ _ 7,ac0 7 7];lia
example:(m7 F7 Bm):=by
 let(bm,dk,size,b,mem,U,lw,ws,rfl,M,z0,z1,b0,b1,bU,lU,pZ,yp,k,):=h;refine(_,(Zg (vd a49 8 (ZkB 8 T.J3 (pc (Zl Bm hr.m 8 (pc (Zk (K:=K) 8 (pv 0) 8) (pc (pv 1) Zb))) (pc (pv 2) Zb))) (ZH (K:=K) (n:=2) 8 8 (Zo (bG 3 nd) (Zo (bG 4 nd) ZF))) (Zg (aF (Zx bu (pv 4) Zi (Zv _)) (Zg (Zn (Ux (Zk (K:=K) 8 (pv 0) 8) (pv 3) Zi (8,8,8,8,)))) (Zg (Jl hu (Zk (K:=K) 8 (pv 0) 8) (pv 3) (pv 4) 8)))))),?_,);let(dx,h1,):=M.ob;let(kv0,h2,_,):=M.kept;refine(_,8,bm,_,dx,109,h1,T.wG,T.Nh,S9 ..,_,8,size,b,8,z0,z1,b0,b1,λr H1 hr1 s1 e1=>?_,);have KO:(iy size b).length=size.toNat:=by unfold iy;rw[aHJ,aJu]
 have Xo:r≠dk:=λz=>by rw[z,h2]at hr1;cases hr1
 have Xx:lw≠dk:=λz=>by rw[z,h2]at pZ;cases pZ
 refine(_,8,r,lw,8,(_,au.of e1,),(_,au.of (s1 _ _ pZ),),ZjE (K:=K) (a:=r) (b:=lw) (xs:=iy size b) (ys:=ws.map V.int) (λi σ G=>∃v3 v4:Option V,σ=[!(.ref bm),!(.int b),!(.ref lw),v3,v4]/\dS K G bm dk size (gX size mem b ws i) U/\∀x o,H1 x=!o->x≠dk->G x=!o) (by rw[KO,aHJ,yp])
  (none,none,8,?_,λ_ _ e _=>e,) (λi σ G _ (116,q,)=>(au.of (q _ _ e1 Xo),au.of (q _ _ (s1 _ _ pZ) Xx),)) ?_ ?_,)
 .have e0:gX size mem b ws 0=mem:=by
   funext s
   unfold gX;rw[aWd 7]
  rw[e0];exact M.frame λx o _ e=>s1 x o e
 .rintro i x y t σ G hx hy ⟨v3,v4,rfl,M',fr⟩ ht;let(rfl,hi,):=Ug hx;obtain⟨z,hz,rfl⟩:∃z,ws[i]?=!z/\y=V.int z:=by
   rw[a7o]at hy;cases e:ws[i]? with
   |none=>rw[e]at hy;cases hy
   |some z=>rw[e]at hy;exact(z,8,(aZC hy).symm,)
  have s2:=Zf ht (.tup [V.int (b*size+(i:Nat)),V.int z]);refine(t,_,8,aX.of Za,125,gN (109,gN (8,?_,),),);have M2:dS K (upd G t (.tup [V.int (b*size+(i:Nat)),V.int z])) bm dk size (gX size mem b ws i) U:=M'.frame λx o _ e=>s2 x o e;have IB:∀x o,H1 x=!o->x≠dk->upd G t (.tup [V.int (b*size+(i:Nat)),V.int z]) x=!o:=λx o e n=>s2 _ _ (fr x o e n);generalize upd G t (.tup [V.int (b*size+(i:Nat)),V.int z])=G2 at *;let(nv,g1,):=M2.ob;let(kvs,g2,g3,g4,):=M2.kept;have XE:bm≠dk:=λq=>by rw[q,g2]at g1;cases g1
  have sp:=ZfT (b:=b) z0 hi;have es:=Zhr (size:=size) (mem:=mem) (b:=b) hz;have fin:∀kvs',KI kvs'->(∀s,aL kvs' (Sum.inl s:Key)=if s=b*size+(i:Nat) then(if z=0 then none else !(.int z)) else aL kvs (Sum.inl s:Key))->dS K (upd G2 dk (.dK kvs')) bm dk size (gX size mem b ws (i+1)) U/\∀x o,H1 x=!o->x≠dk->upd G2 dk (.dK kvs') x=!o:=λkvs' ki hv=>by
   refine(((nv,by rw[Zc XE];exact g1,),(kvs',Za,ki,λs=>?_,),λs hs=>?_,),λx o e n=>by rw[Zc n];exact IB x o e n,)
   .by_cases c:s=b*size+(i:Nat)
    .rw [hv s,(es s).trans (aS1 c),aS1 c]
    .rw [hv s,(es s).trans (aWd c),aWd c,g4 s]
   .rw [es s]at hs;by_cases c:s=b*size+(i:Nat)
    .rw [c,sp];exact bU
    .rw [aWd c]at hs;exact M2.sup s hs
  refine(145,OL (λc=>?_) (λc=>?_),)
  .have c:z=0:=by simpa using c
   refine(_,8,bm,_,nv,109,g1,T.wG,T.Ga,Ls ..,dk,8,.inl (_,.inl g2,),_,8,kvs,Sum.inl (b*size+(i:Nat)),g2,8,λv hv=>?_,λhv=>?_,)
   .let(f1,f2,):=fin _ (g3.drop (b*size+(i:Nat))) (λs=>by
     rw[Jr,aS1 c];by_cases q:s=b*size+(i:Nat)
     .rw [aS1 (by rw[q]),aS1 q]
     .rw [aWd (λy=>q (aCk y)),aWd q])
    exact(109,f1,f2,)
   .rw [g4]at hv;have e0:gX size mem b ws i (b*size+(i:Nat))=0:=by
     by_cases q:gX size mem b ws i (b*size+(i:Nat))=0
     .exact q
     .rw [aWd q]at hv;cases hv
    have e:gX size mem b ws (i+1)=gX size mem b ws i:=by
     funext s
     rw[es s];by_cases q:s=b*size+(i:Nat)
     .rw [aS1 q,q,e0,c]
     .rw [aWd q]
    exact(109,by rw[e];exact M2,IB,)
  .have c:z≠0:=λq=>c (by rw[q];simp);have kl:=S8 z0 g3 g4 M2.sup;have kb:kvs.length<sizeLine:=aZM (atw kl (Nat.mul_le_mul lU (7:size.toNat<=1000))) 9;refine(121,bm,_,nv,109,g1,T.wG,T.Ga,Ls ..,_,8,dk,_,8,mH.k (k:=Sum.inl (b*size+(i:Nat))) g2 kb,?_,);let(f1,f2,):=fin _ (g3.put (b*size+(i:Nat)) (.int z)) (λs=>by
     rw[Fl,aWd c];by_cases q:s=b*size+(i:Nat)
     .rw [aS1 (by rw[q]),aS1 q]
     .rw [aWd (λy=>q (aCk y)),aWd q])
   exact(109,f1,f2,)
 .rintro σ G ⟨v3,v4,rfl,M',fr⟩;rw[KO]at M';exact k G M' λx o e n=>fr x o (s1 _ _ e) n
structure aM where
 size:Int
 kind:Str
 bz:List Cf
 U:List Int
structure WF(g:aM):Prop where
 cf:∀c∈g.bz,1<=c.pl/\c.pl<=16
 z0:1<=g.size
 z1:g.size<=1000
 lU:g.U.length<=800
 ub:∀b∈g.U,0<=b/\b<=1000000
 l4:g.bz.length<=4
 l1:1<=g.bz.length
structure ao where
 rm:List Rm
 mem:Int->Int
 ev:List (List V)
def ao.at_(st:ao)(k:Nat):Rm:=st.rm.getD k vh
def ao.set(st:ao)(k:Nat)(s:Rm):ao:={ st with rm:=st.rm.set k s }
def ao.tell(st:ao)(e:List V):ao:={ st with ev:=st.ev++[e] }
structure TA where
 p:Addr
 ss:Addr
 bm:Addr
 dk:Addr
 ev:Addr
 as:List SA
abbrev OS:=Nat->Addr->Prop
def OS.set(os:OS)(k:Nat)(O:Addr->Prop):OS:=λj=>if j=k then O else os j
def Bs(A:TA)(x:Addr):Prop:=x=A.p\/x=A.ss\/x=A.bm\/x=A.dk\/x=A.ev
def OW(A:TA)(os:OS)(x:Addr):Prop:=Bs A x\/∃k,k<A.as.length/\os k x
def Ev(n:Nat)(e:List V):Prop:=(∃k:Nat,k<=n/\e=[.str "found",.int (k:Int)])\/(∃(k:Nat)(b:Int),(k<n/\0<=b/\b<=1000000)/\(e=[.str "in",.int (k:Int),.int b]\/e=[.str "out",.int (k:Int),.int b]))\/∃(k:Nat)(b:Int),(k<=n/\0<=b/\b<=1000000)/\e=[.str "words",.int (k:Int),.int b]
def oB(n:Nat)(H:Hp)(l:Addr)(es:List (List V)):Prop:=(∀e∈es,Ev n e)/\∃ts:List Addr,H l=!(.lst (ts.map V.ref))/\ts.length=es.length/\∀(i:Nat)(t:Addr)(e:List V),ts[i]?=!t->es[i]?=!e->H t=!(.tup e)
def bA(size:Int)(ss bm:Addr)(last:Nat)(ev:Addr)(kind:Str):List (Str×V):=(ah "events" (.ref ev) (ah "last" (.int last) (ah "bottom" (.ref bm) (ah "stores" (.ref ss) (ah "size" (.int size) [])))))
section
variable(size:Int)(ss bm:Addr)(last:Nat)(ev:Addr)(kind:Str)
theorem JE:(bA size ss bm last ev kind).lookup ("events":Str)=!(.ref ev):=by
 unfold bA;rw[Zh,aS1 8]
theorem AZ:(bA size ss bm last ev kind).lookup ("last":Str)=!(.int last):=by
 unfold bA;rw[Zh,aWd 6,Zh,aS1 8]
theorem OQ:(bA size ss bm last ev kind).lookup ("bottom":Str)=!(.ref bm):=by
 unfold bA;rw[Zh,aWd 6,Zh,aWd 6,Zh,aS1 8]
theorem ZB:(bA size ss bm last ev kind).lookup ("stores":Str)=!(.ref ss):=by
 unfold bA;rw[Zh,aWd 6,Zh,aWd 6,Zh,aWd 6,Zh,aS1 8]
theorem E7:(bA size ss bm last ev kind).lookup ("size":Str)=!(.int size):=by
 unfold bA;rw[Zh,aWd 6,Zh,aWd 6,Zh,aWd 6,Zh,aWd 6,Zh,aS1 8]
theorem az{m:Str}(h2:¬m ="events":=by decide +kernel)(h3:¬m ="last":=by decide +kernel)(h4:¬m ="bottom":=by decide +kernel)(h5:¬m ="stores":=by decide +kernel)(h6:¬m ="size":=by decide +kernel):(bA size ss bm last ev kind).lookup m=none:=by
 unfold bA;rw[Zh,aWd h2,Zh,aWd h3,Zh,aWd h4,Zh,aWd h5,Zh,aWd h6];rfl
theorem vf{f g:Str}{v x:V}{r:List (Str×V)}(h:¬g=f):ah f v ((g,x) ::r)=(g,x) ::ah f v r:=by
 show(if g=f then _ else _)=_;rw[aWd h]
theorem ZjX{f:Str}{v x:V}{r:List (Str×V)}:ah f v ((f,x) ::r)=(f,v) ::r:=by
 show(if f=f then _ else _)=_;rw[aS1 8]
theorem Jp{f:Str}{v:V}:ah f v []=[(f,v)]:=rfl
theorem Pc:bA size ss bm last ev kind=([(("size":Str),V.int size),(("stores":Str),V.ref ss),(("bottom":Str),V.ref bm),(("last":Str),V.int last),(("events":Str),V.ref ev)]:List (Str×V)):=by
 unfold bA;have a1:¬("size":Str) ="stores":=6
 have a2:¬("size":Str) ="bottom":=6
 have a3:¬("size":Str) ="last":=6
 have a4:¬("size":Str) ="events":=6
 have b2:¬("stores":Str) ="bottom":=6
 have b3:¬("stores":Str) ="last":=6
 have b4:¬("stores":Str) ="events":=6
 have c3:¬("bottom":Str) ="last":=6
 have c4:¬("bottom":Str) ="events":=6
 have d4:¬("last":Str) ="events":=6
 rw[Jp,vf a1,Jp,vf a2,vf b2,Jp,vf a3,vf b3,vf c3,Jp,vf a4,vf b4,vf c4,vf d4,Jp]
theorem Zlf(ev':Addr):ah "events" (.ref ev') (bA size ss bm last ev kind)=bA size ss bm last ev' kind:=by
 rw[Pc,Pc];have a4:¬("size":Str) ="events":=6
 have b4:¬("stores":Str) ="events":=6
 have c4:¬("bottom":Str) ="events":=6
 have d4:¬("last":Str) ="events":=6
 rw[vf a4,vf b4,vf c4,vf d4,ZjX]
end
structure aa(K:W.Frag)(H:Hp)(A:TA)(g:aM)(st:ao)(os:OS)(n:Nat):Prop where
 ob:∃dx,H A.p=!(.ins (af K "Beside") dx (bA g.size A.ss A.bm A.as.length A.ev g.kind))
 ss:H A.ss=!(.lst (A.as.map λa=>V.ref a.sp))
 mem:dS K H A.bm A.dk g.size st.mem g.U
 ev:oB g.bz.length H A.ev st.ev
 wK:st.ev.length<=n
 lc:g.bz.length=A.as.length
 lS:st.rm.length=A.as.length
 aO:∀(k:Nat)(a:SA)(c:Cf)(s:Rm),A.as[k]?=!a->g.bz[k]?=!c->st.rm[k]?=!s->ay K H a c s (os k)
 off:∀k,k<A.as.length->∀x,os k x->¬Bs A x
 uV:∀i j,i<A.as.length->j<A.as.length->i≠j->∀x,os i x->¬os j x
 Dm:A.ss≠A.ev
 wH:A.p≠A.bm
 wV:∀s∈st.rm,∀b∈s.seq,b∈g.U
 full:∀(k:Nat)(c:Cf)(s:Rm),g.bz[k]?=!c->st.rm[k]?=!s->∀t,((Zr c.sh t s.seq).length:Int)<=c.pl
 wl:∀s∈st.rm,∀b∈s.seq,(s.wd b).length=g.size.toNat
 wf:WF g
 tb:Tb K H
section
variable{K:W.Frag}{H H':Hp}{A:TA}{g:aM}{st:ao}{os:OS}{n:Nat}{a:SA}{c:Cf}{s:Rm}
theorem oB.frame{m:Nat}{l:Addr}{es:List (List V)}(h:oB m H l es)(f1:∀o,H l=!o->H' l=!o)(f2:∀x ys,H x=!(.tup ys)->H' x=!(.tup ys)):oB m H' l es:=by
 let(h0,ts,h1,h2,h3,):=h;exact(h0,ts,f1 _ h1,h2,λi t e a b=>f2 _ _ (h3 i t e a b),)
theorem aa.frame(T:aa K H A g st os n)(f:∀x o,H x=!o->(OW A os x\/¬Mt o)->H' x=!o):aa K H' A g st os n:=by
 let(dx,h1,):=T.ob;have fb:∀{x o},Bs A x->H x=!o->H' x=!o:=λ{x o} h e=>f x o e (.inl (.inl h));have ft:∀x ys,H x=!(.tup ys)->H' x=!(.tup ys):=λx ys e=>f x _ e (.inr id);refine((dx,fb (.inl 8) h1,),fb (by simp[Bs]) T.ss,T.mem.frame λx o m e=>fb (by rcases m with m|m <;> simp[Bs,m]) e,T.ev.frame (λo e=>fb (by simp[Bs]) e) ft,T.wK,T.lc,T.lS,λk a c s h1 h2 h3=>(T.aO k a c s h1 h2 h3).frame λx o h e=>f x o e (.inl (.inr (k,(au3.mp h1).1,h,))),T.off,T.uV,T.Dm,T.wH,T.wV,T.full,T.wl,T.wf,f _ _ T.tb (.inr id),)
theorem aa.same(T:aa K H A g st os n)(h:aA H H'):aa K H' A g st os n:=T.frame λx o e _=>h x o e
theorem aa.le{m:Nat}(T:aa K H A g st os n)(h:n<=m):aa K H A g st os m:=(T.ob,T.ss,T.mem,T.ev,atw T.wK h,T.lc,T.lS,T.aO,T.off,T.uV,T.Dm,T.wH,T.wV,T.full,T.wl,T.wf,T.tb,)
theorem aa.ex(T:aa K H A g st os n):∀x,OW A os x->H x≠none:=λx h=>by
 rcases h with h|⟨k,hk,h⟩
 .let(dx,h1,):=T.ob;let(dm,h2,):=T.mem.ob;let(kv,h3,_,):=T.mem.kept;let(_,ts,h4,_,):=T.ev;rcases h with rfl|rfl|rfl|rfl|rfl
  .rw [h1];simp
  .rw [T.ss];simp
  .rw [h2];simp
  .rw [h3];simp
  .rw [h4];simp
 .have h1:A.as[k]?=!A.as[k]:=ais hk;have h2:g.bz[k]?=!(g.bz[k]'(by rw[T.lc];exact hk)):=ais _;have h3:st.rm[k]?=!(st.rm[k]'(by rw[T.lS];exact hk)):=ais _;exact(T.aO _ _ _ _ h1 h2 h3).aO.ex x h
theorem ao.at_of{k:Nat}(h:k<st.rm.length):st.rm[k]?=!(st.at_ k):=by
 unfold ao.at_;rw[an8,ais h];rfl
theorem ao.bQ{k j:Nat}{s:Rm}(h:k<st.rm.length):(st.set k s).at_ j=if j=k then s else st.at_ j:=by
 unfold ao.at_ ao.set;rw[an8,an8];by_cases z:j=k
 .rw [aS1 z,z,a8U h];rfl
 .rw [aWd z,aL4 (aBl z)]
def aM.cf(g:aM)(k:Nat):Cf:=g.bz.getD k (1,1,"old",true,)
theorem aa.at_(T:aa K H A g st os n){k:Nat}(hk:k<A.as.length):∃a,A.as[k]?=!a/\g.bz[k]?=!(g.cf k)/\st.rm[k]?=!(st.at_ k)/\ay K H a (g.cf k) (st.at_ k) (os k):=by
 have h1:A.as[k]?=!A.as[k]:=ais hk;have h2:g.bz[k]?=!(g.cf k):=by
  unfold aM.cf;rw[an8,ais (by rw[T.lc];exact hk)];rfl
 have h3:=ao.at_of (st:=st) (k:=k) (by rw[T.lS];exact hk);exact(_,h1,h2,h3,T.aO _ _ _ _ h1 h2 h3,)
theorem aa.lZ(T:aa K H A g st os n){k:Nat}(hk:k<A.as.length):(st.at_ k).seq.length<=800/\(∀b∈(st.at_ k).seq,b∈g.U/\((st.at_ k).wd b).length=g.size.toNat)/\(∀t,((Zr (g.cf k).sh t (st.at_ k).seq).length:Int)<=(g.cf k).pl)/\1<=(g.cf k).pl/\(g.cf k).pl<=16/\(st.at_ k).seq.Nodup:=by
 let(a,h1,h2,h3,S,):=T.at_ hk;have m:=a1U h3;let(c1,c2,):=T.wf.cf _ (a1U h2);exact(atw (D9 S.aO.room.nd (T.wV _ m)) T.wf.lU,λb h=>(T.wV _ m b h,T.wl _ m b h,),T.full _ _ _ h2 h3,c1,c2,S.aO.room.nd,)
theorem Zlg{k:Nat}{O':Addr->Prop}(T:aa K H A g st os n)(hk:k<A.as.length)(p:bM (os k) H H' O'):bM (OW A os) H H' (OW A (os.set k O')):=by
 refine(λx o e nn=>p.kp x o e λh=>nn (.inr (k,hk,h,)),λx h=>?_,);rcases h with h|⟨j,hj,h⟩
 .exact .inl (.inl h)
 .unfold OS.set at h;by_cases z:j=k
  .rw [aS1 z]at h;exact(p.fr x h).elim (λq=>.inl (.inr (k,hk,q,))) .inr
  .rw [aWd z]at h;exact .inl (.inr (j,hj,h,))
theorem aa.iZ{k:Nat}{s':Rm}{O':Addr->Prop}(T:aa K H A g st os n)(ha:A.as[k]?=!a)(hc:g.bz[k]?=!c)(S:ay K H' a c s' O')(p:bM (os k) H H' O')(hu:∀b∈s'.seq,b∈g.U/\(s'.wd b).length=g.size.toNat)(hf:∀t,((Zr c.sh t s'.seq).length:Int)<=c.pl) :
  aa K H' A g (st.set k s') (os.set k O') n/\bM (OW A os) H H' (OW A (os.set k O')):=by
 have hk:k<A.as.length:=(au3.mp ha).1;refine(?_,Zlg T hk p,);have nb:∀{x o},Bs A x->H x=!o->H' x=!o:=λ{x o} h e=>p.kp x o e λq=>absurd h (T.off k hk x q);have nt:∀x ys,H x=!(.tup ys)->H' x=!(.tup ys):=λx ys e=>p.kp x _ e λ_=>id;let(dx,h1,):=T.ob;refine((dx,nb (.inl 8) h1,),nb (by simp[Bs]) T.ss,T.mem.frame λx o m e=>nb (by rcases m with m|m <;> simp[Bs,m]) e,T.ev.frame (λo e=>nb (by simp[Bs]) e) nt,T.wK,T.lc,by show(st.rm.set k s').length=_;rw[aKe];exact T.lS,λj b cb sb hb hcb mL=>?_,λj hj x h=>?_,λi j hi hj hij x h1 h2=>?_,T.Dm,T.wH,λq hq b hb=>?_,λj cb sb hcb mL=>?_,λq hq b hb=>?_,T.wf,p.kp _ _ T.tb λ_=>id,)
 .have hj:=(au3.mp hb).1;unfold OS.set;by_cases e:j=k
  .subst e;rw[ha]at hb;cases hb;rw[hc]at hcb;cases hcb;have mL:(st.rm.set j s')[j]?=!sb:=mL;rw[a8U (by rw[T.lS];exact hk)]at mL;cases mL;rw[aS1 8];exact S
  .have mL:(st.rm.set k s')[j]?=!sb:=mL;rw[aL4 (aBl e)]at mL;rw[aWd e];exact(T.aO j b cb sb hb hcb mL).frame λx o h q=>p.kp x o q λz=>absurd z (T.uV j k hj hk e x h)
 .unfold OS.set at h;by_cases e:j=k
  .rw [aS1 e]at h;rcases p.fr x h with q|q
   .exact T.off k hk x q
   .exact λz=>T.ex x (.inl z) q
  .rw [aWd e]at h;exact T.off j hj x h
 .unfold OS.set at h1 h2;by_cases e1:i=k
  .rw [aS1 e1]at h1;rw[aWd (λz=>hij (e1.trans z.symm))]at h2;rcases p.fr x h1 with q|q
   .exact T.uV k j hk hj (λz=>hij (e1.trans z)) x q h2
   .exact T.ex x (.inr (j,hj,h2,)) q
  .rw [aWd e1]at h1;by_cases e2:j=k
   .rw [aS1 e2]at h2;rcases p.fr x h2 with q|q
    .exact T.uV i k hi hk e1 x h1 q
    .exact T.ex x (.inr (i,hi,h1,)) q
   .rw [aWd e2]at h2;exact T.uV i j hi hj hij x h1 h2
 .rcases aVV hq with hq|rfl
  .exact T.wV q hq b hb
  .exact (hu b hb).1
 .by_cases e:j=k
  .subst e;rw[hc]at hcb;cases hcb;have mL:(st.rm.set j s')[j]?=!sb:=mL;rw[a8U (by rw[T.lS];exact hk)]at mL;cases mL;exact hf
  .have mL:(st.rm.set k s')[j]?=!sb:=mL;rw[aL4 (aBl e)]at mL;exact T.full j cb sb hcb mL
 .rcases aVV hq with hq|rfl
  .exact T.wl q hq b hb
  .exact (hu b hb).2
theorem aa.event(T:aa K H A g st os n){t:Addr}(e:List V)(he:Ev g.bz.length e)(ht:H t=none):∃ts:List Addr,H A.ev=!(.lst (ts.map V.ref))/\ts.length<=n/\aa K (upd (upd H t (.tup e)) A.ev (.lst (ts.map V.ref++[.ref t]))) A g (st.tell e) os (n+1)/\bM (OW A os) H (upd (upd H t (.tup e)) A.ev (.lst (ts.map V.ref++[.ref t]))) (OW A os):=by
 let(h0,ts,h1,h2,h3,):=T.ev;have s1:=Zf ht (.tup e);have T1:=T.same s1;have Xm:t≠A.ev:=λz=>by rw[z,h1]at ht;cases ht
 have off:∀{x o},H x=!o->x≠A.ev->upd (upd H t (.tup e)) A.ev (.lst (ts.map V.ref++[.ref t])) x=!o:=λ{x o} q z=>by rw[Zc z];exact s1 _ _ q
 have nk:∀{x o},H x=!o->(∀xs,o≠.lst xs)->x≠A.ev:=λ{x o} q m z=>by rw[z,h1]at q;exact m _ (aZC q).symm
 have wK:=T.wK;refine(ts,h1,7,?_,(λx o q m=>off q λz=>?_,λx h=>.inl h,),)
 .let(dx,g1,):=T.ob;let(dm,g2,):=T.mem.ob;let(kv,g3,g4,):=T.mem.kept;refine((dx,off g1 (nk g1 (λ_ z=>by cases z)),),off T.ss T.Dm,((dm,off g2 (nk g2 (λ_ z=>by cases z)),),(kv,off g3 (nk g3 (λ_ z=>by cases z)),g4,),T.mem.sup,),(λe' m=>(bdf.mp m).elim (h0 e') λm=>by rw[aU2.mp m];exact he,ts++[t],by rw[Za,avl];rfl,by rw[a14];show _=(st.ev++[e]).length;rw[a14,h2];rfl,λi t' e' q1 q2=>?_,),by show(st.ev++[e]).length<=n+1;rw[a14];show st.ev.length+1<=n+1;lia,T.lc,T.lS,λk a c s q1 q2 q3=>(T.aO k a c s q1 q2 q3).frame λx o h q=>off q λz=>T.off k (au3.mp q1).1 x h (by simp[Bs,z]),T.off,T.uV,T.Dm,T.wH,T.wV,T.full,T.wl,T.wf,off T.tb (nk T.tb (λ_ z=>by cases z)),);have q2:(st.ev++[e])[i]?=!e':=q2;by_cases hi:i<ts.length
  .rw [ahZ hi]at q1;rw[ahZ 7]at q2;have q:=h3 i t' e' q1 q2;exact off q (nk q (λ_ z=>by cases z))
  .have hl:=(au3.mp q1).1;rw[a14,adN]at hl;have:i=ts.length:=7
   rw[aWn 7,this,adx]at q1;rw[aWn 7,show i-st.ev.length=0 by lia]at q2;cases q1;cases q2;rw[Zc Xm];exact Za
 .rw [z,h1]at q;cases q;exact m (.inl (by simp[Bs,z])) trivial
end
theorem S7{R:Int->Int->Prop}(anti:∀a b,R a b->R b a->a=b):∀{l1 l2:List Int},l1.Perm l2->l1.Pairwise R->l2.Pairwise R->l1=l2
 | [],l2,p,_,_=>(List.nil_perm.mp p).symm
 |a ::l1,l2,p,h1,h2=>by
  match l2,p,h2 with
  | [],p,_=>exact absurd p.length_eq 5
  |b ::l2,p,h2=>
   have e:a=b:=by
    by_cases c:a=b
    .exact c
    .have ma:a∈l2:=(ajG.mp (p.mem_iff.mp aKq)).resolve_left c;have mb:b∈l1:=(ajG.mp (p.mem_iff.mpr aKq)).resolve_left (λz=>c z.symm);exact anti a b ((aI1.mp h1).1 b mb) ((aI1.mp h2).1 a ma)
   subst e;rw[S7 anti (List.Perm.cons_inv p) (aI1.mp h1).2 (aI1.mp h2).2]
theorem ZiA{us:Int->Int}{ms:List Int}(a b:Int)(h1:Bf us ms a b)(h2:Bf us ms b a):a=b:=by
 rcases h1 with h1|⟨h1,h3⟩ <;> rcases h2 with h2|⟨h2,h4⟩ <;> lia
theorem Zht{ru:Str}{us:Int->Int}{pl:Int}{ms:List Int}{g g':Option Int}(h:eV ru us pl ms g)(h':eV ru us pl ms g'):g=g':=by
 by_cases c:(ms.length:Int)<pl
 .rw [h.1 c,h'.1 c]
 .let(x,r,rfl,p,f,n,):=h.2 c;let(x',r',rfl,p',f',n',):=h'.2 c;have e:x ::r=x' ::r':=by
   by_cases q:ru ="few"
   .exact S7 ZiA (p.trans p'.symm) (f q) (f' q)
   .rw [n q,n' q]
  injection e with e1 _
  rw[e1]
open Classical in
noncomputable def cV(c:Cf)(s:Rm)(b:Int):Option Int:=if h:∃g,eV c.ru s.us c.pl (Zr c.sh (b%c.sh) s.seq) g then Classical.choose h else none
theorem ZiB{c:Cf}{s:Rm}{b:Int}{g:Option Int}(h:eV c.ru s.us c.pl (Zr c.sh (b%c.sh) s.seq) g):cV c s b=g:=by
 unfold cV;have e:∃g,eV c.ru s.us c.pl (Zr c.sh (b%c.sh) s.seq) g:=(g,h,);rw[dif_pos e];exact Zht (Classical.choose_spec e) h
theorem Zhu{sh pl:Int}{seq seq':List Int}(h:∀s,((Zr sh s seq).length:Int)<=pl)(hs:seq'.Sublist seq):∀s,((Zr sh s seq').length:Int)<=pl:=λs=>by
 have q:(Zr sh s seq').Sublist (Zr sh s seq):=List.Sublist.filter _ hs;have:=q.length_le;have:=h s;lia
theorem Zhv{sh pl:Int}{seq seq':List Int}(h:∀s,((Zr sh s seq).length:Int)<=pl)(hs:seq'.Perm seq):∀s,((Zr sh s seq').length:Int)<=pl:=λs=>by
 have q:(Zr sh s seq').Perm (Zr sh s seq):=List.Perm.filter _ hs;rw[q.length_eq];exact h s
theorem ZjY{sh pl b:Int}{seq:List Int}(h:∀s,((Zr sh s seq).length:Int)<=pl)(hb:((Zr sh (b%sh) seq).length:Int)<pl):∀s,((Zr sh s (seq++[b])).length:Int)<=pl:=λs=>by
 rw[JG];split
 .rename_i e;rw[<-e,a14];show((_+1:Nat):Int)<=pl;lia
 .exact h s
def kM(c:Cf)(s:Rm)(b:Int):Rm:=(if c.ru ="old" then s.seq.erase b++[b] else s.seq,bump s.us b,s.wd,s.fr,)
theorem Fi{c:Cf}{s:Rm}{b:Int}(hb:b∈s.seq):(kM c s b).seq.Perm s.seq:=by
 unfold kM;by_cases e:c.ru ="old"
 .rw [aS1 e];exact(aC3).trans (List.perm_cons_erase hb).symm
 .rw [aWd e]
def eW(k:Nat)(b:Int):List V:=[.str "words",.int (k:Int),.int b]
def eI(k:Nat)(b:Int):List V:=[.str "in",.int (k:Int),.int b]
def eO(k:Nat)(b:Int):List V:=[.str "out",.int (k:Int),.int b]
def eF(k:Nat):List V:=[.str "found",.int (k:Int)]
def aM.n(g:aM):Nat:=g.bz.length
def br(g:aM)(k:Nat)(b:Int)(ws:List Int)(st:ao):ao:=if k=g.n then ao.tell { st with mem:=qU g.size st.mem b ws } (eW k b) else(st.set k (pM (st.at_ k) b ws)).tell (eW k b)
def cM(k:Nat)(b:Int)(ws:List Int)(st:ao):ao:=(st.set k (Nk (st.at_ k) b ws)).tell (eI k b)
def dz(k:Nat)(b:Int)(st:ao):ao:=(st.tell (eO k b)).set k (qG (st.at_ k) b)
def fX(st:ao):ao:={ st with ev:=[] }
def TA.re(A:TA)(e:Addr):TA:={ A with ev:=e }
def Res(K:W.Frag)(H:Hp)(A:TA)(g:aM)(os:OS)(st':ao)(m:Nat)(Q:Hp->Prop):Prop:=∀H' os',aa K H' A g st' os' m->bM (OW A os) H H' (OW A os')->Q H'
section
variable{K:W.Frag}{H H':Hp}{A:TA}{g:aM}{st:ao}{os:OS}{n:Nat}
theorem aa.ix{k:Nat}{a:SA}(ha:A.as[k]?=!a):fU (A.as.map λa=>V.ref a.sp) (k:Int)=!(.ref a.sp):=yV (by rw[a7o,ha];rfl)
theorem aa.ln(T:aa K H A g st os n):g.n=A.as.length:=T.lc
theorem bM.out{O O':Addr->Prop}(p:bM O H H' O'){x:Addr}{o:HO}(h:H x=!o)(n:¬O x):H' x=!o/\¬O' x:=⟨p.kp x o h λz=>absurd z n,λz=>(p.fr x z).elim n λq=>by rw[h]at q;cases q⟩
theorem aa.fresh(T:aa K H A g st os n){x:Addr}(h:H x=none):¬OW A os x:=λz=>T.ex x z h
theorem aa.told(T:aa K H A g st os n){e' dx:Addr}(he:H e'=none):aa K (upd (upd H e' (.lst [])) A.p (.ins (af K "Beside") dx (bA g.size A.ss A.bm A.as.length e' g.kind))) (A.re e') g (fX st) os 0:=by
 let(d0,h1,):=T.ob;let(dm,h2,):=T.mem.ob;let(kv,h3,h4,):=T.mem.kept;have s:=Zf he (.lst ([]:List V));have Xs:A.p≠e':=Zd h1 he;have off:∀{x o},H x=!o->x≠A.p->upd (upd H e' (.lst [])) A.p (.ins (af K "Beside") dx (bA g.size A.ss A.bm A.as.length e' g.kind)) x=!o:=λ{x o} q z=>by rw[Zc z];exact s _ _ q
 have nk:∀{x o},H x=!o->(∀C d f,o≠.ins C d f)->x≠A.p:=λ{x o} q m z=>by rw[z,h1]at q;exact m _ _ _ (aZC q).symm
 have nb:∀x,(∃k,k<A.as.length/\os k x)->¬Bs (A.re e') x:=λx (k,hk,h,) z=>by
  rcases z with z|z|z|z|z
  .exact T.off k hk x h (.inl z)
  .exact T.off k hk x h (.inr (.inl z))
  .exact T.off k hk x h (.inr (.inr (.inl z)))
  .exact T.off k hk x h (.inr (.inr (.inr (.inl z))))
  .have z:x=e':=z;exact T.ex x (.inr (k,hk,h,)) (z ▸he)
 refine((dx,Za,),off T.ss (nk T.ss (λ_ _ _ z=>by cases z)),((dm,off h2 (aBl T.wH),),(kv,off h3 (nk h3 (λ_ _ _ z=>by cases z)),h4,),T.mem.sup,),((λe m=>by cases m),[],by show _=!(HO.lst []);rw[show(A.re e').ev=e' from rfl,Zc (aBl Xs)];exact Za,8,λi t e q _=>by simp at q,),amA _,T.lc,T.lS,λk a c s' q1 q2 q3=>(T.aO k a c s' q1 q2 q3).frame λx o h q=>off q λz=>T.off k (au3.mp q1).1 x h (.inl z),λk hk x h=>nb x (k,hk,h,),T.uV,λz=>?_,T.wH,T.wV,T.full,T.wl,T.wf,off T.tb (nk T.tb (λ_ _ _ z=>by cases z)),);have z:A.ss=e':=z;have q:=T.ss;rw[z,he]at q;cases q
end
inductive kP(K:W.Frag)(vs:List V)(H:Hp)(Q:VK)(E:XK):Prop
 |mk (A:TA) (g:aM) (st:ao) (os:OS) (n k:Nat) (a:SA):vs=[.ref A.p,.int (k:Int)]->aa K H A g st os n->A.as[k]?=!a->Q (.ref a.sp) H->kP K vs H Q E
example:(lG sE):=by
 let(A,g,st,os,n,k,a,rfl,R,ha,q,):=h;refine(_,(Ze (aF (AY (ZhS GZ qH Zi (pv 1) (Zk (K:=K) 8 (pv 0) 8))) (Zg x9) Zu)
   (Zg (Zs (ak (Zm (K:=K) 8) (Zk (K:=K) 8 (pv 0) 8) (pv 1) (λ_ _=>8))))),?_,)
 let(dx,h1,):=R.ob;have hk:k<A.as.length:=(au3.mp ha).1;refine(433,dQ (a7Y 7) (_,8,A.p,_,dx,109,h1,T.aK,T.zo,AZ ..,177,cB (by rw[a7Y 7];rfl) ?_,),);exact(_,8,A.p,_,dx,109,h1,T.aK,T.qE,ZB ..,_,8,A.ss,135,au.of R.ss,aa.ix ha,q,)
def Cy(g:aM)(st:ao)(k:Nat)(b:Int):List Int:=if k=g.n then aV g.size st.mem b else(st.at_ k).wd b
inductive fm(K:W.Frag)(vs:List V)(H:Hp)(Q:VK)(E:XK):Prop
 |mk (A:TA) (g:aM) (st:ao) (os:OS) (n k:Nat) (b:Int):vs=[.ref A.p,.int (k:Int),.int b]->aa K H A g st os n->k<=g.n->(k<g.n->b∈(st.at_ k).seq)->0<=b->b<=1000000->(∀l H',H l=none->aA H H'->H' l=!(.lst ((Cy g st k b).map V.int))->Q (.ref l) H')->fm K vs H Q E
example:(fP xV Ah sE sI):=by
 let(A,g,st,os,n,k,b,rfl,R,hk,hb,b0,b1,q,):=h;refine(_,(Ze (aF (Zx bu (pv 1) (Zk (K:=K) 8 (pv 0) 8) (Zv _)) (Zg (Zs (Zj Ah hr.m T.wG (Zk (K:=K) 8 (pv 0) 8) (pc (pv 2) Zb)))) Zu)
   (Zg (Zs (Zj sI hr.m T.dO (Zj sE hr.m T.aK (pv 0) (pc (pv 1) Zb)) (pc (pv 2) Zb))))),?_,)
 let(dx,h1,):=R.ob;let(dm,h2,):=R.mem.ob;have ln:=R.ln;unfold Cy at q;refine(121,A.p,_,dx,109,h1,T.aK,T.zo,AZ ..,113,Th (λe=>?_) (λe=>?_),)
 .rw [aS1 7]at q;exact(_,8,A.p,_,dx,109,h1,T.aK,T.J7,OQ ..,A.bm,dm,_,8,h2,ym ..,_,8,A.bm,A.dk,g.size,b,st.mem,g.U,8,R.mem,by have:=R.wf.z0;lia,R.wf.z1,b0,b1,q,)
 .rw [aWd 7]at q;let(a,e1,e2,e3,B,):=R.at_ (k:=k) 7;let(ds,h3,):=B.aO.ob;exact(_,8,A.p,dx,_,8,h1,az ..,_,8,A,g,st,os,n,k,a,8,R,e1,a.sp,ds,_,8,h3,bS ..,_,8,a,108,b,8,B,hb 7,λl hl=>q l _ hl (Zf hl _) Za,)
inductive kT(K:W.Frag)(vs:List V)(H:Hp)(Q:VK)(_v3:XK):Prop
 |mk (A:TA) (g:aM) (st:ao) (os:OS) (n:Nat):vs=[.ref A.p]->aa K H A g st os n->(∀e' H',aa K H' (A.re e') g (fX st) os 0->oB g.n H' A.ev st.ev->¬OW (A.re e') os A.ev->bM (OW A os) H H' (OW (A.re e') os)->Q (.ref A.ev) H')->kT K vs H Q _v3
example:(iS xX):=by
 let(A,g,st,os,n,rfl,R,q,):=h;refine(_,(Ze (cO 1 nd (Zk (K:=K) 8 (pv 0) 8))
   (Ze (rD (pv 0) (ZX Zb) 8)
   (Zg (Zs (pv 1))))),?_,)
 let(dx,h1,):=R.ob;refine(_,8,A.p,_,dx,109,h1,T.aK,T.Dg,JE ..,gN ?_,);try dsimp only
 refine((sL 0),λe' he=>(_,8,A.p,_,dx,_,8,Zf he _ _ _ h1,T.aK,T.Dg,(by rw[Pc];show 05<1000;decide),?_,),);rw[Zlf];have off:∀{x o},H x=!o->x≠A.p->upd (upd H e' (.lst [])) A.p (.ins (af K "Beside") dx (bA g.size A.ss A.bm A.as.length e' g.kind)) x=!o:=λ{x o} q z=>by rw[Zc z];exact Zf he _ _ _ q
 have np:∀{x o},H x=!o->(∀C d f,o≠.ins C d f)->x≠A.p:=λ{x o} q m z=>by rw[z,h1]at q;exact m _ _ _ (aZC q).symm
 let(v0,ts,v1,v2,v3,):=R.ev;have Xl:A.ev≠e':=Zd v1 he;refine(_,8,q e' _ (R.told he) (v0,ts,off v1 (np v1 (λ_ _ _ z=>by cases z)),v2,λi t e a b=>off (v3 i t e a b) (np (v3 i t e a b) (λ_ _ _ z=>by cases z)),) (λz=>?_) (λx o e m=>off e λz=>?_,λx h=>?_,),)
 .rcases z with z|⟨k,hk,z⟩
  .let(dm,h2,):=R.mem.ob;let(kv,h3,_,):=R.mem.kept;rcases z with z|z|z|z|z
   .exact np v1 (λ_ _ _ z=>by cases z) z
   .exact R.Dm z.symm
   .rw [show(A.re e').bm=A.bm from rfl]at z;rw[z,h2]at v1;cases v1
   .rw [show(A.re e').dk=A.dk from rfl]at z;rw[z,h3]at v1;cases v1
   .exact Xl z
  .exact R.off k hk _ z (by simp[Bs])
 .rw [z,h1]at e;cases e;exact m (.inl (.inl z)) trivial
 .rcases h with h|h
  .rcases h with h|h|h|h|h
   .exact .inl (.inl (.inl h))
   .exact .inl (.inl (.inr (.inl h)))
   .exact .inl (.inl (.inr (.inr (.inl h))))
   .exact .inl (.inl (.inr (.inr (.inr (.inl h)))))
   .exact .inr (by rw[h];exact he)
  .exact .inl (.inr h)
inductive xu(K:W.Frag)(vs:List V)(H:Hp)(Q:VK)(E:XK):Prop
 |mk (A:TA) (g:aM) (st:ao) (os:OS) (n k:Nat) (b:Int):vs=[.ref A.p,.int (k:Int),.int b]->aa K H A g st os n->k<g.n->(∀H',aA H H'->eV (g.cf k).ru (st.at_ k).us (g.cf k).pl (Zr (g.cf k).sh (b%(g.cf k).sh) (st.at_ k).seq) (cV (g.cf k) (st.at_ k) b)->Q (vF (cV (g.cf k) (st.at_ k) b)) H')->xu K vs H Q E
example:(j7 BU BQ):=by
 let(A,g,st,os,n,k,b,rfl,R,hk,q,):=h;refine(_,(Zg (Zs (Zj BQ hr.m T.fh (Zk (K:=K) 8 (ak (Zm (K:=K) 8) (Zk (K:=K) 8 (pv 0) 8) (pv 1) (λ_ _=>8)) 8) (pc (pv 2) Zb)))),?_,);let(dx,h1,):=R.ob;have ln:=R.ln;let(a,e1,e2,e3,B,):=R.at_ (k:=k) 7;let(u1,u2,u3,u4,u5,u6,):=R.lZ (k:=k) 7;let(ds,h3,):=B.aO.ob;let(dr,h4,):=B.aO.room.ob;have fl:=u3 (b%(g.cf k).sh);refine(_,8,A.p,_,dx,109,h1,T.aK,T.qE,ZB ..,_,8,A.ss,135,au.of R.ss,aa.ix e1,a.sp,_,ds,109,h3,T.dO,T.Aj,CF ..,a.rp,dr,_,8,h4,bJ ..,_,8,a.rp,b,(g.cf k).sh,(g.cf k).pl,(g.cf k).ru,a.ls,a.aq,a.du,(st.at_ k).seq,(st.at_ k).us,_,8,B.aO.room,R.tb,u4,7,λgone H' gp sm=>?_,);have e:=ZiB (s:=st.at_ k) gp;have q':=q H' sm (by rw[e];exact gp);rw[e]at q';exact q'
inductive wX(K:W.Frag)(vs:List V)(H:Hp)(Q:VK)(E:XK):Prop
 |mk (A:TA) (g:aM) (st:ao) (os:OS) (n k:Nat):vs=[.ref A.p,.int (k:Int)]->aa K H A g st os n->k<=g.n->n<=900000->Res K H A g os (st.tell (eF k)) (n+1) (Q .aN)->wX K vs H Q E
theorem big{n m:Nat}(h:n<=m)(hm:m<=900000):n<sizeLine:=aZM (atw h hm) 9
example:(gg Ai):=by
 let(A,g,st,os,n,k,rfl,R,Yr,hl,q,):=h;refine(_,(Zg (Zn (rC (K:=K) 8 (bZ aB2 arC ap9 Zz (Zk (K:=K) 8 (pv 0) 8) (pc (ZJ (pc ZN (pc (pv 1) Zb))) Zb))))),?_,);let(dx,h1,):=R.ob;let(_,L7,v1,_,):=R.ev;refine(_,8,A.p,_,dx,109,h1,T.aK,T.Dg,JE ..,.inl (8,_,au.of v1,),_,8,(sL 2),λt ht=>?_,);let(ts,w1,w2,R2,p2,):=R.event (eF k) (.inl (k,Yr,8,)) ht;exact(A.ev,119,Zf ht _ _ _ w1,big (by rw[aHJ];exact w2) hl,q _ _ R2 p2,)
inductive t7(K:W.Frag)(vs:List V)(H:Hp)(Q:VK)(E:XK):Prop
 |mk (A:TA) (g:aM) (st:ao) (os:OS) (n k:Nat) (b:Int):vs=[.ref A.p,.int (k:Int),.int b]->aa K H A g st os n->k<g.n->b∈(st.at_ k).seq->Res K H A g os (st.set k (kM (g.cf k) (st.at_ k) b)) n (Q .aN)->t7 K vs H Q E
example:(j5 BV HN):=by
 let(A,g,st,os,n,k,b,rfl,R,hk,hb,q,):=h;refine(_,(Zg (Zn (Zj HN hr.m T.fh (Zk (K:=K) 8 (ak (Zm (K:=K) 8) (Zk (K:=K) 8 (pv 0) 8) (pv 1) (λ_ _=>8)) 8) (pc (pv 2) Zb)))),?_,);let(dx,h1,):=R.ob;have ln:=R.ln;let(a,e1,e2,e3,B,):=R.at_ (k:=k) 7;let(u1,u2,u3,u4,u5,u6,):=R.lZ (k:=k) 7;let(ds,h3,):=B.aO.ob;let(dr,h4,):=B.aO.room.ob;refine(_,8,A.p,_,dx,109,h1,T.aK,T.qE,ZB ..,_,8,A.ss,135,au.of R.ss,aa.ix e1,a.sp,_,ds,109,h3,T.dO,T.Aj,CF ..,a.rp,dr,_,8,h4,bJ ..,_,8,a.rp,b,(g.cf k).sh,(g.cf k).pl,(g.cf k).ru,a.ls,a.aq,a.du,(st.at_ k).seq,(st.at_ k).us,_,8,B.aO.room,7,hb,7,λH' R1 r1=>?_,);have um:=λx=>(Fi (c:=g.cf k) hb).mem_iff (a:=x);let(R2,p2,):=R.iZ e1 e2 (B.iZ R1 r1 um) (B.aO.cO r1) (λx hx=>u2 x ((um x).mp hx)) (Zhv u3 (Fi (c:=g.cf k) hb));exact q H' _ R2 p2
inductive qt(K:W.Frag)(vs:List V)(H:Hp)(Q:VK)(E:XK):Prop
 |mk (A:TA) (g:aM) (st:ao) (os:OS) (n k:Nat) (b:Int) (lw:Addr) (ws:List Int):vs=[.ref A.p,.int (k:Int),.int b,.ref lw]->aa K H A g st os n->k<g.n->b∉(st.at_ k).seq->b∈g.U->((Zr (g.cf k).sh (b%(g.cf k).sh) (st.at_ k).seq).length:Int)<(g.cf k).pl->H lw=!(.lst (ws.map V.int))->(¬OW A os lw)->ws.length=g.size.toNat->n<=900000->Res K H A g os (cM k b ws st) (n+1) (Q .aN)->qt K vs H Q E
example:(jt BX FU):=by
 let(A,g,st,os,n,k,b,lw,ws,rfl,R,hk,hb,Rq,hsh,pZ,nO,yp,hl,q,):=h;refine(_,(Ze (Zn (Zj FU hr.m T.dO (ak (Zm (K:=K) 8) (Zk (K:=K) 8 (pv 0) 8) (pv 1) (λ_ _=>8)) (pc (pv 2) (pc (pv 3) Zb))))
   (Zg (Zn (rC (K:=K) 8 (bZ aB2 arC ap9 Zz (Zk (K:=K) 8 (pv 0) 8) (pc (ZJ (pc ZN (pc (pv 1) (pc (pv 2) Zb)))) Zb)))))),?_,)
 let(dx,h1,):=R.ob;have ln:=R.ln;let(a,e1,e2,e3,B,):=R.at_ (k:=k) 7;let(u1,u2,u3,u4,u5,u6,):=R.lZ (k:=k) 7;let(ds,h3,):=B.aO.ob;refine(_,8,A.p,_,dx,109,h1,T.aK,T.qE,ZB ..,_,8,A.ss,135,au.of R.ss,aa.ix e1,a.sp,ds,_,8,h3,bS ..,121,a,108,b,lw,ws,8,B,R.tb,pZ,(λz=>nO (.inr (k,7,z,))),hb,u1,u4,u5,hsh,λH1 O1 B1 p1=>?_,);let(R2,p2,):=R.iZ e1 e2 B1 p1 (λx hx=>by
  show x∈g.U/\(if x=b then ws else(st.at_ k).wd x).length=_;by_cases z:x=b
  .rw [aS1 z,z];exact(Rq,yp,)
  .rw [aWd z];exact u2 x ((bdf.mp hx).resolve_right λm=>z (aU2.mp m))) (ZjY u3 hsh)
 let(nv,g2,):=R2.ob;let(_,L7,v1,_,):=R2.ev;refine(_,8,A.p,_,nv,109,g2,T.aK,T.Dg,JE ..,.inl (8,_,au.of v1,),121,(sL 3),λt ht=>?_,);let(ts,w1,w2,R4,p4,):=R2.event (eI k b) (.inr (.inl (k,b,(hk,R.wf.ub b Rq,),.inl 8,))) ht;exact(A.ev,119,Zf ht _ _ _ w1,big (by rw[aHJ];exact w2) hl,q _ _ R4 (p2.trans p4),)
inductive uq(K:W.Frag)(vs:List V)(H:Hp)(Q:VK)(E:XK):Prop
 |mk (A:TA) (g:aM) (st:ao) (os:OS) (n k:Nat) (b:Int):vs=[.ref A.p,.int (k:Int),.int b]->aa K H A g st os n->k<g.n->b∈(st.at_ k).seq->n<=900000->(∀H' os' t l,H' t=!(.tup [.ref l,.bl ((st.at_ k).fr b)])->H' l=!(.lst (((st.at_ k).wd b).map V.int))->¬OW A os' l->aa K H' A g (dz k b st) os' (n+1)->bM (OW A os) H H' (OW A os')->Q (.ref t) H')->uq K vs H Q E
example:(j8 sF F0):=by
 let(A,g,st,os,n,k,b,rfl,R,hk,hb,hl,q,):=h;refine(_,(Ze (Zn (rC (K:=K) 8 (bZ aB2 arC ap9 Zz (Zk (K:=K) 8 (pv 0) 8) (pc (ZJ (pc ZN (pc (pv 1) (pc (pv 2) Zb)))) Zb))))
   (Zg (Zs (Zj F0 hr.m T.dO (ak (Zm (K:=K) 8) (Zk (K:=K) 8 (pv 0) 8) (pv 1) (λ_ _=>8)) (pc (pv 2) Zb))))),?_,)
 let(dx,h1,):=R.ob;let(_,L7,v1,_,):=R.ev;have ln:=R.ln;refine(_,8,A.p,_,dx,109,h1,T.aK,T.Dg,JE ..,.inl (8,_,au.of v1,),121,(sL 3),λt ht=>?_,);let(ts,w1,w2,R4,p4,):=R.event [.str "out",.int (k:Int),.int b] (.inr (.inl (k,b,(hk,R.wf.ub b ((R.lZ (k:=k) 7).2.1 b hb).1,),.inr 8,))) ht;refine(A.ev,119,Zf ht _ _ _ w1,big (by rw[aHJ];exact w2) hl,?_,);generalize upd (upd H t (.tup [.str "out",.int (k:Int),.int b])) A.ev (.lst (ts.map V.ref++[.ref t]))=H4 at *;let(AR,g4,):=R4.ob;let(a,e1,e2,e3,B,):=R4.at_ (k:=k) 7;let(u1,u2,u3,u4,u5,u6,):=R4.lZ (k:=k) 7;let(ds,h3,):=B.aO.ob;refine(_,8,A.p,_,AR,109,g4,T.aK,T.qE,ZB ..,_,8,A.ss,135,au.of R4.ss,aa.ix e1,a.sp,ds,_,8,h3,bS ..,_,8,a,108,b,8,B,hb,λt2 l H5 O5 et el nl B' p5 own=>?_,);let(R5,p6,):=R4.iZ e1 e2 B' p5 (λx hx=>u2 x (asz hx)) (Zhu u3 List.erase_sublist);refine q H5 _ t2 l et el (λz=>?_) R5 (p4.trans p6);rcases z with z|⟨j,hj,z⟩
 .rcases own with o|o
  .exact R4.off k 7 l o z
  .exact R4.ex l (.inl z) o
 .unfold OS.set at z;by_cases e:j=k
  .rw [aS1 e]at z;exact nl z
  .rw [aWd e]at z;rcases own with o|o
   .exact R4.uV j k hj 7 e l z o
   .exact R4.ex l (.inr (j,hj,z,)) o
section
variable{K:W.Frag}{H H':Hp}{A:TA}{g:aM}{st:ao}{os:OS}{n:Nat}
theorem aa.M4{mem':Int->Int}(T:aa K H A g st os n)(M:dS K H' A.bm A.dk g.size mem' g.U)(f:∀x o,H x=!o->x≠A.dk->H' x=!o):aa K H' A g { st with mem:=mem' } os n/\bM (OW A os) H H' (OW A os):=by
 let(dx,h1,):=T.ob;let(kv,h2,_,):=T.mem.kept;have nk:∀{x o},H x=!o->(∀k,o≠.dK k)->H' x=!o:=λ{x o} q m=>f x o q λz=>by rw[z,h2]at q;exact m _ (aZC q).symm
 refine(((dx,nk h1 (λ_ z=>by cases z),),nk T.ss (λ_ z=>by cases z),M,T.ev.frame (λo e=>?_) (λx ys e=>nk e (λ_ z=>by cases z)),T.wK,T.lc,T.lS,λk a c s q1 q2 q3=>(T.aO k a c s q1 q2 q3).frame λx o h q=>f x o q λz=>T.off k (au3.mp q1).1 x h (by simp[Bs,z]),T.off,T.uV,T.Dm,T.wH,T.wV,T.full,T.wl,T.wf,nk T.tb (λ_ z=>by cases z),),(λx o e m=>f x o e λz=>?_,λx h=>.inl h,),)
 .let(_,ts,v,_,):=T.ev;rw[v]at e;cases e;exact nk v (λ_ z=>by cases z)
 .rw [z,h2]at e;cases e;exact m (.inl (by simp[Bs,z])) trivial
end
inductive BB(K:W.Frag)(vs:List V)(H:Hp)(Q:VK)(E:XK):Prop
 |mk (A:TA) (g:aM) (st:ao) (os:OS) (n k:Nat) (b:Int) (lw:Addr) (ws:List Int):vs=[.ref A.p,.int (k:Int),.int b,.ref lw]->aa K H A g st os n->k<=g.n->(k<g.n->b∈(st.at_ k).seq)->b∈g.U->H lw=!(.lst (ws.map V.int))->(¬OW A os lw)->ws.length=g.size.toNat->n<=900000->Res K H A g os (br g k b ws st) (n+1) (Q .aN)->BB K vs H Q E
example:(o8 wC F7 Bp):=by
 let(A,g,st,os,n,k,b,lw,ws,rfl,R,hk,hb,bU,pZ,nO,yp,hl,q,):=h;refine(_,(Ze (aF (Zx bu (pv 1) (Zk (K:=K) 8 (pv 0) 8) (Zv _)) (Zg (Zn (Zj F7 hr.m T.wG (Zk (K:=K) 8 (pv 0) 8) (pc (pv 2) (pc (pv 3) Zb))))) (Zg (Zn (Zj Bp hr.m T.dO (ak (Zm (K:=K) 8) (Zk (K:=K) 8 (pv 0) 8) (pv 1) (λ_ _=>8)) (pc (pv 2) (pc (pv 3) Zb))))))
   (Zg (Zn (rC (K:=K) 8 (bZ aB2 arC ap9 Zz (Zk (K:=K) 8 (pv 0) 8) (pc (ZJ (pc ZN (pc (pv 1) (pc (pv 2) Zb)))) Zb)))))),?_,)
 let(dx,h1,):=R.ob;have ln:=R.ln;refine D5 (λσ G=>σ=[!(.ref A.p),!(.int (k:Int)),!(.int b),!(.ref lw)]/\∃os',aa K G A g (if k=g.n then{ st with mem:=qU g.size st.mem b ws } else st.set k (pM (st.at_ k) b ws)) os' n/\bM (OW A os) H G (OW A os')) (λD' _ k'=>?_) ?_
 .refine (121,A.p,_,dx,109,h1,T.aK,T.zo,AZ ..,113,Th (λe=>?_) (λe=>?_),)
  .let(dm,h2,):=R.mem.ob;have z0:=R.wf.z0;let(b0,b1,):=R.wf.ub b bU;refine(_,8,A.p,_,dx,109,h1,T.aK,T.J7,OQ ..,A.bm,dm,_,8,h2,ym ..,121,A.bm,A.dk,g.size,b,st.mem,g.U,lw,ws,8,R.mem,7,R.wf.z1,b0,b1,bU,R.wf.lU,pZ,yp,λH1 M1 f1=>?_,);let(R1,p1,):=R.M4 M1 f1;rw[aS1 7]at k';exact k' _ _ (8,_,R1,p1,)
  .let(a,e1,e2,e3,B,):=R.at_ (k:=k) 7;let(u1,u2,u3,u4,u5,u6,):=R.lZ (k:=k) 7;let(ds,kvs,h3,h4,h5,h6,):=B.lay (hb 7) ws (Q:=D'.nx [!(.ref A.p),!(.int (k:Int)),!(.int b),!(.ref lw)]) (λH' O' B' p'=>by
    let(R1,p1,):=R.iZ e1 e2 B' p' (λx hx=>by
     show x∈g.U/\(if x=b then ws else(st.at_ k).wd x).length=_;by_cases z:x=b
     .rw [aS1 z,z];exact(bU,yp,)
     .rw [aWd z];exact u2 x hx) u3
    rw[aWd 7]at k';exact k' _ _ (8,_,R1,p1,))
   exact(_,8,A.p,_,dx,109,h1,T.aK,T.qE,ZB ..,_,8,A.ss,135,au.of R.ss,aa.ix e1,a.sp,ds,_,8,h3,bS ..,121,a.sp,ds,a.rp,a.dh,a.df,(g.cf k).late,kvs,b,lw,_,8,h3,h4,7,pZ,h6,)
 rintro _ G ⟨rfl,eU,R2,p2⟩;let(nv,g2,):=R2.ob;let(_,L7,v1,_,):=R2.ev;refine(_,8,A.p,_,nv,109,g2,T.aK,T.Dg,JE ..,.inl (8,_,au.of v1,),121,(sL 3),λt ht=>?_,);let(ts,w1,w2,R4,p4,):=R2.event (eW k b) (.inr (.inr (k,b,(hk,R.wf.ub b bU,),8,))) ht;refine(A.ev,119,Zf ht _ _ _ w1,big (by rw[aHJ];exact w2) hl,q _ _ ?_ (p2.trans p4),);unfold br;by_cases c:k=g.n
 .rw [aS1 c]at R4 ⊢;exact R4
 .rw [aWd c]at R4 ⊢;exact R4
def tV(g:aM)(s:Rm)(sp:Int):Int:=(s.wd (sp/g.size)).getD (sp%g.size).toNat 0
inductive qh(K:W.Frag)(vs:List V)(H:Hp)(Q:VK)(E:XK):Prop
 |mk (A:TA) (g:aM) (st:ao) (os:OS) (n k:Nat) (sp:Int):vs=[.ref A.p,.int (k:Int),.int sp]->aa K H A g st os n->k<g.n->sp/g.size∈(st.at_ k).seq->(∀H',aA H H'->Q (.int (tV g (st.at_ k) sp)) H')->qh K vs H Q E
theorem IY{ws:List Int}{m:Nat}{i:Int}(l:ws.length=m)(h0:0<=i)(h1:i<m):fU (ws.map V.int) i=!(.int (ws.getD i.toNat 0)):=by
 have e:(i.toNat:Int)=i:=7
 have hi:i.toNat<ws.length:=7
 have q:fU (ws.map V.int) (i.toNat:Int)=!(.int (ws.getD i.toNat 0)):=yV (by
  rw[a7o,an8,ais hi];rfl)
 rw[e]at q;exact q
example:(jr FT sI uH):=by
 let(A,g,st,os,n,k,sp,rfl,R,hk,hb,q,):=h;refine(_,(Zg (Zs (ak (Zm (K:=K) 8) (Zj sI hr.m T.dO (ak (Zm (K:=K) 8) (Zk (K:=K) 8 (pv 0) 8) (pv 1) (λ_ _=>8)) (pc (Zl uH hr.m 8 (pc (Zk (K:=K) 8 (pv 0) 8) (pc (pv 2) Zb))) Zb)) (aj vS (pv 2) (Zk (K:=K) 8 (pv 0) 8)) (λ_ _=>8)))),?_,);let(dx,h1,):=R.ob;have ln:=R.ln;let(a,e1,e2,e3,B,):=R.at_ (k:=k) 7;let(u1,u2,u3,u4,u5,u6,):=R.lZ (k:=k) 7;let(ds,h3,):=B.aO.ob;have z0:=R.wf.z0;have z1:=R.wf.z1;refine(_,8,A.p,_,dx,109,h1,T.aK,T.qE,ZB ..,_,8,A.ss,135,au.of R.ss,aa.ix e1,a.sp,ds,_,8,h3,bS ..,_,8,A.p,_,dx,109,h1,T.aK,T.CY,E7 ..,_,8,g.size,sp,8,7,7,a,133,B,hb,λl hl=>?_,);have s1:=Zf hl (.lst (((st.at_ k).wd (sp/g.size)).map V.int));have m0:0<=sp%g.size:=aXk _ 7;have m1:sp%g.size<g.size:=an2 _ 7;exact(121,A.p,_,dx,109,s1 _ _ h1,T.aK,T.CY,E7 ..,119,(by show 0<g.size;lia),l,135,au.of Za,IY (u2 _ hb).2 m0 7,q _ s1,)
def oV(g:aM)(s:Rm)(sp x:Int):Rm:=pM s (sp/g.size) ((s.wd (sp/g.size)).set (sp%g.size).toNat x)
inductive nT(K:W.Frag)(vs:List V)(H:Hp)(Q:VK)(E:XK):Prop
 |mk (A:TA) (g:aM) (st:ao) (os:OS) (n k:Nat) (sp x:Int):vs=[.ref A.p,.int (k:Int),.int sp,.int x]->aa K H A g st os n->k<g.n->sp/g.size∈(st.at_ k).seq->Res K H A g os (st.set k (oV g (st.at_ k) sp x)) n (Q .aN)->nT K vs H Q E
example:(iR FW FZ uH):=by
 let(A,g,st,os,n,k,sp,x,rfl,R,hk,hb,q,):=h;refine(_,(Zg (Zn (Zj FZ hr.m T.dO (ak (Zm (K:=K) 8) (Zk (K:=K) 8 (pv 0) 8) (pv 1) (λ_ _=>8)) (pc (Zl uH hr.m 8 (pc (Zk (K:=K) 8 (pv 0) 8) (pc (pv 2) Zb))) (pc (aj vS (pv 2) (Zk (K:=K) 8 (pv 0) 8)) (pc (pv 3) Zb)))))),?_,);let(dx,h1,):=R.ob;have ln:=R.ln;let(a,e1,e2,e3,B,):=R.at_ (k:=k) 7;let(u1,u2,u3,u4,u5,u6,):=R.lZ (k:=k) 7;let(ds,h3,):=B.aO.ob;have z0:=R.wf.z0;have z1:=R.wf.z1;have m0:0<=sp%g.size:=aXk _ 7;have m1:sp%g.size<g.size:=an2 _ 7;have lw:=(u2 _ hb).2;refine(_,8,A.p,_,dx,109,h1,T.aK,T.qE,ZB ..,_,8,A.ss,135,au.of R.ss,aa.ix e1,a.sp,ds,_,8,h3,bS ..,_,8,A.p,_,dx,109,h1,T.aK,T.CY,E7 ..,_,8,g.size,sp,8,7,7,121,A.p,_,dx,109,h1,T.aK,T.CY,E7 ..,119,(by show 0<g.size;lia),_,8,a,132,x,8,B,hb,m0,7,λH1 B1 p1=>?_,);let(R1,p2,):=R.iZ e1 e2 B1 p1 (λy hy=>by
  show y∈g.U/\(if y=sp/g.size then _ else(st.at_ k).wd y).length=_;by_cases z:y=sp/g.size
  .rw [aS1 z,aKe,z];exact u2 _ hb
  .rw [aWd z];exact u2 y hy) u3
 exact q _ _ R1 p2
def Wr(s:Str):Prop:=s ="late" \/s ="through"
structure jz(K:W.Frag)(H:Hp)(tp:Addr)(ts:List Addr)(bz:List Cf):Prop where
 top:H tp=!(.tup (ts.map V.ref))
 len:ts.length=bz.length
 at_:∀(i:Nat)(t:Addr)(c:Cf),ts[i]?=!t->bz[i]?=!c->∃wr:Str,H t=!(.tup [.int c.sh,.int c.pl,.str c.ru,.str wr])/\c.late=decide (wr ="late")/\Wr wr
 cf:∀c∈bz,1<=c.sh/\c.sh<=64/\1<=c.pl/\c.pl<=16/\yX c.ru
theorem jz.frame{K:W.Frag}{H H':Hp}{tp:Addr}{ts:List Addr}{bz:List Cf}(p:jz K H tp ts bz)(s:∀x ys,H x=!(.tup ys)->H' x=!(.tup ys)):jz K H' tp ts bz:=
 (s _ _ p.top,p.len,λi t c h1 h2=>by let(wr,e1,e2,):=p.at_ i t c h1 h2;exact(wr,s _ _ e1,e2,),p.cf,)
def WO(size:Int)(ss bm:Addr)(last:Nat)(ev:Addr):List (Str×V):=ah "events" (.ref ev) (ah "last" (.int last) (ah "bottom" (.ref bm) (ah "stores" (.ref ss) (ah "size" (.int size) []))))
structure Fx(K:W.Frag)(H G:Hp)(as:List SA)(bz:List Cf)(os:OS):Prop where
 at_:∀(i:Nat)(a:SA)(c:Cf),as[i]?=!a->bz[i]?=!c->ay K G a c vh (os i)
 fr:∀i,i<as.length->∀x,os i x->H x=none
 uV:∀i j,i<as.length->j<as.length->i≠j->∀x,os i x->¬os j x
theorem Fx.frame{K:W.Frag}{H G G':Hp}{as:List SA}{bz:List Cf}{os:OS}{p:Addr}(m:Fx K H G as bz os)(hp:H p≠none)(f:∀x o,G x=!o->x≠p->G' x=!o):Fx K H G' as bz os:=
 (λi a c h1 h2=>(m.at_ i a c h1 h2).frame λx o h e=>f x o e λz=>hp (z ▸m.fr i (au3.mp h1).1 x h),m.fr,m.uV,)
theorem Fx.ex{K:W.Frag}{H G:Hp}{as:List SA}{bz:List Cf}{os:OS}(m:Fx K H G as bz os)(l:as.length<=bz.length){i:Nat}(hi:i<as.length){x:Addr}(h:os i x):G x≠none:=
 (m.at_ i _ _ (ais hi) (ais (akN hi l))).aO.ex x h
def yW(n:Nat):ao:=(List.replicate n vh,λ_=>0,[],)
inductive kG(K:W.Frag)(vs:List V)(H:Hp)(Q:VK)(E:XK):Prop
 |mk (p dx tp:Addr) (size:Int) (ts:List Addr) (bz:List Cf):vs=[.ref p,.int size,.ref tp]->H p=!(.ins (af K "Beside") dx [])->jz K H tp ts bz->bz.length<=4->Tb K H->(∀(A:TA)(os:OS)(H':Hp),A.p=p->H' p=!(.ins (af K "Beside") dx (WO size A.ss A.bm A.as.length A.ev))->(∀kind U,WF (size,kind,bz,U,)->aa K (upd H' p (.ins (af K "Beside") dx (bA size A.ss A.bm A.as.length A.ev kind))) A (size,kind,bz,U,) (yW bz.length) os 0) ->(∀x,OW A os x->x≠p->H x=none)->(∀b o,H b=!o->b≠p->H' b=!o)->Q .aN H')->kG K vs H Q E
example:(mW lH HH HL):=by
 let(p,dx,tp,size,ts,bz,rfl,hp,pa,l4,tb,k,):=h;refine(_,(Ze (rD (pv 0) (pv 1) 8)
   (Ze (rD (pv 0) (ZL (Zw (iN:=(Zp bC)) (oN:=pX) (N:=["room_plan"]) (own:=1) (js:=[]) 6 8 8) 8 (Lz (K:=K) 8 (pv 2)) (λ_ _ _ _ _ _=>(bG 0 (show List.Nodup (["room_plan"]:List Str) by decide +kernel))) (λ_ _ _ _ _ _=>(LO HH hr.m 8 (pc (pv 0) Zb)))) 8)
   (Ze (rD (pv 0) (LO HL hr.m 8 (pc (pv 1) Zb)) 8)
   (Ze (rD (pv 0) (Zq (ZD (K:=K) 8) 8 T.wI avg (pc (Zk (K:=K) 8 (pv 0) 8) Zb)) 8)
   (Zg (rD (pv 0) (ZX Zb) 8)))))),?_,)
 refine(121,p,_,dx,_,8,hp,T.aK,T.CY,(by show 0<1000;decide),?_,);have fu:∀{G:Hp}{o':HO} x o,G x=!o->x≠p->upd G p o' x=!o:=λx o e n=>by rw[Zc n];exact e
 have EV:H p≠none:=by rw[hp];simp
 have nk:∀{x o},H x=!o->(∀C d f,o≠.ins C d f)->x≠p:=λ{x o} q m z=>by rw[z,hp]at q;exact m _ _ _ (aZC q).symm
 have e1:upd H p (.ins (af K "Beside") dx (ah "size" (.int size) [])) p=!(.ins (af K "Beside") dx (ah "size" (.int size) [])):=Za;have f1:∀x o,H x=!o->x≠p->upd H p (.ins (af K "Beside") dx (ah "size" (.int size) [])) x=!o:=fu;have n1:∀x,upd H p (.ins (af K "Beside") dx (ah "size" (.int size) [])) x=none->H x=none:=λx e=>by
  by_cases z:x=p
  .rw [z,Za]at e;cases e
  .rw [Zc z]at e;exact e
 generalize upd H p (.ins (af K "Beside") dx (ah "size" (.int size) []))=H1 at *;have MC:=pa.frame (H':=H1) λx ys e=>f1 x _ e (nk e (λ_ _ _ z=>by cases z));refine(_,8,tp,8,(_,aX.of MC.top,),λss hss=>?_,);refine Zif (K:=K) (a:=tp) (xs:=ts.map V.ref) (l:=ss) (λj ys σ G=>∃(v0:Option V)(as:List SA)(os:OS),σ=[v0]/\ys=as.map (λa=>V.ref a.sp)/\as.length=j/\G ss=!(.lst ys)/\aA H1 G/\Fx K H G as bz os/\∀i,i<as.length->¬os i ss)
  (none,[],λ_ _=>False,115,Za,Zf hss _,(λi a c h=>by simp at h,λi h=>by simp at h,λi j h=>by simp at h,),λi h=>by simp at h,) (λj ys σ G _ (228,s,_,)=>aX.of (s _ _ MC.top)) ?_ ?_
 .rintro j x ys σ G hj sU hys ⟨v0,as,os,rfl,rfl,hlen,g1,s1,mk,ns⟩;rw[aHJ]at hj;rw[a7o]at sU;obtain⟨t,et,rfl⟩:∃t,ts[j]?=!t/\V.ref t=x:=by
   cases e:ts[j]? with
   |none=>rw[e]at sU;cases sU
   |some t=>rw[e]at sU;exact(t,8,aZC sU,)
  have Rj:j<bz.length:=by rw[<-pa.len];exact hj
  have ec:bz[j]?=!bz[j]:=ais Rj;let(wr,q1,q2,_,):=MC.at_ j t _ et ec;have cb:=pa.cf _ (aNb Rj);have GJ:=s1 _ _ q1;refine(_,8,λx D3 hx hdx ne=>(x,D3,t,bz[j].sh,bz[j].pl,bz[j].ru,wr,8,Za,aX.of ?_,cb.1,cb.2.1,λa G1 ea S1 k2=>(8,?_,),),)
  .rw [Zc (Zd GJ hx),Zc (Zd GJ hdx)];exact GJ
  have sG:aA G G1:=λy o e=>k2 y o (by rw[Zc (Zd e hx),Zc (Zd e hdx)];exact e) (Zd e hx);have vJ:∀y,(y=x\/(upd (upd G D3 (.own x)) x (.ins (af K "Store") D3 []) y=none/\G1 y≠none))->G y=none:=λy h=>by
   rcases h with h|h
   .rw [h];exact hx
   .cases q:G y with
    |none=>rfl
    |some o=>have e:=h.1;rw[Zc (Zd q hx),Zc (Zd q hdx),q]at e;cases e
  rw[show((bz[j].sh,bz[j].pl,bz[j].ru,decide (wr ="late"),):Cf)=bz[j] by rw[<-q2]]at S1;rw[show V.ref x=V.ref a.sp by rw[ea]];have K5:=sG _ _ g1;have ES:as.length<=bz.length:=7
  obtain⟨N,S1,vJ⟩:∃N:Addr->Prop,ay K G1 a bz[j] vh N/\∀y,N y->G y=none:=(_,S1,vJ,);have nN:¬N ss:=λh=>by have q:=vJ ss h;rw[g1]at q;cases q
  have la:∀{i:Nat}{b:SA},(as++[a])[i]?=!b->(i<as.length/\as[i]?=!b)\/(i=as.length/\b=a):=λ{i b} hb=>by
   by_cases hi:i<as.length
   .rw [ahZ hi]at hb;exact .inl (hi,hb,)
   .have:=(au3.mp hb).1;rw[a14,adN]at this;have hi2:i=as.length:=7
    subst hi2;rw[aWn (amA _),adx]at hb;cases hb;exact .inr (8,8,)
  have os':∀{i},i<as.length->(os.set as.length N) i=os i:=λ{i} h=>aWd 7;have GX:(os.set as.length N) as.length=N:=aS1 8;have cs:∀{i},i<(as++[a]).length->i<as.length\/i=as.length:=λ{i} h=>by rw[a14,adN]at h;lia
  refine jd.of (a92 (Zt (by rw[aHJ,pa.len];lia))) (by rw[aHJ];exact hj) hys K5 (_,as++[a],os.set as.length N,8,by rw[avl];rfl,by rw[a14,hlen];rfl,Za,λy o e=>?_,(λi b c hb hc=>?_,λi hi y hy=>?_,λi i' hi hi' nn y h1 h2=>?_,),λi hi=>?_,)
  .rw [Zc (Zd e hss)];exact sG _ _ (s1 _ _ e)
  .rcases la hb with⟨hi,hb⟩|⟨hi,rfl⟩
   .rw [os' hi];exact(mk.at_ i b c hb hc).frame λy o h e=>by rw[Zc (λz:y=ss=>ns i hi (z ▸h))];exact sG _ _ e
   .subst hi;rw[GX];rw[hlen,ec]at hc;cases hc;exact S1.frame λy o h e=>by rw[Zc (λz:y=ss=>nN (z ▸h))];exact e
  .rcases cs hi with h|h
   .rw [os' h]at hy;exact mk.fr i h y hy
   .rw [h,GX]at hy;exact n1 _ (s1.free (vJ y hy))
  .rcases cs hi with a1|a1
   .rw [os' a1]at h1;rcases cs hi' with a2|a2
    .rw [os' a2]at h2;exact mk.uV i i' a1 a2 nn y h1 h2
    .rw [a2,GX]at h2;exact mk.ex ES a1 h1 (vJ y h2)
   .rw [a1,GX]at h1;rcases cs hi' with a2|a2
    .rw [os' a2]at h2;exact mk.ex ES a2 h2 (vJ y h1)
    .exact nn (a1.trans a2.symm)
  .rcases cs hi with h|h
   .rw [os' h];exact ns i h
   .rw [h,GX];exact nN
 rintro ys σ G hys ⟨v0,as,os,rfl,rfl,hlen,g1,s1,mk,ns⟩;rw[aHJ,pa.len]at hlen;have hp2:=s1 _ _ e1;have fG:∀x o,H x=!o->x≠p->G x=!o:=λx o e n=>s1 _ _ (f1 x o e n);refine(_,8,p,_,dx,_,8,hp2,T.aK,T.qE,(by show 1<1000;decide),?_,);have Ky:ss≠p:=λz=>by rw[z,hp2]at g1;cases g1
 have e2:upd G p (.ins (af K "Beside") dx (ah "stores" (.ref ss) (ah "size" (.int size) []))) p=!(.ins (af K "Beside") dx (ah "stores" (.ref ss) (ah "size" (.int size) []))):=Za;have f2:∀x o,G x=!o->x≠p->upd G p (.ins (af K "Beside") dx (ah "stores" (.ref ss) (ah "size" (.int size) []))) x=!o:=fu;generalize upd G p (.ins (af K "Beside") dx (ah "stores" (.ref ss) (ah "size" (.int size) [])))=H2 at *;have mk2:=mk.frame EV f2;refine(_,8,λbm bx hbm Rp nbx=>(bm,bx,size,8,Za,λdk H3 M3 RG k3=>(8,?_,),),);have s3:aA H2 H3:=λy o e=>k3 y o (by rw[Zc (Zd e hbm),Zc (Zd e Rp)];exact e) (Zd e hbm);have Hr:H2 dk=none:=by
  cases q:H2 dk with
  |none=>rfl
  |some o=>rw[Zc (Zd q hbm),Zc (Zd q Rp),q]at RG;cases RG
 have e3:=s3 _ _ e2;have wH:p≠bm:=Zd e2 hbm;have MO:p≠dk:=Zd e2 Hr;refine(_,8,p,_,dx,_,8,e3,T.aK,T.J7,(by show 2<1000;decide),?_,);have e4:upd H3 p (.ins (af K "Beside") dx (ah "bottom" (.ref bm) (ah "stores" (.ref ss) (ah "size" (.int size) [])))) p=!(.ins (af K "Beside") dx (ah "bottom" (.ref bm) (ah "stores" (.ref ss) (ah "size" (.int size) [])))):=Za;have f4:∀x o,H3 x=!o->x≠p->upd H3 p (.ins (af K "Beside") dx (ah "bottom" (.ref bm) (ah "stores" (.ref ss) (ah "size" (.int size) [])))) x=!o:=fu;generalize upd H3 p (.ins (af K "Beside") dx (ah "bottom" (.ref bm) (ah "stores" (.ref ss) (ah "size" (.int size) []))))=H4 at *;have g4:=f4 _ _ (s3 _ _ (f2 _ _ g1 Ky)) Ky;have XY:(ah "bottom" (.ref bm) (ah "stores" (.ref ss) (ah "size" (.int size) [])):List (Str×V)).lookup ("stores":Str)=!(.ref ss):=by rw[Zh,aWd 6,Zh,aS1 8]
 refine(_,8,p,_,dx,109,e4,T.aK,T.qE,XY,ss,_,8,.inl (au.of g4),_,8,p,_,dx,_,8,e4,T.aK,T.zo,(by show 3<1000;decide),?_,);rw[aHJ];have e5:upd H4 p (.ins (af K "Beside") dx (ah "last" (.int (as.length:Int)) (ah "bottom" (.ref bm) (ah "stores" (.ref ss) (ah "size" (.int size) []))))) p=!(.ins (af K "Beside") dx (ah "last" (.int (as.length:Int)) (ah "bottom" (.ref bm) (ah "stores" (.ref ss) (ah "size" (.int size) []))))):=Za;have f5:∀x o,H4 x=!o->x≠p->upd H4 p (.ins (af K "Beside") dx (ah "last" (.int (as.length:Int)) (ah "bottom" (.ref bm) (ah "stores" (.ref ss) (ah "size" (.int size) []))))) x=!o:=fu;generalize upd H4 p (.ins (af K "Beside") dx (ah "last" (.int (as.length:Int)) (ah "bottom" (.ref bm) (ah "stores" (.ref ss) (ah "size" (.int size) [])))))=H5 at *;have RO:∀x o,H3 x=!o->x≠p->H5 x=!o:=λx o e n=>f5 _ _ (f4 _ _ e n) n;have RP:∀x o,H2 x=!o->x≠p->H5 x=!o:=λx o e n=>RO _ _ (s3 _ _ e) n;have MZ:=mk2.frame EV RP;have NP:∀x o,H x=!o->x≠p->H5 x=!o:=λx o e n=>RP _ _ (f2 _ _ (fG x o e n) n) n;refine((sL 0),λev hev=>(_,8,p,_,dx,_,8,Zf hev _ _ _ e5,T.aK,T.Dg,(by show 4<1000;decide),?_,),);have s6:=Zf hev (.lst ([]:List V));have MR:ev≠p:=λz=>by rw[z,e5]at hev;cases hev
 have ES:as.length<=bz.length:=7
 have nH:∀{x},H5 x=none->x≠p->H x=none:=λ{x} h n=>by
  cases q:H x with
  |none=>rfl
  |some o=>rw[NP x o q n]at h;cases h
 have QH:∀{x},H2 x=none->x≠p->H x=none:=λ{x} h n=>by
  cases q:H x with
  |none=>rfl
  |some o=>rw[f2 _ _ (fG x o q n) n]at h;cases h
 refine k (p,ss,bm,dk,ev,as,) os _ 8 Za (λkind U wf=>?_) (λx hx n=>?_) λx o e n=>?_
 .rw [LD];have ff:∀x o,H5 x=!o->x≠p->upd (upd H5 ev (.lst [])) p (.ins (af K "Beside") dx (bA size ss bm as.length ev kind)) x=!o:=λx o e n=>fu x o (s6 _ _ e) n;have MY:=MZ.frame EV ff;have g5:=f5 _ _ g4 Ky;have rp:∀{s:Rm},s∈List.replicate bz.length vh->s=vh:=λh=>(auJ.mp h).2;refine((dx,Za,),ff _ _ g5 Ky,(M3 U).frame λx o m e=>ff x o (RO x o e ?_) ?_,((λe m=>by cases m),[],by show upd _ p _ ev=_;rw[Zc MR];exact Za,8,λi t e q _=>by simp at q,),amA _,hlen.symm,by show(List.replicate _ _).length=_;rw[a77];exact hlen.symm,λj b c s hb hc hs=>?_,λj hj x h z=>?_,MY.uV,Zd g5 hev,wH,λs hs b hb=>?_,λj c s hc hs t=>?_,λs hs b hb=>?_,wf,ff _ _ (NP _ _ tb (nk tb (λ_ _ _ z=>by cases z))) (nk tb (λ_ _ _ z=>by cases z)),)
  .rcases m with rfl|rfl;exact aBl wH;exact aBl MO
  .rcases m with rfl|rfl;exact aBl wH;exact aBl MO
  .have hs:(List.replicate bz.length vh)[j]?=!s:=hs;rw[rp (a1U hs)];exact MY.at_ j b c hb hc
  .rcases z with z|z|z|z|z
   .exact EV ((show x=p from z) ▸MY.fr j hj x h)
   .exact ns j hj ((show x=ss from z) ▸h)
   .exact mk2.ex ES hj h (by rw[z];exact hbm)
   .exact mk2.ex ES hj h (by rw[z];exact Hr)
   .exact MZ.ex ES hj h (by rw[z];exact hev)
  .rw [rp hs]at hb;exact absurd hb (by simp[vh])
  .have hs:(List.replicate bz.length vh)[j]?=!s:=hs;rw[rp (a1U hs)];show((0:Nat):Int)<=c.pl;have:=(wf.cf c (a1U hc)).1;lia
  .rw [rp hs]at hb;exact absurd hb (by simp[vh])
 .rcases hx with hx|⟨j,hj,hx⟩
  .rcases hx with z|z|z|z|z
   .exact absurd z n
   .rw [z];exact n1 _ hss
   .rw [z];exact QH hbm (aBl wH)
   .rw [z];exact QH Hr (aBl MO)
   .rw [z];exact nH hev MR
  .exact MZ.fr j hj x hx
 .rw [Zc n];exact s6 _ _ (NP x o e n)
def vW(k:Nat)(b:Int)(st:ao):ao:=st.set k (K7 (st.at_ k) b)
def qv(s:Rm)(b:Int):Rm:=(s.seq,s.us,s.wd,λx=>if x=b then false else s.fr x,)
def bK(g:aM)(b:Int)(ws:List Int)(st:ao):ao:=if(g.cf 2).late=true then vW 2 b (br g 2 b ws st) else br g g.n b ws (br g 2 b ws st)
def aD(g:aM)(h:Nat)(o:Int)(st:ao):ao:=if(st.at_ h).fr o=true then bK g o ((st.at_ h).wd o) (dz h o st) else dz h o st
def dP(h:Nat)(o:Int)(x:ao×List Int×Bool):ao×List Int×Bool:=if o∈(x.1.at_ h).seq then(if(x.1.at_ h).fr o=true then(dz h o x.1,(x.1.at_ h).wd o,true) else(dz h o x.1,x.2)) else x
def zu(o:Int)(st:ao):Nat->ao×List Int×Bool
 |0=>(dz 2 o st,(st.at_ 2).wd o,(st.at_ 2).fr o)
 |i+1=>dP i o (zu o st i)
def kh(o:Int)(st:ao):ao×List Int×Bool:=dP 1 o (dP 0 o (dz 2 o st,(st.at_ 2).wd o,(st.at_ 2).fr o))
def rB(g:aM)(o:Int)(st:ao):ao:=if(kh o st).2.2=true then br g g.n o (kh o st).2.1 (kh o st).1 else(kh o st).1
noncomputable def roomF(g:aM)(b:Int)(st:ao):ao:=match cV (g.cf 2) (st.at_ 2) b with
 |none=>st
 |some o=>rB g o st
noncomputable def g6(g:aM)(b:Int)(st:ao):ao:=if b∈(st.at_ 2).seq then(st.tell (eF 2)).set 2 (kM (g.cf 2) (st.at_ 2) b) else cM 2 b (aV g.size (roomF g b (st.tell (eF g.n))).mem b) (roomF g b (st.tell (eF g.n)))
def fq(g:aM)(h:Nat)(b:Int)(st:ao):ao:=if(st.at_ h).fr b=true then(λs:ao=>s.set h (qv (s.at_ h) b)) (bK g b ((st.at_ h).wd b) st) else st
noncomputable def aU(g:aM)(h:Nat)(b:Int)(st:ao):ao:=match cV (g.cf h) (st.at_ h) b with
 |none=>st
 |some o=>aD g h o st
noncomputable def iY(g:aM)(h:Nat)(b:Int)(st:ao):ao:=cM h b (((aU g h b st).at_ 2).wd b) (aU g h b st)
noncomputable def cL(g:aM)(h:Nat)(b:Int)(st:ao):ao:=if b∈(st.at_ h).seq then(st.tell (eF h)).set h (kM (g.cf h) (st.at_ h) b) else iY g h b (fq g (1-h) b (g6 g b st))
def cu(h:Nat)(b:Int)(st:ao):ao:=if b∈(st.at_ (1-h)).seq then dz (1-h) b st else st
def markB(g:aM)(h:Nat)(b:Int)(st:ao):ao:=if(g.cf h).late=true then vW h b st else bK g b ((st.at_ h).wd b) st
noncomputable def qc(g:aM)(h:Nat)(sp x:Int)(st:ao):ao:=(λs:ao=>markB g h (sp/g.size) (s.set h (oV g (s.at_ h) sp x))) (cu h (sp/g.size) (cL g h (sp/g.size) st))
theorem ve{st:ao}{k j:Nat}{s:Rm}:(st.set k s).at_ j=if j=k/\k<st.rm.length then s else st.at_ j:=by
 by_cases h:k<st.rm.length
 .rw [ao.bQ h];by_cases z:j=k
  .rw [aS1 z,aS1 (z,h,)]
  .rw [aWd z,aWd (λq=>z q.1)]
 .rw [aWd (λq=>h q.2)];unfold ao.at_ ao.set;rw[List.set_eq_of_length_le 7]
theorem CD{st:ao}{e:List V}{j:Nat}:(st.tell e).at_ j=st.at_ j:=rfl
theorem N8{st:ao}{k j:Nat}{s:Rm}(h:s.seq=(st.at_ k).seq):((st.set k s).at_ j).seq=(st.at_ j).seq:=by
 rw[ve];split
 .rename_i q;rw[h,q.1]
 .rfl
theorem iA{st:ao}{k:Nat}{s:Rm}:(st.set k s).rm.length=st.rm.length:=aKe ..
theorem CC{c:Cf}{s:Rm}{b g:Int}(h:cV c s b=!g):g∈s.seq/\g%c.sh=b%c.sh/\eV c.ru s.us c.pl (Zr c.sh (b%c.sh) s.seq) (!g):=by
 unfold cV at h;split at h
 .rename_i e;have q:=Classical.choose_spec e;rw[h]at q;by_cases l:((Zr c.sh (b%c.sh) s.seq).length:Int)<c.pl
  .exact absurd (q.1 l) 5
  .let(g',r,e',p,_,):=q.2 l;cases e';have m:=bB.mp (p.mem_iff.mp aKq);exact(m.1,m.2,q,)
 .cases h
theorem S6{c:Cf}{s:Rm}{b:Int}(h:eV c.ru s.us c.pl (Zr c.sh (b%c.sh) s.seq) none):((Zr c.sh (b%c.sh) s.seq).length:Int)<c.pl:=by
 by_cases l:((Zr c.sh (b%c.sh) s.seq).length:Int)<c.pl
 .exact l
 .let(_,_,z,_,):=h.2 l;cases z
theorem Ue{c:Cf}{seq:List Int}{b g:Int}(hf:∀t,((Zr c.sh t seq).length:Int)<=c.pl)(h:g∈seq)(e:g%c.sh=b%c.sh):((Zr c.sh (b%c.sh) (seq.erase g)).length:Int)<c.pl:=by
 have m:g∈Zr c.sh (b%c.sh) seq:=bB.mpr (h,e,);rw[JB,List.length_erase_of_mem m];have:=List.length_pos_of_mem m;have:=hf (b%c.sh);lia
structure aJ(g:aM)(st:ao):Prop where
 n3:g.n=3
 len:st.rm.length=3
 nd:∀k,(st.at_ k).seq.Nodup
 inc:∀h x,h<2->x∈(st.at_ h).seq->x∈(st.at_ 2).seq
 ff:∀k x,(st.at_ k).fr x=true->x∈(st.at_ k).seq
structure Sq(a b:ao):Prop where
 len:b.rm.length=a.rm.length
 sq:∀j,(b.at_ j).seq=(a.at_ j).seq
 ff:∀j x,(b.at_ j).fr x=true->(a.at_ j).fr x=true\/x∈(a.at_ j).seq
theorem Sq.refl{a:ao}:Sq a a:=(8,λ_=>8,λ_ _ h=>.inl h,)
theorem Sq.trans{a b c:ao}(x:Sq a b)(y:Sq b c):Sq a c:=(y.len.trans x.len,λj=>(y.sq j).trans (x.sq j),λj z h=>(y.ff j z h).elim (x.ff j z) λq=>.inr (by rw[<-x.sq];exact q),)
theorem aJ.sq{g:aM}{a b:ao}(o:aJ g a)(x:Sq a b):aJ g b:=(o.n3,x.len.trans o.len,λk=>by rw[x.sq];exact o.nd k,λh y hh hy=>by rw[x.sq]at hy ⊢;exact o.inc h y hh hy,λk y hy=>by rw[x.sq];exact(x.ff k y hy).elim (o.ff k y) id,)
section
variable{g:aM}{st:ao}{k h j:Nat}{b o x:Int}{ws:List Int}
theorem E3{s:Rm}(e:s.seq=(st.at_ k).seq)(f:∀x,s.fr x=true->(st.at_ k).fr x=true\/x∈(st.at_ k).seq):Sq st (st.set k s):=by
 refine(iA,λj=>N8 e,λj y hy=>?_,);rw[ve]at hy;split at hy
 .rename_i q;rw[q.1];exact f y hy
 .exact .inl hy
theorem Lr{e:List V}:Sq st (st.tell e):=(8,λ_=>8,λ_ _ h=>.inl h,)
theorem cj:Sq st (br g k b ws st):=by
 unfold br;split
 .exact (8,λ_=>8,λ_ _ h=>.inl h,)
 .exact (E3 (s:=pM (st.at_ k) b ws) 8 λ_ h=>.inl h).trans Lr
theorem Ud(hb:b∈(st.at_ k).seq):Sq st (vW k b st):=E3 (s:=K7 (st.at_ k) b) 8 λx hx=>by
 have hx:(if x=b then true else(st.at_ k).fr x)=true:=hx;by_cases c:x=b
 .rw [c];exact .inr hb
 .rw [aWd c]at hx;exact .inl hx
theorem S5(n:j≠k):(br g k b ws st).at_ j=st.at_ j:=by
 unfold br;split
 .rfl
 .rw [CD,ve,aWd λz=>n z.1]
theorem BZ(e:k=g.n):(br g k b ws st).at_ j=st.at_ j:=by
 unfold br;rw[aS1 e];rfl
theorem Zhz(n:j≠k):(vW k b st).at_ j=st.at_ j:=by
 unfold vW;rw[ve,aWd λz=>n z.1]
theorem Uc(n:j≠2):(bK g b ws st).at_ j=st.at_ j:=by
 unfold bK;split
 .rw [Zhz n,S5 n]
 .rw [BZ 8,S5 n]
theorem Ou(hb:b∈(st.at_ 2).seq):Sq st (bK g b ws st):=by
 unfold bK;split
 .exact cj.trans (Ud (by rw[cj.sq];exact hb))
 .exact cj.trans cj
theorem Ot(hb:b∈(st.at_ 2).seq):Sq st (fq g h b st):=by
 unfold fq;split
 .refine (Ou (ws:=(st.at_ h).wd b) hb).trans (E3 (s:=qv _ b) 8 λx hx=>?_);have hx:(if x=b then false else _)=true:=hx;by_cases c:x=b
  .rw [aS1 c]at hx;cases hx
  .rw [aWd c]at hx;exact .inl hx
 .exact Sq.refl
theorem gG(hk:k<st.rm.length):(dz k b st).at_ j=if j=k then qG (st.at_ k) b else st.at_ j:=by
 unfold dz;rw[ao.bQ (by exact hk)];rfl
theorem fS:(dz k b st).rm.length=st.rm.length:=iA
theorem bI(hk:k<st.rm.length):((dz k b st).at_ j).seq=if j=k then(st.at_ j).seq.erase b else(st.at_ j).seq:=by
 rw[gG hk];by_cases z:j=k
 .rw [aS1 z,aS1 z,z];rfl
 .rw [aWd z,aWd z]
theorem uS(hk:k<st.rm.length){y:Int}(hy:((dz k b st).at_ j).fr y=true):(st.at_ j).fr y=true/\(j=k->y≠b):=by
 rw[gG hk]at hy;by_cases z:j=k
 .rw [aS1 z]at hy;have hy:(if y=b then false else(st.at_ k).fr y)=true:=hy;by_cases c:y=b
  .rw [aS1 c]at hy;cases hy
  .rw [aWd c]at hy;rw[z];exact(hy,λ_=>c,)
 .rw [aWd z]at hy;exact(hy,λe=>absurd e z,)
theorem vV(hk:k<st.rm.length):((cM k b ws st).at_ j).seq=if j=k then(st.at_ j).seq++[b] else(st.at_ j).seq:=by
 unfold cM;rw[CD,ao.bQ hk];by_cases z:j=k
 .rw [aS1 z,aS1 z,z];rfl
 .rw [aWd z,aWd z]
theorem Oq{y:Int}:((cM k b ws st).at_ j).fr y=(st.at_ j).fr y:=by
 unfold cM;rw[CD,ve];split
 .rename_i q;rw[q.1];rfl
 .rfl
theorem qX:(cM k b ws st).rm.length=st.rm.length:=iA
theorem aJ.go(w:aJ g st)(hh:h<2):aJ g (dz h o st):=by
 have hl:h<st.rm.length:=by rw[w.len];lia
 refine(w.n3,fS.trans w.len,λk=>?_,λk y hk hy=>?_,λk y hy=>?_,)
 .rw [bI hl];split
  .exact (w.nd k).erase _
  .exact w.nd k
 .rw [bI hl,aWd 7];rw[bI hl]at hy;split at hy
  .exact w.inc k y hk (asz hy)
  .exact w.inc k y hk hy
 .let(h1,h2,):=uS hl hy;rw[bI hl];split
  .rename_i e;exact(mem_erase_of_ne (h2 e)).mpr (w.ff k y h1)
  .exact w.ff k y h1
theorem OP(w:aJ g st)(hh:h<2)(ho:o∈(st.at_ 2).seq):Sq (dz h o st) (aD g h o st):=by
 have hl:h<st.rm.length:=by rw[w.len];lia
 unfold aD;split
 .exact Ou (by rw[bI hl,aWd 7];exact ho)
 .exact Sq.refl
theorem TJ{p:ao×List Int×Bool}(hl:h<p.1.rm.length):(dP h o p).1.rm.length=p.1.rm.length/\(∀j,((dP h o p).1.at_ j).seq=if j=h then(p.1.at_ j).seq.erase o else(p.1.at_ j).seq)/\∀j y,((dP h o p).1.at_ j).fr y=true->(p.1.at_ j).fr y=true/\(j=h->o∈(p.1.at_ h).seq->y≠o):=by
 unfold dP;split
 .have e:(if(p.1.at_ h).fr o=true then(dz h o p.1,(p.1.at_ h).wd o,true) else(dz h o p.1,p.2)).1=dz h o p.1:=by split <;> rfl
  rw[e];exact(fS,λj=>bI hl,λj y hy=>by let(q1,q2,):=uS hl hy;exact(q1,λe _=>q2 e,),)
 .rename_i n;refine(8,λj=>?_,λj y hy=>(hy,λ_ m=>absurd m n,),);split
  .rename_i e;rw[e,a40 n]
  .rfl
theorem Le(l3:st.rm.length=3):(kh o st).1.rm.length=3/\(∀j,((kh o st).1.at_ j).seq=if j<3 then(st.at_ j).seq.erase o else(st.at_ j).seq)/\∀j y,((kh o st).1.at_ j).fr y=true->(st.at_ j).fr y=true/\(j<3->o∈(st.at_ j).seq->y≠o):=by
 let(a1,a2,a3,):=TJ (h:=0) (o:=o) (p:=(dz 2 o st,(st.at_ 2).wd o,(st.at_ 2).fr o)) (by show 0<(dz 2 o st).rm.length;rw[fS];lia);let(b1,b2,b3,):=TJ (h:=1) (o:=o) (p:=dP 0 o (dz 2 o st,(st.at_ 2).wd o,(st.at_ 2).fr o)) (by rw[a1];show 1<(dz 2 o st).rm.length;rw[fS];lia);have g2:=λj=>bI (k:=2) (b:=o) (st:=st) (j:=j) 7;have c2:∀j,((kh o st).1.at_ j).seq=if j<3 then(st.at_ j).seq.erase o else(st.at_ j).seq:=λj=>by
  unfold kh;rw[b2,a2];dsimp only;rw[g2];by_cases e0:j=0
  .rw [aWd 7,aS1 e0,aWd 7,aS1 7]
  .by_cases e1:j=1
   .rw [aS1 e1,aWd e0,aWd 7,aS1 7]
   .by_cases e2:j=2
    .rw [aWd e1,aWd e0,aS1 e2,aS1 7]
    .rw [aWd e1,aWd e0,aWd e2,aWd 7]
 refine(b1.trans (a1.trans (fS.trans l3)),c2,λj y hy=>?_,);let(q1,q2,):=b3 j y hy;let(q3,q4,):=a3 j y q1;let(q5,q6,):=uS 7 q3;refine(q5,λhj m=>?_,);by_cases e2:j=2
 .exact q6 e2
 .have m2:o∈((dz 2 o st).at_ j).seq:=by rw[g2,aWd e2];exact m
  by_cases e0:j=0
  .exact q4 e0 (by subst e0;exact m2)
  .have e1:j=1:=7
   refine q2 e1 ?_;subst e1;rw[a2,aWd 7];exact m2
theorem fW:Sq (kh o st).1 (rB g o st):=by
 unfold rB;split
 .exact cj
 .exact Sq.refl
theorem aJ.kh(w:aJ g st):aJ g (kh o st).1:=by
 let(h1,h2,h3,):=Le (o:=o) w.len;refine(w.n3,h1,λk=>?_,λh y hh hy=>?_,λk y hy=>?_,)
 .rw [h2];split
  .exact (w.nd k).erase _
  .exact w.nd k
 .rw [h2,aS1 7]at hy ⊢;let(n,m,):=(w.nd h).mem_erase_iff.mp hy;exact(w.nd 2).mem_erase_iff.mpr (n,w.inc h y hh m,)
 .let(q1,q2,):=h3 k y hy;have m:=w.ff k y q1;rw[h2];split
  .rename_i c;refine(w.nd k).mem_erase_iff.mpr (λe=>?_,m,);exact q2 c (by rw[<-e];exact m) e
  .exact m
theorem aJ.roomF(w:aJ g st):aJ g (roomF g b st)/\∀j,∀y∈((bL.roomF g b st).at_ j).seq,y∈(st.at_ j).seq:=by
 unfold bL.roomF;split
 .exact (w,λ_ _ h=>h,)
 .rename_i o _;refine(w.kh.sq fW,λj y hy=>?_,);rw[fW.sq,(Le w.len).2.1]at hy;split at hy
  .exact asz hy
  .exact hy
theorem aJ.IQ(w:aJ g st)(hb:b∉(st.at_ 2).seq):aJ g (cM 2 b ws st):=by
 have hl:2<st.rm.length:=by rw[w.len];lia
 refine(w.n3,qX.trans w.len,λk=>?_,λh y hh hy=>?_,λk y hy=>?_,)
 .rw [vV hl];split
  .rename_i e;rw[e];exact Fd (w.nd 2) hb
  .exact w.nd k
 .rw [vV hl,aWd 7]at hy;rw[vV hl,aS1 8];exact a8E _ (w.inc h y hh hy)
 .rw [Oq]at hy;rw[vV hl];split
  .exact a8E _ (w.ff k y hy)
  .exact w.ff k y hy
theorem aJ.IP(w:aJ g st)(hh:h<2)(hb:b∉(st.at_ h).seq)(h2:b∈(st.at_ 2).seq):aJ g (cM h b ws st):=by
 have hl:h<st.rm.length:=by rw[w.len];lia
 refine(w.n3,qX.trans w.len,λk=>?_,λk y hk hy=>?_,λk y hy=>?_,)
 .rw [vV hl];split
  .rename_i e;rw[e];exact Fd (w.nd h) hb
  .exact w.nd k
 .rw [vV hl,aWd 7];rw[vV hl]at hy;split at hy
  .rcases bdf.mp hy with hy|hy
   .exact w.inc k y hk hy
   .rw [aU2.mp hy];exact h2
  .exact w.inc k y hk hy
 .rw [Oq]at hy;rw[vV hl];split
  .exact a8E _ (w.ff k y hy)
  .exact w.ff k y hy
theorem aJ.use(w:aJ g st)(hb:b∈(st.at_ k).seq){e:List V}:aJ g ((st.tell e).set k (kM (g.cf k) (st.at_ k) b)):=by
 have pm:=Fi (c:=g.cf k) hb;have at':∀j,((st.tell e).set k (kM (g.cf k) (st.at_ k) b)).at_ j=if j=k/\k<st.rm.length then kM (g.cf k) (st.at_ k) b else st.at_ j:=λj=>ve
 have me:∀j y,y∈(((st.tell e).set k (kM (g.cf k) (st.at_ k) b)).at_ j).seq↔y∈(st.at_ j).seq:=λj y=>by
  rw[at'];split
  .rename_i q;rw[q.1];exact pm.mem_iff
  .rfl
 refine(w.n3,iA.trans w.len,λj=>?_,λj y hj hy=>(me 2 y).mpr (w.inc j y hj ((me j y).mp hy)),λj y hy=>(me j y).mpr ?_,)
 .rw [at'];split
  .exact pm.nodup_iff.mpr (w.nd k)
  .exact w.nd j
 .rw [at']at hy;split at hy
  .rename_i q;rw[q.1];exact w.ff k y hy
  .exact w.ff j y hy
theorem aJ.g6(w:aJ g st):aJ g (g6 g b st)/\b∈((bL.g6 g b st).at_ 2).seq/\∀j,j<2->∀y∈((bL.g6 g b st).at_ j).seq,y∈(st.at_ j).seq:=by
 unfold bL.g6;split
 .rename_i hb;refine(w.use hb,?_,λj hj y hy=>?_,)
  .rw [ve,aS1 (8,by show 2<st.rm.length;rw[w.len];lia,)];exact(Fi hb).mem_iff.mpr hb
  .rw [ve,aWd 7]at hy;exact hy
 .rename_i hb;let(h1,h2,):=(w.sq (Lr (e:=eF g.n))).roomF (b:=b);have hl:2<(bL.roomF g b (st.tell (eF g.n))).rm.length:=by rw[h1.len];lia
  refine(h1.IQ λz=>hb (h2 2 b z),?_,λj hj y hy=>?_,)
  .rw [vV hl,aS1 8];exact a2D _ (aU2.mpr 8)
  .rw [vV hl,aWd 7]at hy;exact h2 j y hy
theorem aJ.aU(w:aJ g st)(hh:h<2):aJ g (aU g h b st)/\(∀y∈((bL.aU g h b st).at_ h).seq,y∈(st.at_ h).seq)/\∀j,j≠h->((bL.aU g h b st).at_ j).seq=(st.at_ j).seq:=by
 have hl:h<st.rm.length:=by rw[w.len];lia
 unfold bL.aU;split
 .exact (w,λ_ z=>z,λ_ _=>8,)
 .rename_i o e;have s:=OP (g:=g) w hh (w.inc h o hh (CC e).1);refine((w.go hh).sq s,λy hy=>?_,λj hj=>?_,)
  .rw [s.sq,bI hl,aS1 8]at hy;exact asz hy
  .rw [s.sq,bI hl,aWd hj]
theorem aJ.iY(w:aJ g st)(hh:h<2)(hb:b∉(st.at_ h).seq)(h2:b∈(st.at_ 2).seq):aJ g (iY g h b st)/\b∈((bL.iY g h b st).at_ h).seq/\∀j,j≠h->((bL.iY g h b st).at_ j).seq=(st.at_ j).seq:=by
 let(r1,r2,r3,):=w.aU (b:=b) hh;have hl:h<(bL.aU g h b st).rm.length:=by rw[r1.len];lia
 unfold bL.iY;refine(r1.IP hh (λz=>hb (r2 b z)) (by rw[r3 2 7];exact h2),?_,λj hj=>?_,)
 .rw [vV hl,aS1 8];exact a2D _ (aU2.mpr 8)
 .rw [vV hl,aWd hj,r3 j hj]
theorem aJ.cL(w:aJ g st)(hh:h<2):aJ g (cL g h b st)/\b∈((bL.cL g h b st).at_ h).seq:=by
 unfold bL.cL;split
 .rename_i hb;refine(w.use hb,?_,);rw[ve,aS1 (8,by show h<st.rm.length;rw[w.len];lia,)];exact(Fi hb).mem_iff.mpr hb
 .rename_i hb;let(f1,f2,f3,):=w.g6 (b:=b);have s:=Ot (g:=g) (h:=1-h) f2;let(i1,i2,_,):=(f1.sq s).iY hh (λz=>hb (f3 h hh b (by rw[s.sq]at z;exact z))) (by rw[s.sq];exact f2);exact(i1,i2,)
theorem aJ.cu(w:aJ g st)(hh:h<2):aJ g (cu h b st)/\((bL.cu h b st).at_ h).seq=(st.at_ h).seq:=by
 unfold bL.cu;split
 .exact (w.go 7,by rw[bI (by rw[w.len];lia),aWd 7],)
 .exact (w,8,)
theorem aJ.mark(w:aJ g st)(hh:h<2)(hb:b∈(st.at_ h).seq):aJ g (markB g h b st):=by
 unfold markB;split
 .exact w.sq (Ud hb)
 .exact w.sq (Ou (w.inc h b hh hb))
theorem aJ.fX(w:aJ g st):aJ g (fX st):=w.sq (8,λ_=>8,λ_ _ h=>.inl h,)
end
inductive nV(K:W.Frag)(vs:List V)(H:Hp)(Q:VK)(E:XK):Prop
 |mk (a:SA) (c:Cf) (s:Rm) (O:Addr->Prop) (b:Int):vs=[.ref a.sp,.int b]->ay K H a c s O->Q (.bl (s.fr b)) H->nV K vs H Q E
example:(iP FY):=by
 let(a,c,s,O,b,rfl,S,k,):=h;refine(_,(Zg (Zs (Og (SQ hu (pv 1) (Zk (K:=K) 8 (pv 0) 8))))),?_,);let(dx,h1,):=S.aO.ob;let(kf,h4,h5,h6,):=S.fresh;refine(121,a.sp,_,dx,109,h1,T.dO,T.EH,Jq ..,a.df,_,8,d8.k (k:=Sum.inl b) h4,?_,);rw[h6 b];cases c:s.fr b with
 |true=>rw[c]at k;rw[aS1 8];exact k
 |false=>rw[c]at k;rw[aWd aqS];exact k
inductive qj(K:W.Frag)(vs:List V)(H:Hp)(Q:VK)(E:XK):Prop
 |mk (a:SA) (c:Cf) (s:Rm) (O:Addr->Prop) (b:Int):vs=[.ref a.sp,.int b]->ay K H a c s O->s.fr b=true->(∀H',ay K H' a c (qv s b) O->bM O H H' O->Q .aN H')->qj K vs H Q E
example:(j4 FP):=by
 let(a,c,s,O,b,rfl,S,hb,k,):=h;refine(_,(Zg (Zn (O8 (Zk (K:=K) 8 (pv 0) 8) (pv 1) (8,8,8,8,)))),?_,);let(dx,h1,):=S.aO.ob;let(kvs,wl,h3,):=S.held;let(kf,h4,h5,h6,):=S.fresh;refine(_,8,a.sp,_,dx,109,h1,T.dO,T.EH,Jq ..,a.df,8,.inl (_,.inl h4,),_,8,kf,Sum.inl b,_,h4,8,(by rw[h6 b,aS1 hb]),?_,);have S2:=S.aO.put (x:=a.df) (.inr 8) (aW kf (Sum.inl b));refine k _ (S2,(kvs,wl,by rw[Zc (aBl S.aO.n2)];exact h3.dc,h3.ki,h3.v,λx m=>(by rw[Zc (λz=>by have q:=(h3.at_ x m).1;rw[z,h4]at q;cases q)];exact(h3.at_ x m).1,(h3.at_ x m).2,),h3.inj,),(_,Za,h5.drop b,λx=>?_,),λx h=>?_,) (S.aO.ya (x:=a.df) (.inr 8) _)
 .rw [Jr];show _=if(if x=b then false else s.fr x)=true then _ else _
  by_cases z:x=b
  .rw [aS1 (by rw[z]),aS1 z,aWd aqS]
  .rw [aWd (λq=>z (aCk q)),h6 x,aWd z]
 .have h:(if x=b then false else s.fr x)=true:=h;by_cases z:x=b
  .rw [aS1 z]at h;cases h
  .rw [aWd z]at h;exact S.yJ x h
def zF(H:Hp)(t:Addr)(c:Cf):Prop:=∃wr:Str,H t=!(.tup [.int c.sh,.int c.pl,.str c.ru,.str wr])/\c.late=decide (wr ="late")/\Wr wr/\1<=c.sh/\c.sh<=64/\1<=c.pl/\c.pl<=16/\yX c.ru
theorem zF.frame{H H':Hp}{t:Addr}{c:Cf}(r:zF H t c)(f:∀x ys,H x=!(.tup ys)->H' x=!(.tup ys)):zF H' t c:=by
 let(wr,e,r,):=r;exact(wr,f _ _ e,r,)
inductive xG(K:W.Frag)(vs:List V)(H:Hp)(Q:VK)(E:XK):Prop
 |mk (p dx tn tf:Addr) (size:Int) (cn cf:Cf):vs=[.ref p,.int size,.ref tn,.ref tf]->H p=!(.ins (af K "Beside") dx [])->zF H tn cn->zF H tf cf->Tb K H->(∀(A:TA)(os:OS)(H':Hp),A.p=p->(∀U,WF (size,"",[cn,cn,cf],U,)->aa K H' A (size,"",[cn,cn,cf],U,) (yW 3) os 0)->(∀x,OW A os x->x≠p->H x=none)->(∀b o,H b=!o->b≠p->H' b=!o)->Q .aN H')->xG K vs H Q E
example:(lN HK F5):=by
 let(p,dx,tn,tf,size,cn,cf,rfl,hp,pn,pf,tb,q,):=h;refine(_,(Zg (Zn (ZjQ F5 hr.m 8 (pc (pv 0) (pc (pv 1) (pc (ZJ (pc (pv 2) (pc (pv 2) (pc (pv 3) Zb)))) Zb)))))),?_,);refine(1465,(sL 3),λtp htp=>?_,);have s1:=Zf htp (.tup [V.ref tn,V.ref tn,V.ref tf]);have RT:=Za (H:=H) (a:=tp) (o:=.tup [V.ref tn,V.ref tn,V.ref tf]);generalize upd H tp (.tup [V.ref tn,V.ref tn,V.ref tf])=H1 at *;let(wn,en,n1,n2,n3,n4,n5,n6,n7,):=pn.frame λx ys e=>s1 _ _ e;let(wf,ef,f1,f2,f3,f4,f5,f6,f7,):=pf.frame λx ys e=>s1 _ _ e;have pa:jz K H1 tp [tn,tn,tf] [cn,cn,cf]:=by
  refine(RT,8,λi t c h1 h2=>?_,λc hc=>?_,)
  .match i,h1,h2 with
   |0,h1,h2=>cases h1;cases h2;exact(wn,en,n1,n2,)
   |1,h1,h2=>cases h1;cases h2;exact(wn,en,n1,n2,)
   |2,h1,h2=>cases h1;cases h2;exact(wf,ef,f1,f2,)
   |i+3,h1,_=>cases h1
  .simp only[as2,af0,aRi]at hc;rcases hc with rfl|rfl|rfl
   .exact (n3,n4,n5,n6,n7,)
   .exact (n3,n4,n5,n6,n7,)
   .exact (f3,f4,f5,f6,f7,)
 refine(p,dx,tp,size,109,s1 _ _ hp,pa,aIs 8,tb.same s1,λA os H2 ep h1 RS f1 k1=>?_,);have e:∀kind,upd H2 p (.ins (af K "Beside") dx (bA size A.ss A.bm A.as.length A.ev kind))=H2:=λkind=>funext λx=>by
  by_cases z:x=p
  .rw [z,Za,h1];rfl
  .rw [Zc z]
 exact q A os _ ep (λU wf=>by have R:=RS "" U wf;rw[e]at R;exact R) (λx h n=>s1.free (f1 x h n)) λx o e n=>k1 x o (s1 _ _ e) n
inductive ur(K:W.Frag)(vs:List V)(H:Hp)(Q:VK)(E:XK):Prop
 |mk (A:TA) (g:aM) (st:ao) (os:OS) (n:Nat) (b:Int) (lw:Addr) (ws:List Int):vs=[.ref A.p,.int b,.ref lw]->aa K H A g st os n->g.n=3->b∈(st.at_ 2).seq->H lw=!(.lst (ws.map V.int))->(¬OW A os lw)->ws.length=g.size.toNat->n<=800000->Res K H A g os (bK g b ws st) (n+2) (Q .aN)->ur K vs H Q E
example:(gW xY wC BY):=by
 let(A,g,st,os,n,b,lw,ws,rfl,R,g3,hb,pZ,nO,yp,hn,q,):=h;refine(_,(Ze (Zn (Zj wC hr.m T.aK (pv 0) (pc (ZZ T.vq 8) (pc (pv 1) (pc (pv 2) Zb)))))
   (Ze (cO 3 nd (ak (Zm (K:=K) 8) (Zk (K:=K) 8 (pv 0) 8) (ZZ T.vq 8) (λ_ _=>8)))
   (Zg (aF (ZI (Zk (K:=K) 8 (pv 3) 8)) (Zg (Zn (Zj BY hr.m T.dO (pv 3) (pc (pv 1) Zb)))) (Zg (Zn (Zj wC hr.m T.aK (pv 0) (pc (Zk (K:=K) 8 (pv 0) 8) (pc (pv 1) (pc (pv 2) Zb)))))))))),?_,)
 let(dx,h1,):=R.ob;have ln:=R.ln;have bU:b∈g.U:=((R.lZ (k:=2) 7).2.1 b hb).1;unfold bK at q;refine(_,8,A.p,dx,_,8,h1,az ..,121,A,g,st,os,n,2,b,lw,ws,8,R,7,λ_=>hb,bU,pZ,nO,yp,7,λH1 eU R1 p1=>?_,);have hb1:b∈((br g 2 b ws st).at_ 2).seq:=by rw[cj.sq];exact hb
 let(Nx,XF,):=p1.out pZ nO;let(gI,g1,):=R1.ob;let(a,e1,e2,e3,B,):=R1.at_ (k:=2) 7;let(u1,u2,u3,u4,u5,u6,):=R1.lZ (k:=2) 7;let(ds,h3,):=B.aO.ob;refine(_,8,A.p,_,gI,109,g1,T.aK,T.qE,ZB ..,A.ss,135,au.of R1.ss,aa.ix e1,gN ?_,);try dsimp only
 refine(_,8,a.sp,_,ds,109,h3,T.dO,T.Ng,Tc ..,_,8,?_,);by_cases c:(g.cf 2).late=true
 .rw [aS1 c]at q;refine dQ c (_,8,a.sp,ds,_,8,h3,bS ..,_,8,a,108,b,8,B,hb1,u1,λG3 B3 p3=>?_,);let(R3,p4,):=R1.iZ e1 e2 B3 p3 u2 u3;exact q _ _ (R3.le 7) (p1.trans p4)
 .rw [aWd c]at q;exact cB (by simpa using c) (_,8,A.p,gI,_,8,g1,az ..,_,8,A.p,_,gI,109,g1,T.aK,T.zo,AZ ..,121,A,g,_,eU,_,g.n,b,lw,ws,by rw[ln];rfl,R1,amA _,λh=>absurd h (aUJ _),bU,Nx,XF,yp,7,λG2 gF R2 p2=>q _ _ (R2.le 7) (p1.trans p2),)
inductive qm(K:W.Frag)(vs:List V)(H:Hp)(Q:VK)(E:XK):Prop
 |mk (A:TA) (g:aM) (st:ao) (os:OS) (n h:Nat) (o:Int):vs=[.ref A.p,.int (h:Int),.int o]->aa K H A g st os n->g.n=3->h<2->o∈(st.at_ h).seq->o∈(st.at_ 2).seq->n<=700000->Res K H A g os (aD g h o st) (n+3) (Q .aN)->qm K vs H Q E
example:(fQ BS sF xY):=by
 let(A,g,st,os,n,h,o,rfl,R,g3,hh,ho,h2,hn,q,):=h;refine(_,(Ze (tK (Zj sF hr.m T.aK (pv 0) (pc (pv 1) (pc (pv 2) Zb))) (ZH (K:=K) (n:=2) 8 8 (Zo (bG 3 nd) (Zo (bG 4 nd) ZF))))
   (Zg (aF (ZI (pv 4)) (Zg (Zn (Zj xY hr.m T.aK (pv 0) (pc (pv 2) (pc (pv 3) Zb))))) Zu))),?_,)
 let(dx,h1,):=R.ob;have ln:=R.ln;have lS:=R.lS;have lw:=((R.lZ (k:=h) 7).2.1 o ho).2;unfold aD at q;refine(_,8,A.p,dx,_,8,h1,az ..,121,A,g,st,os,n,h,o,8,R,7,ho,7,λH1 eU t l et el nl R1 p1=>(t,_,8,aX.of et,125,gN (109,gN (8,?_,),),),);try dsimp only
 let(gI,g1,):=R1.ob;cases fr:(st.at_ h).fr o with
 |true=>
  rw[aS1 fr]at q;exact(121,dQ 8 (_,8,A.p,gI,_,8,g1,az ..,121,A,g,_,eU,_,o,l,_,8,R1,g3,by rw[bI 7,aWd 7];exact h2,el,nl,lw,7,λH2 gF R2 p2=>q _ _ (R2.le 7) (p1.trans p2),),)
 |false=>
  rw[aWd (by rw[fr];exact aqS)]at q;exact(121,cB 8 (q _ _ (R1.le 7) p1),)
inductive nS(K:W.Frag)(vs:List V)(H:Hp)(Q:VK)(E:XK):Prop
 |mk (A:TA) (g:aM) (st:ao) (os:OS) (n h:Nat) (b:Int):vs=[.ref A.p,.int (h:Int),.int b]->aa K H A g st os n->g.n=3->h<2->b∈(st.at_ 2).seq->n<=700000->Res K H A g os (fq g h b st) (n+2) (Q .aN)->nS K vs H Q E
example:(eY GI FY sI xY FP):=by
 let(A,g,st,os,n,h,b,rfl,R,g3,hh,h2,hn,q,):=h;refine(_,(Ze (cO 3 nd (ak (Zm (K:=K) 8) (Zk (K:=K) 8 (pv 0) 8) (pv 1) (λ_ _=>8)))
   (Zg (aF (ZI (Zj FY hr.m T.dO (pv 3) (pc (pv 2) Zb))) (Ze (Zn (Zj xY hr.m T.aK (pv 0) (pc (pv 2) (pc (Zj sI hr.m T.dO (pv 3) (pc (pv 2) Zb)) Zb))))
   (Zg (Zn (Zj FP hr.m T.dO (pv 3) (pc (pv 2) Zb))))) Zu))),?_,)
 let(dx,h1,):=R.ob;have ln:=R.ln;let(a,e1,e2,e3,B,):=R.at_ (k:=h) 7;let(u1,u2,u3,u4,u5,u6,):=R.lZ (k:=h) 7;let(ds,h3,):=B.aO.ob;unfold fq at q;refine(_,8,A.p,_,dx,109,h1,T.aK,T.qE,ZB ..,_,8,A.ss,135,au.of R.ss,aa.ix e1,gN ?_,);try dsimp only
 refine(_,8,a.sp,ds,_,8,h3,bS ..,_,8,a,108,b,8,B,_,8,?_,);cases fr:(st.at_ h).fr b with
 |true=>
  rw[aS1 fr]at q;have hb:b∈(st.at_ h).seq:=B.yJ b fr;refine dQ 8 (_,8,A.p,dx,_,8,h1,az ..,121,a.sp,ds,_,8,h3,bS ..,_,8,a,108,b,8,B,hb,λl hl=>?_,);have sm:=Zf hl (.lst (((st.at_ h).wd b).map V.int));refine(A,g,st,os,n,b,l,_,8,R.same sm,g3,h2,Za,R.fresh hl,(u2 b hb).2,7,λH2 gF R2 p2=>?_,);let(a2,f1,f2,f3,B2,):=R2.at_ (k:=h) 7;rw[e1]at f1;cases f1;let(v1,v2,v3,v4,v5,v6,):=R2.lZ (k:=h) 7;let(d2,h4,):=B2.aO.ob;refine(_,8,a.sp,d2,_,8,h4,bS ..,_,8,a,108,b,8,B2,by rw[Uc 7];exact fr,λG3 B3 p3=>?_,);let(R3,p4,):=R2.iZ e1 f2 B3 p3 v2 v3;exact q _ _ (R3.le 7) (((bM.same sm).trans p2).trans p4)
 |false=>
  rw[aWd (by rw[fr];exact aqS)]at q;exact cB 8 (q _ _ (R.le 7) (bM.same (aA.refl _)))
section
variable{g:aM}{st:ao}{h:Nat}{b o:Int}
theorem ZfU(w:aJ g st)(full:∀t,((Zr (g.cf 2).sh t (st.at_ 2).seq).length:Int)<=(g.cf 2).pl)(gp:eV (g.cf 2).ru (st.at_ 2).us (g.cf 2).pl (Zr (g.cf 2).sh (b%(g.cf 2).sh) (st.at_ 2).seq) (cV (g.cf 2) (st.at_ 2) b)):((Zr (g.cf 2).sh (b%(g.cf 2).sh) ((roomF g b st).at_ 2).seq).length:Int)<(g.cf 2).pl:=by
 unfold roomF;split
 .rename_i e;rw[e]at gp;exact S6 gp
 .rename_i o e;let(m1,m2,_,):=CC e;rw[fW.sq,(Le w.len).2.1,aS1 7];exact Ue full m1 m2
theorem ZfV(w:aJ g st)(hh:h<2)(full:∀t,((Zr (g.cf h).sh t (st.at_ h).seq).length:Int)<=(g.cf h).pl)(gp:eV (g.cf h).ru (st.at_ h).us (g.cf h).pl (Zr (g.cf h).sh (b%(g.cf h).sh) (st.at_ h).seq) (cV (g.cf h) (st.at_ h) b)):((Zr (g.cf h).sh (b%(g.cf h).sh) ((aU g h b st).at_ h).seq).length:Int)<(g.cf h).pl:=by
 unfold aU;split
 .rename_i e;rw[e]at gp;exact S6 gp
 .rename_i o e;let(m1,m2,_,):=CC e;rw[(OP (g:=g) w hh (w.inc h o hh m1)).sq,bI (by rw[w.len];lia),aS1 8];exact Ue full m1 m2
end
inductive qo(K:W.Frag)(vs:List V)(H:Hp)(Q:VK)(E:XK):Prop
 |mk (A:TA) (g:aM) (st:ao) (os:OS) (n:Nat) (o:Int):vs=[.ref A.p,.int o]->aa K H A g st os n->g.n=3->o∈(st.at_ 2).seq->n<=700000->Res K H A g os (rB g o st) (n+4) (Q .aN)->qo K vs H Q E
example:(gh F2 sF uI wC):=by
 let(A,g,st,os,n,o,rfl,R,g3,ho,hn,q,):=h;refine(_,(Ze (tK (Zj sF hr.m T.aK (pv 0) (pc (ZZ T.vq 8) (pc (pv 1) Zb))) (ZH (K:=K) (n:=2) 8 8 (Zo (bG 2 nd) (Zo (bG 3 nd) ZF))))
   (Ze (vd a49 8 (Lz (K:=K) 8 (Uj (K:=K) 8 T.KY 8)) (bG 4 nd) (Zg (aF (ZI (Zj uI hr.m T.dO (ak (Zm (K:=K) 8) (Zk (K:=K) 8 (pv 0) 8) (pv 4) (λ_ _=>8)) (pc (pv 1) Zb))) (Ze (tK (Zj sF hr.m T.aK (pv 0) (pc (pv 4) (pc (pv 1) Zb))) (ZH (K:=K) (n:=2) 8 8 (Zo (bG 05 nd) (Zo (bG 06 nd) ZF))))
   (Zg (aF (ZI (pv 06)) (Zg (Of (i:=2) (j:=3) 8 nd 8 8 9 8 8 (pc (pv 05) (pc fN Zb)) 8)) Zu))) Zu)))
   (Zg (aF (ZI (pv 3)) (Zg (Zn (Zj wC hr.m T.aK (pv 0) (pc (Zk (K:=K) 8 (pv 0) 8) (pc (pv 1) (pc (pv 2) Zb)))))) Zu)))),?_,)
 let(dx,h1,):=R.ob;have ln:=R.ln;have lS:=R.lS;let(oU,lw,):=(R.lZ (k:=2) 7).2.1 o ho;refine(_,8,A.p,dx,_,8,h1,az ..,_,8,A,g,st,os,n,2,o,8,R,7,ho,7,λH1 eU t l et el nl R1 p1=>(t,_,8,aX.of et,125,gN (109,gN (8,?_,),),),);try dsimp only
 refine λhd DY=>(hd,8,(_,DY _,),OE (K:=K) (a:=hd) (xs:=([0,1]:List Int).map V.int) (λi σ G=>∃(v4 v5 v6:Option V)(l':Addr)(os':OS),σ=[!(.ref A.p),!(.int o),!(.ref l'),!(.bl (zu o st i).2.2),v4,v5,v6]/\aa K G A g (zu o st i).1 os' (n+1+i)/\bM (OW A os) H G (OW A os')/\G l'=!(.lst ((zu o st i).2.1.map V.int))/\¬OW A os' l'/\(zu o st i).2.1.length=g.size.toNat)
  (108,l,eU,8,R1,p1,el,nl,lw,) (λi σ G _ _=>DY _) ?_ ?_,)
 .rintro i x σ G hi ⟨v4,v5,v6,l',os',rfl,R2,p2,II,KD,AA⟩;have hi2:i<2:=(au3.mp hi).1;have hx:x=.int (i:Int):=by
   have h:i=0\/i=1:=7
   rcases h with rfl|rfl
   .exact (aZC hi).symm
   .exact (aZC hi).symm
  subst hx;refine gN ?_;try dsimp only
  let(nv,g2,):=R2.ob;let(a,e1,e2,e3,B,):=R2.at_ (k:=i) 7;let(ds,h3,):=B.aO.ob;refine(_,8,A.p,_,nv,109,g2,T.aK,T.qE,ZB ..,_,8,A.ss,135,au.of R2.ss,aa.ix e1,a.sp,ds,_,8,h3,bS ..,_,8,a,108,o,8,B,_,8,?_,);have es:zu o st (i+1)=dP i o (zu o st i):=8;unfold dP at es;by_cases m:o∈((zu o st i).1.at_ i).seq
  .rw [aS1 m]at es;have XR:=((R2.lZ (k:=i) 7).2.1 o m).2;refine dQ (a7Y m) (_,8,A.p,nv,_,8,g2,az ..,121,A,g,_,os',_,i,o,8,R2,7,m,7,λH3 fO t3 l3 YV Y0 Xz R3 p3=>(t3,_,8,aX.of YV,125,gN (109,gN (8,?_,),),),);try dsimp only
   let(YZ,Xy,):=p3.out II KD;cases fr:((zu o st i).1.at_ i).fr o with
   |true=>
    rw[aS1 fr]at es;refine(121,dQ 8 (141,?_,),);refine(108,l3,fO,by rw[es];rfl,by rw[es];exact R3.le 7,p2.trans p3,by rw[es];exact Y0,Xz,by rw[es];exact XR,)
   |false=>
    rw[aWd (by rw[fr];exact aqS)]at es;refine(121,cB 8 ?_,);refine(108,l',fO,by rw[es];rfl,by rw[es];exact R3.le 7,p2.trans p3,by rw[es];exact YZ,Xy,by rw[es];exact AA,)
  .rw [aWd m]at es;exact cB (alm m) (108,l',os',by rw[es];rfl,by rw[es];exact R2.le 7,p2,by rw[es];exact II,KD,by rw[es];exact AA,)
 .rintro σ G ⟨v4,v5,v6,l',os',rfl,R2,p2,II,KD,AA⟩;have e2:zu o st (([0,1]:List Int).map V.int).length=kh o st:=8;rw[e2]at R2 II AA ⊢;let(nv,g2,):=R2.ob;unfold rB at q;cases fr:(kh o st).2.2 with
  |true=>
   rw[aS1 fr]at q;exact(121,dQ 8 (_,8,A.p,nv,_,8,g2,az ..,_,8,A.p,_,nv,109,g2,T.aK,T.zo,AZ ..,121,A,g,_,os',_,g.n,o,l',_,by rw[ln];rfl,R2,amA _,λh=>absurd h (aUJ _),oU,II,KD,AA,by show n+1+2<=900000;lia,λH4 sN R4 p4=>q _ _ (R4.le (by show n+1+2+1<=n+4;lia)) (p2.trans p4),),)
  |false=>
   rw[aWd (by rw[fr];exact aqS)]at q;exact(121,cB 8 (q _ _ (R2.le (by show n+1+2<=n+4;lia)) p2),)
inductive xB(K:W.Frag)(vs:List V)(H:Hp)(Q:VK)(E:XK):Prop
 |mk (A:TA) (g:aM) (st:ao) (os:OS) (n:Nat) (b:Int):vs=[.ref A.p,.int b]->aa K H A g st os n->aJ g st->b∈g.U->n<=600000->Res K H A g os (g6 g b st) (n+06) (Q .aN)->xB K vs H Q E
example:(gj F1 uI Ai BV BU F2 BX xV):=by
 let(A,g,st,os,n,b,rfl,R,ok,bU,hn,q,):=h;refine(_,(Ze (aF (ZI (Zj uI hr.m T.dO (ak (Zm (K:=K) 8) (Zk (K:=K) 8 (pv 0) 8) (ZZ T.vq 8) (λ_ _=>8)) (pc (pv 1) Zb))) (Ze (Zn (Zj Ai hr.m T.aK (pv 0) (pc (ZZ T.vq 8) Zb)))
   (Ze (Zn (Zj BV hr.m T.aK (pv 0) (pc (ZZ T.vq 8) (pc (pv 1) Zb))))
   (Zg TU))) Zu)
   (Ze (Zn (Zj Ai hr.m T.aK (pv 0) (pc (Zk (K:=K) 8 (pv 0) 8) Zb)))
   (Ze (cO 2 nd (Zj BU hr.m T.aK (pv 0) (pc (ZZ T.vq 8) (pc (pv 1) Zb))))
   (Ze (aF (Ln (LC (pv 2))) (Zg (Zn (Zj F2 hr.m T.aK (pv 0) (pc (pv 2) Zb)))) Zu)
   (Zg (Zn (Zj BX hr.m T.aK (pv 0) (pc (ZZ T.vq 8) (pc (pv 1) (pc (Zj xV hr.m T.aK (pv 0) (pc (Zk (K:=K) 8 (pv 0) 8) (pc (pv 1) Zb))) Zb)))))))))),?_,)
 let(dx,h1,):=R.ob;have ln:=R.ln;have lS:=R.lS;have g3:=ok.n3;let(b0,b1,):=R.wf.ub b bU;let(a,e1,e2,e3,B,):=R.at_ (k:=2) 7;let(u1,u2,u3,u4,u5,u6,):=R.lZ (k:=2) 7;let(ds,h3,):=B.aO.ob;unfold g6 at q;refine hide λw1 x1=>?_;refine(_,8,A.p,_,dx,109,h1,T.aK,T.qE,ZB ..,A.ss,135,au.of R.ss,aa.ix e1,a.sp,ds,_,8,h3,bS ..,_,8,a,108,b,8,B,_,8,?_,);by_cases m:b∈(st.at_ 2).seq
 .rw [aS1 m]at q;refine dQ (a7Y m) (_,8,A.p,dx,_,8,h1,az ..,A,g,st,os,n,2,8,R,7,7,λH1 eU R1 p1=>?_,);let(gI,g1,):=R1.ob;exact(_,8,A.p,gI,_,8,g1,az ..,_,8,A,g,_,eU,_,2,b,8,R1,7,m,λH2 gF R2 p2=>q _ _ (R2.le 7) (p1.trans p2),)
 .rw [aWd m]at q;refine cB (alm m) ?_;subst x1;try dsimp only
  dsimp only[dB];refine(_,8,A.p,dx,_,8,h1,az ..,_,8,A.p,_,dx,109,h1,T.aK,T.zo,AZ ..,A,g,st,os,n,g.n,by rw[ln];rfl,R,amA _,7,λH1 eU R1 p1=>?_,);let(gI,g1,):=R1.ob;have Hh:=ok.sq (Lr (e:=eF g.n));have IA:∀t,((Zr (g.cf 2).sh t ((st.tell (eF g.n)).at_ 2).seq).length:Int)<=(g.cf 2).pl:=u3;have m1:b∉((st.tell (eF g.n)).at_ 2).seq:=m;generalize st.tell (eF g.n)=st1 at *;try dsimp only
  refine hide λw1 x1=>?_;refine(_,8,A.p,gI,_,8,g1,az ..,_,8,A,g,st1,eU,_,2,b,8,R1,7,λH2 s2 gp=>gN ?_,);subst x1;try dsimp only
  have R2:=R1.same s2;have rf:=ZfU Hh IA gp;let(Xa,C8,):=Hh.roomF (b:=b);refine D5 (λσ G=>σ=[!(.ref A.p),!(.int b),!(vF (cV (g.cf 2) (st1.at_ 2) b))]/\∃gF,aa K G A g (roomF g b st1) gF (n+1+4)/\bM (OW A eU) H2 G (OW A gF)) (λD' _ k'=>?_) ?_
  .let(nv,g2,):=R2.ob;cases eg:cV (g.cf 2) (st1.at_ 2) b with
   |none=>
    have el:roomF g b st1=st1:=by unfold roomF;rw[eg]
    rw[eg,el]at k';exact(121,cB 8 (k' _ _ (8,eU,R2.le 7,bM.same (aA.refl _),)),)
   |some go=>
    have el:roomF g b st1=rB g go st1:=by unfold roomF;rw[eg]
    rw[eg,el]at k';exact(121,dQ 8 (_,8,A.p,nv,_,8,g2,az ..,_,8,A,g,st1,eU,_,go,8,R2,g3,(CC eg).1,7,λH3 fO R3 p3=>k' _ _ (8,fO,R3,p3,),),)
  rintro _ G ⟨rfl,fO,R3,p3⟩;let(uU,yH,):=R3.ob;refine(_,8,A.p,uU,_,8,yH,az ..,121,A.p,uU,_,8,yH,az ..,_,8,A.p,_,uU,109,yH,T.aK,T.zo,AZ ..,_,8,A,g,_,fO,_,g.n,b,by rw[ln];rfl,R3,amA _,λh=>absurd h (aUJ _),b0,b1,λlw H4 pZ s4 ew=>?_,);have R4:=R3.same s4;have NQ:Cy g (roomF g b st1) g.n b=aV g.size (roomF g b st1).mem b:=aS1 8;rw[NQ]at ew;exact(A,g,_,fO,_,2,b,lw,_,8,R4,7,λz=>m1 (C8 2 b z),bU,rf,ew,R3.fresh pZ,by unfold aV;rw[aHJ,aJu],7,λH5 Qp R5 p5=>q _ _ (R5.le 7) (((p1.trans (bM.same s2)).trans p3).trans ((bM.same s4).trans p5)),)
inductive xC(K:W.Frag)(vs:List V)(H:Hp)(Q:VK)(E:XK):Prop
 |mk (A:TA) (g:aM) (st:ao) (os:OS) (n h:Nat) (b:Int):vs=[.ref A.p,.int (h:Int),.int b]->aa K H A g st os n->aJ g st->h<2->b∈g.U->n<=500000->Res K H A g os (cL g h b st) (n+12) (Q .aN)->xC K vs H Q E
example:(fR BR uI Ai BV F1 GI BU BS BX xV):=by
 let(A,g,st,os,n,h,b,rfl,R,ok,hh,bU,hn,q,):=h;refine(_,(Ze (aF (ZI (Zj uI hr.m T.dO (ak (Zm (K:=K) 8) (Zk (K:=K) 8 (pv 0) 8) (pv 1) (λ_ _=>8)) (pc (pv 2) Zb))) (Ze (Zn (Zj Ai hr.m T.aK (pv 0) (pc (pv 1) Zb)))
   (Ze (Zn (Zj BV hr.m T.aK (pv 0) (pc (pv 1) (pc (pv 2) Zb))))
   (Zg TU))) Zu)
   (Ze (Zn (Zj F1 hr.m T.aK (pv 0) (pc (pv 2) Zb)))
   (Ze (Zn (Zj GI hr.m T.aK (pv 0) (pc (aj CA Zi (pv 1)) (pc (pv 2) Zb))))
   (Ze (cO 3 nd (Zj BU hr.m T.aK (pv 0) (pc (pv 1) (pc (pv 2) Zb))))
   (Ze (aF (Ln (LC (pv 3))) (Zg (Zn (Zj BS hr.m T.aK (pv 0) (pc (pv 1) (pc (pv 3) Zb))))) Zu)
   (Zg (Zn (Zj BX hr.m T.aK (pv 0) (pc (pv 1) (pc (pv 2) (pc (Zj xV hr.m T.aK (pv 0) (pc (ZZ T.vq 8) (pc (pv 2) Zb))) Zb))))))))))),?_,)
 let(dx,h1,):=R.ob;have ln:=R.ln;have g3:=ok.n3;let(b0,b1,):=R.wf.ub b bU;let(a,e1,e2,e3,B,):=R.at_ (k:=h) 7;let(ds,h3,):=B.aO.ob;unfold cL at q;refine hide λw1 x1=>?_;refine(_,8,A.p,_,dx,109,h1,T.aK,T.qE,ZB ..,_,8,A.ss,135,au.of R.ss,aa.ix e1,a.sp,ds,_,8,h3,bS ..,_,8,a,108,b,8,B,_,8,?_,);by_cases m:b∈(st.at_ h).seq
 .rw [aS1 m]at q;refine dQ (a7Y m) (_,8,A.p,dx,_,8,h1,az ..,_,8,A,g,st,os,n,h,8,R,7,7,λH1 eU R1 p1=>?_,);let(gI,g1,):=R1.ob;exact(_,8,A.p,gI,_,8,g1,az ..,121,A,g,_,eU,_,h,b,8,R1,7,m,λH2 gF R2 p2=>q _ _ (R2.le 7) (p1.trans p2),)
 .rw [aWd m]at q;refine cB (alm m) ?_;subst x1;try dsimp only
  dsimp only[dB];refine(_,8,A.p,dx,_,8,h1,az ..,_,8,A,g,st,os,n,b,8,R,ok,bU,7,λH1 eU R1 p1=>?_,);let(gI,g1,):=R1.ob;let(f1,f2,f3,):=ok.g6 (b:=b);have m1:b∉((g6 g b st).at_ h).seq:=λz=>m (f3 h hh b z);generalize g6 g b st=st1 at *;have eh:(1-(h:Int))=((1-h:Nat):Int):=7
  try dsimp only
  refine hide λw1 x1=>?_;refine(_,8,A.p,gI,_,8,g1,az ..,433,A,g,st1,eU,_,1-h,b,by rw[<-eh];rfl,R1,g3,7,f2,7,λH2 gF R2 p2=>?_,);subst x1;try dsimp only
  have s:=Ot (g:=g) (h:=1-h) f2;have yi:=f1.sq s;have YR:b∈((fq g (1-h) b st1).at_ 2).seq:=by rw[s.sq];exact f2
  have m2:b∉((fq g (1-h) b st1).at_ h).seq:=by rw[s.sq];exact m1
  clear s f1 f2 f3 m1;generalize fq g (1-h) b st1=st2 at *;let(nv,g2,):=R2.ob;let(u1,u2,u3,u4,u5,u6,):=R2.lZ (k:=h) 7;try dsimp only
  refine hide λw1 x1=>?_;refine(_,8,A.p,nv,_,8,g2,az ..,121,A,g,st2,gF,_,h,b,8,R2,7,λH3 s3 gp=>gN ?_,);subst x1;try dsimp only
  have R3:=R2.same s3;have rf:=ZfV yi hh u3 gp;let(Xa,C8,Mw,):=yi.aU (b:=b) hh;refine D5 (λσ G=>σ=[!(.ref A.p),!(.int (h:Int)),!(.int b),!(vF (cV (g.cf h) (st2.at_ h) b))]/\∃fO,aa K G A g (aU g h b st2) fO (n+06+2+3)/\bM (OW A gF) H3 G (OW A fO)) (λD' _ k'=>?_) ?_
  .let(uU,yH,):=R3.ob;cases eg:cV (g.cf h) (st2.at_ h) b with
   |none=>
    have el:aU g h b st2=st2:=by unfold aU;rw[eg]
    rw[eg,el]at k';exact(121,cB 8 (k' _ _ (8,gF,R3.le 7,bM.same (aA.refl _),)),)
   |some go=>
    have el:aU g h b st2=aD g h go st2:=by unfold aU;rw[eg]
    rw[eg,el]at k';let(mg,_,_,):=CC eg;exact(121,dQ 8 (_,8,A.p,uU,_,8,yH,az ..,121,A,g,st2,gF,_,h,go,8,R3,g3,hh,mg,yi.inc h go hh mg,7,λH4 sN R4 p4=>k' _ _ (8,sN,R4,p4,),),)
  rintro _ G ⟨rfl,fO,R4,p4⟩;let(AR,g4,):=R4.ob;have b2:b∈((aU g h b st2).at_ 2).seq:=by rw[Mw 2 7];exact YR
  refine(_,8,A.p,AR,_,8,g4,az ..,185,A.p,AR,_,8,g4,az ..,_,8,A,g,_,fO,_,2,b,8,R4,7,λ_=>b2,b0,b1,λlw H5 pZ s5 ew=>?_,);have R5:=R4.same s5;have NQ:Cy g (aU g h b st2) 2 b=((aU g h b st2).at_ 2).wd b:=aWd 7;rw[NQ]at ew;exact(A,g,_,fO,_,h,b,lw,_,8,R5,7,λz=>m2 (C8 b z),bU,rf,ew,R4.fresh pZ,((R4.lZ (k:=2) 7).2.1 b b2).2,7,λH6 os6 R6 p6=>q _ _ (R6.le 7) ((((p1.trans p2).trans (bM.same s3)).trans p4).trans ((bM.same s5).trans p6)),)
structure rE(K:W.Frag)(H:Hp)(A:TA)(g:aM)(st:ao)(os:OS):Prop where
 at_:aa K H A g st os 0
 ok:aJ g st
theorem rE.frame{H H':Hp}{A:TA}{g:aM}{st:ao}{os:OS}(r:rE K H A g st os)(f:∀x o,H x=!o->(OW A os x\/¬Mt o)->H' x=!o):rE K H' A g st os:=(r.at_.frame f,r.ok,)
theorem rE.same{H H':Hp}{A:TA}{g:aM}{st:ao}{os:OS}(r:rE K H A g st os)(s:aA H H'):rE K H' A g st os:=(r.at_.same s,r.ok,)
inductive ue(K:W.Frag)(vs:List V)(H:Hp)(Q:VK)(_v3:XK):Prop
 |mk (A:TA) (g:aM) (st:ao) (os:OS) (h:Nat) (sp:Int):vs=[.ref A.p,.int (h:Int),.int sp]->rE K H A g st os->h<2->sp/g.size∈g.U->(∀H' e' os' tp,H' tp=!(.tup [.int (tV g ((cL g h (sp/g.size) st).at_ h) sp),.ref A.ev])->rE K H' (A.re e') g (fX (cL g h (sp/g.size) st)) os'->oB g.n H' A.ev (cL g h (sp/g.size) st).ev->(cL g h (sp/g.size) st).ev.length<=100->¬OW (A.re e') os' A.ev->bM (OW A os) H H' (OW (A.re e') os')->Q (.ref tp) H')->ue K vs H Q _v3
example:(lM FI uH BR FT xX):=by
 let(A,g,st,os,h,sp,rfl,(R,ok,),hh,bU,q,):=h;refine(_,(Ze (Zn (Zj BR hr.m T.aK (pv 0) (pc (pv 1) (pc (Zl uH hr.m 8 (pc (Zk (K:=K) 8 (pv 0) 8) (pc (pv 2) Zb))) Zb))))
   (Zg (Zs (ZJ (pc (Zj FT hr.m T.aK (pv 0) (pc (pv 1) (pc (pv 2) Zb))) (pc (AW xX hr.m T.aK (pv 0)) Zb)))))),?_,)
 let(dx,h1,):=R.ob;have z0:=R.wf.z0;have z1:=R.wf.z1;have g3:=ok.n3;let(o1,m1,):=ok.cL (b:=sp/g.size) hh;refine(_,8,A.p,dx,_,8,h1,az ..,121,A.p,_,dx,109,h1,T.aK,T.CY,E7 ..,_,8,g.size,sp,8,7,7,A,g,st,os,0,h,_,8,R,ok,hh,bU,9,λH1 eU R1 p1=>?_,);let(gI,h2,):=R1.ob;refine(_,8,A.p,gI,_,8,h2,az ..,121,A,g,_,eU,_,h,sp,8,R1,7,m1,λH2 s2=>?_,);have R2:=R1.same s2;refine(_,8,A.p,gI,_,8,s2 _ _ h2,az ..,A,g,_,eU,_,8,R2,λe' H3 R3 vO ne3 p3=>((sL 2),λtp htp=>?_,),);have s4:=Zf htp (.tup [.int (tV g ((cL g h (sp/g.size) st).at_ h) sp),.ref A.ev]);exact q _ e' eU tp Za (R3.same s4,o1.fX,) (vO.frame (λo e=>s4 _ _ e) λx ys e=>s4 _ _ e) (atw R1.wK 9) ne3 (((p1.trans (bM.same s2)).trans p3).trans (bM.same s4))
theorem aJ.WD{g:aM}{st:ao}{h:Nat}{sp x:Int}(ok:aJ g st)(hh:h<2):aJ g (qc g h sp x st):=by
 let(o1,m1,):=ok.cL (b:=sp/g.size) hh;let(o2,m2,):=o1.cu (b:=sp/g.size) hh;have s:=E3 (st:=bL.cu h (sp/g.size) (bL.cL g h (sp/g.size) st)) (k:=h) (s:=oV g ((bL.cu h (sp/g.size) (bL.cL g h (sp/g.size) st)).at_ h) sp x) 8 λ_ z=>.inl z;exact(o2.sq s).mark hh (by rw[s.sq,m2];exact m1)
inductive qg(K:W.Frag)(vs:List V)(H:Hp)(Q:VK)(_v3:XK):Prop
 |mk (A:TA) (g:aM) (st:ao) (os:OS) (h:Nat) (sp x:Int):vs=[.ref A.p,.int (h:Int),.int sp,.int x]->rE K H A g st os->h<2->sp/g.size∈g.U->(∀H' e' os',rE K H' (A.re e') g (fX (qc g h sp x st)) os'->oB g.n H' A.ev (qc g h sp x st).ev->(qc g h sp x st).ev.length<=100->¬OW (A.re e') os' A.ev->bM (OW A os) H H' (OW (A.re e') os')->Q (.ref A.ev) H')->qg K vs H Q _v3
example:(kg FO uH BR uI sF FW BY sI xY xX):=by
 let(A,g,st,os,h,sp,x,rfl,(R,ok,),hh,bU,q,):=h;refine(_,(Ze (cO 4 nd (Zl uH hr.m 8 (pc (Zk (K:=K) 8 (pv 0) 8) (pc (pv 2) Zb))))
   (Ze (cO 05 nd (aj CA Zi (pv 1)))
   (Ze (Zn (Zj BR hr.m T.aK (pv 0) (pc (pv 1) (pc (pv 4) Zb))))
   (Ze (aF (ZI (Zj uI hr.m T.dO (ak (Zm (K:=K) 8) (Zk (K:=K) 8 (pv 0) 8) (pv 05) (λ_ _=>8)) (pc (pv 4) Zb))) (Zg (Zn (Zj sF hr.m T.aK (pv 0) (pc (pv 05) (pc (pv 4) Zb))))) Zu)
   (Ze (Zn (Zj FW hr.m T.aK (pv 0) (pc (pv 1) (pc (pv 2) (pc (pv 3) Zb)))))
   (Ze (cO 06 nd (ak (Zm (K:=K) 8) (Zk (K:=K) 8 (pv 0) 8) (pv 1) (λ_ _=>8)))
   (Ze (aF (ZI (Zk (K:=K) 8 (pv 06) 8)) (Zg (Zn (Zj BY hr.m T.dO (pv 06) (pc (pv 4) Zb)))) (Zg (Zn (Zj xY hr.m T.aK (pv 0) (pc (pv 4) (pc (Zj sI hr.m T.dO (pv 06) (pc (pv 4) Zb)) Zb))))))
   (Zg (Zs (AW xX hr.m T.aK (pv 0))))))))))),?_,)
 let(dx,h1,):=R.ob;have z0:=R.wf.z0;have z1:=R.wf.z1;have g3:=ok.n3;have ln:=R.ln;have ME:=ok.WD (sp:=sp) (x:=x) hh;let(o1,m1,):=ok.cL (b:=sp/g.size) hh;have eh:(1-(h:Int))=((1-h:Nat):Int):=7
 refine(_,8,A.p,_,dx,109,h1,T.aK,T.CY,E7 ..,_,8,g.size,sp,8,7,7,gN ?_,);try dsimp only
 refine(183,gN ?_,);try dsimp only
 rw[eh];refine hide λu1 e1=>?_;refine(_,8,A.p,dx,_,8,h1,az ..,121,A,g,st,os,0,h,_,8,R,ok,hh,bU,9,λH1 eU R1 p1=>?_,);subst e1;try dsimp only
 unfold qc at q ME;generalize cL g h (sp/g.size) st=st1 at *;let(gI,g1,):=R1.ob;let(a,e1,e2,e3,B,):=R1.at_ (k:=1-h) 7;let(ds,h3,):=B.aO.ob;let(o2,m2,):=o1.cu (b:=sp/g.size) hh;refine D5 (λσ G=>σ=[!(.ref A.p),!(.int (h:Int)),!(.int sp),!(.int x),!(.int (sp/g.size)),!(.int ((1-h:Nat):Int)),none]/\∃gF,aa K G A g (cu h (sp/g.size) st1) gF 13/\bM (OW A eU) H1 G (OW A gF)) (λD' _ k'=>?_) ?_
 .refine (_,8,A.p,_,gI,109,g1,T.aK,T.qE,ZB ..,_,8,A.ss,135,au.of R1.ss,aa.ix e1,a.sp,ds,_,8,h3,bS ..,_,8,a,133,B,_,8,?_,);unfold cu at k';by_cases m:sp/g.size∈(st1.at_ (1-h)).seq
  .rw [aS1 m]at k';exact dQ (a7Y m) (_,8,A.p,gI,_,8,g1,az ..,121,A,g,_,eU,_,1-h,_,8,R1,7,m,9,λH2 gF t l et el nl R2 p2=>k' _ _ (8,gF,R2,p2,),)
  .rw [aWd m]at k';exact cB (alm m) (k' _ _ (8,eU,R1.le 9,bM.same (aA.refl _),))
 rintro _ G ⟨rfl,gF,R2,p2⟩;have mh:sp/g.size∈((cu h (sp/g.size) st1).at_ h).seq:=by rw[m2];exact m1
 generalize cu h (sp/g.size) st1=st2 at *;let(nv,g2,):=R2.ob;refine(_,8,A.p,nv,_,8,g2,az ..,185,A,g,st2,gF,_,h,sp,x,8,R2,7,mh,λH3 fO R3 p3=>?_,);have Mn:∀j,((st2.set h (oV g (st2.at_ h) sp x)).at_ j).seq=(st2.at_ j).seq:=λj=>N8 8;have Cb:aJ g (st2.set h (oV g (st2.at_ h) sp x)):=o2.sq (E3 (s:=oV g (st2.at_ h) sp x) 8 λ_ z=>.inl z);have KN:sp/g.size∈((st2.set h (oV g (st2.at_ h) sp x)).at_ h).seq:=by rw[Mn];exact mh
 have W9:=(p1.trans p2).trans p3;dsimp only at q ME;generalize st2.set h (oV g (st2.at_ h) sp x)=st3 at *;let(uU,g4,):=R3.ob;let(a,e1,e2,e3,B,):=R3.at_ (k:=h) 7;let(u1,u2,u3,u4,u5,u6,):=R3.lZ (k:=h) 7;let(ds,h3,):=B.aO.ob;refine(_,8,A.p,_,uU,109,g4,T.aK,T.qE,ZB ..,_,8,A.ss,135,au.of R3.ss,aa.ix e1,gN ?_,);try dsimp only
 refine D5 (λσ G=>σ=[!(.ref A.p),!(.int (h:Int)),!(.int sp),!(.int x),!(.int (sp/g.size)),!(.int ((1-h:Nat):Int)),!(.ref a.sp)]/\∃sN,aa K G A g (markB g h (sp/g.size) st3) sN 20/\bM (OW A fO) H3 G (OW A sN)) (λD' _ k'=>?_) ?_
 .refine (_,8,a.sp,_,ds,109,h3,T.dO,T.Ng,Tc ..,_,8,?_,);unfold markB at k';by_cases c:(g.cf h).late=true
  .rw [aS1 c]at k';refine dQ c (_,8,a.sp,ds,_,8,h3,bS ..,_,8,a,133,B,KN,u1,λG3 B3 p3=>?_,);let(R4,p4,):=R3.iZ e1 e2 B3 p3 u2 u3;exact k' _ _ (8,_,R4.le 9,p4,)
  .rw [aWd c]at k';refine cB (by simpa using c) (_,8,A.p,uU,_,8,g4,az ..,121,a.sp,ds,_,8,h3,bS ..,_,8,a,133,B,KN,λl hl=>?_,);have sm:=Zf hl (.lst (((st3.at_ h).wd (sp/g.size)).map V.int));exact(A,g,st3,fO,_,_,l,_,8,R3.same sm,g3,Cb.inc h _ hh KN,Za,R3.fresh hl,(u2 _ KN).2,9,λG2 sN R4 p4=>k' _ _ (8,sN,R4.le 9,(bM.same sm).trans p4,),)
 rintro _ G ⟨rfl,sN,R4,p4⟩;let(AR,g5,):=R4.ob;exact(_,8,A.p,AR,_,8,g5,az ..,A,g,_,sN,_,8,R4,λe' H5 R5 YT ne5 p5=>q _ e' sN (R5,ME.fX,) YT (atw R4.wK 9) ne5 ((W9.trans p4).trans p5),)
inductive BI(K:W.Frag)(vs:List V)(H:Hp)(Q:VK)(E:XK):Prop
 |mk (p:Addr) (sh pl:Int) (ru:Str) (ls:Addr) (aq:List Addr) (du:Addr) (seq:List Int) (us:Int->Int) (n:Nat):vs=[.ref p]->aB K H p sh pl ru ls aq du seq us n->seq.length<64->(∀(D:Addr)(os:List Int),H D=none->os.Perm seq->os.Pairwise (·<=·)->Q (.ref D) (upd H D (.lst (os.map V.int))))->BI K vs H Q E
example:(lI FJ):=by
 let(p,sh,pl,ru,ls,aq,du,seq,us,n,rfl,R,h64,k,):=h;refine(_,(Zg (Zs (Zq (Vi 8) 8 T.DH aHD (pc (Zk (K:=K) 8 (pv 0) 8) Zb)))),?_,);let(dx,h1,):=R.ob;let(kvs,h2,(h3,ks,h4,h5,),h6,):=R.dc;have per:ks.Perm seq:=by
  refine(auU h5 R.nd).mpr λb=>?_;have q:=A3 (kvs:=kvs) (Sum.inl b);rw[h6 b,h4]at q;constructor
  .intro m;have:=q.mpr (aov m);by_cases c:b∈seq
   .exact c
   .rw [aWd c]at this;cases this
  .intro m;rw[aS1 m]at q;let(x,hx,e,):=arp.mp (q.mp 8);rw[<-aCk e];exact hx
 exact(_,8,p,_,dx,109,h1,T.fh,T.CW,E8 ..,du,kvs,ks,8,h2,h4,by rw[per.length_eq];exact h64,λD os hD po pw=>k D os hD (po.trans per) pw,)
inductive xr(K:W.Frag)(vs:List V)(H:Hp)(Q:VK)(E:XK):Prop
 |mk (A:TA) (g:aM) (st:ao) (os:OS) (n k:Nat):vs=[.ref A.p,.int (k:Int)]->aa K H A g st os n->k<g.n->(st.at_ k).seq.length<64->(∀(D:Addr)(bs:List Int),H D=none->bs.Perm (st.at_ k).seq->bs.Pairwise (·<=·)->Q (.ref D) (upd H D (.lst (bs.map V.int))))->xr K vs H Q E
example:(mV vE sE FJ):=by
 let(A,g,st,os,n,k,rfl,R,hk,h64,q,):=h;refine(_,(Zg (Zs (AW FJ hr.m T.fh (Zk (K:=K) 8 (Zj sE hr.m T.aK (pv 0) (pc (pv 1) Zb)) 8)))),?_,);let(dx,h1,):=R.ob;have ln:=R.ln;let(a,e1,e2,e3,B,):=R.at_ (k:=k) 7;let(ds,h3,):=B.aO.ob;let(dr,h4,):=B.aO.room.ob;exact(_,8,A.p,dx,_,8,h1,az ..,_,8,A,g,st,os,n,k,a,8,R,e1,a.sp,_,ds,109,h3,T.dO,T.Aj,CF ..,a.rp,dr,_,8,h4,bJ ..,a.rp,(g.cf k).sh,(g.cf k).pl,(g.cf k).ru,a.ls,a.aq,a.du,(st.at_ k).seq,(st.at_ k).us,_,8,B.aO.room,h64,q,)
def dD(l:List Int):List Int:=l.mergeSort λa b=>decide (a<=b)
theorem Ja{bs l:List Int}(p:bs.Perm l)(w:bs.Pairwise (·<=·)):bs=dD l:=by
 have w':(dD l).Pairwise (·<=·):=(List.pairwise_mergeSort (le:=λa b:Int=>decide (a<=b)) (λa b c h1 h2=>a7Y (auf (amL h1) (amL h2))) (λa b=>by rcases Int.le_total a b with h|h <;> simp[h]) l).imp λh=>amL h;exact List.Perm.eq_of_pairwise (λa b _ _ h1 h2=>Int.le_antisymm h1 h2) w w' (p.trans (List.mergeSort_perm _ _).symm)
theorem aS{l:List Int}:(dD l).Perm l:=List.mergeSort_perm _ _
def b7(g:aM)(o:Int)(st:ao):ao:=if(st.at_ 2).fr o=true then br g g.n o ((st.at_ 2).wd o) (dz 2 o st) else dz 2 o st
def dY(g:aM)(h:Nat):List Int->ao->ao
 | [],st=>st
 |b ::bs,st=>dY g h bs (aD g h b st)
def gk(g:aM):List Int->ao->ao
 | [],st=>st
 |b ::bs,st=>gk g bs (b7 g b st)
def aG(g:aM)(st:ao):Nat->ao
 |0=>st
 |h+1=>dY g h (dD ((aG g st h).at_ h).seq) (aG g st h)
def bg(g:aM)(st:ao):ao:=gk g (dD ((aG g st 2).at_ 2).seq) (aG g st 2)
section
variable{g:aM}{st:ao}{h j:Nat}{b o:Int}
theorem aJ.aD(w:aJ g st)(hh:h<2)(ho:o∈(st.at_ h).seq):aJ g (aD g h o st)/\∀j,((bL.aD g h o st).at_ j).seq=if j=h then(st.at_ j).seq.erase o else(st.at_ j).seq:=by
 have s:=OP (g:=g) w hh (w.inc h o hh ho);exact((w.go hh).sq s,λj=>by rw[s.sq];exact bI (by rw[w.len];lia),)
theorem aJ.dY(hh:h<2):∀{bs:List Int}{st:ao},aJ g st->bs.Perm (st.at_ h).seq->aJ g (dY g h bs st)/\∀j,((bL.dY g h bs st).at_ j).seq=if j=h then[] else(st.at_ j).seq
 | [],st,w,p=>(w,λj=>by
  split
  .rename_i e;rw[e];exact p.symm.eq_nil
  .rfl,)
 |b ::bs,st,w,p=>by
  have hb:b∈(st.at_ h).seq:=p.mem_iff.mp aKq;let(w1,s1,):=w.aD hh hb;have q:bs.Perm ((bL.aD g h b st).at_ h).seq:=by
   rw[s1,aS1 8];have:=p.erase b;rwa [aaJ]at this
  let(w2,s2,):=aJ.dY hh (bs:=bs) w1 q;refine(w2,λj=>(s2 j).trans ?_,);rw[s1];by_cases c:j=h
  .rw [aS1 c,aS1 c]
  .rw [aWd c,aWd c,aWd c]
theorem aJ.aG(w:aJ g st):∀{k:Nat},k<=2->aJ g (aG g st k)/\∀j,((bL.aG g st k).at_ j).seq=if j<k then[] else(st.at_ j).seq
 |0,_=>(w,λj=>by rw[aWd (Nat.not_lt_zero _)];rfl,)
 |k+1,hk=>by
  let(w1,s1,):=w.aG (k:=k) 7;let(w2,s2,):=w1.dY (h:=k) 7 aS;refine(w2,λj=>(s2 j).trans ?_,);by_cases c:j=k
  .rw [aS1 c,aS1 7]
  .rw [aWd c,s1];by_cases c2:j<k
   .rw [aS1 c2,aS1 7]
   .rw [aWd c2,aWd 7]
theorem Jj(w:aJ g st)(n0:∀h,h<2->(st.at_ h).seq=[]):aJ g (b7 g o st)/\∀j,((b7 g o st).at_ j).seq=if j=2 then(st.at_ j).seq.erase o else(st.at_ j).seq:=by
 have hl:2<st.rm.length:=by rw[w.len];lia
 have s:Sq (dz 2 o st) (b7 g o st):=by
  unfold b7;split
  .exact cj
  .exact Sq.refl
 have k:aJ g (dz 2 o st):=by
  refine(w.n3,fS.trans w.len,λk=>?_,λh y hh hy=>?_,λk y hy=>?_,)
  .rw [bI hl];split
   .exact (w.nd k).erase _
   .exact w.nd k
  .rw [bI hl,aWd 7,n0 h hh]at hy;cases hy
  .let(h1,h2,):=uS hl hy;rw[bI hl];split
   .rename_i e;exact(mem_erase_of_ne (h2 e)).mpr (w.ff k y h1)
   .exact w.ff k y h1
 exact(k.sq s,λj=>by rw[s.sq];exact bI hl,)
theorem TH:∀{bs:List Int}{st:ao},aJ g st->(∀h,h<2->(st.at_ h).seq=[])->bs.Perm (st.at_ 2).seq->aJ g (gk g bs st)/\∀j,((gk g bs st).at_ j).seq=if j<3 then[] else(st.at_ j).seq
 | [],st,w,n0,p=>(w,λj=>by
  split
  .by_cases c:j=2
   .rw [c];exact p.symm.eq_nil
   .exact n0 j 7
  .rfl,)
 |b ::bs,st,w,n0,p=>by
  let(w1,s1,):=Jj (o:=b) w n0;have q:bs.Perm ((b7 g b st).at_ 2).seq:=by
   rw[s1,aS1 8];have:=p.erase b;rwa [aaJ]at this
  let(w2,s2,):=TH (bs:=bs) w1 (λh hh=>by rw[s1,aWd 7];exact n0 h hh) q;refine(w2,λj=>(s2 j).trans ?_,);by_cases c:j<3
  .rw [aS1 c,aS1 c]
  .rw [aWd c,aWd c,s1,aWd 7]
theorem Lq(w:aJ g st):aJ g (bg g st)/\∀j,j<3->((bg g st).at_ j).seq=[]:=by
 let(w1,s1,):=w.aG (k:=2) (amA _);let(w2,s2,):=TH w1 (λh hh=>by rw[s1,aS1 hh]) aS;exact(w2,λj hj=>by show((gk g _ _).at_ j).seq=[];rw[s2,aS1 hj],)
end
theorem aa.few{H:Hp}{A:TA}{g:aM}{st:ao}{os:OS}{n:Nat}(T:aa K H A g st os n){k:Nat}(hk:k<g.n)(hU:g.U.length<64):(st.at_ k).seq.length<64:=by
 have ln:=T.ln;let(a,e1,e2,e3,B,):=T.at_ (k:=k) 7;have nd:(st.at_ k).seq.Nodup:=B.aO.room.nd;exact aZM (D9 nd λx hx=>T.wV _ (a1U e3) x hx) hU
inductive xD(K:W.Frag)(vs:List V)(H:Hp)(Q:VK)(_v3:XK):Prop
 |mk (A:TA) (g:aM) (st:ao) (os:OS):vs=[.ref A.p]->rE K H A g st os->g.U.length<64->(∀H' e' os',rE K H' (A.re e') g (fX (bg g st)) os'->oB g.n H' A.ev (bg g st).ev->(bg g st).ev.length<=2000->¬OW (A.re e') os' A.ev->bM (OW A os) H H' (OW (A.re e') os')->Q (.ref A.ev) H')->xD K vs H Q _v3
example:(iV xW vE BS sF wC xX):=by
 let(A,g,st,os,rfl,(R,ok,),hU,q,):=h;refine(_,(Ze (vd a49 8 (Lz (K:=K) 8 (Uj (K:=K) 8 T.KY 8)) (bG 1 nd) (Zg (vd a49 8 (zC (K:=K) 8 (Zj vE hr.m T.aK (pv 0) (pc (pv 1) Zb))) (bG 2 nd) (Zg (Zn (Zj BS hr.m T.aK (pv 0) (pc (pv 1) (pc (pv 2) Zb))))))))
   (Ze (vd a49 8 (zC (K:=K) 8 (Zj vE hr.m T.aK (pv 0) (pc (ZZ T.vq 8) Zb))) (bG 2 nd) (Ze (tK (Zj sF hr.m T.aK (pv 0) (pc (ZZ T.vq 8) (pc (pv 2) Zb))) (ZH (K:=K) (n:=2) 8 8 (Zo (bG 3 nd) (Zo (bG 4 nd) ZF))))
   (Zg (aF (ZI (pv 4)) (Zg (Zn (Zj wC hr.m T.aK (pv 0) (pc (Zk (K:=K) 8 (pv 0) 8) (pc (pv 2) (pc (pv 3) Zb)))))) Zu))))
   (Zg (Zs (AW xX hr.m T.aK (pv 0)))))),?_,)
 have ln:=R.ln;have g3:=ok.n3;refine hide λu1 e1=>?_;refine λhd DY=>(hd,8,(_,DY _,),OE (K:=K) (a:=hd) (xs:=([0,1]:List Int).map V.int) (λi σ G=>∃(v1 v2 v3 v4:Option V)(os':OS),σ=[!(.ref A.p),v1,v2,v3,v4]/\aa K G A g (aG g st i) os' (300*i)/\bM (OW A os) H G (OW A os')) (116,os,8,R,bM.same (aA.refl _),) (λi σ G _ _=>DY _) ?_ ?_,)
 .rintro i x σ G hi ⟨v1,v2,v3,v4,eU,rfl,R1,p1⟩;have hi2:i<2:=(au3.mp hi).1;have hx:x=.int (i:Int):=by
   have h:i=0\/i=1:=7
   rcases h with rfl|rfl
   .exact (aZC hi).symm
   .exact (aZC hi).symm
  subst hx;let(MF,_,):=ok.aG (k:=i) 7;refine gN ?_;try dsimp only
  let(gI,g1,):=R1.ob;refine(_,8,A.p,gI,_,8,g1,az ..,_,8,A,g,aG g st i,eU,_,i,8,R1,7,R1.few 7 hU,λD bs hD pb pw=>(D,8,(_,au.of Za,),?_,),);have n64:bs.length<64:=by rw[pb.length_eq];exact R1.few 7 hU
  have eb:=Ja pb pw;have s2:=Zf hD (.lst (bs.map V.int));have eD:=Za (H:=G) (a:=D) (o:=.lst (bs.map V.int));have R2:=R1.same s2;have p2:=p1.trans (bM.same s2);have nD:=R1.fresh hD;have eK:dY g i bs (aG g st i)=aG g st (i+1):=by show _=dY g i (dD _) _;rw[<-eb]
  generalize upd G D (.lst (bs.map V.int))=G2 at *;refine LQ (K:=K) (a:=D) (xs:=bs.map V.int) (λj σ G'=>∃(v2 v3 v4:Option V)(os':OS)(s':ao),σ=[!(.ref A.p),!(.int (i:Int)),v2,v3,v4]/\aa K G' A g s' os' (300*i+3*j)/\aJ g s'/\dY g i (bs.drop j) s'=aG g st (i+1)/\(bs.drop j).Perm (s'.at_ i).seq/\bM (OW A os) H G' (OW A os')/\G' D=!(.lst (bs.map V.int))/\¬OW A os' D)
   (108,eU,aG g st i,8,R2,MF,eK,pb,p2,eD,nD,) (λj σ G' _ h=>by let(_,_,_,_,_,_,_,_,_,_,_,e,_,):=h;exact au.of e) ?_ ?_
  .rintro j x σ G3 hx ⟨v2,v3,v4,fO,s',rfl,R3,Cb,e3,oW,p3,NU,MT⟩;let(b,vP,rfl,):=E9 hx;have hj:j<bs.length:=(au3.mp vP).1;have ed:bs.drop j=b ::bs.drop (j+1):=by
    rw[aoV hj];congr 1
    exact(au3.mp vP).2
   rw[ed]at e3 oW;have hb:b∈(s'.at_ i).seq:=oW.mem_iff.mp aKq;let(uU,yH,):=R3.ob;let(uO,s4,):=Cb.aD hi2 hb;refine gN ?_;try dsimp only
   refine(_,8,A.p,uU,_,8,yH,az ..,121,A,g,s',fO,_,i,b,8,R3,g3,hi2,hb,Cb.inc i b hi2 hb,7,λH4 sN R4 p4=>?_,);have DZ:=p4.out NU MT;have sM:(bs.drop (j+1)).Perm ((aD g i b s').at_ i).seq:=by
    rw[s4,aS1 8];have:=oW.erase b;rwa [aaJ]at this
   exact(108,sN,_,8,R4.le 7,uO,e3,sM,p3.trans p4,DZ.1,DZ.2,)
  .rintro σ G3 ⟨v2,v3,v4,fO,s',rfl,R3,Cb,e3,oW,p3,_⟩;rw[aHJ,drop_length]at e3;have e3:s'=aG g st (i+1):=e3;subst e3;rw[aHJ]at R3;exact(116,fO,8,R3.le 7,p3,)
 rintro σ G ⟨v1,v2,v3,v4,eU,rfl,R1,p1⟩;subst e1;try dsimp only
 have R1:aa K G A g (aG g st 2) eU 600:=R1;let(yi,Gq,):=ok.aG (k:=2) (amA _);have MW:∀h,h<2->((aG g st 2).at_ h).seq=[]:=λh hh=>by rw[Gq,aS1 hh]
 let(MG,_,):=Lq ok;unfold bg at q MG;generalize aG g st 2=st2 at *;let(gI,g1,):=R1.ob;refine hide λu1 e1=>?_;refine(_,8,A.p,gI,_,8,g1,az ..,A,g,st2,eU,_,2,8,R1,7,R1.few 7 hU,λD bs hD pb pw=>(D,8,(_,au.of Za,),?_,),);have n64:bs.length<64:=by rw[pb.length_eq];exact R1.few 7 hU
 have eb:=Ja pb pw;have s2:=Zf hD (.lst (bs.map V.int));have eD:=Za (H:=G) (a:=D) (o:=.lst (bs.map V.int));have R2:=R1.same s2;have p2:=p1.trans (bM.same s2);have nD:=R1.fresh hD;rw[<-eb]at q MG;generalize upd G D (.lst (bs.map V.int))=G2 at *;refine LQ (K:=K) (a:=D) (xs:=bs.map V.int) (λj σ G'=>∃(v2 v3 v4:Option V)(os':OS)(s':ao),σ=[!(.ref A.p),v1,v2,v3,v4]/\aa K G' A g s' os' (600+2*j)/\aJ g s'/\(∀h,h<2->(s'.at_ h).seq=[])/\gk g (bs.drop j) s'=gk g bs st2/\(bs.drop j).Perm (s'.at_ 2).seq/\bM (OW A os) H G' (OW A os')/\G' D=!(.lst (bs.map V.int))/\¬OW A os' D)
  (108,eU,st2,8,R2,yi,MW,8,pb,p2,eD,nD,) (λj σ G' _ h=>by let(_,_,_,_,_,_,_,_,_,_,_,_,e,_,):=h;exact au.of e) ?_ ?_
 .rintro j x σ G3 hx ⟨v2,v3,v4,fO,s',rfl,R3,Cb,MV,e3,oW,p3,NU,MT⟩;let(b,vP,rfl,):=E9 hx;have hj:j<bs.length:=(au3.mp vP).1;have ed:bs.drop j=b ::bs.drop (j+1):=by
   rw[aoV hj];congr 1
   exact(au3.mp vP).2
  rw[ed]at e3 oW;have hb:b∈(s'.at_ 2).seq:=oW.mem_iff.mp aKq;have lS3:=R3.lS;let(_,u2,_,_,_,_,):=R3.lZ (k:=2) 7;let(bU,bl,):=u2 b hb;let(uU,yH,):=R3.ob;let(uO,s4,):=Jj (o:=b) Cb MV;have sM:(bs.drop (j+1)).Perm ((b7 g b s').at_ 2).seq:=by
   rw[s4,aS1 8];have:=oW.erase b;rwa [aaJ]at this
  have Cd:∀h,h<2->((b7 g b s').at_ h).seq=[]:=λh hh=>by rw[s4,aWd 7];exact MV h hh
  have e4:gk g (bs.drop (j+1)) (b7 g b s')=gk g bs st2:=e3;refine gN ?_;try dsimp only
  refine hide λw1 x1=>?_;refine(_,8,A.p,uU,_,8,yH,az ..,_,8,A,g,s',fO,_,2,b,8,R3,7,hb,7,λH4 sN t l et el nl R4 p4=>(t,_,8,aX.of et,125,gN (109,gN (8,?_,),),),);subst x1;try dsimp only
  have DZ:=p4.out NU MT;have Qn:=p3.trans p4;unfold b7 at uO sM Cd e4;cases fr:(s'.at_ 2).fr b with
  |true=>
   rw[aS1 fr]at uO sM Cd e4;let(AR,g4,):=R4.ob;refine(121,dQ 8 (_,8,A.p,AR,_,8,g4,az ..,_,8,A.p,_,AR,109,g4,T.aK,T.zo,AZ ..,121,A,g,_,sN,_,g.n,b,l,_,by rw[ln];rfl,R4,amA _,λh=>absurd h (aUJ _),bU,el,nl,bl,7,λG5 Qp R5 p5=>?_,),);have R9:=p5.out DZ.1 DZ.2;exact(108,Qp,_,8,R5.le 7,uO,Cd,e4,sM,Qn.trans p5,R9.1,R9.2,)
  |false=>
   rw[aWd (by rw[fr];exact aqS)]at uO sM Cd e4;exact(121,cB 8 (108,sN,_,8,R4.le 7,uO,Cd,e4,sM,Qn,DZ.1,DZ.2,),)
 .rintro σ G3 ⟨v2,v3,v4,fO,s',rfl,R3,Cb,MV,e3,oW,p3,_⟩;rw[aHJ,drop_length]at e3;have e3:s'=gk g bs st2:=e3;subst e3;rw[aHJ]at R3;subst e1;try dsimp only
  let(uU,yH,):=R3.ob;exact(_,8,A.p,uU,_,8,yH,az ..,A,g,_,fO,_,8,R3,λe' H4 R4 YU ne4 p4=>q _ e' fO (R4,MG.fX,) YU (atw R3.wK 7) ne4 (p3.trans p4),)
theorem Zlh{a b s k:Int}(hs:0<s)(k0:0<=k)(k1:k<s)(h1:b*s<=a*s+k)(h2:a*s+k<b*s+s):a=b:=by
 have e1:∀x y:Int,x+1<=y->x*s+s<=y*s:=λx y h=>by
  have q:=Int.mul_le_mul_of_nonneg_right h (Int.le_of_lt hs);rw[Int.add_mul,Int.one_mul]at q;exact q
 by_cases c:a<b
 .have:=e1 a b c;lia
 .by_cases d:b<a
  .have:=e1 b a d;lia
  .lia
theorem ZjZ{s:Int}{mem:Int->Int}{b y:Int}{ws:List Int}(hs:0<s)(h:y≠b):aV s (qU s mem b ws) y=aV s mem y:=by
 unfold aV;refine abx λk hk=>?_;have hk:=aGX.mp hk;unfold qU gX;rw[aWd];rintro⟨h1,h2⟩;exact h (Zlh hs (Int.natCast_nonneg k) 7 h1 7)
theorem AV{s:Int}{mem:Int->Int}{b:Int}:(aV s mem b).length=s.toNat:=by unfold aV;rw[aHJ,aJu]
theorem LI{s:Int}{mem:Int->Int}{b:Int}{k:Nat}(h:k<s.toNat):(aV s mem b)[k]?=!(mem (b*s+(k:Nat))):=by
 unfold aV;rw[a7o,adw h];rfl
theorem Ji{s:Int}{mem:Int->Int}{b:Int}{ws:List Int}(h:ws.length=s.toNat):aV s (qU s mem b ws) b=ws:=by
 apply aNd;intro k;by_cases c:k<s.toNat
 .rw [LI c];unfold qU gX;rw[aS1 7,show(b*s+(k:Nat)-b*s).toNat=k by lia,an8,ais 7];rfl
 .rw [aX6 (by rw[AV];lia),aX6 7]
structure Vw(g:aM)(x:Int)(a b:ao):Prop where
 m:∀j,x∈(b.at_ j).seq↔x∈(a.at_ j).seq
 w:∀j,(b.at_ j).wd x=(a.at_ j).wd x
 f:∀j,(b.at_ j).fr x=(a.at_ j).fr x
 mem:aV g.size b.mem x=aV g.size a.mem x
section
variable{g:aM}{bk:Int->Int}{x y b:Int}{st a c:ao}{k:Nat}{ws:List Int}
theorem Vw.refl:Vw g x st st:=(λ_=>Iff.rfl,λ_=>8,λ_=>8,8,)
theorem Vw.trans{a b c:ao}(p:Vw g x a b)(q:Vw g x b c):Vw g x a c:=(λj=>(q.m j).trans (p.m j),λj=>(q.w j).trans (p.w j),λj=>(q.f j).trans (p.f j),q.mem.trans p.mem,)
theorem D8{s:Rm}(hm:x∈s.seq↔x∈(st.at_ k).seq)(hw:s.wd x=(st.at_ k).wd x)(hf:s.fr x=(st.at_ k).fr x):Vw g x st (st.set k s):=by
 refine(λj=>?_,λj=>?_,λj=>?_,8,) <;> rw[ve] <;> split
 .rename_i z;rw[z.1];exact hm
 .exact Iff.rfl
 .rename_i z;rw[z.1];exact hw
 .rfl
 .rename_i z;rw[z.1];exact hf
 .rfl
theorem Vw.tell{a b:ao}{e:List V}(v:Vw g x a b):Vw g x a (b.tell e):=(v.m,v.w,v.f,v.mem,)
theorem IZ(hs:0<g.size)(h:x≠b):Vw g x st (br g k b ws st):=by
 unfold br;split
 .exact (λ_=>Iff.rfl,λ_=>8,λ_=>8,ZjZ hs h,)
 .exact (D8 (s:=pM (st.at_ k) b ws) Iff.rfl (by show(if x=b then ws else _)=_;rw[aWd h]) 8).tell
theorem Ub(h:x≠b):Vw g x st (vW k b st):=D8 (s:=K7 (st.at_ k) b) Iff.rfl 8 (by show(if x=b then true else _)=_;rw[aWd h])
theorem TF(h:x≠b):Vw g x st (cM k b ws st):=
 (D8 (s:=Nk (st.at_ k) b ws) (by show x∈_++[b]↔_;rw[mem_append,aDL];exact(λq=>q.resolve_right h,.inl,)) (by show(if x=b then ws else _)=_;rw[aWd h]) 8).tell
theorem gy(h:x≠b):Vw g x st (dz k b st):=
 ((Vw.refl (st:=st)).tell (e:=eO k b)).trans (D8 (st:=st.tell (eO k b)) (s:=qG (st.at_ k) b) (mem_erase_of_ne h) 8 (by show(if x=b then false else _)=_;rw[aWd h];rfl))
def yO(bk:Int->Int)(sp v:Int):Int->Int:=λs=>if s=sp then v else bk s
theorem IT{sp v:Int}(hs:0<g.size)(h:y≠sp/g.size):aV g.size (yO bk sp v) y=aV g.size bk y:=by
 unfold aV;refine abx λk hk=>?_;have hk:=aGX.mp hk;unfold yO;rw[aWd];intro z;apply h;rw[<-z,Int.add_comm,abW _ _ 7,ac0 (Int.natCast_nonneg k) 7,Int.zero_add]
theorem IU{sp v:Int}(hs:0<g.size):aV g.size (yO bk sp v) (sp/g.size)=(aV g.size bk (sp/g.size)).set (sp%g.size).toNat v:=by
 have m0:0<=sp%g.size:=aXk _ 7;have m1:sp%g.size<g.size:=an2 _ hs;have dm:=ad3 sp g.size;rw[Int.mul_comm]at dm;apply aNd;intro k;by_cases c:k<g.size.toNat
 .rw [LI c];by_cases d:k=(sp%g.size).toNat
  .rw [<-d,a8U (by rw[AV];exact c)];unfold yO;rw[aS1 7]
  .rw [aL4 (aBl d),LI c];unfold yO;rw[aWd 7]
 .rw [aX6 (by rw[AV];lia),aX6 (by rw[aKe,AV];lia)]
theorem Tz{sp:Int}(hs:0<g.size):(aV g.size bk (sp/g.size)).getD (sp%g.size).toNat 0=bk sp:=by
 have m0:0<=sp%g.size:=aXk _ 7;have m1:sp%g.size<g.size:=an2 _ hs;have dm:=ad3 sp g.size;rw[Int.mul_comm]at dm;rw[an8,LI 7];show bk _=_;congr 1
 lia
end
structure Lw(g:aM)(bk:Int->Int)(x:Int)(st:ao):Prop where
 nr:∀h,h<2->x∈(st.at_ h).seq->(st.at_ h).wd x=aV g.size bk x
 fa:x∈(st.at_ 2).seq->(∀h,h<2->(st.at_ h).fr x=false)->(st.at_ 2).wd x=aV g.size bk x
 me:(∀h,h<3->(st.at_ h).fr x=false)->aV g.size st.mem x=aV g.size bk x
structure Dn(g:aM)(bk:Int->Int)(x:Int)(st:ao):Prop where
 nr:∀h,h<2->x∈(st.at_ h).seq->(st.at_ h).wd x=aV g.size bk x
 fa:(st.at_ 2).wd x=aV g.size bk x
 me:(st.at_ 2).fr x=true\/aV g.size st.mem x=aV g.size bk x
theorem Dn.lw{g:aM}{bk:Int->Int}{x:Int}{st:ao}(d:Dn g bk x st):Lw g bk x st:=(d.nr,λ_ _=>d.fa,λf=>d.me.elim (λz=>by rw[f 2 7]at z;cases z) id,)
theorem Vw.lw{g:aM}{bk:Int->Int}{x:Int}{a b:ao}(v:Vw g x a b)(l:Lw g bk x a):Lw g bk x b:=
 (λh hh m=>(v.w h).trans (l.nr h hh ((v.m h).mp m)),λm f=>(v.w 2).trans (l.fa ((v.m 2).mp m) λh hh=>(v.f h).symm.trans (f h hh)),λf=>v.mem.trans (l.me λh hh=>(v.f h).symm.trans (f h hh)),)
section
variable{g:aM}{bk:Int->Int}{x b o:Int}{st:ao}{h k:Nat}{ws:List Int}
theorem aJ.nf(w:aJ g st)(n:x∉(st.at_ k).seq):(st.at_ k).fr x=false:=by
 cases e:(st.at_ k).fr x with
 |false=>rfl
 |true=>exact absurd (w.ff k x e) n
theorem Lp(hs:0<g.size)(n:x≠b):Vw g x st (bK g b ws st):=by
 unfold bK;split
 .exact (IZ hs n).trans (Ub n)
 .exact (IZ hs n).trans (IZ hs n)
theorem Oo(w:aJ g st)(nr:∀h,h<2->x∈(st.at_ h).seq->(st.at_ h).wd x=aV g.size bk x):Dn g bk x (bK g x (aV g.size bk x) st):=by
 have hl:2<st.rm.length:=by rw[w.len];lia
 have g3:=w.n3;have p2:(br g 2 x (aV g.size bk x) st).at_ 2=pM (st.at_ 2) x (aV g.size bk x):=by
  unfold br;rw[aWd 7,CD,ao.bQ hl,aS1 8]
 have pl:(br g 2 x (aV g.size bk x) st).rm.length=st.rm.length:=cj.len;have l2:(pM (st.at_ 2) x (aV g.size bk x)).wd x=aV g.size bk x:=aS1 8;refine(λh hh m=>?_,?_,?_,)
 .rw [Uc 7]at m ⊢;exact nr h hh m
 .unfold bK;split
  .unfold vW;rw[ao.bQ (by rw[pl];exact hl),aS1 8,p2];exact l2
  .rw [BZ 8,p2];exact l2
 .unfold bK;split
  .refine .inl ?_;unfold vW;rw[ao.bQ (by rw[pl];exact hl),aS1 8];exact aS1 8
  .refine .inr ?_;have e:(br g g.n x (aV g.size bk x) (br g 2 x (aV g.size bk x) st)).mem=qU g.size (br g 2 x (aV g.size bk x) st).mem x (aV g.size bk x):=by
    show(if g.n=g.n then _ else _:ao).mem=_;rw[aS1 8];rfl
   rw[e];exact Ji AV
theorem Hu(w:aJ g st)(hh:h<2)(f:(st.at_ h).fr x=false)(l:Lw g bk x st):Lw g bk x (dz h x st):=by
 have hl:h<st.rm.length:=by rw[w.len];lia
 have ne:∀j,j≠h->(dz h x st).at_ j=st.at_ j:=λj n=>by rw[gG hl,aWd n]
 have hf:∀j,(st.at_ j).fr x=((dz h x st).at_ j).fr x:=λj=>by
  by_cases c:j=h
  .rw [c,gG hl,aS1 8,f];exact(aS1 8).symm
  .rw [ne j c]
 refine(λk hk m=>?_,λm q=>?_,λq=>l.me λk hk=>(hf k).trans (q k hk),)
 .by_cases c:k=h
  .rw [c,bI hl,aS1 8]at m;exact absurd 8 ((w.nd h).mem_erase_iff.mp m).1
  .rw [ne k c]at m ⊢;exact l.nr k hk m
 .rw [ne 2 7]at m ⊢;exact l.fa m λk hk=>(hf k).trans (q k hk)
theorem Us(hs:0<g.size)(w:aJ g st)(hh:h<2)(ho:o∈(st.at_ h).seq)(l:Lw g bk x st):Lw g bk x (aD g h o st):=by
 have hl:h<st.rm.length:=by rw[w.len];lia
 by_cases c:x=o
 .subst c;unfold aD;split
  .rw [l.nr h hh ho];refine(Oo (w.go hh) λk hk m=>?_).lw;by_cases e:k=h
   .rw [e,bI hl,aS1 8]at m;exact absurd 8 ((w.nd h).mem_erase_iff.mp m).1
   .rw [gG hl,aWd e]at m ⊢;exact l.nr k hk m
  .rename_i f;exact Hu w hh (by simpa using f) l
 .unfold aD;split
  .exact ((gy c).trans (Lp hs c)).lw l
  .exact (gy c).lw l
theorem Tw(n:x≠o){p:ao×List Int×Bool}:Vw g x p.1 (dP h o p).1:=by
 unfold dP;split
 .split
  .exact gy n
  .exact gy n
 .exact Vw.refl
theorem Ua{p:ao×List Int×Bool}(ff:(p.1.at_ h).fr o=true->o∈(p.1.at_ h).seq):(dP h o p).2=if(p.1.at_ h).fr o=true then((p.1.at_ h).wd o,true) else p.2:=by
 unfold dP;by_cases c:(p.1.at_ h).fr o=true
 .rw [aS1 (ff c),aS1 c,aS1 c]
 .rw [aWd c,aWd c];split <;> rfl
theorem ZiC{p:ao×List Int×Bool}{j:Nat}(n:j≠h)(hl:h<p.1.rm.length):(dP h o p).1.at_ j=p.1.at_ j:=by
 unfold dP;split
 .split
  .show (dz h o p.1).at_ j=_;rw[gG hl,aWd n]
  .show (dz h o p.1).at_ j=_;rw[gG hl,aWd n]
 .rfl
theorem Zka(w:aJ g st):(kh o st).2=if(st.at_ 1).fr o=true then((st.at_ 1).wd o,true) else if(st.at_ 0).fr o=true then((st.at_ 0).wd o,true) else((st.at_ 2).wd o,(st.at_ 2).fr o):=by
 have l3:=w.len;have g0:∀j,j≠2->(dz 2 o st).at_ j=st.at_ j:=λj n=>by rw[gG 7,aWd n]
 have a0:=Ua (h:=0) (o:=o) (p:=(dz 2 o st,(st.at_ 2).wd o,(st.at_ 2).fr o)) (λz=>by
  have z:((dz 2 o st).at_ 0).fr o=true:=z;show o∈((dz 2 o st).at_ 0).seq;rw[g0 0 7]at z ⊢;exact w.ff 0 o z)
 have e1:((dP 0 o (dz 2 o st,(st.at_ 2).wd o,(st.at_ 2).fr o)).1).at_ 1=st.at_ 1:=by
  rw[ZiC 7 (by show 0<(dz 2 o st).rm.length;rw[fS];lia)];exact g0 1 7
 have a1:=Ua (h:=1) (o:=o) (p:=dP 0 o (dz 2 o st,(st.at_ 2).wd o,(st.at_ 2).fr o)) (λz=>by
  rw[e1]at z ⊢;exact w.ff 1 o z)
 unfold kh;rw[a1,e1,a0];show _=_;rw[g0 0 7]
theorem Sn(n:x≠o):Vw g x st (kh o st).1:=by
 unfold kh;exact(gy n).trans ((Tw (p:=(dz 2 o st,(st.at_ 2).wd o,(st.at_ 2).fr o)) n).trans (Tw n))
theorem Sl{p:ao×List Int×Bool}:(dP h o p).1.mem=p.1.mem:=by
 unfold dP;split
 .split <;> rfl
 .rfl
theorem ZhF(hs:0<g.size)(w:aJ g st)(ho:o∈(st.at_ 2).seq)(l:Lw g bk x st):Lw g bk x (rB g o st):=by
 by_cases c:x=o
 .subst c;have sn:=Zka (o:=x) w;have s:=fW (g:=g) (o:=x) (st:=st);have no:∀j,j<3->x∉((rB g x st).at_ j).seq:=λj hj z=>by
   rw[s.sq,(Le w.len).2.1,aS1 hj]at z;exact((w.nd j).mem_erase_iff.mp z).1 8
  refine(λh hh m=>absurd m (no h 7),λm=>absurd m (no 2 7),λ_=>?_,);have ml:(kh x st).1.mem=st.mem:=by unfold kh;rw[Sl,Sl];rfl
  by_cases f1:(st.at_ 1).fr x=true
  .rw [aS1 f1]at sn;have e:rB g x st=br g g.n x ((st.at_ 1).wd x) (kh x st).1:=by unfold rB;rw[sn,aS1 8]
   rw[e,l.nr 1 7 (w.ff 1 x f1)];unfold br;rw[aS1 8];exact Ji AV
  .rw [aWd f1]at sn;by_cases f0:(st.at_ 0).fr x=true
   .rw [aS1 f0]at sn;have e:rB g x st=br g g.n x ((st.at_ 0).wd x) (kh x st).1:=by unfold rB;rw[sn,aS1 8]
    rw[e,l.nr 0 7 (w.ff 0 x f0)];unfold br;rw[aS1 8];exact Ji AV
   .rw [aWd f0]at sn;have nf:∀h,h<2->(st.at_ h).fr x=false:=λh hh=>by
     rcases(show h=0\/h=1 by lia) with rfl|rfl
     .simpa using f0
     .simpa using f1
    cases f2:(st.at_ 2).fr x with
    |true=>
     have e:rB g x st=br g g.n x ((st.at_ 2).wd x) (kh x st).1:=by unfold rB;rw[sn,aS1 f2]
     rw[e,l.fa ho nf];unfold br;rw[aS1 8];exact Ji AV
    |false=>
     have e:rB g x st=(kh x st).1:=by unfold rB;rw[sn,aWd (by show ¬(st.at_ 2).fr x=true;rw[f2];exact aqS)]
     rw[e,ml];exact l.me λh hh=>by
      by_cases q:h<2
      .exact nf h q
      .rw [show h=2 by lia];exact f2
 .unfold rB;split
  .exact ((Sn c).trans (IZ hs c)).lw l
  .exact (Sn c).lw l
theorem Sk(hb:b∈(st.at_ k).seq){e:List V}:Vw g x st ((st.tell e).set k (kM (g.cf k) (st.at_ k) b)):=
 ((Vw.refl (st:=st)).tell (e:=e)).trans (D8 (st:=st.tell e) (s:=kM (g.cf k) (st.at_ k) b) (Fi hb).mem_iff 8 8)
theorem ZiD(hs:0<g.size)(w:aJ g st)(l:Lw g bk x st):Lw g bk x (roomF g b st):=by
 unfold roomF;split
 .exact l
 .rename_i o e;exact ZhF hs w (CC e).1 l
theorem ZiE(hs:0<g.size)(w:aJ g st)(hh:h<2)(l:Lw g bk x st):Lw g bk x (aU g h b st):=by
 unfold aU;split
 .exact l
 .rename_i o e;exact Us hs w hh (CC e).1 l
theorem Zkb(hs:0<g.size)(w:aJ g st)(l:Lw g bk x st):Lw g bk x (g6 g b st):=by
 unfold g6;split
 .rename_i hb;exact(Sk hb).lw l
 .rename_i hb;have w1:=w.sq (Lr (e:=eF g.n));have l1:Lw g bk x (roomF g b (st.tell (eF g.n))):=ZiD hs w1 (((Vw.refl (st:=st)).tell (e:=eF g.n)).lw l);let(w2,sub,):=w1.roomF (b:=b);have hl:2<(roomF g b (st.tell (eF g.n))).rm.length:=by rw[w2.len];lia
  have n2:b∉((roomF g b (st.tell (eF g.n))).at_ 2).seq:=λz=>hb (sub 2 b z);generalize roomF g b (st.tell (eF g.n))=s at *;by_cases c:x=b
  .subst c;have nh:∀h,h<3->x∉(s.at_ h).seq:=λh hh z=>by
    by_cases q:h<2
    .exact n2 (w2.inc h x q z)
    .exact n2 (by rw[show h=2 by lia]at z;exact z)
   have me:=l1.me λh hh=>w2.nf (nh h hh);refine(λh hh m=>?_,λ_ _=>?_,λ_=>me,)
   .rw [vV hl,aWd 7]at m;exact absurd m (nh h 7)
   .unfold cM;rw[CD,ao.bQ hl,aS1 8];exact(aS1 8:(if x=x then _ else _)=_).trans me
  .exact (TF c).lw l1
theorem Zkc(hs:0<g.size)(w:aJ g st)(hh:h<2)(l:Lw g bk x st):Lw g bk x (fq g h b st)/\((fq g h b st).at_ h).fr b=false:=by
 have hl:h<st.rm.length:=by rw[w.len];lia
 unfold fq;split
 .rename_i f;have dl:(bK g b ((st.at_ h).wd b) st).rm.length=st.rm.length:=by
   unfold bK;split
   .exact iA.trans cj.len
   .exact cj.len.trans cj.len
  refine(?_,by rw[ao.bQ (by rw[dl];exact hl),aS1 8];exact aS1 8,);by_cases c:x=b
  .subst c;rw[l.nr h hh (w.ff h x f)]at dl ⊢;have d:=Oo (bk:=bk) w l.nr;generalize bK g x (aV g.size bk x) st=s at *;have ne:∀j,j≠h->(s.set h (qv (s.at_ h) x)).at_ j=s.at_ j:=λj n=>by rw[ve,aWd λz=>n z.1]
   refine Dn.lw (λk hk m=>?_,by rw[ne 2 7];exact d.fa,by rw[ne 2 7];exact d.me,);by_cases e:k=h
   .rw [e,ao.bQ (by rw[dl];exact hl),aS1 8]at m ⊢;exact d.nr h hh m
   .rw [ne k e]at m ⊢;exact d.nr k hk m
  .exact ((Lp hs c).trans (D8 (s:=qv _ b) Iff.rfl 8 (by show(if x=b then false else _)=_;rw[aWd c]))).lw l
 .rename_i f;exact(l,by simpa using f,)
theorem Zkd(hs:0<g.size)(w:aJ g st)(hh:h<2)(hb:b∉(st.at_ h).seq)(h2:b∈(st.at_ 2).seq)(fo:(st.at_ (1-h)).fr b=false)(l:Lw g bk x st):Lw g bk x (iY g h b st):=by
 unfold iY;have l1:=ZiE (b:=b) hs w hh l;let(w1,sub,Qo,):=w.aU (b:=b) hh;have hl:h<(aU g h b st).rm.length:=by rw[w1.len];lia
 by_cases c:x=b
 .subst c;have v:Vw g x st (aU g h x st):=by
   unfold aU;split
   .exact Vw.refl
   .rename_i o e;have n:x≠o:=λz=>hb (z ▸(CC e).1);unfold aD;split
    .exact (gy n).trans (Lp hs n)
    .exact gy n
  have nf:∀k,k<2->((aU g h x st).at_ k).fr x=false:=λk hk=>by
   rw[v.f];by_cases e:k=h
   .rw [e];exact w.nf hb
   .rw [show k=1-h by lia];exact fo
  have b2:x∈((aU g h x st).at_ 2).seq:=(v.m 2).mpr h2;generalize aU g h x st=s at *;have fa:=l1.fa b2 nf;have ne:∀j,j≠h->(cM h x ((s.at_ 2).wd x) s).at_ j=s.at_ j:=λj n=>by unfold cM;rw[CD,ve,aWd λz=>n z.1]
  refine(λk hk m=>?_,λ_ _=>by rw[ne 2 7];exact fa,λf=>l1.me λk hk=>by rw[<-Oq (k:=h) (b:=x) (ws:=(s.at_ 2).wd x)];exact f k hk,);by_cases e:k=h
  .rw [e];unfold cM;rw[CD,ao.bQ hl,aS1 8];exact(aS1 8:(if x=x then _ else _)=_).trans fa
  .rw [ne k e]at m ⊢;exact l1.nr k hk m
 .exact (TF c).lw l1
theorem Tv(hs:0<g.size)(w:aJ g st)(hh:h<2)(l:Lw g bk x st):Lw g bk x (cL g h b st):=by
 unfold cL;split
 .rename_i hb;exact(Sk hb).lw l
 .rename_i hb;let(w1,m2,sub,):=w.g6 (b:=b);have s:=Ot (g:=g) (h:=1-h) m2;let(l2,f2,):=Zkc (b:=b) (h:=1-h) hs w1 7 (Zkb (b:=b) hs w l);exact Zkd hs (w1.sq s) hh (λz=>hb (sub h hh b (by rw[s.sq]at z;exact z))) (by rw[s.sq];exact m2) f2 l2
theorem Zli{sp v:Int}(hs:0<g.size)(w:aJ g st)(hh:h<2)(l:∀x,Lw g bk x st):Lw g (yO bk sp v) x (qc g h sp v st):=by
 unfold qc;let(w1,m1,):=w.cL (b:=sp/g.size) hh;have l1:=λx=>Tv (x:=x) (b:=sp/g.size) hs w hh (l x);generalize cL g h (sp/g.size) st=s1 at *;let(w2,q2,):=w1.cu (b:=sp/g.size) hh;have m2:sp/g.size∈((cu h (sp/g.size) s1).at_ h).seq:=by rw[q2];exact m1
 by_cases c:x=sp/g.size
 .have L5:((cu h (sp/g.size) s1).at_ h).wd (sp/g.size)=aV g.size bk (sp/g.size)/\sp/g.size∉((cu h (sp/g.size) s1).at_ (1-h)).seq:=by
   unfold cu;split
   .have hl:1-h<s1.rm.length:=by rw[w1.len];lia
    refine(by rw[gG hl,aWd 7];exact(l1 _).nr h hh m1,λz=>?_,);rw[bI hl,aS1 8]at z;exact((w1.nd _).mem_erase_iff.mp z).1 8
   .rename_i n;exact((l1 _).nr h hh m1,n,)
  generalize cu h (sp/g.size) s1=s2 at *;let(L5,Xv,):=L5;have hl:h<s2.rm.length:=by rw[w2.len];lia
  have w3:aJ g (s2.set h (oV g (s2.at_ h) sp v)):=w2.sq (E3 (s:=oV g (s2.at_ h) sp v) 8 λ_ z=>.inl z);have PZ:((s2.set h (oV g (s2.at_ h) sp v)).at_ h).wd (sp/g.size)=aV g.size (yO bk sp v) (sp/g.size):=by
   rw[ao.bQ hl,aS1 8,IU hs,<-L5];exact aS1 8
  have Mn:∀j,((s2.set h (oV g (s2.at_ h) sp v)).at_ j).seq=(s2.at_ j).seq:=λj=>N8 8;have MN:∀k,k<2->sp/g.size∈((s2.set h (oV g (s2.at_ h) sp v)).at_ k).seq->((s2.set h (oV g (s2.at_ h) sp v)).at_ k).wd (sp/g.size)=aV g.size (yO bk sp v) (sp/g.size):=λk hk m=>by
   by_cases e:k=h
   .rw [e];exact PZ
   .rw [show k=1-h by lia,Mn]at m;exact absurd m Xv
  have hl3:h<(s2.set h (oV g (s2.at_ h) sp v)).rm.length:=by rw[w3.len];lia
  dsimp only;rw[c];generalize s2.set h (oV g (s2.at_ h) sp v)=s3 at *;unfold markB;split
  .have ft:((vW h (sp/g.size) s3).at_ h).fr (sp/g.size)=true:=by
    unfold vW;rw[ao.bQ hl3,aS1 8];exact aS1 8
   refine(λk hk m=>?_,λ_ f=>(by rw[f h hh]at ft;cases ft),λf=>(by rw[f h 7]at ft;cases ft),);unfold vW at m ⊢;by_cases e:k=h
   .rw [e]at m ⊢;rw[ao.bQ hl3,aS1 8]at m ⊢;exact MN h hh m
   .rw [ao.bQ hl3,aWd e]at m ⊢;exact MN k hk m
  .rw [PZ];exact(Oo w3 MN).lw
 .have vv:Vw g x s1 (markB g h (sp/g.size) ((cu h (sp/g.size) s1).set h (oV g ((cu h (sp/g.size) s1).at_ h) sp v))):=by
   have v1:Vw g x s1 (cu h (sp/g.size) s1):=by
    unfold cu;split
    .exact gy c
    .exact Vw.refl
   have v2:Vw g x s1 ((cu h (sp/g.size) s1).set h (oV g ((cu h (sp/g.size) s1).at_ h) sp v)):=v1.trans (D8 (s:=oV g _ sp v) Iff.rfl (by show(if x=sp/g.size then _ else _)=_;rw[aWd c]) 8);unfold markB;split
   .exact v2.trans (Ub c)
   .exact v2.trans (Lp hs c)
  have q:=vv.lw (l1 x);have e:=IT (g:=g) (bk:=bk) (v:=v) hs c;exact(λk hk m=>by rw[e];exact q.nr k hk m,λm f=>by rw[e];exact q.fa m f,λf=>by rw[e];exact q.me f,)
theorem Lw.fX(l:Lw g bk x st):Lw g bk x (fX st):=(l.nr,l.fa,l.me,)
theorem Zke(hs:0<g.size)(w:aJ g st)(n0:∀h,h<2->(st.at_ h).seq=[])(ho:o∈(st.at_ 2).seq)(l:Lw g bk x st):Lw g bk x (b7 g o st):=by
 have hl:2<st.rm.length:=by rw[w.len];lia
 let(_,s,):=Jj (o:=o) w n0;by_cases c:x=o
 .subst c;have no:∀j,j<3->x∉((b7 g x st).at_ j).seq:=λj hj z=>by
   rw[s]at z;split at z
   .exact ((w.nd j).mem_erase_iff.mp z).1 8
   .rw [n0 j 7]at z;cases z
  refine(λh hh m=>absurd m (no h 7),λm=>absurd m (no 2 7),λ_=>?_,);have nf:∀h,h<2->(st.at_ h).fr x=false:=λh hh=>w.nf (by rw[n0 h hh];simp);unfold b7;cases f2:(st.at_ 2).fr x with
  |true=>
   rw[aS1 8,l.fa ho nf];unfold br;rw[aS1 8];exact Ji AV
  |false=>
   rw[aWd aqS];exact l.me λh hh=>by
    by_cases q:h<2
    .exact nf h q
    .rw [show h=2 by lia];exact f2
 .unfold b7;split
  .exact ((gy c).trans (IZ hs c)).lw l
  .exact (gy c).lw l
theorem Tu(hs:0<g.size)(hh:h<2):∀{bs:List Int}{st:ao},aJ g st->bs.Perm (st.at_ h).seq->Lw g bk x st->Lw g bk x (dY g h bs st)
 | [],st,_,_,l=>l
 |b ::bs,st,w,p,l=>by
  have hb:b∈(st.at_ h).seq:=p.mem_iff.mp aKq;let(w1,s1,):=w.aD hh hb;refine Tu hs hh (bs:=bs) w1 ?_ (Us hs w hh hb l);rw[s1,aS1 8];have:=p.erase b;rwa [aaJ]at this
theorem Tt(hs:0<g.size)(w:aJ g st)(l:Lw g bk x st):∀{k:Nat},k<=2->Lw g bk x (aG g st k)
 |0,_=>l
 |k+1,hk=>Tu hs 7 (w.aG (k:=k) 7).1 aS (Tt hs w l (k:=k) 7)
theorem Tr(hs:0<g.size):∀{bs:List Int}{st:ao},aJ g st->(∀h,h<2->(st.at_ h).seq=[])->bs.Perm (st.at_ 2).seq->Lw g bk x st->Lw g bk x (gk g bs st)
 | [],st,_,_,_,l=>l
 |b ::bs,st,w,n0,p,l=>by
  have hb:b∈(st.at_ 2).seq:=p.mem_iff.mp aKq;let(w1,s1,):=Jj (o:=b) w n0;refine Tr hs (bs:=bs) w1 (λh hh=>by rw[s1,aWd 7];exact n0 h hh) ?_ (Zke hs w n0 hb l);rw[s1,aS1 8];have:=p.erase b;rwa [aaJ]at this
theorem Tq(hs:0<g.size)(w:aJ g st)(l:Lw g bk x st):Lw g bk x (bg g st):=by
 let(w1,s1,):=w.aG (k:=2) (amA _);exact Tr hs w1 (λh hh=>by rw[s1,aS1 hh]) aS (Tt hs w l (amA _))
theorem Zkf(hs:0<g.size)(w:aJ g st)(l:∀x,Lw g bk x st)(sp:Int):(bg g st).mem sp=bk sp:=by
 let(w1,s1,):=Lq w;have e:=(Tq hs w (l (sp/g.size))).me λh hh=>w1.nf (by rw[s1 h hh];simp);rw[<-Tz (g:=g) (bk:=bk) (sp:=sp) hs,<-e,Tz hs]
theorem Zkg(g3:g.n=3):aJ g (yW 3)/\∀x,Lw g (λ_=>0) x (yW 3):=by
 have e:∀j,(yW 3).at_ j=vh:=λj=>by
  unfold yW ao.at_;rw[an8,afy];split <;> rfl
 refine((g3,a77 ..,λj=>by rw[e];exact nodup_nil,λh x _ hx=>(by rw[e]at hx;cases hx),λj x h=>(by rw[e]at h;cases h),),λx=>(λh _ m=>(by rw[e]at m;cases m),λm _=>(by rw[e]at m;cases m),λ_=>8,),)
end
theorem Zlj(x y:Str)(r:Int)(h0:0<=r)(h1:r<2):∃z:Str,fU [V.str x,V.str y] r=!(.str z)/\(z=x\/z=y):=by
 have h:r=0\/r=1:=7
 rcases h with rfl|rfl
 .exact (x,dZ,.inl 8,)
 .exact (y,jx,.inr 8,)
inductive w9(vs:List V)(H:Hp)(Q:VK)(E:XK):Prop
 |mk (b:Addr) (a q c:Int):vs=[.ref b]->av H b a q c->c<400000000->(∀(p:Addr)(sh pl:Int)(r wr:Str)(a' c':Int)(H':Hp),H' p=!(.tup [.int sh,.int pl,.str r,.str wr])->1<=sh->sh<=64->1<=pl->pl<=16->yX r->Wr wr->av H' b a' q c'->c'<=c+06->SB b H H'->Q (.ref p) H')->w9 vs H Q E
example:(oX Bo ck):=by
 let(b,a,q,c,rfl,B,hc,k,):=h;refine(_,(Ze (cO 1 nd (ZR bu (Zl ck hr.m 8 (pc (pv 0) (pc Zi Zb))) Zi (Zv _)))
   (Ze (cO 2 nd (Eh (ZI (pv 1)) (aj ZP Zi (Zl ck hr.m 8 (pc (pv 0) (pc Zi Zb)))) (ak (Zm (K:=K) 8) (ZX (pc Zi (pc Zi (pc Zi (pc Zi (pc Zi Zb)))))) (Zl ck hr.m 8 (pc (pv 0) (pc Zi Zb))) (λ_ _=>8))))
   (Ze (cO 3 nd (aj ZP Zi (Zl ck hr.m 8 (pc (pv 0) (pc (Eh (ZI (pv 1)) Zi Zi) Zb)))))
   (Ze (cO 4 nd (ak (Zm (K:=K) 8) (ZX (pc ZN (pc ZN (pc ZN Zb)))) (Zl ck hr.m 8 (pc (pv 0) (pc Zi Zb))) (λ_ _=>8)))
   (Zg (Zs (ZJ (pc (pv 2) (pc (pv 3) (pc (pv 4) (pc (ak (Zm (K:=K) 8) (ZX (pc ZN (pc ZN Zb))) (Zl ck hr.m 8 (pc (pv 0) (pc Zi Zb))) (λ_ _=>8)) Zb))))))))))),?_,)
 refine hide λu9 e9=>?_;refine(_,8,b,a,q,c,06,8,B,7,9,9,λr1 a1 c1 H1 zm BP B1 hc1 s1=>(8,?_,),);generalize decide (V.int r1=V.int 0)=RK;try dsimp only
 subst e9;try dsimp only
 refine hide λu9 e9=>?_;refine La (λv G=>∃z a' c',v=.int z/\1<=z/\z<=64/\av G b a' q c'/\c'<=c1+1/\SB b H G) (λQ' k'=>?_) ?_
 .refine (121,?_,);cases RK with
  |true=>exact dQ 8 (_,8,b,a1,q,c1,064,8,B1,7,9,9,λr2 a2 c2 H2 zl xU B2 hc2 s2=>(119,k' _ _ (_,a2,c2,8,7,7,B2,7,s1.trans s2,),),)
  |false=>
   refine cB 8 ((sL 05),λp0 hp0=>(_,8,b,a1,q,c1,05,8,B1.same (Zf hp0 _),7,9,9,λr2 a2 c2 H2 zl xU B2 hc2 s2=>?_,),);have q0:b≠p0:=Zd B1.at' hp0;let(sh,hsh,Gu,Gs,):=GQ r2 zl xU;exact(p0,135,au.of (s2 _ _ (aBl q0) Za),hsh,k' _ _ (_,a2,c2,8,Gu,Gs,B2,7,s1.trans (((Zf hp0 _).sb b).trans s2),),)
 rintro _ H2 ⟨sh,a2,c2,rfl,Gu,Gs,B2,hc2,u2⟩;refine gN ?_;try dsimp only
 subst e9;try dsimp only
 refine hide λu9 e9=>?_;refine La (λv G=>∃z a' c',v=.int z/\1<=z/\z<=16/\av G b a' q c'/\c'<=c2+1/\SB b H G) (λQ' k'=>?_) ?_
 .refine (185,?_,);cases RK with
  |true=>exact dQ 8 (b,a2,q,c2,016,8,B2,7,9,9,λr3 a3 c3 H3 Df BO B3 hc3 s3=>(119,k' _ _ (_,a3,c3,8,7,7,B3,7,u2.trans s3,),),)
  |false=>exact cB 8 (b,a2,q,c2,4,8,B2,7,9,9,λr3 a3 c3 H3 Df BO B3 hc3 s3=>(119,k' _ _ (_,a3,c3,8,7,7,B3,7,u2.trans s3,),),)
 rintro _ H3 ⟨pl,a3,c3,rfl,MA,oj,B3,hc3,u3⟩;refine gN ?_;try dsimp only
 subst e9;try dsimp only
 refine hide λu9 e9=>?_;refine((sL 3),λp3 hp3=>(_,8,b,a3,q,c3,3,8,B3.same (Zf hp3 _),7,9,9,λr4 a4 c4 H4 GH Ko B4 hc4 s4=>?_,),);have q3:b≠p3:=Zd B3.at' hp3;let(ru,Yj,Yh,):=GO r4 GH Ko;refine(p3,135,au.of (s4 _ _ (aBl q3) Za),Yj,?_,);subst e9;try dsimp only
 have u4:SB b H H4:=u3.trans (((Zf hp3 _).sb b).trans s4);refine(185,(sL 2),λp5 Nt=>(_,8,b,a4,q,c4,2,8,B4.same (Zf Nt _),7,9,9,λr5 a5 c5 H5 Mx Ql B5 hc5 s5=>?_,),);have q5:b≠p5:=Zd B4.at' Nt;let(wr,hwr,Yg,):=Zlj "late" "through" r5 Mx Ql;refine(p5,135,au.of (s5 _ _ (aBl q5) Za),hwr,(sL 4),λpp hpp=>?_,);exact k pp sh pl ru wr a5 c5 _ Za Gu Gs MA oj Yh Yg (B5.same (Zf hpp _)) 7
  ((u4.trans (((Zf Nt _).sb b).trans s5)).trans ((Zf hpp _).sb b))
theorem Zlk(r:Int)(h0:0<=r)(h1:r<3):∃z:Str,fU [V.str "within",V.str "apart",V.str "free"] r=!(.str z)/\(z ="within" \/z ="apart" \/z ="free"):=by
 have h:r=0\/r=1\/r=2:=7
 rcases h with rfl|rfl|rfl
 .exact (_,dZ,.inl 8,)
 .exact (_,jx,.inr (.inl 8),)
 .exact (_,jw,.inr (.inr 8),)
inductive uf(K:W.Frag)(vs:List V)(H:Hp)(Q:VK)(E:XK):Prop
 |mk (b:Addr) (a q c:Int):vs=[.ref b]->av H b a q c->c<300000000->(∀(pp tp:Addr)(ts:List Addr)(size:Int)(kind:Str)(bz:List Cf)(a' c':Int)(H':Hp),H' pp=!(.tup [.int size,.str kind,.ref tp])->jz K H' tp ts bz->(kind ="within" \/kind ="apart" \/kind ="free")->1<=size->size<=16->1<=bz.length->bz.length<=4->av H' b a' q c'->c'<=c+40->SB b H H'->Q (.ref pp) H')->uf K vs H Q E
example:(Aq HZ ck Bo):=by
 let(b,a,q,c,rfl,B,hc,k,):=h;refine(_,(Ze (cO 1 nd (ak (Zm (K:=K) 8) (ZX (pc ZN (pc ZN (pc ZN Zb)))) (Zl ck hr.m 8 (pc (pv 0) (pc Zi Zb))) (λ_ _=>8)))
   (Ze (cO 2 nd (aj ZP Zi (Zl ck hr.m 8 (pc (pv 0) (pc (ak (Zm (K:=K) 8) (ZX (pc Zi (pc Zi Zb))) (ZK Pg 8 T.ET LG (pc (ZR bu (Zl ck hr.m 8 (pc (pv 0) (pc Zi Zb))) Zi (Zv _)) Zb)) (λ_ _=>8)) Zb)))))
   (Zg (Zs (ZJ (pc (pv 2) (pc (pv 1) (pc (ZK (Zcx (K:=K) 8) 8 T.HF Ph (pc (ZL (Zw (iN:=(Zp sA)) (oN:=Ey) (N:=["_law_k","_law_box_here"]) (own:=1) (js:=[0]) 6 8 8) 8 (ZO 8 T.sJ (pc (aj ZP Zi (Zl ck hr.m 8 (pc (pv 0) (pc Zi Zb)))) Zb)) (λ_ _ _ _ _ _=>(bG 0 (show List.Nodup (["_law_k","_law_box_here"]:List Str) by decide +kernel))) (λ_ _ _ _ _ _=>(Zl Bo hr.m 8 (pc (pv 1) Zb)))) Zb)) Zb)))))))),?_,)
 refine hide λu9 e9=>?_;refine((sL 3),λp1 hp1=>(_,8,b,a,q,c,3,8,B.same (Zf hp1 _),7,9,9,λr1 a1 c1 H1 zm BP B1 hc1 s1=>?_,),);have q1:b≠p1:=Zd B.at' hp1;let(kd,hkd,Q4,):=Zlk r1 zm BP;refine(p1,135,au.of (s1 _ _ (aBl q1) Za),hkd,gN ?_,);try dsimp only
 subst e9;try dsimp only
 refine hide λu9 e9=>?_;have u1:SB b H H1:=((Zf hp1 _).sb b).trans s1;refine(_,8,(sL 2),λp2 hp2=>(_,8,b,a1,q,c1,08,8,B1.same (Zf hp2 _),7,9,9,λr2 a2 c2 H2 zl xU B2 hc2 s2=>(8,.inr (_,8,?_,),),),);have q2:b≠p2:=Zd B1.at' hp2;let(n,hn,hn',):=So 4 16 (decide (V.int r2=V.int 0));refine(p2,135,au.of (s2 _ _ (aBl q2) Za),hn,b,a2,q,c2,n,8,B2,7,7,7,λr3 a3 c3 H3 Df BO B3 hc3 s3=>(119,gN ?_,),);try dsimp only
 subst e9;try dsimp only
 have u3:SB b H H3:=(((u1.trans ((Zf hp2 _).sb b)).trans s2)).trans s3;refine(185,b,a3,q,c3,4,8,B3,7,9,9,λr4 a4 c4 H4 GH Ko B4 hc4 s4=>(177,7,7,λl hl=>?_,),);have pB:l≠b:=aBl (Zd B4.at' hl);have u4:=u3.trans s4;refine ZY (lo:=0) (n:=(1+r4).toNat) (l:=l) (λj ys σ G=>∃(v0:Option V)(ts:List Addr)(bz:List Cf)(a' c':Int),σ=[v0,!(.ref b)]/\ys=ts.map V.ref/\ts.length=j/\bz.length=j/\(∀(i:Nat)(t:Addr)(c:Cf),ts[i]?=!t->bz[i]?=!c->∃wr:Str,G t=!(.tup [.int c.sh,.int c.pl,.str c.ru,.str wr])/\c.late=decide (wr ="late")/\Wr wr)/\(∀c∈bz,1<=c.sh/\c.sh<=64/\1<=c.pl/\c.pl<=16/\yX c.ru)/\G l=!(.lst ys)/\av G b a' q c'/\c'<=c4+06*(j:Int)/\SB b H G)
  (none,[],[],a4,c4,131,(λi t c h=>by simp at h),(λc h=>by simp at h),Za,B4.same (Zf hl _),7,u4.trans ((Zf hl _).sb b),) ?_ ?_
 .rintro j ys σ G hj hys ⟨v0,ts,bz,a',c',rfl,rfl,hl1,hl2,hat,hcf,g1,B',hc',u'⟩;refine(_,8,b,a',q,c',8,B',7,λp sh pl r wr a5 c5 G5 ep Gu Gs MA oj hr hw B5 hc5 s5=>?_,);have g5:=s5 _ _ pB g1;have Xr:p≠l:=λz=>by rw[z,g5]at ep;cases ep
  refine jd.of (atw (7:(1+r4).toNat<=4) 9) hj hys g5 (_,ts++[p],bz++[(sh,pl,r,decide (wr ="late"),)],a5,c5,8,by rw[avl];rfl,by rw[a14,hl1];rfl,by rw[a14,hl2];rfl,λi t c h1 h2=>?_,λc hc=>?_,Za,B5.sb (E6 l _ _) (aBl pB),7,λx o nx e=>?_,)
  .by_cases hi:i<j
   .rw [ahZ 7]at h1 h2;let(wr',e1,e2,):=hat i t c h1 h2;refine(wr',?_,e2,);have MK:t≠b:=λz=>by rw[z,B'.at']at e1;cases e1
    have lY:=s5 _ _ MK e1;rw[Zc (λz=>by rw[z,g5]at lY;cases lY)];exact lY
   .have hi2:i=j:=by have:=(au3.mp h1).1;rw[a14,adN]at this;lia
    subst hi2;rw[aWn 7,show i-ts.length=0 by lia]at h1;rw[aWn 7,show i-bz.length=0 by lia]at h2;cases h1;cases h2;exact(wr,by rw[Zc Xr];exact ep,8,hw,)
  .rcases bdf.mp hc with hc|hc
   .exact hcf c hc
   .rw [aU2.mp hc];exact(Gu,Gs,MA,oj,hr,)
  .have Xk:x≠l:=λz=>by
    rw[z]at e;have:=u4 _ _ pB e;rw[this]at hl;cases hl
   rw[Zc Xk];exact s5 _ _ nx (u' _ _ nx e)
 rintro ys σ G _ ⟨v0,ts,bz,a',c',rfl,rfl,hl1,hl2,hat,hcf,g1,B',hc',u'⟩;refine(l,_,8,.inl (au.of g1,λtp htp=>((sL 3),λpp hpp=>?_,),),);have s5:=Zf htp (.tup (ts.map V.ref));have s6:=s5.trans (Zf hpp (.tup [.int (1+r3),.str kd,.ref tp]));refine k pp tp ts (1+r3) kd bz a' c' _ Za (Zf hpp _ _ _ Za,by show ts.length=bz.length;lia,λi t c h1 h2=>by let(wr,e1,e2,):=hat i t c h1 h2;exact(wr,s6 _ _ e1,e2,),hcf,) Q4 (by show 1<=1+r3;lia) (by show 1+r3<=16;lia) (by show 1<=bz.length;lia) (by show bz.length<=4;lia) (B'.same s6) 7 (u'.trans (s6.sb b))
inductive xo(vs:List V)(H:Hp)(Q:VK)(E:XK):Prop
 |mk (b:Addr) (a q c x y:Int):vs=[.ref b,.int x,.int y]->av H b a q c->c<1099511627770->0<x->x<=y->y<1073741824->(∀(r a' c':Int)(H':Hp),1<=r->r<=y->av H' b a' q c'->c'<=c+2->SB b H H'->Q (.int r) H')->xo vs H Q E
example:(As HX ck):=by
 let(b,a,q,c,x,y,rfl,B,hc,x0,xy,y1,k,):=h;refine(_,(Ze (cO 3 nd (ZR bu (Zl ck hr.m 8 (pc (pv 0) (pc Zi Zb))) Zi (Zv _)))
   (Zg (Zs (aj ZP Zi (Zl ck hr.m 8 (pc (pv 0) (pc (Eh (ZI (pv 3)) (pv 2) (pv 1)) Zb))))))),?_,)
 refine(_,8,b,a,q,c,08,8,B,7,9,9,λr a1 c1 G1 r0 r1 B1 hc1 t1=>?_,);refine(8,gN ?_,);refine(185,OL (λz=>?_) (λz=>?_),)
 .refine (_,8,b,a1,q,c1,y,8,B1,7,7,7,λr2 a2 c2 G2 zl xU B2 hc2 t2=>?_,);exact(119,k (1+r2) a2 c2 G2 7 7 B2 7 (t1.trans t2),)
 .refine (_,8,b,a1,q,c1,x,8,B1,7,7,7,λr2 a2 c2 G2 zl xU B2 hc2 t2=>?_,);exact(119,k (1+r2) a2 c2 G2 7 7 B2 7 (t1.trans t2),)
inductive Dd where
 |rd (sp:Int)
 |wt (sp x:Int)
def Dd.sp:Dd->Int
 | .rd sp=>sp
 | .wt sp _=>sp
def Dd.vs:Dd->List V
 | .rd sp=>[.str "read",.int sp]
 | .wt sp x=>[.str "write",.int sp,.int x]
def Dd.ok:Dd->Prop
 | .rd sp=>0<=sp/\sp<=9999
 | .wt sp x=>(0<=sp/\sp<=9999)/\x.natAbs<10 ^ 40
inductive tZ(vs:List V)(H:Hp)(Q:VK)(E:XK):Prop
 |mk (b:Addr) (a q c:Int):vs=[.ref b]->av H b a q c->c<400000000->(∀(x a' c':Int)(H':Hp),x.natAbs<10 ^ 40->av H' b a' q c'->c'<=c+08->SB b H H'->Q (.int x) H')->tZ vs H Q E
example:(An HD ck):=by
 let(b,a,q,c,rfl,B,hc,k,):=h;refine(_,(Ze (cO 1 nd (Zl ck hr.m 8 (pc (pv 0) (pc Zi Zb))))
   (Ze (aF (Zx qH (pv 1) Zi (Zv _)) (Ze (cO 2 nd (Zl ck hr.m 8 (pc (pv 0) (pc (ak (Zm (K:=K) 8) (ZX (pc Zi (pc Zi (pc Zi Zb)))) (pv 1) (λ_ _=>8)) Zb))))
   (Zg (Zs (ak (Zm (K:=K) 8) (ZX (pc (pv 2) (pc (aj ZP Zi (pv 2)) (pc (aj CA (yg Od Zi) (pv 2)) Zb)))) (pv 1) (λ_ _=>8))))) Zu)
   (Ze (cO 2 nd Zi)
   (Ze (vd a49 8 (ZO 8 T.sJ (pc (aj ZP Zi (Zl ck hr.m 8 (pc (pv 0) (pc Zi Zb)))) Zb)) (bG 3 nd) (Zg (cO 2 nd (aj ZP (aj vU (pv 2) (aj Oe Zi Zi)) (Zl ck hr.m 8 (pc (pv 0) (pc (aj Oe Zi Zi) Zb)))))))
   (Zg (Zs (ak (Zm (K:=K) 8) (ZX (pc (pv 2) (pc (aj CA Zi (pv 2)) Zb))) (Zl ck hr.m 8 (pc (pv 0) (pc Zi Zb))) (λ_ _=>8)))))))),?_,)
 refine(_,8,b,a,q,c,4,8,B,7,9,9,λr1 a1 c1 H1 zm BP B1 hc1 s1=>gN ?_,);try dsimp only
 refine(433,yU (λz=>?_) (λz=>?_),)
 .obtain ⟨n,hn,n0,n1⟩:∃n:Int,fU [V.int 09,V.int 99,V.int 99] r1=!(.int n)/\1<=n/\n<=99:=by
   have h:r1=0\/r1=1\/r1=2:=7
   rcases h with rfl|rfl|rfl
   .exact (09,dZ,9,9,)
   .exact (099,jx,9,9,)
   .exact (099,jw,9,9,)
  refine(_,8,(sL 3),λp1 hp1=>(_,8,p1,135,au.of Za,hn,b,a1,q,c1,n,8,B1.same (Zf hp1 _),7,7,7,λr2 a2 c2 H2 zl xU B2 hc2 s2=>gN ?_,),);try dsimp only
  obtain⟨x,hx,x1⟩:∃x:Int,fU [V.int r2,V.int (1+r2),V.int (-1-r2)] r1=!(.int x)/\x.natAbs<10 ^ 40:=by
   have h:r1=0\/r1=1\/r1=2:=7
   have Sf:1000<=10 ^ 40:=9
   rcases h with rfl|rfl|rfl
   .exact (_,dZ,7,)
   .exact (_,jx,7,)
   .exact (_,jw,7,)
  exact(86967,(sL 3),λp2 hp2=>(_,8,p2,135,au.of Za,hx,k x a2 c2 _ x1 (B2.same (Zf hp2 _)) 7 (((s1.trans ((Zf hp1 _).sb b)).trans s2).trans ((Zf hp2 _).sb b)),),)
 .dsimp only[dB];refine gN ?_;try dsimp only
  refine(_,8,b,a1,q,c1,4,8,B1,7,9,9,λr2 a2 c2 H2 zl xU B2 hc2 s2=>(177,7,7,?_,),);have e7:(10:Int) ^ (07:Int).toNat=10000000:=9
  refine LS (lo:=0) (n:=(1+r2).toNat) (λi σ G=>∃(v3:Option V)(z a' c':Int),σ=[!(.ref b),!(.int r1),!(.int z),v3]/\0<=z/\z<10000000 ^ i/\av G b a' q c'/\c'<=c2+(i:Int)/\SB b H G)
   (none,0,a2,c2,8,9,9,B2,7,s1.trans s2,) ?_ ?_
  .rintro i σ G hi ⟨v3,z,a',c',rfl,z0,z1,B',hc',s'⟩;refine gN ?_;try dsimp only
   refine(183,(9,9,9,),119,.inr (by rw[e7];decide),183,(9,9,9,),b,a',q,c',_,8,B',7,by rw[e7];decide,by rw[e7];decide,λr3 a3 c3 H3 Df BO B3 hc3 s3=>(119,gN (_,_,a3,c3,8,?_,?_,B3,7,s'.trans s3,),),)
   .rw [e7];lia
   .rw [e7]at BO ⊢;rw[Int.pow_succ];generalize(10000000:Int) ^ i=X at *;lia
  .rintro σ G ⟨v3,z,a',c',rfl,z0,z1,B',hc',s'⟩;have zb:z<10000000000000000000000000000:=by
    have h:(1+r2).toNat=1\/(1+r2).toNat=2\/(1+r2).toNat=3\/(1+r2).toNat=4:=7
    have p1:(10000000:Int) ^ 1=10000000:=9
    have p2:(10000000:Int) ^ 2=100000000000000:=9
    have p3:(10000000:Int) ^ 3=1000000000000000000000:=9
    have p4:(10000000:Int) ^ 4=10000000000000000000000000000:=9
    rcases h with e|e|e|e <;> rw[e]at z1 <;> lia
   have Sf:10000000000000000000000000000<=10 ^ 40:=9
   refine(439,(sL 2),λp2 hp2=>(_,8,b,a',q,c',2,8,B'.same (Zf hp2 _),7,9,9,λr4 a4 c4 H4 GH Ko B4 hc4 s4=>?_,),);have np:b≠p2:=Zd B'.at' hp2;obtain⟨x,hx,x1⟩:∃x:Int,fU [V.int z,V.int (0-z)] r4=!(.int x)/\x.natAbs<10 ^ 40:=by
    have h:r4=0\/r4=1:=7
    rcases h with rfl|rfl
    .exact (_,dZ,7,)
    .exact (_,jx,7,)
   exact(p2,135,au.of (s4 _ _ (aBl np) Za),hx,k x a4 c4 _ x1 B4 7 ((s'.trans ((Zf hp2 _).sb b)).trans s4),)
inductive uv(vs:List V)(H:Hp)(Q:VK)(E:XK):Prop
 |mk (b l:Addr) (a q c size:Int) (ns:List Int):vs=[.ref b,.int size,.ref l]->av H b a q c->l≠b->c<350000000->1<=size->size<=16->H l=!(.lst (ns.map V.int))->1<=ns.length->ns.length<=20->(∀x∈ns,0<=x/\x<=100000/\x<=9999/size)->(∀(t:Addr)(d:Dd)(a' c':Int)(H':Hp),H' t=!(.tup d.vs)->d.ok->d.sp/size∈ns->av H' b a' q c'->c'<=c+12->SB b H H'->Q (.ref t) H')->uv vs H Q E
example:(Aw HY ck HD):=by
 let(b,l,a,q,c,size,ns,rfl,B,pB,hc,z0,z1,hl,l0,l1,Cc,k,):=h;refine(_,(Ze (cO 3 nd (Zl ck hr.m 8 (pc (pv 0) (pc Zi Zb))))
   (Ze (cO 4 nd (Zq (Zgo 8) 8 T.LZ Zid (pc Zi (pc (aj ZP (aj vU (ak (Zm (K:=K) 8) (pv 2) (Zl ck hr.m 8 (pc (pv 0) (pc (Zq (ZD (K:=K) 8) 8 T.wI avg (pc (pv 2) Zb)) Zb))) (λ_ _=>8)) (pv 1)) (Zl ck hr.m 8 (pc (pv 0) (pc (pv 1) Zb)))) Zb))))
   (Zg (Zs (Eh (Zx bu (pv 3) Zi (Zv _)) (ZJ (pc ZN (pc (pv 4) (pc (Zl HD hr.m 8 (pc (pv 0) Zb)) Zb)))) (ZJ (pc ZN (pc (pv 4) Zb)))))))),?_,)
 refine(_,8,b,a,q,c,2,8,B,7,9,9,λr1 a1 c1 H1 zm BP B1 hc1 s1=>gN ?_,);try dsimp only
 have hl1:=s1 _ _ pB hl;refine(185,l,_,8,.inl (au.of hl1),b,a1,q,c1,_,8,B1,7,by rw[aHJ];lia,by rw[aHJ];lia,λr2 a2 c2 H2 zl xU B2 hc2 s2=>?_,);rw[aHJ]at xU;let(x,hx,xm,):=Oa zl xU;have xb:=Cc x xm;refine(l,135,au.of (s2 _ _ pB hl1),hx,183,.inl (7,7,),121,b,a2,q,c2,size,8,B2,7,7,7,λr3 a3 c3 H3 Df BO B3 hc3 s3=>(253,gN ?_,),);have m0:0<=x*size:=Int.mul_nonneg xb.1 7;have ok:0<=(if x*size+r3<9999 then x*size+r3 else 9999)/\(if x*size+r3<9999 then x*size+r3 else 9999)<=9999:=by split <;> lia
 have Q3:(if x*size+r3<9999 then x*size+r3 else 9999)/size∈ns:=by
  split
  .have e:(x*size+r3)/size=x:=by
    rw[Int.add_comm,abW _ _ 7,ac0 Df BO,Int.zero_add]
   rw[e];exact xm
  .have h1:9999/size<=x:=by
    have h2:9999/size<x+1:=(Int.ediv_lt_iff_lt_mul 7).mpr (by rw[Int.add_mul,Int.one_mul];lia);lia
   rw[show 9999/size=x by have:=xb.2.2;lia];exact xm
 generalize(if x*size+r3<9999 then x*size+r3 else 9999)=sp at *;try dsimp only
 have u3:=(s1.trans s2).trans s3;refine(145,OL (λz=>?_) (λz=>?_),)
 .exact (121,b,a3,q,c3,8,B3,7,λy a4 c4 H4 yb B4 hc4 s4=>((sL 3),λt ht=>k t (.wt sp y) a4 c4 _ Za (ok,yb,) Q3 (B4.same (Zf ht _)) 7 ((u3.trans s4).trans ((Zf ht _).sb b)),),)
 .exact (_,8,(sL 2),λt ht=>k t (.rd sp) a3 c3 _ Za ok Q3 (B3.same (Zf ht _)) 7 (u3.trans ((Zf ht _).sb b)),)
structure A6(mem:Int->Int)(ps:List (Int×Int)):Prop where
 up:ps.Pairwise λa b=>a.1<b.1
 mm:∀s v,(s,v)∈ps↔mem s=v/\v≠0
theorem A6.uniq{mem:Int->Int}{ps qs:List (Int×Int)}(h1:A6 mem ps)(h2:A6 mem qs):ps=qs:=by
 have nd:∀{l:List (Int×Int)},(l.Pairwise λa b=>a.1<b.1)->l.Nodup:=λh=>h.imp λ{a b} z e=>by rw[e]at z;lia
 have pm:ps.Perm qs:=(auU (nd h1.up) (nd h2.up)).mpr λq=>by
  let(s,v,):=q;rw[h1.mm,h2.mm]
 exact List.Perm.eq_of_pairwise (le:=λa b=>a.1<b.1) (λa b _ _ z1 z2=>7) h1.up h2.up pm
theorem A6.congr{mem mem':Int->Int}{ps:List (Int×Int)}(h:A6 mem ps)(e:∀s,mem s=mem' s):A6 mem' ps:=(h.up,λs v=>by rw[h.mm,e],)
def rG(H:Hp)(l:Addr)(ps:List (Int×Int)):Prop:=∃as:List Addr,H l=!(.lst (as.map V.ref))/\as.length=ps.length/\∀(i:Nat)(a:Addr)(p:Int×Int),as[i]?=!a->ps[i]?=!p->H a=!(.tup [.int p.1,.int p.2])
theorem rG.same{H H':Hp}{l:Addr}{ps:List (Int×Int)}(h:rG H l ps)(s:aA H H'):rG H' l ps:=by
 let(as,h1,h2,h3,):=h;exact(as,s _ _ h1,h2,λi a p e1 e2=>s _ _ (h3 i a p e1 e2),)
theorem rG.eqv{H:Hp}{l m:Addr}{ps:List (Int×Int)}(h1:rG H l ps)(h2:rG H m ps)(hl:ps.length<=1000):Eqv 2 H (.ref l) (.ref m):=by
 let(as,a1,a2,a3,):=h1;let(bs,b1,b2,b3,):=h2;refine .inr (l,m,119,.inl (a1,b1,),by rw[aHJ,aHJ,a2,b2],by rw[aHJ,a2];exact hl,λi u v e1 e2=>?_,);rw[a7o]at e1 e2;cases ha:as[i]? with
 |none=>rw[ha]at e1;cases e1
 |some a=>
  cases hb:bs[i]? with
  |none=>rw[hb]at e2;cases e2
  |some b=>
   rw[ha]at e1;rw[hb]at e2;cases e1;cases e2;have hi:i<ps.length:=by rw[<-a2];exact(au3.mp ha).1
   have hp:ps[i]?=!ps[i]:=ais hi;exact Eqv.IC (a3 i a _ ha hp) (b3 i b _ hb hp) (by show 2<=1000;decide) λx hx=>by
    rcases ajG.mp hx with rfl|hx
    .trivial
    .rw [aU2.mp hx];trivial
def mK(H:Hp)(bd:Addr)(bk:Int->Int)(n:Nat):Prop:=∃kvs,H bd=!(.dK kvs)/\(kvs.length<=n/\KI kvs)/\∀s,(aL kvs (Sum.inl s:Key)).getD (V.int 0)=V.int (bk s)
theorem mK.frame{H H':Hp}{bd:Addr}{bk:Int->Int}{n:Nat}(h:mK H bd bk n)(f:∀o,H bd=!o->H' bd=!o):mK H' bd bk n:=by
 let(kvs,h1,h2,):=h;exact(kvs,f _ h1,h2,)
theorem mK.put{H:Hp}{bd:Addr}{bk:Int->Int}{n:Nat}{kvs:List (Key×V)}(h2:kvs.length<=n/\KI kvs)(h3:∀s,(aL kvs (Sum.inl s:Key)).getD (V.int 0)=V.int (bk s))(sp v:Int):mK (upd H bd (.dK (putK kvs (Sum.inl sp) (V.int v)))) bd (yO bk sp v) (n+1):=by
 refine(_,Za,(atw (Jz ..) 7,h2.2.put ..,),λs=>?_,);rw[Fl];unfold yO;by_cases c:s=sp
 .rw [aS1 (by rw[c]),aS1 c];rfl
 .rw [aWd (λz=>c (aCk z)),aWd c];exact h3 s
theorem mK.le{H:Hp}{bd:Addr}{bk:Int->Int}{n m:Nat}(h:mK H bd bk n)(e:n<=m):mK H bd bk m:=by
 let(kvs,h1,h2,h3,):=h;exact(kvs,h1,(7,h2.2,),h3,)
noncomputable def qf(g:aM)(h:Nat)(d:Dd)(st:ao):ao:=match d with
 | .rd sp=>cL g h (sp/g.size) st
 | .wt sp x=>qc g h sp x st
def Sd(bk:Int->Int):Dd->Int->Int
 | .rd _=>bk
 | .wt sp v=>yO bk sp v
inductive xg(vs:List V)(H:Hp)(Q:VK)(E:XK):Prop
 |mk (b:Addr) (a q c:Int):vs=[.ref b]->av H b a q c->c<300000000->(∀(t tn tf:Addr)(size:Int)(cn cf:Cf)(a' c':Int)(H':Hp),H' t=!(.tup [.int size,.ref tn,.ref tf])->zF H' tn cn->zF H' tf cf->1<=size->size<=16->av H' b a' q c'->c'<=c+50->SB b H H'->Q (.ref t) H')->xg vs H Q E
example:(Ar HV HZ Bo):=by
 let(b,a,q,c,rfl,B,hc,k,):=h;refine(_,(Ze (tK (Zl HZ hr.m 8 (pc (pv 0) Zb)) (ZH (K:=K) (n:=3) 8 8 (Zo (bG 1 nd) (Zo (bG 2 nd) (Zo (bG 3 nd) ZF)))))
   (Zg (Zs (ZJ (pc (pv 1) (pc (ak (ZW (K:=K) 8) (pv 3) Zi (λ_ _=>8)) (pc (Zl Bo hr.m 8 (pc (pv 0) Zb)) Zb))))))),?_,)
 refine(_,8,b,a,q,c,8,B,hc,λpp tp WL size kind bz a1 c1 H1 hpp pa Q4 z0 z1 l1 l4 B1 hc1 s1=>(pp,_,8,aX.of hpp,125,gN (109,gN (109,gN (8,?_,),),),),);try dsimp only
 have nt:∀{x ys},H1 x=!(.tup ys)->x≠b:=λ{x ys} e z=>by rw[z,B1.at']at e;cases e
 obtain⟨t0,RU⟩:∃t0,WL[0]?=!t0:=(_,ais (by rw[pa.len];exact l1),);obtain⟨c0,RZ⟩:∃c0,bz[0]?=!c0:=(_,ais l1,);let(wr,ew,e1,e2,):=pa.at_ 0 t0 _ RU RZ;let(q1,q2,q3,q4,q5,):=pa.cf _ (a1U RZ);refine(121,tp,135,aX.of pa.top,yV (j:=0) (by rw[a7o,RU];rfl),_,8,b,a1,q,c1,8,B1,7,λp sh pl r PY a2 c2 H2 e3 f1 f2 f3 f4 f5 f6 B2 hc2 s2=>((sL 3),λt ht=>?_,),);have s3:=Zf ht (.tup [V.int size,V.ref t0,V.ref p]);refine k t t0 p size c0 (sh,pl,r,decide (PY ="late"),) a2 c2 _ Za (wr,s3 _ _ (s2 _ _ (nt ew) ew),e1,e2,q1,q2,q3,q4,q5,) (PY,s3 _ _ e3,8,f6,f1,f2,f3,f4,f5,) z0 z1 (B2.same s3) 7 ((s1.trans s2).trans (s3.sb b))
inductive uo(vs:List V)(H:Hp)(Q:VK)(E:XK):Prop
 |mk (b l:Addr) (a q c size:Int) (ns:List Int):vs=[.ref b,.int size,.ref l]->av H b a q c->l≠b->c<340000000->1<=size->size<=16->H l=!(.lst (ns.map V.int))->1<=ns.length->ns.length<=20->(∀x∈ns,0<=x/\x<=100000/\x<=9999/size)->(∀(u t:Addr)(h:Nat)(d:Dd)(a' c':Int)(H':Hp),H' u=!(.tup [.int (h:Int),.ref t])->H' t=!(.tup d.vs)->h<2->d.ok->d.sp/size∈ns->av H' b a' q c'->c'<=c+13->SB b H H'->Q (.ref u) H')->uo vs H Q E
example:(oY HR ck HY):=by
 let(b,l,a,q,c,size,ns,rfl,B,pB,hc,z0,z1,hl,l0,l1,Cc,k,):=h;refine(_,(Ze (cO 3 nd (Zl ck hr.m 8 (pc (pv 0) (pc Zi Zb))))
   (Zg (Zs (ZJ (pc (pv 3) (pc (Zl HY hr.m 8 (pc (pv 0) (pc (pv 1) (pc (pv 2) Zb)))) Zb)))))),?_,)
 refine(_,8,b,a,q,c,2,8,B,7,9,9,λr1 a1 c1 H1 zm BP B1 hc1 s1=>gN ?_,);try dsimp only
 obtain⟨h,rfl,hh⟩:∃h:Nat,r1=(h:Int)/\h<2:=(r1.toNat,7,7,);refine(441,b,l,a1,q,c1,size,ns,8,B1,pB,7,z0,z1,s1 _ _ pB hl,l0,l1,Cc,λt d a2 c2 H2 et ok iU B2 hc2 s2=>((sL 2),λu hu=>?_,),);have s3:=Zf hu (.tup [V.int (h:Int),V.ref t]);exact k u t h d a2 c2 _ Za (s3 _ _ et) hh ok iU (B2.same s3) 7 ((s1.trans s2).trans (s3.sb b))
noncomputable def WE(g:aM)(h:Nat)(st:ao):Dd->V
 | .rd sp=>.int (tV g ((qf g h (.rd sp) st).at_ h) sp)
 | .wt _ _=>.aN
inductive xF(K:W.Frag)(vs:List V)(H:Hp)(Q:VK)(_v3:XK):Prop
 |mk (A:TA) (g:aM) (st:ao) (os:OS) (t:Addr) (h:Nat) (d:Dd):vs=[.ref A.p,.int (h:Int),.ref t]->rE K H A g st os->h<2->H t=!(.tup d.vs)->d.sp/g.size∈g.U->(∀H' e' os' tp,H' tp=!(.tup [WE g h st d,.ref A.ev])->rE K H' (A.re e') g (fX (qf g h d st)) os'->oB g.n H' A.ev (qf g h d st).ev->(qf g h d st).ev.length<=100->¬OW (A.re e') os' A.ev->bM (OW A os) H H' (OW (A.re e') os')->Q (.ref tp) H')->xF K vs H Q _v3
example:(Av HW FI FO):=by
 let(A,g,st,os,t,h,d,rfl,R,hh,ht,bU,q,):=h;refine(_,(Ze (aF (Zx bu (ak (ZW (K:=K) 8) (pv 2) Zi (λ_ _=>8)) ZN (Zv _)) (Zg (Zs (Zj FI hr.m T.aK (pv 0) (pc (pv 1) (pc (ak (ZW (K:=K) 8) (pv 2) Zi (λ_ _=>8)) Zb))))) Zu)
   (Zg (Zs (ZJ (pc Oh (pc (Zj FO hr.m T.aK (pv 0) (pc (pv 1) (pc (ak (ZW (K:=K) 8) (pv 2) Zi (λ_ _=>8)) (pc (ak (ZW (K:=K) 8) (pv 2) Zi (λ_ _=>8)) Zb)))) Zb)))))),?_,)
 let(dx,h1,):=R.at_.ob;cases d with
 |rd sp=>
  refine(_,8,t,135,aX.of ht,dZ,113,dQ (a7Y 8) ?_,);exact(_,8,A.p,dx,_,8,h1,az ..,121,t,135,aX.of ht,jx,A,g,st,os,h,sp,8,R,hh,bU,q,)
 |wt sp x=>
  refine(_,8,t,135,aX.of ht,dZ,113,cB 6 ?_,);dsimp only[dB];refine(_,8,A.p,dx,_,8,h1,az ..,121,t,135,aX.of ht,jx,_,8,t,135,aX.of ht,jw,A,g,st,os,h,sp,x,8,R,hh,bU,λH2 e' eU r1 r2 r3 r4 r5=>((sL 2),λtp htp=>?_,),);have s3:=Zf htp (.tup [V.aN,.ref A.ev]);exact q _ e' eU tp Za (r1.same s3) (r2.frame (λo e=>s3 _ _ e) λx ys e=>s3 _ _ e) r3 r4 (r5.trans (bM.same s3))
theorem Zkh{g:aM}{st:ao}{h:Nat}{d:Dd}{bk:Int->Int}{x:Int}(hs:0<g.size)(w:aJ g st)(hh:h<2)(l:∀x,Lw g bk x st):Lw g (Sd bk d) x (fX (qf g h d st)):=by
 cases d with
 |rd sp=>exact(Tv hs w hh (l x)).fX
 |wt sp v=>exact(Zli hs w hh l).fX
def vD:V->PyData
 | .bl b=>.bool b
 | .int i=>.int i
 | .str s=>.str s
 |_=>.none
def pR(e:List V):PyData:=.tuple (e.map vD)
def pQ(es:List (List V)):Str:=(PyData.list (es.map pR)).shown
theorem Tp(t:Str):∀(ts:List Str)(k:Nat)(acc:Str),(textFrom k acc ts).length+t.length<=(textFrom k acc (ts++[t])).length
 | [],k,acc=>by
  simp only[a9K,textFrom,Str.length_append];lia
 |u ::ts,k,acc=>by
  rw[aKC];simp only[textFrom];exact Tp t ts _ _
theorem ZhM(m:Nat):0<(PyData.int (m:Int)).shown.length:=by
 simp only[PyData.shown];show 0<(Str.ofString (toString ((m:Nat):Int))).cps.size;rw[<-aRY,W.KIN.signs_num,aHJ];exact Nat.length_toDigits_pos
theorem Vd(d:PyData):∀ds:List PyData,PyData.shownAll (ds++[d])=PyData.shownAll ds++[d.shown]
 | []=>by simp only[a9K,PyData.shownAll]
 |e ::ds=>by
  rw[aKC];simp only[PyData.shownAll,aKC];rw[Vd d ds]
theorem ZfW(ds:List PyData)(m:Nat):(PyData.list ds).shown.length<(PyData.list (ds++[.int (m:Int)])).shown.length:=by
 have q:=Tp (PyData.int (m:Int)).shown (PyData.shownAll ds) 0 (Str.ofString "[");have p:=ZhM m;simp only[PyData.shown]at p ⊢;rw[Vd];simp only[PyData.shown]at q ⊢;unfold listText;rw[Str.length_append,Str.length_append];lia
structure HeldAt(G:Hp)(n:Nat)(lh:Addr)(hs:List (Addr×Addr×List (List V))):Prop where
 top:G lh=!(.lst (hs.map λp=>V.ref p.1))
 at_:∀p∈hs,G p.1=!(.tup [.ref p.2.1,.str (pQ p.2.2)])/\oB n G p.2.1 p.2.2/\p.2.2.length<=900/\p.2.1≠lh
 un:(hs.map λp=>p.2.1).Nodup
theorem HeldAt.frame{G G1:Hp}{n:Nat}{lh:Addr}{hs:List (Addr×Addr×List (List V))}(h:HeldAt G n lh hs)(f:∀x o,G x=!o->((x=lh\/∃p∈hs,x=p.2.1)\/¬Mt o)->G1 x=!o):HeldAt G1 n lh hs:=
 (f _ _ h.top (.inl (.inl 8)),λp hp=>by
  let(h1,h2,h3,):=h.at_ p hp;exact(f _ _ h1 (.inr id),h2.frame (λo e=>f _ _ e (.inl (.inr (p,hp,8,)))) λx ys e=>f _ _ e (.inr id),h3,),h.un,)
theorem IG{n:Nat}{e:List V}{G:Hp}{a:Addr}(he:Ev n e)(n4:n<=4)(h:G a=!(.tup e)):A5 (λ_=>False) G 1 (.ref a) (pR e):=by
 have fl:∀v∈e,om v (vD v):=λv hv=>by
  have big:∀i:Int,i.natAbs<2 ^ 40->i.natAbs.log2<1920:=λi hi=>by
   by_cases z:i.natAbs=0
   .rw [z];decide
   .exact aYT ((Nat.log2_lt z).mpr hi) 9
  have Sf:1000000<2 ^ 40:=9
  rcases he with⟨k,hk,rfl⟩|⟨k,b,⟨h1,h2,h3⟩,rfl|rfl⟩|⟨k,b,⟨h1,h2,h3⟩,rfl⟩ <;> simp only[as2,af0,aRi]at hv
  .rcases hv with rfl|rfl
   .exact 8
   .exact (8,big _ 7,)
  all_goals
   rcases hv with rfl|rfl|rfl
   .exact 8
   .exact (8,big _ 7,)
   .exact (8,big _ 7,)
 refine .inr (a,e,e.map vD,8,id,?_,.inr (h,8,),);have key:∀{xs:List V},(∀v∈xs,om v (vD v))->Paired om xs (xs.map vD):=λ{xs}=>by
  induction xs with
  |nil=>exact λ_=>.nil
  |cons x xs ih=>exact λh=>.cons (h x aKq) (ih λv hv=>h v (avG _ hv))
 exact key fl
theorem Oc{n:Nat}{G:Hp}{ts:List Addr}{es:List (List V)}(n4:n<=4)(he:∀e∈es,Ev n e)(hl:ts.length=es.length)(h:∀(i:Nat)(t:Addr)(e:List V),ts[i]?=!t->es[i]?=!e->G t=!(.tup e)):Paired (A5 (λ_=>False) G 1) (ts.map V.ref) (es.map pR):=by
 induction ts generalizing es with
 |nil=>
  cases es with
  |nil=>exact .nil
  |cons e es=>cases hl
 |cons t ts ih=>
  cases es with
  |nil=>cases hl
  |cons e es=>exact .cons (IG (he e aKq) n4 (h 0 t e 8 8)) (ih (λe' h'=>he e' (avG _ h')) (Nat.succ.inj hl) λi u f h1 h2=>h (i+1) u f h1 h2)
theorem OH{n:Nat}{es:List (List V)}(n4:n<=4)(he:∀e∈es,Ev n e)(hl:es.length<=900):(pQ es).length<=900*60+3/\∀m:Nat,m<1000->(PyData.list (es.map pR++[.int (m:Int)])).shown.length<=901*60+3:=by
 have one:∀d∈es.map pR,d.shown.length<=58:=λd hd=>by
  let(e,h,rfl,):=arp.mp hd;have WG:∀v∈e,(vD v).shown.length<=13:=λv hv=>by
   have nat:∀k:Nat,k<=4->(PyData.int (k:Int)).shown.length<=13:=λk hk=>PyData.shown_int_le (by have:4<10 ^ 12:=9;lia);have int:∀b:Int,0<=b->b<=1000000->(PyData.int b).shown.length<=13:=λb h0 h1=>PyData.shown_int_le (by have:1000000<10 ^ 12:=9;lia);rcases he e h with⟨k,hk,rfl⟩|⟨k,b,⟨h1,h2,h3⟩,rfl|rfl⟩|⟨k,b,⟨h1,h2,h3⟩,rfl⟩ <;> simp only[as2,af0,aRi]at hv
   .rcases hv with rfl|rfl
    .decide +kernel
    .exact nat k 7
   all_goals
    rcases hv with rfl|rfl|rfl
    .decide +kernel
    .exact nat k 7
    .exact int b h2 h3
  have l3:e.length<=3:=by
   rcases he e h with⟨k,hk,rfl⟩|⟨k,b,_,rfl|rfl⟩|⟨k,b,_,rfl⟩ <;> exact aIs 8
  refine atw (ZgR (B:=13) (m:=3) (λd hd=>?_) (by rw[aHJ];exact l3)) 9;let(v,hv,rfl,):=arp.mp hd;exact WG v hv
 refine(U8 one (by rw[aHJ];exact hl),λm hm=>U8 (B:=58) (λd hd=>?_) (by rw[a14,aHJ,adN];lia),);rcases bdf.mp hd with hd|hd
 .exact one d hd
 .rw [aU2.mp hd];exact atw (PyData.shown_int_le (by have:1000<10 ^ 12:=9;lia)) 9
theorem ZiF{xs:List V}{y:V}:fU (xs++[y]) (-1)=!y:=by
 have e:(xs++[y])[xs.length]?=!y:=by rw[aWn (amA _),adx];rfl
 have i:uR (xs++[y]).length (-1)=!xs.length:=by
  unfold uR;rw[a14,adN,aWd 9,aS1 7];congr 1
  lia
 unfold fU;rw[i];exact e
theorem To{R:V->PyData->Prop}{x:V}{e:PyData}:∀{xs:List V}{ds:List PyData},Paired R xs ds->R x e->Paired R (xs++[x]) (ds++[e])
 |_,_,.nil,h=>.cons h .nil
 |_,_,.cons a p,h=>.cons a (To p h)
theorem HeldAt.rd{G:Hp}{n:Nat}{lh:Addr}{hs:List (Addr×Addr×List (List V))}(h:HeldAt G n lh hs)(n4:n<=4){p:Addr×Addr×List (List V)}(hp:p∈hs):∃ts:List Addr,G p.2.1=!(.lst (ts.map V.ref))/\ts.length<=900/\Paired (A5 (λ_=>False) G 1) (ts.map V.ref) (p.2.2.map pR)/\∀t∈ts,∃ys,G t=!(.tup ys):=by
 let(h1,(he,ts,e1,e2,e3,),h3,_,):=h.at_ p hp;refine(ts,e1,7,Oc n4 he e2 e3,λt ht=>?_,);let(i,hi,):=au1.mp ht;have:=(au3.mp hi).1;exact(_,e3 i t _ hi (ais 7),)
inductive BE(K:W.Frag)(vs:List V)(H:Hp)(Q:VK)(E:XK):Prop
 |mk (lh:Addr) (n:Nat) (hs:List (Addr×Addr×List (List V))):vs=[.ref lh]->HeldAt H n lh hs->n<=4->hs.length<=900->(∀H',(∀x o,H x=!o->(∀p∈hs,x≠p.2.1)->H' x=!o)->Q (.bl true) H')->BE K vs H Q E
example:(lF FF):=by
 let(lh,n,hs,rfl,R,n4,X4,k,):=h;refine(_,(Ze (aF (ZI (Zq (OY 8) 8 T.FD O9 (pc (ZL (Zw (iN:=(Zp bW)) (oN:=gM) (N:=["_law_told","_law_text"]) (own:=2) (js:=[]) 6 8 8) 8 (zC (K:=K) 8 (pv 0)) (λ_ _ _ _ _ _=>(ZH (K:=K) (n:=2) 8 8 (Zo (bG 0 (show List.Nodup (["_law_told","_law_text"]:List Str) by decide +kernel)) (Zo (bG 1 (show List.Nodup (["_law_told","_law_text"]:List Str) by decide +kernel)) ZF)))) (λ_ _ _ _ _ _=>(ZR uN (ZK (OT hr.gd (yx hr 20 9)) 8 T.Ce Fq (pc (pv 0) Zb)) (pv 1) (Zv _)))) Zb))) (Zg (Zs fN)) Zu)
   (Ze (vd a49 8 (OB 8 T.HQ (pc (pv 0) Zb)) (ZH (K:=K) (n:=2) 8 8 (Zo (bG 1 nd) (Zo (ZH (K:=K) (n:=2) 8 8 (Zo (bG 2 nd) (Zo (bG 3 nd) ZF))) ZF))) (Zg (Zn (rC (K:=K) 8 (bZ aB2 arC ap9 Zz (pv 2) (pc (pv 1) Zb))))))
   (Zg (Zs (Zq (JF 8) 8 T.DF Jw (pc (ZL (Zw (iN:=(Zp bW)) (oN:=gM) (N:=["_law_k","_law_told","_law_text"]) (own:=3) (js:=[]) 6 8 8) 8 (OB 8 T.HQ (pc (pv 0) Zb)) (λ_ _ _ _ _ _=>(ZH (K:=K) (n:=2) 8 8 (Zo (bG 0 (show List.Nodup (["_law_k","_law_told","_law_text"]:List Str) by decide +kernel)) (Zo (ZH (K:=K) (n:=2) 8 8 (Zo (bG 1 (show List.Nodup (["_law_k","_law_told","_law_text"]:List Str) by decide +kernel)) (Zo (bG 2 (show List.Nodup (["_law_k","_law_told","_law_text"]:List Str) by decide +kernel)) ZF))) ZF)))) (λ_ _ _ _ _ _=>(Jd (ZR bu (ak (Zm (K:=K) 8) (pv 1) (yg Od Zi) (λ_ _=>8)) (pv 0) (Zv _)) (Je (ZR B0 (Zq Vl 8 T.wI avg (pc (ZK (OT hr.gd (yx hr 20 9)) 8 T.Ce Fq (pc (pv 1) Zb)) Zb)) (Zq Vl 8 T.wI avg (pc (pv 2) Zb)) (Zv _)))))) Zb)))))),?_,)
 have at':∀{i:Nat}{x:V},(hs.map λp=>V.ref p.1)[i]?=!x->∃p,hs[i]?=!p/\x=.ref p.1:=λ{i x} e=>by
  rw[a7o]at e;cases q:hs[i]? with
  |none=>rw[q]at e;cases e
  |some p=>rw[q]at e;exact(p,8,(aZC e).symm,)
 have sh:∀{es:List (List V)},(pQ es).length<=900*60+3->(pQ es).length<=sizeLine:=λh=>atw h 9;refine hide λu1 e1=>?_;refine(_,8,lh,8,(_,au.of R.top,),λlz pO=>?_,);refine Fp (K:=K) (a:=lh) (xs:=hs.map λp=>V.ref p.1) (l:=lz) (λj ys σ G=>∃(v0 v1:Option V),σ=[v0,v1]/\ys=(List.replicate j false).map V.bl/\G lz=!(.lst ys)/\aA H G) (none,none,8,8,Za,Zf pO _,) (λj ys σ G _ (132,s,)=>au.of (s _ _ R.top)) ?_ ?_
 .rintro j x ys σ G hj sU hys ⟨v0,v1,rfl,rfl,gl,s1⟩;let(p,hp,rfl,):=at' sU;have mp:=a1U hp;have R1:=R.frame λx o e _=>s1 x o e;let(h1,(he,_,),h3,_,):=R1.at_ p mp;let(ts,lY,lt,rd,_,):=R1.rd n4 mp;refine(p.1,_,8,aX.of h1,125,gN (109,gN (8,?_,),),);refine(_,8,λ_=>False,p.2.1,2,.list (p.2.2.map pR),8,9,.inr (117,id,rd,.inl (lY,8,),),sh (OH n4 he h3).1,111,?_,);have key:((not (decide (V.str (pQ p.2.2)=V.str (pQ p.2.2)))))=false:=by rw[a7Y 8];rfl
  show jd _ _ _ _ _ _ (V.bl ((not (decide (V.str (pQ p.2.2)=V.str (pQ p.2.2)))))) _;rw[key];refine jd.of (a92 (Zt (by rw[aHJ];lia))) hj hys gl (109,by rw[aXp,avl];rfl,Za,λx o e=>?_,);rw[Zc (Zd e pO)];exact s1 _ _ e
 rintro ys σ G _ ⟨v0,v1,rfl,rfl,gl,s1⟩;refine(lz,_,8,au.of gl,_,8,?_,);rw[show(List.replicate (hs.map λp=>V.ref p.1).length false).any id=false by rw[any_eq_false];intro z hz;rw[(auJ.mp hz).2];exact aqS];refine cB 8 ?_;subst e1;try dsimp only
 dsimp only[dB];have R1:=R.frame λx o e _=>s1 x o e;have inj:∀{i j:Nat}{p r:Addr×Addr×List (List V)},hs[i]?=!p->hs[j]?=!r->p.2.1=r.2.1->i=j:=λ{i j p r} h1 h2 e=>by
  have l1:=(au3.mp h1).1;have l2:=(au3.mp h2).1;refine(getElem_inj (h₀:=by rw[aHJ];exact l1) (h₁:=by rw[aHJ];exact l2) R.un).mp ?_;rw[getElem_map,getElem_map,(au3.mp h1).2,(au3.mp h2).2];exact e
 refine hide λu1 e1=>?_;refine(_,8,lh,8,(_,au.of R1.top,),UB (K:=K) (a:=lh) (xs:=hs.map λp=>V.ref p.1) (λi σ G'=>∃(v1 v2 v3:Option V),σ=[!(.ref lh),v1,v2,v3]/\(∀x o,G x=!o->(∀p∈hs,x≠p.2.1)->G' x=!o)/\∀(j:Nat)(p:Addr×Addr×List (List V))(ts:List Addr),hs[j]?=!p->G p.2.1=!(.lst (ts.map V.ref))->G' p.2.1=!(.lst (if j<i then ts.map V.ref++[.int (j:Int)] else ts.map V.ref))) (none,none,none,8,λx o e _=>e,λj p ts h e=>by rw[aWd 7];exact e,) (λi σ G' _ h=>by let(_,_,_,_,kp,_,):=h;exact au.of (kp _ _ R1.top λp hp z=>(R.at_ p hp).2.2.2 z.symm)) ?_ ?_,)
 .rintro i x t σ G' hi ⟨v1',v2,v3,rfl,kp,ap⟩ ht;let(p,hp,rfl,):=at' hi;have mp:=a1U hp;let(h1,_,_,_,):=R1.at_ p mp;let(ts,e2,lt,_,_,):=R1.rd n4 mp;have Kw:∀{y ys},G y=!(.tup ys)->∀p∈hs,y≠p.2.1:=λ{y ys} e r hr z=>by
   let(us,q,_,):=R1.rd n4 hr;rw[z,q]at e;cases e
  have tF:=kp _ _ h1 (Kw h1);have s2:=Zf ht (.tup [V.int (i:Int),V.ref p.1]);have et:=Za (H:=G') (a:=t) (o:=.tup [V.int (i:Int),V.ref p.1]);have Si:∀(j:Nat)(r:Addr×Addr×List (List V))(ts:List Addr),hs[j]?=!r->G r.2.1=!(.lst (ts.map V.ref))->upd G' t (.tup [V.int (i:Int),V.ref p.1]) r.2.1=!(.lst (if j<i then ts.map V.ref++[.int (j:Int)] else ts.map V.ref)):=λj r us h e=>s2 _ _ (ap j r us h e);have X8:∀x o,G x=!o->(∀p∈hs,x≠p.2.1)->upd G' t (.tup [V.int (i:Int),V.ref p.1]) x=!o:=λx o e n=>s2 _ _ (kp x o e n);have NK:=s2 _ _ tF;clear s2 ht ap kp tF;generalize upd G' t (.tup [V.int (i:Int),V.ref p.1])=G2 at *;have el:=Si i p ts hp e2;rw[aWd (aUJ _)]at el;refine(t,_,8,aX.of et,125,gN (109,(p.1,_,8,aX.of NK,125,gN (109,gN (8,(8,?_,),),),),),);try dsimp only
  refine(_,8,.inl (8,_,au.of el,),_,8,p.2.1,ts.map V.ref,111,el,(by rw[aHJ];exact aZM lt 9),?_,);refine(117,λx o e n=>by rw[Zc (n p mp)];exact X8 x o e n,λj r us h e=>?_,);by_cases c:r.2.1=p.2.1
  .have ej:=inj h hp c;subst ej;rw[c]at e ⊢;rw[e2]at e;have eu:ts.map V.ref=us.map V.ref:=by injection e with e;injection e
   rw[Za,aS1 7,eu]
  .rw [Zc c,Si j r us h e];have nj:j≠i:=λz=>by
    subst z;rw[hp]at h;exact c (by rw[aZC h])
   by_cases c2:j<i
   .rw [aS1 c2,aS1 7]
   .rw [aWd c2,aWd 7]
 rintro σ G' ⟨v1',v2,v3,rfl,kp,ap⟩;subst e1;try dsimp only
 rw[aHJ]at ap;have Kw:∀{y ys},G y=!(.tup ys)->∀p∈hs,y≠p.2.1:=λ{y ys} e r hr z=>by
  let(us,q,_,):=R1.rd n4 hr;rw[z,q]at e;cases e
 have top':=kp _ _ R1.top λp hp z=>(R.at_ p hp).2.2.2 z.symm;have kH:∀x o,H x=!o->(∀p∈hs,x≠p.2.1)->G' x=!o:=λx o e n=>kp x o (s1 _ _ e) n;refine(_,8,lh,8,(_,au.of top',),λl2 hl2=>?_,);refine ZgP (K:=K) (a:=lh) (xs:=hs.map λp=>V.ref p.1) (l:=l2) (λj ys σ G2=>∃(v0 v1 v2:Option V),σ=[v0,v1,v2]/\ys=(List.replicate j true).map V.bl/\G2 l2=!(.lst ys)/\aA G' G2) (none,none,none,8,8,Za,Zf hl2 _,) (λj ys σ G2 _ h=>by let(_,_,_,_,_,_,s,):=h;exact au.of (s _ _ top')) ?_ ?_
 .rintro j x t ys σ G2 hj sU hys ⟨v0,v1,v2,rfl,rfl,AM,s2⟩ ht;let(p,hp,rfl,):=at' sU;have mp:=a1U hp;let(h1,(he,ts,lY,e2,e3,),h3,_,):=R1.at_ p mp;have s3:=Zf ht (.tup [V.int (j:Int),V.ref p.1]);have et:=Za (H:=G2) (a:=t) (o:=.tup [V.int (j:Int),V.ref p.1]);have Kl:=s2.trans s3;have DU:=s3 _ _ AM;generalize upd G2 t (.tup [V.int (j:Int),V.ref p.1])=G3 at *;have tF:=Kl _ _ (kp _ _ h1 (Kw h1));have el:=ap j p ts hp lY;have jl:j<hs.length:=(au3.mp hp).1;rw[aS1 jl]at el;have RW:=Kl _ _ el;have rd:=Oc (G:=G3) n4 he e2 λi t e a b=>Kl _ _ (kp _ _ (e3 i t e a b) (Kw (e3 i t e a b)));have lj:(j:Int).natAbs.log2<1920:=by
   by_cases z:(j:Int).natAbs=0
   .rw [z];decide
   .exact aYT ((Nat.log2_lt z).mpr (by have:900<2 ^ 10:=9;lia:(j:Int).natAbs<2 ^ 10)) 9
  let(q1,q2,):=OH n4 he h3;have gr:=ZfW (p.2.2.map pR) j;refine(t,_,8,aX.of et,125,gN (109,(p.1,_,8,aX.of tF,125,gN (109,gN (8,(8,?_,),),),),),);have z0:A5 (λ_=>False) G3 2 (.ref p.2.1) (.list (p.2.2.map pR++[.int (j:Int)])):=.inr (p.2.1,ts.map V.ref++[.int (j:Int)],p.2.2.map pR++[.int (j:Int)],8,id,To rd (show A5 (λ_=>False) G3 1 (.int (j:Int)) (.int (j:Int)) from .inl (8,lj,)),.inl (RW,8,),);have z1:(PyData.list (p.2.2.map pR++[.int (j:Int)])).shown.length<=sizeLine:=atw (q2 j 7) 9;refine(121,p.2.1,135,au.of RW,ZiF,?_,);refine(145,dQ (a7Y 8) ?_,);refine(_,8,λ_=>False,p.2.1,2,.list (p.2.2.map pR++[.int (j:Int)]),8,9,z0,z1,?_,);refine(_,8,z1,?_,);refine(121,sh q1,?_,);refine(119,?_,);have Rx:(pQ p.2.2).length<(PyData.list (p.2.2.map pR++[.int (j:Int)])).shown.length:=gr;clear q1 q2 gr z0 z1;generalize(PyData.list (p.2.2.map pR++[.int (j:Int)])).shown.length=L2 at Rx ⊢;generalize(pQ p.2.2).length=L1 at Rx ⊢;have kb:decide ((L1:Int)<(L2:Int))=true:=a7Y 7;show jd _ _ _ _ _ _ (V.bl (decide ((L1:Int)<(L2:Int)))) _;rw[kb];refine jd.of (a92 (Zt (by rw[aHJ];lia))) hj hys DU (117,by rw[aXp,avl];rfl,Za,λx o e=>?_,);rw[Zc (Zd e hl2)];exact Kl _ _ e
 rintro ys σ G2 _ ⟨v0,v1,v2,rfl,rfl,AM,s2⟩;refine(l2,_,8,au.of AM,?_,);rw[show(List.replicate (hs.map λp=>V.ref p.1).length true).all id=true by rw[am5];intro z hz;rw[(auJ.mp hz).2];rfl];exact k G2 λx o e n=>s2 _ _ (kH x o e n)
theorem Ur{ns:List Int}:(ns.map V.int).all gH=true:=by
 rw[am5];intro x hx;let(n,_,rfl,):=arp.mp hx;rfl
inductive nY(K:W.Frag)(vs:List V)(H:Hp)(Q:VK)(E:XK):Prop
 |mk (A:TA) (g:aM) (st:ao) (os:OS) (n k:Nat):vs=[.ref A.p,.int (k:Int)]->aa K H A g st os n->k<g.n->g.U.length<64->(∀(D:Addr)(cs:List Int),H D=none->(∀x,x∈cs↔(st.at_ k).fr x=true)->cs.length<64->cs.Pairwise (·<=·)->cs.Nodup->Q (.ref D) (upd H D (.lst (cs.map V.int))))->nY K vs H Q E
example:(ju BW sE):=by
 let(A,g,st,os,n,k,rfl,R,hk,hU,q,):=h;refine(_,(Zg (Zs (Zq (Vi 8) 8 T.DH aHD (pc (Zk (K:=K) 8 (Zj sE hr.m T.aK (pv 0) (pc (pv 1) Zb)) 8) Zb)))),?_,);let(dx,h1,):=R.ob;have ln:=R.ln;let(a,e1,e2,e3,B,):=R.at_ (k:=k) 7;let(ds,h3,):=B.aO.ob;let(kf,h4,(ks,h5,h6,),h7,):=B.fresh;have mem:∀b,b∈ks↔(st.at_ k).fr b=true:=λb=>by
  have z:=A3 (kvs:=kf) (Sum.inl b);rw[h7 b,h5]at z;constructor
  .intro m;have:=z.mpr (aov m);by_cases c:(st.at_ k).fr b=true
   .exact c
   .rw [aWd c]at this;cases this
  .intro m;rw[aS1 m]at z;let(x,hx,e,):=arp.mp (z.mp 8);rw[<-aCk e];exact hx
 have QS:ks.length<64:=aZM (D9 h6 λx hx=>R.wV _ (a1U e3) x (B.yJ x ((mem x).mp hx))) hU;exact(_,8,A.p,dx,_,8,h1,az ..,_,8,A,g,st,os,n,k,a,8,R,e1,a.sp,_,ds,109,h3,T.dO,T.EH,Jq ..,a.df,kf,ks,8,h4,h5,QS,λD cs hD po pw=>q D cs hD (λx=>po.mem_iff.trans (mem x)) (by rw[po.length_eq];exact QS) pw (po.nodup_iff.mpr h6),)
open PySem.Spec PyProof.Rows in
theorem Zll{X:Cx}{m:Prop}{e:PySem.Expr}{te:vX->TE}{pos:Pos}(he:LW m X e te):PX m X (.Return (!e) pos) (λEx=>Gg (te Ex)):=by
 intro pins s σ H D Ex I h;exact wpAny_Return_some (fc (he pins s σ H _ Ex I h) λv s1 x H1 I1 r1 q1=>(x,σ,H1,I1,r1,q1,))
inductive xj(K:W.Frag)(vs:List V)(H:Hp)(_v2:VK)(E:XK):Prop
 |mk (p:Addr) (b sh pl:Int) (ru:Str) (ls:Addr) (aq:List Addr) (du:Addr) (seq:List Int) (us:Int->Int) (n:Nat):vs=[.ref p,.int b]->aB K H p sh pl ru ls aq du seq us n->b∉seq->b.natAbs<2 ^ 100->(∀a,E (.ref (af K "NotThere")) (!a) H)->xj K vs H _v2 E
theorem Zdn(F:oA K "need" "Room.need" fJ f fd)(T:Txt K mg)(G:aZ P w K mg base mJ 2 f fd cW (kQ K))(sC:pY P w K mg base (af K "Room") "has" 1 mD (xw K)):aZ P w K mg base (oE P w) 2 f fd cW (sj (kQ K) (xj K)):=by
 refine G.rise.or (F.MD dX (λvs H Q E h=>?_) (λcdv A outer st H vs Q E hr h=>?_))
 .let(p,b,sh,pl,ru,ls,aq,du,seq,us,n,rfl,_,):=h;rfl
 let(p,b,sh,pl,ru,ls,aq,du,seq,us,n,rfl,R,hb,hz,k,):=h;have nd:=dX.nd;refine(_,(Ly (GL (λ_ _ h=>h) (AY (ZI (Zj sC hr.m T.fh (pv 0) (pc (pv 1) Zb)))) (Ly (Ziu (λ_ _ h=>h) 8 8 T.PN T.PM.c (pc (ZjL (pv 1) 9) Zb))) ZjO)),?_,);let(dx,h1,):=R.ob;refine(_,8,p,dx,_,8,h1,bJ ..,_,8,p,b,sh,pl,ru,ls,aq,du,seq,us,n,8,R,?_,);rw[alm hb];exact(_,8,dQ 8 (_,8,b,8,hz,λy=>((sL 1),k,),),)
inductive xh(K:W.Frag)(vs:List V)(H:Hp)(_v2:VK)(E:XK):Prop
 |mk (a:SA) (c:Cf) (s:Rm) (O:Addr->Prop) (b:Int):vs=[.ref a.sp,.int b]->ay K H a c s O->b∉s.seq->b.natAbs<2 ^ 100->(∀a,E (.ref (af K "NotThere")) (!a) H)->xh K vs H _v2 E
theorem Zbo(F:oA K "words_of" "Store.words_of" bT f fd)(T:Txt K mg)(G:aZ P w K mg base mJ 3 f fd bD (dF K))(Nc:rS P w K mg base (af K "Room") "need" 2 cW (sj (kQ K) (xj K))):aZ P w K mg base (oE P w) 3 f fd bD (sj (dF K) (xh K)):=by
 refine G.rise.or (F.MD bN (λvs H Q E h=>?_) (λcdv A outer st H vs Q E hr h=>?_))
 .let(a,c,s,O,b,rfl,_,):=h;rfl
 let(a,c,s,O,b,rfl,S,hb,hz,k,):=h;have nd:=bN.nd;refine(_,(Uq (T3 (OV Nc (λ_ _ h=>h) hr.m T.fh (Zk (K:=K) 8 (pv 0) 8) (pc (pv 1) Zb)))
   ZjP),?_,)
 let(dx,h1,):=S.aO.ob;let(dr,h2,):=S.aO.room.ob;exact(_,8,a.sp,_,dx,109,h1,T.dO,T.Aj,CF ..,a.rp,dr,_,8,h2,bJ ..,_,8,.inr (a.rp,b,c.sh,c.pl,c.ru,a.ls,a.aq,a.du,s.seq,s.us,_,8,S.aO.room,hb,hz,λy=>(119,k y,),),)
inductive sr(K:W.Frag)(vs:List V)(H:Hp)(_v2:VK)(E:XK):Prop
 |mk (A:TA) (g:aM) (st:ao) (os:OS) (n k:Nat) (b:Int):vs=[.ref A.p,.int (k:Int),.int b]->aa K H A g st os n->k<g.n->b∉(st.at_ k).seq->b.natAbs<2 ^ 100->(∀a,E (.ref (af K "NotThere")) (!a) H)->sr K vs H _v2 E
theorem Zcv(F:oA K "words" "Steps.words" dj f fd)(T:Txt K mg)(G:aZ P w K mg base mJ 4 f fd bX (fm K))(Ah:pY P w K mg base (af K "Memory") "words_of" 2 cX (kR K))(sE:pY P w K mg base (af K "Beside") "store" 1 gK (kP K))(Ni:rS P w K mg base (af K "Store") "words_of" 3 bD (sj (dF K) (xh K))):aZ P w K mg base (oE P w) 4 f fd bX (sj (fm K) (sr K)):=by
 refine G.rise.or (F.MD cG (λvs H Q E h=>?_) (λcdv A outer s0 H vs Q E hr h=>?_))
 .let(A,g,st,os,n,k,b,rfl,_,):=h;rfl
 let(A,g,st,os,n,k,b,rfl,R,hk,hb,hz,q,):=h;have nd:=cG.nd;refine(_,(Uq (GK (λ_ _ h=>h) (aF (Zx bu (pv 1) (Zk (K:=K) 8 (pv 0) 8) (Zv _)) (Zg (Zs (Zj Ah hr.m T.wG (Zk (K:=K) 8 (pv 0) 8) (pc (pv 2) Zb)))) Zu))
   (Ly (Zll (OV Ni (λ_ _ h=>h) hr.m T.dO (Zj sE hr.m T.aK (pv 0) (pc (pv 1) Zb)) (pc (pv 2) Zb))))),?_,)
 let(dx,h1,):=R.ob;have ln:=R.ln;let(a,e1,e2,e3,B,):=R.at_ (k:=k) 7;let(ds,h3,):=B.aO.ob;refine(121,A.p,_,dx,109,h1,T.aK,T.zo,AZ ..,113,cB (alm λz=>?_) ?_,)
 .injection z with z
  lia
 exact(_,8,A.p,dx,_,8,h1,az ..,_,8,A,g,st,os,n,k,a,8,R,e1,a.sp,ds,_,8,h3,bS ..,_,8,.inr (a,108,b,8,B,hb,hz,λy=>(119,q y,),),)
inductive xA(K:W.Frag)(vs:List V)(H:Hp)(Q:VK)(E:XK):Prop
 |mk (A:TA) (g:aM) (st:ao) (os:OS) (n k:Nat) (b:Int):vs=[.ref A.p,.int (k:Int),.int b]->aa K H A g st os n->k<g.n->b∉(st.at_ k).seq->b.natAbs<2 ^ 100->(∀H',aA H H'->Q (.bl true) H')->xA K vs H Q E
example:(sO HM FE):=by
 let(A,g,st,os,n,k,b,rfl,R,hk,hb,hz,q,):=h;refine(_,(Ze (cO 3 nd Oh)
   (Ze (Ziv (K:=K) (i:=4) 8 8 8 8 T.PN nd 8 8 (Ly (T3 (OV FE (λ_ _ h=>h) hr.m T.aK (pv 0) (pc (pv 1) (pc (pv 2) Zb))))) (λ_=>(Zg (cO 3 nd (pv 4)))))
   (Zg (Zs (Og (LC (pv 3))))))),?_,)
 let(dx,h1,):=R.ob;have XD:=T.PM;refine(_,8,A.p,dx,_,8,h1,az ..,121,.inr (A,g,st,os,n,k,b,8,R,hk,hb,hz,λa=>(119,XD.s,λH2 ha e2=>(_,8,?_,),),),);subst e2;exact(_,8,q _ (Zf ha _),)
theorem Hz{kvs:List (Key×V)}{ks:List Int}{mem:Int->Int}(h:kvs.map Prod.fst=ks.map Sum.inl)(nd:ks.Nodup)(hv:∀s,aL kvs (Sum.inl s:Key)=if mem s=0 then none else !(.int (mem s))):kvs=(ks.map λk=>(k,mem k)).map λp=>(Sum.inl p.1,V.int p.2):=by
 have key:∀{kvs:List (Key×V)}{ks:List Int},kvs.map Prod.fst=ks.map Sum.inl->ks.Nodup->(∀k∈ks,aL kvs (Sum.inl k:Key)=!(.int (mem k)))->kvs=(ks.map λk=>(k,mem k)).map λp=>(Sum.inl p.1,V.int p.2):=by
  intro kvs
  induction kvs with
  |nil=>
   intro ks h _ _;cases ks with
   |nil=>rfl
   |cons k r=>cases h
  |cons p r ih=>
   intro ks h nd hv;cases ks with
   |nil=>cases h
   |cons k ks=>
    rw[aZ1,aZ1]at h;injection h with h1 h2
    let(n1,n2,):=aPi.mp nd;have v0:=hv k aKq;rw[ZQ h1]at v0;rw[aZ1,aZ1,<-ih h2 n2 λk' m=>by
     have v:=hv k' (avG _ m);rw[ZM λz=>n1 (by rw[aCk (h1.symm.trans z)];exact m)]at v;exact v]
    rw[<-h1,<-aZC v0]
 refine key h nd λk m=>?_;have z:=(A3 (kvs:=kvs) (Sum.inl k)).mpr (by rw[h];exact aov m);have v:=hv k;by_cases c:mem k=0
 .rw [aS1 c]at v;rw[v]at z;cases z
 .rw [aWd c]at v;exact v
inductive ug(K:W.Frag)(vs:List V)(H:Hp)(Q:VK)(E:XK):Prop
 |mk (bm dk:Addr) (size:Int) (mem:Int->Int) (U:List Int):vs=[.ref bm]->dS K H bm dk size mem U->0<size->size<=1000->U.length<=800->(∀(D:Addr)(ps:List (Int×Int))(H':Hp),H D=none->aA H H'->rG H' D ps->A6 mem ps->Q (.ref D) H')->ug K vs H Q E
example:(j9 FN):=by
 let(bm,dk,size,mem,U,rfl,M,z0,z1,lU,q,):=h;refine(_,(Zg (Zs (Zq (ZdZ 8) 8 T.DH aHD (pc (Zha (Zk (K:=K) 8 (pv 0) 8)) Zb)))),?_,);let(dx,h1,):=M.ob;let(kvs,h2,hk,h4,):=M.kept;have kl:=S8 z0 hk h4 M.sup;let(ks,h5,h6,):=hk;have ek:=Hz h5 h6 h4;rw[ek]at h2;have mk:∀k,k∈ks↔mem k≠0:=λk=>by
  have z:=A3 (kvs:=kvs) (Sum.inl k);rw[h4 k,h5]at z;constructor
  .intro m c;rw[aS1 c]at z;exact absurd (z.mpr (aov m)) aqS
  .intro c;rw[aWd c]at z;let(x,hx,e,):=arp.mp (z.mp 8);rw[<-aCk e];exact hx
 have lk:ks.length<=1000000:=by
  have l:=aFk List.length h5;rw[aHJ,aHJ]at l;rw[<-l];exact atw kl (atw (Nat.mul_le_mul lU (7:size.toNat<=1000)) 9)
 refine(_,8,bm,_,dx,109,h1,T.wG,T.Ga,Ls ..,dk,_,8,h2,λv hv=>?_,);have s1:=Zf hv (.ext λh=>h.IsItemsView v dk);refine(v,dk,ks.map λk=>(k,mem k),8,Za,s1 _ _ h2,by rw[map_map];exact(map_id ks).symm ▸h6,by rw[aHJ];exact lk,λD os H' hD s2 eD et pm pw=>?_,);refine q D (os.map λe=>e.2) H' (s1.free hD) (s1.trans s2) (os.map λe=>e.1,by rw[map_map];exact eD,by rw[aHJ,aHJ],λi a p e1 e2=>?_,) (List.pairwise_map.mpr pw,λs v=>?_,)
 .rw [a7o]at e1 e2;cases e:os[i]? with
  |none=>rw[e]at e1;cases e1
  |some x=>
   rw[e]at e1 e2;cases e1;cases e2;exact(et x (a1U e)).2
 .rw [pm.mem_iff,mem_map];constructor
  .rintro ⟨k,hk,e⟩;cases e;exact(8,(mk _).mp hk,)
  .rintro ⟨e1,e2⟩;exact(s,(mk s).mpr (by rw[e1];exact e2),by rw[e1],)
inductive qk(K:W.Frag)(vs:List V)(H:Hp)(Q:VK)(E:XK):Prop
 |mk (A:TA) (g:aM) (st:ao) (os:OS) (n:Nat):vs=[.ref A.p]->aa K H A g st os n->(∀(D:Addr)(ps:List (Int×Int))(H':Hp),H D=none->aA H H'->rG H' D ps->A6 st.mem ps->Q (.ref D) H')->qk K vs H Q E
example:(j6 FL FN):=by
 let(A,g,st,os,n,rfl,R,q,):=h;refine(_,(Zg (Zs (AW FN hr.m T.wG (Zk (K:=K) 8 (pv 0) 8)))),?_,);let(dx,h1,):=R.ob;let(dm,h2,):=R.mem.ob;have z0:=R.wf.z0;exact(_,8,A.p,_,dx,109,h1,T.aK,T.J7,OQ ..,A.bm,dm,_,8,h2,ym ..,A.bm,A.dk,g.size,st.mem,g.U,8,R.mem,7,R.wf.z1,R.wf.lU,q,)
structure L3(H:Hp)(l:Addr)(as:Nat->Addr)(os:Nat->List Int)(Pr:Nat->Int->Prop):Prop where
 top:H l=!(.lst [.ref (as 0),.ref (as 1),.ref (as 2)])
 at_:∀k,k<3->H (as k)=!(.lst ((os k).map V.int))
 mem:∀k x,k<3->(x∈os k↔Pr k x)
section
variable{K:W.Frag}
theorem aa.QM{H:Hp}{A:TA}{g:aM}{st:ao}{os:OS}{n:Nat}(T:aa K H A g st os n){k:Nat}(hk:k<g.n):(st.at_ k).seq.length<=g.U.length:=by
 have ln:=T.ln;let(a,e1,e2,e3,B,):=T.at_ (k:=k) 7;exact D9 B.aO.room.nd λx hx=>T.wV _ (a1U e3) x hx
structure RL(G:Hp)(as:List Addr)(L:List (List Int))(Pr:Nat->List Int->Prop):Prop where
 len:as.length=L.length
 at_:∀(t:Nat)(a:Addr)(o:List Int),as[t]?=!a->L[t]?=!o->G a=!(.lst (o.map V.int))
 pr:∀(t:Nat)(o:List Int),L[t]?=!o->Pr t o
theorem RL.nil{G:Hp}{Pr:Nat->List Int->Prop}:RL G [] [] Pr:=(8,λt a o h=>(nomatch h),λt o h=>(nomatch h),)
theorem RL.keep{G G1:Hp}{as:List Addr}{L:List (List Int)}{Pr:Nat->List Int->Prop}(h:RL G as L Pr)(f:∀a∈as,∀o,G a=!o->G1 a=!o):RL G1 as L Pr:=(h.len,λt a o e1 e2=>f a (a1U e1) _ (h.at_ t a o e1 e2),h.pr,)
theorem RL.snoc{G:Hp}{as:List Addr}{L:List (List Int)}{Pr:Nat->List Int->Prop}{a:Addr}{o:List Int}(h:RL G as L Pr)(e:G a=!(.lst (o.map V.int)))(p:Pr L.length o):RL G (as++[a]) (L++[o]) Pr:=by
 have hl:=h.len;have key:∀{α:Type}{xs:List α}{x y:α}{t:Nat},(xs++[x])[t]?=!y->(t<xs.length/\xs[t]?=!y)\/(t=xs.length/\y=x):=λ{α xs x y t} e=>by
  by_cases c:t<xs.length
  .rw [ahZ c]at e;exact .inl (c,e,)
  .have l:=(au3.mp e).1;rw[a14,adN]at l;have ht:t=xs.length:=7
   subst ht;rw[aWn (amA _),adx]at e;cases e;exact .inr (8,8,)
 refine(by rw[a14,a14,hl];rfl,λt b u e1 e2=>?_,λt u e2=>?_,)
 .rcases key e1 with⟨c1,d1⟩|⟨c1,d1⟩
  .rcases key e2 with⟨_,d2⟩|⟨c2,_⟩
   .exact h.at_ t b u d1 d2
   .lia
  .rcases key e2 with⟨c2,_⟩|⟨_,d2⟩
   .lia
   .rw [d1,d2];exact e
 .rcases key e2 with⟨_,d2⟩|⟨c2,d2⟩
  .exact h.pr t u d2
  .rw [c2,d2];exact p
def cut(l m:Addr)(G:Hp):Hp:=λx=>if x=l\/x=m then none else G x
theorem OJ{l m a:Addr}{G:Hp}{o:HO}(e:G a=!o)(n1:a≠l)(n2:a≠m):cut l m G a=!o:=by
 unfold cut;rw[aWd λz=>z.elim n1 n2];exact e
theorem Fg{l m a:Addr}{G:Hp}{o:HO}(e:cut l m G a=!o):G a=!o/\a≠l/\a≠m:=by
 unfold cut at e;split at e
 .cases e
 .rename_i n;exact(e,λz=>n (.inl z),λz=>n (.inr z),)
theorem RL.cut{l m l' m':Addr}{G G1:Hp}{as:List Addr}{L:List (List Int)}{Pr:Nat->List Int->Prop}(h:RL (cut l m G) as L Pr)(f:∀x o,G x=!o->x≠l->x≠m->G1 x=!o/\x≠l'/\x≠m'):RL (cut l' m' G1) as L Pr:=h.keep λa _ o e=>by
 let(e1,n1,n2,):=Fg e;let(e2,n3,n4,):=f a o e1 n1 n2;exact OJ e2 n3 n4
def P1(st:ao)(t:Nat)(o:List Int):Prop:=o.Perm (st.at_ t).seq/\o.Pairwise (·<=·)/\o.length<=100
def P2(st:ao)(t:Nat)(o:List Int):Prop:=(∀x,x∈o↔(st.at_ t).fr x=true)/\o.Pairwise (·<=·)/\o.Nodup/\o.length<=100
theorem RL.l3{G:Hp}{l p:Addr}{as:List Addr}{L:List (List Int)}{Pr:Nat->List Int->Prop}{Pm:Nat->Int->Prop}(h:RL G as L Pr)(l3:as.length=3)(e:G l=!(.lst (as.map V.ref)))(m:∀t o,Pr t o->∀x,x∈o↔Pm t x):L3 G l (λk=>(as[k]?).getD p) (λk=>(L[k]?).getD []) Pm:=by
 have hL:L.length=3:=by rw[<-h.len];exact l3
 have a3:as=[(as[0]?).getD p,(as[1]?).getD p,(as[2]?).getD p]:=by
  match as,l3 with
  | [x,y,z],_=>rfl
 refine(by rw[e,a3];rfl,λk hk=>?_,λk x hk=>?_,)
 .have e1:as[k]?=!(as[k]'7):=ais _;have e2:L[k]?=!(L[k]'7):=ais _;show G ((as[k]?).getD p)=!(.lst (((L[k]?).getD []).map V.int));rw[e1,e2];exact h.at_ k _ _ e1 e2
 .have e2:L[k]?=!(L[k]'7):=ais _;show x∈(L[k]?).getD []↔_;rw[e2];exact m k _ (h.pr k _ e2) x
end
def Mk(st:ao)(M:Nat->List Int):Prop:=∀k x,k<3->x∈(st.at_ k).seq->(x∈M k↔(st.at_ k).fr x=true)
def Du(M:Nat->List Int)(b:Int):Nat->List Int:=λk=>if k=2 then M 2++[b] else M k
section
variable{g:aM}{st:ao}{h k j:Nat}{b:Int}{ws:List Int}{M:Nat->List Int}
theorem xZ:((br g k b ws st).at_ j).seq=(st.at_ j).seq/\((br g k b ws st).at_ j).fr=(st.at_ j).fr:=by
 unfold br;split
 .exact (8,8,)
 .rw [CD,ve];split
  .rename_i q;rw[q.1];exact(8,8,)
  .exact (8,8,)
theorem Ld:(br g k b ws st).ev=st.ev++[eW k b]:=by
 unfold br;split <;> rfl
theorem Mk.put(m:Mk st M):Mk (br g k b ws st) M:=λj x hj hx=>by
 rw[xZ.2];rw[xZ.1]at hx;exact m j x hj hx
theorem Mk.go(m:Mk st M)(hk:k<st.rm.length)(nd:(st.at_ k).seq.Nodup):Mk (dz k b st) M:=λj x hj hx=>by
 rw[gG hk]at hx ⊢;by_cases z:j=k
 .rw [aS1 z]at hx ⊢;subst z;have hx:x∈(st.at_ j).seq.erase b:=hx;let(n,hx,):=nd.mem_erase_iff.mp hx;show x∈M j↔(if x=b then false else(st.at_ j).fr x)=true;rw[aWd n];exact m j x hj hx
 .rw [aWd z]at hx ⊢;exact m j x hj hx
theorem Mk.fresh(m:Mk st M)(hl:2<st.rm.length):Mk (vW 2 b st) (Du M b):=λj x hj hx=>by
 unfold vW at hx ⊢;rw[ve]at hx ⊢;by_cases z:j=2
 .subst z;rw[aS1 (8,hl,)]at hx ⊢;have hx:x∈(st.at_ 2).seq:=hx;show x∈M 2++[b]↔(if x=b then true else(st.at_ 2).fr x)=true;rw[mem_append,aDL,m 2 x hj hx];split
  .rename_i e;exact(λ_=>8,λ_=>.inr e,)
  .rename_i e;exact(λq=>q.elim id λq=>absurd q e,.inl,)
 .rw [aWd (λq=>z q.1)]at hx ⊢;have q:Du M b j=M j:=aWd z;rw[q];exact m j x hj hx
theorem Zki(w:aJ g st)(m:Mk st M)(hh:h<2) :
  ((st.at_ h).fr b=false->Mk (aD g h b st) M/\(aD g h b st).ev=st.ev++[eO h b]) /\
  ((st.at_ h).fr b=true->(g.cf 2).late=true->Mk (aD g h b st) (Du M b)/\(aD g h b st).ev=st.ev++[eO h b]++[eW 2 b]) /\
  ((st.at_ h).fr b=true->(g.cf 2).late=false->Mk (aD g h b st) M/\(aD g h b st).ev=st.ev++[eO h b]++[eW 2 b]++[eW 3 b]):=by
 have hk:h<st.rm.length:=by rw[w.len];lia
 have m1:=m.go (b:=b) hk (w.nd h);unfold aD bK;refine(λe=>?_,λe l=>?_,λe l=>?_,)
 .rw [aWd (by rw[e];exact aqS)];exact(m1,8,)
 .rw [aS1 e,aS1 l];refine(m1.put.fresh ?_,Ld,);rw[cj.len,fS,w.len];lia
 .rw [aS1 e,aWd (by rw[l];exact aqS)];refine(m1.put.put,?_,);rw[Ld,Ld,w.n3];rfl
theorem Zlm(w:aJ g st)(m:Mk st M) :
  ((st.at_ 2).fr b=false->Mk (b7 g b st) M/\(b7 g b st).ev=st.ev++[eO 2 b]) /\
  ((st.at_ 2).fr b=true->Mk (b7 g b st) M/\(b7 g b st).ev=st.ev++[eO 2 b]++[eW 3 b]):=by
 have hk:2<st.rm.length:=by rw[w.len];lia
 have m1:=m.go (b:=b) hk (w.nd 2);unfold b7;refine(λe=>?_,λe=>?_,)
 .rw [aWd (by rw[e];exact aqS)];exact(m1,8,)
 .rw [aS1 e];refine(m1.put,?_,);rw[Ld,w.n3];rfl
end
theorem oB.app{n:Nat}{G:Hp}{f:Addr}{es:List (List V)}(h:oB n G f es):∃ts:List Addr,G f=!(.lst (ts.map V.ref))/\ts.length=es.length/\∀(t:Addr)(e:List V),G t=none->Ev n e->oB n (upd (upd G t (.tup e)) f (.lst (ts.map V.ref++[.ref t]))) f (es++[e]):=by
 let(h1,ts,h2,h3,h4,):=h;refine(ts,h2,h3,λt e ht he=>?_,);have tf:t≠f:=λz=>by rw[z,h2]at ht;cases ht
 refine(λx hx=>(bdf.mp hx).elim (h1 x) λz=>by rw[aU2.mp z];exact he,ts++[t],by rw[Za,avl];rfl,by rw[a14,a14,h3];rfl,λi u e' q1 q2=>?_,);by_cases c:i<ts.length
 .rw [ahZ c]at q1;rw[ahZ 7]at q2;have q:=h4 i u e' q1 q2;rw[Zc (λz=>by rw[z,h2]at q;cases q)];exact Zf ht _ _ _ q
 .have l:=(au3.mp q1).1;rw[a14,adN]at l;have hi:i=ts.length:=7
  subst hi;rw[aWn (amA _),adx]at q1;rw[h3,aWn (amA _),adx]at q2;cases q1;cases q2;rw[Zc tf];exact Za
theorem yQ{a:Nat->Addr}{k:Nat}(hk:k<3):fU [V.ref (a 0),V.ref (a 1),V.ref (a 2)] (k:Int)=!(V.ref (a k)):=by
 rcases(show k=0\/k=1\/k=2 by lia) with rfl|rfl|rfl
 .exact dZ
 .exact jx
 .exact jw
structure Dw(n:Nat)(H G:Hp)(tp l1 l2 f:Addr)(a c:Nat->Addr)(L M:Nat->List Int)(es:List (List V)):Prop where
 sm:aA H G
 hf:H f=none
 hc:H (c 2)=none
 tq:G tp=!(.tup [.int 0,.int 1])
 t1:G l1=!(.lst [.ref (a 0),.ref (a 1),.ref (a 2)])
 t2:G l2=!(.lst [.ref (c 0),.ref (c 1),.ref (c 2)])
 la:∀k,k<3->G (a k)=!(.lst ((L k).map V.int))
 lc:∀k,k<3->G (c k)=!(.lst ((M k).map V.int))
 ev:oB n G f es
 nf:f≠l1/\f≠l2/\∀k,k<3->f≠a k/\f≠c k
 nc:c 2≠l1/\c 2≠l2/\(∀k,k<2->c 2≠c k)/\∀k,k<3->c 2≠a k
section
variable{n:Nat}{H G G1:Hp}{tp l1 l2 f t:Addr}{a c:Nat->Addr}{L M:Nat->List Int}{es:List (List V)}{e:List V}{x:Int}
theorem Dw.top(w:Dw n H G tp l1 l2 f a c L M es):∃xs:List V,G f=!(.lst xs)/\xs.length=es.length/\∀(t:Addr)(e:List V),G t=none->Ev n e->Dw n H (upd (upd G t (.tup e)) f (.lst (xs++[.ref t]))) tp l1 l2 f a c L M (es++[e]):=by
 let(ts,h1,h2,h3,):=w.ev.app;refine(_,h1,by rw[aHJ];exact h2,λt e ht he=>?_,);have s:=Zf ht (.tup e);refine(λy o q=>?_,w.hf,w.hc,?_,?_,?_,λk hk=>?_,λk hk=>?_,h3 t e ht he,w.nf,w.nc,)
 .rw [Zc (Zd q w.hf)];exact s _ _ (w.sm _ _ q)
 .rw [Zc λz=>by have q:=w.tq;rw[z,h1]at q;cases q];exact s _ _ w.tq
 .rw [Zc (aBl w.nf.1)];exact s _ _ w.t1
 .rw [Zc (aBl w.nf.2.1)];exact s _ _ w.t2
 .rw [Zc (aBl (w.nf.2.2 k hk).1)];exact s _ _ (w.la k hk)
 .rw [Zc (aBl (w.nf.2.2 k hk).2)];exact s _ _ (w.lc k hk)
theorem Dw.mark(w:Dw n H G tp l1 l2 f a c L M es):Dw n H (upd G (c 2) (.lst ((M 2).map V.int++[.int x]))) tp l1 l2 f a c L (Du M x) es:=by
 refine(λy o q=>?_,w.hf,w.hc,?_,?_,?_,λk hk=>?_,λk hk=>?_,w.ev.frame (λo q=>?_) λy ys q=>?_,w.nf,w.nc,)
 .rw [Zc (Zd q w.hc)];exact w.sm _ _ q
 .rw [Zc λz=>by have q:=w.tq;rw[z,w.lc 2 7]at q;cases q];exact w.tq
 .rw [Zc (aBl w.nc.1)];exact w.t1
 .rw [Zc (aBl w.nc.2.1)];exact w.t2
 .rw [Zc (aBl (w.nc.2.2.2 k hk))];exact w.la k hk
 .unfold Du;by_cases z:k=2
  .subst z;rw[aS1 8,Za,avl];rfl
  .rw [aWd z,Zc (aBl (w.nc.2.2.1 k 7))];exact w.lc k hk
 .rw [Zc (w.nf.2.2 2 7).2];exact q
 .rw [Zc (λz=>by rw[z,w.lc 2 7]at q;cases q)];exact q
end
inductive BG(K:W.Frag)(vs:List V)(H:Hp)(Q:VK)(_v3:XK):Prop
 |mk (A:TA) (g:aM) (st:ao) (os:OS) (tf:Addr):vs=[.ref A.p,.ref tf]->aa K H A g st os 0->aJ g st->zF H tf (g.cf 2)->g.U.length<=21->(∀f H',aA H H'->H f=none->oB 3 H' f (bg g st).ev->(bg g st).ev.length<=200->Q (.ref f) H')->BG K vs H Q _v3
example:(Dk HU vE BW):=by
 let(A,g,st,os,tf,rfl,R,ok,pf,CI,q,):=h;refine(_,(Ze (Of (i:=2) (j:=3) 8 nd 8 8 9 8 8 (pc (ZL (Zw (iN:=(Zp uC)) (oN:=CM) (N:=["_law_k","_law_pair_here"]) (own:=1) (js:=[0]) 6 8 8) 8 (ZO 8 T.sJ (pc Zi Zb)) (λ_ _ _ _ _ _=>(bG 0 (show List.Nodup (["_law_k","_law_pair_here"]:List Str) by decide +kernel))) (λ_ _ _ _ _ _=>(Zj vE hr.m T.aK (pv 1) (pc (pv 0) Zb)))) (pc (ZL (Zw (iN:=(Zp uC)) (oN:=CM) (N:=["_law_k","_law_pair_here"]) (own:=1) (js:=[0]) 6 8 8) 8 (ZO 8 T.sJ (pc Zi Zb)) (λ_ _ _ _ _ _=>(bG 0 (show List.Nodup (["_law_k","_law_pair_here"]:List Str) by decide +kernel))) (λ_ _ _ _ _ _=>(Zj BW hr.m T.aK (pv 1) (pc (pv 0) Zb)))) Zb)) 8)
   (Ze (cO 4 nd (ZX Zb))
   (Ze (vd a49 8 (Lz (K:=K) 8 (ZJ (pc Zi (pc Zi Zb)))) (bG 05 nd) (Zg (vd a49 8 (zC (K:=K) 8 (ak (Zm (K:=K) 8) (pv 2) (pv 05) (λ_ _=>8))) (bG 06 nd) (Ze (Zn (rC (K:=K) 8 (bZ aB2 arC ap9 Zz (pv 4) (pc (ZJ (pc ZN (pc (pv 05) (pc (pv 06) Zb)))) Zb))))
   (Zg (aF (Zx (Va (K:=K) 8) (pv 06) (ak (Zm (K:=K) 8) (pv 3) (pv 05) (λ_ _=>8)) 8) (Ze (Zn (rC (K:=K) 8 (bZ aB2 arC ap9 Zz (pv 4) (pc (ZJ (pc ZN (pc Zi (pc (pv 06) Zb)))) Zb))))
   (Zg (aF (Zx bu (ak (ZW (K:=K) 8) (pv 1) Zi (λ_ _=>8)) ZN (Zv _)) (Zg (Zn (rC (K:=K) 8 (bZ aB2 arC ap9 Zz (ak (Zm (K:=K) 8) (pv 3) Zi (λ_ _=>8)) (pc (pv 06) Zb))))) (Zg (Zn (rC (K:=K) 8 (bZ aB2 arC ap9 Zz (pv 4) (pc (ZJ (pc ZN (pc Zi (pc (pv 06) Zb)))) Zb)))))))) Zu))))))
   (Ze (vd a49 8 (zC (K:=K) 8 (ak (Zm (K:=K) 8) (pv 2) Zi (λ_ _=>8))) (bG 06 nd) (Ze (Zn (rC (K:=K) 8 (bZ aB2 arC ap9 Zz (pv 4) (pc (ZJ (pc ZN (pc Zi (pc (pv 06) Zb)))) Zb))))
   (Zg (aF (Zx (Va (K:=K) 8) (pv 06) (ak (Zm (K:=K) 8) (pv 3) Zi (λ_ _=>8)) 8) (Zg (Zn (rC (K:=K) 8 (bZ aB2 arC ap9 Zz (pv 4) (pc (ZJ (pc ZN (pc Zi (pc (pv 06) Zb)))) Zb))))) Zu))))
   (Zg (Zs (pv 4))))))),?_,)
 have g3:=ok.n3;let(dx,ob,):=R.ob;have few:∀i,i<3->(st.at_ i).seq.length<=21:=λi hi=>atw (R.QM 7) CI;refine hide λu1 e1=>?_;refine(_,8,7,7,λl1 hl1=>?_,);refine ZY (lo:=0) (n:=(3:Int).toNat) (l:=l1) (λi ys σ G'=>∃(v0:Option V)(as:List Addr)(L:List (List Int)),σ=[v0,!(.ref A.p)]/\ys=as.map V.ref/\as.length=i/\G' l1=!(.lst ys)/\aA H G'/\RL (cut l1 l1 G') as L (P1 st)) (none,[],[],115,Za,Zf hl1 _,RL.nil,) ?_ ?_
 .rintro i ys σ G' hi DJ ⟨v0,as,L,rfl,rfl,la,g1,s3,rl⟩;have tD:i<3:=hi;have e0:(0:Int)+(i:Int)=(i:Int):=7
  refine(_,8,A.p,dx,_,8,s3 _ _ ob,az ..,_,8,A,g,st,os,0,i,by rw[e0];rfl,R.same s3,7,by have:=few i tD;lia,λD bs hD pb pw=>?_,);have Dr:D≠l1:=λz=>by rw[z,g1]at hD;cases hD
  have s4:=Zf hD (.lst (bs.map V.int));refine jd.of (atw (by show 3<=05;decide:(3:Int).toNat<=05) 9) hi DJ (s4 _ _ g1) (_,as++[D],L++[bs],8,by rw[avl];rfl,by rw[a14,la];rfl,Za,λx o e=>?_,?_,)
  .rw [Zc (Zd e hl1)];exact s4 _ _ (s3 _ _ e)
  .refine (rl.cut (l':=l1) (m':=l1) λx o e n1 n2=>(by rw[Zc n1];exact s4 _ _ e,n1,n2,)).snoc (OJ (by rw[Zc Dr];exact Za) Dr Dr) ?_;have ll:=rl.len;rw[<-ll,la];exact(pb,pw,by rw[pb.length_eq];have:=few i tD;lia,)
 rintro ys σ G3 _ ⟨v0',as,L,rfl,rfl,la,g1,s3,rl⟩;have QO:as.length=3:=la;refine(_,8,7,7,λl2 hl2=>?_,);have n21:l2≠l1:=λz=>by rw[z,g1]at hl2;cases hl2
 have R3:=R.same s3;have Qs:=s3 _ _ ob;refine ZY (lo:=0) (n:=(3:Int).toNat) (l:=l2) (λi ys σ G'=>∃(v0:Option V)(cs:List Addr)(M:List (List Int)),σ=[v0,!(.ref A.p)]/\ys=cs.map V.ref/\cs.length=i/\G' l2=!(.lst ys)/\aA G3 G'/\RL (cut l2 l2 G') cs M (P2 st)/\cs.Nodup/\∀c∈cs,G3 c=none) (none,[],[],115,Za,Zf hl2 _,RL.nil,.nil,λc h=>(nomatch h),) ?_ ?_
 .rintro i ys σ G' hi DJ ⟨v0,cs,M,rfl,rfl,lc,g2,s4,Ad,KH,K6⟩;have tD:i<3:=hi;have e0:(0:Int)+(i:Int)=(i:Int):=7
  refine(_,8,A.p,dx,_,8,s4 _ _ Qs,az ..,_,8,A,g,st,os,0,i,by rw[e0];rfl,R3.same s4,7,7,λD bs hD mb lb pw XC=>?_,);have Dr:D≠l2:=λz=>by rw[z,g2]at hD;cases hD
  have XG:∀c∈cs,c≠D:=λc hc z=>by
   let(t,et,):=au1.mp hc;have lt:=(au3.mp et).1;have q:=(Fg (Ad.at_ t c _ et (ais (by have:=Ad.len;lia)))).1;rw[z,hD]at q;cases q
  have s5:=Zf hD (.lst (bs.map V.int));refine jd.of (atw (by show 3<=05;decide:(3:Int).toNat<=05) 9) hi DJ (s5 _ _ g2) (_,cs++[D],M++[bs],8,by rw[avl];rfl,by rw[a14,lc];rfl,Za,λx o e=>?_,?_,List.nodup_append.mpr (KH,5,λx hx y hy=>by rw[aU2.mp hy];exact XG x hx,),λc hc=>?_,)
  .rw [Zc (Zd e hl2)];exact s5 _ _ (s4 _ _ e)
  .refine (Ad.cut (l':=l2) (m':=l2) λx o e n1 n2=>(by rw[Zc n1];exact s5 _ _ e,n1,n2,)).snoc (OJ (by rw[Zc Dr];exact Za) Dr Dr) ?_;have ll:=Ad.len;rw[<-ll,lc];exact(mb,pw,XC,7,)
  .rcases bdf.mp hc with hc|hc
   .exact K6 c hc
   .rw [aU2.mp hc];exact s4.free hD
 rintro ys σ G4 _ ⟨WH,cs,M0,rfl,rfl,lc,g2,s4,Ad,KH,K6⟩;have QN:cs.length=3:=lc;refine(109,?_,);subst e1;try dsimp only
 have Kh:=s4;have Ae:RL G4 as L (P1 st):=rl.keep λa _ o e=>Kh _ _ (Fg e).1;have Ac:RL G4 cs M0 (P2 st):=Ad.keep λa _ o e=>(Fg e).1;have lY:=Kh _ _ g1;have vQ:=g2;have Iv:=Ae.l3 (p:=A.p) (Pm:=λk x=>x∈(st.at_ k).seq) QO lY λt o p x=>p.1.mem_iff;have EZ:=Ac.l3 (p:=A.p) (Pm:=λk x=>(st.at_ k).fr x=true) QN vQ λt o p x=>p.1 x;have sH:=s3.trans Kh;have eL:∀k,k<3->(L[k]?).getD []=dD (st.at_ k).seq:=λk hk=>by
  have e2:L[k]?=!(L[k]'(by have:=Ae.len;lia)):=ais _;rw[e2];let(p1,p2,_,):=Ae.pr k _ e2;exact Ja p1 p2
 have Lb:∀k,k<3->G3 ((cs[k]?).getD A.p)=none:=λk hk=>by
  have e2:cs[k]?=!(cs[k]'7):=ais _;rw[e2];exact K6 _ (a1U e2)
 have Sj:∀k,k<3->∃o,G3 ((as[k]?).getD A.p)=!o:=λk hk=>by
  have e2:as[k]?=!(as[k]'7):=ais _;rw[e2];exact(_,(Fg (rl.at_ k _ _ e2 (ais (by have:=rl.len;lia)))).1,)
 have c2:∀k,k<2->(cs[2]?).getD A.p≠(cs[k]?).getD A.p:=λk hk=>by
  have e1:cs[k]?=!(cs[k]'7):=ais _;have e2:cs[2]?=!(cs[2]'7):=ais _;rw[e1,e2];intro z;have z:cs[2]'7=cs[k]'7:=z;have:=(getElem_inj KH).mp z;lia
 have QT:∀k,k<3->(cs[k]?).getD A.p≠l2:=λk hk=>by
  have e2:cs[k]?=!(cs[k]'7):=ais _;rw[e2];exact(Fg (Ad.at_ k _ _ e2 (ais (by have:=Ad.len;lia)))).2.1
 have QU:∀k,k<3->(cs[k]?).getD A.p≠l1:=λk hk z=>by
  have q:=Lb k hk;rw[z,g1]at q;cases q
 have QJ:((M0[2]?).getD []).length<=100:=by
  have e2:M0[2]?=!(M0[2]'(by have:=Ac.len;lia)):=ais _;rw[e2];exact(Ac.pr 2 _ e2).2.2.2
 clear rl Ad Ae Ac lY s4 Kh g2 hl1 hl2 R3 Qs;have bnd:∀k b,k<3->b∈(st.at_ k).seq->0<=b/\b<=1000000:=λk b hk hb=>by
  have ln:=R.ln;let(_,u2,_,):=R.lZ (k:=k) 7;exact R.wf.ub b (u2 b hb).1
 have zx:st.ev=[]:=List.length_eq_zero_iff.mp (Nat.le_zero.mp R.wK);let(wf,ef,KW,wf2,_,):=pf;refine hide λu1 e1=>?_;refine((sL 0),λf1 hf1=>?_,);subst e1;try dsimp only
 refine hide λu1 e1=>?_;refine((sL 2),λtp htp=>(tp,8,(_,aX.of Za,),?_,),);have sf:=Zf hf1 (.lst []);have st':=Zf htp (.tup [V.int 0,V.int 1]);have hf:f1≠l1/\f1≠l2/\∀k,k<3->f1≠(as[k]?).getD A.p/\f1≠(cs[k]?).getD A.p:=((Zd Iv.top hf1).symm,(Zd EZ.top hf1).symm,λk hk=>((Zd (Iv.at_ k hk) hf1).symm,(Zd (EZ.at_ k hk) hf1).symm,),);have w0:Dw 3 H (upd (upd G4 f1 (.lst [])) tp (.tup [V.int 0,V.int 1])) tp l1 l2 f1 (λk=>(as[k]?).getD A.p) (λk=>(cs[k]?).getD A.p) (λk=>(L[k]?).getD []) (λk=>(M0[k]?).getD []) st.ev:=
  ⟨sH.trans (sf.trans st'),sH.free hf1,s3.free (Lb 2 7),Za,st' _ _ (sf _ _ Iv.top),st' _ _ (sf _ _ EZ.top),λk hk=>st' _ _ (sf _ _ (Iv.at_ k hk)),λk hk=>st' _ _ (sf _ _ (EZ.at_ k hk)),by rw[zx];exact(λe h=>(nomatch h),[],st' _ _ Za,8,λi t e h=>(nomatch h),),hf,QU 2 7,QT 2 7,c2,λk hk z=>by let(o,e,):=Sj k hk;have q:=Lb 2 7;rw[z,e]at q;cases q⟩
 have m0:Mk st (λk=>(M0[k]?).getD []):=λk x hk _=>EZ.mem k x hk;have M7:((M0[2]?).getD []).length<=100:=QJ;generalize(λk:Nat=>(as[k]?).getD A.p)=a at *;generalize(λk:Nat=>(cs[k]?).getD A.p)=c at *;generalize R8:(λk:Nat=>(L[k]?).getD [])=L' at *;have eL:∀k,k<3->L' k=dD (st.at_ k).seq:=λk hk=>by rw[<-R8];exact eL k hk
 generalize R7:(λk:Nat=>(M0[k]?).getD [])=M1 at *;have M7:(M1 2).length<=100:=by rw[<-R7];exact M7
 clear R8 R7 hf Lb Sj c2 QU QT Iv EZ K6 KH QN QO QJ;generalize upd (upd G4 f1 (.lst [])) tp (.tup [V.int 0,V.int 1])=G5 at *;clear sf st' htp hf1;have lL:∀k,k<3->(L' k).length<=21:=λk hk=>by rw[eL k hk,aS.length_eq];exact few k hk
 have eo:∀(k:Nat)(b:Int),k<3->0<=b/\b<=1000000->Ev 3 (eO k b):=λk b hk hb=>.inr (.inl (k,b,(hk,hb,),.inr 8,));have ew:∀(k:Nat)(b:Int),k<=3->0<=b/\b<=1000000->Ev 3 (eW k b):=λk b hk hb=>.inr (.inr (k,b,(hk,hb,),8,));refine OE (K:=K) (a:=tp) (xs:=[V.int 0,V.int 1]) (λi σ G=>∃(v5 v6:Option V)(M:Nat->List Int),σ=[!(.ref A.p),!(.ref tf),!(.ref l1),!(.ref l2),!(.ref f1),v5,v6]/\Dw 3 H G tp l1 l2 f1 a c L' M (aG g st i).ev/\Mk (aG g st i) M/\(aG g st i).ev.length<=63*i/\(M 2).length<=100+21*i)
  (_,_,M1,8,w0,m0,by rw[show(aG g st 0).ev=st.ev from rfl,zx];exact amA _,M7,) (λi σ G _ h=>by let(_,_,_,_,w,_,):=h;exact aX.of w.tq) ?_ ?_
 .rintro i x σ G hi ⟨v5,v6,M,rfl,wd,mk,l3,lm⟩;have hi2:i<2:=(au3.mp hi).1;have hx:x=.int (i:Int):=by
   rcases(show i=0\/i=1 by lia) with rfl|rfl
   .exact (aZC hi).symm
   .exact (aZC hi).symm
  subst hx;let(MF,Qh,):=ok.aG (k:=i) 7;have eK:dY g i (L' i) (aG g st i)=aG g st (i+1):=by
   show _=dY g i (dD ((aG g st i).at_ i).seq) (aG g st i);rw[Qh,aWd (aUJ i),eL i 7]
  have pm:(L' i).Perm ((aG g st i).at_ i).seq:=by
   rw[Qh,aWd (aUJ i),eL i 7];exact aS
  have li:=lL i 7;refine gN ?_;try dsimp only
  refine(121,l1,135,au.of wd.t1,yQ 7,a i,8,(_,au.of (wd.la i 7),),?_,);refine LQ (K:=K) (a:=a i) (xs:=(L' i).map V.int) (λj σ G'=>∃(v6:Option V)(s':ao)(M:Nat->List Int),σ=[!(.ref A.p),!(.ref tf),!(.ref l1),!(.ref l2),!(.ref f1),!(.int (i:Int)),v6]/\Dw 3 H G' tp l1 l2 f1 a c L' M s'.ev/\Mk s' M/\aJ g s'/\dY g i ((L' i).drop j) s'=aG g st (i+1)/\((L' i).drop j).Perm (s'.at_ i).seq/\s'.ev.length<=63*i+3*j/\(M 2).length<=100+21*i+j)
   (_,_,M,8,wd,mk,MF,eK,pm,l3,lm,) (λj σ G' _ h=>by let(_,_,_,_,w,_,):=h;exact au.of (w.la i 7)) ?_ ?_
  .rintro j x σ G' hx ⟨v6,s',M,rfl,wd,mk,ok',e3,oW,l3,lm⟩;let(b,vP,rfl,):=E9 hx;have hj:j<(L' i).length:=(au3.mp vP).1;have ed:(L' i).drop j=b ::(L' i).drop (j+1):=by
    rw[aoV hj];congr 1
    exact(au3.mp vP).2
   rw[ed]at e3 oW;have hb:b∈(s'.at_ i).seq:=oW.mem_iff.mp aKq;have bb:0<=b/\b<=1000000:=bnd i b 7 (by have q:=a1U vP;rw[eL i 7]at q;exact aS.mem_iff.mp q);let(uO,s4,):=ok'.aD hi2 hb;have sM:((L' i).drop (j+1)).Perm ((aD g i b s').at_ i).seq:=by
    rw[s4,aS1 8];have:=oW.erase b;rwa [aaJ]at this
   have e4:dY g i ((L' i).drop (j+1)) (aD g i b s')=aG g st (i+1):=e3;let(k1,k2,k3,):=Zki (b:=b) ok' mk hi2;have mb:=mk i b 7 hb;let(xs,gl,lx,ap,):=wd.top;refine gN ?_;try dsimp only
   refine(_,8,.inl (8,_,au.of gl,),121,(sL 3),λt ht=>(f1,119,Zf ht _ _ _ gl,Zt 7,?_,),);have w1:=ap t _ ht (eo i b 7 bb);unfold eO at w1;generalize upd (upd G' t (.tup [V.str "out",V.int (i:Int),V.int b])) f1 (.lst (xs++[V.ref t]))=G1 at *;refine(185,l2,135,au.of w1.t2,yQ 7,c i,_,8,.inl (au.of (w1.lc i 7)),8,Ur,_,8,?_,);rw[Tf];cases fr:(s'.at_ i).fr b with
   |false=>
    let(m5,e5,):=k1 fr;refine cB (alm λz=>by rw[mb.mp z]at fr;cases fr) ?_;exact(_,aD g i b s',M,8,by rw[e5];exact w1,m5,uO,e4,sM,by rw[e5];simp only[a14,aII,a4z];lia,7,)
   |true=>
    refine dQ (a7Y (mb.mpr fr)) ?_;let(PR,AM,M6,N5,):=w1.top;rw[a14,adN]at M6;refine(_,8,.inl (8,_,au.of AM,),_,8,(sL 3),λt2 Ij=>(f1,119,Zf Ij _ _ _ AM,Zt 7,?_,),);have w2:=N5 t2 _ Ij (ew 2 b 7 bb);unfold eW at w2;generalize upd (upd G1 t2 (.tup [V.str "words",V.int 2,V.int b])) f1 (.lst (PR++[V.ref t2]))=G2 at *;refine(_,8,tf,135,aX.of (w2.sm _ _ ef),N3,113,?_,);cases lt:(g.cf 2).late with
    |true=>
     let(m5,e5,):=k2 fr lt;rw[lt]at KW;have cw:wf ="late":=amL KW.symm;refine dQ (a7Y (by rw[cw])) ?_;refine(_,8,l2,135,au.of w2.t2,yQ (k:=2) 7,.inl (8,_,au.of (w2.lc 2 7),),_,8,c 2,119,w2.lc 2 7,Zt (by rw[aHJ];lia),?_,);exact(_,aD g i b s',Du M b,8,by rw[e5];exact w2.mark,m5,uO,e4,sM,by rw[e5];simp only[a14,aII,a4z];lia,by unfold Du;rw[aS1 8,a14,adN];lia,)
    |false=>
     let(m5,e5,):=k3 fr lt;rw[lt]at KW;have cw:¬wf ="late":=of_decide_eq_false KW.symm;refine cB (alm λz=>cw (by injection z)) ?_;let(xs3,DU,XO,Z6,):=w2.top;simp only[a14,aII,a4z]at XO;refine(_,8,.inl (8,_,au.of DU,),_,8,(sL 3),λt3 Ck=>(f1,119,Zf Ck _ _ _ DU,Zt 7,?_,),);have w3:=Z6 t3 _ Ck (ew 3 b 7 bb);exact(_,aD g i b s',M,8,by rw[e5];exact w3,m5,uO,e4,sM,by rw[e5];simp only[a14,aII,a4z];lia,7,)
  .rintro σ G3 ⟨v6,s',M,rfl,wd,mk,ok',e3,oW,l3,lm⟩;rw[aHJ,drop_length]at e3;rw[aHJ]at l3 lm;have e3:s'=aG g st (i+1):=e3;subst e3;exact(_,_,M,8,wd,mk,7,7,)
 rintro σ G ⟨v5,v6,M,rfl,wd,mk,l3,lm⟩;subst e1;try dsimp only
 have wd:Dw 3 H G tp l1 l2 f1 a c L' M (aG g st 2).ev:=wd;have mk:Mk (aG g st 2) M:=mk;have l3:(aG g st 2).ev.length<=126:=l3;have lm:(M 2).length<=142:=lm;let(yi,Gq,):=ok.aG (k:=2) (amA _);have MW:∀h,h<2->((aG g st 2).at_ h).seq=[]:=λh hh=>by rw[Gq,aS1 hh]
 have pm:(L' 2).Perm ((aG g st 2).at_ 2).seq:=by
  rw[Gq,aWd (aUJ 2),eL 2 7];exact aS
 have eK:gk g (L' 2) (aG g st 2)=bg g st:=by
  unfold bg;rw[Gq,aWd (aUJ 2),eL 2 7]
 have li:=lL 2 7;refine(_,8,l1,135,au.of wd.t1,yQ (k:=2) 7,a 2,8,(_,au.of (wd.la 2 7),),?_,);refine LQ (K:=K) (a:=a 2) (xs:=(L' 2).map V.int) (λj σ G'=>∃(v6:Option V)(s':ao),σ=[!(.ref A.p),!(.ref tf),!(.ref l1),!(.ref l2),!(.ref f1),v5,v6]/\Dw 3 H G' tp l1 l2 f1 a c L' M s'.ev/\Mk s' M/\aJ g s'/\(∀h,h<2->(s'.at_ h).seq=[])/\gk g ((L' 2).drop j) s'=bg g st/\((L' 2).drop j).Perm (s'.at_ 2).seq/\s'.ev.length<=126+2*j)
  (109,wd,mk,yi,MW,eK,pm,l3,) (λj σ G' _ h=>by let(_,_,_,w,_,):=h;exact au.of (w.la 2 7)) ?_ ?_
 .rintro j x σ G' hx ⟨v6,s',rfl,wd,mk,ok',MX,e3,oW,l3⟩;let(b,vP,rfl,):=E9 hx;have hj:j<(L' 2).length:=(au3.mp vP).1;have ed:(L' 2).drop j=b ::(L' 2).drop (j+1):=by
   rw[aoV hj];congr 1
   exact(au3.mp vP).2
  rw[ed]at e3 oW;have hb:b∈(s'.at_ 2).seq:=oW.mem_iff.mp aKq;have bb:0<=b/\b<=1000000:=bnd 2 b 7 (by have q:=a1U vP;rw[eL 2 7]at q;exact aS.mem_iff.mp q);let(uO,s4,):=Jj (o:=b) ok' MX;have sM:((L' 2).drop (j+1)).Perm ((b7 g b s').at_ 2).seq:=by
   rw[s4,aS1 8];have:=oW.erase b;rwa [aaJ]at this
  have Cd:∀h,h<2->((b7 g b s').at_ h).seq=[]:=λh hh=>by rw[s4,aWd 7];exact MX h hh
  have e4:gk g ((L' 2).drop (j+1)) (b7 g b s')=bg g st:=e3;let(k1,k2,):=Zlm (b:=b) ok' mk;have mb:=mk 2 b 7 hb;let(xs,gl,lx,ap,):=wd.top;refine gN ?_;try dsimp only
  refine(_,8,.inl (8,_,au.of gl,),_,8,(sL 3),λt ht=>(f1,119,Zf ht _ _ _ gl,Zt 7,?_,),);have w1:=ap t _ ht (eo 2 b 7 bb);unfold eO at w1;generalize upd (upd G' t (.tup [V.str "out",V.int 2,V.int b])) f1 (.lst (xs++[V.ref t]))=G1 at *;refine(121,l2,135,au.of w1.t2,yQ (k:=2) 7,c 2,_,8,.inl (au.of (w1.lc 2 7)),8,Ur,_,8,?_,);rw[Tf];cases fr:(s'.at_ 2).fr b with
  |false=>
   let(m5,e5,):=k1 fr;refine cB (alm λz=>by rw[mb.mp z]at fr;cases fr) ?_;exact(_,b7 g b s',8,by rw[e5];exact w1,m5,uO,Cd,e4,sM,by rw[e5];simp only[a14,aII,a4z];lia,)
  |true=>
   let(m5,e5,):=k2 fr;refine dQ (a7Y (mb.mpr fr)) ?_;let(PR,AM,M6,N5,):=w1.top;rw[a14,adN]at M6;refine(_,8,.inl (8,_,au.of AM,),_,8,(sL 3),λt2 Ij=>(f1,119,Zf Ij _ _ _ AM,Zt 7,?_,),);have w2:=N5 t2 _ Ij (ew 3 b 7 bb);exact(_,b7 g b s',8,by rw[e5];exact w2,m5,uO,Cd,e4,sM,by rw[e5];simp only[a14,aII,a4z];lia,)
 .rintro σ G3 ⟨v6,s',rfl,wd,mk,ok',MX,e3,oW,l3⟩;rw[aHJ,drop_length]at e3;rw[aHJ]at l3;have e3:s'=bg g st:=e3;subst e3;exact(_,8,q f1 G3 wd.sm wd.hf wd.ev 7,)
theorem IF{n:Nat}{e:List V}(h:Ev n e):e.length<=3/\∀v∈e,Sc v:=by
 rcases h with⟨k,_,rfl⟩|⟨k,b,_,rfl|rfl⟩|⟨k,b,_,rfl⟩
 .refine (aIs 8,λv hv=>?_,);simp only[as2,af0,aRi]at hv;rcases hv with rfl|rfl <;> trivial
 all_goals
  refine(aIs 8,λv hv=>?_,);simp only[as2,af0,aRi]at hv;rcases hv with rfl|rfl|rfl <;> trivial
theorem OG{n:Nat}{H:Hp}{l m:Addr}{es:List (List V)}(a:oB n H l es)(b:oB n H m es)(le:es.length<=1000):Eqv 2 H (.ref l) (.ref m):=by
 let(h0,ts,h1,h2,h3,):=a;let(_,us,g1,g2,g3,):=b;refine .inr (l,m,119,.inl (h1,g1,),by rw[aHJ,aHJ,h2,g2],by rw[aHJ];lia,λi u v q1 q2=>?_,);rw[a7o]at q1 q2;cases e1:ts[i]? with
 |none=>rw[e1]at q1;cases q1
 |some t=>
  cases e2:us[i]? with
  |none=>rw[e2]at q2;cases q2
  |some t'=>
   rw[e1]at q1;rw[e2]at q2;cases q1;cases q2;have hi:i<es.length:=by rw[<-h2];exact(au3.mp e1).1
   have ee:es[i]?=!es[i]:=ais hi;let(c1,c2,):=IF (h0 _ (aNb hi));exact Eqv.DV 0 (h3 i t _ e1 ee) (g3 i t' _ e2 ee) 7 c2
def rF(G:Hp)(as:List Addr)(ps:List (Int×Int)):Prop:=as.length=ps.length/\∀(i:Nat)(a:Addr)(p:Int×Int),as[i]?=!a->ps[i]?=!p->G a=!(.tup [.int p.1,.int p.2])
theorem rF.same{G G':Hp}{as:List Addr}{ps:List (Int×Int)}(h:rF G as ps)(s:∀x ys,G x=!(.tup ys)->G' x=!(.tup ys)):rF G' as ps:=(h.1,λi a p e1 e2=>s _ _ (h.2 i a p e1 e2),)
theorem rF.app{G:Hp}{as bs:List Addr}{ps qs:List (Int×Int)}(h1:rF G as ps)(h2:rF G bs qs):rF G (as++bs) (ps++qs):=by
 refine(by rw[a14,a14,h1.1,h2.1],λi a p e1 e2=>?_,);by_cases c:i<as.length
 .rw [ahZ c]at e1;rw[ahZ (by rw[<-h1.1];exact c)]at e2;exact h1.2 i a p e1 e2
 .rw [aWn 7]at e1;rw[aWn (by rw[<-h1.1];lia),<-h1.1]at e2;exact h2.2 _ a p e1 e2
theorem rF.one{G:Hp}{t:Addr}{p:Int×Int}(h:G t=!(.tup [.int p.1,.int p.2])):rF G [t] [p]:=by
 refine(8,λi a q e1 e2=>?_,)
 match i,e1,e2 with
 |0,e1,e2=>cases e1;cases e2;exact h
 |i+1,e1,_=>cases e1
section
variable{g:aM}{st:ao}{b:Int}{h:Nat}{ws:List Int}
theorem Lo{k:Nat}:(br g k b ws st).ev.length=st.ev.length+1:=by
 unfold br;split
 .show (st.ev++_).length=_;rw[a14];rfl
 .show (st.ev++_).length=_;rw[a14];rfl
theorem Lc{k:Nat}:(dz k b st).ev.length=st.ev.length+1:=by
 show(st.ev++_).length=_;rw[a14];rfl
theorem ZiG:(bK g b ws st).ev.length<=st.ev.length+2:=by
 unfold bK;split
 .show (br g 2 b ws st).ev.length<=_;rw[Lo];lia
 .rw [Lo,Lo];lia
theorem ZfX:(aD g h b st).ev.length<=st.ev.length+3:=by
 unfold aD;split
 .refine atw ZiG ?_;rw[Lc];lia
 .rw [Lc];lia
theorem ZiH:(b7 g b st).ev.length<=st.ev.length+3:=by
 unfold b7;split
 .rw [Lo,Lc];lia
 .rw [Lc];lia
theorem OI:∀{bs:List Int}{st:ao},(dY g h bs st).ev.length<=st.ev.length+3*bs.length
 | [],st=>amA _
 |b ::bs,st=>by
  unfold dY;refine atw OI ?_;have:=ZfX (g:=g) (h:=h) (b:=b) (st:=st);rw[aII];lia
theorem T9:∀{bs:List Int}{st:ao},(gk g bs st).ev.length<=st.ev.length+3*bs.length
 | [],st=>amA _
 |b ::bs,st=>by
  unfold gk;refine atw T9 ?_;have:=ZiH (g:=g) (b:=b) (st:=st);rw[aII];lia
theorem ZiI{m:Nat}(w:aJ g st)(h:∀k,k<3->(st.at_ k).seq.length<=m):(bg g st).ev.length<=st.ev.length+09*m:=by
 let(_,s1,):=w.aG (k:=1) 7;let(_,s2,):=w.aG (k:=2) 7;have l1:(dD ((aG g st 1).at_ 1).seq).length<=m:=by
  rw[aS.length_eq,s1,aWd (aUJ 1)];exact h 1 7
 have l2:(dD ((aG g st 2).at_ 2).seq).length<=m:=by
  rw[aS.length_eq,s2,aWd (aUJ 2)];exact h 2 7
 have l0:(dD ((aG g st 0).at_ 0).seq).length<=m:=by
  rw[aS.length_eq];exact h 0 7
 have e0:(aG g st 1).ev.length<=st.ev.length+3*(dD ((aG g st 0).at_ 0).seq).length:=OI;have e1:(aG g st 2).ev.length<=(aG g st 1).ev.length+3*(dD ((aG g st 1).at_ 1).seq).length:=OI;have e2:(bg g st).ev.length<=(aG g st 2).ev.length+3*(dD ((aG g st 2).at_ 2).seq).length:=T9;lia
end
def lC(bk:Int->Int)(os:List Int):List (Int×Int):=(os.filter λs=>(not (decide (bk s=0)))).map λs=>(s,bk s)
theorem ZhP{bk:Int->Int}{os:List Int}{i:Nat}{s:Int}(h:os[i]?=!s):lC bk (os.take (i+1))=lC bk (os.take i)++if bk s=0 then[] else[(s,bk s)]:=by
 unfold lC;rw[take_succ,h,List.filter_append,avl];congr 1
 show(List.filter _ [s]).map _=_;by_cases c:bk s=0
 .rw [aS1 c,a3M,aWd (by simp[c])];rfl
 .rw [aWd c,a3M,aS1 (by simp[c])];rfl
theorem Zkj{bk:Int->Int}{os:List Int}:(lC bk os).length<=os.length:=by
 unfold lC;rw[aHJ];exact apy ..
theorem Zkk{bk:Int->Int}{os ks:List Int}{kvs:List (Key×V)}(po:os.Perm ks)(pw:os.Pairwise (·<=·))(h5:kvs.map Prod.fst=ks.map Sum.inl)(h6:ks.Nodup)(h3:∀s,(aL kvs (Sum.inl s:Key)).getD (V.int 0)=V.int (bk s)):A6 bk (lC bk os):=by
 have XA:os.Nodup:=po.nodup_iff.mpr h6;refine(?_,λs v=>?_,)
 .unfold lC;rw[pairwise_map];exact((pw.and XA).imp λh=>by let(h1,h2,):=h;lia:os.Pairwise λa b=>a<b).filter _
 .unfold lC;rw[mem_map];constructor
  .rintro ⟨k,hk,e⟩;cases e;have:=(aX3.mp hk).2;exact(8,by simpa using this,)
  .rintro ⟨e1,e2⟩;refine(s,aX3.mpr (po.mem_iff.mpr ?_,by simp[e1,e2],),by rw[e1],);have v3:=h3 s;have z:=A3 (kvs:=kvs) (Sum.inl s);cases c:aL kvs (Sum.inl s:Key) with
   |none=>
    rw[c]at v3;have v3:V.int 0=V.int (bk s):=v3;injection v3 with v3
    exact absurd (by rw[<-e1,<-v3]) e2
   |some y=>
    rw[c,h5]at z;let(x,hx,e,):=arp.mp (z.mp 8);rw[<-aCk e];exact hx
theorem Io{t:TS}{D:Ends}{σ:St}{H:Hp}(h:∀D':Ends,(∀ σ G,D.nx σ G->D'.nx σ G)->t D' σ H):t D σ H:=h D λ_ _ x=>x
def Ow(A:TA)(os:OS)(bd:Addr)(x:Addr):Prop:=OW A os x\/x=bd
structure Hf(K:W.Frag)(G:Hp)(g:aM)(A:TA)(os:OS)(st:ao)(bd:Addr)(bk:Int->Int)(m:Nat):Prop where
 rd:rE K G A g st os
 eb:mK G bd bk m
 nb:¬OW A os bd
def Kp(O:Addr->Prop)(G G1:Hp):Prop:=∀x o,G x=!o->(O x->¬Mt o)->G1 x=!o
def Nf(O O':Addr->Prop)(G:Hp):Prop:=∀x,O' x->O x\/G x=none
section
variable{K:W.Frag}{H G G1:Hp}{g:aM}{A:TA}{os:OS}{st:ao}{bd b lo tn tf:Addr}{bk:Int->Int}{m:Nat}{O O':Addr->Prop}{cn cf:Cf}{ns:List Int}{a q c:Int}
theorem Hf.keep(h:Hf K G g A os st bd bk m)(f:∀x o,G x=!o->(Ow A os bd x\/¬Mt o)->G1 x=!o):Hf K G1 g A os st bd bk m:=
 (h.rd.frame λx o e z=>f x o e (z.imp .inl id),h.eb.frame λo e=>f _ _ e (.inl (.inr 8)),h.nb,)
theorem Hf.ex(h:Hf K G g A os st bd bk m){x:Addr}(z:Ow A os bd x):G x≠none:=λe=>by
 rcases z with z|rfl
 .exact h.rd.at_.fresh e z
 .let(kvs,q,_,):=h.eb;rw[e]at q;cases q
theorem Hf.QV(h:Hf K G g A os st bd bk m){A':TA}{os':OS}(p:bM (OW A os) G G1 (OW A' os')):Kp (Ow A os bd) G G1/\Nf (Ow A os bd) (Ow A' os' bd) G:=
 (λx o e n=>p.kp x o e λz=>n (.inl z),λx z=>z.elim (λz=>(p.fr x z).imp .inl id) λz=>.inl (.inr z),)
structure Wb(K:W.Frag)(H G:Hp)(b lo tn tf:Addr)(cn cf:Cf)(ns:List Int)(g:aM)(O:Addr->Prop):Prop where
 yK:G lo=!(.lst (ns.map V.int))
 pn:zF G tn cn
 pf:zF G tf cf
 kp:SB b H G
 nw:∀x,O x\/x=lo->H x=none
 of:¬O b/\¬O lo
 nb:lo≠b
theorem Wb.new(w:Wb K H G b lo tn tf cn cf ns g O)(B:av G b a q c){x:Addr}(h:G x=none):H x=none:=by
 cases e:H x with
 |none=>rfl
 |some o=>
  by_cases z:x=b
  .rw [z,B.at']at h;cases h
  .rw [w.kp x o z e]at h;cases h
theorem Wb.sb(w:Wb K H G b lo tn tf cn cf ns g O)(B:av G b a q c)(s:SB b G G1):Wb K H G1 b lo tn tf cn cf ns g O:=by
 have nt:∀{x ys},G x=!(.tup ys)->x≠b:=λ{x ys} e z=>by rw[z,B.at']at e;cases e
 exact(s _ _ w.nb w.yK,w.pn.frame λx ys e=>s _ _ (nt e) e,w.pf.frame λx ys e=>s _ _ (nt e) e,w.kp.trans s,w.nw,w.of,w.nb,)
theorem Hf.sb(h:Hf K G g A os st bd bk m)(w:Wb K H G b lo tn tf cn cf ns g O)(l:∀x,Ow A os bd x->O x)(B:av G b a q c)(s:SB b G G1):Hf K G1 g A os st bd bk m:=
 h.keep λx o e z=>s x o (λy=>by
  subst y;rcases z with z|z
  .exact w.of.1 (l _ z)
  .rw [B.at']at e;cases e;exact z trivial) e
theorem Wb.mv(w:Wb K H G b lo tn tf cn cf ns g O)(B:av G b a q c)(k:Kp O G G1)(f:Nf O O' G):Wb K H G1 b lo tn tf cn cf ns g O'/\av G1 b a q c:=by
 have tu:∀{x ys},G x=!(.tup ys)->G1 x=!(.tup ys):=λ{x ys} e=>k x _ e λ_=>id;have no:∀{x o},G x=!o->¬O x->G1 x=!o/\¬O' x:=λ{x o} e n=>⟨k x o e λz=>absurd z n,λz=>(f x z).elim n λz=>by rw[e]at z;cases z⟩;let(l1,l2,):=no w.yK w.of.2;let(b1,b2,):=no B.at' w.of.1;refine((l1,w.pn.frame λx ys e=>tu e,w.pf.frame λx ys e=>tu e,λx o n e=>k x o (w.kp x o n e) λz=>?_,λx z=>?_,(b2,l2,),w.nb,),(b1,B.a0,B.q0,B.q1,B.c0,),)
 .have z:=w.nw x (.inl z);rw[z]at e;cases e
 .rcases z with z|z
  .exact (f x z).elim (λz=>w.nw x (.inl z)) λz=>w.new B z
  .exact w.nw x (.inr z)
end
def Hd(lh:Addr)(hs:List (Addr×Addr×List (List V)))(x:Addr):Prop:=x=lh\/∃p∈hs,x=p.2.1
structure W3(K:W.Frag)(H G:Hp)(b lo tn tf t0:Addr)(cn cf:Cf)(ns:List Int)(g:aM)(A:TA)(os:OS)(st:ao)(bd:Addr)(bk:Int->Int)(m:Nat)(lh:Addr)(hs:List (Addr×Addr×List (List V))):Prop where
 h:Hf K G g A os st bd bk m
 he:HeldAt G g.n lh hs
 wb:Wb K H G b lo tn tf cn cf ns g (λx=>Ow A os bd x\/Hd lh hs x)
 sep:∀x,Ow A os bd x->¬Hd lh hs x
 sp:G t0=!(.tup [.int g.size,.ref tn,.ref tf])
section
variable{K:W.Frag}{H G G1:Hp}{b lo tn tf t0:Addr}{cn cf:Cf}{ns:List Int}{g:aM}{A:TA}{os:OS}{st:ao}{bd:Addr}{bk:Int->Int}{m:Nat}{lh:Addr}{hs:List (Addr×Addr×List (List V))}{a q c:Int}
theorem W3.sb(w:W3 K H G b lo tn tf t0 cn cf ns g A os st bd bk m lh hs)(B:av G b a q c)(s:SB b G G1):W3 K H G1 b lo tn tf t0 cn cf ns g A os st bd bk m lh hs:=by
 refine(w.h.sb w.wb (λx z=>.inl z) B s,w.he.frame λx o e z=>s x o (λy=>?_) e,w.wb.sb B s,w.sep,s _ _ (λy=>?_) w.sp,)
 .subst y;rcases z with z|z
  .exact w.wb.of.1 (.inr z)
  .rw [B.at']at e;cases e;exact z trivial
 .have e:=w.sp;rw[y,B.at']at e;cases e
theorem W3.same(w:W3 K H G b lo tn tf t0 cn cf ns g A os st bd bk m lh hs)(B:av G b a q c)(s:aA G G1):W3 K H G1 b lo tn tf t0 cn cf ns g A os st bd bk m lh hs:=w.sb B (s.sb b)
theorem W3.put(w:W3 K H G b lo tn tf t0 cn cf ns g A os st bd bk m lh hs)(B:av G b a q c){o:HO}{gu:Int->Int}{m':Nat}(eB:mK (upd G bd o) bd gu m'):W3 K H (upd G bd o) b lo tn tf t0 cn cf ns g A os st bd gu m' lh hs/\av (upd G bd o) b a q c:=by
 have mb:∀{o},G bd=!o->Mt o:=λ{o} e2=>by
  let(kvs,q2,_,):=w.h.eb;rw[q2]at e2;cases e2;trivial
 have k:Kp (Ow A os bd) G (upd G bd o):=λx o' e n=>by
  by_cases z:x=bd
  .exact absurd (mb (z ▸e)) (n (.inr z))
  .rw [Zc z];exact e
 let(wb,B1,):=w.wb.mv (G1:=upd G bd o) (O':=λx=>Ow A os bd x\/Hd lh hs x) B (λx o e n=>k x o e λz=>n (.inl z)) λx z=>.inl z;refine(((w.h.rd.frame λx o e z=>?_,eB,w.h.nb,),w.he.frame λx o e z=>k x o e λy=>?_,wb,w.sep,k _ _ w.sp λ_=>id,),B1,)
 .have nb:x≠bd:=λy=>by
   subst y;rcases z with z|z
   .exact w.h.nb z
   .exact z (mb e)
  rw[Zc nb];exact e
 .exact z.elim (λz=>absurd z (w.sep x y)) id
theorem W3.step(w:W3 K H G b lo tn tf t0 cn cf ns g A os st bd bk m lh hs)(B:av G b a q c){e':Addr}{os':OS}{st':ao}{es:List (List V)}(R1:rE K G1 (A.re e') g st' os')(ev:oB g.n G1 A.ev es)(l9:es.length<=900)(ne:¬OW (A.re e') os' A.ev)(p:bM (OW A os) G G1 (OW (A.re e') os')) :
  G1 lh=!(.lst (hs.map λp=>V.ref p.1))/\∀tp,G1 tp=none->W3 K H (upd (upd G1 tp (.tup [.ref A.ev,.str (pQ es)])) lh (.lst ((hs++[(tp,A.ev,es)]).map λp=>V.ref p.1))) b lo tn tf t0 cn cf ns g (A.re e') os' st' bd bk m lh (hs++[(tp,A.ev,es)])/\av (upd (upd G1 tp (.tup [.ref A.ev,.str (pQ es)])) lh (.lst ((hs++[(tp,A.ev,es)]).map λp=>V.ref p.1))) b a q c:=by
 let(k,f,):=w.h.QV p;have Ip:HeldAt G1 g.n lh hs:=w.he.frame λx o e z=>k x o e λy=>z.elim (λz=>absurd z (w.sep x y)) id;have Hj:OW A os A.ev:=.inl (by unfold Bs;simp);have KC:∀x,Ow A os bd x->x≠lh:=λx z y=>w.sep x z (.inl y);refine(Ip.top,λtp htp=>?_,);have s1:=Zf htp (.tup [.ref A.ev,.str (pQ es)]);have e1:=Za (H:=G1) (a:=tp) (o:=.tup [V.ref A.ev,V.str (pQ es)]);generalize upd G1 tp (.tup [.ref A.ev,.str (pQ es)])=G2 at *;generalize eL:HO.lst ((hs++[(tp,A.ev,es)]).map λp=>V.ref p.1)=L at *;have YW:=s1 _ _ Ip.top;have kk:∀x o,G x=!o->((Ow A os bd x\/Hd lh hs x)->¬Mt o)->upd G2 lh L x=!o:=λx o e n=>by
  have nl:x≠lh:=λy=>by
   subst y;rw[w.he.top]at e;cases e;exact n (.inr (.inl 8)) trivial
  rw[Zc nl];exact s1 _ _ (k x o e λz=>n (.inl z))
 have k1:∀{x:Addr}{o:HO},G1 x=!o->x≠lh->upd G2 lh L x=!o:=λe n=>by rw[Zc n];exact s1 _ _ e
 have Qy:∀x,Ow (A.re e') os' bd x->x≠lh:=λx z y=>(f x z).elim (λz=>KC x z y) λz=>by
  rw[y,w.he.top]at z;cases z
 have MM:∀{x:Addr}{ys:List V},G1 x=!(.tup ys)->x≠lh:=λe y=>by rw[y,Ip.top]at e;cases e
 let(wb,B1,):=w.wb.mv (G1:=upd G2 lh L) (O':=λx=>Ow (A.re e') os' bd x\/Hd lh (hs++[(tp,A.ev,es)]) x) B kk λx z=>by
  rcases z with z|z|⟨p,hp,rfl⟩
  .exact (f x z).imp .inl id
  .exact .inl (.inr (.inl z))
  .rcases bdf.mp hp with hp|hp
   .exact .inl (.inr (.inr (p,hp,8,)))
   .rw [aU2.mp hp];exact .inl (.inl (.inl Hj))
 have lY:upd G2 lh L tp=!(.tup [V.ref A.ev,V.str (pQ es)]):=by
  rw[Zc λy=>by rw[y,YW]at e1;cases e1];exact e1
 refine(((R1.frame λx o e z=>k1 e λy=>?_,w.h.eb.frame λo e=>?_,λz=>(f bd (.inl z)).elim (λ_=>?_) λz=>w.h.ex (.inr 8) z,),(by rw[Za,eL],λp hp=>?_,?_,),wb,λx z y=>?_,kk _ _ w.sp λ_=>id,),B1,)
 .subst y;rcases z with z|z
  .exact Qy x (.inl z) 8
  .rw [Ip.top]at e;cases e;exact z trivial
 .exact k1 (p.kp bd o e λz=>absurd z w.h.nb) (KC bd (.inr 8))
 .exact (p.fr bd z).elim w.h.nb λz=>w.h.ex (.inr 8) z
 .rcases bdf.mp hp with hp|hp
  .let(h1,h2,h3,h4,):=Ip.at_ p hp;exact(k1 h1 (MM h1),h2.frame (λo e=>k1 e h4) λx ys e=>k1 e (MM e),h3,h4,)
  .rw [aU2.mp hp];exact(lY,ev.frame (λo e=>k1 e (KC _ (.inl Hj))) λx ys e=>k1 e (MM e),l9,KC _ (.inl Hj),)
 .rw [avl];refine List.nodup_append.mpr (w.he.un,5,λx hx y hy=>?_,);let(p,hp,rfl,):=arp.mp hx;simp only[aZ1,map_nil,aDL]at hy;subst hy;exact λz=>w.sep _ (.inl Hj) (.inr (p,hp,z.symm,))
 .rcases y with y|⟨p,hp,rfl⟩
  .exact Qy x z y
  .rcases bdf.mp hp with hp|hp
   .refine (f _ z).elim (λz=>w.sep _ z (.inr (p,hp,8,))) λz=>?_;let(_,(_,ts,h,_,),_,):=w.he.at_ p hp;rw[h]at z;cases z
   .rw [aU2.mp hp]at z;rcases z with z|z
    .exact ne z
    .exact w.h.nb (by rw[<-z];exact Hj)
end
theorem Gz{n:Nat}{G:Hp}{l:Addr}{es:List (List V)}(n4:n<=4)(ev:oB n G l es):A5 (λ_=>False) G 2 (.ref l) (.list (es.map pR)):=by
 let(he,ts,h1,h2,h3,):=ev;exact .inr (l,ts.map V.ref,es.map pR,8,id,Oc n4 he h2 h3,.inl (h1,8,),)
theorem W3.le{K:W.Frag}{H G:Hp}{b lo tn tf t0:Addr}{cn cf:Cf}{ns:List Int}{g:aM}{A:TA}{os:OS}{st:ao}{bd:Addr}{bk:Int->Int}{m m':Nat}{lh:Addr}{hs:List (Addr×Addr×List (List V))}(w:W3 K H G b lo tn tf t0 cn cf ns g A os st bd bk m lh hs)(e:m<=m'):W3 K H G b lo tn tf t0 cn cf ns g A os st bd bk m' lh hs:=((w.h.rd,w.h.eb.le e,w.h.nb,),w.he,w.wb,w.sep,w.sp,)
theorem W3.mv{K:W.Frag}{H G G1:Hp}{b lo tn tf t0:Addr}{cn cf:Cf}{ns:List Int}{g:aM}{A:TA}{os:OS}{st:ao}{bd:Addr}{bk:Int->Int}{m:Nat}{lh:Addr}{hs:List (Addr×Addr×List (List V))}{a q c:Int}(w:W3 K H G b lo tn tf t0 cn cf ns g A os st bd bk m lh hs)(B:av G b a q c){e':Addr}{os':OS}{st':ao}(R1:rE K G1 (A.re e') g st' os')(p:bM (OW A os) G G1 (OW (A.re e') os')):W3 K H G1 b lo tn tf t0 cn cf ns g (A.re e') os' st' bd bk m lh hs/\av G1 b a q c:=by
 let(k,f,):=w.h.QV p;have YS:∀x,Hd lh hs x->G x≠none:=λx z e=>by
  rcases z with z|⟨p,hp,z⟩
  .rw [z,w.he.top]at e;cases e
  .let(_,(_,ts,h,_,),_,):=w.he.at_ p hp;rw[z,h]at e;cases e
 let(wb,B1,):=w.wb.mv (O':=λx=>Ow (A.re e') os' bd x\/Hd lh hs x) B (λx o e n=>k x o e λz=>n (.inl z)) λx z=>by
  rcases z with z|z
  .exact (f x z).imp .inl id
  .exact .inl (.inr z)
 exact(((R1,w.h.eb.frame λo e=>p.kp bd o e λz=>absurd z w.h.nb,λz=>(p.fr bd z).elim w.h.nb λz=>w.h.ex (.inr 8) z,),w.he.frame λx o e z=>k x o e λy=>z.elim (λz=>absurd z (w.sep x y)) id,wb,λx z y=>(f x z).elim (λz=>w.sep x z y) λz=>YS x y z,k _ _ w.sp λ_=>id,),B1,)
inductive BF(K:W.Frag)(vs:List V)(H:Hp)(Q:VK)(_v3:XK):Prop
 |mk (H0:Hp) (b lo tn tf t0:Addr) (cn cf:Cf) (ns:List Int) (g:aM) (A:TA) (os:OS) (st:ao) (bd:Addr) (bk:Int->Int) (m:Nat) (lh:Addr) (hs:List (Addr×Addr×List (List V))) (a q c:Int):vs=[.ref A.p,.ref t0,.ref lh]->W3 K H0 H b lo tn tf t0 cn cf ns g A os st bd bk m lh hs->av H b a q c->g.cf 2=cf->g.U.length<=21->hs.length<=800->(∀H' e' os' hs',W3 K H0 H' b lo tn tf t0 cn cf ns g (A.re e') os' (fX (bg g st)) bd bk m lh hs'->av H' b a q c->hs'.length=hs.length+1->Q (.bl true) H')->BF K vs H Q _v3
noncomputable def qZ(st:ao)(i:Nat):List (Int×Int):=(List.range i).flatMap λk=>(dD (st.at_ k).seq).map λb=>((k:Int),b)
theorem T8{st:ao}{i:Nat}:qZ st (i+1)=qZ st i++(dD (st.at_ i).seq).map λb=>((i:Int),b):=by
 unfold qZ;rw[List.range_succ,List.flatMap_append];simp
theorem OF{st:ao}(few:∀i,i<3->(st.at_ i).seq.length<=21):∀{i:Nat},i<=3->(qZ st i).length<=21*i
 |0,_=>aei _
 |i+1,h=>by
  have:=OF few (i:=i) 7;have:=few i 7;rw[T8,a14,aHJ,aS.length_eq];lia
theorem Tn{st:ao}{i:Nat}{p:Int×Int}(h:p∈qZ st i):∃k:Nat,k<i/\p.1=(k:Int)/\p.2∈(st.at_ k).seq:=by
 unfold qZ at h;let(k,hk,h,):=List.mem_flatMap.mp h;let(b,hb,rfl,):=arp.mp h;exact(k,aGX.mp hk,8,aS.mem_iff.mp hb,)
theorem rF.get{G:Hp}{as:List Addr}{ps:List (Int×Int)}(h:rF G as ps){j:Nat}{x:V}(e:(as.map V.ref)[j]?=!x):∃(a:Addr)(p:Int×Int),x=.ref a/\p∈ps/\G a=!(.tup [.int p.1,.int p.2]):=by
 rw[a7o]at e;cases q:as[j]? with
 |none=>rw[q]at e;cases e
 |some a=>
  rw[q]at e;have l:=(au3.mp q).1;have e2:ps[j]?=!(ps[j]'(by rw[<-h.1];exact l)):=ais _;exact(a,_,(aZC e).symm,a1U e2,h.2 j a _ q e2,)
example:(jn FQ HU vE BW xV xW HM DG):=by
 let(H0,b,lo,tn,tf,t0,cn,cf,ns,g,A,os,st,bd,bk,m,lh,hs,a,q,c,rfl,w,B,rfl,CI,l8,k,):=h;have wB:=DG 2;refine(_,(Ze (Of (i:=3) (j:=4) 8 nd 8 8 9 8 8 (pc (Zl HU hr.m 8 (pc (pv 0) (pc (ak (ZW (K:=K) 8) (pv 1) Zi (λ_ _=>8)) Zb))) (pc (ZX Zb) Zb)) 8)
   (Ze (vd a49 8 (ZO 8 T.sJ (pc Zi Zb)) (bG 05 nd) (Zg (Zn (rC (K:=K) 8 (bZ aB2 PySem.F.slot_list_extend PySem.F.type_list_extend Zgx (pv 4) (pc (ZL (Zw (iN:=(Zp aR)) (oN:=bH) (N:=["_law_board","_law_k"]) (own:=1) (js:=[05]) 6 8 8) 8 (zC (K:=K) 8 (Zj vE hr.m T.aK (pv 0) (pc (pv 05) Zb))) (λ_ _ _ _ _ _=>(bG 0 (show List.Nodup (["_law_board","_law_k"]:List Str) by decide +kernel))) (λ_ _ _ _ _ _=>(ZJ (pc (pv 1) (pc (pv 0) Zb))))) Zb))))))
   (Ze (aF (ZI (Zq (OY 8) 8 T.FD O9 (pc (ZL (Zw (iN:=(Zp aR)) (oN:=bH) (N:=["_law_k","_law_board","_law_specs","_law_pair_here"]) (own:=2) (js:=[1,0]) 6 8 8) 8 (zC (K:=K) 8 (pv 4)) (λ_ _ _ _ _ _=>(ZH (K:=K) (n:=2) 8 8 (Zo (bG 0 (show List.Nodup (["_law_k","_law_board","_law_specs","_law_pair_here"]:List Str) by decide +kernel)) (Zo (bG 1 (show List.Nodup (["_law_k","_law_board","_law_specs","_law_pair_here"]:List Str) by decide +kernel)) ZF)))) (λ_ _ _ _ _ _=>(ZR uN (Zq (ZD (K:=K) 8) 8 T.wI avg (pc (Zj xV hr.m T.aK (pv 3) (pc (pv 0) (pc (pv 1) Zb))) Zb)) (ak (ZW (K:=K) 8) (pv 2) Zi (λ_ _=>8)) (Zv _)))) Zb))) (Zg (Zs fN)) Zu)
   (Ze (cO 06 nd (AW xW hr.m T.aK (pv 0)))
   (Ze (Zn (rC (K:=K) 8 (bZ aB2 arC ap9 Zz (pv 2) (pc (ZJ (pc (pv 06) (pc (ZK (OT hr.gd (yx hr 20 9)) 8 T.Ce Fq (pc (pv 06) Zb)) Zb))) Zb))))
   (Ze (aF (PW.pt (pw_or (AY (ZI (Zl wB hr.m 8 (pc (pv 06) (pc (pv 3) Zb))))) (Lm (ZI (Zq (OY 8) 8 T.FD O9 (pc (ZL (Zw (iN:=(Zp aR)) (oN:=bH) (N:=["_law_k","_law_pair_here"]) (own:=1) (js:=[0]) 6 8 8) 8 (ZO 8 T.sJ (pc Zi Zb)) (λ_ _ _ _ _ _=>(bG 0 (show List.Nodup (["_law_k","_law_pair_here"]:List Str) by decide +kernel))) (λ_ _ _ _ _ _=>(ZR (ZkE (K:=K) (Nat.lt_of_succ_lt hu) 8) (aj ZkA (Zj vE hr.m T.aK (pv 1) (pc (pv 0) Zb)) (Zj BW hr.m T.aK (pv 1) (pc (pv 0) Zb))) (ZX Zb) (Zv _)))) Zb)))))) (Zg (Zs fN)) Zu)
   (Zg (Zs (Zq (JF 8) 8 T.DF Jw (pc (ZL (Zw (iN:=(Zp aR)) (oN:=bH) (N:=["_law_k","_law_board","_law_pair_here"]) (own:=2) (js:=[0]) 6 8 8) 8 (zC (K:=K) 8 (pv 4)) (λ_ _ _ _ _ _=>(ZH (K:=K) (n:=2) 8 8 (Zo (bG 0 (show List.Nodup (["_law_k","_law_board","_law_pair_here"]:List Str) by decide +kernel)) (Zo (bG 1 (show List.Nodup (["_law_k","_law_board","_law_pair_here"]:List Str) by decide +kernel)) ZF)))) (λ_ _ _ _ _ _=>(Zl HM hr.m 8 (pc (pv 2) (pc (pv 0) (pc (pv 1) Zb)))))) Zb)))))))))),?_,)
 have g3:=w.h.rd.ok.n3;have few:∀i,i<3->(st.at_ i).seq.length<=21:=λi hi=>atw (w.h.rd.at_.QM 7) CI;have uL:g.U.length<64:=7
 refine hide λu1 e1=>?_;refine(121,t0,135,aX.of w.sp,jw,A,g,st,os,tf,8,w.h.rd.at_,w.h.rd.ok,w.wb.pf,CI,λf1 H1 s1 hf1 Cq XS=>?_,);refine((sL 0),λlz pO=>(109,?_,),);subst e1;try dsimp only
 let(dx,ob,):=w.h.rd.at_.ob;have Qx:¬OW A os f1:=λz=>w.h.ex (.inl z) hf1;have QC:f1≠lh:=λz=>by have q:=w.he.top;rw[<-z,hf1]at q;cases q
 have DL:=s1.free pO;have Qw:¬OW A os lz:=λz=>w.h.ex (.inl z) DL;have Qt:lz≠lh:=λz=>by have q:=w.he.top;rw[<-z,DL]at q;cases q
 have Qg:=Zf pO (.lst []);have RQ:=Za (H:=H1) (a:=lz) (o:=.lst []);have w:=w.same B s1;have B:=B.same s1;have ob:=s1 _ _ ob;have R1:=w.h.rd.at_;have ok:=w.h.rd.ok;have ub:∀k x,k<3->x∈(st.at_ k).seq->0<=x/\x<=1000000:=λk x hk hx=>by
  have ln:=R1.ln;let(_,u2,_,):=R1.lZ (k:=k) 7;exact R1.wf.ub x (u2 x hx).1
 have L4:∀k x,k<3->x∈(st.at_ k).seq->((st.at_ k).wd x).length=g.size.toNat:=λk x hk hx=>by
  have ln:=R1.ln;let(_,u2,_,):=R1.lZ (k:=k) 7;exact(u2 x hx).2
 have z0:=R1.wf.z0;have u0:∀{x:Addr}{o:HO},H1 x=!o->x≠lz:=λe=>Zd e pO;clear s1 pO hf1 DL;generalize upd H1 lz (.lst [])=H2 at *;refine hide λu1 e1=>?_;refine(_,8,7,7,LS (lo:=0) (n:=(3:Int).toNat) (λi σ G=>∃(v5 v6:Option V)(as:List Addr),σ=[!(.ref A.p),!(.ref t0),!(.ref lh),!(.ref f1),!(.ref lz),v5,v6]/\G lz=!(.lst (as.map V.ref))/\rF G as (qZ st i)/\aA H1 G)
  (_,_,[],8,RQ,(8,λi a p e=>(nomatch e),),Qg,) ?_ ?_,)
 .rintro i σ G hi ⟨v5,v6,as,rfl,gl,pr,s2⟩;have tD:i<3:=hi;have e0:(0:Int)+(i:Int)=(i:Int):=7
  have R2:=R1.same s2;let(nv,Xj,):=R2.ob;refine gN ?_;try dsimp only
  refine(_,8,.inl (8,_,au.of gl,),_,8,A.p,nv,_,8,Xj,az ..,_,8,A,g,st,os,0,i,by rw[e0];rfl,R2,7,by have:=few i tD;lia,λD bs hD pb pw=>(D,8,(_,au.of Za,),λlc Rh=>?_,),);have s3:=Zf hD (.lst (bs.map V.int));have eD:=Za (H:=G) (a:=D) (o:=.lst (bs.map V.int));have eb:=Ja pb pw;have X0:bs.length<=21:=by rw[pb.length_eq];exact few i tD
  generalize upd G D (.lst (bs.map V.int))=G2 at *;refine Fp (K:=K) (a:=D) (xs:=bs.map V.int) (l:=lc) (λj ys σ G'=>∃(v0:Option V)(cs:List Addr),σ=[v0,!(.int (0+(i:Int)))]/\ys=cs.map V.ref/\rF G' cs ((bs.take j).map λb=>((i:Int),b))/\G' lc=!(.lst ys)/\aA G2 G') (none,[],8,8,(8,λi a p e=>(nomatch e),),Za,Zf Rh _,) (λj ys σ G' _ h=>by let(_,_,_,_,_,_,s,):=h;exact au.of (s _ _ eD)) ?_ ?_
  .rintro j x ys σ G' hj sU hys ⟨v0,cs,rfl,rfl,GV,gc,s4⟩;let(b,eb',rfl,):=E9 sU;refine(121,(sL 2),λt ht=>?_,);have s5:=Zf ht (.tup [V.int (0+(i:Int)),V.int b]);have et:=Za (H:=G') (a:=t) (o:=.tup [V.int (0+(i:Int)),V.int b]);generalize upd G' t (.tup [V.int (0+(i:Int)),V.int b])=G3 at *;have Rz:=s5 _ _ gc;rw[e0]at et;have ab:=(GV.same λx ys e=>s5 _ _ e).app (rF.one (p:=((i:Int),b)) et);refine jd.of (a92 (Zt (by rw[aHJ];lia))) hj hys Rz (_,cs++[t],8,by rw[avl];rfl,?_,Za,λx o e=>?_,)
   .rw [take_succ,eb',avl];exact ab.same λx ys e=>by rw[Zc (uQ e Rz (by intro z;cases z))];exact e
   .rw [Zc (Zd e Rh)];exact s5 _ _ (s4 _ _ e)
  .rintro ys σ G' _ ⟨v0,cs,rfl,rfl,GV,gc,s4⟩;rw[aHJ,take_length]at GV;have Ms:=s3.trans s4;have Ry:=Ms _ _ gl;have lcs:cs.length<=21:=by rw[GV.1,aHJ];exact X0
   have X3:as.length<=63:=by rw[pr.1];exact atw (OF few 7) 7
   refine(lz,lc,as.map V.ref,cs.map V.ref,8,8,Ry,gc,a92 (Zt (by rw[aHJ,aHJ];lia)),_,_,as++cs,8,by rw[avl];exact Za,?_,λx o e=>?_,)
   .rw [T8,<-eb];exact((pr.same λx ys e=>Ms _ _ e).app GV).same λx ys e=>by rw[Zc (uQ e Ry (by intro z;cases z))];exact e
   .rw [Zc (u0 e)];exact Ms _ _ (s2 x o e)
 rintro σ G ⟨v5,v6,as,rfl,gl,pr,s2⟩;have pr:rF G as (qZ st 3):=pr;have X3:as.length<=63:=by rw[pr.1];exact OF few 7
 have w:=w.same B s2;have B:=B.same s2;have ob:=s2 _ _ ob;have R2:=w.h.rd.at_;have Cq:=Cq.frame (H':=G) (λo e=>s2 _ _ e) λx ys e=>s2 _ _ e;clear Qg RQ R1;subst e1;try dsimp only
 refine hide λu1 e1=>?_;refine(_,8,lz,8,(_,au.of gl,),λlq DM=>?_,);refine Fp (K:=K) (a:=lz) (xs:=as.map V.ref) (l:=lq) (λj ys σ G'=>∃(v0 v1:Option V),σ=[v0,v1,!(.ref t0),!(.ref A.p)]/\ys=(List.replicate j false).map V.bl/\G' lq=!(.lst ys)/\aA G G') (none,none,8,8,Za,Zf DM _,) (λj ys σ G' _ h=>by let(_,_,_,_,_,s,):=h;exact au.of (s _ _ gl)) ?_ ?_
 .rintro j x ys σ G' hj sU hys ⟨v0,v1,rfl,rfl,gq,s3⟩;let(t,p,rfl,hp,et,):=pr.get sU;let(k0,hk,e0,hb,):=Tn hp;let(b0,b1,):=ub k0 _ hk hb;rw[e0]at et;refine(t,_,8,aX.of (s3 _ _ et),125,gN (109,gN (8,?_,),),);refine(_,8,A.p,dx,_,8,s3 _ _ ob,az ..,121,A,g,st,os,0,k0,p.2,8,R2.same s3,7,λ_=>hb,b0,b1,λD G5 hD s6 eD=>(D,_,8,.inl (au.of eD),_,8,t0,135,aX.of (s6 _ _ (s3 _ _ w.sp)),dZ,8,?_,),);have el:((Cy g st k0 p.2).map V.int).length=g.size.toNat:=by
   rw[aHJ];unfold Cy;rw[aWd 7];exact L4 k0 _ hk hb
  have key:((not (decide (V.int ((((Cy g st k0 p.2).map V.int).length:Nat):Int)=V.int g.size))))=false:=by
   rw[el,Int.toNat_of_nonneg 7,a7Y 8];rfl
  show jd _ _ _ _ _ _ (V.bl ((not (decide (V.int ((((Cy g st k0 p.2).map V.int).length:Nat):Int)=V.int g.size))))) _;rw[key];refine jd.of (a92 (Zt (by rw[aHJ];lia))) hj hys (s6 _ _ gq) (109,by rw[aXp,avl];rfl,Za,λx o e=>?_,);rw[Zc (Zd e DM)];exact s6 _ _ (s3 _ _ e)
 rintro ys σ G1 _ ⟨v0,v1,rfl,rfl,gq,s3⟩;refine(lq,_,8,au.of gq,_,8,?_,);rw[show(List.replicate (as.map V.ref).length false).any id=false by rw[any_eq_false];intro z hz;rw[(auJ.mp hz).2];exact aqS];refine cB 8 ?_;dsimp only[dB];have w:=w.same B s3;have B:=B.same s3;have gl:=s3 _ _ gl;have pr:=pr.same λx ys e=>s3 _ _ e;have ob:=s3 _ _ ob;have Cq:=Cq.frame (H':=G1) (λo e=>s3 _ _ e) λx ys e=>s3 _ _ e;clear gq R2 s3 DM s2;subst e1;try dsimp only
 refine hide λu1 e1=>?_;refine(_,8,A.p,dx,_,8,ob,az ..,A,g,st,os,8,w.h.rd,uL,λG9 zB fO R3 vO l3 ne3 p3=>?_,);have QL:(bg g st).ev.length<=900:=by
  have q:=ZiI (g:=g) (st:=st) (m:=21) ok few;have e0:=w.h.rd.at_.wK;lia
 let(top,hold,):=w.step B R3 vO QL ne3 p3;have z1:(PyData.list ((bg g st).ev.map pR)).shown.length<=sizeLine:=atw (OH 7 vO.1 QL).1 9;have gl:=(p3.out gl Qw).1;let(hev,WK,gf,XT,IE,):=Cq;have gf:=(p3.out gf Qx).1;have pr:=pr.same λx ys e=>p3.kp x _ e λ_=>id;have IE:=λi t e h1 h2=>p3.kp t _ (IE i t e h1 h2) λ_=>id;subst e1;try dsimp only
 refine hide λu1 e1=>?_;refine(_,8,.inl (8,_,au.of top,),121,λ_=>False,A.ev,2,.list ((bg g st).ev.map pR),8,9,Gz 7 vO,z1,(sL 2),λtp htp=>?_,);refine(lh,119,Zf htp _ _ _ top,?_,?_,)
 .rw [aHJ];exact Zt 7
 let(w,B,):=hold tp htp;have eh:upd (upd G9 tp (.tup [V.ref A.ev,V.str (PyData.list (List.map pR (bg g st).ev)).shown])) lh (HO.lst (hs.map (λp=>V.ref p.1)++[V.ref tp]))=upd (upd G9 tp (.tup [.ref A.ev,.str (pQ (bg g st).ev)])) lh (.lst ((hs++[(tp,A.ev,(bg g st).ev)]).map λp=>V.ref p.1)):=by rw[avl];rfl
 rw[eh];have HA:∀{x o},G9 x=!o->x≠lh->upd (upd G9 tp (.tup [.ref A.ev,.str (pQ (bg g st).ev)])) lh (.lst ((hs++[(tp,A.ev,(bg g st).ev)]).map λp=>V.ref p.1)) x=!o:=λe n=>by
  rw[Zc n];exact Zf htp _ _ _ e
 have ML:∀{x ys},G9 x=!(.tup ys)->x≠lh:=λe y=>by rw[y,top]at e;cases e
 have gl:=HA gl Qt;have Cq:oB 3 _ f1 (bg g st).ev:=(hev,WK,HA gf QC,XT,λi t e h1 h2=>HA (IE i t e h1 h2) (ML (IE i t e h1 h2)),);have pr:=pr.same λx ys e=>HA e (ML e);have NR:=(w.he.at_ _ (a2D _ (aU2.mpr 8))).2.1;clear eh hold z1 top htp gf IE vO p3 ob HA ML Qx Qw Qt QC ne3 R3;generalize upd (upd G9 tp (.tup [.ref A.ev,.str (pQ (bg g st).ev)])) lh (.lst ((hs++[(tp,A.ev,(bg g st).ev)]).map λp=>V.ref p.1))=G4 at *;let(yi,bare,):=Lq ok;have bare:∀k,k<3->((fX (bg g st)).at_ k).seq=[]:=bare;have yi:=yi.fX;subst e1;try dsimp only
 refine hide λu1 e1=>?_;rw[g3]at NR;refine(269,OG NR Cq (atw XS 9),λG5 s5=>?_,);refine(_,8,cB 8 ?_,);have w:=w.same B s5;have B:=B.same s5;have gl:=s5 _ _ gl;have pr:=pr.same λx ys e=>s5 _ _ e;clear Cq NR s5;refine(_,8,7,7,λlq DM=>?_,);refine ZY (lo:=0) (n:=(3:Int).toNat) (l:=lq) (λj ys σ G'=>∃v0:Option V,σ=[v0,!(.ref A.p)]/\ys=(List.replicate j false).map V.bl/\G' lq=!(.lst ys)/\aA G5 G') (none,8,8,Za,Zf DM _,) ?_ ?_
 .rintro i ys σ G' hi hys ⟨v0,rfl,rfl,gq,s6⟩;have tD:i<3:=hi;have e0:(0:Int)+(i:Int)=(i:Int):=7
  have R6:=w.h.rd.at_.same s6;let(Sa,Qq,):=R6.ob;refine(_,8,A.p,Sa,_,8,Qq,az ..,_,8,A.re zB,g,fX (bg g st),fO,0,i,by rw[e0];rfl,R6,7,by rw[bare i tD];decide,λD bs hD pb pw=>?_,);have YB:bs=[]:=by rw[bare i tD]at pb;exact pb.eq_nil
  subst YB;have s7:=Zf hD (.lst (([]:List Int).map V.int));refine(_,8,A.p,Sa,_,8,s7 _ _ Qq,az ..,_,8,A.re zB,g,fX (bg g st),fO,0,i,by rw[e0];rfl,R6.same s7,7,uL,λD2 cs NI mc lc pw2 nd2=>?_,);have hcs:cs=[]:=by
   cases cs with
   |nil=>rfl
   |cons x r=>
    have z:=yi.ff i x ((mc x).mp aKq);rw[bare i tD]at z;cases z
  subst hcs;have s8:=Zf NI (.lst (([]:List Int).map V.int));refine(D,D2,119,s8 _ _ Za,Za,(sL 0),λp hp=>((sL 0),λl8 Yq=>?_,),);have s9:=Zf hp (.lst (([]:List Int).map V.int++([]:List Int).map V.int));have Ab:=Zf Yq (.lst []);have Qk:=s7.trans (s8.trans (s9.trans Ab));refine(p,l8,[],[],8,8,au.of (Ab _ _ Za),au.of Za,?_,);refine jd.of (sL 3) hi hys (Qk _ _ gq) (_,8,by rw[aXp,avl];rfl,Za,λx o e=>?_,);rw[Zc (Zd e DM)];exact Qk _ _ (s6 _ _ e)
 rintro ys σ G6 _ ⟨v0,rfl,rfl,gq,s6⟩;refine(lq,_,8,au.of gq,_,8,?_,);rw[show(List.replicate (3:Int).toNat false).any id=false by rw[any_eq_false];intro z hz;rw[(auJ.mp hz).2];exact aqS];refine cB 8 ?_;dsimp only[dB];have w:=w.same B s6;have B:=B.same s6;have gl:=s6 _ _ gl;have pr:=pr.same λx ys e=>s6 _ _ e;clear gq s6 DM;subst e1;try dsimp only
 refine(_,8,lz,8,(_,au.of gl,),λlr hlr=>?_,);refine Fp (K:=K) (a:=lz) (xs:=as.map V.ref) (l:=lr) (λj ys σ G'=>∃(v0 v1:Option V),σ=[v0,v1,!(.ref A.p)]/\ys=(List.replicate j true).map V.bl/\G' lr=!(.lst ys)/\aA G6 G') (none,none,8,8,Za,Zf hlr _,) (λj ys σ G' _ h=>by let(_,_,_,_,_,s,):=h;exact au.of (s _ _ gl)) ?_ ?_
 .rintro j x ys σ G' hj sU hys ⟨v0,v1,rfl,rfl,gq,s3⟩;let(t,p,rfl,hp,et,):=pr.get sU;let(k0,hk,e0,hb,):=Tn hp;let(b0,b1,):=ub k0 _ hk hb;rw[e0]at et;refine(t,_,8,aX.of (s3 _ _ et),125,gN (109,gN (8,?_,),),);refine(185,A.re zB,g,fX (bg g st),fO,0,k0,p.2,8,w.h.rd.at_.same s3,7,by rw[bare k0 hk];exact af0,aZM (show p.2.natAbs<=1000000 by lia) 9,λG8 s9=>?_,);refine jd.of (a92 (Zt (by rw[aHJ];lia))) hj hys (s9 _ _ gq) (109,by rw[aXp,avl];rfl,Za,λx o e=>?_,);rw[Zc (Zd e hlr)];exact s9 _ _ (s3 _ _ e)
 rintro ys σ G7 _ ⟨v0,v1,rfl,rfl,gq,s3⟩;refine(lr,_,8,au.of gq,?_,);rw[show(List.replicate (as.map V.ref).length true).all id=true by rw[am5];intro z hz;rw[(auJ.mp hz).2];rfl];exact k G7 zB fO _ (w.same B s3) (B.same s3) (by rw[a14];rfl)
theorem T7{g:aM}{st:ao}(h:∀k,k<3->(st.at_ k).seq=[]):bg g st=st:=by
 have z:dD []=[]:=(Ja (bs:=[]) .nil .nil).symm;have e1:aG g st 1=st:=by
  show dY g 0 (dD (st.at_ 0).seq) st=st;rw[h 0 7,z];rfl
 have e2:aG g st 2=st:=by
  show dY g 1 (dD ((aG g st 1).at_ 1).seq) (aG g st 1)=st;rw[e1,h 1 7,z];rfl
 unfold bg;rw[e2,h 2 7,z];rfl
theorem W3.zx{K:W.Frag}{H G:Hp}{b lo tn tf t0:Addr}{cn cf:Cf}{ns:List Int}{g:aM}{A:TA}{os:OS}{st:ao}{bd:Addr}{bk:Int->Int}{m:Nat}{lh:Addr}{hs:List (Addr×Addr×List (List V))}(w:W3 K H G b lo tn tf t0 cn cf ns g A os st bd bk m lh hs):st.ev=[]:=List.length_eq_zero_iff.mp (Nat.le_zero.mp w.h.rd.at_.wK)
inductive BA(K:W.Frag)(vs:List V)(H:Hp)(Q:VK)(E:XK):Prop
 |mk (H0:Hp) (b lo tn tf t0:Addr) (cn cf:Cf) (ns:List Int) (g:aM) (A:TA) (os:OS) (st:ao) (bd:Addr) (bk:Int->Int) (m:Nat) (lh:Addr) (hs:List (Addr×Addr×List (List V))) (a q c:Int):vs=[.ref b,.ref A.p,.ref t0,.ref lo,.ref bd,.ref lh]->W3 K H0 H b lo tn tf t0 cn cf ns g A os st bd bk m lh hs->(∀x,Lw g bk x st)->av H b a q c->c<=1000000->g.cf 2=cf->g.U.length<=21->g.U=ns->1<=ns.length->ns.length<=20->(∀x∈ns,0<=x/\x<=100000/\x<=9999/g.size)->1<=g.size->g.size<=16->hs.length<=08->m<=300->(∀H' A' os' st' gu hs' a' c',A'.p=A.p->W3 K H0 H' b lo tn tf t0 cn cf ns g A' os' st' bd gu (m+60) lh hs'->(∀x,Lw g gu x st')->av H' b a' q c'->c'<=c+1000->hs'.length=hs.length+1->Q (.bl true) H')->BA K vs H Q E
example:(lE FG HX HR HW FQ FL ck xW DG):=by
 let(H0,b,lo,tn,tf,t0,cn,cf,ns,g,A,os,st,bd,bk,m,lh,hs,a,q,c,rfl,w,lw,B,hc,c2,CI,gU,n1,MU,Cc,z0,VC,l8,m3,k,):=h;have wB:=DG 2;refine(_,(Ze (vd a49 8 (ZO 8 T.sJ (pc (Zl HX hr.m 8 (pc (pv 0) (pc Zi (pc Zi Zb)))) Zb)) (bG 06 nd) (Ze (tK (Zl HR hr.m 8 (pc (pv 0) (pc (ak (ZW (K:=K) 8) (pv 2) Zi (λ_ _=>8)) (pc (pv 3) Zb)))) (ZH (K:=K) (n:=2) 8 8 (Zo (bG 07 nd) (Zo (bG 08 nd) ZF))))
   (Ze (aF (Zx bu (ak (ZW (K:=K) 8) (pv 08) Zi (λ_ _=>8)) ZN (Zv _)) (Zg (Jl hu (pv 4) (ak (ZW (K:=K) 8) (pv 08) Zi (λ_ _=>8)) (ak (ZW (K:=K) 8) (pv 08) Zi (λ_ _=>8)) 8)) Zu)
   (Zg (Zn (Zl HW hr.m 8 (pc (pv 1) (pc (pv 07) (pc (pv 08) Zb)))))))))
   (Ze (aF (AY (ZI (Zl FQ hr.m 8 (pc (pv 1) (pc (pv 2) (pc (pv 05) Zb)))))) (Zg (Zs fN)) Zu)
   (Ze (aF (AY (ZI (Zl wB hr.m 8 (pc (AW FL hr.m T.aK (pv 1)) (pc (Zia (Zw (iN:=(Zp dg)) (oN:=nM) (N:=["_law_spot","_law_book"]) (own:=1) (js:=[4]) 6 8 8) 8 (zC (K:=K) 8 (Zq (Zde 8) 8 T.DH aHD (pc (pv 4) Zb))) (λ_ _ _ _ _ _=>(bG 0 (show List.Nodup (["_law_spot","_law_book"]:List Str) by decide +kernel))) (λ_ _ _ _ _ _=>(Zx uN (Jo hu (pv 1) (pv 0) (λ_ _=>8)) Zi (Zv _))) (λ_ _ _ _ _ _=>(ZJ (pc (pv 0) (pc (Jo hu (pv 1) (pv 0) (λ_ _=>8)) Zb))))) Zb))))) (Zg (Zs fN)) Zu)
   (Zg (Zs (GU (ZR bu (Zl ck hr.m 8 (pc (pv 0) (pc Zi Zb))) Zi (Zv _)) (Je (Zl wB hr.m 8 (pc (AW xW hr.m T.aK (pv 1)) (pc (ZX Zb) Zb)))))))))),?_,)
 have g3:=w.h.rd.ok.n3;have uL:g.U.length<64:=7
 have hs':0<g.size:=7
 refine hide λu1 e1=>?_;refine(_,8,b,a,q,c,020,060,8,B,7,9,9,9,λmn a4 c4 H9 XN XM B9 hc4 t4=>(_,8,7,7,LS (lo:=0) (n:=mn.toNat) (λi σ G=>∃(v6 v7 v8:Option V)(A':TA)(os':OS)(st':ao)(gu:Int->Int)(a' c':Int),σ=[!(.ref b),!(.ref A.p),!(.ref t0),!(.ref lo),!(.ref bd),!(.ref lh),v6,v7,v8]/\A'.p=A.p/\W3 K H0 G b lo tn tf t0 cn cf ns g A' os' st' bd gu (m+i) lh hs/\(∀x,Lw g gu x st')/\av G b a' q c'/\c'<=c4+13*(i:Int))
  (108,A,os,st,bk,a4,c4,8,8,w.sb B t4,lw,B9,7,) ?_ ?_,),)
 .rintro i σ G hi ⟨v6,v7,v8,A',os',st',gu,a',c',rfl,eA,w,lw,B',hc'⟩;refine gN ?_;refine Io λD' Rv=>?_;try dsimp only
  rw[<-eA]at Rv ⊢;refine hide λu2 e2=>?_;refine(121,t0,135,aX.of w.sp,dZ,_,8,b,lo,a',q,c',g.size,ns,8,B',w.wb.nb,7,z0,VC,w.wb.yK,n1,MU,Cc,λhd t hh d a5 c5 G1 DY et Rl ok5 iU B5 hc5 s5=>(hd,_,8,aX.of DY,125,gN (109,gN (8,?_,),),),);subst e2;try dsimp only
  have w:=w.sb B' s5;have bU:d.sp/g.size∈g.U:=by rw[gU];exact iU
  refine hide λu2 e2=>?_;have key:∀G2,W3 K H0 G2 b lo tn tf t0 cn cf ns g A' os' st' bd (Sd gu d) (m+i+1) lh hs->av G2 b a5 q c5->G2 t=!(.tup d.vs)->u2 D' [!(.ref b),!(.ref A'.p),!(.ref t0),!(.ref lo),!(.ref bd),!(.ref lh),!(.int (0+(i:Int))),!(.int (hh:Int)),!(.ref t)] G2:=λG2 w B6 et=>by
   subst e2;refine(185,A',g,st',os',t,hh,d,8,w.h.rd,Rl,et,bU,λG3 e' gF tp RT R2 ev X7 MR p2=>?_,);have AA:=λx=>Zkh (x:=x) (d:=d) hs' w.h.rd.ok Rl lw;let(w,B7,):=w.mv B6 R2 p2;exact Rv _ _ (108,A'.re e',gF,_,_,a5,c5,8,8,w,AA,B7,7,)
  cases d with
  |wt sp v=>
   let(kvs,h2,h3,h4,):=w.h.eb;have nt:t≠bd:=λz=>by rw[z,h2]at et;cases et
   let(w2,B6,):=w.put B5 (mK.put h3 h4 sp v);refine(_,8,t,135,aX.of et,dZ,113,dQ (a7Y 8) ?_,);refine(_,8,t,135,aX.of et,jw,121,t,135,aX.of et,jx,bd,_,8,mH.k (k:=Sum.inl sp) h2 (Zt (by have:=h3.1;lia)),?_,);exact key _ w2 B6 (by rw[Zc nt];exact et)
  |rd sp=>
   refine(_,8,t,135,aX.of et,dZ,113,cB 6 ?_,);exact key _ (w.le (Nat.le_succ _)) B5 et
 rintro σ G ⟨v6,v7,v8,A',os',st',gu,a',c',rfl,eA,w,lw,B',hc'⟩;subst e1;try dsimp only
 rw[<-eA];have m60:mn.toNat<=60:=7
 have c60:c4+13*(mn.toNat:Int)<=c4+780:=7
 generalize mn.toNat=mm at *;clear B9 t4;refine hide λu1 e1=>?_;refine(185,H0,b,lo,tn,tf,t0,cn,cf,ns,g,A',os',st',bd,gu,m+mm,lh,hs,a',q,c',8,w,B',c2,CI,atw l8 9,λG1 e' eU hs1 w1 B1 QK=>(_,8,cB 8 ?_,),);have Dy:=λs=>Zkf hs' w.h.rd.ok lw s;have EO:=λx=>(Tq hs' w.h.rd.ok (lw x)).fX;let(Hh,yP,):=Lq w.h.rd.ok;have yP:∀k,k<3->((fX (bg g st')).at_ k).seq=[]:=yP;have Hh:=Hh.fX;clear w B' lw;have zA:(fX (bg g st')).mem=(bg g st').mem:=8;generalize fX (bg g st')=st1 at *;rw[<-zA]at Dy;clear zA;subst e1;try dsimp only
 dsimp only[dB];refine hide λu1 e1=>?_;have w:=w1;let(Y6,Xi,):=w.h.rd.at_.ob;refine(_,8,A'.p,Y6,_,8,Xi,az ..,A'.re e',g,_,eU,0,8,w.h.rd.at_,λD ps G2 hD s2 pD pL=>?_,);have w:=w.same B1 s2;have B2:=B1.same s2;let(kvs,h1,(h2,ks,h5,h6,),h3,):=w.h.eb;have lk:ks.length<=400:=by
  have l:=aFk List.length h5;rw[aHJ,aHJ]at l;lia
 refine(_,8,bd,kvs,ks,8,h1,h5,7,λD2 gF NI po pw=>(D2,8,(_,au.of Za,),λlz pO=>?_,),);have sD:=Zf NI (.lst (gF.map V.int));have eD:=Za (H:=G2) (a:=D2) (o:=.lst (gF.map V.int));have w:=w.same B2 sD;have B3:=B2.same sD;have h1:=sD _ _ h1;have pD:=pD.same sD;generalize upd G2 D2 (.lst (gF.map V.int))=G3 at *;have lo2:gF.length<=400:=by rw[po.length_eq];exact lk
 refine Fp (K:=K) (a:=D2) (xs:=gF.map V.int) (l:=lz) (λi ys σ G=>∃(v0:Option V)(as:List Addr),σ=[v0,!(.ref bd)]/\ys=as.map V.ref/\rF G as (lC gu (gF.take i))/\G lz=!(.lst ys)/\aA G3 G)
  (none,[],8,8,(8,λj a p e=>(nomatch e),),Za,Zf pO _,) (λi ys σ G _ h=>by let(_,_,_,_,_,_,s,):=h;exact au.of (s _ _ eD)) ?_ ?_
 .rintro i x ys σ G hi hx hys ⟨v0,as,rfl,rfl,pr,gl,s2⟩;let(s,es,rfl,):=E9 hx;have e1:=s2 _ _ h1;have sn:=ZhP (bk:=gu) es;have hsv:∃v,d8 G bd (.int s) (!(.int v))/\v=gu s:=by
   have m:s∈ks:=po.mem_iff.mp (a1U es);have z:=(A3 (kvs:=kvs) (Sum.inl s)).mpr (by rw[h5];exact aov m);have v:=h3 s;have g:=d8.k (k:=Sum.inl s) e1;cases c:aL kvs (Sum.inl s:Key) with
   |none=>rw[c]at z;cases z
   |some y=>
    rw[c]at v g;have v:y=V.int (gu s):=v;rw[v]at g;exact(_,g,8,)
  let(v,gv,rfl,):=hsv;refine(121,bd,_,8,gv,113,?_,);by_cases c:gu s=0
  .rw [aS1 c,bdd]at sn;exact cB (by simp[c]) (Bl.of hi hys (_,as,8,8,by rw[sn];exact pr,gl,s2,))
  .rw [aWd c]at sn;refine dQ (by simp[c]) (185,bd,_,8,gv,(sL 2),λt ht=>?_,);have s3:=Zf ht (.tup [.int s,.int (gu s)]);have et:=Za (H:=G) (a:=t) (o:=.tup [.int s,.int (gu s)]);generalize upd G t (.tup [.int s,.int (gu s)])=G4 at *;have DU:=s3 _ _ gl;have ab:=(pr.same λx ys e=>s3 _ _ e).app (rF.one (p:=(s,gu s)) et);refine jd.of (a92 (Zt (by rw[aHJ];lia))) hi hys DU (_,as++[t],8,by rw[avl];rfl,by rw[sn];exact ab.same λx ys e=>by rw[Zc (uQ e DU (by intro z;cases z))];exact e,Za,λx o e=>by rw[Zc (Zd e pO)];exact s3 _ _ (s2 _ _ e),)
 rintro ys σ G _ ⟨v0,as,rfl,rfl,pr,gl,s2⟩;rw[aHJ,take_length]at pr;have Qm:=Zkk po pw h5 h6 h3;have lp:(lC gu gF).length<=1000:=atw Zkj 7;have YY:ps=lC gu gF:=(pL.congr Dy).uniq Qm;subst YY;have w:=w.same B3 s2;have B4:=B3.same s2;refine(109,(pD.same s2).eqv (as,gl,pr,) lp,λG4 s4=>(_,8,cB 8 ?_,),);have w:=w.same B4 s4;subst e1;try dsimp only
 dsimp only[dB];have B5:=B4.same s4;refine(_,8,b,a',q,c',2,8,B5,7,9,9,λr1 a6 c6 G8 zm BP FA hc6 s8=>?_,);have w:=w.sb B5 s8;clear pL Qm Dy pr gl pD h1 h3 h5 h6 h2 po pw pO sD eD;refine(113,?_,);by_cases cr:r1=0
 .refine dQ (by simp[cr]) ?_;exact k G8 (A'.re e') eU st1 gu hs1 a6 c6 eA (w.le 7) EO FA 7 QK
 .refine cB (by simp[cr]) ?_;let(NV,Kv,):=w.h.rd.at_.ob;have zx:=w.zx;have eb:=T7 (g:=g) yP;refine(_,8,A'.p,NV,_,8,Kv,az ..,A'.re e',g,st1,eU,8,w.h.rd,uL,λG9 zB fO R3 vO l3 ne3 p3=>((sL 0),λl0 DN=>?_,),);rw[eb,zx]at vO;rw[eb]at R3;let(w,Fz,):=w.mv FA R3 p3;have s9:=Zf DN (.lst []);refine(109,OG (vO.frame (λo e=>s9 _ _ e) λx ys e=>s9 _ _ e) (m:=l0) (λe h=>(nomatch h),[],Za,8,λi t e h=>(nomatch h),) (aei _),λPJ Ab=>?_,);have EK:=s9.trans Ab;have w:W3 K H0 PJ b lo tn tf t0 cn cf ns g ((A'.re e').re zB) fO (fX st1) bd gu (m+60) lh hs1:=(w.same Fz EK).le 7;have EO:∀x,Lw g gu x (fX st1):=λx=>(EO x).fX;exact k PJ ((A'.re e').re zB) fO (fX st1) gu hs1 a6 c6 eA w EO (Fz.same EK) 7 QK
section
variable{K:W.Frag}{H G:Hp}{b lo tn tf t0:Addr}{cn cf:Cf}{ns:List Int}{g:aM}{A:TA}{os:OS}{st:ao}{bd:Addr}{bk:Int->Int}{m:Nat}{lh:Addr}{hs:List (Addr×Addr×List (List V))}{a q c:Int}{lz:Addr}{o':HO}
theorem W3.lay(w:W3 K H G b lo tn tf t0 cn cf ns g A os st bd bk m lh hs)(B:av G b a q c)(no:∀x,(Ow A os bd x\/Hd lh hs x)\/x=lo->x≠lz)(nb:lz≠b)(im:∀o,G lz=!o->Mt o):W3 K (upd H lz o') (upd G lz o') b lo tn tf t0 cn cf ns g A os st bd bk m lh hs/\av (upd G lz o') b a q c:=by
 have kk:∀x o,G x=!o->(((Ow A os bd x\/Hd lh hs x)\/x=lo)\/¬Mt o)->upd G lz o' x=!o:=λx o e z=>by
  rw[Zc λy=>?_]
  .exact e
  .rcases z with z|z
   .exact no x z y
   .rw [y]at e;exact z (im o e)
 have tu:∀{x ys},G x=!(.tup ys)->upd G lz o' x=!(.tup ys):=λ{x ys} e=>kk x _ e (.inr id);have e1:upd G lz o' b=G b:=Zc nb.symm;refine((w.h.keep λx o e z=>kk x o e (z.imp (λz=>.inl (.inl z)) id),w.he.frame λx o e z=>kk x o e (z.imp (λz=>.inl (.inr z)) id),(kk _ _ w.wb.yK (.inl (.inr 8)),w.wb.pn.frame λx ys e=>tu e,w.wb.pf.frame λx ys e=>tu e,λx o n e=>?_,λx z=>?_,w.wb.of,w.wb.nb,),w.sep,tu w.sp,),(e1.trans B.at',B.a0,B.q0,B.q1,B.c0,),)
 .by_cases y:x=lz
  .rw [y,Za]at e ⊢;exact e
  .rw [Zc y]at e ⊢;exact w.wb.kp x o n e
 .rw [Zc (no x z)];exact w.wb.nw x z
theorem W3.dn(w:W3 K (upd H lz o') G b lo tn tf t0 cn cf ns g A os st bd bk m lh hs)(h:H lz=none):W3 K H G b lo tn tf t0 cn cf ns g A os st bd bk m lh hs:=by
 refine(w.h,w.he,(w.wb.yK,w.wb.pn,w.wb.pf,λx o n e=>w.wb.kp x o n ?_,λx z=>?_,w.wb.of,w.wb.nb,),w.sep,w.sp,)
 .rw [Zc (Zd e h)];exact e
 .have q:=w.wb.nw x z;by_cases y:x=lz
  .rw [y];exact h
  .rw [Zc y]at q;exact q
end
inductive ud(K:W.Frag)(vs:List V)(H:Hp)(Q:VK)(E:XK):Prop
 |mk (b:Addr) (a q:Int):vs=[.ref b]->av H b a q 0->Tb K H->(∀H',SB b H H'->Q (.bl true) H')->ud K vs H Q E
example:(yh HG HV FH HK ck FG xW FF DG):=by
 let(b,a,q,rfl,B,tb,k,):=h;have wB:=DG 2;refine(_,(Ze (cO 1 nd (Zl HV hr.m 8 (pc (pv 0) Zb)))
   (Ze (tK (ZJ (pc (Zl FH hr.m 8 (pc (pv 0) (pc (ak (ZW (K:=K) 8) (pv 1) Zi (λ_ _=>8)) Zb))) (pc (LO HK hr.m 8 (pc (ak (ZW (K:=K) 8) (pv 1) Zi (λ_ _=>8)) (pc (ak (ZW (K:=K) 8) (pv 1) Zi (λ_ _=>8)) (pc (ak (ZW (K:=K) 8) (pv 1) Zi (λ_ _=>8)) Zb)))) (pc Ju Zb)))) (ZH (K:=K) (n:=3) 8 8 (Zo (bG 2 nd) (Zo (bG 3 nd) (Zo (bG 4 nd) ZF)))))
   (Ze (cO 05 nd (ZX Zb))
   (Ze (aF (AY (ZI (Zl wB hr.m 8 (pc (AW xW hr.m T.aK (pv 3)) (pc (ZX Zb) Zb))))) (Zg (Zs fN)) Zu)
   (Ze (aF (AY (ZI (Zq (JF 8) 8 T.DF Jw (pc (ZL (Zw (iN:=(Zp oS)) (oN:=A8) (N:=["_law_turn","_law_box_here","_law_pair_here","_law_specs","_law_some","_law_book","_law_held"]) (own:=1) (js:=[0,3,1,2,4,05]) 6 8 8) 8 (ZO 8 T.sJ (pc (aj ZP Zi (Zl ck hr.m 8 (pc (pv 0) (pc Zi Zb)))) Zb)) (λ_ _ _ _ _ _=>(bG 0 (show List.Nodup (["_law_turn","_law_box_here","_law_pair_here","_law_specs","_law_some","_law_book","_law_held"]:List Str) by decide +kernel))) (λ_ _ _ _ _ _=>(Zl FG hr.m 8 (pc (pv 1) (pc (pv 2) (pc (pv 3) (pc (pv 4) (pc (pv 05) (pc (pv 06) Zb))))))))) Zb)))) (Zg (Zs fN)) Zu)
   (Zg (Zs (Zl FF hr.m 8 (pc (pv 05) Zb))))))))),?_,)
 refine hide λu1 e1=>?_;refine(_,8,b,a,q,0,8,B,9,λt0 tn tf size cn cf a1 c1 H2' AD GN GS z0 z1 JW hc1 L6=>?_,);subst e1;try dsimp only
 have Ax:∀{x ys},H2' x=!(.tup ys)->x≠b:=λ{x ys} e z=>by rw[z,JW.at']at e;cases e
 refine hide λu1 e1=>?_;refine(121,t0,135,aX.of AD,dZ,b,a1,q,c1,size,8,JW,7,z0,z1,λlo ns a3 c3 H3 hlo yK n3 MU Se B3 hc3 t3=>?_,);have Kq:=GN.frame (H':=H3) λx ys e=>t3 _ _ (Ax e) e;have Kr:=GS.frame (H':=H3) λx ys e=>t3 _ _ (Ax e) e;have Ck:=t3 _ _ (Ax AD) AD;have u3:SB b H H3:=L6.trans t3;have pB:lo≠b:=λz=>by rw[z,JW.at']at hlo;cases hlo
 have Nz:H lo=none:=LJ L6 JW.at' hlo;have Qa:Tb K H3:=u3 _ _ (λz=>by have t:=tb;unfold Tb at t;rw[z,B.at']at t;cases t) tb;have s9:9999/size<=9999:=Int.ediv_le_self _ 9;have Cc:∀x∈ns,0<=x/\x<=100000/\x<=9999/size:=λx hx=>by
  have:=Se x hx;lia
 refine(_,8,t0,135,aX.of Ck,dZ,_,8,t0,135,aX.of Ck,jx,_,8,t0,135,aX.of Ck,jw,λp dx hp hdx Hl=>?_,);have Sb:1<=cn.pl/\cn.pl<=16:=by let(_,_,_,_,_,_,h1,h2,_,):=Kq;exact(h1,h2,)
 have Z3:1<=cf.pl/\cf.pl<=16:=by let(_,_,_,_,_,_,h1,h2,_,):=Kr;exact(h1,h2,)
 obtain⟨g,eg⟩:∃g:aM,g=(size,"",[cn,cn,cf],ns,):=(_,8,);have wf:WF g:=by
  rw[eg];refine(λc hc=>?_,z0,by show size<=1000;lia,by show ns.length<=800;lia,λb hb=>?_,by show 3<=4;decide,by show 1<=3;decide,)
  .simp only[as2,af0,aRi]at hc;rcases hc with rfl|rfl|rfl
   .exact Sb
   .exact Sb
   .exact Z3
  .have:=Cc b hb;lia
 have CI:g.U.length<=21:=by rw[eg];show ns.length<=21;lia
 have gU:g.U=ns:=by rw[eg]
 have g3:g.n=3:=by rw[eg];rfl
 have RX:((size,"",[cn,cn,cf],ns,):aM)=g:=eg.symm;have RY:size=g.size:=by rw[eg]
 have gU':ns=g.U:=by rw[eg]
 have gc:g.cf 0=cn/\g.cf 1=cn/\g.cf 2=cf:=by rw[eg];exact(8,8,8,)
 let(n0,n1,):=Zkg g3;clear eg Se;have m1:aA H3 (upd (upd H3 dx (.own p)) p (.ins (af K "Beside") dx [])):=λx o e=>by rw[Zc (Zd e hp),Zc (Zd e hdx)];exact e
 have hp1:=Za (H:=upd H3 dx (.own p)) (a:=p) (o:=.ins (af K "Beside") dx []);have K9:∀x,upd (upd H3 dx (.own p)) p (.ins (af K "Beside") dx []) x=none->H3 x=none:=λx e=>m1.free e;generalize upd (upd H3 dx (.own p)) p (.ins (af K "Beside") dx [])=H4 at *;refine(p,dx,tn,tf,size,cn,cf,8,hp1,Kq.frame λx ys e=>m1 _ _ e,Kr.frame λx ys e=>m1 _ _ e,Qa.same m1,λA0 GY H5 ep RS own k2=>(8,λbd hbd=>((sL 3),λtq Q7=>(tq,_,8,aX.of Za,125,gN (109,gN (109,gN (8,?_,),),),),),),);have m2:aA H3 H5:=λx o e=>k2 x o (m1 _ _ e) (Zd e hp);have hO:∀x,OW A0 GY x->H3 x=none:=λx h=>by
  by_cases z:x=p
  .rw [z];exact hp
  .exact K9 x (own x h z)
 have R5:aa K H5 A0 g (yW 3) GY 0:=by
  have R:=RS (ns) (by rw[RX];exact wf);rw[RX]at R;exact R
 subst e1;try dsimp only
 rw[show V.ref p=V.ref A0.p by rw[ep]];have B5:=B3.same m2;clear m1 hp1 K9 RS own k2 ep;have s5:=Zf hbd (.dK []);have IJ:=Za (H:=H5) (a:=bd) (o:=.dK []);have Z5:∀{x o},H5 x=!o->x≠bd:=λe=>Zd e hbd;generalize upd H5 bd (.dK [])=H6 at *;have uL:g.U.length<64:=7
 have hs0:0<g.size:=7
 have sq:=Zf Q7 (.tup [V.ref lo,V.ref A0.p,V.ref bd]);have B6:=B5.same (s5.trans sq);have s7:=s5.trans sq;have IJ:=sq _ _ IJ;clear s5 sq Q7 Z5;generalize upd H6 tq (.tup [V.ref lo,V.ref A0.p,V.ref bd])=PF at *;refine hide λu1 e1=>?_;refine((sL 0),λlh Cn=>?_,);have sl:=Zf Cn (.lst []);have RV:=Za (H:=PF) (a:=lh) (o:=.lst []);have EL:=m2.trans (s7.trans sl);have vL:H3 lh=none:=m2.free (s7.free Cn);have w0:W3 K H (upd PF lh (.lst [])) b lo tn tf t0 cn cf ns g A0 GY (yW 3) bd (λ_=>0) 0 lh []:=by
  have oH:∀x,Ow A0 GY bd x->H3 x=none:=λx z=>z.elim (hO x) λz=>by rw[z];exact m2.free hbd
  refine(((R5.same (s7.trans sl),n0,),([],sl _ _ IJ,(amA _,KI.nil,),λs=>8,),R5.fresh hbd,),(RV,λp hp=>(nomatch hp),.nil,),(EL _ _ yK,Kq.frame λx ys e=>EL _ _ e,Kr.frame λx ys e=>EL _ _ e,u3.trans (EL.sb b),λx z=>?_,(λz=>?_,λz=>?_,),pB,),λx z y=>?_,?_,)
  .rcases z with(z|z|⟨p,hp,_⟩)|z
   .exact LJ u3 B3.at' (oH x z)
   .rw [z];exact LJ u3 B3.at' vL
   .cases hp
   .rw [z];exact Nz
  .rcases z with z|z|⟨p,hp,_⟩
   .have z:=oH b z;rw[B3.at']at z;cases z
   .rw [<-z,B3.at']at vL;cases vL
   .cases hp
  .rcases z with z|z|⟨p,hp,_⟩
   .have z:=oH lo z;rw[yK]at z;cases z
   .rw [<-z,yK]at vL;cases vL
   .cases hp
  .rcases y with y|⟨p,hp,_⟩
   .rw [y]at z;rcases z with z|z
    .exact (R5.same s7).fresh Cn z
    .rw [z,IJ]at Cn;cases Cn
   .cases hp
  .rw [<-RY];exact EL _ _ Ck
 have B6:=B6.same sl;clear R5 s7 IJ hbd B5 hO m2 Kq Kr yK u3 B3 Qa t3 GN GS AD Ax Ck RV L6 JW sl vL EL Cn;generalize upd PF lh (.lst [])=H7 at *;subst e1;try dsimp only
 refine hide λu1 e1=>?_;let(NV,Kv,):=w0.h.rd.at_.ob;have bare:∀k,k<3->((yW 3).at_ k).seq=[]:=λk hk=>by
  rcases(show k=0\/k=1\/k=2 by lia) with rfl|rfl|rfl <;> rfl
 have eb:=T7 (g:=g) bare;have zx:=w0.zx;refine(_,8,A0.p,NV,_,8,Kv,az ..,A0,g,_,GY,8,w0.h.rd,uL,λG9 zB fO R3 vO l3 ne3 p3=>((sL 0),λl0 DN=>?_,),);rw[eb,zx]at vO;rw[eb]at R3;let(w,Fz,):=w0.mv B6 R3 p3;have s9:=Zf DN (.lst []);refine(109,OG (vO.frame (λo e=>s9 _ _ e) λx ys e=>s9 _ _ e) (m:=l0) (λe h=>(nomatch h),[],Za,8,λi t e h=>(nomatch h),) (aei _),λPJ Ab=>(_,8,cB 8 ?_,),);have EK:=s9.trans Ab;have w:=w.same Fz EK;have VA:=Fz.same EK;have EO:∀x,Lw g (λ_=>0) x (fX (yW 3)):=λx=>(n1 x).fX;have Y4:(A0.re zB).p=A0.p:=8;clear s9 Ab EK DN vO R3 p3 ne3 l3 Fz w0 B6 Kv eb zx bare;generalize A0.re zB=A1 at *;generalize fX (yW 3)=st1 at *;subst e1;try dsimp only
 dsimp only[dB];refine hide λu1 e1=>?_;refine(_,8,b,a3,q,c3,2,8,VA,7,9,9,λr1 a6 c6 G8 zm BP FA hc6 s8=>(177,7,7,λlz pO=>?_,),);have w:=w.sb VA s8;have KA:lz≠b:=λz=>by rw[z,FA.at']at pO;cases pO
 have AF:H lz=none:=w.wb.new FA pO;let(wz,Bz,):=w.lay (lz:=lz) (o':=.lst []) FA (λx z y=>by
  rw[y]at z;rcases z with(z|z|⟨p,hp,_⟩)|z
  .exact w.h.ex z pO
  .have t:=w.he.top;rw[<-z,pO]at t;cases t
  .cases hp
  .have t:=w.wb.yK;rw[<-z,pO]at t;cases t) KA λo e=>by rw[pO]at e;cases e
 have n2:(2+r1).toNat<=3:=7
 refine ZY (lo:=0) (n:=(2+r1).toNat) (l:=lz) (λi ys σ G=>∃(v0:Option V)(A':TA)(os':OS)(st':ao)(gu:Int->Int)(hs':List (Addr×Addr×List (List V)))(a' c':Int),σ=[v0,!(.ref b),!(.ref A0.p),!(.ref t0),!(.ref lo),!(.ref bd),!(.ref lh)]/\ys=(List.replicate i true).map V.bl/\A'.p=A0.p/\W3 K (upd H lz (.lst ys)) G b lo tn tf t0 cn cf ns g A' os' st' bd gu (60*i) lh hs'/\(∀x,Lw g gu x st')/\av G b a' q c'/\c'<=c6+1000*(i:Int)/\hs'.length=i) (none,A1,fO,st1,_,[],a6,c6,8,8,Y4,wz,EO,Bz,7,8,) ?_ ?_
 .rintro i ys σ G hi hys ⟨v0,A',os',st',gu,hs',a',c',rfl,rfl,eA,w,lw,B',hc',XZ⟩;refine(11022,b,lo,tn,tf,t0,cn,cf,ns,g,A',os',st',bd,gu,60*i,lh,hs',a',q,c',by rw[eA];rfl,w,lw,B',7,gc.2.2,CI,gU,7,MU,by rw[<-RY];exact Cc,7,7,7,7,λG2 A2 gF st2 Z4 hs2 a2 c2 Y3 w2 AA B2 hc2 lh2=>?_,);have gl:=w2.wb.kp lz _ KA Za;let(w3,B3,):=w2.lay (o':=.lst ((List.replicate i true).map V.bl++[.bl true])) B2 (λx z y=>by
   have q:=w2.wb.nw x z;rw[y,Za]at q;cases q) KA λo e=>by rw[gl]at e;cases e;trivial
  rw[LD]at w3;exact jd.of (atw n2 9) hi hys gl (_,A2,gF,st2,Z4,hs2,a2,c2,8,by rw[aXp,avl];rfl,Y3.trans eA,w3,AA,B3,7,7,)
 rintro ys σ G _ ⟨v0,A',os',st',gu,hs',a',c',rfl,rfl,eA,w,lw,B',hc',XZ⟩;have gl:=w.wb.kp lz _ KA Za;refine(lz,_,8,au.of gl,_,8,?_,);rw[show(List.replicate (2+r1).toNat true).all id=true by rw[am5];intro z hz;rw[(auJ.mp hz).2];rfl];refine cB 8 ?_;subst e1;try dsimp only
 dsimp only[dB];have w:=w.dn AF;refine(_,8,lh,g.n,hs',8,w.he,7,7,λH' f=>k _ λx o nb e=>f x o (w.wb.kp x o nb e) λp hp z=>?_,);have z:=w.wb.nw x (.inl (.inr (.inr (p,hp,z,))));rw[e]at z;cases z
inductive qp(K:W.Frag)(vs:List V)(H:Hp)(Q:VK)(E:XK):Prop
 |mk (a:Addr) (ns:List Int):vs=[.ref a]->au K H a (ns.map V.int)->ns.length<=63->Tb K H->(∀H',Q (.bl true) H')->qp K vs H Q E
example:(Dj Au HS HJ HG):=by
 let(a,ns,rfl,hS,h63,tb,k,):=h;refine(_,(Ze (cO 1 nd (Zl HJ hr.m 8 (pc (pv 0) (pc Zi Zb))))
   (Zg (Zs (Zq (JF 8) 8 T.DF Jw (pc (ZL (Zw (iN:=(Zp iH)) (oN:=JP) (N:=["_law_k","_law_cells"]) (own:=1) (js:=[1]) 6 8 8) 8 (ZO 8 T.sJ (pc (Zq (UP 8) 8 T.J4 UD (pc Zi (pc (Zq (ZD (K:=K) 8) 8 T.wI avg (pc (pv 1) Zb)) Zb))) Zb)) (λ_ _ _ _ _ _=>(bG 0 (show List.Nodup (["_law_k","_law_cells"]:List Str) by decide +kernel))) (λ_ _ _ _ _ _=>(Zl HG hr.m 8 (pc (Zl HS hr.m 8 (pc (pv 1) (pc (pv 0) Zb))) Zb)))) Zb))))),?_,)
 refine(_,8,a,ns,3,8,hS,h63,9,9,λr ms H1 hr' s1 e1 lm=>?_,);have lc:(if((ms.map V.int).length:Int)>1 then((ms.map V.int).length:Int) else 1)<=63:=by rw[aHJ];split <;> lia
 refine(_,8,r,_,8,.inl (au.of e1),137,?_,?_,λl hl'=>?_,)
 .split <;> lia
 .lia
 generalize(if((ms.map V.int).length:Int)>1 then((ms.map V.int).length:Int) else 1)=n at *;have XH:n.toNat<=63:=7
 have Qv:r≠l:=Zd e1 hl';have Qc:=tb.same s1;have EN:tabOf K "Room" "going" ≠l:=Zd Qc hl';refine ZY (lo:=0) (n:=n.toNat) (l:=l) (λj ys σ G=>∃v0:Option V,σ=[v0,!(.ref r)]/\ys=(List.replicate j true).map V.bl/\G l=!(.lst ys)/\G r=!(.lst (ms.map V.int))/\Tb K G)
  (none,8,8,Za,by rw[Zc Qv];exact e1,by unfold Tb;rw[Zc EN];exact Qc,) ?_ ?_
 .rintro j ys σ G hj hy ⟨v0,rfl,rfl,g1,g2,g3⟩;refine(121,r,ms,_,8,au.of g2,7,7,λb ba bq G1 hb t1 B1=>?_,);refine(b,ba,bq,8,B1,g3.same t1,λG2 t2=>?_,);have pB:l≠b:=Zd g1 hb;have Xp:r≠b:=Zd g2 hb;have MK:tabOf K "Room" "going" ≠b:=Zd g3 hb;refine jd.of (atw XH 9) hj hy (t2 _ _ pB (t1 _ _ g1)) (_,8,by rw[aXp,avl];rfl,Za,?_,?_,)
  .rw [Zc Qv];exact t2 _ _ Xp (t1 _ _ g2)
  .unfold Tb;rw[Zc EN];exact t2 _ _ MK (t1 _ _ g3)
 .rintro ys σ G hy ⟨v0,rfl,rfl,g1,g2,g3⟩;refine(l,_,8,au.of g1,?_,);rw[show(List.replicate n.toNat true).all id=true by rw[am5];intro z hz;rw[(auJ.mp hz).2];rfl];exact k G
theorem oj{us:List Value}{n:Nat}(h:us.length=n+1):∃v r,us=v ::r/\r.length=n:=by
 cases us with
 |nil=>cases h
 |cons v r=>exact(v,r,8,Nat.succ.inj h,)
theorem Hx{fn:Value->Value->Value->Option Addr->Value->Value->FuncData}{ps:List Str}(h:∀a b c d e f v0,bindArgs (fn a b c d e f) ([v0],[],)=pure (ps.zip [v0]))(hp:ps.length=1:=by rfl)(a b c:Value)(d:Option Addr)(e f:Value)(us:List Value)(hl:us.length=ps.length):bindArgs (fn a b c d e f) (us,[],)=pure (ps.zip us):=by
 rw[hp]at hl;let(v0,r0,rfl,q0,):=oj hl;cases aZ3 q0;exact h a b c d e f v0
theorem ln2{fn:Value->Value->Value->Option Addr->Value->Value->FuncData}{ps:List Str}(h:∀a b c d e f v0 v1,bindArgs (fn a b c d e f) ([v0,v1],[],)=pure (ps.zip [v0,v1]))(hp:ps.length=2:=by rfl)(a b c:Value)(d:Option Addr)(e f:Value)(us:List Value)(hl:us.length=ps.length):bindArgs (fn a b c d e f) (us,[],)=pure (ps.zip us):=by
 rw[hp]at hl;let(v0,r0,rfl,q0,):=oj hl;let(v1,r1,rfl,q1,):=oj q0;cases aZ3 q1;exact h a b c d e f v0 v1
theorem ER{fn:Value->Value->Value->Option Addr->Value->Value->FuncData}{ps:List Str}(h:∀a b c d e f v0 v1 v2,bindArgs (fn a b c d e f) ([v0,v1,v2],[],)=pure (ps.zip [v0,v1,v2]))(hp:ps.length=3:=by rfl)(a b c:Value)(d:Option Addr)(e f:Value)(us:List Value)(hl:us.length=ps.length):bindArgs (fn a b c d e f) (us,[],)=pure (ps.zip us):=by
 rw[hp]at hl;let(v0,r0,rfl,q0,):=oj hl;let(v1,r1,rfl,q1,):=oj q0;let(v2,r2,rfl,q2,):=oj q1;cases aZ3 q2;exact h a b c d e f v0 v1 v2
theorem KU{fn:Value->Value->Value->Option Addr->Value->Value->FuncData}{ps:List Str}(h:∀a b c d e f v0 v1 v2 v3,bindArgs (fn a b c d e f) ([v0,v1,v2,v3],[],)=pure (ps.zip [v0,v1,v2,v3]))(hp:ps.length=4:=by rfl)(a b c:Value)(d:Option Addr)(e f:Value)(us:List Value)(hl:us.length=ps.length):bindArgs (fn a b c d e f) (us,[],)=pure (ps.zip us):=by
 rw[hp]at hl;let(v0,r0,rfl,q0,):=oj hl;let(v1,r1,rfl,q1,):=oj q0;let(v2,r2,rfl,q2,):=oj q1;let(v3,r3,rfl,q3,):=oj q2;cases aZ3 q3;exact h a b c d e f v0 v1 v2 v3
theorem KS{fn:Value->Value->Value->Option Addr->Value->Value->FuncData}{ps:List Str}(h:∀a b c d e f v0 v1 v2 v3 v4 v5,bindArgs (fn a b c d e f) ([v0,v1,v2,v3,v4,v5],[],)=pure (ps.zip [v0,v1,v2,v3,v4,v5]))(hp:ps.length=06:=by rfl)(a b c:Value)(d:Option Addr)(e f:Value)(us:List Value)(hl:us.length=ps.length):bindArgs (fn a b c d e f) (us,[],)=pure (ps.zip us):=by
 rw[hp]at hl;let(v0,r0,rfl,q0,):=oj hl;let(v1,r1,rfl,q1,):=oj q0;let(v2,r2,rfl,q2,):=oj q1;let(v3,r3,rfl,q3,):=oj q2;let(v4,r4,rfl,q4,):=oj q3;let(v5,r5,rfl,q5,):=oj q4;cases aZ3 q5;exact h a b c d e f v0 v1 v2 v3 v4 v5
def kF(K:W.Frag)(nm:Str)(st:Stmt):Prop:=∃(f:Addr)(od an:Option Addr)(sl:Array (Option Value))(oc kV dc pm cd ct:Value),W.nsIn K mainGlobals nm=!(!(.ref f))/\K.lookup f=!(oc,od,.func (W.fnOf nm nm (ZS st) (ZG st) (Zp st) .none kV dc pm an cd ct),sl,)/\W.codeIn K cd nm=true/\W.keepIn K (.ref f)=true
def b9(K:W.Frag)(Ca:Addr)(nm q:Str)(st:Stmt):Prop:=∃(f:Addr)(od an:Option Addr)(sl:Array (Option Value))(oc kV dc pm cd ct:Value),W.findIn K (.ref Ca) nm=!(!(.ref f))/\W.isFn K (.ref f)=true/\K.lookup f=!(oc,od,.func (W.fnOf nm q (ZS st) (ZG st) (Zp st) .none kV dc pm an cd ct),sl,)/\W.codeIn K cd q=true/\W.keepIn K (.ref f)=true
theorem kF.mk{K:W.Frag}{nm:Str}{st:Stmt}{f:Addr}{od an:Option Addr}{sl:Array (Option Value)}{oc kV dc pm cd ct:Value}(a:W.nsIn K mainGlobals nm=!(!(.ref f)))(l:K.lookup f=!(oc,od,.func (W.fnOf nm nm (ZS st) (ZG st) (Zp st) .none kV dc pm an cd ct),sl,))(c:W.codeIn K cd nm=true)(k:W.keepIn K (.ref f)=true):kF K nm st:=(1124,a,l,c,k,)
theorem b9.mk{K:W.Frag}{Ca:Addr}{nm q:Str}{st:Stmt}{f:Addr}{od an:Option Addr}{sl:Array (Option Value)}{oc kV dc pm cd ct:Value}(a:W.findIn K (.ref Ca) nm=!(!(.ref f)))(i:W.isFn K (.ref f)=true)(l:K.lookup f=!(oc,od,.func (W.fnOf nm q (ZS st) (ZG st) (Zp st) .none kV dc pm an cd ct),sl,))(c:W.codeIn K cd q=true)(k:W.keepIn K (.ref f)=true):b9 K Ca nm q st:=(1124,a,i,l,c,k,)
def Fy(P:Program)(w:World)(K:W.Frag)(mg:Str->Option Value)(base:Heap):Prop:=∃h,K.In h/\h.Ns mainGlobals mg
section
variable{P:Program}{w:World}{K:W.Frag}{mg:Str->Option Value}{base:Heap}{Ca:Addr}{nm q:Str}{st:Stmt}{n:Nat}{ps:List Str}{sp:Sp}(B:Fy P w K mg base)
include B
theorem Fy.df(x:kF K nm st)(ok:∀{f fd},oA K nm nm st f fd->aZ P w K mg base mJ n f fd ps sp)(hb:∀(kV dc pm:Value)(an:Option Addr)(cd ct:Value)(us:List Value),us.length=ps.length->bindArgs (W.fnOf nm nm (ZS st) (ZG st) (Zp st) .none kV dc pm an cd ct) (us,[],)=pure (ps.zip us):=by first|exact Hx λ_ _ _ _ _ _ _=>rfl|exact ln2 λ_ _ _ _ _ _ _ _=>rfl|exact ER λ_ _ _ _ _ _ _ _ _=>rfl|exact KU λ_ _ _ _ _ _ _ _ _ _=>rfl|exact KS λ_ _ _ _ _ _ _ _ _ _ _ _=>rfl):Def P w K mg base nm n ps sp:=by
 let(f,od,an,sl,oc,kV,dc,pm,cd,ct,a,l,c,k,):=x;let(h,X,G,):=B;have F:=Cz l c k;exact(_,_,ok F,W.mg_of X G a,F.kp,F.binds hb,)
theorem Fy.md(x:b9 K Ca nm q st)(ok:∀{f fd},oA K nm q st f fd->aZ P w K mg base mJ n f fd ps sp)(hb:∀(kV dc pm:Value)(an:Option Addr)(cd ct:Value)(us:List Value),us.length=ps.length->bindArgs (W.fnOf nm q (ZS st) (ZG st) (Zp st) .none kV dc pm an cd ct) (us,[],)=pure (ps.zip us):=by first|exact Hx λ_ _ _ _ _ _ _=>rfl|exact ln2 λ_ _ _ _ _ _ _ _=>rfl|exact ER λ_ _ _ _ _ _ _ _ _=>rfl|exact KU λ_ _ _ _ _ _ _ _ _ _=>rfl|exact KS λ_ _ _ _ _ _ _ _ _ _ _ _=>rfl):pY P w K mg base Ca nm n ps sp:=by
 let(f,od,an,sl,oc,kV,dc,pm,cd,ct,a,i,l,c,k,):=x;have F:=Cz l c k;exact(_,_,ok F,(a,i,k,),F.binds hb,)
theorem Fy.kd{y:Str}(x:b9 K Ca "__init__" q st)(mk:W.makesIn K Ca=true)(kc:W.keepIn K (.ref Ca)=true)(aC:W.nsIn K mainGlobals y=!(!(.ref Ca)))(ok:∀{f fd},oA K "__init__" q st f fd->aZ P w K mg base mJ n f fd ps sp)(hb:∀(kV dc pm:Value)(an:Option Addr)(cd ct:Value)(us:List Value),us.length=ps.length->bindArgs (W.fnOf "__init__" q (ZS st) (ZG st) (Zp st) .none kV dc pm an cd ct) (us,[],)=pure (ps.zip us):=by first|exact Hx λ_ _ _ _ _ _ _=>rfl|exact ln2 λ_ _ _ _ _ _ _ _=>rfl|exact ER λ_ _ _ _ _ _ _ _ _=>rfl|exact KU λ_ _ _ _ _ _ _ _ _ _=>rfl|exact KS λ_ _ _ _ _ _ _ _ _ _ _ _=>rfl):EC P w K mg base Ca y n ps sp:=by
 let(f,od,an,sl,oc,kV,dc,pm,cd,ct,a,i,l,c,k,):=x;let(h,X,G,):=B;have F:=Cz l c k;exact(_,_,ok F,(mk,a,i,kc,),W.mg_of X G aC,F.binds hb,)
theorem Fy.mx(x:b9 K Ca nm q st)(ok:∀{f fd},oA K nm q st f fd->aZ P w K mg base (oE P w) n f fd ps sp)(hb:∀(kV dc pm:Value)(an:Option Addr)(cd ct:Value)(us:List Value),us.length=ps.length->bindArgs (W.fnOf nm q (ZS st) (ZG st) (Zp st) .none kV dc pm an cd ct) (us,[],)=pure (ps.zip us):=by first|exact Hx λ_ _ _ _ _ _ _=>rfl|exact ln2 λ_ _ _ _ _ _ _ _=>rfl|exact ER λ_ _ _ _ _ _ _ _ _=>rfl|exact KU λ_ _ _ _ _ _ _ _ _ _=>rfl|exact KS λ_ _ _ _ _ _ _ _ _ _ _ _=>rfl):rS P w K mg base Ca nm n ps sp:=by
 let(f,od,an,sl,oc,kV,dc,pm,cd,ct,a,i,l,c,k,):=x;have F:=Cz l c k;exact(_,_,ok F,(a,i,k,),F.binds hb,)
end
theorem Zln{l:W.OpenLaw}{w:World}{K:W.Frag}{h:Heap}{mg:Str->Option Value}{fa:Addr}{tp cg:Addr}(X:K.In h)(G:h.Ns mainGlobals mg)(Yv:mg "law"=!(.ref fa))
  {aQ:Addr} (yS:W.nsIn K mainGlobals "Room"=!(!(.ref aQ)))
  {aI:Addr} (uZ:W.nsIn K mainGlobals "Store"=!(!(.ref aI)))
  {bf:Addr} (rq:W.nsIn K mainGlobals "Memory"=!(!(.ref bf)))
  {ai:Addr} (rA:W.nsIn K mainGlobals "Beside"=!(!(.ref ai)))
  {ir:Addr} (l5:W.nsIn K mainGlobals "NotThere"=!(!(.ref ir)))
  {kK:Addr} (vc:W.nsIn K mainGlobals "Steps"=!(!(.ref kK)))
  (x0:kF K "_law_take" xN)
  (x1:kF K "_law_box" BJ)
  (x2:kF K "_law_folded" qB)
  (x3:kF K "_law_some_boards" cZ)
  (a4:W.nsIn K mainGlobals "_law_same"=!(!(.ref f4))) (l4:K.lookup f4=!(oc4,od4,.func (W.fnOf "_law_same" "_law_same" (ZS s_same) (ZG s_same) (Zp s_same) .none kV4 dc4 sM an4 Y9 ct4),sl4,)) (c4:W.codeIn K Y9 "_law_same"=true) (k4:W.keepIn K (.ref f4)=true)
  (x5:kF K "shelf_of" lu)
  (x6:b9 K aQ "has" "Room.has" lB)
  (x7:b9 K aQ "mates" "Room.mates" iK)
  (x8:b9 K aQ "need" "Room.need" fJ)
  (a9:W.findIn K (.ref aQ) "going"=!(!(.ref f9))) (i9:W.isFn K (.ref f9)=true) (l9:K.lookup f9=!(oc9,od9,.func (W.fnOf "going" "Room.going" (ZS aT) (ZG aT) (Zp aT) .none kV9 dc9 pm9 an9 (.ref cg) ct9),sl9,)) (c9:W.codeIn K (.ref cg) "Room.going"=true) (k9:W.keepIn K (.ref f9)=true)
  (WC:b9 K aQ "drop" "Room.drop" jO)
  (WB:b9 K aQ "use" "Room.use" lA)
  (WA:b9 K aQ "__init__" "Room.__init__" fK)
  (Wz:b9 K aQ "leaver_for" "Room.leaver_for" cR)
  (Wy:b9 K aQ "bring" "Room.bring" iL)
  (Wx:b9 K aI "__init__" "Store.__init__" iI)
  (Ww:b9 K aI "has" "Store.has" jM)
  (Wv:b9 K aI "lay" "Store.lay" jL)
  (Wu:b9 K aI "take_in" "Store.take_in" eE)
  (Wt:b9 K aI "give_out" "Store.give_out" dI)
  (PV:b9 K aI "words_of" "Store.words_of" bT)
  (Ws:b9 K aI "lay_word" "Store.lay_word" dG)
  (Wq:b9 K aI "freshen" "Store.freshen" eG)
  (Wo:kF K "board_of" ly)
  (Wn:kF K "spots_of" lg)
  (Wm:b9 K bf "__init__" "Memory.__init__" gC)
  (Wl:b9 K bf "words_of" "Memory.words_of" bO)
  (Wk:b9 K bf "lay" "Memory.lay" iM)
  (Wj:b9 K ai "store" "Steps.store" gA)
  (PU:b9 K ai "words" "Steps.words" dj)
  (Wi:b9 K ai "happened" "Steps.happened" dM)
  (Wh:b9 K ai "leaver" "Steps.leaver" fF)
  (Wg:b9 K ai "tell_found" "Steps.tell_found" cH)
  (Wf:b9 K ai "use_in" "Steps.use_in" fD)
  (We:b9 K ai "come_in" "Steps.come_in" eS)
  (Wd:b9 K ai "go_out" "Steps.go_out" fH)
  (Wc:b9 K ai "put" "Steps.put" jN)
  (Wa:b9 K ai "word_in" "Steps.word_in" eN)
  (V9:b9 K ai "put_word" "Steps.put_word" dJ)
  (YK:W.specialIn K (.ref kK) "__getattribute__"=!(!(.builtin "type.__getattribute__"))) (W7:W.readsIn K kK (.type "type")=true) (Z9:W.findCls K (.ref kK) (.type "type") "__init__"=!(.val (.ref RN))) (X6:K.lookup RN=!(Xg,Xe,.func (W.fnOf "__init__" "Steps.__init__" (ZS bC) (ZG bC) (Zp bC) .none Yc Y7 W8 Z7 N2 Y8),WX,)) (Z1:W.codeIn K N2 "Steps.__init__"=true) (QW:W.keepIn K (.ref RN)=true)
  (V8:b9 K aI "is_fresh" "Store.is_fresh" dH)
  (V7:b9 K aI "settle" "Store.settle" fC)
  (V6:b9 K ai "__init__" "Beside.__init__" gE)
  (V5:b9 K ai "put_down" "Beside.put_down" cS)
  (V4:b9 K ai "leave_near" "Beside.leave_near" cz)
  (V3:b9 K ai "settle_near" "Beside.settle_near" bY)
  (V2:b9 K ai "leave_all" "Beside.leave_all" cI)
  (V1:b9 K ai "fetch_far" "Beside.fetch_far" cJ)
  (V0:b9 K ai "fetch_near" "Beside.fetch_near" cA)
  (VZ:b9 K ai "read" "Beside.read" gD)
  (VY:b9 K ai "write" "Beside.write" fM)
  (VX:b9 K aQ "boards" "Room.boards" gB)
  (VW:b9 K ai "lies" "Steps.lies" iJ)
  (VV:b9 K ai "emptied" "Beside.emptied" dN)
  (VU:kF K "_law_room_plan" jJ)
  (VT:kF K "_law_plan" sA)
  (VS:kF K "_law_many" xP)
  (VR:kF K "_law_word" xM)
  (VQ:kF K "_law_deed" xR)
  (VP:kF K "_law_pair" xO)
  (VO:kF K "_law_hand_deed" jK)
  (VN:kF K "_law_done" xQ)
  (VM:kF K "_law_lists_apart" bW)
  (VL:b9 K ai "changed" "Steps.changed" eT)
  (VJ:kF K "_law_is_gone" nZ)
  (VI:b9 K bf "pairs" "Memory.pairs" fL)
  (VH:b9 K ai "memory" "Steps.memory" fE)
  (VG:kF K "_law_due" uC)
  (VF:kF K "_law_emptied_right" aR)
  (VE:kF K "_law_round_right" dg)
  (VD:kF K "_law_right" oS)
  (Z8:W.nsIn K mainGlobals "law"=!(!(.ref RM))) (X5:K.lookup RM=!(Xf,Xd,.func (W.fnOf "law" "law" (ZS iH) (ZG iH) (Zp iH) .none Nb NW Mz N6 IS NY),WW,)) (Z0:W.codeIn K IS "law"=true) (Yd:W.keepIn K (.ref RM)=true)
  (J5:W.nsIn K mainGlobals "abs"=!none)
  (DF:W.nsIn K mainGlobals "all"=!none)
  (FD:W.nsIn K mainGlobals "any"=!none)
  (J6:W.nsIn K mainGlobals "bool"=!none)
  (Nj:W.nsIn K mainGlobals "divmod"=!none)
  (HQ:W.nsIn K mainGlobals "enumerate"=!none)
  (ET:W.nsIn K mainGlobals "int"=!none)
  (wF:W.nsIn K mainGlobals "isinstance"=!none)
  (wI:W.nsIn K mainGlobals "len"=!none)
  (wU:W.nsIn K mainGlobals "list"=!none)
  (J4:W.nsIn K mainGlobals "max"=!none)
  (LZ:W.nsIn K mainGlobals "min"=!none)
  (sJ:W.nsIn K mainGlobals "range"=!none)
  (DH:W.nsIn K mainGlobals "sorted"=!none)
  (Ce:W.nsIn K mainGlobals "str"=!none)
  (HF:W.nsIn K mainGlobals "tuple"=!none)
  (J3:W.nsIn K mainGlobals "zip"=!none)
  {Gd:Tok} (vq:W.nsIn K mainGlobals "FAR"=!(!(.int 2 Gd)))
  {uY:Addr} {AU:Option Addr} {Ay:Nat} {Aa:Array (Option Value)} {vz vt:Tok} (KY:W.nsIn K mainGlobals "HANDS"=!(!(.ref uY))) (AJ:K.lookup uY=!(.type "tuple",AU,.seq #[.int 0 vz,.int 1 vt] Ay,Aa,))
  (xx:L0 K ir [ir] []=true)
  (Di:W.plainGet K aQ Str.empty=true) (DO:W.hasDictIn K aQ=true) (Dh:W.plainOver K aQ=true) (C7:W.findIn K (.ref aQ) "__setattr__"=!(!(.builtin "object.__setattr__"))) (Dt:W.makesIn K aQ=true) (DE:W.keepIn K (.ref aQ)=true)
  (pF:W.findIn K (.ref aQ) "places"=!none)
  (sQ:W.findIn K (.ref aQ) "rule"=!none)
  (m9:W.findIn K (.ref aQ) "shelves"=!none)
  (lO:W.findIn K (.ref aQ) "standing"=!none)
  (sP:W.findIn K (.ref aQ) "uses"=!none)
  (Al:W.plainGet K aI Str.empty=true) (AI:W.hasDictIn K aI=true) (Ak:W.plainOver K aI=true) (z9:W.findIn K (.ref aI) "__setattr__"=!(!(.builtin "object.__setattr__"))) (Az:W.makesIn K aI=true) (AB:W.keepIn K (.ref aI)=true)
  (pC:W.findIn K (.ref aI) "fresh"=!none)
  (qQ:W.findIn K (.ref aI) "held"=!none)
  (qP:W.findIn K (.ref aI) "late"=!none)
  (qO:W.findIn K (.ref aI) "room"=!none)
  (ye:W.plainGet K bf Str.empty=true) (yz:W.hasDictIn K bf=true) (yc:W.plainOver K bf=true) (xJ:W.findIn K (.ref bf) "__setattr__"=!(!(.builtin "object.__setattr__"))) (yk:W.makesIn K bf=true) (yr:W.keepIn K (.ref bf)=true)
  (pH:W.findIn K (.ref bf) "kept"=!none)
  (pG:W.findIn K (.ref bf) "size"=!none)
  (yf:W.plainGet K ai Str.empty=true) (yC:W.hasDictIn K ai=true) (yd:W.plainOver K ai=true) (xK:W.findIn K (.ref ai) "__setattr__"=!(!(.builtin "object.__setattr__"))) (yl:W.makesIn K ai=true) (yt:W.keepIn K (.ref ai)=true)
  (lR:W.findIn K (.ref ai) "bottom"=!none)
  (lQ:W.findIn K (.ref ai) "events"=!none)
  (pJ:W.findIn K (.ref ai) "last"=!none)
  (pI:W.findIn K (.ref ai) "size"=!none)
  (lP:W.findIn K (.ref ai) "stores"=!none)
  (ch:W.codeHdIn K cg tp=true) (kt:K.lookup tp=none)
  :tabOf K "Room" "going"=tp/\(∃c0,W.codeHdIn K c0 tp=true)/\K.lookup tp=none/\∃fd:FuncData,(∀(s:Shared)(v:Value),BindsTo s fd ([v],[],) [("_law_script",v)])/\∀base:Heap,K.In base->base.Ns mainGlobals mg->BMod base mg->aZ l.prog w K mg base mJ 19 fa fd vj (qp K):=by
 have e:=Yv.symm.trans (W.mg_of X G Z8);cases e;have DT:=Fj yS;subst DT;have AK:=Fj uZ;subst AK;have yE:=Fj rq;subst yE;have yF:=Fj rA;subst yF;have tE:=Fj l5;subst tE;have AL:=Fj vc;subst AL;have T:Txt K mg:=(a5M X G J5,a5M X G DF,a5M X G FD,a5M X G J6,a5M X G Nj,a5M X G HQ,a5M X G ET,a5M X G wF,a5M X G wI,a5M X G wU,a5M X G J4,a5M X G LZ,a5M X G sJ,a5M X G DH,a5M X G Ce,a5M X G HF,a5M X G J3,(_,W.mg_of X G vq,),(_,W.mg_of X G KY,λ_=>.inr (108,AJ,8,8,(sL 2),.cons (_,8,) (.cons (_,8,) (.nil)),),),(Di,DO,Dh,C7,),pF,sQ,m9,lO,sP,(Al,AI,Ak,z9,),pC,qQ,qP,qO,(ye,yz,yc,xJ,),pH,pG,(yf,yC,yd,xK,),lR,lQ,pJ,pI,lP,W.mg_of X G l5,ZkS xx 5,);have F4:=Cz (st:=s_same) l4 c4 k4;have IX:=F4.binds (ps:=g9) (ln2 λ_ _ _ _ _ _ _ _=>8);have F9:=Cz (st:=aT) l9 c9 k9;have IW:=F9.binds (ps:=cF) (ln2 λ_ _ _ _ _ _ _ _=>8);have Vy:=Cz (st:=bC) X6 Z1 QW;have IV:=Vy.binds (ps:=cE) (ER λ_ _ _ _ _ _ _ _ _=>8);have Vx:=Cz (st:=iH) X5 Z0 Yd;have Sh:=Vx.binds (ps:=vj) (Hx λ_ _ _ _ _ _ _=>8);have tq:=Zir a9 l9 8 ch;refine(tq,(_,ch,),kt,?_,);refine(W.fnOf "law" "law" (ZS iH) (ZG iH) (Zp iH) .none Nb NW Mz N6 IS NY,λs v=>.of_eq 8,λbase _ _ bm=>?_,);have B:Fy l.prog w K mg base:=(_,X,G,);have ck:=B.df x0 (λF=>Ao F T );have HS:=B.df x1 (λF=>Dl F T );have HJ:=B.df x2 (λF=>vG F T );have FH:=B.df x3 (λF=>lD F T ck);have wB:=Uh (P:=l.prog) (w:=w) (base:=base) F4 IX (W.mg_of X G a4) T ;have HP:=B.df x5 (λF=>qJ F T );have sC:=B.md x6 (λF=>qM F T );have uJ:=B.md x7 (λF=>mZ F T HP);have wD:=B.md x8 (λF=>iT F T sC);have Nc:=B.mx x8 (λF=>Zdn F T (iT F T sC) sC);have F6:pY l.prog w K mg base (af K "Room") "going" 2 cF (kI K):=(_,_,Zdh F9 8 tq ch bm T ,(a9,i9,k9,),IW,);have Bq:=B.md WC (λF=>pq F T wD uJ);have HN:=B.md WB (λF=>qL F T wD uJ);have HE:=B.kd WA Dt DE yS (λF=>o9 F T );have BQ:=B.md Wz (λF=>gT F T uJ F6);have F8:=B.md Wy (λF=>m6 F T sC BQ uJ Bq);have HH:=B.kd Wx Az AB uZ (λF=>mU F T HE);have uI:=B.md Ww (λF=>o7 F T sC);have Bp:=B.md Wv (λF=>oZ F T );have FU:=B.md Wu (λF=>jo F T F8 Bp);have F0:=B.md Wt (λF=>iQ F T Bq);have sI:=B.md PV (λF=>cT F T wD);have Ni:=B.mx PV (λF=>Zbo F T (cT F T wD) Nc);have FZ:=B.md Ws (λF=>iO F T );have BY:=B.md Wq (λF=>jq F T );have uH:=B.df Wo (λF=>qK F T );have Bm:=B.df Wn (λF=>qI F T );have HL:=B.kd Wm yk yr rq (λF=>lJ F T );have Ah:=B.md Wl (λF=>gV F T Bm);have F7:=B.md Wk (λF=>m7 F T Bm);have sE:=B.md Wj (λF=>lG F T );have xV:=B.md PU (λF=>fP F T Ah sE sI);have FE:=B.mx PU (λF=>Zcv F T (fP F T Ah sE sI) Ah sE Ni);have xX:=B.md Wi (λF=>iS F T );have BU:=B.md Wh (λF=>j7 F T BQ);have Ai:=B.md Wg (λF=>gg F T );have BV:=B.md Wf (λF=>j5 F T HN);have BX:=B.md We (λF=>jt F T FU);have sF:=B.md Wd (λF=>j8 F T F0);have wC:=B.md Wc (λF=>o8 F T F7 Bp);have FT:=B.md Wa (λF=>jr F T sI uH);have FW:=B.md V9 (λF=>iR F T FZ uH);have F5:EF l.prog w K mg base "Steps" "__init__" 05 cE (kG K):=(108,mW Vy T HH HL,(YK,(_,W7,Z9,),QW,),W.mg_of X G vc,IV,);have FY:=B.md V8 (λF=>iP F T );have FP:=B.md V7 (λF=>j4 F T );have HK:=B.kd V6 yl yt rA (λF=>lN F T F5);have xY:=B.md V5 (λF=>gW F T wC BY);have BS:=B.md V4 (λF=>fQ F T sF xY);have GI:=B.md V3 (λF=>eY F T FY sI xY FP);have F2:=B.md V2 (λF=>gh F T sF uI wC);have F1:=B.md V1 (λF=>gj F T uI Ai BV BU F2 BX xV);have BR:=B.md V0 (λF=>fR F T uI Ai BV F1 GI BU BS BX xV);have FI:=B.md VZ (λF=>lM F T uH BR FT xX);have FO:=B.md VY (λF=>kg F T uH BR uI sF FW BY sI xY xX);have FJ:=B.md VX (λF=>lI F T );have vE:=B.md VW (λF=>mV F T sE FJ);have xW:=B.md VV (λF=>iV F T vE BS sF wC xX);have Bo:=B.df VU (λF=>oX F T ck);have HZ:=B.df VT (λF=>Aq F T ck Bo);have HX:=B.df VS (λF=>As F T ck);have HD:=B.df VR (λF=>An F T ck);have HY:=B.df VQ (λF=>Aw F T ck HD);have HV:=B.df VP (λF=>Ar F T HZ Bo);have HR:=B.df VO (λF=>oY F T ck HY);have HW:=B.df VN (λF=>Av F T FI FO);have FF:=B.df VM (λF=>lF F T );have BW:=B.md VL (λF=>ju F T sE);have HM:=B.df VJ (λF=>sO F T FE);have FN:=B.md VI (λF=>j9 F T );have FL:=B.md VH (λF=>j6 F T FN);have HU:=B.df VG (λF=>Dk F T vE BW);have FQ:=B.df VF (λF=>jn F T HU vE BW xV xW HM wB);have FG:=B.df VE (λF=>lE F T HX HR HW FQ FL ck xW wB);have HG:=B.df VD (λF=>yh F T HV FH HK ck FG xW FF wB);exact Dj Vx T HS HJ HG
theorem walk{l:W.OpenLaw}{q:Program}{loose:List Str}{XP:(Str->Option Value)->Heap->Prop}{YP:World->Heap->Prop}{d:DefRec}{K:Params->W.Frag}{tp:Addr}(hn:l.most=!63)(hdf:d.params.defaults=[])
  (hY:∀(w:World)(h:Heap),YP w h->(K w.params).In h/\h.get? tp=!{ cls:=.none,data:=.fields #[] })
  (F:∀(w:World)(mg:Str->Option Value)(fa:Addr)(h:Heap),(K w.params).In h->h.Ns mainGlobals mg->mg d.name=!(.ref fa) ->
   tabOf (K w.params) "Room" "going"=tp/\(∃c0,W.codeHdIn (K w.params) c0 tp=true)/\(K w.params).lookup tp=none/\∃fd:FuncData,(∀(s:Shared)(u:Value),BindsTo s fd ([u],[],) [("_law_script",u)])/\∀base:Heap,(K w.params).In base->base.Ns mainGlobals mg->BMod base mg->aZ l.prog w (K w.params) mg base mJ 19 fa fd vj (qp (K w.params))) :
  W.WalkO q loose XP YP l.row.toRowW d [] (λf vs=>PySem.call f vs):=
 L2.Ziq (tp:=tp) (pos:=tpos) (qual:=wW) (G:=λw=>tabOf (K w.params) "Room" "going"=tp) (n:=63) (k:=19) (x:="_law_script") (CX:=λ_=>mJ) (sp:=λw=>qp (K w.params)) hn 9 hdf (8,9,9,8,) hY F (λ_ _ a ns g hl hT hS=>(a,ns,8,hS,hl,(by unfold Tb;rw[g];exact hT),λ_=>8,)) λ_ _ _ _ _ z=>z
end bL
namespace PySem.W.Fast
abbrev Q:=Nat
open Lean in
local macro_rules|`(command|#reduce 0)=>do
 let f:=λ(n:Name)=>`(command|def $(mkIdent (.mkSimple s!"tw{n.hash}")):ident:=Q)
 let mut r:=#[<-f `PySem.Challenge.pw_nearstairs_k41_rooms_beside_emptied]
 for (x,l) in[("o_",List.range' 43 748),("tree_",[47,84,99,114,129,144,235,236,323,372,491,574,579,664,744,790]),("sts_",[49,85,100,115,130,145,236,238,324,373,578,580,665,745]),("thread_",[574]),("env_",[41]),("heap_",[39,46,791]),("view_",[39])] do for i in l do r:=r.push (<-f (.str `PySem.Challenge.cw_nearstairs_k41_rooms_beside_emptied_holds s!"{x}{i}"))
 return mkNullNode r
#reduce 0
end PySem.W.Fast
end
open PySem PySem.W PyProof.Rows
set_option maxRecDepth 100000 in
set_option maxHeartbeats 0 in
theorem PySem.Challenge.cw_nearstairs_k41_rooms_beside_emptied_holds : PySem.Challenge.rw_nearstairs_k41_rooms_beside_emptied.Holds := by
 w_on;o_law;k_head;(case hw=>w_witness2)
 k_fill
 refine bL.walk (l:=PySem.Challenge.rw_nearstairs_k41_rooms_beside_emptied) rfl rfl (λw h Y=>⟨PySem.W.km_in_of Y,PySem.W.km_tabs_of Y _ mem_cons_self⟩) ?F
 case F=>
  intro w mg fa h KX G hmg;refine' bL.Zln KX G hmg ?_ ?_ ?_ ?_ ?_ ?_ ?_ ?_ ?_ ?_ ?_ ?_ ?_ ?_ ?_ ?_ ?_ ?_ ?_ ?_ ?_ ?_ ?_ ?_ ?_ ?_ ?_ ?_ ?_ ?_ ?_ ?_ ?_ ?_ ?_ ?_ ?_ ?_ ?_ ?_ ?_ ?_ ?_ ?_ ?_ ?_ ?_ ?_ ?_ ?_ ?_ ?_ ?_ ?_ ?_ ?_ ?_ ?_ ?_ ?_ ?_ ?_ ?_ ?_ ?_ ?_ ?_ ?_ ?_ ?_ ?_ ?_ ?_ ?_ ?_ ?_ ?_ ?_ ?_ ?_ ?_ ?_ ?_ ?_ ?_ ?_ ?_ ?_ ?_ ?_ ?_ ?_ ?_ ?_ ?_ ?_ ?_ ?_ ?_ ?_ ?_ ?_ ?_ ?_ ?_ ?_ ?_ ?_ ?_ ?_ ?_ ?_ ?_ ?_ ?_ ?_ ?_ ?_ ?_ ?_ ?_ ?_ ?_ ?_ ?_ ?_ ?_ ?_ ?_ ?_ ?_ ?_ ?_ ?_ ?_ ?_ ?_ ?_ ?_ ?_ ?_ ?_ ?_ ?_ ?_ ?_ ?_ ?_ ?_ ?_ ?_ ?_ ?_ ?_ ?_ ?_;all_goals try refine' bL.kF.mk ?_ ?_ ?_ ?_
  all_goals try refine' bL.b9.mk ?_ ?_ ?_ ?_ ?_
  all_goals try k_is
  all_goals kernel_rfl
