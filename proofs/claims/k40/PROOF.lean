import PyProof.Rows.All
import Wide.All
import OpenK.AllK
import Wide.FinOn
import Lean
import PyProof.EqAt
import PyProof.EqKinds
import PyProof.TupleCall
import KE.KDictSum
import KE.KTryDeep
import KE.KTryMore
import PyProof.NsDelKeeps
import PyProof.FString
import PyProof.Rows.SetFrom
import KE.KItemsList
import PySem.Challenge.RW_nearstairs_k40_hands_swapped
open List (all_cons all_eq_true any_cons append_assoc append_nil drop_drop drop_of_length_le drop_sublist drop_take drop_zero erase_cons_head filter_cons find?_cons getD_eq_getElem?_getD getElem?_append_left getElem?_append_right getElem?_drop getElem?_eq_getElem getElem?_eq_none getElem?_eq_some_iff getElem?_map getElem?_range getElem?_replicate getElem?_set_ne getElem?_set_self getElem_drop getElem_map getElem_mem getElem_take head?_append head?_map length_append length_cons length_drop length_map length_range length_replicate length_set length_singleton length_take map_append map_congr_left map_cons map_id map_map map_nil map_set map_take mem_append mem_append_left mem_append_right mem_cons mem_cons_of_mem mem_cons_self mem_erase_of_ne mem_filter mem_iff_getElem mem_iff_getElem? mem_map mem_map_of_mem mem_of_getElem? mem_of_mem_erase mem_of_mem_take mem_range mem_replicate mem_singleton nodup_cons nodup_nil not_mem_nil pairwise_append pairwise_cons pairwise_iff_getElem pairwise_map replicate_succ' take_append_drop take_of_length_le take_zero)
set_option Elab.async false
set_option compiler.extract_closed false
set_option linter.all false
set_option maxRecDepth 100000
abbrev afn:=@if_neg
abbrev aaU:=@if_pos
abbrev asu:=@PySem.wpAny_bind
abbrev ags:=@Nat.le_refl
abbrev a8r:=@PySem.Heap.get?_push_of_some
abbrev ba7:=@PyProof.Rows.wpS_bind
abbrev axO:=@List.length_map
abbrev aun:=@List.getElem?_eq_getElem
abbrev aB9:=@List.getElem?_eq_some_iff
abbrev aG3:=@PyProof.Rows.wpS_pure
abbrev aYz:=@PySem.Heap.lt_size
abbrev aJq:=@PySem.wpAny_pure
abbrev a7q:=@Bool.false_ne_true
abbrev aCS:=@List.size_toArray
abbrev a9h:=@Option.some.inj
abbrev arT:=@PySem.Heap.get?_push_size
abbrev aY9:=@Bool.false_eq_true
abbrev ar8:=@Nat.ne_of_lt
abbrev a0n:=@Nat.le_trans
abbrev bcc:=@List.mem_of_getElem?
abbrev acC:=@List.getElem?_map
abbrev ak9:=@Array.length_toList
abbrev ac5:=@Ne.symm
abbrev alK:=@Array.getElem?_eq_getElem
abbrev auG:=@List.getD_eq_getElem?_getD
abbrev baL:=@List.mem_cons
abbrev aJC:=@Nat.lt_of_lt_of_le
abbrev aL2:=@Nat.zero_le
abbrev aKe:=@List.length_append
abbrev apU:=@List.mem_singleton
abbrev aOw:=@bind_congr
abbrev arx:=@List.mem_cons_of_mem
abbrev aTL:=@List.mem_cons_self
abbrev a3Q:=@PySem.sizeLine_eq
abbrev a4I:=@decide_eq_false
abbrev aJo:=@PyProof.Rows.wpS_forRange
abbrev aaI:=@List.mem_append
abbrev a5U:=@decide_eq_true
abbrev a7K:=@List.not_mem_nil
abbrev a3v:=@if_false
abbrev a4X:=@PySem.wpAny_mono
abbrev bax:=@List.mem_append_right
abbrev bbw:=@List.length_take
abbrev aBM:=@List.append_assoc
abbrev azy:=@congrArg
abbrev ado:=@List.map_append
abbrev a8o:=@List.getElem?_append_right
abbrev bd9:=@Array.getElem?_toList
abbrev apN:=@List.perm_append_comm
abbrev ah9:=@Array.toList_append
abbrev awR:=@List.mem_map
abbrev aan:=@PySem.W.mg_none_of
abbrev ash:=@PyProof.Rows.wpS_mono
abbrev a6Z:=@if_true
abbrev a9e:=@List.mem_cons
abbrev a9R:=@or_false
abbrev baC:=@List.getElem?_eq_none
abbrev av3:=@PyProof.Rows.callWith_type1
abbrev aKC:=@Sum.inl.inj
abbrev a8J:=@PyProof.Rows.slot_tuple_getitem
abbrev bbb:=@PySem.F.plainAttrs_list
abbrev aUL:=@Nat.le_of_lt
abbrev aGp:=@List.getElem?_append_left
abbrev a83:=@List.length_cons
abbrev aiF:=@Nat.lt_irrefl
abbrev aRI:=@List.Nodup.mem_erase_iff
abbrev baB:=@List.nodup_cons
abbrev aQj:=@PySem.wpAny_field
abbrev aOr:=@decide_eq_false_iff_not
abbrev a2a:=@List.map_cons
abbrev aws:=@List.lookup_cons
abbrev aLY:=@Array.getElem_toList
abbrev aaC:=@PySem.wpAny_holding
abbrev aUN:=@Array.perm_iff_toList_perm
abbrev ac1:=@List.mem_map_of_mem
abbrev a6N:=@PySem.wpAny_newObj_type
abbrev aWv:=@decide_eq_true_eq
abbrev ajd:=@PySem.wpAny_rule
abbrev aUe:=@PySem.PassesOwn.never
abbrev ajI:=@PySem.wpAny_call_entry
abbrev aTz:=@Bool.and_eq_true
abbrev a5F:=@Int.emod_lt_of_pos
abbrev a0y:=@PySem.F.slot_list_append
abbrev aot:=@PySem.F.type_list_append
abbrev aC3:=@PySem.Heap.size_push
abbrev auj:=@PySem.wpAny_callSpecial?_slot
abbrev aVv:=@PySem.wpAny_truthy_bool
abbrev a96:=@List.mem_append_left
abbrev aul:=@beq_eq_false_iff_ne
abbrev aVo:=@Nat.ne_of_gt
abbrev aHM:=@Int.le_refl
abbrev aaK:=@Int.le_trans
abbrev aiW:=@PyProof.Rows.wpS_modify
abbrev afE:=@beq_self_eq_true
abbrev ayn:=@List.mem_range
abbrev aid:=@PySem.Calls.spliced_cons
abbrev aHS:=@List.map_congr_left
abbrev aXd:=@List.mem_replicate
abbrev aD8:=@List.all_eq_true
abbrev aLL:=@decide_false
abbrev a7E:=@List.pairwise_append
abbrev baD:=@Int.emod_nonneg
abbrev ao6:=@PyProof.Rows.boot_sorted
abbrev a2T:=@Nat.lt_succ_of_lt
abbrev aAT:=@List.ext_getElem?
abbrev aw6:=@List.eq_nil_of_length_eq_zero
abbrev aSc:=@List.length_singleton
abbrev aLA:=@PyProof.Rows.wpS_get
abbrev asf:=@PySem.Calls.callWith_builtin
abbrev az0:=@decide_true
abbrev aq5:=@Nat.lt_of_le_of_lt
abbrev aNI:=@Option.map_some
abbrev aen:=@List.erase_cons_head
abbrev afG:=@PySem.F.slot_tuple_iterator_next
abbrev bbm:=@List.perm_ext_iff_of_nodup
abbrev ac8:=@List.getElem?_set_self
abbrev agp:=@List.take_of_length_le
abbrev bbz:=@List.drop_of_length_le
abbrev aVH:=@Array.toList_push
abbrev aCi:=@beq_iff_eq
abbrev ary:=@List.length_set
abbrev aMQ:=@List.pairwise_iff_getElem
abbrev aKV:=@List.drop_eq_getElem_cons
abbrev amL:=@PySem.W.kia_one
abbrev bbY:=@List.length_drop
abbrev arL:=@PySem.wpAny_seqItems
abbrev ahh:=@List.map_map
abbrev aOy:=@PySem.boot_len
abbrev aSy:=@List.length_replicate
abbrev aWM:=@List.mem_of_mem_erase
abbrev avO:=@PySem.mem_of_lookup
abbrev aWT:=@PySem.F.plainAttrs_dict
abbrev baO:=@PyProof.Rows.listUpdate_at
abbrev aTx:=@List.getElem?_set_ne
abbrev aWa:=@List.append_nil
abbrev aqT:=@PySem.wpAny_Call_Name_kw
abbrev a7B:=@List.getElem?_replicate
abbrev aDw:=@PySem.W.kia_tup
abbrev aY1:=@PySem.wpAny_setField_rec
abbrev aUD:=@List.pairwise_cons
abbrev ab2:=@List.replicate_succ'
abbrev a7U:=@PyProof.Rows.wpS_reverse
abbrev ahv:=@PyProof.Rows.mirror_perm
abbrev aCm:=@List.getElem_mem
abbrev aem:=@PySem.Calls.spliced_nil
abbrev aUv:=@Bool.not_eq_true'
abbrev aKy:=@PySem.F.slot_dict_pop
abbrev baM:=@List.Pairwise.sublist
abbrev aTN:=@List.mem_iff_getElem?
abbrev ayq:=@List.length_range
abbrev aAg:=@PySem.Calls.evalArgs_plain
abbrev aAV:=@PySem.wpAny_pyIter_zip
abbrev ak2:=@List.take_append_drop
abbrev alG:=@Array.toList_extract
abbrev aG7:=@List.mem_iff_getElem
abbrev amk:=@decide_eq_decide
abbrev aFJ:=@PySem.Paired.length
abbrev aPS:=@PySem.wpAny_newList
abbrev aWq:=@PySem.Heap.get?_update_ne
abbrev ayA:=@PySem.wpAny_passesOwn
abbrev aef:=@Bool.eq_iff_iff
abbrev a1n:=@List.mem_or_eq_of_mem_set
abbrev aL8:=@PySem.F.args_tuple_add_2
abbrev aN5:=@Nat.lt_trans
abbrev awI:=@PySem.tupleKind_room_in1
abbrev aAR:=@Nat.zero_add
abbrev aGv:=@List.Perm.eq_of_pairwise
abbrev a7b:=@List.getElem?_range
abbrev aaV:=@List.find?_cons
abbrev akN:=@PySem.F.entry_tuple_add
abbrev asn:=@List.eraseIdx_cons_succ
abbrev a5h:=@List.getElem?_cons_succ
abbrev asw:=@PySem.Heap.get?_push_ne
abbrev aB6:=@List.pairwise_map
abbrev apE:=@Nat.le_succ
abbrev aZy:=@PySem.F.slot_tuple_add
abbrev aNg:=@List.filter_cons
abbrev bbd:=@Int.add_mul_ediv_right
abbrev ajV:=@Int.ediv_eq_zero_of_lt
abbrev aiR:=@PySem.wpAny_standAt
abbrev aLP:=@Bool.not_true
abbrev a2H:=@And.left
abbrev azh:=@List.length_filter_le
abbrev aba:=@PySem.F.slot_dict_get
abbrev aMA:=@Array.getElem_extract
abbrev bat:=@List.erase_of_not_mem
abbrev aku:=@Int.mul_ediv_add_emod
abbrev aUl:=@Nat.le_of_ble_eq_true
abbrev a1S:=@Nat.le_of_eq
abbrev agA:=@List.forIn_cons
abbrev ayB:=@Array.Perm.refl
abbrev a84:=@Array.toList_reverse
namespace L2
open PySem PySem.Spec PyProof.Rows
abbrev Key:=Sum Int Str
def kU:Key->Value->Bool
 | .inl k,v=>Value.isInt k v
 | .inr x,v=>Value.isStrOf x v
def LP(w:World):Key->Int
 | .inl k=>hashInt k
 | .inr x=>hashStr w x
theorem ZA:∀{k:Key}{v:Value},kU k v=true->(∃i t,k=Sum.inl i/\v=Value.int i t)\/(∃x t,k=Sum.inr x/\v=Value.str x t)
 | .inl i,v,h=>by
  obtain⟨t,e⟩:=Value.isInt_shape (k:=i) (v:=v) h;exact .inl ⟨i,t,rfl,e⟩
 | .inr x,v,h=>by
  obtain⟨t,e⟩:=Value.isStrOf_shape (x:=x) (v:=v) h;exact .inr ⟨x,t,rfl,e⟩
theorem ZfG(i:Int)(t:Tok):kU (.inl i) (.int i t)=true:=by simp[kU,Value.isInt]
theorem ZfH(x:Str)(t:Tok):kU (.inr x) (.str x t)=true:=by simp[kU,Value.isStrOf]
theorem Z6(a b:Int):decide ((Sum.inl a:Key)=Sum.inl b)=(a ==b):=by
 by_cases e:a=b
 .subst e;simp
 .have h:¬(Sum.inl a:Key)=Sum.inl b:=λq=>e (aKC q);rw[a4I h];exact(aul.mpr e).symm
theorem Z5(a b:Str):decide ((Sum.inr a:Key)=Sum.inr b)=decide (a=b):=by
 by_cases e:a=b
 .subst e;simp
 .have h:¬(Sum.inr a:Key)=Sum.inr b:=λq=>e (Sum.inr.inj q);rw[a4I h,a4I e]
theorem Z4(a:Int)(b:Str):decide ((Sum.inl a:Key)=Sum.inr b)=false:=a4I (λq=>nomatch q)
theorem Z3(a:Str)(b:Int):decide ((Sum.inr a:Key)=Sum.inl b)=false:=a4I (λq=>nomatch q)
def Zy(prog:Program)(w:World):PySem.KeyKind prog w Key where
 is:=kU
 hash:=LP w
 inj:=λv a b ha hb=>by
  rcases ZA ha with⟨i,t,rfl,rfl⟩|⟨x,t,rfl,rfl⟩
  .rcases ZA hb with⟨j,u,rfl,e⟩|⟨y,u,rfl,e⟩
   .injection e with e1 _;rw[e1]
   .exact nomatch e
  .rcases ZA hb with⟨j,u,rfl,e⟩|⟨y,u,rfl,e⟩
   .exact nomatch e
   .injection e with e1 _;rw[e1]
 byValue:=λk v h=>by
  rcases ZA h with⟨i,t,rfl,rfl⟩|⟨x,t,rfl,rfl⟩ <;> rfl
 pyHash:=λhv h=>by
  rcases ZA hv with⟨i,t,rfl,rfl⟩|⟨x,t,rfl,rfl⟩
  .exact wpAny_pyHash_int h
  .exact wpAny_pyHash_str h
 eqBool:=λhu hv h=>by
  rcases ZA hu with⟨i,t,rfl,rfl⟩|⟨x,t,rfl,rfl⟩
  .rcases ZA hv with⟨j,u,rfl,rfl⟩|⟨y,u,rfl,rfl⟩
   .rw [Z6]at h;exact wpAny_eqBool_int h
   .rw [Z4]at h;exact SeqAt.EqAt.int_str i t y u _ _ _ _ h
  .rcases ZA hv with⟨j,u,rfl,rfl⟩|⟨y,u,rfl,rfl⟩
   .rw [Z3]at h;exact SeqAt.EqAt.str_int x t j u _ _ _ _ h
   .rw [Z5]at h;exact wpAny_eqBool_str h
 «strs»:=λk x t v h=>by
  rcases ZA h with⟨i,u,rfl,e⟩|⟨y,u,rfl,e⟩
  .exact nomatch e
  .injection e with e1 _
   subst e1;cases v <;> rfl
theorem Zff(prog:Program)(w:World)(k:Key)(v:Value):(Zy prog w).is k v=kU k v:=rfl
theorem ZdP(prog:Program)(w:World)(i:Int)(t:Tok):(Zy prog w).is (.inl i) (.int i t)=true:=ZfG i t
theorem ZdQ(prog:Program)(w:World)(x:Str)(t:Tok):(Zy prog w).is (.inr x) (.str x t)=true:=ZfH x t
inductive V where
 |aS|bl (b:Bool)|int (i:Int)|str (x:Str)|uG (b:Array UInt8)|zF (b:UInt64)|ref (a:Addr)|ty (n:String)
 deriving DecidableEq
def RelV:V->Value->Prop
 | .aS,u=>u=Value.none
 | .bl b,u=>u=Value.bool b
 | .int i,u=>∃t,u=Value.int i t
 | .str x,u=>∃t,u=Value.str x t
 | .uG b,u=>∃t,u=Value.bytes b t
 | .zF b,u=>∃t,u=Value.float b t
 | .ref a,u=>u=Value.ref a
 | .ty n,u=>u=Value.type n
abbrev Vals:List V->List Value->Prop:=Paired RelV
theorem Vals.length{xs:List V}{us:List Value}(r:Vals xs us):xs.length=us.length:=aFJ r
theorem Vals.get:∀{xs:List V}{us:List Value}{i:Nat}{x:V},Vals xs us->xs[i]?=some x->∃u,us[i]?=some u/\RelV x u
 |_,_,_,_,.nil,e=>by simp at e
 |_,_,0,_,.cons r _,e=>by simp at e;subst e;exact⟨_,rfl,r⟩
 |_,_,i+1,x,.cons _ t,e=>by
  obtain⟨u,h1,h2⟩:=Vals.get (i:=i) (x:=x) t (by simpa using e);exact⟨u,by simpa using h1,h2⟩
theorem Vals.set{x:V}{u:Value}(r:RelV x u):∀{xs:List V}{us:List Value}(i:Nat),Vals xs us->Vals (xs.set i x) (us.set i u)
 |_,_,_,.nil=>.nil
 |_,_,0,.cons _ t=>.cons r t
 |_,_,i+1,.cons q t=>.cons q (Vals.set r i t)
theorem Vals.append:∀{xs ys:List V}{us ws:List Value},Vals xs us->Vals ys ws->Vals (xs++ys) (us++ws)
 |_,_,_,_,.nil,s=>s
 |_,_,_,_,.cons r t,s=>.cons r (Vals.append t s)
theorem Vals.take:∀{xs:List V}{us:List Value}(n:Nat),Vals xs us->Vals (xs.take n) (us.take n)
 |_,_,0,_=>.nil
 |_,_,_+1,.nil=>.nil
 |_,_,n+1,.cons r t=>.cons r (Vals.take n t)
theorem Vals.drop:∀{xs:List V}{us:List Value}(n:Nat),Vals xs us->Vals (xs.drop n) (us.drop n)
 |_,_,0,r=>r
 |_,_,_+1,.nil=>.nil
 |_,_,n+1,.cons _ t=>Vals.drop n t
def dF:Option V->Option Value->Prop
 |some v,some u=>RelV v u
 |none,none=>True
 |_,_=>False
def KV{κ:Type}:List (κ×V)->List (κ×Value)->Prop:=Paired λ(p:κ×V)(q:κ×Value)=>p.1=q.1/\RelV p.2 q.2
def kV:Key->V
 | .inl i=>.int i
 | .inr x=>.str x
inductive HO where
  |lst (xs:List V)
  |tup (xs:List V)
  |dK (kvs:List (Key×V))|dT (kvs:List (List Key×V))
  |set (S:Int->Bool) (n:Nat)
  |ins (C dx:Addr) (fs:List (Str×V))
  |own (x:Addr)
  |xd (fs:List (Str×V))
  |met (f x:Addr)
  |Lf (lo hi:Int)
  |cR (o:Obj) (u:HO)
  |nA (pos:Pos) (qual:Str)
  |ext (φ:Heap->Prop)
abbrev Hp:=Addr->Option HO
def upd(H:Hp)(a:Addr)(o:HO):Hp:=λb=>if b=a then some o else H b
theorem Za{H:Hp}{a:Addr}{o:HO}:upd H a o a=some o:=by unfold upd;rw[aaU rfl]
theorem Zc{H:Hp}{a b:Addr}{o:HO}(h:b≠a):upd H a o b=H b:=by unfold upd;rw[afn h]
theorem Nm{H:Hp}{a:Addr}{o u:HO}:upd (upd H a o) a u=upd H a u:=by
 funext b;unfold upd;split <;> rfl
theorem wW{H:Hp}{a b:Addr}{o u:HO}(h:H a=some o)(h':H b=some u)(d:o≠u):a≠b:=by
 intro e;subst e;rw[h]at h';exact d (a9h h')
theorem Zf{H:Hp}{a b:Addr}{o:HO}(h:H a=some o)(h':H b=none):a≠b:=by
 intro e;subst e;rw[h]at h';cases h'
section
variable(P:Program)(w:World)
def aH(H:Hp)(h:Heap)(a:Addr):HO->Prop
 | .lst xs=>xs.length<=sizeLine/\∃(its:List Value)(n:Nat),Vals xs its/\h.get? a=some { cls:=.type "list",data:=.seq its.toArray n }
 | .tup xs=>xs.length<=sizeLine/\∃its:List Value,Vals xs its/\IsTup h a its.toArray
 | .dK kvs=>kvs.length<=sizeLine/\(a ==sysModules)=false/\∃vs,KV kvs vs/\h.DictOf (Zy P w) a vs
 | .dT kvs=>kvs.length<=sizeLine/\(a ==sysModules)=false/\∃xs:List (List Key×Addr×Value),
   Paired (λ(p:List Key×V)(q:List Key×Addr×Value)=>p.1=q.1/\H q.2.1=some (.tup (p.1.map kV))/\RelV p.2 q.2.2) kvs xs /\
   ∃o es ep,h.get? a=some o/\o.ExactDict/\o.data=.dict es ep/\es.toList=xs.map (entryOfKey (tupleKind (Zy P w)))/\(xs.map (·.1)).Nodup
 | .set S n=>h.SetOf (intKind P w) a S n
 | .ins C dx fs=>H dx=some (.own a)/\fs.length<=1000/\dx≠a/\h.get? a=some (W.instObj C dx) /\
   ∃mA,h.Ns1 dx mA/\(∀f,dF (fs.lookup f) (mA f))/\PySem.Within mA (fs.map (·.1))
 | .own _=>∃o,h.get? a=some o
 | .xd fs=>∃mA,h.Ns1 a mA/\∀f,dF (fs.lookup f) (mA f)
 | .Lf lo hi=>∃t u v,h.get? a=some { cls:=.type "range",data:=.fields #[.int lo t,.int hi u,.int 1 v] }
 | .cR o u=>h.get? a=some o/\aH H h a u
 | .nA pos qual=>∃ps,h.get? a=some { cls:=.none,data:=.fields ps }/\TriplesOk ps.toList/\∀cv,codeAmong pos ps.toList=some cv->∃c oc vs t,cv=.ref c/\H c=some (.cR oc (.own a))/\oc.data=.fields vs/\vs[1]?=some (.str qual t)
 | .met f x=>h.get? a=some (W.methodObj (.ref f) (.ref x))
 | .ext φ=>φ h/\(∃o,h.get? a=some o)/\∀h1 h2:Heap,φ h1->(∀o,h1.get? a=some o->h2.get? a=some o)->φ h2
def dW(H:Hp)(h:Heap):Prop:=∀a o,H a=some o->aH P w H h a o
end
section
variable{P:Program}{w:World}{H H':Hp}{h h':Heap}{a:Addr}{o:HO}
theorem aH.lt(x:aH P w H h a o):a<h.objs.size:=by
 cases o with
 |lst xs=>obtain⟨_,_,_,_,e⟩:=x;exact aYz e
 |tup xs=>obtain⟨_,_,_,p⟩:=x;exact p.lt
 |dK kvs=>obtain⟨_,_,_,_,o,_,_,e,_⟩:=x;exact aYz e
 |dT kvs=>obtain⟨_,_,_,_,o,_,_,e,_⟩:=x;exact aYz e
 |set S n=>obtain⟨o,_,_,_,e,_⟩:=x;exact aYz e
 |ins C dx fs=>obtain⟨_,_,_,e,_⟩:=x;exact aYz e
 |own y=>obtain⟨_,e⟩:=x;exact aYz e
 |xd fs=>obtain⟨_,⟨_,_,_,e,_⟩,_⟩:=x;exact aYz e
 |Lf lo hi=>obtain⟨_,_,_,e⟩:=x;exact aYz e
 |cR ob u=>obtain⟨e,_⟩:=x;exact aYz e
 |nA p q=>obtain⟨_,e,_⟩:=x;exact aYz e
 |met f y=>exact aYz (show h.get? a=some _ from x)
 |ext φ=>obtain⟨_,⟨_,e⟩,_⟩:=x;exact aYz e
theorem Paired.Ck{α β:Type}{F G:α->β->Prop}:∀{l₁:List α}{l₂:List β},Paired F l₁ l₂->(∀a b,F a b->G a b)->Paired G l₁ l₂
 |_,_,.nil,_=>.nil
 |_,_,.cons r t,f=>.cons (f _ _ r) (Paired.Ck t f)
theorem aH.stay(x:aH P w H h a o)(k:∀b u,(b=a\/H b=some (.own a))->h.get? b=some u->h'.get? b=some u)
  (ho:∀b,H b=some (.own a)->H' b=some (.own a)) (ht:∀b xs,H b=some (.tup xs)->H' b=some (.tup xs))
  (hz:∀b oz,H b=some (.cR oz (.own a))->H' b=some (.cR oz (.own a)):=by exact λ_ _ q=>q):aH P w H' h' a o:=by
 induction o with
 |lst xs=>obtain⟨z,its,n,r,e⟩:=x;exact⟨z,its,n,r,k _ _ (.inl rfl) e⟩
 |tup xs=>obtain⟨z,its,r,ob,e,c⟩:=x;exact⟨z,its,r,ob,k _ _ (.inl rfl) e,c⟩
 |dK kvs=>obtain⟨z,y,vs,r,ob,es,ep,e,c⟩:=x;exact⟨z,y,vs,r,ob,es,ep,k _ _ (.inl rfl) e,c⟩
 |dT kvs=>
  obtain⟨z,y,xs,r,ob,es,ep,e,c⟩:=x;exact⟨z,y,xs,Paired.Ck r λp q z=>⟨z.1,ht _ _ z.2.1,z.2.2⟩,ob,es,ep,k _ _ (.inl rfl) e,c⟩
 |set S n=>obtain⟨ob,es,ep,t,e,c⟩:=x;exact⟨ob,es,ep,t,k _ _ (.inl rfl) e,c⟩
 |ins C dx fs=>
  obtain⟨d,z,ne,e,mA,⟨od,es,ep,e2,c⟩,r⟩:=x;exact⟨ho _ d,z,ne,k _ _ (.inl rfl) e,mA,⟨od,es,ep,k _ _ (.inr d) e2,c⟩,r⟩
 |own y=>obtain⟨ob,e⟩:=x;exact⟨ob,k _ _ (.inl rfl) e⟩
 |xd fs=>obtain⟨mA,⟨od,es,ep,e,c⟩,r⟩:=x;exact⟨mA,⟨od,es,ep,k _ _ (.inl rfl) e,c⟩,r⟩
 |Lf lo hi=>obtain⟨t,u,v,e⟩:=x;exact⟨t,u,v,k _ _ (.inl rfl) e⟩
 |cR ob u ih=>obtain⟨e,q⟩:=x;exact⟨k _ _ (.inl rfl) e,ih q⟩
 |nA p q=>
  obtain⟨ps,e,tr,hc⟩:=x;refine⟨ps,k a _ (.inl rfl) e,tr,λcv e1=>?_⟩;obtain⟨c,oc,vs,tt,z,e2,r⟩:=hc cv e1;exact⟨c,oc,vs,tt,z,hz _ _ e2,r⟩
 |met f y=>
  have e:h.get? a=some (W.methodObj (.ref f) (.ref y)):=x;show h'.get? a=some (W.methodObj (.ref f) (.ref y));exact k a _ (.inl rfl) e
 |ext φ=>obtain⟨p,⟨o,e⟩,st⟩:=x;exact⟨st _ _ p λo q=>k _ _ (.inl rfl) q,⟨o,k _ _ (.inl rfl) e⟩,st⟩
theorem dW.lt(x:dW P w H h)(e:H a=some o):a<h.objs.size:=(x a o e).lt
theorem dW.fresh(x:dW P w H h)(e:h.objs.size<=a):H a=none:=by
 cases q:H a with
 |none=>rfl
 |some u=>exact absurd (aJC (x.lt q) e) (aiF _)
theorem dW.kept(x:dW P w H h)(k:∀b u,h.get? b=some u->h'.get? b=some u):dW P w H h':=λa o e=>
 (x a o e).stay (λb u _ q=>k b u q) (λ_ q=>q) λ_ _ q=>q
theorem dW.laid(x:dW P w H h)(k:∀b u,h.get? b=some u->h'.get? b=some u)(hp:h.objs.size<=a)(new:aH P w (upd H a o) h' a o):dW P w (upd H a o) h':=λb u e=>by
 have hn:=x.fresh hp;by_cases hb:b=a
 .subst hb;rw[Za]at e;cases e;exact new
 .rw [Zc hb]at e;exact(x b u e).stay (λc v _ q=>k c v q) (λc q=>by rw[Zc (Zf q hn)];exact q) (λc xs q=>by rw[Zc (Zf q hn)];exact q) λc oz q=>by rw[Zc (Zf q hn)];exact q
end
def Rd(H:Hp)(a:Addr)(u:HO):Prop:=H a=some u\/∃o,H a=some (.cR o u)
theorem Rd.ok{P:Program}{w:World}{H:Hp}{h:Heap}{a:Addr}{u:HO}(r:Rd H a u)(x:dW P w H h):aH P w H h a u:=by
 rcases r with r|⟨o,r⟩
 .exact x a u r
 .obtain ⟨_,q⟩:=x a _ r;exact q
def Ii:Option HO->Prop
 |some (.lst _)=>True
 |some (.dK _)=>True
 |some (.dT _)=>True
 |some (.set _ _)=>True
 |some (.ins _ _ _)=>True
 |some (.ext _)=>True
 |_=>False
section
variable{P:Program}{w:World}{H:Hp}{h h':Heap}{x e:Addr}{o':HO}
theorem dW.write(ok:dW P w H h)(mu:Ii (H x))(he:e=x\/H e=some (.own x))(k:∀b u,b≠e->h.get? b=some u->h'.get? b=some u)(DR:∃u,h'.get? e=some u)
  (new:aH P w (upd H x o') h' x o'):dW P w (upd H x o') h':=λb u q=>by
 have FH:∀c y,H c=some (.own y)->c≠x:=λc y r z=>by subst z;rw[r]at mu;exact mu
 have Lv:∀c xs,H c=some (.tup xs)->c≠x:=λc xs r z=>by subst z;rw[r]at mu;exact mu
 by_cases hb:b=x
 .subst hb;rw[Za]at q;cases q;exact new
 .rw [Zc hb]at q;by_cases Cu:b=e
  .have q':H b=some (.own x):=by
    rcases he with z|z
    .exact absurd (Cu.trans z) hb
    .rw [Cu];exact z
   rw[q]at q';cases q';obtain⟨v,hv⟩:=DR;exact⟨v,by rw[Cu];exact hv⟩
  .refine (ok b u q).stay (λc v hc r=>k c v ?_ r) (λc r=>by rw[Zc (FH c b r)];exact r) (λc xs r=>by rw[Zc (Lv c xs r)];exact r) λc oz r=>by rw[Zc (λz=>by subst z;rw[r]at mu;exact mu)];exact r
   rcases hc with rfl|hc
   .exact Cu
   .rintro rfl;rcases he with z|z
    .exact FH c b hc z
    .rw [hc]at z;cases z;exact hb rfl
end
structure Un(fs ex:List Addr)(H H':Hp)(h h':Heap):Prop where
 keep:∀b o,h.get? b=some o->H b=none->b∉fs->b∉ex->h'.get? b=some o
 slot:∀b o,h.get? b=some o->H b=none->b∈fs->b∉ex->∃sl,h'.get? b=some { o with slots:=sl }
 free:∀b o,h.get? b=some o->H b=none->b∉ex->H' b=none
 there:∀b o,h.get? b=some o->b∉ex->∃o',h'.get? b=some o'
 tups:∀b xs,H b=some (.tup xs)->H' b=some (.tup xs)
 jM:∀b o u,H b=some (.cR o u)->H' b=some (.cR o u)
 j0:∀b p q,H b=some (.nA p q)->H' b=some (.nA p q)
section
variable{fs fs' ex ex':List Addr}{H H1 H2:Hp}{h h1 h2 h':Heap}{a x e:Addr}{o:HO}
theorem Un.any(u:Un fs ex H H1 h h1){b:Addr}{ob:Obj}(q:h.get? b=some ob)(n:H b=none)(hx:b∉ex):∃sl,h1.get? b=some { ob with slots:=sl }:=by
 by_cases hb:b∈fs
 .exact u.slot b ob q n hb hx
 .exact ⟨ob.slots,u.keep b ob q n hb hx⟩
theorem Un.kept(k:∀b u,h.get? b=some u->h'.get? b=some u):Un fs ex H H h h':=
 ⟨λb ob q _ _ _=>k b ob q,λb ob q _ _ _=>⟨ob.slots,k b ob q⟩,λ_ _ _ n _=>n,λb ob q _=>⟨ob,k b ob q⟩,λ_ _ q=>q,λ_ _ _ q=>q,λ_ _ _ q=>q⟩
theorem Un.refl:Un fs ex H H h h:=Un.kept λ_ _ q=>q
theorem Un.laid(k:∀b u,h.get? b=some u->h'.get? b=some u)(hp:h.objs.size<=a)(hn:H a=none):Un fs ex H (upd H a o) h h' where
 keep:=λb u q _ _ _=>k b u q
 slot:=λb u q _ _ _=>⟨u.slots,k b u q⟩
 free:=λb u q n _=>by rw[Zc (ar8 (aJC (aYz q) hp))];exact n
 there:=λb u q _=>⟨u,k b u q⟩
 tups:=λb xs q=>by rw[Zc (Zf q hn)];exact q
 jM:=λb u xs q=>by rw[Zc (Zf q hn)];exact q
 j0:=λb _ _ q=>by rw[Zc (Zf q hn)];exact q
theorem Un.write(mu:Ii (H x))(he:e=x\/H e=some (.own x))(k:∀b u,b≠e->h.get? b=some u->h'.get? b=some u)(DR:∃u,h'.get? e=some u):Un fs ex H (upd H x o) h h':=by
 have hx:∀b,H b=none->b≠x:=λb n z=>by subst z;rw[n]at mu;exact mu
 have hb:∀b,H b=none->b≠e:=λb n z=>by
  subst z;rcases he with r|r
  .exact hx b n r
  .rw [n]at r;cases r
 have hm:∀b u,H b=some u->¬Ii (some u)->b≠x:=λb u q nm z=>by subst z;rw[q]at mu;exact nm mu
 refine⟨λb u q n _ _=>k b u (hb b n) q,λb u q n _ _=>⟨u.slots,k b u (hb b n) q⟩,λb u q n _=>by rw[Zc (hx b n)];exact n,λb u q _=>?_,
  λb xs q=>by rw[Zc (hm b _ q λz=>z)];exact q,λb u xs q=>by rw[Zc (hm b _ q λz=>z)];exact q,λb _ _ q=>by rw[Zc (hm b _ q λz=>z)];exact q⟩
 by_cases Cu:b=e
 .subst Cu;exact DR
 .exact ⟨u,k b u Cu q⟩
end
def IG(h:Heap)(H:Hp):List Addr:=(List.range h.objs.size).filter λa=>(H a).isSome
def oG(h:Heap)(H:Hp):Heap:=W.hideAll h (IG h H)
theorem ZfI(h:Heap)(H:Hp):(oG h H).objs.size=h.objs.size:=W.hideAll_size _ _
theorem NL{h:Heap}{H:Hp}{b:Addr}{o:Obj}(e:h.get? b=some o)(n:H b=none):(oG h H).get? b=some o:=
 W.hideAll_get _ e λhm=>by
  have q:(H b).isSome=true:=(List.mem_filter.mp hm).2;rw[n]at q;simp at q
theorem ZiU{h:Heap}{H:Hp}{b:Addr}{o:Obj}(e:(oG h H).get? b=some o):h.get? b=some o/\H b=none:=by
 have e':h.get? b=some o:=W.of_hideAll (IG h H) e;refine⟨e',?_⟩;cases q:H b with
 |none=>rfl
 |some x=>
  have hm:b∈IG h H:=List.mem_filter.mpr ⟨ayn.mpr (aYz e'),by simp[q]⟩;have z:(oG h H).get? b=none:=W.hideAll_none (IG h H) hm;rw[z]at e;cases e
structure Mod(K:W.Frag)(mg:Str->Option Value)(base:Heap):Prop where
 DJ:K.In base
 glob:base.Ns mainGlobals mg
 blt:∃mb,base.Ns builtinsNs mb/\∀x:Str,x ≠ "__name__" ->mb x=bootBuiltins x
 nolimit:base.NoLimit
structure Cx where
 prog:Program
 w:World
 K:W.Frag
 mg:Str->Option Value
 base:Heap
 A:Around
 N:List Str
 s₀:Shared
 H₀:Hp
 env:Env
 outer:List Env
 stack:List Env
 ex:List Addr
 fn:Str->Bool
 calm:Bool
 pn:List (Addr×Obj)
 xe:Value->Shared->Prop
def frs(l:List Env):List Addr:=l.filterMap (·.frame)
abbrev Cx.fs(X:Cx):List Addr:=frs X.outer
def HV(sc:Scope)(x:Str):Prop:=sc.names.lookup x=some .local\/sc.names.lookup x=some .cell\/sc.names.lookup x=some .free
def Loc(sc:Scope)(x:Str):Prop:=sc.names.lookup x=some .local\/sc.names.lookup x=some .cell
def Look(env:Env)(h:Heap)(m:Str->Option Value)(x:Str)(u:Value):Prop:=
 (env.kindOf x=some .local/\m x=some u)\/((env.kindOf x=some .cell\/env.kindOf x=some .free)/\∃c,env.cells.lookup x=some c/\h.IsCell c (some u))
structure Cx.Ok(X:Cx):Prop where
 mod:Mod X.K X.mg X.base
 kind:X.env.scope.kind=.function
 glob:X.env.globals=mainGlobals
 blt:X.env.builtins=builtinsNs
 above:X.s₀.heap.objs.size<=X.env.locals
 inj:∀x y c,X.env.cells.lookup x=some c->X.env.cells.lookup y=some c->x=y
 has:∀x,(X.env.kindOf x=some .cell\/X.env.kindOf x=some .free)->∃c,X.env.cells.lookup x=some c
 Hl:∀x c,X.fn x=true->X.env.cells.lookup x=some c->X.s₀.heap.objs.size<=c
 hd:X.calm=true->X.A.handled=none
 frames:X.A.frames=some X.stack
 stk:X.stack=X.outer\/(X.stack=X.env ::X.outer/\X.env.frame=some X.env.locals)
 Jy:∀b∈X.ex,b≠X.env.locals/\∀x c,X.env.cells.lookup x=some c->c≠b
 bs:∀b o,X.base.get? b=some o->X.s₀.heap.get? b=some o/\X.H₀ b=none
 yp:X.base.objs.size<=X.s₀.heap.objs.size
 wU:∀b o,X.base.get? b=some o->b∉X.ex
 xH:∀b∈X.ex,b∉X.fs
 jL:X.s₀.heap.FunFrames X.base X.outer
 CA:∀b∈X.fs,X.H₀ b=none
structure Inv(X:Cx)(pins:List (Addr×Obj))(σ:List (Option V))(H:Hp)(s:Shared):Prop where
 ok:X.Ok
 os:s.os=X.s₀.os
 bare:AllBare s.gens
 base:Un X.fs X.ex X.H₀ H X.s₀.heap s.heap
 loc:∃m,s.heap.Ns X.env.locals m/\∀(i:Nat)(x:Str)(v:V),X.N[i]?=some x->σ[i]?=some (some v)->HV X.env.scope x->∃u,RelV v u/\Look X.env s.heap m x u
 cell:∀x c,X.env.cells.lookup x=some c->∃v,s.heap.IsCell c v
 free:H X.env.locals=none
 dD:∀x c,X.env.cells.lookup x=some c->H c=none
 pin:∀p∈X.pn++pins,s.heap.get? p.1=some p.2/\H p.1=none/\p.1≠X.env.locals/\p.1∉X.fs/\∀v,p.2.data≠.cell v
 hok:dW X.prog X.w H s.heap
 len:σ.length=X.N.length
section
variable{X:Cx}{pins:List (Addr×Obj)}{σ:List (Option V)}{H H':Hp}{s:Shared}{h':Heap}
theorem Cx.Ok.LA(ok:X.Ok){b:Addr}{o:Obj}(e:X.base.get? b=some o):b∉X.fs:=λhb=>by
 have:=(ok.jL.mem hb).1;rw[e]at this;cases this
theorem Inv.bs(I:Inv X pins σ H s):∀b o,X.base.get? b=some o->s.heap.get? b=some o/\H b=none:=λb o e=>
 ⟨I.base.keep b o (I.ok.bs b o e).1 (I.ok.bs b o e).2 (I.ok.LA e) (I.ok.wU b o e),I.base.free b o (I.ok.bs b o e).1 (I.ok.bs b o e).2 (I.ok.wU b o e)⟩
theorem Inv.bk(I:Inv X pins σ H s):∀b o,X.base.get? b=some o->s.heap.get? b=some o:=λb o e=>(I.bs b o e).1
theorem Inv.mod(I:Inv X pins σ H s):Mod X.K X.mg X.base:=I.ok.mod
theorem Inv.dI(I:Inv X pins σ H s):X.K.In s.heap:=I.ok.mod.DJ.keeps I.bk
theorem Inv.nolimit(I:Inv X pins σ H s):s.heap.NoLimit:=I.ok.mod.nolimit.keeps I.bk
theorem Inv.lt(I:Inv X pins σ H s):X.env.locals<s.heap.objs.size:=let⟨_,hn,_⟩:=I.loc;hn.lt
theorem Inv.sz(I:Inv X pins σ H s):X.s₀.heap.objs.size<=s.heap.objs.size:=a0n I.ok.above (aUL I.lt)
theorem Inv.FI(I:Inv X pins σ H s){a:Addr}(h:s.heap.objs.size<=a):a∉X.fs:=λhb=>by
 obtain⟨_,o,ho,_⟩:=I.ok.jL.mem hb;exact absurd (aJC (aYz ho) (a0n I.sz h)) (aiF _)
theorem Inv.yo(I:Inv X pins σ H s):∀x c,X.env.cells.lookup x=some c->c≠X.env.locals:=λx c e z=>by
 obtain⟨v,o,ho,hd⟩:=I.cell x c e;obtain⟨m,⟨o',es,ep,ho',hd',_⟩,_⟩:=I.loc;rw[z,ho']at ho;cases ho;rw[hd']at hd;cases hd
theorem Inv.jL(I:Inv X pins σ H s):s.heap.FunFrames X.base X.outer:=by
 have all:∀(l:List Env),(∀b∈frs l,b∈X.fs)->X.s₀.heap.FunFrames X.base l->s.heap.FunFrames X.base l:=by
  intro l
  induction l with
  |nil=>intro _ _;trivial
  |cons env r ih=>
   intro hs hl;obtain⟨hk,⟨L,o,hf,hn,ho,hd⟩,hr⟩:=hl;have hL:L∈X.fs:=hs L (by unfold frs;rw[List.filterMap_cons,hf];exact aTL);obtain⟨sl,e⟩:=I.base.slot L o ho (I.ok.CA L hL) hL λz=>I.ok.xH L z hL;exact⟨hk,⟨L,_,hf,hn,e,hd⟩,ih (λb hb=>hs b (by unfold frs;rw[List.filterMap_cons,hf];exact arx _ hb)) hr⟩
 exact all X.outer (λ_ hb=>hb) I.ok.jL
theorem Inv.stack(I:Inv X pins σ H s):s.heap.FunFrames X.base X.stack:=by
 rcases I.ok.stk with e|⟨e,hf⟩
 .rw [e];exact I.jL
 .rw [e];obtain⟨m,hn,_⟩:=I.loc;refine .cons (by rw[I.ok.kind];decide) hf hn ?_ I.jL;exact Heap.get?_none_of_le (a0n I.ok.yp I.ok.above)
theorem Inv.nB(I:Inv X pins σ H s):∀b∈frs X.stack,b∈X.env.locals ::X.fs:=λb hb=>by
 rcases I.ok.stk with e|⟨e,hf⟩
 .rw [e]at hb;exact arx _ hb
 .rw [e]at hb;unfold frs at hb;rw[List.filterMap_cons,hf]at hb;exact hb
theorem Inv.nC(I:Inv X pins σ H s):∀b∈frs X.stack,H b=none:=λb hb=>by
 rcases baL.mp (I.nB b hb) with e|hb
 .rw [e];exact I.free
 .obtain ⟨_,o,ho,_⟩:=I.ok.jL.mem hb;exact I.base.free b o ho (I.ok.CA b hb) λz=>I.ok.xH b z hb
theorem Inv.step{g':Array GenState}{t':Nat}{d':Drawn}{ch:List Addr}(I:Inv X pins σ H s)
  (hch:∀b∈ch,(b∈X.ex\/X.s₀.heap.objs.size<=b)/\b≠X.env.locals/\(∀x c,X.env.cells.lookup x=some c->c≠b)/\∀p∈X.pn++pins,p.1≠b)
  (keep:∀b o,b≠X.env.locals->b∉X.fs->b∉ch->s.heap.get? b=some o->H b=none->h'.get? b=some o)
  (slot:∀b o,b≠X.env.locals->b∈X.fs->b∉ch->s.heap.get? b=some o->H b=none->∃sl,h'.get? b=some { o with slots:=sl }) (free:∀b o,b∉ch->s.heap.get? b=some o->H b=none->H' b=none)
  (there:∀b o,b∉ch->s.heap.get? b=some o->∃o',h'.get? b=some o')
  (tups:∀b xs,H b=some (.tup xs)->H' b=some (.tup xs)) (jM:∀b o u,H b=some (.cR o u)->H' b=some (.cR o u)) (j0:∀b p q,H b=some (.nA p q)->H' b=some (.nA p q))
  (ns:∀m,s.heap.Ns X.env.locals m->h'.Ns X.env.locals m) (hok:dW X.prog X.w H' h') (hg:AllBare g') :
  Inv X pins σ H' { s with heap:=h',gens:=g',drawn:=d',toks:=t' }:=by
 have ON:∀b o,X.s₀.heap.get? b=some o->b≠X.env.locals:=λb o e=>ar8 (aJC (aYz e) I.ok.above);have IY:∀b o,X.s₀.heap.get? b=some o->b∉X.ex->b∉ch:=λb o e hx hb=>by
  rcases(hch b hb).1 with z|z
  .exact hx z
  .exact absurd (aJC (aYz e) z) (aiF _)
 have cellK:∀x c,X.env.cells.lookup x=some c->∀v,s.heap.IsCell c v->h'.IsCell c v:=λx c e v ⟨o,ho,hd⟩=>by
  have FP:c∉ch:=λz=>(hch c z).2.2.1 x c e rfl;by_cases hc:c∈X.fs
  .obtain ⟨sl,q⟩:=slot c o (I.yo x c e) hc FP ho (I.dD x c e);exact⟨_,q,hd⟩
  .exact ⟨o,keep c o (I.yo x c e) hc FP ho (I.dD x c e),hd⟩
 refine⟨I.ok,I.os,hg,⟨λb o e n hb hx=>?_,λb o e n hb hx=>?_,λb o e n hx=>?_,λb o e hx=>?_,λb xs e=>tups b xs (I.base.tups b xs e),λb o xs e=>jM b o xs (I.base.jM b o xs e),λb p r e=>j0 b p r (I.base.j0 b p r e)⟩,?_,λx c e=>?_,?_,λx c e=>?_,λp hp=>?_,hok,I.len⟩
 .exact keep b o (ON b o e) hb (IY b o e hx) (I.base.keep b o e n hb hx) (I.base.free b o e n hx)
 .obtain ⟨sl,e1⟩:=I.base.slot b o e n hb hx;obtain⟨Vh,e2⟩:=slot b _ (ON b o e) hb (IY b o e hx) e1 (I.base.free b o e n hx);exact⟨Vh,e2⟩
 .obtain ⟨o',e1⟩:=I.base.there b o e hx;exact free b o' (IY b o e hx) e1 (I.base.free b o e n hx)
 .obtain ⟨o',e1⟩:=I.base.there b o e hx;exact there b o' (IY b o e hx) e1
 .obtain ⟨m,hn,hl⟩:=I.loc;refine⟨m,ns m hn,λi x v e1 e2 e3=>?_⟩;obtain⟨u,r,l⟩:=hl i x v e1 e2 e3;refine⟨u,r,?_⟩;rcases l with l|⟨k,c,e,z⟩
  .exact .inl l
  .exact .inr ⟨k,c,e,cellK x c e _ z⟩
 .obtain ⟨v,z⟩:=I.cell x c e;exact⟨v,cellK x c e v z⟩
 .obtain ⟨m,⟨o,_,_,ho,_⟩,_⟩:=I.loc;exact free _ o (λz=>(hch _ z).2.1 rfl) ho I.free
 .obtain ⟨v,o,ho,hd⟩:=I.cell x c e;exact free c o (λz=>(hch c z).2.2.1 x c e rfl) ho (I.dD x c e)
 .obtain ⟨e,n,ne,nf,d⟩:=I.pin p hp;have FP:p.1∉ch:=λz=>(hch p.1 z).2.2.2 p hp rfl;exact⟨keep p.1 p.2 ne nf FP e n,free p.1 p.2 FP e n,ne,nf,d⟩
theorem Inv.un{t':Nat}(I:Inv X pins σ H s)(u:Un X.fs [] H H' s.heap h')(hok:dW X.prog X.w H' h'):Inv X pins σ H' { s with heap:=h',toks:=t' }:=by
 obtain⟨m,⟨o,es,ep,ho,r⟩,_⟩:=id I.loc;obtain⟨sl,hL⟩:=u.any ho I.free (by simp);exact I.step (g':=s.gens) (d':=s.drawn) (ch:=[]) (λ_ z=>nomatch z) (λb o _ hb _ e n=>u.keep b o e n hb (by simp)) (λb o _ hb _ e n=>u.slot b o e n hb (by simp)) (λb o _ e n=>u.free b o e n (by simp)) (λb o _ e=>u.there b o e (by simp)) u.tups u.jM u.j0 (λm' hm=>by
  obtain⟨o',es',Mz,ho',r'⟩:=hm;rw[ho]at ho';cases ho';exact⟨_,es',Mz,hL,r'⟩) hok I.bare
theorem Inv.call{g':Array GenState}{t':Nat}{d':Drawn}{ch:List Addr}(I:Inv X pins σ H s)(u:Un (frs X.stack) ch H H' s.heap h')(hok:dW X.prog X.w H' h')(hg:AllBare g')
  (hch:∀b∈ch,(b∈X.ex\/X.s₀.heap.objs.size<=b)/\b≠X.env.locals/\(∀x c,X.env.cells.lookup x=some c->c≠b)/\∀p∈X.pn++pins,p.1≠b) :
  Inv X pins σ H' { s with heap:=h',gens:=g',drawn:=d',toks:=t' }:=by
 obtain⟨m,⟨o,es,ep,ho,r⟩,_⟩:=id I.loc;obtain⟨sl,hL⟩:=u.any ho I.free λz=>(hch _ z).2.1 rfl;exact I.step (ch:=ch) hch (λb o hL hb hc e n=>u.keep b o e n (λz=>(baL.mp (I.nB b z)).elim hL hb) hc) (λb o _ _ hc e n=>u.any e n hc) (λb o hc e n=>u.free b o e n hc) (λb o hc e=>u.there b o e hc) u.tups u.jM u.j0 (λm' hm=>by
  obtain⟨o',es',Mz,ho',r'⟩:=hm;rw[ho]at ho';cases ho';exact⟨_,es',Mz,hL,r'⟩) hok hg
theorem Inv.turned{t':Nat}{it:Addr}(I:Inv X pins σ H s)(k:∀b o,b≠it->s.heap.get? b=some o->h'.get? b=some o)(hn:H it=none)(hL:it≠X.env.locals)
  (h1:it∈X.ex\/X.s₀.heap.objs.size<=it) (h2:∀x c,X.env.cells.lookup x=some c->c≠it) (h3:∀p∈X.pn++pins,p.1≠it):Inv X pins σ H { s with heap:=h',toks:=t' }:=by
 have OJ:∀b u,H b=some u->b≠it:=λb u e z=>by rw[z,hn]at e;cases e
 refine I.step (g':=s.gens) (d':=s.drawn) (ch:=[it]) (λb hb=>?_) (λb o _ _ hc e _=>k b o (λz=>hc (by simp[z])) e) (λb o _ _ hc e _=>⟨o.slots,k b o (λz=>hc (by simp[z])) e⟩) (λ_ _ _ _ n=>n)
  (λb o hc e=>⟨o,k b o (λz=>hc (by simp[z])) e⟩) (λ_ _ e=>e) (λ_ _ _ e=>e) (λ_ _ _ e=>e) (λm hm=>?_) (λb u e=>?_) I.bare
 .have e:b=it:=by simpa using hb
  subst e;exact⟨h1,hL,h2,h3⟩
 .obtain ⟨o,es,ep,ho,r⟩:=hm;exact⟨o,es,ep,k _ o (ac5 hL) ho,r⟩
 .refine (I.hok b u e).stay (λc v hc q=>k c v ?_ q) (λ_ q=>q) λ_ _ q=>q;rcases hc with z|z
  .rw [z];exact OJ b u e
  .exact OJ c _ z
theorem Inv.tok(I:Inv X pins σ H s)(t:Nat):Inv X pins σ H { s with toks:=t }:=I.un (h':=s.heap) (t':=t) Un.refl I.hok
theorem Inv.kept{t':Nat}(I:Inv X pins σ H s)(k:∀b u,s.heap.get? b=some u->h'.get? b=some u):Inv X pins σ H { s with heap:=h',toks:=t' }:=I.un (Un.kept k) (I.hok.kept k)
theorem Inv.laid{a:Addr}{o:HO}{t':Nat}(I:Inv X pins σ H s)(k:∀b u,s.heap.get? b=some u->h'.get? b=some u)(hp:s.heap.objs.size<=a)(new:aH X.prog X.w (upd H a o) h' a o) :
  Inv X pins σ (upd H a o) { s with heap:=h',toks:=t' }:=I.un (Un.laid k hp (I.hok.fresh hp)) (I.hok.laid k hp new)
theorem Inv.write{x e:Addr}{o:HO}{t':Nat}(I:Inv X pins σ H s)(mu:Ii (H x))(he:e=x\/H e=some (.own x))(k:∀b u,b≠e->s.heap.get? b=some u->h'.get? b=some u)(DR:∃u,h'.get? e=some u)
  (new:aH X.prog X.w (upd H x o) h' x o):Inv X pins σ (upd H x o) { s with heap:=h',toks:=t' }:=I.un (Un.write mu he k DR) (I.hok.write mu he k DR new)
theorem Inv.tR{dz:List (Addr×Obj)}(I:Inv X pins σ H s)(h:∀p∈dz,s.heap.get? p.1=some p.2/\H p.1=none/\p.1≠X.env.locals/\p.1∉X.fs/\∀v,p.2.data≠.cell v):Inv X dz σ H s:=
 ⟨I.ok,I.os,I.bare,I.base,I.loc,I.cell,I.free,I.dD,λp hp=>(aaI.mp hp).elim (λz=>I.pin p (a96 _ z)) (h p),I.hok,I.len⟩
theorem RU{N:List Str}(hN:N.Nodup){i j:Nat}{x:Str}(a:N[i]?=some x)(b:N[j]?=some x):i=j:=by
 obtain⟨h1,e1⟩:=aB9.mp a;obtain⟨h2,e2⟩:=aB9.mp b;exact(List.getElem_inj hN).mp (e1.trans e2.symm)
theorem SI{M:Model}{A:Around}{E:Value->Shared->Prop}{i:Nat}{x:Str}{v:V}{u:Value}{Q:Unit->Shared->Prop}(I:Inv X pins σ H s)(hN:X.N.Nodup)(hi:X.N[i]?=some x)(hx:Loc X.env.scope x)(r:RelV v u)
  (h:∀s',Inv X pins (σ.set i (some v)) H s'->(∃a,Heap.SameBut a s.heap s'.heap/\(a=X.env.locals\/X.env.cells.lookup x=some a))->Q () s') (hf:X.fn x=true\/X.env.scope.names.lookup x=some .local:=by first|exact .inl rfl|exact .inr rfl|assumption):wpAny M A (storeName X.env x u) Q E s:=by
 obtain⟨m,hn,hl⟩:=id I.loc;have hcls:(X.env.scope.kind == .class || (X.env.scope.kind == .module && X.env.locals !=X.env.globals))=false:=by rw[I.ok.kind];rfl
 have Gz:i<σ.length:=by rw[I.len];exact(aB9.mp hi).1
 have yo:=I.yo;have tracked:∀{a:Addr}{h':Heap},(∃o,s.heap.get? a=some o/\H a=none)->Heap.SameBut a s.heap h'->dW X.prog X.w H h':=λ{a h'} ha hs b ob e=>by
  obtain⟨_,_,hfree⟩:=ha;refine(I.hok b ob e).stay (λc w' hc q=>(hs.2 c ?_).trans q) (λ_ q=>q) λ_ _ q=>q;rintro rfl;rcases hc with rfl|hc
  .rw [hfree]at e;cases e
  .rw [hfree]at hc;cases hc
 rcases hx with hk|hk
 .refine wpAny_storeName_local hk hn (λh' hn' hs=>?_) hcls;obtain⟨oL,_,_,tU,_⟩:=id hn;refine h _ ⟨I.ok,I.os,I.bare,⟨λb o e n hb hx=>?_,λb o e n hb hx=>?_,I.base.free,λb o e hx=>?_,I.base.tups,I.base.jM,I.base.j0⟩,⟨_,hn',λj y v' e1 e2 e3=>?_⟩,λy c e=>?_,I.free,I.dD,λp hp=>?_,tracked ⟨oL,tU,I.free⟩ hs,by simpa using I.len⟩ ⟨_,hs,.inl rfl⟩
  .exact (hs.2 b (ar8 (aJC (aYz e) I.ok.above))).trans (I.base.keep b o e n hb hx)
  .obtain ⟨sl,e1⟩:=I.base.slot b o e n hb hx;exact⟨sl,(hs.2 b (ar8 (aJC (aYz e) I.ok.above))).trans e1⟩
  .obtain ⟨o',e1⟩:=I.base.there b o e hx;exact⟨o',(hs.2 b (ar8 (aJC (aYz e) I.ok.above))).trans e1⟩
  .by_cases hj:j=i
   .subst hj;rw[hi]at e1;cases e1;rw[ac8 Gz]at e2;cases e2;exact⟨u,r,.inl ⟨hk,by simp⟩⟩
   .rw [aTx (ac5 hj)]at e2;obtain⟨u',r',q⟩:=hl j y v' e1 e2 e3;refine⟨u',r',?_⟩;rcases q with⟨k,e⟩|⟨k,c,e,z⟩
    .refine .inl ⟨k,?_⟩;have:y≠x:=λe=>hj (RU hN e1 (e ▸hi));simp[this,e]
    .exact .inr ⟨k,c,e,z.sameBut hs (yo y c e)⟩
  .obtain ⟨w',z⟩:=I.cell y c e;exact⟨w',z.sameBut hs (yo y c e)⟩
  .obtain ⟨e,n,ne,nf,d⟩:=I.pin p hp;exact⟨(hs.2 p.1 ne).trans e,n,ne,nf,d⟩
 .have hfn:X.fn x=true:=by
   rcases hf with z|z
   .exact z
   .rw [z]at hk;cases hk
  obtain⟨c,hc⟩:=I.ok.has x (.inl hk);obtain⟨w',z⟩:=I.cell x c hc;refine wpAny_storeName_cell I.ok.kind hk hc z (λh' hc' hs=>?_);obtain⟨oc,hoc,Mb⟩:=id z;refine h { s with heap:=h' } ⟨I.ok,I.os,I.bare,⟨λb o e n hb hx=>?_,λb o e n hb hx=>?_,I.base.free,λb o e hx=>?_,I.base.tups,I.base.jM,I.base.j0⟩,⟨m,hn.sameBut hs (ac5 (yo x c hc)),λj y v' e1 e2 e3=>?_⟩,λy c' e=>?_,I.free,I.dD,λp hp=>?_,tracked ⟨oc,hoc,I.dD x c hc⟩ hs,by simpa using I.len⟩ ⟨c,hs,.inr hc⟩
  .exact (hs.2 b (ar8 (aJC (aYz e) (I.ok.Hl x c hfn hc)))).trans (I.base.keep b o e n hb hx)
  .obtain ⟨sl,e1⟩:=I.base.slot b o e n hb hx;exact⟨sl,(hs.2 b (ar8 (aJC (aYz e) (I.ok.Hl x c hfn hc)))).trans e1⟩
  .obtain ⟨o',e1⟩:=I.base.there b o e hx;exact⟨o',(hs.2 b (ar8 (aJC (aYz e) (I.ok.Hl x c hfn hc)))).trans e1⟩
  .by_cases hj:j=i
   .subst hj;rw[hi]at e1;cases e1;rw[ac8 Gz]at e2;cases e2;exact⟨u,r,.inr ⟨.inl hk,c,hc,hc'⟩⟩
   .rw [aTx (ac5 hj)]at e2;obtain⟨u',r',q⟩:=hl j y v' e1 e2 e3;refine⟨u',r',?_⟩;rcases q with q|⟨k,c',e,z'⟩
    .exact .inl q
    .refine .inr ⟨k,c',e,z'.sameBut hs ?_⟩;rintro rfl;exact hj (RU hN e1 (I.ok.inj _ _ _ e hc ▸hi))
  .by_cases hcc:c'=c
   .subst hcc;exact⟨_,hc'⟩
   .obtain ⟨w2,z2⟩:=I.cell y c' e;exact⟨w2,z2.sameBut hs hcc⟩
  .obtain ⟨e,n,ne,nf,d⟩:=I.pin p hp;refine⟨(hs.2 p.1 ?_).trans e,n,ne,nf,d⟩;intro q;rw[q,hoc]at e;have q':oc=p.2:=a9h e;exact d w' (by rw[<-q'];exact Mb)
theorem Ko{M:Model}{A:Around}{E:Value->Shared->Prop}{i:Nat}{x:Str}{v:V}{u:Value}{Q:Unit->Shared->Prop}(I:Inv X pins σ H s)(hN:X.N.Nodup)(hi:X.N[i]?=some x)(hx:Loc X.env.scope x)(r:RelV v u)
  (h:∀s',Inv X pins (σ.set i (some v)) H s'->Q () s') (hf:X.fn x=true\/X.env.scope.names.lookup x=some .local:=by first|exact .inl rfl|exact .inr rfl|assumption):wpAny M A (storeName X.env x u) Q E s:=
 SI I hN hi hx r (λs' I' _=>h s' I') hf
theorem Inv.Hj{s':Shared}{ch:List Addr}(I:Inv X pins σ H s)(ho:s'.os=s.os)(u:Un (frs X.stack) ch H H' s.heap s'.heap)(hok:dW X.prog X.w H' s'.heap)(hg:AllBare s'.gens)
  (hch:∀b∈ch,(b∈X.ex\/X.s₀.heap.objs.size<=b)/\b≠X.env.locals/\(∀x c,X.env.cells.lookup x=some c->c≠b)/\∀p∈X.pn++pins,p.1≠b):Inv X pins σ H' s':=by
 obtain⟨h',g',d',t',o'⟩:=s';have e:o'=s.os:=ho;subst e;exact I.call (g':=g') (t':=t') (d':=d') u hok hg hch
end
abbrev XK:=Value->Option Addr->Hp->Prop
abbrev St:=List (Option V)
abbrev VK:=V->Hp->Prop
abbrev TE:=St->Hp->VK->Prop
abbrev TT:=St->Hp->(Bool->Hp->Prop)->Prop
abbrev TA:=St->Hp->(List V->Hp->Prop)->Prop
structure Ends where
 nx:St->Hp->Prop
 rt:VK
 bk:St->Hp->Prop:=λ_ _=>False
 ct:St->Hp->Prop:=λ_ _=>False
abbrev TS:=Ends->St->Hp->Prop
def EP(X:Cx)(pins:List (Addr×Obj))(σ:St)(Q:VK)(u:Value)(s':Shared):Prop:=∃v H',Inv X pins σ H' s'/\RelV v u/\Q v H'
def TP(X:Cx)(pins:List (Addr×Obj))(σ:St)(Q:Bool->Hp->Prop)(b:Bool)(s':Shared):Prop:=∃H',Inv X pins σ H' s'/\Q b H'
def AP(X:Cx)(pins:List (Addr×Obj))(σ:St)(Q:List V->Hp->Prop)(us:List Value)(s':Shared):Prop:=∃vs H',Inv X pins σ H' s'/\Vals vs us/\Q vs H'
def SP(X:Cx)(pins:List (Addr×Obj))(D:Ends)(f:Flow)(s':Shared):Prop:=
 match f with
 | .next=>∃ σ' H',Inv X pins σ' H' s'/\D.nx σ' H'
 | .brk=>∃ σ' H',Inv X pins σ' H' s'/\D.bk σ' H'
 | .cont=>∃ σ' H',Inv X pins σ' H' s'/\D.ct σ' H'
 | .ret u=>∃v σ' H',Inv X pins σ' H' s'/\RelV v u/\D.rt v H'
def PE(X:Cx)(e:Expr)(t:TE):Prop:=
 ∀(pins:List (Addr×Obj))(s:Shared)(σ:St)(H:Hp)(Q:VK),Inv X pins σ H s->t σ H Q->wpAny (model X.prog X.w) X.A (eval e X.env) (EP X pins σ Q) X.xe s
def PT(X:Cx)(e:Expr)(t:TT):Prop:=
 ∀(pins:List (Addr×Obj))(s:Shared)(σ:St)(H:Hp)(Q:Bool->Hp->Prop),Inv X pins σ H s->t σ H Q->wpAny (model X.prog X.w) X.A (isTrue e X.env (eval e X.env)) (TP X pins σ Q) X.xe s
def PW(X:Cx)(e:Expr)(t:TT):Prop:=
 ∀(whole:Sem Value)(pins:List (Addr×Obj))(s:Shared)(σ:St)(H:Hp)(Q:Bool->Hp->Prop),Inv X pins σ H s->t σ H Q->wpAny (model X.prog X.w) X.A (isTrue e X.env whole) (TP X pins σ Q) X.xe s
theorem PW.pt{X:Cx}{e:Expr}{t:TT}(h:PW X e t):PT X e t:=h _
def PA(X:Cx)(es:List Expr)(t:TA):Prop:=
 ∀(pos:Pos)(pins:List (Addr×Obj))(s:Shared)(σ:St)(H:Hp)(Q:List V->Hp->Prop),Inv X pins σ H s->t σ H Q->wpAny (model X.prog X.w) X.A (spliced (backTo pos (starEach es X.env))) (AP X pins σ Q) X.xe s
def PS(X:Cx)(st:Stmt)(t:TS):Prop:=
 ∀(pins:List (Addr×Obj))(s:Shared)(σ:St)(H:Hp)(D:Ends),Inv X pins σ H s->t D σ H->wpAny (model X.prog X.w) X.A (exec st X.env) (SP X pins D) X.xe s
def uM(X:Cx)(st:List Stmt)(t:TS):Prop:=
 ∀(pins:List (Addr×Obj))(s:Shared)(σ:St)(H:Hp)(D:Ends),Inv X pins σ H s->t D σ H->wpAny (model X.prog X.w) X.A (execs st X.env) (SP X pins D) X.xe s
theorem bZ{α:Type}{t:Sem α}{Q Q':α->Shared->Prop}{M:Model}{A:Around}{E:Value->Shared->Prop}{s:Shared}(h:wpAny M A t Q E s)(hQ:∀a s,Q a s->Q' a s):wpAny M A t Q' E s:=a4X h hQ λ_ _ x=>x
theorem fB{t:Sem Value}{Q:VK}{Q':Value ->Shared ->Prop}{M:Model}{A:Around}{E:Value ->Shared ->Prop}{s:Shared}{X:Cx}{pins:List (Addr ×Obj)}{σ:St}(h:wpAny M A t (EP X pins σ Q) E s)(k: ∀v s x H,Inv X pins σ H s ->RelV x v ->Q x H ->Q' v s):wpAny M A t Q' E s:=a4X h (λv s z=>by obtain⟨x,H,i,r,q⟩:=z;exact k v s x H i r q) λ_ _ x=>x
theorem sy{t:Sem (List Value)}{Q:List V ->Hp ->Prop}{Q':List Value ->Shared ->Prop}{M:Model}{A:Around}{E:Value ->Shared ->Prop}{s:Shared}{X:Cx}{pins:List (Addr ×Obj)}{σ:St}(h:wpAny M A t (AP X pins σ Q) E s)(k: ∀v s x H,Inv X pins σ H s ->Vals x v ->Q x H ->Q' v s):wpAny M A t Q' E s:=a4X h (λv s z=>by obtain⟨x,H,i,r,q⟩:=z;exact k v s x H i r q) λ_ _ x=>x
section
variable{X:Cx}
def EI(i:Nat):TE:=λσ H Q=>∃v,σ[i]?=some (some v)/\Q v H
def tC(v:V):TE:=λ_ H Q=>Q v H
theorem Z2{i:Nat}{x:Str}{pos:Pos}(hN:X.N[i]?=some x)(hv:HV X.env.scope x)(hd:(x ==("__debug__":Str))=false:=by decide)(hcd:(x ==("__classdict__":Str))=false:=by decide):PE X (.Name x pos) (EI i):=by
 intro pins s σ H Q I h;obtain⟨v,e,h⟩:=h;obtain⟨m,hn,hl⟩:=I.loc;obtain⟨u,r,l⟩:=hl i x v hN e hv;have fin:EP X pins σ Q u s:=⟨v,H,I,r,h⟩;rcases l with⟨hk,hm⟩|⟨hk,c,hc,hcell⟩
 .exact wpAny_Name (wpAny_loadName_local I.ok.kind hk hn hm fin) hd
 .rcases hk with hk|hk
  .exact wpAny_Name (wpAny_loadName_cell I.ok.kind hk hc hcell fin) hd
  .exact wpAny_Name (wpAny_loadName_free I.ok.kind hk hc hcell fin hcd) hd
theorem Zi{i j pos}:PE X (.Constant (.int i) j pos) (tC (.int i)):=λ_ _ _ H _ I h=>wpAny_Constant_int ⟨.int i,H,I.tok _,⟨_,rfl⟩,h⟩
theorem gb{b j pos}:PE X (.Constant (.bool b) j pos) (tC (.bl b)):=λ_ _ _ H _ I h=>Constant_bool ⟨.bl b,H,I,rfl,h⟩
theorem Qu{j pos}:PE X (.Constant .none j pos) (tC .aS):=λ_ _ _ H _ I h=>Constant_none ⟨.aS,H,I,rfl,h⟩
theorem ZX{x j pos}:PE X (.Constant (.str x) j pos) (tC (.str x)):=λ_ _ _ H _ I h=>Calls.Constant_str ⟨.str x,H,I.tok _,⟨_,rfl⟩,h⟩
def Gl(X:Cx)(x:Str):Prop:=X.env.kindOf x=some .globalImplicit
theorem J5{E:Value->Shared->Prop}{pins:List (Addr×Obj)}{s:Shared}{σ:St}{H:Hp}{x:Str}{u:Value}{pos:Pos}{Q:Value->Shared->Prop}(I:Inv X pins σ H s)(hg:Gl X x)(hm:X.mg x=some u)(h:Q u s)
  (hd:(x ==("__debug__":Str))=false:=by decide):wpAny (model X.prog X.w) X.A (eval (.Name x pos) X.env) Q E s:=
 Calls.Name_function_global I.ok.kind hg (Calls.loadGlobal_global (by rw[I.ok.glob];exact I.mod.glob.keeps I.bk) hm h) hd
theorem yv{E:Value->Shared->Prop}{pins:List (Addr×Obj)}{s:Shared}{σ:St}{H:Hp}{x:Str}{u:Value}{pos:Pos}{Q:Value->Shared->Prop}(I:Inv X pins σ H s)(hg:Gl X x)(hm:X.mg x=none)(hv:bootBuiltins x=some u)(h:Q u s)
  (hn:x ≠ "__name__":=by decide) (hd:(x ==("__debug__":Str))=false:=by decide):wpAny (model X.prog X.w) X.A (eval (.Name x pos) X.env) Q E s:=by
 obtain⟨mb,h1,h2⟩:=I.mod.blt;exact Calls.Name_function_global I.ok.kind hg (Calls.loadGlobal_builtin (by rw[I.ok.glob];exact I.mod.glob.keeps I.bk) hm (by rw[I.ok.blt];exact h1.keeps I.bk) ((h2 x hn).trans hv) h) hd
theorem RJ{x:Str}{v:V}{u:Value}{pos:Pos}(hg:Gl X x)(hm:X.mg x=some u)(r:RelV v u)(hd:(x ==("__debug__":Str))=false:=by decide):PE X (.Name x pos) (tC v):=
 λ_ _ _ H _ I h=>J5 I hg hm ⟨v,H,I,r,h⟩ hd
theorem vn{x:Str}{v:V}{u:Value}{pos:Pos}(hg:Gl X x)(hm:X.mg x=none)(hv:bootBuiltins x=some u)(r:RelV v u)(hn:x ≠ "__name__":=by decide)(hd:(x ==("__debug__":Str))=false:=by decide):PE X (.Name x pos) (tC v):=
 λ_ _ _ H _ I h=>yv I hg hm hv ⟨v,H,I,r,h⟩ hn hd
variable{a b:Expr}{ta tb:TE}{pos:Pos}
def PC(X:Cx)(op:CmpOp)(a b:Expr)(t:TE):Prop:=
 ∀(pins:List (Addr×Obj))(s:Shared)(σ:St)(H:Hp)(Q:VK),Inv X pins σ H s->t σ H Q ->
  wpAny (model X.prog X.w) X.A (eval a X.env) (λv s₁=>wpAny (model X.prog X.w) X.A (eval b X.env) (λu s₂=>wpAny (model X.prog X.w) X.A (compareOp op v u) (EP X pins σ Q) X.xe s₂) X.xe s₁) X.xe s
theorem RT(b:Expr){op:CmpOp}(h:op≠.In)(h2:op≠.NotIn):behindInMarks op b=false:=by
 have e1:(op ==CmpOp.In)=false:=by cases op <;> first|rfl|exact absurd rfl h
 have e2:(op ==CmpOp.NotIn)=false:=by cases op <;> first|rfl|exact absurd rfl h2
 cases b <;> simp[behindInMarks,e1,e2]
def KY(ta:TE):TE:=λσ H Q=>ta σ H λx H1=>Q (.bl (decide (x=.aS))) H1
def EL(ta:TE):TE:=λσ H Q=>ta σ H λx H1=>Q (.bl (!decide (x=.aS))) H1
theorem RelV.qj{x:V}{v:Value}(r:RelV x v):(v ==Value.none)=decide (x=.aS):=by
 cases x with
 |aS=>cases r;rfl
 |bl _=>cases r;rfl
 |int _=>obtain⟨t,rfl⟩:=r;rfl
 |str _=>obtain⟨t,rfl⟩:=r;rfl
 |uG _=>obtain⟨t,rfl⟩:=r;rfl
 |zF _=>obtain⟨t,rfl⟩:=r;rfl
 |ref _=>cases r;rfl
 |ty _=>cases r;rfl
theorem Yk{j pos'}(ha:PE X a ta):PC X .Is a (.Constant .none j pos') (KY ta):=by
 intro pins s σ H Q I h;refine fB (ha pins s σ H _ I h) λv s1 x H1 I1 r1 q1=>?_;exact Constant_none (is_none_gen ⟨.bl _,H1,I1,by rw[r1.qj];rfl,q1⟩)
theorem Nl{j pos'}(ha:PE X a ta):PC X .IsNot a (.Constant .none j pos') (EL ta):=by
 intro pins s σ H Q I h;refine fB (ha pins s σ H _ I h) λv s1 x H1 I1 r1 q1=>?_;exact Constant_none (isnot_none_gen ⟨.bl _,H1,I1,by rw[r1.qj];rfl,q1⟩)
def tB(t:TE):TT:=λσ H Q=>t σ H λx H1=>∃c,x=.bl c/\Q c H1
theorem Qt{op:CmpOp}{t:TE}(h:PC X op a b t)(h1:behindInMarks op b=false:=by first|exact RT _ (by decide) (by decide)|rfl):PE X (.Compare a [op] [b] pos) t:=λpins s σ H Q I hw=>wpAny_Compare1 (h pins s σ H Q I hw) h1
theorem JI{op:CmpOp}{t:TE}(h:PC X op a b t)(h1:behindInMarks op b=false:=by first|exact RT _ (by decide) (by decide)|rfl):PT X (.Compare a [op] [b] pos) (tB t):=by
 intro pins s σ H Q I hw;refine wpAny_isTrue_Compare1 (bZ (h pins s σ H _ I hw) λv s1 h1=>bZ h1 λu s2 h2=>bZ h2 λc s3 ⟨x,H1,I1,r1,q1⟩=>?_) h1;obtain⟨d,rfl,q⟩:=q1;cases r1;exact aVv ⟨H1,I1,q⟩
theorem ZC{e:Expr}{t:TE}(h:PE X e t)(he:∀whole,isTrue e X.env whole=(do let v <-whole;standAt e.pos;holding [v] (truthy v)):=by intro _;rfl):PT X e (tB t):=by
 intro pins s σ H Q I hw;refine isTrue_plain (fB (h pins s σ H _ I hw) λv s1 x H1 I1 r1 q1=>?_) (he _);obtain⟨d,rfl,q⟩:=q1;cases r1;exact aVv ⟨H1,I1,q⟩
variable{tA IK:TT}{rest:List Expr}
def K2(t u:TT):TT:=λσ H Q=>t σ H λc H1=>if c=true then u σ H1 Q else Q false H1
def Og(t u:TT):TT:=λσ H Q=>t σ H λc H1=>if c=true then Q true H1 else u σ H1 Q
def KU(t:TT):TT:=λσ H Q=>t σ H λc H1=>Q (!c) H1
theorem RH(ha:PT X a tA):PW X (.BoolOp .And [a] pos) tA:=by
 intro wh pins s σ H Q I h;refine isTrue_and (bZ (ha pins s σ H Q I h) λc s1 e=>?_);cases c with
 |true=>exact isTrue_and_nil e
 |false=>exact e
theorem DZ(ha:PT X a tA):PW X (.BoolOp .Or [a] pos) tA:=by
 intro wh pins s σ H Q I h;refine isTrue_or (bZ (ha pins s σ H Q I h) λc s1 e=>?_);cases c with
 |false=>exact isTrue_or_nil e
 |true=>exact e
theorem Qs(ha:PT X a tA)(hb:PW X (.BoolOp .And (b ::rest) pos) IK):PW X (.BoolOp .And (a ::b ::rest) pos) (K2 tA IK):=by
 intro wh pins s σ H Q I h;refine isTrue_and (bZ (ha pins s σ H _ I h) λc s1 ⟨H1,I1,q1⟩=>?_);cases c with
 |true=>exact hb wh pins s1 σ H1 Q I1 q1
 |false=>exact⟨H1,I1,q1⟩
theorem pw_or(ha:PT X a tA)(hb:PW X (.BoolOp .Or (b ::rest) pos) IK):PW X (.BoolOp .Or (a ::b ::rest) pos) (Og tA IK):=by
 intro wh pins s σ H Q I h;refine isTrue_or (bZ (ha pins s σ H _ I h) λc s1 ⟨H1,I1,q1⟩=>?_);cases c with
 |true=>exact⟨H1,I1,q1⟩
 |false=>exact hb wh pins s1 σ H1 Q I1 q1
theorem zR(ha:PT X a tA):PT X (.UnaryOp .Not a pos) (KU tA):=by
 intro pins s σ H Q I h;exact isTrue_not (ha pins s σ H (λc H1=>Q (!c) H1) I h)
def ES(ta tb:TE):TE:=λσ H Q=>ta σ H λx H1=>∃c,x=.bl c/\if c=true then tb σ H1 Q else Q (.bl false) H1
theorem M5{op}{t:TE}(h:PE X a t):PE X (.BoolOp op [a] pos) t:=λpins s σ H Q I hw=>BoolOp_one (h pins s σ H Q I hw)
theorem JH(ha:PE X a ta)(hb:PE X (.BoolOp .And (b ::rest) pos) tb):PE X (.BoolOp .And (a ::b ::rest) pos) (ES ta tb):=by
 intro pins s σ H Q I h;refine BoolOp_and (fB (ha pins s σ H _ I h) λv s1 x H1 I1 r1 q1=>?_);obtain⟨c,rfl,q1⟩:=q1;cases r1;refine aVv ?_;cases c with
 |true=>exact hb pins s1 σ H1 Q I1 q1
 |false=>exact⟨.bl false,H1,I1,rfl,q1⟩
def U8(t:TT)(ta tb:TE):TE:=λσ H Q=>t σ H λc H1=>if c=true then ta σ H1 Q else tb σ H1 Q
theorem CV{c:Expr}(hc:PT X c tA)(ha:PE X a ta)(hb:PE X b tb):PE X (.IfExp c a b pos) (U8 tA ta tb):=by
 intro pins s σ H Q I h;refine wpAny_IfExp (bZ (hc pins s σ H _ I h) λd s1 ⟨H1,I1,q1⟩=>?_);cases d with
 |true=>exact ha pins s1 σ H1 Q I1 q1
 |false=>exact hb pins s1 σ H1 Q I1 q1
end
def az(K:W.Frag)(H:Hp)(a:Addr)(xs:List V):Prop:=
 Rd H a (.lst xs) \/
  ∃(o:Obj)(its:Array Value)(n:Nat),K.lookup a=some o/\o.cls=.type "list" /\o.dict=none/\o.data=.seq its n/\its.size<=sizeLine/\Vals xs its.toList
def aU(K:W.Frag)(H:Hp)(a:Addr)(xs:List V):Prop:=
 Rd H a (.tup xs) \/
  ∃(o:Obj)(its:Array Value)(n:Nat),K.lookup a=some o/\o.cls=.type "tuple" /\o.data=.seq its n/\its.size<=sizeLine/\Vals xs its.toList
def MO:Value->Option V
 | .none=>some .aS
 | .bool b=>some (.bl b)
 | .int i _=>some (.int i)
 | .str x _=>some (.str x)
 | .bytes b _=>some (.uG b)
 | .float b _=>some (.zF b)
 | .ref a=>some (.ref a)
 | .type n=>some (.ty n)
 |_=>none
theorem RelV.abs{x:V}{u:Value}(r:RelV x u):MO u=some x:=by
 cases x with
 |aS=>cases r;rfl
 |bl _=>cases r;rfl
 |int _=>obtain⟨t,rfl⟩:=r;rfl
 |str _=>obtain⟨t,rfl⟩:=r;rfl
 |uG _=>obtain⟨t,rfl⟩:=r;rfl
 |zF _=>obtain⟨t,rfl⟩:=r;rfl
 |ref _=>cases r;rfl
 |ty _=>cases r;rfl
theorem RelV.inj{x y:V}{u:Value}(r:RelV x u)(q:RelV y u):x=y:=a9h (r.abs.symm.trans q.abs)
theorem Vals.inj:∀{xs ys:List V}{us:List Value},Vals xs us->Vals ys us->xs=ys
 |_,_,_,.nil,.nil=>rfl
 |_,_,_,.cons r t,.cons r' t'=>by rw[r.inj r',Vals.inj t t']
section
variable{X:Cx}{pins:List (Addr×Obj)}{σ:St}{H:Hp}{s:Shared}{a:Addr}{xs ys:List V}
theorem az.of{K:W.Frag}(h:H a=some (.lst xs)):az K H a xs:=.inl (.inl h)
theorem aU.of{K:W.Frag}(h:H a=some (.tup xs)):aU K H a xs:=.inl (.inl h)
theorem Inv.list(I:Inv X pins σ H s)(h:az X.K H a xs):∃its:List Value,Vals xs its/\PlainL s.heap a its.toArray/\xs.length<=sizeLine:=by
 rcases h with h|⟨o,its,n,hk,hc,hd,hs,hz,r⟩
 .obtain ⟨z,its,n,r,e⟩:=h.ok I.hok;exact⟨its,r,⟨_,n,e,rfl,rfl,rfl⟩,z⟩
 .refine ⟨its.toList,r,⟨o,n,I.dI a o hk,hc,hd,by simpa using hs⟩,?_⟩;have e:=r.length;simp only[ak9]at e;lia
theorem Inv.tuple(I:Inv X pins σ H s)(h:aU X.K H a xs):∃its:List Value,Vals xs its/\IsTup s.heap a its.toArray/\xs.length<=sizeLine:=by
 rcases h with h|⟨o,its,n,hk,hc,hs,hz,r⟩
 .obtain ⟨z,its,r,p⟩:=h.ok I.hok;exact⟨its,r,p,z⟩
 .refine ⟨its.toList,r,⟨o,I.dI a o hk,hc,n,by simpa using hs⟩,?_⟩;have e:=r.length;simp only[ak9]at e;lia
theorem Inv.eX(I:Inv X pins σ H s)(h:az X.K H a xs)(h':az X.K H a ys):xs=ys:=by
 obtain⟨its,r,⟨o,n,e,_,_,d⟩,_⟩:=I.list h;obtain⟨its',r',⟨o',n',e',_,_,d'⟩,_⟩:=I.list h';rw[e]at e';cases e';rw[d]at d';injection d' with d1 _
 have:its=its':=by simpa using azy Array.toList d1
 subst this;exact r.inj r'
theorem Inv.fh(I:Inv X pins σ H s)(h:aU X.K H a xs)(h':aU X.K H a ys):xs=ys:=by
 obtain⟨its,r,⟨o,e,_,n,d⟩,_⟩:=I.tuple h;obtain⟨its',r',⟨o',e',_,n',d'⟩,_⟩:=I.tuple h';rw[e]at e';cases e';rw[d]at d';injection d' with d1 _
 have:its=its':=by simpa using azy Array.toList d1
 subst this;exact r.inj r'
end
abbrev Cx.lG(X:Cx)(E:Value->Shared->Prop):Cx:={ X with xe:=E }
abbrev Cx.Cd(X:Cx):Cx:=X.lG λ_ _=>False
theorem Cx.Ok.lG{X:Cx}(ok:X.Ok)(E:Value->Shared->Prop):(X.lG E).Ok:=
 ⟨ok.mod,ok.kind,ok.glob,ok.blt,ok.above,ok.inj,ok.has,ok.Hl,ok.hd,ok.frames,ok.stk,ok.Jy,ok.bs,ok.yp,ok.wU,ok.xH,ok.jL,ok.CA⟩
theorem Cx.Ok.dX{X:Cx}{E:Value->Shared->Prop}(ok:(X.lG E).Ok):X.Ok:=
 ⟨ok.mod,ok.kind,ok.glob,ok.blt,ok.above,ok.inj,ok.has,ok.Hl,ok.hd,ok.frames,ok.stk,ok.Jy,ok.bs,ok.yp,ok.wU,ok.xH,ok.jL,ok.CA⟩
section
variable{X:Cx}{pins:List (Addr×Obj)}{σ:St}{H:Hp}{s:Shared}{E:Value->Shared->Prop}
theorem Inv.lG(I:Inv X pins σ H s)(E:Value->Shared->Prop):Inv (X.lG E) pins σ H s:=⟨I.ok.lG E,I.os,I.bare,I.base,I.loc,I.cell,I.free,I.dD,I.pin,I.hok,I.len⟩
theorem Inv.dX(I:Inv (X.lG E) pins σ H s):Inv X pins σ H s:=⟨I.ok.dX,I.os,I.bare,I.base,I.loc,I.cell,I.free,I.dD,I.pin,I.hok,I.len⟩
theorem SP.dX{D:Ends}{f:Flow}{s':Shared}(h:SP (X.lG E) pins D f s'):SP X pins D f s':=by
 cases f with
 |next=>obtain⟨σ',H',I,q⟩:=h;exact⟨σ',H',I.dX,q⟩
 |brk=>obtain⟨σ',H',I,q⟩:=h;exact⟨σ',H',I.dX,q⟩
 |cont=>obtain⟨σ',H',I,q⟩:=h;exact⟨σ',H',I.dX,q⟩
 |ret u=>obtain⟨v,σ',H',I,r,q⟩:=h;exact⟨v,σ',H',I.dX,r,q⟩
theorem uM.Cd{st:List Stmt}{t:TS}(h:uM X.Cd st t):uM X st t:=λpins s σ H D I hw=>
 a4X (h pins s σ H D (I.lG _) hw) (λ_ _ q=>q.dX) λ_ _ z=>False.elim z
end
section
variable{X:Cx}{st:Stmt}{rest:List Stmt}{t u:TS}{e:Expr}{te:TE}{pos:Pos}
def gE:TS:=λD σ H=>D.nx σ H
def vF(t u:TS):TS:=λD σ H=>t { D with nx:=u D } σ H
theorem Zt:uM X [] gE:=λ_ _ σ H _ I h=>wpAny_execs_nil ⟨σ,H,I,h⟩
theorem Zd(h1:PS X st t)(h2:uM X rest u):uM X (st ::rest) (vF t u):=by
 intro pins s σ H D I h;refine wpAny_execs_cons (bZ (h1 pins s σ H { D with nx:=u D } I h) λf s1 q=>?_);cases f with
 |next=>
  obtain⟨σ',H',I',q⟩:=q;exact h2 pins s1 σ' H' D I' q
 |ret v=>exact q
 |brk=>exact q
 |cont=>exact q
theorem Zh(h1:PS X st t):uM X [st] t:=by
 intro pins s σ H D I h;refine wpAny_execs_cons (bZ (h1 pins s σ H D I h) λf s1 q=>?_);cases f with
 |next=>exact wpAny_execs_nil q
 |ret v=>exact q
 |brk=>exact q
 |cont=>exact q
theorem Inv.quiet{pins:List (Addr×Obj)}{σ:St}{H:Hp}{s:Shared}(I:Inv X pins σ H s):interactive X.env=false:=by simp[interactive,I.ok.kind]
def EO(te:TE):TS:=λD σ H=>te σ H λ_ H1=>D.nx σ H1
theorem Zo(he:PE X e te)(hs:swapsWith e none pos.line X.env=pure false:=by rfl):PS X (.Expr e pos) (EO te):=by
 intro pins s σ H D I h;exact wpAny_Expr_any (fB (he pins s σ H _ I h) λv s1 x H1 I1 r1 q1=>⟨σ,H1,I1,q1⟩) I.quiet hs
def KR(te:TE):TS:=λD σ H=>te σ H D.rt
theorem Zs(he:PE X e te):PS X (.Return (some e) pos) (KR te):=by
 intro pins s σ H D I h;exact wpAny_Return_some (fB (he pins s σ H _ I h) λv s1 x H1 I1 r1 q1=>⟨x,σ,H1,I1,r1,q1⟩)
def EJ:TS:=λD _ H=>D.rt .aS H
theorem RG:PS X (.Return none pos) EJ:=λ_ _ σ H _ I h=>wpAny_Return_none ⟨.aS,σ,H,I,rfl,h⟩
def EM(c:TT)(t u:TS):TS:=λD σ H=>c σ H λb H1=>if b=true then t D σ H1 else u D σ H1
theorem aI{c:Expr}{a b:List Stmt}{tc:TT}(hc:PT X c tc)(ha:uM X a t)(hb:uM X b u):PS X (.If c a b pos) (EM tc t u):=by
 intro pins s σ H D I h;refine wpAny_If (bZ (hc pins s σ H _ I h) λd s1 ⟨H1,I1,q1⟩=>?_);cases d with
 |true=>exact ha pins s1 σ H1 D I1 q1
 |false=>exact hb pins s1 σ H1 D I1 q1
end
abbrev TG:=V->St->Hp->(St->Hp->Prop)->Prop
abbrev Br:=List V->St->Hp->(St->Hp->Prop)->Prop
def PG(X:Cx)(target:Expr)(t:TG):Prop:=
 ∀(pins:List (Addr×Obj))(s:Shared)(σ:St)(H:Hp)(v:V)(u:Value)(Q:St->Hp->Prop),Inv X pins σ H s->RelV v u->t v σ H Q ->
  wpAny (model X.prog X.w) X.A (assign target X.env u) (λ_ s'=>∃ σ' H',Inv X pins σ' H' s'/\Q σ' H') X.xe s
def Ic(X:Cx)(ts:List Expr)(t:Br):Prop:=
 ∀(pins:List (Addr×Obj))(s:Shared)(σ:St)(H:Hp)(vs:List V)(us:List Value)(Q:St->Hp->Prop),Inv X pins σ H s->Vals vs us->t vs σ H Q ->
  wpAny (model X.prog X.w) X.A (assignInOrder ((assignEach ts X.env).map (·.2)) us) (λ_ s'=>∃ σ' H',Inv X pins σ' H' s'/\Q σ' H') X.xe s
abbrev C5:=V->V->V->Hp->(Hp->Prop)->Prop
def Ib(X:Cx)(t:C5):Prop:=
 ∀(pins:List (Addr×Obj))(s:Shared)(σ:St)(H:Hp)(o i v:V)(ov iv u:Value)(Q:Hp->Prop),Inv X pins σ H s->RelV o ov->RelV i iv->RelV v u->t o i v H Q ->
  wpAny (model X.prog X.w) X.A (setItem ov iv u) (λ_ s'=>∃H',Inv X pins σ H' s'/\Q H') X.xe s
section
variable{X:Cx}{pos:Pos}
def eY(i:Nat):TG:=λv σ H Q=>Q (σ.set i (some v)) H
theorem ZiV{i:Nat}{x:Str}(hN:X.N.Nodup)(hi:X.N[i]?=some x)(hx:Loc X.env.scope x)(hf:X.fn x=true\/X.env.scope.names.lookup x=some .local:=by first|exact .inl rfl|exact .inr rfl|assumption):PG X (.Name x pos) (eY i):=by
 intro pins s σ H v u Q I r h;exact wpAny_assign_Name (Ko I hN hi hx r (λs' I'=>⟨_,H,I',h⟩) hf)
def Mr:Br:=λvs σ H Q=>vs=[]/\Q σ H
def GJ(t:TG)(u:Br):Br:=λvs σ H Q=>∃v r,vs=v ::r/\t v σ H λσ' H'=>u r σ' H' Q
theorem ZO:Ic X [] Mr:=by
 intro pins s σ H vs us Q I r h;obtain⟨e,h⟩:=h;subst e;cases r;exact assignInOrder_nil ⟨σ,H,I,h⟩
theorem Zq{e:Expr}{es:List Expr}{t:TG}{u:Br}(h1:PG X e t)(h2:Ic X es u)
  (hs:(assignEach (e ::es) X.env).map (·.2)=assign e X.env ::(assignEach es X.env).map (·.2):=by rfl):Ic X (e ::es) (GJ t u):=by
 intro pins s σ H vs us Q I r h;obtain⟨v,vr,e1,h⟩:=h;subst e1;cases r with
 |cons r rr=>
  rw[hs];refine assignInOrder_cons (bZ (h1 pins s σ H _ _ _ I r h) λ_ s1 ⟨σ1,H1,I1,q1⟩=>?_);exact h2 pins s1 σ1 H1 _ _ Q I1 rr q1
def GI(K:W.Frag)(n:Nat)(t:Br):TG:=λv σ H Q=>∃a xs,v=.ref a/\aU K H a xs/\xs.length=n/\t xs σ H Q
theorem Yj{es:List Expr}{k:Nat}{t:Br}{n:Nat}(hc:X.calm=true)(h:Ic X es t)
  (hn:(assignEach es X.env).length=n:=by rfl) (hst:(assignEach es X.env).findIdx? (·.1)=none:=by rfl):PG X (.Tuple es k pos) (GI X.K n t):=by
 intro pins s σ H v u Q I r hw;obtain⟨a,xs,e1,hq,hl,hw⟩:=hw;subst e1;cases r;obtain⟨its,rv,ht,hz⟩:=I.tuple hq;refine assign_Tuple_tuple (I.ok.hd hc) ht (by simp[hn,<-hl,rv.length]) hst λh' hx=>?_;have I1:Inv X pins σ H { s with heap:=h' }:=I.kept (t':=s.toks) λb o e=>hx b o (ar8 (aYz e)) e;exact h pins _ σ H xs _ Q I1 (by simpa using rv) hw
def Mq(to ti:TE)(t:C5):TG:=λv σ H Q=>to σ H λo H1=>ti σ H1 λi H2=>t o i v H2 λH3=>Q σ H3
theorem CT{o i:Expr}{to ti:TE}{t:C5}(ho:PE X o to)(hi:PE X i ti)(hs:Ib X t)
  (ha:∀v,assign (.Subscript o i pos) X.env v=(do
   let ov <-holding [v] (eval o X.env)
   let iv <-holding [v,ov] (eval i X.env)
   standAt pos
   holding [v,ov,iv] (setItem ov iv v)
   release [v,ov,iv] []):=by intro _;rfl):PG X (.Subscript o i pos) (Mq to ti t):=by
 intro pins s σ H v u Q I r h;rw[ha];refine asu (aaC (fB (ho pins s σ H _ I h) λov s1 x H1 I1 r1 q1=>?_));refine asu (aaC (fB (hi pins s1 σ H1 _ I1 q1) λiv s2 y H2 I2 r2 q2=>?_));refine asu (aiR (asu (aaC (bZ (hs pins s2 σ H2 x y v ov iv u _ I2 r1 r2 r q2) λ_ s3 ⟨H3,I3,q3⟩=>?_))));exact wpAny_release ⟨σ,H3,I3,q3⟩
def ur(te:TE)(g:TG):TS:=λD σ H=>te σ H λx H1=>g x σ H1 D.nx
theorem qV{tg e:Expr}{te:TE}{g:TG}(he:PE X e te)(hg:PG X tg g)(hs:swapsWithSole [tg] e pos.line X.env=pure false:=by rfl)(hw:swappedStores [tg] e X.env=pure none:=by rfl)
  (h1:(assignEach [tg] X.env).map (·.2)=[assign tg X.env]:=by rfl):PS X (.Assign [tg] e pos) (ur te g):=by
 intro pins s σ H D I h;refine wpAny_Assign_stores (fB (he pins s σ H _ I h) λv s1 x H1 I1 r1 q1=>?_) hs hw;rw[h1];exact bZ (hg pins s1 σ H1 x v _ I1 r1 q1) λ_ s2 q=>q
theorem Yi{i:Nat}{x:Str}{e:Expr}{te:TE}{pos':Pos}(hN:X.N.Nodup)(hi:X.N[i]?=some x)(hx:Loc X.env.scope x)(he:PE X e te)(hs:swapsWith e (some (.Name x pos')) pos.line X.env=pure false:=by rfl)(hf:X.fn x=true\/X.env.scope.names.lookup x=some .local:=by first|exact .inl rfl|exact .inr rfl|assumption) :
  PS X (.Assign [.Name x pos'] e pos) (ur te (eY i)):=by
 intro pins s σ H D I h;refine wpAny_Assign_Name (fB (he pins s σ H _ I h) λv s1 y H1 I1 r1 q1=>?_) hs;exact Ko I1 hN hi hx r1 (λs2 I2=>⟨_,H1,I2,q1⟩) hf
def KS(i j:Nat)(ta:TA):TS:=λD σ H=>ta σ H λvs H1=>∃v w,vs=[v,w]/\D.nx ((σ.set i (some v)).set j (some w)) H1
theorem Qq{i j:Nat}{x y:Str}{a b:Expr}{ta:TA}{px py pt:Pos}{kt k2 Ll}(hc:X.calm=true)(hN:X.N.Nodup)(hi:X.N[i]?=some x)(hj:X.N[j]?=some y)(hij:i≠j)
  (hx:X.env.scope.names.lookup x=some .local) (hy:X.env.scope.names.lookup y=some .local) (ha:PA X [a,b] ta)
  (hw:swappedStores [.Tuple [.Name x px,.Name y py] kt pt] (.Tuple [a,b] k2 Ll) X.env=pure (some [x,y]))
  (hs:swapsWithSole [.Tuple [.Name x px,.Name y py] kt pt] (.Tuple [a,b] k2 Ll) pos.line X.env=pure false:=by rfl) :
  PS X (.Assign [.Tuple [.Name x px,.Name y py] kt pt] (.Tuple [a,b] k2 Ll) pos) (KS i j ta):=by
 intro pins s σ H D I h;rw[exec_Assign_arm];refine asu (aiR ?_);rw[hs];refine asu (aJq ?_);rw[afn (by decide)];refine asu (Tuple_ (sy (ha _ pins s σ H _ I h) λus s1 vs H1 I1 r1 q1=>?_));obtain⟨v,w,e1,q1⟩:=q1;subst e1;obtain⟨u1,u2,rfl,rv,rw'⟩:∃u1 u2,us=[u1,u2]/\RelV v u1/\RelV w u2:=by
  cases r1 with
  |cons p q=>
   cases q with
   |cons p' q'=>
    cases q';exact⟨_,_,rfl,p,p'⟩
 refine a6N ?_ (by show 2<=sizeLine;decide);have I2:Inv X pins σ H1 { s1 with heap:=s1.heap.push { cls:=.type "tuple",data:=.seq [u1,u2].toArray } }:=I1.kept (t':=s1.toks) λb o e=>a8r _ e;rw[hw];refine asu (aJq ?_);show wpAny (model X.prog X.w) X.A (do rule "assign.swapped-stores";let items <-unpackItems (.ref s1.heap.objs.size) 2 none;assignInOrder [λv=>bindName X.env y v,λv=>bindName X.env x v] items.reverse;pure Flow.next) _ _ _;refine asu (ajd (asu (unpackItems_tuple (items:=#[u1,u2]) (I.ok.hd hc) (IsTup.new s1.heap _) λh' hx'=>?_)));have I3:=I2.kept (h':=h') (t':=s1.toks) λb o e=>hx' b o (ar8 (aYz e)) e;show wpAny _ _ (assignInOrder [λv=>bindName X.env y v,λv=>bindName X.env x v] [u2,u1] >>= λ_=>pure Flow.next) _ _ _;refine asu (assignInOrder_cons (wpAny_bindName (Ko I3 hN hj (.inl hy) rw' (λs2 I4=>?_) (.inr hy))));refine assignInOrder_cons (wpAny_bindName (Ko I4 hN hi (.inl hx) rv (λs3 I5=>assignInOrder_nil (aJq ?_)) (.inr hx)));rw[List.set_comm _ _ (ac5 hij)]at I5;exact⟨_,H1,I5,q1⟩
end
structure It where
 go:Nat->Hp->Prop
 su:Nat->Hp->V->Hp->Prop
 stop:Nat->Hp->Prop
def jT(X:Cx)(pins:List (Addr×Obj))(H:Hp)(b:Addr):Prop:=
 H b=none/\b≠X.env.locals/\b∉X.fs/\(b∈X.ex\/X.s₀.heap.objs.size<=b)/\(∀x c,X.env.cells.lookup x=some c->c≠b)/\∀p∈X.pn++pins,p.1≠b
theorem Inv.rQ{X:Cx}{pins:List (Addr×Obj)}{σ:St}{H H':Hp}{s:Shared}{b:Addr}(I:Inv X pins σ H s)(hb:s.heap.objs.size<=b)(hn:H' b=none):jT X pins H' b:=by
 refine⟨hn,aVo (aJC I.lt hb),I.FI hb,.inr (a0n I.sz hb),λx c e z=>?_,λp hp z=>?_⟩
 .obtain ⟨v,q⟩:=I.cell x c e;exact absurd (aJC q.lt (by rw[z];exact hb)) (aiF _)
 .exact absurd (aJC (aYz (I.pin p hp).1) (by rw[z];exact hb)) (aiF _)
structure Turn(P:Program)(w:World)(K:W.Frag)(tg:Expr)(J:It)(fp:List Addr)(it:Addr)(tn:Nat->Heap->Prop):Prop where
 mem:it∈fp
 obj:∀i h,tn i h->∀b∈fp,∃o,h.get? b=some o/\∀v,o.data≠.cell v
 keep:∀i h h',tn i h->(∀b∈fp,∀o,h.get? b=some o->h'.get? b=some o)->tn i h'
 item:∀(X:Cx),X.prog=P->X.w=w->X.K=K->X.calm=true->∀(i:Nat)(pins:List (Addr×Obj))(s:Shared)(σ:St)(H:Hp)(E:Value->Shared->Prop),Inv X pins σ H s->(∀b∈fp,jT X pins H b)->tn i s.heap->J.go i H ->
  wpAny (model P w) X.A (pyNext (.ref it)) (λr s1=>∃u,r=some u /\
   wpAny (model P w) X.A (letOwnedTupleGo tg (.ref it) u) (λ_ s2=>∃x H',Inv X pins σ H' s2/\RelV x u/\J.su i H x H'/\tn (i+1) s2.heap/\∀b∈fp,H' b=none) E s1) E s
 done:∀(X:Cx),X.prog=P->X.w=w->X.K=K->X.calm=true->∀(i:Nat)(pins:List (Addr×Obj))(s:Shared)(σ:St)(H:Hp)(E:Value->Shared->Prop),Inv X pins σ H s->(∀b∈fp,jT X pins H b)->tn i s.heap->J.stop i H ->
  wpAny (model P w) X.A (pyNext (.ref it)) (λr s1=>r=none/\Inv X pins σ H s1) E s
 self:∀(A:Around)(i:Nat)(s:Shared)(Q:Value->Shared->Prop)(E:Value->Shared->Prop),tn i s.heap->Q (.ref it) s->wpAny (model P w) A (pyIter (.ref it)) Q E s
abbrev TI:=St->Hp->(It->Hp->Prop)->Prop
def Tn(X:Cx)(pins:List (Addr×Obj))(σ:St)(tg:Expr)(R:It->Hp->Prop)(itv:Value)(s2:Shared):Prop:=
 ∃(it:Addr)(fp:List Addr)(tn:Nat->Heap->Prop)(J:It)(H':Hp),itv=.ref it/\Inv X pins σ H' s2/\Turn X.prog X.w X.K tg J fp it tn/\tn 0 s2.heap/\(∀b∈fp,jT X pins H' b)/\R J H'
def PI(X:Cx)(tg iter:Expr)(wi:TI):Prop:=
 ∀(pins:List (Addr×Obj))(s:Shared)(σ:St)(H:Hp)(R:It->Hp->Prop),Inv X pins σ H s->wi σ H R ->
  wpAny (model X.prog X.w) X.A (eval iter X.env) (λv s1=>wpAny (model X.prog X.w) X.A (pyIter v) (Tn X pins σ tg R) X.xe s1) X.xe s
theorem xE{M:Model}{A:Around}{E:Value->Shared->Prop}{s:Shared}{tg:Expr}{it:Addr}{u:Value}{o:Obj}{n:String}{vs:Array Value}{Q:Unit->Shared->Prop}(ho:s.heap.get? it=some o)(hc:o.cls=.type n)(hd:o.data=.fields vs)
  (hn:["enumerate","zip","dict_itemiterator","dict_reverseitemiterator","odict_iterator","itertools.zip_longest","itertools.pairwise"].contains n=false) (hQ:Q () s):wpAny M A (letOwnedTupleGo tg (.ref it) u) Q E s:=by
 unfold letOwnedTupleGo;cases tg <;> first
  |exact aJq hQ
  | (cases u <;> first
    |exact aJq hQ
    | (refine asu (wpAny_load ho ?_)
       rw[hc,hd];show wpAny M A (if(["enumerate","zip","dict_itemiterator","dict_reverseitemiterator","odict_iterator","itertools.zip_longest","itertools.pairwise"].contains n && vs[0]? ==some (rawInt _))=true then _ else _) Q E s;rw[afn (by intro h;rw[hn,Bool.false_and]at h;cases h)];exact aJq hQ))
def BC(K:W.Frag)(a:Addr):It:=
 ⟨λi H=>∃xs x,az K H a xs/\xs[i]?=some x,λi H x H'=>H'=H/\∀xs,az K H a xs->xs[i]?=some x,λi H=>∃xs,az K H a xs/\xs.length<=i⟩
def BB(K:W.Frag)(a:Addr):It:=
 ⟨λi H=>∃xs x,aU K H a xs/\xs[i]?=some x,λi H x H'=>H'=H/\∀xs,aU K H a xs->xs[i]?=some x,λi H=>∃xs,aU K H a xs/\xs.length<=i⟩
def Ae(lo:Int)(n:Nat):It:=⟨λi _=>i<n,λi H x H'=>H'=H/\x=.int (lo+i),λi _=>n<=i⟩
theorem ZfN{P:Program}{w:World}{K:W.Frag}{tg:Expr}(a it:Addr):Turn P w K tg (BC K a) [it] it (λi h=>h.IsListIter it a i) where
 mem:=by simp
 obj:=λi h st b hb=>by
  have e:b=it:=by simpa using hb
  subst e;obtain⟨o,e,c,d⟩:=st;exact⟨o,e,λv z=>by rw[d]at z;cases z⟩
 keep:=λi h h' st k=>st.at λo e=>k it (by simp) o e
 item:=by
  intro X hP hw hK hc i pins s σ H E I hf st hg;subst hP hw hK;obtain⟨xs,x,hq,hx⟩:=hg;obtain⟨its,rv,p,hz⟩:=I.list hq;obtain⟨u,hu,ru⟩:=rv.get hx;obtain⟨f0,f1,f2,f3,f4,f5⟩:=hf it (by simp);refine wpAny_pyNext_list_item st p.isList (x:=u) (by simpa using hu) λh' st' sb=>?_;have I1:Inv X pins σ H { s with heap:=h' }:=I.turned (t':=s.toks) (λb o hb e=>(sb.2 b hb).trans e) f0 f1 f3 f4 f5;obtain⟨o,e,c,d⟩:=id st';exact⟨u,rfl,xE (s:={ s with heap:=h' }) e c d (by decide) ⟨x,H,I1,ru,⟨rfl,λys hy=>by rw[I.eX hy hq];exact hx⟩,st',λb hb=>(hf b hb).1⟩⟩
 done:=by
  intro X hP hw hK hc i pins s σ H E I hf st hg;subst hP hw hK;obtain⟨xs,hq,hx⟩:=hg;obtain⟨its,rv,p,hz⟩:=I.list hq;obtain⟨f0,f1,f2,f3,f4,f5⟩:=hf it (by simp);have hl:=rv.length;exact wpAny_pyNext_list_end (I.ok.hd hc) st p.isList (by simp;lia) λh' eb=>⟨rfl,I.turned (t':=s.toks) (λb o hb e=>eb b o hb e) f0 f1 f3 f4 f5⟩
 self:=λ_ _ _ _ _ st h=>wpAny_pyIter_listiter st h
theorem Zfg{P:Program}{w:World}{K:W.Frag}{tg:Expr}(a it:Addr):Turn P w K tg (BB K a) [it] it (λi h=>h.IsTupleIter it a i) where
 mem:=by simp
 obj:=λi h st b hb=>by
  have e:b=it:=by simpa using hb
  subst e;obtain⟨o,e,c,d⟩:=st;exact⟨o,e,λv z=>by rw[d]at z;cases z⟩
 keep:=λi h h' st k=>st.at λo e=>k it (by simp) o e
 item:=by
  intro X hP hw hK hc i pins s σ H E I hf st hg;subst hP hw hK;obtain⟨xs,x,hq,hx⟩:=hg;obtain⟨its,rv,p,hz⟩:=I.tuple hq;obtain⟨u,hu,ru⟩:=rv.get hx;obtain⟨f0,f1,f2,f3,f4,f5⟩:=hf it (by simp);refine wpAny_pyNext_tuple_item st (show s.heap.IsTuple a its.toArray from p) (x:=u) (by simpa using hu) λh' st' sb=>?_;have I1:Inv X pins σ H { s with heap:=h' }:=I.turned (t':=s.toks) (λb o hb e=>(sb.2 b hb).trans e) f0 f1 f3 f4 f5;obtain⟨o,e,c,d⟩:=id st';exact⟨u,rfl,xE (s:={ s with heap:=h' }) e c d (by decide) ⟨x,H,I1,ru,⟨rfl,λys hy=>by rw[I.fh hy hq];exact hx⟩,st',λb hb=>(hf b hb).1⟩⟩
 done:=by
  intro X hP hw hK hc i pins s σ H E I hf st hg;subst hP hw hK;obtain⟨xs,hq,hx⟩:=hg;obtain⟨its,rv,p,hz⟩:=I.tuple hq;obtain⟨f0,f1,f2,f3,f4,f5⟩:=hf it (by simp);have hl:=rv.length;exact wpAny_pyNext_tuple_end (I.ok.hd hc) st (show s.heap.IsTuple a its.toArray from p) (by simp;lia) λh' eb=>⟨rfl,I.turned (t':=s.toks) (λb o hb e=>eb b o hb e) f0 f1 f3 f4 f5⟩
 self:=λ_ _ _ _ _ st h=>wpAny_pyIter_tupleiter st h
theorem Zfh{P:Program}{w:World}{K:W.Frag}{tg:Expr}(it:Addr)(lo:Int)(n:Nat):Turn P w K tg (Ae lo n) [it] it (λi h=>IsRangeIter h it (lo+(i:Nat)*1) ((n:Int)-(i:Nat)) 1) where
 mem:=by simp
 obj:=λi h st b hb=>by
  have e:b=it:=by simpa using hb
  subst e;exact⟨_,st,λv z=>by
   have z':Data.fields _=Data.cell v:=z;cases z'⟩
 keep:=λi h h' st k=>k it (by simp) _ st
 item:=by
  intro X hP hw hK hc i pins s σ H E I hf st hg;subst hP hw hK;obtain⟨f0,f1,f2,f3,f4,f5⟩:=hf it (by simp);have W:=Walks.range (prog:=X.prog) (w:=X.w) (I.ok.hd hc) it lo 1 n;refine W.item i s _ _ hg st λv h' tk hv st' kk=>?_;obtain⟨t,rfl⟩:=hv;have I1:Inv X pins σ H { s with heap:=h',toks:=tk }:=I.turned (λb o hb e=>kk b o (by simpa using hb) e) f0 f1 f3 f4 f5;refine⟨_,rfl,xE (s:={ s with heap:=h',toks:=tk }) (n:="range_iterator") st' rfl rfl (by decide) ⟨.int (lo+i),H,I1,⟨t,?_⟩,⟨rfl,rfl⟩,st',λb hb=>(hf b hb).1⟩⟩;rw[Int.mul_one]
 done:=by
  intro X hP hw hK hc i pins s σ H E I hf st hg;subst hP hw hK;obtain⟨f0,f1,f2,f3,f4,f5⟩:=hf it (by simp);exact wpAny_pyNext_range_end (I.ok.hd hc) st (by have:n<=i:=hg;lia) λh' eb=>⟨rfl,I.turned (t':=s.toks) (λb o hb e=>eb b o hb e) f0 f1 f3 f4 f5⟩
 self:=λ_ _ _ _ _ st h=>wpAny_pyIter_rangeiter st h
section
variable{X:Cx}{tg:Expr}
def A3(K:W.Frag)(tl:TE):TI:=λσ H R=>tl σ H λx H1=>∃a,x=.ref a/\(∃xs,az K H1 a xs)/\R (BC K a) H1
def Gr(K:W.Frag)(tl:TE):TI:=λσ H R=>tl σ H λx H1=>∃a,x=.ref a/\(∃xs,aU K H1 a xs)/\R (BB K a) H1
theorem ZiW{l:Expr}{tl:TE}(hl:PE X l tl):PI X tg l (A3 X.K tl):=by
 intro pins s σ H R I h;refine fB (hl pins s σ H _ I h) λv s1 x H1 I1 r1 q1=>?_;obtain⟨a,e,⟨xs,hq⟩,q⟩:=q1;subst e;cases r1;obtain⟨its,rv,p,hz⟩:=I1.list hq;refine wpAny_pyIter_list p.isList ?_;refine⟨s1.heap.objs.size,[s1.heap.objs.size],_,_,H1,rfl,I1.kept (t':=s1.toks) λb o e=>a8r _ e,ZfN a _,⟨_,arT _ rfl,rfl,rfl⟩,λb hb=>?_,q⟩;have e:b=s1.heap.objs.size:=by simpa using hb
 subst e;exact I1.rQ (ags _) (I1.hok.fresh (ags _))
theorem Yh{l:Expr}{tl:TE}(hl:PE X l tl):PI X tg l (Gr X.K tl):=by
 intro pins s σ H R I h;refine fB (hl pins s σ H _ I h) λv s1 x H1 I1 r1 q1=>?_;obtain⟨a,e,⟨xs,hq⟩,q⟩:=q1;subst e;cases r1;obtain⟨its,rv,p,hz⟩:=I1.tuple hq;refine wpAny_pyIter_tuple (show s1.heap.IsTuple a its.toArray from p) ?_;refine⟨s1.heap.objs.size,[s1.heap.objs.size],_,_,H1,rfl,I1.kept (t':=s1.toks) λb o e=>a8r _ e,Zfg a _,⟨_,arT _ rfl,rfl,rfl⟩,λb hb=>?_,q⟩;have e:b=s1.heap.objs.size:=by simpa using hb
 subst e;exact I1.rQ (ags _) (I1.hok.fresh (ags _))
theorem Zhv{pins:List (Addr×Obj)}{σ:St}{H:Hp}{s:Shared}{R:It->Hp->Prop}{E:Value->Shared->Prop}{lo hi:Int}{t u v:Tok}{tk:Nat}(I:Inv X pins σ H s)(h1: -(2 ^ 62)<=lo)(h2:lo<2 ^ 62)(h3: -(2 ^ 62)<=hi)(h4:hi<2 ^ 62)
  (q:R (Ae lo (hi-lo).toNat) H):wpAny (model X.prog X.w) X.A (pyIter (.ref s.heap.objs.size)) (Tn X pins σ tg R) E { s with heap:=s.heap.push { cls:=.type "range",data:=.fields #[.int lo t,.int hi u,.int 1 v] },toks:=tk }:=by
 refine wpAny_pyIter_range (IsRange.new ..) (small_one h1 h2 h3 h4) ?_;have I1:Inv X pins σ H { s with heap:=s.heap.push { cls:=.type "range",data:=.fields #[.int lo t,.int hi u,.int 1 v] },toks:=tk }:=I.kept λb o e=>a8r _ e;refine⟨(s.heap.push { cls:=.type "range",data:=.fields #[.int lo t,.int hi u,.int 1 v] }).objs.size,[(s.heap.push { cls:=.type "range",data:=.fields #[.int lo t,.int hi u,.int 1 v] }).objs.size],_,_,H,rfl,
  I1.kept (t':=tk) λb o e=>a8r _ e,Zfh _ lo (hi-lo).toNat,?_,λb hb=>?_,q⟩
 .have e1:lo+((0:Nat):Int)*1=lo:=by simp
  have e2:(((hi-lo).toNat:Nat):Int)-((0:Nat):Int)=Builtin.Range.rangeSize lo hi 1:=by rw[rangeSize_one];split <;> lia
  show IsRangeIter _ _ (lo+((0:Nat):Int)*1) ((((hi-lo).toNat:Nat):Int)-((0:Nat):Int)) 1;rw[e1,e2];exact arT _ rfl
 .have e:b=(s.heap.push { cls:=.type "range",data:=.fields #[.int lo t,.int hi u,.int 1 v] }).objs.size:=by simpa using hb
  subst e;exact I1.rQ (ags _) (I1.hok.fresh (ags _))
def Gs(ta:TA):TI:=λσ H R=>ta σ H λvs H1=>∃j:Int,vs=[.int j] /\ -(2 ^ 62)<=j/\j<2 ^ 62/\R (Ae 0 j.toNat) H1
theorem Bm{a:Expr}{ta:TA}{p pos:Pos}(hg:Gl X "range")(hm:X.mg "range"=none)(ha:PA X [a] ta)(hs:starEach [a] X.env=[(false,eval a X.env)]:=by rfl):PI X tg (.Call (.Name "range" p) [a] [] pos) (Gs ta):=by
 intro pins s σ H R I h;refine Call_ (yv I hg hm boot_range (av3 (sy (ha pos pins s σ H _ I h) λus s1 vs H1 I1 r1 q1=>?_) hs rfl));obtain⟨j,e,q1,q2,q⟩:=q1;subst e;cases r1 with
 |cons r rr=>
  cases rr;obtain⟨t,rfl⟩:=r;exact call_range_1 (Zhv I1 (by lia) (by lia) q1 q2 (by simpa using q))
def KZ(wi:TI)(g:TG)(tb:TS):TS:=λD σ H=>wi σ H λJ H1=>∃W:Nat->Nat->St->Hp->Prop,(∃m,W 0 m σ H1)/\∀i m σ H,W i m σ H ->
 (J.stop i H/\D.nx σ H)\/(J.go i H/\∃N:St->Hp->Prop,(∀ σ' H',N σ' H'->∃m',m'<m/\W (i+1) m' σ' H')/\∀x H',J.su i H x H'->g x σ H' λσ2 H2=>tb { D with nx:=N,ct:=N,bk:=D.nx } σ2 H2)
def Hx(fp:List Addr)(h:Heap):List (Addr×Obj):=fp.filterMap λb=>(h.get? b).map λo=>(b,o)
theorem Ky{fp:List Addr}{h:Heap}{b:Addr}{o:Obj}(hb:b∈fp)(e:h.get? b=some o):(b,o)∈Hx fp h:=List.mem_filterMap.mpr ⟨b,hb,by rw[e];rfl⟩
theorem ZfO{fp:List Addr}{h:Heap}{p:Addr×Obj}(hp:p∈Hx fp h):p.1∈fp/\h.get? p.1=some p.2:=by
 obtain⟨b,hb,e⟩:=List.mem_filterMap.mp hp;cases q:h.get? b with
 |none=>rw[q]at e;cases e
 |some o=>
  rw[q]at e;have e':(b,o)=p:=a9h e;subst e';exact⟨hb,q⟩
theorem Inv.pinned{pins:List (Addr×Obj)}{σ:St}{H:Hp}{s:Shared}{fp:List Addr}(I:Inv X pins σ H s)(hf:∀b∈fp,jT X pins H b)(ho:∀b∈fp,∃o,s.heap.get? b=some o/\∀v,o.data≠.cell v):Inv X (pins++Hx fp s.heap) σ H s:=
 I.tR λp hp=>(aaI.mp hp).elim (λz=>I.pin p (bax _ z)) λz=>by
  obtain⟨hb,e⟩:=ZfO z;obtain⟨f0,f1,f2,_⟩:=hf p.1 hb;obtain⟨o,e',d⟩:=ho p.1 hb;rw[e]at e';cases e';exact⟨e,f0,f1,f2,d⟩
theorem Inv.gD{pins pl:List (Addr×Obj)}{σ:St}{H:Hp}{s:Shared}(I:Inv X (pins++pl) σ H s):Inv X pins σ H s:=I.tR λp hp=>I.pin p (bax _ (a96 _ hp))
theorem yu{iter:Expr}{body:List Stmt}{wi:TI}{g:TG}{tb:TS}{pos:Pos}(hp:PassesOwn (model X.prog X.w) X.A X.env X.xe)(hc:X.calm=true)(hi:PI X tg iter wi)(hg:PG X tg g)(hb:uM X body tb)
  (hs:∀x,foldedSetIterable iter X.env x=pure x:=by intro _;rfl):PS X (.For tg iter body [] pos) (KZ wi g tb):=by
 intro pins s σ H D I h;refine wpAny_For (bZ (hi pins s σ H _ I h) λv s1 h1=>bZ h1 λitv s2 h2=>?_) hs;obtain⟨it,fp,tn,J,H2,e,I2,T,st2,f2,W,⟨m0,w0⟩,turn⟩:=h2;subst e;have rA:∀{H':Hp},(∀b∈fp,H' b=none)->∀b∈fp,jT X pins H' b:=λhn b hb=>⟨hn b hb,(f2 b hb).2⟩;refine codeAny_forLoop_any (λn s'=>∃i σ' H',Inv X pins σ' H' s'/\tn i s'.heap/\(∀b∈fp,H' b=none)/\W i n σ' H') ?_ m0 ⟨0,σ,H2,I2,st2,λb hb=>(f2 b hb).1,w0⟩;rintro n s3 ⟨i,σ3,H3,I3,st3,DU,w3⟩;rcases turn i n σ3 H3 w3 with⟨stop,qn⟩|⟨go,N,hN,step⟩
 .refine ayA hp (bZ (T.done X rfl rfl rfl hc i pins s3 σ3 H3 X.xe I3 (rA DU) st3 stop) λr s4 ⟨hr,I4⟩=>?_);subst hr;exact wpAny_execs_nil ⟨σ3,H3,I4,qn⟩
 .refine ayA hp (bZ (T.item X rfl rfl rfl hc i pins s3 σ3 H3 X.xe I3 (rA DU) st3 go) λr s4 ⟨u,hr,h4⟩=>?_);subst hr;refine ayA hp (bZ h4 λ_ s5 ⟨x,H5,I5,r5,y5,yG,Jx⟩=>?_);have I5':=I5.pinned (rA Jx) (T.obj _ _ yG);refine ayA hp (bZ (hg _ s5 σ3 H5 x u _ I5' r5 (step x H5 y5)) λ_ s6 ⟨σ6,H6,I6,q6⟩=>?_);refine ayA hp (bZ (hb _ s6 σ6 H6 _ I6 q6) λf s7 q7=>?_);have again:∀{σ7:St}{H7:Hp},Inv X (pins++Hx fp s5.heap) σ7 H7 s7->N σ7 H7->∃m,m<n/\∃i σ' H',Inv X pins σ' H' s7/\tn i s7.heap/\(∀b∈fp,H' b=none)/\W i m σ' H':=λ{σ7 H7} I7 n7=>by
   obtain⟨m',hm,w7⟩:=hN σ7 H7 n7;refine⟨m',hm,i+1,σ7,H7,I7.gD,T.keep _ _ _ yG λb hb o e=>(I7.pin (b,o) (bax _ (bax _ (Ky hb e)))).1,λb hb=>?_,w7⟩;obtain⟨o,e,d⟩:=T.obj _ _ yG b hb;exact(I7.pin (b,o) (bax _ (bax _ (Ky hb e)))).2.1
  cases f with
  |next=>obtain⟨σ7,H7,I7,n7⟩:=q7;exact again I7 n7
  |cont=>obtain⟨σ7,H7,I7,n7⟩:=q7;exact again I7 n7
  |brk=>obtain⟨σ7,H7,I7,q7⟩:=q7;exact⟨σ7,H7,I7.gD,q7⟩
  |ret v=>obtain⟨x7,σ7,H7,I7,r7,q7⟩:=q7;exact⟨x7,σ7,H7,I7.gD,r7,q7⟩
end
theorem RQ{K:W.Frag}{a:Addr}{xs:List V}{g:TG}{tb:TS}{D:Ends}{σ:St}{H:Hp}(Pv:Nat->St->Hp->Prop)(h0:Pv 0 σ H)(hl:∀i σ H,i<=xs.length->Pv i σ H->az K H a xs)
  (hs:∀i x σ H,xs[i]?=some x->Pv i σ H->g x σ H λσ2 H2=>tb { D with nx:=Pv (i+1),ct:=Pv (i+1),bk:=D.nx } σ2 H2) (hd:∀ σ H,Pv xs.length σ H->D.nx σ H) :
  ∃W:Nat->Nat->St->Hp->Prop,(∃m,W 0 m σ H)/\∀i m σ H,W i m σ H ->
   ((BC K a).stop i H/\D.nx σ H)\/((BC K a).go i H/\∃N:St->Hp->Prop,(∀ σ' H',N σ' H'->∃m',m'<m/\W (i+1) m' σ' H')/\∀x H',(BC K a).su i H x H'->g x σ H' λσ2 H2=>tb { D with nx:=N,ct:=N,bk:=D.nx } σ2 H2):=by
 refine⟨λi m σ H=>m=xs.length-i/\i<=xs.length/\Pv i σ H,⟨xs.length,by simp,aL2 _,h0⟩,?_⟩;rintro i m σ H ⟨rfl,hi,p⟩;have q:=hl i σ H hi p;by_cases hlt:i<xs.length
 .refine .inr ⟨⟨xs,xs[i],q,by simp[hlt]⟩,Pv (i+1),λσ' H' p'=>⟨xs.length-(i+1),by lia,rfl,hlt,p'⟩,λx H' y=>?_⟩;obtain⟨e,y⟩:=y;subst e;exact hs i x σ _ (y xs q) p
 .have e:i=xs.length:=by lia
  subst e;exact .inl ⟨⟨xs,q,ags _⟩,hd σ H p⟩
theorem Nk{K:W.Frag}{a:Addr}{xs:List V}{g:TG}{tb:TS}{D:Ends}{σ:St}{H:Hp}(Pv:Nat->St->Hp->Prop)(h0:Pv 0 σ H)(hl:∀i σ H,i<=xs.length->Pv i σ H->aU K H a xs)
  (hs:∀i x σ H,xs[i]?=some x->Pv i σ H->g x σ H λσ2 H2=>tb { D with nx:=Pv (i+1),ct:=Pv (i+1),bk:=D.nx } σ2 H2) (hd:∀ σ H,Pv xs.length σ H->D.nx σ H) :
  ∃W:Nat->Nat->St->Hp->Prop,(∃m,W 0 m σ H)/\∀i m σ H,W i m σ H ->
   ((BB K a).stop i H/\D.nx σ H)\/((BB K a).go i H/\∃N:St->Hp->Prop,(∀ σ' H',N σ' H'->∃m',m'<m/\W (i+1) m' σ' H')/\∀x H',(BB K a).su i H x H'->g x σ H' λσ2 H2=>tb { D with nx:=N,ct:=N,bk:=D.nx } σ2 H2):=by
 refine⟨λi m σ H=>m=xs.length-i/\i<=xs.length/\Pv i σ H,⟨xs.length,by simp,aL2 _,h0⟩,?_⟩;rintro i m σ H ⟨rfl,hi,p⟩;have q:=hl i σ H hi p;by_cases hlt:i<xs.length
 .refine .inr ⟨⟨xs,xs[i],q,by simp[hlt]⟩,Pv (i+1),λσ' H' p'=>⟨xs.length-(i+1),by lia,rfl,hlt,p'⟩,λx H' y=>?_⟩;obtain⟨e,y⟩:=y;subst e;exact hs i x σ _ (y xs q) p
 .have e:i=xs.length:=by lia
  subst e;exact .inl ⟨⟨xs,q,ags _⟩,hd σ H p⟩
theorem NT{lo:Int}{n:Nat}{g:TG}{tb:TS}{D:Ends}{σ:St}{H:Hp}(Pv:Nat->St->Hp->Prop)(h0:Pv 0 σ H)
  (hs:∀i σ H,i<n->Pv i σ H->g (.int (lo+i)) σ H λσ2 H2=>tb { D with nx:=Pv (i+1),ct:=Pv (i+1),bk:=D.nx } σ2 H2) (hd:∀ σ H,Pv n σ H->D.nx σ H) :
  ∃W:Nat->Nat->St->Hp->Prop,(∃m,W 0 m σ H)/\∀i m σ H,W i m σ H ->
   ((Ae lo n).stop i H/\D.nx σ H)\/((Ae lo n).go i H/\∃N:St->Hp->Prop,(∀ σ' H',N σ' H'->∃m',m'<m/\W (i+1) m' σ' H')/\∀x H',(Ae lo n).su i H x H'->g x σ H' λσ2 H2=>tb { D with nx:=N,ct:=N,bk:=D.nx } σ2 H2):=by
 refine⟨λi m σ H=>m=n-i/\i<=n/\Pv i σ H,⟨n,by simp,aL2 _,h0⟩,?_⟩;rintro i m σ H ⟨rfl,hi,p⟩;by_cases hlt:i<n
 .refine .inr ⟨hlt,Pv (i+1),λσ' H' p'=>⟨n-(i+1),by lia,rfl,hlt,p'⟩,λx H' y=>?_⟩;obtain⟨e,y⟩:=y;subst e y;exact hs i σ _ hlt p
 .have e:i=n:=by lia
  subst e;exact .inl ⟨ags _,hd σ H p⟩
abbrev R2:=V->V->Hp->VK->Prop
def jb(X:Cx)(f:Value->Value->Sem Value)(r:R2):Prop:=
 ∀(pins:List (Addr×Obj))(s:Shared)(σ:St)(H:Hp)(x y:V)(v u:Value)(Q:VK),Inv X pins σ H s->RelV x v->RelV y u->r x y H Q ->
  wpAny (model X.prog X.w) X.A (f v u) (EP X pins σ Q) X.xe s
def NV(X:Cx)(f:Value->Sem Value)(r:V->Hp->VK->Prop):Prop:=
 ∀(pins:List (Addr×Obj))(s:Shared)(σ:St)(H:Hp)(x:V)(v:Value)(Q:VK),Inv X pins σ H s->RelV x v->r x H Q ->
  wpAny (model X.prog X.w) X.A (f v) (EP X pins σ Q) X.xe s
def bG(X:Cx)(f:Value)(r:List V->Hp->VK->Prop):Prop:=
 ∀(pins:List (Addr×Obj))(s:Shared)(σ:St)(H:Hp)(xs:List V)(us:List Value)(Q:VK),Inv X pins σ H s->Vals xs us->r xs H Q ->
  wpAny (model X.prog X.w) X.A (call f us) (EP X pins σ Q) X.xe s
def II(r:R2)(ta tb:TE):TE:=λσ H Q=>ta σ H λx H1=>tb σ H1 λy H2=>r x y H2 Q
def U5(r:V->Hp->VK->Prop)(ta:TE):TE:=λσ H Q=>ta σ H λx H1=>r x H1 Q
inductive rI(C:Int->Int->Prop) (g:Int->Int->V)(x:V)(y:V)(H:Hp)(Q:VK):Prop
 |mk (i j:_):x=.int i->y=.int j->C i j->Q (g i j) H->rI C g x y H Q
inductive yS(g:Int->Int->V)(x:V)(y:V)(H:Hp)(Q:VK):Prop
 |mk (i j:_):x=.int i->y=.int j->Q (g i j) H->yS g x y H Q
inductive rU(g:Int->V)(x:V)(H:Hp)(Q:VK):Prop
 |mk (i:_):x=.int i->Q (g i) H->rU g x H Q
section
variable{X:Cx}{a b c:Expr}{ta tb tc:TE}{pos:Pos}
theorem CK(ha:PE X a ta)(hb:PE X b tb){pins:List (Addr×Obj)}{s:Shared}{σ:St}{H:Hp}{R:V->V->Hp->Prop}(I:Inv X pins σ H s)
  (h:ta σ H λx H1=>tb σ H1 λy H2=>R x y H2) {Q:Value->Shared->Prop} {f:Value->Value->Sem Value}
  (hf:∀v u s2 x y H2,Inv X pins σ H2 s2->RelV x v->RelV y u->R x y H2->wpAny (model X.prog X.w) X.A (f v u) Q X.xe s2) :
  wpAny (model X.prog X.w) X.A (eval a X.env) (λv s₁=>wpAny (model X.prog X.w) X.A (eval b X.env) (λu s₂=>wpAny (model X.prog X.w) X.A (f v u) Q X.xe s₂) X.xe s₁) X.xe s:=by
 refine fB (ha pins s σ H _ I h) λv s1 x H1 I1 r1 q1=>?_;refine fB (hb pins s1 σ H1 _ I1 q1) λu s2 y H2 I2 r2 q2=>?_;exact hf v u s2 x y H2 I2 r1 r2 q2
theorem ak{op:Operator}{r:R2}(ho:jb X (binaryOp op) r)(ha:PE X a ta)(hb:PE X b tb):PE X (.BinOp a op b pos) (II r ta tb):=by
 intro pins s σ H Q I h;exact wpAny_BinOp (CK ha hb I h λv u s2 x y H2 I2 rx ry q=>ho pins s2 σ H2 x y v u Q I2 rx ry q)
theorem AX{op:UnaryOp}{r:V->Hp->VK->Prop}(ho:NV X (unaryOp op) r)(ha:PE X a ta):PE X (.UnaryOp op a pos) (U5 r ta):=by
 intro pins s σ H Q I h;exact UnaryOp_ (fB (ha pins s σ H _ I h) λv s1 x H1 I1 r1 q1=>ho pins s1 σ H1 x v Q I1 r1 q1)
theorem IT{f:Value->Value->Sem Value}{C:Int->Int->Prop}{g:Int->Int->Int}
  (rule:∀(i j:Int)(t u:Tok)(s:Shared)(Q:Value->Shared->Prop)(E:Value->Shared->Prop),C i j->Q (.int (g i j) s.toks) { s with toks:=s.toks+1 }->wpAny (model X.prog X.w) X.A (f (.int i t) (.int j u)) Q E s) :
  jb X f (rI C λi j=>.int (g i j)):=by
 intro pins s σ H x y v u Q I rx ry h;obtain⟨i,j,rfl,rfl,hc,q⟩:=h;obtain⟨t,rfl⟩:=rx;obtain⟨t',rfl⟩:=ry;exact rule i j t t' s _ _ hc ⟨.int (g i j),H,I.tok _,⟨_,rfl⟩,q⟩
theorem FF{f:Value->Value->Sem Value}{g:Int->Int->Int}
  (rule:∀(i j:Int)(t u:Tok)(s:Shared)(Q:Value->Shared->Prop)(E:Value->Shared->Prop),Q (.int (g i j) s.toks) { s with toks:=s.toks+1 }->wpAny (model X.prog X.w) X.A (f (.int i t) (.int j u)) Q E s) :
  jb X f (yS λi j=>.int (g i j)):=by
 intro pins s σ H x y v u Q I rx ry h;obtain⟨i,j,rfl,rfl,q⟩:=h;obtain⟨t,rfl⟩:=rx;obtain⟨t',rfl⟩:=ry;exact rule i j t t' s _ _ ⟨.int (g i j),H,I.tok _,⟨_,rfl⟩,q⟩
theorem yZ{f:Value->Value->Sem Value}{g:Int->Int->Bool}
  (rule:∀(i j:Int)(t u:Tok)(s:Shared)(Q:Value->Shared->Prop)(E:Value->Shared->Prop),Q (.bool (g i j)) s->wpAny (model X.prog X.w) X.A (f (.int i t) (.int j u)) Q E s) :
  jb X f (yS λi j=>.bl (g i j)):=by
 intro pins s σ H x y v u Q I rx ry h;obtain⟨i,j,rfl,rfl,q⟩:=h;obtain⟨t,rfl⟩:=rx;obtain⟨t',rfl⟩:=ry;exact rule i j t t' s _ _ ⟨.bl (g i j),H,I,rfl,q⟩
def Iq(i j:Int):Prop:=0<j/\j<1073741824
def N7(i j:Int):Prop:=0<=j/\j<=1000000/\i.natAbs<2 ^ 64
def Dt(i j:Int):Prop:=(-(2 ^ 64)<i/\i<2 ^ 64)\/(-(2 ^ 64)<j/\j<2 ^ 64)
theorem Dt.ok{i j:Int}(h:Dt i j):IntMulOk i j:=by
 rcases h with⟨h1,h2⟩|⟨h1,h2⟩
 .exact .of_left (intBits_le_64 h1 h2)
 .exact .of_right (intBits_le_64 h1 h2)
theorem ZH:jb X (binaryOp .Add) (yS λi j=>.int (i+j)):=FF λ_ _ _ _ _ _ _ q=>add_int q
theorem zQ:jb X (binaryOp .Sub) (yS λi j=>.int (i-j)):=FF λ_ _ _ _ _ _ _ q=>sub_int q
theorem uI:jb X (binaryOp .Mult) (rI Dt λi j=>.int (i*j)):=IT λ_ _ _ _ _ _ _ hc q=>mul_int q hc.ok
theorem Ec:jb X (binaryOp .FloorDiv) (rI Iq λi j=>.int (i/j)):=IT λi j _ _ _ _ _ hc q=>by
 have h1:(0:Int)<j:=hc.1;have h2:j<1073741824:=hc.2;exact floordiv_int (by lia) (by rw[Int.fdiv_eq_ediv_of_nonneg i (by lia)];exact q) (.inl (PyProof.noPylong_small (by lia)))
theorem uH:jb X (binaryOp .Mod) (rI (λ_ j=>0<j) λi j=>.int (i%j)):=IT λi j _ _ _ _ _ hc q=>by
 have h1:(0:Int)<j:=hc;exact mod_int' (by lia) (by rw[Int.fmod_eq_emod_of_nonneg i (by lia)];exact q)
theorem M4:jb X (binaryOp .Pow) (rI N7 λi j=>.int (i ^ j.toNat)):=IT λ_ _ _ _ _ _ _ hc q=>pow_int_small hc.1 hc.2.1 hc.2.2 q
theorem UY{f:Value->Sem Value}{g:Int->Int}
  (rule:∀(i:Int)(t:Tok)(s:Shared)(Q:Value->Shared->Prop)(E:Value->Shared->Prop),Q (.int (g i) s.toks) { s with toks:=s.toks+1 }->wpAny (model X.prog X.w) X.A (f (.int i t)) Q E s) :
  NV X f (rU λi=>.int (g i)):=by
 intro pins s σ H x v Q I rx h;obtain⟨i,rfl,q⟩:=h;obtain⟨t,rfl⟩:=rx;exact rule i t s _ _ ⟨.int (g i),H,I.tok _,⟨_,rfl⟩,q⟩
theorem Zip:NV X (unaryOp .USub) (rU λi=>.int (-i)):=UY λ_ _ _ _ _ q=>neg_int q
end
def E1:V->V->Bool
 | .aS,.aS=>true| .aS,.int _=>true| .int _,.aS=>true| .aS,.bl _=>true| .bl _,.aS=>true| .aS,.str _=>true| .str _,.aS=>true
 | .int _,.int _=>true| .bl _,.bl _=>true| .str _,.str _=>true| .uG _,.uG _=>true
 | .int _,.str _=>true| .str _,.int _=>true| .bl _,.str _=>true| .str _,.bl _=>true
 |_,_=>false
def Vo:R2:=λx y H Q=>E1 x y=true/\Q (.bl (decide (x=y))) H
def Vn:R2:=λx y H Q=>E1 x y=true/\Q (.bl (!decide (x=y))) H
theorem RE{i j:Int}:decide (V.int i=V.int j)=(i ==j):=by
 rw[aef];simp
theorem Qp{i j:Bool}:decide (V.bl i=V.bl j)=(i ==j):=by
 rw[aef];simp
theorem RD{i j:Str}:decide (V.str i=V.str j)=(i ==j):=by
 rw[aef];simp
theorem RC{i j:Array UInt8}:decide (V.uG i=V.uG j)=(i.toList ==j.toList):=by
 rw[aef];cases i;cases j;simp
section
variable{X:Cx}{a b c:Expr}{ta tb tc:TE}{pos:Pos}
theorem Zw{pins:List (Addr×Obj)}{σ:St}{H:Hp}{s:Shared}{Q:VK}{k k':Bool}(I:Inv X pins σ H s)(q:Q (.bl k) H)(e:k=k'):EP X pins σ Q (.bool k') s:=by
 subst e;exact⟨.bl k,H,I,rfl,q⟩
theorem bM:jb X (compareOp .Eq) Vo:=by
 intro pins s σ H x y v u Q I rx ry h;obtain⟨hs,q⟩:=h;cases x with
 |aS=>
  cases rx;cases y with
  |aS=>cases ry;exact PySem.EqNone.eq_none_none (Zw I q (by simp))
  |bl j=>cases ry;exact PySem.EqNone.eq_none_bool (Zw I q (by simp))
  |int j=>obtain⟨t',rfl⟩:=ry;exact PySem.EqNone.eq_none_int (Zw I q (by simp))
  |str j=>obtain⟨t',rfl⟩:=ry;exact PySem.EqNone.eq_none_str (Zw I q (by simp))
  |_=>exact absurd (show false=true from hs) a7q
 |bl i=>
  cases rx;cases y with
  |aS=>cases ry;exact PySem.EqNone.eq_bool_none (Zw I q (by simp))
  |bl j=>cases ry;exact eq_bool (Zw I q Qp)
  |str j=>obtain⟨t',rfl⟩:=ry;exact PySem.EqMixed.eq_bool_str (Zw I q (by simp))
  |_=>exact absurd (show false=true from hs) a7q
 |int i=>
  obtain⟨t,rfl⟩:=rx;cases y with
  |aS=>cases ry;exact PySem.EqNone.eq_int_none (Zw I q (by simp))
  |int j=>obtain⟨t',rfl⟩:=ry;exact eq_int (Zw I q RE)
  |str j=>obtain⟨t',rfl⟩:=ry;exact PySem.EqMixed.eq_int_str (Zw I q (by simp))
  |_=>exact absurd (show false=true from hs) a7q
 |str i=>
  obtain⟨t,rfl⟩:=rx;cases y with
  |aS=>cases ry;exact PySem.EqNone.eq_str_none (Zw I q (by simp))
  |bl j=>cases ry;exact PySem.EqMixed.eq_str_bool (Zw I q (by simp))
  |int j=>obtain⟨t',rfl⟩:=ry;exact PySem.EqMixed.eq_str_int (Zw I q (by simp))
  |str j=>obtain⟨t',rfl⟩:=ry;exact eq_str (Zw I q RD)
  |_=>exact absurd (show false=true from hs) a7q
 |uG i=>
  obtain⟨t,rfl⟩:=rx;cases y with
  |uG j=>obtain⟨t',rfl⟩:=ry;exact W.eq_bytes (Zw I q RC)
  |_=>exact absurd (show false=true from hs) a7q
 |_=>cases y <;> exact absurd (show false=true from hs) a7q
theorem Fz:jb X (compareOp .NotEq) Vn:=by
 intro pins s σ H x y v u Q I rx ry h;obtain⟨hs,q⟩:=h;cases x with
 |aS=>
  cases rx;cases y with
  |aS=>cases ry;exact PySem.EqNone.ne_none_none (Zw I q (by simp))
  |bl j=>cases ry;exact PySem.EqNone.ne_none_bool (Zw I q (by simp))
  |int j=>obtain⟨t',rfl⟩:=ry;exact PySem.EqNone.ne_none_int (Zw I q (by simp))
  |str j=>obtain⟨t',rfl⟩:=ry;exact PySem.EqNone.ne_none_str (Zw I q (by simp))
  |_=>exact absurd (show false=true from hs) a7q
 |bl i=>
  cases rx;cases y with
  |aS=>cases ry;exact PySem.EqNone.ne_bool_none (Zw I q (by simp))
  |bl j=>cases ry;exact ne_bool (Zw I q (azy not Qp))
  |str j=>obtain⟨t',rfl⟩:=ry;exact PySem.EqMixed.ne_bool_str (Zw I q (by simp))
  |_=>exact absurd (show false=true from hs) a7q
 |int i=>
  obtain⟨t,rfl⟩:=rx;cases y with
  |aS=>cases ry;exact PySem.EqNone.ne_int_none (Zw I q (by simp))
  |int j=>obtain⟨t',rfl⟩:=ry;exact ne_int (Zw I q (azy not RE))
  |str j=>obtain⟨t',rfl⟩:=ry;exact PySem.EqMixed.ne_int_str (Zw I q (by simp))
  |_=>exact absurd (show false=true from hs) a7q
 |str i=>
  obtain⟨t,rfl⟩:=rx;cases y with
  |aS=>cases ry;exact PySem.EqNone.ne_str_none (Zw I q (by simp))
  |bl j=>cases ry;exact PySem.EqMixed.ne_str_bool (Zw I q (by simp))
  |int j=>obtain⟨t',rfl⟩:=ry;exact PySem.EqMixed.ne_str_int (Zw I q (by simp))
  |str j=>obtain⟨t',rfl⟩:=ry;exact ne_str (Zw I q (azy not RD))
  |_=>exact absurd (show false=true from hs) a7q
 |uG i=>
  obtain⟨t,rfl⟩:=rx;cases y with
  |uG j=>obtain⟨t',rfl⟩:=ry;exact W.ne_bytes (Zw I q (azy not RC))
  |_=>exact absurd (show false=true from hs) a7q
 |_=>cases y <;> exact absurd (show false=true from hs) a7q
theorem qd:jb X (compareOp .Lt) (yS λi j=>.bl (decide (i<j))):=yZ λ_ _ _ _ _ _ _ q=>lt_int q
theorem FA:jb X (compareOp .LtE) (yS λi j=>.bl (decide (i<=j))):=yZ λ_ _ _ _ _ _ _ q=>le_int q
theorem FD:jb X (compareOp .Gt) (yS λi j=>.bl (decide (j<i))):=yZ λ_ _ _ _ _ _ _ q=>gt_int q
theorem FE:jb X (compareOp .GtE) (yS λi j=>.bl (decide (j<=i))):=yZ λ_ _ _ _ _ _ _ q=>ge_int q
theorem Zx(b:Expr){op:CmpOp}(h:op≠.In:=by decide)(h2:op≠.NotIn:=by decide):behindInMarks op b=false:=by
 have e1:(op ==CmpOp.In)=false:=by cases op <;> first|rfl|exact absurd rfl h
 have e2:(op ==CmpOp.NotIn)=false:=by cases op <;> first|rfl|exact absurd rfl h2
 cases b <;> simp[behindInMarks,e1,e2]
theorem vm{op:CmpOp}{r:R2}(ho:jb X (compareOp op) r)(ha:PE X a ta)(hb:PE X b tb)(hm:behindInMarks op b=false):PE X (.Compare a [op] [b] pos) (II r ta tb):=by
 intro pins s σ H Q I h;exact wpAny_Compare1 (CK ha hb I h λv u s2 x y H2 I2 rx ry q=>ho pins s2 σ H2 x y v u Q I2 rx ry q) hm
def An(t:TE):TT:=λσ H Q=>t σ H λx H'=>∃k,x=.bl k/\Q k H'
theorem ZB{op:CmpOp}{r:R2}(ho:jb X (compareOp op) r)(ha:PE X a ta)(hb:PE X b tb)(hm:behindInMarks op b=false):PT X (.Compare a [op] [b] pos) (An (II r ta tb)):=by
 intro pins s σ H Q I h;refine wpAny_isTrue_Compare1 (fB (ha pins s σ H _ I h) λv s1 x H1 I1 r1 q1=>fB (hb pins s1 σ H1 _ I1 q1) λu s2 y H2 I2 r2 q2=>
  bZ (ho pins s2 σ H2 x y v u _ I2 r1 r2 q2) λc s3 ⟨z,H3,I3,r3,k,e,q3⟩=>?_) hm
 subst e;cases r3;exact aVv ⟨H3,I3,q3⟩
def Yg(r r':R2)(ta tb tc:TE):TE:=λσ H Q=>ta σ H λx H1=>tb σ H1 λy H2=>r x y H2 λz H3=>∃k,z=.bl k /\
 (if k=true then tc σ H3 λw' H4=>r' y w' H4 Q else Q (.bl false) H3)
theorem Zhw{op op':CmpOp}{r r':R2}(ho:jb X (compareOp op) r)(ho':jb X (compareOp op') r')(ha:PE X a ta)(hb:PE X b tb)(hc:PE X c tc)
  (hm:lastMarks [op,op'] [b,c]=false:=by with_unfolding_all rfl):PT X (.Compare a [op,op'] [b,c] pos) (An (Yg r r' ta tb tc)):=by
 intro pins s σ H Q I h;refine isTrue_chain (fB (ha pins s σ H _ I h) λv s1 x H1 I1 r1 q1=>test_link (fB (hb pins s1 σ H1 _ I1 q1) λu s2 y H2 I2 r2 q2=>
  bZ (ho pins s2 σ H2 x y v u _ I2 r1 r2 q2) λd s3 ⟨z,H3,I3,r3,k,e,q3⟩=>?_)) hm
 subst e;cases r3;refine aVv ?_;cases k with
 |false=>
  obtain⟨k',e',q'⟩:=q3;cases e';exact ite_ff ⟨H3,I3,q'⟩
 |true=>
  refine ite_tt (test_last (fB (hc pins s3 σ H3 _ I3 q3) λw' s4 z' H4 I4 r4 q4=>bZ (ho' pins s4 σ H4 y z' u w' _ I4 r2 r4 q4) λd' s5 ⟨z2,H5,I5,r5,k2,e2,q5⟩=>?_));subst e2;cases r5;exact aVv ⟨H5,I5,q5⟩
theorem JG:(sizeLine:Nat)<2 ^ 63:=by rw[a3Q];decide
theorem vals1{x:V}{us:List Value}(r:Vals [x] us):∃u,us=[u]/\RelV x u:=by
 cases r with
 |cons r1 r2=>cases r2;exact⟨_,rfl,r1⟩
theorem vals2{x y:V}{us:List Value}(r:Vals [x,y] us):∃u w',us=[u,w']/\RelV x u/\RelV y w':=by
 cases r with
 |cons r1 r2=>
  cases r2 with
  |cons r3 r4=>cases r4;exact⟨_,_,rfl,r1,r3⟩
theorem RP:bG X (.builtin "abs") (λxs H Q=>∃i,xs=[.int i]/\Q (.int (if i<0 then -i else i)) H):=by
 intro pins s σ H xs us Q I r h;obtain⟨i,rfl,q⟩:=h;obtain⟨u,rfl,t,rfl⟩:=vals1 r;exact call_abs_int λu tk=>⟨.int (if i<0 then -i else i),H,I.tok _,⟨_,rfl⟩,q⟩
theorem SH(hc:X.calm=true):bG X (.builtin "max") (λxs H Q=>∃i j,xs=[.int i,.int j]/\Q (.int (if j>i then j else i)) H):=by
 intro pins s σ H xs us Q I r h;obtain⟨i,j,rfl,q⟩:=h;obtain⟨u,w',rfl,⟨t,rfl⟩,⟨t',rfl⟩⟩:=vals2 r;refine max_two_ints (I.ok.hd hc) λh' tk k=>⟨_,H,I.kept k,?_,q⟩;by_cases hj:j>i
 .rw [aaU hj,aaU hj];exact⟨_,rfl⟩
 .rw [afn hj,afn hj];exact⟨_,rfl⟩
theorem ZfT(hc:X.calm=true):bG X (.builtin "min") (λxs H Q=>∃i j,xs=[.int i,.int j]/\Q (.int (if j<i then j else i)) H):=by
 intro pins s σ H xs us Q I r h;obtain⟨i,j,rfl,q⟩:=h;obtain⟨u,w',rfl,⟨t,rfl⟩,⟨t',rfl⟩⟩:=vals2 r;refine min_two_ints (I.ok.hd hc) λh' tk k=>⟨_,H,I.kept k,?_,q⟩;by_cases hj:j<i
 .rw [aaU hj,aaU hj];exact⟨_,rfl⟩
 .rw [afn hj,afn hj];exact⟨_,rfl⟩
theorem NR:bG X (.type "int") (λxs H Q=>(∃i,xs=[.int i]/\Q (.int i) H)\/∃k,xs=[.bl k]/\Q (.int (if k then 1 else 0)) H):=by
 intro pins s σ H xs us Q I r h;rcases h with⟨i,rfl,q⟩|⟨k,rfl,q⟩
 .obtain ⟨u,rfl,t,rfl⟩:=vals1 r;exact call_int_int ⟨.int i,H,I,⟨_,rfl⟩,q⟩
 .obtain ⟨u,rfl,r1⟩:=vals1 r;cases r1;exact call_int_bool ⟨.int (if k then 1 else 0),H,I.tok _,⟨_,rfl⟩,q⟩
theorem ZdU:bG X (.builtin "divmod") (λxs H Q=>∃i j,xs=[.int i,.int j]/\Iq i j/\∀p,H p=none->Q (.ref p) (upd H p (.tup [.int (i/j),.int (i%j)]))):=by
 intro pins s σ H xs us Q I r h;obtain⟨i,j,rfl,⟨h1,h2⟩,q⟩:=h;obtain⟨u,w',rfl,⟨t,rfl⟩,⟨t',rfl⟩⟩:=vals2 r;refine divmod_int (by lia) ?_ (.inl (PyProof.noPylong_small (by lia)));rw[Int.fdiv_eq_ediv_of_nonneg i (by lia),Int.fmod_eq_emod_of_nonneg i (by lia)];have hn:H s.heap.objs.size=none:=I.hok.fresh (ags _);refine⟨.ref s.heap.objs.size,_,?_,rfl,q _ hn⟩;refine I.laid (λb o e=>a8r _ e) (ags _) ⟨by simp only[a83,List.length_nil];rw[a3Q];decide,[.int (i/j) s.toks,.int (i%j) (s.toks+1)],.cons ⟨_,rfl⟩ (.cons ⟨_,rfl⟩ .nil),?_⟩;exact⟨_,arT s.heap rfl,rfl,0,rfl⟩
end
structure rZ(h:Heap)(x dx C:Addr)(mA:Str->Option Value):Prop where
 obj:h.get? x=some (W.instObj C dx)
 ns:h.Ns1 dx mA
 ne:dx≠x
theorem ZfU{h:Heap}{dx:Addr}{mA:Str->Option Value}(n:h.Ns1 dx mA):∃od,h.get? dx=some od/\∀name,W.lookIn name od=some (mA name):=by
 obtain⟨o,es,ep,ho,hd,hk,_,hm⟩:=n;refine⟨o,ho,λname=>?_⟩;have e:=hm name;unfold nsFind findBy at e;rw[<-Array.find?_toList]at e;unfold W.lookIn;rw[hd];dsimp only;split
 .rename_i y q;rw[q]at e;exact azy some e
 .rename_i q;rw[q]at e;have a:es.toList.any (·.refKey)=false:=by
   rw[List.any_eq_false];intro y hy;obtain⟨z,t,hkey⟩:=hk y (Array.mem_toList_iff.mp hy);simp[DictEntry.refKey,hkey]
  have a':¬es.toList.any (·.refKey)=true:=by rw[a];exact a7q
  rw[afn a'];exact azy some e
theorem rZ.look{h:Heap}{x dx C:Addr}{mA:Str->Option Value}(I:rZ h x dx C mA):∃od,W.InstAt h x (W.instObj C dx) C (some od)/\∀name,W.lookIn name od=some (mA name):=
 let⟨od,ho,hl⟩:=ZfU I.ns
 ⟨od,⟨I.obj,rfl,rfl,ho⟩,hl⟩
section
variable{prog:Program}{w:World}{A:Around}{E:Value->Shared->Prop}{s:Shared}{K:W.Frag}{x dx C f:Addr}{mA:Str->Option Value}{name:Str}{v:Value}
theorem ZiX{expr:Bool}{Q:Value->Shared->Prop}(X:K.In s.heap)(I:rZ s.heap x dx C mA)(hg:W.plainGet K C name=true)(hh:W.hasDictIn K C=true)
  (ha:W.findIn K (.ref C) name=some none) (hv:mA name=some v) (hv':W.handedIn v=true) (h:Q v { s with toks:=s.toks+1 }) :
  wpAny (model prog w) A (getAttr (.ref x) name expr) Q E s:=by
 obtain⟨od,J,hl⟩:=I.look;exact W.get_value X J (W.plainGet_of hg).1 (W.findObj_own hh ha rfl (by rw[hl,hv])) hv' h
theorem Zhx{pl:Sem Bool}{Q:Value×List Value->Shared->Prop}(X:K.In s.heap)(I:rZ s.heap x dx C mA)(hg:W.plainGet K C name=true)
  (hf:W.findIn K (.ref C) name=some (some (.ref f))) (ht:W.isFn K (.ref f)=true) (hv:mA name=none) (h:Q (.ref f,[.ref x]) s) :
  wpAny (model prog w) A (getMethod (.ref x) name pl) Q E s:=by
 obtain⟨od,J,hl⟩:=I.look;exact W.method_fn X J (W.plainGet_of hg).1 (W.plainGet_of hg).2 hf (aCi.mp ht) (by show(W.lookIn name od).map (·.isSome)=some false;rw[hl,hv];rfl) h
theorem ZiY{ns:List Str}{Q:Unit->Shared->Prop}(X:K.In s.heap)(I:rZ s.heap x dx C mA)
  (hs:W.findIn K (.ref C) "__setattr__"=some (some (.builtin "object.__setattr__"))) (hp:W.plainOver K C=true) (ht:W.takerIn K C name=some none) (hh:W.hasDictIn K C=true)
  (hw:PySem.Within mA ns) (hsz:ns.length<=sizeLine)
  (h:∀h',rZ h' x dx C (λy=>if y=name then some v else mA y)->Heap.SameBut dx s.heap h'->Q () { s with heap:=h',toks:=s.toks+2 }) :
  wpAny (model prog w) A (setAttr (.ref x) name v) Q E s:=by
 obtain⟨od,J,hl⟩:=I.look;refine W.set_plain X J hs (W.osa_open (s:={ s with toks:=s.toks+1 }) (r:=none) X J hp ht λb=>?_);obtain⟨cd,hc,hd'⟩:=W.any_some hh;have hx:s.heap.get? x=some ⟨.ref C,some dx,.plain,#[]⟩:=I.obj;refine asu (aJq (asu (asu (wpAny_loadPart hx (asu (W.Looks.here (s:={ s with toks:=s.toks+1 }) (W.looks_clsIn X hc) ?_))))));rw[hd'];refine aJq (a:=some dx) (asu (aJq (asu ?_)));refine wpAny_nsSet1 (s:={ s with toks:=s.toks+1 }) I.ns λh' hn2 hs2=>?_;obtain⟨oD,esD,epD,Wx,WL,WN⟩:=hn2.count (PySem.Within.cons name v hw);refine asu (wpAny_lookBehind Wx (by rw[WL];exact pastItsLine_dict (a0n WN (by rw[a83];lia))) ?_);exact aJq (h _ ⟨(hs2.2 _ (ac5 I.ne)).trans I.obj,hn2,I.ne⟩ hs2)
theorem Zhy{R:Result->Shared->Prop}{vs:List Value}{kw:List (Str×Value)}(X:K.In s.heap)(hm:W.makesIn K C=true)
  (hi:W.findIn K (.ref C) "__init__"=some (some (.ref f))) (hf:W.typeIn K (.ref f)=some (.type "function"))
  (h:codeAny (model prog w) (A.under (.builtin "type.__call__" ⟨.ref C ::vs,kw⟩)) (.call (.ref f) ⟨.ref (s.heap.objs.size+1) ::vs,kw⟩) (W.InitBack (s.heap.objs.size+1) R)
   { s with heap:=(s.heap.push W.emptyDict).push (W.instObj C s.heap.objs.size) }) :
  codeAny (model prog w) A (.call (.ref C) ⟨vs,kw⟩) R s:=by
 obtain⟨hh,g,d,t,os⟩:=s;exact W.make_core (W.makes_of X hm) (W.looks_findIn X hi) (λself=>W.bind_fn X self hf) (.inl rfl) h
end
def ah(f:Str)(v:V):List (Str×V)->List (Str×V)
 | []=>[(f,v)]
 |(g,x) ::r=>if g=f then(g,v) ::r else(g,x) ::ah f v r
theorem Zg(f g:Str)(v:V):∀fs:List (Str×V),(ah f v fs).lookup g=if g=f then some v else fs.lookup g
 | []=>by
  show List.lookup g [(f,v)]=_;by_cases h:g=f
  .have hb:(g ==f)=true:=aCi.mpr h;simp only[List.lookup,hb,aaU h]
  .have hb:(g ==f)=false:=aul.mpr h;simp only[List.lookup,hb,afn h]
 |(k,x) ::r=>by
  have ih:=Zg f g v r;rw[show ah f v ((k,x) ::r)=(if k=f then(k,v) ::r else(k,x) ::ah f v r) from rfl];by_cases hk:k=f
  .rw [aaU hk];by_cases h:g=k
   .have hb:(g ==k)=true:=aCi.mpr h;simp only[List.lookup,hb,aaU (h.trans hk)]
   .have hb:(g ==k)=false:=aul.mpr h;simp only[List.lookup,hb,afn (λe:g=f=>h (e.trans hk.symm))]
  .rw [afn hk];by_cases h:g=k
   .have hb:(g ==k)=true:=aCi.mpr h;simp only[List.lookup,hb,afn (λe:g=f=>hk (h.symm.trans e))]
   .have hb:(g ==k)=false:=aul.mpr h;simp only[List.lookup,hb];exact ih
theorem NQ(f:Str)(v:V):∀fs:List (Str×V),f∈(ah f v fs).map (·.1)/\∀g,g∈fs.map (·.1)->g∈(ah f v fs).map (·.1)
 | []=>⟨by simp[ah],λg h=>by simp at h⟩
 |(k,x) ::r=>by
  obtain⟨i1,i2⟩:=NQ f v r;rw[show ah f v ((k,x) ::r)=(if k=f then(k,v) ::r else(k,x) ::ah f v r) from rfl];by_cases hk:k=f
  .rw [aaU hk];subst hk;exact⟨by simp,λg h=>by simpa using h⟩
  .rw [afn hk];refine⟨?_,λg h=>?_⟩
   .rw [a2a];exact arx _ i1
   .rw [a2a]at h ⊢;rcases baL.mp h with e|e
    .exact baL.mpr (.inl e)
    .exact arx _ (i2 g e)
theorem Te(f:Str)(v:V):∀fs:List (Str×V),(ah f v fs).length<=fs.length+1
 | []=>by simp[ah]
 |(k,x) ::r=>by
  have ih:=Te f v r;rw[show ah f v ((k,x) ::r)=(if k=f then(k,v) ::r else(k,x) ::ah f v r) from rfl];by_cases hk:k=f
  .rw [aaU hk,a83,a83];lia
  .rw [afn hk,a83,a83];lia
theorem dF.some_of{v:V}{o:Option Value}(r:dF (some v) o):∃u,o=some u/\RelV v u:=by
 cases o with
 |none=>exact(show False from r).elim
 |some u=>exact⟨u,rfl,r⟩
theorem dF.none_of{o:Option Value}(r:dF none o):o=none:=by
 cases o with
 |none=>rfl
 |some u=>exact(show False from r).elim
theorem ZfV{v:V}{u:Value}(r:RelV v u):W.handedIn u=true:=by
 cases v with
 |aS=>cases(show u=Value.none from r);rfl
 |bl b=>cases(show u=Value.bool b from r);rfl
 |int i=>obtain⟨t,e⟩:=(show ∃t,u=Value.int i t from r);cases e;rfl
 |str x=>obtain⟨t,e⟩:=(show ∃t,u=Value.str x t from r);cases e;rfl
 |uG b=>obtain⟨t,e⟩:=(show ∃t,u=Value.bytes b t from r);cases e;rfl
 |zF b=>obtain⟨t,e⟩:=(show ∃t,u=Value.float b t from r);cases e;rfl
 |ref a=>cases(show u=Value.ref a from r);rfl
 |ty n=>cases(show u=Value.type n from r);rfl
section
variable{P:Program}{w:World}{H H':Hp}{h h':Heap}{a C dx:Addr}{fs fs':List (Str×V)}
theorem J4(hok:dW P w H h)(e:H a=some (.ins C dx fs)):∃mA,rZ h a dx C mA/\(∀f,dF (fs.lookup f) (mA f))/\PySem.Within mA (fs.map (·.1))/\fs.length<=1000/\H dx=some (.own a):=by
 obtain⟨d,z,ne,ob,mA,n,r,q⟩:=(show aH P w H h a (.ins C dx fs) from hok a _ e);exact⟨mA,⟨ob,n,ne⟩,r,q,z,d⟩
end
structure rj(K:W.Frag)(C:Addr):Prop where
 pg:W.plainGet K C Str.empty=true
 hd:W.hasDictIn K C=true
 po:W.plainOver K C=true
 sa:W.findIn K (.ref C) "__setattr__"=some (some (.builtin "object.__setattr__"))
theorem rj.get{K:W.Frag}{C:Addr}(c:rj K C)(f:Str):W.plainGet K C f=true:=c.pg
def aQ(K:W.Frag)(C:Addr)(f:Str):Prop:=W.findIn K (.ref C) f=some none
theorem aQ.EG{K:W.Frag}{C:Addr}{f:Str}(n:aQ K C f):W.takerIn K C f=some none:=by
 unfold W.takerIn;rw[show W.findIn K (.ref C) f=some none from n];rfl
structure Meth(K:W.Frag)(C:Addr)(m:Str)(f:Addr):Prop where
 at_:W.findIn K (.ref C) m=some (some (.ref f))
 fn:W.isFn K (.ref f)=true
 kp:W.keepIn K (.ref f)=true
section
variable{X:Cx}{pins:List (Addr×Obj)}{σ:St}{H:Hp}{s:Shared}{a C dx:Addr}{fs:List (Str×V)}{f:Str}{v:V}{A:Around}{E:Value->Shared->Prop}
theorem Zfi{b:Bool}{Q:Value->Shared->Prop}(I:Inv X pins σ H s)(e:H a=some (.ins C dx fs))(c:rj X.K C)(n:aQ X.K C f)(l:fs.lookup f=some v)
  (h:∀u s',Inv X pins σ H s'->RelV v u->Q u s'):wpAny (model X.prog X.w) A (getAttr (.ref a) f b) Q E s:=by
 obtain⟨mA,O,r,_,_,_⟩:=J4 I.hok e;obtain⟨u,hu,ru⟩:=dF.some_of (v:=v) (o:=mA f) (by rw[<-l];exact r f);exact ZiX I.dI O (c.get f) c.hd n hu (ZfV ru) (h u _ (I.tok _) ru)
theorem S0{m:Str}{g:Addr}{pl:Sem Bool}{Q:Value×List Value->Shared->Prop}(I:Inv X pins σ H s)(e:H a=some (.ins C dx fs))(c:rj X.K C)(k:Meth X.K C m g)(l:fs.lookup m=none)
  (h:Q (.ref g,[.ref a]) s):wpAny (model X.prog X.w) A (getMethod (.ref a) m pl) Q E s:=by
 obtain⟨mA,O,r,_,_,_⟩:=J4 I.hok e;have hn:mA m=none:=dF.none_of (by rw[<-l];exact r m);exact Zhx I.dI O (c.get m) k.at_ k.fn hn h
theorem Zfj{y:V}{u:Value}{Q:Unit->Shared->Prop}(I:Inv X pins σ H s)(e:H a=some (.ins C dx fs))(c:rj X.K C)(n:aQ X.K C f)(hl:fs.length<1000)(ry:RelV y u)
  (h:∀s',Inv X pins σ (upd H a (.ins C dx (ah f y fs))) s'->Q () s'):wpAny (model X.prog X.w) A (setAttr (.ref a) f u) Q E s:=by
 obtain⟨mA,O,r,wi,_,ho⟩:=J4 I.hok e;have hz:(fs.map (·.1)).length<=sizeLine:=by rw[axO,a3Q];lia
 refine ZiY I.dI O c.sa c.po n.EG c.hd wi hz λh' O' sb=>h _ ?_;have hd:∃o,h'.get? dx=some o:=let⟨o,_,_,e',_⟩:=O'.ns;⟨o,e'⟩;refine I.write (x:=a) (e:=dx) (by rw[e];exact True.intro) (.inr ho) (λb q hb z=>(sb.2 b hb).trans z) hd ?_;refine⟨by rw[Zc O.ne];exact ho,?_,O.ne,O'.obj,_,O'.ns,λg=>?_,λg hg=>?_⟩
 .have:=Te f y fs;lia
 .show dF ((ah f y fs).lookup g) (if g=f then some u else mA g);rw[Zg];by_cases q:g=f
  .rw [aaU q,aaU q];exact ry
  .rw [afn q,afn q];exact r g
 .by_cases q:g=f
  .rw [q];exact(NQ f y fs).1
  .refine (NQ f y fs).2 g (wi g λz=>hg ?_);show(if g=f then some u else mA g)=none;rw[afn q];exact z
theorem Inv.made(I:Inv X pins σ H s):Inv X pins σ (upd (upd H s.heap.objs.size (.own (s.heap.objs.size+1))) (s.heap.objs.size+1) (.ins C s.heap.objs.size []))
  { s with heap:=(s.heap.push W.emptyDict).push (W.instObj C s.heap.objs.size) }:=by
 have e1:(s.heap.push W.emptyDict).get? s.heap.objs.size=some W.emptyDict:=arT s.heap rfl;have e2:((s.heap.push W.emptyDict).push (W.instObj C s.heap.objs.size)).get? (s.heap.objs.size+1)=some (W.instObj C s.heap.objs.size):=by
  have:=arT (s.heap.push W.emptyDict) (o:=W.instObj C s.heap.objs.size) rfl;rwa [aC3]at this
 have e3:(s.heap.push W.emptyDict).Ns s.heap.objs.size (λ_=>none):=⟨W.emptyDict,#[],_,e1,rfl,(λe he=>absurd he (by simp)),λ_=>rfl⟩;have I1:=I.laid (a:=s.heap.objs.size) (o:=.own (s.heap.objs.size+1)) (h':=s.heap.push W.emptyDict) (t':=s.toks) (λb u q=>a8r _ q) (ags _) ⟨_,e1⟩;refine I1.laid (a:=s.heap.objs.size+1) (o:=.ins C s.heap.objs.size []) (t':=s.toks) (λb u q=>a8r _ q) (a1S (aC3 _ _)) ?_;have ne:s.heap.objs.size≠s.heap.objs.size+1:=ar8 (Nat.lt_succ_self _);refine⟨by rw[Zc ne,Za],aL2 _,ne,e2,λ_=>none,(Heap.Ns1.of_empty e3).at λo q=>a8r _ q,λ_=>True.intro,λy hy=>absurd rfl hy⟩
theorem ZiZ{prog:Program}{w:World}{env:Env}{e:Expr}{f:Str}{pos:Pos}{s:Shared}{Q:Value->Shared->Prop}(hb:attributeBase e f env (eval e env)=eval e env)
  (h:wpAny (model prog w) A (eval e env) (λo s₁=>wpAny (model prog w) A (getAttr o f true) Q E s₁) E s):wpAny (model prog w) A (eval (.Attribute e f pos) env) Q E s:=
 Attribute_any_ h (by rw[arm_eval_Attribute,hb])
end
def EN(K:W.Frag)(ta:TE)(f:Str):TE:=λσ H Q=>ta σ H λx H1=>∃a C dx fs v,x=.ref a/\H1 a=some (.ins C dx fs)/\rj K C/\aQ K C f/\fs.lookup f=some v/\Q v H1
def K8(K:W.Frag)(ta tv:TE)(f:Str):TS:=λD σ H=>tv σ H λy H1=>ta σ H1 λx H2=>∃a C dx fs,x=.ref a/\H2 a=some (.ins C dx fs)/\rj K C/\aQ K C f/\fs.length<1000 /\
 D.nx σ (upd H2 a (.ins C dx (ah f y fs)))
def Il(X:Cx)(op:Operator)(rd:V->V->Hp->VK->Prop):Prop:=
 ∀(pins:List (Addr×Obj))(s:Shared)(σ:St)(H:Hp)(x y:V)(u v:Value)(Q:VK),Inv X pins σ H s->RelV x u->RelV y v->rd x y H Q->wpAny (model X.prog X.w) X.A (inplaceOp op u v) (EP X pins σ Q) X.xe s
section
variable{X:Cx}{o e value:Expr}{f:Str}{pos pos' tpos:Pos}{ta tv:TE}
theorem Ye(he:PE X e ta)(hb:attributeBase e f X.env (eval e X.env)=eval e X.env):PE X (.Attribute e f pos) (EN X.K ta f):=by
 intro pins s σ H Q I h;refine ZiZ hb (bZ (he pins s σ H _ I h) λu s1 ⟨x,H1,I1,rx,a,C,dx,fs,v,ex,ea,c,n,l,q⟩=>?_);subst ex;obtain rfl:u=Value.ref a:=rx;exact Zfi I1 ea c n l λu' s2 I2 ru=>⟨v,H1,I2,ru,q⟩
theorem qF(ha:PE X o ta)(hv:PE X value tv)(hs:swapsWith value (some (.Attribute o f pos')) pos.line X.env=pure false):PS X (.Assign [.Attribute o f pos'] value pos) (K8 X.K ta tv f):=by
 intro pins s σ H D I h;refine plainObj_wpAny_Assign_Attribute (fB (hv pins s σ H _ I h) λu s1 y H1 I1 ry q=>bZ (ha pins s1 σ H1 _ I1 q) λov s2 ⟨x,H2,I2,rx,a,C,dx,fs,ex,ea,c,n,l,q2⟩=>?_) hs;subst ex;obtain rfl:ov=Value.ref a:=rx;exact Zfj I2 ea c n l ry λs3 I3=>⟨σ,_,I3,q2⟩
inductive Fe(x:V)(y:V)(H:Hp)(Q:VK):Prop
 |mk (i j:_):x=.int i->y=.int j->Q (.int (i+j)) H->Fe x y H Q
theorem Yd:Il X .Add Fe:=by
 rintro pins s σ H x y u v Q I rx ry ⟨i,j,rfl,rfl,q⟩;obtain⟨t,rfl⟩:=(show ∃t,u=Value.int i t from rx);obtain⟨t',rfl⟩:=(show ∃t',v=Value.int j t' from ry);exact PyProof.Rows.iadd_int ⟨.int (i+j),H,I.tok _,⟨_,rfl⟩,q⟩
end
section
variable{X:Cx}{pins:List (Addr×Obj)}{σ:St}{H:Hp}{s:Shared}{A:Around}{E:Value->Shared->Prop}{Q:Value->Shared->Prop}{c:Value}{b:Bool}
inductive iT (K:W.Frag) (H:Hp):V->Value->Prop where
 |aS:iT K H .aS (.type "NoneType")
 |bl (x:Bool):iT K H (.bl x) (.type "bool")
 |int (i:Int):iT K H (.int i) (.type "int")
 |str (x:Str):iT K H (.str x) (.type "str")
 |zF (x:UInt64):iT K H (.zF x) (.type "float")
 |lst {a:Addr} {xs:List V} (e:H a=some (.lst xs)):iT K H (.ref a) (.type "list")
 |cR {a:Addr} {o:Obj} {xs:List V} (e:H a=some (.cR o (.lst xs))):iT K H (.ref a) (.type "list")
 |tup {a:Addr} {xs:List V} (e:H a=some (.tup xs)):iT K H (.ref a) (.type "tuple")
 |dK {a:Addr} {kvs:List (Key×V)} (e:H a=some (.dK kvs)):iT K H (.ref a) (.type "dict")
 |dT {a:Addr} {kvs:List (List Key×V)} (e:H a=some (.dT kvs)):iT K H (.ref a) (.type "dict")
 | ins {a C dx:Addr} {fs:List (Str×V)} (e:H a=some (.ins C dx fs)) (cl:rj K C) (ha:W.findIn K (.ref C) "__class__"=some (some (.builtin "object.__class__")))
   (hn:W.specialIn K (.builtin "object.__class__") "__get__"=some (some (.builtin "getset_descriptor.__get__"))) (htk:W.takesIn K (.builtin "object.__class__")=some true)
   (hm:W.mroIn K C (.type "object")=some true):iT K H (.ref a) (.ref C)
theorem ZfW{x:V}{u t:Value}(I:Inv X pins σ H s)(rx:RelV x u)(ty:iT X.K H x t)(e:W.kitOne X.K t c=some b)(h:∀tk,Q (.bool b) { s with toks:=tk }) :
  wpAny (model X.prog X.w) A (call (.builtin "isinstance") [u,c]) Q E s:=by
 cases ty with
 |aS=>cases(show u=Value.none from rx);exact amL W.kitx_none I.dI True.intro e (λz=>nomatch z) h
 |bl y=>cases(show u=Value.bool y from rx);exact amL W.kitx_bool I.dI True.intro e (λz=>nomatch z) h
 |int i=>obtain⟨t,q⟩:=(show ∃t,u=Value.int i t from rx);cases q;exact amL W.kitx_int I.dI True.intro e (λz=>nomatch z) h
 |str y=>obtain⟨t,q⟩:=(show ∃t,u=Value.str y t from rx);cases q;exact amL W.kitx_str I.dI True.intro e (λz=>nomatch z) h
 |zF y=>obtain⟨t,q⟩:=(show ∃t,u=Value.float y t from rx);cases q;exact amL W.kitx_float I.dI True.intro e (λz=>nomatch z) h
 | @lst a xs ea=>
  cases(show u=Value.ref a from rx);obtain⟨_,_,n,_,h1⟩:=(show aH X.prog X.w H s.heap a (.lst xs) from I.hok a _ ea);exact amL W.kitx_list I.dI ⟨_,h1,rfl⟩ e (λz=>nomatch z) h
 | @cR a ob xs ea=>
  cases(show u=Value.ref a from rx);obtain⟨_,_,_,n,_,h1⟩:=(show aH X.prog X.w H s.heap a (.cR ob (.lst xs)) from I.hok a _ ea);exact amL W.kitx_list I.dI ⟨_,h1,rfl⟩ e (λz=>nomatch z) h
 | @tup a xs ea=>
  cases(show u=Value.ref a from rx);obtain⟨_,_,_,p⟩:=(show aH X.prog X.w H s.heap a (.tup xs) from I.hok a _ ea);obtain⟨o,h1,h2,_⟩:=p;exact amL W.kitx_tuple I.dI ⟨o,h1,h2⟩ e (λz=>nomatch z) h
 | @dK a kvs ea=>
  cases(show u=Value.ref a from rx);obtain⟨_,_,vs,_,p⟩:=(show aH X.prog X.w H s.heap a (.dK kvs) from I.hok a _ ea);obtain⟨o,es,ep,h1,h2,_⟩:=p;exact amL W.kitx_dict I.dI ⟨o,h1,h2.1⟩ e (λz=>nomatch z) h
 | @dT a kvs ea=>
  cases(show u=Value.ref a from rx);obtain⟨_,_,xs,_,o,es,ep,h1,h2,_⟩:=(show aH X.prog X.w H s.heap a (.dT kvs) from I.hok a _ ea);exact amL W.kitx_dict I.dI ⟨o,h1,h2.1⟩ e (λz=>nomatch z) h
 | @ins a C dx fs ea cl ha hn htk hm=>
  cases(show u=Value.ref a from rx);obtain⟨mA,O,_⟩:=J4 I.hok ea;obtain⟨od,J,_⟩:=O.look;exact amL (W.kitx_own (cl.get _) cl.hd ha hn htk hm) I.dI J e (λz=>nomatch z) h
end
structure bf(k:Nat)(A:Around):Prop where
 hd:A.handled=none
 dp:A.depth+3*k+5<recursionLimit
 un:A.units+16*k+200<cLine
 gd:A.guards=some []
theorem bf.mono{j k:Nat}{A:Around}(r:bf k A)(h:j<=k):bf j A:=⟨r.hd,by have:=r.dp;lia,by have:=r.un;lia,r.gd⟩
theorem bf.deeper{k:Nat}{A:Around}(r:bf (k+1) A)(env:Env):bf k (A.deeper env):=
 ⟨r.hd,by have:=r.dp;show A.depth+1+3*k+5<_;lia,by have:=r.un;show A.units+3+16*k+200<_;lia,r.gd⟩
theorem Zfk{A:Around}{C:Addr}{us:List Value}{kw:List (Str×Value)}:(A.under (.builtin "type.__call__" ⟨.ref C ::us,kw⟩)).depth=A.depth+1:=by
 first|rfl|simp[Around.under,Code.weight,Code.isCreation,Code.isGuard,Code.isCaller,Code.frames,Code.isFrame,guardIds]
theorem Zfl{A:Around}{C:Addr}{us:List Value}{kw:List (Str×Value)}:(A.under (.builtin "type.__call__" ⟨.ref C ::us,kw⟩)).units=A.units+1:=by
 first|rfl|simp[Around.under,Code.cUnits,Code.frames,Code.isFrame]
theorem bf.make{k:Nat}{A:Around}(r:bf (k+1) A)(C:Addr)(us:List Value)(kw:List (Str×Value)):bf k (A.under (.builtin "type.__call__" ⟨.ref C ::us,kw⟩)):=
 ⟨r.hd,by have:=r.dp;rw[Zfk];lia,by have:=r.un;rw[Zfl];lia,r.gd⟩
theorem bf.depth{k:Nat}{A:Around}(r:bf k A):A.depth<recursionLimit:=by have:=r.dp;lia
theorem bf.units{k:Nat}{A:Around}(r:bf k A):A.units+64<cLine:=by have:=r.un;lia
def BG:TA:=λ_ H Q=>Q [] H
def Aq(ta:TE)(tr:TA):TA:=λσ H Q=>ta σ H λx H1=>tr σ H1 λxs H2=>Q (x ::xs) H2
section
variable{X:Cx}{e:Expr}{es:List Expr}{te:TE}{t:TA}{pos:Pos}
theorem Zb:PA X [] BG:=λ_ _ _ _ H Q I h=>aem ⟨[],H,I,.nil,h⟩
theorem Z1(ha:PE X e te)(hr:PA X es t)(hs:starEach (e ::es) X.env=(false,eval e X.env) ::starEach es X.env:=by rfl):PA X (e ::es) (Aq te t):=by
 intro pos pins s σ H Q I h;rw[hs];show wpAny _ _ (spliced ((false,eval e X.env) ::backTo pos (starEach es X.env))) _ _ s;refine aid (fB (ha pins s σ H _ I h) λu s1 x H1 I1 r1 q1=>?_);exact sy (hr pos pins s1 σ H1 _ I1 q1) λus s2 xs H2 I2 r2 q2=>⟨x ::xs,H2,I2,.cons r1 r2,q2⟩
def KQ(t:TA):TE:=λσ H Q=>t σ H λxs H1=>xs.length<=sizeLine/\∀p,H1 p=none->Q (.ref p) (upd H1 p (.tup xs))
def KW(t:TA):TE:=λσ H Q=>t σ H λxs H1=>xs.length<=sizeLine/\∀p,H1 p=none->Q (.ref p) (upd H1 p (.lst xs))
theorem ZI{x1}(h:PA X es t):PE X (.Tuple es x1 pos) (KQ t):=by
 intro pins s σ H Q I hq;refine wpAny_Tuple_spliced (bZ (h pos pins s σ H _ I hq) λus s1 ⟨xs,H1,I1,r,z,q⟩=>⟨by rw[<-r.length];exact z,?_⟩);have hf:H1 s1.heap.objs.size=none:=I1.hok.fresh (ags _);refine⟨.ref s1.heap.objs.size,upd H1 s1.heap.objs.size (.tup xs),I1.laid (t':=s1.toks) (λb u e=>a8r _ e) (ags _) ?_,rfl,q _ hf⟩;exact⟨z,us,r,⟨_,arT _ rfl,rfl,_,rfl⟩⟩
theorem qE(h:PA X es t):PE X (.List es pos) (KW t):=by
 intro pins s σ H Q I hq;refine wpAny_List_spliced (bZ (h pos pins s σ H _ I hq) λus s1 ⟨xs,H1,I1,r,z,q⟩=>⟨by rw[<-r.length];exact z,?_⟩);have hf:H1 s1.heap.objs.size=none:=I1.hok.fresh (ags _);refine⟨.ref s1.heap.objs.size,upd H1 s1.heap.objs.size (.lst xs),I1.laid (t':=s1.toks) (λb u e=>a8r _ e) (ags _) ?_,rfl,q _ hf⟩;exact⟨z,us,0,r,arT _ rfl⟩
end
abbrev Sp:=List V->Hp->VK->XK->Prop
abbrev yE:=List Env->Hp->Shared->XK->Value->Shared->Prop
structure sr(P:Program)(w:World)(K:W.Frag)(mg:Str->Option Value)(base:Heap)(A:Around)(outer:List Env)(s:Shared)(H:Hp):Prop where
 frames:A.frames=some outer
 mod:Mod K mg base
 bs:∀b o,base.get? b=some o->s.heap.get? b=some o/\H b=none
 yp:base.objs.size<=s.heap.objs.size
 jL:s.heap.FunFrames base outer
 CA:∀b∈frs outer,H b=none
 hok:dW P w H s.heap
 bare:AllBare s.gens
def CE(outer:List Env)(P:Program)(w:World)(H:Hp)(s:Shared)(Q:VK)(u:Value)(s':Shared):Prop:=
 ∃v H',s'.os=s.os/\AllBare s'.gens/\Un (frs outer) [] H H' s.heap s'.heap/\dW P w H' s'.heap/\RelV v u/\Q v H'
def CR(CX:yE)(outer:List Env)(P:Program)(w:World)(H:Hp)(s:Shared)(Q:VK)(E:XK)(r:Result)(s':Shared):Prop:=
 match r with
 | .ok (.ret u)=>CE outer P w H s Q u s'
 | .ok _=>False
 | .error e=>CX outer H s E e s'
structure cJ(P:Program)(w:World)(K:W.Frag)(mg:Str->Option Value)(base:Heap)(CX:yE)(k:Nat)(f:Addr)(fd:FuncData)(ps:List Str)(sp:Sp):Prop where
 len:∀vs H Q E,sp vs H Q E->vs.length=ps.length
 run:∀(A:Around)(outer:List Env)(s:Shared)(H:Hp)(args:Args)(us:List Value)(vs:List V)(Q:VK)(E:XK),bf k A->sr P w K mg base A outer s H->BindsTo s fd args (ps.zip us)->Vals vs us->sp vs H Q E ->
  codeAny (model P w) A (.call (.ref f) args) (CR CX outer P w H s Q E) s
theorem sr.make{P:Program}{w:World}{K:W.Frag}{mg:Str->Option Value}{base:Heap}{A:Around}{outer:List Env}{s:Shared}{H:Hp}(e:sr P w K mg base A outer s H)(C:Addr)(us:List Value)(kw:List (Str×Value)) :
  sr P w K mg base (A.under (.builtin "type.__call__" ⟨.ref C ::us,kw⟩)) outer s H:=⟨by first|exact e.frames|(simpa[Around.under,Code.envs,Code.isFrame,pushEnvs]using e.frames),e.mod,e.bs,e.yp,e.jL,e.CA,e.hok,e.bare⟩
section
variable{X:Cx}{pins:List (Addr×Obj)}{σ:St}{H:Hp}{s s':Shared}
theorem Inv.GU(I:Inv X pins σ H s):sr X.prog X.w X.K X.mg X.base X.A X.stack s H:=
 ⟨I.ok.frames,I.ok.mod,I.bs,a0n I.ok.yp I.sz,I.stack,I.nC,I.hok,I.bare⟩
theorem Inv.after{Q:VK}{u:Value}(I:Inv X pins σ H s)(h:CE X.stack X.prog X.w H s Q u s'):EP X pins σ Q u s':=by
 obtain⟨v,H',os,bare,un,hok,r,q⟩:=h;obtain⟨hh,g,d,t,os'⟩:=s';obtain rfl:os'=s.os:=os;exact⟨v,H',I.call (h':=hh) (g':=g) (d':=d) (t':=t) (ch:=[]) un hok bare (λb z=>absurd z (by simp)),r,q⟩
end
def sD(sp:Sp)(l7:List V)(E:XK)(t:TA):TE:=λσ H Q=>t σ H λvs H1=>sp (vs++l7) H1 Q E
def sA(C:Addr)(m:Str)(sp:Sp)(l7:List V)(E:XK)(ta:TE)(t:TA):TE:=λσ H Q=>ta σ H λx H1=>∃a dx fs,x=.ref a/\H1 a=some (.ins C dx fs)/\fs.lookup m=none /\
 t σ H1 λvs H2=>sp (x ::(vs++l7)) H2 Q E
def Ao(C:Addr)(sp:Sp)(l7:List V)(E:XK)(t:TA):TE:=λσ H Q=>t σ H λvs H1=>∀x dx,H1 x=none->H1 dx=none->dx≠x ->
 sp (.ref x ::(vs++l7)) (upd (upd H1 dx (.own x)) x (.ins C dx [])) (λv H2=>v=.aS/\Q (.ref x) H2) E
def Binds(K:W.Frag)(fd:FuncData)(ps:List Str)(ds:List Value):Prop:=
 ∀(s:Shared)(us:List Value),K.In s.heap->(us++ds).length=ps.length->BindsTo s fd ⟨us,[]⟩ (ps.zip (us++ds))
theorem Binds.all{K:W.Frag}{fd:FuncData}{ps:List Str}(h:∀us:List Value,us.length=ps.length->bindArgs fd ⟨us,[]⟩=pure (ps.zip us)):Binds K fd ps []:=λs us _ hl=>by
 rw[aWa]at hl ⊢;exact .of_eq (h us hl)
def CS(CX:yE)(X:Cx)(E:XK):Prop:=∀(pins:List (Addr×Obj))(σ:St)(H:Hp)(s:Shared)(e:Value)(s':Shared),Inv X pins σ H s->CX X.stack H s E e s'->X.xe e s'
section
variable{X:Cx}{CX:yE}{k:Nat}{f C:Addr}{fd:FuncData}{ps:List Str}{sp:Sp}{l7:List V}{ds:List Value}{E:XK}{x m:Str}{p pos apos:Pos}{e o:Expr}{es:List Expr}{ta:TE}{t:TA}
theorem JF{pins:List (Addr×Obj)}{σ:St}{H:Hp}{s:Shared}{Q:VK}{us:List Value}{vs:List V}(F:cJ X.prog X.w X.K X.mg X.base CX k f fd ps sp)(hr:bf k X.A)(hb:Binds X.K fd ps ds)(hd:Vals l7 ds)(hx:CS CX X E)
  (I:Inv X pins σ H s) (r:Vals vs us) (h:sp (vs++l7) H Q E):wpAny (model X.prog X.w) X.A (call (.ref f) us) (EP X pins σ Q) X.xe s:=by
 have r2:Vals (vs++l7) (us++ds):=r.append hd;have hl:(us++ds).length=ps.length:=by rw[<-r2.length];exact F.len _ _ _ _ h
 refine wpAny_call (codeAny_mono (F.run X.A X.stack s H ⟨us,[]⟩ (us++ds) (vs++l7) Q E hr I.GU (hb s us I.dI hl) r2 h) λr s' hq=>?_);cases r with
 |error e=>exact hx pins σ H s e s' I hq
 |ok fl=>
  cases fl with
  |ret u=>exact I.after hq
  |next=>exact False.elim hq
  |brk=>exact False.elim hq
  |cont=>exact False.elim hq
theorem Z0(F:cJ X.prog X.w X.K X.mg X.base CX k f fd ps sp)(hr:bf k X.A)(hg:Gl X x)(hm:X.mg x=some (.ref f))(hk:W.keepIn X.K (.ref f)=true)(hb:Binds X.K fd ps ds)(hd:Vals l7 ds)(hx:CS CX X E)
  (ha:PA X (e ::es) t) (hdb:(x ==("__debug__":Str))=false:=by decide) (he:starEach (e ::es) X.env=(false,eval e X.env) ::starEach es X.env:=by rfl) (hpl:(backTo pos (starEach es X.env)).any (·.1)=false:=by rfl) :
  PE X (.Call (.Name x p) (e ::es) [] pos) (sD sp l7 E t):=by
 intro pins s σ H Q I h;refine aqT (J5 I hg hm ?_ hdb);refine W.callWith_K (h₀:=X.base) I.ok.mod.DJ hk (sy (ha pos pins s σ H _ I h) λus s1 vs H1 I1 r q=>⟨I1.dI,?_⟩) he hpl;exact JF F hr hb hd hx I1 r q
theorem Y9{pl:Sem Bool}(he:PE X o ta)(c:rj X.K C)(hm:Meth X.K C m f)(F:cJ X.prog X.w X.K X.mg X.base CX k f fd ps sp)(hr:bf k X.A)(hb:Binds X.K fd ps ds)(hd:Vals l7 ds)(hx:CS CX X E)(ha:PA X (e ::es) t)
  (hst:starEach (e ::es) X.env=(false,eval e X.env) ::starEach es X.env:=by rfl) (hpl:(backTo pos (starEach es X.env)).any (·.1)=false:=by rfl)
  (ht:eval (.Call (.Attribute o m apos) (e ::es) [] pos) X.env=(do
   let ov <-eval o X.env
   standAt apos.atName
   let(f,first) <-holding [ov] (getMethod ov m pl)
   callWith pos f first (backTo pos (starEach (e ::es) X.env)) (backToKw pos (keywordEach [] X.env))):=by rfl) :
  PE X (.Call (.Attribute o m apos) (e ::es) [] pos) (sA C m sp l7 E ta t):=by
 intro pins s σ H Q I h;refine W.methodCall_KW (pl:=pl) (bZ (he pins s σ H _ I h) λu s1 ⟨x,H1,I1,rx,a,dx,fs,ex,ea,l,q⟩=>?_) ht;subst ex;obtain rfl:u=Value.ref a:=rx;refine S0 I1 ea c hm l ?_;refine W.callWith_K (first:=[.ref a]) (h₀:=X.base) I.ok.mod.DJ hm.kp (sy (ha pos pins s1 σ H1 _ I1 q) λus s2 vs H2 I2 r q2=>⟨I2.dI,?_⟩) hst hpl;exact JF (us:=.ref a ::us) (vs:=.ref a ::vs) F hr hb hd hx I2 (.cons rfl r) q2
theorem Zhz{pl:Sem Bool}(he:PE X o ta)(c:rj X.K C)(hm:Meth X.K C m f)(F:cJ X.prog X.w X.K X.mg X.base CX k f fd ps sp)(hr:bf k X.A)(hb:Binds X.K fd ps ds)(hd:Vals l7 ds)(hx:CS CX X E)
  (ht:eval (.Call (.Attribute o m apos) [] [] pos) X.env=(do
   let ov <-eval o X.env
   standAt apos.atName
   let(f,first) <-holding [ov] (getMethod ov m pl)
   callWith pos f first (backTo pos (starEach [] X.env)) (backToKw pos (keywordEach [] X.env))):=by rfl) :
  PE X (.Call (.Attribute o m apos) [] [] pos) (sA C m sp l7 E ta BG):=by
 intro pins s σ H Q I h;refine W.methodCall_KW (pl:=pl) (bZ (he pins s σ H _ I h) λu s1 ⟨x,H1,I1,rx,a,dx,fs,ex,ea,l,q⟩=>?_) ht;subst ex;obtain rfl:u=Value.ref a:=rx;refine S0 I1 ea c hm l ?_;exact W.callWith_K0 (first:=[.ref a]) I1.dI hm.kp (JF (us:=[.ref a]) (vs:=[.ref a]) F hr hb hd hx I1 (.cons rfl .nil) q)
structure Mk(K:W.Frag)(C f:Addr):Prop where
 makes:W.makesIn K C=true
 init:W.findIn K (.ref C) "__init__"=some (some (.ref f))
 fn:W.isFn K (.ref f)=true
 kp:W.keepIn K (.ref C)=true
theorem ZhA{pins:List (Addr×Obj)}{σ:St}{H:Hp}{s:Shared}{Q:VK}{us:List Value}{vs:List V}(M:Mk X.K C f)(F:cJ X.prog X.w X.K X.mg X.base CX k f fd ps sp)(hr:bf (k+1) X.A)(hb:Binds X.K fd ps ds)(hd:Vals l7 ds)
  (hx:CS CX X E) (I:Inv X pins σ H s) (r:Vals vs us)
  (h:∀x dx,H x=none->H dx=none->dx≠x->sp (.ref x ::(vs++l7)) (upd (upd H dx (.own x)) x (.ins C dx [])) (λv H2=>v=.aS/\Q (.ref x) H2) E) :
  wpAny (model X.prog X.w) X.A (call (.ref C) us) (EP X pins σ Q) X.xe s:=by
 have hq:=h (s.heap.objs.size+1) s.heap.objs.size (I.hok.fresh (apE _)) (I.hok.fresh (ags _)) (ar8 (Nat.lt_succ_self _));have I2:=Inv.made (C:=C) I;have r2:Vals (V.ref (s.heap.objs.size+1) ::(vs++l7)) (Value.ref (s.heap.objs.size+1) ::(us++ds)):=.cons rfl (r.append hd);have hl:(Value.ref (s.heap.objs.size+1) ::us++ds).length=ps.length:=by
  have e:=r2.length;rw[F.len _ _ _ _ hq]at e;exact e.symm
 refine wpAny_call (Zhy (f:=f) I.dI M.makes M.init (aCi.mp M.fn) (codeAny_mono (F.run _ X.stack _ _ ⟨Value.ref (s.heap.objs.size+1) ::us,[]⟩ (Value.ref (s.heap.objs.size+1) ::(us++ds)) _ _ E (hr.make C us [])
  (I2.GU.make C us []) (hb _ (Value.ref (s.heap.objs.size+1) ::us) I2.dI hl) r2 hq) λr s' hq'=>?_))
 cases r with
 |error e=>exact hx pins σ _ _ e s' I2 hq'
 |ok fl=>
  cases fl with
  |ret u=>
   obtain⟨v,H',I3,rv,ev,q3⟩:=I2.after hq';subst ev;exact⟨rv,⟨V.ref (s.heap.objs.size+1),H',I3,rfl,q3⟩⟩
  |next=>exact False.elim hq'
  |brk=>exact False.elim hq'
  |cont=>exact False.elim hq'
theorem Y8(M:Mk X.K C f)(F:cJ X.prog X.w X.K X.mg X.base CX k f fd ps sp)(hr:bf (k+1) X.A)(hg:Gl X x)(hm:X.mg x=some (.ref C))(hb:Binds X.K fd ps ds)(hd:Vals l7 ds)(hx:CS CX X E)
  (ha:PA X (e ::es) t) (hdb:(x ==("__debug__":Str))=false:=by decide) (he:starEach (e ::es) X.env=(false,eval e X.env) ::starEach es X.env:=by rfl) (hpl:(backTo pos (starEach es X.env)).any (·.1)=false:=by rfl) :
  PE X (.Call (.Name x p) (e ::es) [] pos) (Ao C sp l7 E t):=by
 intro pins s σ H Q I h;refine aqT (J5 I hg hm ?_ hdb);refine W.callWith_K (h₀:=X.base) I.ok.mod.DJ M.kp (sy (ha pos pins s σ H _ I h) λus s1 vs H1 I1 r q=>⟨I1.dI,?_⟩) he hpl;exact ZhA M F hr hb hd hx I1 r q
end
structure fz(N P:List Str)(sc:Scope):Prop where
 kind:sc.kind=.function
 co:sc.isCoroutine=false
 gen:sc.isGenerator=false
 nd:N.Nodup
 pre:N.take P.length=P
 par:∀x∈P,sc.names.lookup x=some .local\/sc.names.lookup x=some .cell
 Ce:∀y∈sc.names,y.2≠.free
theorem SG{kindOf:Str->Option NameKind}{x:Str}:∀{binds:List (Str×Value)}{m:Str->Option Value},(∀v,(x,v)∉binds)->bindL kindOf binds m x=m x
 | [],_,_=>rfl
 |(n,v) ::r,m,h=>by
  unfold bindL;rw[SG λw hw=>h w (arx _ hw)];split
  .have:x≠n:=by rintro rfl;exact h v aTL
   simp[this]
  .rfl
theorem SE{kindOf:Str->Option NameKind}{x:Str}:∀{binds:List (Str×Value)}{m:Str->Option Value},(∀v,(x,v)∉binds)->bindC kindOf binds m x=m x
 | [],_,_=>rfl
 |(n,v) ::r,m,h=>by
  unfold bindC;rw[SE λw hw=>h w (arx _ hw)];split
  .rfl
  .have:x≠n:=by rintro rfl;exact h v aTL
   simp[this]
theorem SD{kindOf:Str->Option NameKind}{x:Str}{v:Value}:∀{P:List Str}{vs:List Value}{i:Nat}{m:Str->Option Value},P.Nodup->P[i]?=some x->vs[i]?=some v->kindOf x=some .local ->
  bindL kindOf (P.zip vs) m x=some v
 | [],_,_,_,_,h,_,_=>by simp at h
 |_ ::_,[],_,_,_,_,h,_=>by simp at h
 |p ::P,w ::vs,0,m,nd,h1,h2,hk=>by
  simp at h1 h2;subst h1;subst h2;show bindL kindOf ((p,w) ::P.zip vs) m p=_;unfold bindL;rw[SG λv hv=>(baB.mp nd).1 (List.of_mem_zip hv).1,aaU hk];simp
 |p ::P,w ::vs,i+1,m,nd,h1,h2,hk=>by
  show bindL kindOf ((p,w) ::P.zip vs) m x=_;unfold bindL;exact SD (i:=i) (baB.mp nd).2 (by simpa using h1) (by simpa using h2) hk
theorem Sz{kindOf:Str->Option NameKind}{x:Str}{v:Value}:∀{P:List Str}{vs:List Value}{i:Nat}{m:Str->Option Value},P.Nodup->P[i]?=some x->vs[i]?=some v->kindOf x≠some .local ->
  bindC kindOf (P.zip vs) m x=some v
 | [],_,_,_,_,h,_,_=>by simp at h
 |_ ::_,[],_,_,_,_,h,_=>by simp at h
 |p ::P,w ::vs,0,m,nd,h1,h2,hk=>by
  simp at h1 h2;subst h1;subst h2;show bindC kindOf ((p,w) ::P.zip vs) m p=_;unfold bindC;rw[SE λv hv=>(baB.mp nd).1 (List.of_mem_zip hv).1,afn hk];simp
 |p ::P,w ::vs,i+1,m,nd,h1,h2,hk=>by
  show bindC kindOf ((p,w) ::P.zip vs) m x=_;unfold bindC;exact Sz (i:=i) (baB.mp nd).2 (by simpa using h1) (by simpa using h2) hk
def start(N:List Str)(vs:List V):St:=vs.map some++List.replicate (N.length-vs.length) none
def qw(CX:yE)(P:Program)(w:World)(K:W.Frag)(mg:Str->Option Value)(base:Heap)(N:List Str)(qual:Str)(scope:Scope)(f:Addr)(cd:Value)(A:Around)(outer:List Env)(s:Shared)(H:Hp)(E:XK):Cx where
 prog:=P
 w:=w
 K:=K
 mg:=mg
 base:=base
 A:=A.deeper (envOfC qual scope s.heap.objs.size f cd)
 N:=N
 s₀:=s
 H₀:=H
 env:=envOfC qual scope s.heap.objs.size f cd
 outer:=outer
 stack:=envOfC qual scope s.heap.objs.size f cd ::outer
 ex:=[]
 calm:=true
 fn:=λ_=>true
 pn:=[]
 xe:=λe s'=>wpAny (model P w) (A.deeper (envOfC qual scope s.heap.objs.size f cd)) (leaving (envOfC qual scope s.heap.objs.size f cd) e) (λ_ s''=>CX outer H s E e s'') (λe' s''=>CX outer H s E e' s'') s'
theorem RO{sc:Scope}{n:Nat}{x:Str}(h:sc.names.lookup x=some .cell):∃c,(cellsFrom n sc.names []).lookup x=some c:=by
 have q:=W.cellsFrom_some sc.names n [] (.inl h);exact Option.isSome_iff_exists.mp q
theorem ZfX{CX:yE}{P:Program}{w:World}{K:W.Frag}{mg:Str->Option Value}{base:Heap}{N ps:List Str}{qual:Str}{scope:Scope}{f:Addr}{cd:Value}{A:Around}{outer:List Env}{s s1:Shared}{H:Hp}{E:XK}{us:List Value}{vs:List V}
  (S:fz N ps scope) (hd:A.handled=none) (e0:sr P w K mg base A outer s H) (hl:vs.length=ps.length) (r:Vals vs us)
  (x:InCallC s s.heap.objs.size (bindL (envOfC qual scope s.heap.objs.size f cd).kindOf (ps.zip us) λ_=>none) (cellsFrom (s.heap.objs.size+1) scope.names []) (bindC (envOfC qual scope s.heap.objs.size f cd).kindOf (ps.zip us) λ_=>none) s1) :
  Inv (qw CX P w K mg base N qual scope f cd A outer s H E) [] (start N vs) H s1:=by
 have hpl:ps.length<=N.length:=by have:=azy List.length S.pre;rw[bbw]at this;lia
 obtain⟨h1,tk,rfl,hk⟩:=x.done;have Cg:∀b:Addr,b∉(qw CX P w K mg base N qual scope f cd A outer s H E).ex:=λb z=>absurd (show b∈([]:List Addr) from z) (by simp);refine⟨⟨e0.mod,S.kind,rfl,rfl,ags _,λy z c h1 h2=>?_,λy hy=>?_,λy c _ h=>?_,λ_=>hd,Around.frames_deeper e0.frames,.inr ⟨rfl,rfl⟩,λb z=>absurd z (Cg b),e0.bs,e0.yp,λb _ _=>Cg b,λb z=>absurd z (Cg b),e0.jL,e0.CA⟩,
  rfl,e0.bare,Un.kept hk,⟨_,x.toInCall.ns,λi y v h1 h2 h3=>?_⟩,λy c h=>⟨_,x.cell y c h⟩,e0.hok.fresh (ags _),λy c h=>?_,λp hp=>absurd (show p∈([]:List (Addr×Obj)) from hp) (by simp),e0.hok.kept hk,?_⟩
 .exact name_of_addr x.apart (avO h1) (avO h2)
 .have hy:scope.names.lookup y=some .cell\/scope.names.lookup y=some .free:=hy;rcases hy with hy|hy
  .exact RO hy
  .exact absurd rfl (S.Ce _ (avO hy))
 .exact aUL (x.above y c (avO h))
 .have hi:i<vs.length:=by
   unfold start at h2;by_cases hi:i<vs.length
   .exact hi
   .rw [a8o (by simpa using hi)]at h2;rw[a7B]at h2;split at h2 <;> cases h2
  have ha:vs[i]?=some v:=by
   unfold start at h2;rw[aGp (by simpa using hi),acC]at h2;cases e:vs[i]? with
   |none=>rw[e]at h2;cases h2
   |some a=>rw[e]at h2;cases h2;rfl
  obtain⟨u,hu,rv⟩:=r.get ha;have hp:ps[i]?=some y:=by
   rw[<-S.pre,List.getElem?_take_of_lt (by lia)];exact h1
  have OO:ps.Nodup:=by rw[<-S.pre];exact S.nd.sublist (List.take_sublist _ _)
  refine⟨u,rv,?_⟩;rcases S.par y (bcc hp) with k|k
  .exact .inl ⟨k,SD OO hp hu k⟩
  .obtain ⟨c,e⟩:=RO (n:=s.heap.objs.size+1) k;refine .inr ⟨.inl k,c,e,?_⟩;have q:=x.cell y c e;rw[Sz OO hp hu (by show scope.names.lookup y≠_;rw[k];decide)]at q;exact q
 .exact e0.hok.fresh (aUL (x.above y c (avO h)))
 .unfold start;show _=N.length;rw[aKe,axO,aSy];lia
theorem Ba{CX:yE}{P:Program}{w:World}{K:W.Frag}{mg:Str->Option Value}{base:Heap}{k:Nat}{f:Addr}{name qual:Str}{params:Arguments}{body:List Stmt}{scope:Scope}{dV kV doc pm cdv ct oc:Value}{an od:Option Addr}
  {osl:Array (Option Value)} {N ps:List Str} {sp:Sp} (lk:K.lookup f=some ⟨oc,od,.func (W.fnOf name qual params body scope dV kV doc pm an cdv ct),osl⟩) (hcd:W.codeIn K cdv qual=true) (S:fz N ps scope)
  (len:∀vs H Q E,sp vs H Q E->vs.length=ps.length)
  (hbody:∀(A:Around)(outer:List Env)(s:Shared)(H:Hp)(vs:List V)(Q:VK)(E:XK),bf k (A.deeper (envOfC qual scope s.heap.objs.size f cdv))->sp vs H Q E ->
   ∃t,uM (qw CX P w K mg base N qual scope f cdv A outer s H E) body t/\t { nx:=λ_ H'=>Q .aS H',rt:=Q } (start N vs) H) :
  cJ P w K mg base CX (k+1) f (W.fnOf name qual params body scope dV kV doc pm an cdv ct) ps sp:=by
 refine⟨len,λA outer s H args us vs Q E hr e0 hb r uD=>?_⟩;have hl:=len _ _ _ _ uD;have KX:K.In s.heap:=e0.mod.DJ.keeps λb o e=>(e0.bs b o e).1;have lim:s.heap.NoLimit:=e0.mod.nolimit.keeps λb o e=>(e0.bs b o e).1;have hkind:∀y∈ps.zip us,scope.names.lookup y.1=some .local\/(scope.names.lookup y.1=some .cell/\((cellsFrom (s.heap.objs.size+1) scope.names []).lookup y.1).isSome=true):=λ⟨n,v⟩ hy=>by
  rcases S.par n (List.of_mem_zip hy).1 with q|q
  .exact .inl q
  .exact .inr ⟨q,W.cellsFrom_some _ _ _ (.inl q)⟩
 refine codeAny_call_function hr.depth (KX _ _ lk) rfl S.co S.gen rfl (W.codeRec_of KX hcd) (hb _ _ _ _ ?_);refine wpAny_newFunctionEnv_cells S.kind hkind λenv he s1 x=>?_;subst he;refine⟨lim.keeps x.toInCall.keep,codeAny_func ?_⟩;obtain⟨t,ht,hq⟩:=hbody A outer s H vs Q E (hr.deeper _) uD;have I:Inv (qw CX P w K mg base N qual scope f cdv A outer s H E) [] (start N vs) H s1:=ZfX S hr.hd e0 hl r x;refine a4X (ht [] s1 (start N vs) H _ I hq) (λfl s' hs=>?_) λe s' hs=>hs;have fin:∀{σ':St}{H':Hp}{v:V}{u:Value},Inv (qw CX P w K mg base N qual scope f cdv A outer s H E) [] σ' H' s'->RelV v u->Q v H'->CE outer P w H s Q u s':=
  λ{σ' H' v u} J rv q=>⟨v,H',J.os,J.bare,J.base,J.hok,rv,q⟩
 cases fl with
 |ret u=>
  obtain⟨v,σ',H',J,rv,q⟩:=hs;exact fin J rv q
 |next=>
  obtain⟨σ',H',J,q⟩:=hs;exact fin (v:=V.aS) (u:=Value.none) J rfl q
 |brk=>
  obtain⟨_,_,_,q⟩:=hs;exact False.elim q
 |cont=>
  obtain⟨_,_,_,q⟩:=hs;exact False.elim q
section
variable{X:Cx}{x:Str}{p pos:Pos}{e:Expr}{es:List Expr}{t:TA}{id T:String}{r:List V->Hp->VK->Prop}
def IJ(r:List V->Hp->VK->Prop)(t:TA):TE:=λσ H Q=>t σ H λvs H1=>r vs H1 Q
theorem ZhB(hc:bG X (.builtin id) r)(hg:Gl X x)(hm:X.mg x=none)(hv:bootBuiltins x=some (.builtin id))(ha:PA X (e ::es) t)(hn:x ≠ "__name__":=by decide)(hdb:(x ==("__debug__":Str))=false:=by decide)
  (he:starEach (e ::es) X.env=(false,eval e X.env) ::starEach es X.env:=by rfl) (hpl:(backTo pos (starEach es X.env)).any (·.1)=false:=by rfl):PE X (.Call (.Name x p) (e ::es) [] pos) (IJ r t):=by
 intro pins s σ H Q I h;refine aqT (yv I hg hm hv ?_ hn hdb);exact PyProof.Rows.callWith_builtin1 (sy (ha pos pins s σ H _ I h) λus s1 vs H1 I1 r1 q1=>hc pins s1 σ H1 vs us Q I1 r1 q1) he hpl
theorem ZfY(hc:bG X (.type T) r)(hg:Gl X x)(hm:X.mg x=none)(hv:bootBuiltins x=some (.type T))(ha:PA X (e ::es) t)(hn:x ≠ "__name__":=by decide)(hdb:(x ==("__debug__":Str))=false:=by decide)
  (he:starEach (e ::es) X.env=(false,eval e X.env) ::starEach es X.env:=by rfl) (hpl:(backTo pos (starEach es X.env)).any (·.1)=false:=by rfl):PE X (.Call (.Name x p) (e ::es) [] pos) (IJ r t):=by
 intro pins s σ H Q I h;refine aqT (yv I hg hm hv ?_ hn hdb);exact av3 (sy (ha pos pins s σ H _ I h) λus s1 vs H1 I1 r1 q1=>hc pins s1 σ H1 vs us Q I1 r1 q1) he hpl
end
end L2
namespace HT
open PySem PyProof.Rows
theorem iy(A:Around)(s:Shared)(a:Int)(t:Tok)(c:Int)(u:Tok):∃e,SeqAt.EqAt A s (.int a t) (.int c u) e/\(e=true↔a=c):=
 ⟨(a ==c),SeqAt.EqAt.int_int a t c u,by simp⟩
section
open PySem.SeqAt
open PySem.AutoSeq1 (wpAny_loadPart')
open PySem.MeetsSeq PySem.MeetsSeq2 PySem.MeetsSeq3
end
section
variable{prog:Program}{w:World}{A:Around}{E:Value->Shared->Prop}{s:Shared}
theorem zN{t b:Addr}{vs ws:List Value}{Q:Value->Shared->Prop}(ht:IsTup s.heap t vs.toArray)(hb:IsTup s.heap b ws.toArray)(hv:vs≠[])
  (h1:ws=[]->Q (.ref t) s) (h2:ws≠[]->Q (.ref s.heap.objs.size) { s with heap:=s.heap.push { cls:=.type "tuple",data:=.seq (vs++ws).toArray } })
  (hsz:vs.length+ws.length<=sizeLine):wpAny (model prog w) A (binaryOp .Add (.ref t) (.ref b)) Q E s:=by
 obtain⟨⟨cls,dd,data,sl⟩,ho,hc,n,hd⟩:=id ht;obtain⟨⟨Xr,dd2,data2,sl2⟩,ho2,hc2,n2,hd2⟩:=id hb;simp only at hc hd hc2 hd2;subst hc hd hc2 hd2;have e:vs.toArray++ws.toArray=(vs++ws).toArray:=by simp
 by_cases hw:ws=[]
 .exact concat_meets ⟨_,ho,rfl⟩ ⟨_,ho2,rfl⟩ noFill_tuple_add seq_tuple_add aZy akN (aL8 _ _)
   (tuple_addW1 t b vs.toArray ws.toArray n n2 dd dd2 sl sl2 (by simpa using hv) (by simp[hw])) ⟨ho,ho2,h1 hw⟩
 .refine concat_meets ⟨_,ho,rfl⟩ ⟨_,ho2,rfl⟩ noFill_tuple_add seq_tuple_add aZy akN (aL8 _ _)
   (tuple_addW2 t b vs.toArray ws.toArray n n2 dd dd2 sl sl2 (by simpa using hv) (by simpa using hw) (by rw[aCS,aCS];exact hsz)) ⟨ho,ho2,?_⟩
  rw[e];exact h2 hw
def bC(n d:Nat):Option Int->Nat
 |none=>d
 |some v=>if v<0 then(v+(n:Int)).toNat else min v.toNat n
theorem pU(n d:Nat):bC n d none=d:=rfl
theorem nT(n d k:Nat):bC n d (some (k:Int))=min k n:=by
 show(if(k:Int)<0 then((k:Int)+(n:Int)).toNat else min (k:Int).toNat n)=min k n;rw[afn (by lia),Int.toNat_natCast]
theorem Yc(n d:Nat)(hd:d<=n)(o:Option Int):bC n d o<=n:=by
 cases o with
 |none=>exact hd
 |some v=>
  show(if v<0 then(v+(n:Int)).toNat else min v.toNat n)<=n;by_cases hv:v<0
  .rw [aaU hv];lia
  .rw [afn hv];exact Nat.min_le_right _ _
theorem RB(v:Int)(n d:Nat):(if v<0 then max (v+(n:Int)) 0 else min v (n:Int))=((bC n d (some v):Nat):Int):=by
 show(if v<0 then max (v+(n:Int)) 0 else min v (n:Int))=(((if v<0 then(v+(n:Int)).toNat else min v.toNat n):Nat):Int);by_cases hv:v<0
 .simp only[aaU hv];lia
 .simp only[afn hv];lia
theorem Zfm(lo hi:Option Int)(n:Nat):Builtin.Slice.sliceAdjust lo hi 1 (n:Int)=(((bC n 0 lo:Nat):Int),((bC n n hi:Nat):Int)):=by
 have h1:¬((1:Int)<0):=by lia
 unfold Builtin.Slice.sliceAdjust;simp only[h1,a3v];refine Prod.ext ?_ ?_
 .cases lo with
  |none=>rfl
  |some v=>exact RB v n 0
 .cases hi with
  |none=>rfl
  |some v=>exact RB v n n
theorem Zfn(i j:Nat):Builtin.Slice.slicePlaces (i:Int) (j:Int) 1=j-i:=by
 unfold Builtin.Slice.slicePlaces;have h1:(1:Int)>0:=by lia
 simp only[h1,a6Z,Int.ediv_one];split <;> lia
theorem SY{v:Value}{o:Option Int}{Q:Option Int->Shared->Prop}(p:IsPart v o)(h:Q o s):wpAny (model prog w) A (Builtin.Slice.slicePartIndex v) Q E s:=by
 cases p with
 |none=>exact slicePart_none h
 |int i t=>exact slicePart_int h
theorem Th{sl:Addr}{vl vu:Value}{lo hi:Option Int}{n:Nat}{Q:Int×Int×Nat->Shared->Prop}(hs:s.heap.IsSliceOf sl vl vu .none)(pl:IsPart vl lo)(pu:IsPart vu hi)
  (h:Q (((bC n 0 lo:Nat):Int),1,bC n n hi-bC n 0 lo) s):wpAny (model prog w) A (Builtin.Slice.sliceApplied (.ref sl) (pure (n:Int))) Q E s:=by
 obtain⟨os,hos,hcs,hds⟩:=id hs;unfold Builtin.Slice.sliceApplied Builtin.Slice.sliceFields;refine asu (asu (aQj hos hds (x:=vl) rfl (asu (aQj hos hds (x:=vu) rfl (asu (aQj hos hds (x:=.none) rfl (aJq ?_)))))));refine asu (slicePart_none ?_);show wpAny _ _ (if((1:Int) ==0)=true then _ else _) _ _ s;rw[afn (by decide)];refine asu (SY pl (asu (SY pu (asu (aJq ?_)))));show wpAny _ _ (match Builtin.Slice.sliceAdjust lo hi 1 (n:Int) with|(lo,hi)=>pure (lo,(1:Int),Builtin.Slice.slicePlaces lo hi 1)) _ _ s;rw[Zfm lo hi n];show wpAny _ _ (pure (((bC n 0 lo:Nat):Int),(1:Int),Builtin.Slice.slicePlaces ((bC n 0 lo:Nat):Int) ((bC n n hi:Nat):Int) 1)) _ _ s;rw[Zfn];exact aJq h
theorem ZhC(xs:Array Value)(i k:Nat):((List.range k).filterMap λ(m:Nat)=>xs[((i:Int)+(m:Int)*1).toNat]?).toArray=((xs.toList.drop i).take k).toArray:=by
 have e:(λ(m:Nat)=>xs[((i:Int)+(m:Int)*1).toNat]?)=λm=>xs[i+m]?:=by
  funext m
  have:((i:Int)+(m:Int)*1).toNat=i+m:=by lia
  rw[this]
 rw[e];have:=pick_run xs i k;rw[List.filterMap_map]at this;have e2:((λx=>xs[x]?) ∘ λx=>i+x)=λm=>xs[i+m]?:=rfl;rw[e2]at this;rw[this]
theorem iu{t sl:Addr}{items:Array Value}{vl vu:Value}{lo hi:Option Int}{Q:Value->Shared->Prop}(ht:IsTup s.heap t items)(hs:s.heap.IsSliceOf sl vl vu .none)(pl:IsPart vl lo)(pu:IsPart vu hi)
  (hw:¬(bC items.size 0 lo=0/\bC items.size items.size hi=items.size))
  (h:Q (.ref s.heap.objs.size) { s with heap:=s.heap.push { cls:=.type "tuple",data:=.seq ((items.toList.drop (bC items.size 0 lo)).take (bC items.size items.size hi-bC items.size 0 lo)).toArray } })
  (hsz:items.size<=sizeLine):wpAny (model prog w) A (getItem (.ref t) (.ref sl)) Q E s:=by
 have tT:sizeOk (.seq ((items.toList.drop (bC items.size 0 lo)).take (bC items.size items.size hi-bC items.size 0 lo)).toArray):=by
  show((items.toList.drop (bC items.size 0 lo)).take (bC items.size items.size hi-bC items.size 0 lo)).toArray.size<=sizeLine;rw[aCS,bbw,bbY,ak9];lia
 have hj:bC items.size items.size hi<=items.size:=Yc _ _ (ags _) hi;obtain⟨os,hos,hcs,hds⟩:=id hs;have Mn:s.TypeIs (.ref sl) "slice":=⟨os,hos,hcs⟩;unfold getItem;try with_reducible refine aaC ?_
 first|refine asu (aJq ?_)|skip
 refine asu (wpAny_sequenceKey ht.typeIs (by decide) ?_);refine asu (auj (name:=Str.ofString "__getitem__") ht.typeIs a8J
  (ajI a8J ht.typeIs entry_tuple_getitem ?_ (args_tuple_getitem _ _)))
 show wpAny _ _ (Builtin.Tuple.tupleItemsOf (.ref t) >>=_) _ _ s;refine asu (tupleItemsOf_ ht ?_);refine asu (wpAny_typeOf Mn ?_);rw[aaU (by decide)];refine asu (Th hs pl pu ?_);have hno:¬((((bC items.size 0 lo:Nat):Int) ==0 && (1:Int) ==1 && (bC items.size items.size hi-bC items.size 0 lo) ==items.size)=true):=by
  intro q;rw[aTz,aTz]at q;have q1:((bC items.size 0 lo:Nat):Int)=0:=eq_of_beq q.1.1;have q2:bC items.size items.size hi-bC items.size 0 lo=items.size:=eq_of_beq q.2;exact hw ⟨by lia,by lia⟩
 show wpAny _ _ (if(((bC items.size 0 lo:Nat):Int) ==0 && (1:Int) ==1 && (bC items.size items.size hi-bC items.size 0 lo) ==items.size)=true then _ else _) _ _ s;rw[afn hno,ZhC]
 first
  |exact asu (m:=Builtin.Tuple.tupleExact _) (a6N (aJq ⟨_,rfl,aJq h⟩) tT)
  |exact asu (m:=Builtin.Tuple.tupleExact _) (a6N (asu (aJq (aJq ⟨_,rfl,aJq h⟩))) tT)
  |exact asu (asu (m:=Builtin.Tuple.tupleExact _) (a6N (aJq (aJq ⟨_,rfl,aJq h⟩)) tT))
  |exact asu (asu (m:=Builtin.Tuple.tupleExact _) (a6N (aJq ⟨_,rfl,aJq h⟩) tT))
end
end HT
namespace L2
open PySem PySem.Spec PyProof.Rows
abbrev TO:=St->Hp->(Option Int->Hp->Prop)->Prop
def PO(X:Cx)(e:Option Expr)(t:TO):Prop:=
 ∀(pins:List (Addr×Obj))(s:Shared)(σ:St)(H:Hp)(Q:Option Int->Hp->Prop),Inv X pins σ H s->t σ H Q ->
  wpAny (model X.prog X.w) X.A (evalPart e X.env) (λu s'=>∃o H',Inv X pins σ H' s'/\IsPart u o/\Q o H') X.xe s
def Y7:TO:=λ_ H Q=>Q none H
def EK(t:TE):TO:=λσ H Q=>t σ H λx H1=>∃i,x=.int i/\Q (some i) H1
theorem NO{ns:List Int}:∀{us:List Value},Vals (ns.map V.int) us->IntsAre us ns:=by
 induction ns with
 |nil=>intro us r;rw[map_nil]at r;cases r;exact .nil
 |cons n ns ih=>
  intro us r;rw[a2a]at r;cases r with
  |cons r1 r2=>
   obtain⟨t,e⟩:=r1;subst e;exact .cons n t (ih r2)
section
variable{X:Cx}{e:Expr}{te:TE}{lo hi:Option Expr}{tl th:TO}{pos p2:Pos}
theorem J3:PO X none Y7:=by
 intro pins s σ H Q I h;rw[evalPart_none];exact aJq ⟨none,H,I,.none,h⟩
theorem Eb(h:PE X e te):PO X (some e) (EK te):=by
 intro pins s σ H Q I hw;rw[evalPart_some];refine fB (h pins s σ H _ I hw) λu s1 x H1 I1 r1 q1=>?_;obtain⟨i,rfl,q⟩:=q1;obtain⟨t,rfl⟩:=r1;exact⟨some i,H1,I1,.int i t,q⟩
def HX(X:Cx)(r:V->Option Int->Option Int->Hp->VK->Prop):Prop:=
 ∀(pins:List (Addr×Obj))(s:Shared)(σ:St)(H:Hp)(x:V)(v vl vu:Value)(lo hi:Option Int)(sl:Addr)(Q:VK),Inv X pins σ H s->RelV x v->s.heap.IsSliceOf sl vl vu .none->IsPart vl lo->IsPart vu hi->r x lo hi H Q ->
  ∃T id,typeLookup (.type T) "__getitem__"=pure (some (.builtin id))/\s.TypeIs v T/\wpAny (model X.prog X.w) X.A (getItem v (.ref sl)) (EP X pins σ Q) X.xe s
def U6(r:V->Option Int->Option Int->Hp->VK->Prop)(te:TE)(tl th:TO):TE:=λσ H Q=>te σ H λx H1=>tl σ H1 λl H2=>th σ H2 λu H3=>r x l u H3 Q
theorem HS{r:V->Option Int->Option Int->Hp->VK->Prop}(hr:HX X r)(he:PE X e te)(hl:PO X lo tl)(hu:PO X hi th):PE X (.Subscript e (.Slice lo hi none p2) pos) (U6 r te tl th):=by
 intro pins s σ H Q I h;refine Subscript_ (fB (he pins s σ H _ I h) λv s1 x H1 I1 r1 q1=>?_);refine wpAny_Slice (bZ (hl pins s1 σ H1 _ I1 q1) λvl s2 ⟨l,H2,I2,pl,q2⟩=>bZ (hu pins s2 σ H2 _ I2 q2) λvu s3 ⟨u,H3,I3,pu,q3⟩=>?_);rw[evalPart_none];refine aJq ?_;have I4:Inv X pins σ H3 { s3 with heap:=s3.heap.push { cls:=.type "slice",data:=.fields #[vl,vu,.none] } }:=I3.kept (t':=s3.toks) λb ob q=>a8r _ q;obtain⟨T,id,hT,ht,hg⟩:=hr pins { s3 with heap:=s3.heap.push { cls:=.type "slice",data:=.fields #[vl,vu,.none] } } σ H3 x v vl vu l u s3.heap.objs.size Q I4 r1 (Heap.IsSliceOf.new ..) pl pu q3;show wpAny (model X.prog X.w) X.A (subscriptTail e (.Slice lo hi none p2) v (.ref s3.heap.objs.size)) (EP X pins σ Q) X.xe { s3 with heap:=s3.heap.push { cls:=.type "slice",data:=.fields #[vl,vu,.none] } };exact tail_any (ops:=[.ref s3.heap.objs.size,v]) ht hT hg (by with_unfolding_all rfl)
def cA(xs:List V)(lo hi:Option Int):List V:=(xs.drop (HT.bC xs.length 0 lo)).take (HT.bC xs.length xs.length hi-HT.bC xs.length 0 lo)
theorem Td(xs:List V)(lo hi:Option Int):(cA xs lo hi).length<=xs.length:=by
 unfold cA;rw[bbw,bbY];lia
inductive E6(K:W.Frag)(x:V)(lo:Option Int)(hi:Option Int)(H:Hp)(Q:VK):Prop
 |mk (a xs:_):x=.ref a->aU K H a xs->(¬(HT.bC xs.length 0 lo=0/\HT.bC xs.length xs.length hi=xs.length))->(∀p,H p=none->Q (.ref p) (upd H p (.tup (cA xs lo hi))))->E6 K x lo hi H Q
theorem Yb:HX X (E6 X.K):=by
 intro pins s σ H x v vl vu lo hi sl Q I rx hs pl pu h;obtain⟨a,xs,rfl,hx,hw,q⟩:=h;cases rx;obtain⟨its,r,ht,hz⟩:=I.tuple hx;have hlen:its.toArray.size=xs.length:=by rw[aCS];exact r.length.symm
 refine⟨"tuple",_,a8J.lookup,ht.typeIs,?_⟩;refine HT.iu ht hs pl pu (by rw[hlen];exact hw) ?_ (by rw[hlen];exact hz);rw[hlen];refine⟨.ref s.heap.objs.size,_,I.laid (t':=s.toks) (o:=.tup (cA xs lo hi)) (λb ob q=>a8r _ q) (ags _) ?_,rfl,q _ (I.hok.fresh (ags _))⟩;exact⟨a0n (Td xs lo hi) hz,_,(r.drop (HT.bC xs.length 0 lo)).take (HT.bC xs.length xs.length hi-HT.bC xs.length 0 lo),IsTup.new _ _⟩
inductive AG(K:W.Frag)(x:V)(y:V)(H:Hp)(Q:VK):Prop
 |mk (a b xs ys:_):x=.ref a->y=.ref b->aU K H a xs->aU K H b ys->xs≠[]->xs.length+ys.length<=sizeLine->(ys=[]->Q (.ref a) H)->(ys≠[]->∀p,H p=none->Q (.ref p) (upd H p (.tup (xs++ys))))->AG K x y H Q
theorem Vals.oj{xs:List V}{us:List Value}(r:Vals xs us):us=[]↔xs=[]:=by
 cases r with
 |nil=>simp
 |cons _ _=>simp
theorem Y6:jb X (binaryOp .Add) (AG X.K):=by
 intro pins s σ H x y v u Q I rx ry h;obtain⟨a,b,xs,ys,rfl,rfl,ha,hb,hx,hz,q1,q2⟩:=h;cases rx;cases ry;obtain⟨its,r1,p1,_⟩:=I.tuple ha;obtain⟨its2,r2,p2,_⟩:=I.tuple hb;refine HT.zN p1 p2 (λz=>hx (r1.oj.mp z)) (λz=>⟨.ref a,H,I,rfl,q1 (r2.oj.mp z)⟩) (λz=>?_) (by rw[<-r1.length,<-r2.length];exact hz);refine⟨.ref s.heap.objs.size,_,I.laid (t':=s.toks) (o:=.tup (xs++ys)) (λb ob q=>a8r _ q) (ags _) ?_,rfl,q2 (λw=>z (r2.oj.mpr w)) _ (I.hok.fresh (ags _))⟩;exact⟨by rw[aKe];exact hz,_,r1.append r2,IsTup.new _ _⟩
end
def vg(n:Nat)(i:Int):Option Nat:=if 0<=i then(if i<n then some i.toNat else none) else if -(n:Int)<=i then some (i+n).toNat else none
def fP{α:Type}(xs:List α)(i:Int):Option α:=(vg xs.length i).bind λj=>xs[j]?
theorem Rg{n:Nat}{i:Int}{j:Nat}(h:vg n i=some j):seqIndex? i n=some j/\j<n /\ -(n:Int)<=i/\i<n:=by
 unfold vg at h;by_cases h0:0<=i
 .rw [aaU h0]at h;by_cases h1:i<n
  .rw [aaU h1]at h;have e:i.toNat=j:=a9h h;exact⟨by rw[seqIndex_of h0 h1,e],by lia,by lia,h1⟩
  .rw [afn h1]at h;cases h
 .rw [afn h0]at h;by_cases h1: -(n:Int)<=i
  .rw [aaU h1]at h;have e:(i+n).toNat=j:=a9h h;exact⟨by rw[seqIndex_neg (by lia) h1,e],by lia,h1,by lia⟩
  .rw [afn h1]at h;cases h
theorem Rf{α:Type}{xs:List α}{i:Int}{v:α}(h:fP xs i=some v):∃j,seqIndex? i xs.length=some j/\xs[j]?=some v/\j<xs.length /\ -(xs.length:Int)<=i/\i<xs.length:=by
 unfold fP at h;cases e:vg xs.length i with
 |none=>rw[e]at h;cases h
 |some j=>
  rw[e]at h;obtain⟨h1,h2,h3,h4⟩:=Rg e;exact⟨j,h1,h,h2,h3,h4⟩
theorem xT{α:Type}{xs:List α}{j:Nat}{v:α}(h:xs[j]?=some v):fP xs (j:Int)=some v:=by
 have hj:j<xs.length:=(aB9.mp h).1;have e:vg xs.length (j:Int)=some j:=by
  unfold vg;rw[aaU (by lia),aaU (by lia)];simp
 unfold fP;rw[e];exact h
def Y5(b:Expr):Prop:=∀o i,subscripted b false o i=operate [o,i] (getItem o i)
def Ij(X:Cx)(r:R2):Prop:=
 ∀(value slice:Expr)(pins:List (Addr×Obj))(s:Shared)(σ:St)(H:Hp)(x y:V)(v u:Value)(Q:VK),Inv X pins σ H s->RelV x v->RelV y u->r x y H Q ->
  subscripted slice false v u=operate [v,u] (getItem v u)->wpAny (model X.prog X.w) X.A (subscriptTail value slice v u) (EP X pins σ Q) X.xe s
def MtR(X:Cx)(id:String)(r:V->List V->Hp->VK->Prop):Prop:=
 ∀(pins:List (Addr×Obj))(s:Shared)(σ:St)(H:Hp)(x:V)(xs:List V)(v:Value)(us:List Value)(Q:VK),Inv X pins σ H s->RelV x v->Vals xs us->r x xs H Q ->
  wpAny (model X.prog X.w) X.A (call (.builtin id) (v ::us)) (EP X pins σ Q) X.xe s
section
variable{X:Cx}{a b:Expr}{ta tb:TE}{pos:Pos}
theorem av{r:R2}(hr:Ij X r)(ha:PE X a ta)(hb:PE X b tb)(hs:Y5 b):PE X (.Subscript a b pos) (II r ta tb):=by
 intro pins s σ H Q I h;exact Subscript_ (CK ha hb I h λv u s2 x y H2 I2 rx ry q=>hr a b pins s2 σ H2 x y v u Q I2 rx ry q (hs _ _))
inductive BR(K:W.Frag)(x:V)(y:V)(H:Hp)(Q:VK):Prop
 |mk (p xs i v:_):x=.ref p->y=.int i->az K H p xs->fP xs i=some v->Q v H->BR K x y H Q
inductive BQ(K:W.Frag)(x:V)(y:V)(H:Hp)(Q:VK):Prop
 |mk (p xs i v:_):x=.ref p->y=.int i->aU K H p xs->fP xs i=some v->Q v H->BQ K x y H Q
theorem Y4:Ij X (BR X.K):=by
 intro value slice pins s σ H x y v u Q I rx ry h hs;obtain⟨p,xs,i,z,rfl,rfl,hq,he,q⟩:=h;cases rx;obtain⟨t,rfl⟩:=ry;obtain⟨its,r,pl,hz⟩:=I.list hq;obtain⟨j,h1,h2,h3,h4,h5⟩:=Rf he;obtain⟨w,ew,rw'⟩:=r.get h2;have hl:=r.length;have hn:=JG;have fin:EP X pins σ Q w s:=⟨z,H,I,rw',q⟩;by_cases h0:0<=i
 .have hj:i.toNat=j:=by
   rw[seqIndex_of h0 h5]at h1;exact a9h h1
  exact item_listR pl.isList h0 (by lia) (by rw[hj];simpa using ew) fin hs
 .have hj:(i+(its.toArray.size:Int)).toNat=j:=by
   rw[seqIndex_neg (by lia) h4]at h1;rw[aCS,<-hl];exact a9h h1
  exact subscriptTail_builtinR (x:=w) pl.isList.typeIs slot_list_getitem.lookup
   (wpAny_getItem_list_neg (Q:=λr s'=>r=w/\EP X pins σ Q r s') pl.isList (by lia) (by rw[aCS] <;> lia) (by lia) (by rw[hj];simpa using ew) ⟨rfl,fin⟩) hs
theorem X8:Ij X (BQ X.K):=by
 intro value slice pins s σ H x y v u Q I rx ry h hs;obtain⟨p,xs,i,z,rfl,rfl,hq,he,q⟩:=h;cases rx;obtain⟨t,rfl⟩:=ry;obtain⟨its,r,pl,hz⟩:=I.tuple hq;obtain⟨j,h1,h2,h3,h4,h5⟩:=Rf he;obtain⟨w,ew,rw'⟩:=r.get h2;have hl:=r.length;have hn:=JG;have fin:EP X pins σ Q w s:=⟨z,H,I,rw',q⟩;exact subscriptTail_builtinR (x:=w) pl.typeIs slot_tuple_getitem.lookup
  (getItem_tuple (j:=j) (Q:=λr s'=>r=w/\EP X pins σ Q r s') pl (by lia) (by lia) (by rw[aCS,<-hl];exact h1) (by simpa using ew) ⟨rfl,fin⟩) hs
theorem Zfo(its:List Value)(n j:Nat)(u:Value):Obj.mapSeq (·.setIfInBounds j u) { cls:=.type "list",data:=.seq its.toArray n }={ cls:=.type "list",data:=.seq (its.set j u).toArray n }:=by
 simp[Obj.mapSeq]
theorem Inv.lst{pins:List (Addr×Obj)}{σ:St}{H:Hp}{s:Shared}{p:Addr}{xs:List V}(I:Inv X pins σ H s)(h:H p=some (.lst xs)) :
  ∃(its:List Value)(n:Nat),Vals xs its/\s.heap.get? p=some { cls:=.type "list",data:=.seq its.toArray n }/\xs.length<=sizeLine:=by
 obtain⟨z,its,n,r,e⟩:=I.hok p _ h;exact⟨its,n,r,e,z⟩
theorem Inv.Co{pins:List (Addr×Obj)}{σ:St}{H:Hp}{s:Shared}{p:Addr}{xs ys:List V}{its its':List Value}{n n':Nat}{f:Obj->Obj}(I:Inv X pins σ H s)(h:H p=some (.lst xs))
  (ho:s.heap.get? p=some { cls:=.type "list",data:=.seq its.toArray n }) (hf:f { cls:=.type "list",data:=.seq its.toArray n }={ cls:=.type "list",data:=.seq its'.toArray n' }) (r:Vals ys its') (hz:ys.length<=sizeLine) (t:Nat) :
  Inv X pins σ (upd H p (.lst ys)) { s with heap:=s.heap.update p f,toks:=t }:=by
 have e:(s.heap.update p f).get? p=some { cls:=.type "list",data:=.seq its'.toArray n' }:=by
  rw[Heap.get?_update_self f ho (by rw[hf] <;> rfl),hf]
 refine I.write (x:=p) (e:=p) (by rw[h];trivial) (.inl rfl) (λb u hb q=>(Heap.get?_update_other _ _ (ac5 hb)).trans q) ⟨_,e⟩ ?_;exact⟨hz,its',n',r,e⟩
def E8:V->V->V->Hp->(Hp->Prop)->Prop:=λo i v H Q=>∃p xs k j,o=.ref p/\i=.int k/\H p=some (.lst xs)/\vg xs.length k=some j/\Q (upd H p (.lst (xs.set j v)))
theorem CU:Ib X E8:=by
 intro pins s σ H o i v ov iv u Q I ro ri rv h;obtain⟨p,xs,k,j,rfl,rfl,hp,hj,q⟩:=h;cases ro;obtain⟨t,rfl⟩:=ri;obtain⟨its,n,r,ho,hz⟩:=I.lst hp;obtain⟨h1,h2,h3,h4⟩:=Rg hj;have hl:=r.length;have hn:=JG;have I':Inv X pins σ (upd H p (.lst (xs.set j v))) { s with heap:=s.heap.update p (Obj.mapSeq (·.setIfInBounds j u)) }:=
  I.Co hp ho (Zfo its n j u) (r.set rv j) (by rw[ary];exact hz) s.toks
 by_cases h0:0<=k
 .have hk:k.toNat=j:=by
   rw[seqIndex_of h0 h4]at h1;exact a9h h1
  exact W.ki_setAt ho h0 (by lia) (by rw[aCS,<-hl];exact h4) (by rw[hk];exact⟨_,I',q⟩)
 .have hk:(k+(its.toArray.size:Int)).toNat=j:=by
   rw[seqIndex_neg (by lia) h3]at h1;rw[aCS,<-hl];exact a9h h1
  exact W.ki_setBack ho (by lia) (by rw[aCS,<-hl];exact h3) (by lia) (by rw[hk];exact⟨_,I',q⟩)
theorem Zdn(lo hi:Option Int)(n:Nat):(sliceBounds lo hi none n).1=((HT.bC n 0 lo:Nat):Int)/\(sliceBounds lo hi none n).2.1=((HT.bC n n hi:Nat):Int)/\(sliceBounds lo hi none n).2.2=1:=by
 refine⟨?_,?_,rfl⟩
 .cases lo with
  |none=>simp[sliceBounds,HT.bC]
  |some i=>
   simp only[sliceBounds,HT.bC,Option.getD_none,show(1:Int)>0 by decide,a6Z];by_cases h:i<0
   .simp only[h,a6Z] <;> lia
   .simp only[h,a3v] <;> lia
 .cases hi with
  |none=>simp[sliceBounds,HT.bC]
  |some i=>
   simp only[sliceBounds,HT.bC,Option.getD_none,show(1:Int)>0 by decide,a6Z];by_cases h:i<0
   .simp only[h,a6Z] <;> lia
   .simp only[h,a3v] <;> lia
theorem ZcH(its:List Value)(lo hi:Option Int):slicePick its.toArray lo hi none=((its.drop (HT.bC its.length 0 lo)).take (HT.bC its.length its.length hi-HT.bC its.length 0 lo)).toArray:=by
 obtain⟨h1,h2,h3⟩:=Zdn lo hi its.toArray.size;unfold slicePick;rw[h1,h2,h3];simp only[sliceRange_one,pick_run,aCS] <;> rfl
inductive BP(K:W.Frag)(x:V)(lo:Option Int)(hi:Option Int)(H:Hp)(Q:VK):Prop
 |mk (a xs:_):x=.ref a->az K H a xs->(∀p,H p=none->Q (.ref p) (upd H p (.lst (cA xs lo hi))))->BP K x lo hi H Q
theorem Y3:HX X (BP X.K):=by
 intro pins s σ H x v vl vu lo hi sl Q I rx hs pl pu h;obtain⟨a,xs,rfl,hx,q⟩:=h;cases rx;obtain⟨its,r,ht,hz⟩:=I.list hx;have hlen:=r.length;refine⟨"list",_,slot_list_getitem.lookup,ht.isList.typeIs,?_⟩;refine wpAny_getItem_list_slice ht.isList hs pl pu .none (by simp) ?_ (by rw[aCS] <;> lia);rw[ZcH,<-hlen];refine⟨.ref s.heap.objs.size,_,I.laid (t':=s.toks) (o:=.lst (cA xs lo hi)) (λb ob q=>a8r _ q) (ags _) ?_,rfl,q _ (I.hok.fresh (ags _))⟩;exact⟨a0n (Td xs lo hi) hz,_,0,(r.drop (HT.bC xs.length 0 lo)).take (HT.bC xs.length xs.length hi-HT.bC xs.length 0 lo),arT _ rfl⟩
def cH:V->Bool
 | .aS=>true
 | .bl _=>true
 | .int _=>true
 | .str _=>true
 |_=>false
def xJ:V->V->Bool
 | .aS,.aS=>true
 | .bl a,.bl b=>a ==b
 | .bl a,.int b=>(if a then 1 else 0) ==b
 | .int a,.bl b=>a ==(if b then 1 else 0)
 | .int a,.int b=>a ==b
 | .str a,.str b=>a ==b
 |_,_=>false
theorem MV{A:Around}{s:Shared}{y x:V}{u v:Value}(ry:RelV y u)(rx:RelV x v)(fy:cH y=true)(fx:cH x=true):SeqAt.EqAt A s u v (xJ y x):=by
 cases y with
 |aS=>
  cases ry;cases x with
  |aS=>cases rx;exact SeqAt.EqAt.same _
  |bl b=>cases rx;exact SeqAt.EqAt.none_bool b
  |int b=>obtain⟨t,rfl⟩:=rx;exact SeqAt.EqAt.none_int b t
  |str b=>obtain⟨t,rfl⟩:=rx;exact SeqAt.EqAt.none_str b t
  |_=>exact absurd (show false=true from fx) a7q
 |bl a=>
  cases ry;cases x with
  |aS=>cases rx;exact SeqAt.EqAt.bool_none a
  |bl b=>cases rx;exact SeqAt.EqAt.bool_bool a b
  |int b=>obtain⟨t,rfl⟩:=rx;exact SeqAt.EqAt.bool_int a b t
  |str b=>obtain⟨t,rfl⟩:=rx;exact SeqAt.EqAt.bool_str a b t
  |_=>exact absurd (show false=true from fx) a7q
 |int a=>
  obtain⟨t',rfl⟩:=ry;cases x with
  |aS=>cases rx;exact SeqAt.EqAt.int_none a t'
  |bl b=>cases rx;exact SeqAt.EqAt.int_bool a t' b
  |int b=>obtain⟨t,rfl⟩:=rx;exact SeqAt.EqAt.int_int a t' b t
  |str b=>obtain⟨t,rfl⟩:=rx;exact SeqAt.EqAt.int_str a t' b t
  |_=>exact absurd (show false=true from fx) a7q
 |str a=>
  obtain⟨t',rfl⟩:=ry;cases x with
  |aS=>cases rx;exact SeqAt.EqAt.str_none a t'
  |bl b=>cases rx;exact SeqAt.EqAt.str_bool a t' b
  |int b=>obtain⟨t,rfl⟩:=rx;exact SeqAt.EqAt.str_int a t' b t
  |str b=>obtain⟨t,rfl⟩:=rx;exact SeqAt.EqAt.str_str a t' b t
  |_=>exact absurd (show false=true from fx) a7q
 |_=>exact absurd (show false=true from fy) a7q
def zK(x:V)(u:Value):Bool:=match u with
 | .none=>xJ .aS x
 | .bool b=>xJ (.bl b) x
 | .int i _=>xJ (.int i) x
 | .str z _=>xJ (.str z) x
 |_=>false
theorem Qo{x y:V}{u:Value}(r:RelV y u)(f:cH y=true):zK x u=xJ y x:=by
 cases y with
 |aS=>cases r;rfl
 |bl b=>cases r;rfl
 |int i=>obtain⟨t,rfl⟩:=r;rfl
 |str z=>obtain⟨t,rfl⟩:=r;rfl
 |_=>exact absurd (show false=true from f) a7q
theorem Nj{x:V}:∀{xs:List V}{us:List Value},Vals xs us->xs.all cH=true->us.any (zK x)=xs.any λy=>xJ y x
 |_,_,.nil,_=>rfl
 |y ::xs,u ::us,.cons r t,f=>by
  rw[all_cons,aTz]at f;rw[any_cons,any_cons,Qo r f.1,Nj t f.2]
theorem NK{A:Around}{s:Shared}{x:V}{v:Value}(rx:RelV x v)(fx:cH x=true):∀{xs:List V}{us:List Value},Vals xs us->xs.all cH=true->∀u∈us,SeqAt.EqAt A s u v (zK x u)
 |_,_,.nil,_=>λu hu=>by cases hu
 |y ::xs,u ::us,.cons r t,f=>λu' hu=>by
  rw[all_cons,aTz]at f;rcases baL.mp hu with rfl|hu
  .rw [Qo r f.1];exact MV r rx f.1 fx
  .exact NK rx fx t f.2 u' hu
def O7(x:V)(xs:List V):Bool:=xs.any λy=>xJ y x
inductive Lg(K:W.Frag) (neg:Bool)(x:V)(y:V)(H:Hp)(Q:VK):Prop
 |mk (p xs:_):y=.ref p->(az K H p xs\/aU K H p xs)->cH x=true->xs.all cH=true->Q (.bl (if neg then !O7 x xs else O7 x xs)) H->Lg K neg x y H Q
theorem Zdo:jb X (compareOp .NotIn) (Lg X.K true):=by
 intro pins s σ H x y v u Q I rx ry h;obtain⟨p,xs,rfl,hq,fx,fs,q⟩:=h;cases ry;rcases hq with hq|hq
 .obtain ⟨its,r,pl,hz⟩:=I.list hq;refine SeqAt.notIn_listAt (zK x) pl.isList (λw hw=>NK rx fx r fs w (by simpa using hw)) ⟨.bl _,H,I,rfl,?_⟩;rw[show its.toArray.any (zK x)=its.any (zK x) by simp,Nj r fs];exact q
 .obtain ⟨its,r,pl,hz⟩:=I.tuple hq;refine SeqAt.notIn_tupleAt (zK x) pl (λw hw=>NK rx fx r fs w (by simpa using hw)) ⟨.bl _,H,I,rfl,?_⟩;rw[show its.toArray.any (zK x)=its.any (zK x) by simp,Nj r fs];exact q
theorem Zdp:bG X (.builtin "len") (λxs H Q=>∃p ys,xs=[.ref p]/\(az X.K H p ys\/aU X.K H p ys)/\Q (.int ys.length) H):=by
 intro pins s σ H xs us Q I r h;obtain⟨p,ys,rfl,hq,q⟩:=h;obtain⟨u,rfl,rx⟩:=vals1 r;cases rx;have hn:=JG;rcases hq with hq|hq
 .obtain ⟨its,r',pl,hz⟩:=I.list hq;have hlen:=r'.length;exact Calls.call_len_list pl.isList (by simp only[aCS] <;> lia) ⟨.int ys.length,H,I.tok _,⟨s.toks+1,by rw[aCS,hlen]⟩,q⟩
 .obtain ⟨its,r',pl,hz⟩:=I.tuple hq;have hlen:=r'.length;exact len_tuple pl (by simp only[aCS] <;> lia) ⟨.int ys.length,H,I.tok _,⟨s.toks+1,by rw[aCS,hlen]⟩,q⟩
theorem Zdq:bG X (.type "list") (λxs H Q=>∃p ys,xs=[.ref p]/\(az X.K H p ys\/aU X.K H p ys)/\∀l,H l=none->Q (.ref l) (upd H l (.lst ys))):=by
 intro pins s σ H xs us Q I r h;obtain⟨p,ys,rfl,hq,q⟩:=h;obtain⟨u,rfl,rx⟩:=vals1 r;cases rx;have fin:∀(its:List Value),Vals ys its->ys.length<=sizeLine->∀(h':Heap)(c':Nat),(∀b o',s.heap.get? b=some o'->h'.get? b=some o') ->
   h'.get? s.heap.objs.size=some { cls:=.type "list",dict:=none,data:=.seq its.toArray c',slots:=#[] }->EP X pins σ Q (.ref s.heap.objs.size) { s with heap:=h' }:=λits r' hz h' c' kp e=>
  ⟨.ref s.heap.objs.size,_,I.laid (t':=s.toks) kp (ags _) (show aH X.prog X.w _ h' _ (.lst ys) from⟨hz,its,c',r',e⟩),rfl,q _ (I.hok.fresh (ags _))⟩
 rcases hq with hq|hq
 .obtain ⟨its,r',pl,hz⟩:=I.list hq;have hlen:=r'.length;obtain⟨o,ho,hc,n,hd⟩:=pl.isList;exact call_list_seq p (.inl rfl) ho hc hd (λh' c' kp e=>fin its r' hz h' c' kp e) (by simp only[aCS] <;> lia)
 .obtain ⟨its,r',pl,hz⟩:=I.tuple hq;have hlen:=r'.length;obtain⟨o,ho,hc,n,hd⟩:=pl;exact call_list_seq p (.inr rfl) ho hc hd (λh' c' kp e=>fin its r' hz h' c' kp e) (by simp only[aCS] <;> lia)
theorem ZcJ:bG X (.type "tuple") (λxs H Q=>∃p ys,xs=[.ref p]/\((az X.K H p ys/\∀l,H l=none->Q (.ref l) (upd H l (.tup ys)))\/(aU X.K H p ys/\Q (.ref p) H))):=by
 intro pins s σ H xs us Q I r h;obtain⟨p,ys,rfl,h⟩:=h;obtain⟨u,rfl,rx⟩:=vals1 r;cases rx;rcases h with⟨hq,q⟩|⟨hq,q⟩
 .obtain ⟨its,r',pl,hz⟩:=I.list hq;have hlen:=r'.length;refine call_tuple_list pl.isList (λh' kp=>?_) (by simp only[aCS] <;> lia);have I1:Inv X pins σ H { s with heap:=h' }:=I.kept (t':=s.toks) kp;have I2:Inv X pins σ (upd H h'.objs.size (.tup ys)) { s with heap:=h'.push { cls:=.type "tuple",data:=.seq its.toArray } }:=
   I1.laid (t':=s.toks) (λb o e=>a8r _ e) (ags _) (show aH X.prog X.w _ _ _ (.tup ys) from⟨hz,its,r',IsTup.new _ _⟩)
  exact⟨.ref h'.objs.size,_,I2,rfl,q _ (I1.hok.fresh (ags _))⟩
 .obtain ⟨its,r',pl,hz⟩:=I.tuple hq;exact call_tuple_same pl ⟨.ref p,H,I,rfl,q⟩
def Od(K:W.Frag)(T:String)(x:V)(H:Hp):Prop:=match x with
 | .str _=>T ="str"
 | .int _=>T ="int"
 | .ref p=>(T ="list" /\ ∃xs,az K H p xs)\/(T ="tuple" /\ ∃o,K.lookup p=some o/\o.cls=.type "tuple" /\o.dict=none) \/
   (T ="dict" /\((∃kvs,H p=some (.dK kvs))\/∃kvs,H p=some (.dT kvs)))\/(T ="set" /\ ∃S n,H p=some (.set S n))
 |_=>False
theorem X7{pins:List (Addr×Obj)}{σ:St}{H:Hp}{s:Shared}{T:String}{x:V}{v:Value}(I:Inv X pins σ H s)(r:RelV x v)(ty:Od X.K T x H) :
  s.TypeIs v T/\∀a,v=.ref a->∃ob,s.heap.get? a=some ob/\ob.dict=none:=by
 cases x with
 |str z=>
  obtain⟨t,rfl⟩:=r;cases(show T ="str" from ty);exact⟨typeIs_str s z t,λ_ e=>nomatch e⟩
 |int i=>
  obtain⟨t,rfl⟩:=r;cases(show T ="int" from ty);exact⟨typeIs_int s i t,λ_ e=>nomatch e⟩
 |ref p=>
  cases r;rcases ty with⟨rfl,xs,hq⟩|⟨rfl,o,hk,hc,hd⟩|⟨rfl,hk⟩|⟨rfl,S,n,hk⟩
  .obtain ⟨its,_,pl,_⟩:=I.list hq;refine⟨pl.isList.typeIs,λa e=>?_⟩;cases e;obtain⟨o,n,e,c,hd,_⟩:=pl;exact⟨o,e,hd⟩
  .refine ⟨⟨o,I.dI p o hk,hc⟩,λa e=>?_⟩;cases e;exact⟨o,I.dI _ o hk,hd⟩
  .have z:∃o,s.heap.get? p=some o/\o.ExactDict:=by
    rcases hk with⟨kvs,hk⟩|⟨kvs,hk⟩
    .obtain ⟨_,_,_,_,o,_,_,e,ex,_⟩:=I.hok p _ hk;exact⟨o,e,ex⟩
    .obtain ⟨_,_,_,_,o,_,_,e,ex,_⟩:=I.hok p _ hk;exact⟨o,e,ex⟩
   obtain⟨o,e,ex⟩:=z;refine⟨⟨o,e,ex.1⟩,λa e2=>?_⟩;cases e2;exact⟨o,e,ex.2.1⟩
  .obtain ⟨o,_,_,_,e,ex,_⟩:=I.hok p _ hk;refine⟨⟨o,e,ex.1⟩,λa e2=>?_⟩;cases e2;exact⟨o,e,ex.2.1⟩
 |_=>exact False.elim ty
def K1(K:W.Frag)(T:String)(r:V->List V->Hp->VK->Prop)(to:TE)(t:TA):TE:=λσ H Q=>to σ H λx H1=>Od K T x H1/\t σ H1 λxs H2=>r x xs H2 Q
variable{o e:Expr}{es:List Expr}{to:TE}{t:TA}{name:Str}{apos cpos:Pos}{T id:String}{r:V->List V->Hp->VK->Prop}
theorem jr(pa:PlainAttrs T)(slot:Slot T name id)(hty:typeOf (.builtin id)=pure (.type "method_descriptor"))(hm:MtR X id r)(ho:PE X o to)(ha:PA X (e ::es) t)
  (hbase:attributeBase o name X.env (eval o X.env)=eval o X.env:=by rfl)
  (hfew:((backTo cpos (starEach (e ::es) X.env)).all (λx=>!x.1) && (backToKw cpos (keywordEach [] X.env)).all (λx=>x.1.isSome)
   && decide ((e ::es).length+([]:List Keyword).length+(if([]:List Keyword).isEmpty then 0 else 1)<30))=true:=by rfl)
  (hline:(apos.endLine ==cpos.line)=true:=by rfl) (hs:starEach (e ::es) X.env=(false,eval e X.env) ::starEach es X.env:=by rfl) (hplain:(backTo cpos (starEach es X.env)).any (·.1)=false:=by rfl) :
  PE X (.Call (.Attribute o name apos) (e ::es) [] cpos) (K1 X.K T r to t):=by
 intro pins s σ H Q I h;refine wpAny_Call_method_late hbase hfew hline rfl (bZ (ho pins s σ H _ I h) λv s1 ⟨x,H1,I1,r1,ty,q1⟩=>?_);obtain⟨h1,h2⟩:=X7 I1 r1 ty;refine⟨T,id,pa,slot,hty,h1,h2,?_⟩;have hA:=ha cpos pins s1 σ H1 _ I1 q1;rw[hs]at hA ⊢;refine asf (by show(false || (backTo cpos (starEach es X.env)).any (·.1))=false;rw[hplain] <;> rfl) (aAg ?_);exact bZ hA λus s2 ⟨vs,H2,I2,r2,q2⟩=>hm pins s2 σ H2 x vs v us Q I2 r1 r2 q2
/- xs.append(e),list.index on a module's tuple .. are MtR facts of 06m -/
end
def Tp(X:Cx)(id:String)(r:V->List V->Hp->VK->Prop):Prop:=
 ∀(pins:List (Addr×Obj))(s:Shared)(σ:St)(H:Hp)(x:V)(xs:List V)(v:Value)(us:List Value)(Q:VK),Inv X pins σ H s->RelV x v->Vals xs us->r x xs H Q ->
  wpAny (model X.prog X.w) X.A (call (.builtin id) (v ::us)) (EP X pins σ Q) X.xe s
theorem Vals.one:∀{x:V}{us:List Value},Vals [x] us->∃u,us=[u]/\RelV x u
 |_,_,.cons r .nil=>⟨_,rfl,r⟩
section
variable{X:Cx}{pins:List (Addr×Obj)}{σ:St}{H:Hp}{s:Shared}{l b:Addr}{xs ys zs:List V}
theorem Inv.xh{its its':List Value}{n:Nat}{f:Array Value->Array Value}{t':Nat}(I:Inv X pins σ H s)(hH:H l=some (.lst xs))
  (e:s.heap.get? l=some { cls:=.type "list",data:=.seq its.toArray n }) (hf:f its.toArray=its'.toArray) (hv:Vals ys its') (hz:ys.length<=sizeLine) :
  Inv X pins σ (upd H l (.lst ys)) { s with heap:=s.heap.update l (Obj.mapSeq f),toks:=t' }:=by
 have q:=PySem.IsL.update e f;rw[hf]at q;refine I.write (x:=l) (e:=l) (by rw[hH];exact trivial) (.inl rfl) (λb' u hb hu=>(Heap.get?_update_other s.heap (Obj.mapSeq f) (ac5 hb)).trans hu) ⟨_,q⟩ ?_;exact⟨hz,its',_,hv,q⟩
theorem Inv.FZ{its:List Value}{t':Nat}(I:Inv X pins σ H s)(hv:Vals ys its)(hz:ys.length<=sizeLine) :
  Inv X pins σ (upd H s.heap.objs.size (.lst ys)) { s with heap:=s.heap.push { cls:=.type "list",data:=.seq its.toArray },toks:=t' }:=
 I.laid (λ_ _ q=>a8r _ q) (ags _) ⟨hz,its,0,hv,arT _ rfl⟩
theorem Inv.fresh(I:Inv X pins σ H s):H s.heap.objs.size=none:=I.hok.fresh (ags _)
theorem Inv.rL(I:Inv X pins σ H s)(hH:H l=some (.lst xs)):xs.length<=sizeLine/\∃(its:List Value)(n:Nat),Vals xs its/\xs.length=its.length/\s.heap.get? l=some { cls:=.type "list",data:=.seq its.toArray n }:=by
 obtain⟨z,its,n,r,e⟩:=I.hok l _ hH;exact⟨z,its,n,r,r.length,e⟩
end
section
variable{X:Cx}
inductive tH(x:V)(vs:List V)(H:Hp)(Q:VK):Prop
 |mk (l xs y:_):x=.ref l->vs=[y]->H l=some (.lst xs)->xs.length<sizeLine->Q .aS (upd H l (.lst (xs++[y])))->tH x vs H Q
theorem CW:Tp X "list.append" tH:=by
 intro pins s σ H x vs v us Q I rx rv h;obtain⟨l,xs,y,rfl,rfl,hH,hz,q⟩:=h;cases rx;obtain⟨u,rfl,ru⟩:=rv.one;obtain⟨z,its,n,r,hl,e⟩:=I.rL hH;refine call_meets F.slot_list_append ⟨_,e,rfl⟩ F.entry_list_append (F.args_list_append_2 _ _) (PySem.list_append l its.toArray n u (by rw[aCS];lia)) ⟨e,?_⟩;refine⟨.aS,_,I.xh (its':=its++[u]) hH e (by simp) (r.append (.cons ru .nil)) ?_,rfl,q⟩;rw[aKe,aSc];lia
inductive Fd(x:V)(y:V)(H:Hp)(Q:VK):Prop
 |mk (l b xs zs:_):x=.ref l->y=.ref b->H l=some (.lst xs)->H b=some (.lst zs)->xs.length+zs.length<=sizeLine->(∀p,H p=none->Q (.ref p) (upd H p (.lst (xs++zs))))->Fd x y H Q
theorem X6:jb X (binaryOp .Add) Fd:=by
 intro pins s σ H x y v u Q I rx ry h;obtain⟨l,b,xs,zs,rfl,rfl,hH,hB,hz,q⟩:=h;cases rx;cases ry;obtain⟨z,its,n,r,hl,e⟩:=I.rL hH;obtain⟨z2,its2,n2,r2,hl2,e2⟩:=I.rL hB;refine PySem.P.add_list e e2 ?_ (by rw[aCS,aCS];lia);have ea:its.toArray++its2.toArray=(its++its2).toArray:=by simp
 rw[ea];exact⟨.ref _,_,I.FZ (t':=s.toks) (r.append r2) (by rw[aKe];lia),rfl,q _ I.fresh⟩
end
end L2
namespace TN
open PySem PySem.W PySem.Calls PyProof.Rows
theorem ZbV{P:Params}{h:Heap}:∀(ns:List Int)(vs:List Value),WellAll P h vs (ns.map WData.int)->IntsAre vs ns:=by
 intro ns
 induction ns with
 |nil=>
  intro vs w;rw[map_nil]at w;cases w;exact .nil
 |cons n ns ih=>
  intro vs w;rw[a2a]at w;cases w with
  |cons a b=>
   cases a;exact .cons _ _ (ih _ b)
theorem Zgd{l:OpenLaw}{n:Nat}(hn:l.most=some n){P:Params}{h:Heap}{args:List WData}{vals:List Value}
  (hpre:l.row.toRowW.claim.pre args=true) (hwl:WellAll P h vals args) :
  ∃a vs ns,vals=[Value.ref a]/\args=[WData.list (ns.map WData.int)]/\h.get? a=some { cls:=.type "list",data:=.seq vs.toArray }/\IntsAre vs ns/\ns.length<=n:=by
 have hsh:WShape.hasAll [] args [.list .int]=true:=(pre_splitW hpre).1;have hc:l.pre.holds [] { args:=args }=true:=(pre_splitW hpre).2;obtain⟨d,r,rfl,h1,h2⟩:=hasAllW_cons hsh;obtain rfl:=hasAllW_nil h2;obtain⟨xs,rfl,h3⟩:=hasW_list h1;obtain⟨ns,rfl⟩:=items_int h3;have hlen:ns.length<=n:=by
  unfold OpenLaw.pre at hc;have h4:(WTm.not (.lt (.lit (.int (n:Int))) (.len (.arg 0)))).holds [] { args:=[.list (ns.map .int)] }=true:=by
   have h4:=(holds_andW hc).1;rw[hn]at h4;exact h4
  have h5:=condW_of h4 (w_not (w_lt w_lit (w_len_list (w_arg rfl))));rw[axO]at h5;refine Nat.le_of_not_lt λq=>?_;have q':(n:Int)<((ns.length:Nat):Int):=by lia
  first
   |(rw[a5U q']at h5;exact absurd h5 (by decide))
   |(simp at h5;lia)
 cases hwl with
 |cons w1 w2=>
  cases w2;cases w1 with
  |list ho hall=>exact⟨_,_,ns,rfl,rfl,ho,ZbV ns _ hall,hlen⟩
theorem Zge(l:OpenLaw)(args:List WData):l.row.toRowW.claim.post args (.bool true) args=true:=
 postW_of (r:=l.row.toRowW) (X:=(true ==true))
  (show WShape.has [] (.bool true) .bool=true by first|rfl|decide|simp[WShape.has,WShape.arms,WShape.armsAll])
  (show(WTm.eq .res (.lit (.bool true))).value [] { args:=args,res:=some (.bool true),after:=args }=some (.bool (true ==true)) from w_eq_bool (w_res rfl) w_lit) rfl
theorem qA{l:OpenLaw}{n:Nat}{q:Program}{loose:List Str}{XP:(Str->Option Value)->Heap->Prop}{YP:World->Heap->Prop}{d:DefRec}
  (hn:l.most=some n) (hdf:d.params.defaults=[])
  (call:∀(w:World)(s₀ s₁:Shared)(mg mb:Str->Option Value)(fa:Addr)(o:Obj)(pm cd doc:Value)(a:Addr)(vs:List Value)(ns:List Int),
   Ground q loose [] XP w s₀ mg mb s₁.heap->YP w s₁.heap ->
   s₁.heap.get? fa=some o->o.data=.func (docDef d.name d.params d.body d.scope pm cd doc)->s₁.heap.CodeRec cd d.name->mg d.name=some (.ref fa) ->
   s₁.heap.get? a=some { cls:=.type "list",data:=.seq vs.toArray }->IntsAre vs ns->ns.length<=n->s₁.gens=#[] ->
   codeAny (model l.prog w) callerA (.call (.ref fa) ⟨[.ref a],[]⟩) (λr s'=>r=.ok (.ret (.bool true))/\OldK s₁.heap s'.heap/\s'.os=s₁.os/\AllBare s'.gens) s₁) :
  WalkO q loose XP YP l.row.toRowW d [] (λf vs=>PySem.call f vs):=by
 intro w s₀ s₁ mg mb G Y fa o pm cd doc dV kV ho hd hcd hD hmg hg args vals as hpre hlay hrd hwl hlo;obtain rfl:dV=.none:=Dflts.none hD hdf;obtain rfl:kV=.none:=Dflts.noKw hD;obtain⟨a,vs,ns,rfl,rfl,hobj,hints,hlen⟩:=Zgd hn hpre hwl;refine enter_call (codeAny_mono (call w s₀ s₁ mg mb fa o pm cd doc a vs ns G Y ho (fd_plain hd) hcd hmg hobj hints hlen hg) λr s' hq=>?_);obtain⟨rfl,h2,h3,h4⟩:=hq;exact⟨.inl ⟨.bool true,.bool true,[],rfl,λ_=>rfl,.bool true,Zge l _,λ_=>⟨List.Pairwise.nil,λ_ hm=>(nomatch hm)⟩⟩,h2,h3,h4⟩
end TN
namespace L2
open PySem PySem.Spec PyProof.Rows
theorem NP:∀{vs:List Value}{ns:List Int},IntsAre vs ns->Vals (ns.map V.int) vs
 |_,_,.nil=>.nil
 |_,_,.cons n t h=>.cons ⟨t,rfl⟩ (NP h)
def Y0(s:Stmt)(j:Nat):Stmt:=match s with
 | .ClassDef _ _ _ body _ _ _ _ _ _ _=>body.getD j (.Pass ⟨0,0,0,0⟩)
 |_=>.Pass ⟨0,0,0,0⟩
def ZP(s:Stmt):Arguments:=match s with
 | .FunctionDef _ a _ _ _ _ _ _ _ _=>a
 |_=>{ posonlyargs:=[],args:=[],vararg:=none,kwonlyargs:=[],kw_defaults:=[],kwarg:=none,defaults:=[] }
def ZD(s:Stmt):List Stmt:=match s with
 | .FunctionDef _ _ b _ _ _ _ _ _ _=>b
 |_=>[]
def Zr(s:Stmt):Scope:=match s with
 | .FunctionDef _ _ _ _ _ _ sc _ _ _=>sc
 |_=>{ kind:=.function,names:=[],isGenerator:=false,isCoroutine:=false }
abbrev oR:yE:=λ_ _ _ _ _ _=>False
abbrev E0:XK:=λ_ _ _=>False
theorem tS{X:Cx}:CS oR X E0:=λ_ _ _ _ _ _ _ h=>h.elim
structure uf(K:W.Frag)(x qual:Str)(st:Stmt)(f:Addr)(fd:FuncData):Prop where
 ex:∃(oc:Value)(od:Option Addr)(kV doc pm:Value)(an:Option Addr)(cdv ct:Value)(osl:Array (Option Value)),
  fd=W.fnOf x qual (ZP st) (ZD st) (Zr st) .none kV doc pm an cdv ct/\K.lookup f=some ⟨oc,od,.func fd,osl⟩/\W.codeIn K cdv qual=true
 kp:W.keepIn K (.ref f)=true
section
variable{P:Program}{w:World}{K:W.Frag}{mg:Str->Option Value}{base:Heap}
theorem uf.ok{x qual:Str}{st:Stmt}{f:Addr}{fd:FuncData}{N ps:List Str}{k:Nat}{sp:Sp}(F:uf K x qual st f fd)(S:fz N ps (Zr st))(len:∀vs H Q E,sp vs H Q E->vs.length=ps.length)
  (hbody:∀(cdv:Value)(A:Around)(outer:List Env)(s:Shared)(H:Hp)(vs:List V)(Q:VK)(E:XK),bf k (A.deeper (envOfC qual (Zr st) s.heap.objs.size f cdv))->sp vs H Q E ->
   ∃t,uM (qw oR P w K mg base N qual (Zr st) f cdv A outer s H E).Cd (ZD st) t/\t { nx:=λ_ H'=>Q .aS H',rt:=Q } (start N vs) H):cJ P w K mg base oR (k+1) f fd ps sp:=by
 obtain⟨oc,od,kV,doc,pm,an,cdv,ct,osl,rfl,lk,hcd⟩:=F.ex;refine Ba lk hcd S len λA outer s H vs Q E hr uD=>?_;obtain⟨t,h,q⟩:=hbody cdv A outer s H vs Q E hr uD;exact⟨t,h.Cd,q⟩
theorem uf.binds{x qual:Str}{st:Stmt}{f:Addr}{fd:FuncData}{ps:List Str}(F:uf K x qual st f fd)
  (h:∀(kV doc pm:Value)(an:Option Addr)(cdv ct:Value)(us:List Value),us.length=ps.length->bindArgs (W.fnOf x qual (ZP st) (ZD st) (Zr st) .none kV doc pm an cdv ct) ⟨us,[]⟩=pure (ps.zip us)):Binds K fd ps []:=by
 obtain⟨oc,od,kV,doc,pm,an,cdv,ct,osl,rfl,lk,hcd⟩:=F.ex;exact .all (h kV doc pm an cdv ct)
theorem CQ{x qual:Str}{st:Stmt}{f:Addr}{oc:Value}{od an:Option Addr}{osl:Array (Option Value)}{kV doc pm cdv ct:Value}(l:K.lookup f=some ⟨oc,od,.func (W.fnOf x qual (ZP st) (ZD st) (Zr st) .none kV doc pm an cdv ct),osl⟩)
  (c:W.codeIn K cdv qual=true) (k:W.keepIn K (.ref f)=true):uf K x qual st f (W.fnOf x qual (ZP st) (ZD st) (Zr st) .none kV doc pm an cdv ct):=⟨⟨oc,od,kV,doc,pm,an,cdv,ct,osl,rfl,l,c⟩,k⟩
end
theorem A5{A:Around}{k:Nat}(hr:bf k A):A.units+1<cLine:=aq5 (Nat.add_le_add_left (by decide:1<=64) _) hr.units
theorem Zz{n:Nat}(h:n<=1000):n<sizeLine:=aq5 h (by decide)
section
variable{X:Cx}
theorem pv(i:Nat){x:Str}{pos:Pos}(hN:X.N[i]?=some x:=by rfl)(hv:HV X.env.scope x:=by first|exact Or.inl rfl|exact Or.inr (Or.inl rfl)|exact Or.inr (Or.inr rfl))(hd:(x ==("__debug__":Str))=false:=by decide)
  (hcd:(x ==("__classdict__":Str))=false:=by decide):PE X (.Name x pos) (EI i):=Z2 hN hv hd hcd
end
def aB(H H':Hp):Prop:=∀b o,H b=some o->H' b=some o
theorem aB.refl(H:Hp):aB H H:=λ_ _ h=>h
theorem aB.trans{H H1 H2:Hp}(a:aB H H1)(b:aB H1 H2):aB H H2:=λc o h=>b c o (a c o h)
theorem aB.free{H H':Hp}(e:aB H H'){l:Addr}(h:H' l=Option.none):H l=Option.none:=by
 cases q:H l with
 |none=>rfl
 |some o=>
  rw[e l o q]at h;cases h
theorem aB.seq{K:W.Frag}{H H':Hp}{a:Addr}{xs:List V}(e:aB H H')(h:az K H a xs):az K H' a xs:=by
 rcases h with(h|⟨o,h⟩)|h
 .exact .inl (.inl (e _ _ h))
 .exact .inl (.inr ⟨o,e _ _ h⟩)
 .exact .inr h
end L2
set_option maxHeartbeats 4000000
namespace L2
open PySem PySem.Spec PyProof.Rows
def bY(X:Cx)(N:List Str)(scope:Scope)(cl:List (Str×Addr))(C:Addr)(s0:Shared)(H0:Hp)(fp:List Addr)(pins:List (Addr×Obj)):Cx:=
 { X with N:=N,s₀:=s0,H₀:=H0,env:=compEnvC scope cl C X.env,outer:=X.stack,stack:=X.stack,ex:=fp,fn:=λx=>scope.names.lookup x ==some .cell,pn:=X.pn++pins,xe:=λ_ _=>False }
theorem HQ{env:Env}:∀(names:List (Str×NameKind))(acc:List (Str×Addr)),(∀p∈names,p.2=.free->∃c,env.cells.lookup p.1=some c)->(∀x c,acc.lookup x=some c->env.cells.lookup x=some c) ->
  ∃cl,(forIn names acc λ(x:Str×NameKind) cs=>(match x with|(name,kind)=>if(kind ==NameKind.free)=true then do let a <-cellOf env name;pure (ForInStep.yield ((name,a) ::cs)) else pure (ForInStep.yield cs):Sem (ForInStep (List (Str×Addr)))))=(pure cl:Sem (List (Str×Addr))) /\
   (∀x c,cl.lookup x=some c->env.cells.lookup x=some c)/\(∀x c,acc.lookup x=some c->cl.lookup x=some c)/\∀p∈names,p.2=.free->∃c,cl.lookup p.1=some c
 | [],acc,_,h=>⟨acc,rfl,h,λ_ _ e=>e,λ_ z=>nomatch z⟩
 |(n,k) ::r,acc,h,ha=>by
  by_cases hk:k=.free
  .subst hk;obtain⟨c,hc⟩:=h (n,.free) aTL rfl;have ha':∀x d,((n,c) ::acc).lookup x=some d->env.cells.lookup x=some d:=λx d e=>by
    rw[aws]at e;cases q:x ==n with
    |true=>
     rw[q]at e;have hxn:x=n:=by simpa using q
     subst hxn;cases e;exact hc
    |false=>
     rw[q]at e;exact ha x d e
   obtain⟨cl,e1,e2,e3,e4⟩:=HQ r ((n,c) ::acc) (λp hp=>h p (arx _ hp)) ha';have top:∃d,cl.lookup n=some d:=⟨c,e3 n c (by rw[aws];simp)⟩;refine⟨cl,?_,e2,λx d e=>?_,λp hp hf=>?_⟩
   .rw [agA];simp only[cellOf,hc,afE,a6Z];exact e1
   .cases q:x ==n with
    |true=>
     have hxn:x=n:=by simpa using q
     subst hxn;have z:=ha x d e;rw[hc]at z;cases z;exact e3 x c (by rw[aws];simp)
    |false=>exact e3 x d (by rw[aws,q];exact e)
   .rcases baL.mp hp with rfl|hp
    .exact top
    .exact e4 p hp hf
  .obtain ⟨cl,e1,e2,e3,e4⟩:=HQ r acc (λp hp=>h p (arx _ hp)) ha;have hb:(k ==NameKind.free)=false:=by simpa using hk
   refine⟨cl,?_,e2,e3,λp hp hf=>?_⟩
   .rw [agA];simp only[hb,aY9,a3v];exact e1
   .rcases baL.mp hp with rfl|hp
    .exact absurd hf hk
    .exact e4 p hp hf
theorem Tc{α:Type}(f:Str->α->α)(x:Str):∀l:List (Str×α),(l.map λp=>(p.1,f p.1 p.2)).lookup x=(l.lookup x).map (f x)
 | []=>rfl
 |(n,k) ::r=>by
  have ih:=Tc f x r;rw[a2a,aws,aws];cases q:x ==n with
  |true=>
   have e:x=n:=by simpa using q
   subst e;rfl
  |false=>exact ih
def CP(env:Env)(n:Str)(k:NameKind):NameKind:=if(k ==NameKind.free && env.scope.kind == .function && env.kindOf n ==some .cell)=true then .cell else k
theorem S9(scope:Scope)(env:Env)(x:Str):(relabel scope env).names.lookup x=(scope.names.lookup x).map (CP env x):=by
 rw[<-Tc (CP env) x scope.names];show(scope.names.map _).lookup x=_;congr 1
 refine aHS λp _=>?_;show(if _ then _ else _)=_;unfold CP;split <;> rfl
theorem S8(env:Env)(n:Str)(k:NameKind):CP env n k=k\/(k=.free/\CP env n k=.cell):=by
 unfold CP;by_cases h:(k ==NameKind.free && env.scope.kind == .function && env.kindOf n ==some .cell)=true
 .refine .inr ⟨?_,aaU h⟩;rw[aTz,aTz]at h;exact aCi.mp h.1.1
 .exact .inl (afn h)
theorem ZaN{scope:Scope}{env:Env}{x:Str}{k:NameKind}(h:scope.names.lookup x=some k) :
  (relabel scope env).names.lookup x=some k\/(k=.free/\(relabel scope env).names.lookup x=some .cell):=by
 rw[S9,h];rcases S8 env x k with q|⟨q,q'⟩
 .exact .inl (azy some q)
 .exact .inr ⟨q,azy some q'⟩
theorem Zdr{scope:Scope}{env:Env}{x:Str}{k:NameKind}(h:(relabel scope env).names.lookup x=some k):∃k',scope.names.lookup x=some k'/\(k'=k\/k'=.free):=by
 rw[S9]at h;cases q:scope.names.lookup x with
 |none=>rw[q]at h;cases h
 |some k'=>
  rw[q]at h;have h':CP env x k'=k:=a9h h;rcases S8 env x k' with z|⟨z,_⟩
  .exact ⟨k',rfl,.inl (z.symm.trans h')⟩
  .exact ⟨k',rfl,.inr z⟩
theorem ZL{α:Type}{x:Str}:∀{l:List (Str×α)}{k:α},l.lookup x=some k->(x,k)∈l
 | [],_,h=>by simp at h
 |(n,k) ::r,k',h=>by
  rw[aws]at h;cases hx:x ==n with
  |true=>
   rw[hx]at h;cases h;have:x=n:=by simpa using hx
   subst this;exact aTL
  |false=>
   rw[hx]at h;exact arx _ (ZL h)
theorem Zgf{prog:Program}{w:World}{A:Around}{s:Shared}{elt target iter:PySem.Expr}{ifs:List PySem.Expr}{scope:Scope}{pos:Pos}{it acc:Value}{env:Env}{R:Result->Shared->Prop}(I:Nat->Shared->Prop)
  (turn:∀n s,I n s->wpAny (model prog w) A (pyNext it) (λr s1=>match r with
   |none=>R (.ok .next) s1
   | some v=>wpAny (model prog w) A (letOwnedTupleGo target it v) (λ_ s0=>wpAny (model prog w) A (assign target env v) (λ_ s2=>
     wpAny (model prog w) A (forIn ifs true λc r=>if r=true then do let ok <-isTrue c env (eval c env);pure (ForInStep.yield ok) else pure (ForInStep.yield r)) (λok s3=>
      if ok=true then wpAny (model prog w) A (eval elt env) (λx s4=>
       wpAny (model prog w) A (call (.builtin "list.append") [acc,x]) (λ_ s5=>∃m,m<n/\I m s5) (λ_ _=>False) s4) (λ_ _=>False) s3
      else ∃m,m<n/\I m s3) (λ_ _=>False) s2) (λ_ _=>False) s0) (λ_ _=>False) s1) (λ_ _=>False) s)
  (n:Nat) (h:I n s):codeAny (model prog w) A (.compLoop (.ListComp elt [⟨target,iter,ifs,0⟩] scope pos) 0 it acc env) R s:=by
 have body:∀n s,I n s->wpAny (model prog w) A (compTurn (.ListComp elt [⟨target,iter,ifs,0⟩] scope pos) 0 it acc env)
   (λfin s'=>match fin with| .done f=>R (.ok f) s'| .again c=>c=.compLoop (.ListComp elt [⟨target,iter,ifs,0⟩] scope pos) 0 it acc env/\∃m,m<n/\I m s') (λ_ _=>False) s:=λn s hI=>by
  rw[compTurn_list];refine asu (aiR (asu (bZ (turn n s hI) λr s1 h1=>?_)));cases r with
  |none=>exact aJq h1
  |some v=>
   refine asu (bZ h1 λ_ s0 h0=>asu (bZ h0 λ_ s2 h2=>asu (bZ h2 λok s3 h3=>?_)));cases ok with
   |true=>exact asu (asu (bZ h3 λx s4 h4=>asu (bZ h4 λ_ s5 h5=>aJq (aJq ⟨rfl,h5⟩))))
   |false=>exact aJq ⟨rfl,h3⟩
 exact codeAny_loop rfl I (λn s hI=>wpAny_noted (a4X (body n s hI) (λ_ _ q=>q) λ_ _ q=>q.elim)) n h
def sC(own:Nat)(js:List Nat)(wi:TI)(g:TG)(tc:TT)(te:TE):TE:=λσ H Q=>wi σ H λJ H1=>∀l,H1 l=none ->
 ∃W:Nat->Nat->List V->St->Hp->Prop,(∃m,W 0 m [] (List.replicate own none++js.map λj=>(σ[j]?).join) (upd H1 l (.lst [])))/\∀i m ys σ' H',W i m ys σ' H' ->
  (J.stop i H'/\Q (.ref l) H')\/(J.go i H'/\∀x H2,J.su i H' x H2->g x σ' H2 λσ2 H3=>tc σ2 H3 λb H4=>
   if b=true then te σ2 H4 λy H5=>H5 l=some (.lst ys)/\ys.length<sizeLine/\∃m',m'<m/\W (i+1) m' (ys++[y]) σ2 (upd H5 l (.lst (ys++[y])))
   else ∃m',m'<m/\W (i+1) m' ys σ2 H4)
def Am:TT:=λ_ H Q=>Q true H
structure fc(X:Cx)(scope:Scope)(N:List Str)(own:Nat)(js:List Nat):Prop where
 kind:scope.kind=.function
 cell:∀y∈scope.names,y.2=.cell->scope.names.lookup y.1=some .cell
 names:∀y∈scope.names,y.2=.local->scope.names.lookup y.1=some .local
 free:∀y∈scope.names,y.2=.free->X.env.kindOf y.1=some .cell\/X.env.kindOf y.1=some .free
 len:N.length=own+js.length
 js:∀k j,js[k]?=some j->N[own+k]?=X.N[j]?
 jf:∀k x,N[own+k]?=some x->scope.names.lookup x=some .free
theorem Un.but{fs ex:List Addr}{H H':Hp}{h h1 h2:Heap}{C:Addr}(u:Un fs ex H H' h h1)(hc:h.objs.size<=C)(sb:∀b o,b≠C->h1.get? b=some o->h2.get? b=some o):Un fs ex H H' h h2:=by
 have ne:∀b o,h.get? b=some o->b≠C:=λb o e=>ar8 (aJC (aYz e) hc);refine⟨λb o q n hb hx=>sb b o (ne b o q) (u.keep b o q n hb hx),λb o q n hb hx=>?_,u.free,λb o q hx=>?_,u.tups,u.jM,u.j0⟩
 .obtain ⟨sl,e⟩:=u.slot b o q n hb hx;exact⟨sl,sb b _ (ne b o q) e⟩
 .obtain ⟨o',e⟩:=u.there b o q hx;exact⟨o',sb b o' (ne b o q) e⟩
theorem CO:∀(names:List (Str×NameKind))(n:Nat)(acc:List (Str×Addr)),cellsFrom n names acc=cellsFrom n names []++acc
 | [],_,_=>rfl
 |(x,k) ::r,n,acc=>by
  unfold cellsFrom;by_cases hk:(k ==NameKind.cell)=true
  .rw [aaU hk,aaU hk,CO r (n+1) ((x,n) ::acc),CO r (n+1) [(x,n)],aBM];rfl
  .rw [afn hk,afn hk];exact CO r n acc
theorem Ni:∀(names:List (Str×NameKind))(n:Nat)(x:Str)(c:Addr),(x,c)∈cellsFrom n names []->(x,NameKind.cell)∈names
 | [],_,_,_,h=>nomatch h
 |(y,k) ::r,n,x,c,h=>by
  unfold cellsFrom at h;by_cases hk:(k ==NameKind.cell)=true
  .rw [aaU hk,CO]at h;rcases aaI.mp h with q|q
   .exact arx _ (Ni r _ x c q)
   .have e:(x,c)=(y,n):=by simpa using q
    cases e;have hk':k=.cell:=by simpa using hk
    subst hk';exact aTL
  .rw [afn hk]at h;exact arx _ (Ni r _ x c h)
theorem Tg{α:Type}:∀{l:List (Str×α)}{x:Str}{c:α},(x,c)∈l->∃d,l.lookup x=some d
 |(y,v) ::r,x,c,h=>by
  rw[aws];cases q:x ==y with
  |true=>exact⟨v,rfl⟩
  |false=>
   rcases baL.mp h with e|e
   .cases e;simp at q
   .exact Tg e
theorem MU:∀(names:List (Str×NameKind))(n:Nat)(x:Str),(x,NameKind.cell)∈names->∃c,(x,c)∈cellsFrom n names []
 | [],_,_,h=>nomatch h
 |(y,k) ::r,n,x,h=>by
  unfold cellsFrom;rcases baL.mp h with e|e
  .cases e;rw[aaU (show(NameKind.cell ==NameKind.cell)=true from rfl),CO];exact⟨n,bax _ (by simp)⟩
  .by_cases hk:(k ==NameKind.cell)=true
   .rw [aaU hk,CO];obtain⟨c,q⟩:=MU r (n+1) x e;exact⟨c,a96 _ q⟩
   .rw [afn hk];exact MU r n x e
theorem SX{α:Type}:∀(l m:List (Str×α))(x:Str),(l++m).lookup x=match l.lookup x with|some c=>some c|none=>m.lookup x
 | [],m,x=>rfl
 |(y,v) ::r,m,x=>by
  rw[List.cons_append,aws,aws];cases x ==y with
  |true=>rfl
  |false=>exact SX r m x
theorem Zds{M:Model}{A:Around}{E:Value->Shared->Prop}{s:Shared}{scope:Scope}{globals:Addr}{cl:List (Str×Addr)}{qual:Str}{env:Env}{Q:Env->Shared->Prop}
  (h:Q (newEnv scope s.heap.objs.size globals (cellsFrom (s.heap.objs.size+1) scope.names cl) qual none .none (some env) builtinsNs) { s with heap:=pushCells (s.heap.push { cls:=.type "dict",data:=.dict #[] }) scope.names }) :
  wpAny M A (newFunctionEnv scope globals cl [] qual none .none (some env)) Q E s:=by
 simp only[newFunctionEnv,Option.isSome_some,a6Z];refine asu (wpAny_alloc (asu (wpAny_layCells _ (λname kind cells=>by cases hkc:kind ==NameKind.cell <;> simp[hkc]) _ _ _ _ ?_)));rw[show({ s with heap:=s.heap.push { cls:=.type "dict",data:=.dict #[] } }:Shared).heap.objs.size=s.heap.objs.size+1 from aC3 ..];rw[List.forIn_nil];exact asu (aJq (aJq h))
structure ug(X:Cx)(scope:Scope)(qy:List (Str×Addr))(n:Nat)(h':Heap):Prop where
 k1:∀x c,qy.lookup x=some c->X.env.cells.lookup x=some c\/(n<c/\h'.IsCell c none/\(x,NameKind.cell)∈scope.names)
 k2:∀x,scope.names.lookup x=some .free->∃c,qy.lookup x=some c/\X.env.cells.lookup x=some c
 k3:∀p∈scope.names,p.2=.cell\/p.2=.free->∃c,qy.lookup p.1=some c
 k4:∀x y c,qy.lookup x=some c->qy.lookup y=some c->x=y
 k5:∀x c,scope.names.lookup x=some .cell->qy.lookup x=some c->n<c
section
variable{X:Cx}{scope:Scope}{N:List Str}{own:Nat}{js:List Nat}
theorem Zfp{cl:List (Str×Addr)}{n:Nat}{h0:Heap}(c:fc X scope N own js)(jN:∀x c,cl.lookup x=some c->X.env.cells.lookup x=some c)(oX:∀p∈scope.names,p.2=.free->∃c,cl.lookup p.1=some c)
  (inj:∀x y c,X.env.cells.lookup x=some c->X.env.cells.lookup y=some c->x=y) (lt:∀x c,X.env.cells.lookup x=some c->c<n) (hn:h0.objs.size=n+1):ug X scope (cellsFrom (n+1) scope.names cl) n (pushCells h0 scope.names):=by
 have ok:=cellsFrom_ok scope.names h0 (n+1) [] ⟨λ_ _ hm=>(nomatch hm),List.Pairwise.nil⟩ (by rw[hn];exact ags _);rw[hn]at ok;have two:∀x,(cellsFrom (n+1) scope.names cl).lookup x=match(cellsFrom (n+1) scope.names []).lookup x with|some c=>some c|none=>cl.lookup x:=λx=>by
  rw[CO,SX];cases(cellsFrom (n+1) scope.names []).lookup x <;> rfl
 have own':∀x d,(cellsFrom (n+1) scope.names []).lookup x=some d->(pushCells h0 scope.names).IsCell d none/\n<d/\(x,NameKind.cell)∈scope.names:=λx d e=>
  ⟨(ok.empty x d (mem_of_lookup e)).1,(ok.empty x d (mem_of_lookup e)).2,Ni _ _ x d (mem_of_lookup e)⟩
 have part:∀x d,(cellsFrom (n+1) scope.names cl).lookup x=some d->(cellsFrom (n+1) scope.names []).lookup x=some d\/((cellsFrom (n+1) scope.names []).lookup x=none/\cl.lookup x=some d):=λx d e=>by
  rw[two]at e;cases q:(cellsFrom (n+1) scope.names []).lookup x with
  |some d'=>rw[q]at e;exact .inl e
  |none=>rw[q]at e;exact .inr ⟨rfl,e⟩
 have has:∀x,(x,NameKind.cell)∈scope.names->∃d,(cellsFrom (n+1) scope.names []).lookup x=some d:=λx m=>by
  obtain⟨d,q⟩:=MU scope.names (n+1) x m;exact Tg q
 refine⟨λx d e=>?_,λx e=>?_,λp hp hk=>?_,λx y d e1 e2=>?_,λx d e1 e2=>?_⟩
 .rcases part x d e with q|⟨_,q⟩
  .exact .inr ⟨(own' x d q).2.1,(own' x d q).1,(own' x d q).2.2⟩
  .exact .inl (jN x d q)
 .obtain ⟨d,q⟩:=oX _ (ZL e) rfl;have no:(cellsFrom (n+1) scope.names []).lookup x=none:=by
   cases z:(cellsFrom (n+1) scope.names []).lookup x with
   |none=>rfl
   |some d'=>
    have y:=c.cell _ (own' x d' z).2.2 rfl;rw[show scope.names.lookup x=_ from e]at y;cases y
  exact⟨d,by rw[two,no];exact q,jN x d q⟩
 .rw [two];cases z:(cellsFrom (n+1) scope.names []).lookup p.1 with
  |some d'=>exact⟨d',rfl⟩
  |none=>
   rcases hk with hk|hk
   .obtain ⟨d,q⟩:=has p.1 (by rw[<-hk];exact hp);rw[z]at q;cases q
   .exact oX p hp hk
 .rcases part x d e1 with q1|⟨_,q1⟩
  .rcases part y d e2 with q2|⟨_,q2⟩
   .exact name_of_addr ok.apart (mem_of_lookup q1) (mem_of_lookup q2)
   .exact absurd (aN5 (own' x d q1).2.1 (lt y d (jN y d q2))) (aiF _)
  .rcases part y d e2 with q2|⟨_,q2⟩
   .exact absurd (aN5 (own' y d q2).2.1 (lt x d (jN x d q1))) (aiF _)
   .exact inj x y d (jN x d q1) (jN y d q2)
 .obtain ⟨d',q⟩:=has x (ZL e1);rw[two,q]at e2;cases e2;exact(own' x d q).2.1
theorem Zfq{pins:List (Addr×Obj)}{σ:St}{H:Hp}{s:Shared}{cl:List (Str×Addr)}{fp:List Addr}{h':Heap}{t':Nat}(c:fc X scope N own js)(I:Inv X pins σ H s)(hf:∀b∈fp,jT X pins H b)
  (fo:∀b∈fp,b<s.heap.objs.size)
  (ci:ug X scope cl s.heap.objs.size h')
  (hn:h'.Ns s.heap.objs.size (λ_=>none)) (hk:∀b o,s.heap.get? b=some o->h'.get? b=some o) :
  Inv (bY X N scope cl s.heap.objs.size s H fp pins) [] (List.replicate own none++js.map λj=>(σ[j]?).join) H { s with heap:=h',toks:=t' }:=by
 have yo:∀x c,cl.lookup x=some c->c≠s.heap.objs.size:=λx c e=>by
  rcases ci.k1 x c e with q|⟨q,_⟩
  .obtain ⟨v,q⟩:=I.cell x c q;exact ar8 q.lt
  .exact aVo q
 have ok:(bY X N scope cl s.heap.objs.size s H fp pins).Ok:=by
  refine⟨I.ok.mod,c.kind,I.ok.glob,I.ok.blt,ags _,ci.k4,λx hx=>?_,λx d z e=>aUL (ci.k5 x d (aCi.mp (show(scope.names.lookup x ==some .cell)=true from z)) e),I.ok.hd,I.ok.frames,.inl rfl,λb hb=>⟨ar8 (fo b hb),λx d e=>(ci.k1 x d e).elim (λq=>(hf b hb).2.2.2.2.1 x d q) λq=>aVo (aN5 (fo b hb) q.1)⟩,I.bs,
   a0n I.ok.yp I.sz,λb o e hb=>?_,λb hb z=>?_,I.stack,I.nC⟩
  .have back:∀k,(relabel scope X.env).names.lookup x=some k->k=.cell\/k=.free->∃k',(x,k')∈scope.names/\(k'=NameKind.cell\/k'=NameKind.free):=λk e hk=>by
    obtain⟨k',e',z⟩:=Zdr e;refine⟨k',ZL e',?_⟩;rcases z with z|z
    .subst z;exact hk
    .exact .inr z
   obtain⟨k',m,hk'⟩:∃k',(x,k')∈scope.names/\(k'=NameKind.cell\/k'=NameKind.free):=by
    rcases hx with hx|hx
    .exact back _ hx (.inl rfl)
    .exact back _ hx (.inr rfl)
   exact ci.k3 _ m hk'
  .rcases (hf b hb).2.2.2.1 with z|z
   .exact I.ok.wU b o e z
   .exact absurd (aJC (aJC (aYz e) I.ok.yp) z) (aiF _)
  .rcases baL.mp (I.nB b z) with q|q
   .exact (hf b hb).2.1 q
   .exact (hf b hb).2.2.1 q
 refine⟨ok,rfl,I.bare,Un.kept hk,⟨_,hn,λi x v e1 e2 e3=>?_⟩,λx d e=>?_,I.hok.fresh (ags _),λx d e=>(ci.k1 x d e).elim (λq=>I.dD x d q) λq=>I.hok.fresh (aUL q.1),λp hp=>?_,I.hok.kept hk,?_⟩
 .-- a name with a value is one that the block closes over
  have hi:own<=i:=by
   by_cases hi:i<own
   .rw [aGp (by simpa using hi),a7B]at e2;split at e2 <;> cases e2
   .lia
  obtain⟨k,rfl⟩:∃k,i=own+k:=⟨i-own,by lia⟩;rw[a8o (by simp),aSy,Nat.add_sub_cancel_left,acC]at e2;cases q:js[k]? with
  |none=>rw[q]at e2;cases e2
  |some j=>
   rw[q]at e2;have qu:(σ[j]?).join=some v:=by simpa using e2
   have e4:σ[j]?=some (some v):=by
    cases z:σ[j]? with
    |none=>rw[z]at qu;cases qu
    |some o=>rw[z]at qu;rw[show o=some v from qu]
   have qv:N[own+k]?=some x:=e1;have Mm:X.N[j]?=some x:=(c.js k j q).symm.trans qv;have hfr:=c.jf k x qv;have hmem:=ZL hfr;have hk2:=c.free _ hmem rfl;have vis:HV X.env.scope x:=by
    rcases hk2 with z|z
    .exact .inr (.inl z)
    .exact .inr (.inr z)
   obtain⟨m,_,hl⟩:=I.loc;obtain⟨u,r,l⟩:=hl j x v Mm e4 vis;refine⟨u,r,?_⟩;rcases l with⟨z,_⟩|⟨_,d,e,⟨od,ho,hd⟩⟩
   .rcases hk2 with y|y
    .rw [show X.env.kindOf x=_ from z]at y;cases y
    .rw [show X.env.kindOf x=_ from z]at y;cases y
   .obtain ⟨d',e',z'⟩:=ci.k2 x hfr;have:d'=d:=by have z:=z';rw[e]at z;exact(a9h z).symm
    subst this;refine .inr ⟨?_,d',e',⟨od,hk _ _ ho,hd⟩⟩;rcases ZaN (scope:=scope) (env:=X.env) hfr with z|⟨_,z⟩
    .exact .inr z
    .exact .inl z
 .rcases ci.k1 x d e with q|⟨_,q,_⟩
  .obtain ⟨v,⟨o,ho,hd⟩⟩:=I.cell x d q;exact⟨v,o,hk _ _ ho,hd⟩
  .exact ⟨none,q⟩
 .have Cr:p∈X.pn++pins:=by
   have z:p∈(X.pn++pins)++[]:=hp;rwa [aWa]at z
  obtain⟨a1,a2,a3,a4,a5⟩:=I.pin p Cr;refine⟨hk _ _ a1,a2,ar8 (aYz a1),λz=>?_,a5⟩;rcases baL.mp (I.nB p.1 z) with q|q
  .exact a3 q
  .exact a4 q
 .show _=N.length;rw[c.len];simp
theorem SW{pins:List (Addr×Obj)}{σ:St}{H:Hp}{s:Shared}{elt target iter:PySem.Expr}{ifs:List PySem.Expr}{pos:Pos}{it:Addr}{fp:List Addr}{tn:Nat->Heap->Prop}{J:It}{cl:List (Str×Addr)}{g:TG}{tc:TT}{te:TE}{E:Value->Shared->Prop}{Q:VK}
  {RR:Value->Addr->Result->Shared->Prop}
  (c:fc X scope N own js) (hc:X.calm=true) (I:Inv X pins σ H s) (T:Turn X.prog X.w X.K target J fp it tn) (st:tn 0 s.heap) (hf:∀b∈fp,jT X pins H b)
  (jN:∀x c,cl.lookup x=some c->X.env.cells.lookup x=some c) (oX:∀p∈scope.names,p.2=.free->∃c,cl.lookup p.1=some c)
  (hg:∀cl C s0 H0 fp pins,PG (bY X N scope cl C s0 H0 fp pins) target g)
  (ht:∀cl C s0 H0 fp pins dz s σ H Q,Inv (bY X N scope cl C s0 H0 fp pins) dz σ H s->tc σ H Q->wpAny (model X.prog X.w) X.A (forIn ifs true λc r=>if r=true then do let ok <-isTrue c (compEnvC scope cl C X.env) (eval c (compEnvC scope cl C X.env));pure (ForInStep.yield ok) else pure (ForInStep.yield r))
   (TP (bY X N scope cl C s0 H0 fp pins) dz σ Q) (λ_ _=>False) s)
  (he:∀cl C s0 H0 fp pins,PE (bY X N scope cl C s0 H0 fp pins) elt te)
  (h:∀l,H l=none->∃W:Nat->Nat->List V->St->Hp->Prop,(∃m,W 0 m [] (List.replicate own none++js.map λj=>(σ[j]?).join) (upd H l (.lst [])))/\∀i m ys σ' H',W i m ys σ' H' ->
   (J.stop i H'/\Q (.ref l) H')\/(J.go i H'/\∀x H2,J.su i H' x H2->g x σ' H2 λσ2 H3=>tc σ2 H3 λb H4=>
    if b=true then te σ2 H4 λy H5=>H5 l=some (.lst ys)/\ys.length<sizeLine/\∃m',m'<m/\W (i+1) m' (ys++[y]) σ2 (upd H5 l (.lst (ys++[y])))
    else ∃m',m'<m/\W (i+1) m' ys σ2 H4))
  (hRR:∀l C H' s' m',s.heap.objs.size<=C->s'.heap.Ns C m'->H' C=none->C≠X.env.locals->C∉X.fs->(∀h2,Heap.SameBut C s'.heap h2->Inv X pins σ H' { s' with heap:=h2 })->Q (.ref l) H'->RR (.ref l) C (.ok .next) s') :
  wpAny (model X.prog X.w) X.A (newList []) (λacc s3=>wpAny (model X.prog X.w) X.A (newFunctionEnv scope X.env.globals cl [] X.env.qual none .none (some X.env)) (λcenv s4=>
   codeAny (model X.prog X.w) X.A (.compStart (.ListComp elt [⟨target,iter,ifs,0⟩] scope pos) 0 (.ref it) acc { cenv with scope:=relabel scope X.env }) (RR acc cenv.locals) s4) E s3) E s:=by
 have I2:Inv X pins σ (upd H s.heap.objs.size (.lst [])) { s with heap:=s.heap.push { cls:=.type "list",dict:=none,data:=.seq ([]:List Value).toArray },toks:=s.toks }:=I.FZ (ys:=[]) .nil (aL2 _);obtain⟨W,⟨m0,w0⟩,turn⟩:=h s.heap.objs.size I.fresh;refine a6N (Zds ?_);dsimp only;generalize hS:({ s with heap:=s.heap.push { cls:=.type "list",dict:=none,data:=.seq ([]:List Value).toArray },toks:=s.toks }:Shared)=s2 at I2;have e2:s2.heap=s.heap.push { cls:=.type "list",dict:=none,data:=.seq ([]:List Value).toArray }:=by rw[<-hS]
 have Oh:s2.heap.objs.size=s.heap.objs.size+1:=by rw[e2,aC3]
 rw[<-e2];have ci:=Zfp (h0:=s2.heap.push { cls:=.type "dict",data:=.dict #[] }) (n:=s2.heap.objs.size) c jN oX I2.ok.inj (λx d e=>by obtain⟨v,q⟩:=I2.cell x d e;exact q.lt) (aC3 ..);have A6:(pushCells (s2.heap.push { cls:=.type "dict",data:=.dict #[] }) scope.names).Ns s2.heap.objs.size (λ_=>none):=(Heap.Ns.new s2.heap (.type "dict")).keeps (pushCells_keeps _ _);have old:∀b o,s2.heap.get? b=some o->(pushCells (s2.heap.push { cls:=.type "dict",data:=.dict #[] }) scope.names).get? b=some o:=λb o e=>pushCells_keeps _ _ b o (a8r _ e);generalize pushCells (s2.heap.push { cls:=.type "dict",data:=.dict #[] }) scope.names=h1 at ci A6 old ⊢;generalize hcl:cellsFrom (s2.heap.objs.size+1) scope.names cl=qy at ci ⊢;have xg:∀b,b∈fp->b<s.heap.objs.size:=λb hb=>by
  obtain⟨o,e,_⟩:=T.obj 0 _ st b hb;exact aYz e
 have hf2:∀b∈fp,jT X pins (upd H s.heap.objs.size (.lst [])) b:=λb hb=>⟨by rw[Zc (ar8 (xg b hb))];exact(hf b hb).1,(hf b hb).2⟩;have Cn:∀b∈fp,b<s2.heap.objs.size:=λb hb=>by rw[Oh];exact a2T (xg b hb)
 have st2:tn 0 s2.heap:=T.keep 0 _ _ st λb _ o e=>by rw[e2];exact a8r _ e
 have I4:=Zfq (t':=s.toks) c I2 hf2 Cn ci A6 old;have cT:tn 0 h1:=T.keep 0 _ _ st2 λb _ o e=>old b o e;have es:({ s2 with heap:=h1,toks:=s.toks }:Shared)={ s with heap:=h1,toks:=s.toks }:=by rw[<-hS]
 rw[es]at I4;generalize Ws:({ s with heap:=h1,toks:=s.toks }:Shared)=s4 at I4;have EV:tn 0 s4.heap:=by rw[<-Ws];exact cT
 have loop:codeAny (model X.prog X.w) X.A (.compLoop (.ListComp elt [⟨target,iter,ifs,0⟩] scope pos) 0 (.ref it) (.ref s.heap.objs.size) (compEnvC scope qy s2.heap.objs.size X.env)) (RR (.ref s.heap.objs.size) s2.heap.objs.size) s4:=by
  refine Zgf (λn s'=>∃i ys σ' H',Inv (bY X N scope qy s2.heap.objs.size s2 (upd H s.heap.objs.size (.lst [])) fp pins) [] σ' H' s'/\tn i s'.heap/\(∀b∈fp,H' b=none)/\W i n ys σ' H') ?_ m0
   ⟨0,[],_,_,I4,EV,λb hb=>(hf2 b hb).1,w0⟩
  rintro n s5 ⟨i,ys,σ5,H5,I5,yG,Jx,w5⟩;have rA:∀{H':Hp}{s':Shared}{σ':St},Inv (bY X N scope qy s2.heap.objs.size s2 (upd H s.heap.objs.size (.lst [])) fp pins) [] σ' H' s'->(∀b∈fp,H' b=none)->∀b∈fp,jT (bY X N scope qy s2.heap.objs.size s2 (upd H s.heap.objs.size (.lst [])) fp pins) [] H' b:=λJ' hn b hb=>
   ⟨hn b hb,(J'.ok.Jy b hb).1,J'.ok.xH b hb,.inl hb,(J'.ok.Jy b hb).2,λp hp z=>by
    have Cr:p∈X.pn++pins:=by
     have q:p∈(X.pn++pins)++[]:=hp;rwa [aWa]at q
    exact(hf b hb).2.2.2.2.2 p Cr z⟩
  rcases turn i n ys σ5 H5 w5 with⟨stop,q⟩|⟨go,step⟩
  .refine a4X (T.done (bY X N scope qy s2.heap.objs.size s2 (upd H s.heap.objs.size (.lst [])) fp pins) rfl rfl rfl hc i [] s5 σ5 H5 (λ_ _=>False) I5 (rA I5 Jx) yG stop) (λr s6 ⟨hr,I6⟩=>?_) λ_ _ z=>z;subst hr;obtain⟨m',hn',_⟩:=I6.loc;have hC:s.heap.objs.size<=s2.heap.objs.size:=by rw[Oh];exact apE _
   refine hRR _ _ H5 s6 m' hC hn' I6.free ?_ ?_ (λh2 sb=>?_) q
   .exact aVo I2.lt
   .exact I2.FI (ags _)
   .have u:Un (frs X.stack) fp (upd H s.heap.objs.size (.lst [])) H5 s2.heap h2:=I6.base.but (ags _) sb.extBut;have z6:H5 s2.heap.objs.size=none:=I6.free;have hok:dW X.prog X.w H5 h2:=λb ob e=>(I6.hok b ob e).stay (λd w' hd z=>sb.extBut d w' (by
     rintro rfl;rcases hd with rfl|hd
     .rw [z6]at e;cases e
     .rw [z6]at hd;cases hd) z) (λ_ z=>z) λ_ _ z=>z
    have J:=I2.Hj (s':={ s6 with heap:=h2 }) (ch:=fp) (by show s6.os=s2.os;exact I6.os) u hok I6.bare λb hb=>⟨(hf b hb).2.2.2.1,(hf b hb).2.1,(hf b hb).2.2.2.2.1,(hf b hb).2.2.2.2.2⟩;exact J
  .refine a4X (T.item (bY X N scope qy s2.heap.objs.size s2 (upd H s.heap.objs.size (.lst [])) fp pins) rfl rfl rfl hc i [] s5 σ5 H5 (λ_ _=>False) I5 (rA I5 Jx) yG go) (λr s6 ⟨u,hr,h6⟩=>?_) λ_ _ z=>z;subst hr;refine a4X h6 (λ_ s7 ⟨x,H7,I7,r7,y7,K3,W8⟩=>?_) λ_ _ z=>z;have I7':=I7.pinned (rA I7 W8) (T.obj _ _ K3);refine a4X (hg _ _ _ _ _ _ _ s7 σ5 H7 x u _ I7' r7 (step x H7 y7)) (λ_ s8 ⟨σ8,H8,I8,q8⟩=>?_) λ_ _ z=>z;refine a4X (ht _ _ _ _ _ _ _ s8 σ8 H8 _ I8 q8) (λb s9 ⟨H9,I9,q9⟩=>?_) λ_ _ z=>z;have fin:∀{s':Shared}{H':Hp}{m':Nat}{ys':List V},Inv (bY X N scope qy s2.heap.objs.size s2 (upd H s.heap.objs.size (.lst [])) fp pins) ([]++Hx fp s7.heap) σ8 H' s'->m'<n->W (i+1) m' ys' σ8 H' ->
     ∃m,m<n/\∃i ys σ' H',Inv (bY X N scope qy s2.heap.objs.size s2 (upd H s.heap.objs.size (.lst [])) fp pins) [] σ' H' s'/\tn i s'.heap/\(∀b∈fp,H' b=none)/\W i m ys σ' H':=λ{s' H' m' ys'} J' hm w'=>by
    refine⟨m',hm,i+1,ys',σ8,H',J'.gD,T.keep _ _ _ K3 λb hb o e=>(J'.pin (b,o) (bax _ (bax _ (Ky hb e)))).1,λb hb=>?_,w'⟩;obtain⟨o,e,d⟩:=T.obj _ _ K3 b hb;exact(J'.pin (b,o) (bax _ (bax _ (Ky hb e)))).2.1
   cases b with
   |false=>
    rw[afn a7q]at q9 ⊢;obtain⟨m',hm,w'⟩:=q9;exact fin I9 hm w'
   |true=>
    rw[aaU rfl]at q9 ⊢;refine a4X (he _ _ _ _ _ _ _ s9 σ8 H9 _ I9 q9) (λy vc ⟨z,Tw,I10,AJ,el,ez,m',hm,w'⟩=>?_) λ_ _ z=>z;refine a4X (CW (X:=bY X N scope qy s2.heap.objs.size s2 (upd H s.heap.objs.size (.lst [])) fp pins) _ vc σ8 Tw (.ref s.heap.objs.size) [z] _ [y] (λ_ H'=>H'=upd Tw s.heap.objs.size (.lst (ys++[z]))) I10 rfl (.cons AJ .nil) ⟨_,_,_,rfl,rfl,el,ez,rfl⟩) (λ_ BN ⟨_,H11,I11,_,Xo⟩=>?_) λ_ _ z=>z;subst Xo;exact fin I11 hm w'
 have fin:codeAny (model X.prog X.w) X.A (.compStart (.ListComp elt [⟨target,iter,ifs,0⟩] scope pos) 0 (.ref it) (.ref s.heap.objs.size) (compEnvC scope qy s2.heap.objs.size X.env)) (RR (.ref s.heap.objs.size) s2.heap.objs.size) s4:=
  codeAny_compStart_list loop (T.self X.A 0 s4 _ _ EV loop)
 exact fin
theorem ZhD{elt target iter:PySem.Expr}{ifs:List PySem.Expr}{pos:Pos}{wi:TI}{g:TG}{tc:TT}{te:TE}(c:fc X scope N own js)(hc:X.calm=true)(hi:PI X target iter wi)
  (hg:∀cl C s0 H0 fp pins,PG (bY X N scope cl C s0 H0 fp pins) target g)
  (ht:∀cl C s0 H0 fp pins dz s σ H Q,Inv (bY X N scope cl C s0 H0 fp pins) dz σ H s->tc σ H Q->wpAny (model X.prog X.w) X.A (forIn ifs true λc r=>if r=true then do let ok <-isTrue c (compEnvC scope cl C X.env) (eval c (compEnvC scope cl C X.env));pure (ForInStep.yield ok) else pure (ForInStep.yield r))
   (TP (bY X N scope cl C s0 H0 fp pins) dz σ Q) (λ_ _=>False) s)
  (he:∀cl C s0 H0 fp pins,PE (bY X N scope cl C s0 H0 fp pins) elt te)
  (hs:∀x,foldedSetIterable iter X.env x=pure x:=by intro _;rfl):PE X (.ListComp elt [⟨target,iter,ifs,0⟩] scope pos) (sC own js wi g tc te):=by
 intro pins s σ H Q I h;obtain⟨cl,e1,jN,_,oX⟩:=HQ (env:=X.env) scope.names [] (λp hp hf=>I.ok.has _ (c.free p hp hf)) (λx d e=>by simp at e);have hclos:closureFor scope X.env=pure cl:=by
  unfold closureFor;refine(azy (λz=>z >>= λcs=>pure cs) e1).trans ?_;rfl
 rw[eval_ListComp];refine wpAny_comprehension_free (use:=none) rfl hs hclos c.kind c.names (a4X (hi pins s σ H _ I h) (λx s1 h1=>a4X h1 (λitv s2 h2=>?_) λ_ _ e=>e) λ_ _ e=>e);obtain⟨it,fp,tn,J,H2,e,I2,T,st2,f2,q⟩:=h2;subst e;refine SW (Q:=Q) (RR:=λacc C=>compPost (model X.prog X.w) X.A X.xe none (EP X pins σ Q) acc C) c hc I2 T st2 f2 jN oX hg ht he q ?_;intro l C H' s' m' hC hn hf hL hfs hI hq;exact⟨m',hn,λh2 sb=>⟨.ref l,H',hI h2 sb,rfl,hq⟩⟩
theorem ZhE{elt target iter:PySem.Expr}{ifs:List PySem.Expr}{pos pos' spos:Pos}{y:Str}{k:Nat}{wi:TI}{g:TG}{tc:TT}{te:TE}(c:fc X scope N own js)(hc:X.calm=true)(hN:X.N.Nodup)(hk:X.N[k]?=some y)(hy:X.env.scope.names.lookup y=some .local)(hi:PI X target iter wi)
  (hg:∀cl C s0 H0 fp pins,PG (bY X N scope cl C s0 H0 fp pins) target g)
  (ht:∀cl C s0 H0 fp pins dz s σ H Q,Inv (bY X N scope cl C s0 H0 fp pins) dz σ H s->tc σ H Q->wpAny (model X.prog X.w) X.A (forIn ifs true λc r=>if r=true then do let ok <-isTrue c (compEnvC scope cl C X.env) (eval c (compEnvC scope cl C X.env));pure (ForInStep.yield ok) else pure (ForInStep.yield r))
   (TP (bY X N scope cl C s0 H0 fp pins) dz σ Q) (λ_ _=>False) s)
  (he:∀cl C s0 H0 fp pins,PE (bY X N scope cl C s0 H0 fp pins) elt te)
  (hs:∀x,foldedSetIterable iter X.env x=pure x:=by intro _;rfl)
  (hsw:swapsWith (.ListComp elt [⟨target,iter,ifs,0⟩] scope pos) (some (.Name y pos')) spos.line X.env=pure true:=by rfl):PS X (.Assign [.Name y pos'] (.ListComp elt [⟨target,iter,ifs,0⟩] scope pos) spos) (ur (sC own js wi g tc te) (eY k)):=by
 intro pins s σ H D I h;obtain⟨cl,e1,jN,_,oX⟩:=HQ (env:=X.env) scope.names [] (λp hp hf=>I.ok.has _ (c.free p hp hf)) (λx d e=>by simp at e);have hclos:closureFor scope X.env=pure cl:=by
  unfold closureFor;refine(azy (λz=>z >>= λcs=>pure cs) e1).trans ?_;rfl
 rw[exec_Assign_Name_used _ _ _ _ hsw];refine asu (aiR (asu ?_));show wpAny _ X.A (do let _ <-comprehension (.ListComp elt [⟨target,iter,ifs,0⟩] scope pos) scope X.env _ (newList []) false (eval iter X.env) (some (assign (.Name y pos') X.env))) _ _ s;refine asu (a4X (wpAny_comprehension_free (use:=some (assign (.Name y pos') X.env)) (Q:=λ_ s'=>SP X pins D .next s') rfl hs hclos c.kind c.names
  (a4X (hi pins s σ H _ I h) (λxv s1 h1=>a4X h1 (λit s2 h2=>?_) λ_ _ e=>e) λ_ _ e=>e)) (λ_ s' hq=>aJq (aJq hq)) λ_ _ e=>e)
 obtain⟨it,fp,tn,J,H2,e,I2,T,st2,f2,q⟩:=h2;subst e;refine SW (Q:=λx H1=>eY k x σ H1 D.nx) (RR:=λacc C=>compPost (model X.prog X.w) X.A X.xe (some (assign (.Name y pos') X.env)) (λ_ s'=>SP X pins D .next s') acc C) c hc I2 T st2 f2 jN oX hg ht he q ?_;intro l C H' s' m' hC hn hf hL hfs hI hq;have J0:=hI s'.heap (Heap.SameBut.refl ..);show wpAny _ X.A (assign (.Name y pos') X.env (.ref l)) _ _ _;have J1:Inv X pins σ H' s':=J0;refine wpAny_assign_Name (SI (v:=.ref l) J1 hN hk (.inl hy) rfl (λs'' Tr lD=>?_) (.inr hy));obtain⟨a,sb,ha⟩:=lD;have hne:C≠a:=by
  rcases ha with rfl|ha
  .exact hL
  .rintro rfl;obtain⟨v,⟨o,ho,hd⟩⟩:=J1.cell y C ha;obtain⟨o',es,ep,ho',hd',_⟩:=hn;rw[ho]at ho';cases ho';rw[hd]at hd';cases hd'
 refine⟨m',hn.sameBut sb hne,λh2 DB=>?_⟩;have hok:dW X.prog X.w H' h2:=λb ob e=>(Tr.hok b ob e).stay (λd w' hd z=>DB.extBut d w' (by
  rintro rfl;rcases hd with rfl|hd
  .rw [hf]at e;cases e
  .rw [hf]at hd;cases hd) z) (λ_ z=>z) λ_ _ z=>z
 have yo:∀x d,X.env.cells.lookup x=some d->d≠C:=λx d e z=>by
  subst z;obtain⟨v,⟨o,ho,hd⟩⟩:=J1.cell x d e;obtain⟨o',es,ep,ho',hd',_⟩:=hn;rw[ho]at ho';cases ho';rw[hd]at hd';cases hd'
 have DP:∀p∈X.pn++pins,p.1≠C:=λp hp z=>by
  have a1:=(I2.pin p hp).1;exact absurd (aJC (aYz a1) (by rw[z];exact hC)) (aiF _)
 have fin:Inv X pins (σ.set k (some (.ref l))) H' { s'' with heap:=h2 }:=Tr.turned (t':=s''.toks) (it:=C) (λb o hb e=>DB.extBut b o hb e) hf hL (.inr (a0n I2.sz hC)) yo DP;exact⟨_,H',fin,hq⟩
theorem ZZ{elt target iter:PySem.Expr}{pos:Pos}{wi:TI}{g:TG}{te:TE}(c:fc X scope N own js)(hc:X.calm=true)(hi:PI X target iter wi)
  (hg:∀cl C s0 H0 fp pins,PG (bY X N scope cl C s0 H0 fp pins) target g) (he:∀cl C s0 H0 fp pins,PE (bY X N scope cl C s0 H0 fp pins) elt te)
  (hs:∀x,foldedSetIterable iter X.env x=pure x:=by intro _;rfl):PE X (.ListComp elt [⟨target,iter,[],0⟩] scope pos) (sC own js wi g Am te):=
 ZhD c hc hi hg (λcl C s0 H0 fp pins dz s σ H Q I h=>wpAny_tests_nil ⟨H,I,h⟩) he hs
theorem ZhF{elt target iter:PySem.Expr}{pos pos' spos:Pos}{y:Str}(k:Nat){wi:TI}{g:TG}{te:TE}(c:fc X scope N own js)(hc:X.calm=true)(hN:X.N.Nodup)(hk:X.N[k]?=some y)(hy:X.env.scope.names.lookup y=some .local)(hi:PI X target iter wi)
  (hg:∀cl C s0 H0 fp pins,PG (bY X N scope cl C s0 H0 fp pins) target g) (he:∀cl C s0 H0 fp pins,PE (bY X N scope cl C s0 H0 fp pins) elt te)
  (hs:∀x,foldedSetIterable iter X.env x=pure x:=by intro _;rfl)
  (hsw:swapsWith (.ListComp elt [⟨target,iter,[],0⟩] scope pos) (some (.Name y pos')) spos.line X.env=pure true:=by rfl):PS X (.Assign [.Name y pos'] (.ListComp elt [⟨target,iter,[],0⟩] scope pos) spos) (ur (sC own js wi g Am te) (eY k)):=
 ZhE c hc hN hk hy hi hg (λcl C s0 H0 fp pins dz s σ H Q I h=>wpAny_tests_nil ⟨H,I,h⟩) he hs hsw
end
section
variable{X:Cx}{pins:List (Addr×Obj)}{σ:St}{H:Hp}{s:Shared}
theorem dW.FG{P:Program}{w:World}{h h':Heap}{ch:List Addr}(hok:dW P w H h)(hn:∀b∈ch,H b=none)(k:∀b o,b∉ch->h.get? b=some o->h'.get? b=some o):dW P w H h':=λb ob e=>
 (hok b ob e).stay (λd u hd z=>k d u (λm=>by
  rcases hd with rfl|hd
  .rw [hn _ m]at e;cases e
  .rw [hn _ m]at hd;cases hd) z) (λ_ z=>z) λ_ _ z=>z
theorem Inv.jZ{ch:List Addr}{h':Heap}{t':Nat}(I:Inv X pins σ H s)(hch:∀b∈ch,jT X pins H b)(k:∀b o,b∉ch->s.heap.get? b=some o->h'.get? b=some o) :
  Inv X pins σ H { s with heap:=h',toks:=t' }:=by
 have u:Un (frs X.stack) ch H H s.heap h':=⟨λb o q _ _ hx=>k b o hx q,λb o q _ _ hx=>⟨o.slots,k b o hx q⟩,λ_ _ _ n _=>n,λb o q hx=>⟨o,k b o hx q⟩,λ_ _ q=>q,λ_ _ _ q=>q,λ_ _ _ q=>q⟩;exact I.call (g':=s.gens) (d':=s.drawn) (t':=t') u (I.hok.FG (λb hb=>(hch b hb).1) k) I.bare λb hb=>⟨(hch b hb).2.2.2.1,(hch b hb).2.1,(hch b hb).2.2.2.2.1,(hch b hb).2.2.2.2.2⟩
theorem Inv.rN{ch:List Addr}{h':Heap}{t':Nat}{o:HO}(I:Inv X pins σ H s)(hch:∀b∈ch,jT X pins H b)(k:∀b o,b∉ch->s.heap.get? b=some o->h'.get? b=some o)
  (new:aH X.prog X.w (upd H s.heap.objs.size o) h' s.heap.objs.size o):Inv X pins σ (upd H s.heap.objs.size o) { s with heap:=h',toks:=t' }:=by
 have fr:H s.heap.objs.size=none:=I.hok.fresh (ags _);have ne:∀b ob,s.heap.get? b=some ob->b≠s.heap.objs.size:=λb ob e=>ar8 (aYz e);have nt:∀b ob,H b=some ob->b≠s.heap.objs.size:=λb ob e=>Zf e fr;have u:Un (frs X.stack) ch H (upd H s.heap.objs.size o) s.heap h':=⟨λb o q _ _ hx=>k b o hx q,λb o q _ _ hx=>⟨o.slots,k b o hx q⟩,λb ob q n _=>by rw[Zc (ne b ob q)];exact n,λb o q hx=>⟨o,k b o hx q⟩,
  λb xs q=>by rw[Zc (nt b _ q)];exact q,λb ob xs q=>by rw[Zc (nt b _ q)];exact q,λb _ _ q=>by rw[Zc (nt b _ q)];exact q⟩
 have hok:dW X.prog X.w (upd H s.heap.objs.size o) h':=λb ob e=>by
  by_cases hb:b=s.heap.objs.size
  .subst hb;rw[Za]at e;cases e;exact new
  .rw [Zc hb]at e;refine(I.hok b ob e).stay (λd u hd z=>k d u (λm=>?_) z) (λd z=>by rw[Zc (nt d _ z)];exact z) (λd xs z=>by rw[Zc (nt d _ z)];exact z) λd oz z=>by rw[Zc (nt d _ z)];exact z
   have hn:=(hch d m).1;rcases hd with rfl|hd
   .rw [hn]at e;cases e
   .rw [hn]at hd;cases hd
 exact I.call (g':=s.gens) (d':=s.drawn) (t':=t') u hok I.bare λb hb=>⟨(hch b hb).2.2.2.1,(hch b hb).2.1,(hch b hb).2.2.2.2.1,(hch b hb).2.2.2.2.2⟩
end
theorem oh{a b:Nat}(h:a<b\/b<a):@Ne Addr a b:=λe=>by
 have e':a=b:=e;lia
theorem Ny(n l1 l2:Nat)(h1:l1<n)(h2:l2<n):ZipApart (n+4) (n+2) (n+3) n (n+1) l1 l2:=
 ⟨oh (by lia),oh (by lia),oh (by lia),oh (by lia),oh (by lia),oh (by lia),oh (by lia),oh (by lia),oh (by lia),oh (by lia),oh (by lia),oh (by lia),oh (by lia),oh (by lia),oh (by lia),oh (by lia),oh (by lia),oh (by lia)⟩
def Ad(K:W.Frag)(a b:Addr):It:=
 ⟨λi H=>∃xs ys x y,az K H a xs/\az K H b ys/\xs[i]?=some x/\ys[i]?=some y,
 λi H v H'=>∃t x y,H t=none/\v=.ref t/\H'=upd H t (.tup [x,y])/\(∀xs,az K H a xs->xs[i]?=some x)/\∀ys,az K H b ys->ys[i]?=some y,
 λi H=>∃xs ys,az K H a xs/\az K H b ys/\(xs.length<=i\/ys.length<=i)⟩
theorem Kn{h:Heap}{it l:Addr}{i:Nat}(x:h.IsListIter it l i):∃o,h.get? it=some o/\∀v,o.data≠.cell v:=by
 obtain⟨o,e,c,d⟩:=x;exact⟨o,e,λv z=>by rw[d]at z;cases z⟩
theorem RN{P:Program}{w:World}{K:W.Frag}{elts:List PySem.Expr}{x1}{pos:Pos}(z TI TO i1 i2 a b:Addr)(D:ZipApart z TI TO i1 i2 a b) :
  Turn P w K (.Tuple elts x1 pos) (Ad K a b) [z,TI,TO,i1,i2] z (λi h=>IsZip h z TI TO .none/\IsPair h TI (.ref i1) (.ref i2)/\(∃u v,IsPair h TO u v)/\h.IsListIter i1 a i/\h.IsListIter i2 b i) where
 mem:=by simp
 obj:=λi h st c hc=>by
  obtain⟨hz,hTI,⟨u,v,hTO⟩,h1,h2⟩:=st;simp only[a9e,a7K,a9R]at hc;rcases hc with rfl|rfl|rfl|rfl|rfl
  .exact ⟨_,hz,λv e=>by cases e⟩
  .exact ⟨_,hTI,λv e=>by cases e⟩
  .exact ⟨_,hTO,λv e=>by cases e⟩
  .exact Kn h1
  .exact Kn h2
 keep:=λi h h' st k=>by
  obtain⟨hz,hTI,⟨u,v,hTO⟩,h1,h2⟩:=st;exact⟨k z (by simp) _ hz,k TI (by simp) _ hTI,⟨u,v,k TO (by simp) _ hTO⟩,h1.at λo e=>k i1 (by simp) o e,h2.at λo e=>k i2 (by simp) o e⟩
 item:=by
  intro X hP hw hK hc i pins s σ H E I hf st hg;subst hP hw hK;obtain⟨xs,ys,x,y,rP,rO,hx,hy⟩:=hg;obtain⟨hz,hTI,⟨u0,v0,hTO⟩,h1,h2⟩:=st;obtain⟨kX,ra,pa,za⟩:=I.list rP;obtain⟨lY,rb,pb,zb⟩:=I.list rO;obtain⟨ux,hux,Ld⟩:=ra.get hx;obtain⟨uy,L6,Lc⟩:=rb.get hy;refine wpAny_pyNext_zip_item D hz hTI hTO h1 h2 pa.isList pb.isList (x:=ux) (y:=uy) (by simpa using hux) (by simpa using L6) λh' a1 a2 a3 a4 a5 a6 a7=>?_;refine⟨.ref s.heap.objs.size,rfl,?_⟩;refine wpAny_letOwnedTupleGo_zip a1 λh2' hz' hs'=>?_;have xu:z<s.heap.objs.size:=aYz hz;have kk:∀c o,c∉[z,TI,TO,i1,i2]->s.heap.get? c=some o->h2'.get? c=some o:=λc o hc e=>by
   simp only[a9e,a7K,a9R,not_or]at hc;exact hs'.extBut c o hc.1 (a7 c o hc.1 hc.2.2.1 hc.2.2.2.1 hc.2.2.2.2 e)
  have tp:h2'.get? s.heap.objs.size=some { cls:=.type "tuple",data:=.seq #[ux,uy] }:=hs'.extBut _ _ (aVo xu) a5;have I1:Inv X pins σ (upd H s.heap.objs.size (.tup [x,y])) { s with heap:=h2',toks:=s.toks }:=
   I.rN hf kk ⟨by show 2<=sizeLine;decide,[ux,uy],.cons Ld (.cons Lc .nil),⟨_,tp,rfl,_,rfl⟩⟩
  have NW:h2'.get? TI=s.heap.get? TI:=by
   rw[hTI];exact hs'.extBut _ _ D.TIz (a7 _ _ D.TIz D.TITO D.TIi1 D.TIi2 hTI)
  refine⟨.ref s.heap.objs.size,_,I1,rfl,⟨s.heap.objs.size,x,y,I.hok.fresh (ags _),rfl,rfl,λxs' h=>by rw[I.eX h rP];exact hx,λys' h=>by rw[I.eX h rO];exact hy⟩,⟨hz',?_,⟨ux,uy,hs'.extBut _ _ D.TOz a2⟩,a3.at λo e=>hs'.extBut _ o D.i1z e,a4.at λo e=>hs'.extBut _ o D.i2z e⟩,λc hc=>?_⟩
  .show h2'.get? TI=_;rw[NW];exact hTI
  .have hc':=hc;have hlt:c<s.heap.objs.size:=by
    simp only[a9e,a7K,a9R]at hc';rcases hc' with rfl|rfl|rfl|rfl|rfl
    .exact xu
    .exact aYz hTI
    .exact aYz hTO
    .obtain ⟨o,e,_⟩:=Kn h1;exact aYz e
    .obtain ⟨o,e,_⟩:=Kn h2;exact aYz e
   rw[Zc (ar8 hlt)];exact(hf c hc).1
 done:=by
  intro X hP hw hK hc i pins s σ H E I hf st hg;subst hP hw hK;obtain⟨xs,ys,rP,rO,hend⟩:=hg;obtain⟨hz,hTI,⟨u0,v0,hTO⟩,h1,h2⟩:=st;obtain⟨kX,ra,pa,za⟩:=I.list rP;obtain⟨lY,rb,pb,zb⟩:=I.list rO;have la:=ra.length;have lb:=rb.length;refine wpAny_pyNext_zip_end (I.ok.hd hc) D hz hTI hTO h1 h2 pa.isList pb.isList ?_ λh' hk=>⟨rfl,?_⟩
  .rcases hend with q|q
   .exact .inl (by simp;lia)
   .exact .inr (by simp;lia)
  .refine I.jZ (t':=s.toks) hf λc o hc e=>?_;simp only[a9e,a7K,a9R,not_or]at hc;exact hk c o hc.1 hc.2.2.1 hc.2.2.2.1 hc.2.2.2.2 e
 self:=λ_ _ _ _ _ st h=>aAV st.1 h
def L0(K:W.Frag)(ta:TA):TI:=λσ H R=>ta σ H λvs H1=>∃a b,vs=[.ref a,.ref b]/\(∃xs,az K H1 a xs)/\(∃ys,az K H1 b ys)/\R (Ad K a b) H1
section
variable{X:Cx}
theorem RM:bootBuiltins "zip"=some (.type "zip"):=by first|rfl|decide +kernel|kernel_rfl
theorem Zco:bootBuiltins "enumerate"=some (.type "enumerate"):=by first|rfl|decide +kernel|kernel_rfl
theorem X5{elts:List PySem.Expr}{x1}{tpos:Pos}{a b:PySem.Expr}{ta:TA}{p pos:Pos}(hg:Gl X "zip")(hm:X.mg "zip"=none)(ha:PA X [a,b] ta)(hs:starEach [a,b] X.env=[(false,eval a X.env),(false,eval b X.env)]:=by rfl)(hs2:starEach [b] X.env=[(false,eval b X.env)]:=by rfl) :
  PI X (.Tuple elts x1 tpos) (.Call (.Name "zip" p) [a,b] [] pos) (L0 X.K ta):=by
 intro pins s σ H R I h;refine Call_ (yv I hg hm RM (av3 (sy (ha pos pins s σ H _ I h) λus s1 vs H1 I1 r1 q1=>?_) (by rw[hs,hs2]) (by rw[hs2];rfl)));obtain⟨l1,l2,e,⟨xs,rP⟩,⟨ys,rO⟩,q⟩:=q1;subst e;obtain⟨v1,v2,rfl,r,r'⟩:=vals2 r1;cases r;cases r';obtain⟨kX,ra,pa,za⟩:=I1.list rP;obtain⟨lY,rb,pb,zb⟩:=I1.list rO;have xg:l1<s1.heap.objs.size:=by obtain⟨o,e,_⟩:=pa.isList;exact aYz e
 have Cn:l2<s1.heap.objs.size:=by obtain⟨o,e,_⟩:=pb.isList;exact aYz e
 refine call_zip_2 pa.isList pb.isList λh' g5 g3 g4 g1 g2 hsz kp=>aAV g5 ?_;refine⟨_,[_,_,_,_,_],_,_,H1,rfl,I1.kept (t':=s1.toks) kp,RN _ _ _ _ _ l1 l2 (Ny s1.heap.objs.size l1 l2 xg Cn),⟨g5,g3,⟨_,_,g4⟩,g1,g2⟩,λc hc=>?_,q⟩;have hc':s1.heap.objs.size<=c:=by
  simp only[a9e,a7K,a9R]at hc;rcases hc with rfl|rfl|rfl|rfl|rfl <;> first|exact ags _|exact Nat.le_add_right _ _
 exact I1.rQ hc' (I1.hok.fresh hc')
def Ik(K:W.Frag)(a:Addr):It:=
 ⟨λi H=>∃xs x,az K H a xs/\xs[i]?=some x,
 λi H v H'=>∃t x,H t=none/\v=.ref t/\H'=upd H t (.tup [.int i,x])/\∀xs,az K H a xs->xs[i]?=some x,
 λi H=>∃xs,az K H a xs/\xs.length=i⟩
theorem Zgh{P:Program}{w:World}{K:W.Frag}{elts:List PySem.Expr}{x1}{pos:Pos}(e it a:Addr)(hei:e≠it)(WU:a≠e)(hai:a≠it) :
  Turn P w K (.Tuple elts x1 pos) (Ik K a) [e,it] e (λi h=>(∃old,IsEnum h e it i old)/\h.IsListIter it a i) where
 mem:=by simp
 obj:=λi h st c hc=>by
  obtain⟨⟨old,he⟩,h1⟩:=st;simp only[a9e,a7K,a9R]at hc;rcases hc with rfl|rfl
  .exact ⟨_,he,λv z=>by cases z⟩
  .obtain ⟨o,q,c,d⟩:=h1;exact⟨o,q,λv z=>by rw[d]at z;cases z⟩
 keep:=λi h h' st k=>by
  obtain⟨⟨old,he⟩,h1⟩:=st;exact⟨⟨old,k e (by simp) _ he⟩,h1.at λo q=>k it (by simp) o q⟩
 item:=by
  intro X hP hw hK hc i pins s σ H E I hf st hg;subst hP hw hK;obtain⟨xs,x,hq,hx⟩:=hg;obtain⟨⟨old,he⟩,h1⟩:=st;obtain⟨its,rv,p,hz⟩:=I.list hq;obtain⟨u,hu,ru⟩:=rv.get hx;have hlt:i<its.toArray.size:=by
   have:=(aB9.mp hu).1;simpa using this
  refine wpAny_pyNext_enum_itemD (Draws.list (A:=X.A.in1) (show X.A.in1.handled=none from I.ok.hd hc) it a hai its.toArray) he ⟨h1,p.isList⟩ hlt hei (by simp[hei,ac5 WU]) λv h' tk hP ho hs' hT hsz hk=>?_;have uE:v=u:=by
   have z:its[i]?=some v:=by simpa using hP
   rw[hu]at z;exact(a9h z).symm
  subst uE;refine⟨.ref s.heap.objs.size,rfl,?_⟩;refine wpAny_letOwnedTupleGo_enum ho λh2 WJ DB=>?_;have helt:e<s.heap.objs.size:=aYz he;have kk:∀c o,c∉[e,it]->s.heap.get? c=some o->h2.get? c=some o:=λc o hc q=>by
   simp only[a9e,a7K,a9R,not_or]at hc;exact(DB.2 c hc.1).trans (hk c o hc.1 hc.2 q)
  have tp:h2.get? s.heap.objs.size=some { cls:=.type "tuple",data:=.seq #[.int i tk,v] }:=(DB.2 _ (aVo helt)).trans hT;have I1:Inv X pins σ (upd H s.heap.objs.size (.tup [.int i,x])) { s with heap:=h2,toks:=tk+1 }:=
   I.rN hf kk ⟨by show 2<=sizeLine;decide,[.int i tk,v],.cons ⟨tk,rfl⟩ (.cons ru .nil),⟨_,tp,rfl,_,rfl⟩⟩
  refine⟨.ref s.heap.objs.size,_,I1,rfl,⟨s.heap.objs.size,x,I.hok.fresh (ags _),rfl,rfl,λys hy=>by rw[I.eX hy hq];exact hx⟩,⟨⟨v,by simpa using WJ⟩,hs'.1.at λo q=>(DB.2 _ (ac5 hei)).trans q⟩,λc hc=>?_⟩;have hlt':c<s.heap.objs.size:=by
   simp only[a9e,a7K,a9R]at hc;rcases hc with rfl|rfl
   .exact helt
   .obtain ⟨o,q,_⟩:=h1;exact aYz q
  rw[Zc (ar8 hlt')];exact(hf c hc).1
 done:=by
  intro X hP hw hK hc i pins s σ H E I hf st hg;subst hP hw hK;obtain⟨xs,hq,hx⟩:=hg;obtain⟨⟨old,he⟩,h1⟩:=st;obtain⟨its,rv,p,hz⟩:=I.list hq;have hl:=rv.length;have ei:i=its.toArray.size:=by simp;lia
  subst ei;refine wpAny_pyNext_enum_endD (Draws.list (A:=X.A.in1) (show X.A.in1.handled=none from I.ok.hd hc) it a hai its.toArray) he ⟨h1,p.isList⟩ λh' hx'=>⟨rfl,?_⟩;refine I.jZ (t':=s.toks) hf λc o hc q=>?_;simp only[a9e,a7K,a9R,not_or]at hc;exact hx' c o hc.2 q
 self:=λ_ _ _ _ _ st h=>by
  obtain⟨⟨old,he⟩,_⟩:=st;exact wpAny_pyIter_enum he h
def Gu(K:W.Frag)(ta:TA):TI:=λσ H R=>ta σ H λvs H1=>∃a,vs=[.ref a]/\(∃xs,az K H1 a xs)/\R (Ik K a) H1
theorem YZ{elts:List PySem.Expr}{x1}{tpos:Pos}{a:PySem.Expr}{ta:TA}{p pos:Pos}(hg:Gl X "enumerate")(hm:X.mg "enumerate"=none)(ha:PA X [a] ta)(hs:starEach [a] X.env=[(false,eval a X.env)]:=by rfl) :
  PI X (.Tuple elts x1 tpos) (.Call (.Name "enumerate" p) [a] [] pos) (Gu X.K ta):=by
 intro pins s σ H R I h;refine Call_ (yv I hg hm Zco (av3 (sy (ha pos pins s σ H _ I h) λus s1 vs H1 I1 r1 q1=>?_) hs rfl));obtain⟨l,e,⟨xs,hq⟩,q⟩:=q1;subst e;cases r1 with
 |cons r rr=>
  cases rr;cases r;obtain⟨its,rv,pl,hz⟩:=I1.list hq;have xg:l<s1.heap.objs.size:=by obtain⟨o,e,_⟩:=pl.isList;exact aYz e
  refine call_enumerate_list pl.isList λh' he hi hsz hk=>?_;refine wpAny_pyIter_enum he ?_;refine⟨s1.heap.objs.size+1,[s1.heap.objs.size+1,s1.heap.objs.size],_,_,H1,rfl,I1.kept (t':=s1.toks) hk,Zgh (s1.heap.objs.size+1) s1.heap.objs.size l (Nat.succ_ne_self _) (oh (.inl (a2T xg))) (ar8 xg),⟨⟨_,he⟩,hi⟩,λc hc=>?_,q⟩;have hc':s1.heap.objs.size<=c:=by
   simp only[a9e,a7K,a9R]at hc;rcases hc with rfl|rfl <;> lia
  exact I1.rQ hc' (I1.hok.fresh hc')
end
def yh(H:Hp):V->Option String
 | .aS=>some "NoneType"
 | .bl _=>some "bool"
 | .int _=>some "int"
 | .str _=>some "str"
 | .ref a=>match H a with
  |some (.lst _)=>some "list"
  |some (.cR _ (.lst _))=>some "list"
  |some (.tup _)=>some "tuple"
  |some (.dK _)=>some "dict"
  |some (.dT _)=>some "dict"
  |_=>none
 |_=>none
theorem Qn{K:W.Frag}{H:Hp}{x:V}{t:String}(h:yh H x=some t):iT K H x (.type t):=by
 cases x with
 |aS=>cases h;exact .aS
 |bl b=>cases h;exact .bl b
 |int i=>cases h;exact .int i
 |str z=>cases h;exact .str z
 |ref a=>
  simp only[yh]at h;split at h
  .rename_i e;cases h;exact .lst e
  .rename_i e;cases h;exact .cR e
  .rename_i e;cases h;exact .tup e
  .rename_i e;cases h;exact .dK e
  .rename_i e;cases h;exact .dT e
  .cases h
 |_=>cases h
def j5(t c:String):Bool:=t ==c || (t =="bool" && c =="int")
def JE:List String:=["NoneType","bool","int","str","list","tuple","dict"]
def CN:List String:=["bool","int","str","list","tuple","dict"]
theorem Nv(K:W.Frag):∀t∈JE,∀c∈CN,W.kitOne K (.type t) (.type c)=some (j5 t c):=by
 intro t ht c hc;simp only[JE,a9e,a7K,a9R]at ht;simp only[CN,a9e,a7K,a9R]at hc;rcases ht with rfl|rfl|rfl|rfl|rfl|rfl|rfl <;> rcases hc with rfl|rfl|rfl|rfl|rfl|rfl <;> rfl
theorem Sy{H:Hp}{x:V}{t:String}(h:yh H x=some t):t∈JE:=by
 cases x with
 |aS=>cases h;decide
 |bl b=>cases h;decide
 |int i=>cases h;decide
 |str z=>cases h;decide
 |ref a=>
  simp only[yh]at h;split at h <;> first|(cases h;decide)|cases h
 |_=>cases h
section
variable{X:Cx}
inductive E9(xs:List V)(H:Hp)(Q:VK):Prop
 |mk (x t c:_):xs=[x,.ty c]->yh H x=some t->c∈CN->Q (.bl (j5 t c)) H->E9 xs H Q
theorem Bk:bG X (.builtin "isinstance") E9:=by
 intro pins s σ H xs us Q I r h;obtain⟨x,t,c,rfl,ht,hc,q⟩:=h;obtain⟨u,w',rfl,rx,rc⟩:=vals2 r;cases rc;exact ZfW I rx (Qn ht) (Nv X.K t (Sy ht) c hc) λtk=>⟨.bl _,H,I.tok tk,rfl,q⟩
inductive AF(xs:List V)(H:Hp)(Q:VK):Prop
 |mk (x t c d p:_):xs=[x,.ref p]->H p=some (.tup [.ty c,.ty d])->yh H x=some t->c∈CN->d∈CN->Q (.bl (j5 t c || j5 t d)) H->AF xs H Q
theorem ZhG(K:W.Frag){t c d:String}(ht:t∈JE)(hc:c∈CN)(hd:d∈CN):W.kitAny K (.type t) [.type c,.type d]=some (j5 t c || j5 t d):=by
 unfold W.kitAny;rw[Nv K t ht c hc];cases j5 t c with
 |true=>rfl
 |false=>
  show W.kitAny K (.type t) [.type d]=some (j5 t d);unfold W.kitAny;rw[Nv K t ht d hd];cases j5 t d <;> rfl
theorem Sx:bG X (.builtin "isinstance") AF:=by
 intro pins s σ H xs us Q I r h;obtain⟨x,t,c,d,p,rfl,hp,ht,hc,hd,q⟩:=h;obtain⟨u,w',rfl,rx,rc⟩:=vals2 r;cases rc;obtain⟨_,its,rv,⟨o,ho,hcl,n,hdt⟩⟩:=(show aH X.prog X.w H s.heap p (.tup [.ty c,.ty d]) from I.hok p _ hp);obtain⟨u1,u2,rfl,r1,r2⟩:=vals2 rv;cases r1;cases r2;have e:=ZhG X.K (Sy ht) hc hd;have fin:∀tk,EP X pins σ Q (.bool (j5 t c || j5 t d)) { s with toks:=tk }:=λtk=>⟨.bl _,H,I.tok tk,rfl,q⟩;have htp:s.heap.get? p=some ⟨.type "tuple",o.dict,.seq [Value.type c,Value.type d].toArray n,o.slots⟩:=by
  rw[ho];obtain⟨oc,od,odt,osl⟩:=o;cases hcl;cases hdt;rfl
 have ty:=Qn (K:=X.K) ht;generalize hT:Value.type t=T at ty e;cases ty with
 |aS=>cases(show u=Value.none from rx);exact aDw W.kitx_none I.dI True.intro htp e (λz=>nomatch z) fin
 |bl y=>cases(show u=Value.bool y from rx);exact aDw W.kitx_bool I.dI True.intro htp e (λz=>nomatch z) fin
 |int i=>obtain⟨t,q⟩:=(show ∃t,u=Value.int i t from rx);cases q;exact aDw W.kitx_int I.dI True.intro htp e (λz=>nomatch z) fin
 |str y=>obtain⟨t,q⟩:=(show ∃t,u=Value.str y t from rx);cases q;exact aDw W.kitx_str I.dI True.intro htp e (λz=>nomatch z) fin
 |zF y=>obtain⟨t,q⟩:=(show ∃t,u=Value.float y t from rx);cases q;exact aDw W.kitx_float I.dI True.intro htp e (λz=>nomatch z) fin
 | @lst a xs ea=>
  cases(show u=Value.ref a from rx);obtain⟨_,_,n,_,h1⟩:=(show aH X.prog X.w H s.heap a (.lst xs) from I.hok a _ ea);exact aDw W.kitx_list I.dI ⟨_,h1,rfl⟩ htp e (λz=>nomatch z) fin
 | @cR a ob xs ea=>
  cases(show u=Value.ref a from rx);obtain⟨_,_,_,n,_,h1⟩:=(show aH X.prog X.w H s.heap a (.cR ob (.lst xs)) from I.hok a _ ea);exact aDw W.kitx_list I.dI ⟨_,h1,rfl⟩ htp e (λz=>nomatch z) fin
 | @tup a xs ea=>
  cases(show u=Value.ref a from rx);obtain⟨_,_,_,p⟩:=(show aH X.prog X.w H s.heap a (.tup xs) from I.hok a _ ea);obtain⟨o,h1,h2,_⟩:=p;exact aDw W.kitx_tuple I.dI ⟨o,h1,h2⟩ htp e (λz=>nomatch z) fin
 | @dK a kvs ea=>
  cases(show u=Value.ref a from rx);obtain⟨_,_,vs,_,p⟩:=(show aH X.prog X.w H s.heap a (.dK kvs) from I.hok a _ ea);obtain⟨o,es,ep,h1,h2,_⟩:=p;exact aDw W.kitx_dict I.dI ⟨o,h1,h2.1⟩ htp e (λz=>nomatch z) fin
 | @dT a kvs ea=>
  cases(show u=Value.ref a from rx);obtain⟨_,_,xs,_,o,es,ep,h1,h2,_⟩:=(show aH X.prog X.w H s.heap a (.dT kvs) from I.hok a _ ea);exact aDw W.kitx_dict I.dI ⟨o,h1,h2.1⟩ htp e (λz=>nomatch z) fin
 |ins e'=>cases hT
theorem yt:bootBuiltins "isinstance"=some (.builtin "isinstance"):=by first|rfl|decide +kernel|kernel_rfl
theorem Km:bootBuiltins "all"=some (.builtin "all"):=by first|rfl|decide +kernel|kernel_rfl
theorem ZhH:bootBuiltins "any"=some (.builtin "any"):=by first|rfl|decide +kernel|kernel_rfl
theorem RL:bootBuiltins "max"=some (.builtin "max"):=by first|rfl|decide +kernel|kernel_rfl
theorem ZhI:bootBuiltins "min"=some (.builtin "min"):=by first|rfl|decide +kernel|kernel_rfl
theorem RK:bootBuiltins "abs"=some (.builtin "abs"):=by first|rfl|decide +kernel|kernel_rfl
theorem ZdX:bootBuiltins "divmod"=some (.builtin "divmod"):=by first|rfl|decide +kernel|kernel_rfl
theorem Ku:bootBuiltins "int"=some (.type "int"):=by first|rfl|decide +kernel|kernel_rfl
theorem SV:bootBuiltins "bool"=some (.type "bool"):=by first|rfl|decide +kernel|kernel_rfl
theorem Nu:bootBuiltins "str"=some (.type "str"):=by first|rfl|decide +kernel|kernel_rfl
theorem ZM:bootBuiltins "list"=some (.type "list"):=by first|rfl|decide +kernel|kernel_rfl
theorem NU:bootBuiltins "tuple"=some (.type "tuple"):=by first|rfl|decide +kernel|kernel_rfl
theorem Nt:∀{bs:List Bool}{its:List Value},Vals (bs.map V.bl) its->its=bs.map Value.bool
 | [],_,.nil=>rfl
 |b ::bs,_,.cons r t=>by rw[Nt t];cases r;rfl
theorem SS{bs:List Bool}(f:Nat->Bool)(hf:∀i b,bs[i]?=some b->f i=b):(List.range bs.length).map f=bs:=by
 apply aAT;intro i;rw[acC];by_cases h:i<bs.length
 .rw [a7b h,aun h];simp only[aNI];rw[hf i _ (aun h)]
 .rw [baC (by simpa using h),baC (by lia)];rfl
theorem Ks(hc:X.calm=true):bG X (.builtin "all") (λxs H Q=>∃(p:Addr)(bs:List Bool),xs=[.ref p]/\az X.K H p (bs.map V.bl)/\Q (.bl (bs.all id)) H):=by
 intro pins s σ H xs us Q I r h;obtain⟨p,bs,rfl,hq,q⟩:=h;obtain⟨u,rfl,rx⟩:=vals1 r;cases rx;obtain⟨its,rv,pl,hz⟩:=I.list hq;have e:=Nt rv;subst e;refine call_all_walk (wpAny_pyIter_list pl.isList ?_);refine⟨s.heap.objs.size,_,[s.heap.objs.size],_,_,_,λi=>bs.getD i true,rfl,Walks.list (A:=X.A.in1) (show X.A.in1.handled=none from I.ok.hd hc) s.heap.objs.size p ?_ (bs.map Value.bool).toArray,⟨⟨_,arT _ rfl,rfl,rfl⟩,pl.isList.at λo e=>a8r _ e⟩,?_,?_⟩
 .obtain ⟨o,e,_⟩:=pl.isList;exact ar8 (aYz e)
 .intro i v s' Q' E' hP hQ;have uE:(bs.map Value.bool)[i]?=some v:=by simpa using hP
  rw[acC]at uE;cases z:bs[i]? with
  |none=>rw[z]at uE;cases uE
  |some b=>
   rw[z]at uE;cases uE;have:bs.getD i true=b:=by rw[auG,z];rfl
   have GG:Q' (bs.getD i true) s':=hQ;rw[this]at GG;exact aVv GG
 .intro h' tk hk;refine⟨.bl (bs.all id),H,I.kept (t':=tk) (λb o e=>hk b o (by simpa using ar8 (aYz e)) (a8r _ e)),?_,q⟩;have z:(List.range bs.length).map (λi=>bs.getD i true)=bs:=SS _ λi b e=>by rw[auG,e];rfl
  have z2:(List.range bs.length).all (λi=>bs.getD i true)=bs.all id:=by
   conv=>rhs;rw[<-z]
   rw[List.all_map];rfl
  show Value.bool _=Value.bool _;have z3:(bs.map Value.bool).toArray.size=bs.length:=by simp
  rw[z3,z2]
theorem X4(lo:Int)(n:Nat):∀{acc:Array Value},ItemsOf (λi v=>∃t,v=.int (lo+i*1) t) acc n->Vals ((List.range n).map λi=>V.int (lo+(i:Nat))) acc.toList:=by
 intro acc h;obtain⟨hs,hi⟩:=h;have gen:∀(l:List Value)(k:Nat)(xs:List V),xs.length=l.length->(∀(j:Nat)(v:Value)(x:V),l[j]?=some v->xs[j]?=some x->RelV x v)->Vals xs l:=by
  intro l
  induction l with
  |nil=>intro k xs hl _;cases xs with|nil=>exact .nil|cons _ _=>simp at hl
  |cons u l ih=>
   intro k xs hl hr;cases xs with
   |nil=>simp at hl
   |cons x xs=>exact .cons (hr 0 u x rfl rfl) (ih k xs (by simpa using hl) λj v y e1 e2=>hr (j+1) v y (by simpa using e1) (by simpa using e2))
 refine gen _ 0 _ (by simp[hs]) λj v x e1 e2=>?_;have qv:acc[j]?=some v:=by simpa using e1
 obtain⟨t,rfl⟩:=hi j v qv;have hj:j<n:=by rw[<-hs];exact(Array.getElem?_eq_some_iff.mp qv).1
 rw[acC,a7b hj]at e2;cases e2;exact⟨t,by simp⟩
def Zfr(ta:TA):TE:=λσ H Q=>ta σ H λvs H1=>∃i j:Int,vs=[.int i,.int j]/\(-(2 ^ 62)<=i/\i<2 ^ 62 /\ -(2 ^ 62)<=j/\j<2 ^ 62)/\(j-i).toNat<=sizeLine /\
 ∀p,H1 p=none->Q (.ref p) (upd H1 p (.lst ((List.range (j-i).toNat).map λk=>V.int (i+(k:Nat)))))
theorem Zdv{a b:PySem.Expr}{ta:TA}{p q pos pos2:Pos}(hc:X.calm=true)(WH:Gl X "list")(hm1:X.mg "list"=none)(hg:Gl X "range")(hm:X.mg "range"=none)(ha:PA X [a,b] ta)
  (hs:starEach [a,b] X.env=[(false,eval a X.env),(false,eval b X.env)]:=by rfl) (hs2:starEach [b] X.env=[(false,eval b X.env)]:=by rfl)
  (Jq:starEach [PySem.Expr.Call (.Name "range" p) [a,b] [] pos] X.env=[(false,eval (PySem.Expr.Call (.Name "range" p) [a,b] [] pos) X.env)]:=by rfl) :
  PE X (.Call (.Name "list" q) [.Call (.Name "range" p) [a,b] [] pos] [] pos2) (Zfr ta):=by
 intro pins s σ H Q I h;refine Call_ (yv I WH hm1 ZM (av3 (Q:=EP X pins σ Q) ?_ Jq rfl));rw[Jq];refine aid (Call_ (yv I hg hm boot_range (av3 (sy (ha pos pins s σ H _ I h) λus s1 vs H1 I1 r1 q1=>?_) (by rw[hs,hs2]) (by rw[hs2];rfl))));obtain⟨i,j,e,⟨q1,q2,q3,q4⟩,hz,q⟩:=q1;subst e;cases r1 with
 |cons r rr=>
  cases rr with
  |cons r' rr=>
   cases rr;obtain⟨t,rfl⟩:=r;obtain⟨t',rfl⟩:=r';refine call_range_2 (aem ?_);have I2:Inv X pins σ H1 { s1 with heap:=s1.heap.push { cls:=.type "range",data:=.fields #[.int i t,.int j t',.int 1 s1.toks] },toks:=s1.toks+1 }:=I1.kept λb o e=>a8r _ e;have hsz:sizeLine=16777216:=a3Q;refine call_list_range (n:=(j-i).toNat) (I.ok.hd hc) (IsRange.new ..) (small_one q1 q2 q3 q4) (by rw[rangeSize_one];split <;> lia) (by lia) λh' tk acc' c' hk hS hit=>?_;refine⟨.ref _,_,I2.laid (o:=.lst ((List.range (j-i).toNat).map λk=>V.int (i+(k:Nat)))) hk (ags _) ⟨by simpa using hz,acc'.toList,c',X4 i _ hit,by simpa using hS⟩,rfl,q _ (I2.hok.fresh (ags _))⟩
end
structure Def(P:Program)(w:World)(K:W.Frag)(mg:Str->Option Value)(base:Heap)(x:Str)(k:Nat)(ps:List Str)(sp:Sp):Prop where
 ex:∃(f:Addr)(fd:FuncData),cJ P w K mg base oR k f fd ps sp/\mg x=some (.ref f)/\W.keepIn K (.ref f)=true/\Binds K fd ps []
section
variable{X:Cx}{x:Str}{p pos:Pos}{e:PySem.Expr}{es:List PySem.Expr}{t:TA}{k:Nat}{ps:List Str}{sp:Sp}
theorem X3(D:Def X.prog X.w X.K X.mg X.base x k ps sp)(hr:bf k X.A)(hg:Gl X x)(ha:PA X (e ::es) t)
  (he:starEach (e ::es) X.env=(false,eval e X.env) ::starEach es X.env:=by rfl) (hpl:(backTo pos (starEach es X.env)).any (·.1)=false:=by rfl) (hd:(x ==("__debug__":Str))=false:=by decide) :
  PE X (.Call (.Name x p) (e ::es) [] pos) (sD sp [] E0 t):=by
 obtain⟨f,fd,F,hm,hk,hb⟩:=D.ex;exact Z0 F hr hg hm hk hb .nil tS ha (hdb:=hd) (he:=he) (hpl:=hpl)
end
theorem ZQ{X:Cx}{K:W.Frag}{es:List PySem.Expr}{k:Nat}{t:Br}{n:Nat}{pos:Pos}(hK:X.K=K)(hc:X.calm=true)(h:Ic X es t)
  (hn:(assignEach es X.env).length=n:=by rfl) (hst:(assignEach es X.env).findIdx? (·.1)=none:=by rfl):PG X (.Tuple es k pos) (GI K n t):=by
 subst hK;exact Yj hc h hn hst
def Bf(kF:Scope)(oN:List Str)(scope:Scope)(N:List Str)(own:Nat)(js:List Nat):Bool:=
 scope.kind == .function && scope.names.all (λy=>y.2 != .cell || scope.names.lookup y.1 ==some .cell) && scope.names.all (λy=>y.2 != .local || scope.names.lookup y.1 ==some .local) &&
 scope.names.all (λy=>y.2 != .free || (kF.names.lookup y.1 ==some .cell || kF.names.lookup y.1 ==some .free)) && N.length ==own+js.length &&
 (js.map λj=>oN[j]?) ==(N.drop own).map some && (N.drop own).all λx=>scope.names.lookup x ==some .free
theorem ZK{X:Cx}{kF:Scope}{oN:List Str}{scope:Scope}{N:List Str}{own:Nat}{js:List Nat}(h:Bf kF oN scope N own js=true)(hs:X.env.scope=kF)(hN:X.N=oN):fc X scope N own js:=by
 unfold Bf at h;simp only[aTz,aD8,Bool.or_eq_true,aCi,bne_iff_ne,ne_eq]at h;obtain⟨⟨⟨⟨⟨⟨h1,h2⟩,h3⟩,h4⟩,h5⟩,h6⟩,h7⟩:=h;refine⟨h1,λy hy hl=>?_,λy hy hl=>?_,λy hy hf=>?_,h5,λk j e=>?_,λk x e=>?_⟩
 .rcases h2 y hy with q|q
  .exact absurd hl q
  .exact q
 .rcases h3 y hy with q|q
  .exact absurd hl q
  .exact q
 .rcases h4 y hy with q|q
  .exact absurd hf q
  .show X.env.scope.names.lookup y.1=_\/X.env.scope.names.lookup y.1=_;rw[hs];exact q
 .rw [hN];have z:=azy (λl=>l[k]?) h6;simp only[acC,e,aNI,getElem?_drop]at z;cases q:N[own+k]? with
  |none=>rw[q]at z;cases z
  |some y=>rw[q]at z;exact(a9h z).symm
 .refine h7 x ?_;exact bcc (i:=k) (by rw[getElem?_drop];exact e)
def SB(b:Addr)(H H':Hp):Prop:=∀a o,a≠b->H a=some o->H' a=some o
theorem SB.trans{b:Addr}{H H1 H2:Hp}(x:SB b H H1)(y:SB b H1 H2):SB b H H2:=λa o n h=>y a o n (x a o n h)
theorem aB.sb{H H':Hp}(x:aB H H')(b:Addr):SB b H H':=λa o _ h=>x a o h
theorem DY(b:Addr)(H:Hp)(o:HO):SB b H (upd H b o):=λa u n h=>by rw[Zc n];exact h
theorem Ze{H:Hp}{p:Addr}(h:H p=none)(o:HO):aB H (upd H p o):=λb u q=>by rw[Zc (Zf q h)];exact q
def oS(n:Nat)(l:Addr)(Pv:Nat->List V->St->Hp->Prop)(i:Nat)(ys:List V)(σ:St)(y:V)(H:Hp):Prop:=
 H l=some (.lst ys)/\ys.length<sizeLine/\∃m',m'<n-i/\(m'=n-(i+1)/\i+1<=n/\(ys++[y]).length<=i+1/\Pv (i+1) (ys++[y]) σ (upd H l (.lst (ys++[y]))))
def Ip(n:Nat)(Pv:Nat->List V->St->Hp->Prop)(i:Nat)(ys:List V)(σ:St)(H:Hp):Prop:=∃m',m'<n-i/\(m'=n-(i+1)/\i+1<=n/\ys.length<=i+1/\Pv (i+1) ys σ H)
theorem oS.of{n:Nat}{l:Addr}{Pv:Nat->List V->St->Hp->Prop}{i:Nat}{ys:List V}{σ:St}{y:V}{H:Hp}(hn:n<=sizeLine)(hi:i<n)(hy:ys.length<=i)(h1:H l=some (.lst ys))(h2:Pv (i+1) (ys++[y]) σ (upd H l (.lst (ys++[y])))):oS n l Pv i ys σ y H:=
 ⟨h1,by lia,n-(i+1),by lia,rfl,hi,by rw[aKe,aSc];lia,h2⟩
theorem HN{lo:Int}{n:Nat}{l:Addr}{g:TG}{tc:TT}{te:TE}{σ0:St}{H0:Hp}{Qf:Hp->Prop}(Pv:Nat->List V->St->Hp->Prop)(h0:Pv 0 [] σ0 H0)
  (hs:∀i ys σ' H',i<n->ys.length<=i->Pv i ys σ' H'->g (.int (lo+i)) σ' H' λσ2 H3=>tc σ2 H3 λb H4=>if b=true then te σ2 H4 λy H5=>oS n l Pv i ys σ2 y H5 else Ip n Pv i ys σ2 H4)
  (hd:∀ys σ' H',ys.length<=n->Pv n ys σ' H'->Qf H') :
  ∃W:Nat->Nat->List V->St->Hp->Prop,(∃m,W 0 m [] σ0 H0)/\∀i m ys σ' H',W i m ys σ' H' ->
  ((Ae lo n).stop i H'/\Qf H')\/((Ae lo n).go i H'/\∀x H2,(Ae lo n).su i H' x H2->g x σ' H2 λσ2 H3=>tc σ2 H3 λb H4=>
    if b=true then te σ2 H4 λy H5=>H5 l=some (.lst ys)/\ys.length<sizeLine/\∃m',m'<m/\W (i+1) m' (ys++[y]) σ2 (upd H5 l (.lst (ys++[y])))
    else ∃m',m'<m/\W (i+1) m' ys σ2 H4):=by
 refine⟨λi m ys σ' H'=>m=n-i/\i<=n/\ys.length<=i/\Pv i ys σ' H',⟨n,rfl,aL2 _,ags _,h0⟩,?_⟩;rintro i m ys σ' H' ⟨rfl,hi,hy,p⟩;by_cases hlt:i<n
 .refine .inr ⟨hlt,λx H2 q=>?_⟩;obtain⟨rfl,rfl⟩:=q;exact hs i ys σ' _ hlt hy p
 .have e:i=n:=by lia
  subst e;exact .inl ⟨ags _,hd ys σ' H' hy p⟩
theorem Kr{K:W.Frag}{a:Addr}{xs:List V}{l:Addr}{g:TG}{tc:TT}{te:TE}{σ0:St}{H0:Hp}{Qf:Hp->Prop}(Pv:Nat->List V->St->Hp->Prop)(h0:Pv 0 [] σ0 H0)
  (hl:∀i ys σ' H',i<=xs.length->Pv i ys σ' H'->az K H' a xs)
  (hs:∀i x ys σ' H',i<xs.length->xs[i]?=some x->ys.length<=i->Pv i ys σ' H'->g x σ' H' λσ2 H3=>tc σ2 H3 λb H4=>if b=true then te σ2 H4 λy H5=>oS xs.length l Pv i ys σ2 y H5 else Ip xs.length Pv i ys σ2 H4)
  (hd:∀ys σ' H',ys.length<=xs.length->Pv xs.length ys σ' H'->Qf H') :
  ∃W:Nat->Nat->List V->St->Hp->Prop,(∃m,W 0 m [] σ0 H0)/\∀i m ys σ' H',W i m ys σ' H' ->
  ((BC K a).stop i H'/\Qf H')\/((BC K a).go i H'/\∀x H2,(BC K a).su i H' x H2->g x σ' H2 λσ2 H3=>tc σ2 H3 λb H4=>
    if b=true then te σ2 H4 λy H5=>H5 l=some (.lst ys)/\ys.length<sizeLine/\∃m',m'<m/\W (i+1) m' (ys++[y]) σ2 (upd H5 l (.lst (ys++[y])))
    else ∃m',m'<m/\W (i+1) m' ys σ2 H4):=by
 refine⟨λi m ys σ' H'=>m=xs.length-i/\i<=xs.length/\ys.length<=i/\Pv i ys σ' H',⟨xs.length,rfl,aL2 _,ags _,h0⟩,?_⟩;rintro i m ys σ' H' ⟨rfl,hi,hy,p⟩;have q:=hl i ys σ' H' hi p;by_cases hlt:i<xs.length
 .refine .inr ⟨⟨xs,xs[i],q,by simp[hlt]⟩,λx H2 z=>?_⟩;obtain⟨rfl,z⟩:=z;exact hs i x ys σ' _ hlt (z xs q) hy p
 .have e:i=xs.length:=by lia
  subst e;exact .inl ⟨⟨xs,q,ags _⟩,hd ys σ' H' hy p⟩
theorem ZhJ{K:W.Frag}{a b:Addr}{xs zs:List V}{l:Addr}{g:TG}{tc:TT}{te:TE}{σ0:St}{H0:Hp}{Qf:Hp->Prop}(hlen:xs.length=zs.length)(Pv:Nat->List V->St->Hp->Prop)(h0:Pv 0 [] σ0 H0)
  (hl:∀i ys σ' H',i<=xs.length->Pv i ys σ' H'->az K H' a xs/\az K H' b zs)
  (hs:∀i x z t ys σ' H',i<xs.length->xs[i]?=some x->zs[i]?=some z->ys.length<=i->Pv i ys σ' H'->H' t=none->g (.ref t) σ' (upd H' t (.tup [x,z])) λσ2 H3=>tc σ2 H3 λb H4=>if b=true then te σ2 H4 λy H5=>oS xs.length l Pv i ys σ2 y H5 else Ip xs.length Pv i ys σ2 H4)
  (hd:∀ys σ' H',ys.length<=xs.length->Pv xs.length ys σ' H'->Qf H') :
  ∃W:Nat->Nat->List V->St->Hp->Prop,(∃m,W 0 m [] σ0 H0)/\∀i m ys σ' H',W i m ys σ' H' ->
  ((Ad K a b).stop i H'/\Qf H')\/((Ad K a b).go i H'/\∀x H2,(Ad K a b).su i H' x H2->g x σ' H2 λσ2 H3=>tc σ2 H3 λb H4=>
    if b=true then te σ2 H4 λy H5=>H5 l=some (.lst ys)/\ys.length<sizeLine/\∃m',m'<m/\W (i+1) m' (ys++[y]) σ2 (upd H5 l (.lst (ys++[y])))
    else ∃m',m'<m/\W (i+1) m' ys σ2 H4):=by
 refine⟨λi m ys σ' H'=>m=xs.length-i/\i<=xs.length/\ys.length<=i/\Pv i ys σ' H',⟨xs.length,rfl,aL2 _,ags _,h0⟩,?_⟩;rintro i m ys σ' H' ⟨rfl,hi,hy,p⟩;have q:=hl i ys σ' H' hi p;by_cases hlt:i<xs.length
 .have hz:i<zs.length:=by lia
  refine .inr ⟨⟨xs,zs,xs[i],zs[i],q.1,q.2,by simp[hlt],by simp[hz]⟩,λx H2 z=>?_⟩;obtain⟨t,u,v,ht,rfl,rfl,z1,z2⟩:=z;exact hs i u v t ys σ' _ hlt (z1 xs q.1) (z2 zs q.2) hy p ht
 .have e:i=xs.length:=by lia
  subst e;exact .inl ⟨⟨xs,zs,q.1,q.2,.inl (ags _)⟩,hd ys σ' H' hy p⟩
theorem ZhK{K:W.Frag}{a:Addr}{xs:List V}{g:TG}{tb:TS}{D:Ends}{σ:St}{H:Hp}(Pv:Nat->St->Hp->Prop)(h0:Pv 0 σ H)(hl:∀i σ H,i<=xs.length->Pv i σ H->az K H a xs)
  (hs:∀i x t σ H,xs[i]?=some x->Pv i σ H->H t=none->g (.ref t) σ (upd H t (.tup [.int i,x])) λσ2 H2=>tb { D with nx:=Pv (i+1),ct:=Pv (i+1),bk:=D.nx } σ2 H2) (hd:∀ σ H,Pv xs.length σ H->D.nx σ H) :
  ∃W:Nat->Nat->St->Hp->Prop,(∃m,W 0 m σ H)/\∀i m σ H,W i m σ H ->
   ((Ik K a).stop i H/\D.nx σ H)\/((Ik K a).go i H/\∃N:St->Hp->Prop,(∀ σ' H',N σ' H'->∃m',m'<m/\W (i+1) m' σ' H')/\∀x H',(Ik K a).su i H x H'->g x σ H' λσ2 H2=>tb { D with nx:=N,ct:=N,bk:=D.nx } σ2 H2):=by
 refine⟨λi m σ H=>m=xs.length-i/\i<=xs.length/\Pv i σ H,⟨xs.length,by simp,aL2 _,h0⟩,?_⟩;rintro i m σ H ⟨rfl,hi,p⟩;have q:=hl i σ H hi p;by_cases hlt:i<xs.length
 .refine .inr ⟨⟨xs,xs[i],q,by simp[hlt]⟩,Pv (i+1),λσ' H' p'=>⟨xs.length-(i+1),by lia,rfl,hlt,p'⟩,λx H' y=>?_⟩;obtain⟨t,u,ht,rfl,rfl,y⟩:=y;exact hs i u t σ _ (y xs q) p ht
 .have e:i=xs.length:=by lia
  subst e;exact .inl ⟨⟨xs,q,rfl⟩,hd σ H p⟩
theorem fO{α:Type}{x:α}{xs:List α}:fP (x ::xs) 0=some x:=xT (j:=0) rfl
theorem fN{α:Type}{x y:α}{xs:List α}:fP (x ::y ::xs) 1=some y:=xT (j:=1) rfl
theorem mw{α:Type}{x y z:α}{xs:List α}:fP (x ::y ::z ::xs) 2=some z:=xT (j:=2) rfl
theorem ML{α:Type}{x y z u:α}{xs:List α}:fP (x ::y ::z ::u ::xs) 3=some u:=xT (j:=3) rfl
theorem xS{p A B:Prop}[Decidable p](h1:p->A)(h2:¬p->B):if decide p=true then A else B:=by
 by_cases h:p
 .rw [aaU (a5U h)];exact h1 h
 .rw [afn (by rw[a4I h];exact a7q)];exact h2 h
end L2
namespace HT
open PySem PySem.Spec PyProof.Rows
section
variable{prog:Program}{w:World}{A:Around}{E:Value->Shared->Prop}{s:Shared}
theorem xN{t b:Addr}{ws:List Value}{Q:Value->Shared->Prop}(ht:IsTup s.heap t #[])(hb:IsTup s.heap b ws.toArray)(h0:Q (.ref b) s):wpAny (model prog w) A (binaryOp .Add (.ref t) (.ref b)) Q E s:=by
 obtain⟨o1,ho,hc,n,hd⟩:=ht;obtain⟨o2,ho2,hc2,n2,hd2⟩:=hb;have e1:s.heap.get? t=some ⟨.type "tuple",o1.dict,.seq #[] n,o1.slots⟩:=by
  rw[ho];obtain⟨_,_,_,_⟩:=o1;cases hc;cases hd;rfl
 have e2:s.heap.get? b=some ⟨.type "tuple",o2.dict,.seq ws.toArray n2,o2.slots⟩:=by
  rw[ho2];obtain⟨_,_,_,_⟩:=o2;cases hc2;cases hd2;rfl
 exact concat_meets ⟨_,e1,rfl⟩ ⟨_,e2,rfl⟩ noFill_tuple_add seq_tuple_add aZy akN (aL8 _ _) (tuple_addW0 t b #[] ws.toArray n n2 o1.dict o2.dict o1.slots o2.slots rfl) ⟨e1,e2,h0⟩
theorem fL{t sl:Addr}{items:Array Value}{vl vu:Value}{lo hi:Option Int}{Q:Value->Shared->Prop}(ht:IsTup s.heap t items)(hs:s.heap.IsSliceOf sl vl vu .none)(pl:IsPart vl lo)(pu:IsPart vu hi)
  (h0:bC items.size 0 lo=0) (h1:bC items.size items.size hi=items.size) (h:Q (.ref t) s):wpAny (model prog w) A (getItem (.ref t) (.ref sl)) Q E s:=by
 obtain⟨os,hos,hcs,hds⟩:=id hs;have Mn:s.TypeIs (.ref sl) "slice":=⟨os,hos,hcs⟩;unfold getItem;try with_reducible refine aaC ?_
 first|refine asu (aJq ?_)|skip
 refine asu (wpAny_sequenceKey ht.typeIs (by decide) ?_);refine asu (auj (name:=Str.ofString "__getitem__") ht.typeIs a8J
  (ajI a8J ht.typeIs entry_tuple_getitem ?_ (args_tuple_getitem _ _)))
 show wpAny _ _ (Builtin.Tuple.tupleItemsOf (.ref t) >>=_) _ _ s;refine asu (tupleItemsOf_ ht ?_);refine asu (wpAny_typeOf Mn ?_);rw[aaU (by decide)];refine asu (Th hs pl pu ?_);show wpAny _ _ (if(((bC items.size 0 lo:Nat):Int) ==0 && (1:Int) ==1 && (bC items.size items.size hi-bC items.size 0 lo) ==items.size)=true then _ else _) _ _ s;rw[h0,h1,aaU (by simp)];refine asu (m:=Builtin.Tuple.tupleIsExact _) ?_;unfold Builtin.Tuple.tupleIsExact;refine asu (wpAny_typeOf ht.typeIs (aJq ?_));simp only[afE,a6Z]
 first
  |exact asu (ajd (aJq ⟨_,rfl,aJq h⟩))
  |exact asu (ajd (asu (aJq (aJq ⟨_,rfl,aJq h⟩))))
end
end HT
namespace L2
open PySem PySem.Spec PyProof.Rows
section
variable{X:Cx}
inductive AH(x:V)(y:V)(H:Hp)(Q:VK):Prop
 |mk (a b xs ys:_):x=.ref a->y=.ref b->H a=some (.tup xs)->H b=some (.tup ys)->xs.length+ys.length<=sizeLine->(∀p H',aB H H'->H' p=some (.tup (xs++ys))->Q (.ref p) H')->AH x y H Q
theorem YY:jb X (binaryOp .Add) AH:=by
 intro pins s σ H x y v u Q I rx ry h;obtain⟨a,b,xs,ys,rfl,rfl,ha,hb,hz,q⟩:=h;by_cases hx:xs=[]
 .subst hx;cases rx;cases ry;obtain⟨its,r1,p1,_⟩:=I.tuple (aU.of ha);obtain⟨its2,r2,p2,_⟩:=I.tuple (aU.of hb);cases r1;exact HT.xN p1 p2 ⟨.ref b,H,I,rfl,q b H (aB.refl H) hb⟩
 .refine Y6 pins s σ H _ _ v u Q I rx ry ⟨a,b,xs,ys,rfl,rfl,aU.of ha,aU.of hb,hx,hz,λe=>?_,λ_ p hp=>q p _ (Ze hp _) Za⟩;subst e;exact q a H (aB.refl H) (by rw[aWa];exact ha)
inductive E7(x:V)(lo:Option Int)(hi:Option Int)(H:Hp)(Q:VK):Prop
 |mk (a xs:_):x=.ref a->H a=some (.tup xs)->(∀p H',aB H H'->H' p=some (.tup (cA xs lo hi))->Q (.ref p) H')->E7 x lo hi H Q
theorem YX:HX X E7:=by
 intro pins s σ H x v vl vu lo hi sl Q I rx hs pl pu h;obtain⟨a,xs,rfl,hx,q⟩:=h;by_cases hw:HT.bC xs.length 0 lo=0/\HT.bC xs.length xs.length hi=xs.length
 .cases rx;obtain⟨its,r,ht,hz⟩:=I.tuple (aU.of hx);have hlen:its.toArray.size=xs.length:=by rw[aCS];exact r.length.symm
  refine⟨"tuple",_,a8J.lookup,ht.typeIs,?_⟩;refine HT.fL ht hs pl pu (by rw[hlen];exact hw.1) (by rw[hlen];exact hw.2) ⟨.ref a,H,I,rfl,q a H (aB.refl H) ?_⟩;unfold cA;rw[hw.1,hw.2,drop_zero,Nat.sub_zero,List.take_length];exact hx
 .exact Yb pins s σ H _ v vl vu lo hi sl Q I rx hs pl pu ⟨a,xs,rfl,aU.of hx,hw,λp hp=>q p _ (Ze hp _) Za⟩
theorem ZT{x:Str}{i:Int}{pos:Pos}(h:∃t,X.mg x=some (.int i t))(hg:Gl X x)(hd:(x ==("__debug__":Str))=false:=by decide):PE X (.Name x pos) (tC (.int i)):=by
 obtain⟨t,e⟩:=h;exact RJ hg e ⟨t,rfl⟩ hd
end
def NS:PySem.Expr->Prop
 | .Starred _ _=>False
 |_=>True
theorem yq{e:PySem.Expr}{es:List PySem.Expr}{env:Env}(h:NS e):starEach (e ::es) env=(false,eval e env) ::starEach es env:=by
 cases e <;> first|rfl|exact h.elim
def Ab:List PySem.Expr->Prop
 | []=>True
 |e ::es=>NS e/\Ab es
theorem C0{pos:Pos}{env:Env}:∀{es:List PySem.Expr},Ab es->(backTo pos (starEach es env)).any (·.1)=false
 | [],_=>rfl
 |e ::es,h=>by
  rw[yq h.1];have ih:=C0 (pos:=pos) (env:=env) h.2;simp only[backTo]at ih ⊢;simpa using ih
section
variable{X:Cx}{x:Str}{p pos:Pos}{e:PySem.Expr}{es:List PySem.Expr}{te:TE}{t:TA}{k:Nat}{ps:List Str}{sp:Sp}{id T:String}{r:List V->Hp->VK->Prop}
theorem pc(ha:PE X e te)(hr:PA X es t)(hn:NS e:=by exact True.intro):PA X (e ::es) (Aq te t):=Z1 ha hr (yq hn)
theorem Zl(D:Def X.prog X.w X.K X.mg X.base x k ps sp)(hr:bf k X.A)(hg:Gl X x)(ha:PA X (e ::es) t)(hn:Ab (e ::es):=by repeat' (first|exact True.intro|refine⟨?_,?_⟩))(hd:(x ==("__debug__":Str))=false:=by decide) :
  PE X (.Call (.Name x p) (e ::es) [] pos) (sD sp [] E0 t):=X3 D hr hg ha (yq hn.1) (C0 hn.2) hd
theorem Zp(hc:bG X (.builtin id) r)(hg:Gl X x)(hm:X.mg x=none)(hv:bootBuiltins x=some (.builtin id))(ha:PA X (e ::es) t)(hnn:Ab (e ::es):=by repeat' (first|exact True.intro|refine⟨?_,?_⟩))(hn:x ≠ "__name__":=by decide)(hdb:(x ==("__debug__":Str))=false:=by decide) :
  PE X (.Call (.Name x p) (e ::es) [] pos) (IJ r t):=ZhB hc hg hm hv ha hn hdb (yq hnn.1) (C0 hnn.2)
theorem ZS(hc:bG X (.type T) r)(hg:Gl X x)(hm:X.mg x=none)(hv:bootBuiltins x=some (.type T))(ha:PA X (e ::es) t)(hnn:Ab (e ::es):=by repeat' (first|exact True.intro|refine⟨?_,?_⟩))(hn:x ≠ "__name__":=by decide)(hdb:(x ==("__debug__":Str))=false:=by decide) :
  PE X (.Call (.Name x p) (e ::es) [] pos) (IJ r t):=ZfY hc hg hm hv ha hn hdb (yq hnn.1) (C0 hnn.2)
end
theorem ZhL{K:W.Frag}{a:Addr}{xs:List V}{l:Addr}{g:TG}{tc:TT}{te:TE}{σ0:St}{H0:Hp}{Qf:Hp->Prop}(Pv:Nat->List V->St->Hp->Prop)(h0:Pv 0 [] σ0 H0)
  (hl:∀i ys σ' H',i<=xs.length->Pv i ys σ' H'->aU K H' a xs)
  (hs:∀i x ys σ' H',i<xs.length->xs[i]?=some x->ys.length<=i->Pv i ys σ' H'->g x σ' H' λσ2 H3=>tc σ2 H3 λb H4=>if b=true then te σ2 H4 λy H5=>oS xs.length l Pv i ys σ2 y H5 else Ip xs.length Pv i ys σ2 H4)
  (hd:∀ys σ' H',ys.length<=xs.length->Pv xs.length ys σ' H'->Qf H') :
  ∃W:Nat->Nat->List V->St->Hp->Prop,(∃m,W 0 m [] σ0 H0)/\∀i m ys σ' H',W i m ys σ' H' ->
  ((BB K a).stop i H'/\Qf H')\/((BB K a).go i H'/\∀x H2,(BB K a).su i H' x H2->g x σ' H2 λσ2 H3=>tc σ2 H3 λb H4=>
    if b=true then te σ2 H4 λy H5=>H5 l=some (.lst ys)/\ys.length<sizeLine/\∃m',m'<m/\W (i+1) m' (ys++[y]) σ2 (upd H5 l (.lst (ys++[y])))
    else ∃m',m'<m/\W (i+1) m' ys σ2 H4):=by
 refine⟨λi m ys σ' H'=>m=xs.length-i/\i<=xs.length/\ys.length<=i/\Pv i ys σ' H',⟨xs.length,rfl,aL2 _,ags _,h0⟩,?_⟩;rintro i m ys σ' H' ⟨rfl,hi,hy,p⟩;have q:=hl i ys σ' H' hi p;by_cases hlt:i<xs.length
 .refine .inr ⟨⟨xs,xs[i],q,by simp[hlt]⟩,λx H2 z=>?_⟩;obtain⟨rfl,z⟩:=z;exact hs i x ys σ' _ hlt (z xs q) hy p
 .have e:i=xs.length:=by lia
  subst e;exact .inl ⟨⟨xs,q,ags _⟩,hd ys σ' H' hy p⟩
section
variable{X:Cx}{K:W.Frag}
theorem Zn(hK:X.K=K):Ij X (BR K):=hK ▸Y4
theorem ZY(hK:X.K=K):Ij X (BQ K):=hK ▸X8
theorem Kl(hK:X.K=K):HX X (BP K):=hK ▸Y3
theorem Tf(hK:X.K=K):jb X (compareOp .NotIn) (Lg K true):=hK ▸Zdo
theorem ZE(hK:X.K=K):bG X (.builtin "len") (λxs H Q=>∃p ys,xs=[.ref p]/\(az K H p ys\/aU K H p ys)/\Q (.int ys.length) H):=hK ▸Zdp
theorem Kq(hK:X.K=K):bG X (.type "list") (λxs H Q=>∃p ys,xs=[.ref p]/\(az K H p ys\/aU K H p ys)/\∀l,H l=none->Q (.ref l) (upd H l (.lst ys))):=hK ▸Zdq
theorem Zcp(hK:X.K=K):bG X (.type "tuple") (λxs H Q=>∃p ys,xs=[.ref p]/\((az K H p ys/\∀l,H l=none->Q (.ref l) (upd H l (.tup ys)))\/(aU K H p ys/\Q (.ref p) H))):=hK ▸ZcJ
theorem Zfs{ns ms:List Int}(h:ns.length=ms.length):(List.range ns.length).all (λj=>ns.getD j 0 ==ms.getD j 0)=decide (ns=ms):=by
 rw[aef,aD8,aWv];constructor
 .intro z;refine List.ext_getElem h λj h1 h2=>?_;have:=z j (ayn.mpr h1);rw[auG,auG,aun h1,aun h2]at this;simpa using this
 .rintro rfl j _;simp
inductive Fb(K:W.Frag) (neg:Bool)(x:V)(y:V)(H:Hp)(Q:VK):Prop
 |mk (a b:Addr) (ns ms:List Int):x=.ref a->y=.ref b->az K H a (ns.map V.int)->az K H b (ms.map V.int)->Q (.bl (if neg then !decide (ns=ms) else decide (ns=ms))) H->Fb K neg x y H Q
theorem Zgi{A:Around}{s:Shared}{ns:List Int}{us:List Value}(r:Vals (ns.map V.int) us){ms:List Int}{ws:List Value}(r2:Vals (ms.map V.int) ws)(j:Nat)(h1:j<us.toArray.size)(h2:j<ws.toArray.size):SeqAt.EqAt A s us.toArray[j] ws.toArray[j] (ns.getD j 0 ==ms.getD j 0):=by
 have l1:ns.length=us.length:=by have:=r.length;rwa [axO]at this
 have l2:ms.length=ws.length:=by have:=r2.length;rwa [axO]at this
 have k1:j<ns.length:=by rw[l1];simpa using h1
 have k2:j<ms.length:=by rw[l2];simpa using h2
 obtain⟨u,hu,ru⟩:=r.get (i:=j) (x:=.int ns[j]) (by rw[acC,aun k1];rfl);obtain⟨v,hv,rv⟩:=r2.get (i:=j) (x:=.int ms[j]) (by rw[acC,aun k2];rfl);obtain⟨t,rfl⟩:=ru;obtain⟨t',rfl⟩:=rv;have e1:us.toArray[j]=.int ns[j] t:=by
  have:us[j]?=some us[j]:=aun (by simpa using h1);rw[hu]at this;simpa using(a9h this).symm
 have e2:ws.toArray[j]=.int ms[j] t':=by
  have:ws[j]?=some ws[j]:=aun (by simpa using h2);rw[hv]at this;simpa using(a9h this).symm
 rw[e1,e2,auG,auG,aun k1,aun k2];exact SeqAt.EqAt.int_int _ _ _ _
theorem X0(hu:X.A.units<cLine)(hK:X.K=K):jb X (compareOp .NotEq) (Fb K true):=by
 subst hK;intro pins s σ H x y v u Q I rx ry h;obtain⟨a,b,ns,ms,rfl,rfl,ha,hb,q⟩:=h;cases rx;cases ry;obtain⟨its,r1,p1,_⟩:=I.list ha;obtain⟨its2,r2,p2,_⟩:=I.list hb;have l1:ns.length=its.length:=by have:=r1.length;rwa [axO]at this
 have l2:ms.length=its2.length:=by have:=r2.length;rwa [axO]at this
 by_cases hl:ns.length=ms.length
 .refine SeqAt.RcNeAt.lists (e:=λj=>ns.getD j 0 ==ms.getD j 0) p1.isList p2.isList (by simp;lia) hu (λj h1 h2=>Zgi r1 r2 j h1 h2) X.prog X.w X.xe _ ⟨.bl _,H,I,rfl,?_⟩;rw[aCS,<-l1,Zfs hl];exact q
 .refine SeqAt.RcNeAt.lists_lengths p1.isList p2.isList (by simp;lia) hu X.prog X.w X.xe _ ⟨.bl true,H,I,rfl,?_⟩;have e:decide (ns=ms)=false:=a4I λz=>hl (by rw[z]);rw[e]at q;exact q
end
end L2
namespace HT
open PySem PyProof.Rows
section
open PySem.SeqAt
open PySem.AutoSeq1 (wpAny_loadPart')
open PySem.MeetsSeq PySem.MeetsSeq2 PySem.MeetsSeq3
end
end HT
namespace L2
open PySem PySem.Spec PyProof.Rows
theorem Qm{h:Heap}{a:Addr}{us:Array Value}(x:IsTup h a us):a<h.objs.size:=by
 obtain⟨o,ho,_⟩:=x;exact aYz ho
section
variable{X:Cx}
inductive tG(x:V)(vs:List V)(H:Hp)(Q:VK):Prop
 |mk (l:Addr) (ns:List Int) (k:Int):x=.ref l->vs=[.int k]->H l=some (.lst (ns.map V.int))->k∈ns->Q .aS (upd H l (.lst ((ns.erase k).map V.int)))->tG x vs H Q
theorem So(k:Int):∀(ns:List Int),k∈ns->∃j,ns[j]?=some k/\(∀m z,m<j->ns[m]?=some z->z≠k)/\ns.erase k=ns.eraseIdx j
 | [],h=>nomatch h
 |x ::ns,h=>by
  by_cases hx:x=k
  .subst hx;exact⟨0,rfl,λm z hm=>absurd hm (Nat.not_lt_zero _),by rw[aen,List.eraseIdx_cons_zero]⟩
  .have hm:k∈ns:=by
    rcases baL.mp h with e|e
    .exact absurd e.symm hx
    .exact e
   obtain⟨j,h1,h2,h3⟩:=So k ns hm;refine⟨j+1,by simpa using h1,λm z hm hz=>?_,?_⟩
   .cases m with
    |zero=>
     have e:x=z:=by simpa using hz
     rw[<-e];exact hx
    |succ m=>exact h2 m z (by lia) (by simpa using hz)
   .rw [List.erase_cons_tail (by simpa using hx),h3,asn]
theorem Zft{xs:List V}{us:List Value}:∀(j:Nat),Vals xs us->Vals (xs.eraseIdx j) (us.eraseIdx j):=by
 intro j r
 induction r generalizing j with
 |nil=>exact .nil
 |cons h t ih=>
  cases j with
  |zero=>exact t
  |succ j=>exact .cons h (ih j)
theorem Sv:Tp X "list.remove" tG:=by
 intro pins s σ H x vs v us Q I rx rv h;obtain⟨l,ns,k,rfl,rfl,hH,hk,q⟩:=h;cases rx;obtain⟨u,rfl,ru⟩:=rv.one;obtain⟨tk,rfl⟩:=ru;obtain⟨z,its,n,r,hl,e⟩:=I.rL hH;rw[axO]at hl z;obtain⟨j,h1,h2,h3⟩:=So k ns hk;have get:∀(m:Nat)(hm:m<its.toArray.size),∃(i:Int)(t:Tok),ns[m]?=some i/\its.toArray[m]=.int i t:=λm hm=>by
  have hm':m<ns.length:=by rw[hl];simpa using hm
  obtain⟨w,hw,rw'⟩:=r.get (i:=m) (x:=.int ns[m]) (by rw[acC,aun hm'];rfl);obtain⟨t,rfl⟩:=rw';refine⟨ns[m],t,aun hm',?_⟩;have:its[m]?=some its[m]:=aun (by simpa using hm);rw[hw]at this;simpa using(a9h this).symm
 have hj:j<its.toArray.size:=by
  have:=(aB9.mp h1).1;rw[hl]at this;simpa using this
 refine call_meets F.slot_list_remove ⟨_,e,rfl⟩ F.entry_list_remove (F.args_list_remove_2 _ _) (MeetsSeq.list_remove l its.toArray n (.int k tk) (λy=>match y with| .int i _=>i ==k|_=>false) (λy hy=>?_) j hj ?_ (λm hm WA=>?_) (by rw[aCS,<-hl];exact z)) ⟨e,?_⟩
 .obtain ⟨m,hm,rfl⟩:=Array.getElem_of_mem hy;obtain⟨i,t,_,e2⟩:=get m hm;rw[e2];exact MeetsSeq.EqGives.int i k t tk
 .obtain ⟨i,t,e1,e2⟩:=get j hj;rw[h1]at e1;cases e1;rw[e2];simp
 .obtain ⟨i,t,e1,e2⟩:=get m hm;rw[e2];simpa using h2 m i WA e1
 .refine ⟨.aS,_,I.xh (its':=its.eraseIdx j) (ys:=(ns.erase k).map V.int) hH e ?_ ?_ ?_,rfl,q⟩
  .rw [List.eraseIdxIfInBounds_toArray]
  .rw [h3];have em:∀(xs:List Int)(i:Nat),(xs.eraseIdx i).map V.int=(xs.map V.int).eraseIdx i:=λxs=>by
    induction xs with
    |nil=>intro i;rfl
    |cons y xs ih=>intro i;cases i with
     |zero=>rfl
     |succ i=>rw[asn,a2a,a2a,asn,ih]
   rw[em];exact Zft j r
  .rw [axO];exact a0n List.length_erase_le z
end
section
variable{κ:Type}[DecidableEq κ]
def aV(kvs:List (κ×V))(k:κ):Option V:=(kvs.find? λkv=>decide (kv.1=k)).map (·.2)
def putK(kvs:List (κ×V))(k:κ)(v:V):List (κ×V):=
 if(kvs.any λkv=>decide (kv.1=k))=true then kvs.map (λkv=>if kv.1=k then(kv.1,v) else kv) else kvs++[(k,v)]
def aX(kvs:List (κ×V))(k:κ):List (κ×V):=kvs.filter λkv=>decide (kv.1≠k)
theorem ZJ{p:κ×V}{r:List (κ×V)}{k:κ}(e:p.1=k):aV (p ::r) k=some p.2:=by simp[aV,aaV,e]
theorem ZF{p:κ×V}{r:List (κ×V)}{k:κ}(e:¬p.1=k):aV (p ::r) k=aV r k:=by simp[aV,aaV,e]
theorem HL(k:κ):∀kvs:List (κ×V),(kvs.any λkv=>decide (kv.1=k))=(aV kvs k).isSome
 | []=>rfl
 |p ::r=>by
  rw[any_cons];by_cases e:p.1=k
  .simp only[ZJ e,a5U e,Bool.true_or,Option.isSome_some]
  .rw [ZF e,a4I e,Bool.false_or];exact HL k r
theorem Sn(k j:κ)(y:V):∀kvs:List (κ×V),aV (kvs.map λkv=>if kv.1=k then(kv.1,y) else kv) j=(aV kvs j).map λx=>if j=k then y else x
 | []=>rfl
 |p ::r=>by
  have ih:=Sn k j y r;rw[a2a];by_cases h:p.1=k
  .rw [aaU h];by_cases e:p.1=j
   .rw [ZJ (p:=(p.1,y)) e,ZJ e,aNI,aaU (e.symm.trans h)]
   .rw [ZF (p:=(p.1,y)) e,ZF e,ih]
  .rw [afn h];by_cases e:p.1=j
   .rw [ZJ (p:=p) e,ZJ e,aNI,afn (λz=>h (e.trans z))]
   .rw [ZF (p:=p) e,ZF e,ih]
theorem Su(k j:κ)(y:V):∀kvs:List (κ×V),aV kvs k=none->aV (kvs++[(k,y)]) j=if j=k then some y else aV kvs j
 | [],_=>by
  by_cases e:k=j
  .rw [aaU e.symm];exact ZJ (p:=(k,y)) e
  .rw [afn (λz=>e z.symm)];exact ZF (p:=(k,y)) e
 |p ::r,hn=>by
  rw[List.cons_append];have hk:¬p.1=k:=λz=>by rw[ZJ z]at hn;cases hn
  rw[ZF hk]at hn;have ih:=Su k j y r hn;by_cases e:p.1=j
  .rw [ZJ e,ZJ e,afn (λz=>hk (e.trans z))]
  .rw [ZF e,ZF e,ih]
theorem HK(kvs:List (κ×V))(k j:κ)(y:V):aV (putK kvs k y) j=if j=k then some y else aV kvs j:=by
 unfold putK;by_cases a:(kvs.any λkv=>decide (kv.1=k))=true
 .rw [aaU a,Sn];rw[HL]at a;by_cases e:j=k
  .obtain ⟨x,hx⟩:=Option.isSome_iff_exists.mp a;rw[aaU e,e,hx,aNI,aaU rfl]
  .rw [afn e];cases aV kvs j with
   |none=>rfl
   |some x=>rw[aNI,afn e]
 .rw [afn a];refine Su k j y kvs ?_;rw[HL]at a;cases q:aV kvs k with
  |none=>rfl
  |some x=>rw[q]at a;exact(a rfl).elim
theorem Kz(kvs:List (κ×V))(k:κ)(v:V):(putK kvs k v).length<=kvs.length+1:=by
 unfold putK;split
 .rw [axO];lia
 .rw [aKe,a83,List.length_nil];lia
theorem dF.iS{o:Option V}{u:Option Value}(r:dF o u):o.isSome=u.isSome:=by
 cases o with
 |none=>cases u with
  |none=>rfl
  |some _=>exact(show False from r).elim
 |some _=>cases u with
  |none=>exact(show False from r).elim
  |some _=>rfl
theorem dF.getD{o:Option V}{u:Option Value}{d:V}{d':Value}(r:dF o u)(rd:RelV d d'):RelV (o.getD d) (u.getD d'):=by
 cases o with
 |none=>cases u with
  |none=>exact rd
  |some _=>exact(show False from r).elim
 |some _=>cases u with
  |none=>exact(show False from r).elim
  |some _=>exact r
theorem KV.val{kvs:List (κ×V)}{vs:List (κ×Value)}(r:KV kvs vs)(k:κ):dF (aV kvs k) (valueAt vs k):=by
 unfold KV at r
 induction r with
 |nil=>exact True.intro
 | @cons p q ps qs h t ih=>
  obtain⟨h1,h2⟩:=h;by_cases e:p.1=k
  .have e':q.1=k:=h1.symm.trans e;have b:valueAt (q ::qs) k=some q.2:=by simp[valueAt,aaV,e']
   rw[ZJ e,b];exact h2
  .have e':¬q.1=k:=λz=>e (h1.trans z);have b:valueAt (q ::qs) k=valueAt qs k:=by simp[valueAt,aaV,e']
   rw[ZF e,b];exact ih
theorem KV.any{kvs:List (κ×V)}{vs:List (κ×Value)}(r:KV kvs vs)(k:κ):(kvs.any λkv=>decide (kv.1=k))=vs.any λkv=>decide (kv.1=k):=by
 unfold KV at r
 induction r with
 |nil=>rfl
 |cons h t ih=>rw[any_cons,any_cons,ih,h.1]
theorem KV.repl{kvs:List (κ×V)}{vs:List (κ×Value)}(r:KV kvs vs)(k:κ){y:V}{u:Value}(ry:RelV y u) :
  KV (kvs.map λkv=>if kv.1=k then(kv.1,y) else kv) (vs.map λkv=>if kv.1=k then(kv.1,u) else kv):=by
 unfold KV at r ⊢
 induction r with
 |nil=>exact .nil
 | @cons p q ps qs h t ih=>
  rw[a2a,a2a];refine .cons ?_ ih;obtain⟨h1,h2⟩:=h;by_cases e:p.1=k
  .rw [aaU e,aaU (h1.symm.trans e)];exact⟨h1,ry⟩
  .rw [afn e,afn (λz=>e (h1.trans z))];exact⟨h1,h2⟩
theorem KV.put{kvs:List (κ×V)}{vs:List (κ×Value)}(r:KV kvs vs)(k:κ){y:V}{u:Value}(ry:RelV y u):KV (putK kvs k y) (stored vs k u):=by
 unfold putK stored;rw[r.any k];by_cases e:(vs.any λkv=>decide (kv.1=k))=true
 .rw [aaU e,aaU e];exact r.repl k ry
 .rw [afn e,afn e];exact Paired.snoc r ⟨rfl,ry⟩
theorem KV.drop{kvs:List (κ×V)}{vs:List (κ×Value)}(r:KV kvs vs)(k:κ):KV (aX kvs k) (without vs k):=by
 unfold KV at r ⊢;unfold aX without
 induction r with
 |nil=>exact .nil
 | @cons p q ps qs h t ih=>
  obtain⟨h1,h2⟩:=h;rw[aNg,aNg];by_cases e:p.1=k
  .have a:¬decide (p.1≠k)=true:=by simp[e]
   have b:¬decide (q.1≠k)=true:=by simp[h1.symm.trans e]
   rw[afn a,afn b];exact ih
  .have e':¬q.1=k:=λz=>e (h1.trans z);have a:decide (p.1≠k)=true:=by simp[e]
   have b:decide (q.1≠k)=true:=by simp[e']
   rw[aaU a,aaU b];exact .cons ⟨h1,h2⟩ ih
theorem KV.length{kvs:List (κ×V)}{vs:List (κ×Value)}(r:KV kvs vs):kvs.length=vs.length:=aFJ r
theorem ZhM(kvs:List (κ×V))(k:κ):(aX kvs k).length<=kvs.length:=azh _ _
end
theorem kW{P:Program}{w:World}{k:Key}{u:Value}(r:RelV (kV k) u):(Zy P w).is k u=true:=by
 cases k with
 |inl i=>obtain⟨t,e⟩:=(show ∃t,u=Value.int i t from r);subst e;exact ZdP P w i t
 |inr x=>obtain⟨t,e⟩:=(show ∃t,u=Value.str x t from r);subst e;exact ZdQ P w x t
theorem Ss{P:Program}{w:World}:∀{ks:List Key}{us:List Value},Vals (ks.map kV) us->ItemsAre (Zy P w) ks us
 | [],_,r=>by rw[map_nil]at r;cases r;exact .nil
 |k ::ks,_,r=>by
  rw[a2a]at r;cases r with
  |cons h t=>exact .cons (kW h) (Ss t)
abbrev KT(H:Hp):List (List Key×V)->List (List Key×Addr×Value)->Prop:=Paired λp q=>p.1=q.1/\H q.2.1=some (.tup (p.1.map kV))/\RelV p.2 q.2.2
theorem KT.val{H:Hp}{kvs:List (List Key×V)}{xs:List (List Key×Addr×Value)}(r:KT H kvs xs)(k:List Key):dF (aV kvs k) ((atKey xs k).map (·.2)):=by
 induction r with
 |nil=>exact True.intro
 | @cons p q ps qs h t ih=>
  obtain⟨h1,_,h2⟩:=h;by_cases e:p.1=k
  .have e':q.1=k:=h1.symm.trans e;have b:atKey (q ::qs) k=some q.2:=by simp[atKey,aaV,e']
   rw[ZJ e,b];exact h2
  .have e':¬q.1=k:=λz=>e (h1.trans z);have b:atKey (q ::qs) k=atKey qs k:=by simp[atKey,aaV,e']
   rw[ZF e,b];exact ih
theorem KT.repl{H:Hp}{kvs:List (List Key×V)}{xs:List (List Key×Addr×Value)}(r:KT H kvs xs)(k:List Key){y:V}{u:Value}(ry:RelV y u) :
  KT H (kvs.map λkv=>if kv.1=k then(kv.1,y) else kv) (xs.map (putAt k u)):=by
 induction r with
 |nil=>exact .nil
 | @cons p q ps qs h t ih=>
  rw[a2a,a2a];refine .cons ?_ ih;obtain⟨h1,h2,h3⟩:=h;unfold putAt;by_cases e:p.1=k
  .rw [aaU e,aaU (h1.symm.trans e)];exact⟨h1,h2,ry⟩
  .rw [afn e,afn (λz=>e (h1.trans z))];exact⟨h1,h2,h3⟩
theorem KT.put{H:Hp}{kvs:List (List Key×V)}{xs:List (List Key×Addr×Value)}(r:KT H kvs xs)(k:List Key){b:Addr}{y:V}{u:Value}(hb:H b=some (.tup (k.map kV)))(ry:RelV y u) :
  KT H (putK kvs k y) (storedH xs k b u):=by
 have e:(kvs.any λkv=>decide (kv.1=k))=(atKey xs k).isSome:=by
  rw[HL,(r.val k).iS,Option.isSome_map]
 unfold putK storedH;rw[e];by_cases q:(atKey xs k).isSome=true
 .rw [aaU q,aaU q];exact r.repl k ry
 .rw [afn q,afn q];exact Paired.snoc r ⟨rfl,hb,ry⟩
theorem KT.keeps{H H':Hp}{kvs:List (List Key×V)}{xs:List (List Key×Addr×Value)}(r:KT H kvs xs)(ht:∀b ys,H b=some (.tup ys)->H' b=some (.tup ys)):KT H' kvs xs:=
 Paired.Ck r λ_ _ z=>⟨z.1,ht _ _ z.2.1,z.2.2⟩
section
variable{P:Program}{w:World}{H:Hp}{h:Heap}{a:Addr}
theorem AE{u:HO}(ok:dW P w H h)(e:Rd H a u):aH P w H h a u:=e.ok ok
theorem nv{kvs:List (Key×V)}(ok:dW P w H h)(e:Rd H a (.dK kvs)):kvs.length<=sizeLine/\(a ==sysModules)=false/\∃vs,KV kvs vs/\h.DictOf (Zy P w) a vs:=
 show aH P w H h a (.dK kvs) from AE ok e
theorem xM{kvs:List (Key×V)}(ok:dW P w H h)(e:H a=some (.dK kvs)):kvs.length<=sizeLine/\(a ==sysModules)=false/\∃vs,KV kvs vs/\h.DictOf (Zy P w) a vs:=nv ok (.inl e)
theorem Hw{ks:List Key}(ok:dW P w H h)(e:H a=some (.tup (ks.map kV))):(tupleKind (Zy P w)).is h ks a:=by
 obtain⟨_,its,r,o,h1,h2,n,h3⟩:=(show aH P w H h a (.tup (ks.map kV)) from ok a _ e);exact⟨o,its.toArray,n,h1,h2,h3,by simpa using Ss r⟩
theorem nj{kvs:List (List Key×V)}(ok:dW P w H h)(e:Rd H a (.dT kvs)):kvs.length<=sizeLine/\(a ==sysModules)=false /\
  ∃xs,KT H kvs xs/\h.DictOfH (tupleKind (Zy P w)) a xs:=by
 obtain⟨z,y,xs,r,o,es,ep,h1,h2,h3,h4,h5⟩:=(show aH P w H h a (.dT kvs) from AE ok e);refine⟨z,y,xs,r,o,es,ep,h1,h2,h3,h4,λx hx=>?_,h5⟩;have all:∀{l:List (List Key×V)}{m:List (List Key×Addr×Value)},KT H l m->∀x∈m,(tupleKind (Zy P w)).is h x.1 x.2.1:=by
  intro l m q
  induction q with
  |nil=>intro x hx;exact nomatch hx
  | @cons p q ps qs hq t ih=>
   intro x hx;rcases baL.mp hx with e|hx
   .subst e;exact Hw ok (by rw[<-hq.1];exact hq.2.1)
   .exact ih x hx
 exact all r x hx
theorem GX{kvs:List (List Key×V)}(ok:dW P w H h)(e:H a=some (.dT kvs)):kvs.length<=sizeLine/\(a ==sysModules)=false /\
  ∃xs,KT H kvs xs/\h.DictOfH (tupleKind (Zy P w)) a xs:=nj ok (.inl e)
end
def e8(H:Hp)(a:Addr)(y:V)(r:Option V):Prop:=
 (∃kvs k,Rd H a (.dK kvs)/\y=kV k/\r=aV kvs k)\/∃kvs k b,Rd H a (.dT kvs)/\y=.ref b/\H b=some (.tup (k.map kV))/\r=aV kvs k
def mL(H:Hp)(a:Addr)(y v:V)(H':Hp):Prop:=
 (∃kvs k,H a=some (.dK kvs)/\y=kV k/\kvs.length<sizeLine/\H'=upd H a (.dK (putK kvs k v))) \/
 ∃kvs k b,H a=some (.dT kvs)/\y=.ref b/\H b=some (.tup (k.map kV))/\kvs.length<sizeLine/\H'=upd H a (.dT (putK kvs k v))
theorem e8.k{H:Hp}{a:Addr}{kvs:List (Key×V)}{k:Key}(e:H a=some (.dK kvs)):e8 H a (kV k) (aV kvs k):=.inl ⟨kvs,k,.inl e,rfl,rfl⟩
theorem mL.k{H:Hp}{a:Addr}{kvs:List (Key×V)}{k:Key}{v:V}(e:H a=some (.dK kvs))(hl:kvs.length<sizeLine):mL H a (kV k) v (upd H a (.dK (putK kvs k v))):=.inl ⟨kvs,k,e,rfl,hl,rfl⟩
section
variable{X:Cx}{pins:List (Addr×Obj)}{σ:St}{H:Hp}{s:Shared}{a:Addr}{y v:V}{u r:Value}{o:Option V}{A:Around}{E:Value->Shared->Prop}
theorem Inv.big(I:Inv X pins σ H s):sysModules<s.heap.objs.size:=by
 have h:mainGlobals<s.heap.objs.size:=(I.mod.glob.keeps I.bk).lt;exact aN5 (by decide) h
theorem SQ{Q:Value->Shared->Prop}(hu:A.units+1<cLine)(I:Inv X pins σ H s)(g:e8 H a y (some v))(ry:RelV y u)(h:∀w' s',Inv X pins σ H s'->RelV v w'->Q w' s') :
  wpAny (model X.prog X.w) A (getItem (.ref a) u) Q E s:=by
 rcases g with⟨kvs,k,e,ey,l⟩|⟨kvs,k,b,e,ey,eb,l⟩
 .subst ey;obtain⟨z,hd,vs,rel,dd⟩:=nv I.hok e;obtain⟨w',hw,rw'⟩:=dF.some_of (v:=v) (o:=valueAt vs k) (by rw[l];exact rel.val k);exact wpAny_getItem_of (kW ry) dd.mapOf hw (h w' _ (I.tok _) rw')
 .subst ey;cases(show u=Value.ref b from ry);obtain⟨z,hd,xs,rel,dd⟩:=nj I.hok e;obtain⟨w',hw,rw'⟩:=dF.some_of (v:=v) (o:=(atKey xs k).map (·.2)) (by rw[l];exact rel.val k);obtain⟨p,hp,hp2⟩:=Option.map_eq_some_iff.mp hw;refine wpAny_getItem_heap (awI hu) (Hw I.hok eb) dd hp ?_;rw[hp2];exact h w' _ (I.tok _) rw'
theorem MC{Q:Value->Shared->Prop}(hu:A.units+1<cLine)(I:Inv X pins σ H s)(g:e8 H a y o)(ry:RelV y u)(h:∀s',Inv X pins σ H s'->Q (.bool o.isSome) s') :
  wpAny (model X.prog X.w) A (compareOp .In u (.ref a)) Q E s:=by
 rcases g with⟨kvs,k,e,ey,l⟩|⟨kvs,k,b,e,ey,eb,l⟩
 .subst ey;obtain⟨z,hd,vs,rel,dd⟩:=nv I.hok e;refine wpAny_in_of (kW ry) hd dd.mapOf ?_;rw[<-(rel.val k).iS,<-l];exact h _ (I.tok _)
 .subst ey;cases(show u=Value.ref b from ry);obtain⟨z,hd,xs,rel,dd⟩:=nj I.hok e;refine wpAny_in_heap (awI hu) (Hw I.hok eb) hd dd ?_;have q:=(rel.val k).iS;rw[Option.isSome_map]at q;rw[<-q,<-l];exact h _ (I.tok _)
theorem Nh{h':Heap}{t':Nat}{ob:HO}(I:Inv X pins σ H s)(mu:Ii (H a))(hs:Heap.SameBut a s.heap h')(he:∃q,h'.get? a=some q)(new:aH X.prog X.w (upd H a ob) h' a ob) :
  Inv X pins σ (upd H a ob) { s with heap:=h',toks:=t' }:=
 I.write (x:=a) (e:=a) mu (.inl rfl) (λb q hb z=>(hs.2 b hb).trans z) he new
theorem Ql{P:Program}{w:World}{H':Hp}{h':Heap}{kvs:List (Key×V)}{vs:List (Key×Value)}(z:kvs.length<=sizeLine)(hd:(a ==sysModules)=false)(rel:KV kvs vs)(dd:h'.DictOf (Zy P w) a vs) :
  aH P w H' h' a (.dK kvs):=⟨z,hd,vs,rel,dd⟩
theorem SO{H':Hp}{Q:Unit->Shared->Prop}(hu:A.units+1<cLine)(I:Inv X pins σ H s)(g:mL H a y v H')(ry:RelV y u)(rv:RelV v r)(h:∀s',Inv X pins σ H' s'->Q () s') :
  wpAny (model X.prog X.w) A (setItem (.ref a) u r) Q E s:=by
 rcases g with⟨kvs,k,e,ey,l,eH⟩|⟨kvs,k,b,e,ey,eb,l,eH⟩
 .subst ey eH;obtain⟨z,hd,vs,rel,dd⟩:=xM I.hok e;have hz:vs.length<=sizeLine:=by rw[<-rel.length];exact z
  have hl:(putK kvs k v).length<=sizeLine:=by have:=Kz kvs k v;lia
  refine wpAny_setItem_pairs (hsz:=hz) (kW ry) dd λh' CI hs=>h _ ?_;have he:∃q,h'.get? a=some q:=let⟨q,_,_,hq,_⟩:=CI;⟨q,hq⟩;exact Nh I (by rw[e];exact True.intro) hs he (Ql hl hd (rel.put k rv) CI)
 .subst ey eH;cases(show u=Value.ref b from ry);obtain⟨z,hd,xs,rel,dd⟩:=GX I.hok e;have hz:xs.length<=sizeLine:=by rw[<-aFJ rel];exact z
  have hl:(putK kvs k v).length<=sizeLine:=by have:=Kz kvs k v;lia
  refine wpAny_setItem_heap (hsz:=hz) (awI hu) (Hw I.hok eb) dd λh' CI hs=>h _ ?_;obtain⟨q,es,ep,hq,h2,h3,h4,_,h5⟩:=CI;refine Nh I (by rw[e];exact True.intro) hs ⟨q,hq⟩ ⟨hl,hd,_,(rel.put k eb rv).keeps λc ys ec=>?_,q,es,ep,hq,h2,h3,h4,h5⟩;rw[Zc (wW ec e (λz=>nomatch z))];exact ec
end
section
variable{X:Cx}{pins:List (Addr×Obj)}{σ:St}{H:Hp}{s:Shared}{a:Addr}{kvs:List (Key×V)}{k:Key}{u:Value}{A:Around}{E:Value->Shared->Prop}
theorem Be{v:V}{more:List Value}{Q:Value->Shared->Prop}(I:Inv X pins σ H s)(e:H a=some (.dK kvs))(ry:RelV (kV k) u)(l:aV kvs k=some v)(hm:more=[]\/∃x,more=[x])
  (h:∀w' s',Inv X pins σ (upd H a (.dK (aX kvs k))) s'->RelV v w'->Q w' s'):wpAny (model X.prog X.w) A (call (.builtin "dict.pop") (.ref a ::u ::more)) Q E s:=by
 obtain⟨z,hd,vs,rel,dd⟩:=xM I.hok e;obtain⟨w',hw,rw'⟩:=dF.some_of (v:=v) (o:=valueAt vs k) (by rw[<-l];exact rel.val k);have hp:(keyPart u).isSome=true:=by
  cases k with
  |inl i=>obtain⟨t,q⟩:=(show ∃t,u=Value.int i t from ry);subst q;rfl
  |inr x=>obtain⟨t,q⟩:=(show ∃t,u=Value.str x t from ry);subst q;rfl
 have ha:argsOk "dict.pop" ⟨.ref a ::u ::more,[]⟩:=by
  rcases hm with q|⟨x,q⟩
  .subst q;exact PySem.F.args_dict_pop_2 _ _
  .subst q;exact PySem.F.args_dict_pop_3 _ _ _
 refine call_meetsIn aKy dd.typeIs PySem.F.entry_dict_pop ha (meets_dict_pop_there (Zy X.prog X.w) a (kW ry) more hm hp)
  ⟨vs,w',dd,by rw[<-rel.length];exact z,hw,λh' CI hs=>h w' _ ?_ rw'⟩
 have he:∃q,h'.get? a=some q:=let⟨q,_,_,hq,_⟩:=CI;⟨q,hq⟩;exact Nh I (by rw[e];exact True.intro) hs he (Ql (a0n (ZhM kvs k) z) hd (rel.drop k) CI)
theorem XZ{r:Value}{Q:Value->Shared->Prop}(I:Inv X pins σ H s)(e:H a=some (.dK kvs))(ry:RelV (kV k) u)(l:aV kvs k=none)(h:∀s',Inv X pins σ H s'->Q r s') :
  wpAny (model X.prog X.w) A (call (.builtin "dict.pop") [.ref a,u,r]) Q E s:=by
 obtain⟨z,hd,vs,rel,dd⟩:=xM I.hok e;have hn:valueAt vs k=none:=dF.none_of (by rw[<-l];exact rel.val k);have hp:(keyPart u).isSome=true:=by
  cases k with
  |inl i=>obtain⟨t,q⟩:=(show ∃t,u=Value.int i t from ry);subst q;rfl
  |inr x=>obtain⟨t,q⟩:=(show ∃t,u=Value.str x t from ry);subst q;rfl
 exact call_meetsIn aKy dd.typeIs PySem.F.entry_dict_pop (PySem.F.args_dict_pop_3 _ _ _) (meets_dict_pop_default (Zy X.prog X.w) a (kW ry) hd hp r) ⟨vs,dd,hn,h _ (I.tok _)⟩
end
def Ie(i:Expr):Prop:=∀ov iv,subscripted i false ov iv=operate [ov,iv] (getItem ov iv)
theorem YW{prog:Program}{w:World}{A:Around}{E:Value->Shared->Prop}{s:Shared}{env:Env}{value slice:Expr}{pos:Pos}{T id:String}{Q:Value->Shared->Prop}
  (hl:typeLookup (.type T) "__getitem__"=pure (some (.builtin id))) (hs:Ie slice)
  (h:wpAny (model prog w) A (eval value env) (λo s₁=>wpAny (model prog w) A (eval slice env) (λi s₂=>s₂.TypeIs o T/\wpAny (model prog w) A (getItem o i) Q E s₂) E s₁) E s) :
  wpAny (model prog w) A (eval (.Subscript value slice pos) env) Q E s:=by
 refine Subscript_ (a4X h (λo s₁ h₁=>a4X h₁ (λi s₂ h₂=>?_) λ_ _ x=>x) λ_ _ x=>x);obtain⟨hT,h₂⟩:=h₂;unfold subscriptTail;refine asu ?_;rw[getitemInPython_of_ne hT.not_modules];refine asu (wpAny_specialOf hT hl ?_);have fin:wpAny (model prog w) A (subscripted slice false o i) (λr s₃=>wpAny (model prog w) A (letTemporaryGo value o r >>= λ_=>pure r) Q E s₃) E s₂:=by
  rw[hs o i];exact wpAny_operating (a4X h₂ (λr s₃ h₃=>asu (wpAny_letTemporaryGo (aJq h₃))) λ_ _ x=>x)
 first
  |exact aJq (asu fin)
  |exact asu (aJq (asu fin))
  |exact asu fin
theorem ZdZ{X:Cx}{pins:List (Addr×Obj)}{σ:St}{H:Hp}{s:Shared}{a:Addr}{y:V}{o:Option V}(I:Inv X pins σ H s)(g:e8 H a y o):s.TypeIs (.ref a) "dict":=by
 rcases g with⟨kvs,k,e,_,_⟩|⟨kvs,k,b,e,_,_,_⟩
 .obtain ⟨_,_,vs,_,dd⟩:=nv I.hok e;exact dd.typeIs
 .obtain ⟨_,_,xs,_,dd⟩:=nj I.hok e;exact dd.typeIs
def ER(td ty:TE):TE:=λσ H Q=>td σ H λx H1=>ty σ H1 λy H2=>∃a v,x=.ref a/\e8 H2 a y (some v)/\Q v H2
def K0(ty td:TE):TE:=λσ H Q=>ty σ H λy H1=>td σ H1 λx H2=>∃a o,x=.ref a/\e8 H2 a y o/\Q (.bl o.isSome) H2
def E2(td ty tv:TE):TS:=λD σ H=>tv σ H λv H1=>td σ H1 λx H2=>ty σ H2 λy H3=>∃a H4,x=.ref a/\mL H3 a y v H4/\D.nx σ H4
def E3(td ty tv:TE)(rd:V->V->Hp->VK->Prop):TS:=λD σ H=>td σ H λx H1=>ty σ H1 λy H2=>∃a v,x=.ref a/\e8 H2 a y (some v) /\
 tv σ H2 λy2 H3=>rd v y2 H3 λz H4=>∃H5,mL H4 a y z H5/\D.nx σ H5
section
variable{X:Cx}{o i e value:Expr}{pos pos' tpos:Pos}{td ty tv:TE}
theorem Ng(hu:X.A.units+1<cLine)(ho:PE X o td)(hi:PE X i ty)(hs:Ie i):PE X (.Subscript o i pos) (ER td ty):=by
 intro pins s σ H Q I h;refine YW PySem.F.slot_dict_getitem.lookup hs (fB (ho pins s σ H _ I h) λu s1 x H1 I1 rx q1=>bZ (hi pins s1 σ H1 _ I1 q1) λiv s2 ⟨y,H2,I2,ry,a,v,ex,g,q2⟩=>?_);subst ex;obtain rfl:u=Value.ref a:=rx;exact⟨ZdZ I2 g,SQ hu I2 g ry λw' s3 I3 rw'=>⟨v,H2,I3,rw',q2⟩⟩
theorem Qk(hu:X.A.units+1<cLine)(hi:PE X i ty)(ho:PE X o td):PC X .In i o (K0 ty td):=by
 intro pins s σ H Q I h;refine fB (hi pins s σ H _ I h) λiv s1 y H1 I1 ry q1=>bZ (ho pins s1 σ H1 _ I1 q1) λu s2 ⟨x,H2,I2,rx,a,ov,ex,g,q2⟩=>?_;subst ex;obtain rfl:u=Value.ref a:=rx;exact MC hu I2 g ry λs3 I3=>⟨.bl ov.isSome,H2,I3,rfl,q2⟩
theorem J2(hu:X.A.units+1<cLine)(ho:PE X o td)(hi:PE X i ty)(hv:PE X value tv)(hs:swapsWith value (some (.Subscript o i pos')) pos.line X.env=pure false) :
  PS X (.Assign [.Subscript o i pos'] value pos) (E2 td ty tv):=by
 intro pins s σ H D I h;refine wpAny_Assign_Subscript (fB (hv pins s σ H _ I h) λr s1 v H1 I1 rv q1=>fB (ho pins s1 σ H1 _ I1 q1) λu s2 x H2 I2 rx q2=>bZ (hi pins s2 σ H2 _ I2 q2) λiv s3 ⟨y,H3,I3,ry,a,H4,ex,g,q3⟩=>?_) hs;subst ex;obtain rfl:u=Value.ref a:=rx;exact SO hu I3 g ry rv λs4 I4=>⟨σ,H4,I4,q3⟩
theorem YV{op:Operator}{rd:V->V->Hp->VK->Prop}(hu:X.A.units+1<cLine)(ho:PE X o td)(hi:PE X i ty)(hv:PE X value tv)(hop:Il X op rd)
  (ha:∀ov iv new,augStore i ov iv new=(do holding [new,ov,iv] (setItem ov iv new);release [new,ov,iv] [];pure .next)):PS X (.AugAssign (.Subscript o i tpos) op value pos) (E3 td ty tv rd):=by
 intro pins s σ H D I h;refine wpAny_AugAssign_SubscriptAny (fB (ho pins s σ H _ I h) λu s1 x H1 I1 rx q1=>bZ (hi pins s1 σ H1 _ I1 q1) λiv s2 ⟨y,H2,I2,ry,a,v,ex,g,q2⟩=>?_) ha;subst ex;obtain rfl:u=Value.ref a:=rx;refine SQ hu I2 g ry λw' s3 I3 rw'=>fB (hv pins s3 σ H2 _ I3 q2) λw2 s4 y2 H3 I4 Vm q3=>bZ (hop pins s4 σ H3 v y2 w' w2 _ I4 rw' Vm q3) λw3 s5 ⟨z,H4,I5,rz,H5,g5,q4⟩=>?_;exact SO hu I5 g5 ry rz λs6 I6=>⟨σ,H5,I6,q4⟩
end
theorem ZhN{P:Program}{w:World}{H:Hp}(h:Heap)(hb:sysModules<h.objs.size):aH P w H (h.push { cls:=.type "dict",data:=.dict #[] }) h.objs.size (.dK []):=
 ⟨aL2 _,aul.mpr (ac5 (ar8 hb)),[],.nil,Heap.DictOf.new h⟩
def XY:TE:=λ_ H Q=>∀p,H p=none->Q (.ref p) (upd H p (.dK []))
section
variable{X:Cx}{pos:Pos}
theorem Kh:PE X (.Dict [] [] pos) XY:=λpins s σ H Q I h=>
 wpAny_Dict_empty ⟨.ref s.heap.objs.size,_,I.laid (a:=s.heap.objs.size) (o:=.dK []) (t':=s.toks) (λ_ _ q=>a8r _ q) (ags _) (ZhN s.heap I.big),rfl,h _ (I.hok.fresh (ags _))⟩
end
structure M1(X:Cx)(o:Expr)(m:Str)(apos:Pos)(e:Expr)(cpos:Pos):Prop where
 base:attributeBase o m X.env (eval o X.env)=eval o X.env
 few:((backTo cpos (starEach [e] X.env)).all (λx=>!x.1) && (backToKw cpos (keywordEach [] X.env)).all (λx=>x.1.isSome)
  && decide (([e]:List Expr).length+([]:List Keyword).length+(if([]:List Keyword).isEmpty then 0 else 1)<30))=true
 line:(apos.endLine ==cpos.line)=true
 trees:backTo cpos (starEach [e] X.env)=[(false,eval e X.env)]
structure M2(X:Cx)(o:Expr)(m:Str)(apos:Pos)(e f:Expr)(cpos:Pos):Prop where
 base:attributeBase o m X.env (eval o X.env)=eval o X.env
 few:((backTo cpos (starEach [e,f] X.env)).all (λx=>!x.1) && (backToKw cpos (keywordEach [] X.env)).all (λx=>x.1.isSome)
  && decide (([e,f]:List Expr).length+([]:List Keyword).length+(if([]:List Keyword).isEmpty then 0 else 1)<30))=true
 line:(apos.endLine ==cpos.line)=true
 trees:backTo cpos (starEach [e,f] X.env)=[(false,eval e X.env),(false,eval f X.env)]
def KC(H:Hp)(a:Addr):Prop:=(∃kvs,Rd H a (.dK kvs))\/∃kvs,Rd H a (.dT kvs)
theorem JO{X:Cx}{pins:List (Addr×Obj)}{σ:St}{H:Hp}{s:Shared}{a:Addr}(I:Inv X pins σ H s)(d:KC H a) :
  s.TypeIs (.ref a) "dict" /\(∀b,Value.ref a=.ref b->∃ob,s.heap.get? b=some ob/\ob.dict=none)/\(a ==sysModules)=false:=by
 rcases d with⟨kvs,e⟩|⟨kvs,e⟩
 .obtain ⟨_,hd,vs,_,dd⟩:=nv I.hok e;refine⟨dd.typeIs,λb q=>?_,hd⟩;cases q;obtain⟨ob,_,_,h1,h2,_⟩:=dd;exact⟨ob,h1,h2.2.1⟩
 .obtain ⟨_,hd,xs,_,dd⟩:=nj I.hok e;refine⟨dd.typeIs,λb q=>?_,hd⟩;cases q;obtain⟨ob,_,_,h1,h2,_⟩:=dd;exact⟨ob,h1,h2.2.1⟩
section
variable{X:Cx}{pins:List (Addr×Obj)}{σ:St}{H:Hp}{s:Shared}{a:Addr}{y d:V}{u r:Value}{o:Option V}{A:Around}{E:Value->Shared->Prop}
theorem XX{Q:Value->Shared->Prop}(hu:A.units+1<cLine)(I:Inv X pins σ H s)(g:e8 H a y o)(ry:RelV y u)(rd:RelV d r)(h:∀w' s',Inv X pins σ H s'->RelV (o.getD d) w'->Q w' s') :
  wpAny (model X.prog X.w) A (call (.builtin "dict.get") [.ref a,u,r]) Q E s:=by
 rcases g with⟨kvs,k,e,ey,l⟩|⟨kvs,k,b,e,ey,eb,l⟩
 .subst ey;obtain⟨z,hd,vs,rel,dd⟩:=nv I.hok e;refine call_meetsIn aba dd.typeIs PySem.F.entry_dict_get (PySem.F.args_dict_get_3 _ _ _) (meets_dict_get_default (Zy X.prog X.w) a (kW ry) hd r) ⟨_,dd.mapOf,h _ _ (I.tok _) ?_⟩;rw[l];exact(rel.val k).getD rd
 .subst ey;cases(show u=Value.ref b from ry);obtain⟨z,hd,xs,rel,dd⟩:=nj I.hok e;refine call_meetsIn aba dd.typeIs PySem.F.entry_dict_get (PySem.F.args_dict_get_3 _ _ _) (meetsH_dict_get_default (tupleKind (Zy X.prog X.w)) a b hd r) ⟨awI hu,k,xs,Hw I.hok eb,dd,h _ _ (I.tok _) ?_⟩;rw[l];exact(rel.val k).getD rd
end
def XW(td ty tx:TE):TE:=λσ H Q=>td σ H λx H1=>∃a,x=.ref a/\KC H1 a/\ty σ H1 λy H2=>tx σ H2 λz H3=>∃o,e8 H3 a y o/\Q (o.getD z) H3
def XU(td ty:TE):TE:=λσ H Q=>td σ H λx H1=>∃a,x=.ref a/\KC H1 a/\ty σ H1 λy H2=>∃kvs k v,H2 a=some (.dK kvs)/\y=kV k/\aV kvs k=some v/\Q v (upd H2 a (.dK (aX kvs k)))
def XT(td ty tx:TE):TE:=λσ H Q=>td σ H λx H1=>∃a,x=.ref a/\KC H1 a/\ty σ H1 λy H2=>tx σ H2 λz H3=>∃kvs k,H3 a=some (.dK kvs)/\y=kV k /\
 (∀v,aV kvs k=some v->Q v (upd H3 a (.dK (aX kvs k))))/\(aV kvs k=none->Q z H3)
section
variable{X:Cx}{o e f:Expr}{apos cpos:Pos}{td ty tx:TE}
theorem ZhO(hu:X.A.units+1<cLine)(ho:PE X o td)(he:PE X e ty)(hf:PE X f tx)(m:M2 X o "get" apos e f cpos):PE X (.Call (.Attribute o "get" apos) [e,f] [] cpos) (XW td ty tx):=by
 intro pins s σ H Q I h;refine wpAny_Call_method m.base m.few m.line aWT aba PySem.F.type_dict_get (bZ (ho pins s σ H _ I h) λu s1 ⟨x,H1,I1,rx,a,ex,d,q1⟩=>?_);subst ex;obtain rfl:u=Value.ref a:=rx;obtain⟨t1,t2,_⟩:=JO I1 d;refine⟨t1,t2,?_⟩;rw[m.trees];refine asf rfl (aAg (aid (fB (he pins s1 σ H1 _ I1 q1) λiv s2 y H2 I2 ry q2=>
  aid (bZ (hf pins s2 σ H2 _ I2 q2) λfv s3 ⟨z,H3,I3,rz,ov,g,q3⟩=>aem ?_))))
 exact XX hu I3 g ry rz λw' s4 I4 rw'=>⟨_,H3,I4,rw',q3⟩
theorem NJ(ho:PE X o td)(he:PE X e ty)(m:M1 X o "pop" apos e cpos):PE X (.Call (.Attribute o "pop" apos) [e] [] cpos) (XU td ty):=by
 intro pins s σ H Q I h;refine wpAny_Call_method m.base m.few m.line aWT aKy PySem.F.type_dict_pop (bZ (ho pins s σ H _ I h) λu s1 ⟨x,H1,I1,rx,a,ex,d,q1⟩=>?_);subst ex;obtain rfl:u=Value.ref a:=rx;obtain⟨t1,t2,_⟩:=JO I1 d;refine⟨t1,t2,?_⟩;rw[m.trees];refine asf rfl (aAg (aid (bZ (he pins s1 σ H1 _ I1 q1) λiv s2 ⟨y,H2,I2,ry,kvs,k,v,ea,ey,l,q2⟩=>aem ?_)));subst ey;exact Be I2 ea ry l (.inl rfl) λw' s3 I3 rw'=>⟨v,_,I3,rw',q2⟩
theorem Sl(ho:PE X o td)(he:PE X e ty)(hf:PE X f tx)(m:M2 X o "pop" apos e f cpos):PE X (.Call (.Attribute o "pop" apos) [e,f] [] cpos) (XT td ty tx):=by
 intro pins s σ H Q I h;refine wpAny_Call_method m.base m.few m.line aWT aKy PySem.F.type_dict_pop (bZ (ho pins s σ H _ I h) λu s1 ⟨x,H1,I1,rx,a,ex,d,q1⟩=>?_);subst ex;obtain rfl:u=Value.ref a:=rx;obtain⟨t1,t2,_⟩:=JO I1 d;refine⟨t1,t2,?_⟩;rw[m.trees];refine asf rfl (aAg (aid (fB (he pins s1 σ H1 _ I1 q1) λiv s2 y H2 I2 ry q2=>
  aid (bZ (hf pins s2 σ H2 _ I2 q2) λfv s3 ⟨z,H3,I3,rz,kvs,k,ea,ey,q3,q4⟩=>aem ?_))))
 subst ey;cases l:aV kvs k with
 |some v=>exact Be I3 ea ry l (.inr ⟨fv,rfl⟩) λw' s4 I4 rw'=>⟨v,_,I4,rw',q3 v l⟩
 |none=>exact XZ I3 ea ry l λs4 I4=>⟨z,H3,I4,rz,q4 l⟩
end
section
variable{κ:Type}[DecidableEq κ]
theorem Ea:∀{l:List κ}{k:κ},l.Nodup->¬k∈l->(l++[k]).Nodup
 | [],k,_,_=>by simp
 |a ::r,k,h,hk=>by
  obtain⟨h1,h2⟩:=baB.mp h;show(a ::(r++[k])).Nodup;refine baB.mpr ⟨λm=>?_,Ea h2 λm=>hk (baL.mpr (Or.inr m))⟩;rcases aaI.mp m with q|q
  .exact h1 q
  .exact hk (baL.mpr (Or.inl (apU.mp q).symm))
theorem Zgj{p:κ×V}{r:List (κ×V)}{k:κ}(e:p.1=k):aX (p ::r) k=aX r k:=by
 unfold aX;rw[aNg,afn (by simp[e])]
theorem Zgk{p:κ×V}{r:List (κ×V)}{k:κ}(e:¬p.1=k):aX (p ::r) k=p ::aX r k:=by
 unfold aX;rw[aNg,aaU (by simp[e])]
end
theorem Sk{P:Program}{w:World}{k:Key}{u:Value}(h:(Zy P w).is k u=true):RelV (kV k) u:=by
 rw[Zff]at h;rcases ZA h with⟨i,t,rfl,rfl⟩|⟨x,t,rfl,rfl⟩
 .exact ⟨t,rfl⟩
 .exact ⟨t,rfl⟩
structure Src(P0:Program)(w0:World)(it l:Addr)(its:Array Value)(pos:Nat->Heap->Prop)(sq:Heap->Prop):Prop where
 item:∀{A0:Around}{E0:Value->Shared->Prop}{t:Shared}{i:Nat}{x:Value}{Q0:Value->Shared->Prop},pos i t.heap->sq t.heap->its[i]?=some x->(∀g,pos (i+1) g->Heap.SameBut it t.heap g->Q0 x { t with heap:=g })->wpAny (model P0 w0) A0 (Builtin.SmallTypes.nextOf (.ref it)) Q0 E0 t
 stop:∀{A0:Around}{E0:Value->Shared->Prop}{t:Shared}{i:Nat}{Q0:Value->Shared->Prop},A0.handled=none->pos i t.heap->sq t.heap->its[i]?=none->(∀g e,Heap.ExtBut it t.heap g->(∃o,g.get? e=some o/\o.cls=.type "StopIteration")->E0 (.ref e) { t with heap:=g })->wpAny (model P0 w0) A0 (Builtin.SmallTypes.nextOf (.ref it)) Q0 E0 t
 jq:∀{i:Nat}{g g':Heap},pos i g->(∀o,g.get? it=some o->g'.get? it=some o)->pos i g'
 tE:∀{g g':Heap},sq g->(∀o,g.get? l=some o->g'.get? l=some o)->sq g'
 obj:∀{i:Nat}{g:Heap},pos i g->∃o,g.get? it=some o/\∀v,o.data≠.cell v
section
variable{P0:Program}{w0:World}{A0:Around}{E0:Value->Shared->Prop}{t:Shared}
theorem ZdC{it a:Addr}{i:Nat}{its:Array Value}{x:Value}{Q0:Value->Shared->Prop}(st:t.heap.IsTupleIter it a i)(tp:t.heap.IsTuple a its)(hx:its[i]?=some x)
  (k:∀g,g.IsTupleIter it a (i+1)->Heap.SameBut it t.heap g->Q0 x { t with heap:=g }):wpAny (model P0 w0) A0 (Builtin.SmallTypes.nextOf (.ref it)) Q0 E0 t:=by
 obtain⟨oi,gi,ci,di⟩:=id st;obtain⟨oa,ga,_,n,da⟩:=tp;unfold Builtin.SmallTypes.nextOf;refine asu (auj (name:=Str.ofString "__next__") st.typeIs afG (ajI afG st.typeIs F.entry_tuple_iterator_next ?_ (F.args_tuple_iterator_next_1 _)));show wpAny _ _ (field (.ref it) 0 >>=_) _ _ t;refine asu (aQj gi di (x:=.ref a) rfl ?_);show wpAny _ _ (if(Value.ref a ==Value.none)=true then _ else _) _ _ t;rw[afn (show ¬((Value.ref a ==Value.none)=true) from a7q)];show wpAny _ _ (field (.ref it) 1 >>=_) _ _ t;refine asu (aQj gi di (x:=.int i 0) rfl ?_);show wpAny _ _ (seqItems? (.ref a) >>=_) _ _ t;refine asu (arL ga da ?_);simp only[hx,Int.toNat_natCast];refine asu (wpAny_setField gi di (by simp) (aJq ⟨x,rfl,aJq (k _ ⟨_,Heap.get?_update_self _ gi (Obj.isFreed_of_fields (Obj.data_mapFields di _)),(Obj.cls_mapFields ..).trans ci,?_⟩ (Heap.SameBut.update ..))⟩));rw[Obj.data_mapFields di];simp[rawInt]
theorem ZdD{it a:Addr}{i:Nat}{its:Array Value}{Q0:Value->Shared->Prop}(hA:A0.handled=none)(st:t.heap.IsTupleIter it a i)(tp:t.heap.IsTuple a its)(hx:its[i]?=none)
  (k:∀g e,Heap.ExtBut it t.heap g->(∃o,g.get? e=some o/\o.cls=.type "StopIteration")->E0 (.ref e) { t with heap:=g }):wpAny (model P0 w0) A0 (Builtin.SmallTypes.nextOf (.ref it)) Q0 E0 t:=by
 obtain⟨oi,gi,ci,di⟩:=id st;obtain⟨oa,ga,_,n,da⟩:=tp;unfold Builtin.SmallTypes.nextOf;refine asu (auj (name:=Str.ofString "__next__") st.typeIs afG (ajI afG st.typeIs F.entry_tuple_iterator_next ?_ (F.args_tuple_iterator_next_1 _)));show wpAny _ _ (field (.ref it) 0 >>=_) _ _ t;refine asu (aQj gi di (x:=.ref a) rfl ?_);show wpAny _ _ (if(Value.ref a ==Value.none)=true then _ else _) _ _ t;rw[afn (show ¬((Value.ref a ==Value.none)=true) from a7q)];show wpAny _ _ (field (.ref it) 1 >>=_) _ _ t;refine asu (aQj gi di (x:=.int i 0) rfl ?_);show wpAny _ _ (seqItems? (.ref a) >>=_) _ _ t;refine asu (arL ga da ?_);simp only[hx,Int.toNat_natCast];refine asu (ajd (asu (wpAny_setField gi di (by simp) ?_)));show wpAny _ _ (newExc (.type "StopIteration") [] >>=_) _ _ _;refine asu ?_;simp only[newTuple,newExc];refine asu (a6N (asu (m:=firstArgMember _ _) (wpAny_of_eq (a:=Value.none) (by first|rfl|(simp only[firstArgMember];rfl)) (a6N ?_ (by size_fits)))) (by size_fits));simp only[raiseNew];refine asu (wpAny_handled ?_)
 first|rw[show A0.in1.handled=none from hA]|rw[hA]
 exact asu (aJq (wpAny_throw (k _ _ (((Heap.SameBut.update ..).extBut.push _).push _) ⟨_,arT _ rfl,rfl⟩)))
end
theorem HP{h:Heap}{it l:Addr}{i:Nat}(x:h.IsTupleIter it l i):∃o,h.get? it=some o/\∀v,o.data≠.cell v:=by
 obtain⟨o,e,c,d⟩:=x;exact⟨o,e,λv z=>by rw[d]at z;cases z⟩
theorem JZ{P0:Program}{w0:World}(it l:Addr)(its:Array Value):Src P0 w0 it l its (λi h=>h.IsTupleIter it l i) (λh=>h.IsTuple l its) where
 item:=λa b c d=>ZdC a b c d
 stop:=λa b c d e=>ZdD a b c d e
 jq:=λa b=>a.at b
 tE:=λa b=>by obtain⟨o,e,r⟩:=a;exact⟨o,b o e,r⟩
 obj:=λa=>HP a
section
variable{P0:Program}{w0:World}{A0:Around}{E0:Value->Shared->Prop}{t:Shared}{z TI TO ia ib la lb:Addr}{p1 p2:Nat->Heap->Prop}{q1 q2:Heap->Prop}{xs ys:Array Value}
theorem Zgl{k:Nat}{x y u v:Value}{Q0:Value->Shared->Prop}(S1:Src P0 w0 ia la xs p1 q1)(S2:Src P0 w0 ib lb ys p2 q2)(D:ZipApart z TI TO ia ib la lb)
  (zz:IsZip t.heap z TI TO .none) (zI:IsPair t.heap TI (.ref ia) (.ref ib)) (zO:IsPair t.heap TO u v) (a1:p1 k t.heap) (a2:p2 k t.heap) (b1:q1 t.heap) (b2:q2 t.heap) (hx:xs[k]?=some x) (hy:ys[k]?=some y)
  (fin:∀g,IsZip g z TI TO (rawInt t.heap.objs.size)->IsPair g TO x y->p1 (k+1) g->p2 (k+1) g->IsPair g t.heap.objs.size x y->g.objs.size=t.heap.objs.size+1 ->
   (∀c o,c≠z->c≠TO->c≠ia->c≠ib->t.heap.get? c=some o->g.get? c=some o)->Q0 (.ref t.heap.objs.size) { t with heap:=g }) :
  wpAny (model P0 w0) A0 (Builtin.«zip.__next__» ⟨[.ref z],[]⟩) (λf s'=>∃v,f=.done (.ret v)/\Q0 v s') E0 t:=by
 show wpAny _ _ (field (.ref z) 2 >>=_) _ _ _;refine asu (aQj zz rfl (x:=.bool false) rfl ?_);show wpAny _ _ (field (.ref z) 3 >>=_) _ _ _;refine asu (aQj zz rfl (x:=.ref TI) rfl (asu (arL zI rfl ?_)));show wpAny _ _ (Builtin.SmallTypes.ownedTupleIsFree (.ref z) >>=_) _ _ _;refine asu ?_;unfold Builtin.SmallTypes.ownedTupleIsFree;refine asu (aQj zz rfl (x:=.none) rfl (aJq ?_));simp only[a6Z];refine asu (ajd (asu (aQj zz rfl (x:=.ref TO) rfl (asu (aY1 zz (by simp) λg1 z1 c1=>?_)))))
 replace z1:IsZip g1 z TI TO .ellipsis:=z1
 refine asu ?_;simp only[agA,List.forIn_nil,List.zipIdx_cons,List.zipIdx_nil];refine asu (asu (wpAny_onRaise ?_));show wpAny _ _ (Builtin.SmallTypes.nextOf (.ref ia) >>=_) _ _ _;refine asu (S1.item (S1.jq a1 λo e=>c1.extBut _ o D.i1z e) (S1.tE b1 λo e=>c1.extBut _ o D.l1z e) hx λg2 XN c2=>aJq ?_);have o2:IsPair g2 TO u v:=c2.extBut _ _ D.TOi1 (c1.extBut _ _ D.TOz zO);refine asu (arL o2 rfl (asu (wpAny_updateSeq_pair o2 λg3 o3 c3=>?_)))
 replace o3:IsPair g3 TO x v:=o3
 refine asu (wpAny_letGo (aJq ?_));refine asu (asu (wpAny_onRaise ?_));show wpAny _ _ (Builtin.SmallTypes.nextOf (.ref ib) >>=_) _ _ _;have m3:∀c o,c≠z->c≠ia->c≠TO->t.heap.get? c=some o->g3.get? c=some o:=λc o n1 n2 n3 e=>c3.extBut _ _ n3 (c2.extBut _ _ n2 (c1.extBut _ _ n1 e));refine asu (S2.item (S2.jq a2 λo e=>m3 _ o D.i2z D.i12.symm D.TOi2.symm e) (S2.tE b2 λo e=>m3 _ o D.l2z D.l2i1 D.l2TO e) hy λg4 XJ c4=>aJq ?_);have o4:IsPair g4 TO x v:=c4.extBut _ _ D.TOi2 o3;refine asu (arL o4 rfl (asu (wpAny_updateSeq_pair o4 λg5 o5 c5=>?_)))
 replace o5:IsPair g5 TO x y:=o5
 refine asu (wpAny_letGo (aJq (aJq ?_)));refine asu (arL o5 rfl (asu (wpAny_newTuple ?_)));have sz:g5.objs.size=t.heap.objs.size:=by rw[c5.1,c4.1,c3.1,c2.1,c1.1]
 have m5:∀c o,c≠z->c≠TO->c≠ia->c≠ib->t.heap.get? c=some o->g5.get? c=some o:=λc o n1 n2 n3 n4 e=>c5.extBut _ _ n2 (c4.extBut _ _ n4 (m3 c o n1 n3 n2 e));have z5:IsZip g5 z TI TO .ellipsis:=c5.extBut _ _ D.TOz.symm (c4.extBut _ _ D.i2z.symm (c3.extBut _ _ D.TOz.symm (c2.extBut _ _ D.i1z.symm z1)));have XM:p1 (k+1) g5:=S1.jq XN λo e=>c5.extBut _ o D.TOi1.symm (c4.extBut _ o D.i12 (c3.extBut _ o D.TOi1.symm e));have XI:p2 (k+1) g5:=S2.jq XJ λo e=>c5.extBut _ o D.TOi2.symm e;have N9:z<g5.objs.size:=aYz z5;show wpAny _ _ (Builtin.SmallTypes.ownedTupleHandOut (.ref z) (.ref g5.objs.size) >>=_) _ _ _;refine asu ?_;unfold Builtin.SmallTypes.ownedTupleHandOut;have z6:IsZip (g5.push { cls:=.type "tuple",data:=.seq #[x,y] }) z TI TO .ellipsis:=a8r _ z5;refine asu (aY1 z6 (by simp) λg7 z7 c7=>?_)
 replace z7:IsZip g7 z TI TO (rawInt g5.objs.size):=z7
 refine aY1 z7 (by simp) λg8 z8 c8=>?_
 replace z8:IsZip g8 z TI TO (rawInt g5.objs.size):=z8
 have m8:∀c o,c≠z->g5.get? c=some o->g8.get? c=some o:=λc o n1 e=>c8.extBut _ _ n1 (c7.extBut _ _ n1 (a8r _ e));have t8:IsPair g8 g5.objs.size x y:=c8.extBut _ _ (aVo N9) (c7.extBut _ _ (aVo N9) (arT _ rfl));have s8:g8.objs.size=g5.objs.size+1:=by rw[c8.1,c7.1,aC3]
 rw[sz]at z8 t8 s8;refine aJq ⟨_,rfl,?_⟩;show Q0 (.ref g5.objs.size) _;rw[sz];exact fin g8 z8 (m8 _ _ D.TOz o5) (S1.jq XM λo e=>m8 _ o D.i1z e) (S2.jq XI λo e=>m8 _ o D.i2z e) t8 s8 λc o n1 n2 n3 n4 e=>m8 c o n1 (m5 c o n1 n2 n3 n4 e)
theorem Zgm{k:Nat}{u v:Value}{Q0:Fin->Shared->Prop}(hA:A0.handled=none)(S1:Src P0 w0 ia la xs p1 q1)(S2:Src P0 w0 ib lb ys p2 q2)(D:ZipApart z TI TO ia ib la lb)
  (zz:IsZip t.heap z TI TO .none) (zI:IsPair t.heap TI (.ref ia) (.ref ib)) (zO:IsPair t.heap TO u v) (a1:p1 k t.heap) (b1:q1 t.heap) (hx:xs[k]?=none)
  (fin:∀g e,(∀c o,c≠z->c≠TO->c≠ia->c≠ib->t.heap.get? c=some o->g.get? c=some o)->(∃o,g.get? e=some o/\o.cls=.type "StopIteration")->E0 (.ref e) { t with heap:=g }) :
  wpAny (model P0 w0) A0 (Builtin.«zip.__next__» ⟨[.ref z],[]⟩) Q0 E0 t:=by
 show wpAny _ _ (field (.ref z) 2 >>=_) _ _ _;refine asu (aQj zz rfl (x:=.bool false) rfl ?_);show wpAny _ _ (field (.ref z) 3 >>=_) _ _ _;refine asu (aQj zz rfl (x:=.ref TI) rfl (asu (arL zI rfl ?_)));show wpAny _ _ (Builtin.SmallTypes.ownedTupleIsFree (.ref z) >>=_) _ _ _;refine asu ?_;unfold Builtin.SmallTypes.ownedTupleIsFree;refine asu (aQj zz rfl (x:=.none) rfl (aJq ?_));simp only[a6Z];refine asu (ajd (asu (aQj zz rfl (x:=.ref TO) rfl (asu (aY1 zz (by simp) λg1 z1 c1=>?_)))))
 replace z1:IsZip g1 z TI TO .ellipsis:=z1
 refine asu ?_;simp only[agA,List.forIn_nil,List.zipIdx_cons,List.zipIdx_nil];refine asu (asu (wpAny_onRaise ?_));show wpAny _ _ (Builtin.SmallTypes.nextOf (.ref ia) >>=_) _ _ _;refine asu (S1.stop hA (S1.jq a1 λo e=>c1.extBut _ o D.i1z e) (S1.tE b1 λo e=>c1.extBut _ o D.l1z e) hx λg2 e c2 he=>?_);obtain⟨oe,Ms,ce⟩:=he;have z2:IsZip g2 z TI TO .ellipsis:=c2 _ _ D.i1z.symm z1;have ne:e≠z:=λq=>by rw[q,z2]at Ms;cases Ms;simp at ce
 exact aY1 z2 (by simp) λg3 _ c3=>fin g3 e (λc o n1 _ n3 _ q=>c3.extBut _ _ n1 (c2 _ _ n3 (c1.extBut _ _ n1 q))) ⟨oe,c3.extBut _ _ ne Ms,ce⟩
theorem ZdE{k:Nat}{x y u v:Value}{Q0:Option Value->Shared->Prop}(S1:Src P0 w0 ia la xs p1 q1)(S2:Src P0 w0 ib lb ys p2 q2)(D:ZipApart z TI TO ia ib la lb)
  (zz:IsZip t.heap z TI TO .none) (zI:IsPair t.heap TI (.ref ia) (.ref ib)) (zO:IsPair t.heap TO u v) (a1:p1 k t.heap) (a2:p2 k t.heap) (b1:q1 t.heap) (b2:q2 t.heap) (hx:xs[k]?=some x) (hy:ys[k]?=some y)
  (fin:∀g,IsZip g z TI TO (rawInt t.heap.objs.size)->IsPair g TO x y->p1 (k+1) g->p2 (k+1) g->IsPair g t.heap.objs.size x y->g.objs.size=t.heap.objs.size+1 ->
   (∀c o,c≠z->c≠TO->c≠ia->c≠ib->t.heap.get? c=some o->g.get? c=some o)->Q0 (some (.ref t.heap.objs.size)) { t with heap:=g }):wpAny (model P0 w0) A0 (pyNext (.ref z)) Q0 E0 t:=by
 have ty:t.TypeIs (.ref z) "zip":=⟨_,zz,rfl⟩;unfold pyNext;exact asu (wpAny_attempt (auj (name:=Str.ofString "__next__") ty F.slot_zip_next (ajI F.slot_zip_next ty F.entry_zip_next (Zgl S1 S2 D zz zI zO a1 a2 b1 b2 hx hy λg r1 r2 r3 r4 r5 r6 r7=>aJq (fin g r1 r2 r3 r4 r5 r6 r7)) (F.args_zip_next_1 _))))
theorem ZdF{k:Nat}{u v:Value}{Q0:Option Value->Shared->Prop}(hA:A0.handled=none)(S1:Src P0 w0 ia la xs p1 q1)(S2:Src P0 w0 ib lb ys p2 q2)(D:ZipApart z TI TO ia ib la lb)
  (zz:IsZip t.heap z TI TO .none) (zI:IsPair t.heap TI (.ref ia) (.ref ib)) (zO:IsPair t.heap TO u v) (a1:p1 k t.heap) (b1:q1 t.heap) (hx:xs[k]?=none)
  (fin:∀g,(∀c o,c≠z->c≠TO->c≠ia->c≠ib->t.heap.get? c=some o->g.get? c=some o)->Q0 none { t with heap:=g }):wpAny (model P0 w0) A0 (pyNext (.ref z)) Q0 E0 t:=by
 have ty:t.TypeIs (.ref z) "zip":=⟨_,zz,rfl⟩;unfold pyNext;refine asu (wpAny_attempt (auj (name:=Str.ofString "__next__") ty F.slot_zip_next (ajI F.slot_zip_next ty F.entry_zip_next (Zgm hA S1 S2 D zz zI zO a1 b1 hx λg e kp he=>?_) (F.args_zip_next_1 _))));obtain⟨oe,ge,ce⟩:=he;exact asu (wpAny_isInstance (T:="StopIteration") (b:=true) ⟨oe,ge,ce⟩ isSubtype_stop (aJq (fin _ kp)))
end
abbrev Iz(h:Heap)(a:Addr):Heap:=h.push { cls:=.type "tuple_iterator",data:=.fields #[.ref a,.int 0 0] }
abbrev Iw(h:Heap)(a b:Addr):Heap:=(Iz h a).push { cls:=.type "tuple_iterator",data:=.fields #[.ref b,.int 0 0] }
abbrev Iv(h:Heap)(a b:Addr):Heap:=(Iw h a b).push { cls:=.type "tuple",data:=.seq #[.ref h.objs.size,.ref (Iz h a).objs.size] }
abbrev Iu(h:Heap)(a b:Addr):Heap:=(Iv h a b).push { cls:=.type "tuple",data:=.seq #[.none,.none] }
abbrev Dv(h:Heap)(a b:Addr):Heap:=(Iu h a b).push { cls:=.type "zip",data:=.fields #[.none,.bool false,.bool false,.ref (Iw h a b).objs.size,.ref (Iv h a b).objs.size] }
theorem Zfu(a b:Addr)(xs ys:Array Value) :
  Meets (Builtin.«zip.__new__» ⟨[.type "zip",.ref a,.ref b],[]⟩) (λ_ R s=>s.heap.IsTuple a xs/\s.heap.IsTuple b ys/\R (.ok (.ret (.ref (Iu s.heap a b).objs.size))) { s with heap:=Dv s.heap a b }):=
 .of_wp λP0 w0 A0 R t h=>by
  obtain⟨hp,gn,dr,tk,os⟩:=t;obtain⟨ta,tb,h⟩:=h;have sub:=sub_zip;have qa:Heap.IsTuple (Shared.heap ⟨hp,gn,dr,tk,os⟩) a xs:=ta;have qb:Heap.IsTuple (Shared.heap ⟨hp.push { cls:=.type "tuple_iterator",data:=.fields #[.ref a,.int 0 0] },gn,dr,tk,os⟩) b ys:=Heap.IsTuple.push tb _
  wp_walk using wpAny_pyIter_tuple qa,wpAny_pyIter_tuple qb
  exact⟨_,rfl,h⟩
theorem Zgn{P0:Program}{w0:World}{A0:Around}{E0:Value->Shared->Prop}{t:Shared}{a b:Addr}{xs ys:Array Value}{Q0:Value->Shared->Prop}(ta:t.heap.IsTuple a xs)(tb:t.heap.IsTuple b ys)
  (h:∀g,IsZip g (t.heap.objs.size+4) (t.heap.objs.size+2) (t.heap.objs.size+3) .none->IsPair g (t.heap.objs.size+2) (.ref t.heap.objs.size) (.ref (t.heap.objs.size+1))->IsPair g (t.heap.objs.size+3) .none .none ->
   g.IsTupleIter t.heap.objs.size a 0->g.IsTupleIter (t.heap.objs.size+1) b 0->(∀c o,t.heap.get? c=some o->g.get? c=some o)->Q0 (.ref (t.heap.objs.size+4)) { t with heap:=g }) :
  wpAny (model P0 w0) A0 (call (.type "zip") [.ref a,.ref b]) Q0 E0 t:=by
 refine callType_new F.called_zip (by decide) (F.typeCall_zip_2 _ _) (F.newCall_zip_2 _ _) (λobj=>F.args_object_init_3 obj _ _) F.entry_zip_new (Zfu a b xs ys) ⟨ta,tb,?_⟩;have n1:(Iz t.heap a).objs.size=t.heap.objs.size+1:=aC3 ..;have n2:(Iw t.heap a b).objs.size=t.heap.objs.size+2:=by rw[aC3,n1]
 have n3:(Iv t.heap a b).objs.size=t.heap.objs.size+3:=by rw[aC3,n2]
 have n4:(Iu t.heap a b).objs.size=t.heap.objs.size+4:=by rw[aC3,n3]
 have r5:(Dv t.heap a b).get? (Iu t.heap a b).objs.size=some _:=arT _ rfl;have r4:(Dv t.heap a b).get? (Iv t.heap a b).objs.size=some _:=a8r _ (arT _ rfl);have r3:(Dv t.heap a b).get? (Iw t.heap a b).objs.size=some _:=a8r _ (a8r _ (arT _ rfl));have r2:(Dv t.heap a b).get? (Iz t.heap a).objs.size=some _:=a8r _ (a8r _ (a8r _ (arT _ rfl)));have r1:(Dv t.heap a b).get? t.heap.objs.size=some _:=a8r _ (a8r _ (a8r _ (a8r _ (arT _ rfl))));show _/\_;rw[n2,n3,n4]at r5;rw[n1,n2]at r3;rw[n3]at r4;rw[n1]at r2;rw[n4];refine⟨⟨_,r5,rfl⟩,h _ r5 r3 r4 ⟨_,r1,rfl,rfl⟩ ⟨_,r2,rfl,rfl⟩ λc o q=>?_⟩
 iterate 5 refine a8r _ ?_
 exact q
def yf(K:W.Frag)(a b:Addr):It:=
 ⟨λi H=>∃xs ys x y,aU K H a xs/\aU K H b ys/\xs[i]?=some x/\ys[i]?=some y,
 λi H v H'=>∃t x y,H t=none/\v=.ref t/\H'=upd H t (.tup [x,y])/\(∀xs,aU K H a xs->xs[i]?=some x)/\∀ys,aU K H b ys->ys[i]?=some y,
 λi H=>∃xs,aU K H a xs/\(∃ys,aU K H b ys)/\xs.length<=i⟩
theorem Zgo{P:Program}{w:World}{K:W.Frag}{elts:List PySem.Expr}{x1}{pos:Pos}(z TI TO i1 i2 a b:Addr)(D:ZipApart z TI TO i1 i2 a b) :
  Turn P w K (.Tuple elts x1 pos) (yf K a b) [z,TI,TO,i1,i2] z (λi h=>IsZip h z TI TO .none/\IsPair h TI (.ref i1) (.ref i2)/\(∃u v,IsPair h TO u v)/\h.IsTupleIter i1 a i/\h.IsTupleIter i2 b i) where
 mem:=by simp
 obj:=λi h st c hc=>by
  obtain⟨hz,hTI,⟨u,v,hTO⟩,h1,h2⟩:=st;simp only[a9e,a7K,a9R]at hc;rcases hc with rfl|rfl|rfl|rfl|rfl
  .exact ⟨_,hz,λv e=>by cases e⟩
  .exact ⟨_,hTI,λv e=>by cases e⟩
  .exact ⟨_,hTO,λv e=>by cases e⟩
  .exact HP h1
  .exact HP h2
 keep:=λi h h' st k=>by
  obtain⟨hz,hTI,⟨u,v,hTO⟩,h1,h2⟩:=st;exact⟨k z (by simp) _ hz,k TI (by simp) _ hTI,⟨u,v,k TO (by simp) _ hTO⟩,h1.at λo e=>k i1 (by simp) o e,h2.at λo e=>k i2 (by simp) o e⟩
 item:=by
  intro X hP hw hK hc i pins s σ H E I hf st hg;subst hP hw hK;obtain⟨xs,ys,x,y,rP,rO,hx,hy⟩:=hg;obtain⟨hz,hTI,⟨u0,v0,hTO⟩,h1,h2⟩:=st;obtain⟨kX,ra,pa,za⟩:=I.tuple rP;obtain⟨lY,rb,pb,zb⟩:=I.tuple rO;obtain⟨ux,hux,Ld⟩:=ra.get hx;obtain⟨uy,L6,Lc⟩:=rb.get hy;refine ZdE (JZ i1 a kX.toArray) (JZ i2 b lY.toArray) D hz hTI hTO h1 h2 (show s.heap.IsTuple a kX.toArray from pa) (show s.heap.IsTuple b lY.toArray from pb) (x:=ux) (y:=uy) (by simpa using hux) (by simpa using L6) λh' a1 a2 a3 a4 a5 a6 a7=>?_;refine⟨.ref s.heap.objs.size,rfl,?_⟩;refine wpAny_letOwnedTupleGo_zip a1 λh2' hz' hs'=>?_;have xu:z<s.heap.objs.size:=aYz hz;have kk:∀c o,c∉[z,TI,TO,i1,i2]->s.heap.get? c=some o->h2'.get? c=some o:=λc o hc e=>by
   simp only[a9e,a7K,a9R,not_or]at hc;exact hs'.extBut c o hc.1 (a7 c o hc.1 hc.2.2.1 hc.2.2.2.1 hc.2.2.2.2 e)
  have tp:h2'.get? s.heap.objs.size=some { cls:=.type "tuple",data:=.seq #[ux,uy] }:=hs'.extBut _ _ (aVo xu) a5;have I1:Inv X pins σ (upd H s.heap.objs.size (.tup [x,y])) { s with heap:=h2',toks:=s.toks }:=
   I.rN hf kk ⟨by show 2<=sizeLine;decide,[ux,uy],.cons Ld (.cons Lc .nil),⟨_,tp,rfl,_,rfl⟩⟩
  have NW:h2'.get? TI=s.heap.get? TI:=by
   rw[hTI];exact hs'.extBut _ _ D.TIz (a7 _ _ D.TIz D.TITO D.TIi1 D.TIi2 hTI)
  refine⟨.ref s.heap.objs.size,_,I1,rfl,⟨s.heap.objs.size,x,y,I.hok.fresh (ags _),rfl,rfl,λxs' h=>by rw[I.fh h rP];exact hx,λys' h=>by rw[I.fh h rO];exact hy⟩,⟨hz',?_,⟨ux,uy,hs'.extBut _ _ D.TOz a2⟩,a3.at λo e=>hs'.extBut _ o D.i1z e,a4.at λo e=>hs'.extBut _ o D.i2z e⟩,λc hc=>?_⟩
  .show h2'.get? TI=_;rw[NW];exact hTI
  .have hc':=hc;have hlt:c<s.heap.objs.size:=by
    simp only[a9e,a7K,a9R]at hc';rcases hc' with rfl|rfl|rfl|rfl|rfl
    .exact xu
    .exact aYz hTI
    .exact aYz hTO
    .obtain ⟨o,e,_⟩:=HP h1;exact aYz e
    .obtain ⟨o,e,_⟩:=HP h2;exact aYz e
   rw[Zc (ar8 hlt)];exact(hf c hc).1
 done:=by
  intro X hP hw hK hc i pins s σ H E I hf st hg;subst hP hw hK;obtain⟨xs,rP,⟨ys,rO⟩,hend⟩:=hg;obtain⟨hz,hTI,⟨u0,v0,hTO⟩,h1,h2⟩:=st;obtain⟨kX,ra,pa,za⟩:=I.tuple rP;obtain⟨lY,rb,pb,zb⟩:=I.tuple rO;have la:=ra.length;refine ZdF (I.ok.hd hc) (JZ i1 a kX.toArray) (JZ i2 b lY.toArray) D hz hTI hTO h1 (show s.heap.IsTuple a kX.toArray from pa) (by simp;lia) λh' hk=>⟨rfl,?_⟩;refine I.jZ (t':=s.toks) hf λc o hc e=>?_;simp only[a9e,a7K,a9R,not_or]at hc;exact hk c o hc.1 hc.2.2.1 hc.2.2.2.1 hc.2.2.2.2 e
 self:=λ_ _ _ _ _ st h=>aAV st.1 h
def Gq(K:W.Frag)(ta:TA):TI:=λσ H R=>ta σ H λvs H1=>∃a b,vs=[.ref a,.ref b]/\((∃xs ys,az K H1 a xs/\az K H1 b ys/\R (Ad K a b) H1)\/∃xs ys,aU K H1 a xs/\aU K H1 b ys/\R (yf K a b) H1)
section
variable{X:Cx}
theorem YU{elts:List PySem.Expr}{x1}{tpos:Pos}{a b:PySem.Expr}{ta:TA}{p pos:Pos}(hg:Gl X "zip")(hm:X.mg "zip"=none)(ha:PA X [a,b] ta)(hs:starEach [a,b] X.env=[(false,eval a X.env),(false,eval b X.env)]:=by rfl)(hs2:starEach [b] X.env=[(false,eval b X.env)]:=by rfl) :
  PI X (.Tuple elts x1 tpos) (.Call (.Name "zip" p) [a,b] [] pos) (Gq X.K ta):=by
 intro pins s σ H R I h;refine Call_ (yv I hg hm RM (av3 (sy (ha pos pins s σ H _ I h) λus s1 vs H1 I1 r1 q1=>?_) (by rw[hs,hs2]) (by rw[hs2];rfl)));obtain⟨l1,l2,e,q⟩:=q1;subst e;obtain⟨v1,v2,rfl,r,r'⟩:=vals2 r1;cases r;cases r';have big:∀c,c∈[s1.heap.objs.size+4,s1.heap.objs.size+2,s1.heap.objs.size+3,s1.heap.objs.size,s1.heap.objs.size+1]->s1.heap.objs.size<=c:=λc hc=>by
  simp only[a9e,a7K,a9R]at hc;rcases hc with rfl|rfl|rfl|rfl|rfl <;> first|exact ags _|exact Nat.le_add_right _ _
 rcases q with⟨xs,ys,rP,rO,q⟩|⟨xs,ys,rP,rO,q⟩
 .obtain ⟨kX,ra,pa,za⟩:=I1.list rP;obtain⟨lY,rb,pb,zb⟩:=I1.list rO;have xg:l1<s1.heap.objs.size:=by obtain⟨o,e,_⟩:=pa.isList;exact aYz e
  have Cn:l2<s1.heap.objs.size:=by obtain⟨o,e,_⟩:=pb.isList;exact aYz e
  refine call_zip_2 pa.isList pb.isList λh' g5 g3 g4 g1 g2 hsz kp=>aAV g5 ?_;exact⟨_,[_,_,_,_,_],_,_,H1,rfl,I1.kept (t':=s1.toks) kp,RN _ _ _ _ _ l1 l2 (Ny s1.heap.objs.size l1 l2 xg Cn),⟨g5,g3,⟨_,_,g4⟩,g1,g2⟩,λc hc=>I1.rQ (big c hc) (I1.hok.fresh (big c hc)),q⟩
 .obtain ⟨kX,ra,pa,za⟩:=I1.tuple rP;obtain⟨lY,rb,pb,zb⟩:=I1.tuple rO;have xg:l1<s1.heap.objs.size:=Qm pa;have Cn:l2<s1.heap.objs.size:=Qm pb;refine Zgn (show s1.heap.IsTuple l1 kX.toArray from pa) (show s1.heap.IsTuple l2 lY.toArray from pb) λh' g5 g3 g4 g1 g2 kp=>aAV g5 ?_;exact⟨_,[_,_,_,_,_],_,_,H1,rfl,I1.kept (t':=s1.toks) kp,Zgo _ _ _ _ _ l1 l2 (Ny s1.heap.objs.size l1 l2 xg Cn),⟨g5,g3,⟨_,_,g4⟩,g1,g2⟩,λc hc=>I1.rQ (big c hc) (I1.hok.fresh (big c hc)),q⟩
end
theorem Zgp{K:W.Frag}{a b:Addr}{xs zs:List V}{l:Addr}{g:TG}{tc:TT}{te:TE}{σ0:St}{H0:Hp}{Qf:Hp->Prop}(hlen:xs.length=zs.length)(Pv:Nat->List V->St->Hp->Prop)(h0:Pv 0 [] σ0 H0)
  (hl:∀i ys σ' H',i<=xs.length->Pv i ys σ' H'->aU K H' a xs/\aU K H' b zs)
  (hs:∀i x z t ys σ' H',i<xs.length->xs[i]?=some x->zs[i]?=some z->ys.length<=i->Pv i ys σ' H'->H' t=none->g (.ref t) σ' (upd H' t (.tup [x,z])) λσ2 H3=>tc σ2 H3 λb H4=>if b=true then te σ2 H4 λy H5=>oS xs.length l Pv i ys σ2 y H5 else Ip xs.length Pv i ys σ2 H4)
  (hd:∀ys σ' H',ys.length<=xs.length->Pv xs.length ys σ' H'->Qf H') :
  ∃W:Nat->Nat->List V->St->Hp->Prop,(∃m,W 0 m [] σ0 H0)/\∀i m ys σ' H',W i m ys σ' H' ->
  ((yf K a b).stop i H'/\Qf H')\/((yf K a b).go i H'/\∀x H2,(yf K a b).su i H' x H2->g x σ' H2 λσ2 H3=>tc σ2 H3 λb H4=>
    if b=true then te σ2 H4 λy H5=>H5 l=some (.lst ys)/\ys.length<sizeLine/\∃m',m'<m/\W (i+1) m' (ys++[y]) σ2 (upd H5 l (.lst (ys++[y])))
    else ∃m',m'<m/\W (i+1) m' ys σ2 H4):=by
 refine⟨λi m ys σ' H'=>m=xs.length-i/\i<=xs.length/\ys.length<=i/\Pv i ys σ' H',⟨xs.length,rfl,aL2 _,ags _,h0⟩,?_⟩;rintro i m ys σ' H' ⟨rfl,hi,hy,p⟩;obtain⟨qa,qb⟩:=hl i ys σ' H' hi p;by_cases hlt:i<xs.length
 .have hlt':i<zs.length:=by lia
  refine .inr ⟨⟨xs,zs,xs[i],zs[i],qa,qb,by simp[hlt],by simp[hlt']⟩,λx H2 zq=>?_⟩;obtain⟨t,u,v,ht,rfl,rfl,z1,z2⟩:=zq;exact hs i u v t ys σ' H' hlt (z1 xs qa) (z2 zs qb) hy p ht
 .have e:i=xs.length:=by lia
  subst e;exact .inl ⟨⟨xs,qa,⟨zs,qb⟩,ags _⟩,hd ys σ' H' hy p⟩
section
variable{X:Cx}{K:W.Frag}{tg:PySem.Expr}
theorem Ef(hK:X.K=K){l:PySem.Expr}{tl:TE}(hl:PE X l tl):PI X tg l (A3 K tl):=hK ▸ZiW hl
theorem JY(hK:X.K=K){l:PySem.Expr}{tl:TE}(hl:PE X l tl):PI X tg l (Gr K tl):=hK ▸Yh hl
end
def Im(K:W.Frag)(H:Hp):Nat->V->V->Bool->Prop
 |0,x,y,b=>cH x=true/\cH y=true/\b=xJ x y
 | n+1,x,y,b=>(cH x=true/\cH y=true/\b=xJ x y)\/∃(a c:Addr)(xs ys:List V)(e:Nat->Bool),x=.ref a/\y=.ref c/\(∀(i:Nat)(u v:V),xs[i]?=some u->ys[i]?=some v->Im K H n u v (e i)) /\
   ((az K H a xs/\az K H c ys/\((xs.length=ys.length/\b=(List.range xs.length).all e)\/(xs.length≠ys.length/\b=false))) \/
    (aU K H a xs/\aU K H c ys/\b=((List.range (min xs.length ys.length)).all e && xs.length ==ys.length)))
theorem NI{x:V}(h:cH x=true):xJ x x=true:=by
 cases x with
 |aS=>rfl
 |bl b=>exact afE b
 |int i=>exact afE i
 |str z=>exact afE z
 |_=>exact absurd h a7q
section
variable{X:Cx}{pins:List (Addr×Obj)}{σ:St}{H:Hp}{s:Shared}
theorem NH(I:Inv X pins σ H s):∀(n:Nat)(x:V)(b:Bool),Im X.K H n x x b->b=true
 |0,x,b,⟨h1,_,h2⟩=>by rw[h2];exact NI h1
 |n+1,x,b,h=>by
  rcases h with⟨h1,_,h2⟩|⟨a,c,xs,ys,e,rfl,h2,hi,⟨ha,hc,hb⟩|⟨ha,hc,hb⟩⟩
  .rw [h2];exact NI h1
  .cases h2;have Mw:ys=xs:=I.eX hc ha;subst Mw;rcases hb with⟨_,hb⟩|⟨hb,_⟩
   .rw [hb,aD8];intro i hi';have hlt:=ayn.mp hi';exact NH I n ys[i] (e i) (hi i ys[i] ys[i] (aun hlt) (aun hlt))
   .exact absurd rfl hb
  .cases h2;have Mw:ys=xs:=I.fh hc ha;subst Mw;rw[hb,Nat.min_self,afE,Bool.and_true,aD8];intro i hi';have hlt:=ayn.mp hi';exact NH I n ys[i] (e i) (hi i ys[i] ys[i] (aun hlt) (aun hlt))
theorem DW{xs:List V}{us:List Value}(r:Vals xs us){j:Nat}(h:j<us.toArray.size):∃x,xs[j]?=some x/\RelV x us.toArray[j]:=by
 have hj:j<us.length:=by simpa using h
 have hx:j<xs.length:=by rw[r.length];exact hj
 obtain⟨u,hu,ru⟩:=r.get (i:=j) (x:=xs[j]) (aun hx);rw[aun hj]at hu;cases hu;exact⟨xs[j],aun hx,by simpa using ru⟩
theorem MT(I:Inv X pins σ H s):∀(n:Nat)(A:Around)(x y:V)(u v:Value)(b:Bool),A.units+n<cLine->RelV x u->RelV y v->Im X.K H n x y b->SeqAt.EqAt A s u v b
 |0,A,x,y,u,v,b,hu,rx,ry,⟨h1,h2,h3⟩=>by rw[h3];exact MV rx ry h1 h2
 |n+1,A,x,y,u,v,b,hu,rx,ry,h=>by
  rcases h with⟨h1,h2,h3⟩|⟨a,c,xs,ys,e,rfl,rfl,hi,hh⟩
  .rw [h3];exact MV rx ry h1 h2
  .cases rx;cases ry;by_cases hac:a=c
   .subst hac;have hb:b=true:=NH I (n+1) (.ref a) b (.inr ⟨a,a,xs,ys,e,rfl,rfl,hi,hh⟩);rw[hb];exact SeqAt.EqAt.same _
   .have L7:A.units<cLine:=by lia
    have hu1:A.in1.units+n<cLine:=by
     have q:A.in1.units=A.units+1:=rfl;rw[q];lia
    refine SeqAt.EqAt.of_refs hac ?_;rcases hh with⟨ha,hc,hb⟩|⟨ha,hc,hb⟩
    .obtain ⟨its,r1,p1,_⟩:=I.list ha;obtain⟨its2,r2,p2,_⟩:=I.list hc;have l1:=r1.length;have l2:=r2.length;rcases hb with⟨hl,hb⟩|⟨hl,hb⟩
     .have q:=SeqAt.RcAt.lists (A:=A) (e:=e) p1.isList p2.isList (by simp;lia) L7 λj h1 h2=>by
       obtain⟨x,hx,rx⟩:=DW r1 h1;obtain⟨y,hy,ry⟩:=DW r2 h2;exact MT I n A.in1 x y _ _ (e j) hu1 rx ry (hi j x y hx hy)
      rw[aCS,<-l1,<-hb]at q;exact q
     .rw [hb];exact SeqAt.RcAt.lists_lengths p1.isList p2.isList (by simp;lia) L7
    .obtain ⟨its,r1,p1,_⟩:=I.tuple ha;obtain⟨its2,r2,p2,_⟩:=I.tuple hc;have l1:=r1.length;have l2:=r2.length;have q:=SeqAt.RcAt.tuples (A:=A) (e:=e) (show s.heap.IsTuple a its.toArray from p1) (show s.heap.IsTuple c its2.toArray from p2) L7 λj h1 h2=>by
      obtain⟨x,hx,rx⟩:=DW r1 h1;obtain⟨y,hy,ry⟩:=DW r2 h2;exact MT I n A.in1 x y _ _ (e j) hu1 rx ry (hi j x y hx hy)
     rw[aCS,aCS,<-l1,<-l2,<-hb]at q;exact q
end
section
variable{X:Cx}{K:W.Frag}
inductive Fc(K:W.Frag) (n:Nat) (neg:Bool)(x:V)(y:V)(H:Hp)(Q:VK):Prop
 |mk (a c:Addr) (xs ys:List V) (e:Nat->Bool):x=.ref a->y=.ref c->(∀(i:Nat)(u v:V),xs[i]?=some u->ys[i]?=some v->Im K H n u v (e i))->az K H a xs->az K H c ys->((xs.length=ys.length/\Q (.bl (if neg then !(List.range xs.length).all e else(List.range xs.length).all e)) H)\/(xs.length≠ys.length/\Q (.bl neg) H))->Fc K n neg x y H Q
theorem Qj(n:Nat)(hu:X.A.units+1+n<cLine)(hK:X.K=K):jb X (compareOp .NotEq) (Fc K n true):=by
 subst hK;intro pins s σ H x y v u Q I rx ry h;obtain⟨a,c,xs,ys,e,rfl,rfl,hi,ha,hc,q⟩:=h;cases rx;cases ry;obtain⟨its,r1,p1,_⟩:=I.list ha;obtain⟨its2,r2,p2,_⟩:=I.list hc;have l1:=r1.length;have l2:=r2.length;have hu1:X.A.in1.units+n<cLine:=hu;rcases q with⟨hl,q⟩|⟨hl,q⟩
 .refine SeqAt.RcNeAt.lists (e:=e) p1.isList p2.isList (by simp;lia) (by lia) (λj h1 h2=>?_) X.prog X.w X.xe _ ⟨.bl _,H,I,rfl,?_⟩
  .obtain ⟨x,hx,rx⟩:=DW r1 h1;obtain⟨y,hy,ry⟩:=DW r2 h2;exact MT I n X.A.in1 x y _ _ (e j) hu1 rx ry (hi j x y hx hy)
  .rw [aCS,<-l1];exact q
 .exact SeqAt.RcNeAt.lists_lengths p1.isList p2.isList (by simp;lia) (by lia) X.prog X.w X.xe _ ⟨.bl true,H,I,rfl,q⟩
theorem A4{A:Around}{k:Nat}(hr:bf k A)(n:Nat)(h:n<=60):A.units+1+n<cLine:=by have:=hr.units;lia
end
section
variable{X:Cx}
theorem Zgr(hc:X.calm=true):bG X (.builtin "any") (λxs H Q=>∃(p:Addr)(bs:List Bool),xs=[.ref p]/\az X.K H p (bs.map V.bl)/\Q (.bl (bs.any id)) H):=by
 intro pins s σ H xs us Q I r h;obtain⟨p,bs,rfl,hq,q⟩:=h;obtain⟨u,rfl,rx⟩:=vals1 r;cases rx;obtain⟨its,rv,pl,hz⟩:=I.list hq;have e:=Nt rv;subst e;refine call_any_walk (wpAny_pyIter_list pl.isList ?_);refine⟨s.heap.objs.size,_,[s.heap.objs.size],_,_,_,λi=>bs.getD i true,rfl,Walks.list (A:=X.A.in1) (show X.A.in1.handled=none from I.ok.hd hc) s.heap.objs.size p ?_ (bs.map Value.bool).toArray,⟨⟨_,arT _ rfl,rfl,rfl⟩,pl.isList.at λo e=>a8r _ e⟩,?_,?_⟩
 .obtain ⟨o,e,_⟩:=pl.isList;exact ar8 (aYz e)
 .intro i v s' Q' E' hP hQ;have uE:(bs.map Value.bool)[i]?=some v:=by simpa using hP
  rw[acC]at uE;cases z:bs[i]? with
  |none=>rw[z]at uE;cases uE
  |some b=>
   rw[z]at uE;cases uE;have:bs.getD i true=b:=by rw[auG,z];rfl
   have GG:Q' (bs.getD i true) s':=hQ;rw[this]at GG;exact aVv GG
 .intro h' tk hk;refine⟨.bl (bs.any id),H,I.kept (t':=tk) (λb o e=>hk b o (by simpa using ar8 (aYz e)) (a8r _ e)),?_,q⟩;have z:(List.range bs.length).map (λi=>bs.getD i true)=bs:=SS _ λi b e=>by rw[auG,e];rfl
  have z2:(List.range bs.length).any (λi=>bs.getD i true)=bs.any id:=by
   conv=>rhs;rw[<-z]
   rw[List.any_map];rfl
  show Value.bool _=Value.bool _;have z3:(bs.map Value.bool).toArray.size=bs.length:=by simp
  rw[z3,z2]
end
theorem YT{K:W.Frag}{a b:Addr}{xs ys:List V}{g:TG}{tb:TS}{D:Ends}{σ:St}{H:Hp}(Pv:Nat->St->Hp->Prop)(hlen:xs.length=ys.length)(h0:Pv 0 σ H)(hl:∀i σ H,i<=xs.length->Pv i σ H->az K H a xs/\az K H b ys)
  (hs:∀i x y t σ H,xs[i]?=some x->ys[i]?=some y->Pv i σ H->H t=none->g (.ref t) σ (upd H t (.tup [x,y])) λσ2 H2=>tb { D with nx:=Pv (i+1),ct:=Pv (i+1),bk:=D.nx } σ2 H2) (hd:∀ σ H,Pv xs.length σ H->D.nx σ H) :
  ∃W:Nat->Nat->St->Hp->Prop,(∃m,W 0 m σ H)/\∀i m σ H,W i m σ H ->
   ((Ad K a b).stop i H/\D.nx σ H)\/((Ad K a b).go i H/\∃N:St->Hp->Prop,(∀ σ' H',N σ' H'->∃m',m'<m/\W (i+1) m' σ' H')/\∀x H',(Ad K a b).su i H x H'->g x σ H' λσ2 H2=>tb { D with nx:=N,ct:=N,bk:=D.nx } σ2 H2):=by
 refine⟨λi m σ H=>m=xs.length-i/\i<=xs.length/\Pv i σ H,⟨xs.length,by simp,aL2 _,h0⟩,?_⟩;rintro i m σ H ⟨rfl,hi,p⟩;obtain⟨q1,q2⟩:=hl i σ H hi p;by_cases hlt:i<xs.length
 .have Mf:i<ys.length:=hlen ▸hlt;refine .inr ⟨⟨xs,ys,xs[i],ys[i],q1,q2,by simp[hlt],by simp[Mf]⟩,Pv (i+1),λσ' H' p'=>⟨xs.length-(i+1),by lia,rfl,hlt,p'⟩,λx H' y=>?_⟩;obtain⟨t,x1,y1,ht,rfl,rfl,hx,hy⟩:=y;exact hs i x1 y1 t σ _ (hx xs q1) (hy ys q2) p ht
 .have e:i=xs.length:=by lia
  subst e;exact .inl ⟨⟨xs,ys,q1,q2,.inl (ags _)⟩,hd σ H p⟩
end L2
namespace L2.Ti
open PySem PySem.Spec PyProof.Rows
def Rk(ρ:Keyed->Nat)(xs:Array Keyed)(i:Nat):Nat:=(xs[i]?).elim 0 ρ
theorem HJ{ρ:Keyed->Nat}{xs ys:Array Keyed}{i j:Nat}(h:xs[i]?=ys[j]?):Rk ρ xs i=Rk ρ ys j:=by unfold Rk;rw[h]
def gC(ρ:Keyed->Nat)(xs:Array Keyed)(i j:Nat):Prop:=K xs i<K xs j\/(K xs i=K xs j/\Rk ρ xs i<Rk ρ xs j)
theorem gC.trans{ρ:Keyed->Nat}{xs:Array Keyed}{i j k:Nat}(h1:gC ρ xs i j)(h2:gC ρ xs j k):gC ρ xs i k:=by
 unfold gC at *;lia
def qZ(ρ:Keyed->Nat)(xs:Array Keyed)(n:Nat):Prop:=∀i j,i<j->j<n->gC ρ xs i j
def Dec(ρ:Keyed->Nat)(xs:Array Keyed)(n:Nat):Prop:=∀i j,i<j->j<n->gC ρ xs j i
def jd(ρ:Keyed->Nat)(xs:Array Keyed)(n:Nat):Prop:=∀i,n<=i->i<xs.size->Rk ρ xs i=i
theorem jd.mono{ρ:Keyed->Nat}{xs:Array Keyed}{m n:Nat}(h:jd ρ xs m)(l:m<=n):jd ρ xs n:=λi hi hs=>h i (a0n l hi) hs
theorem JN{ρ:Keyed->Nat}{xs:Array Keyed}{i:Nat}(h:i<xs.size):(xs.toList.map ρ)[i]?=some (Rk ρ xs i):=by
 unfold Rk;rw[acC,bd9,alK h];rfl
structure Inj(ρ:Keyed->Nat)(xs:Array Keyed):Prop where
 inj:∀i j,i<xs.size->j<xs.size->Rk ρ xs i=Rk ρ xs j->i=j
 lt:∀i,i<xs.size->Rk ρ xs i<xs.size
theorem XS{ρ:Keyed->Nat}{xs a₀:Array Keyed}(p:xs.Perm a₀)(h0:jd ρ a₀ 0):Inj ρ xs:=by
 have e0:a₀.toList.map ρ=List.range a₀.size:=by
  apply aAT;intro i;by_cases h:i<a₀.size
  .rw [JN h,a7b h,h0 i (aL2 _) h]
  .rw [baC (by simpa using h),baC (by simpa using h)]
 have pm:(xs.toList.map ρ).Perm (List.range a₀.size):=by rw[<-e0];exact(aUN.mp p).map ρ
 have nd:(xs.toList.map ρ).Nodup:=pm.nodup_iff.mpr List.nodup_range;refine⟨λi j hi hj e=>?_,λi hi=>?_⟩
 .refine (List.getElem?_inj (by rw[axO,ak9];exact hi) nd).mp ?_;rw[JN hi,JN hj,e]
 .have m:Rk ρ xs i∈xs.toList.map ρ:=bcc (JN hi);have:=ayn.mp (pm.mem_iff.mp m);rw[p.size_eq];exact this
theorem Inj.below{ρ:Keyed->Nat}{xs:Array Keyed}(I:Inj ρ xs){n:Nat}(h:jd ρ xs n){i:Nat}(hi:i<n)(hs:i<xs.size):Rk ρ xs i<n:=by
 by_cases c:Rk ρ xs i<n
 .exact c
 .have l:=I.lt i hs;have e:=h (Rk ρ xs i) (by lia) l;have:=I.inj _ _ l hs e;lia
theorem Nr{ρ:Keyed->Nat}{xs:Array Keyed}{src d:Nat}(hs:src<xs.size)(hd:d<=src)(k:Nat) :
  Rk ρ (bubble xs src d) k=if k=src-d then Rk ρ xs src else if src-d<k/\k<=src then Rk ρ xs (k-1) else Rk ρ xs k:=by
 have e:=getElem?_bubble hs d hd k;by_cases h1:k=src-d
 .rw [aaU h1]at e ⊢;exact HJ e
 .rw [afn h1]at e ⊢;by_cases h2:src-d<k/\k<=src
  .rw [aaU h2]at e ⊢;exact HJ e
  .rw [afn h2]at e ⊢;exact HJ e
theorem ZU{ρ:Keyed->Nat}{xs:Array Keyed}{i j:Nat}(hj:j<=xs.size)(k:Nat) :
  Rk ρ (mirror xs i j ((j-i)/2)) k=if i<=k/\k<j then Rk ρ xs (i+j-1-k) else Rk ρ xs k:=by
 have e:=getElem?_mirror_all (i:=i) hj k;by_cases h1:i<=k/\k<j
 .rw [aaU h1]at e ⊢;exact HJ e
 .rw [afn h1]at e ⊢;exact HJ e
section
variable{prog:Program}{w:World}{A:Around}{E:Value->Shared->Prop}{s:Shared}{a₀:Array Keyed}{ρ:Keyed->Nat}
theorem SB.inj{st:SortSt}(h:SBase a₀ st)(hr:jd ρ a₀ 0):Inj ρ (arrOf st):=XS h.perm hr
theorem XR{st:SortSt}{n ok:Nat}{Q:Bool->SortSt->Prop}(h0:IntKeys a₀)(hr:jd ρ a₀ 0)(hn:n<=a₀.size)(hok:ok<=n)(W3:1<=ok)(hB:SBase a₀ st)(hs:qZ ρ (arrOf st) ok)(hI:jd ρ (arrOf st) ok)
  (h:∀st',SBase a₀ st'->qZ ρ (arrOf st') n->Q true st'):wpS (model prog w) A E s (binarySort' 0 n ok) Q st:=by
 rw[binarySort'_eq];simp only[aAR];refine ba7 (ash (aJo (I:=λk c st1=>c=(none,())/\SBase a₀ st1/\qZ ρ (arrOf st1) (min k n)/\jd ρ (arrOf st1) (min k n))
  (Q:=λc st1=>c=(none,())/\SBase a₀ st1/\qZ ρ (arrOf st1) n) ?turn ?last ?first) ?after)
 case after=>
  rintro c st1 ⟨rfl,b1,i1⟩;exact aG3 (h st1 b1 i1)
 case first=>
  rw[show min (max ok 1) n=ok by lia];exact⟨rfl,hB,hs,hI⟩
 case last=>
  rintro c st1 ⟨hc,b1,i1,_⟩;rw[show min (max (max ok 1) n) n=n by lia]at i1;exact⟨hc,b1,i1⟩
 case turn=>
  rintro k c st1 WT hkn ⟨rfl,b1,i1,d1⟩;rw[show min k n=k by lia]at i1 d1;have hk:k<a₀.size:=by lia
  have sz:=b1.size;have J:=SB.inj b1 hr;have rk:Rk ρ (arrOf st1) k=k:=d1 k (ags _) (by lia);have lo:∀m,m<k->¬K (arrOf st1) k<K (arrOf st1) m->gC ρ (arrOf st1) m k:=λm hm c=>by
   have:=J.below d1 hm (by lia);unfold gC;lia
  refine ba7 (ash (aJo (I:=λx c st2=>st2=st1/\∃l r,c=(none,l,r)/\l<=r/\r<=k/\r-l<=k-x/\(∀i,i<l->gC ρ (arrOf st1) i k)/\(∀i,r<=i->i<k->gC ρ (arrOf st1) k i))
   (Q:=λc st2=>st2=st1/\∃l r,c=(none,l,r)/\l<=k/\(∀i,i<l->gC ρ (arrOf st1) i k)/\(∀i,l<=i->i<k->gC ρ (arrOf st1) k i)) ?iturn ?ilast ?ifirst) ?iafter)
  case ifirst=>exact⟨rfl,0,k,rfl,by lia,by lia,by lia,λi hi=>absurd hi (by lia),λi p q=>absurd q (by lia)⟩
  case ilast=>
   rintro c st2 ⟨rfl,l,r,rfl,hlr,hrk,hm,u1,u2⟩;have e:l=r:=by lia
   subst e;exact⟨rfl,l,l,rfl,hrk,u1,u2⟩
  case iturn=>
   rintro x c st2 _ hxk ⟨rfl,l,r,rfl,hlr,hrk,hm,u1,u2⟩;dsimp only;by_cases hge:l ≥ r
   .rw [aaU hge];have e:l=r:=by lia
    subst e;exact aG3 ⟨rfl,l,l,rfl,hrk,u1,u2⟩
   .rw [afn hge];refine ba7 (wpS_ltK b1 h0 hk (by lia) ?_);by_cases c:K (arrOf st2) k<K (arrOf st2) ((l+r)/2)
    .simp only[c,az0,a6Z];refine aG3 ⟨rfl,l,(l+r)/2,rfl,by lia,by lia,by lia,u1,λi p q=>?_⟩;by_cases e:i=(l+r)/2
     .subst e;exact .inl c
     .exact gC.trans (.inl c) (i1 _ _ (by lia) q)
    .simp only[c,aLL,aY9,a3v];refine aG3 ⟨rfl,(l+r)/2+1,r,rfl,by lia,by lia,by lia,λi p=>?_,u2⟩;have v:=lo _ (by lia) c;by_cases e:i=(l+r)/2
     .subst e;exact v
     .exact gC.trans (i1 _ _ (by lia) (by lia)) v
  case iafter=>
   rintro c st2 ⟨rfl,l,r,rfl,hlk,u1,u2⟩;show wpS _ _ _ _ (do moveDown' k l;pure (ForInStep.yield (none,()))) _ _;rw[moveDown'_eq];refine ba7 (aiW (aG3 ⟨rfl,b1.setArr (bubble_perm _ _ _),?_,?_⟩))
   .rw [show min (k+1) n=k+1 by lia];have hks:k<(arrOf st2).size:=by lia
    intro i j hij hj;show gC ρ (bubble (arrOf st2) k (k-l)) i j;unfold gC;rw[K_bubble hks (by lia),K_bubble hks (by lia),Nr hks (by lia),Nr hks (by lia),show k-(k-l)=l by lia];by_cases a1:i=l
    .have qU:¬j=l:=by lia
     have Hr:l<j/\j<=k:=by lia
     rw[aaU a1,aaU a1,afn qU,afn qU,aaU Hr,aaU Hr];exact u2 _ (by lia) (by lia)
    .rw [afn a1,afn a1];by_cases a2:j=l
     .have qU:¬(l<i/\i<=k):=by lia
      rw[aaU a2,aaU a2,afn qU,afn qU];exact u1 _ (by lia)
     .rw [afn a2,afn a2];by_cases a3:l<i/\i<=k
      .have qU:l<j/\j<=k:=by lia
       rw[aaU a3,aaU a3,aaU qU,aaU qU];exact i1 _ _ (by lia) (by lia)
      .rw [afn a3,afn a3];by_cases a4:l<j/\j<=k
       .rw [aaU a4,aaU a4];by_cases a5:i<j-1
        .exact i1 _ _ a5 (by lia)
        .exfalso;lia
       .rw [afn a4,afn a4];exact i1 _ _ (by lia) (by lia)
   .rw [show min (k+1) n=k+1 by lia];intro i hi hs';have hs2:i<(arrOf st2).size:=by
     have:(arrOf (setArr st2 (bubble (arrOf st2) k (k-l)))).size=(arrOf st2).size:=bubble_size _ _ _;lia
    show Rk ρ (bubble (arrOf st2) k (k-l)) i=i;rw[Nr (by lia) (by lia),afn (by lia),afn (by lia)];exact d1 i (by lia) hs2
theorem Qi{st:SortSt}{a nrem:Nat}{Q:AscSt->SortSt->Prop}(h0:IntKeys a₀)(hr:jd ρ a₀ 0)(hn:nrem<=a₀.size)(ha:1<=a)(han:a<=nrem)(hB:SBase a₀ st)(hs:qZ ρ (arrOf st) a)(hI:jd ρ (arrOf st) a)
  (h:∀n,a<=n->n<=nrem->qZ ρ (arrOf st) n->(n=nrem\/K (arrOf st) n<K (arrOf st) (n-1))->Q (none,n) st):wpS (model prog w) A E s (ascLoop a nrem) Q st:=by
 unfold ascLoop;have sz:=hB.size;have J:=SB.inj hB hr;refine aJo (I:=λx c st1=>st1=st/\c=(none,x)/\qZ ρ (arrOf st) x) ?turn ?last ⟨rfl,rfl,hs⟩
 case last=>
  rintro c st1 ⟨rfl,rfl,i1⟩;rw[show max a nrem=nrem by lia]at i1 ⊢;exact h nrem han (ags _) i1 (.inl rfl)
 case turn=>
  rintro x c st1 hax hxn ⟨rfl,rfl,i1⟩;dsimp only;refine ba7 (wpS_ltK hB h0 (by lia) (by lia) ?_);by_cases c:K (arrOf st1) x<K (arrOf st1) (x-1)
  .simp only[c,az0,a6Z];exact aG3 (h x hax (by lia) i1 (.inr c))
  .simp only[c,aLL,aY9,a3v];refine aG3 ⟨rfl,rfl,λi j hij hj=>?_⟩;by_cases hjx:j<x
   .exact i1 i j hij hjx
   .have ej:j=x:=by lia
    subst ej;have dx:=hI.mono hax;have r1:=J.below dx (i:=j-1) (by lia) (by lia);have r2:=dx j (ags _) (by lia);have v:gC ρ (arrOf st1) (j-1) j:=by unfold gC;lia
    by_cases e:i=j-1
    .subst e;exact v
    .exact gC.trans (i1 i (j-1) (by lia) (by lia)) v
theorem Rc{st:SortSt}{n nrem:Nat}{Q:Option Nat->SortSt->Prop}(h0:IntKeys a₀)(hr:jd ρ a₀ 0)(hn:nrem<=a₀.size)(h1:1<=n)(hnn:n<=nrem)(hB:SBase a₀ st)(hs:Dec ρ (arrOf st) n)(hI:jd ρ (arrOf st) n)
  (h:∀m st',SBase a₀ st'->1<=m->m<=nrem->qZ ρ (arrOf st') m->jd ρ (arrOf st') m->Q (some m) st'):wpS (model prog w) A E s (tail3 n nrem) Q st:=by
 unfold tail3;have sz:=hB.size;refine ba7 (a7U ?_);have b1:SBase a₀ (setArr st (mirror (arrOf st) 0 n ((n-0)/2))):=hB.setArr (ahv _ _ _ _);have d1:jd ρ (mirror (arrOf st) 0 n ((n-0)/2)) n:=λi hi hs'=>by
  rw[mirror_size]at hs';rw[ZU (by lia),afn (by lia)];exact hI i hi hs'
 refine ba7 (Qi h0 hr hn h1 hnn b1 ?_ d1 λm m1 m2 i2 _=>aG3 (h m _ b1 (by lia) m2 i2 (d1.mono m1)));intro i j hij hj;show gC ρ (mirror (arrOf st) 0 n ((n-0)/2)) i j;unfold gC;rw[K_mirror (by lia),K_mirror (by lia),ZU (by lia),ZU (by lia),aaU (by lia),aaU (by lia),aaU (by lia),aaU (by lia)];exact hs _ _ (by lia) (by lia)
structure DI(ρ:Keyed->Nat)(xs:Array Keyed)(x q:Nat):Prop where
 l:q+1<=x
 sz:x<=xs.size
 d:Dec ρ xs (x-(q+1))
 u:∀i j,i<x-(q+1)->x-(q+1)<=j->j<x->K xs j<K xs i
 e:∀i,x-(q+1)<=i->i<x->K xs i=K xs (x-1)
 f:jd ρ xs (x-(q+1))
theorem DI.GY{xs:Array Keyed}{x:Nat}(h:DI ρ xs x 0):Dec ρ xs x:=λi j hij hj=>by
 by_cases c:j<x-(0+1)
 .exact h.d i j hij c
 .exact .inl (h.u i j (by lia) (by lia) hj)
theorem DI.rev{xs:Array Keyed}{x q:Nat}(h:DI ρ xs x q):Dec ρ (mirror xs (x-(q+1)) x ((x-(x-(q+1)))/2)) x/\jd ρ (mirror xs (x-(q+1)) x ((x-(x-(q+1)))/2)) x:=by
 have hl:=h.l;have hz:=h.sz;refine⟨λi j hij hj=>?_,λi hi hs=>?_⟩
 .have ke:=K_mirror_equal (i:=x-(q+1)) hz h.e;unfold gC;rw[ke,ke,ZU hz,ZU hz];by_cases c1:j<x-(q+1)
  .rw [afn (by lia),afn (by lia)];exact h.d i j hij c1
  .by_cases c2:i<x-(q+1)
   .exact .inl (h.u i j c2 (by lia) hj)
   .rw [aaU (by lia),aaU (by lia)];refine .inr ⟨(h.e j (by lia) hj).trans (h.e i (by lia) (by lia)).symm,?_⟩;rw[h.f _ (by lia) (by lia),h.f _ (by lia) (by lia)];lia
 .rw [mirror_size]at hs;rw[ZU hz,afn (by lia)];exact h.f i (by lia) hs
theorem DI.of{xs:Array Keyed}{x:Nat}(hx:1<=x)(hz:x<xs.size)(hd:Dec ρ xs x)(hf:jd ρ xs x)(hk:K xs x<K xs (x-1)):DI ρ xs (x+1) 0:=by
 refine⟨by lia,by lia,hd,λi j hi hj hj'=>?_,λi hi hi'=>?_,hf⟩
 .have ej:j=x:=by lia
  subst ej;by_cases e:i=j-1
  .subst e;exact hk
  .have v:=hd i (j-1) (by lia) (by lia);unfold gC at v;lia
 .have ei:i=x:=by lia
  subst ei;rfl
theorem DI.more{xs:Array Keyed}{x q:Nat}(h:DI ρ xs x q)(hz:x<xs.size)(hk:K xs x=K xs (x-1)):DI ρ xs (x+1) (q+1):=by
 have hl:=h.l;have e0:x+1-(q+1+1)=x-(q+1):=by lia
 refine⟨by lia,by lia,by rw[e0];exact h.d,λi j hi hj hj'=>?_,λi hi hi'=>?_,by rw[e0];exact h.f⟩
 .rw [e0]at hi hj;by_cases c:j<x
  .exact h.u i j hi hj c
  .have ej:j=x:=by lia
   subst ej;rw[hk];exact h.u i (j-1) hi (by lia) (by lia)
 .rw [show x+1-1=x by lia];by_cases c:i<x
  .rw [hk];exact h.e i (by lia) c
  .have ei:i=x:=by lia
   subst ei;rfl
theorem YS{st:SortSt}{n nrem:Nat}{Q:DescSt->SortSt->Prop}(h0:IntKeys a₀)(hn:nrem<=a₀.size)(hnn:n<=nrem)(hB:SBase a₀ st)(hs:DI ρ (arrOf st) n 0)
  (h:∀m q st',SBase a₀ st'->m<=nrem->DI ρ (arrOf st') m q->Q (none,m,q) st'):wpS (model prog w) A E s (descLoop n nrem) Q st:=by
 unfold descLoop;refine aJo (I:=λx c st1=>∃q,c=(none,x,q)/\SBase a₀ st1/\DI ρ (arrOf st1) x q) ?turn ?last ⟨0,rfl,hB,hs⟩
 case last=>
  rintro c st1 ⟨q,rfl,b1,d1⟩;rw[show max n nrem=nrem by lia]at d1 ⊢;exact h nrem q st1 b1 (ags _) d1
 case turn=>
  rintro x c st1 hax hxn ⟨q,rfl,b1,d1⟩;dsimp only;have sz:=b1.size;have hl:=d1.l;refine ba7 (wpS_ltK b1 h0 (by lia) (by lia) ?_);by_cases c:K (arrOf st1) x<K (arrOf st1) (x-1)
  .simp only[c,az0,a6Z];by_cases hq:q>0
   .rw [aaU hq];obtain⟨r1,r2⟩:=d1.rev;refine ba7 (a7U (aG3 ⟨0,rfl,b1.setArr (ahv _ _ _ _),DI.of (by lia) (by show x<(mirror _ _ _ _).size;rw[mirror_size];lia) r1 r2 ?_⟩));show K (mirror _ _ _ _) x<K (mirror _ _ _ _) (x-1);rw[K_mirror_equal d1.sz d1.e,K_mirror_equal d1.sz d1.e];exact c
   .rw [afn hq];have e:q=0:=by lia
    subst e;exact aG3 ⟨0,rfl,b1,DI.of (by lia) (by lia) d1.GY (d1.f.mono (by lia)) c⟩
  .simp only[c,aLL,aY9,a3v];refine ba7 (wpS_ltK b1 h0 (by lia) (by lia) ?_);by_cases c2:K (arrOf st1) (x-1)<K (arrOf st1) x
   .simp only[c2,az0,a6Z];exact aG3 (h x q st1 b1 (by lia) d1)
   .simp only[c2,aLL,aY9,a3v];exact aG3 ⟨q+1,rfl,b1,d1.more (by lia) (by lia)⟩
theorem Rb{st:SortSt}{n nrem:Nat}{Q:Option Nat->SortSt->Prop}(h0:IntKeys a₀)(hr:jd ρ a₀ 0)(hn:nrem<=a₀.size)(hnn:n+1<=nrem)(hB:SBase a₀ st)(hs:DI ρ (arrOf st) (n+1) 0)
  (h:∀m st',SBase a₀ st'->1<=m->m<=nrem->qZ ρ (arrOf st') m->jd ρ (arrOf st') m->Q (some m) st'):wpS (model prog w) A E s (descPart n nrem) Q st:=by
 unfold descPart;refine ba7 (wpS_lift (ajd ⟨rfl,?_⟩));refine ba7 (YS h0 hn hnn hB hs λm q st1 b1 m2 d1=>?_);dsimp only;have hl:=d1.l;by_cases hq:q>0
 .rw [aaU hq];obtain⟨r1,r2⟩:=d1.rev;exact ba7 (a7U (Rc h0 hr hn (by lia) m2 (b1.setArr (ahv _ _ _ _)) r1 r2 h))
 .rw [afn hq];have e:q=0:=by lia
  subst e;exact Rc h0 hr hn (by lia) m2 b1 d1.GY (d1.f.mono (by lia)) h
theorem ZhP{st:SortSt}{nrem:Nat}{Q:Option Nat->SortSt->Prop}(h0:IntKeys a₀)(hr:jd ρ a₀ 0)(hn:nrem<=a₀.size)(h1:1<=nrem)(hB:SBase a₀ st)(hI:jd ρ (arrOf st) 0)
  (h:∀m st',SBase a₀ st'->1<=m->m<=nrem->qZ ρ (arrOf st') m->jd ρ (arrOf st') m->Q (some m) st'):wpS (model prog w) A E s (countRun' 0 nrem) Q st:=by
 rw[countRun0_eq];have sz:=hB.size;refine ba7 (Qi h0 hr hn (ags 1) h1 hB (λi j hij hj=>absurd hj (by lia)) (hI.mono (aL2 _)) λn n1 n2 i1 hor=>?_);dsimp only;by_cases e:n=nrem
 .rw [aaU (by simpa using e)];exact aG3 (h n st hB n1 n2 i1 (hI.mono (aL2 _)))
 .rw [afn (by simpa using e)];have lt:K (arrOf st) n<K (arrOf st) (n-1):=hor.resolve_left e;by_cases g:n>1
  .rw [aaU g];refine ba7 (wpS_ltK hB h0 (by lia) (by lia) ?_);by_cases c:K (arrOf st) 0<K (arrOf st) (n-1)
   .simp only[c,az0,a6Z];exact aG3 (h n st hB n1 n2 i1 (hI.mono (aL2 _)))
   .simp only[c,aLL,aY9,a3v];have all:∀k,0<=k->k<n->K (arrOf st) k=K (arrOf st) (n-1):=by
     intro k _ hk;have a1:k=0\/gC ρ (arrOf st) 0 k:=by
      by_cases z:k=0
      .exact .inl z
      .exact .inr (i1 0 k (by lia) hk)
     have a2:k=n-1\/gC ρ (arrOf st) k (n-1):=by
      by_cases z:k=n-1
      .exact .inl z
      .exact .inr (i1 k (n-1) (by lia) (by lia))
     have a3:=i1 0 (n-1) (by lia) (by lia);unfold gC at a1 a2 a3;rcases a1 with a1|a1
     .subst a1;lia
     .rcases a2 with a2|a2
      .subst a2;rfl
      .lia
    have ke:=K_mirror_equal (xs:=arrOf st) (i:=0) (j:=n) (by lia) all;refine ba7 (a7U (Rb h0 hr hn (by lia) (hB.setArr (ahv _ _ _ _)) (DI.of (by lia) (by show n<(mirror _ _ _ _).size;rw[mirror_size];lia) (λi j hij hj=>?_) (λi hi hs=>?_) ?_) h))
    .show gC ρ (mirror (arrOf st) 0 n ((n-0)/2)) j i;unfold gC;rw[ke,ke,all i (by lia) (by lia),all j (by lia) hj,ZU (by lia),ZU (by lia),aaU (by lia),aaU (by lia),hI _ (by lia) (by lia),hI _ (by lia) (by lia)];lia
    .have hs':i<(mirror (arrOf st) 0 n ((n-0)/2)).size:=hs;rw[mirror_size]at hs';show Rk ρ (mirror (arrOf st) 0 n ((n-0)/2)) i=i;rw[ZU (by lia),afn (by lia)];exact hI i (by lia) hs'
    .show K (mirror (arrOf st) 0 n ((n-0)/2)) n<K (mirror (arrOf st) 0 n ((n-0)/2)) (n-1);rw[ke,ke];exact lt
  .rw [afn g];have en:n=1:=by lia
   subst en;exact Rb h0 hr hn (by lia) hB (DI.of (by lia) (by lia) (λi j hij hj=>absurd hj (by lia)) (hI.mono (aL2 _)) lt) h
def uJ(ρ:Keyed->Nat)(a₀:Array Keyed)(st:SortSt):Prop:=(arrOf st).Perm a₀/\failedOf st=none/\pendingOf st=#[(0,a₀.size,0)]/\qZ ρ (arrOf st) a₀.size
theorem uJ.of{st:SortSt}(hB:SBase a₀ st)(hs:qZ ρ (arrOf st) a₀.size):uJ ρ a₀ (setPending st ((pendingOf st).push (0,a₀.size,0))):=
 ⟨hB.perm,hB.failed,by show(pendingOf st).push _=_;rw[hB.pend];rfl,hs⟩
theorem YR{st:SortSt}{Q:Unit->SortSt->Prop}(h0:IntKeys a₀)(hr:jd ρ a₀ 0)(hB:SBase a₀ st)(hI:jd ρ (arrOf st) 0)(h2:2<=a₀.size)(h64:a₀.size<64)
  (h:∀st',(arrOf st').Perm a₀->failedOf st'=none->qZ ρ (arrOf st') a₀.size->Q () st'):wpS (model prog w) A E s sortRuns' Q st:=by
 rw[sortRuns'_eq];refine ba7 (aLA ?_);dsimp only;have mr:minRun' a₀.size a₀.size 0=a₀.size:=by
  obtain⟨f,hf⟩:∃f,a₀.size=f+1:=⟨a₀.size-1,by lia⟩;have e:minRun' (f+1) a₀.size 0=a₀.size:=by
   rw[minRun'_succ,aaU h64];rfl
  rwa [<-hf]at e
 simp only[hB.size,mr];refine ba7 (ash (aJo
  (I:=λx c st1=>(x=0/\c=(none,0)/\SBase a₀ st1/\jd ρ (arrOf st1) 0)\/(1<=x/\c=(none,a₀.size)/\uJ ρ a₀ st1))
  (Q:=λc st1=>c=(none,a₀.size)/\uJ ρ a₀ st1) ?turn ?last (.inl ⟨rfl,rfl,hB,hI⟩)) ?after)
 case last=>
  rintro c st1 (⟨hx,_⟩|⟨_,hc,hD⟩)
  .lia
  .exact ⟨hc,hD⟩
 case turn=>
  rintro x c st1 _ hx (⟨rfl,rfl,b1,i1⟩|⟨Pb,rfl,hD⟩)
  .dsimp only;rw[afn (by lia)];simp only[Nat.sub_zero,Nat.min_self,aAR];refine ba7 (ZhP h0 hr (ags _) (by lia) b1 i1 λm st2 b2 m1 m2 s2 d2=>?_);dsimp only;by_cases lt:m<a₀.size
   .rw [aaU lt];refine ba7 (wpS_lift (ajd ⟨rfl,?_⟩));refine ba7 (XR h0 hr (ags _) m2 m1 b2 s2 d2 λst3 b3 s3=>?_);simp only[aLP,aY9,a3v];refine ba7 (aLA ?_);have hb:(pendingOf st3).back?=none:=by
     rw[b3.pend];rfl
    rw[hb];dsimp only;exact ba7 (aiW (aG3 (.inr ⟨by lia,rfl,uJ.of b3 s3⟩)))
   .rw [afn lt];have em:m=a₀.size:=by lia
    subst em;refine ba7 (aLA ?_);have hb:(pendingOf st2).back?=none:=by
     rw[b2.pend];rfl
    rw[hb];dsimp only;exact ba7 (aiW (aG3 (.inr ⟨by lia,rfl,uJ.of b2 s2⟩)))
  .dsimp only;rw[aaU (ags _)];exact aG3 ⟨rfl,hD⟩
 case after=>
  rintro c st1 ⟨rfl,hD⟩;dsimp only;refine ba7 (ash (aJo (I:=λ_ c st2=>st2=st1/\c=(none,())) (Q:=λc st2=>st2=st1/\c=(none,())) ?_ (λ_ _ hh=>hh) ⟨rfl,rfl⟩) ?_)
  .rintro x c st2 _ _ ⟨rfl,rfl⟩;refine ba7 (aLA ?_);rw[aaU (by rw[hD.2.2.1];exact ags 1)];exact aG3 ⟨rfl,rfl⟩
  .rintro c st2 ⟨rfl,rfl⟩;exact aG3 (h _ hD.1 hD.2.1 hD.2.2.2)
end
end L2.Ti
namespace L2
open PySem PySem.Spec PyProof.Rows
def BMod(base:Heap)(mg:Str->Option Value):Prop:=∃bm o,mg "__builtins__"=some (.ref bm)/\bm≠builtinsNs/\bm≠mainGlobals/\base.get? bm=some o/\o.cls=.type "module" /\o.dict=some builtinsNs/\o.data=.plain
section
variable{X:Cx}{pins:List (Addr×Obj)}{σ:St}{H:Hp}{s:Shared}
theorem Inv.grown{P c':Addr}{pos:Pos}{qual:Str}{ps:Array Value}{h':Heap}{tk:Nat}(I:Inv X pins σ H s)(hP:H P=some (.nA pos qual))(hx:Heap.ExtBut P s.heap h')(hge:s.heap.objs.size<=c')(hrec:h'.CodeRec (.ref c') qual)
  (htr:TriplesOk ps.toList) (hnf:codeAmong pos ps.toList=none) (htb:h'.get? P=some { cls:=.none,data:=.fields (ps++#[rawInt pos.line,rawInt pos.col,.ref c']) }) :
  ∃oc vs t,h'.get? c'=some oc/\oc.data=.fields vs/\vs[1]?=some (.str qual t)/\Inv X pins σ (upd H c' (.cR oc (.own P))) { s with heap:=h',toks:=tk }:=by
 obtain⟨c,oc,vs,t,z,hoc,hd,hv⟩:=hrec;cases z;have fr:H c'=none:=I.hok.fresh hge;have nP:∀b,H b=none->b≠P:=λb n z=>by rw[z,hP]at n;cases n
 have nc:∀b u,H b=some u->b≠c':=λb u e=>Zf e fr;have nh:∀b o,s.heap.get? b=some o->b≠c':=λb o e=>ar8 (aJC (aYz e) hge);have cP:c'≠P:=λz=>by rw[z,hP]at fr;cases fr
 refine⟨oc,vs,t,hoc,hd,hv,I.step (g':=s.gens) (d':=s.drawn) (t':=tk) (ch:=[]) (h':=h') (H':=upd H c' (.cR oc (.own P))) (λ_ z=>nomatch z) (λb o _ _ _ e n=>hx b o (nP b n) e) (λb o _ _ _ e n=>⟨o.slots,hx b o (nP b n) e⟩)
  (λb o _ e n=>by rw[Zc (nh b o e)];exact n) (λb o _ e=>?_) (λb xs e=>by rw[Zc (nc b _ e)];exact e) (λb o u e=>by rw[Zc (nc b _ e)];exact e) (λb p q e=>by rw[Zc (nc b _ e)];exact e) (λm hm=>?_) (λb u e=>?_) I.bare⟩
 .by_cases hb:b=P
  .subst hb;exact⟨_,htb⟩
  .exact ⟨o,hx b o hb e⟩
 .obtain ⟨o,es,ep,ho,r⟩:=hm;exact⟨o,es,ep,hx _ o (nP _ I.free) ho,r⟩
 .by_cases hb:b=c'
  .subst hb;rw[Za]at e;cases e;exact⟨hoc,_,hoc⟩
  .rw [Zc hb]at e;by_cases Py:b=P
   .subst Py;rw[hP]at e;cases e;have e1:(ps++#[rawInt pos.line,rawInt pos.col,Value.ref c']).toList=ps.toList++[rawInt pos.line,rawInt pos.col,.ref c']:=by simp
    refine⟨_,htb,?_,λcv hc=>?_⟩
    .rw [e1];exact TriplesOk_snoc _ _ _ _ htr
    .rw [e1,codeAmong_snoc _ htr hnf]at hc;cases hc;exact⟨c',oc,vs,t,rfl,Za,hd,hv⟩
   .refine (I.hok b u e).stay (λd v hd' q=>hx d v ?_ q) (λd q=>by rw[Zc (nc d _ q)];exact q) (λd xs q=>by rw[Zc (nc d _ q)];exact q) λd oz q=>by rw[Zc (nc d _ q)];exact q
    rcases hd' with rfl|hd'
    .exact Py
    .intro z;rw[z,hP]at hd';cases hd'
structure qT(X:Cx)(scope:Scope)(x:Str)(fr:List Str)(js:List Nat):Prop where
 kind:scope.kind=.function
 co:scope.isCoroutine=false
 gen:scope.isGenerator=false
 wV:∀y∈scope.names,y.2≠.cell
 par:scope.names.lookup x=some .local
 free:∀y∈scope.names,y.2=.free->X.env.kindOf y.1=some .cell\/X.env.kindOf y.1=some .free
 len:fr.length=js.length
 js:∀(k j:Nat),js[k]?=some j->fr[k]?=X.N[j]?
 jf:∀(k:Nat)(y:Str),fr[k]?=some y->scope.names.lookup y=some .free
def jt(X:Cx)(A:Around)(N:List Str)(qual:Str)(scope:Scope)(f:Addr)(cd:Value)(cl:List (Str×Addr))(s:Shared)(H:Hp):Cx where
 prog:=X.prog
 w:=X.w
 K:=X.K
 mg:=X.mg
 base:=X.base
 A:=A.deeper (W.envX qual scope s.heap.objs.size f cd cl)
 N:=N
 s₀:=s
 H₀:=H
 env:=W.envX qual scope s.heap.objs.size f cd cl
 outer:=X.stack
 stack:=W.envX qual scope s.heap.objs.size f cd cl ::X.stack
 ex:=[]
 calm:=true
 fn:=λ_=>false
 pn:=[]
 xe:=λ_ _=>False
theorem YQ{A:Around}{x:Str}{fr:List Str}{js:List Nat}{qual:Str}{scope:Scope}{f:Addr}{cd:Value}{cl:List (Str×Addr)}{s1:Shared}{u:Value}{v:V}(c:qT X scope x fr js)(I:Inv X pins σ H s)(hA:A.frames=some X.stack)(hh:A.handled=none)
  (jN:∀x c,cl.lookup x=some c->X.env.cells.lookup x=some c) (oX:∀p∈scope.names,p.2=.free->∃c,cl.lookup p.1=some c) (r:RelV v u)
  (hn:s1.heap.Ns s.heap.objs.size λy=>[(x,u)].reverse.lookup y) (hk:∀b o,s.heap.get? b=some o->s1.heap.get? b=some o) (hos:s1.os=s.os) (hg:s1.gens=s.gens) :
  Inv (jt X A (x ::fr) qual scope f cd cl s H) [] (some v ::js.map λj=>(σ[j]?).join) H s1:=by
 have Cg:∀b:Addr,b∉(jt X A (x ::fr) qual scope f cd cl s H).ex:=λb z=>absurd (show b∈([]:List Addr) from z) (by simp);have ok:(jt X A (x ::fr) qual scope f cd cl s H).Ok:=by
  refine⟨I.ok.mod,c.kind,rfl,rfl,ags _,λy z d e1 e2=>I.ok.inj y z d (jN _ _ e1) (jN _ _ e2),λy hy=>?_,λy d z _=>absurd z (by simp[jt]),λ_=>hh,Around.frames_deeper hA,.inr ⟨rfl,rfl⟩,λb z=>absurd z (Cg b),I.bs,a0n I.ok.yp I.sz,λb _ _=>Cg b,λb z=>absurd z (Cg b),I.stack,I.nC⟩;have hy:scope.names.lookup y=some .cell\/scope.names.lookup y=some .free:=hy;rcases hy with hy|hy
  .exact absurd rfl (c.wV _ (ZL hy))
  .exact oX _ (ZL hy) rfl
 refine⟨ok,hos,by rw[hg];exact I.bare,Un.kept hk,⟨_,hn,λi y v' e1 e2 e3=>?_⟩,λy d e=>?_,I.hok.fresh (ags _),λy d e=>I.dD y d (jN y d e),λp hp=>absurd (show p∈([]:List (Addr×Obj)) from hp) (by simp),I.hok.kept hk,?_⟩
 .cases i with
  |zero=>
   have qv:x=y:=by simpa[jt]using e1
   have qu:v=v':=by simpa using e2
   subst qv;subst qu;refine⟨u,r,.inl ⟨c.par,?_⟩⟩;show([(x,u)]:List (Str×Value)).reverse.lookup x=some u;simp
  |succ k=>
   have qv:fr[k]?=some y:=by simpa[jt]using e1
   rw[a5h,acC]at e2;cases q:js[k]? with
   |none=>rw[q]at e2;cases e2
   |some j=>
    rw[q]at e2;have qu:(σ[j]?).join=some v':=by simpa using e2
    have e4:σ[j]?=some (some v'):=by
     cases z:σ[j]? with
     |none=>rw[z]at qu;cases qu
     |some o=>rw[z]at qu;rw[show o=some v' from qu]
    have Mm:X.N[j]?=some y:=(c.js k j q).symm.trans qv;have hfr:=c.jf k y qv;have hk2:=c.free _ (ZL hfr) rfl;have vis:HV X.env.scope y:=by
     rcases hk2 with z|z
     .exact .inr (.inl z)
     .exact .inr (.inr z)
    obtain⟨m,_,hl⟩:=I.loc;obtain⟨u',r',l⟩:=hl j y v' Mm e4 vis;refine⟨u',r',?_⟩;rcases l with⟨z,_⟩|⟨_,d,e,⟨od,ho,hd⟩⟩
    .rcases hk2 with y'|y'
     .rw [show X.env.kindOf y=_ from z]at y';cases y'
     .rw [show X.env.kindOf y=_ from z]at y';cases y'
    .obtain ⟨d',e'⟩:=oX _ (ZL hfr) rfl;have z':=jN _ _ e';have:d'=d:=by rw[e]at z';exact(a9h z').symm
     subst this;exact .inr ⟨.inr hfr,d',e',⟨od,hk _ _ ho,hd⟩⟩
 .obtain ⟨v',⟨o,ho,hd⟩⟩:=I.cell y d (jN y d e);exact⟨v',o,hk _ _ ho,hd⟩
 .show (some v ::_:List (Option V)).length=(x ::fr).length;rw[a83,a83,axO,c.len]
theorem ZhQ{A:Around}{x:Str}{fr:List Str}{js:List Nat}{name qual:Str}{params:Arguments}{body:PySem.Expr}{scope:Scope}{f:Addr}{pm cd ct:Value}{cl:List (Str×Addr)}{u:Value}{v:V}{te:TE}{Q:VK}{E:Value->Shared->Prop}{of:Obj}(c:qT X scope x fr js)(I:Inv X pins σ H s)
  (hA:A.frames=some X.stack) (hh:A.handled=none) (Ml:A.depth<recursionLimit)
  (jN:∀x c,cl.lookup x=some c->X.env.cells.lookup x=some c) (oX:∀p∈scope.names,p.2=.free->∃c,cl.lookup p.1=some c)
  (ho:s.heap.get? f=some of) (hof:of.data=.func (W.kla_fn name qual params body scope cl pm cd ct)) (hcd:s.heap.CodeRec cd qual)
  (hb:∀u,bindArgs (W.kla_fn name qual params body scope cl pm cd ct) ⟨[u],[]⟩=pure [(x,u)]) (r:RelV v u)
  (he:∀s,PE (jt X A (x ::fr) qual scope f cd cl s H) body te) (h:te (some v ::js.map λj=>(σ[j]?).join) H Q) :
  wpAny (model X.prog X.w) A (call (.ref f) [u]) (EP X pins σ Q) E s:=by
 refine wpAny_call (codeAny_mono (R:=λr s'=>∃u',r=.ok (.ret u')/\CE X.stack X.prog X.w H s Q u' s') (W.kla_callFunE Ml ho hof c.co c.gen rfl hcd (by
  rw[hb u];refine aJq ?_;refine wpAny_newFunctionEnv c.wV (λy hy=>by rw[apU.mp hy];exact c.par) (λh₁ hns lD=>?_) c.kind;have hk₁:∀b o,s.heap.get? b=some o->h₁.get? b=some o:=λb o e=>lD.extBut b o (ar8 (aYz e)) (a8r _ e);refine⟨I.nolimit.keeps hk₁,?_⟩;have J:=YQ (qual:=qual) (f:=f) (cd:=cd) (s1:={ s with heap:=h₁,toks:=s.toks+[(x,u)].length }) c I hA hh jN oX r hns hk₁ rfl rfl;refine W.kla_codeExpr (a4X (he s [] _ _ H Q J h) (λu' s' hq=>?_) λ_ _ z=>z.elim);obtain⟨v',H',J',rv,q⟩:=hq;exact⟨u',rfl,v',H',J'.os,J'.bare,J'.base,J'.hok,rv,q⟩)) λr s' hq=>?_)
 obtain⟨u',rfl,hq⟩:=hq;exact I.after hq
theorem ZhR{P c0:Addr}{x:Str}{fr:List Str}{js:List Nat}{params:Arguments}{body:PySem.Expr}{scope:Scope}{pos:Pos}{R:Value->Shared->Prop}(c:qT X scope x fr js)(I:Inv X pins σ H s)(hc0:X.env.code=.ref c0)(hcd:W.codeHdIn X.K c0 P=true)
  (bm:BMod X.base X.mg) (hP:H P=some (.nA pos (X.env.qual ++ "<lambda>"))) (hd0:params.defaults=[]) (hk0:params.kw_defaults=[])
  (h:∀f cl cd pm ct of H' s',Inv X pins σ H' s'->aB H H'->(∀x c,cl.lookup x=some c->X.env.cells.lookup x=some c)->(∀p∈scope.names,p.2=.free->∃c,cl.lookup p.1=some c) -> 
   H' f=some (.cR of (.own 0))->of.data=.func (W.kla_fn "<lambda>" (X.env.qual ++ "<lambda>") params body scope cl pm cd ct)->(∃c' oc vs t,cd=.ref c'/\H' c'=some (.cR oc (.own P))/\oc.data=.fields vs/\vs[1]?=some (.str (X.env.qual ++ "<lambda>") t))->R (.ref f) s') :
  wpAny (model X.prog X.w) X.A (eval (.Lambda params body scope pos) X.env) R X.xe s:=by
 obtain⟨cl,e1,jN,_,oX⟩:=HQ (env:=X.env) scope.names [] (λp hp hf=>I.ok.has _ (c.free p hp hf)) (λx d e=>by simp at e);have hclos:closureFor scope X.env=pure cl:=by
  unfold closureFor;refine(azy (λz=>z >>= λcs=>pure cs) e1).trans ?_;rfl
 have CH:=W.codeHd_of_K I.dI hcd;obtain⟨ps,hps,htr,hcode⟩:=(show aH X.prog X.w H s.heap P (.nA pos (X.env.qual ++ "<lambda>")) from I.hok P _ hP);have hg:=I.ok.mod.glob.keeps I.bk;have hgP:mainGlobals≠P:=λq=>by
  obtain⟨o,es,ep,e,hd,_⟩:=hg;rw[q,hps]at e;cases e;cases hd
 have hb:s.heap.BuiltinsAt X.mg P:=by
  obtain⟨b,o,a1,a2,a3,a4,a5,a6,a7⟩:=bm;have e:=I.bk _ _ a4;exact⟨b,o,a1,a2,a3,(λz=>by rw[z,hps]at e;cases e;cases a5),e,a5,a6,a7⟩
 rw[arm_eval_Lambda,defaultsOf_eq,hd0,hk0];show wpAny _ _ (do let dv <-evalAll (evalEach [] X.env);let Wk <-holding dv (evalAllOpt []);makeFunction "<lambda>" (X.env.qual ++ "<lambda>") params (.expr body) scope X.env dv Wk [] pos pos.line) _ _ s;refine asu (evalAll_nil ?_);refine asu (aaC (aJq ?_));cases hf:codeAmong pos ps.toList with
 |some cv=>
  obtain⟨c',oc,vs,t,rfl,hH,hd,hv⟩:=hcode cv hf;refine W.kla_makeFunctionHit hclos I.ok.glob hg hc0 CH hps htr hf hb λctv h' tk hk hsz=>?_;have I1:=I.laid (a:=h'.objs.size) (t':=tk) (o:=.cR { cls:=.type "function",data:=.func (W.kla_fn "<lambda>" (X.env.qual ++ "<lambda>") params body scope cl ((X.mg "__name__").getD .none) (.ref c') ctv) } (.own 0)) (h':=h'.push { cls:=.type "function",data:=.func (W.kla_fn "<lambda>" (X.env.qual ++ "<lambda>") params body scope cl ((X.mg "__name__").getD .none) (.ref c') ctv) }) (λb o e=>a8r _ (hk b o e)) hsz ⟨arT _ rfl,_,arT _ rfl⟩;have fr:=I.hok.fresh hsz;exact h _ cl _ _ _ _ _ _ I1 (Ze fr _) jN oX Za rfl ⟨c',oc,vs,t,rfl,by rw[Zc (Zf hH fr)];exact hH,hd,hv⟩
 |none=>
  refine W.kla_makeFunction hclos I.ok.glob hg hc0 CH hps htr hf hgP hb λc' ctv h' tk hx hge hlt hrec htb=>?_;obtain⟨oc,vs,t,hoc,hd,hv,I1⟩:=I.grown (tk:=tk) hP hx hge hrec htr hf htb;have fr:H c'=none:=I.hok.fresh hge;have GN:upd H c' (.cR oc (.own P)) h'.objs.size=none:=I1.hok.fresh (ags _);have I2:=I1.laid (a:=h'.objs.size) (t':=tk) (o:=.cR (W.kla_obj "<lambda>" (X.env.qual ++ "<lambda>") params body scope cl ((X.mg "__name__").getD .none) c' ctv) (.own 0)) (h':=h'.push (W.kla_obj "<lambda>" (X.env.qual ++ "<lambda>") params body scope cl ((X.mg "__name__").getD .none) c' ctv)) (λb o e=>a8r _ e) (ags _) ⟨arT _ rfl,_,arT _ rfl⟩;exact h _ cl _ _ _ _ _ _ I2 ((Ze fr _).trans (Ze GN _)) jN oX Za rfl ⟨c',oc,vs,t,rfl,by rw[Zc (Zf Za GN)];exact Za,hd,hv⟩
end
end L2
namespace L2
open PySem PySem.Spec PyProof.Rows L2.Ti
def Ac(key:Int->Int)(ns:List Int)(a b:Int):Prop:=key a<key b\/(key a=key b/\ns.idxOf a<ns.idxOf b)
theorem ZhS{l:List Keyed}(h:∀p∈l,∃t,p.2=.int (numOf p.2) t):Vals ((l.map λp=>numOf p.2).map V.int) (l.map (·.2)):=by
 induction l with
 |nil=>exact .nil
 |cons p r ih=>
  obtain⟨t,e⟩:=h p aTL;exact .cons ⟨t,e⟩ (ih λq hq=>h q (arx _ hq))
theorem NG{vs:List Value}{ns:List Int}(h:IntsAre vs ns):∀{i:Nat}{v:Value},vs[i]?=some v->∃n t,ns[i]?=some n/\v=.int n t:=by
 induction h with
 |nil=>intro i v e;simp at e
 |cons n t _ ih=>
  intro i v e;cases i with
  |zero=>exact⟨n,t,rfl,by simpa using e.symm⟩
  |succ i=>exact ih (by simpa using e)
theorem Qh:∀{ns:List Int},ns.Nodup->∀{i:Nat}{n:Int},ns[i]?=some n->ns.idxOf n=i
 | [],_,_,_,e=>by simp at e
 |x ::r,nd,0,n,e=>by
  have e':x=n:=by simpa using e
  subst e';simp
 |x ::r,nd,i+1,n,e=>by
  obtain⟨h1,h2⟩:=baB.mp nd;have e':r[i]?=some n:=by simpa using e
  have ne:x≠n:=λz=>h1 (z ▸bcc e');rw[List.idxOf_cons,show(x ==n)=false by simpa using ne];show r.idxOf n+1=i+1;rw[Qh h2 e']
theorem Sj{keys:Array Value}{vs:List Value}{ns:List Int}{key:Int->Int}(hk:IntsAre keys.toList (ns.map key))(hv:IntsAre vs ns)(nd:ns.Nodup) :
  jd (λp=>ns.idxOf (numOf p.2)) (keys.zip vs.toArray) 0/\∀xs:Array Keyed,xs.Perm (keys.zip vs.toArray)->qZ (λp=>ns.idxOf (numOf p.2)) xs xs.size ->
   ∃os:List Int,Vals (os.map V.int) (xs.map (·.2)).toList/\os.Perm ns/\os.Pairwise (Ac key ns):=by
 have lk:keys.size=ns.length:=by have:=hk.length;rw[ak9,axO]at this;lia
 have lv:vs.length=ns.length:=by have:=hv.length;lia
 have MM:∀(i:Nat)(p:Keyed),(keys.zip vs.toArray)[i]?=some p->∃n t t',ns[i]?=some n/\p=(Value.int (key n) t,Value.int n t'):=λi p e=>by
  have e':(keys.toList.zip vs)[i]?=some p:=by rw[<-ksk_zip,bd9];exact e
  rw[List.getElem?_zip_eq_some]at e';obtain⟨n1,t1,q1,r1⟩:=NG hk e'.1;obtain⟨n2,t2,q2,r2⟩:=NG hv e'.2;rw[acC,q2]at q1;have Fl:key n2=n1:=by simpa using q1
  exact⟨n2,t1,t2,q2,Prod.ext (by rw[r1,Fl]) r2⟩
 have zp:∀p∈(keys.zip vs.toArray).toList,∃n t t',n∈ns/\p=(Value.int (key n) t,Value.int n t'):=λp hp=>by
  obtain⟨i,e⟩:=List.getElem?_of_mem hp;rw[bd9]at e;obtain⟨n,t,t',q,r⟩:=MM i p e;exact⟨n,t,t',bcc q,r⟩
 refine⟨λi _ hi=>?_,λxs hp hi=>?_⟩
 .obtain ⟨n,t,t',q,r⟩:=MM i _ (alK hi);unfold Rk;rw[alK hi,r];show ns.idxOf n=i;exact Qh nd q
 .have pm:=aUN.mp hp;have Cj:∀p∈xs.toList,∃n t t',n∈ns/\p=(Value.int (key n) t,Value.int n t'):=λp Cr=>zp p (pm.mem_iff.mp Cr);refine⟨xs.toList.map λp=>numOf p.2,?_,?_,?_⟩
  .rw [Array.toList_map];refine ZhS λp Cr=>?_;obtain⟨n,t,t',_,rfl⟩:=Cj p Cr;exact⟨t',rfl⟩
  .have e:(keys.zip vs.toArray).toList.map (λp=>numOf p.2)=ns:=by
    apply aAT;intro i;rw[acC,bd9];by_cases hlt:i<(keys.zip vs.toArray).size
    .obtain ⟨n,t,t',q,r⟩:=MM i _ (alK hlt);rw[alK hlt,r,q];rfl
    .have lz:(keys.zip vs.toArray).size=ns.length:=by rw[Array.size_zip,lk,aCS,lv,Nat.min_self]
     rw[Array.getElem?_eq_none (by lia),baC (by lia)];rfl
   rw[<-e];exact pm.map _
  .rw [pairwise_iff_getElem];intro i j hi' hj' hij;have hi2:i<xs.size:=by simpa using hi'
   have hj2:j<xs.size:=by simpa using hj'
   have v:=hi i j hij hj2;obtain⟨n1,t1,t1',_,r1⟩:=Cj xs[i] (by simp);obtain⟨n2,t2,t2',_,r2⟩:=Cj xs[j] (by simp);have k1:K xs i=key n1:=by rw[K_eq hi2,r1];rfl
   have k2:K xs j=key n2:=by rw[K_eq hj2,r2];rfl
   have q1:Rk (λp=>ns.idxOf (numOf p.2)) xs i=ns.idxOf n1:=by unfold Rk;rw[alK hi2,r1];rfl
   have q2:Rk (λp=>ns.idxOf (numOf p.2)) xs j=ns.idxOf n2:=by unfold Rk;rw[alK hj2,r2];rfl
   have g1:(xs.toList.map λp=>numOf p.2)[i]=n1:=by simp[r1,numOf]
   have g2:(xs.toList.map λp=>numOf p.2)[j]=n2:=by simp[r2,numOf]
   rw[g1,g2];unfold gC at v;rw[k1,k2,q1,q2]at v;exact v
section
variable{X:Cx}{pins:List (Addr×Obj)}{σ:St}{H:Hp}{s:Shared}{d:Addr}{xs:List V}{o:Obj}
theorem Inv.yF(I:Inv X pins σ H s)(h:H d=some (.cR o (.lst xs)))(h0:∀o' u,X.H₀ d≠some (.cR o' u)):Inv X pins σ (upd H d (.lst xs)) s:=by
 have ne:∀b u,H b=some u->u≠.cR o (.lst xs)->b≠d:=λb u e n z=>by rw[z,h]at e;exact n (a9h e).symm
 have nn:∀b,H b=none->b≠d:=λb e z=>by rw[z,h]at e;cases e
 refine⟨I.ok,I.os,I.bare,⟨I.base.keep,I.base.slot,λb o' e n hx=>?_,I.base.there,λb ys e=>?_,λb o' u e=>?_,λb p r e=>?_⟩,I.loc,I.cell,?_,λx c e=>?_,λp hp=>?_,λb u e=>?_,I.len⟩
 .have q:=I.base.free b o' e n hx;rw[Zc (nn b q)];exact q
 .have q:=I.base.tups b ys e;rw[Zc (ne b _ q (by intro z;cases z))];exact q
 .have q:=I.base.jM b o' u e;rw[Zc (λz=>h0 o' u (by rw[<-z];exact e))];exact q
 .have q:=I.base.j0 b p r e;rw[Zc (ne b _ q (by intro z;cases z))];exact q
 .rw [Zc (nn _ I.free)];exact I.free
 .rw [Zc (nn _ (I.dD x c e))];exact I.dD x c e
 .obtain ⟨a1,a2,a3⟩:=I.pin p hp;exact⟨a1,by rw[Zc (nn _ a2)];exact a2,a3⟩
 .by_cases hb:b=d
  .subst hb;rw[Za]at e;cases e;exact(I.hok b _ h).2
  .rw [Zc hb]at e;exact(I.hok b u e).stay (λ_ _ _ z=>z) (λc z=>by rw[Zc (ne c _ z (by intro y;cases y))];exact z) (λc ys z=>by rw[Zc (ne c _ z (by intro y;cases y))];exact z) λc oz z=>by rw[Zc (ne c _ z (by intro y;cases y))];exact z
theorem Si{a kS:Addr}{st:SortSt}{e1:Nat}{H1:Hp}{ns:List Int}{key:Int->Int}{keys:Array Value}{its:List Value}{ks:List V}{A:Around}{E:Value->Shared->Prop}{R:PySem.Fin->Shared->Prop}(I:Inv X pins σ H1 s)(hk:IntsAre keys.toList (ns.map key))(hv:IntsAre its ns)(nd:ns.Nodup)(h64:ns.length<64)
  (ha:H1 a=some (.cR (seqObj "list" #[] e1) (.lst []))) (h0:∀o' u,X.H₀ a≠some (.cR o' u)) (DQ:H1 kS=some (.lst ks)) (hlk:ks.length<=64) (hp:(arrOf st).Perm (keys.zip its.toArray)) (hi:qZ (λp=>ns.idxOf (numOf p.2)) (arrOf st) (arrOf st).size) (hf:failedOf st=none)
  (h:∀(H':Hp)(s':Shared)(os:List Int),Inv X pins σ H' s'->(∀b,b≠a->b≠kS->H' b=H1 b)->H' a=some (.lst (os.map V.int))->os.Perm ns->os.Pairwise (Ac key ns)->R (.done (.ret .none)) s') :
  wpAny (model X.prog X.w) A (ksk_tail a false e1 (.ref kS) st) R E s:=by
 have I0:a≠kS:=λz=>by rw[z,DQ]at ha;cases ha
 obtain⟨os,vo,po,so⟩:=(Sj hk hv nd).2 _ hp hi;have lo:=po.length_eq;unfold ksk_tail;try dsimp only
 obtain⟨_,xq,n,rK,Pq,eK⟩:=I.rL DQ;have lK:xq.length<=64:=by have:=rK.length;lia
 refine asu (baO eK rfl ?_ (by rw[aCS,a3Q];lia) (aL2 _));have I6:=I.xh (t':=s.toks) (f:=λ_=>#[]) (its':=[]) (ys:=[]) DQ eK rfl .nil (aL2 _);have Pz:upd H1 kS (.lst []) a=some (.cR (seqObj "list" #[] e1) (.lst [])):=by rw[Zc I0];exact ha
 have oa:=(I6.hok a _ Pz).1;refine asu (wpAny_letGo ?_);refine asu (seqEpoch_at oa rfl ?_);have lo2:((arrOf st).map (·.2)).size=ns.length:=by
  have e:=vo.length;rw[axO]at e;have e2:((arrOf st).map (·.2)).toList.length=((arrOf st).map (·.2)).size:=ak9;lia
 refine asu (baO oa rfl ?_ (aL2 _) (by simp only[aY9,a3v];rw[lo2,a3Q];lia));rw[hf];simp only[bne_self_eq_false,aY9,a3v];have I7:=I6.yF Pz h0;have I8:=I7.xh (t':=s.toks) (f:=λ_=>(arrOf st).map (·.2)) (its:=[]) (its':=((arrOf st).map (·.2)).toList) (ys:=os.map V.int) Za oa (by exact(Array.toArray_toList).symm) vo (by rw[axO,a3Q];lia);refine aJq (h _ _ os I8 (λb n1 n2=>?_) Za po so);rw[Zc n1,Zc n1,Zc n2]
theorem YO{a kS:Addr}{e1:Nat}{H1:Hp}{ns:List Int}{key:Int->Int}{keys:Array Value}{its:List Value}{ks:List V}{A:Around}{E:Value->Shared->Prop}{R:PySem.Fin->Shared->Prop}(I:Inv X pins σ H1 s)(hk:IntsAre keys.toList (ns.map key))(hv:IntsAre its ns)(nd:ns.Nodup)(h64:ns.length<64)
  (ha:H1 a=some (.cR (seqObj "list" #[] e1) (.lst []))) (h0:∀o' u,X.H₀ a≠some (.cR o' u)) (DQ:H1 kS=some (.lst ks)) (hlk:ks.length<=64)
  (h:∀(H':Hp)(s':Shared)(os:List Int),Inv X pins σ H' s'->(∀b,b≠a->b≠kS->H' b=H1 b)->H' a=some (.lst (os.map V.int))->os.Perm ns->os.Pairwise (Ac key ns)->R (.done (.ret .none)) s') :
  wpAny (model X.prog X.w) A (ksk_end a false its.toArray e1 (.ref kS) keys) R E s:=by
 have lk:keys.size=ns.length:=by have:=hk.length;rw[ak9,axO]at this;lia
 have lv:its.length=ns.length:=by have:=hv.length;lia
 have hzs:(keys.zip its.toArray).size=ns.length:=by rw[Array.size_zip,lk,aCS,lv,Nat.min_self]
 obtain⟨Pa,_⟩:=Sj hk hv nd;unfold ksk_end;simp only[aY9,a3v];by_cases h2:its.toArray.size<2
 .rw [aaU h2,aaU h2];refine asu (aJq ?_);rw[StateT.run_pure];refine asu (aJq ?_);try dsimp only
  refine Si (st:=SortSt.mk' general' (keys.zip its.toArray) #[] 7 none) I hk hv nd h64 ha h0 DQ hlk (ayB _) (λi j hij hj=>?_) rfl h;have hj2:j<(keys.zip its.toArray).size:=hj;rw[aCS]at h2;lia
 .rw [afn h2,afn h2];rw[aCS]at h2;rw[ksk_kind hk (by rw[lk];lia)];refine asu (aJq ?_);refine asu (a4X (YR (ρ:=λp=>ns.idxOf (numOf p.2)) (a₀:=keys.zip its.toArray) (st:=SortSt.mk' oneType' (keys.zip its.toArray) #[] 7 none)
   (Q:=λ_ st1=>(arrOf st1).Perm (keys.zip its.toArray)/\failedOf st1=none/\qZ (λp=>ns.idxOf (numOf p.2)) (arrOf st1) (keys.zip its.toArray).size)
   (ksk_intKeys hk) Pa ⟨ayB _,rfl,rfl,rfl⟩ Pa (by rw[hzs];lia) (by rw[hzs];exact h64) λst1 a1 a2 a3=>⟨a1,a2,a3⟩) ?_ λ_ _ e=>e)
  rintro⟨⟨⟩,st1⟩ s1 ⟨rfl,hp,hf,hs⟩;try dsimp only
  exact Si I hk hv nd h64 ha h0 DQ hlk hp (by rw[hp.size_eq];exact hs) hf h
theorem ZhT{l f:Addr}{ns:List Int}{key:Int->Int}{Q:VK}{E:Value->Shared->Prop}(I:Inv X pins σ H s)(hq:az X.K H l (ns.map V.int))(h64:ns.length<64)(nd:ns.Nodup)
  (turn:∀z∈ns,∀H1 s1 u,aB H H1->Inv X pins σ H1 s1->RelV (.int z) u->wpAny (model X.prog X.w) X.A.in1.in1 (call (.ref f) [u]) (EP X pins σ λv H'=>v=.int (key z)/\H'=H1) (λ_ _=>False) s1)
  (q:∀(D:Addr)(H':Hp)(os:List Int),H D=none->aB H H'->H' D=some (.lst (os.map V.int))->os.Perm ns->os.Pairwise (Ac key ns)->Q (.ref D) H') :
  wpAny (model X.prog X.w) X.A (call (.builtin "sorted") [.ref l] [(Str.ofString "key",.ref f)]) (EP X pins σ Q) E s:=by
 obtain⟨its,rv,pl,hz⟩:=I.list hq;have hv:=NO rv;have lv:its.length=ns.length:=by have:=rv.length;rw[axO]at this;exact this.symm
 refine call_function_entry_kw kind_sorted plain_sorted entry_sorted (ksk_s1 _ _) ?_;unfold Builtin.«sorted»;refine asu (m:=checkCount "sorted" 1 1 _) (aJq ?_);refine asu (collect_list pl.isList ?_ (by rw[a3Q];lia));refine asu (aPS ?_ (by rw[a3Q];lia));have hsz:((s.heap.push (seqObj "list" #[] 0)).update s.heap.objs.size (Obj.mapSeq (·++its.toArray))).objs.size=s.heap.objs.size+1:=by
  rw[Heap.size_update,size_push']
 have tU:(((s.heap.push (seqObj "list" #[] 0)).update s.heap.objs.size (Obj.mapSeq (·++its.toArray))).push (seqObj "list" its.toArray 0)).get? (s.heap.objs.size+1)=some (seqObj "list" its.toArray 0):=by
  rw[<-hsz];exact arT _ rfl
 have keep:∀b o,s.heap.get? b=some o->(((s.heap.push (seqObj "list" #[] 0)).update s.heap.objs.size (Obj.mapSeq (·++its.toArray))).push (seqObj "list" its.toArray 0)).get? b=some o:=λb o e=>by
  have lt:b<s.heap.objs.size:=aYz e;rw[asw _ _ _ (by rw[hsz];exact ar8 (a2T lt)),aWq _ _ _ _ (ar8 lt),asw _ _ _ (ar8 lt)];exact e
 show wpAny _ _ _ _ _ { s with heap:=((s.heap.push (seqObj "list" #[] 0)).update s.heap.objs.size (Obj.mapSeq (·++its.toArray))).push (seqObj "list" its.toArray 0) };rw[hsz];have hsz1:(((s.heap.push (seqObj "list" #[] 0)).update s.heap.objs.size (Obj.mapSeq (·++its.toArray))).push (seqObj "list" its.toArray 0)).objs.size=s.heap.objs.size+2:=by rw[size_push',hsz]
 generalize((s.heap.push (seqObj "list" #[] 0)).update s.heap.objs.size (Obj.mapSeq (·++its.toArray))).push (seqObj "list" its.toArray 0)=h1 at *;refine asu (aaC (wpAny_call_entry_kw slot_list_sort ⟨_,tU,rfl⟩ entry_list_sort ?body (ksk_l1 _ _)))
 case body=>
  show wpAny (model X.prog X.w) X.A.in1.in1 (Builtin.«list.sort» ⟨[.ref (s.heap.objs.size+1)],[(Str.ofString "key",.ref f)]⟩) _ _ _;rw[ksk_t1];unfold ksk_tree;refine asu (listItems_at tU rfl ?_);refine asu (baO tU rfl ?_ (by rw[aCS,a3Q];lia) (aL2 _));obtain⟨e1,Pn⟩:∃e1,(h1.update (s.heap.objs.size+1) (Obj.mapSeq λ_=>(#[]:Array Value))).get? (s.heap.objs.size+1)=some (seqObj "list" #[] e1):=⟨_,get?_update_seq tU λ_=>#[]⟩;have F5:∀b o,s.heap.get? b=some o->(h1.update (s.heap.objs.size+1) (Obj.mapSeq λ_=>(#[]:Array Value))).get? b=some o:=λb o e=>by
   have lt:b<s.heap.objs.size:=aYz e;rw[aWq _ _ _ _ (ar8 (a2T lt))];exact keep b o e
  generalize h1.update (s.heap.objs.size+1) (Obj.mapSeq λ_=>(#[]:Array Value))=h2 at *;refine asu (seqEpoch_at Pn rfl ?_);refine asu (wpAny_newTuple ?_ (by show its.length<=_;rw[a3Q];lia));refine asu (aPS ?_ (aL2 _));refine aaC ?_;have fr:H (s.heap.objs.size+1)=none:=I.hok.fresh (apE _);have h0:∀o' u,X.H₀ (s.heap.objs.size+1)≠some (.cR o' u):=λo' u e=>by rw[I.base.jM _ _ _ e]at fr;cases fr
  have ho2:(h2.push (seqObj "tuple" its.toArray 0)).get? (s.heap.objs.size+1)=some (seqObj "list" #[] e1):=a8r _ Pn;have I3:=I.laid (a:=s.heap.objs.size+1) (t':=s.toks) (o:=.cR (seqObj "list" #[] e1) (.lst [])) (h':=h2.push (seqObj "tuple" its.toArray 0)) (λb o e=>a8r _ (F5 b o e)) (apE _) ⟨ho2,aL2 _,[],e1,.nil,ho2⟩;have DU:=I3.hok.fresh (ags _);have I4:=I3.laid (t':=s.toks) (o:=.lst []) (h':=(h2.push (seqObj "tuple" its.toArray 0)).push (seqObj "list" #[] 0)) (λb o e=>a8r _ e) (ags _) ⟨aL2 _,[],0,.nil,arT _ rfl⟩;have I0:s.heap.objs.size+1≠(h2.push (seqObj "tuple" its.toArray 0)).objs.size:=Zf Za DU;have sm:aB H (upd (upd H (s.heap.objs.size+1) (.cR (seqObj "list" #[] e1) (.lst []))) (h2.push (seqObj "tuple" its.toArray 0)).objs.size (.lst [])):=(Ze fr _).trans (Ze DU _);have PL:H (h2.push (seqObj "tuple" its.toArray 0)).objs.size=none:=(Ze fr _).free DU;have Mh:upd (upd H (s.heap.objs.size+1) (.cR (seqObj "list" #[] e1) (.lst []))) (h2.push (seqObj "tuple" its.toArray 0)).objs.size (.lst []) (h2.push (seqObj "tuple" its.toArray 0)).objs.size=some (.lst []):=Za;have ha0:upd (upd H (s.heap.objs.size+1) (.cR (seqObj "list" #[] e1) (.lst []))) (h2.push (seqObj "tuple" its.toArray 0)).objs.size (.lst []) (s.heap.objs.size+1)=some (.cR (seqObj "list" #[] e1) (.lst [])):=by rw[Zc I0];exact Za
  generalize upd (upd H (s.heap.objs.size+1) (.cR (seqObj "list" #[] e1) (.lst []))) (h2.push (seqObj "tuple" its.toArray 0)).objs.size (.lst [])=H4 at *;show wpAny (model X.prog X.w) X.A.in1.in1 (ksk_rest (s.heap.objs.size+1) (.ref f) false its.toArray e1 (.ref (h2.push (seqObj "tuple" its.toArray 0)).objs.size)) _ _ { s with heap:=(h2.push (seqObj "tuple" its.toArray 0)).push (seqObj "list" #[] 0) };generalize(h2.push (seqObj "tuple" its.toArray 0)).objs.size=kS at *;generalize(h2.push (seqObj "tuple" its.toArray 0)).push (seqObj "list" #[] 0)=h4 at *;unfold ksk_rest;refine asu (ajd ?_);rw[List.forIn_toArray];refine asu (ksk_fold (λi s1=>∃H1:Hp,Inv X pins σ H1 s1/\aB H H1/\H1 (s.heap.objs.size+1)=some (.cR (seqObj "list" #[] e1) (.lst []))/\H1 kS=some (.lst (((ns.take i).map key).map V.int))) its 0 _
   ⟨H4,I4,sm,ha0,Mh⟩ ?step ?done)
  case step=>
   rintro j x s1 hx ⟨H1,I1,s1',a1,k1⟩;simp only[aAR]at k1 ⊢;obtain⟨z,t,hz',rfl⟩:=NG hv hx;have hj:j<ns.length:=(aB9.mp hz').1;refine asu (wpAny_attempt (a4X (turn z (bcc hz') H1 s1 _ s1' I1 ⟨t,rfl⟩) (λv s2 he=>?_) λ_ _ hF=>hF.elim));obtain⟨v',H',I2,r2,rfl,rfl⟩:=he;try dsimp only
   obtain⟨_,xq,n,rK,Pq,eK⟩:=I2.rL k1;have lK:xq.length<=ns.length:=by
    have:=rK.length;rw[axO,axO,bbw]at this;lia
   refine asu (baO eK rfl ?_ (by rw[aCS,a3Q];lia) (by rw[Array.size_push,aCS,a3Q];lia));have ek:ns.take (j+1)=ns.take j++[z]:=by rw[List.take_succ,hz'];rfl
   have I5:=I2.xh (t':=s2.toks) (f:=(·.push v)) (its':=xq++[v]) (ys:=((ns.take (j+1)).map key).map V.int) k1 eK (by simp) (by rw[ek,ado,ado];exact rK.append (.cons r2 .nil)) (by rw[axO,axO,bbw,a3Q];lia);refine aJq ⟨rfl,_,I5,λb o y=>?_,?_,Za⟩
   .rw [Zc (Zf y PL)];exact s1' _ _ y
   .rw [Zc I0];exact a1
  case done=>
   rintro s1 ⟨H1,I1,s1',a1,k1⟩;rw[aAR,lv,List.take_length]at k1;obtain⟨_,xq,n,rK,Pq,eK⟩:=I1.rL k1;try dsimp only
   refine asu (listItems_at eK rfl ?_);refine YO (ns:=ns) (key:=key) I1 (by simpa using NO rK) hv nd h64 a1 h0 k1 (by rw[axO,axO];lia) λH' s2 os I2 Ox hD po so=>⟨_,rfl,?_⟩;refine aJq ⟨_,rfl,.ref (s.heap.objs.size+1),H',I2,rfl,q _ H' os fr (λb o y=>?_) hD po so⟩;rw[Ox b (Zf y fr) (Zf y PL)];exact s1' _ _ y
end
end L2
namespace L2
open PySem PySem.Spec PyProof.Rows
structure uV(P:Program)(w:World)(K:W.Frag)(mg:Str->Option Value)(base:Heap)(C:Addr)(m:Str)(k:Nat)(ps:List Str)(sp:Sp):Prop where
 ex:∃(f:Addr)(fd:FuncData),cJ P w K mg base oR k f fd ps sp/\Meth K C m f/\Binds K fd ps []
structure Dr(P:Program)(w:World)(K:W.Frag)(mg:Str->Option Value)(base:Heap)(C:Addr)(x:Str)(k:Nat)(ps:List Str)(sp:Sp):Prop where
 ex:∃(f:Addr)(fd:FuncData),cJ P w K mg base oR k f fd ps sp/\Mk K C f/\mg x=some (.ref C)/\Binds K fd ps []
section
variable{X:Cx}{x m:Str}{p pos apos:Pos}{e o:PySem.Expr}{es:List PySem.Expr}{ta:TE}{t:TA}{k:Nat}{ps:List Str}{sp:Sp}{C:Addr}
theorem Zj{pl:Sem Bool}(M:uV X.prog X.w X.K X.mg X.base C m k ps sp)(hr:bf k X.A)(c:rj X.K C)(he:PE X o ta)(ha:PA X (e ::es) t)(hn:Ab (e ::es):=by repeat' (first|exact True.intro|refine⟨?_,?_⟩))
  (ht:eval (.Call (.Attribute o m apos) (e ::es) [] pos) X.env=(do
   let ov <-eval o X.env
   standAt apos.atName
   let(f,first) <-holding [ov] (getMethod ov m pl)
   callWith pos f first (backTo pos (starEach (e ::es) X.env)) (backToKw pos (keywordEach [] X.env))):=by rfl) :
  PE X (.Call (.Attribute o m apos) (e ::es) [] pos) (sA C m sp [] E0 ta t):=by
 obtain⟨f,fd,F,hm,hb⟩:=M.ex;exact Y9 he c hm F hr hb .nil tS ha (yq hn.1) (C0 hn.2) ht
theorem HH(M:Dr X.prog X.w X.K X.mg X.base C x k ps sp)(hr:bf (k+1) X.A)(hg:Gl X x)(ha:PA X (e ::es) t)(hn:Ab (e ::es):=by repeat' (first|exact True.intro|refine⟨?_,?_⟩))(hd:(x ==("__debug__":Str))=false:=by decide) :
  PE X (.Call (.Name x p) (e ::es) [] pos) (Ao C sp [] E0 t):=by
 obtain⟨f,fd,F,M',hm,hb⟩:=M.ex;exact Y8 M' F hr hg hm hb .nil tS ha (hdb:=hd) (he:=yq hn.1) (hpl:=C0 hn.2)
def U7:TS:=λ_ _ _=>False
theorem wK{st:Stmt}:PS X st U7:=λ_ _ _ _ _ _ h=>False.elim h
end
theorem uf.VA{P:Program}{w:World}{K:W.Frag}{mg:Str->Option Value}{base:Heap}{x qual:Str}{st:Stmt}{f:Addr}{fd:FuncData}{N ps:List Str}{k:Nat}{sp:Sp}(F:uf K x qual st f fd)(S:fz N ps (Zr st))(len:∀vs H Q E,sp vs H Q E->vs.length=ps.length)
  (hbody:∀(cdv:Value)(A:Around)(outer:List Env)(s:Shared)(H:Hp)(vs:List V)(Q:VK)(E:XK),fd.code=cdv->bf k (A.deeper (envOfC qual (Zr st) s.heap.objs.size f cdv))->sp vs H Q E ->
   ∃t,uM (qw oR P w K mg base N qual (Zr st) f cdv A outer s H E).Cd (ZD st) t/\t { nx:=λ_ H'=>Q .aS H',rt:=Q } (start N vs) H):cJ P w K mg base oR (k+1) f fd ps sp:=by
 obtain⟨oc,od,kV,doc,pm,an,cdv,ct,osl,rfl,lk,hcd⟩:=F.ex;refine Ba lk hcd S len λA outer s H vs Q E hr uD=>?_;obtain⟨t,h,q⟩:=hbody cdv A outer s H vs Q E rfl hr uD;exact⟨t,h.Cd,q⟩
theorem Zk{X:Cx}{K:W.Frag}{e:PySem.Expr}{f:Str}{pos:Pos}{ta:TE}(hK:X.K=K)(he:PE X e ta)(hb:attributeBase e f X.env (eval e X.env)=eval e X.env):PE X (.Attribute e f pos) (EN K ta f):=by
 subst hK;exact Ye he hb
def F1(kF:Scope)(oN:List Str)(scope:Scope)(x:Str)(fr:List Str)(js:List Nat):Bool:=
 scope.kind == .function && !scope.isCoroutine && !scope.isGenerator && scope.names.all (λy=>y.2 != .cell) && scope.names.lookup x ==some .local &&
 scope.names.all (λy=>y.2 != .free || (kF.names.lookup y.1 ==some .cell || kF.names.lookup y.1 ==some .free)) && fr.length ==js.length &&
 (js.map λj=>oN[j]?) ==fr.map some && fr.all λy=>scope.names.lookup y ==some .free
theorem ZhU{X:Cx}{kF:Scope}{oN:List Str}{scope:Scope}{x:Str}{fr:List Str}{js:List Nat}(h:F1 kF oN scope x fr js=true)(hs:X.env.scope=kF)(hN:X.N=oN):qT X scope x fr js:=by
 unfold F1 at h;simp only[aTz,aD8,Bool.or_eq_true,aCi,bne_iff_ne,ne_eq,aUv]at h;obtain⟨⟨⟨⟨⟨⟨⟨⟨h1,h2⟩,h3⟩,h4⟩,h5⟩,h6⟩,h7⟩,h8⟩,h9⟩:=h;refine⟨h1,h2,h3,h4,h5,λy hy hf=>?_,h7,λk j e=>?_,λk y e=>h9 y (bcc e)⟩
 .rcases h6 y hy with q|q
  .exact absurd hf q
  .show X.env.scope.names.lookup y.1=_\/X.env.scope.names.lookup y.1=_;rw[hs];exact q
 .rw [hN];have z:=azy (λl=>l[k]?) h8;simp only[acC,e,aNI]at z;cases q:fr[k]? with
  |none=>rw[q]at z;cases z
  |some y=>rw[q]at z;exact(a9h z).symm
theorem XQ{A:Around}{k:Nat}{env:Env}(hr:bf k A):(A.in1.in1.deeper env).units+1<cLine:=by
 have:=hr.un;show A.units+1+1+3+1<cLine;lia
def Qg(K:W.Frag)(P:Addr)(qp:Pos)(qual:Str)(js:List Nat)(te:TE)(σ:St)(Q:VK)(x:V)(H1:Hp):Prop:=∃(l:Addr)(ns:List Int)(key:Int->Int),x=.ref l/\az K H1 l (ns.map V.int)/\ns.length<64/\ns.Nodup/\H1 P=some (.nA qp qual) /\
 (∀z∈ns,∀H2,aB H1 H2->te (some (.int z) ::js.map λj=>(σ[j]?).join) H2 λv H'=>v=.int (key z)/\H'=H2) /\
 ∀(D:Addr)(H':Hp)(os:List Int),H1 D=none->aB H1 H'->H' D=some (.lst (os.map V.int))->os.Perm ns->os.Pairwise (Ac key ns)->Q (.ref D) H'
def XO(K:W.Frag)(P:Addr)(qp:Pos)(qual:Str)(js:List Nat)(IE te:TE):TE:=λσ H Q=>IE σ H λx H1=>Qg K P qp qual js te σ Q x H1
section
variable{X:Cx}
theorem ZhV{K:W.Frag}{P c0:Addr}{k:Nat}{y:Str}{fr:List Str}{js:List Nat}{qual:Str}{params:Arguments}{body xs:PySem.Expr}{scope:Scope}{p pos qp kpos:Pos}{IE te:TE}(hK:X.K=K)(hr:bf k X.A)(hcl:X.calm=true)(hg:Gl X "sorted")(hm:X.mg "sorted"=none)
  (c:qT X scope y fr js) (hc0:X.env.code=.ref c0) (hcd:W.codeHdIn X.K c0 P=true) (bm:BMod X.base X.mg) (hq:X.env.qual ++ "<lambda>"=qual) (hd0:params.defaults=[]) (hk0:params.kw_defaults=[])
  (hb:∀cl pm cd ct u,bindArgs (W.kla_fn "<lambda>" qual params body scope cl pm cd ct) ⟨[u],[]⟩=pure [(y,u)]) (ha:PE X xs IE)
  (he:∀f cd cl s H,PE (jt X X.A.in1.in1 (y ::fr) qual scope f cd cl s H) body te) (hn:Ab [xs]:=by repeat' (first|exact True.intro|refine⟨?_,?_⟩)) :
  PE X (.Call (.Name "sorted" p) [xs] [⟨some "key",.Lambda params body scope qp,kpos⟩] pos) (XO K P qp qual js IE te):=by
 subst hK;subst hq;intro pins s σ H Q I h;refine aqT (yv I hg hm boot_sorted ?_ (by decide) (by decide));refine callWith_kw (sy ((pc ha Zb hn.1) pos pins s σ H (λvs H1=>match vs with| [x]=>Qg X.K P qp (X.env.qual ++ "<lambda>") js te σ Q x H1|_=>False) I h) λus s1 vs H1 I1 r1 q1=>?_) (by rw[yq hn.1];rfl) (by rw[yq hn.1];rfl) rfl rfl
 match vs,r1,q1 with
 | [],_,z=>exact z.elim
 |_ ::_ ::_,_,z=>exact z.elim
 | [x],r1,q1=>
  obtain⟨l,ns,key,rfl,hS,h64,nd,hP,ht,q⟩:=q1;obtain⟨u,rfl,ru⟩:=vals1 r1;cases ru;show wpAny _ _ (evalAll [(do let v <-eval (.Lambda params body scope qp) X.env;standAt pos;pure v)]) _ _ s1;refine wpAny_evalAll_cons (asu (ZhR c I1 hc0 hcd bm hP hd0 hk0 λf cl cd pm ct of H2 s2 I2 sm jN oX hf hof hcode=>asu (aiR (aJq (wpAny_evalAll_nil ?_)))));show wpAny _ _ (call (.builtin "sorted") [.ref l] [(Str.ofString "key",.ref f)]) _ _ s2;refine ZhT I2 (sm.seq hS) h64 nd (λz hz H3 s3 u K6 I3 ru=>?_) λD H' os hD Ve hl po so=>q D H' os (sm.free hD) (sm.trans Ve) hl po so;have VB:=(I3.hok f _ (K6 _ _ hf)).1;obtain⟨c',oc,vs',t',rfl,hc',hd',hv'⟩:=hcode;have VG:=(I3.hok c' _ (K6 _ _ hc')).1;exact ZhQ (A:=X.A.in1.in1) c I3 I3.ok.frames (I3.ok.hd hcl) hr.depth jN oX VB hof ⟨c',oc,vs',t',rfl,VG,hd',hv'⟩ (hb cl pm _ ct) ru (λs=>he f _ cl s H3) (ht z hz H3 (sm.trans K6))
end
theorem Zgu{P:Program}{w:World}{K:W.Frag}{mg mb:Str->Option Value}{CX:yE}{k:Nat}{fa a tp c0:Addr}{pos:Pos}{qual:Str}{fd:FuncData}{x:Str}{sp:Sp}{s₁:Shared}{vs:List Value}{ns:List Int}
  (KX:K.In s₁.heap) (hns:s₁.heap.Ns mainGlobals mg) (hb:s₁.heap.Ns builtinsNs mb) (WS:∀x:Str,x ≠ "__name__" ->mb x=bootBuiltins x) (hlim:s₁.heap.NoLimit) (hg:s₁.gens=#[])
  (ha:s₁.heap.get? a=some { cls:=.type "list",data:=.seq vs.toArray }) (hi:IntsAre vs ns) (hl:ns.length<=sizeLine) (hr:bf k callerA)
  (htp:s₁.heap.get? tp=some { cls:=.none,data:=.fields #[] }) (hch:W.codeHdIn K c0 tp=true) (WY:K.lookup tp=none)
  (hbm:BMod s₁.heap mg) (F:∀base:Heap,K.In base->base.Ns mainGlobals mg->BMod base mg->cJ P w K mg base CX k fa fd [x] sp) (hbind:∀(s:Shared)(u:Value),BindsTo s fd ⟨[u],[]⟩ [(x,u)])
  (uD:∀H:Hp,H tp=some (.nA pos qual)->az K H a (ns.map V.int)->sp [.ref a] H (λv _=>v=.bl true) λ_ _ _=>False)
  (Mp:∀H e s',CX [] H s₁ (λ_ _ _=>False) e s'->False) :
  codeAny (model P w) callerA (.call (.ref fa) ⟨[.ref a],[]⟩) (λr s'=>r=.ok (.ret (.bool true))/\OldK s₁.heap s'.heap/\s'.os=s₁.os/\AllBare s'.gens) s₁:=by
 have rv:=NP hi;have LN:=hi.length;have nat:a≠tp:=λz=>by rw[z,htp]at ha;cases ha
 have core:∀H:Hp,H tp=some (.nA pos qual)->az K H a (ns.map V.int)->dW P w H s₁.heap->(∀b,H b≠none->b=tp\/(b=a/\∃o xs,H b=some (.cR o (.lst xs))))->(H a≠none->K.lookup a=none) ->
   codeAny (model P w) callerA (.call (.ref fa) ⟨[.ref a],[]⟩) (λr s'=>r=.ok (.ret (.bool true))/\OldK s₁.heap s'.heap/\s'.os=s₁.os/\AllBare s'.gens) s₁:=by
  intro H hT hS hok hA hK;have VR:∀{b:Addr}{o:Obj}{es:Array DictEntry}{ep:Nat},s₁.heap.get? b=some o->o.data=.dict es ep->H b=none:=λ{b o es ep} e d=>by
   cases q:H b with
   |none=>rfl
   |some u=>
    rcases hA b (by rw[q];simp) with z|⟨z,_⟩
    .rw [z,htp]at e;cases e;cases d
    .rw [z,ha]at e;cases e;cases d
  have IW:∀{b:Addr}{m:Str->Option Value},s₁.heap.Ns b m->(oG s₁.heap H).Ns b m:=λ{b m}⟨o,es,ep,e,d,r⟩=>⟨o,es,ep,NL e (VR e d),d,r⟩;have PB:K.In (oG s₁.heap H):=λb o e=>NL (KX b o e) (by
   cases q:H b with
   |none=>rfl
   |some u=>
    rcases hA b (by rw[q];simp) with z|⟨z,_⟩
    .rw [z,WY]at e;cases e
    .have n:H a≠none:=by rw[<-z,q];simp
     rw[z,hK n]at e;cases e)
  have hM:Mod K mg (oG s₁.heap H):=⟨PB,IW hns,⟨mb,IW hb,WS⟩,let⟨mc,h1,h2⟩:=hlim;⟨mc,IW h1,h2⟩⟩;have e0:sr P w K mg (oG s₁.heap H) callerA [] s₁ H:=⟨rfl,hM,λb o e=>ZiU e,a1S (ZfI _ _),trivial,λb hb=>absurd (show b∈([]:List Addr) from hb) (by simp),hok,.of_eq hg⟩;have hB:BMod (oG s₁.heap H) mg:=by
   obtain⟨b,o,a1,a2,a3,a4,a5,a6,a7⟩:=hbm;refine⟨b,o,a1,a2,a3,NL a4 ?_,a5,a6,a7⟩;cases q:H b with
   |none=>rfl
   |some u=>
    rcases hA b (by rw[q];simp) with z|⟨z,_⟩
    .rw [z,htp]at a4;cases a4;cases a5
    .rw [z,ha]at a4;cases a4;have a8:Value.type "list"=Value.type "module":=a5;injection a8 with a8
     exact absurd a8 (by decide)
  refine codeAny_mono ((F _ PB (IW hns) hB).run callerA [] s₁ H ⟨[.ref a],[]⟩ [.ref a] [.ref a] _ _ hr e0 (hbind s₁ (.ref a)) (.cons rfl .nil) (uD H hT hS)) λr s' h=>?_;cases r with
  |error e=>exact(Mp H e s' h).elim
  |ok fl=>
   cases fl with
   |next=>exact False.elim h
   |brk=>exact False.elim h
   |cont=>exact False.elim h
   |ret u=>
    obtain⟨v,H',os,bare,un,Gx,r',q⟩:=h;have q':v=.bl true:=q;subst q';obtain rfl:u=Value.bool true:=r';have tab:=(W.codeHd_of_K KX hch).tab htp;have t2:=Gx tp _ (un.j0 _ _ _ hT);obtain⟨ps,hps,_⟩:=t2;have old:∀b o,s₁.heap.get? b=some o->b≠tp->s'.heap.get? b=some o:=λb o e nb=>by
     cases q:H b with
     |none=>exact un.keep b o e q (by intro z;exact absurd (show b∈([]:List Addr) from z) (by simp)) (by simp)
     |some u=>
      rcases hA b (by rw[q];simp) with z|⟨_,ob,xs,z⟩
      .exact absurd z nb
      .have z2:=un.jM b ob _ z;obtain⟨e1,_⟩:=hok b _ z;obtain⟨e2,_⟩:=Gx b _ z2;rw[e]at e1;cases e1;exact e2
    refine⟨rfl,⟨λb o e=>?_,λb o e=>?_⟩,os,bare⟩
    .by_cases nb:b=tp
     .subst nb;rw[htp]at e;cases e;exact .inr (.inl ⟨tab.isCodeTable,rfl,#[],ps,rfl,by rw[hps];simp⟩)
     .exact .inl (old b o e nb)
    .by_cases nb:b=tp
     .subst nb;exact⟨_,hps⟩
     .exact ⟨o,old b o e nb⟩
 have tb:∀H:Hp,aH P w H s₁.heap tp (.nA pos qual):=λH=>⟨#[],htp,True.intro,λcv e=>by cases e⟩;cases hk:K.lookup a with
 |some o=>
  have e:=KX a o hk;rw[ha]at e;cases e;refine core (λb=>if b=tp then some (.nA pos qual) else none) (aaU rfl) (.inr ⟨_,vs.toArray,_,hk,rfl,rfl,rfl,by rw[aCS,LN];exact hl,by simpa using rv⟩) (λb u z=>?_) (λb z=>?_) λz=>absurd (afn nat) z
  .by_cases hb:b=tp
   .have z':=(aaU hb).symm.trans z;cases z';subst hb;exact tb _
   .have z':=(afn hb).symm.trans z;cases z'
  .by_cases hb:b=tp
   .exact .inl hb
   .exact absurd (afn hb) z
 |none=>
  refine core (λb=>if b=tp then some (.nA pos qual) else if b=a then some (.cR { cls:=.type "list",data:=.seq vs.toArray } (.lst (ns.map V.int))) else none) (aaU rfl) (.inl (.inr ⟨{ cls:=.type "list",data:=.seq vs.toArray },(afn nat).trans (aaU rfl)⟩)) (λb u z=>?_) (λb z=>?_) λ_=>hk
  .by_cases hb:b=tp
   .have z':=(aaU hb).symm.trans z;cases z';subst hb;exact tb _
   .have z':=(afn hb).symm.trans z;by_cases hb2:b=a
    .have z2:=(aaU hb2).symm.trans z';cases z2;subst hb2;exact⟨ha,by rw[axO];exact hl,vs,_,rv,ha⟩
    .have z2:=(afn hb2).symm.trans z';cases z2
  .by_cases hb:b=tp
   .exact .inl hb
   .by_cases hb2:b=a
    .exact .inr ⟨hb2,_,_,(afn hb).trans (aaU hb2)⟩
    .exact absurd (by show(if b=tp then _ else if b=a then _ else none)=none;rw[afn hb,afn hb2]) z
theorem ZhW{l:W.OpenLaw}{n k:Nat}{q:Program}{loose:List Str}{XP:(Str->Option Value)->Heap->Prop}{YP:World->Heap->Prop}{d:DefRec}{K:Params->W.Frag}{CX:World->yE}{sp:World->Sp}{x:Str}{tp:Addr}{pos:Pos}{qual:Str}{G:World->Prop}
  (hn:l.most=some n) (hn2:n<=sizeLine) (hdf:d.params.defaults=[]) (hr:bf k callerA)
  (hY:∀(w:World)(h:Heap),YP w h->(K w.params).In h/\h.get? tp=some { cls:=.none,data:=.fields #[] })
  (F:∀(w:World)(mg:Str->Option Value)(fa:Addr)(h:Heap),(K w.params).In h->h.Ns mainGlobals mg->mg d.name=some (.ref fa) ->
   G w/\(∃c0,W.codeHdIn (K w.params) c0 tp=true)/\(K w.params).lookup tp=none/\∃fd:FuncData,(∀(s:Shared)(u:Value),BindsTo s fd ⟨[u],[]⟩ [(x,u)]) /\
    ∀base:Heap,(K w.params).In base->base.Ns mainGlobals mg->BMod base mg->cJ l.prog w (K w.params) mg base (CX w) k fa fd [x] (sp w))
  (uD:∀(w:World)(H:Hp)(a:Addr)(ns:List Int),G w->ns.length<=n->H tp=some (.nA pos qual)->az (K w.params) H a (ns.map V.int)->sp w [.ref a] H (λv _=>v=.bl true) λ_ _ _=>False)
  (Mp:∀(w:World)(H:Hp)(s:Shared)(e:Value)(s':Shared),CX w [] H s (λ_ _ _=>False) e s'->False) :
  W.WalkO q loose XP YP l.row.toRowW d [] (λf vs=>PySem.call f vs):=by
 refine TN.qA hn hdf λw s₀ s₁ mg mb fa o pm cd doc a vs ns G' Y ho hd hcd hmg hobj hints hlen hg=>?_;obtain⟨KX,htp⟩:=hY w _ Y;obtain⟨g,⟨c0,hc⟩,hk,fd,hb,hF⟩:=F w mg fa _ KX G'.T.g hmg;have hbm:BMod s₁.heap mg:=by
  obtain⟨bm,ob,b1,b2,b3,b4,b5,b6⟩:=G'.T.bmain;refine⟨bm,ob,b1,b2,λz=>?_,b3,b4,b5,b6⟩;obtain⟨o,es,ep,e,hd',_⟩:=G'.T.g;rw[z,e]at b3;cases b3;rw[hd']at b6;cases b6
 exact Zgu KX G'.T.g G'.T.b G'.T.builtins G'.T.nolimit hg hobj hints (a0n hlen hn2) hr htp hc hk hbm hF hb (λH hT hS=>uD w H a ns g hlen hT hS) λH e s'=>Mp w H s₁ e s'
def af(K:W.Frag)(x:Str):Addr:=match W.nsIn K mainGlobals x with
 |some (some (.ref C))=>C
 |_=>0
def tabOf(K:W.Frag)(x m:Str):Addr:=match W.findIn K (.ref (af K x)) m with
 |some (some (.ref f))=>(match K.lookup f with
  |some ⟨_,_,.func fd,_⟩=>(match fd.code with
   | .ref c=>(match K.lookup c with
    |some ⟨_,_,.fields vs,_⟩=>(match(vs[11]?:Option Value) with
     |some (.ref P)=>P
     |_=>0)
    |_=>0)
   |_=>0)
  |_=>0)
 |_=>0
theorem HG{K:W.Frag}{x:Str}{C:Addr}(h:W.nsIn K mainGlobals x=some (some (.ref C))):af K x=C:=by
 unfold af;rw[h]
theorem ZhX{K:W.Frag}{x m:Str}{f c P:Addr}{oc:Value}{od:Option Addr}{fd:FuncData}{sl:Array (Option Value)}(h1:W.findIn K (.ref (af K x)) m=some (some (.ref f)))(h2:K.lookup f=some ⟨oc,od,.func fd,sl⟩)(h3:fd.code=.ref c)
  (h4:W.codeHdIn K c P=true):tabOf K x m=P:=by
 unfold W.codeHdIn at h4;split at h4
 .rename_i vs _ hk;simp only[aTz]at h4;obtain⟨⟨⟨⟨⟨e1,_⟩,_⟩,_⟩,_⟩,_⟩:=h4;split at e1
  .rename_i P' h11;have hP:P'=P:=aCi.mp e1;subst hP;unfold tabOf;simp only[h1,h2,h3,hk,h11]
  .cases e1
 .cases h4
end L2
namespace L2
open PySem PySem.F PyProof.Rows PySem.MeetsSeq
variable{K:W.Frag}{X:Cx}{pins:List Pin}{σ:St}{H:Hp}{s:Shared}
theorem Bj{e:PySem.Expr}{T:String}{r:V->List V->Hp->VK->Prop}{to:TE}{t:TA}(hK:X.K=K)(h:PE X e (K1 X.K T r to t)):PE X e (K1 K T r to t):=by
 subst hK;exact h
end L2
namespace L2
open PySem PySem.Calls PyProof.Rows PySem.MeetsSeq PySem.W
variable{K:W.Frag}{X:Cx}{pins:List Pin}{σ:St}{H:Hp}{s:Shared}
inductive pY(xs:List V)(H:Hp)(Q:VK):Prop
 |mk (d:Addr) (kvs:List (Key×V)) (ns:List Int):xs=[.ref d]->H d=some (.dK kvs)->kvs.map Prod.fst=ns.map Sum.inl->ns.length<64->(∀(D:Addr)(os:List Int),H D=none->os.Perm ns->os.Pairwise (·<=·)->Q (.ref D) (upd H D (.lst (os.map V.int))))->pY xs H Q
theorem Ra:∀{xs:List V}{us:List Value},xs.length=us.length->(∀(i:Nat) x u,xs[i]?=some x->us[i]?=some u->RelV x u)->Vals xs us
 | [],[],_,_=>.nil
 | [],_ ::_,h,_=>nomatch h
 |_ ::_,[],h,_=>nomatch h
 |x ::xs,u ::us,h,k=>.cons (k 0 x u rfl rfl) (Ra (by simpa using h) λi x' u' h1 h2=>k (i+1) x' u' (by simpa using h1) (by simpa using h2))
theorem QO:∀{kvs:List (Key×V)}{vs:List (Key×Value)},KV kvs vs->∀{i:Nat}{p:Key×V}{q:Key×Value},kvs[i]?=some p->vs[i]?=some q->p.1=q.1
 |_,_,.nil,_,_,_,h,_=>nomatch h
 |_,_,.cons r t,0,_,_,h1,h2=>by cases h1;cases h2;exact r.1
 |_,_,.cons r t,i+1,_,_,h1,h2=>QO (i:=i) t (by simpa using h1) (by simpa using h2)
theorem Zgw{P:Program}{w:World}{kvs:List (Key×V)}{vs:List (Key×Value)}{ns:List Int}{acc:Array Value}(r:KV kvs vs)(e:kvs.map Prod.fst=ns.map Sum.inl)(h:ItemsOf (λi v=>∃k x,vs[i]?=some (k,x)/\(Zy P w).is k v=true) acc vs.length):IntsAre acc.toList ns:=by
 have lv:kvs.length=vs.length:=aFJ r;have ln:kvs.length=ns.length:=by have:=azy List.length e;simpa using this
 refine NO (Ra (by have l3:acc.toList.length=acc.size:=ak9;have l4:=h.1;rw[axO];lia) λi x u hx hu=>?_);rw[bd9]at hu;obtain⟨k,y,h1,h2⟩:=h.2 i u hu;have hi:i<kvs.length:=by rw[lv];exact(aB9.mp h1).1
 have e1:=QO r (aun hi) h1;have e2:(kvs.map Prod.fst)[i]?=some k:=by rw[acC,aun hi];exact azy some e1
 rw[e,acC]at e2;rw[acC]at hx;cases g:ns[i]? with
 |none=>rw[g]at hx;cases hx
 |some z=>
  rw[g]at hx e2;cases hx;cases e2;exact Sk h2
theorem S7(hc:X.calm=true):bG X (.builtin "sorted") pY:=by
 intro pins s σ H xs us Q I r h;obtain⟨d,kvs,ns,rfl,hd,hk,h64,q⟩:=h;obtain⟨u,rfl,rx⟩:=vals1 r;cases rx;obtain⟨hz,hs,vs,rv,hD⟩:=I.hok d _ hd;obtain⟨ep,hat⟩:=hD.dictAt;have hl:vs.length=ns.length:=by have l1:kvs.length=vs.length:=aFJ rv;have l2:=azy List.length hk;simp at l2;lia
 refine call_function_entry kind_sorted plain_sorted entry_sorted (args_sorted1 _) ?_;unfold Builtin.«sorted»;refine asu (m:=checkCount "sorted" 1 1 _) (aJq ?_);refine asu (kdu_collect (A:=X.A.in1) (kdl_dict (knd:=Zy X.prog X.w) (kvs:=vs) (ep:=ep) hs) (show X.A.in1.handled=none from I.ok.hd hc) hat (by rw[a3Q];lia) λh' tk acc hk' hacc=>?_);have hI:=Zgw rv hk hacc;have la:acc.toList.length=ns.length:=by rw[ak9,hacc.1,hl]
 refine asu (aPS ?_ (by rw[la,a3Q];lia));have tU:(h'.push (seqObj "list" acc.toList.toArray 0)).get? h'.objs.size=some (seqObj "list" acc.toList.toArray 0):=arT _ rfl;have I1:=I.kept (t':=tk) hk';show wpAny _ _ _ _ _ { s with heap:=h'.push (seqObj "list" acc.toList.toArray 0),toks:=tk };refine asu (aaC (ajI slot_list_sort ⟨_,tU,rfl⟩ entry_list_sort (list_sort_tree tU hI (by lia) λout ns' a1 a2 a3=>⟨_,rfl,?_⟩) (args_list_sort _)));refine aJq ⟨_,rfl,?_⟩;obtain⟨e,he⟩:=sortedHeap_at (out:=out) tU;have fr:H h'.objs.size=none:=I1.hok.fresh (ags _);have lo:=a2.length_eq;refine⟨.ref h'.objs.size,_,I1.laid (a:=h'.objs.size) (t':=tk) (o:=.lst (ns'.map V.int)) (λb o z=>?_) (ags _) ⟨by rw[axO,lo,a3Q];lia,out.toList,e,NP a1,he⟩,rfl,q _ ns' fr a2 a3⟩;have z':h'.get? b=some o:=z;have lt:=aYz z';rw[sortedHeap_old (ar8 lt) (by rw[size_push'];exact a2T lt),asw _ _ _ (ar8 lt)];exact z'
theorem ZV{C:Addr}{m:Str}{k:Nat}{ps:List Str}{sp:Sp}{o:PySem.Expr}{ta:TE}{apos pos:Pos}{pl:Sem Bool}(M:uV X.prog X.w X.K X.mg X.base C m k ps sp)(hr:bf k X.A)(c:rj X.K C)(he:PE X o ta)
  (ht:eval (.Call (.Attribute o m apos) [] [] pos) X.env=(do
   let ov <-eval o X.env
   standAt apos.atName
   let(f,first) <-holding [ov] (getMethod ov m pl)
   callWith pos f first (backTo pos (starEach [] X.env)) (backToKw pos (keywordEach [] X.env))):=by rfl) :
  PE X (.Call (.Attribute o m apos) [] [] pos) (sA C m sp [] E0 ta BG):=by
 obtain⟨f,fd,F,hm,hb⟩:=M;exact Zhz he c hm F hr hb .nil (λ_ _ _ _ _ _ _ z=>z.elim) ht
end L2
namespace L2
open PySem PySem.Calls PySem.Spec PyProof.Rows PySem.W
structure Io(K:W.Frag)(C:Addr)(m:Str)(f:Addr):Prop where
 ga:W.specialIn K (.ref C) "__getattribute__"=some (some (.builtin "type.__getattribute__"))
 rd:∃mc,W.readsIn K C mc=true/\W.findCls K (.ref C) mc m=some (.val (.ref f))
 kp:W.keepIn K (.ref f)=true
structure Du(P:Program)(w:World)(K:W.Frag)(mg:Str->Option Value)(base:Heap)(x m:Str)(k:Nat)(ps:List Str)(sp:Sp):Prop where
 ex:∃(C f:Addr)(fd:FuncData),cJ P w K mg base oR k f fd ps sp/\Io K C m f/\mg x=some (.ref C)/\Binds K fd ps []
section
variable{X:Cx}{x m:Str}{p pos apos:Pos}{e o:PySem.Expr}{es:List PySem.Expr}{ta:TE}{t:TA}{k:Nat}{ps:List Str}{sp:Sp}{C:Addr}
theorem YN{pl:Sem Bool}(M:Du X.prog X.w X.K X.mg X.base x m k ps sp)(hr:bf k X.A)(hg:Gl X x)(ha:PA X (e ::es) t)(hn:Ab (e ::es):=by repeat' (first|exact True.intro|refine⟨?_,?_⟩))(hd:(x ==("__debug__":Str))=false:=by decide)
  (ht:eval (.Call (.Attribute (.Name x p) m apos) (e ::es) [] pos) X.env=(do
   let ov <-eval (.Name x p) X.env
   standAt apos.atName
   let(f,first) <-holding [ov] (getMethod ov m pl)
   callWith pos f first (backTo pos (starEach (e ::es) X.env)) (backToKw pos (keywordEach [] X.env))):=by rfl) :
  PE X (.Call (.Attribute (.Name x p) m apos) (e ::es) [] pos) (sD sp [] E0 t):=by
 obtain⟨C,f,fd,F,c,hm,hb⟩:=M.ex;obtain⟨mc,hr1,hr2⟩:=c.rd;intro pins s σ H Q I h;have he:PE X (.Name x p) (tC (.ref C)):=RJ (v:=.ref C) hg hm rfl hd;refine W.methodCall_KW (pl:=pl) (bZ (he pins s σ H (λv H1=>v=.ref C/\H1=H) I ⟨rfl,rfl⟩) λu s1 ⟨x,H1,I1,rx,e1,e2⟩=>?_) ht;subst e1 e2;obtain rfl:u=Value.ref C:=rx;have I2:Inv X pins σ H1 { s1 with toks:=s1.toks+1 }:=I1.kept (t':=s1.toks+1) λb o e=>e;refine W.method_cls I1.dI c.ga (W.cls_value I1.dI hr1 hr2 rfl ?_);refine W.callWith_K (first:=[]) (h₀:=X.base) I.ok.mod.DJ c.kp (sy (ha pos pins _ σ H1 _ I2 h) λus s2 vs H2 I3 r q2=>⟨I3.dI,?_⟩) (yq hn.1) (C0 hn.2);exact JF (us:=us) (vs:=vs) F hr hb .nil tS I3 r q2
end
theorem bf.m{j k:Nat}{A:Around}(r:bf k A)(h:j<=k:=by first|decide|lia):bf j A:=r.mono h
section
variable{X:Cx}{pos:Pos}
theorem cu(i:Nat){x:Str}(hN:X.N.Nodup)(hi:X.N[i]?=some x:=by rfl)(hx:Loc X.env.scope x:=by first|exact Or.inl rfl|exact Or.inr rfl)(hf:X.fn x=true\/X.env.scope.names.lookup x=some .local:=by first|exact .inl rfl|exact .inr rfl|assumption):PG X (.Name x pos) (eY i):=ZiV hN hi hx hf
theorem dw(i:Nat){x:Str}{e:PySem.Expr}{te:TE}{pos':Pos}(hN:X.N.Nodup)(he:PE X e te)(hi:X.N[i]?=some x:=by rfl)(hx:Loc X.env.scope x:=by first|exact Or.inl rfl|exact Or.inr rfl)(hs:swapsWith e (some (.Name x pos')) pos.line X.env=pure false:=by rfl)(hf:X.fn x=true\/X.env.scope.names.lookup x=some .local:=by first|exact .inl rfl|exact .inr rfl|assumption):PS X (.Assign [.Name x pos'] e pos) (ur te (eY i)):=Yi hN hi hx he hs hf
end
end L2
namespace L2
open PySem PySem.F PyProof.Rows
variable{K:W.Frag}{X:Cx}{pins:List (Addr×Obj)}{σ:St}{H H':Hp}{s:Shared}
end L2
namespace L2
open PySem PySem.F PyProof.Rows PySem.MeetsSeq
variable{K:W.Frag}{X:Cx}
end L2
namespace L2.aE
open PySem PySem.Spec PyProof.Rows
structure RR where
 r:Keyed->Nat
 g:Keyed->Int
def Kg(ρ:RR)(xs:Array Keyed)(i:Nat):Int:=(xs[i]?).elim 0 ρ.g
theorem cI{ρ:RR}{xs ys:Array Keyed}{i j:Nat}(h:xs[i]?=ys[j]?):Kg ρ xs i=Kg ρ ys j:=by unfold Kg;rw[h]
theorem ny{ρ:RR}{xs:Array Keyed}{src d:Nat}(hs:src<xs.size)(hd:d<=src)(k:Nat) :
  Kg ρ (bubble xs src d) k=if k=src-d then Kg ρ xs src else if src-d<k/\k<=src then Kg ρ xs (k-1) else Kg ρ xs k:=by
 have e:=getElem?_bubble hs d hd k;by_cases c:k=src-d
 .rw [aaU c]at e ⊢;exact cI e
 .by_cases c2:src-d<k/\k<=src
  .rw [afn c,aaU c2]at e ⊢;exact cI e
  .rw [afn c,afn c2]at e ⊢;exact cI e
theorem jc{ρ:RR}{xs:Array Keyed}{i j:Nat}(hj:j<=xs.size)(k:Nat) :
  Kg ρ (mirror xs i j ((j-i)/2)) k=if i<=k/\k<j then Kg ρ xs (i+j-1-k) else Kg ρ xs k:=by
 have e:=getElem?_mirror_all (i:=i) hj k;by_cases c:i<=k/\k<j
 .rw [aaU c]at e ⊢;exact cI e
 .rw [afn c]at e ⊢;exact cI e
theorem b9{ρ:RR}{xs:Array Keyed}{i j:Nat}(hj:j<=xs.size)(al:∀k,i<=k->k<j->Kg ρ xs k=Kg ρ xs (j-1))(k:Nat):Kg ρ (mirror xs i j ((j-i)/2)) k=Kg ρ xs k:=by
 rw[jc hj];by_cases c:i<=k/\k<j
 .rw [aaU c,al _ (by lia) (by lia),al k c.1 c.2]
 .rw [afn c]
def jU(prog:Program)(w:World)(A:Around)(s:Shared)(κ:SortKind)(ρ:RR)(a₀:Array Keyed):Prop:=
 ∀p,p∈a₀.toList->∀q,q∈a₀.toList->∀(E:Value->Shared->Prop)(Q:Bool->Shared->Prop),Q (decide (ρ.g p<ρ.g q)) s->wpAny (model prog w) A (keyLt' κ p.1 q.1) Q E s
end L2.aE
namespace L2
open PySem PySem.Spec PyProof.Rows
section
open PySem.SeqAt
open PySem.AutoSeq1 (wpAny_loadPart')
open PySem.MeetsSeq PySem.MeetsSeq2 PySem.MeetsSeq3
end
section
variable{prog:Program}{w:World}{A:Around}{E:Value->Shared->Prop}{s:Shared}
def rB(h:Heap)(a:Addr)(us:List Value):Heap:=((h.update a (Obj.mapSeq λ_=>#[])).push (seqObj "tuple" us.toArray 0)).push (seqObj "list" #[] 0)
theorem Sh{h:Heap}{a b:Addr}{us:List Value}{o:Obj}(n:b≠a)(e:h.get? b=some o):(rB h a us).get? b=some o:=
 a8r _ (a8r _ (by rw[aWq _ _ _ _ n];exact e))
def vG(h:Heap)(us:List Value):Heap:=((h.push (seqObj "list" #[] 0)).update h.objs.size (Obj.mapSeq (·++us.toArray))).push (seqObj "list" us.toArray 0)
theorem ZhY{h:Heap}{b:Addr}{us:List Value}{o:Obj}(e:h.get? b=some o):(vG h us).get? b=some o:=
 a8r _ (by rw[aWq _ _ _ _ (ar8 (aYz e))];exact a8r _ e)
end
def pV:Value->Addr
 | .ref a=>a
 |_=>0
theorem Sg{α:Type}:∀l:List α,l.zip l=l.map λv=>(v,v)
 | []=>rfl
 |x ::r=>by rw[List.zip_cons_cons,Sg r];rfl
theorem Kw(us:List Value):(pairsOf us).toList=us.map λv=>(v,v):=by
 unfold pairsOf;rw[Array.toList_zip];exact Sg us
variable{K:W.Frag}{X:Cx}
end L2
namespace L2.xU
open PySem PySem.Spec PyProof.Rows
def D9:Bool->Keyed->Array Keyed->Nat->Nat->Nat->StateT SortSt Sem (Option Nat):=sortPriv% PySem.Builtin.gallop
def ZN:Nat->StateT SortSt Sem Unit:=sortPriv% PySem.Builtin.setMinGallop
def NF:Array Keyed->Array Keyed->StateT SortSt Sem (Array Keyed):=sortPriv% PySem.Builtin.mergeLo
def ND:Array Keyed->Array Keyed->StateT SortSt Sem (Array Keyed):=sortPriv% PySem.Builtin.mergeHi
def Bg(left:Bool)(key:Keyed)(arr:Array Keyed)(base i:Nat):StateT SortSt Sem (Option Bool):=do
 let x <-elem' arr (base+i)
 if left then lt' x key else return (<-lt' key x).map (!·)
def zE(left:Bool)(key:Keyed)(arr:Array Keyed)(base n Wa hi0:Nat):StateT SortSt Sem (Option Nat):=do
 let mut lo:=Wa
 let mut hi:=hi0
 for _ in[0:n] do
  if lo ≥ hi then break
  let m:=lo+(hi-lo)/2
  let some more <-Bg left key arr base m|return none
  if more then lo:=m+1 else hi:=m
 return some hi
def PJ(left:Bool)(key:Keyed)(arr:Array Keyed)(base n hint:Nat):StateT SortSt Sem (Option Nat):=do
 let mut ir:=0
 let mut uB:=1
 for _ in[0:n] do
  if uB ≥ n-hint then break
  let some more <-Bg left key arr base (hint+uB)|return none
  if !more then break
  ir:=uB
  uB:=2*uB+1
 zE left key arr base n (hint+ir+1) (hint+min uB (n-hint))
def PK(left:Bool)(key:Keyed)(arr:Array Keyed)(base n hint:Nat):StateT SortSt Sem (Option Nat):=do
 let mut ir:=0
 let mut uB:=1
 for _ in[0:n] do
  if uB ≥ hint+1 then break
  let some found <-Bg left key arr base (hint-uB)|return none
  if found then break
  ir:=uB
  uB:=2*uB+1
 zE left key arr base n (hint+1-min uB (hint+1)) (hint-ir)
theorem Zfv(left:Bool)(key:Keyed)(arr:Array Keyed)(base n hint:Nat):D9 left key arr base n hint=(do
 let some right <-Bg left key arr base hint|return none
 if right then PJ left key arr base n hint else PK left key arr base n hint):=rfl
theorem ZbA(g:Nat):ZN g=modify (λs=>SortSt.mk' (kindOf s) (arrOf s) (pendingOf s) g (failedOf s)):=rfl
theorem xO{σ α:Type}{M:Model}{A:Around}{E:Value->Shared->Prop}{s:Shared}{m m':StateT σ Sem α}{Q:α->σ->Prop}{st:σ}(e:m=m')(h:wpS M A E s m' Q st):wpAny M A (m st) (λr s'=>s'=s/\Q r.1 r.2) E s:=by subst e;exact h
section
variable{prog:Program}{w:World}{A:Around}{E:Value->Shared->Prop}{s:Shared}{a₀:Array Keyed}{κ:SortKind}{ρ:aE.RR}
theorem qo{st:SortSt}{p q:Keyed}{Q:Option Bool->SortSt->Prop}(hk:kindOf st=κ)(h0:aE.jU prog w A s κ ρ a₀)(mp:p∈a₀.toList)(mq:q∈a₀.toList)(h:Q (some (decide (ρ.g p<ρ.g q))) st):wpS (model prog w) A E s (lt' p q) Q st:=by
 rw[lt'_eq];refine ba7 (aLA ?_);rw[hk];exact ba7 (wpS_lift (wpAny_attempt (h0 p mp q mq _ _ ⟨rfl,aG3 h⟩)))
theorem Zu{st:SortSt}{arr:Array Keyed}{i:Nat}{Q:Keyed->SortSt->Prop}(hi:i<arr.size)(h:Q arr[i] st):wpS (model prog w) A E s (elem' arr i) Q st:=by
 rw[elem'_eq,getElem?_pos arr i hi];exact aG3 h
theorem bE{arr:Array Keyed}{i:Nat}(hi:i<arr.size):aE.Kg ρ arr i=ρ.g arr[i]:=by
 unfold aE.Kg;rw[getElem?_pos arr i hi];rfl
def Bd(ρ:aE.RR)(left:Bool)(kv:Int)(arr:Array Keyed)(base i:Nat):Bool:=if left then decide (aE.Kg ρ arr (base+i)<kv) else !decide (kv<aE.Kg ρ arr (base+i))
theorem YI{st:SortSt}{left:Bool}{key:Keyed}{arr:Array Keyed}{base i:Nat}{Q:Option Bool->SortSt->Prop}(hk:kindOf st=κ)(h0:aE.jU prog w A s κ ρ a₀)(ha:∀p∈arr.toList,p∈a₀.toList)(mk:key∈a₀.toList)(hi:base+i<arr.size)(h:Q (some (Bd ρ left (ρ.g key) arr base i)) st):wpS (model prog w) A E s (Bg left key arr base i) Q st:=by
 unfold Bg;refine ba7 (Zu hi ?_);have m:arr[base+i]∈a₀.toList:=ha _ (by simp);unfold Bd at h;rw[bE hi]at h;cases left with
 |true=>
  simp only[a6Z]at h ⊢;exact qo hk h0 m mk h
 |false=>
  simp only[aY9,a3v]at h ⊢;exact ba7 (qo hk h0 mk m (aG3 h))
structure Cut(ρ:aE.RR)(left:Bool)(kv:Int)(arr:Array Keyed)(base n k:Nat):Prop where
 le:k<=n
 lo:∀i,i<k->Bd ρ left kv arr base i=true
 hi:∀i,k<=i->i<n->Bd ρ left kv arr base i=false
def dJ(ρ:aE.RR)(arr:Array Keyed)(a b:Nat):Prop:=∀i j,a<=i->i<=j->j<b->aE.Kg ρ arr i<=aE.Kg ρ arr j
theorem YM{left:Bool}{kv:Int}{arr:Array Keyed}{base n i j:Nat}(hs:dJ ρ arr base (base+n))(hij:i<=j)(hj:j<n)(h:Bd ρ left kv arr base j=true):Bd ρ left kv arr base i=true:=by
 have q:=hs (base+i) (base+j) (by lia) (by lia) (by lia);unfold Bd at h ⊢;cases left with
 |true=>
  simp only[a6Z,aWv]at h ⊢;lia
 |false=>
  simp only[aY9,a3v,aUv,aOr]at h ⊢;lia
section
variable{st:SortSt}{left:Bool}{key:Keyed}{arr:Array Keyed}{base n:Nat}{Q:Option Nat->SortSt->Prop}{P:Nat->Bool}
theorem Q9{lo hi:Nat}(B:∀{i:Nat}{Q:Option Bool->SortSt->Prop},i<n->Q (some (P i)) st->wpS (model prog w) A E s (Bg left key arr base i) Q st)
  (up:∀{i j:Nat},i<=j->j<n->P j=true->P i=true) (dn:∀{i j:Nat},i<=j->j<n->P i=false->P j=false)
  (h:∀k,k<=n->(∀i,i<k->P i=true)->(∀i,k<=i->i<n->P i=false)->Q (some k) st)
  (WC:lo<=hi) (WG:hi<=n) (u1:∀i,i<lo->P i=true) (u2:∀i,hi<=i->i<n->P i=false):wpS (model prog w) A E s (zE left key arr base n lo hi) Q st:=by
 unfold zE;refine ba7 (ash (aJo (I:=λx c st2=>st2=st/\∃l r,c=(none,l,r)/\l<=r/\r<=n/\r-l<=n-x/\(∀i,i<l->P i=true)/\(∀i,r<=i->i<n->P i=false))
  (Q:=λc st2=>st2=st/\∃r,c=(none,r,r)/\r<=n/\(∀i,i<r->P i=true)/\(∀i,r<=i->i<n->P i=false)) ?iturn ?ilast ?ifirst) ?iafter)
 case ifirst=>exact⟨rfl,lo,hi,rfl,WC,WG,by lia,u1,u2⟩
 case ilast=>
  rintro c st2 ⟨rfl,l,r,rfl,hlr,hrk,hm,u1,u2⟩;have e:l=r:=by lia
  subst e;exact⟨rfl,l,rfl,hrk,u1,u2⟩
 case iturn=>
  rintro x c st2 _ hxk ⟨rfl,l,r,rfl,hlr,hrk,hm,u1,u2⟩;dsimp only;by_cases hge:l ≥ r
  .rw [aaU hge];have e:l=r:=by lia
   subst e;exact aG3 ⟨rfl,l,rfl,hrk,u1,u2⟩
  .rw [afn hge];refine ba7 (B (by lia) ?_);dsimp only;cases c:P (l+(r-l)/2) with
   |true=>
    rw[aaU rfl];exact aG3 ⟨rfl,l+(r-l)/2+1,r,rfl,by lia,by lia,by lia,λi p=>up (j:=l+(r-l)/2) (by lia) (by lia) c,u2⟩
   |false=>
    rw[afn (by simp)];exact aG3 ⟨rfl,l,l+(r-l)/2,rfl,by lia,by lia,by lia,u1,λi p q=>dn p q c⟩
 case iafter=>
  rintro c st2 ⟨rfl,r,rfl,Wu,u1,u2⟩;exact aG3 (h r Wu u1 u2)
end
theorem Ed{st:SortSt}{left:Bool}{key:Keyed}{arr:Array Keyed}{base n hint:Nat}{Q:Option Nat->SortSt->Prop}(hk:kindOf st=κ)(h0:aE.jU prog w A s κ ρ a₀)(ha:∀p∈arr.toList,p∈a₀.toList)(mk:key∈a₀.toList)(hb:base+n<=arr.size)(hh:hint<n)(hs:dJ ρ arr base (base+n))
  (h:∀k,Cut ρ left (ρ.g key) arr base n k->Q (some k) st):wpS (model prog w) A E s (D9 left key arr base n hint) Q st:=by
 rw[Zfv];have B:∀{i:Nat}{Q:Option Bool->SortSt->Prop},i<n->Q (some (Bd ρ left (ρ.g key) arr base i)) st->wpS (model prog w) A E s (Bg left key arr base i) Q st:=λ{i Q} hi hq=>YI hk h0 ha mk (by lia) hq;have up:∀{i j:Nat},i<=j->j<n->Bd ρ left (ρ.g key) arr base j=true->Bd ρ left (ρ.g key) arr base i=true:=λhij hj hq=>YM hs hij hj hq;have h:=λk c1 c2 c3=>h k ⟨c1,c2,c3⟩;generalize Bd ρ left (ρ.g key) arr base=P at *;have dn:∀{i j:Nat},i<=j->j<n->P i=false->P j=false:=λ{i j} hij hj hq=>by
  cases e:P j with
  |false=>rfl
  |true=>rw[up hij hj e]at hq;exact hq
 refine ba7 (B hh ?_);dsimp only;cases e:P hint with
 |true=>
  rw[aaU rfl];unfold PJ;refine ba7 (ash (aJo (I:=λx c st2=>st2=st/\∃l o,c=(none,l,o)/\l<o/\x+1<=o/\hint+l<n/\P (hint+l)=true)
   (Q:=λc st2=>st2=st/\∃l o,c=(none,l,o)/\l<o/\hint+l<n/\P (hint+l)=true/\(n-hint<=o\/hint+o<n/\P (hint+o)=false)) ?jturn ?jlast ?jfirst) ?jafter)
  case jfirst=>exact⟨rfl,0,1,rfl,by lia,by lia,by lia,e⟩
  case jlast=>
   rintro c st2 ⟨rfl,l,o,rfl,hlo,L4,lZ,hp⟩;exact⟨rfl,l,o,rfl,hlo,lZ,hp,.inl (by lia)⟩
  case jturn=>
   rintro x c st2 _ hxk ⟨rfl,l,o,rfl,hlo,L4,lZ,hp⟩;dsimp only;by_cases hge:o ≥ n-hint
   .rw [aaU hge];exact aG3 ⟨rfl,l,o,rfl,hlo,lZ,hp,.inl hge⟩
   .rw [afn hge];refine ba7 (B (by lia) ?_);dsimp only;cases c:P (hint+o) with
    |true=>
     rw[afn (by simp)];exact aG3 ⟨rfl,o,2*o+1,rfl,by lia,by lia,by lia,c⟩
    |false=>
     rw[aaU (by simp)];exact aG3 ⟨rfl,l,o,rfl,hlo,lZ,hp,.inr ⟨by lia,c⟩⟩
  case jafter=>
   rintro c st2 ⟨rfl,l,o,rfl,hlo,lZ,hp,ho⟩;refine Q9 B up dn h (by dsimp only;lia) (by dsimp only;lia) (λi hi=>up (j:=hint+l) (by dsimp only at hi;lia) lZ hp) (λi p q=>?_);dsimp only at p;rcases ho with ho|⟨ho,c⟩
   .lia
   .exact dn (i:=hint+o) (by lia) q c
 |false=>
  rw[afn (by simp)];unfold PK;refine ba7 (ash (aJo (I:=λx c st2=>st2=st/\∃l o,c=(none,l,o)/\l<o/\x+1<=o/\l<=hint/\P (hint-l)=false)
   (Q:=λc st2=>st2=st/\∃l o,c=(none,l,o)/\l<o/\l<=hint/\P (hint-l)=false/\(hint+1<=o\/o<=hint/\P (hint-o)=true)) ?kturn ?klast ?kfirst) ?kafter)
  case kfirst=>exact⟨rfl,0,1,rfl,by lia,by lia,by lia,e⟩
  case klast=>
   rintro c st2 ⟨rfl,l,o,rfl,hlo,L4,lZ,hp⟩;exact⟨rfl,l,o,rfl,hlo,lZ,hp,.inl (by lia)⟩
  case kturn=>
   rintro x c st2 _ hxk ⟨rfl,l,o,rfl,hlo,L4,lZ,hp⟩;dsimp only;by_cases hge:o ≥ hint+1
   .rw [aaU hge];exact aG3 ⟨rfl,l,o,rfl,hlo,lZ,hp,.inl hge⟩
   .rw [afn hge];refine ba7 (B (by lia) ?_);dsimp only;cases c:P (hint-o) with
    |true=>
     rw[aaU rfl];exact aG3 ⟨rfl,l,o,rfl,hlo,lZ,hp,.inr ⟨by lia,c⟩⟩
    |false=>
     rw[afn (by simp)];exact aG3 ⟨rfl,o,2*o+1,rfl,by lia,by lia,by lia,c⟩
  case kafter=>
   rintro c st2 ⟨rfl,l,o,rfl,hlo,lZ,hp,ho⟩;refine Q9 B up dn h (by dsimp only;lia) (by dsimp only;lia) (λi hi=>?_) (λi p q=>dn (i:=hint-l) (by dsimp only at p;lia) q hp);dsimp only at hi;rcases ho with ho|⟨ho,c⟩
   .lia
   .exact up (j:=hint-o) (by lia) (by lia) c
end
def Lk(ρ:aE.RR)(x y:Keyed):Prop:=ρ.g x<=ρ.g y
structure MI(ρ:aE.RR)(A B out:List Keyed)(ia ib:Nat):Prop where
 perm:(out++A.drop ia++B.drop ib).Perm (A++B)
 sa:(out++A.drop ia).Pairwise (Lk ρ)
 sb:(out++B.drop ib).Pairwise (Lk ρ)
section
variable{ρ:aE.RR}{A B out:List Keyed}{ia ib:Nat}
theorem MI.je(h:MI ρ A B out ia ib)(k:Nat)(hk:∀t∈(B.drop ib).take k,∀x∈A.drop ia,ρ.g t<=ρ.g x):MI ρ A B (out++(B.drop ib).take k) ia (ib+k):=by
 have e:B.drop (ib+k)=(B.drop ib).drop k:=by rw[drop_drop]
 have s:=h.sb;have p:=h.perm;rw[<-ak2 k (B.drop ib)]at s p;refine⟨?_,?_,?_⟩
 .rw [e];refine List.Perm.trans ?_ p;rw[aBM out,aBM out,aBM out,<-aBM (A.drop ia)];exact(List.Perm.append_right _ apN).append_left _
 .have s1:(out++(B.drop ib).take k).Pairwise (Lk ρ):=by
   rw[<-aBM]at s;exact(a7E.1 s).1
  have a1:=a7E.1 h.sa;refine a7E.2 ⟨s1,a1.2.1,λx hx y hy=>?_⟩;rcases aaI.1 hx with hx|hx
  .exact a1.2.2 x hx y hy
  .exact hk x hx y hy
 .rw [e,aBM];exact s
theorem MI.mP(h:MI ρ A B out ia ib)(k:Nat)(hk:∀t∈(A.drop ia).take k,∀x∈B.drop ib,ρ.g t<=ρ.g x):MI ρ A B (out++(A.drop ia).take k) (ia+k) ib:=by
 have h2:MI ρ B A out ib ia:=⟨by
  refine List.Perm.trans ?_ (List.Perm.trans h.perm apN);rw[aBM,aBM];exact apN.append_left _,h.sb,h.sa⟩
 have h3:=h2.je k hk;refine⟨?_,h3.sb,h3.sa⟩;refine List.Perm.trans ?_ (List.Perm.trans h3.perm apN);rw[aBM _ (A.drop _),aBM _ (B.drop _)];exact apN.append_left _
def Res(ρ:aE.RR)(A B:List Keyed)(r:Array Keyed):Prop:=r.toList.Perm (A++B)/\r.toList.Pairwise (Lk ρ)
theorem JM(a:Array Keyed)(i:Nat):(a.extract i a.size).toList=a.toList.drop i:=by
 rw[alG,List.extract_eq_drop_take];exact agp (by simp)
theorem Nd(a:Array Keyed)(i k:Nat):(a.extract i (i+k)).toList=(a.toList.drop i).take k:=by
 rw[alG,List.extract_eq_drop_take];congr 1
 lia
theorem MI.res{a b out:Array Keyed}(h:MI ρ a.toList b.toList out.toList ia ib)(he:a.toList.drop ia=[]\/b.toList.drop ib=[]):Res ρ a.toList b.toList (out++a.extract ia a.size++b.extract ib b.size):=by
 unfold Res;rw[ah9,ah9,JM,JM];refine⟨h.perm,?_⟩;rcases he with he|he
 .rw [he,aWa];exact h.sb
 .rw [he,aWa];exact h.sa
theorem MI.last{a b out:Array Keyed}(h:MI ρ a.toList b.toList out.toList ia ib)(hl:∀y∈b.toList,∀x∈a.toList.drop (a.size-1),ρ.g y<=ρ.g x)(he:ia+1=a.size):Res ρ a.toList b.toList (out++b.extract ib b.size++a.extract ia a.size):=by
 have e:ia=a.size-1:=by lia
 have h2:=h.je (b.toList.length) (λt ht x hx=>hl t (List.mem_of_mem_drop (mem_of_mem_take ht)) x (by rw[<-e];exact hx));have e2:(b.toList.drop ib).take b.toList.length=b.toList.drop ib:=agp (by simp);have e3:b.toList.drop (ib+b.toList.length)=[]:=bbz (by lia);rw[e2]at h2;unfold Res;rw[ah9,ah9,JM,JM];refine⟨?_,h2.sa⟩;have:=h2.perm;rw[e3,aWa]at this;exact this
end
abbrev uW:=Option (Array Keyed)×Array Keyed×Nat×Nat×Nat×Nat×Nat
def Je(a b out:Array Keyed)(ia ib g k k1:Nat):StateT SortSt Sem (ForInStep uW):=do
 let x <-elem' a ia
 if ia+1+1 ==a.size then pure (.done (some (out.push x++b.extract ib b.size++a.extract (ia+1) a.size),out.push x,ia+1,ib,g,k,k1))
 else if k<7 && k1<7 then pure (.done (none,out.push x,ia+1,ib,g,k,k1)) else pure (.yield (none,out.push x,ia+1,ib,g,k,k1))
def lo2(a b out:Array Keyed)(ia ib g k bc:Nat):StateT SortSt Sem (ForInStep uW):=do
 let x <-elem' b ib
 if ib+1 ==b.size then pure (.done (some (out.push x++a.extract ia a.size++b.extract (ib+1) b.size),out.push x,ia,ib+1,g,k,bc))
 else do
  let y <-elem' a ia
  let r <-D9 true y b (ib+1) (b.size-(ib+1)) 0
  match r with
  |some k1=>
   if k1>0 then
    if ib+1+k1 ==b.size then pure (.done (some (out.push x++b.extract (ib+1) (ib+1+k1)++a.extract ia a.size++b.extract (ib+1+k1) b.size),out.push x++b.extract (ib+1) (ib+1+k1),ia,ib+1+k1,g,k,k1))
    else Je a b (out.push x++b.extract (ib+1) (ib+1+k1)) ia (ib+1+k1) g k k1
   else Je a b (out.push x) ia (ib+1) g k k1
  |none=>pure (.done (some (out.push x++a.extract ia a.size++b.extract (ib+1) b.size),out.push x,ia,ib+1,g,k,bc))
def lo1(a b out:Array Keyed)(ia ib g ac bc:Nat):StateT SortSt Sem (ForInStep uW):=do
 ZN g
 let y <-elem' b ib
 let r <-D9 false y a ia (a.size-ia) 0
 match r with
 |some k=>
  if k>0 then
   if ia+k+1 ==a.size then pure (.done (some (out++a.extract ia (ia+k)++b.extract ib b.size++a.extract (ia+k) a.size),out++a.extract ia (ia+k),ia+k,ib,g,k,bc))
   else if ia+k ==a.size then pure (.done (some (out++a.extract ia (ia+k)++a.extract (ia+k) a.size++b.extract ib b.size),out++a.extract ia (ia+k),ia+k,ib,g,k,bc))
   else lo2 a b (out++a.extract ia (ia+k)) (ia+k) ib g k bc
  else lo2 a b out ia ib g k bc
 |none=>pure (.done (some (out++a.extract ia a.size++b.extract ib b.size),out,ia,ib,g,ac,bc))
abbrev Ag:=Option (Array Keyed)×Array Keyed×Nat×Nat×Nat×Nat
def Jd(a b:Array Keyed)(mg:Nat)(c:Ag):StateT SortSt Sem (ForInStep Ag):=do
 let y <-elem' b c.2.2.2.1
 let x <-elem' a c.2.2.1
 let r <-lt' y x
 match r with
 |some w=>
  if w then do
   let y <-elem' b c.2.2.2.1
   if c.2.2.2.1+1 ==b.size then pure (.done (some (c.2.1.push y++a.extract c.2.2.1 a.size++b.extract (c.2.2.2.1+1) b.size),c.2.1.push y,c.2.2.1,c.2.2.2.1+1,0,c.2.2.2.2.2+1))
   else if c.2.2.2.2.2+1 ≥ mg then pure (.done (none,c.2.1.push y,c.2.2.1,c.2.2.2.1+1,0,c.2.2.2.2.2+1))
   else pure (.yield (none,c.2.1.push y,c.2.2.1,c.2.2.2.1+1,0,c.2.2.2.2.2+1))
  else do
   let x <-elem' a c.2.2.1
   if c.2.2.1+1+1 ==a.size then pure (.done (some (c.2.1.push x++b.extract c.2.2.2.1 b.size++a.extract (c.2.2.1+1) a.size),c.2.1.push x,c.2.2.1+1,c.2.2.2.1,c.2.2.2.2.1+1,0))
   else if c.2.2.2.2.1+1 ≥ mg then pure (.done (none,c.2.1.push x,c.2.2.1+1,c.2.2.2.1,c.2.2.2.2.1+1,0))
   else pure (.yield (none,c.2.1.push x,c.2.2.1+1,c.2.2.2.1,c.2.2.2.2.1+1,0))
 |none=>pure (.done (some (c.2.1++a.extract c.2.2.1 a.size++b.extract c.2.2.2.1 b.size),c.2.1,c.2.2.1,c.2.2.2.1,c.2.2.2.2.1,c.2.2.2.2.2))
abbrev Dh:=Option (Array Keyed)×Array Keyed×Nat×Nat×Nat
def Jc(a b:Array Keyed)(c:Dh):StateT SortSt Sem (ForInStep Dh):=do
 let d <-forIn [0:a.size+b.size] ((none,c.2.1,c.2.2.1,c.2.2.2.1,0,0):Ag) (λ_ d=>Jd a b c.2.2.2.2 d)
 match d.1 with
 |some r=>pure (.done (some r,d.2.1,d.2.2.1,d.2.2.2.1,c.2.2.2.2))
 |none=>do
  rule "list.sort.gallop"
  let e <-forIn [0:a.size+b.size] ((none,d.2.1,d.2.2.1,d.2.2.2.1,c.2.2.2.2+1,d.2.2.2.2.1,d.2.2.2.2.2):uW) (λ_ e=>if e.2.2.2.2.1>1 then lo1 a b e.2.1 e.2.2.1 e.2.2.2.1 (e.2.2.2.2.1-1) e.2.2.2.2.2.1 e.2.2.2.2.2.2 else lo1 a b e.2.1 e.2.2.1 e.2.2.2.1 e.2.2.2.2.1 e.2.2.2.2.2.1 e.2.2.2.2.2.2)
  match e.1 with
  |some r=>pure (.done (some r,e.2.1,e.2.2.1,e.2.2.2.1,e.2.2.2.2.1))
  |none=>do
   ZN (e.2.2.2.2.1+1)
   pure (.yield (none,e.2.1,e.2.2.1,e.2.2.2.1,e.2.2.2.2.1+1))
theorem Zfw{M:Model}{A:Around}{E:Value->Shared->Prop}{s:Shared}{Q:Array Keyed->SortSt->Prop}{st:SortSt}(a b:Array Keyed)(h:wpS M A E s (do
 rule "list.sort.merge-lo"
 let x <-elem' b 0
 if 1 ==b.size then pure (#[x]++a.extract 0 a.size++b.extract 1 b.size)
 else if 0+1 ==a.size then pure (#[x]++b.extract 1 b.size++a.extract 0 a.size)
 else do
  let st <-get
  let c <-forIn [0:a.size+b.size] ((none,#[x],0,1,gallopOf st):Dh) (λ_ c=>Jc a b c)
  match c.1 with
  |some r=>pure r
  |none=>unsupported "internal:list.sort.merge-bound") Q st):wpS M A E s (NF a b) Q st:=by
 show wpAny M A (NF a b st) _ E s
 wp_delta
 wp_delta
 refine xO ?_ h;dsimp only;refine aOw λ_=>aOw λx=>?_;congr 1
 congr 1
 refine aOw λst=>?_;congr 1
 .congr 1
  funext _ c
  unfold Jc;congr 1
  .congr 1
   funext _ d
   unfold Jd;refine aOw λy=>aOw λx=>aOw λr=>?_;cases r with
   |some w=>
    cases w with
    |true=>rfl
    |false=>rfl
   |none=>rfl
  .funext d
   cases d.1 with
   |some r=>rfl
   |none=>
    dsimp only;refine aOw λ_=>?_;congr 1
    .congr 1
     funext _ e
     congr 1
     all_goals
      unfold lo1;refine aOw λ_=>aOw λy=>aOw λr=>?_;cases r with
      |none=>rfl
      |some k=>
       dsimp only;congr 1
       .congr 1
        congr 1
        unfold lo2;refine aOw λx=>?_;congr 1
        refine aOw λy=>aOw λr=>?_;cases r with
        |none=>rfl
        |some k1=>rfl
       .unfold lo2;refine aOw λx=>?_;congr 1
        refine aOw λy=>aOw λr=>?_;cases r with
        |none=>rfl
        |some k1=>rfl
    .funext e
     cases e.1 with
     |some r=>rfl
     |none=>rfl
 .funext c
  cases c.1 with
  |some r=>rfl
  |none=>rfl
def Sm(st st':SortSt):Prop:=kindOf st'=kindOf st/\arrOf st'=arrOf st/\pendingOf st'=pendingOf st/\failedOf st'=failedOf st
theorem Sm.refl(st:SortSt):Sm st st:=⟨rfl,rfl,rfl,rfl⟩
theorem Sm.trans{a b c:SortSt}(h:Sm a b)(h':Sm b c):Sm a c:=⟨h'.1.trans h.1,h'.2.1.trans h.2.1,h'.2.2.1.trans h.2.2.1,h'.2.2.2.trans h.2.2.2⟩
section
variable{prog:Program}{w:World}{A:Around}{E:Value->Shared->Prop}{s:Shared}{a₀:Array Keyed}{κ:SortKind}{ρ:aE.RR}{a b:Array Keyed}
theorem JL{st:SortSt}{g:Nat}{Q:Unit->SortSt->Prop}(h:∀st',Sm st st'->Q () st'):wpS (model prog w) A E s (ZN g) Q st:=by
 rw[ZbA];exact aiW (h _ ⟨rfl,rfl,rfl,rfl⟩)
theorem QN(h:a.toList.Pairwise (Lk ρ))(i j:Nat):dJ ρ a i (i+(a.size-i)):=by
 intro x y hx hxy hy;have hy':y<a.size:=by lia
 rw[bE (show x<a.size by lia),bE hy'];by_cases e:x=y
 .subst e;lia
 .exact aMQ.1 h x y (by simpa using(show x<a.size by lia)) (by simpa using hy') (by lia)
theorem Zec{i:Nat}{x:Keyed}(h:x∈a.toList.drop i):∃j,∃hj:i+j<a.size,x=a[i+j]:=by
 obtain⟨j,hj,e⟩:=aG7.1 h;rw[bbY,ak9]at hj;refine⟨j,by lia,?_⟩;rw[<-e,getElem_drop,aLY]
theorem Zed{i k:Nat}{x:Keyed}(h:x∈(a.toList.drop i).take k):∃j,j<k/\∃hj:i+j<a.size,x=a[i+j]:=by
 obtain⟨j,hj,e⟩:=aG7.1 h;rw[bbw,bbY,ak9]at hj;refine⟨j,by lia,by lia,?_⟩;rw[<-e,getElem_take,getElem_drop,aLY]
theorem Cut.low{left:Bool}{kv:Int}{i k:Nat}(h:Cut ρ left kv a i (a.size-i) k){x:Keyed}(hx:x∈(a.toList.drop i).take k):ρ.g x<=kv:=by
 obtain⟨j,hj,hs,rfl⟩:=Zed hx;have:=h.lo j hj;unfold Bd at this;rw[bE hs]at this;cases left with
 |true=>simp only[a6Z,aWv]at this;lia
 |false=>simp only[aY9,a3v,aUv,aOr]at this;lia
theorem Cut.high{left:Bool}{kv:Int}{i k:Nat}(h:Cut ρ left kv a i (a.size-i) k){x:Keyed}(hx:x∈a.toList.drop (i+k)):kv<=ρ.g x:=by
 obtain⟨j,hs,rfl⟩:=Zec hx;have:=h.hi (k+j) (by lia) (by lia);unfold Bd at this;rw[show i+(k+j)=i+k+j by lia,bE hs]at this;cases left with
 |true=>simp only[a6Z,aOr]at this;lia
 |false=>simp only[aY9,a3v,Bool.not_eq_false',aWv]at this;lia
theorem HF{i:Nat}(hi:i<a.size):(a.toList.drop i).take 1=[a[i]]:=by
 rw[aKV (by simpa using hi)];rfl
theorem Kf{i:Nat}(hi:i<a.size)(h:(a.toList.drop i).Pairwise (Lk ρ)){x:Keyed}(hx:x∈a.toList.drop i):ρ.g a[i]<=ρ.g x:=by
 rw[aKV (by simpa using hi)]at h hx;rcases baL.1 hx with rfl|hx
 .exact aHM _
 .exact (aUD.1 h).1 x hx
structure Eg(ρ:aE.RR)(a₀ a b:Array Keyed):Prop where
 ma:∀p∈a.toList,p∈a₀.toList
 mb:∀p∈b.toList,p∈a₀.toList
 sa:a.toList.Pairwise (Lk ρ)
 sb:b.toList.Pairwise (Lk ρ)
 last:∀y∈b.toList,∀x∈a.toList.drop (a.size-1),ρ.g y<=ρ.g x
def Jm(ρ:aE.RR)(a b:Array Keyed)(m:Nat)(out:Array Keyed)(ia ib:Nat):Prop:=MI ρ a.toList b.toList out.toList ia ib/\m<=ia+ib/\ia+1<a.size/\ib<b.size
def Tq(ρ:aE.RR)(a b:Array Keyed)(m:Nat)(c:uW):Prop:=(∃r q,c=(some r,q)/\Res ρ a.toList b.toList r)\/∃out ia ib g k k1,c=(none,out,ia,ib,g,k,k1)/\Jm ρ a b m out ia ib
def N4(ρ:aE.RR)(a b:Array Keyed)(m:Nat)(st:SortSt)(r:ForInStep uW)(st':SortSt):Prop:=Sm st st'/\match r with
 | .done c=>Tq ρ a b m c
 | .yield c=>∃out ia ib g k k1,c=(none,out,ia,ib,g,k,k1)/\Jm ρ a b m out ia ib
theorem MI.m7{out:Array Keyed}{ia ib:Nat}(h:MI ρ a.toList b.toList out.toList ia ib)(hi:ia<a.size)(hk:∀x∈b.toList.drop ib,ρ.g a[ia]<=ρ.g x):MI ρ a.toList b.toList (out.push a[ia]).toList (ia+1) ib:=by
 have:=h.mP 1 (by rw[HF hi];intro t ht x hx;rw[apU.1 ht];exact hk x hx);rw[HF hi]at this;rw[aVH];exact this
theorem MI.m6{out:Array Keyed}{ia ib:Nat}(h:MI ρ a.toList b.toList out.toList ia ib)(hi:ib<b.size)(hk:∀x∈a.toList.drop ia,ρ.g b[ib]<=ρ.g x):MI ρ a.toList b.toList (out.push b[ib]).toList ia (ib+1):=by
 have:=h.je 1 (by rw[HF hi];intro t ht x hx;rw[apU.1 ht];exact hk x hx);rw[HF hi]at this;rw[aVH];exact this
theorem QM{dZ st:SortSt}{out:Array Keyed}{ia ib g k k1 m:Nat}(T:Eg ρ a₀ a b)(hS:Sm dZ st)(h:Jm ρ a b m out ia ib)(hk:∀x∈b.toList.drop ib,ρ.g (a[ia]'(by have:=h.2.2.1;lia))<=ρ.g x):wpS (model prog w) A E s (Je a b out ia ib g k k1) (N4 ρ a b (m+1) dZ) st:=by
 obtain⟨M,hm,ha,hb⟩:=h;have xr:ia<a.size:=by lia
 unfold Je;refine ba7 (Zu xr ?_);have M2:=M.m7 xr hk;by_cases e:ia+1+1=a.size
 .rw [aaU (by simpa using e)];exact aG3 ⟨hS,.inl ⟨_,_,rfl,M2.last T.last e⟩⟩
 .rw [afn (by simpa using e)];have J:Jm ρ a b (m+1) (out.push a[ia]) (ia+1) ib:=⟨M2,by lia,by lia,hb⟩;by_cases c:(decide (k<7) && decide (k1<7))=true
  .rw [aaU c];exact aG3 ⟨hS,.inr ⟨_,_,_,_,_,_,rfl,J⟩⟩
  .rw [afn c];exact aG3 ⟨hS,_,_,_,_,_,_,rfl,J⟩
theorem QL{dZ st:SortSt}{out:Array Keyed}{ia ib g k bc m:Nat}(h0:aE.jU prog w A s κ ρ a₀)(hk:kindOf st=κ)(T:Eg ρ a₀ a b)(hS:Sm dZ st)(h:Jm ρ a b m out ia ib)(hq:∀x∈a.toList.drop ia,ρ.g (b[ib]'(h.2.2.2))<=ρ.g x):wpS (model prog w) A E s (lo2 a b out ia ib g k bc) (N4 ρ a b (m+1) dZ) st:=by
 obtain⟨M,hm,ha,hb⟩:=h;have xr:ia<a.size:=by lia
 unfold lo2;refine ba7 (Zu hb ?_);have M2:=M.m6 hb hq;by_cases e:ib+1=b.size
 .rw [aaU (by simpa using e)];exact aG3 ⟨hS,.inl ⟨_,_,rfl,M2.res (.inr (bbz (by simp;lia)))⟩⟩
 .rw [afn (by simpa using e)];refine ba7 (Zu xr ?_);refine ba7 (Ed hk h0 T.mb (T.ma _ (by simp)) (by lia) (by lia) (QN T.sb _ 0) (λk1 C=>?_));dsimp only;have fa:∀x∈a.toList.drop ia,ρ.g a[ia]<=ρ.g x:=λx hx=>Kf xr (baM (drop_sublist _ _) T.sa) hx;have M3:=M2.je k1 (λt ht x hx=>aaK (C.low ht) (fa x hx));rw[<-Nd,<-ah9]at M3;have hi:∀x∈b.toList.drop (ib+1+k1),ρ.g a[ia]<=ρ.g x:=λx hx=>C.high hx;by_cases c:k1>0
  .rw [aaU c];by_cases e2:ib+1+k1=b.size
   .rw [aaU (by simpa using e2)];exact aG3 ⟨hS,.inl ⟨_,_,rfl,M3.res (.inr (bbz (by simp;lia)))⟩⟩
   .rw [afn (by simpa using e2)];have:=C.le;exact QM T hS ⟨M3,by lia,ha,by lia⟩ hi
  .rw [afn c];have e3:k1=0:=by lia
   subst e3;exact QM T hS ⟨M2,by lia,ha,by lia⟩ hi
theorem YH{dZ st:SortSt}{out:Array Keyed}{ia ib g ac bc m:Nat}(h0:aE.jU prog w A s κ ρ a₀)(hk:kindOf st=κ)(T:Eg ρ a₀ a b)(hS:Sm dZ st)(h:Jm ρ a b m out ia ib):wpS (model prog w) A E s (lo1 a b out ia ib g ac bc) (N4 ρ a b (m+1) dZ) st:=by
 obtain⟨M,hm,ha,hb⟩:=h;have xr:ia<a.size:=by lia
 unfold lo1;refine ba7 (JL λst1 Cw=>?_);have hk1:kindOf st1=κ:=Cw.1.trans hk;have vj:=hS.trans Cw;refine ba7 (Zu hb ?_);refine ba7 (Ed hk1 h0 T.ma (T.mb _ (by simp)) (by lia) (by lia) (QN T.sa _ 0) (λk C=>?_));dsimp only;have fb:∀x∈b.toList.drop ib,ρ.g b[ib]<=ρ.g x:=λx hx=>Kf hb (baM (drop_sublist _ _) T.sb) hx;have M3:=M.mP k (λt ht x hx=>aaK (C.low ht) (fb x hx));rw[<-Nd,<-ah9]at M3;have hi:∀x∈a.toList.drop (ia+k),ρ.g b[ib]<=ρ.g x:=λx hx=>C.high hx;have:=C.le;by_cases c:k>0
 .rw [aaU c];by_cases e2:ia+k+1=a.size
  .rw [aaU (by simpa using e2)];exact aG3 ⟨vj,.inl ⟨_,_,rfl,M3.last T.last e2⟩⟩
  .rw [afn (by simpa using e2)];by_cases e3:ia+k=a.size
   .rw [aaU (by simpa using e3)];exact aG3 ⟨vj,.inl ⟨_,_,rfl,M3.res (.inl (bbz (by simp;lia)))⟩⟩
   .rw [afn (by simpa using e3)];exact QL h0 hk1 T vj ⟨M3,by lia,by lia,hb⟩ hi
 .rw [afn c];have e3:k=0:=by lia
  subst e3;exact QL h0 hk1 T vj ⟨M,by lia,ha,hb⟩ hi
def TJ(ρ:aE.RR)(a b:Array Keyed)(m:Nat)(c:Ag):Prop:=(∃r q,c=(some r,q)/\Res ρ a.toList b.toList r)\/∃out ia ib k k1,c=(none,out,ia,ib,k,k1)/\Jm ρ a b m out ia ib
theorem YG{st:SortSt}{out:Array Keyed}{mg ia ib ac bc m:Nat}(h0:aE.jU prog w A s κ ρ a₀)(hk:kindOf st=κ)(T:Eg ρ a₀ a b)(h:Jm ρ a b m out ia ib):wpS (model prog w) A E s (Jd a b mg (none,out,ia,ib,ac,bc)) (λr st'=>st'=st/\match r with
  | .done c=>TJ ρ a b (m+1) c
  | .yield c=>∃out ia ib k k1,c=(none,out,ia,ib,k,k1)/\Jm ρ a b (m+1) out ia ib) st:=by
 obtain⟨M,hm,ha,hb⟩:=h;have xr:ia<a.size:=by lia
 have fa:∀x∈a.toList.drop ia,ρ.g a[ia]<=ρ.g x:=λx hx=>Kf xr (baM (drop_sublist _ _) T.sa) hx;have fb:∀x∈b.toList.drop ib,ρ.g b[ib]<=ρ.g x:=λx hx=>Kf hb (baM (drop_sublist _ _) T.sb) hx;unfold Jd;dsimp only;refine ba7 (Zu hb (ba7 (Zu xr (ba7 (qo hk h0 (T.mb _ (by simp)) (T.ma _ (by simp)) ?_)))));dsimp only;by_cases c:ρ.g b[ib]<ρ.g a[ia]
 .rw [a5U c,aaU rfl];refine ba7 (Zu hb ?_);have M2:=M.m6 hb (λx hx=>by have:=fa x hx;lia);by_cases e:ib+1=b.size
  .rw [aaU (by simpa using e)];exact aG3 ⟨rfl,.inl ⟨_,_,rfl,M2.res (.inr (bbz (by simp;lia)))⟩⟩
  .rw [afn (by simpa using e)];have J:Jm ρ a b (m+1) (out.push b[ib]) ia (ib+1):=⟨M2,by lia,ha,by lia⟩;by_cases c2:bc+1 ≥ mg
   .rw [aaU c2];exact aG3 ⟨rfl,.inr ⟨_,_,_,_,_,rfl,J⟩⟩
   .rw [afn c2];exact aG3 ⟨rfl,_,_,_,_,_,rfl,J⟩
 .rw [a4I c,afn (by simp)];refine ba7 (Zu xr ?_);have M2:=M.m7 xr (λx hx=>by have:=fb x hx;lia);by_cases e:ia+1+1=a.size
  .rw [aaU (by simpa using e)];exact aG3 ⟨rfl,.inl ⟨_,_,rfl,M2.last T.last e⟩⟩
  .rw [afn (by simpa using e)];have J:Jm ρ a b (m+1) (out.push a[ia]) (ia+1) ib:=⟨M2,by lia,by lia,hb⟩;by_cases c2:ac+1 ≥ mg
   .rw [aaU c2];exact aG3 ⟨rfl,.inr ⟨_,_,_,_,_,rfl,J⟩⟩
   .rw [afn c2];exact aG3 ⟨rfl,_,_,_,_,_,rfl,J⟩
theorem Jm.weak{m m':Nat}{out:Array Keyed}{ia ib:Nat}(h:Jm ρ a b m out ia ib)(hm:m'<=m):Jm ρ a b m' out ia ib:=⟨h.1,by have:=h.2.1;lia,h.2.2.1,h.2.2.2⟩
theorem YF{st:SortSt}{out:Array Keyed}{ia ib g m:Nat}(h0:aE.jU prog w A s κ ρ a₀)(hk:kindOf st=κ)(T:Eg ρ a₀ a b)(h:Jm ρ a b m out ia ib):wpS (model prog w) A E s (Jc a b (none,out,ia,ib,g)) (λr st'=>Sm st st'/\match r with
  | .done c=>∃r q,c=(some r,q)/\Res ρ a.toList b.toList r
  | .yield c=>∃out ia ib g,c=(none,out,ia,ib,g)/\Jm ρ a b (m+1) out ia ib) st:=by
 have pos:0<a.size+b.size:=by have:=h.2.2.1;lia
 unfold Jc;dsimp only;refine ba7 (ash (aJo (I:=λx c st2=>st2=st/\∃out ia ib k k1,c=(none,out,ia,ib,k,k1)/\Jm ρ a b (m+x) out ia ib) (Q:=λc st2=>st2=st/\TJ ρ a b (m+1) c) ?turn ?last ?first) ?after)
 case first=>exact⟨rfl,_,_,_,_,_,rfl,h⟩
 case last=>
  rintro c st2 ⟨rfl,out,ia,ib,k,k1,rfl,J⟩;exact⟨rfl,.inr ⟨_,_,_,_,_,rfl,J.weak (by lia)⟩⟩
 case turn=>
  rintro x c st2 _ hx ⟨rfl,out,ia,ib,k,k1,rfl,J⟩;refine ash (YG h0 hk T J) ?_;rintro r st3 ⟨rfl,hr⟩;cases r with
  |done c=>
   refine⟨rfl,?_⟩;rcases hr with hr|⟨out,ia,ib,k,k1,rfl,J⟩
   .exact .inl hr
   .exact .inr ⟨_,_,_,_,_,rfl,J.weak (by lia)⟩
  |yield c=>exact⟨rfl,hr⟩
 case after=>
  rintro c st2 ⟨rfl,hc⟩;rcases hc with⟨r,q,rfl,R⟩|⟨out,ia,ib,k,k1,rfl,J⟩
  .exact aG3 ⟨Sm.refl _,_,_,rfl,R⟩
  .dsimp only;refine ba7 (wpS_lift (ajd ⟨rfl,?_⟩));refine ba7 (ash (aJo (I:=λx c st3=>Sm st2 st3/\∃out ia ib g k k1,c=(none,out,ia,ib,g,k,k1)/\Jm ρ a b (m+x) out ia ib) (Q:=λc st3=>Sm st2 st3/\Tq ρ a b (m+1) c) ?jturn ?jlast ?jfirst) ?jafter)
   case jfirst=>exact⟨Sm.refl _,_,_,_,_,_,_,rfl,J.weak (by lia)⟩
   case jlast=>
    rintro c st3 ⟨hS,out,ia,ib,g,k,k1,rfl,J⟩;exact⟨hS,.inr ⟨_,_,_,_,_,_,rfl,J.weak (by lia)⟩⟩
   case jturn=>
    rintro x c st3 _ hx ⟨hS,out,ia,ib,g,k,k1,rfl,J⟩;have Mi:kindOf st3=κ:=hS.1.trans hk;dsimp only;rw[show(if g>1 then lo1 a b out ia ib (g-1) k k1 else lo1 a b out ia ib g k k1)=lo1 a b out ia ib (if g>1 then g-1 else g) k k1 by split <;> rfl];refine ash (YH h0 Mi T hS J) ?_;rintro r cT ⟨xB,hr⟩;cases r with
    |done c=>
     refine⟨xB,?_⟩;rcases hr with hr|⟨out,ia,ib,g,k,k1,rfl,J⟩
     .exact .inl hr
     .exact .inr ⟨_,_,_,_,_,_,rfl,J.weak (by lia)⟩
    |yield c=>exact⟨xB,hr⟩
   case jafter=>
    rintro c st3 ⟨hS,hc⟩;rcases hc with⟨r,q,rfl,R⟩|⟨out,ia,ib,g,k,k1,rfl,J⟩
    .exact aG3 ⟨hS,_,_,rfl,R⟩
    .refine ba7 (JL λcT xB=>aG3 ⟨hS.trans xB,_,_,_,_,rfl,J⟩)
theorem Zfx{st:SortSt}{Q:Array Keyed->SortSt->Prop}(h0:aE.jU prog w A s κ ρ a₀)(hk:kindOf st=κ)(T:Eg ρ a₀ a b)(ha:0<a.size)(hb:0<b.size)(hf:∀x∈a.toList,ρ.g b[0]<=ρ.g x)
  (h:∀r st',Sm st st'->Res ρ a.toList b.toList r->Q r st'):wpS (model prog w) A E s (NF a b) Q st:=by
 refine Zfw _ _ ?_;refine ba7 (wpS_lift (ajd ⟨rfl,?_⟩));refine ba7 (Zu hb ?_);have M0:MI ρ a.toList b.toList (#[]:Array Keyed).toList 0 0:=⟨by simp,by simpa using T.sa,by simpa using T.sb⟩;have M1:MI ρ a.toList b.toList (#[b[0]]:Array Keyed).toList 0 1:=M0.m6 hb (λx hx=>hf x (by simpa using hx));by_cases e1:1=b.size
 .rw [aaU (by simpa using e1)];exact aG3 (h _ _ (Sm.refl _) (M1.res (.inr (bbz (by simp;lia)))))
 .rw [afn (by simpa using e1)];by_cases e2:0+1=a.size
  .rw [aaU (by simpa using e2)];exact aG3 (h _ _ (Sm.refl _) (M1.last T.last e2))
  .rw [afn (by simpa using e2)];refine ba7 (aLA ?_);refine ba7 (ash (aJo (I:=λx c st2=>Sm st st2/\∃out ia ib g,c=(none,out,ia,ib,g)/\Jm ρ a b (x+1) out ia ib) (Q:=λc st2=>Sm st st2/\∃r q,c=(some r,q)/\Res ρ a.toList b.toList r) ?turn ?last ?first) ?after)
   case first=>exact⟨Sm.refl _,_,_,_,_,rfl,M1,by lia,by lia,by lia⟩
   case last=>
    rintro c st2 ⟨_,out,ia,ib,g,rfl,J⟩;have:=J.2.1;have:=J.2.2.1;have:=J.2.2.2;lia
   case turn=>
    rintro x c st2 _ hx ⟨hS,out,ia,ib,g,rfl,J⟩;refine ash (YF h0 (hS.1.trans hk) T J) ?_;rintro r st3 ⟨Cv,hr⟩;cases r with
    |done c=>exact⟨hS.trans Cv,hr⟩
    |yield c=>exact⟨hS.trans Cv,hr⟩
   case after=>
    rintro c st2 ⟨hS,r,q,rfl,R⟩;exact aG3 (h r st2 hS R)
end
structure MH(ρ:aE.RR)(A B O:List Keyed)(na nb:Nat):Prop where
 perm:(A.take na++B.take nb++O).Perm (A++B)
 sa:(A.take na++O).Pairwise (Lk ρ)
 sb:(B.take nb++O).Pairwise (Lk ρ)
section
variable{ρ:aE.RR}{A B O:List Keyed}{na nb:Nat}
theorem MH.je(h:MH ρ A B O na nb)(k:Nat)(hkn:k<=nb)(hk:∀t∈(B.take nb).drop k,∀x∈A.take na,ρ.g x<=ρ.g t):MH ρ A B ((B.take nb).drop k++O) na k:=by
 have e:B.take k=(B.take nb).take k:=by rw[List.take_take,Nat.min_eq_left hkn]
 have s:=h.sb;have p:=h.perm;rw[<-ak2 k (B.take nb),aBM]at s;rw[<-ak2 k (B.take nb)]at p;refine⟨?_,?_,?_⟩
 .rw [e];refine List.Perm.trans ?_ p;simp only[aBM];exact List.Perm.refl _
 .have s1:=(a7E.1 s).2.1;have a1:=a7E.1 h.sa;refine a7E.2 ⟨a1.1,s1,λx hx y hy=>?_⟩;rcases aaI.1 hy with hy|hy
  .exact hk y hy x hx
  .exact a1.2.2 x hx y hy
 .rw [e];exact s
theorem MH.mP(h:MH ρ A B O na nb)(k:Nat)(hkn:k<=na)(hk:∀t∈(A.take na).drop k,∀x∈B.take nb,ρ.g x<=ρ.g t):MH ρ A B ((A.take na).drop k++O) k nb:=by
 have h2:MH ρ B A O nb na:=⟨List.Perm.trans (apN.append_right _) (List.Perm.trans h.perm apN),h.sb,h.sa⟩;have h3:=h2.je k hkn hk;exact⟨List.Perm.trans (apN.append_right _) (List.Perm.trans h3.perm apN),h3.sb,h3.sa⟩
theorem tV(a:Array Keyed)(k:Nat):(a.extract 0 k).toList=a.toList.take k:=by
 rw[alG,List.extract_eq_drop_take,drop_zero,Nat.sub_zero]
theorem DV(a:Array Keyed)(i k:Nat):(a.extract i k).toList=(a.toList.take k).drop i:=by
 rw[alG,List.extract_eq_drop_take,drop_take]
theorem MH.res{a b out:Array Keyed}(h:MH ρ a.toList b.toList out.toList.reverse na nb)(he:na=0\/nb=0):Res ρ a.toList b.toList (a.extract 0 na++b.extract 0 nb++out.reverse):=by
 unfold Res;rw[ah9,ah9,tV,tV,a84];refine⟨h.perm,?_⟩;rcases he with rfl|rfl
 .rw [take_zero,List.nil_append];exact h.sb
 .rw [take_zero,aWa];exact h.sa
theorem MH.first{a b out:Array Keyed}(h:MH ρ a.toList b.toList out.toList.reverse na 1)(hl:∀y∈b.toList.take 1,∀x∈a.toList,ρ.g y<=ρ.g x):Res ρ a.toList b.toList (b.extract 0 1++a.extract 0 na++out.reverse):=by
 have h2:=h.mP 0 (aL2 _) (λt ht x hx=>hl x hx t (mem_of_mem_take (List.mem_of_mem_drop ht)));rw[drop_zero]at h2;unfold Res;rw[ah9,ah9,tV,tV,a84];have p:=h2.perm;have s:=h2.sb;rw[take_zero,List.nil_append,<-aBM]at p;rw[<-aBM]at s;exact⟨p,s⟩
end
abbrev uX:=Option (Array Keyed)×Nat×Nat×Array Keyed×Nat×Nat×Nat
def oW(a b:Array Keyed)(na nb:Nat)(out:Array Keyed)(g k k1:Nat):StateT SortSt Sem (ForInStep uX):=do
 let x <-elem' a (na-1)
 if na-1 ==0 then pure (.done (some (a.extract 0 (na-1)++b.extract 0 nb++(out.push x).reverse),na-1,nb,out.push x,g,k,k1))
 else if k<7 && k1<7 then pure (.done (none,na-1,nb,out.push x,g,k,k1)) else pure (.yield (none,na-1,nb,out.push x,g,k,k1))
def hi2(a b:Array Keyed)(na nb:Nat)(out:Array Keyed)(g k bc:Nat):StateT SortSt Sem (ForInStep uX):=do
 let x <-elem' b (nb-1)
 if nb-1 ==1 then pure (.done (some (b.extract 0 (nb-1)++a.extract 0 na++(out.push x).reverse),na,nb-1,out.push x,g,k,bc))
 else do
  let y <-elem' a (na-1)
  let r <-D9 true y b 0 (nb-1) (nb-1-1)
  match r with
  |some i=>
   if nb-1-i>0 then
    if i ==1 then pure (.done (some (b.extract 0 i++a.extract 0 na++(out.push x++(b.extract i (nb-1)).reverse).reverse),na,i,out.push x++(b.extract i (nb-1)).reverse,g,k,nb-1-i))
    else if i ==0 then pure (.done (some (a.extract 0 na++b.extract 0 i++(out.push x++(b.extract i (nb-1)).reverse).reverse),na,i,out.push x++(b.extract i (nb-1)).reverse,g,k,nb-1-i))
    else oW a b na i (out.push x++(b.extract i (nb-1)).reverse) g k (nb-1-i)
   else oW a b na (nb-1) (out.push x) g k (nb-1-i)
  |none=>pure (.done (some (a.extract 0 na++b.extract 0 (nb-1)++(out.push x).reverse),na,nb-1,out.push x,g,k,bc))
def hi1(a b:Array Keyed)(na nb:Nat)(out:Array Keyed)(g ac bc:Nat):StateT SortSt Sem (ForInStep uX):=do
 ZN g
 let y <-elem' b (nb-1)
 let r <-D9 false y a 0 na (na-1)
 match r with
 |some i=>
  if na-i>0 then
   if i ==0 then pure (.done (some (a.extract 0 i++b.extract 0 nb++(out++(a.extract i na).reverse).reverse),i,nb,out++(a.extract i na).reverse,g,na-i,bc))
   else hi2 a b i nb (out++(a.extract i na).reverse) g (na-i) bc
  else hi2 a b na nb out g (na-i) bc
 |none=>pure (.done (some (a.extract 0 na++b.extract 0 nb++out.reverse),na,nb,out,g,ac,bc))
abbrev Af:=Option (Array Keyed)×Nat×Nat×Array Keyed×Nat×Nat
def Js(a b:Array Keyed)(mg:Nat)(c:Af):StateT SortSt Sem (ForInStep Af):=do
 let y <-elem' b (c.2.2.1-1)
 let x <-elem' a (c.2.1-1)
 let r <-lt' y x
 match r with
 |some w=>
  if w then do
   let x <-elem' a (c.2.1-1)
   if c.2.1-1 ==0 then pure (.done (some (a.extract 0 (c.2.1-1)++b.extract 0 c.2.2.1++(c.2.2.2.1.push x).reverse),c.2.1-1,c.2.2.1,c.2.2.2.1.push x,c.2.2.2.2.1+1,0))
   else if c.2.2.2.2.1+1 ≥ mg then pure (.done (none,c.2.1-1,c.2.2.1,c.2.2.2.1.push x,c.2.2.2.2.1+1,0))
   else pure (.yield (none,c.2.1-1,c.2.2.1,c.2.2.2.1.push x,c.2.2.2.2.1+1,0))
  else do
   let y <-elem' b (c.2.2.1-1)
   if c.2.2.1-1 ==1 then pure (.done (some (b.extract 0 (c.2.2.1-1)++a.extract 0 c.2.1++(c.2.2.2.1.push y).reverse),c.2.1,c.2.2.1-1,c.2.2.2.1.push y,0,c.2.2.2.2.2+1))
   else if c.2.2.2.2.2+1 ≥ mg then pure (.done (none,c.2.1,c.2.2.1-1,c.2.2.2.1.push y,0,c.2.2.2.2.2+1))
   else pure (.yield (none,c.2.1,c.2.2.1-1,c.2.2.2.1.push y,0,c.2.2.2.2.2+1))
 |none=>pure (.done (some (a.extract 0 c.2.1++b.extract 0 c.2.2.1++c.2.2.2.1.reverse),c.2.1,c.2.2.1,c.2.2.2.1,c.2.2.2.2.1,c.2.2.2.2.2))
abbrev Ds:=Option (Array Keyed)×Nat×Nat×Array Keyed×Nat
def Jr(a b:Array Keyed)(c:Ds):StateT SortSt Sem (ForInStep Ds):=do
 let d <-forIn [0:a.size+b.size] ((none,c.2.1,c.2.2.1,c.2.2.2.1,0,0):Af) (λ_ d=>Js a b c.2.2.2.2 d)
 match d.1 with
 |some r=>pure (.done (some r,d.2.1,d.2.2.1,d.2.2.2.1,c.2.2.2.2))
 |none=>do
  rule "list.sort.gallop"
  let e <-forIn [0:a.size+b.size] ((none,d.2.1,d.2.2.1,d.2.2.2.1,c.2.2.2.2+1,d.2.2.2.2.1,d.2.2.2.2.2):uX) (λ_ e=>if e.2.2.2.2.1>1 then hi1 a b e.2.1 e.2.2.1 e.2.2.2.1 (e.2.2.2.2.1-1) e.2.2.2.2.2.1 e.2.2.2.2.2.2 else hi1 a b e.2.1 e.2.2.1 e.2.2.2.1 e.2.2.2.2.1 e.2.2.2.2.2.1 e.2.2.2.2.2.2)
  match e.1 with
  |some r=>pure (.done (some r,e.2.1,e.2.2.1,e.2.2.2.1,e.2.2.2.2.1))
  |none=>do
   ZN (e.2.2.2.2.1+1)
   pure (.yield (none,e.2.1,e.2.2.1,e.2.2.2.1,e.2.2.2.2.1+1))
theorem Zfy{M:Model}{A:Around}{E:Value->Shared->Prop}{s:Shared}{Q:Array Keyed->SortSt->Prop}{st:SortSt}(a b:Array Keyed)(h:wpS M A E s (do
 rule "list.sort.merge-hi"
 let x <-elem' a (a.size-1)
 if a.size-1 ==0 then pure (a.extract 0 (a.size-1)++b.extract 0 b.size++#[x].reverse)
 else if b.size ==1 then pure (b.extract 0 b.size++a.extract 0 (a.size-1)++#[x].reverse)
 else do
  let st <-get
  let c <-forIn [0:a.size+b.size] ((none,a.size-1,b.size,#[x],gallopOf st):Ds) (λ_ c=>Jr a b c)
  match c.1 with
  |some r=>pure r
  |none=>unsupported "internal:list.sort.merge-bound") Q st):wpS M A E s (ND a b) Q st:=by
 show wpAny M A (ND a b st) _ E s
 wp_delta
 wp_delta
 refine xO ?_ h;dsimp only;refine aOw λ_=>aOw λx=>?_;congr 1
 congr 1
 refine aOw λst=>?_;congr 1
 .congr 1
  funext _ c
  unfold Jr;congr 1
  .congr 1
   funext _ d
   unfold Js;refine aOw λy=>aOw λx=>aOw λr=>?_;cases r with
   |some w=>
    cases w with
    |true=>rfl
    |false=>rfl
   |none=>rfl
  .funext d
   cases d.1 with
   |some r=>rfl
   |none=>
    dsimp only;refine aOw λ_=>?_;congr 1
    .congr 1
     funext _ e
     congr 1
     all_goals
      unfold hi1;refine aOw λ_=>aOw λy=>aOw λr=>?_;cases r with
      |none=>rfl
      |some k=>
       dsimp only;congr 1
       .congr 1
        unfold hi2;refine aOw λx=>?_;congr 1
        refine aOw λy=>aOw λr=>?_;cases r with
        |none=>rfl
        |some k1=>rfl
       .unfold hi2;refine aOw λx=>?_;congr 1
        refine aOw λy=>aOw λr=>?_;cases r with
        |none=>rfl
        |some k1=>rfl
    .funext e
     cases e.1 with
     |some r=>rfl
     |none=>rfl
 .funext c
  cases c.1 with
  |some r=>rfl
  |none=>rfl
section
variable{prog:Program}{w:World}{A:Around}{E:Value->Shared->Prop}{s:Shared}{a₀:Array Keyed}{κ:SortKind}{ρ:aE.RR}{a b:Array Keyed}
theorem MS(h:a.toList.Pairwise (Lk ρ)){n:Nat}(hn:n<=a.size):dJ ρ a 0 (0+n):=by
 intro x y hx hxy hy;have hy':y<a.size:=by lia
 rw[bE (show x<a.size by lia),bE hy'];by_cases e:x=y
 .subst e;lia
 .exact aMQ.1 h x y (by simpa using(show x<a.size by lia)) (by simpa using hy') (by lia)
theorem MR{n:Nat}{x:Keyed}(h:x∈a.toList.take n):∃j,j<n/\∃hj:j<a.size,x=a[j]:=by
 obtain⟨j,hj,e⟩:=aG7.1 h;rw[bbw,ak9]at hj;refine⟨j,by lia,by lia,?_⟩;rw[<-e,getElem_take,aLY]
theorem Nc{i n:Nat}{x:Keyed}(h:x∈(a.toList.take n).drop i):∃j,i<=j/\j<n/\∃hj:j<a.size,x=a[j]:=by
 obtain⟨j,hj,e⟩:=aG7.1 h;rw[bbY,bbw,ak9]at hj;refine⟨i+j,by lia,by lia,by lia,?_⟩;rw[<-e,getElem_drop,getElem_take,aLY]
theorem Cut.FY{left:Bool}{kv:Int}{n k:Nat}(h:Cut ρ left kv a 0 n k){x:Keyed}(hx:x∈a.toList.take k):ρ.g x<=kv:=by
 obtain⟨j,hj,hs,rfl⟩:=MR hx;have:=h.lo j hj;unfold Bd at this;simp only[aAR]at this;rw[bE hs]at this;cases left with
 |true=>simp only[a6Z,aWv]at this;lia
 |false=>simp only[aY9,a3v,aUv,aOr]at this;lia
theorem Cut.A8{left:Bool}{kv:Int}{n k:Nat}(h:Cut ρ left kv a 0 n k){x:Keyed}(hx:x∈(a.toList.take n).drop k):kv<=ρ.g x:=by
 obtain⟨j,hk,hj,hs,rfl⟩:=Nc hx;have:=h.hi j hk hj;unfold Bd at this;simp only[aAR]at this;rw[bE hs]at this;cases left with
 |true=>simp only[a6Z,aOr]at this;lia
 |false=>simp only[aY9,a3v,Bool.not_eq_false',aWv]at this;lia
theorem Ke{n:Nat}(hn:0<n)(hs:n<=a.size):(a.toList.take n).drop (n-1)=[a[n-1]]:=by
 rw[drop_take,show n-(n-1)=1 by lia];exact HF (by lia)
theorem JX{n:Nat}(hn:0<n)(hs:n<=a.size)(h:a.toList.Pairwise (Lk ρ)){x:Keyed}(hx:x∈a.toList.take n):ρ.g x<=ρ.g a[n-1]:=by
 obtain⟨j,hj,hs2,rfl⟩:=MR hx;have:=MS h hs j (n-1) (by lia) (by lia) (by lia);rw[bE hs2,bE (show n-1<a.size by lia)]at this;exact this
theorem MH.first'{out:Array Keyed}{na nb:Nat}(h:MH ρ a.toList b.toList out.toList.reverse na nb)(hl:∀y∈b.toList.take 1,∀x∈a.toList,ρ.g y<=ρ.g x)(e:nb=1):Res ρ a.toList b.toList (b.extract 0 nb++a.extract 0 na++out.reverse):=by
 subst e;exact h.first hl
structure Eh(ρ:aE.RR)(a₀ a b:Array Keyed):Prop where
 ma:∀p∈a.toList,p∈a₀.toList
 mb:∀p∈b.toList,p∈a₀.toList
 sa:a.toList.Pairwise (Lk ρ)
 sb:b.toList.Pairwise (Lk ρ)
 first:∀y∈b.toList.take 1,∀x∈a.toList,ρ.g y<=ρ.g x
structure Jh(ρ:aE.RR)(a b:Array Keyed)(m na nb:Nat)(out:Array Keyed):Prop where
 M:MH ρ a.toList b.toList out.toList.reverse na nb
 bd:na+nb+m<=a.size+b.size
 la:na<=a.size
 lb:nb<=b.size
 pa:1<=na
 pb:2<=nb
theorem Jh.weak{m m' na nb:Nat}{out:Array Keyed}(h:Jh ρ a b m na nb out)(hm:m'<=m):Jh ρ a b m' na nb out:=⟨h.M,by have:=h.bd;lia,h.la,h.lb,h.pa,h.pb⟩
def Tt(ρ:aE.RR)(a b:Array Keyed)(m:Nat)(c:uX):Prop:=(∃r q,c=(some r,q)/\Res ρ a.toList b.toList r)\/∃na nb out g k k1,c=(none,na,nb,out,g,k,k1)/\Jh ρ a b m na nb out
def N6(ρ:aE.RR)(a b:Array Keyed)(m:Nat)(st:SortSt)(r:ForInStep uX)(st':SortSt):Prop:=Sm st st'/\match r with
 | .done c=>Tt ρ a b m c
 | .yield c=>∃na nb out g k k1,c=(none,na,nb,out,g,k,k1)/\Jh ρ a b m na nb out
theorem MH.m7{out:Array Keyed}{na nb:Nat}(h:MH ρ a.toList b.toList out.toList.reverse na nb)(hn:0<na)(hs:na<=a.size)(hk:∀x∈b.toList.take nb,ρ.g x<=ρ.g a[na-1]):MH ρ a.toList b.toList (out.push a[na-1]).toList.reverse (na-1) nb:=by
 have:=h.mP (na-1) (by lia) (by rw[Ke hn hs];intro t ht x hx;rw[apU.1 ht];exact hk x hx);rw[Ke hn hs]at this;rw[aVH,List.reverse_append];exact this
theorem MH.m6{out:Array Keyed}{na nb:Nat}(h:MH ρ a.toList b.toList out.toList.reverse na nb)(hn:0<nb)(hs:nb<=b.size)(hk:∀x∈a.toList.take na,ρ.g x<=ρ.g b[nb-1]):MH ρ a.toList b.toList (out.push b[nb-1]).toList.reverse na (nb-1):=by
 have:=h.je (nb-1) (by lia) (by rw[Ke hn hs];intro t ht x hx;rw[apU.1 ht];exact hk x hx);rw[Ke hn hs]at this;rw[aVH,List.reverse_append];exact this
theorem QK(out:Array Keyed)(i n:Nat):(out++(a.extract i n).reverse).toList.reverse=(a.toList.take n).drop i++out.toList.reverse:=by
 rw[ah9,List.reverse_append,a84,List.reverse_reverse,DV]
theorem QJ{dZ st:SortSt}{out:Array Keyed}{na nb g k k1 m:Nat}(T:Eh ρ a₀ a b)(hS:Sm dZ st)(h:Jh ρ a b m na nb out)(hk:∀x∈b.toList.take nb,ρ.g x<=ρ.g (a[na-1]'(by have:=h.pa;have:=h.la;lia))):wpS (model prog w) A E s (oW a b na nb out g k k1) (N6 ρ a b (m+1) dZ) st:=by
 obtain⟨M,bd,la,lb,pa,pb⟩:=h;unfold oW;refine ba7 (Zu (show na-1<a.size by lia) ?_);have M2:=M.m7 (by lia) la hk;by_cases e:na-1=0
 .rw [aaU (by simpa using e)];exact aG3 ⟨hS,.inl ⟨_,_,rfl,M2.res (.inl e)⟩⟩
 .rw [afn (by simpa using e)];have J:Jh ρ a b (m+1) (na-1) nb (out.push a[na-1]):=⟨M2,by lia,by lia,lb,by lia,pb⟩;by_cases c:(decide (k<7) && decide (k1<7))=true
  .rw [aaU c];exact aG3 ⟨hS,.inr ⟨_,_,_,_,_,_,rfl,J⟩⟩
  .rw [afn c];exact aG3 ⟨hS,_,_,_,_,_,_,rfl,J⟩
theorem QI{dZ st:SortSt}{out:Array Keyed}{na nb g k bc m:Nat}(h0:aE.jU prog w A s κ ρ a₀)(hk:kindOf st=κ)(T:Eh ρ a₀ a b)(hS:Sm dZ st)(h:Jh ρ a b m na nb out)(hq:∀x∈a.toList.take na,ρ.g x<=ρ.g (b[nb-1]'(by have:=h.pb;have:=h.lb;lia))):wpS (model prog w) A E s (hi2 a b na nb out g k bc) (N6 ρ a b (m+1) dZ) st:=by
 obtain⟨M,bd,la,lb,pa,pb⟩:=h;unfold hi2;refine ba7 (Zu (show nb-1<b.size by lia) ?_);have M2:=M.m6 (by lia) lb hq;by_cases e:nb-1=1
 .rw [aaU (by simpa using e)];exact aG3 ⟨hS,.inl ⟨_,_,rfl,M2.first' T.first e⟩⟩
 .rw [afn (by simpa using e)];refine ba7 (Zu (show na-1<a.size by lia) ?_);refine ba7 (Ed hk h0 T.mb (T.ma _ (by simp)) (by lia) (by lia) (MS T.sb (by lia)) (λi C=>?_));dsimp only;have fa:∀x∈a.toList.take na,ρ.g x<=ρ.g a[na-1]:=λx hx=>JX (by lia) la T.sa hx;have ci:=C.le;have M3:=M2.je i (by lia) (λt ht x hx=>aaK (fa x hx) (C.A8 ht));rw[<-QK]at M3;have hi:∀x∈b.toList.take i,ρ.g x<=ρ.g a[na-1]:=λx hx=>C.FY hx;by_cases c:nb-1-i>0
  .rw [aaU c];by_cases e2:i=1
   .rw [aaU (by simpa using e2)];exact aG3 ⟨hS,.inl ⟨_,_,rfl,M3.first' T.first e2⟩⟩
   .rw [afn (by simpa using e2)];by_cases e3:i=0
    .rw [aaU (by simpa using e3)];exact aG3 ⟨hS,.inl ⟨_,_,rfl,M3.res (.inr e3)⟩⟩
    .rw [afn (by simpa using e3)];exact QJ T hS ⟨M3,by lia,la,by lia,pa,by lia⟩ hi
  .rw [afn c];have e3:i=nb-1:=by lia
   subst e3;exact QJ T hS ⟨M2,by lia,la,by lia,pa,by lia⟩ hi
theorem YE{dZ st:SortSt}{out:Array Keyed}{na nb g ac bc m:Nat}(h0:aE.jU prog w A s κ ρ a₀)(hk:kindOf st=κ)(T:Eh ρ a₀ a b)(hS:Sm dZ st)(h:Jh ρ a b m na nb out):wpS (model prog w) A E s (hi1 a b na nb out g ac bc) (N6 ρ a b (m+1) dZ) st:=by
 obtain⟨M,bd,la,lb,pa,pb⟩:=h;unfold hi1;refine ba7 (JL λst1 Cw=>?_);have hk1:kindOf st1=κ:=Cw.1.trans hk;have vj:=hS.trans Cw;refine ba7 (Zu (show nb-1<b.size by lia) ?_);refine ba7 (Ed hk1 h0 T.ma (T.mb _ (by simp)) (by lia) (by lia) (MS T.sa la) (λi C=>?_));dsimp only;have fb:∀x∈b.toList.take nb,ρ.g x<=ρ.g b[nb-1]:=λx hx=>JX (by lia) lb T.sb hx;have ci:=C.le;have M3:=M.mP i ci (λt ht x hx=>aaK (fb x hx) (C.A8 ht));rw[<-QK]at M3;have hi:∀x∈a.toList.take i,ρ.g x<=ρ.g b[nb-1]:=λx hx=>C.FY hx;by_cases c:na-i>0
 .rw [aaU c];by_cases e2:i=0
  .rw [aaU (by simpa using e2)];exact aG3 ⟨vj,.inl ⟨_,_,rfl,M3.res (.inl e2)⟩⟩
  .rw [afn (by simpa using e2)];exact QI h0 hk1 T vj ⟨M3,by lia,by lia,lb,by lia,pb⟩ hi
 .rw [afn c];have e3:i=na:=by lia
  subst e3;exact QI h0 hk1 T vj ⟨M,by lia,la,lb,pa,pb⟩ hi
def Tu(ρ:aE.RR)(a b:Array Keyed)(m:Nat)(c:Af):Prop:=(∃r q,c=(some r,q)/\Res ρ a.toList b.toList r)\/∃na nb out k k1,c=(none,na,nb,out,k,k1)/\Jh ρ a b m na nb out
theorem YD{st:SortSt}{out:Array Keyed}{mg na nb ac bc m:Nat}(h0:aE.jU prog w A s κ ρ a₀)(hk:kindOf st=κ)(T:Eh ρ a₀ a b)(h:Jh ρ a b m na nb out):wpS (model prog w) A E s (Js a b mg (none,na,nb,out,ac,bc)) (λr st'=>st'=st/\match r with
  | .done c=>Tu ρ a b (m+1) c
  | .yield c=>∃na nb out k k1,c=(none,na,nb,out,k,k1)/\Jh ρ a b (m+1) na nb out) st:=by
 obtain⟨M,bd,la,lb,pa,pb⟩:=h;have fa:∀x∈a.toList.take na,ρ.g x<=ρ.g a[na-1]:=λx hx=>JX (by lia) la T.sa hx;have fb:∀x∈b.toList.take nb,ρ.g x<=ρ.g b[nb-1]:=λx hx=>JX (by lia) lb T.sb hx;have ha:na-1<a.size:=by lia
 have hb:nb-1<b.size:=by lia
 unfold Js;dsimp only;refine ba7 (Zu hb (ba7 (Zu ha (ba7 (qo hk h0 (T.mb _ (by simp)) (T.ma _ (by simp)) ?_)))));dsimp only;by_cases c:ρ.g b[nb-1]<ρ.g a[na-1]
 .rw [a5U c,aaU rfl];refine ba7 (Zu ha ?_);have M2:=M.m7 (by lia) la (λx hx=>by have:=fb x hx;lia);by_cases e:na-1=0
  .rw [aaU (by simpa using e)];exact aG3 ⟨rfl,.inl ⟨_,_,rfl,M2.res (.inl e)⟩⟩
  .rw [afn (by simpa using e)];have J:Jh ρ a b (m+1) (na-1) nb (out.push a[na-1]):=⟨M2,by lia,by lia,lb,by lia,pb⟩;by_cases c2:ac+1 ≥ mg
   .rw [aaU c2];exact aG3 ⟨rfl,.inr ⟨_,_,_,_,_,rfl,J⟩⟩
   .rw [afn c2];exact aG3 ⟨rfl,_,_,_,_,_,rfl,J⟩
 .rw [a4I c,afn (by simp)];refine ba7 (Zu hb ?_);have M2:=M.m6 (by lia) lb (λx hx=>by have:=fa x hx;lia);by_cases e:nb-1=1
  .rw [aaU (by simpa using e)];exact aG3 ⟨rfl,.inl ⟨_,_,rfl,M2.first' T.first e⟩⟩
  .rw [afn (by simpa using e)];have J:Jh ρ a b (m+1) na (nb-1) (out.push b[nb-1]):=⟨M2,by lia,la,by lia,pa,by lia⟩;by_cases c2:bc+1 ≥ mg
   .rw [aaU c2];exact aG3 ⟨rfl,.inr ⟨_,_,_,_,_,rfl,J⟩⟩
   .rw [afn c2];exact aG3 ⟨rfl,_,_,_,_,_,rfl,J⟩
theorem YC{st:SortSt}{out:Array Keyed}{na nb g m:Nat}(h0:aE.jU prog w A s κ ρ a₀)(hk:kindOf st=κ)(T:Eh ρ a₀ a b)(h:Jh ρ a b m na nb out):wpS (model prog w) A E s (Jr a b (none,na,nb,out,g)) (λr st'=>Sm st st'/\match r with
  | .done c=>∃r q,c=(some r,q)/\Res ρ a.toList b.toList r
  | .yield c=>∃na nb out g,c=(none,na,nb,out,g)/\Jh ρ a b (m+1) na nb out) st:=by
 have pos:0<a.size+b.size:=by have:=h.la;have:=h.pa;lia
 unfold Jr;dsimp only;refine ba7 (ash (aJo (I:=λx c st2=>st2=st/\∃na nb out k k1,c=(none,na,nb,out,k,k1)/\Jh ρ a b (m+x) na nb out) (Q:=λc st2=>st2=st/\Tu ρ a b (m+1) c) ?turn ?last ?first) ?after)
 case first=>exact⟨rfl,_,_,_,_,_,rfl,h⟩
 case last=>
  rintro c st2 ⟨rfl,na,nb,out,k,k1,rfl,J⟩;exact⟨rfl,.inr ⟨_,_,_,_,_,rfl,J.weak (by lia)⟩⟩
 case turn=>
  rintro x c st2 _ hx ⟨rfl,na,nb,out,k,k1,rfl,J⟩;refine ash (YD h0 hk T J) ?_;rintro r st3 ⟨rfl,hr⟩;cases r with
  |done c=>
   refine⟨rfl,?_⟩;rcases hr with hr|⟨na,nb,out,k,k1,rfl,J⟩
   .exact .inl hr
   .exact .inr ⟨_,_,_,_,_,rfl,J.weak (by lia)⟩
  |yield c=>exact⟨rfl,hr⟩
 case after=>
  rintro c st2 ⟨rfl,hc⟩;rcases hc with⟨r,q,rfl,R⟩|⟨na,nb,out,k,k1,rfl,J⟩
  .exact aG3 ⟨Sm.refl _,_,_,rfl,R⟩
  .dsimp only;refine ba7 (wpS_lift (ajd ⟨rfl,?_⟩));refine ba7 (ash (aJo (I:=λx c st3=>Sm st2 st3/\∃na nb out g k k1,c=(none,na,nb,out,g,k,k1)/\Jh ρ a b (m+x) na nb out) (Q:=λc st3=>Sm st2 st3/\Tt ρ a b (m+1) c) ?jturn ?jlast ?jfirst) ?jafter)
   case jfirst=>exact⟨Sm.refl _,_,_,_,_,_,_,rfl,J.weak (by lia)⟩
   case jlast=>
    rintro c st3 ⟨hS,na,nb,out,g,k,k1,rfl,J⟩;exact⟨hS,.inr ⟨_,_,_,_,_,_,rfl,J.weak (by lia)⟩⟩
   case jturn=>
    rintro x c st3 _ hx ⟨hS,na,nb,out,g,k,k1,rfl,J⟩;have Mi:kindOf st3=κ:=hS.1.trans hk;dsimp only;rw[show(if g>1 then hi1 a b na nb out (g-1) k k1 else hi1 a b na nb out g k k1)=hi1 a b na nb out (if g>1 then g-1 else g) k k1 by split <;> rfl];refine ash (YE h0 Mi T hS J) ?_;rintro r cT ⟨xB,hr⟩;cases r with
    |done c=>
     refine⟨xB,?_⟩;rcases hr with hr|⟨na,nb,out,g,k,k1,rfl,J⟩
     .exact .inl hr
     .exact .inr ⟨_,_,_,_,_,_,rfl,J.weak (by lia)⟩
    |yield c=>exact⟨xB,hr⟩
   case jafter=>
    rintro c st3 ⟨hS,hc⟩;rcases hc with⟨r,q,rfl,R⟩|⟨na,nb,out,g,k,k1,rfl,J⟩
    .exact aG3 ⟨hS,_,_,rfl,R⟩
    .refine ba7 (JL λcT xB=>aG3 ⟨hS.trans xB,_,_,_,_,rfl,J⟩)
theorem Zfz{st:SortSt}{Q:Array Keyed->SortSt->Prop}(h0:aE.jU prog w A s κ ρ a₀)(hk:kindOf st=κ)(T:Eh ρ a₀ a b)(ha:0<a.size)(hb:0<b.size)(hf:∀x∈b.toList,ρ.g x<=ρ.g a[a.size-1])
  (h:∀r st',Sm st st'->Res ρ a.toList b.toList r->Q r st'):wpS (model prog w) A E s (ND a b) Q st:=by
 refine Zfy _ _ ?_;refine ba7 (wpS_lift (ajd ⟨rfl,?_⟩));refine ba7 (Zu (show a.size-1<a.size by lia) ?_);have ta:a.toList.take a.size=a.toList:=agp (by simp);have tb:b.toList.take b.size=b.toList:=agp (by simp);have M0:MH ρ a.toList b.toList (#[]:Array Keyed).toList.reverse a.size b.size:=⟨by rw[ta,tb];simp,by rw[ta];simpa using T.sa,by rw[tb];simpa using T.sb⟩;have M1:MH ρ a.toList b.toList (#[a[a.size-1]]:Array Keyed).toList.reverse (a.size-1) b.size:=M0.m7 ha (ags _) (λx hx=>hf x (by rw[tb]at hx;exact hx));by_cases e1:a.size-1=0
 .rw [aaU (by simpa using e1)];exact aG3 (h _ _ (Sm.refl _) (M1.res (.inl e1)))
 .rw [afn (by simpa using e1)];by_cases e2:b.size=1
  .rw [aaU (by simpa using e2)];exact aG3 (h _ _ (Sm.refl _) (M1.first' T.first e2))
  .rw [afn (by simpa using e2)];refine ba7 (aLA ?_);refine ba7 (ash (aJo (I:=λx c st2=>Sm st st2/\∃na nb out g,c=(none,na,nb,out,g)/\Jh ρ a b (x+1) na nb out) (Q:=λc st2=>Sm st st2/\∃r q,c=(some r,q)/\Res ρ a.toList b.toList r) ?turn ?last ?first) ?after)
   case first=>exact⟨Sm.refl _,_,_,_,_,rfl,M1,by lia,by lia,by lia,by lia,by lia⟩
   case last=>
    rintro c st2 ⟨_,na,nb,out,g,rfl,J⟩;have:=J.bd;have:=J.pa;lia
   case turn=>
    rintro x c st2 _ hx ⟨hS,na,nb,out,g,rfl,J⟩;refine ash (YC h0 (hS.1.trans hk) T J) ?_;rintro r st3 ⟨Cv,hr⟩;cases r with
    |done c=>exact⟨hS.trans Cv,hr⟩
    |yield c=>exact⟨hS.trans Cv,hr⟩
   case after=>
    rintro c st2 ⟨hS,r,q,rfl,R⟩;exact aG3 (h r st2 hS R)
end
end L2.xU
set_option maxHeartbeats 400000
namespace L2.xU
open PySem PySem.Spec PyProof.Rows
def NC:Nat->StateT SortSt Sem Bool:=sortPriv% PySem.Builtin.mergeAt
def layAt(arr:Array Keyed)(at_:Nat)(l:List Keyed)(k:Nat):Array Keyed:=(l.zipIdx k).foldl (λa (p,j)=>a.setIfInBounds (at_+j) p) arr
theorem J6(arr:Array Keyed)(at_:Nat)(l:List Keyed)(k i:Nat)(h:at_+k+l.length<=arr.size):(layAt arr at_ l k)[i]?=if at_+k<=i/\i<at_+k+l.length then l[i-(at_+k)]? else arr[i]?:=by
 induction l generalizing arr k with
 |nil=>rw[afn (by simp)];rfl
 |cons x l ih=>
  have e:layAt arr at_ (x ::l) k=layAt (arr.setIfInBounds (at_+k) x) at_ l (k+1):=by
   unfold layAt;rw[List.zipIdx_cons,List.foldl_cons]
  simp only[a83]at h ⊢;rw[e,ih (arr.setIfInBounds (at_+k) x) (k+1) (by simp;lia)];by_cases c:at_+k=i
  .subst c;rw[afn (by lia),aaU (by lia),Nat.sub_self,Array.getElem?_setIfInBounds_self_of_lt (by lia)];rfl
  .by_cases c2:at_+(k+1)<=i/\i<at_+(k+1)+l.length
   .rw [aaU c2,aaU (by lia),show i-(at_+k)=(i-(at_+(k+1)))+1 by lia,a5h]
   .rw [afn c2,afn (by lia),Array.getElem?_setIfInBounds_ne c]
theorem ZdG(arr:Array Keyed)(at_:Nat)(l:List Keyed)(h:at_+l.length<=arr.size):(layAt arr at_ l 0).toList=arr.toList.take at_++(l++arr.toList.drop (at_+l.length)):=by
 refine aAT λi=>?_;rw[bd9,J6 arr at_ l 0 i (by lia),Nat.add_zero];have hl:(arr.toList.take at_).length=at_:=by rw[bbw,ak9];lia
 by_cases c1:i<at_
 .rw [afn (by lia),aGp (by lia),List.getElem?_take_of_lt c1,bd9]
 .rw [a8o (by lia),hl];by_cases c2:i<at_+l.length
  .rw [aaU (by lia),aGp (by lia)]
  .rw [afn (by lia),a8o (by lia),getElem?_drop,bd9];congr 1
   lia
theorem ZfA{arr:Array Keyed}{at_ n:Nat}{l:List Keyed}(h:at_+n<=arr.size)(p:l.Perm (arr.extract at_ (at_+n)).toList):(layAt arr at_ l 0).Perm arr:=by
 rw[Nd]at p;have e:l.length=n:=by rw[p.length_eq,bbw,bbY,ak9];lia
 refine aUN.2 ?_;rw[ZdG arr at_ l (by lia),e];have d:arr.toList=arr.toList.take at_++((arr.toList.drop at_).take n++arr.toList.drop (at_+n)):=by
  rw[<-drop_drop,ak2,ak2]
 conv=>rhs;rw[d]
 exact(p.append_right _).append_left _
section
variable{prog:Program}{w:World}{A:Around}{E:Value->Shared->Prop}{s:Shared}{a₀:Array Keyed}{κ:SortKind}{ρ:aE.RR}
theorem pw_ex{arr:Array Keyed}{i j:Nat}(hj:j<=arr.size)(h:dJ ρ arr i j):(arr.extract i j).toList.Pairwise (Lk ρ):=by
 refine aMQ.2 λx y hx hy hxy=>?_;simp only[ak9,Array.size_extract]at hx hy;have:=h (i+x) (i+y) (by lia) (by lia) (by lia);rw[bE (show i+x<arr.size by lia),bE (show i+y<arr.size by lia)]at this;simpa[Lk]using this
theorem QH{arr:Array Keyed}{i j:Nat}{x:Keyed}(h:x∈(arr.extract i j).toList):∃k,i<=k/\k<j/\k<arr.size/\ρ.g x=aE.Kg ρ arr k/\x∈arr.toList:=by
 rw[DV]at h;obtain⟨k,h1,h2,h3,rfl⟩:=Nc h;exact⟨k,h1,h2,h3,(bE h3).symm,by simp⟩
theorem MZ{arr:Array Keyed}{at_:Nat}{l:List Keyed}(h:at_+l.length<=arr.size){i:Nat}(h1:at_<=i)(h2:i<at_+l.length):aE.Kg ρ (layAt arr at_ l 0) i=ρ.g (l[i-at_]'(by lia)):=by
 have:=J6 arr at_ l 0 i (by lia);rw[aaU (by lia),Nat.add_zero,aun (by lia)]at this;unfold aE.Kg;rw[this];rfl
theorem D4{arr:Array Keyed}{at_:Nat}{l:List Keyed}(h:at_+l.length<=arr.size){i:Nat}(h1:i<at_\/at_+l.length<=i):aE.Kg ρ (layAt arr at_ l 0) i=aE.Kg ρ arr i:=by
 have:=J6 arr at_ l 0 i (by lia);rw[afn (by lia)]at this;unfold aE.Kg;rw[this]
end
end L2.xU
set_option maxHeartbeats 1000000
namespace L2.xU
open PySem PySem.Spec PyProof.Rows
section
variable{prog:Program}{w:World}{A:Around}{E:Value->Shared->Prop}{s:Shared}{a₀:Array Keyed}{κ:SortKind}{ρ:aE.RR}
theorem YL{arr:Array Keyed}{u lo hi:Nat}{r:List Keyed}(h:u+r.length<=arr.size)(hr:r.Pairwise (Lk ρ))(hne:0<r.length)(hl:dJ ρ arr lo u)(hh:dJ ρ arr (u+r.length) hi)
  (bl:∀i,lo<=i->i<u->∀x∈r,aE.Kg ρ arr i<=ρ.g x) (bh:∀i,u+r.length<=i->i<hi->∀x∈r,ρ.g x<=aE.Kg ρ arr i):dJ ρ (layAt arr u r 0) lo hi:=by
 intro i j hi1 hij hj;by_cases a1:i<u
 .rw [D4 h (.inl a1)];by_cases b1:j<u
  .rw [D4 h (.inl b1)];exact hl i j hi1 hij b1
  .by_cases b2:j<u+r.length
   .rw [MZ h (by lia) b2];exact bl i hi1 a1 _ (aCm _)
   .rw [D4 h (.inr (by lia))];exact aaK (bl i hi1 a1 (r[0]'hne) (aCm _)) (bh j (by lia) hj _ (aCm _))
 .by_cases a2:i<u+r.length
  .rw [MZ h (by lia) a2];by_cases b2:j<u+r.length
   .rw [MZ h (by lia) b2];by_cases e:i=j
    .subst e;exact aHM _
    .exact aMQ.1 hr (i-u) (j-u) (by lia) (by lia) (by lia)
   .rw [D4 h (.inr (by lia))];exact bh j (by lia) hj _ (aCm _)
  .rw [D4 h (.inr (by lia)),D4 h (.inr (by lia))];exact hh i j (by lia) hij hj
theorem Cut.Cp{left:Bool}{kv:Int}{arr:Array Keyed}{base n k:Nat}(h:Cut ρ left kv arr base n k){i:Nat}(h1:base<=i)(h2:i<base+k):aE.Kg ρ arr i<=kv:=by
 have:=h.lo (i-base) (by lia);unfold Bd at this;rw[show base+(i-base)=i by lia]at this;cases left with
 |true=>simp only[a6Z,aWv]at this;lia
 |false=>simp only[aY9,a3v,aUv,aOr]at this;lia
theorem Cut.xw{left:Bool}{kv:Int}{arr:Array Keyed}{base n k:Nat}(h:Cut ρ left kv arr base n k){i:Nat}(h1:base+k<=i)(h2:i<base+n):kv<=aE.Kg ρ arr i:=by
 have:=h.hi (i-base) (by lia) (by lia);unfold Bd at this;rw[show base+(i-base)=i by lia]at this;cases left with
 |true=>simp only[a6Z,aOr]at this;lia
 |false=>simp only[aY9,a3v,Bool.not_eq_false',aWv]at this;lia
theorem YK{st st':SortSt}{Q:PUnit->SortSt->Prop}(h:Q ⟨⟩ st'):wpS (model prog w) A E s (set st') Q st:=aiW (f:=λ_=>st') h
theorem ZfB{st:SortSt}{i sa na p sb nb q:Nat}{Q:Bool->SortSt->Prop}(h0:aE.jU prog w A s κ ρ a₀)(hk:kindOf st=κ)(ha:∀x∈(arrOf st).toList,x∈a₀.toList)(hfl:failedOf st=none)
  (e1:(pendingOf st)[i]?=some (sa,na,p)) (e2:(pendingOf st)[i+1]?=some (sb,nb,q)) (lD:sb=sa+na) (pa:0<na) (pb:0<nb) (hsz:sb+nb<=(arrOf st).size) (s1:dJ ρ (arrOf st) sa (sa+na)) (s2:dJ ρ (arrOf st) sb (sb+nb))
  (h:∀st',kindOf st'=κ->failedOf st'=none->(arrOf st').Perm (arrOf st)->pendingOf st'=((pendingOf st).setIfInBounds i (sa,na+nb,p)).eraseIdxIfInBounds (i+1)->dJ ρ (arrOf st') sa (sb+nb) ->
   (∀j,j<sa\/sb+nb<=j->(arrOf st')[j]?=(arrOf st)[j]?)->Q true st'):wpS (model prog w) A E s (NC i) Q st:=by
 show wpAny (model prog w) A (NC i st) _ E s
 wp_delta
 wp_delta
 refine xO rfl ?_;refine ba7 (aLA ?_);rw[e1,e2];refine ba7 (YK (st':=SortSt.mk' (kindOf st) (arrOf st) (((pendingOf st).setIfInBounds i (sa,na+nb,p)).eraseIdxIfInBounds (i+1)) (gallopOf st) (failedOf st)) ?_);generalize zw:SortSt.mk' (kindOf st) (arrOf st) (((pendingOf st).setIfInBounds i (sa,na+nb,p)).eraseIdxIfInBounds (i+1)) (gallopOf st) (failedOf st)=st1;have k1:kindOf st1=κ:=by rw[<-zw];exact hk
 have f1:failedOf st1=none:=by rw[<-zw];exact hfl
 have a1:arrOf st1=arrOf st:=by rw[<-zw]
 have p1:pendingOf st1=((pendingOf st).setIfInBounds i (sa,na+nb,p)).eraseIdxIfInBounds (i+1):=by rw[<-zw]
 have hb0:sb<(arrOf st).size:=by lia
 refine ba7 (Zu hb0 ?_);refine ba7 (Ed k1 h0 ha (ha _ (by simp)) (show sa+na<=(arrOf st).size by lia) pa s1 (λk C1=>?_));have c1:=C1.le;rw[<-bE hb0]at C1;dsimp only;have whole:(∀x y,sa<=x->x<sb->sb<=y->y<sb+nb->aE.Kg ρ (arrOf st) x<=aE.Kg ρ (arrOf st) y)->dJ ρ (arrOf st) sa (sb+nb):=λhc x y hx hxy hy=>by
  by_cases u:y<sb
  .exact s1 x y hx hxy (by lia)
  .by_cases v:x<sb
   .exact hc x y hx v (by lia) hy
   .exact s2 x y (by lia) hxy hy
 by_cases z:na-k=0
 .rw [aaU (by simpa using z)];refine aG3 (h st1 k1 f1 (by rw[a1]) p1 ?_ (λj _=>by rw[a1]));rw[a1];refine whole λx y hx L5 hy L3=>?_;exact aaK (C1.Cp hx (by lia)) (s2 sb y (ags _) hy L3)
 .rw [afn (by simpa using z)];have Pr:sa+k+(na-k)-1<(arrOf st).size:=by lia
  refine ba7 (Zu Pr ?_);refine ba7 (Ed k1 h0 ha (ha _ (by simp)) (show sb+nb<=(arrOf st).size by lia) (by lia) s2 (λn2 C2=>?_));have c2:=C2.le;rw[<-bE Pr,show sa+k+(na-k)-1=sb-1 by lia]at C2;dsimp only;by_cases z2:n2=0
  .rw [aaU (by simpa using z2)];refine aG3 (h st1 k1 f1 (by rw[a1]) p1 ?_ (λj _=>by rw[a1]));rw[a1];refine whole λx y hx L5 hy L3=>?_;exact aaK (s1 x (sb-1) hx (by lia) (by lia)) (C2.xw (by lia) L3)
  .rw [afn (by simpa using z2)];have c3:=Nat.pos_of_ne_zero z2;have mX:∀x∈((arrOf st).extract (sa+k) sb).toList,∃j,sa+k<=j/\j<sb/\j<(arrOf st).size/\ρ.g x=aE.Kg ρ (arrOf st) j/\x∈(arrOf st).toList:=λx hx=>QH hx;have mY:∀x∈((arrOf st).extract sb (sb+n2)).toList,∃j,sb<=j/\j<sb+n2/\j<(arrOf st).size/\ρ.g x=aE.Kg ρ (arrOf st) j/\x∈(arrOf st).toList:=λx hx=>QH hx;have sX:((arrOf st).extract (sa+k) sb).toList.Pairwise (Lk ρ):=pw_ex (by lia) (λx y p q r=>s1 x y (by lia) q (by lia));have sY:((arrOf st).extract sb (sb+n2)).toList.Pairwise (Lk ρ):=pw_ex (by lia) (λx y p q r=>s2 x y (by lia) q (by lia));have zX:((arrOf st).extract (sa+k) sb).size=na-k:=by rw[Array.size_extract];lia
   have zY:((arrOf st).extract sb (sb+n2)).size=n2:=by rw[Array.size_extract];lia
   have low:∀x∈((arrOf st).extract (sa+k) sb).toList,aE.Kg ρ (arrOf st) sb<=ρ.g x:=λx hx=>by
    obtain⟨j,j1,j2,j3,e,_⟩:=mX x hx;rw[e];exact C1.xw j1 (by lia)
   have high:∀x∈((arrOf st).extract sb (sb+n2)).toList,ρ.g x<=aE.Kg ρ (arrOf st) (sb-1):=λx hx=>by
    obtain⟨j,j1,j2,j3,e,_⟩:=mY x hx;rw[e];exact C2.Cp j1 j2
   have fin:∀r st',Sm st1 st'->Res ρ ((arrOf st).extract (sa+k) sb).toList ((arrOf st).extract sb (sb+n2)).toList r->wpS (model prog w) A E s (do
     modify λs=>SortSt.mk' (kindOf s) (layAt (arrOf s) (sa+k) r.toList 0) (pendingOf s) (gallopOf s) (failedOf s)
     return (failedOf (<-get)).isNone) Q st':=by
    rintro r st' ⟨Cw,vj,Cv,xB⟩ ⟨rp,rs⟩;refine ba7 (aiW (ba7 (aLA (aG3 ?_))));have ex:((arrOf st).extract (sa+k) sb).toList++((arrOf st).extract sb (sb+n2)).toList=((arrOf st).extract (sa+k) (sa+k+(na-k+n2))).toList:=by
     rw[DV,DV,DV,drop_take,drop_take,drop_take];rw[show sb-(sa+k)=na-k by lia,show sb+n2-sb=n2 by lia,show sa+k+(na-k+n2)-(sa+k)=(na-k)+n2 by lia,List.take_add,drop_drop,show sa+k+(na-k)=sb by lia]
    have len:r.toList.length=na-k+n2:=by rw[rp.length_eq,aKe,ak9,ak9,zX,zY]
    have Gp:∀x∈r.toList,aE.Kg ρ (arrOf st) sb<=ρ.g x/\ρ.g x<=aE.Kg ρ (arrOf st) (sb-1):=λx hx=>by
     rcases aaI.1 (rp.mem_iff.1 hx) with hx|hx
     .obtain ⟨j,j1,j2,j3,e,_⟩:=mX x hx;exact⟨low x hx,by rw[e];exact s1 j (sb-1) (by lia) (by lia) (by lia)⟩
     .obtain ⟨j,j1,j2,j3,e,_⟩:=mY x hx;exact⟨by rw[e];exact s2 sb j (ags _) j1 (by lia),high x hx⟩
    have Jq:failedOf st'=none:=xB.trans f1;show Q (failedOf st').isNone _;rw[Jq];refine h _ (Cw.trans k1) rfl ?_ (Cv.trans p1) ?_ ?_
    .show (layAt (arrOf st') (sa+k) r.toList 0).Perm (arrOf st);rw[vj,a1];exact ZfA (n:=na-k+n2) (by lia) (by rw[<-ex];exact rp)
    .show dJ ρ (layAt (arrOf st') (sa+k) r.toList 0) sa (sb+nb);rw[vj,a1];refine YL (by lia) rs (by lia) (λx y p q r=>s1 x y p q (by lia)) (λx y p q r=>s2 x y (by lia) q r) (λi i1 i2 x hx=>?_) (λi i1 i2 x hx=>?_)
     .exact aaK (C1.Cp i1 (by lia)) (Gp x hx).1
     .exact aaK (Gp x hx).2 (C2.xw (by lia) i2)
    .intro j hj;show(layAt (arrOf st') (sa+k) r.toList 0)[j]?=_;rw[vj,a1,J6 _ _ _ _ _ (by lia),afn (by lia)]
   by_cases c:na-k<=n2
   .rw [aaU c];refine ba7 (Zfx h0 k1 ⟨λx hx=>?_,λx hx=>?_,sX,sY,λy hy x hx=>?_⟩ (show 0<((arrOf st).extract (sa+k) sb).size by lia) (show 0<((arrOf st).extract sb (sb+n2)).size by lia) (λx hx=>?_) (λr st' hS R=>fin r st' hS R))
    .obtain ⟨_,_,_,_,_,m⟩:=mX x hx;exact ha x m
    .obtain ⟨_,_,_,_,_,m⟩:=mY x hx;exact ha x m
    .rw [zX,DV,drop_drop]at hx;obtain⟨j,j1,j2,j3,rfl⟩:=Nc hx;have ej:j=sb-1:=by lia
     subst ej;rw[<-bE j3];exact high y hy
    .rw [aMA,<-bE];exact low x hx
   .rw [afn c];refine ba7 (Zfz h0 k1 ⟨λx hx=>?_,λx hx=>?_,sX,sY,λy hy x hx=>?_⟩ (show 0<((arrOf st).extract (sa+k) sb).size by lia) (show 0<((arrOf st).extract sb (sb+n2)).size by lia) (λx hx=>?_) (λr st' hS R=>fin r st' hS R))
    .obtain ⟨_,_,_,_,_,m⟩:=mX x hx;exact ha x m
    .obtain ⟨_,_,_,_,_,m⟩:=mY x hx;exact ha x m
    .obtain ⟨j,j1,j2,rfl⟩:=MR hy;rw[aMA,<-bE,show sb+j=sb by lia];exact low x hx
    .rw [aMA,<-bE];have:=high x hx;rw[show sa+k+(((arrOf st).extract (sa+k) sb).size-1)=sb-1 by lia];exact this
end
structure GP(κ:SortKind)(a₀:Array Keyed)(P:Array (Nat×Nat×Nat))(st:SortSt):Prop where
 perm:(arrOf st).Perm a₀
 kn:kindOf st=κ
 failed:failedOf st=none
 pend:pendingOf st=P
section
variable{prog:Program}{w:World}{A:Around}{E:Value->Shared->Prop}{s:Shared}{a₀:Array Keyed}{κ:SortKind}{ρ:aE.RR}{P:Array (Nat×Nat×Nat)}
theorem GP.size{st:SortSt}(h:GP κ a₀ P st):(arrOf st).size=a₀.size:=h.perm.size_eq
theorem GP.setArr{st:SortSt}{xs:Array Keyed}(h:GP κ a₀ P st)(hp:xs.Perm (arrOf st)):GP κ a₀ P (setArr st xs):=⟨hp.trans h.perm,h.kn,h.failed,h.pend⟩
theorem GP.mem{st:SortSt}(h:GP κ a₀ P st):∀x∈(arrOf st).toList,x∈a₀.toList:=λx hx=>(aUN.mp h.perm).mem_iff.mp hx
theorem HB{st:SortSt}{i j:Nat}{Q:Option Bool->SortSt->Prop}(hB:GP κ a₀ P st)(h0:aE.jU prog w A s κ ρ a₀)(hi:i<a₀.size)(hj:j<a₀.size)
  (h:Q (some (decide (aE.Kg ρ (arrOf st) i<aE.Kg ρ (arrOf st) j))) st):wpS (model prog w) A E s (ltAt' i j) Q st:=by
 have hi':i<(arrOf st).size:=by rw[hB.size];exact hi
 have hj':j<(arrOf st).size:=by rw[hB.size];exact hj
 rw[bE hi',bE hj']at h;rw[ltAt'_eq];refine ba7 (aLA ?_);refine ba7 (Zu hi' (ba7 (Zu hj' ?_)));exact qo hB.kn h0 (hB.mem _ (by simp)) (hB.mem _ (by simp)) h
theorem YJ{st:SortSt}{lo n ok:Nat}{Q:Bool->SortSt->Prop}(h0:aE.jU prog w A s κ ρ a₀)(hn:lo+n<=a₀.size)(hok:ok<=n)(W3:1<=ok)(hB:GP κ a₀ P st)(hs:dJ ρ (arrOf st) lo (lo+ok))
  (h:∀st',GP κ a₀ P st'->dJ ρ (arrOf st') lo (lo+n)->(∀j,j<lo\/lo+n<=j->(arrOf st')[j]?=(arrOf st)[j]?)->Q true st'):wpS (model prog w) A E s (binarySort' lo n ok) Q st:=by
 rw[binarySort'_eq];refine ba7 (ash (aJo (I:=λk c st1=>c=(none,())/\GP κ a₀ P st1/\dJ ρ (arrOf st1) lo (lo+min k n)/\∀j,j<lo\/lo+n<=j->(arrOf st1)[j]?=(arrOf st)[j]?)
  (Q:=λc st1=>c=(none,())/\GP κ a₀ P st1/\dJ ρ (arrOf st1) lo (lo+n)/\∀j,j<lo\/lo+n<=j->(arrOf st1)[j]?=(arrOf st)[j]?) ?turn ?last ?first) ?after)
 case after=>
  rintro c st1 ⟨rfl,b1,i1,o1⟩;exact aG3 (h st1 b1 i1 o1)
 case first=>
  rw[show min (max ok 1) n=ok by lia];exact⟨rfl,hB,hs,λ_ _=>rfl⟩
 case last=>
  rintro c st1 ⟨hc,b1,i1,o1⟩;rw[show min (max (max ok 1) n) n=n by lia]at i1;exact⟨hc,b1,i1,o1⟩
 case turn=>
  rintro k c st1 WT hkn ⟨rfl,b1,i1,o1⟩;rw[show min k n=k by lia]at i1;have hk:lo+k<a₀.size:=by lia
  have sz:=b1.size;refine ba7 (ash (aJo (I:=λx c st2=>st2=st1/\∃l r,c=(none,l,r)/\l<=r/\r<=k/\r-l<=k-x/\(∀i,i<l->aE.Kg ρ (arrOf st1) (lo+i)<=aE.Kg ρ (arrOf st1) (lo+k))/\(∀i,r<=i->i<k->aE.Kg ρ (arrOf st1) (lo+k)<=aE.Kg ρ (arrOf st1) (lo+i)))
   (Q:=λc st2=>st2=st1/\∃l r,c=(none,l,r)/\l<=k/\(∀i,i<l->aE.Kg ρ (arrOf st1) (lo+i)<=aE.Kg ρ (arrOf st1) (lo+k))/\(∀i,l<=i->i<k->aE.Kg ρ (arrOf st1) (lo+k)<=aE.Kg ρ (arrOf st1) (lo+i))) ?iturn ?ilast ?ifirst) ?iafter)
  case ifirst=>exact⟨rfl,0,k,rfl,by lia,by lia,by lia,λi hi=>absurd hi (by lia),λi p q=>absurd q (by lia)⟩
  case ilast=>
   rintro c st2 ⟨rfl,l,r,rfl,hlr,hrk,hm,u1,u2⟩;have e:l=r:=by lia
   subst e;exact⟨rfl,l,l,rfl,hrk,u1,u2⟩
  case iturn=>
   rintro x c st2 _ hxk ⟨rfl,l,r,rfl,hlr,hrk,hm,u1,u2⟩;dsimp only;by_cases hge:l ≥ r
   .rw [aaU hge];have e:l=r:=by lia
    subst e;exact aG3 ⟨rfl,l,l,rfl,hrk,u1,u2⟩
   .rw [afn hge];refine ba7 (HB b1 h0 hk (by lia) ?_);by_cases c:aE.Kg ρ (arrOf st2) (lo+k)<aE.Kg ρ (arrOf st2) (lo+(l+r)/2)
    .simp only[c,az0,a6Z];refine aG3 ⟨rfl,l,(l+r)/2,rfl,by lia,by lia,by lia,u1,λi p q=>?_⟩;have:=i1 (lo+(l+r)/2) (lo+i) (by lia) (by lia) (by lia);lia
    .simp only[c,aLL,aY9,a3v];refine aG3 ⟨rfl,(l+r)/2+1,r,rfl,by lia,by lia,by lia,λi p=>?_,u2⟩;have:=i1 (lo+i) (lo+(l+r)/2) (by lia) (by lia) (by lia);lia
  case iafter=>
   rintro c st2 ⟨rfl,l,r,rfl,hlk,u1,u2⟩;show wpS _ _ _ _ (do moveDown' (lo+k) (lo+l);pure (ForInStep.yield (none,()))) _ _;rw[moveDown'_eq];have hks:lo+k<(arrOf st2).size:=by lia
   refine ba7 (aiW (aG3 ⟨rfl,b1.setArr (bubble_perm _ _ _),?_,?_⟩))
   .rw [show min (k+1) n=k+1 by lia];intro i j hi hij hj;show aE.Kg ρ (bubble (arrOf st2) (lo+k) (lo+k-(lo+l))) i<=aE.Kg ρ (bubble (arrOf st2) (lo+k) (lo+k-(lo+l))) j;rw[aE.ny hks (by lia),aE.ny hks (by lia),show lo+k-(lo+k-(lo+l))=lo+l by lia];have U1:∀i,lo<=i->i<lo+l->aE.Kg ρ (arrOf st2) i<=aE.Kg ρ (arrOf st2) (lo+k):=λi p q=>by
     have:=u1 (i-lo) (by lia);rw[show lo+(i-lo)=i by lia]at this;exact this
    have U2:∀i,lo+l<=i->i<lo+k->aE.Kg ρ (arrOf st2) (lo+k)<=aE.Kg ρ (arrOf st2) i:=λi p q=>by
     have:=u2 (i-lo) (by lia) (by lia);rw[show lo+(i-lo)=i by lia]at this;exact this
    by_cases a1:i=lo+l
    .rw [aaU a1];by_cases b2:j=lo+l
     .rw [aaU b2];exact aHM _
     .rw [afn b2,aaU (by lia)];exact U2 _ (by lia) (by lia)
    .rw [afn a1];by_cases a2:j=lo+l
     .rw [aaU a2,afn (by lia)];exact U1 _ (by lia) (by lia)
     .rw [afn a2];by_cases a3:lo+l<i/\i<=lo+k
      .rw [aaU a3,aaU (by lia)];exact i1 _ _ (by lia) (by lia) (by lia)
      .rw [afn a3];by_cases a4:lo+l<j/\j<=lo+k
       .rw [aaU a4];exact i1 _ _ (by lia) (by lia) (by lia)
       .rw [afn a4];exact i1 _ _ (by lia) (by lia) (by lia)
   .intro j hj;show(bubble (arrOf st2) (lo+k) (lo+k-(lo+l)))[j]?=_;rw[getElem?_bubble hks _ (by lia),afn (by lia),afn (by lia)];exact o1 j hj
end
abbrev AS:=Option (Option Nat)×Nat
abbrev DS:=Option (Option Nat)×Nat×Nat
def xQ(lo a nrem:Nat):StateT SortSt Sem AS:=forIn [a:nrem] ((none,a):AS) λ_ c=>do
 let x <-ltAt' (lo+c.2) (lo+c.2-1)
 match x with
 |some y=>if y=true then pure (.done (none,c.2)) else pure (.yield (none,c.2+1))
 |_=>pure (.done (some none,c.2))
def oZ(lo n nrem:Nat):StateT SortSt Sem (Option Nat):=do
 reverseSlice' lo (lo+n)
 let c <-xQ lo n nrem
 match c.1 with
 |some r=>pure r
 |none=>pure (some c.2)
def tY(lo n nrem:Nat):StateT SortSt Sem DS:=forIn [n:nrem] ((none,n,0):DS) λ_ c=>do
 let x <-ltAt' (lo+c.2.1) (lo+c.2.1-1)
 match x with
 | some y=>if y=true then(if c.2.2>0 then(do
    reverseSlice' (lo+c.2.1-(c.2.2+1)) (lo+c.2.1)
    pure (.yield (none,c.2.1+1,0))) else pure (.yield (none,c.2.1+1,0))) else(do
   let x <-ltAt' (lo+c.2.1-1) (lo+c.2.1)
   match x with
   |some z=>if z=true then pure (.done (none,c.2.1,c.2.2)) else pure (.yield (none,c.2.1+1,c.2.2+1))
   |_=>pure (.done (some none,c.2.1,c.2.2)))
 |_=>pure (.done (some none,c.2.1,c.2.2))
def p7(lo n nrem:Nat):StateT SortSt Sem (Option Nat):=do
 liftM (rule "list.sort.descending-run")
 let c <-tY lo (n+1) nrem
 match c.1 with
 |some r=>pure r
 | none=>if c.2.2>0 then(do
   reverseSlice' (lo+c.2.1-(c.2.2+1)) (lo+c.2.1)
   oZ lo c.2.1 nrem) else oZ lo c.2.1 nrem
theorem ZgB(lo nrem:Nat):countRun' lo nrem=(do
  let c <-xQ lo 1 nrem
  match c.1 with
  |some r=>pure r
  | none=>if(c.2 ==nrem)=true then pure (some c.2) else if c.2>1 then(do
    let x <-ltAt' lo (lo+c.2-1)
    match x with
    | some y=>if y=true then pure (some c.2) else(do
      reverseSlice' lo (lo+c.2)
      p7 lo c.2 nrem)
    |_=>pure none) else p7 lo c.2 nrem):=by
 rw[countRun'_eq];unfold p7 oZ tY xQ;have tl:∀{f g:AS->StateT SortSt Sem (Option Nat)}{m:StateT SortSt Sem AS},(∀r n,f (r,n)=g (r,n))->(m >>=f)=(m >>=g):=λh=>azy _ (funext λ⟨r,n⟩=>h r n);have td:∀{f g:DS->StateT SortSt Sem (Option Nat)}{m:StateT SortSt Sem DS},(∀r n q,f (r,n,q)=g (r,n,q))->(m >>=f)=(m >>=g):=λh=>azy _ (funext λ⟨r,n,q⟩=>h r n q);have bc:∀{α:Type}{f g:α->StateT SortSt Sem (Option Nat)}{m:StateT SortSt Sem α},(∀x,f x=g x)->(m >>=f)=(m >>=g):=λh=>azy _ (funext h);refine tl λr n=>?_;cases r with
 |some r=>rfl
 |none=>
  dsimp only;split
  .rfl
  .split
   .refine bc λx=>?_;cases x with
    |none=>rfl
    |some y=>
     dsimp only;split
     .rfl
     .refine bc λ_=>bc λ_=>td λr n q=>?_;cases r with
      |some r=>rfl
      |none=>
       dsimp only;split
       .exact bc λ_=>bc λ_=>tl λr n=>by cases r <;> rfl
       .exact bc λ_=>tl λr n=>by cases r <;> rfl
   .refine bc λ_=>td λr n q=>?_;cases r with
    |some r=>rfl
    |none=>
     dsimp only;split
     .exact bc λ_=>bc λ_=>tl λr n=>by cases r <;> rfl
     .exact bc λ_=>tl λr n=>by cases r <;> rfl
section
variable{prog:Program}{w:World}{A:Around}{E:Value->Shared->Prop}{s:Shared}{a₀:Array Keyed}{κ:SortKind}{ρ:aE.RR}{P:Array (Nat×Nat×Nat)}
def Out(lo n:Nat)(xs ys:Array Keyed):Prop:=∀j,j<lo\/lo+n<=j->ys[j]?=xs[j]?
theorem Kv{xs:Array Keyed}{lo n i j:Nat}(hj:j<=xs.size)(h1:lo<=i)(h2:j<=lo+n):Out lo n xs (mirror xs i j ((j-i)/2)):=λk hk=>by
 rw[getElem?_mirror_all hj,afn (by lia)]
theorem Rw{st:SortSt}{lo a nrem:Nat}{Q:AS->SortSt->Prop}(h0:aE.jU prog w A s κ ρ a₀)(hn:lo+nrem<=a₀.size)(ha:1<=a)(han:a<=nrem)(hB:GP κ a₀ P st)(hs:dJ ρ (arrOf st) lo (lo+a))
  (h:∀n,a<=n->n<=nrem->dJ ρ (arrOf st) lo (lo+n)->(n=nrem\/aE.Kg ρ (arrOf st) (lo+n)<aE.Kg ρ (arrOf st) (lo+n-1))->Q (none,n) st):wpS (model prog w) A E s (xQ lo a nrem) Q st:=by
 unfold xQ;refine aJo (I:=λx c st1=>st1=st/\c=(none,x)/\dJ ρ (arrOf st) lo (lo+x)) ?turn ?last ⟨rfl,rfl,hs⟩
 case last=>
  rintro c st1 ⟨rfl,rfl,i1⟩;rw[show max a nrem=nrem by lia]at i1 ⊢;exact h nrem han (ags _) i1 (.inl rfl)
 case turn=>
  rintro x c st1 hax hxn ⟨rfl,rfl,i1⟩;dsimp only;refine ba7 (HB hB h0 (by lia) (by lia) ?_);by_cases c:aE.Kg ρ (arrOf st1) (lo+x)<aE.Kg ρ (arrOf st1) (lo+x-1)
  .simp only[c,az0,a6Z];exact aG3 (h x hax (by lia) i1 (.inr c))
  .simp only[c,aLL,aY9,a3v];refine aG3 ⟨rfl,rfl,λi j hi hij hj=>?_⟩;by_cases hjx:j<lo+x
   .exact i1 i j hi hij hjx
   .have ej:j=lo+x:=by lia
    subst ej;by_cases e:i=lo+x
    .subst e;exact aHM _
    .have:=i1 i (lo+x-1) hi (by lia) (by lia);lia
structure DX(ρ:aE.RR)(xs:Array Keyed)(lo x q:Nat):Prop where
 l:q+1<=x
 d:∀i j,lo<=i->i<=j->j<lo+x->aE.Kg ρ xs j<=aE.Kg ρ xs i
 e:∀i,lo+x-(q+1)<=i->i<lo+x->aE.Kg ρ xs i=aE.Kg ρ xs (lo+x-1)
theorem DX.rev{xs:Array Keyed}{lo x q:Nat}(h:DX ρ xs lo x q)(hz:lo+x<=xs.size):DX ρ (mirror xs (lo+x-(q+1)) (lo+x) ((lo+x-(lo+x-(q+1)))/2)) lo x 0:=by
 have ke:=aE.b9 (ρ:=ρ) (i:=lo+x-(q+1)) hz h.e;have:=h.l;refine⟨by lia,λi j h1 h2 h3=>?_,λi h1 h2=>?_⟩
 .rw [ke,ke];exact h.d i j h1 h2 h3
 .have e:i=lo+x-1:=by lia
  rw[e]
theorem DX.zero{xs:Array Keyed}{lo x q:Nat}(h:DX ρ xs lo x q):DX ρ xs lo x 0:=⟨by have:=h.l;lia,h.d,λi h1 h2=>by rw[show i=lo+x-1 by have:=h.l;lia]⟩
theorem DX.less{xs:Array Keyed}{lo x:Nat}(h:DX ρ xs lo x 0)(k:aE.Kg ρ xs (lo+x)<aE.Kg ρ xs (lo+x-1)):DX ρ xs lo (x+1) 0:=by
 have:=h.l;refine⟨by lia,λi j h1 h2 h3=>?_,λi h1 h2=>by rw[show i=lo+(x+1)-1 by lia]⟩;by_cases c:j<lo+x
 .exact h.d i j h1 h2 c
 .have ej:j=lo+x:=by lia
  subst ej;by_cases e:i=lo+x
  .subst e;exact aHM _
  .have:=h.d i (lo+x-1) h1 (by lia) (by lia);lia
theorem DX.more{xs:Array Keyed}{lo x q:Nat}(h:DX ρ xs lo x q)(k:aE.Kg ρ xs (lo+x)=aE.Kg ρ xs (lo+x-1)):DX ρ xs lo (x+1) (q+1):=by
 have:=h.l;refine⟨by lia,λi j h1 h2 h3=>?_,λi h1 h2=>?_⟩
 .by_cases c:j<lo+x
  .exact h.d i j h1 h2 c
  .have ej:j=lo+x:=by lia
   subst ej;by_cases e:i=lo+x
   .subst e;exact aHM _
   .have:=h.d i (lo+x-1) h1 (by lia) (by lia);lia
 .rw [show lo+(x+1)-1=lo+x by lia];by_cases c:i<lo+x
  .rw [k];exact h.e i (by lia) c
  .rw [show i=lo+x by lia]
theorem ZhZ{st:SortSt}{lo n nrem:Nat}{Q:DS->SortSt->Prop}(h0:aE.jU prog w A s κ ρ a₀)(hn:lo+nrem<=a₀.size)(hnn:n<=nrem)(hB:GP κ a₀ P st)(hs:DX ρ (arrOf st) lo n 0)
  (h:∀m q st',GP κ a₀ P st'->m<=nrem->DX ρ (arrOf st') lo m q->Out lo nrem (arrOf st) (arrOf st')->Q (none,m,q) st'):wpS (model prog w) A E s (tY lo n nrem) Q st:=by
 unfold tY;refine aJo (I:=λx c st1=>∃q,c=(none,x,q)/\GP κ a₀ P st1/\DX ρ (arrOf st1) lo x q/\Out lo nrem (arrOf st) (arrOf st1)) ?turn ?last ⟨0,rfl,hB,hs,λ_ _=>rfl⟩
 case last=>
  rintro c st1 ⟨q,rfl,b1,d1,o1⟩;rw[show max n nrem=nrem by lia]at d1 ⊢;exact h nrem q st1 b1 (ags _) d1 o1
 case turn=>
  rintro x c st1 hax hxn ⟨q,rfl,b1,d1,o1⟩;dsimp only;have sz:=b1.size;have hl:=d1.l;refine ba7 (HB b1 h0 (by lia) (by lia) ?_);by_cases c:aE.Kg ρ (arrOf st1) (lo+x)<aE.Kg ρ (arrOf st1) (lo+x-1)
  .simp only[c,az0,a6Z];by_cases hq:q>0
   .rw [aaU hq];have ke:=aE.b9 (ρ:=ρ) (i:=lo+x-(q+1)) (by lia:lo+x<=(arrOf st1).size) d1.e;refine ba7 (a7U (aG3 ⟨0,rfl,b1.setArr (ahv _ _ _ _),(d1.rev (by lia)).less ?_,λk hk=>(Kv (by lia) (by lia) (by lia) k hk).trans (o1 k hk)⟩));rw[ke,ke];exact c
   .rw [afn hq];have e:q=0:=by lia
    subst e;exact aG3 ⟨0,rfl,b1,d1.less c,o1⟩
  .simp only[c,aLL,aY9,a3v];refine ba7 (HB b1 h0 (by lia) (by lia) ?_);by_cases c2:aE.Kg ρ (arrOf st1) (lo+x-1)<aE.Kg ρ (arrOf st1) (lo+x)
   .simp only[c2,az0,a6Z];exact aG3 (h x q st1 b1 (by lia) d1 o1)
   .simp only[c2,aLL,aY9,a3v];exact aG3 ⟨q+1,rfl,b1,d1.more (by lia),o1⟩
theorem Sf{st dZ:SortSt}{lo n nrem:Nat}{Q:Option Nat->SortSt->Prop}(h0:aE.jU prog w A s κ ρ a₀)(hn:lo+nrem<=a₀.size)(h1:1<=n)(hnn:n<=nrem)(hB:GP κ a₀ P st)(hs:DX ρ (arrOf st) lo n 0)(ho:Out lo nrem (arrOf dZ) (arrOf st))
  (h:∀m st',GP κ a₀ P st'->1<=m->m<=nrem->dJ ρ (arrOf st') lo (lo+m)->Out lo nrem (arrOf dZ) (arrOf st')->Q (some m) st'):wpS (model prog w) A E s (oZ lo n nrem) Q st:=by
 unfold oZ;have sz:=hB.size;refine ba7 (a7U ?_);have b1:GP κ a₀ P (setArr st (mirror (arrOf st) lo (lo+n) ((lo+n-lo)/2))):=hB.setArr (ahv _ _ _ _);refine ba7 (Rw h0 hn h1 hnn b1 ?_ λm m1 m2 i2 _=>aG3 (h m _ b1 (by lia) m2 i2 λk hk=>(Kv (by lia) (by lia) (by lia) k hk).trans (ho k hk)));intro i j hi hij hj;show aE.Kg ρ (mirror (arrOf st) lo (lo+n) ((lo+n-lo)/2)) i<=aE.Kg ρ (mirror (arrOf st) lo (lo+n) ((lo+n-lo)/2)) j;rw[aE.jc (by lia),aE.jc (by lia),aaU (by lia),aaU (by lia)];exact hs.d _ _ (by lia) (by lia) (by lia)
theorem Se{st dZ:SortSt}{lo n nrem:Nat}{Q:Option Nat->SortSt->Prop}(h0:aE.jU prog w A s κ ρ a₀)(hn:lo+nrem<=a₀.size)(hnn:n+1<=nrem)(hB:GP κ a₀ P st)(hs:DX ρ (arrOf st) lo (n+1) 0)(ho:Out lo nrem (arrOf dZ) (arrOf st))
  (h:∀m st',GP κ a₀ P st'->1<=m->m<=nrem->dJ ρ (arrOf st') lo (lo+m)->Out lo nrem (arrOf dZ) (arrOf st')->Q (some m) st'):wpS (model prog w) A E s (p7 lo n nrem) Q st:=by
 unfold p7;refine ba7 (wpS_lift (ajd ⟨rfl,?_⟩));refine ba7 (ZhZ h0 hn hnn hB hs λm q st1 b1 m2 d1 o1=>?_);dsimp only;have hl:=d1.l;have sz:=b1.size;by_cases hq:q>0
 .rw [aaU hq];exact ba7 (a7U (Sf h0 hn (by lia) m2 (b1.setArr (ahv _ _ _ _)) (d1.rev (by lia)) (λk hk=>((Kv (by lia) (by lia) (by lia) k hk).trans (o1 k hk)).trans (ho k hk)) h))
 .rw [afn hq];exact Sf h0 hn (by lia) m2 b1 d1.zero (λk hk=>(o1 k hk).trans (ho k hk)) h
theorem ZgD{st:SortSt}{lo nrem:Nat}{Q:Option Nat->SortSt->Prop}(h0:aE.jU prog w A s κ ρ a₀)(hn:lo+nrem<=a₀.size)(h1:1<=nrem)(hB:GP κ a₀ P st)
  (h:∀m st',GP κ a₀ P st'->1<=m->m<=nrem->dJ ρ (arrOf st') lo (lo+m)->Out lo nrem (arrOf st) (arrOf st')->Q (some m) st'):wpS (model prog w) A E s (countRun' lo nrem) Q st:=by
 rw[ZgB];have sz:=hB.size;refine ba7 (Rw h0 hn (ags 1) h1 hB (λi j hi hij hj=>by rw[show i=j by lia];exact aHM _) λn n1 n2 i1 hor=>?_);dsimp only;by_cases e:n=nrem
 .rw [aaU (by simpa using e)];exact aG3 (h n st hB n1 n2 i1 λ_ _=>rfl)
 .rw [afn (by simpa using e)];have lt:aE.Kg ρ (arrOf st) (lo+n)<aE.Kg ρ (arrOf st) (lo+n-1):=hor.resolve_left e;by_cases g:n>1
  .rw [aaU g];refine ba7 (HB hB h0 (by lia) (by lia) ?_);by_cases c:aE.Kg ρ (arrOf st) lo<aE.Kg ρ (arrOf st) (lo+n-1)
   .simp only[c,az0,a6Z];exact aG3 (h n st hB n1 n2 i1 λ_ _=>rfl)
   .simp only[c,aLL,aY9,a3v];have all:∀k,lo<=k->k<lo+n->aE.Kg ρ (arrOf st) k=aE.Kg ρ (arrOf st) (lo+n-1):=λk h1 h2=>by
     have a1:=i1 lo k (ags _) h1 h2;have a2:=i1 k (lo+n-1) h1 (by lia) (by lia);lia
    have ke:=aE.b9 (ρ:=ρ) (xs:=arrOf st) (i:=lo) (j:=lo+n) (by lia) all;have dx:DX ρ (mirror (arrOf st) lo (lo+n) ((lo+n-lo)/2)) lo n 0:=⟨by lia,λi j h1 h2 h3=>by rw[ke,ke,all i h1 (by lia),all j (by lia) h3];exact aHM _,λi h1 h2=>by rw[show i=lo+n-1 by lia]⟩;exact ba7 (a7U (Se (dZ:=st) h0 hn (by lia) (hB.setArr (ahv _ _ _ _)) (dx.less (by rw[ke,ke];exact lt)) (Kv (by lia) (by lia) (by lia)) h))
  .rw [afn g];have en:n=1:=by lia
   subst en;exact Se (dZ:=st) h0 hn (by lia) hB (DX.less ⟨by lia,λi j h1 h2 h3=>by rw[show i=j by lia];exact aHM _,λi h1 h2=>by rw[show i=lo+1-1 by lia]⟩ lt) (λ_ _=>rfl) h
end
abbrev Rn:=Nat×Nat×Nat
def iA:List Rn->Nat->Nat->Prop
 | [],a,b=>a=b
 |t ::r,a,b=>t.1=a/\0<t.2.1/\iA r (a+t.2.1) b
theorem dY:∀{l m:List Rn}{a b:Nat},iA (l++m) a b↔∃c,iA l a c/\iA m c b
 | [],m,a,b=>⟨λh=>⟨a,rfl,h⟩,λ⟨c,h1,h2⟩=>by rw[show a=c from h1];exact h2⟩
 |t ::r,m,a,b=>by
  constructor
  .rintro ⟨h1,h2,h3⟩;obtain⟨c,h4,h5⟩:=dY.mp h3;exact⟨c,⟨h1,h2,h4⟩,h5⟩
  .rintro ⟨c,⟨h1,h2,h4⟩,h5⟩;exact⟨h1,h2,dY.mpr ⟨c,h4,h5⟩⟩
theorem Kd:∀{l:List Rn}{a b:Nat},iA l a b->l.length+a<=b
 | [],a,b,h=>by rw[show a=b from h];show 0+b<=b;lia
 |t ::r,a,b,⟨_,h2,h3⟩=>by
  have:=Kd h3;rw[a83];lia
theorem JW:∀{l:List Rn}{a b:Nat},iA l a b->∀t∈l,a<=t.1/\t.1+t.2.1<=b
 | [],a,b,h,t,ht=>nomatch ht
 |u ::r,a,b,⟨h1,h2,h3⟩,t,ht=>by
  have l:=Kd h3;rcases baL.mp ht with e|ht
  .subst e;lia
  .have:=JW h3 t ht;lia
theorem QG:∀{l:List Rn}{i:Nat}{x y:Rn},l[i]?=some x->l[i+1]?=some y->l=l.take i++x ::y ::l.drop (i+2)
 | [],i,x,y,h,_=>by simp at h
 | [a],0,x,y,h,h2=>by simp at h2
 |a ::b ::r,0,x,y,h,h2=>by
  simp only[List.getElem?_cons_zero,a5h,Option.some.injEq]at h h2;subst h h2;rfl
 |a ::r,i+1,x,y,h,h2=>by
  have:=QG (l:=r) (i:=i) (x:=x) (y:=y) (by simpa using h) (by simpa using h2);show a ::r=a ::(r.take i++x ::y ::r.drop (i+2));rw[<-this]
theorem ZgE(l m:List Rn)(x y v:Rn):((l++x ::y ::m).set l.length v).eraseIdx (l.length+1)=l++v ::m:=by
 induction l with
 |nil=>rfl
 |cons a r ih=>show a ::((r++x ::y ::m).set r.length v).eraseIdx (r.length+1)=a ::(r++v ::m);rw[ih]
section
variable{prog:Program}{w:World}{A:Around}{E:Value->Shared->Prop}{s:Shared}{a₀:Array Keyed}{κ:SortKind}{ρ:aE.RR}{P:Array Rn}
theorem Hz{xs ys:Array Keyed}{a b:Nat}(h:dJ ρ xs a b)(e:∀j,a<=j->j<b->ys[j]?=xs[j]?):dJ ρ ys a b:=λi j h1 h2 h3=>by
 rw[aE.cI (e i h1 (by lia)),aE.cI (e j (by lia) h3)];exact h i j h1 h2 h3
structure RI(κ:SortKind)(a₀:Array Keyed)(ρ:aE.RR)(lo:Nat)(st:SortSt):Prop where
 perm:(arrOf st).Perm a₀
 kn:kindOf st=κ
 failed:failedOf st=none
 tile:iA (pendingOf st).toList 0 lo
 DA:∀t∈(pendingOf st).toList,dJ ρ (arrOf st) t.1 (t.1+t.2.1)
theorem RI.gp{lo:Nat}{st:SortSt}(h:RI κ a₀ ρ lo st):GP κ a₀ (pendingOf st) st:=⟨h.perm,h.kn,h.failed,rfl⟩
theorem RI.out{lo n:Nat}{st st':SortSt}(h:RI κ a₀ ρ lo st)(g:GP κ a₀ (pendingOf st) st')(o:Out lo n (arrOf st) (arrOf st')):RI κ a₀ ρ lo st':=
 ⟨g.perm,g.kn,g.failed,by rw[g.pend];exact h.tile,λt ht=>by
  rw[g.pend]at ht;have:=JW h.tile t ht;exact Hz (h.DA t ht) λj h1 h2=>o j (.inl (by lia))⟩
theorem RI.merge{lo i:Nat}{x y:Rn}{st:SortSt}{Q:Bool->SortSt->Prop}(h0:aE.jU prog w A s κ ρ a₀)(h:RI κ a₀ ρ lo st)(hlo:lo<=a₀.size)(e1:(pendingOf st)[i]?=some x)(e2:(pendingOf st)[i+1]?=some y)
  (k:∀st',RI κ a₀ ρ lo st'->(pendingOf st').size+1=(pendingOf st).size->(∀j,lo<=j->(arrOf st')[j]?=(arrOf st)[j]?)->Q true st'):wpS (model prog w) A E s (NC i) Q st:=by
 obtain⟨sa,na,p⟩:=x;obtain⟨sb,nb,q⟩:=y;have el:=QG (l:=(pendingOf st).toList) (i:=i) (by rw[bd9];exact e1) (by rw[bd9];exact e2);have hi:i<(pendingOf st).toList.length:=by
  rw[ak9];exact(Array.getElem?_eq_some_iff.mp e1).1
 have hti:((pendingOf st).toList.take i).length=i:=by rw[bbw];lia
 have ht:=h.tile;have hs:=h.DA;have hsz:(pendingOf st).size=(pendingOf st).toList.length:=ak9.symm;have hnew:(((pendingOf st).setIfInBounds i (sa,na+nb,p)).eraseIdxIfInBounds (i+1)).toList=(pendingOf st).toList.take i++(sa,na+nb,p) ::(pendingOf st).toList.drop (i+2):=by
  rw[Array.toList_eraseIdxIfInBounds,Array.toList_setIfInBounds]
  conv=>lhs;rw[el]
  have:=ZgE ((pendingOf st).toList.take i) ((pendingOf st).toList.drop (i+2)) (sa,na,p) (sb,nb,q) (sa,na+nb,p);rw[hti]at this;exact this
 generalize(pendingOf st).toList.take i=l at *;generalize(pendingOf st).toList.drop (i+2)=m at *;rw[el]at ht hs hsz;obtain⟨c,t1,t2,t3,t4,t5,t6⟩:=dY.mp ht;have t2:sa=c:=t2;have t3:0<na:=t3;have t4:sb=c+na:=t4;have t5:0<nb:=t5;have t6:iA m (c+na+nb) lo:=t6;have l6:=Kd t6;refine ZfB h0 h.kn h.gp.mem h.failed e1 e2 (by lia) t3 t5 (by rw[h.gp.size];lia) (hs (sa,na,p) (by simp)) (hs (sb,nb,q) (by simp)) λst' k1 f1 p1 pe s1 o1=>?_;refine k st' ⟨p1.trans h.perm,k1,f1,?_,?_⟩ ?_ λj hj=>o1 j (.inr (by lia))
 .rw [pe,hnew];exact dY.mpr ⟨c,t1,t2,by show 0<na+nb;lia,by show iA m (c+(na+nb)) lo;rw[<-Nat.add_assoc];exact t6⟩
 .rw [pe,hnew];intro t ht;rcases aaI.mp ht with ht|ht
  .have:=JW t1 t ht;exact Hz (hs t (a96 _ ht)) λj h1 h2=>o1 j (.inl (by lia))
  .rcases baL.mp ht with ht|ht
   .subst ht;show dJ ρ (arrOf st') sa (sa+(na+nb));rw[show sa+(na+nb)=sb+nb by lia];exact s1
   .have:=JW t6 t ht;exact Hz (hs t (bax _ (arx _ (arx _ ht)))) λj h1 h2=>o1 j (.inr (by lia))
 .have z:(pendingOf st').size=(pendingOf st').toList.length:=ak9.symm;rw[z,pe,hnew,hsz,aKe,aKe];rfl
theorem RI.push{lo n:Nat}{st:SortSt}(h:RI κ a₀ ρ lo st)(hn:0<n)(hs:dJ ρ (arrOf st) lo (lo+n)):RI κ a₀ ρ (lo+n) (setPending st ((pendingOf st).push (lo,n,0))):=by
 refine⟨h.perm,h.kn,h.failed,?_,?_⟩
 .show iA ((pendingOf st).push (lo,n,0)).toList 0 (lo+n);rw[aVH];exact dY.mpr ⟨lo,h.tile,rfl,hn,rfl⟩
 .show ∀t∈((pendingOf st).push (lo,n,0)).toList,_;rw[aVH];intro t ht;rcases aaI.mp ht with ht|ht
  .exact h.DA t ht
  .rw [apU.mp ht];exact hs
theorem Sd{f:Rn->Rn}(hf:∀t,(f t).1=t.1/\(f t).2.1=t.2.1):∀{l:List Rn}{i a b:Nat},iA l a b->iA (l.modify i f) a b
 | [],i,a,b,h=>by cases i <;> exact h
 |t ::r,0,a,b,⟨h1,h2,h3⟩=>by
  show iA (f t ::r) a b;exact⟨(hf t).1.trans h1,by rw[(hf t).2];exact h2,by rw[(hf t).2];exact h3⟩
 |t ::r,i+1,a,b,⟨h1,h2,h3⟩=>⟨h1,h2,Sd hf h3⟩
theorem S5{f:Rn->Rn}:∀{l:List Rn}{i:Nat}{t:Rn},t∈l.modify i f->t∈l\/∃u∈l,t=f u
 | [],i,t,h=>by cases i <;> exact nomatch h
 |u ::r,0,t,h=>by
  rcases baL.mp (show t∈f u ::r from h) with e|h
  .exact .inr ⟨u,aTL,e⟩
  .exact .inl (arx _ h)
 |u ::r,i+1,t,h=>by
  rcases baL.mp (show t∈u ::r.modify i f from h) with e|h
  .exact .inl (e ▸aTL)
  .rcases S5 h with h|⟨v,hv,e⟩
   .exact .inl (arx _ h)
   .exact .inr ⟨v,arx _ hv,e⟩
theorem RI.pow{lo i:Nat}{st:SortSt}{f:Rn->Rn}(hf:∀t,(f t).1=t.1/\(f t).2.1=t.2.1)(h:RI κ a₀ ρ lo st):RI κ a₀ ρ lo (setPending st ((pendingOf st).modify i f)):=by
 refine⟨h.perm,h.kn,h.failed,?_,?_⟩
 .show iA ((pendingOf st).modify i f).toList 0 lo;rw[Array.toList_modify];exact Sd hf h.tile
 .show ∀t∈((pendingOf st).modify i f).toList,_;rw[Array.toList_modify];intro t ht;rcases S5 ht with ht|⟨u,hu,e⟩
  .exact h.DA t ht
  .rw [e,(hf u).1,(hf u).2];exact h.DA u hu
theorem wB{st:SortSt}{Q:Unit->SortSt->Prop}(h0:aE.jU prog w A s κ ρ a₀)(hP:(arrOf st).Perm a₀)(hk:kindOf st=κ)(hf:failedOf st=none)(hp:pendingOf st=#[])
  (h:∀st',(arrOf st').Perm a₀->failedOf st'=none->dJ ρ (arrOf st') 0 a₀.size->Q () st'):wpS (model prog w) A E s sortRuns' Q st:=by
 rw[sortRuns'_eq];refine ba7 (aLA ?_);dsimp only;have Xj:(arrOf st).size=a₀.size:=hP.size_eq;simp only[Xj];generalize minRun' a₀.size a₀.size 0=mr;have r0:RI κ a₀ ρ 0 st:=⟨hP,hk,hf,by rw[hp];rfl,by rw[hp];exact λt ht=>nomatch ht⟩;refine ba7 (ash (aJo (I:=λx c st1=>∃lo,c=(none,lo)/\lo<=a₀.size/\(x<=lo\/lo=a₀.size)/\RI κ a₀ ρ lo st1) (Q:=λc st1=>c=(none,a₀.size)/\RI κ a₀ ρ a₀.size st1) ?turn ?last ⟨0,rfl,aL2 _,.inl (ags _),r0⟩) ?after)
 case last=>
  rintro c st1 ⟨lo,rfl,hlo,hx,r1⟩;have e:lo=a₀.size:=by lia
  subst e;exact⟨rfl,r1⟩
 case turn=>
  rintro x c st1 _ hx ⟨lo,rfl,hlo,hxl,r1⟩;dsimp only;by_cases g:lo ≥ a₀.size
  .rw [aaU g];have e:lo=a₀.size:=by lia
   subst e;exact aG3 ⟨rfl,r1⟩
  .rw [afn g];refine ba7 (ZgD h0 (by lia) (by lia) r1.gp λm st2 b2 m1 m2 s2 o2=>?_);dsimp only;have r2:=r1.out b2 o2;have fin:∀{n:Nat}{st3:SortSt},0<n->lo+n<=a₀.size->RI κ a₀ ρ lo st3->dJ ρ (arrOf st3) lo (lo+n)->∃lo',(none,lo+n)=((none,lo'):Option Unit×Nat)/\lo'<=a₀.size/\(x+1<=lo'\/lo'=a₀.size)/\RI κ a₀ ρ lo' (setPending st3 ((pendingOf st3).push (lo,n,0))):=λ{n st3} h1 h2 h3 h4=>⟨lo+n,rfl,h2,by lia,h3.push h1 h4⟩;by_cases lt:m<mr
   .rw [aaU lt];refine ba7 (wpS_lift (ajd ⟨rfl,?_⟩));refine ba7 (YJ h0 (by lia) (by lia) m1 b2 s2 λst3 b3 s3 o3=>?_);simp only[aLP,aY9,a3v];have r3:=r1.out (n:=a₀.size-lo) b3 λj hj=>(o3 j (by lia)).trans (o2 j hj);have hn:0<min (a₀.size-lo) mr:=by lia
    have lZ:lo+min (a₀.size-lo) mr<=a₀.size:=by lia
    clear b3 o3 b2 s2 o2 r2 m1 m2 lt;generalize min (a₀.size-lo) mr=n at *;refine ba7 (aLA ?_);cases eb:(pendingOf st3).back? with
    |none=>
     dsimp only;exact ba7 (aiW (aG3 (fin hn lZ r3 s3)))
    |some t=>
     obtain⟨s1,n1,z⟩:=t;dsimp only;generalize power' a₀.size (2*s1+n1) (2*s1+n1+n1+n) a₀.size=pw;refine ba7 (ash (aJo (I:=λ_ c cT=>c=(none,())/\RI κ a₀ ρ lo cT/\dJ ρ (arrOf cT) lo (lo+n)) (Q:=λc cT=>c=(none,())/\RI κ a₀ ρ lo cT/\dJ ρ (arrOf cT) lo (lo+n)) ?_ (λ_ _ hh=>hh) ⟨rfl,r3,s3⟩) ?_)
     .rintro y c cT _ _ ⟨rfl,r4,h4⟩;refine ba7 (aLA ?_);by_cases c2:(pendingOf cT).size>1
      .have e1:(pendingOf cT)[(pendingOf cT).size-2]?=some (pendingOf cT)[(pendingOf cT).size-2]:=alK (by lia);have e2:(pendingOf cT)[(pendingOf cT).size-2+1]?=some (pendingOf cT)[(pendingOf cT).size-2+1]:=alK (by lia);simp only[aaU c2];rw[e1];dsimp only;by_cases c3:(pendingOf cT)[(pendingOf cT).size-2].2.2<=pw
       .rw [aaU c3];exact aG3 ⟨rfl,r4,h4⟩
       .rw [afn c3];refine ba7 (RI.merge h0 r4 hlo e1 e2 λyG r5 _ o5=>?_);simp only[aLP,aY9,a3v];exact aG3 ⟨rfl,r5,Hz h4 λj h1 _=>o5 j h1⟩
      .simp only[afn c2];exact aG3 ⟨rfl,r4,h4⟩
     .rintro c cT ⟨rfl,r4,h4⟩;dsimp only;exact ba7 (aiW (ba7 (aiW (aG3 (fin hn lZ (r4.pow λ_=>⟨rfl,rfl⟩) h4)))))
   .rw [afn lt];have hn:0<m:=by lia
    have lZ:lo+m<=a₀.size:=by lia
    have r3:=r2;have s3:=s2;clear b2 s2 o2 r2 m1 m2 lt;generalize m=n at *;generalize st2=st3 at *;refine ba7 (aLA ?_);cases eb:(pendingOf st3).back? with
    |none=>
     dsimp only;exact ba7 (aiW (aG3 (fin hn lZ r3 s3)))
    |some t=>
     obtain⟨s1,n1,z⟩:=t;dsimp only;generalize power' a₀.size (2*s1+n1) (2*s1+n1+n1+n) a₀.size=pw;refine ba7 (ash (aJo (I:=λ_ c cT=>c=(none,())/\RI κ a₀ ρ lo cT/\dJ ρ (arrOf cT) lo (lo+n)) (Q:=λc cT=>c=(none,())/\RI κ a₀ ρ lo cT/\dJ ρ (arrOf cT) lo (lo+n)) ?_ (λ_ _ hh=>hh) ⟨rfl,r3,s3⟩) ?_)
     .rintro y c cT _ _ ⟨rfl,r4,h4⟩;refine ba7 (aLA ?_);by_cases c2:(pendingOf cT).size>1
      .have e1:(pendingOf cT)[(pendingOf cT).size-2]?=some (pendingOf cT)[(pendingOf cT).size-2]:=alK (by lia);have e2:(pendingOf cT)[(pendingOf cT).size-2+1]?=some (pendingOf cT)[(pendingOf cT).size-2+1]:=alK (by lia);simp only[aaU c2];rw[e1];dsimp only;by_cases c3:(pendingOf cT)[(pendingOf cT).size-2].2.2<=pw
       .rw [aaU c3];exact aG3 ⟨rfl,r4,h4⟩
       .rw [afn c3];refine ba7 (RI.merge h0 r4 hlo e1 e2 λyG r5 _ o5=>?_);simp only[aLP,aY9,a3v];exact aG3 ⟨rfl,r5,Hz h4 λj h1 _=>o5 j h1⟩
      .simp only[afn c2];exact aG3 ⟨rfl,r4,h4⟩
     .rintro c cT ⟨rfl,r4,h4⟩;dsimp only;exact ba7 (aiW (ba7 (aiW (aG3 (fin hn lZ (r4.pow λ_=>⟨rfl,rfl⟩) h4)))))
 case after=>
  rintro c st1 ⟨rfl,r1⟩;dsimp only;have l1:=Kd r1.tile;rw[ak9]at l1;refine ba7 (ash (aJo (I:=λx c st2=>c=(none,())/\RI κ a₀ ρ a₀.size st2/\(pendingOf st2).size+x<=a₀.size+1) (Q:=λc st2=>c=(none,())/\RI κ a₀ ρ a₀.size st2/\(pendingOf st2).size<=1) ?_ ?_ ⟨rfl,r1,by lia⟩) ?_)
  .rintro y c st2 _ _ ⟨rfl,r2,h2⟩;refine ba7 (aLA ?_);by_cases c1:(pendingOf st2).size<=1
   .rw [aaU c1];exact aG3 ⟨rfl,r2,c1⟩
   .rw [afn c1];obtain⟨i,hi,hlt⟩:∃i,(if Option.any (λx=>decide (x<(pendingOf st2)[(pendingOf st2).size-2+1]?.elim 0 λx=>x.snd.fst)) (if(pendingOf st2).size-2>0 then Option.map (λx=>x.snd.fst) (pendingOf st2)[(pendingOf st2).size-2-1]? else none)=true then(pendingOf st2).size-2-1 else(pendingOf st2).size-2)=i/\i+1<(pendingOf st2).size:=⟨_,rfl,by generalize Option.any _ _=bb;cases bb <;> simp <;> lia⟩;rw[hi];refine ba7 (RI.merge h0 r2 (ags _) (alK (by lia)) (alK hlt) λyG r5 z5 _=>?_);simp only[aLP,aY9,a3v];exact aG3 ⟨rfl,r5,by lia⟩
  .rintro c st2 ⟨rfl,r2,h2⟩;exact⟨rfl,r2,by lia⟩
  .rintro c st2 ⟨rfl,r2,h2⟩;dsimp only;refine aG3 (h st2 r2.perm r2.failed ?_);have ht:=r2.tile;have hs:=r2.DA;have z:(pendingOf st2).size=(pendingOf st2).toList.length:=ak9.symm;rw[z]at h2;generalize(pendingOf st2).toList=l at *
   match l,h2,ht,hs with
   | [],_,ht,_=>
    have e:0=a₀.size:=ht;intro i j _ _ hj;lia
   | [t],_,⟨t1,t2,t3⟩,hs=>
    have e:0+t.2.1=a₀.size:=t3;have q:=hs t (by simp);rw[t1,e]at q;exact q
   |_ ::_ ::_,h2,_,_=>simp at h2
end
end L2.xU
set_option maxHeartbeats 4000000
namespace L2
open PySem PySem.Spec PyProof.Rows
section
variable{prog:Program}{w:World}{A:Around}{E:Value->Shared->Prop}{s:Shared}
theorem QF{a:Addr}{us:List Value}{m:Nat}{P:PySem.Fin->Shared->Prop}{κ:SortKind}{ρ:aE.RR}(ho:s.heap.get? a=some (seqObj "list" us.toArray m))(z:us.length<=1000000)
  (hk:2<=us.length->(∀(E:Value->Shared->Prop)(Q:SortKind->Shared->Prop),Q κ { s with heap:=rB s.heap a us }->wpAny (model prog w) A (keyKind' us.toArray) Q E { s with heap:=rB s.heap a us })/\aE.jU prog w A { s with heap:=rB s.heap a us } κ ρ (pairsOf us))
  (g:∀q:SortSt,(arrOf q).Perm (pairsOf us)->xU.dJ ρ (arrOf q) 0 (pairsOf us).size->P (.done (.ret .none)) { s with heap:=sortedHeap s.heap a us ((arrOf q).map (·.2)) }):wpAny (model prog w) A (Builtin.«list.sort» ⟨[.ref a],[]⟩) P E s:=by
 rw[list_sort_plain];have al:a<s.heap.objs.size:=aYz ho;obtain⟨c,oc⟩:∃c,(s.heap.update a (Obj.mapSeq λ_=>#[])).get? a=some (seqObj "list" #[] c):=⟨_,get?_update_seq ho (λ_=>#[])⟩;have IU:(rB s.heap a us).get? a=some (seqObj "list" #[] c):=a8r _ (a8r _ oc);refine asu (listItems_at ho rfl (asu (baO ho rfl (asu (seqEpoch_at oc rfl (asu (wpAny_newTuple (asu (aPS (aaC ?_)))))))))) <;> try (rw[a3Q];first|(rw[aCS];lia)|lia)
 show wpAny (model prog w) A _ P E { s with heap:=rB s.heap a us };dsimp only;have us2:us.toArray.size=us.length:=aCS ..;by_cases few:us.toArray.size<2
 .rw [aaU few,aaU few];refine asu (aJq ?_);rw[StateT.run_pure];refine asu (aJq (asu (seqEpoch_at IU rfl (asu (baO IU rfl ?_ (hsz2:=by rw[Array.size_map];show(pairsOf us).size<=_;rw[pairsOf_size,a3Q];lia))))));simp only[bne_self_eq_false,aY9,a3v];refine aJq (g (SortSt.mk' general' (us.toArray.zip us.toArray) #[] 7 none) (ayB _) λi j _ hij hj=>?_);rw[pairsOf_size]at hj;rw[show i=j by lia];exact aHM _
 .rw [afn few,afn few];have two:2<=us.length:=by lia
  obtain⟨k1,k2⟩:=hk two;refine asu (k1 _ _ (asu (a4X (xU.wB (a₀:=pairsOf us) (st:=SortSt.mk' κ (us.toArray.zip us.toArray) #[] 7 none) (Q:=λ_ q=>(arrOf q).Perm (pairsOf us)/\failedOf q=none/\xU.dJ ρ (arrOf q) 0 (pairsOf us).size) k2 (ayB _) rfl rfl rfl λq a1 a2 a3=>⟨a1,a2,a3⟩) ?_ λ_ _ e=>e)));rintro⟨⟨⟩,q⟩ t ⟨rfl,hp,hf,hs⟩;refine asu (seqEpoch_at IU rfl (asu (baO IU rfl ?_ (hsz2:=by rw[Array.size_map,hp.size_eq,pairsOf_size,a3Q];lia))));dsimp only;rw[hf];simp only[bne_self_eq_false,aY9,a3v];exact aJq (g q hp hs)
theorem ZjA{l:Addr}{us:List Value}{Q:Value->Shared->Prop}{κ:SortKind}{ρ:aE.RR}(hl:s.heap.IsList l us.toArray)(z:us.length<=1000000)
  (hk:2<=us.length->∀h':Heap,(∀b o,s.heap.get? b=some o->h'.get? b=some o)->(∀(E:Value->Shared->Prop)(Q:SortKind->Shared->Prop),Q κ { s with heap:=h' }->wpAny (model prog w) A.in1.in1 (keyKind' us.toArray) Q E { s with heap:=h' })/\aE.jU prog w A.in1.in1 { s with heap:=h' } κ ρ (pairsOf us))
  (g:∀q:SortSt,(arrOf q).Perm (pairsOf us)->xU.dJ ρ (arrOf q) 0 (pairsOf us).size->Q (.ref (s.heap.objs.size+1)) { s with heap:=sortedAll s.heap us ((arrOf q).map (·.2)) }):wpAny (model prog w) A (call (.builtin "sorted") [.ref l]) Q E s:=by
 have zz:us.length<=sizeLine:=by rw[a3Q];lia
 refine Calls.call_function_entry kind_sorted plain_sorted entry_sorted (args_sorted1 _) ?_;unfold Builtin.«sorted»;refine asu (m:=checkCount "sorted" 1 1 _) (aJq (asu (collect_list hl (asu (aPS ?_ zz)) zz)));have sz:((s.heap.push (seqObj "list" #[] 0)).update s.heap.objs.size (Obj.mapSeq (·++us.toArray))).objs.size=s.heap.objs.size+1:=by rw[Heap.size_update,size_push']
 have oL:(vG s.heap us).get? (s.heap.objs.size+1)=some (seqObj "list" us.toArray 0):=by unfold vG;rw[<-sz];exact arT _ rfl
 show wpAny _ _ _ _ _ { s with heap:=vG s.heap us };rw[sz];refine asu (aaC (ajI slot_list_sort ⟨_,oL,rfl⟩ entry_list_sort (QF (s:={ s with heap:=vG s.heap us }) (κ:=κ) oL z (λtwo=>hk two _ λb o e=>Sh (ar8 (a2T (aYz e))) (ZhY e)) λq a1 a2=>⟨_,rfl,?_⟩) (args_list_sort _)));exact aJq ⟨_,rfl,g q a1 a2⟩
end
variable{K:W.Frag}{X:Cx}
end L2
set_option maxHeartbeats 1000000
namespace L2
open PySem PySem.Spec PySem.Calls PyProof.Rows PySem.MeetsSeq PySem.W
abbrev oY:=Addr×Int×Int
def yk(es:List oY)(a:Addr):oY:=(es.find? λe=>e.1 ==a).getD (0,0,0)
theorem D8:∀{es:List oY},(es.map (·.1)).Nodup->∀{e:oY},e∈es->yk es e.1=e
 | [],_,_,h=>by cases h
 |x ::r,nd,e,h=>by
  rw[a2a]at nd;obtain⟨n1,n2⟩:=baB.mp nd;unfold yk;rw[aaV];rcases baL.mp h with rfl|h
  .rw [afE];rfl
  .have ne:(x.1 ==e.1)=false:=by
    rw[aul];exact λz=>n1 (by rw[z];exact ac1 h)
   rw[ne];exact D8 n2 h
def gP(e:oY):Value:=.ref e.1
def IQ(es:List oY):aE.RR:=⟨λ_=>0,λp=>(yk es (pV p.2)).2.1⟩
def HZ(h:Heap)(e:oY):Prop:=∃t t',h.get? e.1=some { cls:=.type "tuple",data:=.seq #[.int e.2.1 t,.int e.2.2 t'] }
section
variable{prog:Program}{w:World}{A:Around}{E:Value->Shared->Prop}{s:Shared}
theorem MG{a b:oY}{Q:Bool->Shared->Prop}(h1:HZ s.heap a)(h2:HZ s.heap b)(hab:a.2.1=b.2.1->a.2.2=b.2.2)(h:Q (decide (a.2.1<b.2.1)) s):wpAny (model prog w) A (keyLt' (tuples' true) (gP a) (gP b)) Q E s:=by
 obtain⟨t,t',ho⟩:=h1;obtain⟨u,u',ho'⟩:=h2;refine W.kat_lt ho rfl ho' rfl (W.kat_cons ?_);obtain⟨c,e,hc⟩:=HT.iy A s a.2.1 t b.2.1 u;refine e prog w _ _ ?_;cases c with
 |true=>
  have z:=hc.mp rfl;refine W.kat_yes (W.kat_cons ?_);obtain⟨c2,e2,hc2⟩:=HT.iy A s a.2.2 t' b.2.2 u';refine e2 prog w _ _ ?_;cases c2 with
  |true=>
   rw[a4I (by lia)]at h;exact W.kat_yes (W.kat_nil h)
  |false=>exact absurd (hc2.mpr (hab z)) a7q
 |false=>exact W.kat_no (oneLt_int h)
theorem QE{h:Heap}:∀{es:List oY},(∀e∈es,HZ h e)->∃fs:List Value,W.KatTups h (es.map gP) fs/\fs.length=es.length/\∀v∈fs,∃(n:Int)(t:Tok),v=.int n t
 | [],_=>⟨[],W.KatTups.nil,rfl,λ_ h=>by cases h⟩
 |e ::es,hh=>by
  obtain⟨fs,t,lf,hf⟩:=QE (es:=es) λx m=>hh x (arx _ m);obtain⟨a,b,ho⟩:=hh e aTL;rw[a2a];refine⟨.int e.2.1 a ::fs,W.KatTups.cons ho rfl rfl rfl t,by rw[a83,lf];rfl,λv m=>?_⟩;rcases baL.mp m with rfl|m
  .exact ⟨_,_,rfl⟩
  .exact hf v m
end
theorem Fx{es:List oY}(nd:(es.map (·.1)).Nodup){xs:Array Keyed}(hp:xs.Perm (pairsOf (es.map gP)))(hi:xU.dJ (IQ es) xs 0 (pairsOf (es.map gP)).size) :
  ∃os:List oY,(xs.map (·.2)).toList=os.map gP/\os.Perm es/\os.Pairwise λx y=>x.2.1<=y.2.1:=by
 have pm:=aUN.mp hp;rw[Kw,ahh]at pm;have mx:∀p∈xs.toList,∃e∈es,p=(gP e,gP e):=λp h=>by
  obtain⟨e,m,q⟩:=awR.mp (pm.mem_iff.mp h);exact⟨e,m,q.symm⟩
 refine⟨xs.toList.map λp=>yk es (pV p.2),?_,?_,?_⟩
 .rw [Array.toList_map,ahh];refine aHS λp h=>?_;obtain⟨e,m,rfl⟩:=mx p h;show gP e=gP (yk es e.1);rw[D8 nd m]
 .have q:=pm.map λp=>yk es (pV p.2);rw[ahh]at q;refine q.trans (List.Perm.of_eq ?_);have:es.map ((λp:Keyed=>yk es (pV p.2)) ∘ ((λv=>(v,v)) ∘ gP))=es.map id:=aHS λe m=>D8 nd m;rw[this,map_id]
 .rw [pairwise_iff_getElem];intro i j h1 h2 hij;have hi2:i<xs.size:=by simpa using h1
  have hj2:j<xs.size:=by simpa using h2
  have v:=hi i j (aL2 _) (aUL hij) (by rw[<-hp.size_eq];exact hj2);unfold aE.Kg at v;rw[alK hi2,alK hj2]at v;rw[getElem_map,getElem_map,aLY,aLY];exact v
def rM(H:Hp)(es:List oY):Hp:=λa=>match es.find? λe=>e.1 ==a with
 |some e=>some (.tup [.int e.2.1,.int e.2.2])
 |none=>H a
theorem Sb{H:Hp}{es:List oY}{a:Addr}(h:∀e∈es,e.1≠a):rM H es a=H a:=by
 unfold rM;rw[List.find?_eq_none.mpr λe m=>by simpa using h e m]
theorem Zia{H:Hp}{es:List oY}(nd:(es.map (·.1)).Nodup){e:oY}(m:e∈es):rM H es e.1=some (.tup [.int e.2.1,.int e.2.2]):=by
 have q:=D8 nd m;unfold yk at q;unfold rM;cases z:es.find? λx=>x.1 ==e.1 with
 |none=>exact absurd (List.find?_eq_none.mp z e m) (by simp)
 |some x=>rw[z]at q;have q:x=e:=q;rw[q]
theorem SN{α β:Type}{F:α->β->Prop}:∀{l₁:List α}{l₂:List β},Paired F l₁ l₂->∀{i:Nat}{a:α}{b:β},l₁[i]?=some a->l₂[i]?=some b->F a b
 |_,_,.nil,_,_,_,h,_=>by simp at h
 |_,_,.cons r t,0,_,_,h,g=>by
  simp only[List.getElem?_cons_zero,Option.some.injEq]at h g;subst h g;exact r
 |_,_,.cons r t,i+1,_,_,h,g=>SN t (i:=i) (by simpa using h) (by simpa using g)
theorem QD{α β:Type}{f:α->β}:∀{l:List α},(l.map f).Nodup->∀{a b:α},a∈l->b∈l->f a=f b->a=b
 | [],_,_,_,h,_,_=>nomatch h
 |x ::r,nd,a,b,ha,hb,e=>by
  obtain⟨n1,n2⟩:=baB.mp nd;rcases baL.mp ha with h1|h1 <;> rcases baL.mp hb with h2|h2
  .rw [h1,h2]
  .exact absurd (by rw[<-h1,e];exact ac1 h2) n1
  .exact absurd (by rw[<-h2,<-e];exact ac1 h1) n1
  .exact QD n2 h1 h2 e
theorem ZjB(os:List oY):Vals (os.map λe=>V.ref e.1) (os.map gP):=by
 induction os with
 |nil=>exact .nil
 |cons e r ih=>exact .cons rfl ih
section
variable{X:Cx}{pins:List (Addr×Obj)}{σ:St}{H H':Hp}{s:Shared}{h':Heap}
theorem Inv.more{t':Nat}(I:Inv X pins σ H s)(k:∀b u,s.heap.get? b=some u->h'.get? b=some u)(on:∀b o,H b=some o->H' b=some o)(fr:∀b u,s.heap.get? b=some u->H b=none->H' b=none)(new:∀b o,H b=none->H' b=some o->aH X.prog X.w H' h' b o) :
  Inv X pins σ H' { s with heap:=h',toks:=t' }:=by
 refine I.un ⟨λb u q _ _ _=>k b u q,λb u q _ _ _=>⟨u.slots,k b u q⟩,λb u q n _=>fr b u q n,λb u q _=>⟨u,k b u q⟩,λb xs q=>on _ _ q,λb o u q=>on _ _ q,λb p z q=>on _ _ q⟩ λb u e=>?_;cases c:H b with
 |some o=>
  have e2:=a9h ((on b o c).symm.trans e);subst e2;exact(I.hok b o c).stay (λc v _ q=>k c v q) (λc q=>on _ _ q) (λc xs q=>on _ _ q) λc oz q=>on _ _ q
 |none=>exact new b u c e
end
theorem ZdJ{P:Program}{w:World}(d:Addr)(hd:(d ==sysModules)=false) :
  MeetsIn P w (Builtin.«dict.items» ⟨[.ref d],[]⟩) (λ_ R s=>s.TypeIs (.ref d) "dict" /\R (.ok (.ret (.ref s.heap.objs.size))) { s with heap:=s.heap.push { cls:=.type "dict_items",data:=.fields #[.ref d] } }):=
 .of_wp λA R s ⟨ty,h⟩=>by
  unfold Builtin.«dict.items»;refine asu ?_;unfold Builtin.Dict.noArgs;refine asu (wpAny_notOrdered_dict ty ?_);show wpAny _ _ (pure d) _ _ s;refine aJq ?_;show wpAny _ _ (Builtin.Dict.showsAll d >>=_) _ _ s;unfold Builtin.Dict.showsAll;rw[afn (by rw[hd];exact a7q)];exact asu (aJq (asu (a6N (aJq ⟨_,rfl,h⟩))))
section
variable{X:Cx}
def N5(H:Hp)(v d:Addr):Prop:=H v=some (.ext λh=>h.IsItemsView v d)
def ZjC(tl:TE):TE:=λσ H Q=>tl σ H λx H1=>∃d kvs,x=.ref d/\H1 d=some (.dK kvs)/\∀v,H1 v=none->Q (.ref v) (upd H1 v (.ext λh=>h.IsItemsView v d))
theorem ZgF{l:Expr}{tl:TE}{apos cpos:Pos}(hl:PE X l tl)(hbase:attributeBase l "items" X.env (eval l X.env)=eval l X.env:=by rfl)(hline:(apos.endLine ==cpos.line)=true:=by rfl):PE X (.Call (.Attribute l "items" apos) [] [] cpos) (ZjC tl):=by
 intro pins s σ H Q I h;refine wpAny_Call_method0_late hbase hline (fB (hl pins s σ H _ I h) λv s1 x H1 I1 r1 q1=>?_);obtain⟨d,kvs,e,hd,q⟩:=q1;subst e;cases r1;obtain⟨t1,t2,hs⟩:=JO I1 (.inl ⟨kvs,.inl hd⟩);refine⟨"dict","dict.items",aWT,PySem.F.slot_dict_items,PySem.F.type_dict_items,t1,t2,asf rfl (PySem.evalArgs_none ?_)⟩;refine call_meetsIn PySem.F.slot_dict_items t1 PySem.F.entry_dict_items (PySem.F.args_dict_items_1 _) (ZdJ d hs) ⟨t1,?_⟩;refine⟨.ref s1.heap.objs.size,_,I1.laid (a:=s1.heap.objs.size) (t':=s1.toks) (o:=.ext λh=>h.IsItemsView s1.heap.objs.size d) (λb o z=>a8r _ z) (ags _) ⟨⟨_,arT _ rfl,rfl,rfl⟩,⟨_,arT _ rfl⟩,λh1 h2 ⟨o,ho,x⟩ up=>⟨o,up o ho,x⟩⟩,rfl,q _ (I1.hok.fresh (ags _))⟩
inductive pW(xs:List V)(H:Hp)(Q:VK):Prop
 |mk (v d:Addr) (ps:List (Int×Int)):xs=[.ref v]->N5 H v d->H d=some (.dK (ps.map λp=>(Sum.inl p.1,V.int p.2)))->(ps.map (·.1)).Nodup->ps.length<=1000000->(∀(D:Addr)(os:List oY)(H':Hp),H D=none->aB H H'->H' D=some (.lst (os.map λe=>V.ref e.1))->(∀e∈os,H e.1=none/\H' e.1=some (.tup [.int e.2.1,.int e.2.2]))->(os.map (·.2)).Perm ps->(os.Pairwise λx y=>x.2.1<y.2.1)->Q (.ref D) H')->pW xs H Q
theorem ZdK(hc:X.calm=true):bG X (.builtin "sorted") pW:=by
 intro pins s σ H xs us Q I r h;obtain⟨v,d,ps,rfl,hv,hd,nd,hz,q⟩:=h;obtain⟨u,rfl,rx⟩:=vals1 r;cases rx;obtain⟨hvw,_⟩:=I.hok v _ hv;obtain⟨_,hs,vs,rv,hD⟩:=I.hok d _ hd;obtain⟨ep,hat⟩:=hD.dictAt;have hl:vs.length=ps.length:=by have:=aFJ rv;rw[axO]at this;exact this.symm
 refine call_function_entry kind_sorted plain_sorted entry_sorted (args_sorted1 _) ?_;unfold Builtin.«sorted»;refine asu (m:=checkCount "sorted" 1 1 _) (aJq ?_);refine asu (W.kdx_collect (A:=X.A.in1) (knd:=Zy X.prog X.w) (kvs:=vs) (ep:=ep) (show X.A.in1.handled=none from I.ok.hd hc) hvw hat (by rw[a3Q];lia) λh' tk as hk' la hG=>?_);obtain⟨es,ea,ev,pk⟩:∃es:List oY,es.map (·.1)=as/\es.map (·.2)=ps/\∀e∈es,HZ h' e:=by
  refine⟨as.zip ps,List.map_fst_zip (by lia),List.map_snd_zip (by lia),λe m=>?_⟩;obtain⟨j,hj⟩:=aTN.mp m;rw[List.getElem?_zip_eq_some]at hj;obtain⟨ja,jp⟩:=hj;obtain⟨key,k,x,e1,e2,e3⟩:=hG.pairs j _ ja;obtain⟨f1,f2⟩:=SN rv (i:=j) (by rw[acC,jp];rfl) e1;dsimp only at f1 f2;subst f1;obtain⟨t,rfl⟩:=Sk e2;obtain⟨t',rfl⟩:=f2;exact⟨t,t',e3⟩
 have FO:(es.map (·.1)).Nodup:=by rw[ea];exact hG.rise.imp λh=>ar8 h
 have OP:(es.map λe=>e.2.1).Nodup:=by
  rw[<-ev,ahh]at nd;exact nd
 have le:es.length=ps.length:=by rw[<-ev,axO]
 have er:as.map Value.ref=es.map gP:=by rw[<-ea,ahh];rfl
 have ab:∀e∈es,s.heap.objs.size<e.1:=λe m=>hG.above _ (by rw[<-ea];exact ac1 m);rw[er];refine asu (aPS ?_ (by rw[axO,le,a3Q];lia));have tU:(h'.push (seqObj "list" (es.map gP).toArray 0)).get? h'.objs.size=some (seqObj "list" (es.map gP).toArray 0):=arT _ rfl;show wpAny _ _ _ _ _ { s with heap:=h'.push (seqObj "list" (es.map gP).toArray 0),toks:=tk };have up1:∀b o,h'.get? b=some o->(h'.push (seqObj "list" (es.map gP).toArray 0)).get? b=some o:=λb o e=>a8r _ e;have OX:∀e∈es,e.1<h'.objs.size:=λe m=>by obtain⟨_,_,z⟩:=pk e m;exact aYz z
 refine asu (aaC (ajI slot_list_sort ⟨_,tU,rfl⟩ entry_list_sort (QF (s:={ s with heap:=h'.push (seqObj "list" (es.map gP).toArray 0),toks:=tk }) (κ:=tuples' true) (ρ:=IQ es) tU (by rw[axO,le];exact hz) (λtwo=>?_) λst a1 a2=>⟨_,rfl,?_⟩) (args_list_sort _)))
 .have Lo:∀e∈es,HZ (rB (h'.push (seqObj "list" (es.map gP).toArray 0)) h'.objs.size (es.map gP)) e:=λe m=>by
   obtain⟨t,t',z⟩:=pk e m;exact⟨t,t',Sh (ar8 (OX e m)) (up1 _ _ z)⟩
  refine⟨λE Q hQ=>?_,λx mx y my E Q hQ=>?_⟩
  .obtain ⟨fs,t,lf,hf⟩:=QE Lo;refine W.kat_kind (T:=Value.type "int") t (by rw[axO]at two;lia) (λv m=>?_) rfl hQ;obtain⟨n,t,rfl⟩:=hf v m;exact .now
  .rw [Kw,ahh]at mx my;obtain⟨a,ma,rfl⟩:=awR.mp mx;obtain⟨b,mb,rfl⟩:=awR.mp my;refine MG (Lo a ma) (Lo b mb) (λz=>by rw[QD OP ma mb z]) ?_;have e1:(IQ es).g (gP a,gP a)=a.2.1:=by show(yk es a.1).2.1=_;rw[D8 FO ma]
   have e2:(IQ es).g (gP b,gP b)=b.2.1:=by show(yk es b.1).2.1=_;rw[D8 FO mb]
   rw[<-e1,<-e2];exact hQ
 refine aJq ⟨_,rfl,?_⟩;obtain⟨os,eo,po,so⟩:=Fx FO a1 a2;obtain⟨e,he⟩:=sortedHeap_at (out:=(arrOf st).map (·.2)) tU;have lo:=po.length_eq;have D0:H h'.objs.size=none:=(I.kept (t':=tk) hk').hok.fresh (ags _);have ndO:(os.map (·.1)).Nodup:=(po.map _).nodup_iff.mpr FO;have nE:∀{b o},H b=some o->∀e∈es,e.1≠b:=λ{b o} z e m=>aVo (aN5 (I.hok.lt z) (ab e m));have on:∀b o,H b=some o->upd (rM H es) h'.objs.size (.lst (os.map λe=>V.ref e.1)) b=some o:=λb o z=>by rw[Zc (Zf z D0),Sb (nE z)];exact z
 have Oc:∀b o,h'.get? b=some o->(sortedHeap (h'.push (seqObj "list" (es.map gP).toArray 0)) h'.objs.size (es.map gP) ((arrOf st).map (·.2))).get? b=some o:=λb o z=>by
  have lt:=aYz z;rw[sortedHeap_old (ar8 lt) (by rw[size_push'];exact a2T lt),asw _ _ _ (ar8 lt)];exact z
 have I2:Inv X pins σ (upd (rM H es) h'.objs.size (.lst (os.map λe=>V.ref e.1))) { s with heap:=sortedHeap (h'.push (seqObj "list" (es.map gP).toArray 0)) h'.objs.size (es.map gP) ((arrOf st).map (·.2)),toks:=tk }:=by
  generalize sortedHeap (h'.push (seqObj "list" (es.map gP).toArray 0)) h'.objs.size (es.map gP) ((arrOf st).map (·.2))=hF at *;refine I.more (λb u z=>Oc _ _ (hk' _ _ z)) on (λb u z n=>?_) λb o n z=>?_
  .rw [Zc (ar8 (aYz (hk' _ _ z))),Sb λe m=>aVo (aN5 (aYz z) (ab e m))];exact n
  by_cases c:b=h'.objs.size
  .subst c;rw[Za]at z;cases z;exact⟨by rw[axO,lo,le,a3Q];lia,os.map gP,e,ZjB os,by rw[<-eo];exact he⟩
  .rw [Zc c]at z;unfold rM at z;cases y:es.find? λe=>e.1 ==b with
   |none=>rw[y]at z;rw[show H b=some o from z]at n;cases n
   |some x=>
    rw[y]at z;have mx:=List.mem_of_find?_eq_some y;have ex:x.1=b:=by simpa using List.find?_some y
    cases z;obtain⟨t,t',g⟩:=pk x mx;rw[<-ex];exact⟨by show 2<=sizeLine;decide,[.int x.2.1 t,.int x.2.2 t'],.cons ⟨t,rfl⟩ (.cons ⟨t',rfl⟩ .nil),_,Oc _ _ g,rfl,_,rfl⟩
 refine⟨.ref h'.objs.size,_,I2,rfl,q _ os _ D0 on Za (λx m=>?_) (by rw[<-ev];exact po.map _) ?_⟩
 .have mE:=po.mem_iff.mp m;refine⟨?_,by rw[Zc (ar8 (OX x mE))];exact Zia FO mE⟩;cases c:H x.1 with
  |none=>rfl
  |some o=>exact absurd rfl (nE c x mE)
 .have FN:(os.map λe=>e.2.1).Nodup:=(po.map _).nodup_iff.mpr OP;have:=aB6.mp FN;exact(so.and this).imp λh=>by obtain⟨h1,h2⟩:=h;lia
end
end L2
set_option maxHeartbeats 4000000
namespace L2
open PySem PySem.Spec PyProof.Rows
section
variable{X:Cx}
def U9(K:W.Frag)(zs:List Int):TE:=λ_ H Q=>∀a,(∀H,aU K H a (zs.map V.int))->Q (.ref a) H
theorem Sa{K:W.Frag}{x:Str}{zs:List Int}{pos:Pos}(hK:X.K=K)(h:∃a,X.mg x=some (.ref a)/\∀H,aU K H a (zs.map V.int))(hg:Gl X x)(hd:(x ==("__debug__":Str))=false:=by decide):PE X (.Name x pos) (U9 K zs):=by
 obtain⟨a,e,q⟩:=h;intro pins s σ H Q I hw;exact J5 I hg e ⟨.ref a,H,I,rfl,hw a q⟩ hd
end
end L2
set_option maxHeartbeats 1000000
namespace L2
open PySem PySem.Spec PySem.Calls PyProof.Rows PySem.MeetsSeq PySem.W
def gB(s:Str):Int:=if s ="found" then 0 else if s ="in" then 1 else if s ="out" then 2 else 3
def qt:List V->Int
 | [.str n,.int k]=>gB n*1000000000+k*100000000
 | [.str n,.int k,.int b]=>gB n*1000000000+k*100000000+b
 |_=>0
def yg(e:List V):Prop:=∃(n:Str)(k b:Int),(0<=k/\k<=4)/\(0<=b/\b<=1000000)/\((n ="found" /\e=[.str n,.int k])\/((n ="in" \/n ="out" \/n ="words")/\e=[.str n,.int k,.int b]))
theorem ZjD{e f:List V}(h:yg e)(h':yg f)(q:qt e=qt f):e=f:=by
 obtain⟨n,k,b,k1,b1,x⟩:=h;obtain⟨n',k',b',Jg,qU,x'⟩:=h';have r:gB "found"=0/\gB "in"=1/\gB "out"=2/\gB "words"=3:=by decide +kernel
 have one:∀{n m:Str},(n ="found" \/n ="in" \/n ="out" \/n ="words")->(m ="found" \/m ="in" \/m ="out" \/m ="words")->gB n=gB m->n=m:=λ{n m} h h' z=>by
  rcases h with rfl|rfl|rfl|rfl <;> rcases h' with rfl|rfl|rfl|rfl <;> simp only[r]at z <;> first|rfl|lia
 have bd:∀m:Str,(m ="found" \/m ="in" \/m ="out" \/m ="words")->0<=gB m/\gB m<=3:=λm q=>by rcases q with rfl|rfl|rfl|rfl <;> simp only[r] <;> lia
 have nn:n ="found" \/n ="in" \/n ="out" \/n ="words":=x.imp a2H a2H;have zl:n' ="found" \/n' ="in" \/n' ="out" \/n' ="words":=x'.imp a2H a2H;have l1:=bd n nn;have l2:=bd n' zl;have nf:∀{m:Str},(m ="in" \/m ="out" \/m ="words")->m ≠ "found":= λq=>by rcases q with rfl|rfl|rfl <;> decide +kernel
 rcases x with⟨e1,rfl⟩|⟨e1,rfl⟩ <;> rcases x' with⟨e2,rfl⟩|⟨e2,rfl⟩ <;> simp only[qt]at q
 .have:=one nn zl (by lia);have hk:k=k':=by rw[this]at q;lia
  rw[this,hk]
 .exact absurd ((one nn zl (by lia)).symm.trans e1) (nf e2)
 .exact absurd ((one nn zl (by lia)).trans e2) (nf e1)
 .have:=one nn zl (by lia);have hk:k=k':=by rw[this]at q;lia
  have hb:b=b':=by rw[this]at q;lia
  rw[this,hk,hb]
theorem FJ{n m:Str}(h:n ="found" \/n ="in" \/n ="out" \/n ="words")(h':m ="found" \/m ="in" \/m ="out" \/m ="words"):decide (n.cps.toList<m.cps.toList)=decide (gB n<gB m):=by
 rcases h with rfl|rfl|rfl|rfl <;> rcases h' with rfl|rfl|rfl|rfl <;> decide +kernel
def rS(h:Heap)(v:Value)(e:List V):Prop:=∃(a:Addr)(us:List Value)(o:Obj)(n:Nat),v=.ref a/\h.get? a=some o/\o.cls=.type "tuple" /\o.data=.seq us.toArray n/\Vals e us
theorem rS.keeps{h h':Heap}{v:Value}{e:List V}(x:rS h v e)(k:∀b o,h.get? b=some o->h'.get? b=some o):rS h' v e:=by
 obtain⟨a,us,o,n,e1,e2,e3⟩:=x;exact⟨a,us,o,n,e1,k _ _ e2,e3⟩
section
variable{prog:Program}{w:World}{A:Around}{E:Value->Shared->Prop}{s:Shared}
theorem MJ{v v':Value}{e f:List V}{Q:Bool->Shared->Prop}(h1:rS s.heap v e)(h2:rS s.heap v' f)(he:yg e)(hf:yg f)(h:Q (decide (qt e<qt f)) s):wpAny (model prog w) A (keyLt' (tuples' true) v v') Q E s:=by
 obtain⟨a,us,o,m,rfl,ho,hc,hd,r⟩:=h1;obtain⟨a',us',o',m',rfl,ho',hc',hd',r'⟩:=h2;obtain⟨n,k,b,k1,b1,x⟩:=he;obtain⟨n',k',b',Jg,qU,x'⟩:=hf;have nn:n ="found" \/n ="in" \/n ="out" \/n ="words":=x.imp a2H a2H;have zl:n' ="found" \/n' ="in" \/n' ="out" \/n' ="words":=x'.imp a2H a2H;have rr:gB "found"=0/\gB "in"=1/\gB "out"=2/\gB "words"=3:=by decide +kernel
 have lt:=FJ nn zl;obtain⟨t,u,rest,zs,eu,ee,kb⟩:∃(t u:Tok)(rest:List Value)(zs:List V),us=.str n t :: .int k u ::rest/\e=.str n :: .int k ::zs/\((n ="found" /\rest=[]/\zs=[])\/(n ≠ "found" /\ ∃t3,rest=[.int b t3]/\zs=[.int b])):=by
  rcases x with⟨rfl,rfl⟩|⟨q,rfl⟩
  .cases r with|cons r1 r2=>cases r2 with|cons r2 r3=>cases r3;obtain⟨t,rfl⟩:=r1;obtain⟨u,rfl⟩:=r2;exact⟨t,u,[],[],rfl,rfl,.inl ⟨rfl,rfl,rfl⟩⟩
  .cases r with|cons r1 r2=>cases r2 with|cons r2 r3=>cases r3 with|cons r3 r4=>cases r4;obtain⟨t,rfl⟩:=r1;obtain⟨u,rfl⟩:=r2;obtain⟨t3,rfl⟩:=r3;exact⟨t,u,_,_,rfl,rfl,.inr ⟨by rcases q with rfl|rfl|rfl <;> decide +kernel,t3,rfl,rfl⟩⟩
 obtain⟨t',u',rest',zs',Xg,Xn,kb'⟩:∃(t u:Tok)(rest:List Value)(zs:List V),us'=.str n' t :: .int k' u ::rest/\f=.str n' :: .int k' ::zs/\((n' ="found" /\rest=[]/\zs=[])\/(n' ≠ "found" /\ ∃t3,rest=[.int b' t3]/\zs=[.int b'])):=by
  rcases x' with⟨rfl,rfl⟩|⟨q,rfl⟩
  .cases r' with|cons r1 r2=>cases r2 with|cons r2 r3=>cases r3;obtain⟨t,rfl⟩:=r1;obtain⟨u,rfl⟩:=r2;exact⟨t,u,[],[],rfl,rfl,.inl ⟨rfl,rfl,rfl⟩⟩
  .cases r' with|cons r1 r2=>cases r2 with|cons r2 r3=>cases r3 with|cons r3 r4=>cases r4;obtain⟨t,rfl⟩:=r1;obtain⟨u,rfl⟩:=r2;obtain⟨t3,rfl⟩:=r3;exact⟨t,u,_,_,rfl,rfl,.inr ⟨by rcases q with rfl|rfl|rfl <;> decide +kernel,t3,rfl,rfl⟩⟩
 subst eu Xg ee Xn;have bd:∀m:Str,(m ="found" \/m ="in" \/m ="out" \/m ="words")->0<=gB m/\gB m<=3:=λm q=>by rcases q with rfl|rfl|rfl|rfl <;> simp only[rr] <;> lia
 have g1:qt (.str n :: .int k ::zs)=gB n*1000000000+k*100000000+(if n ="found" then 0 else b):=by
  rcases kb with⟨q,_,rfl⟩|⟨q,_,_,rfl⟩
  .rw [aaU q];simp only[qt];lia
  .rw [afn q];rfl
 have g2:qt (.str n' :: .int k' ::zs')=gB n'*1000000000+k'*100000000+(if n' ="found" then 0 else b'):=by
  rcases kb' with⟨q,_,rfl⟩|⟨q,_,_,rfl⟩
  .rw [aaU q];simp only[qt];lia
  .rw [afn q];rfl
 rw[g1,g2]at h;obtain⟨l1,l2⟩:=bd n nn;obtain⟨l3,l4⟩:=bd n' zl;refine W.kat_lt ho hd ho' hd' (W.kat_cons ?_);refine SeqAt.EqAt.str_str n t n' t' prog w _ _ ?_;by_cases en:n=n'
 .subst en;rw[show(n ==n)=true from afE n];refine W.kat_yes (W.kat_cons ?_);obtain⟨c,e2,hc2⟩:=HT.iy A s k u k' u';refine e2 prog w _ _ ?_;cases c with
  |true=>
   have z:=hc2.mp rfl;subst z;rcases kb with⟨q,rfl,rfl⟩|⟨q,t3,rfl,rfl⟩
   .rcases kb' with⟨q',rfl,rfl⟩|⟨q',_⟩
    .simp only[aaU q]at h;rw[a4I (by lia)]at h;exact W.kat_yes (W.kat_nil h)
    .exact absurd q q'
   .rcases kb' with⟨q',_⟩|⟨q',t3',rfl,rfl⟩
    .exact absurd q' q
    .simp only[afn q]at h;refine W.kat_yes (W.kat_cons ?_);obtain⟨c3,e3,hc3⟩:=HT.iy A s b t3 b' t3';refine e3 prog w _ _ ?_;cases c3 with
     |true=>
      have z:=hc3.mp rfl;rw[a4I (by lia)]at h;exact W.kat_yes (W.kat_nil h)
     |false=>
      refine W.kat_no (W.kat_one _ _ (lt_int ?_));rw[show decide (b<b')=decide (gB n*1000000000+k*100000000+b<gB n*1000000000+k*100000000+b') from amk.mpr (by lia)];exact h
  |false=>
   have ne:k≠k':=λz=>absurd (hc2.mpr z) a7q;refine W.kat_no (W.kat_one _ _ (lt_int ?_));have e5:decide (k<k')=decide (gB n*1000000000+k*100000000+(if n ="found" then 0 else b)<gB n*1000000000+k'*100000000+(if n ="found" then 0 else b')):=amk.mpr (by split <;> lia);rw[<-e5]at h;exact h
 .rw [show(n ==n')=false from aul.mpr en];refine W.kat_no (oneLt_str ?_);have ne:gB n≠gB n':=λz=>by
   rcases nn with rfl|rfl|rfl|rfl <;> rcases zl with rfl|rfl|rfl|rfl <;> simp only[rr]at z <;> first|exact en rfl|lia
  have e5:decide (gB n<gB n')=decide (gB n*1000000000+k*100000000+(if n ="found" then 0 else b)<gB n'*1000000000+k'*100000000+(if n' ="found" then 0 else b')):=amk.mpr (by split <;> split <;> lia);rw[lt,e5];exact h
theorem Rv{h:Heap}{es:List (List V)}:∀{us:List Value},(∀v∈us,∃e,yg e/\rS h v e)->∃fs:List Value,W.KatTups h us fs/\fs.length=us.length/\∀v∈fs,∃(n:Str)(t:Tok),v=.str n t
 | [],_=>⟨[],W.KatTups.nil,rfl,λ_ h=>by cases h⟩
 |v ::us,hh=>by
  obtain⟨fs,t,lf,hf⟩:=Rv (es:=es) (us:=us) λx m=>hh x (arx _ m);obtain⟨e,⟨n,k,b,_,_,x⟩,a,vs,o,m,rfl,ho,hc,hd,r⟩:=hh v aTL;obtain⟨t0,rest,rfl⟩:∃t0 rest,vs=.str n t0 ::rest:=by
   rcases x with⟨_,rfl⟩|⟨_,rfl⟩ <;> (cases r with|cons r1 r2=>obtain⟨t,rfl⟩:=r1;exact⟨t,_,rfl⟩)
  refine⟨.str n t0 ::fs,W.KatTups.cons ho hc hd rfl t,by rw[a83,a83,lf],λv m=>?_⟩;rcases baL.mp m with rfl|m
  .exact ⟨_,_,rfl⟩
  .exact hf v m
end
def zH(H:Hp)(a:Addr):Int:=match H a with|some (.tup e)=>qt e|_=>0
theorem JK{H:Hp}{a:Addr}{e:List V}(h:H a=some (.tup e)):zH H a=qt e:=by unfold zH;rw[h]
def E5(H:Hp):aE.RR:=⟨λ_=>0,λp=>zH H (pV p.2)⟩
theorem Ru:∀{ts:List Addr}{us:List Value},Vals (ts.map V.ref) us->us=ts.map Value.ref
 | [],_,r=>by cases r;rfl
 |t ::ts,_,r=>by
  rw[a2a]at r;cases r with|cons a b=>cases a;rw[Ru b];rfl
theorem Zib(os:List Addr):Vals (os.map V.ref) (os.map Value.ref):=by
 induction os with
 |nil=>exact .nil
 |cons e r ih=>exact .cons rfl ih
theorem YB{H:Hp}{ts:List Addr}{xs:Array Keyed}(hp:xs.Perm (pairsOf (ts.map Value.ref)))(hi:xU.dJ (E5 H) xs 0 (pairsOf (ts.map Value.ref)).size) :
  ∃os:List Addr,(xs.map (·.2)).toList=os.map Value.ref/\os.Perm ts/\os.Pairwise λx y=>zH H x<=zH H y:=by
 have pm:=aUN.mp hp;rw[Kw,ahh]at pm;have mx:∀p∈xs.toList,∃e∈ts,p=(Value.ref e,Value.ref e):=λp h=>by
  obtain⟨e,m,q⟩:=awR.mp (pm.mem_iff.mp h);exact⟨e,m,q.symm⟩
 refine⟨xs.toList.map λp=>pV p.2,?_,?_,?_⟩
 .rw [Array.toList_map,ahh];refine aHS λp h=>?_;obtain⟨e,m,rfl⟩:=mx p h;rfl
 .have q:=pm.map λp=>pV p.2;rw[ahh]at q;exact q.trans (List.Perm.of_eq (by rw[show(λp:Keyed=>pV p.2) ∘ ((λv=>(v,v)) ∘ Value.ref)=(id:Addr->Addr) from rfl,map_id]))
 .rw [pairwise_iff_getElem];intro i j h1 h2 hij;have hi2:i<xs.size:=by simpa using h1
  have hj2:j<xs.size:=by simpa using h2
  have v:=hi i j (aL2 _) (aUL hij) (by rw[<-hp.size_eq];exact hj2);unfold aE.Kg at v;rw[alK hi2,alK hj2]at v;rw[getElem_map,getElem_map,aLY,aLY];exact v
inductive pX(K:W.Frag)(xs:List V)(H:Hp)(Q:VK):Prop
 |mk (p:Addr) (ts:List Addr):xs=[.ref p]->az K H p (ts.map V.ref)->ts.length<=1000->(∀t∈ts,∃e,yg e/\H t=some (.tup e))->(∀(D:Addr)(os:List Addr),H D=none->os.Perm ts->(os.Pairwise λx y=>zH H x<=zH H y)->Q (.ref D) (upd H D (.lst (os.map V.ref))))->pX K xs H Q
variable{K:W.Frag}{X:Cx}
theorem S6(hK:X.K=K):bG X (.builtin "sorted") (pX K):=by
 subst hK;intro pins s σ H xs us Q I r h;obtain⟨p,ts,rfl,hq,hz0,he,q⟩:=h;obtain⟨u,rfl,rx⟩:=vals1 r;cases rx;obtain⟨its,rv,pl,hz⟩:=I.list hq;obtain rfl:=Ru rv;have tk:∀t∈ts,∃e,yg e/\H t=some (.tup e)/\rS s.heap (.ref t) e:=λt m=>by
  obtain⟨e,h1,h2⟩:=he t m;obtain⟨i1,r1,⟨o,ho,hc,n,hd⟩,_⟩:=I.tuple (aU.of h2);exact⟨e,h1,h2,t,i1,o,n,rfl,ho,hc,hd,r1⟩
 refine ZjA (κ:=tuples' true) (ρ:=E5 H) pl.isList (by rw[axO];lia) (λtwo h' kp=>⟨λE Q hQ=>?_,λx mx y my E Q hQ=>?_⟩) λst hp hs=>?_
 .obtain ⟨fs,t,lf,hf⟩:=Rv (h:=h') (es:=[]) (us:=ts.map Value.ref) λv m=>by
   obtain⟨t,mt,rfl⟩:=awR.mp m;obtain⟨e,h1,_,h3⟩:=tk t mt;exact⟨e,h1,h3.keeps kp⟩
  refine W.kat_kind (T:=Value.type "str") (s:={ s with heap:=h' }) t (by lia) (λv m=>?_) rfl hQ;obtain⟨n,t,rfl⟩:=hf v m;exact .now
 .rw [Kw,ahh]at mx my;obtain⟨a,ma,rfl⟩:=awR.mp mx;obtain⟨b,mb,rfl⟩:=awR.mp my;obtain⟨e,h1,h2,h3⟩:=tk a ma;obtain⟨f,g1,g2,g3⟩:=tk b mb;refine MJ (h3.keeps kp) (g3.keeps kp) h1 g1 ?_;rw[<-JK h2,<-JK g2];exact hQ
 .obtain ⟨os,eo,po,so⟩:=YB hp hs;obtain⟨e,hE⟩:=sortedAll_at s.heap (ts.map Value.ref) ((arrOf st).map (·.2));have lo:=po.length_eq;refine⟨.ref (s.heap.objs.size+1),_,I.laid (a:=s.heap.objs.size+1) (t':=s.toks) (o:=.lst (os.map V.ref)) (λb o z=>sortedAll_old z) (apE _) ⟨by rw[axO,lo,a3Q];lia,os.map Value.ref,e,Zib os,?_⟩,rfl,q _ os (I.hok.fresh (apE _)) po so⟩;rw[<-eo];exact hE
end L2
set_option maxHeartbeats 4000000

namespace aj
open PySem L2
theorem sL(n:Nat)(h:n ≤99:=by decide):n ≤sizeLine:=a0n h (by rw[a3Q];decide)
variable{P:Program}{w:World}{K:W.Frag}{mg:Str->Option Value}{base:Heap}
def top(i:Nat):Stmt:=PySem.Challenge.pw_nearstairs_k40_hands_swapped.main.body.getD i (.Pass ⟨0,0,0,0⟩)
theorem Vj{N P:List Str}{sc:Scope}(a:sc.kind=.function:=by rfl)(b:sc.isCoroutine=false:=by rfl)(c:sc.isGenerator=false:=by rfl)(d:N.Nodup:=by decide +kernel)(e:N.take P.length=P:=by rfl)(f:∀x∈P,sc.names.lookup x=some .local\/sc.names.lookup x=some .cell:=by decide +kernel)(g:∀y∈sc.names,y.2≠.free:=by decide +kernel):fz N P sc:=⟨a,b,c,d,e,f,g⟩
open Lean in
local macro_rules|`(command|#reduce 1)=>do
 let mut r:Array (TSyntax `command):=#[]
 for x in "kB Dm rW pQ 1 99 2 size spot;kq Di rT pO 2 99 2 size board first;ku Dj rV pP 3 99 2 shelves board;eN qR qP nM 11 0 4 self shelves places rule;kD Dq rY pS 11 1 2 self board;gW z9 oM lN 11 2 2 self board out;kC Dp rX pR 11 3 2 self board mates;jo BA qQ nQ 11 4 2 self board;fW yy mF kg 11 5 1 self;jn By qO nL 11 7 2 self board;gV z4 oK lM 11 8 2 self board;cL ud iB gg 11 9 2 self board mates;aT iE cC fT 11 10 2 self mates;gS zW oH lH 13 0 2 self room_plan shelves places rule writing;jk Bw qM nJ 13 1 2 self board;dM vp jO iH 13 2 3 self board words;cY uR iZ gK 13 3 2 self board;cV uO iW gH 13 4 2 self board;jj Bv qL nI 13 5 3 self board words;cW uP iX gI 13 6 4 self board at word;cX uQ iY gJ 13 7 2 self board;dN vq jP iI 13 8 2 self board;d9 xY k7 jw 13 9 2 self board;fX yz mG kh 14 0 2 self size;bP iF iC gh 14 2 2 self board;gX Aa oO lO 14 3 3 self board words spot word;eS yd lB jB 14 4 1 self;bB oQ cB lJ 16 0 3 self size room_plans;gT zZ oJ lI 16 1 2 self k;dQ vA jS iL 16 2 2 self k;fU yw mC j8 16 3 3 self k board;eE x9 lg jy 16 4 1 self;fV yx mD j9 16 5 2 self k;dg uT i7 gO 16 6 1 self events;eG ya ly jz 16 7 3 self k board;cD sd gx fC 16 8 2 self k;eB xZ k8 jx 16 9 3 self k board;dP vz jR iK 16 10 4 self k board words;eL yc lA jA 16 11 3 self k board;jm Bx qN nK 16 12 4 self k board words;dO vt jQ iJ 16 13 3 self k spot;cZ uS i6 gM 16 14 4 self k spot word;fZ yD mJ ko 20 0 4 self size near far;fY yC mH kj 20 1 3 self hand spot;eT ye lC jC 20 2 4 self hand spot word board other near;dj uU i8 gQ 20 3 1 self hand board words fresh;ck qY fR d8 20 4 3 self hand board out;cF sj gA fE 20 5 2 self board out;bX qS eZ dS 20 6 3 self hand board near;cj qX fQ d7 20 7 3 self hand board words fresh;cE sf gy fD 20 8 2 self board words fresh hand words_near fresh_near;cM ue iD gj 20 9 3 self board words far;AD To Ia BK 22 99 2 _law_script _law_k _law_cell;wm NY C7 yI 23 99 2 _law_box_here _law_size _law_found _law_step _law_once _law_twice;pT Ih xW uw 24 99 2 _law_script _law_size _law_cells _law_k _law_cell;s_same Dk gw tF 25 99 2 _law_found _law_due;jh Bt qJ nF 26 99 1 _law_box_here _law_far _law_shelves _law_places _law_rule;rD Dl C8 yJ 27 99 1 _law_box_here _law_kind _law_size;cU mK mz j7 28 99 2 _law_box_here _law_size _law_many_here _law_way _law_begin _law_first _law_found _law_far _law_k _law_at;wk NX C6 yH 29 99 1 _law_box_here _law_way _law_number _law_turn;wA N3 Dg yO 30 99 3 _law_box_here _law_size _law_some _law_write _law_spot;wu N1 Dc yL 31 99 3 _law_box_here _law_few _law_most _law_great;wo NZ C9 yK 32 99 1 _law_box_here _law_size _law_kind _law_rooms;ji Bu qK nG 33 99 3 _law_box_here _law_size _law_some _law_hand;wz N2 Df yN 34 99 3 _law_pair_here _law_hand _law_deed_here;iM uN uK rC 35 99 1 _law_events;nS xX De yM 36 99 3 _law_one _law_other _law_some _law_k _law_j;nR zV zU we 37 99 1 _law_box_here _law_size _law_near _law_far _law_some _law_one _law_other _law_turn _law_hand _law_deed_here _law_found _law_due;gR Ig uc BJ 38 99 1 _law_script _law_cells".splitOn ";" do
  let z:=x.splitOn " "
  let f:=λi=>mkIdent (.mkSimple z[i]!)
  let d:=λi=>Syntax.mkNumLit z[i]!
  let [s,n,p,c]:=[f 0,f 1,f 2,f 3]|Macro.throwUnsupported
  let q:TSyntaxArray `term:=((z.drop 7).map quote).toArray
  let e<-if z[5]! =="99" then `(top $(d 4)) else `(Y0 (top $(d 4)) $(d 5))
  r:=r++#[<-`(command|abbrev $s:ident:Stmt:=$e),<-`(command|abbrev $n:ident:List Str:=[$q,*]),<-`(command|abbrev $p:ident:List Str:=($n).take $(d 6)),<-`(command|theorem $c:ident:fz $n $p (Zr $s):=Vj)]
 return mkNullNode r
#reduce 1
set_option hygiene false
open Lean in
local macro_rules|`(command|example:($t):=$v)=>do
 let `(by $q:tacticSeq):=v|Macro.throwUnsupported
 let `($o $a*):=t|Macro.throwUnsupported
 let u:=("cK - wm yI C7 _law_take _law_take 1 vI;EA - ku pP rV shelf_of shelf_of 1 sM;wJ Room kD pS rY has Room.has 1 Az K;wD Room jn nL qO need Room.need 2 vO K;tN Room gV lM oK mates Room.mates 2 sR K;AM Room cL gg iB leaver_for Room.leaver_for 3 pG K;Ak Room jo nQ qQ drop Room.drop 3 vY K;Gd Room eN nM qP __init__ Room.__init__ 1 vL K;Ej Room gW lN oM bring Room.bring 4 sZ K;Aj Store jj nI qL lay Store.lay 1 Ay K;Ah - kq pO rT spots_of spots_of 1 sJ;Ez Memory bP gh iC words_of Memory.words_of 2 pF K;wF Beside fV j9 mD store Steps.store 1 pA K;tP Store cV gH iW words_of Store.words_of 3 mQ K;Gk Room kC pR rX use Room.use 3 Av K;Et Store dM iH jO take_in Store.take_in 5 o9 K;Ey Store cY gK iZ give_out Store.give_out 4 mV K;EF Memory gX lO oO lay Memory.lay 2 vQ K;tK - kB pQ rW board_of board_of 1 tD;Ex Store cW gI iX lay_word Store.lay_word 1 mT K;Gh Store gS lH oH __init__ Store.__init__ 3 sI K;Gj Memory fX kh mG __init__ Memory.__init__ 1 Ax K;vd Beside jm nK qN put Steps.put 3 Aw K;AL Store dN iI jP freshen Store.freshen 1 mW K;rE Beside eL jA lA go_out Steps.go_out 5 sU K;wH Beside cM gj iD put_down Beside.put_down 4 sV K;Ew Store cX gJ iY is_fresh Store.is_fresh 1 mU K;Er Store d9 jw k7 settle Store.settle 1 pB K;tL Store jk nJ qM has Store.has 2 vK K;yV Beside cD fC gx tell_found Steps.tell_found 1 vH K;AU Beside eB jx k8 use_in Steps.use_in 4 sF K;AR Beside eG jz ly leaver Steps.leaver 4 vU K;Fi Beside cE fD gy leave_all Beside.leave_all 6 pI K;AK Beside dP iK jR come_in Steps.come_in 6 pL K;tO Beside fU j8 mC words Steps.words 4 pq K;Fg Beside cF fE gA fetch_far Beside.fetch_far 7 vV K;Fj Beside bX dS eZ settle_near Beside.settle_near 5 mR K;AO Beside cj d7 fQ leave_near Beside.leave_near 6 pH K;AN Beside ck d8 fR fetch_near Beside.fetch_near 8 vW K;Es Beside dO iJ jQ word_in Steps.word_in 4 o8 K;wG Beside dg gO i7 happened Steps.happened 1 j6 K;Eu Beside cZ gM i6 put_word Steps.put_word 2 mS K;En Room fW kg mF boards Room.boards 1 AB K;tM Beside gT lI oJ lies Steps.lies 2 vS K;Ai - jh nF qJ _law_room_plan _law_room_plan 2 vM;Gb - wk yH C6 _law_word _law_word 2 sE;Ga - rD yJ C8 _law_plan _law_plan 3 sP K;F8 - wA yO Dg _law_deed _law_deed 3 sW;Em Beside fY kj mH read Beside.read 15 sO K;Ep Beside eT jC lC write Beside.write 15 o7 K;Eo Memory eS jB lB pairs Memory.pairs 1 sQ K;yU Beside dQ iL jS changed Steps.changed 2 mZ K;Dy Beside eE jy lg memory Steps.memory 2 pC K;F7 - wo yK C9 _law_pair _law_pair 4 vN;El - cU j7 mz _law_some_boards _law_some_boards 2 pM;EB - ji nG qK _law_hand_deed _law_hand_deed 4 sS;F6 - wu yL Dc _law_many _law_many 2 vP;DO Beside fZ ko mJ __init__ Beside.__init__ 6 wc K;DN - wz yN Df _law_done _law_done 16 vZ K;Dz - iM rC uK _law_swapped _law_swapped 1 vJ K;DM - nS yM De _law_like _law_like 16 vR K;DE Beside dj gQ i8 emptied Beside.emptied 7 vX K;Gn - AD BK Ia _law_box _law_box 1 AA K;Gi - pT uw xW _law_folded _law_folded 1 pK K;Gg - nR we zU _law_right _law_right 18 sN K;kJ - bB lJ cB __init__ Steps.__init__ 5 jV K;zh - gR BJ uc law law 19 pJ K".splitOn ";").map (·.splitOn " ")
 let f:=λx:Syntax=>(u.find? λr=>r.head! ==toString x.getId).getD []
 let i:=λs=>mkIdent (.mkSimple s)
 let g:=λ(z:List String)=>show MacroM Term from if z.length=10 then `($(i z[8]!) K) else pure (i z[8]!)
 let b<-(a.extract 1 a.size).mapM λ(x:TSyntax `term)=>do
  let y:=#[(⟨x.raw⟩:Ident)]
  match x.raw.getId,f x with
  |`EE,_=>`(Parser.Term.bracketedBinderF|(EE:uV P w K mg base (af K "Room") "going" 2 cC (jW K)))
  |`ED,_=>`(Parser.Term.bracketedBinderF|(ED:Du P w K mg base "Steps" "__init__" 5 cB (jV K)))
  |`Gf,_=>`(Parser.Term.bracketedBinderF|(Gf:∀n,Def P w K mg base "_law_same" (n+1) gw (gG n)))
  |_,[]=>Macro.throwUnsupported
  |_,z=>
   let c:=Syntax.mkStrLit z[1]!
   let n:=Syntax.mkStrLit z[5]!
   let l:=Syntax.mkNumLit z[7]!
   let p:=i z[4]!
   let s<-g z
   if z[1]! =="-" then `(Parser.Term.bracketedBinderF|($y*:Def P w K mg base $n $l $p $s)) else if z[5]! =="__init__" then `(Parser.Term.bracketedBinderF|($y*:Dr P w K mg base (af K $c) $c $l $p $s)) else `(Parser.Term.bracketedBinderF|($y*:uV P w K mg base (af K $c) $n $l $p $s))
 let z:=f a[0]!
 let [s,c,p]:=[i z[2]!,i z[3]!,i z[4]!]|Macro.throwUnsupported
 let [n,m]:=[Syntax.mkStrLit z[5]!,Syntax.mkStrLit z[6]!]|Macro.throwUnsupported
 let l:=Syntax.mkNumLit z[7]!
 let h<-g z
 `(command|theorem $(⟨o⟩) (F:uf K $n $m $s f fd)(T:Txt K mg)$b:bracketedBinder*:cJ P w K mg base oR $l f fd $p ($h):=by
   refine F.ok $c (λvs H Q E h=>by first|(cases h;subst_vars;rfl)|repeat' first|(obtain⟨rfl,_⟩:=h;rfl)|obtain⟨_,h⟩:=h) λcdv A outer st H vs Q E hr h=>?_;have nd:=($c).nd;have hu:=A5 hr
   ($q))
structure Txt(K:W.Frag)(mg:Str->Option Value):Prop where
 Jk:mg "abs"=none
 DL:mg "all"=none
 LX:mg "any"=none
 Jl:mg "bool"=none
 LY:mg "divmod"=none
 LS:mg "enumerate"=none
 DK:mg "int"=none
 ve:mg "isinstance"=none
 zv:mg "len"=none
 vC:mg "list"=none
 Jj:mg "max"=none
 LW:mg "min"=none
 vB:mg "range"=none
 Al:mg "sorted"=none
 Gm:mg "str"=none
 Ge:mg "tuple"=none
 Ji:mg "zip"=none
 uh:∃t,mg "FAR"=some (.int 2 t)
 Jo:∃a,mg "HANDS"=some (.ref a)/\∀H,aU K H a (([0,1]:List Int).map V.int)
 fj:rj K (af K "Room")
 O3:aQ K (af K "Room") "places"
 LR:aQ K (af K "Room") "rule"
 O4:aQ K (af K "Room") "shelves"
 O6:aQ K (af K "Room") "standing"
 BE:aQ K (af K "Room") "uses"
 dH:rj K (af K "Store")
 Dw:aQ K (af K "Store") "fresh"
 EC:aQ K (af K "Store") "held"
 LU:aQ K (af K "Store") "late"
 AQ:aQ K (af K "Store") "room"
 wI:rj K (af K "Memory")
 Ek:aQ K (af K "Memory") "kept"
 LV:aQ K (af K "Memory") "size"
 aM:rj K (af K "Beside")
 IB:aQ K (af K "Beside") "bottom"
 BU:aQ K (af K "Beside") "events"
 yT:aQ K (af K "Beside") "last"
 BF:aQ K (af K "Beside") "size"
 pZ:aQ K (af K "Beside") "stores"
structure aF(H:Hp)(b:Addr)(a q c:Int):Prop where
 at':H b=some (.lst [.int a,.int q,.int c])
 a0:0<=a
 q0:0<=q
 q1:q<2147483647
 c0:0<=c
theorem aF.sb{H H':Hp}{b x:Addr}{a q c:Int}(B:aF H b a q c)(s:SB x H H')(n:b≠x):aF H' b a q c:=⟨s _ _ n B.at',B.a0,B.q0,B.q1,B.c0⟩
theorem aF.same{H H':Hp}{b:Addr}{a q c:Int}(B:aF H b a q c)(s:aB H H'):aF H' b a q c:=⟨s _ _ B.at',B.a0,B.q0,B.q1,B.c0⟩
inductive vI(vs:List V)(H:Hp)(Q:VK)(E:XK):Prop
 |mk (b:Addr) (a q c n:Int):vs=[.ref b,.int n]->aF H b a q c->c<1099511627776->0<n->n<1073741824->(∀(r a' c':Int)(H':Hp),0<=r->r<n->aF H' b a' q c'->c'<=c+1->SB b H H'->Q (.int r) H')->vI vs H Q E
theorem CD(a:Int){b:Int}(h:0<b):0<=a%b:=baD a (by lia)
theorem CC(a:Int){b:Int}(h:0<b):a%b<b:=a5F a h
example:(zc cK):=by
 obtain ⟨b,a,q,c,n,rfl,B,hc,hn0,hn1,k⟩:=h;refine⟨_,(Zd (aI (ZB FD (av (Zn (K:=K) rfl) (pv 0) Zi (λ_ _=>rfl)) Zi (Zx _)) (Zd (qV (Zp ZdU rfl T.LY ZdX (pc (av (Zn (K:=K) rfl) (pv 0) Zi (λ_ _=>rfl)) (pc (pv 1) Zb))) (ZQ (K:=K) (n:=2) rfl rfl (Zq (CT (pv 0) Zi CU) (Zq (cu 2 nd) ZO))))
   (Zh (Zs (pv 2)))) Zt)
   (Zd (qV (ak ZH (av (Zn (K:=K) rfl) (pv 0) Zi (λ_ _=>rfl)) Zi) (CT (pv 0) Zi CU))
   (Zd (dw 3 nd (ak ZH Zi (ak uI (av (Zn (K:=K) rfl) (pv 0) Zi (λ_ _=>rfl)) (av (Zn (K:=K) rfl) (pv 0) Zi (λ_ _=>rfl)))))
   (Zd (dw 4 nd (ak uH (ak uI (ak ZH (av (Zn (K:=K) rfl) (pv 0) Zi (λ_ _=>rfl)) (ak uI Zi (av (Zn (K:=K) rfl) (pv 0) Zi (λ_ _=>rfl)))) (pv 3)) Zi))
   (Zd (dw 5 nd (ak uH (ak ZH (ak uI (pv 4) (ak ZH (ak uH (pv 4) Zi) Zi)) (av (Zn (K:=K) rfl) (pv 0) Zi (λ_ _=>rfl))) Zi))
   (Zh (Zs (ak uH (ak Ec (ak uH (ak uI (pv 5) (ak ZH (ak uH (pv 5) Zi) Zi)) Zi) Zi) (pv 1))))))))),?_⟩
 have hb:=B.at';have hc0:=B.c0;have Ph:=B.q0;have hq1:=B.q1;refine⟨_,rfl,b,_,_,_,rfl,rfl,az.of hb,fO,_,_,rfl,rfl,_,rfl,?_⟩;refine xS (λha=>?_) (λha=>?_)
 .refine ⟨_,rfl,b,_,_,_,rfl,rfl,az.of hb,fO,_,rfl,_,_,rfl,⟨hn0,hn1⟩,λp hp=>?_⟩;have WR:upd H p (.tup [.int (a/n),.int (a%n)]) b=some (.lst [.int a,.int q,.int c]):=by rw[Zc (Zf hb hp)];exact hb
  refine⟨p,_,rfl,aU.of Za,rfl,_,_,rfl,⟨_,rfl,b,_,_,0,rfl,rfl,WR,rfl,?_⟩⟩;refine⟨_,_,rfl,rfl,_,rfl,?_⟩;exact k _ (a/n) c _ (CD _ hn0) (CC _ hn0) ⟨Za,Int.ediv_nonneg B.a0 (by lia),Ph,hq1,hc0⟩ (by lia) ((Ze hp _).sb b|>.trans (DY b _ _))
 .refine ⟨_,rfl,b,_,_,_,rfl,rfl,az.of hb,mw,_,_,rfl,rfl,_,rfl,b,_,_,2,rfl,rfl,hb,rfl,?_⟩;have hb1:upd H b (.lst [.int a,.int q,.int (c+1)]) b=some (.lst [.int a,.int q,.int (c+1)]):=Za;have i0:az K (upd H b (.lst [.int a,.int q,.int (c+1)])) b [.int a,.int q,.int (c+1)]:=az.of hb1;refine⟨_,rfl,b,_,_,_,rfl,rfl,i0,mw,_,rfl,b,_,_,_,rfl,rfl,i0,mw,_,_,rfl,rfl,.inl ⟨by lia,by lia⟩,_,_,rfl,rfl,?_⟩;refine⟨_,rfl,b,_,_,_,rfl,rfl,i0,fN,_,rfl,b,_,_,_,rfl,rfl,i0,mw,_,_,rfl,rfl,.inl ⟨by decide,by decide⟩,_,_,rfl,rfl,_,rfl,_,_,rfl,rfl,.inl ⟨by lia,by lia⟩,_,_,rfl,rfl,(by show(0:Int)<_;decide),?_⟩;generalize Pk:(q+39373*(c+1))*(69621+(c+1)*(c+1))%2147483587=on;have on0:0<=on:=by rw[<-Pk];exact CD _ (by decide)
  have on1:on<2147483587:=by rw[<-Pk];exact CC _ (by decide)
  refine⟨_,rfl,_,rfl,_,_,rfl,rfl,(by show(0:Int)<_;decide),_,_,rfl,rfl,_,_,rfl,rfl,.inl ⟨by lia,by lia⟩,_,rfl,b,_,_,_,rfl,rfl,i0,mw,_,_,rfl,rfl,_,_,rfl,rfl,(by show(0:Int)<_;decide),?_⟩;generalize htw:(on*(on%30011+5)+(c+1))%2147483563=tw;have tw0:0<=tw:=by rw[<-htw];exact CD _ (by decide)
  have tw1:tw<2147483563:=by rw[<-htw];exact CC _ (by decide)
  refine⟨_,rfl,_,rfl,_,_,rfl,rfl,(by show(0:Int)<_;decide),_,_,rfl,rfl,_,_,rfl,rfl,.inl ⟨by lia,by lia⟩,_,_,rfl,rfl,(by show(0:Int)<_;decide),_,_,rfl,rfl,⟨by decide,by decide⟩,_,rfl,_,_,rfl,rfl,hn0,?_⟩;exact k _ a (c+1) _ (CD _ hn0) (CC _ hn0) ⟨hb1,B.a0,Ph,hq1,by lia⟩ (by lia) (DY b _ _)
inductive AA(K:W.Frag)(vs:List V)(H:Hp)(Q:VK)(E:XK):Prop
 |mk (l:Addr) (ns:List Int) (k:Int):vs=[.ref l,.int k]->az K H l (ns.map V.int)->0<=k->k<1000000->(∀(r:Addr)(a q:Int)(H':Hp),H r=none->aB H H'->aF H' r a q 0->Q (.ref r) H')->AA K vs H Q E
theorem A2(b:Bool): -(2 ^ 64)<(if b then 1 else 0:Int)/\(if b then 1 else 0:Int)<2 ^ 64:=by cases b <;> decide
theorem R9{ns:List Int}{k:Int}(h0:0<=k)(h:k<(ns.length:Int)):∃v:Int,fP (ns.map V.int) k=some (.int v):=by
 have hk:k.toNat<ns.length:=by lia
 have q:fP (ns.map V.int) ((k.toNat:Nat):Int)=some (.int ns[k.toNat]):=xT (by rw[acC,aun hk] <;> rfl);rw[show((k.toNat:Nat):Int)=k by lia]at q;exact⟨_,q⟩
theorem YA(i:Int):0<=(if i<0 then -i else i):=by split <;> lia
theorem Rt(i:Int)(b:Bool):0<=(if i<0 then -i else i)*(if b then 1 else 0:Int):=Int.mul_nonneg (YA i) (by cases b <;> decide)
example:(BY Gn):=by
 obtain ⟨l,ns,k,rfl,hS,hk0,hk1,kk⟩:=h;refine⟨_,(Zd (dw 2 nd (CV (ZB qd (pv 1) (Zp (ZE (K:=K) rfl) rfl T.zv aOy (pc (pv 0) Zb)) (Zx _)) (av (Zn (K:=K) rfl) (pv 0) (pv 1) (λ_ _=>rfl)) Zi))
   (Zh (Zs (qE (pc (ak uI (Zp RP rfl T.Jk RK (pc (pv 2) Zb)) (ZS NR rfl T.DK Ku (pc (vm FE (Zp RP rfl T.Jk RK (pc (pv 2) Zb)) (ak M4 Zi Zi) (Zx _)) Zb))) (pc (ak uH (ak uI (ak ZH (ak ZH (ak uH (pv 2) Zi) (ak uI Zi (pv 1))) Zi) Zi) Zi) (pc Zi Zb))))))),?_⟩
 refine⟨_,rfl,_,rfl,l,_,rfl,.inl hS,_,_,rfl,rfl,_,rfl,?_⟩;refine xS (λc=>?_) (λc=>?_)
 .rw [axO]at c;obtain⟨v,hv⟩:=R9 hk0 c;refine⟨_,rfl,_,rfl,l,_,_,_,rfl,rfl,hS,hv,?_⟩;refine⟨_,rfl,_,rfl,_,rfl,_,rfl,_,_,rfl,rfl,⟨by decide,by decide,by decide⟩,_,_,rfl,rfl,.inr ⟨_,rfl,_,_,rfl,rfl,.inr (A2 _),?_⟩⟩;refine⟨_,rfl,_,_,rfl,rfl,(by show(0:Int)<_;decide),_,rfl,_,_,rfl,rfl,.inl ⟨by decide,by decide⟩,_,_,rfl,rfl,_,_,rfl,rfl,_,_,rfl,rfl,.inr ⟨by decide,by decide⟩,_,_,rfl,rfl,(by show(0:Int)<_;decide),(sL 3),λr hr=>?_⟩;exact kk r _ _ _ hr (Ze hr _) ⟨Za,Rt _ _,CD _ (by decide),CC _ (by decide),aHM _⟩
 .refine ⟨_,rfl,_,rfl,_,rfl,_,rfl,_,_,rfl,rfl,⟨by decide,by decide,by decide⟩,_,_,rfl,rfl,.inr ⟨_,rfl,_,_,rfl,rfl,.inr (A2 _),?_⟩⟩;refine⟨_,rfl,_,_,rfl,rfl,(by show(0:Int)<_;decide),_,rfl,_,_,rfl,rfl,.inl ⟨by decide,by decide⟩,_,_,rfl,rfl,_,_,rfl,rfl,_,_,rfl,rfl,.inr ⟨by decide,by decide⟩,_,_,rfl,rfl,(by show(0:Int)<_;decide),(sL 3),λr hr=>?_⟩;exact kk r _ _ _ hr (Ze hr _) ⟨Za,Rt _ _,CD _ (by decide),CC _ (by decide),aHM _⟩
inductive pK(K:W.Frag)(vs:List V)(H:Hp)(Q:VK)(E:XK):Prop
 |mk (a:Addr) (ns:List Int) (n:Nat):vs=[.ref a,.int (n:Int)]->az K H a (ns.map V.int)->ns.length<=63->0<n->n<=63->(∀(r:Addr)(ms:List Int)(H':Hp),H r=none->aB H H'->H' r=some (.lst (ms.map V.int))->ms.length=min n ns.length->Q (.ref r) H')->pK K vs H Q E
theorem Rr(ns:List Int)(lo hi:Option Int):cA (ns.map V.int) lo hi=((ns.drop (HT.bC ns.length 0 lo)).take (HT.bC ns.length ns.length hi-HT.bC ns.length 0 lo)).map V.int:=by
 unfold cA;rw[axO,<-List.map_drop,<-map_take]
theorem Kc(ms:List Int)(j:Nat)(v:Int):(ms.map V.int).set j (.int v)=(ms.set j v).map V.int:=by rw[map_set]
theorem MY{n:Nat}{i:Int}(h0:0<=i)(h:i<n):vg n i=some i.toNat:=by unfold vg;rw[aaU h0,aaU h]
theorem Yz{ms:List Int}{i:Nat}{x:V}(h:(ms.map V.int)[i]?=some x):∃z,x=V.int z/\i<ms.length:=by
 rw[acC]at h;cases e:ms[i]? with
 |none=>rw[e]at h;cases h
 |some z=>rw[e]at h;exact⟨z,(a9h h).symm,(aB9.mp e).1⟩
example:(uA Gi):=by
 obtain ⟨a,ns,n,rfl,hS,h63,hn0,hn1,k⟩:=h;refine⟨_,(Zd (dw 2 nd (ZS (Kq (K:=K) rfl) rfl T.vC ZM (pc (HS (Kl (K:=K) rfl) (pv 0) J3 (Eb (pv 1))) Zb)))
   (Zd (yu aUe rfl (YZ rfl T.LS (pc (HS (Kl (K:=K) rfl) (pv 0) (Eb (pv 1)) (Eb Zi)) Zb)) (ZQ (K:=K) (n:=2) rfl rfl (Zq (cu 3 nd) (Zq (cu 4 nd) ZO))) (Zh (qV (ak ZH (av (Zn (K:=K) rfl) (pv 2) (ak uH (pv 3) (pv 1)) (λ_ _=>rfl)) (ak uI (pv 4) (ak ZH (pv 3) Zi))) (CT (pv 2) (ak uH (pv 3) (pv 1)) CU))))
   (Zh (Zs (pv 2))))),?_⟩
 refine⟨_,rfl,_,rfl,_,rfl,a,_,rfl,hS,λp hp=>?_⟩;have s1:=Ze hp (.lst (cA (ns.map V.int) none (some (n:Int))));refine⟨p,_,rfl,.inl (az.of Za),λr hr1=>?_⟩;have s2:=s1.trans (Ze hr1 (.lst (cA (ns.map V.int) none (some (n:Int)))));have Pg:H r=none:=s1.free hr1;rw[Rr]at *;generalize hms:(ns.drop (HT.bC ns.length 0 none)).take (HT.bC ns.length ns.length (some (n:Int))-HT.bC ns.length 0 none)=ms at *;have Wd:ms.length=min n ns.length:=by
  rw[<-hms,HT.pU,HT.nT,bbw,bbY];lia
 generalize WZ:upd (upd H p (.lst (ms.map V.int))) r (.lst (ms.map V.int))=H2 at *;have PD:H2 r=some (.lst (ms.map V.int)):=by rw[<-WZ];exact Za
 refine⟨_,rfl,_,rfl,_,rfl,_,rfl,a,_,rfl,s2.seq hS,λt ht=>?_⟩;rw[Rr];generalize hws:(ns.drop (HT.bC ns.length 0 (some (n:Int)))).take (HT.bC ns.length ns.length (some 63)-HT.bC ns.length 0 (some (n:Int)))=ws;have w9:0<ws.length->n<ns.length:=λh=>by
  rw[<-hws,bbw,bbY,HT.nT]at h;lia
 have V8:ws.length<=63:=by rw[<-hws,bbw,bbY];lia
 have s3:=s2.trans (Ze ht (.lst (ws.map V.int)));have OH:r≠t:=Zf PD ht;refine⟨t,rfl,⟨_,az.of Za⟩,ZhK (K:=K) (a:=t) (xs:=ws.map V.int) (λi σ H'=>∃(ms':List Int)(v3 v4:Option V),σ=[some (.ref a),some (.int n),some (.ref r),v3,v4]/\ms'.length=min n ns.length/\H' r=some (.lst (ms'.map V.int))/\H' t=some (.lst (ws.map V.int))/\aB H H')
  ⟨ms,none,none,rfl,Wd,by rw[Zc OH];exact PD,Za,s3⟩ (λi σ H' _ ⟨_,_,_,_,_,_,q,_⟩=>az.of q) ?_ ?_⟩
 .rintro i x u σ H' hi ⟨ms',v3,v4,rfl,lm,h1,h2,s4⟩ hu;obtain⟨z,rfl,hlt⟩:=Yz hi;have hnl:=w9 (by lia);have s5:=Ze hu (.tup [.int (i:Int),.int z]);refine⟨u,_,rfl,aU.of Za,rfl,_,_,rfl,_,_,rfl,rfl,?_⟩;have m0:0<=(i:Int)%(n:Int):=CD _ (by lia);have m1:(i:Int)%(n:Int)<(n:Int):=CC _ (by lia);obtain⟨v,hv⟩:=R9 (ns:=ms') m0 (by lia);refine⟨_,rfl,_,rfl,_,rfl,_,_,rfl,rfl,(by show(0:Int)<_;lia),r,_,_,_,rfl,rfl,az.of (s5 _ _ h1),hv,?_⟩;refine⟨_,rfl,_,rfl,_,_,rfl,rfl,_,_,rfl,rfl,.inr ⟨by lia,by lia⟩,_,_,rfl,rfl,?_⟩;refine⟨_,rfl,_,rfl,_,rfl,_,_,rfl,rfl,(by show(0:Int)<_;lia),r,_,_,((i:Int)%(n:Int)).toNat,rfl,rfl,s5 _ _ h1,MY m0 (by rw[axO];lia),?_⟩;refine⟨ms'.set ((i:Int)%(n:Int)).toNat (v+z*((i:Int)+2)),_,_,rfl,by rw[ary];exact lm,by rw[Za,Kc],?_,?_⟩
  .rw [Zc (ac5 OH)];exact s5 _ _ h2
  .intro b o e;rw[Zc (Zf e Pg)];exact s5 _ _ (s4 _ _ e)
 .rintro σ H' ⟨ms',v3,v4,rfl,lm,h1,h2,s4⟩;exact⟨_,rfl,k r ms' H' Pg s4 h1 lm⟩
theorem hide{t u:TS}{D:Ends}{σ:St}{H:Hp}(h:∀u',u'=u->vF t u' D σ H):vF t u D σ H:=h u rfl
theorem JC{te:TE}{g:TG}{u:TS}{D:Ends}{σ:St}{H:Hp}(Post:V->Hp->Prop)(h1:∀Q':VK,(∀v H1,Post v H1->Q' v H1)->te σ H Q')(h2:∀v H1,Post v H1->g v σ H1 (u D)):vF (ur te g) u D σ H:=h1 _ h2
theorem CJ{ts u:TS}{D:Ends}{σ:St}{H:Hp}(Post:St->Hp->Prop)(h1:∀D':Ends,D'.rt=D.rt->(∀ σ1 H1,Post σ1 H1->D'.nx σ1 H1)->ts D' σ H)(h2:∀ σ1 H1,Post σ1 H1->u D σ1 H1):vF ts u D σ H:=h1 _ rfl h2
theorem G0{tt:TT}{ta tb:TS}{D:Ends}{σ:St}{H:Hp}(Post:Bool->Hp->Prop)(h1:∀Q':Bool->Hp->Prop,(∀v H1,Post v H1->Q' v H1)->tt σ H Q')(h2:∀c H1,Post c H1->if c=true then ta D σ H1 else tb D σ H1):EM tt ta tb D σ H:=h1 _ h2
theorem MF{t u:TT}{σ:St}{H:Hp}{Q:Bool->Hp->Prop}(Post:Bool->Hp->Prop)(h1:∀Q':Bool->Hp->Prop,(∀v H1,Post v H1->Q' v H1)->t σ H Q')(h2:∀c H1,Post c H1->if c=true then Q true H1 else u σ H1 Q):Og t u σ H Q:=h1 _ h2
theorem Ka{b l:Addr}{H G:Hp}{xs:List V}(s:SB b H G)(hb:G b=some (.lst xs))(hl:G l=none):H l=none:=by
 cases e:H l with
 |none=>rfl
 |some o=>
  by_cases h:l=b
  .rw [h,hb]at hl;cases hl
  .rw [s _ _ h e]at hl;cases hl
theorem MX{ns:List Int}{k:Int}(h0:0<=k)(h:k<(ns.length:Int)):∃v:Int,fP (ns.map V.int) k=some (.int v)/\v∈ns:=by
 have hk:k.toNat<ns.length:=by lia
 have q:fP (ns.map V.int) ((k.toNat:Nat):Int)=some (.int ns[k.toNat]):=xT (by rw[acC,aun hk] <;> rfl);rw[show((k.toNat:Nat):Int)=k by lia]at q;exact⟨_,q,aCm hk⟩
theorem SM(ns:List Int):(ns.map V.int).all cH=true:=by
 rw[aD8];intro x hx;obtain⟨n,_,rfl⟩:=awR.mp hx;rfl
theorem Zic{n:Nat}(h:0<n):vg n (-1)=some (n-1):=by
 unfold vg;rw[afn (by decide),aaU (by lia)];congr 1
 lia
theorem Nb{ns:List Int}{j:Nat}{v x:Int}(h:x∈ns.set j v):x∈ns\/x=v:=by
 rcases a1n h with h|h
 .exact .inl h
 .exact .inr h
theorem Rq{i j:Int}{A B:Prop}(h1:i=j->A)(h2:¬i=j->B):if decide (V.int i=V.int j)=true then A else B:=
 xS (λe=>h1 (by injection e)) (λe=>h2 λz=>e (by rw[z]))
theorem cO{b:Bool}{A B:Prop}(h:b=false)(hB:B):if b=true then A else B:=by subst h;rw[afn a7q];exact hB
theorem fK{b:Bool}{A B:Prop}(h:b=true)(hA:A):if b=true then A else B:=by subst h;rw[aaU rfl];exact hA
theorem NB{α:Type}{xs:List α}{i:Int}(h0:0<=i)(h1:i<(xs.length:Int)):∃v,fP xs i=some v/\v∈xs:=by
 have hk:i.toNat<xs.length:=by lia
 have q:fP xs ((i.toNat:Nat):Int)=some xs[i.toNat]:=xT (aun hk);rw[show((i.toNat:Nat):Int)=i by lia]at q;exact⟨_,q,aCm hk⟩
theorem QC(x y:Int)(k:Bool):∃n:Int,fP [V.int x,V.int y] (if k=true then 1 else 0)=some (.int n)/\(n=x\/n=y):=by
 cases k with
 |true=>exact⟨y,fN,.inr rfl⟩
 |false=>exact⟨x,fO,.inl rfl⟩
theorem Ft(x y r:Int)(h0:0<=r)(h1:r<2):∃n:Int,fP [V.int x,V.int y] r=some (.int n)/\(n=x\/n=y):=by
 have h:r=0\/r=1:=by lia
 rcases h with rfl|rfl
 .exact ⟨x,fO,.inl rfl⟩
 .exact ⟨y,fN,.inr rfl⟩
theorem Yy(r:Int)(h0:0<=r)(h1:r<4):∃n:Int,fP [V.int 1,V.int 1,V.int 12,V.int 24] r=some (.int n)/\(n=1\/n=12\/n=24):=by
 obtain⟨x,hx,m⟩:=NB (xs:=[V.int 1,V.int 1,V.int 12,V.int 24]) h0 (by show r<((4:Nat):Int);lia);simp only[a9e,a7K,a9R]at m;rcases m with rfl|rfl|rfl|rfl
 .exact ⟨_,hx,.inl rfl⟩
 .exact ⟨_,hx,.inl rfl⟩
 .exact ⟨_,hx,.inr (.inl rfl)⟩
 .exact ⟨_,hx,.inr (.inr rfl)⟩
theorem Fq(r:Int)(h0:0<=r)(h1:r<5):∃v,fP [V.int 1,V.int 1,V.int 2,V.int 3,V.int 4] r=some (.int v)/\1<=v/\v<=64:=by
 obtain⟨x,hx,m⟩:=NB (xs:=[V.int 1,V.int 1,V.int 2,V.int 3,V.int 4]) h0 (by show r<((5:Nat):Int);lia);simp only[a9e,a7K,a9R]at m;rcases m with rfl|rfl|rfl|rfl|rfl <;> exact⟨_,hx,by decide,by decide⟩
def xV(z:Str):Prop:=z ="old" \/z ="come" \/z ="few"
theorem Fp(r:Int)(h0:0<=r)(h1:r<3):∃z:Str,fP [V.str "old",V.str "come",V.str "few"] r=some (.str z)/\xV z:=by
 obtain⟨x,hx,m⟩:=NB (xs:=[V.str "old",V.str "come",V.str "few"]) h0 (by show r<((3:Nat):Int);lia);simp only[a9e,a7K,a9R]at m;rcases m with rfl|rfl|rfl
 .exact ⟨_,hx,.inl rfl⟩
 .exact ⟨_,hx,.inr (.inl rfl)⟩
 .exact ⟨_,hx,.inr (.inr rfl)⟩
theorem ZgN{s:Int}(h0:1<=s)(h1:s<=16):555<=9999/s/\9999/s<=9999/\1<=(if 10000/s-480>1 then 10000/s-480 else 1)/\(if 10000/s-480>1 then 10000/s-480 else 1)+455<=9999/s:=by
 have key:∀n:Fin 17,1<=(n.val:Int)->(555<=9999/(n.val:Int)/\9999/(n.val:Int)<=9999/\1<=(if 10000/(n.val:Int)-480>1 then 10000/(n.val:Int)-480 else 1)/\(if 10000/(n.val:Int)-480>1 then 10000/(n.val:Int)-480 else 1)+455<=9999/(n.val:Int)):=by decide +kernel
 have e:((⟨s.toNat,by lia⟩:Fin 17).val:Int)=s:=by show((s.toNat:Nat):Int)=s;lia
 have q:=key ⟨s.toNat,by lia⟩ (by rw[e];exact h0);rw[e]at q;exact q
def KD(t:Int)(ns:List Int):Prop:=∀n∈ns,0<=n/\n<=t
inductive pM(vs:List V)(H:Hp)(Q:VK)(E:XK):Prop
 |mk (b:Addr) (a q c s:Int):vs=[.ref b,.int s]->aF H b a q c->c<500000000->1<=s->s<=16->(∀(l:Addr)(ns:List Int)(a' c':Int)(H':Hp),H l=none->H' l=some (.lst (ns.map V.int))->3<=ns.length->ns.length<=20->KD (9999/s) ns->aF H' b a' q c'->c'<=c+40->SB b H H'->Q (.ref l) H')->pM vs H Q E
example:(kG El cK):=by
 obtain ⟨b,a,q,c,s,rfl,B,hc,hs0,hs1,k⟩:=h;obtain⟨U3,U0,m0,m1⟩:=ZgN hs0 hs1;refine⟨_,(Zd (dw 2 nd (ak ZH Zi (Zl cK hr.m rfl (pc (pv 0) (pc (av (Zn (K:=K) rfl) (qE (pc Zi (pc Zi Zb))) (ZS NR rfl T.DK Ku (pc (vm bM (Zl cK hr.m rfl (pc (pv 0) (pc Zi Zb))) Zi (Zx _)) Zb)) (λ_ _=>rfl)) Zb)))))
   (Zd (qV (ZI (pc (Zl cK hr.m rfl (pc (pv 0) (pc Zi Zb))) (pc (Zl cK hr.m rfl (pc (pv 0) (pc Zi Zb))) Zb))) (ZQ (K:=K) (n:=2) rfl rfl (Zq (cu 3 nd) (Zq (cu 4 nd) ZO))))
   (Zd (dw 5 nd (CV (ZB qd (pv 4) Zi (Zx _)) (pv 4) (Zl cK hr.m rfl (pc (pv 0) (pc (av (Zn (K:=K) rfl) (qE (pc Zi (pc (Zp (SH rfl) rfl T.Jj RL (pc Zi (pc (ak zQ (ak Ec Zi (pv 1)) Zi) Zb))) Zb))) (ak zQ (pv 4) Zi) (λ_ _=>rfl)) Zb)))))
   (Zd (ZhF 6 (ZK (kF:=(Zr cU)) (oN:=mK) (N:=["_law_k","_law_first","_law_way"]) (own:=1) (js:=[5,3]) (by decide +kernel) rfl rfl) rfl nd rfl rfl (Bm rfl T.vB (pc (pv 2) Zb)) (λ_ _ _ _ _ _=>(cu 0 (show List.Nodup (["_law_k","_law_first","_law_way"]:List Str) by decide +kernel))) (λ_ _ _ _ _ _=>(ak ZH (pv 1) (ak uI (av (Zn (K:=K) rfl) (qE (pc Zi (pc Zi (pc Zi (pc Zi Zb))))) (pv 2) (λ_ _=>rfl)) (pv 0)))))
   (Zd (dw 7 nd (CV (ZB bM (Zl cK hr.m rfl (pc (pv 0) (pc Zi Zb))) Zi (Zx _)) (ak Ec Zi (pv 1)) (Zl cK hr.m rfl (pc (pv 0) (pc (ak ZH Zi (ak Ec Zi (pv 1))) Zb)))))
   (Zd (aI (PW.pt (pw_or (PW.pt (Qs (ZB bM (pv 3) Zi (Zx _)) (RH (ZB (Tf (K:=K) rfl) (pv 7) (pv 6) rfl)))) (DZ (PW.pt (Qs (ZB bM (pv 7) (ak Ec Zi (pv 1)) (Zx _)) (RH (ZB (Tf (K:=K) rfl) (pv 7) (pv 6) rfl))))))) (Zh (qV (pv 7) (CT (pv 6) (AX Zip Zi) CU))) Zt)
   (Zd (yu aUe rfl (Bm rfl T.vB (pc (ak zQ (pv 2) Zi) Zb)) (cu 8 nd) (Zd (dw 9 nd (ak ZH (pv 8) (Zl cK hr.m rfl (pc (pv 0) (pc (ak zQ (pv 2) (pv 8)) Zb)))))
   (Zh (qV (ZI (pc (av (Zn (K:=K) rfl) (pv 6) (pv 9) (λ_ _=>rfl)) (pc (av (Zn (K:=K) rfl) (pv 6) (pv 8) (λ_ _=>rfl)) Zb))) (ZQ (K:=K) (n:=2) rfl rfl (Zq (CT (pv 6) (pv 8) CU) (Zq (CT (pv 6) (pv 9) CU) ZO)))))))
   (Zh (Zs (pv 6)))))))))),?_⟩
 generalize hm:(if 10000/s-480>1 then 10000/s-480 else 1)=m at m0 m1;generalize ht:(9999:Int)/s=top at *;refine hide λuu ee=>?_;refine⟨_,rfl,(sL 2),λp1 hp1=>⟨_,rfl,b,a,q,c,6,rfl,B.same (Ze hp1 _),by lia,by decide,by decide,λr1 a1 c1 H1 AJ DC B1 hc1 s1=>⟨rfl,.inr ⟨_,rfl,?_⟩⟩⟩⟩;have q1:b≠p1:=Zf B.at' hp1;obtain⟨n,hn,hn'⟩:=QC 5 18 (decide (V.int r1=V.int 0));refine⟨p1,_,_,_,rfl,rfl,az.of (s1 _ _ (ac5 q1) Za),hn,b,a1,q,c1,n,rfl,B1,by lia,by lia,by lia,λr2 a2 c2 H2 yj wC B2 hc2 s2=>⟨_,_,rfl,rfl,?_⟩⟩;have V6:3<=3+r2:=by lia
 have V5:3+r2<=20:=by lia
 have u2:SB b H H2:=(((Ze hp1 _).sb b).trans s1).trans s2;dsimp only[eY];subst ee;try dsimp only
 refine hide λuu ee=>?_;refine⟨_,rfl,b,a2,q,c2,4,rfl,B2,by lia,by decide,by decide,λr3 a3 c3 H3 BS AI B3 hc3 s3=>?_⟩;refine⟨_,rfl,b,a3,q,c3,4,rfl,B3,by lia,by decide,by decide,λr4 a4 c4 Tv Ff IS B4' hc4 s4=>⟨(sL 2),λp4 Pj=>⟨p4,_,rfl,aU.of Za,rfl,_,_,rfl,_,_,rfl,rfl,?_⟩⟩⟩;have B4:=B4'.same (Ze Pj (.tup [.int r3,.int r4]));have u4:SB b H (upd Tv p4 (.tup [.int r3,.int r4])):=((u2.trans s3).trans s4).trans ((Ze Pj _).sb b);generalize upd Tv p4 (.tup [.int r3,.int r4])=H4 at *;subst ee;try dsimp only
 refine JC (λv G=>∃z a' c',v=.int z/\0<=z/\z+456<=top/\aF G b a' q c'/\c'<=c4+1/\SB b H G) (λQ' k'=>?_) ?_
 .refine ⟨_,rfl,_,_,rfl,rfl,_,rfl,xS (λXw=>⟨_,rfl,k' _ _ ⟨_,a4,c4,rfl,Ff,by lia,B4,by lia,u4⟩⟩) (λXw=>?_)⟩;refine⟨_,rfl,_,rfl,_,_,rfl,rfl,⟨by lia,by lia⟩,_,_,rfl,rfl,_,_,rfl,(sL 2),λp2 hp2=>?_⟩;have q2:b≠p2:=Zf B4.at' hp2;rw[hm];obtain⟨n2,hn2,Wz⟩:=Ft 100 m (r4-2) (by lia) (by lia);refine⟨_,rfl,_,_,rfl,rfl,p2,_,_,_,rfl,rfl,az.of Za,hn2,b,a4,q,c4,n2,rfl,B4.same (Ze hp2 _),by lia,by lia,by lia,λr5 a5 c5 H5 Lh Om B5 hc5 s5=>?_⟩;exact k' _ _ ⟨r5,a5,c5,rfl,Lh,by lia,B5,by lia,u4.trans (((Ze hp2 _).sb b).trans s5)⟩
 rintro _ H5 ⟨z,a5,c5,rfl,z0,z1,B5,hc5,u5⟩;dsimp only[eY];refine hide λuu ee=>?_;refine⟨_,rfl,_,rfl,by lia,by lia,λl hl=>?_⟩;have Cs:H l=none:=Ka u5 B5.at' hl;have m9:l≠b:=ac5 (Zf B5.at' hl);have hmn:(3+r2).toNat<=20:=by lia
 refine HN (lo:=0) (n:=(3+r2).toNat) (l:=l) (λj ys σ G=>∃(v0:Option V)(ns:List Int),σ=[v0,some (.int z),some (.int r3)]/\ys=ns.map V.int/\ns.length=j/\KD top ns/\G l=some (.lst ys)/\aB H5 G)
  ⟨none,[],rfl,rfl,rfl,λn hn=>(nomatch hn),Za,Ze hl _⟩ ?_ ?_
 .rintro j ys σ G hj hy ⟨v0,ns,rfl,rfl,hj',hb',h1,h2⟩;refine⟨_,rfl,(sL 4),λp hp=>?_⟩;obtain⟨n4,Wy,Mc⟩:=Yy r3 BS AI;have np:l≠p:=Zf h1 hp;have Wn:(j:Int)<=19:=by lia
  refine⟨_,rfl,p,_,_,_,rfl,rfl,az.of Za,Wy,_,rfl,_,_,rfl,rfl,.inl ⟨by lia,by lia⟩,_,_,rfl,rfl,oS.of (a0n hmn (by decide)) hj hy (by rw[Zc np];exact h1) ⟨_,ns++[z+n4*(0+(j:Int))],rfl,by rw[ado];rfl,by rw[aKe,hj'];rfl,λx hx=>?_,Za,λe o y=>?_⟩⟩
  .rcases aaI.mp hx with h|h
   .exact hb' x h
   .have ex:x=z+n4*(0+(j:Int)):=by simpa using h
    subst ex;rcases Mc with rfl|rfl|rfl
    .exact ⟨by lia,by lia⟩
    .exact ⟨by lia,by lia⟩
    .exact ⟨by lia,by lia⟩
  .rw [Zc (Zf y hl)];exact Ze hp _ _ _ (h2 _ _ y)
 rintro ys σ G hy ⟨v0,ns,rfl,rfl,hj',hb',h1,h2⟩;have B6:=B5.same h2;have u6:SB b H G:=u5.trans (h2.sb b);have F0:3<=ns.length:=by lia
 have Wc:ns.length<=20:=by lia
 dsimp only[eY];subst ee;try dsimp only
 refine JC (λv G'=>∃z a' c',v=.int z/\0<=z/\z<=top/\aF G' b a' q c'/\c'<=c5+2/\SB b G G') (λQ' k'=>?_) ?_
 .refine ⟨_,rfl,b,a5,q,c5,5,rfl,B6,by lia,by decide,by decide,λr7 a7 c7 H7 r70 r71 B7 WO s7=>⟨rfl,_,rfl,xS (λ_=>?_) (λ_=>?_)⟩⟩
  .refine ⟨_,rfl,_,_,rfl,rfl,⟨by lia,by lia⟩,?_⟩;exact k' _ _ ⟨_,a7,c7,rfl,by rw[ht];lia,by rw[ht];lia,B7,by lia,s7⟩
  .refine ⟨_,rfl,_,rfl,_,_,rfl,rfl,⟨by lia,by lia⟩,_,_,rfl,rfl,b,a7,q,c7,_,rfl,B7,by lia,by rw[ht];lia,by rw[ht];lia,λr8 a8 c8 H8 Vq Vp B8 hc8 s8=>?_⟩;exact k' _ _ ⟨_,a8,c8,rfl,Vq,by rw[ht]at Vp;lia,B8,by lia,s7.trans s8⟩
 rintro _ H7 ⟨fr,a7,c7,rfl,W9,CB,B7,WO,s7⟩;have h7:=s7 _ _ m9 h1;have u7:SB b H H7:=u6.trans s7;refine CJ (λσ G'=>∃ns':List Int,σ=[some (.ref b),some (.int s),some (.int (3+r2)),some (.int r3),some (.int r4),some (.int z),some (.ref l),some (.int fr),none,none]/\G' l=some (.lst (ns'.map V.int))/\ns'.length=ns.length/\KD top ns'/\aF G' b a7 q c7/\SB b H G') (λD' _ k'=>?_) ?_
 .refine G0 (λ_ G'=>G'=H7) (λQ' k''=>?_) ?_
  .refine MF (λ_ G'=>G'=H7) (λQ'' k3=>?_) ?_
   .exact ⟨_,rfl,rfl,_,rfl,xS (λ_=>⟨_,rfl,_,rfl,l,_,rfl,.inl (az.of h7),rfl,SM _,_,rfl,k3 _ _ rfl⟩) (λ_=>k3 _ _ rfl)⟩
   .rintro cb _ rfl;cases cb with
    |true=>exact fK rfl (k'' _ _ rfl)
    |false=>exact cO rfl ⟨_,rfl,_,rfl,_,_,rfl,rfl,⟨by lia,by lia⟩,rfl,_,rfl,xS (λ_=>⟨_,rfl,_,rfl,l,_,rfl,.inl (az.of h7),rfl,SM _,_,rfl,k'' _ _ rfl⟩) (λ_=>k'' _ _ rfl)⟩
  .rintro cb _ rfl;cases cb with
   |false=>exact cO rfl (k' _ _ ⟨ns,rfl,h7,rfl,hb',B7,u7⟩)
   |true=>
    refine fK rfl ⟨_,rfl,_,rfl,_,rfl,l,_,_,_,rfl,rfl,h7,Zic (by rw[axO];lia),k' _ _ ⟨ns.set (ns.length-1) fr,rfl,?_,ary,λx hx=>?_,B7.sb (DY l _ _) (ac5 m9),λe o n' y=>?_⟩⟩
    .rw [Za,axO,Kc]
    .rcases Nb hx with h|h
     .exact hb' x h
     .subst h;exact⟨W9,CB⟩
    .rw [Zc (Zf y Cs)];exact u7 _ _ n' y
 rintro _ H8 ⟨VJ,rfl,h8,l8,b8,B8,u8⟩;refine⟨_,rfl,_,_,rfl,rfl,_,rfl,by lia,by lia,NT (lo:=0) (n:=(3+r2-1).toNat) (λj σ G'=>∃(ns':List Int)(v8 v9:Option V)(a' c':Int),σ=[some (.ref b),some (.int s),some (.int (3+r2)),some (.int r3),some (.int r4),some (.int z),some (.ref l),some (.int fr),v8,v9]/\G' l=some (.lst (ns'.map V.int))/\ns'.length=ns.length/\KD top ns'/\aF G' b a' q c'/\c'<=c7+(j:Int)/\SB b H G')
  ⟨VJ,_,_,a7,c7,rfl,h8,l8,b8,B8,by lia,u8⟩ ?_ ?_⟩
 .rintro j σ G' hj ⟨ns',v8,v9,a',c',rfl,ym,l',b',B',hc',u'⟩;have Wn:(j:Int)<=18:=by lia
  have jl:(j:Int)+1<3+r2:=by lia
  refine⟨_,rfl,_,rfl,_,rfl,_,rfl,_,_,rfl,rfl,b,a',q,c',_,rfl,B',by lia,by lia,by lia,λr9 a9 c9 H9 r90 r91 B9 hc9 s9=>⟨_,_,rfl,rfl,?_⟩⟩;have h9:=s9 _ _ m9 ym;obtain⟨x1,Pb,V4⟩:=MX (ns:=ns') (k:=0+(j:Int)+r9) (by lia) (by lia);obtain⟨x2,L5,V3⟩:=MX (ns:=ns') (k:=0+(j:Int)) (by lia) (by lia);refine⟨_,rfl,_,rfl,l,_,_,_,rfl,rfl,az.of h9,Pb,_,rfl,_,rfl,l,_,_,_,rfl,rfl,az.of h9,L5,(sL 2),λt ht'=>?_⟩;have VU:l≠t:=Zf h9 ht';refine⟨t,_,rfl,aU.of Za,rfl,_,_,rfl,_,rfl,_,rfl,l,_,_,_,rfl,rfl,(by rw[Zc VU];exact h9),MY (by lia) (by rw[axO];lia),?_⟩;refine⟨_,_,rfl,_,rfl,_,rfl,l,_,_,_,rfl,rfl,Za,MY (by lia) (by rw[ary,axO];lia),rfl,?_⟩;refine⟨(ns'.set (0+(j:Int)).toNat x1).set (0+(j:Int)+r9).toNat x2,_,_,a9,c9,rfl,by rw[Za,Kc,Kc],by rw[ary,ary];exact l',λx hx=>?_,?_,by lia,λe o n' y=>?_⟩
  .rcases Nb hx with h|h
   .rcases Nb h with h|h
    .exact b' x h
    .subst h;exact b' _ V4
   .subst h;exact b' _ V3
  .exact ((B9.same (Ze ht' _)).sb (DY l _ _) (ac5 m9)).sb (DY l _ _) (ac5 m9)
  .have ne:e≠l:=Zf y Cs;rw[Zc ne,Zc ne];exact Ze ht' _ _ _ (s9 _ _ n' (u' _ _ n' y))
 .rintro σ G' ⟨ns',v8,v9,a',c',rfl,ym,l',b',B',hc',u'⟩;exact⟨_,rfl,k l ns' a' c' G' Cs ym (by lia) (by lia) b' B' (by lia) u'⟩
def Sc:V->Prop
 | .int _=>True
 | .bl _=>True
 | .aS=>True
 | .str _=>True
 |_=>False
def Eqv:Nat->Hp->V->V->Prop
 |0,_,x,y=>x=y/\Sc x
 |n+1,H,x,y=>(x=y/\Sc x)\/∃(a b:Addr)(xs ys:List V),x=.ref a/\y=.ref b/\((H a=some (.lst xs)/\H b=some (.lst ys))\/(H a=some (.tup xs)/\H b=some (.tup ys)))/\xs.length=ys.length/\xs.length<=1000/\∀(i:Nat)(u v:V),xs[i]?=some u->ys[i]?=some v->Eqv n H u v
theorem Eqv.same:∀{n:Nat}{H H':Hp}{x y:V},Eqv n H x y->aB H H'->Eqv n H' x y
 |0,_,_,_,_,h,_=>h
 |n+1,H,H',x,y,h,s=>by
  rcases h with h|⟨a,b,xs,ys,h1,h2,h3,h5,h6,h7⟩
  .exact .inl h
  .refine .inr ⟨a,b,xs,ys,h1,h2,?_,h5,h6,λi u v e1 e2=>(h7 i u v e1 e2).same s⟩;rcases h3 with⟨h3,h4⟩|⟨h3,h4⟩
   .exact .inl ⟨s _ _ h3,s _ _ h4⟩
   .exact .inr ⟨s _ _ h3,s _ _ h4⟩
inductive gG(n:Nat)(vs:List V)(H:Hp)(Q:VK)(_v3:XK):Prop
 |mk (x y:_):vs=[x,y]->Eqv n H x y->(∀H',aB H H'->Q (.bl true) H')->gG n vs H Q _v3
theorem Eqv.sc{H:Hp}{x:V}(h:Sc x):∀n,Eqv n H x x
 |0=>⟨rfl,h⟩
 |_+1=>.inl ⟨rfl,h⟩
theorem Eqv.GQ{H:Hp}{a b:Addr}{xs:List V}(n:Nat)(ha:H a=some (.lst xs))(hb:H b=some (.lst xs))(hl:xs.length<=1000)(hs:∀x∈xs,Sc x):Eqv (n+1) H (.ref a) (.ref b):=
 .inr ⟨a,b,xs,xs,rfl,rfl,.inl ⟨ha,hb⟩,rfl,hl,λi u v e1 e2=>by rw[e1]at e2;cases e2;exact Eqv.sc (hs u (bcc e1)) n⟩
theorem Eqv.GO{H:Hp}{a b:Addr}{xs:List V}(ha:H a=some (.tup xs))(hb:H b=some (.tup xs))(hl:xs.length<=1000)(hs:∀x∈xs,Sc x):Eqv 1 H (.ref a) (.ref b):=
 .inr ⟨a,b,xs,xs,rfl,rfl,.inr ⟨ha,hb⟩,rfl,hl,λi u v e1 e2=>by rw[e1]at e2;cases e2;exact⟨rfl,hs u (bcc e1)⟩⟩
theorem IC{H:Hp}{a:Addr}{xs:List V}(h:H a=some (.tup xs)):yh H (.ref a)=some "tuple":=by simp only[yh,h]
theorem ID{H:Hp}{a:Addr}{xs:List V}(h:H a=some (.lst xs)):yh H (.ref a)=some "list":=by simp only[yh,h]
theorem Rp{n:Nat}{Oi:Sp}(uD:∀m,n=m+1->Oi=gG m)(F:uf K "_law_same" "_law_same" s_same f fd)(T:Txt K mg)(uZ:Def P w K mg base "_law_same" n gw Oi):cJ P w K mg base oR (n+1) f fd gw (gG n):=by
 refine F.ok tF (λvs H Q E h=>?_) (λcdv A outer st H vs Q E hr h=>?_)
 .obtain ⟨x,y,rfl,_⟩:=h;rfl
 obtain ⟨x,y,rfl,h,k⟩:=h;have nd:=tF.nd;refine⟨_,(Zd (aI (ZC (Zp Sx rfl T.ve yt (pc (pv 1) (pc (ZI (pc (vn (v:=.ty "list") rfl T.vC ZM rfl) (pc (vn (v:=.ty "tuple") rfl T.Ge NU rfl) Zb))) Zb)))) (Zd (aI (PW.pt (pw_or (zR (ZC (Zp Sx rfl T.ve yt (pc (pv 0) (pc (ZI (pc (vn (v:=.ty "list") rfl T.vC ZM rfl) (pc (vn (v:=.ty "tuple") rfl T.Ge NU rfl) Zb))) Zb))))) (DZ (ZB Fz (Zp Bk rfl T.ve yt (pc (pv 0) (pc (vn (v:=.ty "list") rfl T.vC ZM rfl) Zb))) (Zp Bk rfl T.ve yt (pc (pv 1) (pc (vn (v:=.ty "list") rfl T.vC ZM rfl) Zb))) (Zx _))))) (Zh (Zs gb)) Zt)
   (Zh (Zs (JH (vm bM (Zp (ZE (K:=K) rfl) rfl T.zv aOy (pc (pv 0) Zb)) (Zp (ZE (K:=K) rfl) rfl T.zv aOy (pc (pv 1) Zb)) (Zx _)) (M5 (Zp (Ks rfl) rfl T.DL Km (pc (ZZ (ZK (kF:=(Zr s_same)) (oN:=Dk) (N:=["_law_one","_law_other"]) (own:=2) (js:=[]) (by decide +kernel) rfl rfl) rfl (YU rfl T.Ji (pc (pv 0) (pc (pv 1) Zb))) (λ_ _ _ _ _ _=>(ZQ (K:=K) (n:=2) rfl rfl (Zq (cu 0 (show List.Nodup (["_law_one","_law_other"]:List Str) by decide +kernel)) (Zq (cu 1 (show List.Nodup (["_law_one","_law_other"]:List Str) by decide +kernel)) ZO)))) (λ_ _ _ _ _ _=>(Zl uZ hr.m rfl (pc (pv 0) (pc (pv 1) Zb))))) Zb))))))) Zt)
   (Zd (aI (PW.pt (pw_or (JI (Yk (pv 1))) (DZ (ZC (Zp Bk rfl T.ve yt (pc (pv 1) (pc (vn (v:=.ty "str") rfl T.Gm Nu rfl) Zb))))))) (Zh (Zs (JH (vm bM (pv 0) (pv 1) (Zx _)) (M5 (vm bM (Zp Bk rfl T.ve yt (pc (pv 0) (pc (vn (v:=.ty "str") rfl T.Gm Nu rfl) Zb))) (Zp Bk rfl T.ve yt (pc (pv 1) (pc (vn (v:=.ty "str") rfl T.Gm Nu rfl) Zb))) (Zx _)))))) Zt)
   (Zh (Zs (JH (Zp Bk rfl T.ve yt (pc (pv 0) (pc (vn (v:=.ty "int") rfl T.DK Ku rfl) Zb))) (JH (vm bM (Zp Bk rfl T.ve yt (pc (pv 0) (pc (vn (v:=.ty "bool") rfl T.Jl SV rfl) Zb))) (Zp Bk rfl T.ve yt (pc (pv 1) (pc (vn (v:=.ty "bool") rfl T.Jl SV rfl) Zb))) (Zx _)) (M5 (vm bM (pv 0) (pv 1) (Zx _))))))))),?_⟩
 have split:(x=y/\Sc x)\/∃(m:Nat)(a b:Addr)(xs ys:List V),n=m+1/\x=.ref a/\y=.ref b/\((H a=some (.lst xs)/\H b=some (.lst ys))\/(H a=some (.tup xs)/\H b=some (.tup ys)))/\xs.length=ys.length/\xs.length<=1000/\∀(i:Nat)(u v:V),xs[i]?=some u->ys[i]?=some v->Eqv m H u v:=by
  cases n with
  |zero=>exact .inl h
  |succ m=>
   rcases h with h|⟨a,b,xs,ys,h1,h2,h3,h5,h6,h7⟩
   .exact .inl h
   .exact .inr ⟨m,a,b,xs,ys,rfl,h1,h2,h3,h5,h6,h7⟩
 rcases split with⟨rfl,hs⟩|⟨m,a,b,xs,ys,rfl,rfl,rfl,⟨ha,hb⟩|⟨ha,hb⟩,hl,hlen,hi⟩
 .have key:∀p,H p=none->∀o,aB H (upd H p o):=λp hp o=>Ze hp o;cases x with
  |int j=>
   refine⟨_,rfl,(sL 2),λp hp=>⟨_,_,_,_,p,rfl,Za,rfl,by decide,by decide,_,rfl,cO (by decide) ?_⟩⟩;refine⟨_,rfl,_,rfl,cO (by simp) ⟨_,rfl,_,_,_,rfl,rfl,by decide,_,rfl,cO (by decide) ?_⟩⟩;refine⟨_,rfl,_,_,_,rfl,rfl,by decide,_,rfl,fK (by decide) ⟨_,rfl,_,_,_,rfl,rfl,by decide,_,rfl,_,_,_,rfl,rfl,by decide,rfl,_,rfl,fK (by decide) ⟨_,rfl,_,rfl,rfl,?_⟩⟩⟩;rw[a5U rfl];exact k _ (key p hp _)
  |bl j=>
   refine⟨_,rfl,(sL 2),λp hp=>⟨_,_,_,_,p,rfl,Za,rfl,by decide,by decide,_,rfl,cO (by decide) ?_⟩⟩;refine⟨_,rfl,_,rfl,cO (by simp) ⟨_,rfl,_,_,_,rfl,rfl,by decide,_,rfl,cO (by decide) ?_⟩⟩;refine⟨_,rfl,_,_,_,rfl,rfl,by decide,_,rfl,fK (by decide) ⟨_,rfl,_,_,_,rfl,rfl,by decide,_,rfl,_,_,_,rfl,rfl,by decide,rfl,_,rfl,fK (by decide) ⟨_,rfl,_,rfl,rfl,?_⟩⟩⟩;rw[a5U rfl];exact k _ (key p hp _)
  |aS=>
   refine⟨_,rfl,(sL 2),λp hp=>⟨_,_,_,_,p,rfl,Za,rfl,by decide,by decide,_,rfl,cO (by decide) ?_⟩⟩;refine⟨_,rfl,_,rfl,fK (by simp) (fK rfl ⟨_,rfl,_,rfl,rfl,_,rfl,fK (by decide) ⟨_,rfl,_,_,_,rfl,rfl,by decide,_,rfl,_,_,_,rfl,rfl,by decide,rfl,?_⟩⟩)⟩;rw[a5U rfl];exact k _ (key p hp _)
  |str z=>
   refine⟨_,rfl,(sL 2),λp hp=>⟨_,_,_,_,p,rfl,Za,rfl,by decide,by decide,_,rfl,cO (by decide) ?_⟩⟩;refine⟨_,rfl,_,rfl,cO (by simp) ⟨_,rfl,_,_,_,rfl,rfl,by decide,_,rfl,fK (by decide) ⟨_,rfl,_,rfl,rfl,_,rfl,fK (by simp) ⟨_,rfl,_,_,_,rfl,rfl,by decide,_,rfl,_,_,_,rfl,rfl,by decide,rfl,?_⟩⟩⟩⟩;rw[a5U rfl];exact k _ (key p hp _)
  |_=>exact hs.elim
 .have he:=uD m rfl;subst he;refine⟨_,rfl,(sL 2),λp hp=>?_⟩;have s1:=Ze hp (.tup [.ty "list",.ty "tuple"]);refine⟨_,_,_,_,p,rfl,Za,ID (s1 _ _ hb),by decide,by decide,_,rfl,fK (by decide) ?_⟩;refine⟨_,rfl,(sL 2),λp2 hp2=>?_⟩;have s2:=s1.trans (Ze hp2 (.tup [.ty "list",.ty "tuple"]));refine⟨_,_,_,_,p2,rfl,Za,ID (s2 _ _ ha),by decide,by decide,_,rfl,cO (by decide) ?_⟩;refine⟨_,rfl,_,_,_,rfl,ID (s2 _ _ ha),by decide,_,rfl,_,_,_,rfl,ID (s2 _ _ hb),by decide,rfl,_,rfl,cO (by decide) ?_⟩;refine⟨_,rfl,a,_,rfl,.inl (az.of (s2 _ _ ha)),_,rfl,b,_,rfl,.inl (az.of (s2 _ _ hb)),rfl,_,rfl,?_⟩;generalize upd (upd H p (.tup [.ty "list",.ty "tuple"])) p2 (.tup [.ty "list",.ty "tuple"])=H2 at *;refine fK (by rw[hl];simp) ?_;refine⟨_,rfl,_,rfl,a,b,rfl,.inl ⟨_,_,az.of (s2 _ _ ha),az.of (s2 _ _ hb),λl hl'=>?_⟩⟩;have Cs:H l=none:=s2.free hl';refine ZhJ (K:=K) (a:=a) (b:=b) (xs:=xs) (zs:=ys) (l:=l) hl (λi zs σ H'=>∃v0 v1:Option V,σ=[v0,v1]/\zs=(List.replicate i true).map V.bl/\H' l=some (.lst zs)/\aB H H')
   ⟨none,none,rfl,by simp,Za,s2.trans (Ze hl' _)⟩ (λi zs σ H' _ ⟨_,_,_,_,_,q⟩=>⟨az.of (q _ _ ha),az.of (q _ _ hb)⟩) ?_ ?_
  .rintro i x z t zs σ H' Mj hxi L1 Gv ⟨v0,v1,rfl,rfl,h1,s3⟩ ht;have s4:=s3.trans (Ze ht (.tup [x,z]));have DF:l≠t:=Zf h1 ht;refine⟨t,_,rfl,aU.of Za,rfl,_,_,rfl,_,_,rfl,rfl,?_⟩;refine⟨_,rfl,_,rfl,x,z,rfl,(hi i x z hxi L1).same s4,λH5 s5=>?_⟩;refine oS.of (aUL (Zz hlen)) Mj Gv (s5 _ _ (by rw[Zc DF];exact h1)) ⟨_,_,rfl,by rw[ab2,ado];rfl,Za,?_⟩;intro c o e;rw[Zc (Zf e Cs)];exact s5 _ _ (s4 _ _ e)
  .rintro zs σ H' Gv ⟨v0,v1,rfl,rfl,h1,s3⟩;refine⟨l,_,rfl,az.of h1,?_⟩;rw[show(List.replicate xs.length true).all id=true by rw[aD8];intro z hz;rw[(aXd.mp hz).2];rfl];exact k H' s3
 .have he:=uD m rfl;subst he;refine⟨_,rfl,(sL 2),λp hp=>?_⟩;have s1:=Ze hp (.tup [.ty "list",.ty "tuple"]);refine⟨_,_,_,_,p,rfl,Za,IC (s1 _ _ hb),by decide,by decide,_,rfl,fK (by decide) ?_⟩;refine⟨_,rfl,(sL 2),λp2 hp2=>?_⟩;have s2:=s1.trans (Ze hp2 (.tup [.ty "list",.ty "tuple"]));refine⟨_,_,_,_,p2,rfl,Za,IC (s2 _ _ ha),by decide,by decide,_,rfl,cO (by decide) ?_⟩;refine⟨_,rfl,_,_,_,rfl,IC (s2 _ _ ha),by decide,_,rfl,_,_,_,rfl,IC (s2 _ _ hb),by decide,rfl,_,rfl,cO (by decide) ?_⟩;refine⟨_,rfl,a,_,rfl,.inr (aU.of (s2 _ _ ha)),_,rfl,b,_,rfl,.inr (aU.of (s2 _ _ hb)),rfl,_,rfl,?_⟩;generalize upd (upd H p (.tup [.ty "list",.ty "tuple"])) p2 (.tup [.ty "list",.ty "tuple"])=H2 at *;refine fK (by rw[hl];simp) ?_;refine⟨_,rfl,_,rfl,a,b,rfl,.inr ⟨_,_,aU.of (s2 _ _ ha),aU.of (s2 _ _ hb),λl hl'=>?_⟩⟩;have Cs:H l=none:=s2.free hl';refine Zgp (K:=K) (a:=a) (b:=b) (xs:=xs) (zs:=ys) (l:=l) hl (λi zs σ H'=>∃v0 v1:Option V,σ=[v0,v1]/\zs=(List.replicate i true).map V.bl/\H' l=some (.lst zs)/\aB H H')
   ⟨none,none,rfl,by simp,Za,s2.trans (Ze hl' _)⟩ (λi zs σ H' _ ⟨_,_,_,_,_,q⟩=>⟨aU.of (q _ _ ha),aU.of (q _ _ hb)⟩) ?_ ?_
  .rintro i x z t zs σ H' Mj hxi L1 Gv ⟨v0,v1,rfl,rfl,h1,s3⟩ ht;have s4:=s3.trans (Ze ht (.tup [x,z]));have DF:l≠t:=Zf h1 ht;refine⟨t,_,rfl,aU.of Za,rfl,_,_,rfl,_,_,rfl,rfl,?_⟩;refine⟨_,rfl,_,rfl,x,z,rfl,(hi i x z hxi L1).same s4,λH5 s5=>?_⟩;refine oS.of (aUL (Zz hlen)) Mj Gv (s5 _ _ (by rw[Zc DF];exact h1)) ⟨_,_,rfl,by rw[ab2,ado];rfl,Za,?_⟩;intro c o e;rw[Zc (Zf e Cs)];exact s5 _ _ (s4 _ _ e)
  .rintro zs σ H' Gv ⟨v0,v1,rfl,rfl,h1,s3⟩;refine⟨l,_,rfl,az.of h1,?_⟩;rw[show(List.replicate xs.length true).all id=true by rw[aD8];intro z hz;rw[(aXd.mp hz).2];rfl];exact k H' s3
def K5:Sp:=λ_ _ _ _=>False
theorem R8(F:uf K "_law_same" "_law_same" s_same f fd)(bi:Binds K fd gw [])(m:mg "_law_same"=some (.ref f))(T:Txt K mg):∀n,Def P w K mg base "_law_same" (n+1) gw (gG n)
 |0=>by
  have D0:Def P w K mg base "_law_same" 0 gw K5:=⟨f,fd,⟨λ_ _ _ _ h=>h.elim,λ_ _ _ _ _ _ _ _ _ _ _ _ _ h=>h.elim⟩,m,F.kp,bi⟩;exact⟨f,fd,Rp (n:=0) (λ_ h=>by lia) F T D0,m,F.kp,bi⟩
 |n+1=>⟨f,fd,Rp (n:=n+1) (λj h=>by cases(show j=n by lia);rfl) F T (R8 F bi m T n),m,F.kp,bi⟩
def uz:Option Int->V
 |none=>.aS
 |some g=>.int g
theorem gN{i:Nat}{v:V}{σ:St}{H:Hp}{Q:St->Hp->Prop}(h:Q (σ.set i (some v)) H):eY i v σ H Q:=h
theorem Nz{b:Bool}{A B:Prop}(h1:b=true->A)(h2:¬b=true->B):if b=true then A else B:=by
 by_cases h:b=true
 .rw [aaU h];exact h1 h
 .rw [afn h];exact h2 h
theorem JV{ns:List Int}{i:Nat}{x:V}(h:(ns.map V.int)[i]?=some x):∃z,ns[i]?=some z/\x=V.int z:=by
 rw[acC]at h;cases e:ns[i]? with
 |none=>rw[e]at h;cases h
 |some z=>rw[e]at h;exact⟨z,rfl,(a9h h).symm⟩
def tpos:Pos:=(match(ZD aT).head? with
 |some (.If _ (.Return (some (.Call _ _ (⟨_,.Lambda _ _ _ pos,_⟩ ::_) _)) _ ::_) _ _)=>pos
 |_=>⟨0,0,0,0⟩)
abbrev vE:Str:="Room.going" ++ ".<locals>." ++ "<lambda>"
def Tb(K:W.Frag)(H:Hp):Prop:=H (tabOf K "Room" "going")=some (.nA tpos vE)
theorem Tb.same{K:W.Frag}{H H':Hp}(t:Tb K H)(s:aB H H'):Tb K H':=s _ _ t
def Zm(sh s:Int)(there:List Int):List Int:=there.filter λo=>decide (o%sh=s)
theorem HM(sh s b:Int)(there:List Int):Zm sh s (there++[b])=if b%sh=s then Zm sh s there++[b] else Zm sh s there:=by
 unfold Zm;rw[List.filter_append];by_cases h:b%sh=s
 .rw [aaU h,aNg,aaU (by simpa using h),List.filter_nil]
 .rw [afn h,aNg,afn (by simpa using h),List.filter_nil,aWa]
theorem HR(sh s g:Int)(there:List Int):Zm sh s (there.erase g)=(Zm sh s there).erase g:=by
 unfold Zm;rw[List.erase_filter]
theorem bz{sh s b:Int}{there:List Int}:b∈Zm sh s there↔b∈there/\b%sh=s:=by
 unfold Zm;rw[mem_filter,aWv]
structure ua(H:Hp)(ls:Addr)(aq:List Addr)(sh:Int)(there:List Int):Prop where
 top:H ls=some (.lst (aq.map V.ref))
 len:aq.length=sh.toNat
 nd:aq.Nodup
 off:ls∉aq
 at_:∀(s:Nat)(ad:Addr),aq[s]?=some ad->H ad=some (.lst ((Zm sh s there).map V.int))
theorem ua.other{H:Hp}{ls:Addr}{aq:List Addr}{sh:Int}{there:List Int}(h:ua H ls aq sh there){a:Addr}(o:HO)(h1:a≠ls)(h2:a∉aq):ua (upd H a o) ls aq sh there:=
 ⟨by rw[Zc (ac5 h1)];exact h.top,h.len,h.nd,h.off,λi ad e=>by rw[Zc (λz:ad=a=>h2 (z ▸bcc e))];exact h.at_ i ad e⟩
theorem ua.put{H:Hp}{ls:Addr}{aq:List Addr}{sh:Int}{there rq:List Int}(h:ua H ls aq sh there){s0:Nat}{ad:Addr}{ns:List Int}(e0:aq[s0]?=some ad)(hn:Zm sh s0 rq=ns)(ho:∀s:Nat,s≠s0->Zm sh s rq=Zm sh s there):ua (upd H ad (.lst (ns.map V.int))) ls aq sh rq:=by
 refine⟨by rw[Zc (λz:ls=ad=>h.off (z ▸bcc e0))];exact h.top,h.len,h.nd,h.off,λs a e=>?_⟩;by_cases hs:s=s0
 .subst hs;rw[e0]at e;cases e;rw[Za,hn]
 .have ne:a≠ad:=λz=>by
   subst z;exact hs ((List.getElem?_inj (aB9.mp e).1 h.nd).mp (e.trans e0.symm))
  rw[Zc ne,ho s hs];exact h.at_ s a e
theorem ua.get{H:Hp}{ls:Addr}{aq:List Addr}{sh:Int}{there:List Int}(h:ua H ls aq sh there){k:Int}(h0:0<=k)(h1:k<sh):∃(s:Nat)(ad:Addr),(s:Int)=k/\aq[s]?=some ad/\fP (aq.map V.ref) k=some (.ref ad)/\H ad=some (.lst ((Zm sh k there).map V.int)):=by
 have hk:k.toNat<aq.length:=by rw[h.len];lia
 have e:aq[k.toNat]?=some aq[k.toNat]:=aun hk;have ek:((k.toNat:Nat):Int)=k:=by lia
 have q:fP (aq.map V.ref) ((k.toNat:Nat):Int)=some (.ref aq[k.toNat]):=xT (by rw[acC,e];rfl);have q2:=h.at_ _ _ e;rw[ek]at q q2;exact⟨k.toNat,_,ek,e,q,q2⟩
theorem ua.one{H:Hp}{ls:Addr}{aq:List Addr}{sh:Int}{there:List Int}(h:ua H ls aq sh there){ad:Addr}(m:ad∈aq):∃xs,H ad=some (.lst xs):=by
 obtain⟨s,e⟩:=List.getElem?_of_mem m;exact⟨_,h.at_ s ad e⟩
def gv(sh pl:Int)(ru:Str)(ls du:Addr):List (Str×V):=ah "uses" (.ref du) (ah "standing" (.ref ls) (ah "rule" (.str ru) (ah "places" (.int pl) (ah "shelves" (.int sh) []))))
theorem D7(sh pl:Int)(ru:Str)(ls du:Addr):(gv sh pl ru ls du).lookup ("uses":Str)=some (.ref du):=by
 unfold gv;rw[Zg,aaU rfl]
theorem Zeg(sh pl:Int)(ru:Str)(ls du:Addr):(gv sh pl ru ls du).lookup ("standing":Str)=some (.ref ls):=by
 unfold gv;rw[Zg,afn (by decide +kernel),Zg,aaU rfl]
theorem Ro(sh pl:Int)(ru:Str)(ls du:Addr):(gv sh pl ru ls du).lookup ("rule":Str)=some (.str ru):=by
 unfold gv;rw[Zg,afn (by decide +kernel),Zg,afn (by decide +kernel),Zg,aaU rfl]
theorem ZgQ(sh pl:Int)(ru:Str)(ls du:Addr):(gv sh pl ru ls du).lookup ("places":Str)=some (.int pl):=by
 unfold gv;rw[Zg,afn (by decide +kernel),Zg,afn (by decide +kernel),Zg,afn (by decide +kernel),Zg,aaU rfl]
theorem ZfC(sh pl:Int)(ru:Str)(ls du:Addr):(gv sh pl ru ls du).lookup ("shelves":Str)=some (.int sh):=by
 unfold gv;rw[Zg,afn (by decide +kernel),Zg,afn (by decide +kernel),Zg,afn (by decide +kernel),Zg,afn (by decide +kernel),Zg,aaU rfl]
theorem bT(sh pl:Int)(ru:Str)(ls du:Addr){m:Str}(h1:¬m ="uses":=by decide +kernel)(h2:¬m ="standing":=by decide +kernel)(h3:¬m ="rule":=by decide +kernel)(h4:¬m ="places":=by decide +kernel)(h5:¬m ="shelves":=by decide +kernel):(gv sh pl ru ls du).lookup m=none:=by
 unfold gv;rw[Zg,afn h1,Zg,afn h2,Zg,afn h3,Zg,afn h4,Zg,afn h5];rfl
def KI(kvs:List (Key×V)):Prop:=∃ks:List Int,kvs.map Prod.fst=ks.map Sum.inl/\ks.Nodup
theorem KI.nil:KI []:=⟨[],rfl,nodup_nil⟩
theorem KI.put{kvs:List (Key×V)}(h:KI kvs)(b:Int)(v:V):KI (putK kvs (Sum.inl b) v):=by
 obtain⟨ks,e,nd⟩:=h;unfold putK;split
 .refine ⟨ks,?_,nd⟩;rw[<-e,ahh];exact aHS λq _=>by
   show(if q.1=Sum.inl b then(q.1,v) else q).1=q.1;split <;> rfl
 .rename_i c;refine⟨ks++[b],by rw[ado,ado,e];rfl,?_⟩;rw[List.nodup_append];refine⟨nd,by simp,λx hx y hy z=>c ?_⟩;rw[apU.mp hy]at z;subst z;have m:(Sum.inl x:Key)∈kvs.map Prod.fst:=by rw[e];exact ac1 hx
  obtain⟨q,hq,eq⟩:=awR.mp m;exact List.any_eq_true.mpr ⟨q,hq,by simpa using eq⟩
theorem KI.drop{kvs:List (Key×V)}(h:KI kvs)(b:Int):KI (aX kvs (Sum.inl b)):=by
 obtain⟨ks,e,nd⟩:=h;unfold aX;refine⟨ks.filter λx=>decide (x≠b),?_,nd.sublist List.filter_sublist⟩;have l:(kvs.filter λkv=>decide (kv.1≠Sum.inl b)).map Prod.fst=(kvs.map Prod.fst).filter λk=>decide (k≠Sum.inl b):=by
  rw[List.filter_map];rfl
 rw[l,e,List.filter_map];congr 1
 refine List.filter_congr λx _=>?_;show decide ((Sum.inl x:Key)≠Sum.inl b)=decide (x≠b);rw[amk];exact⟨λz y=>z (by rw[y]),λz y=>z (aKC y)⟩
theorem CZ{kvs:List (Key×V)}(k:Key):(aV kvs k).isSome=true↔k∈kvs.map Prod.fst:=by
 rw[<-HL,List.any_eq_true,mem_map];exact⟨λ⟨q,h1,h2⟩=>⟨q,h1,by simpa using h2⟩,λ⟨q,h1,h2⟩=>⟨q,h1,by simpa using h2⟩⟩
structure aD(K:W.Frag)(H:Hp)(p:Addr)(sh pl:Int)(ru:Str)(ls:Addr)(aq:List Addr)(du:Addr)(seq:List Int)(us:Int->Int)(n:Nat):Prop where
 ob:∃dx,H p=some (.ins (af K "Room") dx (gv sh pl ru ls du))
 st:ua H ls aq sh seq
 dc:∃kvs,H du=some (.dK kvs)/\(kvs.length<=n/\KI kvs)/\∀b,aV kvs (Sum.inl b:Key)=if b∈seq then some (.int (us b)) else none
 nd:seq.Nodup
 s0:1<=sh
 s1:sh<=64
def SR(aq:List Addr)(du:Addr)(H H':Hp):Prop:=∀b o,H b=some o->b≠du->b∉aq->H' b=some o
theorem SR.of{aq:List Addr}{du:Addr}{H H':Hp}(s:aB H H'):SR aq du H H':=λb o h _ _=>s b o h
theorem SR.trans{aq:List Addr}{du:Addr}{H H1 H2:Hp}(a:SR aq du H H1)(b:SR aq du H1 H2):SR aq du H H2:=λc o h n1 n2=>b c o (a c o h n1 n2) n1 n2
section
variable{K:W.Frag}{H H':Hp}{p:Addr}{sh pl:Int}{ru:Str}{ls:Addr}{aq:List Addr}{du:Addr}{seq:List Int}{us:Int->Int}{n:Nat}
theorem aD.off(R:aD K H p sh pl ru ls aq du seq us n):p≠du/\p∉aq/\ls≠du/\ls∉aq/\du∉aq/\p≠ls:=by
 obtain⟨dx,h1⟩:=R.ob;obtain⟨kvs,h2,_⟩:=R.dc;refine⟨λz=>?_,λz=>?_,λz=>?_,R.st.off,λz=>?_,λz=>?_⟩
 .rw [z,h2]at h1;cases h1
 .obtain ⟨xs,e⟩:=R.st.one z;rw[e]at h1;cases h1
 .have e:=R.st.top;rw[z,h2]at e;cases e
 .obtain ⟨xs,e⟩:=R.st.one z;rw[e]at h2;cases h2
 .have e:=R.st.top;rw[<-z,h1]at e;cases e
theorem aD.same(R:aD K H p sh pl ru ls aq du seq us n)(s:aB H H'):aD K H' p sh pl ru ls aq du seq us n:=by
 obtain⟨dx,h1⟩:=R.ob;obtain⟨kvs,h2,h3⟩:=R.dc;exact⟨⟨dx,s _ _ h1⟩,⟨s _ _ R.st.top,R.st.len,R.st.nd,R.st.off,λi ad e=>s _ _ (R.st.at_ i ad e)⟩,⟨kvs,s _ _ h2,h3⟩,R.nd,R.s0,R.s1⟩
theorem SR.keep{o:HO}{b:Addr}(s:SR aq du H H')(R:aD K H p sh pl ru ls aq du seq us n)(h:H b=some o)(n1:∀kvs,o≠.dK kvs)(n2:∀xs,o≠.lst xs):H' b=some o:=by
 refine s _ _ h (λz=>?_) λz=>?_
 .obtain ⟨kvs,e,_⟩:=R.dc;rw[z,e]at h;exact n1 kvs (a9h h).symm
 .obtain ⟨xs,e⟩:=R.st.one z;rw[e]at h;exact n2 xs (a9h h).symm
theorem aD.EW(R:aD K H p sh pl ru ls aq du seq us n)(b:Int):∃(s:Nat)(ad:Addr),(s:Int)=b%sh/\aq[s]?=some ad/\fP (aq.map V.ref) (b%sh)=some (.ref ad)/\H ad=some (.lst ((Zm sh (b%sh) seq).map V.int)):=by
 have h0:=R.s0;exact R.st.get (baD _ (by lia)) (a5F _ (by lia))
end
inductive sM(vs:List V)(H:Hp)(Q:VK)(E:XK):Prop
 |mk (sh b:Int):vs=[.int sh,.int b]->1<=sh->Q (.int (b%sh)) H->sM vs H Q E
example:(qf EA):=by
 obtain⟨sh,b,rfl,h0,k⟩:=h;refine⟨_,(Zh (Zs (ak uH (pv 1) (pv 0)))),?_⟩;exact⟨_,rfl,_,rfl,_,_,rfl,rfl,(by show 0<sh;lia),k⟩
inductive Az(K:W.Frag)(vs:List V)(H:Hp)(Q:VK)(E:XK):Prop
 |mk (p:Addr) (b sh pl:Int) (ru:Str) (ls:Addr) (aq:List Addr) (du:Addr) (seq:List Int) (us:Int->Int) (n:Nat):vs=[.ref p,.int b]->aD K H p sh pl ru ls aq du seq us n->Q (.bl (decide (b∈seq))) H->Az K vs H Q E
example:(qi wJ):=by
 obtain⟨p,b,sh,pl,ru,ls,aq,du,seq,us,n,rfl,R,k⟩:=h;refine⟨_,(Zh (Zs (Qt (Qk hu (pv 1) (Zk (K:=K) rfl (pv 0) rfl))))),?_⟩;obtain⟨dx,h1⟩:=R.ob;obtain⟨kvs,h2,h3,h4⟩:=R.dc;refine⟨_,rfl,_,rfl,p,_,dx,_,_,rfl,h1,T.fj,T.BE,D7 ..,du,_,rfl,e8.k (k:=Sum.inl b) h2,?_⟩;rw[h4 b];by_cases c:b∈seq
 .rw [aaU c];rw[a5U c]at k;exact k
 .rw [afn c];rw[a4I c]at k;exact k
inductive sR(K:W.Frag)(vs:List V)(H:Hp)(Q:VK)(E:XK):Prop
 |mk (p:Addr) (b sh pl:Int) (ru:Str) (ls:Addr) (aq:List Addr) (du:Addr) (seq:List Int) (us:Int->Int) (n:Nat):vs=[.ref p,.int b]->aD K H p sh pl ru ls aq du seq us n->(∀(s:Nat)(ad:Addr),(s:Int)=b%sh->aq[s]?=some ad->H ad=some (.lst ((Zm sh (b%sh) seq).map V.int))->Q (.ref ad) H)->sR K vs H Q E
example:(lT tN EA):=by
 obtain⟨p,b,sh,pl,ru,ls,aq,du,seq,us,n,rfl,R,k⟩:=h;refine⟨_,(Zh (Zs (av (Zn (K:=K) rfl) (Zk (K:=K) rfl (pv 0) rfl) (Zl EA hr.m rfl (pc (Zk (K:=K) rfl (pv 0) rfl) (pc (pv 1) Zb))) (λ_ _=>rfl)))),?_⟩;obtain⟨dx,h1⟩:=R.ob;obtain⟨s,ad,e1,e2,e3,e4⟩:=R.EW b;exact⟨_,rfl,p,_,dx,_,_,rfl,h1,T.fj,T.O6,Zeg ..,_,rfl,p,_,dx,_,_,rfl,h1,T.fj,T.O4,ZfC ..,_,rfl,sh,b,rfl,R.s0,ls,_,_,_,rfl,rfl,az.of R.st.top,e3,k s ad e1 e2 e4⟩
inductive vO(K:W.Frag)(vs:List V)(H:Hp)(Q:VK)(E:XK):Prop
 |mk (p:Addr) (b sh pl:Int) (ru:Str) (ls:Addr) (aq:List Addr) (du:Addr) (seq:List Int) (us:Int->Int) (n:Nat):vs=[.ref p,.int b]->aD K H p sh pl ru ls aq du seq us n->b∈seq->Q .aS H->vO K vs H Q E
example:(nZ wD wJ):=by
 obtain⟨p,b,sh,pl,ru,ls,aq,du,seq,us,n,rfl,R,hb,k⟩:=h;refine⟨_,(Zh (aI (zR (ZC (Zj wJ hr.m T.fj (pv 0) (pc (pv 1) Zb)))) (Zh wK) Zt)),?_⟩;obtain⟨dx,h1⟩:=R.ob;refine⟨_,rfl,p,dx,_,rfl,h1,bT ..,_,rfl,p,b,sh,pl,ru,ls,aq,du,seq,us,n,rfl,R,?_⟩;rw[a5U hb];exact⟨_,rfl,cO rfl k⟩
inductive jW(K:W.Frag)(vs:List V)(H:Hp)(Q:VK)(E:XK):Prop
 |mk (p m:Addr) (ms:List Int) (sh pl:Int) (ru:Str) (ls:Addr) (aq:List Addr) (du:Addr) (seq:List Int) (us:Int->Int) (n:Nat):vs=[.ref p,.ref m]->aD K H p sh pl ru ls aq du seq us n->Tb K H->H m=some (.lst (ms.map V.int))->ms.length<64->ms.Nodup->(∀b∈ms,b∈seq)->(∀(D:Addr)(H':Hp)(os:List Int),H D=none->aB H H'->H' D=some (.lst (os.map V.int))->os.Perm ms->(ru ="few" ->os.Pairwise (Ac us ms))->(ru ≠ "few" ->os=ms)->Q (.ref D) H')->jW K vs H Q E
theorem ZcZ{f tp cg:Addr}{fd:FuncData}(F:uf K "going" "Room.going" aT f fd)(hfc:fd.code=.ref cg)(htp:tabOf K "Room" "going"=tp)(hch:W.codeHdIn K cg tp=true)(bm:BMod base mg)(T:Txt K mg):cJ P w K mg base oR 2 f fd cC (jW K):=by
 refine F.VA fT (λvs H Q E h=>?_) (λcdv A outer st H vs Q E WM hr h=>?_)
 .obtain ⟨p,m,ms,sh,pl,ru,ls,aq,du,seq,us,n,rfl,_⟩:=h;rfl
 obtain ⟨p,m,ms,sh,pl,ru,ls,aq,du,seq,us,n,rfl,R,tb,hm,h64,hnd,hin,k⟩:=h;have nd:=fT.nd;have hu:=A5 hr;have hc0:cdv=.ref cg:=WM.symm.trans hfc;refine⟨_,(Zd (aI (ZB bM (Zk (K:=K) rfl (pv 0) rfl) ZX (Zx _)) (Zh (Zs (ZhV (X:=(qw oR P w K mg base iE "Room.going" (Zr aT) f cdv A outer st H E).Cd) (K:=K) (P:=tp) (c0:=cg) rfl hr rfl rfl T.Al (ZhU (kF:=(Zr aT)) (oN:=iE) (x:="board") (fr:=["self"]) (js:=[0]) (by decide +kernel) rfl rfl) hc0 hch bm rfl rfl rfl (λ_ _ _ _ _=>rfl) (pv 1) (λ_ _ _ _ _=>(Ng (XQ hr) (Zk (K:=K) rfl (pv 1) rfl) (pv 0) (λ_ _=>rfl)))))) Zt)
   (Zh (Zs (ZS (Kq (K:=K) rfl) rfl T.vC ZM (pc (pv 1) Zb))))),?_⟩
 obtain⟨dx,h1⟩:=R.ob;obtain⟨kvs,h2,h3,h4⟩:=R.dc;refine⟨_,rfl,p,_,dx,_,_,rfl,h1,T.fj,T.LR,Ro ..,rfl,_,rfl,?_⟩;refine xS (λc=>?_) (λc=>?_)
 .have c':ru ="few":=by injection c
  have tb':H tp=some (.nA tpos vE):=by
   have t:=tb;unfold Tb at t;rw[htp]at t;exact t
  refine⟨_,rfl,m,ms,us,rfl,az.of hm,h64,hnd,tb',λz hz H2 sm=>?_,λD H' os hD sm hl po so=>k D H' os hD sm hl po (λ_=>so) λz=>absurd c' z⟩;have v:=h4 z;rw[aaU (hin z hz)]at v;exact⟨_,rfl,p,_,dx,_,_,rfl,sm _ _ h1,T.fj,T.BE,D7 ..,_,rfl,du,_,rfl,(by have q:=e8.k (k:=Sum.inl z) (sm _ _ h2);rw[v]at q;exact q),rfl,rfl⟩
 .have c':¬ru ="few":= λz=>c (by rw[z]);exact⟨_,rfl,m,_,rfl,.inl (az.of hm),λD hD=>k D _ ms hD (Ze hD _) Za (List.Perm.refl _) (λz=>absurd z c') λ_=>rfl⟩
theorem HE{kvs:List (Key×V)}{k:Key}(j:Key):aV (aX kvs k) j=if j=k then none else aV kvs j:=by
 induction kvs with
 |nil=>by_cases e:j=k <;> simp[aX,aV,e]
 |cons q r ih=>
  by_cases e:q.1=k
  .rw [Zgj e,ih];by_cases c:j=k
   .rw [aaU c,aaU c]
   .rw [afn c,afn c,ZF (λz=>c (z.symm.trans e))]
  .rw [Zgk e];by_cases c:q.1=j
   .rw [ZJ c,afn (λz=>e (c.trans z)),ZJ c]
   .rw [ZF c,ih,ZF c]
theorem ZgR(kvs:List (Key×V))(k:Key):(aX kvs k).length<=kvs.length:=azh ..
inductive vY(K:W.Frag)(vs:List V)(H:Hp)(Q:VK)(E:XK):Prop
 |mk (p:Addr) (b sh pl:Int) (ru:Str) (ls:Addr) (aq:List Addr) (du:Addr) (seq:List Int) (us:Int->Int) (n:Nat):vs=[.ref p,.int b]->aD K H p sh pl ru ls aq du seq us n->b∈seq->(∀H',aD K H' p sh pl ru ls aq du (seq.erase b) us n->SR aq du H H'->Q .aS H')->vY K vs H Q E
example:(n9 Ak wD tN):=by
 obtain ⟨p,b,sh,pl,ru,ls,aq,du,seq,us,n,rfl,R,hb,k⟩:=h;refine⟨_,(Zd (Zo (Zj wD hr.m T.fj (pv 0) (pc (pv 1) Zb)))
   (Zd (Zo (Bj (K:=K) rfl (jr bbb PySem.F.slot_list_remove PySem.F.type_list_remove Sv (Zj tN hr.m T.fj (pv 0) (pc (pv 1) Zb)) (pc (pv 1) Zb))))
   (Zh (Zo (NJ (Zk (K:=K) rfl (pv 0) rfl) (pv 1) ⟨rfl,rfl,rfl,rfl⟩))))),?_⟩
 obtain⟨dx,h1⟩:=R.ob;obtain⟨kvs,h2,h3,h4⟩:=R.dc;obtain⟨o1,o2,o3,o4,o5,o6⟩:=R.off;refine⟨_,rfl,p,dx,_,rfl,h1,bT ..,_,rfl,p,b,sh,pl,ru,ls,aq,du,seq,us,n,rfl,R,hb,?_⟩;refine⟨_,rfl,p,dx,_,rfl,h1,bT ..,_,rfl,p,b,sh,pl,ru,ls,aq,du,seq,us,n,rfl,R,λs ad es hs had=>?_⟩;have w6:ad∈aq:=bcc hs;have hmem:b∈Zm sh (b%sh) seq:=bz.mpr ⟨hb,rfl⟩;refine⟨.inl ⟨rfl,_,az.of had⟩,_,rfl,ad,_,b,rfl,rfl,had,hmem,?_⟩;have S1:ua (upd H ad (.lst (((Zm sh (b%sh) seq).erase b).map V.int))) ls aq sh (seq.erase b):=by
  refine R.st.put hs ?_ λs' hs'=>?_
  .rw [HR,es]
  .rw [HR];exact bat λm=>hs' (by have:=(bz.mp m).2;lia)
 have np:p≠ad:=λz=>o2 (z ▸w6);have IZ:du≠ad:=λz=>o5 (z ▸w6);have ym:upd H ad (.lst (((Zm sh (b%sh) seq).erase b).map V.int)) p=some (.ins (af K "Room") dx (gv sh pl ru ls du)):=by rw[Zc np];exact h1
 have h2':upd H ad (.lst (((Zm sh (b%sh) seq).erase b).map V.int)) du=some (.dK kvs):=by rw[Zc IZ];exact h2
 refine⟨_,rfl,p,_,dx,_,_,rfl,ym,T.fj,T.BE,D7 ..,du,rfl,.inl ⟨_,.inl h2'⟩,_,rfl,kvs,Sum.inl b,_,h2',rfl,(by rw[h4 b,aaU hb]),?_⟩;refine k _ ⟨⟨dx,by rw[Zc o1];exact ym⟩,S1.other _ (ac5 o3) o5,⟨_,Za,⟨a0n (ZgR _ _) h3.1,h3.2.drop b⟩,λx=>?_⟩,R.nd.erase b,R.s0,R.s1⟩ λx o e n1 n2=>?_
 .rw [HE,h4 x];by_cases c:x=b
  .subst c;rw[aaU rfl,afn (λm=>((aRI R.nd).mp m).1 rfl)]
  .rw [afn (λz=>c (aKC z))];by_cases m:x∈seq
   .rw [aaU m,aaU ((aRI R.nd).mpr ⟨c,m⟩)]
   .rw [afn m,afn (λz=>m (aWM z))]
 .rw [Zc n1,Zc (λz:x=ad=>n2 (z ▸w6))];exact e
def bump(us:Int->Int)(b:Int):Int->Int:=λx=>if x=b then us b+1 else us x
inductive Av(K:W.Frag)(vs:List V)(H:Hp)(Q:VK)(E:XK):Prop
 |mk (p:Addr) (b sh pl:Int) (ru:Str) (ls:Addr) (aq:List Addr) (du:Addr) (seq:List Int) (us:Int->Int) (n:Nat):vs=[.ref p,.int b]->aD K H p sh pl ru ls aq du seq us n->n<=900->b∈seq->seq.length<=900->(∀H',aD K H' p sh pl ru ls aq du (if ru ="old" then seq.erase b++[b] else seq) (bump us b) (n+1)->SR aq du H H'->Q .aS H')->Av K vs H Q E
example:(qh Gk wD tN):=by
 obtain ⟨p,b,sh,pl,ru,ls,aq,du,seq,us,n,rfl,R,hn,hb,hsl,k⟩:=h;refine⟨_,(Zd (Zo (Zj wD hr.m T.fj (pv 0) (pc (pv 1) Zb)))
   (Zd (YV hu (Zk (K:=K) rfl (pv 0) rfl) (pv 1) Zi Yd (λ_ _ _=>rfl))
   (Zh (aI (ZB bM (Zk (K:=K) rfl (pv 0) rfl) ZX (Zx _)) (Zd (dw 2 nd (Zj tN hr.m T.fj (pv 0) (pc (pv 1) Zb)))
   (Zd (Zo (Bj (K:=K) rfl (jr bbb PySem.F.slot_list_remove PySem.F.type_list_remove Sv (pv 2) (pc (pv 1) Zb))))
   (Zh (Zo (Bj (K:=K) rfl (jr bbb a0y aot CW (pv 2) (pc (pv 1) Zb))))))) Zt)))),?_⟩
 obtain⟨dx,h1⟩:=R.ob;obtain⟨kvs,h2,h3,h4⟩:=R.dc;obtain⟨o1,o2,o3,o4,o5,o6⟩:=R.off;refine⟨_,rfl,p,dx,_,rfl,h1,bT ..,_,rfl,p,b,sh,pl,ru,ls,aq,du,seq,us,n,rfl,R,hb,?_⟩;refine⟨_,rfl,p,_,dx,_,_,rfl,h1,T.fj,T.BE,D7 ..,_,rfl,du,_,rfl,(by have q:=e8.k (k:=Sum.inl b) h2;rw[h4 b,aaU hb]at q;exact q),_,_,rfl,rfl,_,mL.k (k:=Sum.inl b) h2 (Zz (by lia)),?_⟩;have R1:aD K (upd H du (.dK (putK kvs (Sum.inl b) (.int (us b+1))))) p sh pl ru ls aq du seq (bump us b) (n+1):=by
  refine⟨⟨dx,by rw[Zc o1];exact h1⟩,R.st.other _ (ac5 o3) o5,⟨_,Za,⟨a0n (Kz ..) (by have:=h3.1;lia),h3.2.put b _⟩,λx=>?_⟩,R.nd,R.s0,R.s1⟩;rw[HK];unfold bump;by_cases c:x=b
  .subst c;rw[aaU rfl,aaU hb,aaU rfl]
  .rw [afn (λz=>c (aKC z)),h4 x,afn c]
 have s1:SR aq du H (upd H du (.dK (putK kvs (Sum.inl b) (.int (us b+1))))):=λx o e n1 n2=>by rw[Zc n1];exact e
 generalize upd H du (.dK (putK kvs (Sum.inl b) (.int (us b+1))))=H1 at *;obtain⟨cS,g1⟩:=R1.ob;refine⟨_,rfl,p,_,cS,_,_,rfl,g1,T.fj,T.LR,Ro ..,rfl,_,rfl,?_⟩;refine xS (λc=>?_) (λc=>?_)
 .have c':ru ="old":=by injection c
  rw[aaU c']at k;refine⟨_,rfl,p,cS,_,rfl,g1,bT ..,_,rfl,p,b,sh,pl,ru,ls,aq,du,seq,_,_,rfl,R1,λs ad es hs had=>?_⟩;have w6:ad∈aq:=bcc hs;have hmem:b∈Zm sh (b%sh) seq:=bz.mpr ⟨hb,rfl⟩;refine⟨_,rfl,.inl ⟨rfl,_,az.of had⟩,_,rfl,ad,_,b,rfl,rfl,had,hmem,?_⟩;have ll:((Zm sh (b%sh) seq).erase b).length<=900:=a0n List.length_erase_le (a0n (azh ..) hsl);refine⟨_,rfl,.inl ⟨rfl,_,az.of Za⟩,_,rfl,ad,_,_,rfl,rfl,Za,Zz (by rw[axO];lia),?_⟩;rw[Nm];have e1:(((Zm sh (b%sh) seq).erase b).map V.int++[V.int b])=((Zm sh (b%sh) seq).erase b++[b]).map V.int:=by rw[ado];rfl
  have S2:ua (upd H1 ad (.lst (((Zm sh (b%sh) seq).erase b++[b]).map V.int))) ls aq sh (seq.erase b++[b]):=by
   refine R1.st.put hs ?_ λs' hs'=>?_
   .rw [HM,aaU es.symm,HR,es]
   .rw [HM,afn (by lia),HR];exact bat λm=>hs' (by have:=(bz.mp m).2;lia)
  have np:p≠ad:=λz=>o2 (z ▸w6);have LC:du≠ad:=λz=>o5 (z ▸w6);obtain⟨LO,g2,g3,g4⟩:=R1.dc;have Po:∀x,x∈seq.erase b++[b]↔x∈seq:=λx=>by
   rw[mem_append,mem_singleton,aRI R.nd];constructor
   .rintro (⟨_,m⟩|rfl)
    .exact m
    .exact hb
   .intro m;by_cases z:x=b
    .exact .inr z
    .exact .inl ⟨z,m⟩
  rw[e1];refine k _ ⟨⟨cS,by rw[Zc np];exact g1⟩,S2,⟨LO,by rw[Zc LC];exact g2,g3,λx=>?_⟩,?_,R.s0,R.s1⟩ λx o e n1 n2=>?_
  .rw [g4 x];by_cases m:x∈seq
   .rw [aaU m,aaU ((Po x).mpr m)]
   .rw [afn m,afn (λz=>m ((Po x).mp z))]
  .refine Ea (R.nd.erase b) λm=>((aRI R.nd).mp m).1 rfl
  .rw [Zc (λz:x=ad=>n2 (z ▸w6))];exact s1 _ _ e n1 n2
 .have c':¬ru ="old":= λz=>c (by rw[z]);rw[afn c']at k;exact k _ R1 s1
def cN(seq:List Int):Option Int->List Int
 |none=>seq
 |some g=>seq.erase g
def dR(ru:Str)(us:Int->Int)(pl:Int)(ms:List Int)(gone:Option Int):Prop:=
 ((ms.length:Int)<pl->gone=none)/\(¬(ms.length:Int)<pl->∃(g:Int)(rest:List Int),gone=some g/\(g ::rest).Perm ms/\(ru ="few" ->(g ::rest).Pairwise (Ac us ms))/\(ru ≠ "few" ->g ::rest=ms))
theorem qq{seq:List Int}{g:Option Int}:(cN seq g).Sublist seq:=by
 cases g with
 |none=>exact List.Sublist.refl _
 |some g=>exact List.erase_sublist
inductive vL(K:W.Frag)(vs:List V)(H:Hp)(Q:VK)(E:XK):Prop
 |mk (p dx:Addr) (sh pl:Int) (ru:Str):vs=[.ref p,.int sh,.int pl,.str ru]->H p=some (.ins (af K "Room") dx [])->1<=sh->sh<=64->(∀(ls:Addr)(aq:List Addr)(du:Addr)(H':Hp),aD K H' p sh pl ru ls aq du [] (λ_=>0) 0->H ls=none->H du=none->(∀ad∈aq,H ad=none)->(∀b o,H b=some o->b≠p->H' b=some o)->Q .aS H')->vL K vs H Q E
example:(n8 Gd):=by
 obtain ⟨p,dx,sh,pl,ru,rfl,hp,hs0,hs1,k⟩:=h;refine⟨_,(Zd (qF (pv 0) (pv 1) rfl)
   (Zd (qF (pv 0) (pv 2) rfl)
   (Zd (qF (pv 0) (pv 3) rfl)
   (Zd (qF (pv 0) (ZZ (ZK (kF:=(Zr eN)) (oN:=qR) (N:=["number"]) (own:=1) (js:=[]) (by decide +kernel) rfl rfl) rfl (Bm rfl T.vB (pc (pv 1) Zb)) (λ_ _ _ _ _ _=>(cu 0 (show List.Nodup (["number"]:List Str) by decide +kernel))) (λ_ _ _ _ _ _=>(qE Zb))) rfl)
   (Zh (qF (pv 0) Kh rfl)))))),?_⟩
 refine⟨_,rfl,_,rfl,p,_,dx,_,rfl,hp,T.fj,T.O4,(by show 0<1000;decide),?_⟩;refine⟨_,rfl,_,rfl,p,_,dx,_,rfl,Za,T.fj,T.O3,(by show 1<1000;decide),?_⟩;refine⟨_,rfl,_,rfl,p,_,dx,_,rfl,Za,T.fj,T.LR,(by show 2<1000;decide),?_⟩;have e3:upd (upd (upd H p (.ins (af K "Room") dx (ah "shelves" (.int sh) []))) p (.ins (af K "Room") dx (ah "places" (.int pl) (ah "shelves" (.int sh) [])))) p (.ins (af K "Room") dx (ah "rule" (.str ru) (ah "places" (.int pl) (ah "shelves" (.int sh) [])))) p=some (.ins (af K "Room") dx (ah "rule" (.str ru) (ah "places" (.int pl) (ah "shelves" (.int sh) [])))):=Za;have o3:∀b o,H b=some o->b≠p->upd (upd (upd H p (.ins (af K "Room") dx (ah "shelves" (.int sh) []))) p (.ins (af K "Room") dx (ah "places" (.int pl) (ah "shelves" (.int sh) [])))) p (.ins (af K "Room") dx (ah "rule" (.str ru) (ah "places" (.int pl) (ah "shelves" (.int sh) [])))) b=some o:=λb o e n=>by rw[Zc n,Zc n,Zc n];exact e
 generalize upd (upd (upd H p (.ins (af K "Room") dx (ah "shelves" (.int sh) []))) p (.ins (af K "Room") dx (ah "places" (.int pl) (ah "shelves" (.int sh) [])))) p (.ins (af K "Room") dx (ah "rule" (.str ru) (ah "places" (.int pl) (ah "shelves" (.int sh) []))))=H3 at *;have f3:∀b,H3 b=none->H b=none:=λb e=>by
  cases q:H b with
  |none=>rfl
  |some o=>
   by_cases z:b=p
   .rw [z,e3]at e;cases e
   .rw [o3 b o q z]at e;cases e
 refine⟨_,rfl,sh,rfl,by lia,by lia,λls hls=>?_⟩;refine HN (lo:=0) (n:=sh.toNat) (l:=ls) (λj ys σ G=>∃(v0:Option V)(aq:List Addr),σ=[v0]/\ys=aq.map V.ref/\aq.length=j/\aq.Nodup/\ls∉aq/\G ls=some (.lst ys)/\(∀ad∈aq,H3 ad=none/\G ad=some (.lst []))/\aB H3 G)
  ⟨none,[],rfl,rfl,rfl,nodup_nil,by simp,Za,by simp,Ze hls _⟩ ?_ ?_
 .rintro j ys σ G hj hy ⟨v0,aq,rfl,rfl,hlen,hnd,hoff,g1,g2,s1⟩;refine⟨(sL 0),λq hq=>?_⟩;have nq:ls≠q:=Zf g1 hq;have OL:q∉aq:=λm=>by rw[(g2 q m).2]at hq;cases hq
  refine oS.of (a0n (by lia:sh.toNat<=64) (by decide)) hj hy (by rw[Zc nq];exact g1) ⟨_,aq++[q],rfl,by rw[ado];rfl,by rw[aKe,hlen];rfl,Ea hnd OL,?_,Za,λad m=>?_,?_⟩
  .intro m;rcases aaI.mp m with m|m
   .exact hoff m
   .exact nq (by simpa using m)
  .rcases aaI.mp m with m|m
   .rw [Zc (λz:ad=ls=>hoff (z ▸m)),Zc (λz:ad=q=>OL (z ▸m))];exact g2 ad m
   .have e:ad=q:=by simpa using m
    subst e;rw[Zc (ac5 nq)];exact⟨s1.free hq,Za⟩
  .intro e o y;rw[Zc (Zf y hls),Zc (Zf (s1 _ _ y) hq)];exact s1 _ _ y
 rintro ys σ G hy ⟨v0,aq,rfl,rfl,hlen,hnd,hoff,g1,g2,s1⟩;have gp:=s1 _ _ e3;refine⟨_,rfl,p,_,dx,_,rfl,gp,T.fj,T.O6,(by show 3<1000;decide),?_⟩;intro du zy;have LB:ls≠p:=λz=>by rw[z,e3]at hls;cases hls
 have OR:∀ad∈aq,ad≠p:=λad m z=>by have q:=(g2 ad m).1;rw[z,e3]at q;cases q
 have DG:p≠du:=Zf (Za (H:=G) (a:=p) (o:=.ins (af K "Room") dx (ah "standing" (.ref ls) (ah "rule" (.str ru) (ah "places" (.int pl) (ah "shelves" (.int sh) [])))))) zy;have gl:ls≠du:=λz=>by rw[<-z,Zc LB,g1]at zy;cases zy
 have ga:du∉aq:=λm=>by rw[Zc (ac5 DG),(g2 du m).2]at zy;cases zy
 refine⟨_,rfl,p,_,dx,_,rfl,(by rw[Zc DG];exact Za),T.fj,T.BE,(by show 4<1000;decide),?_⟩;have GD:H3 du=none:=by
  rw[Zc (ac5 DG)]at zy;exact s1.free zy
 refine k ls aq du _ ⟨⟨dx,Za⟩,⟨?_,hlen,hnd,hoff,λi ad e=>?_⟩,⟨[],?_,⟨ags _,KI.nil⟩,λb=>by simp[aV]⟩,nodup_nil,hs0,hs1⟩ (f3 _ hls) (f3 _ GD) (λad m=>f3 _ (g2 ad m).1) λb o e n=>?_
 .rw [Zc LB,Zc gl,Zc LB];exact g1
 .have m:=bcc e;rw[Zc (OR ad m),Zc (λz:ad=du=>ga (z ▸m)),Zc (OR ad m)];exact(g2 ad m).2
 .rw [Zc (ac5 DG)];exact Za
 .have q:=s1 _ _ (o3 b o e n);have nb:b≠du:=λz=>by
   rw[<-z,Zc n,q]at zy;cases zy
  rw[Zc n,Zc nb,Zc n];exact q
def zero(us:Int->Int)(b:Int):Int->Int:=λx=>if x=b then 0 else us x
inductive sZ(K:W.Frag)(vs:List V)(H:Hp)(Q:VK)(E:XK):Prop
 |mk (p:Addr) (b sh pl:Int) (ru:Str) (ls:Addr) (aq:List Addr) (du:Addr) (seq:List Int) (us:Int->Int) (n:Nat):vs=[.ref p,.int b]->aD K H p sh pl ru ls aq du seq us n->Tb K H->n<=900->b∉seq->1<=pl->(Zm sh (b%sh) seq).length<64->(∀(gone:Option Int)(H':Hp),dR ru us pl (Zm sh (b%sh) seq) gone->aD K H' p sh pl ru ls aq du (cN seq gone++[b]) (zero us b) (n+1)->SR aq du H H'->Q (uz gone) H')->sZ K vs H Q E
inductive pG(K:W.Frag)(vs:List V)(H:Hp)(Q:VK)(E:XK):Prop
 |mk (p:Addr) (b sh pl:Int) (ru:Str) (ls:Addr) (aq:List Addr) (du:Addr) (seq:List Int) (us:Int->Int) (n:Nat):vs=[.ref p,.int b]->aD K H p sh pl ru ls aq du seq us n->Tb K H->1<=pl->(Zm sh (b%sh) seq).length<64->(∀(gone:Option Int)(H':Hp),dR ru us pl (Zm sh (b%sh) seq) gone->aB H H'->Q (uz gone) H')->pG K vs H Q E
example:(gk AM tN EE):=by
 obtain ⟨p,b,sh,pl,ru,ls,aq,du,seq,us,n,rfl,R,tb,hpl,h64,k⟩:=h;refine⟨_,(Zd (dw 2 nd (Zj tN hr.m T.fj (pv 0) (pc (pv 1) Zb)))
   (Zd (aI (ZB qd (Zp (ZE (K:=K) rfl) rfl T.zv aOy (pc (pv 2) Zb)) (Zk (K:=K) rfl (pv 0) rfl) (Zx _)) (Zh (Zs Qu)) Zt)
   (Zh (Zs (av (Zn (K:=K) rfl) (Zj EE hr.m T.fj (pv 0) (pc (pv 2) Zb)) Zi (λ_ _=>rfl)))))),?_⟩
 obtain⟨dx,h1⟩:=R.ob;refine⟨_,rfl,p,dx,_,rfl,h1,bT ..,_,rfl,p,b,sh,pl,ru,ls,aq,du,seq,us,n,rfl,R,λs ad es hs had=>?_⟩;have hnd:(Zm sh (b%sh) seq).Nodup:=R.nd.sublist List.filter_sublist;refine⟨_,rfl,ad,_,rfl,.inl (az.of had),_,rfl,p,_,dx,_,_,rfl,h1,T.fj,T.O3,ZgQ ..,_,_,rfl,rfl,_,rfl,?_⟩;rw[axO];refine xS (λc=>?_) (λc=>?_)
 .exact k none H ⟨λ_=>rfl,λz=>absurd z (by lia)⟩ (aB.refl _)
 .refine ⟨_,rfl,p,dx,_,rfl,h1,bT ..,_,rfl,p,ad,Zm sh (b%sh) seq,sh,pl,ru,ls,aq,du,seq,us,n,rfl,R,tb,had,h64,hnd,(λx m=>(bz.mp m).1),λD H' os hD sm hl po s1 s2=>?_⟩;have lo:=po.length_eq
  match os,hl,po,s1,s2,lo with
  | [],_,_,_,_,lo=>exact absurd lo (by simp;lia)
  |g ::rest,hl,po,s1,s2,lo=>
   refine⟨D,_,_,_,rfl,rfl,az.of hl,fO,?_⟩;exact k (some g) H' ⟨λz=>absurd c (by lia),λ_=>⟨g,rest,rfl,po,s1,s2⟩⟩ sm
example:(lV Ej wJ AM tN Ak):=by
 obtain ⟨p,b,sh,pl,ru,ls,aq,du,seq,us,n,rfl,R,tb,hn,hb,hpl,h64,k⟩:=h;refine⟨_,(Zd (aI (ZC (Zj wJ hr.m T.fj (pv 0) (pc (pv 1) Zb))) (Zh wK) Zt)
   (Zd (dw 2 nd (Zj AM hr.m T.fj (pv 0) (pc (pv 1) Zb)))
   (Zd (aI (JI (Nl (pv 2))) (Zh (Zo (Zj Ak hr.m T.fj (pv 0) (pc (pv 2) Zb)))) Zt)
   (Zd (Zo (Bj (K:=K) rfl (jr bbb a0y aot CW (Zj tN hr.m T.fj (pv 0) (pc (pv 1) Zb)) (pc (pv 1) Zb))))
   (Zd (J2 hu (Zk (K:=K) rfl (pv 0) rfl) (pv 1) Zi rfl)
   (Zh (Zs (pv 2)))))))),?_⟩
 obtain⟨dx,h1⟩:=R.ob;refine⟨_,rfl,p,dx,_,rfl,h1,bT ..,_,rfl,p,b,sh,pl,ru,ls,aq,du,seq,us,n,rfl,R,?_⟩;rw[a4I hb];refine⟨_,rfl,cO rfl ?_⟩;refine⟨_,rfl,p,dx,_,rfl,h1,bT ..,_,rfl,p,b,sh,pl,ru,ls,aq,du,seq,us,n,rfl,R,tb,hpl,h64,λgone H1 gp sm=>?_⟩;refine gN ?_;dsimp only;have R0:=R.same sm;have hnd:(Zm sh (b%sh) seq).Nodup:=R.nd.sublist List.filter_sublist;refine CJ (λσ G=>σ=[some (.ref p),some (.int b),some (uz gone)]/\aD K G p sh pl ru ls aq du (cN seq gone) us n/\SR aq du H G) (λD' _ k'=>?_) ?_
 .match gone,gp with
  |none,gp=>exact⟨_,rfl,_,rfl,cO rfl (k' _ _ ⟨rfl,R0,SR.of sm⟩)⟩
  |some g,gp=>
   have hg:g∈Zm sh (b%sh) seq:=by
    by_cases c:((Zm sh (b%sh) seq).length:Int)<pl
    .exact absurd (gp.1 c) (by simp)
    .obtain ⟨g',rest,e,po,_⟩:=gp.2 c;injection e with e
     subst e;exact po.mem_iff.mp aTL
   obtain⟨uF,ym⟩:=R0.ob;exact⟨_,rfl,_,rfl,fK rfl ⟨_,rfl,p,uF,_,rfl,ym,bT ..,_,rfl,p,g,sh,pl,ru,ls,aq,du,seq,us,n,rfl,R0,(bz.mp hg).1,λH2 R2 s3=>k' _ _ ⟨rfl,R2,(SR.of sm).trans s3⟩⟩⟩
 rintro _ G ⟨rfl,R1,s1⟩;obtain⟨cS,g1⟩:=R1.ob;obtain⟨kvs,g2,g3,g4⟩:=R1.dc;obtain⟨o1,o2,o3,o4,o5,o6⟩:=R1.off;refine⟨_,rfl,p,cS,_,rfl,g1,bT ..,_,rfl,p,b,sh,pl,ru,ls,aq,du,cN seq gone,us,n,rfl,R1,λs ad es hs WV=>?_⟩;have w6:ad∈aq:=bcc hs;have GF:=R1.st.at_ s ad hs;have ll:(Zm sh s (cN seq gone)).length<=64:=by
  have q:(Zm sh s (cN seq gone)).Sublist (Zm sh s seq):=List.Sublist.filter _ (qq (g:=gone));have q2:=q.length_le;rw[es]at q2 ⊢;lia
 refine⟨.inl ⟨rfl,_,az.of GF⟩,_,rfl,ad,_,_,rfl,rfl,GF,Zz (by rw[axO];lia),?_⟩;have nb:b∉cN seq gone:=λm=>hb (qq.subset m);have e1:((Zm sh s (cN seq gone)).map V.int++[V.int b])=(Zm sh s (cN seq gone)++[b]).map V.int:=by rw[ado];rfl
 rw[e1];have S2:ua (upd G ad (.lst ((Zm sh s (cN seq gone)++[b]).map V.int))) ls aq sh (cN seq gone++[b]):=by
  refine R1.st.put hs ?_ λs' hs'=>?_
  .rw [HM,aaU es.symm]
  .rw [HM,afn (by lia)]
 have np:p≠ad:=λz=>o2 (z ▸w6);have LC:du≠ad:=λz=>o5 (z ▸w6);have Jw:upd G ad (.lst ((Zm sh s (cN seq gone)++[b]).map V.int)) p=some (.ins (af K "Room") cS (gv sh pl ru ls du)):=by rw[Zc np];exact g1
 have W7:upd G ad (.lst ((Zm sh s (cN seq gone)++[b]).map V.int)) du=some (.dK kvs):=by rw[Zc LC];exact g2
 refine⟨_,rfl,p,_,cS,_,_,rfl,Jw,T.fj,T.BE,D7 ..,_,rfl,du,_,rfl,mL.k (k:=Sum.inl b) W7 (Zz (by lia)),?_⟩;refine⟨_,rfl,k gone _ gp ⟨⟨cS,by rw[Zc o1];exact Jw⟩,S2.other _ (ac5 o3) o5,⟨_,Za,⟨a0n (Kz ..) (by have:=g3.1;lia),g3.2.put b _⟩,λx=>?_⟩,Ea R1.nd nb,R.s0,R.s1⟩ λx o e n1 n2=>?_⟩
 .rw [HK];unfold zero;by_cases c:x=b
  .subst c;rw[aaU rfl,aaU (bax _ (apU.mpr rfl)),aaU rfl]
  .rw [afn (λz=>c (aKC z)),g4 x,afn c];by_cases m:x∈cN seq gone
   .rw [aaU m,aaU (a96 _ m)]
   .rw [afn m,afn (λz=>(aaI.mp z).elim m λq=>c (apU.mp q))]
 .rw [Zc n1,Zc (λz:x=ad=>n2 (z ▸w6))];exact s1 _ _ e n1 n2
theorem CM:∀{a b:List Int},a.Nodup->(∀x∈a,x∈b)->a.length<=b.length
 | [],_,_,_=>aL2 _
 |x ::a,b,nd,h=>by
  have IZ:=baB.mp nd;have mx:=h x aTL;have q:=CM (b:=b.erase x) IZ.2 λy hy=>(mem_erase_of_ne (λz:y=x=>IZ.1 (by rw[<-z];exact hy))).mpr (h y (arx _ hy));rw[List.length_erase_of_mem mx]at q;have:=List.length_pos_of_mem mx;show a.length+1<=b.length;lia
theorem Rl{kvs:List (Key×V)}{seq:List Int}(h:KI kvs)(nd:seq.Nodup)(e:∀b,(aV kvs (Sum.inl b:Key)).isSome=true↔b∈seq):kvs.length=seq.length:=by
 obtain⟨ks,h4,h5⟩:=h;have per:ks.Perm seq:=by
  refine(bbm h5 nd).mpr λb=>?_;rw[<-e b,CZ,h4,mem_map];constructor
  .intro m;exact⟨b,m,rfl⟩
  .rintro ⟨x,hx,q⟩;rw[<-aKC q];exact hx
 have l:=azy List.length h4;rw[axO,axO]at l;rw[l,per.length_eq]
theorem aD.norm{K:W.Frag}{H:Hp}{p:Addr}{sh pl:Int}{ru:Str}{ls:Addr}{aq:List Addr}{du:Addr}{seq:List Int}{us:Int->Int}{n:Nat}(R:aD K H p sh pl ru ls aq du seq us n):aD K H p sh pl ru ls aq du seq us seq.length:=by
 obtain⟨kvs,h2,⟨h3,h5⟩,h4⟩:=R.dc;refine⟨R.ob,R.st,⟨kvs,h2,⟨a1S (Rl h5 R.nd λb=>?_),h5⟩,h4⟩,R.nd,R.s0,R.s1⟩;rw[h4 b];by_cases c:b∈seq
 .simp [c]
 .simp [c]
structure SA where
 sp:Addr
 rp:Addr
 ls:Addr
 aq:List Addr
 du:Addr
 dh:Addr
 df:Addr
structure Cf where
 sh:Int
 pl:Int
 ru:Str
 late:Bool
def bJ(rp:Addr)(late:Bool)(dh df:Addr):List (Str×V):=ah "fresh" (.ref df) (ah "held" (.ref dh) (ah "late" (.bl late) (ah "room" (.ref rp) [])))
theorem HD(rp:Addr)(late:Bool)(dh df:Addr):(bJ rp late dh df).lookup ("fresh":Str)=some (.ref df):=by
 unfold bJ;rw[Zg,aaU rfl]
theorem JU(rp:Addr)(late:Bool)(dh df:Addr):(bJ rp late dh df).lookup ("held":Str)=some (.ref dh):=by
 unfold bJ;rw[Zg,afn (by decide +kernel),Zg,aaU rfl]
theorem Rj(rp:Addr)(late:Bool)(dh df:Addr):(bJ rp late dh df).lookup ("late":Str)=some (.bl late):=by
 unfold bJ;rw[Zg,afn (by decide +kernel),Zg,afn (by decide +kernel),Zg,aaU rfl]
theorem CY(rp:Addr)(late:Bool)(dh df:Addr):(bJ rp late dh df).lookup ("room":Str)=some (.ref rp):=by
 unfold bJ;rw[Zg,afn (by decide +kernel),Zg,afn (by decide +kernel),Zg,afn (by decide +kernel),Zg,aaU rfl]
theorem bW(rp:Addr)(late:Bool)(dh df:Addr){m:Str}(h1:¬m ="fresh":=by decide +kernel)(h2:¬m ="held":=by decide +kernel)(h3:¬m ="late":=by decide +kernel)(h4:¬m ="room":=by decide +kernel):(bJ rp late dh df).lookup m=none:=by
 unfold bJ;rw[Zg,afn h1,Zg,afn h2,Zg,afn h3,Zg,afn h4];rfl
structure Rm where
 seq:List Int
 us:Int->Int
 wd:Int->List Int
 fr:Int->Bool
def Mt:HO->Prop
 | .lst _=>True
 | .dK _=>True
 | .ins _ _ _=>True
 |_=>False
structure bR(O:Addr->Prop)(H H':Hp)(O':Addr->Prop):Prop where
 kp:∀x o,H x=some o->(O x->¬Mt o)->H' x=some o
 fr:∀x,O' x->O x\/H x=none
theorem bR.trans{O O1 O2:Addr->Prop}{H H1 H2:Hp}(a:bR O H H1 O1)(b:bR O1 H1 H2 O2):bR O H H2 O2:=by
 refine⟨λx o e n=>b.kp x o (a.kp x o e n) λh=>(a.fr x h).elim n (λz=>by rw[e]at z;cases z),λx h=>(b.fr x h).elim (a.fr x) λz=>?_⟩;by_cases c:O x
 .exact .inl c
 .cases q:H x with
  |none=>exact .inr rfl
  |some o=>rw[a.kp x o q λh=>absurd h c]at z;cases z
theorem bR.same{O:Addr->Prop}{H H':Hp}(s:aB H H'):bR O H H' O:=⟨λx o e _=>s x o e,λ_ h=>.inl h⟩
theorem aD.frame{K:W.Frag}{H H':Hp}{p:Addr}{sh pl:Int}{ru:Str}{ls:Addr}{aq:List Addr}{du:Addr}{seq:List Int}{us:Int->Int}{n:Nat}(R:aD K H p sh pl ru ls aq du seq us n)(h:∀x o,x=p\/x=ls\/x∈aq\/x=du->H x=some o->H' x=some o):aD K H' p sh pl ru ls aq du seq us n:=by
 obtain⟨dx,h1⟩:=R.ob;obtain⟨kvs,h2,h3⟩:=R.dc;exact⟨⟨dx,h _ _ (.inl rfl) h1⟩,⟨h _ _ (.inr (.inl rfl)) R.st.top,R.st.len,R.st.nd,R.st.off,λi ad e=>h _ _ (.inr (.inr (.inl (bcc e)))) (R.st.at_ i ad e)⟩,⟨kvs,h _ _ (.inr (.inr (.inr rfl))) h2,h3⟩,R.nd,R.s0,R.s1⟩
structure bQ(H:Hp)(dh ls:Addr)(aq:List Addr)(O:Addr->Prop)(seq:List Int)(wd:Int->List Int)(kvs:List (Key×V))(wl:Int->Addr):Prop where
 dc:H dh=some (.dK kvs)
 ki:KI kvs
 v:∀b,aV kvs (Sum.inl b:Key)=if b∈seq then some (.ref (wl b)) else none
 at_:∀b∈seq,H (wl b)=some (.lst ((wd b).map V.int))/\O (wl b)/\wl b∉aq/\wl b≠ls
 inj:∀b∈seq,∀c∈seq,wl b=wl c->b=c
structure gf(K:W.Frag)(H:Hp)(a:SA)(c:Cf)(seq:List Int)(us:Int->Int)(O:Addr->Prop):Prop where
 ob:∃dx,H a.sp=some (.ins (af K "Store") dx (bJ a.rp c.late a.dh a.df))
 room:aD K H a.rp c.sh c.pl c.ru a.ls a.aq a.du seq us seq.length
 d1:∃kvs,H a.dh=some (.dK kvs)
 d2:∃kvs,H a.df=some (.dK kvs)
 n1:a.du≠a.dh
 n2:a.df≠a.dh
 n3:a.df≠a.du
 own:∀x,x=a.sp\/x=a.rp\/x=a.ls\/x∈a.aq\/x=a.du\/x=a.dh\/x=a.df->O x
 ex:∀x,O x->H x≠none
structure ay(K:W.Frag)(H:Hp)(a:SA)(c:Cf)(s:Rm)(O:Addr->Prop):Prop where
 aW:gf K H a c s.seq s.us O
 held:∃kvs wl,bQ H a.dh a.ls a.aq O s.seq s.wd kvs wl
 fresh:∃kvs,H a.df=some (.dK kvs)/\KI kvs/\∀b,aV kvs (Sum.inl b:Key)=if s.fr b=true then some (.bl true) else none
 xG:∀b,s.fr b=true->b∈s.seq
section
variable{K:W.Frag}{H H':Hp}{a:SA}{c:Cf}{s:Rm}{O O':Addr->Prop}{kvs:List (Key×V)}{wl:Int->Addr}{seq:List Int}{us:Int->Int}
theorem bQ.frame{dh ls:Addr}{aq:List Addr}{wd:Int->List Int}(h:bQ H dh ls aq O seq wd kvs wl)(hO:O dh)(f:∀x o,O x->H x=some o->H' x=some o):bQ H' dh ls aq O seq wd kvs wl:=
 ⟨f _ _ hO h.dc,h.ki,h.v,λb m=>⟨f _ _ (h.at_ b m).2.1 (h.at_ b m).1,(h.at_ b m).2⟩,h.inj⟩
theorem Bb{x:Addr}(h:H x≠none)(f:∀o,H x=some o->H' x=some o):H' x≠none:=λz=>by
 cases q:H x with
 |none=>exact h q
 |some o=>rw[f o q]at z;cases z
theorem MW{x y:Addr}{o:HO}(h:H x≠none):upd H y o x≠none:=by
 by_cases z:x=y
 .rw [z,Za];simp
 .rw [Zc z];exact h
theorem gf.frame(S:gf K H a c seq us O)(f:∀x o,O x->H x=some o->H' x=some o):gf K H' a c seq us O:=by
 obtain⟨dx,h1⟩:=S.ob;obtain⟨k1,h2⟩:=S.d1;obtain⟨k2,h3⟩:=S.d2;exact⟨⟨dx,f _ _ (S.own _ (by simp)) h1⟩,S.room.frame λx o m e=>f x o (S.own x (by rcases m with m|m|m|m <;> simp[m])) e,⟨k1,f _ _ (S.own _ (by simp)) h2⟩,⟨k2,f _ _ (S.own _ (by simp)) h3⟩,S.n1,S.n2,S.n3,S.own,λx h=>Bb (S.ex x h) λo=>f x o h⟩
theorem ay.frame(S:ay K H a c s O)(f:∀x o,O x->H x=some o->H' x=some o):ay K H' a c s O:=by
 obtain⟨kvs,wl,h2⟩:=S.held;obtain⟨kf,h3,h4⟩:=S.fresh;exact⟨S.aW.frame f,⟨kvs,wl,h2.frame (S.aW.own _ (by simp)) f⟩,⟨kf,f _ _ (S.aW.own _ (by simp)) h3,h4⟩,S.xG⟩
theorem gf.same(S:gf K H a c seq us O)(h:aB H H'):gf K H' a c seq us O:=S.frame λx o _ e=>h x o e
theorem gf.kinds(S:gf K H a c seq us O){x:Addr}{kvs:List (Key×V)}(h:H x=some (.dK kvs)):x≠a.sp/\x≠a.rp/\x≠a.ls/\x∉a.aq:=by
 obtain⟨dx,h1⟩:=S.ob;obtain⟨dr,h2⟩:=S.room.ob;refine⟨λz=>?_,λz=>?_,λz=>?_,λm=>?_⟩
 .rw [<-z,h]at h1;cases h1
 .rw [<-z,h]at h2;cases h2
 .have q:=S.room.st.top;rw[<-z,h]at q;cases q
 .obtain ⟨xs,e⟩:=S.room.st.one m;rw[h]at e;cases e
theorem gf.put(S:gf K H a c seq us O){x:Addr}(hx:x=a.dh\/x=a.df)(kvs:List (Key×V)):gf K (upd H x (.dK kvs)) a c seq us O:=by
 obtain⟨kx,ex⟩:∃kx,H x=some (.dK kx):=hx.elim (λz=>z ▸S.d1) λz=>z ▸S.d2;obtain⟨q1,q2,q3,q4⟩:=S.kinds ex;have nu:x≠a.du:=hx.elim (λz=>z ▸ac5 S.n1) λz=>z ▸S.n3;obtain⟨dx,h1⟩:=S.ob;have dd:∀{y},(∃k,H y=some (.dK k))->∃k,upd H x (.dK kvs) y=some (.dK k):=λ{y} h=>by
  by_cases z:y=x
  .rw [z,Za];exact⟨_,rfl⟩
  .rw [Zc z];exact h
 exact⟨⟨dx,by rw[Zc (ac5 q1)];exact h1⟩,S.room.frame λy o m e=>by
  rw[Zc (λz:y=x=>by subst z;exact m.elim q2 λm=>m.elim q3 λm=>m.elim q4 nu)];exact e,dd S.d1,dd S.d2,S.n1,S.n2,S.n3,S.own,λy h=>MW (S.ex y h)⟩
theorem gf.mono(S:gf K H a c seq us O)(h1:∀x,x=a.sp\/x=a.rp\/x=a.ls\/x∈a.aq\/x=a.du\/x=a.dh\/x=a.df->O' x)(h2:∀x,O' x->H x≠none):gf K H a c seq us O':=⟨S.ob,S.room,S.d1,S.d2,S.n1,S.n2,S.n3,h1,h2⟩
theorem gf.iz{seq':List Int}{us':Int->Int}{n:Nat}(S:gf K H a c seq us O)(R:aD K H' a.rp c.sh c.pl c.ru a.ls a.aq a.du seq' us' n)(r:SR a.aq a.du H H'):gf K H' a c seq' us' O:=by
 obtain⟨dx,h1⟩:=S.ob;obtain⟨k1,h2⟩:=S.d1;obtain⟨k2,h3⟩:=S.d2;refine⟨⟨dx,r.keep S.room h1 (λ_ z=>by cases z) (λ_ z=>by cases z)⟩,R.norm,⟨k1,r _ _ h2 (ac5 S.n1) (S.kinds h2).2.2.2⟩,⟨k2,r _ _ h3 S.n3 (S.kinds h3).2.2.2⟩,S.n1,S.n2,S.n3,S.own,λx h=>?_⟩;by_cases z:x=a.du
 .obtain ⟨kv,e,_⟩:=R.dc;rw[z,e];simp
 .by_cases m:x∈a.aq
  .obtain ⟨xs,e⟩:=R.st.one m;rw[e];simp
  .exact Bb (S.ex x h) λo e=>r x o e z m
theorem gf.dw(S:gf K H a c seq us O)(r:SR a.aq a.du H H'):bR O H H' O:=by
 refine⟨λx o e n=>r x o e (λz=>?_) λm=>?_,λ_ h=>.inl h⟩
 .obtain ⟨kv,q,_⟩:=S.room.dc;rw[z,q]at e;cases e;exact n (S.own x (by simp[z])) trivial
 .obtain ⟨xs,q⟩:=S.room.st.one m;rw[q]at e;cases e;exact n (S.own x (by simp[m])) trivial
theorem gf.Mg{wd:Int->List Int}{seq':List Int}(S:gf K H a c seq us O)(h:bQ H a.dh a.ls a.aq O seq' wd kvs wl)(r:SR a.aq a.du H H'):bQ H' a.dh a.ls a.aq O seq' wd kvs wl:=by
 obtain⟨kr,g,_⟩:=S.room.dc;exact⟨r _ _ h.dc (ac5 S.n1) (S.kinds h.dc).2.2.2,h.ki,h.v,λx m=>⟨r _ _ (h.at_ x m).1 (λz=>by have e:=(h.at_ x m).1;rw[z,g]at e;cases e) (h.at_ x m).2.2.1,(h.at_ x m).2⟩,h.inj⟩
theorem bQ.seqs{dh ls:Addr}{aq:List Addr}{seq':List Int}{wd:Int->List Int}(h:bQ H dh ls aq O seq wd kvs wl)(hs:∀b,b∈seq'↔b∈seq):bQ H dh ls aq O seq' wd kvs wl:=
 ⟨h.dc,h.ki,λb=>by rw[h.v b];exact ite_congr (propext (hs b).symm) (λ_=>rfl) λ_=>rfl,λb m=>h.at_ b ((hs b).mp m),λb m c m'=>h.inj b ((hs b).mp m) c ((hs c).mp m')⟩
theorem ay.iz{seq':List Int}{us':Int->Int}{n:Nat}(S:ay K H a c s O)(R:aD K H' a.rp c.sh c.pl c.ru a.ls a.aq a.du seq' us' n)(r:SR a.aq a.du H H')(hs:∀b,b∈seq'↔b∈s.seq):ay K H' a c ⟨seq',us',s.wd,s.fr⟩ O:=by
 obtain⟨kvs,wl,h2⟩:=S.held;obtain⟨kf,h3,h4⟩:=S.fresh;exact⟨S.aW.iz R r,⟨kvs,wl,(S.aW.Mg h2 r).seqs hs⟩,⟨kf,r _ _ h3 S.aW.n3 (S.aW.kinds h3).2.2.2,h4⟩,λb h=>(hs b).mpr (S.xG b h)⟩
theorem gf.wL(S:gf K H a c seq us O){x:Addr}(hx:x=a.dh\/x=a.df)(kvs:List (Key×V)):bR O H (upd H x (.dK kvs)) O:=by
 refine⟨λy o e n=>?_,λ_ h=>.inl h⟩;rw[Zc (λz=>?_)]
 .exact e
 obtain⟨kx,ex⟩:∃kx,H x=some (.dK kx):=hx.elim (λz=>z ▸S.d1) λz=>z ▸S.d2;rw[z,ex]at e;cases e;exact n (S.own y (by rw[z];rcases hx with h|h <;> simp[h])) trivial
theorem bQ.put{dh ls:Addr}{aq:List Addr}{seq':List Int}{wd:Int->List Int}(h:bQ H dh ls aq O seq wd kvs wl){b:Int}{l:Addr}(ws:List Int)(hl:H l=none)(ex:∀x,O x->H x≠none)(na:∀x∈aq,H x≠none)(nl:H ls≠none)(hs:∀x,x∈seq'↔x=b\/x∈seq) :
  bQ (upd (upd H l (.lst (ws.map V.int))) dh (.dK (putK kvs (Sum.inl b) (.ref l)))) dh ls aq (λx=>O x\/x=l) seq' (λx=>if x=b then ws else wd x) (putK kvs (Sum.inl b) (.ref l)) (λx=>if x=b then l else wl x):=by
 have nd:l≠dh:=λz=>by rw[z,h.dc]at hl;cases hl
 have nw:∀x∈seq,wl x≠l:=λx m z=>by have q:=(h.at_ x m).1;rw[z,hl]at q;cases q
 have md:∀x,x∈seq'->x≠b->x∈seq:=λx m n=>((hs x).mp m).resolve_left n;refine⟨Za,h.ki.put b _,λx=>?_,λx m=>?_,λx m y m' e=>?_⟩
 .rw [HK];by_cases z:x=b
  .rw [aaU (by rw[z]),aaU ((hs x).mpr (.inl z)),aaU z]
  .rw [afn (λq=>z (aKC q)),h.v x,afn z];exact ite_congr (propext ⟨λm=>(hs x).mpr (.inr m),λm=>md x m z⟩) (λ_=>rfl) λ_=>rfl
 .by_cases z:x=b
  .rw [aaU z,aaU z,Zc nd,Za];exact⟨rfl,.inr rfl,λm=>na l m hl,λq=>nl (q ▸hl)⟩
  .rw [afn z,afn z];obtain⟨e1,e2,e3,e4⟩:=h.at_ x (md x m z);exact⟨by rw[Zc (λq=>by rw[q,h.dc]at e1;cases e1),Zc (nw x (md x m z))];exact e1,.inl e2,e3,e4⟩
 .by_cases z:x=b
  .by_cases z':y=b
   .rw [z,z']
   .rw [aaU z,afn z']at e;exact absurd e.symm (nw y (md y m' z'))
  .by_cases z':y=b
   .rw [afn z,aaU z']at e;exact absurd e (nw x (md x m z))
   .rw [afn z,afn z']at e;exact h.inj x (md x m z) y (md y m' z') e
theorem ay.lZ(S:ay K H a c s O)(h:bQ H a.dh a.ls a.aq O s.seq s.wd kvs wl):kvs.length=s.seq.length:=by
 refine Rl h.ki S.aW.room.nd λb=>?_;rw[h.v b];by_cases m:b∈s.seq
 .simp [m]
 .simp [m]
theorem ay.Xa{kf:List (Key×V)}(S:ay K H a c s O)(h:KI kf)(v:∀b,aV kf (Sum.inl b:Key)=if s.fr b=true then some (.bl true) else none):kf.length<=s.seq.length:=by
 obtain⟨ks,e,nd⟩:=h;have l:=azy List.length e;rw[axO,axO]at l;rw[l];refine CM nd λb m=>S.xG b ?_;have q:=CZ (kvs:=kf) (Sum.inl b);rw[v b,e]at q;have:=q.mpr (ac1 m);by_cases z:s.fr b=true
 .exact z
 .rw [afn z]at this;cases this
end
section
variable{K:W.Frag}{H H':Hp}{a:SA}{c:Cf}{s:Rm}{O O':Addr->Prop}{kvs:List (Key×V)}{wl:Int->Addr}{seq:List Int}{us:Int->Int}
theorem gf.laid{wd:Int->List Int}{EZ seq':List Int}{b:Int}{l:Addr}(S:gf K H a c seq us O)(h:bQ H a.dh a.ls a.aq O EZ wd kvs wl)(ws:List Int)(hl:H l=none)(hs:∀x,x∈seq'↔x=b\/x∈EZ) :
  (gf K (upd (upd H l (.lst (ws.map V.int))) a.dh (.dK (putK kvs (Sum.inl b) (.ref l)))) a c seq us (λx=>O x\/x=l)/\bQ (upd (upd H l (.lst (ws.map V.int))) a.dh (.dK (putK kvs (Sum.inl b) (.ref l)))) a.dh a.ls a.aq (λx=>O x\/x=l) seq' (λx=>if x=b then ws else wd x) (putK kvs (Sum.inl b) (.ref l)) (λx=>if x=b then l else wl x)) /\
   bR O H (upd (upd H l (.lst (ws.map V.int))) a.dh (.dK (putK kvs (Sum.inl b) (.ref l)))) (λx=>O x\/x=l):=by
 have sm:=Ze hl (.lst (ws.map V.int));have S1:=S.same sm;refine⟨⟨((S1.put (x:=a.dh) (.inl rfl) _).mono (λx m=>.inl (S.own x m)) λx m=>MW ?_),h.put ws hl S.ex (λx m=>S.ex x (S.own x (by simp[m]))) (S.ex _ (S.own _ (by simp))) hs⟩,?_⟩
 .rcases m with m|m
  .exact S1.ex x m
  .rw [m,Za];simp
 .have p:=(bR.same sm).trans (S1.wL (x:=a.dh) (.inl rfl) (putK kvs (Sum.inl b) (.ref l)));exact⟨p.kp,λx m=>m.elim .inl λz=>.inr (by rw[z];exact hl)⟩
theorem bQ.pop{wd:Int->List Int}{b:Int}(h:bQ H a.dh a.ls a.aq O seq wd kvs wl)(nn:seq.Nodup)(hb:b∈seq)(S:gf K H a c (seq.erase b) us O):bQ (upd H a.dh (.dK (aX kvs (Sum.inl b)))) a.dh a.ls a.aq (λx=>O x/\x≠wl b) (seq.erase b) wd (aX kvs (Sum.inl b)) wl:=by
 have mm:∀{x},x∈seq.erase b->x≠b/\x∈seq:=λ{x} m=>(aRI nn).mp m;refine⟨Za,h.ki.drop b,λx=>?_,λx m=>?_,λx m y m'=>h.inj x (mm m).2 y (mm m').2⟩
 .rw [HE];by_cases z:x=b
  .rw [aaU (by rw[z]),afn (λm=>(mm m).1 z)]
  .rw [afn (λq=>z (aKC q)),h.v x];exact ite_congr (propext ⟨λm=>(aRI nn).mpr ⟨z,m⟩,λm=>(mm m).2⟩) (λ_=>rfl) λ_=>rfl
 .obtain ⟨e1,e2,e3,e4⟩:=h.at_ x (mm m).2;exact⟨by rw[Zc (λz=>by rw[z,h.dc]at e1;cases e1)];exact e1,⟨e2,λz=>(mm m).1 (h.inj x (mm m).2 b hb z)⟩,e3,e4⟩
end
def qW:Rm:=⟨[],λ_=>0,λ_=>[],λ_=>false⟩
inductive sI(K:W.Frag)(vs:List V)(H:Hp)(Q:VK)(E:XK):Prop
 |mk (p dx tp:Addr) (sh pl:Int) (ru wr:Str):vs=[.ref p,.ref tp]->H p=some (.ins (af K "Store") dx [])->aU K H tp [.int sh,.int pl,.str ru,.str wr]->1<=sh->sh<=64->(∀(a:SA)(H':Hp),a.sp=p->ay K H' a ⟨sh,pl,ru,decide (wr ="late")⟩ qW (λx=>x=p\/(H x=none/\H' x≠none))->(∀b o,H b=some o->b≠p->H' b=some o)->Q .aS H')->sI K vs H Q E
example:(lP Gh Gd):=by
 obtain ⟨p,dx,tp,sh,pl,ru,wr,rfl,hp,htp,s0,s1,k⟩:=h;refine⟨_,(Zd (qV (pv 1) (ZQ (K:=K) (n:=4) rfl rfl (Zq (cu 2 nd) (Zq (cu 3 nd) (Zq (cu 4 nd) (Zq (cu 5 nd) ZO))))))
   (Zd (qF (pv 0) (HH Gd hr.m rfl (pc (pv 2) (pc (pv 3) (pc (pv 4) Zb)))) rfl)
   (Zd (qF (pv 0) (vm bM (pv 5) ZX (Zx _)) rfl)
   (Zd (qF (pv 0) Kh rfl)
   (Zh (qF (pv 0) Kh rfl)))))),?_⟩
 refine⟨_,rfl,tp,_,rfl,htp,rfl,_,_,rfl,gN ⟨_,_,rfl,gN ⟨_,_,rfl,gN ⟨_,_,rfl,gN ⟨rfl,?_⟩⟩⟩⟩⟩;try dsimp only
 refine⟨_,rfl,_,rfl,_,rfl,λrp rx Gw Pf nrx=>⟨rp,rx,sh,pl,ru,rfl,Za,s0,s1,λls aq du H1 R1 f1 f2 f3 k1=>⟨rfl,?_⟩⟩⟩;have VN:p≠rp:=Zf hp Gw;have Jg:∀x o,H x=some o->H1 x=some o:=λx o e=>k1 x o (by rw[Zc (Zf e Gw),Zc (Zf e Pf)];exact e) (Zf e Gw);have fr:∀x,upd (upd H rx (.own rp)) rp (.ins (af K "Room") rx []) x=none->H x=none:=λx e=>by
  cases q:H x with
  |none=>rfl
  |some o=>rw[Zc (Zf q Gw),Zc (Zf q Pf),q]at e;cases e
 have f1:=fr _ f1;have f2:=fr _ f2;have f3:∀ad∈aq,H ad=none:=λad m=>fr _ (f3 ad m);have h1:=Jg _ _ hp;refine⟨_,rfl,p,_,dx,_,rfl,h1,T.dH,T.AQ,(by show 0<1000;decide),?_⟩;obtain⟨o1,o2,o3,o4,o5,o6⟩:=R1.off;have q1:p≠ls:=λz=>by rw[z,R1.st.top]at h1;cases h1
 have q2:p≠du:=λz=>by obtain⟨kv,g,_⟩:=R1.dc;rw[z,g]at h1;cases h1
 have q3:p∉aq:=λz=>by obtain⟨xs,g⟩:=R1.st.one z;rw[g]at h1;cases h1
 have put:∀{G:Hp}{o:HO},aD K G rp sh pl ru ls aq du [] (λ_=>0) 0->aD K (upd G p o) rp sh pl ru ls aq du [] (λ_=>0) 0:=λ{G o} R=>by
  obtain⟨uF,e1⟩:=R.ob;obtain⟨kv,e2,e3⟩:=R.dc;exact⟨⟨uF,by rw[Zc (ac5 VN)];exact e1⟩,R.st.other o q1 q3,⟨kv,by rw[Zc (ac5 q2)];exact e2,e3⟩,R.nd,R.s0,R.s1⟩
 have R2:=put (o:=.ins (af K "Store") dx (ah "room" (.ref rp) [])) R1;have e2:upd H1 p (.ins (af K "Store") dx (ah "room" (.ref rp) [])) p=some (.ins (af K "Store") dx (ah "room" (.ref rp) [])):=Za;have k2:∀x o,H x=some o->x≠p->upd H1 p (.ins (af K "Store") dx (ah "room" (.ref rp) [])) x=some o:=λx o e n=>by rw[Zc n];exact Jg x o e
 generalize upd H1 p (.ins (af K "Store") dx (ah "room" (.ref rp) []))=H2 at *;refine⟨_,rfl,rfl,_,rfl,p,_,dx,_,rfl,e2,T.dH,T.LU,(by show 1<1000;decide),?_⟩;have el:decide (V.str wr=V.str "late")=decide (wr ="late"):=amk.mpr ⟨λe=>by injection e,λe=>by rw[e]⟩;rw[el];have R3:=put (o:=.ins (af K "Store") dx (ah "late" (.bl (decide (wr ="late"))) (ah "room" (.ref rp) []))) R2;have e3:upd H2 p (.ins (af K "Store") dx (ah "late" (.bl (decide (wr ="late"))) (ah "room" (.ref rp) []))) p=some (.ins (af K "Store") dx (ah "late" (.bl (decide (wr ="late"))) (ah "room" (.ref rp) []))):=Za;have k3:∀x o,H x=some o->x≠p->upd H2 p (.ins (af K "Store") dx (ah "late" (.bl (decide (wr ="late"))) (ah "room" (.ref rp) []))) x=some o:=λx o e n=>by rw[Zc n];exact k2 x o e n
 generalize upd H2 p (.ins (af K "Store") dx (ah "late" (.bl (decide (wr ="late"))) (ah "room" (.ref rp) [])))=H3 at *;refine λdh DT=>?_;have nh:p≠dh:=Zf e3 DT;refine⟨_,rfl,p,_,dx,_,rfl,(by rw[Zc nh];exact e3),T.dH,T.EC,(by show 2<1000;decide),?_⟩;have R4:=put (o:=.ins (af K "Store") dx (ah "held" (.ref dh) (ah "late" (.bl (decide (wr ="late"))) (ah "room" (.ref rp) [])))) (R3.same (Ze DT (.dK [])));have e4:upd (upd H3 dh (.dK [])) p (.ins (af K "Store") dx (ah "held" (.ref dh) (ah "late" (.bl (decide (wr ="late"))) (ah "room" (.ref rp) [])))) p=some (.ins (af K "Store") dx (ah "held" (.ref dh) (ah "late" (.bl (decide (wr ="late"))) (ah "room" (.ref rp) [])))):=Za;have d4:upd (upd H3 dh (.dK [])) p (.ins (af K "Store") dx (ah "held" (.ref dh) (ah "late" (.bl (decide (wr ="late"))) (ah "room" (.ref rp) [])))) dh=some (.dK []):=by rw[Zc (ac5 nh)];exact Za
 have PN:H dh=none:=by
  cases q:H dh with
  |none=>rfl
  |some o=>rw[k3 dh o q (ac5 nh)]at DT;cases DT
 have k4:∀x o,H x=some o->x≠p->upd (upd H3 dh (.dK [])) p (.ins (af K "Store") dx (ah "held" (.ref dh) (ah "late" (.bl (decide (wr ="late"))) (ah "room" (.ref rp) [])))) x=some o:=λx o e n=>by rw[Zc n,Zc (λz:x=dh=>by rw[z,PN]at e;cases e)];exact k3 x o e n
 generalize upd (upd H3 dh (.dK [])) p (.ins (af K "Store") dx (ah "held" (.ref dh) (ah "late" (.bl (decide (wr ="late"))) (ah "room" (.ref rp) []))))=H4 at *;refine λdf hdf=>?_;have nf:p≠df:=Zf e4 hdf;refine⟨_,rfl,p,_,dx,_,rfl,(by rw[Zc nf];exact e4),T.dH,T.Dw,(by show 3<1000;decide),?_⟩;have PR:H df=none:=by
  cases q:H df with
  |none=>rfl
  |some o=>rw[k4 df o q (ac5 nf)]at hdf;cases hdf
 have OM:dh≠df:=λz=>by rw[<-z,d4]at hdf;cases hdf
 obtain⟨kv,g,_⟩:=R3.dc;obtain⟨kv4,g4,_⟩:=R4.dc;have R5:=put (o:=.ins (af K "Store") dx (bJ rp (decide (wr ="late")) dh df)) (R4.same (Ze hdf (.dK [])));have e5:upd (upd H4 df (.dK [])) p (.ins (af K "Store") dx (bJ rp (decide (wr ="late")) dh df)) p=some (.ins (af K "Store") dx (bJ rp (decide (wr ="late")) dh df)):=Za;have d5:upd (upd H4 df (.dK [])) p (.ins (af K "Store") dx (bJ rp (decide (wr ="late")) dh df)) dh=some (.dK []):=by rw[Zc (ac5 nh),Zc OM];exact d4
 have f5:upd (upd H4 df (.dK [])) p (.ins (af K "Store") dx (bJ rp (decide (wr ="late")) dh df)) df=some (.dK []):=by rw[Zc (ac5 nf)];exact Za
 have k5:∀x o,H x=some o->x≠p->upd (upd H4 df (.dK [])) p (.ins (af K "Store") dx (bJ rp (decide (wr ="late")) dh df)) x=some o:=λx o e n=>by rw[Zc n,Zc (λz:x=df=>by rw[z,PR]at e;cases e)];exact k4 x o e n
 change Q .aS (upd (upd H4 df (.dK [])) p (.ins (af K "Store") dx (bJ rp (decide (wr ="late")) dh df)));generalize upd (upd H4 df (.dK [])) p (.ins (af K "Store") dx (bJ rp (decide (wr ="late")) dh df))=H5 at *;refine k ⟨p,rp,ls,aq,du,dh,df⟩ _ rfl ⟨⟨⟨dx,e5⟩,R5,⟨_,d5⟩,⟨_,f5⟩,λz=>?_,ac5 OM,λz=>?_,λx hx=>?_,λx hx=>?_⟩,⟨[],λ_=>p,d5,KI.nil,λ_=>rfl,(λb m=>absurd m (by simp[qW])),λb m=>absurd m (by simp[qW])⟩,⟨[],f5,KI.nil,λ_=>rfl⟩,λb h=>by cases h⟩ k5
 .have z:du=dh:=z;rw[<-z,g]at DT;cases DT
 .have z:df=du:=z;rw[z,g4]at hdf;cases hdf
 .obtain ⟨dr5,r5⟩:=R5.ob;obtain⟨ku5,u5,_⟩:=R5.dc;rcases hx with rfl|rfl|rfl|hx|rfl|rfl|rfl
  .exact .inl rfl
  .exact .inr ⟨Gw,by rw[r5];simp⟩
  .exact .inr ⟨f1,by rw[R5.st.top];simp⟩
  .obtain ⟨xs,q⟩:=R5.st.one hx;exact .inr ⟨f3 x hx,by rw[q];simp⟩
  .exact .inr ⟨f2,by rw[u5];simp⟩
  .exact .inr ⟨PN,by rw[d5];simp⟩
  .exact .inr ⟨PR,by rw[f5];simp⟩
 .rcases hx with rfl|hx
  .rw [e5];simp
  .exact hx.2
inductive vK(K:W.Frag)(vs:List V)(H:Hp)(Q:VK)(E:XK):Prop
 |mk (a:SA) (c:Cf) (s:Rm) (O:Addr->Prop) (b:Int):vs=[.ref a.sp,.int b]->ay K H a c s O->Q (.bl (decide (b∈s.seq))) H->vK K vs H Q E
example:(nX tL wJ):=by
 obtain⟨a,c,s,O,b,rfl,S,k⟩:=h;refine⟨_,(Zh (Zs (Zj wJ hr.m T.fj (Zk (K:=K) rfl (pv 0) rfl) (pc (pv 1) Zb)))),?_⟩;obtain⟨dx,h1⟩:=S.aW.ob;obtain⟨dr,h2⟩:=S.aW.room.ob;exact⟨_,rfl,a.sp,_,dx,_,_,rfl,h1,T.dH,T.AQ,CY ..,a.rp,dr,_,rfl,h2,bT ..,_,rfl,a.rp,b,c.sh,c.pl,c.ru,a.ls,a.aq,a.du,s.seq,s.us,_,rfl,S.aW.room,k⟩
inductive Ay(K:W.Frag)(vs:List V)(H:Hp)(Q:VK)(E:XK):Prop
 |mk (p dx rp dh df:Addr) (late:Bool) (kvs:List (Key×V)) (b:Int) (lw:Addr) (zs:List V):vs=[.ref p,.int b,.ref lw]->H p=some (.ins (af K "Store") dx (bJ rp late dh df))->H dh=some (.dK kvs)->kvs.length<=900->H lw=some (.lst zs)->(∀l,H l=none->Q .aS (upd (upd H l (.lst zs)) dh (.dK (putK kvs (Sum.inl b) (.ref l)))))->Ay K vs H Q E
example:(nW Aj):=by
 obtain⟨p,dx,rp,dh,df,late,kvs,b,lw,zs,rfl,hp,hd,hl,hw,k⟩:=h;refine⟨_,(Zh (J2 hu (Zk (K:=K) rfl (pv 0) rfl) (pv 1) (ZS (Kq (K:=K) rfl) rfl T.vC ZM (pc (pv 2) Zb)) rfl)),?_⟩;refine⟨_,rfl,lw,_,rfl,.inl (az.of hw),λl hl'=>?_⟩;have s1:=Ze hl' (.lst zs);exact⟨_,rfl,p,_,dx,_,_,rfl,s1 _ _ hp,T.dH,T.EC,JU ..,_,rfl,dh,_,rfl,mL.k (k:=Sum.inl b) (s1 _ _ hd) (Zz (by lia)),k l hl'⟩
def LZ(s:Rm)(b:Int)(ws:List Int):Rm:=⟨s.seq++[b],zero s.us b,λx=>if x=b then ws else s.wd x,s.fr⟩
def p8(s:Rm)(b:Int):Rm:=⟨s.seq.erase b,s.us,s.wd,λx=>if x=b then false else s.fr x⟩
def oF(s:Rm)(b:Int)(ws:List Int):Rm:=⟨s.seq,s.us,λx=>if x=b then ws else s.wd x,s.fr⟩
def GL(s:Rm)(b:Int):Rm:=⟨s.seq,s.us,s.wd,λx=>if x=b then true else s.fr x⟩
inductive o9(K:W.Frag)(vs:List V)(H:Hp)(Q:VK)(E:XK):Prop
 |mk (a:SA) (c:Cf) (s:Rm) (O:Addr->Prop) (b:Int) (lw:Addr) (ws:List Int):vs=[.ref a.sp,.int b,.ref lw]->ay K H a c s O->Tb K H->H lw=some (.lst (ws.map V.int))->(¬O lw)->b∉s.seq->s.seq.length<=800->1<=c.pl->c.pl<=16->((Zm c.sh (b%c.sh) s.seq).length:Int)<c.pl->(∀H' O',ay K H' a c (LZ s b ws) O'->bR O H H' O'->Q .aS H')->o9 K vs H Q E
example:(iN Et Ej Aj):=by
 obtain ⟨a,c,s,O,b,lw,ws,rfl,S,tb,oV,hO,hb,hsl,hpl,Wv,hsh,k⟩:=h;refine⟨_,(Zd (Zo (Zj Ej hr.m T.fj (Zk (K:=K) rfl (pv 0) rfl) (pc (pv 1) Zb)))
   (Zh (Zo (Zj Aj hr.m T.dH (pv 0) (pc (pv 1) (pc (pv 2) Zb)))))),?_⟩
 obtain⟨dx,h1⟩:=S.aW.ob;obtain⟨dr,h2⟩:=S.aW.room.ob;refine⟨_,rfl,a.sp,_,dx,_,_,rfl,h1,T.dH,T.AQ,CY ..,a.rp,dr,_,rfl,h2,bT ..,_,rfl,a.rp,b,c.sh,c.pl,c.ru,a.ls,a.aq,a.du,s.seq,s.us,_,rfl,S.aW.room,tb,by lia,hb,hpl,by lia,λgone G gp R1 r1=>?_⟩;obtain rfl:gone=none:=gp.1 hsh;obtain⟨kvs,wl,h3⟩:=S.held;obtain⟨kf,h4,h5⟩:=S.fresh;have kl:=S.lZ h3;have p1:=S.aW.dw r1;have h3:=S.aW.Mg h3 r1;have h4:=r1 _ _ h4 S.aW.n3 (S.aW.kinds h4).2.2.2;have S1:=S.aW.iz R1 r1;obtain⟨dx,h1⟩:=S1.ob;refine⟨_,rfl,a.sp,dx,_,rfl,h1,bW ..,_,rfl,_,rfl,a.sp,dx,a.rp,a.dh,a.df,c.late,kvs,b,lw,_,rfl,h1,h3.dc,by lia,p1.kp _ _ oV (λh=>absurd h hO),λl hl=>?_⟩;obtain⟨S2,p2⟩:=S1.laid h3 ws hl (seq':=s.seq++[b]) (b:=b) (λx=>by rw[mem_append,mem_singleton];exact Or.comm);exact k _ _ ⟨S2.1,⟨_,_,S2.2⟩,⟨kf,by rw[Zc S.aW.n2];exact Ze hl _ _ _ h4,h5⟩,λx h=>a96 _ (S.xG x h)⟩ (p1.trans p2)
inductive mV(K:W.Frag)(vs:List V)(H:Hp)(Q:VK)(E:XK):Prop
 |mk (a:SA) (c:Cf) (s:Rm) (O:Addr->Prop) (b:Int):vs=[.ref a.sp,.int b]->ay K H a c s O->b∈s.seq->(∀(t l:Addr)(H':Hp)(O':Addr->Prop),H' t=some (.tup [.ref l,.bl (s.fr b)])->H' l=some (.lst ((s.wd b).map V.int))->¬O' l->ay K H' a c (p8 s b) O'->bR O H H' O'->(O l\/H l=none)->Q (.ref t) H')->mV K vs H Q E
example:(g9 Ey Ak):=by
 obtain ⟨a,c,s,O,b,rfl,S,hb,k⟩:=h;refine⟨_,(Zd (Zo (Zj Ak hr.m T.fj (Zk (K:=K) rfl (pv 0) rfl) (pc (pv 1) Zb)))
   (Zh (Zs (ZI (pc (NJ (Zk (K:=K) rfl (pv 0) rfl) (pv 1) ⟨rfl,rfl,rfl,rfl⟩) (pc (Sl (Zk (K:=K) rfl (pv 0) rfl) (pv 1) gb ⟨rfl,rfl,rfl,rfl⟩) Zb)))))),?_⟩
 obtain⟨dx,h1⟩:=S.aW.ob;obtain⟨dr,h2⟩:=S.aW.room.ob;refine⟨_,rfl,a.sp,_,dx,_,_,rfl,h1,T.dH,T.AQ,CY ..,a.rp,dr,_,rfl,h2,bT ..,_,rfl,a.rp,b,c.sh,c.pl,c.ru,a.ls,a.aq,a.du,s.seq,s.us,_,rfl,S.aW.room,hb,λG R1 r1=>?_⟩;obtain⟨kvs,wl,h3⟩:=S.held;obtain⟨kf,h4,h5,h6⟩:=S.fresh;have p1:=S.aW.dw r1;have h3:=S.aW.Mg h3 r1;have h4:=r1 _ _ h4 S.aW.n3 (S.aW.kinds h4).2.2.2;have S1:=S.aW.iz R1 r1;obtain⟨dx,h1⟩:=S1.ob;have vb:=h3.v b;rw[aaU hb]at vb;obtain⟨w1,w2,w3,w4⟩:=h3.at_ b hb;refine⟨_,rfl,a.sp,_,dx,_,_,rfl,h1,T.dH,T.EC,JU ..,a.dh,rfl,.inl ⟨_,.inl h3.dc⟩,_,rfl,kvs,Sum.inl b,_,h3.dc,rfl,vb,?_⟩;have nn:s.seq.Nodup:=S.aW.room.nd;have H3:=h3.pop nn hb S1;have S2:=S1.put (x:=a.dh) (.inl rfl) (aX kvs (Sum.inl b));have p2:=p1.trans (S1.wL (x:=a.dh) (.inl rfl) (aX kvs (Sum.inl b)));have h4:upd G a.dh (.dK (aX kvs (Sum.inl b))) a.df=some (.dK kf):=by rw[Zc S.aW.n2];exact h4
 have w1:upd G a.dh (.dK (aX kvs (Sum.inl b))) (wl b)=some (.lst ((s.wd b).map V.int)):=by rw[Zc (λz=>by rw[z,h3.dc]at w1;cases w1)];exact w1
 generalize upd G a.dh (.dK (aX kvs (Sum.inl b)))=G2 at *;obtain⟨dx,h1⟩:=S2.ob;have fin:∀(G3:Hp)(F3:List (Key×V)),gf K G3 a c (s.seq.erase b) s.us O->bR O H G3 O->bQ G3 a.dh a.ls a.aq (λx=>O x/\x≠wl b) (s.seq.erase b) s.wd (aX kvs (Sum.inl b)) wl->G3 a.df=some (.dK F3)->KI F3->(∀x,aV F3 (Sum.inl x:Key)=if(p8 s b).fr x=true then some (.bl true) else none)->G3 (wl b)=some (.lst ((s.wd b).map V.int)) ->
   2<=sizeLine/\∀t,G3 t=none->Q (.ref t) (upd G3 t (.tup [.ref (wl b),.bl (s.fr b)])):=λG3 F3 S3 p3 h3' e1 e2 e3 e4=>by
  refine⟨by decide,λt ht=>?_⟩;have sm:=Ze ht (.tup [.ref (wl b),.bl (s.fr b)]);have core:∀x,x=a.sp\/x=a.rp\/x=a.ls\/x∈a.aq\/x=a.du\/x=a.dh\/x=a.df->O x/\x≠wl b:=λx m=>⟨S3.own x m,λz=>by
   subst z;rcases m with m|m|m|m|m|m|m
   .obtain ⟨d,q⟩:=S3.ob;rw[<-m,e4]at q;cases q
   .obtain ⟨d,q⟩:=S3.room.ob;rw[<-m,e4]at q;cases q
   .exact w4 m
   .exact w3 m
   .obtain ⟨d,q,_⟩:=S3.room.dc;rw[<-m,e4]at q;cases q
   .obtain ⟨d,q⟩:=S3.d1;rw[<-m,e4]at q;cases q
   .rw [<-m,e4]at e1;cases e1⟩
  have S4:=(S3.mono core λx h=>S3.ex x h.1).same sm;refine k t (wl b) _ (λx=>O x/\x≠wl b) Za (sm _ _ e4) (λh=>h.2 rfl) ⟨S4,⟨_,_,h3'.frame (core _ (by simp)) λx o _ e=>sm x o e⟩,⟨F3,sm _ _ e1,e2,e3⟩,λx h=>?_⟩ ⟨λx o e n=>sm _ _ (p3.kp x o e n),λx h=>.inl h.1⟩ (.inl w2);have h:(if x=b then false else s.fr x)=true:=h;by_cases z:x=b
  .rw [aaU z]at h;cases h
  .rw [afn z]at h;exact(aRI nn).mpr ⟨z,S.xG x h⟩
 refine⟨_,rfl,a.sp,_,dx,_,_,rfl,h1,T.dH,T.Dw,HD ..,a.df,rfl,.inl ⟨_,.inl h4⟩,_,rfl,kf,Sum.inl b,h4,rfl,λv hv=>?_,λhv=>?_⟩
 .have hf:s.fr b=true:=by
   by_cases z:s.fr b=true
   .exact z
   .rw [h6 b,afn z]at hv;cases hv
  rw[h6 b,aaU hf]at hv;cases hv;have S3:=S2.put (x:=a.df) (.inr rfl) (aX kf (Sum.inl b));have fin:=fin _ (aX kf (Sum.inl b)) S3 (p2.trans (S2.wL (x:=a.df) (.inr rfl) _)) ⟨by rw[Zc (ac5 S.aW.n2)];exact H3.dc,H3.ki,H3.v,λx m=>⟨by rw[Zc (λz=>by have q:=(H3.at_ x m).1;rw[z,h4]at q;cases q)];exact(H3.at_ x m).1,(H3.at_ x m).2⟩,H3.inj⟩ Za (h5.drop b) (λx=>?_) (by rw[Zc (λz=>by rw[z,h4]at w1;cases w1)];exact w1)
  .rw [hf]at fin;exact fin
  .rw [HE];by_cases z:x=b
   .rw [aaU (by rw[z])];unfold p8;simp[z]
   .rw [afn (λq=>z (aKC q)),h6 x];unfold p8;simp[z]
 .have hf:s.fr b=false:=by
   cases z:s.fr b with
   |false=>rfl
   |true=>rw[h6 b,aaU z]at hv;cases hv
  have fin:=fin _ kf S2 p2 H3 h4 h5 (λx=>?_) w1
  .rw [hf]at fin;exact fin
  .rw [h6 x];unfold p8;by_cases z:x=b
   .simp [z,hf]
   .simp [z]
inductive mQ(K:W.Frag)(vs:List V)(H:Hp)(Q:VK)(E:XK):Prop
 |mk (a:SA) (c:Cf) (s:Rm) (O:Addr->Prop) (b:Int):vs=[.ref a.sp,.int b]->ay K H a c s O->b∈s.seq->(∀l,H l=none->Q (.ref l) (upd H l (.lst ((s.wd b).map V.int))))->mQ K vs H Q E
example:(gY tP wD):=by
 obtain ⟨a,c,s,O,b,rfl,S,hb,k⟩:=h;refine⟨_,(Zd (Zo (Zj wD hr.m T.fj (Zk (K:=K) rfl (pv 0) rfl) (pc (pv 1) Zb)))
   (Zh (Zs (ZS (Kq (K:=K) rfl) rfl T.vC ZM (pc (Ng hu (Zk (K:=K) rfl (pv 0) rfl) (pv 1) (λ_ _=>rfl)) Zb))))),?_⟩
 obtain⟨dx,h1⟩:=S.aW.ob;obtain⟨dr,h2⟩:=S.aW.room.ob;obtain⟨kvs,wl,h3⟩:=S.held;have vb:=h3.v b;rw[aaU hb]at vb;refine⟨_,rfl,a.sp,_,dx,_,_,rfl,h1,T.dH,T.AQ,CY ..,a.rp,dr,_,rfl,h2,bT ..,_,rfl,a.rp,b,c.sh,c.pl,c.ru,a.ls,a.aq,a.du,s.seq,s.us,_,rfl,S.aW.room,hb,?_⟩;exact⟨_,rfl,a.sp,_,dx,_,_,rfl,h1,T.dH,T.EC,JU ..,_,rfl,a.dh,_,rfl,(by have q:=e8.k (k:=Sum.inl b) h3.dc;rw[vb]at q;exact q),wl b,_,rfl,.inl (az.of (h3.at_ b hb).1),k⟩
theorem ay.lay{H:Hp}{a:SA}{c:Cf}{s:Rm}{O:Addr->Prop}(S:ay K H a c s O){b:Int}(hb:b∈s.seq)(ws:List Int){Q:Hp->Prop}(k:∀H' O',ay K H' a c (oF s b ws) O'->bR O H H' O'->Q H') :
  ∃dx kvs,H a.sp=some (.ins (af K "Store") dx (bJ a.rp c.late a.dh a.df))/\H a.dh=some (.dK kvs)/\kvs.length=s.seq.length/\∀l,H l=none->Q (upd (upd H l (.lst (ws.map V.int))) a.dh (.dK (putK kvs (Sum.inl b) (.ref l)))):=by
 obtain⟨dx,h1⟩:=S.aW.ob;obtain⟨kvs,wl,h3⟩:=S.held;obtain⟨kf,h4,h5⟩:=S.fresh;refine⟨dx,kvs,h1,h3.dc,S.lZ h3,λl hl=>?_⟩;obtain⟨S2,p2⟩:=S.aW.laid h3 ws hl (seq':=s.seq) (b:=b) (λx=>⟨.inr,λm=>m.elim (λz=>z ▸hb) id⟩);exact k _ _ ⟨S2.1,⟨_,_,S2.2⟩,⟨kf,by rw[Zc S.aW.n2];exact Ze hl _ _ _ h4,h5⟩,S.xG⟩ p2
theorem gf.lst{H:Hp}{a:SA}{c:Cf}{seq:List Int}{us:Int->Int}{O:Addr->Prop}(S:gf K H a c seq us O){l:Addr}{xs:List V}(hl:H l=some (.lst xs))(n1:l≠a.ls)(n2:l∉a.aq)(u:List V):gf K (upd H l (.lst u)) a c seq us O:=by
 obtain⟨dx,h1⟩:=S.ob;obtain⟨dr,h2⟩:=S.room.ob;obtain⟨kr,h3,_⟩:=S.room.dc;obtain⟨k1,h4⟩:=S.d1;obtain⟨k2,h5⟩:=S.d2;have ne:∀{y o},H y=some o->(∀xs,o≠.lst xs)->upd H l (.lst u) y=some o:=λ{y o} e n=>by rw[Zc (λz=>by rw[z,hl]at e;exact n xs (a9h e).symm)];exact e
 have R:aD K (upd H l (.lst u)) a.rp c.sh c.pl c.ru a.ls a.aq a.du seq us seq.length:=S.room.frame λy o m e=>by
  rw[Zc (λz:y=l=>by
   subst z;rcases m with m|m|m|m
   .rw [m,h2]at hl;cases hl
   .exact n1 m
   .exact n2 m
   .rw [m,h3]at hl;cases hl)]
  exact e
 exact⟨⟨dx,ne h1 (λ_ z=>by cases z)⟩,R,⟨k1,ne h4 (λ_ z=>by cases z)⟩,⟨k2,ne h5 (λ_ z=>by cases z)⟩,S.n1,S.n2,S.n3,S.own,λy h=>MW (S.ex y h)⟩
inductive mT(K:W.Frag)(vs:List V)(H:Hp)(Q:VK)(E:XK):Prop
 |mk (a:SA) (c:Cf) (s:Rm) (O:Addr->Prop) (b i x:Int):vs=[.ref a.sp,.int b,.int i,.int x]->ay K H a c s O->b∈s.seq->0<=i->i<(s.wd b).length->(∀H',ay K H' a c (oF s b ((s.wd b).set i.toNat x)) O->bR O H H' O->Q .aS H')->mT K vs H Q E
example:(gZ Ex):=by
 obtain⟨a,c,s,O,b,i,x,rfl,S,hb,i0,i1,k⟩:=h;refine⟨_,(Zh (qV (pv 3) (CT (Ng hu (Zk (K:=K) rfl (pv 0) rfl) (pv 1) (λ_ _=>rfl)) (pv 2) CU))),?_⟩;obtain⟨dx,h1⟩:=S.aW.ob;obtain⟨kvs,wl,h3⟩:=S.held;obtain⟨kf,h4,h5⟩:=S.fresh;have vb:=h3.v b;rw[aaU hb]at vb;obtain⟨w1,w2,w3,w4⟩:=h3.at_ b hb;refine⟨_,rfl,_,rfl,a.sp,_,dx,_,_,rfl,h1,T.dH,T.EC,JU ..,_,rfl,a.dh,_,rfl,(by have q:=e8.k (k:=Sum.inl b) h3.dc;rw[vb]at q;exact q),_,rfl,wl b,_,i,i.toNat,rfl,rfl,w1,?_,?_⟩
 .unfold vg;rw[aaU i0,aaU (by rw[axO];exact i1)]
 .rw [<-map_set];refine k _ ⟨S.aW.lst w1 w4 w3 _,⟨kvs,wl,by rw[Zc (λz=>by rw[<-z,h3.dc]at w1;cases w1)];exact h3.dc,h3.ki,h3.v,λy m=>?_,h3.inj⟩,⟨kf,by rw[Zc (λz=>by rw[<-z,h4]at w1;cases w1)];exact h4,h5⟩,S.xG⟩ ⟨λy o e n=>?_,λ_ h=>.inl h⟩
  .show _=some (HO.lst ((if y=b then(s.wd b).set i.toNat x else s.wd y).map V.int))/\_;by_cases z:y=b
   .rw [aaU z,z,Za];exact⟨rfl,w2,w3,w4⟩
   .obtain ⟨e1,e2⟩:=h3.at_ y m;rw[afn z,Zc (λq=>z (h3.inj y m b hb q))];exact⟨e1,e2⟩
  .rw [Zc (λz=>?_)]
   .exact e
   .rw [z,w1]at e;cases e;exact n (z ▸w2) trivial
inductive mW(K:W.Frag)(vs:List V)(H:Hp)(Q:VK)(E:XK):Prop
 |mk (a:SA) (c:Cf) (s:Rm) (O:Addr->Prop) (b:Int):vs=[.ref a.sp,.int b]->ay K H a c s O->b∈s.seq->s.seq.length<=800->(∀H',ay K H' a c (GL s b) O->bR O H H' O->Q .aS H')->mW K vs H Q E
example:(iO AL):=by
 obtain⟨a,c,s,O,b,rfl,S,hb,hl,k⟩:=h;refine⟨_,(Zh (J2 hu (Zk (K:=K) rfl (pv 0) rfl) (pv 1) gb rfl)),?_⟩;obtain⟨dx,h1⟩:=S.aW.ob;obtain⟨kvs,wl,h3⟩:=S.held;obtain⟨kf,h4,h5,h6⟩:=S.fresh;have fl:=S.Xa h5 h6;refine⟨_,rfl,a.sp,_,dx,_,_,rfl,h1,T.dH,T.Dw,HD ..,_,rfl,a.df,_,rfl,mL.k (k:=Sum.inl b) h4 (Zz (by lia)),?_⟩;have S2:=S.aW.put (x:=a.df) (.inr rfl) (putK kf (Sum.inl b) (.bl true));refine k _ ⟨S2,⟨kvs,wl,by rw[Zc (ac5 S.aW.n2)];exact h3.dc,h3.ki,h3.v,λx m=>⟨by rw[Zc (λz=>by have q:=(h3.at_ x m).1;rw[z,h4]at q;cases q)];exact(h3.at_ x m).1,(h3.at_ x m).2⟩,h3.inj⟩,⟨_,Za,h5.put b _,λx=>?_⟩,λx h=>?_⟩ (S.aW.wL (x:=a.df) (.inr rfl) _)
 .rw [HK];show _=if(if x=b then true else s.fr x)=true then _ else _
  by_cases z:x=b
  .rw [aaU (by rw[z]),aaU z,aaU rfl]
  .rw [afn (λq=>z (aKC q)),h6 x,afn z]
 .by_cases z:x=b
  .exact z ▸hb
  .exact S.xG x ((afn z:(if x=b then true else s.fr x)=s.fr x).symm.trans h)
inductive tD(vs:List V)(H:Hp)(Q:VK)(E:XK):Prop
 |mk (s p:Int):vs=[.int s,.int p]->0<s->s<1073741824->Q (.int (p/s)) H->tD vs H Q E
example:(qg tK):=by
 obtain⟨s,p,rfl,h0,h1,k⟩:=h;refine⟨_,(Zh (Zs (ak Ec (pv 1) (pv 0)))),?_⟩;exact⟨_,rfl,_,rfl,_,_,rfl,rfl,⟨h0,h1⟩,k⟩
def gF(s b:Int):List V:=(List.range s.toNat).map λk=>V.int (b*s+(k:Nat))
inductive sJ(vs:List V)(H:Hp)(Q:VK)(E:XK):Prop
 |mk (s b:Int):vs=[.int s,.int b]->0<s->s<=1000->0<=b->b<=1000000->(∀(r:Addr)(H':Hp),H r=none->aB H H'->H' r=some (.lst (gF s b))->Q (.ref r) H')->sJ vs H Q E
theorem Yx{b s:Int}(h0:0<=b)(h1:b<=1000000)(s0:0<s)(s1:s<=1000):0<=b*s/\b*s<=1000000000:=by
 refine⟨Int.mul_nonneg h0 (by lia),?_⟩;exact aaK (Int.mul_le_mul_of_nonneg_right h1 (by lia)) (Int.mul_le_mul_of_nonneg_left s1 (by decide))
example:(qe Ah):=by
 obtain ⟨s,b,rfl,s0,s1,b0,b1,k⟩:=h;refine⟨_,(Zd (dw 2 nd (ak uI (pv 1) (pv 0)))
   (Zh (Zs (Zdv rfl rfl T.vC rfl T.vB (pc (pv 2) (pc (ak ZH (pv 2) (pv 0)) Zb)))))),?_⟩
 obtain⟨m0,m1⟩:=Yx b0 b1 s0 s1;have e:(b*s+s-b*s).toNat=s.toNat:=by lia
 refine⟨_,rfl,_,rfl,_,_,rfl,rfl,.inl ⟨by lia,by lia⟩,?_⟩;refine⟨_,rfl,_,rfl,_,rfl,_,_,rfl,rfl,_,_,rfl,⟨by lia,by lia,by lia,by lia⟩,?_⟩;rw[e];refine⟨aUL (Zz (by lia)),λp hp=>?_⟩;exact k p _ hp (Ze hp _) Za
def kT(size:Int)(dk:Addr):List (Str×V):=ah "kept" (.ref dk) (ah "size" (.int size) [])
theorem JT(size:Int)(dk:Addr):(kT size dk).lookup ("kept":Str)=some (.ref dk):=by
 unfold kT;rw[Zg,aaU rfl]
theorem Ri(size:Int)(dk:Addr):(kT size dk).lookup ("size":Str)=some (.int size):=by
 unfold kT;rw[Zg,afn (by decide +kernel),Zg,aaU rfl]
theorem wZ(size:Int)(dk:Addr){m:Str}(h1:¬m ="kept":=by decide +kernel)(h2:¬m ="size":=by decide +kernel):(kT size dk).lookup m=none:=by
 unfold kT;rw[Zg,afn h1,Zg,afn h2];rfl
structure dG(K:W.Frag)(H:Hp)(bm dk:Addr)(size:Int)(mem:Int->Int)(U:List Int):Prop where
 ob:∃dx,H bm=some (.ins (af K "Memory") dx (kT size dk))
 kept:∃kvs,H dk=some (.dK kvs)/\KI kvs/\∀s,aV kvs (Sum.inl s:Key)=if mem s=0 then none else some (.int (mem s))
 sup:∀s,mem s≠0->s/size∈U
theorem dG.frame{H H':Hp}{bm dk:Addr}{size:Int}{mem:Int->Int}{U:List Int}(m:dG K H bm dk size mem U)(f:∀x o,x=bm\/x=dk->H x=some o->H' x=some o):dG K H' bm dk size mem U:=by
 obtain⟨dx,e⟩:=m.ob;obtain⟨kvs,e2,r⟩:=m.kept;exact⟨⟨dx,f _ _ (.inl rfl) e⟩,⟨kvs,f _ _ (.inr rfl) e2,r⟩,m.sup⟩
theorem Rh{size:Int}{mem:Int->Int}{U:List Int}{kvs:List (Key×V)}(z0:0<size)(h:KI kvs)(v:∀s,aV kvs (Sum.inl s:Key)=if mem s=0 then none else some (.int (mem s)))(sup:∀s,mem s≠0->s/size∈U):kvs.length<=U.length*size.toNat:=by
 obtain⟨ks,e,nd⟩:=h;have l:=azy List.length e;rw[axO,axO]at l;rw[l];have q:=CM nd (b:=U.flatMap λb=>(List.range size.toNat).map λk=>b*size+(k:Nat)) λs m=>?_
 .refine a0n q (a1S ?_);clear q sup
  induction U with
  |nil=>simp
  |cons x U ih=>rw[List.flatMap_cons,aKe,ih,axO,ayq,a83,Nat.succ_mul,Nat.add_comm]
 .have q:=CZ (kvs:=kvs) (Sum.inl s);rw[v s,e]at q;have hs:=q.mpr (ac1 m);have nz:mem s≠0:=λz=>by rw[aaU z]at hs;cases hs
  rw[List.mem_flatMap];have m0:0<=s%size:=baD _ (by lia);have m1:s%size<size:=a5F _ (by lia);refine⟨s/size,sup s nz,awR.mpr ⟨(s%size).toNat,ayn.mpr (by lia),?_⟩⟩;have:=aku s size;rw[Int.toNat_of_nonneg m0,Int.mul_comm];exact this
inductive Ax(K:W.Frag)(vs:List V)(H:Hp)(Q:VK)(E:XK):Prop
 |mk (p dx:Addr) (size:Int):vs=[.ref p,.int size]->H p=some (.ins (af K "Memory") dx [])->(∀(dk:Addr)(H':Hp),(∀U,dG K H' p dk size (λ_=>0) U)->H dk=none->(∀b o,H b=some o->b≠p->H' b=some o)->Q .aS H')->Ax K vs H Q E
example:(kL Gj):=by
 obtain ⟨p,dx,size,rfl,hp,k⟩:=h;refine⟨_,(Zd (qF (pv 0) (pv 1) rfl)
   (Zh (qF (pv 0) Kh rfl))),?_⟩
 refine⟨_,rfl,_,rfl,p,_,dx,_,rfl,hp,T.wI,T.LV,(by show 0<1000;decide),λdk Jt=>?_⟩;have np:p≠dk:=Zf (Za (H:=H) (a:=p) (o:=.ins (af K "Memory") dx (ah "size" (.int size) []))) Jt;refine⟨_,rfl,p,_,dx,_,rfl,(by rw[Zc np];exact Za),T.wI,T.Ek,(by show 1<1000;decide),?_⟩;rw[Zc (ac5 np)]at Jt;refine k dk _ (λU=>⟨⟨dx,Za⟩,⟨[],by rw[Zc (ac5 np)];exact Za,KI.nil,λ_=>rfl⟩,λs h=>absurd rfl h⟩) Jt λx o e n=>?_;rw[Zc n,Zc (Zf e Jt),Zc n];exact e
def aO(size:Int)(mem:Int->Int)(b:Int):List Int:=(List.range size.toNat).map λk=>mem (b*size+(k:Nat))
def gu(size:Int)(mem:Int->Int)(b:Int)(ws:List Int)(i:Nat):Int->Int:=λs=>if b*size<=s/\s<b*size+i then ws.getD (s-b*size).toNat 0 else mem s
def jK(size:Int)(mem:Int->Int)(b:Int)(ws:List Int):Int->Int:=gu size mem b ws size.toNat
theorem RZ{s b:Int}{i:Nat}{x:V}(h:(gF s b)[i]?=some x):x=.int (b*s+(i:Nat))/\i<s.toNat:=by
 unfold gF at h;rw[acC]at h;by_cases c:i<s.toNat
 .rw [a7b c]at h;exact⟨(a9h h).symm,c⟩
 .rw [baC (by rw[ayq];lia)]at h;cases h
inductive pF(K:W.Frag)(vs:List V)(H:Hp)(Q:VK)(E:XK):Prop
 |mk (bm dk:Addr) (size b:Int) (mem:Int->Int) (U:List Int):vs=[.ref bm,.int b]->dG K H bm dk size mem U->0<size->size<=1000->0<=b->b<=1000000->(∀l H',H l=none->aB H H'->H' l=some (.lst ((aO size mem b).map V.int))->Q (.ref l) H')->pF K vs H Q E
example:(gm Ez Ah):=by
 obtain⟨bm,dk,size,b,mem,U,rfl,M,z0,z1,b0,b1,k⟩:=h;refine⟨_,(Zh (Zs (ZZ (ZK (kF:=(Zr bP)) (oN:=iF) (N:=["spot","self"]) (own:=1) (js:=[0]) (by decide +kernel) rfl rfl) rfl (Ef (K:=K) rfl (Zl Ah hr.m rfl (pc (Zk (K:=K) rfl (pv 0) rfl) (pc (pv 1) Zb)))) (λ_ _ _ _ _ _=>(cu 0 (show List.Nodup (["spot","self"]:List Str) by decide +kernel))) (λ_ _ _ _ _ _=>(ZhO hu (Zk (K:=K) rfl (pv 1) rfl) (pv 0) Zi ⟨rfl,rfl,rfl,rfl⟩))))),?_⟩;obtain⟨dx,h1⟩:=M.ob;obtain⟨kvs,h2,h3,h4⟩:=M.kept;refine⟨_,rfl,bm,_,dx,_,_,rfl,h1,T.wI,T.LV,Ri ..,_,rfl,size,b,rfl,z0,z1,b0,b1,λr H1 hr1 s1 e1=>⟨r,rfl,⟨_,az.of e1⟩,λl hl=>?_⟩⟩;have ym:=s1 _ _ h1;have hk:=s1 _ _ h2;have Jb:(gF size b).length=size.toNat:=by unfold gF;rw[axO,ayq]
 refine Kr (K:=K) (a:=r) (xs:=gF size b) (l:=l) (λi ys σ' G'=>∃v0:Option V,σ'=[v0,some (.ref bm)]/\ys=((List.range i).map λk=>mem (b*size+(k:Nat))).map V.int/\G'=upd H1 l (.lst ys)) ⟨none,rfl,rfl,rfl⟩ (λi ys σ' G' _ ⟨_,_,_,q⟩=>az.of (by rw[q,Zc (Zf e1 hl)];exact e1)) ?_ ?_
 .rintro i x ys σ' G' hi hxi hys ⟨v0,rfl,rfl,rfl⟩;obtain⟨rfl,_⟩:=RZ hxi;have sl:=Ze hl (.lst (((List.range i).map λk=>mem (b*size+(k:Nat))).map V.int));have q:=e8.k (k:=Sum.inl (b*size+(i:Nat))) (sl _ _ hk);rw[h4]at q;refine⟨_,rfl,bm,_,dx,_,_,rfl,sl _ _ ym,T.wI,T.Ek,JT ..,dk,rfl,.inl ⟨_,.inl (sl _ _ hk)⟩,_,rfl,_,q,?_⟩;have eg:(if mem (b*size+(i:Nat))=0 then none else some (V.int (mem (b*size+(i:Nat))))).getD (V.int 0)=V.int (mem (b*size+(i:Nat))):=by
   by_cases c:mem (b*size+(i:Nat))=0
   .rw [aaU c,c];rfl
   .rw [afn c];rfl
  rw[eg];exact oS.of (aUL (Zz (by lia))) hi hys Za ⟨_,rfl,by rw[List.range_succ,ado,ado];rfl,Nm⟩
 .rintro ys σ' G' _ ⟨v0,rfl,rfl,rfl⟩;rw[Jb];exact k l _ (s1.free hl) (s1.trans (Ze hl _)) Za
inductive vQ(K:W.Frag)(vs:List V)(H:Hp)(Q:VK)(E:XK):Prop
 |mk (bm dk:Addr) (size b:Int) (mem:Int->Int) (U:List Int) (lw:Addr) (ws:List Int):vs=[.ref bm,.int b,.ref lw]->dG K H bm dk size mem U->0<size->size<=1000->0<=b->b<=1000000->b∈U->U.length<=800->H lw=some (.lst (ws.map V.int))->ws.length=size.toNat->(∀H',dG K H' bm dk size (jK size mem b ws) U->(∀x o,H x=some o->x≠dk->H' x=some o)->Q .aS H')->vQ K vs H Q E
theorem ZgX{size:Int}{mem:Int->Int}{b:Int}{ws:List Int}{i:Nat}{x:Int}(h:ws[i]?=some x)(s:Int):gu size mem b ws (i+1) s=if s=b*size+(i:Nat) then x else gu size mem b ws i s:=by
 unfold gu;have gd:ws.getD i 0=x:=by rw[auG,h];rfl
 by_cases c:s=b*size+(i:Nat)
 .rw [aaU c,aaU (by lia)];have:(s-b*size).toNat=i:=by lia
  rw[this,gd]
 .rw [afn c];by_cases d:b*size<=s/\s<b*size+(i:Nat)
  .rw [aaU d,aaU (by lia)]
  .rw [afn d,afn (by lia)]
theorem ZfD{size b:Int}{i:Nat}(z0:0<size)(hi:i<size.toNat):(b*size+(i:Nat))/size=b:=by
 rw[Int.add_comm,bbd _ _ (by lia),ajV (by lia) (by lia)];lia
example:(lW EF Ah):=by
 obtain⟨bm,dk,size,b,mem,U,lw,ws,rfl,M,z0,z1,b0,b1,bU,lU,oV,w9,k⟩:=h;refine⟨_,(Zh (yu aUe rfl (X5 rfl T.Ji (pc (Zl Ah hr.m rfl (pc (Zk (K:=K) rfl (pv 0) rfl) (pc (pv 1) Zb))) (pc (pv 2) Zb))) (ZQ (K:=K) (n:=2) rfl rfl (Zq (cu 3 nd) (Zq (cu 4 nd) ZO))) (Zh (aI (ZB bM (pv 4) Zi (Zx _)) (Zh (Zo (Sl (Zk (K:=K) rfl (pv 0) rfl) (pv 3) Zi ⟨rfl,rfl,rfl,rfl⟩))) (Zh (J2 hu (Zk (K:=K) rfl (pv 0) rfl) (pv 3) (pv 4) rfl)))))),?_⟩;obtain⟨dx,h1⟩:=M.ob;obtain⟨kv0,h2,_⟩:=M.kept;refine⟨_,rfl,bm,_,dx,_,_,rfl,h1,T.wI,T.LV,Ri ..,_,rfl,size,b,rfl,z0,z1,b0,b1,λr H1 hr1 s1 e1=>?_⟩;have Jb:(gF size b).length=size.toNat:=by unfold gF;rw[axO,ayq]
 have VL:r≠dk:=λz=>by rw[z,h2]at hr1;cases hr1
 have VV:lw≠dk:=λz=>by rw[z,h2]at oV;cases oV
 refine⟨_,rfl,r,lw,rfl,⟨_,az.of e1⟩,⟨_,az.of (s1 _ _ oV)⟩,YT (K:=K) (a:=r) (b:=lw) (xs:=gF size b) (ys:=ws.map V.int) (λi σ G=>∃v3 v4:Option V,σ=[some (.ref bm),some (.int b),some (.ref lw),v3,v4]/\dG K G bm dk size (gu size mem b ws i) U/\∀x o,H1 x=some o->x≠dk->G x=some o) (by rw[Jb,axO,w9])
  ⟨none,none,rfl,?_,λ_ _ e _=>e⟩ (λi σ G _ ⟨_,_,_,_,q⟩=>⟨az.of (q _ _ e1 VL),az.of (q _ _ (s1 _ _ oV) VV)⟩) ?_ ?_⟩
 .have e0:gu size mem b ws 0=mem:=by
   funext s
   unfold gu;rw[afn (by lia)]
  rw[e0];exact M.frame λx o _ e=>s1 x o e
 .rintro i x y t σ G hx hy ⟨v3,v4,rfl,M',fr⟩ ht;obtain⟨rfl,hi⟩:=RZ hx;obtain⟨z,hz,rfl⟩:∃z,ws[i]?=some z/\y=V.int z:=by
   rw[acC]at hy;cases e:ws[i]? with
   |none=>rw[e]at hy;cases hy
   |some z=>rw[e]at hy;exact⟨z,rfl,(a9h hy).symm⟩
  have s2:=Ze ht (.tup [V.int (b*size+(i:Nat)),V.int z]);refine⟨t,_,rfl,aU.of Za,rfl,_,_,rfl,gN ⟨_,_,rfl,gN ⟨rfl,?_⟩⟩⟩;have M2:dG K (upd G t (.tup [V.int (b*size+(i:Nat)),V.int z])) bm dk size (gu size mem b ws i) U:=M'.frame λx o _ e=>s2 x o e;have GN:∀x o,H1 x=some o->x≠dk->upd G t (.tup [V.int (b*size+(i:Nat)),V.int z]) x=some o:=λx o e n=>s2 _ _ (fr x o e n);generalize upd G t (.tup [V.int (b*size+(i:Nat)),V.int z])=G2 at *;obtain⟨l5,g1⟩:=M2.ob;obtain⟨kvs,g2,g3,g4⟩:=M2.kept;have VZ:bm≠dk:=λq=>by rw[q,g2]at g1;cases g1
  have sp:=ZfD (b:=b) z0 hi;have es:=ZgX (size:=size) (mem:=mem) (b:=b) hz;have fin:∀kvs',KI kvs'->(∀s,aV kvs' (Sum.inl s:Key)=if s=b*size+(i:Nat) then(if z=0 then none else some (.int z)) else aV kvs (Sum.inl s:Key))->dG K (upd G2 dk (.dK kvs')) bm dk size (gu size mem b ws (i+1)) U/\∀x o,H1 x=some o->x≠dk->upd G2 dk (.dK kvs') x=some o:=λkvs' ki hv=>by
   refine⟨⟨⟨l5,by rw[Zc VZ];exact g1⟩,⟨kvs',Za,ki,λs=>?_⟩,λs hs=>?_⟩,λx o e n=>by rw[Zc n];exact GN x o e n⟩
   .by_cases c:s=b*size+(i:Nat)
    .rw [hv s,(es s).trans (aaU c),aaU c]
    .rw [hv s,(es s).trans (afn c),afn c,g4 s]
   .rw [es s]at hs;by_cases c:s=b*size+(i:Nat)
    .rw [c,sp];exact bU
    .rw [afn c]at hs;exact M2.sup s hs
  refine⟨_,rfl,rfl,_,rfl,Nz (λc=>?_) (λc=>?_)⟩
  .have c:z=0:=by simpa using c
   refine⟨_,rfl,bm,_,l5,_,_,rfl,g1,T.wI,T.Ek,JT ..,dk,rfl,.inl ⟨_,.inl g2⟩,_,rfl,kvs,Sum.inl (b*size+(i:Nat)),g2,rfl,λv hv=>?_,λhv=>?_⟩
   .obtain ⟨f1,f2⟩:=fin _ (g3.drop (b*size+(i:Nat))) (λs=>by
     rw[HE,aaU c];by_cases q:s=b*size+(i:Nat)
     .rw [aaU (by rw[q]),aaU q]
     .rw [afn (λy=>q (aKC y)),afn q])
    exact⟨_,_,rfl,f1,f2⟩
   .rw [g4]at hv;have e0:gu size mem b ws i (b*size+(i:Nat))=0:=by
     by_cases q:gu size mem b ws i (b*size+(i:Nat))=0
     .exact q
     .rw [afn q]at hv;cases hv
    have e:gu size mem b ws (i+1)=gu size mem b ws i:=by
     funext s
     rw[es s];by_cases q:s=b*size+(i:Nat)
     .rw [aaU q,q,e0,c]
     .rw [afn q]
    exact⟨_,_,rfl,by rw[e];exact M2,GN⟩
  .have c:z≠0:=λq=>c (by rw[q];simp);have kl:=Rh z0 g3 g4 M2.sup;have kb:kvs.length<sizeLine:=aq5 (a0n kl (Nat.mul_le_mul lU (by lia:size.toNat<=1000))) (by decide);refine⟨_,rfl,_,rfl,bm,_,l5,_,_,rfl,g1,T.wI,T.Ek,JT ..,_,rfl,dk,_,rfl,mL.k (k:=Sum.inl (b*size+(i:Nat))) g2 kb,?_⟩;obtain⟨f1,f2⟩:=fin _ (g3.put (b*size+(i:Nat)) (.int z)) (λs=>by
     rw[HK,afn c];by_cases q:s=b*size+(i:Nat)
     .rw [aaU (by rw[q]),aaU q]
     .rw [afn (λy=>q (aKC y)),afn q])
   exact⟨_,_,rfl,f1,f2⟩
 .rintro σ G ⟨v3,v4,rfl,M',fr⟩;rw[Jb]at M';exact k G M' λx o e n=>fr x o (s1 _ _ e) n
structure aP where
 size:Int
 kind:Str
 br:List Cf
 U:List Int
structure WF(g:aP):Prop where
 cf:∀c∈g.br,1<=c.pl/\c.pl<=16
 z0:1<=g.size
 z1:g.size<=1000
 lU:g.U.length<=800
 ub:∀b∈g.U,0<=b/\b<=1000000
 l4:g.br.length<=4
 l1:1<=g.br.length
structure ao where
 rm:List Rm
 mem:Int->Int
 ev:List (List V)
def ao.at_(st:ao)(k:Nat):Rm:=st.rm.getD k qW
def ao.set(st:ao)(k:Nat)(s:Rm):ao:={ st with rm:=st.rm.set k s }
def ao.tell(st:ao)(e:List V):ao:={ st with ev:=st.ev++[e] }
structure TA where
 p:Addr
 ss:Addr
 bm:Addr
 dk:Addr
 ev:Addr
 as:List SA
abbrev OS:=Nat->Addr->Prop
def OS.set(os:OS)(k:Nat)(O:Addr->Prop):OS:=λj=>if j=k then O else os j
def Bs(A:TA)(x:Addr):Prop:=x=A.p\/x=A.ss\/x=A.bm\/x=A.dk\/x=A.ev
def OW(A:TA)(os:OS)(x:Addr):Prop:=Bs A x\/∃k,k<A.as.length/\os k x
def Ev(n:Nat)(e:List V):Prop:=(∃k:Nat,k<=n/\e=[.str "found",.int (k:Int)])\/(∃(k:Nat)(b:Int),(k<n/\0<=b/\b<=1000000)/\(e=[.str "in",.int (k:Int),.int b]\/e=[.str "out",.int (k:Int),.int b]))\/∃(k:Nat)(b:Int),(k<=n/\0<=b/\b<=1000000)/\e=[.str "words",.int (k:Int),.int b]
def uY(n:Nat)(H:Hp)(l:Addr)(es:List (List V)):Prop:=(∀e∈es,Ev n e)/\∃ts:List Addr,H l=some (.lst (ts.map V.ref))/\ts.length=es.length/\∀(i:Nat)(t:Addr)(e:List V),ts[i]?=some t->es[i]?=some e->H t=some (.tup e)
def bu(size:Int)(ss bm:Addr)(last:Nat)(ev:Addr)(kind:Str):List (Str×V):=(ah "events" (.ref ev) (ah "last" (.int last) (ah "bottom" (.ref bm) (ah "stores" (.ref ss) (ah "size" (.int size) [])))))
section
variable(size:Int)(ss bm:Addr)(last:Nat)(ev:Addr)(kind:Str)
theorem HU:(bu size ss bm last ev kind).lookup ("events":Str)=some (.ref ev):=by
 unfold bu;rw[Zg,aaU rfl]
theorem Bq:(bu size ss bm last ev kind).lookup ("last":Str)=some (.int last):=by
 unfold bu;rw[Zg,afn (by decide +kernel),Zg,aaU rfl]
theorem Nq:(bu size ss bm last ev kind).lookup ("bottom":Str)=some (.ref bm):=by
 unfold bu;rw[Zg,afn (by decide +kernel),Zg,afn (by decide +kernel),Zg,aaU rfl]
theorem Zv:(bu size ss bm last ev kind).lookup ("stores":Str)=some (.ref ss):=by
 unfold bu;rw[Zg,afn (by decide +kernel),Zg,afn (by decide +kernel),Zg,afn (by decide +kernel),Zg,aaU rfl]
theorem D6:(bu size ss bm last ev kind).lookup ("size":Str)=some (.int size):=by
 unfold bu;rw[Zg,afn (by decide +kernel),Zg,afn (by decide +kernel),Zg,afn (by decide +kernel),Zg,afn (by decide +kernel),Zg,aaU rfl]
theorem au{m:Str}(h2:¬m ="events":=by decide +kernel)(h3:¬m ="last":=by decide +kernel)(h4:¬m ="bottom":=by decide +kernel)(h5:¬m ="stores":=by decide +kernel)(h6:¬m ="size":=by decide +kernel):(bu size ss bm last ev kind).lookup m=none:=by
 unfold bu;rw[Zg,afn h2,Zg,afn h3,Zg,afn h4,Zg,afn h5,Zg,afn h6];rfl
theorem ZW{f g:Str}{v x:V}{r:List (Str×V)}(h:¬g=f):ah f v ((g,x) ::r)=(g,x) ::ah f v r:=by
 show(if g=f then _ else _)=_;rw[afn h]
theorem ZjE{f:Str}{v x:V}{r:List (Str×V)}:ah f v ((f,x) ::r)=(f,v) ::r:=by
 show(if f=f then _ else _)=_;rw[aaU rfl]
theorem HC{f:Str}{v:V}:ah f v []=[(f,v)]:=rfl
theorem NN:bu size ss bm last ev kind=([(("size":Str),V.int size),(("stores":Str),V.ref ss),(("bottom":Str),V.ref bm),(("last":Str),V.int last),(("events":Str),V.ref ev)]:List (Str×V)):=by
 unfold bu;have a1:¬("size":Str) ="stores":=by decide +kernel
 have a2:¬("size":Str) ="bottom":=by decide +kernel
 have a3:¬("size":Str) ="last":=by decide +kernel
 have a4:¬("size":Str) ="events":=by decide +kernel
 have b2:¬("stores":Str) ="bottom":=by decide +kernel
 have b3:¬("stores":Str) ="last":=by decide +kernel
 have b4:¬("stores":Str) ="events":=by decide +kernel
 have c3:¬("bottom":Str) ="last":=by decide +kernel
 have c4:¬("bottom":Str) ="events":=by decide +kernel
 have d4:¬("last":Str) ="events":=by decide +kernel
 rw[HC,ZW a1,HC,ZW a2,ZW b2,HC,ZW a3,ZW b3,ZW c3,HC,ZW a4,ZW b4,ZW c4,ZW d4,HC]
theorem Yw(ev':Addr):ah "events" (.ref ev') (bu size ss bm last ev kind)=bu size ss bm last ev' kind:=by
 rw[NN,NN];have a4:¬("size":Str) ="events":=by decide +kernel
 have b4:¬("stores":Str) ="events":=by decide +kernel
 have c4:¬("bottom":Str) ="events":=by decide +kernel
 have d4:¬("last":Str) ="events":=by decide +kernel
 rw[ZW a4,ZW b4,ZW c4,ZW d4,ZjE]
end
structure aa(K:W.Frag)(H:Hp)(A:TA)(g:aP)(st:ao)(os:OS)(n:Nat):Prop where
 ob:∃dx,H A.p=some (.ins (af K "Beside") dx (bu g.size A.ss A.bm A.as.length A.ev g.kind))
 ss:H A.ss=some (.lst (A.as.map λa=>V.ref a.sp))
 mem:dG K H A.bm A.dk g.size st.mem g.U
 ev:uY g.br.length H A.ev st.ev
 zG:st.ev.length<=n
 lc:g.br.length=A.as.length
 lS:st.rm.length=A.as.length
 aW:∀(k:Nat)(a:SA)(c:Cf)(s:Rm),A.as[k]?=some a->g.br[k]?=some c->st.rm[k]?=some s->ay K H a c s (os k)
 off:∀k,k<A.as.length->∀x,os k x->¬Bs A x
 tX:∀i j,i<A.as.length->j<A.as.length->i≠j->∀x,os i x->¬os j x
 Cb:A.ss≠A.ev
 vf:A.p≠A.bm
 vD:∀s∈st.rm,∀b∈s.seq,b∈g.U
 full:∀(k:Nat)(c:Cf)(s:Rm),g.br[k]?=some c->st.rm[k]?=some s->∀t,((Zm c.sh t s.seq).length:Int)<=c.pl
 wl:∀s∈st.rm,∀b∈s.seq,(s.wd b).length=g.size.toNat
 wf:WF g
 tb:Tb K H
section
variable{K:W.Frag}{H H':Hp}{A:TA}{g:aP}{st:ao}{os:OS}{n:Nat}{a:SA}{c:Cf}{s:Rm}
theorem uY.frame{m:Nat}{l:Addr}{es:List (List V)}(h:uY m H l es)(f1:∀o,H l=some o->H' l=some o)(f2:∀x ys,H x=some (.tup ys)->H' x=some (.tup ys)):uY m H' l es:=by
 obtain⟨h0,ts,h1,h2,h3⟩:=h;exact⟨h0,ts,f1 _ h1,h2,λi t e a b=>f2 _ _ (h3 i t e a b)⟩
theorem aa.frame(T:aa K H A g st os n)(f:∀x o,H x=some o->(OW A os x\/¬Mt o)->H' x=some o):aa K H' A g st os n:=by
 obtain⟨dx,h1⟩:=T.ob;have fb:∀{x o},Bs A x->H x=some o->H' x=some o:=λ{x o} h e=>f x o e (.inl (.inl h));have ft:∀x ys,H x=some (.tup ys)->H' x=some (.tup ys):=λx ys e=>f x _ e (.inr id);refine⟨⟨dx,fb (.inl rfl) h1⟩,fb (by simp[Bs]) T.ss,T.mem.frame λx o m e=>fb (by rcases m with m|m <;> simp[Bs,m]) e,T.ev.frame (λo e=>fb (by simp[Bs]) e) ft,T.zG,T.lc,T.lS,λk a c s h1 h2 h3=>(T.aW k a c s h1 h2 h3).frame λx o h e=>f x o e (.inl (.inr ⟨k,(aB9.mp h1).1,h⟩)),T.off,T.tX,T.Cb,T.vf,T.vD,T.full,T.wl,T.wf,f _ _ T.tb (.inr id)⟩
theorem aa.same(T:aa K H A g st os n)(h:aB H H'):aa K H' A g st os n:=T.frame λx o e _=>h x o e
theorem aa.le{m:Nat}(T:aa K H A g st os n)(h:n<=m):aa K H A g st os m:=⟨T.ob,T.ss,T.mem,T.ev,a0n T.zG h,T.lc,T.lS,T.aW,T.off,T.tX,T.Cb,T.vf,T.vD,T.full,T.wl,T.wf,T.tb⟩
theorem aa.ex(T:aa K H A g st os n):∀x,OW A os x->H x≠none:=λx h=>by
 rcases h with h|⟨k,hk,h⟩
 .obtain ⟨dx,h1⟩:=T.ob;obtain⟨dm,h2⟩:=T.mem.ob;obtain⟨kv,h3,_⟩:=T.mem.kept;obtain⟨_,ts,h4,_⟩:=T.ev;rcases h with rfl|rfl|rfl|rfl|rfl
  .rw [h1];simp
  .rw [T.ss];simp
  .rw [h2];simp
  .rw [h3];simp
  .rw [h4];simp
 .have h1:A.as[k]?=some A.as[k]:=aun hk;have h2:g.br[k]?=some (g.br[k]'(by rw[T.lc];exact hk)):=aun _;have h3:st.rm[k]?=some (st.rm[k]'(by rw[T.lS];exact hk)):=aun _;exact(T.aW _ _ _ _ h1 h2 h3).aW.ex x h
theorem ao.at_of{k:Nat}(h:k<st.rm.length):st.rm[k]?=some (st.at_ k):=by
 unfold ao.at_;rw[auG,aun h];rfl
theorem ao.bI{k j:Nat}{s:Rm}(h:k<st.rm.length):(st.set k s).at_ j=if j=k then s else st.at_ j:=by
 unfold ao.at_ ao.set;rw[auG,auG];by_cases z:j=k
 .rw [aaU z,z,ac8 h];rfl
 .rw [afn z,aTx (ac5 z)]
def aP.cf(g:aP)(k:Nat):Cf:=g.br.getD k ⟨1,1,"old",true⟩
theorem aa.at_(T:aa K H A g st os n){k:Nat}(hk:k<A.as.length):∃a,A.as[k]?=some a/\g.br[k]?=some (g.cf k)/\st.rm[k]?=some (st.at_ k)/\ay K H a (g.cf k) (st.at_ k) (os k):=by
 have h1:A.as[k]?=some A.as[k]:=aun hk;have h2:g.br[k]?=some (g.cf k):=by
  unfold aP.cf;rw[auG,aun (by rw[T.lc];exact hk)];rfl
 have h3:=ao.at_of (st:=st) (k:=k) (by rw[T.lS];exact hk);exact⟨_,h1,h2,h3,T.aW _ _ _ _ h1 h2 h3⟩
theorem aa.mj(T:aa K H A g st os n){k:Nat}(hk:k<A.as.length):(st.at_ k).seq.length<=800/\(∀b∈(st.at_ k).seq,b∈g.U/\((st.at_ k).wd b).length=g.size.toNat)/\(∀t,((Zm (g.cf k).sh t (st.at_ k).seq).length:Int)<=(g.cf k).pl)/\1<=(g.cf k).pl/\(g.cf k).pl<=16/\(st.at_ k).seq.Nodup:=by
 obtain⟨a,h1,h2,h3,S⟩:=T.at_ hk;have m:=bcc h3;obtain⟨c1,c2⟩:=T.wf.cf _ (bcc h2);exact⟨a0n (CM S.aW.room.nd (T.vD _ m)) T.wf.lU,λb h=>⟨T.vD _ m b h,T.wl _ m b h⟩,T.full _ _ _ h2 h3,c1,c2,S.aW.room.nd⟩
theorem Yv{k:Nat}{O':Addr->Prop}(T:aa K H A g st os n)(hk:k<A.as.length)(p:bR (os k) H H' O'):bR (OW A os) H H' (OW A (os.set k O')):=by
 refine⟨λx o e nn=>p.kp x o e λh=>nn (.inr ⟨k,hk,h⟩),λx h=>?_⟩;rcases h with h|⟨j,hj,h⟩
 .exact .inl (.inl h)
 .unfold OS.set at h;by_cases z:j=k
  .rw [aaU z]at h;exact(p.fr x h).elim (λq=>.inl (.inr ⟨k,hk,q⟩)) .inr
  .rw [afn z]at h;exact .inl (.inr ⟨j,hj,h⟩)
theorem aa.iz{k:Nat}{s':Rm}{O':Addr->Prop}(T:aa K H A g st os n)(ha:A.as[k]?=some a)(hc:g.br[k]?=some c)(S:ay K H' a c s' O')(p:bR (os k) H H' O')(hu:∀b∈s'.seq,b∈g.U/\(s'.wd b).length=g.size.toNat)(hf:∀t,((Zm c.sh t s'.seq).length:Int)<=c.pl) :
  aa K H' A g (st.set k s') (os.set k O') n/\bR (OW A os) H H' (OW A (os.set k O')):=by
 have hk:k<A.as.length:=(aB9.mp ha).1;refine⟨?_,Yv T hk p⟩;have nb:∀{x o},Bs A x->H x=some o->H' x=some o:=λ{x o} h e=>p.kp x o e λq=>absurd h (T.off k hk x q);have nt:∀x ys,H x=some (.tup ys)->H' x=some (.tup ys):=λx ys e=>p.kp x _ e λ_=>id;obtain⟨dx,h1⟩:=T.ob;refine⟨⟨dx,nb (.inl rfl) h1⟩,nb (by simp[Bs]) T.ss,T.mem.frame λx o m e=>nb (by rcases m with m|m <;> simp[Bs,m]) e,T.ev.frame (λo e=>nb (by simp[Bs]) e) nt,T.zG,T.lc,by show(st.rm.set k s').length=_;rw[ary];exact T.lS,λj b cb sb hb hcb lD=>?_,λj hj x h=>?_,λi j hi hj hij x h1 h2=>?_,T.Cb,T.vf,λq hq b hb=>?_,λj cb sb hcb lD=>?_,λq hq b hb=>?_,T.wf,p.kp _ _ T.tb λ_=>id⟩
 .have hj:=(aB9.mp hb).1;unfold OS.set;by_cases e:j=k
  .subst e;rw[ha]at hb;cases hb;rw[hc]at hcb;cases hcb;have lD:(st.rm.set j s')[j]?=some sb:=lD;rw[ac8 (by rw[T.lS];exact hk)]at lD;cases lD;rw[aaU rfl];exact S
  .have lD:(st.rm.set k s')[j]?=some sb:=lD;rw[aTx (ac5 e)]at lD;rw[afn e];exact(T.aW j b cb sb hb hcb lD).frame λx o h q=>p.kp x o q λz=>absurd z (T.tX j k hj hk e x h)
 .unfold OS.set at h;by_cases e:j=k
  .rw [aaU e]at h;rcases p.fr x h with q|q
   .exact T.off k hk x q
   .exact λz=>T.ex x (.inl z) q
  .rw [afn e]at h;exact T.off j hj x h
 .unfold OS.set at h1 h2;by_cases e1:i=k
  .rw [aaU e1]at h1;rw[afn (λz=>hij (e1.trans z.symm))]at h2;rcases p.fr x h1 with q|q
   .exact T.tX k j hk hj (λz=>hij (e1.trans z)) x q h2
   .exact T.ex x (.inr ⟨j,hj,h2⟩) q
  .rw [afn e1]at h1;by_cases e2:j=k
   .rw [aaU e2]at h2;rcases p.fr x h2 with q|q
    .exact T.tX i k hi hk e1 x h1 q
    .exact T.ex x (.inr ⟨i,hi,h1⟩) q
   .rw [afn e2]at h2;exact T.tX i j hi hj hij x h1 h2
 .rcases a1n hq with hq|rfl
  .exact T.vD q hq b hb
  .exact (hu b hb).1
 .by_cases e:j=k
  .subst e;rw[hc]at hcb;cases hcb;have lD:(st.rm.set j s')[j]?=some sb:=lD;rw[ac8 (by rw[T.lS];exact hk)]at lD;cases lD;exact hf
  .have lD:(st.rm.set k s')[j]?=some sb:=lD;rw[aTx (ac5 e)]at lD;exact T.full j cb sb hcb lD
 .rcases a1n hq with hq|rfl
  .exact T.wl q hq b hb
  .exact (hu b hb).2
theorem aa.event(T:aa K H A g st os n){t:Addr}(e:List V)(he:Ev g.br.length e)(ht:H t=none):∃ts:List Addr,H A.ev=some (.lst (ts.map V.ref))/\ts.length<=n/\aa K (upd (upd H t (.tup e)) A.ev (.lst (ts.map V.ref++[.ref t]))) A g (st.tell e) os (n+1)/\bR (OW A os) H (upd (upd H t (.tup e)) A.ev (.lst (ts.map V.ref++[.ref t]))) (OW A os):=by
 obtain⟨h0,ts,h1,h2,h3⟩:=T.ev;have s1:=Ze ht (.tup e);have T1:=T.same s1;have VI:t≠A.ev:=λz=>by rw[z,h1]at ht;cases ht
 have off:∀{x o},H x=some o->x≠A.ev->upd (upd H t (.tup e)) A.ev (.lst (ts.map V.ref++[.ref t])) x=some o:=λ{x o} q z=>by rw[Zc z];exact s1 _ _ q
 have nk:∀{x o},H x=some o->(∀xs,o≠.lst xs)->x≠A.ev:=λ{x o} q m z=>by rw[z,h1]at q;exact m _ (a9h q).symm
 have zG:=T.zG;refine⟨ts,h1,by lia,?_,⟨λx o q m=>off q λz=>?_,λx h=>.inl h⟩⟩
 .obtain ⟨dx,g1⟩:=T.ob;obtain⟨dm,g2⟩:=T.mem.ob;obtain⟨kv,g3,g4⟩:=T.mem.kept;refine⟨⟨dx,off g1 (nk g1 (λ_ z=>by cases z))⟩,off T.ss T.Cb,⟨⟨dm,off g2 (nk g2 (λ_ z=>by cases z))⟩,⟨kv,off g3 (nk g3 (λ_ z=>by cases z)),g4⟩,T.mem.sup⟩,⟨λe' m=>(aaI.mp m).elim (h0 e') λm=>by rw[apU.mp m];exact he,ts++[t],by rw[Za,ado];rfl,by rw[aKe];show _=(st.ev++[e]).length;rw[aKe,h2];rfl,λi t' e' q1 q2=>?_⟩,by show(st.ev++[e]).length<=n+1;rw[aKe];show st.ev.length+1<=n+1;lia,T.lc,T.lS,λk a c s q1 q2 q3=>(T.aW k a c s q1 q2 q3).frame λx o h q=>off q λz=>T.off k (aB9.mp q1).1 x h (by simp[Bs,z]),T.off,T.tX,T.Cb,T.vf,T.vD,T.full,T.wl,T.wf,off T.tb (nk T.tb (λ_ z=>by cases z))⟩;have q2:(st.ev++[e])[i]?=some e':=q2;by_cases hi:i<ts.length
  .rw [aGp hi]at q1;rw[aGp (by lia)]at q2;have q:=h3 i t' e' q1 q2;exact off q (nk q (λ_ z=>by cases z))
  .have hl:=(aB9.mp q1).1;rw[aKe,aSc]at hl;have:i=ts.length:=by lia
   rw[a8o (by lia),this,Nat.sub_self]at q1;rw[a8o (by lia),show i-st.ev.length=0 by lia]at q2;cases q1;cases q2;rw[Zc VI];exact Za
 .rw [z,h1]at q;cases q;exact m (.inl (by simp[Bs,z])) trivial
end
theorem Na{R:Int->Int->Prop}(anti:∀a b,R a b->R b a->a=b):∀{l1 l2:List Int},l1.Perm l2->l1.Pairwise R->l2.Pairwise R->l1=l2
 | [],l2,p,_,_=>(List.nil_perm.mp p).symm
 |a ::l1,l2,p,h1,h2=>by
  match l2,p,h2 with
  | [],p,_=>exact absurd p.length_eq (by simp)
  |b ::l2,p,h2=>
   have e:a=b:=by
    by_cases c:a=b
    .exact c
    .have ma:a∈l2:=(baL.mp (p.mem_iff.mp aTL)).resolve_left c;have mb:b∈l1:=(baL.mp (p.mem_iff.mpr aTL)).resolve_left (λz=>c z.symm);exact anti a b ((aUD.mp h1).1 b mb) ((aUD.mp h2).1 a ma)
   subst e;rw[Na anti (List.Perm.cons_inv p) (aUD.mp h1).2 (aUD.mp h2).2]
theorem Zid{us:Int->Int}{ms:List Int}(a b:Int)(h1:Ac us ms a b)(h2:Ac us ms b a):a=b:=by
 rcases h1 with h1|⟨h1,h3⟩ <;> rcases h2 with h2|⟨h2,h4⟩ <;> lia
theorem ZgY{ru:Str}{us:Int->Int}{pl:Int}{ms:List Int}{g g':Option Int}(h:dR ru us pl ms g)(h':dR ru us pl ms g'):g=g':=by
 by_cases c:(ms.length:Int)<pl
 .rw [h.1 c,h'.1 c]
 .obtain ⟨x,r,rfl,p,f,n⟩:=h.2 c;obtain⟨x',r',rfl,p',f',n'⟩:=h'.2 c;have e:x ::r=x' ::r':=by
   by_cases q:ru ="few"
   .exact Na Zid (p.trans p'.symm) (f q) (f' q)
   .rw [n q,n' q]
  injection e with e1 _
  rw[e1]
open Classical in
noncomputable def cQ(c:Cf)(s:Rm)(b:Int):Option Int:=if h:∃g,dR c.ru s.us c.pl (Zm c.sh (b%c.sh) s.seq) g then Classical.choose h else none
theorem Zie{c:Cf}{s:Rm}{b:Int}{g:Option Int}(h:dR c.ru s.us c.pl (Zm c.sh (b%c.sh) s.seq) g):cQ c s b=g:=by
 unfold cQ;have e:∃g,dR c.ru s.us c.pl (Zm c.sh (b%c.sh) s.seq) g:=⟨g,h⟩;rw[dif_pos e];exact ZgY (Classical.choose_spec e) h
theorem ZgZ{sh pl:Int}{seq seq':List Int}(h:∀s,((Zm sh s seq).length:Int)<=pl)(hs:seq'.Sublist seq):∀s,((Zm sh s seq').length:Int)<=pl:=λs=>by
 have q:(Zm sh s seq').Sublist (Zm sh s seq):=List.Sublist.filter _ hs;have:=q.length_le;have:=h s;lia
theorem Zha{sh pl:Int}{seq seq':List Int}(h:∀s,((Zm sh s seq).length:Int)<=pl)(hs:seq'.Perm seq):∀s,((Zm sh s seq').length:Int)<=pl:=λs=>by
 have q:(Zm sh s seq').Perm (Zm sh s seq):=List.Perm.filter _ hs;rw[q.length_eq];exact h s
theorem ZjF{sh pl b:Int}{seq:List Int}(h:∀s,((Zm sh s seq).length:Int)<=pl)(hb:((Zm sh (b%sh) seq).length:Int)<pl):∀s,((Zm sh s (seq++[b])).length:Int)<=pl:=λs=>by
 rw[HM];split
 .rename_i e;rw[<-e,aKe];show((_+1:Nat):Int)<=pl;lia
 .exact h s
def ju(c:Cf)(s:Rm)(b:Int):Rm:=⟨if c.ru ="old" then s.seq.erase b++[b] else s.seq,bump s.us b,s.wd,s.fr⟩
theorem C3{c:Cf}{s:Rm}{b:Int}(hb:b∈s.seq):(ju c s b).seq.Perm s.seq:=by
 unfold ju;by_cases e:c.ru ="old"
 .rw [aaU e];exact(apN).trans (List.perm_cons_erase hb).symm
 .rw [afn e]
def eW(k:Nat)(b:Int):List V:=[.str "words",.int (k:Int),.int b]
def eI(k:Nat)(b:Int):List V:=[.str "in",.int (k:Int),.int b]
def eO(k:Nat)(b:Int):List V:=[.str "out",.int (k:Int),.int b]
def eF(k:Nat):List V:=[.str "found",.int (k:Int)]
def aP.n(g:aP):Nat:=g.br.length
def bD(g:aP)(k:Nat)(b:Int)(ws:List Int)(st:ao):ao:=if k=g.n then ao.tell { st with mem:=jK g.size st.mem b ws } (eW k b) else(st.set k (oF (st.at_ k) b ws)).tell (eW k b)
def bV(k:Nat)(b:Int)(ws:List Int)(st:ao):ao:=(st.set k (LZ (st.at_ k) b ws)).tell (eI k b)
def aZ(k:Nat)(b:Int)(st:ao):ao:=(st.tell (eO k b)).set k (p8 (st.at_ k) b)
def fq(st:ao):ao:={ st with ev:=[] }
def TA.re(A:TA)(e:Addr):TA:={ A with ev:=e }
def Res(K:W.Frag)(H:Hp)(A:TA)(g:aP)(os:OS)(st':ao)(m:Nat)(Q:Hp->Prop):Prop:=∀H' os',aa K H' A g st' os' m->bR (OW A os) H H' (OW A os')->Q H'
section
variable{K:W.Frag}{H H':Hp}{A:TA}{g:aP}{st:ao}{os:OS}{n:Nat}
theorem aa.ix{k:Nat}{a:SA}(ha:A.as[k]?=some a):fP (A.as.map λa=>V.ref a.sp) (k:Int)=some (.ref a.sp):=xT (by rw[acC,ha];rfl)
theorem aa.ln(T:aa K H A g st os n):g.n=A.as.length:=T.lc
theorem bR.out{O O':Addr->Prop}(p:bR O H H' O'){x:Addr}{o:HO}(h:H x=some o)(n:¬O x):H' x=some o/\¬O' x:=⟨p.kp x o h λz=>absurd z n,λz=>(p.fr x z).elim n λq=>by rw[h]at q;cases q⟩
theorem aa.fresh(T:aa K H A g st os n){x:Addr}(h:H x=none):¬OW A os x:=λz=>T.ex x z h
theorem aa.told(T:aa K H A g st os n){e' dx:Addr}(he:H e'=none):aa K (upd (upd H e' (.lst [])) A.p (.ins (af K "Beside") dx (bu g.size A.ss A.bm A.as.length e' g.kind))) (A.re e') g (fq st) os 0:=by
 obtain⟨d0,h1⟩:=T.ob;obtain⟨dm,h2⟩:=T.mem.ob;obtain⟨kv,h3,h4⟩:=T.mem.kept;have s:=Ze he (.lst ([]:List V));have VP:A.p≠e':=Zf h1 he;have off:∀{x o},H x=some o->x≠A.p->upd (upd H e' (.lst [])) A.p (.ins (af K "Beside") dx (bu g.size A.ss A.bm A.as.length e' g.kind)) x=some o:=λ{x o} q z=>by rw[Zc z];exact s _ _ q
 have nk:∀{x o},H x=some o->(∀C d f,o≠.ins C d f)->x≠A.p:=λ{x o} q m z=>by rw[z,h1]at q;exact m _ _ _ (a9h q).symm
 have nb:∀x,(∃k,k<A.as.length/\os k x)->¬Bs (A.re e') x:=λx ⟨k,hk,h⟩ z=>by
  rcases z with z|z|z|z|z
  .exact T.off k hk x h (.inl z)
  .exact T.off k hk x h (.inr (.inl z))
  .exact T.off k hk x h (.inr (.inr (.inl z)))
  .exact T.off k hk x h (.inr (.inr (.inr (.inl z))))
  .have z:x=e':=z;exact T.ex x (.inr ⟨k,hk,h⟩) (z ▸he)
 refine⟨⟨dx,Za⟩,off T.ss (nk T.ss (λ_ _ _ z=>by cases z)),⟨⟨dm,off h2 (ac5 T.vf)⟩,⟨kv,off h3 (nk h3 (λ_ _ _ z=>by cases z)),h4⟩,T.mem.sup⟩,⟨(λe m=>by cases m),[],by show _=some (HO.lst []);rw[show(A.re e').ev=e' from rfl,Zc (ac5 VP)];exact Za,rfl,λi t e q _=>by simp at q⟩,ags _,T.lc,T.lS,λk a c s' q1 q2 q3=>(T.aW k a c s' q1 q2 q3).frame λx o h q=>off q λz=>T.off k (aB9.mp q1).1 x h (.inl z),λk hk x h=>nb x ⟨k,hk,h⟩,T.tX,λz=>?_,T.vf,T.vD,T.full,T.wl,T.wf,off T.tb (nk T.tb (λ_ _ _ z=>by cases z))⟩;have z:A.ss=e':=z;have q:=T.ss;rw[z,he]at q;cases q
end
inductive pA(K:W.Frag)(vs:List V)(H:Hp)(Q:VK)(E:XK):Prop
 |mk (A:TA) (g:aP) (st:ao) (os:OS) (n k:Nat) (a:SA):vs=[.ref A.p,.int (k:Int)]->aa K H A g st os n->A.as[k]?=some a->Q (.ref a.sp) H->pA K vs H Q E
example:(kI wF):=by
 obtain ⟨A,g,st,os,n,k,a,rfl,R,ha,q⟩:=h;refine⟨_,(Zd (aI (zR (Zhw FA qd Zi (pv 1) (Zk (K:=K) rfl (pv 0) rfl))) (Zh wK) Zt)
   (Zh (Zs (av (Zn (K:=K) rfl) (Zk (K:=K) rfl (pv 0) rfl) (pv 1) (λ_ _=>rfl))))),?_⟩
 obtain⟨dx,h1⟩:=R.ob;have hk:k<A.as.length:=(aB9.mp ha).1;refine⟨_,rfl,_,_,rfl,rfl,_,rfl,fK (a5U (by lia)) ⟨_,rfl,A.p,_,dx,_,_,rfl,h1,T.aM,T.yT,Bq ..,_,_,rfl,rfl,_,rfl,cO (by rw[a5U (by lia)];rfl) ?_⟩⟩;exact⟨_,rfl,A.p,_,dx,_,_,rfl,h1,T.aM,T.pZ,Zv ..,_,rfl,A.ss,_,_,_,rfl,rfl,az.of R.ss,aa.ix ha,q⟩
def Bh(g:aP)(st:ao)(k:Nat)(b:Int):List Int:=if k=g.n then aO g.size st.mem b else(st.at_ k).wd b
inductive pq(K:W.Frag)(vs:List V)(H:Hp)(Q:VK)(E:XK):Prop
 |mk (A:TA) (g:aP) (st:ao) (os:OS) (n k:Nat) (b:Int):vs=[.ref A.p,.int (k:Int),.int b]->aa K H A g st os n->k<=g.n->(k<g.n->b∈(st.at_ k).seq)->0<=b->b<=1000000->(∀l H',H l=none->aB H H'->H' l=some (.lst ((Bh g st k b).map V.int))->Q (.ref l) H')->pq K vs H Q E
example:(kH tO Ez wF tP):=by
 obtain ⟨A,g,st,os,n,k,b,rfl,R,hk,hb,b0,b1,q⟩:=h;refine⟨_,(Zd (aI (ZB bM (pv 1) (Zk (K:=K) rfl (pv 0) rfl) (Zx _)) (Zh (Zs (Zj Ez hr.m T.wI (Zk (K:=K) rfl (pv 0) rfl) (pc (pv 2) Zb)))) Zt)
   (Zh (Zs (Zj tP hr.m T.dH (Zj wF hr.m T.aM (pv 0) (pc (pv 1) Zb)) (pc (pv 2) Zb))))),?_⟩
 obtain⟨dx,h1⟩:=R.ob;obtain⟨dm,h2⟩:=R.mem.ob;have ln:=R.ln;unfold Bh at q;refine⟨_,rfl,_,rfl,A.p,_,dx,_,_,rfl,h1,T.aM,T.yT,Bq ..,rfl,_,rfl,Rq (λe=>?_) (λe=>?_)⟩
 .rw [aaU (by lia)]at q;exact⟨_,rfl,A.p,_,dx,_,_,rfl,h1,T.aM,T.IB,Nq ..,A.bm,dm,_,rfl,h2,wZ ..,_,rfl,A.bm,A.dk,g.size,b,st.mem,g.U,rfl,R.mem,by have:=R.wf.z0;lia,R.wf.z1,b0,b1,q⟩
 .rw [afn (by lia)]at q;obtain⟨a,e1,e2,e3,B⟩:=R.at_ (k:=k) (by lia);obtain⟨ds,h3⟩:=B.aW.ob;exact⟨_,rfl,A.p,dx,_,rfl,h1,au ..,_,rfl,A,g,st,os,n,k,a,rfl,R,e1,a.sp,ds,_,rfl,h3,bW ..,_,rfl,a,_,_,_,b,rfl,B,hb (by lia),λl hl=>q l _ hl (Ze hl _) Za⟩
inductive j6(K:W.Frag)(vs:List V)(H:Hp)(Q:VK)(_v3:XK):Prop
 |mk (A:TA) (g:aP) (st:ao) (os:OS) (n:Nat):vs=[.ref A.p]->aa K H A g st os n->(∀e' H',aa K H' (A.re e') g (fq st) os 0->uY g.n H' A.ev st.ev->¬OW (A.re e') os A.ev->bR (OW A os) H H' (OW (A.re e') os)->Q (.ref A.ev) H')->j6 K vs H Q _v3
example:(ie wG):=by
 obtain ⟨A,g,st,os,n,rfl,R,q⟩:=h;refine⟨_,(Zd (dw 1 nd (Zk (K:=K) rfl (pv 0) rfl))
   (Zd (qF (pv 0) (qE Zb) rfl)
   (Zh (Zs (pv 1))))),?_⟩
 obtain⟨dx,h1⟩:=R.ob;refine⟨_,rfl,A.p,_,dx,_,_,rfl,h1,T.aM,T.BU,HU ..,gN ?_⟩;try dsimp only
 refine⟨(sL 0),λe' he=>⟨_,rfl,A.p,_,dx,_,rfl,Ze he _ _ _ h1,T.aM,T.BU,(by rw[NN];show 5<1000;decide),?_⟩⟩;rw[Yw];have off:∀{x o},H x=some o->x≠A.p->upd (upd H e' (.lst [])) A.p (.ins (af K "Beside") dx (bu g.size A.ss A.bm A.as.length e' g.kind)) x=some o:=λ{x o} q z=>by rw[Zc z];exact Ze he _ _ _ q
 have np:∀{x o},H x=some o->(∀C d f,o≠.ins C d f)->x≠A.p:=λ{x o} q m z=>by rw[z,h1]at q;exact m _ _ _ (a9h q).symm
 obtain⟨v0,ts,v1,v2,v3⟩:=R.ev;have VH:A.ev≠e':=Zf v1 he;refine⟨_,rfl,q e' _ (R.told he) ⟨v0,ts,off v1 (np v1 (λ_ _ _ z=>by cases z)),v2,λi t e a b=>off (v3 i t e a b) (np (v3 i t e a b) (λ_ _ _ z=>by cases z))⟩ (λz=>?_) ⟨λx o e m=>off e λz=>?_,λx h=>?_⟩⟩
 .rcases z with z|⟨k,hk,z⟩
  .obtain ⟨dm,h2⟩:=R.mem.ob;obtain⟨kv,h3,_⟩:=R.mem.kept;rcases z with z|z|z|z|z
   .exact np v1 (λ_ _ _ z=>by cases z) z
   .exact R.Cb z.symm
   .rw [show(A.re e').bm=A.bm from rfl]at z;rw[z,h2]at v1;cases v1
   .rw [show(A.re e').dk=A.dk from rfl]at z;rw[z,h3]at v1;cases v1
   .exact VH z
  .exact R.off k hk _ z (by simp[Bs])
 .rw [z,h1]at e;cases e;exact m (.inl (.inl z)) trivial
 .rcases h with h|h
  .rcases h with h|h|h|h|h
   .exact .inl (.inl (.inl h))
   .exact .inl (.inl (.inr (.inl h)))
   .exact .inl (.inl (.inr (.inr (.inl h))))
   .exact .inl (.inl (.inr (.inr (.inr (.inl h)))))
   .exact .inr (by rw[h];exact he)
  .exact .inl (.inr h)
inductive vU(K:W.Frag)(vs:List V)(H:Hp)(Q:VK)(E:XK):Prop
 |mk (A:TA) (g:aP) (st:ao) (os:OS) (n k:Nat) (b:Int):vs=[.ref A.p,.int (k:Int),.int b]->aa K H A g st os n->k<g.n->(∀H',aB H H'->dR (g.cf k).ru (st.at_ k).us (g.cf k).pl (Zm (g.cf k).sh (b%(g.cf k).sh) (st.at_ k).seq) (cQ (g.cf k) (st.at_ k) b)->Q (uz (cQ (g.cf k) (st.at_ k) b)) H')->vU K vs H Q E
example:(jG AR AM):=by
 obtain⟨A,g,st,os,n,k,b,rfl,R,hk,q⟩:=h;refine⟨_,(Zh (Zs (Zj AM hr.m T.fj (Zk (K:=K) rfl (av (Zn (K:=K) rfl) (Zk (K:=K) rfl (pv 0) rfl) (pv 1) (λ_ _=>rfl)) rfl) (pc (pv 2) Zb)))),?_⟩;obtain⟨dx,h1⟩:=R.ob;have ln:=R.ln;obtain⟨a,e1,e2,e3,B⟩:=R.at_ (k:=k) (by lia);obtain⟨u1,u2,u3,u4,u5,u6⟩:=R.mj (k:=k) (by lia);obtain⟨ds,h3⟩:=B.aW.ob;obtain⟨dr,h4⟩:=B.aW.room.ob;have fl:=u3 (b%(g.cf k).sh);refine⟨_,rfl,A.p,_,dx,_,_,rfl,h1,T.aM,T.pZ,Zv ..,_,rfl,A.ss,_,_,_,rfl,rfl,az.of R.ss,aa.ix e1,a.sp,_,ds,_,_,rfl,h3,T.dH,T.AQ,CY ..,a.rp,dr,_,rfl,h4,bT ..,_,rfl,a.rp,b,(g.cf k).sh,(g.cf k).pl,(g.cf k).ru,a.ls,a.aq,a.du,(st.at_ k).seq,(st.at_ k).us,_,rfl,B.aW.room,R.tb,u4,by lia,λgone H' gp sm=>?_⟩;have e:=Zie (s:=st.at_ k) gp;have q':=q H' sm (by rw[e];exact gp);rw[e]at q';exact q'
inductive vH(K:W.Frag)(vs:List V)(H:Hp)(Q:VK)(E:XK):Prop
 |mk (A:TA) (g:aP) (st:ao) (os:OS) (n k:Nat):vs=[.ref A.p,.int (k:Int)]->aa K H A g st os n->k<=g.n->n<=900000->Res K H A g os (st.tell (eF k)) (n+1) (Q .aS)->vH K vs H Q E
theorem big{n m:Nat}(h:n<=m)(hm:m<=900000):n<sizeLine:=aq5 (a0n h hm) (by decide)
example:(fF yV):=by
 obtain⟨A,g,st,os,n,k,rfl,R,WE,hl,q⟩:=h;refine⟨_,(Zh (Zo (Bj (K:=K) rfl (jr bbb a0y aot CW (Zk (K:=K) rfl (pv 0) rfl) (pc (ZI (pc ZX (pc (pv 1) Zb))) Zb))))),?_⟩;obtain⟨dx,h1⟩:=R.ob;obtain⟨_,yi,v1,_⟩:=R.ev;refine⟨_,rfl,A.p,_,dx,_,_,rfl,h1,T.aM,T.BU,HU ..,.inl ⟨rfl,_,az.of v1⟩,_,rfl,(sL 2),λt ht=>?_⟩;obtain⟨ts,w1,w2,R2,p2⟩:=R.event (eF k) (.inl ⟨k,WE,rfl⟩) ht;exact⟨A.ev,_,_,rfl,rfl,Ze ht _ _ _ w1,big (by rw[axO];exact w2) hl,q _ _ R2 p2⟩
inductive sF(K:W.Frag)(vs:List V)(H:Hp)(Q:VK)(E:XK):Prop
 |mk (A:TA) (g:aP) (st:ao) (os:OS) (n k:Nat) (b:Int):vs=[.ref A.p,.int (k:Int),.int b]->aa K H A g st os n->k<g.n->b∈(st.at_ k).seq->Res K H A g os (st.set k (ju (g.cf k) (st.at_ k) b)) n (Q .aS)->sF K vs H Q E
example:(jE AU Gk):=by
 obtain⟨A,g,st,os,n,k,b,rfl,R,hk,hb,q⟩:=h;refine⟨_,(Zh (Zo (Zj Gk hr.m T.fj (Zk (K:=K) rfl (av (Zn (K:=K) rfl) (Zk (K:=K) rfl (pv 0) rfl) (pv 1) (λ_ _=>rfl)) rfl) (pc (pv 2) Zb)))),?_⟩;obtain⟨dx,h1⟩:=R.ob;have ln:=R.ln;obtain⟨a,e1,e2,e3,B⟩:=R.at_ (k:=k) (by lia);obtain⟨u1,u2,u3,u4,u5,u6⟩:=R.mj (k:=k) (by lia);obtain⟨ds,h3⟩:=B.aW.ob;obtain⟨dr,h4⟩:=B.aW.room.ob;refine⟨_,rfl,A.p,_,dx,_,_,rfl,h1,T.aM,T.pZ,Zv ..,_,rfl,A.ss,_,_,_,rfl,rfl,az.of R.ss,aa.ix e1,a.sp,_,ds,_,_,rfl,h3,T.dH,T.AQ,CY ..,a.rp,dr,_,rfl,h4,bT ..,_,rfl,a.rp,b,(g.cf k).sh,(g.cf k).pl,(g.cf k).ru,a.ls,a.aq,a.du,(st.at_ k).seq,(st.at_ k).us,_,rfl,B.aW.room,by lia,hb,by lia,λH' R1 r1=>?_⟩;have um:=λx=>(C3 (c:=g.cf k) hb).mem_iff (a:=x);obtain⟨R2,p2⟩:=R.iz e1 e2 (B.iz R1 r1 um) (B.aW.dw r1) (λx hx=>u2 x ((um x).mp hx)) (Zha u3 (C3 (c:=g.cf k) hb));exact q H' _ R2 p2
inductive pL(K:W.Frag)(vs:List V)(H:Hp)(Q:VK)(E:XK):Prop
 |mk (A:TA) (g:aP) (st:ao) (os:OS) (n k:Nat) (b:Int) (lw:Addr) (ws:List Int):vs=[.ref A.p,.int (k:Int),.int b,.ref lw]->aa K H A g st os n->k<g.n->b∉(st.at_ k).seq->b∈g.U->((Zm (g.cf k).sh (b%(g.cf k).sh) (st.at_ k).seq).length:Int)<(g.cf k).pl->H lw=some (.lst (ws.map V.int))->(¬OW A os lw)->ws.length=g.size.toNat->n<=900000->Res K H A g os (bV k b ws st) (n+1) (Q .aS)->pL K vs H Q E
example:(iQ AK Et):=by
 obtain ⟨A,g,st,os,n,k,b,lw,ws,rfl,R,hk,hb,Px,hsh,oV,nO,w9,hl,q⟩:=h;refine⟨_,(Zd (Zo (Zj Et hr.m T.dH (av (Zn (K:=K) rfl) (Zk (K:=K) rfl (pv 0) rfl) (pv 1) (λ_ _=>rfl)) (pc (pv 2) (pc (pv 3) Zb))))
   (Zh (Zo (Bj (K:=K) rfl (jr bbb a0y aot CW (Zk (K:=K) rfl (pv 0) rfl) (pc (ZI (pc ZX (pc (pv 1) (pc (pv 2) Zb)))) Zb)))))),?_⟩
 obtain⟨dx,h1⟩:=R.ob;have ln:=R.ln;obtain⟨a,e1,e2,e3,B⟩:=R.at_ (k:=k) (by lia);obtain⟨u1,u2,u3,u4,u5,u6⟩:=R.mj (k:=k) (by lia);obtain⟨ds,h3⟩:=B.aW.ob;refine⟨_,rfl,A.p,_,dx,_,_,rfl,h1,T.aM,T.pZ,Zv ..,_,rfl,A.ss,_,_,_,rfl,rfl,az.of R.ss,aa.ix e1,a.sp,ds,_,rfl,h3,bW ..,_,rfl,_,rfl,a,_,_,_,b,lw,ws,rfl,B,R.tb,oV,(λz=>nO (.inr ⟨k,by lia,z⟩)),hb,u1,u4,u5,hsh,λH1 O1 B1 p1=>?_⟩;obtain⟨R2,p2⟩:=R.iz e1 e2 B1 p1 (λx hx=>by
  show x∈g.U/\(if x=b then ws else(st.at_ k).wd x).length=_;by_cases z:x=b
  .rw [aaU z,z];exact⟨Px,w9⟩
  .rw [afn z];exact u2 x ((aaI.mp hx).resolve_right λm=>z (apU.mp m))) (ZjF u3 hsh)
 obtain⟨l5,g2⟩:=R2.ob;obtain⟨_,yi,v1,_⟩:=R2.ev;refine⟨_,rfl,A.p,_,l5,_,_,rfl,g2,T.aM,T.BU,HU ..,.inl ⟨rfl,_,az.of v1⟩,_,rfl,_,rfl,(sL 3),λt ht=>?_⟩;obtain⟨ts,w1,w2,R4,p4⟩:=R2.event (eI k b) (.inr (.inl ⟨k,b,⟨hk,R.wf.ub b Px⟩,.inl rfl⟩)) ht;exact⟨A.ev,_,_,rfl,rfl,Ze ht _ _ _ w1,big (by rw[axO];exact w2) hl,q _ _ R4 (p2.trans p4)⟩
inductive sU(K:W.Frag)(vs:List V)(H:Hp)(Q:VK)(E:XK):Prop
 |mk (A:TA) (g:aP) (st:ao) (os:OS) (n k:Nat) (b:Int):vs=[.ref A.p,.int (k:Int),.int b]->aa K H A g st os n->k<g.n->b∈(st.at_ k).seq->n<=900000->(∀H' os' t l,H' t=some (.tup [.ref l,.bl ((st.at_ k).fr b)])->H' l=some (.lst (((st.at_ k).wd b).map V.int))->¬OW A os' l->aa K H' A g (aZ k b st) os' (n+1)->bR (OW A os) H H' (OW A os')->Q (.ref t) H')->sU K vs H Q E
example:(jH rE Ey):=by
 obtain ⟨A,g,st,os,n,k,b,rfl,R,hk,hb,hl,q⟩:=h;refine⟨_,(Zd (Zo (Bj (K:=K) rfl (jr bbb a0y aot CW (Zk (K:=K) rfl (pv 0) rfl) (pc (ZI (pc ZX (pc (pv 1) (pc (pv 2) Zb)))) Zb))))
   (Zh (Zs (Zj Ey hr.m T.dH (av (Zn (K:=K) rfl) (Zk (K:=K) rfl (pv 0) rfl) (pv 1) (λ_ _=>rfl)) (pc (pv 2) Zb))))),?_⟩
 obtain⟨dx,h1⟩:=R.ob;obtain⟨_,yi,v1,_⟩:=R.ev;have ln:=R.ln;refine⟨_,rfl,A.p,_,dx,_,_,rfl,h1,T.aM,T.BU,HU ..,.inl ⟨rfl,_,az.of v1⟩,_,rfl,_,rfl,(sL 3),λt ht=>?_⟩;obtain⟨ts,w1,w2,R4,p4⟩:=R.event [.str "out",.int (k:Int),.int b] (.inr (.inl ⟨k,b,⟨hk,R.wf.ub b ((R.mj (k:=k) (by lia)).2.1 b hb).1⟩,.inr rfl⟩)) ht;refine⟨A.ev,_,_,rfl,rfl,Ze ht _ _ _ w1,big (by rw[axO];exact w2) hl,?_⟩;generalize upd (upd H t (.tup [.str "out",.int (k:Int),.int b])) A.ev (.lst (ts.map V.ref++[.ref t]))=H4 at *;obtain⟨zL,g4⟩:=R4.ob;obtain⟨a,e1,e2,e3,B⟩:=R4.at_ (k:=k) (by lia);obtain⟨u1,u2,u3,u4,u5,u6⟩:=R4.mj (k:=k) (by lia);obtain⟨ds,h3⟩:=B.aW.ob;refine⟨_,rfl,A.p,_,zL,_,_,rfl,g4,T.aM,T.pZ,Zv ..,_,rfl,A.ss,_,_,_,rfl,rfl,az.of R4.ss,aa.ix e1,a.sp,ds,_,rfl,h3,bW ..,_,rfl,a,_,_,_,b,rfl,B,hb,λt2 l H5 O5 et el nl B' p5 own=>?_⟩;obtain⟨R5,p6⟩:=R4.iz e1 e2 B' p5 (λx hx=>u2 x (aWM hx)) (ZgZ u3 List.erase_sublist);refine q H5 _ t2 l et el (λz=>?_) R5 (p4.trans p6);rcases z with z|⟨j,hj,z⟩
 .rcases own with o|o
  .exact R4.off k (by lia) l o z
  .exact R4.ex l (.inl z) o
 .unfold OS.set at z;by_cases e:j=k
  .rw [aaU e]at z;exact nl z
  .rw [afn e]at z;rcases own with o|o
   .exact R4.tX j k hj (by lia) e l z o
   .exact R4.ex l (.inr ⟨j,hj,z⟩) o
section
variable{K:W.Frag}{H H':Hp}{A:TA}{g:aP}{st:ao}{os:OS}{n:Nat}
theorem aa.LJ{mem':Int->Int}(T:aa K H A g st os n)(M:dG K H' A.bm A.dk g.size mem' g.U)(f:∀x o,H x=some o->x≠A.dk->H' x=some o):aa K H' A g { st with mem:=mem' } os n/\bR (OW A os) H H' (OW A os):=by
 obtain⟨dx,h1⟩:=T.ob;obtain⟨kv,h2,_⟩:=T.mem.kept;have nk:∀{x o},H x=some o->(∀k,o≠.dK k)->H' x=some o:=λ{x o} q m=>f x o q λz=>by rw[z,h2]at q;exact m _ (a9h q).symm
 refine⟨⟨⟨dx,nk h1 (λ_ z=>by cases z)⟩,nk T.ss (λ_ z=>by cases z),M,T.ev.frame (λo e=>?_) (λx ys e=>nk e (λ_ z=>by cases z)),T.zG,T.lc,T.lS,λk a c s q1 q2 q3=>(T.aW k a c s q1 q2 q3).frame λx o h q=>f x o q λz=>T.off k (aB9.mp q1).1 x h (by simp[Bs,z]),T.off,T.tX,T.Cb,T.vf,T.vD,T.full,T.wl,T.wf,nk T.tb (λ_ z=>by cases z)⟩,⟨λx o e m=>f x o e λz=>?_,λx h=>.inl h⟩⟩
 .obtain ⟨_,ts,v,_⟩:=T.ev;rw[v]at e;cases e;exact nk v (λ_ z=>by cases z)
 .rw [z,h2]at e;cases e;exact m (.inl (by simp[Bs,z])) trivial
end
inductive Aw(K:W.Frag)(vs:List V)(H:Hp)(Q:VK)(E:XK):Prop
 |mk (A:TA) (g:aP) (st:ao) (os:OS) (n k:Nat) (b:Int) (lw:Addr) (ws:List Int):vs=[.ref A.p,.int (k:Int),.int b,.ref lw]->aa K H A g st os n->k<=g.n->(k<g.n->b∈(st.at_ k).seq)->b∈g.U->H lw=some (.lst (ws.map V.int))->(¬OW A os lw)->ws.length=g.size.toNat->n<=900000->Res K H A g os (bD g k b ws st) (n+1) (Q .aS)->Aw K vs H Q E
example:(nY vd EF Aj):=by
 obtain ⟨A,g,st,os,n,k,b,lw,ws,rfl,R,hk,hb,bU,oV,nO,w9,hl,q⟩:=h;refine⟨_,(Zd (aI (ZB bM (pv 1) (Zk (K:=K) rfl (pv 0) rfl) (Zx _)) (Zh (Zo (Zj EF hr.m T.wI (Zk (K:=K) rfl (pv 0) rfl) (pc (pv 2) (pc (pv 3) Zb))))) (Zh (Zo (Zj Aj hr.m T.dH (av (Zn (K:=K) rfl) (Zk (K:=K) rfl (pv 0) rfl) (pv 1) (λ_ _=>rfl)) (pc (pv 2) (pc (pv 3) Zb))))))
   (Zh (Zo (Bj (K:=K) rfl (jr bbb a0y aot CW (Zk (K:=K) rfl (pv 0) rfl) (pc (ZI (pc ZX (pc (pv 1) (pc (pv 2) Zb)))) Zb)))))),?_⟩
 obtain⟨dx,h1⟩:=R.ob;have ln:=R.ln;refine CJ (λσ G=>σ=[some (.ref A.p),some (.int (k:Int)),some (.int b),some (.ref lw)]/\∃os',aa K G A g (if k=g.n then{ st with mem:=jK g.size st.mem b ws } else st.set k (oF (st.at_ k) b ws)) os' n/\bR (OW A os) H G (OW A os')) (λD' _ k'=>?_) ?_
 .refine ⟨_,rfl,_,rfl,A.p,_,dx,_,_,rfl,h1,T.aM,T.yT,Bq ..,rfl,_,rfl,Rq (λe=>?_) (λe=>?_)⟩
  .obtain ⟨dm,h2⟩:=R.mem.ob;have z0:=R.wf.z0;obtain⟨b0,b1⟩:=R.wf.ub b bU;refine⟨_,rfl,A.p,_,dx,_,_,rfl,h1,T.aM,T.IB,Nq ..,A.bm,dm,_,rfl,h2,wZ ..,_,rfl,_,rfl,A.bm,A.dk,g.size,b,st.mem,g.U,lw,ws,rfl,R.mem,by lia,R.wf.z1,b0,b1,bU,R.wf.lU,oV,w9,λH1 M1 f1=>?_⟩;obtain⟨R1,p1⟩:=R.LJ M1 f1;rw[aaU (by lia)]at k';exact k' _ _ ⟨rfl,_,R1,p1⟩
  .obtain ⟨a,e1,e2,e3,B⟩:=R.at_ (k:=k) (by lia);obtain⟨u1,u2,u3,u4,u5,u6⟩:=R.mj (k:=k) (by lia);obtain⟨ds,kvs,h3,h4,h5,h6⟩:=B.lay (hb (by lia)) ws (Q:=D'.nx [some (.ref A.p),some (.int (k:Int)),some (.int b),some (.ref lw)]) (λH' O' B' p'=>by
    obtain⟨R1,p1⟩:=R.iz e1 e2 B' p' (λx hx=>by
     show x∈g.U/\(if x=b then ws else(st.at_ k).wd x).length=_;by_cases z:x=b
     .rw [aaU z,z];exact⟨bU,w9⟩
     .rw [afn z];exact u2 x hx) u3
    rw[afn (by lia)]at k';exact k' _ _ ⟨rfl,_,R1,p1⟩)
   exact⟨_,rfl,A.p,_,dx,_,_,rfl,h1,T.aM,T.pZ,Zv ..,_,rfl,A.ss,_,_,_,rfl,rfl,az.of R.ss,aa.ix e1,a.sp,ds,_,rfl,h3,bW ..,_,rfl,_,rfl,a.sp,ds,a.rp,a.dh,a.df,(g.cf k).late,kvs,b,lw,_,rfl,h3,h4,by lia,oV,h6⟩
 rintro _ G ⟨rfl,bS,R2,p2⟩;obtain⟨l5,g2⟩:=R2.ob;obtain⟨_,yi,v1,_⟩:=R2.ev;refine⟨_,rfl,A.p,_,l5,_,_,rfl,g2,T.aM,T.BU,HU ..,.inl ⟨rfl,_,az.of v1⟩,_,rfl,_,rfl,(sL 3),λt ht=>?_⟩;obtain⟨ts,w1,w2,R4,p4⟩:=R2.event (eW k b) (.inr (.inr ⟨k,b,⟨hk,R.wf.ub b bU⟩,rfl⟩)) ht;refine⟨A.ev,_,_,rfl,rfl,Ze ht _ _ _ w1,big (by rw[axO];exact w2) hl,q _ _ ?_ (p2.trans p4)⟩;unfold bD;by_cases c:k=g.n
 .rw [aaU c]at R4 ⊢;exact R4
 .rw [afn c]at R4 ⊢;exact R4
def mO(g:aP)(s:Rm)(sp:Int):Int:=(s.wd (sp/g.size)).getD (sp%g.size).toNat 0
inductive o8(K:W.Frag)(vs:List V)(H:Hp)(Q:VK)(E:XK):Prop
 |mk (A:TA) (g:aP) (st:ao) (os:OS) (n k:Nat) (sp:Int):vs=[.ref A.p,.int (k:Int),.int sp]->aa K H A g st os n->k<g.n->sp/g.size∈(st.at_ k).seq->(∀H',aB H H'->Q (.int (mO g (st.at_ k) sp)) H')->o8 K vs H Q E
theorem Hv{ws:List Int}{m:Nat}{i:Int}(l:ws.length=m)(h0:0<=i)(h1:i<m):fP (ws.map V.int) i=some (.int (ws.getD i.toNat 0)):=by
 have e:(i.toNat:Int)=i:=by lia
 have hi:i.toNat<ws.length:=by lia
 have q:fP (ws.map V.int) (i.toNat:Int)=some (.int (ws.getD i.toNat 0)):=xT (by
  rw[acC,auG,aun hi];rfl)
 rw[e]at q;exact q
example:(iP Es tP tK):=by
 obtain⟨A,g,st,os,n,k,sp,rfl,R,hk,hb,q⟩:=h;refine⟨_,(Zh (Zs (av (Zn (K:=K) rfl) (Zj tP hr.m T.dH (av (Zn (K:=K) rfl) (Zk (K:=K) rfl (pv 0) rfl) (pv 1) (λ_ _=>rfl)) (pc (Zl tK hr.m rfl (pc (Zk (K:=K) rfl (pv 0) rfl) (pc (pv 2) Zb))) Zb)) (ak uH (pv 2) (Zk (K:=K) rfl (pv 0) rfl)) (λ_ _=>rfl)))),?_⟩;obtain⟨dx,h1⟩:=R.ob;have ln:=R.ln;obtain⟨a,e1,e2,e3,B⟩:=R.at_ (k:=k) (by lia);obtain⟨u1,u2,u3,u4,u5,u6⟩:=R.mj (k:=k) (by lia);obtain⟨ds,h3⟩:=B.aW.ob;have z0:=R.wf.z0;have z1:=R.wf.z1;refine⟨_,rfl,A.p,_,dx,_,_,rfl,h1,T.aM,T.pZ,Zv ..,_,rfl,A.ss,_,_,_,rfl,rfl,az.of R.ss,aa.ix e1,a.sp,ds,_,rfl,h3,bW ..,_,rfl,A.p,_,dx,_,_,rfl,h1,T.aM,T.BF,D6 ..,_,rfl,g.size,sp,rfl,by lia,by lia,a,_,_,_,_,rfl,B,hb,λl hl=>?_⟩;have s1:=Ze hl (.lst (((st.at_ k).wd (sp/g.size)).map V.int));have m0:0<=sp%g.size:=baD _ (by lia);have m1:sp%g.size<g.size:=a5F _ (by lia);exact⟨_,rfl,_,rfl,A.p,_,dx,_,_,rfl,s1 _ _ h1,T.aM,T.BF,D6 ..,_,_,rfl,rfl,(by show 0<g.size;lia),l,_,_,_,rfl,rfl,az.of Za,Hv (u2 _ hb).2 m0 (by lia),q _ s1⟩
def kE(g:aP)(s:Rm)(sp x:Int):Rm:=oF s (sp/g.size) ((s.wd (sp/g.size)).set (sp%g.size).toNat x)
inductive mS(K:W.Frag)(vs:List V)(H:Hp)(Q:VK)(E:XK):Prop
 |mk (A:TA) (g:aP) (st:ao) (os:OS) (n k:Nat) (sp x:Int):vs=[.ref A.p,.int (k:Int),.int sp,.int x]->aa K H A g st os n->k<g.n->sp/g.size∈(st.at_ k).seq->Res K H A g os (st.set k (kE g (st.at_ k) sp x)) n (Q .aS)->mS K vs H Q E
example:(ic Eu Ex tK):=by
 obtain⟨A,g,st,os,n,k,sp,x,rfl,R,hk,hb,q⟩:=h;refine⟨_,(Zh (Zo (Zj Ex hr.m T.dH (av (Zn (K:=K) rfl) (Zk (K:=K) rfl (pv 0) rfl) (pv 1) (λ_ _=>rfl)) (pc (Zl tK hr.m rfl (pc (Zk (K:=K) rfl (pv 0) rfl) (pc (pv 2) Zb))) (pc (ak uH (pv 2) (Zk (K:=K) rfl (pv 0) rfl)) (pc (pv 3) Zb)))))),?_⟩;obtain⟨dx,h1⟩:=R.ob;have ln:=R.ln;obtain⟨a,e1,e2,e3,B⟩:=R.at_ (k:=k) (by lia);obtain⟨u1,u2,u3,u4,u5,u6⟩:=R.mj (k:=k) (by lia);obtain⟨ds,h3⟩:=B.aW.ob;have z0:=R.wf.z0;have z1:=R.wf.z1;have m0:0<=sp%g.size:=baD _ (by lia);have m1:sp%g.size<g.size:=a5F _ (by lia);have lw:=(u2 _ hb).2;refine⟨_,rfl,A.p,_,dx,_,_,rfl,h1,T.aM,T.pZ,Zv ..,_,rfl,A.ss,_,_,_,rfl,rfl,az.of R.ss,aa.ix e1,a.sp,ds,_,rfl,h3,bW ..,_,rfl,A.p,_,dx,_,_,rfl,h1,T.aM,T.BF,D6 ..,_,rfl,g.size,sp,rfl,by lia,by lia,_,rfl,_,rfl,A.p,_,dx,_,_,rfl,h1,T.aM,T.BF,D6 ..,_,_,rfl,rfl,(by show 0<g.size;lia),_,rfl,a,_,_,_,_,_,x,rfl,B,hb,m0,by lia,λH1 B1 p1=>?_⟩;obtain⟨R1,p2⟩:=R.iz e1 e2 B1 p1 (λy hy=>by
  show y∈g.U/\(if y=sp/g.size then _ else(st.at_ k).wd y).length=_;by_cases z:y=sp/g.size
  .rw [aaU z,ary,z];exact u2 _ hb
  .rw [afn z];exact u2 y hy) u3
 exact q _ _ R1 p2
def Wr(s:Str):Prop:=s ="late" \/s ="through"
structure iV(K:W.Frag)(H:Hp)(tp:Addr)(ts:List Addr)(br:List Cf):Prop where
 top:H tp=some (.tup (ts.map V.ref))
 len:ts.length=br.length
 at_:∀(i:Nat)(t:Addr)(c:Cf),ts[i]?=some t->br[i]?=some c->∃wr:Str,H t=some (.tup [.int c.sh,.int c.pl,.str c.ru,.str wr])/\c.late=decide (wr ="late")/\Wr wr
 cf:∀c∈br,1<=c.sh/\c.sh<=64/\1<=c.pl/\c.pl<=16/\xV c.ru
theorem iV.frame{K:W.Frag}{H H':Hp}{tp:Addr}{ts:List Addr}{br:List Cf}(p:iV K H tp ts br)(s:∀x ys,H x=some (.tup ys)->H' x=some (.tup ys)):iV K H' tp ts br:=
 ⟨s _ _ p.top,p.len,λi t c h1 h2=>by obtain⟨wr,e1,e2⟩:=p.at_ i t c h1 h2;exact⟨wr,s _ _ e1,e2⟩,p.cf⟩
def U4(size:Int)(ss bm:Addr)(last:Nat)(ev:Addr):List (Str×V):=ah "events" (.ref ev) (ah "last" (.int last) (ah "bottom" (.ref bm) (ah "stores" (.ref ss) (ah "size" (.int size) []))))
structure Ei(K:W.Frag)(H G:Hp)(as:List SA)(br:List Cf)(os:OS):Prop where
 at_:∀(i:Nat)(a:SA)(c:Cf),as[i]?=some a->br[i]?=some c->ay K G a c qW (os i)
 fr:∀i,i<as.length->∀x,os i x->H x=none
 tX:∀i j,i<as.length->j<as.length->i≠j->∀x,os i x->¬os j x
theorem Ei.frame{K:W.Frag}{H G G':Hp}{as:List SA}{br:List Cf}{os:OS}{p:Addr}(m:Ei K H G as br os)(hp:H p≠none)(f:∀x o,G x=some o->x≠p->G' x=some o):Ei K H G' as br os:=
 ⟨λi a c h1 h2=>(m.at_ i a c h1 h2).frame λx o h e=>f x o e λz=>hp (z ▸m.fr i (aB9.mp h1).1 x h),m.fr,m.tX⟩
theorem Ei.ex{K:W.Frag}{H G:Hp}{as:List SA}{br:List Cf}{os:OS}(m:Ei K H G as br os)(l:as.length<=br.length){i:Nat}(hi:i<as.length){x:Addr}(h:os i x):G x≠none:=
 (m.at_ i _ _ (aun hi) (aun (aJC hi l))).aW.ex x h
def qG(n:Nat):ao:=⟨List.replicate n qW,λ_=>0,[]⟩
inductive jV(K:W.Frag)(vs:List V)(H:Hp)(Q:VK)(E:XK):Prop
 |mk (p dx tp:Addr) (size:Int) (ts:List Addr) (br:List Cf):vs=[.ref p,.int size,.ref tp]->H p=some (.ins (af K "Beside") dx [])->iV K H tp ts br->br.length<=4->Tb K H->(∀(A:TA)(os:OS)(H':Hp),A.p=p->H' p=some (.ins (af K "Beside") dx (U4 size A.ss A.bm A.as.length A.ev))->(∀kind U,WF ⟨size,kind,br,U⟩->aa K (upd H' p (.ins (af K "Beside") dx (bu size A.ss A.bm A.as.length A.ev kind))) A ⟨size,kind,br,U⟩ (qG br.length) os 0) ->(∀x,OW A os x->x≠p->H x=none)->(∀b o,H b=some o->b≠p->H' b=some o)->Q .aS H')->jV K vs H Q E
example:(lR kJ Gh Gj):=by
 obtain ⟨p,dx,tp,size,ts,br,rfl,hp,pa,l4,tb,k⟩:=h;refine⟨_,(Zd (qF (pv 0) (pv 1) rfl)
   (Zd (qF (pv 0) (ZZ (ZK (kF:=(Zr bB)) (oN:=oQ) (N:=["room_plan"]) (own:=1) (js:=[]) (by decide +kernel) rfl rfl) rfl (JY (K:=K) rfl (pv 2)) (λ_ _ _ _ _ _=>(cu 0 (show List.Nodup (["room_plan"]:List Str) by decide +kernel))) (λ_ _ _ _ _ _=>(HH Gh hr.m rfl (pc (pv 0) Zb)))) rfl)
   (Zd (qF (pv 0) (HH Gj hr.m rfl (pc (pv 1) Zb)) rfl)
   (Zd (qF (pv 0) (Zp (ZE (K:=K) rfl) rfl T.zv aOy (pc (Zk (K:=K) rfl (pv 0) rfl) Zb)) rfl)
   (Zh (qF (pv 0) (qE Zb) rfl)))))),?_⟩
 refine⟨_,rfl,_,rfl,p,_,dx,_,rfl,hp,T.aM,T.BF,(by show 0<1000;decide),?_⟩;have fu:∀{G:Hp}{o':HO} x o,G x=some o->x≠p->upd G p o' x=some o:=λx o e n=>by rw[Zc n];exact e
 have DP:H p≠none:=by rw[hp];simp
 have nk:∀{x o},H x=some o->(∀C d f,o≠.ins C d f)->x≠p:=λ{x o} q m z=>by rw[z,hp]at q;exact m _ _ _ (a9h q).symm
 have e1:upd H p (.ins (af K "Beside") dx (ah "size" (.int size) [])) p=some (.ins (af K "Beside") dx (ah "size" (.int size) [])):=Za;have f1:∀x o,H x=some o->x≠p->upd H p (.ins (af K "Beside") dx (ah "size" (.int size) [])) x=some o:=fu;have n1:∀x,upd H p (.ins (af K "Beside") dx (ah "size" (.int size) [])) x=none->H x=none:=λx e=>by
  by_cases z:x=p
  .rw [z,Za]at e;cases e
  .rw [Zc z]at e;exact e
 generalize upd H p (.ins (af K "Beside") dx (ah "size" (.int size) []))=H1 at *;have Lp:=pa.frame (H':=H1) λx ys e=>f1 x _ e (nk e (λ_ _ _ z=>by cases z));refine⟨_,rfl,tp,rfl,⟨_,aU.of Lp.top⟩,λss hss=>?_⟩;refine ZhL (K:=K) (a:=tp) (xs:=ts.map V.ref) (l:=ss) (λj ys σ G=>∃(v0:Option V)(as:List SA)(os:OS),σ=[v0]/\ys=as.map (λa=>V.ref a.sp)/\as.length=j/\G ss=some (.lst ys)/\aB H1 G/\Ei K H G as br os/\∀i,i<as.length->¬os i ss)
  ⟨none,[],λ_ _=>False,rfl,rfl,rfl,Za,Ze hss _,⟨λi a c h=>by simp at h,λi h=>by simp at h,λi j h=>by simp at h⟩,λi h=>by simp at h⟩ (λj ys σ G _ ⟨_,_,_,_,_,_,_,s,_⟩=>aU.of (s _ _ Lp.top)) ?_ ?_
 .rintro j x ys σ G hj vh hys ⟨v0,as,os,rfl,rfl,hlen,g1,s1,mk,ns⟩;rw[axO]at hj;rw[acC]at vh;obtain⟨t,et,rfl⟩:∃t,ts[j]?=some t/\V.ref t=x:=by
   cases e:ts[j]? with
   |none=>rw[e]at vh;cases vh
   |some t=>rw[e]at vh;exact⟨t,rfl,a9h vh⟩
  have Pu:j<br.length:=by rw[<-pa.len];exact hj
  have ec:br[j]?=some br[j]:=aun Pu;obtain⟨wr,q1,q2,_⟩:=Lp.at_ j t _ et ec;have cb:=pa.cf _ (aCm Pu);have Fl:=s1 _ _ q1;refine⟨_,rfl,λx uF hx hdx ne=>⟨x,uF,t,br[j].sh,br[j].pl,br[j].ru,wr,rfl,Za,aU.of ?_,cb.1,cb.2.1,λa G1 ea S1 k2=>⟨rfl,?_⟩⟩⟩
  .rw [Zc (Zf Fl hx),Zc (Zf Fl hdx)];exact Fl
  have sG:aB G G1:=λy o e=>k2 y o (by rw[Zc (Zf e hx),Zc (Zf e hdx)];exact e) (Zf e hx);have uC:∀y,(y=x\/(upd (upd G uF (.own x)) x (.ins (af K "Store") uF []) y=none/\G1 y≠none))->G y=none:=λy h=>by
   rcases h with h|h
   .rw [h];exact hx
   .cases q:G y with
    |none=>rfl
    |some o=>have e:=h.1;rw[Zc (Zf q hx),Zc (Zf q hdx),q]at e;cases e
  rw[show(⟨br[j].sh,br[j].pl,br[j].ru,decide (wr ="late")⟩:Cf)=br[j] by rw[<-q2]]at S1;rw[show V.ref x=V.ref a.sp by rw[ea]];have Jw:=sG _ _ g1;have DH:as.length<=br.length:=by lia
  obtain⟨N,S1,uC⟩:∃N:Addr->Prop,ay K G1 a br[j] qW N/\∀y,N y->G y=none:=⟨_,S1,uC⟩;have nN:¬N ss:=λh=>by have q:=uC ss h;rw[g1]at q;cases q
  have la:∀{i:Nat}{b:SA},(as++[a])[i]?=some b->(i<as.length/\as[i]?=some b)\/(i=as.length/\b=a):=λ{i b} hb=>by
   by_cases hi:i<as.length
   .rw [aGp hi]at hb;exact .inl ⟨hi,hb⟩
   .have:=(aB9.mp hb).1;rw[aKe,aSc]at this;have hi2:i=as.length:=by lia
    subst hi2;rw[a8o (ags _),Nat.sub_self]at hb;cases hb;exact .inr ⟨rfl,rfl⟩
  have os':∀{i},i<as.length->(os.set as.length N) i=os i:=λ{i} h=>afn (by lia);have Fy:(os.set as.length N) as.length=N:=aaU rfl;have cs:∀{i},i<(as++[a]).length->i<as.length\/i=as.length:=λ{i} h=>by rw[aKe,aSc]at h;lia
  refine oS.of (aUL (Zz (by rw[axO,pa.len];lia))) (by rw[axO];exact hj) hys Jw ⟨_,as++[a],os.set as.length N,rfl,by rw[ado];rfl,by rw[aKe,hlen];rfl,Za,λy o e=>?_,⟨λi b c hb hc=>?_,λi hi y hy=>?_,λi i' hi hi' nn y h1 h2=>?_⟩,λi hi=>?_⟩
  .rw [Zc (Zf e hss)];exact sG _ _ (s1 _ _ e)
  .rcases la hb with⟨hi,hb⟩|⟨hi,rfl⟩
   .rw [os' hi];exact(mk.at_ i b c hb hc).frame λy o h e=>by rw[Zc (λz:y=ss=>ns i hi (z ▸h))];exact sG _ _ e
   .subst hi;rw[Fy];rw[hlen,ec]at hc;cases hc;exact S1.frame λy o h e=>by rw[Zc (λz:y=ss=>nN (z ▸h))];exact e
  .rcases cs hi with h|h
   .rw [os' h]at hy;exact mk.fr i h y hy
   .rw [h,Fy]at hy;exact n1 _ (s1.free (uC y hy))
  .rcases cs hi with a1|a1
   .rw [os' a1]at h1;rcases cs hi' with a2|a2
    .rw [os' a2]at h2;exact mk.tX i i' a1 a2 nn y h1 h2
    .rw [a2,Fy]at h2;exact mk.ex DH a1 h1 (uC y h2)
   .rw [a1,Fy]at h1;rcases cs hi' with a2|a2
    .rw [os' a2]at h2;exact mk.ex DH a2 h2 (uC y h1)
    .exact nn (a1.trans a2.symm)
  .rcases cs hi with h|h
   .rw [os' h];exact ns i h
   .rw [h,Fy];exact nN
 rintro ys σ G hys ⟨v0,as,os,rfl,rfl,hlen,g1,s1,mk,ns⟩;rw[axO,pa.len]at hlen;have hp2:=s1 _ _ e1;have fG:∀x o,H x=some o->x≠p->G x=some o:=λx o e n=>s1 _ _ (f1 x o e n);refine⟨_,rfl,p,_,dx,_,rfl,hp2,T.aM,T.pZ,(by show 1<1000;decide),?_⟩;have IV:ss≠p:=λz=>by rw[z,hp2]at g1;cases g1
 have e2:upd G p (.ins (af K "Beside") dx (ah "stores" (.ref ss) (ah "size" (.int size) []))) p=some (.ins (af K "Beside") dx (ah "stores" (.ref ss) (ah "size" (.int size) []))):=Za;have f2:∀x o,G x=some o->x≠p->upd G p (.ins (af K "Beside") dx (ah "stores" (.ref ss) (ah "size" (.int size) []))) x=some o:=fu;generalize upd G p (.ins (af K "Beside") dx (ah "stores" (.ref ss) (ah "size" (.int size) [])))=H2 at *;have mk2:=mk.frame DP f2;refine⟨_,rfl,λbm bx hbm Pw nbx=>⟨bm,bx,size,rfl,Za,λdk H3 M3 PM k3=>⟨rfl,?_⟩⟩⟩;have s3:aB H2 H3:=λy o e=>k3 y o (by rw[Zc (Zf e hbm),Zc (Zf e Pw)];exact e) (Zf e hbm);have FN:H2 dk=none:=by
  cases q:H2 dk with
  |none=>rfl
  |some o=>rw[Zc (Zf q hbm),Zc (Zf q Pw),q]at PM;cases PM
 have e3:=s3 _ _ e2;have vf:p≠bm:=Zf e2 hbm;have Lz:p≠dk:=Zf e2 FN;refine⟨_,rfl,p,_,dx,_,rfl,e3,T.aM,T.IB,(by show 2<1000;decide),?_⟩;have e4:upd H3 p (.ins (af K "Beside") dx (ah "bottom" (.ref bm) (ah "stores" (.ref ss) (ah "size" (.int size) [])))) p=some (.ins (af K "Beside") dx (ah "bottom" (.ref bm) (ah "stores" (.ref ss) (ah "size" (.int size) [])))):=Za;have f4:∀x o,H3 x=some o->x≠p->upd H3 p (.ins (af K "Beside") dx (ah "bottom" (.ref bm) (ah "stores" (.ref ss) (ah "size" (.int size) [])))) x=some o:=fu;generalize upd H3 p (.ins (af K "Beside") dx (ah "bottom" (.ref bm) (ah "stores" (.ref ss) (ah "size" (.int size) []))))=H4 at *;have g4:=f4 _ _ (s3 _ _ (f2 _ _ g1 IV)) IV;have We:(ah "bottom" (.ref bm) (ah "stores" (.ref ss) (ah "size" (.int size) [])):List (Str×V)).lookup ("stores":Str)=some (.ref ss):=by rw[Zg,afn (by decide +kernel),Zg,aaU rfl]
 refine⟨_,rfl,p,_,dx,_,_,rfl,e4,T.aM,T.pZ,We,ss,_,rfl,.inl (az.of g4),_,rfl,p,_,dx,_,rfl,e4,T.aM,T.yT,(by show 3<1000;decide),?_⟩;rw[axO];have e5:upd H4 p (.ins (af K "Beside") dx (ah "last" (.int (as.length:Int)) (ah "bottom" (.ref bm) (ah "stores" (.ref ss) (ah "size" (.int size) []))))) p=some (.ins (af K "Beside") dx (ah "last" (.int (as.length:Int)) (ah "bottom" (.ref bm) (ah "stores" (.ref ss) (ah "size" (.int size) []))))):=Za;have f5:∀x o,H4 x=some o->x≠p->upd H4 p (.ins (af K "Beside") dx (ah "last" (.int (as.length:Int)) (ah "bottom" (.ref bm) (ah "stores" (.ref ss) (ah "size" (.int size) []))))) x=some o:=fu;generalize upd H4 p (.ins (af K "Beside") dx (ah "last" (.int (as.length:Int)) (ah "bottom" (.ref bm) (ah "stores" (.ref ss) (ah "size" (.int size) [])))))=H5 at *;have PY:∀x o,H3 x=some o->x≠p->H5 x=some o:=λx o e n=>f5 _ _ (f4 _ _ e n) n;have PZ:∀x o,H2 x=some o->x≠p->H5 x=some o:=λx o e n=>PY _ _ (s3 _ _ e) n;have LI:=mk2.frame DP PZ;have Mv:∀x o,H x=some o->x≠p->H5 x=some o:=λx o e n=>PZ _ _ (f2 _ _ (fG x o e n) n) n;refine⟨(sL 0),λev hev=>⟨_,rfl,p,_,dx,_,rfl,Ze hev _ _ _ e5,T.aM,T.BU,(by show 4<1000;decide),?_⟩⟩;have s6:=Ze hev (.lst ([]:List V));have FL:ev≠p:=λz=>by rw[z,e5]at hev;cases hev
 have DH:as.length<=br.length:=by lia
 have nH:∀{x},H5 x=none->x≠p->H x=none:=λ{x} h n=>by
  cases q:H x with
  |none=>rfl
  |some o=>rw[Mv x o q n]at h;cases h
 have OT:∀{x},H2 x=none->x≠p->H x=none:=λ{x} h n=>by
  cases q:H x with
  |none=>rfl
  |some o=>rw[f2 _ _ (fG x o q n) n]at h;cases h
 refine k ⟨p,ss,bm,dk,ev,as⟩ os _ rfl Za (λkind U wf=>?_) (λx hx n=>?_) λx o e n=>?_
 .rw [Nm];have ff:∀x o,H5 x=some o->x≠p->upd (upd H5 ev (.lst [])) p (.ins (af K "Beside") dx (bu size ss bm as.length ev kind)) x=some o:=λx o e n=>fu x o (s6 _ _ e) n;have LH:=LI.frame DP ff;have g5:=f5 _ _ g4 IV;have rp:∀{s:Rm},s∈List.replicate br.length qW->s=qW:=λh=>(aXd.mp h).2;refine⟨⟨dx,Za⟩,ff _ _ g5 IV,(M3 U).frame λx o m e=>ff x o (PY x o e ?_) ?_,⟨(λe m=>by cases m),[],by show upd _ p _ ev=_;rw[Zc FL];exact Za,rfl,λi t e q _=>by simp at q⟩,ags _,hlen.symm,by show(List.replicate _ _).length=_;rw[aSy];exact hlen.symm,λj b c s hb hc hs=>?_,λj hj x h z=>?_,LH.tX,Zf g5 hev,vf,λs hs b hb=>?_,λj c s hc hs t=>?_,λs hs b hb=>?_,wf,ff _ _ (Mv _ _ tb (nk tb (λ_ _ _ z=>by cases z))) (nk tb (λ_ _ _ z=>by cases z))⟩
  .rcases m with rfl|rfl;exact ac5 vf;exact ac5 Lz
  .rcases m with rfl|rfl;exact ac5 vf;exact ac5 Lz
  .have hs:(List.replicate br.length qW)[j]?=some s:=hs;rw[rp (bcc hs)];exact LH.at_ j b c hb hc
  .rcases z with z|z|z|z|z
   .exact DP ((show x=p from z) ▸LH.fr j hj x h)
   .exact ns j hj ((show x=ss from z) ▸h)
   .exact mk2.ex DH hj h (by rw[z];exact hbm)
   .exact mk2.ex DH hj h (by rw[z];exact FN)
   .exact LI.ex DH hj h (by rw[z];exact hev)
  .rw [rp hs]at hb;exact absurd hb (by simp[qW])
  .have hs:(List.replicate br.length qW)[j]?=some s:=hs;rw[rp (bcc hs)];show((0:Nat):Int)<=c.pl;have:=(wf.cf c (bcc hc)).1;lia
  .rw [rp hs]at hb;exact absurd hb (by simp[qW])
 .rcases hx with hx|⟨j,hj,hx⟩
  .rcases hx with z|z|z|z|z
   .exact absurd z n
   .rw [z];exact n1 _ hss
   .rw [z];exact OT hbm (ac5 vf)
   .rw [z];exact OT FN (ac5 Lz)
   .rw [z];exact nH hev FL
  .exact LI.fr j hj x hx
 .rw [Zc n];exact s6 _ _ (Mv x o e n)
def qD(k:Nat)(b:Int)(st:ao):ao:=st.set k (GL (st.at_ k) b)
def pN(s:Rm)(b:Int):Rm:=⟨s.seq,s.us,s.wd,λx=>if x=b then false else s.fr x⟩
def bg(g:aP)(b:Int)(ws:List Int)(st:ao):ao:=if(g.cf 2).late=true then qD 2 b (bD g 2 b ws st) else bD g g.n b ws (bD g 2 b ws st)
def aK(g:aP)(h:Nat)(o:Int)(st:ao):ao:=if(st.at_ h).fr o=true then bg g o ((st.at_ h).wd o) (aZ h o st) else aZ h o st
def aA(h:Nat)(o:Int)(x:ao×List Int×Bool):ao×List Int×Bool:=if o∈(x.1.at_ h).seq then(if(x.1.at_ h).fr o=true then(aZ h o x.1,(x.1.at_ h).wd o,true) else(aZ h o x.1,x.2)) else x
def yl(o:Int)(st:ao):Nat->ao×List Int×Bool
 |0=>(aZ 2 o st,(st.at_ 2).wd o,(st.at_ 2).fr o)
 |i+1=>aA i o (yl o st i)
def fk(o:Int)(st:ao):ao×List Int×Bool:=aA 1 o (aA 0 o (aZ 2 o st,(st.at_ 2).wd o,(st.at_ 2).fr o))
def aN(g:aP)(o:Int)(st:ao):ao:=if(fk o st).2.2=true then bD g g.n o (fk o st).2.1 (fk o st).1 else(fk o st).1
noncomputable def roomF(g:aP)(b:Int)(st:ao):ao:=match cQ (g.cf 2) (st.at_ 2) b with
 |none=>st
 |some o=>aN g o st
noncomputable def bN(g:aP)(b:Int)(st:ao):ao:=if b∈(st.at_ 2).seq then(st.tell (eF 2)).set 2 (ju (g.cf 2) (st.at_ 2) b) else bV 2 b (aO g.size (roomF g b (st.tell (eF g.n))).mem b) (roomF g b (st.tell (eF g.n)))
def bK(g:aP)(h:Nat)(b:Int)(st:ao):ao:=if(st.at_ h).fr b=true then(λs:ao=>s.set h (pN (s.at_ h) b)) (bg g b ((st.at_ h).wd b) st) else st
noncomputable def aG(g:aP)(h:Nat)(b:Int)(st:ao):ao:=match cQ (g.cf h) (st.at_ h) b with
 |none=>st
 |some o=>aK g h o st
noncomputable def cG(g:aP)(h:Nat)(b:Int)(st:ao):ao:=bV h b (((aG g h b st).at_ 2).wd b) (aG g h b st)
noncomputable def bH(g:aP)(h:Nat)(b:Int)(st:ao):ao:=if b∈(st.at_ h).seq then(st.tell (eF h)).set h (ju (g.cf h) (st.at_ h) b) else cG g h b (bK g (1-h) b (bN g b st))
def bw(h:Nat)(b:Int)(st:ao):ao:=if b∈(st.at_ (1-h)).seq then aZ (1-h) b st else st
def markB(g:aP)(h:Nat)(b:Int)(st:ao):ao:=if(g.cf h).late=true then qD h b st else bg g b ((st.at_ h).wd b) st
noncomputable def lF(g:aP)(h:Nat)(sp x:Int)(st:ao):ao:=(λs:ao=>markB g h (sp/g.size) (s.set h (kE g (s.at_ h) sp x))) (bw h (sp/g.size) (bH g h (sp/g.size) st))
theorem ZG{st:ao}{k j:Nat}{s:Rm}:(st.set k s).at_ j=if j=k/\k<st.rm.length then s else st.at_ j:=by
 by_cases h:k<st.rm.length
 .rw [ao.bI h];by_cases z:j=k
  .rw [aaU z,aaU ⟨z,h⟩]
  .rw [afn z,afn (λq=>z q.1)]
 .rw [afn (λq=>h q.2)];unfold ao.at_ ao.set;rw[List.set_eq_of_length_le (by lia)]
theorem Bp{st:ao}{e:List V}{j:Nat}:(st.tell e).at_ j=st.at_ j:=rfl
theorem MQ{st:ao}{k j:Nat}{s:Rm}(h:s.seq=(st.at_ k).seq):((st.set k s).at_ j).seq=(st.at_ j).seq:=by
 rw[ZG];split
 .rename_i q;rw[h,q.1]
 .rfl
theorem cy{st:ao}{k:Nat}{s:Rm}:(st.set k s).rm.length=st.rm.length:=ary ..
theorem Bl{c:Cf}{s:Rm}{b g:Int}(h:cQ c s b=some g):g∈s.seq/\g%c.sh=b%c.sh/\dR c.ru s.us c.pl (Zm c.sh (b%c.sh) s.seq) (some g):=by
 unfold cQ at h;split at h
 .rename_i e;have q:=Classical.choose_spec e;rw[h]at q;by_cases l:((Zm c.sh (b%c.sh) s.seq).length:Int)<c.pl
  .exact absurd (q.1 l) (by simp)
  .obtain ⟨g',r,e',p,_⟩:=q.2 l;cases e';have m:=bz.mp (p.mem_iff.mp aTL);exact⟨m.1,m.2,q⟩
 .cases h
theorem Q8{c:Cf}{s:Rm}{b:Int}(h:dR c.ru s.us c.pl (Zm c.sh (b%c.sh) s.seq) none):((Zm c.sh (b%c.sh) s.seq).length:Int)<c.pl:=by
 by_cases l:((Zm c.sh (b%c.sh) s.seq).length:Int)<c.pl
 .exact l
 .obtain ⟨_,_,z,_⟩:=h.2 l;cases z
theorem RY{c:Cf}{seq:List Int}{b g:Int}(hf:∀t,((Zm c.sh t seq).length:Int)<=c.pl)(h:g∈seq)(e:g%c.sh=b%c.sh):((Zm c.sh (b%c.sh) (seq.erase g)).length:Int)<c.pl:=by
 have m:g∈Zm c.sh (b%c.sh) seq:=bz.mpr ⟨h,e⟩;rw[HR,List.length_erase_of_mem m];have:=List.length_pos_of_mem m;have:=hf (b%c.sh);lia
structure aL(g:aP)(st:ao):Prop where
 n3:g.n=3
 len:st.rm.length=3
 nd:∀k,(st.at_ k).seq.Nodup
 inc:∀h x,h<2->x∈(st.at_ h).seq->x∈(st.at_ 2).seq
 ff:∀k x,(st.at_ k).fr x=true->x∈(st.at_ k).seq
structure Sq(a b:ao):Prop where
 len:b.rm.length=a.rm.length
 sq:∀j,(b.at_ j).seq=(a.at_ j).seq
 ff:∀j x,(b.at_ j).fr x=true->(a.at_ j).fr x=true\/x∈(a.at_ j).seq
theorem Sq.refl{a:ao}:Sq a a:=⟨rfl,λ_=>rfl,λ_ _ h=>.inl h⟩
theorem Sq.trans{a b c:ao}(x:Sq a b)(y:Sq b c):Sq a c:=⟨y.len.trans x.len,λj=>(y.sq j).trans (x.sq j),λj z h=>(y.ff j z h).elim (x.ff j z) λq=>.inr (by rw[<-x.sq];exact q)⟩
theorem aL.sq{g:aP}{a b:ao}(o:aL g a)(x:Sq a b):aL g b:=⟨o.n3,x.len.trans o.len,λk=>by rw[x.sq];exact o.nd k,λh y hh hy=>by rw[x.sq]at hy ⊢;exact o.inc h y hh hy,λk y hy=>by rw[x.sq];exact(x.ff k y hy).elim (o.ff k y) id⟩
section
variable{g:aP}{st:ao}{k h j:Nat}{b o x:Int}{ws:List Int}
theorem D3{s:Rm}(e:s.seq=(st.at_ k).seq)(f:∀x,s.fr x=true->(st.at_ k).fr x=true\/x∈(st.at_ k).seq):Sq st (st.set k s):=by
 refine⟨cy,λj=>MQ e,λj y hy=>?_⟩;rw[ZG]at hy;split at hy
 .rename_i q;rw[q.1];exact f y hy
 .exact .inl hy
theorem D5{e:List V}:Sq st (st.tell e):=⟨rfl,λ_=>rfl,λ_ _ h=>.inl h⟩
theorem bO:Sq st (bD g k b ws st):=by
 unfold bD;split
 .exact ⟨rfl,λ_=>rfl,λ_ _ h=>.inl h⟩
 .exact (D3 (s:=oF (st.at_ k) b ws) rfl λ_ h=>.inl h).trans D5
theorem RX(hb:b∈(st.at_ k).seq):Sq st (qD k b st):=D3 (s:=GL (st.at_ k) b) rfl λx hx=>by
 have hx:(if x=b then true else(st.at_ k).fr x)=true:=hx;by_cases c:x=b
 .rw [c];exact .inr hb
 .rw [afn c]at hx;exact .inl hx
theorem Q7(n:j≠k):(bD g k b ws st).at_ j=st.at_ j:=by
 unfold bD;split
 .rfl
 .rw [Bp,ZG,afn λz=>n z.1]
theorem AV(e:k=g.n):(bD g k b ws st).at_ j=st.at_ j:=by
 unfold bD;rw[aaU e];rfl
theorem Np(n:j≠k):(qD k b st).at_ j=st.at_ j:=by
 unfold qD;rw[ZG,afn λz=>n z.1]
theorem RW(n:j≠2):(bg g b ws st).at_ j=st.at_ j:=by
 unfold bg;split
 .rw [Np n,Q7 n]
 .rw [AV rfl,Q7 n]
theorem M9(hb:b∈(st.at_ 2).seq):Sq st (bg g b ws st):=by
 unfold bg;split
 .exact bO.trans (RX (by rw[bO.sq];exact hb))
 .exact bO.trans bO
theorem JS(hb:b∈(st.at_ 2).seq):Sq st (bK g h b st):=by
 unfold bK;split
 .refine (M9 (ws:=(st.at_ h).wd b) hb).trans (D3 (s:=pN _ b) rfl λx hx=>?_);have hx:(if x=b then false else _)=true:=hx;by_cases c:x=b
  .rw [aaU c]at hx;cases hx
  .rw [afn c]at hx;exact .inl hx
 .exact Sq.refl
theorem dB(hk:k<st.rm.length):(aZ k b st).at_ j=if j=k then p8 (st.at_ k) b else st.at_ j:=by
 unfold aZ;rw[ao.bI (by exact hk)];rfl
theorem bA:(aZ k b st).rm.length=st.rm.length:=cy
theorem bF(hk:k<st.rm.length):((aZ k b st).at_ j).seq=if j=k then(st.at_ j).seq.erase b else(st.at_ j).seq:=by
 rw[dB hk];by_cases z:j=k
 .rw [aaU z,aaU z,z];rfl
 .rw [afn z,afn z]
theorem ni(hk:k<st.rm.length){y:Int}(hy:((aZ k b st).at_ j).fr y=true):(st.at_ j).fr y=true/\(j=k->y≠b):=by
 rw[dB hk]at hy;by_cases z:j=k
 .rw [aaU z]at hy;have hy:(if y=b then false else(st.at_ k).fr y)=true:=hy;by_cases c:y=b
  .rw [aaU c]at hy;cases hy
  .rw [afn c]at hy;rw[z];exact⟨hy,λ_=>c⟩
 .rw [afn z]at hy;exact⟨hy,λe=>absurd e z⟩
theorem ZR(hk:k<st.rm.length):((bV k b ws st).at_ j).seq=if j=k then(st.at_ j).seq++[b] else(st.at_ j).seq:=by
 unfold bV;rw[Bp,ao.bI hk];by_cases z:j=k
 .rw [aaU z,aaU z,z];rfl
 .rw [afn z,afn z]
theorem Bo{y:Int}:((bV k b ws st).at_ j).fr y=(st.at_ j).fr y:=by
 unfold bV;rw[Bp,ZG];split
 .rename_i q;rw[q.1];rfl
 .rfl
theorem qx:(bV k b ws st).rm.length=st.rm.length:=cy
theorem aL.go(w:aL g st)(hh:h<2):aL g (aZ h o st):=by
 have hl:h<st.rm.length:=by rw[w.len];lia
 refine⟨w.n3,bA.trans w.len,λk=>?_,λk y hk hy=>?_,λk y hy=>?_⟩
 .rw [bF hl];split
  .exact (w.nd k).erase _
  .exact w.nd k
 .rw [bF hl,afn (by lia)];rw[bF hl]at hy;split at hy
  .exact w.inc k y hk (aWM hy)
  .exact w.inc k y hk hy
 .obtain ⟨h1,h2⟩:=ni hl hy;rw[bF hl];split
  .rename_i e;exact(mem_erase_of_ne (h2 e)).mpr (w.ff k y h1)
  .exact w.ff k y h1
theorem Nn(w:aL g st)(hh:h<2)(ho:o∈(st.at_ 2).seq):Sq (aZ h o st) (aK g h o st):=by
 have hl:h<st.rm.length:=by rw[w.len];lia
 unfold aK;split
 .exact M9 (by rw[bF hl,afn (by lia)];exact ho)
 .exact Sq.refl
theorem M8{p:ao×List Int×Bool}(hl:h<p.1.rm.length):(aA h o p).1.rm.length=p.1.rm.length/\(∀j,((aA h o p).1.at_ j).seq=if j=h then(p.1.at_ j).seq.erase o else(p.1.at_ j).seq)/\∀j y,((aA h o p).1.at_ j).fr y=true->(p.1.at_ j).fr y=true/\(j=h->o∈(p.1.at_ h).seq->y≠o):=by
 unfold aA;split
 .have e:(if(p.1.at_ h).fr o=true then(aZ h o p.1,(p.1.at_ h).wd o,true) else(aZ h o p.1,p.2)).1=aZ h o p.1:=by split <;> rfl
  rw[e];exact⟨bA,λj=>bF hl,λj y hy=>by obtain⟨q1,q2⟩:=ni hl hy;exact⟨q1,λe _=>q2 e⟩⟩
 .rename_i n;refine⟨rfl,λj=>?_,λj y hy=>⟨hy,λ_ m=>absurd m n⟩⟩;split
  .rename_i e;rw[e,bat n]
  .rfl
theorem JJ(l3:st.rm.length=3):(fk o st).1.rm.length=3/\(∀j,((fk o st).1.at_ j).seq=if j<3 then(st.at_ j).seq.erase o else(st.at_ j).seq)/\∀j y,((fk o st).1.at_ j).fr y=true->(st.at_ j).fr y=true/\(j<3->o∈(st.at_ j).seq->y≠o):=by
 obtain⟨a1,a2,a3⟩:=M8 (h:=0) (o:=o) (p:=(aZ 2 o st,(st.at_ 2).wd o,(st.at_ 2).fr o)) (by show 0<(aZ 2 o st).rm.length;rw[bA];lia);obtain⟨b1,b2,b3⟩:=M8 (h:=1) (o:=o) (p:=aA 0 o (aZ 2 o st,(st.at_ 2).wd o,(st.at_ 2).fr o)) (by rw[a1];show 1<(aZ 2 o st).rm.length;rw[bA];lia);have g2:=λj=>bF (k:=2) (b:=o) (st:=st) (j:=j) (by lia);have c2:∀j,((fk o st).1.at_ j).seq=if j<3 then(st.at_ j).seq.erase o else(st.at_ j).seq:=λj=>by
  unfold fk;rw[b2,a2];dsimp only;rw[g2];by_cases e0:j=0
  .rw [afn (by lia),aaU e0,afn (by lia),aaU (by lia)]
  .by_cases e1:j=1
   .rw [aaU e1,afn e0,afn (by lia),aaU (by lia)]
   .by_cases e2:j=2
    .rw [afn e1,afn e0,aaU e2,aaU (by lia)]
    .rw [afn e1,afn e0,afn e2,afn (by lia)]
 refine⟨b1.trans (a1.trans (bA.trans l3)),c2,λj y hy=>?_⟩;obtain⟨q1,q2⟩:=b3 j y hy;obtain⟨q3,q4⟩:=a3 j y q1;obtain⟨q5,q6⟩:=ni (by lia) q3;refine⟨q5,λhj m=>?_⟩;by_cases e2:j=2
 .exact q6 e2
 .have m2:o∈((aZ 2 o st).at_ j).seq:=by rw[g2,afn e2];exact m
  by_cases e0:j=0
  .exact q4 e0 (by subst e0;exact m2)
  .have e1:j=1:=by lia
   refine q2 e1 ?_;subst e1;rw[a2,afn (by lia)];exact m2
theorem fm:Sq (fk o st).1 (aN g o st):=by
 unfold aN;split
 .exact bO
 .exact Sq.refl
theorem aL.fk(w:aL g st):aL g (fk o st).1:=by
 obtain⟨h1,h2,h3⟩:=JJ (o:=o) w.len;refine⟨w.n3,h1,λk=>?_,λh y hh hy=>?_,λk y hy=>?_⟩
 .rw [h2];split
  .exact (w.nd k).erase _
  .exact w.nd k
 .rw [h2,aaU (by lia)]at hy ⊢;obtain⟨n,m⟩:=(w.nd h).mem_erase_iff.mp hy;exact(w.nd 2).mem_erase_iff.mpr ⟨n,w.inc h y hh m⟩
 .obtain ⟨q1,q2⟩:=h3 k y hy;have m:=w.ff k y q1;rw[h2];split
  .rename_i c;refine(w.nd k).mem_erase_iff.mpr ⟨λe=>?_,m⟩;exact q2 c (by rw[<-e];exact m) e
  .exact m
theorem aL.roomF(w:aL g st):aL g (roomF g b st)/\∀j,∀y∈((aj.roomF g b st).at_ j).seq,y∈(st.at_ j).seq:=by
 unfold aj.roomF;split
 .exact ⟨w,λ_ _ h=>h⟩
 .rename_i o _;refine⟨w.fk.sq fm,λj y hy=>?_⟩;rw[fm.sq,(JJ w.len).2.1]at hy;split at hy
  .exact aWM hy
  .exact hy
theorem aL.Hg(w:aL g st)(hb:b∉(st.at_ 2).seq):aL g (bV 2 b ws st):=by
 have hl:2<st.rm.length:=by rw[w.len];lia
 refine⟨w.n3,qx.trans w.len,λk=>?_,λh y hh hy=>?_,λk y hy=>?_⟩
 .rw [ZR hl];split
  .rename_i e;rw[e];exact Ea (w.nd 2) hb
  .exact w.nd k
 .rw [ZR hl,afn (by lia)]at hy;rw[ZR hl,aaU rfl];exact a96 _ (w.inc h y hh hy)
 .rw [Bo]at hy;rw[ZR hl];split
  .exact a96 _ (w.ff k y hy)
  .exact w.ff k y hy
theorem aL.Hf(w:aL g st)(hh:h<2)(hb:b∉(st.at_ h).seq)(h2:b∈(st.at_ 2).seq):aL g (bV h b ws st):=by
 have hl:h<st.rm.length:=by rw[w.len];lia
 refine⟨w.n3,qx.trans w.len,λk=>?_,λk y hk hy=>?_,λk y hy=>?_⟩
 .rw [ZR hl];split
  .rename_i e;rw[e];exact Ea (w.nd h) hb
  .exact w.nd k
 .rw [ZR hl,afn (by lia)];rw[ZR hl]at hy;split at hy
  .rcases aaI.mp hy with hy|hy
   .exact w.inc k y hk hy
   .rw [apU.mp hy];exact h2
  .exact w.inc k y hk hy
 .rw [Bo]at hy;rw[ZR hl];split
  .exact a96 _ (w.ff k y hy)
  .exact w.ff k y hy
theorem aL.use(w:aL g st)(hb:b∈(st.at_ k).seq){e:List V}:aL g ((st.tell e).set k (ju (g.cf k) (st.at_ k) b)):=by
 have pm:=C3 (c:=g.cf k) hb;have at':∀j,((st.tell e).set k (ju (g.cf k) (st.at_ k) b)).at_ j=if j=k/\k<st.rm.length then ju (g.cf k) (st.at_ k) b else st.at_ j:=λj=>ZG
 have me:∀j y,y∈(((st.tell e).set k (ju (g.cf k) (st.at_ k) b)).at_ j).seq↔y∈(st.at_ j).seq:=λj y=>by
  rw[at'];split
  .rename_i q;rw[q.1];exact pm.mem_iff
  .rfl
 refine⟨w.n3,cy.trans w.len,λj=>?_,λj y hj hy=>(me 2 y).mpr (w.inc j y hj ((me j y).mp hy)),λj y hy=>(me j y).mpr ?_⟩
 .rw [at'];split
  .exact pm.nodup_iff.mpr (w.nd k)
  .exact w.nd j
 .rw [at']at hy;split at hy
  .rename_i q;rw[q.1];exact w.ff k y hy
  .exact w.ff j y hy
theorem aL.bN(w:aL g st):aL g (bN g b st)/\b∈((aj.bN g b st).at_ 2).seq/\∀j,j<2->∀y∈((aj.bN g b st).at_ j).seq,y∈(st.at_ j).seq:=by
 unfold aj.bN;split
 .rename_i hb;refine⟨w.use hb,?_,λj hj y hy=>?_⟩
  .rw [ZG,aaU ⟨rfl,by show 2<st.rm.length;rw[w.len];lia⟩];exact(C3 hb).mem_iff.mpr hb
  .rw [ZG,afn (by lia)]at hy;exact hy
 .rename_i hb;obtain⟨h1,h2⟩:=(w.sq (D5 (e:=eF g.n))).roomF (b:=b);have hl:2<(aj.roomF g b (st.tell (eF g.n))).rm.length:=by rw[h1.len];lia
  refine⟨h1.Hg λz=>hb (h2 2 b z),?_,λj hj y hy=>?_⟩
  .rw [ZR hl,aaU rfl];exact bax _ (apU.mpr rfl)
  .rw [ZR hl,afn (by lia)]at hy;exact h2 j y hy
theorem aL.aG(w:aL g st)(hh:h<2):aL g (aG g h b st)/\(∀y∈((aj.aG g h b st).at_ h).seq,y∈(st.at_ h).seq)/\∀j,j≠h->((aj.aG g h b st).at_ j).seq=(st.at_ j).seq:=by
 have hl:h<st.rm.length:=by rw[w.len];lia
 unfold aj.aG;split
 .exact ⟨w,λ_ z=>z,λ_ _=>rfl⟩
 .rename_i o e;have s:=Nn (g:=g) w hh (w.inc h o hh (Bl e).1);refine⟨(w.go hh).sq s,λy hy=>?_,λj hj=>?_⟩
  .rw [s.sq,bF hl,aaU rfl]at hy;exact aWM hy
  .rw [s.sq,bF hl,afn hj]
theorem aL.cG(w:aL g st)(hh:h<2)(hb:b∉(st.at_ h).seq)(h2:b∈(st.at_ 2).seq):aL g (cG g h b st)/\b∈((aj.cG g h b st).at_ h).seq/\∀j,j≠h->((aj.cG g h b st).at_ j).seq=(st.at_ j).seq:=by
 obtain⟨r1,r2,r3⟩:=w.aG (b:=b) hh;have hl:h<(aj.aG g h b st).rm.length:=by rw[r1.len];lia
 unfold aj.cG;refine⟨r1.Hf hh (λz=>hb (r2 b z)) (by rw[r3 2 (by lia)];exact h2),?_,λj hj=>?_⟩
 .rw [ZR hl,aaU rfl];exact bax _ (apU.mpr rfl)
 .rw [ZR hl,afn hj,r3 j hj]
theorem aL.bH(w:aL g st)(hh:h<2):aL g (bH g h b st)/\b∈((aj.bH g h b st).at_ h).seq:=by
 unfold aj.bH;split
 .rename_i hb;refine⟨w.use hb,?_⟩;rw[ZG,aaU ⟨rfl,by show h<st.rm.length;rw[w.len];lia⟩];exact(C3 hb).mem_iff.mpr hb
 .rename_i hb;obtain⟨f1,f2,f3⟩:=w.bN (b:=b);have s:=JS (g:=g) (h:=1-h) f2;obtain⟨i1,i2,_⟩:=(f1.sq s).cG hh (λz=>hb (f3 h hh b (by rw[s.sq]at z;exact z))) (by rw[s.sq];exact f2);exact⟨i1,i2⟩
theorem aL.bw(w:aL g st)(hh:h<2):aL g (bw h b st)/\((aj.bw h b st).at_ h).seq=(st.at_ h).seq:=by
 unfold aj.bw;split
 .exact ⟨w.go (by lia),by rw[bF (by rw[w.len];lia),afn (by lia)]⟩
 .exact ⟨w,rfl⟩
theorem aL.mark(w:aL g st)(hh:h<2)(hb:b∈(st.at_ h).seq):aL g (markB g h b st):=by
 unfold markB;split
 .exact w.sq (RX hb)
 .exact w.sq (M9 (w.inc h b hh hb))
theorem aL.fq(w:aL g st):aL g (fq st):=w.sq ⟨rfl,λ_=>rfl,λ_ _ h=>.inl h⟩
end
inductive mU(K:W.Frag)(vs:List V)(H:Hp)(Q:VK)(E:XK):Prop
 |mk (a:SA) (c:Cf) (s:Rm) (O:Addr->Prop) (b:Int):vs=[.ref a.sp,.int b]->ay K H a c s O->Q (.bl (s.fr b)) H->mU K vs H Q E
example:(g6 Ew):=by
 obtain⟨a,c,s,O,b,rfl,S,k⟩:=h;refine⟨_,(Zh (Zs (Qt (Qk hu (pv 1) (Zk (K:=K) rfl (pv 0) rfl))))),?_⟩;obtain⟨dx,h1⟩:=S.aW.ob;obtain⟨kf,h4,h5,h6⟩:=S.fresh;refine⟨_,rfl,_,rfl,a.sp,_,dx,_,_,rfl,h1,T.dH,T.Dw,HD ..,a.df,_,rfl,e8.k (k:=Sum.inl b) h4,?_⟩;rw[h6 b];cases c:s.fr b with
 |true=>rw[c]at k;rw[aaU rfl];exact k
 |false=>rw[c]at k;rw[afn a7q];exact k
inductive pB(K:W.Frag)(vs:List V)(H:Hp)(Q:VK)(E:XK):Prop
 |mk (a:SA) (c:Cf) (s:Rm) (O:Addr->Prop) (b:Int):vs=[.ref a.sp,.int b]->ay K H a c s O->s.fr b=true->(∀H',ay K H' a c (pN s b) O->bR O H H' O->Q .aS H')->pB K vs H Q E
example:(jD Er):=by
 obtain⟨a,c,s,O,b,rfl,S,hb,k⟩:=h;refine⟨_,(Zh (Zo (NJ (Zk (K:=K) rfl (pv 0) rfl) (pv 1) ⟨rfl,rfl,rfl,rfl⟩))),?_⟩;obtain⟨dx,h1⟩:=S.aW.ob;obtain⟨kvs,wl,h3⟩:=S.held;obtain⟨kf,h4,h5,h6⟩:=S.fresh;refine⟨_,rfl,a.sp,_,dx,_,_,rfl,h1,T.dH,T.Dw,HD ..,a.df,rfl,.inl ⟨_,.inl h4⟩,_,rfl,kf,Sum.inl b,_,h4,rfl,(by rw[h6 b,aaU hb]),?_⟩;have S2:=S.aW.put (x:=a.df) (.inr rfl) (aX kf (Sum.inl b));refine k _ ⟨S2,⟨kvs,wl,by rw[Zc (ac5 S.aW.n2)];exact h3.dc,h3.ki,h3.v,λx m=>⟨by rw[Zc (λz=>by have q:=(h3.at_ x m).1;rw[z,h4]at q;cases q)];exact(h3.at_ x m).1,(h3.at_ x m).2⟩,h3.inj⟩,⟨_,Za,h5.drop b,λx=>?_⟩,λx h=>?_⟩ (S.aW.wL (x:=a.df) (.inr rfl) _)
 .rw [HE];show _=if(if x=b then false else s.fr x)=true then _ else _
  by_cases z:x=b
  .rw [aaU (by rw[z]),aaU z,afn a7q]
  .rw [afn (λq=>z (aKC q)),h6 x,afn z]
 .have h:(if x=b then false else s.fr x)=true:=h;by_cases z:x=b
  .rw [aaU z]at h;cases h
  .rw [afn z]at h;exact S.xG x h
def zS(H:Hp)(t:Addr)(c:Cf):Prop:=∃wr:Str,H t=some (.tup [.int c.sh,.int c.pl,.str c.ru,.str wr])/\c.late=decide (wr ="late")/\Wr wr/\1<=c.sh/\c.sh<=64/\1<=c.pl/\c.pl<=16/\xV c.ru
theorem zS.frame{H H':Hp}{t:Addr}{c:Cf}(r:zS H t c)(f:∀x ys,H x=some (.tup ys)->H' x=some (.tup ys)):zS H' t c:=by
 obtain⟨wr,e,r⟩:=r;exact⟨wr,f _ _ e,r⟩
inductive wc(K:W.Frag)(vs:List V)(H:Hp)(Q:VK)(E:XK):Prop
 |mk (p dx tn tf:Addr) (size:Int) (cn cf:Cf):vs=[.ref p,.int size,.ref tn,.ref tf]->H p=some (.ins (af K "Beside") dx [])->zS H tn cn->zS H tf cf->Tb K H->(∀(A:TA)(os:OS)(H':Hp),A.p=p->(∀U,WF ⟨size,"",[cn,cn,cf],U⟩->aa K H' A ⟨size,"",[cn,cn,cf],U⟩ (qG 3) os 0)->(∀x,OW A os x->x≠p->H x=none)->(∀b o,H b=some o->b≠p->H' b=some o)->Q .aS H')->wc K vs H Q E
example:(kN DO ED):=by
 obtain⟨p,dx,tn,tf,size,cn,cf,rfl,hp,pn,pf,tb,q⟩:=h;refine⟨_,(Zh (Zo (YN ED hr.m rfl (pc (pv 0) (pc (pv 1) (pc (ZI (pc (pv 2) (pc (pv 2) (pc (pv 3) Zb)))) Zb)))))),?_⟩;refine⟨_,rfl,_,rfl,_,rfl,_,rfl,_,rfl,(sL 3),λtp htp=>?_⟩;have s1:=Ze htp (.tup [V.ref tn,V.ref tn,V.ref tf]);have Xh:=Za (H:=H) (a:=tp) (o:=.tup [V.ref tn,V.ref tn,V.ref tf]);generalize upd H tp (.tup [V.ref tn,V.ref tn,V.ref tf])=H1 at *;obtain⟨wn,en,n1,n2,n3,n4,n5,n6,n7⟩:=pn.frame λx ys e=>s1 _ _ e;obtain⟨wf,ef,f1,f2,f3,f4,f5,f6,f7⟩:=pf.frame λx ys e=>s1 _ _ e;have pa:iV K H1 tp [tn,tn,tf] [cn,cn,cf]:=by
  refine⟨Xh,rfl,λi t c h1 h2=>?_,λc hc=>?_⟩
  .match i,h1,h2 with
   |0,h1,h2=>cases h1;cases h2;exact⟨wn,en,n1,n2⟩
   |1,h1,h2=>cases h1;cases h2;exact⟨wn,en,n1,n2⟩
   |2,h1,h2=>cases h1;cases h2;exact⟨wf,ef,f1,f2⟩
   |i+3,h1,_=>cases h1
  .simp only[a9e,a7K,a9R]at hc;rcases hc with rfl|rfl|rfl
   .exact ⟨n3,n4,n5,n6,n7⟩
   .exact ⟨n3,n4,n5,n6,n7⟩
   .exact ⟨f3,f4,f5,f6,f7⟩
 refine⟨p,dx,tp,size,_,_,rfl,s1 _ _ hp,pa,aUl rfl,tb.same s1,λA os H2 ep h1 RS f1 k1=>?_⟩;have e:∀kind,upd H2 p (.ins (af K "Beside") dx (bu size A.ss A.bm A.as.length A.ev kind))=H2:=λkind=>funext λx=>by
  by_cases z:x=p
  .rw [z,Za,h1];rfl
  .rw [Zc z]
 exact q A os _ ep (λU wf=>by have R:=RS "" U wf;rw[e]at R;exact R) (λx h n=>s1.free (f1 x h n)) λx o e n=>k1 x o (s1 _ _ e) n
inductive sV(K:W.Frag)(vs:List V)(H:Hp)(Q:VK)(E:XK):Prop
 |mk (A:TA) (g:aP) (st:ao) (os:OS) (n:Nat) (b:Int) (lw:Addr) (ws:List Int):vs=[.ref A.p,.int b,.ref lw]->aa K H A g st os n->g.n=3->b∈(st.at_ 2).seq->H lw=some (.lst (ws.map V.int))->(¬OW A os lw)->ws.length=g.size.toNat->n<=800000->Res K H A g os (bg g b ws st) (n+2) (Q .aS)->sV K vs H Q E
example:(gr wH vd AL):=by
 obtain ⟨A,g,st,os,n,b,lw,ws,rfl,R,g3,hb,oV,nO,w9,hn,q⟩:=h;refine⟨_,(Zd (Zo (Zj vd hr.m T.aM (pv 0) (pc (ZT T.uh rfl) (pc (pv 1) (pc (pv 2) Zb)))))
   (Zd (dw 3 nd (av (Zn (K:=K) rfl) (Zk (K:=K) rfl (pv 0) rfl) (ZT T.uh rfl) (λ_ _=>rfl)))
   (Zh (aI (ZC (Zk (K:=K) rfl (pv 3) rfl)) (Zh (Zo (Zj AL hr.m T.dH (pv 3) (pc (pv 1) Zb)))) (Zh (Zo (Zj vd hr.m T.aM (pv 0) (pc (Zk (K:=K) rfl (pv 0) rfl) (pc (pv 1) (pc (pv 2) Zb)))))))))),?_⟩
 obtain⟨dx,h1⟩:=R.ob;have ln:=R.ln;have bU:b∈g.U:=((R.mj (k:=2) (by lia)).2.1 b hb).1;unfold bg at q;refine⟨_,rfl,A.p,dx,_,rfl,h1,au ..,_,rfl,_,rfl,A,g,st,os,n,2,b,lw,ws,rfl,R,by lia,λ_=>hb,bU,oV,nO,w9,by lia,λH1 bS R1 p1=>?_⟩;have hb1:b∈((bD g 2 b ws st).at_ 2).seq:=by rw[bO.sq];exact hb
 obtain⟨Me,V0⟩:=p1.out oV nO;obtain⟨cS,g1⟩:=R1.ob;obtain⟨a,e1,e2,e3,B⟩:=R1.at_ (k:=2) (by lia);obtain⟨u1,u2,u3,u4,u5,u6⟩:=R1.mj (k:=2) (by lia);obtain⟨ds,h3⟩:=B.aW.ob;refine⟨_,rfl,A.p,_,cS,_,_,rfl,g1,T.aM,T.pZ,Zv ..,A.ss,_,_,_,rfl,rfl,az.of R1.ss,aa.ix e1,gN ?_⟩;try dsimp only
 refine⟨_,rfl,a.sp,_,ds,_,_,rfl,h3,T.dH,T.LU,Rj ..,_,rfl,?_⟩;by_cases c:(g.cf 2).late=true
 .rw [aaU c]at q;refine fK c ⟨_,rfl,a.sp,ds,_,rfl,h3,bW ..,_,rfl,a,_,_,_,b,rfl,B,hb1,u1,λG3 B3 p3=>?_⟩;obtain⟨R3,p4⟩:=R1.iz e1 e2 B3 p3 u2 u3;exact q _ _ (R3.le (by lia)) (p1.trans p4)
 .rw [afn c]at q;exact cO (by simpa using c) ⟨_,rfl,A.p,cS,_,rfl,g1,au ..,_,rfl,A.p,_,cS,_,_,rfl,g1,T.aM,T.yT,Bq ..,_,rfl,_,rfl,A,g,_,bS,_,g.n,b,lw,ws,by rw[ln];rfl,R1,ags _,λh=>absurd h (aiF _),bU,Me,V0,w9,by lia,λG2 jX R2 p2=>q _ _ (R2.le (by lia)) (p1.trans p2)⟩
inductive pH(K:W.Frag)(vs:List V)(H:Hp)(Q:VK)(E:XK):Prop
 |mk (A:TA) (g:aP) (st:ao) (os:OS) (n h:Nat) (o:Int):vs=[.ref A.p,.int (h:Int),.int o]->aa K H A g st os n->g.n=3->h<2->o∈(st.at_ h).seq->o∈(st.at_ 2).seq->n<=700000->Res K H A g os (aK g h o st) (n+3) (Q .aS)->pH K vs H Q E
example:(eU AO rE wH):=by
 obtain ⟨A,g,st,os,n,h,o,rfl,R,g3,hh,ho,h2,hn,q⟩:=h;refine⟨_,(Zd (qV (Zj rE hr.m T.aM (pv 0) (pc (pv 1) (pc (pv 2) Zb))) (ZQ (K:=K) (n:=2) rfl rfl (Zq (cu 3 nd) (Zq (cu 4 nd) ZO))))
   (Zh (aI (ZC (pv 4)) (Zh (Zo (Zj wH hr.m T.aM (pv 0) (pc (pv 2) (pc (pv 3) Zb))))) Zt))),?_⟩
 obtain⟨dx,h1⟩:=R.ob;have ln:=R.ln;have lS:=R.lS;have lw:=((R.mj (k:=h) (by lia)).2.1 o ho).2;unfold aK at q;refine⟨_,rfl,A.p,dx,_,rfl,h1,au ..,_,rfl,_,rfl,A,g,st,os,n,h,o,rfl,R,by lia,ho,by lia,λH1 bS t l et el nl R1 p1=>⟨t,_,rfl,aU.of et,rfl,_,_,rfl,gN ⟨_,_,rfl,gN ⟨rfl,?_⟩⟩⟩⟩;try dsimp only
 obtain⟨cS,g1⟩:=R1.ob;cases fr:(st.at_ h).fr o with
 |true=>
  rw[aaU fr]at q;exact⟨_,rfl,_,rfl,fK rfl ⟨_,rfl,A.p,cS,_,rfl,g1,au ..,_,rfl,_,rfl,A,g,_,bS,_,o,l,_,rfl,R1,g3,by rw[bF (by lia),afn (by lia)];exact h2,el,nl,lw,by lia,λH2 jX R2 p2=>q _ _ (R2.le (by lia)) (p1.trans p2)⟩⟩
 |false=>
  rw[afn (by rw[fr];exact a7q)]at q;exact⟨_,rfl,_,rfl,cO rfl (q _ _ (R1.le (by lia)) p1)⟩
inductive mR(K:W.Frag)(vs:List V)(H:Hp)(Q:VK)(E:XK):Prop
 |mk (A:TA) (g:aP) (st:ao) (os:OS) (n h:Nat) (b:Int):vs=[.ref A.p,.int (h:Int),.int b]->aa K H A g st os n->g.n=3->h<2->b∈(st.at_ 2).seq->n<=700000->Res K H A g os (bK g h b st) (n+2) (Q .aS)->mR K vs H Q E
example:(dU Fj Ew tP wH Er):=by
 obtain ⟨A,g,st,os,n,h,b,rfl,R,g3,hh,h2,hn,q⟩:=h;refine⟨_,(Zd (dw 3 nd (av (Zn (K:=K) rfl) (Zk (K:=K) rfl (pv 0) rfl) (pv 1) (λ_ _=>rfl)))
   (Zh (aI (ZC (Zj Ew hr.m T.dH (pv 3) (pc (pv 2) Zb))) (Zd (Zo (Zj wH hr.m T.aM (pv 0) (pc (pv 2) (pc (Zj tP hr.m T.dH (pv 3) (pc (pv 2) Zb)) Zb))))
   (Zh (Zo (Zj Er hr.m T.dH (pv 3) (pc (pv 2) Zb))))) Zt))),?_⟩
 obtain⟨dx,h1⟩:=R.ob;have ln:=R.ln;obtain⟨a,e1,e2,e3,B⟩:=R.at_ (k:=h) (by lia);obtain⟨u1,u2,u3,u4,u5,u6⟩:=R.mj (k:=h) (by lia);obtain⟨ds,h3⟩:=B.aW.ob;unfold bK at q;refine⟨_,rfl,A.p,_,dx,_,_,rfl,h1,T.aM,T.pZ,Zv ..,_,rfl,A.ss,_,_,_,rfl,rfl,az.of R.ss,aa.ix e1,gN ?_⟩;try dsimp only
 refine⟨_,rfl,a.sp,ds,_,rfl,h3,bW ..,_,rfl,a,_,_,_,b,rfl,B,_,rfl,?_⟩;cases fr:(st.at_ h).fr b with
 |true=>
  rw[aaU fr]at q;have hb:b∈(st.at_ h).seq:=B.xG b fr;refine fK rfl ⟨_,rfl,A.p,dx,_,rfl,h1,au ..,_,rfl,_,rfl,a.sp,ds,_,rfl,h3,bW ..,_,rfl,a,_,_,_,b,rfl,B,hb,λl hl=>?_⟩;have sm:=Ze hl (.lst (((st.at_ h).wd b).map V.int));refine⟨A,g,st,os,n,b,l,_,rfl,R.same sm,g3,h2,Za,R.fresh hl,(u2 b hb).2,by lia,λH2 jX R2 p2=>?_⟩;obtain⟨a2,f1,f2,f3,B2⟩:=R2.at_ (k:=h) (by lia);rw[e1]at f1;cases f1;obtain⟨v1,v2,v3,v4,v5,v6⟩:=R2.mj (k:=h) (by lia);obtain⟨d2,h4⟩:=B2.aW.ob;refine⟨_,rfl,a.sp,d2,_,rfl,h4,bW ..,_,rfl,a,_,_,_,b,rfl,B2,by rw[RW (by lia)];exact fr,λG3 B3 p3=>?_⟩;obtain⟨R3,p4⟩:=R2.iz e1 f2 B3 p3 v2 v3;exact q _ _ (R3.le (by lia)) (((bR.same sm).trans p2).trans p4)
 |false=>
  rw[afn (by rw[fr];exact a7q)]at q;exact cO rfl (q _ _ (R.le (by lia)) (bR.same (aB.refl _)))
section
variable{g:aP}{st:ao}{h:Nat}{b o:Int}
theorem ZfE(w:aL g st)(full:∀t,((Zm (g.cf 2).sh t (st.at_ 2).seq).length:Int)<=(g.cf 2).pl)(gp:dR (g.cf 2).ru (st.at_ 2).us (g.cf 2).pl (Zm (g.cf 2).sh (b%(g.cf 2).sh) (st.at_ 2).seq) (cQ (g.cf 2) (st.at_ 2) b)):((Zm (g.cf 2).sh (b%(g.cf 2).sh) ((roomF g b st).at_ 2).seq).length:Int)<(g.cf 2).pl:=by
 unfold roomF;split
 .rename_i e;rw[e]at gp;exact Q8 gp
 .rename_i o e;obtain⟨m1,m2,_⟩:=Bl e;rw[fm.sq,(JJ w.len).2.1,aaU (by lia)];exact RY full m1 m2
theorem ZfF(w:aL g st)(hh:h<2)(full:∀t,((Zm (g.cf h).sh t (st.at_ h).seq).length:Int)<=(g.cf h).pl)(gp:dR (g.cf h).ru (st.at_ h).us (g.cf h).pl (Zm (g.cf h).sh (b%(g.cf h).sh) (st.at_ h).seq) (cQ (g.cf h) (st.at_ h) b)):((Zm (g.cf h).sh (b%(g.cf h).sh) ((aG g h b st).at_ h).seq).length:Int)<(g.cf h).pl:=by
 unfold aG;split
 .rename_i e;rw[e]at gp;exact Q8 gp
 .rename_i o e;obtain⟨m1,m2,_⟩:=Bl e;rw[(Nn (g:=g) w hh (w.inc h o hh m1)).sq,bF (by rw[w.len];lia),aaU rfl];exact RY full m1 m2
end
inductive pI(K:W.Frag)(vs:List V)(H:Hp)(Q:VK)(E:XK):Prop
 |mk (A:TA) (g:aP) (st:ao) (os:OS) (n:Nat) (o:Int):vs=[.ref A.p,.int o]->aa K H A g st os n->g.n=3->o∈(st.at_ 2).seq->n<=700000->Res K H A g os (aN g o st) (n+4) (Q .aS)->pI K vs H Q E
example:(fH Fi rE tL vd):=by
 obtain ⟨A,g,st,os,n,o,rfl,R,g3,ho,hn,q⟩:=h;refine⟨_,(Zd (qV (Zj rE hr.m T.aM (pv 0) (pc (ZT T.uh rfl) (pc (pv 1) Zb))) (ZQ (K:=K) (n:=2) rfl rfl (Zq (cu 2 nd) (Zq (cu 3 nd) ZO))))
   (Zd (yu aUe rfl (JY (K:=K) rfl (Sa (K:=K) rfl T.Jo rfl)) (cu 4 nd) (Zh (aI (ZC (Zj tL hr.m T.dH (av (Zn (K:=K) rfl) (Zk (K:=K) rfl (pv 0) rfl) (pv 4) (λ_ _=>rfl)) (pc (pv 1) Zb))) (Zd (qV (Zj rE hr.m T.aM (pv 0) (pc (pv 4) (pc (pv 1) Zb))) (ZQ (K:=K) (n:=2) rfl rfl (Zq (cu 5 nd) (Zq (cu 6 nd) ZO))))
   (Zh (aI (ZC (pv 6)) (Zh (Qq (i:=2) (j:=3) rfl nd rfl rfl (by decide) rfl rfl (pc (pv 5) (pc gb Zb)) rfl)) Zt))) Zt)))
   (Zh (aI (ZC (pv 3)) (Zh (Zo (Zj vd hr.m T.aM (pv 0) (pc (Zk (K:=K) rfl (pv 0) rfl) (pc (pv 1) (pc (pv 2) Zb)))))) Zt)))),?_⟩
 obtain⟨dx,h1⟩:=R.ob;have ln:=R.ln;have lS:=R.lS;obtain⟨oU,lw⟩:=(R.mj (k:=2) (by lia)).2.1 o ho;refine⟨_,rfl,A.p,dx,_,rfl,h1,au ..,_,rfl,A,g,st,os,n,2,o,rfl,R,by lia,ho,by lia,λH1 bS t l et el nl R1 p1=>⟨t,_,rfl,aU.of et,rfl,_,_,rfl,gN ⟨_,_,rfl,gN ⟨rfl,?_⟩⟩⟩⟩;try dsimp only
 refine λhd CF=>⟨hd,rfl,⟨_,CF _⟩,Nk (K:=K) (a:=hd) (xs:=([0,1]:List Int).map V.int) (λi σ G=>∃(v4 v5 v6:Option V)(l':Addr)(os':OS),σ=[some (.ref A.p),some (.int o),some (.ref l'),some (.bl (yl o st i).2.2),v4,v5,v6]/\aa K G A g (yl o st i).1 os' (n+1+i)/\bR (OW A os) H G (OW A os')/\G l'=some (.lst ((yl o st i).2.1.map V.int))/\¬OW A os' l'/\(yl o st i).2.1.length=g.size.toNat)
  ⟨_,_,_,l,bS,rfl,R1,p1,el,nl,lw⟩ (λi σ G _ _=>CF _) ?_ ?_⟩
 .rintro i x σ G hi ⟨v4,v5,v6,l',os',rfl,R2,p2,GV,IX,Cm⟩;have hi2:i<2:=(aB9.mp hi).1;have hx:x=.int (i:Int):=by
   have h:i=0\/i=1:=by lia
   rcases h with rfl|rfl
   .exact (a9h hi).symm
   .exact (a9h hi).symm
  subst hx;refine gN ?_;try dsimp only
  obtain⟨l5,g2⟩:=R2.ob;obtain⟨a,e1,e2,e3,B⟩:=R2.at_ (k:=i) (by lia);obtain⟨ds,h3⟩:=B.aW.ob;refine⟨_,rfl,A.p,_,l5,_,_,rfl,g2,T.aM,T.pZ,Zv ..,_,rfl,A.ss,_,_,_,rfl,rfl,az.of R2.ss,aa.ix e1,a.sp,ds,_,rfl,h3,bW ..,_,rfl,a,_,_,_,o,rfl,B,_,rfl,?_⟩;have es:yl o st (i+1)=aA i o (yl o st i):=rfl;unfold aA at es;by_cases m:o∈((yl o st i).1.at_ i).seq
  .rw [aaU m]at es;have V9:=((R2.mj (k:=i) (by lia)).2.1 o m).2;refine fK (a5U m) ⟨_,rfl,A.p,l5,_,rfl,g2,au ..,_,rfl,_,rfl,A,g,_,os',_,i,o,rfl,R2,by lia,m,by lia,λH3 iG t3 l3 Xi Xl VX R3 p3=>⟨t3,_,rfl,aU.of Xi,rfl,_,_,rfl,gN ⟨_,_,rfl,gN ⟨rfl,?_⟩⟩⟩⟩;try dsimp only
   obtain⟨Xk,VW⟩:=p3.out GV IX;cases fr:((yl o st i).1.at_ i).fr o with
   |true=>
    rw[aaU fr]at es;refine⟨_,rfl,_,rfl,fK rfl ⟨_,rfl,_,_,rfl,?_⟩⟩;refine⟨_,_,_,l3,iG,by rw[es];rfl,by rw[es];exact R3.le (by lia),p2.trans p3,by rw[es];exact Xl,VX,by rw[es];exact V9⟩
   |false=>
    rw[afn (by rw[fr];exact a7q)]at es;refine⟨_,rfl,_,rfl,cO rfl ?_⟩;refine⟨_,_,_,l',iG,by rw[es];rfl,by rw[es];exact R3.le (by lia),p2.trans p3,by rw[es];exact Xk,VW,by rw[es];exact Cm⟩
  .rw [afn m]at es;exact cO (a4I m) ⟨_,_,_,l',os',by rw[es];rfl,by rw[es];exact R2.le (by lia),p2,by rw[es];exact GV,IX,by rw[es];exact Cm⟩
 .rintro σ G ⟨v4,v5,v6,l',os',rfl,R2,p2,GV,IX,Cm⟩;have e2:yl o st (([0,1]:List Int).map V.int).length=fk o st:=rfl;rw[e2]at R2 GV Cm ⊢;obtain⟨l5,g2⟩:=R2.ob;unfold aN at q;cases fr:(fk o st).2.2 with
  |true=>
   rw[aaU fr]at q;exact⟨_,rfl,_,rfl,fK rfl ⟨_,rfl,A.p,l5,_,rfl,g2,au ..,_,rfl,A.p,_,l5,_,_,rfl,g2,T.aM,T.yT,Bq ..,_,rfl,_,rfl,A,g,_,os',_,g.n,o,l',_,by rw[ln];rfl,R2,ags _,λh=>absurd h (aiF _),oU,GV,IX,Cm,by show n+1+2<=900000;lia,λH4 rF R4 p4=>q _ _ (R4.le (by show n+1+2+1<=n+4;lia)) (p2.trans p4)⟩⟩
  |false=>
   rw[afn (by rw[fr];exact a7q)]at q;exact⟨_,rfl,_,rfl,cO rfl (q _ _ (R2.le (by show n+1+2<=n+4;lia)) p2)⟩
inductive vV(K:W.Frag)(vs:List V)(H:Hp)(Q:VK)(E:XK):Prop
 |mk (A:TA) (g:aP) (st:ao) (os:OS) (n:Nat) (b:Int):vs=[.ref A.p,.int b]->aa K H A g st os n->aL g st->b∈g.U->n<=600000->Res K H A g os (bN g b st) (n+6) (Q .aS)->vV K vs H Q E
example:(fJ Fg tL yV AU AR Fi AK tO):=by
 obtain ⟨A,g,st,os,n,b,rfl,R,ok,bU,hn,q⟩:=h;refine⟨_,(Zd (aI (ZC (Zj tL hr.m T.dH (av (Zn (K:=K) rfl) (Zk (K:=K) rfl (pv 0) rfl) (ZT T.uh rfl) (λ_ _=>rfl)) (pc (pv 1) Zb))) (Zd (Zo (Zj yV hr.m T.aM (pv 0) (pc (ZT T.uh rfl) Zb)))
   (Zd (Zo (Zj AU hr.m T.aM (pv 0) (pc (ZT T.uh rfl) (pc (pv 1) Zb))))
   (Zh RG))) Zt)
   (Zd (Zo (Zj yV hr.m T.aM (pv 0) (pc (Zk (K:=K) rfl (pv 0) rfl) Zb)))
   (Zd (dw 2 nd (Zj AR hr.m T.aM (pv 0) (pc (ZT T.uh rfl) (pc (pv 1) Zb))))
   (Zd (aI (JI (Nl (pv 2))) (Zh (Zo (Zj Fi hr.m T.aM (pv 0) (pc (pv 2) Zb)))) Zt)
   (Zh (Zo (Zj AK hr.m T.aM (pv 0) (pc (ZT T.uh rfl) (pc (pv 1) (pc (Zj tO hr.m T.aM (pv 0) (pc (Zk (K:=K) rfl (pv 0) rfl) (pc (pv 1) Zb))) Zb)))))))))),?_⟩
 obtain⟨dx,h1⟩:=R.ob;have ln:=R.ln;have lS:=R.lS;have g3:=ok.n3;obtain⟨b0,b1⟩:=R.wf.ub b bU;obtain⟨a,e1,e2,e3,B⟩:=R.at_ (k:=2) (by lia);obtain⟨u1,u2,u3,u4,u5,u6⟩:=R.mj (k:=2) (by lia);obtain⟨ds,h3⟩:=B.aW.ob;unfold bN at q;refine hide λw1 x1=>?_;refine⟨_,rfl,A.p,_,dx,_,_,rfl,h1,T.aM,T.pZ,Zv ..,A.ss,_,_,_,rfl,rfl,az.of R.ss,aa.ix e1,a.sp,ds,_,rfl,h3,bW ..,_,rfl,a,_,_,_,b,rfl,B,_,rfl,?_⟩;by_cases m:b∈(st.at_ 2).seq
 .rw [aaU m]at q;refine fK (a5U m) ⟨_,rfl,A.p,dx,_,rfl,h1,au ..,A,g,st,os,n,2,rfl,R,by lia,by lia,λH1 bS R1 p1=>?_⟩;obtain⟨cS,g1⟩:=R1.ob;exact⟨_,rfl,A.p,cS,_,rfl,g1,au ..,_,rfl,A,g,_,bS,_,2,b,rfl,R1,by lia,m,λH2 jX R2 p2=>q _ _ (R2.le (by lia)) (p1.trans p2)⟩
 .rw [afn m]at q;refine cO (a4I m) ?_;subst x1;try dsimp only
  dsimp only[gE];refine⟨_,rfl,A.p,dx,_,rfl,h1,au ..,_,rfl,A.p,_,dx,_,_,rfl,h1,T.aM,T.yT,Bq ..,A,g,st,os,n,g.n,by rw[ln];rfl,R,ags _,by lia,λH1 bS R1 p1=>?_⟩;obtain⟨cS,g1⟩:=R1.ob;have OC:=ok.sq (D5 (e:=eF g.n));have GK:∀t,((Zm (g.cf 2).sh t ((st.tell (eF g.n)).at_ 2).seq).length:Int)<=(g.cf 2).pl:=u3;have m1:b∉((st.tell (eF g.n)).at_ 2).seq:=m;generalize st.tell (eF g.n)=st1 at *;try dsimp only
  refine hide λw1 x1=>?_;refine⟨_,rfl,A.p,cS,_,rfl,g1,au ..,_,rfl,A,g,st1,bS,_,2,b,rfl,R1,by lia,λH2 s2 gp=>gN ?_⟩;subst x1;try dsimp only
  have R2:=R1.same s2;have rf:=ZfE OC GK gp;obtain⟨Vy,BO⟩:=OC.roomF (b:=b);refine CJ (λσ G=>σ=[some (.ref A.p),some (.int b),some (uz (cQ (g.cf 2) (st1.at_ 2) b))]/\∃jX,aa K G A g (roomF g b st1) jX (n+1+4)/\bR (OW A bS) H2 G (OW A jX)) (λD' _ k'=>?_) ?_
  .obtain ⟨l5,g2⟩:=R2.ob;cases eg:cQ (g.cf 2) (st1.at_ 2) b with
   |none=>
    have el:roomF g b st1=st1:=by unfold roomF;rw[eg]
    rw[eg,el]at k';exact⟨_,rfl,_,rfl,cO rfl (k' _ _ ⟨rfl,bS,R2.le (by lia),bR.same (aB.refl _)⟩)⟩
   |some go=>
    have el:roomF g b st1=aN g go st1:=by unfold roomF;rw[eg]
    rw[eg,el]at k';exact⟨_,rfl,_,rfl,fK rfl ⟨_,rfl,A.p,l5,_,rfl,g2,au ..,_,rfl,A,g,st1,bS,_,go,rfl,R2,g3,(Bl eg).1,by lia,λH3 iG R3 p3=>k' _ _ ⟨rfl,iG,R3,p3⟩⟩⟩
  rintro _ G ⟨rfl,iG,R3,p3⟩;obtain⟨tW,xF⟩:=R3.ob;refine⟨_,rfl,A.p,tW,_,rfl,xF,au ..,_,rfl,_,rfl,A.p,tW,_,rfl,xF,au ..,_,rfl,A.p,_,tW,_,_,rfl,xF,T.aM,T.yT,Bq ..,_,rfl,A,g,_,iG,_,g.n,b,by rw[ln];rfl,R3,ags _,λh=>absurd h (aiF _),b0,b1,λlw H4 oV s4 ew=>?_⟩;have R4:=R3.same s4;have Mx:Bh g (roomF g b st1) g.n b=aO g.size (roomF g b st1).mem b:=aaU rfl;rw[Mx]at ew;exact⟨A,g,_,iG,_,2,b,lw,_,rfl,R4,by lia,λz=>m1 (BO 2 b z),bU,rf,ew,R3.fresh oV,by unfold aO;rw[axO,ayq],by lia,λH5 Oz R5 p5=>q _ _ (R5.le (by lia)) (((p1.trans (bR.same s2)).trans p3).trans ((bR.same s4).trans p5))⟩
inductive vW(K:W.Frag)(vs:List V)(H:Hp)(Q:VK)(E:XK):Prop
 |mk (A:TA) (g:aP) (st:ao) (os:OS) (n h:Nat) (b:Int):vs=[.ref A.p,.int (h:Int),.int b]->aa K H A g st os n->aL g st->h<2->b∈g.U->n<=500000->Res K H A g os (bH g h b st) (n+12) (Q .aS)->vW K vs H Q E
example:(eV AN tL yV AU Fg Fj AR AO AK tO):=by
 obtain ⟨A,g,st,os,n,h,b,rfl,R,ok,hh,bU,hn,q⟩:=h;refine⟨_,(Zd (aI (ZC (Zj tL hr.m T.dH (av (Zn (K:=K) rfl) (Zk (K:=K) rfl (pv 0) rfl) (pv 1) (λ_ _=>rfl)) (pc (pv 2) Zb))) (Zd (Zo (Zj yV hr.m T.aM (pv 0) (pc (pv 1) Zb)))
   (Zd (Zo (Zj AU hr.m T.aM (pv 0) (pc (pv 1) (pc (pv 2) Zb))))
   (Zh RG))) Zt)
   (Zd (Zo (Zj Fg hr.m T.aM (pv 0) (pc (pv 2) Zb)))
   (Zd (Zo (Zj Fj hr.m T.aM (pv 0) (pc (ak zQ Zi (pv 1)) (pc (pv 2) Zb))))
   (Zd (dw 3 nd (Zj AR hr.m T.aM (pv 0) (pc (pv 1) (pc (pv 2) Zb))))
   (Zd (aI (JI (Nl (pv 3))) (Zh (Zo (Zj AO hr.m T.aM (pv 0) (pc (pv 1) (pc (pv 3) Zb))))) Zt)
   (Zh (Zo (Zj AK hr.m T.aM (pv 0) (pc (pv 1) (pc (pv 2) (pc (Zj tO hr.m T.aM (pv 0) (pc (ZT T.uh rfl) (pc (pv 2) Zb))) Zb))))))))))),?_⟩
 obtain⟨dx,h1⟩:=R.ob;have ln:=R.ln;have g3:=ok.n3;obtain⟨b0,b1⟩:=R.wf.ub b bU;obtain⟨a,e1,e2,e3,B⟩:=R.at_ (k:=h) (by lia);obtain⟨ds,h3⟩:=B.aW.ob;unfold bH at q;refine hide λw1 x1=>?_;refine⟨_,rfl,A.p,_,dx,_,_,rfl,h1,T.aM,T.pZ,Zv ..,_,rfl,A.ss,_,_,_,rfl,rfl,az.of R.ss,aa.ix e1,a.sp,ds,_,rfl,h3,bW ..,_,rfl,a,_,_,_,b,rfl,B,_,rfl,?_⟩;by_cases m:b∈(st.at_ h).seq
 .rw [aaU m]at q;refine fK (a5U m) ⟨_,rfl,A.p,dx,_,rfl,h1,au ..,_,rfl,A,g,st,os,n,h,rfl,R,by lia,by lia,λH1 bS R1 p1=>?_⟩;obtain⟨cS,g1⟩:=R1.ob;exact⟨_,rfl,A.p,cS,_,rfl,g1,au ..,_,rfl,_,rfl,A,g,_,bS,_,h,b,rfl,R1,by lia,m,λH2 jX R2 p2=>q _ _ (R2.le (by lia)) (p1.trans p2)⟩
 .rw [afn m]at q;refine cO (a4I m) ?_;subst x1;try dsimp only
  dsimp only[gE];refine⟨_,rfl,A.p,dx,_,rfl,h1,au ..,_,rfl,A,g,st,os,n,b,rfl,R,ok,bU,by lia,λH1 bS R1 p1=>?_⟩;obtain⟨cS,g1⟩:=R1.ob;obtain⟨f1,f2,f3⟩:=ok.bN (b:=b);have m1:b∉((bN g b st).at_ h).seq:=λz=>m (f3 h hh b z);generalize bN g b st=st1 at *;have eh:(1-(h:Int))=((1-h:Nat):Int):=by lia
  try dsimp only
  refine hide λw1 x1=>?_;refine⟨_,rfl,A.p,cS,_,rfl,g1,au ..,_,rfl,_,_,rfl,rfl,_,rfl,A,g,st1,bS,_,1-h,b,by rw[<-eh];rfl,R1,g3,by lia,f2,by lia,λH2 jX R2 p2=>?_⟩;subst x1;try dsimp only
  have s:=JS (g:=g) (h:=1-h) f2;have B0:=f1.sq s;have Xb:b∈((bK g (1-h) b st1).at_ 2).seq:=by rw[s.sq];exact f2
  have m2:b∉((bK g (1-h) b st1).at_ h).seq:=by rw[s.sq];exact m1
  clear s f1 f2 f3 m1;generalize bK g (1-h) b st1=st2 at *;obtain⟨l5,g2⟩:=R2.ob;obtain⟨u1,u2,u3,u4,u5,u6⟩:=R2.mj (k:=h) (by lia);try dsimp only
  refine hide λw1 x1=>?_;refine⟨_,rfl,A.p,l5,_,rfl,g2,au ..,_,rfl,_,rfl,A,g,st2,jX,_,h,b,rfl,R2,by lia,λH3 s3 gp=>gN ?_⟩;subst x1;try dsimp only
  have R3:=R2.same s3;have rf:=ZfF B0 hh u3 gp;obtain⟨Vy,BO,Le⟩:=B0.aG (b:=b) hh;refine CJ (λσ G=>σ=[some (.ref A.p),some (.int (h:Int)),some (.int b),some (uz (cQ (g.cf h) (st2.at_ h) b))]/\∃iG,aa K G A g (aG g h b st2) iG (n+6+2+3)/\bR (OW A jX) H3 G (OW A iG)) (λD' _ k'=>?_) ?_
  .obtain ⟨tW,xF⟩:=R3.ob;cases eg:cQ (g.cf h) (st2.at_ h) b with
   |none=>
    have el:aG g h b st2=st2:=by unfold aG;rw[eg]
    rw[eg,el]at k';exact⟨_,rfl,_,rfl,cO rfl (k' _ _ ⟨rfl,jX,R3.le (by lia),bR.same (aB.refl _)⟩)⟩
   |some go=>
    have el:aG g h b st2=aK g h go st2:=by unfold aG;rw[eg]
    rw[eg,el]at k';obtain⟨mg,_,_⟩:=Bl eg;exact⟨_,rfl,_,rfl,fK rfl ⟨_,rfl,A.p,tW,_,rfl,xF,au ..,_,rfl,_,rfl,A,g,st2,jX,_,h,go,rfl,R3,g3,hh,mg,B0.inc h go hh mg,by lia,λH4 rF R4 p4=>k' _ _ ⟨rfl,rF,R4,p4⟩⟩⟩
  rintro _ G ⟨rfl,iG,R4,p4⟩;obtain⟨zL,g4⟩:=R4.ob;have b2:b∈((aG g h b st2).at_ 2).seq:=by rw[Le 2 (by lia)];exact Xb
  refine⟨_,rfl,A.p,zL,_,rfl,g4,au ..,_,rfl,_,rfl,_,rfl,A.p,zL,_,rfl,g4,au ..,_,rfl,A,g,_,iG,_,2,b,rfl,R4,by lia,λ_=>b2,b0,b1,λlw H5 oV s5 ew=>?_⟩;have R5:=R4.same s5;have Mx:Bh g (aG g h b st2) 2 b=((aG g h b st2).at_ 2).wd b:=afn (by lia);rw[Mx]at ew;exact⟨A,g,_,iG,_,h,b,lw,_,rfl,R5,by lia,λz=>m2 (BO b z),bU,rf,ew,R4.fresh oV,((R4.mj (k:=2) (by lia)).2.1 b b2).2,by lia,λH6 os6 R6 p6=>q _ _ (R6.le (by lia)) ((((p1.trans p2).trans (bR.same s3)).trans p4).trans ((bR.same s5).trans p6))⟩
structure qH(K:W.Frag)(H:Hp)(A:TA)(g:aP)(st:ao)(os:OS):Prop where
 at_:aa K H A g st os 0
 ok:aL g st
theorem qH.frame{H H':Hp}{A:TA}{g:aP}{st:ao}{os:OS}(r:qH K H A g st os)(f:∀x o,H x=some o->(OW A os x\/¬Mt o)->H' x=some o):qH K H' A g st os:=⟨r.at_.frame f,r.ok⟩
theorem qH.same{H H':Hp}{A:TA}{g:aP}{st:ao}{os:OS}(r:qH K H A g st os)(s:aB H H'):qH K H' A g st os:=⟨r.at_.same s,r.ok⟩
inductive sO(K:W.Frag)(vs:List V)(H:Hp)(Q:VK)(_v3:XK):Prop
 |mk (A:TA) (g:aP) (st:ao) (os:OS) (h:Nat) (sp:Int):vs=[.ref A.p,.int (h:Int),.int sp]->qH K H A g st os->h<2->sp/g.size∈g.U->(∀H' e' os' tp,H' tp=some (.tup [.int (mO g ((bH g h (sp/g.size) st).at_ h) sp),.ref A.ev])->qH K H' (A.re e') g (fq (bH g h (sp/g.size) st)) os'->uY g.n H' A.ev (bH g h (sp/g.size) st).ev->(bH g h (sp/g.size) st).ev.length<=100->¬OW (A.re e') os' A.ev->bR (OW A os) H H' (OW (A.re e') os')->Q (.ref tp) H')->sO K vs H Q _v3
example:(kM Em tK AN Es wG):=by
 obtain ⟨A,g,st,os,h,sp,rfl,⟨R,ok⟩,hh,bU,q⟩:=h;refine⟨_,(Zd (Zo (Zj AN hr.m T.aM (pv 0) (pc (pv 1) (pc (Zl tK hr.m rfl (pc (Zk (K:=K) rfl (pv 0) rfl) (pc (pv 2) Zb))) Zb))))
   (Zh (Zs (ZI (pc (Zj Es hr.m T.aM (pv 0) (pc (pv 1) (pc (pv 2) Zb))) (pc (ZV wG hr.m T.aM (pv 0)) Zb)))))),?_⟩
 obtain⟨dx,h1⟩:=R.ob;have z0:=R.wf.z0;have z1:=R.wf.z1;have g3:=ok.n3;obtain⟨o1,m1⟩:=ok.bH (b:=sp/g.size) hh;refine⟨_,rfl,A.p,dx,_,rfl,h1,au ..,_,rfl,_,rfl,A.p,_,dx,_,_,rfl,h1,T.aM,T.BF,D6 ..,_,rfl,g.size,sp,rfl,by lia,by lia,A,g,st,os,0,h,_,rfl,R,ok,hh,bU,by decide,λH1 bS R1 p1=>?_⟩;obtain⟨cS,h2⟩:=R1.ob;refine⟨_,rfl,A.p,cS,_,rfl,h2,au ..,_,rfl,_,rfl,A,g,_,bS,_,h,sp,rfl,R1,by lia,m1,λH2 s2=>?_⟩;have R2:=R1.same s2;refine⟨_,rfl,A.p,cS,_,rfl,s2 _ _ h2,au ..,A,g,_,bS,_,rfl,R2,λe' H3 R3 zJ ne3 p3=>⟨(sL 2),λtp htp=>?_⟩⟩;have s4:=Ze htp (.tup [.int (mO g ((bH g h (sp/g.size) st).at_ h) sp),.ref A.ev]);exact q _ e' bS tp Za ⟨R3.same s4,o1.fq⟩ (zJ.frame (λo e=>s4 _ _ e) λx ys e=>s4 _ _ e) (a0n R1.zG (by decide)) ne3 (((p1.trans (bR.same s2)).trans p3).trans (bR.same s4))
theorem aL.UW{g:aP}{st:ao}{h:Nat}{sp x:Int}(ok:aL g st)(hh:h<2):aL g (lF g h sp x st):=by
 obtain⟨o1,m1⟩:=ok.bH (b:=sp/g.size) hh;obtain⟨o2,m2⟩:=o1.bw (b:=sp/g.size) hh;have s:=D3 (st:=aj.bw h (sp/g.size) (aj.bH g h (sp/g.size) st)) (k:=h) (s:=kE g ((aj.bw h (sp/g.size) (aj.bH g h (sp/g.size) st)).at_ h) sp x) rfl λ_ z=>.inl z;exact(o2.sq s).mark hh (by rw[s.sq,m2];exact m1)
inductive o7(K:W.Frag)(vs:List V)(H:Hp)(Q:VK)(_v3:XK):Prop
 |mk (A:TA) (g:aP) (st:ao) (os:OS) (h:Nat) (sp x:Int):vs=[.ref A.p,.int (h:Int),.int sp,.int x]->qH K H A g st os->h<2->sp/g.size∈g.U->(∀H' e' os',qH K H' (A.re e') g (fq (lF g h sp x st)) os'->uY g.n H' A.ev (lF g h sp x st).ev->(lF g h sp x st).ev.length<=100->¬OW (A.re e') os' A.ev->bR (OW A os) H H' (OW (A.re e') os')->Q (.ref A.ev) H')->o7 K vs H Q _v3
example:(jJ Ep tK AN tL rE Eu AL tP wH wG):=by
 obtain ⟨A,g,st,os,h,sp,x,rfl,⟨R,ok⟩,hh,bU,q⟩:=h;refine⟨_,(Zd (dw 4 nd (Zl tK hr.m rfl (pc (Zk (K:=K) rfl (pv 0) rfl) (pc (pv 2) Zb))))
   (Zd (dw 5 nd (ak zQ Zi (pv 1)))
   (Zd (Zo (Zj AN hr.m T.aM (pv 0) (pc (pv 1) (pc (pv 4) Zb))))
   (Zd (aI (ZC (Zj tL hr.m T.dH (av (Zn (K:=K) rfl) (Zk (K:=K) rfl (pv 0) rfl) (pv 5) (λ_ _=>rfl)) (pc (pv 4) Zb))) (Zh (Zo (Zj rE hr.m T.aM (pv 0) (pc (pv 5) (pc (pv 4) Zb))))) Zt)
   (Zd (Zo (Zj Eu hr.m T.aM (pv 0) (pc (pv 1) (pc (pv 2) (pc (pv 3) Zb)))))
   (Zd (dw 6 nd (av (Zn (K:=K) rfl) (Zk (K:=K) rfl (pv 0) rfl) (pv 1) (λ_ _=>rfl)))
   (Zd (aI (ZC (Zk (K:=K) rfl (pv 6) rfl)) (Zh (Zo (Zj AL hr.m T.dH (pv 6) (pc (pv 4) Zb)))) (Zh (Zo (Zj wH hr.m T.aM (pv 0) (pc (pv 4) (pc (Zj tP hr.m T.dH (pv 6) (pc (pv 4) Zb)) Zb))))))
   (Zh (Zs (ZV wG hr.m T.aM (pv 0))))))))))),?_⟩
 obtain⟨dx,h1⟩:=R.ob;have z0:=R.wf.z0;have z1:=R.wf.z1;have g3:=ok.n3;have ln:=R.ln;have Lr:=ok.UW (sp:=sp) (x:=x) hh;obtain⟨o1,m1⟩:=ok.bH (b:=sp/g.size) hh;have eh:(1-(h:Int))=((1-h:Nat):Int):=by lia
 refine⟨_,rfl,A.p,_,dx,_,_,rfl,h1,T.aM,T.BF,D6 ..,_,rfl,g.size,sp,rfl,by lia,by lia,gN ?_⟩;try dsimp only
 refine⟨_,rfl,_,_,rfl,rfl,gN ?_⟩;try dsimp only
 rw[eh];refine hide λu1 e1=>?_;refine⟨_,rfl,A.p,dx,_,rfl,h1,au ..,_,rfl,_,rfl,A,g,st,os,0,h,_,rfl,R,ok,hh,bU,by decide,λH1 bS R1 p1=>?_⟩;subst e1;try dsimp only
 unfold lF at q Lr;generalize bH g h (sp/g.size) st=st1 at *;obtain⟨cS,g1⟩:=R1.ob;obtain⟨a,e1,e2,e3,B⟩:=R1.at_ (k:=1-h) (by lia);obtain⟨ds,h3⟩:=B.aW.ob;obtain⟨o2,m2⟩:=o1.bw (b:=sp/g.size) hh;refine CJ (λσ G=>σ=[some (.ref A.p),some (.int (h:Int)),some (.int sp),some (.int x),some (.int (sp/g.size)),some (.int ((1-h:Nat):Int)),none]/\∃jX,aa K G A g (bw h (sp/g.size) st1) jX 13/\bR (OW A bS) H1 G (OW A jX)) (λD' _ k'=>?_) ?_
 .refine ⟨_,rfl,A.p,_,cS,_,_,rfl,g1,T.aM,T.pZ,Zv ..,_,rfl,A.ss,_,_,_,rfl,rfl,az.of R1.ss,aa.ix e1,a.sp,ds,_,rfl,h3,bW ..,_,rfl,a,_,_,_,_,rfl,B,_,rfl,?_⟩;unfold bw at k';by_cases m:sp/g.size∈(st1.at_ (1-h)).seq
  .rw [aaU m]at k';exact fK (a5U m) ⟨_,rfl,A.p,cS,_,rfl,g1,au ..,_,rfl,_,rfl,A,g,_,bS,_,1-h,_,rfl,R1,by lia,m,by decide,λH2 jX t l et el nl R2 p2=>k' _ _ ⟨rfl,jX,R2,p2⟩⟩
  .rw [afn m]at k';exact cO (a4I m) (k' _ _ ⟨rfl,bS,R1.le (by decide),bR.same (aB.refl _)⟩)
 rintro _ G ⟨rfl,jX,R2,p2⟩;have mh:sp/g.size∈((bw h (sp/g.size) st1).at_ h).seq:=by rw[m2];exact m1
 generalize bw h (sp/g.size) st1=st2 at *;obtain⟨l5,g2⟩:=R2.ob;refine⟨_,rfl,A.p,l5,_,rfl,g2,au ..,_,rfl,_,rfl,_,rfl,A,g,st2,jX,_,h,sp,x,rfl,R2,by lia,mh,λH3 iG R3 p3=>?_⟩;have K4:∀j,((st2.set h (kE g (st2.at_ h) sp x)).at_ j).seq=(st2.at_ j).seq:=λj=>MQ rfl;have AY:aL g (st2.set h (kE g (st2.at_ h) sp x)):=o2.sq (D3 (s:=kE g (st2.at_ h) sp x) rfl λ_ z=>.inl z);have Ja:sp/g.size∈((st2.set h (kE g (st2.at_ h) sp x)).at_ h).seq:=by rw[K4];exact mh
 have Vx:=(p1.trans p2).trans p3;dsimp only at q Lr;generalize st2.set h (kE g (st2.at_ h) sp x)=st3 at *;obtain⟨tW,g4⟩:=R3.ob;obtain⟨a,e1,e2,e3,B⟩:=R3.at_ (k:=h) (by lia);obtain⟨u1,u2,u3,u4,u5,u6⟩:=R3.mj (k:=h) (by lia);obtain⟨ds,h3⟩:=B.aW.ob;refine⟨_,rfl,A.p,_,tW,_,_,rfl,g4,T.aM,T.pZ,Zv ..,_,rfl,A.ss,_,_,_,rfl,rfl,az.of R3.ss,aa.ix e1,gN ?_⟩;try dsimp only
 refine CJ (λσ G=>σ=[some (.ref A.p),some (.int (h:Int)),some (.int sp),some (.int x),some (.int (sp/g.size)),some (.int ((1-h:Nat):Int)),some (.ref a.sp)]/\∃rF,aa K G A g (markB g h (sp/g.size) st3) rF 20/\bR (OW A iG) H3 G (OW A rF)) (λD' _ k'=>?_) ?_
 .refine ⟨_,rfl,a.sp,_,ds,_,_,rfl,h3,T.dH,T.LU,Rj ..,_,rfl,?_⟩;unfold markB at k';by_cases c:(g.cf h).late=true
  .rw [aaU c]at k';refine fK c ⟨_,rfl,a.sp,ds,_,rfl,h3,bW ..,_,rfl,a,_,_,_,_,rfl,B,Ja,u1,λG3 B3 p3=>?_⟩;obtain⟨R4,p4⟩:=R3.iz e1 e2 B3 p3 u2 u3;exact k' _ _ ⟨rfl,_,R4.le (by decide),p4⟩
  .rw [afn c]at k';refine cO (by simpa using c) ⟨_,rfl,A.p,tW,_,rfl,g4,au ..,_,rfl,_,rfl,a.sp,ds,_,rfl,h3,bW ..,_,rfl,a,_,_,_,_,rfl,B,Ja,λl hl=>?_⟩;have sm:=Ze hl (.lst (((st3.at_ h).wd (sp/g.size)).map V.int));exact⟨A,g,st3,iG,_,_,l,_,rfl,R3.same sm,g3,AY.inc h _ hh Ja,Za,R3.fresh hl,(u2 _ Ja).2,by decide,λG2 rF R4 p4=>k' _ _ ⟨rfl,rF,R4.le (by decide),(bR.same sm).trans p4⟩⟩
 rintro _ G ⟨rfl,rF,R4,p4⟩;obtain⟨zL,g5⟩:=R4.ob;exact⟨_,rfl,A.p,zL,_,rfl,g5,au ..,A,g,_,rF,_,rfl,R4,λe' H5 R5 Xd ne5 p5=>q _ e' rF ⟨R5,Lr.fq⟩ Xd (a0n R4.zG (by decide)) ne5 ((Vx.trans p4).trans p5)⟩
inductive AB(K:W.Frag)(vs:List V)(H:Hp)(Q:VK)(E:XK):Prop
 |mk (p:Addr) (sh pl:Int) (ru:Str) (ls:Addr) (aq:List Addr) (du:Addr) (seq:List Int) (us:Int->Int) (n:Nat):vs=[.ref p]->aD K H p sh pl ru ls aq du seq us n->seq.length<64->(∀(D:Addr)(os:List Int),H D=none->os.Perm seq->os.Pairwise (·<=·)->Q (.ref D) (upd H D (.lst (os.map V.int))))->AB K vs H Q E
example:(kK En):=by
 obtain⟨p,sh,pl,ru,ls,aq,du,seq,us,n,rfl,R,h64,k⟩:=h;refine⟨_,(Zh (Zs (Zp (S7 rfl) rfl T.Al ao6 (pc (Zk (K:=K) rfl (pv 0) rfl) Zb)))),?_⟩;obtain⟨dx,h1⟩:=R.ob;obtain⟨kvs,h2,⟨h3,ks,h4,h5⟩,h6⟩:=R.dc;have per:ks.Perm seq:=by
  refine(bbm h5 R.nd).mpr λb=>?_;have q:=CZ (kvs:=kvs) (Sum.inl b);rw[h6 b,h4]at q;constructor
  .intro m;have:=q.mpr (ac1 m);by_cases c:b∈seq
   .exact c
   .rw [afn c]at this;cases this
  .intro m;rw[aaU m]at q;obtain⟨x,hx,e⟩:=awR.mp (q.mp rfl);rw[<-aKC e];exact hx
 exact⟨_,rfl,p,_,dx,_,_,rfl,h1,T.fj,T.BE,D7 ..,du,kvs,ks,rfl,h2,h4,by rw[per.length_eq];exact h64,λD os hD po pw=>k D os hD (po.trans per) pw⟩
inductive vS(K:W.Frag)(vs:List V)(H:Hp)(Q:VK)(E:XK):Prop
 |mk (A:TA) (g:aP) (st:ao) (os:OS) (n k:Nat):vs=[.ref A.p,.int (k:Int)]->aa K H A g st os n->k<g.n->(st.at_ k).seq.length<64->(∀(D:Addr)(bs:List Int),H D=none->bs.Perm (st.at_ k).seq->bs.Pairwise (·<=·)->Q (.ref D) (upd H D (.lst (bs.map V.int))))->vS K vs H Q E
example:(lQ tM wF En):=by
 obtain⟨A,g,st,os,n,k,rfl,R,hk,h64,q⟩:=h;refine⟨_,(Zh (Zs (ZV En hr.m T.fj (Zk (K:=K) rfl (Zj wF hr.m T.aM (pv 0) (pc (pv 1) Zb)) rfl)))),?_⟩;obtain⟨dx,h1⟩:=R.ob;have ln:=R.ln;obtain⟨a,e1,e2,e3,B⟩:=R.at_ (k:=k) (by lia);obtain⟨ds,h3⟩:=B.aW.ob;obtain⟨dr,h4⟩:=B.aW.room.ob;exact⟨_,rfl,A.p,dx,_,rfl,h1,au ..,_,rfl,A,g,st,os,n,k,a,rfl,R,e1,a.sp,_,ds,_,_,rfl,h3,T.dH,T.AQ,CY ..,a.rp,dr,_,rfl,h4,bT ..,a.rp,(g.cf k).sh,(g.cf k).pl,(g.cf k).ru,a.ls,a.aq,a.du,(st.at_ k).seq,(st.at_ k).us,_,rfl,B.aW.room,h64,q⟩
def uv(l:List Int):List Int:=l.mergeSort λa b=>decide (a<=b)
theorem QB{bs l:List Int}(p:bs.Perm l)(w:bs.Pairwise (·<=·)):bs=uv l:=by
 have w':(uv l).Pairwise (·<=·):=(List.pairwise_mergeSort (le:=λa b:Int=>decide (a<=b)) (λa b c h1 h2=>a5U (aaK (of_decide_eq_true h1) (of_decide_eq_true h2))) (λa b=>by rcases Int.le_total a b with h|h <;> simp[h]) l).imp λh=>of_decide_eq_true h;exact aGv (λa b _ _ h1 h2=>Int.le_antisymm h1 h2) w w' (p.trans (List.mergeSort_perm _ _).symm)
theorem J9{l:List Int}:(uv l).Perm l:=List.mergeSort_perm _ _
def iw(g:aP)(o:Int)(st:ao):ao:=if(st.at_ 2).fr o=true then bD g g.n o ((st.at_ 2).wd o) (aZ 2 o st) else aZ 2 o st
def k6(g:aP)(h:Nat):List Int->ao->ao
 | [],st=>st
 |b ::bs,st=>k6 g h bs (aK g h b st)
def kZ(g:aP):List Int->ao->ao
 | [],st=>st
 |b ::bs,st=>kZ g bs (iw g b st)
def cz(g:aP)(st:ao):Nat->ao
 |0=>st
 |h+1=>k6 g h (uv ((cz g st h).at_ h).seq) (cz g st h)
def fM(g:aP)(st:ao):ao:=kZ g (uv ((cz g st 2).at_ 2).seq) (cz g st 2)
section
variable{g:aP}{st:ao}{h j:Nat}{b o:Int}
theorem aL.aK(w:aL g st)(hh:h<2)(ho:o∈(st.at_ h).seq):aL g (aK g h o st)/\∀j,((aj.aK g h o st).at_ j).seq=if j=h then(st.at_ j).seq.erase o else(st.at_ j).seq:=by
 have s:=Nn (g:=g) w hh (w.inc h o hh ho);exact⟨(w.go hh).sq s,λj=>by rw[s.sq];exact bF (by rw[w.len];lia)⟩
theorem aL.k6(hh:h<2):∀{bs:List Int}{st:ao},aL g st->bs.Perm (st.at_ h).seq->aL g (k6 g h bs st)/\∀j,((aj.k6 g h bs st).at_ j).seq=if j=h then[] else(st.at_ j).seq
 | [],st,w,p=>⟨w,λj=>by
  split
  .rename_i e;rw[e];exact p.symm.eq_nil
  .rfl⟩
 |b ::bs,st,w,p=>by
  have hb:b∈(st.at_ h).seq:=p.mem_iff.mp aTL;obtain⟨w1,s1⟩:=w.aK hh hb;have q:bs.Perm ((aj.aK g h b st).at_ h).seq:=by
   rw[s1,aaU rfl];have:=p.erase b;rwa [aen]at this
  obtain⟨w2,s2⟩:=aL.k6 hh (bs:=bs) w1 q;refine⟨w2,λj=>(s2 j).trans ?_⟩;rw[s1];by_cases c:j=h
  .rw [aaU c,aaU c]
  .rw [afn c,afn c,afn c]
theorem aL.cz(w:aL g st):∀{k:Nat},k<=2->aL g (cz g st k)/\∀j,((aj.cz g st k).at_ j).seq=if j<k then[] else(st.at_ j).seq
 |0,_=>⟨w,λj=>by rw[afn (Nat.not_lt_zero _)];rfl⟩
 |k+1,hk=>by
  obtain⟨w1,s1⟩:=w.cz (k:=k) (by lia);obtain⟨w2,s2⟩:=w1.k6 (h:=k) (by lia) J9;refine⟨w2,λj=>(s2 j).trans ?_⟩;by_cases c:j=k
  .rw [aaU c,aaU (by lia)]
  .rw [afn c,s1];by_cases c2:j<k
   .rw [aaU c2,aaU (by lia)]
   .rw [afn c2,afn (by lia)]
theorem JR(w:aL g st)(n0:∀h,h<2->(st.at_ h).seq=[]):aL g (iw g o st)/\∀j,((iw g o st).at_ j).seq=if j=2 then(st.at_ j).seq.erase o else(st.at_ j).seq:=by
 have hl:2<st.rm.length:=by rw[w.len];lia
 have s:Sq (aZ 2 o st) (iw g o st):=by
  unfold iw;split
  .exact bO
  .exact Sq.refl
 have k:aL g (aZ 2 o st):=by
  refine⟨w.n3,bA.trans w.len,λk=>?_,λh y hh hy=>?_,λk y hy=>?_⟩
  .rw [bF hl];split
   .exact (w.nd k).erase _
   .exact w.nd k
  .rw [bF hl,afn (by lia),n0 h hh]at hy;cases hy
  .obtain ⟨h1,h2⟩:=ni hl hy;rw[bF hl];split
   .rename_i e;exact(mem_erase_of_ne (h2 e)).mpr (w.ff k y h1)
   .exact w.ff k y h1
 exact⟨k.sq s,λj=>by rw[s.sq];exact bF hl⟩
theorem Q6:∀{bs:List Int}{st:ao},aL g st->(∀h,h<2->(st.at_ h).seq=[])->bs.Perm (st.at_ 2).seq->aL g (kZ g bs st)/\∀j,((kZ g bs st).at_ j).seq=if j<3 then[] else(st.at_ j).seq
 | [],st,w,n0,p=>⟨w,λj=>by
  split
  .by_cases c:j=2
   .rw [c];exact p.symm.eq_nil
   .exact n0 j (by lia)
  .rfl⟩
 |b ::bs,st,w,n0,p=>by
  obtain⟨w1,s1⟩:=JR (o:=b) w n0;have q:bs.Perm ((iw g b st).at_ 2).seq:=by
   rw[s1,aaU rfl];have:=p.erase b;rwa [aen]at this
  obtain⟨w2,s2⟩:=Q6 (bs:=bs) w1 (λh hh=>by rw[s1,afn (by lia)];exact n0 h hh) q;refine⟨w2,λj=>(s2 j).trans ?_⟩;by_cases c:j<3
  .rw [aaU c,aaU c]
  .rw [afn c,afn c,s1,afn (by lia)]
theorem JQ(w:aL g st):aL g (fM g st)/\∀j,j<3->((fM g st).at_ j).seq=[]:=by
 obtain⟨w1,s1⟩:=w.cz (k:=2) (ags _);obtain⟨w2,s2⟩:=Q6 w1 (λh hh=>by rw[s1,aaU hh]) J9;exact⟨w2,λj hj=>by show((kZ g _ _).at_ j).seq=[];rw[s2,aaU hj]⟩
end
theorem aa.few{H:Hp}{A:TA}{g:aP}{st:ao}{os:OS}{n:Nat}(T:aa K H A g st os n){k:Nat}(hk:k<g.n)(hU:g.U.length<64):(st.at_ k).seq.length<64:=by
 have ln:=T.ln;obtain⟨a,e1,e2,e3,B⟩:=T.at_ (k:=k) (by lia);have nd:(st.at_ k).seq.Nodup:=B.aW.room.nd;exact aq5 (CM nd λx hx=>T.vD _ (bcc e3) x hx) hU
inductive vX(K:W.Frag)(vs:List V)(H:Hp)(Q:VK)(_v3:XK):Prop
 |mk (A:TA) (g:aP) (st:ao) (os:OS):vs=[.ref A.p]->qH K H A g st os->g.U.length<64->(∀H' e' os',qH K H' (A.re e') g (fq (fM g st)) os'->uY g.n H' A.ev (fM g st).ev->(fM g st).ev.length<=2000->¬OW (A.re e') os' A.ev->bR (OW A os) H H' (OW (A.re e') os')->Q (.ref A.ev) H')->vX K vs H Q _v3
example:(ig DE tM AO rE vd wG):=by
 obtain ⟨A,g,st,os,rfl,⟨R,ok⟩,hU,q⟩:=h;refine⟨_,(Zd (yu aUe rfl (JY (K:=K) rfl (Sa (K:=K) rfl T.Jo rfl)) (cu 1 nd) (Zh (yu aUe rfl (Ef (K:=K) rfl (Zj tM hr.m T.aM (pv 0) (pc (pv 1) Zb))) (cu 2 nd) (Zh (Zo (Zj AO hr.m T.aM (pv 0) (pc (pv 1) (pc (pv 2) Zb))))))))
   (Zd (yu aUe rfl (Ef (K:=K) rfl (Zj tM hr.m T.aM (pv 0) (pc (ZT T.uh rfl) Zb))) (cu 2 nd) (Zd (qV (Zj rE hr.m T.aM (pv 0) (pc (ZT T.uh rfl) (pc (pv 2) Zb))) (ZQ (K:=K) (n:=2) rfl rfl (Zq (cu 3 nd) (Zq (cu 4 nd) ZO))))
   (Zh (aI (ZC (pv 4)) (Zh (Zo (Zj vd hr.m T.aM (pv 0) (pc (Zk (K:=K) rfl (pv 0) rfl) (pc (pv 2) (pc (pv 3) Zb)))))) Zt))))
   (Zh (Zs (ZV wG hr.m T.aM (pv 0)))))),?_⟩
 have ln:=R.ln;have g3:=ok.n3;refine hide λu1 e1=>?_;refine λhd CF=>⟨hd,rfl,⟨_,CF _⟩,Nk (K:=K) (a:=hd) (xs:=([0,1]:List Int).map V.int) (λi σ G=>∃(v1 v2 v3 v4:Option V)(os':OS),σ=[some (.ref A.p),v1,v2,v3,v4]/\aa K G A g (cz g st i) os' (300*i)/\bR (OW A os) H G (OW A os')) ⟨_,_,_,_,os,rfl,R,bR.same (aB.refl _)⟩ (λi σ G _ _=>CF _) ?_ ?_⟩
 .rintro i x σ G hi ⟨v1,v2,v3,v4,bS,rfl,R1,p1⟩;have hi2:i<2:=(aB9.mp hi).1;have hx:x=.int (i:Int):=by
   have h:i=0\/i=1:=by lia
   rcases h with rfl|rfl
   .exact (a9h hi).symm
   .exact (a9h hi).symm
  subst hx;obtain⟨Vz,_⟩:=ok.cz (k:=i) (by lia);refine gN ?_;try dsimp only
  obtain⟨cS,g1⟩:=R1.ob;refine⟨_,rfl,A.p,cS,_,rfl,g1,au ..,_,rfl,A,g,cz g st i,bS,_,i,rfl,R1,by lia,R1.few (by lia) hU,λD bs hD pb pw=>⟨D,rfl,⟨_,az.of Za⟩,?_⟩⟩;have n64:bs.length<64:=by rw[pb.length_eq];exact R1.few (by lia) hU
  have eb:=QB pb pw;have s2:=Ze hD (.lst (bs.map V.int));have eD:=Za (H:=G) (a:=D) (o:=.lst (bs.map V.int));have R2:=R1.same s2;have p2:=p1.trans (bR.same s2);have nD:=R1.fresh hD;have eK:k6 g i bs (cz g st i)=cz g st (i+1):=by show _=k6 g i (uv _) _;rw[<-eb]
  generalize upd G D (.lst (bs.map V.int))=G2 at *;refine RQ (K:=K) (a:=D) (xs:=bs.map V.int) (λj σ G'=>∃(v2 v3 v4:Option V)(os':OS)(s':ao),σ=[some (.ref A.p),some (.int (i:Int)),v2,v3,v4]/\aa K G' A g s' os' (300*i+3*j)/\aL g s'/\k6 g i (bs.drop j) s'=cz g st (i+1)/\(bs.drop j).Perm (s'.at_ i).seq/\bR (OW A os) H G' (OW A os')/\G' D=some (.lst (bs.map V.int))/\¬OW A os' D)
   ⟨_,_,_,bS,cz g st i,rfl,R2,Vz,eK,pb,p2,eD,nD⟩ (λj σ G' _ h=>by obtain⟨_,_,_,_,_,_,_,_,_,_,_,e,_⟩:=h;exact az.of e) ?_ ?_
  .rintro j x σ G3 hx ⟨v2,v3,v4,iG,s',rfl,R3,AY,e3,yX,p3,MA,LD⟩;obtain⟨b,GW,rfl⟩:=JV hx;have hj:j<bs.length:=(aB9.mp GW).1;have ed:bs.drop j=b ::bs.drop (j+1):=by
    rw[aKV hj];congr 1
    exact(aB9.mp GW).2
   rw[ed]at e3 yX;have hb:b∈(s'.at_ i).seq:=yX.mem_iff.mp aTL;obtain⟨tW,xF⟩:=R3.ob;obtain⟨BZ,s4⟩:=AY.aK hi2 hb;refine gN ?_;try dsimp only
   refine⟨_,rfl,A.p,tW,_,rfl,xF,au ..,_,rfl,_,rfl,A,g,s',iG,_,i,b,rfl,R3,g3,hi2,hb,AY.inc i b hi2 hb,by lia,λH4 rF R4 p4=>?_⟩;have CG:=p4.out MA LD;have AW:(bs.drop (j+1)).Perm ((aK g i b s').at_ i).seq:=by
    rw[s4,aaU rfl];have:=yX.erase b;rwa [aen]at this
   exact⟨_,_,_,rF,_,rfl,R4.le (by lia),BZ,e3,AW,p3.trans p4,CG.1,CG.2⟩
  .rintro σ G3 ⟨v2,v3,v4,iG,s',rfl,R3,AY,e3,yX,p3,_⟩;rw[axO,List.drop_length]at e3;have e3:s'=cz g st (i+1):=e3;subst e3;rw[axO]at R3;exact⟨_,_,_,_,iG,rfl,R3.le (by lia),p3⟩
 rintro σ G ⟨v1,v2,v3,v4,bS,rfl,R1,p1⟩;subst e1;try dsimp only
 have R1:aa K G A g (cz g st 2) bS 600:=R1;obtain⟨B0,Vc⟩:=ok.cz (k:=2) (ags _);have V2:∀h,h<2->((cz g st 2).at_ h).seq=[]:=λh hh=>by rw[Vc,aaU hh]
 obtain⟨Ls,_⟩:=JQ ok;unfold fM at q Ls;generalize cz g st 2=st2 at *;obtain⟨cS,g1⟩:=R1.ob;refine hide λu1 e1=>?_;refine⟨_,rfl,A.p,cS,_,rfl,g1,au ..,A,g,st2,bS,_,2,rfl,R1,by lia,R1.few (by lia) hU,λD bs hD pb pw=>⟨D,rfl,⟨_,az.of Za⟩,?_⟩⟩;have n64:bs.length<64:=by rw[pb.length_eq];exact R1.few (by lia) hU
 have eb:=QB pb pw;have s2:=Ze hD (.lst (bs.map V.int));have eD:=Za (H:=G) (a:=D) (o:=.lst (bs.map V.int));have R2:=R1.same s2;have p2:=p1.trans (bR.same s2);have nD:=R1.fresh hD;rw[<-eb]at q Ls;generalize upd G D (.lst (bs.map V.int))=G2 at *;refine RQ (K:=K) (a:=D) (xs:=bs.map V.int) (λj σ G'=>∃(v2 v3 v4:Option V)(os':OS)(s':ao),σ=[some (.ref A.p),v1,v2,v3,v4]/\aa K G' A g s' os' (600+2*j)/\aL g s'/\(∀h,h<2->(s'.at_ h).seq=[])/\kZ g (bs.drop j) s'=kZ g bs st2/\(bs.drop j).Perm (s'.at_ 2).seq/\bR (OW A os) H G' (OW A os')/\G' D=some (.lst (bs.map V.int))/\¬OW A os' D)
  ⟨_,_,_,bS,st2,rfl,R2,B0,V2,rfl,pb,p2,eD,nD⟩ (λj σ G' _ h=>by obtain⟨_,_,_,_,_,_,_,_,_,_,_,_,e,_⟩:=h;exact az.of e) ?_ ?_
 .rintro j x σ G3 hx ⟨v2,v3,v4,iG,s',rfl,R3,AY,LG,e3,yX,p3,MA,LD⟩;obtain⟨b,GW,rfl⟩:=JV hx;have hj:j<bs.length:=(aB9.mp GW).1;have ed:bs.drop j=b ::bs.drop (j+1):=by
   rw[aKV hj];congr 1
   exact(aB9.mp GW).2
  rw[ed]at e3 yX;have hb:b∈(s'.at_ 2).seq:=yX.mem_iff.mp aTL;have lS3:=R3.lS;obtain⟨_,u2,_,_,_,_⟩:=R3.mj (k:=2) (by lia);obtain⟨bU,bl⟩:=u2 b hb;obtain⟨tW,xF⟩:=R3.ob;obtain⟨BZ,s4⟩:=JR (o:=b) AY LG;have AW:(bs.drop (j+1)).Perm ((iw g b s').at_ 2).seq:=by
   rw[s4,aaU rfl];have:=yX.erase b;rwa [aen]at this
  have FQ:∀h,h<2->((iw g b s').at_ h).seq=[]:=λh hh=>by rw[s4,afn (by lia)];exact LG h hh
  have e4:kZ g (bs.drop (j+1)) (iw g b s')=kZ g bs st2:=e3;refine gN ?_;try dsimp only
  refine hide λw1 x1=>?_;refine⟨_,rfl,A.p,tW,_,rfl,xF,au ..,_,rfl,A,g,s',iG,_,2,b,rfl,R3,by lia,hb,by lia,λH4 rF t l et el nl R4 p4=>⟨t,_,rfl,aU.of et,rfl,_,_,rfl,gN ⟨_,_,rfl,gN ⟨rfl,?_⟩⟩⟩⟩;subst x1;try dsimp only
  have CG:=p4.out MA LD;have Ow:=p3.trans p4;unfold iw at BZ AW FQ e4;cases fr:(s'.at_ 2).fr b with
  |true=>
   rw[aaU fr]at BZ AW FQ e4;obtain⟨zL,g4⟩:=R4.ob;refine⟨_,rfl,_,rfl,fK rfl ⟨_,rfl,A.p,zL,_,rfl,g4,au ..,_,rfl,A.p,_,zL,_,_,rfl,g4,T.aM,T.yT,Bq ..,_,rfl,_,rfl,A,g,_,rF,_,g.n,b,l,_,by rw[ln];rfl,R4,ags _,λh=>absurd h (aiF _),bU,el,nl,bl,by lia,λG5 Oz R5 p5=>?_⟩⟩;have P8:=p5.out CG.1 CG.2;exact⟨_,_,_,Oz,_,rfl,R5.le (by lia),BZ,FQ,e4,AW,Ow.trans p5,P8.1,P8.2⟩
  |false=>
   rw[afn (by rw[fr];exact a7q)]at BZ AW FQ e4;exact⟨_,rfl,_,rfl,cO rfl ⟨_,_,_,rF,_,rfl,R4.le (by lia),BZ,FQ,e4,AW,Ow,CG.1,CG.2⟩⟩
 .rintro σ G3 ⟨v2,v3,v4,iG,s',rfl,R3,AY,LG,e3,yX,p3,_⟩;rw[axO,List.drop_length]at e3;have e3:s'=kZ g bs st2:=e3;subst e3;rw[axO]at R3;subst e1;try dsimp only
  obtain⟨tW,xF⟩:=R3.ob;exact⟨_,rfl,A.p,tW,_,rfl,xF,au ..,A,g,_,iG,_,rfl,R3,λe' H4 R4 Xe ne4 p4=>q _ e' iG ⟨R4,Ls.fq⟩ Xe (a0n R3.zG (by lia)) ne4 (p3.trans p4)⟩
theorem Yu{a b s k:Int}(hs:0<s)(k0:0<=k)(k1:k<s)(h1:b*s<=a*s+k)(h2:a*s+k<b*s+s):a=b:=by
 have e1:∀x y:Int,x+1<=y->x*s+s<=y*s:=λx y h=>by
  have q:=Int.mul_le_mul_of_nonneg_right h (Int.le_of_lt hs);rw[Int.add_mul,Int.one_mul]at q;exact q
 by_cases c:a<b
 .have:=e1 a b c;lia
 .by_cases d:b<a
  .have:=e1 b a d;lia
  .lia
theorem ZjG{s:Int}{mem:Int->Int}{b y:Int}{ws:List Int}(hs:0<s)(h:y≠b):aO s (jK s mem b ws) y=aO s mem y:=by
 unfold aO;refine aHS λk hk=>?_;have hk:=ayn.mp hk;unfold jK gu;rw[afn];rintro⟨h1,h2⟩;exact h (Yu hs (Int.natCast_nonneg k) (by lia) h1 (by lia))
theorem yr{s:Int}{mem:Int->Int}{b:Int}:(aO s mem b).length=s.toNat:=by unfold aO;rw[axO,ayq]
theorem J8{s:Int}{mem:Int->Int}{b:Int}{k:Nat}(h:k<s.toNat):(aO s mem b)[k]?=some (mem (b*s+(k:Nat))):=by
 unfold aO;rw[acC,a7b h];rfl
theorem HA{s:Int}{mem:Int->Int}{b:Int}{ws:List Int}(h:ws.length=s.toNat):aO s (jK s mem b ws) b=ws:=by
 apply aAT;intro k;by_cases c:k<s.toNat
 .rw [J8 c];unfold jK gu;rw[aaU (by lia),show(b*s+(k:Nat)-b*s).toNat=k by lia,auG,aun (by lia)];rfl
 .rw [baC (by rw[yr];lia),baC (by lia)]
structure Vw(g:aP)(x:Int)(a b:ao):Prop where
 m:∀j,x∈(b.at_ j).seq↔x∈(a.at_ j).seq
 w:∀j,(b.at_ j).wd x=(a.at_ j).wd x
 f:∀j,(b.at_ j).fr x=(a.at_ j).fr x
 mem:aO g.size b.mem x=aO g.size a.mem x
section
variable{g:aP}{bk:Int->Int}{x y b:Int}{st a c:ao}{k:Nat}{ws:List Int}
theorem Vw.refl:Vw g x st st:=⟨λ_=>Iff.rfl,λ_=>rfl,λ_=>rfl,rfl⟩
theorem Vw.trans{a b c:ao}(p:Vw g x a b)(q:Vw g x b c):Vw g x a c:=⟨λj=>(q.m j).trans (p.m j),λj=>(q.w j).trans (p.w j),λj=>(q.f j).trans (p.f j),q.mem.trans p.mem⟩
theorem CL{s:Rm}(hm:x∈s.seq↔x∈(st.at_ k).seq)(hw:s.wd x=(st.at_ k).wd x)(hf:s.fr x=(st.at_ k).fr x):Vw g x st (st.set k s):=by
 refine⟨λj=>?_,λj=>?_,λj=>?_,rfl⟩ <;> rw[ZG] <;> split
 .rename_i z;rw[z.1];exact hm
 .exact Iff.rfl
 .rename_i z;rw[z.1];exact hw
 .rfl
 .rename_i z;rw[z.1];exact hf
 .rfl
theorem Vw.tell{a b:ao}{e:List V}(v:Vw g x a b):Vw g x a (b.tell e):=⟨v.m,v.w,v.f,v.mem⟩
theorem Hy(hs:0<g.size)(h:x≠b):Vw g x st (bD g k b ws st):=by
 unfold bD;split
 .exact ⟨λ_=>Iff.rfl,λ_=>rfl,λ_=>rfl,ZjG hs h⟩
 .exact (CL (s:=oF (st.at_ k) b ws) Iff.rfl (by show(if x=b then ws else _)=_;rw[afn h]) rfl).tell
theorem RV(h:x≠b):Vw g x st (qD k b st):=CL (s:=GL (st.at_ k) b) Iff.rfl rfl (by show(if x=b then true else _)=_;rw[afn h])
theorem Q5(h:x≠b):Vw g x st (bV k b ws st):=
 (CL (s:=LZ (st.at_ k) b ws) (by show x∈_++[b]↔_;rw[mem_append,mem_singleton];exact⟨λq=>q.resolve_right h,.inl⟩) (by show(if x=b then ws else _)=_;rw[afn h]) rfl).tell
theorem fS(h:x≠b):Vw g x st (aZ k b st):=
 ((Vw.refl (st:=st)).tell (e:=eO k b)).trans (CL (st:=st.tell (eO k b)) (s:=p8 (st.at_ k) b) (mem_erase_of_ne h) rfl (by show(if x=b then false else _)=_;rw[afn h];rfl))
def zP(bk:Int->Int)(sp v:Int):Int->Int:=λs=>if s=sp then v else bk s
theorem Ho{sp v:Int}(hs:0<g.size)(h:y≠sp/g.size):aO g.size (zP bk sp v) y=aO g.size bk y:=by
 unfold aO;refine aHS λk hk=>?_;have hk:=ayn.mp hk;unfold zP;rw[afn];intro z;apply h;rw[<-z,Int.add_comm,bbd _ _ (by lia),ajV (Int.natCast_nonneg k) (by lia),Int.zero_add]
theorem Hq{sp v:Int}(hs:0<g.size):aO g.size (zP bk sp v) (sp/g.size)=(aO g.size bk (sp/g.size)).set (sp%g.size).toNat v:=by
 have m0:0<=sp%g.size:=baD _ (by lia);have m1:sp%g.size<g.size:=a5F _ hs;have dm:=aku sp g.size;rw[Int.mul_comm]at dm;apply aAT;intro k;by_cases c:k<g.size.toNat
 .rw [J8 c];by_cases d:k=(sp%g.size).toNat
  .rw [<-d,ac8 (by rw[yr];exact c)];unfold zP;rw[aaU (by lia)]
  .rw [aTx (ac5 d),J8 c];unfold zP;rw[afn (by lia)]
 .rw [baC (by rw[yr];lia),baC (by rw[ary,yr];lia)]
theorem Q4{sp:Int}(hs:0<g.size):(aO g.size bk (sp/g.size)).getD (sp%g.size).toNat 0=bk sp:=by
 have m0:0<=sp%g.size:=baD _ (by lia);have m1:sp%g.size<g.size:=a5F _ hs;have dm:=aku sp g.size;rw[Int.mul_comm]at dm;rw[auG,J8 (by lia)];show bk _=_;congr 1
 lia
end
structure Lw(g:aP)(bk:Int->Int)(x:Int)(st:ao):Prop where
 nr:∀h,h<2->x∈(st.at_ h).seq->(st.at_ h).wd x=aO g.size bk x
 fa:x∈(st.at_ 2).seq->(∀h,h<2->(st.at_ h).fr x=false)->(st.at_ 2).wd x=aO g.size bk x
 me:(∀h,h<3->(st.at_ h).fr x=false)->aO g.size st.mem x=aO g.size bk x
structure Dn(g:aP)(bk:Int->Int)(x:Int)(st:ao):Prop where
 nr:∀h,h<2->x∈(st.at_ h).seq->(st.at_ h).wd x=aO g.size bk x
 fa:(st.at_ 2).wd x=aO g.size bk x
 me:(st.at_ 2).fr x=true\/aO g.size st.mem x=aO g.size bk x
theorem Dn.lw{g:aP}{bk:Int->Int}{x:Int}{st:ao}(d:Dn g bk x st):Lw g bk x st:=⟨d.nr,λ_ _=>d.fa,λf=>d.me.elim (λz=>by rw[f 2 (by lia)]at z;cases z) id⟩
theorem Vw.lw{g:aP}{bk:Int->Int}{x:Int}{a b:ao}(v:Vw g x a b)(l:Lw g bk x a):Lw g bk x b:=
 ⟨λh hh m=>(v.w h).trans (l.nr h hh ((v.m h).mp m)),λm f=>(v.w 2).trans (l.fa ((v.m 2).mp m) λh hh=>(v.f h).symm.trans (f h hh)),λf=>v.mem.trans (l.me λh hh=>(v.f h).symm.trans (f h hh))⟩
section
variable{g:aP}{bk:Int->Int}{x b o:Int}{st:ao}{h k:Nat}{ws:List Int}
theorem aL.nf(w:aL g st)(n:x∉(st.at_ k).seq):(st.at_ k).fr x=false:=by
 cases e:(st.at_ k).fr x with
 |false=>rfl
 |true=>exact absurd (w.ff k x e) n
theorem JP(hs:0<g.size)(n:x≠b):Vw g x st (bg g b ws st):=by
 unfold bg;split
 .exact (Hy hs n).trans (RV n)
 .exact (Hy hs n).trans (Hy hs n)
theorem M7(w:aL g st)(nr:∀h,h<2->x∈(st.at_ h).seq->(st.at_ h).wd x=aO g.size bk x):Dn g bk x (bg g x (aO g.size bk x) st):=by
 have hl:2<st.rm.length:=by rw[w.len];lia
 have g3:=w.n3;have p2:(bD g 2 x (aO g.size bk x) st).at_ 2=oF (st.at_ 2) x (aO g.size bk x):=by
  unfold bD;rw[afn (by lia),Bp,ao.bI hl,aaU rfl]
 have pl:(bD g 2 x (aO g.size bk x) st).rm.length=st.rm.length:=bO.len;have l2:(oF (st.at_ 2) x (aO g.size bk x)).wd x=aO g.size bk x:=aaU rfl;refine⟨λh hh m=>?_,?_,?_⟩
 .rw [RW (by lia)]at m ⊢;exact nr h hh m
 .unfold bg;split
  .unfold qD;rw[ao.bI (by rw[pl];exact hl),aaU rfl,p2];exact l2
  .rw [AV rfl,p2];exact l2
 .unfold bg;split
  .refine .inl ?_;unfold qD;rw[ao.bI (by rw[pl];exact hl),aaU rfl];exact aaU rfl
  .refine .inr ?_;have e:(bD g g.n x (aO g.size bk x) (bD g 2 x (aO g.size bk x) st)).mem=jK g.size (bD g 2 x (aO g.size bk x) st).mem x (aO g.size bk x):=by
    show(if g.n=g.n then _ else _:ao).mem=_;rw[aaU rfl];rfl
   rw[e];exact HA yr
theorem FW(w:aL g st)(hh:h<2)(f:(st.at_ h).fr x=false)(l:Lw g bk x st):Lw g bk x (aZ h x st):=by
 have hl:h<st.rm.length:=by rw[w.len];lia
 have ne:∀j,j≠h->(aZ h x st).at_ j=st.at_ j:=λj n=>by rw[dB hl,afn n]
 have hf:∀j,(st.at_ j).fr x=((aZ h x st).at_ j).fr x:=λj=>by
  by_cases c:j=h
  .rw [c,dB hl,aaU rfl,f];exact(aaU rfl).symm
  .rw [ne j c]
 refine⟨λk hk m=>?_,λm q=>?_,λq=>l.me λk hk=>(hf k).trans (q k hk)⟩
 .by_cases c:k=h
  .rw [c,bF hl,aaU rfl]at m;exact absurd rfl ((w.nd h).mem_erase_iff.mp m).1
  .rw [ne k c]at m ⊢;exact l.nr k hk m
 .rw [ne 2 (by lia)]at m ⊢;exact l.fa m λk hk=>(hf k).trans (q k hk)
theorem SK(hs:0<g.size)(w:aL g st)(hh:h<2)(ho:o∈(st.at_ h).seq)(l:Lw g bk x st):Lw g bk x (aK g h o st):=by
 have hl:h<st.rm.length:=by rw[w.len];lia
 by_cases c:x=o
 .subst c;unfold aK;split
  .rw [l.nr h hh ho];refine(M7 (w.go hh) λk hk m=>?_).lw;by_cases e:k=h
   .rw [e,bF hl,aaU rfl]at m;exact absurd rfl ((w.nd h).mem_erase_iff.mp m).1
   .rw [dB hl,afn e]at m ⊢;exact l.nr k hk m
  .rename_i f;exact FW w hh (by simpa using f) l
 .unfold aK;split
  .exact ((fS c).trans (JP hs c)).lw l
  .exact (fS c).lw l
theorem Q3(n:x≠o){p:ao×List Int×Bool}:Vw g x p.1 (aA h o p).1:=by
 unfold aA;split
 .split
  .exact fS n
  .exact fS n
 .exact Vw.refl
theorem RA{p:ao×List Int×Bool}(ff:(p.1.at_ h).fr o=true->o∈(p.1.at_ h).seq):(aA h o p).2=if(p.1.at_ h).fr o=true then((p.1.at_ h).wd o,true) else p.2:=by
 unfold aA;by_cases c:(p.1.at_ h).fr o=true
 .rw [aaU (ff c),aaU c,aaU c]
 .rw [afn c,afn c];split <;> rfl
theorem Zif{p:ao×List Int×Bool}{j:Nat}(n:j≠h)(hl:h<p.1.rm.length):(aA h o p).1.at_ j=p.1.at_ j:=by
 unfold aA;split
 .split
  .show (aZ h o p.1).at_ j=_;rw[dB hl,afn n]
  .show (aZ h o p.1).at_ j=_;rw[dB hl,afn n]
 .rfl
theorem ZjH(w:aL g st):(fk o st).2=if(st.at_ 1).fr o=true then((st.at_ 1).wd o,true) else if(st.at_ 0).fr o=true then((st.at_ 0).wd o,true) else((st.at_ 2).wd o,(st.at_ 2).fr o):=by
 have l3:=w.len;have g0:∀j,j≠2->(aZ 2 o st).at_ j=st.at_ j:=λj n=>by rw[dB (by lia),afn n]
 have a0:=RA (h:=0) (o:=o) (p:=(aZ 2 o st,(st.at_ 2).wd o,(st.at_ 2).fr o)) (λz=>by
  have z:((aZ 2 o st).at_ 0).fr o=true:=z;show o∈((aZ 2 o st).at_ 0).seq;rw[g0 0 (by lia)]at z ⊢;exact w.ff 0 o z)
 have e1:((aA 0 o (aZ 2 o st,(st.at_ 2).wd o,(st.at_ 2).fr o)).1).at_ 1=st.at_ 1:=by
  rw[Zif (by lia) (by show 0<(aZ 2 o st).rm.length;rw[bA];lia)];exact g0 1 (by lia)
 have a1:=RA (h:=1) (o:=o) (p:=aA 0 o (aZ 2 o st,(st.at_ 2).wd o,(st.at_ 2).fr o)) (λz=>by
  rw[e1]at z ⊢;exact w.ff 1 o z)
 unfold fk;rw[a1,e1,a0];show _=_;rw[g0 0 (by lia)]
theorem QA(n:x≠o):Vw g x st (fk o st).1:=by
 unfold fk;exact(fS n).trans ((Q3 (p:=(aZ 2 o st,(st.at_ 2).wd o,(st.at_ 2).fr o)) n).trans (Q3 n))
theorem Qz{p:ao×List Int×Bool}:(aA h o p).1.mem=p.1.mem:=by
 unfold aA;split
 .split <;> rfl
 .rfl
theorem Zhi(hs:0<g.size)(w:aL g st)(ho:o∈(st.at_ 2).seq)(l:Lw g bk x st):Lw g bk x (aN g o st):=by
 by_cases c:x=o
 .subst c;have sn:=ZjH (o:=x) w;have s:=fm (g:=g) (o:=x) (st:=st);have no:∀j,j<3->x∉((aN g x st).at_ j).seq:=λj hj z=>by
   rw[s.sq,(JJ w.len).2.1,aaU hj]at z;exact((w.nd j).mem_erase_iff.mp z).1 rfl
  refine⟨λh hh m=>absurd m (no h (by lia)),λm=>absurd m (no 2 (by lia)),λ_=>?_⟩;have ml:(fk x st).1.mem=st.mem:=by unfold fk;rw[Qz,Qz];rfl
  by_cases f1:(st.at_ 1).fr x=true
  .rw [aaU f1]at sn;have e:aN g x st=bD g g.n x ((st.at_ 1).wd x) (fk x st).1:=by unfold aN;rw[sn,aaU rfl]
   rw[e,l.nr 1 (by lia) (w.ff 1 x f1)];unfold bD;rw[aaU rfl];exact HA yr
  .rw [afn f1]at sn;by_cases f0:(st.at_ 0).fr x=true
   .rw [aaU f0]at sn;have e:aN g x st=bD g g.n x ((st.at_ 0).wd x) (fk x st).1:=by unfold aN;rw[sn,aaU rfl]
    rw[e,l.nr 0 (by lia) (w.ff 0 x f0)];unfold bD;rw[aaU rfl];exact HA yr
   .rw [afn f0]at sn;have nf:∀h,h<2->(st.at_ h).fr x=false:=λh hh=>by
     rcases(show h=0\/h=1 by lia) with rfl|rfl
     .simpa using f0
     .simpa using f1
    cases f2:(st.at_ 2).fr x with
    |true=>
     have e:aN g x st=bD g g.n x ((st.at_ 2).wd x) (fk x st).1:=by unfold aN;rw[sn,aaU f2]
     rw[e,l.fa ho nf];unfold bD;rw[aaU rfl];exact HA yr
    |false=>
     have e:aN g x st=(fk x st).1:=by unfold aN;rw[sn,afn (by show ¬(st.at_ 2).fr x=true;rw[f2];exact a7q)]
     rw[e,ml];exact l.me λh hh=>by
      by_cases q:h<2
      .exact nf h q
      .rw [show h=2 by lia];exact f2
 .unfold aN;split
  .exact ((QA c).trans (Hy hs c)).lw l
  .exact (QA c).lw l
theorem Qy(hb:b∈(st.at_ k).seq){e:List V}:Vw g x st ((st.tell e).set k (ju (g.cf k) (st.at_ k) b)):=
 ((Vw.refl (st:=st)).tell (e:=e)).trans (CL (st:=st.tell e) (s:=ju (g.cf k) (st.at_ k) b) (C3 hb).mem_iff rfl rfl)
theorem Zig(hs:0<g.size)(w:aL g st)(l:Lw g bk x st):Lw g bk x (roomF g b st):=by
 unfold roomF;split
 .exact l
 .rename_i o e;exact Zhi hs w (Bl e).1 l
theorem Zih(hs:0<g.size)(w:aL g st)(hh:h<2)(l:Lw g bk x st):Lw g bk x (aG g h b st):=by
 unfold aG;split
 .exact l
 .rename_i o e;exact SK hs w hh (Bl e).1 l
theorem ZjI(hs:0<g.size)(w:aL g st)(l:Lw g bk x st):Lw g bk x (bN g b st):=by
 unfold bN;split
 .rename_i hb;exact(Qy hb).lw l
 .rename_i hb;have w1:=w.sq (D5 (e:=eF g.n));have l1:Lw g bk x (roomF g b (st.tell (eF g.n))):=Zig hs w1 (((Vw.refl (st:=st)).tell (e:=eF g.n)).lw l);obtain⟨w2,sub⟩:=w1.roomF (b:=b);have hl:2<(roomF g b (st.tell (eF g.n))).rm.length:=by rw[w2.len];lia
  have n2:b∉((roomF g b (st.tell (eF g.n))).at_ 2).seq:=λz=>hb (sub 2 b z);generalize roomF g b (st.tell (eF g.n))=s at *;by_cases c:x=b
  .subst c;have nh:∀h,h<3->x∉(s.at_ h).seq:=λh hh z=>by
    by_cases q:h<2
    .exact n2 (w2.inc h x q z)
    .exact n2 (by rw[show h=2 by lia]at z;exact z)
   have me:=l1.me λh hh=>w2.nf (nh h hh);refine⟨λh hh m=>?_,λ_ _=>?_,λ_=>me⟩
   .rw [ZR hl,afn (by lia)]at m;exact absurd m (nh h (by lia))
   .unfold bV;rw[Bp,ao.bI hl,aaU rfl];exact(aaU rfl:(if x=x then _ else _)=_).trans me
  .exact (Q5 c).lw l1
theorem ZjJ(hs:0<g.size)(w:aL g st)(hh:h<2)(l:Lw g bk x st):Lw g bk x (bK g h b st)/\((bK g h b st).at_ h).fr b=false:=by
 have hl:h<st.rm.length:=by rw[w.len];lia
 unfold bK;split
 .rename_i f;have dl:(bg g b ((st.at_ h).wd b) st).rm.length=st.rm.length:=by
   unfold bg;split
   .exact cy.trans bO.len
   .exact bO.len.trans bO.len
  refine⟨?_,by rw[ao.bI (by rw[dl];exact hl),aaU rfl];exact aaU rfl⟩;by_cases c:x=b
  .subst c;rw[l.nr h hh (w.ff h x f)]at dl ⊢;have d:=M7 (bk:=bk) w l.nr;generalize bg g x (aO g.size bk x) st=s at *;have ne:∀j,j≠h->(s.set h (pN (s.at_ h) x)).at_ j=s.at_ j:=λj n=>by rw[ZG,afn λz=>n z.1]
   refine Dn.lw ⟨λk hk m=>?_,by rw[ne 2 (by lia)];exact d.fa,by rw[ne 2 (by lia)];exact d.me⟩;by_cases e:k=h
   .rw [e,ao.bI (by rw[dl];exact hl),aaU rfl]at m ⊢;exact d.nr h hh m
   .rw [ne k e]at m ⊢;exact d.nr k hk m
  .exact ((JP hs c).trans (CL (s:=pN _ b) Iff.rfl rfl (by show(if x=b then false else _)=_;rw[afn c]))).lw l
 .rename_i f;exact⟨l,by simpa using f⟩
theorem ZjK(hs:0<g.size)(w:aL g st)(hh:h<2)(hb:b∉(st.at_ h).seq)(h2:b∈(st.at_ 2).seq)(fo:(st.at_ (1-h)).fr b=false)(l:Lw g bk x st):Lw g bk x (cG g h b st):=by
 unfold cG;have l1:=Zih (b:=b) hs w hh l;obtain⟨w1,sub,Ox⟩:=w.aG (b:=b) hh;have hl:h<(aG g h b st).rm.length:=by rw[w1.len];lia
 by_cases c:x=b
 .subst c;have v:Vw g x st (aG g h x st):=by
   unfold aG;split
   .exact Vw.refl
   .rename_i o e;have n:x≠o:=λz=>hb (z ▸(Bl e).1);unfold aK;split
    .exact (fS n).trans (JP hs n)
    .exact fS n
  have nf:∀k,k<2->((aG g h x st).at_ k).fr x=false:=λk hk=>by
   rw[v.f];by_cases e:k=h
   .rw [e];exact w.nf hb
   .rw [show k=1-h by lia];exact fo
  have b2:x∈((aG g h x st).at_ 2).seq:=(v.m 2).mpr h2;generalize aG g h x st=s at *;have fa:=l1.fa b2 nf;have ne:∀j,j≠h->(bV h x ((s.at_ 2).wd x) s).at_ j=s.at_ j:=λj n=>by unfold bV;rw[Bp,ZG,afn λz=>n z.1]
  refine⟨λk hk m=>?_,λ_ _=>by rw[ne 2 (by lia)];exact fa,λf=>l1.me λk hk=>by rw[<-Bo (k:=h) (b:=x) (ws:=(s.at_ 2).wd x)];exact f k hk⟩;by_cases e:k=h
  .rw [e];unfold bV;rw[Bp,ao.bI hl,aaU rfl];exact(aaU rfl:(if x=x then _ else _)=_).trans fa
  .rw [ne k e]at m ⊢;exact l1.nr k hk m
 .exact (Q5 c).lw l1
theorem Q2(hs:0<g.size)(w:aL g st)(hh:h<2)(l:Lw g bk x st):Lw g bk x (bH g h b st):=by
 unfold bH;split
 .rename_i hb;exact(Qy hb).lw l
 .rename_i hb;obtain⟨w1,m2,sub⟩:=w.bN (b:=b);have s:=JS (g:=g) (h:=1-h) m2;obtain⟨l2,f2⟩:=ZjJ (b:=b) (h:=1-h) hs w1 (by lia) (ZjI (b:=b) hs w l);exact ZjK hs (w1.sq s) hh (λz=>hb (sub h hh b (by rw[s.sq]at z;exact z))) (by rw[s.sq];exact m2) f2 l2
theorem Yt{sp v:Int}(hs:0<g.size)(w:aL g st)(hh:h<2)(l:∀x,Lw g bk x st):Lw g (zP bk sp v) x (lF g h sp v st):=by
 unfold lF;obtain⟨w1,m1⟩:=w.bH (b:=sp/g.size) hh;have l1:=λx=>Q2 (x:=x) (b:=sp/g.size) hs w hh (l x);generalize bH g h (sp/g.size) st=s1 at *;obtain⟨w2,q2⟩:=w1.bw (b:=sp/g.size) hh;have m2:sp/g.size∈((bw h (sp/g.size) s1).at_ h).seq:=by rw[q2];exact m1
 by_cases c:x=sp/g.size
 .have KJ:((bw h (sp/g.size) s1).at_ h).wd (sp/g.size)=aO g.size bk (sp/g.size)/\sp/g.size∉((bw h (sp/g.size) s1).at_ (1-h)).seq:=by
   unfold bw;split
   .have hl:1-h<s1.rm.length:=by rw[w1.len];lia
    refine⟨by rw[dB hl,afn (by lia)];exact(l1 _).nr h hh m1,λz=>?_⟩;rw[bF hl,aaU rfl]at z;exact((w1.nd _).mem_erase_iff.mp z).1 rfl
   .rename_i n;exact⟨(l1 _).nr h hh m1,n⟩
  generalize bw h (sp/g.size) s1=s2 at *;obtain⟨KJ,VT⟩:=KJ;have hl:h<s2.rm.length:=by rw[w2.len];lia
  have w3:aL g (s2.set h (kE g (s2.at_ h) sp v)):=w2.sq (D3 (s:=kE g (s2.at_ h) sp v) rfl λ_ z=>.inl z);have Ob:((s2.set h (kE g (s2.at_ h) sp v)).at_ h).wd (sp/g.size)=aO g.size (zP bk sp v) (sp/g.size):=by
   rw[ao.bI hl,aaU rfl,Hq hs,<-KJ];exact aaU rfl
  have K4:∀j,((s2.set h (kE g (s2.at_ h) sp v)).at_ j).seq=(s2.at_ j).seq:=λj=>MQ rfl;have Ly:∀k,k<2->sp/g.size∈((s2.set h (kE g (s2.at_ h) sp v)).at_ k).seq->((s2.set h (kE g (s2.at_ h) sp v)).at_ k).wd (sp/g.size)=aO g.size (zP bk sp v) (sp/g.size):=λk hk m=>by
   by_cases e:k=h
   .rw [e];exact Ob
   .rw [show k=1-h by lia,K4]at m;exact absurd m VT
  have hl3:h<(s2.set h (kE g (s2.at_ h) sp v)).rm.length:=by rw[w3.len];lia
  dsimp only;rw[c];generalize s2.set h (kE g (s2.at_ h) sp v)=s3 at *;unfold markB;split
  .have ft:((qD h (sp/g.size) s3).at_ h).fr (sp/g.size)=true:=by
    unfold qD;rw[ao.bI hl3,aaU rfl];exact aaU rfl
   refine⟨λk hk m=>?_,λ_ f=>(by rw[f h hh]at ft;cases ft),λf=>(by rw[f h (by lia)]at ft;cases ft)⟩;unfold qD at m ⊢;by_cases e:k=h
   .rw [e]at m ⊢;rw[ao.bI hl3,aaU rfl]at m ⊢;exact Ly h hh m
   .rw [ao.bI hl3,afn e]at m ⊢;exact Ly k hk m
  .rw [Ob];exact(M7 w3 Ly).lw
 .have vv:Vw g x s1 (markB g h (sp/g.size) ((bw h (sp/g.size) s1).set h (kE g ((bw h (sp/g.size) s1).at_ h) sp v))):=by
   have v1:Vw g x s1 (bw h (sp/g.size) s1):=by
    unfold bw;split
    .exact fS c
    .exact Vw.refl
   have v2:Vw g x s1 ((bw h (sp/g.size) s1).set h (kE g ((bw h (sp/g.size) s1).at_ h) sp v)):=v1.trans (CL (s:=kE g _ sp v) Iff.rfl (by show(if x=sp/g.size then _ else _)=_;rw[afn c]) rfl);unfold markB;split
   .exact v2.trans (RV c)
   .exact v2.trans (JP hs c)
  have q:=vv.lw (l1 x);have e:=Ho (g:=g) (bk:=bk) (v:=v) hs c;exact⟨λk hk m=>by rw[e];exact q.nr k hk m,λm f=>by rw[e];exact q.fa m f,λf=>by rw[e];exact q.me f⟩
theorem Lw.fq(l:Lw g bk x st):Lw g bk x (fq st):=⟨l.nr,l.fa,l.me⟩
theorem ZjL(hs:0<g.size)(w:aL g st)(n0:∀h,h<2->(st.at_ h).seq=[])(ho:o∈(st.at_ 2).seq)(l:Lw g bk x st):Lw g bk x (iw g o st):=by
 have hl:2<st.rm.length:=by rw[w.len];lia
 obtain⟨_,s⟩:=JR (o:=o) w n0;by_cases c:x=o
 .subst c;have no:∀j,j<3->x∉((iw g x st).at_ j).seq:=λj hj z=>by
   rw[s]at z;split at z
   .exact ((w.nd j).mem_erase_iff.mp z).1 rfl
   .rw [n0 j (by lia)]at z;cases z
  refine⟨λh hh m=>absurd m (no h (by lia)),λm=>absurd m (no 2 (by lia)),λ_=>?_⟩;have nf:∀h,h<2->(st.at_ h).fr x=false:=λh hh=>w.nf (by rw[n0 h hh];simp);unfold iw;cases f2:(st.at_ 2).fr x with
  |true=>
   rw[aaU rfl,l.fa ho nf];unfold bD;rw[aaU rfl];exact HA yr
  |false=>
   rw[afn a7q];exact l.me λh hh=>by
    by_cases q:h<2
    .exact nf h q
    .rw [show h=2 by lia];exact f2
 .unfold iw;split
  .exact ((fS c).trans (Hy hs c)).lw l
  .exact (fS c).lw l
theorem QZ(hs:0<g.size)(hh:h<2):∀{bs:List Int}{st:ao},aL g st->bs.Perm (st.at_ h).seq->Lw g bk x st->Lw g bk x (k6 g h bs st)
 | [],st,_,_,l=>l
 |b ::bs,st,w,p,l=>by
  have hb:b∈(st.at_ h).seq:=p.mem_iff.mp aTL;obtain⟨w1,s1⟩:=w.aK hh hb;refine QZ hs hh (bs:=bs) w1 ?_ (SK hs w hh hb l);rw[s1,aaU rfl];have:=p.erase b;rwa [aen]at this
theorem QY(hs:0<g.size)(w:aL g st)(l:Lw g bk x st):∀{k:Nat},k<=2->Lw g bk x (cz g st k)
 |0,_=>l
 |k+1,hk=>QZ hs (by lia) (w.cz (k:=k) (by lia)).1 J9 (QY hs w l (k:=k) (by lia))
theorem QX(hs:0<g.size):∀{bs:List Int}{st:ao},aL g st->(∀h,h<2->(st.at_ h).seq=[])->bs.Perm (st.at_ 2).seq->Lw g bk x st->Lw g bk x (kZ g bs st)
 | [],st,_,_,_,l=>l
 |b ::bs,st,w,n0,p,l=>by
  have hb:b∈(st.at_ 2).seq:=p.mem_iff.mp aTL;obtain⟨w1,s1⟩:=JR (o:=b) w n0;refine QX hs (bs:=bs) w1 (λh hh=>by rw[s1,afn (by lia)];exact n0 h hh) ?_ (ZjL hs w n0 hb l);rw[s1,aaU rfl];have:=p.erase b;rwa [aen]at this
theorem ZjM(hs:0<g.size)(w:aL g st)(l:Lw g bk x st):Lw g bk x (fM g st):=by
 obtain⟨w1,s1⟩:=w.cz (k:=2) (ags _);exact QX hs w1 (λh hh=>by rw[s1,aaU hh]) J9 (QY hs w l (ags _))
theorem QW(hs:0<g.size)(w:aL g st)(l:∀x,Lw g bk x st)(sp:Int):(fM g st).mem sp=bk sp:=by
 obtain⟨w1,s1⟩:=JQ w;have e:=(ZjM hs w (l (sp/g.size))).me λh hh=>w1.nf (by rw[s1 h hh];simp);rw[<-Q4 (g:=g) (bk:=bk) (sp:=sp) hs,<-e,Q4 hs]
theorem ZjN(g3:g.n=3):aL g (qG 3)/\∀x,Lw g (λ_=>0) x (qG 3):=by
 have e:∀j,(qG 3).at_ j=qW:=λj=>by
  unfold qG ao.at_;rw[auG,a7B];split <;> rfl
 refine⟨⟨g3,aSy ..,λj=>by rw[e];exact nodup_nil,λh x _ hx=>(by rw[e]at hx;cases hx),λj x h=>(by rw[e]at h;cases h)⟩,λx=>⟨λh _ m=>(by rw[e]at m;cases m),λm _=>(by rw[e]at m;cases m),λ_=>rfl⟩⟩
end
theorem Ys(x y:Str)(r:Int)(h0:0<=r)(h1:r<2):∃z:Str,fP [V.str x,V.str y] r=some (.str z)/\(z=x\/z=y):=by
 have h:r=0\/r=1:=by lia
 rcases h with rfl|rfl
 .exact ⟨x,fO,.inl rfl⟩
 .exact ⟨y,fN,.inr rfl⟩
inductive vM(vs:List V)(H:Hp)(Q:VK)(E:XK):Prop
 |mk (b:Addr) (a q c:Int):vs=[.ref b]->aF H b a q c->c<400000000->(∀(p:Addr)(sh pl:Int)(r wr:Str)(a' c':Int)(H':Hp),H' p=some (.tup [.int sh,.int pl,.str r,.str wr])->1<=sh->sh<=64->1<=pl->pl<=16->xV r->Wr wr->aF H' b a' q c'->c'<=c+6->SB b H H'->Q (.ref p) H')->vM vs H Q E
example:(nU Ai cK):=by
 obtain ⟨b,a,q,c,rfl,B,hc,k⟩:=h;refine⟨_,(Zd (dw 1 nd (vm bM (Zl cK hr.m rfl (pc (pv 0) (pc Zi Zb))) Zi (Zx _)))
   (Zd (dw 2 nd (CV (ZC (pv 1)) (ak ZH Zi (Zl cK hr.m rfl (pc (pv 0) (pc Zi Zb)))) (av (Zn (K:=K) rfl) (qE (pc Zi (pc Zi (pc Zi (pc Zi (pc Zi Zb)))))) (Zl cK hr.m rfl (pc (pv 0) (pc Zi Zb))) (λ_ _=>rfl))))
   (Zd (dw 3 nd (ak ZH Zi (Zl cK hr.m rfl (pc (pv 0) (pc (CV (ZC (pv 1)) Zi Zi) Zb)))))
   (Zd (dw 4 nd (av (Zn (K:=K) rfl) (qE (pc ZX (pc ZX (pc ZX Zb)))) (Zl cK hr.m rfl (pc (pv 0) (pc Zi Zb))) (λ_ _=>rfl)))
   (Zh (Zs (ZI (pc (pv 2) (pc (pv 3) (pc (pv 4) (pc (av (Zn (K:=K) rfl) (qE (pc ZX (pc ZX Zb))) (Zl cK hr.m rfl (pc (pv 0) (pc Zi Zb))) (λ_ _=>rfl)) Zb))))))))))),?_⟩
 refine hide λu9 e9=>?_;refine⟨_,rfl,b,a,q,c,6,rfl,B,by lia,by decide,by decide,λr1 a1 c1 H1 AJ DC B1 hc1 s1=>⟨rfl,?_⟩⟩;generalize decide (V.int r1=V.int 0)=PU;try dsimp only
 subst e9;try dsimp only
 refine hide λu9 e9=>?_;refine JC (λv G=>∃z a' c',v=.int z/\1<=z/\z<=64/\aF G b a' q c'/\c'<=c1+1/\SB b H G) (λQ' k'=>?_) ?_
 .refine ⟨_,rfl,_,rfl,?_⟩;cases PU with
  |true=>exact fK rfl ⟨_,rfl,b,a1,q,c1,64,rfl,B1,by lia,by decide,by decide,λr2 a2 c2 H2 yj wC B2 hc2 s2=>⟨_,_,rfl,rfl,k' _ _ ⟨_,a2,c2,rfl,by lia,by lia,B2,by lia,s1.trans s2⟩⟩⟩
  |false=>
   refine cO rfl ⟨(sL 5),λp0 hp0=>⟨_,rfl,b,a1,q,c1,5,rfl,B1.same (Ze hp0 _),by lia,by decide,by decide,λr2 a2 c2 H2 yj wC B2 hc2 s2=>?_⟩⟩;have q0:b≠p0:=Zf B1.at' hp0;obtain⟨sh,hsh,EY,EX⟩:=Fq r2 yj wC;exact⟨p0,_,_,_,rfl,rfl,az.of (s2 _ _ (ac5 q0) Za),hsh,k' _ _ ⟨_,a2,c2,rfl,EY,EX,B2,by lia,s1.trans (((Ze hp0 _).sb b).trans s2)⟩⟩
 rintro _ H2 ⟨sh,a2,c2,rfl,EY,EX,B2,hc2,u2⟩;refine gN ?_;try dsimp only
 subst e9;try dsimp only
 refine hide λu9 e9=>?_;refine JC (λv G=>∃z a' c',v=.int z/\1<=z/\z<=16/\aF G b a' q c'/\c'<=c2+1/\SB b H G) (λQ' k'=>?_) ?_
 .refine ⟨_,rfl,_,rfl,_,rfl,?_⟩;cases PU with
  |true=>exact fK rfl ⟨b,a2,q,c2,16,rfl,B2,by lia,by decide,by decide,λr3 a3 c3 H3 BS AI B3 hc3 s3=>⟨_,_,rfl,rfl,k' _ _ ⟨_,a3,c3,rfl,by lia,by lia,B3,by lia,u2.trans s3⟩⟩⟩
  |false=>exact cO rfl ⟨b,a2,q,c2,4,rfl,B2,by lia,by decide,by decide,λr3 a3 c3 H3 BS AI B3 hc3 s3=>⟨_,_,rfl,rfl,k' _ _ ⟨_,a3,c3,rfl,by lia,by lia,B3,by lia,u2.trans s3⟩⟩⟩
 rintro _ H3 ⟨pl,a3,c3,rfl,Ln,tQ,B3,hc3,u3⟩;refine gN ?_;try dsimp only
 subst e9;try dsimp only
 refine hide λu9 e9=>?_;refine⟨(sL 3),λp3 hp3=>⟨_,rfl,b,a3,q,c3,3,rfl,B3.same (Ze hp3 _),by lia,by decide,by decide,λr4 a4 c4 H4 Ff IS B4 hc4 s4=>?_⟩⟩;have q3:b≠p3:=Zf B3.at' hp3;obtain⟨ru,Wt,Wq⟩:=Fp r4 Ff IS;refine⟨p3,_,_,_,rfl,rfl,az.of (s4 _ _ (ac5 q3) Za),Wt,?_⟩;subst e9;try dsimp only
 have u4:SB b H H4:=u3.trans (((Ze hp3 _).sb b).trans s4);refine⟨_,rfl,_,rfl,_,rfl,(sL 2),λp5 L8=>⟨_,rfl,b,a4,q,c4,2,rfl,B4.same (Ze L8 _),by lia,by decide,by decide,λr5 a5 c5 H5 Lh Om B5 hc5 s5=>?_⟩⟩;have q5:b≠p5:=Zf B4.at' L8;obtain⟨wr,hwr,Wo⟩:=Ys "late" "through" r5 Lh Om;refine⟨p5,_,_,_,rfl,rfl,az.of (s5 _ _ (ac5 q5) Za),hwr,(sL 4),λpp hpp=>?_⟩;exact k pp sh pl ru wr a5 c5 _ Za EY EX Ln tQ Wq Wo (B5.same (Ze hpp _)) (by lia)
  ((u4.trans (((Ze L8 _).sb b).trans s5)).trans ((Ze hpp _).sb b))
theorem Yr(r:Int)(h0:0<=r)(h1:r<3):∃z:Str,fP [V.str "within",V.str "apart",V.str "free"] r=some (.str z)/\(z ="within" \/z ="apart" \/z ="free"):=by
 have h:r=0\/r=1\/r=2:=by lia
 rcases h with rfl|rfl|rfl
 .exact ⟨_,fO,.inl rfl⟩
 .exact ⟨_,fN,.inr (.inl rfl)⟩
 .exact ⟨_,mw,.inr (.inr rfl)⟩
inductive sP(K:W.Frag)(vs:List V)(H:Hp)(Q:VK)(E:XK):Prop
 |mk (b:Addr) (a q c:Int):vs=[.ref b]->aF H b a q c->c<300000000->(∀(pp tp:Addr)(ts:List Addr)(size:Int)(kind:Str)(br:List Cf)(a' c':Int)(H':Hp),H' pp=some (.tup [.int size,.str kind,.ref tp])->iV K H' tp ts br->(kind ="within" \/kind ="apart" \/kind ="free")->1<=size->size<=16->1<=br.length->br.length<=4->aF H' b a' q c'->c'<=c+40->SB b H H'->Q (.ref pp) H')->sP K vs H Q E
example:(zd Ga cK Ai):=by
 obtain ⟨b,a,q,c,rfl,B,hc,k⟩:=h;refine⟨_,(Zd (dw 1 nd (av (Zn (K:=K) rfl) (qE (pc ZX (pc ZX (pc ZX Zb)))) (Zl cK hr.m rfl (pc (pv 0) (pc Zi Zb))) (λ_ _=>rfl)))
   (Zd (dw 2 nd (ak ZH Zi (Zl cK hr.m rfl (pc (pv 0) (pc (av (Zn (K:=K) rfl) (qE (pc Zi (pc Zi Zb))) (ZS NR rfl T.DK Ku (pc (vm bM (Zl cK hr.m rfl (pc (pv 0) (pc Zi Zb))) Zi (Zx _)) Zb)) (λ_ _=>rfl)) Zb)))))
   (Zh (Zs (ZI (pc (pv 2) (pc (pv 1) (pc (ZS (Zcp (K:=K) rfl) rfl T.Ge NU (pc (ZZ (ZK (kF:=(Zr rD)) (oN:=Dl) (N:=["_law_k","_law_box_here"]) (own:=1) (js:=[0]) (by decide +kernel) rfl rfl) rfl (Bm rfl T.vB (pc (ak ZH Zi (Zl cK hr.m rfl (pc (pv 0) (pc Zi Zb)))) Zb)) (λ_ _ _ _ _ _=>(cu 0 (show List.Nodup (["_law_k","_law_box_here"]:List Str) by decide +kernel))) (λ_ _ _ _ _ _=>(Zl Ai hr.m rfl (pc (pv 1) Zb)))) Zb)) Zb)))))))),?_⟩
 refine hide λu9 e9=>?_;refine⟨(sL 3),λp1 hp1=>⟨_,rfl,b,a,q,c,3,rfl,B.same (Ze hp1 _),by lia,by decide,by decide,λr1 a1 c1 H1 AJ DC B1 hc1 s1=>?_⟩⟩;have q1:b≠p1:=Zf B.at' hp1;obtain⟨kd,hkd,O9⟩:=Yr r1 AJ DC;refine⟨p1,_,_,_,rfl,rfl,az.of (s1 _ _ (ac5 q1) Za),hkd,gN ?_⟩;try dsimp only
 subst e9;try dsimp only
 refine hide λu9 e9=>?_;have u1:SB b H H1:=((Ze hp1 _).sb b).trans s1;refine⟨_,rfl,(sL 2),λp2 hp2=>⟨_,rfl,b,a1,q,c1,8,rfl,B1.same (Ze hp2 _),by lia,by decide,by decide,λr2 a2 c2 H2 yj wC B2 hc2 s2=>⟨rfl,.inr ⟨_,rfl,?_⟩⟩⟩⟩;have q2:b≠p2:=Zf B1.at' hp2;obtain⟨n,hn,hn'⟩:=QC 4 16 (decide (V.int r2=V.int 0));refine⟨p2,_,_,_,rfl,rfl,az.of (s2 _ _ (ac5 q2) Za),hn,b,a2,q,c2,n,rfl,B2,by lia,by lia,by lia,λr3 a3 c3 H3 BS AI B3 hc3 s3=>⟨_,_,rfl,rfl,gN ?_⟩⟩;try dsimp only
 subst e9;try dsimp only
 have u3:SB b H H3:=(((u1.trans ((Ze hp2 _).sb b)).trans s2)).trans s3;refine⟨_,rfl,_,rfl,_,rfl,b,a3,q,c3,4,rfl,B3,by lia,by decide,by decide,λr4 a4 c4 H4 Ff IS B4 hc4 s4=>⟨_,_,rfl,rfl,_,rfl,by lia,by lia,λl hl=>?_⟩⟩;have m9:l≠b:=ac5 (Zf B4.at' hl);have u4:=u3.trans s4;refine HN (lo:=0) (n:=(1+r4).toNat) (l:=l) (λj ys σ G=>∃(v0:Option V)(ts:List Addr)(br:List Cf)(a' c':Int),σ=[v0,some (.ref b)]/\ys=ts.map V.ref/\ts.length=j/\br.length=j/\(∀(i:Nat)(t:Addr)(c:Cf),ts[i]?=some t->br[i]?=some c->∃wr:Str,G t=some (.tup [.int c.sh,.int c.pl,.str c.ru,.str wr])/\c.late=decide (wr ="late")/\Wr wr)/\(∀c∈br,1<=c.sh/\c.sh<=64/\1<=c.pl/\c.pl<=16/\xV c.ru)/\G l=some (.lst ys)/\aF G b a' q c'/\c'<=c4+6*(j:Int)/\SB b H G)
  ⟨none,[],[],a4,c4,rfl,rfl,rfl,rfl,(λi t c h=>by simp at h),(λc h=>by simp at h),Za,B4.same (Ze hl _),by lia,u4.trans ((Ze hl _).sb b)⟩ ?_ ?_
 .rintro j ys σ G hj hys ⟨v0,ts,br,a',c',rfl,rfl,hl1,hl2,hat,hcf,g1,B',hc',u'⟩;refine⟨_,rfl,b,a',q,c',rfl,B',by lia,λp sh pl r wr a5 c5 G5 ep EY EX Ln tQ hr hw B5 hc5 s5=>?_⟩;have g5:=s5 _ _ m9 g1;have VO:p≠l:=λz=>by rw[z,g5]at ep;cases ep
  refine oS.of (a0n (by lia:(1+r4).toNat<=4) (by decide)) hj hys g5 ⟨_,ts++[p],br++[⟨sh,pl,r,decide (wr ="late")⟩],a5,c5,rfl,by rw[ado];rfl,by rw[aKe,hl1];rfl,by rw[aKe,hl2];rfl,λi t c h1 h2=>?_,λc hc=>?_,Za,B5.sb (DY l _ _) (ac5 m9),by lia,λx o nx e=>?_⟩
  .by_cases hi:i<j
   .rw [aGp (by lia)]at h1 h2;obtain⟨wr',e1,e2⟩:=hat i t c h1 h2;refine⟨wr',?_,e2⟩;have Lx:t≠b:=λz=>by rw[z,B'.at']at e1;cases e1
    have qv:=s5 _ _ Lx e1;rw[Zc (λz=>by rw[z,g5]at qv;cases qv)];exact qv
   .have hi2:i=j:=by have:=(aB9.mp h1).1;rw[aKe,aSc]at this;lia
    subst hi2;rw[a8o (by lia),show i-ts.length=0 by lia]at h1;rw[a8o (by lia),show i-br.length=0 by lia]at h2;cases h1;cases h2;exact⟨wr,by rw[Zc VO];exact ep,rfl,hw⟩
  .rcases aaI.mp hc with hc|hc
   .exact hcf c hc
   .rw [apU.mp hc];exact⟨EY,EX,Ln,tQ,hr⟩
  .have Lu:x≠l:=λz=>by
    rw[z]at e;have:=u4 _ _ m9 e;rw[this]at hl;cases hl
   rw[Zc Lu];exact s5 _ _ nx (u' _ _ nx e)
 rintro ys σ G _ ⟨v0,ts,br,a',c',rfl,rfl,hl1,hl2,hat,hcf,g1,B',hc',u'⟩;refine⟨l,_,rfl,.inl ⟨az.of g1,λtp htp=>⟨(sL 3),λpp hpp=>?_⟩⟩⟩;have s5:=Ze htp (.tup (ts.map V.ref));have s6:=s5.trans (Ze hpp (.tup [.int (1+r3),.str kd,.ref tp]));refine k pp tp ts (1+r3) kd br a' c' _ Za ⟨Ze hpp _ _ _ Za,by show ts.length=br.length;lia,λi t c h1 h2=>by obtain⟨wr,e1,e2⟩:=hat i t c h1 h2;exact⟨wr,s6 _ _ e1,e2⟩,hcf⟩ O9 (by show 1<=1+r3;lia) (by show 1+r3<=16;lia) (by show 1<=br.length;lia) (by show br.length<=4;lia) (B'.same s6) (by lia) (u'.trans (s6.sb b))
inductive vP(vs:List V)(H:Hp)(Q:VK)(E:XK):Prop
 |mk (b:Addr) (a q c x y:Int):vs=[.ref b,.int x,.int y]->aF H b a q c->c<1099511627770->0<x->x<=y->y<1073741824->(∀(r a' c':Int)(H':Hp),1<=r->r<=y->aF H' b a' q c'->c'<=c+2->SB b H H'->Q (.int r) H')->vP vs H Q E
example:(zf F6 cK):=by
 obtain ⟨b,a,q,c,x,y,rfl,B,hc,x0,xy,y1,k⟩:=h;refine⟨_,(Zd (dw 3 nd (vm bM (Zl cK hr.m rfl (pc (pv 0) (pc Zi Zb))) Zi (Zx _)))
   (Zh (Zs (ak ZH Zi (Zl cK hr.m rfl (pc (pv 0) (pc (CV (ZC (pv 3)) (pv 2) (pv 1)) Zb))))))),?_⟩
 refine⟨_,rfl,b,a,q,c,8,rfl,B,by lia,by decide,by decide,λr a1 c1 G1 r0 r1 B1 hc1 t1=>?_⟩;refine⟨rfl,gN ?_⟩;refine⟨_,rfl,_,rfl,_,rfl,Nz (λz=>?_) (λz=>?_)⟩
 .refine ⟨_,rfl,b,a1,q,c1,y,rfl,B1,by lia,by lia,by lia,λr2 a2 c2 G2 yj wC B2 hc2 t2=>?_⟩;exact⟨_,_,rfl,rfl,k (1+r2) a2 c2 G2 (by lia) (by lia) B2 (by lia) (t1.trans t2)⟩
 .refine ⟨_,rfl,b,a1,q,c1,x,rfl,B1,by lia,by lia,by lia,λr2 a2 c2 G2 yj wC B2 hc2 t2=>?_⟩;exact⟨_,_,rfl,rfl,k (1+r2) a2 c2 G2 (by lia) (by lia) B2 (by lia) (t1.trans t2)⟩
inductive Dd where
 |rd (sp:Int)
 |wt (sp x:Int)
def Dd.sp:Dd->Int
 | .rd sp=>sp
 | .wt sp _=>sp
def Dd.vs:Dd->List V
 | .rd sp=>[.str "read",.int sp]
 | .wt sp x=>[.str "write",.int sp,.int x]
def Dd.ok:Dd->Prop
 | .rd sp=>0<=sp/\sp<=9999
 | .wt sp x=>(0<=sp/\sp<=9999)/\x.natAbs<10 ^ 40
inductive sE(vs:List V)(H:Hp)(Q:VK)(E:XK):Prop
 |mk (b:Addr) (a q c:Int):vs=[.ref b]->aF H b a q c->c<400000000->(∀(x a' c':Int)(H':Hp),x.natAbs<10 ^ 40->aF H' b a' q c'->c'<=c+8->SB b H H'->Q (.int x) H')->sE vs H Q E
example:(y9 Gb cK):=by
 obtain ⟨b,a,q,c,rfl,B,hc,k⟩:=h;refine⟨_,(Zd (dw 1 nd (Zl cK hr.m rfl (pc (pv 0) (pc Zi Zb))))
   (Zd (aI (ZB qd (pv 1) Zi (Zx _)) (Zd (dw 2 nd (Zl cK hr.m rfl (pc (pv 0) (pc (av (Zn (K:=K) rfl) (qE (pc Zi (pc Zi (pc Zi Zb)))) (pv 1) (λ_ _=>rfl)) Zb))))
   (Zh (Zs (av (Zn (K:=K) rfl) (qE (pc (pv 2) (pc (ak ZH Zi (pv 2)) (pc (ak zQ (AX Zip Zi) (pv 2)) Zb)))) (pv 1) (λ_ _=>rfl))))) Zt)
   (Zd (dw 2 nd Zi)
   (Zd (yu aUe rfl (Bm rfl T.vB (pc (ak ZH Zi (Zl cK hr.m rfl (pc (pv 0) (pc Zi Zb)))) Zb)) (cu 3 nd) (Zh (dw 2 nd (ak ZH (ak uI (pv 2) (ak M4 Zi Zi)) (Zl cK hr.m rfl (pc (pv 0) (pc (ak M4 Zi Zi) Zb)))))))
   (Zh (Zs (av (Zn (K:=K) rfl) (qE (pc (pv 2) (pc (ak zQ Zi (pv 2)) Zb))) (Zl cK hr.m rfl (pc (pv 0) (pc Zi Zb))) (λ_ _=>rfl)))))))),?_⟩
 refine⟨_,rfl,b,a,q,c,4,rfl,B,by lia,by decide,by decide,λr1 a1 c1 H1 AJ DC B1 hc1 s1=>gN ?_⟩;try dsimp only
 refine⟨_,rfl,_,_,rfl,rfl,_,rfl,xS (λz=>?_) (λz=>?_)⟩
 .obtain ⟨n,hn,n0,n1⟩:∃n:Int,fP [V.int 9,V.int 99,V.int 99] r1=some (.int n)/\1<=n/\n<=99:=by
   have h:r1=0\/r1=1\/r1=2:=by lia
   rcases h with rfl|rfl|rfl
   .exact ⟨9,fO,by decide,by decide⟩
   .exact ⟨99,fN,by decide,by decide⟩
   .exact ⟨99,mw,by decide,by decide⟩
  refine⟨_,rfl,(sL 3),λp1 hp1=>⟨_,rfl,p1,_,_,_,rfl,rfl,az.of Za,hn,b,a1,q,c1,n,rfl,B1.same (Ze hp1 _),by lia,by lia,by lia,λr2 a2 c2 H2 yj wC B2 hc2 s2=>gN ?_⟩⟩;try dsimp only
  obtain⟨x,hx,x1⟩:∃x:Int,fP [V.int r2,V.int (1+r2),V.int (-1-r2)] r1=some (.int x)/\x.natAbs<10 ^ 40:=by
   have h:r1=0\/r1=1\/r1=2:=by lia
   have XC:1000<=10 ^ 40:=by decide
   rcases h with rfl|rfl|rfl
   .exact ⟨_,fO,by lia⟩
   .exact ⟨_,fN,by lia⟩
   .exact ⟨_,mw,by lia⟩
  exact⟨_,rfl,_,rfl,_,_,rfl,rfl,_,rfl,_,rfl,_,_,rfl,rfl,(sL 3),λp2 hp2=>⟨_,rfl,p2,_,_,_,rfl,rfl,az.of Za,hx,k x a2 c2 _ x1 (B2.same (Ze hp2 _)) (by lia) (((s1.trans ((Ze hp1 _).sb b)).trans s2).trans ((Ze hp2 _).sb b))⟩⟩
 .dsimp only[gE];refine gN ?_;try dsimp only
  refine⟨_,rfl,b,a1,q,c1,4,rfl,B1,by lia,by decide,by decide,λr2 a2 c2 H2 yj wC B2 hc2 s2=>⟨_,_,rfl,rfl,_,rfl,by lia,by lia,?_⟩⟩;have e7:(10:Int) ^ (7:Int).toNat=10000000:=by decide
  refine NT (lo:=0) (n:=(1+r2).toNat) (λi σ G=>∃(v3:Option V)(z a' c':Int),σ=[some (.ref b),some (.int r1),some (.int z),v3]/\0<=z/\z<10000000 ^ i/\aF G b a' q c'/\c'<=c2+(i:Int)/\SB b H G)
   ⟨none,0,a2,c2,rfl,by decide,by decide,B2,by lia,s1.trans s2⟩ ?_ ?_
  .rintro i σ G hi ⟨v3,z,a',c',rfl,z0,z1,B',hc',s'⟩;refine gN ?_;try dsimp only
   refine⟨_,rfl,_,_,rfl,rfl,⟨by decide,by decide,by decide⟩,_,_,rfl,rfl,.inr (by rw[e7];decide),_,rfl,_,_,rfl,rfl,⟨by decide,by decide,by decide⟩,b,a',q,c',_,rfl,B',by lia,by rw[e7];decide,by rw[e7];decide,λr3 a3 c3 H3 BS AI B3 hc3 s3=>⟨_,_,rfl,rfl,gN ⟨_,_,a3,c3,rfl,?_,?_,B3,by lia,s'.trans s3⟩⟩⟩
   .rw [e7];lia
   .rw [e7]at AI ⊢;rw[Int.pow_succ];generalize(10000000:Int) ^ i=X at *;lia
  .rintro σ G ⟨v3,z,a',c',rfl,z0,z1,B',hc',s'⟩;have zb:z<10000000000000000000000000000:=by
    have h:(1+r2).toNat=1\/(1+r2).toNat=2\/(1+r2).toNat=3\/(1+r2).toNat=4:=by lia
    have p1:(10000000:Int) ^ 1=10000000:=by decide
    have p2:(10000000:Int) ^ 2=100000000000000:=by decide
    have p3:(10000000:Int) ^ 3=1000000000000000000000:=by decide
    have p4:(10000000:Int) ^ 4=10000000000000000000000000000:=by decide
    rcases h with e|e|e|e <;> rw[e]at z1 <;> lia
   have XC:10000000000000000000000000000<=10 ^ 40:=by decide
   refine⟨_,rfl,_,rfl,_,_,rfl,rfl,(sL 2),λp2 hp2=>⟨_,rfl,b,a',q,c',2,rfl,B'.same (Ze hp2 _),by lia,by decide,by decide,λr4 a4 c4 H4 Ff IS B4 hc4 s4=>?_⟩⟩;have np:b≠p2:=Zf B'.at' hp2;obtain⟨x,hx,x1⟩:∃x:Int,fP [V.int z,V.int (0-z)] r4=some (.int x)/\x.natAbs<10 ^ 40:=by
    have h:r4=0\/r4=1:=by lia
    rcases h with rfl|rfl
    .exact ⟨_,fO,by lia⟩
    .exact ⟨_,fN,by lia⟩
   exact⟨p2,_,_,_,rfl,rfl,az.of (s4 _ _ (ac5 np) Za),hx,k x a4 c4 _ x1 B4 (by lia) ((s'.trans ((Ze hp2 _).sb b)).trans s4)⟩
inductive sW(vs:List V)(H:Hp)(Q:VK)(E:XK):Prop
 |mk (b l:Addr) (a q c size:Int) (ns:List Int):vs=[.ref b,.int size,.ref l]->aF H b a q c->l≠b->c<350000000->1<=size->size<=16->H l=some (.lst (ns.map V.int))->1<=ns.length->ns.length<=20->(∀x∈ns,0<=x/\x<=100000/\x<=9999/size)->(∀(t:Addr)(d:Dd)(a' c':Int)(H':Hp),H' t=some (.tup d.vs)->d.ok->d.sp/size∈ns->aF H' b a' q c'->c'<=c+12->SB b H H'->Q (.ref t) H')->sW vs H Q E
example:(zk F8 cK Gb):=by
 obtain ⟨b,l,a,q,c,size,ns,rfl,B,m9,hc,z0,z1,hl,l0,l1,AZ,k⟩:=h;refine⟨_,(Zd (dw 3 nd (Zl cK hr.m rfl (pc (pv 0) (pc Zi Zb))))
   (Zd (dw 4 nd (Zp (ZfT rfl) rfl T.LW ZhI (pc Zi (pc (ak ZH (ak uI (av (Zn (K:=K) rfl) (pv 2) (Zl cK hr.m rfl (pc (pv 0) (pc (Zp (ZE (K:=K) rfl) rfl T.zv aOy (pc (pv 2) Zb)) Zb))) (λ_ _=>rfl)) (pv 1)) (Zl cK hr.m rfl (pc (pv 0) (pc (pv 1) Zb)))) Zb))))
   (Zh (Zs (CV (ZB bM (pv 3) Zi (Zx _)) (ZI (pc ZX (pc (pv 4) (pc (Zl Gb hr.m rfl (pc (pv 0) Zb)) Zb)))) (ZI (pc ZX (pc (pv 4) Zb)))))))),?_⟩
 refine⟨_,rfl,b,a,q,c,2,rfl,B,by lia,by decide,by decide,λr1 a1 c1 H1 AJ DC B1 hc1 s1=>gN ?_⟩;try dsimp only
 have hl1:=s1 _ _ m9 hl;refine⟨_,rfl,_,rfl,_,rfl,l,_,rfl,.inl (az.of hl1),b,a1,q,c1,_,rfl,B1,by lia,by rw[axO];lia,by rw[axO];lia,λr2 a2 c2 H2 yj wC B2 hc2 s2=>?_⟩;rw[axO]at wC;obtain⟨x,hx,xm⟩:=MX yj wC;have xb:=AZ x xm;refine⟨l,_,_,_,rfl,rfl,az.of (s2 _ _ m9 hl1),hx,_,rfl,_,_,rfl,rfl,.inl ⟨by lia,by lia⟩,_,rfl,_,rfl,b,a2,q,c2,size,rfl,B2,by lia,by lia,by lia,λr3 a3 c3 H3 BS AI B3 hc3 s3=>⟨_,_,rfl,rfl,_,_,rfl,gN ?_⟩⟩;have m0:0<=x*size:=Int.mul_nonneg xb.1 (by lia);have ok:0<=(if x*size+r3<9999 then x*size+r3 else 9999)/\(if x*size+r3<9999 then x*size+r3 else 9999)<=9999:=by split <;> lia
 have O8:(if x*size+r3<9999 then x*size+r3 else 9999)/size∈ns:=by
  split
  .have e:(x*size+r3)/size=x:=by
    rw[Int.add_comm,bbd _ _ (by lia),ajV BS AI,Int.zero_add]
   rw[e];exact xm
  .have h1:9999/size<=x:=by
    have h2:9999/size<x+1:=(Int.ediv_lt_iff_lt_mul (by lia)).mpr (by rw[Int.add_mul,Int.one_mul];lia);lia
   rw[show 9999/size=x by have:=xb.2.2;lia];exact xm
 generalize(if x*size+r3<9999 then x*size+r3 else 9999)=sp at *;try dsimp only
 have u3:=(s1.trans s2).trans s3;refine⟨_,rfl,rfl,_,rfl,Nz (λz=>?_) (λz=>?_)⟩
 .exact ⟨_,rfl,_,rfl,b,a3,q,c3,rfl,B3,by lia,λy a4 c4 H4 yb B4 hc4 s4=>⟨(sL 3),λt ht=>k t (.wt sp y) a4 c4 _ Za ⟨ok,yb⟩ O8 (B4.same (Ze ht _)) (by lia) ((u3.trans s4).trans ((Ze ht _).sb b))⟩⟩
 .exact ⟨_,rfl,(sL 2),λt ht=>k t (.rd sp) a3 c3 _ Za ok O8 (B3.same (Ze ht _)) (by lia) (u3.trans ((Ze ht _).sb b))⟩
structure zT(mem:Int->Int)(ps:List (Int×Int)):Prop where
 up:ps.Pairwise λa b=>a.1<b.1
 mm:∀s v,(s,v)∈ps↔mem s=v/\v≠0
theorem zT.uniq{mem:Int->Int}{ps qs:List (Int×Int)}(h1:zT mem ps)(h2:zT mem qs):ps=qs:=by
 have nd:∀{l:List (Int×Int)},(l.Pairwise λa b=>a.1<b.1)->l.Nodup:=λh=>h.imp λ{a b} z e=>by rw[e]at z;lia
 have pm:ps.Perm qs:=(bbm (nd h1.up) (nd h2.up)).mpr λq=>by
  obtain⟨s,v⟩:=q;rw[h1.mm,h2.mm]
 exact aGv (le:=λa b=>a.1<b.1) (λa b _ _ z1 z2=>by lia) h1.up h2.up pm
theorem zT.congr{mem mem':Int->Int}{ps:List (Int×Int)}(h:zT mem ps)(e:∀s,mem s=mem' s):zT mem' ps:=⟨h.up,λs v=>by rw[h.mm,e]⟩
def qI(H:Hp)(l:Addr)(ps:List (Int×Int)):Prop:=∃as:List Addr,H l=some (.lst (as.map V.ref))/\as.length=ps.length/\∀(i:Nat)(a:Addr)(p:Int×Int),as[i]?=some a->ps[i]?=some p->H a=some (.tup [.int p.1,.int p.2])
theorem qI.same{H H':Hp}{l:Addr}{ps:List (Int×Int)}(h:qI H l ps)(s:aB H H'):qI H' l ps:=by
 obtain⟨as,h1,h2,h3⟩:=h;exact⟨as,s _ _ h1,h2,λi a p e1 e2=>s _ _ (h3 i a p e1 e2)⟩
theorem qI.eqv{H:Hp}{l m:Addr}{ps:List (Int×Int)}(h1:qI H l ps)(h2:qI H m ps)(hl:ps.length<=1000):Eqv 2 H (.ref l) (.ref m):=by
 obtain⟨as,a1,a2,a3⟩:=h1;obtain⟨bs,b1,b2,b3⟩:=h2;refine .inr ⟨l,m,_,_,rfl,rfl,.inl ⟨a1,b1⟩,by rw[axO,axO,a2,b2],by rw[axO,a2];exact hl,λi u v e1 e2=>?_⟩;rw[acC]at e1 e2;cases ha:as[i]? with
 |none=>rw[ha]at e1;cases e1
 |some a=>
  cases hb:bs[i]? with
  |none=>rw[hb]at e2;cases e2
  |some b=>
   rw[ha]at e1;rw[hb]at e2;cases e1;cases e2;have hi:i<ps.length:=by rw[<-a2];exact(aB9.mp ha).1
   have hp:ps[i]?=some ps[i]:=aun hi;exact Eqv.GO (a3 i a _ ha hp) (b3 i b _ hb hp) (by show 2<=1000;decide) λx hx=>by
    rcases baL.mp hx with rfl|hx
    .trivial
    .rw [apU.mp hx];trivial
noncomputable def bL(g:aP)(h:Nat)(d:Dd)(st:ao):ao:=match d with
 | .rd sp=>bH g h (sp/g.size) st
 | .wt sp x=>lF g h sp x st
def Xy(bk:Int->Int):Dd->Int->Int
 | .rd _=>bk
 | .wt sp v=>zP bk sp v
inductive vN(vs:List V)(H:Hp)(Q:VK)(E:XK):Prop
 |mk (b:Addr) (a q c:Int):vs=[.ref b]->aF H b a q c->c<300000000->(∀(t tn tf:Addr)(size:Int)(cn cf:Cf)(a' c':Int)(H':Hp),H' t=some (.tup [.int size,.ref tn,.ref tf])->zS H' tn cn->zS H' tf cf->1<=size->size<=16->aF H' b a' q c'->c'<=c+50->SB b H H'->Q (.ref t) H')->vN vs H Q E
example:(ze F7 Ga Ai):=by
 obtain ⟨b,a,q,c,rfl,B,hc,k⟩:=h;refine⟨_,(Zd (qV (Zl Ga hr.m rfl (pc (pv 0) Zb)) (ZQ (K:=K) (n:=3) rfl rfl (Zq (cu 1 nd) (Zq (cu 2 nd) (Zq (cu 3 nd) ZO)))))
   (Zh (Zs (ZI (pc (pv 1) (pc (av (ZY (K:=K) rfl) (pv 3) Zi (λ_ _=>rfl)) (pc (Zl Ai hr.m rfl (pc (pv 0) Zb)) Zb))))))),?_⟩
 refine⟨_,rfl,b,a,q,c,rfl,B,hc,λpp tp UZ size kind br a1 c1 H1 hpp pa O9 z0 z1 l1 l4 B1 hc1 s1=>⟨pp,_,rfl,aU.of hpp,rfl,_,_,rfl,gN ⟨_,_,rfl,gN ⟨_,_,rfl,gN ⟨rfl,?_⟩⟩⟩⟩⟩;try dsimp only
 have nt:∀{x ys},H1 x=some (.tup ys)->x≠b:=λ{x ys} e z=>by rw[z,B1.at']at e;cases e
 obtain⟨t0,P4⟩:∃t0,UZ[0]?=some t0:=⟨_,aun (by rw[pa.len];exact l1)⟩;obtain⟨c0,P7⟩:∃c0,br[0]?=some c0:=⟨_,aun l1⟩;obtain⟨wr,ew,e1,e2⟩:=pa.at_ 0 t0 _ P4 P7;obtain⟨q1,q2,q3,q4,q5⟩:=pa.cf _ (bcc P7);refine⟨_,rfl,_,rfl,tp,_,_,_,rfl,rfl,aU.of pa.top,xT (j:=0) (by rw[acC,P4];rfl),_,rfl,b,a1,q,c1,rfl,B1,by lia,λp sh pl r Oa a2 c2 H2 e3 f1 f2 f3 f4 f5 f6 B2 hc2 s2=>⟨(sL 3),λt ht=>?_⟩⟩;have s3:=Ze ht (.tup [V.int size,V.ref t0,V.ref p]);refine k t t0 p size c0 ⟨sh,pl,r,decide (Oa ="late")⟩ a2 c2 _ Za ⟨wr,s3 _ _ (s2 _ _ (nt ew) ew),e1,e2,q1,q2,q3,q4,q5⟩ ⟨Oa,s3 _ _ e3,rfl,f6,f1,f2,f3,f4,f5⟩ z0 z1 (B2.same s3) (by lia) ((s1.trans s2).trans (s3.sb b))
inductive sS(vs:List V)(H:Hp)(Q:VK)(E:XK):Prop
 |mk (b l:Addr) (a q c size:Int) (ns:List Int):vs=[.ref b,.int size,.ref l]->aF H b a q c->l≠b->c<340000000->1<=size->size<=16->H l=some (.lst (ns.map V.int))->1<=ns.length->ns.length<=20->(∀x∈ns,0<=x/\x<=100000/\x<=9999/size)->(∀(u t:Addr)(h:Nat)(d:Dd)(a' c':Int)(H':Hp),H' u=some (.tup [.int (h:Int),.ref t])->H' t=some (.tup d.vs)->h<2->d.ok->d.sp/size∈ns->aF H' b a' q c'->c'<=c+13->SB b H H'->Q (.ref u) H')->sS vs H Q E
example:(nV EB cK F8):=by
 obtain ⟨b,l,a,q,c,size,ns,rfl,B,m9,hc,z0,z1,hl,l0,l1,AZ,k⟩:=h;refine⟨_,(Zd (dw 3 nd (Zl cK hr.m rfl (pc (pv 0) (pc Zi Zb))))
   (Zh (Zs (ZI (pc (pv 3) (pc (Zl F8 hr.m rfl (pc (pv 0) (pc (pv 1) (pc (pv 2) Zb)))) Zb)))))),?_⟩
 refine⟨_,rfl,b,a,q,c,2,rfl,B,by lia,by decide,by decide,λr1 a1 c1 H1 AJ DC B1 hc1 s1=>gN ?_⟩;try dsimp only
 obtain⟨h,rfl,hh⟩:∃h:Nat,r1=(h:Int)/\h<2:=⟨r1.toNat,by lia,by lia⟩;refine⟨_,rfl,_,rfl,_,rfl,_,rfl,b,l,a1,q,c1,size,ns,rfl,B1,m9,by lia,z0,z1,s1 _ _ m9 hl,l0,l1,AZ,λt d a2 c2 H2 et ok iU B2 hc2 s2=>⟨(sL 2),λu hu=>?_⟩⟩;have s3:=Ze hu (.tup [V.int (h:Int),V.ref t]);exact k u t h d a2 c2 _ Za (s3 _ _ et) hh ok iU (B2.same s3) (by lia) ((s1.trans s2).trans (s3.sb b))
noncomputable def IA(g:aP)(h:Nat)(st:ao):Dd->V
 | .rd sp=>.int (mO g ((bL g h (.rd sp) st).at_ h) sp)
 | .wt _ _=>.aS
inductive vZ(K:W.Frag)(vs:List V)(H:Hp)(Q:VK)(_v3:XK):Prop
 |mk (A:TA) (g:aP) (st:ao) (os:OS) (t:Addr) (h:Nat) (d:Dd):vs=[.ref A.p,.int (h:Int),.ref t]->qH K H A g st os->h<2->H t=some (.tup d.vs)->d.sp/g.size∈g.U->(∀H' e' os' tp,H' tp=some (.tup [IA g h st d,.ref A.ev])->qH K H' (A.re e') g (fq (bL g h d st)) os'->uY g.n H' A.ev (bL g h d st).ev->(bL g h d st).ev.length<=100->¬OW (A.re e') os' A.ev->bR (OW A os) H H' (OW (A.re e') os')->Q (.ref tp) H')->vZ K vs H Q _v3
example:(zj DN Em Ep):=by
 obtain ⟨A,g,st,os,t,h,d,rfl,R,hh,ht,bU,q⟩:=h;refine⟨_,(Zd (aI (ZB bM (av (ZY (K:=K) rfl) (pv 2) Zi (λ_ _=>rfl)) ZX (Zx _)) (Zh (Zs (Zj Em hr.m T.aM (pv 0) (pc (pv 1) (pc (av (ZY (K:=K) rfl) (pv 2) Zi (λ_ _=>rfl)) Zb))))) Zt)
   (Zh (Zs (ZI (pc Qu (pc (Zj Ep hr.m T.aM (pv 0) (pc (pv 1) (pc (av (ZY (K:=K) rfl) (pv 2) Zi (λ_ _=>rfl)) (pc (av (ZY (K:=K) rfl) (pv 2) Zi (λ_ _=>rfl)) Zb)))) Zb)))))),?_⟩
 obtain⟨dx,h1⟩:=R.at_.ob;cases d with
 |rd sp=>
  refine⟨_,rfl,t,_,_,_,rfl,rfl,aU.of ht,fO,rfl,_,rfl,fK (a5U rfl) ?_⟩;exact⟨_,rfl,A.p,dx,_,rfl,h1,au ..,_,rfl,_,rfl,t,_,_,_,rfl,rfl,aU.of ht,fN,A,g,st,os,h,sp,rfl,R,hh,bU,q⟩
 |wt sp x=>
  refine⟨_,rfl,t,_,_,_,rfl,rfl,aU.of ht,fO,rfl,_,rfl,cO (by decide +kernel) ?_⟩;dsimp only[gE];refine⟨_,rfl,A.p,dx,_,rfl,h1,au ..,_,rfl,_,rfl,t,_,_,_,rfl,rfl,aU.of ht,fN,_,rfl,t,_,_,_,rfl,rfl,aU.of ht,mw,A,g,st,os,h,sp,x,rfl,R,hh,bU,λH2 e' bS r1 r2 r3 r4 r5=>⟨(sL 2),λtp htp=>?_⟩⟩;have s3:=Ze htp (.tup [V.aS,.ref A.ev]);exact q _ e' bS tp Za (r1.same s3) (r2.frame (λo e=>s3 _ _ e) λx ys e=>s3 _ _ e) r3 r4 (r5.trans (bR.same s3))
theorem QV{g:aP}{st:ao}{h:Nat}{d:Dd}{bk:Int->Int}{x:Int}(hs:0<g.size)(w:aL g st)(hh:h<2)(l:∀x,Lw g bk x st):Lw g (Xy bk d) x (fq (bL g h d st)):=by
 cases d with
 |rd sp=>exact(Q2 hs w hh (l x)).fq
 |wt sp v=>exact(Yt hs w hh l).fq
structure Nx(g:aP)(st:ao):Prop where
 ex:∀h x,h<2->(st.at_ h).fr x=true->x∉(st.at_ (1-h)).seq
 tn:∀h x,h<2->(g.cf h).late=false->(st.at_ h).fr x=false
 tf:∀x,(g.cf 2).late=false->(st.at_ 2).fr x=false
structure Mo(g:aP)(a b:ao):Prop where
 sq:∀h x,h<2->x∈(b.at_ h).seq->x∈(a.at_ h).seq
 fr:∀h x,h<2->(b.at_ h).fr x=true->(a.at_ h).fr x=true
 f2:∀x,(b.at_ 2).fr x=true->(a.at_ 2).fr x=true\/(g.cf 2).late=true
theorem Mo.refl{g:aP}{a:ao}:Mo g a a:=⟨λ_ _ _ h=>h,λ_ _ _ h=>h,λ_ h=>.inl h⟩
theorem Mo.trans{g:aP}{a b c:ao}(x:Mo g a b)(y:Mo g b c):Mo g a c:=⟨λh z hh q=>x.sq h z hh (y.sq h z hh q),λh z hh q=>x.fr h z hh (y.fr h z hh q),λz q=>(y.f2 z q).elim (x.f2 z) .inr⟩
theorem JD{b:Bool}(h:¬b=true):b=false:=by simpa using h
theorem Nx.mo{g:aP}{a b:ao}(n:Nx g a)(m:Mo g a b):Nx g b:=by
 refine⟨λh x hh f z=>n.ex h x hh (m.fr h x hh f) (m.sq _ x (by lia) z),λh x hh l=>JD λf=>?_,λx l=>JD λf=>?_⟩
 .have q:=n.tn h x hh l;rw[m.fr h x hh f]at q;cases q
 .rcases m.f2 x f with q|q
  .have r:=n.tf x l;rw[q]at r;cases r
  .rw [l]at q;cases q
section
variable{g:aP}{st:ao}{h k:Nat}{b o x:Int}{ws:List Int}
theorem QU{e:List V}:Mo g st (st.tell e):=⟨λ_ _ _ h=>h,λ_ _ _ h=>h,λ_ h=>.inl h⟩
theorem oE:Mo g st (bD g k b ws st):=by
 unfold bD;split
 .exact ⟨λ_ _ _ h=>h,λ_ _ _ h=>h,λ_ h=>.inl h⟩
 .refine ⟨λh x _ q=>?_,λh x _ q=>?_,λx q=>.inl ?_⟩ <;> rw[Bp,ZG]at q <;> split at q
  .rename_i z;rw[z.1];exact q
  .exact q
  .rename_i z;rw[z.1];exact q
  .exact q
  .rename_i z;rw[z.1];exact q
  .exact q
theorem M6:Mo g st (bg g b ws st):=by
 unfold bg;split
 .rename_i l;refine(oE (k:=2) (b:=b) (ws:=ws)).trans ⟨λh x hh q=>?_,λh x hh q=>?_,λx _=>.inr l⟩
  .rw [Np (by lia)]at q;exact q
  .rw [Np (by lia)]at q;exact q
 .exact oE.trans oE
theorem ng(hl:k<st.rm.length):Mo g st (aZ k b st):=by
 refine⟨λh x _ q=>?_,λh x _ q=>(ni hl q).1,λx q=>.inl (ni hl q).1⟩;rw[bF hl]at q;split at q
 .exact aWM q
 .exact q
theorem Zhq(w:aL g st)(hh:h<2):Mo g st (aK g h o st):=by
 have hl:h<st.rm.length:=by rw[w.len];lia
 unfold aK;split
 .exact (ng hl).trans M6
 .exact ng hl
theorem QT{p:ao×List Int×Bool}(hl:h<p.1.rm.length):Mo g p.1 (aA h o p).1:=by
 unfold aA;split
 .split
  .exact ng hl
  .exact ng hl
 .exact Mo.refl
theorem Zhs(w:aL g st):Mo g st (aN g o st):=by
 have l3:=w.len;have m:Mo g st (fk o st).1:=by
  unfold fk;have l0:(aA 0 o (aZ 2 o st,(st.at_ 2).wd o,(st.at_ 2).fr o)).1.rm.length=3:=by
   rw[(M8 (h:=0) (o:=o) (p:=(aZ 2 o st,(st.at_ 2).wd o,(st.at_ 2).fr o)) (by show 0<(aZ 2 o st).rm.length;rw[bA];lia)).1];exact bA.trans l3
  exact(ng (by lia)).trans ((QT (p:=(aZ 2 o st,(st.at_ 2).wd o,(st.at_ 2).fr o)) (by show 0<(aZ 2 o st).rm.length;rw[bA];lia)).trans (QT (by lia)))
 unfold aN;split
 .exact m.trans oE
 .exact m
theorem Zii(w:aL g st):Mo g st (roomF g b st):=by
 unfold roomF;split
 .exact Mo.refl
 .exact Zhs w
theorem Rz(w:aL g st)(hh:h<2):Mo g st (aG g h b st):=by
 unfold aG;split
 .exact Mo.refl
 .exact Zhq w hh
theorem Qx(hb:b∈(st.at_ k).seq){e:List V}:Mo g st ((st.tell e).set k (ju (g.cf k) (st.at_ k) b)):=by
 refine⟨λh x _ q=>?_,λh x _ q=>?_,λx q=>.inl ?_⟩ <;> rw[ZG]at q <;> split at q
 .rename_i z;rw[z.1];exact(C3 hb).mem_iff.mp q
 .exact q
 .rename_i z;rw[z.1];exact q
 .exact q
 .rename_i z;rw[z.1];exact q
 .exact q
theorem ZjO(w:aL g st):Mo g st (bN g b st):=by
 unfold bN;split
 .rename_i hb;exact Qx hb
 .have m:=(QU (g:=g) (st:=st) (e:=eF g.n)).trans (Zii (b:=b) (w.sq (D5 (e:=eF g.n))));have hl:2<(roomF g b (st.tell (eF g.n))).rm.length:=by rw[((w.sq (D5 (e:=eF g.n))).roomF (b:=b)).1.len];lia
  refine m.trans ⟨λh x hh q=>?_,λh x _ q=>by rw[Bo]at q;exact q,λx q=>.inl (by rw[Bo]at q;exact q)⟩;rw[ZR hl,afn (by lia)]at q;exact q
theorem ZjP:Mo g st (bK g h b st):=by
 unfold bK;split
 .refine (M6 (b:=b) (ws:=(st.at_ h).wd b)).trans ⟨λk x _ q=>?_,λk x _ q=>?_,λx q=>.inl ?_⟩ <;> rw[ZG]at q <;> split at q
  .rename_i z;rw[z.1];exact q
  .exact q
  .rename_i z;have q:(if x=b then false else _)=true:=q;rw[z.1];by_cases c:x=b
   .rw [aaU c]at q;cases q
   .rw [afn c]at q;exact q
  .exact q
  .rename_i z;have q:(if x=b then false else _)=true:=q;rw[z.1];by_cases c:x=b
   .rw [aaU c]at q;cases q
   .rw [afn c]at q;exact q
  .exact q
 .exact Mo.refl
theorem QS(w:aL g st)(hh:h<2)(n:Nx g st)(hs:0<g.size):Nx g (bH g h b st):=by
 unfold bH;split
 .rename_i hb;exact n.mo (Qx hb)
 .obtain ⟨w1,m2,sub⟩:=w.bN (b:=b);have s:=JS (g:=g) (h:=1-h) m2;have w2:=w1.sq s;have f2:((bK g (1-h) b (bN g b st)).at_ (1-h)).fr b=false:=by
   unfold bK;split
   .have dl:(bg g b (((bN g b st).at_ (1-h)).wd b) (bN g b st)).rm.length=(bN g b st).rm.length:=by
     unfold bg;split
     .exact cy.trans bO.len
     .exact bO.len.trans bO.len
    rw[ao.bI (by rw[dl,w1.len];lia),aaU rfl];exact aaU rfl
   .rename_i f;exact JD f
  have n3:Nx g (aG g h b (bK g (1-h) b (bN g b st))):=((n.mo (ZjO w)).mo ZjP).mo (Rz w2 hh);have f3:((aG g h b (bK g (1-h) b (bN g b st))).at_ (1-h)).fr b=false:=JD λz=>by
   have q:=(Rz (b:=b) w2 hh).fr (1-h) b (by lia) z;rw[f2]at q;cases q
  obtain⟨w4,_,_⟩:=w2.aG (b:=b) hh;unfold cG;generalize aG g h b (bK g (1-h) b (bN g b st))=s3 at *;have hl:h<s3.rm.length:=by rw[w4.len];lia
  refine⟨λk x hk f z=>?_,λk x hk l=>by rw[Bo];exact n3.tn k x hk l,λx l=>by rw[Bo];exact n3.tf x l⟩;rw[Bo]at f;rw[ZR hl]at z;split at z
  .rename_i e;rcases aaI.mp z with z|z
   .exact n3.ex k x hk f z
   .rw [apU.mp z,show k=1-h by lia,f3]at f;cases f
  .exact n3.ex k x hk f z
theorem Yq{sp v:Int}(w:aL g st)(hh:h<2)(n:Nx g st)(hs:0<g.size):Nx g (lF g h sp v st):=by
 have n1:=QS (b:=sp/g.size) w hh n hs;obtain⟨w1,m1⟩:=w.bH (b:=sp/g.size) hh;unfold lF;generalize bH g h (sp/g.size) st=s1 at *;have OV:Mo g s1 (bw h (sp/g.size) s1)/\sp/g.size∉((bw h (sp/g.size) s1).at_ (1-h)).seq:=by
  unfold bw;split
  .have hl:1-h<s1.rm.length:=by rw[w1.len];lia
   refine⟨ng hl,λz=>?_⟩;rw[bF hl,aaU rfl]at z;exact((w1.nd _).mem_erase_iff.mp z).1 rfl
  .rename_i q;exact⟨Mo.refl,q⟩
 obtain⟨w2,q2⟩:=w1.bw (b:=sp/g.size) hh;generalize bw h (sp/g.size) s1=s2 at *;have OU:Mo g s2 (s2.set h (kE g (s2.at_ h) sp v)):=by
  refine⟨λk x _ q=>?_,λk x _ q=>?_,λx q=>.inl ?_⟩ <;> rw[ZG]at q <;> split at q
  .rename_i z;rw[z.1];exact q
  .exact q
  .rename_i z;rw[z.1];exact q
  .exact q
  .rename_i z;rw[z.1];exact q
  .exact q
 have n3:=(n1.mo OV.1).mo OU;have VS:sp/g.size∉((s2.set h (kE g (s2.at_ h) sp v)).at_ (1-h)).seq:=λz=>OV.2 (OU.sq _ _ (by lia) z);have l3:h<(s2.set h (kE g (s2.at_ h) sp v)).rm.length:=by rw[cy,w2.len];lia
 dsimp only;generalize s2.set h (kE g (s2.at_ h) sp v)=s3 at *;unfold markB;split
 .rename_i lt;have at':∀j,(qD h (sp/g.size) s3).at_ j=if j=h then GL (s3.at_ h) (sp/g.size) else s3.at_ j:=λj=>by
   unfold qD;rw[ao.bI l3]
  have Vd:∀j,((qD h (sp/g.size) s3).at_ j).seq=(s3.at_ j).seq:=λj=>by
   rw[at'];split
   .rename_i e;rw[e];rfl
   .rfl
  refine⟨λk x hk f z=>?_,λk x hk l=>?_,λx l=>by rw[at',afn (by lia)];exact n3.tf x l⟩
  .rw [Vd]at z;rw[at']at f;split at f
   .rename_i e;have f:(if x=sp/g.size then true else(s3.at_ h).fr x)=true:=f;by_cases c:x=sp/g.size
    .rw [c,e]at z;exact VS z
    .rw [afn c]at f;rw[e]at z;exact n3.ex h x hh f z
   .exact n3.ex k x hk f z
  .rw [at'];split
   .rename_i e;rw[e,lt]at l;cases l
   .exact n3.tn k x hk l
 .exact n3.mo M6
theorem Nx.fq(n:Nx g st):Nx g (fq st):=⟨n.ex,n.tn,n.tf⟩
theorem Yp:Nx g (qG 3):=by
 have e:∀j,(qG 3).at_ j=qW:=λj=>by
  unfold qG ao.at_;rw[auG,a7B];split <;> rfl
 exact⟨λh x _ f=>(by rw[e]at f;cases f),λh x _ _=>by rw[e];rfl,λx _=>by rw[e];rfl⟩
end
theorem ZjQ{g:aP}{st:ao}{h:Nat}{d:Dd}(w:aL g st)(hh:h<2)(n:Nx g st)(hs:0<g.size):Nx g (fq (bL g h d st)):=by
 cases d with
 |rd sp=>exact(QS w hh n hs).fq
 |wt sp x=>exact(Yq w hh n hs).fq
def sw(k:Nat):Nat:=if k=0 then 1 else if k=1 then 0 else k
def jv:List V->List V
 | [n,.int k]=>[n,.int (sw k.toNat:Nat)]
 | [n,.int k,b]=>[n,.int (sw k.toNat:Nat),b]
 |e=>e
theorem jg(k:Nat):sw (sw k)=k:=by
 unfold sw;by_cases c:k=0
 .rw [c];rfl
 .by_cases d:k=1
  .rw [d];rfl
  .rw [afn c,afn d,afn c,afn d]
theorem BH{j k:Nat}:sw j=sw k↔j=k:=⟨λh=>by rw[<-jg j,h,jg],λh=>by rw[h]⟩
theorem j4{k:Nat}(h:k<3):sw k<3:=by
 unfold sw;split
 .lia
 .split <;> lia
theorem BI{h:Nat}(hh:h<2):sw h=1-h:=by
 rcases(show h=0\/h=1 by lia) with rfl|rfl <;> rfl
theorem Au{k:Nat}:jv (eF k)=eF (sw k):=rfl
theorem ET{k:Nat}{b:Int}:jv (eO k b)=eO (sw k) b:=rfl
theorem EU{k:Nat}{b:Int}:jv (eI k b)=eI (sw k) b:=rfl
theorem As{k:Nat}{b:Int}:jv (eW k b)=eW (sw k) b:=rfl
structure HW(es fs:List (List V)):Prop where
 pm:fs.Perm (es.map jv)
 hd:fs.head?=(es.map jv).head?
theorem HW.snoc{es fs:List (List V)}{e:List V}(h:HW es fs):HW (es++[e]) (fs++[jv e]):=by
 refine⟨?_,?_⟩
 .rw [ado];exact h.pm.append_right _
 .rw [ado,head?_append,head?_append,h.hd];rfl
structure Sw(a b:ao):Prop where
 la:a.rm.length=3
 lb:b.rm.length=3
 at_:∀k,b.at_ (sw k)=a.at_ k
 mem:b.mem=a.mem
 ev:HW a.ev b.ev
section
variable{g:aP}{a b:ao}{o:Int}{k h:Nat}{ws:List Int}{s:Rm}
theorem Sw.tell(w:Sw a b){e f:List V}(q:f=jv e):Sw (a.tell e) (b.tell f):=⟨w.la,w.lb,w.at_,w.mem,by rw[q];exact w.ev.snoc⟩
theorem Sw.set(w:Sw a b):Sw (a.set k s) (b.set (sw k) s):=by
 refine⟨cy.trans w.la,cy.trans w.lb,λj=>?_,w.mem,w.ev⟩;rw[ZG,ZG,w.la,w.lb,w.at_];by_cases c:j=k/\k<3
 .rw [aaU c,aaU ⟨by rw[c.1],j4 c.2⟩]
 .rw [afn c,afn λz=>c ⟨BH.mp z.1,by have:=j4 z.2;rwa [jg]at this⟩]
theorem Sw.put(w:Sw a b)(n3:g.n=3)(hk:k<=3):Sw (bD g k o ws a) (bD g (sw k) o ws b):=by
 unfold bD;by_cases c:k=g.n
 .rw [aaU c,aaU (by rw[c,n3];rfl)];have m:jK g.size b.mem o ws=jK g.size a.mem o ws:=by rw[w.mem]
  exact Sw.tell (a:={ a with mem:=jK g.size a.mem o ws }) (b:={ b with mem:=jK g.size b.mem o ws }) ⟨w.la,w.lb,w.at_,m,w.ev⟩ As.symm
 .rw [afn c,afn λz=>c (by rw[<-jg k,z,n3];rfl),w.at_];exact w.set.tell As.symm
theorem Sw.fresh(w:Sw a b):Sw (qD k o a) (qD (sw k) o b):=by
 unfold qD;rw[w.at_];exact w.set
theorem Sw.go(w:Sw a b):Sw (aZ k o a) (aZ (sw k) o b):=by
 unfold aZ;rw[w.at_];exact(w.tell ET.symm).set
theorem Sw.Hh(w:Sw a b):Sw (bV k o ws a) (bV (sw k) o ws b):=by
 unfold bV;rw[w.at_];exact w.set.tell EU.symm
theorem Sw.down(w:Sw a b)(n3:g.n=3):Sw (bg g o ws a) (bg g o ws b):=by
 have p:=w.put (g:=g) (k:=2) (o:=o) (ws:=ws) n3 (by lia);unfold bg;split
 .exact p.fresh
 .have q:=p.put (g:=g) (k:=g.n) (o:=o) (ws:=ws) n3 (by lia);rw[n3]at q ⊢;exact q
theorem Sw.aK(w:Sw a b)(n3:g.n=3):Sw (aj.aK g h o a) (aj.aK g (sw h) o b):=by
 unfold aj.aK;rw[w.at_];split
 .exact w.go.down n3
 .exact w.go
theorem Sw.aA{p q:ao×List Int×Bool}(w:Sw p.1 q.1)(e:p.2=q.2):Sw (aj.aA h o p).1 (aj.aA (sw h) o q).1/\(aj.aA h o p).2=(aj.aA (sw h) o q).2:=by
 unfold aj.aA;rw[w.at_];split
 .split
  .exact ⟨w.go,rfl⟩
  .exact ⟨w.go,e⟩
 .exact ⟨w,e⟩
theorem Jv{x:ao}{j k:Nat}(l:x.rm.length=3)(n:j≠k):(aZ k o x).at_ j=x.at_ j:=by
 unfold aZ;rw[ZG,afn λz=>n z.1];rfl
theorem Zij{p:ao×List Int×Bool}(l:p.1.rm.length=3)(ne:p.1.ev≠[])(x0:(p.1.at_ 0).fr o=true->o∉(p.1.at_ 1).seq)(x1:(p.1.at_ 1).fr o=true->o∉(p.1.at_ 0).seq) :
  (∀j,(aj.aA 0 o (aj.aA 1 o p)).1.at_ j=(aj.aA 1 o (aj.aA 0 o p)).1.at_ j)/\(aj.aA 0 o (aj.aA 1 o p)).1.rm.length=(aj.aA 1 o (aj.aA 0 o p)).1.rm.length/\(aj.aA 0 o (aj.aA 1 o p)).1.mem=(aj.aA 1 o (aj.aA 0 o p)).1.mem/\(aj.aA 0 o (aj.aA 1 o p)).2=(aj.aA 1 o (aj.aA 0 o p)).2 /\
   (aj.aA 0 o (aj.aA 1 o p)).1.ev.Perm (aj.aA 1 o (aj.aA 0 o p)).1.ev/\(aj.aA 0 o (aj.aA 1 o p)).1.ev.head?=(aj.aA 1 o (aj.aA 0 o p)).1.ev.head?:=by
 obtain⟨st,ws,f⟩:=p;dsimp only at l ne x0 x1;have g0:(aZ 0 o st).at_ 1=st.at_ 1:=Jv l (by lia);have g1:(aZ 1 o st).at_ 0=st.at_ 0:=Jv l (by lia);by_cases c0:o∈(st.at_ 0).seq
 .by_cases c1:o∈(st.at_ 1).seq
  .have f0:¬(st.at_ 0).fr o=true:=λz=>x0 z c1;have f1:¬(st.at_ 1).fr o=true:=λz=>x1 z c0;have a1:aj.aA 1 o (st,ws,f)=(aZ 1 o st,ws,f):=by unfold aj.aA;rw[aaU c1,afn f1]
   have a0:aj.aA 0 o (st,ws,f)=(aZ 0 o st,ws,f):=by unfold aj.aA;rw[aaU c0,afn f0]
   have b1:aj.aA 0 o (aZ 1 o st,ws,f)=(aZ 0 o (aZ 1 o st),ws,f):=by unfold aj.aA;dsimp only;rw[g1,aaU c0,afn f0]
   have b0:aj.aA 1 o (aZ 0 o st,ws,f)=(aZ 1 o (aZ 0 o st),ws,f):=by unfold aj.aA;dsimp only;rw[g0,aaU c1,afn f1]
   rw[a1,a0,b1,b0];dsimp only;refine⟨λj=>?_,?_,rfl,rfl,?_,?_⟩
   .rw [dB (st:=aZ 1 o st) (k:=0) (b:=o) (j:=j) (by rw[bA,l];lia),g1,dB (st:=st) (k:=1) (b:=o) (j:=j) (by rw[l];lia),dB (st:=aZ 0 o st) (k:=1) (b:=o) (j:=j) (by rw[bA,l];lia),g0,dB (st:=st) (k:=0) (b:=o) (j:=j) (by rw[l];lia)];by_cases e0:j=0
    .rw [aaU e0,afn (by lia),aaU e0]
    .by_cases e1:j=1
     .rw [afn e0,aaU e1,aaU e1]
     .rw [afn e0,afn e1,afn e1,afn e0]
   .rw [bA,bA,bA,bA]
   .show ((st.ev++[eO 1 o])++[eO 0 o]).Perm ((st.ev++[eO 0 o])++[eO 1 o]);rw[aBM,aBM];exact(List.Perm.swap _ _ _).append_left _
   .show ((st.ev++[eO 1 o])++[eO 0 o]).head?=((st.ev++[eO 0 o])++[eO 1 o]).head?;rw[aBM,aBM,head?_append,head?_append];cases q:st.ev with
    |nil=>exact absurd q ne
    |cons e r=>rfl
  .have a1:aj.aA 1 o (st,ws,f)=(st,ws,f):=by unfold aj.aA;rw[afn c1]
   have b:∀ws f,aj.aA 1 o (aZ 0 o st,ws,f)=(aZ 0 o st,ws,f):=λws f=>by unfold aj.aA;dsimp only;rw[g0,afn c1]
   have a0:∃BD f',aj.aA 0 o (st,ws,f)=(aZ 0 o st,BD,f'):=by
    unfold aj.aA;rw[aaU c0];split
    .exact ⟨_,_,rfl⟩
    .exact ⟨_,_,rfl⟩
   obtain⟨BD,f',a0⟩:=a0;rw[a1,a0,b];exact⟨λ_=>rfl,rfl,rfl,rfl,.refl _,rfl⟩
 .have a0:aj.aA 0 o (st,ws,f)=(st,ws,f):=by unfold aj.aA;rw[afn c0]
  rw[a0];by_cases c1:o∈(st.at_ 1).seq
  .have a1:∃BD f',aj.aA 1 o (st,ws,f)=(aZ 1 o st,BD,f'):=by
    unfold aj.aA;rw[aaU c1];split
    .exact ⟨_,_,rfl⟩
    .exact ⟨_,_,rfl⟩
   obtain⟨BD,f',a1⟩:=a1;have b:aj.aA 0 o (aZ 1 o st,BD,f')=(aZ 1 o st,BD,f'):=by unfold aj.aA;dsimp only;rw[g1,afn c0]
   rw[a1,b];exact⟨λ_=>rfl,rfl,rfl,rfl,.refl _,rfl⟩
  .have a1:aj.aA 1 o (st,ws,f)=(st,ws,f):=by unfold aj.aA;rw[afn c1]
   rw[a1,a0];exact⟨λ_=>rfl,rfl,rfl,rfl,.refl _,rfl⟩
theorem Sw.aN(w:Sw a b)(n3:g.n=3)(nx:Nx g a):Sw (aj.aN g o a) (aj.aN g o b):=by
 have w2:Sw (aZ 2 o a) (aZ 2 o b):=w.go;obtain⟨h1,h2⟩:=w2.aA (h:=1) (o:=o) (p:=(aZ 2 o a,(a.at_ 2).wd o,(a.at_ 2).fr o)) (q:=(aZ 2 o b,(b.at_ 2).wd o,(b.at_ 2).fr o)) (by rw[show b.at_ 2=a.at_ 2 from w.at_ 2]);obtain⟨h3,h4⟩:=h1.aA (h:=0) (o:=o) h2;have h3:Sw _ (fk o b).1:=h3;have h4:_=(fk o b).2:=h4;have g0:(aZ 2 o a).at_ 0=a.at_ 0:=Jv w.la (by lia);have g1:(aZ 2 o a).at_ 1=a.at_ 1:=Jv w.la (by lia);obtain⟨c1,c2,c3,c4,c5,c6⟩:=Zij (o:=o) (p:=(aZ 2 o a,(a.at_ 2).wd o,(a.at_ 2).fr o)) (bA.trans w.la) (by
  show a.ev++[eO 2 o]≠[];simp) (by
  show((aZ 2 o a).at_ 0).fr o=true->o∉((aZ 2 o a).at_ 1).seq;rw[g0,g1];exact nx.ex 0 o (by lia)) (by
  show((aZ 2 o a).at_ 1).fr o=true->o∉((aZ 2 o a).at_ 0).seq;rw[g0,g1];exact nx.ex 1 o (by lia))
 have wl:Sw (fk o a).1 (fk o b).1:=⟨c2.symm.trans h3.la,h3.lb,λj=>(h3.at_ j).trans (c1 j),h3.mem.trans c3,⟨h3.ev.pm.trans (c5.map jv),by rw[h3.ev.hd,head?_map,head?_map,c6];rfl⟩⟩;have e2:(fk o a).2=(fk o b).2:=c4.symm.trans h4;unfold aj.aN;rw[e2];split
 .have q:=wl.put (g:=g) (k:=g.n) (o:=o) (ws:=(fk o b).2.1) n3 (by lia);rw[n3]at q ⊢;exact q
 .exact wl
theorem Sw.roomF(w:Sw a b)(n3:g.n=3)(nx:Nx g a):Sw (aj.roomF g o a) (aj.roomF g o b):=by
 unfold aj.roomF;rw[show b.at_ 2=a.at_ 2 from w.at_ 2];split
 .exact w
 .exact w.aN n3 nx
theorem Sw.bN(w:Sw a b)(n3:g.n=3)(nx:Nx g a):Sw (aj.bN g o a) (aj.bN g o b):=by
 unfold aj.bN;rw[show b.at_ 2=a.at_ 2 from w.at_ 2];split
 .exact (w.tell Au.symm).set
 .have r:=(w.tell (e:=eF g.n) (f:=eF g.n) (by rw[n3];rfl)).roomF (o:=o) n3 (nx.mo QU);rw[r.mem];exact r.Hh
theorem Sw.K7(w:Sw a b)(n3:g.n=3):Sw (bK g h o a) (bK g (sw h) o b):=by
 unfold bK;rw[w.at_];split
 .have r:=w.down (g:=g) (o:=o) (ws:=(a.at_ h).wd o) n3;show Sw (ao.set _ h _) (ao.set _ (sw h) _);rw[r.at_];exact r.set
 .exact w
theorem Sw.aG(w:Sw a b)(n3:g.n=3)(hc:g.cf (sw h)=g.cf h):Sw (aj.aG g h o a) (aj.aG g (sw h) o b):=by
 unfold aj.aG;rw[w.at_,hc];split
 .exact w
 .exact w.aK n3
theorem Sw.cG(w:Sw a b)(n3:g.n=3)(hc:g.cf (sw h)=g.cf h):Sw (aj.cG g h o a) (aj.cG g (sw h) o b):=by
 have r:=w.aG (o:=o) n3 hc;unfold aj.cG;rw[show(aj.aG g (sw h) o b).at_ 2=(aj.aG g h o a).at_ 2 from r.at_ 2];exact r.Hh
theorem Sw.bH(w:Sw a b)(n3:g.n=3)(nx:Nx g a)(hh:h<2)(hc:g.cf (sw h)=g.cf h):Sw (aj.bH g h o a) (aj.bH g (sw h) o b):=by
 unfold aj.bH;rw[w.at_,hc];split
 .exact (w.tell Au.symm).set
 .have r:=((w.bN (o:=o) n3 nx).K7 (h:=1-h) (o:=o) n3).cG (h:=h) (o:=o) n3 hc;rwa [show sw (1-h)=1-sw h by rcases(show h=0\/h=1 by lia) with rfl|rfl <;> rfl]at r
theorem Sw.bw(w:Sw a b)(hh:h<2):Sw (aj.bw h o a) (aj.bw (sw h) o b):=by
 have e:1-sw h=sw (1-h):=by rcases(show h=0\/h=1 by lia) with rfl|rfl <;> rfl
 unfold aj.bw;rw[e,w.at_];split
 .exact w.go
 .exact w
theorem Sw.mark(w:Sw a b)(n3:g.n=3)(hc:g.cf (sw h)=g.cf h):Sw (markB g h o a) (markB g (sw h) o b):=by
 unfold markB;rw[w.at_,hc];split
 .exact w.fresh
 .exact w.down n3
theorem Sw.step{d:Dd}(w:Sw a b)(n3:g.n=3)(nx:Nx g a)(hh:h<2)(hc:g.cf (sw h)=g.cf h):Sw (bL g h d a) (bL g (sw h) d b):=by
 cases d with
 |rd sp=>exact w.bH n3 nx hh hc
 |wt sp x=>
  have r:=(w.bH (o:=sp/g.size) n3 nx hh hc).bw (o:=sp/g.size) hh;show Sw (markB g h _ (ao.set _ h _)) (markB g (sw h) _ (ao.set _ (sw h) _));rw[r.at_];exact r.set.mark n3 hc
theorem Sw.fq(w:Sw a b):Sw (fq a) (fq b):=⟨w.la,w.lb,w.at_,w.mem,⟨.refl _,rfl⟩⟩
theorem Yo:Sw (qG 3) (qG 3):=by
 have e:∀j,(qG 3).at_ j=qW:=λj=>by
  unfold qG ao.at_;rw[auG,a7B];split <;> rfl
 exact⟨aSy ..,aSy ..,λk=>by rw[e,e],rfl,⟨.refl _,rfl⟩⟩
end
inductive mZ(K:W.Frag)(vs:List V)(H:Hp)(Q:VK)(E:XK):Prop
 |mk (A:TA) (g:aP) (st:ao) (os:OS) (n k:Nat):vs=[.ref A.p,.int (k:Int)]->aa K H A g st os n->k<g.n->g.U.length<64->(∀(D:Addr)(cs:List Int),H D=none->(∀x,x∈cs↔(st.at_ k).fr x=true)->cs.length<64->cs.Pairwise (·<=·)->cs.Nodup->Q (.ref D) (upd H D (.lst (cs.map V.int))))->mZ K vs H Q E
example:(iR yU wF):=by
 obtain⟨A,g,st,os,n,k,rfl,R,hk,hU,q⟩:=h;refine⟨_,(Zh (Zs (Zp (S7 rfl) rfl T.Al ao6 (pc (Zk (K:=K) rfl (Zj wF hr.m T.aM (pv 0) (pc (pv 1) Zb)) rfl) Zb)))),?_⟩;obtain⟨dx,h1⟩:=R.ob;have ln:=R.ln;obtain⟨a,e1,e2,e3,B⟩:=R.at_ (k:=k) (by lia);obtain⟨ds,h3⟩:=B.aW.ob;obtain⟨kf,h4,⟨ks,h5,h6⟩,h7⟩:=B.fresh;have mem:∀b,b∈ks↔(st.at_ k).fr b=true:=λb=>by
  have z:=CZ (kvs:=kf) (Sum.inl b);rw[h7 b,h5]at z;constructor
  .intro m;have:=z.mpr (ac1 m);by_cases c:(st.at_ k).fr b=true
   .exact c
   .rw [afn c]at this;cases this
  .intro m;rw[aaU m]at z;obtain⟨x,hx,e⟩:=awR.mp (z.mp rfl);rw[<-aKC e];exact hx
 have OZ:ks.length<64:=aq5 (CM h6 λx hx=>R.vD _ (bcc e3) x (B.xG x ((mem x).mp hx))) hU;exact⟨_,rfl,A.p,dx,_,rfl,h1,au ..,_,rfl,A,g,st,os,n,k,a,rfl,R,e1,a.sp,_,ds,_,_,rfl,h3,T.dH,T.Dw,HD ..,a.df,kf,ks,rfl,h4,h5,OZ,λD cs hD po pw=>q D cs hD (λx=>po.mem_iff.trans (mem x)) (by rw[po.length_eq];exact OZ) pw (po.nodup_iff.mpr h6)⟩
theorem F2{kvs:List (Key×V)}{ks:List Int}{mem:Int->Int}(h:kvs.map Prod.fst=ks.map Sum.inl)(nd:ks.Nodup)(hv:∀s,aV kvs (Sum.inl s:Key)=if mem s=0 then none else some (.int (mem s))):kvs=(ks.map λk=>(k,mem k)).map λp=>(Sum.inl p.1,V.int p.2):=by
 have key:∀{kvs:List (Key×V)}{ks:List Int},kvs.map Prod.fst=ks.map Sum.inl->ks.Nodup->(∀k∈ks,aV kvs (Sum.inl k:Key)=some (.int (mem k)))->kvs=(ks.map λk=>(k,mem k)).map λp=>(Sum.inl p.1,V.int p.2):=by
  intro kvs
  induction kvs with
  |nil=>
   intro ks h _ _;cases ks with
   |nil=>rfl
   |cons k r=>cases h
  |cons p r ih=>
   intro ks h nd hv;cases ks with
   |nil=>cases h
   |cons k ks=>
    rw[a2a,a2a]at h;injection h with h1 h2
    obtain⟨n1,n2⟩:=baB.mp nd;have v0:=hv k aTL;rw[ZJ h1]at v0;rw[a2a,a2a,<-ih h2 n2 λk' m=>by
     have v:=hv k' (arx _ m);rw[ZF λz=>n1 (by rw[aKC (h1.symm.trans z)];exact m)]at v;exact v]
    rw[<-h1,<-a9h v0]
 refine key h nd λk m=>?_;have z:=(CZ (kvs:=kvs) (Sum.inl k)).mpr (by rw[h];exact ac1 m);have v:=hv k;by_cases c:mem k=0
 .rw [aaU c]at v;rw[v]at z;cases z
 .rw [afn c]at v;exact v
inductive sQ(K:W.Frag)(vs:List V)(H:Hp)(Q:VK)(E:XK):Prop
 |mk (bm dk:Addr) (size:Int) (mem:Int->Int) (U:List Int):vs=[.ref bm]->dG K H bm dk size mem U->0<size->size<=1000->U.length<=800->(∀(D:Addr)(ps:List (Int×Int))(H':Hp),H D=none->aB H H'->qI H' D ps->zT mem ps->Q (.ref D) H')->sQ K vs H Q E
example:(jI Eo):=by
 obtain⟨bm,dk,size,mem,U,rfl,M,z0,z1,lU,q⟩:=h;refine⟨_,(Zh (Zs (Zp (ZdK rfl) rfl T.Al ao6 (pc (ZgF (Zk (K:=K) rfl (pv 0) rfl)) Zb)))),?_⟩;obtain⟨dx,h1⟩:=M.ob;obtain⟨kvs,h2,hk,h4⟩:=M.kept;have kl:=Rh z0 hk h4 M.sup;obtain⟨ks,h5,h6⟩:=hk;have ek:=F2 h5 h6 h4;rw[ek]at h2;have mk:∀k,k∈ks↔mem k≠0:=λk=>by
  have z:=CZ (kvs:=kvs) (Sum.inl k);rw[h4 k,h5]at z;constructor
  .intro m c;rw[aaU c]at z;exact absurd (z.mpr (ac1 m)) a7q
  .intro c;rw[afn c]at z;obtain⟨x,hx,e⟩:=awR.mp (z.mp rfl);rw[<-aKC e];exact hx
 have lk:ks.length<=1000000:=by
  have l:=azy List.length h5;rw[axO,axO]at l;rw[<-l];exact a0n kl (a0n (Nat.mul_le_mul lU (by lia:size.toNat<=1000)) (by decide))
 refine⟨_,rfl,bm,_,dx,_,_,rfl,h1,T.wI,T.Ek,JT ..,dk,_,rfl,h2,λv hv=>?_⟩;have s1:=Ze hv (.ext λh=>h.IsItemsView v dk);refine⟨v,dk,ks.map λk=>(k,mem k),rfl,Za,s1 _ _ h2,by rw[ahh];exact(map_id ks).symm ▸h6,by rw[axO];exact lk,λD os H' hD s2 eD et pm pw=>?_⟩;refine q D (os.map λe=>e.2) H' (s1.free hD) (s1.trans s2) ⟨os.map λe=>e.1,by rw[ahh];exact eD,by rw[axO,axO],λi a p e1 e2=>?_⟩ ⟨aB6.mpr pw,λs v=>?_⟩
 .rw [acC]at e1 e2;cases e:os[i]? with
  |none=>rw[e]at e1;cases e1
  |some x=>
   rw[e]at e1 e2;cases e1;cases e2;exact(et x (bcc e)).2
 .rw [pm.mem_iff,mem_map];constructor
  .rintro ⟨k,hk,e⟩;cases e;exact⟨rfl,(mk _).mp hk⟩
  .rintro ⟨e1,e2⟩;exact⟨s,(mk s).mpr (by rw[e1];exact e2),by rw[e1]⟩
inductive pC(K:W.Frag)(vs:List V)(H:Hp)(Q:VK)(E:XK):Prop
 |mk (A:TA) (g:aP) (st:ao) (os:OS) (n:Nat):vs=[.ref A.p]->aa K H A g st os n->(∀(D:Addr)(ps:List (Int×Int))(H':Hp),H D=none->aB H H'->qI H' D ps->zT st.mem ps->Q (.ref D) H')->pC K vs H Q E
example:(jF Dy Eo):=by
 obtain⟨A,g,st,os,n,rfl,R,q⟩:=h;refine⟨_,(Zh (Zs (ZV Eo hr.m T.wI (Zk (K:=K) rfl (pv 0) rfl)))),?_⟩;obtain⟨dx,h1⟩:=R.ob;obtain⟨dm,h2⟩:=R.mem.ob;have z0:=R.wf.z0;exact⟨_,rfl,A.p,_,dx,_,_,rfl,h1,T.aM,T.IB,Nq ..,A.bm,dm,_,rfl,h2,wZ ..,A.bm,A.dk,g.size,st.mem,g.U,rfl,R.mem,by lia,R.wf.z1,R.wf.lU,q⟩
theorem Yn(xs:List V)(n:Nat):cA xs none (some (n:Int))=xs.take n:=by
 unfold cA;rw[HT.pU,HT.nT,drop_zero,Nat.sub_zero];by_cases c:n<=xs.length
 .rw [Nat.min_eq_left c]
 .rw [Nat.min_eq_right (by lia),agp (ags _),agp (by lia)]
theorem MD{xs:List Addr}:cA (xs.map V.ref) none (some 1)=(xs.take 1).map V.ref:=(Yn _ 1).trans List.map_take.symm
theorem MP{n:Nat}(n4:n<=4){e:List V}(h:Ev n e):yg e:=by
 rcases h with⟨k,hk,rfl⟩|⟨k,b,⟨h1,h2,h3⟩,rfl|rfl⟩|⟨k,b,⟨h1,h2,h3⟩,rfl⟩
 .exact ⟨_,_,0,⟨by lia,by lia⟩,⟨by lia,by lia⟩,.inl ⟨rfl,rfl⟩⟩
 .exact ⟨_,_,b,⟨by lia,by lia⟩,⟨h2,h3⟩,.inr ⟨.inl rfl,rfl⟩⟩
 .exact ⟨_,_,b,⟨by lia,by lia⟩,⟨h2,h3⟩,.inr ⟨.inr (.inl rfl),rfl⟩⟩
 .exact ⟨_,_,b,⟨by lia,by lia⟩,⟨h2,h3⟩,.inr ⟨.inr (.inr rfl),rfl⟩⟩
theorem Ar{k:Nat}(h:k<=3):sw k<=3:=by
 unfold sw;split
 .lia
 .split <;> lia
theorem GR{e:List V}(h:Ev 3 e):Ev 3 (jv e):=by
 rcases h with⟨k,hk,rfl⟩|⟨k,b,⟨h1,h2⟩,rfl|rfl⟩|⟨k,b,⟨h1,h2⟩,rfl⟩
 .exact .inl ⟨_,Ar hk,rfl⟩
 .exact .inr (.inl ⟨_,b,⟨j4 h1,h2⟩,.inl rfl⟩)
 .exact .inr (.inl ⟨_,b,⟨j4 h1,h2⟩,.inr rfl⟩)
 .exact .inr (.inr ⟨_,b,⟨Ar h1,h2⟩,rfl⟩)
theorem Ym{e:List V}(h:Ev 3 e):∃(n:Str)(k:Nat)(r:List V),e=.str n :: .int (k:Int) ::r/\k<=3/\r.length<=1/\jv e=.str n :: .int (sw k:Nat) ::r:=by
 rcases h with⟨k,hk,rfl⟩|⟨k,b,⟨h1,h2⟩,rfl|rfl⟩|⟨k,b,⟨h1,h2⟩,rfl⟩
 .exact ⟨_,k,_,rfl,hk,aL2 _,rfl⟩
 .exact ⟨_,k,_,rfl,by lia,ags _,rfl⟩
 .exact ⟨_,k,_,rfl,by lia,ags _,rfl⟩
 .exact ⟨_,k,_,rfl,by lia,ags _,rfl⟩
theorem ZjR{k:Nat}(h:k<=3):fP [V.int 1,V.int 0,V.int 2,V.int 3] (k:Int)=some (.int (sw k:Nat)):=by
 rcases(show k=0\/k=1\/k=2\/k=3 by lia) with rfl|rfl|rfl|rfl
 .exact fO
 .exact fN
 .exact mw
 .exact ML
theorem GZ{a b:V}:∀{r:List V},r.length<=1->cA (a ::b ::r) (some 2) none=r
 | [],_=>rfl
 | [_],_=>rfl
 |_ ::_ ::_,h=>by simp at h
theorem GS{n:Nat}{e:List V}(h:Ev n e):e.length<=3/\∀v∈e,Sc v:=by
 rcases h with⟨k,_,rfl⟩|⟨k,b,_,rfl|rfl⟩|⟨k,b,_,rfl⟩
 .refine ⟨aUl rfl,λv hv=>?_⟩;simp only[a9e,a7K,a9R]at hv;rcases hv with rfl|rfl <;> trivial
 all_goals
  refine⟨aUl rfl,λv hv=>?_⟩;simp only[a9e,a7K,a9R]at hv;rcases hv with rfl|rfl|rfl <;> trivial
theorem Z9{e:List V}(h:Ev 3 e):jv (jv e)=e:=by
 rcases h with⟨k,hk,rfl⟩|⟨k,b,_,rfl|rfl⟩|⟨k,b,_,rfl⟩
 .show [V.str "found",V.int (sw (sw k):Nat)]=_;rw[jg]
 .show [V.str "in",V.int (sw (sw k):Nat),V.int b]=_;rw[jg]
 .show [V.str "out",V.int (sw (sw k):Nat),V.int b]=_;rw[jg]
 .show [V.str "words",V.int (sw (sw k):Nat),V.int b]=_;rw[jg]
theorem Z8{es fs:List (List V)}(h:HW es fs)(he:∀e∈es,Ev 3 e):(fs.map jv).Perm es/\(fs.map jv).take 1=es.take 1:=by
 have e2:(es.map jv).map jv=es:=by
  rw[ahh];exact(aHS λe m=>Z9 (he e m)).trans (map_id _)
 refine⟨by have q:=h.pm.map jv;rwa [e2]at q,?_⟩;have q:(fs.map jv).head?=es.head?:=by rw[head?_map,h.hd,<-head?_map,e2]
 cases c:fs.map jv with
 |nil=>rw[c]at q;cases es with|nil=>rfl|cons e r=>cases q
 |cons x r=>rw[c]at q;cases es with|nil=>cases q|cons e r2=>cases q;rfl
def cnt(H:Hp)(a:Addr):List V:=match H a with|some (.tup e)=>e|_=>[]
theorem Qw{H:Hp}{a:Addr}{e:List V}(h:H a=some (.tup e)):cnt H a=e:=by unfold cnt;rw[h]
theorem Qv{H:Hp}{ts os:List Addr}{es:List (List V)}(l:ts.length=es.length)(h:∀(i:Nat)(t:Addr)(e:List V),ts[i]?=some t->es[i]?=some e->H t=some (.tup e))(p:os.Perm ts)(w:os.Pairwise λx y=>zH H x<=zH H y) :
  (os.map (cnt H)).Perm es/\((os.map (cnt H)).Pairwise λx y=>qt x<=qt y)/\∀(i:Nat)(t:Addr)(e:List V),os[i]?=some t->(os.map (cnt H))[i]?=some e->H t=some (.tup e):=by
 have em:ts.map (cnt H)=es:=by
  refine aAT λi=>?_;rw[acC];by_cases c:i<ts.length
  .have e2:es[i]?=some (es[i]'(by lia)):=aun _;rw[aun c,e2];exact azy some (Qw (h i _ _ (aun c) e2))
  .rw [baC (by lia),baC (by lia)];rfl
 have ex:∀t∈os,H t=some (.tup (cnt H t)):=λt ht=>by
  obtain⟨i,hi⟩:=aTN.mp (p.mem_iff.mp ht);have c:=(aB9.mp hi).1;have e2:es[i]?=some (es[i]'(by lia)):=aun _;have z:=h i _ _ hi e2;rw[Qw z];exact z
 refine⟨by rw[<-em];exact p.map _,aB6.mpr (w.imp_of_mem λ{a b} ha hb q=>?_),λi t e e1 e2=>?_⟩
 .rwa [JK (ex a ha),JK (ex b hb)]at q
 .rw [acC,e1]at e2;cases e2;exact ex t (bcc e1)
theorem Zik{es fs:List (List V)}(p:es.Perm fs)(k:∀e∈es,yg e)(w:es.Pairwise λx y=>qt x<=qt y)(w':fs.Pairwise λx y=>qt x<=qt y):es=fs:=
 aGv (λa b ha hb h1 h2=>ZjD (k a ha) (k b (p.mem_iff.mpr hb)) (Int.le_antisymm h1 h2)) w w' p
theorem SJ{K:W.Frag}{G:Hp}{ts us:List Addr}{es:List (List V)}(l:ts.length=es.length)(h:∀(i:Nat)(t:Addr)(e:List V),ts[i]?=some t->es[i]?=some e->G t=some (.tup e))(h':∀(i:Nat)(t:Addr)(e:List V),us[i]?=some t->es[i]?=some e->G t=some (.tup e))(he:∀e∈es,Ev 3 e) :
  ∀(i:Nat)(u v:V),(ts.map V.ref)[i]?=some u->(us.map V.ref)[i]?=some v->Im K G 1 u v true:=λi u v e1 e2=>by
 rw[acC]at e1 e2;cases c1:ts[i]? with
 |none=>rw[c1]at e1;cases e1
 |some t=>
  cases c2:us[i]? with
  |none=>rw[c2]at e2;cases e2
  |some t'=>
   rw[c1]at e1;rw[c2]at e2;cases e1;cases e2;have li:=(aB9.mp c1).1;have e3:es[i]?=some (es[i]'(by lia)):=aun _;obtain⟨_,sc⟩:=GS (he _ (bcc e3));have fl:∀v∈es[i]'(by lia),cH v=true:=λv hv=>by
    have:=sc v hv;cases v <;> first|rfl|exact this.elim
   refine .inr ⟨t,t',_,_,λ_=>true,rfl,rfl,λj u v q1 q2=>?_,.inr ⟨aU.of (h i t _ c1 e3),aU.of (h' i t' _ c2 e3),by simp⟩⟩;rw[q1]at q2;cases q2;have f:=fl u (bcc q1);exact⟨f,f,(NI f).symm⟩
inductive vJ(K:W.Frag)(vs:List V)(H:Hp)(Q:VK)(_v3:XK):Prop
 |mk (l:Addr) (es:List (List V)):vs=[.ref l]->uY 3 H l es->es.length<=900->(∀m H',aB H H'->uY 3 H' m (es.map jv)->Q (.ref m) H')->vJ K vs H Q _v3
example:(rG Dz):=by
 obtain⟨l,es,rfl,⟨he,ts,h1,h2,h3⟩,l9,q⟩:=h;refine⟨_,(Zh (Zs (ZZ (ZK (kF:=(Zr iM)) (oN:=uN) (N:=["_law_event"]) (own:=1) (js:=[]) (by decide +kernel) rfl rfl) rfl (Ef (K:=K) rfl (pv 0)) (λ_ _ _ _ _ _=>(cu 0 (show List.Nodup (["_law_event"]:List Str) by decide +kernel))) (λ_ _ _ _ _ _=>(ak YY (ZI (pc (av (ZY (K:=K) rfl) (pv 0) Zi (λ_ _=>rfl)) (pc (av (Zn (K:=K) rfl) (qE (pc Zi (pc Zi (pc Zi (pc Zi Zb))))) (av (ZY (K:=K) rfl) (pv 0) Zi (λ_ _=>rfl)) (λ_ _=>rfl)) Zb))) (HS YX (pv 0) (Eb Zi) J3)))))),?_⟩;refine⟨_,rfl,l,rfl,⟨_,az.of h1⟩,λlz A7=>?_⟩;refine Kr (K:=K) (a:=l) (xs:=ts.map V.ref) (l:=lz) (λj ys σ G=>∃(v0:Option V)(us:List Addr),σ=[v0]/\ys=us.map V.ref/\us.length=j/\G lz=some (.lst ys)/\aB H G/\∀(i:Nat)(t:Addr)(e:List V),us[i]?=some t->(es.map jv)[i]?=some e->G t=some (.tup e)) ⟨none,[],rfl,rfl,rfl,Za,Ze A7 _,λi t e h=>(nomatch h)⟩ (λj ys σ G _ h=>by obtain⟨_,_,_,_,_,_,s,_⟩:=h;exact az.of (s _ _ h1)) ?_ ?_
 .rintro j x ys σ G hj vh hys ⟨v0,us,rfl,rfl,lu,gz,s1,at'⟩;rw[axO]at hj;rw[acC,aun hj]at vh;cases vh;have le:j<es.length:=by lia
  have et:=h3 j ts[j] es[j] (aun hj) (aun le);obtain⟨n,k,r,ee,k3,r1,se⟩:=Ym (he _ (aCm le));rw[ee]at et;refine⟨_,rfl,ts[j],_,_,_,rfl,rfl,aU.of (s1 _ _ et),fO,(sL 4),λlp WB=>?_⟩;have s2:=Ze WB (.lst [V.int 1,V.int 0,V.int 2,V.int 3]);refine⟨_,rfl,ts[j],_,_,_,rfl,rfl,aU.of (s2 _ _ (s1 _ _ et)),fN,lp,_,_,_,rfl,rfl,az.of Za,ZjR k3,(sL 2),λt2 Jp=>?_⟩;have s3:=Ze Jp (.tup [V.str n,V.int (sw k:Nat)]);have e2:=Za (H:=upd G lp (.lst [V.int 1,V.int 0,V.int 2,V.int 3])) (a:=t2) (o:=.tup [V.str n,V.int (sw k:Nat)]);have Vl:=s1.trans (s2.trans s3);have Lb:=s2.trans s3;generalize upd (upd G lp (.lst [V.int 1,V.int 0,V.int 2,V.int 3])) t2 (.tup [V.str n,V.int (sw k:Nat)])=G2 at *;have W4:=Lb _ _ gz;refine⟨_,rfl,_,rfl,ts[j],_,rfl,Vl _ _ et,λp G3 s4 hp=>⟨t2,p,_,_,rfl,rfl,s4 _ _ e2,hp,?_,λy G4 s5 hy=>?_⟩⟩
  .rw [show cA (V.str n ::V.int (k:Int) ::r) (some 2) none=r from GZ r1];exact a0n (show 2+r.length<=3 by lia) (by decide)
  .rw [show cA (V.str n ::V.int (k:Int) ::r) (some 2) none=r from GZ r1]at hy;have hy:G4 y=some (.tup (jv es[j])):=by rw[se];exact hy
   have La:=s4.trans s5;have PF:=La _ _ W4;refine oS.of (aUL (Zz (by rw[axO];lia))) (by rw[axO];exact hj) hys PF ⟨_,us++[y],rfl,by rw[ado];rfl,by rw[aKe,lu];rfl,Za,λx o e=>?_,λi t e e1 qu=>?_⟩
   .rw [Zc (Zf e A7)];exact La _ _ (Lb _ _ (s1 _ _ e))
   .by_cases c:i<us.length
    .rw [aGp c]at e1;have z:=at' i t e e1 qu;rw[Zc (wW z gz (by intro z;cases z))];exact La _ _ (Lb _ _ z)
    .have hi:=(aB9.mp e1).1;rw[aKe,aSc]at hi;have ej:i=us.length:=by lia
     subst ej;rw[a8o (ags _),Nat.sub_self]at e1;rw[lu,acC,aun le]at qu;cases e1;cases qu;rw[Zc (wW hy PF (by intro z;cases z))];exact hy
 rintro ys σ G _ ⟨v0,us,rfl,rfl,lu,gz,s1,at'⟩;rw[axO]at lu;exact q lz G s1 ⟨λe m=>by obtain⟨x,hx,rfl⟩:=awR.mp m;exact GR (he x hx),us,gz,by rw[lu,h2,axO],at'⟩
structure Lk(a b:ao):Prop where
 sq:∀k,k<3->(b.at_ (sw k)).seq.Perm (a.at_ k).seq
 fr:∀k x,k<3->(b.at_ (sw k)).fr x=(a.at_ k).fr x
 wd:∀k x,k<3->x∈(a.at_ k).seq->(b.at_ (sw k)).wd x=(a.at_ k).wd x
 mem:∀s,b.mem s=a.mem s
theorem Sw.lk{a b:ao}(w:Sw a b):Lk a b:=⟨λk _=>by rw[w.at_],λk x _=>by rw[w.at_],λk x _ _=>by rw[w.at_],λs=>by rw[w.mem]⟩
theorem Ry{os os' seq:List Int}(p:os.Perm seq)(f:os.Pairwise (·<=·))(p':os'.Perm seq)(f':os'.Pairwise (·<=·)):os=os':=Na (λa b h1 h2=>Int.le_antisymm h1 h2) (p.trans p'.symm) f f'
theorem J7{G:Hp}{x y:Addr}{os:List Int}(h1:G x=some (.lst (os.map V.int)))(h2:G y=some (.lst (os.map V.int)))(l:os.length<=1000):Eqv 2 G (.ref x) (.ref y):=Eqv.GQ 1 h1 h2 (by rw[axO];exact l) λx hx=>by
 obtain⟨y,_,rfl⟩:=awR.mp hx;trivial
theorem aa.OY{H:Hp}{A:TA}{g:aP}{st:ao}{os:OS}{n:Nat}(T:aa K H A g st os n){k:Nat}(hk:k<g.n):(st.at_ k).seq.length<=g.U.length:=by
 have ln:=T.ln;obtain⟨a,e1,e2,e3,B⟩:=T.at_ (k:=k) (by lia);exact CM B.aW.room.nd λx hx=>T.vD _ (bcc e3) x hx
theorem aa.KH{H:Hp}{A:TA}{g:aP}{st:ao}{os:OS}{n:Nat}(T:aa K H A g st os n){k:Nat}{b:Int}(hk:k<g.n)(hb:b∈(st.at_ k).seq):((st.at_ k).wd b).length=g.size.toNat/\0<=b/\b<=1000000:=by
 have ln:=T.ln;obtain⟨_,u2,_⟩:=T.mj (k:=k) (by lia);obtain⟨u3,u4⟩:=T.wf.ub b (u2 b hb).1;exact⟨(u2 b hb).2,u3,u4⟩
theorem Rx{m:Nat}{f:Int->Nat->Int}:∀{U:List Int},(U.flatMap λb=>(List.range m).map (f b)).length=U.length*m
 | []=>by simp
 |b ::r=>by rw[List.flatMap_cons,aKe,axO,ayq,a83,Nat.succ_mul,Rx (U:=r),Nat.add_comm]
theorem Z7{mem:Int->Int}{ps:List (Int×Int)}{size:Int}{U:List Int}(h:zT mem ps)(z:1<=size)(sup:∀s,mem s≠0->s/size∈U):ps.length<=U.length*size.toNat:=by
 have nd:(ps.map (·.1)).Nodup:=aB6.mpr (h.up.imp λ{a b} z e=>by lia);have sub:ps.map (·.1) ⊆ U.flatMap λb=>(List.range size.toNat).map λk=>b*size+(k:Nat):=λs hs=>by
  obtain⟨⟨s',v⟩,hp,rfl⟩:=awR.mp hs;obtain⟨e,n⟩:=(h.mm _ _).mp hp;have h1:=baD s' (by lia:size≠0);have h2:=a5F s' (show 0<size by lia);refine List.mem_flatMap.mpr ⟨s'/size,sup s' (by rw[e];exact n),awR.mpr ⟨(s'%size).toNat,ayn.mpr (by lia),?_⟩⟩;show s'/size*size+(((s'%size).toNat:Nat):Int)=s';rw[Int.toNat_of_nonneg h1];exact Int.ediv_mul_add_emod s' size
 have l:=nd.length_le_of_subset sub;rw[axO]at l;exact a0n l (a1S Rx)
inductive vR(K:W.Frag)(vs:List V)(H:Hp)(Q:VK)(E:XK):Prop
 |mk (A A':TA) (g:aP) (st st':ao) (os os':OS) (n n':Nat) (lo:Addr) (ns:List Int):vs=[.ref A.p,.ref A'.p,.ref lo]->aa K H A g st os n->aa K H A' g st' os' n'->g.n=3->Lk st st'->g.U.length<=21->g.size<=16->H lo=some (.lst (ns.map V.int))->ns.length<=20->(∀x∈ns,0<=x/\x<=1000000)->(∀H',aB H H'->Q (.bl true) H')->vR K vs H Q E
example:(zg DM tM yU tO Dy Gf):=by
 obtain ⟨A,A',g,st,st',os,os',n,n',lo,ns,rfl,R,R',g3,lk,C4,z16,hlo,l20,xb,q⟩:=h;have uZ:=Gf 2;refine⟨_,(Zd (yu aUe rfl (JY (K:=K) rfl (ZI (pc (ZI (pc Zi (pc Zi Zb))) (pc (ZI (pc Zi (pc Zi Zb))) (pc (ZI (pc Zi (pc Zi Zb))) Zb))))) (ZQ (K:=K) (n:=2) rfl rfl (Zq (cu 3 nd) (Zq (cu 4 nd) ZO))) (Zd (aI (PW.pt (pw_or (zR (ZC (Zl uZ hr.m rfl (pc (Zj tM hr.m T.aM (pv 0) (pc (pv 3) Zb)) (pc (Zj tM hr.m T.aM (pv 1) (pc (pv 4) Zb)) Zb))))) (DZ (zR (ZC (Zl uZ hr.m rfl (pc (Zj yU hr.m T.aM (pv 0) (pc (pv 3) Zb)) (pc (Zj yU hr.m T.aM (pv 1) (pc (pv 4) Zb)) Zb)))))))) (Zh (Zs gb)) Zt)
   (Zh (aI (zR (ZC (Zp (Ks rfl) rfl T.DL Km (pc (ZZ (ZK (kF:=(Zr nS)) (oN:=xX) (N:=["_law_board","_law_k","_law_j","_law_one","_law_other"]) (own:=1) (js:=[3,4,0,1]) (by decide +kernel) rfl rfl) rfl (Ef (K:=K) rfl (Zj tM hr.m T.aM (pv 0) (pc (pv 3) Zb))) (λ_ _ _ _ _ _=>(cu 0 (show List.Nodup (["_law_board","_law_k","_law_j","_law_one","_law_other"]:List Str) by decide +kernel))) (λ_ _ _ _ _ _=>(Zl uZ hr.m rfl (pc (Zj tO hr.m T.aM (pv 3) (pc (pv 1) (pc (pv 0) Zb))) (pc (Zj tO hr.m T.aM (pv 4) (pc (pv 2) (pc (pv 0) Zb))) Zb))))) Zb)))) (Zh (Zs gb)) Zt))))
   (Zd (aI (zR (ZC (Zp (Ks rfl) rfl T.DL Km (pc (ZZ (ZK (kF:=(Zr nS)) (oN:=xX) (N:=["_law_board","_law_one","_law_other"]) (own:=1) (js:=[0,1]) (by decide +kernel) rfl rfl) rfl (Ef (K:=K) rfl (pv 2)) (λ_ _ _ _ _ _=>(cu 0 (show List.Nodup (["_law_board","_law_one","_law_other"]:List Str) by decide +kernel))) (λ_ _ _ _ _ _=>(Zl uZ hr.m rfl (pc (Zj tO hr.m T.aM (pv 1) (pc Zi (pc (pv 0) Zb))) (pc (Zj tO hr.m T.aM (pv 2) (pc Zi (pc (pv 0) Zb))) Zb))))) Zb)))) (Zh (Zs gb)) Zt)
   (Zh (Zs (Zl uZ hr.m rfl (pc (ZV Dy hr.m T.aM (pv 0)) (pc (ZV Dy hr.m T.aM (pv 1)) Zb))))))),?_⟩
 obtain⟨dx,ob⟩:=R.ob;obtain⟨uF,OG⟩:=R'.ob;have z0:=R.wf.z0;have few:∀i,i<3->(st.at_ i).seq.length<=21:=λi hi=>a0n (R.OY (by lia)) C4;have Mu:∀i,i<3->(st'.at_ i).seq.length<=21:=λi hi=>a0n (R'.OY (by lia)) C4;refine hide λu1 e1=>?_;refine⟨(sL 2),λt1 ht1=>⟨(sL 2),λt2 Jp=>⟨(sL 2),λt3 Pe=>⟨(sL 3),λtt Pc=>?_⟩⟩⟩⟩;have s1:=Ze ht1 (.tup [V.int 0,V.int 1]);have s2:=Ze Jp (.tup [V.int 1,V.int 0]);have s3:=Ze Pe (.tup [V.int 2,V.int 2]);have s4:=Ze Pc (.tup [V.ref t1,V.ref t2,V.ref t3]);have f1:upd (upd (upd (upd H t1 (.tup [V.int 0,V.int 1])) t2 (.tup [V.int 1,V.int 0])) t3 (.tup [V.int 2,V.int 2])) tt (.tup [V.ref t1,V.ref t2,V.ref t3]) t1=some (.tup [V.int 0,V.int 1]):=s4 _ _ (s3 _ _ (s2 _ _ Za));have f2:upd (upd (upd (upd H t1 (.tup [V.int 0,V.int 1])) t2 (.tup [V.int 1,V.int 0])) t3 (.tup [V.int 2,V.int 2])) tt (.tup [V.ref t1,V.ref t2,V.ref t3]) t2=some (.tup [V.int 1,V.int 0]):=s4 _ _ (s3 _ _ Za);have f3:upd (upd (upd (upd H t1 (.tup [V.int 0,V.int 1])) t2 (.tup [V.int 1,V.int 0])) t3 (.tup [V.int 2,V.int 2])) tt (.tup [V.ref t1,V.ref t2,V.ref t3]) t3=some (.tup [V.int 2,V.int 2]):=s4 _ _ Za;have f4:upd (upd (upd (upd H t1 (.tup [V.int 0,V.int 1])) t2 (.tup [V.int 1,V.int 0])) t3 (.tup [V.int 2,V.int 2])) tt (.tup [V.ref t1,V.ref t2,V.ref t3]) tt=some (.tup [V.ref t1,V.ref t2,V.ref t3]):=Za;have sH:=s1.trans (s2.trans (s3.trans s4));clear s1 s2 s3 s4 ht1 Jp Pe Pc;generalize upd (upd (upd (upd H t1 (.tup [V.int 0,V.int 1])) t2 (.tup [V.int 1,V.int 0])) t3 (.tup [V.int 2,V.int 2])) tt (.tup [V.ref t1,V.ref t2,V.ref t3])=H4 at *;refine⟨tt,rfl,⟨_,aU.of f4⟩,Nk (K:=K) (a:=tt) (xs:=[V.ref t1,V.ref t2,V.ref t3]) (λi σ G=>∃(v3 v4:Option V),σ=[some (.ref A.p),some (.ref A'.p),some (.ref lo),v3,v4]/\aB H4 G) ⟨_,_,rfl,aB.refl _⟩ (λi σ G _ h=>by obtain⟨_,_,_,s⟩:=h;exact aU.of (s _ _ f4)) ?_ ?_⟩
 .rintro i x σ G hi ⟨v3,v4,rfl,s5⟩;have oW:i<3:=(aB9.mp hi).1;obtain⟨t,rfl,et⟩:∃t,x=.ref t/\H4 t=some (.tup [.int (i:Int),.int (sw i:Nat)]):=by
   rcases(show i=0\/i=1\/i=2 by lia) with rfl|rfl|rfl
   .exact ⟨t1,(a9h hi).symm,f1⟩
   .exact ⟨t2,(a9h hi).symm,f2⟩
   .exact ⟨t3,(a9h hi).symm,f3⟩
  have Vb:=j4 oW;refine⟨t,_,rfl,aU.of (s5 _ _ et),rfl,_,_,rfl,gN ⟨_,_,rfl,gN ⟨rfl,?_⟩⟩⟩;try dsimp only
  have s0:=sH.trans s5;have R1:=R.same s0;have HY:=R'.same s0;have b1:=s0 _ _ ob;have qU:=s0 _ _ OG;refine hide λu2 e2=>?_;refine⟨_,rfl,A.p,dx,_,rfl,b1,au ..,_,rfl,A,g,st,os,n,i,rfl,R1,by lia,by have:=few i oW;lia,λD bs hD pb pw=>?_⟩;have m1:=Ze hD (.lst (bs.map V.int));have d1:=Za (H:=G) (a:=D) (o:=.lst (bs.map V.int));generalize upd G D (.lst (bs.map V.int))=G1 at *;refine⟨_,rfl,A'.p,uF,_,rfl,m1 _ _ qU,au ..,_,rfl,A',g,st',os',n',sw i,rfl,HY.same m1,by lia,by have:=Mu _ Vb;lia,λD' bs' Cy Vu Lj=>?_⟩;have m2:=Ze Cy (.lst (bs'.map V.int));have d2:=Za (H:=G1) (a:=D') (o:=.lst (bs'.map V.int));generalize upd G1 D' (.lst (bs'.map V.int))=G2 at *;have eb:bs=bs':=Ry pb pw (Vu.trans (lk.sq i oW)) Lj;subst eb;have lb:bs.length<=21:=by rw[pb.length_eq];exact few i oW
  refine⟨_,_,rfl,J7 (m2 _ _ d1) d2 (by lia),λG3 m3=>⟨_,rfl,cO rfl ?_⟩⟩;have s6:=m1.trans (m2.trans m3);clear d1 d2;have R2:=R1.same s6;have KA:=HY.same s6;have b2:=s6 _ _ b1;have Hr:=s6 _ _ qU;refine⟨_,rfl,A.p,dx,_,rfl,b2,au ..,_,rfl,A,g,st,os,n,i,rfl,R2,by lia,by lia,λD bs hD mc lc pw VY=>?_⟩;have m1:=Ze hD (.lst (bs.map V.int));have d1:=Za (H:=G3) (a:=D) (o:=.lst (bs.map V.int));generalize upd G3 D (.lst (bs.map V.int))=G4 at *;refine⟨_,rfl,A'.p,uF,_,rfl,m1 _ _ Hr,au ..,_,rfl,A',g,st',os',n',sw i,rfl,KA.same m1,by lia,by lia,λD' bs' Cy V7 lc' Lj OQ=>?_⟩;have m2:=Ze Cy (.lst (bs'.map V.int));have d2:=Za (H:=G4) (a:=D') (o:=.lst (bs'.map V.int));generalize upd G4 D' (.lst (bs'.map V.int))=G5 at *;have eb:bs=bs':=Ry (.refl _) pw ((bbm OQ VY).mpr λx=>by rw[mc,V7,lk.fr i x oW]) Lj;subst eb;refine⟨_,_,rfl,J7 (m2 _ _ d1) d2 (by lia),λG6 m3=>⟨_,rfl,cO rfl ?_⟩⟩;dsimp only[gE];have s7:=m1.trans (m2.trans m3);clear d1 d2;have R3:=R2.same s7;have R3':=KA.same s7;have b3:=s7 _ _ b2;have XE:=s7 _ _ Hr;subst e2;try dsimp only
  refine⟨_,rfl,A.p,dx,_,rfl,b3,au ..,_,rfl,A,g,st,os,n,i,rfl,R3,by lia,by have:=few i oW;lia,λD bs hD pb pw=>⟨D,rfl,⟨_,az.of Za⟩,λlz A7=>?_⟩⟩;have m1:=Ze hD (.lst (bs.map V.int));have d1:=Za (H:=G6) (a:=D) (o:=.lst (bs.map V.int));have lb:bs.length<=21:=by rw[pb.length_eq];exact few i oW
  generalize upd G6 D (.lst (bs.map V.int))=G7 at *;have R4:=R3.same m1;have R4':=R3'.same m1;have b4:=m1 _ _ b3;have XD:=m1 _ _ XE;refine Kr (K:=K) (a:=D) (xs:=bs.map V.int) (l:=lz) (λj ys σ G'=>∃v0:Option V,σ=[v0,some (.int (i:Int)),some (.int (sw i:Nat)),some (.ref A.p),some (.ref A'.p)]/\ys=(List.replicate j true).map V.bl/\G' lz=some (.lst ys)/\aB G7 G') ⟨none,rfl,rfl,Za,Ze A7 _⟩ (λj ys σ G' _ ⟨_,_,_,_,s⟩=>az.of (s _ _ d1)) ?_ ?_
  .rintro j x ys σ G' hj vh hys ⟨v0,rfl,rfl,gz,s8⟩;obtain⟨b,eb,rfl⟩:=JV vh;have hb:=pb.mem_iff.mp (bcc eb);obtain⟨wl,b0,b5⟩:=R.KH (by lia) hb;refine⟨_,rfl,A.p,dx,_,rfl,s8 _ _ b4,au ..,_,rfl,_,rfl,A,g,st,os,n,i,b,rfl,R4.same s8,by lia,λ_=>hb,b0,b5,λW1 G8 WX s9 w1=>?_⟩;have E4:=s8.trans s9;refine⟨_,rfl,A'.p,uF,_,rfl,E4 _ _ XD,au ..,_,rfl,_,rfl,A',g,st',os',n',sw i,b,rfl,R4'.same E4,by lia,λ_=>(lk.sq i oW).mem_iff.mpr hb,b0,b5,λW2 G9 WW vc w2=>?_⟩;have e1:Bh g st i b=(st.at_ i).wd b:=afn (by lia);have e2:Bh g st' (sw i) b=(st.at_ i).wd b:=(afn (by lia)).trans (lk.wd i b oW hb);rw[e1]at w1;rw[e2]at w2;refine⟨_,_,rfl,J7 (vc _ _ w1) w2 (by rw[wl];lia),λTz BN=>?_⟩;have s12:=s9.trans (vc.trans BN);refine oS.of (aUL (Zz (by rw[axO];lia))) hj hys (s12 _ _ gz) ⟨_,rfl,by rw[ab2,ado];rfl,Za,λx o e=>?_⟩;rw[Zc (Zf e A7)];exact s12 _ _ (s8 _ _ e)
  rintro ys σ G' _ ⟨v0,rfl,rfl,gz,s8⟩;refine⟨lz,_,rfl,az.of gz,_,rfl,?_⟩;rw[show(List.replicate (bs.map V.int).length true).all id=true by rw[aD8];intro z hz;rw[(aXd.mp hz).2];rfl];exact cO rfl ⟨_,_,rfl,s5.trans (s6.trans (s7.trans (m1.trans s8)))⟩
 rintro σ G ⟨v3,v4,rfl,s5⟩;subst e1;try dsimp only
 have s0:=sH.trans s5;have R1:=R.same s0;have HY:=R'.same s0;have b1:=s0 _ _ ob;have qU:=s0 _ _ OG;have lo1:=s0 _ _ hlo;refine hide λu1 e1=>?_;refine⟨_,rfl,lo,rfl,⟨_,az.of lo1⟩,λlz A7=>?_⟩;refine Kr (K:=K) (a:=lo) (xs:=ns.map V.int) (l:=lz) (λj ys σ G'=>∃v0:Option V,σ=[v0,some (.ref A.p),some (.ref A'.p)]/\ys=(List.replicate j true).map V.bl/\G' lz=some (.lst ys)/\aB G G') ⟨none,rfl,rfl,Za,Ze A7 _⟩ (λj ys σ G' _ ⟨_,_,_,_,s⟩=>az.of (s _ _ lo1)) ?_ ?_
 .rintro j x ys σ G' hj vh hys ⟨v0,rfl,rfl,gz,s8⟩;obtain⟨b,eb,rfl⟩:=JV vh;obtain⟨b0,b5⟩:=xb b (bcc eb);refine⟨_,rfl,A.p,dx,_,rfl,s8 _ _ b1,au ..,_,rfl,A,g,st,os,n,3,b,rfl,R1.same s8,by lia,λh=>by lia,b0,b5,λW1 G8 WX s9 w1=>?_⟩;have E4:=s8.trans s9;refine⟨_,rfl,A'.p,uF,_,rfl,E4 _ _ qU,au ..,_,rfl,A',g,st',os',n',3,b,rfl,HY.same E4,by lia,λh=>by lia,b0,b5,λW2 G9 WW vc w2=>?_⟩;have e1:Bh g st 3 b=aO g.size st.mem b:=aaU g3.symm;have e2:Bh g st' 3 b=aO g.size st.mem b:=(aaU g3.symm).trans (by unfold aO;exact aHS λk _=>lk.mem _);rw[e1]at w1;rw[e2]at w2;refine⟨_,_,rfl,J7 (vc _ _ w1) w2 (by rw[yr];lia),λTz BN=>?_⟩;have s12:=s9.trans (vc.trans BN);refine oS.of (aUL (Zz (by rw[axO];lia))) hj hys (s12 _ _ gz) ⟨_,rfl,by rw[ab2,ado];rfl,Za,λx o e=>?_⟩;rw[Zc (Zf e A7)];exact s12 _ _ (s8 _ _ e)
 rintro ys σ G' _ ⟨v0,rfl,rfl,gz,s8⟩;refine⟨lz,_,rfl,az.of gz,_,rfl,?_⟩;rw[show(List.replicate (ns.map V.int).length true).all id=true by rw[aD8];intro z hz;rw[(aXd.mp hz).2];rfl];refine cO rfl ?_;subst e1;try dsimp only
 dsimp only[gE];have R2:=R1.same s8;have KA:=HY.same s8;refine⟨_,rfl,A.p,dx,_,rfl,s8 _ _ b1,au ..,A,g,st,os,n,rfl,R2,λD ps G2 hD s2 pD pl=>?_⟩;refine⟨_,rfl,A'.p,uF,_,rfl,s2 _ _ (s8 _ _ qU),au ..,A',g,st',os',n',rfl,KA.same s2,λD' ps' G3 Cy s3 Vv Vt=>?_⟩;have ep:ps=ps':=pl.uniq (Vt.congr lk.mem);subst ep;have lp:ps.length<=1000:=a0n (Z7 pl z0 R.mem.sup) (a0n (Nat.mul_le_mul C4 (show g.size.toNat<=16 by lia)) (by decide));exact⟨_,_,rfl,(pD.same s3).eqv Vv lp,λG4 s4=>q _ (s0.trans (s8.trans (s2.trans (s3.trans s4))))⟩
theorem GA{t:TS}{D:Ends}{σ:St}{H:Hp}(h:∀D':Ends,(∀ σ G,D.nx σ G->D'.nx σ G)->t D' σ H):t D σ H:=h D λ_ _ x=>x
def Kp(O:Addr->Prop)(G G1:Hp):Prop:=∀x o,G x=some o->(O x->¬Mt o)->G1 x=some o
def Nf(O O':Addr->Prop)(G:Hp):Prop:=∀x,O' x->O x\/G x=none
section
variable{K:W.Frag}{H G G1:Hp}{g:aP}{A:TA}{os:OS}{st:ao}{b lo tn tf:Addr}{m:Nat}{O O':Addr->Prop}{cn cf:Cf}{ns:List Int}{a q c:Int}
structure Wb(K:W.Frag)(H G:Hp)(b lo tn tf:Addr)(cn cf:Cf)(ns:List Int)(g:aP)(O:Addr->Prop):Prop where
 xK:G lo=some (.lst (ns.map V.int))
 pn:zS G tn cn
 pf:zS G tf cf
 kp:SB b H G
 nw:∀x,O x\/x=lo->H x=none
 of:¬O b/\¬O lo
 nb:lo≠b
theorem Wb.new(w:Wb K H G b lo tn tf cn cf ns g O)(B:aF G b a q c){x:Addr}(h:G x=none):H x=none:=by
 cases e:H x with
 |none=>rfl
 |some o=>
  by_cases z:x=b
  .rw [z,B.at']at h;cases h
  .rw [w.kp x o z e]at h;cases h
theorem Wb.sb(w:Wb K H G b lo tn tf cn cf ns g O)(B:aF G b a q c)(s:SB b G G1):Wb K H G1 b lo tn tf cn cf ns g O:=by
 have nt:∀{x ys},G x=some (.tup ys)->x≠b:=λ{x ys} e z=>by rw[z,B.at']at e;cases e
 exact⟨s _ _ w.nb w.xK,w.pn.frame λx ys e=>s _ _ (nt e) e,w.pf.frame λx ys e=>s _ _ (nt e) e,w.kp.trans s,w.nw,w.of,w.nb⟩
theorem Wb.mv(w:Wb K H G b lo tn tf cn cf ns g O)(B:aF G b a q c)(k:Kp O G G1)(f:Nf O O' G):Wb K H G1 b lo tn tf cn cf ns g O'/\aF G1 b a q c:=by
 have tu:∀{x ys},G x=some (.tup ys)->G1 x=some (.tup ys):=λ{x ys} e=>k x _ e λ_=>id;have no:∀{x o},G x=some o->¬O x->G1 x=some o/\¬O' x:=λ{x o} e n=>⟨k x o e λz=>absurd z n,λz=>(f x z).elim n λz=>by rw[e]at z;cases z⟩;obtain⟨l1,l2⟩:=no w.xK w.of.2;obtain⟨b1,b2⟩:=no B.at' w.of.1;refine⟨⟨l1,w.pn.frame λx ys e=>tu e,w.pf.frame λx ys e=>tu e,λx o n e=>k x o (w.kp x o n e) λz=>?_,λx z=>?_,⟨b2,l2⟩,w.nb⟩,⟨b1,B.a0,B.q0,B.q1,B.c0⟩⟩
 .have z:=w.nw x (.inl z);rw[z]at e;cases e
 .rcases z with z|z
  .exact (f x z).elim (λz=>w.nw x (.inl z)) λz=>w.new B z
  .exact w.nw x (.inr z)
end
structure W0(K:W.Frag)(H G:Hp)(b lo tn tf:Addr)(cn cf:Cf)(ns:List Int)(g:aP)(A0:TA)(qc:OS)(dZ:ao)(A1:TA)(bS:OS)(st1:ao):Prop where
 h0:qH K G A0 g dZ qc
 h1:qH K G A1 g st1 bS
 wb:Wb K H G b lo tn tf cn cf ns g (λx=>OW A0 qc x\/OW A1 bS x)
 sep:∀x,OW A0 qc x->¬OW A1 bS x
section
variable{K:W.Frag}{H G G1:Hp}{b lo tn tf:Addr}{cn cf:Cf}{ns:List Int}{g:aP}{A0:TA}{qc:OS}{dZ:ao}{A1:TA}{bS:OS}{st1:ao}{a q c:Int}
theorem W0.swap(w:W0 K H G b lo tn tf cn cf ns g A0 qc dZ A1 bS st1):W0 K H G b lo tn tf cn cf ns g A1 bS st1 A0 qc dZ:=
 ⟨w.h1,w.h0,⟨w.wb.xK,w.wb.pn,w.wb.pf,w.wb.kp,λx z=>w.wb.nw x (z.imp Or.symm id),⟨λz=>w.wb.of.1 z.symm,λz=>w.wb.of.2 z.symm⟩,w.wb.nb⟩,λx z1 z0=>w.sep x z0 z1⟩
theorem W0.sb(w:W0 K H G b lo tn tf cn cf ns g A0 qc dZ A1 bS st1)(B:aF G b a q c)(s:SB b G G1):W0 K H G1 b lo tn tf cn cf ns g A0 qc dZ A1 bS st1:=by
 have mb:∀{o},G b=some o->Mt o:=λ{o} e=>by rw[B.at']at e;cases e;trivial
 exact⟨w.h0.frame λx o e z=>s x o (λy=>by subst y;exact z.elim (λz=>w.wb.of.1 (.inl z)) λz=>z (mb e)) e,w.h1.frame λx o e z=>s x o (λy=>by subst y;exact z.elim (λz=>w.wb.of.1 (.inr z)) λz=>z (mb e)) e,w.wb.sb B s,w.sep⟩
theorem W0.same(w:W0 K H G b lo tn tf cn cf ns g A0 qc dZ A1 bS st1)(B:aF G b a q c)(s:aB G G1):W0 K H G1 b lo tn tf cn cf ns g A0 qc dZ A1 bS st1:=w.sb B (s.sb b)
theorem W0.mv(w:W0 K H G b lo tn tf cn cf ns g A0 qc dZ A1 bS st1)(B:aF G b a q c){A':TA}{os':OS}{st':ao}(h:qH K G1 A' g st' os')(p:bR (OW A0 qc) G G1 (OW A' os')):W0 K H G1 b lo tn tf cn cf ns g A' os' st' A1 bS st1/\aF G1 b a q c:=by
 obtain⟨wb,B1⟩:=w.wb.mv (O':=λx=>OW A' os' x\/OW A1 bS x) B (λx o e n=>p.kp x o e λz=>n (.inl z)) λx z=>by
  rcases z with z|z
  .exact (p.fr x z).imp .inl id
  .exact .inl (.inr z)
 exact⟨⟨h,w.h1.frame λx o e z=>p.kp x o e λy=>z.elim (λz=>absurd z (w.sep x y)) id,wb,λx z0 z1=>(p.fr x z0).elim (λz=>w.sep x z z1) λz=>w.h1.at_.fresh z z1⟩,B1⟩
end
inductive sN(K:W.Frag)(vs:List V)(H:Hp)(Q:VK)(E:XK):Prop
 |mk (b:Addr) (a q:Int):vs=[.ref b]->aF H b a q 0->Tb K H->(∀H',SB b H H'->Q (.bl true) H')->sN K vs H Q E
example:(wR Gg F7 El EB F6 DO DN Dz DM DE tM yU Gf):=by
 obtain ⟨b,a,q,rfl,B,tb,k⟩:=h;have uZ:=Gf 2;refine⟨_,(Zd (qV (Zl F7 hr.m rfl (pc (pv 0) Zb)) (ZQ (K:=K) (n:=3) rfl rfl (Zq (cu 1 nd) (Zq (cu 2 nd) (Zq (cu 3 nd) ZO)))))
   (Zd (dw 4 nd (Zl El hr.m rfl (pc (pv 0) (pc (pv 1) Zb))))
   (Zd (qV (ZI (pc (HH DO hr.m rfl (pc (pv 1) (pc (pv 2) (pc (pv 3) Zb)))) (pc (HH DO hr.m rfl (pc (pv 1) (pc (pv 2) (pc (pv 3) Zb)))) Zb))) (ZQ (K:=K) (n:=2) rfl rfl (Zq (cu 5 nd) (Zq (cu 6 nd) ZO))))
   (Zd (yu aUe rfl (Bm rfl T.vB (pc (Zl F6 hr.m rfl (pc (pv 0) (pc Zi (pc Zi Zb)))) Zb)) (cu 7 nd) (Zd (qV (Zl EB hr.m rfl (pc (pv 0) (pc (pv 1) (pc (pv 4) Zb)))) (ZQ (K:=K) (n:=2) rfl rfl (Zq (cu 8 nd) (Zq (cu 9 nd) ZO))))
   (Zd (Qq (i:=10) (j:=11) rfl nd rfl rfl (by decide) rfl rfl (pc (Zl DN hr.m rfl (pc (pv 5) (pc (pv 8) (pc (pv 9) Zb)))) (pc (Zl DN hr.m rfl (pc (pv 6) (pc (ak zQ Zi (pv 8)) (pc (pv 9) Zb)))) Zb)) rfl)
   (Zd (aI (PW.pt (pw_or (zR (ZC (Zl uZ hr.m rfl (pc (av (ZY (K:=K) rfl) (pv 10) Zi (λ_ _=>rfl)) (pc (av (ZY (K:=K) rfl) (pv 11) Zi (λ_ _=>rfl)) Zb))))) (DZ (ZB (Qj (K:=K) 1 (A4 hr 1 (by decide)) rfl) (Zp (S6 rfl) rfl T.Al ao6 (pc (av (ZY (K:=K) rfl) (pv 10) Zi (λ_ _=>rfl)) Zb)) (Zp (S6 rfl) rfl T.Al ao6 (pc (Zl Dz hr.m rfl (pc (av (ZY (K:=K) rfl) (pv 11) Zi (λ_ _=>rfl)) Zb)) Zb)) (Zx _))))) (Zh (Zs gb)) Zt)
   (Zh (aI (PW.pt (pw_or (ZB (Qj (K:=K) 1 (A4 hr 1 (by decide)) rfl) (HS (Kl (K:=K) rfl) (av (ZY (K:=K) rfl) (pv 10) Zi (λ_ _=>rfl)) J3 (Eb Zi)) (Zl Dz hr.m rfl (pc (HS (Kl (K:=K) rfl) (av (ZY (K:=K) rfl) (pv 11) Zi (λ_ _=>rfl)) J3 (Eb Zi)) Zb)) (Zx _)) (DZ (zR (ZC (Zl DM hr.m rfl (pc (pv 5) (pc (pv 6) (pc (pv 4) Zb))))))))) (Zh (Zs gb)) Zt))))))
   (Zd (Zo (ZV DE hr.m T.aM (pv 5)))
   (Zd (Zo (ZV DE hr.m T.aM (pv 6)))
   (Zd (aI (ZC (Zp (Zgr rfl) rfl T.LX ZhH (pc (ZZ (ZK (kF:=(Zr nR)) (oN:=zV) (N:=["_law_k","_law_one"]) (own:=1) (js:=[5]) (by decide +kernel) rfl rfl) rfl (Bm rfl T.vB (pc Zi Zb)) (λ_ _ _ _ _ _=>(cu 0 (show List.Nodup (["_law_k","_law_one"]:List Str) by decide +kernel))) (λ_ _ _ _ _ _=>(vm (X0 (K:=K) (Nat.lt_of_succ_lt hu) rfl) (ak X6 (Zj tM hr.m T.aM (pv 1) (pc (pv 0) Zb)) (Zj yU hr.m T.aM (pv 1) (pc (pv 0) Zb))) (qE Zb) (Zx _)))) Zb))) (Zh (Zs gb)) Zt)
   (Zh (Zs (Zl DM hr.m rfl (pc (pv 5) (pc (pv 6) (pc (pv 4) Zb))))))))))))),?_⟩
 refine hide λu1 e1=>?_;refine⟨_,rfl,b,a,q,0,rfl,B,by decide,λt0 tn tf size cn cf a1 c1 H2 ht0 Ou Ov z0 z1 B2 hc1 u2=>⟨t0,_,rfl,aU.of ht0,rfl,_,_,rfl,gN ⟨_,_,rfl,gN ⟨_,_,rfl,gN ⟨rfl,?_⟩⟩⟩⟩⟩;subst e1;try dsimp only
 have Cc:∀{x ys},H2 x=some (.tup ys)->x≠b:=λ{x ys} e z=>by rw[z,B2.at']at e;cases e
 refine hide λu1 e1=>?_;refine⟨_,rfl,_,rfl,b,a1,q,c1,size,rfl,B2,by lia,z0,z1,λlo ns a3 c3 H3 hlo xK n3 LF Qd B3 hc3 t3=>?_⟩;subst e1;try dsimp only
 refine hide λu1 e1=>?_;refine⟨_,rfl,_,rfl,_,rfl,λp dx hp hdx DG=>?_⟩;have Fo:=Ou.frame (H':=H3) λx ys e=>t3 _ _ (Cc e) e;have Fv:=Ov.frame (H':=H3) λx ys e=>t3 _ _ (Cc e) e;have u3:SB b H H3:=u2.trans t3;have m9:lo≠b:=λz=>by rw[z,B2.at']at hlo;cases hlo
 have Gy:H lo=none:=Ka u2 B2.at' hlo;have KP:Tb K H3:=u3 _ _ (λz=>by have t:=tb;unfold Tb at t;rw[z,B.at']at t;cases t) tb;have s9:9999/size<=9999:=Int.ediv_le_self _ (by decide);have AZ:∀x∈ns,0<=x/\x<=100000/\x<=9999/size:=λx hx=>by
  have:=Qd x hx;lia
 have Qc:1<=cn.pl/\cn.pl<=16:=by obtain⟨_,_,_,_,_,_,h1,h2,_⟩:=Fo;exact⟨h1,h2⟩
 have Xx:1<=cf.pl/\cf.pl<=16:=by obtain⟨_,_,_,_,_,_,h1,h2,_⟩:=Fv;exact⟨h1,h2⟩
 obtain⟨g,eg⟩:∃g:aP,g=⟨size,"",[cn,cn,cf],ns⟩:=⟨_,rfl⟩;have wf:WF g:=by
  rw[eg];refine⟨λc hc=>?_,z0,by show size<=1000;lia,by show ns.length<=800;lia,λb hb=>?_,by show 3<=4;decide,by show 1<=3;decide⟩
  .simp only[a9e,a7K,a9R]at hc;rcases hc with rfl|rfl|rfl
   .exact Qc
   .exact Qc
   .exact Xx
  .have:=AZ b hb;lia
 have C4:g.U.length<=21:=by rw[eg];show ns.length<=21;lia
 have gU:g.U=ns:=by rw[eg]
 have g3:g.n=3:=by rw[eg];rfl
 have JA:(⟨size,"",[cn,cn,cf],ns⟩:aP)=g:=eg.symm;have Xm:size=g.size:=by rw[eg]
 have gU':ns=g.U:=by rw[eg]
 have gc:g.cf 0=cn/\g.cf 1=cn/\g.cf 2=cf:=by rw[eg];exact⟨rfl,rfl,rfl⟩
 obtain⟨n0,n1⟩:=ZjN g3;clear eg Qd;have m1:aB H3 (upd (upd H3 dx (.own p)) p (.ins (af K "Beside") dx [])):=λx o e=>by rw[Zc (Zf e hp),Zc (Zf e hdx)];exact e
 have hp1:=Za (H:=upd H3 dx (.own p)) (a:=p) (o:=.ins (af K "Beside") dx []);have CB:∀x,upd (upd H3 dx (.own p)) p (.ins (af K "Beside") dx []) x=none->H3 x=none:=λx e=>m1.free e;generalize upd (upd H3 dx (.own p)) p (.ins (af K "Beside") dx [])=H4 at *;refine⟨p,dx,tn,tf,size,cn,cf,rfl,hp1,Fo.frame λx ys e=>m1 _ _ e,Fv.frame λx ys e=>m1 _ _ e,KP.same m1,λA0 qc H5 ep RS own k2=>⟨rfl,_,rfl,_,rfl,_,rfl,λp1 cS zx GC VQ=>?_⟩⟩;have m2:aB H3 H5:=λx o e=>k2 x o (m1 _ _ e) (Zf e hp);have hO:∀x,OW A0 qc x->H3 x=none:=λx h=>by
  by_cases z:x=p
  .rw [z];exact hp
  .exact CB x (own x h z)
 have R5:aa K H5 A0 g (qG 3) qc 0:=by
  have R:=RS (ns) (by rw[JA];exact wf);rw[JA]at R;exact R
 rw[show V.ref p=V.ref A0.p by rw[ep]];have B5:=B3.same m2;clear m1 hp1 CB RS own k2 ep;have m1:aB H5 (upd (upd H5 cS (.own p1)) p1 (.ins (af K "Beside") cS [])):=λx o e=>by rw[Zc (Zf e zx),Zc (Zf e GC)];exact e
 have hp2:=Za (H:=upd H5 cS (.own p1)) (a:=p1) (o:=.ins (af K "Beside") cS []);have CB:∀x,upd (upd H5 cS (.own p1)) p1 (.ins (af K "Beside") cS []) x=none->H5 x=none:=λx e=>m1.free e;generalize upd (upd H5 cS (.own p1)) p1 (.ins (af K "Beside") cS [])=H6 at *;refine⟨p1,cS,tn,tf,size,cn,cf,rfl,hp2,Fo.frame λx ys e=>m1 _ _ (m2 _ _ e),Fv.frame λx ys e=>m1 _ _ (m2 _ _ e),(KP.same m2).same m1,λA1 bS H7 P6 Tj Fw k1=>⟨rfl,(sL 2),λtq Pd=>⟨tq,_,rfl,aU.of Za,rfl,_,_,rfl,gN ⟨_,_,rfl,gN ⟨rfl,?_⟩⟩⟩⟩⟩;have m3:aB H5 H7:=λx o e=>k1 x o (m1 _ _ e) (Zf e zx);have GH:∀x,OW A1 bS x->H5 x=none:=λx h=>by
  by_cases z:x=p1
  .rw [z];exact zx
  .exact CB x (Fw x h z)
 have R7:aa K H7 A1 g (qG 3) bS 0:=by
  have R:=Tj (ns) (by rw[JA];exact wf);rw[JA]at R;exact R
 subst e1;try dsimp only
 have B7:=B5.same m3;have P5:V.ref p1=V.ref A1.p:=by rw[P6]
 have FU:=m2.trans m3;have w0:W0 K H H7 b lo tn tf cn cf ns g A0 qc (qG 3) A1 bS (qG 3):=by
  refine⟨⟨R5.same m3,n0⟩,⟨R7,n0⟩,⟨FU _ _ xK,Fo.frame λx ys e=>FU _ _ e,Fv.frame λx ys e=>FU _ _ e,u3.trans (FU.sb b),λx z=>?_,⟨λz=>?_,λz=>?_⟩,m9⟩,λx z y=>R5.fresh (GH x y) z⟩
  .rcases z with(z|z)|z
   .exact Ka u3 B3.at' (hO x z)
   .exact Ka u3 B3.at' (m2.free (GH x z))
   .rw [z];exact Gy
  .rcases z with z|z
   .have z:=hO b z;rw[B3.at']at z;cases z
   .have z:=GH b z;rw[B5.at']at z;cases z
  .rcases z with z|z
   .have z:=hO lo z;rw[xK]at z;cases z
   .have z:=GH lo z;rw[m2 _ _ xK]at z;cases z
 clear R5 B5 hO m2 Fo Fv xK u3 B3 KP t3 u2 B2 Ou Ov ht0 Cc m1 hp2 CB Tj Fw k1 P6 m3 GH R7 FU zx GC VQ hp hdx DG hlo Gy;have sq:=Ze Pd (.tup [V.ref A0.p,V.ref p1]);have w0:=w0.same B7 sq;have B7:=B7.same sq;clear sq Pd;generalize upd H7 tq (.tup [V.ref A0.p,V.ref p1])=H8 at *;rw[P5];clear P5;have uL:g.U.length<64:=by lia
 have hs:0<g.size:=by lia
 have Va:∀h,h<2->g.cf (sw h)=g.cf h:=λh hh=>by
  rcases(show h=0\/h=1 by lia) with rfl|rfl
  .exact gc.2.1.trans gc.1.symm
  .exact gc.1.trans gc.2.1.symm
 refine hide λu1 e1=>?_;refine⟨_,rfl,b,a3,q,c3,30,100,rfl,B7,by lia,by decide,by decide,by decide,λmn a4 c4 H9 V6 V5 B9 hc4 t4=>⟨_,rfl,by lia,by lia,NT (lo:=0) (n:=mn.toNat) (λi σ G=>∃(v7 v8 v9 v10 v11:Option V)(A A':TA)(os os':OS)(s0 s1:ao)(bk:Int->Int)(a' c':Int),σ=[some (.ref b),some (.int size),some (.ref tn),some (.ref tf),some (.ref lo),some (.ref A0.p),some (.ref A1.p),v7,v8,v9,v10,v11]/\A.p=A0.p/\A'.p=A1.p/\W0 K H G b lo tn tf cn cf ns g A os s0 A' os' s1/\Sw s0 s1/\Nx g s0/\(∀x,Lw g bk x s0)/\(∀x,Lw g bk x s1)/\aF G b a' q c'/\c'<=c4+13*(i:Int))
  ⟨_,_,_,_,_,A0,A1,qc,bS,_,_,_,a4,c4,rfl,rfl,rfl,w0.sb B7 t4,Yo,Yp,n1,n1,B9,by lia⟩ ?_ ?_⟩⟩
 .rintro i σ G hi ⟨v7,v8,v9,v10,v11,A,A',os,os',s0,s1,bk,a',c',rfl,eA,JB,w,IL,nx,lw,lw',B',hc'⟩;refine gN ?_;refine GA λD' Cy=>?_;try dsimp only
  rw[<-eA,<-JB]at Cy ⊢;refine hide λu2 e2=>?_;refine⟨_,rfl,_,rfl,_,rfl,b,lo,a',q,c',size,ns,rfl,B',m9,by lia,z0,z1,w.wb.xK,by lia,LF,AZ,λhd t hh d a5 c5 G1 CF et A9 ok5 iU B5 hc5 s5=>⟨hd,_,rfl,aU.of CF,rfl,_,_,rfl,gN ⟨_,_,rfl,gN ⟨rfl,?_⟩⟩⟩⟩;subst e2;try dsimp only
  have w:=w.sb B' s5;have bU:d.sp/g.size∈g.U:=by rw[gU,<-Xm];exact iU
  refine hide λu2 e2=>?_;refine⟨_,rfl,_,rfl,_,rfl,A,g,s0,os,t,hh,d,rfl,w.h0,A9,et,bU,λG2 qv jX KO My R2 Bc Wi ne1 p1=>?_⟩;obtain⟨w2,B6⟩:=w.mv B5 R2 p1;have P1:=p1.kp t _ et λ_=>id;have hsw:(1:Int)-(hh:Int)=((sw hh:Nat):Int):=by rw[BI A9];lia
  refine⟨_,rfl,_,rfl,_,_,rfl,rfl,_,rfl,A',g,s1,os',t,sw hh,d,by show[V.ref A'.p,V.int ((1:Int)-(hh:Int)),V.ref t]=_;rw[hsw],w2.h1,by rw[BI A9];lia,P1,bU,λG3 P9 iG KN rR R3 zJ Wh ne3 p3=>⟨_,_,rfl,?_⟩⟩;obtain⟨w3,N8⟩:=w2.swap.mv B6 R3 p3;have w3:=w3.swap;have W5:g.n=3:=g3;have IM:=IL.step (d:=d) W5 nx A9 (Va hh A9);have Lu:=ZjQ (d:=d) w.h0.ok A9 nx hs;have Cm:=λx=>QV (x:=x) (d:=d) hs w.h0.ok A9 lw;have LL:=λx=>QV (x:=x) (d:=d) (h:=sw hh) hs w.h1.ok (by rw[BI A9];lia) lw';have kY:=p3.kp _ _ My λ_=>id;have FL:¬OW A' os' A.ev:=w.sep _ (.inl (by unfold Bs;simp));have Bc:uY 3 G3 A.ev (bL g hh d s0).ev:=by
   rw[<-g3];exact uY.frame Bc (λo e=>p3.kp _ _ e λz=>absurd z FL) λx ys e=>p3.kp _ _ e λ_=>id
  rw[g3]at zJ;have Xc:IA g hh s0 d=IA g (sw hh) s1 d:=by
   cases d with
   |rd sp=>show V.int (mO g ((bL g hh (.rd sp) s0).at_ hh) sp)=V.int (mO g ((bL g (sw hh) (.rd sp) s1).at_ (sw hh)) sp);rw[IM.at_]
   |wt sp x=>rfl
  have Vi:Sc (IA g hh s0 d):=by cases d <;> trivial
  clear R2 R3 p1 p3 w w2 B5 B6 B' IL nx lw lw' et P1 FL ne1 ne3;subst e2;try dsimp only
  refine hide λu2 e2=>?_;refine⟨_,rfl,KO,_,_,_,rfl,rfl,aU.of kY,fO,_,rfl,KN,_,_,_,rfl,rfl,aU.of rR,fO,_,_,rfl,.inl ⟨Xc,Vi⟩,λG4 s4=>⟨_,rfl,cO rfl ?_⟩⟩;have Bc:=Bc.frame (H':=G4) (λo e=>s4 _ _ e) λx ys e=>s4 _ _ e;have zJ:=zJ.frame (H':=G4) (λo e=>s4 _ _ e) λx ys e=>s4 _ _ e;have kY:=s4 _ _ kY;have rR:=s4 _ _ rR;have w3:=w3.same N8 s4;have B8:=N8.same s4;obtain⟨GB,yi,q1,q2,q3⟩:=Bc;have tk0:∀t∈yi,∃e,yg e/\G4 t=some (.tup e):=λt ht=>by
   obtain⟨i,hi⟩:=aTN.mp ht;have l:=(aB9.mp hi).1;have e2:(bL g hh d s0).ev[i]?=some ((bL g hh d s0).ev[i]'(by lia)):=aun _;exact⟨_,MP (n:=3) (by lia) (GB _ (bcc e2)),q3 i t _ hi e2⟩
  refine⟨_,rfl,KO,_,_,_,rfl,rfl,aU.of kY,fN,A.ev,yi,rfl,az.of q1,by lia,tk0,λD o1 hD Ot Oo=>?_⟩;have m1:=Ze hD (.lst (o1.map V.ref));have d1:=Za (H:=G4) (a:=D) (o:=.lst (o1.map V.ref));obtain⟨p1,w1,c1⟩:=Qv q2 q3 Ot Oo;generalize upd G4 D (.lst (o1.map V.ref))=G5 at *;refine⟨_,rfl,KN,_,_,_,rfl,rfl,aU.of (m1 _ _ rR),fN,A'.ev,(bL g (sw hh) d s1).ev,rfl,zJ.frame (λo e=>m1 _ _ e) (λx ys e=>m1 _ _ e),by lia,λm2 G6 s6 Jz=>?_⟩;obtain⟨XA,Xz⟩:=Z8 IM.ev GB;obtain⟨hem,KL,y1,y2,y3⟩:=Jz;have Oe:∀t∈KL,∃e,yg e/\G6 t=some (.tup e):=λt ht=>by
   obtain⟨i,hi⟩:=aTN.mp ht;have l:=(aB9.mp hi).1;have e2:((bL g (sw hh) d s1).ev.map jv)[i]?=some (((bL g (sw hh) d s1).ev.map jv)[i]'(by lia)):=aun _;exact⟨_,MP (n:=3) (by lia) (hem _ (bcc e2)),y3 i t _ hi e2⟩
  have lus:KL.length<=100:=by rw[y2,axO];exact Wh
  refine⟨m2,KL,rfl,az.of y1,by lia,Oe,λD2 o2 Ju Oq Li=>?_⟩;have LK:=Ze Ju (.lst (o2.map V.ref));have d2:=Za (H:=G6) (a:=D2) (o:=.lst (o2.map V.ref));obtain⟨p2,w2,c2⟩:=Qv y2 y3 Oq Li;generalize upd G6 D2 (.lst (o2.map V.ref))=G7 at *;have IP:=s6.trans LK;have eqs:o1.map (cnt G4)=o2.map (cnt G6):=Zik (p1.trans (XA.symm.trans p2.symm)) (λe m=>MP (n:=3) (by lia) (GB e (p1.mem_iff.mp m))) w1 w2;have lo:o1.length=o2.length:=by have:=azy List.length eqs;rwa [axO,axO]at this
  refine⟨D,D2,o1.map V.ref,o2.map V.ref,λ_=>true,rfl,rfl,SJ (es:=o1.map (cnt G4)) (by rw[axO]) (λi t e e1 e2=>IP _ _ (m1 _ _ (c1 i t e e1 e2))) (λi t e e1 e2=>LK _ _ (c2 i t e e1 (by rw[<-eqs];exact e2))) (λe m=>GB e (p1.mem_iff.mp m)),az.of (IP _ _ d1),az.of d2,.inl ⟨by rw[axO,axO,lo],_,rfl,cO (by simp) ?_⟩⟩;dsimp only[gE];have yR:=m1.trans IP;have w3:=w3.same B8 yR;have TL:=B8.same yR;have kY:=yR _ _ kY;have rR:=yR _ _ rR;have q1:=yR _ _ q1;have q3:=λi t e h1 h2=>yR _ _ (q3 i t e h1 h2);have zJ:=zJ.frame (H':=G7) (λo e=>yR _ _ e) λx ys e=>yR _ _ e;clear d1 d2 m1 LK s6 IP c1 c2 p1 p2 w1 w2 y1 y3 tk0 Oe Ot Oq Oo Li eqs lo hD Ju yR Bc B8 N8;subst e2;try dsimp only
  refine⟨_,rfl,KO,_,_,_,rfl,rfl,aU.of kY,fN,_,rfl,A.ev,_,rfl,az.of q1,λp9 Ww=>?_⟩;have m1:=Ze Ww (.lst (cA (yi.map V.ref) none (some 1)));have d1:=Za (H:=G7) (a:=p9) (o:=.lst (cA (yi.map V.ref) none (some 1)));generalize upd G7 p9 (.lst (cA (yi.map V.ref) none (some 1)))=G8 at *;obtain⟨WK,IF,r1,r2,r3⟩:=zJ;refine⟨_,rfl,KN,_,_,_,rfl,rfl,aU.of (m1 _ _ rR),fN,_,rfl,A'.ev,_,rfl,az.of (m1 _ _ r1),λLq Ma=>?_⟩;have m2:=Ze Ma (.lst (cA (IF.map V.ref) none (some 1)));have d2:=Za (H:=G8) (a:=Lq) (o:=.lst (cA (IF.map V.ref) none (some 1)));generalize upd G8 Lq (.lst (cA (IF.map V.ref) none (some 1)))=G9 at *;rw[MD]at d1 d2;have tk:∀{G:Hp}{ts:List Addr}{es:List (List V)},(∀(i:Nat)(t:Addr)(e:List V),ts[i]?=some t->es[i]?=some e->G t=some (.tup e))->∀(i:Nat)(t:Addr)(e:List V),(ts.take 1)[i]?=some t->(es.take 1)[i]?=some e->G t=some (.tup e):=λ{G ts es} h i t e e1 e2=>by
   rw[List.getElem?_take]at e1 e2;by_cases c:i<1
   .rw [aaU c]at e1 e2;exact h i t e e1 e2
   .rw [afn c]at e1;cases e1
  have Wj:∀{α:Type}(l:List α),(l.take 1).length<=1:=λl=>by rw[bbw];lia
  refine⟨Lq,(bL g (sw hh) d s1).ev.take 1,rfl,⟨λe m=>WK e (mem_of_mem_take m),IF.take 1,d2,by rw[bbw,bbw,r2],λi t e e1 e2=>m2 _ _ (m1 _ _ (tk r3 i t e e1 e2))⟩,a0n (Wj _) (by decide),λm3 Tz vc Jz=>?_⟩;rw[map_take,Xz]at Jz;obtain⟨_,UX,y1,y2,y3⟩:=Jz;have Ol:=m2.trans vc;have K9:=m1.trans Ol;refine⟨p9,m3,(yi.take 1).map V.ref,UX.map V.ref,λ_=>true,rfl,rfl,SJ (es:=(bL g hh d s0).ev.take 1) (by rw[bbw,bbw,q2]) (λi t e e1 e2=>K9 _ _ (tk q3 i t e e1 e2)) y3 (λe m=>GB e (mem_of_mem_take m)),az.of (Ol _ _ d1),az.of y1,.inl ⟨by rw[axO,axO,y2,bbw,bbw,q2],_,rfl,cO (by simp) ?_⟩⟩;have w3:=w3.same TL K9;have TM:=TL.same K9;have a2P:g.U.length<=21:=C4;refine⟨_,rfl,_,rfl,_,rfl,A.re qv,A'.re P9,g,fq (bL g hh d s0),fq (bL g (sw hh) d s1),jX,iG,0,0,lo,ns,rfl,w3.h0.at_,w3.h1.at_,g3,IM.fq.lk,C4,by lia,w3.wb.xK,LF,λx hx=>by have:=AZ x hx;lia,λG11 BN=>⟨_,rfl,cO rfl ?_⟩⟩;exact Cy _ _ ⟨_,_,_,_,_,A.re qv,A'.re P9,jX,iG,_,_,_,a5,c5,rfl,rfl,rfl,w3.same TM BN,IM.fq,Lu,Cm,LL,TM.same BN,by lia⟩
 rintro σ G ⟨v7,v8,v9,v10,v11,A,A',os,os',s0,s1,bk,a',c',rfl,eA,JB,w,IL,nx,lw,lw',B',hc'⟩;subst e1;try dsimp only
 rw[<-eA,<-JB];clear w0 B7 B9 t4 eA JB;have zp:=λs=>QW hs w.h0.ok lw s;have FT:=λs=>QW hs w.h1.ok lw' s;obtain⟨OB,qz⟩:=JQ w.h0.ok;obtain⟨OA,xP⟩:=JQ w.h1.ok;have lk:Lk (fq (fM g s0)) (fq (fM g s1)):=by
  refine⟨λk hk=>?_,λk x hk=>?_,λk x hk hx=>?_,λs=>(FT s).trans (zp s).symm⟩
  .show (((fM g s1).at_ (sw k)).seq).Perm (((fM g s0).at_ k).seq);rw[qz k hk,xP _ (j4 hk)]
  .exact (OA.nf (k:=sw k) (by rw[xP _ (j4 hk)];simp)).trans (OB.nf (k:=k) (by rw[qz k hk];simp)).symm
  .have hx:x∈((fM g s0).at_ k).seq:=hx;rw[qz k hk]at hx;cases hx
 have bare:∀k,k<3->((fq (fM g s0)).at_ k).seq=[]:=qz;have B0:=OB.fq;obtain⟨cS,OF⟩:=w.h0.at_.ob;refine hide λu1 e1=>?_;refine⟨_,rfl,A.p,cS,_,rfl,OF,au ..,A,g,s0,os,rfl,w.h0,uL,λG1 e' bS R1 Bc Wi ne1 p1=>?_⟩;subst e1;try dsimp only
 obtain⟨w1,B1⟩:=w.mv B' R1 p1;obtain⟨l5,OE⟩:=w1.h1.at_.ob;refine hide λu1 e1=>?_;refine⟨_,rfl,A'.p,l5,_,rfl,OE,au ..,A',g,s1,os',rfl,w1.h1,uL,λG2 qu jX R2 Xf l2' ne2 p2=>?_⟩;subst e1;try dsimp only
 obtain⟨w2,B2⟩:=w1.swap.mv B1 R2 p2;have w2:=w2.swap;clear R1 R2 Bc Xf p1 p2 ne1 ne2 w w1 B' B1 IL nx lw lw' OA xP qz zp FT OF OE;generalize fq (fM g s0)=KG at *;generalize fq (fM g s1)=TQ at *;refine hide λu1 e1=>?_;refine⟨_,rfl,by lia,by lia,λlq Pp=>?_⟩;refine HN (lo:=0) (n:=(3:Int).toNat) (l:=lq) (λj ys σ G'=>∃v0:Option V,σ=[v0,some (.ref A.p)]/\ys=(List.replicate j false).map V.bl/\G' lq=some (.lst ys)/\aB G2 G') ⟨none,rfl,rfl,Za,Ze Pp _⟩ ?_ ?_
 .rintro i ys σ G' hi hys ⟨v0,rfl,rfl,gq,s6⟩;have oW:i<3:=hi;have e0:(0:Int)+(i:Int)=(i:Int):=by lia
  have R6:=w2.h0.at_.same s6;obtain⟨Qa,OD⟩:=R6.ob;refine⟨_,rfl,A.p,Qa,_,rfl,OD,au ..,_,rfl,A.re e',g,KG,bS,0,i,by rw[e0];rfl,R6,by lia,by rw[bare i oW];decide,λD bs hD pb pw=>?_⟩;have WQ:bs=[]:=by rw[bare i oW]at pb;exact pb.eq_nil
  subst WQ;have s7:=Ze hD (.lst (([]:List Int).map V.int));refine⟨_,rfl,A.p,Qa,_,rfl,s7 _ _ OD,au ..,_,rfl,A.re e',g,KG,bS,0,i,by rw[e0];rfl,R6.same s7,by lia,uL,λD2 cs Ju mc lc Li OQ=>?_⟩;have hcs:cs=[]:=by
   cases cs with
   |nil=>rfl
   |cons x r=>
    have z:=B0.ff i x ((mc x).mp aTL);rw[bare i oW]at z;cases z
  subst hcs;have s8:=Ze Ju (.lst (([]:List Int).map V.int));refine⟨D,D2,_,_,rfl,rfl,s8 _ _ Za,Za,(sL 0),λp hp=>⟨(sL 0),λl8 WD=>?_⟩⟩;have Vk:=Ze hp (.lst (([]:List Int).map V.int++([]:List Int).map V.int));have vc:=Ze WD (.lst []);have Oj:=s7.trans (s8.trans (Vk.trans vc));refine⟨p,l8,[],[],rfl,rfl,az.of (vc _ _ Za),az.of Za,?_⟩;refine oS.of (sL 3) hi hys (Oj _ _ gq) ⟨_,rfl,by rw[ab2,ado];rfl,Za,λx o e=>?_⟩;rw[Zc (Zf e Pp)];exact Oj _ _ (s6 _ _ e)
 rintro ys σ G6 _ ⟨v0,rfl,rfl,gq,s6⟩;refine⟨lq,_,rfl,az.of gq,_,rfl,?_⟩;rw[show(List.replicate (3:Int).toNat false).any id=false by rw[List.any_eq_false];intro z hz;rw[(aXd.mp hz).2];exact a7q];refine cO rfl ?_;dsimp only[gE];subst e1;try dsimp only
 have w3:=w2.same B2 s6;exact⟨_,rfl,_,rfl,_,rfl,A.re e',A'.re qu,g,KG,TQ,bS,jX,0,0,lo,ns,rfl,w3.h0.at_,w3.h1.at_,g3,lk,C4,by lia,w3.wb.xK,LF,λx hx=>by have:=AZ x hx;lia,λG7 s7=>k _ ((w3.same (B2.same s6) s7).wb.kp)⟩
inductive pJ(K:W.Frag)(vs:List V)(H:Hp)(Q:VK)(E:XK):Prop
 |mk (a:Addr) (ns:List Int):vs=[.ref a]->az K H a (ns.map V.int)->ns.length<=63->Tb K H->(∀H',Q (.bl true) H')->pJ K vs H Q E
example:(BX zh Gn Gi Gg):=by
 obtain ⟨a,ns,rfl,hS,h63,tb,k⟩:=h;refine⟨_,(Zd (dw 1 nd (Zl Gi hr.m rfl (pc (pv 0) (pc Zi Zb))))
   (Zh (Zs (Zp (Ks rfl) rfl T.DL Km (pc (ZZ (ZK (kF:=(Zr gR)) (oN:=Ig) (N:=["_law_k","_law_cells"]) (own:=1) (js:=[1]) (by decide +kernel) rfl rfl) rfl (Bm rfl T.vB (pc (Zp (SH rfl) rfl T.Jj RL (pc Zi (pc (Zp (ZE (K:=K) rfl) rfl T.zv aOy (pc (pv 1) Zb)) Zb))) Zb)) (λ_ _ _ _ _ _=>(cu 0 (show List.Nodup (["_law_k","_law_cells"]:List Str) by decide +kernel))) (λ_ _ _ _ _ _=>(Zl Gg hr.m rfl (pc (Zl Gn hr.m rfl (pc (pv 1) (pc (pv 0) Zb))) Zb)))) Zb))))),?_⟩
 refine⟨_,rfl,a,ns,3,rfl,hS,h63,by decide,by decide,λr ms H1 hr' s1 e1 lm=>?_⟩;have lc:(if((ms.map V.int).length:Int)>1 then((ms.map V.int).length:Int) else 1)<=63:=by rw[axO];split <;> lia
 refine⟨_,rfl,r,_,rfl,.inl (az.of e1),_,_,rfl,_,rfl,?_,?_,λl hl'=>?_⟩
 .split <;> lia
 .lia
 generalize(if((ms.map V.int).length:Int)>1 then((ms.map V.int).length:Int) else 1)=n at *;have V1:n.toNat<=63:=by lia
 have OI:r≠l:=Zf e1 hl';have Of:=tb.same s1;have DF:tabOf K "Room" "going" ≠l:=Zf Of hl';refine HN (lo:=0) (n:=n.toNat) (l:=l) (λj ys σ G=>∃v0:Option V,σ=[v0,some (.ref r)]/\ys=(List.replicate j true).map V.bl/\G l=some (.lst ys)/\G r=some (.lst (ms.map V.int))/\Tb K G)
  ⟨none,rfl,rfl,Za,by rw[Zc OI];exact e1,by unfold Tb;rw[Zc DF];exact Of⟩ ?_ ?_
 .rintro j ys σ G hj hy ⟨v0,rfl,rfl,g1,g2,g3⟩;refine⟨_,rfl,_,rfl,r,ms,_,rfl,az.of g2,by lia,by lia,λb ba bq G1 hb t1 B1=>?_⟩;refine⟨b,ba,bq,rfl,B1,g3.same t1,λG2 t2=>?_⟩;have m9:l≠b:=Zf g1 hb;have VM:r≠b:=Zf g2 hb;have Lx:tabOf K "Room" "going" ≠b:=Zf g3 hb;refine oS.of (a0n V1 (by decide)) hj hy (t2 _ _ m9 (t1 _ _ g1)) ⟨_,rfl,by rw[ab2,ado];rfl,Za,?_,?_⟩
  .rw [Zc OI];exact t2 _ _ VM (t1 _ _ g2)
  .unfold Tb;rw[Zc DF];exact t2 _ _ Lx (t1 _ _ g3)
 .rintro ys σ G hy ⟨v0,rfl,rfl,g1,g2,g3⟩;refine⟨l,_,rfl,az.of g1,?_⟩;rw[show(List.replicate n.toNat true).all id=true by rw[aD8];intro z hz;rw[(aXd.mp hz).2];rfl];exact k G
theorem tQ{us:List Value}{n:Nat}(h:us.length=n+1):∃v r,us=v ::r/\r.length=n:=by
 cases us with
 |nil=>cases h
 |cons v r=>exact⟨v,r,rfl,Nat.succ.inj h⟩
theorem Jf{fn:Value->Value->Value->Option Addr->Value->Value->FuncData}{ps:List Str}(h:∀a b c d e f v0,bindArgs (fn a b c d e f) ⟨[v0],[]⟩=pure (ps.zip [v0]))(hp:ps.length=1:=by rfl)(a b c:Value)(d:Option Addr)(e f:Value)(us:List Value)(hl:us.length=ps.length):bindArgs (fn a b c d e f) ⟨us,[]⟩=pure (ps.zip us):=by
 rw[hp]at hl;obtain⟨v0,r0,rfl,q0⟩:=tQ hl;cases aw6 q0;exact h a b c d e f v0
theorem ln2{fn:Value->Value->Value->Option Addr->Value->Value->FuncData}{ps:List Str}(h:∀a b c d e f v0 v1,bindArgs (fn a b c d e f) ⟨[v0,v1],[]⟩=pure (ps.zip [v0,v1]))(hp:ps.length=2:=by rfl)(a b c:Value)(d:Option Addr)(e f:Value)(us:List Value)(hl:us.length=ps.length):bindArgs (fn a b c d e f) ⟨us,[]⟩=pure (ps.zip us):=by
 rw[hp]at hl;obtain⟨v0,r0,rfl,q0⟩:=tQ hl;obtain⟨v1,r1,rfl,q1⟩:=tQ q0;cases aw6 q1;exact h a b c d e f v0 v1
theorem F0{fn:Value->Value->Value->Option Addr->Value->Value->FuncData}{ps:List Str}(h:∀a b c d e f v0 v1 v2,bindArgs (fn a b c d e f) ⟨[v0,v1,v2],[]⟩=pure (ps.zip [v0,v1,v2]))(hp:ps.length=3:=by rfl)(a b c:Value)(d:Option Addr)(e f:Value)(us:List Value)(hl:us.length=ps.length):bindArgs (fn a b c d e f) ⟨us,[]⟩=pure (ps.zip us):=by
 rw[hp]at hl;obtain⟨v0,r0,rfl,q0⟩:=tQ hl;obtain⟨v1,r1,rfl,q1⟩:=tQ q0;obtain⟨v2,r2,rfl,q2⟩:=tQ q1;cases aw6 q2;exact h a b c d e f v0 v1 v2
theorem LM{fn:Value->Value->Value->Option Addr->Value->Value->FuncData}{ps:List Str}(h:∀a b c d e f v0 v1 v2 v3,bindArgs (fn a b c d e f) ⟨[v0,v1,v2,v3],[]⟩=pure (ps.zip [v0,v1,v2,v3]))(hp:ps.length=4:=by rfl)(a b c:Value)(d:Option Addr)(e f:Value)(us:List Value)(hl:us.length=ps.length):bindArgs (fn a b c d e f) ⟨us,[]⟩=pure (ps.zip us):=by
 rw[hp]at hl;obtain⟨v0,r0,rfl,q0⟩:=tQ hl;obtain⟨v1,r1,rfl,q1⟩:=tQ q0;obtain⟨v2,r2,rfl,q2⟩:=tQ q1;obtain⟨v3,r3,rfl,q3⟩:=tQ q2;cases aw6 q3;exact h a b c d e f v0 v1 v2 v3
def lE(K:W.Frag)(nm:Str)(st:Stmt):Prop:=∃(f:Addr)(od an:Option Addr)(sl:Array (Option Value))(oc kV dc pm cd ct:Value),W.nsIn K mainGlobals nm=some (some (.ref f))/\K.lookup f=some ⟨oc,od,.func (W.fnOf nm nm (ZP st) (ZD st) (Zr st) .none kV dc pm an cd ct),sl⟩/\W.codeIn K cd nm=true/\W.keepIn K (.ref f)=true
def b7(K:W.Frag)(Ca:Addr)(nm q:Str)(st:Stmt):Prop:=∃(f:Addr)(od an:Option Addr)(sl:Array (Option Value))(oc kV dc pm cd ct:Value),W.findIn K (.ref Ca) nm=some (some (.ref f))/\W.isFn K (.ref f)=true/\K.lookup f=some ⟨oc,od,.func (W.fnOf nm q (ZP st) (ZD st) (Zr st) .none kV dc pm an cd ct),sl⟩/\W.codeIn K cd q=true/\W.keepIn K (.ref f)=true
theorem lE.mk{K:W.Frag}{nm:Str}{st:Stmt}{f:Addr}{od an:Option Addr}{sl:Array (Option Value)}{oc kV dc pm cd ct:Value}(a:W.nsIn K mainGlobals nm=some (some (.ref f)))(l:K.lookup f=some ⟨oc,od,.func (W.fnOf nm nm (ZP st) (ZD st) (Zr st) .none kV dc pm an cd ct),sl⟩)(c:W.codeIn K cd nm=true)(k:W.keepIn K (.ref f)=true):lE K nm st:=⟨_,_,_,_,_,_,_,_,_,_,a,l,c,k⟩
theorem b7.mk{K:W.Frag}{Ca:Addr}{nm q:Str}{st:Stmt}{f:Addr}{od an:Option Addr}{sl:Array (Option Value)}{oc kV dc pm cd ct:Value}(a:W.findIn K (.ref Ca) nm=some (some (.ref f)))(i:W.isFn K (.ref f)=true)(l:K.lookup f=some ⟨oc,od,.func (W.fnOf nm q (ZP st) (ZD st) (Zr st) .none kV dc pm an cd ct),sl⟩)(c:W.codeIn K cd q=true)(k:W.keepIn K (.ref f)=true):b7 K Ca nm q st:=⟨_,_,_,_,_,_,_,_,_,_,a,i,l,c,k⟩
def Ir(P:Program)(w:World)(K:W.Frag)(mg:Str->Option Value)(base:Heap):Prop:=∃h,K.In h/\h.Ns mainGlobals mg
section
variable{P:Program}{w:World}{K:W.Frag}{mg:Str->Option Value}{base:Heap}{Ca:Addr}{nm q:Str}{st:Stmt}{n:Nat}{ps:List Str}{sp:Sp}(B:Ir P w K mg base)
include B
theorem Ir.df(x:lE K nm st)(ok:∀{f fd},uf K nm nm st f fd->cJ P w K mg base oR n f fd ps sp)(hb:∀(kV dc pm:Value)(an:Option Addr)(cd ct:Value)(us:List Value),us.length=ps.length->bindArgs (W.fnOf nm nm (ZP st) (ZD st) (Zr st) .none kV dc pm an cd ct) ⟨us,[]⟩=pure (ps.zip us):=by first|exact Jf λ_ _ _ _ _ _ _=>rfl|exact ln2 λ_ _ _ _ _ _ _ _=>rfl|exact F0 λ_ _ _ _ _ _ _ _ _=>rfl|exact LM λ_ _ _ _ _ _ _ _ _ _=>rfl):Def P w K mg base nm n ps sp:=by
 obtain⟨f,od,an,sl,oc,kV,dc,pm,cd,ct,a,l,c,k⟩:=x;obtain⟨h,X,G⟩:=B;have F:=CQ l c k;exact⟨_,_,ok F,W.mg_of X G a,F.kp,F.binds hb⟩
theorem Ir.md(x:b7 K Ca nm q st)(ok:∀{f fd},uf K nm q st f fd->cJ P w K mg base oR n f fd ps sp)(hb:∀(kV dc pm:Value)(an:Option Addr)(cd ct:Value)(us:List Value),us.length=ps.length->bindArgs (W.fnOf nm q (ZP st) (ZD st) (Zr st) .none kV dc pm an cd ct) ⟨us,[]⟩=pure (ps.zip us):=by first|exact Jf λ_ _ _ _ _ _ _=>rfl|exact ln2 λ_ _ _ _ _ _ _ _=>rfl|exact F0 λ_ _ _ _ _ _ _ _ _=>rfl|exact LM λ_ _ _ _ _ _ _ _ _ _=>rfl):uV P w K mg base Ca nm n ps sp:=by
 obtain⟨f,od,an,sl,oc,kV,dc,pm,cd,ct,a,i,l,c,k⟩:=x;have F:=CQ l c k;exact⟨_,_,ok F,⟨a,i,k⟩,F.binds hb⟩
theorem Ir.kd{y:Str}(x:b7 K Ca "__init__" q st)(mk:W.makesIn K Ca=true)(kc:W.keepIn K (.ref Ca)=true)(aC:W.nsIn K mainGlobals y=some (some (.ref Ca)))(ok:∀{f fd},uf K "__init__" q st f fd->cJ P w K mg base oR n f fd ps sp)(hb:∀(kV dc pm:Value)(an:Option Addr)(cd ct:Value)(us:List Value),us.length=ps.length->bindArgs (W.fnOf "__init__" q (ZP st) (ZD st) (Zr st) .none kV dc pm an cd ct) ⟨us,[]⟩=pure (ps.zip us):=by first|exact Jf λ_ _ _ _ _ _ _=>rfl|exact ln2 λ_ _ _ _ _ _ _ _=>rfl|exact F0 λ_ _ _ _ _ _ _ _ _=>rfl|exact LM λ_ _ _ _ _ _ _ _ _ _=>rfl):Dr P w K mg base Ca y n ps sp:=by
 obtain⟨f,od,an,sl,oc,kV,dc,pm,cd,ct,a,i,l,c,k⟩:=x;obtain⟨h,X,G⟩:=B;have F:=CQ l c k;exact⟨_,_,ok F,⟨mk,a,i,kc⟩,W.mg_of X G aC,F.binds hb⟩
end
theorem Yl{l:W.OpenLaw}{w:World}{K:W.Frag}{h:Heap}{mg:Str->Option Value}{fa:Addr}{tp cg:Addr}(X:K.In h)(G:h.Ns mainGlobals mg)(WI:mg "law"=some (.ref fa))
  {aR:Addr} (xR:W.nsIn K mainGlobals "Room"=some (some (.ref aR)))
  {aJ:Addr} (t7:W.nsIn K mainGlobals "Store"=some (some (.ref aJ)))
  {aY:Addr} (qB:W.nsIn K mainGlobals "Memory"=some (some (.ref aY)))
  {ai:Addr} (qC:W.nsIn K mainGlobals "Beside"=some (some (.ref ai)))
  {jY:Addr} (t9:W.nsIn K mainGlobals "Steps"=some (some (.ref jY)))
  (x0:lE K "_law_take" wm)
  (x1:lE K "_law_box" AD)
  (x2:lE K "_law_folded" pT)
  (x3:lE K "_law_some_boards" cU)
  (a4:W.nsIn K mainGlobals "_law_same"=some (some (.ref f4))) (l4:K.lookup f4=some ⟨oc4,od4,.func (W.fnOf "_law_same" "_law_same" (ZP s_same) (ZD s_same) (Zr s_same) .none kV4 dc4 AW an4 Xs ct4),sl4⟩) (c4:W.codeIn K Xs "_law_same"=true) (k4:W.keepIn K (.ref f4)=true)
  (x5:lE K "shelf_of" ku)
  (x6:b7 K aR "has" "Room.has" kD)
  (x7:b7 K aR "mates" "Room.mates" gV)
  (x8:b7 K aR "need" "Room.need" jn)
  (a9:W.findIn K (.ref aR) "going"=some (some (.ref f9))) (i9:W.isFn K (.ref f9)=true) (l9:K.lookup f9=some ⟨oc9,od9,.func (W.fnOf "going" "Room.going" (ZP aT) (ZD aT) (Zr aT) .none kV9 dc9 pm9 an9 (.ref cg) ct9),sl9⟩) (c9:W.codeIn K (.ref cg) "Room.going"=true) (k9:W.keepIn K (.ref f9)=true)
  (UU:b7 K aR "drop" "Room.drop" jo)
  (UT:b7 K aR "use" "Room.use" kC)
  (US:b7 K aR "__init__" "Room.__init__" eN)
  (UR:b7 K aR "leaver_for" "Room.leaver_for" cL)
  (UQ:b7 K aR "bring" "Room.bring" gW)
  (UP:b7 K aJ "__init__" "Store.__init__" gS)
  (UO:b7 K aJ "has" "Store.has" jk)
  (UN:b7 K aJ "lay" "Store.lay" jj)
  (UM:b7 K aJ "take_in" "Store.take_in" dM)
  (UL:b7 K aJ "give_out" "Store.give_out" cY)
  (UK:b7 K aJ "words_of" "Store.words_of" cV)
  (UJ:b7 K aJ "lay_word" "Store.lay_word" cW)
  (UI:b7 K aJ "freshen" "Store.freshen" dN)
  (UH:lE K "board_of" kB)
  (UG:lE K "spots_of" kq)
  (UE:b7 K aY "__init__" "Memory.__init__" fX)
  (UD:b7 K aY "words_of" "Memory.words_of" bP)
  (UC:b7 K aY "lay" "Memory.lay" gX)
  (UB:b7 K ai "store" "Steps.store" fV)
  (UA:b7 K ai "words" "Steps.words" fU)
  (Uz:b7 K ai "happened" "Steps.happened" dg)
  (Uy:b7 K ai "leaver" "Steps.leaver" eG)
  (Ux:b7 K ai "tell_found" "Steps.tell_found" cD)
  (Uw:b7 K ai "use_in" "Steps.use_in" eB)
  (Uv:b7 K ai "come_in" "Steps.come_in" dP)
  (Uu:b7 K ai "go_out" "Steps.go_out" eL)
  (Ut:b7 K ai "put" "Steps.put" jm)
  (Us:b7 K ai "word_in" "Steps.word_in" dO)
  (Ur:b7 K ai "put_word" "Steps.put_word" cZ)
  (W6:W.specialIn K (.ref jY) "__getattribute__"=some (some (.builtin "type.__getattribute__"))) (Vr:W.readsIn K jY (.type "type")=true) (XH:W.findCls K (.ref jY) (.type "type") "__init__"=some (.val (.ref PX))) (Wg:K.lookup PX=some ⟨VF,VD,.func (W.fnOf "__init__" "Steps.__init__" (ZP bB) (ZD bB) (Zr bB) .none Wl Xp Vs XF MK Xq),Vg⟩) (Xv:W.codeIn K MK "Steps.__init__"=true) (O0:W.keepIn K (.ref PX)=true)
  (Uq:b7 K aJ "is_fresh" "Store.is_fresh" cX)
  (Up:b7 K aJ "settle" "Store.settle" d9)
  (Uo:b7 K ai "__init__" "Beside.__init__" fZ)
  (Um:b7 K ai "put_down" "Beside.put_down" cM)
  (Ul:b7 K ai "leave_near" "Beside.leave_near" cj)
  (Uk:b7 K ai "settle_near" "Beside.settle_near" bX)
  (Uj:b7 K ai "leave_all" "Beside.leave_all" cE)
  (Ui:b7 K ai "fetch_far" "Beside.fetch_far" cF)
  (Uh:b7 K ai "fetch_near" "Beside.fetch_near" ck)
  (Ug:b7 K ai "read" "Beside.read" fY)
  (Ue:b7 K ai "write" "Beside.write" eT)
  (Ud:b7 K aR "boards" "Room.boards" fW)
  (Uc:b7 K ai "lies" "Steps.lies" gT)
  (Ub:b7 K ai "emptied" "Beside.emptied" dj)
  (Ua:lE K "_law_room_plan" jh)
  (T9:lE K "_law_plan" rD)
  (T8:lE K "_law_many" wu)
  (T7:lE K "_law_word" wk)
  (T6:lE K "_law_deed" wA)
  (T5:lE K "_law_pair" wo)
  (T4:lE K "_law_hand_deed" ji)
  (T3:lE K "_law_done" wz)
  (TZ:b7 K ai "changed" "Steps.changed" dQ)
  (TY:b7 K aY "pairs" "Memory.pairs" eS)
  (TX:b7 K ai "memory" "Steps.memory" eE)
  (TV:lE K "_law_swapped" iM)
  (TU:lE K "_law_like" nS)
  (TR:lE K "_law_right" nR)
  (XG:W.nsIn K mainGlobals "law"=some (some (.ref PV))) (Wf:K.lookup PV=some ⟨VE,VC,.func (W.fnOf "law" "law" (ZP gR) (ZD gR) (Zr gR) .none LQ MB Lm MN Hi ME),Vf⟩) (Xu:W.codeIn K Hi "law"=true) (Wm:W.keepIn K (.ref PV)=true)
  (Jk:W.nsIn K mainGlobals "abs"=some none)
  (DL:W.nsIn K mainGlobals "all"=some none)
  (LX:W.nsIn K mainGlobals "any"=some none)
  (Jl:W.nsIn K mainGlobals "bool"=some none)
  (LY:W.nsIn K mainGlobals "divmod"=some none)
  (LS:W.nsIn K mainGlobals "enumerate"=some none)
  (DK:W.nsIn K mainGlobals "int"=some none)
  (ve:W.nsIn K mainGlobals "isinstance"=some none)
  (zv:W.nsIn K mainGlobals "len"=some none)
  (vC:W.nsIn K mainGlobals "list"=some none)
  (Jj:W.nsIn K mainGlobals "max"=some none)
  (LW:W.nsIn K mainGlobals "min"=some none)
  (vB:W.nsIn K mainGlobals "range"=some none)
  (Al:W.nsIn K mainGlobals "sorted"=some none)
  (Gm:W.nsIn K mainGlobals "str"=some none)
  (Ge:W.nsIn K mainGlobals "tuple"=some none)
  (Ji:W.nsIn K mainGlobals "zip"=some none)
  {EH:Tok} (uh:W.nsIn K mainGlobals "FAR"=some (some (.int 2 EH)))
  {tZ:Addr} {zM:Option Addr} {zm:Nat} {yQ:Array (Option Value)} {uq uo:Tok} (Jo:W.nsIn K mainGlobals "HANDS"=some (some (.ref tZ))) (zB:K.lookup tZ=some ⟨.type "tuple",zM,.seq #[.int 0 uq,.int 1 uo] zm,yQ⟩)
  (BW:W.plainGet K aR Str.empty=true) (Ct:W.hasDictIn K aR=true) (BV:W.plainOver K aR=true) (BL:W.findIn K (.ref aR) "__setattr__"=some (some (.builtin "object.__setattr__"))) (Ci:W.makesIn K aR=true) (Cq:W.keepIn K (.ref aR)=true)
  (oq:W.findIn K (.ref aR) "places"=some none)
  (rJ:W.findIn K (.ref aR) "rule"=some none)
  (lX:W.findIn K (.ref aR) "shelves"=some none)
  (kO:W.findIn K (.ref aR) "standing"=some none)
  (rH:W.findIn K (.ref aR) "uses"=some none)
  (yY:W.plainGet K aJ Str.empty=true) (zA:W.hasDictIn K aJ=true) (yW:W.plainOver K aJ=true) (yP:W.findIn K (.ref aJ) "__setattr__"=some (some (.builtin "object.__setattr__"))) (zo:W.makesIn K aJ=true) (zu:W.keepIn K (.ref aJ)=true)
  (om:W.findIn K (.ref aJ) "fresh"=some none)
  (qm:W.findIn K (.ref aJ) "held"=some none)
  (ql:W.findIn K (.ref aJ) "late"=some none)
  (qk:W.findIn K (.ref aJ) "room"=some none)
  (wO:W.plainGet K aY Str.empty=true) (xx:W.hasDictIn K aY=true) (wM:W.plainOver K aY=true) (wg:W.findIn K (.ref aY) "__setattr__"=some (some (.builtin "object.__setattr__"))) (wX:W.makesIn K aY=true) (xj:W.keepIn K (.ref aY)=true)
  (ow:W.findIn K (.ref aY) "kept"=some none)
  (ou:W.findIn K (.ref aY) "size"=some none)
  (wQ:W.plainGet K ai Str.empty=true) (xA:W.hasDictIn K ai=true) (wN:W.plainOver K ai=true) (wj:W.findIn K (.ref ai) "__setattr__"=some (some (.builtin "object.__setattr__"))) (wY:W.makesIn K ai=true) (xo:W.keepIn K (.ref ai)=true)
  (kR:W.findIn K (.ref ai) "bottom"=some none)
  (kQ:W.findIn K (.ref ai) "events"=some none)
  (oB:W.findIn K (.ref ai) "last"=some none)
  (oA:W.findIn K (.ref ai) "size"=some none)
  (kP:W.findIn K (.ref ai) "stores"=some none)
  (ch:W.codeHdIn K cg tp=true) (kt:K.lookup tp=none)
  :tabOf K "Room" "going"=tp/\(∃c0,W.codeHdIn K c0 tp=true)/\K.lookup tp=none/\∃fd:FuncData,(∀(s:Shared)(v:Value),BindsTo s fd ⟨[v],[]⟩ [("_law_script",v)])/\∀base:Heap,K.In base->base.Ns mainGlobals mg->BMod base mg->cJ l.prog w K mg base oR 19 fa fd uc (pJ K):=by
 have e:=WI.symm.trans (W.mg_of X G XG);cases e;have Cz:=HG xR;subst Cz;have zC:=HG t7;subst zC;have xC:=HG qB;subst xC;have xD:=HG qC;subst xD;have zD:=HG t9;subst zD;have T:Txt K mg:=⟨aan X G Jk,aan X G DL,aan X G LX,aan X G Jl,aan X G LY,aan X G LS,aan X G DK,aan X G ve,aan X G zv,aan X G vC,aan X G Jj,aan X G LW,aan X G vB,aan X G Al,aan X G Gm,aan X G Ge,aan X G Ji,⟨_,W.mg_of X G uh⟩,⟨_,W.mg_of X G Jo,λ_=>.inr ⟨_,_,_,zB,rfl,rfl,(sL 2),.cons ⟨_,rfl⟩ (.cons ⟨_,rfl⟩ (.nil))⟩⟩,⟨BW,Ct,BV,BL⟩,oq,rJ,lX,kO,rH,⟨yY,zA,yW,yP⟩,om,qm,ql,qk,⟨wO,xx,wM,wg⟩,ow,ou,⟨wQ,xA,wN,wj⟩,kR,kQ,oB,oA,kP⟩;have F4:=CQ (st:=s_same) l4 c4 k4;have Hu:=F4.binds (ps:=gw) (ln2 λ_ _ _ _ _ _ _ _=>rfl);have F9:=CQ (st:=aT) l9 c9 k9;have Ht:=F9.binds (ps:=cC) (ln2 λ_ _ _ _ _ _ _ _=>rfl);have TH:=CQ (st:=bB) Wg Xv O0;have Hs:=TH.binds (ps:=cB) (F0 λ_ _ _ _ _ _ _ _ _=>rfl);have TF:=CQ (st:=gR) Wf Xu Wm;have Qe:=TF.binds (ps:=uc) (Jf λ_ _ _ _ _ _ _=>rfl);have tq:=ZhX a9 l9 rfl ch;refine⟨tq,⟨_,ch⟩,kt,?_⟩;refine⟨W.fnOf "law" "law" (ZP gR) (ZD gR) (Zr gR) .none LQ MB Lm MN Hi ME,λs v=>.of_eq rfl,λbase _ _ bm=>?_⟩;have B:Ir l.prog w K mg base:=⟨_,X,G⟩;have cK:=B.df x0 (λF=>zc F T );have Gn:=B.df x1 (λF=>BY F T );have Gi:=B.df x2 (λF=>uA F T );have El:=B.df x3 (λF=>kG F T cK);have uZ:=R8 (P:=l.prog) (w:=w) (base:=base) F4 Hu (W.mg_of X G a4) T ;have EA:=B.df x5 (λF=>qf F T );have wJ:=B.md x6 (λF=>qi F T );have tN:=B.md x7 (λF=>lT F T EA);have wD:=B.md x8 (λF=>nZ F T wJ);have EE:uV l.prog w K mg base (af K "Room") "going" 2 cC (jW K):=⟨_,_,ZcZ F9 rfl tq ch bm T ,⟨a9,i9,k9⟩,Ht⟩;have Ak:=B.md UU (λF=>n9 F T wD tN);have Gk:=B.md UT (λF=>qh F T wD tN);have Gd:=B.kd US Ci Cq xR (λF=>n8 F T );have AM:=B.md UR (λF=>gk F T tN EE);have Ej:=B.md UQ (λF=>lV F T wJ AM tN Ak);have Gh:=B.kd UP zo zu t7 (λF=>lP F T Gd);have tL:=B.md UO (λF=>nX F T wJ);have Aj:=B.md UN (λF=>nW F T );have Et:=B.md UM (λF=>iN F T Ej Aj);have Ey:=B.md UL (λF=>g9 F T Ak);have tP:=B.md UK (λF=>gY F T wD);have Ex:=B.md UJ (λF=>gZ F T );have AL:=B.md UI (λF=>iO F T );have tK:=B.df UH (λF=>qg F T );have Ah:=B.df UG (λF=>qe F T );have Gj:=B.kd UE wX xj qB (λF=>kL F T );have Ez:=B.md UD (λF=>gm F T Ah);have EF:=B.md UC (λF=>lW F T Ah);have wF:=B.md UB (λF=>kI F T );have tO:=B.md UA (λF=>kH F T Ez wF tP);have wG:=B.md Uz (λF=>ie F T );have AR:=B.md Uy (λF=>jG F T AM);have yV:=B.md Ux (λF=>fF F T );have AU:=B.md Uw (λF=>jE F T Gk);have AK:=B.md Uv (λF=>iQ F T Et);have rE:=B.md Uu (λF=>jH F T Ey);have vd:=B.md Ut (λF=>nY F T EF Aj);have Es:=B.md Us (λF=>iP F T tP tK);have Eu:=B.md Ur (λF=>ic F T Ex tK);have ED:Du l.prog w K mg base "Steps" "__init__" 5 cB (jV K):=⟨_,_,_,lR TH T Gh Gj,⟨W6,⟨_,Vr,XH⟩,O0⟩,W.mg_of X G t9,Hs⟩;have Ew:=B.md Uq (λF=>g6 F T );have Er:=B.md Up (λF=>jD F T );have DO:=B.kd Uo wY xo qC (λF=>kN F T ED);have wH:=B.md Um (λF=>gr F T vd AL);have AO:=B.md Ul (λF=>eU F T rE wH);have Fj:=B.md Uk (λF=>dU F T Ew tP wH Er);have Fi:=B.md Uj (λF=>fH F T rE tL vd);have Fg:=B.md Ui (λF=>fJ F T tL yV AU AR Fi AK tO);have AN:=B.md Uh (λF=>eV F T tL yV AU Fg Fj AR AO AK tO);have Em:=B.md Ug (λF=>kM F T tK AN Es wG);have Ep:=B.md Ue (λF=>jJ F T tK AN tL rE Eu AL tP wH wG);have En:=B.md Ud (λF=>kK F T );have tM:=B.md Uc (λF=>lQ F T wF En);have DE:=B.md Ub (λF=>ig F T tM AO rE vd wG);have Ai:=B.df Ua (λF=>nU F T cK);have Ga:=B.df T9 (λF=>zd F T cK Ai);have F6:=B.df T8 (λF=>zf F T cK);have Gb:=B.df T7 (λF=>y9 F T cK);have F8:=B.df T6 (λF=>zk F T cK Gb);have F7:=B.df T5 (λF=>ze F T Ga Ai);have EB:=B.df T4 (λF=>nV F T cK F8);have DN:=B.df T3 (λF=>zj F T Em Ep);have yU:=B.md TZ (λF=>iR F T wF);have Eo:=B.md TY (λF=>jI F T );have Dy:=B.md TX (λF=>jF F T Eo);have Dz:=B.df TV (λF=>rG F T );have DM:=B.df TU (λF=>zg F T tM yU tO Dy uZ);have Gg:=B.df TR (λF=>wR F T F7 El EB F6 DO DN Dz DM DE tM yU uZ);exact BX TF T Gn Gi Gg
theorem walk{l:W.OpenLaw}{q:Program}{loose:List Str}{XP:(Str->Option Value)->Heap->Prop}{YP:World->Heap->Prop}{d:DefRec}{K:Params->W.Frag}{tp:Addr}(hn:l.most=some 63)(hdf:d.params.defaults=[])
  (hY:∀(w:World)(h:Heap),YP w h->(K w.params).In h/\h.get? tp=some { cls:=.none,data:=.fields #[] })
  (F:∀(w:World)(mg:Str->Option Value)(fa:Addr)(h:Heap),(K w.params).In h->h.Ns mainGlobals mg->mg d.name=some (.ref fa) ->
   tabOf (K w.params) "Room" "going"=tp/\(∃c0,W.codeHdIn (K w.params) c0 tp=true)/\(K w.params).lookup tp=none/\∃fd:FuncData,(∀(s:Shared)(u:Value),BindsTo s fd ⟨[u],[]⟩ [("_law_script",u)])/\∀base:Heap,(K w.params).In base->base.Ns mainGlobals mg->BMod base mg->cJ l.prog w (K w.params) mg base oR 19 fa fd uc (pJ (K w.params))) :
  W.WalkO q loose XP YP l.row.toRowW d [] (λf vs=>PySem.call f vs):=
 L2.ZhW (tp:=tp) (pos:=tpos) (qual:=vE) (G:=λw=>tabOf (K w.params) "Room" "going"=tp) (n:=63) (k:=19) (x:="_law_script") (CX:=λ_=>oR) (sp:=λw=>pJ (K w.params)) hn (by decide) hdf ⟨rfl,by decide,by decide,rfl⟩ hY F (λ_ _ a ns g hl hT hS=>⟨a,ns,rfl,hS,hl,(by unfold Tb;rw[g];exact hT),λ_=>rfl⟩) λ_ _ _ _ _ z=>z
end aj
namespace PySem.W.Fast
abbrev Q:=Nat
open Lean in
local macro_rules|`(command|#reduce 0)=>do
 let f:=λ(n:Name)=>`(command|def $(mkIdent (.mkSimple s!"tw{n.hash}")):ident:=Q)
 let mut r:=#[<-f `PySem.Challenge.pw_nearstairs_k40_hands_swapped]
 for (x,l) in[("o_",List.range' 43 731),("tree_",[47,84,99,114,129,144,235,236,323,372,491,574,579,664,744,773]),("sts_",[49,85,100,115,130,145,236,238,324,373,578,580,665,745]),("view_",[39]),("thread_",[574]),("heap_",[39,46,774]),("env_",[41])] do for i in l do r:=r.push (<-f (.str `PySem.Challenge.cw_nearstairs_k40_hands_swapped_holds s!"{x}{i}"))
 return mkNullNode r
#reduce 0
end PySem.W.Fast
open PySem PySem.W PyProof.Rows
set_option maxRecDepth 100000 in
set_option maxHeartbeats 0 in
theorem PySem.Challenge.cw_nearstairs_k40_hands_swapped_holds : PySem.Challenge.rw_nearstairs_k40_hands_swapped.Holds := by
 w_on;o_law;k_head;(case hw=>w_witness2)
 k_fill
 refine aj.walk (l:=PySem.Challenge.rw_nearstairs_k40_hands_swapped) rfl rfl (λw h Y=>⟨PySem.W.km_in_of Y,PySem.W.km_tabs_of Y _ mem_cons_self⟩) ?F
 case F=>
  intro w mg fa h KX G hmg;refine' aj.Yl KX G hmg ?_ ?_ ?_ ?_ ?_ ?_ ?_ ?_ ?_ ?_ ?_ ?_ ?_ ?_ ?_ ?_ ?_ ?_ ?_ ?_ ?_ ?_ ?_ ?_ ?_ ?_ ?_ ?_ ?_ ?_ ?_ ?_ ?_ ?_ ?_ ?_ ?_ ?_ ?_ ?_ ?_ ?_ ?_ ?_ ?_ ?_ ?_ ?_ ?_ ?_ ?_ ?_ ?_ ?_ ?_ ?_ ?_ ?_ ?_ ?_ ?_ ?_ ?_ ?_ ?_ ?_ ?_ ?_ ?_ ?_ ?_ ?_ ?_ ?_ ?_ ?_ ?_ ?_ ?_ ?_ ?_ ?_ ?_ ?_ ?_ ?_ ?_ ?_ ?_ ?_ ?_ ?_ ?_ ?_ ?_ ?_ ?_ ?_ ?_ ?_ ?_ ?_ ?_ ?_ ?_ ?_ ?_ ?_ ?_ ?_ ?_ ?_ ?_ ?_ ?_ ?_ ?_ ?_ ?_ ?_ ?_ ?_ ?_ ?_ ?_ ?_ ?_ ?_ ?_ ?_ ?_ ?_ ?_ ?_ ?_ ?_ ?_ ?_ ?_ ?_ ?_ ?_ ?_ ?_ ?_ ?_ ?_ ?_ ?_ ?_ ?_;all_goals try refine' aj.lE.mk ?_ ?_ ?_ ?_
  all_goals try refine' aj.b7.mk ?_ ?_ ?_ ?_ ?_
  all_goals try k_is
  all_goals kernel_rfl
