import PyProof.Rows.All
import Wide.All
import OpenK.AllK
import Wide.FinOn
import Lean
import PyProof.EqAt
import PyProof.EqKinds
import PyProof.TupleCall
import KE.KDictSum
import KE.KTryDeep
import KE.KTryMore
import PyProof.NsDelKeeps
import PyProof.FString
import PyProof.Rows.SetFrom
import PyProof.DictValues
import KE.KDictList
import PySem.Challenge.RW_nearstairs_k23_rows_turned_about
open List (all_cons all_eq_true any_cons any_eq_true any_map append_assoc append_nil drop_drop drop_eq_getElem_cons drop_eq_nil_of_le drop_of_length_le drop_sublist drop_take erase_of_not_mem erase_sublist filter_append filter_congr filter_cons filter_filter filter_map filter_nil filter_sublist find?_cons find?_cons_of_neg find?_cons_of_pos getD_eq_getElem?_getD getElem?_append_left getElem?_append_right getElem?_drop getElem?_eq_getElem getElem?_eq_none getElem?_eq_some_iff getElem?_map getElem?_range getElem_drop getElem_mem getElem_of_mem getElem_take length_append length_cons length_drop length_erase_le length_erase_of_mem length_filter_le length_map length_nil length_pos_iff length_pos_of_mem length_range length_reverse length_set length_singleton length_take map_append map_congr_left map_cons map_id map_map map_nil map_reverse mem_append mem_append_left mem_append_right mem_cons mem_cons_of_mem mem_cons_self mem_filter mem_flatMap mem_iff_getElem mem_map mem_of_getElem? mem_of_mem_erase mem_of_mem_take mem_range mem_replicate mem_reverse mem_singleton nodup_cons nodup_nil nodup_range not_mem_nil pairwise_append pairwise_iff_getElem take_append_drop take_length take_of_length_le take_sublist take_succ take_take take_zero)
set_option Elab.async false
set_option compiler.extract_closed false
set_option linter.all false
set_option maxRecDepth 100000
abbrev amU:=@if_neg
abbrev atn:=@if_pos
abbrev a6w:=@PySem.wpAny_bind
abbrev aDi:=@List.getElem?_eq_getElem
abbrev aNS:=@Nat.le_refl
abbrev atD:=@PySem.Heap.get?_push_of_some
abbrev aPI:=@List.getD_eq_getElem?_getD
abbrev aAt:=@List.length_map
abbrev a5F:=@PyProof.Rows.wpS_bind
abbrev alE:=@PySem.Heap.lt_size
abbrev aju:=@PyProof.Rows.wpS_pure
abbrev aGg:=@decide_eq_true
abbrev aw7:=@List.getElem?_eq_some_iff
abbrev aMS:=@PySem.Heap.get?_push_size
abbrev adj:=@PySem.wpAny_pure
abbrev aYu:=@List.getElem?_map
abbrev a5A:=@List.size_toArray
abbrev aPi:=@Bool.false_ne_true
abbrev aWh:=@decide_eq_false
abbrev ado:=@Option.some.inj
abbrev aUV:=@List.length_append
abbrev a6b:=@of_decide_eq_true
abbrev aOw:=@Nat.ne_of_lt
abbrev arS:=@Bool.false_eq_true
abbrev afi:=@List.mem_filter
abbrev amQ:=@List.mem_cons_of_mem
abbrev aBr:=@List.mem_singleton
abbrev ac0:=@List.mem_cons
abbrev abg:=@List.mem_of_getElem?
abbrev ba6:=@Bool.and_eq_true
abbrev aJX:=@List.mem_append
abbrev aiy:=@List.mem_map
abbrev awR:=@List.map_append
abbrev ay9:=@Nat.le_trans
abbrev a38:=@Ne.symm
abbrev aze:=@Nat.zero_le
abbrev a8m:=@decide_eq_true_eq
abbrev aHK:=@Array.length_toList
abbrev aEj:=@List.mem_range
abbrev a5w:=@List.mem_cons_self
abbrev aqK:=@PySem.F.plainAttrs_list
abbrev ajX:=@Nat.lt_of_lt_of_le
abbrev aTO:=@List.filter_cons
abbrev bc9:=@List.length_cons
abbrev aFp:=@List.getElem?_append_right
abbrev aTr:=@PySem.boot_len
abbrev aPb:=@PySem.wpAny_mono
abbrev a8g:=@Array.getElem?_eq_getElem
abbrev aWO:=@List.map_cons
abbrev avJ:=@bind_congr
abbrev aRN:=@Nat.le_of_lt
abbrev a4m:=@PySem.Heap.get?_update_other
abbrev aG7:=@List.nodup_cons
abbrev a6D:=@List.getElem?_append_left
abbrev a9V:=@PySem.F.slot_list_append
abbrev alx:=@PySem.F.type_list_append
abbrev aub:=@PyProof.Rows.wpS_forRange
abbrev ap3:=@List.mem_append_right
abbrev aQ2:=@List.find?_cons_of_neg
abbrev a6P:=@List.not_mem_nil
abbrev aEJ:=@if_false
abbrev a9v:=@List.length_take
abbrev asf:=@List.mem_cons
abbrev bbV:=@List.countP_singleton
abbrev aco:=@PySem.W.mg_none_of
abbrev aep:=@PySem.Heap.size_push
abbrev aBw:=@List.length_reverse
abbrev a7z:=@PySem.sizeLine_eq
abbrev aaS:=@List.countP_append
abbrev aOQ:=@Bool.eq_iff_iff
abbrev amK:=@List.append_nil
abbrev ahI:=@List.range_succ
abbrev afX:=@List.take_length
abbrev aP3:=@Array.toList_append
abbrev bca:=@PyProof.Rows.wpS_mono
abbrev ars:=@List.map_congr_left
abbrev aN5:=@List.filter_sublist
abbrev aVe:=@PySem.PassesOwn.never
abbrev aRm:=@List.append_assoc
abbrev azq:=@or_false
abbrev aVB:=@List.Nodup.mem_erase_iff
abbrev aek:=@Array.getElem?_toList
abbrev arY:=@List.perm_append_comm
abbrev a3o:=@PySem.wpAny_truthy_bool
abbrev avh:=@List.find?_cons_of_pos
abbrev a0A:=@congrArg
abbrev a3p:=@if_true
abbrev axJ:=@List.sum_cons
abbrev aXR:=@List.filter_append
abbrev aWD:=@List.eq_nil_of_length_eq_zero
abbrev avq:=@List.take_succ
abbrev aBl:=@PySem.wpAny_holding
abbrev aCw:=@PyProof.Rows.callWith_type1
abbrev a8x:=@decide_eq_false_iff_not
abbrev ah9:=@List.lookup_cons
abbrev aKi:=@List.length_filter_le
abbrev af9:=@Nat.lt_irrefl
abbrev avs:=@PySem.wpAny_seqItems
abbrev aEQ:=@Int.le_refl
abbrev a6G:=@List.take_of_length_le
abbrev aNc:=@Nat.lt_trichotomy
abbrev abt:=@List.filterMap_cons
abbrev aPA:=@List.reverse_append
abbrev afg:=@List.length_erase_of_mem
abbrev a4Q:=@List.pairwise_iff_getElem
abbrev agN:=@List.Pairwise.sublist
abbrev aRn:=@List.getElem?_eq_none
abbrev a6I:=@List.take_append_drop
abbrev aDG:=@Int.emod_lt_of_pos
abbrev a2P:=@List.getElem_mem
abbrev aei:=@PySem.wpAny_rule
abbrev a1x:=@List.pairwise_append
abbrev ae2:=@Nat.lt_succ_of_lt
abbrev aTm:=@List.length_pos_of_mem
abbrev aC6:=@List.countP_congr
abbrev aCj:=@List.mem_append_left
abbrev aJJ:=@Option.map_some
abbrev awg:=@List.nodup_nil
abbrev aky:=@Nat.ne_of_gt
abbrev aA0:=@PySem.wpAny_field
abbrev a4I:=@Int.le_trans
abbrev aQM:=@PyProof.Rows.wpS_modify
abbrev amV:=@List.cons_append
abbrev ai2:=@List.mem_of_mem_erase
abbrev arh:=@PySem.Heap.get?_update_self
abbrev aDm:=@List.Nodup.sublist
abbrev a0x:=@PySem.wpAny_letGo
abbrev aSb:=@List.length_erase_le
abbrev aIt:=@decide_false
abbrev aLh:=@List.drop_eq_getElem_cons
abbrev agB:=@Int.emod_nonneg
abbrev aoc:=@List.filter_congr
abbrev avi:=@List.takeWhile_cons
abbrev aDX:=@Nat.lt_succ_self
abbrev ar4:=@PyProof.Rows.wpS_get
abbrev aDd:=@List.countP_eq_length_filter
abbrev aO8:=@Nat.le_succ
abbrev ad0:=@List.length_drop
abbrev ad1:=@PySem.Calls.callWith_builtin
abbrev a2G:=@decide_true
abbrev aLm:=@PySem.Calls.spliced_cons
abbrev aSv:=@PySem.wpAny_Call_Name_kw
abbrev a76:=@PySem.wpAny_passesOwn
abbrev a7K:=@PySem.plainId_quiet
abbrev apK:=@PySem.F.slot_tuple_iterator_next
abbrev aH7:=@Array.perm_iff_toList_perm
abbrev aGM:=@List.perm_ext_iff_of_nodup
abbrev aa0:=@PySem.wpAny_newObj_type
abbrev abu:=@PySem.wpAny_pyIter_list
abbrev a1R:=@List.ext_getElem?
abbrev awl:=@List.drop_of_length_le
abbrev azD:=@Array.toList_push
abbrev aY8:=@beq_iff_eq
abbrev axv:=@Classical.byContradiction
abbrev auc:=@PySem.W.kia_one
abbrev ayr:=@List.any_eq_true
abbrev aYE:=@Bool.false_and
abbrev ahO:=@List.getElem?_range
abbrev axk:=@List.length_singleton
abbrev aa6:=@PySem.F.plain_max_loop
abbrev aj5:=@PySem.F.plain_min_loop
abbrev aPW:=@Nat.zero_add
abbrev aL9:=@Nat.sub_self
abbrev aan:=@List.length_range
abbrev aiK:=@beq_eq_false_iff_ne
abbrev aje:=@PySem.mem_of_lookup
abbrev baX:=@List.length_pos_iff
abbrev aGp:=@PySem.F.plainAttrs_dict
abbrev aNk:=@PySem.wpAny_callSpecial?_slot
abbrev aVF:=@PyProof.Rows.listUpdate_at
abbrev aq2:=@PySem.W.kia_tup
abbrev a09:=@Bool.or_eq_true
abbrev a6N:=@PySem.wpAny_updateSeq
abbrev auT:=@PySem.wpAny_setField_rec
abbrev amw:=@List.countP_map
abbrev a6s:=@PyProof.Rows.wpS_reverse
abbrev aZv:=@PyProof.Rows.mirror_perm
abbrev a6X:=@Bool.not_eq_true'
abbrev a7N:=@List.drop_eq_nil_of_le
abbrev abC:=@PySem.wpAny_tryCatch
abbrev aIZ:=@List.length_nil
abbrev an4:=@PySem.Calls.evalArgs_plain
abbrev aOl:=@PySem.wpAny_pyIter_zip
abbrev bbQ:=@PySem.Around.under_plainId
abbrev aM8:=@PySem.wpAny_call_entry
abbrev aWH:=@Array.toList_extract
abbrev a6Q:=@List.mem_iff_getElem
abbrev a89:=@Array.getElem_toList
abbrev aRS:=@List.mem_append
abbrev aJW:=@List.countP_cons
abbrev aZN:=@decide_eq_decide
abbrev a4J:=@List.mem_flatMap
abbrev ac1:=@List.filter_filter
abbrev a8W:=@Sum.inl.inj
abbrev aql:=@List.all_eq_true
abbrev aPs:=@List.map_map
abbrev aIW:=@PySem.Heap.get?_update_ne
abbrev agS:=@List.countP_eq_zero
abbrev aNA:=@List.getElem?_eq_none_iff
abbrev acn:=@List.zip_cons_cons
abbrev aYo:=@PySem.tupleKind_room_in1
abbrev a3t:=@PySem.F.slot_list_remove
abbrev aEM:=@PySem.F.type_list_remove
abbrev a46:=@PyProof.Rows.boot_sorted
abbrev aCy:=@List.filter_nil
abbrev anr:=@List.eraseIdx_cons_succ
abbrev aSk:=@List.getElem?_cons_succ
abbrev ajQ:=@PySem.Calls.spliced_nil
abbrev aRg:=@PyProof.noPylong_small
abbrev auC:=@List.filter_eq_nil_iff
abbrev aMG:=@PySem.wpAny_standAt
abbrev aWI:=@List.getElem?_drop
abbrev aCO:=@Bool.not_true
abbrev ax6:=@List.mem_singleton
abbrev apZ:=@List.any_eq_true
abbrev aet:=@List.erase_of_not_mem
abbrev aLk:=@PySem.F.slot_dict_get
abbrev aTZ:=@Array.getElem_extract
abbrev a4k:=@List.filterMap_append
abbrev a5U:=@List.forIn_cons
abbrev bd1:=@List.getElem?_of_mem
abbrev axR:=@Array.Perm.refl
abbrev aBE:=@Nat.add_le_add_right
abbrev a3I:=@Nat.min_eq_left
abbrev baC:=@Array.toList_reverse
abbrev aDT:=@List.reverse_reverse
abbrev a99:=@Nat.add_zero
abbrev aeG:=@List.replicate_succ'
abbrev bbW:=@List.mem_erase_of_ne
namespace L2
open PySem PySem.Spec PyProof.Rows
abbrev Key:=Sum Int Str
def iF:Key->Value->Bool
 | .inl k,v=>Value.isInt k v
 | .inr x,v=>Value.isStrOf x v
def CQ (w:World):Key->Int
 | .inl k=>hashInt k
 | .inr x=>hashStr w x
theorem ZI:∀ {k:Key} {v:Value},iF k v=true->(∃ i t,k=Sum.inl i/\v=Value.int i t)\/(∃ x t,k=Sum.inr x/\v=Value.str x t)
 | .inl i,v,h=>by
  obtain ⟨t,e⟩:=Value.isInt_shape (k:=i) (v:=v) h
  exact .inl ⟨i,t,rfl,e⟩
 | .inr x,v,h=>by
  obtain ⟨t,e⟩:=Value.isStrOf_shape (x:=x) (v:=v) h
  exact .inr ⟨x,t,rfl,e⟩
theorem Vr (i:Int) (t:Tok):iF (.inl i) (.int i t)=true:=by simp [iF,Value.isInt]
theorem Vq (x:Str) (t:Tok):iF (.inr x) (.str x t)=true:=by simp [iF,Value.isStrOf]
theorem QG (a b:Int):decide ((Sum.inl a:Key)=Sum.inl b)=(a == b):=by
 by_cases e:a=b
 .subst e; simp
 .have h:¬ (Sum.inl a:Key)=Sum.inl b:=λq=>e (a8W q)
  rw [aWh h]
  exact (aiK.mpr e).symm
theorem QF (a b:Str):decide ((Sum.inr a:Key)=Sum.inr b)=decide (a=b):=by
 by_cases e:a=b
 .subst e; simp
 .have h:¬ (Sum.inr a:Key)=Sum.inr b:=λq=>e (Sum.inr.inj q)
  rw [aWh h,aWh e]
theorem QE (a:Int) (b:Str):decide ((Sum.inl a:Key)=Sum.inr b)=false:=aWh (λq=>nomatch q)
theorem QD (a:Str) (b:Int):decide ((Sum.inr a:Key)=Sum.inl b)=false:=aWh (λq=>nomatch q)
def ZF (prog:Program) (w:World):PySem.KeyKind prog w Key where
 is:=iF
 hash:=CQ w
 inj:=λv a b ha hb=>by
  rcases ZI ha with ⟨i,t,rfl,rfl⟩ | ⟨x,t,rfl,rfl⟩
  .rcases ZI hb with ⟨j,u,rfl,e⟩ | ⟨y,u,rfl,e⟩
   .injection e with e1 _; rw [e1]
   .exact nomatch e
  .rcases ZI hb with ⟨j,u,rfl,e⟩ | ⟨y,u,rfl,e⟩
   .exact nomatch e
   .injection e with e1 _; rw [e1]
 byValue:=λk v h=>by
  rcases ZI h with ⟨i,t,rfl,rfl⟩ | ⟨x,t,rfl,rfl⟩ <;> rfl
 pyHash:=λhv h=>by
  rcases ZI hv with ⟨i,t,rfl,rfl⟩ | ⟨x,t,rfl,rfl⟩
  .exact wpAny_pyHash_int h
  .exact wpAny_pyHash_str h
 eqBool:=λhu hv h=>by
  rcases ZI hu with ⟨i,t,rfl,rfl⟩ | ⟨x,t,rfl,rfl⟩
  .rcases ZI hv with ⟨j,u,rfl,rfl⟩ | ⟨y,u,rfl,rfl⟩
   .rw [QG] at h; exact wpAny_eqBool_int h
   .rw [QE] at h; exact SeqAt.EqAt.int_str i t y u _ _ _ _ h
  .rcases ZI hv with ⟨j,u,rfl,rfl⟩ | ⟨y,u,rfl,rfl⟩
   .rw [QD] at h; exact SeqAt.EqAt.str_int x t j u _ _ _ _ h
   .rw [QF] at h; exact wpAny_eqBool_str h
 «strs»:=λk x t v h=>by
  rcases ZI h with ⟨i,u,rfl,e⟩ | ⟨y,u,rfl,e⟩
  .exact nomatch e
  .injection e with e1 _
   subst e1
   cases v <;> rfl
theorem V4 (prog:Program) (w:World) (i:Int) (t:Tok):(ZF prog w).is (.inl i) (.int i t)=true:=Vr i t
theorem V3 (prog:Program) (w:World) (x:Str) (t:Tok):(ZF prog w).is (.inr x) (.str x t)=true:=Vq x t
inductive V where
 | aV | bl (b:Bool) | int (i:Int) | str (x:Str) | jX (b:Array UInt8) | oU (b:UInt64) | ref (a:Addr) | ty (n:String)
 deriving DecidableEq
def RelV:V->Value->Prop
 | .aV,u=>u=Value.none
 | .bl b,u=>u=Value.bool b
 | .int i,u=>∃ t,u=Value.int i t
 | .str x,u=>∃ t,u=Value.str x t
 | .jX b,u=>∃ t,u=Value.bytes b t
 | .oU b,u=>∃ t,u=Value.float b t
 | .ref a,u=>u=Value.ref a
 | .ty n,u=>u=Value.type n
abbrev Vals:List V->List Value->Prop:=Paired RelV
theorem Vals.length {xs:List V} {us:List Value} (r:Vals xs us):xs.length=us.length:=Paired.length r
theorem Vals.get:∀ {xs:List V} {us:List Value} {i:Nat} {x:V},Vals xs us->xs[i]?=some x->∃ u,us[i]?=some u/\RelV x u
 | _,_,_,_,.nil,e=>by simp at e
 | _,_,0,_,.cons r _,e=>by simp at e; subst e; exact ⟨_,rfl,r⟩
 | _,_,i+1,x,.cons _ t,e=>by
  obtain ⟨u,h1,h2⟩:=Vals.get (i:=i) (x:=x) t (by simpa using e)
  exact ⟨u,by simpa using h1,h2⟩
theorem Vals.set {x:V} {u:Value} (r:RelV x u):∀ {xs:List V} {us:List Value} (i:Nat),Vals xs us->Vals (xs.set i x) (us.set i u)
 | _,_,_,.nil=>.nil
 | _,_,0,.cons _ t=>.cons r t
 | _,_,i+1,.cons q t=>.cons q (Vals.set r i t)
theorem Vals.append:∀ {xs ys:List V} {us ws:List Value},Vals xs us->Vals ys ws->Vals (xs++ys) (us++ws)
 | _,_,_,_,.nil,s=>s
 | _,_,_,_,.cons r t,s=>.cons r (Vals.append t s)
theorem Vals.take:∀ {xs:List V} {us:List Value} (n:Nat),Vals xs us->Vals (xs.take n) (us.take n)
 | _,_,0,_=>.nil
 | _,_,_+1,.nil=>.nil
 | _,_,n+1,.cons r t=>.cons r (Vals.take n t)
theorem Vals.drop:∀ {xs:List V} {us:List Value} (n:Nat),Vals xs us->Vals (xs.drop n) (us.drop n)
 | _,_,0,r=>r
 | _,_,_+1,.nil=>.nil
 | _,_,n+1,.cons _ t=>Vals.drop n t
theorem Vals.none_of:∀ {xs:List V} {us:List Value} {i:Nat},Vals xs us->xs[i]?=none->us[i]?=none:=λ{xs us i} r e=>by
 have h1:=r.length
 have h2:xs.length<=i:=aNA.mp e
 exact aNA.mpr (by lia)
def cL:Option V->Option Value->Prop
 | some v,some u=>RelV v u
 | none,none=>True
 | _,_=>False
def KV {κ:Type}:List (κ×V)->List (κ×Value)->Prop:=Paired λ(p:κ×V) (q:κ×Value)=>p.1=q.1/\RelV p.2 q.2
def kV:Key->V
 | .inl i=>.int i
 | .inr x=>.str x
inductive HO where
  | lst (xs:List V)
  | tup (xs:List V)
  | dK (kvs:List (Key×V)) | dT (kvs:List (List Key×V))
  | set (S:Int->Bool) (n:Nat)
  | ins (C dx:Addr) (fs:List (Str×V))
  | own (x:Addr)
  | xd (fs:List (Str×V))
  | met (f x:Addr)
  | BV (lo hi:Int)
  | bD (o:Obj) (u:HO)
  | iK (pos:Pos) (qual:Str)
  | ext (φ:Heap->Prop)
abbrev Hp:=Addr->Option HO
def upd (H:Hp) (a:Addr) (o:HO):Hp:=λb=>if b=a then some o else H b
theorem Za {H:Hp} {a:Addr} {o:HO}:upd H a o a=some o:=by unfold upd; rw [atn rfl]
theorem Zc {H:Hp} {a b:Addr} {o:HO} (h:b≠a):upd H a o b=H b:=by unfold upd; rw [amU h]
theorem xX {H:Hp} {a:Addr} {o u:HO}:upd (upd H a o) a u=upd H a u:=by
 funext b; unfold upd; split <;> rfl
theorem p9 {H:Hp} {a b:Addr} {o u:HO} (h:H a=some o) (h':H b=some u) (d:o≠u):a≠b:=by
 intro e; subst e; rw [h] at h'; exact d (ado h')
theorem Zb {H:Hp} {a b:Addr} {o:HO} (h:H a=some o) (h':H b=none):a≠b:=by
 intro e; subst e; rw [h] at h'; cases h'
section
variable (P:Program) (w:World)
def aJ (H:Hp) (h:Heap) (a:Addr):HO->Prop
 | .lst xs=>xs.length<=sizeLine/\∃ (its:List Value) (n:Nat),Vals xs its/\h.get? a=some { cls:=.type "list",data:=.seq its.toArray n }
 | .tup xs=>xs.length<=sizeLine/\∃ its:List Value,Vals xs its/\IsTup h a its.toArray
 | .dK kvs=>kvs.length<=sizeLine/\(a == sysModules)=false/\∃ vs,KV kvs vs/\h.DictOf (ZF P w) a vs
 | .dT kvs=>kvs.length<=sizeLine/\(a == sysModules)=false/\∃ xs:List (List Key×Addr×Value),
   Paired (λ(p:List Key×V) (q:List Key×Addr×Value)=>p.1=q.1/\H q.2.1=some (.tup (p.1.map kV))/\RelV p.2 q.2.2) kvs xs /\
   ∃ o es ep,h.get? a=some o/\o.ExactDict/\o.data=.dict es ep/\es.toList=xs.map (entryOfKey (tupleKind (ZF P w)))/\(xs.map (·.1)).Nodup
 | .set S n=>h.SetOf (intKind P w) a S n
 | .ins C dx fs=>H dx=some (.own a)/\fs.length<=1000/\dx≠a/\h.get? a=some (W.instObj C dx) /\
   ∃ mA,h.Ns1 dx mA/\(∀ f,cL (fs.lookup f) (mA f))/\PySem.Within mA (fs.map (·.1))
 | .own _=>∃ o,h.get? a=some o
 | .xd fs=>∃ mA,h.Ns1 a mA/\∀ f,cL (fs.lookup f) (mA f)
 | .BV lo hi=>∃ t u v,h.get? a=some { cls:=.type "range",data:=.fields #[.int lo t,.int hi u,.int 1 v] }
 | .bD o u=>h.get? a=some o/\aJ H h a u
 | .iK pos qual=>∃ ps,h.get? a=some { cls:=.none,data:=.fields ps }/\TriplesOk ps.toList/\∀ cv,codeAmong pos ps.toList=some cv->∃ c oc vs t,cv=.ref c/\H c=some (.bD oc (.own a))/\oc.data=.fields vs/\vs[1]?=some (.str qual t)
 | .met f x=>h.get? a=some (W.methodObj (.ref f) (.ref x))
 | .ext φ=>φ h/\(∃ o,h.get? a=some o)/\∀ h1 h2:Heap,φ h1->(∀ o,h1.get? a=some o->h2.get? a=some o)->φ h2
def dj (H:Hp) (h:Heap):Prop:=∀ a o,H a=some o->aJ P w H h a o
end
section
variable {P:Program} {w:World} {H H':Hp} {h h':Heap} {a:Addr} {o:HO}
theorem aJ.lt (x:aJ P w H h a o):a<h.objs.size:=by
 cases o with
 | lst xs=>obtain ⟨_,_,_,_,e⟩:=x; exact alE e
 | tup xs=>obtain ⟨_,_,_,p⟩:=x; exact p.lt
 | dK kvs=>obtain ⟨_,_,_,_,o,_,_,e,_⟩:=x; exact alE e
 | dT kvs=>obtain ⟨_,_,_,_,o,_,_,e,_⟩:=x; exact alE e
 | set S n=>obtain ⟨o,_,_,_,e,_⟩:=x; exact alE e
 | ins C dx fs=>obtain ⟨_,_,_,e,_⟩:=x; exact alE e
 | own y=>obtain ⟨_,e⟩:=x; exact alE e
 | xd fs=>obtain ⟨_,⟨_,_,_,e,_⟩,_⟩:=x; exact alE e
 | BV lo hi=>obtain ⟨_,_,_,e⟩:=x; exact alE e
 | bD ob u=>obtain ⟨e,_⟩:=x; exact alE e
 | iK p q=>obtain ⟨_,e,_⟩:=x; exact alE e
 | met f y=>exact alE (show h.get? a=some _ from x)
 | ext φ=>obtain ⟨_,⟨_,e⟩,_⟩:=x; exact alE e
theorem Paired.qV {α β:Type} {F G:α->β->Prop}:∀ {l₁:List α} {l₂:List β},Paired F l₁ l₂->(∀ a b,F a b->G a b)->Paired G l₁ l₂
 | _,_,.nil,_=>.nil
 | _,_,.cons r t,f=>.cons (f _ _ r) (Paired.qV t f)
theorem aJ.stay (x:aJ P w H h a o) (k:∀ b u,(b=a\/H b=some (.own a))->h.get? b=some u->h'.get? b=some u)
  (ho:∀ b,H b=some (.own a)->H' b=some (.own a)) (ht:∀ b xs,H b=some (.tup xs)->H' b=some (.tup xs))
  (hz:∀ b oz,H b=some (.bD oz (.own a))->H' b=some (.bD oz (.own a)):=by exact λ_ _ q=>q):aJ P w H' h' a o:=by
 induction o with
 | lst xs=>obtain ⟨z,its,n,r,e⟩:=x; exact ⟨z,its,n,r,k _ _ (.inl rfl) e⟩
 | tup xs=>obtain ⟨z,its,r,ob,e,c⟩:=x; exact ⟨z,its,r,ob,k _ _ (.inl rfl) e,c⟩
 | dK kvs=>obtain ⟨z,y,vs,r,ob,es,ep,e,c⟩:=x; exact ⟨z,y,vs,r,ob,es,ep,k _ _ (.inl rfl) e,c⟩
 | dT kvs =>
  obtain ⟨z,y,xs,r,ob,es,ep,e,c⟩:=x
  exact ⟨z,y,xs,Paired.qV r λp q z=>⟨z.1,ht _ _ z.2.1,z.2.2⟩,ob,es,ep,k _ _ (.inl rfl) e,c⟩
 | set S n=>obtain ⟨ob,es,ep,t,e,c⟩:=x; exact ⟨ob,es,ep,t,k _ _ (.inl rfl) e,c⟩
 | ins C dx fs =>
  obtain ⟨d,z,ne,e,mA,⟨od,es,ep,e2,c⟩,r⟩:=x
  exact ⟨ho _ d,z,ne,k _ _ (.inl rfl) e,mA,⟨od,es,ep,k _ _ (.inr d) e2,c⟩,r⟩
 | own y=>obtain ⟨ob,e⟩:=x; exact ⟨ob,k _ _ (.inl rfl) e⟩
 | xd fs=>obtain ⟨mA,⟨od,es,ep,e,c⟩,r⟩:=x; exact ⟨mA,⟨od,es,ep,k _ _ (.inl rfl) e,c⟩,r⟩
 | BV lo hi=>obtain ⟨t,u,v,e⟩:=x; exact ⟨t,u,v,k _ _ (.inl rfl) e⟩
 | bD ob u ih=>obtain ⟨e,q⟩:=x; exact ⟨k _ _ (.inl rfl) e,ih q⟩
 | iK p q =>
  obtain ⟨ps,e,tr,hc⟩:=x
  refine ⟨ps,k a _ (.inl rfl) e,tr,λcv e1=>?_⟩
  obtain ⟨c,oc,vs,tt,z,e2,r⟩:=hc cv e1
  exact ⟨c,oc,vs,tt,z,hz _ _ e2,r⟩
 | met f y =>
  have e:h.get? a=some (W.methodObj (.ref f) (.ref y)):=x
  show h'.get? a=some (W.methodObj (.ref f) (.ref y))
  exact k a _ (.inl rfl) e
 | ext φ=>obtain ⟨p,⟨o,e⟩,st⟩:=x; exact ⟨st _ _ p λo q=>k _ _ (.inl rfl) q,⟨o,k _ _ (.inl rfl) e⟩,st⟩
theorem dj.lt (x:dj P w H h) (e:H a=some o):a<h.objs.size:=(x a o e).lt
theorem dj.fresh (x:dj P w H h) (e:h.objs.size<=a):H a=none:=by
 cases q:H a with
 | none=>rfl
 | some u=>exact absurd (ajX (x.lt q) e) (af9 _)
theorem dj.kept (x:dj P w H h) (k:∀ b u,h.get? b=some u->h'.get? b=some u):dj P w H h':=λa o e =>
 (x a o e).stay (λb u _ q=>k b u q) (λ_ q=>q) λ_ _ q=>q
theorem dj.laid (x:dj P w H h) (k:∀ b u,h.get? b=some u->h'.get? b=some u) (hp:h.objs.size<=a) (new:aJ P w (upd H a o) h' a o):dj P w (upd H a o) h':=λb u e=>by
 have hn:=x.fresh hp
 by_cases hb:b=a
 .subst hb; rw [Za] at e; cases e; exact new
 .rw [Zc hb] at e
  exact (x b u e).stay (λc v _ q=>k c v q) (λc q=>by rw [Zc (Zb q hn)]; exact q) (λc xs q=>by rw [Zc (Zb q hn)]; exact q) λc oz q=>by rw [Zc (Zb q hn)]; exact q
end
def Rd (H:Hp) (a:Addr) (u:HO):Prop:=H a=some u\/∃ o,H a=some (.bD o u)
theorem Rd.ok {P:Program} {w:World} {H:Hp} {h:Heap} {a:Addr} {u:HO} (r:Rd H a u) (x:dj P w H h):aJ P w H h a u:=by
 rcases r with r | ⟨o,r⟩
 .exact x a u r
 .obtain ⟨_,q⟩:=x a _ r
  exact q
def yu:Option HO->Prop
 | some (.lst _)=>True
 | some (.dK _)=>True
 | some (.dT _)=>True
 | some (.set _ _)=>True
 | some (.ins _ _ _)=>True
 | some (.ext _)=>True
 | _=>False
section
variable {P:Program} {w:World} {H:Hp} {h h':Heap} {x e:Addr} {o':HO}
theorem dj.write (ok:dj P w H h) (mu:yu (H x)) (he:e=x\/H e=some (.own x)) (k:∀ b u,b≠e->h.get? b=some u->h'.get? b=some u) (tL:∃ u,h'.get? e=some u)
  (new:aJ P w (upd H x o') h' x o'):dj P w (upd H x o') h':=λb u q=>by
 have vW:∀ c y,H c=some (.own y)->c≠x:=λc y r z=>by subst z; rw [r] at mu; exact mu
 have Cy:∀ c xs,H c=some (.tup xs)->c≠x:=λc xs r z=>by subst z; rw [r] at mu; exact mu
 by_cases hb:b=x
 .subst hb; rw [Za] at q; cases q; exact new
 .rw [Zc hb] at q
  by_cases rJ:b=e
  .have q':H b=some (.own x):=by
    rcases he with z | z
    .exact absurd (rJ.trans z) hb
    .rw [rJ]; exact z
   rw [q] at q'; cases q'
   obtain ⟨v,hv⟩:=tL
   exact ⟨v,by rw [rJ]; exact hv⟩
  .refine (ok b u q).stay (λc v hc r=>k c v ?_ r) (λc r=>by rw [Zc (vW c b r)]; exact r) (λc xs r=>by rw [Zc (Cy c xs r)]; exact r) λc oz r=>by rw [Zc (λz=>by subst z; rw [r] at mu; exact mu)]; exact r
   rcases hc with rfl | hc
   .exact rJ
   .rintro rfl
    rcases he with z | z
    .exact vW c b hc z
    .rw [hc] at z; cases z; exact hb rfl
end
structure Un (fs ex:List Addr) (H H':Hp) (h h':Heap):Prop where
 keep:∀ b o,h.get? b=some o->H b=none->b∉fs->b∉ex->h'.get? b=some o
 slot:∀ b o,h.get? b=some o->H b=none->b∈fs->b∉ex->∃ sl,h'.get? b=some { o with slots:=sl }
 free:∀ b o,h.get? b=some o->H b=none->b∉ex->H' b=none
 there:∀ b o,h.get? b=some o->b∉ex->∃ o',h'.get? b=some o'
 tups:∀ b xs,H b=some (.tup xs)->H' b=some (.tup xs)
 gx:∀ b o u,H b=some (.bD o u)->H' b=some (.bD o u)
 gF:∀ b p q,H b=some (.iK p q)->H' b=some (.iK p q)
section
variable {fs fs' ex ex':List Addr} {H H1 H2:Hp} {h h1 h2 h':Heap} {a x e:Addr} {o:HO}
theorem Un.any (u:Un fs ex H H1 h h1) {b:Addr} {ob:Obj} (q:h.get? b=some ob) (n:H b=none) (hx:b∉ex):∃ sl,h1.get? b=some { ob with slots:=sl }:=by
 by_cases hb:b∈fs
 .exact u.slot b ob q n hb hx
 .exact ⟨ob.slots,u.keep b ob q n hb hx⟩
theorem Un.kept (k:∀ b u,h.get? b=some u->h'.get? b=some u):Un fs ex H H h h' :=
 ⟨λb ob q _ _ _=>k b ob q,λb ob q _ _ _=>⟨ob.slots,k b ob q⟩,λ_ _ _ n _=>n,λb ob q _=>⟨ob,k b ob q⟩,λ_ _ q=>q,λ_ _ _ q=>q,λ_ _ _ q=>q⟩
theorem Un.refl:Un fs ex H H h h:=Un.kept λ_ _ q=>q
theorem Un.laid (k:∀ b u,h.get? b=some u->h'.get? b=some u) (hp:h.objs.size<=a) (hn:H a=none):Un fs ex H (upd H a o) h h' where
 keep:=λb u q _ _ _=>k b u q
 slot:=λb u q _ _ _=>⟨u.slots,k b u q⟩
 free:=λb u q n _=>by rw [Zc (aOw (ajX (alE q) hp))]; exact n
 there:=λb u q _=>⟨u,k b u q⟩
 tups:=λb xs q=>by rw [Zc (Zb q hn)]; exact q
 gx:=λb u xs q=>by rw [Zc (Zb q hn)]; exact q
 gF:=λb _ _ q=>by rw [Zc (Zb q hn)]; exact q
theorem Un.write (mu:yu (H x)) (he:e=x\/H e=some (.own x)) (k:∀ b u,b≠e->h.get? b=some u->h'.get? b=some u) (tL:∃ u,h'.get? e=some u):Un fs ex H (upd H x o) h h':=by
 have hx:∀ b,H b=none->b≠x:=λb n z=>by subst z; rw [n] at mu; exact mu
 have hb:∀ b,H b=none->b≠e:=λb n z=>by
  subst z
  rcases he with r | r
  .exact hx b n r
  .rw [n] at r; cases r
 have hm:∀ b u,H b=some u->¬ yu (some u)->b≠x:=λb u q nm z=>by subst z; rw [q] at mu; exact nm mu
 refine ⟨λb u q n _ _=>k b u (hb b n) q,λb u q n _ _=>⟨u.slots,k b u (hb b n) q⟩,λb u q n _=>by rw [Zc (hx b n)]; exact n,λb u q _=>?_,
  λb xs q=>by rw [Zc (hm b _ q λz=>z)]; exact q,λb u xs q=>by rw [Zc (hm b _ q λz=>z)]; exact q,λb _ _ q=>by rw [Zc (hm b _ q λz=>z)]; exact q⟩
 by_cases rJ:b=e
 .subst rJ; exact tL
 .exact ⟨u,k b u rJ q⟩
end
def yP (h:Heap) (H:Hp):List Addr:=(List.range h.objs.size).filter λa=>(H a).isSome
def iR (h:Heap) (H:Hp):Heap:=W.hideAll h (yP h H)
theorem Vp (h:Heap) (H:Hp):(iR h H).objs.size=h.objs.size:=W.hideAll_size _ _
theorem EZ {h:Heap} {H:Hp} {b:Addr} {o:Obj} (e:h.get? b=some o) (n:H b=none):(iR h H).get? b=some o :=
 W.hideAll_get _ e λhm=>by
  have q:(H b).isSome=true:=(afi.mp hm).2
  rw [n] at q; simp at q
theorem RH {h:Heap} {H:Hp} {b:Addr} {o:Obj} (e:(iR h H).get? b=some o):h.get? b=some o/\H b=none:=by
 have e':h.get? b=some o:=W.of_hideAll (yP h H) e
 refine ⟨e',?_⟩
 cases q:H b with
 | none=>rfl
 | some x =>
  have hm:b∈yP h H:=afi.mpr ⟨aEj.mpr (alE e'),by simp [q]⟩
  have z:(iR h H).get? b=none:=W.hideAll_none (yP h H) hm
  rw [z] at e; cases e
structure Mod (K:W.Frag) (mg:Str->Option Value) (base:Heap):Prop where
 wA:K.In base
 glob:base.Ns mainGlobals mg
 blt:∃ mb,base.Ns builtinsNs mb/\∀ x:Str,x ≠ "__name__" -> mb x=bootBuiltins x
 nolimit:base.NoLimit
structure Cx where
 prog:Program
 w:World
 K:W.Frag
 mg:Str->Option Value
 base:Heap
 A:Around
 N:List Str
 s₀:Shared
 H₀:Hp
 env:Env
 outer:List Env
 stack:List Env
 ex:List Addr
 fn:Str->Bool
 calm:Bool
 pn:List (Addr×Obj)
 xe:Value->Shared->Prop
def frs (l:List Env):List Addr:=l.filterMap (·.frame)
abbrev Cx.fs (X:Cx):List Addr:=frs X.outer
def uE (sc:Scope) (x:Str):Prop:=sc.names.lookup x=some .local\/sc.names.lookup x=some .cell\/sc.names.lookup x=some .free
def Loc (sc:Scope) (x:Str):Prop:=sc.names.lookup x=some .local\/sc.names.lookup x=some .cell
def Look (env:Env) (h:Heap) (m:Str->Option Value) (x:Str) (u:Value):Prop :=
 (env.kindOf x=some .local/\m x=some u)\/((env.kindOf x=some .cell\/env.kindOf x=some .free)/\∃ c,env.cells.lookup x=some c/\h.IsCell c (some u))
structure Cx.Ok (X:Cx):Prop where
 mod:Mod X.K X.mg X.base
 kind:X.env.scope.kind=.function
 glob:X.env.globals=mainGlobals
 blt:X.env.builtins=builtinsNs
 above:X.s₀.heap.objs.size<=X.env.locals
 inj:∀ x y c,X.env.cells.lookup x=some c->X.env.cells.lookup y=some c->x=y
 has:∀ x,(X.env.kindOf x=some .cell\/X.env.kindOf x=some .free)->∃ c,X.env.cells.lookup x=some c
 xC:∀ x c,X.fn x=true->X.env.cells.lookup x=some c->X.s₀.heap.objs.size<=c
 hd:X.calm=true->X.A.handled=none
 frames:X.A.frames=some X.stack
 stk:X.stack=X.outer\/(X.stack=X.env :: X.outer/\X.env.frame=some X.env.locals)
 zH:∀ b∈X.ex,b≠X.env.locals/\∀ x c,X.env.cells.lookup x=some c->c≠b
 bs:∀ b o,X.base.get? b=some o->X.s₀.heap.get? b=some o/\X.H₀ b=none
 n8:X.base.objs.size<=X.s₀.heap.objs.size
 mL:∀ b o,X.base.get? b=some o->b∉X.ex
 nv:∀ b∈X.ex,b∉X.fs
 gw:X.s₀.heap.FunFrames X.base X.outer
 rP:∀ b∈X.fs,X.H₀ b=none
structure Inv (X:Cx) (pins:List (Addr×Obj)) (σ:List (Option V)) (H:Hp) (s:Shared):Prop where
 ok:X.Ok
 os:s.os=X.s₀.os
 bare:AllBare s.gens
 base:Un X.fs X.ex X.H₀ H X.s₀.heap s.heap
 loc:∃ m,s.heap.Ns X.env.locals m/\∀ (i:Nat) (x:Str) (v:V),X.N[i]?=some x->σ[i]?=some (some v)->uE X.env.scope x->∃ u,RelV v u/\Look X.env s.heap m x u
 cell:∀ x c,X.env.cells.lookup x=some c->∃ v,s.heap.IsCell c v
 free:H X.env.locals=none
 cJ:∀ x c,X.env.cells.lookup x=some c->H c=none
 pin:∀ p∈X.pn++pins,s.heap.get? p.1=some p.2/\H p.1=none/\p.1≠X.env.locals/\p.1∉X.fs/\∀ v,p.2.data≠.cell v
 hok:dj X.prog X.w H s.heap
 len:σ.length=X.N.length
section
variable {X:Cx} {pins:List (Addr×Obj)} {σ:List (Option V)} {H H':Hp} {s:Shared} {h':Heap}
theorem Cx.Ok.CA (ok:X.Ok) {b:Addr} {o:Obj} (e:X.base.get? b=some o):b∉X.fs:=λhb=>by
 have:=(ok.gw.mem hb).1
 rw [e] at this; cases this
theorem Inv.bs (I:Inv X pins σ H s):∀ b o,X.base.get? b=some o->s.heap.get? b=some o/\H b=none:=λb o e =>
 ⟨I.base.keep b o (I.ok.bs b o e).1 (I.ok.bs b o e).2 (I.ok.CA e) (I.ok.mL b o e),I.base.free b o (I.ok.bs b o e).1 (I.ok.bs b o e).2 (I.ok.mL b o e)⟩
theorem Inv.bk (I:Inv X pins σ H s):∀ b o,X.base.get? b=some o->s.heap.get? b=some o:=λb o e=>(I.bs b o e).1
theorem Inv.mod (I:Inv X pins σ H s):Mod X.K X.mg X.base:=I.ok.mod
theorem Inv.dI (I:Inv X pins σ H s):X.K.In s.heap:=I.ok.mod.wA.keeps I.bk
theorem Inv.nolimit (I:Inv X pins σ H s):s.heap.NoLimit:=I.ok.mod.nolimit.keeps I.bk
theorem Inv.lt (I:Inv X pins σ H s):X.env.locals<s.heap.objs.size:=let ⟨_,hn,_⟩:=I.loc; hn.lt
theorem Inv.sz (I:Inv X pins σ H s):X.s₀.heap.objs.size<=s.heap.objs.size:=ay9 I.ok.above (aRN I.lt)
theorem Inv.vX (I:Inv X pins σ H s) {a:Addr} (h:s.heap.objs.size<=a):a∉X.fs:=λhb=>by
 obtain ⟨_,o,ho,_⟩:=I.ok.gw.mem hb
 exact absurd (ajX (alE ho) (ay9 I.sz h)) (af9 _)
theorem Inv.n6 (I:Inv X pins σ H s):∀ x c,X.env.cells.lookup x=some c->c≠X.env.locals:=λx c e z=>by
 obtain ⟨v,o,ho,hd⟩:=I.cell x c e
 obtain ⟨m,⟨o',es,ep,ho',hd',_⟩,_⟩:=I.loc
 rw [z,ho'] at ho; cases ho; rw [hd'] at hd; cases hd
theorem Inv.gw (I:Inv X pins σ H s):s.heap.FunFrames X.base X.outer:=by
 have all:∀ (l:List Env),(∀ b∈frs l,b∈X.fs)->X.s₀.heap.FunFrames X.base l->s.heap.FunFrames X.base l:=by
  intro l
  induction l with
  | nil=>intro _ _; trivial
  | cons env r ih =>
   intro hs hl
   obtain ⟨hk,⟨L,o,hf,hn,ho,hd⟩,hr⟩:=hl
   have hL:L∈X.fs:=hs L (by unfold frs; rw [abt,hf]; exact a5w)
   obtain ⟨sl,e⟩:=I.base.slot L o ho (I.ok.rP L hL) hL λz=>I.ok.nv L z hL
   exact ⟨hk,⟨L,_,hf,hn,e,hd⟩,ih (λb hb=>hs b (by unfold frs; rw [abt,hf]; exact amQ _ hb)) hr⟩
 exact all X.outer (λ_ hb=>hb) I.ok.gw
theorem Inv.stack (I:Inv X pins σ H s):s.heap.FunFrames X.base X.stack:=by
 rcases I.ok.stk with e | ⟨e,hf⟩
 .rw [e]; exact I.gw
 .rw [e]
  obtain ⟨m,hn,_⟩:=I.loc
  refine .cons (by rw [I.ok.kind]; decide) hf hn ?_ I.gw
  exact Heap.get?_none_of_le (ay9 I.ok.n8 I.ok.above)
theorem Inv.iL (I:Inv X pins σ H s):∀ b∈frs X.stack,b∈X.env.locals :: X.fs:=λb hb=>by
 rcases I.ok.stk with e | ⟨e,hf⟩
 .rw [e] at hb; exact amQ _ hb
 .rw [e] at hb
  unfold frs at hb
  rw [abt,hf] at hb
  exact hb
theorem Inv.iM (I:Inv X pins σ H s):∀ b∈frs X.stack,H b=none:=λb hb=>by
 rcases ac0.mp (I.iL b hb) with e | hb
 .rw [e]; exact I.free
 .obtain ⟨_,o,ho,_⟩:=I.ok.gw.mem hb
  exact I.base.free b o ho (I.ok.rP b hb) λz=>I.ok.nv b z hb
theorem Inv.step {g':Array GenState} {t':Nat} {d':Drawn} {ch:List Addr} (I:Inv X pins σ H s)
  (hch:∀ b∈ch,(b∈X.ex\/X.s₀.heap.objs.size<=b)/\b≠X.env.locals/\(∀ x c,X.env.cells.lookup x=some c->c≠b)/\∀ p∈X.pn++pins,p.1≠b)
  (keep:∀ b o,b≠X.env.locals->b∉X.fs->b∉ch->s.heap.get? b=some o->H b=none->h'.get? b=some o)
  (slot:∀ b o,b≠X.env.locals->b∈X.fs->b∉ch->s.heap.get? b=some o->H b=none->∃ sl,h'.get? b=some { o with slots:=sl }) (free:∀ b o,b∉ch->s.heap.get? b=some o->H b=none->H' b=none)
  (there:∀ b o,b∉ch->s.heap.get? b=some o->∃ o',h'.get? b=some o')
  (tups:∀ b xs,H b=some (.tup xs)->H' b=some (.tup xs)) (gx:∀ b o u,H b=some (.bD o u)->H' b=some (.bD o u)) (gF:∀ b p q,H b=some (.iK p q)->H' b=some (.iK p q))
  (ns:∀ m,s.heap.Ns X.env.locals m->h'.Ns X.env.locals m) (hok:dj X.prog X.w H' h') (hg:AllBare g') :
  Inv X pins σ H' { s with heap:=h',gens:=g',drawn:=d',toks:=t' }:=by
 have Hl:∀ b o,X.s₀.heap.get? b=some o->b≠X.env.locals:=λb o e=>aOw (ajX (alE e) I.ok.above)
 have zo:∀ b o,X.s₀.heap.get? b=some o->b∉X.ex->b∉ch:=λb o e hx hb=>by
  rcases (hch b hb).1 with z | z
  .exact hx z
  .exact absurd (ajX (alE e) z) (af9 _)
 have cellK:∀ x c,X.env.cells.lookup x=some c->∀ v,s.heap.IsCell c v->h'.IsCell c v:=λx c e v ⟨o,ho,hd⟩=>by
  have wc:c∉ch:=λz=>(hch c z).2.2.1 x c e rfl
  by_cases hc:c∈X.fs
  .obtain ⟨sl,q⟩:=slot c o (I.n6 x c e) hc wc ho (I.cJ x c e)
   exact ⟨_,q,hd⟩
  .exact ⟨o,keep c o (I.n6 x c e) hc wc ho (I.cJ x c e),hd⟩
 refine ⟨I.ok,I.os,hg,⟨λb o e n hb hx=>?_,λb o e n hb hx=>?_,λb o e n hx=>?_,λb o e hx=>?_,λb xs e=>tups b xs (I.base.tups b xs e),λb o xs e=>gx b o xs (I.base.gx b o xs e),λb p r e=>gF b p r (I.base.gF b p r e)⟩,?_,λx c e=>?_,?_,λx c e=>?_,λp hp=>?_,hok,I.len⟩
 .exact keep b o (Hl b o e) hb (zo b o e hx) (I.base.keep b o e n hb hx) (I.base.free b o e n hx)
 .obtain ⟨sl,e1⟩:=I.base.slot b o e n hb hx
  obtain ⟨Nn,e2⟩:=slot b _ (Hl b o e) hb (zo b o e hx) e1 (I.base.free b o e n hx)
  exact ⟨Nn,e2⟩
 .obtain ⟨o',e1⟩:=I.base.there b o e hx
  exact free b o' (zo b o e hx) e1 (I.base.free b o e n hx)
 .obtain ⟨o',e1⟩:=I.base.there b o e hx
  exact there b o' (zo b o e hx) e1
 .obtain ⟨m,hn,hl⟩:=I.loc
  refine ⟨m,ns m hn,λi x v e1 e2 e3=>?_⟩
  obtain ⟨u,r,l⟩:=hl i x v e1 e2 e3
  refine ⟨u,r,?_⟩
  rcases l with l | ⟨k,c,e,z⟩
  .exact .inl l
  .exact .inr ⟨k,c,e,cellK x c e _ z⟩
 .obtain ⟨v,z⟩:=I.cell x c e
  exact ⟨v,cellK x c e v z⟩
 .obtain ⟨m,⟨o,_,_,ho,_⟩,_⟩:=I.loc
  exact free _ o (λz=>(hch _ z).2.1 rfl) ho I.free
 .obtain ⟨v,o,ho,hd⟩:=I.cell x c e
  exact free c o (λz=>(hch c z).2.2.1 x c e rfl) ho (I.cJ x c e)
 .obtain ⟨e,n,ne,nf,d⟩:=I.pin p hp
  have wc:p.1∉ch:=λz=>(hch p.1 z).2.2.2 p hp rfl
  exact ⟨keep p.1 p.2 ne nf wc e n,free p.1 p.2 wc e n,ne,nf,d⟩
theorem Inv.un {t':Nat} (I:Inv X pins σ H s) (u:Un X.fs [] H H' s.heap h') (hok:dj X.prog X.w H' h'):Inv X pins σ H' { s with heap:=h',toks:=t' }:=by
 obtain ⟨m,⟨o,es,ep,ho,r⟩,_⟩:=id I.loc
 obtain ⟨sl,hL⟩:=u.any ho I.free (by simp)
 exact I.step (g':=s.gens) (d':=s.drawn) (ch:=[]) (λ_ z=>nomatch z) (λb o _ hb _ e n=>u.keep b o e n hb (by simp)) (λb o _ hb _ e n=>u.slot b o e n hb (by simp)) (λb o _ e n=>u.free b o e n (by simp)) (λb o _ e=>u.there b o e (by simp)) u.tups u.gx u.gF (λm' hm=>by
  obtain ⟨o',es',zK,ho',r'⟩:=hm
  rw [ho] at ho'; cases ho'
  exact ⟨_,es',zK,hL,r'⟩) hok I.bare
theorem Inv.call {g':Array GenState} {t':Nat} {d':Drawn} {ch:List Addr} (I:Inv X pins σ H s) (u:Un (frs X.stack) ch H H' s.heap h') (hok:dj X.prog X.w H' h') (hg:AllBare g')
  (hch:∀ b∈ch,(b∈X.ex\/X.s₀.heap.objs.size<=b)/\b≠X.env.locals/\(∀ x c,X.env.cells.lookup x=some c->c≠b)/\∀ p∈X.pn++pins,p.1≠b) :
  Inv X pins σ H' { s with heap:=h',gens:=g',drawn:=d',toks:=t' }:=by
 obtain ⟨m,⟨o,es,ep,ho,r⟩,_⟩:=id I.loc
 obtain ⟨sl,hL⟩:=u.any ho I.free λz=>(hch _ z).2.1 rfl
 exact I.step (ch:=ch) hch (λb o hL hb hc e n=>u.keep b o e n (λz=>(ac0.mp (I.iL b z)).elim hL hb) hc) (λb o _ _ hc e n=>u.any e n hc) (λb o hc e n=>u.free b o e n hc) (λb o hc e=>u.there b o e hc) u.tups u.gx u.gF (λm' hm=>by
  obtain ⟨o',es',zK,ho',r'⟩:=hm
  rw [ho] at ho'; cases ho'
  exact ⟨_,es',zK,hL,r'⟩) hok hg
theorem Inv.turned {t':Nat} {it:Addr} (I:Inv X pins σ H s) (k:∀ b o,b≠it->s.heap.get? b=some o->h'.get? b=some o) (hn:H it=none) (hL:it≠X.env.locals)
  (h1:it∈X.ex\/X.s₀.heap.objs.size<=it) (h2:∀ x c,X.env.cells.lookup x=some c->c≠it) (h3:∀ p∈X.pn++pins,p.1≠it):Inv X pins σ H { s with heap:=h',toks:=t' }:=by
 have Hi:∀ b u,H b=some u->b≠it:=λb u e z=>by rw [z,hn] at e; cases e
 refine I.step (g':=s.gens) (d':=s.drawn) (ch:=[it]) (λb hb=>?_) (λb o _ _ hc e _=>k b o (λz=>hc (by simp [z])) e) (λb o _ _ hc e _=>⟨o.slots,k b o (λz=>hc (by simp [z])) e⟩) (λ_ _ _ _ n=>n)
  (λb o hc e=>⟨o,k b o (λz=>hc (by simp [z])) e⟩) (λ_ _ e=>e) (λ_ _ _ e=>e) (λ_ _ _ e=>e) (λm hm=>?_) (λb u e=>?_) I.bare
 .have e:b=it:=by simpa using hb
  subst e
  exact ⟨h1,hL,h2,h3⟩
 .obtain ⟨o,es,ep,ho,r⟩:=hm
  exact ⟨o,es,ep,k _ o (a38 hL) ho,r⟩
 .refine (I.hok b u e).stay (λc v hc q=>k c v ?_ q) (λ_ q=>q) λ_ _ q=>q
  rcases hc with z | z
  .rw [z]; exact Hi b u e
  .exact Hi c _ z
theorem Inv.tok (I:Inv X pins σ H s) (t:Nat):Inv X pins σ H { s with toks:=t }:=I.un (h':=s.heap) (t':=t) Un.refl I.hok
theorem Inv.kept {t':Nat} (I:Inv X pins σ H s) (k:∀ b u,s.heap.get? b=some u->h'.get? b=some u):Inv X pins σ H { s with heap:=h',toks:=t' }:=I.un (Un.kept k) (I.hok.kept k)
theorem Inv.laid {a:Addr} {o:HO} {t':Nat} (I:Inv X pins σ H s) (k:∀ b u,s.heap.get? b=some u->h'.get? b=some u) (hp:s.heap.objs.size<=a) (new:aJ X.prog X.w (upd H a o) h' a o) :
  Inv X pins σ (upd H a o) { s with heap:=h',toks:=t' }:=I.un (Un.laid k hp (I.hok.fresh hp)) (I.hok.laid k hp new)
theorem Inv.write {x e:Addr} {o:HO} {t':Nat} (I:Inv X pins σ H s) (mu:yu (H x)) (he:e=x\/H e=some (.own x)) (k:∀ b u,b≠e->s.heap.get? b=some u->h'.get? b=some u) (tL:∃ u,h'.get? e=some u)
  (new:aJ X.prog X.w (upd H x o) h' x o):Inv X pins σ (upd H x o) { s with heap:=h',toks:=t' }:=I.un (Un.write mu he k tL) (I.hok.write mu he k tL new)
theorem Inv.kq {bJ:List (Addr×Obj)} (I:Inv X pins σ H s) (h:∀ p∈bJ,s.heap.get? p.1=some p.2/\H p.1=none/\p.1≠X.env.locals/\p.1∉X.fs/\∀ v,p.2.data≠.cell v):Inv X bJ σ H s :=
 ⟨I.ok,I.os,I.bare,I.base,I.loc,I.cell,I.free,I.cJ,λp hp=>(aJX.mp hp).elim (λz=>I.pin p (aCj _ z)) (h p),I.hok,I.len⟩
theorem Li {N:List Str} (hN:N.Nodup) {i j:Nat} {x:Str} (a:N[i]?=some x) (b:N[j]?=some x):i=j:=by
 obtain ⟨h1,e1⟩:=aw7.mp a
 obtain ⟨h2,e2⟩:=aw7.mp b
 exact (List.getElem_inj hN).mp (e1.trans e2.symm)
theorem Ly {M:Model} {A:Around} {E:Value->Shared->Prop} {i:Nat} {x:Str} {v:V} {u:Value} {Q:Unit->Shared->Prop} (I:Inv X pins σ H s) (hN:X.N.Nodup) (hi:X.N[i]?=some x) (hx:Loc X.env.scope x) (r:RelV v u)
  (h:∀ s',Inv X pins (σ.set i (some v)) H s'->(∃ a,Heap.SameBut a s.heap s'.heap/\(a=X.env.locals\/X.env.cells.lookup x=some a))->Q () s') (hf:X.fn x=true\/X.env.scope.names.lookup x=some .local:=by first | exact .inl rfl | exact .inr rfl | assumption):wpAny M A (storeName X.env x u) Q E s:=by
 obtain ⟨m,hn,hl⟩:=id I.loc
 have hcls:(X.env.scope.kind == .class || (X.env.scope.kind == .module && X.env.locals != X.env.globals))=false:=by rw [I.ok.kind]; rfl
 have wQ:i<σ.length:=by rw [I.len]; exact (aw7.mp hi).1
 have n6:=I.n6
 have tracked:∀ {a:Addr} {h':Heap},(∃ o,s.heap.get? a=some o/\H a=none)->Heap.SameBut a s.heap h'->dj X.prog X.w H h':=λ{a h'} ha hs b ob e=>by
  obtain ⟨_,_,hfree⟩:=ha
  refine (I.hok b ob e).stay (λc w' hc q=>(hs.2 c ?_).trans q) (λ_ q=>q) λ_ _ q=>q
  rintro rfl
  rcases hc with rfl | hc
  .rw [hfree] at e; cases e
  .rw [hfree] at hc; cases hc
 rcases hx with hk | hk
 .refine wpAny_storeName_local hk hn (λh' hn' hs=>?_) hcls
  obtain ⟨oL,_,_,tH,_⟩:=id hn
  refine h _ ⟨I.ok,I.os,I.bare,⟨λb o e n hb hx=>?_,λb o e n hb hx=>?_,I.base.free,λb o e hx=>?_,I.base.tups,I.base.gx,I.base.gF⟩,⟨_,hn',λj y v' e1 e2 e3=>?_⟩,λy c e=>?_,I.free,I.cJ,λp hp=>?_,tracked ⟨oL,tH,I.free⟩ hs,by simpa using I.len⟩ ⟨_,hs,.inl rfl⟩
  .exact (hs.2 b (aOw (ajX (alE e) I.ok.above))).trans (I.base.keep b o e n hb hx)
  .obtain ⟨sl,e1⟩:=I.base.slot b o e n hb hx
   exact ⟨sl,(hs.2 b (aOw (ajX (alE e) I.ok.above))).trans e1⟩
  .obtain ⟨o',e1⟩:=I.base.there b o e hx
   exact ⟨o',(hs.2 b (aOw (ajX (alE e) I.ok.above))).trans e1⟩
  .by_cases hj:j=i
   .subst hj
    rw [hi] at e1; cases e1
    rw [List.getElem?_set_self wQ] at e2
    cases e2
    exact ⟨u,r,.inl ⟨hk,by simp⟩⟩
   .rw [List.getElem?_set_ne (a38 hj)] at e2
    obtain ⟨u',r',q⟩:=hl j y v' e1 e2 e3
    refine ⟨u',r',?_⟩
    rcases q with ⟨k,e⟩ | ⟨k,c,e,z⟩
    .refine .inl ⟨k,?_⟩
     have:y≠x:=λe=>hj (Li hN e1 (e ▸ hi))
     simp [this,e]
    .exact .inr ⟨k,c,e,z.sameBut hs (n6 y c e)⟩
  .obtain ⟨w',z⟩:=I.cell y c e
   exact ⟨w',z.sameBut hs (n6 y c e)⟩
  .obtain ⟨e,n,ne,nf,d⟩:=I.pin p hp
   exact ⟨(hs.2 p.1 ne).trans e,n,ne,nf,d⟩
 .have hfn:X.fn x=true:=by
   rcases hf with z | z
   .exact z
   .rw [z] at hk; cases hk
  obtain ⟨c,hc⟩:=I.ok.has x (.inl hk)
  obtain ⟨w',z⟩:=I.cell x c hc
  refine wpAny_storeName_cell I.ok.kind hk hc z (λh' hc' hs=>?_)
  obtain ⟨oc,hoc,C5⟩:=id z
  refine h { s with heap:=h' } ⟨I.ok,I.os,I.bare,⟨λb o e n hb hx=>?_,λb o e n hb hx=>?_,I.base.free,λb o e hx=>?_,I.base.tups,I.base.gx,I.base.gF⟩,⟨m,hn.sameBut hs (a38 (n6 x c hc)),λj y v' e1 e2 e3=>?_⟩,λy c' e=>?_,I.free,I.cJ,λp hp=>?_,tracked ⟨oc,hoc,I.cJ x c hc⟩ hs,by simpa using I.len⟩ ⟨c,hs,.inr hc⟩
  .exact (hs.2 b (aOw (ajX (alE e) (I.ok.xC x c hfn hc)))).trans (I.base.keep b o e n hb hx)
  .obtain ⟨sl,e1⟩:=I.base.slot b o e n hb hx
   exact ⟨sl,(hs.2 b (aOw (ajX (alE e) (I.ok.xC x c hfn hc)))).trans e1⟩
  .obtain ⟨o',e1⟩:=I.base.there b o e hx
   exact ⟨o',(hs.2 b (aOw (ajX (alE e) (I.ok.xC x c hfn hc)))).trans e1⟩
  .by_cases hj:j=i
   .subst hj
    rw [hi] at e1; cases e1
    rw [List.getElem?_set_self wQ] at e2
    cases e2
    exact ⟨u,r,.inr ⟨.inl hk,c,hc,hc'⟩⟩
   .rw [List.getElem?_set_ne (a38 hj)] at e2
    obtain ⟨u',r',q⟩:=hl j y v' e1 e2 e3
    refine ⟨u',r',?_⟩
    rcases q with q | ⟨k,c',e,z'⟩
    .exact .inl q
    .refine .inr ⟨k,c',e,z'.sameBut hs ?_⟩
     rintro rfl
     exact hj (Li hN e1 (I.ok.inj _ _ _ e hc ▸ hi))
  .by_cases hcc:c'=c
   .subst hcc; exact ⟨_,hc'⟩
   .obtain ⟨w2,z2⟩:=I.cell y c' e
    exact ⟨w2,z2.sameBut hs hcc⟩
  .obtain ⟨e,n,ne,nf,d⟩:=I.pin p hp
   refine ⟨(hs.2 p.1 ?_).trans e,n,ne,nf,d⟩
   intro q
   rw [q,hoc] at e
   have q':oc=p.2:=ado e
   exact d w' (by rw [← q']; exact C5)
theorem ya {M:Model} {A:Around} {E:Value->Shared->Prop} {i:Nat} {x:Str} {v:V} {u:Value} {Q:Unit->Shared->Prop} (I:Inv X pins σ H s) (hN:X.N.Nodup) (hi:X.N[i]?=some x) (hx:Loc X.env.scope x) (r:RelV v u)
  (h:∀ s',Inv X pins (σ.set i (some v)) H s'->Q () s') (hf:X.fn x=true\/X.env.scope.names.lookup x=some .local:=by first | exact .inl rfl | exact .inr rfl | assumption):wpAny M A (storeName X.env x u) Q E s :=
 Ly I hN hi hx r (λs' I' _=>h s' I') hf
theorem Inv.xB {s':Shared} {ch:List Addr} (I:Inv X pins σ H s) (ho:s'.os=s.os) (u:Un (frs X.stack) ch H H' s.heap s'.heap) (hok:dj X.prog X.w H' s'.heap) (hg:AllBare s'.gens)
  (hch:∀ b∈ch,(b∈X.ex\/X.s₀.heap.objs.size<=b)/\b≠X.env.locals/\(∀ x c,X.env.cells.lookup x=some c->c≠b)/\∀ p∈X.pn++pins,p.1≠b):Inv X pins σ H' s':=by
 obtain ⟨h',g',d',t',o'⟩:=s'
 have e:o'=s.os:=ho
 subst e
 exact I.call (g':=g') (t':=t') (d':=d') u hok hg hch
end
abbrev XK:=Value->Option Addr->Hp->Prop
abbrev St:=List (Option V)
abbrev VK:=V->Hp->Prop
abbrev TE:=St->Hp->VK->Prop
abbrev TT:=St->Hp->(Bool->Hp->Prop)->Prop
abbrev TA:=St->Hp->(List V->Hp->Prop)->Prop
structure Ends where
 nx:St->Hp->Prop
 rt:VK
 bk:St->Hp->Prop:=λ_ _=>False
 ct:St->Hp->Prop:=λ_ _=>False
abbrev TS:=Ends->St->Hp->Prop
def EP (X:Cx) (pins:List (Addr×Obj)) (σ:St) (Q:VK) (u:Value) (s':Shared):Prop:=∃ v H',Inv X pins σ H' s'/\RelV v u/\Q v H'
def TP (X:Cx) (pins:List (Addr×Obj)) (σ:St) (Q:Bool->Hp->Prop) (b:Bool) (s':Shared):Prop:=∃ H',Inv X pins σ H' s'/\Q b H'
def AP (X:Cx) (pins:List (Addr×Obj)) (σ:St) (Q:List V->Hp->Prop) (us:List Value) (s':Shared):Prop:=∃ vs H',Inv X pins σ H' s'/\Vals vs us/\Q vs H'
def SP (X:Cx) (pins:List (Addr×Obj)) (D:Ends) (f:Flow) (s':Shared):Prop :=
 match f with
 | .next=>∃ σ' H',Inv X pins σ' H' s'/\D.nx σ' H'
 | .brk=>∃ σ' H',Inv X pins σ' H' s'/\D.bk σ' H'
 | .cont=>∃ σ' H',Inv X pins σ' H' s'/\D.ct σ' H'
 | .ret u=>∃ v σ' H',Inv X pins σ' H' s'/\RelV v u/\D.rt v H'
def PE (X:Cx) (e:Expr) (t:TE):Prop :=
 ∀ (pins:List (Addr×Obj)) (s:Shared) (σ:St) (H:Hp) (Q:VK),Inv X pins σ H s->t σ H Q->wpAny (model X.prog X.w) X.A (eval e X.env) (EP X pins σ Q) X.xe s
def PT (X:Cx) (e:Expr) (t:TT):Prop :=
 ∀ (pins:List (Addr×Obj)) (s:Shared) (σ:St) (H:Hp) (Q:Bool->Hp->Prop),Inv X pins σ H s->t σ H Q->wpAny (model X.prog X.w) X.A (isTrue e X.env (eval e X.env)) (TP X pins σ Q) X.xe s
def PW (X:Cx) (e:Expr) (t:TT):Prop :=
 ∀ (whole:Sem Value) (pins:List (Addr×Obj)) (s:Shared) (σ:St) (H:Hp) (Q:Bool->Hp->Prop),Inv X pins σ H s->t σ H Q->wpAny (model X.prog X.w) X.A (isTrue e X.env whole) (TP X pins σ Q) X.xe s
theorem PW.pt {X:Cx} {e:Expr} {t:TT} (h:PW X e t):PT X e t:=h _
def PA (X:Cx) (es:List Expr) (t:TA):Prop :=
 ∀ (pos:Pos) (pins:List (Addr×Obj)) (s:Shared) (σ:St) (H:Hp) (Q:List V->Hp->Prop),Inv X pins σ H s->t σ H Q->wpAny (model X.prog X.w) X.A (spliced (backTo pos (starEach es X.env))) (AP X pins σ Q) X.xe s
def PS (X:Cx) (st:Stmt) (t:TS):Prop :=
 ∀ (pins:List (Addr×Obj)) (s:Shared) (σ:St) (H:Hp) (D:Ends),Inv X pins σ H s->t D σ H->wpAny (model X.prog X.w) X.A (exec st X.env) (SP X pins D) X.xe s
def kL (X:Cx) (st:List Stmt) (t:TS):Prop :=
 ∀ (pins:List (Addr×Obj)) (s:Shared) (σ:St) (H:Hp) (D:Ends),Inv X pins σ H s->t D σ H->wpAny (model X.prog X.w) X.A (execs st X.env) (SP X pins D) X.xe s
theorem bH {α:Type} {t:Sem α} {Q Q':α->Shared->Prop} {M:Model} {A:Around} {E:Value->Shared->Prop} {s:Shared} (h:wpAny M A t Q E s) (hQ:∀ a s,Q a s->Q' a s):wpAny M A t Q' E s:=aPb h hQ λ_ _ x=>x
theorem cT {t : Sem Value} {Q : VK} {Q' : Value -> Shared -> Prop} {M : Model} {A : Around} {E : Value -> Shared -> Prop} {s : Shared} {X : Cx} {pins : List (Addr × Obj)} {σ : St} (h : wpAny M A t (EP X pins σ Q) E s) (k : ∀ v s x H, Inv X pins σ H s -> RelV x v -> Q x H -> Q' v s) : wpAny M A t Q' E s := aPb h (λv s z => by obtain ⟨x, H, i, r, q⟩ := z; exact k v s x H i r q) λ_ _ x => x
theorem kR {t : Sem (List Value)} {Q : List V -> Hp -> Prop} {Q' : List Value -> Shared -> Prop} {M : Model} {A : Around} {E : Value -> Shared -> Prop} {s : Shared} {X : Cx} {pins : List (Addr × Obj)} {σ : St} (h : wpAny M A t (AP X pins σ Q) E s) (k : ∀ v s x H, Inv X pins σ H s -> Vals x v -> Q x H -> Q' v s) : wpAny M A t Q' E s := aPb h (λv s z => by obtain ⟨x, H, i, r, q⟩ := z; exact k v s x H i r q) λ_ _ x => x
section
variable {X:Cx}
def uR (i:Nat):TE:=λσ H Q=>∃ v,σ[i]?=some (some v)/\Q v H
def tC (v:V):TE:=λ_ H Q=>Q v H
theorem QC {i:Nat} {x:Str} {pos:Pos} (hN:X.N[i]?=some x) (hv:uE X.env.scope x) (hd:(x == ("__debug__" : Str))=false:=by decide) (hcd:(x == ("__classdict__" : Str))=false:=by decide):PE X (.Name x pos) (uR i):=by
 intro pins s σ H Q I h
 obtain ⟨v,e,h⟩:=h
 obtain ⟨m,hn,hl⟩:=I.loc
 obtain ⟨u,r,l⟩:=hl i x v hN e hv
 have fin:EP X pins σ Q u s:=⟨v,H,I,r,h⟩
 rcases l with ⟨hk,hm⟩ | ⟨hk,c,hc,hcell⟩
 .exact wpAny_Name (wpAny_loadName_local I.ok.kind hk hn hm fin) hd
 .rcases hk with hk | hk
  .exact wpAny_Name (wpAny_loadName_cell I.ok.kind hk hc hcell fin) hd
  .exact wpAny_Name (wpAny_loadName_free I.ok.kind hk hc hcell fin hcd) hd
theorem Zh {i j pos}:PE X (.Constant (.int i) j pos) (tC (.int i)):=λ_ _ _ H _ I h=>wpAny_Constant_int ⟨.int i,H,I.tok _,⟨_,rfl⟩,h⟩
theorem fk {b j pos}:PE X (.Constant (.bool b) j pos) (tC (.bl b)):=λ_ _ _ H _ I h=>Constant_bool ⟨.bl b,H,I,rfl,h⟩
theorem ue {j pos}:PE X (.Constant .none j pos) (tC .aV):=λ_ _ _ H _ I h=>Constant_none ⟨.aV,H,I,rfl,h⟩
theorem sf {x j pos}:PE X (.Constant (.str x) j pos) (tC (.str x)):=λ_ _ _ H _ I h=>Calls.Constant_str ⟨.str x,H,I.tok _,⟨_,rfl⟩,h⟩
def Gl (X:Cx) (x:Str):Prop:=X.env.kindOf x=some .globalImplicit
theorem Kr {E:Value->Shared->Prop} {pins:List (Addr×Obj)} {s:Shared} {σ:St} {H:Hp} {x:Str} {u:Value} {pos:Pos} {Q:Value->Shared->Prop} (I:Inv X pins σ H s) (hg:Gl X x) (hm:X.mg x=some u) (h:Q u s)
  (hd:(x == ("__debug__" : Str))=false:=by decide):wpAny (model X.prog X.w) X.A (eval (.Name x pos) X.env) Q E s :=
 Calls.Name_function_global I.ok.kind hg (Calls.loadGlobal_global (by rw [I.ok.glob]; exact I.mod.glob.keeps I.bk) hm h) hd
theorem oh {E:Value->Shared->Prop} {pins:List (Addr×Obj)} {s:Shared} {σ:St} {H:Hp} {x:Str} {u:Value} {pos:Pos} {Q:Value->Shared->Prop} (I:Inv X pins σ H s) (hg:Gl X x) (hm:X.mg x=none) (hv:bootBuiltins x=some u) (h:Q u s)
  (hn:x ≠ "__name__" := by decide) (hd:(x == ("__debug__" : Str))=false:=by decide):wpAny (model X.prog X.w) X.A (eval (.Name x pos) X.env) Q E s:=by
 obtain ⟨mb,h1,h2⟩:=I.mod.blt
 exact Calls.Name_function_global I.ok.kind hg (Calls.loadGlobal_builtin (by rw [I.ok.glob]; exact I.mod.glob.keeps I.bk) hm (by rw [I.ok.blt]; exact h1.keeps I.bk) ((h2 x hn).trans hv) h) hd
theorem ZU {x:Str} {v:V} {u:Value} {pos:Pos} (hg:Gl X x) (hm:X.mg x=none) (hv:bootBuiltins x=some u) (r:RelV v u) (hn:x ≠ "__name__" := by decide) (hd:(x == ("__debug__" : Str))=false:=by decide):PE X (.Name x pos) (tC v) :=
 λ_ _ _ H _ I h=>oh I hg hm hv ⟨v,H,I,r,h⟩ hn hd
variable {a b:Expr} {ta tb:TE} {pos:Pos}
def PC (X:Cx) (op:CmpOp) (a b:Expr) (t:TE):Prop :=
 ∀ (pins:List (Addr×Obj)) (s:Shared) (σ:St) (H:Hp) (Q:VK),Inv X pins σ H s->t σ H Q ->
  wpAny (model X.prog X.w) X.A (eval a X.env) (λv s₁=>wpAny (model X.prog X.w) X.A (eval b X.env) (λu s₂=>wpAny (model X.prog X.w) X.A (compareOp op v u) (EP X pins σ Q) X.xe s₂) X.xe s₁) X.xe s
theorem Lh (b:Expr) {op:CmpOp} (h:op≠.In) (h2:op≠.NotIn):behindInMarks op b=false:=by
 have e1:(op == CmpOp.In)=false:=by cases op <;> first | rfl | exact absurd rfl h
 have e2:(op == CmpOp.NotIn)=false:=by cases op <;> first | rfl | exact absurd rfl h2
 cases b <;> simp [behindInMarks,e1,e2]
def BC (ta:TE):TE:=λσ H Q=>ta σ H λx H1=>Q (.bl (decide (x=.aV))) H1
def uW (ta:TE):TE:=λσ H Q=>ta σ H λx H1=>Q (.bl (!decide (x=.aV))) H1
theorem RelV.jg {x:V} {v:Value} (r:RelV x v):(v == Value.none)=decide (x=.aV):=by
 cases x with
 | aV=>cases r; rfl
 | bl _=>cases r; rfl
 | int _=>obtain ⟨t,rfl⟩:=r; rfl
 | str _=>obtain ⟨t,rfl⟩:=r; rfl
 | jX _=>obtain ⟨t,rfl⟩:=r; rfl
 | oU _=>obtain ⟨t,rfl⟩:=r; rfl
 | ref _=>cases r; rfl
 | ty _=>cases r; rfl
theorem Ek {j pos'} (ha:PE X a ta):PC X .Is a (.Constant .none j pos') (BC ta):=by
 intro pins s σ H Q I h
 refine cT (ha pins s σ H _ I h) λv s1 x H1 I1 r1 q1=>?_
 exact Constant_none (is_none_gen ⟨.bl _,H1,I1,by rw [r1.jg]; rfl,q1⟩)
theorem Ah {j pos'} (ha:PE X a ta):PC X .IsNot a (.Constant .none j pos') (uW ta):=by
 intro pins s σ H Q I h
 refine cT (ha pins s σ H _ I h) λv s1 x H1 I1 r1 q1=>?_
 exact Constant_none (isnot_none_gen ⟨.bl _,H1,I1,by rw [r1.jg]; rfl,q1⟩)
def tB (t:TE):TT:=λσ H Q=>t σ H λx H1=>∃ c,x=.bl c/\Q c H1
theorem Jq {op:CmpOp} {t:TE} (h:PC X op a b t) (h1:behindInMarks op b=false:=by first | exact Lh _ (by decide) (by decide) | rfl):PE X (.Compare a [op] [b] pos) t:=λpins s σ H Q I hw=>wpAny_Compare1 (h pins s σ H Q I hw) h1
theorem ud {op:CmpOp} {t:TE} (h:PC X op a b t) (h1:behindInMarks op b=false:=by first | exact Lh _ (by decide) (by decide) | rfl):PT X (.Compare a [op] [b] pos) (tB t):=by
 intro pins s σ H Q I hw
 refine wpAny_isTrue_Compare1 (bH (h pins s σ H _ I hw) λv s1 h1=>bH h1 λu s2 h2=>bH h2 λc s3 ⟨x,H1,I1,r1,q1⟩=>?_) h1
 obtain ⟨d,rfl,q⟩:=q1
 cases r1
 exact a3o ⟨H1,I1,q⟩
theorem lD {e:Expr} {t:TE} (h:PE X e t) (he:∀ whole,isTrue e X.env whole=(do let v ← whole; standAt e.pos; holding [v] (truthy v)):=by intro _; rfl):PT X e (tB t):=by
 intro pins s σ H Q I hw
 refine isTrue_plain (cT (h pins s σ H _ I hw) λv s1 x H1 I1 r1 q1=>?_) (he _)
 obtain ⟨d,rfl,q⟩:=q1
 cases r1
 exact a3o ⟨H1,I1,q⟩
variable {tA yS:TT} {rest:List Expr}
def BH (t u:TT):TT:=λσ H Q=>t σ H λc H1=>if c=true then u σ H1 Q else Q false H1
def GN (t u:TT):TT:=λσ H Q=>t σ H λc H1=>if c=true then Q true H1 else u σ H1 Q
def BA (t:TT):TT:=λσ H Q=>t σ H λc H1=>Q (!c) H1
theorem ES (ha:PT X a tA):PW X (.BoolOp .And [a] pos) tA:=by
 intro wh pins s σ H Q I h
 refine isTrue_and (bH (ha pins s σ H Q I h) λc s1 e=>?_)
 cases c with
 | true=>exact isTrue_and_nil e
 | false=>exact e
theorem uc (ha:PT X a tA):PW X (.BoolOp .Or [a] pos) tA:=by
 intro wh pins s σ H Q I h
 refine isTrue_or (bH (ha pins s σ H Q I h) λc s1 e=>?_)
 cases c with
 | false=>exact isTrue_or_nil e
 | true=>exact e
theorem Ej (ha:PT X a tA) (hb:PW X (.BoolOp .And (b :: rest) pos) yS):PW X (.BoolOp .And (a :: b :: rest) pos) (BH tA yS):=by
 intro wh pins s σ H Q I h
 refine isTrue_and (bH (ha pins s σ H _ I h) λc s1 ⟨H1,I1,q1⟩=>?_)
 cases c with
 | true=>exact hb wh pins s1 σ H1 Q I1 q1
 | false=>exact ⟨H1,I1,q1⟩
theorem pw_or (ha:PT X a tA) (hb:PW X (.BoolOp .Or (b :: rest) pos) yS):PW X (.BoolOp .Or (a :: b :: rest) pos) (GN tA yS):=by
 intro wh pins s σ H Q I h
 refine isTrue_or (bH (ha pins s σ H _ I h) λc s1 ⟨H1,I1,q1⟩=>?_)
 cases c with
 | true=>exact ⟨H1,I1,q1⟩
 | false=>exact hb wh pins s1 σ H1 Q I1 q1
theorem se (ha:PT X a tA):PT X (.UnaryOp .Not a pos) (BA tA):=by
 intro pins s σ H Q I h
 exact isTrue_not (ha pins s σ H (λc H1=>Q (!c) H1) I h)
def vf (ta tb:TE):TE:=λσ H Q=>ta σ H λx H1=>∃ c,x=.bl c/\if c=true then tb σ H1 Q else Q (.bl false) H1
def uV (ta:TE):TE:=λσ H Q=>ta σ H λx H1=>∃ c,x=.bl c/\Q (.bl (!c)) H1
theorem ua {op} {t:TE} (h:PE X a t):PE X (.BoolOp op [a] pos) t:=λpins s σ H Q I hw=>BoolOp_one (h pins s σ H Q I hw)
theorem sd (ha:PE X a ta) (hb:PE X (.BoolOp .And (b :: rest) pos) tb):PE X (.BoolOp .And (a :: b :: rest) pos) (vf ta tb):=by
 intro pins s σ H Q I h
 refine BoolOp_and (cT (ha pins s σ H _ I h) λv s1 x H1 I1 r1 q1=>?_)
 obtain ⟨c,rfl,q1⟩:=q1
 cases r1
 refine a3o ?_
 cases c with
 | true=>exact hb pins s1 σ H1 Q I1 q1
 | false=>exact ⟨.bl false,H1,I1,rfl,q1⟩
theorem QB (ha:PE X a ta):PE X (.UnaryOp .Not a pos) (uV ta):=by
 intro pins s σ H Q I h
 refine UnaryOp_ (cT (ha pins s σ H _ I h) λv s1 x H1 I1 r1 q1=>?_)
 obtain ⟨c,rfl,q1⟩:=q1
 cases r1
 exact not_of (a3o ⟨.bl (!c),H1,I1,rfl,q1⟩)
def yR (t:TT) (ta tb:TE):TE:=λσ H Q=>t σ H λc H1=>if c=true then ta σ H1 Q else tb σ H1 Q
theorem om {c:Expr} (hc:PT X c tA) (ha:PE X a ta) (hb:PE X b tb):PE X (.IfExp c a b pos) (yR tA ta tb):=by
 intro pins s σ H Q I h
 refine wpAny_IfExp (bH (hc pins s σ H _ I h) λd s1 ⟨H1,I1,q1⟩=>?_)
 cases d with
 | true=>exact ha pins s1 σ H1 Q I1 q1
 | false=>exact hb pins s1 σ H1 Q I1 q1
end
def ak (K:W.Frag) (H:Hp) (a:Addr) (xs:List V):Prop :=
 Rd H a (.lst xs) \/
  ∃ (o:Obj) (its:Array Value) (n:Nat),K.lookup a=some o/\o.cls=.type "list" /\ o.dict=none/\o.data=.seq its n/\its.size<=sizeLine/\Vals xs its.toList
def bG (K:W.Frag) (H:Hp) (a:Addr) (xs:List V):Prop :=
 Rd H a (.tup xs) \/
  ∃ (o:Obj) (its:Array Value) (n:Nat),K.lookup a=some o/\o.cls=.type "tuple" /\ o.data=.seq its n/\its.size<=sizeLine/\Vals xs its.toList
def DP:Value->Option V
 | .none=>some .aV
 | .bool b=>some (.bl b)
 | .int i _=>some (.int i)
 | .str x _=>some (.str x)
 | .bytes b _=>some (.jX b)
 | .float b _=>some (.oU b)
 | .ref a=>some (.ref a)
 | .type n=>some (.ty n)
 | _=>none
theorem RelV.abs {x:V} {u:Value} (r:RelV x u):DP u=some x:=by
 cases x with
 | aV=>cases r; rfl
 | bl _=>cases r; rfl
 | int _=>obtain ⟨t,rfl⟩:=r; rfl
 | str _=>obtain ⟨t,rfl⟩:=r; rfl
 | jX _=>obtain ⟨t,rfl⟩:=r; rfl
 | oU _=>obtain ⟨t,rfl⟩:=r; rfl
 | ref _=>cases r; rfl
 | ty _=>cases r; rfl
theorem RelV.inj {x y:V} {u:Value} (r:RelV x u) (q:RelV y u):x=y:=ado (r.abs.symm.trans q.abs)
theorem Vals.inj:∀ {xs ys:List V} {us:List Value},Vals xs us->Vals ys us->xs=ys
 | _,_,_,.nil,.nil=>rfl
 | _,_,_,.cons r t,.cons r' t'=>by rw [r.inj r',Vals.inj t t']
section
variable {X:Cx} {pins:List (Addr×Obj)} {σ:St} {H:Hp} {s:Shared} {a:Addr} {xs ys:List V}
theorem ak.of {K:W.Frag} (h:H a=some (.lst xs)):ak K H a xs:=.inl (.inl h)
theorem bG.of {K:W.Frag} (h:H a=some (.tup xs)):bG K H a xs:=.inl (.inl h)
theorem Inv.list (I:Inv X pins σ H s) (h:ak X.K H a xs):∃ its:List Value,Vals xs its/\PlainL s.heap a its.toArray/\xs.length<=sizeLine:=by
 rcases h with h | ⟨o,its,n,hk,hc,hd,hs,hz,r⟩
 .obtain ⟨z,its,n,r,e⟩:=h.ok I.hok
  exact ⟨its,r,⟨_,n,e,rfl,rfl,rfl⟩,z⟩
 .refine ⟨its.toList,r,⟨o,n,I.dI a o hk,hc,hd,by simpa using hs⟩,?_⟩
  have e:=r.length
  simp only [aHK] at e
  lia
theorem Inv.tuple (I:Inv X pins σ H s) (h:bG X.K H a xs):∃ its:List Value,Vals xs its/\IsTup s.heap a its.toArray/\xs.length<=sizeLine:=by
 rcases h with h | ⟨o,its,n,hk,hc,hs,hz,r⟩
 .obtain ⟨z,its,r,p⟩:=h.ok I.hok
  exact ⟨its,r,p,z⟩
 .refine ⟨its.toList,r,⟨o,I.dI a o hk,hc,n,by simpa using hs⟩,?_⟩
  have e:=r.length
  simp only [aHK] at e
  lia
theorem Inv.fq (I:Inv X pins σ H s) (h:ak X.K H a xs) (h':ak X.K H a ys):xs=ys:=by
 obtain ⟨its,r,⟨o,n,e,_,_,d⟩,_⟩:=I.list h
 obtain ⟨its',r',⟨o',n',e',_,_,d'⟩,_⟩:=I.list h'
 rw [e] at e'; cases e'
 rw [d] at d'
 injection d' with d1 _
 have:its=its':=by simpa using a0A Array.toList d1
 subst this
 exact r.inj r'
theorem Inv.fJ (I:Inv X pins σ H s) (h:bG X.K H a xs) (h':bG X.K H a ys):xs=ys:=by
 obtain ⟨its,r,⟨o,e,_,n,d⟩,_⟩:=I.tuple h
 obtain ⟨its',r',⟨o',e',_,n',d'⟩,_⟩:=I.tuple h'
 rw [e] at e'; cases e'
 rw [d] at d'
 injection d' with d1 _
 have:its=its':=by simpa using a0A Array.toList d1
 subst this
 exact r.inj r'
end
abbrev Cx.gY (X:Cx) (E:Value->Shared->Prop):Cx:={ X with xe:=E }
abbrev Cx.qQ (X:Cx):Cx:=X.gY λ_ _=>False
theorem Cx.Ok.gY {X:Cx} (ok:X.Ok) (E:Value->Shared->Prop):(X.gY E).Ok :=
 ⟨ok.mod,ok.kind,ok.glob,ok.blt,ok.above,ok.inj,ok.has,ok.xC,ok.hd,ok.frames,ok.stk,ok.zH,ok.bs,ok.n8,ok.mL,ok.nv,ok.gw,ok.rP⟩
theorem Cx.Ok.dw {X:Cx} {E:Value->Shared->Prop} (ok:(X.gY E).Ok):X.Ok :=
 ⟨ok.mod,ok.kind,ok.glob,ok.blt,ok.above,ok.inj,ok.has,ok.xC,ok.hd,ok.frames,ok.stk,ok.zH,ok.bs,ok.n8,ok.mL,ok.nv,ok.gw,ok.rP⟩
section
variable {X:Cx} {pins:List (Addr×Obj)} {σ:St} {H:Hp} {s:Shared} {E:Value->Shared->Prop}
theorem Inv.gY (I:Inv X pins σ H s) (E:Value->Shared->Prop):Inv (X.gY E) pins σ H s:=⟨I.ok.gY E,I.os,I.bare,I.base,I.loc,I.cell,I.free,I.cJ,I.pin,I.hok,I.len⟩
theorem Inv.dw (I:Inv (X.gY E) pins σ H s):Inv X pins σ H s:=⟨I.ok.dw,I.os,I.bare,I.base,I.loc,I.cell,I.free,I.cJ,I.pin,I.hok,I.len⟩
theorem SP.dw {D:Ends} {f:Flow} {s':Shared} (h:SP (X.gY E) pins D f s'):SP X pins D f s':=by
 cases f with
 | next=>obtain ⟨σ',H',I,q⟩:=h; exact ⟨σ',H',I.dw,q⟩
 | brk=>obtain ⟨σ',H',I,q⟩:=h; exact ⟨σ',H',I.dw,q⟩
 | cont=>obtain ⟨σ',H',I,q⟩:=h; exact ⟨σ',H',I.dw,q⟩
 | ret u=>obtain ⟨v,σ',H',I,r,q⟩:=h; exact ⟨v,σ',H',I.dw,r,q⟩
theorem kL.qQ {st:List Stmt} {t:TS} (h:kL X.qQ st t):kL X st t:=λpins s σ H D I hw =>
 aPb (h pins s σ H D (I.gY _) hw) (λ_ _ q=>q.dw) λ_ _ z=>False.elim z
end
section
variable {X:Cx} {st:Stmt} {rest:List Stmt} {t u:TS} {e:Expr} {te:TE} {pos:Pos}
def gG:TS:=λD σ H=>D.nx σ H
def lZ (t u:TS):TS:=λD σ H=>t { D with nx:=u D } σ H
theorem Zw:kL X [] gG:=λ_ _ σ H _ I h=>wpAny_execs_nil ⟨σ,H,I,h⟩
theorem Ze (h1:PS X st t) (h2:kL X rest u):kL X (st :: rest) (lZ t u):=by
 intro pins s σ H D I h
 refine wpAny_execs_cons (bH (h1 pins s σ H { D with nx:=u D } I h) λf s1 q=>?_)
 cases f with
 | next =>
  obtain ⟨σ',H',I',q⟩:=q
  exact h2 pins s1 σ' H' D I' q
 | ret v=>exact q
 | brk=>exact q
 | cont=>exact q
theorem Zj (h1:PS X st t):kL X [st] t:=by
 intro pins s σ H D I h
 refine wpAny_execs_cons (bH (h1 pins s σ H D I h) λf s1 q=>?_)
 cases f with
 | next=>exact wpAny_execs_nil q
 | ret v=>exact q
 | brk=>exact q
 | cont=>exact q
theorem Inv.quiet {pins:List (Addr×Obj)} {σ:St} {H:Hp} {s:Shared} (I:Inv X pins σ H s):interactive X.env=false:=by simp [interactive,I.ok.kind]
def vc (te:TE):TS:=λD σ H=>te σ H λ_ H1=>D.nx σ H1
theorem Zz (he:PE X e te) (hs:swapsWith e none pos.line X.env=pure false:=by rfl):PS X (.Expr e pos) (vc te):=by
 intro pins s σ H D I h
 exact wpAny_Expr_any (cT (he pins s σ H _ I h) λv s1 x H1 I1 r1 q1=>⟨σ,H1,I1,q1⟩) I.quiet hs
def Bx (te:TE):TS:=λD σ H=>te σ H D.rt
theorem Zs (he:PE X e te):PS X (.Return (some e) pos) (Bx te):=by
 intro pins s σ H D I h
 exact wpAny_Return_some (cT (he pins s σ H _ I h) λv s1 x H1 I1 r1 q1=>⟨x,σ,H1,I1,r1,q1⟩)
def uY (c:TT) (t u:TS):TS:=λD σ H=>c σ H λb H1=>if b=true then t D σ H1 else u D σ H1
theorem aO {c:Expr} {a b:List Stmt} {tc:TT} (hc:PT X c tc) (ha:kL X a t) (hb:kL X b u):PS X (.If c a b pos) (uY tc t u):=by
 intro pins s σ H D I h
 refine wpAny_If (bH (hc pins s σ H _ I h) λd s1 ⟨H1,I1,q1⟩=>?_)
 cases d with
 | true=>exact ha pins s1 σ H1 D I1 q1
 | false=>exact hb pins s1 σ H1 D I1 q1
end
abbrev TG:=V->St->Hp->(St->Hp->Prop)->Prop
abbrev qB:=List V->St->Hp->(St->Hp->Prop)->Prop
def PG (X:Cx) (target:Expr) (t:TG):Prop :=
 ∀ (pins:List (Addr×Obj)) (s:Shared) (σ:St) (H:Hp) (v:V) (u:Value) (Q:St->Hp->Prop),Inv X pins σ H s->RelV v u->t v σ H Q ->
  wpAny (model X.prog X.w) X.A (assign target X.env u) (λ_ s'=>∃ σ' H',Inv X pins σ' H' s'/\Q σ' H') X.xe s
def yr (X:Cx) (ts:List Expr) (t:qB):Prop :=
 ∀ (pins:List (Addr×Obj)) (s:Shared) (σ:St) (H:Hp) (vs:List V) (us:List Value) (Q:St->Hp->Prop),Inv X pins σ H s->Vals vs us->t vs σ H Q ->
  wpAny (model X.prog X.w) X.A (assignInOrder ((assignEach ts X.env).map (·.2)) us) (λ_ s'=>∃ σ' H',Inv X pins σ' H' s'/\Q σ' H') X.xe s
abbrev sC:=V->V->V->Hp->(Hp->Prop)->Prop
def yq (X:Cx) (t:sC):Prop :=
 ∀ (pins:List (Addr×Obj)) (s:Shared) (σ:St) (H:Hp) (o i v:V) (ov iv u:Value) (Q:Hp->Prop),Inv X pins σ H s->RelV o ov->RelV i iv->RelV v u->t o i v H Q ->
  wpAny (model X.prog X.w) X.A (setItem ov iv u) (λ_ s'=>∃ H',Inv X pins σ H' s'/\Q H') X.xe s
abbrev yo:=V->V->Hp->VK->Prop
def Gw (X:Cx) (op:Operator) (t:yo):Prop :=
 ∀ (pins:List (Addr×Obj)) (s:Shared) (σ:St) (H:Hp) (x y:V) (v u:Value) (Q:VK),Inv X pins σ H s->RelV x v->RelV y u->t x y H Q ->
  wpAny (model X.prog X.w) X.A (inplaceOp op v u) (EP X pins σ Q) X.xe s
section
variable {X:Cx} {pos:Pos}
def bW (i:Nat):TG:=λv σ H Q=>Q (σ.set i (some v)) H
theorem RG {i:Nat} {x:Str} (hN:X.N.Nodup) (hi:X.N[i]?=some x) (hx:Loc X.env.scope x) (hf:X.fn x=true\/X.env.scope.names.lookup x=some .local:=by first | exact .inl rfl | exact .inr rfl | assumption):PG X (.Name x pos) (bW i):=by
 intro pins s σ H v u Q I r h
 exact wpAny_assign_Name (ya I hN hi hx r (λs' I'=>⟨_,H,I',h⟩) hf)
def Dq:qB:=λvs σ H Q=>vs=[]/\Q σ H
def w9 (t:TG) (u:qB):qB:=λvs σ H Q=>∃ v r,vs=v :: r/\t v σ H λσ' H'=>u r σ' H' Q
theorem kK:yr X [] Dq:=by
 intro pins s σ H vs us Q I r h
 obtain ⟨e,h⟩:=h
 subst e
 cases r
 exact assignInOrder_nil ⟨σ,H,I,h⟩
theorem Zt {e:Expr} {es:List Expr} {t:TG} {u:qB} (h1:PG X e t) (h2:yr X es u)
  (hs:(assignEach (e :: es) X.env).map (·.2)=assign e X.env :: (assignEach es X.env).map (·.2):=by rfl):yr X (e :: es) (w9 t u):=by
 intro pins s σ H vs us Q I r h
 obtain ⟨v,vr,e1,h⟩:=h
 subst e1
 cases r with
 | cons r rr =>
  rw [hs]
  refine assignInOrder_cons (bH (h1 pins s σ H _ _ _ I r h) λ_ s1 ⟨σ1,H1,I1,q1⟩=>?_)
  exact h2 pins s1 σ1 H1 _ _ Q I1 rr q1
def w6 (K:W.Frag) (n:Nat) (t:qB):TG:=λv σ H Q=>∃ a xs,v=.ref a/\bG K H a xs/\xs.length=n/\t xs σ H Q
theorem RA {es:List Expr} {k:Nat} {t:qB} {n:Nat} (hc:X.calm=true) (h:yr X es t)
  (hn:(assignEach es X.env).length=n:=by rfl) (hst:(assignEach es X.env).findIdx? (·.1)=none:=by rfl):PG X (.Tuple es k pos) (w6 X.K n t):=by
 intro pins s σ H v u Q I r hw
 obtain ⟨a,xs,e1,hq,hl,hw⟩:=hw
 subst e1
 cases r
 obtain ⟨its,rv,ht,hz⟩:=I.tuple hq
 refine assign_Tuple_tuple (I.ok.hd hc) ht (by simp [hn,← hl,rv.length]) hst λh' hx=>?_
 have I1:Inv X pins σ H { s with heap:=h' }:=I.kept (t':=s.toks) λb o e=>hx b o (aOw (alE e)) e
 exact h pins _ σ H xs _ Q I1 (by simpa using rv) hw
def Dp (to ti:TE) (t:sC):TG:=λv σ H Q=>to σ H λo H1=>ti σ H1 λi H2=>t o i v H2 λH3=>Q σ H3
theorem tZ {o i:Expr} {to ti:TE} {t:sC} (ho:PE X o to) (hi:PE X i ti) (hs:yq X t)
  (ha:∀ v,assign (.Subscript o i pos) X.env v=(do
   let ov ← holding [v] (eval o X.env)
   let iv ← holding [v,ov] (eval i X.env)
   standAt pos
   holding [v,ov,iv] (setItem ov iv v)
   release [v,ov,iv] []):=by intro _; rfl):PG X (.Subscript o i pos) (Dp to ti t):=by
 intro pins s σ H v u Q I r h
 rw [ha]
 refine a6w (aBl (cT (ho pins s σ H _ I h) λov s1 x H1 I1 r1 q1=>?_))
 refine a6w (aBl (cT (hi pins s1 σ H1 _ I1 q1) λiv s2 y H2 I2 r2 q2=>?_))
 refine a6w (aMG (a6w (aBl (bH (hs pins s2 σ H2 x y v ov iv u _ I2 r1 r2 r q2) λ_ s3 ⟨H3,I3,q3⟩=>?_))))
 exact wpAny_release ⟨σ,H3,I3,q3⟩
def jG (te:TE) (g:TG):TS:=λD σ H=>te σ H λx H1=>g x σ H1 D.nx
theorem o7 {tg e:Expr} {te:TE} {g:TG} (he:PE X e te) (hg:PG X tg g) (hs:swapsWithSole [tg] e pos.line X.env=pure false:=by rfl) (hw:swappedStores [tg] e X.env=pure none:=by rfl)
  (h1:(assignEach [tg] X.env).map (·.2)=[assign tg X.env]:=by rfl):PS X (.Assign [tg] e pos) (jG te g):=by
 intro pins s σ H D I h
 refine wpAny_Assign_stores (cT (he pins s σ H _ I h) λv s1 x H1 I1 r1 q1=>?_) hs hw
 rw [h1]
 exact bH (hg pins s1 σ H1 x v _ I1 r1 q1) λ_ s2 q=>q
theorem Rz {i:Nat} {x:Str} {e:Expr} {te:TE} {pos':Pos} (hN:X.N.Nodup) (hi:X.N[i]?=some x) (hx:Loc X.env.scope x) (he:PE X e te) (hs:swapsWith e (some (.Name x pos')) pos.line X.env=pure false:=by rfl) (hf:X.fn x=true\/X.env.scope.names.lookup x=some .local:=by first | exact .inl rfl | exact .inr rfl | assumption) :
  PS X (.Assign [.Name x pos'] e pos) (jG te (bW i)):=by
 intro pins s σ H D I h
 refine wpAny_Assign_Name (cT (he pins s σ H _ I h) λv s1 y H1 I1 r1 q1=>?_) hs
 exact ya I1 hN hi hx r1 (λs2 I2=>⟨_,H1,I2,q1⟩) hf
def By (i j:Nat) (ta:TA):TS:=λD σ H=>ta σ H λvs H1=>∃ v w,vs=[v,w]/\D.nx ((σ.set i (some v)).set j (some w)) H1
theorem Ry {i j:Nat} {x y:Str} {a b:Expr} {ta:TA} {px py pt:Pos} {kt k2 Cu} (hc:X.calm=true) (hN:X.N.Nodup) (hi:X.N[i]?=some x) (hj:X.N[j]?=some y) (hij:i≠j)
  (hx:X.env.scope.names.lookup x=some .local) (hy:X.env.scope.names.lookup y=some .local) (ha:PA X [a,b] ta)
  (hw:swappedStores [.Tuple [.Name x px,.Name y py] kt pt] (.Tuple [a,b] k2 Cu) X.env=pure (some [x,y]))
  (hs:swapsWithSole [.Tuple [.Name x px,.Name y py] kt pt] (.Tuple [a,b] k2 Cu) pos.line X.env=pure false:=by rfl) :
  PS X (.Assign [.Tuple [.Name x px,.Name y py] kt pt] (.Tuple [a,b] k2 Cu) pos) (By i j ta):=by
 intro pins s σ H D I h
 rw [exec_Assign_arm]
 refine a6w (aMG ?_)
 rw [hs]
 refine a6w (adj ?_)
 rw [amU (by decide)]
 refine a6w (Tuple_ (kR (ha _ pins s σ H _ I h) λus s1 vs H1 I1 r1 q1=>?_))
 obtain ⟨v,w,e1,q1⟩:=q1
 subst e1
 obtain ⟨u1,u2,rfl,rv,rw'⟩:∃ u1 u2,us=[u1,u2]/\RelV v u1/\RelV w u2:=by
  cases r1 with
  | cons p q =>
   cases q with
   | cons p' q' =>
    cases q'
    exact ⟨_,_,rfl,p,p'⟩
 refine aa0 ?_ (by show 2<=sizeLine; decide)
 have I2:Inv X pins σ H1 { s1 with heap:=s1.heap.push { cls:=.type "tuple",data:=.seq [u1,u2].toArray } }:=I1.kept (t':=s1.toks) λb o e=>atD _ e
 rw [hw]
 refine a6w (adj ?_)
 show wpAny (model X.prog X.w) X.A (do rule "assign.swapped-stores"; let items ← unpackItems (.ref s1.heap.objs.size) 2 none; assignInOrder [λv=>bindName X.env y v,λv=>bindName X.env x v] items.reverse; pure Flow.next) _ _ _
 refine a6w (aei (a6w (unpackItems_tuple (items:=#[u1,u2]) (I.ok.hd hc) (IsTup.new s1.heap _) λh' hx'=>?_)))
 have I3:=I2.kept (h':=h') (t':=s1.toks) λb o e=>hx' b o (aOw (alE e)) e
 show wpAny _ _ (assignInOrder [λv=>bindName X.env y v,λv=>bindName X.env x v] [u2,u1] >>= λ_=>pure Flow.next) _ _ _
 refine a6w (assignInOrder_cons (wpAny_bindName (ya I3 hN hj (.inl hy) rw' (λs2 I4=>?_) (.inr hy))))
 refine assignInOrder_cons (wpAny_bindName (ya I4 hN hi (.inl hx) rv (λs3 I5=>assignInOrder_nil (adj ?_)) (.inr hx)))
 rw [List.set_comm _ _ (a38 hij)] at I5
 exact ⟨_,H1,I5,q1⟩
def BG (i:Nat) (te:TE) (ti:yo):TS:=λD σ H=>∃ x,σ[i]?=some (some x)/\te σ H λy H1=>ti x y H1 λz H2=>D.nx (σ.set i (some z)) H2
theorem Ei {i:Nat} {x:Str} {e:Expr} {te:TE} {op:Operator} {ti:yo} {pos':Pos} (hN:X.N.Nodup) (hi:X.N[i]?=some x) (hx:Loc X.env.scope x) (he:PE X e te) (ho:Gw X op ti) (hf:X.fn x=true\/X.env.scope.names.lookup x=some .local:=by first | exact .inl rfl | exact .inr rfl | assumption) :
  PS X (.AugAssign (.Name x pos') op e pos) (BG i te ti):=by
 intro pins s σ H D I h
 obtain ⟨v,e1,h⟩:=h
 obtain ⟨m,hn,hl⟩:=I.loc
 have vis:uE X.env.scope x:=by rcases hx with k | k; exact .inl k; exact .inr (.inl k)
 obtain ⟨u,r,l⟩:=hl i x v hi e1 vis
 refine wpAny_AugAssign_Name ?_
 have go:wpAny (model X.prog X.w) X.A (eval e X.env) (λw s₂=>wpAny (model X.prog X.w) X.A (inplaceOp op u w) (λr s₃=>wpAny (model X.prog X.w) X.A (storeName X.env x r) (λ_=>SP X pins D .next) X.xe s₃) X.xe s₂) X.xe s:=by
  refine cT (he pins s σ H _ I h) λw s1 y H1 I1 r1 q1=>?_
  refine cT (ho pins s1 σ H1 v y u w _ I1 r r1 q1) λz s2 zv H2 I2 r2 q2=>?_
  exact ya I2 hN hi hx r2 (λs3 I3=>⟨_,H2,I3,q2⟩) hf
 rcases l with ⟨hk,hm⟩ | ⟨hk,c,hc,hcell⟩
 .exact wpAny_loadName_local I.ok.kind hk hn hm go
 .rcases hk with hk | hk
  .exact wpAny_loadName_cell I.ok.kind hk hc hcell go
  .rcases hx with k | k
   .have:X.env.scope.names.lookup x=some .free:=hk
    rw [k] at this; cases this
   .have:X.env.scope.names.lookup x=some .free:=hk
    rw [k] at this; cases this
def OI (f:Int->Int->Int):yo:=λx y H Q=>∃ i j,x=.int i/\y=.int j/\Q (.int (f i j)) H
theorem Jp:Gw X .Add (OI λi j=>i+j):=by
 intro pins s σ H x y v u Q I r1 r2 h
 obtain ⟨i,j,e1,e2,q⟩:=h
 subst e1; subst e2
 obtain ⟨t,rfl⟩:=r1
 obtain ⟨t',rfl⟩:=r2
 exact iadd_int ⟨.int _,H,I.tok _,⟨_,rfl⟩,q⟩
end
section
variable {X:Cx} {pos:Pos}
def Rx (c:TT) (tb:TS):TS:=λD σ H=>∃ W:Nat->St->Hp->Prop,(∃ m,W m σ H)/\∀ m σ H,W m σ H ->
 c σ H λb H1=>if b=true then ∃ N:St->Hp->Prop,(∀ σ' H',N σ' H'->∃ m',m'<m/\W m' σ' H')/\tb { D with nx:=N,ct:=N,bk:=D.nx } σ H1 else D.nx σ H1
theorem Tf {c:Expr} {body:List Stmt} {tc:TT} {tb:TS} (hp:PassesOwn (model X.prog X.w) X.A X.env X.xe) (hc:PT X c tc) (hb:kL X body tb):PS X (.While c body [] pos) (Rx tc tb):=by
 intro pins s σ H D I h
 obtain ⟨W,⟨m0,w0⟩,turn⟩:=h
 refine wpAny_While (codeAny_whileLoop (λn s'=>∃ σ' H',Inv X pins σ' H' s'/\W n σ' H') ?_ m0 ⟨σ,H,I,w0⟩)
 rintro n s1 ⟨σ1,H1,I1,w1⟩
 refine a76 hp (bH (hc pins s1 σ1 H1 _ I1 (turn n σ1 H1 w1)) λb s2 ⟨H2,I2,q2⟩=>?_)
 cases b with
 | true =>
  obtain ⟨N,hN,q2⟩:=q2
  rw [atn rfl]
  refine a76 hp (bH (hb pins s2 σ1 H2 _ I2 q2) λf s3 q3=>?_)
  cases f with
  | next =>
   obtain ⟨σ3,H3,I3,n3⟩:=q3
   obtain ⟨m',hm,w3⟩:=hN σ3 H3 n3
   exact ⟨m',hm,σ3,H3,I3,w3⟩
  | cont =>
   obtain ⟨σ3,H3,I3,n3⟩:=q3
   obtain ⟨m',hm,w3⟩:=hN σ3 H3 n3
   exact ⟨m',hm,σ3,H3,I3,w3⟩
  | brk=>exact q3
  | ret v=>exact q3
 | false =>
  rw [amU aPi]
  exact wpAny_execs_nil ⟨σ1,H2,I2,q2⟩
end
structure It where
 go:Nat->Hp->Prop
 jB:Nat->Hp->V->Hp->Prop
 stop:Nat->Hp->Prop
def gA (X:Cx) (pins:List (Addr×Obj)) (H:Hp) (b:Addr):Prop :=
 H b=none/\b≠X.env.locals/\b∉X.fs/\(b∈X.ex\/X.s₀.heap.objs.size<=b)/\(∀ x c,X.env.cells.lookup x=some c->c≠b)/\∀ p∈X.pn++pins,p.1≠b
theorem Inv.iT {X:Cx} {pins:List (Addr×Obj)} {σ:St} {H H':Hp} {s:Shared} {b:Addr} (I:Inv X pins σ H s) (hb:s.heap.objs.size<=b) (hn:H' b=none):gA X pins H' b:=by
 refine ⟨hn,aky (ajX I.lt hb),I.vX hb,.inr (ay9 I.sz hb),λx c e z=>?_,λp hp z=>?_⟩
 .obtain ⟨v,q⟩:=I.cell x c e
  exact absurd (ajX q.lt (by rw [z]; exact hb)) (af9 _)
 .exact absurd (ajX (alE (I.pin p hp).1) (by rw [z]; exact hb)) (af9 _)
structure Turn (P:Program) (w:World) (K:W.Frag) (tg:Expr) (J:It) (fp:List Addr) (it:Addr) (tn:Nat->Heap->Prop):Prop where
 mem:it∈fp
 obj:∀ i h,tn i h->∀ b∈fp,∃ o,h.get? b=some o/\∀ v,o.data≠.cell v
 keep:∀ i h h',tn i h->(∀ b∈fp,∀ o,h.get? b=some o->h'.get? b=some o)->tn i h'
 item:∀ (X:Cx),X.prog=P->X.w=w->X.K=K->X.calm=true->∀ (i:Nat) (pins:List (Addr×Obj)) (s:Shared) (σ:St) (H:Hp) (E:Value->Shared->Prop),Inv X pins σ H s->(∀ b∈fp,gA X pins H b)->tn i s.heap->J.go i H ->
  wpAny (model P w) X.A (pyNext (.ref it)) (λr s1=>∃ u,r=some u /\
   wpAny (model P w) X.A (letOwnedTupleGo tg (.ref it) u) (λ_ s2=>∃ x H',Inv X pins σ H' s2/\RelV x u/\J.jB i H x H'/\tn (i+1) s2.heap/\∀ b∈fp,H' b=none) E s1) E s
 done:∀ (X:Cx),X.prog=P->X.w=w->X.K=K->X.calm=true->∀ (i:Nat) (pins:List (Addr×Obj)) (s:Shared) (σ:St) (H:Hp) (E:Value->Shared->Prop),Inv X pins σ H s->(∀ b∈fp,gA X pins H b)->tn i s.heap->J.stop i H ->
  wpAny (model P w) X.A (pyNext (.ref it)) (λr s1=>r=none/\Inv X pins σ H s1) E s
 self:∀ (A:Around) (i:Nat) (s:Shared) (Q:Value->Shared->Prop) (E:Value->Shared->Prop),tn i s.heap->Q (.ref it) s->wpAny (model P w) A (pyIter (.ref it)) Q E s
abbrev TI:=St->Hp->(It->Hp->Prop)->Prop
def Gx (X:Cx) (pins:List (Addr×Obj)) (σ:St) (tg:Expr) (R:It->Hp->Prop) (itv:Value) (s2:Shared):Prop :=
 ∃ (it:Addr) (fp:List Addr) (tn:Nat->Heap->Prop) (J:It) (H':Hp),itv=.ref it/\Inv X pins σ H' s2/\Turn X.prog X.w X.K tg J fp it tn/\tn 0 s2.heap/\(∀ b∈fp,gA X pins H' b)/\R J H'
def PI (X:Cx) (tg iter:Expr) (wi:TI):Prop :=
 ∀ (pins:List (Addr×Obj)) (s:Shared) (σ:St) (H:Hp) (R:It->Hp->Prop),Inv X pins σ H s->wi σ H R ->
  wpAny (model X.prog X.w) X.A (eval iter X.env) (λv s1=>wpAny (model X.prog X.w) X.A (pyIter v) (Gx X pins σ tg R) X.xe s1) X.xe s
theorem kE {M:Model} {A:Around} {E:Value->Shared->Prop} {s:Shared} {tg:Expr} {it:Addr} {u:Value} {o:Obj} {n:String} {vs:Array Value} {Q:Unit->Shared->Prop} (ho:s.heap.get? it=some o) (hc:o.cls=.type n) (hd:o.data=.fields vs)
  (hn:["enumerate", "zip", "dict_itemiterator", "dict_reverseitemiterator", "odict_iterator", "itertools.zip_longest", "itertools.pairwise"].contains n=false) (hQ:Q () s):wpAny M A (letOwnedTupleGo tg (.ref it) u) Q E s:=by
 unfold letOwnedTupleGo
 cases tg <;> first
  | exact adj hQ
  | (cases u <;> first
    | exact adj hQ
    | (refine a6w (wpAny_load ho ?_)
       rw [hc,hd]
       show wpAny M A (if (["enumerate", "zip", "dict_itemiterator", "dict_reverseitemiterator", "odict_iterator", "itertools.zip_longest", "itertools.pairwise"].contains n && vs[0]? == some (rawInt _))=true then _ else _) Q E s
       rw [amU (by intro h; rw [hn,aYE] at h; cases h)]
       exact adj hQ))
def qF (K:W.Frag) (a:Addr):It :=
 ⟨λi H=>∃ xs x,ak K H a xs/\xs[i]?=some x,λi H x H'=>H'=H/\∀ xs,ak K H a xs->xs[i]?=some x,λi H=>∃ xs,ak K H a xs/\xs.length<=i⟩
def yw (K:W.Frag) (a:Addr):It :=
 ⟨λi H=>∃ xs x,bG K H a xs/\xs[i]?=some x,λi H x H'=>H'=H/\∀ xs,bG K H a xs->xs[i]?=some x,λi H=>∃ xs,bG K H a xs/\xs.length<=i⟩
def pG (lo:Int) (n:Nat):It:=⟨λi _=>i<n,λi H x H'=>H'=H/\x=.int (lo+i),λi _=>n<=i⟩
theorem Vo {P:Program} {w:World} {K:W.Frag} {tg:Expr} (a it:Addr):Turn P w K tg (qF K a) [it] it (λi h=>h.IsListIter it a i) where
 mem:=by simp
 obj:=λi h st b hb=>by
  have e:b=it:=by simpa using hb
  subst e
  obtain ⟨o,e,c,d⟩:=st
  exact ⟨o,e,λv z=>by rw [d] at z; cases z⟩
 keep:=λi h h' st k=>st.at λo e=>k it (by simp) o e
 item:=by
  intro X hP hw hK hc i pins s σ H E I hf st hg
  subst hP hw hK
  obtain ⟨xs,x,hq,hx⟩:=hg
  obtain ⟨its,rv,p,hz⟩:=I.list hq
  obtain ⟨u,hu,ru⟩:=rv.get hx
  obtain ⟨f0,f1,f2,f3,f4,f5⟩:=hf it (by simp)
  refine wpAny_pyNext_list_item st p.isList (x:=u) (by simpa using hu) λh' st' sb=>?_
  have I1:Inv X pins σ H { s with heap:=h' }:=I.turned (t':=s.toks) (λb o hb e=>(sb.2 b hb).trans e) f0 f1 f3 f4 f5
  obtain ⟨o,e,c,d⟩:=id st'
  exact ⟨u,rfl,kE (s:={ s with heap:=h' }) e c d (by decide) ⟨x,H,I1,ru,⟨rfl,λys hy=>by rw [I.fq hy hq]; exact hx⟩,st',λb hb=>(hf b hb).1⟩⟩
 done:=by
  intro X hP hw hK hc i pins s σ H E I hf st hg
  subst hP hw hK
  obtain ⟨xs,hq,hx⟩:=hg
  obtain ⟨its,rv,p,hz⟩:=I.list hq
  obtain ⟨f0,f1,f2,f3,f4,f5⟩:=hf it (by simp)
  have hl:=rv.length
  exact wpAny_pyNext_list_end (I.ok.hd hc) st p.isList (by simp; lia) λh' eb=>⟨rfl,I.turned (t':=s.toks) (λb o hb e=>eb b o hb e) f0 f1 f3 f4 f5⟩
 self:=λ_ _ _ _ _ st h=>wpAny_pyIter_listiter st h
theorem Vi {P:Program} {w:World} {K:W.Frag} {tg:Expr} (a it:Addr):Turn P w K tg (yw K a) [it] it (λi h=>h.IsTupleIter it a i) where
 mem:=by simp
 obj:=λi h st b hb=>by
  have e:b=it:=by simpa using hb
  subst e
  obtain ⟨o,e,c,d⟩:=st
  exact ⟨o,e,λv z=>by rw [d] at z; cases z⟩
 keep:=λi h h' st k=>st.at λo e=>k it (by simp) o e
 item:=by
  intro X hP hw hK hc i pins s σ H E I hf st hg
  subst hP hw hK
  obtain ⟨xs,x,hq,hx⟩:=hg
  obtain ⟨its,rv,p,hz⟩:=I.tuple hq
  obtain ⟨u,hu,ru⟩:=rv.get hx
  obtain ⟨f0,f1,f2,f3,f4,f5⟩:=hf it (by simp)
  refine wpAny_pyNext_tuple_item st (show s.heap.IsTuple a its.toArray from p) (x:=u) (by simpa using hu) λh' st' sb=>?_
  have I1:Inv X pins σ H { s with heap:=h' }:=I.turned (t':=s.toks) (λb o hb e=>(sb.2 b hb).trans e) f0 f1 f3 f4 f5
  obtain ⟨o,e,c,d⟩:=id st'
  exact ⟨u,rfl,kE (s:={ s with heap:=h' }) e c d (by decide) ⟨x,H,I1,ru,⟨rfl,λys hy=>by rw [I.fJ hy hq]; exact hx⟩,st',λb hb=>(hf b hb).1⟩⟩
 done:=by
  intro X hP hw hK hc i pins s σ H E I hf st hg
  subst hP hw hK
  obtain ⟨xs,hq,hx⟩:=hg
  obtain ⟨its,rv,p,hz⟩:=I.tuple hq
  obtain ⟨f0,f1,f2,f3,f4,f5⟩:=hf it (by simp)
  have hl:=rv.length
  exact wpAny_pyNext_tuple_end (I.ok.hd hc) st (show s.heap.IsTuple a its.toArray from p) (by simp; lia) λh' eb=>⟨rfl,I.turned (t':=s.toks) (λb o hb e=>eb b o hb e) f0 f1 f3 f4 f5⟩
 self:=λ_ _ _ _ _ st h=>wpAny_pyIter_tupleiter st h
theorem Vh {P:Program} {w:World} {K:W.Frag} {tg:Expr} (it:Addr) (lo:Int) (n:Nat):Turn P w K tg (pG lo n) [it] it (λi h=>IsRangeIter h it (lo+(i:Nat) * 1) ((n:Int) - (i:Nat)) 1) where
 mem:=by simp
 obj:=λi h st b hb=>by
  have e:b=it:=by simpa using hb
  subst e
  exact ⟨_,st,λv z=>by
   have z':Data.fields _=Data.cell v:=z
   cases z'⟩
 keep:=λi h h' st k=>k it (by simp) _ st
 item:=by
  intro X hP hw hK hc i pins s σ H E I hf st hg
  subst hP hw hK
  obtain ⟨f0,f1,f2,f3,f4,f5⟩:=hf it (by simp)
  have W:=Walks.range (prog:=X.prog) (w:=X.w) (I.ok.hd hc) it lo 1 n
  refine W.item i s _ _ hg st λv h' tk hv st' kk=>?_
  obtain ⟨t,rfl⟩:=hv
  have I1:Inv X pins σ H { s with heap:=h',toks:=tk }:=I.turned (λb o hb e=>kk b o (by simpa using hb) e) f0 f1 f3 f4 f5
  refine ⟨_,rfl,kE (s:={ s with heap:=h',toks:=tk }) (n := "range_iterator") st' rfl rfl (by decide) ⟨.int (lo+i),H,I1,⟨t,?_⟩,⟨rfl,rfl⟩,st',λb hb=>(hf b hb).1⟩⟩
  rw [Int.mul_one]
 done:=by
  intro X hP hw hK hc i pins s σ H E I hf st hg
  subst hP hw hK
  obtain ⟨f0,f1,f2,f3,f4,f5⟩:=hf it (by simp)
  exact wpAny_pyNext_range_end (I.ok.hd hc) st (by have:n<=i:=hg; lia) λh' eb=>⟨rfl,I.turned (t':=s.toks) (λb o hb e=>eb b o hb e) f0 f1 f3 f4 f5⟩
 self:=λ_ _ _ _ _ st h=>wpAny_pyIter_rangeiter st h
section
variable {X:Cx} {tg:Expr}
def qf (K:W.Frag) (tl:TE):TI:=λσ H R=>tl σ H λx H1=>∃ a,x=.ref a/\(∃ xs,ak K H1 a xs)/\R (qF K a) H1
def wF (K:W.Frag) (tl:TE):TI:=λσ H R=>tl σ H λx H1=>∃ a,x=.ref a/\(∃ xs,bG K H1 a xs)/\R (yw K a) H1
theorem RE {l:Expr} {tl:TE} (hl:PE X l tl):PI X tg l (qf X.K tl):=by
 intro pins s σ H R I h
 refine cT (hl pins s σ H _ I h) λv s1 x H1 I1 r1 q1=>?_
 obtain ⟨a,e,⟨xs,hq⟩,q⟩:=q1
 subst e
 cases r1
 obtain ⟨its,rv,p,hz⟩:=I1.list hq
 refine abu p.isList ?_
 refine ⟨s1.heap.objs.size,[s1.heap.objs.size],_,_,H1,rfl,I1.kept (t':=s1.toks) λb o e=>atD _ e,Vo a _,⟨_,aMS _ rfl,rfl,rfl⟩,λb hb=>?_,q⟩
 have e:b=s1.heap.objs.size:=by simpa using hb
 subst e
 exact I1.iT (aNS _) (I1.hok.fresh (aNS _))
theorem Rw {l:Expr} {tl:TE} (hl:PE X l tl):PI X tg l (wF X.K tl):=by
 intro pins s σ H R I h
 refine cT (hl pins s σ H _ I h) λv s1 x H1 I1 r1 q1=>?_
 obtain ⟨a,e,⟨xs,hq⟩,q⟩:=q1
 subst e
 cases r1
 obtain ⟨its,rv,p,hz⟩:=I1.tuple hq
 refine wpAny_pyIter_tuple (show s1.heap.IsTuple a its.toArray from p) ?_
 refine ⟨s1.heap.objs.size,[s1.heap.objs.size],_,_,H1,rfl,I1.kept (t':=s1.toks) λb o e=>atD _ e,Vi a _,⟨_,aMS _ rfl,rfl,rfl⟩,λb hb=>?_,q⟩
 have e:b=s1.heap.objs.size:=by simpa using hb
 subst e
 exact I1.iT (aNS _) (I1.hok.fresh (aNS _))
theorem Te {pins:List (Addr×Obj)} {σ:St} {H:Hp} {s:Shared} {R:It->Hp->Prop} {E:Value->Shared->Prop} {lo hi:Int} {t u v:Tok} {tk:Nat} (I:Inv X pins σ H s) (h1 : -(2 ^ 62)<=lo) (h2:lo<2 ^ 62) (h3 : -(2 ^ 62)<=hi) (h4:hi<2 ^ 62)
  (q:R (pG lo (hi - lo).toNat) H):wpAny (model X.prog X.w) X.A (pyIter (.ref s.heap.objs.size)) (Gx X pins σ tg R) E { s with heap:=s.heap.push { cls:=.type "range",data:=.fields #[.int lo t,.int hi u,.int 1 v] },toks:=tk }:=by
 refine wpAny_pyIter_range (IsRange.new ..) (small_one h1 h2 h3 h4) ?_
 have I1:Inv X pins σ H { s with heap:=s.heap.push { cls:=.type "range",data:=.fields #[.int lo t,.int hi u,.int 1 v] },toks:=tk }:=I.kept λb o e=>atD _ e
 refine ⟨(s.heap.push { cls:=.type "range",data:=.fields #[.int lo t,.int hi u,.int 1 v] }).objs.size,[(s.heap.push { cls:=.type "range",data:=.fields #[.int lo t,.int hi u,.int 1 v] }).objs.size],_,_,H,rfl,
  I1.kept (t':=tk) λb o e=>atD _ e,Vh _ lo (hi - lo).toNat,?_,λb hb=>?_,q⟩
 .have e1:lo+((0:Nat):Int) * 1=lo:=by simp
  have e2:(((hi - lo).toNat:Nat):Int) - ((0:Nat):Int)=Builtin.Range.rangeSize lo hi 1:=by rw [rangeSize_one]; split <;> lia
  show IsRangeIter _ _ (lo+((0:Nat):Int) * 1) ((((hi - lo).toNat:Nat):Int) - ((0:Nat):Int)) 1
  rw [e1,e2]
  exact aMS _ rfl
 .have e:b=(s.heap.push { cls:=.type "range",data:=.fields #[.int lo t,.int hi u,.int 1 v] }).objs.size:=by simpa using hb
  subst e
  exact I1.iT (aNS _) (I1.hok.fresh (aNS _))
def wH (ta:TA):TI:=λσ H R=>ta σ H λvs H1=>∃ j:Int,vs=[.int j] /\ -(2 ^ 62)<=j/\j<2 ^ 62/\R (pG 0 j.toNat) H1
theorem pq {a:Expr} {ta:TA} {p pos:Pos} (hg:Gl X "range") (hm:X.mg "range" = none) (ha:PA X [a] ta) (hs:starEach [a] X.env=[(false,eval a X.env)]:=by rfl):PI X tg (.Call (.Name "range" p) [a] [] pos) (wH ta):=by
 intro pins s σ H R I h
 refine Call_ (oh I hg hm boot_range (aCw (kR (ha pos pins s σ H _ I h) λus s1 vs H1 I1 r1 q1=>?_) hs rfl))
 obtain ⟨j,e,q1,q2,q⟩:=q1
 subst e
 cases r1 with
 | cons r rr =>
  cases rr
  obtain ⟨t,rfl⟩:=r
  exact call_range_1 (Te I1 (by lia) (by lia) q1 q2 (by simpa using q))
def BD (wi:TI) (g:TG) (tb:TS):TS:=λD σ H=>wi σ H λJ H1=>∃ W:Nat->Nat->St->Hp->Prop,(∃ m,W 0 m σ H1)/\∀ i m σ H,W i m σ H ->
 (J.stop i H/\D.nx σ H)\/(J.go i H/\∃ N:St->Hp->Prop,(∀ σ' H',N σ' H'->∃ m',m'<m/\W (i+1) m' σ' H')/\∀ x H',J.jB i H x H'->g x σ H' λσ2 H2=>tb { D with nx:=N,ct:=N,bk:=D.nx } σ2 H2)
def xH (fp:List Addr) (h:Heap):List (Addr×Obj):=fp.filterMap λb=>(h.get? b).map λo=>(b,o)
theorem AO {fp:List Addr} {h:Heap} {b:Addr} {o:Obj} (hb:b∈fp) (e:h.get? b=some o):(b,o)∈xH fp h:=List.mem_filterMap.mpr ⟨b,hb,by rw [e]; rfl⟩
theorem Vn {fp:List Addr} {h:Heap} {p:Addr×Obj} (hp:p∈xH fp h):p.1∈fp/\h.get? p.1=some p.2:=by
 obtain ⟨b,hb,e⟩:=List.mem_filterMap.mp hp
 cases q:h.get? b with
 | none=>rw [q] at e; cases e
 | some o =>
  rw [q] at e
  have e':(b,o)=p:=ado e
  subst e'
  exact ⟨hb,q⟩
theorem Inv.pinned {pins:List (Addr×Obj)} {σ:St} {H:Hp} {s:Shared} {fp:List Addr} (I:Inv X pins σ H s) (hf:∀ b∈fp,gA X pins H b) (ho:∀ b∈fp,∃ o,s.heap.get? b=some o/\∀ v,o.data≠.cell v):Inv X (pins++xH fp s.heap) σ H s :=
 I.kq λp hp=>(aJX.mp hp).elim (λz=>I.pin p (ap3 _ z)) λz=>by
  obtain ⟨hb,e⟩:=Vn z
  obtain ⟨f0,f1,f2,_⟩:=hf p.1 hb
  obtain ⟨o,e',d⟩:=ho p.1 hb
  rw [e] at e'; cases e'
  exact ⟨e,f0,f1,f2,d⟩
theorem Inv.eY {pins pl:List (Addr×Obj)} {σ:St} {H:Hp} {s:Shared} (I:Inv X (pins++pl) σ H s):Inv X pins σ H s:=I.kq λp hp=>I.pin p (ap3 _ (aCj _ hp))
theorem lS {iter:Expr} {body:List Stmt} {wi:TI} {g:TG} {tb:TS} {pos:Pos} (hp:PassesOwn (model X.prog X.w) X.A X.env X.xe) (hc:X.calm=true) (hi:PI X tg iter wi) (hg:PG X tg g) (hb:kL X body tb)
  (hs:∀ x,foldedSetIterable iter X.env x=pure x:=by intro _; rfl):PS X (.For tg iter body [] pos) (BD wi g tb):=by
 intro pins s σ H D I h
 refine wpAny_For (bH (hi pins s σ H _ I h) λv s1 h1=>bH h1 λitv s2 h2=>?_) hs
 obtain ⟨it,fp,tn,J,H2,e,I2,T,st2,f2,W,⟨m0,w0⟩,turn⟩:=h2
 subst e
 have jH:∀ {H':Hp},(∀ b∈fp,H' b=none)->∀ b∈fp,gA X pins H' b:=λhn b hb=>⟨hn b hb,(f2 b hb).2⟩
 refine codeAny_forLoop_any (λn s'=>∃ i σ' H',Inv X pins σ' H' s'/\tn i s'.heap/\(∀ b∈fp,H' b=none)/\W i n σ' H') ?_ m0 ⟨0,σ,H2,I2,st2,λb hb=>(f2 b hb).1,w0⟩
 rintro n s3 ⟨i,σ3,H3,I3,st3,tM,w3⟩
 rcases turn i n σ3 H3 w3 with ⟨stop,qn⟩ | ⟨go,N,hN,step⟩
 .refine a76 hp (bH (T.done X rfl rfl rfl hc i pins s3 σ3 H3 X.xe I3 (jH tM) st3 stop) λr s4 ⟨hr,I4⟩=>?_)
  subst hr
  exact wpAny_execs_nil ⟨σ3,H3,I4,qn⟩
 .refine a76 hp (bH (T.item X rfl rfl rfl hc i pins s3 σ3 H3 X.xe I3 (jH tM) st3 go) λr s4 ⟨u,hr,h4⟩=>?_)
  subst hr
  refine a76 hp (bH h4 λ_ s5 ⟨x,H5,I5,r5,y5,oE,zG⟩=>?_)
  have WD:=I5.pinned (jH zG) (T.obj _ _ oE)
  refine a76 hp (bH (hg _ s5 σ3 H5 x u _ WD r5 (step x H5 y5)) λ_ s6 ⟨σ6,H6,I6,q6⟩=>?_)
  refine a76 hp (bH (hb _ s6 σ6 H6 _ I6 q6) λf s7 q7=>?_)
  have again:∀ {σ7:St} {H7:Hp},Inv X (pins++xH fp s5.heap) σ7 H7 s7->N σ7 H7->∃ m,m<n/\∃ i σ' H',Inv X pins σ' H' s7/\tn i s7.heap/\(∀ b∈fp,H' b=none)/\W i m σ' H':=λ{σ7 H7} I7 n7=>by
   obtain ⟨m',hm,w7⟩:=hN σ7 H7 n7
   refine ⟨m',hm,i+1,σ7,H7,I7.eY,T.keep _ _ _ oE λb hb o e=>(I7.pin (b,o) (ap3 _ (ap3 _ (AO hb e)))).1,λb hb=>?_,w7⟩
   obtain ⟨o,e,d⟩:=T.obj _ _ oE b hb
   exact (I7.pin (b,o) (ap3 _ (ap3 _ (AO hb e)))).2.1
  cases f with
  | next=>obtain ⟨σ7,H7,I7,n7⟩:=q7; exact again I7 n7
  | cont=>obtain ⟨σ7,H7,I7,n7⟩:=q7; exact again I7 n7
  | brk=>obtain ⟨σ7,H7,I7,q7⟩:=q7; exact ⟨σ7,H7,I7.eY,q7⟩
  | ret v=>obtain ⟨x7,σ7,H7,I7,r7,q7⟩:=q7; exact ⟨x7,σ7,H7,I7.eY,r7,q7⟩
end
theorem Td {K:W.Frag} {a:Addr} {xs:List V} {g:TG} {tb:TS} {D:Ends} {σ:St} {H:Hp} (Pv:Nat->St->Hp->Prop) (h0:Pv 0 σ H) (hl:∀ i σ H,i<=xs.length->Pv i σ H->ak K H a xs)
  (hs:∀ i x σ H,xs[i]?=some x->Pv i σ H->g x σ H λσ2 H2=>tb { D with nx:=Pv (i+1),ct:=Pv (i+1),bk:=D.nx } σ2 H2) (hd:∀ σ H,Pv xs.length σ H->D.nx σ H) :
  ∃ W:Nat->Nat->St->Hp->Prop,(∃ m,W 0 m σ H)/\∀ i m σ H,W i m σ H ->
   ((qF K a).stop i H/\D.nx σ H)\/((qF K a).go i H/\∃ N:St->Hp->Prop,(∀ σ' H',N σ' H'->∃ m',m'<m/\W (i+1) m' σ' H')/\∀ x H',(qF K a).jB i H x H'->g x σ H' λσ2 H2=>tb { D with nx:=N,ct:=N,bk:=D.nx } σ2 H2):=by
 refine ⟨λi m σ H=>m=xs.length - i/\i<=xs.length/\Pv i σ H,⟨xs.length,by simp,aze _,h0⟩,?_⟩
 rintro i m σ H ⟨rfl,hi,p⟩
 have q:=hl i σ H hi p
 by_cases hlt:i<xs.length
 .refine .inr ⟨⟨xs,xs[i],q,by simp [hlt]⟩,Pv (i+1),λσ' H' p'=>⟨xs.length - (i+1),by lia,rfl,hlt,p'⟩,λx H' y=>?_⟩
  obtain ⟨e,y⟩:=y
  subst e
  exact hs i x σ _ (y xs q) p
 .have e:i=xs.length:=by lia
  subst e
  exact .inl ⟨⟨xs,q,aNS _⟩,hd σ H p⟩
theorem Fx {lo:Int} {n:Nat} {g:TG} {tb:TS} {D:Ends} {σ:St} {H:Hp} (Pv:Nat->St->Hp->Prop) (h0:Pv 0 σ H)
  (hs:∀ i σ H,i<n->Pv i σ H->g (.int (lo+i)) σ H λσ2 H2=>tb { D with nx:=Pv (i+1),ct:=Pv (i+1),bk:=D.nx } σ2 H2) (hd:∀ σ H,Pv n σ H->D.nx σ H) :
  ∃ W:Nat->Nat->St->Hp->Prop,(∃ m,W 0 m σ H)/\∀ i m σ H,W i m σ H ->
   ((pG lo n).stop i H/\D.nx σ H)\/((pG lo n).go i H/\∃ N:St->Hp->Prop,(∀ σ' H',N σ' H'->∃ m',m'<m/\W (i+1) m' σ' H')/\∀ x H',(pG lo n).jB i H x H'->g x σ H' λσ2 H2=>tb { D with nx:=N,ct:=N,bk:=D.nx } σ2 H2):=by
 refine ⟨λi m σ H=>m=n - i/\i<=n/\Pv i σ H,⟨n,by simp,aze _,h0⟩,?_⟩
 rintro i m σ H ⟨rfl,hi,p⟩
 by_cases hlt:i<n
 .refine .inr ⟨hlt,Pv (i+1),λσ' H' p'=>⟨n - (i+1),by lia,rfl,hlt,p'⟩,λx H' y=>?_⟩
  obtain ⟨e,y⟩:=y
  subst e y
  exact hs i σ _ hlt p
 .have e:i=n:=by lia
  subst e
  exact .inl ⟨aNS _,hd σ H p⟩
abbrev R2:=V->V->Hp->VK->Prop
def gz (X:Cx) (f:Value->Value->Sem Value) (r:R2):Prop :=
 ∀ (pins:List (Addr×Obj)) (s:Shared) (σ:St) (H:Hp) (x y:V) (v u:Value) (Q:VK),Inv X pins σ H s->RelV x v->RelV y u->r x y H Q ->
  wpAny (model X.prog X.w) X.A (f v u) (EP X pins σ Q) X.xe s
def Gr (X:Cx) (f:Value->Sem Value) (r:V->Hp->VK->Prop):Prop :=
 ∀ (pins:List (Addr×Obj)) (s:Shared) (σ:St) (H:Hp) (x:V) (v:Value) (Q:VK),Inv X pins σ H s->RelV x v->r x H Q ->
  wpAny (model X.prog X.w) X.A (f v) (EP X pins σ Q) X.xe s
def aU (X:Cx) (f:Value) (r:List V->Hp->VK->Prop):Prop :=
 ∀ (pins:List (Addr×Obj)) (s:Shared) (σ:St) (H:Hp) (xs:List V) (us:List Value) (Q:VK),Inv X pins σ H s->Vals xs us->r xs H Q ->
  wpAny (model X.prog X.w) X.A (call f us) (EP X pins σ Q) X.xe s
def Gs (X:Cx) (r:V->Hp->(Bool->Hp->Prop)->Prop):Prop :=
 ∀ (pins:List (Addr×Obj)) (s:Shared) (σ:St) (H:Hp) (x:V) (v:Value) (Q:Bool->Hp->Prop),Inv X pins σ H s->RelV x v->r x H Q ->
  wpAny (model X.prog X.w) X.A (truthy v) (TP X pins σ Q) X.xe s
def yQ (r:R2) (ta tb:TE):TE:=λσ H Q=>ta σ H λx H1=>tb σ H1 λy H2=>r x y H2 Q
def Ng (r:V->Hp->VK->Prop) (ta:TE):TE:=λσ H Q=>ta σ H λx H1=>r x H1 Q
def rI (C:Int->Int->Prop) (g:Int->Int->V):R2:=λx y H Q=>∃ i j,x=.int i/\y=.int j/\C i j/\Q (g i j) H
def pZ (g:Int->Int->V):R2:=λx y H Q=>∃ i j,x=.int i/\y=.int j/\Q (g i j) H
def rU (g:Int->V):V->Hp->VK->Prop:=λx H Q=>∃ i,x=.int i/\Q (g i) H
section
variable {X:Cx} {a b c:Expr} {ta tb tc:TE} {pos:Pos}
theorem rT (ha:PE X a ta) (hb:PE X b tb) {pins:List (Addr×Obj)} {s:Shared} {σ:St} {H:Hp} {R:V->V->Hp->Prop} (I:Inv X pins σ H s)
  (h:ta σ H λx H1=>tb σ H1 λy H2=>R x y H2) {Q:Value->Shared->Prop} {f:Value->Value->Sem Value}
  (hf:∀ v u s2 x y H2,Inv X pins σ H2 s2->RelV x v->RelV y u->R x y H2->wpAny (model X.prog X.w) X.A (f v u) Q X.xe s2) :
  wpAny (model X.prog X.w) X.A (eval a X.env) (λv s₁=>wpAny (model X.prog X.w) X.A (eval b X.env) (λu s₂=>wpAny (model X.prog X.w) X.A (f v u) Q X.xe s₂) X.xe s₁) X.xe s:=by
 refine cT (ha pins s σ H _ I h) λv s1 x H1 I1 r1 q1=>?_
 refine cT (hb pins s1 σ H1 _ I1 q1) λu s2 y H2 I2 r2 q2=>?_
 exact hf v u s2 x y H2 I2 r1 r2 q2
theorem aa {op:Operator} {r:R2} (ho:gz X (binaryOp op) r) (ha:PE X a ta) (hb:PE X b tb):PE X (.BinOp a op b pos) (yQ r ta tb):=by
 intro pins s σ H Q I h
 exact wpAny_BinOp (rT ha hb I h λv u s2 x y H2 I2 rx ry q=>ho pins s2 σ H2 x y v u Q I2 rx ry q)
theorem cG {op:UnaryOp} {r:V->Hp->VK->Prop} (ho:Gr X (unaryOp op) r) (ha:PE X a ta):PE X (.UnaryOp op a pos) (Ng r ta):=by
 intro pins s σ H Q I h
 exact UnaryOp_ (cT (ha pins s σ H _ I h) λv s1 x H1 I1 r1 q1=>ho pins s1 σ H1 x v Q I1 r1 q1)
theorem ze {f:Value->Value->Sem Value} {C:Int->Int->Prop} {g:Int->Int->Int}
  (rule:∀ (i j:Int) (t u:Tok) (s:Shared) (Q:Value->Shared->Prop) (E:Value->Shared->Prop),C i j->Q (.int (g i j) s.toks) { s with toks:=s.toks+1 }->wpAny (model X.prog X.w) X.A (f (.int i t) (.int j u)) Q E s) :
  gz X f (rI C λi j=>.int (g i j)):=by
 intro pins s σ H x y v u Q I rx ry h
 obtain ⟨i,j,rfl,rfl,hc,q⟩:=h
 obtain ⟨t,rfl⟩:=rx
 obtain ⟨t',rfl⟩:=ry
 exact rule i j t t' s _ _ hc ⟨.int (g i j),H,I.tok _,⟨_,rfl⟩,q⟩
theorem vS {f:Value->Value->Sem Value} {g:Int->Int->Int}
  (rule:∀ (i j:Int) (t u:Tok) (s:Shared) (Q:Value->Shared->Prop) (E:Value->Shared->Prop),Q (.int (g i j) s.toks) { s with toks:=s.toks+1 }->wpAny (model X.prog X.w) X.A (f (.int i t) (.int j u)) Q E s) :
  gz X f (pZ λi j=>.int (g i j)):=by
 intro pins s σ H x y v u Q I rx ry h
 obtain ⟨i,j,rfl,rfl,q⟩:=h
 obtain ⟨t,rfl⟩:=rx
 obtain ⟨t',rfl⟩:=ry
 exact rule i j t t' s _ _ ⟨.int (g i j),H,I.tok _,⟨_,rfl⟩,q⟩
theorem oH {f:Value->Value->Sem Value} {g:Int->Int->Bool}
  (rule:∀ (i j:Int) (t u:Tok) (s:Shared) (Q:Value->Shared->Prop) (E:Value->Shared->Prop),Q (.bool (g i j)) s->wpAny (model X.prog X.w) X.A (f (.int i t) (.int j u)) Q E s) :
  gz X f (pZ λi j=>.bl (g i j)):=by
 intro pins s σ H x y v u Q I rx ry h
 obtain ⟨i,j,rfl,rfl,q⟩:=h
 obtain ⟨t,rfl⟩:=rx
 obtain ⟨t',rfl⟩:=ry
 exact rule i j t t' s _ _ ⟨.bl (g i j),H,I,rfl,q⟩
def yy (i j:Int):Prop:=0<j/\j<1073741824
def GC (i j:Int):Prop:=0<=j/\j<=1000000/\i.natAbs<2 ^ 64
def sM (i j:Int):Prop:=(-(2 ^ 64)<i/\i<2 ^ 64)\/(-(2 ^ 64)<j/\j<2 ^ 64)
theorem sM.ok {i j:Int} (h:sM i j):IntMulOk i j:=by
 rcases h with ⟨h1,h2⟩ | ⟨h1,h2⟩
 .exact .of_left (intBits_le_64 h1 h2)
 .exact .of_right (intBits_le_64 h1 h2)
theorem ZO:gz X (binaryOp .Add) (pZ λi j=>.int (i+j)):=vS λ_ _ _ _ _ _ _ q=>add_int q
theorem lC:gz X (binaryOp .Sub) (pZ λi j=>.int (i - j)):=vS λ_ _ _ _ _ _ _ q=>sub_int q
theorem ju:gz X (binaryOp .Mult) (rI sM λi j=>.int (i * j)):=ze λ_ _ _ _ _ _ _ hc q=>mul_int q hc.ok
theorem um:gz X (binaryOp .FloorDiv) (rI yy λi j=>.int (i / j)):=ze λi j _ _ _ _ _ hc q=>by
 have h1:(0:Int)<j:=hc.1
 have h2:j<1073741824:=hc.2
 exact floordiv_int (by lia) (by rw [Int.fdiv_eq_ediv_of_nonneg i (by lia)]; exact q) (.inl (aRg (by lia)))
theorem i7:gz X (binaryOp .Mod) (rI (λ_ j=>0<j) λi j=>.int (i % j)):=ze λi j _ _ _ _ _ hc q=>by
 have h1:(0:Int)<j:=hc
 exact mod_int' (by lia) (by rw [Int.fmod_eq_emod_of_nonneg i (by lia)]; exact q)
theorem Rv:gz X (binaryOp .Pow) (rI GC λi j=>.int (i ^ j.toNat)):=ze λ_ _ _ _ _ _ _ hc q=>pow_int_small hc.1 hc.2.1 hc.2.2 q
theorem M9 {f:Value->Sem Value} {g:Int->Int}
  (rule:∀ (i:Int) (t:Tok) (s:Shared) (Q:Value->Shared->Prop) (E:Value->Shared->Prop),Q (.int (g i) s.toks) { s with toks:=s.toks+1 }->wpAny (model X.prog X.w) X.A (f (.int i t)) Q E s) :
  Gr X f (rU λi=>.int (g i)):=by
 intro pins s σ H x v Q I rx h
 obtain ⟨i,rfl,q⟩:=h
 obtain ⟨t,rfl⟩:=rx
 exact rule i t s _ _ ⟨.int (g i),H,I.tok _,⟨_,rfl⟩,q⟩
theorem lB:Gr X (unaryOp .USub) (rU λi=>.int (-i)):=M9 λ_ _ _ _ _ q=>neg_int q
end
def vz:V->V->Bool
 | .aV,.aV=>true | .aV,.int _=>true | .int _,.aV=>true | .aV,.bl _=>true | .bl _,.aV=>true | .aV,.str _=>true | .str _,.aV=>true
 | .int _,.int _=>true | .bl _,.bl _=>true | .str _,.str _=>true | .jX _,.jX _=>true
 | .int _,.str _=>true | .str _,.int _=>true | .bl _,.str _=>true | .str _,.bl _=>true
 | _,_=>false
def Nv:R2:=λx y H Q=>vz x y=true/\Q (.bl (decide (x=y))) H
def Nu:R2:=λx y H Q=>vz x y=true/\Q (.bl (!decide (x=y))) H
theorem Kq {i j:Int}:decide (V.int i=V.int j)=(i == j):=by
 rw [aOQ]
 simp
theorem Jo {i j:Bool}:decide (V.bl i=V.bl j)=(i == j):=by
 rw [aOQ]
 simp
theorem Kp {i j:Str}:decide (V.str i=V.str j)=(i == j):=by
 rw [aOQ]
 simp
theorem Ko {i j:Array UInt8}:decide (V.jX i=V.jX j)=(i.toList == j.toList):=by
 rw [aOQ]
 cases i
 cases j
 simp
section
variable {X:Cx} {a b c:Expr} {ta tb tc:TE} {pos:Pos}
theorem ZB {pins:List (Addr×Obj)} {σ:St} {H:Hp} {s:Shared} {Q:VK} {k k':Bool} (I:Inv X pins σ H s) (q:Q (.bl k) H) (e:k=k'):EP X pins σ Q (.bool k') s:=by
 subst e
 exact ⟨.bl k,H,I,rfl,q⟩
theorem br:gz X (compareOp .Eq) Nv:=by
 intro pins s σ H x y v u Q I rx ry h
 obtain ⟨hs,q⟩:=h
 cases x with
 | aV =>
  cases rx
  cases y with
  | aV=>cases ry; exact PySem.EqNone.eq_none_none (ZB I q (by simp))
  | bl j=>cases ry; exact PySem.EqNone.eq_none_bool (ZB I q (by simp))
  | int j=>obtain ⟨t',rfl⟩:=ry; exact PySem.EqNone.eq_none_int (ZB I q (by simp))
  | str j=>obtain ⟨t',rfl⟩:=ry; exact PySem.EqNone.eq_none_str (ZB I q (by simp))
  | _=>exact absurd (show false=true from hs) aPi
 | bl i =>
  cases rx
  cases y with
  | aV=>cases ry; exact PySem.EqNone.eq_bool_none (ZB I q (by simp))
  | bl j=>cases ry; exact eq_bool (ZB I q Jo)
  | str j=>obtain ⟨t',rfl⟩:=ry; exact PySem.EqMixed.eq_bool_str (ZB I q (by simp))
  | _=>exact absurd (show false=true from hs) aPi
 | int i =>
  obtain ⟨t,rfl⟩:=rx
  cases y with
  | aV=>cases ry; exact PySem.EqNone.eq_int_none (ZB I q (by simp))
  | int j=>obtain ⟨t',rfl⟩:=ry; exact eq_int (ZB I q Kq)
  | str j=>obtain ⟨t',rfl⟩:=ry; exact PySem.EqMixed.eq_int_str (ZB I q (by simp))
  | _=>exact absurd (show false=true from hs) aPi
 | str i =>
  obtain ⟨t,rfl⟩:=rx
  cases y with
  | aV=>cases ry; exact PySem.EqNone.eq_str_none (ZB I q (by simp))
  | bl j=>cases ry; exact PySem.EqMixed.eq_str_bool (ZB I q (by simp))
  | int j=>obtain ⟨t',rfl⟩:=ry; exact PySem.EqMixed.eq_str_int (ZB I q (by simp))
  | str j=>obtain ⟨t',rfl⟩:=ry; exact eq_str (ZB I q Kp)
  | _=>exact absurd (show false=true from hs) aPi
 | jX i =>
  obtain ⟨t,rfl⟩:=rx
  cases y with
  | jX j=>obtain ⟨t',rfl⟩:=ry; exact W.eq_bytes (ZB I q Ko)
  | _=>exact absurd (show false=true from hs) aPi
 | _=>cases y <;> exact absurd (show false=true from hs) aPi
theorem kr:gz X (compareOp .NotEq) Nu:=by
 intro pins s σ H x y v u Q I rx ry h
 obtain ⟨hs,q⟩:=h
 cases x with
 | aV =>
  cases rx
  cases y with
  | aV=>cases ry; exact PySem.EqNone.ne_none_none (ZB I q (by simp))
  | bl j=>cases ry; exact PySem.EqNone.ne_none_bool (ZB I q (by simp))
  | int j=>obtain ⟨t',rfl⟩:=ry; exact PySem.EqNone.ne_none_int (ZB I q (by simp))
  | str j=>obtain ⟨t',rfl⟩:=ry; exact PySem.EqNone.ne_none_str (ZB I q (by simp))
  | _=>exact absurd (show false=true from hs) aPi
 | bl i =>
  cases rx
  cases y with
  | aV=>cases ry; exact PySem.EqNone.ne_bool_none (ZB I q (by simp))
  | bl j=>cases ry; exact ne_bool (ZB I q (a0A not Jo))
  | str j=>obtain ⟨t',rfl⟩:=ry; exact PySem.EqMixed.ne_bool_str (ZB I q (by simp))
  | _=>exact absurd (show false=true from hs) aPi
 | int i =>
  obtain ⟨t,rfl⟩:=rx
  cases y with
  | aV=>cases ry; exact PySem.EqNone.ne_int_none (ZB I q (by simp))
  | int j=>obtain ⟨t',rfl⟩:=ry; exact ne_int (ZB I q (a0A not Kq))
  | str j=>obtain ⟨t',rfl⟩:=ry; exact PySem.EqMixed.ne_int_str (ZB I q (by simp))
  | _=>exact absurd (show false=true from hs) aPi
 | str i =>
  obtain ⟨t,rfl⟩:=rx
  cases y with
  | aV=>cases ry; exact PySem.EqNone.ne_str_none (ZB I q (by simp))
  | bl j=>cases ry; exact PySem.EqMixed.ne_str_bool (ZB I q (by simp))
  | int j=>obtain ⟨t',rfl⟩:=ry; exact PySem.EqMixed.ne_str_int (ZB I q (by simp))
  | str j=>obtain ⟨t',rfl⟩:=ry; exact ne_str (ZB I q (a0A not Kp))
  | _=>exact absurd (show false=true from hs) aPi
 | jX i =>
  obtain ⟨t,rfl⟩:=rx
  cases y with
  | jX j=>obtain ⟨t',rfl⟩:=ry; exact W.ne_bytes (ZB I q (a0A not Ko))
  | _=>exact absurd (show false=true from hs) aPi
 | _=>cases y <;> exact absurd (show false=true from hs) aPi
theorem gO:gz X (compareOp .Lt) (pZ λi j=>.bl (decide (i<j))):=oH λ_ _ _ _ _ _ _ q=>lt_int q
theorem vR:gz X (compareOp .LtE) (pZ λi j=>.bl (decide (i<=j))):=oH λ_ _ _ _ _ _ _ q=>le_int q
theorem p6:gz X (compareOp .Gt) (pZ λi j=>.bl (decide (j<i))):=oH λ_ _ _ _ _ _ _ q=>gt_int q
theorem mJ:gz X (compareOp .GtE) (pZ λi j=>.bl (decide (j<=i))):=oH λ_ _ _ _ _ _ _ q=>ge_int q
theorem Zx (b:Expr) {op:CmpOp} (h:op≠.In:=by decide) (h2:op≠.NotIn:=by decide):behindInMarks op b=false:=by
 have e1:(op == CmpOp.In)=false:=by cases op <;> first | rfl | exact absurd rfl h
 have e2:(op == CmpOp.NotIn)=false:=by cases op <;> first | rfl | exact absurd rfl h2
 cases b <;> simp [behindInMarks,e1,e2]
theorem nI {op:CmpOp} {r:R2} (ho:gz X (compareOp op) r) (ha:PE X a ta) (hb:PE X b tb) (hm:behindInMarks op b=false):PE X (.Compare a [op] [b] pos) (yQ r ta tb):=by
 intro pins s σ H Q I h
 exact wpAny_Compare1 (rT ha hb I h λv u s2 x y H2 I2 rx ry q=>ho pins s2 σ H2 x y v u Q I2 rx ry q) hm
def uT (t:TE):TT:=λσ H Q=>t σ H λx H'=>∃ k,x=.bl k/\Q k H'
theorem Zu {op:CmpOp} {r:R2} (ho:gz X (compareOp op) r) (ha:PE X a ta) (hb:PE X b tb) (hm:behindInMarks op b=false):PT X (.Compare a [op] [b] pos) (uT (yQ r ta tb)):=by
 intro pins s σ H Q I h
 refine wpAny_isTrue_Compare1 (cT (ha pins s σ H _ I h) λv s1 x H1 I1 r1 q1=>cT (hb pins s1 σ H1 _ I1 q1) λu s2 y H2 I2 r2 q2 =>
  bH (ho pins s2 σ H2 x y v u _ I2 r1 r2 q2) λc s3 ⟨z,H3,I3,r3,k,e,q3⟩=>?_) hm
 subst e
 cases r3
 exact a3o ⟨H3,I3,q3⟩
def Ru (r r':R2) (ta tb tc:TE):TE:=λσ H Q=>ta σ H λx H1=>tb σ H1 λy H2=>r x y H2 λz H3=>∃ k,z=.bl k /\
 (if k=true then tc σ H3 λw' H4=>r' y w' H4 Q else Q (.bl false) H3)
theorem Tc {op op':CmpOp} {r r':R2} (ho:gz X (compareOp op) r) (ho':gz X (compareOp op') r') (ha:PE X a ta) (hb:PE X b tb) (hc:PE X c tc)
  (hm:lastMarks [op,op'] [b,c]=false:=by with_unfolding_all rfl):PE X (.Compare a [op,op'] [b,c] pos) (Ru r r' ta tb tc):=by
 intro pins s σ H Q I h
 refine Compare_chain (cT (ha pins s σ H _ I h) λv s1 x H1 I1 r1 q1=>chain_link (cT (hb pins s1 σ H1 _ I1 q1) λu s2 y H2 I2 r2 q2 =>
  bH (ho pins s2 σ H2 x y v u _ I2 r1 r2 q2) λd s3 ⟨z,H3,I3,r3,k,e,q3⟩=>?_)) hm
 subst e
 cases r3
 refine a3o ?_
 cases k with
 | false=>exact ite_ff ⟨.bl false,H3,I3,rfl,q3⟩
 | true=>exact ite_tt (chain_last (cT (hc pins s3 σ H3 _ I3 q3) λw' s4 z' H4 I4 r4 q4=>ho' pins s4 σ H4 y z' u w' Q I4 r2 r4 q4))
def ym (K:W.Frag) (x:V) (H:Hp) (k:Bool):Prop :=
 match x with
 | .aV=>k=false
 | .bl b=>k=b
 | .int i=>k=(i != 0)
 | .str y=>y.length<=sizeLine/\k=((y.length:Int) != 0)
 | .jX y=>y.size<=sizeLine/\k=((y.size:Int) != 0)
 | .ref p=>(∃ xs,ak K H p xs/\k=!xs.isEmpty)\/(∃ xs,bG K H p xs/\k=!xs.isEmpty)\/∃ kvs,H p=some (.dK kvs)/\k=!kvs.isEmpty
 | _=>False
theorem Vg {κ:Type} {kvs:List (κ×V)} {vs:List (κ×Value)} (r:KV kvs vs):(!vs.isEmpty)=!kvs.isEmpty:=by
 cases r <;> rfl
theorem LX {xs:List V} {its:List Value} (r:Vals xs its):(!its.toArray.isEmpty)=!xs.isEmpty:=by
 cases r <;> simp
theorem Ab:(sizeLine:Nat)<2 ^ 63:=by rw [a7z]; decide
theorem Rt:Gs X (λx H Q=>∃ k,ym X.K x H k/\Q k H):=by
 intro pins s σ H x v Q I rx h
 obtain ⟨k,e,q⟩:=h
 have hl:=Ab
 have hs:sizeLine=16777216:=a7z
 cases x with
 | aV =>
  cases rx
  have e':k=false:=e
  subst e'
  exact truthy_none ⟨H,I,q⟩
 | bl b =>
  cases rx
  have e':k=b:=e
  subst e'
  exact a3o ⟨H,I,q⟩
 | int i =>
  obtain ⟨t,rfl⟩:=rx
  have e':k=(i != 0):=e
  subst e'
  exact PySem.P.truthy_int ⟨H,I,q⟩
 | str y =>
  obtain ⟨t,rfl⟩:=rx
  obtain ⟨hy,e'⟩:y.length<=sizeLine/\k=((y.length:Int) != 0):=e
  subst e'
  exact PySem.P.truthy_str (by lia) ⟨H,I.tok _,q⟩
 | jX y =>
  obtain ⟨t,rfl⟩:=rx
  obtain ⟨hy,e'⟩:y.size<=sizeLine/\k=((y.size:Int) != 0):=e
  subst e'
  exact W.truthy_bytes (by lia) ⟨H,I.tok _,q⟩
 | ref p =>
  cases rx
  have e':(∃ xs,ak X.K H p xs/\k=!xs.isEmpty)\/(∃ xs,bG X.K H p xs/\k=!xs.isEmpty)\/∃ kvs,H p=some (.dK kvs)/\k=!kvs.isEmpty:=e
  rcases e' with ⟨xs,hx,e'⟩ | ⟨xs,hx,e'⟩ | ⟨kvs,hx,e'⟩
  .subst e'
   obtain ⟨its,r,pl,hz⟩:=I.list hx
   have hlen:=r.length
   exact wpAny_truthy_list pl.isList (by simp only [a5A]; lia) ⟨H,I.tok _,by rw [LX r]; exact q⟩
  .subst e'
   obtain ⟨its,r,pl,hz⟩:=I.tuple hx
   have hlen:=r.length
   exact truthy_tuple pl (by simp only [a5A]; lia) ⟨H,I.tok _,by rw [LX r]; exact q⟩
  .subst e'
   obtain ⟨hz,hS,vs,r,m⟩:kvs.length<=sizeLine/\(p == sysModules)=false/\∃ vs,KV kvs vs/\s.heap.DictOf (ZF X.prog X.w) p vs:=I.hok p _ hx
   have hlen:kvs.length=vs.length:=Paired.length r
   exact wpAny_truthy_dict hS m (by lia) ⟨H,I.tok _,by rw [Vg r]; exact q⟩
 | _=>exact (show False from e).elim
theorem S9 (ha:PE X a ta) (he:∀ whole,isTrue a X.env whole=(do let v ← whole; standAt a.pos; holding [v] (truthy v))) :
  PT X a (λσ H Q=>ta σ H λx H'=>∃ k,ym X.K x H' k/\Q k H'):=by
 intro pins s σ H Q I h
 exact isTrue_plain (cT (ha pins s σ H _ I h) λv s1 x H1 I1 r1 q1=>Rt pins s1 σ H1 x v Q I1 r1 q1) (he _)
theorem vals1 {x:V} {us:List Value} (r:Vals [x] us):∃ u,us=[u]/\RelV x u:=by
 cases r with
 | cons r1 r2=>cases r2; exact ⟨_,rfl,r1⟩
theorem vals2 {x y:V} {us:List Value} (r:Vals [x,y] us):∃ u w',us=[u,w']/\RelV x u/\RelV y w':=by
 cases r with
 | cons r1 r2 =>
  cases r2 with
  | cons r3 r4=>cases r4; exact ⟨_,_,rfl,r1,r3⟩
theorem Lg:aU X (.builtin "abs") (λxs H Q=>∃ i,xs=[.int i]/\Q (.int (if i<0 then -i else i)) H):=by
 intro pins s σ H xs us Q I r h
 obtain ⟨i,rfl,q⟩:=h
 obtain ⟨u,rfl,t,rfl⟩:=vals1 r
 exact call_abs_int λu tk=>⟨.int (if i<0 then -i else i),H,I.tok _,⟨_,rfl⟩,q⟩
theorem Lx (hc:X.calm=true):aU X (.builtin "max") (λxs H Q=>∃ i j,xs=[.int i,.int j]/\Q (.int (if j > i then j else i)) H):=by
 intro pins s σ H xs us Q I r h
 obtain ⟨i,j,rfl,q⟩:=h
 obtain ⟨u,w',rfl,⟨t,rfl⟩,⟨t',rfl⟩⟩:=vals2 r
 refine max_two_ints (I.ok.hd hc) λh' tk k=>⟨_,H,I.kept k,?_,q⟩
 by_cases hj:j > i
 .rw [atn hj,atn hj]; exact ⟨_,rfl⟩
 .rw [amU hj,amU hj]; exact ⟨_,rfl⟩
theorem Vm (hc:X.calm=true):aU X (.builtin "min") (λxs H Q=>∃ i j,xs=[.int i,.int j]/\Q (.int (if j<i then j else i)) H):=by
 intro pins s σ H xs us Q I r h
 obtain ⟨i,j,rfl,q⟩:=h
 obtain ⟨u,w',rfl,⟨t,rfl⟩,⟨t',rfl⟩⟩:=vals2 r
 refine min_two_ints (I.ok.hd hc) λh' tk k=>⟨_,H,I.kept k,?_,q⟩
 by_cases hj:j<i
 .rw [atn hj,atn hj]; exact ⟨_,rfl⟩
 .rw [amU hj,amU hj]; exact ⟨_,rfl⟩
theorem Lw:aU X (.type "int") (λxs H Q=>(∃ i,xs=[.int i]/\Q (.int i) H)\/∃ k,xs=[.bl k]/\Q (.int (if k then 1 else 0)) H):=by
 intro pins s σ H xs us Q I r h
 rcases h with ⟨i,rfl,q⟩ | ⟨k,rfl,q⟩
 .obtain ⟨u,rfl,t,rfl⟩:=vals1 r
  exact call_int_int ⟨.int i,H,I,⟨_,rfl⟩,q⟩
 .obtain ⟨u,rfl,r1⟩:=vals1 r
  cases r1
  exact call_int_bool ⟨.int (if k then 1 else 0),H,I.tok _,⟨_,rfl⟩,q⟩
theorem VO:aU X (.builtin "divmod") (λxs H Q=>∃ i j,xs=[.int i,.int j]/\yy i j/\∀ p,H p=none->Q (.ref p) (upd H p (.tup [.int (i / j),.int (i % j)]))):=by
 intro pins s σ H xs us Q I r h
 obtain ⟨i,j,rfl,⟨h1,h2⟩,q⟩:=h
 obtain ⟨u,w',rfl,⟨t,rfl⟩,⟨t',rfl⟩⟩:=vals2 r
 refine divmod_int (by lia) ?_ (.inl (aRg (by lia)))
 rw [Int.fdiv_eq_ediv_of_nonneg i (by lia),Int.fmod_eq_emod_of_nonneg i (by lia)]
 have hn:H s.heap.objs.size=none:=I.hok.fresh (aNS _)
 refine ⟨.ref s.heap.objs.size,_,?_,rfl,q _ hn⟩
 refine I.laid (λb o e=>atD _ e) (aNS _) ⟨by simp only [bc9,aIZ]; rw [a7z]; decide,[.int (i / j) s.toks,.int (i % j) (s.toks+1)],.cons ⟨_,rfl⟩ (.cons ⟨_,rfl⟩ .nil),?_⟩
 exact ⟨_,aMS s.heap rfl,rfl,0,rfl⟩
end
structure jY (h:Heap) (x dx C:Addr) (mA:Str->Option Value):Prop where
 obj:h.get? x=some (W.instObj C dx)
 ns:h.Ns1 dx mA
 ne:dx≠x
theorem Vl {h:Heap} {dx:Addr} {mA:Str->Option Value} (n:h.Ns1 dx mA):∃ od,h.get? dx=some od/\∀ name,W.lookIn name od=some (mA name):=by
 obtain ⟨o,es,ep,ho,hd,hk,_,hm⟩:=n
 refine ⟨o,ho,λname=>?_⟩
 have e:=hm name
 unfold nsFind findBy at e
 rw [← Array.find?_toList] at e
 unfold W.lookIn
 rw [hd]
 dsimp only
 split
 .rename_i y q
  rw [q] at e
  exact a0A some e
 .rename_i q
  rw [q] at e
  have a:es.toList.any (·.refKey)=false:=by
   rw [List.any_eq_false]
   intro y hy
   obtain ⟨z,t,hkey⟩:=hk y (Array.mem_toList_iff.mp hy)
   simp [DictEntry.refKey,hkey]
  have a':¬ es.toList.any (·.refKey)=true:=by rw [a]; exact aPi
  rw [amU a']
  exact a0A some e
theorem jY.look {h:Heap} {x dx C:Addr} {mA:Str->Option Value} (I:jY h x dx C mA):∃ od,W.InstAt h x (W.instObj C dx) C (some od)/\∀ name,W.lookIn name od=some (mA name) :=
 let ⟨od,ho,hl⟩:=Vl I.ns
 ⟨od,⟨I.obj,rfl,rfl,ho⟩,hl⟩
section
variable {prog:Program} {w:World} {A:Around} {E:Value->Shared->Prop} {s:Shared} {K:W.Frag} {x dx C f:Addr} {mA:Str->Option Value} {name:Str} {v:Value}
theorem RD {expr:Bool} {Q:Value->Shared->Prop} (X:K.In s.heap) (I:jY s.heap x dx C mA) (hg:W.plainGet K C name=true) (hh:W.hasDictIn K C=true)
  (ha:W.findIn K (.ref C) name=some none) (hv:mA name=some v) (hv':W.handedIn v=true) (h:Q v { s with toks:=s.toks+1 }) :
  wpAny (model prog w) A (getAttr (.ref x) name expr) Q E s:=by
 obtain ⟨od,J,hl⟩:=I.look
 exact W.get_value X J (W.plainGet_of hg).1 (W.findObj_own hh ha rfl (by rw [hl,hv])) hv' h
theorem S8 {pl:Sem Bool} {Q:Value×List Value->Shared->Prop} (X:K.In s.heap) (I:jY s.heap x dx C mA) (hg:W.plainGet K C name=true)
  (hf:W.findIn K (.ref C) name=some (some (.ref f))) (ht:W.isFn K (.ref f)=true) (hv:mA name=none) (h:Q (.ref f,[.ref x]) s) :
  wpAny (model prog w) A (getMethod (.ref x) name pl) Q E s:=by
 obtain ⟨od,J,hl⟩:=I.look
 exact W.method_fn X J (W.plainGet_of hg).1 (W.plainGet_of hg).2 hf (aY8.mp ht) (by show (W.lookIn name od).map (·.isSome)=some false; rw [hl,hv]; rfl) h
theorem RC {ns:List Str} {Q:Unit->Shared->Prop} (X:K.In s.heap) (I:jY s.heap x dx C mA)
  (hs:W.findIn K (.ref C) "__setattr__" = some (some (.builtin "object.__setattr__"))) (hp:W.plainOver K C=true) (ht:W.takerIn K C name=some none) (hh:W.hasDictIn K C=true)
  (hw:PySem.Within mA ns) (hsz:ns.length<=sizeLine)
  (h:∀ h',jY h' x dx C (λy=>if y=name then some v else mA y)->Heap.SameBut dx s.heap h'->Q () { s with heap:=h',toks:=s.toks+2 }) :
  wpAny (model prog w) A (setAttr (.ref x) name v) Q E s:=by
 obtain ⟨od,J,hl⟩:=I.look
 refine W.set_plain X J hs (W.osa_open (s:={ s with toks:=s.toks+1 }) (r:=none) X J hp ht λb=>?_)
 obtain ⟨cd,hc,hd'⟩:=W.any_some hh
 have hx:s.heap.get? x=some ⟨.ref C,some dx,.plain,#[]⟩:=I.obj
 refine a6w (adj (a6w (a6w (wpAny_loadPart hx (a6w (W.Looks.here (s:={ s with toks:=s.toks+1 }) (W.looks_clsIn X hc) ?_))))))
 rw [hd']
 refine adj (a:=some dx) (a6w (adj (a6w ?_)))
 refine wpAny_nsSet1 (s:={ s with toks:=s.toks+1 }) I.ns λh' hn2 hs2=>?_
 obtain ⟨oD,esD,Xx,OQ,O1,O3⟩:=hn2.count (PySem.Within.cons name v hw)
 refine a6w (wpAny_lookBehind OQ (by rw [O1]; exact pastItsLine_dict (ay9 O3 (by rw [bc9]; lia))) ?_)
 exact adj (h _ ⟨(hs2.2 _ (a38 I.ne)).trans I.obj,hn2,I.ne⟩ hs2)
theorem S7 {R:Result->Shared->Prop} {vs:List Value} {kw:List (Str×Value)} (X:K.In s.heap) (hm:W.makesIn K C=true)
  (hi:W.findIn K (.ref C) "__init__" = some (some (.ref f))) (hf:W.typeIn K (.ref f)=some (.type "function"))
  (h:codeAny (model prog w) (A.under (.builtin "type.__call__" ⟨.ref C :: vs,kw⟩)) (.call (.ref f) ⟨.ref (s.heap.objs.size+1) :: vs,kw⟩) (W.InitBack (s.heap.objs.size+1) R)
   { s with heap:=(s.heap.push W.emptyDict).push (W.instObj C s.heap.objs.size) }) :
  codeAny (model prog w) A (.call (.ref C) ⟨vs,kw⟩) R s:=by
 obtain ⟨hh,g,d,t,os⟩:=s
 exact W.make_core (W.makes_of X hm) (W.looks_findIn X hi) (λself=>W.bind_fn X self hf) (.inl rfl) h
end
def aM (f:Str) (v:V):List (Str×V)->List (Str×V)
 | []=>[(f,v)]
 | (g,x) :: r=>if g=f then (g,v) :: r else (g,x) :: aM f v r
theorem Zq (f g:Str) (v:V):∀ fs:List (Str×V),(aM f v fs).lookup g=if g=f then some v else fs.lookup g
 | []=>by
  show List.lookup g [(f,v)]=_
  by_cases h:g=f
  .have hb:(g == f)=true:=aY8.mpr h
   simp only [List.lookup,hb,atn h]
  .have hb:(g == f)=false:=aiK.mpr h
   simp only [List.lookup,hb,amU h]
 | (k,x) :: r=>by
  have ih:=Zq f g v r
  rw [show aM f v ((k,x) :: r)=(if k=f then (k,v) :: r else (k,x) :: aM f v r) from rfl]
  by_cases hk:k=f
  .rw [atn hk]
   by_cases h:g=k
   .have hb:(g == k)=true:=aY8.mpr h
    simp only [List.lookup,hb,atn (h.trans hk)]
   .have hb:(g == k)=false:=aiK.mpr h
    simp only [List.lookup,hb,amU (λe:g=f=>h (e.trans hk.symm))]
  .rw [amU hk]
   by_cases h:g=k
   .have hb:(g == k)=true:=aY8.mpr h
    simp only [List.lookup,hb,amU (λe:g=f=>hk (h.symm.trans e))]
   .have hb:(g == k)=false:=aiK.mpr h
    simp only [List.lookup,hb]
    exact ih
theorem Fw (f:Str) (v:V):∀ fs:List (Str×V),f∈(aM f v fs).map (·.1)/\∀ g,g∈fs.map (·.1)->g∈(aM f v fs).map (·.1)
 | []=>⟨by simp [aM],λg h=>by simp at h⟩
 | (k,x) :: r=>by
  obtain ⟨i1,i2⟩:=Fw f v r
  rw [show aM f v ((k,x) :: r)=(if k=f then (k,v) :: r else (k,x) :: aM f v r) from rfl]
  by_cases hk:k=f
  .rw [atn hk]
   subst hk
   exact ⟨by simp,λg h=>by simpa using h⟩
  .rw [amU hk]
   refine ⟨?_,λg h=>?_⟩
   .rw [aWO]
    exact amQ _ i1
   .rw [aWO] at h ⊢
    rcases ac0.mp h with e | e
    .exact ac0.mpr (.inl e)
    .exact amQ _ (i2 g e)
theorem LS (f:Str) (v:V):∀ fs:List (Str×V),(aM f v fs).length<=fs.length+1
 | []=>by simp [aM]
 | (k,x) :: r=>by
  have ih:=LS f v r
  rw [show aM f v ((k,x) :: r)=(if k=f then (k,v) :: r else (k,x) :: aM f v r) from rfl]
  by_cases hk:k=f
  .rw [atn hk,bc9,bc9]; lia
  .rw [amU hk,bc9,bc9]; lia
theorem cL.some_of {v:V} {o:Option Value} (r:cL (some v) o):∃ u,o=some u/\RelV v u:=by
 cases o with
 | none=>exact (show False from r).elim
 | some u=>exact ⟨u,rfl,r⟩
theorem cL.none_of {o:Option Value} (r:cL none o):o=none:=by
 cases o with
 | none=>rfl
 | some u=>exact (show False from r).elim
theorem Vk {v:V} {u:Value} (r:RelV v u):W.handedIn u=true:=by
 cases v with
 | aV=>cases (show u=Value.none from r); rfl
 | bl b=>cases (show u=Value.bool b from r); rfl
 | int i=>obtain ⟨t,e⟩:=(show ∃ t,u=Value.int i t from r); cases e; rfl
 | str x=>obtain ⟨t,e⟩:=(show ∃ t,u=Value.str x t from r); cases e; rfl
 | jX b=>obtain ⟨t,e⟩:=(show ∃ t,u=Value.bytes b t from r); cases e; rfl
 | oU b=>obtain ⟨t,e⟩:=(show ∃ t,u=Value.float b t from r); cases e; rfl
 | ref a=>cases (show u=Value.ref a from r); rfl
 | ty n=>cases (show u=Value.type n from r); rfl
section
variable {P:Program} {w:World} {H H':Hp} {h h':Heap} {a C dx:Addr} {fs fs':List (Str×V)}
theorem Ag (hok:dj P w H h) (e:H a=some (.ins C dx fs)):∃ mA,jY h a dx C mA/\(∀ f,cL (fs.lookup f) (mA f))/\PySem.Within mA (fs.map (·.1))/\fs.length<=1000/\H dx=some (.own a):=by
 obtain ⟨d,z,ne,ob,mA,n,r,q⟩:=(show aJ P w H h a (.ins C dx fs) from hok a _ e)
 exact ⟨mA,⟨ob,n,ne⟩,r,q,z,d⟩
end
structure nS (K:W.Frag) (C:Addr):Prop where
 pg:W.plainGet K C Str.empty=true
 hd:W.hasDictIn K C=true
 po:W.plainOver K C=true
 sa:W.findIn K (.ref C) "__setattr__" = some (some (.builtin "object.__setattr__"))
theorem nS.get {K:W.Frag} {C:Addr} (c:nS K C) (f:Str):W.plainGet K C f=true:=c.pg
def bY (K:W.Frag) (C:Addr) (f:Str):Prop:=W.findIn K (.ref C) f=some none
theorem bY.uQ {K:W.Frag} {C:Addr} {f:Str} (n:bY K C f):W.takerIn K C f=some none:=by
 unfold W.takerIn
 rw [show W.findIn K (.ref C) f=some none from n]
 rfl
structure Meth (K:W.Frag) (C:Addr) (m:Str) (f:Addr):Prop where
 at_:W.findIn K (.ref C) m=some (some (.ref f))
 fn:W.isFn K (.ref f)=true
 kp:W.keepIn K (.ref f)=true
section
variable {X:Cx} {pins:List (Addr×Obj)} {σ:St} {H:Hp} {s:Shared} {a C dx:Addr} {fs:List (Str×V)} {f:Str} {v:V} {A:Around} {E:Value->Shared->Prop}
theorem Vf {b:Bool} {Q:Value->Shared->Prop} (I:Inv X pins σ H s) (e:H a=some (.ins C dx fs)) (c:nS X.K C) (n:bY X.K C f) (l:fs.lookup f=some v)
  (h:∀ u s',Inv X pins σ H s'->RelV v u->Q u s'):wpAny (model X.prog X.w) A (getAttr (.ref a) f b) Q E s:=by
 obtain ⟨mA,O,r,_,_,_⟩:=Ag I.hok e
 obtain ⟨u,hu,ru⟩:=cL.some_of (v:=v) (o:=mA f) (by rw [← l]; exact r f)
 exact RD I.dI O (c.get f) c.hd n hu (Vk ru) (h u _ (I.tok _) ru)
theorem Ve {m:Str} {g:Addr} {pl:Sem Bool} {Q:Value×List Value->Shared->Prop} (I:Inv X pins σ H s) (e:H a=some (.ins C dx fs)) (c:nS X.K C) (k:Meth X.K C m g) (l:fs.lookup m=none)
  (h:Q (.ref g,[.ref a]) s):wpAny (model X.prog X.w) A (getMethod (.ref a) m pl) Q E s:=by
 obtain ⟨mA,O,r,_,_,_⟩:=Ag I.hok e
 have hn:mA m=none:=cL.none_of (by rw [← l]; exact r m)
 exact S8 I.dI O (c.get m) k.at_ k.fn hn h
theorem Vd {y:V} {u:Value} {Q:Unit->Shared->Prop} (I:Inv X pins σ H s) (e:H a=some (.ins C dx fs)) (c:nS X.K C) (n:bY X.K C f) (hl:fs.length<1000) (ry:RelV y u)
  (h:∀ s',Inv X pins σ (upd H a (.ins C dx (aM f y fs))) s'->Q () s'):wpAny (model X.prog X.w) A (setAttr (.ref a) f u) Q E s:=by
 obtain ⟨mA,O,r,wi,_,ho⟩:=Ag I.hok e
 have hz:(fs.map (·.1)).length<=sizeLine:=by rw [aAt,a7z]; lia
 refine RC I.dI O c.sa c.po n.uQ c.hd wi hz λh' O' sb=>h _ ?_
 have hd:∃ o,h'.get? dx=some o:=let ⟨o,_,_,e',_⟩:=O'.ns; ⟨o,e'⟩
 refine I.write (x:=a) (e:=dx) (by rw [e]; exact True.intro) (.inr ho) (λb q hb z=>(sb.2 b hb).trans z) hd ?_
 refine ⟨by rw [Zc O.ne]; exact ho,?_,O.ne,O'.obj,_,O'.ns,λg=>?_,λg hg=>?_⟩
 .have:=LS f y fs; lia
 .show cL ((aM f y fs).lookup g) (if g=f then some u else mA g)
  rw [Zq]
  by_cases q:g=f
  .rw [atn q,atn q]; exact ry
  .rw [amU q,amU q]; exact r g
 .by_cases q:g=f
  .rw [q]; exact (Fw f y fs).1
  .refine (Fw f y fs).2 g (wi g λz=>hg ?_)
   show (if g=f then some u else mA g)=none
   rw [amU q]; exact z
theorem Inv.made (I:Inv X pins σ H s):Inv X pins σ (upd (upd H s.heap.objs.size (.own (s.heap.objs.size+1))) (s.heap.objs.size+1) (.ins C s.heap.objs.size []))
  { s with heap:=(s.heap.push W.emptyDict).push (W.instObj C s.heap.objs.size) }:=by
 have e1:(s.heap.push W.emptyDict).get? s.heap.objs.size=some W.emptyDict:=aMS s.heap rfl
 have e2:((s.heap.push W.emptyDict).push (W.instObj C s.heap.objs.size)).get? (s.heap.objs.size+1)=some (W.instObj C s.heap.objs.size):=by
  have:=aMS (s.heap.push W.emptyDict) (o:=W.instObj C s.heap.objs.size) rfl
  rwa [aep] at this
 have e3:(s.heap.push W.emptyDict).Ns s.heap.objs.size (λ_=>none):=⟨W.emptyDict,#[],_,e1,rfl,(λe he=>absurd he (by simp)),λ_=>rfl⟩
 have I1:=I.laid (a:=s.heap.objs.size) (o:=.own (s.heap.objs.size+1)) (h':=s.heap.push W.emptyDict) (t':=s.toks) (λb u q=>atD _ q) (aNS _) ⟨_,e1⟩
 refine I1.laid (a:=s.heap.objs.size+1) (o:=.ins C s.heap.objs.size []) (t':=s.toks) (λb u q=>atD _ q) (Nat.le_of_eq (aep _ _)) ?_
 have ne:s.heap.objs.size≠s.heap.objs.size+1:=aOw (aDX _)
 refine ⟨by rw [Zc ne,Za],aze _,ne,e2,λ_=>none,(Heap.Ns1.of_empty e3).at λo q=>atD _ q,λ_=>True.intro,λy hy=>absurd rfl hy⟩
theorem RB {prog:Program} {w:World} {env:Env} {e:Expr} {f:Str} {pos:Pos} {s:Shared} {Q:Value->Shared->Prop} (hb:attributeBase e f env (eval e env)=eval e env)
  (h:wpAny (model prog w) A (eval e env) (λo s₁=>wpAny (model prog w) A (getAttr o f true) Q E s₁) E s):wpAny (model prog w) A (eval (.Attribute e f pos) env) Q E s :=
 Attribute_any_ h (by rw [arm_eval_Attribute,hb])
end
def uZ (K:W.Frag) (ta:TE) (f:Str):TE:=λσ H Q=>ta σ H λx H1=>∃ a C dx fs v,x=.ref a/\H1 a=some (.ins C dx fs)/\nS K C/\bY K C f/\fs.lookup f=some v/\Q v H1
def BL (K:W.Frag) (ta tv:TE) (f:Str):TS:=λD σ H=>tv σ H λy H1=>ta σ H1 λx H2=>∃ a C dx fs,x=.ref a/\H2 a=some (.ins C dx fs)/\nS K C/\bY K C f/\fs.length<1000 /\
 D.nx σ (upd H2 a (.ins C dx (aM f y fs)))
def yx (X:Cx) (op:Operator) (rd:V->V->Hp->VK->Prop):Prop :=
 ∀ (pins:List (Addr×Obj)) (s:Shared) (σ:St) (H:Hp) (x y:V) (u v:Value) (Q:VK),Inv X pins σ H s->RelV x u->RelV y v->rd x y H Q->wpAny (model X.prog X.w) X.A (inplaceOp op u v) (EP X pins σ Q) X.xe s
section
variable {X:Cx} {o e value:Expr} {f:Str} {pos pos' tpos:Pos} {ta tv:TE}
theorem Rr (he:PE X e ta) (hb:attributeBase e f X.env (eval e X.env)=eval e X.env):PE X (.Attribute e f pos) (uZ X.K ta f):=by
 intro pins s σ H Q I h
 refine RB hb (bH (he pins s σ H _ I h) λu s1 ⟨x,H1,I1,rx,a,C,dx,fs,v,ex,ea,c,n,l,q⟩=>?_)
 subst ex
 obtain rfl:u=Value.ref a:=rx
 exact Vf I1 ea c n l λu' s2 I2 ru=>⟨v,H1,I2,ru,q⟩
theorem xG (ha:PE X o ta) (hv:PE X value tv) (hs:swapsWith value (some (.Attribute o f pos')) pos.line X.env=pure false):PS X (.Assign [.Attribute o f pos'] value pos) (BL X.K ta tv f):=by
 intro pins s σ H D I h
 refine plainObj_wpAny_Assign_Attribute (cT (hv pins s σ H _ I h) λu s1 y H1 I1 ry q=>bH (ha pins s1 σ H1 _ I1 q) λov s2 ⟨x,H2,I2,rx,a,C,dx,fs,ex,ea,c,n,l,q2⟩=>?_) hs
 subst ex
 obtain rfl:ov=Value.ref a:=rx
 exact Vd I2 ea c n l ry λs3 I3=>⟨σ,_,I3,q2⟩
def BY:V->V->Hp->VK->Prop:=λx y H Q=>∃ i j,x=.int i/\y=.int j/\Q (.int (i+j)) H
theorem Rq:yx X .Add BY:=by
 rintro pins s σ H x y u v Q I rx ry ⟨i,j,rfl,rfl,q⟩
 obtain ⟨t,rfl⟩:=(show ∃ t,u=Value.int i t from rx)
 obtain ⟨t',rfl⟩:=(show ∃ t',v=Value.int j t' from ry)
 exact PyProof.Rows.iadd_int ⟨.int (i+j),H,I.tok _,⟨_,rfl⟩,q⟩
end
section
variable {X:Cx} {pins:List (Addr×Obj)} {σ:St} {H:Hp} {s:Shared} {A:Around} {E:Value->Shared->Prop} {Q:Value->Shared->Prop} {c:Value} {b:Bool}
inductive fM (K:W.Frag) (H:Hp):V->Value->Prop where
 | aV:fM K H .aV (.type "NoneType")
 | bl (x:Bool):fM K H (.bl x) (.type "bool")
 | int (i:Int):fM K H (.int i) (.type "int")
 | str (x:Str):fM K H (.str x) (.type "str")
 | oU (x:UInt64):fM K H (.oU x) (.type "float")
 | lst {a:Addr} {xs:List V} (e:H a=some (.lst xs)):fM K H (.ref a) (.type "list")
 | bD {a:Addr} {o:Obj} {xs:List V} (e:H a=some (.bD o (.lst xs))):fM K H (.ref a) (.type "list")
 | tup {a:Addr} {xs:List V} (e:H a=some (.tup xs)):fM K H (.ref a) (.type "tuple")
 | dK {a:Addr} {kvs:List (Key×V)} (e:H a=some (.dK kvs)):fM K H (.ref a) (.type "dict")
 | dT {a:Addr} {kvs:List (List Key×V)} (e:H a=some (.dT kvs)):fM K H (.ref a) (.type "dict")
 | ins {a C dx:Addr} {fs:List (Str×V)} (e:H a=some (.ins C dx fs)) (cl:nS K C) (ha:W.findIn K (.ref C) "__class__" = some (some (.builtin "object.__class__")))
   (hn:W.specialIn K (.builtin "object.__class__") "__get__" = some (some (.builtin "getset_descriptor.__get__"))) (htk:W.takesIn K (.builtin "object.__class__")=some true)
   (hm:W.mroIn K C (.type "object")=some true):fM K H (.ref a) (.ref C)
theorem Vj {x:V} {u t:Value} (I:Inv X pins σ H s) (rx:RelV x u) (ty:fM X.K H x t) (e:W.kitOne X.K t c=some b) (h:∀ tk,Q (.bool b) { s with toks:=tk }) :
  wpAny (model X.prog X.w) A (call (.builtin "isinstance") [u,c]) Q E s:=by
 cases ty with
 | aV=>cases (show u=Value.none from rx); exact auc W.kitx_none I.dI True.intro e (λz=>nomatch z) h
 | bl y=>cases (show u=Value.bool y from rx); exact auc W.kitx_bool I.dI True.intro e (λz=>nomatch z) h
 | int i=>obtain ⟨t,q⟩:=(show ∃ t,u=Value.int i t from rx); cases q; exact auc W.kitx_int I.dI True.intro e (λz=>nomatch z) h
 | str y=>obtain ⟨t,q⟩:=(show ∃ t,u=Value.str y t from rx); cases q; exact auc W.kitx_str I.dI True.intro e (λz=>nomatch z) h
 | oU y=>obtain ⟨t,q⟩:=(show ∃ t,u=Value.float y t from rx); cases q; exact auc W.kitx_float I.dI True.intro e (λz=>nomatch z) h
 | @lst a xs ea =>
  cases (show u=Value.ref a from rx)
  obtain ⟨_,_,n,_,h1⟩:=(show aJ X.prog X.w H s.heap a (.lst xs) from I.hok a _ ea)
  exact auc W.kitx_list I.dI ⟨_,h1,rfl⟩ e (λz=>nomatch z) h
 | @bD a ob xs ea =>
  cases (show u=Value.ref a from rx)
  obtain ⟨_,_,_,n,_,h1⟩:=(show aJ X.prog X.w H s.heap a (.bD ob (.lst xs)) from I.hok a _ ea)
  exact auc W.kitx_list I.dI ⟨_,h1,rfl⟩ e (λz=>nomatch z) h
 | @tup a xs ea =>
  cases (show u=Value.ref a from rx)
  obtain ⟨_,_,_,p⟩:=(show aJ X.prog X.w H s.heap a (.tup xs) from I.hok a _ ea)
  obtain ⟨o,h1,h2,_⟩:=p
  exact auc W.kitx_tuple I.dI ⟨o,h1,h2⟩ e (λz=>nomatch z) h
 | @dK a kvs ea =>
  cases (show u=Value.ref a from rx)
  obtain ⟨_,_,vs,_,p⟩:=(show aJ X.prog X.w H s.heap a (.dK kvs) from I.hok a _ ea)
  obtain ⟨o,es,ep,h1,h2,_⟩:=p
  exact auc W.kitx_dict I.dI ⟨o,h1,h2.1⟩ e (λz=>nomatch z) h
 | @dT a kvs ea =>
  cases (show u=Value.ref a from rx)
  obtain ⟨_,_,xs,_,o,es,ep,h1,h2,_⟩:=(show aJ X.prog X.w H s.heap a (.dT kvs) from I.hok a _ ea)
  exact auc W.kitx_dict I.dI ⟨o,h1,h2.1⟩ e (λz=>nomatch z) h
 | @ins a C dx fs ea cl ha hn htk hm =>
  cases (show u=Value.ref a from rx)
  obtain ⟨mA,O,_⟩:=Ag I.hok ea
  obtain ⟨od,J,_⟩:=O.look
  exact auc (W.kitx_own (cl.get _) cl.hd ha hn htk hm) I.dI J e (λz=>nomatch z) h
end
structure aY (k:Nat) (A:Around):Prop where
 hd:A.handled=none
 dp:A.depth+3 * k+5<recursionLimit
 un:A.units+16 * k+200<cLine
 gd:A.guards=some []
theorem aY.mono {j k:Nat} {A:Around} (r:aY k A) (h:j<=k):aY j A:=⟨r.hd,by have:=r.dp; lia,by have:=r.un; lia,r.gd⟩
theorem aY.deeper {k:Nat} {A:Around} (r:aY (k+1) A) (env:Env):aY k (A.deeper env) :=
 ⟨r.hd,by have:=r.dp; show A.depth+1+3 * k+5<_; lia,by have:=r.un; show A.units+3+16 * k+200<_; lia,r.gd⟩
theorem Vc {A:Around} {C:Addr} {us:List Value} {kw:List (Str×Value)}:(A.under (.builtin "type.__call__" ⟨.ref C :: us,kw⟩)).depth=A.depth+1:=by
 first | rfl | simp [Around.under,Code.weight,Code.isCreation,Code.isGuard,Code.isCaller,Code.frames,Code.isFrame,guardIds]
theorem Vb {A:Around} {C:Addr} {us:List Value} {kw:List (Str×Value)}:(A.under (.builtin "type.__call__" ⟨.ref C :: us,kw⟩)).units=A.units+1:=by
 first | rfl | simp [Around.under,Code.cUnits,Code.frames,Code.isFrame]
theorem aY.make {k:Nat} {A:Around} (r:aY (k+1) A) (C:Addr) (us:List Value) (kw:List (Str×Value)):aY k (A.under (.builtin "type.__call__" ⟨.ref C :: us,kw⟩)) :=
 ⟨r.hd,by have:=r.dp; rw [Vc]; lia,by have:=r.un; rw [Vb]; lia,r.gd⟩
theorem aY.depth {k:Nat} {A:Around} (r:aY k A):A.depth<recursionLimit:=by have:=r.dp; lia
theorem aY.units {k:Nat} {A:Around} (r:aY k A):A.units+64<cLine:=by have:=r.un; lia
def uX:TA:=λ_ H Q=>Q [] H
def pN (ta:TE) (tr:TA):TA:=λσ H Q=>ta σ H λx H1=>tr σ H1 λxs H2=>Q (x :: xs) H2
section
variable {X:Cx} {e:Expr} {es:List Expr} {te:TE} {t:TA} {pos:Pos}
theorem Zd:PA X [] uX:=λ_ _ _ _ H Q I h=>ajQ ⟨[],H,I,.nil,h⟩
theorem Sd (ha:PE X e te) (hr:PA X es t) (hs:starEach (e :: es) X.env=(false,eval e X.env) :: starEach es X.env:=by rfl):PA X (e :: es) (pN te t):=by
 intro pos pins s σ H Q I h
 rw [hs]
 show wpAny _ _ (spliced ((false,eval e X.env) :: backTo pos (starEach es X.env))) _ _ s
 refine aLm (cT (ha pins s σ H _ I h) λu s1 x H1 I1 r1 q1=>?_)
 exact kR (hr pos pins s1 σ H1 _ I1 q1) λus s2 xs H2 I2 r2 q2=>⟨x :: xs,H2,I2,.cons r1 r2,q2⟩
def Bv (t:TA):TE:=λσ H Q=>t σ H λxs H1=>xs.length<=sizeLine/\∀ p,H1 p=none->Q (.ref p) (upd H1 p (.tup xs))
def BB (t:TA):TE:=λσ H Q=>t σ H λxs H1=>xs.length<=sizeLine/\∀ p,H1 p=none->Q (.ref p) (upd H1 p (.lst xs))
theorem lu {x1} (h:PA X es t):PE X (.Tuple es x1 pos) (Bv t):=by
 intro pins s σ H Q I hq
 refine wpAny_Tuple_spliced (bH (h pos pins s σ H _ I hq) λus s1 ⟨xs,H1,I1,r,z,q⟩=>⟨by rw [← r.length]; exact z,?_⟩)
 have hf:H1 s1.heap.objs.size=none:=I1.hok.fresh (aNS _)
 refine ⟨.ref s1.heap.objs.size,upd H1 s1.heap.objs.size (.tup xs),I1.laid (t':=s1.toks) (λb u e=>atD _ e) (aNS _) ?_,rfl,q _ hf⟩
 exact ⟨z,us,r,⟨_,aMS _ rfl,rfl,_,rfl⟩⟩
theorem ZT (h:PA X es t):PE X (.List es pos) (BB t):=by
 intro pins s σ H Q I hq
 refine wpAny_List_spliced (bH (h pos pins s σ H _ I hq) λus s1 ⟨xs,H1,I1,r,z,q⟩=>⟨by rw [← r.length]; exact z,?_⟩)
 have hf:H1 s1.heap.objs.size=none:=I1.hok.fresh (aNS _)
 refine ⟨.ref s1.heap.objs.size,upd H1 s1.heap.objs.size (.lst xs),I1.laid (t':=s1.toks) (λb u e=>atD _ e) (aNS _) ?_,rfl,q _ hf⟩
 exact ⟨z,us,0,r,aMS _ rfl⟩
end
abbrev Sp:=List V->Hp->VK->XK->Prop
abbrev ow:=List Env->Hp->Shared->XK->Value->Shared->Prop
structure j0 (P:Program) (w:World) (K:W.Frag) (mg:Str->Option Value) (base:Heap) (A:Around) (outer:List Env) (s:Shared) (H:Hp):Prop where
 frames:A.frames=some outer
 mod:Mod K mg base
 bs:∀ b o,base.get? b=some o->s.heap.get? b=some o/\H b=none
 n8:base.objs.size<=s.heap.objs.size
 gw:s.heap.FunFrames base outer
 rP:∀ b∈frs outer,H b=none
 hok:dj P w H s.heap
 bare:AllBare s.gens
def CE (outer:List Env) (P:Program) (w:World) (H:Hp) (s:Shared) (Q:VK) (u:Value) (s':Shared):Prop :=
 ∃ v H',s'.os=s.os/\AllBare s'.gens/\Un (frs outer) [] H H' s.heap s'.heap/\dj P w H' s'.heap/\RelV v u/\Q v H'
def CR (CX:ow) (outer:List Env) (P:Program) (w:World) (H:Hp) (s:Shared) (Q:VK) (E:XK) (r:Result) (s':Shared):Prop :=
 match r with
 | .ok (.ret u)=>CE outer P w H s Q u s'
 | .ok _=>False
 | .error e=>CX outer H s E e s'
structure aH (P:Program) (w:World) (K:W.Frag) (mg:Str->Option Value) (base:Heap) (CX:ow) (k:Nat) (f:Addr) (fd:FuncData) (ps:List Str) (sp:Sp):Prop where
 len:∀ vs H Q E,sp vs H Q E->vs.length=ps.length
 run:∀ (A:Around) (outer:List Env) (s:Shared) (H:Hp) (args:Args) (us:List Value) (vs:List V) (Q:VK) (E:XK),aY k A->j0 P w K mg base A outer s H->BindsTo s fd args (ps.zip us)->Vals vs us->sp vs H Q E ->
  codeAny (model P w) A (.call (.ref f) args) (CR CX outer P w H s Q E) s
theorem j0.make {P:Program} {w:World} {K:W.Frag} {mg:Str->Option Value} {base:Heap} {A:Around} {outer:List Env} {s:Shared} {H:Hp} (e:j0 P w K mg base A outer s H) (C:Addr) (us:List Value) (kw:List (Str×Value)) :
  j0 P w K mg base (A.under (.builtin "type.__call__" ⟨.ref C :: us,kw⟩)) outer s H:=⟨by first | exact e.frames | (simpa [Around.under,Code.envs,Code.isFrame,pushEnvs] using e.frames),e.mod,e.bs,e.n8,e.gw,e.rP,e.hok,e.bare⟩
section
variable {X:Cx} {pins:List (Addr×Obj)} {σ:St} {H:Hp} {s s':Shared}
theorem Inv.xo (I:Inv X pins σ H s):j0 X.prog X.w X.K X.mg X.base X.A X.stack s H :=
 ⟨I.ok.frames,I.ok.mod,I.bs,ay9 I.ok.n8 I.sz,I.stack,I.iM,I.hok,I.bare⟩
theorem Inv.after {Q:VK} {u:Value} (I:Inv X pins σ H s) (h:CE X.stack X.prog X.w H s Q u s'):EP X pins σ Q u s':=by
 obtain ⟨v,H',os,bare,un,hok,r,q⟩:=h
 obtain ⟨hh,g,d,t,os'⟩:=s'
 obtain rfl:os'=s.os:=os
 exact ⟨v,H',I.call (h':=hh) (g':=g) (d':=d) (t':=t) (ch:=[]) un hok bare (λb z=>absurd z (by simp)),r,q⟩
end
def l0 (sp:Sp) (iU:List V) (E:XK) (t:TA):TE:=λσ H Q=>t σ H λvs H1=>sp (vs++iU) H1 Q E
def pL (C:Addr) (m:Str) (sp:Sp) (iU:List V) (E:XK) (ta:TE) (t:TA):TE:=λσ H Q=>ta σ H λx H1=>∃ a dx fs,x=.ref a/\H1 a=some (.ins C dx fs)/\fs.lookup m=none /\
 t σ H1 λvs H2=>sp (x :: (vs++iU)) H2 Q E
def pM (C:Addr) (sp:Sp) (iU:List V) (E:XK) (t:TA):TE:=λσ H Q=>t σ H λvs H1=>∀ x dx,H1 x=none->H1 dx=none->dx≠x ->
 sp (.ref x :: (vs++iU)) (upd (upd H1 dx (.own x)) x (.ins C dx [])) (λv H2=>v=.aV/\Q (.ref x) H2) E
def Binds (K:W.Frag) (fd:FuncData) (ps:List Str) (ds:List Value):Prop :=
 ∀ (s:Shared) (us:List Value),K.In s.heap->(us++ds).length=ps.length->BindsTo s fd ⟨us,[]⟩ (ps.zip (us++ds))
theorem Binds.all {K:W.Frag} {fd:FuncData} {ps:List Str} (h:∀ us:List Value,us.length=ps.length->bindArgs fd ⟨us,[]⟩=pure (ps.zip us)):Binds K fd ps []:=λs us _ hl=>by
 rw [amK] at hl ⊢
 exact .of_eq (h us hl)
def tY (CX:ow) (X:Cx) (E:XK):Prop:=∀ (pins:List (Addr×Obj)) (σ:St) (H:Hp) (s:Shared) (e:Value) (s':Shared),Inv X pins σ H s->CX X.stack H s E e s'->X.xe e s'
section
variable {X:Cx} {CX:ow} {k:Nat} {f C:Addr} {fd:FuncData} {ps:List Str} {sp:Sp} {iU:List V} {ds:List Value} {E:XK} {x m:Str} {p pos apos:Pos} {e o:Expr} {es:List Expr} {ta:TE} {t:TA}
theorem Jl {pins:List (Addr×Obj)} {σ:St} {H:Hp} {s:Shared} {Q:VK} {us:List Value} {vs:List V} (F:aH X.prog X.w X.K X.mg X.base CX k f fd ps sp) (hr:aY k X.A) (hb:Binds X.K fd ps ds) (hd:Vals iU ds) (hx:tY CX X E)
  (I:Inv X pins σ H s) (r:Vals vs us) (h:sp (vs++iU) H Q E):wpAny (model X.prog X.w) X.A (call (.ref f) us) (EP X pins σ Q) X.xe s:=by
 have r2:Vals (vs++iU) (us++ds):=r.append hd
 have hl:(us++ds).length=ps.length:=by rw [← r2.length]; exact F.len _ _ _ _ h
 refine wpAny_call (codeAny_mono (F.run X.A X.stack s H ⟨us,[]⟩ (us++ds) (vs++iU) Q E hr I.xo (hb s us I.dI hl) r2 h) λr s' hq=>?_)
 cases r with
 | error e=>exact hx pins σ H s e s' I hq
 | ok fl =>
  cases fl with
  | ret u=>exact I.after hq
  | next=>exact False.elim hq
  | brk=>exact False.elim hq
  | cont=>exact False.elim hq
theorem Sb (F:aH X.prog X.w X.K X.mg X.base CX k f fd ps sp) (hr:aY k X.A) (hg:Gl X x) (hm:X.mg x=some (.ref f)) (hk:W.keepIn X.K (.ref f)=true) (hb:Binds X.K fd ps ds) (hd:Vals iU ds) (hx:tY CX X E)
  (ha:PA X (e :: es) t) (hdb:(x == ("__debug__" : Str))=false:=by decide) (he:starEach (e :: es) X.env=(false,eval e X.env) :: starEach es X.env:=by rfl) (hpl:(backTo pos (starEach es X.env)).any (·.1)=false:=by rfl) :
  PE X (.Call (.Name x p) (e :: es) [] pos) (l0 sp iU E t):=by
 intro pins s σ H Q I h
 refine aSv (Kr I hg hm ?_ hdb)
 refine W.callWith_K (h₀:=X.base) I.ok.mod.wA hk (kR (ha pos pins s σ H _ I h) λus s1 vs H1 I1 r q=>⟨I1.dI,?_⟩) he hpl
 exact Jl F hr hb hd hx I1 r q
theorem Sa {pl:Sem Bool} (he:PE X o ta) (c:nS X.K C) (hm:Meth X.K C m f) (F:aH X.prog X.w X.K X.mg X.base CX k f fd ps sp) (hr:aY k X.A) (hb:Binds X.K fd ps ds) (hd:Vals iU ds) (hx:tY CX X E) (ha:PA X (e :: es) t)
  (hst:starEach (e :: es) X.env=(false,eval e X.env) :: starEach es X.env:=by rfl) (hpl:(backTo pos (starEach es X.env)).any (·.1)=false:=by rfl)
  (ht:eval (.Call (.Attribute o m apos) (e :: es) [] pos) X.env=(do
   let ov ← eval o X.env
   standAt apos.atName
   let (f,first) ← holding [ov] (getMethod ov m pl)
   callWith pos f first (backTo pos (starEach (e :: es) X.env)) (backToKw pos (keywordEach [] X.env))):=by rfl) :
  PE X (.Call (.Attribute o m apos) (e :: es) [] pos) (pL C m sp iU E ta t):=by
 intro pins s σ H Q I h
 refine W.methodCall_KW (pl:=pl) (bH (he pins s σ H _ I h) λu s1 ⟨x,H1,I1,rx,a,dx,fs,ex,ea,l,q⟩=>?_) ht
 subst ex
 obtain rfl:u=Value.ref a:=rx
 refine Ve I1 ea c hm l ?_
 refine W.callWith_K (first:=[.ref a]) (h₀:=X.base) I.ok.mod.wA hm.kp (kR (ha pos pins s1 σ H1 _ I1 q) λus s2 vs H2 I2 r q2=>⟨I2.dI,?_⟩) hst hpl
 exact Jl (us:=.ref a :: us) (vs:=.ref a :: vs) F hr hb hd hx I2 (.cons rfl r) q2
structure Mk (K:W.Frag) (C f:Addr):Prop where
 makes:W.makesIn K C=true
 init:W.findIn K (.ref C) "__init__" = some (some (.ref f))
 fn:W.isFn K (.ref f)=true
 kp:W.keepIn K (.ref C)=true
theorem S6 {pins:List (Addr×Obj)} {σ:St} {H:Hp} {s:Shared} {Q:VK} {us:List Value} {vs:List V} (M:Mk X.K C f) (F:aH X.prog X.w X.K X.mg X.base CX k f fd ps sp) (hr:aY (k+1) X.A) (hb:Binds X.K fd ps ds) (hd:Vals iU ds)
  (hx:tY CX X E) (I:Inv X pins σ H s) (r:Vals vs us)
  (h:∀ x dx,H x=none->H dx=none->dx≠x->sp (.ref x :: (vs++iU)) (upd (upd H dx (.own x)) x (.ins C dx [])) (λv H2=>v=.aV/\Q (.ref x) H2) E) :
  wpAny (model X.prog X.w) X.A (call (.ref C) us) (EP X pins σ Q) X.xe s:=by
 have hq:=h (s.heap.objs.size+1) s.heap.objs.size (I.hok.fresh (aO8 _)) (I.hok.fresh (aNS _)) (aOw (aDX _))
 have I2:=Inv.made (C:=C) I
 have r2:Vals (V.ref (s.heap.objs.size+1) :: (vs++iU)) (Value.ref (s.heap.objs.size+1) :: (us++ds)):=.cons rfl (r.append hd)
 have hl:(Value.ref (s.heap.objs.size+1) :: us++ds).length=ps.length:=by
  have e:=r2.length
  rw [F.len _ _ _ _ hq] at e
  exact e.symm
 refine wpAny_call (S7 (f:=f) I.dI M.makes M.init (aY8.mp M.fn) (codeAny_mono (F.run _ X.stack _ _ ⟨Value.ref (s.heap.objs.size+1) :: us,[]⟩ (Value.ref (s.heap.objs.size+1) :: (us++ds)) _ _ E (hr.make C us [])
  (I2.xo.make C us []) (hb _ (Value.ref (s.heap.objs.size+1) :: us) I2.dI hl) r2 hq) λr s' hq'=>?_))
 cases r with
 | error e=>exact hx pins σ _ _ e s' I2 hq'
 | ok fl =>
  cases fl with
  | ret u =>
   obtain ⟨v,H',I3,rv,ev,q3⟩:=I2.after hq'
   subst ev
   exact ⟨rv,⟨V.ref (s.heap.objs.size+1),H',I3,rfl,q3⟩⟩
  | next=>exact False.elim hq'
  | brk=>exact False.elim hq'
  | cont=>exact False.elim hq'
theorem R9 (M:Mk X.K C f) (F:aH X.prog X.w X.K X.mg X.base CX k f fd ps sp) (hr:aY (k+1) X.A) (hg:Gl X x) (hm:X.mg x=some (.ref C)) (hb:Binds X.K fd ps ds) (hd:Vals iU ds) (hx:tY CX X E)
  (ha:PA X (e :: es) t) (hdb:(x == ("__debug__" : Str))=false:=by decide) (he:starEach (e :: es) X.env=(false,eval e X.env) :: starEach es X.env:=by rfl) (hpl:(backTo pos (starEach es X.env)).any (·.1)=false:=by rfl) :
  PE X (.Call (.Name x p) (e :: es) [] pos) (pM C sp iU E t):=by
 intro pins s σ H Q I h
 refine aSv (Kr I hg hm ?_ hdb)
 refine W.callWith_K (h₀:=X.base) I.ok.mod.wA M.kp (kR (ha pos pins s σ H _ I h) λus s1 vs H1 I1 r q=>⟨I1.dI,?_⟩) he hpl
 exact S6 M F hr hb hd hx I1 r q
end
structure af (N P:List Str) (sc:Scope):Prop where
 kind:sc.kind=.function
 co:sc.isCoroutine=false
 gen:sc.isGenerator=false
 nd:N.Nodup
 pre:N.take P.length=P
 par:∀ x∈P,sc.names.lookup x=some .local\/sc.names.lookup x=some .cell
 qR:∀ y∈sc.names,y.2≠.free
theorem Lv {kindOf:Str->Option NameKind} {x:Str}:∀ {binds:List (Str×Value)} {m:Str->Option Value},(∀ v,(x,v)∉binds)->bindL kindOf binds m x=m x
 | [],_,_=>rfl
 | (n,v) :: r,m,h=>by
  unfold bindL
  rw [Lv λw hw=>h w (amQ _ hw)]
  split
  .have:x≠n:=by rintro rfl; exact h v a5w
   simp [this]
  .rfl
theorem Lu {kindOf:Str->Option NameKind} {x:Str}:∀ {binds:List (Str×Value)} {m:Str->Option Value},(∀ v,(x,v)∉binds)->bindC kindOf binds m x=m x
 | [],_,_=>rfl
 | (n,v) :: r,m,h=>by
  unfold bindC
  rw [Lu λw hw=>h w (amQ _ hw)]
  split
  .rfl
  .have:x≠n:=by rintro rfl; exact h v a5w
   simp [this]
theorem Ls {kindOf:Str->Option NameKind} {x:Str} {v:Value}:∀ {P:List Str} {vs:List Value} {i:Nat} {m:Str->Option Value},P.Nodup->P[i]?=some x->vs[i]?=some v->kindOf x=some .local ->
  bindL kindOf (P.zip vs) m x=some v
 | [],_,_,_,_,h,_,_=>by simp at h
 | _ :: _,[],_,_,_,_,h,_=>by simp at h
 | p :: P,w :: vs,0,m,nd,h1,h2,hk=>by
  simp at h1 h2; subst h1; subst h2
  show bindL kindOf ((p,w) :: P.zip vs) m p=_
  unfold bindL
  rw [Lv λv hv=>(aG7.mp nd).1 (List.of_mem_zip hv).1,atn hk]
  simp
 | p :: P,w :: vs,i+1,m,nd,h1,h2,hk=>by
  show bindL kindOf ((p,w) :: P.zip vs) m x=_
  unfold bindL
  exact Ls (i:=i) (aG7.mp nd).2 (by simpa using h1) (by simpa using h2) hk
theorem Lr {kindOf:Str->Option NameKind} {x:Str} {v:Value}:∀ {P:List Str} {vs:List Value} {i:Nat} {m:Str->Option Value},P.Nodup->P[i]?=some x->vs[i]?=some v->kindOf x≠some .local ->
  bindC kindOf (P.zip vs) m x=some v
 | [],_,_,_,_,h,_,_=>by simp at h
 | _ :: _,[],_,_,_,_,h,_=>by simp at h
 | p :: P,w :: vs,0,m,nd,h1,h2,hk=>by
  simp at h1 h2; subst h1; subst h2
  show bindC kindOf ((p,w) :: P.zip vs) m p=_
  unfold bindC
  rw [Lu λv hv=>(aG7.mp nd).1 (List.of_mem_zip hv).1,amU hk]
  simp
 | p :: P,w :: vs,i+1,m,nd,h1,h2,hk=>by
  show bindC kindOf ((p,w) :: P.zip vs) m x=_
  unfold bindC
  exact Lr (i:=i) (aG7.mp nd).2 (by simpa using h1) (by simpa using h2) hk
def start (N:List Str) (vs:List V):St:=vs.map some++List.replicate (N.length - vs.length) none
def jm (CX:ow) (P:Program) (w:World) (K:W.Frag) (mg:Str->Option Value) (base:Heap) (N:List Str) (qual:Str) (scope:Scope) (f:Addr) (cd:Value) (A:Around) (outer:List Env) (s:Shared) (H:Hp) (E:XK):Cx where
 prog:=P
 w:=w
 K:=K
 mg:=mg
 base:=base
 A:=A.deeper (envOfC qual scope s.heap.objs.size f cd)
 N:=N
 s₀:=s
 H₀:=H
 env:=envOfC qual scope s.heap.objs.size f cd
 outer:=outer
 stack:=envOfC qual scope s.heap.objs.size f cd :: outer
 ex:=[]
 calm:=true
 fn:=λ_=>true
 pn:=[]
 xe:=λe s'=>wpAny (model P w) (A.deeper (envOfC qual scope s.heap.objs.size f cd)) (leaving (envOfC qual scope s.heap.objs.size f cd) e) (λ_ s''=>CX outer H s E e s'') (λe' s''=>CX outer H s E e' s'') s'
theorem Lf {sc:Scope} {n:Nat} {x:Str} (h:sc.names.lookup x=some .cell):∃ c,(cellsFrom n sc.names []).lookup x=some c:=by
 have q:=W.cellsFrom_some sc.names n [] (.inl h)
 exact Option.isSome_iff_exists.mp q
theorem UE {CX:ow} {P:Program} {w:World} {K:W.Frag} {mg:Str->Option Value} {base:Heap} {N ps:List Str} {qual:Str} {scope:Scope} {f:Addr} {cd:Value} {A:Around} {outer:List Env} {s s1:Shared} {H:Hp} {E:XK} {us:List Value} {vs:List V}
  (S:af N ps scope) (hd:A.handled=none) (e0:j0 P w K mg base A outer s H) (hl:vs.length=ps.length) (r:Vals vs us)
  (x:InCallC s s.heap.objs.size (bindL (envOfC qual scope s.heap.objs.size f cd).kindOf (ps.zip us) λ_=>none) (cellsFrom (s.heap.objs.size+1) scope.names []) (bindC (envOfC qual scope s.heap.objs.size f cd).kindOf (ps.zip us) λ_=>none) s1) :
  Inv (jm CX P w K mg base N qual scope f cd A outer s H E) [] (start N vs) H s1:=by
 have hpl:ps.length<=N.length:=by have:=a0A List.length S.pre; rw [a9v] at this; lia
 obtain ⟨h1,tk,rfl,hk⟩:=x.done
 have qS:∀ b:Addr,b∉(jm CX P w K mg base N qual scope f cd A outer s H E).ex:=λb z=>absurd (show b∈([]:List Addr) from z) (by simp)
 refine ⟨⟨e0.mod,S.kind,rfl,rfl,aNS _,λy z c h1 h2=>?_,λy hy=>?_,λy c _ h=>?_,λ_=>hd,Around.frames_deeper e0.frames,.inr ⟨rfl,rfl⟩,λb z=>absurd z (qS b),e0.bs,e0.n8,λb _ _=>qS b,λb z=>absurd z (qS b),e0.gw,e0.rP⟩,
  rfl,e0.bare,Un.kept hk,⟨_,x.toInCall.ns,λi y v h1 h2 h3=>?_⟩,λy c h=>⟨_,x.cell y c h⟩,e0.hok.fresh (aNS _),λy c h=>?_,λp hp=>absurd (show p∈([]:List (Addr×Obj)) from hp) (by simp),e0.hok.kept hk,?_⟩
 .exact name_of_addr x.apart (aje h1) (aje h2)
 .have hy:scope.names.lookup y=some .cell\/scope.names.lookup y=some .free:=hy
  rcases hy with hy | hy
  .exact Lf hy
  .exact absurd rfl (S.qR _ (aje hy))
 .exact aRN (x.above y c (aje h))
 .have hi:i<vs.length:=by
   unfold start at h2
   by_cases hi:i<vs.length
   .exact hi
   .rw [aFp (by simpa using hi)] at h2
    rw [List.getElem?_replicate] at h2
    split at h2 <;> cases h2
  have ha:vs[i]?=some v:=by
   unfold start at h2
   rw [a6D (by simpa using hi),aYu] at h2
   cases e:vs[i]? with
   | none=>rw [e] at h2; cases h2
   | some a=>rw [e] at h2; cases h2; rfl
  obtain ⟨u,hu,rv⟩:=r.get ha
  have hp:ps[i]?=some y:=by
   rw [← S.pre,List.getElem?_take_of_lt (by lia)]; exact h1
  have Ho:ps.Nodup:=by rw [← S.pre]; exact S.nd.sublist (take_sublist _ _)
  refine ⟨u,rv,?_⟩
  rcases S.par y (abg hp) with k | k
  .exact .inl ⟨k,Ls Ho hp hu k⟩
  .obtain ⟨c,e⟩:=Lf (n:=s.heap.objs.size+1) k
   refine .inr ⟨.inl k,c,e,?_⟩
   have q:=x.cell y c e
   rw [Lr Ho hp hu (by show scope.names.lookup y≠_; rw [k]; decide)] at q
   exact q
 .exact e0.hok.fresh (aRN (x.above y c (aje h)))
 .unfold start
  show _=N.length
  rw [aUV,aAt,List.length_replicate]
  lia
theorem ql {CX:ow} {P:Program} {w:World} {K:W.Frag} {mg:Str->Option Value} {base:Heap} {k:Nat} {f:Addr} {name qual:Str} {params:Arguments} {body:List Stmt} {scope:Scope} {dV kV doc pm cdv ct oc:Value} {an od:Option Addr}
  {osl:Array (Option Value)} {N ps:List Str} {sp:Sp} (lk:K.lookup f=some ⟨oc,od,.func (W.fnOf name qual params body scope dV kV doc pm an cdv ct),osl⟩) (hcd:W.codeIn K cdv qual=true) (S:af N ps scope)
  (len:∀ vs H Q E,sp vs H Q E->vs.length=ps.length)
  (hbody:∀ (A:Around) (outer:List Env) (s:Shared) (H:Hp) (vs:List V) (Q:VK) (E:XK),aY k (A.deeper (envOfC qual scope s.heap.objs.size f cdv))->sp vs H Q E ->
   ∃ t,kL (jm CX P w K mg base N qual scope f cdv A outer s H E) body t/\t { nx:=λ_ H'=>Q .aV H',rt:=Q } (start N vs) H) :
  aH P w K mg base CX (k+1) f (W.fnOf name qual params body scope dV kV doc pm an cdv ct) ps sp:=by
 refine ⟨len,λA outer s H args us vs Q E hr e0 hb r kZ=>?_⟩
 have hl:=len _ _ _ _ kZ
 have KX:K.In s.heap:=e0.mod.wA.keeps λb o e=>(e0.bs b o e).1
 have lim:s.heap.NoLimit:=e0.mod.nolimit.keeps λb o e=>(e0.bs b o e).1
 have hkind:∀ y∈ps.zip us,scope.names.lookup y.1=some .local\/(scope.names.lookup y.1=some .cell/\((cellsFrom (s.heap.objs.size+1) scope.names []).lookup y.1).isSome=true):=λ⟨n,v⟩ hy=>by
  rcases S.par n (List.of_mem_zip hy).1 with q | q
  .exact .inl q
  .exact .inr ⟨q,W.cellsFrom_some _ _ _ (.inl q)⟩
 refine codeAny_call_function hr.depth (KX _ _ lk) rfl S.co S.gen rfl (W.codeRec_of KX hcd) (hb _ _ _ _ ?_)
 refine wpAny_newFunctionEnv_cells S.kind hkind λenv he s1 x=>?_
 subst he
 refine ⟨lim.keeps x.toInCall.keep,codeAny_func ?_⟩
 obtain ⟨t,ht,hq⟩:=hbody A outer s H vs Q E (hr.deeper _) kZ
 have I:Inv (jm CX P w K mg base N qual scope f cdv A outer s H E) [] (start N vs) H s1:=UE S hr.hd e0 hl r x
 refine aPb (ht [] s1 (start N vs) H _ I hq) (λfl s' hs=>?_) λe s' hs=>hs
 have fin:∀ {σ':St} {H':Hp} {v:V} {u:Value},Inv (jm CX P w K mg base N qual scope f cdv A outer s H E) [] σ' H' s'->RelV v u->Q v H'->CE outer P w H s Q u s' :=
  λ{σ' H' v u} J rv q=>⟨v,H',J.os,J.bare,J.base,J.hok,rv,q⟩
 cases fl with
 | ret u =>
  obtain ⟨v,σ',H',J,rv,q⟩:=hs
  exact fin J rv q
 | next =>
  obtain ⟨σ',H',J,q⟩:=hs
  exact fin (v:=V.aV) (u:=Value.none) J rfl q
 | brk =>
  obtain ⟨_,_,_,q⟩:=hs
  exact False.elim q
 | cont =>
  obtain ⟨_,_,_,q⟩:=hs
  exact False.elim q
section
variable {X:Cx} {x:Str} {p pos:Pos} {e:Expr} {es:List Expr} {t:TA} {id T:String} {r:List V->Hp->VK->Prop}
def ve (r:List V->Hp->VK->Prop) (t:TA):TE:=λσ H Q=>t σ H λvs H1=>r vs H1 Q
theorem S5 (hc:aU X (.builtin id) r) (hg:Gl X x) (hm:X.mg x=none) (hv:bootBuiltins x=some (.builtin id)) (ha:PA X (e :: es) t) (hn:x ≠ "__name__" := by decide) (hdb:(x == ("__debug__" : Str))=false:=by decide)
  (he:starEach (e :: es) X.env=(false,eval e X.env) :: starEach es X.env:=by rfl) (hpl:(backTo pos (starEach es X.env)).any (·.1)=false:=by rfl):PE X (.Call (.Name x p) (e :: es) [] pos) (ve r t):=by
 intro pins s σ H Q I h
 refine aSv (oh I hg hm hv ?_ hn hdb)
 exact PyProof.Rows.callWith_builtin1 (kR (ha pos pins s σ H _ I h) λus s1 vs H1 I1 r1 q1=>hc pins s1 σ H1 vs us Q I1 r1 q1) he hpl
theorem UD (hc:aU X (.type T) r) (hg:Gl X x) (hm:X.mg x=none) (hv:bootBuiltins x=some (.type T)) (ha:PA X (e :: es) t) (hn:x ≠ "__name__" := by decide) (hdb:(x == ("__debug__" : Str))=false:=by decide)
  (he:starEach (e :: es) X.env=(false,eval e X.env) :: starEach es X.env:=by rfl) (hpl:(backTo pos (starEach es X.env)).any (·.1)=false:=by rfl):PE X (.Call (.Name x p) (e :: es) [] pos) (ve r t):=by
 intro pins s σ H Q I h
 refine aSv (oh I hg hm hv ?_ hn hdb)
 exact aCw (kR (ha pos pins s σ H _ I h) λus s1 vs H1 I1 r1 q1=>hc pins s1 σ H1 vs us Q I1 r1 q1) he hpl
theorem Va (hc:aU X (.type T) r) (hg:Gl X x) (hm:X.mg x=none) (hv:bootBuiltins x=some (.type T)) (hn:x ≠ "__name__" := by decide) (hdb:(x == ("__debug__" : Str))=false:=by decide) :
  PE X (.Call (.Name x p) [] [] pos) (ve r uX):=by
 intro pins s σ H Q I h
 refine aSv (oh I hg hm hv ?_ hn hdb)
 exact PyProof.Rows.callWith_type0 (hc pins s σ H [] [] Q I .nil h)
end
end L2
namespace HT
open PySem PyProof.Rows
def lexLt:List Int->List Int->Bool
 | [],[]=>false
 | [],_ :: _=>true
 | _ :: _,[]=>false
 | x :: xs,y :: ys=>if x=y then lexLt xs ys else decide (x<y)
theorem aI (x y:Int) (xs ys:List Int):lexLt (x :: xs) (y :: ys)=if x=y then lexLt xs ys else decide (x<y):=rfl
theorem cD:lexLt [] []=false:=rfl
theorem Mc (y:Int) (ys:List Int):lexLt [] (y :: ys)=true:=rfl
theorem aW (x:Int) (xs:List Int):lexLt (x :: xs) []=false:=rfl
theorem Le (A:Around) (s:Shared) (a:Int) (t:Tok) (c:Int) (u:Tok):∃ e,SeqAt.EqAt A s (.int a t) (.int c u) e/\(e=true↔a=c) :=
 ⟨(a == c),SeqAt.EqAt.int_int a t c u,by simp⟩
theorem TZ (A:Around) (s:Shared) (a:Int) (t:Tok) (c:Int) (u:Tok) (prog:Program) (w:World) (E:Value->Shared->Prop) (Q:Value->Shared->Prop) (h:Q (.bool (decide (a<c))) s) :
  wpAny (model prog w) A (richCompare .Lt (.int a t) (.int c u)) Q E s :=
 (PyProof.Rows.lt_int h:wpAny (model prog w) A (compareOp .Lt (.int a t) (.int c u)) Q E s)
section
open PySem.SeqAt
open PySem.AutoSeq1 (wpAny_loadPart')
open PySem.MeetsSeq PySem.MeetsSeq2 PySem.MeetsSeq3
theorem Wg (l b:Addr) (items items2:Array Value) (n n2:Nat) (dd dd2:Option Addr) (sl sl2:Array (Option Value)) (ns ms:List Int) (hi:IntsAre items.toList ns) (hj:IntsAre items2.toList ms) :
  Meets (Builtin.«tuple.__lt__» ⟨[.ref l,.ref b],[]⟩)
   (λ_ R s=>s.heap.get? l=some { cls:=.type "tuple",dict:=dd,data:=.seq items n,slots:=sl }/\s.heap.get? b=some { cls:=.type "tuple",dict:=dd2,data:=.seq items2 n2,slots:=sl2 } /\
    R (.ok (.ret (.bool (lexLt ns ms)))) s) :=
 .of_wp λprog w A R s h=>by
  obtain ⟨hp,g,d,tk,os⟩:=s; obtain ⟨hl,hb,h⟩:=h
  have f2:=AutoSeq1.sub_tuple_tuple
  have z1:items.size=ns.length:=by rw [← hi.length]; simp
  have z2:items2.size=ms.length:=by rw [← hj.length]; simp
  wp_walk using wpAny_loadPart' hl,wpAny_loadPart' hb,wpAny_forIn_list _ (λrest b s'=>b.1=none/\s'=⟨hp,g,d,tk,os⟩/\∃ (vs ws:List Value) (ns' ms':List Int),rest=vs.zip ws /\
   IntsAre vs ns'/\IntsAre ws ms'/\ns'.length+items2.size=ms'.length+items.size/\R (.ok (.ret (.bool (lexLt ns' ms')))) ⟨hp,g,d,tk,os⟩) _
  case turn =>
   rintro ⟨y,x⟩ rest b s' ⟨hb',rfl,vs,ws,ns',ms',hz,rC,hwi,hlen,hR⟩
   cases rC with
   | nil=>rw [List.zip_nil_left] at hz; cases hz
   | cons a t rB =>
    cases hwi with
    | nil=>rw [List.zip_nil_right] at hz; cases hz
    | cons c u rA =>
     rw [acn] at hz
     injection hz with hyx hrest
     injection hyx with hy hx
     subst hy hx
     rw [aI] at hR
     simp only [bc9] at hlen
     obtain ⟨e,he,hiff⟩:=Le A.in1 ⟨hp,g,d,tk,os⟩ a t c u
     refine a6w (he prog w _ _ ?_)
     cases e with
     | true =>
      rw [atn (hiff.mp rfl)] at hR
      wp_walk
      exact ⟨rfl,rfl,_,_,_,_,hrest,rB,rA,by lia,hR⟩
     | false =>
      rw [amU (λq=>absurd (hiff.mpr q) aPi)] at hR
      have C3:=TZ A.in1 ⟨hp,g,d,tk,os⟩ a t c u prog w
      wp_walk using C3
      exact ⟨_,rfl,by simpa using hR⟩
  case fin =>
   rintro ⟨b1,b2⟩ s' ⟨hb',rfl,vs,ws,ns',ms',hz,rC,hwi,hlen,hR⟩
   simp only at hb'
   subst hb'
   have hv:lexLt ns' ms'=decide (items.size<items2.size):=by
    cases rC with
    | nil =>
     cases hwi with
     | nil =>
      simp only [aIZ] at hlen
      rw [cD]
      exact (aWh (by lia)).symm
     | cons c u hw =>
      simp only [aIZ,bc9] at hlen
      rw [Mc]
      exact (aGg (by lia)).symm
    | cons a t hv =>
     cases hwi with
     | nil =>
      simp only [aIZ,bc9] at hlen
      rw [aW]
      exact (aWh (by lia)).symm
     | cons c u hw =>
      rw [acn] at hz
      cases hz
   rw [hv] at hR
   wp_walk
   exact ⟨_,rfl,by simpa [Builtin.Tuple.tupleCompareSizes] using hR⟩
  case h =>
   exact ⟨rfl,rfl,items.toList,items2.toList,ns,ms,rfl,hi,hj,by lia,h⟩
end
section
variable {prog:Program} {w:World} {A:Around} {E:Value->Shared->Prop} {s:Shared}
theorem jN {l b:Addr} {items items2:Array Value} {ns ms:List Int} {Q:Value->Shared->Prop} (hl:IsTup s.heap l items) (hb:IsTup s.heap b items2) (hi:IntsAre items.toList ns) (hj:IntsAre items2.toList ms)
  (hu:A.units<cLine) (h:Q (.bool (lexLt ns ms)) s):wpAny (model prog w) A (compareOp .Lt (.ref l) (.ref b)) Q E s:=by
 obtain ⟨⟨cls,dd,data,sl⟩,ho,hc,n,hd⟩:=id hl
 obtain ⟨⟨DH,dd2,data2,sl2⟩,ho2,hc2,n2,hd2⟩:=id hb
 simp only at hc hd hc2 hd2
 subst hc hd hc2 hd2
 exact richCompare_meets_room (op:=.Lt) ⟨_,ho,rfl⟩ ⟨_,ho2,rfl⟩ PySem.F.slot_tuple_lt PySem.F.entry_tuple_lt (PySem.F.args_tuple_lt_2 _ _) (Wg l b items items2 n n2 dd dd2 sl sl2 ns ms hi hj)
  ⟨ho,ho2,show Value.bool (lexLt ns ms)≠Value.notImplemented/\Q (.bool (lexLt ns ms)) s from ⟨(λx=>nomatch x),h⟩⟩ hu
def fY (n d:Nat):Option Int->Nat
 | none=>d
 | some v=>if v<0 then (v+(n:Int)).toNat else min v.toNat n
theorem mC (n d:Nat):fY n d none=d:=rfl
theorem kj (n d k:Nat):fY n d (some (k:Int))=min k n:=by
 show (if (k:Int)<0 then ((k:Int)+(n:Int)).toNat else min (k:Int).toNat n)=min k n
 rw [amU (by lia),Int.toNat_natCast]
end
end HT
namespace L2
open PySem PySem.Spec PyProof.Rows
abbrev TO:=St->Hp->(Option Int->Hp->Prop)->Prop
def PO (X:Cx) (e:Option Expr) (t:TO):Prop :=
 ∀ (pins:List (Addr×Obj)) (s:Shared) (σ:St) (H:Hp) (Q:Option Int->Hp->Prop),Inv X pins σ H s->t σ H Q ->
  wpAny (model X.prog X.w) X.A (evalPart e X.env) (λu s'=>∃ o H',Inv X pins σ H' s'/\IsPart u o/\Q o H') X.xe s
def R8:TO:=λ_ H Q=>Q none H
def uU (t:TE):TO:=λσ H Q=>t σ H λx H1=>∃ i,x=.int i/\Q (some i) H1
theorem yj {ns:List Int}:∀ {us:List Value},Vals (ns.map V.int) us->IntsAre us ns:=by
 induction ns with
 | nil=>intro us r; rw [map_nil] at r; cases r; exact .nil
 | cons n ns ih =>
  intro us r
  rw [aWO] at r
  cases r with
  | cons r1 r2 =>
   obtain ⟨t,e⟩:=r1
   subst e
   exact .cons n t (ih r2)
section
variable {X:Cx} {e:Expr} {te:TE} {lo hi:Option Expr} {tl th:TO} {pos p2:Pos}
theorem ou:PO X none R8:=by
 intro pins s σ H Q I h
 rw [evalPart_none]
 exact adj ⟨none,H,I,.none,h⟩
theorem pB (h:PE X e te):PO X (some e) (uU te):=by
 intro pins s σ H Q I hw
 rw [evalPart_some]
 refine cT (h pins s σ H _ I hw) λu s1 x H1 I1 r1 q1=>?_
 obtain ⟨i,rfl,q⟩:=q1
 obtain ⟨t,rfl⟩:=r1
 exact ⟨some i,H1,I1,.int i t,q⟩
def Gv (X:Cx) (r:V->Option Int->Option Int->Hp->VK->Prop):Prop :=
 ∀ (pins:List (Addr×Obj)) (s:Shared) (σ:St) (H:Hp) (x:V) (v vl vu:Value) (lo hi:Option Int) (sl:Addr) (Q:VK),Inv X pins σ H s->RelV x v->s.heap.IsSliceOf sl vl vu .none->IsPart vl lo->IsPart vu hi->r x lo hi H Q ->
  ∃ T id,typeLookup (.type T) "__getitem__" = pure (some (.builtin id))/\s.TypeIs v T/\wpAny (model X.prog X.w) X.A (getItem v (.ref sl)) (EP X pins σ Q) X.xe s
def Nh (r:V->Option Int->Option Int->Hp->VK->Prop) (te:TE) (tl th:TO):TE:=λσ H Q=>te σ H λx H1=>tl σ H1 λl H2=>th σ H2 λu H3=>r x l u H3 Q
theorem KR {r:V->Option Int->Option Int->Hp->VK->Prop} (hr:Gv X r) (he:PE X e te) (hl:PO X lo tl) (hu:PO X hi th):PE X (.Subscript e (.Slice lo hi none p2) pos) (Nh r te tl th):=by
 intro pins s σ H Q I h
 refine Subscript_ (cT (he pins s σ H _ I h) λv s1 x H1 I1 r1 q1=>?_)
 refine wpAny_Slice (bH (hl pins s1 σ H1 _ I1 q1) λvl s2 ⟨l,H2,I2,pl,q2⟩=>bH (hu pins s2 σ H2 _ I2 q2) λvu s3 ⟨u,H3,I3,pu,q3⟩=>?_)
 rw [evalPart_none]
 refine adj ?_
 have I4:Inv X pins σ H3 { s3 with heap:=s3.heap.push { cls:=.type "slice",data:=.fields #[vl,vu,.none] } }:=I3.kept (t':=s3.toks) λb ob q=>atD _ q
 obtain ⟨T,id,hT,ht,hg⟩:=hr pins { s3 with heap:=s3.heap.push { cls:=.type "slice",data:=.fields #[vl,vu,.none] } } σ H3 x v vl vu l u s3.heap.objs.size Q I4 r1 (Heap.IsSliceOf.new ..) pl pu q3
 show wpAny (model X.prog X.w) X.A (subscriptTail e (.Slice lo hi none p2) v (.ref s3.heap.objs.size)) (EP X pins σ Q) X.xe { s3 with heap:=s3.heap.push { cls:=.type "slice",data:=.fields #[vl,vu,.none] } }
 exact tail_any (ops:=[.ref s3.heap.objs.size,v]) ht hT hg (by with_unfolding_all rfl)
def jn (xs:List V) (lo hi:Option Int):List V:=(xs.drop (HT.fY xs.length 0 lo)).take (HT.fY xs.length xs.length hi - HT.fY xs.length 0 lo)
theorem VN (xs:List V) (lo hi:Option Int):(jn xs lo hi).length<=xs.length:=by
 unfold jn
 rw [a9v,ad0]
 lia
end
def kY (n:Nat) (i:Int):Option Nat:=if 0<=i then (if i<n then some i.toNat else none) else if -(n:Int)<=i then some (i+n).toNat else none
def cZ {α:Type} (xs:List α) (i:Int):Option α:=(kY xs.length i).bind λj=>xs[j]?
theorem J9 {n:Nat} {i:Int} {j:Nat} (h:kY n i=some j):seqIndex? i n=some j/\j<n /\ -(n:Int)<=i/\i<n:=by
 unfold kY at h
 by_cases h0:0<=i
 .rw [atn h0] at h
  by_cases h1:i<n
  .rw [atn h1] at h
   have e:i.toNat=j:=ado h
   exact ⟨by rw [seqIndex_of h0 h1,e],by lia,by lia,h1⟩
  .rw [amU h1] at h; cases h
 .rw [amU h0] at h
  by_cases h1 : -(n:Int)<=i
  .rw [atn h1] at h
   have e:(i+n).toNat=j:=ado h
   exact ⟨by rw [seqIndex_neg (by lia) h1,e],by lia,h1,by lia⟩
  .rw [amU h1] at h; cases h
theorem R7 {α:Type} {xs:List α} {i:Int} {v:α} (h:cZ xs i=some v):∃ j,seqIndex? i xs.length=some j/\xs[j]?=some v/\j<xs.length /\ -(xs.length:Int)<=i/\i<xs.length:=by
 unfold cZ at h
 cases e:kY xs.length i with
 | none=>rw [e] at h; cases h
 | some j =>
  rw [e] at h
  obtain ⟨h1,h2,h3,h4⟩:=J9 e
  exact ⟨j,h1,h,h2,h3,h4⟩
theorem ZS {α:Type} {xs:List α} {j:Nat} {v:α} (h:xs[j]?=some v):cZ xs (j:Int)=some v:=by
 have hj:j<xs.length:=(aw7.mp h).1
 have e:kY xs.length (j:Int)=some j:=by
  unfold kY
  rw [atn (by lia),atn (by lia)]; simp
 unfold cZ; rw [e]; exact h
theorem TY {α:Type} (xs:List α) (v:α):cZ (xs++[v]) (-1)=some v:=by
 have hl:(xs++[v]).length=xs.length+1:=by simp
 have e:kY (xs++[v]).length (-1)=some xs.length:=by
  unfold kY
  rw [hl,amU (by decide),atn (by lia)]
  congr 1
  lia
 unfold cZ
 rw [e]
 show (xs++[v])[xs.length]?=some v
 simp
def R6 (b:Expr):Prop:=∀ o i,subscripted b false o i=operate [o,i] (getItem o i)
def Gz (X:Cx) (r:R2):Prop :=
 ∀ (value slice:Expr) (pins:List (Addr×Obj)) (s:Shared) (σ:St) (H:Hp) (x y:V) (v u:Value) (Q:VK),Inv X pins σ H s->RelV x v->RelV y u->r x y H Q ->
  subscripted slice false v u=operate [v,u] (getItem v u)->wpAny (model X.prog X.w) X.A (subscriptTail value slice v u) (EP X pins σ Q) X.xe s
def WB (X:Cx) (id:String) (r:V->List V->Hp->VK->Prop):Prop :=
 ∀ (pins:List (Addr×Obj)) (s:Shared) (σ:St) (H:Hp) (x:V) (xs:List V) (v:Value) (us:List Value) (Q:VK),Inv X pins σ H s->RelV x v->Vals xs us->r x xs H Q ->
  wpAny (model X.prog X.w) X.A (call (.builtin id) (v :: us)) (EP X pins σ Q) X.xe s
section
variable {X:Cx} {a b:Expr} {ta tb:TE} {pos:Pos}
theorem aG {r:R2} (hr:Gz X r) (ha:PE X a ta) (hb:PE X b tb) (hs:R6 b):PE X (.Subscript a b pos) (yQ r ta tb):=by
 intro pins s σ H Q I h
 exact Subscript_ (rT ha hb I h λv u s2 x y H2 I2 rx ry q=>hr a b pins s2 σ H2 x y v u Q I2 rx ry q (hs _ _))
def vI (K:W.Frag):R2:=λx y H Q=>∃ p xs i v,x=.ref p/\y=.int i/\ak K H p xs/\cZ xs i=some v/\Q v H
theorem R5:Gz X (vI X.K):=by
 intro value slice pins s σ H x y v u Q I rx ry h hs
 obtain ⟨p,xs,i,z,rfl,rfl,hq,he,q⟩:=h
 cases rx
 obtain ⟨t,rfl⟩:=ry
 obtain ⟨its,r,pl,hz⟩:=I.list hq
 obtain ⟨j,h1,h2,h3,h4,h5⟩:=R7 he
 obtain ⟨w,ew,rw'⟩:=r.get h2
 have hl:=r.length
 have hn:=Ab
 have fin:EP X pins σ Q w s:=⟨z,H,I,rw',q⟩
 by_cases h0:0<=i
 .have hj:i.toNat=j:=by
   rw [seqIndex_of h0 h5] at h1
   exact ado h1
  exact item_listR pl.isList h0 (by lia) (by rw [hj]; simpa using ew) fin hs
 .have hj:(i+(its.toArray.size:Int)).toNat=j:=by
   rw [seqIndex_neg (by lia) h4] at h1
   rw [a5A,← hl]
   exact ado h1
  exact subscriptTail_builtinR (x:=w) pl.isList.typeIs slot_list_getitem.lookup
   (wpAny_getItem_list_neg (Q:=λr s'=>r=w/\EP X pins σ Q r s') pl.isList (by lia) (by rw [a5A] <;> lia) (by lia) (by rw [hj]; simpa using ew) ⟨rfl,fin⟩) hs
theorem U9 (its:List Value) (n j:Nat) (u:Value):Obj.mapSeq (·.setIfInBounds j u) { cls:=.type "list",data:=.seq its.toArray n }={ cls:=.type "list",data:=.seq (its.set j u).toArray n }:=by
 simp [Obj.mapSeq]
theorem Inv.lst {pins:List (Addr×Obj)} {σ:St} {H:Hp} {s:Shared} {p:Addr} {xs:List V} (I:Inv X pins σ H s) (h:H p=some (.lst xs)) :
  ∃ (its:List Value) (n:Nat),Vals xs its/\s.heap.get? p=some { cls:=.type "list",data:=.seq its.toArray n }/\xs.length<=sizeLine:=by
 obtain ⟨z,its,n,r,e⟩:=I.hok p _ h
 exact ⟨its,n,r,e,z⟩
theorem Inv.qX {pins:List (Addr×Obj)} {σ:St} {H:Hp} {s:Shared} {p:Addr} {xs ys:List V} {its its':List Value} {n n':Nat} {f:Obj->Obj} (I:Inv X pins σ H s) (h:H p=some (.lst xs))
  (ho:s.heap.get? p=some { cls:=.type "list",data:=.seq its.toArray n }) (hf:f { cls:=.type "list",data:=.seq its.toArray n }={ cls:=.type "list",data:=.seq its'.toArray n' }) (r:Vals ys its') (hz:ys.length<=sizeLine) (t:Nat) :
  Inv X pins σ (upd H p (.lst ys)) { s with heap:=s.heap.update p f,toks:=t }:=by
 have e:(s.heap.update p f).get? p=some { cls:=.type "list",data:=.seq its'.toArray n' }:=by
  rw [arh f ho (by rw [hf] <;> rfl),hf]
 refine I.write (x:=p) (e:=p) (by rw [h]; trivial) (.inl rfl) (λb u hb q=>(a4m _ _ (a38 hb)).trans q) ⟨_,e⟩ ?_
 exact ⟨hz,its',n',r,e⟩
def vF:V->V->V->Hp->(Hp->Prop)->Prop:=λo i v H Q=>∃ p xs k j,o=.ref p/\i=.int k/\H p=some (.lst xs)/\kY xs.length k=some j/\Q (upd H p (.lst (xs.set j v)))
theorem uv:yq X vF:=by
 intro pins s σ H o i v ov iv u Q I ro ri rv h
 obtain ⟨p,xs,k,j,rfl,rfl,hp,hj,q⟩:=h
 cases ro
 obtain ⟨t,rfl⟩:=ri
 obtain ⟨its,n,r,ho,hz⟩:=I.lst hp
 obtain ⟨h1,h2,h3,h4⟩:=J9 hj
 have hl:=r.length
 have hn:=Ab
 have I':Inv X pins σ (upd H p (.lst (xs.set j v))) { s with heap:=s.heap.update p (Obj.mapSeq (·.setIfInBounds j u)) } :=
  I.qX hp ho (U9 its n j u) (r.set rv j) (by rw [length_set]; exact hz) s.toks
 by_cases h0:0<=k
 .have hk:k.toNat=j:=by
   rw [seqIndex_of h0 h4] at h1
   exact ado h1
  exact W.ki_setAt ho h0 (by lia) (by rw [a5A,← hl]; exact h4) (by rw [hk]; exact ⟨_,I',q⟩)
 .have hk:(k+(its.toArray.size:Int)).toNat=j:=by
   rw [seqIndex_neg (by lia) h3] at h1
   rw [a5A,← hl]
   exact ado h1
  exact W.ki_setBack ho (by lia) (by rw [a5A,← hl]; exact h3) (by lia) (by rw [hk]; exact ⟨_,I',q⟩)
theorem V2 (lo hi:Option Int) (n:Nat):(sliceBounds lo hi none n).1=((HT.fY n 0 lo:Nat):Int)/\(sliceBounds lo hi none n).2.1=((HT.fY n n hi:Nat):Int)/\(sliceBounds lo hi none n).2.2=1:=by
 refine ⟨?_,?_,rfl⟩
 .cases lo with
  | none=>simp [sliceBounds,HT.fY]
  | some i =>
   simp only [sliceBounds,HT.fY,Option.getD_none,show (1:Int) > 0 by decide,a3p]
   by_cases h:i<0
   .simp only [h,a3p] <;> lia
   .simp only [h,aEJ] <;> lia
 .cases hi with
  | none=>simp [sliceBounds,HT.fY]
  | some i =>
   simp only [sliceBounds,HT.fY,Option.getD_none,show (1:Int) > 0 by decide,a3p]
   by_cases h:i<0
   .simp only [h,a3p] <;> lia
   .simp only [h,aEJ] <;> lia
theorem Wf (its:List Value) (lo hi:Option Int):slicePick its.toArray lo hi none=((its.drop (HT.fY its.length 0 lo)).take (HT.fY its.length its.length hi - HT.fY its.length 0 lo)).toArray:=by
 obtain ⟨h1,h2,h3⟩:=V2 lo hi its.toArray.size
 unfold slicePick
 rw [h1,h2,h3]
 simp only [sliceRange_one,pick_run,a5A] <;> rfl
def vE (K:W.Frag):V->Option Int->Option Int->Hp->VK->Prop:=λx lo hi H Q=>∃ a xs,x=.ref a/\ak K H a xs/\∀ p,H p=none->Q (.ref p) (upd H p (.lst (jn xs lo hi)))
theorem R4:Gv X (vE X.K):=by
 intro pins s σ H x v vl vu lo hi sl Q I rx hs pl pu h
 obtain ⟨a,xs,rfl,hx,q⟩:=h
 cases rx
 obtain ⟨its,r,ht,hz⟩:=I.list hx
 have hlen:=r.length
 refine ⟨"list",_,slot_list_getitem.lookup,ht.isList.typeIs,?_⟩
 refine wpAny_getItem_list_slice ht.isList hs pl pu .none (by simp) ?_ (by rw [a5A] <;> lia)
 rw [Wf,← hlen]
 refine ⟨.ref s.heap.objs.size,_,I.laid (t':=s.toks) (o:=.lst (jn xs lo hi)) (λb ob q=>atD _ q) (aNS _) ?_,rfl,q _ (I.hok.fresh (aNS _))⟩
 exact ⟨ay9 (VN xs lo hi) hz,_,0,(r.drop (HT.fY xs.length 0 lo)).take (HT.fY xs.length xs.length hi - HT.fY xs.length 0 lo),aMS _ rfl⟩
def fC:V->Bool
 | .aV=>true
 | .bl _=>true
 | .int _=>true
 | .str _=>true
 | _=>false
def nZ:V->V->Bool
 | .aV,.aV=>true
 | .bl a,.bl b=>a == b
 | .bl a,.int b=>(if a then 1 else 0) == b
 | .int a,.bl b=>a == (if b then 1 else 0)
 | .int a,.int b=>a == b
 | .str a,.str b=>a == b
 | _,_=>false
theorem Rp {A:Around} {s:Shared} {y x:V} {u v:Value} (ry:RelV y u) (rx:RelV x v) (fy:fC y=true) (fx:fC x=true):SeqAt.EqAt A s u v (nZ y x):=by
 cases y with
 | aV =>
  cases ry
  cases x with
  | aV=>cases rx; exact SeqAt.EqAt.same _
  | bl b=>cases rx; exact SeqAt.EqAt.none_bool b
  | int b=>obtain ⟨t,rfl⟩:=rx; exact SeqAt.EqAt.none_int b t
  | str b=>obtain ⟨t,rfl⟩:=rx; exact SeqAt.EqAt.none_str b t
  | _=>exact absurd (show false=true from fx) aPi
 | bl a =>
  cases ry
  cases x with
  | aV=>cases rx; exact SeqAt.EqAt.bool_none a
  | bl b=>cases rx; exact SeqAt.EqAt.bool_bool a b
  | int b=>obtain ⟨t,rfl⟩:=rx; exact SeqAt.EqAt.bool_int a b t
  | str b=>obtain ⟨t,rfl⟩:=rx; exact SeqAt.EqAt.bool_str a b t
  | _=>exact absurd (show false=true from fx) aPi
 | int a =>
  obtain ⟨t',rfl⟩:=ry
  cases x with
  | aV=>cases rx; exact SeqAt.EqAt.int_none a t'
  | bl b=>cases rx; exact SeqAt.EqAt.int_bool a t' b
  | int b=>obtain ⟨t,rfl⟩:=rx; exact SeqAt.EqAt.int_int a t' b t
  | str b=>obtain ⟨t,rfl⟩:=rx; exact SeqAt.EqAt.int_str a t' b t
  | _=>exact absurd (show false=true from fx) aPi
 | str a =>
  obtain ⟨t',rfl⟩:=ry
  cases x with
  | aV=>cases rx; exact SeqAt.EqAt.str_none a t'
  | bl b=>cases rx; exact SeqAt.EqAt.str_bool a t' b
  | int b=>obtain ⟨t,rfl⟩:=rx; exact SeqAt.EqAt.str_int a t' b t
  | str b=>obtain ⟨t,rfl⟩:=rx; exact SeqAt.EqAt.str_str a t' b t
  | _=>exact absurd (show false=true from fx) aPi
 | _=>exact absurd (show false=true from fy) aPi
def jW (x:V) (u:Value):Bool:=match u with
 | .none=>nZ .aV x
 | .bool b=>nZ (.bl b) x
 | .int i _=>nZ (.int i) x
 | .str z _=>nZ (.str z) x
 | _=>false
theorem Jk {x y:V} {u:Value} (r:RelV y u) (f:fC y=true):jW x u=nZ y x:=by
 cases y with
 | aV=>cases r; rfl
 | bl b=>cases r; rfl
 | int i=>obtain ⟨t,rfl⟩:=r; rfl
 | str z=>obtain ⟨t,rfl⟩:=r; rfl
 | _=>exact absurd (show false=true from f) aPi
theorem xS {x:V}:∀ {xs:List V} {us:List Value},Vals xs us->xs.all fC=true->us.any (jW x)=xs.any λy=>nZ y x
 | _,_,.nil,_=>rfl
 | y :: xs,u :: us,.cons r t,f=>by
  rw [all_cons,ba6] at f
  rw [any_cons,any_cons,Jk r f.1,xS t f.2]
theorem x6 {A:Around} {s:Shared} {x:V} {v:Value} (rx:RelV x v) (fx:fC x=true):∀ {xs:List V} {us:List Value},Vals xs us->xs.all fC=true->∀ u∈us,SeqAt.EqAt A s u v (jW x u)
 | _,_,.nil,_=>λu hu=>by cases hu
 | y :: xs,u :: us,.cons r t,f=>λu' hu=>by
  rw [all_cons,ba6] at f
  rcases ac0.mp hu with rfl | hu
  .rw [Jk r f.1]; exact Rp r rx f.1 fx
  .exact x6 rx fx t f.2 u' hu
def rm (x:V) (xs:List V):Bool:=xs.any λy=>nZ y x
def yW (K:W.Frag) (neg:Bool):R2:=λx y H Q=>∃ p xs,y=.ref p/\(ak K H p xs\/bG K H p xs)/\fC x=true/\xs.all fC=true/\Q (.bl (if neg then !rm x xs else rm x xs)) H
theorem UC:gz X (compareOp .In) (yW X.K false):=by
 intro pins s σ H x y v u Q I rx ry h
 obtain ⟨p,xs,rfl,hq,fx,fs,q⟩:=h
 cases ry
 rcases hq with hq | hq
 .obtain ⟨its,r,pl,hz⟩:=I.list hq
  refine SeqAt.in_listAt (jW x) pl.isList (λw hw=>x6 rx fx r fs w (by simpa using hw)) ⟨.bl _,H,I,rfl,?_⟩
  rw [show its.toArray.any (jW x)=its.any (jW x) by simp,xS r fs]
  exact q
 .obtain ⟨its,r,pl,hz⟩:=I.tuple hq
  refine SeqAt.in_tupleAt (jW x) pl (λw hw=>x6 rx fx r fs w (by simpa using hw)) ⟨.bl _,H,I,rfl,?_⟩
  rw [show its.toArray.any (jW x)=its.any (jW x) by simp,xS r fs]
  exact q
theorem V1:gz X (compareOp .NotIn) (yW X.K true):=by
 intro pins s σ H x y v u Q I rx ry h
 obtain ⟨p,xs,rfl,hq,fx,fs,q⟩:=h
 cases ry
 rcases hq with hq | hq
 .obtain ⟨its,r,pl,hz⟩:=I.list hq
  refine SeqAt.notIn_listAt (jW x) pl.isList (λw hw=>x6 rx fx r fs w (by simpa using hw)) ⟨.bl _,H,I,rfl,?_⟩
  rw [show its.toArray.any (jW x)=its.any (jW x) by simp,xS r fs]
  exact q
 .obtain ⟨its,r,pl,hz⟩:=I.tuple hq
  refine SeqAt.notIn_tupleAt (jW x) pl (λw hw=>x6 rx fx r fs w (by simpa using hw)) ⟨.bl _,H,I,rfl,?_⟩
  rw [show its.toArray.any (jW x)=its.any (jW x) by simp,xS r fs]
  exact q
theorem V0:aU X (.builtin "len") (λxs H Q=>∃ p ys,xs=[.ref p]/\(ak X.K H p ys\/bG X.K H p ys)/\Q (.int ys.length) H):=by
 intro pins s σ H xs us Q I r h
 obtain ⟨p,ys,rfl,hq,q⟩:=h
 obtain ⟨u,rfl,rx⟩:=vals1 r
 cases rx
 have hn:=Ab
 rcases hq with hq | hq
 .obtain ⟨its,r',pl,hz⟩:=I.list hq
  have hlen:=r'.length
  exact Calls.call_len_list pl.isList (by simp only [a5A] <;> lia) ⟨.int ys.length,H,I.tok _,⟨s.toks+1,by rw [a5A,hlen]⟩,q⟩
 .obtain ⟨its,r',pl,hz⟩:=I.tuple hq
  have hlen:=r'.length
  exact len_tuple pl (by simp only [a5A] <;> lia) ⟨.int ys.length,H,I.tok _,⟨s.toks+1,by rw [a5A,hlen]⟩,q⟩
theorem VZ:aU X (.type "list") (λxs H Q=>∃ p ys,xs=[.ref p]/\(ak X.K H p ys\/bG X.K H p ys)/\∀ l,H l=none->Q (.ref l) (upd H l (.lst ys))):=by
 intro pins s σ H xs us Q I r h
 obtain ⟨p,ys,rfl,hq,q⟩:=h
 obtain ⟨u,rfl,rx⟩:=vals1 r
 cases rx
 have fin:∀ (its:List Value),Vals ys its->ys.length<=sizeLine->∀ (h':Heap) (c':Nat),(∀ b o',s.heap.get? b=some o'->h'.get? b=some o') ->
   h'.get? s.heap.objs.size=some { cls:=.type "list",dict:=none,data:=.seq its.toArray c',slots:=#[] }->EP X pins σ Q (.ref s.heap.objs.size) { s with heap:=h' }:=λits r' hz h' c' kp e =>
  ⟨.ref s.heap.objs.size,_,I.laid (t':=s.toks) kp (aNS _) (show aJ X.prog X.w _ h' _ (.lst ys) from ⟨hz,its,c',r',e⟩),rfl,q _ (I.hok.fresh (aNS _))⟩
 rcases hq with hq | hq
 .obtain ⟨its,r',pl,hz⟩:=I.list hq
  have hlen:=r'.length
  obtain ⟨o,ho,hc,n,hd⟩:=pl.isList
  exact call_list_seq p (.inl rfl) ho hc hd (λh' c' kp e=>fin its r' hz h' c' kp e) (by simp only [a5A] <;> lia)
 .obtain ⟨its,r',pl,hz⟩:=I.tuple hq
  have hlen:=r'.length
  obtain ⟨o,ho,hc,n,hd⟩:=pl
  exact call_list_seq p (.inr rfl) ho hc hd (λh' c' kp e=>fin its r' hz h' c' kp e) (by simp only [a5A] <;> lia)
def GI (K:W.Frag) (T:String) (x:V) (H:Hp):Prop:=match x with
 | .str _=>T = "str"
 | .int _=>T = "int"
 | .ref p=>(T = "list" /\ ∃ xs,ak K H p xs)\/(T = "tuple" /\ ∃ o,K.lookup p=some o/\o.cls=.type "tuple" /\ o.dict=none) \/
   (T = "dict" /\ ((∃ kvs,H p=some (.dK kvs))\/∃ kvs,H p=some (.dT kvs)))\/(T = "set" /\ ∃ S n,H p=some (.set S n))
 | _=>False
theorem Ro {pins:List (Addr×Obj)} {σ:St} {H:Hp} {s:Shared} {T:String} {x:V} {v:Value} (I:Inv X pins σ H s) (r:RelV x v) (ty:GI X.K T x H) :
  s.TypeIs v T/\∀ a,v=.ref a->∃ ob,s.heap.get? a=some ob/\ob.dict=none:=by
 cases x with
 | str z =>
  obtain ⟨t,rfl⟩:=r
  cases (show T = "str" from ty)
  exact ⟨typeIs_str s z t,λ_ e=>nomatch e⟩
 | int i =>
  obtain ⟨t,rfl⟩:=r
  cases (show T = "int" from ty)
  exact ⟨typeIs_int s i t,λ_ e=>nomatch e⟩
 | ref p =>
  cases r
  rcases ty with ⟨rfl,xs,hq⟩ | ⟨rfl,o,hk,hc,hd⟩ | ⟨rfl,hk⟩ | ⟨rfl,S,n,hk⟩
  .obtain ⟨its,_,pl,_⟩:=I.list hq
   refine ⟨pl.isList.typeIs,λa e=>?_⟩
   cases e
   obtain ⟨o,n,e,c,hd,_⟩:=pl
   exact ⟨o,e,hd⟩
  .refine ⟨⟨o,I.dI p o hk,hc⟩,λa e=>?_⟩
   cases e
   exact ⟨o,I.dI _ o hk,hd⟩
  .have z:∃ o,s.heap.get? p=some o/\o.ExactDict:=by
    rcases hk with ⟨kvs,hk⟩ | ⟨kvs,hk⟩
    .obtain ⟨_,_,_,_,o,_,_,e,ex,_⟩:=I.hok p _ hk
     exact ⟨o,e,ex⟩
    .obtain ⟨_,_,_,_,o,_,_,e,ex,_⟩:=I.hok p _ hk
     exact ⟨o,e,ex⟩
   obtain ⟨o,e,ex⟩:=z
   refine ⟨⟨o,e,ex.1⟩,λa e2=>?_⟩
   cases e2
   exact ⟨o,e,ex.2.1⟩
  .obtain ⟨o,_,_,_,e,ex,_⟩:=I.hok p _ hk
   refine ⟨⟨o,e,ex.1⟩,λa e2=>?_⟩
   cases e2
   exact ⟨o,e,ex.2.1⟩
 | _=>exact False.elim ty
def BF (K:W.Frag) (T:String) (r:V->List V->Hp->VK->Prop) (to:TE) (t:TA):TE:=λσ H Q=>to σ H λx H1=>GI K T x H1/\t σ H1 λxs H2=>r x xs H2 Q
variable {o e:Expr} {es:List Expr} {to:TE} {t:TA} {name:Str} {apos cpos:Pos} {T id:String} {r:V->List V->Hp->VK->Prop}
theorem bK (pa:PlainAttrs T) (slot:Slot T name id) (hty:typeOf (.builtin id)=pure (.type "method_descriptor")) (hm:WB X id r) (ho:PE X o to) (ha:PA X (e :: es) t)
  (hbase:attributeBase o name X.env (eval o X.env)=eval o X.env:=by rfl)
  (hfew:((backTo cpos (starEach (e :: es) X.env)).all (λx=>!x.1) && (backToKw cpos (keywordEach [] X.env)).all (λx=>x.1.isSome)
   && decide ((e :: es).length+([]:List Keyword).length+(if ([]:List Keyword).isEmpty then 0 else 1)<30))=true:=by rfl)
  (hline:(apos.endLine == cpos.line)=true:=by rfl) (hs:starEach (e :: es) X.env=(false,eval e X.env) :: starEach es X.env:=by rfl) (hplain:(backTo cpos (starEach es X.env)).any (·.1)=false:=by rfl) :
  PE X (.Call (.Attribute o name apos) (e :: es) [] cpos) (BF X.K T r to t):=by
 intro pins s σ H Q I h
 refine wpAny_Call_method_late hbase hfew hline rfl (bH (ho pins s σ H _ I h) λv s1 ⟨x,H1,I1,r1,ty,q1⟩=>?_)
 obtain ⟨h1,h2⟩:=Ro I1 r1 ty
 refine ⟨T,id,pa,slot,hty,h1,h2,?_⟩
 have hA:=ha cpos pins s1 σ H1 _ I1 q1
 rw [hs] at hA ⊢
 refine ad1 (by show (false || (backTo cpos (starEach es X.env)).any (·.1))=false; rw [hplain] <;> rfl) (an4 ?_)
 exact bH hA λus s2 ⟨vs,H2,I2,r2,q2⟩=>hm pins s2 σ H2 x vs v us Q I2 r1 r2 q2
/- xs.append(e),list.index on a module's tuple .. are MtR facts of 06m -/
end
def A1 (X:Cx) (id:String) (r:V->List V->Hp->VK->Prop):Prop :=
 ∀ (pins:List (Addr×Obj)) (s:Shared) (σ:St) (H:Hp) (x:V) (xs:List V) (v:Value) (us:List Value) (Q:VK),Inv X pins σ H s->RelV x v->Vals xs us->r x xs H Q ->
  wpAny (model X.prog X.w) X.A (call (.builtin id) (v :: us)) (EP X pins σ Q) X.xe s
theorem Vals.one:∀ {x:V} {us:List Value},Vals [x] us->∃ u,us=[u]/\RelV x u
 | _,_,.cons r .nil=>⟨_,rfl,r⟩
section
variable {X:Cx} {pins:List (Addr×Obj)} {σ:St} {H:Hp} {s:Shared} {l b:Addr} {xs ys zs:List V}
theorem Inv.jO {its its':List Value} {n:Nat} {f:Array Value->Array Value} {t':Nat} (I:Inv X pins σ H s) (hH:H l=some (.lst xs))
  (e:s.heap.get? l=some { cls:=.type "list",data:=.seq its.toArray n }) (hf:f its.toArray=its'.toArray) (hv:Vals ys its') (hz:ys.length<=sizeLine) :
  Inv X pins σ (upd H l (.lst ys)) { s with heap:=s.heap.update l (Obj.mapSeq f),toks:=t' }:=by
 have q:=PySem.IsL.update e f
 rw [hf] at q
 refine I.write (x:=l) (e:=l) (by rw [hH]; exact trivial) (.inl rfl) (λb' u hb hu=>(a4m s.heap (Obj.mapSeq f) (a38 hb)).trans hu) ⟨_,q⟩ ?_
 exact ⟨hz,its',_,hv,q⟩
theorem Inv.CN {its:List Value} {t':Nat} (I:Inv X pins σ H s) (hv:Vals ys its) (hz:ys.length<=sizeLine) :
  Inv X pins σ (upd H s.heap.objs.size (.lst ys)) { s with heap:=s.heap.push { cls:=.type "list",data:=.seq its.toArray },toks:=t' } :=
 I.laid (λ_ _ q=>atD _ q) (aNS _) ⟨hz,its,0,hv,aMS _ rfl⟩
theorem Inv.fresh (I:Inv X pins σ H s):H s.heap.objs.size=none:=I.hok.fresh (aNS _)
theorem Inv.iP (I:Inv X pins σ H s) (hH:H l=some (.lst xs)):xs.length<=sizeLine/\∃ (its:List Value) (n:Nat),Vals xs its/\xs.length=its.length/\s.heap.get? l=some { cls:=.type "list",data:=.seq its.toArray n }:=by
 obtain ⟨z,its,n,r,e⟩:=I.hok l _ hH
 exact ⟨z,its,n,r,r.length,e⟩
theorem KQ {n:Nat} (h:n<=sizeLine):Builtin.List.listTooLong n=false:=by
 unfold Builtin.List.listTooLong
 exact aWh (by lia)
end
section
variable {X:Cx}
def R3:V->List V->Hp->VK->Prop:=λx vs H Q=>∃ l xs y,x=.ref l/\vs=[y]/\H l=some (.lst xs)/\xs.length<sizeLine/\Q .aV (upd H l (.lst (xs++[y])))
theorem ZG:A1 X "list.append" R3:=by
 intro pins s σ H x vs v us Q I rx rv h
 obtain ⟨l,xs,y,rfl,rfl,hH,hz,q⟩:=h
 cases rx
 obtain ⟨u,rfl,ru⟩:=rv.one
 obtain ⟨z,its,n,r,hl,e⟩:=I.iP hH
 refine call_meets F.slot_list_append ⟨_,e,rfl⟩ F.entry_list_append (F.args_list_append_2 _ _) (PySem.list_append l its.toArray n u (by rw [a5A]; lia)) ⟨e,?_⟩
 refine ⟨.aV,_,I.jO (its':=its++[u]) hH e (by simp) (r.append (.cons ru .nil)) ?_,rfl,q⟩
 rw [aUV,axk]
 lia
def RZ:V->List V->Hp->VK->Prop:=λx vs H Q=>∃ l b xs zs,x=.ref l/\vs=[.ref b]/\H l=some (.lst xs)/\H b=some (.lst zs)/\xs.length+zs.length<=sizeLine/\Q .aV (upd H l (.lst (xs++zs)))
theorem UB:A1 X "list.extend" RZ:=by
 intro pins s σ H x vs v us Q I rx rv h
 obtain ⟨l,b,xs,zs,rfl,rfl,hH,hB,hz,q⟩:=h
 cases rx
 obtain ⟨u,rfl,ru⟩:=rv.one
 cases ru
 obtain ⟨z,its,n,r,hl,e⟩:=I.iP hH
 obtain ⟨z2,its2,n2,r2,hl2,e2⟩:=I.iP hB
 have hsz:its.toArray.size+its2.toArray.size<=sizeLine:=by rw [a5A,a5A]; lia
 have m7:¬ (!its.toArray.isEmpty && Builtin.List.listTooLong (its.toArray.size+its2.toArray.size))=true:=by
  rw [KQ hsz,Bool.and_false]
  exact aPi
 refine call_meets F.slot_list_extend ⟨_,e,rfl⟩ F.entry_list_extend (F.args_list_extend_2 _ _)
  (AutoSeq1.list_extend_list_list_0 l its.toArray n b its2.toArray n2 m7 (by rw [a5A]; lia) (by lia)) ⟨e,e2,?_⟩
 refine ⟨.aV,_,I.jO (its':=its++its2) hH e (by simp) (r.append r2) ?_,rfl,q⟩
 rw [aUV]
 lia
end
end L2
namespace Mw
open PySem PySem.W PySem.Calls PyProof.Rows
theorem Wm {P:Params} {h:Heap}:∀ (ns:List Int) (vs:List Value),WellAll P h vs (ns.map WData.int)->IntsAre vs ns:=by
 intro ns
 induction ns with
 | nil =>
  intro vs w
  rw [map_nil] at w
  cases w
  exact .nil
 | cons n ns ih =>
  intro vs w
  rw [aWO] at w
  cases w with
  | cons a b =>
   cases a
   exact .cons _ _ (ih _ b)
theorem UA {l:OpenLaw} {n:Nat} (hn:l.most=some n) {P:Params} {h:Heap} {args:List WData} {vals:List Value}
  (hpre:l.row.toRowW.claim.pre args=true) (hwl:WellAll P h vals args) :
  ∃ a vs ns,vals=[Value.ref a]/\args=[WData.list (ns.map WData.int)]/\h.get? a=some { cls:=.type "list",data:=.seq vs.toArray }/\IntsAre vs ns/\ns.length<=n:=by
 have hsh:WShape.hasAll [] args [.list .int]=true:=(pre_splitW hpre).1
 have hc:l.pre.holds [] { args:=args }=true:=(pre_splitW hpre).2
 obtain ⟨d,r,rfl,h1,h2⟩:=hasAllW_cons hsh
 obtain rfl:=hasAllW_nil h2
 obtain ⟨xs,rfl,h3⟩:=hasW_list h1
 obtain ⟨ns,rfl⟩:=items_int h3
 have hlen:ns.length<=n:=by
  unfold OpenLaw.pre at hc
  have h4:(WTm.not (.lt (.lit (.int (n:Int))) (.len (.arg 0)))).holds [] { args:=[.list (ns.map .int)] }=true:=by
   have h4:=(holds_andW hc).1
   rw [hn] at h4
   exact h4
  have h5:=condW_of h4 (w_not (w_lt w_lit (w_len_list (w_arg rfl))))
  rw [aAt] at h5
  refine Nat.le_of_not_lt λq=>?_
  have q':(n:Int)<((ns.length:Nat):Int):=by lia
  first
   | (rw [aGg q'] at h5; exact absurd h5 (by decide))
   | (simp at h5; lia)
 cases hwl with
 | cons w1 w2 =>
  cases w2
  cases w1 with
  | list ho hall=>exact ⟨_,_,ns,rfl,rfl,ho,Wm ns _ hall,hlen⟩
theorem Uz (l:OpenLaw) (args:List WData):l.row.toRowW.claim.post args (.bool true) args=true :=
 postW_of (r:=l.row.toRowW) (X:=(true == true))
  (show WShape.has [] (.bool true) .bool=true by first | rfl | decide | simp [WShape.has,WShape.arms,WShape.armsAll])
  (show (WTm.eq .res (.lit (.bool true))).value [] { args:=args,res:=some (.bool true),after:=args }=some (.bool (true == true)) from w_eq_bool (w_res rfl) w_lit) rfl
theorem jr {l:OpenLaw} {n:Nat} {q:Program} {loose:List Str} {XP:(Str->Option Value)->Heap->Prop} {YP:World->Heap->Prop} {d:DefRec}
  (hn:l.most=some n) (hdf:d.params.defaults=[])
  (call:∀ (w:World) (s₀ s₁:Shared) (mg mb:Str->Option Value) (fa:Addr) (o:Obj) (pm cd doc:Value) (a:Addr) (vs:List Value) (ns:List Int),
   Ground q loose [] XP w s₀ mg mb s₁.heap->YP w s₁.heap ->
   s₁.heap.get? fa=some o->o.data=.func (docDef d.name d.params d.body d.scope pm cd doc)->s₁.heap.CodeRec cd d.name->mg d.name=some (.ref fa) ->
   s₁.heap.get? a=some { cls:=.type "list",data:=.seq vs.toArray }->IntsAre vs ns->ns.length<=n->s₁.gens=#[] ->
   codeAny (model l.prog w) callerA (.call (.ref fa) ⟨[.ref a],[]⟩) (λr s'=>r=.ok (.ret (.bool true))/\OldK s₁.heap s'.heap/\s'.os=s₁.os/\AllBare s'.gens) s₁) :
  WalkO q loose XP YP l.row.toRowW d [] (λf vs=>PySem.call f vs):=by
 intro w s₀ s₁ mg mb G Y fa o pm cd doc dV kV ho hd hcd hD hmg hg args vals as hpre hlay hrd hwl hlo
 obtain rfl:dV=.none:=Dflts.none hD hdf
 obtain rfl:kV=.none:=Dflts.noKw hD
 obtain ⟨a,vs,ns,rfl,rfl,hobj,hints,hlen⟩:=UA hn hpre hwl
 refine enter_call (codeAny_mono (call w s₀ s₁ mg mb fa o pm cd doc a vs ns G Y ho (fd_plain hd) hcd hmg hobj hints hlen hg) λr s' hq=>?_)
 obtain ⟨rfl,h2,h3,h4⟩:=hq
 exact ⟨.inl ⟨.bool true,.bool true,[],rfl,λ_=>rfl,.bool true,Uz l _,λ_=>⟨List.Pairwise.nil,λ_ hm=>(nomatch hm)⟩⟩,h2,h3,h4⟩
end Mw
namespace L2
open PySem PySem.Spec PyProof.Rows
theorem Fv:∀ {vs:List Value} {ns:List Int},IntsAre vs ns->Vals (ns.map V.int) vs
 | _,_,.nil=>.nil
 | _,_,.cons n t h=>.cons ⟨t,rfl⟩ (Fv h)
def pA (s:Stmt) (j:Nat):Stmt:=match s with
 | .ClassDef _ _ _ body _ _ _ _ _ _ _=>body.getD j (.Pass ⟨0,0,0,0⟩)
 | _=>.Pass ⟨0,0,0,0⟩
def ZV (s:Stmt):Arguments:=match s with
 | .FunctionDef _ a _ _ _ _ _ _ _ _=>a
 | _=>{ posonlyargs:=[],args:=[],vararg:=none,kwonlyargs:=[],kw_defaults:=[],kwarg:=none,defaults:=[] }
def ZL (s:Stmt):List Stmt:=match s with
 | .FunctionDef _ _ b _ _ _ _ _ _ _=>b
 | _=>[]
def Zg (s:Stmt):Scope:=match s with
 | .FunctionDef _ _ _ _ _ _ sc _ _ _=>sc
 | _=>{ kind:=.function,names:=[],isGenerator:=false,isCoroutine:=false }
abbrev bI:ow:=λ_ _ _ _ _ _=>False
abbrev E0:XK:=λ_ _ _=>False
theorem mH {X:Cx}:tY bI X E0:=λ_ _ _ _ _ _ _ h=>h.elim
structure bO (K:W.Frag) (x qual:Str) (st:Stmt) (f:Addr) (fd:FuncData):Prop where
 ex:∃ (oc:Value) (od:Option Addr) (kV doc pm:Value) (an:Option Addr) (cdv ct:Value) (osl:Array (Option Value)),
  fd=W.fnOf x qual (ZV st) (ZL st) (Zg st) .none kV doc pm an cdv ct/\K.lookup f=some ⟨oc,od,.func fd,osl⟩/\W.codeIn K cdv qual=true
 kp:W.keepIn K (.ref f)=true
section
variable {P:Program} {w:World} {K:W.Frag} {mg:Str->Option Value} {base:Heap}
theorem bO.ok {x qual:Str} {st:Stmt} {f:Addr} {fd:FuncData} {N ps:List Str} {k:Nat} {sp:Sp} (F:bO K x qual st f fd) (S:af N ps (Zg st)) (len:∀ vs H Q E,sp vs H Q E->vs.length=ps.length)
  (hbody:∀ (cdv:Value) (A:Around) (outer:List Env) (s:Shared) (H:Hp) (vs:List V) (Q:VK) (E:XK),aY k (A.deeper (envOfC qual (Zg st) s.heap.objs.size f cdv))->sp vs H Q E ->
   ∃ t,kL (jm bI P w K mg base N qual (Zg st) f cdv A outer s H E).qQ (ZL st) t/\t { nx:=λ_ H'=>Q .aV H',rt:=Q } (start N vs) H):aH P w K mg base bI (k+1) f fd ps sp:=by
 obtain ⟨oc,od,kV,doc,pm,an,cdv,ct,osl,rfl,lk,hcd⟩:=F.ex
 refine ql lk hcd S len λA outer s H vs Q E hr kZ=>?_
 obtain ⟨t,h,q⟩:=hbody cdv A outer s H vs Q E hr kZ
 exact ⟨t,h.qQ,q⟩
theorem bO.binds {x qual:Str} {st:Stmt} {f:Addr} {fd:FuncData} {ps:List Str} (F:bO K x qual st f fd)
  (h:∀ (kV doc pm:Value) (an:Option Addr) (cdv ct:Value) (us:List Value),us.length=ps.length->bindArgs (W.fnOf x qual (ZV st) (ZL st) (Zg st) .none kV doc pm an cdv ct) ⟨us,[]⟩=pure (ps.zip us)):Binds K fd ps []:=by
 obtain ⟨oc,od,kV,doc,pm,an,cdv,ct,osl,rfl,lk,hcd⟩:=F.ex
 exact .all (h kV doc pm an cdv ct)
theorem tX {x qual:Str} {st:Stmt} {f:Addr} {oc:Value} {od an:Option Addr} {osl:Array (Option Value)} {kV doc pm cdv ct:Value} (l:K.lookup f=some ⟨oc,od,.func (W.fnOf x qual (ZV st) (ZL st) (Zg st) .none kV doc pm an cdv ct),osl⟩)
  (c:W.codeIn K cdv qual=true) (k:W.keepIn K (.ref f)=true):bO K x qual st f (W.fnOf x qual (ZV st) (ZL st) (Zg st) .none kV doc pm an cdv ct):=⟨⟨oc,od,kV,doc,pm,an,cdv,ct,osl,rfl,l,c⟩,k⟩
end
theorem cY {A:Around} {k:Nat} (hr:aY k A):A.units+1<cLine:=Nat.lt_of_le_of_lt (Nat.add_le_add_left (by decide:1<=64) _) hr.units
theorem Zo {n:Nat} (h:n<=1000):n<sizeLine:=Nat.lt_of_le_of_lt h (by decide)
section
variable {X:Cx}
theorem pv (i:Nat) {x:Str} {pos:Pos} (hN:X.N[i]?=some x:=by rfl) (hv:uE X.env.scope x:=by first | exact Or.inl rfl | exact Or.inr (Or.inl rfl) | exact Or.inr (Or.inr rfl)) (hd:(x == ("__debug__" : Str))=false:=by decide)
  (hcd:(x == ("__classdict__" : Str))=false:=by decide):PE X (.Name x pos) (uR i):=QC hN hv hd hcd
end
def aq (H H':Hp):Prop:=∀ b o,H b=some o->H' b=some o
theorem aq.refl (H:Hp):aq H H:=λ_ _ h=>h
theorem aq.trans {H H1 H2:Hp} (a:aq H H1) (b:aq H1 H2):aq H H2:=λc o h=>b c o (a c o h)
theorem aq.free {H H':Hp} (e:aq H H') {l:Addr} (h:H' l=Option.none):H l=Option.none:=by
 cases q:H l with
 | none=>rfl
 | some o =>
  rw [e l o q] at h
  cases h
theorem aq.seq {K:W.Frag} {H H':Hp} {a:Addr} {xs:List V} (e:aq H H') (h:ak K H a xs):ak K H' a xs:=by
 rcases h with (h | ⟨o,h⟩) | h
 .exact .inl (.inl (e _ _ h))
 .exact .inl (.inr ⟨o,e _ _ h⟩)
 .exact .inr h
end L2
set_option maxHeartbeats 4000000
namespace L2
open PySem PySem.Spec PyProof.Rows
def bx (X:Cx) (N:List Str) (scope:Scope) (cl:List (Str×Addr)) (C:Addr) (s0:Shared) (H0:Hp) (fp:List Addr) (pins:List (Addr×Obj)):Cx :=
 { X with N:=N,s₀:=s0,H₀:=H0,env:=compEnvC scope cl C X.env,outer:=X.stack,stack:=X.stack,ex:=fp,fn:=λx=>scope.names.lookup x == some .cell,pn:=X.pn++pins,xe:=λ_ _=>False }
theorem yl {env:Env}:∀ (names:List (Str×NameKind)) (acc:List (Str×Addr)),(∀ p∈names,p.2=.free->∃ c,env.cells.lookup p.1=some c)->(∀ x c,acc.lookup x=some c->env.cells.lookup x=some c) ->
  ∃ cl,(forIn names acc λ(x:Str×NameKind) cs=>(match x with | (name,kind)=>if (kind == NameKind.free)=true then do let a ← cellOf env name; pure (ForInStep.yield ((name,a) :: cs)) else pure (ForInStep.yield cs):Sem (ForInStep (List (Str×Addr)))))=(pure cl:Sem (List (Str×Addr))) /\
   (∀ x c,cl.lookup x=some c->env.cells.lookup x=some c)/\(∀ x c,acc.lookup x=some c->cl.lookup x=some c)/\∀ p∈names,p.2=.free->∃ c,cl.lookup p.1=some c
 | [],acc,_,h=>⟨acc,rfl,h,λ_ _ e=>e,λ_ z=>nomatch z⟩
 | (n,k) :: r,acc,h,ha=>by
  by_cases hk:k=.free
  .subst hk
   obtain ⟨c,hc⟩:=h (n,.free) a5w rfl
   have ha':∀ x d,((n,c) :: acc).lookup x=some d->env.cells.lookup x=some d:=λx d e=>by
    rw [ah9] at e
    cases q:x == n with
    | true =>
     rw [q] at e
     have hxn:x=n:=by simpa using q
     subst hxn
     cases e
     exact hc
    | false =>
     rw [q] at e
     exact ha x d e
   obtain ⟨cl,e1,e2,e3,e4⟩:=yl r ((n,c) :: acc) (λp hp=>h p (amQ _ hp)) ha'
   have top:∃ d,cl.lookup n=some d:=⟨c,e3 n c (by rw [ah9]; simp)⟩
   refine ⟨cl,?_,e2,λx d e=>?_,λp hp hf=>?_⟩
   .rw [a5U]
    simp only [cellOf,hc,beq_self_eq_true,a3p]
    exact e1
   .cases q:x == n with
    | true =>
     have hxn:x=n:=by simpa using q
     subst hxn
     have z:=ha x d e
     rw [hc] at z; cases z
     exact e3 x c (by rw [ah9]; simp)
    | false=>exact e3 x d (by rw [ah9,q]; exact e)
   .rcases ac0.mp hp with rfl | hp
    .exact top
    .exact e4 p hp hf
  .obtain ⟨cl,e1,e2,e3,e4⟩:=yl r acc (λp hp=>h p (amQ _ hp)) ha
   have hb:(k == NameKind.free)=false:=by simpa using hk
   refine ⟨cl,?_,e2,e3,λp hp hf=>?_⟩
   .rw [a5U]
    simp only [hb,arS,aEJ]
    exact e1
   .rcases ac0.mp hp with rfl | hp
    .exact absurd hf hk
    .exact e4 p hp hf
theorem LR {α:Type} (f:Str->α->α) (x:Str):∀ l:List (Str×α),(l.map λp=>(p.1,f p.1 p.2)).lookup x=(l.lookup x).map (f x)
 | []=>rfl
 | (n,k) :: r=>by
  have ih:=LR f x r
  rw [aWO,ah9,ah9]
  cases q:x == n with
  | true =>
   have e:x=n:=by simpa using q
   subst e
   rfl
  | false=>exact ih
def rY (env:Env) (n:Str) (k:NameKind):NameKind:=if (k == NameKind.free && env.scope.kind == .function && env.kindOf n == some .cell)=true then .cell else k
theorem L7 (scope:Scope) (env:Env) (x:Str):(relabel scope env).names.lookup x=(scope.names.lookup x).map (rY env x):=by
 rw [← LR (rY env) x scope.names]
 show (scope.names.map _).lookup x=_
 congr 1
 refine ars λp _=>?_
 show (if _ then _ else _)=_
 unfold rY
 split <;> rfl
theorem L6 (env:Env) (n:Str) (k:NameKind):rY env n k=k\/(k=.free/\rY env n k=.cell):=by
 unfold rY
 by_cases h:(k == NameKind.free && env.scope.kind == .function && env.kindOf n == some .cell)=true
 .refine .inr ⟨?_,atn h⟩
  rw [ba6,ba6] at h
  exact aY8.mp h.1.1
 .exact .inl (amU h)
theorem Wz {scope:Scope} {env:Env} {x:Str} {k:NameKind} (h:scope.names.lookup x=some k) :
  (relabel scope env).names.lookup x=some k\/(k=.free/\(relabel scope env).names.lookup x=some .cell):=by
 rw [L7,h]
 rcases L6 env x k with q | ⟨q,q'⟩
 .exact .inl (a0A some q)
 .exact .inr ⟨q,a0A some q'⟩
theorem VY {scope:Scope} {env:Env} {x:Str} {k:NameKind} (h:(relabel scope env).names.lookup x=some k):∃ k',scope.names.lookup x=some k'/\(k'=k\/k'=.free):=by
 rw [L7] at h
 cases q:scope.names.lookup x with
 | none=>rw [q] at h; cases h
 | some k' =>
  rw [q] at h
  have h':rY env x k'=k:=ado h
  rcases L6 env x k' with z | ⟨z,_⟩
  .exact ⟨k',rfl,.inl (z.symm.trans h')⟩
  .exact ⟨k',rfl,.inr z⟩
theorem ZP {α:Type} {x:Str}:∀ {l:List (Str×α)} {k:α},l.lookup x=some k->(x,k)∈l
 | [],_,h=>by simp at h
 | (n,k) :: r,k',h=>by
  rw [ah9] at h
  cases hx:x == n with
  | true =>
   rw [hx] at h; cases h
   have:x=n:=by simpa using hx
   subst this
   exact a5w
  | false =>
   rw [hx] at h
   exact amQ _ (ZP h)
theorem Uy {prog:Program} {w:World} {A:Around} {s:Shared} {elt target iter:PySem.Expr} {ifs:List PySem.Expr} {scope:Scope} {pos:Pos} {it acc:Value} {env:Env} {R:Result->Shared->Prop} (I:Nat->Shared->Prop)
  (turn:∀ n s,I n s->wpAny (model prog w) A (pyNext it) (λr s1=>match r with
   | none=>R (.ok .next) s1
   | some v=>wpAny (model prog w) A (letOwnedTupleGo target it v) (λ_ s0=>wpAny (model prog w) A (assign target env v) (λ_ s2 =>
     wpAny (model prog w) A (forIn ifs true λc r=>if r=true then do let ok ← isTrue c env (eval c env); pure (ForInStep.yield ok) else pure (ForInStep.yield r)) (λok s3 =>
      if ok=true then wpAny (model prog w) A (eval elt env) (λx s4 =>
       wpAny (model prog w) A (call (.builtin "list.append") [acc,x]) (λ_ s5=>∃ m,m<n/\I m s5) (λ_ _=>False) s4) (λ_ _=>False) s3
      else ∃ m,m<n/\I m s3) (λ_ _=>False) s2) (λ_ _=>False) s0) (λ_ _=>False) s1) (λ_ _=>False) s)
  (n:Nat) (h:I n s):codeAny (model prog w) A (.compLoop (.ListComp elt [⟨target,iter,ifs,0⟩] scope pos) 0 it acc env) R s:=by
 have body:∀ n s,I n s->wpAny (model prog w) A (compTurn (.ListComp elt [⟨target,iter,ifs,0⟩] scope pos) 0 it acc env)
   (λfin s'=>match fin with | .done f=>R (.ok f) s' | .again c=>c=.compLoop (.ListComp elt [⟨target,iter,ifs,0⟩] scope pos) 0 it acc env/\∃ m,m<n/\I m s') (λ_ _=>False) s:=λn s hI=>by
  rw [compTurn_list]
  refine a6w (aMG (a6w (bH (turn n s hI) λr s1 h1=>?_)))
  cases r with
  | none=>exact adj h1
  | some v =>
   refine a6w (bH h1 λ_ s0 h0=>a6w (bH h0 λ_ s2 h2=>a6w (bH h2 λok s3 h3=>?_)))
   cases ok with
   | true=>exact a6w (a6w (bH h3 λx s4 h4=>a6w (bH h4 λ_ s5 h5=>adj (adj ⟨rfl,h5⟩))))
   | false=>exact adj ⟨rfl,h3⟩
 exact codeAny_loop rfl I (λn s hI=>wpAny_noted (aPb (body n s hI) (λ_ _ q=>q) λ_ _ q=>q.elim)) n h
def iu (own:Nat) (js:List Nat) (wi:TI) (g:TG) (tc:TT) (te:TE):TE:=λσ H Q=>wi σ H λJ H1=>∀ l,H1 l=none ->
 ∃ W:Nat->Nat->List V->St->Hp->Prop,(∃ m,W 0 m [] (List.replicate own none++js.map λj=>(σ[j]?).join) (upd H1 l (.lst [])))/\∀ i m ys σ' H',W i m ys σ' H' ->
  (J.stop i H'/\Q (.ref l) H')\/(J.go i H'/\∀ x H2,J.jB i H' x H2->g x σ' H2 λσ2 H3=>tc σ2 H3 λb H4 =>
   if b=true then te σ2 H4 λy H5=>H5 l=some (.lst ys)/\ys.length<sizeLine/\∃ m',m'<m/\W (i+1) m' (ys++[y]) σ2 (upd H5 l (.lst (ys++[y])))
   else ∃ m',m'<m/\W (i+1) m' ys σ2 H4)
def pK:TT:=λ_ H Q=>Q true H
structure cF (X:Cx) (scope:Scope) (N:List Str) (own:Nat) (js:List Nat):Prop where
 kind:scope.kind=.function
 cell:∀ y∈scope.names,y.2=.cell->scope.names.lookup y.1=some .cell
 names:∀ y∈scope.names,y.2=.local->scope.names.lookup y.1=some .local
 free:∀ y∈scope.names,y.2=.free->X.env.kindOf y.1=some .cell\/X.env.kindOf y.1=some .free
 len:N.length=own+js.length
 js:∀ k j,js[k]?=some j->N[own+k]?=X.N[j]?
 jf:∀ k x,N[own+k]?=some x->scope.names.lookup x=some .free
theorem Un.but {fs ex:List Addr} {H H':Hp} {h h1 h2:Heap} {C:Addr} (u:Un fs ex H H' h h1) (hc:h.objs.size<=C) (sb:∀ b o,b≠C->h1.get? b=some o->h2.get? b=some o):Un fs ex H H' h h2:=by
 have ne:∀ b o,h.get? b=some o->b≠C:=λb o e=>aOw (ajX (alE e) hc)
 refine ⟨λb o q n hb hx=>sb b o (ne b o q) (u.keep b o q n hb hx),λb o q n hb hx=>?_,u.free,λb o q hx=>?_,u.tups,u.gx,u.gF⟩
 .obtain ⟨sl,e⟩:=u.slot b o q n hb hx
  exact ⟨sl,sb b _ (ne b o q) e⟩
 .obtain ⟨o',e⟩:=u.there b o q hx
  exact ⟨o',sb b o' (ne b o q) e⟩
theorem rX:∀ (names:List (Str×NameKind)) (n:Nat) (acc:List (Str×Addr)),cellsFrom n names acc=cellsFrom n names []++acc
 | [],_,_=>rfl
 | (x,k) :: r,n,acc=>by
  unfold cellsFrom
  by_cases hk:(k == NameKind.cell)=true
  .rw [atn hk,atn hk,rX r (n+1) ((x,n) :: acc),rX r (n+1) [(x,n)],aRm]
   rfl
  .rw [amU hk,amU hk]
   exact rX r n acc
theorem EA:∀ (names:List (Str×NameKind)) (n:Nat) (x:Str) (c:Addr),(x,c)∈cellsFrom n names []->(x,NameKind.cell)∈names
 | [],_,_,_,h=>nomatch h
 | (y,k) :: r,n,x,c,h=>by
  unfold cellsFrom at h
  by_cases hk:(k == NameKind.cell)=true
  .rw [atn hk,rX] at h
   rcases aJX.mp h with q | q
   .exact amQ _ (EA r _ x c q)
   .have e:(x,c)=(y,n):=by simpa using q
    cases e
    have hk':k=.cell:=by simpa using hk
    subst hk'
    exact a5w
  .rw [amU hk] at h
   exact amQ _ (EA r _ x c h)
theorem Ma {α:Type}:∀ {l:List (Str×α)} {x:Str} {c:α},(x,c)∈l->∃ d,l.lookup x=some d
 | (y,v) :: r,x,c,h=>by
  rw [ah9]
  cases q:x == y with
  | true=>exact ⟨v,rfl⟩
  | false =>
   rcases ac0.mp h with e | e
   .cases e; simp at q
   .exact Ma e
theorem Eb:∀ (names:List (Str×NameKind)) (n:Nat) (x:Str),(x,NameKind.cell)∈names->∃ c,(x,c)∈cellsFrom n names []
 | [],_,_,h=>nomatch h
 | (y,k) :: r,n,x,h=>by
  unfold cellsFrom
  rcases ac0.mp h with e | e
  .cases e
   rw [atn (show (NameKind.cell == NameKind.cell)=true from rfl),rX]
   exact ⟨n,ap3 _ (by simp)⟩
  .by_cases hk:(k == NameKind.cell)=true
   .rw [atn hk,rX]
    obtain ⟨c,q⟩:=Eb r (n+1) x e
    exact ⟨c,aCj _ q⟩
   .rw [amU hk]
    exact Eb r n x e
theorem LW {α:Type}:∀ (l m:List (Str×α)) (x:Str),(l++m).lookup x=match l.lookup x with | some c=>some c | none=>m.lookup x
 | [],m,x=>rfl
 | (y,v) :: r,m,x=>by
  rw [amV,ah9,ah9]
  cases x == y with
  | true=>rfl
  | false=>exact LW r m x
theorem VX {M:Model} {A:Around} {E:Value->Shared->Prop} {s:Shared} {scope:Scope} {globals:Addr} {cl:List (Str×Addr)} {qual:Str} {env:Env} {Q:Env->Shared->Prop}
  (h:Q (newEnv scope s.heap.objs.size globals (cellsFrom (s.heap.objs.size+1) scope.names cl) qual none .none (some env) builtinsNs) { s with heap:=pushCells (s.heap.push { cls:=.type "dict",data:=.dict #[] }) scope.names }) :
  wpAny M A (newFunctionEnv scope globals cl [] qual none .none (some env)) Q E s:=by
 simp only [newFunctionEnv,Option.isSome_some,a3p]
 refine a6w (wpAny_alloc (a6w (wpAny_layCells _ (λname kind cells=>by cases hkc:kind == NameKind.cell <;> simp [hkc]) _ _ _ _ ?_)))
 rw [show ({ s with heap:=s.heap.push { cls:=.type "dict",data:=.dict #[] } }:Shared).heap.objs.size=s.heap.objs.size+1 from aep ..]
 rw [List.forIn_nil]
 exact a6w (adj (adj h))
structure kP (X:Cx) (scope:Scope) (jo:List (Str×Addr)) (n:Nat) (h':Heap):Prop where
 k1:∀ x c,jo.lookup x=some c->X.env.cells.lookup x=some c\/(n<c/\h'.IsCell c none/\(x,NameKind.cell)∈scope.names)
 k2:∀ x,scope.names.lookup x=some .free->∃ c,jo.lookup x=some c/\X.env.cells.lookup x=some c
 k3:∀ p∈scope.names,p.2=.cell\/p.2=.free->∃ c,jo.lookup p.1=some c
 k4:∀ x y c,jo.lookup x=some c->jo.lookup y=some c->x=y
 k5:∀ x c,scope.names.lookup x=some .cell->jo.lookup x=some c->n<c
section
variable {X:Cx} {scope:Scope} {N:List Str} {own:Nat} {js:List Nat}
theorem U8 {cl:List (Str×Addr)} {n:Nat} {h0:Heap} (c:cF X scope N own js) (gy:∀ x c,cl.lookup x=some c->X.env.cells.lookup x=some c) (i6:∀ p∈scope.names,p.2=.free->∃ c,cl.lookup p.1=some c)
  (inj:∀ x y c,X.env.cells.lookup x=some c->X.env.cells.lookup y=some c->x=y) (lt:∀ x c,X.env.cells.lookup x=some c->c<n) (hn:h0.objs.size=n+1):kP X scope (cellsFrom (n+1) scope.names cl) n (pushCells h0 scope.names):=by
 have ok:=cellsFrom_ok scope.names h0 (n+1) [] ⟨λ_ _ hm=>(nomatch hm),List.Pairwise.nil⟩ (by rw [hn]; exact aNS _)
 rw [hn] at ok
 have two:∀ x,(cellsFrom (n+1) scope.names cl).lookup x=match (cellsFrom (n+1) scope.names []).lookup x with | some c=>some c | none=>cl.lookup x:=λx=>by
  rw [rX,LW]
  cases (cellsFrom (n+1) scope.names []).lookup x <;> rfl
 have own':∀ x d,(cellsFrom (n+1) scope.names []).lookup x=some d->(pushCells h0 scope.names).IsCell d none/\n<d/\(x,NameKind.cell)∈scope.names:=λx d e =>
  ⟨(ok.empty x d (mem_of_lookup e)).1,(ok.empty x d (mem_of_lookup e)).2,EA _ _ x d (mem_of_lookup e)⟩
 have part:∀ x d,(cellsFrom (n+1) scope.names cl).lookup x=some d->(cellsFrom (n+1) scope.names []).lookup x=some d\/((cellsFrom (n+1) scope.names []).lookup x=none/\cl.lookup x=some d):=λx d e=>by
  rw [two] at e
  cases q:(cellsFrom (n+1) scope.names []).lookup x with
  | some d'=>rw [q] at e; exact .inl e
  | none=>rw [q] at e; exact .inr ⟨rfl,e⟩
 have has:∀ x,(x,NameKind.cell)∈scope.names->∃ d,(cellsFrom (n+1) scope.names []).lookup x=some d:=λx m=>by
  obtain ⟨d,q⟩:=Eb scope.names (n+1) x m
  exact Ma q
 refine ⟨λx d e=>?_,λx e=>?_,λp hp hk=>?_,λx y d e1 e2=>?_,λx d e1 e2=>?_⟩
 .rcases part x d e with q | ⟨_,q⟩
  .exact .inr ⟨(own' x d q).2.1,(own' x d q).1,(own' x d q).2.2⟩
  .exact .inl (gy x d q)
 .obtain ⟨d,q⟩:=i6 _ (ZP e) rfl
  have no:(cellsFrom (n+1) scope.names []).lookup x=none:=by
   cases z:(cellsFrom (n+1) scope.names []).lookup x with
   | none=>rfl
   | some d' =>
    have y:=c.cell _ (own' x d' z).2.2 rfl
    rw [show scope.names.lookup x=_ from e] at y
    cases y
  exact ⟨d,by rw [two,no]; exact q,gy x d q⟩
 .rw [two]
  cases z:(cellsFrom (n+1) scope.names []).lookup p.1 with
  | some d'=>exact ⟨d',rfl⟩
  | none =>
   rcases hk with hk | hk
   .obtain ⟨d,q⟩:=has p.1 (by rw [← hk]; exact hp)
    rw [z] at q; cases q
   .exact i6 p hp hk
 .rcases part x d e1 with q1 | ⟨_,q1⟩
  .rcases part y d e2 with q2 | ⟨_,q2⟩
   .exact name_of_addr ok.apart (mem_of_lookup q1) (mem_of_lookup q2)
   .exact absurd (Nat.lt_trans (own' x d q1).2.1 (lt y d (gy y d q2))) (af9 _)
  .rcases part y d e2 with q2 | ⟨_,q2⟩
   .exact absurd (Nat.lt_trans (own' y d q2).2.1 (lt x d (gy x d q1))) (af9 _)
   .exact inj x y d (gy x d q1) (gy y d q2)
 .obtain ⟨d',q⟩:=has x (ZP e1)
  rw [two,q] at e2
  cases e2
  exact (own' x d q).2.1
theorem Zip {pins:List (Addr×Obj)} {σ:St} {H:Hp} {s:Shared} {cl:List (Str×Addr)} {fp:List Addr} {h':Heap} {t':Nat} (c:cF X scope N own js) (I:Inv X pins σ H s) (hf:∀ b∈fp,gA X pins H b)
  (fo:∀ b∈fp,b<s.heap.objs.size)
  (ci:kP X scope cl s.heap.objs.size h')
  (hn:h'.Ns s.heap.objs.size (λ_=>none)) (hk:∀ b o,s.heap.get? b=some o->h'.get? b=some o) :
  Inv (bx X N scope cl s.heap.objs.size s H fp pins) [] (List.replicate own none++js.map λj=>(σ[j]?).join) H { s with heap:=h',toks:=t' }:=by
 have n6:∀ x c,cl.lookup x=some c->c≠s.heap.objs.size:=λx c e=>by
  rcases ci.k1 x c e with q | ⟨q,_⟩
  .obtain ⟨v,q⟩:=I.cell x c q
   exact aOw q.lt
  .exact aky q
 have ok:(bx X N scope cl s.heap.objs.size s H fp pins).Ok:=by
  refine ⟨I.ok.mod,c.kind,I.ok.glob,I.ok.blt,aNS _,ci.k4,λx hx=>?_,λx d z e=>aRN (ci.k5 x d (aY8.mp (show (scope.names.lookup x == some .cell)=true from z)) e),I.ok.hd,I.ok.frames,.inl rfl,λb hb=>⟨aOw (fo b hb),λx d e=>(ci.k1 x d e).elim (λq=>(hf b hb).2.2.2.2.1 x d q) λq=>aky (Nat.lt_trans (fo b hb) q.1)⟩,I.bs,
   ay9 I.ok.n8 I.sz,λb o e hb=>?_,λb hb z=>?_,I.stack,I.iM⟩
  .have back:∀ k,(relabel scope X.env).names.lookup x=some k->k=.cell\/k=.free->∃ k',(x,k')∈scope.names/\(k'=NameKind.cell\/k'=NameKind.free):=λk e hk=>by
    obtain ⟨k',e',z⟩:=VY e
    refine ⟨k',ZP e',?_⟩
    rcases z with z | z
    .subst z; exact hk
    .exact .inr z
   obtain ⟨k',m,hk'⟩:∃ k',(x,k')∈scope.names/\(k'=NameKind.cell\/k'=NameKind.free):=by
    rcases hx with hx | hx
    .exact back _ hx (.inl rfl)
    .exact back _ hx (.inr rfl)
   exact ci.k3 _ m hk'
  .rcases (hf b hb).2.2.2.1 with z | z
   .exact I.ok.mL b o e z
   .exact absurd (ajX (ajX (alE e) I.ok.n8) z) (af9 _)
  .rcases ac0.mp (I.iL b z) with q | q
   .exact (hf b hb).2.1 q
   .exact (hf b hb).2.2.1 q
 refine ⟨ok,rfl,I.bare,Un.kept hk,⟨_,hn,λi x v e1 e2 e3=>?_⟩,λx d e=>?_,I.hok.fresh (aNS _),λx d e=>(ci.k1 x d e).elim (λq=>I.cJ x d q) λq=>I.hok.fresh (aRN q.1),λp hp=>?_,I.hok.kept hk,?_⟩
 .-- a name with a value is one that the block closes over
  have hi:own<=i:=by
   by_cases hi:i<own
   .rw [a6D (by simpa using hi),List.getElem?_replicate] at e2
    split at e2 <;> cases e2
   .lia
  obtain ⟨k,rfl⟩:∃ k,i=own+k:=⟨i - own,by lia⟩
  rw [aFp (by simp),List.length_replicate,Nat.add_sub_cancel_left,aYu] at e2
  cases q:js[k]? with
  | none=>rw [q] at e2; cases e2
  | some j =>
   rw [q] at e2
   have ny:(σ[j]?).join=some v:=by simpa using e2
   have e4:σ[j]?=some (some v):=by
    cases z:σ[j]? with
    | none=>rw [z] at ny; cases ny
    | some o=>rw [z] at ny; rw [show o=some v from ny]
   have oX:N[own+k]?=some x:=e1
   have Dl:X.N[j]?=some x:=(c.js k j q).symm.trans oX
   have hfr:=c.jf k x oX
   have hmem:=ZP hfr
   have hk2:=c.free _ hmem rfl
   have vis:uE X.env.scope x:=by
    rcases hk2 with z | z
    .exact .inr (.inl z)
    .exact .inr (.inr z)
   obtain ⟨m,_,hl⟩:=I.loc
   obtain ⟨u,r,l⟩:=hl j x v Dl e4 vis
   refine ⟨u,r,?_⟩
   rcases l with ⟨z,_⟩ | ⟨_,d,e,⟨od,ho,hd⟩⟩
   .rcases hk2 with y | y
    .rw [show X.env.kindOf x=_ from z] at y; cases y
    .rw [show X.env.kindOf x=_ from z] at y; cases y
   .obtain ⟨d',e',z'⟩:=ci.k2 x hfr
    have:d'=d:=by have z:=z'; rw [e] at z; exact (ado z).symm
    subst this
    refine .inr ⟨?_,d',e',⟨od,hk _ _ ho,hd⟩⟩
    rcases Wz (scope:=scope) (env:=X.env) hfr with z | ⟨_,z⟩
    .exact .inr z
    .exact .inl z
 .rcases ci.k1 x d e with q | ⟨_,q,_⟩
  .obtain ⟨v,⟨o,ho,hd⟩⟩:=I.cell x d q
   exact ⟨v,o,hk _ _ ho,hd⟩
  .exact ⟨none,q⟩
 .have rD:p∈X.pn++pins:=by
   have z:p∈(X.pn++pins)++[]:=hp
   rwa [amK] at z
  obtain ⟨a1,a2,a3,a4,a5⟩:=I.pin p rD
  refine ⟨hk _ _ a1,a2,aOw (alE a1),λz=>?_,a5⟩
  rcases ac0.mp (I.iL p.1 z) with q | q
  .exact a3 q
  .exact a4 q
 .show _=N.length
  rw [c.len]; simp
theorem LV {pins:List (Addr×Obj)} {σ:St} {H:Hp} {s:Shared} {elt target iter:PySem.Expr} {ifs:List PySem.Expr} {pos:Pos} {it:Addr} {fp:List Addr} {tn:Nat->Heap->Prop} {J:It} {cl:List (Str×Addr)} {g:TG} {tc:TT} {te:TE} {E:Value->Shared->Prop} {Q:VK}
  {RR:Value->Addr->Result->Shared->Prop}
  (c:cF X scope N own js) (hc:X.calm=true) (I:Inv X pins σ H s) (T:Turn X.prog X.w X.K target J fp it tn) (st:tn 0 s.heap) (hf:∀ b∈fp,gA X pins H b)
  (gy:∀ x c,cl.lookup x=some c->X.env.cells.lookup x=some c) (i6:∀ p∈scope.names,p.2=.free->∃ c,cl.lookup p.1=some c)
  (hg:∀ cl C s0 H0 fp pins,PG (bx X N scope cl C s0 H0 fp pins) target g)
  (ht:∀ cl C s0 H0 fp pins bJ s σ H Q,Inv (bx X N scope cl C s0 H0 fp pins) bJ σ H s->tc σ H Q->wpAny (model X.prog X.w) X.A (forIn ifs true λc r=>if r=true then do let ok ← isTrue c (compEnvC scope cl C X.env) (eval c (compEnvC scope cl C X.env)); pure (ForInStep.yield ok) else pure (ForInStep.yield r))
   (TP (bx X N scope cl C s0 H0 fp pins) bJ σ Q) (λ_ _=>False) s)
  (he:∀ cl C s0 H0 fp pins,PE (bx X N scope cl C s0 H0 fp pins) elt te)
  (h:∀ l,H l=none->∃ W:Nat->Nat->List V->St->Hp->Prop,(∃ m,W 0 m [] (List.replicate own none++js.map λj=>(σ[j]?).join) (upd H l (.lst [])))/\∀ i m ys σ' H',W i m ys σ' H' ->
   (J.stop i H'/\Q (.ref l) H')\/(J.go i H'/\∀ x H2,J.jB i H' x H2->g x σ' H2 λσ2 H3=>tc σ2 H3 λb H4 =>
    if b=true then te σ2 H4 λy H5=>H5 l=some (.lst ys)/\ys.length<sizeLine/\∃ m',m'<m/\W (i+1) m' (ys++[y]) σ2 (upd H5 l (.lst (ys++[y])))
    else ∃ m',m'<m/\W (i+1) m' ys σ2 H4))
  (hRR:∀ l C H' s' m',s.heap.objs.size<=C->s'.heap.Ns C m'->H' C=none->C≠X.env.locals->C∉X.fs->(∀ h2,Heap.SameBut C s'.heap h2->Inv X pins σ H' { s' with heap:=h2 })->Q (.ref l) H'->RR (.ref l) C (.ok .next) s') :
  wpAny (model X.prog X.w) X.A (newList []) (λacc s3=>wpAny (model X.prog X.w) X.A (newFunctionEnv scope X.env.globals cl [] X.env.qual none .none (some X.env)) (λcenv s4 =>
   codeAny (model X.prog X.w) X.A (.compStart (.ListComp elt [⟨target,iter,ifs,0⟩] scope pos) 0 (.ref it) acc { cenv with scope:=relabel scope X.env }) (RR acc cenv.locals) s4) E s3) E s:=by
 have I2:Inv X pins σ (upd H s.heap.objs.size (.lst [])) { s with heap:=s.heap.push { cls:=.type "list",dict:=none,data:=.seq ([]:List Value).toArray },toks:=s.toks }:=I.CN (ys:=[]) .nil (aze _)
 obtain ⟨W,⟨m0,w0⟩,turn⟩:=h s.heap.objs.size I.fresh
 refine aa0 (VX ?_)
 dsimp only
 generalize hS:({ s with heap:=s.heap.push { cls:=.type "list",dict:=none,data:=.seq ([]:List Value).toArray },toks:=s.toks }:Shared)=s2 at I2
 have e2:s2.heap=s.heap.push { cls:=.type "list",dict:=none,data:=.seq ([]:List Value).toArray }:=by rw [← hS]
 have GR:s2.heap.objs.size=s.heap.objs.size+1:=by rw [e2,aep]
 rw [← e2]
 have ci:=U8 (h0:=s2.heap.push { cls:=.type "dict",data:=.dict #[] }) (n:=s2.heap.objs.size) c gy i6 I2.ok.inj (λx d e=>by obtain ⟨v,q⟩:=I2.cell x d e; exact q.lt) (aep ..)
 have qh:(pushCells (s2.heap.push { cls:=.type "dict",data:=.dict #[] }) scope.names).Ns s2.heap.objs.size (λ_=>none):=(Heap.Ns.new s2.heap (.type "dict")).keeps (pushCells_keeps _ _)
 have old:∀ b o,s2.heap.get? b=some o->(pushCells (s2.heap.push { cls:=.type "dict",data:=.dict #[] }) scope.names).get? b=some o:=λb o e=>pushCells_keeps _ _ b o (atD _ e)
 generalize pushCells (s2.heap.push { cls:=.type "dict",data:=.dict #[] }) scope.names=h1 at ci qh old ⊢
 generalize hcl:cellsFrom (s2.heap.objs.size+1) scope.names cl=jo at ci ⊢
 have mR:∀ b,b∈fp->b<s.heap.objs.size:=λb hb=>by
  obtain ⟨o,e,_⟩:=T.obj 0 _ st b hb
  exact alE e
 have hf2:∀ b∈fp,gA X pins (upd H s.heap.objs.size (.lst [])) b:=λb hb=>⟨by rw [Zc (aOw (mR b hb))]; exact (hf b hb).1,(hf b hb).2⟩
 have qW:∀ b∈fp,b<s2.heap.objs.size:=λb hb=>by rw [GR]; exact ae2 (mR b hb)
 have st2:tn 0 s2.heap:=T.keep 0 _ _ st λb _ o e=>by rw [e2]; exact atD _ e
 have I4:=Zip (t':=s.toks) c I2 hf2 qW ci qh old
 have cC:tn 0 h1:=T.keep 0 _ _ st2 λb _ o e=>old b o e
 have es:({ s2 with heap:=h1,toks:=s.toks }:Shared)={ s with heap:=h1,toks:=s.toks }:=by rw [← hS]
 rw [es] at I4
 generalize OM:({ s with heap:=h1,toks:=s.toks }:Shared)=s4 at I4
 have vg:tn 0 s4.heap:=by rw [← OM]; exact cC
 have loop:codeAny (model X.prog X.w) X.A (.compLoop (.ListComp elt [⟨target,iter,ifs,0⟩] scope pos) 0 (.ref it) (.ref s.heap.objs.size) (compEnvC scope jo s2.heap.objs.size X.env)) (RR (.ref s.heap.objs.size) s2.heap.objs.size) s4:=by
  refine Uy (λn s'=>∃ i ys σ' H',Inv (bx X N scope jo s2.heap.objs.size s2 (upd H s.heap.objs.size (.lst [])) fp pins) [] σ' H' s'/\tn i s'.heap/\(∀ b∈fp,H' b=none)/\W i n ys σ' H') ?_ m0
   ⟨0,[],_,_,I4,vg,λb hb=>(hf2 b hb).1,w0⟩
  rintro n s5 ⟨i,ys,σ5,H5,I5,oE,zG,w5⟩
  have jH:∀ {H':Hp} {s':Shared} {σ':St},Inv (bx X N scope jo s2.heap.objs.size s2 (upd H s.heap.objs.size (.lst [])) fp pins) [] σ' H' s'->(∀ b∈fp,H' b=none)->∀ b∈fp,gA (bx X N scope jo s2.heap.objs.size s2 (upd H s.heap.objs.size (.lst [])) fp pins) [] H' b:=λJ' hn b hb =>
   ⟨hn b hb,(J'.ok.zH b hb).1,J'.ok.nv b hb,.inl hb,(J'.ok.zH b hb).2,λp hp z=>by
    have rD:p∈X.pn++pins:=by
     have q:p∈(X.pn++pins)++[]:=hp
     rwa [amK] at q
    exact (hf b hb).2.2.2.2.2 p rD z⟩
  rcases turn i n ys σ5 H5 w5 with ⟨stop,q⟩ | ⟨go,step⟩
  .refine aPb (T.done (bx X N scope jo s2.heap.objs.size s2 (upd H s.heap.objs.size (.lst [])) fp pins) rfl rfl rfl hc i [] s5 σ5 H5 (λ_ _=>False) I5 (jH I5 zG) oE stop) (λr s6 ⟨hr,I6⟩=>?_) λ_ _ z=>z
   subst hr
   obtain ⟨m',hn',_⟩:=I6.loc
   have hC:s.heap.objs.size<=s2.heap.objs.size:=by rw [GR]; exact aO8 _
   refine hRR _ _ H5 s6 m' hC hn' I6.free ?_ ?_ (λh2 sb=>?_) q
   .exact aky I2.lt
   .exact I2.vX (aNS _)
   .have u:Un (frs X.stack) fp (upd H s.heap.objs.size (.lst [])) H5 s2.heap h2:=I6.base.but (aNS _) sb.extBut
    have z6:H5 s2.heap.objs.size=none:=I6.free
    have hok:dj X.prog X.w H5 h2:=λb ob e=>(I6.hok b ob e).stay (λd w' hd z=>sb.extBut d w' (by
     rintro rfl
     rcases hd with rfl | hd
     .rw [z6] at e; cases e
     .rw [z6] at hd; cases hd) z) (λ_ z=>z) λ_ _ z=>z
    have J:=I2.xB (s':={ s6 with heap:=h2 }) (ch:=fp) (by show s6.os=s2.os; exact I6.os) u hok I6.bare λb hb=>⟨(hf b hb).2.2.2.1,(hf b hb).2.1,(hf b hb).2.2.2.2.1,(hf b hb).2.2.2.2.2⟩
    exact J
  .refine aPb (T.item (bx X N scope jo s2.heap.objs.size s2 (upd H s.heap.objs.size (.lst [])) fp pins) rfl rfl rfl hc i [] s5 σ5 H5 (λ_ _=>False) I5 (jH I5 zG) oE go) (λr s6 ⟨u,hr,h6⟩=>?_) λ_ _ z=>z
   subst hr
   refine aPb h6 (λ_ s7 ⟨x,H7,I7,r7,y7,BI,Po⟩=>?_) λ_ _ z=>z
   have WC:=I7.pinned (jH I7 Po) (T.obj _ _ BI)
   refine aPb (hg _ _ _ _ _ _ _ s7 σ5 H7 x u _ WC r7 (step x H7 y7)) (λ_ s8 ⟨σ8,H8,I8,q8⟩=>?_) λ_ _ z=>z
   refine aPb (ht _ _ _ _ _ _ _ s8 σ8 H8 _ I8 q8) (λb s9 ⟨H9,I9,q9⟩=>?_) λ_ _ z=>z
   have fin:∀ {s':Shared} {H':Hp} {m':Nat} {ys':List V},Inv (bx X N scope jo s2.heap.objs.size s2 (upd H s.heap.objs.size (.lst [])) fp pins) ([]++xH fp s7.heap) σ8 H' s'->m'<n->W (i+1) m' ys' σ8 H' ->
     ∃ m,m<n/\∃ i ys σ' H',Inv (bx X N scope jo s2.heap.objs.size s2 (upd H s.heap.objs.size (.lst [])) fp pins) [] σ' H' s'/\tn i s'.heap/\(∀ b∈fp,H' b=none)/\W i m ys σ' H':=λ{s' H' m' ys'} J' hm w'=>by
    refine ⟨m',hm,i+1,ys',σ8,H',J'.eY,T.keep _ _ _ BI λb hb o e=>(J'.pin (b,o) (ap3 _ (ap3 _ (AO hb e)))).1,λb hb=>?_,w'⟩
    obtain ⟨o,e,d⟩:=T.obj _ _ BI b hb
    exact (J'.pin (b,o) (ap3 _ (ap3 _ (AO hb e)))).2.1
   cases b with
   | false =>
    rw [amU aPi] at q9 ⊢
    obtain ⟨m',hm,w'⟩:=q9
    exact fin I9 hm w'
   | true =>
    rw [atn rfl] at q9 ⊢
    refine aPb (he _ _ _ _ _ _ _ s9 σ8 H9 _ I9 q9) (λy vD ⟨z,GB,WG,Cb,el,ez,m',hm,w'⟩=>?_) λ_ _ z=>z
    refine aPb (ZG (X:=bx X N scope jo s2.heap.objs.size s2 (upd H s.heap.objs.size (.lst [])) fp pins) _ vD σ8 GB (.ref s.heap.objs.size) [z] _ [y] (λ_ H'=>H'=upd GB s.heap.objs.size (.lst (ys++[z]))) WG rfl (.cons Cb .nil) ⟨_,_,_,rfl,rfl,el,ez,rfl⟩) (λ_ BR ⟨_,Ms,WE,_,PF⟩=>?_) λ_ _ z=>z
    subst PF
    exact fin WE hm w'
 have fin:codeAny (model X.prog X.w) X.A (.compStart (.ListComp elt [⟨target,iter,ifs,0⟩] scope pos) 0 (.ref it) (.ref s.heap.objs.size) (compEnvC scope jo s2.heap.objs.size X.env)) (RR (.ref s.heap.objs.size) s2.heap.objs.size) s4 :=
  codeAny_compStart_list loop (T.self X.A 0 s4 _ _ vg loop)
 exact fin
theorem KP {elt target iter:PySem.Expr} {ifs:List PySem.Expr} {pos:Pos} {wi:TI} {g:TG} {tc:TT} {te:TE} (c:cF X scope N own js) (hc:X.calm=true) (hi:PI X target iter wi)
  (hg:∀ cl C s0 H0 fp pins,PG (bx X N scope cl C s0 H0 fp pins) target g)
  (ht:∀ cl C s0 H0 fp pins bJ s σ H Q,Inv (bx X N scope cl C s0 H0 fp pins) bJ σ H s->tc σ H Q->wpAny (model X.prog X.w) X.A (forIn ifs true λc r=>if r=true then do let ok ← isTrue c (compEnvC scope cl C X.env) (eval c (compEnvC scope cl C X.env)); pure (ForInStep.yield ok) else pure (ForInStep.yield r))
   (TP (bx X N scope cl C s0 H0 fp pins) bJ σ Q) (λ_ _=>False) s)
  (he:∀ cl C s0 H0 fp pins,PE (bx X N scope cl C s0 H0 fp pins) elt te)
  (hs:∀ x,foldedSetIterable iter X.env x=pure x:=by intro _; rfl):PE X (.ListComp elt [⟨target,iter,ifs,0⟩] scope pos) (iu own js wi g tc te):=by
 intro pins s σ H Q I h
 obtain ⟨cl,e1,gy,_,i6⟩:=yl (env:=X.env) scope.names [] (λp hp hf=>I.ok.has _ (c.free p hp hf)) (λx d e=>by simp at e)
 have hclos:closureFor scope X.env=pure cl:=by
  unfold closureFor
  refine (a0A (λz=>z >>= λcs=>pure cs) e1).trans ?_
  rfl
 rw [eval_ListComp]
 refine wpAny_comprehension_free (use:=none) rfl hs hclos c.kind c.names (aPb (hi pins s σ H _ I h) (λx s1 h1=>aPb h1 (λitv s2 h2=>?_) λ_ _ e=>e) λ_ _ e=>e)
 obtain ⟨it,fp,tn,J,H2,e,I2,T,st2,f2,q⟩:=h2
 subst e
 refine LV (Q:=Q) (RR:=λacc C=>compPost (model X.prog X.w) X.A X.xe none (EP X pins σ Q) acc C) c hc I2 T st2 f2 gy i6 hg ht he q ?_
 intro l C H' s' m' hC hn hf hL hfs hI hq
 exact ⟨m',hn,λh2 sb=>⟨.ref l,H',hI h2 sb,rfl,hq⟩⟩
theorem KO {elt target iter:PySem.Expr} {ifs:List PySem.Expr} {pos pos' spos:Pos} {y:Str} {k:Nat} {wi:TI} {g:TG} {tc:TT} {te:TE} (c:cF X scope N own js) (hc:X.calm=true) (hN:X.N.Nodup) (hk:X.N[k]?=some y) (hy:X.env.scope.names.lookup y=some .local) (hi:PI X target iter wi)
  (hg:∀ cl C s0 H0 fp pins,PG (bx X N scope cl C s0 H0 fp pins) target g)
  (ht:∀ cl C s0 H0 fp pins bJ s σ H Q,Inv (bx X N scope cl C s0 H0 fp pins) bJ σ H s->tc σ H Q->wpAny (model X.prog X.w) X.A (forIn ifs true λc r=>if r=true then do let ok ← isTrue c (compEnvC scope cl C X.env) (eval c (compEnvC scope cl C X.env)); pure (ForInStep.yield ok) else pure (ForInStep.yield r))
   (TP (bx X N scope cl C s0 H0 fp pins) bJ σ Q) (λ_ _=>False) s)
  (he:∀ cl C s0 H0 fp pins,PE (bx X N scope cl C s0 H0 fp pins) elt te)
  (hs:∀ x,foldedSetIterable iter X.env x=pure x:=by intro _; rfl)
  (hsw:swapsWith (.ListComp elt [⟨target,iter,ifs,0⟩] scope pos) (some (.Name y pos')) spos.line X.env=pure true:=by rfl):PS X (.Assign [.Name y pos'] (.ListComp elt [⟨target,iter,ifs,0⟩] scope pos) spos) (jG (iu own js wi g tc te) (bW k)):=by
 intro pins s σ H D I h
 obtain ⟨cl,e1,gy,_,i6⟩:=yl (env:=X.env) scope.names [] (λp hp hf=>I.ok.has _ (c.free p hp hf)) (λx d e=>by simp at e)
 have hclos:closureFor scope X.env=pure cl:=by
  unfold closureFor
  refine (a0A (λz=>z >>= λcs=>pure cs) e1).trans ?_
  rfl
 rw [exec_Assign_Name_used _ _ _ _ hsw]
 refine a6w (aMG (a6w ?_))
 show wpAny _ X.A (do let _ ← comprehension (.ListComp elt [⟨target,iter,ifs,0⟩] scope pos) scope X.env _ (newList []) false (eval iter X.env) (some (assign (.Name y pos') X.env))) _ _ s
 refine a6w (aPb (wpAny_comprehension_free (use:=some (assign (.Name y pos') X.env)) (Q:=λ_ s'=>SP X pins D .next s') rfl hs hclos c.kind c.names
  (aPb (hi pins s σ H _ I h) (λxv s1 h1=>aPb h1 (λit s2 h2=>?_) λ_ _ e=>e) λ_ _ e=>e)) (λ_ s' hq=>adj (adj hq)) λ_ _ e=>e)
 obtain ⟨it,fp,tn,J,H2,e,I2,T,st2,f2,q⟩:=h2
 subst e
 refine LV (Q:=λx H1=>bW k x σ H1 D.nx) (RR:=λacc C=>compPost (model X.prog X.w) X.A X.xe (some (assign (.Name y pos') X.env)) (λ_ s'=>SP X pins D .next s') acc C) c hc I2 T st2 f2 gy i6 hg ht he q ?_
 intro l C H' s' m' hC hn hf hL hfs hI hq
 have J0:=hI s'.heap (Heap.SameBut.refl ..)
 show wpAny _ X.A (assign (.Name y pos') X.env (.ref l)) _ _ _
 have J1:Inv X pins σ H' s':=J0
 refine wpAny_assign_Name (Ly (v:=.ref l) J1 hN hk (.inl hy) rfl (λs'' Mh zB=>?_) (.inr hy))
 obtain ⟨a,sb,ha⟩:=zB
 have hne:C≠a:=by
  rcases ha with rfl | ha
  .exact hL
  .rintro rfl
   obtain ⟨v,⟨o,ho,hd⟩⟩:=J1.cell y C ha
   obtain ⟨o',es,ep,ho',hd',_⟩:=hn
   rw [ho] at ho'; cases ho'
   rw [hd] at hd'; cases hd'
 refine ⟨m',hn.sameBut sb hne,λh2 sR=>?_⟩
 have hok:dj X.prog X.w H' h2:=λb ob e=>(Mh.hok b ob e).stay (λd w' hd z=>sR.extBut d w' (by
  rintro rfl
  rcases hd with rfl | hd
  .rw [hf] at e; cases e
  .rw [hf] at hd; cases hd) z) (λ_ z=>z) λ_ _ z=>z
 have n6:∀ x d,X.env.cells.lookup x=some d->d≠C:=λx d e z=>by
  subst z
  obtain ⟨v,⟨o,ho,hd⟩⟩:=J1.cell x d e
  obtain ⟨o',es,ep,ho',hd',_⟩:=hn
  rw [ho] at ho'; cases ho'
  rw [hd] at hd'; cases hd'
 have OP:∀ p∈X.pn++pins,p.1≠C:=λp hp z=>by
  have a1:=(I2.pin p hp).1
  exact absurd (ajX (alE a1) (by rw [z]; exact hC)) (af9 _)
 have fin:Inv X pins (σ.set k (some (.ref l))) H' { s'' with heap:=h2 }:=Mh.turned (t':=s''.toks) (it:=C) (λb o hb e=>sR.extBut b o hb e) hf hL (.inr (ay9 I2.sz hC)) n6 OP
 exact ⟨_,H',fin,hq⟩
theorem qA {elt target iter:PySem.Expr} {pos:Pos} {wi:TI} {g:TG} {te:TE} (c:cF X scope N own js) (hc:X.calm=true) (hi:PI X target iter wi)
  (hg:∀ cl C s0 H0 fp pins,PG (bx X N scope cl C s0 H0 fp pins) target g) (he:∀ cl C s0 H0 fp pins,PE (bx X N scope cl C s0 H0 fp pins) elt te)
  (hs:∀ x,foldedSetIterable iter X.env x=pure x:=by intro _; rfl):PE X (.ListComp elt [⟨target,iter,[],0⟩] scope pos) (iu own js wi g pK te) :=
 KP c hc hi hg (λcl C s0 H0 fp pins bJ s σ H Q I h=>wpAny_tests_nil ⟨H,I,h⟩) he hs
theorem EY {elt target iter sP:PySem.Expr} {pos:Pos} {wi:TI} {g:TG} {tc:TT} {te:TE} (c:cF X scope N own js) (hc:X.calm=true) (hi:PI X target iter wi)
  (hg:∀ cl C s0 H0 fp pins,PG (bx X N scope cl C s0 H0 fp pins) target g) (ht:∀ cl C s0 H0 fp pins,PT (bx X N scope cl C s0 H0 fp pins) sP tc) (he:∀ cl C s0 H0 fp pins,PE (bx X N scope cl C s0 H0 fp pins) elt te)
  (hs:∀ x,foldedSetIterable iter X.env x=pure x:=by intro _; rfl):PE X (.ListComp elt [⟨target,iter,[sP],0⟩] scope pos) (iu own js wi g tc te) :=
 KP c hc hi hg (λcl C s0 H0 fp pins bJ s σ H Q I h=>wpAny_tests_one (ht cl C s0 H0 fp pins bJ s σ H Q I h)) he hs
theorem xZ {elt target iter:PySem.Expr} {pos pos' spos:Pos} {y:Str} (k:Nat) {wi:TI} {g:TG} {te:TE} (c:cF X scope N own js) (hc:X.calm=true) (hN:X.N.Nodup) (hk:X.N[k]?=some y) (hy:X.env.scope.names.lookup y=some .local) (hi:PI X target iter wi)
  (hg:∀ cl C s0 H0 fp pins,PG (bx X N scope cl C s0 H0 fp pins) target g) (he:∀ cl C s0 H0 fp pins,PE (bx X N scope cl C s0 H0 fp pins) elt te)
  (hs:∀ x,foldedSetIterable iter X.env x=pure x:=by intro _; rfl)
  (hsw:swapsWith (.ListComp elt [⟨target,iter,[],0⟩] scope pos) (some (.Name y pos')) spos.line X.env=pure true:=by rfl):PS X (.Assign [.Name y pos'] (.ListComp elt [⟨target,iter,[],0⟩] scope pos) spos) (jG (iu own js wi g pK te) (bW k)) :=
 KO c hc hN hk hy hi hg (λcl C s0 H0 fp pins bJ s σ H Q I h=>wpAny_tests_nil ⟨H,I,h⟩) he hs hsw
theorem KN {elt target iter sP:PySem.Expr} {pos pos' spos:Pos} {y:Str} (k:Nat) {wi:TI} {g:TG} {tc:TT} {te:TE} (c:cF X scope N own js) (hc:X.calm=true) (hN:X.N.Nodup) (hk:X.N[k]?=some y) (hy:X.env.scope.names.lookup y=some .local) (hi:PI X target iter wi)
  (hg:∀ cl C s0 H0 fp pins,PG (bx X N scope cl C s0 H0 fp pins) target g) (ht:∀ cl C s0 H0 fp pins,PT (bx X N scope cl C s0 H0 fp pins) sP tc) (he:∀ cl C s0 H0 fp pins,PE (bx X N scope cl C s0 H0 fp pins) elt te)
  (hs:∀ x,foldedSetIterable iter X.env x=pure x:=by intro _; rfl)
  (hsw:swapsWith (.ListComp elt [⟨target,iter,[sP],0⟩] scope pos) (some (.Name y pos')) spos.line X.env=pure true:=by rfl):PS X (.Assign [.Name y pos'] (.ListComp elt [⟨target,iter,[sP],0⟩] scope pos) spos) (jG (iu own js wi g tc te) (bW k)) :=
 KO c hc hN hk hy hi hg (λcl C s0 H0 fp pins bJ s σ H Q I h=>wpAny_tests_one (ht cl C s0 H0 fp pins bJ s σ H Q I h)) he hs hsw
end
section
variable {X:Cx} {pins:List (Addr×Obj)} {σ:St} {H:Hp} {s:Shared}
theorem dj.vU {P:Program} {w:World} {h h':Heap} {ch:List Addr} (hok:dj P w H h) (hn:∀ b∈ch,H b=none) (k:∀ b o,b∉ch->h.get? b=some o->h'.get? b=some o):dj P w H h':=λb ob e =>
 (hok b ob e).stay (λd u hd z=>k d u (λm=>by
  rcases hd with rfl | hd
  .rw [hn _ m] at e; cases e
  .rw [hn _ m] at hd; cases hd) z) (λ_ z=>z) λ_ _ z=>z
theorem Inv.gE {ch:List Addr} {h':Heap} {t':Nat} (I:Inv X pins σ H s) (hch:∀ b∈ch,gA X pins H b) (k:∀ b o,b∉ch->s.heap.get? b=some o->h'.get? b=some o) :
  Inv X pins σ H { s with heap:=h',toks:=t' }:=by
 have u:Un (frs X.stack) ch H H s.heap h':=⟨λb o q _ _ hx=>k b o hx q,λb o q _ _ hx=>⟨o.slots,k b o hx q⟩,λ_ _ _ n _=>n,λb o q hx=>⟨o,k b o hx q⟩,λ_ _ q=>q,λ_ _ _ q=>q,λ_ _ _ q=>q⟩
 exact I.call (g':=s.gens) (d':=s.drawn) (t':=t') u (I.hok.vU (λb hb=>(hch b hb).1) k) I.bare λb hb=>⟨(hch b hb).2.2.2.1,(hch b hb).2.1,(hch b hb).2.2.2.2.1,(hch b hb).2.2.2.2.2⟩
theorem Inv.jP {ch:List Addr} {h':Heap} {t':Nat} {o:HO} (I:Inv X pins σ H s) (hch:∀ b∈ch,gA X pins H b) (k:∀ b o,b∉ch->s.heap.get? b=some o->h'.get? b=some o)
  (new:aJ X.prog X.w (upd H s.heap.objs.size o) h' s.heap.objs.size o):Inv X pins σ (upd H s.heap.objs.size o) { s with heap:=h',toks:=t' }:=by
 have fr:H s.heap.objs.size=none:=I.hok.fresh (aNS _)
 have ne:∀ b ob,s.heap.get? b=some ob->b≠s.heap.objs.size:=λb ob e=>aOw (alE e)
 have nt:∀ b ob,H b=some ob->b≠s.heap.objs.size:=λb ob e=>Zb e fr
 have u:Un (frs X.stack) ch H (upd H s.heap.objs.size o) s.heap h':=⟨λb o q _ _ hx=>k b o hx q,λb o q _ _ hx=>⟨o.slots,k b o hx q⟩,λb ob q n _=>by rw [Zc (ne b ob q)]; exact n,λb o q hx=>⟨o,k b o hx q⟩,
  λb xs q=>by rw [Zc (nt b _ q)]; exact q,λb ob xs q=>by rw [Zc (nt b _ q)]; exact q,λb _ _ q=>by rw [Zc (nt b _ q)]; exact q⟩
 have hok:dj X.prog X.w (upd H s.heap.objs.size o) h':=λb ob e=>by
  by_cases hb:b=s.heap.objs.size
  .subst hb
   rw [Za] at e; cases e
   exact new
  .rw [Zc hb] at e
   refine (I.hok b ob e).stay (λd u hd z=>k d u (λm=>?_) z) (λd z=>by rw [Zc (nt d _ z)]; exact z) (λd xs z=>by rw [Zc (nt d _ z)]; exact z) λd oz z=>by rw [Zc (nt d _ z)]; exact z
   have hn:=(hch d m).1
   rcases hd with rfl | hd
   .rw [hn] at e; cases e
   .rw [hn] at hd; cases hd
 exact I.call (g':=s.gens) (d':=s.drawn) (t':=t') u hok I.bare λb hb=>⟨(hch b hb).2.2.2.1,(hch b hb).2.1,(hch b hb).2.2.2.2.1,(hch b hb).2.2.2.2.2⟩
end
theorem iN {a b:Nat} (h:a<b\/b<a):@Ne Addr a b:=λe=>by
 have e':a=b:=e
 lia
theorem Ft (n l1 l2:Nat) (h1:l1<n) (h2:l2<n):ZipApart (n+4) (n+2) (n+3) n (n+1) l1 l2 :=
 ⟨iN (by lia),iN (by lia),iN (by lia),iN (by lia),iN (by lia),iN (by lia),iN (by lia),iN (by lia),iN (by lia),iN (by lia),iN (by lia),iN (by lia),iN (by lia),iN (by lia),iN (by lia),iN (by lia),iN (by lia),iN (by lia)⟩
def pF (K:W.Frag) (a b:Addr):It :=
 ⟨λi H=>∃ xs ys x y,ak K H a xs/\ak K H b ys/\xs[i]?=some x/\ys[i]?=some y,
 λi H v H'=>∃ t x y,H t=none/\v=.ref t/\H'=upd H t (.tup [x,y])/\(∀ xs,ak K H a xs->xs[i]?=some x)/\∀ ys,ak K H b ys->ys[i]?=some y,
 λi H=>∃ xs ys,ak K H a xs/\ak K H b ys/\(xs.length<=i\/ys.length<=i)⟩
theorem AK {h:Heap} {it l:Addr} {i:Nat} (x:h.IsListIter it l i):∃ o,h.get? it=some o/\∀ v,o.data≠.cell v:=by
 obtain ⟨o,e,c,d⟩:=x
 exact ⟨o,e,λv z=>by rw [d] at z; cases z⟩
theorem KL {P:Program} {w:World} {K:W.Frag} {elts:List PySem.Expr} {x1} {pos:Pos} (z TI TO i1 i2 a b:Addr) (D:ZipApart z TI TO i1 i2 a b) :
  Turn P w K (.Tuple elts x1 pos) (pF K a b) [z,TI,TO,i1,i2] z (λi h=>IsZip h z TI TO .none/\IsPair h TI (.ref i1) (.ref i2)/\(∃ u v,IsPair h TO u v)/\h.IsListIter i1 a i/\h.IsListIter i2 b i) where
 mem:=by simp
 obj:=λi h st c hc=>by
  obtain ⟨hz,hTI,⟨u,v,hTO⟩,h1,h2⟩:=st
  simp only [asf,a6P,azq] at hc
  rcases hc with rfl | rfl | rfl | rfl | rfl
  .exact ⟨_,hz,λv e=>by cases e⟩
  .exact ⟨_,hTI,λv e=>by cases e⟩
  .exact ⟨_,hTO,λv e=>by cases e⟩
  .exact AK h1
  .exact AK h2
 keep:=λi h h' st k=>by
  obtain ⟨hz,hTI,⟨u,v,hTO⟩,h1,h2⟩:=st
  exact ⟨k z (by simp) _ hz,k TI (by simp) _ hTI,⟨u,v,k TO (by simp) _ hTO⟩,h1.at λo e=>k i1 (by simp) o e,h2.at λo e=>k i2 (by simp) o e⟩
 item:=by
  intro X hP hw hK hc i pins s σ H E I hf st hg
  subst hP hw hK
  obtain ⟨xs,ys,x,y,jR,jQ,hx,hy⟩:=hg
  obtain ⟨hz,hTI,⟨u0,v0,hTO⟩,h1,h2⟩:=st
  obtain ⟨gT,ra,pa,za⟩:=I.list jR
  obtain ⟨ic,rb,pb,zb⟩:=I.list jQ
  obtain ⟨ux,hux,BU⟩:=ra.get hx
  obtain ⟨uy,C0,BS⟩:=rb.get hy
  refine wpAny_pyNext_zip_item D hz hTI hTO h1 h2 pa.isList pb.isList (x:=ux) (y:=uy) (by simpa using hux) (by simpa using C0) λh' a1 a2 a3 a4 a5 a6 a7=>?_
  refine ⟨.ref s.heap.objs.size,rfl,?_⟩
  refine wpAny_letOwnedTupleGo_zip a1 λh2' hz' hs'=>?_
  have mZ:z<s.heap.objs.size:=alE hz
  have kk:∀ c o,c∉[z,TI,TO,i1,i2]->s.heap.get? c=some o->h2'.get? c=some o:=λc o hc e=>by
   simp only [asf,a6P,azq,not_or] at hc
   exact hs'.extBut c o hc.1 (a7 c o hc.1 hc.2.2.1 hc.2.2.2.1 hc.2.2.2.2 e)
  have tp:h2'.get? s.heap.objs.size=some { cls:=.type "tuple",data:=.seq #[ux,uy] }:=hs'.extBut _ _ (aky mZ) a5
  have I1:Inv X pins σ (upd H s.heap.objs.size (.tup [x,y])) { s with heap:=h2',toks:=s.toks } :=
   I.jP hf kk ⟨by show 2<=sizeLine; decide,[ux,uy],.cons BU (.cons BS .nil),⟨_,tp,rfl,_,rfl⟩⟩
  have Gu:h2'.get? TI=s.heap.get? TI:=by
   rw [hTI]
   exact hs'.extBut _ _ D.TIz (a7 _ _ D.TIz D.TITO D.TIi1 D.TIi2 hTI)
  refine ⟨.ref s.heap.objs.size,_,I1,rfl,⟨s.heap.objs.size,x,y,I.hok.fresh (aNS _),rfl,rfl,λxs' h=>by rw [I.fq h jR]; exact hx,λys' h=>by rw [I.fq h jQ]; exact hy⟩,⟨hz',?_,⟨ux,uy,hs'.extBut _ _ D.TOz a2⟩,a3.at λo e=>hs'.extBut _ o D.i1z e,a4.at λo e=>hs'.extBut _ o D.i2z e⟩,λc hc=>?_⟩
  .show h2'.get? TI=_
   rw [Gu]; exact hTI
  .have hc':=hc
   have hlt:c<s.heap.objs.size:=by
    simp only [asf,a6P,azq] at hc'
    rcases hc' with rfl | rfl | rfl | rfl | rfl
    .exact mZ
    .exact alE hTI
    .exact alE hTO
    .obtain ⟨o,e,_⟩:=AK h1; exact alE e
    .obtain ⟨o,e,_⟩:=AK h2; exact alE e
   rw [Zc (aOw hlt)]
   exact (hf c hc).1
 done:=by
  intro X hP hw hK hc i pins s σ H E I hf st hg
  subst hP hw hK
  obtain ⟨xs,ys,jR,jQ,hend⟩:=hg
  obtain ⟨hz,hTI,⟨u0,v0,hTO⟩,h1,h2⟩:=st
  obtain ⟨gT,ra,pa,za⟩:=I.list jR
  obtain ⟨ic,rb,pb,zb⟩:=I.list jQ
  have la:=ra.length
  have lb:=rb.length
  refine wpAny_pyNext_zip_end (I.ok.hd hc) D hz hTI hTO h1 h2 pa.isList pb.isList ?_ λh' hk=>⟨rfl,?_⟩
  .rcases hend with q | q
   .exact .inl (by simp; lia)
   .exact .inr (by simp; lia)
  .refine I.gE (t':=s.toks) hf λc o hc e=>?_
   simp only [asf,a6P,azq,not_or] at hc
   exact hk c o hc.1 hc.2.2.1 hc.2.2.2.1 hc.2.2.2.2 e
 self:=λ_ _ _ _ _ st h=>aOl st.1 h
def CV (K:W.Frag) (ta:TA):TI:=λσ H R=>ta σ H λvs H1=>∃ a b,vs=[.ref a,.ref b]/\(∃ xs,ak K H1 a xs)/\(∃ ys,ak K H1 b ys)/\R (pF K a b) H1
section
variable {X:Cx}
theorem KJ:bootBuiltins "zip" = some (.type "zip"):=by first | rfl | decide +kernel | kernel_rfl
theorem Wr:bootBuiltins "enumerate" = some (.type "enumerate"):=by first | rfl | decide +kernel | kernel_rfl
theorem Jj {elts:List PySem.Expr} {x1} {tpos:Pos} {a b:PySem.Expr} {ta:TA} {p pos:Pos} (hg:Gl X "zip") (hm:X.mg "zip" = none) (ha:PA X [a,b] ta) (hs:starEach [a,b] X.env=[(false,eval a X.env),(false,eval b X.env)]:=by rfl) (hs2:starEach [b] X.env=[(false,eval b X.env)]:=by rfl) :
  PI X (.Tuple elts x1 tpos) (.Call (.Name "zip" p) [a,b] [] pos) (CV X.K ta):=by
 intro pins s σ H R I h
 refine Call_ (oh I hg hm KJ (aCw (kR (ha pos pins s σ H _ I h) λus s1 vs H1 I1 r1 q1=>?_) (by rw [hs,hs2]) (by rw [hs2]; rfl)))
 obtain ⟨l1,l2,e,⟨xs,jR⟩,⟨ys,jQ⟩,q⟩:=q1
 subst e
 obtain ⟨v1,v2,rfl,r,r'⟩:=vals2 r1
 cases r
 cases r'
 obtain ⟨gT,ra,pa,za⟩:=I1.list jR
 obtain ⟨ic,rb,pb,zb⟩:=I1.list jQ
 have mR:l1<s1.heap.objs.size:=by obtain ⟨o,e,_⟩:=pa.isList; exact alE e
 have qW:l2<s1.heap.objs.size:=by obtain ⟨o,e,_⟩:=pb.isList; exact alE e
 refine call_zip_2 pa.isList pb.isList λh' g5 g3 g4 g1 g2 hsz kp=>aOl g5 ?_
 refine ⟨_,[_,_,_,_,_],_,_,H1,rfl,I1.kept (t':=s1.toks) kp,KL _ _ _ _ _ l1 l2 (Ft s1.heap.objs.size l1 l2 mR qW),⟨g5,g3,⟨_,_,g4⟩,g1,g2⟩,λc hc=>?_,q⟩
 have hc':s1.heap.objs.size<=c:=by
  simp only [asf,a6P,azq] at hc
  rcases hc with rfl | rfl | rfl | rfl | rfl <;> first | exact aNS _ | exact Nat.le_add_right _ _
 exact I1.iT hc' (I1.hok.fresh hc')
def qG (K:W.Frag) (a:Addr):It :=
 ⟨λi H=>∃ xs x,ak K H a xs/\xs[i]?=some x,
 λi H v H'=>∃ t x,H t=none/\v=.ref t/\H'=upd H t (.tup [.int i,x])/\∀ xs,ak K H a xs->xs[i]?=some x,
 λi H=>∃ xs,ak K H a xs/\xs.length=i⟩
theorem Ux {P:Program} {w:World} {K:W.Frag} {elts:List PySem.Expr} {x1} {pos:Pos} (e it a:Addr) (hei:e≠it) (Pc:a≠e) (hai:a≠it) :
  Turn P w K (.Tuple elts x1 pos) (qG K a) [e,it] e (λi h=>(∃ old,IsEnum h e it i old)/\h.IsListIter it a i) where
 mem:=by simp
 obj:=λi h st c hc=>by
  obtain ⟨⟨old,he⟩,h1⟩:=st
  simp only [asf,a6P,azq] at hc
  rcases hc with rfl | rfl
  .exact ⟨_,he,λv z=>by cases z⟩
  .obtain ⟨o,q,c,d⟩:=h1; exact ⟨o,q,λv z=>by rw [d] at z; cases z⟩
 keep:=λi h h' st k=>by
  obtain ⟨⟨old,he⟩,h1⟩:=st
  exact ⟨⟨old,k e (by simp) _ he⟩,h1.at λo q=>k it (by simp) o q⟩
 item:=by
  intro X hP hw hK hc i pins s σ H E I hf st hg
  subst hP hw hK
  obtain ⟨xs,x,hq,hx⟩:=hg
  obtain ⟨⟨old,he⟩,h1⟩:=st
  obtain ⟨its,rv,p,hz⟩:=I.list hq
  obtain ⟨u,hu,ru⟩:=rv.get hx
  have hlt:i<its.toArray.size:=by
   have:=(aw7.mp hu).1
   simpa using this
  refine wpAny_pyNext_enum_itemD (Draws.list (A:=X.A.in1) (show X.A.in1.handled=none from I.ok.hd hc) it a hai its.toArray) he ⟨h1,p.isList⟩ hlt hei (by simp [hei,a38 Pc]) λv h' tk hP ho hs' hT hsz hk=>?_
  have k9:v=u:=by
   have z:its[i]?=some v:=by simpa using hP
   rw [hu] at z; exact (ado z).symm
  subst k9
  refine ⟨.ref s.heap.objs.size,rfl,?_⟩
  refine wpAny_letOwnedTupleGo_enum ho λh2 O0 sR=>?_
  have helt:e<s.heap.objs.size:=alE he
  have kk:∀ c o,c∉[e,it]->s.heap.get? c=some o->h2.get? c=some o:=λc o hc q=>by
   simp only [asf,a6P,azq,not_or] at hc
   exact (sR.2 c hc.1).trans (hk c o hc.1 hc.2 q)
  have tp:h2.get? s.heap.objs.size=some { cls:=.type "tuple",data:=.seq #[.int i tk,v] }:=(sR.2 _ (aky helt)).trans hT
  have I1:Inv X pins σ (upd H s.heap.objs.size (.tup [.int i,x])) { s with heap:=h2,toks:=tk+1 } :=
   I.jP hf kk ⟨by show 2<=sizeLine; decide,[.int i tk,v],.cons ⟨tk,rfl⟩ (.cons ru .nil),⟨_,tp,rfl,_,rfl⟩⟩
  refine ⟨.ref s.heap.objs.size,_,I1,rfl,⟨s.heap.objs.size,x,I.hok.fresh (aNS _),rfl,rfl,λys hy=>by rw [I.fq hy hq]; exact hx⟩,⟨⟨v,by simpa using O0⟩,hs'.1.at λo q=>(sR.2 _ (a38 hei)).trans q⟩,λc hc=>?_⟩
  have hlt':c<s.heap.objs.size:=by
   simp only [asf,a6P,azq] at hc
   rcases hc with rfl | rfl
   .exact helt
   .obtain ⟨o,q,_⟩:=h1; exact alE q
  rw [Zc (aOw hlt')]
  exact (hf c hc).1
 done:=by
  intro X hP hw hK hc i pins s σ H E I hf st hg
  subst hP hw hK
  obtain ⟨xs,hq,hx⟩:=hg
  obtain ⟨⟨old,he⟩,h1⟩:=st
  obtain ⟨its,rv,p,hz⟩:=I.list hq
  have hl:=rv.length
  have ei:i=its.toArray.size:=by simp; lia
  subst ei
  refine wpAny_pyNext_enum_endD (Draws.list (A:=X.A.in1) (show X.A.in1.handled=none from I.ok.hd hc) it a hai its.toArray) he ⟨h1,p.isList⟩ λh' hx'=>⟨rfl,?_⟩
  refine I.gE (t':=s.toks) hf λc o hc q=>?_
  simp only [asf,a6P,azq,not_or] at hc
  exact hx' c o hc.2 q
 self:=λ_ _ _ _ _ st h=>by
  obtain ⟨⟨old,he⟩,_⟩:=st
  exact wpAny_pyIter_enum he h
def wI (K:W.Frag) (ta:TA):TI:=λσ H R=>ta σ H λvs H1=>∃ a,vs=[.ref a]/\(∃ xs,ak K H1 a xs)/\R (qG K a) H1
theorem Ez {elts:List PySem.Expr} {x1} {tpos:Pos} {a:PySem.Expr} {ta:TA} {p pos:Pos} (hg:Gl X "enumerate") (hm:X.mg "enumerate" = none) (ha:PA X [a] ta) (hs:starEach [a] X.env=[(false,eval a X.env)]:=by rfl) :
  PI X (.Tuple elts x1 tpos) (.Call (.Name "enumerate" p) [a] [] pos) (wI X.K ta):=by
 intro pins s σ H R I h
 refine Call_ (oh I hg hm Wr (aCw (kR (ha pos pins s σ H _ I h) λus s1 vs H1 I1 r1 q1=>?_) hs rfl))
 obtain ⟨l,e,⟨xs,hq⟩,q⟩:=q1
 subst e
 cases r1 with
 | cons r rr =>
  cases rr
  cases r
  obtain ⟨its,rv,pl,hz⟩:=I1.list hq
  have mR:l<s1.heap.objs.size:=by obtain ⟨o,e,_⟩:=pl.isList; exact alE e
  refine call_enumerate_list pl.isList λh' he hi hsz hk=>?_
  refine wpAny_pyIter_enum he ?_
  refine ⟨s1.heap.objs.size+1,[s1.heap.objs.size+1,s1.heap.objs.size],_,_,H1,rfl,I1.kept (t':=s1.toks) hk,Ux (s1.heap.objs.size+1) s1.heap.objs.size l (Nat.succ_ne_self _) (iN (.inl (ae2 mR))) (aOw mR),⟨⟨_,he⟩,hi⟩,λc hc=>?_,q⟩
  have hc':s1.heap.objs.size<=c:=by
   simp only [asf,a6P,azq] at hc
   rcases hc with rfl | rfl <;> lia
  exact I1.iT hc' (I1.hok.fresh hc')
end
def lO (H:Hp):V->Option String
 | .aV=>some "NoneType"
 | .bl _=>some "bool"
 | .int _=>some "int"
 | .str _=>some "str"
 | .ref a=>match H a with
  | some (.lst _)=>some "list"
  | some (.bD _ (.lst _))=>some "list"
  | some (.tup _)=>some "tuple"
  | some (.dK _)=>some "dict"
  | some (.dT _)=>some "dict"
  | _=>none
 | _=>none
theorem Ji {K:W.Frag} {H:Hp} {x:V} {t:String} (h:lO H x=some t):fM K H x (.type t):=by
 cases x with
 | aV=>cases h; exact .aV
 | bl b=>cases h; exact .bl b
 | int i=>cases h; exact .int i
 | str z=>cases h; exact .str z
 | ref a =>
  simp only [lO] at h
  split at h
  .rename_i e; cases h; exact .lst e
  .rename_i e; cases h; exact .bD e
  .rename_i e; cases h; exact .tup e
  .rename_i e; cases h; exact .dK e
  .rename_i e; cases h; exact .dT e
  .cases h
 | _=>cases h
def gH (t c:String):Bool:=t == c || (t == "bool" && c == "int")
def zT:List String:=["NoneType", "bool", "int", "str", "list", "tuple", "dict"]
def rW:List String:=["bool", "int", "str", "list", "tuple", "dict"]
theorem Fq (K:W.Frag):∀ t∈zT,∀ c∈rW,W.kitOne K (.type t) (.type c)=some (gH t c):=by
 intro t ht c hc
 simp only [zT,asf,a6P,azq] at ht
 simp only [rW,asf,a6P,azq] at hc
 rcases ht with rfl | rfl | rfl | rfl | rfl | rfl | rfl <;> rcases hc with rfl | rfl | rfl | rfl | rfl | rfl <;> rfl
theorem Lq {H:Hp} {x:V} {t:String} (h:lO H x=some t):t∈zT:=by
 cases x with
 | aV=>cases h; decide
 | bl b=>cases h; decide
 | int i=>cases h; decide
 | str z=>cases h; decide
 | ref a =>
  simp only [lO] at h
  split at h <;> first | (cases h; decide) | cases h
 | _=>cases h
section
variable {X:Cx}
def BW:List V->Hp->VK->Prop:=λxs H Q=>∃ x t c,xs=[x,.ty c]/\lO H x=some t/\c∈rW/\Q (.bl (gH t c)) H
theorem nH:aU X (.builtin "isinstance") BW:=by
 intro pins s σ H xs us Q I r h
 obtain ⟨x,t,c,rfl,ht,hc,q⟩:=h
 obtain ⟨u,w',rfl,rx,rc⟩:=vals2 r
 cases rc
 exact Vj I rx (Ji ht) (Fq X.K t (Lq ht) c hc) λtk=>⟨.bl _,H,I.tok tk,rfl,q⟩
def vJ:List V->Hp->VK->Prop:=λxs H Q=>∃ x t c d p,xs=[x,.ref p]/\H p=some (.tup [.ty c,.ty d])/\lO H x=some t/\c∈rW/\d∈rW/\Q (.bl (gH t c || gH t d)) H
theorem TX (K:W.Frag) {t c d:String} (ht:t∈zT) (hc:c∈rW) (hd:d∈rW):W.kitAny K (.type t) [.type c,.type d]=some (gH t c || gH t d):=by
 unfold W.kitAny
 rw [Fq K t ht c hc]
 cases gH t c with
 | true=>rfl
 | false =>
  show W.kitAny K (.type t) [.type d]=some (gH t d)
  unfold W.kitAny
  rw [Fq K t ht d hd]
  cases gH t d <;> rfl
theorem Lp:aU X (.builtin "isinstance") vJ:=by
 intro pins s σ H xs us Q I r h
 obtain ⟨x,t,c,d,p,rfl,hp,ht,hc,hd,q⟩:=h
 obtain ⟨u,w',rfl,rx,rc⟩:=vals2 r
 cases rc
 obtain ⟨_,its,rv,⟨o,ho,hcl,n,hdt⟩⟩:=(show aJ X.prog X.w H s.heap p (.tup [.ty c,.ty d]) from I.hok p _ hp)
 obtain ⟨u1,u2,rfl,r1,r2⟩:=vals2 rv
 cases r1
 cases r2
 have e:=TX X.K (Lq ht) hc hd
 have fin:∀ tk,EP X pins σ Q (.bool (gH t c || gH t d)) { s with toks:=tk }:=λtk=>⟨.bl _,H,I.tok tk,rfl,q⟩
 have htp:s.heap.get? p=some ⟨.type "tuple",o.dict,.seq [Value.type c,Value.type d].toArray n,o.slots⟩:=by
  rw [ho]
  obtain ⟨oc,od,W4,osl⟩:=o
  cases hcl; cases hdt
  rfl
 have ty:=Ji (K:=X.K) ht
 generalize hT:Value.type t=T at ty e
 cases ty with
 | aV=>cases (show u=Value.none from rx); exact aq2 W.kitx_none I.dI True.intro htp e (λz=>nomatch z) fin
 | bl y=>cases (show u=Value.bool y from rx); exact aq2 W.kitx_bool I.dI True.intro htp e (λz=>nomatch z) fin
 | int i=>obtain ⟨t,q⟩:=(show ∃ t,u=Value.int i t from rx); cases q; exact aq2 W.kitx_int I.dI True.intro htp e (λz=>nomatch z) fin
 | str y=>obtain ⟨t,q⟩:=(show ∃ t,u=Value.str y t from rx); cases q; exact aq2 W.kitx_str I.dI True.intro htp e (λz=>nomatch z) fin
 | oU y=>obtain ⟨t,q⟩:=(show ∃ t,u=Value.float y t from rx); cases q; exact aq2 W.kitx_float I.dI True.intro htp e (λz=>nomatch z) fin
 | @lst a xs ea =>
  cases (show u=Value.ref a from rx)
  obtain ⟨_,_,n,_,h1⟩:=(show aJ X.prog X.w H s.heap a (.lst xs) from I.hok a _ ea)
  exact aq2 W.kitx_list I.dI ⟨_,h1,rfl⟩ htp e (λz=>nomatch z) fin
 | @bD a ob xs ea =>
  cases (show u=Value.ref a from rx)
  obtain ⟨_,_,_,n,_,h1⟩:=(show aJ X.prog X.w H s.heap a (.bD ob (.lst xs)) from I.hok a _ ea)
  exact aq2 W.kitx_list I.dI ⟨_,h1,rfl⟩ htp e (λz=>nomatch z) fin
 | @tup a xs ea =>
  cases (show u=Value.ref a from rx)
  obtain ⟨_,_,_,p⟩:=(show aJ X.prog X.w H s.heap a (.tup xs) from I.hok a _ ea)
  obtain ⟨o,h1,h2,_⟩:=p
  exact aq2 W.kitx_tuple I.dI ⟨o,h1,h2⟩ htp e (λz=>nomatch z) fin
 | @dK a kvs ea =>
  cases (show u=Value.ref a from rx)
  obtain ⟨_,_,vs,_,p⟩:=(show aJ X.prog X.w H s.heap a (.dK kvs) from I.hok a _ ea)
  obtain ⟨o,es,ep,h1,h2,_⟩:=p
  exact aq2 W.kitx_dict I.dI ⟨o,h1,h2.1⟩ htp e (λz=>nomatch z) fin
 | @dT a kvs ea =>
  cases (show u=Value.ref a from rx)
  obtain ⟨_,_,xs,_,o,es,ep,h1,h2,_⟩:=(show aJ X.prog X.w H s.heap a (.dT kvs) from I.hok a _ ea)
  exact aq2 W.kitx_dict I.dI ⟨o,h1,h2.1⟩ htp e (λz=>nomatch z) fin
 | ins e'=>cases hT
theorem ZQ:bootBuiltins "isinstance" = some (.builtin "isinstance"):=by first | rfl | decide +kernel | kernel_rfl
theorem KI:bootBuiltins "all" = some (.builtin "all"):=by first | rfl | decide +kernel | kernel_rfl
theorem TV:bootBuiltins "any" = some (.builtin "any"):=by first | rfl | decide +kernel | kernel_rfl
theorem TU:bootBuiltins "sum" = some (.builtin "sum"):=by first | rfl | decide +kernel | kernel_rfl
theorem EX:bootBuiltins "max" = some (.builtin "max"):=by first | rfl | decide +kernel | kernel_rfl
theorem KH:bootBuiltins "min" = some (.builtin "min"):=by first | rfl | decide +kernel | kernel_rfl
theorem KG:bootBuiltins "abs" = some (.builtin "abs"):=by first | rfl | decide +kernel | kernel_rfl
theorem VM:bootBuiltins "divmod" = some (.builtin "divmod"):=by first | rfl | decide +kernel | kernel_rfl
theorem AV:bootBuiltins "int" = some (.type "int"):=by first | rfl | decide +kernel | kernel_rfl
theorem FL:bootBuiltins "bool" = some (.type "bool"):=by first | rfl | decide +kernel | kernel_rfl
theorem Fp:bootBuiltins "str" = some (.type "str"):=by first | rfl | decide +kernel | kernel_rfl
theorem ZY:bootBuiltins "list" = some (.type "list"):=by first | rfl | decide +kernel | kernel_rfl
theorem LQ:bootBuiltins "tuple" = some (.type "tuple"):=by first | rfl | decide +kernel | kernel_rfl
theorem Fo:∀ {bs:List Bool} {its:List Value},Vals (bs.map V.bl) its->its=bs.map Value.bool
 | [],_,.nil=>rfl
 | b :: bs,_,.cons r t=>by rw [Fo t]; cases r; rfl
theorem LU {bs:List Bool} (f:Nat->Bool) (hf:∀ i b,bs[i]?=some b->f i=b):(List.range bs.length).map f=bs:=by
 apply a1R
 intro i
 rw [aYu]
 by_cases h:i<bs.length
 .rw [ahO h,aDi h]
  simp only [aJJ]
  rw [hf i _ (aDi h)]
 .rw [aRn (by simpa using h),aRn (by lia)]; rfl
theorem Lo (hc:X.calm=true):aU X (.builtin "all") (λxs H Q=>∃ (p:Addr) (bs:List Bool),xs=[.ref p]/\ak X.K H p (bs.map V.bl)/\Q (.bl (bs.all id)) H):=by
 intro pins s σ H xs us Q I r h
 obtain ⟨p,bs,rfl,hq,q⟩:=h
 obtain ⟨u,rfl,rx⟩:=vals1 r
 cases rx
 obtain ⟨its,rv,pl,hz⟩:=I.list hq
 have e:=Fo rv
 subst e
 refine call_all_walk (abu pl.isList ?_)
 refine ⟨s.heap.objs.size,_,[s.heap.objs.size],_,_,_,λi=>bs.getD i true,rfl,Walks.list (A:=X.A.in1) (show X.A.in1.handled=none from I.ok.hd hc) s.heap.objs.size p ?_ (bs.map Value.bool).toArray,⟨⟨_,aMS _ rfl,rfl,rfl⟩,pl.isList.at λo e=>atD _ e⟩,?_,?_⟩
 .obtain ⟨o,e,_⟩:=pl.isList; exact aOw (alE e)
 .intro i v s' Q' E' hP hQ
  have k9:(bs.map Value.bool)[i]?=some v:=by simpa using hP
  rw [aYu] at k9
  cases z:bs[i]? with
  | none=>rw [z] at k9; cases k9
  | some b =>
   rw [z] at k9
   cases k9
   have:bs.getD i true=b:=by rw [aPI,z]; rfl
   have wY:Q' (bs.getD i true) s':=hQ
   rw [this] at wY
   exact a3o wY
 .intro h' tk hk
  refine ⟨.bl (bs.all id),H,I.kept (t':=tk) (λb o e=>hk b o (by simpa using aOw (alE e)) (atD _ e)),?_,q⟩
  have z:(List.range bs.length).map (λi=>bs.getD i true)=bs:=LU _ λi b e=>by rw [aPI,e]; rfl
  have z2:(List.range bs.length).all (λi=>bs.getD i true)=bs.all id:=by
   conv=>rhs; rw [← z]
   rw [List.all_map]; rfl
  show Value.bool _=Value.bool _
  have z3:(bs.map Value.bool).toArray.size=bs.length:=by simp
  rw [z3,z2]
end
structure Def (P:Program) (w:World) (K:W.Frag) (mg:Str->Option Value) (base:Heap) (x:Str) (k:Nat) (ps:List Str) (sp:Sp):Prop where
 ex:∃ (f:Addr) (fd:FuncData),aH P w K mg base bI k f fd ps sp/\mg x=some (.ref f)/\W.keepIn K (.ref f)=true/\Binds K fd ps []
section
variable {X:Cx} {x:Str} {p pos:Pos} {e:PySem.Expr} {es:List PySem.Expr} {t:TA} {k:Nat} {ps:List Str} {sp:Sp}
theorem Rm (D:Def X.prog X.w X.K X.mg X.base x k ps sp) (hr:aY k X.A) (hg:Gl X x) (ha:PA X (e :: es) t)
  (he:starEach (e :: es) X.env=(false,eval e X.env) :: starEach es X.env:=by rfl) (hpl:(backTo pos (starEach es X.env)).any (·.1)=false:=by rfl) (hd:(x == ("__debug__" : Str))=false:=by decide) :
  PE X (.Call (.Name x p) (e :: es) [] pos) (l0 sp [] E0 t):=by
 obtain ⟨f,fd,F,hm,hk,hb⟩:=D.ex
 exact Sb F hr hg hm hk hb .nil mH ha (hdb:=hd) (he:=he) (hpl:=hpl)
end
theorem kJ {X:Cx} {K:W.Frag} {es:List PySem.Expr} {k:Nat} {t:qB} {n:Nat} {pos:Pos} (hK:X.K=K) (hc:X.calm=true) (h:yr X es t)
  (hn:(assignEach es X.env).length=n:=by rfl) (hst:(assignEach es X.env).findIdx? (·.1)=none:=by rfl):PG X (.Tuple es k pos) (w6 K n t):=by
 subst hK
 exact RA hc h hn hst
def qp (eV:Scope) (oN:List Str) (scope:Scope) (N:List Str) (own:Nat) (js:List Nat):Bool :=
 scope.kind == .function && scope.names.all (λy=>y.2 != .cell || scope.names.lookup y.1 == some .cell) && scope.names.all (λy=>y.2 != .local || scope.names.lookup y.1 == some .local) &&
 scope.names.all (λy=>y.2 != .free || (eV.names.lookup y.1 == some .cell || eV.names.lookup y.1 == some .free)) && N.length == own+js.length &&
 (js.map λj=>oN[j]?) == (N.drop own).map some && (N.drop own).all λx=>scope.names.lookup x == some .free
theorem Zy {X:Cx} {eV:Scope} {oN:List Str} {scope:Scope} {N:List Str} {own:Nat} {js:List Nat} (h:qp eV oN scope N own js=true) (hs:X.env.scope=eV) (hN:X.N=oN):cF X scope N own js:=by
 unfold qp at h
 simp only [ba6,aql,a09,aY8,bne_iff_ne,ne_eq] at h
 obtain ⟨⟨⟨⟨⟨⟨h1,h2⟩,h3⟩,h4⟩,h5⟩,h6⟩,h7⟩:=h
 refine ⟨h1,λy hy hl=>?_,λy hy hl=>?_,λy hy hf=>?_,h5,λk j e=>?_,λk x e=>?_⟩
 .rcases h2 y hy with q | q
  .exact absurd hl q
  .exact q
 .rcases h3 y hy with q | q
  .exact absurd hl q
  .exact q
 .rcases h4 y hy with q | q
  .exact absurd hf q
  .show X.env.scope.names.lookup y.1=_\/X.env.scope.names.lookup y.1=_
   rw [hs]; exact q
 .rw [hN]
  have z:=a0A (λl=>l[k]?) h6
  simp only [aYu,e,aJJ,aWI] at z
  cases q:N[own+k]? with
  | none=>rw [q] at z; cases z
  | some y=>rw [q] at z; exact (ado z).symm
 .refine h7 x ?_
  exact abg (i:=k) (by rw [aWI]; exact e)
def SB (b:Addr) (H H':Hp):Prop:=∀ a o,a≠b->H a=some o->H' a=some o
theorem SB.trans {b:Addr} {H H1 H2:Hp} (x:SB b H H1) (y:SB b H1 H2):SB b H H2:=λa o n h=>y a o n (x a o n h)
theorem aq.sb {H H':Hp} (x:aq H H') (b:Addr):SB b H H':=λa o _ h=>x a o h
theorem tW (b:Addr) (H:Hp) (o:HO):SB b H (upd H b o):=λa u n h=>by rw [Zc n]; exact h
theorem Zf {H:Hp} {p:Addr} (h:H p=none) (o:HO):aq H (upd H p o):=λb u q=>by rw [Zc (Zb q h)]; exact q
def eX (n:Nat) (l:Addr) (Pv:Nat->List V->St->Hp->Prop) (i:Nat) (ys:List V) (σ:St) (y:V) (H:Hp):Prop :=
 H l=some (.lst ys)/\ys.length<sizeLine/\∃ m',m'<n - i/\(m'=n - (i+1)/\i+1<=n/\(ys++[y]).length<=i+1/\Pv (i+1) (ys++[y]) σ (upd H l (.lst (ys++[y]))))
def lJ (n:Nat) (Pv:Nat->List V->St->Hp->Prop) (i:Nat) (ys:List V) (σ:St) (H:Hp):Prop:=∃ m',m'<n - i/\(m'=n - (i+1)/\i+1<=n/\ys.length<=i+1/\Pv (i+1) ys σ H)
theorem eX.of {n:Nat} {l:Addr} {Pv:Nat->List V->St->Hp->Prop} {i:Nat} {ys:List V} {σ:St} {y:V} {H:Hp} (hn:n<=sizeLine) (hi:i<n) (hy:ys.length<=i) (h1:H l=some (.lst ys)) (h2:Pv (i+1) (ys++[y]) σ (upd H l (.lst (ys++[y])))):eX n l Pv i ys σ y H :=
 ⟨h1,by lia,n - (i+1),by lia,rfl,hi,by rw [aUV,axk]; lia,h2⟩
theorem lJ.of {n:Nat} {Pv:Nat->List V->St->Hp->Prop} {i:Nat} {ys:List V} {σ:St} {H:Hp} (hi:i<n) (hy:ys.length<=i) (h2:Pv (i+1) ys σ H):lJ n Pv i ys σ H :=
 ⟨n - (i+1),by lia,rfl,hi,by lia,h2⟩
theorem uz {lo:Int} {n:Nat} {l:Addr} {g:TG} {tc:TT} {te:TE} {σ0:St} {H0:Hp} {Qf:Hp->Prop} (Pv:Nat->List V->St->Hp->Prop) (h0:Pv 0 [] σ0 H0)
  (hs:∀ i ys σ' H',i<n->ys.length<=i->Pv i ys σ' H'->g (.int (lo+i)) σ' H' λσ2 H3=>tc σ2 H3 λb H4=>if b=true then te σ2 H4 λy H5=>eX n l Pv i ys σ2 y H5 else lJ n Pv i ys σ2 H4)
  (hd:∀ ys σ' H',ys.length<=n->Pv n ys σ' H'->Qf H') :
  ∃ W:Nat->Nat->List V->St->Hp->Prop,(∃ m,W 0 m [] σ0 H0)/\∀ i m ys σ' H',W i m ys σ' H' ->
  ((pG lo n).stop i H'/\Qf H')\/((pG lo n).go i H'/\∀ x H2,(pG lo n).jB i H' x H2->g x σ' H2 λσ2 H3=>tc σ2 H3 λb H4 =>
    if b=true then te σ2 H4 λy H5=>H5 l=some (.lst ys)/\ys.length<sizeLine/\∃ m',m'<m/\W (i+1) m' (ys++[y]) σ2 (upd H5 l (.lst (ys++[y])))
    else ∃ m',m'<m/\W (i+1) m' ys σ2 H4):=by
 refine ⟨λi m ys σ' H'=>m=n - i/\i<=n/\ys.length<=i/\Pv i ys σ' H',⟨n,rfl,aze _,aNS _,h0⟩,?_⟩
 rintro i m ys σ' H' ⟨rfl,hi,hy,p⟩
 by_cases hlt:i<n
 .refine .inr ⟨hlt,λx H2 q=>?_⟩
  obtain ⟨rfl,rfl⟩:=q
  exact hs i ys σ' _ hlt hy p
 .have e:i=n:=by lia
  subst e
  exact .inl ⟨aNS _,hd ys σ' H' hy p⟩
theorem o9 {K:W.Frag} {a:Addr} {xs:List V} {l:Addr} {g:TG} {tc:TT} {te:TE} {σ0:St} {H0:Hp} {Qf:Hp->Prop} (Pv:Nat->List V->St->Hp->Prop) (h0:Pv 0 [] σ0 H0)
  (hl:∀ i ys σ' H',i<=xs.length->Pv i ys σ' H'->ak K H' a xs)
  (hs:∀ i x ys σ' H',i<xs.length->xs[i]?=some x->ys.length<=i->Pv i ys σ' H'->g x σ' H' λσ2 H3=>tc σ2 H3 λb H4=>if b=true then te σ2 H4 λy H5=>eX xs.length l Pv i ys σ2 y H5 else lJ xs.length Pv i ys σ2 H4)
  (hd:∀ ys σ' H',ys.length<=xs.length->Pv xs.length ys σ' H'->Qf H') :
  ∃ W:Nat->Nat->List V->St->Hp->Prop,(∃ m,W 0 m [] σ0 H0)/\∀ i m ys σ' H',W i m ys σ' H' ->
  ((qF K a).stop i H'/\Qf H')\/((qF K a).go i H'/\∀ x H2,(qF K a).jB i H' x H2->g x σ' H2 λσ2 H3=>tc σ2 H3 λb H4 =>
    if b=true then te σ2 H4 λy H5=>H5 l=some (.lst ys)/\ys.length<sizeLine/\∃ m',m'<m/\W (i+1) m' (ys++[y]) σ2 (upd H5 l (.lst (ys++[y])))
    else ∃ m',m'<m/\W (i+1) m' ys σ2 H4):=by
 refine ⟨λi m ys σ' H'=>m=xs.length - i/\i<=xs.length/\ys.length<=i/\Pv i ys σ' H',⟨xs.length,rfl,aze _,aNS _,h0⟩,?_⟩
 rintro i m ys σ' H' ⟨rfl,hi,hy,p⟩
 have q:=hl i ys σ' H' hi p
 by_cases hlt:i<xs.length
 .refine .inr ⟨⟨xs,xs[i],q,by simp [hlt]⟩,λx H2 z=>?_⟩
  obtain ⟨rfl,z⟩:=z
  exact hs i x ys σ' _ hlt (z xs q) hy p
 .have e:i=xs.length:=by lia
  subst e
  exact .inl ⟨⟨xs,q,aNS _⟩,hd ys σ' H' hy p⟩
theorem TR {K:W.Frag} {a b:Addr} {xs zs:List V} {l:Addr} {g:TG} {tc:TT} {te:TE} {σ0:St} {H0:Hp} {Qf:Hp->Prop} (hlen:xs.length=zs.length) (Pv:Nat->List V->St->Hp->Prop) (h0:Pv 0 [] σ0 H0)
  (hl:∀ i ys σ' H',i<=xs.length->Pv i ys σ' H'->ak K H' a xs/\ak K H' b zs)
  (hs:∀ i x z t ys σ' H',i<xs.length->xs[i]?=some x->zs[i]?=some z->ys.length<=i->Pv i ys σ' H'->H' t=none->g (.ref t) σ' (upd H' t (.tup [x,z])) λσ2 H3=>tc σ2 H3 λb H4=>if b=true then te σ2 H4 λy H5=>eX xs.length l Pv i ys σ2 y H5 else lJ xs.length Pv i ys σ2 H4)
  (hd:∀ ys σ' H',ys.length<=xs.length->Pv xs.length ys σ' H'->Qf H') :
  ∃ W:Nat->Nat->List V->St->Hp->Prop,(∃ m,W 0 m [] σ0 H0)/\∀ i m ys σ' H',W i m ys σ' H' ->
  ((pF K a b).stop i H'/\Qf H')\/((pF K a b).go i H'/\∀ x H2,(pF K a b).jB i H' x H2->g x σ' H2 λσ2 H3=>tc σ2 H3 λb H4 =>
    if b=true then te σ2 H4 λy H5=>H5 l=some (.lst ys)/\ys.length<sizeLine/\∃ m',m'<m/\W (i+1) m' (ys++[y]) σ2 (upd H5 l (.lst (ys++[y])))
    else ∃ m',m'<m/\W (i+1) m' ys σ2 H4):=by
 refine ⟨λi m ys σ' H'=>m=xs.length - i/\i<=xs.length/\ys.length<=i/\Pv i ys σ' H',⟨xs.length,rfl,aze _,aNS _,h0⟩,?_⟩
 rintro i m ys σ' H' ⟨rfl,hi,hy,p⟩
 have q:=hl i ys σ' H' hi p
 by_cases hlt:i<xs.length
 .have hz:i<zs.length:=by lia
  refine .inr ⟨⟨xs,zs,xs[i],zs[i],q.1,q.2,by simp [hlt],by simp [hz]⟩,λx H2 z=>?_⟩
  obtain ⟨t,u,v,ht,rfl,rfl,z1,z2⟩:=z
  exact hs i u v t ys σ' _ hlt (z1 xs q.1) (z2 zs q.2) hy p ht
 .have e:i=xs.length:=by lia
  subst e
  exact .inl ⟨⟨xs,zs,q.1,q.2,.inl (aNS _)⟩,hd ys σ' H' hy p⟩
theorem KD {K:W.Frag} {a:Addr} {xs:List V} {g:TG} {tb:TS} {D:Ends} {σ:St} {H:Hp} (Pv:Nat->St->Hp->Prop) (h0:Pv 0 σ H) (hl:∀ i σ H,i<=xs.length->Pv i σ H->ak K H a xs)
  (hs:∀ i x t σ H,xs[i]?=some x->Pv i σ H->H t=none->g (.ref t) σ (upd H t (.tup [.int i,x])) λσ2 H2=>tb { D with nx:=Pv (i+1),ct:=Pv (i+1),bk:=D.nx } σ2 H2) (hd:∀ σ H,Pv xs.length σ H->D.nx σ H) :
  ∃ W:Nat->Nat->St->Hp->Prop,(∃ m,W 0 m σ H)/\∀ i m σ H,W i m σ H ->
   ((qG K a).stop i H/\D.nx σ H)\/((qG K a).go i H/\∃ N:St->Hp->Prop,(∀ σ' H',N σ' H'->∃ m',m'<m/\W (i+1) m' σ' H')/\∀ x H',(qG K a).jB i H x H'->g x σ H' λσ2 H2=>tb { D with nx:=N,ct:=N,bk:=D.nx } σ2 H2):=by
 refine ⟨λi m σ H=>m=xs.length - i/\i<=xs.length/\Pv i σ H,⟨xs.length,by simp,aze _,h0⟩,?_⟩
 rintro i m σ H ⟨rfl,hi,p⟩
 have q:=hl i σ H hi p
 by_cases hlt:i<xs.length
 .refine .inr ⟨⟨xs,xs[i],q,by simp [hlt]⟩,Pv (i+1),λσ' H' p'=>⟨xs.length - (i+1),by lia,rfl,hlt,p'⟩,λx H' y=>?_⟩
  obtain ⟨t,u,ht,rfl,rfl,y⟩:=y
  exact hs i u t σ _ (y xs q) p ht
 .have e:i=xs.length:=by lia
  subst e
  exact .inl ⟨⟨xs,q,rfl⟩,hd σ H p⟩
theorem nE {α:Type} {x:α} {xs:List α}:cZ (x :: xs) 0=some x:=ZS (j:=0) rfl
theorem rV {α:Type} {x y:α} {xs:List α}:cZ (x :: y :: xs) 1=some y:=ZS (j:=1) rfl
theorem nD {α:Type} {x y z:α} {xs:List α}:cZ (x :: y :: z :: xs) 2=some z:=ZS (j:=2) rfl
theorem ZJ {p A B:Prop} [Decidable p] (h1:p->A) (h2:¬ p->B):if decide p=true then A else B:=by
 by_cases h:p
 .rw [atn (aGg h)]; exact h1 h
 .rw [amU (by rw [aWh h]; exact aPi)]; exact h2 h
def NS:PySem.Expr->Prop
 | .Starred _ _=>False
 | _=>True
theorem oZ {e:PySem.Expr} {es:List PySem.Expr} {env:Env} (h:NS e):starEach (e :: es) env=(false,eval e env) :: starEach es env:=by
 cases e <;> first | rfl | exact h.elim
def qE:List PySem.Expr->Prop
 | []=>True
 | e :: es=>NS e/\qE es
theorem uh {pos:Pos} {env:Env}:∀ {es:List PySem.Expr},qE es->(backTo pos (starEach es env)).any (·.1)=false
 | [],_=>rfl
 | e :: es,h=>by
  rw [oZ h.1]
  have ih:=uh (pos:=pos) (env:=env) h.2
  simp only [backTo] at ih ⊢
  simpa using ih
section
variable {X:Cx} {x:Str} {p pos:Pos} {e:PySem.Expr} {es:List PySem.Expr} {te:TE} {t:TA} {k:Nat} {ps:List Str} {sp:Sp} {id T:String} {r:List V->Hp->VK->Prop}
theorem pc (ha:PE X e te) (hr:PA X es t) (hn:NS e:=by exact True.intro):PA X (e :: es) (pN te t):=Sd ha hr (oZ hn)
theorem Zm (D:Def X.prog X.w X.K X.mg X.base x k ps sp) (hr:aY k X.A) (hg:Gl X x) (ha:PA X (e :: es) t) (hn:qE (e :: es):=by repeat' (first | exact True.intro | refine ⟨?_,?_⟩)) (hd:(x == ("__debug__" : Str))=false:=by decide) :
  PE X (.Call (.Name x p) (e :: es) [] pos) (l0 sp [] E0 t):=Rm D hr hg ha (oZ hn.1) (uh hn.2) hd
theorem Zk (hc:aU X (.builtin id) r) (hg:Gl X x) (hm:X.mg x=none) (hv:bootBuiltins x=some (.builtin id)) (ha:PA X (e :: es) t) (hnn:qE (e :: es):=by repeat' (first | exact True.intro | refine ⟨?_,?_⟩)) (hn:x ≠ "__name__" := by decide) (hdb:(x == ("__debug__" : Str))=false:=by decide) :
  PE X (.Call (.Name x p) (e :: es) [] pos) (ve r t):=S5 hc hg hm hv ha hn hdb (oZ hnn.1) (uh hnn.2)
theorem yi (hc:aU X (.type T) r) (hg:Gl X x) (hm:X.mg x=none) (hv:bootBuiltins x=some (.type T)) (ha:PA X (e :: es) t) (hnn:qE (e :: es):=by repeat' (first | exact True.intro | refine ⟨?_,?_⟩)) (hn:x ≠ "__name__" := by decide) (hdb:(x == ("__debug__" : Str))=false:=by decide) :
  PE X (.Call (.Name x p) (e :: es) [] pos) (ve r t):=UD hc hg hm hv ha hn hdb (oZ hnn.1) (uh hnn.2)
end
theorem TQ {K:W.Frag} {a:Addr} {xs:List V} {l:Addr} {g:TG} {tc:TT} {te:TE} {σ0:St} {H0:Hp} {Qf:Hp->Prop} (Pv:Nat->List V->St->Hp->Prop) (h0:Pv 0 [] σ0 H0)
  (hl:∀ i ys σ' H',i<=xs.length->Pv i ys σ' H'->bG K H' a xs)
  (hs:∀ i x ys σ' H',i<xs.length->xs[i]?=some x->ys.length<=i->Pv i ys σ' H'->g x σ' H' λσ2 H3=>tc σ2 H3 λb H4=>if b=true then te σ2 H4 λy H5=>eX xs.length l Pv i ys σ2 y H5 else lJ xs.length Pv i ys σ2 H4)
  (hd:∀ ys σ' H',ys.length<=xs.length->Pv xs.length ys σ' H'->Qf H') :
  ∃ W:Nat->Nat->List V->St->Hp->Prop,(∃ m,W 0 m [] σ0 H0)/\∀ i m ys σ' H',W i m ys σ' H' ->
  ((yw K a).stop i H'/\Qf H')\/((yw K a).go i H'/\∀ x H2,(yw K a).jB i H' x H2->g x σ' H2 λσ2 H3=>tc σ2 H3 λb H4 =>
    if b=true then te σ2 H4 λy H5=>H5 l=some (.lst ys)/\ys.length<sizeLine/\∃ m',m'<m/\W (i+1) m' (ys++[y]) σ2 (upd H5 l (.lst (ys++[y])))
    else ∃ m',m'<m/\W (i+1) m' ys σ2 H4):=by
 refine ⟨λi m ys σ' H'=>m=xs.length - i/\i<=xs.length/\ys.length<=i/\Pv i ys σ' H',⟨xs.length,rfl,aze _,aNS _,h0⟩,?_⟩
 rintro i m ys σ' H' ⟨rfl,hi,hy,p⟩
 have q:=hl i ys σ' H' hi p
 by_cases hlt:i<xs.length
 .refine .inr ⟨⟨xs,xs[i],q,by simp [hlt]⟩,λx H2 z=>?_⟩
  obtain ⟨rfl,z⟩:=z
  exact hs i x ys σ' _ hlt (z xs q) hy p
 .have e:i=xs.length:=by lia
  subst e
  exact .inl ⟨⟨xs,q,aNS _⟩,hd ys σ' H' hy p⟩
section
variable {X:Cx}
theorem J8 {ns:List Int} (f:Nat->Int) (hf:∀ (i:Nat) (z:Int),ns[i]?=some z->f i=z):∀ j,j<=ns.length->preSum f j=(ns.take j).sum
 | 0,_=>by simp [preSum]
 | j+1,h=>by
  have hj:j<ns.length:=h
  rw [preSum,J8 f hf j (aRN hj),hf j ns[j] (aDi hj),List.take_add_one,aDi hj]
  show (ns.take j).sum+ns[j]=(ns.take j++[ns[j]]).sum
  first
   | (rw [List.sum_append_int,List.j6])
   | (rw [List.sum_append]; simp only [axJ,List.sum_nil,Int.add_zero])
   | (rw [List.sum_append_int]; simp only [axJ,List.sum_nil,Int.add_zero])
theorem Uw (hc:X.calm=true):aU X (.builtin "sum") (λxs H Q=>∃ (p:Addr) (ns:List Int),xs=[.ref p]/\ak X.K H p (ns.map V.int)/\(∀ j,j<ns.length->InLong (ns.getD j 0)/\InLong (ns.take (j+1)).sum)/\Q (.int ns.sum) H):=by
 intro pins s σ H xs us Q I r h
 obtain ⟨p,ns,rfl,hq,hb,q⟩:=h
 obtain ⟨u,rfl,rx⟩:=vals1 r
 cases rx
 obtain ⟨its,rv,pl,hz⟩:=I.list hq
 have hlen:ns.length=its.length:=by have:=rv.length; rwa [aAt] at this
 have hval:∀ (i:Nat) (v:Value),its.toArray[i]?=some v->∃ t,v=.int (ns.getD i 0) t:=λi v e=>by
  have e':its[i]?=some v:=by simpa using e
  have hi:i<ns.length:=by rw [hlen]; exact (aw7.mp e').1
  obtain ⟨u,hu,ru⟩:=rv.get (i:=i) (x:=.int ns[i]) (by rw [aYu,aDi hi]; rfl)
  rw [e'] at hu; cases hu
  obtain ⟨t,rfl⟩:=ru
  exact ⟨t,by rw [aPI,aDi hi]; rfl⟩
 have hps:∀ j,j<=ns.length->preSum (λi=>ns.getD i 0) j=(ns.take j).sum:=J8 _ λi z e=>by rw [aPI,e]; rfl
 refine call_sum_walk (abu pl.isList ?_)
 refine ⟨s.heap.objs.size,_,[s.heap.objs.size],_,_,_,λi=>ns.getD i 0,rfl,Walks.list (A:=X.A.in1) (show X.A.in1.handled=none from I.ok.hd hc) s.heap.objs.size p ?_ its.toArray,⟨⟨_,aMS _ rfl,rfl,rfl⟩,pl.isList.at λo e=>atD _ e⟩,?_,hval,?_,?_⟩
 .obtain ⟨o,e,_⟩:=pl.isList; exact aOw (alE e)
 .intro b hb'
  have lt:p<s.heap.objs.size:=by obtain ⟨o,e,_⟩:=pl.isList; exact alE e
  show b<(s.heap.push _).objs.size
  rw [aep]
  simp only [asf,a6P,azq] at hb'
  rcases hb' with rfl | rfl
  .exact aDX _
  .exact ae2 lt
 .intro j hj
  have hj':j<ns.length:=by rw [hlen]; simpa using hj
  refine ⟨(hb j hj').1,?_⟩
  rw [hps (j+1) hj']
  exact (hb j hj').2
 .intro h' tk t' hk
  refine ⟨.int ns.sum,H,I.kept (t':=tk) (λb o e=>hk b o (by simpa using aOw (alE e)) (atD _ e)),⟨t',?_⟩,q⟩
  have e:preSum (λi=>ns.getD i 0) its.toArray.size=ns.sum:=by
   rw [a5A,← hlen,hps _ (aNS _),afX]
  rw [e]
end
section
variable {X:Cx} {K:W.Frag}
theorem Zp (hK:X.K=K):Gz X (vI K):=hK ▸ R5
theorem KC (hK:X.K=K):Gv X (vE K):=hK ▸ R4
theorem FJ (hK:X.K=K):gz X (compareOp .In) (yW K false):=hK ▸ UC
theorem AX (hK:X.K=K):gz X (compareOp .NotIn) (yW K true):=hK ▸ V1
theorem Zn (hK:X.K=K):aU X (.builtin "len") (λxs H Q=>∃ p ys,xs=[.ref p]/\(ak K H p ys\/bG K H p ys)/\Q (.int ys.length) H):=hK ▸ V0
theorem F3 (hK:X.K=K):aU X (.type "list") (λxs H Q=>∃ p ys,xs=[.ref p]/\(ak K H p ys\/bG K H p ys)/\∀ l,H l=none->Q (.ref l) (upd H l (.lst ys))):=hK ▸ VZ
theorem U7 {ns ms:List Int} (h:ns.length=ms.length):(List.range ns.length).all (λj=>ns.getD j 0 == ms.getD j 0)=decide (ns=ms):=by
 rw [aOQ,aql,a8m]
 constructor
 .intro z
  refine List.ext_getElem h λj h1 h2=>?_
  have:=z j (aEj.mpr h1)
  rw [aPI,aPI,aDi h1,aDi h2] at this
  simpa using this
 .rintro rfl j _
  simp
def BX (K:W.Frag) (neg:Bool):R2:=λx y H Q=>∃ (a b:Addr) (ns ms:List Int),x=.ref a/\y=.ref b/\ak K H a (ns.map V.int)/\ak K H b (ms.map V.int)/\Q (.bl (if neg then !decide (ns=ms) else decide (ns=ms))) H
theorem Uv {A:Around} {s:Shared} {ns:List Int} {us:List Value} (r:Vals (ns.map V.int) us) {ms:List Int} {ws:List Value} (r2:Vals (ms.map V.int) ws) (j:Nat) (h1:j<us.toArray.size) (h2:j<ws.toArray.size):SeqAt.EqAt A s us.toArray[j] ws.toArray[j] (ns.getD j 0 == ms.getD j 0):=by
 have l1:ns.length=us.length:=by have:=r.length; rwa [aAt] at this
 have l2:ms.length=ws.length:=by have:=r2.length; rwa [aAt] at this
 have k1:j<ns.length:=by rw [l1]; simpa using h1
 have k2:j<ms.length:=by rw [l2]; simpa using h2
 obtain ⟨u,hu,ru⟩:=r.get (i:=j) (x:=.int ns[j]) (by rw [aYu,aDi k1]; rfl)
 obtain ⟨v,hv,rv⟩:=r2.get (i:=j) (x:=.int ms[j]) (by rw [aYu,aDi k2]; rfl)
 obtain ⟨t,rfl⟩:=ru
 obtain ⟨t',rfl⟩:=rv
 have e1:us.toArray[j]=.int ns[j] t:=by
  have:us[j]?=some us[j]:=aDi (by simpa using h1)
  rw [hu] at this
  simpa using (ado this).symm
 have e2:ws.toArray[j]=.int ms[j] t':=by
  have:ws[j]?=some ws[j]:=aDi (by simpa using h2)
  rw [hv] at this
  simpa using (ado this).symm
 rw [e1,e2,aPI,aPI,aDi k1,aDi k2]
 exact SeqAt.EqAt.int_int _ _ _ _
theorem Jg (hu:X.A.units<cLine) (hK:X.K=K):gz X (compareOp .NotEq) (BX K true):=by
 subst hK
 intro pins s σ H x y v u Q I rx ry h
 obtain ⟨a,b,ns,ms,rfl,rfl,ha,hb,q⟩:=h
 cases rx
 cases ry
 obtain ⟨its,r1,p1,_⟩:=I.list ha
 obtain ⟨its2,r2,p2,_⟩:=I.list hb
 have l1:ns.length=its.length:=by have:=r1.length; rwa [aAt] at this
 have l2:ms.length=its2.length:=by have:=r2.length; rwa [aAt] at this
 by_cases hl:ns.length=ms.length
 .refine SeqAt.RcNeAt.lists (e:=λj=>ns.getD j 0 == ms.getD j 0) p1.isList p2.isList (by simp; lia) hu (λj h1 h2=>Uv r1 r2 j h1 h2) X.prog X.w X.xe _ ⟨.bl _,H,I,rfl,?_⟩
  rw [a5A,← l1,U7 hl]
  exact q
 .refine SeqAt.RcNeAt.lists_lengths p1.isList p2.isList (by simp; lia) hu X.prog X.w X.xe _ ⟨.bl true,H,I,rfl,?_⟩
  have e:decide (ns=ms)=false:=aWh λz=>hl (by rw [z])
  rw [e] at q
  exact q
end
def tV (x:Value) (c:Nat):Obj:={ cls:=.type "list",dict:=none,data:=.seq #[x,x] c,slots:=#[] }
theorem J7 {P0:Program} {w0:World} {A0:Around} {R0:Result->Shared->Prop} {it box:Addr} {t:Shared} {old:Value} {c:Nat} (hx:t.heap.get? box=some (tV old c))
  (h:∀ E,wpAny (model P0 w0) A0.in1 (pyNext (.ref it)) (λr t1=>(∃ c1,t1.heap.get? box=some (tV old c1)) /\
   ((r=none/\R0 (.ok (.ret old)) { t1 with heap:=t1.heap.update box (Obj.mapSeq λ_=>#[]) }) \/
    ∃ v,r=some v/\∀ E',wpAny (model P0 w0) A0.in1 (richCompare .Gt v old) (λa t2=>∃ b,a=.bool b/\t2=t1 /\
      codeAny (model P0 w0) A0 (.builtin "max.loop" ⟨[.ref it,.none,.ref box],[]⟩) R0 (if b=true then { t1 with heap:=t1.heap.update box (Obj.mapSeq λ_=>#[v,v]) } else t1)) E' t1)) E t) :
  codeAny (model P0 w0) A0 (.builtin "max.loop" ⟨[.ref it,.none,.ref box],[]⟩) R0 t:=by
 refine codeAny_builtin F.entry_max_loop ?_
 rw [bbQ aa6 _]
 show wpAny _ _ (seqItems? (.ref box) >>= λfound=>_) _ _ t
 refine a6w (avs hx rfl (a6w (abC (aPb (h _) (λr t1 z=>?_) λ_ _ e=>e))))
 obtain ⟨⟨c1,kC⟩,⟨rfl,fin⟩ | ⟨v,rfl,go⟩⟩:=z
 .exact a6w (a6N kC rfl (a6w (a0x (adj fin))))
 .refine a6w (adj (a6w (abC (aBl (a6w (aPb (go _) (λa t2 y=>?_) λ_ _ e=>e))))))
  obtain ⟨b,rfl,rfl,oJ⟩:=y
  refine a6w (aBl (a3o (a6w (a0x (adj ?_)))))
  have name:(toString "max" ++ toString ".loop" : String) = "max.loop" := by decide
  cases b with
  | true=>exact a6w (a6N kC rfl (a6w (a0x (by rw [name]; exact adj ⟨a7K aa6 _,oJ⟩))))
  | false=>exact a6w (a0x (by rw [name]; exact adj ⟨a7K aa6 _,oJ⟩))
theorem Uu {P0:Program} {w0:World} {A0:Around} {R0:Result->Shared->Prop} {it box:Addr} {t:Shared} {c:Nat} (hx:t.heap.get? box=some { cls:=.type "list",dict:=none,data:=.seq #[] c,slots:=#[] })
  (h:∀ E,wpAny (model P0 w0) A0.in1 (pyNext (.ref it)) (λr t1=>∃ v c1,r=some v/\t1.heap.get? box=some { cls:=.type "list",dict:=none,data:=.seq #[] c1,slots:=#[] } /\
   codeAny (model P0 w0) A0 (.builtin "max.loop" ⟨[.ref it,.none,.ref box],[]⟩) R0 { t1 with heap:=t1.heap.update box (Obj.mapSeq λ_=>#[v,v]) }) E t) :
  codeAny (model P0 w0) A0 (.builtin "max.loop" ⟨[.ref it,.none,.ref box],[]⟩) R0 t:=by
 refine codeAny_builtin F.entry_max_loop ?_
 rw [bbQ aa6 _]
 show wpAny _ _ (seqItems? (.ref box) >>= λfound=>_) _ _ t
 refine a6w (avs hx rfl (a6w (abC (aPb (h _) (λr t1 z=>?_) λ_ _ e=>e))))
 obtain ⟨v,c1,rfl,kC,oJ⟩:=z
 have name:(toString "max" ++ toString ".loop" : String) = "max.loop" := by decide
 exact a6w (adj (a6w (a6N kC rfl (by rw [name]; exact adj ⟨a7K aa6 _,oJ⟩))))
def Jf (P0:Program) (w0:World) (A0:Around) (Good:Heap->Prop) (At:Nat->Value->Prop) (bt:Nat->Nat->Bool):Prop :=
 ∀ (i j:Nat) (u v:Value) (t:Shared) (Q:Value->Shared->Prop) (E:Value->Shared->Prop),Good t.heap->At i u->At j v->Q (.bool (bt i j)) t->wpAny (model P0 w0) A0.in1 (richCompare .Gt u v) Q E t
section
variable {P0:Program} {w0:World} {A0:Around} {R0:Result->Shared->Prop} {it box:Addr} {jV gk:List Addr} {cnt:Nat} {At:Nat->Value->Prop} {lE:Nat->Heap->Prop} {Good:Heap->Prop} {bt:Nat->Nat->Bool}
theorem TN (wk:Walks P0 w0 A0.in1 it jV gk cnt At lE) (cmp:Jf P0 w0 A0 Good At bt) (off:box∉gk) (gP:box∉jV) (keep:∀ h h':Heap,Good h->(∀ b o,b∉gk->b≠box->h.get? b=some o->h'.get? b=some o)->Good h') (left:Nat) :
  ∀ (i:Nat) (t:Shared) (best:Value) (c:Nat),cnt=i+1+left->lE (i+1) t.heap->Good t.heap->At (argBest bt i) best->t.heap.get? box=some (tV best c) ->
  (∀ v h' tk,At (argBest bt (cnt - 1)) v->(∀ b o,b∉gk->b≠box->t.heap.get? b=some o->h'.get? b=some o)->R0 (.ok (.ret v)) { t with heap:=h',toks:=tk })->codeAny (model P0 w0) A0 (.builtin "max.loop" ⟨[.ref it,.none,.ref box],[]⟩) R0 t:=by
 induction left with
 | zero =>
  intro i t best c hc hs hg hb hx hR
  exact J7 hx λE=>wk.done t _ _ (by rw [hc]; exact hs) λh' tk kp=>⟨⟨c,kp box _ off hx⟩,.inl ⟨rfl,hR best _ tk (by rw [show cnt - 1=i by lia]; exact hb) λb o n1 n2 e=>(a4m _ _ (a38 n2)).trans (kp b o n1 e)⟩⟩
 | succ left ih =>
  intro i t best c hc hs hg hb hx hR
  refine J7 hx λE=>wk.item (i+1) t _ _ (by lia) hs λv h' tk hv hs' kp=>⟨⟨c,kp box _ off hx⟩,.inr ⟨v,rfl,λE'=>?_⟩⟩
  have good:=keep _ h' hg λb o n1 _ e=>kp b o n1 e
  refine cmp (i+1) (argBest bt i) v best _ _ _ good hv hb ⟨_,rfl,rfl,?_⟩
  by_cases oO:bt (i+1) (argBest bt i)=true
  .rw [atn oO]
   refine ih (i+1) _ v _ (by lia) (wk.frame _ _ _ hs' λb rG o e=>(a4m _ _ (λz=>gP (by rw [z]; exact rG))).trans e) (keep _ _ good λb o _ n2 e=>(a4m _ _ (a38 n2)).trans e) (by rw [argBest,atn oO]; exact hv) (arh _ (kp box _ off hx) rfl) λu h'' tk' hu mT=>?_
   exact hR u h'' tk' hu λb o n1 n2 e=>mT b o n1 n2 ((a4m _ _ (a38 n2)).trans (kp b o n1 e))
  .rw [amU oO]
   exact ih (i+1) _ best c (by lia) hs' good (by rw [argBest,amU oO]; exact hb) (kp box _ off hx) λu h'' tk' hu mT=>hR u h'' tk' hu λb o n1 n2 e=>mT b o n1 n2 (kp b o n1 e)
end
theorem VL {P0:Program} {w0:World} {A0:Around} {E0:Value->Shared->Prop} {t:Shared} {x:Value} {Q:Value->Shared->Prop}
  (h:wpAny (model P0 w0) A0.in1 (pyIter x) (λiv t2=>∃ it jV gk cnt At lE bt,∃ Good:Heap->Prop,iv=.ref it/\Walks P0 w0 A0.in1 it jV gk cnt At lE/\lE 0 t2.heap/\(∀ b∈jV,b<t2.heap.objs.size)/\0<cnt/\Good t2.heap /\
   (∀ h h':Heap,Good h->(∀ b o,b∉gk->b≠t2.heap.objs.size->h.get? b=some o->h'.get? b=some o)->Good h')/\Jf P0 w0 A0 Good At bt /\
   ∀ v h' tk,At (argBest bt (cnt - 1)) v->(∀ b o,b∉gk->t2.heap.get? b=some o->h'.get? b=some o)->Q v { t2 with heap:=h',toks:=tk }) E0 t):wpAny (model P0 w0) A0 (call (.builtin "max") [x]) Q E0 t:=by
 have name:(toString "max" ++ toString ".loop" : String) = "max.loop" := by decide
 refine call_function_tree F.kind_max F.plain_max F.entry_max (F.args_max1 _) ?_
 show wpAny _ _ (Builtin.Builtins.bindParams "max" ["key", "default"] 0 ⟨[],[]⟩ >>= λbound=>_) _ _ t
 refine a6w (wpAny_of_eq (show Builtin.Builtins.bindParams "max" ["key", "default"] 0 ⟨[],[]⟩=pure [none,none] from rfl) (a6w (adj (a6w (aPb h (λiv t2 z=>?_) λ_ _ e=>e)))))
 obtain ⟨it,jV,gk,cnt,At,lE,bt,Good,rfl,wk,hs,hf,pos,hg,keep,cmp,hQ⟩:=z
 have gP:t2.heap.objs.size∉jV:=λm=>af9 _ (hf _ m)
 have off:t2.heap.objs.size∉gk:=λm=>gP (wk.sub _ m)
 refine a6w (aa0 ?_)
 rw [name]
 refine adj ⟨a7K aa6 _,Uu (aMS _ rfl) λE=>wk.item 0 _ _ _ pos (wk.frame _ _ _ hs λb _ o e=>atD _ e) λv h' tk hv hs' kp=>⟨v,_,rfl,kp _ _ off (aMS _ rfl),?_⟩⟩
 have k1:∀ b o,b∉gk->t2.heap.get? b=some o->h'.get? b=some o:=λb o n1 e=>kp b o n1 (atD _ e)
 have k2:∀ (f:Obj->Obj) b o,b∉gk->t2.heap.get? b=some o->(h'.update t2.heap.objs.size f).get? b=some o:=λf b o n1 e=>(a4m _ _ (aky (alE e))).trans (k1 b o n1 e)
 refine TN wk cmp off gP keep (cnt - 1) 0 _ v _ (by lia) (wk.frame _ _ _ hs' λb rG o e=>(a4m _ _ (λz=>gP (by rw [z]; exact rG))).trans e) (keep _ _ hg λb o n1 _ e=>k2 _ b o n1 e) hv (arh _ (kp _ _ off (aMS _ rfl)) rfl) λu h'' tk' hu mT=>?_
 exact hQ u h'' tk' hu λb o n1 e=>mT b o n1 (aOw (alE e)) (k2 _ b o n1 e)
theorem J6 {P0:Program} {w0:World} {A0:Around} {R0:Result->Shared->Prop} {it box:Addr} {t:Shared} {old:Value} {c:Nat} (hx:t.heap.get? box=some (tV old c))
  (h:∀ E,wpAny (model P0 w0) A0.in1 (pyNext (.ref it)) (λr t1=>(∃ c1,t1.heap.get? box=some (tV old c1)) /\
   ((r=none/\R0 (.ok (.ret old)) { t1 with heap:=t1.heap.update box (Obj.mapSeq λ_=>#[]) }) \/
    ∃ v,r=some v/\∀ E',wpAny (model P0 w0) A0.in1 (richCompare .Lt v old) (λa t2=>∃ b,a=.bool b/\t2=t1 /\
      codeAny (model P0 w0) A0 (.builtin "min.loop" ⟨[.ref it,.none,.ref box],[]⟩) R0 (if b=true then { t1 with heap:=t1.heap.update box (Obj.mapSeq λ_=>#[v,v]) } else t1)) E' t1)) E t) :
  codeAny (model P0 w0) A0 (.builtin "min.loop" ⟨[.ref it,.none,.ref box],[]⟩) R0 t:=by
 refine codeAny_builtin F.entry_min_loop ?_
 rw [bbQ aj5 _]
 show wpAny _ _ (seqItems? (.ref box) >>= λfound=>_) _ _ t
 refine a6w (avs hx rfl (a6w (abC (aPb (h _) (λr t1 z=>?_) λ_ _ e=>e))))
 obtain ⟨⟨c1,kC⟩,⟨rfl,fin⟩ | ⟨v,rfl,go⟩⟩:=z
 .exact a6w (a6N kC rfl (a6w (a0x (adj fin))))
 .refine a6w (adj (a6w (abC (aBl (a6w (aPb (go _) (λa t2 y=>?_) λ_ _ e=>e))))))
  obtain ⟨b,rfl,rfl,oJ⟩:=y
  refine a6w (aBl (a3o (a6w (a0x (adj ?_)))))
  have name:(toString "min" ++ toString ".loop" : String) = "min.loop" := by decide
  cases b with
  | true=>exact a6w (a6N kC rfl (a6w (a0x (by rw [name]; exact adj ⟨a7K aj5 _,oJ⟩))))
  | false=>exact a6w (a0x (by rw [name]; exact adj ⟨a7K aj5 _,oJ⟩))
theorem Ut {P0:Program} {w0:World} {A0:Around} {R0:Result->Shared->Prop} {it box:Addr} {t:Shared} {c:Nat} (hx:t.heap.get? box=some { cls:=.type "list",dict:=none,data:=.seq #[] c,slots:=#[] })
  (h:∀ E,wpAny (model P0 w0) A0.in1 (pyNext (.ref it)) (λr t1=>∃ v c1,r=some v/\t1.heap.get? box=some { cls:=.type "list",dict:=none,data:=.seq #[] c1,slots:=#[] } /\
   codeAny (model P0 w0) A0 (.builtin "min.loop" ⟨[.ref it,.none,.ref box],[]⟩) R0 { t1 with heap:=t1.heap.update box (Obj.mapSeq λ_=>#[v,v]) }) E t) :
  codeAny (model P0 w0) A0 (.builtin "min.loop" ⟨[.ref it,.none,.ref box],[]⟩) R0 t:=by
 refine codeAny_builtin F.entry_min_loop ?_
 rw [bbQ aj5 _]
 show wpAny _ _ (seqItems? (.ref box) >>= λfound=>_) _ _ t
 refine a6w (avs hx rfl (a6w (abC (aPb (h _) (λr t1 z=>?_) λ_ _ e=>e))))
 obtain ⟨v,c1,rfl,kC,oJ⟩:=z
 have name:(toString "min" ++ toString ".loop" : String) = "min.loop" := by decide
 exact a6w (adj (a6w (a6N kC rfl (by rw [name]; exact adj ⟨a7K aj5 _,oJ⟩))))
def Je (P0:Program) (w0:World) (A0:Around) (Good:Heap->Prop) (At:Nat->Value->Prop) (bt:Nat->Nat->Bool):Prop :=
 ∀ (i j:Nat) (u v:Value) (t:Shared) (Q:Value->Shared->Prop) (E:Value->Shared->Prop),Good t.heap->At i u->At j v->Q (.bool (bt i j)) t->wpAny (model P0 w0) A0.in1 (richCompare .Lt u v) Q E t
section
variable {P0:Program} {w0:World} {A0:Around} {R0:Result->Shared->Prop} {it box:Addr} {jV gk:List Addr} {cnt:Nat} {At:Nat->Value->Prop} {lE:Nat->Heap->Prop} {Good:Heap->Prop} {bt:Nat->Nat->Bool}
theorem TM (wk:Walks P0 w0 A0.in1 it jV gk cnt At lE) (cmp:Je P0 w0 A0 Good At bt) (off:box∉gk) (gP:box∉jV) (keep:∀ h h':Heap,Good h->(∀ b o,b∉gk->b≠box->h.get? b=some o->h'.get? b=some o)->Good h') (left:Nat) :
  ∀ (i:Nat) (t:Shared) (best:Value) (c:Nat),cnt=i+1+left->lE (i+1) t.heap->Good t.heap->At (argBest bt i) best->t.heap.get? box=some (tV best c) ->
  (∀ v h' tk,At (argBest bt (cnt - 1)) v->(∀ b o,b∉gk->b≠box->t.heap.get? b=some o->h'.get? b=some o)->R0 (.ok (.ret v)) { t with heap:=h',toks:=tk })->codeAny (model P0 w0) A0 (.builtin "min.loop" ⟨[.ref it,.none,.ref box],[]⟩) R0 t:=by
 induction left with
 | zero =>
  intro i t best c hc hs hg hb hx hR
  exact J6 hx λE=>wk.done t _ _ (by rw [hc]; exact hs) λh' tk kp=>⟨⟨c,kp box _ off hx⟩,.inl ⟨rfl,hR best _ tk (by rw [show cnt - 1=i by lia]; exact hb) λb o n1 n2 e=>(a4m _ _ (a38 n2)).trans (kp b o n1 e)⟩⟩
 | succ left ih =>
  intro i t best c hc hs hg hb hx hR
  refine J6 hx λE=>wk.item (i+1) t _ _ (by lia) hs λv h' tk hv hs' kp=>⟨⟨c,kp box _ off hx⟩,.inr ⟨v,rfl,λE'=>?_⟩⟩
  have good:=keep _ h' hg λb o n1 _ e=>kp b o n1 e
  refine cmp (i+1) (argBest bt i) v best _ _ _ good hv hb ⟨_,rfl,rfl,?_⟩
  by_cases oO:bt (i+1) (argBest bt i)=true
  .rw [atn oO]
   refine ih (i+1) _ v _ (by lia) (wk.frame _ _ _ hs' λb rG o e=>(a4m _ _ (λz=>gP (by rw [z]; exact rG))).trans e) (keep _ _ good λb o _ n2 e=>(a4m _ _ (a38 n2)).trans e) (by rw [argBest,atn oO]; exact hv) (arh _ (kp box _ off hx) rfl) λu h'' tk' hu mT=>?_
   exact hR u h'' tk' hu λb o n1 n2 e=>mT b o n1 n2 ((a4m _ _ (a38 n2)).trans (kp b o n1 e))
  .rw [amU oO]
   exact ih (i+1) _ best c (by lia) hs' good (by rw [argBest,amU oO]; exact hb) (kp box _ off hx) λu h'' tk' hu mT=>hR u h'' tk' hu λb o n1 n2 e=>mT b o n1 n2 (kp b o n1 e)
end
theorem VJ {P0:Program} {w0:World} {A0:Around} {E0:Value->Shared->Prop} {t:Shared} {x:Value} {Q:Value->Shared->Prop}
  (h:wpAny (model P0 w0) A0.in1 (pyIter x) (λiv t2=>∃ it jV gk cnt At lE bt,∃ Good:Heap->Prop,iv=.ref it/\Walks P0 w0 A0.in1 it jV gk cnt At lE/\lE 0 t2.heap/\(∀ b∈jV,b<t2.heap.objs.size)/\0<cnt/\Good t2.heap /\
   (∀ h h':Heap,Good h->(∀ b o,b∉gk->b≠t2.heap.objs.size->h.get? b=some o->h'.get? b=some o)->Good h')/\Je P0 w0 A0 Good At bt /\
   ∀ v h' tk,At (argBest bt (cnt - 1)) v->(∀ b o,b∉gk->t2.heap.get? b=some o->h'.get? b=some o)->Q v { t2 with heap:=h',toks:=tk }) E0 t):wpAny (model P0 w0) A0 (call (.builtin "min") [x]) Q E0 t:=by
 have name:(toString "min" ++ toString ".loop" : String) = "min.loop" := by decide
 refine call_function_tree F.kind_min F.plain_min F.entry_min (F.args_min1 _) ?_
 show wpAny _ _ (Builtin.Builtins.bindParams "min" ["key", "default"] 0 ⟨[],[]⟩ >>= λbound=>_) _ _ t
 refine a6w (wpAny_of_eq (show Builtin.Builtins.bindParams "min" ["key", "default"] 0 ⟨[],[]⟩=pure [none,none] from rfl) (a6w (adj (a6w (aPb h (λiv t2 z=>?_) λ_ _ e=>e)))))
 obtain ⟨it,jV,gk,cnt,At,lE,bt,Good,rfl,wk,hs,hf,pos,hg,keep,cmp,hQ⟩:=z
 have gP:t2.heap.objs.size∉jV:=λm=>af9 _ (hf _ m)
 have off:t2.heap.objs.size∉gk:=λm=>gP (wk.sub _ m)
 refine a6w (aa0 ?_)
 rw [name]
 refine adj ⟨a7K aj5 _,Ut (aMS _ rfl) λE=>wk.item 0 _ _ _ pos (wk.frame _ _ _ hs λb _ o e=>atD _ e) λv h' tk hv hs' kp=>⟨v,_,rfl,kp _ _ off (aMS _ rfl),?_⟩⟩
 have k1:∀ b o,b∉gk->t2.heap.get? b=some o->h'.get? b=some o:=λb o n1 e=>kp b o n1 (atD _ e)
 have k2:∀ (f:Obj->Obj) b o,b∉gk->t2.heap.get? b=some o->(h'.update t2.heap.objs.size f).get? b=some o:=λf b o n1 e=>(a4m _ _ (aky (alE e))).trans (k1 b o n1 e)
 refine TM wk cmp off gP keep (cnt - 1) 0 _ v _ (by lia) (wk.frame _ _ _ hs' λb rG o e=>(a4m _ _ (λz=>gP (by rw [z]; exact rG))).trans e) (keep _ _ hg λb o n1 _ e=>k2 _ b o n1 e) hv (arh _ (kp _ _ off (aMS _ rfl)) rfl) λu h'' tk' hu mT=>?_
 exact hQ u h'' tk' hu λb o n1 e=>mT b o n1 (aOw (alE e)) (k2 _ b o n1 e)
end L2
namespace HT
open PySem PyProof.Rows
theorem TL (A:Around) (s:Shared) (a:Int) (t:Tok) (c:Int) (u:Tok) (prog:Program) (w:World) (E:Value->Shared->Prop) (Q:Value->Shared->Prop) (h:Q (.bool (decide (c<a))) s) :
  wpAny (model prog w) A (richCompare .Gt (.int a t) (.int c u)) Q E s :=
 (PyProof.Rows.gt_int h:wpAny (model prog w) A (compareOp .Gt (.int a t) (.int c u)) Q E s)
section
open PySem.SeqAt
open PySem.AutoSeq1 (wpAny_loadPart')
open PySem.MeetsSeq PySem.MeetsSeq2 PySem.MeetsSeq3
theorem We (l b:Addr) (items items2:Array Value) (n n2:Nat) (dd dd2:Option Addr) (sl sl2:Array (Option Value)) (ns ms:List Int) (hi:IntsAre items.toList ns) (hj:IntsAre items2.toList ms) :
  Meets (Builtin.«tuple.__gt__» ⟨[.ref l,.ref b],[]⟩)
   (λ_ R s=>s.heap.get? l=some { cls:=.type "tuple",dict:=dd,data:=.seq items n,slots:=sl }/\s.heap.get? b=some { cls:=.type "tuple",dict:=dd2,data:=.seq items2 n2,slots:=sl2 } /\
    R (.ok (.ret (.bool (lexLt ms ns)))) s) :=
 .of_wp λprog w A R s h=>by
  obtain ⟨hp,g,d,tk,os⟩:=s; obtain ⟨hl,hb,h⟩:=h
  have f2:=AutoSeq1.sub_tuple_tuple
  have z1:items.size=ns.length:=by rw [← hi.length]; simp
  have z2:items2.size=ms.length:=by rw [← hj.length]; simp
  wp_walk using wpAny_loadPart' hl,wpAny_loadPart' hb,wpAny_forIn_list _ (λrest b s'=>b.1=none/\s'=⟨hp,g,d,tk,os⟩/\∃ (vs ws:List Value) (ns' ms':List Int),rest=vs.zip ws /\
   IntsAre vs ns'/\IntsAre ws ms'/\ns'.length+items2.size=ms'.length+items.size/\R (.ok (.ret (.bool (lexLt ms' ns')))) ⟨hp,g,d,tk,os⟩) _
  case turn =>
   rintro ⟨y,x⟩ rest b s' ⟨hb',rfl,vs,ws,ns',ms',hz,rC,hwi,hlen,hR⟩
   cases rC with
   | nil=>rw [List.zip_nil_left] at hz; cases hz
   | cons a t rB =>
    cases hwi with
    | nil=>rw [List.zip_nil_right] at hz; cases hz
    | cons c u rA =>
     rw [acn] at hz
     injection hz with hyx hrest
     injection hyx with hy hx
     subst hy hx
     rw [aI] at hR
     simp only [bc9] at hlen
     obtain ⟨e,he,hiff⟩:=Le A.in1 ⟨hp,g,d,tk,os⟩ a t c u
     refine a6w (he prog w _ _ ?_)
     cases e with
     | true =>
      rw [atn (hiff.mp rfl).symm] at hR
      wp_walk
      exact ⟨rfl,rfl,_,_,_,_,hrest,rB,rA,by lia,hR⟩
     | false =>
      rw [amU (λq=>absurd (hiff.mpr q.symm) aPi)] at hR
      have C3:=TL A.in1 ⟨hp,g,d,tk,os⟩ a t c u prog w
      wp_walk using C3
      exact ⟨_,rfl,by simpa using hR⟩
  case fin =>
   rintro ⟨b1,b2⟩ s' ⟨hb',rfl,vs,ws,ns',ms',hz,rC,hwi,hlen,hR⟩
   simp only at hb'
   subst hb'
   have hv:lexLt ms' ns'=decide (items2.size<items.size):=by
    cases rC with
    | nil =>
     cases hwi with
     | nil =>
      simp only [aIZ] at hlen
      rw [cD]
      exact (aWh (by lia)).symm
     | cons c u hw =>
      simp only [aIZ,bc9] at hlen
      rw [aW]
      exact (aWh (by lia)).symm
    | cons a t hv =>
     cases hwi with
     | nil =>
      simp only [aIZ,bc9] at hlen
      rw [Mc]
      exact (aGg (by lia)).symm
     | cons c u hw =>
      rw [acn] at hz
      cases hz
   rw [hv] at hR
   wp_walk
   exact ⟨_,rfl,by simpa [Builtin.Tuple.tupleCompareSizes] using hR⟩
  case h =>
   exact ⟨rfl,rfl,items.toList,items2.toList,ns,ms,rfl,hi,hj,by lia,h⟩
end
section
variable {prog:Program} {w:World} {A:Around} {E:Value->Shared->Prop} {s:Shared}
theorem jS {l b:Addr} {items items2:Array Value} {ns ms:List Int} {Q:Value->Shared->Prop} (hl:IsTup s.heap l items) (hb:IsTup s.heap b items2) (hi:IntsAre items.toList ns) (hj:IntsAre items2.toList ms)
  (hu:A.units<cLine) (h:Q (.bool (lexLt ms ns)) s):wpAny (model prog w) A (compareOp .Gt (.ref l) (.ref b)) Q E s:=by
 obtain ⟨⟨cls,dd,data,sl⟩,ho,hc,n,hd⟩:=id hl
 obtain ⟨⟨DH,dd2,data2,sl2⟩,ho2,hc2,n2,hd2⟩:=id hb
 simp only at hc hd hc2 hd2
 subst hc hd hc2 hd2
 exact richCompare_meets_room (op:=.Gt) ⟨_,ho,rfl⟩ ⟨_,ho2,rfl⟩ PySem.F.slot_tuple_gt PySem.F.entry_tuple_gt (PySem.F.args_tuple_gt_2 _ _) (We l b items items2 n n2 dd dd2 sl sl2 ns ms hi hj)
  ⟨ho,ho2,show Value.bool (lexLt ms ns)≠Value.notImplemented/\Q (.bool (lexLt ms ns)) s from ⟨(λx=>nomatch x),h⟩⟩ hu
end
end HT
namespace L2
open PySem PySem.Spec PyProof.Rows
def p5 (K:W.Frag) (bt:List Int->List Int->Bool):List V->Hp->VK->Prop:=λxs H Q=>∃ (p:Addr) (as:List Addr) (vs:List (List Int)),xs=[.ref p]/\ak K H p (as.map V.ref)/\as≠[]/\as.length=vs.length /\
 (∀ (i:Nat) (a:Addr) (ns:List Int),as[i]?=some a->vs[i]?=some ns->bG K H a (ns.map V.int)) /\
 ∀ (m:Nat) (a:Addr),m=argBest (λi j=>bt (vs.getD i []) (vs.getD j [])) (as.length - 1)->as[m]?=some a->Q (.ref a) H
theorem zS {h h':Heap} {a:Addr} {us:Array Value} (x:IsTup h a us) (k:∀ o,h.get? a=some o->h'.get? a=some o):IsTup h' a us:=by
 obtain ⟨o,ho,r⟩:=x
 exact ⟨o,k o ho,r⟩
theorem zR {h:Heap} {a:Addr} {us:Array Value} (x:IsTup h a us):a<h.objs.size:=by
 obtain ⟨o,ho,_⟩:=x
 exact alE ho
def kO (as:List Addr) (vs:List (List Int)) (h:Heap):Prop:=∀ (i:Nat) (a:Addr) (ns:List Int),as[i]?=some a->vs[i]?=some ns->∃ us:List Value,IsTup h a us.toArray/\IntsAre us.toArray.toList ns
theorem tU {as:List Addr} {us:List Value} (r:Vals (as.map V.ref) us) {i:Nat} {v:Value} (h:us.toArray[i]?=some v):∃ a,as[i]?=some a/\v=.ref a:=by
 have h':us[i]?=some v:=by simpa using h
 have hi:i<as.length:=by
  have:=r.length
  rw [aAt] at this
  rw [this]; exact (aw7.mp h').1
 obtain ⟨u,hu,ru⟩:=r.get (i:=i) (x:=.ref as[i]) (by rw [aYu,aDi hi]; rfl)
 rw [h'] at hu; cases hu
 cases ru
 exact ⟨as[i],aDi hi,rfl⟩
theorem Af {vs:List (List Int)} {i:Nat} {ns:List Int} (h:vs[i]?=some ns):vs.getD i []=ns:=by rw [aPI,h]; rfl
section
variable {X:Cx} {K:W.Frag}
theorem Us (hc:X.calm=true) (hu:X.A.units+1<cLine) (hK:X.K=K):aU X (.builtin "max") (p5 K λa b=>HT.lexLt b a):=by
 subst hK
 intro pins s σ H xs us Q I r h
 obtain ⟨p,as,vs,rfl,hq,hne,hlen,ht,q⟩:=h
 obtain ⟨u,rfl,rx⟩:=vals1 r
 cases rx
 obtain ⟨its,rv,pl,hz⟩:=I.list hq
 have hl:as.length=its.length:=by have:=rv.length; rwa [aAt] at this
 have hu1:X.A.in1.units<cLine:=hu
 have good0:kO as vs s.heap:=λi a ns h1 h2=>by
  obtain ⟨us,r1,p1,_⟩:=I.tuple (ht i a ns h1 h2)
  exact ⟨us,p1,yj r1⟩
 have small:∀ (i:Nat) (a:Addr) (ns:List Int),as[i]?=some a->vs[i]?=some ns->a<s.heap.objs.size:=λi a ns h1 h2=>by
  obtain ⟨us,p1,_⟩:=good0 i a ns h1 h2
  exact zR p1
 have pos:0<its.length:=by rw [← hl]; exact baX.mpr hne
 refine VL (abu pl.isList ?_)
 refine ⟨s.heap.objs.size,_,[s.heap.objs.size],_,_,_,λi j=>HT.lexLt (vs.getD j []) (vs.getD i []),kO as vs,rfl,Walks.list (A:=X.A.in1) (show X.A.in1.handled=none from I.ok.hd hc) s.heap.objs.size p ?_ its.toArray,⟨⟨_,aMS _ rfl,rfl,rfl⟩,pl.isList.at λo e=>atD _ e⟩,?_,by simpa using pos,?_,?_,?_,?_⟩
 .obtain ⟨o,e,_⟩:=pl.isList; exact aOw (alE e)
 .intro b hb'
  have lt:p<s.heap.objs.size:=by obtain ⟨o,e,_⟩:=pl.isList; exact alE e
  show b<(s.heap.push _).objs.size
  rw [aep]
  simp only [asf,a6P,azq] at hb'
  rcases hb' with rfl | rfl
  .exact aDX _
  .exact ae2 lt
 .intro i a ns h1 h2
  obtain ⟨us,p1,i1⟩:=good0 i a ns h1 h2
  exact ⟨us,zS p1 λo e=>atD _ e,i1⟩
 .intro h h' g kp i a ns h1 h2
  obtain ⟨us,p1,i1⟩:=g i a ns h1 h2
  have lt:=small i a ns h1 h2
  refine ⟨us,zS p1 λo e=>kp a o (by simpa using aOw lt) (λz=>?_) e,i1⟩
  have z':a=s.heap.objs.size+1:=by rw [z]; exact aep ..
  rw [z'] at lt
  exact absurd lt (Nat.not_lt.mpr (aO8 _))
 .intro i j u v t Q' E' g ai aj q'
  obtain ⟨a,ha,rfl⟩:=tU rv ai
  obtain ⟨b,hb,rfl⟩:=tU rv aj
  have vi:i<vs.length:=by rw [← hlen]; exact (aw7.mp ha).1
  have vj:j<vs.length:=by rw [← hlen]; exact (aw7.mp hb).1
  obtain ⟨us,p1,i1⟩:=g i a _ ha (aDi vi)
  obtain ⟨ws,p2,i2⟩:=g j b _ hb (aDi vj)
  refine (HT.jS p1 p2 i1 i2 hu1 ?_:wpAny (model X.prog X.w) X.A.in1 (compareOp .Gt (.ref a) (.ref b)) Q' E' t)
  have q2:=q'
  dsimp only at q2
  rw [Af (aDi vi),Af (aDi vj)] at q2
  exact q2
 .intro v h' tk hv hk
  obtain ⟨a,ha,rfl⟩:=tU rv hv
  exact ⟨.ref a,H,I.kept (t':=tk) (λb o e=>hk b o (by simpa using aOw (alE e)) (atD _ e)),rfl,q _ a (by rw [a5A,← hl]) ha⟩
theorem Ur (hc:X.calm=true) (hu:X.A.units+1<cLine) (hK:X.K=K):aU X (.builtin "min") (p5 K HT.lexLt):=by
 subst hK
 intro pins s σ H xs us Q I r h
 obtain ⟨p,as,vs,rfl,hq,hne,hlen,ht,q⟩:=h
 obtain ⟨u,rfl,rx⟩:=vals1 r
 cases rx
 obtain ⟨its,rv,pl,hz⟩:=I.list hq
 have hl:as.length=its.length:=by have:=rv.length; rwa [aAt] at this
 have hu1:X.A.in1.units<cLine:=hu
 have good0:kO as vs s.heap:=λi a ns h1 h2=>by
  obtain ⟨us,r1,p1,_⟩:=I.tuple (ht i a ns h1 h2)
  exact ⟨us,p1,yj r1⟩
 have small:∀ (i:Nat) (a:Addr) (ns:List Int),as[i]?=some a->vs[i]?=some ns->a<s.heap.objs.size:=λi a ns h1 h2=>by
  obtain ⟨us,p1,_⟩:=good0 i a ns h1 h2
  exact zR p1
 have pos:0<its.length:=by rw [← hl]; exact baX.mpr hne
 refine VJ (abu pl.isList ?_)
 refine ⟨s.heap.objs.size,_,[s.heap.objs.size],_,_,_,λi j=>HT.lexLt (vs.getD i []) (vs.getD j []),kO as vs,rfl,Walks.list (A:=X.A.in1) (show X.A.in1.handled=none from I.ok.hd hc) s.heap.objs.size p ?_ its.toArray,⟨⟨_,aMS _ rfl,rfl,rfl⟩,pl.isList.at λo e=>atD _ e⟩,?_,by simpa using pos,?_,?_,?_,?_⟩
 .obtain ⟨o,e,_⟩:=pl.isList; exact aOw (alE e)
 .intro b hb'
  have lt:p<s.heap.objs.size:=by obtain ⟨o,e,_⟩:=pl.isList; exact alE e
  show b<(s.heap.push _).objs.size
  rw [aep]
  simp only [asf,a6P,azq] at hb'
  rcases hb' with rfl | rfl
  .exact aDX _
  .exact ae2 lt
 .intro i a ns h1 h2
  obtain ⟨us,p1,i1⟩:=good0 i a ns h1 h2
  exact ⟨us,zS p1 λo e=>atD _ e,i1⟩
 .intro h h' g kp i a ns h1 h2
  obtain ⟨us,p1,i1⟩:=g i a ns h1 h2
  have lt:=small i a ns h1 h2
  refine ⟨us,zS p1 λo e=>kp a o (by simpa using aOw lt) (λz=>?_) e,i1⟩
  have z':a=s.heap.objs.size+1:=by rw [z]; exact aep ..
  rw [z'] at lt
  exact absurd lt (Nat.not_lt.mpr (aO8 _))
 .intro i j u v t Q' E' g ai aj q'
  obtain ⟨a,ha,rfl⟩:=tU rv ai
  obtain ⟨b,hb,rfl⟩:=tU rv aj
  have vi:i<vs.length:=by rw [← hlen]; exact (aw7.mp ha).1
  have vj:j<vs.length:=by rw [← hlen]; exact (aw7.mp hb).1
  obtain ⟨us,p1,i1⟩:=g i a _ ha (aDi vi)
  obtain ⟨ws,p2,i2⟩:=g j b _ hb (aDi vj)
  refine (HT.jN p1 p2 i1 i2 hu1 ?_:wpAny (model X.prog X.w) X.A.in1 (compareOp .Lt (.ref a) (.ref b)) Q' E' t)
  have q2:=q'
  dsimp only at q2
  rw [Af (aDi vi),Af (aDi vj)] at q2
  exact q2
 .intro v h' tk hv hk
  obtain ⟨a,ha,rfl⟩:=tU rv hv
  exact ⟨.ref a,H,I.kept (t':=tk) (λb o e=>hk b o (by simpa using aOw (alE e)) (atD _ e)),rfl,q _ a (by rw [a5A,← hl]) ha⟩
end
section
variable {X:Cx}
def RY:V->List V->Hp->VK->Prop:=λx vs H Q=>∃ (l:Addr) (ns:List Int) (k:Int),x=.ref l/\vs=[.int k]/\H l=some (.lst (ns.map V.int))/\k∈ns/\Q .aV (upd H l (.lst ((ns.erase k).map V.int)))
theorem KA (k:Int):∀ (ns:List Int),k∈ns->∃ j,ns[j]?=some k/\(∀ m z,m<j->ns[m]?=some z->z≠k)/\ns.erase k=ns.eraseIdx j
 | [],h=>nomatch h
 | x :: ns,h=>by
  by_cases hx:x=k
  .subst hx
   exact ⟨0,rfl,λm z hm=>absurd hm (Nat.not_lt_zero _),by rw [List.erase_cons_head,List.eraseIdx_cons_zero]⟩
  .have hm:k∈ns:=by
    rcases ac0.mp h with e | e
    .exact absurd e.symm hx
    .exact e
   obtain ⟨j,h1,h2,h3⟩:=KA k ns hm
   refine ⟨j+1,by simpa using h1,λm z hm hz=>?_,?_⟩
   .cases m with
    | zero =>
     have e:x=z:=by simpa using hz
     rw [← e]; exact hx
    | succ m=>exact h2 m z (by lia) (by simpa using hz)
   .rw [List.erase_cons_tail (by simpa using hx),h3,anr]
theorem U6 {xs:List V} {us:List Value}:∀ (j:Nat),Vals xs us->Vals (xs.eraseIdx j) (us.eraseIdx j):=by
 intro j r
 induction r generalizing j with
 | nil=>exact .nil
 | cons h t ih =>
  cases j with
  | zero=>exact t
  | succ j=>exact .cons h (ih j)
theorem Fl:A1 X "list.remove" RY:=by
 intro pins s σ H x vs v us Q I rx rv h
 obtain ⟨l,ns,k,rfl,rfl,hH,hk,q⟩:=h
 cases rx
 obtain ⟨u,rfl,ru⟩:=rv.one
 obtain ⟨tk,rfl⟩:=ru
 obtain ⟨z,its,n,r,hl,e⟩:=I.iP hH
 rw [aAt] at hl z
 obtain ⟨j,h1,h2,h3⟩:=KA k ns hk
 have get:∀ (m:Nat) (hm:m<its.toArray.size),∃ (i:Int) (t:Tok),ns[m]?=some i/\its.toArray[m]=.int i t:=λm hm=>by
  have hm':m<ns.length:=by rw [hl]; simpa using hm
  obtain ⟨w,hw,rw'⟩:=r.get (i:=m) (x:=.int ns[m]) (by rw [aYu,aDi hm']; rfl)
  obtain ⟨t,rfl⟩:=rw'
  refine ⟨ns[m],t,aDi hm',?_⟩
  have:its[m]?=some its[m]:=aDi (by simpa using hm)
  rw [hw] at this
  simpa using (ado this).symm
 have hj:j<its.toArray.size:=by
  have:=(aw7.mp h1).1
  rw [hl] at this; simpa using this
 refine call_meets F.slot_list_remove ⟨_,e,rfl⟩ F.entry_list_remove (F.args_list_remove_2 _ _) (MeetsSeq.list_remove l its.toArray n (.int k tk) (λy=>match y with | .int i _=>i == k | _=>false) (λy hy=>?_) j hj ?_ (λm hm wM=>?_) (by rw [a5A,← hl]; exact z)) ⟨e,?_⟩
 .obtain ⟨m,hm,rfl⟩:=Array.getElem_of_mem hy
  obtain ⟨i,t,_,e2⟩:=get m hm
  rw [e2]
  exact MeetsSeq.EqGives.int i k t tk
 .obtain ⟨i,t,e1,e2⟩:=get j hj
  rw [h1] at e1; cases e1
  rw [e2]
  simp
 .obtain ⟨i,t,e1,e2⟩:=get m hm
  rw [e2]
  simpa using h2 m i wM e1
 .refine ⟨.aV,_,I.jO (its':=its.eraseIdx j) (ys:=(ns.erase k).map V.int) hH e ?_ ?_ ?_,rfl,q⟩
  .rw [List.eraseIdxIfInBounds_toArray]
  .rw [h3]
   have em:∀ (xs:List Int) (i:Nat),(xs.eraseIdx i).map V.int=(xs.map V.int).eraseIdx i:=λxs=>by
    induction xs with
    | nil=>intro i; rfl
    | cons y xs ih=>intro i; cases i with
     | zero=>rfl
     | succ i=>rw [anr,aWO,aWO,anr,ih]
   rw [em]
   exact U6 j r
  .rw [aAt]
   exact ay9 aSb z
end
section
variable {κ:Type} [DecidableEq κ]
def aR (kvs:List (κ×V)) (k:κ):Option V:=(kvs.find? λkv=>decide (kv.1=k)).map (·.2)
def putK (kvs:List (κ×V)) (k:κ) (v:V):List (κ×V) :=
 if (kvs.any λkv=>decide (kv.1=k))=true then kvs.map (λkv=>if kv.1=k then (kv.1,v) else kv) else kvs++[(k,v)]
def cz (kvs:List (κ×V)) (k:κ):List (κ×V):=kvs.filter λkv=>decide (kv.1≠k)
theorem ZM {p:κ×V} {r:List (κ×V)} {k:κ} (e:p.1=k):aR (p :: r) k=some p.2:=by simp [aR,find?_cons,e]
theorem ZK {p:κ×V} {r:List (κ×V)} {k:κ} (e:¬ p.1=k):aR (p :: r) k=aR r k:=by simp [aR,find?_cons,e]
theorem xW (k:κ):∀ kvs:List (κ×V),(kvs.any λkv=>decide (kv.1=k))=(aR kvs k).isSome
 | []=>rfl
 | p :: r=>by
  rw [any_cons]
  by_cases e:p.1=k
  .simp only [ZM e,aGg e,Bool.true_or,Option.isSome_some]
  .rw [ZK e,aWh e,Bool.false_or]; exact xW k r
theorem Kz (k j:κ) (y:V):∀ kvs:List (κ×V),aR (kvs.map λkv=>if kv.1=k then (kv.1,y) else kv) j=(aR kvs j).map λx=>if j=k then y else x
 | []=>rfl
 | p :: r=>by
  have ih:=Kz k j y r
  rw [aWO]
  by_cases h:p.1=k
  .rw [atn h]
   by_cases e:p.1=j
   .rw [ZM (p:=(p.1,y)) e,ZM e,aJJ,atn (e.symm.trans h)]
   .rw [ZK (p:=(p.1,y)) e,ZK e,ih]
  .rw [amU h]
   by_cases e:p.1=j
   .rw [ZM (p:=p) e,ZM e,aJJ,amU (λz=>h (e.trans z))]
   .rw [ZK (p:=p) e,ZK e,ih]
theorem Ln (k j:κ) (y:V):∀ kvs:List (κ×V),aR kvs k=none->aR (kvs++[(k,y)]) j=if j=k then some y else aR kvs j
 | [],_=>by
  by_cases e:k=j
  .rw [atn e.symm]; exact ZM (p:=(k,y)) e
  .rw [amU (λz=>e z.symm)]; exact ZK (p:=(k,y)) e
 | p :: r,hn=>by
  rw [amV]
  have hk:¬ p.1=k:=λz=>by rw [ZM z] at hn; cases hn
  rw [ZK hk] at hn
  have ih:=Ln k j y r hn
  by_cases e:p.1=j
  .rw [ZM e,ZM e,amU (λz=>hk (e.trans z))]
  .rw [ZK e,ZK e,ih]
theorem AJ (kvs:List (κ×V)) (k j:κ) (y:V):aR (putK kvs k y) j=if j=k then some y else aR kvs j:=by
 unfold putK
 by_cases a:(kvs.any λkv=>decide (kv.1=k))=true
 .rw [atn a,Kz]
  rw [xW] at a
  by_cases e:j=k
  .obtain ⟨x,hx⟩:=Option.isSome_iff_exists.mp a
   rw [atn e,e,hx,aJJ,atn rfl]
  .rw [amU e]
   cases aR kvs j with
   | none=>rfl
   | some x=>rw [aJJ,amU e]
 .rw [amU a]
  refine Ln k j y kvs ?_
  rw [xW] at a
  cases q:aR kvs k with
  | none=>rfl
  | some x=>rw [q] at a; exact (a rfl).elim
theorem ZW (kvs:List (κ×V)) (k:κ) (v:V):(putK kvs k v).length<=kvs.length+1:=by
 unfold putK
 split
 .rw [aAt]; lia
 .rw [aUV,bc9,aIZ]; lia
theorem TJ {kvs:List (κ×V)} {k:κ} (v:V) (h:aR kvs k=none):putK kvs k v=kvs++[(k,v)]:=by
 unfold putK
 rw [xW,h]
 exact amU (by decide)
theorem cL.dR {o:Option V} {u:Option Value} (r:cL o u):o.isSome=u.isSome:=by
 cases o with
 | none=>cases u with
  | none=>rfl
  | some _=>exact (show False from r).elim
 | some _=>cases u with
  | none=>exact (show False from r).elim
  | some _=>rfl
theorem cL.getD {o:Option V} {u:Option Value} {d:V} {d':Value} (r:cL o u) (rd:RelV d d'):RelV (o.getD d) (u.getD d'):=by
 cases o with
 | none=>cases u with
  | none=>exact rd
  | some _=>exact (show False from r).elim
 | some _=>cases u with
  | none=>exact (show False from r).elim
  | some _=>exact r
theorem KV.val {kvs:List (κ×V)} {vs:List (κ×Value)} (r:KV kvs vs) (k:κ):cL (aR kvs k) (valueAt vs k):=by
 unfold KV at r
 induction r with
 | nil=>exact True.intro
 | @cons p q ps qs h t ih =>
  obtain ⟨h1,h2⟩:=h
  by_cases e:p.1=k
  .have e':q.1=k:=h1.symm.trans e
   have b:valueAt (q :: qs) k=some q.2:=by simp [valueAt,find?_cons,e']
   rw [ZM e,b]; exact h2
  .have e':¬ q.1=k:=λz=>e (h1.trans z)
   have b:valueAt (q :: qs) k=valueAt qs k:=by simp [valueAt,find?_cons,e']
   rw [ZK e,b]; exact ih
theorem KV.any {kvs:List (κ×V)} {vs:List (κ×Value)} (r:KV kvs vs) (k:κ):(kvs.any λkv=>decide (kv.1=k))=vs.any λkv=>decide (kv.1=k):=by
 unfold KV at r
 induction r with
 | nil=>rfl
 | cons h t ih=>rw [any_cons,any_cons,ih,h.1]
theorem KV.repl {kvs:List (κ×V)} {vs:List (κ×Value)} (r:KV kvs vs) (k:κ) {y:V} {u:Value} (ry:RelV y u) :
  KV (kvs.map λkv=>if kv.1=k then (kv.1,y) else kv) (vs.map λkv=>if kv.1=k then (kv.1,u) else kv):=by
 unfold KV at r ⊢
 induction r with
 | nil=>exact .nil
 | @cons p q ps qs h t ih =>
  rw [aWO,aWO]
  refine .cons ?_ ih
  obtain ⟨h1,h2⟩:=h
  by_cases e:p.1=k
  .rw [atn e,atn (h1.symm.trans e)]; exact ⟨h1,ry⟩
  .rw [amU e,amU (λz=>e (h1.trans z))]; exact ⟨h1,h2⟩
theorem KV.put {kvs:List (κ×V)} {vs:List (κ×Value)} (r:KV kvs vs) (k:κ) {y:V} {u:Value} (ry:RelV y u):KV (putK kvs k y) (stored vs k u):=by
 unfold putK stored
 rw [r.any k]
 by_cases e:(vs.any λkv=>decide (kv.1=k))=true
 .rw [atn e,atn e]; exact r.repl k ry
 .rw [amU e,amU e]; exact Paired.snoc r ⟨rfl,ry⟩
theorem KV.drop {kvs:List (κ×V)} {vs:List (κ×Value)} (r:KV kvs vs) (k:κ):KV (cz kvs k) (without vs k):=by
 unfold KV at r ⊢
 unfold cz without
 induction r with
 | nil=>exact .nil
 | @cons p q ps qs h t ih =>
  obtain ⟨h1,h2⟩:=h
  rw [aTO,aTO]
  by_cases e:p.1=k
  .have a:¬ decide (p.1≠k)=true:=by simp [e]
   have b:¬ decide (q.1≠k)=true:=by simp [h1.symm.trans e]
   rw [amU a,amU b]; exact ih
  .have e':¬ q.1=k:=λz=>e (h1.trans z)
   have a:decide (p.1≠k)=true:=by simp [e]
   have b:decide (q.1≠k)=true:=by simp [e']
   rw [atn a,atn b]; exact .cons ⟨h1,h2⟩ ih
theorem KV.length {kvs:List (κ×V)} {vs:List (κ×Value)} (r:KV kvs vs):kvs.length=vs.length:=Paired.length r
theorem TH (kvs:List (κ×V)) (k:κ):(cz kvs k).length<=kvs.length:=aKi _ _
end
theorem gS {P:Program} {w:World} {k:Key} {u:Value} (r:RelV (kV k) u):(ZF P w).is k u=true:=by
 cases k with
 | inl i=>obtain ⟨t,e⟩:=(show ∃ t,u=Value.int i t from r); subst e; exact V4 P w i t
 | inr x=>obtain ⟨t,e⟩:=(show ∃ t,u=Value.str x t from r); subst e; exact V3 P w x t
theorem Lm {P:Program} {w:World}:∀ {ks:List Key} {us:List Value},Vals (ks.map kV) us->ItemsAre (ZF P w) ks us
 | [],_,r=>by rw [map_nil] at r; cases r; exact .nil
 | k :: ks,_,r=>by
  rw [aWO] at r
  cases r with
  | cons h t=>exact .cons (gS h) (Lm t)
abbrev KT (H:Hp):List (List Key×V)->List (List Key×Addr×Value)->Prop:=Paired λp q=>p.1=q.1/\H q.2.1=some (.tup (p.1.map kV))/\RelV p.2 q.2.2
theorem KT.val {H:Hp} {kvs:List (List Key×V)} {xs:List (List Key×Addr×Value)} (r:KT H kvs xs) (k:List Key):cL (aR kvs k) ((atKey xs k).map (·.2)):=by
 induction r with
 | nil=>exact True.intro
 | @cons p q ps qs h t ih =>
  obtain ⟨h1,_,h2⟩:=h
  by_cases e:p.1=k
  .have e':q.1=k:=h1.symm.trans e
   have b:atKey (q :: qs) k=some q.2:=by simp [atKey,find?_cons,e']
   rw [ZM e,b]; exact h2
  .have e':¬ q.1=k:=λz=>e (h1.trans z)
   have b:atKey (q :: qs) k=atKey qs k:=by simp [atKey,find?_cons,e']
   rw [ZK e,b]; exact ih
theorem KT.repl {H:Hp} {kvs:List (List Key×V)} {xs:List (List Key×Addr×Value)} (r:KT H kvs xs) (k:List Key) {y:V} {u:Value} (ry:RelV y u) :
  KT H (kvs.map λkv=>if kv.1=k then (kv.1,y) else kv) (xs.map (putAt k u)):=by
 induction r with
 | nil=>exact .nil
 | @cons p q ps qs h t ih =>
  rw [aWO,aWO]
  refine .cons ?_ ih
  obtain ⟨h1,h2,h3⟩:=h
  unfold putAt
  by_cases e:p.1=k
  .rw [atn e,atn (h1.symm.trans e)]; exact ⟨h1,h2,ry⟩
  .rw [amU e,amU (λz=>e (h1.trans z))]; exact ⟨h1,h2,h3⟩
theorem KT.put {H:Hp} {kvs:List (List Key×V)} {xs:List (List Key×Addr×Value)} (r:KT H kvs xs) (k:List Key) {b:Addr} {y:V} {u:Value} (hb:H b=some (.tup (k.map kV))) (ry:RelV y u) :
  KT H (putK kvs k y) (storedH xs k b u):=by
 have e:(kvs.any λkv=>decide (kv.1=k))=(atKey xs k).isSome:=by
  rw [xW,(r.val k).dR,Option.isSome_map]
 unfold putK storedH
 rw [e]
 by_cases q:(atKey xs k).isSome=true
 .rw [atn q,atn q]; exact r.repl k ry
 .rw [amU q,amU q]; exact Paired.snoc r ⟨rfl,hb,ry⟩
theorem KT.keeps {H H':Hp} {kvs:List (List Key×V)} {xs:List (List Key×Addr×Value)} (r:KT H kvs xs) (ht:∀ b ys,H b=some (.tup ys)->H' b=some (.tup ys)):KT H' kvs xs :=
 Paired.qV r λ_ _ z=>⟨z.1,ht _ _ z.2.1,z.2.2⟩
section
variable {P:Program} {w:World} {H:Hp} {h:Heap} {a:Addr}
theorem pY {u:HO} (ok:dj P w H h) (e:Rd H a u):aJ P w H h a u:=e.ok ok
theorem iH {kvs:List (Key×V)} (ok:dj P w H h) (e:Rd H a (.dK kvs)):kvs.length<=sizeLine/\(a == sysModules)=false/\∃ vs,KV kvs vs/\h.DictOf (ZF P w) a vs :=
 show aJ P w H h a (.dK kvs) from pY ok e
theorem nA {kvs:List (Key×V)} (ok:dj P w H h) (e:H a=some (.dK kvs)):kvs.length<=sizeLine/\(a == sysModules)=false/\∃ vs,KV kvs vs/\h.DictOf (ZF P w) a vs:=iH ok (.inl e)
theorem xF {ks:List Key} (ok:dj P w H h) (e:H a=some (.tup (ks.map kV))):(tupleKind (ZF P w)).is h ks a:=by
 obtain ⟨_,its,r,o,h1,h2,n,h3⟩:=(show aJ P w H h a (.tup (ks.map kV)) from ok a _ e)
 exact ⟨o,its.toArray,n,h1,h2,h3,by simpa using Lm r⟩
theorem iG {kvs:List (List Key×V)} (ok:dj P w H h) (e:Rd H a (.dT kvs)):kvs.length<=sizeLine/\(a == sysModules)=false /\
  ∃ xs,KT H kvs xs/\h.DictOfH (tupleKind (ZF P w)) a xs:=by
 obtain ⟨z,y,xs,r,o,es,ep,h1,h2,h3,h4,h5⟩:=(show aJ P w H h a (.dT kvs) from pY ok e)
 refine ⟨z,y,xs,r,o,es,ep,h1,h2,h3,h4,λx hx=>?_,h5⟩
 have all:∀ {l:List (List Key×V)} {m:List (List Key×Addr×Value)},KT H l m->∀ x∈m,(tupleKind (ZF P w)).is h x.1 x.2.1:=by
  intro l m q
  induction q with
  | nil=>intro x hx; exact nomatch hx
  | @cons p q ps qs hq t ih =>
   intro x hx
   rcases ac0.mp hx with e | hx
   .subst e
    exact xF ok (by rw [← hq.1]; exact hq.2.1)
   .exact ih x hx
 exact all r x hx
theorem xr {kvs:List (List Key×V)} (ok:dj P w H h) (e:H a=some (.dT kvs)):kvs.length<=sizeLine/\(a == sysModules)=false /\
  ∃ xs,KT H kvs xs/\h.DictOfH (tupleKind (ZF P w)) a xs:=iG ok (.inl e)
end
def eU (H:Hp) (a:Addr) (y:V) (r:Option V):Prop :=
 (∃ kvs k,Rd H a (.dK kvs)/\y=kV k/\r=aR kvs k)\/∃ kvs k b,Rd H a (.dT kvs)/\y=.ref b/\H b=some (.tup (k.map kV))/\r=aR kvs k
def iX (H:Hp) (a:Addr) (y v:V) (H':Hp):Prop :=
 (∃ kvs k,H a=some (.dK kvs)/\y=kV k/\kvs.length<sizeLine/\H'=upd H a (.dK (putK kvs k v))) \/
 ∃ kvs k b,H a=some (.dT kvs)/\y=.ref b/\H b=some (.tup (k.map kV))/\kvs.length<sizeLine/\H'=upd H a (.dT (putK kvs k v))
theorem eU.k {H:Hp} {a:Addr} {kvs:List (Key×V)} {k:Key} (e:H a=some (.dK kvs)):eU H a (kV k) (aR kvs k):=.inl ⟨kvs,k,.inl e,rfl,rfl⟩
theorem iX.k {H:Hp} {a:Addr} {kvs:List (Key×V)} {k:Key} {v:V} (e:H a=some (.dK kvs)) (hl:kvs.length<sizeLine):iX H a (kV k) v (upd H a (.dK (putK kvs k v))):=.inl ⟨kvs,k,e,rfl,hl,rfl⟩
section
variable {X:Cx} {pins:List (Addr×Obj)} {σ:St} {H:Hp} {s:Shared} {a:Addr} {y v:V} {u r:Value} {o:Option V} {A:Around} {E:Value->Shared->Prop}
theorem Inv.big (I:Inv X pins σ H s):sysModules<s.heap.objs.size:=by
 have h:mainGlobals<s.heap.objs.size:=(I.mod.glob.keeps I.bk).lt
 exact Nat.lt_trans (by decide) h
theorem Ll {Q:Value->Shared->Prop} (hu:A.units+1<cLine) (I:Inv X pins σ H s) (g:eU H a y (some v)) (ry:RelV y u) (h:∀ w' s',Inv X pins σ H s'->RelV v w'->Q w' s') :
  wpAny (model X.prog X.w) A (getItem (.ref a) u) Q E s:=by
 rcases g with ⟨kvs,k,e,ey,l⟩ | ⟨kvs,k,b,e,ey,eb,l⟩
 .subst ey
  obtain ⟨z,hd,vs,rel,dd⟩:=iH I.hok e
  obtain ⟨w',hw,rw'⟩:=cL.some_of (v:=v) (o:=valueAt vs k) (by rw [l]; exact rel.val k)
  exact wpAny_getItem_of (gS ry) dd.mapOf hw (h w' _ (I.tok _) rw')
 .subst ey
  cases (show u=Value.ref b from ry)
  obtain ⟨z,hd,xs,rel,dd⟩:=iG I.hok e
  obtain ⟨w',hw,rw'⟩:=cL.some_of (v:=v) (o:=(atKey xs k).map (·.2)) (by rw [l]; exact rel.val k)
  obtain ⟨p,hp,hp2⟩:=Option.map_eq_some_iff.mp hw
  refine wpAny_getItem_heap (aYo hu) (xF I.hok eb) dd hp ?_
  rw [hp2]
  exact h w' _ (I.tok _) rw'
theorem DC {Q:Value->Shared->Prop} (hu:A.units+1<cLine) (I:Inv X pins σ H s) (g:eU H a y o) (ry:RelV y u) (h:∀ s',Inv X pins σ H s'->Q (.bool o.isSome) s') :
  wpAny (model X.prog X.w) A (compareOp .In u (.ref a)) Q E s:=by
 rcases g with ⟨kvs,k,e,ey,l⟩ | ⟨kvs,k,b,e,ey,eb,l⟩
 .subst ey
  obtain ⟨z,hd,vs,rel,dd⟩:=iH I.hok e
  refine wpAny_in_of (gS ry) hd dd.mapOf ?_
  rw [← (rel.val k).dR,← l]
  exact h _ (I.tok _)
 .subst ey
  cases (show u=Value.ref b from ry)
  obtain ⟨z,hd,xs,rel,dd⟩:=iG I.hok e
  refine wpAny_in_heap (aYo hu) (xF I.hok eb) hd dd ?_
  have q:=(rel.val k).dR
  rw [Option.isSome_map] at q
  rw [← q,← l]
  exact h _ (I.tok _)
theorem Ae {h':Heap} {t':Nat} {ob:HO} (I:Inv X pins σ H s) (mu:yu (H a)) (hs:Heap.SameBut a s.heap h') (he:∃ q,h'.get? a=some q) (new:aJ X.prog X.w (upd H a ob) h' a ob) :
  Inv X pins σ (upd H a ob) { s with heap:=h',toks:=t' } :=
 I.write (x:=a) (e:=a) mu (.inl rfl) (λb q hb z=>(hs.2 b hb).trans z) he new
theorem Ea {P:Program} {w:World} {H':Hp} {h':Heap} {kvs:List (Key×V)} {vs:List (Key×Value)} (z:kvs.length<=sizeLine) (hd:(a == sysModules)=false) (rel:KV kvs vs) (dd:h'.DictOf (ZF P w) a vs) :
  aJ P w H' h' a (.dK kvs):=⟨z,hd,vs,rel,dd⟩
theorem Lj {H':Hp} {Q:Unit->Shared->Prop} (hu:A.units+1<cLine) (I:Inv X pins σ H s) (g:iX H a y v H') (ry:RelV y u) (rv:RelV v r) (h:∀ s',Inv X pins σ H' s'->Q () s') :
  wpAny (model X.prog X.w) A (setItem (.ref a) u r) Q E s:=by
 rcases g with ⟨kvs,k,e,ey,l,eH⟩ | ⟨kvs,k,b,e,ey,eb,l,eH⟩
 .subst ey eH
  obtain ⟨z,hd,vs,rel,dd⟩:=nA I.hok e
  have hz:vs.length<=sizeLine:=by rw [← rel.length]; exact z
  have hl:(putK kvs k v).length<=sizeLine:=by have:=ZW kvs k v; lia
  refine wpAny_setItem_pairs (hsz:=hz) (gS ry) dd λh' n5 hs=>h _ ?_
  have he:∃ q,h'.get? a=some q:=let ⟨q,_,_,hq,_⟩:=n5; ⟨q,hq⟩
  exact Ae I (by rw [e]; exact True.intro) hs he (Ea hl hd (rel.put k rv) n5)
 .subst ey eH
  cases (show u=Value.ref b from ry)
  obtain ⟨z,hd,xs,rel,dd⟩:=xr I.hok e
  have hz:xs.length<=sizeLine:=by rw [← Paired.length rel]; exact z
  have hl:(putK kvs k v).length<=sizeLine:=by have:=ZW kvs k v; lia
  refine wpAny_setItem_heap (hsz:=hz) (aYo hu) (xF I.hok eb) dd λh' n5 hs=>h _ ?_
  obtain ⟨q,es,ep,hq,h2,h3,h4,_,h5⟩:=n5
  refine Ae I (by rw [e]; exact True.intro) hs ⟨q,hq⟩ ⟨hl,hd,_,(rel.put k eb rv).keeps λc ys ec=>?_,q,es,ep,hq,h2,h3,h4,h5⟩
  rw [Zc (p9 ec e (λz=>nomatch z))]
  exact ec
end
section
variable {X:Cx} {pins:List (Addr×Obj)} {σ:St} {H:Hp} {s:Shared} {a:Addr} {kvs:List (Key×V)} {k:Key} {u:Value} {A:Around} {E:Value->Shared->Prop}
theorem xw {v:V} {more:List Value} {Q:Value->Shared->Prop} (I:Inv X pins σ H s) (e:H a=some (.dK kvs)) (ry:RelV (kV k) u) (l:aR kvs k=some v) (hm:more=[]\/∃ x,more=[x])
  (h:∀ w' s',Inv X pins σ (upd H a (.dK (cz kvs k))) s'->RelV v w'->Q w' s'):wpAny (model X.prog X.w) A (call (.builtin "dict.pop") (.ref a :: u :: more)) Q E s:=by
 obtain ⟨z,hd,vs,rel,dd⟩:=nA I.hok e
 obtain ⟨w',hw,rw'⟩:=cL.some_of (v:=v) (o:=valueAt vs k) (by rw [← l]; exact rel.val k)
 have hp:(keyPart u).isSome=true:=by
  cases k with
  | inl i=>obtain ⟨t,q⟩:=(show ∃ t,u=Value.int i t from ry); subst q; rfl
  | inr x=>obtain ⟨t,q⟩:=(show ∃ t,u=Value.str x t from ry); subst q; rfl
 have ha:argsOk "dict.pop" ⟨.ref a :: u :: more,[]⟩:=by
  rcases hm with q | ⟨x,q⟩
  .subst q; exact PySem.F.args_dict_pop_2 _ _
  .subst q; exact PySem.F.args_dict_pop_3 _ _ _
 refine call_meetsIn PySem.F.slot_dict_pop dd.typeIs PySem.F.entry_dict_pop ha (meets_dict_pop_there (ZF X.prog X.w) a (gS ry) more hm hp)
  ⟨vs,w',dd,by rw [← rel.length]; exact z,hw,λh' n5 hs=>h w' _ ?_ rw'⟩
 have he:∃ q,h'.get? a=some q:=let ⟨q,_,_,hq,_⟩:=n5; ⟨q,hq⟩
 exact Ae I (by rw [e]; exact True.intro) hs he (Ea (ay9 (TH kvs k) z) hd (rel.drop k) n5)
end
def yt (i:Expr):Prop:=∀ ov iv,subscripted i false ov iv=operate [ov,iv] (getItem ov iv)
theorem RX {prog:Program} {w:World} {A:Around} {E:Value->Shared->Prop} {s:Shared} {env:Env} {value slice:Expr} {pos:Pos} {T id:String} {Q:Value->Shared->Prop}
  (hl:typeLookup (.type T) "__getitem__" = pure (some (.builtin id))) (hs:yt slice)
  (h:wpAny (model prog w) A (eval value env) (λo s₁=>wpAny (model prog w) A (eval slice env) (λi s₂=>s₂.TypeIs o T/\wpAny (model prog w) A (getItem o i) Q E s₂) E s₁) E s) :
  wpAny (model prog w) A (eval (.Subscript value slice pos) env) Q E s:=by
 refine Subscript_ (aPb h (λo s₁ h₁=>aPb h₁ (λi s₂ h₂=>?_) λ_ _ x=>x) λ_ _ x=>x)
 obtain ⟨hT,h₂⟩:=h₂
 unfold subscriptTail
 refine a6w ?_
 rw [getitemInPython_of_ne hT.not_modules]
 refine a6w (wpAny_specialOf hT hl ?_)
 have fin:wpAny (model prog w) A (subscripted slice false o i) (λr s₃=>wpAny (model prog w) A (letTemporaryGo value o r >>= λ_=>pure r) Q E s₃) E s₂:=by
  rw [hs o i]
  exact wpAny_operating (aPb h₂ (λr s₃ h₃=>a6w (wpAny_letTemporaryGo (adj h₃))) λ_ _ x=>x)
 first
  | exact adj (a6w fin)
  | exact a6w (adj (a6w fin))
  | exact a6w fin
theorem VI {X:Cx} {pins:List (Addr×Obj)} {σ:St} {H:Hp} {s:Shared} {a:Addr} {y:V} {o:Option V} (I:Inv X pins σ H s) (g:eU H a y o):s.TypeIs (.ref a) "dict" := by
 rcases g with ⟨kvs,k,e,_,_⟩ | ⟨kvs,k,b,e,_,_,_⟩
 .obtain ⟨_,_,vs,_,dd⟩:=iH I.hok e
  exact dd.typeIs
 .obtain ⟨_,_,xs,_,dd⟩:=iG I.hok e
  exact dd.typeIs
def vd (td ty:TE):TE:=λσ H Q=>td σ H λx H1=>ty σ H1 λy H2=>∃ a v,x=.ref a/\eU H2 a y (some v)/\Q v H2
def BE (ty td:TE):TE:=λσ H Q=>ty σ H λy H1=>td σ H1 λx H2=>∃ a o,x=.ref a/\eU H2 a y o/\Q (.bl o.isSome) H2
def vA (td ty tv:TE):TS:=λD σ H=>tv σ H λv H1=>td σ H1 λx H2=>ty σ H2 λy H3=>∃ a H4,x=.ref a/\iX H3 a y v H4/\D.nx σ H4
def vB (td ty tv:TE) (rd:V->V->Hp->VK->Prop):TS:=λD σ H=>td σ H λx H1=>ty σ H1 λy H2=>∃ a v,x=.ref a/\eU H2 a y (some v) /\
 tv σ H2 λy2 H3=>rd v y2 H3 λz H4=>∃ H5,iX H4 a y z H5/\D.nx σ H5
section
variable {X:Cx} {o i e value:Expr} {pos pos' tpos:Pos} {td ty tv:TE}
theorem J5 (hu:X.A.units+1<cLine) (ho:PE X o td) (hi:PE X i ty) (hs:yt i):PE X (.Subscript o i pos) (vd td ty):=by
 intro pins s σ H Q I h
 refine RX PySem.F.slot_dict_getitem.lookup hs (cT (ho pins s σ H _ I h) λu s1 x H1 I1 rx q1=>bH (hi pins s1 σ H1 _ I1 q1) λiv s2 ⟨y,H2,I2,ry,a,v,ex,g,q2⟩=>?_)
 subst ex
 obtain rfl:u=Value.ref a:=rx
 exact ⟨VI I2 g,Ll hu I2 g ry λw' s3 I3 rw'=>⟨v,H2,I3,rw',q2⟩⟩
theorem Rl (hu:X.A.units+1<cLine) (hi:PE X i ty) (ho:PE X o td):PC X .In i o (BE ty td):=by
 intro pins s σ H Q I h
 refine cT (hi pins s σ H _ I h) λiv s1 y H1 I1 ry q1=>bH (ho pins s1 σ H1 _ I1 q1) λu s2 ⟨x,H2,I2,rx,a,ov,ex,g,q2⟩=>?_
 subst ex
 obtain rfl:u=Value.ref a:=rx
 exact DC hu I2 g ry λs3 I3=>⟨.bl ov.isSome,H2,I3,rfl,q2⟩
theorem Ey (hu:X.A.units+1<cLine) (ho:PE X o td) (hi:PE X i ty) (hv:PE X value tv) (hs:swapsWith value (some (.Subscript o i pos')) pos.line X.env=pure false) :
  PS X (.Assign [.Subscript o i pos'] value pos) (vA td ty tv):=by
 intro pins s σ H D I h
 refine wpAny_Assign_Subscript (cT (hv pins s σ H _ I h) λr s1 v H1 I1 rv q1=>cT (ho pins s1 σ H1 _ I1 q1) λu s2 x H2 I2 rx q2=>bH (hi pins s2 σ H2 _ I2 q2) λiv s3 ⟨y,H3,I3,ry,a,H4,ex,g,q3⟩=>?_) hs
 subst ex
 obtain rfl:u=Value.ref a:=rx
 exact Lj hu I3 g ry rv λs4 I4=>⟨σ,H4,I4,q3⟩
theorem RW {op:Operator} {rd:V->V->Hp->VK->Prop} (hu:X.A.units+1<cLine) (ho:PE X o td) (hi:PE X i ty) (hv:PE X value tv) (hop:yx X op rd)
  (ha:∀ ov iv new,augStore i ov iv new=(do holding [new,ov,iv] (setItem ov iv new); release [new,ov,iv] []; pure .next)):PS X (.AugAssign (.Subscript o i tpos) op value pos) (vB td ty tv rd):=by
 intro pins s σ H D I h
 refine wpAny_AugAssign_SubscriptAny (cT (ho pins s σ H _ I h) λu s1 x H1 I1 rx q1=>bH (hi pins s1 σ H1 _ I1 q1) λiv s2 ⟨y,H2,I2,ry,a,v,ex,g,q2⟩=>?_) ha
 subst ex
 obtain rfl:u=Value.ref a:=rx
 refine Ll hu I2 g ry λw' s3 I3 rw'=>cT (hv pins s3 σ H2 _ I3 q2) λw2 s4 y2 H3 I4 Np q3=>bH (hop pins s4 σ H3 v y2 w' w2 _ I4 rw' Np q3) λw3 s5 ⟨z,H4,I5,rz,H5,g5,q4⟩=>?_
 exact Lj hu I5 g5 ry rz λs6 I6=>⟨σ,H5,I6,q4⟩
end
theorem TF {P:Program} {w:World} {H:Hp} (h:Heap) (hb:sysModules<h.objs.size):aJ P w H (h.push { cls:=.type "dict",data:=.dict #[] }) h.objs.size (.dK []) :=
 ⟨aze _,aiK.mpr (a38 (aOw hb)),[],.nil,Heap.DictOf.new h⟩
def Rj:TE:=λ_ H Q=>∀ p,H p=none->Q (.ref p) (upd H p (.dK []))
section
variable {X:Cx} {pos:Pos}
theorem AI:PE X (.Dict [] [] pos) Rj:=λpins s σ H Q I h =>
 wpAny_Dict_empty ⟨.ref s.heap.objs.size,_,I.laid (a:=s.heap.objs.size) (o:=.dK []) (t':=s.toks) (λ_ _ q=>atD _ q) (aNS _) (TF s.heap I.big),rfl,h _ (I.hok.fresh (aNS _))⟩
end
structure M1 (X:Cx) (o:Expr) (m:Str) (apos:Pos) (e:Expr) (cpos:Pos):Prop where
 base:attributeBase o m X.env (eval o X.env)=eval o X.env
 few:((backTo cpos (starEach [e] X.env)).all (λx=>!x.1) && (backToKw cpos (keywordEach [] X.env)).all (λx=>x.1.isSome)
  && decide (([e]:List Expr).length+([]:List Keyword).length+(if ([]:List Keyword).isEmpty then 0 else 1)<30))=true
 line:(apos.endLine == cpos.line)=true
 trees:backTo cpos (starEach [e] X.env)=[(false,eval e X.env)]
structure M2 (X:Cx) (o:Expr) (m:Str) (apos:Pos) (e f:Expr) (cpos:Pos):Prop where
 base:attributeBase o m X.env (eval o X.env)=eval o X.env
 few:((backTo cpos (starEach [e,f] X.env)).all (λx=>!x.1) && (backToKw cpos (keywordEach [] X.env)).all (λx=>x.1.isSome)
  && decide (([e,f]:List Expr).length+([]:List Keyword).length+(if ([]:List Keyword).isEmpty then 0 else 1)<30))=true
 line:(apos.endLine == cpos.line)=true
 trees:backTo cpos (starEach [e,f] X.env)=[(false,eval e X.env),(false,eval f X.env)]
def A2 (H:Hp) (a:Addr):Prop:=(∃ kvs,Rd H a (.dK kvs))\/∃ kvs,Rd H a (.dT kvs)
theorem zQ {X:Cx} {pins:List (Addr×Obj)} {σ:St} {H:Hp} {s:Shared} {a:Addr} (I:Inv X pins σ H s) (d:A2 H a) :
  s.TypeIs (.ref a) "dict" /\ (∀ b,Value.ref a=.ref b->∃ ob,s.heap.get? b=some ob/\ob.dict=none)/\(a == sysModules)=false:=by
 rcases d with ⟨kvs,e⟩ | ⟨kvs,e⟩
 .obtain ⟨_,hd,vs,_,dd⟩:=iH I.hok e
  refine ⟨dd.typeIs,λb q=>?_,hd⟩
  cases q
  obtain ⟨ob,_,_,h1,h2,_⟩:=dd
  exact ⟨ob,h1,h2.2.1⟩
 .obtain ⟨_,hd,xs,_,dd⟩:=iG I.hok e
  refine ⟨dd.typeIs,λb q=>?_,hd⟩
  cases q
  obtain ⟨ob,_,_,h1,h2,_⟩:=dd
  exact ⟨ob,h1,h2.2.1⟩
section
variable {X:Cx} {pins:List (Addr×Obj)} {σ:St} {H:Hp} {s:Shared} {a:Addr} {y d:V} {u r:Value} {o:Option V} {A:Around} {E:Value->Shared->Prop}
theorem Ri {Q:Value->Shared->Prop} (hu:A.units+1<cLine) (I:Inv X pins σ H s) (g:eU H a y o) (ry:RelV y u) (rd:RelV d r) (h:∀ w' s',Inv X pins σ H s'->RelV (o.getD d) w'->Q w' s') :
  wpAny (model X.prog X.w) A (call (.builtin "dict.get") [.ref a,u,r]) Q E s:=by
 rcases g with ⟨kvs,k,e,ey,l⟩ | ⟨kvs,k,b,e,ey,eb,l⟩
 .subst ey
  obtain ⟨z,hd,vs,rel,dd⟩:=iH I.hok e
  refine call_meetsIn aLk dd.typeIs PySem.F.entry_dict_get (PySem.F.args_dict_get_3 _ _ _) (meets_dict_get_default (ZF X.prog X.w) a (gS ry) hd r) ⟨_,dd.mapOf,h _ _ (I.tok _) ?_⟩
  rw [l]
  exact (rel.val k).getD rd
 .subst ey
  cases (show u=Value.ref b from ry)
  obtain ⟨z,hd,xs,rel,dd⟩:=iG I.hok e
  refine call_meetsIn aLk dd.typeIs PySem.F.entry_dict_get (PySem.F.args_dict_get_3 _ _ _) (meetsH_dict_get_default (tupleKind (ZF X.prog X.w)) a b hd r) ⟨aYo hu,k,xs,xF I.hok eb,dd,h _ _ (I.tok _) ?_⟩
  rw [l]
  exact (rel.val k).getD rd
end
def Rh (td ty tx:TE):TE:=λσ H Q=>td σ H λx H1=>∃ a,x=.ref a/\A2 H1 a/\ty σ H1 λy H2=>tx σ H2 λz H3=>∃ o,eU H3 a y o/\Q (o.getD z) H3
def Rg (td ty:TE):TE:=λσ H Q=>td σ H λx H1=>∃ a,x=.ref a/\A2 H1 a/\ty σ H1 λy H2=>∃ kvs k v,H2 a=some (.dK kvs)/\y=kV k/\aR kvs k=some v/\Q v (upd H2 a (.dK (cz kvs k)))
section
variable {X:Cx} {o e f:Expr} {apos cpos:Pos} {td ty tx:TE}
theorem Tz (hu:X.A.units+1<cLine) (ho:PE X o td) (he:PE X e ty) (hf:PE X f tx) (m:M2 X o "get" apos e f cpos):PE X (.Call (.Attribute o "get" apos) [e,f] [] cpos) (Rh td ty tx):=by
 intro pins s σ H Q I h
 refine wpAny_Call_method m.base m.few m.line aGp aLk PySem.F.type_dict_get (bH (ho pins s σ H _ I h) λu s1 ⟨x,H1,I1,rx,a,ex,d,q1⟩=>?_)
 subst ex
 obtain rfl:u=Value.ref a:=rx
 obtain ⟨t1,t2,_⟩:=zQ I1 d
 refine ⟨t1,t2,?_⟩
 rw [m.trees]
 refine ad1 rfl (an4 (aLm (cT (he pins s1 σ H1 _ I1 q1) λiv s2 y H2 I2 ry q2 =>
  aLm (bH (hf pins s2 σ H2 _ I2 q2) λfv s3 ⟨z,H3,I3,rz,ov,g,q3⟩=>ajQ ?_))))
 exact Ri hu I3 g ry rz λw' s4 I4 rw'=>⟨_,H3,I4,rw',q3⟩
theorem Tw (ho:PE X o td) (he:PE X e ty) (m:M1 X o "pop" apos e cpos):PE X (.Call (.Attribute o "pop" apos) [e] [] cpos) (Rg td ty):=by
 intro pins s σ H Q I h
 refine wpAny_Call_method m.base m.few m.line aGp PySem.F.slot_dict_pop PySem.F.type_dict_pop (bH (ho pins s σ H _ I h) λu s1 ⟨x,H1,I1,rx,a,ex,d,q1⟩=>?_)
 subst ex
 obtain rfl:u=Value.ref a:=rx
 obtain ⟨t1,t2,_⟩:=zQ I1 d
 refine ⟨t1,t2,?_⟩
 rw [m.trees]
 refine ad1 rfl (an4 (aLm (bH (he pins s1 σ H1 _ I1 q1) λiv s2 ⟨y,H2,I2,ry,kvs,k,v,ea,ey,l,q2⟩=>ajQ ?_)))
 subst ey
 exact xw I2 ea ry l (.inl rfl) λw' s3 I3 rw'=>⟨v,_,I3,rw',q2⟩
end
section
variable {κ:Type} [DecidableEq κ]
theorem lT:∀ {l:List κ} {k:κ},l.Nodup->¬ k∈l->(l++[k]).Nodup
 | [],k,_,_=>by simp
 | a :: r,k,h,hk=>by
  obtain ⟨h1,h2⟩:=aG7.mp h
  show (a :: (r++[k])).Nodup
  refine aG7.mpr ⟨λm=>?_,lT h2 λm=>hk (ac0.mpr (Or.inr m))⟩
  rcases aJX.mp m with q | q
  .exact h1 q
  .exact hk (ac0.mpr (Or.inl (aBr.mp q).symm))
theorem Up {p:κ×V} {r:List (κ×V)} {k:κ} (e:p.1=k):cz (p :: r) k=cz r k:=by
 unfold cz
 rw [aTO,amU (by simp [e])]
theorem Uo {p:κ×V} {r:List (κ×V)} {k:κ} (e:¬ p.1=k):cz (p :: r) k=p :: cz r k:=by
 unfold cz
 rw [aTO,atn (by simp [e])]
end
section
variable {X:Cx} {pins:List (Addr×Obj)} {σ:St} {H:Hp} {s:Shared} {d:Addr} {kvs:List (Key×V)} {o:Obj}
theorem Inv.frozen (I:Inv X pins σ H s) (h:H d=some (.dK kvs)) (ho:s.heap.get? d=some o):Inv X pins σ (upd H d (.bD o (.dK kvs))) s:=by
 have ne:∀ b u,H b=some u->u≠.dK kvs->b≠d:=λb u e n z=>by rw [z,h] at e; exact n (ado e).symm
 have nn:∀ b,H b=none->b≠d:=λb e z=>by rw [z,h] at e; cases e
 have q:=I.step (g':=s.gens) (t':=s.toks) (d':=s.drawn) (ch:=[]) (h':=s.heap) (H':=upd H d (.bD o (.dK kvs))) (λ_ z=>nomatch z) (λb o' _ _ _ e _=>e) (λb o' _ _ _ e _=>⟨o'.slots,e⟩) (λb o' _ _ n=>by rw [Zc (nn b n)]; exact n) (λb o' _ e=>⟨o',e⟩)
  (λb xs e=>by rw [Zc (ne b _ e (by intro z; cases z))]; exact e) (λb o' u e=>by rw [Zc (ne b _ e (by intro z; cases z))]; exact e) (λb _ _ e=>by rw [Zc (ne b _ e (by intro z; cases z))]; exact e) (λm hm=>hm) (λb u e=>?_) I.bare
 .exact q
 .by_cases hb:b=d
  .subst hb
   rw [Za] at e
   cases e
   exact ⟨ho,I.hok b _ h⟩
  .rw [Zc hb] at e
   exact (I.hok b u e).stay (λ_ _ _ z=>z) (λc z=>by rw [Zc (ne c _ z (by intro y; cases y))]; exact z) (λc xs z=>by rw [Zc (ne c _ z (by intro y; cases y))]; exact z) λc oz z=>by rw [Zc (ne c _ z (by intro y; cases y))]; exact z
end
theorem J4 {P:Program} {w:World} {H:Hp} {h:Heap} {d:Addr} {o:Obj} {kvs:List (Key×V)} {es:Array DictEntry} {ep:Nat} (q:aJ P w H h d (.bD o (.dK kvs))) (he:o.data=.dict es ep):(d == sysModules)=false/\∃ vs,KV kvs vs/\h.DictAt (ZF P w) d vs ep:=by
 obtain ⟨ho,_,hs,vs,r,o',es',zK,h1,h2,h3,h4⟩:=q
 rw [ho] at h1; cases h1
 rw [he] at h3
 cases h3
 exact ⟨hs,vs,r,o,es,ho,h2,he,h4⟩
structure Src (P0:Program) (w0:World) (it l:Addr) (its:Array Value) (pos:Nat->Heap->Prop) (sq:Heap->Prop):Prop where
 item:∀ {A0:Around} {E0:Value->Shared->Prop} {t:Shared} {i:Nat} {x:Value} {Q0:Value->Shared->Prop},pos i t.heap->sq t.heap->its[i]?=some x->(∀ g,pos (i+1) g->Heap.SameBut it t.heap g->Q0 x { t with heap:=g })->wpAny (model P0 w0) A0 (Builtin.SmallTypes.nextOf (.ref it)) Q0 E0 t
 stop:∀ {A0:Around} {E0:Value->Shared->Prop} {t:Shared} {i:Nat} {Q0:Value->Shared->Prop},A0.handled=none->pos i t.heap->sq t.heap->its[i]?=none->(∀ g e,Heap.ExtBut it t.heap g->(∃ o,g.get? e=some o/\o.cls=.type "StopIteration")->E0 (.ref e) { t with heap:=g })->wpAny (model P0 w0) A0 (Builtin.SmallTypes.nextOf (.ref it)) Q0 E0 t
 f7:∀ {i:Nat} {g g':Heap},pos i g->(∀ o,g.get? it=some o->g'.get? it=some o)->pos i g'
 j9:∀ {g g':Heap},sq g->(∀ o,g.get? l=some o->g'.get? l=some o)->sq g'
 obj:∀ {i:Nat} {g:Heap},pos i g->∃ o,g.get? it=some o/\∀ v,o.data≠.cell v
section
variable {P0:Program} {w0:World} {A0:Around} {E0:Value->Shared->Prop} {t:Shared}
theorem VW {it a:Addr} {i:Nat} {its:Array Value} {x:Value} {Q0:Value->Shared->Prop} (st:t.heap.IsTupleIter it a i) (tp:t.heap.IsTuple a its) (hx:its[i]?=some x)
  (k:∀ g,g.IsTupleIter it a (i+1)->Heap.SameBut it t.heap g->Q0 x { t with heap:=g }):wpAny (model P0 w0) A0 (Builtin.SmallTypes.nextOf (.ref it)) Q0 E0 t:=by
 obtain ⟨oi,gi,ci,di⟩:=id st
 obtain ⟨oa,ga,_,n,da⟩:=tp
 unfold Builtin.SmallTypes.nextOf
 refine a6w (aNk (name:=Str.ofString "__next__") st.typeIs apK (aM8 apK st.typeIs F.entry_tuple_iterator_next ?_ (F.args_tuple_iterator_next_1 _)))
 show wpAny _ _ (field (.ref it) 0 >>= _) _ _ t
 refine a6w (aA0 gi di (x:=.ref a) rfl ?_)
 show wpAny _ _ (if (Value.ref a == Value.none)=true then _ else _) _ _ t
 rw [amU (show ¬ ((Value.ref a == Value.none)=true) from aPi)]
 show wpAny _ _ (field (.ref it) 1 >>= _) _ _ t
 refine a6w (aA0 gi di (x:=.int i 0) rfl ?_)
 show wpAny _ _ (seqItems? (.ref a) >>= _) _ _ t
 refine a6w (avs ga da ?_)
 simp only [hx,Int.toNat_natCast]
 refine a6w (wpAny_setField gi di (by simp) (adj ⟨x,rfl,adj (k _ ⟨_,arh _ gi (Obj.isFreed_of_fields (Obj.data_mapFields di _)),(Obj.cls_mapFields ..).trans ci,?_⟩ (Heap.SameBut.update ..))⟩))
 rw [Obj.data_mapFields di]
 simp [rawInt]
theorem VV {it a:Addr} {i:Nat} {its:Array Value} {Q0:Value->Shared->Prop} (hA:A0.handled=none) (st:t.heap.IsTupleIter it a i) (tp:t.heap.IsTuple a its) (hx:its[i]?=none)
  (k:∀ g e,Heap.ExtBut it t.heap g->(∃ o,g.get? e=some o/\o.cls=.type "StopIteration")->E0 (.ref e) { t with heap:=g }):wpAny (model P0 w0) A0 (Builtin.SmallTypes.nextOf (.ref it)) Q0 E0 t:=by
 obtain ⟨oi,gi,ci,di⟩:=id st
 obtain ⟨oa,ga,_,n,da⟩:=tp
 unfold Builtin.SmallTypes.nextOf
 refine a6w (aNk (name:=Str.ofString "__next__") st.typeIs apK (aM8 apK st.typeIs F.entry_tuple_iterator_next ?_ (F.args_tuple_iterator_next_1 _)))
 show wpAny _ _ (field (.ref it) 0 >>= _) _ _ t
 refine a6w (aA0 gi di (x:=.ref a) rfl ?_)
 show wpAny _ _ (if (Value.ref a == Value.none)=true then _ else _) _ _ t
 rw [amU (show ¬ ((Value.ref a == Value.none)=true) from aPi)]
 show wpAny _ _ (field (.ref it) 1 >>= _) _ _ t
 refine a6w (aA0 gi di (x:=.int i 0) rfl ?_)
 show wpAny _ _ (seqItems? (.ref a) >>= _) _ _ t
 refine a6w (avs ga da ?_)
 simp only [hx,Int.toNat_natCast]
 refine a6w (aei (a6w (wpAny_setField gi di (by simp) ?_)))
 show wpAny _ _ (newExc (.type "StopIteration") [] >>= _) _ _ _
 refine a6w ?_
 simp only [newTuple,newExc]
 refine a6w (aa0 (a6w (m:=firstArgMember _ _) (wpAny_of_eq (a:=Value.none) (by first | rfl | (simp only [firstArgMember]; rfl)) (aa0 ?_ (by size_fits)))) (by size_fits))
 simp only [raiseNew]
 refine a6w (wpAny_handled ?_)
 first | rw [show A0.in1.handled=none from hA] | rw [hA]
 exact a6w (adj (wpAny_throw (k _ _ (((Heap.SameBut.update ..).extBut.push _).push _) ⟨_,aMS _ rfl,rfl⟩)))
end
theorem yk {h:Heap} {it l:Addr} {i:Nat} (x:h.IsTupleIter it l i):∃ o,h.get? it=some o/\∀ v,o.data≠.cell v:=by
 obtain ⟨o,e,c,d⟩:=x
 exact ⟨o,e,λv z=>by rw [d] at z; cases z⟩
theorem Ad {P0:Program} {w0:World} (it l:Addr) (its:Array Value):Src P0 w0 it l its (λi h=>h.IsTupleIter it l i) (λh=>h.IsTuple l its) where
 item:=λa b c d=>VW a b c d
 stop:=λa b c d e=>VV a b c d e
 f7:=λa b=>a.at b
 j9:=λa b=>by obtain ⟨o,e,r⟩:=a; exact ⟨o,b o e,r⟩
 obj:=λa=>yk a
section
variable {P0:Program} {w0:World} {A0:Around} {E0:Value->Shared->Prop} {t:Shared} {z TI TO ia ib la lb:Addr} {p1 p2:Nat->Heap->Prop} {q1 q2:Heap->Prop} {xs ys:Array Value}
theorem Um {k:Nat} {x y u v:Value} {Q0:Value->Shared->Prop} (S1:Src P0 w0 ia la xs p1 q1) (S2:Src P0 w0 ib lb ys p2 q2) (D:ZipApart z TI TO ia ib la lb)
  (zz:IsZip t.heap z TI TO .none) (zI:IsPair t.heap TI (.ref ia) (.ref ib)) (zO:IsPair t.heap TO u v) (a1:p1 k t.heap) (a2:p2 k t.heap) (b1:q1 t.heap) (b2:q2 t.heap) (hx:xs[k]?=some x) (hy:ys[k]?=some y)
  (fin:∀ g,IsZip g z TI TO (rawInt t.heap.objs.size)->IsPair g TO x y->p1 (k+1) g->p2 (k+1) g->IsPair g t.heap.objs.size x y->g.objs.size=t.heap.objs.size+1 ->
   (∀ c o,c≠z->c≠TO->c≠ia->c≠ib->t.heap.get? c=some o->g.get? c=some o)->Q0 (.ref t.heap.objs.size) { t with heap:=g }) :
  wpAny (model P0 w0) A0 (Builtin.«zip.__next__» ⟨[.ref z],[]⟩) (λf s'=>∃ v,f=.done (.ret v)/\Q0 v s') E0 t:=by
 show wpAny _ _ (field (.ref z) 2 >>= _) _ _ _
 refine a6w (aA0 zz rfl (x:=.bool false) rfl ?_)
 show wpAny _ _ (field (.ref z) 3 >>= _) _ _ _
 refine a6w (aA0 zz rfl (x:=.ref TI) rfl (a6w (avs zI rfl ?_)))
 show wpAny _ _ (Builtin.SmallTypes.ownedTupleIsFree (.ref z) >>= _) _ _ _
 refine a6w ?_
 unfold Builtin.SmallTypes.ownedTupleIsFree
 refine a6w (aA0 zz rfl (x:=.none) rfl (adj ?_))
 simp only [a3p]
 refine a6w (aei (a6w (aA0 zz rfl (x:=.ref TO) rfl (a6w (auT zz (by simp) λg1 z1 c1=>?_)))))
 replace z1:IsZip g1 z TI TO .ellipsis:=z1
 refine a6w ?_
 simp only [a5U,List.forIn_nil,List.zipIdx_cons,List.zipIdx_nil]
 refine a6w (a6w (wpAny_onRaise ?_))
 show wpAny _ _ (Builtin.SmallTypes.nextOf (.ref ia) >>= _) _ _ _
 refine a6w (S1.item (S1.f7 a1 λo e=>c1.extBut _ o D.i1z e) (S1.j9 b1 λo e=>c1.extBut _ o D.l1z e) hx λg2 P6 c2=>adj ?_)
 have o2:IsPair g2 TO u v:=c2.extBut _ _ D.TOi1 (c1.extBut _ _ D.TOz zO)
 refine a6w (avs o2 rfl (a6w (wpAny_updateSeq_pair o2 λg3 o3 c3=>?_)))
 replace o3:IsPair g3 TO x v:=o3
 refine a6w (a0x (adj ?_))
 refine a6w (a6w (wpAny_onRaise ?_))
 show wpAny _ _ (Builtin.SmallTypes.nextOf (.ref ib) >>= _) _ _ _
 have m3:∀ c o,c≠z->c≠ia->c≠TO->t.heap.get? c=some o->g3.get? c=some o:=λc o n1 n2 n3 e=>c3.extBut _ _ n3 (c2.extBut _ _ n2 (c1.extBut _ _ n1 e))
 refine a6w (S2.item (S2.f7 a2 λo e=>m3 _ o D.i2z D.i12.symm D.TOi2.symm e) (S2.j9 b2 λo e=>m3 _ o D.l2z D.l2i1 D.l2TO e) hy λg4 P4 c4=>adj ?_)
 have o4:IsPair g4 TO x v:=c4.extBut _ _ D.TOi2 o3
 refine a6w (avs o4 rfl (a6w (wpAny_updateSeq_pair o4 λg5 o5 c5=>?_)))
 replace o5:IsPair g5 TO x y:=o5
 refine a6w (a0x (adj (adj ?_)))
 refine a6w (avs o5 rfl (a6w (wpAny_newTuple ?_)))
 have sz:g5.objs.size=t.heap.objs.size:=by rw [c5.1,c4.1,c3.1,c2.1,c1.1]
 have m5:∀ c o,c≠z->c≠TO->c≠ia->c≠ib->t.heap.get? c=some o->g5.get? c=some o:=λc o n1 n2 n3 n4 e=>c5.extBut _ _ n2 (c4.extBut _ _ n4 (m3 c o n1 n3 n2 e))
 have z5:IsZip g5 z TI TO .ellipsis:=c5.extBut _ _ D.TOz.symm (c4.extBut _ _ D.i2z.symm (c3.extBut _ _ D.TOz.symm (c2.extBut _ _ D.i1z.symm z1)))
 have P5:p1 (k+1) g5:=S1.f7 P6 λo e=>c5.extBut _ o D.TOi1.symm (c4.extBut _ o D.i12 (c3.extBut _ o D.TOi1.symm e))
 have P1:p2 (k+1) g5:=S2.f7 P4 λo e=>c5.extBut _ o D.TOi2.symm e
 have GD:z<g5.objs.size:=alE z5
 show wpAny _ _ (Builtin.SmallTypes.ownedTupleHandOut (.ref z) (.ref g5.objs.size) >>= _) _ _ _
 refine a6w ?_
 unfold Builtin.SmallTypes.ownedTupleHandOut
 have z6:IsZip (g5.push { cls:=.type "tuple",data:=.seq #[x,y] }) z TI TO .ellipsis:=atD _ z5
 refine a6w (auT z6 (by simp) λg7 z7 c7=>?_)
 replace z7:IsZip g7 z TI TO (rawInt g5.objs.size):=z7
 refine auT z7 (by simp) λg8 z8 c8=>?_
 replace z8:IsZip g8 z TI TO (rawInt g5.objs.size):=z8
 have m8:∀ c o,c≠z->g5.get? c=some o->g8.get? c=some o:=λc o n1 e=>c8.extBut _ _ n1 (c7.extBut _ _ n1 (atD _ e))
 have t8:IsPair g8 g5.objs.size x y:=c8.extBut _ _ (aky GD) (c7.extBut _ _ (aky GD) (aMS _ rfl))
 have s8:g8.objs.size=g5.objs.size+1:=by rw [c8.1,c7.1,aep]
 rw [sz] at z8 t8 s8
 refine adj ⟨_,rfl,?_⟩
 show Q0 (.ref g5.objs.size) _
 rw [sz]
 exact fin g8 z8 (m8 _ _ D.TOz o5) (S1.f7 P5 λo e=>m8 _ o D.i1z e) (S2.f7 P1 λo e=>m8 _ o D.i2z e) t8 s8 λc o n1 n2 n3 n4 e=>m8 c o n1 (m5 c o n1 n2 n3 n4 e)
theorem Ul {k:Nat} {u v:Value} {Q0:Fin->Shared->Prop} (hA:A0.handled=none) (S1:Src P0 w0 ia la xs p1 q1) (S2:Src P0 w0 ib lb ys p2 q2) (D:ZipApart z TI TO ia ib la lb)
  (zz:IsZip t.heap z TI TO .none) (zI:IsPair t.heap TI (.ref ia) (.ref ib)) (zO:IsPair t.heap TO u v) (a1:p1 k t.heap) (b1:q1 t.heap) (hx:xs[k]?=none)
  (fin:∀ g e,(∀ c o,c≠z->c≠TO->c≠ia->c≠ib->t.heap.get? c=some o->g.get? c=some o)->(∃ o,g.get? e=some o/\o.cls=.type "StopIteration")->E0 (.ref e) { t with heap:=g }) :
  wpAny (model P0 w0) A0 (Builtin.«zip.__next__» ⟨[.ref z],[]⟩) Q0 E0 t:=by
 show wpAny _ _ (field (.ref z) 2 >>= _) _ _ _
 refine a6w (aA0 zz rfl (x:=.bool false) rfl ?_)
 show wpAny _ _ (field (.ref z) 3 >>= _) _ _ _
 refine a6w (aA0 zz rfl (x:=.ref TI) rfl (a6w (avs zI rfl ?_)))
 show wpAny _ _ (Builtin.SmallTypes.ownedTupleIsFree (.ref z) >>= _) _ _ _
 refine a6w ?_
 unfold Builtin.SmallTypes.ownedTupleIsFree
 refine a6w (aA0 zz rfl (x:=.none) rfl (adj ?_))
 simp only [a3p]
 refine a6w (aei (a6w (aA0 zz rfl (x:=.ref TO) rfl (a6w (auT zz (by simp) λg1 z1 c1=>?_)))))
 replace z1:IsZip g1 z TI TO .ellipsis:=z1
 refine a6w ?_
 simp only [a5U,List.forIn_nil,List.zipIdx_cons,List.zipIdx_nil]
 refine a6w (a6w (wpAny_onRaise ?_))
 show wpAny _ _ (Builtin.SmallTypes.nextOf (.ref ia) >>= _) _ _ _
 refine a6w (S1.stop hA (S1.f7 a1 λo e=>c1.extBut _ o D.i1z e) (S1.j9 b1 λo e=>c1.extBut _ o D.l1z e) hx λg2 e c2 he=>?_)
 obtain ⟨oe,Dr,ce⟩:=he
 have z2:IsZip g2 z TI TO .ellipsis:=c2 _ _ D.i1z.symm z1
 have ne:e≠z:=λq=>by rw [q,z2] at Dr; cases Dr; simp at ce
 exact auT z2 (by simp) λg3 _ c3=>fin g3 e (λc o n1 _ n3 _ q=>c3.extBut _ _ n1 (c2 _ _ n3 (c1.extBut _ _ n1 q))) ⟨oe,c3.extBut _ _ ne Dr,ce⟩
theorem VU {k:Nat} {x y u v:Value} {Q0:Option Value->Shared->Prop} (S1:Src P0 w0 ia la xs p1 q1) (S2:Src P0 w0 ib lb ys p2 q2) (D:ZipApart z TI TO ia ib la lb)
  (zz:IsZip t.heap z TI TO .none) (zI:IsPair t.heap TI (.ref ia) (.ref ib)) (zO:IsPair t.heap TO u v) (a1:p1 k t.heap) (a2:p2 k t.heap) (b1:q1 t.heap) (b2:q2 t.heap) (hx:xs[k]?=some x) (hy:ys[k]?=some y)
  (fin:∀ g,IsZip g z TI TO (rawInt t.heap.objs.size)->IsPair g TO x y->p1 (k+1) g->p2 (k+1) g->IsPair g t.heap.objs.size x y->g.objs.size=t.heap.objs.size+1 ->
   (∀ c o,c≠z->c≠TO->c≠ia->c≠ib->t.heap.get? c=some o->g.get? c=some o)->Q0 (some (.ref t.heap.objs.size)) { t with heap:=g }):wpAny (model P0 w0) A0 (pyNext (.ref z)) Q0 E0 t:=by
 have ty:t.TypeIs (.ref z) "zip" := ⟨_,zz,rfl⟩
 unfold pyNext
 exact a6w (wpAny_attempt (aNk (name:=Str.ofString "__next__") ty F.slot_zip_next (aM8 F.slot_zip_next ty F.entry_zip_next (Um S1 S2 D zz zI zO a1 a2 b1 b2 hx hy λg r1 r2 r3 r4 r5 r6 r7=>adj (fin g r1 r2 r3 r4 r5 r6 r7)) (F.args_zip_next_1 _))))
theorem Wd {k:Nat} {u v:Value} {Q0:Option Value->Shared->Prop} (hA:A0.handled=none) (S1:Src P0 w0 ia la xs p1 q1) (S2:Src P0 w0 ib lb ys p2 q2) (D:ZipApart z TI TO ia ib la lb)
  (zz:IsZip t.heap z TI TO .none) (zI:IsPair t.heap TI (.ref ia) (.ref ib)) (zO:IsPair t.heap TO u v) (a1:p1 k t.heap) (b1:q1 t.heap) (hx:xs[k]?=none)
  (fin:∀ g,(∀ c o,c≠z->c≠TO->c≠ia->c≠ib->t.heap.get? c=some o->g.get? c=some o)->Q0 none { t with heap:=g }):wpAny (model P0 w0) A0 (pyNext (.ref z)) Q0 E0 t:=by
 have ty:t.TypeIs (.ref z) "zip" := ⟨_,zz,rfl⟩
 unfold pyNext
 refine a6w (wpAny_attempt (aNk (name:=Str.ofString "__next__") ty F.slot_zip_next (aM8 F.slot_zip_next ty F.entry_zip_next (Ul hA S1 S2 D zz zI zO a1 b1 hx λg e kp he=>?_) (F.args_zip_next_1 _))))
 obtain ⟨oe,ge,ce⟩:=he
 exact a6w (wpAny_isInstance (T := "StopIteration") (b:=true) ⟨oe,ge,ce⟩ isSubtype_stop (adj (fin _ kp)))
end
abbrev yG (h:Heap) (a:Addr):Heap:=h.push { cls:=.type "tuple_iterator",data:=.fields #[.ref a,.int 0 0] }
abbrev yF (h:Heap) (a b:Addr):Heap:=(yG h a).push { cls:=.type "tuple_iterator",data:=.fields #[.ref b,.int 0 0] }
abbrev yE (h:Heap) (a b:Addr):Heap:=(yF h a b).push { cls:=.type "tuple",data:=.seq #[.ref h.objs.size,.ref (yG h a).objs.size] }
abbrev yD (h:Heap) (a b:Addr):Heap:=(yE h a b).push { cls:=.type "tuple",data:=.seq #[.none,.none] }
abbrev sN (h:Heap) (a b:Addr):Heap:=(yD h a b).push { cls:=.type "zip",data:=.fields #[.none,.bool false,.bool false,.ref (yF h a b).objs.size,.ref (yE h a b).objs.size] }
theorem U5 (a b:Addr) (xs ys:Array Value) :
  Meets (Builtin.«zip.__new__» ⟨[.type "zip",.ref a,.ref b],[]⟩) (λ_ R s=>s.heap.IsTuple a xs/\s.heap.IsTuple b ys/\R (.ok (.ret (.ref (yD s.heap a b).objs.size))) { s with heap:=sN s.heap a b }) :=
 .of_wp λP0 w0 A0 R t h=>by
  obtain ⟨hp,gn,dr,tk,os⟩:=t
  obtain ⟨ta,tb,h⟩:=h
  have sub:=sub_zip
  have qa:Heap.IsTuple (Shared.heap ⟨hp,gn,dr,tk,os⟩) a xs:=ta
  have qb:Heap.IsTuple (Shared.heap ⟨hp.push { cls:=.type "tuple_iterator",data:=.fields #[.ref a,.int 0 0] },gn,dr,tk,os⟩) b ys:=Heap.IsTuple.push tb _
  wp_walk using wpAny_pyIter_tuple qa,wpAny_pyIter_tuple qb
  exact ⟨_,rfl,h⟩
theorem UU {P0:Program} {w0:World} {A0:Around} {E0:Value->Shared->Prop} {t:Shared} {a b:Addr} {xs ys:Array Value} {Q0:Value->Shared->Prop} (ta:t.heap.IsTuple a xs) (tb:t.heap.IsTuple b ys)
  (h:∀ g,IsZip g (t.heap.objs.size+4) (t.heap.objs.size+2) (t.heap.objs.size+3) .none->IsPair g (t.heap.objs.size+2) (.ref t.heap.objs.size) (.ref (t.heap.objs.size+1))->IsPair g (t.heap.objs.size+3) .none .none ->
   g.IsTupleIter t.heap.objs.size a 0->g.IsTupleIter (t.heap.objs.size+1) b 0->(∀ c o,t.heap.get? c=some o->g.get? c=some o)->Q0 (.ref (t.heap.objs.size+4)) { t with heap:=g }) :
  wpAny (model P0 w0) A0 (call (.type "zip") [.ref a,.ref b]) Q0 E0 t:=by
 refine callType_new F.called_zip (by decide) (F.typeCall_zip_2 _ _) (F.newCall_zip_2 _ _) (λobj=>F.args_object_init_3 obj _ _) F.entry_zip_new (U5 a b xs ys) ⟨ta,tb,?_⟩
 have n1:(yG t.heap a).objs.size=t.heap.objs.size+1:=aep ..
 have n2:(yF t.heap a b).objs.size=t.heap.objs.size+2:=by rw [aep,n1]
 have n3:(yE t.heap a b).objs.size=t.heap.objs.size+3:=by rw [aep,n2]
 have n4:(yD t.heap a b).objs.size=t.heap.objs.size+4:=by rw [aep,n3]
 have r5:(sN t.heap a b).get? (yD t.heap a b).objs.size=some _:=aMS _ rfl
 have r4:(sN t.heap a b).get? (yE t.heap a b).objs.size=some _:=atD _ (aMS _ rfl)
 have r3:(sN t.heap a b).get? (yF t.heap a b).objs.size=some _:=atD _ (atD _ (aMS _ rfl))
 have r2:(sN t.heap a b).get? (yG t.heap a).objs.size=some _:=atD _ (atD _ (atD _ (aMS _ rfl)))
 have r1:(sN t.heap a b).get? t.heap.objs.size=some _:=atD _ (atD _ (atD _ (atD _ (aMS _ rfl))))
 show _/\_
 rw [n2,n3,n4] at r5
 rw [n1,n2] at r3
 rw [n3] at r4
 rw [n1] at r2
 rw [n4]
 refine ⟨⟨_,r5,rfl⟩,h _ r5 r3 r4 ⟨_,r1,rfl,rfl⟩ ⟨_,r2,rfl,rfl⟩ λc o q=>?_⟩
 iterate 5 refine atD _ ?_
 exact q
def nR (K:W.Frag) (a b:Addr):It :=
 ⟨λi H=>∃ xs ys x y,bG K H a xs/\bG K H b ys/\xs[i]?=some x/\ys[i]?=some y,
 λi H v H'=>∃ t x y,H t=none/\v=.ref t/\H'=upd H t (.tup [x,y])/\(∀ xs,bG K H a xs->xs[i]?=some x)/\∀ ys,bG K H b ys->ys[i]?=some y,
 λi H=>∃ xs,bG K H a xs/\(∃ ys,bG K H b ys)/\xs.length<=i⟩
theorem UT {P:Program} {w:World} {K:W.Frag} {elts:List PySem.Expr} {x1} {pos:Pos} (z TI TO i1 i2 a b:Addr) (D:ZipApart z TI TO i1 i2 a b) :
  Turn P w K (.Tuple elts x1 pos) (nR K a b) [z,TI,TO,i1,i2] z (λi h=>IsZip h z TI TO .none/\IsPair h TI (.ref i1) (.ref i2)/\(∃ u v,IsPair h TO u v)/\h.IsTupleIter i1 a i/\h.IsTupleIter i2 b i) where
 mem:=by simp
 obj:=λi h st c hc=>by
  obtain ⟨hz,hTI,⟨u,v,hTO⟩,h1,h2⟩:=st
  simp only [asf,a6P,azq] at hc
  rcases hc with rfl | rfl | rfl | rfl | rfl
  .exact ⟨_,hz,λv e=>by cases e⟩
  .exact ⟨_,hTI,λv e=>by cases e⟩
  .exact ⟨_,hTO,λv e=>by cases e⟩
  .exact yk h1
  .exact yk h2
 keep:=λi h h' st k=>by
  obtain ⟨hz,hTI,⟨u,v,hTO⟩,h1,h2⟩:=st
  exact ⟨k z (by simp) _ hz,k TI (by simp) _ hTI,⟨u,v,k TO (by simp) _ hTO⟩,h1.at λo e=>k i1 (by simp) o e,h2.at λo e=>k i2 (by simp) o e⟩
 item:=by
  intro X hP hw hK hc i pins s σ H E I hf st hg
  subst hP hw hK
  obtain ⟨xs,ys,x,y,jR,jQ,hx,hy⟩:=hg
  obtain ⟨hz,hTI,⟨u0,v0,hTO⟩,h1,h2⟩:=st
  obtain ⟨gT,ra,pa,za⟩:=I.tuple jR
  obtain ⟨ic,rb,pb,zb⟩:=I.tuple jQ
  obtain ⟨ux,hux,BU⟩:=ra.get hx
  obtain ⟨uy,C0,BS⟩:=rb.get hy
  refine VU (Ad i1 a gT.toArray) (Ad i2 b ic.toArray) D hz hTI hTO h1 h2 (show s.heap.IsTuple a gT.toArray from pa) (show s.heap.IsTuple b ic.toArray from pb) (x:=ux) (y:=uy) (by simpa using hux) (by simpa using C0) λh' a1 a2 a3 a4 a5 a6 a7=>?_
  refine ⟨.ref s.heap.objs.size,rfl,?_⟩
  refine wpAny_letOwnedTupleGo_zip a1 λh2' hz' hs'=>?_
  have mZ:z<s.heap.objs.size:=alE hz
  have kk:∀ c o,c∉[z,TI,TO,i1,i2]->s.heap.get? c=some o->h2'.get? c=some o:=λc o hc e=>by
   simp only [asf,a6P,azq,not_or] at hc
   exact hs'.extBut c o hc.1 (a7 c o hc.1 hc.2.2.1 hc.2.2.2.1 hc.2.2.2.2 e)
  have tp:h2'.get? s.heap.objs.size=some { cls:=.type "tuple",data:=.seq #[ux,uy] }:=hs'.extBut _ _ (aky mZ) a5
  have I1:Inv X pins σ (upd H s.heap.objs.size (.tup [x,y])) { s with heap:=h2',toks:=s.toks } :=
   I.jP hf kk ⟨by show 2<=sizeLine; decide,[ux,uy],.cons BU (.cons BS .nil),⟨_,tp,rfl,_,rfl⟩⟩
  have Gu:h2'.get? TI=s.heap.get? TI:=by
   rw [hTI]
   exact hs'.extBut _ _ D.TIz (a7 _ _ D.TIz D.TITO D.TIi1 D.TIi2 hTI)
  refine ⟨.ref s.heap.objs.size,_,I1,rfl,⟨s.heap.objs.size,x,y,I.hok.fresh (aNS _),rfl,rfl,λxs' h=>by rw [I.fJ h jR]; exact hx,λys' h=>by rw [I.fJ h jQ]; exact hy⟩,⟨hz',?_,⟨ux,uy,hs'.extBut _ _ D.TOz a2⟩,a3.at λo e=>hs'.extBut _ o D.i1z e,a4.at λo e=>hs'.extBut _ o D.i2z e⟩,λc hc=>?_⟩
  .show h2'.get? TI=_
   rw [Gu]; exact hTI
  .have hc':=hc
   have hlt:c<s.heap.objs.size:=by
    simp only [asf,a6P,azq] at hc'
    rcases hc' with rfl | rfl | rfl | rfl | rfl
    .exact mZ
    .exact alE hTI
    .exact alE hTO
    .obtain ⟨o,e,_⟩:=yk h1; exact alE e
    .obtain ⟨o,e,_⟩:=yk h2; exact alE e
   rw [Zc (aOw hlt)]
   exact (hf c hc).1
 done:=by
  intro X hP hw hK hc i pins s σ H E I hf st hg
  subst hP hw hK
  obtain ⟨xs,jR,⟨ys,jQ⟩,hend⟩:=hg
  obtain ⟨hz,hTI,⟨u0,v0,hTO⟩,h1,h2⟩:=st
  obtain ⟨gT,ra,pa,za⟩:=I.tuple jR
  obtain ⟨ic,rb,pb,zb⟩:=I.tuple jQ
  have la:=ra.length
  refine Wd (I.ok.hd hc) (Ad i1 a gT.toArray) (Ad i2 b ic.toArray) D hz hTI hTO h1 (show s.heap.IsTuple a gT.toArray from pa) (by simp; lia) λh' hk=>⟨rfl,?_⟩
  refine I.gE (t':=s.toks) hf λc o hc e=>?_
  simp only [asf,a6P,azq,not_or] at hc
  exact hk c o hc.1 hc.2.2.1 hc.2.2.2.1 hc.2.2.2.2 e
 self:=λ_ _ _ _ _ st h=>aOl st.1 h
def wD (K:W.Frag) (ta:TA):TI:=λσ H R=>ta σ H λvs H1=>∃ a b,vs=[.ref a,.ref b]/\((∃ xs ys,ak K H1 a xs/\ak K H1 b ys/\R (pF K a b) H1)\/∃ xs ys,bG K H1 a xs/\bG K H1 b ys/\R (nR K a b) H1)
section
variable {X:Cx}
theorem RV {elts:List PySem.Expr} {x1} {tpos:Pos} {a b:PySem.Expr} {ta:TA} {p pos:Pos} (hg:Gl X "zip") (hm:X.mg "zip" = none) (ha:PA X [a,b] ta) (hs:starEach [a,b] X.env=[(false,eval a X.env),(false,eval b X.env)]:=by rfl) (hs2:starEach [b] X.env=[(false,eval b X.env)]:=by rfl) :
  PI X (.Tuple elts x1 tpos) (.Call (.Name "zip" p) [a,b] [] pos) (wD X.K ta):=by
 intro pins s σ H R I h
 refine Call_ (oh I hg hm KJ (aCw (kR (ha pos pins s σ H _ I h) λus s1 vs H1 I1 r1 q1=>?_) (by rw [hs,hs2]) (by rw [hs2]; rfl)))
 obtain ⟨l1,l2,e,q⟩:=q1
 subst e
 obtain ⟨v1,v2,rfl,r,r'⟩:=vals2 r1
 cases r
 cases r'
 have big:∀ c,c∈[s1.heap.objs.size+4,s1.heap.objs.size+2,s1.heap.objs.size+3,s1.heap.objs.size,s1.heap.objs.size+1]->s1.heap.objs.size<=c:=λc hc=>by
  simp only [asf,a6P,azq] at hc
  rcases hc with rfl | rfl | rfl | rfl | rfl <;> first | exact aNS _ | exact Nat.le_add_right _ _
 rcases q with ⟨xs,ys,jR,jQ,q⟩ | ⟨xs,ys,jR,jQ,q⟩
 .obtain ⟨gT,ra,pa,za⟩:=I1.list jR
  obtain ⟨ic,rb,pb,zb⟩:=I1.list jQ
  have mR:l1<s1.heap.objs.size:=by obtain ⟨o,e,_⟩:=pa.isList; exact alE e
  have qW:l2<s1.heap.objs.size:=by obtain ⟨o,e,_⟩:=pb.isList; exact alE e
  refine call_zip_2 pa.isList pb.isList λh' g5 g3 g4 g1 g2 hsz kp=>aOl g5 ?_
  exact ⟨_,[_,_,_,_,_],_,_,H1,rfl,I1.kept (t':=s1.toks) kp,KL _ _ _ _ _ l1 l2 (Ft s1.heap.objs.size l1 l2 mR qW),⟨g5,g3,⟨_,_,g4⟩,g1,g2⟩,λc hc=>I1.iT (big c hc) (I1.hok.fresh (big c hc)),q⟩
 .obtain ⟨gT,ra,pa,za⟩:=I1.tuple jR
  obtain ⟨ic,rb,pb,zb⟩:=I1.tuple jQ
  have mR:l1<s1.heap.objs.size:=zR pa
  have qW:l2<s1.heap.objs.size:=zR pb
  refine UU (show s1.heap.IsTuple l1 gT.toArray from pa) (show s1.heap.IsTuple l2 ic.toArray from pb) λh' g5 g3 g4 g1 g2 kp=>aOl g5 ?_
  exact ⟨_,[_,_,_,_,_],_,_,H1,rfl,I1.kept (t':=s1.toks) kp,UT _ _ _ _ _ l1 l2 (Ft s1.heap.objs.size l1 l2 mR qW),⟨g5,g3,⟨_,_,g4⟩,g1,g2⟩,λc hc=>I1.iT (big c hc) (I1.hok.fresh (big c hc)),q⟩
end
theorem US {K:W.Frag} {a b:Addr} {xs zs:List V} {l:Addr} {g:TG} {tc:TT} {te:TE} {σ0:St} {H0:Hp} {Qf:Hp->Prop} (hlen:xs.length=zs.length) (Pv:Nat->List V->St->Hp->Prop) (h0:Pv 0 [] σ0 H0)
  (hl:∀ i ys σ' H',i<=xs.length->Pv i ys σ' H'->bG K H' a xs/\bG K H' b zs)
  (hs:∀ i x z t ys σ' H',i<xs.length->xs[i]?=some x->zs[i]?=some z->ys.length<=i->Pv i ys σ' H'->H' t=none->g (.ref t) σ' (upd H' t (.tup [x,z])) λσ2 H3=>tc σ2 H3 λb H4=>if b=true then te σ2 H4 λy H5=>eX xs.length l Pv i ys σ2 y H5 else lJ xs.length Pv i ys σ2 H4)
  (hd:∀ ys σ' H',ys.length<=xs.length->Pv xs.length ys σ' H'->Qf H') :
  ∃ W:Nat->Nat->List V->St->Hp->Prop,(∃ m,W 0 m [] σ0 H0)/\∀ i m ys σ' H',W i m ys σ' H' ->
  ((nR K a b).stop i H'/\Qf H')\/((nR K a b).go i H'/\∀ x H2,(nR K a b).jB i H' x H2->g x σ' H2 λσ2 H3=>tc σ2 H3 λb H4 =>
    if b=true then te σ2 H4 λy H5=>H5 l=some (.lst ys)/\ys.length<sizeLine/\∃ m',m'<m/\W (i+1) m' (ys++[y]) σ2 (upd H5 l (.lst (ys++[y])))
    else ∃ m',m'<m/\W (i+1) m' ys σ2 H4):=by
 refine ⟨λi m ys σ' H'=>m=xs.length - i/\i<=xs.length/\ys.length<=i/\Pv i ys σ' H',⟨xs.length,rfl,aze _,aNS _,h0⟩,?_⟩
 rintro i m ys σ' H' ⟨rfl,hi,hy,p⟩
 obtain ⟨qa,qb⟩:=hl i ys σ' H' hi p
 by_cases hlt:i<xs.length
 .have hlt':i<zs.length:=by lia
  refine .inr ⟨⟨xs,zs,xs[i],zs[i],qa,qb,by simp [hlt],by simp [hlt']⟩,λx H2 zq=>?_⟩
  obtain ⟨t,u,v,ht,rfl,rfl,z1,z2⟩:=zq
  exact hs i u v t ys σ' H' hlt (z1 xs qa) (z2 zs qb) hy p ht
 .have e:i=xs.length:=by lia
  subst e
  exact .inl ⟨⟨xs,qa,⟨zs,qb⟩,aNS _⟩,hd ys σ' H' hy p⟩
section
variable {X:Cx} {K:W.Frag} {tg:PySem.Expr}
theorem oj (hK:X.K=K) {l:PySem.Expr} {tl:TE} (hl:PE X l tl):PI X tg l (qf K tl):=hK ▸ RE hl
theorem RU (hK:X.K=K) {l:PySem.Expr} {tl:TE} (hl:PE X l tl):PI X tg l (wF K tl):=hK ▸ Rw hl
end
section
variable {X:Cx}
theorem UR (hc:X.calm=true):aU X (.builtin "any") (λxs H Q=>∃ (p:Addr) (bs:List Bool),xs=[.ref p]/\ak X.K H p (bs.map V.bl)/\Q (.bl (bs.any id)) H):=by
 intro pins s σ H xs us Q I r h
 obtain ⟨p,bs,rfl,hq,q⟩:=h
 obtain ⟨u,rfl,rx⟩:=vals1 r
 cases rx
 obtain ⟨its,rv,pl,hz⟩:=I.list hq
 have e:=Fo rv
 subst e
 refine call_any_walk (abu pl.isList ?_)
 refine ⟨s.heap.objs.size,_,[s.heap.objs.size],_,_,_,λi=>bs.getD i true,rfl,Walks.list (A:=X.A.in1) (show X.A.in1.handled=none from I.ok.hd hc) s.heap.objs.size p ?_ (bs.map Value.bool).toArray,⟨⟨_,aMS _ rfl,rfl,rfl⟩,pl.isList.at λo e=>atD _ e⟩,?_,?_⟩
 .obtain ⟨o,e,_⟩:=pl.isList; exact aOw (alE e)
 .intro i v s' Q' E' hP hQ
  have k9:(bs.map Value.bool)[i]?=some v:=by simpa using hP
  rw [aYu] at k9
  cases z:bs[i]? with
  | none=>rw [z] at k9; cases k9
  | some b =>
   rw [z] at k9
   cases k9
   have:bs.getD i true=b:=by rw [aPI,z]; rfl
   have wY:Q' (bs.getD i true) s':=hQ
   rw [this] at wY
   exact a3o wY
 .intro h' tk hk
  refine ⟨.bl (bs.any id),H,I.kept (t':=tk) (λb o e=>hk b o (by simpa using aOw (alE e)) (atD _ e)),?_,q⟩
  have z:(List.range bs.length).map (λi=>bs.getD i true)=bs:=LU _ λi b e=>by rw [aPI,e]; rfl
  have z2:(List.range bs.length).any (λi=>bs.getD i true)=bs.any id:=by
   conv=>rhs; rw [← z]
   rw [any_map]; rfl
  show Value.bool _=Value.bool _
  have z3:(bs.map Value.bool).toArray.size=bs.length:=by simp
  rw [z3,z2]
end
theorem UQ:bootBuiltins "set" = some (.type "set"):=by first | rfl | decide +kernel | kernel_rfl
section
variable {X:Cx} {K:W.Frag}
theorem UP:aU X (.builtin "len") (λxs H Q=>∃ (p:Addr) (S:Int->Bool) (n:Nat),xs=[.ref p]/\H p=some (.set S n)/\Q (.int n) H):=by
 intro pins s σ H xs us Q I r h
 obtain ⟨p,S,n,rfl,hp,q⟩:=h
 obtain ⟨u,rfl,rx⟩:=vals1 r
 cases rx
 obtain ⟨o,es,ep,t,ho,hex,hd,_,_,hlt,hf,rfl⟩:=(show s.heap.SetOf (intKind X.prog X.w) p S n from I.hok p _ hp)
 refine call_len_set ho hex hd hf ?_ ⟨.int _,H,I.tok _,⟨_,rfl⟩,q⟩
 have:es.size<4096:=hlt
 lia
def gM (xs:List V) (lo hi st:Option Int):List V:=(sliceRange (sliceBounds lo hi st xs.length).1 (sliceBounds lo hi st xs.length).2.1 (sliceBounds lo hi st xs.length).2.2).filterMap (xs[·]?)
theorem Fj {xs:List V} {us:List Value} (r:Vals xs us):∀ l:List Nat,Vals (l.filterMap (xs[·]?)) (l.filterMap (us[·]?))
 | []=>.nil
 | i :: l=>by
  rw [abt,abt]
  cases e:xs[i]? with
  | none=>rw [r.none_of e]; exact Fj r l
  | some x =>
   obtain ⟨u,hu,ru⟩:=r.get e
   rw [hu]
   exact .cons ru (Fj r l)
def Bw (K:W.Frag) (te:TE) (tl th ts:TO):TE:=λσ H Q=>te σ H λx H1=>tl σ H1 λl H2=>th σ H2 λu H3=>ts σ H3 λst H4=>∃ a xs,x=.ref a/\ak K H4 a xs/\st≠some 0/\(gM xs l u st).length<=sizeLine/\∀ p,H4 p=none->Q (.ref p) (upd H4 p (.lst (gM xs l u st)))
theorem xY {e:PySem.Expr} {te:TE} {lo hi:Option PySem.Expr} {st:PySem.Expr} {tl th ts:TO} {p2 pos:Pos} (hK:X.K=K) (he:PE X e te) (hl:PO X lo tl) (hu:PO X hi th) (hst:PO X (some st) ts):PE X (.Subscript e (.Slice lo hi (some st) p2) pos) (Bw K te tl th ts):=by
 subst hK
 intro pins s σ H Q I h
 refine Subscript_ (cT (he pins s σ H _ I h) λv s1 x H1 I1 r1 q1=>?_)
 refine wpAny_Slice (bH (hl pins s1 σ H1 _ I1 q1) λvl s2 ⟨l,H2,I2,pl,q2⟩=>bH (hu pins s2 σ H2 _ I2 q2) λvu s3 ⟨u,H3,I3,pu,q3⟩=>bH (hst pins s3 σ H3 _ I3 q3) λvs s4 ⟨so,H4,I4,ps,q4⟩=>?_)
 obtain ⟨a,xs,rfl,hx,h0,hz,q⟩:=q4
 cases r1
 have I5:Inv X pins σ H4 { s4 with heap:=s4.heap.push { cls:=.type "slice",data:=.fields #[vl,vu,vs] } }:=I4.kept (t':=s4.toks) λb ob q=>atD _ q
 obtain ⟨its,r,ht,Xm⟩:=I5.list hx
 have hlen:=r.length
 show wpAny (model X.prog X.w) X.A (subscriptTail e (.Slice lo hi (some st) p2) (.ref a) (.ref s4.heap.objs.size)) (EP X pins σ Q) X.xe { s4 with heap:=s4.heap.push { cls:=.type "slice",data:=.fields #[vl,vu,vs] } }
 refine tail_any (ops:=[.ref a,.ref s4.heap.objs.size]) ht.isList.typeIs slot_list_getitem.lookup (wpAny_getItem_list_slice ht.isList (Heap.IsSliceOf.new ..) pl pu ps h0 ?_ (by rw [a5A] <;> lia)) (by with_unfolding_all rfl)
 refine ⟨.ref _,_,I5.laid (t':=s4.toks) (o:=.lst (gM xs l u so)) (λb ob q=>atD _ q) (aNS _) ?_,rfl,q _ (I5.hok.fresh (aNS _))⟩
 refine ⟨hz,_,0,Fj r (sliceRange (sliceBounds l u so xs.length).1 (sliceBounds l u so xs.length).2.1 (sliceBounds l u so xs.length).2.2),?_⟩
 have e2:slicePick its.toArray l u so=((sliceRange (sliceBounds l u so xs.length).1 (sliceBounds l u so xs.length).2.1 (sliceBounds l u so xs.length).2.2).filterMap (its[·]?)).toArray:=by
  unfold slicePick
  rw [a5A,← hlen]
  congr 1
  refine a0A (λf=>List.filterMap f _) ?_
  funext i
  simp
 rw [e2]
 exact aMS _ rfl
end
def lH (hi:Int) (n:Nat):It:=⟨λi _=>i<n,λi H x H'=>H'=H/\x=.int (hi - i),λi _=>n<=i⟩
theorem UO {P:Program} {w:World} {K:W.Frag} {tg:PySem.Expr} (it:Addr) (lo:Int) (n:Nat):Turn P w K tg (lH lo n) [it] it (λi h=>IsRangeIter h it (lo+(i:Nat) * (-1)) ((n:Int) - (i:Nat)) (-1)) where
 mem:=by simp
 obj:=λi h st b hb=>by
  have e:b=it:=by simpa using hb
  subst e
  exact ⟨_,st,λv z=>by
   have z':Data.fields _=Data.cell v:=z
   cases z'⟩
 keep:=λi h h' st k=>k it (by simp) _ st
 item:=by
  intro X hP hw hK hc i pins s σ H E I hf st hg
  subst hP hw hK
  obtain ⟨f0,f1,f2,f3,f4,f5⟩:=hf it (by simp)
  have W:=Walks.range (prog:=X.prog) (w:=X.w) (I.ok.hd hc) it lo (-1) n
  refine W.item i s _ _ hg st λv h' tk hv st' kk=>?_
  obtain ⟨t,rfl⟩:=hv
  have I1:Inv X pins σ H { s with heap:=h',toks:=tk }:=I.turned (λb o hb e=>kk b o (by simpa using hb) e) f0 f1 f3 f4 f5
  refine ⟨_,rfl,kE (s:={ s with heap:=h',toks:=tk }) (n := "range_iterator") st' rfl rfl (by decide) ⟨.int (lo - i),H,I1,⟨t,?_⟩,⟨rfl,rfl⟩,st',λb hb=>(hf b hb).1⟩⟩
  rw [show lo+(i:Int) * (-1)=lo - i by lia]
 done:=by
  intro X hP hw hK hc i pins s σ H E I hf st hg
  subst hP hw hK
  obtain ⟨f0,f1,f2,f3,f4,f5⟩:=hf it (by simp)
  exact wpAny_pyNext_range_end (I.ok.hd hc) st (by have:n<=i:=hg; lia) λh' eb=>⟨rfl,I.turned (t':=s.toks) (λb o hb e=>eb b o hb e) f0 f1 f3 f4 f5⟩
 self:=λ_ _ _ _ _ st h=>wpAny_pyIter_rangeiter st h
section
variable {X:Cx} {tg:PySem.Expr}
theorem UN {pins:List (Addr×Obj)} {σ:St} {H:Hp} {s:Shared} {R:It->Hp->Prop} {E:Value->Shared->Prop} {lo hi:Int} {t u v:Tok} {tk:Nat} (I:Inv X pins σ H s) (h1 : -(2 ^ 62)<=lo) (h2:lo<2 ^ 62) (h3 : -(2 ^ 62)<=hi) (h4:hi<2 ^ 62)
  (q:R (lH lo (lo - hi).toNat) H):wpAny (model X.prog X.w) X.A (pyIter (.ref s.heap.objs.size)) (Gx X pins σ tg R) E { s with heap:=s.heap.push { cls:=.type "range",data:=.fields #[.int lo t,.int hi u,.int (-1) v] },toks:=tk }:=by
 refine wpAny_pyIter_range (IsRange.new ..) (W.small_down h1 h2 h3 h4) ?_
 have I1:Inv X pins σ H { s with heap:=s.heap.push { cls:=.type "range",data:=.fields #[.int lo t,.int hi u,.int (-1) v] },toks:=tk }:=I.kept λb o e=>atD _ e
 refine ⟨(s.heap.push { cls:=.type "range",data:=.fields #[.int lo t,.int hi u,.int (-1) v] }).objs.size,[(s.heap.push { cls:=.type "range",data:=.fields #[.int lo t,.int hi u,.int (-1) v] }).objs.size],_,_,H,rfl,
  I1.kept (t':=tk) λb o e=>atD _ e,UO _ lo (lo - hi).toNat,?_,λb hb=>?_,q⟩
 .have e1:lo+((0:Nat):Int) * (-1)=lo:=by simp
  have e2:(((lo - hi).toNat:Nat):Int) - ((0:Nat):Int)=Builtin.Range.rangeSize lo hi (-1):=by rw [W.rangeSize_downNat]; lia
  show IsRangeIter _ _ (lo+((0:Nat):Int) * (-1)) ((((lo - hi).toNat:Nat):Int) - ((0:Nat):Int)) (-1)
  rw [e1,e2]
  exact aMS _ rfl
 .have e:b=(s.heap.push { cls:=.type "range",data:=.fields #[.int lo t,.int hi u,.int (-1) v] }).objs.size:=by simpa using hb
  subst e
  exact I1.iT (aNS _) (I1.hok.fresh (aNS _))
def wG (ta:TA):TI:=λσ H R=>ta σ H λvs H1=>∃ i j:Int,vs=[.int i,.int j,.int (-1)]/\(-(2 ^ 61)<=i/\i<2 ^ 61 /\ -(2 ^ 61)<=j/\j<2 ^ 61)/\R (lH i (i - j).toNat) H1
theorem Fi {a b c:PySem.Expr} {ta:TA} {p pos:Pos} (hg:Gl X "range") (hm:X.mg "range" = none) (ha:PA X [a,b,c] ta) (hs:starEach [a,b,c] X.env=(false,eval a X.env) :: starEach [b,c] X.env:=by rfl) (hpl:(backTo pos (starEach [b,c] X.env)).any (·.1)=false:=by rfl) :
  PI X tg (.Call (.Name "range" p) [a,b,c] [] pos) (wG ta):=by
 intro pins s σ H R I h
 refine Call_ (oh I hg hm boot_range (aCw (kR (ha pos pins s σ H _ I h) λus s1 vs H1 I1 r1 q1=>?_) hs hpl))
 obtain ⟨i,j,e,⟨q1,q2,q3,q4⟩,q⟩:=q1
 subst e
 cases r1 with
 | cons r rr =>
  cases rr with
  | cons r' rr =>
   cases rr with
   | cons r'' rr =>
    cases rr
    obtain ⟨t,rfl⟩:=r
    obtain ⟨t',rfl⟩:=r'
    obtain ⟨t'',rfl⟩:=r''
    exact call_range_3 (by decide) (UN I1 (by lia) (by lia) (by lia) (by lia) q) (.inl (aRg (by lia)))
end
theorem Rf {H:Hp} {a:Addr} {o:HO} (h:H a=some o):upd H a o=H:=by
 funext b
 by_cases e:b=a
 .rw [e,Za,h]
 .rw [Zc e]
theorem EW {hi:Int} {n:Nat} {g:TG} {tb:TS} {D:Ends} {σ:St} {H:Hp} (Pv:Nat->St->Hp->Prop) (h0:Pv 0 σ H)
  (hs:∀ i σ H,i<n->Pv i σ H->g (.int (hi - i)) σ H λσ2 H2=>tb { D with nx:=Pv (i+1),ct:=Pv (i+1),bk:=D.nx } σ2 H2) (hd:∀ σ H,Pv n σ H->D.nx σ H) :
  ∃ W:Nat->Nat->St->Hp->Prop,(∃ m,W 0 m σ H)/\∀ i m σ H,W i m σ H ->
   ((lH hi n).stop i H/\D.nx σ H)\/((lH hi n).go i H/\∃ N:St->Hp->Prop,(∀ σ' H',N σ' H'->∃ m',m'<m/\W (i+1) m' σ' H')/\∀ x H',(lH hi n).jB i H x H'->g x σ H' λσ2 H2=>tb { D with nx:=N,ct:=N,bk:=D.nx } σ2 H2):=by
 refine ⟨λi m σ H=>m=n - i/\i<=n/\Pv i σ H,⟨n,by simp,aze _,h0⟩,?_⟩
 rintro i m σ H ⟨rfl,hi,p⟩
 by_cases hlt:i<n
 .refine .inr ⟨hlt,Pv (i+1),λσ' H' p'=>⟨n - (i+1),by lia,rfl,hlt,p'⟩,λx H' y=>?_⟩
  obtain ⟨e,y⟩:=y
  subst e y
  exact hs i σ _ hlt p
 .have e:i=n:=by lia
  subst e
  exact .inl ⟨aNS _,hd σ H p⟩
theorem Me (xs:List V):∀ n,n<=xs.length->((List.range n).map λi=>n - 1 - i).filterMap (xs[·]?)=(xs.take n).reverse
 | 0,_=>by simp
 | n+1,h=>by
  have hn:n<xs.length:=h
  have ih:=Me xs n (by lia)
  rw [List.range_succ_eq_map,aWO,aPs,abt]
  have e0:n+1 - 1 - 0=n:=by lia
  rw [e0,aDi hn]
  have e1:(List.range n).map ((λi=>n+1 - 1 - i) ∘ Nat.succ)=(List.range n).map λi=>n - 1 - i:=by
   refine ars λi _=>?_
   show n+1 - 1 - (i+1)=n - 1 - i
   lia
  rw [e1,ih,avq,aDi hn,aPA]
  rfl
theorem uD (xs:List V):gM xs none none (some (-1))=xs.reverse:=by
 have h:=Me xs xs.length (aNS _)
 rw [afX] at h
 rw [← h,← W.krv_sliceRange]
 rfl
theorem Kh {K:W.Frag} {a b:Addr} {xs ys:List V} {g:TG} {tb:TS} {D:Ends} {σ:St} {H:Hp} (Pv:Nat->St->Hp->Prop) (hlen:xs.length=ys.length) (h0:Pv 0 σ H) (hl:∀ i σ H,i<=xs.length->Pv i σ H->ak K H a xs/\ak K H b ys)
  (hs:∀ i x y t σ H,xs[i]?=some x->ys[i]?=some y->Pv i σ H->H t=none->g (.ref t) σ (upd H t (.tup [x,y])) λσ2 H2=>tb { D with nx:=Pv (i+1),ct:=Pv (i+1),bk:=D.nx } σ2 H2) (hd:∀ σ H,Pv xs.length σ H->D.nx σ H) :
  ∃ W:Nat->Nat->St->Hp->Prop,(∃ m,W 0 m σ H)/\∀ i m σ H,W i m σ H ->
   ((pF K a b).stop i H/\D.nx σ H)\/((pF K a b).go i H/\∃ N:St->Hp->Prop,(∀ σ' H',N σ' H'->∃ m',m'<m/\W (i+1) m' σ' H')/\∀ x H',(pF K a b).jB i H x H'->g x σ H' λσ2 H2=>tb { D with nx:=N,ct:=N,bk:=D.nx } σ2 H2):=by
 refine ⟨λi m σ H=>m=xs.length - i/\i<=xs.length/\Pv i σ H,⟨xs.length,by simp,aze _,h0⟩,?_⟩
 rintro i m σ H ⟨rfl,hi,p⟩
 obtain ⟨q1,q2⟩:=hl i σ H hi p
 by_cases hlt:i<xs.length
 .have C7:i<ys.length:=hlen ▸ hlt
  refine .inr ⟨⟨xs,ys,xs[i],ys[i],q1,q2,by simp [hlt],by simp [C7]⟩,Pv (i+1),λσ' H' p'=>⟨xs.length - (i+1),by lia,rfl,hlt,p'⟩,λx H' y=>?_⟩
  obtain ⟨t,x1,y1,ht,rfl,rfl,hx,hy⟩:=y
  exact hs i x1 y1 t σ _ (hx xs q1) (hy ys q2) p ht
 .have e:i=xs.length:=by lia
  subst e
  exact .inl ⟨⟨xs,ys,q1,q2,.inl (aNS _)⟩,hd σ H p⟩
end L2
namespace L2.Mf
open PySem PySem.Spec PyProof.Rows
def Rk (ρ:Keyed->Nat) (xs:Array Keyed) (i:Nat):Nat:=(xs[i]?).elim 0 ρ
theorem xV {ρ:Keyed->Nat} {xs ys:Array Keyed} {i j:Nat} (h:xs[i]?=ys[j]?):Rk ρ xs i=Rk ρ ys j:=by unfold Rk; rw [h]
def eW (ρ:Keyed->Nat) (xs:Array Keyed) (i j:Nat):Prop:=K xs i<K xs j\/(K xs i=K xs j/\Rk ρ xs i<Rk ρ xs j)
theorem eW.trans {ρ:Keyed->Nat} {xs:Array Keyed} {i j k:Nat} (h1:eW ρ xs i j) (h2:eW ρ xs j k):eW ρ xs i k:=by
 unfold eW at *
 lia
def jE (ρ:Keyed->Nat) (xs:Array Keyed) (n:Nat):Prop:=∀ i j,i<j->j<n->eW ρ xs i j
def Dec (ρ:Keyed->Nat) (xs:Array Keyed) (n:Nat):Prop:=∀ i j,i<j->j<n->eW ρ xs j i
def fR (ρ:Keyed->Nat) (xs:Array Keyed) (n:Nat):Prop:=∀ i,n<=i->i<xs.size->Rk ρ xs i=i
theorem fR.mono {ρ:Keyed->Nat} {xs:Array Keyed} {m n:Nat} (h:fR ρ xs m) (l:m<=n):fR ρ xs n:=λi hi hs=>h i (ay9 l hi) hs
theorem zP {ρ:Keyed->Nat} {xs:Array Keyed} {i:Nat} (h:i<xs.size):(xs.toList.map ρ)[i]?=some (Rk ρ xs i):=by
 unfold Rk
 rw [aYu,aek,a8g h]
 rfl
structure Inj (ρ:Keyed->Nat) (xs:Array Keyed):Prop where
 inj:∀ i j,i<xs.size->j<xs.size->Rk ρ xs i=Rk ρ xs j->i=j
 lt:∀ i,i<xs.size->Rk ρ xs i<xs.size
theorem Rc {ρ:Keyed->Nat} {xs a₀:Array Keyed} (p:xs.Perm a₀) (h0:fR ρ a₀ 0):Inj ρ xs:=by
 have e0:a₀.toList.map ρ=List.range a₀.size:=by
  apply a1R
  intro i
  by_cases h:i<a₀.size
  .rw [zP h,ahO h,h0 i (aze _) h]
  .rw [aRn (by simpa using h),aRn (by simpa using h)]
 have pm:(xs.toList.map ρ).Perm (List.range a₀.size):=by rw [← e0]; exact (aH7.mp p).map ρ
 have nd:(xs.toList.map ρ).Nodup:=pm.nodup_iff.mpr nodup_range
 refine ⟨λi j hi hj e=>?_,λi hi=>?_⟩
 .refine (List.getElem?_inj (by rw [aAt,aHK]; exact hi) nd).mp ?_
  rw [zP hi,zP hj,e]
 .have m:Rk ρ xs i∈xs.toList.map ρ:=abg (zP hi)
  have:=aEj.mp (pm.mem_iff.mp m)
  rw [p.size_eq]
  exact this
theorem Inj.below {ρ:Keyed->Nat} {xs:Array Keyed} (I:Inj ρ xs) {n:Nat} (h:fR ρ xs n) {i:Nat} (hi:i<n) (hs:i<xs.size):Rk ρ xs i<n:=by
 by_cases c:Rk ρ xs i<n
 .exact c
 .have l:=I.lt i hs
  have e:=h (Rk ρ xs i) (by lia) l
  have:=I.inj _ _ l hs e
  lia
theorem Fg {ρ:Keyed->Nat} {xs:Array Keyed} {src d:Nat} (hs:src<xs.size) (hd:d<=src) (k:Nat) :
  Rk ρ (bubble xs src d) k=if k=src - d then Rk ρ xs src else if src - d<k/\k<=src then Rk ρ xs (k - 1) else Rk ρ xs k:=by
 have e:=getElem?_bubble hs d hd k
 by_cases h1:k=src - d
 .rw [atn h1] at e ⊢
  exact xV e
 .rw [amU h1] at e ⊢
  by_cases h2:src - d<k/\k<=src
  .rw [atn h2] at e ⊢
   exact xV e
  .rw [amU h2] at e ⊢
   exact xV e
theorem o8 {ρ:Keyed->Nat} {xs:Array Keyed} {i j:Nat} (hj:j<=xs.size) (k:Nat) :
  Rk ρ (mirror xs i j ((j - i) / 2)) k=if i<=k/\k<j then Rk ρ xs (i+j - 1 - k) else Rk ρ xs k:=by
 have e:=getElem?_mirror_all (i:=i) hj k
 by_cases h1:i<=k/\k<j
 .rw [atn h1] at e ⊢
  exact xV e
 .rw [amU h1] at e ⊢
  exact xV e
section
variable {prog:Program} {w:World} {A:Around} {E:Value->Shared->Prop} {s:Shared} {a₀:Array Keyed} {ρ:Keyed->Nat}
theorem SB.inj {st:SortSt} (h:SBase a₀ st) (hr:fR ρ a₀ 0):Inj ρ (arrOf st):=Rc h.perm hr
theorem Rb {st:SortSt} {n ok:Nat} {Q:Bool->SortSt->Prop} (h0:IntKeys a₀) (hr:fR ρ a₀ 0) (hn:n<=a₀.size) (hok:ok<=n) (Ph:1<=ok) (hB:SBase a₀ st) (hs:jE ρ (arrOf st) ok) (hI:fR ρ (arrOf st) ok)
  (h:∀ st',SBase a₀ st'->jE ρ (arrOf st') n->Q true st'):wpS (model prog w) A E s (binarySort' 0 n ok) Q st:=by
 rw [binarySort'_eq]
 simp only [aPW]
 refine a5F (bca (aub (I:=λk c st1=>c=(none,())/\SBase a₀ st1/\jE ρ (arrOf st1) (min k n)/\fR ρ (arrOf st1) (min k n))
  (Q:=λc st1=>c=(none,())/\SBase a₀ st1/\jE ρ (arrOf st1) n) ?turn ?last ?first) ?after)
 case after =>
  rintro c st1 ⟨rfl,b1,i1⟩
  exact aju (h st1 b1 i1)
 case first =>
  rw [show min (max ok 1) n=ok by lia]
  exact ⟨rfl,hB,hs,hI⟩
 case last =>
  rintro c st1 ⟨hc,b1,i1,_⟩
  rw [show min (max (max ok 1) n) n=n by lia] at i1
  exact ⟨hc,b1,i1⟩
 case turn =>
  rintro k c st1 Pb hkn ⟨rfl,b1,i1,d1⟩
  rw [show min k n=k by lia] at i1 d1
  have hk:k<a₀.size:=by lia
  have sz:=b1.size
  have J:=SB.inj b1 hr
  have rk:Rk ρ (arrOf st1) k=k:=d1 k (aNS _) (by lia)
  have lo:∀ m,m<k->¬ K (arrOf st1) k<K (arrOf st1) m->eW ρ (arrOf st1) m k:=λm hm c=>by
   have:=J.below d1 hm (by lia)
   unfold eW
   lia
  refine a5F (bca (aub (I:=λx c st2=>st2=st1/\∃ l r,c=(none,l,r)/\l<=r/\r<=k/\r - l<=k - x/\(∀ i,i<l->eW ρ (arrOf st1) i k)/\(∀ i,r<=i->i<k->eW ρ (arrOf st1) k i))
   (Q:=λc st2=>st2=st1/\∃ l r,c=(none,l,r)/\l<=k/\(∀ i,i<l->eW ρ (arrOf st1) i k)/\(∀ i,l<=i->i<k->eW ρ (arrOf st1) k i)) ?iturn ?ilast ?ifirst) ?iafter)
  case ifirst=>exact ⟨rfl,0,k,rfl,by lia,by lia,by lia,λi hi=>absurd hi (by lia),λi p q=>absurd q (by lia)⟩
  case ilast =>
   rintro c st2 ⟨rfl,l,r,rfl,hlr,hrk,hm,u1,u2⟩
   have e:l=r:=by lia
   subst e
   exact ⟨rfl,l,l,rfl,hrk,u1,u2⟩
  case iturn =>
   rintro x c st2 _ hxk ⟨rfl,l,r,rfl,hlr,hrk,hm,u1,u2⟩
   dsimp only
   by_cases hge:l ≥ r
   .rw [atn hge]
    have e:l=r:=by lia
    subst e
    exact aju ⟨rfl,l,l,rfl,hrk,u1,u2⟩
   .rw [amU hge]
    refine a5F (wpS_ltK b1 h0 hk (by lia) ?_)
    by_cases c:K (arrOf st2) k<K (arrOf st2) ((l+r) / 2)
    .simp only [c,a2G,a3p]
     refine aju ⟨rfl,l,(l+r) / 2,rfl,by lia,by lia,by lia,u1,λi p q=>?_⟩
     by_cases e:i=(l+r) / 2
     .subst e; exact .inl c
     .exact eW.trans (.inl c) (i1 _ _ (by lia) q)
    .simp only [c,aIt,arS,aEJ]
     refine aju ⟨rfl,(l+r) / 2+1,r,rfl,by lia,by lia,by lia,λi p=>?_,u2⟩
     have v:=lo _ (by lia) c
     by_cases e:i=(l+r) / 2
     .subst e; exact v
     .exact eW.trans (i1 _ _ (by lia) (by lia)) v
  case iafter =>
   rintro c st2 ⟨rfl,l,r,rfl,hlk,u1,u2⟩
   show wpS _ _ _ _ (do moveDown' k l; pure (ForInStep.yield (none,()))) _ _
   rw [moveDown'_eq]
   refine a5F (aQM (aju ⟨rfl,b1.setArr (bubble_perm _ _ _),?_,?_⟩))
   .rw [show min (k+1) n=k+1 by lia]
    have hks:k<(arrOf st2).size:=by lia
    intro i j hij hj
    show eW ρ (bubble (arrOf st2) k (k - l)) i j
    unfold eW
    rw [K_bubble hks (by lia),K_bubble hks (by lia),Fg hks (by lia),Fg hks (by lia),show k - (k - l)=l by lia]
    by_cases a1:i=l
    .have qu:¬ j=l:=by lia
     have Ir:l<j/\j<=k:=by lia
     rw [atn a1,atn a1,amU qu,amU qu,atn Ir,atn Ir]
     exact u2 _ (by lia) (by lia)
    .rw [amU a1,amU a1]
     by_cases a2:j=l
     .have qu:¬ (l<i/\i<=k):=by lia
      rw [atn a2,atn a2,amU qu,amU qu]
      exact u1 _ (by lia)
     .rw [amU a2,amU a2]
      by_cases a3:l<i/\i<=k
      .have qu:l<j/\j<=k:=by lia
       rw [atn a3,atn a3,atn qu,atn qu]
       exact i1 _ _ (by lia) (by lia)
      .rw [amU a3,amU a3]
       by_cases a4:l<j/\j<=k
       .rw [atn a4,atn a4]
        by_cases a5:i<j - 1
        .exact i1 _ _ a5 (by lia)
        .exfalso; lia
       .rw [amU a4,amU a4]
        exact i1 _ _ (by lia) (by lia)
   .rw [show min (k+1) n=k+1 by lia]
    intro i hi hs'
    have hs2:i<(arrOf st2).size:=by
     have:(arrOf (setArr st2 (bubble (arrOf st2) k (k - l)))).size=(arrOf st2).size:=bubble_size _ _ _
     lia
    show Rk ρ (bubble (arrOf st2) k (k - l)) i=i
    rw [Fg (by lia) (by lia),amU (by lia),amU (by lia)]
    exact d1 i (by lia) hs2
theorem Jd {st:SortSt} {a nrem:Nat} {Q:AscSt->SortSt->Prop} (h0:IntKeys a₀) (hr:fR ρ a₀ 0) (hn:nrem<=a₀.size) (ha:1<=a) (han:a<=nrem) (hB:SBase a₀ st) (hs:jE ρ (arrOf st) a) (hI:fR ρ (arrOf st) a)
  (h:∀ n,a<=n->n<=nrem->jE ρ (arrOf st) n->(n=nrem\/K (arrOf st) n<K (arrOf st) (n - 1))->Q (none,n) st):wpS (model prog w) A E s (ascLoop a nrem) Q st:=by
 unfold ascLoop
 have sz:=hB.size
 have J:=SB.inj hB hr
 refine aub (I:=λx c st1=>st1=st/\c=(none,x)/\jE ρ (arrOf st) x) ?turn ?last ⟨rfl,rfl,hs⟩
 case last =>
  rintro c st1 ⟨rfl,rfl,i1⟩
  rw [show max a nrem=nrem by lia] at i1 ⊢
  exact h nrem han (aNS _) i1 (.inl rfl)
 case turn =>
  rintro x c st1 hax hxn ⟨rfl,rfl,i1⟩
  dsimp only
  refine a5F (wpS_ltK hB h0 (by lia) (by lia) ?_)
  by_cases c:K (arrOf st1) x<K (arrOf st1) (x - 1)
  .simp only [c,a2G,a3p]
   exact aju (h x hax (by lia) i1 (.inr c))
  .simp only [c,aIt,arS,aEJ]
   refine aju ⟨rfl,rfl,λi j hij hj=>?_⟩
   by_cases hjx:j<x
   .exact i1 i j hij hjx
   .have ej:j=x:=by lia
    subst ej
    have dx:=hI.mono hax
    have r1:=J.below dx (i:=j - 1) (by lia) (by lia)
    have r2:=dx j (aNS _) (by lia)
    have v:eW ρ (arrOf st1) (j - 1) j:=by unfold eW; lia
    by_cases e:i=j - 1
    .subst e; exact v
    .exact eW.trans (i1 i (j - 1) (by lia) (by lia)) v
theorem Kf {st:SortSt} {n nrem:Nat} {Q:Option Nat->SortSt->Prop} (h0:IntKeys a₀) (hr:fR ρ a₀ 0) (hn:nrem<=a₀.size) (h1:1<=n) (hnn:n<=nrem) (hB:SBase a₀ st) (hs:Dec ρ (arrOf st) n) (hI:fR ρ (arrOf st) n)
  (h:∀ m st',SBase a₀ st'->1<=m->m<=nrem->jE ρ (arrOf st') m->fR ρ (arrOf st') m->Q (some m) st'):wpS (model prog w) A E s (tail3 n nrem) Q st:=by
 unfold tail3
 have sz:=hB.size
 refine a5F (a6s ?_)
 have b1:SBase a₀ (setArr st (mirror (arrOf st) 0 n ((n - 0) / 2))):=hB.setArr (aZv _ _ _ _)
 have d1:fR ρ (mirror (arrOf st) 0 n ((n - 0) / 2)) n:=λi hi hs'=>by
  rw [mirror_size] at hs'
  rw [o8 (by lia),amU (by lia)]
  exact hI i hi hs'
 refine a5F (Jd h0 hr hn h1 hnn b1 ?_ d1 λm m1 m2 i2 _=>aju (h m _ b1 (by lia) m2 i2 (d1.mono m1)))
 intro i j hij hj
 show eW ρ (mirror (arrOf st) 0 n ((n - 0) / 2)) i j
 unfold eW
 rw [K_mirror (by lia),K_mirror (by lia),o8 (by lia),o8 (by lia),atn (by lia),atn (by lia),atn (by lia),atn (by lia)]
 exact hs _ _ (by lia) (by lia)
structure DI (ρ:Keyed->Nat) (xs:Array Keyed) (x q:Nat):Prop where
 l:q+1<=x
 sz:x<=xs.size
 d:Dec ρ xs (x - (q+1))
 u:∀ i j,i<x - (q+1)->x - (q+1)<=j->j<x->K xs j<K xs i
 e:∀ i,x - (q+1)<=i->i<x->K xs i=K xs (x - 1)
 f:fR ρ xs (x - (q+1))
theorem DI.xu {xs:Array Keyed} {x:Nat} (h:DI ρ xs x 0):Dec ρ xs x:=λi j hij hj=>by
 by_cases c:j<x - (0+1)
 .exact h.d i j hij c
 .exact .inl (h.u i j (by lia) (by lia) hj)
theorem DI.rev {xs:Array Keyed} {x q:Nat} (h:DI ρ xs x q):Dec ρ (mirror xs (x - (q+1)) x ((x - (x - (q+1))) / 2)) x/\fR ρ (mirror xs (x - (q+1)) x ((x - (x - (q+1))) / 2)) x:=by
 have hl:=h.l
 have hz:=h.sz
 refine ⟨λi j hij hj=>?_,λi hi hs=>?_⟩
 .have ke:=K_mirror_equal (i:=x - (q+1)) hz h.e
  unfold eW
  rw [ke,ke,o8 hz,o8 hz]
  by_cases c1:j<x - (q+1)
  .rw [amU (by lia),amU (by lia)]
   exact h.d i j hij c1
  .by_cases c2:i<x - (q+1)
   .exact .inl (h.u i j c2 (by lia) hj)
   .rw [atn (by lia),atn (by lia)]
    refine .inr ⟨(h.e j (by lia) hj).trans (h.e i (by lia) (by lia)).symm,?_⟩
    rw [h.f _ (by lia) (by lia),h.f _ (by lia) (by lia)]
    lia
 .rw [mirror_size] at hs
  rw [o8 hz,amU (by lia)]
  exact h.f i (by lia) hs
theorem DI.of {xs:Array Keyed} {x:Nat} (hx:1<=x) (hz:x<xs.size) (hd:Dec ρ xs x) (hf:fR ρ xs x) (hk:K xs x<K xs (x - 1)):DI ρ xs (x+1) 0:=by
 refine ⟨by lia,by lia,hd,λi j hi hj hj'=>?_,λi hi hi'=>?_,hf⟩
 .have ej:j=x:=by lia
  subst ej
  by_cases e:i=j - 1
  .subst e; exact hk
  .have v:=hd i (j - 1) (by lia) (by lia)
   unfold eW at v
   lia
 .have ei:i=x:=by lia
  subst ei
  rfl
theorem DI.more {xs:Array Keyed} {x q:Nat} (h:DI ρ xs x q) (hz:x<xs.size) (hk:K xs x=K xs (x - 1)):DI ρ xs (x+1) (q+1):=by
 have hl:=h.l
 have e0:x+1 - (q+1+1)=x - (q+1):=by lia
 refine ⟨by lia,by lia,by rw [e0]; exact h.d,λi j hi hj hj'=>?_,λi hi hi'=>?_,by rw [e0]; exact h.f⟩
 .rw [e0] at hi hj
  by_cases c:j<x
  .exact h.u i j hi hj c
  .have ej:j=x:=by lia
   subst ej
   rw [hk]
   exact h.u i (j - 1) hi (by lia) (by lia)
 .rw [show x+1 - 1=x by lia]
  by_cases c:i<x
  .rw [hk]; exact h.e i (by lia) c
  .have ei:i=x:=by lia
   subst ei
   rfl
theorem RT {st:SortSt} {n nrem:Nat} {Q:DescSt->SortSt->Prop} (h0:IntKeys a₀) (hn:nrem<=a₀.size) (hnn:n<=nrem) (hB:SBase a₀ st) (hs:DI ρ (arrOf st) n 0)
  (h:∀ m q st',SBase a₀ st'->m<=nrem->DI ρ (arrOf st') m q->Q (none,m,q) st'):wpS (model prog w) A E s (descLoop n nrem) Q st:=by
 unfold descLoop
 refine aub (I:=λx c st1=>∃ q,c=(none,x,q)/\SBase a₀ st1/\DI ρ (arrOf st1) x q) ?turn ?last ⟨0,rfl,hB,hs⟩
 case last =>
  rintro c st1 ⟨q,rfl,b1,d1⟩
  rw [show max n nrem=nrem by lia] at d1 ⊢
  exact h nrem q st1 b1 (aNS _) d1
 case turn =>
  rintro x c st1 hax hxn ⟨q,rfl,b1,d1⟩
  dsimp only
  have sz:=b1.size
  have hl:=d1.l
  refine a5F (wpS_ltK b1 h0 (by lia) (by lia) ?_)
  by_cases c:K (arrOf st1) x<K (arrOf st1) (x - 1)
  .simp only [c,a2G,a3p]
   by_cases hq:q > 0
   .rw [atn hq]
    obtain ⟨r1,r2⟩:=d1.rev
    refine a5F (a6s (aju ⟨0,rfl,b1.setArr (aZv _ _ _ _),DI.of (by lia) (by show x<(mirror _ _ _ _).size; rw [mirror_size]; lia) r1 r2 ?_⟩))
    show K (mirror _ _ _ _) x<K (mirror _ _ _ _) (x - 1)
    rw [K_mirror_equal d1.sz d1.e,K_mirror_equal d1.sz d1.e]
    exact c
   .rw [amU hq]
    have e:q=0:=by lia
    subst e
    exact aju ⟨0,rfl,b1,DI.of (by lia) (by lia) d1.xu (d1.f.mono (by lia)) c⟩
  .simp only [c,aIt,arS,aEJ]
   refine a5F (wpS_ltK b1 h0 (by lia) (by lia) ?_)
   by_cases c2:K (arrOf st1) (x - 1)<K (arrOf st1) x
   .simp only [c2,a2G,a3p]
    exact aju (h x q st1 b1 (by lia) d1)
   .simp only [c2,aIt,arS,aEJ]
    exact aju ⟨q+1,rfl,b1,d1.more (by lia) (by lia)⟩
theorem Ke {st:SortSt} {n nrem:Nat} {Q:Option Nat->SortSt->Prop} (h0:IntKeys a₀) (hr:fR ρ a₀ 0) (hn:nrem<=a₀.size) (hnn:n+1<=nrem) (hB:SBase a₀ st) (hs:DI ρ (arrOf st) (n+1) 0)
  (h:∀ m st',SBase a₀ st'->1<=m->m<=nrem->jE ρ (arrOf st') m->fR ρ (arrOf st') m->Q (some m) st'):wpS (model prog w) A E s (descPart n nrem) Q st:=by
 unfold descPart
 refine a5F (wpS_lift (aei ⟨rfl,?_⟩))
 refine a5F (RT h0 hn hnn hB hs λm q st1 b1 m2 d1=>?_)
 dsimp only
 have hl:=d1.l
 by_cases hq:q > 0
 .rw [atn hq]
  obtain ⟨r1,r2⟩:=d1.rev
  exact a5F (a6s (Kf h0 hr hn (by lia) m2 (b1.setArr (aZv _ _ _ _)) r1 r2 h))
 .rw [amU hq]
  have e:q=0:=by lia
  subst e
  exact Kf h0 hr hn (by lia) m2 b1 d1.xu (d1.f.mono (by lia)) h
theorem Tv {st:SortSt} {nrem:Nat} {Q:Option Nat->SortSt->Prop} (h0:IntKeys a₀) (hr:fR ρ a₀ 0) (hn:nrem<=a₀.size) (h1:1<=nrem) (hB:SBase a₀ st) (hI:fR ρ (arrOf st) 0)
  (h:∀ m st',SBase a₀ st'->1<=m->m<=nrem->jE ρ (arrOf st') m->fR ρ (arrOf st') m->Q (some m) st'):wpS (model prog w) A E s (countRun' 0 nrem) Q st:=by
 rw [countRun0_eq]
 have sz:=hB.size
 refine a5F (Jd h0 hr hn (aNS 1) h1 hB (λi j hij hj=>absurd hj (by lia)) (hI.mono (aze _)) λn n1 n2 i1 hor=>?_)
 dsimp only
 by_cases e:n=nrem
 .rw [atn (by simpa using e)]
  exact aju (h n st hB n1 n2 i1 (hI.mono (aze _)))
 .rw [amU (by simpa using e)]
  have lt:K (arrOf st) n<K (arrOf st) (n - 1):=hor.resolve_left e
  by_cases g:n > 1
  .rw [atn g]
   refine a5F (wpS_ltK hB h0 (by lia) (by lia) ?_)
   by_cases c:K (arrOf st) 0<K (arrOf st) (n - 1)
   .simp only [c,a2G,a3p]
    exact aju (h n st hB n1 n2 i1 (hI.mono (aze _)))
   .simp only [c,aIt,arS,aEJ]
    have all:∀ k,0<=k->k<n->K (arrOf st) k=K (arrOf st) (n - 1):=by
     intro k _ hk
     have a1:k=0\/eW ρ (arrOf st) 0 k:=by
      by_cases z:k=0
      .exact .inl z
      .exact .inr (i1 0 k (by lia) hk)
     have a2:k=n - 1\/eW ρ (arrOf st) k (n - 1):=by
      by_cases z:k=n - 1
      .exact .inl z
      .exact .inr (i1 k (n - 1) (by lia) (by lia))
     have a3:=i1 0 (n - 1) (by lia) (by lia)
     unfold eW at a1 a2 a3
     rcases a1 with a1 | a1
     .subst a1; lia
     .rcases a2 with a2 | a2
      .subst a2; rfl
      .lia
    have ke:=K_mirror_equal (xs:=arrOf st) (i:=0) (j:=n) (by lia) all
    refine a5F (a6s (Ke h0 hr hn (by lia) (hB.setArr (aZv _ _ _ _)) (DI.of (by lia) (by show n<(mirror _ _ _ _).size; rw [mirror_size]; lia) (λi j hij hj=>?_) (λi hi hs=>?_) ?_) h))
    .show eW ρ (mirror (arrOf st) 0 n ((n - 0) / 2)) j i
     unfold eW
     rw [ke,ke,all i (by lia) (by lia),all j (by lia) hj,o8 (by lia),o8 (by lia),atn (by lia),atn (by lia),hI _ (by lia) (by lia),hI _ (by lia) (by lia)]
     lia
    .have hs':i<(mirror (arrOf st) 0 n ((n - 0) / 2)).size:=hs
     rw [mirror_size] at hs'
     show Rk ρ (mirror (arrOf st) 0 n ((n - 0) / 2)) i=i
     rw [o8 (by lia),amU (by lia)]
     exact hI i (by lia) hs'
    .show K (mirror (arrOf st) 0 n ((n - 0) / 2)) n<K (mirror (arrOf st) 0 n ((n - 0) / 2)) (n - 1)
     rw [ke,ke]
     exact lt
  .rw [amU g]
   have en:n=1:=by lia
   subst en
   exact Ke h0 hr hn (by lia) hB (DI.of (by lia) (by lia) (λi j hij hj=>absurd hj (by lia)) (hI.mono (aze _)) lt) h
def lF (ρ:Keyed->Nat) (a₀:Array Keyed) (st:SortSt):Prop:=(arrOf st).Perm a₀/\failedOf st=none/\pendingOf st=#[(0,a₀.size,0)]/\jE ρ (arrOf st) a₀.size
theorem lF.of {st:SortSt} (hB:SBase a₀ st) (hs:jE ρ (arrOf st) a₀.size):lF ρ a₀ (setPending st ((pendingOf st).push (0,a₀.size,0))) :=
 ⟨hB.perm,hB.failed,by show (pendingOf st).push _=_; rw [hB.pend]; rfl,hs⟩
theorem RS {st:SortSt} {Q:Unit->SortSt->Prop} (h0:IntKeys a₀) (hr:fR ρ a₀ 0) (hB:SBase a₀ st) (hI:fR ρ (arrOf st) 0) (h2:2<=a₀.size) (h64:a₀.size<64)
  (h:∀ st',(arrOf st').Perm a₀->failedOf st'=none->jE ρ (arrOf st') a₀.size->Q () st'):wpS (model prog w) A E s sortRuns' Q st:=by
 rw [sortRuns'_eq]
 refine a5F (ar4 ?_)
 dsimp only
 have mr:minRun' a₀.size a₀.size 0=a₀.size:=by
  obtain ⟨f,hf⟩:∃ f,a₀.size=f+1:=⟨a₀.size - 1,by lia⟩
  have e:minRun' (f+1) a₀.size 0=a₀.size:=by
   rw [minRun'_succ,atn h64]
   rfl
  rwa [← hf] at e
 simp only [hB.size,mr]
 refine a5F (bca (aub
  (I:=λx c st1=>(x=0/\c=(none,0)/\SBase a₀ st1/\fR ρ (arrOf st1) 0)\/(1<=x/\c=(none,a₀.size)/\lF ρ a₀ st1))
  (Q:=λc st1=>c=(none,a₀.size)/\lF ρ a₀ st1) ?turn ?last (.inl ⟨rfl,rfl,hB,hI⟩)) ?after)
 case last =>
  rintro c st1 (⟨hx,_⟩ | ⟨_,hc,hD⟩)
  .lia
  .exact ⟨hc,hD⟩
 case turn =>
  rintro x c st1 _ hx (⟨rfl,rfl,b1,i1⟩ | ⟨kC,rfl,hD⟩)
  .dsimp only
   rw [amU (by lia)]
   simp only [Nat.sub_zero,Nat.min_self,aPW]
   refine a5F (Tv h0 hr (aNS _) (by lia) b1 i1 λm st2 b2 m1 m2 s2 d2=>?_)
   dsimp only
   by_cases lt:m<a₀.size
   .rw [atn lt]
    refine a5F (wpS_lift (aei ⟨rfl,?_⟩))
    refine a5F (Rb h0 hr (aNS _) m2 m1 b2 s2 d2 λst3 b3 s3=>?_)
    simp only [aCO,arS,aEJ]
    refine a5F (ar4 ?_)
    have hb:(pendingOf st3).back?=none:=by
     rw [b3.pend]
     rfl
    rw [hb]
    dsimp only
    exact a5F (aQM (aju (.inr ⟨by lia,rfl,lF.of b3 s3⟩)))
   .rw [amU lt]
    have em:m=a₀.size:=by lia
    subst em
    refine a5F (ar4 ?_)
    have hb:(pendingOf st2).back?=none:=by
     rw [b2.pend]
     rfl
    rw [hb]
    dsimp only
    exact a5F (aQM (aju (.inr ⟨by lia,rfl,lF.of b2 s2⟩)))
  .dsimp only
   rw [atn (aNS _)]
   exact aju ⟨rfl,hD⟩
 case after =>
  rintro c st1 ⟨rfl,hD⟩
  dsimp only
  refine a5F (bca (aub (I:=λ_ c st2=>st2=st1/\c=(none,())) (Q:=λc st2=>st2=st1/\c=(none,())) ?_ (λ_ _ hh=>hh) ⟨rfl,rfl⟩) ?_)
  .rintro x c st2 _ _ ⟨rfl,rfl⟩
   refine a5F (ar4 ?_)
   rw [atn (by rw [hD.2.2.1]; exact aNS 1)]
   exact aju ⟨rfl,rfl⟩
  .rintro c st2 ⟨rfl,rfl⟩
   exact aju (h _ hD.1 hD.2.1 hD.2.2.2)
end
end L2.Mf
namespace L2
open PySem PySem.Spec PyProof.Rows
def BMod (base:Heap) (mg:Str->Option Value):Prop:=∃ bm o,mg "__builtins__" = some (.ref bm)/\bm≠builtinsNs/\bm≠mainGlobals/\base.get? bm=some o/\o.cls=.type "module" /\ o.dict=some builtinsNs/\o.data=.plain
section
variable {X:Cx} {pins:List (Addr×Obj)} {σ:St} {H:Hp} {s:Shared}
theorem Inv.grown {P c':Addr} {pos:Pos} {qual:Str} {ps:Array Value} {h':Heap} {tk:Nat} (I:Inv X pins σ H s) (hP:H P=some (.iK pos qual)) (hx:Heap.ExtBut P s.heap h') (hge:s.heap.objs.size<=c') (hrec:h'.CodeRec (.ref c') qual)
  (htr:TriplesOk ps.toList) (hnf:codeAmong pos ps.toList=none) (htb:h'.get? P=some { cls:=.none,data:=.fields (ps++#[rawInt pos.line,rawInt pos.col,.ref c']) }) :
  ∃ oc vs t,h'.get? c'=some oc/\oc.data=.fields vs/\vs[1]?=some (.str qual t)/\Inv X pins σ (upd H c' (.bD oc (.own P))) { s with heap:=h',toks:=tk }:=by
 obtain ⟨c,oc,vs,t,z,hoc,hd,hv⟩:=hrec
 cases z
 have fr:H c'=none:=I.hok.fresh hge
 have nP:∀ b,H b=none->b≠P:=λb n z=>by rw [z,hP] at n; cases n
 have nc:∀ b u,H b=some u->b≠c':=λb u e=>Zb e fr
 have nh:∀ b o,s.heap.get? b=some o->b≠c':=λb o e=>aOw (ajX (alE e) hge)
 have cP:c'≠P:=λz=>by rw [z,hP] at fr; cases fr
 refine ⟨oc,vs,t,hoc,hd,hv,I.step (g':=s.gens) (d':=s.drawn) (t':=tk) (ch:=[]) (h':=h') (H':=upd H c' (.bD oc (.own P))) (λ_ z=>nomatch z) (λb o _ _ _ e n=>hx b o (nP b n) e) (λb o _ _ _ e n=>⟨o.slots,hx b o (nP b n) e⟩)
  (λb o _ e n=>by rw [Zc (nh b o e)]; exact n) (λb o _ e=>?_) (λb xs e=>by rw [Zc (nc b _ e)]; exact e) (λb o u e=>by rw [Zc (nc b _ e)]; exact e) (λb p q e=>by rw [Zc (nc b _ e)]; exact e) (λm hm=>?_) (λb u e=>?_) I.bare⟩
 .by_cases hb:b=P
  .subst hb; exact ⟨_,htb⟩
  .exact ⟨o,hx b o hb e⟩
 .obtain ⟨o,es,ep,ho,r⟩:=hm
  exact ⟨o,es,ep,hx _ o (nP _ I.free) ho,r⟩
 .by_cases hb:b=c'
  .subst hb
   rw [Za] at e
   cases e
   exact ⟨hoc,_,hoc⟩
  .rw [Zc hb] at e
   by_cases HQ:b=P
   .subst HQ
    rw [hP] at e
    cases e
    have e1:(ps++#[rawInt pos.line,rawInt pos.col,Value.ref c']).toList=ps.toList++[rawInt pos.line,rawInt pos.col,.ref c']:=by simp
    refine ⟨_,htb,?_,λcv hc=>?_⟩
    .rw [e1]; exact TriplesOk_snoc _ _ _ _ htr
    .rw [e1,codeAmong_snoc _ htr hnf] at hc
     cases hc
     exact ⟨c',oc,vs,t,rfl,Za,hd,hv⟩
   .refine (I.hok b u e).stay (λd v hd' q=>hx d v ?_ q) (λd q=>by rw [Zc (nc d _ q)]; exact q) (λd xs q=>by rw [Zc (nc d _ q)]; exact q) λd oz q=>by rw [Zc (nc d _ q)]; exact q
    rcases hd' with rfl | hd'
    .exact HQ
    .intro z; rw [z,hP] at hd'; cases hd'
structure jA (X:Cx) (scope:Scope) (x:Str) (fr:List Str) (js:List Nat):Prop where
 kind:scope.kind=.function
 co:scope.isCoroutine=false
 gen:scope.isGenerator=false
 mO:∀ y∈scope.names,y.2≠.cell
 par:scope.names.lookup x=some .local
 free:∀ y∈scope.names,y.2=.free->X.env.kindOf y.1=some .cell\/X.env.kindOf y.1=some .free
 len:fr.length=js.length
 js:∀ (k j:Nat),js[k]?=some j->fr[k]?=X.N[j]?
 jf:∀ (k:Nat) (y:Str),fr[k]?=some y->scope.names.lookup y=some .free
def gb (X:Cx) (A:Around) (N:List Str) (qual:Str) (scope:Scope) (f:Addr) (cd:Value) (cl:List (Str×Addr)) (s:Shared) (H:Hp):Cx where
 prog:=X.prog
 w:=X.w
 K:=X.K
 mg:=X.mg
 base:=X.base
 A:=A.deeper (W.envX qual scope s.heap.objs.size f cd cl)
 N:=N
 s₀:=s
 H₀:=H
 env:=W.envX qual scope s.heap.objs.size f cd cl
 outer:=X.stack
 stack:=W.envX qual scope s.heap.objs.size f cd cl :: X.stack
 ex:=[]
 calm:=true
 fn:=λ_=>false
 pn:=[]
 xe:=λ_ _=>False
theorem RQ {A:Around} {x:Str} {fr:List Str} {js:List Nat} {qual:Str} {scope:Scope} {f:Addr} {cd:Value} {cl:List (Str×Addr)} {s1:Shared} {u:Value} {v:V} (c:jA X scope x fr js) (I:Inv X pins σ H s) (hA:A.frames=some X.stack) (hh:A.handled=none)
  (gy:∀ x c,cl.lookup x=some c->X.env.cells.lookup x=some c) (i6:∀ p∈scope.names,p.2=.free->∃ c,cl.lookup p.1=some c) (r:RelV v u)
  (hn:s1.heap.Ns s.heap.objs.size λy=>[(x,u)].reverse.lookup y) (hk:∀ b o,s.heap.get? b=some o->s1.heap.get? b=some o) (hos:s1.os=s.os) (hg:s1.gens=s.gens) :
  Inv (gb X A (x :: fr) qual scope f cd cl s H) [] (some v :: js.map λj=>(σ[j]?).join) H s1:=by
 have qS:∀ b:Addr,b∉(gb X A (x :: fr) qual scope f cd cl s H).ex:=λb z=>absurd (show b∈([]:List Addr) from z) (by simp)
 have ok:(gb X A (x :: fr) qual scope f cd cl s H).Ok:=by
  refine ⟨I.ok.mod,c.kind,rfl,rfl,aNS _,λy z d e1 e2=>I.ok.inj y z d (gy _ _ e1) (gy _ _ e2),λy hy=>?_,λy d z _=>absurd z (by simp [gb]),λ_=>hh,Around.frames_deeper hA,.inr ⟨rfl,rfl⟩,λb z=>absurd z (qS b),I.bs,ay9 I.ok.n8 I.sz,λb _ _=>qS b,λb z=>absurd z (qS b),I.stack,I.iM⟩
  have hy:scope.names.lookup y=some .cell\/scope.names.lookup y=some .free:=hy
  rcases hy with hy | hy
  .exact absurd rfl (c.mO _ (ZP hy))
  .exact i6 _ (ZP hy) rfl
 refine ⟨ok,hos,by rw [hg]; exact I.bare,Un.kept hk,⟨_,hn,λi y v' e1 e2 e3=>?_⟩,λy d e=>?_,I.hok.fresh (aNS _),λy d e=>I.cJ y d (gy y d e),λp hp=>absurd (show p∈([]:List (Addr×Obj)) from hp) (by simp),I.hok.kept hk,?_⟩
 .cases i with
  | zero =>
   have oX:x=y:=by simpa [gb] using e1
   have ny:v=v':=by simpa using e2
   subst oX
   subst ny
   refine ⟨u,r,.inl ⟨c.par,?_⟩⟩
   show ([(x,u)]:List (Str×Value)).reverse.lookup x=some u
   simp
  | succ k =>
   have oX:fr[k]?=some y:=by simpa [gb] using e1
   rw [aSk,aYu] at e2
   cases q:js[k]? with
   | none=>rw [q] at e2; cases e2
   | some j =>
    rw [q] at e2
    have ny:(σ[j]?).join=some v':=by simpa using e2
    have e4:σ[j]?=some (some v'):=by
     cases z:σ[j]? with
     | none=>rw [z] at ny; cases ny
     | some o=>rw [z] at ny; rw [show o=some v' from ny]
    have Dl:X.N[j]?=some y:=(c.js k j q).symm.trans oX
    have hfr:=c.jf k y oX
    have hk2:=c.free _ (ZP hfr) rfl
    have vis:uE X.env.scope y:=by
     rcases hk2 with z | z
     .exact .inr (.inl z)
     .exact .inr (.inr z)
    obtain ⟨m,_,hl⟩:=I.loc
    obtain ⟨u',r',l⟩:=hl j y v' Dl e4 vis
    refine ⟨u',r',?_⟩
    rcases l with ⟨z,_⟩ | ⟨_,d,e,⟨od,ho,hd⟩⟩
    .rcases hk2 with y' | y'
     .rw [show X.env.kindOf y=_ from z] at y'; cases y'
     .rw [show X.env.kindOf y=_ from z] at y'; cases y'
    .obtain ⟨d',e'⟩:=i6 _ (ZP hfr) rfl
     have z':=gy _ _ e'
     have:d'=d:=by rw [e] at z'; exact (ado z').symm
     subst this
     exact .inr ⟨.inr hfr,d',e',⟨od,hk _ _ ho,hd⟩⟩
 .obtain ⟨v',⟨o,ho,hd⟩⟩:=I.cell y d (gy y d e)
  exact ⟨v',o,hk _ _ ho,hd⟩
 .show (some v :: _:List (Option V)).length=(x :: fr).length
  rw [bc9,bc9,aAt,c.len]
theorem Tu {A:Around} {x:Str} {fr:List Str} {js:List Nat} {name qual:Str} {params:Arguments} {body:PySem.Expr} {scope:Scope} {f:Addr} {pm cd ct:Value} {cl:List (Str×Addr)} {u:Value} {v:V} {te:TE} {Q:VK} {E:Value->Shared->Prop} {of:Obj} (c:jA X scope x fr js) (I:Inv X pins σ H s)
  (hA:A.frames=some X.stack) (hh:A.handled=none) (Dh:A.depth<recursionLimit)
  (gy:∀ x c,cl.lookup x=some c->X.env.cells.lookup x=some c) (i6:∀ p∈scope.names,p.2=.free->∃ c,cl.lookup p.1=some c)
  (ho:s.heap.get? f=some of) (hof:of.data=.func (W.kla_fn name qual params body scope cl pm cd ct)) (hcd:s.heap.CodeRec cd qual)
  (hb:∀ u,bindArgs (W.kla_fn name qual params body scope cl pm cd ct) ⟨[u],[]⟩=pure [(x,u)]) (r:RelV v u)
  (he:∀ s,PE (gb X A (x :: fr) qual scope f cd cl s H) body te) (h:te (some v :: js.map λj=>(σ[j]?).join) H Q) :
  wpAny (model X.prog X.w) A (call (.ref f) [u]) (EP X pins σ Q) E s:=by
 refine wpAny_call (codeAny_mono (R:=λr s'=>∃ u',r=.ok (.ret u')/\CE X.stack X.prog X.w H s Q u' s') (W.kla_callFunE Dh ho hof c.co c.gen rfl hcd (by
  rw [hb u]
  refine adj ?_
  refine wpAny_newFunctionEnv c.mO (λy hy=>by rw [aBr.mp hy]; exact c.par) (λh₁ hns zB=>?_) c.kind
  have hk₁:∀ b o,s.heap.get? b=some o->h₁.get? b=some o:=λb o e=>zB.extBut b o (aOw (alE e)) (atD _ e)
  refine ⟨I.nolimit.keeps hk₁,?_⟩
  have J:=RQ (qual:=qual) (f:=f) (cd:=cd) (s1:={ s with heap:=h₁,toks:=s.toks+[(x,u)].length }) c I hA hh gy i6 r hns hk₁ rfl rfl
  refine W.kla_codeExpr (aPb (he s [] _ _ H Q J h) (λu' s' hq=>?_) λ_ _ z=>z.elim)
  obtain ⟨v',H',J',rv,q⟩:=hq
  exact ⟨u',rfl,v',H',J'.os,J'.bare,J'.base,J'.hok,rv,q⟩)) λr s' hq=>?_)
 obtain ⟨u',rfl,hq⟩:=hq
 exact I.after hq
theorem Tt {P c0:Addr} {x:Str} {fr:List Str} {js:List Nat} {params:Arguments} {body:PySem.Expr} {scope:Scope} {pos:Pos} {R:Value->Shared->Prop} (c:jA X scope x fr js) (I:Inv X pins σ H s) (hc0:X.env.code=.ref c0) (hcd:W.codeHdIn X.K c0 P=true)
  (bm:BMod X.base X.mg) (hP:H P=some (.iK pos (X.env.qual ++ "<lambda>"))) (hd0:params.defaults=[]) (hk0:params.kw_defaults=[])
  (h:∀ f cl cd pm ct of H' s',Inv X pins σ H' s'->aq H H'->(∀ x c,cl.lookup x=some c->X.env.cells.lookup x=some c)->(∀ p∈scope.names,p.2=.free->∃ c,cl.lookup p.1=some c) -> 
   H' f=some (.bD of (.own 0))->of.data=.func (W.kla_fn "<lambda>" (X.env.qual ++ "<lambda>") params body scope cl pm cd ct)->(∃ c' oc vs t,cd=.ref c'/\H' c'=some (.bD oc (.own P))/\oc.data=.fields vs/\vs[1]?=some (.str (X.env.qual ++ "<lambda>") t))->R (.ref f) s') :
  wpAny (model X.prog X.w) X.A (eval (.Lambda params body scope pos) X.env) R X.xe s:=by
 obtain ⟨cl,e1,gy,_,i6⟩:=yl (env:=X.env) scope.names [] (λp hp hf=>I.ok.has _ (c.free p hp hf)) (λx d e=>by simp at e)
 have hclos:closureFor scope X.env=pure cl:=by
  unfold closureFor
  refine (a0A (λz=>z >>= λcs=>pure cs) e1).trans ?_
  rfl
 have CH:=W.codeHd_of_K I.dI hcd
 obtain ⟨ps,hps,htr,hcode⟩:=(show aJ X.prog X.w H s.heap P (.iK pos (X.env.qual ++ "<lambda>")) from I.hok P _ hP)
 have hg:=I.ok.mod.glob.keeps I.bk
 have hgP:mainGlobals≠P:=λq=>by
  obtain ⟨o,es,ep,e,hd,_⟩:=hg
  rw [q,hps] at e; cases e; cases hd
 have hb:s.heap.BuiltinsAt X.mg P:=by
  obtain ⟨b,o,a1,a2,a3,a4,a5,a6,a7⟩:=bm
  have e:=I.bk _ _ a4
  exact ⟨b,o,a1,a2,a3,(λz=>by rw [z,hps] at e; cases e; cases a5),e,a5,a6,a7⟩
 rw [arm_eval_Lambda,defaultsOf_eq,hd0,hk0]
 show wpAny _ _ (do let dv ← evalAll (evalEach [] X.env); let OA ← holding dv (evalAllOpt []); makeFunction "<lambda>" (X.env.qual ++ "<lambda>") params (.expr body) scope X.env dv OA [] pos pos.line) _ _ s
 refine a6w (evalAll_nil ?_)
 refine a6w (aBl (adj ?_))
 cases hf:codeAmong pos ps.toList with
 | some cv =>
  obtain ⟨c',oc,vs,t,rfl,hH,hd,hv⟩:=hcode cv hf
  refine W.kla_makeFunctionHit hclos I.ok.glob hg hc0 CH hps htr hf hb λctv h' tk hk hsz=>?_
  have I1:=I.laid (a:=h'.objs.size) (t':=tk) (o:=.bD { cls:=.type "function",data:=.func (W.kla_fn "<lambda>" (X.env.qual ++ "<lambda>") params body scope cl ((X.mg "__name__").getD .none) (.ref c') ctv) } (.own 0)) (h':=h'.push { cls:=.type "function",data:=.func (W.kla_fn "<lambda>" (X.env.qual ++ "<lambda>") params body scope cl ((X.mg "__name__").getD .none) (.ref c') ctv) }) (λb o e=>atD _ (hk b o e)) hsz ⟨aMS _ rfl,_,aMS _ rfl⟩
  have fr:=I.hok.fresh hsz
  exact h _ cl _ _ _ _ _ _ I1 (Zf fr _) gy i6 Za rfl ⟨c',oc,vs,t,rfl,by rw [Zc (Zb hH fr)]; exact hH,hd,hv⟩
 | none =>
  refine W.kla_makeFunction hclos I.ok.glob hg hc0 CH hps htr hf hgP hb λc' ctv h' tk hx hge hlt hrec htb=>?_
  obtain ⟨oc,vs,t,hoc,hd,hv,I1⟩:=I.grown (tk:=tk) hP hx hge hrec htr hf htb
  have fr:H c'=none:=I.hok.fresh hge
  have Ia:upd H c' (.bD oc (.own P)) h'.objs.size=none:=I1.hok.fresh (aNS _)
  have I2:=I1.laid (a:=h'.objs.size) (t':=tk) (o:=.bD (W.kla_obj "<lambda>" (X.env.qual ++ "<lambda>") params body scope cl ((X.mg "__name__").getD .none) c' ctv) (.own 0)) (h':=h'.push (W.kla_obj "<lambda>" (X.env.qual ++ "<lambda>") params body scope cl ((X.mg "__name__").getD .none) c' ctv)) (λb o e=>atD _ e) (aNS _) ⟨aMS _ rfl,_,aMS _ rfl⟩
  exact h _ cl _ _ _ _ _ _ I2 ((Zf fr _).trans (Zf Ia _)) gy i6 Za rfl ⟨c',oc,vs,t,rfl,by rw [Zc (Zb Za Ia)]; exact Za,hd,hv⟩
end
end L2
namespace L2
open PySem PySem.Spec PyProof.Rows L2.Mf
def sI (key:Int->Int) (ns:List Int) (a b:Int):Prop:=key a<key b\/(key a=key b/\ns.idxOf a<ns.idxOf b)
theorem Tr {l:List Keyed} (h:∀ p∈l,∃ t,p.2=.int (numOf p.2) t):Vals ((l.map λp=>numOf p.2).map V.int) (l.map (·.2)):=by
 induction l with
 | nil=>exact .nil
 | cons p r ih =>
  obtain ⟨t,e⟩:=h p a5w
  exact .cons ⟨t,e⟩ (ih λq hq=>h q (amQ _ hq))
theorem EV {vs:List Value} {ns:List Int} (h:IntsAre vs ns):∀ {i:Nat} {v:Value},vs[i]?=some v->∃ n t,ns[i]?=some n/\v=.int n t:=by
 induction h with
 | nil=>intro i v e; simp at e
 | cons n t _ ih =>
  intro i v e
  cases i with
  | zero=>exact ⟨n,t,rfl,by simpa using e.symm⟩
  | succ i=>exact ih (by simpa using e)
theorem Jc:∀ {ns:List Int},ns.Nodup->∀ {i:Nat} {n:Int},ns[i]?=some n->ns.idxOf n=i
 | [],_,_,_,e=>by simp at e
 | x :: r,nd,0,n,e=>by
  have e':x=n:=by simpa using e
  subst e'
  simp
 | x :: r,nd,i+1,n,e=>by
  obtain ⟨h1,h2⟩:=aG7.mp nd
  have e':r[i]?=some n:=by simpa using e
  have ne:x≠n:=λz=>h1 (z ▸ abg e')
  rw [List.idxOf_cons,show (x == n)=false by simpa using ne]
  show r.idxOf n+1=i+1
  rw [Jc h2 e']
theorem Ky {keys:Array Value} {vs:List Value} {ns:List Int} {key:Int->Int} (hk:IntsAre keys.toList (ns.map key)) (hv:IntsAre vs ns) (nd:ns.Nodup) :
  fR (λp=>ns.idxOf (numOf p.2)) (keys.zip vs.toArray) 0/\∀ xs:Array Keyed,xs.Perm (keys.zip vs.toArray)->jE (λp=>ns.idxOf (numOf p.2)) xs xs.size ->
   ∃ os:List Int,Vals (os.map V.int) (xs.map (·.2)).toList/\os.Perm ns/\os.Pairwise (sI key ns):=by
 have lk:keys.size=ns.length:=by have:=hk.length; rw [aHK,aAt] at this; lia
 have lv:vs.length=ns.length:=by have:=hv.length; lia
 have DN:∀ (i:Nat) (p:Keyed),(keys.zip vs.toArray)[i]?=some p->∃ n t t',ns[i]?=some n/\p=(Value.int (key n) t,Value.int n t'):=λi p e=>by
  have e':(keys.toList.zip vs)[i]?=some p:=by rw [← ksk_zip,aek]; exact e
  rw [List.getElem?_zip_eq_some] at e'
  obtain ⟨n1,t1,q1,r1⟩:=EV hk e'.1
  obtain ⟨n2,t2,q2,r2⟩:=EV hv e'.2
  rw [aYu,q2] at q1
  have ND:key n2=n1:=by simpa using q1
  exact ⟨n2,t1,t2,q2,Prod.ext (by rw [r1,ND]) r2⟩
 have CL:∀ p∈(keys.zip vs.toArray).toList,∃ n t t',n∈ns/\p=(Value.int (key n) t,Value.int n t'):=λp hp=>by
  obtain ⟨i,e⟩:=bd1 hp
  rw [aek] at e
  obtain ⟨n,t,t',q,r⟩:=DN i p e
  exact ⟨n,t,t',abg q,r⟩
 refine ⟨λi _ hi=>?_,λxs hp hi=>?_⟩
 .obtain ⟨n,t,t',q,r⟩:=DN i _ (a8g hi)
  unfold Rk
  rw [a8g hi,r]
  show ns.idxOf n=i
  exact Jc nd q
 .have pm:=aH7.mp hp
  have qU:∀ p∈xs.toList,∃ n t t',n∈ns/\p=(Value.int (key n) t,Value.int n t'):=λp rD=>CL p (pm.mem_iff.mp rD)
  refine ⟨xs.toList.map λp=>numOf p.2,?_,?_,?_⟩
  .rw [Array.toList_map]
   refine Tr λp rD=>?_
   obtain ⟨n,t,t',_,rfl⟩:=qU p rD
   exact ⟨t',rfl⟩
  .have e:(keys.zip vs.toArray).toList.map (λp=>numOf p.2)=ns:=by
    apply a1R
    intro i
    rw [aYu,aek]
    by_cases hlt:i<(keys.zip vs.toArray).size
    .obtain ⟨n,t,t',q,r⟩:=DN i _ (a8g hlt)
     rw [a8g hlt,r,q]
     rfl
    .have lz:(keys.zip vs.toArray).size=ns.length:=by rw [Array.size_zip,lk,a5A,lv,Nat.min_self]
     rw [Array.getElem?_eq_none (by lia),aRn (by lia)]
     rfl
   rw [← e]
   exact pm.map _
  .rw [pairwise_iff_getElem]
   intro i j hi' hj' hij
   have hi2:i<xs.size:=by simpa using hi'
   have hj2:j<xs.size:=by simpa using hj'
   have v:=hi i j hij hj2
   obtain ⟨n1,t1,t1',_,r1⟩:=qU xs[i] (by simp)
   obtain ⟨n2,t2,WR,_,r2⟩:=qU xs[j] (by simp)
   have k1:K xs i=key n1:=by rw [K_eq hi2,r1]; rfl
   have k2:K xs j=key n2:=by rw [K_eq hj2,r2]; rfl
   have q1:Rk (λp=>ns.idxOf (numOf p.2)) xs i=ns.idxOf n1:=by unfold Rk; rw [a8g hi2,r1]; rfl
   have q2:Rk (λp=>ns.idxOf (numOf p.2)) xs j=ns.idxOf n2:=by unfold Rk; rw [a8g hj2,r2]; rfl
   have g1:(xs.toList.map λp=>numOf p.2)[i]=n1:=by simp [r1,numOf]
   have g2:(xs.toList.map λp=>numOf p.2)[j]=n2:=by simp [r2,numOf]
   rw [g1,g2]
   unfold eW at v
   rw [k1,k2,q1,q2] at v
   exact v
section
variable {X:Cx} {pins:List (Addr×Obj)} {σ:St} {H:Hp} {s:Shared} {d:Addr} {xs:List V} {o:Obj}
theorem Inv.oA (I:Inv X pins σ H s) (h:H d=some (.bD o (.lst xs))) (h0:∀ o' u,X.H₀ d≠some (.bD o' u)):Inv X pins σ (upd H d (.lst xs)) s:=by
 have ne:∀ b u,H b=some u->u≠.bD o (.lst xs)->b≠d:=λb u e n z=>by rw [z,h] at e; exact n (ado e).symm
 have nn:∀ b,H b=none->b≠d:=λb e z=>by rw [z,h] at e; cases e
 refine ⟨I.ok,I.os,I.bare,⟨I.base.keep,I.base.slot,λb o' e n hx=>?_,I.base.there,λb ys e=>?_,λb o' u e=>?_,λb p r e=>?_⟩,I.loc,I.cell,?_,λx c e=>?_,λp hp=>?_,λb u e=>?_,I.len⟩
 .have q:=I.base.free b o' e n hx
  rw [Zc (nn b q)]
  exact q
 .have q:=I.base.tups b ys e
  rw [Zc (ne b _ q (by intro z; cases z))]
  exact q
 .have q:=I.base.gx b o' u e
  rw [Zc (λz=>h0 o' u (by rw [← z]; exact e))]
  exact q
 .have q:=I.base.gF b p r e
  rw [Zc (ne b _ q (by intro z; cases z))]
  exact q
 .rw [Zc (nn _ I.free)]
  exact I.free
 .rw [Zc (nn _ (I.cJ x c e))]
  exact I.cJ x c e
 .obtain ⟨a1,a2,a3⟩:=I.pin p hp
  exact ⟨a1,by rw [Zc (nn _ a2)]; exact a2,a3⟩
 .by_cases hb:b=d
  .subst hb
   rw [Za] at e
   cases e
   exact (I.hok b _ h).2
  .rw [Zc hb] at e
   exact (I.hok b u e).stay (λ_ _ _ z=>z) (λc z=>by rw [Zc (ne c _ z (by intro y; cases y))]; exact z) (λc ys z=>by rw [Zc (ne c _ z (by intro y; cases y))]; exact z) λc oz z=>by rw [Zc (ne c _ z (by intro y; cases y))]; exact z
theorem Kw {a kS:Addr} {st:SortSt} {e1:Nat} {H1:Hp} {ns:List Int} {key:Int->Int} {keys:Array Value} {its:List Value} {ks:List V} {A:Around} {E:Value->Shared->Prop} {R:PySem.Fin->Shared->Prop} (I:Inv X pins σ H1 s) (hk:IntsAre keys.toList (ns.map key)) (hv:IntsAre its ns) (nd:ns.Nodup) (h64:ns.length<64)
  (ha:H1 a=some (.bD (seqObj "list" #[] e1) (.lst []))) (h0:∀ o' u,X.H₀ a≠some (.bD o' u)) (tK:H1 kS=some (.lst ks)) (hlk:ks.length<=64) (hp:(arrOf st).Perm (keys.zip its.toArray)) (hi:jE (λp=>ns.idxOf (numOf p.2)) (arrOf st) (arrOf st).size) (hf:failedOf st=none)
  (h:∀ (H':Hp) (s':Shared) (os:List Int),Inv X pins σ H' s'->(∀ b,b≠a->b≠kS->H' b=H1 b)->H' a=some (.lst (os.map V.int))->os.Perm ns->os.Pairwise (sI key ns)->R (.done (.ret .none)) s') :
  wpAny (model X.prog X.w) A (ksk_tail a false e1 (.ref kS) st) R E s:=by
 have zu:a≠kS:=λz=>by rw [z,tK] at ha; cases ha
 obtain ⟨os,vo,po,so⟩:=(Ky hk hv nd).2 _ hp hi
 have lo:=po.length_eq
 unfold ksk_tail
 try dsimp only
 obtain ⟨_,mU,n,rK,HL,eK⟩:=I.iP tK
 have lK:mU.length<=64:=by have:=rK.length; lia
 refine a6w (aVF eK rfl ?_ (by rw [a5A,a7z]; lia) (aze _))
 have I6:=I.jO (t':=s.toks) (f:=λ_=>#[]) (its':=[]) (ys:=[]) tK eK rfl .nil (aze _)
 have HR:upd H1 kS (.lst []) a=some (.bD (seqObj "list" #[] e1) (.lst [])):=by rw [Zc zu]; exact ha
 have oa:=(I6.hok a _ HR).1
 refine a6w (a0x ?_)
 refine a6w (seqEpoch_at oa rfl ?_)
 have lo2:((arrOf st).map (·.2)).size=ns.length:=by
  have e:=vo.length
  rw [aAt] at e
  have e2:((arrOf st).map (·.2)).toList.length=((arrOf st).map (·.2)).size:=aHK
  lia
 refine a6w (aVF oa rfl ?_ (aze _) (by simp only [arS,aEJ]; rw [lo2,a7z]; lia))
 rw [hf]
 simp only [bne_self_eq_false,arS,aEJ]
 have I7:=I6.oA HR h0
 have I8:=I7.jO (t':=s.toks) (f:=λ_=>(arrOf st).map (·.2)) (its:=[]) (its':=((arrOf st).map (·.2)).toList) (ys:=os.map V.int) Za oa (by exact (Array.toArray_toList).symm) vo (by rw [aAt,a7z]; lia)
 refine adj (h _ _ os I8 (λb n1 n2=>?_) Za po so)
 rw [Zc n1,Zc n1,Zc n2]
theorem RP {a kS:Addr} {e1:Nat} {H1:Hp} {ns:List Int} {key:Int->Int} {keys:Array Value} {its:List Value} {ks:List V} {A:Around} {E:Value->Shared->Prop} {R:PySem.Fin->Shared->Prop} (I:Inv X pins σ H1 s) (hk:IntsAre keys.toList (ns.map key)) (hv:IntsAre its ns) (nd:ns.Nodup) (h64:ns.length<64)
  (ha:H1 a=some (.bD (seqObj "list" #[] e1) (.lst []))) (h0:∀ o' u,X.H₀ a≠some (.bD o' u)) (tK:H1 kS=some (.lst ks)) (hlk:ks.length<=64)
  (h:∀ (H':Hp) (s':Shared) (os:List Int),Inv X pins σ H' s'->(∀ b,b≠a->b≠kS->H' b=H1 b)->H' a=some (.lst (os.map V.int))->os.Perm ns->os.Pairwise (sI key ns)->R (.done (.ret .none)) s') :
  wpAny (model X.prog X.w) A (ksk_end a false its.toArray e1 (.ref kS) keys) R E s:=by
 have lk:keys.size=ns.length:=by have:=hk.length; rw [aHK,aAt] at this; lia
 have lv:its.length=ns.length:=by have:=hv.length; lia
 have hzs:(keys.zip its.toArray).size=ns.length:=by rw [Array.size_zip,lk,a5A,lv,Nat.min_self]
 obtain ⟨Hz,_⟩:=Ky hk hv nd
 unfold ksk_end
 simp only [arS,aEJ]
 by_cases h2:its.toArray.size<2
 .rw [atn h2,atn h2]
  refine a6w (adj ?_)
  rw [StateT.run_pure]
  refine a6w (adj ?_)
  try dsimp only
  refine Kw (st:=SortSt.mk' general' (keys.zip its.toArray) #[] 7 none) I hk hv nd h64 ha h0 tK hlk (axR _) (λi j hij hj=>?_) rfl h
  have hj2:j<(keys.zip its.toArray).size:=hj
  rw [a5A] at h2
  lia
 .rw [amU h2,amU h2]
  rw [a5A] at h2
  rw [ksk_kind hk (by rw [lk]; lia)]
  refine a6w (adj ?_)
  refine a6w (aPb (RS (ρ:=λp=>ns.idxOf (numOf p.2)) (a₀:=keys.zip its.toArray) (st:=SortSt.mk' oneType' (keys.zip its.toArray) #[] 7 none)
   (Q:=λ_ st1=>(arrOf st1).Perm (keys.zip its.toArray)/\failedOf st1=none/\jE (λp=>ns.idxOf (numOf p.2)) (arrOf st1) (keys.zip its.toArray).size)
   (ksk_intKeys hk) Hz ⟨axR _,rfl,rfl,rfl⟩ Hz (by rw [hzs]; lia) (by rw [hzs]; exact h64) λst1 a1 a2 a3=>⟨a1,a2,a3⟩) ?_ λ_ _ e=>e)
  rintro ⟨⟨⟩,st1⟩ s1 ⟨rfl,hp,hf,hs⟩
  try dsimp only
  exact Kw I hk hv nd h64 ha h0 tK hlk hp (by rw [hp.size_eq]; exact hs) hf h
theorem Tq {l f:Addr} {ns:List Int} {key:Int->Int} {Q:VK} {E:Value->Shared->Prop} (I:Inv X pins σ H s) (hq:ak X.K H l (ns.map V.int)) (h64:ns.length<64) (nd:ns.Nodup)
  (turn:∀ z∈ns,∀ H1 s1 u,aq H H1->Inv X pins σ H1 s1->RelV (.int z) u->wpAny (model X.prog X.w) X.A.in1.in1 (call (.ref f) [u]) (EP X pins σ λv H'=>v=.int (key z)/\H'=H1) (λ_ _=>False) s1)
  (q:∀ (D:Addr) (H':Hp) (os:List Int),H D=none->aq H H'->H' D=some (.lst (os.map V.int))->os.Perm ns->os.Pairwise (sI key ns)->Q (.ref D) H') :
  wpAny (model X.prog X.w) X.A (call (.builtin "sorted") [.ref l] [(Str.ofString "key",.ref f)]) (EP X pins σ Q) E s:=by
 obtain ⟨its,rv,pl,hz⟩:=I.list hq
 have hv:=yj rv
 have lv:its.length=ns.length:=by have:=rv.length; rw [aAt] at this; exact this.symm
 refine call_function_entry_kw kind_sorted plain_sorted entry_sorted (ksk_s1 _ _) ?_
 unfold Builtin.«sorted»
 refine a6w (m:=checkCount "sorted" 1 1 _) (adj ?_)
 refine a6w (collect_list pl.isList ?_ (by rw [a7z]; lia))
 refine a6w (wpAny_newList ?_ (by rw [a7z]; lia))
 have hsz:((s.heap.push (seqObj "list" #[] 0)).update s.heap.objs.size (Obj.mapSeq (·++its.toArray))).objs.size=s.heap.objs.size+1:=by
  rw [Heap.size_update,size_push']
 have tH:(((s.heap.push (seqObj "list" #[] 0)).update s.heap.objs.size (Obj.mapSeq (·++its.toArray))).push (seqObj "list" its.toArray 0)).get? (s.heap.objs.size+1)=some (seqObj "list" its.toArray 0):=by
  rw [← hsz]
  exact aMS _ rfl
 have keep:∀ b o,s.heap.get? b=some o->(((s.heap.push (seqObj "list" #[] 0)).update s.heap.objs.size (Obj.mapSeq (·++its.toArray))).push (seqObj "list" its.toArray 0)).get? b=some o:=λb o e=>by
  have lt:b<s.heap.objs.size:=alE e
  rw [Heap.get?_push_ne _ _ _ (by rw [hsz]; exact aOw (ae2 lt)),aIW _ _ _ _ (aOw lt),Heap.get?_push_ne _ _ _ (aOw lt)]
  exact e
 show wpAny _ _ _ _ _ { s with heap:=((s.heap.push (seqObj "list" #[] 0)).update s.heap.objs.size (Obj.mapSeq (·++its.toArray))).push (seqObj "list" its.toArray 0) }
 rw [hsz]
 have hsz1:(((s.heap.push (seqObj "list" #[] 0)).update s.heap.objs.size (Obj.mapSeq (·++its.toArray))).push (seqObj "list" its.toArray 0)).objs.size=s.heap.objs.size+2:=by rw [size_push',hsz]
 generalize ((s.heap.push (seqObj "list" #[] 0)).update s.heap.objs.size (Obj.mapSeq (·++its.toArray))).push (seqObj "list" its.toArray 0)=h1 at *
 refine a6w (aBl (wpAny_call_entry_kw slot_list_sort ⟨_,tH,rfl⟩ entry_list_sort ?body (ksk_l1 _ _)))
 case body =>
  show wpAny (model X.prog X.w) X.A.in1.in1 (Builtin.«list.sort» ⟨[.ref (s.heap.objs.size+1)],[(Str.ofString "key",.ref f)]⟩) _ _ _
  rw [ksk_t1]
  unfold ksk_tree
  refine a6w (listItems_at tH rfl ?_)
  refine a6w (aVF tH rfl ?_ (by rw [a5A,a7z]; lia) (aze _))
  obtain ⟨e1,HH⟩:∃ e1,(h1.update (s.heap.objs.size+1) (Obj.mapSeq λ_=>(#[]:Array Value))).get? (s.heap.objs.size+1)=some (seqObj "list" #[] e1):=⟨_,get?_update_seq tH λ_=>#[]⟩
  have wB:∀ b o,s.heap.get? b=some o->(h1.update (s.heap.objs.size+1) (Obj.mapSeq λ_=>(#[]:Array Value))).get? b=some o:=λb o e=>by
   have lt:b<s.heap.objs.size:=alE e
   rw [aIW _ _ _ _ (aOw (ae2 lt))]
   exact keep b o e
  generalize h1.update (s.heap.objs.size+1) (Obj.mapSeq λ_=>(#[]:Array Value))=h2 at *
  refine a6w (seqEpoch_at HH rfl ?_)
  refine a6w (wpAny_newTuple ?_ (by show its.length<=_; rw [a7z]; lia))
  refine a6w (wpAny_newList ?_ (aze _))
  refine aBl ?_
  have fr:H (s.heap.objs.size+1)=none:=I.hok.fresh (aO8 _)
  have h0:∀ o' u,X.H₀ (s.heap.objs.size+1)≠some (.bD o' u):=λo' u e=>by rw [I.base.gx _ _ _ e] at fr; cases fr
  have ho2:(h2.push (seqObj "tuple" its.toArray 0)).get? (s.heap.objs.size+1)=some (seqObj "list" #[] e1):=atD _ HH
  have I3:=I.laid (a:=s.heap.objs.size+1) (t':=s.toks) (o:=.bD (seqObj "list" #[] e1) (.lst [])) (h':=h2.push (seqObj "tuple" its.toArray 0)) (λb o e=>atD _ (wB b o e)) (aO8 _) ⟨ho2,aze _,[],e1,.nil,ho2⟩
  have tM:=I3.hok.fresh (aNS _)
  have I4:=I3.laid (t':=s.toks) (o:=.lst []) (h':=(h2.push (seqObj "tuple" its.toArray 0)).push (seqObj "list" #[] 0)) (λb o e=>atD _ e) (aNS _) ⟨aze _,[],0,.nil,aMS _ rfl⟩
  have zu:s.heap.objs.size+1≠(h2.push (seqObj "tuple" its.toArray 0)).objs.size:=Zb Za tM
  have sm:aq H (upd (upd H (s.heap.objs.size+1) (.bD (seqObj "list" #[] e1) (.lst []))) (h2.push (seqObj "tuple" its.toArray 0)).objs.size (.lst [])):=(Zf fr _).trans (Zf tM _)
  have HZ:H (h2.push (seqObj "tuple" its.toArray 0)).objs.size=none:=(Zf fr _).free tM
  have Dd:upd (upd H (s.heap.objs.size+1) (.bD (seqObj "list" #[] e1) (.lst []))) (h2.push (seqObj "tuple" its.toArray 0)).objs.size (.lst []) (h2.push (seqObj "tuple" its.toArray 0)).objs.size=some (.lst []):=Za
  have ha0:upd (upd H (s.heap.objs.size+1) (.bD (seqObj "list" #[] e1) (.lst []))) (h2.push (seqObj "tuple" its.toArray 0)).objs.size (.lst []) (s.heap.objs.size+1)=some (.bD (seqObj "list" #[] e1) (.lst [])):=by rw [Zc zu]; exact Za
  generalize upd (upd H (s.heap.objs.size+1) (.bD (seqObj "list" #[] e1) (.lst []))) (h2.push (seqObj "tuple" its.toArray 0)).objs.size (.lst [])=H4 at *
  show wpAny (model X.prog X.w) X.A.in1.in1 (ksk_rest (s.heap.objs.size+1) (.ref f) false its.toArray e1 (.ref (h2.push (seqObj "tuple" its.toArray 0)).objs.size)) _ _ { s with heap:=(h2.push (seqObj "tuple" its.toArray 0)).push (seqObj "list" #[] 0) }
  generalize (h2.push (seqObj "tuple" its.toArray 0)).objs.size=kS at *
  generalize (h2.push (seqObj "tuple" its.toArray 0)).push (seqObj "list" #[] 0)=h4 at *
  unfold ksk_rest
  refine a6w (aei ?_)
  rw [List.forIn_toArray]
  refine a6w (ksk_fold (λi s1=>∃ H1:Hp,Inv X pins σ H1 s1/\aq H H1/\H1 (s.heap.objs.size+1)=some (.bD (seqObj "list" #[] e1) (.lst []))/\H1 kS=some (.lst (((ns.take i).map key).map V.int))) its 0 _
   ⟨H4,I4,sm,ha0,Dd⟩ ?step ?done)
  case step =>
   rintro j x s1 hx ⟨H1,I1,s1',a1,k1⟩
   simp only [aPW] at k1 ⊢
   obtain ⟨z,t,hz',rfl⟩:=EV hv hx
   have hj:j<ns.length:=(aw7.mp hz').1
   refine a6w (wpAny_attempt (aPb (turn z (abg hz') H1 s1 _ s1' I1 ⟨t,rfl⟩) (λv s2 he=>?_) λ_ _ hF=>hF.elim))
   obtain ⟨v',H',I2,r2,rfl,rfl⟩:=he
   try dsimp only
   obtain ⟨_,mU,n,rK,HL,eK⟩:=I2.iP k1
   have lK:mU.length<=ns.length:=by
    have:=rK.length
    rw [aAt,aAt,a9v] at this
    lia
   refine a6w (aVF eK rfl ?_ (by rw [a5A,a7z]; lia) (by rw [Array.size_push,a5A,a7z]; lia))
   have ek:ns.take (j+1)=ns.take j++[z]:=by rw [avq,hz']; rfl
   have I5:=I2.jO (t':=s2.toks) (f:=(·.push v)) (its':=mU++[v]) (ys:=((ns.take (j+1)).map key).map V.int) k1 eK (by simp) (by rw [ek,awR,awR]; exact rK.append (.cons r2 .nil)) (by rw [aAt,aAt,a9v,a7z]; lia)
   refine adj ⟨rfl,_,I5,λb o y=>?_,?_,Za⟩
   .rw [Zc (Zb y HZ)]
    exact s1' _ _ y
   .rw [Zc zu]
    exact a1
  case done =>
   rintro s1 ⟨H1,I1,s1',a1,k1⟩
   rw [aPW,lv,afX] at k1
   obtain ⟨_,mU,n,rK,HL,eK⟩:=I1.iP k1
   try dsimp only
   refine a6w (listItems_at eK rfl ?_)
   refine RP (ns:=ns) (key:=key) I1 (by simpa using yj rK) hv nd h64 a1 h0 k1 (by rw [aAt,aAt]; lia) λH' s2 os I2 NH hD po so=>⟨_,rfl,?_⟩
   refine adj ⟨_,rfl,.ref (s.heap.objs.size+1),H',I2,rfl,q _ H' os fr (λb o y=>?_) hD po so⟩
   rw [NH b (Zb y fr) (Zb y HZ)]
   exact s1' _ _ y
end
end L2
namespace L2
open PySem PySem.Spec PyProof.Rows
structure dQ (P:Program) (w:World) (K:W.Frag) (mg:Str->Option Value) (base:Heap) (C:Addr) (m:Str) (k:Nat) (ps:List Str) (sp:Sp):Prop where
 ex:∃ (f:Addr) (fd:FuncData),aH P w K mg base bI k f fd ps sp/\Meth K C m f/\Binds K fd ps []
structure sJ (P:Program) (w:World) (K:W.Frag) (mg:Str->Option Value) (base:Heap) (C:Addr) (x:Str) (k:Nat) (ps:List Str) (sp:Sp):Prop where
 ex:∃ (f:Addr) (fd:FuncData),aH P w K mg base bI k f fd ps sp/\Mk K C f/\mg x=some (.ref C)/\Binds K fd ps []
section
variable {X:Cx} {x m:Str} {p pos apos:Pos} {e o:PySem.Expr} {es:List PySem.Expr} {ta:TE} {t:TA} {k:Nat} {ps:List Str} {sp:Sp} {C:Addr}
theorem ZN {pl:Sem Bool} (M:dQ X.prog X.w X.K X.mg X.base C m k ps sp) (hr:aY k X.A) (c:nS X.K C) (he:PE X o ta) (ha:PA X (e :: es) t) (hn:qE (e :: es):=by repeat' (first | exact True.intro | refine ⟨?_,?_⟩))
  (ht:eval (.Call (.Attribute o m apos) (e :: es) [] pos) X.env=(do
   let ov ← eval o X.env
   standAt apos.atName
   let (f,first) ← holding [ov] (getMethod ov m pl)
   callWith pos f first (backTo pos (starEach (e :: es) X.env)) (backToKw pos (keywordEach [] X.env))):=by rfl) :
  PE X (.Call (.Attribute o m apos) (e :: es) [] pos) (pL C m sp [] E0 ta t):=by
 obtain ⟨f,fd,F,hm,hb⟩:=M.ex
 exact Sa he c hm F hr hb .nil mH ha (oZ hn.1) (uh hn.2) ht
theorem Tp (M:sJ X.prog X.w X.K X.mg X.base C x k ps sp) (hr:aY (k+1) X.A) (hg:Gl X x) (ha:PA X (e :: es) t) (hn:qE (e :: es):=by repeat' (first | exact True.intro | refine ⟨?_,?_⟩)) (hd:(x == ("__debug__" : Str))=false:=by decide) :
  PE X (.Call (.Name x p) (e :: es) [] pos) (pM C sp [] E0 t):=by
 obtain ⟨f,fd,F,M',hm,hb⟩:=M.ex
 exact R9 M' F hr hg hm hb .nil mH ha (hdb:=hd) (he:=oZ hn.1) (hpl:=uh hn.2)
def Ni:TS:=λ_ _ _=>False
theorem mE {st:Stmt}:PS X st Ni:=λ_ _ _ _ _ _ h=>False.elim h
end
theorem bO.NI {P:Program} {w:World} {K:W.Frag} {mg:Str->Option Value} {base:Heap} {x qual:Str} {st:Stmt} {f:Addr} {fd:FuncData} {N ps:List Str} {k:Nat} {sp:Sp} (F:bO K x qual st f fd) (S:af N ps (Zg st)) (len:∀ vs H Q E,sp vs H Q E->vs.length=ps.length)
  (hbody:∀ (cdv:Value) (A:Around) (outer:List Env) (s:Shared) (H:Hp) (vs:List V) (Q:VK) (E:XK),fd.code=cdv->aY k (A.deeper (envOfC qual (Zg st) s.heap.objs.size f cdv))->sp vs H Q E ->
   ∃ t,kL (jm bI P w K mg base N qual (Zg st) f cdv A outer s H E).qQ (ZL st) t/\t { nx:=λ_ H'=>Q .aV H',rt:=Q } (start N vs) H):aH P w K mg base bI (k+1) f fd ps sp:=by
 obtain ⟨oc,od,kV,doc,pm,an,cdv,ct,osl,rfl,lk,hcd⟩:=F.ex
 refine ql lk hcd S len λA outer s H vs Q E hr kZ=>?_
 obtain ⟨t,h,q⟩:=hbody cdv A outer s H vs Q E rfl hr kZ
 exact ⟨t,h.qQ,q⟩
theorem oq {X:Cx} {K:W.Frag} {e:PySem.Expr} {f:Str} {pos:Pos} {ta:TE} (hK:X.K=K) (he:PE X e ta) (hb:attributeBase e f X.env (eval e X.env)=eval e X.env):PE X (.Attribute e f pos) (uZ K ta f):=by
 subst hK
 exact Rr he hb
def wu (eV:Scope) (oN:List Str) (scope:Scope) (x:Str) (fr:List Str) (js:List Nat):Bool :=
 scope.kind == .function && !scope.isCoroutine && !scope.isGenerator && scope.names.all (λy=>y.2 != .cell) && scope.names.lookup x == some .local &&
 scope.names.all (λy=>y.2 != .free || (eV.names.lookup y.1 == some .cell || eV.names.lookup y.1 == some .free)) && fr.length == js.length &&
 (js.map λj=>oN[j]?) == fr.map some && fr.all λy=>scope.names.lookup y == some .free
theorem To {X:Cx} {eV:Scope} {oN:List Str} {scope:Scope} {x:Str} {fr:List Str} {js:List Nat} (h:wu eV oN scope x fr js=true) (hs:X.env.scope=eV) (hN:X.N=oN):jA X scope x fr js:=by
 unfold wu at h
 simp only [ba6,aql,a09,aY8,bne_iff_ne,ne_eq,a6X] at h
 obtain ⟨⟨⟨⟨⟨⟨⟨⟨h1,h2⟩,h3⟩,h4⟩,h5⟩,h6⟩,h7⟩,h8⟩,h9⟩:=h
 refine ⟨h1,h2,h3,h4,h5,λy hy hf=>?_,h7,λk j e=>?_,λk y e=>h9 y (abg e)⟩
 .rcases h6 y hy with q | q
  .exact absurd hf q
  .show X.env.scope.names.lookup y.1=_\/X.env.scope.names.lookup y.1=_
   rw [hs]; exact q
 .rw [hN]
  have z:=a0A (λl=>l[k]?) h8
  simp only [aYu,e,aJJ] at z
  cases q:fr[k]? with
  | none=>rw [q] at z; cases z
  | some y=>rw [q] at z; exact (ado z).symm
theorem Ra {A:Around} {k:Nat} {env:Env} (hr:aY k A):(A.in1.in1.deeper env).units+1<cLine:=by
 have:=hr.un
 show A.units+1+1+3+1<cLine
 lia
def Jb (K:W.Frag) (P:Addr) (ji:Pos) (qual:Str) (js:List Nat) (te:TE) (σ:St) (Q:VK) (x:V) (H1:Hp):Prop:=∃ (l:Addr) (ns:List Int) (key:Int->Int),x=.ref l/\ak K H1 l (ns.map V.int)/\ns.length<64/\ns.Nodup/\H1 P=some (.iK ji qual) /\
 (∀ z∈ns,∀ H2,aq H1 H2->te (some (.int z) :: js.map λj=>(σ[j]?).join) H2 λv H'=>v=.int (key z)/\H'=H2) /\
 ∀ (D:Addr) (H':Hp) (os:List Int),H1 D=none->aq H1 H'->H' D=some (.lst (os.map V.int))->os.Perm ns->os.Pairwise (sI key ns)->Q (.ref D) H'
def Q9 (K:W.Frag) (P:Addr) (ji:Pos) (qual:Str) (js:List Nat) (yO te:TE):TE:=λσ H Q=>yO σ H λx H1=>Jb K P ji qual js te σ Q x H1
section
variable {X:Cx}
theorem Tn {K:W.Frag} {P c0:Addr} {k:Nat} {y:Str} {fr:List Str} {js:List Nat} {qual:Str} {params:Arguments} {body xs:PySem.Expr} {scope:Scope} {p pos ji kpos:Pos} {yO te:TE} (hK:X.K=K) (hr:aY k X.A) (hcl:X.calm=true) (hg:Gl X "sorted") (hm:X.mg "sorted" = none)
  (c:jA X scope y fr js) (hc0:X.env.code=.ref c0) (hcd:W.codeHdIn X.K c0 P=true) (bm:BMod X.base X.mg) (hq:X.env.qual ++ "<lambda>" = qual) (hd0:params.defaults=[]) (hk0:params.kw_defaults=[])
  (hb:∀ cl pm cd ct u,bindArgs (W.kla_fn "<lambda>" qual params body scope cl pm cd ct) ⟨[u],[]⟩=pure [(y,u)]) (ha:PE X xs yO)
  (he:∀ f cd cl s H,PE (gb X X.A.in1.in1 (y :: fr) qual scope f cd cl s H) body te) (hn:qE [xs]:=by repeat' (first | exact True.intro | refine ⟨?_,?_⟩)) :
  PE X (.Call (.Name "sorted" p) [xs] [⟨some "key",.Lambda params body scope ji,kpos⟩] pos) (Q9 K P ji qual js yO te):=by
 subst hK
 subst hq
 intro pins s σ H Q I h
 refine aSv (oh I hg hm boot_sorted ?_ (by decide) (by decide))
 refine callWith_kw (kR ((pc ha Zd hn.1) pos pins s σ H (λvs H1=>match vs with | [x]=>Jb X.K P ji (X.env.qual ++ "<lambda>") js te σ Q x H1 | _=>False) I h) λus s1 vs H1 I1 r1 q1=>?_) (by rw [oZ hn.1]; rfl) (by rw [oZ hn.1]; rfl) rfl rfl
 match vs,r1,q1 with
 | [],_,z=>exact z.elim
 | _ :: _ :: _,_,z=>exact z.elim
 | [x],r1,q1 =>
  obtain ⟨l,ns,key,rfl,hS,h64,nd,hP,ht,q⟩:=q1
  obtain ⟨u,rfl,ru⟩:=vals1 r1
  cases ru
  show wpAny _ _ (evalAll [(do let v ← eval (.Lambda params body scope ji) X.env; standAt pos; pure v)]) _ _ s1
  refine wpAny_evalAll_cons (a6w (Tt c I1 hc0 hcd bm hP hd0 hk0 λf cl cd pm ct of H2 s2 I2 sm gy i6 hf hof hcode=>a6w (aMG (adj (wpAny_evalAll_nil ?_)))))
  show wpAny _ _ (call (.builtin "sorted") [.ref l] [(Str.ofString "key",.ref f)]) _ _ s2
  refine Tq I2 (sm.seq hS) h64 nd (λz hz H3 s3 u BK I3 ru=>?_) λD H' os hD Nk hl po so=>q D H' os (sm.free hD) (sm.trans Nk) hl po so
  have NJ:=(I3.hok f _ (BK _ _ hf)).1
  obtain ⟨c',oc,vs',t',rfl,hc',hd',hv'⟩:=hcode
  have NP:=(I3.hok c' _ (BK _ _ hc')).1
  exact Tu (A:=X.A.in1.in1) c I3 I3.ok.frames (I3.ok.hd hcl) hr.depth gy i6 NJ hof ⟨c',oc,vs',t',rfl,NP,hd',hv'⟩ (hb cl pm _ ct) ru (λs=>he f _ cl s H3) (ht z hz H3 (sm.trans BK))
end
theorem UM {P:Program} {w:World} {K:W.Frag} {mg mb:Str->Option Value} {CX:ow} {k:Nat} {fa a tp c0:Addr} {pos:Pos} {qual:Str} {fd:FuncData} {x:Str} {sp:Sp} {s₁:Shared} {vs:List Value} {ns:List Int}
  (KX:K.In s₁.heap) (hns:s₁.heap.Ns mainGlobals mg) (hb:s₁.heap.Ns builtinsNs mb) (Pa:∀ x:Str,x ≠ "__name__" -> mb x=bootBuiltins x) (hlim:s₁.heap.NoLimit) (hg:s₁.gens=#[])
  (ha:s₁.heap.get? a=some { cls:=.type "list",data:=.seq vs.toArray }) (hi:IntsAre vs ns) (hl:ns.length<=sizeLine) (hr:aY k callerA)
  (htp:s₁.heap.get? tp=some { cls:=.none,data:=.fields #[] }) (hch:W.codeHdIn K c0 tp=true) (Pe:K.lookup tp=none)
  (hbm:BMod s₁.heap mg) (F:∀ base:Heap,K.In base->base.Ns mainGlobals mg->BMod base mg->aH P w K mg base CX k fa fd [x] sp) (hbind:∀ (s:Shared) (u:Value),BindsTo s fd ⟨[u],[]⟩ [(x,u)])
  (kZ:∀ H:Hp,H tp=some (.iK pos qual)->ak K H a (ns.map V.int)->sp [.ref a] H (λv _=>v=.bl true) λ_ _ _=>False)
  (Dm:∀ H e s',CX [] H s₁ (λ_ _ _=>False) e s'->False) :
  codeAny (model P w) callerA (.call (.ref fa) ⟨[.ref a],[]⟩) (λr s'=>r=.ok (.ret (.bool true))/\OldK s₁.heap s'.heap/\s'.os=s₁.os/\AllBare s'.gens) s₁:=by
 have rv:=Fv hi
 have CO:=hi.length
 have nat:a≠tp:=λz=>by rw [z,htp] at ha; cases ha
 have core:∀ H:Hp,H tp=some (.iK pos qual)->ak K H a (ns.map V.int)->dj P w H s₁.heap->(∀ b,H b≠none->b=tp\/(b=a/\∃ o xs,H b=some (.bD o (.lst xs))))->(H a≠none->K.lookup a=none) ->
   codeAny (model P w) callerA (.call (.ref fa) ⟨[.ref a],[]⟩) (λr s'=>r=.ok (.ret (.bool true))/\OldK s₁.heap s'.heap/\s'.os=s₁.os/\AllBare s'.gens) s₁:=by
  intro H hT hS hok hA hK
  have NV:∀ {b:Addr} {o:Obj} {es:Array DictEntry} {ep:Nat},s₁.heap.get? b=some o->o.data=.dict es ep->H b=none:=λ{b o es ep} e d=>by
   cases q:H b with
   | none=>rfl
   | some u =>
    rcases hA b (by rw [q]; simp) with z | ⟨z,_⟩
    .rw [z,htp] at e
     cases e
     cases d
    .rw [z,ha] at e
     cases e
     cases d
  have zg:∀ {b:Addr} {m:Str->Option Value},s₁.heap.Ns b m->(iR s₁.heap H).Ns b m:=λ{b m} ⟨o,es,ep,e,d,r⟩=>⟨o,es,ep,EZ e (NV e d),d,r⟩
  have HS:K.In (iR s₁.heap H):=λb o e=>EZ (KX b o e) (by
   cases q:H b with
   | none=>rfl
   | some u =>
    rcases hA b (by rw [q]; simp) with z | ⟨z,_⟩
    .rw [z,Pe] at e
     cases e
    .have n:H a≠none:=by rw [← z,q]; simp
     rw [z,hK n] at e
     cases e)
  have hM:Mod K mg (iR s₁.heap H):=⟨HS,zg hns,⟨mb,zg hb,Pa⟩,let ⟨mc,h1,h2⟩:=hlim; ⟨mc,zg h1,h2⟩⟩
  have e0:j0 P w K mg (iR s₁.heap H) callerA [] s₁ H:=⟨rfl,hM,λb o e=>RH e,Nat.le_of_eq (Vp _ _),trivial,λb hb=>absurd (show b∈([]:List Addr) from hb) (by simp),hok,.of_eq hg⟩
  have hB:BMod (iR s₁.heap H) mg:=by
   obtain ⟨b,o,a1,a2,a3,a4,a5,a6,a7⟩:=hbm
   refine ⟨b,o,a1,a2,a3,EZ a4 ?_,a5,a6,a7⟩
   cases q:H b with
   | none=>rfl
   | some u =>
    rcases hA b (by rw [q]; simp) with z | ⟨z,_⟩
    .rw [z,htp] at a4
     cases a4
     cases a5
    .rw [z,ha] at a4
     cases a4
     have a8:Value.type "list" = Value.type "module" := a5
     injection a8 with a8
     exact absurd a8 (by decide)
  refine codeAny_mono ((F _ HS (zg hns) hB).run callerA [] s₁ H ⟨[.ref a],[]⟩ [.ref a] [.ref a] _ _ hr e0 (hbind s₁ (.ref a)) (.cons rfl .nil) (kZ H hT hS)) λr s' h=>?_
  cases r with
  | error e=>exact (Dm H e s' h).elim
  | ok fl =>
   cases fl with
   | next=>exact False.elim h
   | brk=>exact False.elim h
   | cont=>exact False.elim h
   | ret u =>
    obtain ⟨v,H',os,bare,un,wL,r',q⟩:=h
    have q':v=.bl true:=q
    subst q'
    obtain rfl:u=Value.bool true:=r'
    have tab:=(W.codeHd_of_K KX hch).tab htp
    have t2:=wL tp _ (un.gF _ _ _ hT)
    obtain ⟨ps,hps,_⟩:=t2
    have old:∀ b o,s₁.heap.get? b=some o->b≠tp->s'.heap.get? b=some o:=λb o e nb=>by
     cases q:H b with
     | none=>exact un.keep b o e q (by intro z; exact absurd (show b∈([]:List Addr) from z) (by simp)) (by simp)
     | some u =>
      rcases hA b (by rw [q]; simp) with z | ⟨_,ob,xs,z⟩
      .exact absurd z nb
      .have z2:=un.gx b ob _ z
       obtain ⟨e1,_⟩:=hok b _ z
       obtain ⟨e2,_⟩:=wL b _ z2
       rw [e] at e1
       cases e1
       exact e2
    refine ⟨rfl,⟨λb o e=>?_,λb o e=>?_⟩,os,bare⟩
    .by_cases nb:b=tp
     .subst nb
      rw [htp] at e
      cases e
      exact .inr (.inl ⟨tab.isCodeTable,rfl,#[],ps,rfl,by rw [hps]; simp⟩)
     .exact .inl (old b o e nb)
    .by_cases nb:b=tp
     .subst nb
      exact ⟨_,hps⟩
     .exact ⟨o,old b o e nb⟩
 have tb:∀ H:Hp,aJ P w H s₁.heap tp (.iK pos qual):=λH=>⟨#[],htp,True.intro,λcv e=>by cases e⟩
 cases hk:K.lookup a with
 | some o =>
  have e:=KX a o hk
  rw [ha] at e
  cases e
  refine core (λb=>if b=tp then some (.iK pos qual) else none) (atn rfl) (.inr ⟨_,vs.toArray,_,hk,rfl,rfl,rfl,by rw [a5A,CO]; exact hl,by simpa using rv⟩) (λb u z=>?_) (λb z=>?_) λz=>absurd (amU nat) z
  .by_cases hb:b=tp
   .have z':=(atn hb).symm.trans z
    cases z'
    subst hb
    exact tb _
   .have z':=(amU hb).symm.trans z
    cases z'
  .by_cases hb:b=tp
   .exact .inl hb
   .exact absurd (amU hb) z
 | none =>
  refine core (λb=>if b=tp then some (.iK pos qual) else if b=a then some (.bD { cls:=.type "list",data:=.seq vs.toArray } (.lst (ns.map V.int))) else none) (atn rfl) (.inl (.inr ⟨{ cls:=.type "list",data:=.seq vs.toArray },(amU nat).trans (atn rfl)⟩)) (λb u z=>?_) (λb z=>?_) λ_=>hk
  .by_cases hb:b=tp
   .have z':=(atn hb).symm.trans z
    cases z'
    subst hb
    exact tb _
   .have z':=(amU hb).symm.trans z
    by_cases hb2:b=a
    .have z2:=(atn hb2).symm.trans z'
     cases z2
     subst hb2
     exact ⟨ha,by rw [aAt]; exact hl,vs,_,rv,ha⟩
    .have z2:=(amU hb2).symm.trans z'
     cases z2
  .by_cases hb:b=tp
   .exact .inl hb
   .by_cases hb2:b=a
    .exact .inr ⟨hb2,_,_,(amU hb).trans (atn hb2)⟩
    .exact absurd (by show (if b=tp then _ else if b=a then _ else none)=none; rw [amU hb,amU hb2]) z
theorem Tj {l:W.OpenLaw} {n k:Nat} {q:Program} {loose:List Str} {XP:(Str->Option Value)->Heap->Prop} {YP:World->Heap->Prop} {d:DefRec} {K:Params->W.Frag} {CX:World->ow} {sp:World->Sp} {x:Str} {tp:Addr} {pos:Pos} {qual:Str} {G:World->Prop}
  (hn:l.most=some n) (hn2:n<=sizeLine) (hdf:d.params.defaults=[]) (hr:aY k callerA)
  (hY:∀ (w:World) (h:Heap),YP w h->(K w.params).In h/\h.get? tp=some { cls:=.none,data:=.fields #[] })
  (F:∀ (w:World) (mg:Str->Option Value) (fa:Addr) (h:Heap),(K w.params).In h->h.Ns mainGlobals mg->mg d.name=some (.ref fa) ->
   G w/\(∃ c0,W.codeHdIn (K w.params) c0 tp=true)/\(K w.params).lookup tp=none/\∃ fd:FuncData,(∀ (s:Shared) (u:Value),BindsTo s fd ⟨[u],[]⟩ [(x,u)]) /\
    ∀ base:Heap,(K w.params).In base->base.Ns mainGlobals mg->BMod base mg->aH l.prog w (K w.params) mg base (CX w) k fa fd [x] (sp w))
  (kZ:∀ (w:World) (H:Hp) (a:Addr) (ns:List Int),G w->ns.length<=n->H tp=some (.iK pos qual)->ak (K w.params) H a (ns.map V.int)->sp w [.ref a] H (λv _=>v=.bl true) λ_ _ _=>False)
  (Dm:∀ (w:World) (H:Hp) (s:Shared) (e:Value) (s':Shared),CX w [] H s (λ_ _ _=>False) e s'->False) :
  W.WalkO q loose XP YP l.row.toRowW d [] (λf vs=>PySem.call f vs):=by
 refine Mw.jr hn hdf λw s₀ s₁ mg mb fa o pm cd doc a vs ns G' Y ho hd hcd hmg hobj hints hlen hg=>?_
 obtain ⟨KX,htp⟩:=hY w _ Y
 obtain ⟨g,⟨c0,hc⟩,hk,fd,hb,hF⟩:=F w mg fa _ KX G'.T.g hmg
 have hbm:BMod s₁.heap mg:=by
  obtain ⟨bm,ob,b1,b2,b3,b4,b5,b6⟩:=G'.T.bmain
  refine ⟨bm,ob,b1,b2,λz=>?_,b3,b4,b5,b6⟩
  obtain ⟨o,es,ep,e,hd',_⟩:=G'.T.g
  rw [z,e] at b3
  cases b3
  rw [hd'] at b6
  cases b6
 exact UM KX G'.T.g G'.T.b G'.T.builtins G'.T.nolimit hg hobj hints (ay9 hlen hn2) hr htp hc hk hbm hF hb (λH hT hS=>kZ w H a ns g hlen hT hS) λH e s'=>Dm w H s₁ e s'
def aD (K:W.Frag) (x:Str):Addr:=match W.nsIn K mainGlobals x with
 | some (some (.ref C))=>C
 | _=>0
def tabOf (K:W.Frag) (x m:Str):Addr:=match W.findIn K (.ref (aD K x)) m with
 | some (some (.ref f))=>(match K.lookup f with
  | some ⟨_,_,.func fd,_⟩=>(match fd.code with
   | .ref c=>(match K.lookup c with
    | some ⟨_,_,.fields vs,_⟩=>(match (vs[11]?:Option Value) with
     | some (.ref P)=>P
     | _=>0)
    | _=>0)
   | _=>0)
  | _=>0)
 | _=>0
theorem Ti {K:W.Frag} {x:Str} {C:Addr} (h:W.nsIn K mainGlobals x=some (some (.ref C))):aD K x=C:=by
 unfold aD
 rw [h]
theorem Th {K:W.Frag} {x m:Str} {f c P:Addr} {oc:Value} {od:Option Addr} {fd:FuncData} {sl:Array (Option Value)} (h1:W.findIn K (.ref (aD K x)) m=some (some (.ref f))) (h2:K.lookup f=some ⟨oc,od,.func fd,sl⟩) (h3:fd.code=.ref c)
  (h4:W.codeHdIn K c P=true):tabOf K x m=P:=by
 unfold W.codeHdIn at h4
 split at h4
 .rename_i vs _ hk
  simp only [ba6] at h4
  obtain ⟨⟨⟨⟨⟨e1,_⟩,_⟩,_⟩,_⟩,_⟩:=h4
  split at e1
  .rename_i P' h11
   have hP:P'=P:=aY8.mp e1
   subst hP
   unfold tabOf
   simp only [h1,h2,h3,hk,h11]
  .cases e1
 .cases h4
section
variable {X:Cx}
def vG:List V->Hp->VK->Prop:=λxs H Q=>xs=[]/\∀ q,H q=none->Q (.ref q) (upd H q (.set (λ_=>false) 0))
theorem UL:aU X (.type "set") vG:=by
 intro pins s σ H xs us Q I r h
 obtain ⟨rfl,q⟩:=h
 cases r
 refine call_set_0 λled=>⟨.ref s.heap.objs.size,_,I.laid (t':=s.toks) (o:=.set (λ_=>false) 0) (λb ob e=>atD _ e) (aNS _) ?_,rfl,q _ (I.hok.fresh (aNS _))⟩
 exact (setObjOf_fresh led).setOf (aMS _ rfl) (by decide)
def vH:V->List V->Hp->VK->Prop:=λx vs H Q=>∃ (p:Addr) (S:Int->Bool) (n:Nat) (k:Int),x=.ref p/\vs=[.int k]/\H p=some (.set S n)/\n<=1000/\Q .aV (upd H p (.set (λk'=>S k' || decide (k'=k)) (if S k then n else n+1)))
theorem RO:A1 X "set.add" vH:=by
 intro pins s σ H x vs v us Q I rx rv h
 obtain ⟨p,S,n,k,rfl,rfl,hp,hn,q⟩:=h
 cases rx
 obtain ⟨u,rfl,ru⟩:=rv.one
 obtain ⟨tk,rfl⟩:=ru
 have hS:s.heap.SetOf (intKind X.prog X.w) p S n:=I.hok p _ hp
 refine call_set_add (knd:=intKind X.prog X.w) (k:=k) (by simp [intKind,Value.isInt]) rfl hS (Nat.lt_of_le_of_lt (aBE hn 1) (by decide)) λh' sb hS'=>?_
 refine ⟨.aV,_,I.write (t':=s.toks+1) (x:=p) (e:=p) (o:=.set _ _) (by rw [hp]; exact True.intro) (.inl rfl) (λb o hb e=>(sb.2 b hb).trans e) ?_ hS',rfl,q⟩
 obtain ⟨o,_,_,_,ho,_⟩:=hS'
 exact ⟨o,ho⟩
end
end L2
namespace L2
open PySem PySem.F PyProof.Rows PySem.MeetsSeq
variable {K:W.Frag} {X:Cx} {pins:List Pin} {σ:St} {H:Hp} {s:Shared}
theorem jt {e:PySem.Expr} {T:String} {r:V->List V->Hp->VK->Prop} {to:TE} {t:TA} (hK:X.K=K) (h:PE X e (BF X.K T r to t)):PE X e (BF K T r to t):=by
 subst hK; exact h
end L2
namespace L2
open PySem PySem.Calls PyProof.Rows PySem.MeetsSeq PySem.W
variable {K:W.Frag} {X:Cx} {pins:List Pin} {σ:St} {H:Hp} {s:Shared}
theorem UK {K:W.Frag} {a:Addr} {xs:List V} {l:Addr} {g:TG} {tc:TT} {te:TE} {σ0:St} {H0:Hp} {Qf:Hp->Prop} (Pv:Nat->List V->St->Hp->Prop) (h0:Pv 0 [] σ0 H0)
  (hl:∀ i ys σ' H',i<=xs.length->Pv i ys σ' H'->ak K H' a xs)
  (hs:∀ i x t ys σ' H',i<xs.length->xs[i]?=some x->ys.length<=i->Pv i ys σ' H'->H' t=none->g (.ref t) σ' (upd H' t (.tup [.int i,x])) λσ2 H3=>tc σ2 H3 λb H4=>if b=true then te σ2 H4 λy H5=>eX xs.length l Pv i ys σ2 y H5 else lJ xs.length Pv i ys σ2 H4)
  (hd:∀ ys σ' H',ys.length<=xs.length->Pv xs.length ys σ' H'->Qf H') :
  ∃ W:Nat->Nat->List V->St->Hp->Prop,(∃ m,W 0 m [] σ0 H0)/\∀ i m ys σ' H',W i m ys σ' H' ->
  ((qG K a).stop i H'/\Qf H')\/((qG K a).go i H'/\∀ x H2,(qG K a).jB i H' x H2->g x σ' H2 λσ2 H3=>tc σ2 H3 λb H4 =>
    if b=true then te σ2 H4 λy H5=>H5 l=some (.lst ys)/\ys.length<sizeLine/\∃ m',m'<m/\W (i+1) m' (ys++[y]) σ2 (upd H5 l (.lst (ys++[y])))
    else ∃ m',m'<m/\W (i+1) m' ys σ2 H4):=by
 refine ⟨λi m ys σ' H'=>m=xs.length - i/\i<=xs.length/\ys.length<=i/\Pv i ys σ' H',⟨xs.length,rfl,aze _,aNS _,h0⟩,?_⟩
 rintro i m ys σ' H' ⟨rfl,hi,hy,p⟩
 have q:=hl i ys σ' H' hi p
 by_cases hlt:i<xs.length
 .refine .inr ⟨⟨xs,xs[i],q,by simp [hlt]⟩,λx H2 z=>?_⟩
  obtain ⟨t,u,ht,rfl,rfl,z1⟩:=z
  exact hs i u t ys σ' _ hlt (z1 xs q) hy p ht
 .have e:i=xs.length:=by lia
  subst e
  exact .inl ⟨⟨xs,q,rfl⟩,hd ys σ' H' hy p⟩
end L2
namespace L2
open PySem PySem.Calls PySem.Spec PyProof.Rows PySem.W
theorem aY.m {j k:Nat} {A:Around} (r:aY k A) (h:j<=k:=by first | decide | lia):aY j A:=r.mono h
section
variable {X:Cx} {pos:Pos}
theorem bS (i:Nat) {x:Str} (hN:X.N.Nodup) (hi:X.N[i]?=some x:=by rfl) (hx:Loc X.env.scope x:=by first | exact Or.inl rfl | exact Or.inr rfl) (hf:X.fn x=true\/X.env.scope.names.lookup x=some .local:=by first | exact .inl rfl | exact .inr rfl | assumption):PG X (.Name x pos) (bW i):=RG hN hi hx hf
theorem bM (i:Nat) {x:Str} {e:PySem.Expr} {te:TE} {pos':Pos} (hN:X.N.Nodup) (he:PE X e te) (hi:X.N[i]?=some x:=by rfl) (hx:Loc X.env.scope x:=by first | exact Or.inl rfl | exact Or.inr rfl) (hs:swapsWith e (some (.Name x pos')) pos.line X.env=pure false:=by rfl) (hf:X.fn x=true\/X.env.scope.names.lookup x=some .local:=by first | exact .inl rfl | exact .inr rfl | assumption):PS X (.Assign [.Name x pos'] e pos) (jG te (bW i)):=Rz hN hi hx he hs hf
end
end L2
namespace L2
open PySem PySem.F PyProof.Rows
variable {K:W.Frag} {X:Cx} {pins:List (Addr×Obj)} {σ:St} {H H':Hp} {s:Shared}
end L2
namespace L2
open PySem PySem.F PyProof.Rows PySem.MeetsSeq
variable {K:W.Frag} {X:Cx}
end L2
namespace L2.aB
open PySem PySem.Spec PyProof.Rows
structure RR where
 r:Keyed->Nat
 g:Keyed->Int
def Kg (ρ:RR) (xs:Array Keyed) (i:Nat):Int:=(xs[i]?).elim 0 ρ.g
theorem b7 {ρ:RR} {xs ys:Array Keyed} {i j:Nat} (h:xs[i]?=ys[j]?):Kg ρ xs i=Kg ρ ys j:=by unfold Kg; rw [h]
theorem iJ {ρ:RR} {xs:Array Keyed} {src d:Nat} (hs:src<xs.size) (hd:d<=src) (k:Nat) :
  Kg ρ (bubble xs src d) k=if k=src - d then Kg ρ xs src else if src - d<k/\k<=src then Kg ρ xs (k - 1) else Kg ρ xs k:=by
 have e:=getElem?_bubble hs d hd k
 by_cases c:k=src - d
 .rw [atn c] at e ⊢; exact b7 e
 .by_cases c2:src - d<k/\k<=src
  .rw [amU c,atn c2] at e ⊢; exact b7 e
  .rw [amU c,amU c2] at e ⊢; exact b7 e
theorem fQ {ρ:RR} {xs:Array Keyed} {i j:Nat} (hj:j<=xs.size) (k:Nat) :
  Kg ρ (mirror xs i j ((j - i) / 2)) k=if i<=k/\k<j then Kg ρ xs (i+j - 1 - k) else Kg ρ xs k:=by
 have e:=getElem?_mirror_all (i:=i) hj k
 by_cases c:i<=k/\k<j
 .rw [atn c] at e ⊢; exact b7 e
 .rw [amU c] at e ⊢; exact b7 e
theorem bN {ρ:RR} {xs:Array Keyed} {i j:Nat} (hj:j<=xs.size) (al:∀ k,i<=k->k<j->Kg ρ xs k=Kg ρ xs (j - 1)) (k:Nat):Kg ρ (mirror xs i j ((j - i) / 2)) k=Kg ρ xs k:=by
 rw [fQ hj]
 by_cases c:i<=k/\k<j
 .rw [atn c,al _ (by lia) (by lia),al k c.1 c.2]
 .rw [amU c]
def gC (prog:Program) (w:World) (A:Around) (s:Shared) (κ:SortKind) (ρ:RR) (a₀:Array Keyed):Prop :=
 ∀ p,p∈a₀.toList->∀ q,q∈a₀.toList->∀ (E:Value->Shared->Prop) (Q:Bool->Shared->Prop),Q (decide (ρ.g p<ρ.g q)) s->wpAny (model prog w) A (keyLt' κ p.1 q.1) Q E s
end L2.aB
namespace L2
open PySem PySem.Spec PyProof.Rows
section
open PySem.SeqAt
open PySem.AutoSeq1 (wpAny_loadPart')
open PySem.MeetsSeq PySem.MeetsSeq2 PySem.MeetsSeq3
end
section
variable {prog:Program} {w:World} {A:Around} {E:Value->Shared->Prop} {s:Shared}
def kT (h:Heap) (a:Addr) (us:List Value):Heap:=((h.update a (Obj.mapSeq λ_=>#[])).push (seqObj "tuple" us.toArray 0)).push (seqObj "list" #[] 0)
theorem SM {h:Heap} {a b:Addr} {us:List Value} {o:Obj} (n:b≠a) (e:h.get? b=some o):(kT h a us).get? b=some o :=
 atD _ (atD _ (by rw [aIW _ _ _ _ n]; exact e))
def l5 (h:Heap) (us:List Value):Heap:=((h.push (seqObj "list" #[] 0)).update h.objs.size (Obj.mapSeq (·++us.toArray))).push (seqObj "list" us.toArray 0)
theorem SK {h:Heap} {b:Addr} {us:List Value} {o:Obj} (e:h.get? b=some o):(l5 h us).get? b=some o :=
 atD _ (by rw [aIW _ _ _ _ (aOw (alE e))]; exact atD _ e)
end
variable {K:W.Frag} {X:Cx}
end L2
namespace L2.pC
open PySem PySem.Spec PyProof.Rows
def ug:Bool->Keyed->Array Keyed->Nat->Nat->Nat->StateT SortSt Sem (Option Nat):=sortPriv% PySem.Builtin.gallop
def ZR:Nat->StateT SortSt Sem Unit:=sortPriv% PySem.Builtin.setMinGallop
def EU:Array Keyed->Array Keyed->StateT SortSt Sem (Array Keyed):=sortPriv% PySem.Builtin.mergeLo
def ET:Array Keyed->Array Keyed->StateT SortSt Sem (Array Keyed):=sortPriv% PySem.Builtin.mergeHi
def qq (left:Bool) (key:Keyed) (arr:Array Keyed) (base i:Nat):StateT SortSt Sem (Option Bool):=do
 let x ← elem' arr (base+i)
 if left then lt' x key else return (← lt' key x).map (!·)
def oR (left:Bool) (key:Keyed) (arr:Array Keyed) (base n Oo hi0:Nat):StateT SortSt Sem (Option Nat):=do
 let mut lo:=Oo
 let mut hi:=hi0
 for _ in [0:n] do
  if lo ≥ hi then break
  let m:=lo+(hi - lo) / 2
  let some more ← qq left key arr base m | return none
  if more then lo:=m+1 else hi:=m
 return some hi
def HX (left:Bool) (key:Keyed) (arr:Array Keyed) (base n hint:Nat):StateT SortSt Sem (Option Nat):=do
 let mut fB:=0
 let mut kW:=1
 for _ in [0:n] do
  if kW ≥ n - hint then break
  let some more ← qq left key arr base (hint+kW) | return none
  if !more then break
  fB:=kW
  kW:=2 * kW+1
 oR left key arr base n (hint+fB+1) (hint+min kW (n - hint))
def HY (left:Bool) (key:Keyed) (arr:Array Keyed) (base n hint:Nat):StateT SortSt Sem (Option Nat):=do
 let mut fB:=0
 let mut kW:=1
 for _ in [0:n] do
  if kW ≥ hint+1 then break
  let some found ← qq left key arr base (hint - kW) | return none
  if found then break
  fB:=kW
  kW:=2 * kW+1
 oR left key arr base n (hint+1 - min kW (hint+1)) (hint - fB)
theorem U4 (left:Bool) (key:Keyed) (arr:Array Keyed) (base n hint:Nat):ug left key arr base n hint=(do
 let some right ← qq left key arr base hint | return none
 if right then HX left key arr base n hint else HY left key arr base n hint):=rfl
theorem Wx (g:Nat):ZR g=modify (λs=>SortSt.mk' (kindOf s) (arrOf s) (pendingOf s) g (failedOf s)):=rfl
theorem nC {σ α:Type} {M:Model} {A:Around} {E:Value->Shared->Prop} {s:Shared} {m m':StateT σ Sem α} {Q:α->σ->Prop} {st:σ} (e:m=m') (h:wpS M A E s m' Q st):wpAny M A (m st) (λr s'=>s'=s/\Q r.1 r.2) E s:=by subst e; exact h
section
variable {prog:Program} {w:World} {A:Around} {E:Value->Shared->Prop} {s:Shared} {a₀:Array Keyed} {κ:SortKind} {ρ:aB.RR}
theorem jh {st:SortSt} {p q:Keyed} {Q:Option Bool->SortSt->Prop} (hk:kindOf st=κ) (h0:aB.gC prog w A s κ ρ a₀) (mp:p∈a₀.toList) (mq:q∈a₀.toList) (h:Q (some (decide (ρ.g p<ρ.g q))) st):wpS (model prog w) A E s (lt' p q) Q st:=by
 rw [lt'_eq]
 refine a5F (ar4 ?_)
 rw [hk]
 exact a5F (wpS_lift (wpAny_attempt (h0 p mp q mq _ _ ⟨rfl,aju h⟩)))
theorem ZA {st:SortSt} {arr:Array Keyed} {i:Nat} {Q:Keyed->SortSt->Prop} (hi:i<arr.size) (h:Q arr[i] st):wpS (model prog w) A E s (elem' arr i) Q st:=by
 rw [elem'_eq,getElem?_pos arr i hi]
 exact aju h
theorem aZ {arr:Array Keyed} {i:Nat} (hi:i<arr.size):aB.Kg ρ arr i=ρ.g arr[i]:=by
 unfold aB.Kg
 rw [getElem?_pos arr i hi]
 rfl
def Bd (ρ:aB.RR) (left:Bool) (kv:Int) (arr:Array Keyed) (base i:Nat):Bool:=if left then decide (aB.Kg ρ arr (base+i)<kv) else !decide (kv<aB.Kg ρ arr (base+i))
theorem Q8 {st:SortSt} {left:Bool} {key:Keyed} {arr:Array Keyed} {base i:Nat} {Q:Option Bool->SortSt->Prop} (hk:kindOf st=κ) (h0:aB.gC prog w A s κ ρ a₀) (ha:∀ p∈arr.toList,p∈a₀.toList) (mk:key∈a₀.toList) (hi:base+i<arr.size) (h:Q (some (Bd ρ left (ρ.g key) arr base i)) st):wpS (model prog w) A E s (qq left key arr base i) Q st:=by
 unfold qq
 refine a5F (ZA hi ?_)
 have m:arr[base+i]∈a₀.toList:=ha _ (by simp)
 unfold Bd at h
 rw [aZ hi] at h
 cases left with
 | true =>
  simp only [a3p] at h ⊢
  exact jh hk h0 m mk h
 | false =>
  simp only [arS,aEJ] at h ⊢
  exact a5F (jh hk h0 mk m (aju h))
structure Cut (ρ:aB.RR) (left:Bool) (kv:Int) (arr:Array Keyed) (base n k:Nat):Prop where
 le:k<=n
 lo:∀ i,i<k->Bd ρ left kv arr base i=true
 hi:∀ i,k<=i->i<n->Bd ρ left kv arr base i=false
def dg (ρ:aB.RR) (arr:Array Keyed) (a b:Nat):Prop:=∀ i j,a<=i->i<=j->j<b->aB.Kg ρ arr i<=aB.Kg ρ arr j
theorem RN {left:Bool} {kv:Int} {arr:Array Keyed} {base n i j:Nat} (hs:dg ρ arr base (base+n)) (hij:i<=j) (hj:j<n) (h:Bd ρ left kv arr base j=true):Bd ρ left kv arr base i=true:=by
 have q:=hs (base+i) (base+j) (by lia) (by lia) (by lia)
 unfold Bd at h ⊢
 cases left with
 | true =>
  simp only [a3p,a8m] at h ⊢
  lia
 | false =>
  simp only [arS,aEJ,a6X,a8x] at h ⊢
  lia
section
variable {st:SortSt} {left:Bool} {key:Keyed} {arr:Array Keyed} {base n:Nat} {Q:Option Nat->SortSt->Prop} {P:Nat->Bool}
theorem Kd {lo hi:Nat} (B:∀ {i:Nat} {Q:Option Bool->SortSt->Prop},i<n->Q (some (P i)) st->wpS (model prog w) A E s (qq left key arr base i) Q st)
  (up:∀ {i j:Nat},i<=j->j<n->P j=true->P i=true) (dn:∀ {i j:Nat},i<=j->j<n->P i=false->P j=false)
  (h:∀ k,k<=n->(∀ i,i<k->P i=true)->(∀ i,k<=i->i<n->P i=false)->Q (some k) st)
  (OT:lo<=hi) (OW:hi<=n) (u1:∀ i,i<lo->P i=true) (u2:∀ i,hi<=i->i<n->P i=false):wpS (model prog w) A E s (oR left key arr base n lo hi) Q st:=by
 unfold oR
 refine a5F (bca (aub (I:=λx c st2=>st2=st/\∃ l r,c=(none,l,r)/\l<=r/\r<=n/\r - l<=n - x/\(∀ i,i<l->P i=true)/\(∀ i,r<=i->i<n->P i=false))
  (Q:=λc st2=>st2=st/\∃ r,c=(none,r,r)/\r<=n/\(∀ i,i<r->P i=true)/\(∀ i,r<=i->i<n->P i=false)) ?iturn ?ilast ?ifirst) ?iafter)
 case ifirst=>exact ⟨rfl,lo,hi,rfl,OT,OW,by lia,u1,u2⟩
 case ilast =>
  rintro c st2 ⟨rfl,l,r,rfl,hlr,hrk,hm,u1,u2⟩
  have e:l=r:=by lia
  subst e
  exact ⟨rfl,l,rfl,hrk,u1,u2⟩
 case iturn =>
  rintro x c st2 _ hxk ⟨rfl,l,r,rfl,hlr,hrk,hm,u1,u2⟩
  dsimp only
  by_cases hge:l ≥ r
  .rw [atn hge]
   have e:l=r:=by lia
   subst e
   exact aju ⟨rfl,l,rfl,hrk,u1,u2⟩
  .rw [amU hge]
   refine a5F (B (by lia) ?_)
   dsimp only
   cases c:P (l+(r - l) / 2) with
   | true =>
    rw [atn rfl]
    exact aju ⟨rfl,l+(r - l) / 2+1,r,rfl,by lia,by lia,by lia,λi p=>up (j:=l+(r - l) / 2) (by lia) (by lia) c,u2⟩
   | false =>
    rw [amU (by simp)]
    exact aju ⟨rfl,l,l+(r - l) / 2,rfl,by lia,by lia,by lia,u1,λi p q=>dn p q c⟩
 case iafter =>
  rintro c st2 ⟨rfl,r,rfl,OO,u1,u2⟩
  exact aju (h r OO u1 u2)
end
theorem uC {st:SortSt} {left:Bool} {key:Keyed} {arr:Array Keyed} {base n hint:Nat} {Q:Option Nat->SortSt->Prop} (hk:kindOf st=κ) (h0:aB.gC prog w A s κ ρ a₀) (ha:∀ p∈arr.toList,p∈a₀.toList) (mk:key∈a₀.toList) (hb:base+n<=arr.size) (hh:hint<n) (hs:dg ρ arr base (base+n))
  (h:∀ k,Cut ρ left (ρ.g key) arr base n k->Q (some k) st):wpS (model prog w) A E s (ug left key arr base n hint) Q st:=by
 rw [U4]
 have B:∀ {i:Nat} {Q:Option Bool->SortSt->Prop},i<n->Q (some (Bd ρ left (ρ.g key) arr base i)) st->wpS (model prog w) A E s (qq left key arr base i) Q st:=λ{i Q} hi hq=>Q8 hk h0 ha mk (by lia) hq
 have up:∀ {i j:Nat},i<=j->j<n->Bd ρ left (ρ.g key) arr base j=true->Bd ρ left (ρ.g key) arr base i=true:=λhij hj hq=>RN hs hij hj hq
 have h:=λk c1 c2 c3=>h k ⟨c1,c2,c3⟩
 generalize Bd ρ left (ρ.g key) arr base=P at *
 have dn:∀ {i j:Nat},i<=j->j<n->P i=false->P j=false:=λ{i j} hij hj hq=>by
  cases e:P j with
  | false=>rfl
  | true=>rw [up hij hj e] at hq; exact hq
 refine a5F (B hh ?_)
 dsimp only
 cases e:P hint with
 | true =>
  rw [atn rfl]
  unfold HX
  refine a5F (bca (aub (I:=λx c st2=>st2=st/\∃ l o,c=(none,l,o)/\l<o/\x+1<=o/\hint+l<n/\P (hint+l)=true)
   (Q:=λc st2=>st2=st/\∃ l o,c=(none,l,o)/\l<o/\hint+l<n/\P (hint+l)=true/\(n - hint<=o\/hint+o<n/\P (hint+o)=false)) ?jturn ?jlast ?jfirst) ?jafter)
  case jfirst=>exact ⟨rfl,0,1,rfl,by lia,by lia,by lia,e⟩
  case jlast =>
   rintro c st2 ⟨rfl,l,o,rfl,hlo,CZ,iZ,hp⟩
   exact ⟨rfl,l,o,rfl,hlo,iZ,hp,.inl (by lia)⟩
  case jturn =>
   rintro x c st2 _ hxk ⟨rfl,l,o,rfl,hlo,CZ,iZ,hp⟩
   dsimp only
   by_cases hge:o ≥ n - hint
   .rw [atn hge]
    exact aju ⟨rfl,l,o,rfl,hlo,iZ,hp,.inl hge⟩
   .rw [amU hge]
    refine a5F (B (by lia) ?_)
    dsimp only
    cases c:P (hint+o) with
    | true =>
     rw [amU (by simp)]
     exact aju ⟨rfl,o,2 * o+1,rfl,by lia,by lia,by lia,c⟩
    | false =>
     rw [atn (by simp)]
     exact aju ⟨rfl,l,o,rfl,hlo,iZ,hp,.inr ⟨by lia,c⟩⟩
  case jafter =>
   rintro c st2 ⟨rfl,l,o,rfl,hlo,iZ,hp,ho⟩
   refine Kd B up dn h (by dsimp only; lia) (by dsimp only; lia) (λi hi=>up (j:=hint+l) (by dsimp only at hi; lia) iZ hp) (λi p q=>?_)
   dsimp only at p
   rcases ho with ho | ⟨ho,c⟩
   .lia
   .exact dn (i:=hint+o) (by lia) q c
 | false =>
  rw [amU (by simp)]
  unfold HY
  refine a5F (bca (aub (I:=λx c st2=>st2=st/\∃ l o,c=(none,l,o)/\l<o/\x+1<=o/\l<=hint/\P (hint - l)=false)
   (Q:=λc st2=>st2=st/\∃ l o,c=(none,l,o)/\l<o/\l<=hint/\P (hint - l)=false/\(hint+1<=o\/o<=hint/\P (hint - o)=true)) ?kturn ?klast ?kfirst) ?kafter)
  case kfirst=>exact ⟨rfl,0,1,rfl,by lia,by lia,by lia,e⟩
  case klast =>
   rintro c st2 ⟨rfl,l,o,rfl,hlo,CZ,iZ,hp⟩
   exact ⟨rfl,l,o,rfl,hlo,iZ,hp,.inl (by lia)⟩
  case kturn =>
   rintro x c st2 _ hxk ⟨rfl,l,o,rfl,hlo,CZ,iZ,hp⟩
   dsimp only
   by_cases hge:o ≥ hint+1
   .rw [atn hge]
    exact aju ⟨rfl,l,o,rfl,hlo,iZ,hp,.inl hge⟩
   .rw [amU hge]
    refine a5F (B (by lia) ?_)
    dsimp only
    cases c:P (hint - o) with
    | true =>
     rw [atn rfl]
     exact aju ⟨rfl,l,o,rfl,hlo,iZ,hp,.inr ⟨by lia,c⟩⟩
    | false =>
     rw [amU (by simp)]
     exact aju ⟨rfl,o,2 * o+1,rfl,by lia,by lia,by lia,c⟩
  case kafter =>
   rintro c st2 ⟨rfl,l,o,rfl,hlo,iZ,hp,ho⟩
   refine Kd B up dn h (by dsimp only; lia) (by dsimp only; lia) (λi hi=>?_) (λi p q=>dn (i:=hint - l) (by dsimp only at p; lia) q hp)
   dsimp only at hi
   rcases ho with ho | ⟨ho,c⟩
   .lia
   .exact up (j:=hint - o) (by lia) (by lia) c
end
def Lk (ρ:aB.RR) (x y:Keyed):Prop:=ρ.g x<=ρ.g y
structure MI (ρ:aB.RR) (A B out:List Keyed) (ia ib:Nat):Prop where
 perm:(out++A.drop ia++B.drop ib).Perm (A++B)
 sa:(out++A.drop ia).Pairwise (Lk ρ)
 sb:(out++B.drop ib).Pairwise (Lk ρ)
section
variable {ρ:aB.RR} {A B out:List Keyed} {ia ib:Nat}
theorem MI.fS (h:MI ρ A B out ia ib) (k:Nat) (hk:∀ t∈(B.drop ib).take k,∀ x∈A.drop ia,ρ.g t<=ρ.g x):MI ρ A B (out++(B.drop ib).take k) ia (ib+k):=by
 have e:B.drop (ib+k)=(B.drop ib).drop k:=by rw [drop_drop]
 have s:=h.sb
 have p:=h.perm
 rw [← a6I k (B.drop ib)] at s p
 refine ⟨?_,?_,?_⟩
 .rw [e]
  refine List.Perm.trans ?_ p
  rw [aRm out,aRm out,aRm out,← aRm (A.drop ia)]
  exact (List.Perm.append_right _ arY).append_left _
 .have s1:(out++(B.drop ib).take k).Pairwise (Lk ρ):=by
   rw [← aRm] at s
   exact (a1x.1 s).1
  have a1:=a1x.1 h.sa
  refine a1x.2 ⟨s1,a1.2.1,λx hx y hy=>?_⟩
  rcases aJX.1 hx with hx | hx
  .exact a1.2.2 x hx y hy
  .exact hk x hx y hy
 .rw [e,aRm]
  exact s
theorem MI.ir (h:MI ρ A B out ia ib) (k:Nat) (hk:∀ t∈(A.drop ia).take k,∀ x∈B.drop ib,ρ.g t<=ρ.g x):MI ρ A B (out++(A.drop ia).take k) (ia+k) ib:=by
 have h2:MI ρ B A out ib ia:=⟨by
  refine List.Perm.trans ?_ (List.Perm.trans h.perm arY)
  rw [aRm,aRm]
  exact arY.append_left _,h.sb,h.sa⟩
 have h3:=h2.fS k hk
 refine ⟨?_,h3.sb,h3.sa⟩
 refine List.Perm.trans ?_ (List.Perm.trans h3.perm arY)
 rw [aRm _ (A.drop _),aRm _ (B.drop _)]
 exact arY.append_left _
def Res (ρ:aB.RR) (A B:List Keyed) (r:Array Keyed):Prop:=r.toList.Perm (A++B)/\r.toList.Pairwise (Lk ρ)
theorem zN (a:Array Keyed) (i:Nat):(a.extract i a.size).toList=a.toList.drop i:=by
 rw [aWH,List.extract_eq_drop_take]
 exact a6G (by simp)
theorem Ex (a:Array Keyed) (i k:Nat):(a.extract i (i+k)).toList=(a.toList.drop i).take k:=by
 rw [aWH,List.extract_eq_drop_take]
 congr 1
 lia
theorem MI.res {a b out:Array Keyed} (h:MI ρ a.toList b.toList out.toList ia ib) (he:a.toList.drop ia=[]\/b.toList.drop ib=[]):Res ρ a.toList b.toList (out++a.extract ia a.size++b.extract ib b.size):=by
 unfold Res
 rw [aP3,aP3,zN,zN]
 refine ⟨h.perm,?_⟩
 rcases he with he | he
 .rw [he,amK]; exact h.sb
 .rw [he,amK]; exact h.sa
theorem MI.last {a b out:Array Keyed} (h:MI ρ a.toList b.toList out.toList ia ib) (hl:∀ y∈b.toList,∀ x∈a.toList.drop (a.size - 1),ρ.g y<=ρ.g x) (he:ia+1=a.size):Res ρ a.toList b.toList (out++b.extract ib b.size++a.extract ia a.size):=by
 have e:ia=a.size - 1:=by lia
 have h2:=h.fS (b.toList.length) (λt ht x hx=>hl t (List.mem_of_mem_drop (mem_of_mem_take ht)) x (by rw [← e]; exact hx))
 have e2:(b.toList.drop ib).take b.toList.length=b.toList.drop ib:=a6G (by simp)
 have e3:b.toList.drop (ib+b.toList.length)=[]:=awl (by lia)
 rw [e2] at h2
 unfold Res
 rw [aP3,aP3,zN,zN]
 refine ⟨?_,h2.sa⟩
 have:=h2.perm
 rw [e3,amK] at this
 exact this
end
abbrev lG:=Option (Array Keyed)×Array Keyed×Nat×Nat×Nat×Nat×Nat
def zA (a b out:Array Keyed) (ia ib g k k1:Nat):StateT SortSt Sem (ForInStep lG):=do
 let x ← elem' a ia
 if ia+1+1 == a.size then pure (.done (some (out.push x++b.extract ib b.size++a.extract (ia+1) a.size),out.push x,ia+1,ib,g,k,k1))
 else if k<7 && k1<7 then pure (.done (none,out.push x,ia+1,ib,g,k,k1)) else pure (.yield (none,out.push x,ia+1,ib,g,k,k1))
def lo2 (a b out:Array Keyed) (ia ib g k bc:Nat):StateT SortSt Sem (ForInStep lG):=do
 let x ← elem' b ib
 if ib+1 == b.size then pure (.done (some (out.push x++a.extract ia a.size++b.extract (ib+1) b.size),out.push x,ia,ib+1,g,k,bc))
 else do
  let y ← elem' a ia
  let r ← ug true y b (ib+1) (b.size - (ib+1)) 0
  match r with
  | some k1 =>
   if k1 > 0 then
    if ib+1+k1 == b.size then pure (.done (some (out.push x++b.extract (ib+1) (ib+1+k1)++a.extract ia a.size++b.extract (ib+1+k1) b.size),out.push x++b.extract (ib+1) (ib+1+k1),ia,ib+1+k1,g,k,k1))
    else zA a b (out.push x++b.extract (ib+1) (ib+1+k1)) ia (ib+1+k1) g k k1
   else zA a b (out.push x) ia (ib+1) g k k1
  | none=>pure (.done (some (out.push x++a.extract ia a.size++b.extract (ib+1) b.size),out.push x,ia,ib+1,g,k,bc))
def lo1 (a b out:Array Keyed) (ia ib g ac bc:Nat):StateT SortSt Sem (ForInStep lG):=do
 ZR g
 let y ← elem' b ib
 let r ← ug false y a ia (a.size - ia) 0
 match r with
 | some k =>
  if k > 0 then
   if ia+k+1 == a.size then pure (.done (some (out++a.extract ia (ia+k)++b.extract ib b.size++a.extract (ia+k) a.size),out++a.extract ia (ia+k),ia+k,ib,g,k,bc))
   else if ia+k == a.size then pure (.done (some (out++a.extract ia (ia+k)++a.extract (ia+k) a.size++b.extract ib b.size),out++a.extract ia (ia+k),ia+k,ib,g,k,bc))
   else lo2 a b (out++a.extract ia (ia+k)) (ia+k) ib g k bc
  else lo2 a b out ia ib g k bc
 | none=>pure (.done (some (out++a.extract ia a.size++b.extract ib b.size),out,ia,ib,g,ac,bc))
abbrev pJ:=Option (Array Keyed)×Array Keyed×Nat×Nat×Nat×Nat
def zy (a b:Array Keyed) (mg:Nat) (c:pJ):StateT SortSt Sem (ForInStep pJ):=do
 let y ← elem' b c.2.2.2.1
 let x ← elem' a c.2.2.1
 let r ← lt' y x
 match r with
 | some w =>
  if w then do
   let y ← elem' b c.2.2.2.1
   if c.2.2.2.1+1 == b.size then pure (.done (some (c.2.1.push y++a.extract c.2.2.1 a.size++b.extract (c.2.2.2.1+1) b.size),c.2.1.push y,c.2.2.1,c.2.2.2.1+1,0,c.2.2.2.2.2+1))
   else if c.2.2.2.2.2+1 ≥ mg then pure (.done (none,c.2.1.push y,c.2.2.1,c.2.2.2.1+1,0,c.2.2.2.2.2+1))
   else pure (.yield (none,c.2.1.push y,c.2.2.1,c.2.2.2.1+1,0,c.2.2.2.2.2+1))
  else do
   let x ← elem' a c.2.2.1
   if c.2.2.1+1+1 == a.size then pure (.done (some (c.2.1.push x++b.extract c.2.2.2.1 b.size++a.extract (c.2.2.1+1) a.size),c.2.1.push x,c.2.2.1+1,c.2.2.2.1,c.2.2.2.2.1+1,0))
   else if c.2.2.2.2.1+1 ≥ mg then pure (.done (none,c.2.1.push x,c.2.2.1+1,c.2.2.2.1,c.2.2.2.2.1+1,0))
   else pure (.yield (none,c.2.1.push x,c.2.2.1+1,c.2.2.2.1,c.2.2.2.2.1+1,0))
 | none=>pure (.done (some (c.2.1++a.extract c.2.2.1 a.size++b.extract c.2.2.2.1 b.size),c.2.1,c.2.2.1,c.2.2.2.1,c.2.2.2.2.1,c.2.2.2.2.2))
abbrev sD:=Option (Array Keyed)×Array Keyed×Nat×Nat×Nat
def zx (a b:Array Keyed) (c:sD):StateT SortSt Sem (ForInStep sD):=do
 let d ← forIn [0:a.size+b.size] ((none,c.2.1,c.2.2.1,c.2.2.2.1,0,0):pJ) (λ_ d=>zy a b c.2.2.2.2 d)
 match d.1 with
 | some r=>pure (.done (some r,d.2.1,d.2.2.1,d.2.2.2.1,c.2.2.2.2))
 | none=>do
  rule "list.sort.gallop"
  let e ← forIn [0:a.size+b.size] ((none,d.2.1,d.2.2.1,d.2.2.2.1,c.2.2.2.2+1,d.2.2.2.2.1,d.2.2.2.2.2):lG) (λ_ e=>if e.2.2.2.2.1 > 1 then lo1 a b e.2.1 e.2.2.1 e.2.2.2.1 (e.2.2.2.2.1 - 1) e.2.2.2.2.2.1 e.2.2.2.2.2.2 else lo1 a b e.2.1 e.2.2.1 e.2.2.2.1 e.2.2.2.2.1 e.2.2.2.2.2.1 e.2.2.2.2.2.2)
  match e.1 with
  | some r=>pure (.done (some r,e.2.1,e.2.2.1,e.2.2.2.1,e.2.2.2.2.1))
  | none=>do
   ZR (e.2.2.2.2.1+1)
   pure (.yield (none,e.2.1,e.2.2.1,e.2.2.2.1,e.2.2.2.2.1+1))
theorem U3 {M:Model} {A:Around} {E:Value->Shared->Prop} {s:Shared} {Q:Array Keyed->SortSt->Prop} {st:SortSt} (a b:Array Keyed) (h:wpS M A E s (do
 rule "list.sort.merge-lo"
 let x ← elem' b 0
 if 1 == b.size then pure (#[x]++a.extract 0 a.size++b.extract 1 b.size)
 else if 0+1 == a.size then pure (#[x]++b.extract 1 b.size++a.extract 0 a.size)
 else do
  let st ← get
  let c ← forIn [0:a.size+b.size] ((none,#[x],0,1,gallopOf st):sD) (λ_ c=>zx a b c)
  match c.1 with
  | some r=>pure r
  | none=>unsupported "internal:list.sort.merge-bound") Q st):wpS M A E s (EU a b) Q st:=by
 show wpAny M A (EU a b st) _ E s
 wp_delta
 wp_delta
 refine nC ?_ h
 dsimp only
 refine avJ λ_=>avJ λx=>?_
 congr 1
 congr 1
 refine avJ λst=>?_
 congr 1
 .congr 1
  funext _ c
  unfold zx
  congr 1
  .congr 1
   funext _ d
   unfold zy
   refine avJ λy=>avJ λx=>avJ λr=>?_
   cases r with
   | some w =>
    cases w with
    | true=>rfl
    | false=>rfl
   | none=>rfl
  .funext d
   cases d.1 with
   | some r=>rfl
   | none =>
    dsimp only
    refine avJ λ_=>?_
    congr 1
    .congr 1
     funext _ e
     congr 1
     all_goals
      unfold lo1
      refine avJ λ_=>avJ λy=>avJ λr=>?_
      cases r with
      | none=>rfl
      | some k =>
       dsimp only
       congr 1
       .congr 1
        congr 1
        unfold lo2
        refine avJ λx=>?_
        congr 1
        refine avJ λy=>avJ λr=>?_
        cases r with
        | none=>rfl
        | some k1=>rfl
       .unfold lo2
        refine avJ λx=>?_
        congr 1
        refine avJ λy=>avJ λr=>?_
        cases r with
        | none=>rfl
        | some k1=>rfl
    .funext e
     cases e.1 with
     | some r=>rfl
     | none=>rfl
 .funext c
  cases c.1 with
  | some r=>rfl
  | none=>rfl
def Sm (st st':SortSt):Prop:=kindOf st'=kindOf st/\arrOf st'=arrOf st/\pendingOf st'=pendingOf st/\failedOf st'=failedOf st
theorem Sm.refl (st:SortSt):Sm st st:=⟨rfl,rfl,rfl,rfl⟩
theorem Sm.trans {a b c:SortSt} (h:Sm a b) (h':Sm b c):Sm a c:=⟨h'.1.trans h.1,h'.2.1.trans h.2.1,h'.2.2.1.trans h.2.2.1,h'.2.2.2.trans h.2.2.2⟩
section
variable {prog:Program} {w:World} {A:Around} {E:Value->Shared->Prop} {s:Shared} {a₀:Array Keyed} {κ:SortKind} {ρ:aB.RR} {a b:Array Keyed}
theorem zM {st:SortSt} {g:Nat} {Q:Unit->SortSt->Prop} (h:∀ st',Sm st st'->Q () st'):wpS (model prog w) A E s (ZR g) Q st:=by
 rw [Wx]
 exact aQM (h _ ⟨rfl,rfl,rfl,rfl⟩)
theorem Ja (h:a.toList.Pairwise (Lk ρ)) (i j:Nat):dg ρ a i (i+(a.size - i)):=by
 intro x y hx hxy hy
 have hy':y<a.size:=by lia
 rw [aZ (show x<a.size by lia),aZ hy']
 by_cases e:x=y
 .subst e; lia
 .exact a4Q.1 h x y (by simpa using (show x<a.size by lia)) (by simpa using hy') (by lia)
theorem VH {i:Nat} {x:Keyed} (h:x∈a.toList.drop i):∃ j,∃ hj:i+j<a.size,x=a[i+j]:=by
 obtain ⟨j,hj,e⟩:=a6Q.1 h
 rw [ad0,aHK] at hj
 refine ⟨j,by lia,?_⟩
 rw [← e,getElem_drop,a89]
theorem VG {i k:Nat} {x:Keyed} (h:x∈(a.toList.drop i).take k):∃ j,j<k/\∃ hj:i+j<a.size,x=a[i+j]:=by
 obtain ⟨j,hj,e⟩:=a6Q.1 h
 rw [a9v,ad0,aHK] at hj
 refine ⟨j,by lia,by lia,?_⟩
 rw [← e,getElem_take,getElem_drop,a89]
theorem Cut.low {left:Bool} {kv:Int} {i k:Nat} (h:Cut ρ left kv a i (a.size - i) k) {x:Keyed} (hx:x∈(a.toList.drop i).take k):ρ.g x<=kv:=by
 obtain ⟨j,hj,hs,rfl⟩:=VG hx
 have:=h.lo j hj
 unfold Bd at this
 rw [aZ hs] at this
 cases left with
 | true=>simp only [a3p,a8m] at this; lia
 | false=>simp only [arS,aEJ,a6X,a8x] at this; lia
theorem Cut.high {left:Bool} {kv:Int} {i k:Nat} (h:Cut ρ left kv a i (a.size - i) k) {x:Keyed} (hx:x∈a.toList.drop (i+k)):kv<=ρ.g x:=by
 obtain ⟨j,hs,rfl⟩:=VH hx
 have:=h.hi (k+j) (by lia) (by lia)
 unfold Bd at this
 rw [show i+(k+j)=i+k+j by lia,aZ hs] at this
 cases left with
 | true=>simp only [a3p,a8x] at this; lia
 | false=>simp only [arS,aEJ,Bool.not_eq_false',a8m] at this; lia
theorem xU {i:Nat} (hi:i<a.size):(a.toList.drop i).take 1=[a[i]]:=by
 rw [aLh (by simpa using hi)]
 rfl
theorem AH {i:Nat} (hi:i<a.size) (h:(a.toList.drop i).Pairwise (Lk ρ)) {x:Keyed} (hx:x∈a.toList.drop i):ρ.g a[i]<=ρ.g x:=by
 rw [aLh (by simpa using hi)] at h hx
 rcases ac0.1 hx with rfl | hx
 .exact aEQ _
 .exact (List.pairwise_cons.1 h).1 x hx
structure uF (ρ:aB.RR) (a₀ a b:Array Keyed):Prop where
 ma:∀ p∈a.toList,p∈a₀.toList
 mb:∀ p∈b.toList,p∈a₀.toList
 sa:a.toList.Pairwise (Lk ρ)
 sb:b.toList.Pairwise (Lk ρ)
 last:∀ y∈b.toList,∀ x∈a.toList.drop (a.size - 1),ρ.g y<=ρ.g x
def Jm (ρ:aB.RR) (a b:Array Keyed) (m:Nat) (out:Array Keyed) (ia ib:Nat):Prop:=MI ρ a.toList b.toList out.toList ia ib/\m<=ia+ib/\ia+1<a.size/\ib<b.size
def Mg (ρ:aB.RR) (a b:Array Keyed) (m:Nat) (c:lG):Prop:=(∃ r q,c=(some r,q)/\Res ρ a.toList b.toList r)\/∃ out ia ib g k k1,c=(none,out,ia,ib,g,k,k1)/\Jm ρ a b m out ia ib
def Gy (ρ:aB.RR) (a b:Array Keyed) (m:Nat) (st:SortSt) (r:ForInStep lG) (st':SortSt):Prop:=Sm st st'/\match r with
 | .done c=>Mg ρ a b m c
 | .yield c=>∃ out ia ib g k k1,c=(none,out,ia,ib,g,k,k1)/\Jm ρ a b m out ia ib
theorem MI.iD {out:Array Keyed} {ia ib:Nat} (h:MI ρ a.toList b.toList out.toList ia ib) (hi:ia<a.size) (hk:∀ x∈b.toList.drop ib,ρ.g a[ia]<=ρ.g x):MI ρ a.toList b.toList (out.push a[ia]).toList (ia+1) ib:=by
 have:=h.ir 1 (by rw [xU hi]; intro t ht x hx; rw [aBr.1 ht]; exact hk x hx)
 rw [xU hi] at this
 rw [azD]
 exact this
theorem MI.iC {out:Array Keyed} {ia ib:Nat} (h:MI ρ a.toList b.toList out.toList ia ib) (hi:ib<b.size) (hk:∀ x∈a.toList.drop ia,ρ.g b[ib]<=ρ.g x):MI ρ a.toList b.toList (out.push b[ib]).toList ia (ib+1):=by
 have:=h.fS 1 (by rw [xU hi]; intro t ht x hx; rw [aBr.1 ht]; exact hk x hx)
 rw [xU hi] at this
 rw [azD]
 exact this
theorem I0 {gq st:SortSt} {out:Array Keyed} {ia ib g k k1 m:Nat} (T:uF ρ a₀ a b) (hS:Sm gq st) (h:Jm ρ a b m out ia ib) (hk:∀ x∈b.toList.drop ib,ρ.g (a[ia]'(by have:=h.2.2.1; lia))<=ρ.g x):wpS (model prog w) A E s (zA a b out ia ib g k k1) (Gy ρ a b (m+1) gq) st:=by
 obtain ⟨M,hm,ha,hb⟩:=h
 have mW:ia<a.size:=by lia
 unfold zA
 refine a5F (ZA mW ?_)
 have M2:=M.iD mW hk
 by_cases e:ia+1+1=a.size
 .rw [atn (by simpa using e)]
  exact aju ⟨hS,.inl ⟨_,_,rfl,M2.last T.last e⟩⟩
 .rw [amU (by simpa using e)]
  have J:Jm ρ a b (m+1) (out.push a[ia]) (ia+1) ib:=⟨M2,by lia,by lia,hb⟩
  by_cases c:(decide (k<7) && decide (k1<7))=true
  .rw [atn c]
   exact aju ⟨hS,.inr ⟨_,_,_,_,_,_,rfl,J⟩⟩
  .rw [amU c]
   exact aju ⟨hS,_,_,_,_,_,_,rfl,J⟩
theorem IZ {gq st:SortSt} {out:Array Keyed} {ia ib g k bc m:Nat} (h0:aB.gC prog w A s κ ρ a₀) (hk:kindOf st=κ) (T:uF ρ a₀ a b) (hS:Sm gq st) (h:Jm ρ a b m out ia ib) (hq:∀ x∈a.toList.drop ia,ρ.g (b[ib]'(h.2.2.2))<=ρ.g x):wpS (model prog w) A E s (lo2 a b out ia ib g k bc) (Gy ρ a b (m+1) gq) st:=by
 obtain ⟨M,hm,ha,hb⟩:=h
 have mW:ia<a.size:=by lia
 unfold lo2
 refine a5F (ZA hb ?_)
 have M2:=M.iC hb hq
 by_cases e:ib+1=b.size
 .rw [atn (by simpa using e)]
  exact aju ⟨hS,.inl ⟨_,_,rfl,M2.res (.inr (awl (by simp; lia)))⟩⟩
 .rw [amU (by simpa using e)]
  refine a5F (ZA mW ?_)
  refine a5F (uC hk h0 T.mb (T.ma _ (by simp)) (by lia) (by lia) (Ja T.sb _ 0) (λk1 C=>?_))
  dsimp only
  have fa:∀ x∈a.toList.drop ia,ρ.g a[ia]<=ρ.g x:=λx hx=>AH mW (agN (drop_sublist _ _) T.sa) hx
  have M3:=M2.fS k1 (λt ht x hx=>a4I (C.low ht) (fa x hx))
  rw [← Ex,← aP3] at M3
  have hi:∀ x∈b.toList.drop (ib+1+k1),ρ.g a[ia]<=ρ.g x:=λx hx=>C.high hx
  by_cases c:k1 > 0
  .rw [atn c]
   by_cases e2:ib+1+k1=b.size
   .rw [atn (by simpa using e2)]
    exact aju ⟨hS,.inl ⟨_,_,rfl,M3.res (.inr (awl (by simp; lia)))⟩⟩
   .rw [amU (by simpa using e2)]
    have:=C.le
    exact I0 T hS ⟨M3,by lia,ha,by lia⟩ hi
  .rw [amU c]
   have e3:k1=0:=by lia
   subst e3
   exact I0 T hS ⟨M2,by lia,ha,by lia⟩ hi
theorem Q7 {gq st:SortSt} {out:Array Keyed} {ia ib g ac bc m:Nat} (h0:aB.gC prog w A s κ ρ a₀) (hk:kindOf st=κ) (T:uF ρ a₀ a b) (hS:Sm gq st) (h:Jm ρ a b m out ia ib):wpS (model prog w) A E s (lo1 a b out ia ib g ac bc) (Gy ρ a b (m+1) gq) st:=by
 obtain ⟨M,hm,ha,hb⟩:=h
 have mW:ia<a.size:=by lia
 unfold lo1
 refine a5F (zM λst1 rM=>?_)
 have hk1:kindOf st1=κ:=rM.1.trans hk
 have lQ:=hS.trans rM
 refine a5F (ZA hb ?_)
 refine a5F (uC hk1 h0 T.ma (T.mb _ (by simp)) (by lia) (by lia) (Ja T.sa _ 0) (λk C=>?_))
 dsimp only
 have fb:∀ x∈b.toList.drop ib,ρ.g b[ib]<=ρ.g x:=λx hx=>AH hb (agN (drop_sublist _ _) T.sb) hx
 have M3:=M.ir k (λt ht x hx=>a4I (C.low ht) (fb x hx))
 rw [← Ex,← aP3] at M3
 have hi:∀ x∈a.toList.drop (ia+k),ρ.g b[ib]<=ρ.g x:=λx hx=>C.high hx
 have:=C.le
 by_cases c:k > 0
 .rw [atn c]
  by_cases e2:ia+k+1=a.size
  .rw [atn (by simpa using e2)]
   exact aju ⟨lQ,.inl ⟨_,_,rfl,M3.last T.last e2⟩⟩
  .rw [amU (by simpa using e2)]
   by_cases e3:ia+k=a.size
   .rw [atn (by simpa using e3)]
    exact aju ⟨lQ,.inl ⟨_,_,rfl,M3.res (.inl (awl (by simp; lia)))⟩⟩
   .rw [amU (by simpa using e3)]
    exact IZ h0 hk1 T lQ ⟨M3,by lia,by lia,hb⟩ hi
 .rw [amU c]
  have e3:k=0:=by lia
  subst e3
  exact IZ h0 hk1 T lQ ⟨M,by lia,ha,hb⟩ hi
def Mv (ρ:aB.RR) (a b:Array Keyed) (m:Nat) (c:pJ):Prop:=(∃ r q,c=(some r,q)/\Res ρ a.toList b.toList r)\/∃ out ia ib k k1,c=(none,out,ia,ib,k,k1)/\Jm ρ a b m out ia ib
theorem Q6 {st:SortSt} {out:Array Keyed} {mg ia ib ac bc m:Nat} (h0:aB.gC prog w A s κ ρ a₀) (hk:kindOf st=κ) (T:uF ρ a₀ a b) (h:Jm ρ a b m out ia ib):wpS (model prog w) A E s (zy a b mg (none,out,ia,ib,ac,bc)) (λr st'=>st'=st/\match r with
  | .done c=>Mv ρ a b (m+1) c
  | .yield c=>∃ out ia ib k k1,c=(none,out,ia,ib,k,k1)/\Jm ρ a b (m+1) out ia ib) st:=by
 obtain ⟨M,hm,ha,hb⟩:=h
 have mW:ia<a.size:=by lia
 have fa:∀ x∈a.toList.drop ia,ρ.g a[ia]<=ρ.g x:=λx hx=>AH mW (agN (drop_sublist _ _) T.sa) hx
 have fb:∀ x∈b.toList.drop ib,ρ.g b[ib]<=ρ.g x:=λx hx=>AH hb (agN (drop_sublist _ _) T.sb) hx
 unfold zy
 dsimp only
 refine a5F (ZA hb (a5F (ZA mW (a5F (jh hk h0 (T.mb _ (by simp)) (T.ma _ (by simp)) ?_)))))
 dsimp only
 by_cases c:ρ.g b[ib]<ρ.g a[ia]
 .rw [aGg c,atn rfl]
  refine a5F (ZA hb ?_)
  have M2:=M.iC hb (λx hx=>by have:=fa x hx; lia)
  by_cases e:ib+1=b.size
  .rw [atn (by simpa using e)]
   exact aju ⟨rfl,.inl ⟨_,_,rfl,M2.res (.inr (awl (by simp; lia)))⟩⟩
  .rw [amU (by simpa using e)]
   have J:Jm ρ a b (m+1) (out.push b[ib]) ia (ib+1):=⟨M2,by lia,ha,by lia⟩
   by_cases c2:bc+1 ≥ mg
   .rw [atn c2]
    exact aju ⟨rfl,.inr ⟨_,_,_,_,_,rfl,J⟩⟩
   .rw [amU c2]
    exact aju ⟨rfl,_,_,_,_,_,rfl,J⟩
 .rw [aWh c,amU (by simp)]
  refine a5F (ZA mW ?_)
  have M2:=M.iD mW (λx hx=>by have:=fb x hx; lia)
  by_cases e:ia+1+1=a.size
  .rw [atn (by simpa using e)]
   exact aju ⟨rfl,.inl ⟨_,_,rfl,M2.last T.last e⟩⟩
  .rw [amU (by simpa using e)]
   have J:Jm ρ a b (m+1) (out.push a[ia]) (ia+1) ib:=⟨M2,by lia,by lia,hb⟩
   by_cases c2:ac+1 ≥ mg
   .rw [atn c2]
    exact aju ⟨rfl,.inr ⟨_,_,_,_,_,rfl,J⟩⟩
   .rw [amU c2]
    exact aju ⟨rfl,_,_,_,_,_,rfl,J⟩
theorem Jm.weak {m m':Nat} {out:Array Keyed} {ia ib:Nat} (h:Jm ρ a b m out ia ib) (hm:m'<=m):Jm ρ a b m' out ia ib:=⟨h.1,by have:=h.2.1; lia,h.2.2.1,h.2.2.2⟩
theorem Qz {st:SortSt} {out:Array Keyed} {ia ib g m:Nat} (h0:aB.gC prog w A s κ ρ a₀) (hk:kindOf st=κ) (T:uF ρ a₀ a b) (h:Jm ρ a b m out ia ib):wpS (model prog w) A E s (zx a b (none,out,ia,ib,g)) (λr st'=>Sm st st'/\match r with
  | .done c=>∃ r q,c=(some r,q)/\Res ρ a.toList b.toList r
  | .yield c=>∃ out ia ib g,c=(none,out,ia,ib,g)/\Jm ρ a b (m+1) out ia ib) st:=by
 have pos:0<a.size+b.size:=by have:=h.2.2.1; lia
 unfold zx
 dsimp only
 refine a5F (bca (aub (I:=λx c st2=>st2=st/\∃ out ia ib k k1,c=(none,out,ia,ib,k,k1)/\Jm ρ a b (m+x) out ia ib) (Q:=λc st2=>st2=st/\Mv ρ a b (m+1) c) ?turn ?last ?first) ?after)
 case first=>exact ⟨rfl,_,_,_,_,_,rfl,h⟩
 case last =>
  rintro c st2 ⟨rfl,out,ia,ib,k,k1,rfl,J⟩
  exact ⟨rfl,.inr ⟨_,_,_,_,_,rfl,J.weak (by lia)⟩⟩
 case turn =>
  rintro x c st2 _ hx ⟨rfl,out,ia,ib,k,k1,rfl,J⟩
  refine bca (Q6 h0 hk T J) ?_
  rintro r st3 ⟨rfl,hr⟩
  cases r with
  | done c =>
   refine ⟨rfl,?_⟩
   rcases hr with hr | ⟨out,ia,ib,k,k1,rfl,J⟩
   .exact .inl hr
   .exact .inr ⟨_,_,_,_,_,rfl,J.weak (by lia)⟩
  | yield c=>exact ⟨rfl,hr⟩
 case after =>
  rintro c st2 ⟨rfl,hc⟩
  rcases hc with ⟨r,q,rfl,R⟩ | ⟨out,ia,ib,k,k1,rfl,J⟩
  .exact aju ⟨Sm.refl _,_,_,rfl,R⟩
  .dsimp only
   refine a5F (wpS_lift (aei ⟨rfl,?_⟩))
   refine a5F (bca (aub (I:=λx c st3=>Sm st2 st3/\∃ out ia ib g k k1,c=(none,out,ia,ib,g,k,k1)/\Jm ρ a b (m+x) out ia ib) (Q:=λc st3=>Sm st2 st3/\Mg ρ a b (m+1) c) ?jturn ?jlast ?jfirst) ?jafter)
   case jfirst=>exact ⟨Sm.refl _,_,_,_,_,_,_,rfl,J.weak (by lia)⟩
   case jlast =>
    rintro c st3 ⟨hS,out,ia,ib,g,k,k1,rfl,J⟩
    exact ⟨hS,.inr ⟨_,_,_,_,_,_,rfl,J.weak (by lia)⟩⟩
   case jturn =>
    rintro x c st3 _ hx ⟨hS,out,ia,ib,g,k,k1,rfl,J⟩
    have De:kindOf st3=κ:=hS.1.trans hk
    dsimp only
    rw [show (if g > 1 then lo1 a b out ia ib (g - 1) k k1 else lo1 a b out ia ib g k k1)=lo1 a b out ia ib (if g > 1 then g - 1 else g) k k1 by split <;> rfl]
    refine bca (Q7 h0 De T hS J) ?_
    rintro r cC ⟨nj,hr⟩
    cases r with
    | done c =>
     refine ⟨nj,?_⟩
     rcases hr with hr | ⟨out,ia,ib,g,k,k1,rfl,J⟩
     .exact .inl hr
     .exact .inr ⟨_,_,_,_,_,_,rfl,J.weak (by lia)⟩
    | yield c=>exact ⟨nj,hr⟩
   case jafter =>
    rintro c st3 ⟨hS,hc⟩
    rcases hc with ⟨r,q,rfl,R⟩ | ⟨out,ia,ib,g,k,k1,rfl,J⟩
    .exact aju ⟨hS,_,_,rfl,R⟩
    .refine a5F (zM λcC nj=>aju ⟨hS.trans nj,_,_,_,_,rfl,J⟩)
theorem U0 {st:SortSt} {Q:Array Keyed->SortSt->Prop} (h0:aB.gC prog w A s κ ρ a₀) (hk:kindOf st=κ) (T:uF ρ a₀ a b) (ha:0<a.size) (hb:0<b.size) (hf:∀ x∈a.toList,ρ.g b[0]<=ρ.g x)
  (h:∀ r st',Sm st st'->Res ρ a.toList b.toList r->Q r st'):wpS (model prog w) A E s (EU a b) Q st:=by
 refine U3 _ _ ?_
 refine a5F (wpS_lift (aei ⟨rfl,?_⟩))
 refine a5F (ZA hb ?_)
 have M0:MI ρ a.toList b.toList (#[]:Array Keyed).toList 0 0:=⟨by simp,by simpa using T.sa,by simpa using T.sb⟩
 have M1:MI ρ a.toList b.toList (#[b[0]]:Array Keyed).toList 0 1:=M0.iC hb (λx hx=>hf x (by simpa using hx))
 by_cases e1:1=b.size
 .rw [atn (by simpa using e1)]
  exact aju (h _ _ (Sm.refl _) (M1.res (.inr (awl (by simp; lia)))))
 .rw [amU (by simpa using e1)]
  by_cases e2:0+1=a.size
  .rw [atn (by simpa using e2)]
   exact aju (h _ _ (Sm.refl _) (M1.last T.last e2))
  .rw [amU (by simpa using e2)]
   refine a5F (ar4 ?_)
   refine a5F (bca (aub (I:=λx c st2=>Sm st st2/\∃ out ia ib g,c=(none,out,ia,ib,g)/\Jm ρ a b (x+1) out ia ib) (Q:=λc st2=>Sm st st2/\∃ r q,c=(some r,q)/\Res ρ a.toList b.toList r) ?turn ?last ?first) ?after)
   case first=>exact ⟨Sm.refl _,_,_,_,_,rfl,M1,by lia,by lia,by lia⟩
   case last =>
    rintro c st2 ⟨_,out,ia,ib,g,rfl,J⟩
    have:=J.2.1
    have:=J.2.2.1
    have:=J.2.2.2
    lia
   case turn =>
    rintro x c st2 _ hx ⟨hS,out,ia,ib,g,rfl,J⟩
    refine bca (Qz h0 (hS.1.trans hk) T J) ?_
    rintro r st3 ⟨rL,hr⟩
    cases r with
    | done c=>exact ⟨hS.trans rL,hr⟩
    | yield c=>exact ⟨hS.trans rL,hr⟩
   case after =>
    rintro c st2 ⟨hS,r,q,rfl,R⟩
    exact aju (h r st2 hS R)
end
structure MH (ρ:aB.RR) (A B O:List Keyed) (na nb:Nat):Prop where
 perm:(A.take na++B.take nb++O).Perm (A++B)
 sa:(A.take na++O).Pairwise (Lk ρ)
 sb:(B.take nb++O).Pairwise (Lk ρ)
section
variable {ρ:aB.RR} {A B O:List Keyed} {na nb:Nat}
theorem MH.fS (h:MH ρ A B O na nb) (k:Nat) (hkn:k<=nb) (hk:∀ t∈(B.take nb).drop k,∀ x∈A.take na,ρ.g x<=ρ.g t):MH ρ A B ((B.take nb).drop k++O) na k:=by
 have e:B.take k=(B.take nb).take k:=by rw [take_take,a3I hkn]
 have s:=h.sb
 have p:=h.perm
 rw [← a6I k (B.take nb),aRm] at s
 rw [← a6I k (B.take nb)] at p
 refine ⟨?_,?_,?_⟩
 .rw [e]
  refine List.Perm.trans ?_ p
  simp only [aRm]
  exact List.Perm.refl _
 .have s1:=(a1x.1 s).2.1
  have a1:=a1x.1 h.sa
  refine a1x.2 ⟨a1.1,s1,λx hx y hy=>?_⟩
  rcases aJX.1 hy with hy | hy
  .exact hk y hy x hx
  .exact a1.2.2 x hx y hy
 .rw [e]
  exact s
theorem MH.ir (h:MH ρ A B O na nb) (k:Nat) (hkn:k<=na) (hk:∀ t∈(A.take na).drop k,∀ x∈B.take nb,ρ.g x<=ρ.g t):MH ρ A B ((A.take na).drop k++O) k nb:=by
 have h2:MH ρ B A O nb na:=⟨List.Perm.trans (arY.append_right _) (List.Perm.trans h.perm arY),h.sb,h.sa⟩
 have h3:=h2.fS k hkn hk
 exact ⟨List.Perm.trans (arY.append_right _) (List.Perm.trans h3.perm arY),h3.sb,h3.sa⟩
theorem kF (a:Array Keyed) (k:Nat):(a.extract 0 k).toList=a.toList.take k:=by
 rw [aWH,List.extract_eq_drop_take,List.drop_zero,Nat.sub_zero]
theorem tT (a:Array Keyed) (i k:Nat):(a.extract i k).toList=(a.toList.take k).drop i:=by
 rw [aWH,List.extract_eq_drop_take,drop_take]
theorem MH.res {a b out:Array Keyed} (h:MH ρ a.toList b.toList out.toList.reverse na nb) (he:na=0\/nb=0):Res ρ a.toList b.toList (a.extract 0 na++b.extract 0 nb++out.reverse):=by
 unfold Res
 rw [aP3,aP3,kF,kF,baC]
 refine ⟨h.perm,?_⟩
 rcases he with rfl | rfl
 .rw [take_zero,List.nil_append]; exact h.sb
 .rw [take_zero,amK]; exact h.sa
theorem MH.first {a b out:Array Keyed} (h:MH ρ a.toList b.toList out.toList.reverse na 1) (hl:∀ y∈b.toList.take 1,∀ x∈a.toList,ρ.g y<=ρ.g x):Res ρ a.toList b.toList (b.extract 0 1++a.extract 0 na++out.reverse):=by
 have h2:=h.ir 0 (aze _) (λt ht x hx=>hl x hx t (mem_of_mem_take (List.mem_of_mem_drop ht)))
 rw [List.drop_zero] at h2
 unfold Res
 rw [aP3,aP3,kF,kF,baC]
 have p:=h2.perm
 have s:=h2.sb
 rw [take_zero,List.nil_append,← aRm] at p
 rw [← aRm] at s
 exact ⟨p,s⟩
end
abbrev lI:=Option (Array Keyed)×Nat×Nat×Array Keyed×Nat×Nat×Nat
def zE (a b:Array Keyed) (na nb:Nat) (out:Array Keyed) (g k k1:Nat):StateT SortSt Sem (ForInStep lI):=do
 let x ← elem' a (na - 1)
 if na - 1 == 0 then pure (.done (some (a.extract 0 (na - 1)++b.extract 0 nb++(out.push x).reverse),na - 1,nb,out.push x,g,k,k1))
 else if k<7 && k1<7 then pure (.done (none,na - 1,nb,out.push x,g,k,k1)) else pure (.yield (none,na - 1,nb,out.push x,g,k,k1))
def hi2 (a b:Array Keyed) (na nb:Nat) (out:Array Keyed) (g k bc:Nat):StateT SortSt Sem (ForInStep lI):=do
 let x ← elem' b (nb - 1)
 if nb - 1 == 1 then pure (.done (some (b.extract 0 (nb - 1)++a.extract 0 na++(out.push x).reverse),na,nb - 1,out.push x,g,k,bc))
 else do
  let y ← elem' a (na - 1)
  let r ← ug true y b 0 (nb - 1) (nb - 1 - 1)
  match r with
  | some i =>
   if nb - 1 - i > 0 then
    if i == 1 then pure (.done (some (b.extract 0 i++a.extract 0 na++(out.push x++(b.extract i (nb - 1)).reverse).reverse),na,i,out.push x++(b.extract i (nb - 1)).reverse,g,k,nb - 1 - i))
    else if i == 0 then pure (.done (some (a.extract 0 na++b.extract 0 i++(out.push x++(b.extract i (nb - 1)).reverse).reverse),na,i,out.push x++(b.extract i (nb - 1)).reverse,g,k,nb - 1 - i))
    else zE a b na i (out.push x++(b.extract i (nb - 1)).reverse) g k (nb - 1 - i)
   else zE a b na (nb - 1) (out.push x) g k (nb - 1 - i)
  | none=>pure (.done (some (a.extract 0 na++b.extract 0 (nb - 1)++(out.push x).reverse),na,nb - 1,out.push x,g,k,bc))
def hi1 (a b:Array Keyed) (na nb:Nat) (out:Array Keyed) (g ac bc:Nat):StateT SortSt Sem (ForInStep lI):=do
 ZR g
 let y ← elem' b (nb - 1)
 let r ← ug false y a 0 na (na - 1)
 match r with
 | some i =>
  if na - i > 0 then
   if i == 0 then pure (.done (some (a.extract 0 i++b.extract 0 nb++(out++(a.extract i na).reverse).reverse),i,nb,out++(a.extract i na).reverse,g,na - i,bc))
   else hi2 a b i nb (out++(a.extract i na).reverse) g (na - i) bc
  else hi2 a b na nb out g (na - i) bc
 | none=>pure (.done (some (a.extract 0 na++b.extract 0 nb++out.reverse),na,nb,out,g,ac,bc))
abbrev pH:=Option (Array Keyed)×Nat×Nat×Array Keyed×Nat×Nat
def zD (a b:Array Keyed) (mg:Nat) (c:pH):StateT SortSt Sem (ForInStep pH):=do
 let y ← elem' b (c.2.2.1 - 1)
 let x ← elem' a (c.2.1 - 1)
 let r ← lt' y x
 match r with
 | some w =>
  if w then do
   let x ← elem' a (c.2.1 - 1)
   if c.2.1 - 1 == 0 then pure (.done (some (a.extract 0 (c.2.1 - 1)++b.extract 0 c.2.2.1++(c.2.2.2.1.push x).reverse),c.2.1 - 1,c.2.2.1,c.2.2.2.1.push x,c.2.2.2.2.1+1,0))
   else if c.2.2.2.2.1+1 ≥ mg then pure (.done (none,c.2.1 - 1,c.2.2.1,c.2.2.2.1.push x,c.2.2.2.2.1+1,0))
   else pure (.yield (none,c.2.1 - 1,c.2.2.1,c.2.2.2.1.push x,c.2.2.2.2.1+1,0))
  else do
   let y ← elem' b (c.2.2.1 - 1)
   if c.2.2.1 - 1 == 1 then pure (.done (some (b.extract 0 (c.2.2.1 - 1)++a.extract 0 c.2.1++(c.2.2.2.1.push y).reverse),c.2.1,c.2.2.1 - 1,c.2.2.2.1.push y,0,c.2.2.2.2.2+1))
   else if c.2.2.2.2.2+1 ≥ mg then pure (.done (none,c.2.1,c.2.2.1 - 1,c.2.2.2.1.push y,0,c.2.2.2.2.2+1))
   else pure (.yield (none,c.2.1,c.2.2.1 - 1,c.2.2.2.1.push y,0,c.2.2.2.2.2+1))
 | none=>pure (.done (some (a.extract 0 c.2.1++b.extract 0 c.2.2.1++c.2.2.2.1.reverse),c.2.1,c.2.2.1,c.2.2.2.1,c.2.2.2.2.1,c.2.2.2.2.2))
abbrev sL:=Option (Array Keyed)×Nat×Nat×Array Keyed×Nat
def zC (a b:Array Keyed) (c:sL):StateT SortSt Sem (ForInStep sL):=do
 let d ← forIn [0:a.size+b.size] ((none,c.2.1,c.2.2.1,c.2.2.2.1,0,0):pH) (λ_ d=>zD a b c.2.2.2.2 d)
 match d.1 with
 | some r=>pure (.done (some r,d.2.1,d.2.2.1,d.2.2.2.1,c.2.2.2.2))
 | none=>do
  rule "list.sort.gallop"
  let e ← forIn [0:a.size+b.size] ((none,d.2.1,d.2.2.1,d.2.2.2.1,c.2.2.2.2+1,d.2.2.2.2.1,d.2.2.2.2.2):lI) (λ_ e=>if e.2.2.2.2.1 > 1 then hi1 a b e.2.1 e.2.2.1 e.2.2.2.1 (e.2.2.2.2.1 - 1) e.2.2.2.2.2.1 e.2.2.2.2.2.2 else hi1 a b e.2.1 e.2.2.1 e.2.2.2.1 e.2.2.2.2.1 e.2.2.2.2.2.1 e.2.2.2.2.2.2)
  match e.1 with
  | some r=>pure (.done (some r,e.2.1,e.2.2.1,e.2.2.2.1,e.2.2.2.2.1))
  | none=>do
   ZR (e.2.2.2.2.1+1)
   pure (.yield (none,e.2.1,e.2.2.1,e.2.2.2.1,e.2.2.2.2.1+1))
theorem UZ {M:Model} {A:Around} {E:Value->Shared->Prop} {s:Shared} {Q:Array Keyed->SortSt->Prop} {st:SortSt} (a b:Array Keyed) (h:wpS M A E s (do
 rule "list.sort.merge-hi"
 let x ← elem' a (a.size - 1)
 if a.size - 1 == 0 then pure (a.extract 0 (a.size - 1)++b.extract 0 b.size++#[x].reverse)
 else if b.size == 1 then pure (b.extract 0 b.size++a.extract 0 (a.size - 1)++#[x].reverse)
 else do
  let st ← get
  let c ← forIn [0:a.size+b.size] ((none,a.size - 1,b.size,#[x],gallopOf st):sL) (λ_ c=>zC a b c)
  match c.1 with
  | some r=>pure r
  | none=>unsupported "internal:list.sort.merge-bound") Q st):wpS M A E s (ET a b) Q st:=by
 show wpAny M A (ET a b st) _ E s
 wp_delta
 wp_delta
 refine nC ?_ h
 dsimp only
 refine avJ λ_=>avJ λx=>?_
 congr 1
 congr 1
 refine avJ λst=>?_
 congr 1
 .congr 1
  funext _ c
  unfold zC
  congr 1
  .congr 1
   funext _ d
   unfold zD
   refine avJ λy=>avJ λx=>avJ λr=>?_
   cases r with
   | some w =>
    cases w with
    | true=>rfl
    | false=>rfl
   | none=>rfl
  .funext d
   cases d.1 with
   | some r=>rfl
   | none =>
    dsimp only
    refine avJ λ_=>?_
    congr 1
    .congr 1
     funext _ e
     congr 1
     all_goals
      unfold hi1
      refine avJ λ_=>avJ λy=>avJ λr=>?_
      cases r with
      | none=>rfl
      | some k =>
       dsimp only
       congr 1
       .congr 1
        unfold hi2
        refine avJ λx=>?_
        congr 1
        refine avJ λy=>avJ λr=>?_
        cases r with
        | none=>rfl
        | some k1=>rfl
       .unfold hi2
        refine avJ λx=>?_
        congr 1
        refine avJ λy=>avJ λr=>?_
        cases r with
        | none=>rfl
        | some k1=>rfl
    .funext e
     cases e.1 with
     | some r=>rfl
     | none=>rfl
 .funext c
  cases c.1 with
  | some r=>rfl
  | none=>rfl
section
variable {prog:Program} {w:World} {A:Around} {E:Value->Shared->Prop} {s:Shared} {a₀:Array Keyed} {κ:SortKind} {ρ:aB.RR} {a b:Array Keyed}
theorem Eh (h:a.toList.Pairwise (Lk ρ)) {n:Nat} (hn:n<=a.size):dg ρ a 0 (0+n):=by
 intro x y hx hxy hy
 have hy':y<a.size:=by lia
 rw [aZ (show x<a.size by lia),aZ hy']
 by_cases e:x=y
 .subst e; lia
 .exact a4Q.1 h x y (by simpa using (show x<a.size by lia)) (by simpa using hy') (by lia)
theorem Eg {n:Nat} {x:Keyed} (h:x∈a.toList.take n):∃ j,j<n/\∃ hj:j<a.size,x=a[j]:=by
 obtain ⟨j,hj,e⟩:=a6Q.1 h
 rw [a9v,aHK] at hj
 refine ⟨j,by lia,by lia,?_⟩
 rw [← e,getElem_take,a89]
theorem Ew {i n:Nat} {x:Keyed} (h:x∈(a.toList.take n).drop i):∃ j,i<=j/\j<n/\∃ hj:j<a.size,x=a[j]:=by
 obtain ⟨j,hj,e⟩:=a6Q.1 h
 rw [ad0,a9v,aHK] at hj
 refine ⟨i+j,by lia,by lia,by lia,?_⟩
 rw [← e,getElem_drop,getElem_take,a89]
theorem Cut.wj {left:Bool} {kv:Int} {n k:Nat} (h:Cut ρ left kv a 0 n k) {x:Keyed} (hx:x∈a.toList.take k):ρ.g x<=kv:=by
 obtain ⟨j,hj,hs,rfl⟩:=Eg hx
 have:=h.lo j hj
 unfold Bd at this
 simp only [aPW] at this
 rw [aZ hs] at this
 cases left with
 | true=>simp only [a3p,a8m] at this; lia
 | false=>simp only [arS,aEJ,a6X,a8x] at this; lia
theorem Cut.qj {left:Bool} {kv:Int} {n k:Nat} (h:Cut ρ left kv a 0 n k) {x:Keyed} (hx:x∈(a.toList.take n).drop k):kv<=ρ.g x:=by
 obtain ⟨j,hk,hj,hs,rfl⟩:=Ew hx
 have:=h.hi j hk hj
 unfold Bd at this
 simp only [aPW] at this
 rw [aZ hs] at this
 cases left with
 | true=>simp only [a3p,a8x] at this; lia
 | false=>simp only [arS,aEJ,Bool.not_eq_false',a8m] at this; lia
theorem AG {n:Nat} (hn:0<n) (hs:n<=a.size):(a.toList.take n).drop (n - 1)=[a[n - 1]]:=by
 rw [drop_take,show n - (n - 1)=1 by lia]
 exact xU (by lia)
theorem Ac {n:Nat} (hn:0<n) (hs:n<=a.size) (h:a.toList.Pairwise (Lk ρ)) {x:Keyed} (hx:x∈a.toList.take n):ρ.g x<=ρ.g a[n - 1]:=by
 obtain ⟨j,hj,hs2,rfl⟩:=Eg hx
 have:=Eh h hs j (n - 1) (by lia) (by lia) (by lia)
 rw [aZ hs2,aZ (show n - 1<a.size by lia)] at this
 exact this
theorem MH.first' {out:Array Keyed} {na nb:Nat} (h:MH ρ a.toList b.toList out.toList.reverse na nb) (hl:∀ y∈b.toList.take 1,∀ x∈a.toList,ρ.g y<=ρ.g x) (e:nb=1):Res ρ a.toList b.toList (b.extract 0 nb++a.extract 0 na++out.reverse):=by
 subst e
 exact h.first hl
structure uG (ρ:aB.RR) (a₀ a b:Array Keyed):Prop where
 ma:∀ p∈a.toList,p∈a₀.toList
 mb:∀ p∈b.toList,p∈a₀.toList
 sa:a.toList.Pairwise (Lk ρ)
 sb:b.toList.Pairwise (Lk ρ)
 first:∀ y∈b.toList.take 1,∀ x∈a.toList,ρ.g y<=ρ.g x
structure Jh (ρ:aB.RR) (a b:Array Keyed) (m na nb:Nat) (out:Array Keyed):Prop where
 M:MH ρ a.toList b.toList out.toList.reverse na nb
 bd:na+nb+m<=a.size+b.size
 la:na<=a.size
 lb:nb<=b.size
 pa:1<=na
 pb:2<=nb
theorem Jh.weak {m m' na nb:Nat} {out:Array Keyed} (h:Jh ρ a b m na nb out) (hm:m'<=m):Jh ρ a b m' na nb out:=⟨h.M,by have:=h.bd; lia,h.la,h.lb,h.pa,h.pb⟩
def Mi (ρ:aB.RR) (a b:Array Keyed) (m:Nat) (c:lI):Prop:=(∃ r q,c=(some r,q)/\Res ρ a.toList b.toList r)\/∃ na nb out g k k1,c=(none,na,nb,out,g,k,k1)/\Jh ρ a b m na nb out
def GA (ρ:aB.RR) (a b:Array Keyed) (m:Nat) (st:SortSt) (r:ForInStep lI) (st':SortSt):Prop:=Sm st st'/\match r with
 | .done c=>Mi ρ a b m c
 | .yield c=>∃ na nb out g k k1,c=(none,na,nb,out,g,k,k1)/\Jh ρ a b m na nb out
theorem MH.iD {out:Array Keyed} {na nb:Nat} (h:MH ρ a.toList b.toList out.toList.reverse na nb) (hn:0<na) (hs:na<=a.size) (hk:∀ x∈b.toList.take nb,ρ.g x<=ρ.g a[na - 1]):MH ρ a.toList b.toList (out.push a[na - 1]).toList.reverse (na - 1) nb:=by
 have:=h.ir (na - 1) (by lia) (by rw [AG hn hs]; intro t ht x hx; rw [aBr.1 ht]; exact hk x hx)
 rw [AG hn hs] at this
 rw [azD,aPA]
 exact this
theorem MH.iC {out:Array Keyed} {na nb:Nat} (h:MH ρ a.toList b.toList out.toList.reverse na nb) (hn:0<nb) (hs:nb<=b.size) (hk:∀ x∈a.toList.take na,ρ.g x<=ρ.g b[nb - 1]):MH ρ a.toList b.toList (out.push b[nb - 1]).toList.reverse na (nb - 1):=by
 have:=h.fS (nb - 1) (by lia) (by rw [AG hn hs]; intro t ht x hx; rw [aBr.1 ht]; exact hk x hx)
 rw [AG hn hs] at this
 rw [azD,aPA]
 exact this
theorem IY (out:Array Keyed) (i n:Nat):(out++(a.extract i n).reverse).toList.reverse=(a.toList.take n).drop i++out.toList.reverse:=by
 rw [aP3,aPA,baC,aDT,tT]
theorem IX {gq st:SortSt} {out:Array Keyed} {na nb g k k1 m:Nat} (T:uG ρ a₀ a b) (hS:Sm gq st) (h:Jh ρ a b m na nb out) (hk:∀ x∈b.toList.take nb,ρ.g x<=ρ.g (a[na - 1]'(by have:=h.pa; have:=h.la; lia))):wpS (model prog w) A E s (zE a b na nb out g k k1) (GA ρ a b (m+1) gq) st:=by
 obtain ⟨M,bd,la,lb,pa,pb⟩:=h
 unfold zE
 refine a5F (ZA (show na - 1<a.size by lia) ?_)
 have M2:=M.iD (by lia) la hk
 by_cases e:na - 1=0
 .rw [atn (by simpa using e)]
  exact aju ⟨hS,.inl ⟨_,_,rfl,M2.res (.inl e)⟩⟩
 .rw [amU (by simpa using e)]
  have J:Jh ρ a b (m+1) (na - 1) nb (out.push a[na - 1]):=⟨M2,by lia,by lia,lb,by lia,pb⟩
  by_cases c:(decide (k<7) && decide (k1<7))=true
  .rw [atn c]
   exact aju ⟨hS,.inr ⟨_,_,_,_,_,_,rfl,J⟩⟩
  .rw [amU c]
   exact aju ⟨hS,_,_,_,_,_,_,rfl,J⟩
theorem IW {gq st:SortSt} {out:Array Keyed} {na nb g k bc m:Nat} (h0:aB.gC prog w A s κ ρ a₀) (hk:kindOf st=κ) (T:uG ρ a₀ a b) (hS:Sm gq st) (h:Jh ρ a b m na nb out) (hq:∀ x∈a.toList.take na,ρ.g x<=ρ.g (b[nb - 1]'(by have:=h.pb; have:=h.lb; lia))):wpS (model prog w) A E s (hi2 a b na nb out g k bc) (GA ρ a b (m+1) gq) st:=by
 obtain ⟨M,bd,la,lb,pa,pb⟩:=h
 unfold hi2
 refine a5F (ZA (show nb - 1<b.size by lia) ?_)
 have M2:=M.iC (by lia) lb hq
 by_cases e:nb - 1=1
 .rw [atn (by simpa using e)]
  exact aju ⟨hS,.inl ⟨_,_,rfl,M2.first' T.first e⟩⟩
 .rw [amU (by simpa using e)]
  refine a5F (ZA (show na - 1<a.size by lia) ?_)
  refine a5F (uC hk h0 T.mb (T.ma _ (by simp)) (by lia) (by lia) (Eh T.sb (by lia)) (λi C=>?_))
  dsimp only
  have fa:∀ x∈a.toList.take na,ρ.g x<=ρ.g a[na - 1]:=λx hx=>Ac (by lia) la T.sa hx
  have ci:=C.le
  have M3:=M2.fS i (by lia) (λt ht x hx=>a4I (fa x hx) (C.qj ht))
  rw [← IY] at M3
  have hi:∀ x∈b.toList.take i,ρ.g x<=ρ.g a[na - 1]:=λx hx=>C.wj hx
  by_cases c:nb - 1 - i > 0
  .rw [atn c]
   by_cases e2:i=1
   .rw [atn (by simpa using e2)]
    exact aju ⟨hS,.inl ⟨_,_,rfl,M3.first' T.first e2⟩⟩
   .rw [amU (by simpa using e2)]
    by_cases e3:i=0
    .rw [atn (by simpa using e3)]
     exact aju ⟨hS,.inl ⟨_,_,rfl,M3.res (.inr e3)⟩⟩
    .rw [amU (by simpa using e3)]
     exact IX T hS ⟨M3,by lia,la,by lia,pa,by lia⟩ hi
  .rw [amU c]
   have e3:i=nb - 1:=by lia
   subst e3
   exact IX T hS ⟨M2,by lia,la,by lia,pa,by lia⟩ hi
theorem Qy {gq st:SortSt} {out:Array Keyed} {na nb g ac bc m:Nat} (h0:aB.gC prog w A s κ ρ a₀) (hk:kindOf st=κ) (T:uG ρ a₀ a b) (hS:Sm gq st) (h:Jh ρ a b m na nb out):wpS (model prog w) A E s (hi1 a b na nb out g ac bc) (GA ρ a b (m+1) gq) st:=by
 obtain ⟨M,bd,la,lb,pa,pb⟩:=h
 unfold hi1
 refine a5F (zM λst1 rM=>?_)
 have hk1:kindOf st1=κ:=rM.1.trans hk
 have lQ:=hS.trans rM
 refine a5F (ZA (show nb - 1<b.size by lia) ?_)
 refine a5F (uC hk1 h0 T.ma (T.mb _ (by simp)) (by lia) (by lia) (Eh T.sa la) (λi C=>?_))
 dsimp only
 have fb:∀ x∈b.toList.take nb,ρ.g x<=ρ.g b[nb - 1]:=λx hx=>Ac (by lia) lb T.sb hx
 have ci:=C.le
 have M3:=M.ir i ci (λt ht x hx=>a4I (fb x hx) (C.qj ht))
 rw [← IY] at M3
 have hi:∀ x∈a.toList.take i,ρ.g x<=ρ.g b[nb - 1]:=λx hx=>C.wj hx
 by_cases c:na - i > 0
 .rw [atn c]
  by_cases e2:i=0
  .rw [atn (by simpa using e2)]
   exact aju ⟨lQ,.inl ⟨_,_,rfl,M3.res (.inl e2)⟩⟩
  .rw [amU (by simpa using e2)]
   exact IW h0 hk1 T lQ ⟨M3,by lia,by lia,lb,by lia,pb⟩ hi
 .rw [amU c]
  have e3:i=na:=by lia
  subst e3
  exact IW h0 hk1 T lQ ⟨M,by lia,la,lb,pa,pb⟩ hi
def Mj (ρ:aB.RR) (a b:Array Keyed) (m:Nat) (c:pH):Prop:=(∃ r q,c=(some r,q)/\Res ρ a.toList b.toList r)\/∃ na nb out k k1,c=(none,na,nb,out,k,k1)/\Jh ρ a b m na nb out
theorem Qx {st:SortSt} {out:Array Keyed} {mg na nb ac bc m:Nat} (h0:aB.gC prog w A s κ ρ a₀) (hk:kindOf st=κ) (T:uG ρ a₀ a b) (h:Jh ρ a b m na nb out):wpS (model prog w) A E s (zD a b mg (none,na,nb,out,ac,bc)) (λr st'=>st'=st/\match r with
  | .done c=>Mj ρ a b (m+1) c
  | .yield c=>∃ na nb out k k1,c=(none,na,nb,out,k,k1)/\Jh ρ a b (m+1) na nb out) st:=by
 obtain ⟨M,bd,la,lb,pa,pb⟩:=h
 have fa:∀ x∈a.toList.take na,ρ.g x<=ρ.g a[na - 1]:=λx hx=>Ac (by lia) la T.sa hx
 have fb:∀ x∈b.toList.take nb,ρ.g x<=ρ.g b[nb - 1]:=λx hx=>Ac (by lia) lb T.sb hx
 have ha:na - 1<a.size:=by lia
 have hb:nb - 1<b.size:=by lia
 unfold zD
 dsimp only
 refine a5F (ZA hb (a5F (ZA ha (a5F (jh hk h0 (T.mb _ (by simp)) (T.ma _ (by simp)) ?_)))))
 dsimp only
 by_cases c:ρ.g b[nb - 1]<ρ.g a[na - 1]
 .rw [aGg c,atn rfl]
  refine a5F (ZA ha ?_)
  have M2:=M.iD (by lia) la (λx hx=>by have:=fb x hx; lia)
  by_cases e:na - 1=0
  .rw [atn (by simpa using e)]
   exact aju ⟨rfl,.inl ⟨_,_,rfl,M2.res (.inl e)⟩⟩
  .rw [amU (by simpa using e)]
   have J:Jh ρ a b (m+1) (na - 1) nb (out.push a[na - 1]):=⟨M2,by lia,by lia,lb,by lia,pb⟩
   by_cases c2:ac+1 ≥ mg
   .rw [atn c2]
    exact aju ⟨rfl,.inr ⟨_,_,_,_,_,rfl,J⟩⟩
   .rw [amU c2]
    exact aju ⟨rfl,_,_,_,_,_,rfl,J⟩
 .rw [aWh c,amU (by simp)]
  refine a5F (ZA hb ?_)
  have M2:=M.iC (by lia) lb (λx hx=>by have:=fa x hx; lia)
  by_cases e:nb - 1=1
  .rw [atn (by simpa using e)]
   exact aju ⟨rfl,.inl ⟨_,_,rfl,M2.first' T.first e⟩⟩
  .rw [amU (by simpa using e)]
   have J:Jh ρ a b (m+1) na (nb - 1) (out.push b[nb - 1]):=⟨M2,by lia,la,by lia,pa,by lia⟩
   by_cases c2:bc+1 ≥ mg
   .rw [atn c2]
    exact aju ⟨rfl,.inr ⟨_,_,_,_,_,rfl,J⟩⟩
   .rw [amU c2]
    exact aju ⟨rfl,_,_,_,_,_,rfl,J⟩
theorem Qw {st:SortSt} {out:Array Keyed} {na nb g m:Nat} (h0:aB.gC prog w A s κ ρ a₀) (hk:kindOf st=κ) (T:uG ρ a₀ a b) (h:Jh ρ a b m na nb out):wpS (model prog w) A E s (zC a b (none,na,nb,out,g)) (λr st'=>Sm st st'/\match r with
  | .done c=>∃ r q,c=(some r,q)/\Res ρ a.toList b.toList r
  | .yield c=>∃ na nb out g,c=(none,na,nb,out,g)/\Jh ρ a b (m+1) na nb out) st:=by
 have pos:0<a.size+b.size:=by have:=h.la; have:=h.pa; lia
 unfold zC
 dsimp only
 refine a5F (bca (aub (I:=λx c st2=>st2=st/\∃ na nb out k k1,c=(none,na,nb,out,k,k1)/\Jh ρ a b (m+x) na nb out) (Q:=λc st2=>st2=st/\Mj ρ a b (m+1) c) ?turn ?last ?first) ?after)
 case first=>exact ⟨rfl,_,_,_,_,_,rfl,h⟩
 case last =>
  rintro c st2 ⟨rfl,na,nb,out,k,k1,rfl,J⟩
  exact ⟨rfl,.inr ⟨_,_,_,_,_,rfl,J.weak (by lia)⟩⟩
 case turn =>
  rintro x c st2 _ hx ⟨rfl,na,nb,out,k,k1,rfl,J⟩
  refine bca (Qx h0 hk T J) ?_
  rintro r st3 ⟨rfl,hr⟩
  cases r with
  | done c =>
   refine ⟨rfl,?_⟩
   rcases hr with hr | ⟨na,nb,out,k,k1,rfl,J⟩
   .exact .inl hr
   .exact .inr ⟨_,_,_,_,_,rfl,J.weak (by lia)⟩
  | yield c=>exact ⟨rfl,hr⟩
 case after =>
  rintro c st2 ⟨rfl,hc⟩
  rcases hc with ⟨r,q,rfl,R⟩ | ⟨na,nb,out,k,k1,rfl,J⟩
  .exact aju ⟨Sm.refl _,_,_,rfl,R⟩
  .dsimp only
   refine a5F (wpS_lift (aei ⟨rfl,?_⟩))
   refine a5F (bca (aub (I:=λx c st3=>Sm st2 st3/\∃ na nb out g k k1,c=(none,na,nb,out,g,k,k1)/\Jh ρ a b (m+x) na nb out) (Q:=λc st3=>Sm st2 st3/\Mi ρ a b (m+1) c) ?jturn ?jlast ?jfirst) ?jafter)
   case jfirst=>exact ⟨Sm.refl _,_,_,_,_,_,_,rfl,J.weak (by lia)⟩
   case jlast =>
    rintro c st3 ⟨hS,na,nb,out,g,k,k1,rfl,J⟩
    exact ⟨hS,.inr ⟨_,_,_,_,_,_,rfl,J.weak (by lia)⟩⟩
   case jturn =>
    rintro x c st3 _ hx ⟨hS,na,nb,out,g,k,k1,rfl,J⟩
    have De:kindOf st3=κ:=hS.1.trans hk
    dsimp only
    rw [show (if g > 1 then hi1 a b na nb out (g - 1) k k1 else hi1 a b na nb out g k k1)=hi1 a b na nb out (if g > 1 then g - 1 else g) k k1 by split <;> rfl]
    refine bca (Qy h0 De T hS J) ?_
    rintro r cC ⟨nj,hr⟩
    cases r with
    | done c =>
     refine ⟨nj,?_⟩
     rcases hr with hr | ⟨na,nb,out,g,k,k1,rfl,J⟩
     .exact .inl hr
     .exact .inr ⟨_,_,_,_,_,_,rfl,J.weak (by lia)⟩
    | yield c=>exact ⟨nj,hr⟩
   case jafter =>
    rintro c st3 ⟨hS,hc⟩
    rcases hc with ⟨r,q,rfl,R⟩ | ⟨na,nb,out,g,k,k1,rfl,J⟩
    .exact aju ⟨hS,_,_,rfl,R⟩
    .refine a5F (zM λcC nj=>aju ⟨hS.trans nj,_,_,_,_,rfl,J⟩)
theorem UY {st:SortSt} {Q:Array Keyed->SortSt->Prop} (h0:aB.gC prog w A s κ ρ a₀) (hk:kindOf st=κ) (T:uG ρ a₀ a b) (ha:0<a.size) (hb:0<b.size) (hf:∀ x∈b.toList,ρ.g x<=ρ.g a[a.size - 1])
  (h:∀ r st',Sm st st'->Res ρ a.toList b.toList r->Q r st'):wpS (model prog w) A E s (ET a b) Q st:=by
 refine UZ _ _ ?_
 refine a5F (wpS_lift (aei ⟨rfl,?_⟩))
 refine a5F (ZA (show a.size - 1<a.size by lia) ?_)
 have ta:a.toList.take a.size=a.toList:=a6G (by simp)
 have tb:b.toList.take b.size=b.toList:=a6G (by simp)
 have M0:MH ρ a.toList b.toList (#[]:Array Keyed).toList.reverse a.size b.size:=⟨by rw [ta,tb]; simp,by rw [ta]; simpa using T.sa,by rw [tb]; simpa using T.sb⟩
 have M1:MH ρ a.toList b.toList (#[a[a.size - 1]]:Array Keyed).toList.reverse (a.size - 1) b.size:=M0.iD ha (aNS _) (λx hx=>hf x (by rw [tb] at hx; exact hx))
 by_cases e1:a.size - 1=0
 .rw [atn (by simpa using e1)]
  exact aju (h _ _ (Sm.refl _) (M1.res (.inl e1)))
 .rw [amU (by simpa using e1)]
  by_cases e2:b.size=1
  .rw [atn (by simpa using e2)]
   exact aju (h _ _ (Sm.refl _) (M1.first' T.first e2))
  .rw [amU (by simpa using e2)]
   refine a5F (ar4 ?_)
   refine a5F (bca (aub (I:=λx c st2=>Sm st st2/\∃ na nb out g,c=(none,na,nb,out,g)/\Jh ρ a b (x+1) na nb out) (Q:=λc st2=>Sm st st2/\∃ r q,c=(some r,q)/\Res ρ a.toList b.toList r) ?turn ?last ?first) ?after)
   case first=>exact ⟨Sm.refl _,_,_,_,_,rfl,M1,by lia,by lia,by lia,by lia,by lia⟩
   case last =>
    rintro c st2 ⟨_,na,nb,out,g,rfl,J⟩
    have:=J.bd
    have:=J.pa
    lia
   case turn =>
    rintro x c st2 _ hx ⟨hS,na,nb,out,g,rfl,J⟩
    refine bca (Qw h0 (hS.1.trans hk) T J) ?_
    rintro r st3 ⟨rL,hr⟩
    cases r with
    | done c=>exact ⟨hS.trans rL,hr⟩
    | yield c=>exact ⟨hS.trans rL,hr⟩
   case after =>
    rintro c st2 ⟨hS,r,q,rfl,R⟩
    exact aju (h r st2 hS R)
end
end L2.pC
set_option maxHeartbeats 400000
namespace L2.pC
open PySem PySem.Spec PyProof.Rows
def Fd:Nat->StateT SortSt Sem Bool:=sortPriv% PySem.Builtin.mergeAt
def layAt (arr:Array Keyed) (at_:Nat) (l:List Keyed) (k:Nat):Array Keyed:=(l.zipIdx k).foldl (λa (p,j)=>a.setIfInBounds (at_+j) p) arr
theorem Ay (arr:Array Keyed) (at_:Nat) (l:List Keyed) (k i:Nat) (h:at_+k+l.length<=arr.size):(layAt arr at_ l k)[i]?=if at_+k<=i/\i<at_+k+l.length then l[i - (at_+k)]? else arr[i]?:=by
 induction l generalizing arr k with
 | nil=>rw [amU (by simp)]; rfl
 | cons x l ih =>
  have e:layAt arr at_ (x :: l) k=layAt (arr.setIfInBounds (at_+k) x) at_ l (k+1):=by
   unfold layAt
   rw [List.zipIdx_cons,List.foldl_cons]
  simp only [bc9] at h ⊢
  rw [e,ih (arr.setIfInBounds (at_+k) x) (k+1) (by simp; lia)]
  by_cases c:at_+k=i
  .subst c
   rw [amU (by lia),atn (by lia),aL9,Array.getElem?_setIfInBounds_self_of_lt (by lia)]
   rfl
  .by_cases c2:at_+(k+1)<=i/\i<at_+(k+1)+l.length
   .rw [atn c2,atn (by lia),show i - (at_+k)=(i - (at_+(k+1)))+1 by lia,aSk]
   .rw [amU c2,amU (by lia),Array.getElem?_setIfInBounds_ne c]
theorem Wc (arr:Array Keyed) (at_:Nat) (l:List Keyed) (h:at_+l.length<=arr.size):(layAt arr at_ l 0).toList=arr.toList.take at_++(l++arr.toList.drop (at_+l.length)):=by
 refine a1R λi=>?_
 rw [aek,Ay arr at_ l 0 i (by lia),a99]
 have hl:(arr.toList.take at_).length=at_:=by rw [a9v,aHK]; lia
 by_cases c1:i<at_
 .rw [amU (by lia),a6D (by lia),List.getElem?_take_of_lt c1,aek]
 .rw [aFp (by lia),hl]
  by_cases c2:i<at_+l.length
  .rw [atn (by lia),a6D (by lia)]
  .rw [amU (by lia),aFp (by lia),aWI,aek]
   congr 1
   lia
theorem UX {arr:Array Keyed} {at_ n:Nat} {l:List Keyed} (h:at_+n<=arr.size) (p:l.Perm (arr.extract at_ (at_+n)).toList):(layAt arr at_ l 0).Perm arr:=by
 rw [Ex] at p
 have e:l.length=n:=by rw [p.length_eq,a9v,ad0,aHK]; lia
 refine aH7.2 ?_
 rw [Wc arr at_ l (by lia),e]
 have d:arr.toList=arr.toList.take at_++((arr.toList.drop at_).take n++arr.toList.drop (at_+n)):=by
  rw [← drop_drop,a6I,a6I]
 conv=>rhs; rw [d]
 exact (p.append_right _).append_left _
section
variable {prog:Program} {w:World} {A:Around} {E:Value->Shared->Prop} {s:Shared} {a₀:Array Keyed} {κ:SortKind} {ρ:aB.RR}
theorem pw_ex {arr:Array Keyed} {i j:Nat} (hj:j<=arr.size) (h:dg ρ arr i j):(arr.extract i j).toList.Pairwise (Lk ρ):=by
 refine a4Q.2 λx y hx hy hxy=>?_
 simp only [aHK,Array.size_extract] at hx hy
 have:=h (i+x) (i+y) (by lia) (by lia) (by lia)
 rw [aZ (show i+x<arr.size by lia),aZ (show i+y<arr.size by lia)] at this
 simpa [Lk] using this
theorem IV {arr:Array Keyed} {i j:Nat} {x:Keyed} (h:x∈(arr.extract i j).toList):∃ k,i<=k/\k<j/\k<arr.size/\ρ.g x=aB.Kg ρ arr k/\x∈arr.toList:=by
 rw [tT] at h
 obtain ⟨k,h1,h2,h3,rfl⟩:=Ew h
 exact ⟨k,h1,h2,h3,(aZ h3).symm,by simp⟩
theorem Ef {arr:Array Keyed} {at_:Nat} {l:List Keyed} (h:at_+l.length<=arr.size) {i:Nat} (h1:at_<=i) (h2:i<at_+l.length):aB.Kg ρ (layAt arr at_ l 0) i=ρ.g (l[i - at_]'(by lia)):=by
 have:=Ay arr at_ l 0 i (by lia)
 rw [atn (by lia),a99,aDi (by lia)] at this
 unfold aB.Kg
 rw [this]
 rfl
theorem tS {arr:Array Keyed} {at_:Nat} {l:List Keyed} (h:at_+l.length<=arr.size) {i:Nat} (h1:i<at_\/at_+l.length<=i):aB.Kg ρ (layAt arr at_ l 0) i=aB.Kg ρ arr i:=by
 have:=Ay arr at_ l 0 i (by lia)
 rw [amU (by lia)] at this
 unfold aB.Kg
 rw [this]
end
end L2.pC
set_option maxHeartbeats 1000000
namespace L2.pC
open PySem PySem.Spec PyProof.Rows
section
variable {prog:Program} {w:World} {A:Around} {E:Value->Shared->Prop} {s:Shared} {a₀:Array Keyed} {κ:SortKind} {ρ:aB.RR}
theorem RM {arr:Array Keyed} {u lo hi:Nat} {r:List Keyed} (h:u+r.length<=arr.size) (hr:r.Pairwise (Lk ρ)) (hne:0<r.length) (hl:dg ρ arr lo u) (hh:dg ρ arr (u+r.length) hi)
  (bl:∀ i,lo<=i->i<u->∀ x∈r,aB.Kg ρ arr i<=ρ.g x) (bh:∀ i,u+r.length<=i->i<hi->∀ x∈r,ρ.g x<=aB.Kg ρ arr i):dg ρ (layAt arr u r 0) lo hi:=by
 intro i j hi1 hij hj
 by_cases a1:i<u
 .rw [tS h (.inl a1)]
  by_cases b1:j<u
  .rw [tS h (.inl b1)]
   exact hl i j hi1 hij b1
  .by_cases b2:j<u+r.length
   .rw [Ef h (by lia) b2]
    exact bl i hi1 a1 _ (a2P _)
   .rw [tS h (.inr (by lia))]
    exact a4I (bl i hi1 a1 (r[0]'hne) (a2P _)) (bh j (by lia) hj _ (a2P _))
 .by_cases a2:i<u+r.length
  .rw [Ef h (by lia) a2]
   by_cases b2:j<u+r.length
   .rw [Ef h (by lia) b2]
    by_cases e:i=j
    .subst e; exact aEQ _
    .exact a4Q.1 hr (i - u) (j - u) (by lia) (by lia) (by lia)
   .rw [tS h (.inr (by lia))]
    exact bh j (by lia) hj _ (a2P _)
  .rw [tS h (.inr (by lia)),tS h (.inr (by lia))]
   exact hh i j (by lia) hij hj
theorem Cut.qY {left:Bool} {kv:Int} {arr:Array Keyed} {base n k:Nat} (h:Cut ρ left kv arr base n k) {i:Nat} (h1:base<=i) (h2:i<base+k):aB.Kg ρ arr i<=kv:=by
 have:=h.lo (i - base) (by lia)
 unfold Bd at this
 rw [show base+(i - base)=i by lia] at this
 cases left with
 | true=>simp only [a3p,a8m] at this; lia
 | false=>simp only [arS,aEJ,a6X,a8x] at this; lia
theorem Cut.ni {left:Bool} {kv:Int} {arr:Array Keyed} {base n k:Nat} (h:Cut ρ left kv arr base n k) {i:Nat} (h1:base+k<=i) (h2:i<base+n):kv<=aB.Kg ρ arr i:=by
 have:=h.hi (i - base) (by lia) (by lia)
 unfold Bd at this
 rw [show base+(i - base)=i by lia] at this
 cases left with
 | true=>simp only [a3p,a8x] at this; lia
 | false=>simp only [arS,aEJ,Bool.not_eq_false',a8m] at this; lia
theorem RL {st st':SortSt} {Q:PUnit->SortSt->Prop} (h:Q ⟨⟩ st'):wpS (model prog w) A E s (set st') Q st:=aQM (f:=λ_=>st') h
theorem UW {st:SortSt} {i sa na p sb nb q:Nat} {Q:Bool->SortSt->Prop} (h0:aB.gC prog w A s κ ρ a₀) (hk:kindOf st=κ) (ha:∀ x∈(arrOf st).toList,x∈a₀.toList) (hfl:failedOf st=none)
  (e1:(pendingOf st)[i]?=some (sa,na,p)) (e2:(pendingOf st)[i+1]?=some (sb,nb,q)) (zB:sb=sa+na) (pa:0<na) (pb:0<nb) (hsz:sb+nb<=(arrOf st).size) (s1:dg ρ (arrOf st) sa (sa+na)) (s2:dg ρ (arrOf st) sb (sb+nb))
  (h:∀ st',kindOf st'=κ->failedOf st'=none->(arrOf st').Perm (arrOf st)->pendingOf st'=((pendingOf st).setIfInBounds i (sa,na+nb,p)).eraseIdxIfInBounds (i+1)->dg ρ (arrOf st') sa (sb+nb) ->
   (∀ j,j<sa\/sb+nb<=j->(arrOf st')[j]?=(arrOf st)[j]?)->Q true st'):wpS (model prog w) A E s (Fd i) Q st:=by
 show wpAny (model prog w) A (Fd i st) _ E s
 wp_delta
 wp_delta
 refine nC rfl ?_
 refine a5F (ar4 ?_)
 rw [e1,e2]
 refine a5F (RL (st':=SortSt.mk' (kindOf st) (arrOf st) (((pendingOf st).setIfInBounds i (sa,na+nb,p)).eraseIdxIfInBounds (i+1)) (gallopOf st) (failedOf st)) ?_)
 generalize oK:SortSt.mk' (kindOf st) (arrOf st) (((pendingOf st).setIfInBounds i (sa,na+nb,p)).eraseIdxIfInBounds (i+1)) (gallopOf st) (failedOf st)=st1
 have k1:kindOf st1=κ:=by rw [← oK]; exact hk
 have f1:failedOf st1=none:=by rw [← oK]; exact hfl
 have a1:arrOf st1=arrOf st:=by rw [← oK]
 have p1:pendingOf st1=((pendingOf st).setIfInBounds i (sa,na+nb,p)).eraseIdxIfInBounds (i+1):=by rw [← oK]
 have hb0:sb<(arrOf st).size:=by lia
 refine a5F (ZA hb0 ?_)
 refine a5F (uC k1 h0 ha (ha _ (by simp)) (show sa+na<=(arrOf st).size by lia) pa s1 (λk C1=>?_))
 have c1:=C1.le
 rw [← aZ hb0] at C1
 dsimp only
 have whole:(∀ x y,sa<=x->x<sb->sb<=y->y<sb+nb->aB.Kg ρ (arrOf st) x<=aB.Kg ρ (arrOf st) y)->dg ρ (arrOf st) sa (sb+nb):=λhc x y hx hxy hy=>by
  by_cases u:y<sb
  .exact s1 x y hx hxy (by lia)
  .by_cases v:x<sb
   .exact hc x y hx v (by lia) hy
   .exact s2 x y (by lia) hxy hy
 by_cases z:na - k=0
 .rw [atn (by simpa using z)]
  refine aju (h st1 k1 f1 (by rw [a1]) p1 ?_ (λj _=>by rw [a1]))
  rw [a1]
  refine whole λx y hx wK hy CY=>?_
  exact a4I (C1.qY hx (by lia)) (s2 sb y (aNS _) hy CY)
 .rw [amU (by simpa using z)]
  have HM:sa+k+(na - k) - 1<(arrOf st).size:=by lia
  refine a5F (ZA HM ?_)
  refine a5F (uC k1 h0 ha (ha _ (by simp)) (show sb+nb<=(arrOf st).size by lia) (by lia) s2 (λn2 C2=>?_))
  have c2:=C2.le
  rw [← aZ HM,show sa+k+(na - k) - 1=sb - 1 by lia] at C2
  dsimp only
  by_cases z2:n2=0
  .rw [atn (by simpa using z2)]
   refine aju (h st1 k1 f1 (by rw [a1]) p1 ?_ (λj _=>by rw [a1]))
   rw [a1]
   refine whole λx y hx wK hy CY=>?_
   exact a4I (s1 x (sb - 1) hx (by lia) (by lia)) (C2.ni (by lia) CY)
  .rw [amU (by simpa using z2)]
   have c3:=Nat.pos_of_ne_zero z2
   have mX:∀ x∈((arrOf st).extract (sa+k) sb).toList,∃ j,sa+k<=j/\j<sb/\j<(arrOf st).size/\ρ.g x=aB.Kg ρ (arrOf st) j/\x∈(arrOf st).toList:=λx hx=>IV hx
   have mY:∀ x∈((arrOf st).extract sb (sb+n2)).toList,∃ j,sb<=j/\j<sb+n2/\j<(arrOf st).size/\ρ.g x=aB.Kg ρ (arrOf st) j/\x∈(arrOf st).toList:=λx hx=>IV hx
   have sX:((arrOf st).extract (sa+k) sb).toList.Pairwise (Lk ρ):=pw_ex (by lia) (λx y p q r=>s1 x y (by lia) q (by lia))
   have sY:((arrOf st).extract sb (sb+n2)).toList.Pairwise (Lk ρ):=pw_ex (by lia) (λx y p q r=>s2 x y (by lia) q (by lia))
   have zX:((arrOf st).extract (sa+k) sb).size=na - k:=by rw [Array.size_extract]; lia
   have zY:((arrOf st).extract sb (sb+n2)).size=n2:=by rw [Array.size_extract]; lia
   have low:∀ x∈((arrOf st).extract (sa+k) sb).toList,aB.Kg ρ (arrOf st) sb<=ρ.g x:=λx hx=>by
    obtain ⟨j,j1,j2,j3,e,_⟩:=mX x hx
    rw [e]
    exact C1.ni j1 (by lia)
   have high:∀ x∈((arrOf st).extract sb (sb+n2)).toList,ρ.g x<=aB.Kg ρ (arrOf st) (sb - 1):=λx hx=>by
    obtain ⟨j,j1,j2,j3,e,_⟩:=mY x hx
    rw [e]
    exact C2.qY j1 j2
   have fin:∀ r st',Sm st1 st'->Res ρ ((arrOf st).extract (sa+k) sb).toList ((arrOf st).extract sb (sb+n2)).toList r->wpS (model prog w) A E s (do
     modify λs=>SortSt.mk' (kindOf s) (layAt (arrOf s) (sa+k) r.toList 0) (pendingOf s) (gallopOf s) (failedOf s)
     return (failedOf (← get)).isNone) Q st':=by
    rintro r st' ⟨rM,lQ,rL,nj⟩ ⟨rp,rs⟩
    refine a5F (aQM (a5F (ar4 (aju ?_))))
    have ex:((arrOf st).extract (sa+k) sb).toList++((arrOf st).extract sb (sb+n2)).toList=((arrOf st).extract (sa+k) (sa+k+(na - k+n2))).toList:=by
     rw [tT,tT,tT,drop_take,drop_take,drop_take]
     rw [show sb - (sa+k)=na - k by lia,show sb+n2 - sb=n2 by lia,show sa+k+(na - k+n2) - (sa+k)=(na - k)+n2 by lia,List.take_add,drop_drop,show sa+k+(na - k)=sb by lia]
    have len:r.toList.length=na - k+n2:=by rw [rp.length_eq,aUV,aHK,aHK,zX,zY]
    have wC:∀ x∈r.toList,aB.Kg ρ (arrOf st) sb<=ρ.g x/\ρ.g x<=aB.Kg ρ (arrOf st) (sb - 1):=λx hx=>by
     rcases aJX.1 (rp.mem_iff.1 hx) with hx | hx
     .obtain ⟨j,j1,j2,j3,e,_⟩:=mX x hx
      exact ⟨low x hx,by rw [e]; exact s1 j (sb - 1) (by lia) (by lia) (by lia)⟩
     .obtain ⟨j,j1,j2,j3,e,_⟩:=mY x hx
      exact ⟨by rw [e]; exact s2 sb j (aNS _) j1 (by lia),high x hx⟩
    have ON:failedOf st'=none:=nj.trans f1
    show Q (failedOf st').isNone _
    rw [ON]
    refine h _ (rM.trans k1) rfl ?_ (rL.trans p1) ?_ ?_
    .show (layAt (arrOf st') (sa+k) r.toList 0).Perm (arrOf st)
     rw [lQ,a1]
     exact UX (n:=na - k+n2) (by lia) (by rw [← ex]; exact rp)
    .show dg ρ (layAt (arrOf st') (sa+k) r.toList 0) sa (sb+nb)
     rw [lQ,a1]
     refine RM (by lia) rs (by lia) (λx y p q r=>s1 x y p q (by lia)) (λx y p q r=>s2 x y (by lia) q r) (λi i1 i2 x hx=>?_) (λi i1 i2 x hx=>?_)
     .exact a4I (C1.qY i1 (by lia)) (wC x hx).1
     .exact a4I (wC x hx).2 (C2.ni (by lia) i2)
    .intro j hj
     show (layAt (arrOf st') (sa+k) r.toList 0)[j]?=_
     rw [lQ,a1,Ay _ _ _ _ _ (by lia),amU (by lia)]
   by_cases c:na - k<=n2
   .rw [atn c]
    refine a5F (U0 h0 k1 ⟨λx hx=>?_,λx hx=>?_,sX,sY,λy hy x hx=>?_⟩ (show 0<((arrOf st).extract (sa+k) sb).size by lia) (show 0<((arrOf st).extract sb (sb+n2)).size by lia) (λx hx=>?_) (λr st' hS R=>fin r st' hS R))
    .obtain ⟨_,_,_,_,_,m⟩:=mX x hx; exact ha x m
    .obtain ⟨_,_,_,_,_,m⟩:=mY x hx; exact ha x m
    .rw [zX,tT,drop_drop] at hx
     obtain ⟨j,j1,j2,j3,rfl⟩:=Ew hx
     have ej:j=sb - 1:=by lia
     subst ej
     rw [← aZ j3]
     exact high y hy
    .rw [aTZ,← aZ]
     exact low x hx
   .rw [amU c]
    refine a5F (UY h0 k1 ⟨λx hx=>?_,λx hx=>?_,sX,sY,λy hy x hx=>?_⟩ (show 0<((arrOf st).extract (sa+k) sb).size by lia) (show 0<((arrOf st).extract sb (sb+n2)).size by lia) (λx hx=>?_) (λr st' hS R=>fin r st' hS R))
    .obtain ⟨_,_,_,_,_,m⟩:=mX x hx; exact ha x m
    .obtain ⟨_,_,_,_,_,m⟩:=mY x hx; exact ha x m
    .obtain ⟨j,j1,j2,rfl⟩:=Eg hy
     rw [aTZ,← aZ,show sb+j=sb by lia]
     exact low x hx
    .rw [aTZ,← aZ]
     have:=high x hx
     rw [show sa+k+(((arrOf st).extract (sa+k) sb).size - 1)=sb - 1 by lia]
     exact this
end
structure GP (κ:SortKind) (a₀:Array Keyed) (P:Array (Nat×Nat×Nat)) (st:SortSt):Prop where
 perm:(arrOf st).Perm a₀
 kn:kindOf st=κ
 failed:failedOf st=none
 pend:pendingOf st=P
section
variable {prog:Program} {w:World} {A:Around} {E:Value->Shared->Prop} {s:Shared} {a₀:Array Keyed} {κ:SortKind} {ρ:aB.RR} {P:Array (Nat×Nat×Nat)}
theorem GP.size {st:SortSt} (h:GP κ a₀ P st):(arrOf st).size=a₀.size:=h.perm.size_eq
theorem GP.setArr {st:SortSt} {xs:Array Keyed} (h:GP κ a₀ P st) (hp:xs.Perm (arrOf st)):GP κ a₀ P (setArr st xs):=⟨hp.trans h.perm,h.kn,h.failed,h.pend⟩
theorem GP.mem {st:SortSt} (h:GP κ a₀ P st):∀ x∈(arrOf st).toList,x∈a₀.toList:=λx hx=>(aH7.mp h.perm).mem_iff.mp hx
theorem xR {st:SortSt} {i j:Nat} {Q:Option Bool->SortSt->Prop} (hB:GP κ a₀ P st) (h0:aB.gC prog w A s κ ρ a₀) (hi:i<a₀.size) (hj:j<a₀.size)
  (h:Q (some (decide (aB.Kg ρ (arrOf st) i<aB.Kg ρ (arrOf st) j))) st):wpS (model prog w) A E s (ltAt' i j) Q st:=by
 have hi':i<(arrOf st).size:=by rw [hB.size]; exact hi
 have hj':j<(arrOf st).size:=by rw [hB.size]; exact hj
 rw [aZ hi',aZ hj'] at h
 rw [ltAt'_eq]
 refine a5F (ar4 ?_)
 refine a5F (ZA hi' (a5F (ZA hj' ?_)))
 exact jh hB.kn h0 (hB.mem _ (by simp)) (hB.mem _ (by simp)) h
theorem RK {st:SortSt} {lo n ok:Nat} {Q:Bool->SortSt->Prop} (h0:aB.gC prog w A s κ ρ a₀) (hn:lo+n<=a₀.size) (hok:ok<=n) (Ph:1<=ok) (hB:GP κ a₀ P st) (hs:dg ρ (arrOf st) lo (lo+ok))
  (h:∀ st',GP κ a₀ P st'->dg ρ (arrOf st') lo (lo+n)->(∀ j,j<lo\/lo+n<=j->(arrOf st')[j]?=(arrOf st)[j]?)->Q true st'):wpS (model prog w) A E s (binarySort' lo n ok) Q st:=by
 rw [binarySort'_eq]
 refine a5F (bca (aub (I:=λk c st1=>c=(none,())/\GP κ a₀ P st1/\dg ρ (arrOf st1) lo (lo+min k n)/\∀ j,j<lo\/lo+n<=j->(arrOf st1)[j]?=(arrOf st)[j]?)
  (Q:=λc st1=>c=(none,())/\GP κ a₀ P st1/\dg ρ (arrOf st1) lo (lo+n)/\∀ j,j<lo\/lo+n<=j->(arrOf st1)[j]?=(arrOf st)[j]?) ?turn ?last ?first) ?after)
 case after =>
  rintro c st1 ⟨rfl,b1,i1,o1⟩
  exact aju (h st1 b1 i1 o1)
 case first =>
  rw [show min (max ok 1) n=ok by lia]
  exact ⟨rfl,hB,hs,λ_ _=>rfl⟩
 case last =>
  rintro c st1 ⟨hc,b1,i1,o1⟩
  rw [show min (max (max ok 1) n) n=n by lia] at i1
  exact ⟨hc,b1,i1,o1⟩
 case turn =>
  rintro k c st1 Pb hkn ⟨rfl,b1,i1,o1⟩
  rw [show min k n=k by lia] at i1
  have hk:lo+k<a₀.size:=by lia
  have sz:=b1.size
  refine a5F (bca (aub (I:=λx c st2=>st2=st1/\∃ l r,c=(none,l,r)/\l<=r/\r<=k/\r - l<=k - x/\(∀ i,i<l->aB.Kg ρ (arrOf st1) (lo+i)<=aB.Kg ρ (arrOf st1) (lo+k))/\(∀ i,r<=i->i<k->aB.Kg ρ (arrOf st1) (lo+k)<=aB.Kg ρ (arrOf st1) (lo+i)))
   (Q:=λc st2=>st2=st1/\∃ l r,c=(none,l,r)/\l<=k/\(∀ i,i<l->aB.Kg ρ (arrOf st1) (lo+i)<=aB.Kg ρ (arrOf st1) (lo+k))/\(∀ i,l<=i->i<k->aB.Kg ρ (arrOf st1) (lo+k)<=aB.Kg ρ (arrOf st1) (lo+i))) ?iturn ?ilast ?ifirst) ?iafter)
  case ifirst=>exact ⟨rfl,0,k,rfl,by lia,by lia,by lia,λi hi=>absurd hi (by lia),λi p q=>absurd q (by lia)⟩
  case ilast =>
   rintro c st2 ⟨rfl,l,r,rfl,hlr,hrk,hm,u1,u2⟩
   have e:l=r:=by lia
   subst e
   exact ⟨rfl,l,l,rfl,hrk,u1,u2⟩
  case iturn =>
   rintro x c st2 _ hxk ⟨rfl,l,r,rfl,hlr,hrk,hm,u1,u2⟩
   dsimp only
   by_cases hge:l ≥ r
   .rw [atn hge]
    have e:l=r:=by lia
    subst e
    exact aju ⟨rfl,l,l,rfl,hrk,u1,u2⟩
   .rw [amU hge]
    refine a5F (xR b1 h0 hk (by lia) ?_)
    by_cases c:aB.Kg ρ (arrOf st2) (lo+k)<aB.Kg ρ (arrOf st2) (lo+(l+r) / 2)
    .simp only [c,a2G,a3p]
     refine aju ⟨rfl,l,(l+r) / 2,rfl,by lia,by lia,by lia,u1,λi p q=>?_⟩
     have:=i1 (lo+(l+r) / 2) (lo+i) (by lia) (by lia) (by lia)
     lia
    .simp only [c,aIt,arS,aEJ]
     refine aju ⟨rfl,(l+r) / 2+1,r,rfl,by lia,by lia,by lia,λi p=>?_,u2⟩
     have:=i1 (lo+i) (lo+(l+r) / 2) (by lia) (by lia) (by lia)
     lia
  case iafter =>
   rintro c st2 ⟨rfl,l,r,rfl,hlk,u1,u2⟩
   show wpS _ _ _ _ (do moveDown' (lo+k) (lo+l); pure (ForInStep.yield (none,()))) _ _
   rw [moveDown'_eq]
   have hks:lo+k<(arrOf st2).size:=by lia
   refine a5F (aQM (aju ⟨rfl,b1.setArr (bubble_perm _ _ _),?_,?_⟩))
   .rw [show min (k+1) n=k+1 by lia]
    intro i j hi hij hj
    show aB.Kg ρ (bubble (arrOf st2) (lo+k) (lo+k - (lo+l))) i<=aB.Kg ρ (bubble (arrOf st2) (lo+k) (lo+k - (lo+l))) j
    rw [aB.iJ hks (by lia),aB.iJ hks (by lia),show lo+k - (lo+k - (lo+l))=lo+l by lia]
    have U1:∀ i,lo<=i->i<lo+l->aB.Kg ρ (arrOf st2) i<=aB.Kg ρ (arrOf st2) (lo+k):=λi p q=>by
     have:=u1 (i - lo) (by lia)
     rw [show lo+(i - lo)=i by lia] at this
     exact this
    have U2:∀ i,lo+l<=i->i<lo+k->aB.Kg ρ (arrOf st2) (lo+k)<=aB.Kg ρ (arrOf st2) i:=λi p q=>by
     have:=u2 (i - lo) (by lia) (by lia)
     rw [show lo+(i - lo)=i by lia] at this
     exact this
    by_cases a1:i=lo+l
    .rw [atn a1]
     by_cases b2:j=lo+l
     .rw [atn b2]; exact aEQ _
     .rw [amU b2,atn (by lia)]
      exact U2 _ (by lia) (by lia)
    .rw [amU a1]
     by_cases a2:j=lo+l
     .rw [atn a2,amU (by lia)]
      exact U1 _ (by lia) (by lia)
     .rw [amU a2]
      by_cases a3:lo+l<i/\i<=lo+k
      .rw [atn a3,atn (by lia)]
       exact i1 _ _ (by lia) (by lia) (by lia)
      .rw [amU a3]
       by_cases a4:lo+l<j/\j<=lo+k
       .rw [atn a4]
        exact i1 _ _ (by lia) (by lia) (by lia)
       .rw [amU a4]
        exact i1 _ _ (by lia) (by lia) (by lia)
   .intro j hj
    show (bubble (arrOf st2) (lo+k) (lo+k - (lo+l)))[j]?=_
    rw [getElem?_bubble hks _ (by lia),amU (by lia),amU (by lia)]
    exact o1 j hj
end
abbrev AS:=Option (Option Nat)×Nat
abbrev DS:=Option (Option Nat)×Nat×Nat
def nF (lo a nrem:Nat):StateT SortSt Sem AS:=forIn [a:nrem] ((none,a):AS) λ_ c=>do
 let x ← ltAt' (lo+c.2) (lo+c.2 - 1)
 match x with
 | some y=>if y=true then pure (.done (none,c.2)) else pure (.yield (none,c.2+1))
 | _=>pure (.done (some none,c.2))
def i8 (lo n nrem:Nat):StateT SortSt Sem (Option Nat):=do
 reverseSlice' lo (lo+n)
 let c ← nF lo n nrem
 match c.1 with
 | some r=>pure r
 | none=>pure (some c.2)
def kH (lo n nrem:Nat):StateT SortSt Sem DS:=forIn [n:nrem] ((none,n,0):DS) λ_ c=>do
 let x ← ltAt' (lo+c.2.1) (lo+c.2.1 - 1)
 match x with
 | some y=>if y=true then (if c.2.2 > 0 then (do
    reverseSlice' (lo+c.2.1 - (c.2.2+1)) (lo+c.2.1)
    pure (.yield (none,c.2.1+1,0))) else pure (.yield (none,c.2.1+1,0))) else (do
   let x ← ltAt' (lo+c.2.1 - 1) (lo+c.2.1)
   match x with
   | some z=>if z=true then pure (.done (none,c.2.1,c.2.2)) else pure (.yield (none,c.2.1+1,c.2.2+1))
   | _=>pure (.done (some none,c.2.1,c.2.2)))
 | _=>pure (.done (some none,c.2.1,c.2.2))
def jd (lo n nrem:Nat):StateT SortSt Sem (Option Nat):=do
 liftM (rule "list.sort.descending-run")
 let c ← kH lo (n+1) nrem
 match c.1 with
 | some r=>pure r
 | none=>if c.2.2 > 0 then (do
   reverseSlice' (lo+c.2.1 - (c.2.2+1)) (lo+c.2.1)
   i8 lo c.2.1 nrem) else i8 lo c.2.1 nrem
theorem UJ (lo nrem:Nat):countRun' lo nrem=(do
  let c ← nF lo 1 nrem
  match c.1 with
  | some r=>pure r
  | none=>if (c.2 == nrem)=true then pure (some c.2) else if c.2 > 1 then (do
    let x ← ltAt' lo (lo+c.2 - 1)
    match x with
    | some y=>if y=true then pure (some c.2) else (do
      reverseSlice' lo (lo+c.2)
      jd lo c.2 nrem)
    | _=>pure none) else jd lo c.2 nrem):=by
 rw [countRun'_eq]
 unfold jd i8 kH nF
 have tl:∀ {f g:AS->StateT SortSt Sem (Option Nat)} {m:StateT SortSt Sem AS},(∀ r n,f (r,n)=g (r,n))->(m >>= f)=(m >>= g):=λh=>a0A _ (funext λ⟨r,n⟩=>h r n)
 have td:∀ {f g:DS->StateT SortSt Sem (Option Nat)} {m:StateT SortSt Sem DS},(∀ r n q,f (r,n,q)=g (r,n,q))->(m >>= f)=(m >>= g):=λh=>a0A _ (funext λ⟨r,n,q⟩=>h r n q)
 have bc:∀ {α:Type} {f g:α->StateT SortSt Sem (Option Nat)} {m:StateT SortSt Sem α},(∀ x,f x=g x)->(m >>= f)=(m >>= g):=λh=>a0A _ (funext h)
 refine tl λr n=>?_
 cases r with
 | some r=>rfl
 | none =>
  dsimp only
  split
  .rfl
  .split
   .refine bc λx=>?_
    cases x with
    | none=>rfl
    | some y =>
     dsimp only
     split
     .rfl
     .refine bc λ_=>bc λ_=>td λr n q=>?_
      cases r with
      | some r=>rfl
      | none =>
       dsimp only
       split
       .exact bc λ_=>bc λ_=>tl λr n=>by cases r <;> rfl
       .exact bc λ_=>tl λr n=>by cases r <;> rfl
   .refine bc λ_=>td λr n q=>?_
    cases r with
    | some r=>rfl
    | none =>
     dsimp only
     split
     .exact bc λ_=>bc λ_=>tl λr n=>by cases r <;> rfl
     .exact bc λ_=>tl λr n=>by cases r <;> rfl
section
variable {prog:Program} {w:World} {A:Around} {E:Value->Shared->Prop} {s:Shared} {a₀:Array Keyed} {κ:SortKind} {ρ:aB.RR} {P:Array (Nat×Nat×Nat)}
def Out (lo n:Nat) (xs ys:Array Keyed):Prop:=∀ j,j<lo\/lo+n<=j->ys[j]?=xs[j]?
theorem AN {xs:Array Keyed} {lo n i j:Nat} (hj:j<=xs.size) (h1:lo<=i) (h2:j<=lo+n):Out lo n xs (mirror xs i j ((j - i) / 2)):=λk hk=>by
 rw [getElem?_mirror_all hj,amU (by lia)]
theorem Kc {st:SortSt} {lo a nrem:Nat} {Q:AS->SortSt->Prop} (h0:aB.gC prog w A s κ ρ a₀) (hn:lo+nrem<=a₀.size) (ha:1<=a) (han:a<=nrem) (hB:GP κ a₀ P st) (hs:dg ρ (arrOf st) lo (lo+a))
  (h:∀ n,a<=n->n<=nrem->dg ρ (arrOf st) lo (lo+n)->(n=nrem\/aB.Kg ρ (arrOf st) (lo+n)<aB.Kg ρ (arrOf st) (lo+n - 1))->Q (none,n) st):wpS (model prog w) A E s (nF lo a nrem) Q st:=by
 unfold nF
 refine aub (I:=λx c st1=>st1=st/\c=(none,x)/\dg ρ (arrOf st) lo (lo+x)) ?turn ?last ⟨rfl,rfl,hs⟩
 case last =>
  rintro c st1 ⟨rfl,rfl,i1⟩
  rw [show max a nrem=nrem by lia] at i1 ⊢
  exact h nrem han (aNS _) i1 (.inl rfl)
 case turn =>
  rintro x c st1 hax hxn ⟨rfl,rfl,i1⟩
  dsimp only
  refine a5F (xR hB h0 (by lia) (by lia) ?_)
  by_cases c:aB.Kg ρ (arrOf st1) (lo+x)<aB.Kg ρ (arrOf st1) (lo+x - 1)
  .simp only [c,a2G,a3p]
   exact aju (h x hax (by lia) i1 (.inr c))
  .simp only [c,aIt,arS,aEJ]
   refine aju ⟨rfl,rfl,λi j hi hij hj=>?_⟩
   by_cases hjx:j<lo+x
   .exact i1 i j hi hij hjx
   .have ej:j=lo+x:=by lia
    subst ej
    by_cases e:i=lo+x
    .subst e; exact aEQ _
    .have:=i1 i (lo+x - 1) hi (by lia) (by lia)
     lia
structure DX (ρ:aB.RR) (xs:Array Keyed) (lo x q:Nat):Prop where
 l:q+1<=x
 d:∀ i j,lo<=i->i<=j->j<lo+x->aB.Kg ρ xs j<=aB.Kg ρ xs i
 e:∀ i,lo+x - (q+1)<=i->i<lo+x->aB.Kg ρ xs i=aB.Kg ρ xs (lo+x - 1)
theorem DX.rev {xs:Array Keyed} {lo x q:Nat} (h:DX ρ xs lo x q) (hz:lo+x<=xs.size):DX ρ (mirror xs (lo+x - (q+1)) (lo+x) ((lo+x - (lo+x - (q+1))) / 2)) lo x 0:=by
 have ke:=aB.bN (ρ:=ρ) (i:=lo+x - (q+1)) hz h.e
 have:=h.l
 refine ⟨by lia,λi j h1 h2 h3=>?_,λi h1 h2=>?_⟩
 .rw [ke,ke]; exact h.d i j h1 h2 h3
 .have e:i=lo+x - 1:=by lia
  rw [e]
theorem DX.zero {xs:Array Keyed} {lo x q:Nat} (h:DX ρ xs lo x q):DX ρ xs lo x 0:=⟨by have:=h.l; lia,h.d,λi h1 h2=>by rw [show i=lo+x - 1 by have:=h.l; lia]⟩
theorem DX.less {xs:Array Keyed} {lo x:Nat} (h:DX ρ xs lo x 0) (k:aB.Kg ρ xs (lo+x)<aB.Kg ρ xs (lo+x - 1)):DX ρ xs lo (x+1) 0:=by
 have:=h.l
 refine ⟨by lia,λi j h1 h2 h3=>?_,λi h1 h2=>by rw [show i=lo+(x+1) - 1 by lia]⟩
 by_cases c:j<lo+x
 .exact h.d i j h1 h2 c
 .have ej:j=lo+x:=by lia
  subst ej
  by_cases e:i=lo+x
  .subst e; exact aEQ _
  .have:=h.d i (lo+x - 1) h1 (by lia) (by lia)
   lia
theorem DX.more {xs:Array Keyed} {lo x q:Nat} (h:DX ρ xs lo x q) (k:aB.Kg ρ xs (lo+x)=aB.Kg ρ xs (lo+x - 1)):DX ρ xs lo (x+1) (q+1):=by
 have:=h.l
 refine ⟨by lia,λi j h1 h2 h3=>?_,λi h1 h2=>?_⟩
 .by_cases c:j<lo+x
  .exact h.d i j h1 h2 c
  .have ej:j=lo+x:=by lia
   subst ej
   by_cases e:i=lo+x
   .subst e; exact aEQ _
   .have:=h.d i (lo+x - 1) h1 (by lia) (by lia)
    lia
 .rw [show lo+(x+1) - 1=lo+x by lia]
  by_cases c:i<lo+x
  .rw [k]; exact h.e i (by lia) c
  .rw [show i=lo+x by lia]
theorem SJ {st:SortSt} {lo n nrem:Nat} {Q:DS->SortSt->Prop} (h0:aB.gC prog w A s κ ρ a₀) (hn:lo+nrem<=a₀.size) (hnn:n<=nrem) (hB:GP κ a₀ P st) (hs:DX ρ (arrOf st) lo n 0)
  (h:∀ m q st',GP κ a₀ P st'->m<=nrem->DX ρ (arrOf st') lo m q->Out lo nrem (arrOf st) (arrOf st')->Q (none,m,q) st'):wpS (model prog w) A E s (kH lo n nrem) Q st:=by
 unfold kH
 refine aub (I:=λx c st1=>∃ q,c=(none,x,q)/\GP κ a₀ P st1/\DX ρ (arrOf st1) lo x q/\Out lo nrem (arrOf st) (arrOf st1)) ?turn ?last ⟨0,rfl,hB,hs,λ_ _=>rfl⟩
 case last =>
  rintro c st1 ⟨q,rfl,b1,d1,o1⟩
  rw [show max n nrem=nrem by lia] at d1 ⊢
  exact h nrem q st1 b1 (aNS _) d1 o1
 case turn =>
  rintro x c st1 hax hxn ⟨q,rfl,b1,d1,o1⟩
  dsimp only
  have sz:=b1.size
  have hl:=d1.l
  refine a5F (xR b1 h0 (by lia) (by lia) ?_)
  by_cases c:aB.Kg ρ (arrOf st1) (lo+x)<aB.Kg ρ (arrOf st1) (lo+x - 1)
  .simp only [c,a2G,a3p]
   by_cases hq:q > 0
   .rw [atn hq]
    have ke:=aB.bN (ρ:=ρ) (i:=lo+x - (q+1)) (by lia:lo+x<=(arrOf st1).size) d1.e
    refine a5F (a6s (aju ⟨0,rfl,b1.setArr (aZv _ _ _ _),(d1.rev (by lia)).less ?_,λk hk=>(AN (by lia) (by lia) (by lia) k hk).trans (o1 k hk)⟩))
    rw [ke,ke]; exact c
   .rw [amU hq]
    have e:q=0:=by lia
    subst e
    exact aju ⟨0,rfl,b1,d1.less c,o1⟩
  .simp only [c,aIt,arS,aEJ]
   refine a5F (xR b1 h0 (by lia) (by lia) ?_)
   by_cases c2:aB.Kg ρ (arrOf st1) (lo+x - 1)<aB.Kg ρ (arrOf st1) (lo+x)
   .simp only [c2,a2G,a3p]
    exact aju (h x q st1 b1 (by lia) d1 o1)
   .simp only [c2,aIt,arS,aEJ]
    exact aju ⟨q+1,rfl,b1,d1.more (by lia),o1⟩
theorem Kv {st gq:SortSt} {lo n nrem:Nat} {Q:Option Nat->SortSt->Prop} (h0:aB.gC prog w A s κ ρ a₀) (hn:lo+nrem<=a₀.size) (h1:1<=n) (hnn:n<=nrem) (hB:GP κ a₀ P st) (hs:DX ρ (arrOf st) lo n 0) (ho:Out lo nrem (arrOf gq) (arrOf st))
  (h:∀ m st',GP κ a₀ P st'->1<=m->m<=nrem->dg ρ (arrOf st') lo (lo+m)->Out lo nrem (arrOf gq) (arrOf st')->Q (some m) st'):wpS (model prog w) A E s (i8 lo n nrem) Q st:=by
 unfold i8
 have sz:=hB.size
 refine a5F (a6s ?_)
 have b1:GP κ a₀ P (setArr st (mirror (arrOf st) lo (lo+n) ((lo+n - lo) / 2))):=hB.setArr (aZv _ _ _ _)
 refine a5F (Kc h0 hn h1 hnn b1 ?_ λm m1 m2 i2 _=>aju (h m _ b1 (by lia) m2 i2 λk hk=>(AN (by lia) (by lia) (by lia) k hk).trans (ho k hk)))
 intro i j hi hij hj
 show aB.Kg ρ (mirror (arrOf st) lo (lo+n) ((lo+n - lo) / 2)) i<=aB.Kg ρ (mirror (arrOf st) lo (lo+n) ((lo+n - lo) / 2)) j
 rw [aB.fQ (by lia),aB.fQ (by lia),atn (by lia),atn (by lia)]
 exact hs.d _ _ (by lia) (by lia) (by lia)
theorem Ku {st gq:SortSt} {lo n nrem:Nat} {Q:Option Nat->SortSt->Prop} (h0:aB.gC prog w A s κ ρ a₀) (hn:lo+nrem<=a₀.size) (hnn:n+1<=nrem) (hB:GP κ a₀ P st) (hs:DX ρ (arrOf st) lo (n+1) 0) (ho:Out lo nrem (arrOf gq) (arrOf st))
  (h:∀ m st',GP κ a₀ P st'->1<=m->m<=nrem->dg ρ (arrOf st') lo (lo+m)->Out lo nrem (arrOf gq) (arrOf st')->Q (some m) st'):wpS (model prog w) A E s (jd lo n nrem) Q st:=by
 unfold jd
 refine a5F (wpS_lift (aei ⟨rfl,?_⟩))
 refine a5F (SJ h0 hn hnn hB hs λm q st1 b1 m2 d1 o1=>?_)
 dsimp only
 have hl:=d1.l
 have sz:=b1.size
 by_cases hq:q > 0
 .rw [atn hq]
  exact a5F (a6s (Kv h0 hn (by lia) m2 (b1.setArr (aZv _ _ _ _)) (d1.rev (by lia)) (λk hk=>((AN (by lia) (by lia) (by lia) k hk).trans (o1 k hk)).trans (ho k hk)) h))
 .rw [amU hq]
  exact Kv h0 hn (by lia) m2 b1 d1.zero (λk hk=>(o1 k hk).trans (ho k hk)) h
theorem UI {st:SortSt} {lo nrem:Nat} {Q:Option Nat->SortSt->Prop} (h0:aB.gC prog w A s κ ρ a₀) (hn:lo+nrem<=a₀.size) (h1:1<=nrem) (hB:GP κ a₀ P st)
  (h:∀ m st',GP κ a₀ P st'->1<=m->m<=nrem->dg ρ (arrOf st') lo (lo+m)->Out lo nrem (arrOf st) (arrOf st')->Q (some m) st'):wpS (model prog w) A E s (countRun' lo nrem) Q st:=by
 rw [UJ]
 have sz:=hB.size
 refine a5F (Kc h0 hn (aNS 1) h1 hB (λi j hi hij hj=>by rw [show i=j by lia]; exact aEQ _) λn n1 n2 i1 hor=>?_)
 dsimp only
 by_cases e:n=nrem
 .rw [atn (by simpa using e)]
  exact aju (h n st hB n1 n2 i1 λ_ _=>rfl)
 .rw [amU (by simpa using e)]
  have lt:aB.Kg ρ (arrOf st) (lo+n)<aB.Kg ρ (arrOf st) (lo+n - 1):=hor.resolve_left e
  by_cases g:n > 1
  .rw [atn g]
   refine a5F (xR hB h0 (by lia) (by lia) ?_)
   by_cases c:aB.Kg ρ (arrOf st) lo<aB.Kg ρ (arrOf st) (lo+n - 1)
   .simp only [c,a2G,a3p]
    exact aju (h n st hB n1 n2 i1 λ_ _=>rfl)
   .simp only [c,aIt,arS,aEJ]
    have all:∀ k,lo<=k->k<lo+n->aB.Kg ρ (arrOf st) k=aB.Kg ρ (arrOf st) (lo+n - 1):=λk h1 h2=>by
     have a1:=i1 lo k (aNS _) h1 h2
     have a2:=i1 k (lo+n - 1) h1 (by lia) (by lia)
     lia
    have ke:=aB.bN (ρ:=ρ) (xs:=arrOf st) (i:=lo) (j:=lo+n) (by lia) all
    have dx:DX ρ (mirror (arrOf st) lo (lo+n) ((lo+n - lo) / 2)) lo n 0:=⟨by lia,λi j h1 h2 h3=>by rw [ke,ke,all i h1 (by lia),all j (by lia) h3]; exact aEQ _,λi h1 h2=>by rw [show i=lo+n - 1 by lia]⟩
    exact a5F (a6s (Ku (gq:=st) h0 hn (by lia) (hB.setArr (aZv _ _ _ _)) (dx.less (by rw [ke,ke]; exact lt)) (AN (by lia) (by lia) (by lia)) h))
  .rw [amU g]
   have en:n=1:=by lia
   subst en
   exact Ku (gq:=st) h0 hn (by lia) hB (DX.less ⟨by lia,λi j h1 h2 h3=>by rw [show i=j by lia]; exact aEQ _,λi h1 h2=>by rw [show i=lo+1 - 1 by lia]⟩ lt) (λ_ _=>rfl) h
end
abbrev Rn:=Nat×Nat×Nat
def fD:List Rn->Nat->Nat->Prop
 | [],a,b=>a=b
 | t :: r,a,b=>t.1=a/\0<t.2.1/\fD r (a+t.2.1) b
theorem dz:∀ {l m:List Rn} {a b:Nat},fD (l++m) a b↔∃ c,fD l a c/\fD m c b
 | [],m,a,b=>⟨λh=>⟨a,rfl,h⟩,λ⟨c,h1,h2⟩=>by rw [show a=c from h1]; exact h2⟩
 | t :: r,m,a,b=>by
  constructor
  .rintro ⟨h1,h2,h3⟩
   obtain ⟨c,h4,h5⟩:=dz.mp h3
   exact ⟨c,⟨h1,h2,h4⟩,h5⟩
  .rintro ⟨c,⟨h1,h2,h4⟩,h5⟩
   exact ⟨h1,h2,dz.mpr ⟨c,h4,h5⟩⟩
theorem AF:∀ {l:List Rn} {a b:Nat},fD l a b->l.length+a<=b
 | [],a,b,h=>by rw [show a=b from h]; show 0+b<=b; lia
 | t :: r,a,b,⟨_,h2,h3⟩=>by
  have:=AF h3
  rw [bc9]
  lia
theorem As:∀ {l:List Rn} {a b:Nat},fD l a b->∀ t∈l,a<=t.1/\t.1+t.2.1<=b
 | [],a,b,h,t,ht=>nomatch ht
 | u :: r,a,b,⟨h1,h2,h3⟩,t,ht=>by
  have l:=AF h3
  rcases ac0.mp ht with e | ht
  .subst e; lia
  .have:=As h3 t ht
   lia
theorem IU:∀ {l:List Rn} {i:Nat} {x y:Rn},l[i]?=some x->l[i+1]?=some y->l=l.take i++x :: y :: l.drop (i+2)
 | [],i,x,y,h,_=>by simp at h
 | [a],0,x,y,h,h2=>by simp at h2
 | a :: b :: r,0,x,y,h,h2=>by
  simp only [List.getElem?_cons_zero,aSk,Option.some.injEq] at h h2
  subst h h2; rfl
 | a :: r,i+1,x,y,h,h2=>by
  have:=IU (l:=r) (i:=i) (x:=x) (y:=y) (by simpa using h) (by simpa using h2)
  show a :: r=a :: (r.take i++x :: y :: r.drop (i+2))
  rw [← this]
theorem UH (l m:List Rn) (x y v:Rn):((l++x :: y :: m).set l.length v).eraseIdx (l.length+1)=l++v :: m:=by
 induction l with
 | nil=>rfl
 | cons a r ih=>show a :: ((r++x :: y :: m).set r.length v).eraseIdx (r.length+1)=a :: (r++v :: m); rw [ih]
section
variable {prog:Program} {w:World} {A:Around} {E:Value->Shared->Prop} {s:Shared} {a₀:Array Keyed} {κ:SortKind} {ρ:aB.RR} {P:Array Rn}
theorem xO {xs ys:Array Keyed} {a b:Nat} (h:dg ρ xs a b) (e:∀ j,a<=j->j<b->ys[j]?=xs[j]?):dg ρ ys a b:=λi j h1 h2 h3=>by
 rw [aB.b7 (e i h1 (by lia)),aB.b7 (e j (by lia) h3)]
 exact h i j h1 h2 h3
structure RI (κ:SortKind) (a₀:Array Keyed) (ρ:aB.RR) (lo:Nat) (st:SortSt):Prop where
 perm:(arrOf st).Perm a₀
 kn:kindOf st=κ
 failed:failedOf st=none
 tile:fD (pendingOf st).toList 0 lo
 sQ:∀ t∈(pendingOf st).toList,dg ρ (arrOf st) t.1 (t.1+t.2.1)
theorem RI.gp {lo:Nat} {st:SortSt} (h:RI κ a₀ ρ lo st):GP κ a₀ (pendingOf st) st:=⟨h.perm,h.kn,h.failed,rfl⟩
theorem RI.out {lo n:Nat} {st st':SortSt} (h:RI κ a₀ ρ lo st) (g:GP κ a₀ (pendingOf st) st') (o:Out lo n (arrOf st) (arrOf st')):RI κ a₀ ρ lo st' :=
 ⟨g.perm,g.kn,g.failed,by rw [g.pend]; exact h.tile,λt ht=>by
  rw [g.pend] at ht
  have:=As h.tile t ht
  exact xO (h.sQ t ht) λj h1 h2=>o j (.inl (by lia))⟩
theorem RI.merge {lo i:Nat} {x y:Rn} {st:SortSt} {Q:Bool->SortSt->Prop} (h0:aB.gC prog w A s κ ρ a₀) (h:RI κ a₀ ρ lo st) (hlo:lo<=a₀.size) (e1:(pendingOf st)[i]?=some x) (e2:(pendingOf st)[i+1]?=some y)
  (k:∀ st',RI κ a₀ ρ lo st'->(pendingOf st').size+1=(pendingOf st).size->(∀ j,lo<=j->(arrOf st')[j]?=(arrOf st)[j]?)->Q true st'):wpS (model prog w) A E s (Fd i) Q st:=by
 obtain ⟨sa,na,p⟩:=x
 obtain ⟨sb,nb,q⟩:=y
 have el:=IU (l:=(pendingOf st).toList) (i:=i) (by rw [aek]; exact e1) (by rw [aek]; exact e2)
 have hi:i<(pendingOf st).toList.length:=by
  rw [aHK]
  exact (Array.getElem?_eq_some_iff.mp e1).1
 have hti:((pendingOf st).toList.take i).length=i:=by rw [a9v]; lia
 have ht:=h.tile
 have hs:=h.sQ
 have hsz:(pendingOf st).size=(pendingOf st).toList.length:=aHK.symm
 have hnew:(((pendingOf st).setIfInBounds i (sa,na+nb,p)).eraseIdxIfInBounds (i+1)).toList=(pendingOf st).toList.take i++(sa,na+nb,p) :: (pendingOf st).toList.drop (i+2):=by
  rw [Array.toList_eraseIdxIfInBounds,Array.toList_setIfInBounds]
  conv=>lhs; rw [el]
  have:=UH ((pendingOf st).toList.take i) ((pendingOf st).toList.drop (i+2)) (sa,na,p) (sb,nb,q) (sa,na+nb,p)
  rw [hti] at this
  exact this
 generalize (pendingOf st).toList.take i=l at *
 generalize (pendingOf st).toList.drop (i+2)=m at *
 rw [el] at ht hs hsz
 obtain ⟨c,t1,t2,t3,t4,t5,t6⟩:=dz.mp ht
 have t2:sa=c:=t2
 have t3:0<na:=t3
 have t4:sb=c+na:=t4
 have t5:0<nb:=t5
 have t6:fD m (c+na+nb) lo:=t6
 have l6:=AF t6
 refine UW h0 h.kn h.gp.mem h.failed e1 e2 (by lia) t3 t5 (by rw [h.gp.size]; lia) (hs (sa,na,p) (by simp)) (hs (sb,nb,q) (by simp)) λst' k1 f1 p1 pe s1 o1=>?_
 refine k st' ⟨p1.trans h.perm,k1,f1,?_,?_⟩ ?_ λj hj=>o1 j (.inr (by lia))
 .rw [pe,hnew]
  exact dz.mpr ⟨c,t1,t2,by show 0<na+nb; lia,by show fD m (c+(na+nb)) lo; rw [← Nat.add_assoc]; exact t6⟩
 .rw [pe,hnew]
  intro t ht
  rcases aJX.mp ht with ht | ht
  .have:=As t1 t ht
   exact xO (hs t (aCj _ ht)) λj h1 h2=>o1 j (.inl (by lia))
  .rcases ac0.mp ht with ht | ht
   .subst ht
    show dg ρ (arrOf st') sa (sa+(na+nb))
    rw [show sa+(na+nb)=sb+nb by lia]
    exact s1
   .have:=As t6 t ht
    exact xO (hs t (ap3 _ (amQ _ (amQ _ ht)))) λj h1 h2=>o1 j (.inr (by lia))
 .have z:(pendingOf st').size=(pendingOf st').toList.length:=aHK.symm
  rw [z,pe,hnew,hsz,aUV,aUV]
  rfl
theorem RI.push {lo n:Nat} {st:SortSt} (h:RI κ a₀ ρ lo st) (hn:0<n) (hs:dg ρ (arrOf st) lo (lo+n)):RI κ a₀ ρ (lo+n) (setPending st ((pendingOf st).push (lo,n,0))):=by
 refine ⟨h.perm,h.kn,h.failed,?_,?_⟩
 .show fD ((pendingOf st).push (lo,n,0)).toList 0 (lo+n)
  rw [azD]
  exact dz.mpr ⟨lo,h.tile,rfl,hn,rfl⟩
 .show ∀ t∈((pendingOf st).push (lo,n,0)).toList,_
  rw [azD]
  intro t ht
  rcases aJX.mp ht with ht | ht
  .exact h.sQ t ht
  .rw [aBr.mp ht]; exact hs
theorem Ks {f:Rn->Rn} (hf:∀ t,(f t).1=t.1/\(f t).2.1=t.2.1):∀ {l:List Rn} {i a b:Nat},fD l a b->fD (l.modify i f) a b
 | [],i,a,b,h=>by cases i <;> exact h
 | t :: r,0,a,b,⟨h1,h2,h3⟩=>by
  show fD (f t :: r) a b
  exact ⟨(hf t).1.trans h1,by rw [(hf t).2]; exact h2,by rw [(hf t).2]; exact h3⟩
 | t :: r,i+1,a,b,⟨h1,h2,h3⟩=>⟨h1,h2,Ks hf h3⟩
theorem LN {f:Rn->Rn}:∀ {l:List Rn} {i:Nat} {t:Rn},t∈l.modify i f->t∈l\/∃ u∈l,t=f u
 | [],i,t,h=>by cases i <;> exact nomatch h
 | u :: r,0,t,h=>by
  rcases ac0.mp (show t∈f u :: r from h) with e | h
  .exact .inr ⟨u,a5w,e⟩
  .exact .inl (amQ _ h)
 | u :: r,i+1,t,h=>by
  rcases ac0.mp (show t∈u :: r.modify i f from h) with e | h
  .exact .inl (e ▸ a5w)
  .rcases LN h with h | ⟨v,hv,e⟩
   .exact .inl (amQ _ h)
   .exact .inr ⟨v,amQ _ hv,e⟩
theorem RI.pow {lo i:Nat} {st:SortSt} {f:Rn->Rn} (hf:∀ t,(f t).1=t.1/\(f t).2.1=t.2.1) (h:RI κ a₀ ρ lo st):RI κ a₀ ρ lo (setPending st ((pendingOf st).modify i f)):=by
 refine ⟨h.perm,h.kn,h.failed,?_,?_⟩
 .show fD ((pendingOf st).modify i f).toList 0 lo
  rw [Array.toList_modify]
  exact Ks hf h.tile
 .show ∀ t∈((pendingOf st).modify i f).toList,_
  rw [Array.toList_modify]
  intro t ht
  rcases LN ht with ht | ⟨u,hu,e⟩
  .exact h.sQ t ht
  .rw [e,(hf u).1,(hf u).2]; exact h.sQ u hu
theorem mD {st:SortSt} {Q:Unit->SortSt->Prop} (h0:aB.gC prog w A s κ ρ a₀) (hP:(arrOf st).Perm a₀) (hk:kindOf st=κ) (hf:failedOf st=none) (hp:pendingOf st=#[])
  (h:∀ st',(arrOf st').Perm a₀->failedOf st'=none->dg ρ (arrOf st') 0 a₀.size->Q () st'):wpS (model prog w) A E s sortRuns' Q st:=by
 rw [sortRuns'_eq]
 refine a5F (ar4 ?_)
 dsimp only
 have Pw:(arrOf st).size=a₀.size:=hP.size_eq
 simp only [Pw]
 generalize minRun' a₀.size a₀.size 0=mr
 have r0:RI κ a₀ ρ 0 st:=⟨hP,hk,hf,by rw [hp]; rfl,by rw [hp]; exact λt ht=>nomatch ht⟩
 refine a5F (bca (aub (I:=λx c st1=>∃ lo,c=(none,lo)/\lo<=a₀.size/\(x<=lo\/lo=a₀.size)/\RI κ a₀ ρ lo st1) (Q:=λc st1=>c=(none,a₀.size)/\RI κ a₀ ρ a₀.size st1) ?turn ?last ⟨0,rfl,aze _,.inl (aNS _),r0⟩) ?after)
 case last =>
  rintro c st1 ⟨lo,rfl,hlo,hx,r1⟩
  have e:lo=a₀.size:=by lia
  subst e
  exact ⟨rfl,r1⟩
 case turn =>
  rintro x c st1 _ hx ⟨lo,rfl,hlo,Xo,r1⟩
  dsimp only
  by_cases g:lo ≥ a₀.size
  .rw [atn g]
   have e:lo=a₀.size:=by lia
   subst e
   exact aju ⟨rfl,r1⟩
  .rw [amU g]
   refine a5F (UI h0 (by lia) (by lia) r1.gp λm st2 b2 m1 m2 s2 o2=>?_)
   dsimp only
   have r2:=r1.out b2 o2
   have fin:∀ {n:Nat} {st3:SortSt},0<n->lo+n<=a₀.size->RI κ a₀ ρ lo st3->dg ρ (arrOf st3) lo (lo+n)->∃ lo',(none,lo+n)=((none,lo'):Option Unit×Nat)/\lo'<=a₀.size/\(x+1<=lo'\/lo'=a₀.size)/\RI κ a₀ ρ lo' (setPending st3 ((pendingOf st3).push (lo,n,0))):=λ{n st3} h1 h2 h3 h4=>⟨lo+n,rfl,h2,by lia,h3.push h1 h4⟩
   by_cases lt:m<mr
   .rw [atn lt]
    refine a5F (wpS_lift (aei ⟨rfl,?_⟩))
    refine a5F (RK h0 (by lia) (by lia) m1 b2 s2 λst3 b3 s3 o3=>?_)
    simp only [aCO,arS,aEJ]
    have r3:=r1.out (n:=a₀.size - lo) b3 λj hj=>(o3 j (by lia)).trans (o2 j hj)
    have hn:0<min (a₀.size - lo) mr:=by lia
    have iZ:lo+min (a₀.size - lo) mr<=a₀.size:=by lia
    clear b3 o3 b2 s2 o2 r2 m1 m2 lt
    generalize min (a₀.size - lo) mr=n at *
    refine a5F (ar4 ?_)
    cases eb:(pendingOf st3).back? with
    | none =>
     dsimp only
     exact a5F (aQM (aju (fin hn iZ r3 s3)))
    | some t =>
     obtain ⟨s1,n1,z⟩:=t
     dsimp only
     generalize power' a₀.size (2 * s1+n1) (2 * s1+n1+n1+n) a₀.size=pw
     refine a5F (bca (aub (I:=λ_ c cC=>c=(none,())/\RI κ a₀ ρ lo cC/\dg ρ (arrOf cC) lo (lo+n)) (Q:=λc cC=>c=(none,())/\RI κ a₀ ρ lo cC/\dg ρ (arrOf cC) lo (lo+n)) ?_ (λ_ _ hh=>hh) ⟨rfl,r3,s3⟩) ?_)
     .rintro y c cC _ _ ⟨rfl,r4,h4⟩
      refine a5F (ar4 ?_)
      by_cases c2:(pendingOf cC).size > 1
      .have e1:(pendingOf cC)[(pendingOf cC).size - 2]?=some (pendingOf cC)[(pendingOf cC).size - 2]:=a8g (by lia)
       have e2:(pendingOf cC)[(pendingOf cC).size - 2+1]?=some (pendingOf cC)[(pendingOf cC).size - 2+1]:=a8g (by lia)
       simp only [atn c2]
       rw [e1]
       dsimp only
       by_cases c3:(pendingOf cC)[(pendingOf cC).size - 2].2.2<=pw
       .rw [atn c3]
        exact aju ⟨rfl,r4,h4⟩
       .rw [amU c3]
        refine a5F (RI.merge h0 r4 hlo e1 e2 λoE r5 _ o5=>?_)
        simp only [aCO,arS,aEJ]
        exact aju ⟨rfl,r5,xO h4 λj h1 _=>o5 j h1⟩
      .simp only [amU c2]
       exact aju ⟨rfl,r4,h4⟩
     .rintro c cC ⟨rfl,r4,h4⟩
      dsimp only
      exact a5F (aQM (a5F (aQM (aju (fin hn iZ (r4.pow λ_=>⟨rfl,rfl⟩) h4)))))
   .rw [amU lt]
    have hn:0<m:=by lia
    have iZ:lo+m<=a₀.size:=by lia
    have r3:=r2
    have s3:=s2
    clear b2 s2 o2 r2 m1 m2 lt
    generalize m=n at *
    generalize st2=st3 at *
    refine a5F (ar4 ?_)
    cases eb:(pendingOf st3).back? with
    | none =>
     dsimp only
     exact a5F (aQM (aju (fin hn iZ r3 s3)))
    | some t =>
     obtain ⟨s1,n1,z⟩:=t
     dsimp only
     generalize power' a₀.size (2 * s1+n1) (2 * s1+n1+n1+n) a₀.size=pw
     refine a5F (bca (aub (I:=λ_ c cC=>c=(none,())/\RI κ a₀ ρ lo cC/\dg ρ (arrOf cC) lo (lo+n)) (Q:=λc cC=>c=(none,())/\RI κ a₀ ρ lo cC/\dg ρ (arrOf cC) lo (lo+n)) ?_ (λ_ _ hh=>hh) ⟨rfl,r3,s3⟩) ?_)
     .rintro y c cC _ _ ⟨rfl,r4,h4⟩
      refine a5F (ar4 ?_)
      by_cases c2:(pendingOf cC).size > 1
      .have e1:(pendingOf cC)[(pendingOf cC).size - 2]?=some (pendingOf cC)[(pendingOf cC).size - 2]:=a8g (by lia)
       have e2:(pendingOf cC)[(pendingOf cC).size - 2+1]?=some (pendingOf cC)[(pendingOf cC).size - 2+1]:=a8g (by lia)
       simp only [atn c2]
       rw [e1]
       dsimp only
       by_cases c3:(pendingOf cC)[(pendingOf cC).size - 2].2.2<=pw
       .rw [atn c3]
        exact aju ⟨rfl,r4,h4⟩
       .rw [amU c3]
        refine a5F (RI.merge h0 r4 hlo e1 e2 λoE r5 _ o5=>?_)
        simp only [aCO,arS,aEJ]
        exact aju ⟨rfl,r5,xO h4 λj h1 _=>o5 j h1⟩
      .simp only [amU c2]
       exact aju ⟨rfl,r4,h4⟩
     .rintro c cC ⟨rfl,r4,h4⟩
      dsimp only
      exact a5F (aQM (a5F (aQM (aju (fin hn iZ (r4.pow λ_=>⟨rfl,rfl⟩) h4)))))
 case after =>
  rintro c st1 ⟨rfl,r1⟩
  dsimp only
  have l1:=AF r1.tile
  rw [aHK] at l1
  refine a5F (bca (aub (I:=λx c st2=>c=(none,())/\RI κ a₀ ρ a₀.size st2/\(pendingOf st2).size+x<=a₀.size+1) (Q:=λc st2=>c=(none,())/\RI κ a₀ ρ a₀.size st2/\(pendingOf st2).size<=1) ?_ ?_ ⟨rfl,r1,by lia⟩) ?_)
  .rintro y c st2 _ _ ⟨rfl,r2,h2⟩
   refine a5F (ar4 ?_)
   by_cases c1:(pendingOf st2).size<=1
   .rw [atn c1]
    exact aju ⟨rfl,r2,c1⟩
   .rw [amU c1]
    obtain ⟨i,hi,hlt⟩:∃ i,(if Option.any (λx=>decide (x<(pendingOf st2)[(pendingOf st2).size - 2+1]?.elim 0 λx=>x.snd.fst)) (if (pendingOf st2).size - 2 > 0 then Option.map (λx=>x.snd.fst) (pendingOf st2)[(pendingOf st2).size - 2 - 1]? else none)=true then (pendingOf st2).size - 2 - 1 else (pendingOf st2).size - 2)=i/\i+1<(pendingOf st2).size:=⟨_,rfl,by generalize Option.any _ _=bb; cases bb <;> simp <;> lia⟩
    rw [hi]
    refine a5F (RI.merge h0 r2 (aNS _) (a8g (by lia)) (a8g hlt) λoE r5 z5 _=>?_)
    simp only [aCO,arS,aEJ]
    exact aju ⟨rfl,r5,by lia⟩
  .rintro c st2 ⟨rfl,r2,h2⟩
   exact ⟨rfl,r2,by lia⟩
  .rintro c st2 ⟨rfl,r2,h2⟩
   dsimp only
   refine aju (h st2 r2.perm r2.failed ?_)
   have ht:=r2.tile
   have hs:=r2.sQ
   have z:(pendingOf st2).size=(pendingOf st2).toList.length:=aHK.symm
   rw [z] at h2
   generalize (pendingOf st2).toList=l at *
   match l,h2,ht,hs with
   | [],_,ht,_ =>
    have e:0=a₀.size:=ht
    intro i j _ _ hj
    lia
   | [t],_,⟨t1,t2,t3⟩,hs =>
    have e:0+t.2.1=a₀.size:=t3
    have q:=hs t (by simp)
    rw [t1,e] at q
    exact q
   | _ :: _ :: _,h2,_,_=>simp at h2
end
end L2.pC
set_option maxHeartbeats 4000000
namespace L2
open PySem PySem.Spec PyProof.Rows
section
variable {prog:Program} {w:World} {A:Around} {E:Value->Shared->Prop} {s:Shared}
theorem Qv {a:Addr} {us:List Value} {m:Nat} {P:PySem.Fin->Shared->Prop} {κ:SortKind} {ρ:aB.RR} (ho:s.heap.get? a=some (seqObj "list" us.toArray m)) (z:us.length<=1000000)
  (hk:2<=us.length->(∀ (E:Value->Shared->Prop) (Q:SortKind->Shared->Prop),Q κ { s with heap:=kT s.heap a us }->wpAny (model prog w) A (keyKind' us.toArray) Q E { s with heap:=kT s.heap a us })/\aB.gC prog w A { s with heap:=kT s.heap a us } κ ρ (pairsOf us))
  (g:∀ q:SortSt,(arrOf q).Perm (pairsOf us)->pC.dg ρ (arrOf q) 0 (pairsOf us).size->P (.done (.ret .none)) { s with heap:=sortedHeap s.heap a us ((arrOf q).map (·.2)) }):wpAny (model prog w) A (Builtin.«list.sort» ⟨[.ref a],[]⟩) P E s:=by
 rw [list_sort_plain]
 have al:a<s.heap.objs.size:=alE ho
 obtain ⟨c,oc⟩:∃ c,(s.heap.update a (Obj.mapSeq λ_=>#[])).get? a=some (seqObj "list" #[] c):=⟨_,get?_update_seq ho (λ_=>#[])⟩
 have vV:(kT s.heap a us).get? a=some (seqObj "list" #[] c):=atD _ (atD _ oc)
 refine a6w (listItems_at ho rfl (a6w (aVF ho rfl (a6w (seqEpoch_at oc rfl (a6w (wpAny_newTuple (a6w (wpAny_newList (aBl ?_)))))))))) <;> try (rw [a7z]; first | (rw [a5A]; lia) | lia)
 show wpAny (model prog w) A _ P E { s with heap:=kT s.heap a us }
 dsimp only
 have WN:us.toArray.size=us.length:=a5A ..
 by_cases few:us.toArray.size<2
 .rw [atn few,atn few]
  refine a6w (adj ?_)
  rw [StateT.run_pure]
  refine a6w (adj (a6w (seqEpoch_at vV rfl (a6w (aVF vV rfl ?_ (hsz2:=by rw [Array.size_map]; show (pairsOf us).size<=_; rw [pairsOf_size,a7z]; lia))))))
  simp only [bne_self_eq_false,arS,aEJ]
  refine adj (g (SortSt.mk' general' (us.toArray.zip us.toArray) #[] 7 none) (axR _) λi j _ hij hj=>?_)
  rw [pairsOf_size] at hj
  rw [show i=j by lia]
  exact aEQ _
 .rw [amU few,amU few]
  have two:2<=us.length:=by lia
  obtain ⟨k1,k2⟩:=hk two
  refine a6w (k1 _ _ (a6w (aPb (pC.mD (a₀:=pairsOf us) (st:=SortSt.mk' κ (us.toArray.zip us.toArray) #[] 7 none) (Q:=λ_ q=>(arrOf q).Perm (pairsOf us)/\failedOf q=none/\pC.dg ρ (arrOf q) 0 (pairsOf us).size) k2 (axR _) rfl rfl rfl λq a1 a2 a3=>⟨a1,a2,a3⟩) ?_ λ_ _ e=>e)))
  rintro ⟨⟨⟩,q⟩ t ⟨rfl,hp,hf,hs⟩
  refine a6w (seqEpoch_at vV rfl (a6w (aVF vV rfl ?_ (hsz2:=by rw [Array.size_map,hp.size_eq,pairsOf_size,a7z]; lia))))
  dsimp only
  rw [hf]
  simp only [bne_self_eq_false,arS,aEJ]
  exact adj (g q hp hs)
theorem RJ {l:Addr} {us:List Value} {Q:Value->Shared->Prop} {κ:SortKind} {ρ:aB.RR} (hl:s.heap.IsList l us.toArray) (z:us.length<=1000000)
  (hk:2<=us.length->∀ h':Heap,(∀ b o,s.heap.get? b=some o->h'.get? b=some o)->(∀ (E:Value->Shared->Prop) (Q:SortKind->Shared->Prop),Q κ { s with heap:=h' }->wpAny (model prog w) A.in1.in1 (keyKind' us.toArray) Q E { s with heap:=h' })/\aB.gC prog w A.in1.in1 { s with heap:=h' } κ ρ (pairsOf us))
  (g:∀ q:SortSt,(arrOf q).Perm (pairsOf us)->pC.dg ρ (arrOf q) 0 (pairsOf us).size->Q (.ref (s.heap.objs.size+1)) { s with heap:=sortedAll s.heap us ((arrOf q).map (·.2)) }):wpAny (model prog w) A (call (.builtin "sorted") [.ref l]) Q E s:=by
 have zz:us.length<=sizeLine:=by rw [a7z]; lia
 refine Calls.call_function_entry kind_sorted plain_sorted entry_sorted (args_sorted1 _) ?_
 unfold Builtin.«sorted»
 refine a6w (m:=checkCount "sorted" 1 1 _) (adj (a6w (collect_list hl (a6w (wpAny_newList ?_ zz)) zz)))
 have sz:((s.heap.push (seqObj "list" #[] 0)).update s.heap.objs.size (Obj.mapSeq (·++us.toArray))).objs.size=s.heap.objs.size+1:=by rw [Heap.size_update,size_push']
 have oL:(l5 s.heap us).get? (s.heap.objs.size+1)=some (seqObj "list" us.toArray 0):=by unfold l5; rw [← sz]; exact aMS _ rfl
 show wpAny _ _ _ _ _ { s with heap:=l5 s.heap us }
 rw [sz]
 refine a6w (aBl (aM8 slot_list_sort ⟨_,oL,rfl⟩ entry_list_sort (Qv (s:={ s with heap:=l5 s.heap us }) (κ:=κ) oL z (λtwo=>hk two _ λb o e=>SM (aOw (ae2 (alE e))) (SK e)) λq a1 a2=>⟨_,rfl,?_⟩) (args_list_sort _)))
 exact adj ⟨_,rfl,g q a1 a2⟩
end
theorem Qu {α:Type}:∀ {l:List α},2<=l.length->∃ a b r,l=a :: b :: r
 | [],h=>absurd h (Nat.not_succ_le_zero 1)
 | [_],h=>absurd h (af9 1)
 | a :: b :: r,_=>⟨a,b,r,rfl⟩
def sU:aB.RR:=⟨λ_=>0,λp=>match p.1 with | .int n _=>n | _=>0⟩
theorem IT {xs:Array Keyed} {i:Nat}:aB.Kg sU xs i=PyProof.Rows.K xs i:=by
 unfold aB.Kg PyProof.Rows.K
 cases xs[i]? with
 | none=>rfl
 | some p=>obtain ⟨v,u⟩:=p; cases v <;> rfl
def SI (K:W.Frag):List V->Hp->VK->Prop:=λxs H Q=>∃ (p:Addr) (ns:List Int),xs=[.ref p]/\ak K H p (ns.map V.int)/\ns.length<=1000000 /\
 ∀ (D:Addr) (os:List Int),H D=none->os.Perm ns->os.Pairwise (·<=·)->Q (.ref D) (upd H D (.lst (os.map V.int)))
variable {K:W.Frag} {X:Cx}
theorem FY (hK:X.K=K):aU X (.builtin "sorted") (SI K):=by
 subst hK
 intro pins s σ H xs us Q I r h
 obtain ⟨p,ns,rfl,hq,hz0,q⟩:=h
 obtain ⟨u,rfl,rx⟩:=vals1 r
 cases rx
 obtain ⟨its,rv,pl,hz⟩:=I.list hq
 have hv:=yj rv
 have lv:its.length=ns.length:=by have:=rv.length; rw [aAt] at this; exact this.symm
 refine RJ (κ:=oneType') (ρ:=sU) pl.isList (by lia) (λtwo h' kp=>⟨λE Q hQ=>?_,λx mx y my E Q hQ=>?_⟩) λst hp hs=>?_
 .obtain ⟨v1,v2,rest,e⟩:=Qu two
  rw [e] at hv ⊢
  rw [keyKind_ints hv]
  exact adj hQ
 .obtain ⟨a,t,ea⟩:=hv.intKeys x mx
  obtain ⟨b,t',eb⟩:=hv.intKeys y my
  rw [ea,eb]
  refine W.kat_lt_int ?_
  have e1:sU.g x=a:=by unfold sU; dsimp only; rw [ea]
  have e2:sU.g y=b:=by unfold sU; dsimp only; rw [eb]
  rw [e1,e2] at hQ
  exact hQ
 .obtain ⟨ns',h1,h2,h3⟩:=sorted_out hv hp (λi j hij hj=>by rw [← IT,← IT]; exact hs i j (aze _) hij hj)
  generalize (arrOf st).map (·.2)=out at *
  obtain ⟨e,he⟩:=sortedAll_at s.heap its out
  have hz2:(ns'.map V.int).length<=sizeLine:=by rw [aAt,h2.length_eq,a7z]; lia
  have fr:H (s.heap.objs.size+1)=none:=I.hok.fresh (aO8 _)
  refine ⟨.ref (s.heap.objs.size+1),_,I.laid (a:=s.heap.objs.size+1) (t':=s.toks) (o:=.lst (ns'.map V.int)) (λb o z=>sortedAll_old z) (aO8 _) ⟨hz2,out.toList,e,Fv h1,he⟩,rfl,q _ ns' fr h2 h3⟩
end L2
set_option maxHeartbeats 1000000
namespace L2
open PySem PySem.Spec PyProof.Rows
def yv (d:Addr) (o:Obj) (kvs:List (Key×V)):It :=
 ⟨λi H=>H d=some (.bD o (.dK kvs))/\i<kvs.length,λi H x H'=>H'=H/\∃ k,kvs[i]?=some (k,x),λi H=>H d=some (.bD o (.dK kvs))/\kvs.length<=i⟩
theorem qd:∀ {kvs:List (Key×V)} {vs:List (Key×Value)},KV kvs vs->∀ {i:Nat} {k:Key} {v:Value},vs[i]?=some (k,v)->∃ x,kvs[i]?=some (k,x)/\RelV x v
 | _,_,.nil,i,k,v,h=>by simp at h
 | p :: r,q :: t,.cons a b,0,k,v,h=>by
  have e:q=(k,v):=by simpa using h
  subst e
  obtain ⟨p1,p2⟩:=p
  obtain ⟨h1,h2⟩:=a
  cases h1
  exact ⟨p2,rfl,h2⟩
 | p :: r,q :: t,.cons a b,i+1,k,v,h=>by
  obtain ⟨x,e,rx⟩:=qd b (i:=i) (by simpa using h)
  exact ⟨x,by simpa using e,rx⟩
theorem VB {P:Program} {w:World} {K:W.Frag} {tg:Expr} (d it:Addr) {o:Obj} {kvs:List (Key×V)} {es:Array DictEntry} {ep:Nat} (he:o.data=.dict es ep):Turn P w K tg (yv d o kvs) [it] it (λi h=>h.IsValIter it d i kvs.length ep) where
 mem:=by simp
 obj:=λi h st b hb=>by
  have e:b=it:=by simpa using hb
  subst e
  obtain ⟨o,e,c,d⟩:=st
  exact ⟨o,e,λv z=>by rw [d] at z; cases z⟩
 keep:=λi h h' ⟨o,ho,x⟩ k=>⟨o,k it (by simp) o ho,x⟩
 item:=by
  intro X hP hw hK hc i pins s σ H E I hf st hg
  subst hP hw hK
  obtain ⟨hd,hi⟩:=hg
  obtain ⟨hs,vs,r,m⟩:=J4 (I.hok d _ hd) he
  have hlen:=r.length
  rw [hlen] at st hi
  obtain ⟨f0,f1,f2,f3,f4,f5⟩:=hf it (by simp)
  obtain ⟨⟨k,v⟩,hx⟩:∃ p,vs[i]?=some p:=⟨vs[i],aDi hi⟩
  refine wpAny_pyNext_values_item st m hx λh' st' sb=>?_
  have I1:Inv X pins σ H { s with heap:=h' }:=I.turned (t':=s.toks) (λb o hb e=>(sb.2 b hb).trans e) f0 f1 f3 f4 f5
  obtain ⟨x,ex,rx⟩:=qd r hx
  refine ⟨v,rfl,letGo_valiter (s':={ s with heap:=h' }) st' ⟨x,H,I1,rx,⟨rfl,k,ex⟩,?_,λb hb=>(hf b hb).1⟩⟩
  show h'.IsValIter it d (i+1) kvs.length ep
  rw [hlen]; exact st'
 done:=by
  intro X hP hw hK hc i pins s σ H E I hf st hg
  subst hP hw hK
  obtain ⟨hd,hi⟩:=hg
  obtain ⟨hs,vs,r,m⟩:=J4 (I.hok d _ hd) he
  have hlen:=r.length
  rw [hlen] at st hi
  obtain ⟨f0,f1,f2,f3,f4,f5⟩:=hf it (by simp)
  exact wpAny_pyNext_values_end (I.ok.hd hc) st m (aNA.mpr hi) λh' eb=>⟨rfl,I.turned (t':=s.toks) (λb o hb e=>eb b o hb e) f0 f1 f3 f4 f5⟩
 self:=λ_ _ _ _ _ st h=>wpAny_pyIter_valiter st h
section
variable {X:Cx} {tg:Expr}
def Qt (tl:TE):TI:=λσ H R=>tl σ H λx H1=>∃ d kvs,x=.ref d/\H1 d=some (.dK kvs)/\∀ o,R (yv d o kvs) (upd H1 d (.bD o (.dK kvs)))
theorem SH {l:Expr} {tl:TE} {apos cpos:Pos} (hl:PE X l tl) (hbase:attributeBase l "values" X.env (eval l X.env)=eval l X.env:=by rfl) (hline:(apos.endLine == cpos.line)=true:=by rfl):PI X tg (.Call (.Attribute l "values" apos) [] [] cpos) (Qt tl):=by
 intro pins s σ H R I h
 refine wpAny_Call_method0_late hbase hline (cT (hl pins s σ H _ I h) λv s1 x H1 I1 r1 q1=>?_)
 obtain ⟨d,kvs,e,hd,q⟩:=q1
 subst e
 cases r1
 obtain ⟨t1,t2,_⟩:=zQ I1 (.inl ⟨kvs,.inl hd⟩)
 obtain ⟨hz,hs,vs,rv,dd⟩:=I1.hok d _ hd
 obtain ⟨ep,m⟩:=dd.dictAt
 obtain ⟨o,es,ho,hx,he,rest⟩:=id m
 refine ⟨"dict", "dict.values",aGp,PySem.F.slot_dict_values,PySem.F.type_dict_values,t1,t2,ad1 rfl (PySem.evalArgs_none ?_)⟩
 refine call_meetsIn PySem.F.slot_dict_values t1 PySem.F.entry_dict_values (PySem.F.args_dict_values_1 _) (meets_dict_values (ZF X.prog X.w) d hs) ⟨⟨vs,dd⟩,?_⟩
 generalize hh:s1.heap.push { cls:=.type "dict_values",data:=.fields #[.ref d] }=h2
 have up:∀ b o,s1.heap.get? b=some o->h2.get? b=some o:=λb o e=>by rw [← hh]; exact atD _ e
 have sz:s1.heap.objs.size<=h2.objs.size:=by rw [← hh,aep]; exact aO8 _
 have hv:h2.IsValuesView s1.heap.objs.size d:=by rw [← hh]; exact ⟨_,aMS _ rfl,rfl,rfl⟩
 have I2:Inv X pins σ (upd H1 d (.bD o (.dK kvs))) { s1 with heap:=h2 }:=(I1.frozen hd ho).kept (t':=s1.toks) λb o e=>up b o e
 have m2:h2.DictAt (ZF X.prog X.w) d vs ep:=m.at' λo e=>up d o e
 refine wpAny_pyIter_values (s:={ s1 with heap:=h2 }) hv m2 ?_
 refine ⟨h2.objs.size,[h2.objs.size],_,_,_,rfl,I2.kept (t':=s1.toks) λb o e=>atD _ e,VB d _ (kvs:=kvs) he,?_,λb hb=>?_,q o⟩
 .show Heap.IsValIter _ _ d 0 kvs.length ep
  rw [rv.length]
  exact ⟨_,aMS _ rfl,rfl,rfl⟩
 .have e:b=h2.objs.size:=by simpa using hb
  subst e
  exact I2.iT (aNS _) (I2.hok.fresh (aNS _))
end
theorem UG {d:Addr} {o:Obj} {kvs:List (Key×V)} {g:TG} {tb:TS} {D:Ends} {σ:St} {H:Hp} (Pv:Nat->St->Hp->Prop) (h0:Pv 0 σ H) (hl:∀ i σ H,i<=kvs.length->Pv i σ H->H d=some (.bD o (.dK kvs)))
  (hs:∀ i k v σ H,kvs[i]?=some (k,v)->Pv i σ H->g v σ H λσ2 H2=>tb { D with nx:=Pv (i+1),ct:=Pv (i+1),bk:=D.nx } σ2 H2) (hd:∀ σ H,Pv kvs.length σ H->D.nx σ H) :
  ∃ W:Nat->Nat->St->Hp->Prop,(∃ m,W 0 m σ H)/\∀ i m σ H,W i m σ H ->
   ((yv d o kvs).stop i H/\D.nx σ H)\/((yv d o kvs).go i H/\∃ N:St->Hp->Prop,(∀ σ' H',N σ' H'->∃ m',m'<m/\W (i+1) m' σ' H')/\∀ x H',(yv d o kvs).jB i H x H'->g x σ H' λσ2 H2=>tb { D with nx:=N,ct:=N,bk:=D.nx } σ2 H2):=by
 refine ⟨λi m σ H=>m=kvs.length - i/\i<=kvs.length/\Pv i σ H,⟨kvs.length,by simp,aze _,h0⟩,?_⟩
 rintro i m σ H ⟨rfl,hi,p⟩
 have q:=hl i σ H hi p
 by_cases hlt:i<kvs.length
 .refine .inr ⟨⟨q,hlt⟩,Pv (i+1),λσ' H' z=>⟨kvs.length - (i+1),by lia,rfl,by lia,z⟩,λx H' z=>?_⟩
  obtain ⟨rfl,k,hkv⟩:=z
  exact hs i k x σ _ hkv p
 .have e:i=kvs.length:=by lia
  subst e
  exact .inl ⟨⟨q,aNS _⟩,hd σ H p⟩
def Qs (td ty tx:TE):TE:=λσ H Q=>td σ H λx H1=>∃ a,x=.ref a/\A2 H1 a/\ty σ H1 λy H2=>tx σ H2 λz H3=>∃ kvs k,H3 a=some (.dK kvs)/\y=kV k/\kvs.length<sizeLine /\
 (∀ v,aR kvs k=some v->Q v H3)/\(aR kvs k=none->Q z (upd H3 a (.dK (putK kvs k z))))
section
variable {X:Cx} {o e f:Expr} {apos cpos:Pos} {td ty tx:TE}
theorem SG (ho:PE X o td) (he:PE X e ty) (hf:PE X f tx) (m:M2 X o "setdefault" apos e f cpos):PE X (.Call (.Attribute o "setdefault" apos) [e,f] [] cpos) (Qs td ty tx):=by
 intro pins s σ H Q I h
 refine wpAny_Call_method m.base m.few m.line aGp PySem.F.slot_dict_setdefault PySem.F.type_dict_setdefault (bH (ho pins s σ H _ I h) λu s1 ⟨x,H1,I1,rx,a,ex,d,q1⟩=>?_)
 subst ex
 obtain rfl:u=Value.ref a:=rx
 obtain ⟨t1,t2,_⟩:=zQ I1 d
 refine ⟨t1,t2,?_⟩
 rw [m.trees]
 refine ad1 rfl (an4 (aLm (cT (he pins s1 σ H1 _ I1 q1) λiv s2 y H2 I2 ry q2 =>
  aLm (bH (hf pins s2 σ H2 _ I2 q2) λfv s3 ⟨z,H3,I3,rz,kvs,k,ea,ey,hlt,q3,q4⟩=>ajQ ?_))))
 subst ey
 obtain ⟨zz,hd,vs,rel,dd⟩:=nA I3.hok ea
 have hz:vs.length<=sizeLine:=by rw [← rel.length]; exact zz
 refine call_meetsIn PySem.F.slot_dict_setdefault dd.typeIs PySem.F.entry_dict_setdefault (PySem.F.args_dict_setdefault_3 _ _ _) (kt_meets_setdefault (ZF X.prog X.w) a (gS ry) hd fv) ⟨vs,dd,hz,λv hv=>?_,λhn h' n5 hs=>?_⟩
 .have q:=rel.val k
  rw [hv] at q
  cases e:aR kvs k with
  | none=>rw [e] at q; cases cL.none_of q
  | some w' =>
   rw [e] at q
   obtain ⟨u,eu,ru⟩:=q.some_of
   cases eu
   exact ⟨w',H3,I3.tok _,ru,q3 w' e⟩
 .have hn':aR kvs k=none:=by
   have q:=(rel.val k).dR
   rw [hn] at q
   cases e:aR kvs k with
   | none=>rfl
   | some _=>rw [e] at q; cases q
  have he:∃ q,h'.get? a=some q:=let ⟨q,_,_,hq,_⟩:=n5; ⟨q,hq⟩
  have hl:(putK kvs k z).length<=sizeLine:=by have:=ZW kvs k z; lia
  exact ⟨z,_,Ae I3 (by rw [ea]; exact True.intro) hs he (Ea hl hd (rel.put k rz) n5),rz,q4 hn'⟩
end
def OH:yo:=λx y H Q=>∃ l b xs zs,x=.ref l/\y=.ref b/\H l=some (.lst xs)/\H b=some (.lst zs)/\xs.length+zs.length<=sizeLine/\Q (.ref l) (upd H l (.lst (xs++zs)))
theorem LP:typeLookup (.type "list") (dunderI "add")=pure (some (.builtin "list.__iadd__")):=PySem.F.slot_list_iadd.lookup
theorem Qq {X:Cx}:Gw X .Add OH:=by
 intro pins s σ H x y v u Q I rx ry h
 obtain ⟨l,b,xs,zs,rfl,rfl,hH,hB,hz,q⟩:=h
 cases rx
 cases ry
 obtain ⟨z,its,n,r,hl,e⟩:=I.iP hH
 obtain ⟨z2,its2,n2,r2,hl2,e2⟩:=I.iP hB
 have hsz:its.toArray.size+its2.toArray.size<=sizeLine:=by rw [a5A,a5A]; lia
 have m7:¬ (!its.toArray.isEmpty && Builtin.List.listTooLong (its.toArray.size+its2.toArray.size))=true:=by
  rw [KQ hsz,Bool.and_false]
  exact aPi
 have T1:s.TypeIs (.ref l) "list" := ⟨_,e,rfl⟩
 have T2:s.TypeIs (.ref b) "list" := ⟨_,e2,rfl⟩
 unfold inplaceOp
 refine aBl ?_
 have OY:fillsInplaceSlot (.type "list") "add" (Operator.Add == .Add)=pure false:=by
  show (typeLookup (.type "list") (dunderI "add") >>= _)=_
  rw [LP]; rfl
 have hsi:seqSlot? (.type "list") (dunderI "add")=pure (some (.builtin "list.__iadd__")):=by
  unfold seqSlot?
  rw [LP]; rfl
 refine a6w (wpAny_typeOf T1 (a6w (wpAny_of_eq OY ?_)))
 rw [amU aPi]
 refine a6w (wpAny_binaryOp1_none (nm := "add") T1 T2 noFill_list_add ?_)
 refine a6w (wpAny_of_eq hsi (a6w (aei ?_)))
 refine call_meets PySem.F.slot_list_iadd T1 PySem.F.entry_list_iadd (PySem.F.args_list_iadd_2 _ _) (AutoSeq1.list___iadd___list_list_0 l its.toArray n b its2.toArray n2 m7 (by rw [a5A]; lia) (by lia)) ⟨e,e2,?_⟩
 refine ⟨.ref l,_,I.jO (its':=its++its2) hH e (by simp) (r.append r2) ?_,rfl,q⟩
 rw [aUV]
 lia
end L2
set_option maxHeartbeats 4000000

namespace nQ
open PySem L2
theorem WV {N P:List Str} {s:Scope} (a:s.kind=.function:=by rfl) (b:s.isCoroutine=false:=by rfl) (c:s.isGenerator=false:=by rfl) (d:N.Nodup:=by decide +kernel) (e:N.take P.length=P:=by rfl) (f:∀ x ∈ P,s.names.lookup x=some .local\/s.names.lookup x=some .cell:=by decide +kernel) (g:∀ y ∈ s.names,y.2 ≠ .free:=by decide +kernel):af N P s:=⟨a,b,c,d,e,f,g⟩
theorem sl (n:Nat) (h:n ≤ 99:=by decide):n ≤ sizeLine:=ay9 h (by rw [a7z]; decide)
variable {P:Program} {w:World} {K:W.Frag} {mg:Str->Option Value} {base:Heap}
def top (i:Nat):Stmt:=PySem.Challenge.pw_nearstairs_k23_rows_turned_about.main.body.getD i (.Pass ⟨0,0,0,0⟩)
theorem cN {N P:List Str} {sc:Scope} (a:sc.kind=.function:=by rfl) (b:sc.isCoroutine=false:=by rfl) (c:sc.isGenerator=false:=by rfl) (d:N.Nodup:=by decide +kernel) (e:N.take P.length=P:=by rfl) (f:∀ x∈P,sc.names.lookup x=some .local\/sc.names.lookup x=some .cell:=by decide +kernel) (g:∀ y∈sc.names,y.2≠.free:=by decide +kernel):af N P sc:=⟨a,b,c,d,e,f,g⟩
abbrev FI:Stmt:=top 1
abbrev gU:List Str:=["shelves", "board"]
abbrev ZZ:List Str:=gU.take 2
theorem fT:af gU ZZ (Zg FI):=cN
abbrev Gf:Stmt:=top 9
abbrev gg:List Str:=["thing"]
abbrev Ge:List Str:=gg.take 1
theorem e7:af gg Ge (Zg Gf):=cN
abbrev Fc:Stmt:=top 11
abbrev jx:List Str:=["places", "mates", "board", "out"]
abbrev Fb:List Str:=jx.take 4
theorem iz:af jx Fb (Zg Fc):=cN
abbrev Ed:Stmt:=top 12
abbrev nO:List Str:=["mates", "board", "out"]
abbrev Aa:List Str:=nO.take 3
theorem ki:af nO Aa (Zg Ed):=cN
abbrev AY:Stmt:=top 13
abbrev bZ:List Str:=["shelves", "places", "row", "order", "standing", "missed", "board", "out", "mates"]
abbrev Gq:List Str:=bZ.take 4
theorem cV:af bZ Gq (Zg AY):=cN
abbrev Gd:Stmt:=top 14
abbrev gf:List Str:=["shelves", "places", "row", "order", "missed"]
abbrev Gb:List Str:=gf.take 4
theorem eZ:af gf Gb (Zg Gd):=cN
abbrev F2:Stmt:=top 15
abbrev eB:List Str:=["row", "told", "behind", "at", "board"]
abbrev yd:List Str:=eB.take 1
theorem dF:af eB yd (Zg F2):=cN
abbrev yh:Stmt:=top 16
abbrev cS:List Str:=["shelves", "places", "row", "standing", "again", "order", "board", "behind", "mates", "out", "latest"]
abbrev FH:List Str:=cS.take 3
theorem fV:af cS FH (Zg yh):=cN
abbrev Gp:Stmt:=top 17
abbrev dN:List Str:=["shelves", "places", "row"]
abbrev Gn:List Str:=dN.take 3
theorem cU:af dN Gn (Zg Gp):=cN
abbrev AZ:Stmt:=top 19
abbrev cQ:List Str:=["row"]
abbrev FW:List Str:=cQ.take 1
theorem dX:af cQ FW (Zg AZ):=cN
abbrev Gm:Stmt:=top 20
abbrev cA:List Str:=["shelves", "row", "told", "at", "board"]
abbrev Gk:List Str:=cA.take 2
theorem bT:af cA Gk (Zg Gm):=cN
abbrev Gh:Stmt:=top 21
abbrev cM:List Str:=["again", "costs", "at", "within", "choices", "ahead"]
abbrev Gg:List Str:=cM.take 3
theorem cu:af cM Gg (Zg Gh):=cN
abbrev F1:Stmt:=top 22
abbrev ef:List Str:=["fee", "row", "again", "costs", "aheads", "at", "cost", "ahead", "marks", "mark"]
abbrev F0:List Str:=ef.take 2
theorem dD:af ef F0 (Zg F1):=cN
abbrev AU:Stmt:=top 24
abbrev dO:List Str:=["shelves", "row", "marks", "first", "last", "shelf"]
abbrev Ga:List Str:=dO.take 5
theorem e8:af dO Ga (Zg AU):=cN
abbrev Ar:Stmt:=top 25
abbrev iW:List Str:=["shelves", "places", "row", "marks", "free"]
abbrev Eu:List Str:=iW.take 4
theorem jb:af iW Eu (Zg Ar):=cN
abbrev yg:Stmt:=top 26
abbrev cR:List Str:=["shelves", "places", "row", "marks", "spots", "asked"]
abbrev FG:List Str:=cR.take 3
theorem fU:af cR FG (Zg yg):=cN
abbrev AR:Stmt:=pA (top 28) 0
abbrev dP:List Str:=["self", "shelves", "places", "rule"]
abbrev F9:List Str:=dP.take 4
theorem ff:af dP F9 (Zg AR):=cN
abbrev FF:Stmt:=pA (top 28) 1
abbrev gX:List Str:=["self", "board"]
abbrev yf:List Str:=gX.take 2
theorem fX:af gX yf (Zg FF):=cN
abbrev FU:Stmt:=pA (top 28) 2
abbrev fH:List Str:=["self", "board", "out"]
abbrev FT:List Str:=fH.take 2
theorem d8:af fH FT (Zg FU):=cN
abbrev FE:Stmt:=pA (top 28) 3
abbrev gW:List Str:=["self", "board", "mates"]
abbrev FD:List Str:=gW.take 2
theorem fW:af gW FD (Zg FE):=cN
abbrev F8:Stmt:=pA (top 28) 4
abbrev gj:List Str:=["self", "board"]
abbrev F7:List Str:=gj.take 2
theorem fh:af gj F7 (Zg F8):=cN
abbrev F5:Stmt:=pA (top 28) 7
abbrev gh:List Str:=["self", "board"]
abbrev AQ:List Str:=gh.take 2
theorem fc:af gh AQ (Zg F5):=cN
abbrev FQ:Stmt:=pA (top 28) 8
abbrev fG:List Str:=["self", "board"]
abbrev uA:List Str:=fG.take 2
theorem dZ:af fG uA (Zg FQ):=cN
abbrev Gj:Stmt:=pA (top 28) 9
abbrev cB:List Str:=["self", "board", "mates"]
abbrev Gi:List Str:=cB.take 2
theorem bU:af cB Gi (Zg Gj):=cN
abbrev ZC:Stmt:=pA (top 28) 10
abbrev bR:List Str:=["self", "mates"]
abbrev yc:List Str:=bR.take 2
theorem d7:af bR yc (Zg ZC):=cN
abbrev mz:Stmt:=top 30
abbrev qD:List Str:=["room", "board"]
abbrev nL:List Str:=qD.take 2
theorem mj:af qD nL (Zg mz):=cN
abbrev Ax:Stmt:=top 31
abbrev fO:List Str:=["shelves", "places", "rule", "row", "room"]
abbrev Ff:List Str:=fO.take 4
theorem gI:af fO Ff (Zg Ax):=cN
abbrev AE:Stmt:=top 32
abbrev gV:List Str:=["shelves", "places", "rule", "row"]
abbrev E9:List Str:=gV.take 4
theorem iy:af gV E9 (Zg AE):=cN
abbrev FP:Stmt:=top 33
abbrev fF:List Str:=["shelves", "row", "at", "board", "between", "ahead", "other"]
abbrev FO:List Str:=fF.take 3
theorem dY:af fF FO (Zg FP):=cN
abbrev Aw:Stmt:=top 34
abbrev fP:List Str:=["shelves", "row"]
abbrev Fe:List Str:=fP.take 2
theorem gJ:af fP Fe (Zg Aw):=cN
abbrev mw:Stmt:=top 36
abbrev qC:List Str:=["_law_script", "_law_k", "_law_cell"]
abbrev nK:List Str:=qC.take 2
theorem mh:af qC nK (Zg mw):=cN
abbrev Ec:Stmt:=top 37
abbrev nM:List Str:=["_law_box_here", "_law_size", "_law_found", "_law_step", "_law_once", "_law_twice"]
abbrev xN:List Str:=nM.take 2
theorem kg:af nM xN (Zg Ec):=cN
abbrev E8:Stmt:=top 38
abbrev jy:List Str:=["_law_script", "_law_size", "_law_cells", "_law_k", "_law_cell"]
abbrev E7:List Str:=jy.take 2
theorem iA:af jy E7 (Zg E8):=cN
abbrev AW:Stmt:=top 39
abbrev cE:List Str:=["_law_box_here", "_law_size", "_law_many", "_law_way", "_law_begin", "_law_first", "_law_found", "_law_far", "_law_k", "_law_at"]
abbrev FZ:List Str:=cE.take 2
theorem dB:af cE FZ (Zg AW):=cN
abbrev Et:Stmt:=top 40
abbrev kM:List Str:=["_law_box_here", "_law_far", "_law_shelves"]
abbrev Es:List Str:=kM.take 1
theorem i9:af kM Es (Zg Et):=cN
abbrev Er:Stmt:=top 41
abbrev kN:List Str:=["_law_box_here", "_law_few", "_law_most", "_law_some", "_law_size", "_law_way", "_law_found", "_law_k", "_law_drawn", "_law_back", "_law_turned", "_law_often"]
abbrev Ep:List Str:=kN.take 3
theorem jc:af kN Ep (Zg Er):=cN
abbrev qx:Stmt:=top 42
abbrev jZ:List Str:=["_law_found", "_law_due"]
abbrev qw:List Str:=jZ.take 2
theorem kh:af jZ qw (Zg qx):=cN
abbrev uf:Stmt:=top 43
abbrev fE:List Str:=["_law_box_here", "_law_shelves", "_law_places", "_law_rule", "_law_row", "_law_kept", "_law_turned", "_law_least", "_law_some", "_law_mixed", "_law_board", "_law_begun", "_law_parts"]
abbrev Eo:List Str:=fE.take 1
theorem ja:af fE Eo (Zg uf):=cN
abbrev d9:Stmt:=top 44
abbrev nN:List Str:=["_law_script", "_law_cells"]
abbrev jw:List Str:=nN.take 1
theorem l9:af nN jw (Zg d9):=cN
structure Txt (K:W.Frag) (mg:Str->Option Value):Prop where
 yJ:mg "abs" = none
 yI:mg "all" = none
 A6:mg "any" = none
 uN:mg "bool" = none
 Bf:mg "divmod" = none
 vK:mg "enumerate" = none
 sO:mg "int" = none
 jI:mg "isinstance" = none
 fZ:mg "len" = none
 nU:mg "list" = none
 uL:mg "max" = none
 yH:mg "min" = none
 ko:mg "range" = none
 A5:mg "set" = none
 sZ:mg "sorted" = none
 uK:mg "str" = none
 A4:mg "sum" = none
 yK:mg "tuple" = none
 uJ:mg "zip" = none
 fj:nS K (aD K "Room")
 GF:bY K (aD K "Room") "places"
 Ct:bY K (aD K "Room") "rule"
 G0:bY K (aD K "Room") "shelves"
 G4:bY K (aD K "Room") "standing"
 tD:bY K (aD K "Room") "uses"
structure aT (H:Hp) (b:Addr) (a q c:Int):Prop where
 at':H b=some (.lst [.int a,.int q,.int c])
 a0:0<=a
 q0:0<=q
 q1:q<2147483647
 c0:0<=c
theorem aT.sb {H H':Hp} {b x:Addr} {a q c:Int} (B:aT H b a q c) (s:SB x H H') (n:b≠x):aT H' b a q c:=⟨s _ _ n B.at',B.a0,B.q0,B.q1,B.c0⟩
theorem aT.same {H H':Hp} {b:Addr} {a q c:Int} (B:aT H b a q c) (s:aq H H'):aT H' b a q c:=⟨s _ _ B.at',B.a0,B.q0,B.q1,B.c0⟩
def z9:Sp:=λvs H Q _=>∃ (b:Addr) (a q c n:Int),vs=[.ref b,.int n]/\aT H b a q c/\c<1099511627776/\0<n/\n<1073741824 /\
 ∀ (r a' c':Int) (H':Hp),0<=r->r<n->aT H' b a' q c'->c'<=c+1->SB b H H'->Q (.int r) H'
section
theorem oW (a:Int) {b:Int} (h:0<b):0<=a % b:=agB a (by lia)
theorem oV (a:Int) {b:Int} (h:0<b):a % b<b:=aDG a h
theorem Q5 (F:bO K "_law_take" "_law_take" Ec f fd) (T:Txt K mg):aH P w K mg base bI 1 f fd xN z9:=by
 refine F.ok kg (λvs H Q E h=>?_) (λcdv A outer s H vs Q E hr h=>?_)
 .obtain ⟨b,a,q,c,n,rfl,_⟩:=h
  rfl
 obtain ⟨b,a,q,c,n,rfl,B,hc,hn0,hn1,k⟩:=h
 have nd:=kg.nd
 refine ⟨_,(Ze (aO (Zu p6 (aG (Zp (K:=K) rfl) (pv 0) Zh (λ_ _=>rfl)) Zh (Zx _)) (Ze (o7 (Zk VO rfl T.Bf VM (pc (aG (Zp (K:=K) rfl) (pv 0) Zh (λ_ _=>rfl)) (pc (pv 1) Zd))) (kJ (K:=K) (n:=2) rfl rfl (Zt (tZ (pv 0) Zh uv) (Zt (bS 2 nd) kK))))
   (Zj (Zs (pv 2)))) Zw)
   (Ze (o7 (aa ZO (aG (Zp (K:=K) rfl) (pv 0) Zh (λ_ _=>rfl)) Zh) (tZ (pv 0) Zh uv))
   (Ze (bM 3 nd (aa ZO Zh (aa ju (aG (Zp (K:=K) rfl) (pv 0) Zh (λ_ _=>rfl)) (aG (Zp (K:=K) rfl) (pv 0) Zh (λ_ _=>rfl)))))
   (Ze (bM 4 nd (aa i7 (aa ju (aa ZO (aG (Zp (K:=K) rfl) (pv 0) Zh (λ_ _=>rfl)) (aa ju Zh (aG (Zp (K:=K) rfl) (pv 0) Zh (λ_ _=>rfl)))) (pv 3)) Zh))
   (Ze (bM 5 nd (aa i7 (aa ZO (aa ju (pv 4) (aa ZO (aa i7 (pv 4) Zh) Zh)) (aG (Zp (K:=K) rfl) (pv 0) Zh (λ_ _=>rfl))) Zh))
   (Zj (Zs (aa i7 (aa um (aa i7 (aa ju (pv 5) (aa ZO (aa i7 (pv 5) Zh) Zh)) Zh) Zh) (pv 1))))))))),?_⟩
 have hb:=B.at'
 have hc0:=B.c0
 have HD:=B.q0
 have hq1:=B.q1
 refine ⟨_,rfl,b,_,_,_,rfl,rfl,ak.of hb,nE,_,_,rfl,rfl,_,rfl,?_⟩
 refine ZJ (λha=>?_) (λha=>?_)
 .refine ⟨_,rfl,b,_,_,_,rfl,rfl,ak.of hb,nE,_,rfl,_,_,rfl,⟨hn0,hn1⟩,λp hp=>?_⟩
  have O9:upd H p (.tup [.int (a / n),.int (a % n)]) b=some (.lst [.int a,.int q,.int c]):=by rw [Zc (Zb hb hp)]; exact hb
  refine ⟨p,_,rfl,bG.of Za,rfl,_,_,rfl,⟨_,rfl,b,_,_,0,rfl,rfl,O9,rfl,?_⟩⟩
  refine ⟨_,_,rfl,rfl,_,rfl,?_⟩
  exact k _ (a / n) c _ (oW _ hn0) (oV _ hn0) ⟨Za,Int.ediv_nonneg B.a0 (by lia),HD,hq1,hc0⟩ (by lia) ((Zf hp _).sb b |>.trans (tW b _ _))
 .refine ⟨_,rfl,b,_,_,_,rfl,rfl,ak.of hb,nD,_,_,rfl,rfl,_,rfl,b,_,_,2,rfl,rfl,hb,rfl,?_⟩
  have hb1:upd H b (.lst [.int a,.int q,.int (c+1)]) b=some (.lst [.int a,.int q,.int (c+1)]):=Za
  have i0:ak K (upd H b (.lst [.int a,.int q,.int (c+1)])) b [.int a,.int q,.int (c+1)]:=ak.of hb1
  refine ⟨_,rfl,b,_,_,_,rfl,rfl,i0,nD,_,rfl,b,_,_,_,rfl,rfl,i0,nD,_,_,rfl,rfl,.inl ⟨by lia,by lia⟩,_,_,rfl,rfl,?_⟩
  refine ⟨_,rfl,b,_,_,_,rfl,rfl,i0,rV,_,rfl,b,_,_,_,rfl,rfl,i0,nD,_,_,rfl,rfl,.inl ⟨by decide,by decide⟩,_,_,rfl,rfl,_,rfl,_,_,rfl,rfl,.inl ⟨by lia,by lia⟩,_,_,rfl,rfl,(by show (0:Int)<_; decide),?_⟩
  generalize HF:(q+39373 * (c+1)) * (69621+(c+1) * (c+1)) % 2147483587=on
  have W3:0<=on:=by rw [← HF]; exact oW _ (by decide)
  have W2:on<2147483587:=by rw [← HF]; exact oV _ (by decide)
  refine ⟨_,rfl,_,rfl,_,_,rfl,rfl,(by show (0:Int)<_; decide),_,_,rfl,rfl,_,_,rfl,rfl,.inl ⟨by lia,by lia⟩,_,rfl,b,_,_,_,rfl,rfl,i0,nD,_,_,rfl,rfl,_,_,rfl,rfl,(by show (0:Int)<_; decide),?_⟩
  generalize htw:(on * (on % 30011+5)+(c+1)) % 2147483563=tw
  have tw0:0<=tw:=by rw [← htw]; exact oW _ (by decide)
  have tw1:tw<2147483563:=by rw [← htw]; exact oV _ (by decide)
  refine ⟨_,rfl,_,rfl,_,_,rfl,rfl,(by show (0:Int)<_; decide),_,_,rfl,rfl,_,_,rfl,rfl,.inl ⟨by lia,by lia⟩,_,_,rfl,rfl,(by show (0:Int)<_; decide),_,_,rfl,rfl,⟨by decide,by decide⟩,_,rfl,_,_,rfl,rfl,hn0,?_⟩
  exact k _ a (c+1) _ (oW _ hn0) (oV _ hn0) ⟨hb1,B.a0,HD,hq1,by lia⟩ (by lia) (tW b _ _)
end
section
def pU (K:W.Frag):Sp:=λvs H Q _=>∃ (l:Addr) (ns:List Int) (k:Int),vs=[.ref l,.int k]/\ak K H l (ns.map V.int)/\0<=k/\k<1000000 /\
 ∀ (r:Addr) (a q:Int) (H':Hp),H r=none->aq H H'->aT H' r a q 0->Q (.ref r) H'
theorem qe (b:Bool) : -(2 ^ 64)<(if b then 1 else 0:Int)/\(if b then 1 else 0:Int)<2 ^ 64:=by cases b <;> decide
theorem Ld {ns:List Int} {k:Int} (h0:0<=k) (h:k<(ns.length:Int)):∃ v:Int,cZ (ns.map V.int) k=some (.int v):=by
 have hk:k.toNat<ns.length:=by lia
 have q:cZ (ns.map V.int) ((k.toNat:Nat):Int)=some (.int ns[k.toNat]):=ZS (by rw [aYu,aDi hk] <;> rfl)
 rw [show ((k.toNat:Nat):Int)=k by lia] at q
 exact ⟨_,q⟩
theorem Qp (i:Int):0<=(if i<0 then -i else i):=by split <;> lia
theorem Ka (i:Int) (b:Bool):0<=(if i<0 then -i else i) * (if b then 1 else 0:Int):=Int.mul_nonneg (Qp i) (by cases b <;> decide)
theorem Qo (F:bO K "_law_box" "_law_box" mw f fd) (T:Txt K mg):aH P w K mg base bI 1 f fd nK (pU K):=by
 refine F.ok mh (λvs H Q E h=>?_) (λcdv A outer s H vs Q E hr h=>?_)
 .obtain ⟨l,ns,k,rfl,_⟩:=h
  rfl
 obtain ⟨l,ns,k,rfl,hS,hk0,hk1,kk⟩:=h
 have nd:=mh.nd
 refine ⟨_,(Ze (bM 2 nd (om (Zu gO (pv 1) (Zk (Zn (K:=K) rfl) rfl T.fZ aTr (pc (pv 0) Zd)) (Zx _)) (aG (Zp (K:=K) rfl) (pv 0) (pv 1) (λ_ _=>rfl)) Zh))
   (Zj (Zs (ZT (pc (aa ju (Zk Lg rfl T.yJ KG (pc (pv 2) Zd)) (yi Lw rfl T.sO AV (pc (nI mJ (Zk Lg rfl T.yJ KG (pc (pv 2) Zd)) (aa Rv Zh Zh) (Zx _)) Zd))) (pc (aa i7 (aa ju (aa ZO (aa ZO (aa i7 (pv 2) Zh) (aa ju Zh (pv 1))) Zh) Zh) Zh) (pc Zh Zd))))))),?_⟩
 refine ⟨_,rfl,_,rfl,l,_,rfl,.inl hS,_,_,rfl,rfl,_,rfl,?_⟩
 refine ZJ (λc=>?_) (λc=>?_)
 .rw [aAt] at c
  obtain ⟨v,hv⟩:=Ld hk0 c
  refine ⟨_,rfl,_,rfl,l,_,_,_,rfl,rfl,hS,hv,?_⟩
  refine ⟨_,rfl,_,rfl,_,rfl,_,rfl,_,_,rfl,rfl,⟨by decide,by decide,by decide⟩,_,_,rfl,rfl,.inr ⟨_,rfl,_,_,rfl,rfl,.inr (qe _),?_⟩⟩
  refine ⟨_,rfl,_,_,rfl,rfl,(by show (0:Int)<_; decide),_,rfl,_,_,rfl,rfl,.inl ⟨by decide,by decide⟩,_,_,rfl,rfl,_,_,rfl,rfl,_,_,rfl,rfl,.inr ⟨by decide,by decide⟩,_,_,rfl,rfl,(by show (0:Int)<_; decide),(sl 3),λr hr=>?_⟩
  exact kk r _ _ _ hr (Zf hr _) ⟨Za,Ka _ _,oW _ (by decide),oV _ (by decide),aEQ _⟩
 .refine ⟨_,rfl,_,rfl,_,rfl,_,rfl,_,_,rfl,rfl,⟨by decide,by decide,by decide⟩,_,_,rfl,rfl,.inr ⟨_,rfl,_,_,rfl,rfl,.inr (qe _),?_⟩⟩
  refine ⟨_,rfl,_,_,rfl,rfl,(by show (0:Int)<_; decide),_,rfl,_,_,rfl,rfl,.inl ⟨by decide,by decide⟩,_,_,rfl,rfl,_,_,rfl,rfl,_,_,rfl,rfl,.inr ⟨by decide,by decide⟩,_,_,rfl,rfl,(by show (0:Int)<_; decide),(sl 3),λr hr=>?_⟩
  exact kk r _ _ _ hr (Zf hr _) ⟨Za,Ka _ _,oW _ (by decide),oV _ (by decide),aEQ _⟩
def Lc (K:W.Frag):Sp:=λvs H Q _=>∃ (a:Addr) (ns:List Int) (n:Nat),vs=[.ref a,.int (n:Int)]/\ak K H a (ns.map V.int)/\ns.length<=63/\0<n/\n<=63 /\
 ∀ (r:Addr) (ms:List Int) (H':Hp),H r=none->aq H H'->H' r=some (.lst (ms.map V.int))->ms.length=min n ns.length->Q (.ref r) H'
theorem JR (ns:List Int) (lo hi:Option Int):jn (ns.map V.int) lo hi=((ns.drop (HT.fY ns.length 0 lo)).take (HT.fY ns.length ns.length hi - HT.fY ns.length 0 lo)).map V.int:=by
 unfold jn
 rw [aAt,← List.map_drop,← List.map_take]
theorem AD (ms:List Int) (j:Nat) (v:Int):(ms.map V.int).set j (.int v)=(ms.set j v).map V.int:=by rw [List.map_set]
theorem DW {n:Nat} {i:Int} (h0:0<=i) (h:i<n):kY n i=some i.toNat:=by unfold kY; rw [atn h0,atn h]
theorem Qn {ms:List Int} {i:Nat} {x:V} (h:(ms.map V.int)[i]?=some x):∃ z,x=V.int z/\i<ms.length:=by
 rw [aYu] at h
 cases e:ms[i]? with
 | none=>rw [e] at h; cases h
 | some z=>rw [e] at h; exact ⟨z,(ado h).symm,(aw7.mp e).1⟩
theorem Uc (F:bO K "_law_folded" "_law_folded" E8 f fd) (T:Txt K mg):aH P w K mg base bI 1 f fd E7 (Lc K):=by
 refine F.ok iA (λvs H Q E h=>?_) (λcdv A outer s H vs Q E hr h=>?_)
 .obtain ⟨a,ns,n,rfl,_⟩:=h
  rfl
 obtain ⟨a,ns,n,rfl,hS,h63,hn0,hn1,k⟩:=h
 have nd:=iA.nd
 refine ⟨_,(Ze (bM 2 nd (yi (F3 (K:=K) rfl) rfl T.nU ZY (pc (KR (KC (K:=K) rfl) (pv 0) ou (pB (pv 1))) Zd)))
   (Ze (lS aVe rfl (Ez rfl T.vK (pc (KR (KC (K:=K) rfl) (pv 0) (pB (pv 1)) (pB Zh)) Zd)) (kJ (K:=K) (n:=2) rfl rfl (Zt (bS 3 nd) (Zt (bS 4 nd) kK))) (Zj (o7 (aa ZO (aG (Zp (K:=K) rfl) (pv 2) (aa i7 (pv 3) (pv 1)) (λ_ _=>rfl)) (aa ju (pv 4) (aa ZO (pv 3) Zh))) (tZ (pv 2) (aa i7 (pv 3) (pv 1)) uv))))
   (Zj (Zs (pv 2))))),?_⟩
 refine ⟨_,rfl,_,rfl,_,rfl,a,_,rfl,hS,λp hp=>?_⟩
 have s1:=Zf hp (.lst (jn (ns.map V.int) none (some (n:Int))))
 refine ⟨p,_,rfl,.inl (ak.of Za),λr hr1=>?_⟩
 have s2:=s1.trans (Zf hr1 (.lst (jn (ns.map V.int) none (some (n:Int)))))
 have HC:H r=none:=s1.free hr1
 rw [JR] at *
 generalize hms:(ns.drop (HT.fY ns.length 0 none)).take (HT.fY ns.length ns.length (some (n:Int)) - HT.fY ns.length 0 none)=ms at *
 have Ou:ms.length=min n ns.length:=by
  rw [← hms,HT.mC,HT.kj,a9v,ad0]; lia
 generalize Pf:upd (upd H p (.lst (ms.map V.int))) r (.lst (ms.map V.int))=H2 at *
 have HV:H2 r=some (.lst (ms.map V.int)):=by rw [← Pf]; exact Za
 refine ⟨_,rfl,_,rfl,_,rfl,_,rfl,a,_,rfl,s2.seq hS,λt ht=>?_⟩
 rw [JR]
 generalize hws:(ns.drop (HT.fY ns.length 0 (some (n:Int)))).take (HT.fY ns.length ns.length (some 63) - HT.fY ns.length 0 (some (n:Int)))=ws
 have Oj:0<ws.length->n<ns.length:=λh=>by
  rw [← hws,a9v,ad0,HT.kj] at h; lia
 have Ol:ws.length<=63:=by rw [← hws,a9v,ad0]; lia
 have s3:=s2.trans (Zf ht (.lst (ws.map V.int)))
 have G7:r≠t:=Zb HV ht
 refine ⟨t,rfl,⟨_,ak.of Za⟩,KD (K:=K) (a:=t) (xs:=ws.map V.int) (λi σ H'=>∃ (ms':List Int) (v3 v4:Option V),σ=[some (.ref a),some (.int n),some (.ref r),v3,v4]/\ms'.length=min n ns.length/\H' r=some (.lst (ms'.map V.int))/\H' t=some (.lst (ws.map V.int))/\aq H H')
  ⟨ms,none,none,rfl,Ou,by rw [Zc G7]; exact HV,Za,s3⟩ (λi σ H' _ ⟨_,_,_,_,_,_,q,_⟩=>ak.of q) ?_ ?_⟩
 .rintro i x u σ H' hi ⟨ms',v3,v4,rfl,lm,h1,h2,s4⟩ hu
  obtain ⟨z,rfl,hlt⟩:=Qn hi
  have hnl:=Oj (by lia)
  have s5:=Zf hu (.tup [.int (i:Int),.int z])
  refine ⟨u,_,rfl,bG.of Za,rfl,_,_,rfl,_,_,rfl,rfl,?_⟩
  have m0:0<=(i:Int) % (n:Int):=oW _ (by lia)
  have m1:(i:Int) % (n:Int)<(n:Int):=oV _ (by lia)
  obtain ⟨v,hv⟩:=Ld (ns:=ms') m0 (by lia)
  refine ⟨_,rfl,_,rfl,_,rfl,_,_,rfl,rfl,(by show (0:Int)<_; lia),r,_,_,_,rfl,rfl,ak.of (s5 _ _ h1),hv,?_⟩
  refine ⟨_,rfl,_,rfl,_,_,rfl,rfl,_,_,rfl,rfl,.inr ⟨by lia,by lia⟩,_,_,rfl,rfl,?_⟩
  refine ⟨_,rfl,_,rfl,_,rfl,_,_,rfl,rfl,(by show (0:Int)<_; lia),r,_,_,((i:Int) % (n:Int)).toNat,rfl,rfl,s5 _ _ h1,DW m0 (by rw [aAt]; lia),?_⟩
  refine ⟨ms'.set ((i:Int) % (n:Int)).toNat (v+z * ((i:Int)+2)),_,_,rfl,by rw [length_set]; exact lm,by rw [Za,AD],?_,?_⟩
  .rw [Zc (a38 G7)]; exact s5 _ _ h2
  .intro b o e
   rw [Zc (Zb e HC)]
   exact s5 _ _ (s4 _ _ e)
 .rintro σ H' ⟨ms',v3,v4,rfl,lm,h1,h2,s4⟩
  exact ⟨_,rfl,k r ms' H' HC s4 h1 lm⟩
end
theorem hide {t u:TS} {D:Ends} {σ:St} {H:Hp} (h:∀ u',u'=u->lZ t u' D σ H):lZ t u D σ H:=h u rfl
theorem Io {te:TE} {σ:St} {H:Hp} {Q:VK} (Post:V->Hp->Prop) (h1:∀ Q':VK,(∀ v H1,Post v H1->Q' v H1)->te σ H Q') (h2:∀ v H1,Post v H1->Q v H1):te σ H Q:=h1 Q h2
theorem qo {te:TE} {g:TG} {u:TS} {D:Ends} {σ:St} {H:Hp} (Post:V->Hp->Prop) (h1:∀ Q':VK,(∀ v H1,Post v H1->Q' v H1)->te σ H Q') (h2:∀ v H1,Post v H1->g v σ H1 (u D)):lZ (jG te g) u D σ H:=h1 _ h2
theorem tN {ts u:TS} {D:Ends} {σ:St} {H:Hp} (Post:St->Hp->Prop) (h1:∀ D':Ends,D'.rt=D.rt->(∀ σ1 H1,Post σ1 H1->D'.nx σ1 H1)->ts D' σ H) (h2:∀ σ1 H1,Post σ1 H1->u D σ1 H1):lZ ts u D σ H:=h1 _ rfl h2
theorem DG {tt:TT} {ta tb:TE} {σ:St} {H:Hp} {Q:VK} (Post:Bool->Hp->Prop) (h1:∀ Q':Bool->Hp->Prop,(∀ v H1,Post v H1->Q' v H1)->tt σ H Q') (h2:∀ c H1,Post c H1->if c=true then ta σ H1 Q else tb σ H1 Q):yR tt ta tb σ H Q:=h1 _ h2
theorem xx {tt:TT} {ta tb:TS} {D:Ends} {σ:St} {H:Hp} (Post:Bool->Hp->Prop) (h1:∀ Q':Bool->Hp->Prop,(∀ v H1,Post v H1->Q' v H1)->tt σ H Q') (h2:∀ c H1,Post c H1->if c=true then ta D σ H1 else tb D σ H1):uY tt ta tb D σ H:=h1 _ h2
theorem DF {t u:TT} {σ:St} {H:Hp} {Q:Bool->Hp->Prop} (Post:Bool->Hp->Prop) (h1:∀ Q':Bool->Hp->Prop,(∀ v H1,Post v H1->Q' v H1)->t σ H Q') (h2:∀ c H1,Post c H1->if c=true then Q true H1 else u σ H1 Q):GN t u σ H Q:=h1 _ h2
theorem Lb {b l:Addr} {H G:Hp} {xs:List V} (s:SB b H G) (hb:G b=some (.lst xs)) (hl:G l=none):H l=none:=by
 cases e:H l with
 | none=>rfl
 | some o =>
  by_cases h:l=b
  .rw [h,hb] at hl; cases hl
  .rw [s _ _ h e] at hl; cases hl
theorem tR {ns:List Int} {k:Int} (h0:0<=k) (h:k<(ns.length:Int)):∃ v:Int,cZ (ns.map V.int) k=some (.int v)/\v∈ns:=by
 have hk:k.toNat<ns.length:=by lia
 have q:cZ (ns.map V.int) ((k.toNat:Nat):Int)=some (.int ns[k.toNat]):=ZS (by rw [aYu,aDi hk] <;> rfl)
 rw [show ((k.toNat:Nat):Int)=k by lia] at q
 exact ⟨_,q,a2P hk⟩
theorem uB (ns:List Int):(ns.map V.int).all fC=true:=by
 rw [aql]
 intro x hx
 obtain ⟨n,_,rfl⟩:=aiy.mp hx
 rfl
theorem SE {n:Nat} (h:0<n):kY n (-1)=some (n - 1):=by
 unfold kY
 rw [amU (by decide),atn (by lia)]
 congr 1
 lia
theorem En {ns:List Int} {j:Nat} {v x:Int} (h:x∈ns.set j v):x∈ns\/x=v:=by
 rcases List.mem_or_eq_of_mem_set h with h | h
 .exact .inl h
 .exact .inr h
theorem b9 {b:Bool} {A B:Prop} (h:b=false) (hB:B):if b=true then A else B:=by subst h; rw [amU aPi]; exact hB
theorem dh {b:Bool} {A B:Prop} (h:b=true) (hA:A):if b=true then A else B:=by subst h; rw [atn rfl]; exact hA
theorem AB {α:Type} {xs:List α} {i:Int} (h0:0<=i) (h1:i<(xs.length:Int)):∃ v,cZ xs i=some v/\v∈xs:=by
 have hk:i.toNat<xs.length:=by lia
 have q:cZ xs ((i.toNat:Nat):Int)=some xs[i.toNat]:=ZS (aDi hk)
 rw [show ((i.toNat:Nat):Int)=i by lia] at q
 exact ⟨_,q,a2P hk⟩
theorem Qm (x y:Int) (k:Bool):∃ n:Int,cZ [V.int x,V.int y] (if k=true then 1 else 0)=some (.int n)/\(n=x\/n=y):=by
 cases k with
 | true=>exact ⟨y,rV,.inr rfl⟩
 | false=>exact ⟨x,nE,.inl rfl⟩
theorem vO (x y r:Int) (h0:0<=r) (h1:r<2):∃ n:Int,cZ [V.int x,V.int y] r=some (.int n)/\(n=x\/n=y):=by
 have h:r=0\/r=1:=by lia
 rcases h with rfl | rfl
 .exact ⟨x,nE,.inl rfl⟩
 .exact ⟨y,rV,.inr rfl⟩
theorem Ql (r:Int) (h0:0<=r) (h1:r<4):∃ n:Int,cZ [V.int 1,V.int 1,V.int 12,V.int 24] r=some (.int n)/\(n=1\/n=12\/n=24):=by
 obtain ⟨x,hx,m⟩:=AB (xs:=[V.int 1,V.int 1,V.int 12,V.int 24]) h0 (by show r<((4:Nat):Int); lia)
 simp only [asf,a6P,azq] at m
 rcases m with rfl | rfl | rfl | rfl
 .exact ⟨_,hx,.inl rfl⟩
 .exact ⟨_,hx,.inl rfl⟩
 .exact ⟨_,hx,.inr (.inl rfl)⟩
 .exact ⟨_,hx,.inr (.inr rfl)⟩
theorem vN (r:Int) (h0:0<=r) (h1:r<5):∃ v,cZ [V.int 1,V.int 1,V.int 2,V.int 3,V.int 4] r=some (.int v)/\1<=v/\v<=64:=by
 obtain ⟨x,hx,m⟩:=AB (xs:=[V.int 1,V.int 1,V.int 2,V.int 3,V.int 4]) h0 (by show r<((5:Nat):Int); lia)
 simp only [asf,a6P,azq] at m
 rcases m with rfl | rfl | rfl | rfl | rfl <;> exact ⟨_,hx,by decide,by decide⟩
def nJ (z:Str):Prop:=z = "old" \/ z = "come" \/ z = "few"
theorem vL (r:Int) (h0:0<=r) (h1:r<3):∃ z:Str,cZ [V.str "old",V.str "come",V.str "few"] r=some (.str z)/\nJ z:=by
 obtain ⟨x,hx,m⟩:=AB (xs:=[V.str "old",V.str "come",V.str "few"]) h0 (by show r<((3:Nat):Int); lia)
 simp only [asf,a6P,azq] at m
 rcases m with rfl | rfl | rfl
 .exact ⟨_,hx,.inl rfl⟩
 .exact ⟨_,hx,.inr (.inl rfl)⟩
 .exact ⟨_,hx,.inr (.inr rfl)⟩
theorem Ub {s:Int} (h0:1<=s) (h1:s<=16):555<=9999 / s/\9999 / s<=9999/\1<=(if 10000 / s - 480 > 1 then 10000 / s - 480 else 1)/\(if 10000 / s - 480 > 1 then 10000 / s - 480 else 1)+455<=9999 / s:=by
 have key:∀ n:Fin 17,1<=(n.val:Int)->(555<=9999 / (n.val:Int)/\9999 / (n.val:Int)<=9999/\1<=(if 10000 / (n.val:Int) - 480 > 1 then 10000 / (n.val:Int) - 480 else 1)/\(if 10000 / (n.val:Int) - 480 > 1 then 10000 / (n.val:Int) - 480 else 1)+455<=9999 / (n.val:Int)):=by decide +kernel
 have e:((⟨s.toNat,by lia⟩:Fin 17).val:Int)=s:=by show ((s.toNat:Nat):Int)=s; lia
 have q:=key ⟨s.toNat,by lia⟩ (by rw [e]; exact h0)
 rw [e] at q
 exact q
def j5 (t:Int) (ns:List Int):Prop:=∀ n∈ns,0<=n/\n<=t
section
def La:Sp:=λvs H Q _=>∃ (b:Addr) (a q c s:Int),vs=[.ref b,.int s]/\aT H b a q c/\c<500000000/\1<=s/\s<=16 /\
 ∀ (l:Addr) (ns:List Int) (a' c':Int) (H':Hp),H l=none->H' l=some (.lst (ns.map V.int))->3<=ns.length->ns.length<=20->j5 (9999 / s) ns->aT H' b a' q c'->c'<=c+40->SB b H H'->Q (.ref l) H'
theorem Wq (F:bO K "_law_some_boards" "_law_some_boards" AW f fd) (T:Txt K mg) (gv:Def P w K mg base "_law_take" 1 xN z9):aH P w K mg base bI 2 f fd FZ La:=by
 refine F.ok dB (λvs H Q E h=>?_) (λcdv A outer st H vs Q E hr h=>?_)
 .obtain ⟨b,a,q,c,s,rfl,_⟩:=h
  rfl
 obtain ⟨b,a,q,c,s,rfl,B,hc,hs0,hs1,k⟩:=h
 have nd:=dB.nd
 obtain ⟨Na,lY,m0,m1⟩:=Ub hs0 hs1
 refine ⟨_,(Ze (bM 2 nd (aa ZO Zh (Zm gv hr.m rfl (pc (pv 0) (pc (aG (Zp (K:=K) rfl) (ZT (pc Zh (pc Zh Zd))) (yi Lw rfl T.sO AV (pc (nI br (Zm gv hr.m rfl (pc (pv 0) (pc Zh Zd))) Zh (Zx _)) Zd)) (λ_ _=>rfl)) Zd)))))
   (Ze (o7 (lu (pc (Zm gv hr.m rfl (pc (pv 0) (pc Zh Zd))) (pc (Zm gv hr.m rfl (pc (pv 0) (pc Zh Zd))) Zd))) (kJ (K:=K) (n:=2) rfl rfl (Zt (bS 3 nd) (Zt (bS 4 nd) kK))))
   (Ze (bM 5 nd (om (Zu gO (pv 4) Zh (Zx _)) (pv 4) (Zm gv hr.m rfl (pc (pv 0) (pc (aG (Zp (K:=K) rfl) (ZT (pc Zh (pc (Zk (Lx rfl) rfl T.uL EX (pc Zh (pc (aa lC (aa um Zh (pv 1)) Zh) Zd))) Zd))) (aa lC (pv 4) Zh) (λ_ _=>rfl)) Zd)))))
   (Ze (xZ 6 (Zy (eV:=(Zg AW)) (oN:=cE) (N:=["_law_k", "_law_first", "_law_way"]) (own:=1) (js:=[5,3]) (by decide +kernel) rfl rfl) rfl nd rfl rfl (pq rfl T.ko (pc (pv 2) Zd)) (λ_ _ _ _ _ _=>(bS 0 (show List.Nodup (["_law_k", "_law_first", "_law_way"]:List Str) by decide +kernel))) (λ_ _ _ _ _ _=>(aa ZO (pv 1) (aa ju (aG (Zp (K:=K) rfl) (ZT (pc Zh (pc Zh (pc Zh (pc Zh Zd))))) (pv 2) (λ_ _=>rfl)) (pv 0)))))
   (Ze (bM 7 nd (om (Zu br (Zm gv hr.m rfl (pc (pv 0) (pc Zh Zd))) Zh (Zx _)) (aa um Zh (pv 1)) (Zm gv hr.m rfl (pc (pv 0) (pc (aa ZO Zh (aa um Zh (pv 1))) Zd)))))
   (Ze (aO (PW.pt (pw_or (PW.pt (Ej (Zu br (pv 3) Zh (Zx _)) (ES (Zu (AX (K:=K) rfl) (pv 7) (pv 6) rfl)))) (uc (PW.pt (Ej (Zu br (pv 7) (aa um Zh (pv 1)) (Zx _)) (ES (Zu (AX (K:=K) rfl) (pv 7) (pv 6) rfl))))))) (Zj (o7 (pv 7) (tZ (pv 6) (cG lB Zh) uv))) Zw)
   (Ze (lS aVe rfl (pq rfl T.ko (pc (aa lC (pv 2) Zh) Zd)) (bS 8 nd) (Ze (bM 9 nd (aa ZO (pv 8) (Zm gv hr.m rfl (pc (pv 0) (pc (aa lC (pv 2) (pv 8)) Zd)))))
   (Zj (o7 (lu (pc (aG (Zp (K:=K) rfl) (pv 6) (pv 9) (λ_ _=>rfl)) (pc (aG (Zp (K:=K) rfl) (pv 6) (pv 8) (λ_ _=>rfl)) Zd))) (kJ (K:=K) (n:=2) rfl rfl (Zt (tZ (pv 6) (pv 8) uv) (Zt (tZ (pv 6) (pv 9) uv) kK)))))))
   (Zj (Zs (pv 6)))))))))),?_⟩
 generalize hm:(if 10000 / s - 480 > 1 then 10000 / s - 480 else 1)=m at m0 m1
 generalize ht:(9999:Int) / s=top at *
 refine hide λuu ee=>?_
 refine ⟨_,rfl,(sl 2),λp1 hp1=>⟨_,rfl,b,a,q,c,6,rfl,B.same (Zf hp1 _),by lia,by decide,by decide,λr1 a1 c1 H1 Cb NC B1 hc1 s1=>⟨rfl,.inr ⟨_,rfl,?_⟩⟩⟩⟩
 have q1:b≠p1:=Zb B.at' hp1
 obtain ⟨n,hn,hn'⟩:=Qm 5 18 (decide (V.int r1=V.int 0))
 refine ⟨p1,_,_,_,rfl,rfl,ak.of (s1 _ _ (a38 q1) Za),hn,b,a1,q,c1,n,rfl,B1,by lia,by lia,by lia,λr2 a2 c2 H2 y9 yZ B2 hc2 s2=>⟨_,_,rfl,rfl,?_⟩⟩
 have Xe:3<=3+r2:=by lia
 have Xd:3+r2<=20:=by lia
 have u2:SB b H H2:=(((Zf hp1 _).sb b).trans s1).trans s2
 dsimp only [bW]
 subst ee
 try dsimp only
 refine hide λuu ee=>?_
 refine ⟨_,rfl,b,a2,q,c2,4,rfl,B2,by lia,by decide,by decide,λr3 a3 c3 H3 sV yY B3 hc3 s3=>?_⟩
 refine ⟨_,rfl,b,a3,q,c3,4,rfl,B3,by lia,by decide,by decide,λr4 a4 c4 Ml B0 GZ WK hc4 s4=>⟨(sl 2),λp4 HE=>⟨p4,_,rfl,bG.of Za,rfl,_,_,rfl,_,_,rfl,rfl,?_⟩⟩⟩
 have B4:=WK.same (Zf HE (.tup [.int r3,.int r4]))
 have u4:SB b H (upd Ml p4 (.tup [.int r3,.int r4])):=((u2.trans s3).trans s4).trans ((Zf HE _).sb b)
 generalize upd Ml p4 (.tup [.int r3,.int r4])=H4 at *
 subst ee
 try dsimp only
 refine qo (λv G=>∃ z a' c',v=.int z/\0<=z/\z+456<=top/\aT G b a' q c'/\c'<=c4+1/\SB b H G) (λQ' k'=>?_) ?_
 .refine ⟨_,rfl,_,_,rfl,rfl,_,rfl,ZJ (λDK=>⟨_,rfl,k' _ _ ⟨_,a4,c4,rfl,B0,by lia,B4,by lia,u4⟩⟩) (λDK=>?_)⟩
  refine ⟨_,rfl,_,rfl,_,_,rfl,rfl,⟨by lia,by lia⟩,_,_,rfl,rfl,_,_,rfl,(sl 2),λp2 hp2=>?_⟩
  have q2:b≠p2:=Zb B4.at' hp2
  rw [hm]
  obtain ⟨n2,hn2,OS⟩:=vO 100 m (r4 - 2) (by lia) (by lia)
  refine ⟨_,rfl,_,_,rfl,rfl,p2,_,_,_,rfl,rfl,ak.of Za,hn2,b,a4,q,c4,n2,rfl,B4.same (Zf hp2 _),by lia,by lia,by lia,λr5 a5 c5 H5 NB WZ B5 hc5 s5=>?_⟩
  exact k' _ _ ⟨r5,a5,c5,rfl,NB,by lia,B5,by lia,u4.trans (((Zf hp2 _).sb b).trans s5)⟩
 rintro _ H5 ⟨z,a5,c5,rfl,z0,z1,B5,hc5,u5⟩
 dsimp only [bW]
 refine hide λuu ee=>?_
 refine ⟨_,rfl,_,rfl,by lia,by lia,λl hl=>?_⟩
 have k8:H l=none:=Lb u5 B5.at' hl
 have mP:l≠b:=a38 (Zb B5.at' hl)
 have hmn:(3+r2).toNat<=20:=by lia
 refine uz (lo:=0) (n:=(3+r2).toNat) (l:=l) (λj ys σ G=>∃ (v0:Option V) (ns:List Int),σ=[v0,some (.int z),some (.int r3)]/\ys=ns.map V.int/\ns.length=j/\j5 top ns/\G l=some (.lst ys)/\aq H5 G)
  ⟨none,[],rfl,rfl,rfl,λn hn=>(nomatch hn),Za,Zf hl _⟩ ?_ ?_
 .rintro j ys σ G hj hy ⟨v0,ns,rfl,rfl,hj',hb',h1,h2⟩
  refine ⟨_,rfl,(sl 4),λp hp=>?_⟩
  obtain ⟨n4,OR,C6⟩:=Ql r3 sV yY
  have np:l≠p:=Zb h1 hp
  have OF:(j:Int)<=19:=by lia
  refine ⟨_,rfl,p,_,_,_,rfl,rfl,ak.of Za,OR,_,rfl,_,_,rfl,rfl,.inl ⟨by lia,by lia⟩,_,_,rfl,rfl,eX.of (ay9 hmn (by decide)) hj hy (by rw [Zc np]; exact h1) ⟨_,ns++[z+n4 * (0+(j:Int))],rfl,by rw [awR]; rfl,by rw [aUV,hj']; rfl,λx hx=>?_,Za,λe o y=>?_⟩⟩
  .rcases aJX.mp hx with h | h
   .exact hb' x h
   .have ex:x=z+n4 * (0+(j:Int)):=by simpa using h
    subst ex
    rcases C6 with rfl | rfl | rfl
    .exact ⟨by lia,by lia⟩
    .exact ⟨by lia,by lia⟩
    .exact ⟨by lia,by lia⟩
  .rw [Zc (Zb y hl)]
   exact Zf hp _ _ _ (h2 _ _ y)
 rintro ys σ G hy ⟨v0,ns,rfl,rfl,hj',hb',h1,h2⟩
 have B6:=B5.same h2
 have u6:SB b H G:=u5.trans (h2.sb b)
 have qc:3<=ns.length:=by lia
 have Ot:ns.length<=20:=by lia
 dsimp only [bW]
 subst ee
 try dsimp only
 refine qo (λv G'=>∃ z a' c',v=.int z/\0<=z/\z<=top/\aT G' b a' q c'/\c'<=c5+2/\SB b G G') (λQ' k'=>?_) ?_
 .refine ⟨_,rfl,b,a5,q,c5,5,rfl,B6,by lia,by decide,by decide,λr7 a7 c7 H7 WY WX B7 O6 s7=>⟨rfl,_,rfl,ZJ (λ_=>?_) (λ_=>?_)⟩⟩
  .refine ⟨_,rfl,_,_,rfl,rfl,⟨by lia,by lia⟩,?_⟩
   exact k' _ _ ⟨_,a7,c7,rfl,by rw [ht]; lia,by rw [ht]; lia,B7,by lia,s7⟩
  .refine ⟨_,rfl,_,rfl,_,_,rfl,rfl,⟨by lia,by lia⟩,_,_,rfl,rfl,b,a7,q,c7,_,rfl,B7,by lia,by rw [ht]; lia,by rw [ht]; lia,λr8 a8 c8 H8 BZ yX B8 O5 s8=>?_⟩
   exact k' _ _ ⟨_,a8,c8,rfl,BZ,by rw [ht] at yX; lia,B8,by lia,s7.trans s8⟩
 rintro _ H7 ⟨fr,a7,c7,rfl,Pq,Pp,B7,O6,s7⟩
 have h7:=s7 _ _ mP h1
 have u7:SB b H H7:=u6.trans s7
 refine tN (λσ G'=>∃ ns':List Int,σ=[some (.ref b),some (.int s),some (.int (3+r2)),some (.int r3),some (.int r4),some (.int z),some (.ref l),some (.int fr),none,none]/\G' l=some (.lst (ns'.map V.int))/\ns'.length=ns.length/\j5 top ns'/\aT G' b a7 q c7/\SB b H G') (λD' _ k'=>?_) ?_
 .refine xx (λ_ G'=>G'=H7) (λQ' k''=>?_) ?_
  .refine DF (λ_ G'=>G'=H7) (λWA k3=>?_) ?_
   .exact ⟨_,rfl,rfl,_,rfl,ZJ (λ_=>⟨_,rfl,_,rfl,l,_,rfl,.inl (ak.of h7),rfl,uB _,_,rfl,k3 _ _ rfl⟩) (λ_=>k3 _ _ rfl)⟩
   .rintro cb _ rfl
    cases cb with
    | true=>exact dh rfl (k'' _ _ rfl)
    | false=>exact b9 rfl ⟨_,rfl,_,rfl,_,_,rfl,rfl,⟨by lia,by lia⟩,rfl,_,rfl,ZJ (λ_=>⟨_,rfl,_,rfl,l,_,rfl,.inl (ak.of h7),rfl,uB _,_,rfl,k'' _ _ rfl⟩) (λ_=>k'' _ _ rfl)⟩
  .rintro cb _ rfl
   cases cb with
   | false=>exact b9 rfl (k' _ _ ⟨ns,rfl,h7,rfl,hb',B7,u7⟩)
   | true =>
    refine dh rfl ⟨_,rfl,_,rfl,_,rfl,l,_,_,_,rfl,rfl,h7,SE (by rw [aAt]; lia),k' _ _ ⟨ns.set (ns.length - 1) fr,rfl,?_,length_set,λx hx=>?_,B7.sb (tW l _ _) (a38 mP),λe o n' y=>?_⟩⟩
    .rw [Za,aAt,AD]
    .rcases En hx with h | h
     .exact hb' x h
     .subst h; exact ⟨Pq,Pp⟩
    .rw [Zc (Zb y k8)]; exact u7 _ _ n' y
 rintro _ H8 ⟨NT,rfl,h8,l8,b8,B8,u8⟩
 refine ⟨_,rfl,_,_,rfl,rfl,_,rfl,by lia,by lia,Fx (lo:=0) (n:=(3+r2 - 1).toNat) (λj σ G'=>∃ (ns':List Int) (v8 v9:Option V) (a' c':Int),σ=[some (.ref b),some (.int s),some (.int (3+r2)),some (.int r3),some (.int r4),some (.int z),some (.ref l),some (.int fr),v8,v9]/\G' l=some (.lst (ns'.map V.int))/\ns'.length=ns.length/\j5 top ns'/\aT G' b a' q c'/\c'<=c7+(j:Int)/\SB b H G')
  ⟨NT,_,_,a7,c7,rfl,h8,l8,b8,B8,by lia,u8⟩ ?_ ?_⟩
 .rintro j σ G' hj ⟨ns',v8,v9,a',c',rfl,oQ,l',b',B',hc',u'⟩
  have OF:(j:Int)<=18:=by lia
  have jl:(j:Int)+1<3+r2:=by lia
  refine ⟨_,rfl,_,rfl,_,rfl,_,rfl,_,_,rfl,rfl,b,a',q,c',_,rfl,B',by lia,by lia,by lia,λr9 a9 c9 H9 Nz Ny B9 O4 s9=>⟨_,_,rfl,rfl,?_⟩⟩
  have h9:=s9 _ _ mP oQ
  obtain ⟨x1,kC,CK⟩:=tR (ns:=ns') (k:=0+(j:Int)+r9) (by lia) (by lia)
  obtain ⟨x2,wK,CJ⟩:=tR (ns:=ns') (k:=0+(j:Int)) (by lia) (by lia)
  refine ⟨_,rfl,_,rfl,l,_,_,_,rfl,rfl,ak.of h9,kC,_,rfl,_,rfl,l,_,_,_,rfl,rfl,ak.of h9,wK,(sl 2),λt ht'=>?_⟩
  have vY:l≠t:=Zb h9 ht'
  refine ⟨t,_,rfl,bG.of Za,rfl,_,_,rfl,_,rfl,_,rfl,l,_,_,_,rfl,rfl,(by rw [Zc vY]; exact h9),DW (by lia) (by rw [aAt]; lia),?_⟩
  refine ⟨_,_,rfl,_,rfl,_,rfl,l,_,_,_,rfl,rfl,Za,DW (by lia) (by rw [length_set,aAt]; lia),rfl,?_⟩
  refine ⟨(ns'.set (0+(j:Int)).toNat x1).set (0+(j:Int)+r9).toNat x2,_,_,a9,c9,rfl,by rw [Za,AD,AD],by rw [length_set,length_set]; exact l',λx hx=>?_,?_,by lia,λe o n' y=>?_⟩
  .rcases En hx with h | h
   .rcases En h with h | h
    .exact b' x h
    .subst h; exact b' _ CK
   .subst h; exact b' _ CJ
  .exact ((B9.same (Zf ht' _)).sb (tW l _ _) (a38 mP)).sb (tW l _ _) (a38 mP)
  .have ne:e≠l:=Zb y k8
   rw [Zc ne,Zc ne]
   exact Zf ht' _ _ _ (s9 _ _ n' (u' _ _ n' y))
 .rintro σ G' ⟨ns',v8,v9,a',c',rfl,oQ,l',b',B',hc',u'⟩
  exact ⟨_,rfl,k l ns' a' c' G' k8 oQ (by lia) (by lia) b' B' (by lia) u'⟩
end
section
def JQ:Sp:=λvs H Q _=>∃ (b:Addr) (a q c:Int),vs=[.ref b]/\aT H b a q c/\c<500000000 /\
 ∀ (p:Addr) (sh pl:Int) (r:Str) (a' c':Int) (H':Hp),H' p=some (.tup [.int sh,.int pl,.str r])->1<=sh->sh<=64->1<=pl->pl<=16->nJ r->aT H' b a' q c'->c'<=c+5->SB b H H'->Q (.ref p) H'
theorem SD (F:bO K "_law_shape" "_law_shape" Et f fd) (T:Txt K mg) (gv:Def P w K mg base "_law_take" 1 xN z9):aH P w K mg base bI 2 f fd Es JQ:=by
 refine F.ok i9 (λvs H Q E h=>?_) (λcdv A outer st H vs Q E hr h=>?_)
 .obtain ⟨b,a,q,c,rfl,_⟩:=h
  rfl
 obtain ⟨b,a,q,c,rfl,B,hc,k⟩:=h
 have nd:=i9.nd
 refine ⟨_,(Ze (bM 1 nd (nI br (Zm gv hr.m rfl (pc (pv 0) (pc Zh Zd))) Zh (Zx _)))
   (Ze (bM 2 nd (om (lD (pv 1)) (aa ZO Zh (Zm gv hr.m rfl (pc (pv 0) (pc Zh Zd)))) (aG (Zp (K:=K) rfl) (ZT (pc Zh (pc Zh (pc Zh (pc Zh (pc Zh Zd)))))) (Zm gv hr.m rfl (pc (pv 0) (pc Zh Zd))) (λ_ _=>rfl))))
   (Zj (Zs (lu (pc (pv 2) (pc (aa ZO Zh (Zm gv hr.m rfl (pc (pv 0) (pc (om (lD (pv 1)) Zh Zh) Zd)))) (pc (aG (Zp (K:=K) rfl) (ZT (pc sf (pc sf (pc sf Zd)))) (Zm gv hr.m rfl (pc (pv 0) (pc Zh Zd))) (λ_ _=>rfl)) Zd)))))))),?_⟩
 refine ⟨_,rfl,b,a,q,c,6,rfl,B,by lia,by decide,by decide,λr1 a1 c1 H1 Cb NC B1 hc1 s1=>⟨rfl,?_⟩⟩
 generalize decide (V.int r1=V.int 0)=Ib
 dsimp only
 refine qo (λv G=>∃ z a' c',v=.int z/\1<=z/\z<=64/\aT G b a' q c'/\c'<=c1+1/\SB b H G) (λQ' k'=>?_) ?_
 .refine ⟨_,rfl,_,rfl,?_⟩
  cases Ib with
  | true=>exact dh rfl ⟨_,rfl,b,a1,q,c1,64,rfl,B1,by lia,by decide,by decide,λr2 a2 c2 H2 y9 yZ B2 hc2 s2=>⟨_,_,rfl,rfl,k' _ _ ⟨_,a2,c2,rfl,by lia,by lia,B2,by lia,s1.trans s2⟩⟩⟩
  | false =>
   refine b9 rfl ⟨(sl 5),λp0 hp0=>⟨_,rfl,b,a1,q,c1,5,rfl,B1.same (Zf hp0 _),by lia,by decide,by decide,λr2 a2 c2 H2 y9 yZ B2 hc2 s2=>?_⟩⟩
   have q0:b≠p0:=Zb B1.at' hp0
   obtain ⟨sh,hsh,jD,nT⟩:=vN r2 y9 yZ
   exact ⟨p0,_,_,_,rfl,rfl,ak.of (s2 _ _ (a38 q0) Za),hsh,k' _ _ ⟨_,a2,c2,rfl,jD,nT,B2,by lia,s1.trans (((Zf hp0 _).sb b).trans s2)⟩⟩
 rintro _ H2 ⟨sh,a2,c2,rfl,jD,nT,B2,hc2,u2⟩
 refine ⟨_,rfl,_,rfl,?_⟩
 refine Io (te:=yR _ _ _) (λv G=>∃ z,v=.int z/\4<=z/\z<=16/\G=H2) (λQ' k'=>?_) ?_
 .refine ⟨_,rfl,_,rfl,?_⟩
  cases Ib with
  | true=>exact dh rfl (k' _ _ ⟨_,rfl,by decide,by decide,rfl⟩)
  | false=>exact b9 rfl (k' _ _ ⟨_,rfl,by decide,by decide,rfl⟩)
 rintro _ _ ⟨n,rfl,n0,n1,rfl⟩
 refine ⟨b,a2,q,c2,_,rfl,B2,by lia,by lia,by lia,λr3 a3 c3 H3 sV yY B3 hc3 s3=>⟨_,_,rfl,rfl,(sl 3),λp3 hp3=>⟨_,rfl,b,a3,q,c3,3,rfl,B3.same (Zf hp3 _),by lia,by decide,by decide,λr4 a4 c4 H4 B0 GZ B4 hc4 s4=>?_⟩⟩⟩
 have q3:b≠p3:=Zb B3.at' hp3
 obtain ⟨ru,m6,OG⟩:=vL r4 B0 GZ
 refine ⟨p3,_,_,_,rfl,rfl,ak.of (s4 _ _ (a38 q3) Za),m6,(sl 3),λpp hpp=>?_⟩
 exact k pp sh _ ru a4 c4 _ Za jD nT (by lia) (by lia) OG (B4.same (Zf hpp _)) (by lia)
  (((u2.trans s3).trans (((Zf hp3 _).sb b).trans s4)).trans ((Zf hpp _).sb b))
def JP:Sp:=λvs H Q _=>∃ (b:Addr) (a q c fw mt:Int),vs=[.ref b,.int fw,.int mt]/\aT H b a q c/\c<400000000/\0<=fw/\fw<=mt/\mt<=400 /\
 ∀ (l:Addr) (ns:List Int) (a' c':Int) (H':Hp),H l=none->H' l=some (.lst (ns.map V.int))->(ns.length:Int)<=mt->j5 9999 ns->aT H' b a' q c'->c'<=c+2000->SB b H H'->Q (.ref l) H'
theorem vM (x0 x1 x2 x3 x4 r:Int) (h0:0<=r) (h1:r<5):∃ n:Int,cZ [V.int x0,V.int x1,V.int x2,V.int x3,V.int x4] r=some (.int n)/\(n=x0\/n=x1\/n=x2\/n=x3\/n=x4):=by
 obtain ⟨x,hx,m⟩:=AB (xs:=[V.int x0,V.int x1,V.int x2,V.int x3,V.int x4]) h0 (by show r<((5:Nat):Int); lia)
 simp only [asf,a6P,azq] at m
 rcases m with rfl | rfl | rfl | rfl | rfl
 .exact ⟨_,hx,.inl rfl⟩
 .exact ⟨_,hx,.inr (.inl rfl)⟩
 .exact ⟨_,hx,.inr (.inr (.inl rfl))⟩
 .exact ⟨_,hx,.inr (.inr (.inr (.inl rfl)))⟩
 .exact ⟨_,hx,.inr (.inr (.inr (.inr rfl)))⟩
theorem Qk (x y:Int):(if y<x then y else x)<=x/\(if y<x then y else x)<=y/\((if y<x then y else x)=x\/(if y<x then y else x)=y):=by
 split <;> refine ⟨by lia,by lia,by lia⟩
theorem SA (F:bO K "_law_asked" "_law_asked" Er f fd) (T:Txt K mg) (gv:Def P w K mg base "_law_take" 1 xN z9) (Ci:Def P w K mg base "_law_some_boards" 2 FZ La):aH P w K mg base bI 3 f fd Ep JP:=by
 refine F.ok jc (λvs H Q E h=>?_) (λcdv A outer st H vs Q E hr h=>?_)
 .obtain ⟨b,a,q,c,fw,mt,rfl,_⟩:=h
  rfl
 obtain ⟨b,a,q,c,fw,mt,rfl,B,hc,Xr,hfm,hm1,k⟩:=h
 have nd:=jc.nd
 refine ⟨_,(Ze (bM 3 nd (Zm Ci hr.m rfl (pc (pv 0) (pc Zh Zd))))
   (Ze (bM 4 nd (om (Zu br (Zm gv hr.m rfl (pc (pv 0) (pc Zh Zd))) Zh (Zx _)) (Zm gv hr.m rfl (pc (pv 0) (pc (aa ZO (pv 2) Zh) Zd))) (Zm gv hr.m rfl (pc (pv 0) (pc (aa ZO (pv 1) Zh) Zd)))))
   (Ze (Ry (i:=5) (j:=6) rfl nd rfl rfl (by decide) rfl rfl (pc (Zm gv hr.m rfl (pc (pv 0) (pc Zh Zd))) (pc (ZT Zd) Zd)) rfl)
   (Ze (lS aVe rfl (pq rfl T.ko (pc (pv 4) Zd)) (bS 7 nd) (Ze (bM 8 nd (om (PW.pt (pw_or (Zu (FJ (K:=K) rfl) (pv 5) (lu (pc Zh (pc Zh Zd))) rfl) (uc (PW.pt (Ej (Zu br (pv 5) Zh (Zx _)) (ES (Zu br (aa i7 (pv 7) Zh) Zh (Zx _)))))))) (aG (Zp (K:=K) rfl) (pv 3) (Zm gv hr.m rfl (pc (pv 0) (pc (Zk (Zn (K:=K) rfl) rfl T.fZ aTr (pc (pv 3) Zd)) Zd))) (λ_ _=>rfl)) Zh))
   (Ze (bM 9 nd (aa i7 (pv 7) (aa lC (aa ju Zh (Zk (Zn (K:=K) rfl) rfl T.fZ aTr (pc (pv 3) Zd))) Zh)))
   (Ze (bM 10 nd (aG (Zp (K:=K) rfl) (pv 3) (Zk (Vm rfl) rfl T.yH KH (pc (pv 9) (pc (aa lC (aa lC (aa ju Zh (Zk (Zn (K:=K) rfl) rfl T.fZ aTr (pc (pv 3) Zd))) Zh) (pv 9)) Zd))) (λ_ _=>rfl)))
   (Ze (bM 11 nd (om (Zu br (Zm gv hr.m rfl (pc (pv 0) (pc Zh Zd))) Zh (Zx _)) (pv 8) (aG (Zp (K:=K) rfl) (pv 3) Zh (λ_ _=>rfl))))
   (Zj (Zz (jt (K:=K) rfl (bK aqK a9V alx ZG (pv 6) (pc (aG (Zp (K:=K) rfl) (ZT (pc (pv 8) (pc (aG (Zp (K:=K) rfl) (pv 3) (aa i7 (pv 7) (Zk (Zn (K:=K) rfl) rfl T.fZ aTr (pc (pv 3) Zd))) (λ_ _=>rfl)) (pc (om (Zu br (aa i7 (pv 7) Zh) Zh (Zx _)) (pv 8) (aG (Zp (K:=K) rfl) (pv 3) (aa i7 (pv 7) (Zk (Zn (K:=K) rfl) rfl T.fZ aTr (pc (pv 3) Zd))) (λ_ _=>rfl))) (pc (pv 10) (pc (pv 11) Zd)))))) (pv 5) (λ_ _=>rfl)) Zd))))))))))
   (Zj (Zs (pv 6))))))),?_⟩
 refine ⟨_,rfl,b,a,q,c,1,rfl,B,by lia,by decide,by decide,λl1 fK a1 c1 H1 hl1 e1 g3 Xs bd B1 hc1 s1=>?_⟩
 have bd':∀ n∈fK,0<=n/\n<=9999:=bd
 have tF:l1≠b:=λe=>by rw [e,B.at'] at hl1; cases hl1
 dsimp only
 refine qo (λv G=>∃ z a' c',v=.int z/\0<=z/\z<=mt/\aT G b a' q c'/\c'<=c1+2/\SB b H1 G) (λQ' k'=>?_) ?_
 .refine ⟨_,rfl,b,a1,q,c1,8,rfl,B1,by lia,by decide,by decide,λr2 a2 c2 H2 y9 yZ B2 hc2 s2=>⟨rfl,_,rfl,ZJ (λ_=>?_) (λ_=>?_)⟩⟩
  .refine ⟨_,rfl,_,rfl,_,_,rfl,rfl,b,a2,q,c2,_,rfl,B2,by lia,by lia,by lia,λr3 a3 c3 H3 sV yY B3 hc3 s3=>?_⟩
   exact k' _ _ ⟨_,a3,c3,rfl,sV,by lia,B3,by lia,s2.trans s3⟩
  .refine ⟨_,rfl,_,rfl,_,_,rfl,rfl,b,a2,q,c2,_,rfl,B2,by lia,by lia,by lia,λr3 a3 c3 H3 sV yY B3 hc3 s3=>?_⟩
   exact k' _ _ ⟨_,a3,c3,rfl,sV,by lia,B3,by lia,s2.trans s3⟩
 rintro _ H3 ⟨sz,a3,c3,rfl,WT,WS,B3,hc3,s3⟩
 refine ⟨_,rfl,b,a3,q,c3,5,rfl,B3,by lia,by decide,by decide,λwy a4 c4 H4 M7 M6 B4 hc4 s4=>⟨(sl 0),λl hl=>⟨_,_,rfl,?_⟩⟩⟩
 have u4:SB b H H4:=s1.trans (s3.trans s4)
 have k8:H l=none:=Lb u4 B4.at' hl
 have mP:l≠b:=a38 (Zb B4.at' hl)
 have e4:=s4 _ _ tF (s3 _ _ tF e1)
 have zk:l1≠l:=Zb e4 hl
 have L0:(3:Int)<=fK.length:=by lia
 have L1:(fK.length:Int)<=20:=by lia
 refine ⟨_,rfl,_,rfl,by lia,by lia,Fx (lo:=0) (n:=sz.toNat) (λj σ G=>∃ (v7 v8 v9 v10 v11:Option V) (ns:List Int) (a' c':Int),σ=[some (.ref b),some (.int fw),some (.int mt),some (.ref l1),some (.int sz),some (.int wy),some (.ref l),v7,v8,v9,v10,v11]/\G l=some (.lst (ns.map V.int))/\ns.length=j/\j5 9999 ns/\G l1=some (.lst (fK.map V.int))/\aT G b a' q c'/\c'<=c4+2 * (j:Int)/\SB b H G)
  ⟨_,_,_,_,_,[],a4,c4,rfl,Za,rfl,λn hn=>(nomatch hn),by rw [Zc zk]; exact e4,B4.same (Zf hl _),by lia,u4.trans ((Zf hl _).sb b)⟩ ?_ ?_⟩
 .rintro j σ G hj ⟨v7,v8,v9,v10,v11,ns,a',c',rfl,h1,h2,h3,h4,h5,h6,h7⟩
  have OD:(j:Int)<400:=by lia
  refine qo (λv G'=>∃ z DQ c'',v=.int z/\0<=z/\z<=9999/\aT G' b DQ q c''/\c''<=c'+1/\SB b G G') (λQ' k'=>?_) ?_
  .refine DG (λ_ G'=>aq G G') (λWA k''=>?_) ?_
   .refine ⟨_,rfl,(sl 2),λp hp=>⟨p,_,rfl,.inr (bG.of Za),rfl,rfl,_,rfl,?_⟩⟩
    have sp:=Zf hp (.tup [.int 0,.int 4])
    generalize (if false=true then !rm (V.int wy) [V.int 0,V.int 4] else rm (V.int wy) [V.int 0,V.int 4])=cw
    cases cw with
    | true=>exact dh rfl (k'' _ _ sp)
    | false=>exact b9 rfl ⟨_,rfl,rfl,_,rfl,ZJ (λ_=>⟨_,rfl,_,_,rfl,rfl,(by show (0:Int)<3; decide),rfl,_,rfl,k'' _ _ sp⟩) (λ_=>k'' _ _ sp)⟩
   .rintro cb G' sg
    have B':=h5.same sg
    have zF:=sg _ _ h4
    cases cb with
    | false=>exact b9 rfl (k' _ _ ⟨0,a',c',rfl,by decide,by decide,B',by lia,sg.sb b⟩)
    | true =>
     refine dh rfl ⟨_,rfl,_,rfl,_,rfl,l1,_,rfl,.inl (ak.of zF),b,a',q,c',_,rfl,B',by lia,by rw [aAt]; lia,by rw [aAt]; lia,λr8 a8 c8 H8 BZ yX B8 O5 s8=>?_⟩
     rw [aAt] at yX
     obtain ⟨x1,kC,CK⟩:=tR (ns:=fK) BZ yX
     obtain ⟨y0,y1⟩:=bd' _ CK
     exact ⟨l1,_,_,_,rfl,rfl,ak.of (s8 _ _ tF zF),kC,k' _ _ ⟨_,a8,c8,rfl,y0,y1,B8,by lia,(sg.sb b).trans s8⟩⟩
  rintro _ G1 ⟨dr,a1',Ip,rfl,Im,Il,WM,O8,t1⟩
  have g4:=t1 _ _ tF h4
  have g1:=t1 _ _ mP h1
  dsimp only [bW]
  refine hide λuu ee=>?_
  have jj:(fK.map V.int).length=fK.length:=aAt ..
  refine ⟨_,rfl,_,rfl,l1,_,rfl,.inl (ak.of g4),_,_,rfl,rfl,.inl ⟨by decide,by decide⟩,_,_,rfl,rfl,_,_,rfl,rfl,(by show (0:Int)<_; rw [jj]; lia),?_⟩
  dsimp only [bW]
  subst ee
  try dsimp only
  refine hide λuu ee=>?_
  obtain ⟨x2,wK,CJ⟩:∃ x2,cZ (fK.map V.int) (if 2 * (fK.length:Int) - 2 - (0+(j:Int)) % (2 * (fK.length:Int) - 2)<(0+(j:Int)) % (2 * (fK.length:Int) - 2) then 2 * (fK.length:Int) - 2 - (0+(j:Int)) % (2 * (fK.length:Int) - 2) else (0+(j:Int)) % (2 * (fK.length:Int) - 2))=some (.int x2)/\x2∈fK:=by
   have XC:0<=(0+(j:Int)) % (2 * (fK.length:Int) - 2):=oW _ (by lia)
   have XA:(0+(j:Int)) % (2 * (fK.length:Int) - 2)<2 * (fK.length:Int) - 2:=oV _ (by lia)
   generalize (0+(j:Int)) % (2 * (fK.length:Int) - 2)=bk at *
   obtain ⟨Xh,Xg,Xf⟩:=Qk bk (2 * (fK.length:Int) - 2 - bk)
   generalize (if 2 * (fK.length:Int) - 2 - bk<bk then 2 * (fK.length:Int) - 2 - bk else bk)=mi at *
   exact tR (by lia) (by lia)
  obtain ⟨WQ,WO⟩:=bd' _ CJ
  refine ⟨_,rfl,_,rfl,_,rfl,l1,_,rfl,.inl (ak.of g4),_,_,rfl,rfl,.inl ⟨by decide,by decide⟩,_,_,rfl,rfl,_,rfl,_,_,rfl,rfl,_,_,rfl,l1,_,_,_,rfl,rfl,ak.of g4,(by rw [jj]; exact wK),?_⟩
  dsimp only [bW]
  subst ee
  try dsimp only
  obtain ⟨x0,OL,Ob⟩:=tR (ns:=fK) (k:=0) (by decide) (by lia)
  obtain ⟨of0,NK⟩:=bd' _ Ob
  refine qo (λv G'=>∃ z DQ c'',v=.int z/\0<=z/\z<=9999/\aT G' b DQ q c''/\c''<=Ip+1/\SB b G1 G') (λQ' k'=>?_) ?_
  .refine ⟨_,rfl,b,a1',q,Ip,2,rfl,WM,by lia,by decide,by decide,λr9 a9 c9 H9 Nz Ny B9 O4 s9=>⟨rfl,_,rfl,ZJ (λ_=>⟨_,rfl,k' _ _ ⟨_,a9,c9,rfl,Im,Il,B9,by lia,s9⟩⟩) (λ_=>⟨_,rfl,l1,_,_,_,rfl,rfl,ak.of (s9 _ _ tF g4),OL,k' _ _ ⟨_,a9,c9,rfl,of0,NK,B9,by lia,s9⟩⟩)⟩⟩
  rintro _ G2 ⟨ft,a2',DK,rfl,Xv,Xu,WL,O7,t2⟩
  have k4:=t2 _ _ tF g4
  have k1:=t2 _ _ mP g1
  have Og:0<=(0+(j:Int)) % (fK.length:Int):=oW _ (by lia)
  have Of:(0+(j:Int)) % (fK.length:Int)<fK.length:=oV _ (by lia)
  obtain ⟨x3,HB,Oa⟩:=tR (ns:=fK) Og Of
  obtain ⟨My,Mx⟩:=bd' _ Oa
  refine ⟨_,rfl,.inl ⟨rfl,_,ak.of k1⟩,_,rfl,_,rfl,_,rfl,_,rfl,l1,_,rfl,.inl (ak.of k4),_,_,rfl,rfl,(by show (0:Int)<_; rw [jj]; lia),l1,_,_,_,rfl,rfl,ak.of k4,(by rw [jj]; exact HB),?_⟩
  refine Io (te:=yR _ _ _) (λv G'=>∃ z,v=.int z/\0<=z/\z<=9999/\G'=G2) (λQ' k'=>?_) ?_
  .refine ⟨_,rfl,_,_,rfl,rfl,(by show (0:Int)<3; decide),rfl,_,rfl,ZJ (λ_=>⟨_,rfl,k' _ _ ⟨_,rfl,Im,Il,rfl⟩⟩) (λ_=>?_)⟩
   exact ⟨_,rfl,_,rfl,_,rfl,l1,_,rfl,.inl (ak.of k4),_,_,rfl,rfl,(by show (0:Int)<_; rw [jj]; lia),l1,_,_,_,rfl,rfl,ak.of k4,(by rw [jj]; exact HB),k' _ _ ⟨_,rfl,My,Mx,rfl⟩⟩
  rintro _ _ ⟨mid,rfl,Oe,Od,rfl⟩
  obtain ⟨pk,hpk,C4⟩:=vM dr x3 mid x2 ft wy M7 M6
  refine ⟨_,rfl,_,rfl,(sl 5),λp hp=>⟨_,rfl,p,_,_,_,rfl,rfl,ak.of Za,hpk,l,_,_,rfl,rfl,(by rw [Zc (Zb k1 hp)]; exact k1),Zo (by rw [aAt]; lia),?_⟩⟩
  have NG:0<=pk/\pk<=9999:=by rcases C4 with rfl | rfl | rfl | rfl | rfl <;> exact ⟨by lia,by lia⟩
  refine ⟨_,_,_,_,_,ns++[pk],a2',DK,rfl,by rw [Za,awR]; rfl,by rw [aUV,h2]; rfl,λn hn=>?_,?_,(WL.same (Zf hp _)).sb (tW l _ _) (a38 mP),by lia,λe o n' y=>?_⟩
  .rcases aJX.mp hn with h | h
   .exact h3 n h
   .have en:n=pk:=by simpa using h
    subst en; exact NG
  .rw [Zc zk]; exact Zf hp _ _ _ k4
  .rw [Zc (Zb y k8)]
   exact Zf hp _ _ _ (t2 _ _ n' (t1 _ _ n' (h7 _ _ n' y)))
 .rintro σ G ⟨v7,v8,v9,v10,v11,ns,a',c',rfl,h1,h2,h3,h4,h5,h6,h7⟩
  exact ⟨_,rfl,k l ns a' c' G k8 h1 (by lia) h3 h5 (by lia) h7⟩
end
def Sc:V->Prop
 | .int _=>True
 | .bl _=>True
 | .aV=>True
 | .str _=>True
 | _=>False
def Eqv:Nat->Hp->V->V->Prop
 | 0,_,x,y=>x=y/\Sc x
 | n+1,H,x,y=>(x=y/\Sc x)\/∃ (a b:Addr) (xs ys:List V),x=.ref a/\y=.ref b/\((H a=some (.lst xs)/\H b=some (.lst ys))\/(H a=some (.tup xs)/\H b=some (.tup ys)))/\xs.length=ys.length/\xs.length<=1000/\∀ (i:Nat) (u v:V),xs[i]?=some u->ys[i]?=some v->Eqv n H u v
theorem Eqv.same:∀ {n:Nat} {H H':Hp} {x y:V},Eqv n H x y->aq H H'->Eqv n H' x y
 | 0,_,_,_,_,h,_=>h
 | n+1,H,H',x,y,h,s=>by
  rcases h with h | ⟨a,b,xs,ys,h1,h2,h3,h5,h6,h7⟩
  .exact .inl h
  .refine .inr ⟨a,b,xs,ys,h1,h2,?_,h5,h6,λi u v e1 e2=>(h7 i u v e1 e2).same s⟩
   rcases h3 with ⟨h3,h4⟩ | ⟨h3,h4⟩
   .exact .inl ⟨s _ _ h3,s _ _ h4⟩
   .exact .inr ⟨s _ _ h3,s _ _ h4⟩
def Aq (n:Nat):Sp:=λvs H Q _=>∃ x y,vs=[x,y]/\Eqv n H x y/\∀ H',aq H H'->Q (.bl true) H'
theorem yM {H:Hp} {a:Addr} {xs:List V} (h:H a=some (.tup xs)):lO H (.ref a)=some "tuple" := by simp only [lO,h]
theorem yN {H:Hp} {a:Addr} {xs:List V} (h:H a=some (.lst xs)):lO H (.ref a)=some "list" := by simp only [lO,h]
section
theorem JO {n:Nat} {GS:Sp} (kZ:∀ m,n=m+1->GS=Aq m) (F:bO K "_law_same" "_law_same" qx f fd) (T:Txt K mg) (uM:Def P w K mg base "_law_same" n qw GS):aH P w K mg base bI (n+1) f fd qw (Aq n):=by
 refine F.ok kh (λvs H Q E h=>?_) (λcdv A outer st H vs Q E hr h=>?_)
 .obtain ⟨x,y,rfl,_⟩:=h
  rfl
 obtain ⟨x,y,rfl,h,k⟩:=h
 have nd:=kh.nd
 refine ⟨_,(Ze (aO (lD (Zk Lp rfl T.jI ZQ (pc (pv 1) (pc (lu (pc (ZU (v:=.ty "list") rfl T.nU ZY rfl) (pc (ZU (v:=.ty "tuple") rfl T.yK LQ rfl) Zd))) Zd)))) (Ze (aO (PW.pt (pw_or (se (lD (Zk Lp rfl T.jI ZQ (pc (pv 0) (pc (lu (pc (ZU (v:=.ty "list") rfl T.nU ZY rfl) (pc (ZU (v:=.ty "tuple") rfl T.yK LQ rfl) Zd))) Zd))))) (uc (Zu kr (Zk nH rfl T.jI ZQ (pc (pv 0) (pc (ZU (v:=.ty "list") rfl T.nU ZY rfl) Zd))) (Zk nH rfl T.jI ZQ (pc (pv 1) (pc (ZU (v:=.ty "list") rfl T.nU ZY rfl) Zd))) (Zx _))))) (Zj (Zs fk)) Zw)
   (Zj (Zs (sd (nI br (Zk (Zn (K:=K) rfl) rfl T.fZ aTr (pc (pv 0) Zd)) (Zk (Zn (K:=K) rfl) rfl T.fZ aTr (pc (pv 1) Zd)) (Zx _)) (ua (Zk (Lo rfl) rfl T.yI KI (pc (qA (Zy (eV:=(Zg qx)) (oN:=jZ) (N:=["_law_one", "_law_other"]) (own:=2) (js:=[]) (by decide +kernel) rfl rfl) rfl (RV rfl T.uJ (pc (pv 0) (pc (pv 1) Zd))) (λ_ _ _ _ _ _=>(kJ (K:=K) (n:=2) rfl rfl (Zt (bS 0 (show List.Nodup (["_law_one", "_law_other"]:List Str) by decide +kernel)) (Zt (bS 1 (show List.Nodup (["_law_one", "_law_other"]:List Str) by decide +kernel)) kK)))) (λ_ _ _ _ _ _=>(Zm uM hr.m rfl (pc (pv 0) (pc (pv 1) Zd))))) Zd))))))) Zw)
   (Ze (aO (PW.pt (pw_or (ud (Ek (pv 1))) (uc (lD (Zk nH rfl T.jI ZQ (pc (pv 1) (pc (ZU (v:=.ty "str") rfl T.uK Fp rfl) Zd))))))) (Zj (Zs (sd (nI br (pv 0) (pv 1) (Zx _)) (ua (nI br (Zk nH rfl T.jI ZQ (pc (pv 0) (pc (ZU (v:=.ty "str") rfl T.uK Fp rfl) Zd))) (Zk nH rfl T.jI ZQ (pc (pv 1) (pc (ZU (v:=.ty "str") rfl T.uK Fp rfl) Zd))) (Zx _)))))) Zw)
   (Zj (Zs (sd (Zk nH rfl T.jI ZQ (pc (pv 0) (pc (ZU (v:=.ty "int") rfl T.sO AV rfl) Zd))) (sd (nI br (Zk nH rfl T.jI ZQ (pc (pv 0) (pc (ZU (v:=.ty "bool") rfl T.uN FL rfl) Zd))) (Zk nH rfl T.jI ZQ (pc (pv 1) (pc (ZU (v:=.ty "bool") rfl T.uN FL rfl) Zd))) (Zx _)) (ua (nI br (pv 0) (pv 1) (Zx _))))))))),?_⟩
 have split:(x=y/\Sc x)\/∃ (m:Nat) (a b:Addr) (xs ys:List V),n=m+1/\x=.ref a/\y=.ref b/\((H a=some (.lst xs)/\H b=some (.lst ys))\/(H a=some (.tup xs)/\H b=some (.tup ys)))/\xs.length=ys.length/\xs.length<=1000/\∀ (i:Nat) (u v:V),xs[i]?=some u->ys[i]?=some v->Eqv m H u v:=by
  cases n with
  | zero=>exact .inl h
  | succ m =>
   rcases h with h | ⟨a,b,xs,ys,h1,h2,h3,h5,h6,h7⟩
   .exact .inl h
   .exact .inr ⟨m,a,b,xs,ys,rfl,h1,h2,h3,h5,h6,h7⟩
 rcases split with ⟨rfl,hs⟩ | ⟨m,a,b,xs,ys,rfl,rfl,rfl,⟨ha,hb⟩ | ⟨ha,hb⟩,hl,hlen,hi⟩
 .have key:∀ p,H p=none->∀ o,aq H (upd H p o):=λp hp o=>Zf hp o
  cases x with
  | int j =>
   refine ⟨_,rfl,(sl 2),λp hp=>⟨_,_,_,_,p,rfl,Za,rfl,by decide,by decide,_,rfl,b9 (by decide) ?_⟩⟩
   refine ⟨_,rfl,_,rfl,b9 (by simp) ⟨_,rfl,_,_,_,rfl,rfl,by decide,_,rfl,b9 (by decide) ?_⟩⟩
   refine ⟨_,rfl,_,_,_,rfl,rfl,by decide,_,rfl,dh (by decide) ⟨_,rfl,_,_,_,rfl,rfl,by decide,_,rfl,_,_,_,rfl,rfl,by decide,rfl,_,rfl,dh (by decide) ⟨_,rfl,_,rfl,rfl,?_⟩⟩⟩
   rw [aGg rfl]
   exact k _ (key p hp _)
  | bl j =>
   refine ⟨_,rfl,(sl 2),λp hp=>⟨_,_,_,_,p,rfl,Za,rfl,by decide,by decide,_,rfl,b9 (by decide) ?_⟩⟩
   refine ⟨_,rfl,_,rfl,b9 (by simp) ⟨_,rfl,_,_,_,rfl,rfl,by decide,_,rfl,b9 (by decide) ?_⟩⟩
   refine ⟨_,rfl,_,_,_,rfl,rfl,by decide,_,rfl,dh (by decide) ⟨_,rfl,_,_,_,rfl,rfl,by decide,_,rfl,_,_,_,rfl,rfl,by decide,rfl,_,rfl,dh (by decide) ⟨_,rfl,_,rfl,rfl,?_⟩⟩⟩
   rw [aGg rfl]
   exact k _ (key p hp _)
  | aV =>
   refine ⟨_,rfl,(sl 2),λp hp=>⟨_,_,_,_,p,rfl,Za,rfl,by decide,by decide,_,rfl,b9 (by decide) ?_⟩⟩
   refine ⟨_,rfl,_,rfl,dh (by simp) (dh rfl ⟨_,rfl,_,rfl,rfl,_,rfl,dh (by decide) ⟨_,rfl,_,_,_,rfl,rfl,by decide,_,rfl,_,_,_,rfl,rfl,by decide,rfl,?_⟩⟩)⟩
   rw [aGg rfl]
   exact k _ (key p hp _)
  | str z =>
   refine ⟨_,rfl,(sl 2),λp hp=>⟨_,_,_,_,p,rfl,Za,rfl,by decide,by decide,_,rfl,b9 (by decide) ?_⟩⟩
   refine ⟨_,rfl,_,rfl,b9 (by simp) ⟨_,rfl,_,_,_,rfl,rfl,by decide,_,rfl,dh (by decide) ⟨_,rfl,_,rfl,rfl,_,rfl,dh (by simp) ⟨_,rfl,_,_,_,rfl,rfl,by decide,_,rfl,_,_,_,rfl,rfl,by decide,rfl,?_⟩⟩⟩⟩
   rw [aGg rfl]
   exact k _ (key p hp _)
  | _=>exact hs.elim
 .have he:=kZ m rfl
  subst he
  refine ⟨_,rfl,(sl 2),λp hp=>?_⟩
  have s1:=Zf hp (.tup [.ty "list",.ty "tuple"])
  refine ⟨_,_,_,_,p,rfl,Za,yN (s1 _ _ hb),by decide,by decide,_,rfl,dh (by decide) ?_⟩
  refine ⟨_,rfl,(sl 2),λp2 hp2=>?_⟩
  have s2:=s1.trans (Zf hp2 (.tup [.ty "list",.ty "tuple"]))
  refine ⟨_,_,_,_,p2,rfl,Za,yN (s2 _ _ ha),by decide,by decide,_,rfl,b9 (by decide) ?_⟩
  refine ⟨_,rfl,_,_,_,rfl,yN (s2 _ _ ha),by decide,_,rfl,_,_,_,rfl,yN (s2 _ _ hb),by decide,rfl,_,rfl,b9 (by decide) ?_⟩
  refine ⟨_,rfl,a,_,rfl,.inl (ak.of (s2 _ _ ha)),_,rfl,b,_,rfl,.inl (ak.of (s2 _ _ hb)),rfl,_,rfl,?_⟩
  generalize upd (upd H p (.tup [.ty "list",.ty "tuple"])) p2 (.tup [.ty "list",.ty "tuple"])=H2 at *
  refine dh (by rw [hl]; simp) ?_
  refine ⟨_,rfl,_,rfl,a,b,rfl,.inl ⟨_,_,ak.of (s2 _ _ ha),ak.of (s2 _ _ hb),λl hl'=>?_⟩⟩
  have k8:H l=none:=s2.free hl'
  refine TR (K:=K) (a:=a) (b:=b) (xs:=xs) (zs:=ys) (l:=l) hl (λi zs σ H'=>∃ v0 v1:Option V,σ=[v0,v1]/\zs=(List.replicate i true).map V.bl/\H' l=some (.lst zs)/\aq H H')
   ⟨none,none,rfl,by simp,Za,s2.trans (Zf hl' _)⟩ (λi zs σ H' _ ⟨_,_,_,_,_,q⟩=>⟨ak.of (q _ _ ha),ak.of (q _ _ hb)⟩) ?_ ?_
  .rintro i x z t zs σ H' Df hxi CW wJ ⟨v0,v1,rfl,rfl,h1,s3⟩ ht
   have s4:=s3.trans (Zf ht (.tup [x,z]))
   have p8:l≠t:=Zb h1 ht
   refine ⟨t,_,rfl,bG.of Za,rfl,_,_,rfl,_,_,rfl,rfl,?_⟩
   refine ⟨_,rfl,_,rfl,x,z,rfl,(hi i x z hxi CW).same s4,λH5 s5=>?_⟩
   refine eX.of (aRN (Zo hlen)) Df wJ (s5 _ _ (by rw [Zc p8]; exact h1)) ⟨_,_,rfl,by rw [aeG,awR]; rfl,Za,?_⟩
   intro c o e
   rw [Zc (Zb e k8)]
   exact s5 _ _ (s4 _ _ e)
  .rintro zs σ H' wJ ⟨v0,v1,rfl,rfl,h1,s3⟩
   refine ⟨l,_,rfl,ak.of h1,?_⟩
   rw [show (List.replicate xs.length true).all id=true by rw [aql]; intro z hz; rw [(List.mem_replicate.mp hz).2]; rfl]
   exact k H' s3
 .have he:=kZ m rfl
  subst he
  refine ⟨_,rfl,(sl 2),λp hp=>?_⟩
  have s1:=Zf hp (.tup [.ty "list",.ty "tuple"])
  refine ⟨_,_,_,_,p,rfl,Za,yM (s1 _ _ hb),by decide,by decide,_,rfl,dh (by decide) ?_⟩
  refine ⟨_,rfl,(sl 2),λp2 hp2=>?_⟩
  have s2:=s1.trans (Zf hp2 (.tup [.ty "list",.ty "tuple"]))
  refine ⟨_,_,_,_,p2,rfl,Za,yM (s2 _ _ ha),by decide,by decide,_,rfl,b9 (by decide) ?_⟩
  refine ⟨_,rfl,_,_,_,rfl,yM (s2 _ _ ha),by decide,_,rfl,_,_,_,rfl,yM (s2 _ _ hb),by decide,rfl,_,rfl,b9 (by decide) ?_⟩
  refine ⟨_,rfl,a,_,rfl,.inr (bG.of (s2 _ _ ha)),_,rfl,b,_,rfl,.inr (bG.of (s2 _ _ hb)),rfl,_,rfl,?_⟩
  generalize upd (upd H p (.tup [.ty "list",.ty "tuple"])) p2 (.tup [.ty "list",.ty "tuple"])=H2 at *
  refine dh (by rw [hl]; simp) ?_
  refine ⟨_,rfl,_,rfl,a,b,rfl,.inr ⟨_,_,bG.of (s2 _ _ ha),bG.of (s2 _ _ hb),λl hl'=>?_⟩⟩
  have k8:H l=none:=s2.free hl'
  refine US (K:=K) (a:=a) (b:=b) (xs:=xs) (zs:=ys) (l:=l) hl (λi zs σ H'=>∃ v0 v1:Option V,σ=[v0,v1]/\zs=(List.replicate i true).map V.bl/\H' l=some (.lst zs)/\aq H H')
   ⟨none,none,rfl,by simp,Za,s2.trans (Zf hl' _)⟩ (λi zs σ H' _ ⟨_,_,_,_,_,q⟩=>⟨bG.of (q _ _ ha),bG.of (q _ _ hb)⟩) ?_ ?_
  .rintro i x z t zs σ H' Df hxi CW wJ ⟨v0,v1,rfl,rfl,h1,s3⟩ ht
   have s4:=s3.trans (Zf ht (.tup [x,z]))
   have p8:l≠t:=Zb h1 ht
   refine ⟨t,_,rfl,bG.of Za,rfl,_,_,rfl,_,_,rfl,rfl,?_⟩
   refine ⟨_,rfl,_,rfl,x,z,rfl,(hi i x z hxi CW).same s4,λH5 s5=>?_⟩
   refine eX.of (aRN (Zo hlen)) Df wJ (s5 _ _ (by rw [Zc p8]; exact h1)) ⟨_,_,rfl,by rw [aeG,awR]; rfl,Za,?_⟩
   intro c o e
   rw [Zc (Zb e k8)]
   exact s5 _ _ (s4 _ _ e)
  .rintro zs σ H' wJ ⟨v0,v1,rfl,rfl,h1,s3⟩
   refine ⟨l,_,rfl,ak.of h1,?_⟩
   rw [show (List.replicate xs.length true).all id=true by rw [aql]; intro z hz; rw [(List.mem_replicate.mp hz).2]; rfl]
   exact k H' s3
def BJ:Sp:=λ_ _ _ _=>False
theorem K9 (F:bO K "_law_same" "_law_same" qx f fd) (bi:Binds K fd qw []) (m:mg "_law_same" = some (.ref f)) (T:Txt K mg):∀ n,Def P w K mg base "_law_same" (n+1) qw (Aq n)
 | 0=>by
  have D0:Def P w K mg base "_law_same" 0 qw BJ:=⟨f,fd,⟨λ_ _ _ _ h=>h.elim,λ_ _ _ _ _ _ _ _ _ _ _ _ _ h=>h.elim⟩,m,F.kp,bi⟩
  exact ⟨f,fd,JO (n:=0) (λ_ h=>by lia) F T D0,m,F.kp,bi⟩
 | n+1=>⟨f,fd,JO (n:=n+1) (λj h=>by cases (show j=n by lia); rfl) F T (K9 F bi m T n),m,F.kp,bi⟩
end
def bg:Option Int->V
 | none=>.aV
 | some g=>.int g
theorem gN {i:Nat} {v:V} {σ:St} {H:Hp} {Q:St->Hp->Prop} (h:Q (σ.set i (some v)) H):bW i v σ H Q:=h
theorem E6 {b:Bool} {A B:Prop} (h1:b=true->A) (h2:¬ b=true->B):if b=true then A else B:=by
 by_cases h:b=true
 .rw [atn h]; exact h1 h
 .rw [amU h]; exact h2 h
theorem sA {ns:List Int} {i:Nat} {x:V} (h:(ns.map V.int)[i]?=some x):∃ z,ns[i]?=some z/\x=V.int z:=by
 rw [aYu] at h
 cases e:ns[i]? with
 | none=>rw [e] at h; cases h
 | some z=>rw [e] at h; exact ⟨z,rfl,(ado h).symm⟩
theorem Ao (z:Int) (ns:List Int):rm (.int z) (ns.map V.int)=decide (z∈ns):=by
 unfold rm
 rw [any_map,aOQ,ayr,a8m]
 constructor
 .rintro ⟨x,hx,e⟩
  have:x=z:=by simpa [nZ] using e
  rw [← this]; exact hx
 .intro h
  exact ⟨z,h,by simp [nZ]⟩
structure Rec where
 b:Int
 t0:Int
 t1:Int
 n:Int
def az (S:List Rec) (b:Int):Option Rec:=S.find? λr=>decide (r.b=b)
def aN (S:List Rec) (q:Rec):List Rec:=if S.any (λr=>decide (r.b=q.b)) then S.map (λr=>if r.b=q.b then q else r) else S++[q]
def bw (S:List Rec) (b:Int):List Rec:=S.filter λr=>decide (r.b≠b)
def rR (ru:Str):List Int:=if ru = "old" then [1] else if ru = "come" then [0] else [2,0]
def fld (r:Rec) (k:Int):Int:=if k=0 then r.t0 else if k=1 then r.t1 else r.n
def cH (ru:Str) (r:Rec):List Int:=(rR ru).map (fld r)
def Zl (sh b:Int) (S:List Rec):List Rec:=S.filter λr=>decide (V.int (r.b % sh)=V.int (b % sh))
def gc (ru:Str) (S:List Rec):Nat:=argBest (λi j=>HT.lexLt ((S.map λr=>cH ru r++[r.b]).getD i []) ((S.map λr=>cH ru r++[r.b]).getD j [])) (S.length - 1)
def bf (sh pl:Int) (ru:Str) (S:List Rec) (b:Int):Option Int:=if ((Zl sh b S).length:Int)<pl then none else ((Zl sh b S)[gc ru (Zl sh b S)]?).map (·.b)
def Uq (S:List Rec):Prop:=(S.map (·.b)).Nodup
theorem Uq.rec:∀ {S:List Rec},Uq S->∀ r∈S,az S r.b=some r
 | [],_,_,h=>nomatch h
 | q :: S,u,r,h=>by
  have u':(q.b :: S.map (·.b)).Nodup:=u
  obtain ⟨u1,u2⟩:=aG7.mp u'
  rcases ac0.mp h with rfl | h
  .unfold az
   rw [avh (by simp)]
  .have ne:¬ q.b=r.b:=λe=>u1 (by rw [e]; exact aiy.mpr ⟨r,h,rfl⟩)
   unfold az
   rw [aQ2 (by simpa using ne)]
   exact Uq.rec u2 r h
theorem Qj (S:List Rec) (q:Rec):(S.map λr=>if r.b=q.b then q else r).map (·.b)=S.map (·.b):=by
 rw [aPs]
 refine ars λr _=>?_
 show (if r.b=q.b then q else r).b=r.b
 split
 .rename_i e; exact e.symm
 .rfl
theorem Uq.put {S:List Rec} (u:Uq S) (q:Rec):Uq (aN S q):=by
 unfold aN
 by_cases e:(S.any λr=>decide (r.b=q.b))=true
 .rw [atn e]
  show ((S.map λr=>if r.b=q.b then q else r).map (·.b)).Nodup
  rw [Qj]; exact u
 .rw [amU e]
  show ((S++[q]).map (·.b)).Nodup
  rw [awR]
  refine lT u λm=>e ?_
  obtain ⟨r,hr,z⟩:=aiy.mp m
  exact apZ.mpr ⟨r,hr,by simpa using z⟩
theorem Uq.drop {S:List Rec} (u:Uq S) (b:Int):Uq (bw S b):=aDm (List.Sublist.map _ aN5) u
theorem JN (S:List Rec) (q:Rec):(aN S q).length<=S.length+1:=by
 unfold aN
 split
 .rw [aAt]; lia
 .simp
theorem Sz (S:List Rec) (b:Int):(bw S b).length<=S.length:=aKi ..
def bC (S:List Rec):Option Int->List Rec
 | none=>S
 | some g=>bw S g
def aL (sh pl:Int) (ru:Str) (i:Nat) (b:Int) (S:List Rec):List Rec×(Bool×Option Int) :=
 match az S b with
 | some r=>(aN S ⟨b,r.t0,i,r.n+1⟩,(true,none))
 | none=>(aN (bC S (bf sh pl ru S b)) ⟨b,i,i,0⟩,(false,bf sh pl ru S b))
def aK (sh pl:Int) (ru:Str) (row:List Int):Nat->List Rec×List (Bool×Option Int)
 | 0=>([],[])
 | i+1=>((aL sh pl ru i (row.getD i 0) (aK sh pl ru row i).1).1,(aK sh pl ru row i).2++[(aL sh pl ru i (row.getD i 0) (aK sh pl ru row i).1).2])
def gr (sh pl:Int) (ru:Str) (row:List Int):List (Bool×Option Int):=(aK sh pl ru row row.length).2
theorem Uq.less {S:List Rec} (u:Uq S) (g:Option Int):Uq (bC S g):=by
 cases g with
 | none=>exact u
 | some g=>exact u.drop g
theorem Ua (S:List Rec) (g:Option Int):(bC S g).length<=S.length:=by
 cases g with
 | none=>exact aNS _
 | some g=>exact Sz S g
theorem JM (sh pl:Int) (ru:Str) (i:Nat) (b:Int) (S:List Rec) (u:Uq S):Uq (aL sh pl ru i b S).1/\(aL sh pl ru i b S).1.length<=S.length+1:=by
 unfold aL
 cases az S b with
 | some r=>exact ⟨u.put _,JN _ _⟩
 | none=>exact ⟨(u.less _).put _,ay9 (JN _ _) (aBE (Ua _ _) 1)⟩
theorem DV (sh pl:Int) (ru:Str) (row:List Int) (i:Nat):Uq (aK sh pl ru row i).1/\(aK sh pl ru row i).1.length<=i/\(aK sh pl ru row i).2.length=i:=by
 induction i with
 | zero=>exact ⟨awg,aNS _,rfl⟩
 | succ i ih =>
  obtain ⟨h1,h2⟩:=JM sh pl ru i (row.getD i 0) (aK sh pl ru row i).1 ih.1
  refine ⟨h1,ay9 h2 (aBE ih.2.1 1),?_⟩
  show ((aK sh pl ru row i).2++_).length=_
  rw [aUV,ih.2.2]; rfl
def Told (H:Hp) (l:Addr) (fs:List (Bool×Option Int)):Prop:=∃ ah:List Addr,H l=some (.lst (ah.map V.ref))/\ah.length=fs.length/\∀ (m:Nat) (ad:Addr) (f:Bool×Option Int),ah[m]?=some ad->fs[m]?=some f->H ad=some (.tup [.bl f.1,bg f.2])
theorem sy (sh pl:Int) (ru:Str) (row:List Int):(gr sh pl ru row).length=row.length:=(DV sh pl ru row row.length).2.2
def tpos:Pos:=(match (ZL ZC).head? with
 | some (.If _ (.Return (some (.Call _ _ (⟨_,.Lambda _ _ _ pos,_⟩ :: _) _)) _ :: _) _ _)=>pos
 | _=>⟨0,0,0,0⟩)
abbrev lX:Str := "Room.going" ++ ".<locals>." ++ "<lambda>"
def Tb (K:W.Frag) (H:Hp):Prop:=H (tabOf K "Room" "going")=some (.iK tpos lX)
theorem Tb.same {K:W.Frag} {H H':Hp} (t:Tb K H) (s:aq H H'):Tb K H':=s _ _ t
def pP (K:W.Frag):Sp:=λvs H Q _=>∃ (sh pl:Int) (ru:Str) (a:Addr) (row:List Int),vs=[.int sh,.int pl,.str ru,.ref a]/\ak K H a (row.map V.int)/\1<=sh/\sh<=64/\1<=pl/\pl<=16/\nJ ru/\row.length<=400/\j5 9999 row/\Tb K H /\
 ∀ (l:Addr) (H':Hp),H l=none->aq H H'->Told H' l (gr sh pl ru row)->Q (.ref l) H'
theorem su:∀ a:List Int,HT.lexLt a a=false
 | []=>rfl
 | x :: xs=>by rw [HT.aI,atn rfl]; exact su xs
theorem Av:∀ {a b c:List Int},HT.lexLt a b=true->HT.lexLt b c=true->HT.lexLt a c=true
 | [],[],_,h,_=>by rw [HT.cD] at h; cases h
 | [],_ :: _,[],_,h=>by rw [HT.aW] at h; cases h
 | [],_ :: _,_ :: _,_,_=>rfl
 | _ :: _,[],_,h,_=>by rw [HT.aW] at h; cases h
 | _ :: _,_ :: _,[],_,h=>by rw [HT.aW] at h; cases h
 | x :: xs,y :: ys,z :: zs,h1,h2=>by
  rw [HT.aI] at h1 h2 ⊢
  by_cases e1:x=y
  .subst e1
   rw [atn rfl] at h1
   by_cases e2:x=z
   .subst e2
    rw [atn rfl] at h2 ⊢
    exact Av h1 h2
   .rw [amU e2] at h2 ⊢; exact h2
  .rw [amU e1] at h1
   have l1:=a6b h1
   by_cases e2:y=z
   .subst e2
    rw [amU e1]; exact h1
   .rw [amU e2] at h2
    have l2:=a6b h2
    rw [amU (by lia)]
    exact aGg (by lia)
theorem JL (f:Nat->List Int):∀ k,argBest (λi j=>HT.lexLt (f i) (f j)) k<=k/\∀ j,j<=k->HT.lexLt (f j) (f (argBest (λi j=>HT.lexLt (f i) (f j)) k))=false
 | 0=>⟨aNS _,λj hj=>by
   have:j=0:=by lia
   subst this; exact su _⟩
 | k+1=>by
  obtain ⟨h1,h2⟩:=JL f k
  unfold argBest
  by_cases c:HT.lexLt (f (k+1)) (f (argBest (λi j=>HT.lexLt (f i) (f j)) k))=true
  .rw [atn c]
   refine ⟨aNS _,λj hj=>?_⟩
   by_cases e:j=k+1
   .subst e; exact su _
   .cases q:HT.lexLt (f j) (f (k+1)) with
    | false=>rfl
    | true =>
     have:=Av q c
     rw [h2 j (by lia)] at this; cases this
  .rw [amU c]
   refine ⟨by lia,λj hj=>?_⟩
   by_cases e:j=k+1
   .subst e; simpa using c
   .exact h2 j (by lia)
theorem LM {sh pl:Int} {ru:Str} {S:List Rec} {b:Int} (hpl:1<=pl) (wU:¬ ((Zl sh b S).length:Int)<pl):∃ r∈Zl sh b S,bf sh pl ru S b=some r.b/\∀ r'∈Zl sh b S,HT.lexLt (cH ru r'++[r'.b]) (cH ru r++[r.b])=false:=by
 unfold bf
 rw [amU wU]
 generalize Zl sh b S=T at *
 have pos:0<T.length:=by lia
 obtain ⟨h1,h2⟩:=JL (λi=>(T.map λr=>cH ru r++[r.b]).getD i []) (T.length - 1)
 have e:argBest (λi j=>HT.lexLt ((T.map λr=>cH ru r++[r.b]).getD i []) ((T.map λr=>cH ru r++[r.b]).getD j [])) (T.length - 1)=gc ru T:=rfl
 rw [e] at h1 h2
 have hlt:gc ru T<T.length:=by lia
 have at':∀ i (h:i<T.length),(T.map λr=>cH ru r++[r.b]).getD i []=cH ru T[i]++[T[i].b]:=λi h=>by
  rw [aPI,aYu,aDi h]; rfl
 refine ⟨T[gc ru T],a2P hlt,by rw [aDi hlt]; rfl,λr' hr'=>?_⟩
 obtain ⟨j,hj,rfl⟩:=getElem_of_mem hr'
 have q:=h2 j (by lia)
 rw [at' j hj,at' _ hlt] at q
 exact q
def dd:List Int->List Int
 | []=>[]
 | x :: xs=>x :: (dd xs).filter λy=>decide (y≠x)
theorem cO:∀ {xs:List Int} {y:Int},y∈dd xs↔y∈xs
 | [],y=>Iff.rfl
 | x :: xs,y=>by
  unfold dd
  rw [asf,asf,mem_filter,cO (xs:=xs)]
  constructor
  .rintro (h | h)
   .exact .inl h
   .exact .inr h.1
  .rintro (h | h)
   .exact .inl h
   .by_cases e:y=x
    .exact .inl e
    .exact .inr ⟨h,by simpa using e⟩
theorem f9:∀ xs:List Int,(dd xs).Nodup
 | []=>awg
 | x :: xs=>by
  unfold dd
  refine aG7.mpr ⟨λh=>?_,aDm aN5 (f9 xs)⟩
  have:=(afi.mp h).2
  simp at this
def Zr (sh a b:Int):Bool:=decide (V.int (a % sh)=V.int (b % sh))
theorem aA {sh a b:Int}:Zr sh a b=true↔a % sh=b % sh:=by
 unfold Zr
 rw [a8m]
 exact ⟨λh=>by injection h,λh=>by rw [h]⟩
def hist (sh:Int) (row:List Int) (b:Int) (i:Nat):List Int:=(row.take i).reverse.filter λx=>Zr sh x b
theorem LI {sh:Int} {row:List Int} {i:Nat} {z:Int} (h:row[i]?=some z) (b:Int):hist sh row b (i+1)=if Zr sh z b=true then z :: hist sh row b i else hist sh row b i:=by
 unfold hist
 rw [avq,h,aPA]
 show List.filter _ (z :: _)=_
 rw [aTO]
 rfl
theorem VA {sh:Int} {row:List Int} {b c:Int} (h:Zr sh b c=true) (i:Nat):hist sh row b i=hist sh row c i:=by
 unfold hist
 congr 1
 funext x
 rw [aOQ,aA,aA,aA.mp h]
def cX (sh:Int) (pl:Nat) (row:List Int) (b:Int) (i:Nat):List Int:=(dd (hist sh row b i)).take pl
def jC (S:List Rec) (x:Int):Int:=match az S x with
 | some r=>r.t1
 | none => -1
def dM (S:List Rec):List Int:=S.map (·.b)
theorem aE {S:List Rec} {b:Int}:az S b=none↔b∉dM S:=by
 unfold az dM
 rw [List.find?_eq_none]
 constructor
 .intro h m
  obtain ⟨r,hr,e⟩:=aiy.mp m
  exact h r hr (by simpa using e)
 .intro h r hr e
  exact h (aiy.mpr ⟨r,hr,by simpa using e⟩)
theorem ye {S:List Rec} {b:Int} {r:Rec} (h:az S b=some r):r∈S/\r.b=b:=by
 unfold az at h
 exact ⟨List.mem_of_find?_eq_some h,by simpa using List.find?_some h⟩
theorem Au {S:List Rec} {q:Rec} (x:Int):az (aN S q) x=if x=q.b then some q else az S x:=by
 unfold aN
 by_cases e:(S.any λr=>decide (r.b=q.b))=true
 .rw [atn e]
  induction S with
  | nil=>simp at e
  | cons r S ih =>
   rw [aWO]
   by_cases er:r.b=q.b
   .rw [atn er]
    by_cases ex:x=q.b
    .rw [atn ex]
     unfold az
     rw [avh (by simpa using ex.symm)]
    .rw [amU ex]
     have e1:az (q :: S.map λr=>if r.b=q.b then q else r) x=az (S.map λr=>if r.b=q.b then q else r) x:=by
      unfold az
      rw [aQ2 (by simpa using a38 ex)]
     have e2:az (r :: S) x=az S x:=by
      unfold az
      rw [aQ2 (by rw [er]; simpa using a38 ex)]
     rw [e1,e2]
     clear e ih e1 e2
     induction S with
     | nil=>rfl
     | cons s S ih2 =>
      rw [aWO]
      by_cases es:s.b=q.b
      .rw [atn es]
       unfold az at ih2 ⊢
       rw [aQ2 (by simpa using a38 ex),aQ2 (by rw [es]; simpa using a38 ex)]
       exact ih2
      .rw [amU es]
       unfold az at ih2 ⊢
       by_cases zJ:s.b=x
       .rw [avh (by simpa using zJ),avh (by simpa using zJ)]
       .rw [aQ2 (by simpa using zJ),aQ2 (by simpa using zJ)]
        exact ih2
   .rw [amU er]
    rw [any_cons] at e
    have e':(S.any λr=>decide (r.b=q.b))=true:=by
     rcases a09 _ _ |>.mp e with h | h
     .exact absurd (a6b h) er
     .exact h
    have ih':=ih e'
    unfold az at ih' ⊢
    by_cases nY:r.b=x
    .rw [avh (by simpa using nY),avh (by simpa using nY),amU (by rw [← nY]; exact er)]
    .rw [aQ2 (by simpa using nY),aQ2 (by simpa using nY)]
     exact ih'
 .rw [amU e]
  unfold az
  rw [List.find?_append]
  by_cases ex:x=q.b
  .rw [atn ex]
   have:S.find? (λr=>decide (r.b=x))=none:=by
    rw [List.find?_eq_none]
    intro r hr hx
    exact e (apZ.mpr ⟨r,hr,by rw [← ex]; exact hx⟩)
   rw [this,Option.none_or]
   rw [avh (by simpa using ex.symm)]
  .rw [amU ex]
   have:List.find? (λr=>decide (r.b=x)) [q]=none:=by
    rw [aQ2 (by simpa using a38 ex)]; rfl
   rw [this,Option.or_none]
theorem FA {S:List Rec} {g:Int} (x:Int):az (bw S g) x=if x=g then none else az S x:=by
 by_cases ex:x=g
 .rw [atn ex,aE]
  intro m
  obtain ⟨r,hr,e⟩:=aiy.mp m
  have:=(afi.mp hr).2
  simp [e,ex] at this
 .rw [amU ex]
  induction S with
  | nil=>rfl
  | cons r S ih =>
   unfold bw az at ih ⊢
   rw [aTO]
   by_cases er:r.b=g
   .rw [amU (by simp [er]),aQ2 (by rw [er]; simpa using a38 ex)]
    exact ih
   .rw [atn (by simpa using er)]
    by_cases nY:r.b=x
    .rw [avh (by simpa using nY),avh (by simpa using nY)]
    .rw [aQ2 (by simpa using nY),aQ2 (by simpa using nY)]
     exact ih
theorem Sy {sh:Int} {row:List Int} {b:Int} {i:Nat} {x:Int} (h:x∈hist sh row b i):Zr sh x b=true:=(afi.mp h).2
theorem Am {sh:Int} {pl:Nat} {row:List Int} {b:Int} {i:Nat} {x:Int} (h:x∈cX sh pl row b i):Zr sh x b=true:=Sy (cO.mp (mem_of_mem_take h))
theorem IS (sh:Int) (pl:Nat) (row:List Int) (b:Int) (i:Nat):(cX sh pl row b i).Nodup:=aDm (take_sublist _ _) (f9 _)
theorem qz {sh:Int} {pl:Nat} {row:List Int} {b c:Int} (h:Zr sh b c=true) (i:Nat):cX sh pl row b i=cX sh pl row c i:=by unfold cX; rw [VA h]
theorem LO {sh a b:Int} (h:Zr sh a b=true):Zr sh b a=true:=aA.mpr (aA.mp h).symm
theorem ZX (sh a:Int):Zr sh a a=true:=aA.mpr rfl
theorem Vz {l:List Int} {z:Int} (hn:l.Nodup) (h:z∈l):(l.filter λy=>decide (y≠z)).length+1=l.length:=by
 induction l with
 | nil=>cases h
 | cons x xs ih =>
  obtain ⟨h1,h2⟩:=aG7.mp hn
  rw [aTO]
  by_cases e:x=z
  .rw [amU (by simp [e])]
   have:(xs.filter λy=>decide (y≠z))=xs:=by
    rw [List.filter_eq_self]
    intro y hy
    have:y≠z:=λq=>h1 (by rw [e,← q]; exact hy)
    simpa using this
   rw [this,bc9]
  .rw [atn (by simpa using e)]
   rcases ac0.mp h with q | q
   .exact absurd q.symm e
   .rw [bc9,bc9,ih h2 q]
theorem T9 {l:List Int} {z:Int} (h:z∉l):(l.filter λy=>decide (y≠z))=l:=by
 rw [List.filter_eq_self]
 intro y hy
 have:y≠z:=λq=>h (by rw [← q]; exact hy)
 simpa using this
theorem Qi {D:List Int} {z:Int} {n:Nat} (hn:D.Nodup) (h:z∈D.take (n+1)):(z :: D.filter λy=>decide (y≠z)).take (n+1)=z :: (D.take (n+1)).filter λy=>decide (y≠z):=by
 rw [List.take_succ_cons]
 congr 1
 have e:D.filter (λy=>decide (y≠z))=(D.take (n+1)).filter (λy=>decide (y≠z))++(D.drop (n+1)).filter (λy=>decide (y≠z)):=by
  rw [← aXR,a6I]
 have l1:=Vz (aDm (take_sublist _ _) hn) h
 have l2:(D.take (n+1)).length<=n+1:=List.length_take_le _ _
 rw [e]
 by_cases c:(D.take (n+1)).length=n+1
 .rw [List.take_append_of_le_length (by lia),a6G (by lia)]
 .have d0:D.drop (n+1)=[]:=by
   rw [a9v] at c l2
   exact a7N (by lia)
  rw [d0,aCy,amK,a6G (by lia)]
theorem Q4 {D:List Int} {z:Int} {n:Nat} (h:z∉D.take (n+1)):(z :: D.filter λy=>decide (y≠z)).take (n+1)=z :: D.take n:=by
 rw [List.take_succ_cons]
 congr 1
 have e:D.filter (λy=>decide (y≠z))=D.take (n+1)++(D.drop (n+1)).filter (λy=>decide (y≠z)):=by
  conv=>lhs; rw [← a6I (n+1) D,aXR,T9 h]
 rw [e]
 by_cases c:(D.take (n+1)).length=n+1
 .rw [List.take_append_of_le_length (by lia),take_take,a3I (by lia)]
 .have l2:(D.take (n+1)).length<=n+1:=List.length_take_le _ _
  have d0:D.drop (n+1)=[]:=by
   rw [a9v] at c l2
   exact a7N (by lia)
  have dl:D.length<=n:=by rw [a9v] at c l2; lia
  rw [d0,aCy,amK,a6G (l:=D) (by lia)]
structure sE (sh:Int) (n:Nat) (row:List Int) (S:List Rec) (i:Nat):Prop where
 uq:Uq S
 mem:∀ x,x∈dM S↔x∈cX sh (n+1) row x i
 ord:∀ b,(cX sh (n+1) row b i).Pairwise λx y=>jC S y<jC S x
 old:∀ x∈dM S,jC S x<i
theorem uo {S:List Rec} {q:Rec} (x:Int):x∈dM (aN S q)↔x=q.b\/x∈dM S:=by
 have h:=Au (S:=S) (q:=q) x
 constructor
 .intro m
  by_cases e:x=q.b
  .exact .inl e
  .rw [amU e] at h
   refine .inr ?_
   by_cases c:x∈dM S
   .exact c
   .rw [aE.mpr c] at h
    exact absurd m (aE.mp h)
 .intro m
  by_cases c:x∈dM (aN S q)
  .exact c
  .rw [aE.mpr c] at h
   by_cases e:x=q.b
   .rw [atn e] at h; cases h
   .rw [amU e] at h
    rcases m with m | m
    .exact absurd m e
    .exact absurd m (aE.mp h.symm)
theorem E5 {S:List Rec} {g:Int} (x:Int):x∈dM (bw S g)↔x∈dM S/\x≠g:=by
 have h:=FA (S:=S) (g:=g) x
 constructor
 .intro m
  by_cases e:x=g
  .rw [atn e] at h
   exact absurd m (aE.mp h)
  .rw [amU e] at h
   refine ⟨?_,e⟩
   by_cases c:x∈dM S
   .exact c
   .rw [aE.mpr c] at h
    exact absurd m (aE.mp h)
 .rintro ⟨m,e⟩
  rw [amU e] at h
  by_cases c:x∈dM (bw S g)
  .exact c
  .rw [aE.mpr c] at h
   exact absurd m (aE.mp h.symm)
theorem Em {S:List Rec} {q:Rec} (x:Int):jC (aN S q) x=if x=q.b then q.t1 else jC S x:=by
 unfold jC
 rw [Au]
 by_cases e:x=q.b
 .rw [atn e,atn e]
 .rw [amU e,amU e]
theorem Sx {S:List Rec} {g:Int} {x:Int} (h:x≠g):jC (bw S g) x=jC S x:=by
 unfold jC
 rw [FA,amU h]
theorem sE.turn {sh:Int} {n:Nat} {row:List Int} {S S':List Rec} {i:Nat} {z:Int} {A:List Int} (L:sE sh n row S i) (hz:row[i]?=some z) (u':Uq S')
  (hM:cX sh (n+1) row z (i+1)=z :: A) (hA:∀ y∈A,y∈cX sh (n+1) row z i/\y≠z) (hp:A.Pairwise λx y=>jC S y<jC S x)
  (hb:∀ x,x∈dM S'↔x=z\/(x∈dM S/\(Zr sh x z=true->x∈A))) (ht:∀ x,x∈dM S'->jC S' x=if x=z then (i:Int) else jC S x):sE sh n row S' (i+1):=by
 have other:∀ b,¬ Zr sh z b=true->cX sh (n+1) row b (i+1)=cX sh (n+1) row b i:=λb c=>by unfold cX; rw [LI hz,amU c]
 have same:∀ b,Zr sh z b=true->cX sh (n+1) row b (i+1)=z :: A:=λb c=>by rw [← hM]; exact (qz c _).symm
 have uI:z∈dM S':=(hb z).mpr (.inl rfl)
 have qv:∀ y∈A,y∈dM S/\y∈dM S'/\y≠z:=λy hy=>by
  obtain ⟨h1,h2⟩:=hA y hy
  have yb:y∈dM S:=(L.mem y).mpr (by rw [qz (Am h1)]; exact h1)
  exact ⟨yb,(hb y).mpr (.inr ⟨yb,λ_=>hy⟩),h2⟩
 refine ⟨u',λx=>?_,λb=>?_,λx hx=>?_⟩
 .by_cases c:Zr sh z x=true
  .rw [same x c,asf,hb x]
   constructor
   .rintro (h | ⟨h1,h2⟩)
    .exact .inl h
    .exact .inr (h2 (LO c))
   .rintro (h | h)
    .exact .inl h
    .exact .inr ⟨(qv x h).1,λ_=>h⟩
  .rw [other x c,← L.mem x,hb x]
   constructor
   .rintro (h | ⟨h1,_⟩)
    .exact absurd (by rw [h]; exact ZX sh z) c
    .exact h1
   .exact λh=>.inr ⟨h,λq=>absurd (LO q) c⟩
 .by_cases c:Zr sh z b=true
  .rw [same b c]
   refine List.pairwise_cons.mpr ⟨λy hy=>?_,?_⟩
   .rw [ht y (qv y hy).2.1,amU (qv y hy).2.2,ht z uI,atn rfl]
    exact L.old y (qv y hy).1
   .refine List.Pairwise.imp_of_mem (λ{x y} hx hy h=>?_) hp
    rw [ht x (qv x hx).2.1,amU (qv x hx).2.2,ht y (qv y hy).2.1,amU (qv y hy).2.2]
    exact h
  .rw [other b c]
   refine List.Pairwise.imp_of_mem (λ{x y} hx hy h=>?_) (L.ord b)
   have go:∀ w∈cX sh (n+1) row b i,w∈dM S'/\w≠z:=λw hw=>by
    have wb:=Am hw
    have wz:w≠z:=λq=>c (by rw [← q]; exact wb)
    exact ⟨(hb w).mpr (.inr ⟨(L.mem w).mpr (by rw [qz wb]; exact hw),λq=>absurd (aA.mpr ((aA.mp q).symm.trans (aA.mp wb))) c⟩),wz⟩
   rw [ht x (go x hx).1,amU (go x hx).2,ht y (go y hy).1,amU (go y hy).2]
   exact h
 .rw [ht x hx]
  by_cases e:x=z
  .rw [atn e]; lia
  .rw [amU e]
   rcases (hb x).mp hx with q | ⟨q,_⟩
   .exact absurd q e
   .have:=L.old x q; lia
theorem sE.step {sh:Int} {n:Nat} {row:List Int} {S:List Rec} {i:Nat} {z:Int} (L:sE sh n row S i) (hz:row[i]?=some z):sE sh n row (aL sh ((n:Int)+1) "old" i z S).1 (i+1)/\(aL sh ((n:Int)+1) "old" i z S).2.1=decide (z∈cX sh (n+1) row z i):=by
 have hD:cX sh (n+1) row z (i+1)=(z :: (dd (hist sh row z i)).filter λy=>decide (y≠z)).take (n+1):=by
  unfold cX
  rw [LI hz,atn (ZX sh z)]
  rfl
 have uS:=(JM sh ((n:Int)+1) "old" i z S L.uq).1
 unfold aL at uS ⊢
 cases e:az S z with
 | some r =>
  obtain ⟨rS,rz⟩:=ye e
  have zb:z∈dM S:=by
   by_cases c:z∈dM S
   .exact c
   .rw [aE.mpr c] at e; cases e
  have zl:=(L.mem z).mp zb
  rw [e] at uS
  refine ⟨L.turn (A:=(cX sh (n+1) row z i).filter λy=>decide (y≠z)) hz uS ?_ (λy hy=>?_) ?_ (λx=>?_) (λx _=>?_),?_⟩
  .rw [hD]; exact Qi (f9 _) zl
  .exact ⟨(afi.mp hy).1,by simpa using (afi.mp hy).2⟩
  .exact agN aN5 (L.ord z)
  .rw [uo]
   constructor
   .rintro (h | h)
    .exact .inl h
    .by_cases ex:x=z
     .exact .inl ex
     .exact .inr ⟨h,λq=>afi.mpr ⟨by rw [← qz q]; exact (L.mem x).mp h,by simpa using ex⟩⟩
   .rintro (h | ⟨h,_⟩)
    .exact .inl h
    .exact .inr h
  .rw [Em]
  .exact (aGg zl).symm
 | none =>
  have zb:z∉dM S:=aE.mp e
  have zl:z∉cX sh (n+1) row z i:=λq=>zb ((L.mem z).mpr q)
  rw [e] at uS
  have hout:cX sh (n+1) row z (i+1)=z :: (dd (hist sh row z i)).take n:=by rw [hD]; exact Q4 zl
  have CU:∀ y,y∈(Zl sh z S).map (·.b)↔y∈cX sh (n+1) row z i:=λy=>by
   constructor
   .intro m
    obtain ⟨r,hr,rfl⟩:=aiy.mp m
    obtain ⟨r1,r2⟩:=afi.mp hr
    rw [← qz (show Zr sh r.b z=true from r2)]
    exact (L.mem r.b).mp (aiy.mpr ⟨r,r1,rfl⟩)
   .intro m
    have yz:=Am m
    obtain ⟨r,hr,rfl⟩:=aiy.mp ((L.mem y).mpr (by rw [qz yz]; exact m))
    exact aiy.mpr ⟨r,afi.mpr ⟨hr,yz⟩,rfl⟩
  have N3:((Zl sh z S).map (·.b)).Nodup:=aDm (List.Sublist.map _ aN5) L.uq
  have wo:(Zl sh z S).length=(cX sh (n+1) row z i).length:=by
   have:=((aGM N3 (IS sh (n+1) row z i)).mpr CU).length_eq
   rwa [aAt] at this
  refine ⟨?_,(aWh zl).symm⟩
  by_cases c:((Zl sh z S).length:Int)<(n:Int)+1
  .have hg:bf sh ((n:Int)+1) "old" S z=none:=by unfold bf; rw [atn c]
   rw [hg] at uS ⊢
   have dl:(dd (hist sh row z i)).length<=n:=by
    rw [wo] at c
    unfold cX at c
    rw [a9v] at c; lia
   have eL:(dd (hist sh row z i)).take n=cX sh (n+1) row z i:=by unfold cX; rw [a6G dl,a6G (by lia)]
   rw [eL] at hout
   refine L.turn (A:=cX sh (n+1) row z i) hz uS hout (λy hy=>⟨hy,λq=>zl (q ▸ hy)⟩) (L.ord z) (λx=>?_) (λx _=>by rw [Em]; rfl)
   show x∈dM (aN S _)↔_
   rw [uo]
   constructor
   .rintro (h | h)
    .exact .inl h
    .exact .inr ⟨h,λq=>by rw [← qz q]; exact (L.mem x).mp h⟩
   .rintro (h | ⟨h,_⟩)
    .exact .inl h
    .exact .inr h
  .obtain ⟨r,hr,hg,hmin⟩:=LM (ru := "old") (by lia) c
   rw [hg] at uS ⊢
   have dl:n+1<=(dd (hist sh row z i)).length:=by
    rw [wo] at c
    unfold cX at c
    rw [a9v] at c; lia
   have hlt:n<(dd (hist sh row z i)).length:=by lia
   have eM:cX sh (n+1) row z i=(dd (hist sh row z i)).take n++[(dd (hist sh row z i))[n]]:=by unfold cX; rw [avq,aDi hlt]; rfl
   have key:∀ q:Rec,cH "old" q=[q.t1]:=λq=>rfl
   have tr:∀ q∈S,jC S q.b=q.t1:=λq hq=>by unfold jC; rw [L.uq.rec q hq]
   have rS:r∈S:=(afi.mp hr).1
   have rl:r.b∈cX sh (n+1) row z i:=(CU r.b).mp (aiy.mpr ⟨r,hr,rfl⟩)
   have vQ:=L.ord z
   have Hq:=IS sh (n+1) row z i
   rw [eM] at vQ Hq
   obtain ⟨o1,o2,o3⟩:=a1x.mp vQ
   obtain ⟨n1,n2,n3⟩:=List.nodup_append.mp Hq
   have er:r.b=(dd (hist sh row z i))[n]:=by
    rw [eM] at rl
    rcases aJX.mp rl with q | q
    .have h1:=o3 r.b q _ (aBr.mpr rfl)
     have gl:(dd (hist sh row z i))[n]∈cX sh (n+1) row z i:=by rw [eM]; exact ap3 _ (aBr.mpr rfl)
     obtain ⟨r',hr',PB⟩:=aiy.mp ((CU _).mpr gl)
     have h2:=hmin r' hr'
     rw [key,key,amV,amV,HT.aI] at h2
     rw [← PB,tr r' (afi.mp hr').1,tr r rS] at h1
     rw [amU (by lia)] at h2
     have:=of_decide_eq_false h2
     lia
    .exact aBr.mp q
   refine L.turn (A:=(dd (hist sh row z i)).take n) hz uS hout (λy hy=>?_) o1 (λx=>?_) (λx hx=>?_)
   .have:y∈cX sh (n+1) row z i:=by rw [eM]; exact aCj _ hy
    exact ⟨this,λq=>zl (q ▸ this)⟩
   .show x∈dM (aN (bw S r.b) _)↔_
    rw [uo,E5]
    constructor
    .rintro (h | ⟨h1,h2⟩)
     .exact .inl h
     .refine .inr ⟨h1,λq=>?_⟩
      have:=(L.mem x).mp h1
      rw [qz q,eM] at this
      rcases aJX.mp this with y | y
      .exact y
      .exact absurd ((aBr.mp y).trans er.symm) h2
    .rintro (h | ⟨h1,h2⟩)
     .exact .inl h
     .by_cases ex:x=r.b
      .have q:Zr sh x z=true:=by rw [ex]; exact Am rl
       have:=h2 q
       rw [ex,er] at this
       exact absurd rfl (n3 _ this _ (aBr.mpr rfl))
      .exact .inr ⟨h1,ex⟩
   .show jC (aN (bw S r.b) _) x=_
    rw [Em]
    by_cases ex:x=z
    .rw [atn ex,atn ex]
    .rw [amU ex,amU ex]
     have hx':x∈dM (aN (bw S r.b) ⟨z,i,i,0⟩):=hx
     rw [uo,E5] at hx'
     rcases hx' with q | q
     .exact absurd q ex
     .exact Sx q.2
theorem JK (sh:Int) (n:Nat) (row:List Int):∀ i,i<=row.length->sE sh n row (aK sh ((n:Int)+1) "old" row i).1 i/\(aK sh ((n:Int)+1) "old" row i).2.map (·.1)=(List.range i).map λj=>decide (row.getD j 0∈cX sh (n+1) row (row.getD j 0) j)
 | 0,_=>by
  refine ⟨⟨awg,λx=>?_,λb=>?_,λx hx=>?_⟩,rfl⟩
  .constructor
   .intro h; cases h
   .intro h
    have:x∈hist sh row x 0:=cO.mp (mem_of_mem_take h)
    unfold hist at this
    simp at this
  .have:cX sh (n+1) row b 0=[]:=by unfold cX hist; rw [take_zero]; rfl
   rw [this]; exact List.Pairwise.nil
  .cases hx
 | i+1,h=>by
  obtain ⟨L,e⟩:=JK sh n row i (by lia)
  have hz:row[i]?=some (row.getD i 0):=by rw [aPI,aDi (by lia)]; rfl
  obtain ⟨h1,h2⟩:=L.step hz
  refine ⟨h1,?_⟩
  show ((aK sh ((n:Int)+1) "old" row i).2++[(aL sh ((n:Int)+1) "old" i (row.getD i 0) (aK sh ((n:Int)+1) "old" row i).1).2]).map (·.1)=_
  rw [awR,e,ahI,awR]
  exact a0A (λx=>_++[x]) h2
def Zi (sh s:Int) (there:List Int):List Int:=there.filter λo=>decide (o % sh=s)
theorem ZH (sh s b:Int) (there:List Int):Zi sh s (there++[b])=if b % sh=s then Zi sh s there++[b] else Zi sh s there:=by
 unfold Zi
 rw [aXR]
 by_cases h:b % sh=s
 .rw [atn h,aTO,atn (by simpa using h),aCy]
 .rw [amU h,aTO,amU (by simpa using h),aCy,amK]
theorem ZD (sh s g:Int) (there:List Int):Zi sh s (there.erase g)=(Zi sh s there).erase g:=by
 unfold Zi
 rw [List.erase_filter]
theorem ao {sh s b:Int} {there:List Int}:b∈Zi sh s there↔b∈there/\b % sh=s:=by
 unfold Zi
 rw [mem_filter,a8m]
structure fN (H:Hp) (ls:Addr) (ah:List Addr) (sh:Int) (there:List Int):Prop where
 top:H ls=some (.lst (ah.map V.ref))
 len:ah.length=sh.toNat
 nd:ah.Nodup
 off:ls∉ah
 at_:∀ (s:Nat) (ad:Addr),ah[s]?=some ad->H ad=some (.lst ((Zi sh s there).map V.int))
theorem fN.other {H:Hp} {ls:Addr} {ah:List Addr} {sh:Int} {there:List Int} (h:fN H ls ah sh there) {a:Addr} (o:HO) (h1:a≠ls) (h2:a∉ah):fN (upd H a o) ls ah sh there :=
 ⟨by rw [Zc (a38 h1)]; exact h.top,h.len,h.nd,h.off,λi ad e=>by rw [Zc (λz:ad=a=>h2 (z ▸ abg e))]; exact h.at_ i ad e⟩
theorem fN.put {H:Hp} {ls:Addr} {ah:List Addr} {sh:Int} {there jF:List Int} (h:fN H ls ah sh there) {s0:Nat} {ad:Addr} {ns:List Int} (e0:ah[s0]?=some ad) (hn:Zi sh s0 jF=ns) (ho:∀ s:Nat,s≠s0->Zi sh s jF=Zi sh s there):fN (upd H ad (.lst (ns.map V.int))) ls ah sh jF:=by
 refine ⟨by rw [Zc (λz:ls=ad=>h.off (z ▸ abg e0))]; exact h.top,h.len,h.nd,h.off,λs a e=>?_⟩
 by_cases hs:s=s0
 .subst hs
  rw [e0] at e
  cases e
  rw [Za,hn]
 .have ne:a≠ad:=λz=>by
   subst z
   exact hs ((List.getElem?_inj (aw7.mp e).1 h.nd).mp (e.trans e0.symm))
  rw [Zc ne,ho s hs]
  exact h.at_ s a e
theorem fN.get {H:Hp} {ls:Addr} {ah:List Addr} {sh:Int} {there:List Int} (h:fN H ls ah sh there) {k:Int} (h0:0<=k) (h1:k<sh):∃ (s:Nat) (ad:Addr),(s:Int)=k/\ah[s]?=some ad/\cZ (ah.map V.ref) k=some (.ref ad)/\H ad=some (.lst ((Zi sh k there).map V.int)):=by
 have hk:k.toNat<ah.length:=by rw [h.len]; lia
 have e:ah[k.toNat]?=some ah[k.toNat]:=aDi hk
 have ek:((k.toNat:Nat):Int)=k:=by lia
 have q:cZ (ah.map V.ref) ((k.toNat:Nat):Int)=some (.ref ah[k.toNat]):=ZS (by rw [aYu,e]; rfl)
 have q2:=h.at_ _ _ e
 rw [ek] at q q2
 exact ⟨k.toNat,_,ek,e,q,q2⟩
theorem fN.one {H:Hp} {ls:Addr} {ah:List Addr} {sh:Int} {there:List Int} (h:fN H ls ah sh there) {ad:Addr} (m:ad∈ah):∃ xs,H ad=some (.lst xs):=by
 obtain ⟨s,e⟩:=bd1 m
 exact ⟨_,h.at_ s ad e⟩
def eN (sh pl:Int) (ru:Str) (ls du:Addr):List (Str×V):=aM "uses" (.ref du) (aM "standing" (.ref ls) (aM "rule" (.str ru) (aM "places" (.int pl) (aM "shelves" (.int sh) []))))
theorem xQ (sh pl:Int) (ru:Str) (ls du:Addr):(eN sh pl ru ls du).lookup ("uses" : Str)=some (.ref du):=by
 unfold eN
 rw [Zq,atn rfl]
theorem VF (sh pl:Int) (ru:Str) (ls du:Addr):(eN sh pl ru ls du).lookup ("standing" : Str)=some (.ref ls):=by
 unfold eN
 rw [Zq,amU (by decide +kernel),Zq,atn rfl]
theorem JJ (sh pl:Int) (ru:Str) (ls du:Addr):(eN sh pl ru ls du).lookup ("rule" : Str)=some (.str ru):=by
 unfold eN
 rw [Zq,amU (by decide +kernel),Zq,amU (by decide +kernel),Zq,atn rfl]
theorem T8 (sh pl:Int) (ru:Str) (ls du:Addr):(eN sh pl ru ls du).lookup ("places" : Str)=some (.int pl):=by
 unfold eN
 rw [Zq,amU (by decide +kernel),Zq,amU (by decide +kernel),Zq,amU (by decide +kernel),Zq,atn rfl]
theorem Vy (sh pl:Int) (ru:Str) (ls du:Addr):(eN sh pl ru ls du).lookup ("shelves" : Str)=some (.int sh):=by
 unfold eN
 rw [Zq,amU (by decide +kernel),Zq,amU (by decide +kernel),Zq,amU (by decide +kernel),Zq,amU (by decide +kernel),Zq,atn rfl]
theorem cy (sh pl:Int) (ru:Str) (ls du:Addr) {m:Str} (h1:¬ m = "uses" := by decide +kernel) (h2:¬ m = "standing" := by decide +kernel) (h3:¬ m = "rule" := by decide +kernel) (h4:¬ m = "places" := by decide +kernel) (h5:¬ m = "shelves" := by decide +kernel):(eN sh pl ru ls du).lookup m=none:=by
 unfold eN
 rw [Zq,amU h1,Zq,amU h2,Zq,amU h3,Zq,amU h4,Zq,amU h5]
 rfl
structure aF (K:W.Frag) (H:Hp) (p:Addr) (sh pl:Int) (ru:Str) (ls:Addr) (ah:List Addr) (du:Addr) (seq:List Int) (us:Int->Int) (n:Nat):Prop where
 ob:∃ dx,H p=some (.ins (aD K "Room") dx (eN sh pl ru ls du))
 st:fN H ls ah sh seq
 dc:∃ kvs,H du=some (.dK kvs)/\kvs.length<=n/\∀ b,aR kvs (Sum.inl b:Key)=if b∈seq then some (.int (us b)) else none
 nd:seq.Nodup
 s0:1<=sh
 s1:sh<=64
def SR (ah:List Addr) (du:Addr) (H H':Hp):Prop:=∀ b o,H b=some o->b≠du->b∉ah->H' b=some o
theorem SR.of {ah:List Addr} {du:Addr} {H H':Hp} (s:aq H H'):SR ah du H H':=λb o h _ _=>s b o h
theorem SR.trans {ah:List Addr} {du:Addr} {H H1 H2:Hp} (a:SR ah du H H1) (b:SR ah du H1 H2):SR ah du H H2:=λc o h n1 n2=>b c o (a c o h n1 n2) n1 n2
section
variable {K:W.Frag} {H H':Hp} {p:Addr} {sh pl:Int} {ru:Str} {ls:Addr} {ah:List Addr} {du:Addr} {seq:List Int} {us:Int->Int} {n:Nat}
theorem aF.off (R:aF K H p sh pl ru ls ah du seq us n):p≠du/\p∉ah/\ls≠du/\ls∉ah/\du∉ah/\p≠ls:=by
 obtain ⟨dx,h1⟩:=R.ob
 obtain ⟨kvs,h2,_⟩:=R.dc
 refine ⟨λz=>?_,λz=>?_,λz=>?_,R.st.off,λz=>?_,λz=>?_⟩
 .rw [z,h2] at h1; cases h1
 .obtain ⟨xs,e⟩:=R.st.one z
  rw [e] at h1; cases h1
 .have e:=R.st.top
  rw [z,h2] at e; cases e
 .obtain ⟨xs,e⟩:=R.st.one z
  rw [e] at h2; cases h2
 .have e:=R.st.top
  rw [← z,h1] at e; cases e
theorem aF.same (R:aF K H p sh pl ru ls ah du seq us n) (s:aq H H'):aF K H' p sh pl ru ls ah du seq us n:=by
 obtain ⟨dx,h1⟩:=R.ob
 obtain ⟨kvs,h2,h3⟩:=R.dc
 exact ⟨⟨dx,s _ _ h1⟩,⟨s _ _ R.st.top,R.st.len,R.st.nd,R.st.off,λi ad e=>s _ _ (R.st.at_ i ad e)⟩,⟨kvs,s _ _ h2,h3⟩,R.nd,R.s0,R.s1⟩
theorem SR.keep {o:HO} {b:Addr} (s:SR ah du H H') (R:aF K H p sh pl ru ls ah du seq us n) (h:H b=some o) (n1:∀ kvs,o≠.dK kvs) (n2:∀ xs,o≠.lst xs):H' b=some o:=by
 refine s _ _ h (λz=>?_) λz=>?_
 .obtain ⟨kvs,e,_⟩:=R.dc
  rw [z,e] at h
  exact n1 kvs (ado h).symm
 .obtain ⟨xs,e⟩:=R.st.one z
  rw [e] at h
  exact n2 xs (ado h).symm
theorem aF.vv (R:aF K H p sh pl ru ls ah du seq us n) (b:Int):∃ (s:Nat) (ad:Addr),(s:Int)=b % sh/\ah[s]?=some ad/\cZ (ah.map V.ref) (b % sh)=some (.ref ad)/\H ad=some (.lst ((Zi sh (b % sh) seq).map V.int)):=by
 have h0:=R.s0
 exact R.st.get (agB _ (by lia)) (aDG _ (by lia))
end
section
def sj:Sp:=λvs H Q _=>∃ sh b:Int,vs=[.int sh,.int b]/\1<=sh/\Q (.int (b % sh)) H
theorem VE (F:bO K "shelf_of" "shelf_of" FI f fd) (T:Txt K mg):aH P w K mg base bI 1 f fd ZZ sj:=by
 refine F.ok fT (λvs H Q E h=>?_) (λcdv A outer st H vs Q E hr h=>?_)
 .obtain ⟨sh,b,rfl,_⟩:=h
  rfl
 obtain ⟨sh,b,rfl,h0,k⟩:=h
 have nd:=fT.nd
 refine ⟨_,(Zj (Zs (aa i7 (pv 1) (pv 0)))),?_⟩
 exact ⟨_,rfl,_,rfl,_,_,rfl,rfl,(by show 0<sh; lia),k⟩
def j8 (K:W.Frag):Sp:=λvs H Q _=>∃ (p:Addr) (b sh pl:Int) (ru:Str) (ls:Addr) (ah:List Addr) (du:Addr) (seq:List Int) (us:Int->Int) (n:Nat),vs=[.ref p,.int b]/\aF K H p sh pl ru ls ah du seq us n/\Q (.bl (decide (b∈seq))) H
theorem VD (F:bO K "has" "Room.has" FF f fd) (T:Txt K mg):aH P w K mg base bI 1 f fd yf (j8 K):=by
 refine F.ok fX (λvs H Q E h=>?_) (λcdv A outer st H vs Q E hr h=>?_)
 .obtain ⟨p,b,sh,pl,ru,ls,ah,du,seq,us,n,rfl,_⟩:=h
  rfl
 obtain ⟨p,b,sh,pl,ru,ls,ah,du,seq,us,n,rfl,R,k⟩:=h
 have nd:=fX.nd
 have hu:=cY hr
 refine ⟨_,(Zj (Zs (Jq (Rl hu (pv 1) (oq (K:=K) rfl (pv 0) rfl))))),?_⟩
 obtain ⟨dx,h1⟩:=R.ob
 obtain ⟨kvs,h2,h3,h4⟩:=R.dc
 refine ⟨_,rfl,_,rfl,p,_,dx,_,_,rfl,h1,T.fj,T.tD,xQ ..,du,_,rfl,eU.k (k:=Sum.inl b) h2,?_⟩
 rw [h4 b]
 by_cases c:b∈seq
 .rw [atn c]
  rw [aGg c] at k
  exact k
 .rw [amU c]
  rw [aWh c] at k
  exact k
def xP (K:W.Frag):Sp:=λvs H Q _=>∃ (p:Addr) (b sh pl:Int) (ru:Str) (ls:Addr) (ah:List Addr) (du:Addr) (seq:List Int) (us:Int->Int) (n:Nat),vs=[.ref p,.int b]/\aF K H p sh pl ru ls ah du seq us n /\
 ∀ (s:Nat) (ad:Addr),(s:Int)=b % sh->ah[s]?=some ad->H ad=some (.lst ((Zi sh (b % sh) seq).map V.int))->Q (.ref ad) H
theorem Wl (F:bO K "mates" "Room.mates" FQ f fd) (T:Txt K mg) (iB:Def P w K mg base "shelf_of" 1 ZZ sj):aH P w K mg base bI 2 f fd uA (xP K):=by
 refine F.ok dZ (λvs H Q E h=>?_) (λcdv A outer st H vs Q E hr h=>?_)
 .obtain ⟨p,b,sh,pl,ru,ls,ah,du,seq,us,n,rfl,_⟩:=h
  rfl
 obtain ⟨p,b,sh,pl,ru,ls,ah,du,seq,us,n,rfl,R,k⟩:=h
 have nd:=dZ.nd
 refine ⟨_,(Zj (Zs (aG (Zp (K:=K) rfl) (oq (K:=K) rfl (pv 0) rfl) (Zm iB hr.m rfl (pc (oq (K:=K) rfl (pv 0) rfl) (pc (pv 1) Zd))) (λ_ _=>rfl)))),?_⟩
 obtain ⟨dx,h1⟩:=R.ob
 obtain ⟨s,ad,e1,e2,e3,e4⟩:=R.vv b
 exact ⟨_,rfl,p,_,dx,_,_,rfl,h1,T.fj,T.G4,VF ..,_,rfl,p,_,dx,_,_,rfl,h1,T.fj,T.G0,Vy ..,_,rfl,sh,b,rfl,R.s0,ls,_,_,_,rfl,rfl,ak.of R.st.top,e3,k s ad e1 e2 e4⟩
def DU (K:W.Frag):Sp:=λvs H Q _=>∃ (p:Addr) (b sh pl:Int) (ru:Str) (ls:Addr) (ah:List Addr) (du:Addr) (seq:List Int) (us:Int->Int) (n:Nat),vs=[.ref p,.int b]/\aF K H p sh pl ru ls ah du seq us n/\b∈seq/\Q .aV H
theorem Wb (F:bO K "need" "Room.need" F5 f fd) (T:Txt K mg) (oF:dQ P w K mg base (aD K "Room") "has" 1 yf (j8 K)):aH P w K mg base bI 2 f fd AQ (DU K):=by
 refine F.ok fc (λvs H Q E h=>?_) (λcdv A outer st H vs Q E hr h=>?_)
 .obtain ⟨p,b,sh,pl,ru,ls,ah,du,seq,us,n,rfl,_⟩:=h
  rfl
 obtain ⟨p,b,sh,pl,ru,ls,ah,du,seq,us,n,rfl,R,hb,k⟩:=h
 have nd:=fc.nd
 refine ⟨_,(Zj (aO (se (lD (ZN oF hr.m T.fj (pv 0) (pc (pv 1) Zd)))) (Zj mE) Zw)),?_⟩
 obtain ⟨dx,h1⟩:=R.ob
 refine ⟨_,rfl,p,dx,_,rfl,h1,cy ..,_,rfl,p,b,sh,pl,ru,ls,ah,du,seq,us,n,rfl,R,?_⟩
 rw [aGg hb]
 exact ⟨_,rfl,b9 rfl k⟩
end
section
def El (K:W.Frag):Sp:=λvs H Q _=>∃ (p m:Addr) (ms:List Int) (sh pl:Int) (ru:Str) (ls:Addr) (ah:List Addr) (du:Addr) (seq:List Int) (us:Int->Int) (n:Nat),vs=[.ref p,.ref m]/\aF K H p sh pl ru ls ah du seq us n/\Tb K H/\H m=some (.lst (ms.map V.int))/\ms.length<64/\ms.Nodup/\(∀ b∈ms,b∈seq) /\
 ∀ (D:Addr) (H':Hp) (os:List Int),H D=none->aq H H'->H' D=some (.lst (os.map V.int))->os.Perm ms->(ru = "few" -> os.Pairwise (sI us ms))->(ru ≠ "few" -> os=ms)->Q (.ref D) H'
theorem Wk {f tp cg:Addr} {fd:FuncData} (F:bO K "going" "Room.going" ZC f fd) (hfc:fd.code=.ref cg) (htp:tabOf K "Room" "going" = tp) (hch:W.codeHdIn K cg tp=true) (bm:BMod base mg) (T:Txt K mg):aH P w K mg base bI 2 f fd yc (El K):=by
 refine F.NI d7 (λvs H Q E h=>?_) (λcdv A outer st H vs Q E O2 hr h=>?_)
 .obtain ⟨p,m,ms,sh,pl,ru,ls,ah,du,seq,us,n,rfl,_⟩:=h
  rfl
 obtain ⟨p,m,ms,sh,pl,ru,ls,ah,du,seq,us,n,rfl,R,tb,hm,h64,hnd,hin,k⟩:=h
 have nd:=d7.nd
 have hu:=cY hr
 have hc0:cdv=.ref cg:=O2.symm.trans hfc
 refine ⟨_,(Ze (aO (Zu br (oq (K:=K) rfl (pv 0) rfl) sf (Zx _)) (Zj (Zs (Tn (X:=(jm bI P w K mg base bR "Room.going" (Zg ZC) f cdv A outer st H E).qQ) (K:=K) (P:=tp) (c0:=cg) rfl hr rfl rfl T.sZ (To (eV:=(Zg ZC)) (oN:=bR) (x := "board") (fr:=["self"]) (js:=[0]) (by decide +kernel) rfl rfl) hc0 hch bm rfl rfl rfl (λ_ _ _ _ _=>rfl) (pv 1) (λ_ _ _ _ _=>(J5 (Ra hr) (oq (K:=K) rfl (pv 1) rfl) (pv 0) (λ_ _=>rfl)))))) Zw)
   (Zj (Zs (yi (F3 (K:=K) rfl) rfl T.nU ZY (pc (pv 1) Zd))))),?_⟩
 obtain ⟨dx,h1⟩:=R.ob
 obtain ⟨kvs,h2,h3,h4⟩:=R.dc
 refine ⟨_,rfl,p,_,dx,_,_,rfl,h1,T.fj,T.Ct,JJ ..,rfl,_,rfl,?_⟩
 refine ZJ (λc=>?_) (λc=>?_)
 .have c':ru = "few" := by injection c
  have tb':H tp=some (.iK tpos lX):=by
   have t:=tb
   unfold Tb at t
   rw [htp] at t
   exact t
  refine ⟨_,rfl,m,ms,us,rfl,ak.of hm,h64,hnd,tb',λz hz H2 sm=>?_,λD H' os hD sm hl po so=>k D H' os hD sm hl po (λ_=>so) λz=>absurd c' z⟩
  have v:=h4 z
  rw [atn (hin z hz)] at v
  exact ⟨_,rfl,p,_,dx,_,_,rfl,sm _ _ h1,T.fj,T.tD,xQ ..,_,rfl,du,_,rfl,(by have q:=eU.k (k:=Sum.inl z) (sm _ _ h2); rw [v] at q; exact q),rfl,rfl⟩
 .have c':¬ ru = "few" := λz=>c (by rw [z])
  exact ⟨_,rfl,m,_,rfl,.inl (ak.of hm),λD hD=>k D _ ms hD (Zf hD _) Za (List.Perm.refl _) (λz=>absurd z c') λ_=>rfl⟩
theorem Sw {kvs:List (Key×V)} {k:Key} (j:Key):aR (cz kvs k) j=if j=k then none else aR kvs j:=by
 induction kvs with
 | nil=>by_cases e:j=k <;> simp [cz,aR,e]
 | cons q r ih =>
  by_cases e:q.1=k
  .rw [Up e,ih]
   by_cases c:j=k
   .rw [atn c,atn c]
   .rw [amU c,amU c,ZK (λz=>c (z.symm.trans e))]
  .rw [Uo e]
   by_cases c:q.1=j
   .rw [ZM c,amU (λz=>e (c.trans z)),ZM c]
   .rw [ZK c,ih,ZK c]
theorem T7 (kvs:List (Key×V)) (k:Key):(cz kvs k).length<=kvs.length:=aKi ..
def IQ (K:W.Frag):Sp:=λvs H Q _=>∃ (p:Addr) (b sh pl:Int) (ru:Str) (ls:Addr) (ah:List Addr) (du:Addr) (seq:List Int) (us:Int->Int) (n:Nat),vs=[.ref p,.int b]/\aF K H p sh pl ru ls ah du seq us n/\b∈seq /\
 ∀ H',aF K H' p sh pl ru ls ah du (seq.erase b) us n->SR ah du H H'->Q .aV H'
theorem Wa (F:bO K "drop" "Room.drop" F8 f fd) (T:Txt K mg) (tu:dQ P w K mg base (aD K "Room") "need" 2 AQ (DU K)) (lP:dQ P w K mg base (aD K "Room") "mates" 2 uA (xP K)):aH P w K mg base bI 3 f fd F7 (IQ K):=by
 refine F.ok fh (λvs H Q E h=>?_) (λcdv A outer st H vs Q E hr h=>?_)
 .obtain ⟨p,b,sh,pl,ru,ls,ah,du,seq,us,n,rfl,_⟩:=h
  rfl
 obtain ⟨p,b,sh,pl,ru,ls,ah,du,seq,us,n,rfl,R,hb,k⟩:=h
 have nd:=fh.nd
 refine ⟨_,(Ze (Zz (ZN tu hr.m T.fj (pv 0) (pc (pv 1) Zd)))
   (Ze (Zz (jt (K:=K) rfl (bK aqK a3t aEM Fl (ZN lP hr.m T.fj (pv 0) (pc (pv 1) Zd)) (pc (pv 1) Zd))))
   (Zj (Zz (Tw (oq (K:=K) rfl (pv 0) rfl) (pv 1) ⟨rfl,rfl,rfl,rfl⟩))))),?_⟩
 obtain ⟨dx,h1⟩:=R.ob
 obtain ⟨kvs,h2,h3,h4⟩:=R.dc
 obtain ⟨o1,o2,o3,o4,o5,o6⟩:=R.off
 refine ⟨_,rfl,p,dx,_,rfl,h1,cy ..,_,rfl,p,b,sh,pl,ru,ls,ah,du,seq,us,n,rfl,R,hb,?_⟩
 refine ⟨_,rfl,p,dx,_,rfl,h1,cy ..,_,rfl,p,b,sh,pl,ru,ls,ah,du,seq,us,n,rfl,R,λs ad es hs had=>?_⟩
 have mQ:ad∈ah:=abg hs
 have hmem:b∈Zi sh (b % sh) seq:=ao.mpr ⟨hb,rfl⟩
 refine ⟨.inl ⟨rfl,_,ak.of had⟩,_,rfl,ad,_,b,rfl,rfl,had,hmem,?_⟩
 have S1:fN (upd H ad (.lst (((Zi sh (b % sh) seq).erase b).map V.int))) ls ah sh (seq.erase b):=by
  refine R.st.put hs ?_ λs' hs'=>?_
  .rw [ZD,es]
  .rw [ZD]
   exact aet λm=>hs' (by have:=(ao.mp m).2; lia)
 have np:p≠ad:=λz=>o2 (z ▸ mQ)
 have N4:du≠ad:=λz=>o5 (z ▸ mQ)
 have oQ:upd H ad (.lst (((Zi sh (b % sh) seq).erase b).map V.int)) p=some (.ins (aD K "Room") dx (eN sh pl ru ls du)):=by rw [Zc np]; exact h1
 have h2':upd H ad (.lst (((Zi sh (b % sh) seq).erase b).map V.int)) du=some (.dK kvs):=by rw [Zc N4]; exact h2
 refine ⟨_,rfl,p,_,dx,_,_,rfl,oQ,T.fj,T.tD,xQ ..,du,rfl,.inl ⟨_,.inl h2'⟩,_,rfl,kvs,Sum.inl b,_,h2',rfl,(by rw [h4 b,atn hb]),?_⟩
 refine k _ ⟨⟨dx,by rw [Zc o1]; exact oQ⟩,S1.other _ (a38 o3) o5,⟨_,Za,ay9 (T7 _ _) h3,λx=>?_⟩,R.nd.erase b,R.s0,R.s1⟩ λx o e n1 n2=>?_
 .rw [Sw,h4 x]
  by_cases c:x=b
  .subst c
   rw [atn rfl,amU (λm=>((aVB R.nd).mp m).1 rfl)]
  .rw [amU (λz=>c (a8W z))]
   by_cases m:x∈seq
   .rw [atn m,atn ((aVB R.nd).mpr ⟨c,m⟩)]
   .rw [amU m,amU (λz=>m (ai2 z))]
 .rw [Zc n1,Zc (λz:x=ad=>n2 (z ▸ mQ))]
  exact e
def bump (us:Int->Int) (b:Int):Int->Int:=λx=>if x=b then us b+1 else us x
def pO (K:W.Frag):Sp:=λvs H Q _=>∃ (p:Addr) (b sh pl:Int) (ru:Str) (ls:Addr) (ah:List Addr) (du:Addr) (seq:List Int) (us:Int->Int) (n:Nat),vs=[.ref p,.int b]/\aF K H p sh pl ru ls ah du seq us n/\n<=900/\b∈seq/\seq.length<=900 /\
 ∀ H',aF K H' p sh pl ru ls ah du (if ru = "old" then seq.erase b++[b] else seq) (bump us b) (n+1)->SR ah du H H'->Q .aV H'
theorem VC (F:bO K "use" "Room.use" FE f fd) (T:Txt K mg) (tu:dQ P w K mg base (aD K "Room") "need" 2 AQ (DU K)) (lP:dQ P w K mg base (aD K "Room") "mates" 2 uA (xP K)):aH P w K mg base bI 3 f fd FD (pO K):=by
 refine F.ok fW (λvs H Q E h=>?_) (λcdv A outer st H vs Q E hr h=>?_)
 .obtain ⟨p,b,sh,pl,ru,ls,ah,du,seq,us,n,rfl,_⟩:=h
  rfl
 obtain ⟨p,b,sh,pl,ru,ls,ah,du,seq,us,n,rfl,R,hn,hb,hsl,k⟩:=h
 have nd:=fW.nd
 have hu:=cY hr
 refine ⟨_,(Ze (Zz (ZN tu hr.m T.fj (pv 0) (pc (pv 1) Zd)))
   (Ze (RW hu (oq (K:=K) rfl (pv 0) rfl) (pv 1) Zh Rq (λ_ _ _=>rfl))
   (Zj (aO (Zu br (oq (K:=K) rfl (pv 0) rfl) sf (Zx _)) (Ze (bM 2 nd (ZN lP hr.m T.fj (pv 0) (pc (pv 1) Zd)))
   (Ze (Zz (jt (K:=K) rfl (bK aqK a3t aEM Fl (pv 2) (pc (pv 1) Zd))))
   (Zj (Zz (jt (K:=K) rfl (bK aqK a9V alx ZG (pv 2) (pc (pv 1) Zd))))))) Zw)))),?_⟩
 obtain ⟨dx,h1⟩:=R.ob
 obtain ⟨kvs,h2,h3,h4⟩:=R.dc
 obtain ⟨o1,o2,o3,o4,o5,o6⟩:=R.off
 refine ⟨_,rfl,p,dx,_,rfl,h1,cy ..,_,rfl,p,b,sh,pl,ru,ls,ah,du,seq,us,n,rfl,R,hb,?_⟩
 refine ⟨_,rfl,p,_,dx,_,_,rfl,h1,T.fj,T.tD,xQ ..,_,rfl,du,_,rfl,(by have q:=eU.k (k:=Sum.inl b) h2; rw [h4 b,atn hb] at q; exact q),_,_,rfl,rfl,_,iX.k (k:=Sum.inl b) h2 (Zo (by lia)),?_⟩
 have R1:aF K (upd H du (.dK (putK kvs (Sum.inl b) (.int (us b+1))))) p sh pl ru ls ah du seq (bump us b) (n+1):=by
  refine ⟨⟨dx,by rw [Zc o1]; exact h1⟩,R.st.other _ (a38 o3) o5,⟨_,Za,ay9 (ZW ..) (by lia),λx=>?_⟩,R.nd,R.s0,R.s1⟩
  rw [AJ]
  unfold bump
  by_cases c:x=b
  .subst c
   rw [atn rfl,atn hb,atn rfl]
  .rw [amU (λz=>c (a8W z)),h4 x,amU c]
 have s1:SR ah du H (upd H du (.dK (putK kvs (Sum.inl b) (.int (us b+1))))):=λx o e n1 n2=>by rw [Zc n1]; exact e
 generalize upd H du (.dK (putK kvs (Sum.inl b) (.int (us b+1))))=H1 at *
 obtain ⟨qm,g1⟩:=R1.ob
 refine ⟨_,rfl,p,_,qm,_,_,rfl,g1,T.fj,T.Ct,JJ ..,rfl,_,rfl,?_⟩
 refine ZJ (λc=>?_) (λc=>?_)
 .have c':ru = "old" := by injection c
  rw [atn c'] at k
  refine ⟨_,rfl,p,qm,_,rfl,g1,cy ..,_,rfl,p,b,sh,pl,ru,ls,ah,du,seq,_,_,rfl,R1,λs ad es hs had=>?_⟩
  have mQ:ad∈ah:=abg hs
  have hmem:b∈Zi sh (b % sh) seq:=ao.mpr ⟨hb,rfl⟩
  refine ⟨_,rfl,.inl ⟨rfl,_,ak.of had⟩,_,rfl,ad,_,b,rfl,rfl,had,hmem,?_⟩
  have ll:((Zi sh (b % sh) seq).erase b).length<=900:=ay9 aSb (ay9 (aKi ..) hsl)
  refine ⟨_,rfl,.inl ⟨rfl,_,ak.of Za⟩,_,rfl,ad,_,_,rfl,rfl,Za,Zo (by rw [aAt]; lia),?_⟩
  rw [xX]
  have e1:(((Zi sh (b % sh) seq).erase b).map V.int++[V.int b])=((Zi sh (b % sh) seq).erase b++[b]).map V.int:=by rw [awR]; rfl
  have S2:fN (upd H1 ad (.lst (((Zi sh (b % sh) seq).erase b++[b]).map V.int))) ls ah sh (seq.erase b++[b]):=by
   refine R1.st.put hs ?_ λs' hs'=>?_
   .rw [ZH,atn es.symm,ZD,es]
   .rw [ZH,amU (by lia),ZD]
    exact aet λm=>hs' (by have:=(ao.mp m).2; lia)
  have np:p≠ad:=λz=>o2 (z ▸ mQ)
  have CD:du≠ad:=λz=>o5 (z ▸ mQ)
  obtain ⟨CP,g2,g3,g4⟩:=R1.dc
  have HK:∀ x,x∈seq.erase b++[b]↔x∈seq:=λx=>by
   rw [aRS,ax6,aVB R.nd]
   constructor
   .rintro (⟨_,m⟩ | rfl)
    .exact m
    .exact hb
   .intro m
    by_cases z:x=b
    .exact .inr z
    .exact .inl ⟨z,m⟩
  rw [e1]
  refine k _ ⟨⟨qm,by rw [Zc np]; exact g1⟩,S2,⟨CP,by rw [Zc CD]; exact g2,g3,λx=>?_⟩,?_,R.s0,R.s1⟩ λx o e n1 n2=>?_
  .rw [g4 x]
   by_cases m:x∈seq
   .rw [atn m,atn ((HK x).mpr m)]
   .rw [amU m,amU (λz=>m ((HK x).mp z))]
  .refine lT (R.nd.erase b) λm=>((aVB R.nd).mp m).1 rfl
  .rw [Zc (λz:x=ad=>n2 (z ▸ mQ))]
   exact s1 _ _ e n1 n2
 .have c':¬ ru = "old" := λz=>c (by rw [z])
  rw [amU c'] at k
  exact k _ R1 s1
end
def kQ (ru:Str) (r:Rec):Int:=if ru = "old" then r.t1 else r.t0
def tm (ru:Str) (S:List Rec) (x:Int):Int:=match az S x with
 | some r=>kQ ru r
 | none=>0
theorem xM {ru:Str} {S:List Rec} {r:Rec} (u:Uq S) (h:r∈S):tm ru S r.b=kQ ru r:=by
 unfold tm
 rw [u.rec r h]
def av (seq:List Int):Option Int->List Int
 | none=>seq
 | some g=>seq.erase g
structure eT (sh pl:Int) (ru:Str) (S:List Rec) (seq:List Int) (us:Int->Int) (i:Nat):Prop where
 uq:Uq S
 nd:seq.Nodup
 mem:∀ b,b∈seq↔b∈dM S
 ord:seq.Pairwise λa b=>tm ru S a<tm ru S b
 bnd:∀ b∈seq,tm ru S b<i
 uO:∀ r∈S,us r.b=r.n
 cap:∀ s,((Zi sh s seq).length:Int)<=pl
def kD (ru:Str) (us:Int->Int) (pl:Int) (ms:List Int) (gone:Option Int):Prop :=
 ((ms.length:Int)<pl->gone=none)/\(¬ (ms.length:Int)<pl->∃ (g:Int) (rest:List Int),gone=some g/\(g :: rest).Perm ms/\(ru = "few" -> (g :: rest).Pairwise (sI us ms))/\(ru ≠ "few" -> g :: rest=ms))
theorem LL:∀ {a b:List Int},a.Nodup->b.Nodup->(∀ x,x∈a↔x∈b)->a.length=b.length
 | [],b,_,_,h=>by
  cases b with
  | nil=>rfl
  | cons y r=>exact absurd ((h y).mpr a5w) (by simp)
 | x :: a,b,na,nb,h=>by
  obtain ⟨n1,n2⟩:=aG7.mp na
  have mb:x∈b:=(h x).mp a5w
  have ih:=LL n2 (nb.erase x) λy=>by
   rw [aVB nb]
   constructor
   .intro m
    exact ⟨λz=>n1 (z ▸ m),(h y).mp (amQ _ m)⟩
   .rintro ⟨z,m⟩
    rcases ac0.mp ((h y).mpr m) with q | q
    .exact absurd q z
    .exact q
  rw [bc9,ih,afg mb]
  have:0<b.length:=aTm mb
  lia
theorem eT.Cw {sh pl:Int} {ru:Str} {S:List Rec} {seq:List Int} {us:Int->Int} {i:Nat} (L:eT sh pl ru S seq us i) (z:Int):((Zl sh z S).length=(Zi sh (z % sh) seq).length)/\∀ x,x∈Zi sh (z % sh) seq↔∃ r∈Zl sh z S,r.b=x:=by
 have hm:∀ x,x∈Zi sh (z % sh) seq↔∃ r∈Zl sh z S,r.b=x:=λx=>by
  rw [ao,L.mem x]
  constructor
  .rintro ⟨m,e⟩
   obtain ⟨r,hr,rfl⟩:=aiy.mp m
   exact ⟨r,afi.mpr ⟨hr,by simp [e]⟩,rfl⟩
  .rintro ⟨r,hr,rfl⟩
   obtain ⟨h1,h2⟩:=afi.mp hr
   exact ⟨aiy.mpr ⟨r,h1,rfl⟩,by simpa using h2⟩
 refine ⟨?_,hm⟩
 have CF:((Zl sh z S).map (·.b)).Nodup:=aDm (List.Sublist.map _ aN5) L.uq
 have zp:(Zi sh (z % sh) seq).Nodup:=aDm aN5 L.nd
 have e:=LL CF zp λx=>by
  rw [hm x,mem_map]
 rw [aAt] at e
 exact e
theorem Sv {R:Int->Int->Prop} {l:List Int} (p:l.Pairwise R) {a b:Int} (ha:a∈l) (hb:b∈l) (h:l.idxOf a<l.idxOf b):R a b:=by
 have la:=List.idxOf_lt_length_of_mem ha
 have lb:=List.idxOf_lt_length_of_mem hb
 have q:=a4Q.mp p _ _ la lb h
 rwa [List.getElem_idxOf la,List.getElem_idxOf lb] at q
theorem ER {a b:Int} {x y:List Int} (h:a<b):HT.lexLt (a :: x) (b :: y)=true:=by
 rw [HT.aI,amU (by lia),aGg h]
theorem Q3 {sh pl:Int} {ru:Str} {S:List Rec} {seq:List Int} {us:Int->Int} {i:Nat} {z:Int} {gone:Option Int} (L:eT sh pl ru S seq us i) (hpl:1<=pl) (m6:nJ ru) (G:kD ru us pl (Zi sh (z % sh) seq) gone):bf sh pl ru S z=gone:=by
 obtain ⟨hlen,hmem⟩:=L.Cw z
 by_cases c:((Zl sh z S).length:Int)<pl
 .rw [G.1 (by rw [← hlen]; exact c)]
  unfold bf
  rw [atn c]
 .obtain ⟨g,rest,rfl,pm,h1,h2⟩:=G.2 (by rw [← hlen]; exact c)
  obtain ⟨r,hr,e,least⟩:=LM (ru:=ru) hpl c
  rw [e]
  have hg:g∈Zi sh (z % sh) seq:=pm.mem_iff.mp a5w
  obtain ⟨r0,hr0,e0⟩:=(hmem g).mp hg
  have hrb:r.b∈Zi sh (z % sh) seq:=(hmem r.b).mpr ⟨r,hr,rfl⟩
  by_cases eq:r.b=g
  .rw [eq]
  .exfalso
   have hrest:r.b∈rest:=by
    rcases ac0.mp (pm.mem_iff.mpr hrb) with q | q
    .exact absurd q eq
    .exact q
   have CT:r∈S:=(afi.mp hr).1
   have rq:r0∈S:=(afi.mp hr0).1
   have eF:(Zi sh (z % sh) seq).Pairwise λa b=>tm ru S a<tm ru S b:=agN aN5 L.ord
   have bad:=least r0 hr0
   have ht:∀ {a b:Int},a∈Zi sh (z % sh) seq->b∈Zi sh (z % sh) seq->(Zi sh (z % sh) seq).idxOf a<(Zi sh (z % sh) seq).idxOf b->tm ru S a<tm ru S b:=λha hb h=>Sv eF ha hb h
   by_cases few:ru = "few"
   .have k:=List.rel_of_pairwise_cons (h1 few) hrest
    have e1:tm ru S r0.b=r0.t0:=by rw [xM L.uq rq,kQ,amU (by rw [few]; decide)]
    have e2:tm ru S r.b=r.t0:=by rw [xM L.uq CT,kQ,amU (by rw [few]; decide)]
    have u1:=L.uO r0 rq
    have u2:=L.uO r CT
    have kk:∀ q:Rec,cH ru q=[q.n,q.t0]:=λq=>by
     unfold cH rR
     rw [few,amU (by decide),amU (by decide)]
     rfl
    rw [kk,kk] at bad
    rcases k with k | ⟨k1,k2⟩
    .rw [← e0,u1,u2] at k
     rw [show [r0.n,r0.t0]++[r0.b]=r0.n :: [r0.t0,r0.b] from rfl,show [r.n,r.t0]++[r.b]=r.n :: [r.t0,r.b] from rfl,ER k] at bad
     cases bad
    .have t:=ht hg hrb k2
     rw [← e0,e1,e2] at t
     rw [← e0,u1,u2] at k1
     rw [show [r0.n,r0.t0]++[r0.b]=r0.n :: [r0.t0,r0.b] from rfl,show [r.n,r.t0]++[r.b]=r.n :: [r.t0,r.b] from rfl,HT.aI,atn k1,ER t] at bad
     cases bad
   .have e3:=h2 few
    have t:tm ru S g<tm ru S r.b:=by
     rw [← e3] at eF
     exact List.rel_of_pairwise_cons eF hrest
    rw [← e0,xM L.uq rq,xM L.uq CT] at t
    have kk:∀ q:Rec,cH ru q++[q.b]=[kQ ru q,q.b]:=λq=>by
     rcases m6 with rfl | rfl | rfl
     .unfold cH rR kQ
      rw [atn rfl,atn rfl]
      rfl
     .unfold cH rR kQ
      rw [amU (by decide),atn rfl,amU (by decide)]
      rfl
     .exact absurd rfl few
    rw [kk,kk,ER t] at bad
    cases bad
theorem xK {ru:Str} {S:List Rec} {q:Rec} (x:Int):tm ru (aN S q) x=if x=q.b then kQ ru q else tm ru S x:=by
 unfold tm
 rw [Au]
 by_cases e:x=q.b
 .rw [atn e,atn e]
 .rw [amU e,amU e]
theorem Q2 {ru:Str} {S:List Rec} {g:Option Int} {x:Int} (h:∀ y,g=some y->x≠y):tm ru (bC S g) x=tm ru S x:=by
 cases g with
 | none=>rfl
 | some y =>
  unfold tm
  rw [show az (bC S (some y)) x=az S x by
   show az (bw S y) x=_
   rw [FA,amU (h y rfl)]]
theorem K8 {seq:List Int} {g:Option Int}:(av seq g).length<=seq.length:=by
 cases g with
 | none=>exact aNS _
 | some g=>exact aSb
theorem bL {seq:List Int} {g:Option Int}:(av seq g).Sublist seq:=by
 cases g with
 | none=>exact List.Sublist.refl _
 | some g=>exact erase_sublist
theorem K7 {seq:List Int} {g:Option Int} (nd:seq.Nodup) {x:Int}:x∈av seq g↔x∈seq/\∀ y,g=some y->x≠y:=by
 cases g with
 | none=>exact ⟨λh=>⟨h,λy e=>by cases e⟩,λh=>h.1⟩
 | some g =>
  show x∈seq.erase g↔_
  rw [aVB nd]
  exact ⟨λh=>⟨h.2,λy e=>by cases e; exact h.1⟩,λh=>⟨h.2 g rfl,h.1⟩⟩
theorem Su {S:List Rec} {g:Option Int} {x:Int}:x∈dM (bC S g)↔x∈dM S/\∀ y,g=some y->x≠y:=by
 cases g with
 | none=>exact ⟨λh=>⟨h,λy e=>by cases e⟩,λh=>h.1⟩
 | some g =>
  show x∈dM (bw S g)↔_
  rw [E5]
  exact ⟨λh=>⟨h.1,λy e=>by cases e; exact h.2⟩,λh=>⟨h.1,h.2 g rfl⟩⟩
theorem Vx {S:List Rec} {o:Option Int} {r:Rec} (h:r∈bC S o):r∈S:=by
 cases o with
 | none=>exact h
 | some g=>exact (afi.mp h).1
theorem LH {S:List Rec} {q r:Rec} (u:Uq S) (h:r∈aN S q):r=q\/(r∈S/\r.b≠q.b):=by
 have e:=(u.put q).rec r h
 rw [Au] at e
 by_cases c:r.b=q.b
 .rw [atn c] at e
  exact .inl (ado e).symm
 .rw [amU c] at e
  exact .inr ⟨(ye e).1,c⟩
theorem LG {R:Int->Int->Prop} {l:List Int} {z:Int} (p:l.Pairwise R) (h:∀ x∈l,R x z):(l++[z]).Pairwise R:=by
 rw [pairwise_append]
 exact ⟨p,List.pairwise_singleton _ _,λa ha b hb=>by rw [aBr.mp hb]; exact h a ha⟩
theorem eT.missed {sh pl:Int} {ru:Str} {S:List Rec} {seq:List Int} {us us':Int->Int} {i:Nat} {z:Int} {gone:Option Int} (L:eT sh pl ru S seq us i) (hz:z∉seq) (hg:bf sh pl ru S z=gone) (hu:∀ x,us' x=if x=z then 0 else us x)
  (hc:((Zi sh (z % sh) seq).length:Int)<pl\/∃ g∈Zi sh (z % sh) seq,gone=some g):eT sh pl ru (aN (bC S gone) ⟨z,i,i,0⟩) (av seq gone++[z]) us' (i+1):=by
 have u1:=L.uq.less gone
 have nz:z∉av seq gone:=λm=>hz (bL.subset m)
 have tq:kQ ru ⟨z,i,i,0⟩=(i:Int):=by unfold kQ; split <;> rfl
 have te:∀ x∈av seq gone,tm ru (aN (bC S gone) ⟨z,i,i,0⟩) x=tm ru S x:=λx m=>by
  obtain ⟨m1,m2⟩:=(K7 L.nd).mp m
  rw [xK,amU (λe:x=z=>nz (e ▸ m)),Q2 m2]
 have tz:tm ru (aN (bC S gone) ⟨z,i,i,0⟩) z=(i:Int):=by rw [xK,atn rfl,tq]
 refine ⟨u1.put _,lT (L.nd.sublist bL) nz,λx=>?_,LG ?_ ?_,λx m=>?_,λr hr=>?_,λs=>?_⟩
 .rw [aRS,ax6,uo,K7 L.nd,Su,L.mem x]
  exact ⟨λh=>h.elim (λq=>.inr q) λq=>.inl q,λh=>h.elim (λq=>.inr q) λq=>.inl q⟩
 .have p:=L.ord.sublist (bL (g:=gone))
  exact p.imp_of_mem λha hb h=>by rw [te _ ha,te _ hb]; exact h
 .intro x m
  rw [te x m,tz]
  exact L.bnd x (bL.subset m)
 .rcases aJX.mp m with m | m
  .rw [te x m]
   have:=L.bnd x (bL.subset m)
   lia
  .rw [aBr.mp m,tz]
   lia
 .rcases LH u1 hr with rfl | ⟨h1,h2⟩
  .rw [hu,atn rfl]
  .rw [hu,amU h2]
   exact L.uO r (Vx h1)
 .rw [ZH]
  have hl:Zi sh s (av seq gone)=av (Zi sh s seq) gone:=by
   cases gone with
   | none=>rfl
   | some g=>exact ZD sh s g seq
  rw [hl]
  have cs:=L.cap s
  have ll:=K8 (seq:=Zi sh s seq) (g:=gone)
  split
  .rename_i e
   rw [aUV]
   rcases hc with hc | ⟨g,hg',rfl⟩
   .rw [e] at hc
    have:[z].length=1:=rfl
    lia
   .rw [e] at hg'
    have e1:(av (Zi sh s seq) (some g)).length=(Zi sh s seq).length - 1:=afg hg'
    have p0:0<(Zi sh s seq).length:=aTm hg'
    have:[z].length=1:=rfl
    lia
  .lia
theorem eT.found {sh pl:Int} {ru:Str} {S:List Rec} {seq:List Int} {us us':Int->Int} {i:Nat} {z:Int} {r:Rec} (L:eT sh pl ru S seq us i) (hr:az S z=some r) (hu:∀ x,us' x=if x=z then us z+1 else us x) :
  eT sh pl ru (aN S ⟨z,r.t0,i,r.n+1⟩) (if ru = "old" then seq.erase z++[z] else seq) us' (i+1):=by
 obtain ⟨rS,rb⟩:=ye hr
 subst rb
 have uI:r.b∈seq:=(L.mem _).mpr (aiy.mpr ⟨r,rS,rfl⟩)
 have GG:∀ q∈aN S ⟨r.b,r.t0,i,r.n+1⟩,us' q.b=q.n:=λq hq=>by
  rcases LH L.uq hq with rfl | ⟨h1,h2⟩
  .rw [hu,atn rfl,L.uO r rS]
  .rw [hu,amU h2]
   exact L.uO q h1
 have wg:∀ x,x∈dM (aN S ⟨r.b,r.t0,i,r.n+1⟩)↔x∈dM S:=λx=>by
  rw [uo]
  constructor
  .rintro (rfl | h)
   .exact (L.mem _).mp uI
   .exact h
  .exact λh=>.inr h
 by_cases old:ru = "old"
 .rw [atn old]
  have nz:r.b∉seq.erase r.b:=λm=>((aVB L.nd).mp m).1 rfl
  have te:∀ x∈seq.erase r.b,tm ru (aN S ⟨r.b,r.t0,i,r.n+1⟩) x=tm ru S x:=λx m=>by
   rw [xK,amU (λe:x=r.b=>nz (e ▸ m))]
  have tz:tm ru (aN S ⟨r.b,r.t0,i,r.n+1⟩) r.b=(i:Int):=by rw [xK,atn rfl,kQ,atn old]
  refine ⟨L.uq.put _,lT (L.nd.erase _) nz,λx=>?_,LG ?_ ?_,λx m=>?_,GG,λs=>?_⟩
  .rw [wg,← L.mem x,aRS,ax6,aVB L.nd]
   constructor
   .rintro (⟨_,m⟩ | rfl)
    .exact m
    .exact uI
   .intro m
    by_cases e:x=r.b
    .exact .inr e
    .exact .inl ⟨e,m⟩
  .have p:=L.ord.sublist (erase_sublist (a:=r.b))
   exact p.imp_of_mem λha hb h=>by rw [te _ ha,te _ hb]; exact h
  .intro x m
   rw [te x m,tz]
   exact L.bnd x (ai2 m)
  .rcases aJX.mp m with m | m
   .rw [te x m]
    have:=L.bnd x (ai2 m)
    lia
   .rw [aBr.mp m,tz]
    lia
  .rw [ZH,ZD]
   have cs:=L.cap s
   split
   .rename_i e
    have hin:r.b∈Zi sh s seq:=ao.mpr ⟨uI,e⟩
    rw [aUV,afg hin]
    have p0:0<(Zi sh s seq).length:=aTm hin
    have:[r.b].length=1:=rfl
    lia
   .have:((Zi sh s seq).erase r.b).length<=(Zi sh s seq).length:=aSb
    lia
 .rw [amU old]
  have te:∀ x,tm ru (aN S ⟨r.b,r.t0,i,r.n+1⟩) x=tm ru S x:=λx=>by
   rw [xK]
   by_cases e:x=r.b
   .rw [atn e,e,xM L.uq rS,kQ,kQ,amU old,amU old]
   .rw [amU e]
  refine ⟨L.uq.put _,L.nd,λx=>by rw [wg,L.mem x],L.ord.imp λh=>by rw [te,te]; exact h,λx m=>?_,GG,L.cap⟩
  rw [te]
  have:=L.bnd x m
  lia
section
def IP (K:W.Frag):Sp:=λvs H Q _=>∃ (p dx:Addr) (sh pl:Int) (ru:Str),vs=[.ref p,.int sh,.int pl,.str ru]/\H p=some (.ins (aD K "Room") dx [])/\1<=sh/\sh<=64 /\
 ∀ (ls:Addr) (ah:List Addr) (du:Addr) (H':Hp),aF K H' p sh pl ru ls ah du [] (λ_=>0) 0->H ls=none->H du=none->(∀ ad∈ah,H ad=none)->(∀ b o,H b=some o->b≠p->H' b=some o)->Q .aV H'
theorem V9 (F:bO K "__init__" "Room.__init__" AR f fd) (T:Txt K mg):aH P w K mg base bI 1 f fd F9 (IP K):=by
 refine F.ok ff (λvs H Q E h=>?_) (λcdv A outer st H vs Q E hr h=>?_)
 .obtain ⟨p,dx,sh,pl,ru,rfl,_⟩:=h
  rfl
 obtain ⟨p,dx,sh,pl,ru,rfl,hp,hs0,hs1,k⟩:=h
 have nd:=ff.nd
 refine ⟨_,(Ze (xG (pv 0) (pv 1) rfl)
   (Ze (xG (pv 0) (pv 2) rfl)
   (Ze (xG (pv 0) (pv 3) rfl)
   (Ze (xG (pv 0) (qA (Zy (eV:=(Zg AR)) (oN:=dP) (N:=["number"]) (own:=1) (js:=[]) (by decide +kernel) rfl rfl) rfl (pq rfl T.ko (pc (pv 1) Zd)) (λ_ _ _ _ _ _=>(bS 0 (show List.Nodup (["number"]:List Str) by decide +kernel))) (λ_ _ _ _ _ _=>(ZT Zd))) rfl)
   (Zj (xG (pv 0) AI rfl)))))),?_⟩
 refine ⟨_,rfl,_,rfl,p,_,dx,_,rfl,hp,T.fj,T.G0,(by show 0<1000; decide),?_⟩
 refine ⟨_,rfl,_,rfl,p,_,dx,_,rfl,Za,T.fj,T.GF,(by show 1<1000; decide),?_⟩
 refine ⟨_,rfl,_,rfl,p,_,dx,_,rfl,Za,T.fj,T.Ct,(by show 2<1000; decide),?_⟩
 have e3:upd (upd (upd H p (.ins (aD K "Room") dx (aM "shelves" (.int sh) []))) p (.ins (aD K "Room") dx (aM "places" (.int pl) (aM "shelves" (.int sh) [])))) p (.ins (aD K "Room") dx (aM "rule" (.str ru) (aM "places" (.int pl) (aM "shelves" (.int sh) [])))) p=some (.ins (aD K "Room") dx (aM "rule" (.str ru) (aM "places" (.int pl) (aM "shelves" (.int sh) [])))):=Za
 have o3:∀ b o,H b=some o->b≠p->upd (upd (upd H p (.ins (aD K "Room") dx (aM "shelves" (.int sh) []))) p (.ins (aD K "Room") dx (aM "places" (.int pl) (aM "shelves" (.int sh) [])))) p (.ins (aD K "Room") dx (aM "rule" (.str ru) (aM "places" (.int pl) (aM "shelves" (.int sh) [])))) b=some o:=λb o e n=>by rw [Zc n,Zc n,Zc n]; exact e
 generalize upd (upd (upd H p (.ins (aD K "Room") dx (aM "shelves" (.int sh) []))) p (.ins (aD K "Room") dx (aM "places" (.int pl) (aM "shelves" (.int sh) [])))) p (.ins (aD K "Room") dx (aM "rule" (.str ru) (aM "places" (.int pl) (aM "shelves" (.int sh) []))))=H3 at *
 have f3:∀ b,H3 b=none->H b=none:=λb e=>by
  cases q:H b with
  | none=>rfl
  | some o =>
   by_cases z:b=p
   .rw [z,e3] at e; cases e
   .rw [o3 b o q z] at e; cases e
 refine ⟨_,rfl,sh,rfl,by lia,by lia,λls hls=>?_⟩
 refine uz (lo:=0) (n:=sh.toNat) (l:=ls) (λj ys σ G=>∃ (v0:Option V) (ah:List Addr),σ=[v0]/\ys=ah.map V.ref/\ah.length=j/\ah.Nodup/\ls∉ah/\G ls=some (.lst ys)/\(∀ ad∈ah,H3 ad=none/\G ad=some (.lst []))/\aq H3 G)
  ⟨none,[],rfl,rfl,rfl,awg,by simp,Za,by simp,Zf hls _⟩ ?_ ?_
 .rintro j ys σ G hj hy ⟨v0,ah,rfl,rfl,hlen,hnd,hoff,g1,g2,s1⟩
  refine ⟨(sl 0),λq hq=>?_⟩
  have nq:ls≠q:=Zb g1 hq
  have Hj:q∉ah:=λm=>by rw [(g2 q m).2] at hq; cases hq
  refine eX.of (ay9 (by lia:sh.toNat<=64) (by decide)) hj hy (by rw [Zc nq]; exact g1) ⟨_,ah++[q],rfl,by rw [awR]; rfl,by rw [aUV,hlen]; rfl,lT hnd Hj,?_,Za,λad m=>?_,?_⟩
  .intro m
   rcases aJX.mp m with m | m
   .exact hoff m
   .exact nq (by simpa using m)
  .rcases aJX.mp m with m | m
   .rw [Zc (λz:ad=ls=>hoff (z ▸ m)),Zc (λz:ad=q=>Hj (z ▸ m))]
    exact g2 ad m
   .have e:ad=q:=by simpa using m
    subst e
    rw [Zc (a38 nq)]
    exact ⟨s1.free hq,Za⟩
  .intro e o y
   rw [Zc (Zb y hls),Zc (Zb (s1 _ _ y) hq)]
   exact s1 _ _ y
 rintro ys σ G hy ⟨v0,ah,rfl,rfl,hlen,hnd,hoff,g1,g2,s1⟩
 have gp:=s1 _ _ e3
 refine ⟨_,rfl,p,_,dx,_,rfl,gp,T.fj,T.G4,(by show 3<1000; decide),?_⟩
 intro du oM
 have CC:ls≠p:=λz=>by rw [z,e3] at hls; cases hls
 have Ht:∀ ad∈ah,ad≠p:=λad m z=>by have q:=(g2 ad m).1; rw [z,e3] at q; cases q
 have zh:p≠du:=Zb (Za (H:=G) (a:=p) (o:=.ins (aD K "Room") dx (aM "standing" (.ref ls) (aM "rule" (.str ru) (aM "places" (.int pl) (aM "shelves" (.int sh) [])))))) oM
 have gl:ls≠du:=λz=>by rw [← z,Zc CC,g1] at oM; cases oM
 have ga:du∉ah:=λm=>by rw [Zc (a38 zh),(g2 du m).2] at oM; cases oM
 refine ⟨_,rfl,p,_,dx,_,rfl,(by rw [Zc zh]; exact Za),T.fj,T.tD,(by show 4<1000; decide),?_⟩
 have wV:H3 du=none:=by
  rw [Zc (a38 zh)] at oM
  exact s1.free oM
 refine k ls ah du _ ⟨⟨dx,Za⟩,⟨?_,hlen,hnd,hoff,λi ad e=>?_⟩,⟨[],?_,aNS _,λb=>by simp [aR]⟩,awg,hs0,hs1⟩ (f3 _ hls) (f3 _ wV) (λad m=>f3 _ (g2 ad m).1) λb o e n=>?_
 .rw [Zc CC,Zc gl,Zc CC]
  exact g1
 .have m:=abg e
  rw [Zc (Ht ad m),Zc (λz:ad=du=>ga (z ▸ m)),Zc (Ht ad m)]
  exact (g2 ad m).2
 .rw [Zc (a38 zh)]
  exact Za
 .have q:=s1 _ _ (o3 b o e n)
  have nb:b≠du:=λz=>by
   rw [← z,Zc n,q] at oM
   cases oM
  rw [Zc n,Zc nb,Zc n]
  exact q
def zero (us:Int->Int) (b:Int):Int->Int:=λx=>if x=b then 0 else us x
def JI (K:W.Frag):Sp:=λvs H Q _=>∃ (p:Addr) (b sh pl:Int) (ru:Str) (ls:Addr) (ah:List Addr) (du:Addr) (seq:List Int) (us:Int->Int) (n:Nat),vs=[.ref p,.int b]/\aF K H p sh pl ru ls ah du seq us n/\Tb K H/\n<=900/\b∉seq/\1<=pl/\(Zi sh (b % sh) seq).length<64 /\
 ∀ (gone:Option Int) (H':Hp),kD ru us pl (Zi sh (b % sh) seq) gone->aF K H' p sh pl ru ls ah du (av seq gone++[b]) (zero us b) (n+1)->SR ah du H H'->Q (bg gone) H'
def K6 (K:W.Frag):Sp:=λvs H Q _=>∃ (p:Addr) (b sh pl:Int) (ru:Str) (ls:Addr) (ah:List Addr) (du:Addr) (seq:List Int) (us:Int->Int) (n:Nat),vs=[.ref p,.int b]/\aF K H p sh pl ru ls ah du seq us n/\Tb K H/\1<=pl/\(Zi sh (b % sh) seq).length<64 /\
 ∀ (gone:Option Int) (H':Hp),kD ru us pl (Zi sh (b % sh) seq) gone->aq H H'->Q (bg gone) H'
theorem Wv (F:bO K "leaver_for" "Room.leaver_for" Gj f fd) (T:Txt K mg) (lP:dQ P w K mg base (aD K "Room") "mates" 2 uA (xP K)) (Cf:dQ P w K mg base (aD K "Room") "going" 2 yc (El K)):aH P w K mg base bI 3 f fd Gi (K6 K):=by
 refine F.ok bU (λvs H Q E h=>?_) (λcdv A outer st H vs Q E hr h=>?_)
 .obtain ⟨p,b,sh,pl,ru,ls,ah,du,seq,us,n,rfl,_⟩:=h
  rfl
 obtain ⟨p,b,sh,pl,ru,ls,ah,du,seq,us,n,rfl,R,tb,hpl,h64,k⟩:=h
 have nd:=bU.nd
 have hu:=cY hr
 refine ⟨_,(Ze (bM 2 nd (ZN lP hr.m T.fj (pv 0) (pc (pv 1) Zd)))
   (Ze (aO (Zu gO (Zk (Zn (K:=K) rfl) rfl T.fZ aTr (pc (pv 2) Zd)) (oq (K:=K) rfl (pv 0) rfl) (Zx _)) (Zj (Zs ue)) Zw)
   (Zj (Zs (aG (Zp (K:=K) rfl) (ZN Cf hr.m T.fj (pv 0) (pc (pv 2) Zd)) Zh (λ_ _=>rfl)))))),?_⟩
 obtain ⟨dx,h1⟩:=R.ob
 refine ⟨_,rfl,p,dx,_,rfl,h1,cy ..,_,rfl,p,b,sh,pl,ru,ls,ah,du,seq,us,n,rfl,R,λs ad es hs had=>?_⟩
 have hnd:(Zi sh (b % sh) seq).Nodup:=R.nd.sublist aN5
 refine ⟨_,rfl,ad,_,rfl,.inl (ak.of had),_,rfl,p,_,dx,_,_,rfl,h1,T.fj,T.GF,T8 ..,_,_,rfl,rfl,_,rfl,?_⟩
 rw [aAt]
 refine ZJ (λc=>?_) (λc=>?_)
 .exact k none H ⟨λ_=>rfl,λz=>absurd z (by lia)⟩ (aq.refl _)
 .refine ⟨_,rfl,p,dx,_,rfl,h1,cy ..,_,rfl,p,ad,Zi sh (b % sh) seq,sh,pl,ru,ls,ah,du,seq,us,n,rfl,R,tb,had,h64,hnd,(λx m=>(ao.mp m).1),λD H' os hD sm hl po s1 s2=>?_⟩
  have lo:=po.length_eq
  match os,hl,po,s1,s2,lo with
  | [],_,_,_,_,lo=>exact absurd lo (by simp; lia)
  | g :: rest,hl,po,s1,s2,lo =>
   refine ⟨D,_,_,_,rfl,rfl,ak.of hl,nE,?_⟩
   exact k (some g) H' ⟨λz=>absurd c (by lia),λ_=>⟨g,rest,rfl,po,s1,s2⟩⟩ sm
theorem Wj (F:bO K "bring" "Room.bring" FU f fd) (T:Txt K mg) (oF:dQ P w K mg base (aD K "Room") "has" 1 yf (j8 K)) (Cn:dQ P w K mg base (aD K "Room") "leaver_for" 3 Gi (K6 K)) (lP:dQ P w K mg base (aD K "Room") "mates" 2 uA (xP K)) (Cs:dQ P w K mg base (aD K "Room") "drop" 3 F7 (IQ K)):aH P w K mg base bI 4 f fd FT (JI K):=by
 refine F.ok d8 (λvs H Q E h=>?_) (λcdv A outer st H vs Q E hr h=>?_)
 .obtain ⟨p,b,sh,pl,ru,ls,ah,du,seq,us,n,rfl,_⟩:=h
  rfl
 obtain ⟨p,b,sh,pl,ru,ls,ah,du,seq,us,n,rfl,R,tb,hn,hb,hpl,h64,k⟩:=h
 have nd:=d8.nd
 have hu:=cY hr
 refine ⟨_,(Ze (aO (lD (ZN oF hr.m T.fj (pv 0) (pc (pv 1) Zd))) (Zj mE) Zw)
   (Ze (bM 2 nd (ZN Cn hr.m T.fj (pv 0) (pc (pv 1) Zd)))
   (Ze (aO (ud (Ah (pv 2))) (Zj (Zz (ZN Cs hr.m T.fj (pv 0) (pc (pv 2) Zd)))) Zw)
   (Ze (Zz (jt (K:=K) rfl (bK aqK a9V alx ZG (ZN lP hr.m T.fj (pv 0) (pc (pv 1) Zd)) (pc (pv 1) Zd))))
   (Ze (Ey hu (oq (K:=K) rfl (pv 0) rfl) (pv 1) Zh rfl)
   (Zj (Zs (pv 2)))))))),?_⟩
 obtain ⟨dx,h1⟩:=R.ob
 refine ⟨_,rfl,p,dx,_,rfl,h1,cy ..,_,rfl,p,b,sh,pl,ru,ls,ah,du,seq,us,n,rfl,R,?_⟩
 rw [aWh hb]
 refine ⟨_,rfl,b9 rfl ?_⟩
 refine ⟨_,rfl,p,dx,_,rfl,h1,cy ..,_,rfl,p,b,sh,pl,ru,ls,ah,du,seq,us,n,rfl,R,tb,hpl,h64,λgone H1 gp sm=>?_⟩
 refine gN ?_
 dsimp only
 have R0:=R.same sm
 have hnd:(Zi sh (b % sh) seq).Nodup:=R.nd.sublist aN5
 refine tN (λσ G=>σ=[some (.ref p),some (.int b),some (bg gone)]/\aF K G p sh pl ru ls ah du (av seq gone) us n/\SR ah du H G) (λD' _ k'=>?_) ?_
 .match gone,gp with
  | none,gp=>exact ⟨_,rfl,_,rfl,b9 rfl (k' _ _ ⟨rfl,R0,SR.of sm⟩)⟩
  | some g,gp =>
   have hg:g∈Zi sh (b % sh) seq:=by
    by_cases c:((Zi sh (b % sh) seq).length:Int)<pl
    .exact absurd (gp.1 c) (by simp)
    .obtain ⟨g',rest,e,po,_⟩:=gp.2 c
     injection e with e
     subst e
     exact po.mem_iff.mp a5w
   obtain ⟨DA,oQ⟩:=R0.ob
   exact ⟨_,rfl,_,rfl,dh rfl ⟨_,rfl,p,DA,_,rfl,oQ,cy ..,_,rfl,p,g,sh,pl,ru,ls,ah,du,seq,us,n,rfl,R0,(ao.mp hg).1,λH2 R2 s3=>k' _ _ ⟨rfl,R2,(SR.of sm).trans s3⟩⟩⟩
 rintro _ G ⟨rfl,R1,s1⟩
 obtain ⟨qm,g1⟩:=R1.ob
 obtain ⟨kvs,g2,g3,g4⟩:=R1.dc
 obtain ⟨o1,o2,o3,o4,o5,o6⟩:=R1.off
 refine ⟨_,rfl,p,qm,_,rfl,g1,cy ..,_,rfl,p,b,sh,pl,ru,ls,ah,du,av seq gone,us,n,rfl,R1,λs ad es hs Pd=>?_⟩
 have mQ:ad∈ah:=abg hs
 have wX:=R1.st.at_ s ad hs
 have ll:(Zi sh s (av seq gone)).length<=64:=by
  have q:(Zi sh s (av seq gone)).Sublist (Zi sh s seq):=List.Sublist.filter _ (bL (g:=gone))
  have q2:=q.length_le
  rw [es] at q2 ⊢
  lia
 refine ⟨.inl ⟨rfl,_,ak.of wX⟩,_,rfl,ad,_,_,rfl,rfl,wX,Zo (by rw [aAt]; lia),?_⟩
 have nb:b∉av seq gone:=λm=>hb (bL.subset m)
 have e1:((Zi sh s (av seq gone)).map V.int++[V.int b])=(Zi sh s (av seq gone)++[b]).map V.int:=by rw [awR]; rfl
 rw [e1]
 have S2:fN (upd G ad (.lst ((Zi sh s (av seq gone)++[b]).map V.int))) ls ah sh (av seq gone++[b]):=by
  refine R1.st.put hs ?_ λs' hs'=>?_
  .rw [ZH,atn es.symm]
  .rw [ZH,amU (by lia)]
 have np:p≠ad:=λz=>o2 (z ▸ mQ)
 have CD:du≠ad:=λz=>o5 (z ▸ mQ)
 have qk:upd G ad (.lst ((Zi sh s (av seq gone)++[b]).map V.int)) p=some (.ins (aD K "Room") qm (eN sh pl ru ls du)):=by rw [Zc np]; exact g1
 have rO:upd G ad (.lst ((Zi sh s (av seq gone)++[b]).map V.int)) du=some (.dK kvs):=by rw [Zc CD]; exact g2
 refine ⟨_,rfl,p,_,qm,_,_,rfl,qk,T.fj,T.tD,xQ ..,_,rfl,du,_,rfl,iX.k (k:=Sum.inl b) rO (Zo (by lia)),?_⟩
 refine ⟨_,rfl,k gone _ gp ⟨⟨qm,by rw [Zc o1]; exact qk⟩,S2.other _ (a38 o3) o5,⟨_,Za,ay9 (ZW ..) (by lia),λx=>?_⟩,lT R1.nd nb,R.s0,R.s1⟩ λx o e n1 n2=>?_⟩
 .rw [AJ]
  unfold zero
  by_cases c:x=b
  .subst c
   rw [atn rfl,atn (ap3 _ (aBr.mpr rfl)),atn rfl]
  .rw [amU (λz=>c (a8W z)),g4 x,amU c]
   by_cases m:x∈av seq gone
   .rw [atn m,atn (aCj _ m)]
   .rw [amU m,amU (λz=>(aJX.mp z).elim m λq=>c (aBr.mp q))]
 .rw [Zc n1,Zc (λz:x=ad=>n2 (z ▸ mQ))]
  exact s1 _ _ e n1 n2
end
section
def pX (K:W.Frag):Sp:=λvs H Q _=>∃ (p:Addr) (b sh pl:Int) (ru:Str) (ls:Addr) (ah:List Addr) (du:Addr) (seq:List Int) (us:Int->Int) (n:Nat),vs=[.ref p,.int b]/\aF K H p sh pl ru ls ah du seq us n/\Tb K H/\n<=900/\seq.length<=900/\1<=pl/\(Zi sh (b % sh) seq).length<64 /\
 (∀ (t:Addr) (H':Hp),b∈seq->H t=none->aF K H' p sh pl ru ls ah du (if ru = "old" then seq.erase b++[b] else seq) (bump us b) (n+1)->SR ah du H H'->H' t=some (.tup [.bl true,.aV])->Q (.ref t) H') /\
 ∀ (t:Addr) (gone:Option Int) (H':Hp),b∉seq->H t=none->kD ru us pl (Zi sh (b % sh) seq) gone->aF K H' p sh pl ru ls ah du (av seq gone++[b]) (zero us b) (n+1)->SR ah du H H'->H' t=some (.tup [.bl false,bg gone])->Q (.ref t) H'
theorem SR.free {ah:List Addr} {du:Addr} {H H':Hp} {p:Addr} {sh pl:Int} {ru:Str} {ls:Addr} {seq:List Int} {us:Int->Int} {n:Nat} (s:SR ah du H H') (R':aF K H' p sh pl ru ls ah du seq us n) {t:Addr} (h:H' t=none):H t=none:=by
 cases q:H t with
 | none=>rfl
 | some o =>
  have n1:t≠du:=λz=>by
   obtain ⟨kvs,e,_⟩:=R'.dc
   rw [z,e] at h; cases h
  have n2:t∉ah:=λz=>by
   obtain ⟨xs,e⟩:=R'.st.one z
   rw [e] at h; cases h
  rw [s _ _ q n1 n2] at h
  cases h
theorem Qh (F:bO K "ask" "ask" mz f fd) (T:Txt K mg) (oF:dQ P w K mg base (aD K "Room") "has" 1 yf (j8 K)) (Co:dQ P w K mg base (aD K "Room") "use" 3 FD (pO K)) (Ce:dQ P w K mg base (aD K "Room") "bring" 4 FT (JI K)):aH P w K mg base bI 5 f fd nL (pX K):=by
 refine F.ok mj (λvs H Q E h=>?_) (λcdv A outer st H vs Q E hr h=>?_)
 .obtain ⟨p,b,sh,pl,ru,ls,ah,du,seq,us,n,rfl,_⟩:=h
  rfl
 obtain ⟨p,b,sh,pl,ru,ls,ah,du,seq,us,n,rfl,R,tb,hn,hsl,hpl,h64,k1,k2⟩:=h
 have nd:=mj.nd
 refine ⟨_,(Ze (aO (lD (ZN oF hr.m T.fj (pv 0) (pc (pv 1) Zd))) (Ze (Zz (ZN Co hr.m T.fj (pv 0) (pc (pv 1) Zd)))
   (Zj (Zs (lu (pc fk (pc ue Zd)))))) Zw)
   (Zj (Zs (lu (pc fk (pc (ZN Ce hr.m T.fj (pv 0) (pc (pv 1) Zd)) Zd)))))),?_⟩
 obtain ⟨dx,h1⟩:=R.ob
 refine ⟨_,rfl,p,dx,_,rfl,h1,cy ..,_,rfl,p,b,sh,pl,ru,ls,ah,du,seq,us,n,rfl,R,_,rfl,?_⟩
 refine ZJ (λc=>?_) (λc=>?_)
 .refine ⟨_,rfl,p,dx,_,rfl,h1,cy ..,_,rfl,p,b,sh,pl,ru,ls,ah,du,seq,us,n,rfl,R,hn,c,hsl,λH1 R1 s1=>?_⟩
  exact ⟨(sl 2),λt ht=>k1 t _ c (s1.free R1 ht) (R1.same (Zf ht _)) (s1.trans (SR.of (Zf ht _))) Za⟩
 .refine ⟨_,rfl,p,dx,_,rfl,h1,cy ..,_,rfl,p,b,sh,pl,ru,ls,ah,du,seq,us,n,rfl,R,tb,hn,c,hpl,h64,λgone H1 gp R1 s1=>?_⟩
  exact ⟨(sl 2),λt ht=>k2 t gone _ c (s1.free R1 ht) gp (R1.same (Zf ht _)) (s1.trans (SR.of (Zf ht _))) Za⟩
end
section
theorem eT.nil (sh pl:Int) (ru:Str) (hpl:1<=pl):eT sh pl ru [] [] (λ_=>0) 0 :=
 ⟨awg,awg,λb=>by simp [dM],List.Pairwise.nil,(λb m=>nomatch m),(λr m=>nomatch m),λs=>by show ((0:Nat):Int)<=pl; lia⟩
theorem Vw (F:bO K "run_row" "run_row" Ax f fd) (T:Txt K mg) (A7:sJ P w K mg base (aD K "Room") "Room" 1 F9 (IP K)) (A3:Def P w K mg base "ask" 5 nL (pX K)):aH P w K mg base bI 7 f fd Ff (pP K):=by
 refine F.ok gI (λvs H Q E h=>?_) (λcdv A outer st H vs Q E hr h=>?_)
 .obtain ⟨sh,pl,ru,a,row,rfl,_⟩:=h
  rfl
 obtain ⟨sh,pl,ru,a,row,rfl,hS,hs0,hs1,hp0,hp1,m6,hl,bd,tb,k⟩:=h
 have nd:=gI.nd
 refine ⟨_,(Ze (bM 4 nd (Tp A7 hr.m rfl (pc (pv 0) (pc (pv 1) (pc (pv 2) Zd)))))
   (Zj (Zs (qA (Zy (eV:=(Zg Ax)) (oN:=fO) (N:=["board", "room"]) (own:=1) (js:=[4]) (by decide +kernel) rfl rfl) rfl (oj (K:=K) rfl (pv 3)) (λ_ _ _ _ _ _=>(bS 0 (show List.Nodup (["board", "room"]:List Str) by decide +kernel))) (λ_ _ _ _ _ _=>(Zm A3 hr.m rfl (pc (pv 1) (pc (pv 0) Zd)))))))),?_⟩
 refine ⟨_,rfl,_,rfl,_,rfl,λx dx nx N2 ne=>?_⟩
 have s0:aq H (upd (upd H dx (.own x)) x (.ins (aD K "Room") dx [])):=λb o e=>by
  rw [Zc (Zb e nx),Zc (Zb e N2)]
  exact e
 refine ⟨x,dx,sh,pl,ru,rfl,Za,hs0,hs1,λls ah du H1 R1 fl fd' fa o1=>⟨rfl,?_⟩⟩
 have s1:aq H H1:=λb o e=>o1 b o (s0 b o e) (Zb e nx)
 have Xw:=s0.free fl
 have Pr:=s0.free fd'
 have Ds:∀ ad∈ah,H ad=none:=λad m=>s0.free (fa ad m)
 refine gN ?_
 dsimp only
 refine ⟨_,rfl,a,rfl,⟨_,s1.seq hS⟩,λl hl'=>?_⟩
 have k8:H l=none:=s1.free hl'
 have zk:l≠ls:=λz'=>by rw [z',R1.st.top] at hl'; cases hl'
 have zj:l∉ah/\l≠du:=by
  refine ⟨λm=>?_,λz=>?_⟩
  .obtain ⟨xs,e⟩:=R1.st.one m
   rw [e] at hl'; cases hl'
  .obtain ⟨kvs,e,_⟩:=R1.dc
   rw [z,e] at hl'; cases hl'
 refine o9 (K:=K) (a:=a) (xs:=row.map V.int) (l:=l) (λj ys σ' G=>∃ (v0:Option V) (as:List Addr) (seq:List Int) (us:Int->Int),σ'=[v0,some (.ref x)]/\ys=as.map V.ref/\as.length=j/\G l=some (.lst ys)/\aF K G x sh pl ru ls ah du seq us j/\eT sh pl ru (aK sh pl ru row j).1 seq us j/\seq.length<=j /\
   (∀ (m:Nat) (ad:Addr) (f:Bool×Option Int),as[m]?=some ad->(aK sh pl ru row j).2[m]?=some f->G ad=some (.tup [.bl f.1,bg f.2]))/\aq H G)
  ⟨none,[],[],_,rfl,rfl,rfl,Za,R1.same (Zf hl' _),eT.nil sh pl ru hp0,aNS _,λm ad f h=>(by simp at h),s1.trans (Zf hl' _)⟩ (λj ys σ' G _ ⟨_,_,_,_,_,_,_,_,_,_,_,_,q⟩=>q.seq hS) ?_ ?_
 .rintro j y ys σ' G hj hy hys ⟨v0,as,seq,us,rfl,rfl,hlen,g1,R,L,Om,q2,s2⟩
  obtain ⟨z,hz,rfl⟩:=sA hy
  have Xp:j<row.length:=(aw7.mp hz).1
  have eg:row.getD j 0=z:=by rw [aPI,hz]; rfl
  have PM:(Zi sh (z % sh) seq).length<64:=by have:=L.cap (z % sh); lia
  have Nf:Tb K G:=tb.same s2
  obtain ⟨_,WW,Nt⟩:=DV sh pl ru row j
  have e1:(aK sh pl ru row (j+1)).1=(aL sh pl ru j z (aK sh pl ru row j).1).1:=by rw [← eg]; rfl
  have e2:(aK sh pl ru row (j+1)).2=(aK sh pl ru row j).2++[(aL sh pl ru j z (aK sh pl ru row j).1).2]:=by rw [← eg]; rfl
  have fin:∀ (t:Addr) (H':Hp) (seq':List Int) (us':Int->Int) (f:Bool×Option Int),G t=none->aF K H' x sh pl ru ls ah du seq' us' (j+1)->SR ah du G H'->H' t=some (.tup [.bl f.1,bg f.2])->(aL sh pl ru j z (aK sh pl ru row j).1).2=f->eT sh pl ru (aK sh pl ru row (j+1)).1 seq' us' (j+1)->seq'.length<=j+1 ->
    eX (row.map V.int).length l (λj ys σ' G=>∃ (v0:Option V) (as:List Addr) (seq:List Int) (us:Int->Int),σ'=[v0,some (.ref x)]/\ys=as.map V.ref/\as.length=j/\G l=some (.lst ys)/\aF K G x sh pl ru ls ah du seq us j/\eT sh pl ru (aK sh pl ru row j).1 seq us j/\seq.length<=j /\
     (∀ (m:Nat) (ad:Addr) (f:Bool×Option Int),as[m]?=some ad->(aK sh pl ru row j).2[m]?=some f->G ad=some (.tup [.bl f.1,bg f.2]))/\aq H G) j (as.map V.ref) [some (.int z),some (.ref x)] (.ref t) H':=by
   intro t H' seq' us' f ht R' sr wZ hf L' ls'
   have p8:l≠t:=Zb g1 ht
   have qk:=sr _ _ g1 zj.2 zj.1
   have sG:aq H H':=λb o e=>sr _ _ (s2 _ _ e) (Zb e Pr) λm=>by rw [Ds b m] at e; cases e
   refine eX.of (aRN (Zo (by rw [aAt]; lia))) hj hys qk ⟨_,as++[t],seq',us',rfl,by rw [awR]; rfl,by rw [aUV,hlen]; rfl,Za,?_,L',ls',λm ad f' hm hf'=>?_,?_⟩
   .obtain ⟨Xb,Xa,W9,W8,W7,W6⟩:=R'.off
    obtain ⟨DA,w1⟩:=R'.ob
    obtain ⟨kvs,w2,w3⟩:=R'.dc
    have NR:x≠l:=λz'=>by rw [z',qk] at w1; cases w1
    exact ⟨⟨DA,by rw [Zc NR]; exact w1⟩,R'.st.other _ zk zj.1,⟨kvs,by rw [Zc (a38 zj.2)]; exact w2,w3⟩,R'.nd,R'.s0,R'.s1⟩
   .rw [e2,hf] at hf'
    by_cases wM:m<as.length
    .rw [a6D wM] at hm
     rw [a6D (by lia)] at hf'
     have q:=q2 m ad f' hm hf'
     have CG:ad≠l:=λe=>by rw [e,g1] at q; cases q
     rw [Zc CG]
     exact sr.keep R q (λ_ e=>by cases e) λ_ e=>by cases e
    .rw [aFp (by lia)] at hm
     have em:m=as.length:=by
      have:=(aw7.mp hm).1
      simp at this; lia
     subst em
     rw [aL9] at hm
     cases hm
     rw [aFp (by lia),Nt,hlen,aL9] at hf'
     cases hf'
     rw [Zc (a38 p8)]
     exact wZ
   .intro e o y'
    rw [Zc (Zb y' k8)]
    exact sG _ _ y'
  refine ⟨_,rfl,_,rfl,x,z,sh,pl,ru,ls,ah,du,seq,us,j,rfl,R,Nf,by lia,by lia,hp0,PM,λt H' hin ht R' sr wZ=>?_,λt gone H' hin ht gp R' sr wZ=>?_⟩
  .have Dj:z∈dM (aK sh pl ru row j).1:=(L.mem z).mp hin
   cases hr':az (aK sh pl ru row j).1 z with
   | none=>exact absurd Dj (aE.mp hr')
   | some r =>
    have es:aL sh pl ru j z (aK sh pl ru row j).1=(aN (aK sh pl ru row j).1 ⟨z,r.t0,j,r.n+1⟩,(true,none)):=by
     unfold aL
     rw [hr']
    refine fin t H' _ _ (true,none) ht R' sr wZ (by rw [es]) ?_ ?_
    .rw [e1,es]
     exact L.found hr' λx=>rfl
    .split
     .rw [aUV,afg hin]
      have:0<seq.length:=aTm hin
      have:[z].length=1:=rfl
      lia
     .lia
  .have Dj:z∉dM (aK sh pl ru row j).1:=λm=>hin ((L.mem z).mpr m)
   have hr':=aE.mpr Dj
   have hg:=Q3 L hp0 m6 gp
   have es:aL sh pl ru j z (aK sh pl ru row j).1=(aN (bC (aK sh pl ru row j).1 gone) ⟨z,j,j,0⟩,(false,gone)):=by
    unfold aL
    rw [hr',hg]
   refine fin t H' _ _ (false,gone) ht R' sr wZ (by rw [es]) ?_ ?_
   .rw [e1,es]
    refine L.missed hin hg (λx=>rfl) ?_
    by_cases c:((Zi sh (z % sh) seq).length:Int)<pl
    .exact .inl c
    .obtain ⟨g,rest,rfl,pm,_⟩:=gp.2 c
     exact .inr ⟨g,pm.mem_iff.mp a5w,rfl⟩
   .rw [aUV]
    have:=K8 (seq:=seq) (g:=gone)
    have:[z].length=1:=rfl
    lia
 .rintro ys σ' G hys ⟨v0,as,seq,us,rfl,rfl,hlen,g1,R,L,Om,q2,s2⟩
  rw [aAt] at hlen
  refine k l G k8 s2 ⟨as,g1,?_,λm ad f h1 h2=>?_⟩
  .rw [sy,hlen]
  .refine q2 m ad f h1 ?_
   rw [aAt]
   exact h2
end
def bz (sh:Int) (row:List Int) (j:Nat):Option Int:=if row.getD j 0∈hist sh row (row.getD j 0) j then some ((dd ((hist sh row (row.getD j 0) j).takeWhile λy=>decide (y≠row.getD j 0))).length:Int) else none
def cK (sh:Int) (row:List Int):List (Option Int):=(List.range row.length).map (bz sh row)
theorem F4 {z x:Int} (h:x≠z):∀ l:List Int,(l.filter λy=>decide (y≠x)).takeWhile (λy=>decide (y≠z))=(l.takeWhile λy=>decide (y≠z)).filter λy=>decide (y≠x)
 | []=>rfl
 | y :: l=>by
  rw [aTO,avi]
  by_cases e1:y=x
  .rw [amU (by simp [e1]),atn (by rw [e1]; simpa using h),aTO,amU (by simp [e1])]
   exact F4 h l
  .rw [atn (by simpa using e1),avi]
   by_cases e2:y=z
   .rw [amU (by simp [e2]),amU (by simp [e2])]; rfl
   .rw [atn (by simpa using e2),atn (by simpa using e2),aTO,atn (by simpa using e1),F4 h l]
theorem K5 (z:Int):∀ l:List Int,(dd l).takeWhile (λy=>decide (y≠z))=dd (l.takeWhile λy=>decide (y≠z))
 | []=>rfl
 | x :: l=>by
  rw [dd,avi,avi]
  by_cases e:x=z
  .rw [amU (by simp [e]),amU (by simp [e])]; rfl
  .rw [atn (by simpa using e),atn (by simpa using e),F4 e,K5 z l]
   rfl
theorem K4 {z:Int}:∀ (l:List Int) (k:Nat),z∈l.take k↔z∈l/\(l.takeWhile λy=>decide (y≠z)).length<k
 | [],k=>by simp
 | x :: l,0=>by simp
 | x :: l,k+1=>by
  rw [List.take_succ_cons,asf,asf,avi,K4 l k]
  by_cases e:x=z
  .rw [amU (by simp [e])]
   simp [e]
  .rw [atn (by simpa using e),bc9]
   have e':¬ z=x:=λq=>e q.symm
   constructor
   .rintro (h | ⟨h1,h2⟩)
    .exact absurd h e'
    .exact ⟨.inr h1,by lia⟩
   .rintro ⟨h | h,h2⟩
    .exact absurd h e'
    .exact .inr ⟨h,by lia⟩
theorem T6 (sh:Int) (n:Nat) (row:List Int) (j:Nat):decide (row.getD j 0∈cX sh (n+1) row (row.getD j 0) j)=match bz sh row j with | some d=>decide (d<(n:Int)+1) | none=>false:=by
 unfold cX bz
 generalize row.getD j 0=z
 generalize hist sh row z j=h
 rw [aOQ,a8m,K4,K5,cO]
 by_cases c:z∈h
 .rw [atn c]
  show _↔decide _=true
  rw [a8m]
  constructor
  .rintro ⟨_,q⟩; lia
  .intro q; exact ⟨c,by lia⟩
 .rw [amU c]
  constructor
  .rintro ⟨q,_⟩; exact absurd q c
  .intro q; cases q
def bB (sh pl:Int) (ru:Str) (row:List Int):Nat:=(gr sh pl ru row).countP λf=>!f.1
theorem Ss (sh:Int) (n:Nat) (row:List Int):bB sh ((n:Int)+1) "old" row=(List.range row.length).countP λj=>!(match bz sh row j with | some d=>decide (d<(n:Int)+1) | none=>false):=by
 unfold bB gr
 have e:=(JK sh n row row.length (aNS _)).2
 have h:∀ l:List (Bool×Option Int),l.countP (λf=>!f.1)=(l.map (·.1)).countP (λb=>!b):=λl=>by rw [amw]; rfl
 rw [h,e,amw]
 refine aC6 λj _=>?_
 show (!decide (row.getD j 0∈cX sh (n+1) row (row.getD j 0) j))=true↔_
 rw [T6]
def pW (K:W.Frag):Sp:=λvs H Q _=>∃ (sh:Int) (a:Addr) (row:List Int),vs=[.int sh,.ref a]/\ak K H a (row.map V.int)/\1<=sh/\sh<=64/\row.length<=400/\j5 9999 row /\
 ∀ (l:Addr) (H':Hp),H l=none->aq H H'->H' l=some (.lst ((cK sh row).map bg))->Q (.ref l) H'
def IM (K:W.Frag):Sp:=λvs H Q _=>∃ (sh pl:Int) (ru:Str) (a:Addr) (row:List Int),vs=[.int sh,.int pl,.str ru,.ref a]/\ak K H a (row.map V.int)/\1<=sh/\sh<=64/\1<=pl/\pl<=16/\nJ ru/\row.length<=400/\j5 9999 row/\Tb K H /\
 ∀ H',aq H H'->Q (.int (bB sh pl ru row)) H'
theorem QZ (sh:Int) (row:List Int):(cK sh row).length=row.length:=by unfold cK; rw [aAt,aan]
theorem T5 (F:bO K "misses" "misses" AE f fd) (T:Txt K mg) (Bg:Def P w K mg base "run_row" 7 Ff (pP K)):aH P w K mg base bI 8 f fd E9 (IM K):=by
 refine F.ok iy (λvs H Q E h=>?_) (λcdv A outer st H vs Q E hr h=>?_)
 .obtain ⟨sh,pl,ru,a,row,rfl,_⟩:=h
  rfl
 obtain ⟨sh,pl,ru,a,row,rfl,hS,hs0,hs1,hp0,hp1,m6,hl,bd,tb,k⟩:=h
 have nd:=iy.nd
 refine ⟨_,(Zj (Zs (Zk (Zn (K:=K) rfl) rfl T.fZ aTr (pc (EY (Zy (eV:=(Zg AE)) (oN:=gV) (N:=["found", "out"]) (own:=2) (js:=[]) (by decide +kernel) rfl rfl) rfl (oj (K:=K) rfl (Zm Bg hr.m rfl (pc (pv 0) (pc (pv 1) (pc (pv 2) (pc (pv 3) Zd)))))) (λ_ _ _ _ _ _=>(kJ (K:=K) (n:=2) rfl rfl (Zt (bS 0 (show List.Nodup (["found", "out"]:List Str) by decide +kernel)) (Zt (bS 1 (show List.Nodup (["found", "out"]:List Str) by decide +kernel)) kK)))) (λ_ _ _ _ _ _=>(se (lD (pv 0)))) (λ_ _ _ _ _ _=>(pv 1))) Zd)))),?_⟩
 refine ⟨_,rfl,_,rfl,_,rfl,_,rfl,sh,pl,ru,a,row,rfl,hS,hs0,hs1,hp0,hp1,m6,hl,bd,tb,λlr H1 hlr s1 told=>?_⟩
 obtain ⟨ah,p1,p2,p3⟩:=told
 have rl:=sy sh pl ru row
 have hmiss:bB sh pl ru row=(gr sh pl ru row).countP λf=>!f.1:=rfl
 generalize gr sh pl ru row=fs at *
 refine ⟨lr,rfl,⟨_,ak.of p1⟩,λl hl'=>?_⟩
 refine o9 (K:=K) (a:=lr) (xs:=ah.map V.ref) (l:=l) (λj ys σ' G'=>∃ v0 v1:Option V,σ'=[v0,v1]/\ys.length=(fs.take j).countP (λf=>!f.1)/\G'=upd H1 l (.lst ys))
  ⟨none,none,rfl,rfl,rfl⟩ (λj ys σ' G' _ ⟨_,_,_,_,q⟩=>ak.of (by rw [q,Zc (Zb p1 hl')]; exact p1)) ?_ ?_
 .rintro j x ys σ' G' hj kB hys ⟨v0,v1,rfl,hy,rfl⟩
  rw [aYu] at kB
  cases ea:ah[j]? with
  | none=>rw [ea] at kB; cases kB
  | some ad =>
   rw [ea] at kB
   cases kB
   have HN:j<fs.length:=by rw [← p2]; exact (aw7.mp ea).1
   have Iw:=p3 j ad fs[j] ea (aDi HN)
   have tk:(fs.take (j+1)).countP (λf=>!f.1)=(fs.take j).countP (λf=>!f.1)+(if (!fs[j].1)=true then 1 else 0):=by
    rw [avq,aDi HN,aaS]
    show _+List.countP _ [fs[j]]=_
    rw [aJW,List.countP_nil,aPW]
   refine ⟨ad,_,rfl,bG.of (by rw [Zc (Zb Iw hl')]; exact Iw),rfl,_,_,rfl,_,_,rfl,rfl,_,rfl,_,rfl,?_⟩
   refine E6 (λc'=>?_) (λc'=>?_)
   .rw [atn c'] at tk
    exact ⟨_,rfl,eX.of (aRN (Zo (by rw [aAt]; lia))) hj hys Za ⟨_,_,rfl,by rw [aUV,hy,tk]; rfl,xX⟩⟩
   .rw [amU c',a99] at tk
    exact lJ.of hj hys ⟨_,_,rfl,hy.trans tk.symm,rfl⟩
 rintro ys σ' G' _ ⟨v0,v1,rfl,hy,rfl⟩
 rw [aAt,p2,afX] at hy
 refine ⟨l,_,rfl,.inl (ak.of Za),?_⟩
 rw [hy]
 have q:=k _ (s1.trans (Zf hl' (.lst ys)))
 rw [hmiss] at q
 exact q
def seg (row:List Int) (p t:Nat):List Int:=((row.take p).drop t).reverse
theorem JH (row:List Int) (p t:Nat) (h:t<=p):(row.take p).reverse=seg row p t++(row.take t).reverse:=by
 unfold seg
 rw [← aPA]
 congr 1
 have e:row.take t=(row.take p).take t:=by rw [take_take,a3I h]
 rw [e,a6I]
theorem Sq {row:List Int} {p t:Nat} {x:Int} (h:t<p) (hx:row[t]?=some x):seg row p t=seg row p (t+1)++[x]:=by
 unfold seg
 have hl:t<(row.take p).length:=by
  have:=(aw7.mp hx).1
  rw [a9v]; lia
 rw [aLh hl,List.reverse_cons]
 congr 1
 have e:(row.take p)[t]=x:=by
  rw [getElem_take]
  exact (aw7.mp hx).2
 rw [e]
theorem JG (row:List Int) (p:Nat):seg row p p=[]:=by
 unfold seg
 rw [a7N (List.length_take_le _ _)]
 rfl
theorem K3 {sh:Int} {row:List Int} {p:Nat} {b:Int} (hb:row.getD p 0=b) (h:b∉seg row p 0):bz sh row p=none:=by
 unfold bz
 rw [hb,amU]
 intro m
 have:=(afi.mp m).1
 rw [JH row p 0 (aze _),take_zero,List.reverse_nil,amK] at this
 exact h this
theorem K2 {sh:Int} {row:List Int} {p t:Nat} {b:Int} {ks:List Int} (hb:row.getD p 0=b) (ht:t<p) (hx:row[t]?=some b) (h:b∉seg row p (t+1)) (hn:ks.Nodup) (hk:∀ x,x∈ks↔x∈(seg row p (t+1)).filter λx=>Zr sh x b):bz sh row p=some (ks.length:Int):=by
 have e:hist sh row b p=((seg row p (t+1)).filter λx=>Zr sh x b)++b :: ((row.take t).reverse.filter λx=>Zr sh x b):=by
  unfold hist
  rw [JH row p (t+1) (by lia),avq,hx,aPA,aXR]
  congr 1
  show List.filter _ (b :: (row.take t).reverse)=_
  rw [aTO,atn (ZX sh b)]
 unfold bz
 rw [hb,e,atn (ap3 _ a5w)]
 congr 1
 have tw:(((seg row p (t+1)).filter λx=>Zr sh x b)++b :: ((row.take t).reverse.filter λx=>Zr sh x b)).takeWhile (λy=>decide (y≠b))=(seg row p (t+1)).filter λx=>Zr sh x b:=by
  rw [List.takeWhile_append_of_pos,avi,amU (by simp),amK]
  intro y hy
  have:y≠b:=λq=>h (q ▸ (afi.mp hy).1)
  simpa using this
 rw [tw]
 have:=((aGM hn (f9 ((seg row p (t+1)).filter λx=>Zr sh x b))).mpr λx=>(hk x).trans cO.symm).length_eq
 rw [this]
theorem QY (ks:List Int) (x:Int):HO.set (λk'=>decide (k'∈ks) || decide (k'=x)) (if decide (x∈ks)=true then ks.length else ks.length+1)=HO.set (λk=>decide (k∈if x∈ks then ks else ks++[x])) (if x∈ks then ks else ks++[x]).length:=by
 by_cases c:x∈ks
 .rw [atn c,atn (aGg c)]
  congr 1
  funext k'
  rw [aOQ,a09,a8m,a8m]
  constructor
  .rintro (h | h)
   .exact h
   .rw [h]; exact c
  .exact λh=>.inl h
 .rw [amU c,amU (by simpa using c),aUV]
  congr 1
  funext k'
  rw [aOQ,a09,a8m,a8m,a8m,aRS,ax6]
section
def vt (K:W.Frag):Sp:=λvs H Q _=>∃ (sh:Int) (a:Addr) (row:List Int) (p:Nat),vs=[.int sh,.ref a,.int p]/\ak K H a (row.map V.int)/\1<=sh/\p<row.length/\row.length<=400 /\
 ∀ H',aq H H'->Q (bg (bz sh row p)) H'
theorem Wi (F:bO K "beneath_at" "beneath_at" FP f fd) (T:Txt K mg) (iB:Def P w K mg base "shelf_of" 1 ZZ sj):aH P w K mg base bI 2 f fd FO (vt K):=by
 refine F.ok dY (λvs H Q E h=>?_) (λcdv A outer st H vs Q E hr h=>?_)
 .obtain ⟨sh,a,row,p,rfl,_⟩:=h
  rfl
 obtain ⟨sh,a,row,p,rfl,hS,hs0,hp,hl,k⟩:=h
 have nd:=dY.nd
 have hu:=cY hr
 refine ⟨_,(Ze (bM 3 nd (aG (Zp (K:=K) rfl) (pv 1) (pv 2) (λ_ _=>rfl)))
   (Ze (bM 4 nd (Va UL rfl T.A5 UQ))
   (Ze (lS aVe rfl (Fi rfl T.ko (pc (aa lC (pv 2) Zh) (pc (cG lB Zh) (pc (cG lB Zh) Zd)))) (bS 5 nd) (Ze (bM 6 nd (aG (Zp (K:=K) rfl) (pv 1) (pv 5) (λ_ _=>rfl)))
   (Ze (aO (Zu br (pv 6) (pv 3) (Zx _)) (Zj (Zs (Zk UP rfl T.fZ aTr (pc (pv 4) Zd)))) Zw)
   (Zj (aO (Zu br (Zm iB hr.m rfl (pc (pv 0) (pc (pv 6) Zd))) (Zm iB hr.m rfl (pc (pv 0) (pc (pv 3) Zd))) (Zx _)) (Zj (Zz (jt (K:=K) rfl (bK PySem.F.plainAttrs_set PySem.F.slot_set_add PySem.F.type_set_add RO (pv 4) (pc (pv 6) Zd))))) Zw)))))
   (Zj (Zs ue))))),?_⟩
 have HP:row[p]?=some row[p]:=aDi hp
 have Dk:cZ (row.map V.int) (p:Int)=some (.int row[p]):=ZS (by rw [aYu,HP]; rfl)
 have eg:row.getD p 0=row[p]:=by rw [aPI,HP]; rfl
 generalize row[p]=b at *
 refine ⟨_,rfl,_,rfl,a,_,_,_,rfl,rfl,hS,Dk,?_⟩
 refine ⟨rfl,λd hd=>?_⟩
 have s0:=Zf hd (.set (λ_=>false) 0)
 have e0:(HO.set (λ_=>false) 0)=HO.set (λk=>decide (k∈([]:List Int))) ([]:List Int).length:=by
  congr 1
 refine ⟨_,rfl,_,_,rfl,rfl,_,rfl,_,rfl,_,_,rfl,⟨by lia,by lia,by lia,by lia⟩,EW (hi:=(p:Int) - 1) (n:=((p:Int) - 1 - -1).toNat) (λj σ G=>∃ (v5 v6:Option V) (ks:List Int),σ=[some (.int sh),some (.ref a),some (.int p),some (.int b),some (.ref d),v5,v6]/\b∉seg row p (p - j)/\ks.Nodup/\(∀ x,x∈ks↔x∈(seg row p (p - j)).filter λx=>Zr sh x b)/\G d=some (.set (λk=>decide (k∈ks)) ks.length)/\aq H G)
  ⟨none,none,[],rfl,by rw [Nat.sub_zero,JG]; simp,awg,by rw [Nat.sub_zero,JG]; simp,by rw [Za,e0],s0⟩ ?_ ?_⟩
 .rintro j σ G hj ⟨v5,v6,ks,rfl,k7,hnd,hks,hd2,s3⟩
  have Xq:j<p:=by lia
  have hml:p - 1 - j<row.length:=by lia
  have hget:row[p - 1 - j]?=some row[p - 1 - j]:=aDi hml
  have hat:cZ (row.map V.int) ((p:Int) - 1 - (j:Int))=some (.int row[p - 1 - j]):=by
   have q:cZ (row.map V.int) ((p - 1 - j:Nat):Int)=some (.int row[p - 1 - j]):=ZS (by rw [aYu,hget]; rfl)
   rw [show ((p - 1 - j:Nat):Int)=(p:Int) - 1 - (j:Int) by lia] at q
   exact q
  rw [show p - j=(p - 1 - j)+1 by lia] at k7 hks
  generalize hm:p - 1 - j=m at *
  generalize row[m]=z at *
  refine ⟨_,rfl,_,rfl,a,_,_,_,rfl,rfl,s3.seq hS,hat,?_⟩
  refine ⟨_,rfl,_,rfl,rfl,_,rfl,?_⟩
  by_cases c:z=b
  .refine dh (by simp [c]) ?_
   rw [c] at hget
   have rH:=K2 (sh:=sh) eg (by lia) hget k7 hnd hks
   refine ⟨_,rfl,d,_,_,rfl,hd2,?_⟩
   have q:=k G s3
   rw [rH] at q
   exact q
  .refine b9 (by simp [c]) ?_
   have Dv:=Sq (p:=p) (by lia) hget
   have qg:b∉seg row p m:=by
    rw [Dv]
    intro q
    rcases aJX.mp q with q | q
    .exact k7 q
    .exact c (aBr.mp q).symm
   have kl:ks.length<=400:=by
    have h1:=((aGM hnd (f9 ((seg row p (m+1)).filter λx=>Zr sh x b))).mpr λx=>(hks x).trans cO.symm).length_eq
    have h2:∀ l:List Int,(dd l).length<=l.length:=λl=>by
     induction l with
     | nil=>exact aNS _
     | cons y l ih =>
      unfold dd
      have:=aKi (λz=>decide (z≠y)) (dd l)
      rw [bc9,bc9]; lia
    have h3:=h2 ((seg row p (m+1)).filter λx=>Zr sh x b)
    have h4:=aKi (λx=>Zr sh x b) (seg row p (m+1))
    have h5:(seg row p (m+1)).length<=row.length:=by unfold seg; rw [aBw,ad0,a9v]; lia
    lia
   have em:p - (j+1)=m:=by lia
   refine ⟨_,rfl,_,rfl,sh,z,rfl,hs0,_,rfl,_,rfl,sh,b,rfl,hs0,rfl,_,rfl,?_⟩
   refine E6 (λc2=>?_) (λc2=>?_)
   .refine ⟨_,rfl,.inr (.inr (.inr ⟨rfl,_,_,hd2⟩)),_,rfl,d,_,_,z,rfl,rfl,hd2,by lia,?_⟩
    rw [QY]
    refine ⟨_,_,(if z∈ks then ks else ks++[z]),rfl,by rw [em]; exact qg,?_,λx=>?_,Za,λe u y=>by rw [Zc (Zb y hd)]; exact s3 _ _ y⟩
    .split
     .exact hnd
     .rename_i N1; exact lT hnd N1
    .rw [em,Dv,aXR,aRS,← hks x]
     have e1:List.filter (λx=>Zr sh x b) [z]=[z]:=by rw [aTO,atn (show Zr sh z b=true from c2)]; rfl
     rw [e1]
     by_cases cin:z∈ks
     .rw [atn cin]
      constructor
      .exact λq=>.inl q
      .rintro (q | q)
       .exact q
       .rw [aBr.mp q]; exact cin
     .rw [amU cin,aRS]
   .refine ⟨_,_,ks,rfl,by rw [em]; exact qg,hnd,λx=>?_,hd2,s3⟩
    rw [em,Dv,aXR,aRS,← hks x]
    have e1:List.filter (λx=>Zr sh x b) [z]=[]:=by rw [aTO,amU (show ¬ Zr sh z b=true from c2)]; rfl
    rw [e1]
    simp
 .rintro σ G ⟨v5,v6,ks,rfl,k7,hnd,hks,hd2,s3⟩
  rw [show p - ((p:Int) - 1 - -1).toNat=0 by lia] at k7
  have rH:=K3 (sh:=sh) eg k7
  have q:=k G s3
  rw [rH] at q
  exact q
theorem Vv (F:bO K "beneath" "beneath" Aw f fd) (T:Txt K mg) (Cd:Def P w K mg base "beneath_at" 2 FO (vt K)):aH P w K mg base bI 3 f fd Fe (pW K):=by
 refine F.ok gJ (λvs H Q E h=>?_) (λcdv A outer st H vs Q E hr h=>?_)
 .obtain ⟨sh,a,row,rfl,_⟩:=h
  rfl
 obtain ⟨sh,a,row,rfl,hS,hs0,hs1,hl,bd,k⟩:=h
 have nd:=gJ.nd
 refine ⟨_,(Zj (Zs (qA (Zy (eV:=(Zg Aw)) (oN:=fP) (N:=["at", "shelves", "row"]) (own:=1) (js:=[0,1]) (by decide +kernel) rfl rfl) rfl (pq rfl T.ko (pc (Zk (Zn (K:=K) rfl) rfl T.fZ aTr (pc (pv 1) Zd)) Zd)) (λ_ _ _ _ _ _=>(bS 0 (show List.Nodup (["at", "shelves", "row"]:List Str) by decide +kernel))) (λ_ _ _ _ _ _=>(Zm Cd hr.m rfl (pc (pv 1) (pc (pv 2) (pc (pv 0) Zd)))))))),?_⟩
 have len:(row.map V.int).length=row.length:=aAt ..
 refine ⟨_,rfl,a,_,rfl,.inl hS,_,rfl,by lia,by lia,λl C9=>?_⟩
 rw [len,show ((row.length:Int)).toNat=row.length by lia]
 refine uz (lo:=0) (n:=row.length) (l:=l) (λj ys σ' G'=>∃ v0:Option V,σ'=[v0,some (.int sh),some (.ref a)]/\ys=((List.range j).map (bz sh row)).map bg/\G' l=some (.lst ys)/\aq H G')
  ⟨none,rfl,rfl,Za,Zf C9 _⟩ ?_ ?_
 .rintro j ys σ' G' hj hys ⟨v0,rfl,rfl,q1,q2⟩
  refine ⟨_,rfl,_,rfl,_,rfl,sh,a,row,j,by rw [Int.zero_add]; rfl,q2.seq hS,hs0,hj,hl,λG2 t2=>?_⟩
  refine eX.of (aRN (Zo (by lia))) hj hys (t2 _ _ q1) ⟨_,rfl,?_,Za,λe o y=>by rw [Zc (Zb y C9)]; exact t2 _ _ (q2 _ _ y)⟩
  rw [ahI,awR,awR]
  rfl
 rintro ys σ' G' _ ⟨v0,rfl,rfl,q1,q2⟩
 exact k l G' C9 q2 q1
end
theorem L3 {f g:Nat->Nat->Bool}:∀ k,(∀ i j,i<=k->j<=k->f i j=g i j)->argBest f k=argBest g k/\argBest f k<=k
 | 0,_=>⟨rfl,aNS _⟩
 | k+1,h=>by
  obtain ⟨e,l⟩:=L3 (f:=f) (g:=g) k λi j hi hj=>h i j (by lia) (by lia)
  unfold argBest
  rw [← e,h (k+1) (argBest f k) (aNS _) (by lia)]
  refine ⟨rfl,?_⟩
  split <;> lia
def OE (ks:List Int) (g:Rec->Rec) (A:List Rec):Prop:=∀ r∈A,∀ s∈A,∀ k∈ks,(fld r k<fld s k↔fld (g r) k<fld (g s) k)/\(fld r k=fld s k↔fld (g r) k=fld (g s) k)
theorem JF {r s r' s':Rec} {x y:List Int}:∀ ks:List Int,(∀ k∈ks,(fld r k<fld s k↔fld r' k<fld s' k)/\(fld r k=fld s k↔fld r' k=fld s' k))->HT.lexLt (ks.map (fld r)++x) (ks.map (fld s)++y)=HT.lexLt (ks.map (fld r')++x) (ks.map (fld s')++y)
 | [],_=>rfl
 | k :: ks,h=>by
  rw [aWO,aWO,aWO,aWO,amV,amV,amV,amV,HT.aI,HT.aI]
  obtain ⟨h1,h2⟩:=h k a5w
  by_cases c:fld r k=fld s k
  .rw [atn c,atn (h2.mp c)]
   exact JF ks λk' hk=>h k' (amQ _ hk)
  .rw [amU c,amU (λq=>c (h2.mpr q)),aZN]
   exact h1
section
variable {sh pl:Int} {ru:Str} {g:Rec->Rec} (hb:∀ r,(g r).b=r.b)
include hb
theorem VT (b:Int) (S:List Rec):Zl sh b (S.map g)=(Zl sh b S).map g:=by
 unfold Zl
 rw [filter_map]
 congr 1
 refine aoc λr _=>?_
 show decide (V.int ((g r).b % sh)=_)=_
 rw [hb]
theorem So {S:List Rec} {b:Int} (oe:OE (rR ru) g (Zl sh b S)):bf sh pl ru (S.map g) b=bf sh pl ru S b:=by
 unfold bf
 rw [VT hb,aAt]
 generalize Zl sh b S=A at *
 split
 .rfl
 .have e:gc ru (A.map g)=gc ru A:=by
   unfold gc
   rw [aAt]
   by_cases hA:A.length=0
   .rw [hA]; rfl
   .refine (L3 _ λi j hi hj=>?_).1
    have hi':i<A.length:=by lia
    have hj':j<A.length:=by lia
    have a1:∀ k (hk:k<A.length),((A.map g).map λr=>cH ru r++[r.b]).getD k []=cH ru (g A[k])++[A[k].b]:=λk hk=>by
     rw [aPI,aYu,aYu,aDi hk]
     show cH ru (g A[k])++[(g A[k]).b]=_
     rw [hb]
    have a2:∀ k (hk:k<A.length),(A.map λr=>cH ru r++[r.b]).getD k []=cH ru A[k]++[A[k].b]:=λk hk=>by
     rw [aPI,aYu,aDi hk]; rfl
    rw [a1 i hi',a1 j hj',a2 i hi',a2 j hj']
    exact (JF (rR ru) λk hk=>oe A[i] (a2P hi') A[j] (a2P hj') k hk).symm
  rw [e,aYu,Option.map_map]
  congr 1
  funext r
  exact hb r
theorem T4 (S:List Rec) (b:Int):az (S.map g) b=(az S b).map g:=by
 unfold az
 rw [List.find?_map]
 congr 2
 funext r
 show decide ((g r).b=b)=_
 rw [hb]
theorem K1 (S:List Rec) (q:Rec):aN (S.map g) (g q)=(aN S q).map g:=by
 unfold aN
 have a:(S.map g).any (λr=>decide (r.b=(g q).b))=S.any λr=>decide (r.b=q.b):=by
  rw [any_map]
  congr 1
  funext r
  show decide ((g r).b=(g q).b)=_
  rw [hb,hb]
 rw [a]
 split
 .rw [aPs,aPs]
  refine ars λr _=>?_
  show (if (g r).b=(g q).b then g q else g r)=g (if r.b=q.b then q else r)
  rw [hb,hb]
  split <;> rfl
 .rw [awR]; rfl
theorem T3 (S:List Rec) (b:Int):bw (S.map g) b=(bw S b).map g:=by
 unfold bw
 rw [filter_map]
 congr 1
 refine aoc λr _=>?_
 show decide ((g r).b≠b)=_
 rw [hb]
theorem Uk (S:List Rec) (o:Option Int):bC (S.map g) o=(bC S o).map g:=by
 cases o with
 | none=>rfl
 | some x=>exact T3 hb S x
end
theorem dH {sh b:Int} {S:List Rec} {r:Rec}:r∈Zl sh b S↔r∈S/\Zr sh r.b b=true:=mem_filter
theorem VS {sh z:Int} {S:List Rec}:az (Zl sh z S) z=az S z:=by
 induction S with
 | nil=>rfl
 | cons r S ih =>
  unfold Zl az at ih ⊢
  rw [aTO]
  by_cases c:decide (V.int (r.b % sh)=V.int (z % sh))=true
  .rw [atn c]
   by_cases e:r.b=z
   .rw [avh (by simpa using e),avh (by simpa using e)]
   .rw [aQ2 (by simpa using e),aQ2 (by simpa using e)]
    exact ih
  .rw [amU c]
   have e:¬ r.b=z:=λq=>c (by rw [q]; simp)
   rw [aQ2 (by simpa using e)]
   exact ih
theorem L5 {sh z:Int} {S:List Rec}:Zl sh z (Zl sh z S)=Zl sh z S:=by
 unfold Zl
 rw [ac1]
 congr 1
 funext r
 rw [Bool.and_self]
theorem Vu {sh pl:Int} {ru:Str} {S:List Rec} {z:Int}:bf sh pl ru (Zl sh z S) z=bf sh pl ru S z:=by
 unfold bf
 rw [L5]
theorem Mb {sh c:Int} {S:List Rec} {q:Rec} (h:Zr sh q.b c=true):Zl sh c (aN S q)=aN (Zl sh c S) q:=by
 have hq:decide (V.int (q.b % sh)=V.int (c % sh))=true:=h
 have any:(Zl sh c S).any (λr=>decide (r.b=q.b))=S.any λr=>decide (r.b=q.b):=by
  unfold Zl
  rw [List.any_filter,aOQ,ayr,ayr]
  constructor
  .rintro ⟨r,hr,e⟩
   exact ⟨r,hr,(ba6 _ _ ▸ e).2⟩
  .rintro ⟨r,hr,e⟩
   refine ⟨r,hr,?_⟩
   rw [ba6]
   exact ⟨by rw [a6b e]; exact hq,e⟩
 unfold aN
 rw [any]
 split
 .unfold Zl
  rw [filter_map]
  congr 1
  refine aoc λr _=>?_
  show decide (V.int ((if r.b=q.b then q else r).b % sh)=V.int (c % sh))=_
  by_cases e:r.b=q.b
  .rw [atn e,e]
  .rw [amU e]
 .unfold Zl
  rw [aXR]
  congr 1
  rw [aTO,atn hq]; rfl
theorem L8 {sh c:Int} {S:List Rec} {q:Rec} (h:¬ Zr sh q.b c=true):Zl sh c (aN S q)=Zl sh c S:=by
 have hq:¬ decide (V.int (q.b % sh)=V.int (c % sh))=true:=h
 unfold aN
 split
 .have key:∀ T:List Rec,List.filter (λr=>decide (V.int (r.b % sh)=V.int (c % sh))) (T.map λr=>if r.b=q.b then q else r)=List.filter (λr=>decide (V.int (r.b % sh)=V.int (c % sh))) T:=λT=>by
   induction T with
   | nil=>rfl
   | cons r T ih =>
    rw [aWO,aTO,aTO]
    by_cases e:r.b=q.b
    .rw [atn e,amU hq,amU (by rw [e]; exact hq)]; exact ih
    .rw [amU e,ih]
  exact key S
 .unfold Zl
  rw [aXR]
  have:List.filter (λr=>decide (V.int (r.b % sh)=V.int (c % sh))) [q]=[]:=by rw [aTO,amU hq]; rfl
  rw [this,amK]
theorem V8 {sh c:Int} {S:List Rec} {x:Int}:Zl sh c (bw S x)=bw (Zl sh c S) x:=by
 unfold Zl bw
 rw [ac1,ac1]
 congr 1
 funext r
 exact Bool.and_comm _ _
theorem Ww {sh c:Int} {S:List Rec} {x:Int} (h:¬ Zr sh x c=true):Zl sh c (bw S x)=Zl sh c S:=by
 unfold Zl bw
 rw [ac1]
 refine aoc λr _=>?_
 by_cases e:r.b=x
 .have:decide (V.int (r.b % sh)=V.int (c % sh))=false:=by
   cases q:decide (V.int (r.b % sh)=V.int (c % sh)) with
   | false=>rfl
   | true=>exact absurd (show Zr sh x c=true by rw [← e]; exact q) h
  rw [this]; rfl
 .have:decide (r.b≠x)=true:=aGg e
  rw [this,Bool.and_true]
theorem QX {sh pl:Int} {ru:Str} {S:List Rec} {z x:Int} (h:bf sh pl ru S z=some x):Zr sh x z=true:=by
 unfold bf at h
 split at h
 .cases h
 .cases e:(Zl sh z S)[gc ru (Zl sh z S)]? with
  | none=>rw [e] at h; cases h
  | some r =>
   rw [e] at h
   have hr:=dH.mp (abg e)
   rw [← ado h]
   exact hr.2
theorem QW {sh pl:Int} {ru:Str} {i:Nat} {S:List Rec} {z c:Int} (h:Zr sh z c=true):Zl sh c (aL sh pl ru i z S).1=(aL sh pl ru i z (Zl sh c S)).1/\(aL sh pl ru i z S).2=(aL sh pl ru i z (Zl sh c S)).2:=by
 have ec:Zl sh c S=Zl sh z S:=by
  unfold Zl
  refine aoc λr _=>?_
  rw [aA.mp h]
 rw [ec]
 have er:az (Zl sh z S) z=az S z:=VS
 have Ii:∀ T,Zl sh c T=Zl sh z T:=λT=>by
  unfold Zl
  refine aoc λr _=>?_
  rw [aA.mp h]
 unfold aL
 rw [er,Vu]
 cases az S z with
 | some r=>exact ⟨by rw [Ii]; exact Mb (ZX sh z),rfl⟩
 | none =>
  refine ⟨?_,rfl⟩
  show Zl sh c (aN (bC S (bf sh pl ru S z)) _)=aN (bC (Zl sh z S) (bf sh pl ru S z)) _
  rw [Ii,Mb (ZX sh z)]
  congr 1
  cases bf sh pl ru S z with
  | none=>rfl
  | some x=>exact V8
theorem Sn {sh pl:Int} {ru:Str} {i:Nat} {S:List Rec} {z c:Int} (h:¬ Zr sh z c=true):Zl sh c (aL sh pl ru i z S).1=Zl sh c S:=by
 unfold aL
 cases az S z with
 | some r=>exact L8 h
 | none =>
  show Zl sh c (aN (bC S (bf sh pl ru S z)) _)=_
  rw [L8 (q:=⟨z,i,i,0⟩) h]
  cases e:bf sh pl ru S z with
  | none=>rfl
  | some x=>exact Ww λq=>h (aA.mpr ((aA.mp (QX e)).symm.trans (aA.mp q)))
theorem Sl {sh pl:Int} {ru:Str} {i i':Nat} {S:List Rec} {z:Int} {g:Rec->Rec} (hb:∀ r,(g r).b=r.b) (oe:OE (rR ru) g (Zl sh z S)) (h0:g ⟨z,i,i,0⟩=⟨z,i',i',0⟩) (h1:∀ r∈S,r.b=z->g ⟨z,r.t0,i,r.n+1⟩=⟨z,(g r).t0,i',(g r).n+1⟩) :
  aL sh pl ru i' z (S.map g)=((aL sh pl ru i z S).1.map g,(aL sh pl ru i z S).2):=by
 unfold aL
 rw [T4 hb,So hb oe]
 cases e:az S z with
 | some r =>
  obtain ⟨rS,rz⟩:=ye e
  show (aN (S.map g) _,_)=((aN S _).map g,_)
  rw [← K1 hb,h1 r rS rz]
 | none =>
  show (aN (bC (S.map g) _) _,_)=((aN (bC S _) _).map g,_)
  rw [Uk hb,← K1 hb,h0]
def part (sh c:Int) (row:List Int):List Int:=row.filter λx=>Zr sh x c
def mG (sh c:Int) (row:List Int) (t:Int):Int:=((part sh c (row.take t.toNat)).length:Int)
def w4 (sh c:Int) (row:List Int) (r:Rec):Rec:=⟨r.b,mG sh c row r.t0,mG sh c row r.t1,r.n⟩
theorem LF {sh c:Int} {row:List Int} {i:Nat} {z:Int} (h:row[i]?=some z):part sh c (row.take (i+1))=part sh c (row.take i)++(if Zr sh z c=true then [z] else []):=by
 unfold part
 rw [avq,h,aXR]
 congr 1
 show List.filter _ [z]=_
 rw [aTO]; rfl
theorem Uj (sh c:Int) (row:List Int) {i j:Nat} (h:i<=j):(part sh c (row.take i)).length<=(part sh c (row.take j)).length:=by
 unfold part
 have e:row.take i=(row.take j).take i:=by rw [take_take,a3I h]
 rw [e]
 exact List.Sublist.length_le (List.Sublist.filter _ (take_sublist _ _))
theorem z4 {sh c:Int} {row:List Int} {s t:Int} (s0:0<=s) (h:s<t) {z:Int} (hz:row[s.toNat]?=some z) (hc:Zr sh z c=true):mG sh c row s<mG sh c row t:=by
 unfold mG
 have h1:=LF (sh:=sh) (c:=c) hz
 rw [atn hc] at h1
 have h2:=Uj sh c row (i:=s.toNat+1) (j:=t.toNat) (by lia)
 rw [h1,aUV,axk] at h2
 lia
def jv (row:List Int) (i:Nat) (S:List Rec):Prop:=∀ r∈S,(0<=r.t0/\r.t0<i/\row[r.t0.toNat]?=some r.b)/\(0<=r.t1/\r.t1<i/\row[r.t1.toNat]?=some r.b)
theorem K0 {S:List Rec} {q r:Rec} (h:r∈aN S q):r=q\/r∈S:=by
 unfold aN at h
 split at h
 .obtain ⟨s,hs,e⟩:=aiy.mp h
  by_cases c:s.b=q.b
  .rw [atn c] at e; exact .inl e.symm
  .rw [amU c] at e; rw [← e]; exact .inr hs
 .rcases aJX.mp h with h | h
  .exact .inr h
  .exact .inl (aBr.mp h)
theorem Ui {S:List Rec} {o:Option Int} {r:Rec} (h:r∈bC S o):r∈S:=by
 cases o with
 | none=>exact h
 | some x=>exact (afi.mp h).1
theorem jv.step {row:List Int} {i:Nat} {S:List Rec} {sh pl:Int} {ru:Str} {z:Int} (T:jv row i S) (hz:row[i]?=some z):jv row (i+1) (aL sh pl ru i z S).1:=by
 have up:∀ r∈S,(0<=r.t0/\r.t0<((i+1:Nat):Int)/\row[r.t0.toNat]?=some r.b)/\(0<=r.t1/\r.t1<((i+1:Nat):Int)/\row[r.t1.toNat]?=some r.b):=λr hr=>by
  obtain ⟨⟨h1,h2,h3⟩,h4,h5,h6⟩:=T r hr
  exact ⟨⟨h1,by lia,h3⟩,h4,by lia,h6⟩
 have now:0<=((i:Nat):Int)/\((i:Nat):Int)<((i+1:Nat):Int)/\row[((i:Nat):Int).toNat]?=some z:=⟨by lia,by lia,by rw [show ((i:Nat):Int).toNat=i by lia]; exact hz⟩
 unfold aL
 cases e:az S z with
 | some r =>
  obtain ⟨rS,rz⟩:=ye e
  intro q hq
  rcases K0 hq with rfl | hq
  .have:=(up r rS).1
   rw [rz] at this
   exact ⟨this,now⟩
  .exact up q hq
 | none =>
  intro q hq
  rcases K0 hq with rfl | hq
  .exact ⟨now,now⟩
  .exact up q (Ui hq)
theorem LD (sh pl:Int) (ru:Str) (row:List Int):∀ i,i<=row.length->jv row i (aK sh pl ru row i).1
 | 0,_=>λr hr=>(nomatch hr)
 | i+1,h=>by
  have hz:row[i]?=some (row.getD i 0):=by rw [aPI,aDi (by lia)]; rfl
  exact (LD sh pl ru row i (by lia)).step hz
theorem IL {a b x y:Int} (h1:a<b->x<y) (h2:b<a->y<x) (h3:a=b->x=y):(a<b↔x<y)/\(a=b↔x=y):=by
 rcases Int.lt_trichotomy a b with h | h | h
 .exact ⟨⟨h1,λ_=>h⟩,⟨h3,λq=>by have:=h1 h; lia⟩⟩
 .exact ⟨⟨h1,λq=>by have:=h3 h; lia⟩,⟨h3,λ_=>h⟩⟩
 .exact ⟨⟨h1,λq=>by have:=h2 h; lia⟩,⟨h3,λq=>by have:=h2 h; lia⟩⟩
theorem Qg {sh c:Int} {row:List Int} {i:Nat} {S:List Rec} (ks:List Int) (T:jv row i S):OE ks (w4 sh c row) (Zl sh c S):=by
 intro r hr s hs k _
 obtain ⟨rS,rc⟩:=dH.mp hr
 obtain ⟨sS,sc⟩:=dH.mp hs
 obtain ⟨⟨r1,_,r2⟩,r3,_,r4⟩:=T r rS
 obtain ⟨⟨s1,_,s2⟩,s3,_,s4⟩:=T s sS
 unfold fld
 by_cases k0:k=0
 .rw [atn k0,atn k0,atn k0,atn k0]
  exact IL (λh=>z4 r1 h r2 rc) (λh=>z4 s1 h s2 sc) (λh=>by show mG _ _ _ _=mG _ _ _ _; rw [h])
 .rw [amU k0,amU k0,amU k0,amU k0]
  by_cases k1:k=1
  .rw [atn k1,atn k1,atn k1,atn k1]
   exact IL (λh=>z4 r3 h r4 rc) (λh=>z4 s3 h s4 sc) (λh=>by show mG _ _ _ _=mG _ _ _ _; rw [h])
  .rw [amU k1,amU k1,amU k1,amU k1]
   exact ⟨Iff.rfl,Iff.rfl⟩
theorem QV {sh c:Int} {row:List Int} {i:Nat} {z:Int} (h:row[i]?=some z) (hc:Zr sh z c=true):(part sh c row).getD (part sh c (row.take i)).length 0=z:=by
 have hi:=(aw7.mp h).1
 have e:part sh c row=part sh c (row.take i)++z :: part sh c (row.drop (i+1)):=by
  unfold part
  conv=>lhs; rw [← a6I i row,aXR,aLh hi,(aw7.mp h).2,aTO,atn hc]
 rw [e,aPI,aFp (aNS _),aL9]
 rfl
theorem KZ (sh pl:Int) (ru:Str) (c:Int) (row:List Int):∀ i,i<=row.length ->
  (aK sh pl ru (part sh c row) (part sh c (row.take i)).length).1=(Zl sh c (aK sh pl ru row i).1).map (w4 sh c row) /\
  (aK sh pl ru (part sh c row) (part sh c (row.take i)).length).2=(((row.take i).zip (aK sh pl ru row i).2).filter λx=>Zr sh x.1 c).map (·.2)
 | 0,_=>by rw [take_zero]; exact ⟨rfl,rfl⟩
 | i+1,h=>by
  obtain ⟨h1,h2⟩:=KZ sh pl ru c row i (by lia)
  have hz:row[i]?=some (row.getD i 0):=by rw [aPI,aDi (by lia)]; rfl
  have T:=LD sh pl ru row i (by lia)
  have mS:=(DV sh pl ru row i).2.2
  have Pz:(aK sh pl ru row (i+1)).1=(aL sh pl ru i (row.getD i 0) (aK sh pl ru row i).1).1:=rfl
  have Py:(aK sh pl ru row (i+1)).2=(aK sh pl ru row i).2++[(aL sh pl ru i (row.getD i 0) (aK sh pl ru row i).1).2]:=rfl
  generalize row.getD i 0=z at *
  have ez:((row.take (i+1)).zip (aK sh pl ru row (i+1)).2)=((row.take i).zip (aK sh pl ru row i).2)++[(z,(aL sh pl ru i z (aK sh pl ru row i).1).2)]:=by
   rw [Py,avq,hz]
   show List.zip (row.take i++[z]) _=_
   rw [List.zip_append (by rw [a9v,mS]; lia)]
   rfl
  rw [ez,Pz,LF hz,aXR]
  by_cases c1:Zr sh z c=true
  .rw [atn c1,aUV,axk]
   obtain ⟨p1,p2⟩:=QW (pl:=pl) (ru:=ru) (i:=i) (S:=(aK sh pl ru row i).1) c1
   have pat:=QV (sh:=sh) (c:=c) hz c1
   have Nr:(aK sh pl ru (part sh c row) ((part sh c (row.take i)).length+1)).1=(aL sh pl ru (part sh c (row.take i)).length ((part sh c row).getD (part sh c (row.take i)).length 0) (aK sh pl ru (part sh c row) (part sh c (row.take i)).length).1).1:=rfl
   have Nq:(aK sh pl ru (part sh c row) ((part sh c (row.take i)).length+1)).2=(aK sh pl ru (part sh c row) (part sh c (row.take i)).length).2++[(aL sh pl ru (part sh c (row.take i)).length ((part sh c row).getD (part sh c (row.take i)).length 0) (aK sh pl ru (part sh c row) (part sh c (row.take i)).length).1).2]:=rfl
   have Ie:mG sh c row ((i:Nat):Int)=((part sh c (row.take i)).length:Int):=by unfold mG; rw [show ((i:Nat):Int).toNat=i by lia]
   have Px:=Sl (pl:=pl) (ru:=ru) (i:=i) (i':=(part sh c (row.take i)).length) (S:=Zl sh c (aK sh pl ru row i).1) (z:=z) (g:=w4 sh c row) (λ_=>rfl)
    (by
     have:Zl sh z (Zl sh c (aK sh pl ru row i).1)=Zl sh c (aK sh pl ru row i).1:=by
      have ec:∀ T:List Rec,Zl sh z T=Zl sh c T:=λT=>by
       unfold Zl
       refine aoc λr _=>?_
       rw [aA.mp c1]
      rw [ec,L5]
     rw [this]; exact Qg _ T)
    (by unfold w4; rw [Ie]) (λr _ _=>by unfold w4; rw [Ie])
   rw [Nr,Nq,pat,h1,Px,h2,p1,p2]
   refine ⟨rfl,?_⟩
   rw [awR]
   congr 1
   rw [aTO,atn c1]
   rfl
  .rw [amU c1,amK,Sn c1,h1,h2]
   refine ⟨rfl,?_⟩
   have:List.filter (λx:Int×(Bool×Option Int)=>Zr sh x.1 c) [(z,(aL sh pl ru i z (aK sh pl ru row i).1).2)]=[]:=by rw [aTO,amU c1]; rfl
   rw [this,amK]
def gR (pl:Int) (ms:List Int) (b:Int) (o:Option Int):Bool :=
 if b∈ms\/(ms.length:Int)<pl then o.isNone else (match o with | some g=>decide (g∈ms) | none=>false)
def eF (sh pl:Int) (b:Int) (o:Option Int) (S:List Int×Nat):Option (List Int×Nat) :=
 if gR pl (Zi sh (b % sh) S.1) b o=true then (if b∈S.1 then some S else some (av S.1 o++[b],S.2+1)) else none
def bV (sh pl:Int) (row:List Int) (os:List (Option Int)):Nat->Option (List Int×Nat)
 | 0=>some ([],0)
 | i+1=>(bV sh pl row os i).bind (eF sh pl (row.getD i 0) (os.getD i none))
def ie (sh pl:Int) (row:List Int) (os:List (Option Int)):Option Int:=if os.length=row.length then (bV sh pl row os row.length).map (λS=>(S.2:Int)) else none
theorem LC {sh pl:Int} {row:List Int} {os:List (Option Int)} {i:Nat} (h:bV sh pl row os i=none):∀ d,bV sh pl row os (i+d)=none
 | 0=>h
 | d+1=>by
  show (bV sh pl row os (i+d)).bind _=none
  rw [LC h d]
  rfl
theorem E4 {sh pl:Int} {row:List Int} {os:List (Option Int)}:∀ {i:Nat} {S:List Int×Nat},bV sh pl row os i=some S->S.1.length<=i/\S.2<=i
 | 0,S,h=>by
  have:S=([],0):=(ado h).symm
  subst this
  exact ⟨aNS _,aNS _⟩
 | i+1,S,h=>by
  have h':(bV sh pl row os i).bind (eF sh pl (row.getD i 0) (os.getD i none))=some S:=h
  cases e:bV sh pl row os i with
  | none=>rw [e] at h'; cases h'
  | some T =>
   obtain ⟨h1,h2⟩:=E4 e
   rw [e] at h'
   have h3:eF sh pl (row.getD i 0) (os.getD i none) T=some S:=h'
   unfold eF at h3
   split at h3
   .split at h3
    .cases h3
     exact ⟨by lia,by lia⟩
    .cases h3
     have:(av T.1 (os.getD i none)).length<=T.1.length:=by
      cases os.getD i none with
      | none=>exact aNS _
      | some g=>exact aSb
     refine ⟨?_,?_⟩
     .show (av T.1 (os.getD i none)++[_]).length<=_
      rw [aUV]
      show _+1<=_
      lia
     .show T.2+1<=_
      lia
   .cases h3
section
def IK:Sp:=λvs H Q _=>∃ o:Option Int,vs=[bg o]/\Q (.bl o.isSome) H
theorem V7 (F:bO K "is_number" "is_number" Gf f fd) (T:Txt K mg):aH P w K mg base bI 1 f fd Ge IK:=by
 refine F.ok e7 (λvs H Q E h=>?_) (λcdv A outer s H vs Q E hr h=>?_)
 .obtain ⟨x,rfl,_⟩:=h
  rfl
 obtain ⟨x,rfl,q⟩:=h
 have nd:=e7.nd
 refine ⟨_,(Zj (Zs (sd (Zk nH rfl T.jI ZQ (pc (pv 0) (pc (ZU (v:=.ty "int") rfl T.sO AV rfl) Zd))) (ua (QB (Zk nH rfl T.jI ZQ (pc (pv 0) (pc (ZU (v:=.ty "bool") rfl T.uN FL rfl) Zd)))))))),?_⟩
 cases x with
 | none=>exact ⟨_,rfl,_,_,_,rfl,rfl,by decide,_,rfl,b9 (by decide) q⟩
 | some g=>exact ⟨_,rfl,_,_,_,rfl,rfl,by decide,_,rfl,dh (by decide) ⟨_,rfl,_,_,_,rfl,rfl,by decide,_,rfl,q⟩⟩
def pR (K:W.Frag):Sp:=λvs H Q _=>∃ (pl:Int) (m:Addr) (ms:List Int) (b:Int) (o:Option Int),vs=[.int pl,.ref m,.int b,bg o]/\H m=some (.lst (ms.map V.int))/\Q (.bl (gR pl ms b o)) H
theorem Uh (F:bO K "may_go" "may_go" Fc f fd) (T:Txt K mg) (Cr:Def P w K mg base "is_number" 1 Ge IK):aH P w K mg base bI 2 f fd Fb (pR K):=by
 refine F.ok iz (λvs H Q E h=>?_) (λcdv A outer st H vs Q E hr h=>?_)
 .obtain ⟨pl,m,ms,b,o,rfl,_⟩:=h
  rfl
 obtain ⟨pl,m,ms,b,o,rfl,hm,k⟩:=h
 have nd:=iz.nd
 refine ⟨_,(Ze (aO (PW.pt (pw_or (Zu (FJ (K:=K) rfl) (pv 2) (pv 1) rfl) (uc (Zu gO (Zk (Zn (K:=K) rfl) rfl T.fZ aTr (pc (pv 1) Zd)) (pv 0) (Zx _))))) (Zj (Zs (Jq (Ek (pv 3))))) Zw)
   (Zj (Zs (sd (Zm Cr hr.m rfl (pc (pv 3) Zd)) (ua (nI (FJ (K:=K) rfl) (pv 3) (pv 1) rfl)))))),?_⟩
 refine ⟨_,rfl,_,rfl,m,_,rfl,.inl (ak.of hm),rfl,uB _,_,rfl,?_⟩
 rw [Ao,amU (by decide)]
 have e1:b∈ms\/(ms.length:Int)<pl->gR pl ms b o=decide (bg o=.aV):=λc=>by
  unfold gR
  rw [atn c]
  cases o <;> rfl
 by_cases c:b∈ms
 .rw [e1 (.inl c)] at k
  exact dh (aGg c) (dh rfl ⟨_,rfl,k⟩)
 .refine b9 (aWh c) ⟨_,rfl,m,_,rfl,.inl (ak.of hm),_,rfl,_,_,rfl,rfl,_,rfl,?_⟩
  rw [aAt]
  refine ZJ (λc2=>?_) (λc2=>?_)
  .rw [e1 (.inr c2)] at k
   exact ⟨_,rfl,k⟩
  .refine ⟨_,rfl,o,rfl,?_⟩
   have e2:¬ (b∈ms\/(ms.length:Int)<pl):=λq=>q.elim c c2
   unfold gR at k
   rw [amU e2] at k
   cases o with
   | none=>exact ⟨_,rfl,b9 rfl k⟩
   | some g =>
    refine ⟨_,rfl,dh rfl ⟨_,rfl,_,rfl,m,_,rfl,.inl (ak.of hm),rfl,uB _,?_⟩⟩
    show Q (V.bl (rm (.int g) (ms.map V.int))) H
    rw [Ao]
    exact k
def D9:Sp:=λvs H Q _=>∃ (m:Addr) (ms:List Int) (b:Int) (out:Option Int),vs=[.ref m,.int b,bg out]/\H m=some (.lst (ms.map V.int))/\ms.length<=900/\(∀ g,out=some g->g∈ms)/\Q .aV (upd H m (.lst ((av ms out++[b]).map V.int)))
theorem QU (F:bO K "come" "come" Ed f fd) (T:Txt K mg):aH P w K mg base bI 1 f fd Aa D9:=by
 refine F.ok ki (λvs H Q E h=>?_) (λcdv A outer st H vs Q E hr h=>?_)
 .obtain ⟨m,ms,b,out,rfl,_⟩:=h
  rfl
 obtain ⟨m,ms,b,out,rfl,hm,hl,hg,k⟩:=h
 have nd:=ki.nd
 refine ⟨_,(Ze (aO (ud (Ah (pv 2))) (Zj (Zz (jt (K:=K) rfl (bK aqK a3t aEM Fl (pv 0) (pc (pv 2) Zd))))) Zw)
   (Zj (Zz (jt (K:=K) rfl (bK aqK a9V alx ZG (pv 0) (pc (pv 1) Zd)))))),?_⟩
 refine tN (λσ G=>σ=[some (.ref m),some (.int b),some (bg out)]/\G=upd H m (.lst ((av ms out).map V.int))) (λD' _ k'=>?_) ?_
 .cases out with
  | none=>exact ⟨_,rfl,_,rfl,b9 rfl (k' _ _ ⟨rfl,by rw [show upd H m (.lst ((av ms none).map V.int))=H from Rf hm]⟩)⟩
  | some g=>exact ⟨_,rfl,_,rfl,dh rfl ⟨_,rfl,.inl ⟨rfl,_,ak.of hm⟩,_,rfl,m,ms,g,rfl,rfl,hm,hg g rfl,k' _ _ ⟨rfl,rfl⟩⟩⟩
 rintro _ _ ⟨rfl,rfl⟩
 have len:(av ms out).length<=ms.length:=by
  cases out with
  | none=>exact aNS _
  | some g=>exact aSb
 refine ⟨_,rfl,.inl ⟨rfl,_,ak.of Za⟩,_,rfl,m,_,_,rfl,rfl,Za,Zo (by rw [aAt]; lia),?_⟩
 rw [xX]
 rw [awR] at k
 exact k
def pT (K:W.Frag):Sp:=λvs H Q _=>∃ (sh pl:Int) (a lo:Addr) (row:List Int) (os:List (Option Int)),vs=[.int sh,.int pl,.ref a,.ref lo]/\ak K H a (row.map V.int)/\H lo=some (.lst (os.map bg))/\1<=sh/\sh<=64/\row.length<=400 /\
 ∀ H',aq H H'->Q (bg (ie sh pl row os)) H'
theorem Wt (F:bO K "count_misses" "count_misses" AY f fd) (T:Txt K mg) (iB:Def P w K mg base "shelf_of" 1 ZZ sj) (Be:Def P w K mg base "may_go" 2 Fb (pR K)) (tE:Def P w K mg base "come" 1 Aa D9):aH P w K mg base bI 3 f fd Gq (pT K):=by
 refine F.ok cV (λvs H Q E h=>?_) (λcdv A outer st H vs Q E hr h=>?_)
 .obtain ⟨sh,pl,a,lo,row,os,rfl,_⟩:=h
  rfl
 obtain ⟨sh,pl,a,lo,row,os,rfl,hS,hO,hs0,hs1,hl,k⟩:=h
 have nd:=cV.nd
 refine ⟨_,(Ze (aO (PW.pt (pw_or (se (lD (Zk nH rfl T.jI ZQ (pc (pv 3) (pc (ZU (v:=.ty "list") rfl T.nU ZY rfl) Zd))))) (uc (Zu kr (Zk (Zn (K:=K) rfl) rfl T.fZ aTr (pc (pv 3) Zd)) (Zk (Zn (K:=K) rfl) rfl T.fZ aTr (pc (pv 2) Zd)) (Zx _))))) (Zj (Zs ue)) Zw)
   (Ze (xZ 4 (Zy (eV:=(Zg AY)) (oN:=bZ) (N:=["number"]) (own:=1) (js:=[]) (by decide +kernel) rfl rfl) rfl nd rfl rfl (pq rfl T.ko (pc (pv 0) Zd)) (λ_ _ _ _ _ _=>(bS 0 (show List.Nodup (["number"]:List Str) by decide +kernel))) (λ_ _ _ _ _ _=>(ZT Zd)))
   (Ze (bM 5 nd Zh)
   (Ze (lS aVe rfl (Jj rfl T.uJ (pc (pv 2) (pc (pv 3) Zd))) (kJ (K:=K) (n:=2) rfl rfl (Zt (bS 6 nd) (Zt (bS 7 nd) kK))) (Ze (bM 8 nd (aG (Zp (K:=K) rfl) (pv 4) (Zm iB hr.m rfl (pc (pv 0) (pc (pv 6) Zd))) (λ_ _=>rfl)))
   (Ze (aO (se (lD (Zm Be hr.m rfl (pc (pv 1) (pc (pv 8) (pc (pv 6) (pc (pv 7) Zd))))))) (Zj (Zs ue)) Zw)
   (Zj (aO (Zu (AX (K:=K) rfl) (pv 6) (pv 8) rfl) (Ze (Ei (i:=5) nd rfl (by first | exact Or.inl rfl | exact Or.inr rfl) Zh Jp)
   (Zj (Zz (Zm tE hr.m rfl (pc (pv 8) (pc (pv 6) (pc (pv 7) Zd))))))) Zw)))))
   (Zj (Zs (pv 5))))))),?_⟩
 have ty:lO H (.ref lo)=some "list" := by simp only [lO,hO]
 refine ⟨_,rfl,_,_,_,rfl,ty,by decide,_,rfl,b9 (by decide) ⟨_,rfl,lo,_,rfl,.inl (ak.of hO),_,rfl,a,_,rfl,.inl hS,rfl,_,rfl,?_⟩⟩
 rw [aAt,aAt]
 by_cases jk:os.length=row.length
 case neg =>
  refine dh (by simp; lia) ?_
  have q:=k H (aq.refl _)
  unfold ie at q
  rw [amU jk] at q
  exact q
 refine b9 (by simp [jk]) ?_
 refine ⟨_,rfl,sh,rfl,by lia,by lia,λls hls=>?_⟩
 refine uz (lo:=0) (n:=sh.toNat) (l:=ls) (λj ys σ G=>∃ (v0:Option V) (ah:List Addr),σ=[v0]/\ys=ah.map V.ref/\ah.length=j/\ah.Nodup/\ls∉ah/\G ls=some (.lst ys)/\(∀ ad∈ah,H ad=none/\G ad=some (.lst []))/\aq H G)
  ⟨none,[],rfl,rfl,rfl,awg,by simp,Za,by simp,Zf hls _⟩ ?_ ?_
 .rintro j ys σ G hj hy ⟨v0,ah,rfl,rfl,hlen,hnd,hoff,g1,g2,s1⟩
  refine ⟨(sl 0),λp hp=>?_⟩
  have np:ls≠p:=Zb g1 hp
  have vZ:p∉ah:=λm=>by rw [(g2 p m).2] at hp; cases hp
  refine eX.of (ay9 (by lia:sh.toNat<=64) (by decide)) hj hy (by rw [Zc np]; exact g1) ⟨_,ah++[p],rfl,by rw [awR]; rfl,by rw [aUV,hlen]; rfl,lT hnd vZ,?_,Za,λad m=>?_,?_⟩
  .intro m
   rcases aJX.mp m with m | m
   .exact hoff m
   .exact np (by simpa using m)
  .rcases aJX.mp m with m | m
   .rw [Zc (λz:ad=ls=>hoff (z ▸ m)),Zc (λz:ad=p=>vZ (z ▸ m))]
    exact g2 ad m
   .have e:ad=p:=by simpa using m
    subst e
    rw [Zc (a38 np)]
    exact ⟨s1.free hp,Za⟩
  .intro e o y
   rw [Zc (Zb y hls),Zc (Zb (s1 _ _ y) hp)]
   exact s1 _ _ y
 rintro ys σ G hy ⟨v0,ah,rfl,rfl,hlen,hnd,hoff,g1,g2,s1⟩
 refine gN ?_
 have S0:fN G ls ah sh []:=⟨g1,hlen,hnd,hoff,λi ad e=>(g2 ad (abg e)).2⟩
 have fr:∀ ad∈ah,H ad=none:=λad m=>(g2 ad m).1
 clear g1 g2 hy
 dsimp only
 refine gN ?_
 dsimp only
 refine ⟨_,rfl,_,rfl,a,lo,rfl,⟨_,s1.seq hS⟩,⟨_,ak.of (s1 _ _ hO)⟩,Kh (K:=K) (a:=a) (b:=lo) (xs:=row.map V.int) (ys:=os.map bg) (λi σ G=>∃ (v6 v7 v8:Option V) (S:List Int×Nat),σ=[some (.int sh),some (.int pl),some (.ref a),some (.ref lo),some (.ref ls),some (.int S.2),v6,v7,v8]/\bV sh pl row os i=some S/\fN G ls ah sh S.1/\aq H G)
  (by rw [aAt,aAt,jk]) ⟨none,none,none,([],0),rfl,rfl,S0,s1⟩ (λi σ G _ ⟨_,_,_,_,_,_,_,q⟩=>⟨q.seq hS,ak.of (q _ _ hO)⟩) ?_ ?_⟩
 .clear S0 s1
  rintro i x y t σ G hx hy ⟨v6,v7,v8,S,rfl,hR,Sh,s1⟩ ht
  obtain ⟨z,hz,rfl⟩:=sA hx
  rw [aYu] at hy
  cases ho:os[i]? with
  | none=>rw [ho] at hy; cases hy
  | some o =>
  rw [ho] at hy
  cases hy
  have hi:i<row.length:=(aw7.mp hz).1
  have eg:row.getD i 0=z:=by rw [aPI,hz]; rfl
  have eo:os.getD i none=o:=by rw [aPI,ho]; rfl
  have r1:bV sh pl row os (i+1)=eF sh pl z o S:=by
   show (bV sh pl row os i).bind _=_
   rw [hR,eg,eo]
   rfl
  obtain ⟨jj,mS⟩:=E4 hR
  refine ⟨t,_,rfl,bG.of Za,rfl,_,_,rfl,_,_,rfl,rfl,?_⟩
  have w:=Zf ht (.tup [.int z,bg o])
  have S1:fN (upd G t (.tup [.int z,bg o])) ls ah sh S.1:=⟨w _ _ Sh.top,Sh.len,Sh.nd,Sh.off,λi ad e=>w _ _ (Sh.at_ i ad e)⟩
  have s2:=s1.trans w
  generalize upd G t (.tup [.int z,bg o])=G1 at *
  clear Sh s1 w
  obtain ⟨s0,ad,xm,had,hat,hm⟩:=S1.get (k:=z % sh) (agB _ (by lia)) (aDG _ (by lia))
  refine ⟨_,rfl,_,rfl,_,rfl,sh,z,rfl,hs0,ls,_,_,_,rfl,rfl,ak.of S1.top,hat,?_⟩
  refine gN ?_
  dsimp only
  have lm:(Zi sh (z % sh) S.1).length<=S.1.length:=aKi ..
  have hin:z∈Zi sh (z % sh) S.1↔z∈S.1:=⟨λm=>(ao.mp m).1,λm=>ao.mpr ⟨m,rfl⟩⟩
  unfold eF at r1
  refine ⟨_,rfl,_,rfl,_,rfl,_,rfl,pl,ad,Zi sh (z % sh) S.1,z,o,rfl,hm,_,rfl,?_⟩
  by_cases c:gR pl (Zi sh (z % sh) S.1) z o=true
  case neg =>
   rw [amU c] at r1
   refine dh (by simpa using c) ?_
   have q:=k G1 s2
   have e:ie sh pl row os=none:=by
    unfold ie
    rw [atn jk]
    have:=LC r1 (row.length - (i+1))
    rw [show i+1+(row.length - (i+1))=row.length by lia] at this
    rw [this]
    rfl
   rw [e] at q
   exact q
  rw [atn c] at r1
  refine b9 (by simpa using c) ?_
  refine ⟨_,rfl,_,rfl,ad,_,rfl,.inl (ak.of hm),rfl,uB _,_,rfl,?_⟩
  rw [Ao,atn rfl]
  by_cases c2:z∈S.1
  .rw [atn c2] at r1
   refine b9 (by simpa using hin.mpr c2) ?_
   exact ⟨_,_,_,S,rfl,r1,S1,s2⟩
  .rw [amU c2] at r1
   have c3:z∉Zi sh (z % sh) S.1:=λm=>c2 (hin.mp m)
   refine dh (by simpa using c3) ?_
   have nk:∀ g,o=some g->g∈Zi sh (z % sh) S.1:=λg e=>by
    subst e
    unfold gR at c
    split at c
    .cases c
    .exact a6b c
   refine ⟨_,rfl,_,_,rfl,rfl,?_⟩
   refine ⟨_,rfl,_,rfl,_,rfl,ad,Zi sh (z % sh) S.1,z,o,rfl,hm,by lia,nk,?_⟩
   refine ⟨_,_,_,(av S.1 o++[z],S.2+1),rfl,r1,?_,λe u y=>?_⟩
   .refine S1.put had ?_ λs hs=>?_
    .rw [ZH,atn xm.symm,xm]
     cases o with
     | none=>rfl
     | some g=>show Zi _ _ (S.1.erase g)++_=_; rw [ZD]; rfl
    .have ne:¬ z % sh=(s:Int):=λq=>hs (by lia)
     rw [ZH,amU ne]
     cases o with
     | none=>rfl
     | some g =>
      show Zi _ _ (S.1.erase g)=_
      rw [ZD]
      exact aet λm=>ne ((ao.mp (nk g rfl)).2.symm.trans (ao.mp m).2)
   .rw [Zc (Zb y (fr ad (abg had)))]
    exact s2 _ _ y
 .rintro σ G3 ⟨v6,v7,v8,S,rfl,hR,Sh,s3⟩
  rw [aAt] at hR
  have q:=k G3 s3
  unfold ie at q
  rw [atn jk,hR] at q
  exact ⟨_,rfl,q⟩
end
def je (b:Int):Nat->List Int->Int
 | _,[]=>1000000
 | p,x :: xs=>if x=b then (p:Int) else je b (p+1) xs
def bE (row:List Int) (p:Nat) (b:Int):Int:=je b (p+1) (row.drop (p+1))
theorem Fz {row:List Int} {b:Int} {p:Nat} {x:Int} (h:row[p]?=some x):je b p (row.drop p)=if x=b then (p:Int) else je b (p+1) (row.drop (p+1)):=by
 obtain ⟨hp,rfl⟩:=aw7.mp h
 rw [aLh hp]
 rfl
theorem Sk {row:List Int} {b:Int} {p:Nat} (h:row.length<=p):je b p (row.drop p)=1000000:=by
 rw [a7N h]
 rfl
def rZ (sh b:Int) (there:List Int):List Int:=there.filter λo=>decide (V.int (o % sh)=V.int (b % sh))
def dJ (row:List Int) (p:Nat) (some:List Int):Nat:=argBest (λi j=>HT.lexLt ((some.map λo=>[bE row p o,o]).getD j []) ((some.map λo=>[bE row p o,o]).getD i [])) (some.length - 1)
def bA (sh pl:Int) (row:List Int) (p:Nat) (b:Int) (there:List Int):Option Int :=
 if b∉there/\pl<=((rZ sh b there).length:Int) then (rZ sh b there)[dJ row p (rZ sh b there)]? else none
def dS (b:Int) (there:List Int):List Int:=if b∈there then there else there++[b]
def aQ (sh pl:Int) (row:List Int):Nat->List Int×List (Option Int)
 | 0=>([],[])
 | i+1=>(dS (row.getD i 0) (av (aQ sh pl row i).1 (bA sh pl row i (row.getD i 0) (aQ sh pl row i).1)),(aQ sh pl row i).2++[bA sh pl row i (row.getD i 0) (aQ sh pl row i).1])
def eO (sh pl:Int) (row:List Int):List (Option Int):=(aQ sh pl row row.length).2
theorem Sj (there:List Int) (g:Option Int):(av there g).length<=there.length:=by
 cases g with
 | none=>exact aNS _
 | some g=>exact aSb
theorem QT (b:Int) (there:List Int):(dS b there).length<=there.length+1:=by
 unfold dS
 split
 .lia
 .simp
theorem EO (sh pl:Int) (row:List Int) (i:Nat):(aQ sh pl row i).1.length<=i/\(aQ sh pl row i).2.length=i:=by
 induction i with
 | zero=>exact ⟨aNS _,rfl⟩
 | succ i ih =>
  refine ⟨?_,?_⟩
  .have h1:=QT (row.getD i 0) (av (aQ sh pl row i).1 (bA sh pl row i (row.getD i 0) (aQ sh pl row i).1))
   have h2:=Sj (aQ sh pl row i).1 (bA sh pl row i (row.getD i 0) (aQ sh pl row i).1)
   show (dS _ _).length<=_
   lia
  .show ((aQ sh pl row i).2++_).length=_
   rw [aUV,ih.2]; rfl
def pS (K:W.Frag):Sp:=λvs H Q _=>∃ (sh pl:Int) (a:Addr) (row:List Int),vs=[.int sh,.int pl,.ref a]/\ak K H a (row.map V.int)/\1<=sh/\sh<=64/\1<=pl/\pl<=16/\row.length<=400/\j5 9999 row /\
 ∀ (l:Addr) (H':Hp),H l=none->aq H H'->H' l=some (.lst ((eO sh pl row).map bg))->Q (.ref l) H'
def g6 (d b:Int):Nat->List Int->Int
 | _,[]=>d
 | p,x :: xs=>if x=b then (p:Int) else g6 d b (p+1) xs
theorem Ug {d b:Int} {row:List Int} {p:Nat} {x:Int} (h:row[p]?=some x):g6 d b p (row.drop p)=if x=b then (p:Int) else g6 d b (p+1) (row.drop (p+1)):=by
 obtain ⟨hp,rfl⟩:=aw7.mp h
 rw [aLh hp]
 rfl
def gD (row:List Int) (p:Nat) (b:Int):Int:=g6 row.length b p (row.drop p)
theorem Al {row:List Int} {p:Nat} {b:Int} (h:row.length<=p):gD row p b=row.length:=by
 unfold gD
 rw [a7N h]
 rfl
theorem AA {row:List Int} {p:Nat} {b x:Int} (h:row[p]?=some x):gD row p b=if x=b then (p:Int) else gD row (p+1) b:=Ug h
def Zv (row:List Int):List Int:=(List.range row.length).map λi=>gD row (i+1) (row.getD i 0)
def oY (row:List Int) (j:Nat):List Int:=(List.range j).map λk=>gD row (row.length - k) (row.getD (row.length - 1 - k) 0)
theorem Vt (row:List Int):(oY row row.length).reverse=Zv row:=by
 unfold oY Zv
 apply a1R
 intro i
 by_cases h:i<row.length
 .rw [List.getElem?_reverse (by simpa using h)]
  simp only [aAt,aan,aYu]
  rw [ahO (by lia),ahO h]
  show some (gD row (row.length - (row.length - 1 - i)) (row.getD (row.length - 1 - (row.length - 1 - i)) 0))=some (gD row (i+1) (row.getD i 0))
  rw [show row.length - (row.length - 1 - i)=i+1 by lia,show row.length - 1 - (row.length - 1 - i)=i by lia]
 .rw [aRn (by simpa using h),aRn (by simpa using h)]
theorem AM (row:List Int):(Zv row).length=row.length:=by unfold Zv; simp
theorem Ue {row:List Int} {i:Nat} {y:Int} (h:(Zv row)[i]?=some y):y=gD row (i+1) (row.getD i 0):=by
 have hi:i<row.length:=by rw [← AM row]; exact (aw7.mp h).1
 unfold Zv at h
 rw [aYu,ahO hi] at h
 exact (ado h).symm
theorem VR (row:List Int) (j:Nat):oY row (j+1)=oY row j++[gD row (row.length - j) (row.getD (row.length - 1 - j) 0)]:=by
 unfold oY
 rw [ahI,awR]
 rfl
section
def Ak (K:W.Frag):Sp:=λvs H Q _=>∃ (a:Addr) (row:List Int),vs=[.ref a]/\ak K H a (row.map V.int)/\row.length<=400 /\
 ∀ (l:Addr) (H':Hp),H l=none->aq H H'->H' l=some (.lst ((Zv row).map V.int))->Q (.ref l) H'
theorem Wo (F:bO K "asked_again" "asked_again" F2 f fd) (T:Txt K mg):aH P w K mg base bI 1 f fd yd (Ak K):=by
 refine F.ok dF (λvs H Q E h=>?_) (λcdv A outer st H vs Q E hr h=>?_)
 .obtain ⟨a,row,rfl,_⟩:=h
  rfl
 obtain ⟨a,row,rfl,hS,hl,k⟩:=h
 have nd:=dF.nd
 have hu:=cY hr
 refine ⟨_,(Ze (bM 1 nd (ZT Zd))
   (Ze (bM 2 nd AI)
   (Ze (lS aVe rfl (Fi rfl T.ko (pc (aa lC (Zk (Zn (K:=K) rfl) rfl T.fZ aTr (pc (pv 0) Zd)) Zh) (pc (cG lB Zh) (pc (cG lB Zh) Zd)))) (bS 3 nd) (Ze (bM 4 nd (aG (Zp (K:=K) rfl) (pv 0) (pv 3) (λ_ _=>rfl)))
   (Ze (Zz (jt (K:=K) rfl (bK aqK a9V alx ZG (pv 1) (pc (Tz hu (pv 2) (pv 4) (Zk (Zn (K:=K) rfl) rfl T.fZ aTr (pc (pv 0) Zd)) ⟨rfl,rfl,rfl,rfl⟩) Zd))))
   (Zj (Ey hu (pv 2) (pv 4) (pv 3) rfl)))))
   (Zj (Zs (xY (K:=K) rfl (pv 1) ou ou (pB (cG lB Zh)))))))),?_⟩
 have len:(row.map V.int).length=row.length:=aAt ..
 refine ⟨(sl 0),λlt hlt=>λld nX=>?_⟩
 have s0:=(Zf hlt (.lst [])).trans (Zf nX (.dK []))
 have Di:H ld=none:=(Zf hlt (.lst [])).free nX
 have Cz:lt≠ld:=Zb (Za (H:=H) (a:=lt) (o:=.lst [])) nX
 refine ⟨_,rfl,a,_,rfl,.inl (s0.seq hS),_,_,rfl,rfl,_,rfl,_,rfl,_,_,rfl,⟨by lia,by lia,by lia,by lia⟩,EW (hi:=((row.map V.int).length:Int) - 1) (n:=(((row.map V.int).length:Int) - 1 - -1).toNat) (λj σ G=>∃ (v3 v4:Option V) (kvs:List (Key×V)),σ=[some (.ref a),some (.ref lt),some (.ref ld),v3,v4]/\G lt=some (.lst ((oY row j).map V.int))/\G ld=some (.dK kvs)/\kvs.length<=j/\(∀ b,(aR kvs (Sum.inl b:Key)).getD (.int row.length)=.int (gD row (row.length - j) b))/\aq H G)
  ⟨none,none,[],rfl,by rw [Zc Cz]; exact Za,Za,aNS _,λb=>by rw [Al (by lia)]; rfl,s0⟩ ?_ ?_⟩
 .rintro j σ G hj ⟨v3,v4,kvs,rfl,h1,h2,hk,hv,s1⟩
  have hjn:j<row.length:=by lia
  have hlt':row.length - 1 - j<row.length:=by lia
  have hget:row[row.length - 1 - j]?=some row[row.length - 1 - j]:=aDi hlt'
  have hat:cZ (row.map V.int) (((row.map V.int).length:Int) - 1 - (j:Int))=some (.int row[row.length - 1 - j]):=by
   have q:cZ (row.map V.int) ((row.length - 1 - j:Nat):Int)=some (.int row[row.length - 1 - j]):=ZS (by rw [aYu,hget]; rfl)
   rw [show ((row.length - 1 - j:Nat):Int)=((row.map V.int).length:Int) - 1 - (j:Int) by lia] at q
   exact q
  have eg:row.getD (row.length - 1 - j) 0=row[row.length - 1 - j]:=by rw [aPI,hget]; rfl
  have ea:=VR row j
  rw [eg] at ea
  generalize row[row.length - 1 - j]=z at *
  refine ⟨_,rfl,_,rfl,a,_,_,_,rfl,rfl,s1.seq hS,hat,?_⟩
  refine ⟨_,rfl,.inl ⟨rfl,_,ak.of h1⟩,_,rfl,ld,rfl,.inl ⟨_,.inl h2⟩,_,rfl,_,rfl,a,_,rfl,.inl (s1.seq hS),_,eU.k (k:=Sum.inl z) h2,lt,_,_,rfl,rfl,h1,Zo (by rw [aAt]; unfold oY; simp; lia),?_⟩
  rw [len,hv z]
  have h2':upd G lt (.lst ((oY row j).map V.int++[.int (gD row (row.length - j) z)])) ld=some (.dK kvs):=by rw [Zc (a38 Cz)]; exact h2
  refine ⟨_,rfl,_,rfl,_,rfl,ld,_,rfl,iX.k (k:=Sum.inl z) h2' (Zo (by lia)),⟨_,_,_,rfl,?_,Za,?_,λb=>?_,?_⟩⟩
  .rw [Zc Cz,Za,ea,awR]; rfl
  .exact ay9 (ZW ..) (by lia)
  .rw [AJ,show row.length - (j+1)=row.length - 1 - j by lia,AA hget]
   by_cases e:z=b
   .subst e
    rw [atn rfl,atn rfl]
    show V.int _=V.int _
    congr 1
    lia
   .rw [amU (λq=>e (a8W q).symm),amU e,hv b,show row.length - 1 - j+1=row.length - j by lia]
  .intro e o y
   rw [Zc (Zb y Di),Zc (Zb y hlt)]
   exact s1 _ _ y
 .rintro σ G ⟨v3,v4,kvs,rfl,h1,h2,hk,hv,s1⟩
  rw [show (((row.map V.int).length:Int) - 1 - -1).toNat=row.length by lia] at h1
  refine ⟨_,rfl,1,rfl,_,rfl,lt,_,rfl,ak.of h1,by decide,?_,λp hp=>?_⟩
  .rw [uD,aBw,aAt]; unfold oY; simp; exact aRN (Zo (by lia))
  .rw [uD,← map_reverse,Vt]
   exact k p _ (s1.free hp) (s1.trans (Zf hp _)) Za
end
theorem E3 (sh b:Int) (there:List Int):rZ sh b there=Zi sh (b % sh) there:=by
 unfold rZ Zi
 refine aoc λo _=>?_
 rw [aZN]
 exact ⟨λe=>by injection e,λe=>by rw [e]⟩
theorem LZ (sh s:Int) (there:List Int) (g:Option Int):Zi sh s (av there g)=av (Zi sh s there) g:=by
 cases g with
 | none=>rfl
 | some g =>
  show (there.erase g).filter _=(there.filter _).erase g
  rw [List.erase_filter]
theorem Ud {l:List Int} {g:Option Int} (h:∀ x,g=some x->x∉l):av l g=l:=by
 cases g with
 | none=>rfl
 | some g=>exact aet (h g rfl)
theorem fN.same {H H':Hp} {ls:Addr} {ah:List Addr} {sh:Int} {there:List Int} (h:fN H ls ah sh there) (s:aq H H'):fN H' ls ah sh there :=
 ⟨s _ _ h.top,h.len,h.nd,h.off,λi ad e=>s _ _ (h.at_ i ad e)⟩
theorem fN.free {H:Hp} {ls:Addr} {ah:List Addr} {sh:Int} {there:List Int} (h:fN H ls ah sh there) {p:Addr} (hp:H p=none):p≠ls/\p∉ah:=by
 refine ⟨λe=>?_,λm=>?_⟩
 .rw [e,h.top] at hp; cases hp
 .obtain ⟨s,e⟩:=bd1 m
  rw [h.at_ s p e] at hp; cases hp
theorem FN {f g:Nat->Nat->Bool}:∀ k,(∀ i j,i<=k->j<=k->f i j=g i j)->argBest f k=argBest g k/\argBest g k<=k
 | 0,_=>⟨rfl,aNS _⟩
 | k+1,h=>by
  obtain ⟨e,l⟩:=FN k λi j hi hj=>h i j (by lia) (by lia)
  unfold argBest
  rw [e,h (k+1) (argBest g k) (aNS _) (by lia)]
  refine ⟨rfl,?_⟩
  split <;> lia
theorem p7 (d b:Int):∀ (xs:List Int) (p:Nat),(je b p xs=1000000/\g6 d b p xs=d)\/(je b p xs=g6 d b p xs/\(p:Int)<=g6 d b p xs/\g6 d b p xs<p+xs.length)
 | [],p=>.inl ⟨rfl,rfl⟩
 | x :: xs,p=>by
  unfold je g6
  by_cases e:x=b
  .rw [atn e,atn e]
   refine .inr ⟨rfl,by lia,?_⟩
   rw [bc9]; lia
  .rw [amU e,amU e]
   rcases p7 d b xs (p+1) with h | ⟨h1,h2,h3⟩
   .exact .inl h
   .refine .inr ⟨h1,by lia,?_⟩
    rw [bc9]; lia
theorem J3 {row:List Int} {i:Nat} {o:Int} (hi:i<row.length):(bE row i o=1000000/\gD row (i+1) o=row.length)\/(bE row i o=gD row (i+1) o/\gD row (i+1) o<row.length):=by
 rcases p7 row.length o (row.drop (i+1)) (i+1) with h | ⟨h1,h2,h3⟩
 .exact .inl h
 .refine .inr ⟨h1,?_⟩
  rw [ad0] at h3
  show g6 _ _ _ _<_
  lia
theorem wm (a b c d:Int):HT.lexLt [a,b] [c,d]=if a=c then decide (b<d) else decide (a<c):=by
 rw [HT.aI,HT.aI]
 split
 .split
  .rename_i _ e; subst e; simp [HT.lexLt]
  .rfl
 .rfl
theorem Si {row bu:List Int} {i:Nat} (hi:i<row.length) (hl:row.length<=400) (hne:bu≠[]) :
  argBest (λa b=>HT.lexLt ((bu.map λo=>[gD row (i+1) o,o]).getD b []) ((bu.map λo=>[gD row (i+1) o,o]).getD a [])) (bu.length - 1)=dJ row i bu:=by
 have pos:0<bu.length:=baX.mpr hne
 refine (FN _ λa b ha hb=>?_).1
 have la:a<bu.length:=by lia
 have lb:b<bu.length:=by lia
 simp only [aPI,aYu,aDi la,aDi lb,aJJ,Option.getD_some]
 rw [wm,wm]
 rcases J3 (row:=row) (i:=i) (o:=bu[a]) hi with ⟨x1,x2⟩ | ⟨x1,x2⟩ <;> rcases J3 (row:=row) (i:=i) (o:=bu[b]) hi with ⟨y1,y2⟩ | ⟨y1,y2⟩
 .rw [x1,x2,y1,y2]; simp
 .rw [x1,x2,y1,amU (by lia),amU (by lia),aZN]; lia
 .rw [x1,y2,y1,amU (by lia),amU (by lia),aZN]; lia
 .rw [x1,y1]
theorem wR {t:TS} {D:Ends} {σ:St} {H:Hp} (h:∀ D':Ends,(∀ σ G,D.nx σ G->D'.nx σ G)->t D' σ H):t D σ H:=h D λ_ _ x=>x
section
theorem VQ (F:bO K "farthest" "farthest" yh f fd) (T:Txt K mg) (iB:Def P w K mg base "shelf_of" 1 ZZ sj) (tE:Def P w K mg base "come" 1 Aa D9) (oG:Def P w K mg base "asked_again" 1 yd (Ak K)):aH P w K mg base bI 8 f fd FH (pS K):=by
 refine F.ok fV (λvs H Q E h=>?_) (λcdv A outer st H vs Q E hr h=>?_)
 .obtain ⟨sh,pl,a,row,rfl,_⟩:=h
  rfl
 obtain ⟨sh,pl,a,row,rfl,hS,hs0,hs1,hp0,hp1,hl,bd,k⟩:=h
 have nd:=fV.nd
 have hu:=cY hr
 refine ⟨_,(Ze (xZ 3 (Zy (eV:=(Zg yh)) (oN:=cS) (N:=["number"]) (own:=1) (js:=[]) (by decide +kernel) rfl rfl) rfl nd rfl rfl (pq rfl T.ko (pc (pv 0) Zd)) (λ_ _ _ _ _ _=>(bS 0 (show List.Nodup (["number"]:List Str) by decide +kernel))) (λ_ _ _ _ _ _=>(ZT Zd)))
   (Ze (bM 4 nd AI)
   (Ze (bM 5 nd (ZT Zd))
   (Ze (lS aVe rfl (Jj rfl T.uJ (pc (pv 2) (pc (Zm oG hr.m rfl (pc (pv 2) Zd)) Zd))) (kJ (K:=K) (n:=2) rfl rfl (Zt (bS 6 nd) (Zt (bS 7 nd) kK))) (Ze (bM 8 nd (aG (Zp (K:=K) rfl) (pv 3) (Zm iB hr.m rfl (pc (pv 0) (pc (pv 6) Zd))) (λ_ _=>rfl)))
   (Ze (bM 9 nd ue)
   (Ze (aO (Zu (AX (K:=K) rfl) (pv 6) (pv 8) rfl) (Ze (aO (Zu mJ (Zk (Zn (K:=K) rfl) rfl T.fZ aTr (pc (pv 8) Zd)) (pv 1) (Zx _)) (Zj (o7 (Zk (Us rfl hu rfl) rfl T.uL EX (pc (qA (Zy (eV:=(Zg yh)) (oN:=cS) (N:=["mate", "again"]) (own:=1) (js:=[4]) (by decide +kernel) rfl rfl) rfl (oj (K:=K) rfl (pv 8)) (λ_ _ _ _ _ _=>(bS 0 (show List.Nodup (["mate", "again"]:List Str) by decide +kernel))) (λ_ _ _ _ _ _=>(lu (pc (J5 hu (pv 1) (pv 0) (λ_ _=>rfl)) (pc (pv 0) Zd))))) Zd)) (kJ (K:=K) (n:=2) rfl rfl (Zt (bS 10 nd) (Zt (bS 9 nd) kK))))) Zw)
   (Zj (Zz (Zm tE hr.m rfl (pc (pv 8) (pc (pv 6) (pc (pv 9) Zd))))))) Zw)
   (Ze (Ey hu (pv 4) (pv 6) (pv 7) rfl)
   (Zj (Zz (jt (K:=K) rfl (bK aqK a9V alx ZG (pv 5) (pc (pv 9) Zd))))))))))
   (Zj (Zs (pv 5))))))),?_⟩
 refine ⟨_,rfl,sh,rfl,by lia,by lia,λls hls=>?_⟩
 refine uz (lo:=0) (n:=sh.toNat) (l:=ls) (λj ys σ G=>∃ (v0:Option V) (ah:List Addr),σ=[v0]/\ys=ah.map V.ref/\ah.length=j/\ah.Nodup/\ls∉ah/\G ls=some (.lst ys)/\(∀ ad∈ah,H ad=none/\G ad=some (.lst []))/\aq H G)
  ⟨none,[],rfl,rfl,rfl,awg,by simp,Za,by simp,Zf hls _⟩ ?_ ?_
 .rintro j ys σ G hj hy ⟨v0,ah,rfl,rfl,hlen,hnd,hoff,g1,g2,s1⟩
  refine ⟨(sl 0),λp hp=>?_⟩
  have np:ls≠p:=Zb g1 hp
  have vZ:p∉ah:=λm=>by rw [(g2 p m).2] at hp; cases hp
  refine eX.of (ay9 (by lia:sh.toNat<=64) (by decide)) hj hy (by rw [Zc np]; exact g1) ⟨_,ah++[p],rfl,by rw [awR]; rfl,by rw [aUV,hlen]; rfl,lT hnd vZ,?_,Za,λad m=>?_,?_⟩
  .intro m
   rcases aJX.mp m with m | m
   .exact hoff m
   .exact np (by simpa using m)
  .rcases aJX.mp m with m | m
   .rw [Zc (λz:ad=ls=>hoff (z ▸ m)),Zc (λz:ad=p=>vZ (z ▸ m))]
    exact g2 ad m
   .have e:ad=p:=by simpa using m
    subst e
    rw [Zc (a38 np)]
    exact ⟨s1.free hp,Za⟩
  .intro e o y
   rw [Zc (Zb y hls),Zc (Zb (s1 _ _ y) hp)]
   exact s1 _ _ y
 rintro ys σ G hy ⟨v0,ah,rfl,rfl,hlen,hnd,hoff,g1,g2,s1⟩
 refine gN ?_
 have S0:fN G ls ah sh []:=⟨g1,hlen,hnd,hoff,λi ad e=>(g2 ad (abg e)).2⟩
 have fr:∀ ad∈ah,H ad=none:=λad m=>(g2 ad m).1
 clear g1 g2 hy
 dsimp only
 intro ld nX
 refine ⟨(sl 0),λlo hlo=>?_⟩
 obtain ⟨CF,zp⟩:=S0.free nX
 have S1:=S0.same (Zf nX (.dK []))
 obtain ⟨NW,Hg⟩:=S1.free hlo
 have S2:=S1.same (Zf hlo (.lst []))
 have CB:lo≠ld:=λe=>by rw [e,Za] at hlo; cases hlo
 have s3:=s1.trans ((Zf nX (.dK [])).trans (Zf hlo (.lst [])))
 have e1:upd (upd G ld (.dK [])) lo (.lst []) ld=some (.dK []):=by rw [Zc (a38 CB)]; exact Za
 have e2:upd (upd G ld (.dK [])) lo (.lst []) lo=some (.lst []):=Za
 have Di:H ld=none:=s1.free nX
 have HG:H lo=none:=(s1.trans (Zf nX (.dK []))).free hlo
 generalize upd (upd G ld (.dK [])) lo (.lst [])=G2 at *
 refine ⟨_,rfl,_,rfl,a,row,rfl,s3.seq hS,hl,λla G3 hla s4 e3=>?_⟩
 obtain ⟨Xc,N8⟩:=S2.free hla
 have N5:la≠lo:=λe=>by rw [e,e2] at hla; cases hla
 have N6:la≠ld:=λe=>by rw [e,e1] at hla; cases hla
 have s5:=s3.trans s4
 refine ⟨a,la,rfl,⟨_,s5.seq hS⟩,⟨_,ak.of e3⟩,Kh (K:=K) (a:=a) (b:=la) (xs:=row.map V.int) (ys:=(Zv row).map V.int) (λi σ G=>∃ (v6 v7 v8 v9 v10:Option V) (kvs:List (Key×V)),σ=[some (.int sh),some (.int pl),some (.ref a),some (.ref ls),some (.ref ld),some (.ref lo),v6,v7,v8,v9,v10]/\fN G ls ah sh (aQ sh pl row i).1/\G lo=some (.lst ((aQ sh pl row i).2.map bg))/\G ld=some (.dK kvs)/\kvs.length<=i/\(∀ b∈(aQ sh pl row i).1,aR kvs (Sum.inl b:Key)=some (.int (gD row i b)))/\G la=some (.lst ((Zv row).map V.int))/\aq H G)
  (by rw [aAt,aAt,AM]) ⟨none,none,none,none,none,[],rfl,S2.same s4,s4 _ _ e2,s4 _ _ e1,aNS _,λb m=>(nomatch m),e3,s5⟩ (λi σ G _ h=>by obtain ⟨_,_,_,_,_,_,_,_,_,_,_,_,q1,q2⟩:=h; exact ⟨q2.seq hS,ak.of q1⟩) ?_ ?_⟩
 .clear S0 S1 S2 e1 e2 s3 s4 s5 e3 nX hlo hla s1
  rintro i x y t σ G hx hy ⟨v6,v7,v8,v9,v10,kvs,rfl,S,h1,h2,hk,hv,h3,s1⟩ ht
  obtain ⟨z,hz,rfl⟩:=sA hx
  obtain ⟨y,hy',rfl⟩:=sA hy
  have ey:=Ue hy'
  have hi:i<row.length:=(aw7.mp hz).1
  have eg:row.getD i 0=z:=by rw [aPI,hz]; rfl
  rw [eg] at ey
  obtain ⟨jj,mS⟩:=EO sh pl row i
  have r1:(aQ sh pl row (i+1)).1=dS z (av (aQ sh pl row i).1 (bA sh pl row i z (aQ sh pl row i).1)):=by rw [← eg]; rfl
  have r2:(aQ sh pl row (i+1)).2=(aQ sh pl row i).2++[bA sh pl row i z (aQ sh pl row i).1]:=by rw [← eg]; rfl
  generalize (aQ sh pl row i).1=there at *
  generalize (aQ sh pl row i).2=found at *
  refine ⟨t,_,rfl,bG.of Za,rfl,_,_,rfl,_,_,rfl,rfl,?_⟩
  refine wR λDz Pg=>?_
  try dsimp only
  refine hide λu1 e1=>?_
  have w:=Zf ht (.tup [.int z,.int y])
  have S1:=S.same w
  have g1:=w _ _ h1
  have g2:=w _ _ h2
  have g3:=w _ _ h3
  have s2:=s1.trans w
  generalize upd G t (.tup [.int z,.int y])=G1 at *
  clear S h1 h2 h3 s1 w
  obtain ⟨s0,ad,xm,had,hat,hm⟩:=S1.get (k:=z % sh) (agB _ (by lia)) (aDG _ (by lia))
  refine ⟨_,rfl,_,rfl,_,rfl,sh,z,rfl,hs0,ls,_,_,_,rfl,rfl,ak.of S1.top,hat,?_⟩
  have hg:bA sh pl row i z there=if z∉there/\pl<=((Zi sh (z % sh) there).length:Int) then (Zi sh (z % sh) there)[dJ row i (Zi sh (z % sh) there)]? else none:=by unfold bA; rw [E3]
  have lm:(Zi sh (z % sh) there).length<=there.length:=aKi ..
  have hin:∀ b,b∈Zi sh (z % sh) there↔b∈there/\b % sh=z % sh:=λb=>ao
  have hsl:∀ gone:Option Int,(∀ g,gone=some g->g∈Zi sh (z % sh) there)->z∉there->fN (upd G1 ad (.lst ((av (Zi sh (z % sh) there) gone++[z]).map V.int))) ls ah sh (dS z (av there gone)):=λgone OX hnz=>by
   have e:dS z (av there gone)=av there gone++[z]:=by
    unfold dS
    rw [amU]
    cases gone with
    | none=>exact hnz
    | some g=>exact λm=>hnz (ai2 m)
   refine S1.put had ?_ λs hs=>?_
   .rw [e,ZH,atn xm.symm,LZ,xm]
   .have ne:¬ z % sh=(s:Int):=λq=>hs (by lia)
    rw [e,ZH,amU ne,LZ]
    exact Ud λx hx m=>ne (((hin x).mp (OX x hx)).2.symm.trans (ao.mp m).2)
  have Dg:∀ o∈Zi sh (z % sh) there,z∉there->aR kvs (Sum.inl o:Key)=some (.int (gD row (i+1) o)):=λo mo hnz=>by
   have mt:=((hin o).mp mo).1
   have ne:¬ z=o:=λe=>hnz (e ▸ mt)
   rw [hv o mt,AA hz,amU ne]
  generalize Zi sh (z % sh) there=bu at *
  generalize hgo:bA sh pl row i z there=gone at *
  have nk:∀ g,gone=some g->g∈bu:=λg e=>by
   rw [hg] at e
   split at e
   .exact abg e
   .cases e
  refine gN ?_
  subst e1
  dsimp only
  refine qo (λv G'=>v=.aV/\G1=G') (λQ' k'=>k' _ _ ⟨rfl,rfl⟩) ?_
  rintro _ _ ⟨rfl,rfl⟩
  refine gN ?_
  refine tN (λσ G'=>∃ v10:Option V,σ=[some (.int sh),some (.int pl),some (.ref a),some (.ref ls),some (.ref ld),some (.ref lo),some (.int z),some (.int y),some (.ref ad),some (bg gone),v10]/\fN G' ls ah sh (dS z (av there gone))/\G' lo=some (.lst (found.map bg))/\G' ld=some (.dK kvs)/\G' la=some (.lst ((Zv row).map V.int))/\aq H G') (λD' _ k'=>?_) ?_
  .refine ⟨_,rfl,_,rfl,ad,_,rfl,.inl (ak.of hm),rfl,uB _,_,rfl,?_⟩
   rw [Ao,atn rfl]
   refine E6 (λc=>?_) (λc=>?_)
   .have c':z∉bu:=by simpa using c
    have hnz:z∉there:=λm=>c' ((hin z).mpr ⟨m,rfl⟩)
    refine tN (λσ G'=>∃ v10:Option V,σ=[some (.int sh),some (.int pl),some (.ref a),some (.ref ls),some (.ref ld),some (.ref lo),some (.int z),some (.int y),some (.ref ad),some (bg gone),v10]/\aq G1 G') (λXJ _ k''=>?_) ?_
    .refine ⟨_,rfl,ad,_,rfl,.inl (ak.of hm),_,rfl,_,_,rfl,rfl,_,rfl,?_⟩
     rw [aAt]
     refine ZJ (λc2=>?_) (λc2=>?_)
     .rw [atn ⟨hnz,c2⟩] at hg
      have pos:0<bu.length:=by lia
      refine ⟨_,rfl,ad,rfl,⟨_,ak.of hm⟩,λl2 hl2=>?_⟩
      refine o9 (K:=K) (a:=ad) (xs:=bu.map V.int) (l:=l2) (λj ys σ' G'=>∃ (v0:Option V) (as:List Addr),σ'=[v0,some (.ref ld)]/\ys=as.map V.ref/\as.length=j/\G' l2=some (.lst ys)/\(∀ (m:Nat) (ad:Addr) (o:Int),as[m]?=some ad->bu[m]?=some o->G' ad=some (.tup [.int (gD row (i+1) o),.int o]))/\aq G1 G')
       ⟨none,[],rfl,rfl,rfl,Za,λm ad o h=>(by simp at h),Zf hl2 _⟩ (λj ys σ' G' _ h=>by obtain ⟨_,_,_,_,_,_,_,q⟩:=h; exact ak.of (q _ _ hm)) ?_ ?_
      .rintro j x ys σ' G' hj kB hys ⟨v0,as,rfl,rfl,hj',q1,q2,q3⟩
       obtain ⟨o,ho,rfl⟩:=sA kB
       have ev:=Dg o (abg ho) hnz
       refine ⟨_,rfl,_,rfl,ld,_,rfl,(by have q:=eU.k (k:=Sum.inl o) (q3 _ _ g2); rw [ev] at q; exact q),_,rfl,(sl 2),λp hp=>?_⟩
       have np:l2≠p:=Zb q1 hp
       refine eX.of (aRN (Zo (by rw [aAt]; lia))) hj hys (by rw [Zc np]; exact q1) ⟨_,as++[p],rfl,by rw [awR]; rfl,by rw [aUV,hj']; rfl,Za,λm ad o' hm ho'=>?_,?_⟩
       .by_cases wM:m<as.length
        .rw [a6D wM] at hm
         have q:=q2 m ad o' hm ho'
         have na:ad≠l2:=λe=>by rw [e,q1] at q; cases q
         rw [Zc na,Zc (Zb q hp)]
         exact q
        .rw [aFp (by lia)] at hm
         have em:m=as.length:=by
          have:=(aw7.mp hm).1
          simp at this; lia
         subst em
         rw [aL9] at hm
         cases hm
         rw [hj',ho] at ho'
         cases ho'
         rw [Zc (a38 np)]
         exact Za
       .intro e o' y
        rw [Zc (Zb y hl2)]
        exact Zf hp _ _ _ (q3 _ _ y)
      .rintro ys σ' G' hys ⟨v0,as,rfl,rfl,hj',q1,q2,q3⟩
       rw [aAt] at hj'
       refine ⟨l2,as,bu.map (λo=>[gD row (i+1) o,o]),rfl,ak.of q1,λe=>?_,by rw [aAt]; exact hj',λm ad ns hm hns=>?_,λm Iv hm2 wW=>?_⟩
       .rw [e] at hj'; simp at hj'; lia
       .rw [aYu] at hns
        cases ho:bu[m]? with
        | none=>rw [ho] at hns; cases hns
        | some o =>
         rw [ho] at hns
         cases hns
         exact bG.of (q2 m ad o hm ho)
       .have hm':m=dJ row i bu:=by
         rw [hm2,hj']
         exact Si hi hl (baX.mp pos)
        rw [← hm'] at hg
        have mlt:m<bu.length:=by rw [← hj']; exact (aw7.mp wW).1
        rw [aDi mlt] at hg
        have q4:=q2 m Iv _ wW (aDi mlt)
        subst hg
        exact ⟨Iv,_,rfl,bG.of q4,rfl,_,_,rfl,_,_,rfl,rfl,k'' _ _ ⟨_,rfl,q3⟩⟩
     .rw [amU (λq=>c2 q.2)] at hg
      subst hg
      exact k'' _ _ ⟨_,rfl,aq.refl _⟩
    .rintro _ G2 ⟨v10,rfl,t1⟩
     have hm2:=t1 _ _ hm
     have CG:ad≠lo:=λe:ad=lo=>Hg (e ▸ abg had)
     have CI:ad≠ld:=λe:ad=ld=>zp (e ▸ abg had)
     have N7:ad≠la:=λe:ad=la=>N8 (e ▸ abg had)
     refine ⟨_,rfl,_,rfl,_,rfl,ad,bu,z,gone,rfl,hm2,by lia,nk,k' _ _ ⟨_,rfl,?_,?_,?_,?_,?_⟩⟩
     .have S2:=hsl gone nk hnz
      refine ⟨?_,S2.len,S2.nd,S2.off,λs a e=>?_⟩
      .rw [Zc (λz:ls=ad=>S1.off (z ▸ abg had))]
       exact t1 _ _ S1.top
      .have q:=S2.at_ s a e
       by_cases ea:a=ad
       .subst ea
        rw [Za] at q ⊢
        exact q
       .rw [Zc ea] at q ⊢
        exact t1 _ _ q
     .rw [Zc (a38 CG)]; exact t1 _ _ g1
     .rw [Zc (a38 CI)]; exact t1 _ _ g2
     .rw [Zc (a38 N7)]; exact t1 _ _ g3
     .intro e o q
      rw [Zc (Zb q (fr ad (abg had)))]
      exact t1 _ _ (s2 _ _ q)
   .have c':z∈there:=((hin z).mp (by simpa using c)).1
    rw [amU (λq=>q.1 c')] at hg
    subst hg
    refine k' _ _ ⟨_,rfl,?_,g1,g2,g3,s2⟩
    show fN G1 ls ah sh (dS z there)
    rw [dS,atn c']
    exact S1
  rintro _ G3 ⟨v10,rfl,S3,m1,m2,m3,s4⟩
  refine ⟨_,rfl,_,rfl,_,rfl,ld,_,rfl,iX.k (k:=Sum.inl z) m2 (Zo (by lia)),?_⟩
  have Hv:upd G3 ld (.dK (putK kvs (Sum.inl z) (.int y))) lo=some (.lst (found.map bg)):=by rw [Zc CB]; exact m1
  refine ⟨_,rfl,.inl ⟨rfl,_,ak.of Hv⟩,_,rfl,lo,_,_,rfl,rfl,Hv,Zo (by rw [aAt]; lia),Pg _ _ ⟨_,_,_,_,_,putK kvs (Sum.inl z) (.int y),rfl,?_,?_,?_,?_,?_,?_,?_⟩⟩
  .rw [r1]
   exact (S3.other _ CF zp).other _ NW Hg
  .rw [Za,r2,awR]; rfl
  .rw [Zc (a38 CB)]; exact Za
  .exact ay9 (ZW ..) (by lia)
  .intro b m
   rw [r1] at m
   rw [AJ]
   by_cases e:b=z
   .subst e
    rw [atn rfl,ey]
   .rw [amU (λq=>e (a8W q))]
    have mt:b∈there:=by
     have m':b∈av there gone:=by
      unfold dS at m
      split at m
      .exact m
      .rcases aJX.mp m with m | m
       .exact m
       .exact absurd (by simpa using m) e
     cases gone with
     | none=>exact m'
     | some g=>exact ai2 m'
    rw [hv b mt,AA hz,amU (λq=>e q.symm)]
  .rw [Zc N5,Zc N6]; exact m3
  .intro e o q
   rw [Zc (Zb q HG),Zc (Zb q Di)]
   exact s4 _ _ q
 .rintro σ G ⟨v6,v7,v8,v9,v10,kvs,rfl,S,h1,h2,hk,hv,h3,s1⟩
  rw [aAt] at h1
  exact ⟨_,rfl,k lo G HG s1 h1⟩
end
theorem J2 (f:Nat->Nat->Bool) (k:Nat):argBest f k<=k:=(FN (f:=f) (g:=f) k λ_ _ _ _=>rfl).2
theorem D8 {sh pl:Int} {row:List Int}:∀ {n i:Nat},i<n->(aQ sh pl row n).2[i]?=some (bA sh pl row i (row.getD i 0) (aQ sh pl row i).1)
 | 0,i,h=>absurd h (Nat.not_lt_zero _)
 | n+1,i,h=>by
  have len:=(EO sh pl row n).2
  show ((aQ sh pl row n).2++[_])[i]?=_
  by_cases c:i<n
  .rw [a6D (by rw [len]; exact c)]
   exact D8 c
  .have e:i=n:=by lia
   subst e
   rw [aFp (by rw [len]; exact aNS _),len,aL9]
   rfl
theorem JZ (sh pl:Int) (row:List Int):(eO sh pl row).length=row.length:=(EO sh pl row row.length).2
theorem QS {sh pl:Int} (hp:1<=pl) (row:List Int) (i:Nat) (b:Int) (there:List Int):gR pl (Zi sh (b % sh) there) b (bA sh pl row i b there)=true:=by
 have hin:b∈Zi sh (b % sh) there↔b∈there:=⟨λm=>(ao.mp m).1,λm=>ao.mpr ⟨m,rfl⟩⟩
 unfold bA gR
 rw [E3]
 by_cases c:b∈there\/((Zi sh (b % sh) there).length:Int)<pl
 .rw [atn (c.imp hin.mpr id),amU]
  .rfl
  .rintro ⟨q1,q2⟩
   rcases c with c | c
   .exact q1 c
   .lia
 .have c1:b∉there:=λq=>c (.inl q)
  have c2:pl<=((Zi sh (b % sh) there).length:Int):=by
   have:¬ ((Zi sh (b % sh) there).length:Int)<pl:=λq=>c (.inr q)
   lia
  rw [amU (λq=>c (q.imp hin.mp id)),atn ⟨c1,c2⟩]
  have lt:dJ row i (Zi sh (b % sh) there)<(Zi sh (b % sh) there).length:=by
   have:=J2 (λi' j=>HT.lexLt (((Zi sh (b % sh) there).map λo=>[bE row i o,o]).getD j []) (((Zi sh (b % sh) there).map λo=>[bE row i o,o]).getD i' [])) ((Zi sh (b % sh) there).length - 1)
   have e:dJ row i (Zi sh (b % sh) there)<=(Zi sh (b % sh) there).length - 1:=this
   lia
  rw [aDi lt]
  exact aGg (a2P lt)
theorem qy {sh pl:Int} (hp:1<=pl) (row:List Int):∀ i,i<=row.length->∃ c,bV sh pl row (eO sh pl row) i=some ((aQ sh pl row i).1,c)
 | 0,_=>⟨0,rfl⟩
 | i+1,h=>by
  obtain ⟨c,e⟩:=qy hp row i (by lia)
  have eo:(eO sh pl row).getD i none=bA sh pl row i (row.getD i 0) (aQ sh pl row i).1:=by
   rw [aPI]
   unfold eO
   rw [D8 (by lia:i<row.length)]
   rfl
  have hm:=QS (sh:=sh) hp row i (row.getD i 0) (aQ sh pl row i).1
  have r1:(aQ sh pl row (i+1)).1=dS (row.getD i 0) (av (aQ sh pl row i).1 (bA sh pl row i (row.getD i 0) (aQ sh pl row i).1)):=rfl
  have r2:bV sh pl row (eO sh pl row) (i+1)=eF sh pl (row.getD i 0) (bA sh pl row i (row.getD i 0) (aQ sh pl row i).1) ((aQ sh pl row i).1,c):=by
   show (bV sh pl row (eO sh pl row) i).bind _=_
   rw [e,eo]
   rfl
  rw [r1,r2]
  have hg:row.getD i 0∈(aQ sh pl row i).1->bA sh pl row i (row.getD i 0) (aQ sh pl row i).1=none:=λm=>by
   unfold bA
   rw [amU (λq=>q.1 m)]
  generalize bA sh pl row i (row.getD i 0) (aQ sh pl row i).1=o at *
  generalize row.getD i 0=b at *
  generalize (aQ sh pl row i).1=there at *
  unfold eF
  rw [atn hm]
  by_cases c2:b∈there
  .rw [atn c2,hg c2]
   refine ⟨c,?_⟩
   show some (there,c)=some (dS b there,c)
   unfold dS
   rw [atn c2]
  .rw [amU c2]
   refine ⟨c+1,?_⟩
   unfold dS
   rw [amU]
   cases o with
   | none=>exact c2
   | some g=>exact λm=>c2 (ai2 m)
theorem Sg {sh pl:Int} (hp:1<=pl) (row:List Int):∃ c:Nat,ie sh pl row (eO sh pl row)=some (c:Int)/\c<=row.length:=by
 obtain ⟨c,e⟩:=qy hp row row.length (aNS _)
 refine ⟨c,?_,(E4 e).2⟩
 unfold ie
 rw [atn (JZ sh pl row),e]
 rfl
def n9 (sh pl:Int) (row:List Int):Int:=(ie sh pl row (eO sh pl row)).getD 0
section
def vq (K:W.Frag):Sp:=λvs H Q _=>∃ (sh pl:Int) (a lo:Addr) (row:List Int) (os:List (Option Int)) (c:Int),vs=[.int sh,.int pl,.ref a,.ref lo]/\ak K H a (row.map V.int)/\H lo=some (.lst (os.map bg))/\1<=sh/\sh<=64/\row.length<=400/\ie sh pl row os=some c /\
 ∀ H',aq H H'->Q (.int c) H'
theorem V6 (F:bO K "misses_by" "misses_by" Gd f fd) (T:Txt K mg) (Cj:Def P w K mg base "count_misses" 3 Gq (pT K)):aH P w K mg base bI 4 f fd Gb (vq K):=by
 refine F.ok eZ (λvs H Q E h=>?_) (λcdv A outer st H vs Q E hr h=>?_)
 .obtain ⟨sh,pl,a,lo,row,os,c,rfl,_⟩:=h
  rfl
 obtain ⟨sh,pl,a,lo,row,os,c,rfl,hS,hO,hs0,hs1,hl,hc,k⟩:=h
 have nd:=eZ.nd
 refine ⟨_,(Ze (bM 4 nd (Zm Cj hr.m rfl (pc (pv 0) (pc (pv 1) (pc (pv 2) (pc (pv 3) Zd))))))
   (Ze (aO (ud (Ek (pv 4))) (Zj mE) Zw)
   (Zj (Zs (pv 4))))),?_⟩
 refine ⟨_,rfl,_,rfl,_,rfl,_,rfl,sh,pl,a,lo,row,os,rfl,hS,hO,hs0,hs1,hl,λH1 s1=>?_⟩
 rw [hc]
 exact ⟨_,rfl,_,rfl,b9 rfl ⟨_,rfl,k H1 s1⟩⟩
def JY (K:W.Frag):Sp:=λvs H Q _=>∃ (sh pl:Int) (a:Addr) (row:List Int),vs=[.int sh,.int pl,.ref a]/\ak K H a (row.map V.int)/\1<=sh/\sh<=64/\1<=pl/\pl<=16/\row.length<=400/\j5 9999 row /\
 ∀ H',aq H H'->Q (.int (n9 sh pl row)) H'
theorem Ws (F:bO K "least_misses" "least_misses" Gp f fd) (T:Txt K mg) (Bj:Def P w K mg base "farthest" 8 FH (pS K)) (Cq:Def P w K mg base "misses_by" 4 Gb (vq K)):aH P w K mg base bI 9 f fd Gn (JY K):=by
 refine F.ok cU (λvs H Q E h=>?_) (λcdv A outer st H vs Q E hr h=>?_)
 .obtain ⟨sh,pl,a,row,rfl,_⟩:=h
  rfl
 obtain ⟨sh,pl,a,row,rfl,hS,hs0,hs1,hp0,hp1,hl,bd,k⟩:=h
 have nd:=cU.nd
 refine ⟨_,(Zj (Zs (Zm Cq hr.m rfl (pc (pv 0) (pc (pv 1) (pc (pv 2) (pc (Zm Bj hr.m rfl (pc (pv 0) (pc (pv 1) (pc (pv 2) Zd)))) Zd))))))),?_⟩
 obtain ⟨c,hc,_⟩:=Sg (sh:=sh) hp0 row
 refine ⟨_,rfl,_,rfl,_,rfl,_,rfl,_,rfl,_,rfl,sh,pl,a,row,rfl,hS,hs0,hs1,hp0,hp1,hl,bd,λlo H1 hlo s1 e1=>?_⟩
 refine ⟨sh,pl,a,lo,row,_,c,rfl,s1.seq hS,e1,hs0,hs1,hl,hc,λH2 s2=>?_⟩
 have q:=k H2 (s1.trans s2)
 unfold n9 at q
 rw [hc] at q
 exact q
end
structure iI (sh pl:Int) (row:List Int) (O:Nat->List Int) (m:Nat->Nat):Prop where
 z:O 0=[]/\m 0=0
 nd:∀ i,i<=row.length->(O i).Nodup
 sz:∀ i,i<=row.length->∀ s,((Zi sh s (O i)).length:Int)<=pl
 hit:∀ i,i<row.length->row.getD i 0∈O i->(∀ x∈O (i+1),x∈O i)/\m (i+1)=m i
 zw:∀ i,i<row.length->row.getD i 0∉O i->(∀ x∈O (i+1),x=row.getD i 0\/x∈O i)/\m (i+1)=m i+1
 now:∀ i,i<row.length->row.getD i 0∈O (i+1)
section
variable {sh pl:Int} {row:List Int} {os:List (Option Int)}
def oS (sh pl:Int) (row:List Int) (os:List (Option Int)) (i:Nat):List Int×Nat:=(bV sh pl row os i).getD ([],0)
theorem IJ {i:Nat} {S:List Int×Nat} (h:bV sh pl row os (i+1)=some S):bV sh pl row os i=some (oS sh pl row os i)/\eF sh pl (row.getD i 0) (os.getD i none) (oS sh pl row os i)=some S:=by
 have h':(bV sh pl row os i).bind (eF sh pl (row.getD i 0) (os.getD i none))=some S:=h
 unfold oS
 cases e:bV sh pl row os i with
 | none=>rw [e] at h'; cases h'
 | some U=>rw [e] at h'; exact ⟨rfl,h'⟩
theorem QO {n:Nat} {S:List Int×Nat} (h:bV sh pl row os n=some S):∀ i,i<=n->bV sh pl row os i=some (oS sh pl row os i):=by
 induction n generalizing S with
 | zero =>
  intro i hi
  have:i=0:=by lia
  subst this
  rfl
 | succ n ih =>
  intro i hi
  by_cases c:i=n+1
  .subst c; unfold oS; rw [h]; rfl
  .exact ih (IJ h).1 i (by lia)
theorem ur {n i:Nat} {S:List Int×Nat} (h:bV sh pl row os n=some S) (hi:i<n):gR pl (Zi sh (row.getD i 0 % sh) (oS sh pl row os i).1) (row.getD i 0) (os.getD i none)=true/\(row.getD i 0∈(oS sh pl row os i).1->oS sh pl row os (i+1)=oS sh pl row os i)/\(row.getD i 0∉(oS sh pl row os i).1->oS sh pl row os (i+1)=(av (oS sh pl row os i).1 (os.getD i none)++[row.getD i 0],(oS sh pl row os i).2+1)):=by
 have q:=(IJ (QO h (i+1) (by lia))).2
 unfold eF at q
 split at q
 case isFalse=>cases q
 case isTrue c =>
  refine ⟨c,λhb=>?_,λhb=>?_⟩
  .rw [atn hb] at q; exact (ado q).symm
  .rw [amU hb] at q; exact (ado q).symm
theorem JX {l:List Int} {o:Option Int} {x:Int} (h:x∈av l o):x∈l:=by
 cases o with
 | none=>exact h
 | some g=>exact ai2 h
theorem EN (hp:1<=pl) {S:List Int×Nat} (h:bV sh pl row os row.length=some S):iI sh pl row (λi=>(oS sh pl row os i).1) λi=>(oS sh pl row os i).2:=by
 have inv:∀ i,i<=row.length->(oS sh pl row os i).1.Nodup/\∀ s,((Zi sh s (oS sh pl row os i).1).length:Int)<=pl:=by
  intro i
  induction i with
  | zero=>exact λ_=>⟨awg,λs=>by show ((0:Nat):Int)<=pl; lia⟩
  | succ i ih =>
   intro hi
   obtain ⟨n1,z1⟩:=ih (by lia)
   obtain ⟨hm,hh,hn⟩:=ur h (by lia:i<row.length)
   by_cases c:row.getD i 0∈(oS sh pl row os i).1
   .rw [hh c]; exact ⟨n1,z1⟩
   .rw [hn c]
    have cb:row.getD i 0∉Zi sh (row.getD i 0 % sh) (oS sh pl row os i).1:=λm=>c (ao.mp m).1
    refine ⟨?_,λs=>?_⟩
    .show (av _ _++[_]).Nodup
     rw [List.nodup_append]
     exact ⟨n1.sublist bL,by simp,λx hx y hy e=>c (by rw [aBr.mp hy] at e; rw [← e]; exact JX hx)⟩
    .show ((Zi sh s (av _ _++[_])).length:Int)<=pl
     rw [ZH]
     have zs:=z1 s
     unfold gR at hm
     cases eo:os.getD i none with
     | none =>
      rw [eo] at hm
      show ((if _ then Zi sh s (oS sh pl row os i).1++[_] else Zi sh s (oS sh pl row os i).1).length:Int)<=pl
      split
      .rename_i e
       rw [aUV,axk]
       split at hm
       case isFalse=>cases hm
       case isTrue q =>
        rcases q with q | q
        .exact absurd q cb
        .rw [e] at q; lia
      .exact zs
     | some g =>
      rw [eo] at hm
      show ((if _ then Zi sh s ((oS sh pl row os i).1.erase g)++[_] else Zi sh s ((oS sh pl row os i).1.erase g)).length:Int)<=pl
      rw [ZD]
      split at hm
      case isTrue=>cases hm
      case isFalse q =>
       have mg:=a6b hm
       split
       .rename_i e
        rw [e] at mg
        rw [aUV,axk,afg mg]
        have:=aTm mg
        lia
       .have:=aSb (a:=g) (l:=Zi sh s (oS sh pl row os i).1)
        lia
 refine ⟨⟨rfl,rfl⟩,λi hi=>(inv i hi).1,λi hi=>(inv i hi).2,λi hi hb=>?_,λi hi hb=>?_,λi hi=>?_⟩
 .obtain ⟨_,hh,_⟩:=ur h hi
  try dsimp only
  rw [hh hb]
  exact ⟨λx hx=>hx,rfl⟩
 .obtain ⟨_,_,hn⟩:=ur h hi
  try dsimp only
  rw [hn hb]
  refine ⟨λx hx=>?_,rfl⟩
  rcases aJX.mp hx with hx | hx
  .exact .inr (JX hx)
  .exact .inl (aBr.mp hx)
 .obtain ⟨_,hh,hn⟩:=ur h hi
  try dsimp only
  by_cases c:row.getD i 0∈(oS sh pl row os i).1
  .rw [hh c]; exact c
  .rw [hn c]; exact ap3 _ (aBr.mpr rfl)
end
theorem zZ {α:Type} [BEq α] [LawfulBEq α]:∀ {a b:List α},a.Nodup->(∀ x∈a,x∈b)->a.length<=b.length
 | [],_,_,_=>aze _
 | x :: a,b,h,m=>by
  obtain ⟨h1,h2⟩:=aG7.mp h
  have q:=zZ (b:=b.erase x) h2 λy hy=>(bbW (λz:y=x=>h1 (by rw [← z]; exact hy))).mpr (m y (amQ _ hy))
  rw [afg (m x a5w)] at q
  have:=aTm (m x a5w)
  rw [bc9]
  lia
theorem EM {α β:Type} {f:α->β}:∀ {l:List α},l.Nodup->(∀ x∈l,∀ y∈l,f x=f y->x=y)->(l.map f).Nodup
 | [],_,_=>awg
 | x :: l,h,i=>by
  obtain ⟨h1,h2⟩:=aG7.mp h
  refine aG7.mpr ⟨λz=>?_,EM h2 λa ha b hb=>i a (amQ _ ha) b (amQ _ hb)⟩
  obtain ⟨y,hy,e⟩:=aiy.mp z
  exact h1 (by rw [← i y (amQ _ hy) x a5w e]; exact hy)
theorem EL {α:Type} [BEq α] [LawfulBEq α] {n:Nat} {p:Nat->Bool} {b:List α} (f:Nat->α) (h:∀ i,i<n->p i=true->f i∈b) (inj:∀ i j,i<n->j<n->p i=true->p j=true->f i=f j->i=j):(List.range n).countP p<=b.length:=by
 rw [aDd]
 have nd:((List.range n).filter p).Nodup:=List.nodup_range.sublist aN5
 have at':∀ x∈(List.range n).filter p,x<n/\p x=true:=λx hx=>⟨aEj.mp (afi.mp hx).1,(afi.mp hx).2⟩
 have:=zZ (a:=((List.range n).filter p).map f) (b:=b) (EM nd λx hx y hy e=>inj x y (at' x hx).1 (at' y hy).1 (at' x hx).2 (at' y hy).2 e) λy hy=>by
  obtain ⟨x,hx,rfl⟩:=aiy.mp hy
  exact h x (at' x hx).1 (at' x hx).2
 rwa [aAt] at this
theorem EK {n:Nat} {p q:Nat->Bool} (f:Nat->Nat) (h:∀ i,i<n->p i=true->f i<n/\q (f i)=true) (inj:∀ i j,i<n->j<n->p i=true->p j=true->f i=f j->i=j):(List.range n).countP p<=(List.range n).countP q:=by
 rw [aDd (p:=q)]
 exact EL f (λi hi hp=>afi.mpr ⟨aEj.mpr (h i hi hp).1,(h i hi hp).2⟩) inj
def dG (row:List Int) (b:Int):Nat->Option Nat
 | 0=>none
 | j+1=>if row.getD j 0=b then some j else dG row b j
theorem ZE {row:List Int} {b:Int}:∀ {j i:Nat},dG row b j=some i->i<j/\row.getD i 0=b/\∀ k,i<k->k<j->row.getD k 0≠b
 | 0,i,h=>nomatch h
 | j+1,i,h=>by
  unfold dG at h
  split at h
  .rename_i c
   cases h
   exact ⟨aDX _,c,λk h1 h2=>by lia⟩
  .rename_i c
   obtain ⟨h1,h2,h3⟩:=ZE h
   refine ⟨by lia,h2,λk k1 k2=>?_⟩
   by_cases e:k=j
   .subst e; exact c
   .exact h3 k k1 (by lia)
theorem xT {row:List Int} {b:Int}:∀ {j:Nat},dG row b j=none->∀ k,k<j->row.getD k 0≠b
 | 0,_,k,h=>by lia
 | j+1,h,k,hk=>by
  unfold dG at h
  split at h
  .cases h
  .rename_i c
   by_cases e:k=j
   .subst e; exact c
   .exact xT h k (by lia)
theorem D7 {row:List Int} {b:Int} {j i:Nat} (h1:i<j) (h2:row.getD i 0=b) (h3:∀ k,i<k->k<j->row.getD k 0≠b):dG row b j=some i:=by
 cases e:dG row b j with
 | none=>exact absurd h2 (xT e i h1)
 | some k =>
  obtain ⟨k1,k2,k3⟩:=ZE e
  congr 1
  by_cases c:k<i
  .exact absurd h2 (k3 i c h1)
  .by_cases c2:i<k
   .exact absurd k2 (h3 k c2 k1)
   .lia
theorem tQ {row:List Int} {b:Int}:∀ (d p:Nat),p+d=row.length->(gD row p b=row.length/\∀ k,p<=k->k<row.length->row.getD k 0≠b)\/∃ j:Nat,p<=j/\j<row.length/\gD row p b=(j:Int)/\row.getD j 0=b/\∀ k,p<=k->k<j->row.getD k 0≠b
 | 0,p,h=>.inl ⟨Al (by lia),λk h1 h2=>by lia⟩
 | d+1,p,h=>by
  have hx:row[p]?=some (row.getD p 0):=by rw [aPI,aDi (by lia)]; rfl
  rw [AA hx]
  by_cases c:row.getD p 0=b
  .rw [atn c]
   exact .inr ⟨p,aNS _,by lia,rfl,c,λk h1 h2=>by lia⟩
  .rw [amU c]
   rcases tQ (row:=row) (b:=b) d (p+1) (by lia) with ⟨h1,h2⟩ | ⟨j,h1,h2,h3,h4,h5⟩
   .refine .inl ⟨h1,λk k1 k2=>?_⟩
    by_cases e:k=p
    .subst e; exact c
    .exact h2 k (by lia) k2
   .refine .inr ⟨j,by lia,h2,h3,h4,λk k1 k2=>?_⟩
    by_cases e:k=p
    .subst e; exact c
    .exact h5 k (by lia) k2
def bF (row:List Int) (i:Nat):Int:=gD row (i+1) (row.getD i 0)
def eS (sh:Int) (row:List Int) (i j m:Nat):Bool:=(decide (i<m) && decide (m<j)) && decide (row.getD m 0 % sh=row.getD i 0 % sh)
def cW (sh:Int) (row:List Int) (ms:List Nat) (i j:Nat):Bool:=ms.any (eS sh row i j)
def jU (sh:Int) (row:List Int) (ms:List Nat) (i:Nat):Bool:=decide (bF row i<row.length) && !cW sh row ms i (bF row i).toNat
def dU (row:List Int) (f:Nat->Nat->Bool) (j:Nat):Bool:=match dG row (row.getD j 0) j with
 | some i=>f i j
 | none=>false
def jT (sh:Int) (row:List Int) (ms:List Nat) (j:Nat):Bool:=dU row (λi j=>!cW sh row ms i j) j
theorem zW {row:List Int} {i:Nat} (hi:i<row.length) (h:bF row i<row.length):∃ j:Nat,bF row i=(j:Int)/\i<j/\j<row.length/\row.getD j 0=row.getD i 0/\dG row (row.getD j 0) j=some i:=by
 rcases tQ (row:=row) (b:=row.getD i 0) (row.length - (i+1)) (i+1) (by lia) with ⟨h1,_⟩ | ⟨j,h1,h2,h3,h4,h5⟩
 .unfold bF at h; lia
 .exact ⟨j,h3,by lia,h2,h4,by rw [h4]; exact D7 (by lia) rfl λk k1 k2=>h5 k (by lia) k2⟩
theorem zV {row:List Int} {i j:Nat} (hj:j<row.length) (h:dG row (row.getD j 0) j=some i):bF row i=(j:Int):=by
 obtain ⟨h1,h2,h3⟩:=ZE h
 rcases tQ (row:=row) (b:=row.getD i 0) (row.length - (i+1)) (i+1) (by lia) with ⟨_,k2⟩ | ⟨k,k1,k2,k3,k4,k5⟩
 .exact absurd h2.symm (k2 j (by lia) hj)
 .unfold bF
  rw [k3]
  congr 1
  by_cases c:k<j
  .exact absurd (k4.trans h2) (h3 k (by lia) c)
  .by_cases c2:j<k
   .exact absurd h2.symm (k5 j (by lia) c2)
   .lia
theorem Qe (row:List Int) (f:Nat->Nat->Bool):(List.range row.length).countP (λi=>decide (bF row i<row.length) && f i (bF row i).toNat)=(List.range row.length).countP (dU row f):=by
 apply Nat.le_antisymm
 .refine EK (λi=>(bF row i).toNat) (λi hi hp=>?_) (λi j hi hj hp hq e=>?_)
  .obtain ⟨h1,h2⟩:=(ba6 _ _).mp hp
   obtain ⟨j,e,h3,h4,h5,h6⟩:=zW hi (a6b h1)
   rw [e] at h2 ⊢
   refine ⟨h4,?_⟩
   unfold dU
   rw [show ((j:Int)).toNat=j from rfl,h6]
   exact h2
  .obtain ⟨h1,_⟩:=(ba6 _ _).mp hp
   obtain ⟨h2,_⟩:=(ba6 _ _).mp hq
   obtain ⟨x,e1,_,_,_,q1⟩:=zW hi (a6b h1)
   obtain ⟨y,e2,_,_,_,q2⟩:=zW hj (a6b h2)
   rw [e1,e2] at e
   have Du:x=y:=e
   rw [Du,q2] at q1
   exact (ado q1).symm
 .refine EK (λj=>(dG row (row.getD j 0) j).getD 0) (λj hj hp=>?_) (λi j hi hj hp hq e=>?_)
  .unfold dU at hp
   cases e:dG row (row.getD j 0) j with
   | none=>rw [e] at hp; cases hp
   | some i =>
    rw [e] at hp
    have:=ZE e
    have n:=zV hj e
    refine ⟨by show i<_; lia,?_⟩
    show (decide (bF row i<row.length) && f i (bF row i).toNat)=true
    rw [n,aGg (by lia)]
    exact hp
  .unfold dU at hp hq
   cases e1:dG row (row.getD i 0) i with
   | none=>rw [e1] at hp; cases hp
   | some x =>
    cases e2:dG row (row.getD j 0) j with
    | none=>rw [e2] at hq; cases hq
    | some y =>
     rw [e1,e2] at e
     have Du:x=y:=e
     have n1:=zV hi e1
     have n2:=zV hj e2
     rw [Du,n2] at n1
     lia
def bP (sh pl:Int) (row:List Int) (ms:List Nat):Int:=(pl - 1) * ms.length+((List.range row.length).countP (jU sh row ms):Nat)
theorem kI (sh pl:Int) (row:List Int) (ms:List Nat):bP sh pl row ms=(pl - 1) * ms.length+((List.range row.length).countP (jT sh row ms):Nat):=by
 unfold bP jT
 rw [← Qe]
 rfl
section
variable {sh pl:Int} {row:List Int} {O:Nat->List Int} {m:Nat->Nat}
def cj (row:List Int) (O:Nat->List Int) (j:Nat):Bool:=decide (row.getD j 0∈O j)
theorem iI.cnt (o:iI sh pl row O m):∀ i,i<=row.length->m i+(List.range i).countP (cj row O)=i
 | 0,_=>by rw [o.z.2]; rfl
 | i+1,h=>by
  have ih:=o.cnt i (by lia)
  rw [ahI,aaS,bbV]
  unfold cj at ih ⊢
  by_cases c:row.getD i 0∈O i
  .rw [(o.hit i (by lia) c).2,atn (by simpa using c)]; lia
  .rw [(o.zw i (by lia) c).2,amU (by simpa using c)]; lia
theorem iI.step (o:iI sh pl row O m) {i:Nat} (hi:i<row.length) {x:Int} (h:x∈O (i+1)):x=row.getD i 0\/x∈O i:=by
 by_cases c:row.getD i 0∈O i
 .exact .inr ((o.hit i hi c).1 x h)
 .exact (o.zw i hi c).1 x h
theorem iI.back (o:iI sh pl row O m):∀ {j:Nat},j<=row.length->∀ {x:Int},x∈O j->∃ i,i<j/\row.getD i 0=x
 | 0,_,x,h=>by rw [o.z.1] at h; cases h
 | j+1,hj,x,h=>by
  rcases o.step (by lia) h with e | h
  .exact ⟨j,by lia,e.symm⟩
  .obtain ⟨i,h1,h2⟩:=o.back (by lia) h
   exact ⟨i,by lia,h2⟩
theorem iI.stay (o:iI sh pl row O m) {i:Nat} {x:Int}:∀ (d t:Nat),i<t->t+d<=row.length->x∈O (t+d)->(∀ k,i<k->k<t+d->row.getD k 0≠x)->x∈O t
 | 0,t,_,_,h,_=>h
 | d+1,t,h1,h2,h,h3=>by
  have q:=o.stay d (t+1) (by lia) (by lia) (by rw [show t+1+d=t+(d+1) by lia]; exact h) λk k1 k2=>h3 k k1 (by lia)
  rcases o.step (by lia) q with e | q
  .exact absurd e.symm (h3 t (by lia) (by lia))
  .exact q
theorem iI.over (o:iI sh pl row O m) {a:Nat} (ha:a<row.length):(((List.range row.length).countP λj=>cj row O j && dU row (λi j=>eS sh row i j a) j:Nat):Int)<=pl - 1:=by
 have key:∀ j,j<row.length->(cj row O j && dU row (λi j=>eS sh row i j a) j)=true->∃ i,i<a/\a<j/\row.getD i 0=row.getD j 0/\(∀ k,i<k->k<j->row.getD k 0≠row.getD j 0)/\row.getD a 0 % sh=row.getD j 0 % sh/\row.getD j 0∈O (a+1):=λj hj hp=>by
  obtain ⟨h1,h2⟩:=(ba6 _ _).mp hp
  have h1:row.getD j 0∈O j:=a6b h1
  unfold dU at h2
  cases e:dG row (row.getD j 0) j with
  | none=>rw [e] at h2; cases h2
  | some i =>
   rw [e] at h2
   obtain ⟨p1,p2,p3⟩:=ZE e
   obtain ⟨c1,c3⟩:=(ba6 _ _).mp h2
   obtain ⟨c1,c2⟩:=(ba6 _ _).mp c1
   have c1:=a6b c1
   have c2:=a6b c2
   have c3:=a6b c3
   refine ⟨i,c1,c2,p2,p3,by rw [c3,p2],?_⟩
   exact o.stay (i:=i) (j - (a+1)) (a+1) (by lia) (by lia) (by rw [show a+1+(j - (a+1))=j by lia]; exact h1) λk k1 k2=>p3 k k1 (by lia)
 have ma:row.getD a 0∈Zi sh (row.getD a 0 % sh) (O (a+1)):=ao.mpr ⟨o.now a ha,rfl⟩
 have le:=EL (n:=row.length) (p:=λj=>cj row O j && dU row (λi j=>eS sh row i j a) j) (b:=(Zi sh (row.getD a 0 % sh) (O (a+1))).erase (row.getD a 0)) (λj=>row.getD j 0) (λj hj hp=>?_) (λj k hj hk hp hq e=>?_)
 .have z:=o.sz (a+1) (by lia) (row.getD a 0 % sh)
  rw [afg ma] at le
  have:=aTm ma
  lia
 .obtain ⟨i,h1,h2,h3,h4,h5,h6⟩:=key j hj hp
  exact (bbW (λz:row.getD j 0=row.getD a 0=>h4 a h1 h2 z.symm)).mpr (ao.mpr ⟨h6,h5.symm⟩)
 .obtain ⟨i,h1,h2,_,h4,_⟩:=key j hj hp
  obtain ⟨i',oQ,h2',_,zF,_⟩:=key k hk hq
  by_cases c:j<k
  .exact absurd e (zF j (by lia) c)
  .by_cases c2:k<j
   .exact absurd e.symm (h4 k (by lia) c2)
   .lia
theorem D6 {p q r s:Nat->Bool}:∀ l:List Nat,(∀ x∈l,p x=true->q x=true->r x=true\/s x=true)->l.countP (λx=>p x && q x)<=l.countP (λx=>p x && r x)+l.countP λx=>p x && s x
 | [],_=>aNS _
 | x :: l,h=>by
  have ih:=D6 l λy hy=>h y (amQ _ hy)
  simp only [aJW]
  have:=h x a5w
  cases hp:p x <;> cases hq:q x <;> cases hr:r x <;> cases hs:s x <;> simp_all <;> lia
theorem iI.marked (o:iI sh pl row O m):∀ ms:List Nat,(∀ x∈ms,x<row.length)->(((List.range row.length).countP λj=>cj row O j && dU row (λi j=>cW sh row ms i j) j:Nat):Int)<=(pl - 1) * ms.length
 | [],_=>by
  have:(List.range row.length).countP (λj=>cj row O j && dU row (λi j=>cW sh row [] i j) j)=0:=by
   rw [agS]
   intro j _ z
   obtain ⟨_,h2⟩:=(ba6 _ _).mp z
   unfold dU at h2
   split at h2 <;> cases h2
  rw [this]
  show (0:Int)<=(pl - 1) * ((0:Nat):Int)
  simp
 | a :: ms,h=>by
  have h1:=o.over (h a a5w)
  have h2:=o.marked ms λx hx=>h x (amQ _ hx)
  have h3:=D6 (p:=cj row O) (q:=dU row (λi j=>cW sh row (a :: ms) i j)) (r:=dU row (λi j=>eS sh row i j a)) (s:=dU row (λi j=>cW sh row ms i j)) (List.range row.length) (λx _ _ hx=>by
   unfold dU at hx ⊢
   cases e:dG row (row.getD x 0) x with
   | none=>rw [e] at hx; cases hx
   | some i =>
    rw [e] at hx
    have hx:(eS sh row i x a || cW sh row ms i x)=true:=hx
    exact (a09 _ _).mp hx)
  rw [bc9,Int.natCast_succ,Int.mul_add,Int.mul_one]
  lia
theorem iI.weak (o:iI sh pl row O m) (ms:List Nat) (h:∀ x∈ms,x<row.length):(row.length:Int) - m row.length<=bP sh pl row ms:=by
 have h1:=o.cnt row.length (aNS _)
 have h2:=o.marked ms h
 rw [kI]
 have h3:=D6 (p:=cj row O) (q:=λ_=>true) (r:=dU row (λi j=>cW sh row ms i j)) (s:=jT sh row ms) (List.range row.length) (λx hm hx _=>by
  unfold jT dU
  cases e:dG row (row.getD x 0) x with
  | none =>
   obtain ⟨i,i1,i2⟩:=o.back (aRN (aEj.mp hm)) (a6b hx)
   exact absurd i2 (xT e i i1)
  | some i=>dsimp only; cases cW sh row ms i x <;> simp)
 have h4:(List.range row.length).countP (λx=>cj row O x && jT sh row ms x)<=(List.range row.length).countP (jT sh row ms):=List.countP_mono_left λx _ hx=>((ba6 _ _).mp hx).2
 have h5:(List.range row.length).countP (λx=>cj row O x && true)=(List.range row.length).countP (cj row O):=by simp only [Bool.and_true]
 lia
end
def mV (ms:List Nat):List V:=ms.map λm:Nat=>V.int (m:Int)
def gu (row:List Int):List Nat:=(List.range row.length).filter λi=>decide (bF row i<row.length)
theorem LK (row:List Int) {i:Nat} (hi:i<row.length):(Zv row)[i]?=some (bF row i):=by
 unfold Zv
 rw [aYu,ahO hi]
 rfl
section
def II (G:Hp) (l:Addr) (row:List Int) (ns:List Nat):Prop:=∃ ah:List Addr,G l=some (.lst (ah.map V.ref))/\ah.length=ns.length/\∀ (k:Nat) (ad:Addr) (i:Nat),ah[k]?=some ad->ns[k]?=some i->G ad=some (.tup [.int (i:Int),.int (bF row i)])
def IG (K:W.Frag):Sp:=λvs H Q _=>∃ (a:Addr) (row:List Int),vs=[.ref a]/\ak K H a (row.map V.int)/\row.length<=400 /\
 ∀ (l:Addr) (H':Hp),H l=none->aq H H'->II H' l row (gu row)->Q (.ref l) H'
theorem Wh (F:bO K "returns_of" "returns_of" AZ f fd) (T:Txt K mg) (oG:Def P w K mg base "asked_again" 1 yd (Ak K)):aH P w K mg base bI 2 f fd FW (IG K):=by
 refine F.ok dX (λvs H Q E h=>?_) (λcdv A outer st H vs Q E hr h=>?_)
 .obtain ⟨a,row,rfl,_⟩:=h
  rfl
 obtain ⟨a,row,rfl,hS,hl,k⟩:=h
 have nd:=dX.nd
 refine ⟨_,(Zj (Zs (EY (Zy (eV:=(Zg AZ)) (oN:=cQ) (N:=["first", "last", "row"]) (own:=2) (js:=[0]) (by decide +kernel) rfl rfl) rfl (Ez rfl T.vK (pc (Zm oG hr.m rfl (pc (pv 0) Zd)) Zd)) (λ_ _ _ _ _ _=>(kJ (K:=K) (n:=2) rfl rfl (Zt (bS 0 (show List.Nodup (["first", "last", "row"]:List Str) by decide +kernel)) (Zt (bS 1 (show List.Nodup (["first", "last", "row"]:List Str) by decide +kernel)) kK)))) (λ_ _ _ _ _ _=>(Zu gO (pv 1) (Zk (Zn (K:=K) rfl) rfl T.fZ aTr (pc (pv 2) Zd)) (Zx _))) (λ_ _ _ _ _ _=>(lu (pc (pv 0) (pc (pv 1) Zd))))))),?_⟩
 refine ⟨_,rfl,a,row,rfl,hS,hl,λlg H1 OU s1 e1=>⟨lg,rfl,⟨_,ak.of e1⟩,λl hl'=>?_⟩⟩
 have la:((Zv row).map V.int).length=row.length:=by rw [aAt,AM]
 refine UK (K:=K) (a:=lg) (xs:=(Zv row).map V.int) (l:=l) (λj ys σ' G'=>∃ (v0 v1:Option V),σ'=[v0,v1,some (.ref a)]/\G' l=some (.lst ys)/\II G' l row ((List.range j).filter λi=>decide (bF row i<row.length))/\aq H1 G')
  ⟨none,none,rfl,Za,⟨[],Za,rfl,λk ad i h _=>by simp at h⟩,Zf hl' _⟩ (λj ys σ' G' _ ⟨_,_,_,_,_,s⟩=>ak.of (s _ _ e1)) ?_ ?_
 .rintro j x t ys σ' G' hj kB hys ⟨v0,v1,rfl,el,⟨ah,r1,r2,r3⟩,sg⟩ ht
  have hj':j<row.length:=by lia
  rw [aYu,LK row hj'] at kB
  cases kB
  have vY:l≠t:=Zb el ht
  have hx:((List.range (j+1)).filter λi=>decide (bF row i<row.length))=((List.range j).filter λi=>decide (bF row i<row.length))++(if bF row j<row.length then [j] else []):=by
   rw [ahI,aXR,aTO,aCy]
   simp only [a8m]
  have sx:=Zf (H:=G') ht (.tup [V.int (j:Int),V.int (bF row j)])
  refine ⟨t,_,rfl,bG.of Za,rfl,_,_,rfl,_,_,rfl,rfl,?_⟩
  refine ⟨_,rfl,_,rfl,a,_,rfl,.inl ((s1.trans (sg.trans sx)).seq hS),_,_,rfl,rfl,_,rfl,?_⟩
  generalize upd G' t (.tup [V.int (j:Int),V.int (bF row j)])=G1 at *
  have Ih:=sx _ _ el
  rw [aAt]
  refine ZJ (λc=>?_) (λc=>?_)
  .rw [atn c] at hx
   refine ⟨_,rfl,_,rfl,(sl 2),λq hq=>?_⟩
   have sq:=Zf (H:=G1) hq (.tup [V.int (j:Int),V.int (bF row j)])
   have eq:=Za (H:=G1) (a:=q) (o:=.tup [V.int (j:Int),V.int (bF row j)])
   have NX:l≠q:=Zb Ih hq
   dsimp only
   have sG:=sx.trans sq
   generalize upd G1 q (.tup [V.int (j:Int),V.int (bF row j)])=G2 at *
   have ey:ys=ah.map V.ref:=by rw [el] at r1; cases r1; rfl
   subst ey
   refine eX.of (by rw [la]; exact aRN (Zo (by lia))) hj hys (sG _ _ el) ⟨_,_,rfl,Za,⟨ah++[q],by rw [Za,awR]; rfl,by rw [hx,aUV,aUV,r2]; rfl,λk ad i h1 h2=>?_⟩,λx o e=>by rw [Zc (Zb e hl')]; exact sG _ _ (sg _ _ e)⟩
   rw [hx] at h2
   by_cases ck:k<ah.length
   .rw [a6D ck] at h1
    rw [a6D (by rw [← r2]; exact ck)] at h2
    have q3:=r3 k ad i h1 h2
    rw [Zc (λz=>by rw [z,el] at q3; cases q3)]
    exact sG _ _ q3
   .rw [aFp (by lia)] at h1
    rw [aFp (by rw [← r2]; lia),← r2] at h2
    cases ek:k - ah.length with
    | zero =>
     rw [ek] at h1 h2
     cases h1; cases h2
     rw [Zc (a38 NX)]
     exact eq
    | succ n=>rw [ek] at h1; simp at h1
  .rw [amU c,amK] at hx
   refine lJ.of hj hys ⟨_,_,rfl,Ih,⟨ah,sx _ _ r1,by rw [hx]; exact r2,λk ad i h1 h2=>sx _ _ (r3 k ad i h1 (by rw [hx] at h2; exact h2))⟩,sg.trans sx⟩
 .rintro ys σ' G' _ ⟨v0,v1,rfl,el,rr,sg⟩
  rw [la] at rr
  exact k l G' (s1.free hl') (s1.trans sg) rr
def vm (K:W.Frag):Sp:=λvs H Q _=>∃ (sh:Int) (a lm:Addr) (row:List Int) (ms:List Nat) (i j:Nat),vs=[.int sh,.ref a,.ref lm,.int (i:Int),.int (j:Int)]/\ak K H a (row.map V.int)/\ak K H lm (mV ms)/\1<=sh/\i<row.length/\(∀ x∈ms,x<row.length)/\ms.length<=900 /\
 ∀ H',aq H H'->Q (.bl (cW sh row ms i j)) H'
theorem V5 (F:bO K "is_marked" "is_marked" AU f fd) (T:Txt K mg) (iB:Def P w K mg base "shelf_of" 1 ZZ sj):aH P w K mg base bI 2 f fd Ga (vm K):=by
 refine F.ok e8 (λvs H Q E h=>?_) (λcdv A outer st H vs Q E hr h=>?_)
 .obtain ⟨sh,a,lm,row,ms,i,j,rfl,_⟩:=h
  rfl
 obtain ⟨sh,a,lm,row,ms,i,j,rfl,hS,hM,hs0,hi,hm,hl,k⟩:=h
 have nd:=e8.nd
 refine ⟨_,(Ze (bM 5 nd (Zm iB hr.m rfl (pc (pv 0) (pc (aG (Zp (K:=K) rfl) (pv 1) (pv 3) (λ_ _=>rfl)) Zd))))
   (Zj (Zs (Zk (UR rfl) rfl T.A6 TV (pc (qA (Zy (eV:=(Zg AU)) (oN:=dO) (N:=["mark", "first", "last", "shelf", "shelves", "row"]) (own:=1) (js:=[3,4,5,0,1]) (by decide +kernel) rfl rfl) rfl (oj (K:=K) rfl (pv 2)) (λ_ _ _ _ _ _=>(bS 0 (show List.Nodup (["mark", "first", "last", "shelf", "shelves", "row"]:List Str) by decide +kernel))) (λ_ _ _ _ _ _=>(sd (Tc gO gO (pv 1) (pv 0) (pv 2)) (ua (nI br (Zm iB hr.m rfl (pc (pv 4) (pc (aG (Zp (K:=K) rfl) (pv 5) (pv 0) (λ_ _=>rfl)) Zd))) (pv 3) (Zx _)))))) Zd))))),?_⟩
 have at':∀ x,x<row.length->cZ (row.map V.int) (x:Int)=some (.int (row.getD x 0)):=λx hx=>ZS (by rw [aYu,aPI,aDi hx]; rfl)
 refine ⟨_,rfl,_,rfl,_,rfl,a,_,_,_,rfl,rfl,hS,at' i hi,sh,_,rfl,hs0,gN ?_⟩
 refine ⟨_,rfl,lm,rfl,⟨_,hM⟩,λl hl'=>?_⟩
 have lV:(mV ms).length=ms.length:=aAt ..
 refine o9 (K:=K) (a:=lm) (xs:=mV ms) (l:=l) (λn ys σ' G'=>∃ (v0:Option V),σ'=[v0,some (.int (i:Int)),some (.int (j:Int)),some (.int (row.getD i 0 % sh)),some (.int sh),some (.ref a)]/\ys=((ms.take n).map (eS sh row i j)).map V.bl/\G' l=some (.lst ys)/\aq H G')
  ⟨none,rfl,rfl,Za,Zf hl' _⟩ (λn ys σ' G' _ ⟨_,_,_,_,s⟩=>s.seq hM) ?_ ?_
 .rintro n x ys σ' G' hn hxn hys ⟨v0,rfl,rfl,el,sg⟩
  have hn':n<ms.length:=by lia
  have em:ms[n]?=some ms[n]:=aDi hn'
  have ex:x=.int (ms[n]:Int):=by
   unfold mV at hxn
   rw [aYu,em] at hxn
   exact (ado hxn).symm
  subst ex
  have mr:=hm _ (abg em)
  have tk:ms.take (n+1)=ms.take n++[ms[n]]:=by rw [avq,em]; rfl
  generalize ms[n]=z at *
  have fin:∀ {b:Bool},b=eS sh row i j z->eX (mV ms).length l (λn ys σ' G'=>∃ (v0:Option V),σ'=[v0,some (.int (i:Int)),some (.int (j:Int)),some (.int (row.getD i 0 % sh)),some (.int sh),some (.ref a)]/\ys=((ms.take n).map (eS sh row i j)).map V.bl/\G' l=some (.lst ys)/\aq H G') n (((ms.take n).map (eS sh row i j)).map V.bl) [some (.int (z:Int)),some (.int (i:Int)),some (.int (j:Int)),some (.int (row.getD i 0 % sh)),some (.int sh),some (.ref a)] (.bl b) G':=λ{b} e =>
   eX.of (by rw [lV]; exact aRN (Zo (by lia))) hn hys el ⟨_,rfl,by rw [tk,e,awR,awR]; rfl,Za,λx o e=>by rw [Zc (Zb e hl')]; exact sg _ _ e⟩
  refine ⟨_,rfl,_,rfl,_,_,rfl,rfl,_,rfl,?_⟩
  by_cases c1:i<z
  .refine dh (aGg (by lia)) ⟨_,rfl,_,_,rfl,rfl,_,rfl,?_⟩
   by_cases c2:z<j
   .refine dh (aGg (by lia)) ⟨_,rfl,_,rfl,_,rfl,a,_,_,_,rfl,rfl,sg.seq hS,at' z mr,sh,_,rfl,hs0,_,rfl,rfl,fin ?_⟩
    unfold eS
    rw [aGg c1,aGg c2]
    simp
   .refine b9 (aWh (by lia)) (fin ?_)
    unfold eS
    rw [aWh c2,Bool.and_false,aYE]
  .refine b9 (aWh (by lia)) ⟨_,rfl,b9 rfl (fin ?_)⟩
   unfold eS
   rw [aWh c1,aYE,aYE]
 .rintro ys σ' G' _ ⟨v0,rfl,rfl,el,sg⟩
  rw [lV,afX] at el
  refine ⟨l,_,rfl,ak.of el,?_⟩
  rw [any_map]
  exact k G' sg
def pV (K:W.Frag):Sp:=λvs H Q _=>∃ (sh pl:Int) (a lm:Addr) (row:List Int) (ms:List Nat),vs=[.int sh,.int pl,.ref a,.ref lm]/\ak K H a (row.map V.int)/\ak K H lm (mV ms)/\1<=sh/\row.length<=400/\(∀ x∈ms,x<row.length)/\ms.length<=900 /\
 ∀ H',aq H H'->Q (.int (bP sh pl row ms)) H'
theorem D5 {row:List Int} {i:Nat}:0<=bF row i:=by
 unfold bF
 by_cases c:i+1<=row.length
 .rcases tQ (row:=row) (b:=row.getD i 0) (row.length - (i+1)) (i+1) (by lia) with ⟨h1,_⟩ | ⟨j,_,_,h3,_⟩ <;> lia
 .rw [Al (by lia)]; lia
theorem Sf (F:bO K "bound" "bound" Ar f fd) (T:Txt K mg) (Cc:Def P w K mg base "returns_of" 2 FW (IG K)) (Cp:Def P w K mg base "is_marked" 2 Ga (vm K)):aH P w K mg base bI 3 f fd Eu (pV K):=by
 refine F.ok jb (λvs H Q E h=>?_) (λcdv A outer st H vs Q E hr h=>?_)
 .obtain ⟨sh,pl,a,lm,row,ms,rfl,_⟩:=h
  rfl
 obtain ⟨sh,pl,a,lm,row,ms,rfl,hS,hM,hs0,hl,hm,hml,k⟩:=h
 have nd:=jb.nd
 refine ⟨_,(Ze (KN 4 (Zy (eV:=(Zg Ar)) (oN:=iW) (N:=["first", "last", "shelves", "row", "marks"]) (own:=2) (js:=[0,2,3]) (by decide +kernel) rfl rfl) rfl nd rfl rfl (oj (K:=K) rfl (Zm Cc hr.m rfl (pc (pv 2) Zd))) (λ_ _ _ _ _ _=>(kJ (K:=K) (n:=2) rfl rfl (Zt (bS 0 (show List.Nodup (["first", "last", "shelves", "row", "marks"]:List Str) by decide +kernel)) (Zt (bS 1 (show List.Nodup (["first", "last", "shelves", "row", "marks"]:List Str) by decide +kernel)) kK)))) (λ_ _ _ _ _ _=>(se (lD (Zm Cp hr.m rfl (pc (pv 2) (pc (pv 3) (pc (pv 4) (pc (pv 0) (pc (pv 1) Zd))))))))) (λ_ _ _ _ _ _=>(pv 0)))
   (Zj (Zs (aa ZO (aa ju (aa lC (pv 1) Zh) (Zk (Zn (K:=K) rfl) rfl T.fZ aTr (pc (pv 3) Zd))) (Zk (Zn (K:=K) rfl) rfl T.fZ aTr (pc (pv 4) Zd)))))),?_⟩
 refine ⟨_,rfl,a,row,rfl,hS,hl,λlr H1 hlr s1 rr=>?_⟩
 obtain ⟨ah,r1,r2,r3⟩:=rr
 refine ⟨lr,rfl,⟨_,ak.of r1⟩,λl hl'=>?_⟩
 have lV:(ah.map V.ref).length=(gu row).length:=by rw [aAt,r2]
 have Xj:(gu row).length<=row.length:=by
  have:=aKi (λi=>decide (bF row i<row.length)) (List.range row.length)
  rw [aan] at this
  exact this
 refine o9 (K:=K) (a:=lr) (xs:=ah.map V.ref) (l:=l) (λn ys σ' G'=>∃ (v0 v1:Option V),σ'=[v0,v1,some (.int sh),some (.ref a),some (.ref lm)]/\ys.length=((gu row).take n).countP (λi=>!cW sh row ms i (bF row i).toNat)/\G' l=some (.lst ys)/\aq H1 G')
  ⟨none,none,rfl,rfl,Za,Zf hl' _⟩ (λn ys σ' G' _ ⟨_,_,_,_,_,s⟩=>ak.of (s _ _ r1)) ?_ ?_
 .rintro n x ys σ' G' hn hxn hys ⟨v0,v1,rfl,hy,el,sg⟩
  have hn':n<ah.length:=by rw [aAt] at hn; exact hn
  rw [aYu,aDi hn'] at hxn
  cases hxn
  have ei:(gu row)[n]?=some (gu row)[n]:=aDi (by lia)
  have q3:=r3 n _ _ (aDi hn') ei
  have tk:(gu row).take (n+1)=(gu row).take n++[(gu row)[n]]:=by rw [avq,ei]; rfl
  obtain ⟨i1,i2⟩:=afi.mp (abg ei)
  have i1:=aEj.mp i1
  generalize (gu row)[n]=i at *
  have ge:=D5 (row:=row) (i:=i)
  refine ⟨_,_,rfl,bG.of (sg _ _ q3),rfl,_,_,rfl,_,_,rfl,rfl,?_⟩
  refine ⟨_,rfl,_,rfl,_,rfl,_,rfl,_,rfl,sh,a,lm,row,ms,i,(bF row i).toNat,by rw [Int.toNat_of_nonneg ge]; rfl,(s1.trans sg).seq hS,(s1.trans sg).seq hM,hs0,i1,hm,hml,λG2 s2=>?_⟩
  refine ⟨_,rfl,?_⟩
  have Ig:=s2 _ _ el
  cases cb:cW sh row ms i (bF row i).toNat with
  | false =>
   refine dh rfl ⟨_,rfl,eX.of (by rw [lV]; exact aRN (Zo (by lia))) hn hys Ig ⟨_,_,rfl,?_,Za,λx o e=>by rw [Zc (Zb e hl')]; exact s2 _ _ (sg _ _ e)⟩⟩
   rw [tk,aaS,bbV,aUV,hy,atn (by rw [cb]; rfl)]
   rfl
  | true =>
   refine b9 rfl (lJ.of hn hys ⟨_,_,rfl,?_,Ig,sg.trans s2⟩)
   rw [tk,aaS,bbV,hy,amU (by rw [cb]; exact aPi)]
   rfl
 .rintro ys σ' G' _ ⟨v0,v1,rfl,hy,el,sg⟩
  rw [lV,afX] at hy
  have sG:=s1.trans sg
  have e:(gu row).countP (λi=>!cW sh row ms i (bF row i).toNat)=(List.range row.length).countP (jU sh row ms):=by
   unfold gu
   rw [List.countP_filter]
   refine aC6 λi _=>?_
   unfold jU
   rw [Bool.and_comm]
  rw [e] at hy
  have lM:(mV ms).length=ms.length:=aAt ..
  refine gN ⟨_,rfl,_,_,rfl,rfl,_,rfl,lm,_,rfl,.inl (sG.seq hM),_,_,rfl,rfl,.inr (by rw [lM]; lia),_,rfl,l,_,rfl,.inl (ak.of el),_,_,rfl,rfl,?_⟩
  rw [lM,hy]
  exact k G' sG
end
def eG (sh:Int) (row:List Int):List Int:=row.foldl (λks b=>if b % sh∈ks then ks else ks++[b % sh]) []
theorem KY (sh:Int) (row:List Int) (b:Int):eG sh (row++[b])=if b % sh∈eG sh row then eG sh row else eG sh row++[b % sh]:=by
 unfold eG
 rw [List.foldl_append]
 rfl
theorem tP (sh:Int) (row:List Int):∀ n,n<=row.length->(eG sh (row.take n)).Nodup/\(∀ s,s∈eG sh (row.take n)↔∃ i,i<n/\row.getD i 0 % sh=s)/\(eG sh (row.take n)).length<=n
 | 0,_=>⟨awg,λs=>⟨λh=>(nomatch h),λ⟨i,h,_⟩=>by lia⟩,aNS _⟩
 | n+1,hn=>by
  obtain ⟨h1,h2,h3⟩:=tP sh row n (by lia)
  have et:row.take (n+1)=row.take n++[row.getD n 0]:=by rw [avq,aPI,aDi (by lia:n<row.length)]; rfl
  rw [et,KY]
  have ex:∀ s,(∃ i,i<n+1/\row.getD i 0 % sh=s)↔(∃ i,i<n/\row.getD i 0 % sh=s)\/row.getD n 0 % sh=s:=λs=>by
   constructor
   .rintro ⟨i,h,e⟩
    by_cases c:i=n
    .subst c; exact .inr e
    .exact .inl ⟨i,by lia,e⟩
   .rintro (⟨i,h,e⟩ | e)
    .exact ⟨i,by lia,e⟩
    .exact ⟨n,by lia,e⟩
  by_cases c:row.getD n 0 % sh∈eG sh (row.take n)
  .rw [atn c]
   refine ⟨h1,λs=>?_,by lia⟩
   rw [ex,h2]
   exact ⟨.inl,λz=>z.elim id λe=>(h2 s).mp (e ▸ c)⟩
  .rw [amU c]
   refine ⟨lT h1 c,λs=>?_,by rw [aUV]; show _+1<=_; lia⟩
   rw [ex,aRS,ax6,h2]
   exact ⟨λz=>z.imp id Eq.symm,λz=>z.imp id Eq.symm⟩
def aX (sh:Int) (row:List Int) (n:Nat) (s:Int):List Nat:=(List.range n).filter λi=>decide (row.getD i 0 % sh=s)
theorem Az (sh:Int) (row:List Int) (n:Nat) (s:Int):aX sh row (n+1) s=aX sh row n s++(if row.getD n 0 % sh=s then [n] else []):=by
 unfold aX
 rw [ahI,aXR,aTO,aCy]
 simp only [a8m]
theorem zU (a b:List Nat):mV (a++b)=mV a++mV b:=awR ..
theorem JW (sh:Int) (row:List Int) (n:Nat) (s:Int):(mV (aX sh row n s)).length<=n:=by
 unfold mV aX
 rw [aAt]
 have:=aKi (λi=>decide (row.getD i 0 % sh=s)) (List.range n)
 rwa [aan] at this
def iY (p:Int×Addr):Key×V:=(Sum.inl p.1,V.ref p.2)
structure yp (G:Hp) (d:Addr) (sh:Int) (row:List Int) (n:Nat) (L:List (Int×Addr)):Prop where
 top:G d=some (.dK (L.map iY))
 ks:L.map (·.1)=eG sh (row.take n)
 nd:(L.map (·.2)).Nodup
 at':∀ p∈L,G p.2=some (.lst (mV (aX sh row n p.1)))
theorem D4:∀ (L:List (Int×Addr)) (s:Int),(∃ ad,(s,ad)∈L/\aR (L.map iY) (Sum.inl s)=some (.ref ad))\/(s∉L.map (·.1)/\aR (L.map iY) (Sum.inl s)=none)
 | [],s=>.inr ⟨λh=>(nomatch h),rfl⟩
 | (x,ad) :: L,s=>by
  by_cases c:x=s
  .subst c
   exact .inl ⟨ad,a5w,ZM (p:=iY (x,ad)) rfl⟩
  .have e:aR ((iY (x,ad)) :: L.map iY) (Sum.inl s)=aR (L.map iY) (Sum.inl s):=ZK λz=>c (a8W z)
   rw [aWO,e]
   rcases D4 L s with ⟨a,h1,h2⟩ | ⟨h1,h2⟩
   .exact .inl ⟨a,amQ _ h1,h2⟩
   .exact .inr ⟨λz=>(ac0.mp z).elim (λz=>c z.symm) h1,h2⟩
theorem EJ {α β:Type}:∀ {L:List (α×β)},(L.map (·.1)).Nodup->∀ {p q:α×β},p∈L->q∈L->p.1=q.1->p=q
 | [],_,_,_,h,_,_=>nomatch h
 | x :: L,nd,p,q,hp,hq,e=>by
  obtain ⟨n1,n2⟩:=aG7.mp nd
  rcases ac0.mp hp with h1 | h1 <;> rcases ac0.mp hq with h2 | h2
  .rw [h1,h2]
  .exact absurd (aiy.mpr ⟨q,h2,by rw [← e,h1]⟩) n1
  .exact absurd (aiy.mpr ⟨p,h1,by rw [e,h2]⟩) n1
  .exact EJ n2 h1 h2 e
theorem QN {α β:Type} {L:List (α×β)} (nd:(L.map (·.2)).Nodup) {p q:α×β} (hp:p∈L) (hq:q∈L) (e:p.2=q.2):p=q:=by
 have h:=EJ (L:=L.map λx=>(x.2,x.1)) (by rw [aPs]; exact nd) (p:=(p.2,p.1)) (q:=(q.2,q.1)) (aiy.mpr ⟨p,hp,rfl⟩) (aiy.mpr ⟨q,hq,rfl⟩) e
 obtain ⟨a,b⟩:=p
 obtain ⟨c,d⟩:=q
 cases h; rfl
section
def vh (K:W.Frag):Sp:=λvs H Q _=>∃ (sh:Int) (a:Addr) (row:List Int),vs=[.int sh,.ref a]/\ak K H a (row.map V.int)/\1<=sh/\row.length<=400 /\
 ∀ (d:Addr) (H':Hp) (L:List (Int×Addr)),H d=none->aq H H'->yp H' d sh row row.length L->(∀ p∈L,H p.2=none)->Q (.ref d) H'
theorem Wu (F:bO K "places_by_shelf" "places_by_shelf" Gm f fd) (T:Txt K mg) (iB:Def P w K mg base "shelf_of" 1 ZZ sj):aH P w K mg base bI 2 f fd Gk (vh K):=by
 refine F.ok bT (λvs H Q E h=>?_) (λcdv A outer st H vs Q E hr h=>?_)
 .obtain ⟨sh,a,row,rfl,_⟩:=h
  rfl
 obtain ⟨sh,a,row,rfl,hS,hs0,hl,k⟩:=h
 have nd:=bT.nd
 refine ⟨_,(Ze (bM 2 nd AI)
   (Ze (lS aVe rfl (Ez rfl T.vK (pc (pv 1) Zd)) (kJ (K:=K) (n:=2) rfl rfl (Zt (bS 3 nd) (Zt (bS 4 nd) kK))) (Zj (Zz (jt (K:=K) rfl (bK aqK a9V alx ZG (SG (pv 2) (Zm iB hr.m rfl (pc (pv 0) (pc (pv 4) Zd))) (ZT Zd) ⟨rfl,rfl,rfl,rfl⟩) (pc (pv 3) Zd))))))
   (Zj (Zs (pv 2))))),?_⟩
 refine λd hd=>⟨_,rfl,a,rfl,⟨_,(Zf hd _).seq hS⟩,KD (K:=K) (a:=a) (xs:=row.map V.int) (λi σ G=>∃ (v3 v4:Option V) (L:List (Int×Addr)),σ=[some (.int sh),some (.ref a),some (.ref d),v3,v4]/\yp G d sh row i L/\(∀ p∈L,H p.2=none)/\aq H G)
  ⟨none,none,[],rfl,⟨Za,rfl,awg,λp h=>(nomatch h)⟩,λp h=>(nomatch h),Zf hd _⟩ (λi σ G _ ⟨_,_,_,_,_,_,s⟩=>s.seq hS) ?_ ?_⟩
 .rintro i x t σ G hx ⟨v3,v4,L,rfl,B,nw,sg⟩ ht
  obtain ⟨z,hz,rfl⟩:=sA hx
  have hi:i<row.length:=(aw7.mp hz).1
  have eg:row.getD i 0=z:=by rw [aPI,hz]; rfl
  have et:row.take (i+1)=row.take i++[z]:=by rw [avq,hz]; rfl
  obtain ⟨k1,k2,k3⟩:=tP sh row i (by lia)
  have lL:L.length<=i:=by have:=a0A List.length B.ks; rw [aAt] at this; lia
  refine ⟨t,_,rfl,bG.of Za,rfl,_,_,rfl,gN ⟨_,_,rfl,gN ⟨rfl,?_⟩⟩⟩
  have s1:=Zf (H:=G) ht (.tup [V.int (i:Int),V.int z])
  generalize upd G t (.tup [V.int (i:Int),V.int z])=G1 at *
  have lY:=s1 _ _ B.top
  refine ⟨_,rfl,d,rfl,.inl ⟨_,.inl lY⟩,_,rfl,_,rfl,sh,z,rfl,hs0,(sl 0),λq hq=>?_⟩
  have s2:=Zf (H:=G1) hq (.lst [])
  have e2:upd G1 q (.lst []) q=some (.lst []):=Za
  have qH:H q=none:=(sg.trans s1).free hq
  have G9:q≠d:=λz=>by rw [z,lY] at hq; cases hq
  have sG:=s1.trans s2
  have Hf:∀ p∈L,p.2≠q:=λp hp z=>by
   have h:=s1 _ _ (B.at' p hp)
   rw [z,hq] at h; cases h
  generalize upd G1 q (.lst [])=G2 at *
  have qJ:=s2 _ _ lY
  have Hr:∀ p∈L,p.2≠d:=λp hp z=>by
   have h:=sG _ _ (B.at' p hp)
   rw [z,qJ] at h; cases h
  clear lY hq s1 s2
  have GU:eG sh (row.take (i+1))=if z % sh∈eG sh (row.take i) then eG sh (row.take i) else eG sh (row.take i)++[z % sh]:=by rw [et]; exact KY ..
  refine ⟨_,Sum.inl (z % sh),qJ,rfl,Zo (by rw [aAt]; lia),λv hv=>?_,λhn=>?_⟩
  .rcases D4 L (z % sh) with ⟨ad,h1,h2⟩ | ⟨h1,h2⟩
   .rw [hv] at h2
    cases h2
    have ea:=sG _ _ (B.at' _ h1)
    refine ⟨.inl ⟨rfl,_,ak.of ea⟩,_,rfl,ad,_,_,rfl,rfl,ea,Zo (ay9 (JW sh row i (z % sh)) (by lia)),⟨_,_,L,rfl,⟨by rw [Zc (a38 (Hr _ h1))]; exact qJ,?_,B.nd,λp hp=>?_⟩,nw,λx o e=>by rw [Zc (Zb e (nw _ h1))]; exact sG _ _ (sg _ _ e)⟩⟩
    .rw [B.ks,GU,atn]
     rw [← B.ks]
     exact aiy.mpr ⟨_,h1,rfl⟩
    .rw [Az,eg]
     by_cases c:p.2=ad
     .have ep:p=(z % sh,ad):=QN B.nd hp h1 c
      subst ep
      rw [Za,atn rfl,zU]
      rfl
     .rw [Zc c,amU,amK]
      .exact sG _ _ (B.at' p hp)
      .intro w
       have ep:p=(z % sh,ad):=EJ (by rw [B.ks]; exact k1) hp h1 w.symm
       exact c (by rw [ep])
   .rw [hv] at h2; cases h2
  .rcases D4 L (z % sh) with ⟨ad,h1,h2⟩ | ⟨h1,h2⟩
   .rw [hn] at h2; cases h2
   .rw [TJ _ h2]
    have eq:upd G2 d (.dK (L.map iY++[(Sum.inl (z % sh),V.ref q)])) q=some (.lst []):=by rw [Zc G9]; exact e2
    refine ⟨.inl ⟨rfl,_,ak.of eq⟩,_,rfl,q,_,_,rfl,rfl,eq,Zo (by show 0<=1000; lia),⟨_,_,L++[(z % sh,q)],rfl,⟨by rw [Zc (a38 G9),Za,awR]; rfl,?_,?_,λp hp=>?_⟩,λp hp=>?_,λx o e=>by rw [Zc (Zb e qH),Zc (Zb e hd)]; exact sG _ _ (sg _ _ e)⟩⟩
    .rw [awR,B.ks,GU,amU]
     .rfl
     .rw [← B.ks]; exact h1
    .rw [awR]
     refine lT B.nd λw=>?_
     obtain ⟨p,hp,e⟩:=aiy.mp w
     exact Hf p hp e
    .rw [Az,eg]
     rcases aJX.mp hp with hp | hp
     .rw [Zc (Hf p hp),Zc (Hr p hp),amU,amK]
      .exact sG _ _ (B.at' p hp)
      .exact λw=>h1 (aiy.mpr ⟨p,hp,w.symm⟩)
     .have ep:p=(z % sh,q):=by simpa using hp
      subst ep
      have e0:aX sh row i (z % sh)=[]:=by
       unfold aX
       rw [auC]
       intro x hx w
       refine h1 ?_
       rw [B.ks,k2]
       exact ⟨x,aEj.mp hx,a6b w⟩
      rw [Za,e0,atn rfl]
      rfl
    .rcases aJX.mp hp with hp | hp
     .exact nw p hp
     .have ep:p=(z % sh,q):=by simpa using hp
      subst ep
      exact qH
 .rintro σ G ⟨v3,v4,L,rfl,B,nw,sg⟩
  rw [aAt] at B
  exact ⟨_,rfl,k d G L hd sg B nw⟩
end
def gZ (again:List Int) (n k:Nat):Nat:=(List.range k).countP λd=>decide (again.getD (n - 1 - d) 0<=(n:Int))
theorem KW (again:List Int) (n k:Nat):gZ again n (k+1)=gZ again n k+(if again.getD (n - 1 - k) 0<=(n:Int) then 1 else 0):=by
 unfold gZ
 rw [ahI,aaS,bbV]
 simp only [a8m]
def rQ (again au:List Int) (n d:Nat):Int×Int:=(au.getD (n - 1 - d) 0+(gZ again n (d+1):Int),((n - 1 - d:Nat):Int))
def fL (again au:List Int) (n:Nat):List (Int×Int):=(List.range n).map (rQ again au n)++[((gZ again n n:Int),-1)]
def mF (p:Int×Int):List Int:=[p.1,p.2]
def lq (l:List (Int×Int)):Nat:=argBest (λi j=>HT.lexLt ((l.map mF).getD i []) ((l.map mF).getD j [])) (l.length - 1)
def ig (again au:List Int) (n:Nat):Int×Int:=(fL again au n).getD (lq (fL again au n)) (0,-1)
theorem EI (again au:List Int) (n:Nat):(fL again au n).length=n+1:=by unfold fL; simp
theorem IF {l:List (Int×Int)} (h:0<l.length):lq l<l.length:=by
 have:=J2 (λi j=>HT.lexLt ((l.map mF).getD i []) ((l.map mF).getD j [])) (l.length - 1)
 unfold lq
 lia
theorem Aj (again au:List Int) (n:Nat):(fL again au n)[lq (fL again au n)]?=some (ig again au n):=by
 have h:=IF (l:=fL again au n) (by rw [EI]; lia)
 unfold ig
 rw [aPI,aDi h]
 rfl
theorem Fy (again au:List Int) (n:Nat) : -1<=(ig again au n).2/\(ig again au n).2<n:=by
 have m:=abg (Aj again au n)
 generalize ig again au n=c at *
 unfold fL at m
 rcases aJX.mp m with m | m
 .obtain ⟨d,hd,rfl⟩:=aiy.mp m
  have:=aEj.mp hd
  unfold rQ
  dsimp only
  lia
 .rw [aBr.mp m]
  dsimp only
  lia
def bX (again:List Int) (ay:Int):Nat->List Int×List Int
 | 0=>([],[])
 | n+1=>((bX again ay n).1++[(ig again (bX again ay n).1 n).1+ay],(bX again ay n).2++[(ig again (bX again ay n).1 n).2])
theorem IE (again:List Int) (ay:Int) (n:Nat):(bX again ay (n+1)).1=(bX again ay n).1++[(ig again (bX again ay n).1 n).1+ay]:=rfl
theorem D3 (again:List Int) (ay:Int) (n:Nat):(bX again ay (n+1)).2=(bX again ay n).2++[(ig again (bX again ay n).1 n).2]:=rfl
theorem xJ (again:List Int) (ay:Int):∀ n,(bX again ay n).1.length=n/\(bX again ay n).2.length=n
 | 0=>⟨rfl,rfl⟩
 | n+1=>by
  obtain ⟨h1,h2⟩:=xJ again ay n
  unfold bX
  rw [aUV,aUV,h1,h2]
  exact ⟨rfl,rfl⟩
theorem E2 (again:List Int) (ay:Int):∀ n i,i<n -> -1<=(bX again ay n).2.getD i (-1)/\(bX again ay n).2.getD i (-1)<i
 | 0,i,h=>by lia
 | n+1,i,h=>by
  have l:=(xJ again ay n).2
  unfold bX
  dsimp only
  rw [aPI]
  by_cases c:i<n
  .rw [a6D (by lia),← aPI]
   exact E2 again ay n i c
  .have e:i=n:=by lia
   subst e
   rw [aFp (by lia),l,aL9]
   exact Fy ..
def jq (as:List Int):Nat->Int->List Nat
 | 0,_=>[]
 | f+1,m=>if 0<=m then m.toNat :: jq as f (as.getD m.toNat (-1)) else []
theorem EH (as:List Int) (f:Nat) (m:Int):jq as (f+1) m=if 0<=m then m.toNat :: jq as f (as.getD m.toNat (-1)) else []:=rfl
def kX (as:List Int):Int:=as.getLast?.getD (-1)
def iQ (ay:Int) (row:List Int):List Nat:=(jq (bX (Zv row) ay row.length).2 row.length (kX (bX (Zv row) ay row.length).2)).reverse
theorem ID (again:List Int) (ay:Int) (n:Nat) : -1<=kX (bX again ay n).2/\kX (bX again ay n).2<n:=by
 unfold kX
 cases n with
 | zero=>exact ⟨aEQ _,(by show (-1:Int)<0; decide)⟩
 | succ n =>
  unfold bX
  rw [List.getLast?_append]
  have:=Fy again (bX again ay n).1 n
  show -1<=(ig again (bX again ay n).1 n).2/\(ig again (bX again ay n).1 n).2<((n+1:Nat):Int)
  lia
theorem qt {as:List Int} {n:Nat} (h:∀ i,i<n->as.getD i (-1)<(i:Int)):∀ (f:Nat) (m:Int),m<n->∀ x∈jq as f m,(x:Int)<=m
 | 0,_,_,x,hx=>nomatch hx
 | f+1,m,hm,x,hx=>by
  unfold jq at hx
  by_cases c:0<=m
  .rw [atn c] at hx
   rcases ac0.mp hx with e | hx
   .lia
   .have q:=h m.toNat (by lia)
    have:=qt h f _ (by lia) x hx
    lia
  .rw [amU c] at hx; cases hx
theorem ku (ay:Int) (row:List Int):∀ x∈iQ ay row,x<row.length:=λx hx=>by
 unfold iQ at hx
 have q:=ID (Zv row) ay row.length
 have:=qt (λi hi=>(E2 (Zv row) ay row.length i hi).2) _ _ q.2 x (List.mem_reverse.mp hx)
 lia
theorem DZ (as:List Int):∀ (f:Nat) (m:Int),(jq as f m).length<=f
 | 0,_=>aNS _
 | f+1,m=>by
  unfold jq
  split
  .rw [bc9]; have:=DZ as f (as.getD m.toNat (-1)); lia
  .exact aze _
theorem DY (ay:Int) (row:List Int):(iQ ay row).length<=row.length:=by
 unfold iQ
 rw [aBw]
 exact DZ ..
section
def vp (K:W.Frag):Sp:=λvs H Q _=>∃ (ag co:Addr) (again au:List Int) (n:Nat),vs=[.ref ag,.ref co,.int (n:Int)]/\H ag=some (.lst (again.map V.int))/\H co=some (.lst (au.map V.int))/\n<=again.length/\n<=au.length/\n<=400 /\
 ∀ (p:Addr) (H':Hp),aq H H'->H' p=some (.tup [.int (ig again au n).1,.int (ig again au n).2])->Q (.ref p) H'
def j4 (G:Hp) (l:Addr) (ps:List (Int×Int)):Prop:=∃ ah:List Addr,G l=some (.lst (ah.map V.ref))/\ah.length=ps.length/\∀ (k:Nat) (ad:Addr) (p:Int×Int),ah[k]?=some ad->ps[k]?=some p->G ad=some (.tup [.int p.1,.int p.2])
theorem j4.push {G:Hp} {l q:Addr} {ps:List (Int×Int)} {p:Int×Int} (h:j4 G l ps) (hq:G q=some (.tup [.int p.1,.int p.2])) {ah:List Addr} (e:G l=some (.lst (ah.map V.ref))):j4 (upd G l (.lst (ah.map V.ref++[.ref q]))) l (ps++[p]):=by
 obtain ⟨as,r1,r2,r3⟩:=h
 have ea:ah.map V.ref=as.map V.ref:=by rw [r1] at e; exact (HO.lst.inj (ado e)).symm
 refine ⟨as++[q],by rw [Za,ea,awR]; rfl,by rw [aUV,aUV,r2]; rfl,λk ad p' h1 h2=>?_⟩
 by_cases ck:k<as.length
 .rw [a6D ck] at h1
  rw [a6D (by lia)] at h2
  have q3:=r3 k ad p' h1 h2
  rw [Zc (λz=>by rw [z,r1] at q3; cases q3)]
  exact q3
 .rw [aFp (by lia)] at h1
  rw [aFp (by lia),← r2] at h2
  cases ek:k - as.length with
  | zero =>
   rw [ek] at h1 h2
   cases h1; cases h2
   rw [Zc (λz=>by rw [z,r1] at hq; cases hq)]
   exact hq
  | succ n=>rw [ek] at h1; simp at h1
theorem j4.same {G G':Hp} {l:Addr} {ps:List (Int×Int)} (h:j4 G l ps) (s:aq G G'):j4 G' l ps:=by
 obtain ⟨as,r1,r2,r3⟩:=h
 exact ⟨as,s _ _ r1,r2,λk ad p h1 h2=>s _ _ (r3 k ad p h1 h2)⟩
theorem Wy (F:bO K "cheapest_ahead" "cheapest_ahead" Gh f fd) (T:Txt K mg):aH P w K mg base bI 1 f fd Gg (vp K):=by
 refine F.ok cu (λvs H Q E h=>?_) (λcdv A outer st H vs Q E hr h=>?_)
 .obtain ⟨ag,co,again,au,n,rfl,_⟩:=h
  rfl
 obtain ⟨ag,co,again,au,n,rfl,hA,hC,l1,l2,hn,k⟩:=h
 have nd:=cu.nd
 have hu:=cY hr
 refine ⟨_,(Ze (bM 3 nd Zh)
   (Ze (bM 4 nd (ZT Zd))
   (Ze (lS aVe rfl (Fi rfl T.ko (pc (aa lC (pv 2) Zh) (pc (cG lB Zh) (pc (cG lB Zh) Zd)))) (bS 5 nd) (Ze (aO (Zu vR (aG (Zp (K:=K) rfl) (pv 0) (pv 5) (λ_ _=>rfl)) (pv 2) (Zx _)) (Zj (Ei (i:=3) nd rfl (by first | exact Or.inl rfl | exact Or.inr rfl) Zh Jp)) Zw)
   (Zj (Zz (jt (K:=K) rfl (bK aqK a9V alx ZG (pv 4) (pc (lu (pc (aa ZO (aG (Zp (K:=K) rfl) (pv 1) (pv 5) (λ_ _=>rfl)) (pv 3)) (pc (pv 5) Zd))) Zd)))))))
   (Ze (Zz (jt (K:=K) rfl (bK aqK a9V alx ZG (pv 4) (pc (lu (pc (pv 3) (pc (cG lB Zh) Zd))) Zd))))
   (Zj (Zs (Zk (Ur rfl hu rfl) rfl T.yH KH (pc (pv 4) Zd)))))))),?_⟩
 refine gN ⟨(sl 0),λlc rE=>gN ?_⟩
 have s0:=Zf (H:=H) rE (.lst [])
 have PX:∀ i,i<again.length->cZ (again.map V.int) (i:Int)=some (.int (again.getD i 0)):=λi hi=>ZS (by rw [aYu,aPI,aDi hi]; rfl)
 have atC:∀ i,i<au.length->cZ (au.map V.int) (i:Int)=some (.int (au.getD i 0)):=λi hi=>ZS (by rw [aYu,aPI,aDi hi]; rfl)
 refine ⟨_,rfl,_,_,rfl,rfl,_,rfl,_,rfl,_,_,rfl,⟨by lia,by lia,by lia,by lia⟩,EW (hi:=(n:Int) - 1) (n:=((n:Int) - 1 - -1).toNat) (λj σ G=>∃ (v5:Option V),σ=[some (.ref ag),some (.ref co),some (.int (n:Int)),some (.int (gZ again n j:Int)),some (.ref lc),v5]/\j4 G lc ((List.range j).map (rQ again au n))/\aq H G)
  ⟨none,rfl,⟨[],Za,rfl,λk ad p h _=>by simp at h⟩,s0⟩ ?_ ?_⟩
 .rintro j σ G hj ⟨v5,rfl,C,sg⟩
  have hj':j<n:=by lia
  have hz:(n:Int) - 1 - (j:Int)=((n - 1 - j:Nat):Int):=by lia
  rw [hz]
  refine gN ?_
  refine tN (λσ G'=>σ=[some (.ref ag),some (.ref co),some (.int (n:Int)),some (.int (gZ again n (j+1):Int)),some (.ref lc),some (.int ((n - 1 - j:Nat):Int))]/\G'=G) (λD' _ k'=>?_) ?_
  .refine ⟨_,rfl,_,rfl,ag,_,_,_,rfl,rfl,ak.of (sg _ _ hA),PX _ (by lia),_,rfl,_,_,rfl,rfl,_,rfl,?_⟩
   have ws:=KW again n j
   refine ZJ (λc=>?_) (λc=>?_)
   .rw [atn c] at ws
    refine ⟨_,rfl,_,_,rfl,rfl,k' _ _ ⟨?_,rfl⟩⟩
    rw [ws]; rfl
   .rw [amU c] at ws
    exact k' _ _ ⟨by rw [ws]; rfl,rfl⟩
  rintro _ G' ⟨rfl,rfl⟩
  obtain ⟨as,r1,r2,r3⟩:=id C
  refine ⟨_,rfl,.inl ⟨rfl,_,ak.of r1⟩,_,rfl,_,rfl,co,_,_,_,rfl,rfl,ak.of (sg _ _ hC),atC _ (by lia),_,rfl,_,_,rfl,rfl,_,rfl,(sl 2),λq hq=>?_⟩
  have sq:=Zf (H:=G') hq (.tup [V.int (au.getD (n - 1 - j) 0+(gZ again n (j+1):Int)),V.int ((n - 1 - j:Nat):Int)])
  have eq:=Za (H:=G') (a:=q) (o:=.tup [V.int (au.getD (n - 1 - j) 0+(gZ again n (j+1):Int)),V.int ((n - 1 - j:Nat):Int)])
  generalize upd G' q (.tup [V.int (au.getD (n - 1 - j) 0+(gZ again n (j+1):Int)),V.int ((n - 1 - j:Nat):Int)])=G2 at *
  have la:(as.map V.ref).length<=1000:=by rw [aAt,r2,aAt,aan]; lia
  refine ⟨lc,_,_,rfl,rfl,sq _ _ r1,Zo la,⟨_,rfl,?_,λx o e=>by rw [Zc (Zb e rE)]; exact sq _ _ (sg _ _ e)⟩⟩
  rw [ahI,awR]
  exact (C.same sq).push (p:=rQ again au n j) eq (sq _ _ r1)
 .rintro σ G ⟨v5,rfl,C,sg⟩
  rw [show ((n:Int) - 1 - -1).toNat=n by lia] at C ⊢
  obtain ⟨as,r1,r2,r3⟩:=id C
  have la:(as.map V.ref).length<=1000:=by rw [aAt,r2,aAt,aan]; lia
  refine ⟨_,rfl,.inl ⟨rfl,_,ak.of r1⟩,_,rfl,_,rfl,(sl 2),λq hq=>?_⟩
  have sq:=Zf (H:=G) hq (.tup [V.int (gZ again n n:Int),V.int (-1)])
  have eq:=Za (H:=G) (a:=q) (o:=.tup [V.int (gZ again n n:Int),V.int (-1)])
  generalize upd G q (.tup [V.int (gZ again n n:Int),V.int (-1)])=G2 at *
  have P:=(C.same sq).push (p:=((gZ again n n:Int),-1)) eq (sq _ _ r1)
  have sH:aq H (upd G2 lc (.lst (as.map V.ref++[.ref q]))):=λx o e=>by rw [Zc (Zb e rE)]; exact sq _ _ (sg _ _ e)
  have eP:(List.range n).map (rQ again au n)++[((gZ again n n:Int),-1)]=fL again au n:=rfl
  rw [eP] at P
  refine ⟨lc,_,_,rfl,rfl,sq _ _ r1,Zo la,?_⟩
  generalize upd G2 lc (.lst (as.map V.ref++[.ref q]))=G3 at *
  obtain ⟨bs,p1,p2,p3⟩:=P
  refine ⟨_,rfl,lc,bs,(fL again au n).map mF,rfl,ak.of p1,λz=>?_,by rw [p2,aAt],λi a ns h1 h2=>?_,λm a hm ha=>?_⟩
  .rw [z,EI] at p2; cases p2
  .rw [aYu] at h2
   cases e:(fL again au n)[i]? with
   | none=>rw [e] at h2; cases h2
   | some p =>
    rw [e] at h2
    cases h2
    exact bG.of (p3 i a p h1 e)
  .have em:m=lq (fL again au n):=by rw [hm,p2]; rfl
   exact k a G3 sH (p3 m a _ ha (by rw [em]; exact Aj ..))
def vn (K:W.Frag):Sp:=λvs H Q _=>∃ (ay:Int) (a:Addr) (row:List Int),vs=[.int ay,.ref a]/\ak K H a (row.map V.int)/\row.length<=400 /\
 ∀ (l:Addr) (H':Hp),H l=none->aq H H'->H' l=some (.lst (mV (iQ ay row)))->Q (.ref l) H'
theorem Wn (F:bO K "least_marks" "least_marks" F1 f fd) (T:Txt K mg) (oG:Def P w K mg base "asked_again" 1 yd (Ak K)) (Ck:Def P w K mg base "cheapest_ahead" 1 Gg (vp K)):aH P w K mg base bI 2 f fd F0 (vn K):=by
 refine F.ok dD (λvs H Q E h=>?_) (λcdv A outer st H vs Q E hr h=>?_)
 .obtain ⟨ay,a,row,rfl,_⟩:=h
  rfl
 obtain ⟨ay,a,row,rfl,hS,hl,k⟩:=h
 have nd:=dD.nd
 have hu:=cY hr
 refine ⟨_,(Ze (bM 2 nd (Zm oG hr.m rfl (pc (pv 1) Zd)))
   (Ze (bM 3 nd (ZT Zd))
   (Ze (bM 4 nd (ZT Zd))
   (Ze (lS aVe rfl (pq rfl T.ko (pc (Zk (Zn (K:=K) rfl) rfl T.fZ aTr (pc (pv 1) Zd)) Zd)) (bS 5 nd) (Ze (o7 (Zm Ck hr.m rfl (pc (pv 2) (pc (pv 3) (pc (pv 5) Zd)))) (kJ (K:=K) (n:=2) rfl rfl (Zt (bS 6 nd) (Zt (bS 7 nd) kK))))
   (Ze (Zz (jt (K:=K) rfl (bK aqK a9V alx ZG (pv 3) (pc (aa ZO (pv 6) (pv 0)) Zd))))
   (Zj (Zz (jt (K:=K) rfl (bK aqK a9V alx ZG (pv 4) (pc (pv 7) Zd))))))))
   (Ze (bM 8 nd (ZT Zd))
   (Ze (bM 9 nd (om (S9 (pv 4) (λ_=>rfl)) (aG (Zp (K:=K) rfl) (pv 4) (cG lB Zh) (λ_ _=>rfl)) (cG lB Zh)))
   (Ze (Tf aVe (Zu mJ (pv 9) Zh (Zx _)) (Ze (Zz (jt (K:=K) rfl (bK aqK a9V alx ZG (pv 8) (pc (pv 9) Zd))))
   (Zj (bM 9 nd (aG (Zp (K:=K) rfl) (pv 4) (pv 9) (λ_ _=>rfl))))))
   (Zj (Zs (xY (K:=K) rfl (pv 8) ou ou (pB (cG lB Zh)))))))))))),?_⟩
 refine ⟨_,rfl,a,row,rfl,hS,hl,λlg H1 OU s1 e1=>gN ⟨(sl 0),λlc rE=>gN ⟨(sl 0),λla hla=>gN ?_⟩⟩⟩
 have s2:=(Zf (H:=H1) rE (.lst [])).trans (Zf hla (.lst []))
 have ec:upd (upd H1 lc (.lst [])) la (.lst []) lc=some (.lst []):=Zf hla _ _ _ Za
 have ea:upd (upd H1 lc (.lst [])) la (.lst []) la=some (.lst []):=Za
 have Dc:H1 la=none:=(Zf (H:=H1) rE (.lst [])).free hla
 have Hs:lc≠la:=Zb (Za (H:=H1) (a:=lc) (o:=.lst [])) hla
 generalize upd (upd H1 lc (.lst [])) la (.lst [])=H2 at *
 have lA:=AM row
 have lR:(row.map V.int).length=row.length:=aAt ..
 refine ⟨_,rfl,a,_,rfl,.inl ((s1.trans s2).seq hS),_,rfl,by lia,by lia,Fx (lo:=0) (n:=(((row.map V.int).length:Nat):Int).toNat) (λi σ G=>∃ (v5 v6 v7:Option V),σ=[some (.int ay),some (.ref a),some (.ref lg),some (.ref lc),some (.ref la),v5,v6,v7,none,none]/\G lc=some (.lst ((bX (Zv row) ay i).1.map V.int))/\G la=some (.lst ((bX (Zv row) ay i).2.map V.int))/\aq H1 G)
  ⟨none,none,none,rfl,ec,ea,s2⟩ ?_ ?_⟩
 .rintro i σ G hi ⟨v5,v6,v7,rfl,g1,g2,sg⟩
  have hi':i<row.length:=by rw [lR] at hi; lia
  obtain ⟨d1,d2⟩:=xJ (Zv row) ay i
  rw [Int.zero_add]
  refine gN ⟨_,rfl,_,rfl,_,rfl,lg,lc,Zv row,(bX (Zv row) ay i).1,i,rfl,sg _ _ e1,g1,by lia,by lia,by lia,λp G1 t1 ep=>⟨p,_,rfl,bG.of ep,rfl,_,_,rfl,gN ⟨_,_,rfl,gN ⟨rfl,?_⟩⟩⟩⟩
  have qk:=t1 _ _ g1
  have rO:=t1 _ _ g2
  refine ⟨_,rfl,.inl ⟨rfl,_,ak.of qk⟩,_,rfl,_,rfl,_,_,rfl,rfl,lc,_,_,rfl,rfl,qk,Zo (by rw [aAt,d1]; lia),?_⟩
  have xg:upd G1 lc (.lst ((bX (Zv row) ay i).1.map V.int++[V.int ((ig (Zv row) (bX (Zv row) ay i).1 i).1+ay)])) la=some (.lst ((bX (Zv row) ay i).2.map V.int)):=by rw [Zc (a38 Hs)]; exact rO
  refine ⟨_,rfl,.inl ⟨rfl,_,ak.of xg⟩,_,rfl,la,_,_,rfl,rfl,xg,Zo (by rw [aAt,d2]; lia),⟨_,_,_,rfl,?_,?_,λx o e=>?_⟩⟩
  .rw [Zc Hs,Za,IE,awR]; rfl
  .rw [Za,D3,awR]; rfl
  .rw [Zc (Zb e Dc),Zc (Zb e rE)]
   exact t1 _ _ (sg _ _ e)
 .rintro σ G ⟨v5,v6,v7,rfl,g1,g2,sg⟩
  rw [show (((row.map V.int).length:Nat):Int).toNat=row.length by rw [lR]; rfl] at g1 g2
  have dl:=(xJ (Zv row) ay row.length).2
  have da:=E2 (Zv row) ay row.length
  have dm:=ID (Zv row) ay row.length
  have ng:(jq (bX (Zv row) ay row.length).2 row.length (kX (bX (Zv row) ay row.length).2)).reverse=iQ ay row:=rfl
  generalize (bX (Zv row) ay row.length).2=as at *
  refine ⟨(sl 0),λlm m9=>gN ?_⟩
  have s3:=Zf (H:=G) m9 (.lst [])
  have e3:upd G lm (.lst []) lm=some (.lst []):=Za
  have wO:H1 lm=none:=sg.free m9
  generalize upd G lm (.lst [])=G1 at *
  have rO:=s3 _ _ g2
  have qM:=sg.trans s3
  have NZ:lm≠la:=λz=>by rw [z,g2] at m9; cases m9
  clear g1 g2 s3 m9 sg
  dsimp only
  refine qo (λv G=>v=.int (kX as)/\G=G1) (λQ' k'=>?_) ?_
  .refine ⟨_,rfl,_,.inl ⟨_,ak.of rO,rfl⟩,?_⟩
   by_cases c:as=[]
   .subst c
    exact b9 rfl ⟨_,rfl,k' _ _ ⟨rfl,rfl⟩⟩
   .have ea:as=as.dropLast++[as.getLast c]:=(List.dropLast_concat_getLast c).symm
    have em:kX as=as.getLast c:=by unfold kX; rw [List.getLast?_eq_some_getLast c]; rfl
    refine dh (by cases as with | nil=>exact absurd rfl c | cons _ _=>rfl) ⟨_,rfl,_,rfl,la,_,_,_,rfl,rfl,ak.of rO,?_,k' _ _ ⟨by rw [em],rfl⟩⟩
    conv=>lhs; rw [ea,awR]
    exact TY _ _
  rintro _ G2 ⟨rfl,rfl⟩
  have tl:=DZ as row.length (kX as)
  generalize hTT:jq as row.length (kX as)=TT at *
  refine gN ⟨λm σ G=>∃ (mark:Int) (dn:List Nat) (fu:Nat),m=(mark+1).toNat/\σ=[some (.int ay),some (.ref a),some (.ref lg),some (.ref lc),some (.ref la),v5,v6,v7,some (.ref lm),some (.int mark)] /\ -1<=mark/\mark<fu/\mark<row.length/\dn++jq as fu mark=TT/\G lm=some (.lst (mV dn))/\G la=some (.lst (as.map V.int))/\aq H1 G,⟨_,kX as,[],row.length,rfl,rfl,dm.1,dm.2,dm.2,hTT,e3,rO,qM⟩,?_⟩
  rintro m σ G ⟨mark,dn,fu,rfl,rfl,m1,m2,m3,hT,el,PD,sG⟩
  have ld:dn.length<=row.length:=by
   have:=a0A List.length hT
   rw [aUV] at this
   lia
  refine ⟨_,rfl,_,_,rfl,rfl,_,rfl,?_⟩
  by_cases c:0<=mark
  .refine dh (aGg c) ⟨λσ G=>∃ (fm:Int) (dn:List Nat) (fu:Nat),fm<mark/\σ=[some (.int ay),some (.ref a),some (.ref lg),some (.ref lc),some (.ref la),v5,v6,v7,some (.ref lm),some (.int fm)] /\ -1<=fm/\fm<fu/\fm<row.length/\dn++jq as fu fm=TT/\G lm=some (.lst (mV dn))/\G la=some (.lst (as.map V.int))/\aq H1 G,λσ' G' ⟨fm,dn,fu,q1,q2,q3,q4⟩=>⟨(fm+1).toNat,by lia,fm,dn,fu,rfl,q2,q3,q4⟩,?_⟩
   obtain ⟨f',rfl⟩:∃ f',fu=f'+1:=⟨fu - 1,by lia⟩
   have hat:cZ (as.map V.int) mark=some (.int (as.getD mark.toNat (-1))):=by
    have q:cZ (as.map V.int) ((mark.toNat:Nat):Int)=some (.int (as.getD mark.toNat (-1))):=ZS (by rw [aYu,aPI,aDi (by lia)]; rfl)
    rwa [Int.toNat_of_nonneg c] at q
   have dd:=da mark.toNat (by lia)
   refine ⟨_,rfl,.inl ⟨rfl,_,ak.of el⟩,_,rfl,lm,_,_,rfl,rfl,el,Zo (by unfold mV; rw [aAt]; lia),?_⟩
   have xq:upd G lm (.lst (mV dn++[V.int mark])) la=some (.lst (as.map V.int)):=by rw [Zc (a38 NZ)]; exact PD
   refine ⟨_,rfl,_,rfl,la,_,_,_,rfl,rfl,ak.of xq,hat,gN ⟨_,dn++[mark.toNat],f',by lia,rfl,dd.1,by lia,by lia,?_,?_,xq,λx o e=>by rw [Zc (Zb e wO)]; exact sG _ _ e⟩⟩
   .rw [← hT,aRm]
    congr 1
    rw [EH,atn c]; rfl
   .rw [Za,zU]
    show _=some (HO.lst (mV dn++[V.int ((mark.toNat:Nat):Int)]))
    rw [Int.toNat_of_nonneg c]
  .refine b9 (aWh c) ?_
   have e0:jq as fu mark=[]:=by
    cases fu with
    | zero=>rfl
    | succ f=>unfold jq; rw [amU c]
   rw [e0,amK] at hT
   subst hT
   refine ⟨_,rfl,1,rfl,_,rfl,lm,_,rfl,ak.of el,by decide,?_,λp hp=>?_⟩
   .rw [uD,aBw]; unfold mV; rw [aAt]; exact aRN (Zo (by lia))
   .rw [uD]
    have e5:(mV dn).reverse=mV (iQ ay row):=by rw [← ng]; unfold mV; rw [map_reverse]
    rw [e5]
    exact k p _ (s1.free (sG.free hp)) ((s1.trans sG).trans (Zf hp _)) Za
end
def aS (sh:Int) (row:List Int) (s:Int):List Int:=(aX sh row row.length s).map λi=>row.getD i 0
def jM (sh pl:Int) (row:List Int) (s:Int):List Nat:=(iQ (pl - 1) (aS sh row s)).map λx=>(aX sh row row.length s).getD x 0
def iV (sh pl:Int) (row:List Int):List Nat:=(eG sh row).flatMap (jM sh pl row)
theorem EG {sh pl:Int} {row:List Int} {s:Int} {x:Nat} (h:x∈jM sh pl row s):x<row.length/\row.getD x 0 % sh=s:=by
 obtain ⟨y,hy,rfl⟩:=aiy.mp h
 have l:=ku _ _ y hy
 unfold aS at l
 rw [aAt] at l
 have m:(aX sh row row.length s).getD y 0∈aX sh row row.length s:=by rw [aPI,aDi l]; exact a2P l
 obtain ⟨h1,h2⟩:=afi.mp m
 exact ⟨aEj.mp h1,a6b h2⟩
theorem JV (sh:Int) (row:List Int):∀ (ks:List Int),ks.Nodup->∀ n,(ks.map λs=>(aX sh row n s).length).sum<=n
 | ks,nd,0=>by
  have:(ks.map λs=>(aX sh row 0 s).length).sum=0:=by
   induction ks with
   | nil=>rfl
   | cons s ks ih=>rw [aWO,axJ,ih (aG7.mp nd).2]; rfl
  lia
 | ks,nd,n+1=>by
  have ih:=JV sh row ks nd n
  have key:∀ ks:List Int,ks.Nodup->(ks.map λs=>(aX sh row (n+1) s).length).sum<=(ks.map λs=>(aX sh row n s).length).sum+(if row.getD n 0 % sh∈ks then 1 else 0):=by
   intro ks
   induction ks with
   | nil=>intro _; exact aze _
   | cons s ks ih =>
    intro nd
    obtain ⟨n1,n2⟩:=aG7.mp nd
    have:=ih n2
    rw [aWO,aWO,axJ,axJ,Az,aUV]
    by_cases c:row.getD n 0 % sh=s
    .rw [atn c,atn (by rw [c]; exact a5w)]
     rw [amU (by rw [c]; exact n1)] at this
     show _+1+_<=_
     lia
    .rw [amU c]
     by_cases c2:row.getD n 0 % sh∈ks
     .rw [atn c2] at this; rw [atn (amQ _ c2)]
      show _+0+_<=_
      lia
     .rw [amU c2] at this
      show _+0+_<=_
      lia
  have:=key ks nd
  split at this <;> lia
theorem EF {sh pl:Int} {row:List Int} (ks:List Int) (nd:ks.Nodup):(ks.flatMap (jM sh pl row)).length<=row.length:=by
 refine ay9 ?_ (JV sh row ks nd row.length)
 clear nd
 induction ks with
 | nil=>exact aNS _
 | cons s ks ih =>
  rw [List.flatMap_cons,aUV,aWO,axJ]
  have:(jM sh pl row s).length<=(aX sh row row.length s).length:=by
   unfold jM
   rw [aAt]
   refine ay9 (DY ..) ?_
   unfold aS
   rw [aAt]
   exact aNS _
  lia
theorem Se:∀ {os:List Int} {ns:List Nat},os.Perm (ns.map λm:Nat=>(m:Int))->os=(os.map Int.toNat).map λm:Nat=>(m:Int):=λ{os ns} h=>by
 rw [aPs]
 conv=>lhs; rw [← map_id os]
 refine ars λx hx=>?_
 obtain ⟨m,_,e⟩:=aiy.mp (h.mem_iff.mp hx)
 show x=((x.toNat:Nat):Int)
 lia
section
def pQ (K:W.Frag):Sp:=λvs H Q _=>∃ (sh pl:Int) (a:Addr) (row:List Int),vs=[.int sh,.int pl,.ref a]/\ak K H a (row.map V.int)/\1<=sh/\row.length<=400 /\
 ∀ (l:Addr) (H':Hp) (os:List Nat),H l=none->aq H H'->H' l=some (.lst (mV os))->os.Perm (iV sh pl row)->os.Pairwise (·<=·)->Q (.ref l) H'
theorem VP (F:bO K "marks_of" "marks_of" yg f fd) (T:Txt K mg) (Cm:Def P w K mg base "places_by_shelf" 2 Gk (vh K)) (Cg:Def P w K mg base "least_marks" 2 F0 (vn K)):aH P w K mg base bI 3 f fd FG (pQ K):=by
 refine F.ok fU (λvs H Q E h=>?_) (λcdv A outer st H vs Q E hr h=>?_)
 .obtain ⟨sh,pl,a,row,rfl,_⟩:=h
  rfl
 obtain ⟨sh,pl,a,row,rfl,hS,hs0,hl,k⟩:=h
 have nd:=fU.nd
 refine ⟨_,(Ze (bM 3 nd (ZT Zd))
   (Ze (lS aVe rfl (SH (Zm Cm hr.m rfl (pc (pv 0) (pc (pv 2) Zd)))) (bS 4 nd) (Ze (xZ 5 (Zy (eV:=(Zg yg)) (oN:=cR) (N:=["spot", "row"]) (own:=1) (js:=[2]) (by decide +kernel) rfl rfl) rfl nd rfl rfl (oj (K:=K) rfl (pv 4)) (λ_ _ _ _ _ _=>(bS 0 (show List.Nodup (["spot", "row"]:List Str) by decide +kernel))) (λ_ _ _ _ _ _=>(aG (Zp (K:=K) rfl) (pv 1) (pv 0) (λ_ _=>rfl))))
   (Zj (Ei (i:=3) nd rfl (by first | exact Or.inl rfl | exact Or.inr rfl) (qA (Zy (eV:=(Zg yg)) (oN:=cR) (N:=["at", "spots"]) (own:=1) (js:=[4]) (by decide +kernel) rfl rfl) rfl (oj (K:=K) rfl (Zm Cg hr.m rfl (pc (aa lC (pv 1) Zh) (pc (pv 5) Zd)))) (λ_ _ _ _ _ _=>(bS 0 (show List.Nodup (["at", "spots"]:List Str) by decide +kernel))) (λ_ _ _ _ _ _=>(aG (Zp (K:=K) rfl) (pv 1) (pv 0) (λ_ _=>rfl)))) Qq))))
   (Zj (Zs (Zk (FY (K:=K) rfl) rfl T.sZ a46 (pc (pv 3) Zd)))))),?_⟩
 refine ⟨(sl 0),λlm ng=>gN ?_⟩
 have s0:=Zf (H:=H) ng (.lst [])
 have e0:upd H lm (.lst []) lm=some (.lst []):=Za
 generalize upd H lm (.lst [])=H0 at *
 refine ⟨_,rfl,_,rfl,sh,a,row,rfl,s0.seq hS,hs0,hl,λd H1 L hd s1 B nw=>⟨d,_,rfl,B.top,λo=>?_⟩⟩
 obtain ⟨k1,k2,k3⟩:=tP sh row row.length (aNS _)
 rw [afX] at k1 k2 k3
 have bk:=B.ks
 rw [afX] at bk
 have fz:∀ x o',H1 x=some o'->x≠d->upd H1 d (.bD o (.dK (L.map iY))) x=some o':=λx o' e n=>by rw [Zc n]; exact e
 have sF:aq H (upd H1 d (.bD o (.dK (L.map iY)))):=λx o' e=>fz x o' (s1 _ _ (s0 _ _ e)) (Zb (s0 _ _ e) hd)
 have Hh:lm≠d:=Zb e0 hd
 have em:upd H1 d (.bD o (.dK (L.map iY))) lm=some (.lst []):=fz _ _ (s1 _ _ e0) Hh
 have el:∀ p∈L,upd H1 d (.bD o (.dK (L.map iY))) p.2=some (.lst (mV (aX sh row row.length p.1))):=λp hp=>fz _ _ (B.at' p hp) λz=>by
  have h:=B.at' p hp
  rw [z,B.top] at h; cases h
 have ed:upd H1 d (.bD o (.dK (L.map iY))) d=some (.bD o (.dK (L.map iY))):=Za
 have NY:∀ p∈L,p.2≠lm:=λp hp z=>by
  have h:=nw p hp
  rw [z,e0] at h; cases h
 generalize upd H1 d (.bD o (.dK (L.map iY)))=H2 at *
 refine UG (d:=d) (o:=o) (kvs:=L.map iY) (λi σ G=>∃ (v4 v5:Option V),σ=[some (.int sh),some (.int pl),some (.ref a),some (.ref lm),v4,v5]/\G lm=some (.lst (mV (((eG sh row).take i).flatMap (jM sh pl row))))/\∀ x o',H2 x=some o'->x≠lm->G x=some o')
  ⟨none,none,rfl,em,λx o' e _=>e⟩ (λi σ G _ ⟨_,_,_,_,s⟩=>s _ _ ed (a38 Hh)) ?_ ?_
 .rintro i k' v σ G hkv ⟨v4,v5,rfl,gm,sg⟩
  rw [aYu] at hkv
  cases eL:L[i]? with
  | none=>rw [eL] at hkv; cases hkv
  | some p =>
   rw [eL] at hkv
   cases hkv
   have hp:=abg eL
   have ei:(eG sh row)[i]?=some p.1:=by rw [← bk,aYu,eL]; rfl
   have gp:=sg _ _ (el p hp) (NY p hp)
   have yU:aq H G:=λx o' e=>sg _ _ (sF _ _ e) (Zb e ng)
   obtain ⟨s,ad⟩:=p
   dsimp only [iY] at *
   refine gN ⟨_,rfl,ad,rfl,⟨_,ak.of gp⟩,λla hla=>?_⟩
   have Nj:∀ x∈aX sh row row.length s,x<row.length:=λx hx=>aEj.mp (afi.mp hx).1
   have Xi:(aX sh row row.length s).length<=row.length:=by have:=JW sh row row.length s; unfold mV at this; rwa [aAt] at this
   have at':∀ x,x<row.length->cZ (row.map V.int) (x:Int)=some (.int (row.getD x 0)):=λx hx=>ZS (by rw [aYu,aPI,aDi hx]; rfl)
   have ask:aS sh row s=(aX sh row row.length s).map λi=>row.getD i 0:=rfl
   have Oc:jM sh pl row s=(iQ (pl - 1) (aS sh row s)).map λx=>(aX sh row row.length s).getD x 0:=rfl
   have Ov:=ku (pl - 1) (aS sh row s)
   have Xk:=DY (pl - 1) (aS sh row s)
   have Ow:(aS sh row s).length=(aX sh row row.length s).length:=by rw [ask,aAt]
   have GJ:(eG sh row).take (i+1)=(eG sh row).take i++[s]:=by rw [avq,ei]; rfl
   have xy:=EF (sh:=sh) (pl:=pl) (row:=row) ((eG sh row).take (i+1)) (k1.sublist (take_sublist ..))
   rw [GJ,List.flatMap_append,aUV] at xy
   have xj:[s].flatMap (jM sh pl row)=jM sh pl row s:=by simp
   rw [xj] at xy
   generalize aX sh row row.length s=sp at *
   have lV:(mV sp).length=sp.length:=aAt ..
   have Oh:∀ {j:Nat} {x:V},(mV sp)[j]?=some x->∃ y,sp[j]?=some y/\x=.int (y:Int):=λ{j x} h=>by
    unfold mV at h
    rw [aYu] at h
    cases e:sp[j]? with
    | none=>rw [e] at h; cases h
    | some y=>rw [e] at h; exact ⟨y,rfl,(ado h).symm⟩
   refine o9 (K:=K) (a:=ad) (xs:=mV sp) (l:=la) (λj ys σ' G'=>∃ (v0:Option V),σ'=[v0,some (.ref a)]/\ys=((sp.take j).map λi=>row.getD i 0).map V.int/\G'=upd G la (.lst ys))
    ⟨none,rfl,rfl,rfl⟩ (λj ys σ' G' _ ⟨_,_,_,q⟩=>ak.of (by rw [q,Zc (Zb gp hla)]; exact gp)) ?_ ?_
   .rintro j x ys σ' G' hj kB hys ⟨v0,rfl,rfl,rfl⟩
    obtain ⟨y,ey,rfl⟩:=Oh kB
    refine ⟨_,rfl,_,rfl,a,_,_,_,rfl,rfl,(yU.trans (Zf hla _)).seq hS,at' y (Nj y (abg ey)),eX.of (by rw [lV]; exact aRN (Zo (by lia))) hj hys Za ⟨_,rfl,?_,xX⟩⟩
    rw [avq,ey]
    simp
   rintro ys σ' G' _ ⟨v0,rfl,rfl,rfl⟩
   rw [lV,afX,← ask]
   have s2:=Zf (H:=G) hla (.lst ((aS sh row s).map V.int))
   have ea:upd G la (.lst ((aS sh row s).map V.int)) la=some (.lst ((aS sh row s).map V.int)):=Za
   generalize upd G la (.lst ((aS sh row s).map V.int))=G1 at *
   have HW:=s2 _ _ gm
   refine gN ⟨_,rfl,_,rfl,_,_,rfl,rfl,_,rfl,pl - 1,la,aS sh row s,rfl,ak.of ea,by lia,λlb G2 hlb t2 eb=>⟨lb,rfl,⟨_,ak.of eb⟩,λlz qi=>?_⟩⟩
   have lW:(mV (iQ (pl - 1) (aS sh row s))).length=(iQ (pl - 1) (aS sh row s)).length:=aAt ..
   generalize iQ (pl - 1) (aS sh row s)=bs at *
   have Oi:∀ {j:Nat} {x:V},(mV bs)[j]?=some x->∃ y,bs[j]?=some y/\x=.int (y:Int):=λ{j x} h=>by
    unfold mV at h
    rw [aYu] at h
    cases e:bs[j]? with
    | none=>rw [e] at h; cases h
    | some y=>rw [e] at h; exact ⟨y,rfl,(ado h).symm⟩
   have Pj:=t2 _ _ (s2 _ _ gp)
   refine o9 (K:=K) (a:=lb) (xs:=mV bs) (l:=lz) (λj ys σ' G'=>∃ (v0:Option V),σ'=[v0,some (.ref ad)]/\ys=mV ((bs.take j).map λx=>sp.getD x 0)/\G'=upd G2 lz (.lst ys))
    ⟨none,rfl,rfl,rfl⟩ (λj ys σ' G' _ ⟨_,_,_,q⟩=>ak.of (by rw [q,Zc (Zb eb qi)]; exact eb)) ?_ ?_
   .rintro j x ys σ' G' hj kB hys ⟨v0,rfl,rfl,rfl⟩
    obtain ⟨y,ey,rfl⟩:=Oi kB
    have ly:y<sp.length:=by rw [← Ow]; exact Ov y (abg ey)
    refine ⟨_,rfl,_,rfl,ad,_,_,_,rfl,rfl,ak.of (Zf qi _ _ _ Pj),ZS (xs:=mV sp) (v:=.int ((sp.getD y 0:Nat):Int)) (by unfold mV; rw [aYu,aPI,aDi ly]; rfl),eX.of (by rw [lW]; exact aRN (Zo (by lia))) hj hys Za ⟨_,rfl,?_,xX⟩⟩
    rw [avq,ey,awR,zU]
    rfl
   rintro ys σ' G' _ ⟨v0,rfl,rfl,rfl⟩
   rw [lW,afX,← Oc]
   have s3:=Zf (H:=G2) qi (.lst (mV (jM sh pl row s)))
   have ez:upd G2 lz (.lst (mV (jM sh pl row s))) lz=some (.lst (mV (jM sh pl row s))):=Za
   have Xn:lm≠lz:=Zb (t2 _ _ HW) qi
   generalize upd G2 lz (.lst (mV (jM sh pl row s)))=G3 at *
   have Pk:=s3 _ _ (t2 _ _ HW)
   refine ⟨lm,lz,_,_,rfl,rfl,Pk,ez,?_,⟨_,_,rfl,?_,λx o' e n=>?_⟩⟩
   .unfold mV
    rw [aAt,aAt]
    exact aRN (Zo (by lia))
   .rw [Za,GJ,List.flatMap_append,xj,zU]
   .rw [Zc n]
    exact s3 _ _ (t2 _ _ (s2 _ _ (sg _ _ e n)))
 .rintro σ G ⟨v4,v5,rfl,gm,sg⟩
  have lL:(L.map iY).length=(eG sh row).length:=by rw [aAt,← bk,aAt]
  rw [lL,afX] at gm
  have cl:=EF (sh:=sh) (pl:=pl) (row:=row) (eG sh row) k1
  have e9:(eG sh row).flatMap (jM sh pl row)=iV sh pl row:=rfl
  rw [e9] at gm cl
  have yU:aq H G:=λx o' e=>sg _ _ (sF _ _ e) (Zb e ng)
  have Pn:G lm=some (.lst (((iV sh pl row).map λm:Nat=>(m:Int)).map V.int)):=by rw [gm,aPs]; rfl
  refine ⟨_,rfl,lm,_,rfl,ak.of Pn,by rw [aAt]; lia,λD os hD hp hw=>?_⟩
  have eo:=Se hp
  have hp2:(os.map Int.toNat).Perm (iV sh pl row):=by
   have q:=hp.map Int.toNat
   rw [aPs] at q
   refine q.trans (List.Perm.of_eq ?_)
   conv=>rhs; rw [← map_id (iV sh pl row)]
   exact ars λx _=>rfl
  refine k D _ (os.map Int.toNat) (yU.free hD) (yU.trans (Zf hD _)) ?_ hp2 ?_
  .rw [Za]
   conv=>lhs; rw [eo]
   rw [aPs]
   rfl
  .rw [List.pairwise_map]
   exact hw.imp λ{a b} h=>by lia
end
theorem KU (f:Nat->List Int):∀ k,argBest (λi j=>HT.lexLt (f i) (f j)) k<=k/\∀ j,j<=k->HT.lexLt (f j) (f (argBest (λi j=>HT.lexLt (f i) (f j)) k))=false
 | 0=>⟨aNS _,λj hj=>by
   have:j=0:=by lia
   subst this; exact su _⟩
 | k+1=>by
  obtain ⟨h1,h2⟩:=KU f k
  unfold argBest
  by_cases c:HT.lexLt (f (k+1)) (f (argBest (λi j=>HT.lexLt (f i) (f j)) k))=true
  .rw [atn c]
   refine ⟨aNS _,λj hj=>?_⟩
   by_cases e:j=k+1
   .subst e; exact su _
   .cases q:HT.lexLt (f j) (f (k+1)) with
    | false=>rfl
    | true =>
     have:=Av q c
     rw [h2 j (by lia)] at this; cases this
  .rw [amU c]
   refine ⟨by lia,λj hj=>?_⟩
   by_cases e:j=k+1
   .subst e; simpa using c
   .exact h2 j (by lia)
theorem JU {again au:List Int} {n:Nat} {p:Int×Int} (h:p∈fL again au n):(ig again au n).1<=p.1:=by
 obtain ⟨j,hj,rfl⟩:=getElem_of_mem h
 have hm:=Aj again au n
 have bl:=IF (l:=fL again au n) (by rw [EI]; lia)
 have at':∀ i (h:i<(fL again au n).length),((fL again au n).map mF).getD i []=mF (fL again au n)[i]:=λi h=>by
  rw [aPI,aYu,aDi h]; rfl
 have q:=(KU (λi=>((fL again au n).map mF).getD i []) ((fL again au n).length - 1)).2 j (by lia)
 have e:argBest (λi j=>HT.lexLt (((fL again au n).map mF).getD i []) (((fL again au n).map mF).getD j [])) ((fL again au n).length - 1)=lq (fL again au n):=rfl
 rw [e,at' j hj,at' _ bl] at q
 rw [aDi bl] at hm
 rw [ado hm] at q
 unfold mF at q
 rw [HT.aI] at q
 by_cases c:(fL again au n)[j].1=(ig again au n).1
 .lia
 .rw [amU c] at q
  have:=of_decide_eq_false q
  lia
def Mn (again:List Int) (ay:Int) (i:Nat):Int:=(ig again (bX again ay i).1 i).1
def An (again:List Int) (ay:Int) (i:Nat):Int:=(ig again (bX again ay i).1 i).2
theorem kG (again:List Int) (ay:Int):∀ n i,i<n->(bX again ay n).1.getD i 0=Mn again ay i+ay/\(bX again ay n).2.getD i (-1)=An again ay i
 | 0,i,h=>by lia
 | n+1,i,h=>by
  obtain ⟨l1,l2⟩:=xJ again ay n
  rw [IE,D3,aPI,aPI]
  by_cases c:i<n
  .rw [a6D (by lia),a6D (by lia),← aPI,← aPI]
   exact kG again ay n i c
  .have e:i=n:=by lia
   subst e
   rw [aFp (by lia),aFp (by lia),l1,l2,aL9]
   exact ⟨rfl,rfl⟩
def iS (again:List Int) (ay:Int):List Nat->Nat->Int
 | [],n=>(gZ again n n:Int)
 | x :: l,n=>(gZ again n (n - x):Int)+ay+iS again ay l x
def pI:List Nat->Nat->Prop
 | [],_=>True
 | x :: l,n=>x<n/\pI l x
theorem DJ {again:List Int} {ay:Int} {n x:Nat} (h:x<n):((Mn again ay x+ay+(gZ again n (n - x):Int)),(x:Int))∈fL again (bX again ay n).1 n:=by
 unfold fL
 refine aCj _ (aiy.mpr ⟨n - 1 - x,aEj.mpr (by lia),?_⟩)
 unfold rQ
 rw [show n - 1 - (n - 1 - x)=x by lia,show n - 1 - x+1=n - x by lia,(kG again ay n x h).1]
theorem JT {again:List Int} {ay:Int}:∀ (l:List Nat) (n:Nat),pI l n->Mn again ay n<=iS again ay l n
 | [],n,_=>JU (p:=((gZ again n n:Int),-1)) (ap3 _ (aBr.mpr rfl))
 | x :: l,n,⟨h1,h2⟩=>by
  have a:=JT l x h2 (again:=again) (ay:=ay)
  have b:Mn again ay n<=_:=JU (DJ (again:=again) (ay:=ay) h1)
  unfold iS
  dsimp only at b
  lia
theorem Qd {again:List Int} {ay:Int} {N:Nat}:∀ (n:Nat),n<N->∀ f,n<=f->Mn again ay n=iS again ay (jq (bX again ay N).2 f (An again ay n)) n/\pI (jq (bX again ay N).2 f (An again ay n)) n:=by
 intro n
 induction n using Nat.strongRecOn with
 | ind n ih =>
  intro hN f hf
  have hm:=abg (Aj again (bX again ay n).1 n)
  have hA:=Fy again (bX again ay n).1 n
  have eM:Mn again ay n=(ig again (bX again ay n).1 n).1:=rfl
  have eA:An again ay n=(ig again (bX again ay n).1 n).2:=rfl
  generalize ig again (bX again ay n).1 n=p at *
  unfold fL at hm
  rcases aJX.mp hm with hm | hm
  .obtain ⟨d,hd,rfl⟩:=aiy.mp hm
   have hd:=aEj.mp hd
   unfold rQ at eM eA
   dsimp only at eM eA
   obtain ⟨x,ex⟩:∃ x,x=n - 1 - d:=⟨_,rfl⟩
   rw [← ex] at eM eA
   have hx:x<n:=by lia
   rw [eA]
   obtain ⟨f',rfl⟩:∃ f',f=f'+1:=⟨f - 1,by lia⟩
   rw [EH,atn (by lia),show ((x:Int)).toNat=x from rfl,(kG again ay N x (by lia)).2]
   obtain ⟨i1,i2⟩:=ih x hx (by lia) f' (by lia)
   refine ⟨?_,hx,i2⟩
   unfold iS
   rw [eM,(kG again ay n x hx).1,show d+1=n - x by lia,← i1]
   lia
  .rw [aBr.mp hm] at eM eA
   rw [eA,eM]
   have e0:jq (bX again ay N).2 f (-1)=[]:=by
    cases f with
    | zero=>rfl
    | succ f=>rw [EH,amU (by decide)]
   rw [e0]
   exact ⟨rfl,trivial⟩
theorem GK {q:Nat->Bool}:∀ {n t:Nat},t<n->(List.range n).countP (λi=>decide (t<=i) && q i)=(List.range n).countP (λi=>decide (t+1<=i) && q i)+(if q t=true then 1 else 0)
 | 0,t,h=>by lia
 | n+1,t,h=>by
  rw [ahI,aaS,aaS,bbV,bbV]
  by_cases c:t<n
  .rw [GK c,aGg (by lia:t<=n),aGg (by lia:t+1<=n)]
   lia
  .have e:t=n:=by lia
   subst e
   have z:∀ p:Nat->Bool,(∀ i,i<t->p i=false)->(List.range t).countP p=0:=λp hp=>by
    rw [agS]
    intro i hi w
    rw [hp i (aEj.mp hi)] at w; cases w
   rw [z _ λi hi=>by rw [aWh (by lia:¬ t<=i),aYE],z _ λi hi=>by rw [aWh (by lia:¬ t+1<=i),aYE],aGg (aNS t),aWh (by lia:¬ t+1<=t)]
   simp
theorem cut {p:Nat->Bool} {x:Nat}:∀ {n:Nat},x<=n->(List.range n).countP p=(List.range x).countP p+(List.range n).countP (λi=>decide (x<=i) && p i)
 | 0,h=>by
  have:x=0:=by lia
  subst this; rfl
 | n+1,h=>by
  by_cases c:x<=n
  .rw [ahI,aaS,aaS,cut c,bbV,bbV,aGg c,Bool.true_and]
   lia
  .have e:x=n+1:=by lia
   subst e
   have:(List.range (n+1)).countP (λi=>decide (n+1<=i) && p i)=0:=by
    rw [agS]
    intro i hi w
    have:=aEj.mp hi
    rw [aWh (by lia:¬ n+1<=i)] at w; cases w
   lia
theorem lU {row:List Int} {n:Nat} (hn:n<=row.length):∀ k,k<=n->gZ (Zv row) n k=(List.range n).countP λi=>decide (n - k<=i) && decide (bF row i<=(n:Int))
 | 0,_=>by
  have:(List.range n).countP (λi=>decide (n - 0<=i) && decide (bF row i<=(n:Int)))=0:=by
   rw [agS]
   intro i hi w
   have:=aEj.mp hi
   rw [aWh (by lia:¬ n - 0<=i)] at w; cases w
  rw [this]; rfl
 | k+1,h=>by
  have ag:(Zv row).getD (n - 1 - k) 0=bF row (n - 1 - k):=by rw [aPI,LK row (by lia)]; rfl
  rw [KW,lU hn k (by lia),ag,show n - (k+1)=n - 1 - k by lia,GK (t:=n - 1 - k) (by lia),show n - 1 - k+1=n - k by lia]
  simp only [a8m]
def cI (row:List Int) (l:List Nat) (n:Nat):Nat:=(List.range n).countP λi=>decide (bF row i<=(n:Int)) && !cW 1 row l i (bF row i).toNat
theorem nB (row:List Int) (i j m:Nat):eS 1 row i j m=(decide (i<m) && decide (m<j)):=by
 unfold eS
 rw [Int.emod_one,Int.emod_one,aGg rfl,Bool.and_true]
theorem JS {row:List Int} {ay:Int}:∀ (l:List Nat) (n:Nat),n<=row.length->pI l n->iS (Zv row) ay l n=ay * l.length+(cI row l n:Int)
 | [],n,hn,_=>by
  unfold iS cI
  rw [lU hn n (aNS _)]
  show _=ay * ((0:Nat):Int)+_
  rw [show (((0:Nat):Int))=0 from rfl,Int.mul_zero,Int.zero_add]
  congr 2
  funext i
  rw [aGg (by lia:n - n<=i),Bool.true_and]
  show _=(_ && !(List.any [] _))
  simp
 | x :: l,n,hn,⟨h1,h2⟩=>by
  have ih:=JS (row:=row) (ay:=ay) l x (by lia) h2
  have lt:∀ {l:List Nat} {n:Nat},pI l n->∀ y∈l,y<n:=by
   intro l
   induction l with
   | nil=>exact λ_ y hy=>nomatch hy
   | cons z l ih =>
    intro n ⟨d1,d2⟩ y hy
    rcases ac0.mp hy with rfl | hy
    .exact d1
    .have:=ih d2 y hy; lia
  have e:cI row (x :: l) n=cI row l x+gZ (Zv row) n (n - x):=by
   unfold cI
   rw [cut (x:=x) (by lia),lU hn (n - x) (by lia),show n - (n - x)=x by lia]
   congr 1
   .refine aC6 λi hi=>?_
    have hi:=aEj.mp hi
    have ge:=D5 (row:=row) (i:=i)
    have em:cW 1 row (x :: l) i (bF row i).toNat=(eS 1 row i (bF row i).toNat x || cW 1 row l i (bF row i).toNat):=rfl
    rw [em,nB,aGg hi,Bool.true_and]
    by_cases c:bF row i<=(x:Int)
    .rw [aGg c,aGg (by lia:bF row i<=(n:Int)),aWh (by lia:¬ x<(bF row i).toNat)]
     simp
    .rw [aWh c,aGg (by lia:x<(bF row i).toNat)]
     simp
   .refine aC6 λi hi=>?_
    by_cases c:x<=i
    .have em:cW 1 row (x :: l) i (bF row i).toNat=false:=by
      unfold cW
      rw [List.any_eq_false]
      intro y hy w
      have:y<=x:=(ac0.mp hy).elim (λz=>by lia) λz=>by have:=lt h2 y z; lia
      rw [nB,aWh (by lia:¬ i<y)] at w; cases w
     rw [em]; simp
    .rw [aWh c]; simp
  unfold iS
  rw [ih,e,bc9,Int.natCast_succ,Int.mul_add,Int.mul_one]
  lia
theorem JE (sh pl:Int) (row:List Int) (l:List Nat):bP sh pl row l.reverse=bP sh pl row l:=by
 unfold bP
 rw [aBw]
 congr 3
 funext i
 unfold jU cW
 rw [List.any_reverse]
theorem JD {row:List Int} {ay:Int} {l:List Nat} {n:Nat} (hn:row.length=n+1) (h:pI l n):bP 1 (ay+1) row l=iS (Zv row) ay l n:=by
 rw [JS l n (by lia) h]
 unfold bP cI
 rw [show ay+1 - 1=ay by lia]
 congr 2
 rw [hn,ahI,aaS,bbV]
 have e:jU 1 row l n=false:=by
  unfold jU
  have:bF row n=(row.length:Int):=by unfold bF; exact Al (by lia)
  rw [aWh (by lia),aYE]
 rw [e,amU aPi,a99]
 refine aC6 λi _=>?_
 unfold jU
 rw [show decide (bF row i<(row.length:Int))=decide (bF row i<=(n:Int)) from aZN.mpr (by lia)]
theorem AL {p:Nat->Bool}:∀ n,pI ((List.range n).filter p).reverse n
 | 0=>trivial
 | n+1=>by
  rw [ahI,aXR,aPA,aTO,aCy]
  have up:∀ {l:List Nat} {a b:Nat},a<=b->pI l a->pI l b:=λ{l a b} h d=>by
   cases l with
   | nil=>trivial
   | cons x l=>exact ⟨ajX d.1 h,d.2⟩
  split
  .exact ⟨aDX _,AL n⟩
  .exact up (aO8 _) (AL n)
theorem S4 {row:List Int} {ay:Int} (hf:0<=ay) (xs:List Nat):bP 1 (ay+1) row (iQ ay row)<=bP 1 (ay+1) row xs:=by
 cases hn:row.length with
 | zero =>
  have e0:∀ l,bP 1 (ay+1) row l=ay * l.length:=λl=>by
   unfold bP
   rw [hn,show ay+1 - 1=ay by lia]
   simp
  have:(iQ ay row).length=0:=by have:=DY ay row; lia
  rw [e0,e0,this]
  show ay * ((0:Nat):Int)<=_
  rw [show (((0:Nat):Int))=0 from rfl,Int.mul_zero]
  exact Int.mul_nonneg hf (by lia)
 | succ n =>
  have h1:bP 1 (ay+1) row (iQ ay row)=Mn (Zv row) ay n:=by
   unfold iQ
   rw [JE]
   have em:kX (bX (Zv row) ay row.length).2=An (Zv row) ay n:=by
    unfold kX
    rw [hn,D3,List.getLast?_append]
    rfl
   obtain ⟨g1,g2⟩:=Qd (again:=Zv row) (ay:=ay) (N:=row.length) n (by lia) row.length (by lia)
   rw [em,JD hn g2,← g1]
  have h2:=JT (again:=Zv row) (ay:=ay) _ n (AL (p:=λi=>decide (i∈xs)) n)
  rw [← JD hn (AL n)] at h2
  rw [h1]
  refine a4I h2 ?_
  rw [JE]
  unfold bP
  have hl:((List.range n).filter λi=>decide (i∈xs)).length<=xs.length:=zZ (List.nodup_range.sublist aN5) λx hx=>a6b (afi.mp hx).2
  have hm:ay * ((((List.range n).filter λi=>decide (i∈xs)).length:Nat):Int)<=ay * (xs.length:Int):=Int.mul_le_mul_of_nonneg_left (by lia) hf
  have hc:(List.range row.length).countP (jU 1 row ((List.range n).filter λi=>decide (i∈xs)))=(List.range row.length).countP (jU 1 row xs):=by
   refine aC6 λi hi=>?_
   unfold jU
   by_cases c:bF row i<(row.length:Int)
   .have ge:=D5 (row:=row) (i:=i)
    have:cW 1 row ((List.range n).filter λi=>decide (i∈xs)) i (bF row i).toNat=cW 1 row xs i (bF row i).toNat:=by
     unfold cW
     rw [aOQ,ayr,ayr]
     constructor
     .rintro ⟨x,hx,h⟩
      exact ⟨x,a6b (afi.mp hx).2,h⟩
     .rintro ⟨x,hx,h⟩
      have h':=h
      rw [nB] at h'
      obtain ⟨_,h3⟩:=(ba6 _ _).mp h'
      have:=a6b h3
      exact ⟨x,afi.mpr ⟨aEj.mpr (by lia),aGg hx⟩,h⟩
    rw [this]
   .rw [aWh c]; simp
  rw [hc,show ay+1 - 1=ay by lia]
  lia
theorem JC {t:Int} {a:Int->Nat} {c:Nat}:∀ {ks:List Int},ks.Nodup->t∈ks->(ks.map λs=>a s+(if t=s then c else 0)).sum=(ks.map a).sum+c
 | [],_,h=>nomatch h
 | s :: ks,nd,h=>by
  obtain ⟨n1,n2⟩:=aG7.mp nd
  rw [aWO,aWO,axJ,axJ]
  by_cases e:t=s
  .have:(ks.map λs=>a s+(if t=s then c else 0))=ks.map a:=ars λu hu=>by rw [amU (λz=>n1 (by rw [← e,z]; exact hu)),a99]
   rw [this,atn e]; lia
  .have:=JC (a:=a) (c:=c) n2 ((ac0.mp h).resolve_left e)
   rw [this,amU e]; lia
theorem qP {sh:Int} {row:List Int} {ks:List Int} (nd:ks.Nodup) (f:Nat->Bool):∀ n,(∀ i,i<n->row.getD i 0 % sh∈ks)->(List.range n).countP f=(ks.map λs=>(aX sh row n s).countP f).sum
 | 0,_=>by
  have:∀ ks:List Int,(ks.map λs=>(aX sh row 0 s).countP f).sum=0:=λks=>by
   induction ks with
   | nil=>rfl
   | cons s ks ih=>rw [aWO,axJ,ih]; rfl
  rw [this]; rfl
 | n+1,h=>by
  rw [ahI,aaS,qP nd f n λi hi=>h i (by lia),bbV,← JC nd (h n (by lia))]
  congr 1
  refine ars λs _=>?_
  rw [Az,aaS]
  by_cases c:row.getD n 0 % sh=s
  .rw [atn c,atn c,bbV]
  .rw [amU c,amU c]; rfl
theorem JB (l:List Nat) (f:Nat->Bool):l.countP f=(List.range l.length).countP λx=>f (l.getD x 0):=by
 have e:l=(List.range l.length).map λx=>l.getD x 0:=by
  apply a1R
  intro i
  by_cases h:i<l.length
  .rw [aYu,ahO h,aDi h,aJJ,aPI,aDi h]; rfl
  .rw [aRn (by lia),aRn (by rw [aAt,aan]; lia)]
 conv=>lhs; rw [e,amw]
 rfl
section
variable {sh:Int} {row:List Int} {s:Int}
theorem iw {x:Nat} (h:x<(aX sh row row.length s).length):(aX sh row row.length s).getD x 0<row.length/\row.getD ((aX sh row row.length s).getD x 0) 0 % sh=s:=by
 have m:(aX sh row row.length s).getD x 0∈aX sh row row.length s:=by rw [aPI,aDi h]; exact a2P h
 obtain ⟨h1,h2⟩:=afi.mp m
 exact ⟨aEj.mp h1,a6b h2⟩
theorem dW {x y:Nat} (h:y<(aX sh row row.length s).length) (hxy:x<y):(aX sh row row.length s).getD x 0<(aX sh row row.length s).getD y 0:=by
 have pw:(aX sh row row.length s).Pairwise (·<·):=agN aN5 List.pairwise_lt_range
 have:=a4Q.mp pw x y (by lia) h hxy
 rw [aPI,aPI,aDi h,aDi (by lia:x<_)]
 exact this
theorem l7 {p:Nat} (h:p<row.length) (e:row.getD p 0 % sh=s):∃ x,x<(aX sh row row.length s).length/\(aX sh row row.length s).getD x 0=p:=by
 have m:p∈aX sh row row.length s:=afi.mpr ⟨aEj.mpr h,aGg e⟩
 obtain ⟨x,hx,q⟩:=getElem_of_mem m
 exact ⟨x,hx,by rw [aPI,aDi hx]; exact q⟩
theorem tO {x:Nat} (h:x<(aX sh row row.length s).length):(aS sh row s).getD x 0=row.getD ((aX sh row row.length s).getD x 0) 0:=by
 have e:(aX sh row row.length s).getD x 0=(aX sh row row.length s)[x]:=by rw [aPI,aDi h]; rfl
 rw [e]
 unfold aS
 rw [aPI,aYu,aDi h]
 rfl
theorem SY {row:List Int} {i j:Nat} (h1:i<j) (h2:j<row.length) (h3:row.getD j 0=row.getD i 0) (h4:∀ k,i<k->k<j->row.getD k 0≠row.getD i 0):bF row i=(j:Int) :=
 zV h2 (D7 h1 h3.symm λk k1 k2=>by rw [h3]; exact h4 k k1 k2)
theorem SX {row:List Int} {i:Nat} (hi:i<row.length) (h:∀ k,i<k->k<row.length->row.getD k 0≠row.getD i 0):bF row i=(row.length:Int):=by
 rcases tQ (row:=row) (b:=row.getD i 0) (row.length - (i+1)) (i+1) (by lia) with ⟨h1,_⟩ | ⟨j,h1,h2,h3,h4,h5⟩
 .exact h1
 .exact absurd h4 (h j (by lia) h2)
theorem xh {ms js:List Nat} (hm:∀ z,z<(aX sh row row.length s).length->(z∈js↔(aX sh row row.length s).getD z 0∈ms)) (hj:∀ z∈js,z<(aX sh row row.length s).length) (hr:∀ z∈ms,z<row.length) {x:Nat} (hx:x<(aX sh row row.length s).length):jU sh row ms ((aX sh row row.length s).getD x 0)=jU 1 (aS sh row s) js x:=by
 have la:(aS sh row s).length=(aX sh row row.length s).length:=by unfold aS; rw [aAt]
 have hp:=iw hx
 unfold jU
 by_cases c:bF (aS sh row s) x<((aS sh row s).length:Int)
 .obtain ⟨y,e1,h1,h2,h3,h4⟩:=zW (by lia) c
  rw [la] at h2
  obtain ⟨_,_,h5⟩:=ZE h4
  rw [tO h2,tO hx] at h3
  have e2:bF row ((aX sh row row.length s).getD x 0)=((aX sh row row.length s).getD y 0:Nat):=SY (dW h2 h1) (iw h2).1 h3 λk k1 k2 e=>by
   obtain ⟨z,hz,ez⟩:=l7 (sh:=sh) (row:=row) (s:=s) (p:=k) (by have:=(iw h2).1; lia) (by rw [e]; exact hp.2)
   have z1:x<z:=by
    rcases aNc x z with h | h | h
    .exact h
    .rw [h,ez] at k1; lia
    .have:=dW hx h; rw [ez] at this; lia
   have z2:z<y:=by
    rcases aNc z y with h | h | h
    .exact h
    .rw [← h,ez] at k2; lia
    .have:=dW hz h; rw [ez] at this; lia
   refine h5 z z1 z2 ?_
   rw [tO hz,ez,tO h2,h3]
   exact e
  have q1:=(iw h2).1
  rw [e1,e2,aGg (by lia:(((aX sh row row.length s).getD y 0:Nat):Int)<(row.length:Int)),aGg (by lia:(y:Int)<((aS sh row s).length:Int))]
  congr 2
  show cW sh row ms _ ((aX sh row row.length s).getD y 0)=cW 1 (aS sh row s) js x y
  unfold cW
  rw [aOQ,ayr,ayr]
  constructor
  .rintro ⟨m,HJ,w⟩
   obtain ⟨w1,w3⟩:=(ba6 _ _).mp w
   obtain ⟨w1,w2⟩:=(ba6 _ _).mp w1
   have w1:=a6b w1
   have w2:=a6b w2
   have w3:=a6b w3
   obtain ⟨z,hz,ez⟩:=l7 (s:=s) (hr m HJ) (by rw [w3]; exact hp.2)
   refine ⟨z,(hm z hz).mpr (by rw [ez]; exact HJ),?_⟩
   rw [nB]
   have z1:x<z:=by
    rcases aNc x z with h | h | h
    .exact h
    .rw [h,ez] at w1; lia
    .have:=dW hx h; rw [ez] at this; lia
   have z2:z<y:=by
    rcases aNc z y with h | h | h
    .exact h
    .rw [← h,ez] at w2; lia
    .have:=dW hz h; rw [ez] at this; lia
   rw [aGg z1,aGg z2]; rfl
  .rintro ⟨z,hz,w⟩
   rw [nB] at w
   obtain ⟨w1,w2⟩:=(ba6 _ _).mp w
   have w1:=a6b w1
   have w2:=a6b w2
   have zl:=hj z hz
   refine ⟨_,(hm z zl).mp hz,?_⟩
   unfold eS
   rw [aGg (dW zl w1),aGg (dW h2 w2),(iw zl).2,hp.2]
   simp
 .have e2:bF row ((aX sh row row.length s).getD x 0)=(row.length:Int):=SX hp.1 λk k1 k2 e=>by
   obtain ⟨z,hz,ez⟩:=l7 (s:=s) (p:=k) k2 (by rw [e]; exact hp.2)
   have z1:x<z:=by
    rcases aNc x z with h | h | h
    .exact h
    .rw [h,ez] at k1; lia
    .have:=dW hx h; rw [ez] at this; lia
   rcases tQ (row:=aS sh row s) (b:=(aS sh row s).getD x 0) ((aS sh row s).length - (x+1)) (x+1) (by lia) with ⟨_,q⟩ | ⟨j,_,j2,j3,_⟩
   .refine q z (by lia) (by lia) ?_
    rw [tO hz,tO hx,ez,e]
   .unfold bF at c
    lia
  rw [aWh c,e2,aWh (by lia:¬ (row.length:Int)<row.length)]
  rfl
end
theorem JA {a b:Int->Int}:∀ {ks:List Int},(∀ s∈ks,a s<=b s)->(ks.map a).sum<=(ks.map b).sum
 | [],_=>aEQ _
 | s :: ks,h=>by
  rw [aWO,aWO,axJ,axJ]
  have:=h s a5w
  have:=JA λt ht=>h t (amQ _ ht)
  lia
theorem EE {ay:Int} {l c:Int->Nat}:∀ ks:List Int,(ks.map λs=>ay * (l s:Int)+(c s:Int)).sum=ay * (((ks.map l).sum:Nat):Int)+(((ks.map c).sum:Nat):Int)
 | []=>by simp
 | s :: ks=>by
  rw [aWO,aWO,aWO,axJ,axJ,axJ,EE ks,Int.natCast_add,Int.natCast_add,Int.mul_add]
  lia
theorem LY {sh:Int} {row:List Int} {ms:List Nat} (J:Int->List Nat) (hr:∀ z∈ms,z<row.length) (hj:∀ s∈eG sh row,(∀ z∈J s,z<(aX sh row row.length s).length)/\∀ z,z<(aX sh row row.length s).length->(z∈J s↔(aX sh row row.length s).getD z 0∈ms)) :
  (List.range row.length).countP (jU sh row ms)=((eG sh row).map λs=>(List.range (aS sh row s).length).countP (jU 1 (aS sh row s) (J s))).sum:=by
 obtain ⟨k1,k2,_⟩:=tP sh row row.length (aNS _)
 rw [afX] at k1 k2
 rw [qP k1 _ row.length λi hi=>(k2 _).mpr ⟨i,hi,rfl⟩]
 congr 1
 refine ars λs hs=>?_
 rw [JB]
 have la:(aS sh row s).length=(aX sh row row.length s).length:=by unfold aS; rw [aAt]
 rw [la]
 refine aC6 λx hx=>?_
 rw [xh (hj s hs).2 (hj s hs).1 hr (aEj.mp hx)]
theorem SW {sh pl:Int} {row:List Int} {os ms:List Nat} (hp:1<=pl) (ho:os.Perm (iV sh pl row)) (hr:∀ z∈ms,z<row.length):bP sh pl row os<=bP sh pl row ms:=by
 have so:∀ z∈os,z<row.length:=λz hz=>by
  obtain ⟨s,_,hs⟩:=a4J.mp (ho.mem_iff.mp hz)
  exact (EG hs).1
 obtain ⟨k1,k2,_⟩:=tP sh row row.length (aNS _)
 rw [afX] at k1 k2
 have la:∀ s,(aS sh row s).length=(aX sh row row.length s).length:=λs=>by unfold aS; rw [aAt]
 have c1:=LY (sh:=sh) (row:=row) (ms:=os) (λs=>iQ (pl - 1) (aS sh row s)) so λs hs=>by
  refine ⟨λz hz=>by rw [← la]; exact ku _ _ z hz,λz hz=>?_⟩
  rw [ho.mem_iff]
  constructor
  .exact λh=>a4J.mpr ⟨s,hs,aiy.mpr ⟨z,h,rfl⟩⟩
  .intro h
   obtain ⟨t,ht,h⟩:=a4J.mp h
   have et:t=s:=by rw [← (EG h).2,(iw hz).2]
   subst et
   obtain ⟨y,hy,e⟩:=aiy.mp h
   have ly:y<(aX sh row row.length t).length:=by rw [← la]; exact ku _ _ y hy
   have:y=z:=by
    rcases aNc y z with q | q | q
    .have:=dW hz q; lia
    .exact q
    .have:=dW ly q; lia
   rw [← this]; exact hy
 have c2:=LY (sh:=sh) (row:=row) (ms:=ms) (λs=>(List.range (aX sh row row.length s).length).filter λz=>decide ((aX sh row row.length s).getD z 0∈ms)) hr λs hs=>by
  refine ⟨λz hz=>aEj.mp (afi.mp hz).1,λz hz=>?_⟩
  rw [mem_filter]
  exact ⟨λh=>a6b h.2,λh=>⟨aEj.mpr hz,aGg h⟩⟩
 have l1:os.length=((eG sh row).map λs=>(iQ (pl - 1) (aS sh row s)).length).sum:=by
  rw [ho.length_eq]
  unfold iV
  rw [List.length_flatMap]
  congr 1
  refine ars λs _=>?_
  unfold jM
  rw [aAt]
 have l2:((eG sh row).map λs=>((List.range (aX sh row row.length s).length).filter λz=>decide ((aX sh row row.length s).getD z 0∈ms)).length).sum<=ms.length:=by
  have e:((eG sh row).map λs=>((List.range (aX sh row row.length s).length).filter λz=>decide ((aX sh row row.length s).getD z 0∈ms)).length).sum=(List.range row.length).countP λi=>decide (i∈ms):=by
   rw [qP k1 _ row.length λi hi=>(k2 _).mpr ⟨i,hi,rfl⟩]
   congr 1
   refine ars λs _=>?_
   rw [JB (aX sh row row.length s),aDd]
  rw [e]
  exact EL (f:=id) (λi _ h=>a6b h) λi j _ _ _ _ e=>e
 have f0:0<=pl - 1:=by lia
 have main:=JA (ks:=eG sh row) (a:=λs=>bP 1 (pl - 1+1) (aS sh row s) (iQ (pl - 1) (aS sh row s))) (b:=λs=>bP 1 (pl - 1+1) (aS sh row s) ((List.range (aX sh row row.length s).length).filter λz=>decide ((aX sh row row.length s).getD z 0∈ms))) λs _=>S4 f0 _
 unfold bP at main ⊢
 rw [show pl - 1+1 - 1=pl - 1 by lia] at main
 rw [EE,EE,← c1,← c2,← l1] at main
 have:=Int.mul_le_mul_of_nonneg_left (Int.ofNat_le.mpr l2) f0
 have e3:((ms.length:Nat):Int)=Int.ofNat ms.length:=rfl
 refine a4I main ?_
 have e4:(pl - 1) * ((((eG sh row).map λs=>((List.range (aX sh row row.length s).length).filter λz=>decide ((aX sh row row.length s).getD z 0∈ms)).length).sum:Nat):Int)<=(pl - 1) * (ms.length:Int):=this
 lia
theorem we {sh pl:Int} {row:List Int} {os:List Nat} (ho:os.Perm (iV sh pl row)):(∀ x∈os,x<row.length)/\os.length<=row.length:=by
 refine ⟨λx hx=>?_,?_⟩
 .obtain ⟨s,_,hs⟩:=a4J.mp (ho.mem_iff.mp hx)
  exact (EG hs).1
 .rw [ho.length_eq]
  have:=EF (sh:=sh) (pl:=pl) (row:=row) (eG sh row) (by have:=(tP sh row row.length (aNS _)).1; rwa [afX] at this)
  exact this
structure qI (sh pl:Int) (row:List Int) (F:Nat->List Int) (m:Nat->Nat):Prop where
 hit:∀ i,i<row.length->row.getD i 0∈F i->∀ x∈F i,x∈F (i+1)
 zw:∀ i,i<row.length->row.getD i 0∉F i->(∀ x∈F i,x∈F (i+1))\/∃ z∈F i,(∀ x∈F i,x≠z->x∈F (i+1))/\pl<=((Zi sh (row.getD i 0 % sh) (F i)).length:Int)/\z % sh=row.getD i 0 % sh/\∀ x∈F i,x % sh=row.getD i 0 % sh->bE row i x<=bE row i z
theorem KS (f:Nat->List Int):∀ k,argBest (λi j=>HT.lexLt (f j) (f i)) k<=k/\∀ j,j<=k->HT.lexLt (f (argBest (λi j=>HT.lexLt (f j) (f i)) k)) (f j)=false
 | 0=>⟨aNS _,λj hj=>by
   have:j=0:=by lia
   subst this; exact su _⟩
 | k+1=>by
  obtain ⟨h1,h2⟩:=KS f k
  unfold argBest
  by_cases c:HT.lexLt (f (argBest (λi j=>HT.lexLt (f j) (f i)) k)) (f (k+1))=true
  .rw [atn c]
   refine ⟨aNS _,λj hj=>?_⟩
   by_cases e:j=k+1
   .subst e; exact su _
   .cases q:HT.lexLt (f (k+1)) (f j) with
    | false=>rfl
    | true =>
     have:=Av c q
     rw [h2 j (by lia)] at this; cases this
  .rw [amU c]
   refine ⟨by lia,λj hj=>?_⟩
   by_cases e:j=k+1
   .subst e; simpa using c
   .exact h2 j (by lia)
theorem SV {row:List Int} {p:Nat} {S:List Int} (h:S≠[]):∃ z,S[dJ row p S]?=some z/\z∈S/\∀ x∈S,bE row p x<=bE row p z:=by
 have pos:0<S.length:=baX.mpr h
 obtain ⟨h1,h2⟩:=KS (λi=>(S.map λo=>[bE row p o,o]).getD i []) (S.length - 1)
 have e:argBest (λi j=>HT.lexLt ((S.map λo=>[bE row p o,o]).getD j []) ((S.map λo=>[bE row p o,o]).getD i [])) (S.length - 1)=dJ row p S:=rfl
 rw [e] at h1 h2
 have hlt:dJ row p S<S.length:=by lia
 have at':∀ i (h:i<S.length),(S.map λo=>[bE row p o,o]).getD i []=[bE row p S[i],S[i]]:=λi h=>by
  rw [aPI,aYu,aDi h]; rfl
 refine ⟨S[dJ row p S],aDi hlt,a2P hlt,λx hx=>?_⟩
 obtain ⟨j,hj,rfl⟩:=getElem_of_mem hx
 have q:=h2 j (by lia)
 rw [at' j hj,at' _ hlt,HT.aI] at q
 by_cases c:bE row p S[dJ row p S]=bE row p S[j]
 .lia
 .rw [amU c] at q
  have:=of_decide_eq_false q
  lia
section
variable {sh pl:Int} {row:List Int}
theorem Qc (hp:1<=pl) {i:Nat} (hi:i<=row.length):(oS sh pl row (eO sh pl row) i).1=(aQ sh pl row i).1:=by
 obtain ⟨c,e⟩:=qy (sh:=sh) hp row i hi
 unfold oS
 rw [e]; rfl
theorem Jz (hp:1<=pl):qI sh pl row (λi=>(oS sh pl row (eO sh pl row) i).1) λi=>(oS sh pl row (eO sh pl row) i).2:=by
 obtain ⟨c,e⟩:=qy (sh:=sh) hp row row.length (aNS _)
 refine ⟨λi hi hb=>?_,λi hi hb=>?_⟩
 .obtain ⟨_,hh,_⟩:=ur e hi
  try dsimp only
  rw [hh hb]
  exact λx hx=>hx
 .obtain ⟨_,_,hn⟩:=ur e hi
  try dsimp only at hb ⊢
  rw [hn hb]
  have eo:(eO sh pl row).getD i none=bA sh pl row i (row.getD i 0) (aQ sh pl row i).1:=by
   rw [aPI]
   unfold eO
   rw [D8 (by lia:i<row.length)]
   rfl
  rw [eo]
  rw [Qc hp (by lia)] at hb ⊢
  generalize row.getD i 0=b at *
  generalize (aQ sh pl row i).1=there at *
  unfold bA
  by_cases c:b∉there/\pl<=((rZ sh b there).length:Int)
  .rw [atn c]
   have ne:rZ sh b there≠[]:=λz=>by
    have h2:=c.2
    rw [z] at h2
    have h3:pl<=((0:Nat):Int):=h2
    lia
   obtain ⟨z,hz,zm,zf⟩:=SV (row:=row) (p:=i) ne
   rw [hz]
   right
   have h2:=c.2
   rw [E3] at zm zf h2
   refine ⟨z,(ao.mp zm).1,λx hx hne=>aCj _ ((bbW hne).mpr hx),h2,(ao.mp zm).2,λx hx hs=>zf x (ao.mpr ⟨hx,hs⟩)⟩
  .rw [amU c]
   exact .inl λx hx=>aCj _ hx
theorem E1 (hp:1<=pl):n9 sh pl row=(oS sh pl row (eO sh pl row) row.length).2:=by
 obtain ⟨c,e⟩:=qy (sh:=sh) hp row row.length (aNS _)
 unfold n9 ie oS
 rw [atn (JZ sh pl row),e]
 rfl
structure Nx (row:List Int) (a:Nat) (x:Int) (j:Nat):Prop where
 lt:a<j
 hi:j<row.length
 at':row.getD j 0=x
 no:∀ k,a<k->k<j->row.getD k 0≠x
theorem IC {row:List Int} (hl:row.length<=1000000) {x:Int}:∀ (d p:Nat),p+1+d=row.length->(bE row p x=1000000)\/∃ j:Nat,bE row p x=(j:Int)/\Nx row p x j
 | 0,p,h=>.inl (Sk (by lia))
 | d+1,p,h=>by
  have hx:row[p+1]?=some (row.getD (p+1) 0):=by rw [aPI,aDi (by lia)]; rfl
  unfold bE
  rw [Fz hx]
  by_cases c:row.getD (p+1) 0=x
  .rw [atn c]
   exact .inr ⟨p+1,rfl,by lia,by lia,c,λk h1 h2=>by lia⟩
  .rw [amU c]
   rcases IC hl (x:=x) d (p+1) (by lia) with h1 | ⟨j,e,q⟩
   .exact .inl h1
   .refine .inr ⟨j,e,by have:=q.lt; lia,q.hi,q.at',λk k1 k2=>?_⟩
    by_cases e:k=p+1
    .subst e; exact c
    .exact q.no k (by lia) k2
theorem Jy (hl:row.length<=1000000):∀ (d a:Nat) {x:Int} {j:Nat},a+1+d=j->Nx row a x j->bE row a x=(j:Int)
 | 0,a,x,j,hd,h=>by
  have hx:row[a+1]?=some (row.getD (a+1) 0):=by rw [aPI,aDi (by have:=h.hi; lia)]; rfl
  unfold bE
  rw [Fz hx,atn (by rw [show a+1=j by lia]; exact h.at'),show a+1=j by lia]
 | d+1,a,x,j,hd,h=>by
  have hx:row[a+1]?=some (row.getD (a+1) 0):=by rw [aPI,aDi (by have:=h.hi; lia)]; rfl
  unfold bE
  rw [Fz hx,amU (h.no (a+1) (by lia) (by lia))]
  exact Jy hl d (a+1) (by lia) ⟨by lia,h.hi,h.at',λk k1 k2=>h.no k (by lia) k2⟩
theorem DT (hl:row.length<=1000000) {a:Nat} {x:Int} {j:Nat} (h:Nx row a x j):bE row a x=(j:Int):=Jy hl (j - (a+1)) a (by have:=h.lt; lia) h
variable {F:Nat->List Int} {m:Nat->Nat}
def uH (row:List Int) (F:Nat->List Int) (e:Nat) (z:Int) (j:Nat):Prop:=e<row.length/\z∈F e/\z∉F (e+1)/\Nx row e z j
theorem qI.drop (f:qI sh pl row F m) {e j:Nat} {z:Int} (h:uH row F e z j):row.getD e 0∉F e/\(∀ x∈F e,x≠z->x∈F (e+1))/\pl<=((Zi sh (row.getD e 0 % sh) (F e)).length:Int)/\z % sh=row.getD e 0 % sh/\∀ x∈F e,x % sh=row.getD e 0 % sh->bE row e x<=bE row e z:=by
 obtain ⟨h0,h1,h2,_⟩:=h
 have c:row.getD e 0∉F e:=λc=>h2 (f.hit e h0 c z h1)
 refine ⟨c,?_⟩
 rcases f.zw e h0 c with q | ⟨z',q1,q2,q3⟩
 .exact absurd (q z h1) h2
 .by_cases ez:z=z'
  .subst ez; exact ⟨q2,q3⟩
  .exact absurd (q2 z h1 ez) h2
theorem ED {x:Int}:∀ (d t:Nat),x∈F t->x∉F (t+d)->∃ e,t<=e/\e<t+d/\x∈F e/\x∉F (e+1)
 | 0,t,h1,h2=>absurd h1 h2
 | d+1,t,h1,h2=>by
  by_cases c:x∈F (t+1)
  .obtain ⟨e,e1,e2,e3⟩:=ED d (t+1) c (by rw [show t+1+d=t+(d+1) by lia]; exact h2)
   exact ⟨e,by lia,by lia,e3⟩
  .exact ⟨t,aNS _,by lia,h1,c⟩
structure pD (sh:Int) (row:List Int) (F:Nat->List Int) (e:Nat) (ms:List Nat):Prop where
 ge:∀ a∈ms,e<=a/\a<row.length
 nd:ms.Nodup
 why:∀ a∈ms,∃ z j,uH row F a z j/\∀ b∈ms,row.getD b 0 % sh=row.getD a 0 % sh->a<b->j<=b
 all:∀ a z j,e<=a->uH row F a z j->∃ b∈ms,row.getD b 0 % sh=row.getD a 0 % sh/\a<=b/\b<j
theorem IB (sh:Int) (row:List Int) (F:Nat->List Int):∀ (d e:Nat),e+d=row.length->∃ ms,pD sh row F e ms
 | 0,e,h=>⟨[],λ_ h=>(nomatch h),awg,λ_ h=>(nomatch h),λa z j h1 h2=>by have:=h2.1; lia⟩
 | d+1,e,h=>by
  obtain ⟨ms,g⟩:=IB sh row F d (e+1) (by lia)
  by_cases c:∃ z j,uH row F e z j/\∀ b∈ms,row.getD b 0 % sh=row.getD e 0 % sh->j<=b
  .obtain ⟨z,j,c1,c2⟩:=c
   refine ⟨e :: ms,λa ha=>?_,aG7.mpr ⟨λm=>by have:=(g.ge e m).1; lia,g.nd⟩,λa ha=>?_,λa y k h1 h2=>?_⟩
   .rcases ac0.mp ha with rfl | ha
    .exact ⟨aNS _,c1.1⟩
    .have:=g.ge a ha; lia
   .rcases ac0.mp ha with rfl | ha
    .refine ⟨z,j,c1,λb hb eb lt=>?_⟩
     rcases ac0.mp hb with rfl | hb
     .lia
     .exact c2 b hb eb
    .obtain ⟨z,j,q1,q2⟩:=g.why a ha
     refine ⟨z,j,q1,λb hb eb lt=>?_⟩
     rcases ac0.mp hb with eb' | hb
     .have:=(g.ge a ha).1; lia
     .exact q2 b hb eb lt
   .by_cases ea:a=e
    .subst ea
     exact ⟨a,a5w,rfl,aNS _,h2.2.2.2.lt⟩
    .obtain ⟨b,b1,b2⟩:=g.all a y k (by lia) h2
     exact ⟨b,amQ _ b1,b2⟩
  .refine ⟨ms,λa ha=>by have:=g.ge a ha; lia,g.nd,g.why,λa y k h1 h2=>?_⟩
   by_cases ea:a=e
   .subst ea
    apply axv
    intro no
    refine c ⟨y,k,h2,λb hb eb=>?_⟩
    apply axv
    intro nb
    exact no ⟨b,hb,eb,by have:=(g.ge b hb).1; lia,by lia⟩
   .exact g.all a y k (by lia) h2
theorem pD.miss {ms:List Nat} (g:pD sh row F 0 ms) (f:qI sh pl row F m) (o:iI sh pl row F m) {i j:Nat} (hj:j<row.length) (hp:dG row (row.getD j 0) j=some i) (hm:row.getD j 0∉F j):cW sh row ms i j=true:=by
 obtain ⟨p1,p2,p3⟩:=ZE hp
 have h1:=o.now i (by lia)
 rw [p2] at h1
 obtain ⟨e,e1,e2,e3,e4⟩:=ED (F:=F) (j - (i+1)) (i+1) h1 (by rw [show i+1+(j - (i+1))=j by lia]; exact hm)
 have D:uH row F e (row.getD j 0) j:=⟨by lia,e3,e4,by lia,hj,rfl,λk k1 k2=>p3 k (by lia) k2⟩
 obtain ⟨b,b1,b2,b3,b4⟩:=g.all e _ j (aze _) D
 have s:=(f.drop D).2.2.2.1
 refine apZ.mpr ⟨b,b1,?_⟩
 unfold eS
 rw [aGg (by lia:i<b),aGg b4,aGg (by rw [b2,p2,s])]
 rfl
theorem pD.over {ms:List Nat} (hl:row.length<=1000000) (g:pD sh row F 0 ms) (f:qI sh pl row F m) (o:iI sh pl row F m) {a:Nat} (ha:a∈ms):pl - 1<=(((List.range row.length).countP λj=>cj row F j && dU row (λi j=>eS sh row i j a) j:Nat):Int):=by
 obtain ⟨z,jz,D,w⟩:=g.why a ha
 obtain ⟨d1,d2,d3,d4,d5⟩:=f.drop D
 have nz:=DT hl D.2.2.2
 have HA:z∈Zi sh (row.getD a 0 % sh) (F a):=ao.mpr ⟨D.2.1,d4⟩
 have key:∀ x∈(Zi sh (row.getD a 0 % sh) (F a)).erase z,∃ j:Nat,bE row a x=(j:Int)/\row.getD j 0=x/\j∈(List.range row.length).filter λj=>cj row F j && dU row (λi j=>eS sh row i j a) j:=λx hx=>by
  have hxz:x≠z:=λe=>by
   subst e
   exact (List.Nodup.not_mem_erase ((o.nd a (by have:=D.1; lia)).sublist aN5)) hx
  obtain ⟨x1,x2⟩:=ao.mp (ai2 hx)
  have le:=d5 x x1 x2
  rcases IC hl (x:=x) (row.length - (a+1)) a (by have:=D.1; lia) with e | ⟨j,e,N⟩
  .have:=D.2.2.2.hi; lia
  .refine ⟨j,e,N.at',afi.mpr ⟨aEj.mpr N.hi,?_⟩⟩
   have hin:x∈F j:=axv λno=>by
    have vY:=N.lt
    obtain ⟨e',e1,e2,e3,e4⟩:=ED (F:=F) (j - (a+1)) (a+1) (d2 x x1 hxz) (by rw [show a+1+(j - (a+1))=j by lia]; exact no)
    have D':uH row F e' x j:=⟨by have:=N.hi; lia,e3,e4,by lia,N.hi,N.at',λk k1 k2=>N.no k (by lia) k2⟩
    obtain ⟨b,b1,b2,b3,b4⟩:=g.all e' x j (aze _) D'
    have s:=(f.drop D').2.2.2.1
    have:=w b b1 (by rw [b2,← s,x2]) (by lia)
    lia
   obtain ⟨i',i1,i2⟩:=o.back (by have:=D.1; lia) x1
   have vY:=N.lt
   unfold cj dU
   rw [N.at',aGg hin]
   cases ep:dG row x j with
   | none=>exact absurd i2 (xT ep i' (by lia))
   | some i =>
    obtain ⟨p1,p2,p3⟩:=ZE ep
    have OV:i<a:=by
     rcases aNc i a with c | c | c
     .exact c
     .subst c; exact absurd (by rw [p2]; exact x1) d1
     .exact absurd p2 (N.no i c p1)
    show (true && eS sh row i j a)=true
    unfold eS
    rw [aGg OV,aGg vY,aGg (by rw [p2,x2])]
    rfl
 have nd:((Zi sh (row.getD a 0 % sh) (F a)).erase z).Nodup:=((o.nd a (by have:=D.1; lia)).sublist aN5).sublist erase_sublist
 have le:=zZ (a:=((Zi sh (row.getD a 0 % sh) (F a)).erase z).map λx=>(bE row a x).toNat) (b:=(List.range row.length).filter λj=>cj row F j && dU row (λi j=>eS sh row i j a) j) (EM nd λx hx y hy e=>?_) (λy hy=>?_)
 .rw [aAt,afg HA,← aDd] at le
  have:=aTm HA
  lia
 .obtain ⟨j,j1,j2,_⟩:=key x hx
  obtain ⟨k,k1,k2,_⟩:=key y hy
  rw [j1,k1] at e
  have e:j=k:=e
  rw [← j2,← k2,e]
 .obtain ⟨x,hx,rfl⟩:=aiy.mp hy
  obtain ⟨j,j1,_,j3⟩:=key x hx
  rw [j1]
  exact j3
theorem pD.two {ms:List Nat} (hl:row.length<=1000000) (g:pD sh row F 0 ms) (f:qI sh pl row F m) (o:iI sh pl row F m) {a b i j:Nat} (ha:a∈ms) (hb:b∈ms) (lt:a<b) (hj:j<row.length) (hp:dG row (row.getD j 0) j=some i) (hh:row.getD j 0∈F j) (h1:eS sh row i j a=true) (h2:eS sh row i j b=true):False:=by
 obtain ⟨p1,p2,p3⟩:=ZE hp
 unfold eS at h1 h2
 obtain ⟨c,c3⟩:=(ba6 _ _).mp h1
 obtain ⟨c1,c2⟩:=(ba6 _ _).mp c
 obtain ⟨c,e3⟩:=(ba6 _ _).mp h2
 obtain ⟨e1,e2⟩:=(ba6 _ _).mp c
 have c1:=a6b c1
 have c3:=a6b c3
 have e2:=a6b e2
 have e3:=a6b e3
 obtain ⟨z,jz,D,w⟩:=g.why a ha
 obtain ⟨d1,d2,d3,d4,d5⟩:=f.drop D
 have nz:=DT hl D.2.2.2
 have hs:=w b hb (by rw [e3,c3]) lt
 have xa:=o.stay (i:=i) (x:=row.getD j 0) (j - a) a c1 (by lia) (by rw [show a+(j - a)=j by lia]; exact hh) λk k1 k2=>p3 k k1 (by lia)
 have q:=d5 _ xa (by rw [c3,p2])
 rw [DT hl (⟨by lia,hj,rfl,λk k1 k2=>p3 k (by lia) k2⟩:Nx row a (row.getD j 0) j)] at q
 lia
theorem EC {p q r s:Nat->Bool}:∀ l:List Nat,(∀ x∈l,p x=true->(r x=true->q x=true/\s x=false)/\(s x=true->q x=true))->l.countP (λx=>p x && r x)+l.countP (λx=>p x && s x)<=l.countP λx=>p x && q x
 | [],_=>aNS _
 | x :: l,h=>by
  have ih:=EC l λy hy=>h y (amQ _ hy)
  simp only [aJW]
  have:=h x a5w
  cases hp:p x <;> cases hq:q x <;> cases hr:r x <;> cases hs:s x <;> simp_all <;> lia
theorem pD.marked {ms:List Nat} (hl:row.length<=1000000) (g:pD sh row F 0 ms) (f:qI sh pl row F m) (o:iI sh pl row F m):∀ l:List Nat,l.Nodup->(∀ x∈l,x∈ms)->(pl - 1) * l.length<=(((List.range row.length).countP λj=>cj row F j && dU row (λi j=>cW sh row l i j) j:Nat):Int)
 | [],_,_=>by
  show (pl - 1) * ((0:Nat):Int)<=_
  rw [Int.natCast_zero,Int.mul_zero]
  exact Int.natCast_nonneg _
 | a :: l,nd,h=>by
  obtain ⟨n1,n2⟩:=aG7.mp nd
  have h1:=g.over hl f o (h a a5w)
  have h2:=g.marked hl f o l n2 λx hx=>h x (amQ _ hx)
  have h3:=EC (p:=cj row F) (q:=dU row (λi j=>cW sh row (a :: l) i j)) (r:=dU row (λi j=>eS sh row i j a)) (s:=dU row (λi j=>cW sh row l i j)) (List.range row.length) (λx hm hx=>by
   have hx:row.getD x 0∈F x:=a6b hx
   unfold dU
   cases e:dG row (row.getD x 0) x with
   | none=>exact ⟨λz=>(nomatch z),λz=>(nomatch z)⟩
   | some i =>
    dsimp only
    have em:cW sh row (a :: l) i x=(eS sh row i x a || cW sh row l i x):=rfl
    rw [em]
    refine ⟨λca=>⟨by rw [ca]; rfl,?_⟩,λcb=>by rw [cb,Bool.or_true]⟩
    cases cb:cW sh row l i x with
    | false=>rfl
    | true =>
     obtain ⟨b,b1,b2⟩:=apZ.mp cb
     rcases aNc a b with lt | lt | lt
     .exact (g.two hl f o (h a a5w) (h b (amQ _ b1)) lt (aEj.mp hm) e hx ca b2).elim
     .subst lt; exact absurd b1 n1
     .exact (g.two hl f o (h b (amQ _ b1)) (h a a5w) lt (aEj.mp hm) e hx b2 ca).elim)
  rw [bc9,Int.natCast_succ,Int.mul_add,Int.mul_one]
  lia
theorem LB (hl:row.length<=1000000) (f:qI sh pl row F m) (o:iI sh pl row F m):∃ ms:List Nat,(∀ x∈ms,x<row.length)/\bP sh pl row ms<=(row.length:Int) - m row.length:=by
 obtain ⟨ms,g⟩:=IB sh row F row.length 0 (aPW _)
 refine ⟨ms,λx hx=>(g.ge x hx).2,?_⟩
 have h1:=o.cnt row.length (aNS _)
 have h2:=g.marked hl f o ms g.nd λ_ h=>h
 rw [kI]
 have h3:=EC (p:=cj row F) (q:=λ_=>true) (r:=dU row (λi j=>cW sh row ms i j)) (s:=jT sh row ms) (List.range row.length) (λx hm hx=>by
  unfold jT dU
  cases e:dG row (row.getD x 0) x with
  | none=>exact ⟨λz=>(nomatch z),λz=>(nomatch z)⟩
  | some i=>exact ⟨λz=>⟨rfl,by dsimp only at z ⊢; rw [z]; rfl⟩,λ_=>rfl⟩)
 have h4:(List.range row.length).countP (jT sh row ms)<=(List.range row.length).countP (λx=>cj row F x && jT sh row ms x):=List.countP_mono_left λx hm hx=>by
  refine (ba6 _ _).mpr ⟨?_,hx⟩
  unfold jT dU at hx
  cases e:dG row (row.getD x 0) x with
  | none=>rw [e] at hx; cases hx
  | some i =>
   rw [e] at hx
   refine aGg (axv λno=>?_)
   have:=g.miss f o (aEj.mp hm) e no
   dsimp only at hx
   rw [this] at hx
   cases hx
 have h5:(List.range row.length).countP (λx=>cj row F x && true)=(List.range row.length).countP (cj row F):=by simp only [Bool.and_true]
 lia
theorem Tg {os:List Nat} (hl:row.length<=1000000) (hp:1<=pl) (ho:os.Perm (iV sh pl row)) (hi:∀ x∈os,x<row.length):bP sh pl row os=(row.length:Int) - n9 sh pl row:=by
 obtain ⟨c,e⟩:=qy (sh:=sh) hp row row.length (aNS _)
 have o:=EN hp e
 obtain ⟨ms,h1,h2⟩:=LB hl (Jz hp) o
 have h3:=o.weak os hi
 have h4:=SW hp ho h1
 rw [E1 hp]
 try dsimp only at h2 h3
 lia
end
theorem Kn {sh:Int}:∀ (L M:List (Int×(Bool×Option Int))),L.map (·.1)=M.map (·.1)->(∀ c,(L.filter λx=>Zr sh x.1 c).map (·.2)=(M.filter λx=>Zr sh x.1 c).map (·.2))->L=M
 | [],[],_,_=>rfl
 | [],_ :: _,h,_=>by simp at h
 | _ :: _,[],h,_=>by simp at h
 | (x,u) :: L,(y,v) :: M,h,hc=>by
  rw [aWO,aWO] at h
  obtain ⟨e1,e2⟩:=List.cons.inj h
  have oX:x=y:=e1
  subst oX
  have h0:=hc x
  rw [aTO,aTO,atn (ZX sh x),atn (ZX sh x),aWO,aWO] at h0
  have Pu:u=v:=(List.cons.inj h0).1
  subst Pu
  congr 1
  refine Kn (sh:=sh) L M e2 λc=>?_
  have h1:=hc c
  rw [aTO,aTO] at h1
  by_cases q:Zr sh x c=true
  .rw [atn q,atn q,aWO,aWO] at h1
   exact (List.cons.inj h1).2
  .rw [amU q,amU q] at h1
   exact h1
theorem LA (sh pl:Int) (ru:Str) (c:Int) (row:List Int):((row.zip (gr sh pl ru row)).filter λx=>Zr sh x.1 c).map (·.2)=gr sh pl ru (part sh c row):=by
 have h:=(KZ sh pl ru c row row.length (aNS _)).2
 rw [afX] at h
 exact h.symm
theorem SS {xs:List V} {n:Nat} (h:xs.length=2 * n) (lo:Option Int) (o:Nat) (ho:(lo=none/\o=0)\/(lo=some 1/\o=1)):gM xs lo none (some 2)=(List.range n).filterMap λk=>xs[2 * k+o]?:=by
 unfold gM
 have e:sliceRange (sliceBounds lo none (some 2) xs.length).1 (sliceBounds lo none (some 2) xs.length).2.1 (sliceBounds lo none (some 2) xs.length).2.2=(List.range n).map λk=>2 * k+o:=by
  rw [h]
  rcases ho with ⟨rfl,rfl⟩ | ⟨rfl,rfl⟩
  .show sliceRange 0 ((2 * n:Nat):Int) 2=_
   unfold sliceRange
   have c:(if (2:Int) > 0 then (if (0:Int)<((2 * n:Nat):Int) then (((2 * n:Nat):Int) - 0+2 - 1) / 2 else 0) else (if (0:Int) > ((2 * n:Nat):Int) then ((0:Int) - ((2 * n:Nat):Int) - 2 - 1) / (-2) else 0)).toNat=n:=by
    rw [atn (by decide)]
    split <;> lia
   show (List.range (if (2:Int) > 0 then (if (0:Int)<((2 * n:Nat):Int) then (((2 * n:Nat):Int) - 0+2 - 1) / 2 else 0) else (if (0:Int) > ((2 * n:Nat):Int) then ((0:Int) - ((2 * n:Nat):Int) - 2 - 1) / (-2) else 0)).toNat).map (λk:Nat=>(0+2 * (k:Int)).toNat)=_
   rw [c]
   refine ars λk _=>by lia
  .have st:(sliceBounds (some 1) none (some 2) (2 * n))=((if n=0 then 0 else 1:Int),((2 * n:Nat):Int),2):=by
    show ((max 0 (min 1 ((2 * n:Nat):Int)):Int),((2 * n:Nat):Int),(2:Int))=_
    congr 1
    split
    .rename_i q; subst q; rfl
    .have:(1:Int)<=((2 * n:Nat):Int):=by lia
     rw [Int.min_eq_left this]; rfl
   rw [st]
   show (List.range (if (2:Int) > 0 then (if (if n=0 then 0 else 1:Int)<((2 * n:Nat):Int) then (((2 * n:Nat):Int) - (if n=0 then 0 else 1:Int)+2 - 1) / 2 else 0) else _).toNat).map (λk:Nat=>((if n=0 then 0 else 1:Int)+2 * (k:Int)).toNat)=_
   by_cases q:n=0
   .subst q; rfl
   .rw [amU q,atn (by decide)]
    have c:(if (1:Int)<((2 * n:Nat):Int) then (((2 * n:Nat):Int) - 1+2 - 1) / 2 else 0).toNat=n:=by split <;> lia
    rw [c]
    refine ars λk _=>by lia
 rw [e,List.filterMap_map]
 rfl
section
variable {sh pl:Int} {row:List Int}
theorem EB (row:List Int) {i:Nat} (h:i<row.length):row.reverse.getD i 0=row.getD (row.length - 1 - i) 0:=by
 rw [aPI,aPI,List.getElem?_reverse h]
theorem uw (row:List Int) {i:Nat} (h:i<row.length):row.reverse.getD (row.length - 1 - i) 0=row.getD i 0:=by
 rw [EB row (by lia),show row.length - 1 - (row.length - 1 - i)=i by lia]
theorem Jx {i j:Nat} (hj:j<row.length) (h:dG row (row.getD j 0) j=some i):dG row.reverse (row.reverse.getD (row.length - 1 - i) 0) (row.length - 1 - i)=some (row.length - 1 - j):=by
 obtain ⟨h1,h2,h3⟩:=ZE h
 have hi:i<row.length:=by lia
 rw [uw row hi]
 refine D7 (by lia) (by rw [uw row hj,h2]) λk k1 k2=>?_
 rw [EB row (by lia),h2]
 exact h3 _ (by lia) (by lia)
theorem QM {j k i:Nat} (h:dG row (row.getD j 0) j=some i) (g:dG row (row.getD k 0) k=some i):j=k:=by
 obtain ⟨h1,h2,h3⟩:=ZE h
 obtain ⟨g1,g2,g3⟩:=ZE g
 rcases aNc j k with c | c | c
 .exact absurd (by rw [← h2,g2]) (g3 j h1 c)
 .exact c
 .exact absurd (by rw [← g2,h2]) (h3 k g1 c)
theorem Jw {p q:Nat->Bool} (hp:∀ j,j<row.length->p j=true->∃ i,dG row (row.getD j 0) j=some i) (hq:∀ j i,j<row.length->dG row (row.getD j 0) j=some i->p j=true->q (row.length - 1 - i)=true):(List.range row.length).countP p<=(List.range row.length).countP q:=by
 refine EK (λj=>row.length - 1 - (dG row (row.getD j 0) j).getD 0) (λj hj h=>?_) λj k hj hk h g e=>?_
 .obtain ⟨i,e⟩:=hp j hj h
  rw [e]
  exact ⟨by show row.length - 1 - i<_; lia,hq j i hj e h⟩
 .obtain ⟨i,e1⟩:=hp j hj h
  obtain ⟨i',e2⟩:=hp k hk g
  rw [e1,e2] at e
  have e:row.length - 1 - i=row.length - 1 - i':=e
  have h1:=(ZE e1).1
  have h2:=(ZE e2).1
  have:i=i':=by lia
  subst this
  exact QM e1 e2
def nW (n:Nat) (ms:List Nat):List Nat:=ms.map λm=>n - 1 - m
theorem QL {n:Nat} {ms:List Nat} (h:∀ x∈ms,x<n):nW n (nW n ms)=ms:=by
 unfold nW
 rw [aPs]
 conv=>rhs; rw [← map_id ms]
 refine ars λx hx=>?_
 have:=h x hx
 show n - 1 - (n - 1 - x)=x
 lia
theorem IA {n:Nat} {ms:List Nat} (h:∀ x∈ms,x<n):∀ x∈nW n ms,x<n:=λx hx=>by
 obtain ⟨y,hy,rfl⟩:=aiy.mp hx
 have:=h y hy
 lia
theorem Qa {ms:List Nat} (h:∀ x∈ms,x<row.length):bP sh pl row ms<=bP sh pl row.reverse (nW row.length ms):=by
 rw [kI,kI]
 have hl:(nW row.length ms).length=ms.length:=aAt ..
 have c:=Jw (row:=row) (p:=jT sh row ms) (q:=jT sh row.reverse (nW row.length ms)) (λj hj h=>by
  unfold jT dU at h
  cases e:dG row (row.getD j 0) j with
  | none=>rw [e] at h; cases h
  | some i=>exact ⟨i,rfl⟩) λj i hj e hh=>by
  unfold jT dU at hh ⊢
  rw [e] at hh
  rw [Jx hj e]
  obtain ⟨h1,h2,h3⟩:=ZE e
  have hh:(!cW sh row ms i j)=true:=hh
  show (!cW sh row.reverse (nW row.length ms) (row.length - 1 - j) (row.length - 1 - i))=true
  have em:cW sh row.reverse (nW row.length ms) (row.length - 1 - j) (row.length - 1 - i)=cW sh row ms i j:=by
   unfold cW nW
   have key:∀ m∈ms,eS sh row.reverse (row.length - 1 - j) (row.length - 1 - i) (row.length - 1 - m)=true↔eS sh row i j m=true:=λm hm=>by
    have hm:=h m hm
    unfold eS
    rw [uw row hj,uw row hm,h2]
    simp only [ba6,a8m]
    constructor
    .rintro ⟨⟨a,b⟩,c⟩; exact ⟨⟨by lia,by lia⟩,c⟩
    .rintro ⟨⟨a,b⟩,c⟩; exact ⟨⟨by lia,by lia⟩,c⟩
   rw [any_map,aOQ,ayr,ayr]
   constructor
   .rintro ⟨m,hm,e⟩; exact ⟨m,hm,(key m hm).mp e⟩
   .rintro ⟨m,hm,e⟩; exact ⟨m,hm,(key m hm).mpr e⟩
  rw [em]; exact hh
 rw [aBw,hl]
 lia
theorem L4 (hl:row.length<=1000000) (hp:1<=pl):n9 sh pl row.reverse<=n9 sh pl row:=by
 have hl':row.reverse.length<=1000000:=by rw [aBw]; exact hl
 obtain ⟨c,e⟩:=qy (sh:=sh) hp row row.length (aNS _)
 obtain ⟨c',e'⟩:=qy (sh:=sh) hp row.reverse row.reverse.length (aNS _)
 obtain ⟨ms,h1,h2⟩:=LB hl' (Jz hp) (EN hp e')
 rw [aBw] at h1
 have q:=Qa (sh:=sh) (pl:=pl) (row:=row) (IA h1)
 rw [QL h1] at q
 have h3:=(EN hp e).weak _ (IA h1)
 rw [E1 hp,E1 hp]
 try dsimp only at h2 h3
 rw [aBw] at h2 ⊢
 lia
theorem Lz (hl:row.length<=1000000) (hp:1<=pl):n9 sh pl row.reverse=n9 sh pl row:=by
 have h1:=L4 (sh:=sh) (row:=row) hl hp
 have h2:=L4 (sh:=sh) (row:=row.reverse) (by rw [aBw]; exact hl) hp
 rw [aDT] at h2
 lia
theorem Ai {x:Int} {p t:Nat} (hp:p<=row.length):x∈seg row p t↔∃ m,t<=m/\m<p/\row.getD m 0=x:=by
 unfold seg
 rw [mem_reverse]
 constructor
 .intro h
  obtain ⟨k,hk⟩:=List.mem_iff_getElem?.mp h
  rw [aWI,List.getElem?_take] at hk
  split at hk
  .rename_i c
   exact ⟨t+k,by lia,c,by rw [aPI,hk]; rfl⟩
  .cases hk
 .rintro ⟨m,h1,h2,rfl⟩
  refine List.mem_iff_getElem?.mpr ⟨m - t,?_⟩
  rw [aWI,show t+(m - t)=m by lia,List.getElem?_take,atn h2,aPI,aDi (by lia)]
  rfl
theorem Jv {i j:Nat} (hj:j<row.length) (h:dG row (row.getD j 0) j=some i):bz sh row j=some ((dd ((seg row j (i+1)).filter λx=>Zr sh x (row.getD j 0))).length:Int):=by
 obtain ⟨h1,h2,h3⟩:=ZE h
 refine K2 rfl h1 ?_ (λm=>?_) (f9 _) λx=>cO
 .rw [← h2,aPI,aDi (by lia)]; rfl
 .obtain ⟨m,m1,m2,m3⟩:=(Ai (by lia)).mp m
  exact h3 m (by lia) m2 m3
theorem P9 {j:Nat} (hj:j<row.length) (h:dG row (row.getD j 0) j=none):bz sh row j=none:=K3 rfl λm=>by
 obtain ⟨m,m1,m2,m3⟩:=(Ai (by lia)).mp m
 exact xT h m m2 m3
theorem QK {i j:Nat} (hj:j<row.length) (h:dG row (row.getD j 0) j=some i):bz sh row.reverse (row.length - 1 - i)=bz sh row j:=by
 obtain ⟨h1,h2,h3⟩:=ZE h
 have r:=Jx hj h
 rw [Jv hj h,Jv (by rw [aBw]; lia) r]
 congr 2
 refine (((aGM (f9 _) (f9 _)).mpr λx=>?_).length_eq)
 rw [cO,cO,mem_filter,mem_filter,Ai (by rw [aBw]; lia),Ai (by lia),uw row (by lia:i<row.length),h2]
 refine and_congr ⟨?_,?_⟩ Iff.rfl
 .rintro ⟨m,m1,m2,m3⟩
  rw [EB row (by lia)] at m3
  exact ⟨row.length - 1 - m,by lia,by lia,m3⟩
 .rintro ⟨m,m1,m2,m3⟩
  exact ⟨row.length - 1 - m,by lia,by lia,by rw [uw row (by lia)]; exact m3⟩
def bQ (q:Int->Bool):Option Int->Bool
 | some d=>q d
 | none=>false
theorem LJ (q:Int->Bool):(List.range row.length).countP (λj=>bQ q (bz sh row j))<=(List.range row.length).countP λj=>bQ q (bz sh row.reverse j) :=
 Jw (λj hj h=>by
  cases e:dG row (row.getD j 0) j with
  | none=>rw [P9 hj e] at h; cases h
  | some i=>exact ⟨i,rfl⟩) λj i hj e h=>by rw [QK hj e]; exact h
theorem Ju (q:Int->Bool):(List.range row.reverse.length).countP (λj=>bQ q (bz sh row.reverse j))=(List.range row.length).countP λj=>bQ q (bz sh row j):=by
 have h1:=LJ (sh:=sh) (row:=row) q
 have h2:=LJ (sh:=sh) (row:=row.reverse) q
 rw [aDT] at h2
 rw [aBw] at h2 ⊢
 lia
theorem SQ (n:Nat):bB sh ((n:Int)+1) "old" row.reverse=bB sh ((n:Int)+1) "old" row:=by
 have e:∀ r:List Int,bB sh ((n:Int)+1) "old" r+(List.range r.length).countP (λj=>bQ (λd=>decide (d<(n:Int)+1)) (bz sh r j))=r.length:=λr=>by
  rw [Ss,Nat.add_comm]
  have q:=List.length_eq_countP_add_countP (λj=>bQ (λd=>decide (d<(n:Int)+1)) (bz sh r j)) (l:=List.range r.length)
  rw [aan] at q
  conv=>rhs; rw [q]
  congr 1
  refine aC6 λj _=>?_
  unfold bQ
  cases bz sh r j <;> simp
 have h1:=e row
 have h2:=e row.reverse
 rw [Ju,aBw] at h2
 lia
def DL (sh:Int) (row:List Int):List Int:=(cK sh row).filterMap id
theorem zL (v:Int):∀ l:List (Option Int),(l.filterMap id).count v=l.countP λo=>bQ (λd=>d == v) o
 | []=>rfl
 | none :: l=>by
  rw [abt,aJW,← zL v l]
  rfl
 | some d :: l=>by
  rw [abt,aJW,← zL v l]
  show (d :: l.filterMap id).count v=_
  rw [List.count_cons]
  rfl
theorem QJ:(DL sh row.reverse).Perm (DL sh row):=by
 rw [List.perm_iff_count]
 intro v
 unfold DL cK
 rw [zL,zL,amw,amw]
 exact Ju _
end
section
variable {sh pl:Int} {ru:Str} {row:List Int}
theorem SO {P:Int->Bool} (hP:∀ x y,Zr sh x y=true->P x=P y) (c:Int):part sh c (row.filter P)=if P c=true then part sh c row else []:=by
 unfold part
 rw [ac1]
 split
 .rename_i h
  refine aoc λx _=>?_
  cases e:Zr sh x c with
  | false=>rfl
  | true=>rw [hP x c e,h]; rfl
 .rename_i h
  refine auC.mpr λx _ e=>h ?_
  rw [ba6] at e
  rw [← hP x c e.1]; exact e.2
theorem Km {P:Int->Bool} (hP:∀ x y,Zr sh x y=true->P x=P y):(row.zip (gr sh pl ru row)).filter (λx=>P x.1)=(row.filter P).zip (gr sh pl ru (row.filter P)):=by
 refine Kn (sh:=sh) _ _ ?_ λc=>?_
 .rw [List.map_fst_zip (by rw [sy]; exact aNS _)]
  rw [show (λx:Int×(Bool×Option Int)=>P x.1)=P ∘ (·.1) from rfl,← filter_map,List.map_fst_zip (by rw [sy]; exact aNS _)]
 .rw [LA,SO hP,ac1]
  cases h:P c with
  | true =>
   rw [atn rfl,← LA]
   congr 1
   refine aoc λx _=>?_
   cases e:Zr sh x.1 c with
   | false=>rfl
   | true=>rw [hP _ c e,h]; rfl
  | false =>
   rw [amU aPi]
   rw [auC.mpr λx _ e=>?_]
   .exact (aWD (by rw [sy]; rfl)).symm
   .rw [ba6] at e
    rw [hP _ c e.1,h] at e
    cases e.2
theorem Vs {P:Int->Bool} (hP:∀ x y,Zr sh x y=true->P x=P y):bB sh pl ru row=bB sh pl ru (row.filter P)+bB sh pl ru (row.filter λx=>!P x):=by
 have m:∀ r:List Int,bB sh pl ru r=(r.zip (gr sh pl ru r)).countP λx=>!x.2.1:=λr=>by
  unfold bB
  conv=>lhs; rw [← List.map_snd_zip (l₁:=r) (l₂:=gr sh pl ru r) (by rw [sy]; exact aNS _)]
  rw [amw]
  rfl
 rw [m,m,m,← Km hP,← Km (P:=λx=>!P x) (λx y h=>by rw [hP x y h]),List.countP_eq_countP_filter_add _ _ λx=>P x.1]
def gB (sh b:Int):Int:=2 * sh * (b / sh % 70)+b % sh
def iE (sh:Int) (row:List Int):List Int:=row.flatMap λb=>[gB sh b,gB sh b+sh]
theorem P8 (h:1<=sh) (b:Int):gB sh b % (2 * sh)=b % sh/\(gB sh b+sh) % (2 * sh)=b % sh+sh:=by
 have r0:=agB b (by lia:sh≠0)
 have r1:=aDG b (by lia:0<sh)
 unfold gB
 refine ⟨?_,?_⟩
 .rw [Int.add_comm,Int.add_mul_emod_self_left,Int.emod_eq_of_lt r0 (by lia)]
 .rw [Int.add_assoc,Int.add_comm,Int.add_mul_emod_self_left,Int.emod_eq_of_lt (by lia) (by lia)]
theorem Kl (h:1<=sh):∀ row:List Int,(iE sh row).filter (λx=>decide (x % (2 * sh)<sh))=row.map (gB sh)/\(iE sh row).filter (λx=>!decide (x % (2 * sh)<sh))=row.map λb=>gB sh b+sh
 | []=>⟨rfl,rfl⟩
 | b :: r=>by
  obtain ⟨i1,i2⟩:=Kl h r
  obtain ⟨m1,m2⟩:=P8 h b
  have r0:=agB b (by lia:sh≠0)
  have r1:=aDG b (by lia:0<sh)
  have e:iE sh (b :: r)=gB sh b :: (gB sh b+sh) :: iE sh r:=rfl
  rw [e]
  simp only [aTO,m1,m2,i1,i2]
  refine ⟨?_,?_⟩
  .rw [atn (aGg r1),amU (by rw [aWh (by lia)]; exact aPi)]; rfl
  .rw [amU (by rw [aGg r1]; exact aPi),atn (by rw [aWh (by lia)]; rfl)]; rfl
theorem QI (h:1<=sh):bB (2 * sh) pl ru (iE sh row)=bB (2 * sh) pl ru (row.map (gB sh))+bB (2 * sh) pl ru (row.map λb=>gB sh b+sh):=by
 have q:=Vs (sh:=2 * sh) (pl:=pl) (ru:=ru) (row:=iE sh row) (P:=λx=>decide (x % (2 * sh)<sh)) λx y e=>by
  rw [aA] at e
  show decide _=decide _
  rw [e]
 obtain ⟨i1,i2⟩:=Kl h row
 rw [i1,i2] at q
 exact q
theorem DR:(iE sh row).length=2 * row.length:=by
 unfold iE
 induction row with
 | nil=>rfl
 | cons b r ih=>rw [List.flatMap_cons,aUV,ih]; show 2+2 * r.length=2 * (r.length+1); lia
theorem QH (h:row[i]?=some b):iE sh (row.take (i+1))=iE sh (row.take i)++[gB sh b,gB sh b+sh]:=by
 unfold iE
 rw [avq,h,List.flatMap_append]
 rfl
theorem jL:∀ {row:List Int} {k:Nat},(iE sh row)[2 * k]?=(row[k]?).map (gB sh)/\(iE sh row)[2 * k+1]?=(row[k]?).map λb=>gB sh b+sh
 | [],k=>⟨rfl,rfl⟩
 | b :: r,0=>⟨rfl,rfl⟩
 | b :: r,k+1=>by
  obtain ⟨i1,i2⟩:=jL (row:=r) (k:=k)
  exact ⟨i1,i2⟩
theorem Jt {α:Type} (xs:List α):∀ n,(List.range n).filterMap (xs[·]?)=xs.take n
 | 0=>rfl
 | n+1=>by
  rw [ahI,a4k,Jt xs n,avq]
  congr 1
theorem Js (o:Nat) (g:Int->Int) (lo:Option Int) (ho:(lo=none/\o=0)\/(lo=some 1/\o=1)) (hg:∀ k,(iE sh row)[2 * k+o]?=(row[k]?).map g):gM ((iE sh row).map V.int) lo none (some 2)=(row.map g).map V.int:=by
 rw [SS (n:=row.length) (by rw [aAt,DR]) lo o ho]
 have e:(λk=>((iE sh row).map V.int)[2 * k+o]?)=λk=>((row[k]?).map λb=>V.int (g b)):=by
  funext k
  rw [aYu,hg,Option.map_map]
  rfl
 rw [e,← List.map_filterMap,Jt,afX,aPs]
 rfl
theorem nu (h:1<=sh) (h2:sh<=32) (b:Int):0<=gB sh b/\gB sh b+sh<=9999:=by
 have r0:=agB b (by lia:sh≠0)
 have r1:=aDG b (by lia:0<sh)
 have q0:=agB (b / sh) (by lia:(70:Int)≠0)
 have q1:=aDG (b / sh) (by lia:(0:Int)<70)
 unfold gB
 generalize b / sh % 70=k at *
 have a1:0<=2 * sh * k:=Int.mul_nonneg (by lia) q0
 have a2:2 * sh * k<=64 * 69:=Int.mul_le_mul (by lia) (by lia) q0 (by lia)
 lia
end
section
def Jr (K:W.Frag):Sp:=λvs H Q _=>∃ (b:Addr) (a q c:Int),vs=[.ref b]/\aT H b a q c/\c<300000000/\Tb K H/\∀ H',SB b H H'->Q (.bl true) H'
theorem SN (F:bO K "_law_right" "_law_right" uf f fd) (T:Txt K mg) (Bb:Def P w K mg base "_law_shape" 2 Es JQ) (Ba:Def P w K mg base "_law_asked" 3 Ep JP) (zc:Def P w K mg base "least_misses" 9 Gn (JY K)) (M8:∀ n,Def P w K mg base "_law_same" (n+1) qw (Aq n)) (A9:Def P w K mg base "bound" 3 Eu (pV K)) (Bh:Def P w K mg base "marks_of" 3 FG (pQ K)) (sW:Def P w K mg base "misses" 8 E9 (IM K)) (zd:Def P w K mg base "beneath" 3 Fe (pW K)):aH P w K mg base bI 10 f fd Eo (Jr K):=by
 refine F.ok ja (λvs H Q E h=>?_) (λcdv A outer st H vs Q E hr h=>?_)
 .obtain ⟨b,a,q,c,rfl,_⟩:=h
  rfl
 obtain ⟨b,a,q,c,rfl,B,hc,tb,k⟩:=h
 have mK:tabOf K "Room" "going" ≠ b:=p9 tb B.1 (by intro z; cases z)
 have nd:=ja.nd
 have hu:=cY hr
 have uM:=M8 0
 refine ⟨_,(Ze (o7 (Zm Bb hr.m rfl (pc (pv 0) Zd)) (kJ (K:=K) (n:=3) rfl rfl (Zt (bS 1 nd) (Zt (bS 2 nd) (Zt (bS 3 nd) kK)))))
   (Ze (bM 4 nd (Zm Ba hr.m rfl (pc (pv 0) (pc Zh (pc Zh Zd)))))
   (Ze (bM 5 nd (yi (F3 (K:=K) rfl) rfl T.nU ZY (pc (pv 4) Zd)))
   (Ze (bM 6 nd (xY (K:=K) rfl (pv 4) ou ou (pB (cG lB Zh))))
   (Ze (bM 7 nd (Zm zc hr.m rfl (pc (pv 1) (pc (pv 2) (pc (pv 4) Zd)))))
   (Ze (aO (se (lD (Zm uM hr.m rfl (pc (Zm zc hr.m rfl (pc (pv 1) (pc (pv 2) (pc (pv 6) Zd)))) (pc (pv 7) Zd))))) (Zj (Zs fk)) Zw)
   (Ze (aO (Zu kr (Zm A9 hr.m rfl (pc (pv 1) (pc (pv 2) (pc (pv 6) (pc (Zm Bh hr.m rfl (pc (pv 1) (pc (pv 2) (pc (pv 6) Zd)))) Zd))))) (aa lC (Zk (Zn (K:=K) rfl) rfl T.fZ aTr (pc (pv 4) Zd)) (pv 7)) (Zx _)) (Zj (Zs fk)) Zw)
   (Ze (aO (Zu kr (Zm sW hr.m rfl (pc (pv 1) (pc (pv 2) (pc sf (pc (pv 6) Zd))))) (Zm sW hr.m rfl (pc (pv 1) (pc (pv 2) (pc sf (pc (pv 4) Zd))))) (Zx _)) (Zj (Zs fk)) Zw)
   (Ze (KN 8 (Zy (eV:=(Zg uf)) (oN:=fE) (N:=["_law_one"]) (own:=1) (js:=[]) (by decide +kernel) rfl rfl) rfl nd rfl rfl (oj (K:=K) rfl (Zm zd hr.m rfl (pc (pv 1) (pc (pv 4) Zd)))) (λ_ _ _ _ _ _=>(bS 0 (show List.Nodup (["_law_one"]:List Str) by decide +kernel))) (λ_ _ _ _ _ _=>(ud (Ah (pv 0)))) (λ_ _ _ _ _ _=>(pv 0)))
   (Ze (aO (Zu (Jg (K:=K) (Nat.lt_of_succ_lt hu) rfl) (Zk (FY (K:=K) rfl) rfl T.sZ a46 (pc (pv 8) Zd)) (Zk (FY (K:=K) rfl) rfl T.sZ a46 (pc (EY (Zy (eV:=(Zg uf)) (oN:=fE) (N:=["_law_one"]) (own:=1) (js:=[]) (by decide +kernel) rfl rfl) rfl (oj (K:=K) rfl (Zm zd hr.m rfl (pc (pv 1) (pc (pv 6) Zd)))) (λ_ _ _ _ _ _=>(bS 0 (show List.Nodup (["_law_one"]:List Str) by decide +kernel))) (λ_ _ _ _ _ _=>(ud (Ah (pv 0)))) (λ_ _ _ _ _ _=>(pv 0))) Zd)) (Zx _)) (Zj (Zs fk)) Zw)
   (Ze (aO (Zu p6 (pv 1) Zh (Zx _)) (Zj (Zs fk)) Zw)
   (Ze (bM 9 nd (ZT Zd))
   (Ze (lS aVe rfl (oj (K:=K) rfl (pv 4)) (bS 10 nd) (Ze (bM 11 nd (aa ZO (aa ju (aa ju Zh (pv 1)) (aa i7 (aa um (pv 10) (pv 1)) Zh)) (aa i7 (pv 10) (pv 1))))
   (Zj (Zz (jt (K:=K) rfl (bK aqK PySem.F.slot_list_extend PySem.F.type_list_extend UB (pv 9) (pc (ZT (pc (pv 11) (pc (aa ZO (pv 11) (pv 1)) Zd))) Zd)))))))
   (Ze (xZ 12 (Zy (eV:=(Zg uf)) (oN:=fE) (N:=["_law_part", "_law_places", "_law_rule", "_law_shelves"]) (own:=1) (js:=[2,3,1]) (by decide +kernel) rfl rfl) rfl nd rfl rfl (RU (K:=K) rfl (lu (pc (xY (K:=K) rfl (pv 9) ou ou (pB Zh)) (pc (xY (K:=K) rfl (pv 9) (pB Zh) ou (pB Zh)) Zd)))) (λ_ _ _ _ _ _=>(bS 0 (show List.Nodup (["_law_part", "_law_places", "_law_rule", "_law_shelves"]:List Str) by decide +kernel))) (λ_ _ _ _ _ _=>(Zm sW hr.m rfl (pc (aa ju Zh (pv 3)) (pc (pv 1) (pc (pv 2) (pc (pv 0) Zd)))))))
   (Ze (aO (Zu (Jg (K:=K) (Nat.lt_of_succ_lt hu) rfl) (pv 4) (pv 5) (Zx _)) (Zj (Zs fk)) Zw)
   (Zj (Zs (nI br (Zm sW hr.m rfl (pc (aa ju Zh (pv 1)) (pc (pv 2) (pc (pv 3) (pc (pv 9) Zd))))) (Zk (Uw rfl) rfl T.A4 TU (pc (pv 12) Zd)) (Zx _))))))))))))))))))),?_⟩
 refine hide λu1 ee=>?_
 refine ⟨_,rfl,b,a,q,c,rfl,B,by lia,λp sh pl ru a1 c1 H1 e1 jD nT nV gK m6 B1 hc1 s1=>⟨p,_,rfl,bG.of e1,rfl,_,_,rfl,gN ⟨_,_,rfl,gN ⟨_,_,rfl,gN ⟨rfl,?_⟩⟩⟩⟩⟩
 subst ee
 try dsimp only
 refine hide λu1 ee=>?_
 refine ⟨_,rfl,b,a1,q,c1,40,100,rfl,B1,by lia,by decide,by decide,by decide,λlr row a2 c2 H2 hlr e2 mS bd B2 hc2 s2=>gN ?_⟩
 subst ee
 try dsimp only
 have u2:=s1.trans s2
 refine hide λu1 ee=>?_
 refine ⟨_,rfl,lr,_,rfl,.inl (ak.of e2),λlk hlk=>gN ?_⟩
 have g4:=Zf hlk (.lst (row.map V.int)) _ _ e2
 have g5:upd H2 lk (.lst (row.map V.int)) lk=some (.lst (row.map V.int)):=Za
 have u5:SB b H (upd H2 lk (.lst (row.map V.int))):=u2.trans ((Zf hlk _).sb b)
 have Nd:Tb K (upd H2 lk (.lst (row.map V.int))):=u5 _ _ mK tb
 subst ee
 try dsimp only
 generalize upd H2 lk (.lst (row.map V.int))=H5 at *
 have Oz:row.length<=100:=by lia
 clear s1 s2 u2 B B1 B2 e1 e2 hlr hlk mS
 have CM:row.reverse.length=row.length:=aBw
 have DM:j5 9999 row.reverse:=λx hx=>bd x (List.mem_reverse.mp hx)
 refine hide λu1 ee=>?_
 refine ⟨_,rfl,1,rfl,_,rfl,lr,_,rfl,ak.of g4,by decide,(by rw [uD,aBw,aAt]; exact aRN (Zo (by lia))),λlt hlt=>gN ?_⟩
 rw [uD,← map_reverse]
 subst ee
 try dsimp only
 have s6:=Zf hlt (.lst (row.reverse.map V.int))
 have gt:upd H5 lt (.lst (row.reverse.map V.int)) lt=some (.lst (row.reverse.map V.int)):=Za
 generalize upd H5 lt (.lst (row.reverse.map V.int))=H6 at *
 have g4:=s6 _ _ g4
 have g5:=s6 _ _ g5
 have u6:=u5.trans (s6.sb b)
 have Nc:Tb K H6:=u6 _ _ mK tb
 clear u5 Nd s6 hlt
 have wN:row.length<=1000000:=by lia
 refine hide λu1 ee=>?_
 refine ⟨_,rfl,_,rfl,_,rfl,sh,pl,lr,row,rfl,ak.of g4,jD,nT,nV,gK,by lia,bd,λH7 t7=>gN ?_⟩
 subst ee
 try dsimp only
 refine hide λu1 ee=>?_
 refine ⟨_,rfl,_,rfl,_,rfl,sh,pl,lt,row.reverse,rfl,ak.of (t7 _ _ gt),jD,nT,nV,gK,by lia,DM,λH8 t8=>?_⟩
 rw [Lz wN nV]
 refine ⟨_,rfl,_,_,rfl,⟨rfl,trivial⟩,λH9 t9=>⟨_,rfl,b9 rfl ?_⟩⟩
 subst ee
 try dsimp only [gG]
 have vC:=t7.trans (t8.trans t9)
 have g4:=vC _ _ g4
 have g5:=vC _ _ g5
 have gt:=vC _ _ gt
 have u9:=u6.trans (vC.sb b)
 have Nb:Tb K H9:=u9 _ _ mK tb
 clear t7 t8 t9 vC Nc u6
 refine hide λu1 ee=>?_
 refine ⟨_,rfl,_,rfl,_,rfl,_,rfl,_,rfl,_,rfl,sh,pl,lt,row.reverse,rfl,ak.of gt,jD,by lia,λlm GB os ng vD Ik po pw=>?_⟩
 obtain ⟨mi,ml⟩:=we po
 have st:=Tg (by lia) nV po mi
 rw [Lz wN nV,CM] at st
 refine ⟨sh,pl,lt,lm,row.reverse,os,rfl,ak.of (vD _ _ gt),ak.of Ik,jD,by lia,mi,by lia,λMs BR=>?_⟩
 rw [st]
 have kU:=vD.trans BR
 refine ⟨_,rfl,lr,_,rfl,.inl (ak.of (kU _ _ g4)),_,rfl,_,_,rfl,rfl,rfl,_,rfl,b9 (by rw [aAt]; simp) ?_⟩
 subst ee
 try dsimp only [gG]
 have g4:=kU _ _ g4
 have g5:=kU _ _ g5
 have gt:=kU _ _ gt
 have Bq:=u9.trans (kU.sb b)
 have qK:Tb K Ms:=Bq _ _ mK tb
 clear vD BR kU Ik po pw mi ml st Nb u9
 obtain ⟨n,en⟩:∃ n:Nat,pl=(n:Int)+1:=⟨(pl - 1).toNat,by lia⟩
 refine hide λu1 ee=>?_
 refine ⟨_,rfl,_,rfl,_,rfl,sh,pl, "old",lt,row.reverse,rfl,ak.of gt,jD,nT,nV,gK,.inl rfl,by lia,DM,qK,λXI yT=>?_⟩
 refine ⟨_,rfl,_,rfl,_,rfl,sh,pl, "old",lr,row,rfl,ak.of (yT _ _ g4),jD,nT,nV,gK,.inl rfl,by lia,bd,yT _ _ qK,λWJ GQ=>⟨rfl,_,rfl,b9 (by rw [en,SQ]; simp) ?_⟩⟩
 subst ee
 try dsimp only [gG]
 have s1:=yT.trans GQ
 have g4:=s1 _ _ g4
 have g5:=s1 _ _ g5
 have gt:=s1 _ _ gt
 have Bp:=Bq.trans (s1.sb b)
 have Bu:Tb K WJ:=Bp _ _ mK tb
 clear yT GQ s1 qK Bq
 have bl:∀ r:List Int,(cK sh r).length=r.length:=λr=>QZ sh r
 refine hide λu1 ee=>?_
 refine ⟨_,rfl,_,rfl,sh,lr,row,rfl,ak.of g4,jD,nT,by lia,bd,λlb WI hlb GY Dy=>⟨lb,rfl,⟨_,ak.of Dy⟩,λl1 hl1=>?_⟩⟩
 refine o9 (K:=K) (a:=lb) (xs:=(cK sh row).map bg) (l:=l1) (λi ys σ G=>∃ v0:Option V,σ=[v0]/\ys=(((cK sh row).take i).filterMap id).map V.int/\G l1=some (.lst ys)/\aq WI G)
  ⟨none,rfl,rfl,Za,Zf hl1 _⟩ (λi ys σ G _ h=>by obtain ⟨_,_,_,_,s⟩:=h; exact ak.of (s _ _ Dy)) ?_ ?_
 .rintro i x ys σ G hi hx hys ⟨v0,rfl,rfl,gl,s1⟩
  obtain ⟨o,eo,rfl⟩:∃ o,(cK sh row)[i]?=some o/\x=bg o:=by
   rw [aYu] at hx
   cases e:(cK sh row)[i]? with
   | none=>rw [e] at hx; cases hx
   | some o=>rw [e] at hx; exact ⟨o,rfl,(ado hx).symm⟩
  have tk:((cK sh row).take (i+1)).filterMap id=((cK sh row).take i).filterMap id++o.toList:=by
   rw [avq,eo,a4k]
   cases o <;> rfl
  cases o with
  | none =>
   rw [show (none:Option Int).toList=[] from rfl,amK] at tk
   exact ⟨_,rfl,_,rfl,b9 rfl (lJ.of hi hys ⟨_,rfl,by rw [tk],gl,s1⟩)⟩
  | some d=>exact ⟨_,rfl,_,rfl,dh rfl ⟨_,rfl,eX.of (aRN (Zo (by rw [aAt,bl]; lia))) hi hys gl ⟨_,rfl,by rw [tk,awR]; rfl,Za,λx o e=>by rw [Zc (Zb e hl1)]; exact s1 _ _ e⟩⟩⟩
 rintro ys σ G _ ⟨v0,rfl,rfl,gl,GX⟩
 rw [aAt,afX] at gl
 refine gN ?_
 subst ee
 try dsimp only
 have s1:=GY.trans GX
 have g4:=s1 _ _ g4
 have g5:=s1 _ _ g5
 have gt:=s1 _ _ gt
 have Bo:=Bp.trans (s1.sb b)
 have Bt:Tb K G:=Bo _ _ mK tb
 clear GY GX s1 Dy hlb Bu Bp
 have Iq:∀ r:List Int,((cK sh r).filterMap id).length<=r.length:=λr=>by
  have:=List.length_filterMap_le id (cK sh r)
  rw [bl] at this; exact this
 have PV:=Iq row
 have PU:=Iq row.reverse
 refine hide λu1 ee=>?_
 refine ⟨_,rfl,l1,_,rfl,ak.of gl,by lia,λD os hD po pw=>?_⟩
 have BQ:=Zf hD (.lst (os.map V.int))
 have eD:=Za (H:=G) (a:=D) (o:=.lst (os.map V.int))
 generalize upd G D (.lst (os.map V.int))=XH at *
 refine ⟨_,rfl,_,rfl,sh,lt,row.reverse,rfl,ak.of (BQ _ _ gt),jD,nT,by lia,DM,λlb WH hlb GW Dw=>⟨lb,rfl,⟨_,ak.of Dw⟩,λl2 hl2=>?_⟩⟩
 refine o9 (K:=K) (a:=lb) (xs:=(cK sh row.reverse).map bg) (l:=l2) (λi ys σ G=>∃ v0:Option V,σ=[v0]/\ys=(((cK sh row.reverse).take i).filterMap id).map V.int/\G l2=some (.lst ys)/\aq WH G)
  ⟨none,rfl,rfl,Za,Zf hl2 _⟩ (λi ys σ G _ h=>by obtain ⟨_,_,_,_,s⟩:=h; exact ak.of (s _ _ Dw)) ?_ ?_
 .rintro i x ys σ G hi hx hys ⟨v0,rfl,rfl,gl,s1⟩
  obtain ⟨o,eo,rfl⟩:∃ o,(cK sh row.reverse)[i]?=some o/\x=bg o:=by
   rw [aYu] at hx
   cases e:(cK sh row.reverse)[i]? with
   | none=>rw [e] at hx; cases hx
   | some o=>rw [e] at hx; exact ⟨o,rfl,(ado hx).symm⟩
  have tk:((cK sh row.reverse).take (i+1)).filterMap id=((cK sh row.reverse).take i).filterMap id++o.toList:=by
   rw [avq,eo,a4k]
   cases o <;> rfl
  cases o with
  | none =>
   rw [show (none:Option Int).toList=[] from rfl,amK] at tk
   exact ⟨_,rfl,_,rfl,b9 rfl (lJ.of hi hys ⟨_,rfl,by rw [tk],gl,s1⟩)⟩
  | some d=>exact ⟨_,rfl,_,rfl,dh rfl ⟨_,rfl,eX.of (aRN (Zo (by rw [aAt,bl]; lia))) hi hys gl ⟨_,rfl,by rw [tk,awR]; rfl,Za,λx o e=>by rw [Zc (Zb e hl2)]; exact s1 _ _ e⟩⟩⟩
 rintro ys σ G2 _ ⟨v0,rfl,rfl,Dn,GV⟩
 rw [aAt,afX] at Dn
 refine ⟨l2,_,rfl,ak.of Dn,by lia,λD2 vP HU G6 G5=>?_⟩
 have BP:=GW.trans (GV.trans (Zf HU (.lst (vP.map V.int))))
 have Ij:=Za (H:=G2) (a:=D2) (o:=.lst (vP.map V.int))
 generalize upd G2 D2 (.lst (vP.map V.int))=Mr at *
 have eo:os=vP:=List.Perm.eq_of_pairwise (λa b _ _ h1 h2=>Int.le_antisymm h1 h2) pw G5 (po.trans ((QJ (sh:=sh) (row:=row)).symm.trans G6.symm))
 refine ⟨D,D2,os,vP,rfl,rfl,ak.of (BP _ _ eD),ak.of Ij,_,rfl,b9 (by rw [eo]; simp) ?_⟩
 subst ee
 try dsimp only [gG]
 have s1:=BQ.trans BP
 have g4:=s1 _ _ g4
 have g5:=s1 _ _ g5
 have yL:=Bo.trans (s1.sb b)
 have Bs:Tb K Mr:=yL _ _ mK tb
 clear BQ GW GV BP s1 gt gl Dn Dw eD Ij po G6 pw G5 eo Bt Bo hD HU PV PU
 refine hide λu1 ee=>?_
 refine ⟨_,rfl,_,_,rfl,rfl,_,rfl,ZJ (λz=>?_) (λz=>?_)⟩
 .exact k _ yL
 subst ee
 try dsimp only [gG]
 refine ⟨(sl 0),λlm ng=>gN ?_⟩
 try dsimp only
 refine hide λu1 ee=>?_
 refine ⟨_,rfl,lr,rfl,⟨_,ak.of (Zf ng (.lst []) _ _ g4)⟩,Td (K:=K) (a:=lr) (xs:=row.map V.int) (λi σ G=>∃ v10 v11 Bk:Option V,σ=[some (.ref b),some (.int sh),some (.int pl),some (.str ru),some (.ref lr),some (.ref lk),some (.ref lt),some (.int (n9 sh pl row)),some (.ref l1),some (.ref lm),v10,v11,Bk]/\G lm=some (.lst ((iE sh (row.take i)).map V.int))/\aq Mr G)
  ⟨_,_,_,rfl,Za,Zf ng _⟩ (λi σ G _ h=>by obtain ⟨_,_,_,_,_,s⟩:=h; exact ak.of (s _ _ g4)) ?_ ?_⟩
 .rintro i x σ G2 hx ⟨v10,v11,Bk,rfl,gm,s1⟩
  obtain ⟨y,ey,rfl⟩:=sA hx
  refine gN ?_
  try dsimp only
  have XD:(64:Int)<2 ^ 64:=by decide
  have hi:i<row.length:=(aw7.mp ey).1
  refine ⟨_,rfl,_,_,rfl,rfl,.inl ⟨by decide,by decide⟩,_,rfl,_,rfl,_,_,rfl,rfl,⟨by lia,by lia⟩,_,_,rfl,rfl,(by show (0:Int)<70; decide),_,_,rfl,rfl,.inl ⟨by lia,by lia⟩,_,rfl,_,rfl,_,_,rfl,rfl,by lia,_,_,rfl,rfl,gN ?_⟩
  try dsimp only
  rw [show 2 * sh * (y / sh % 70)+y % sh=gB sh y from rfl]
  refine ⟨_,rfl,.inl ⟨rfl,_,ak.of gm⟩,_,rfl,_,rfl,_,rfl,_,_,rfl,rfl,(sl 2),λlp C8=>?_⟩
  have ne:lm≠lp:=Zb gm C8
  refine ⟨lm,lp,_,_,rfl,rfl,Zf C8 _ _ _ gm,Za,?_,?_⟩
  .rw [aAt,DR,a9v]
   exact aRN (Zo (by show 2 * _+2<=1000; lia))
  .refine ⟨_,_,_,rfl,?_,λx o e=>?_⟩
   .rw [Za,QH ey,awR]; rfl
   .rw [Zc (Zb e ng)]
    exact Zf C8 _ _ _ (s1 _ _ e)
 rintro σ G2 ⟨v10,v11,Bk,rfl,gm,s1⟩
 subst ee
 try dsimp only
 rw [aAt,afX] at gm
 have g4:=s1 _ _ g4
 have g5:=s1 _ _ g5
 have Bm:=yL.trans (s1.sb b)
 have Br:Tb K G2:=Bm _ _ mK tb
 clear s1 Bs yL ng
 have ml:(iE sh row).length=2 * row.length:=DR
 have pe:=Js (sh:=sh) (row:=row) 0 (gB sh) none (.inl ⟨rfl,rfl⟩) λk=>jL.1
 have po:=Js (sh:=sh) (row:=row) 1 (λb=>gB sh b+sh) (some 1) (.inr ⟨rfl,rfl⟩) λk=>jL.2
 have l4:∀ g:Int->Int,((row.map g).map V.int).length<=sizeLine:=λg=>by rw [aAt,aAt]; exact aRN (Zo (by lia))
 refine hide λu1 ee=>?_
 refine ⟨_,rfl,_,rfl,lm,_,rfl,ak.of gm,by decide,by rw [pe]; exact l4 _,λla hla=>?_⟩
 rw [pe]
 have BO:=Zf hla (.lst ((row.map (gB sh)).map V.int))
 have ea:=Za (H:=G2) (a:=la) (o:=.lst ((row.map (gB sh)).map V.int))
 generalize upd G2 la (.lst ((row.map (gB sh)).map V.int))=Mq at *
 refine ⟨_,rfl,_,rfl,_,rfl,lm,_,rfl,ak.of (BO _ _ gm),by decide,by rw [po]; exact l4 _,λlo hlo=>⟨(sl 2),λtp htp=>?_⟩⟩
 rw [po] at htp ⊢
 have BN:=Zf hlo (.lst ((row.map λb=>gB sh b+sh).map V.int))
 have eo:=Za (H:=Mq) (a:=lo) (o:=.lst ((row.map λb=>gB sh b+sh).map V.int))
 generalize upd Mq lo (.lst ((row.map λb=>gB sh b+sh).map V.int))=Mp at *
 have yV:=Zf htp (.tup [.ref la,.ref lo])
 have et:=Za (H:=Mp) (a:=tp) (o:=.tup [.ref la,.ref lo])
 generalize upd Mp tp (.tup [.ref la,.ref lo])=Mm at *
 have qM:=BO.trans (BN.trans yV)
 have gm:=qM _ _ gm
 have g4:=qM _ _ g4
 have g5:=qM _ _ g5
 have GH:=Bm.trans (qM.sb b)
 have uP:Tb K Mm:=GH _ _ mK tb
 have ea:=yV _ _ (BN _ _ ea)
 have eo:=yV _ _ eo
 clear qM BO BN yV hla hlo htp pe po l4 Br Bm
 refine ⟨tp,rfl,⟨_,bG.of et⟩,λlz qi=>?_⟩
 have hm:=QI (sh:=sh) (pl:=pl) (ru:=ru) (row:=row) jD
 have Hw:(row.map (gB sh)).length<=400:=by rw [aAt]; lia
 have lo1:(row.map λb=>gB sh b+sh).length<=400:=by rw [aAt]; lia
 have ba:j5 9999 (row.map (gB sh)):=λx hx=>by
  obtain ⟨y,_,rfl⟩:=aiy.mp hx
  have:=nu (sh:=sh) jD (by lia) y
  lia
 have bo:j5 9999 (row.map λb=>gB sh b+sh):=λx hx=>by
  obtain ⟨y,_,rfl⟩:=aiy.mp hx
  have:=nu (sh:=sh) jD (by lia) y
  show 0<=gB sh y+sh/\gB sh y+sh<=9999
  lia
 have bm:j5 9999 (iE sh row):=λx hx=>by
  obtain ⟨y,_,hy⟩:=a4J.mp hx
  have:=nu (sh:=sh) jD (by lia) y
  rcases ac0.mp hy with rfl | hy
  .lia
  .rw [aBr.mp hy]; lia
 have Hu:∀ r:List Int,r.length<=400->bB (2 * sh) pl ru r<=400:=λr h=>ay9 (ay9 List.countP_le_length (Nat.le_of_eq (sy ..))) h
 have ma:=Hu _ Hw
 have mo:=Hu _ lo1
 obtain ⟨A,eA⟩:∃ A,A=bB (2 * sh) pl ru (row.map (gB sh)):=⟨_,rfl⟩
 obtain ⟨C,eC⟩:∃ C,C=bB (2 * sh) pl ru (row.map λb=>gB sh b+sh):=⟨_,rfl⟩
 refine TQ (K:=K) (a:=tp) (xs:=[V.ref la,V.ref lo]) (l:=lz) (λi ys σ G=>∃ v0:Option V,σ=[v0,some (.int pl),some (.str ru),some (.int sh)]/\ys=([(A:Int),(C:Int)].take i).map V.int/\G lz=some (.lst ys)/\aq Mm G)
  ⟨none,rfl,rfl,Za,Zf qi _⟩ (λi ys σ G _ h=>by obtain ⟨_,_,_,_,s⟩:=h; exact bG.of (s _ _ et)) ?_ ?_
 .rintro i x ys σ G hi hx hys ⟨v0,rfl,rfl,gl,s1⟩
  have sm:([V.ref la,V.ref lo]:List V).length<=sizeLine:=by show 2<=sizeLine; decide
  have hi2:i<2:=hi
  have oB:Tb K G:=s1 _ _ uP
  rcases (show i=0\/i=1 by lia) with rfl | rfl
  .have hx:V.ref la=x:=by simpa using hx
   subst hx
   refine ⟨_,rfl,_,_,rfl,rfl,.inl ⟨by decide,by decide⟩,_,rfl,_,rfl,_,rfl,2 * sh,pl,ru,la,_,rfl,ak.of (s1 _ _ ea),by lia,by lia,nV,gK,m6,Hw,ba,oB,λH5 t5=>?_⟩
   rw [← eA]
   exact eX.of sm hi hys (t5 _ _ gl) ⟨_,rfl,rfl,Za,λx o e=>by rw [Zc (Zb e qi)]; exact t5 _ _ (s1 _ _ e)⟩
  .have hx:V.ref lo=x:=by simpa using hx
   subst hx
   refine ⟨_,rfl,_,_,rfl,rfl,.inl ⟨by decide,by decide⟩,_,rfl,_,rfl,_,rfl,2 * sh,pl,ru,lo,_,rfl,ak.of (s1 _ _ eo),by lia,by lia,nV,gK,m6,lo1,bo,oB,λH5 t5=>?_⟩
   rw [← eC]
   exact eX.of sm hi hys (t5 _ _ gl) ⟨_,rfl,rfl,Za,λx o e=>by rw [Zc (Zb e qi)]; exact t5 _ _ (s1 _ _ e)⟩
 rintro ys σ G _ ⟨v0,rfl,rfl,gl,s1⟩
 refine gN ?_
 subst ee
 try dsimp only
 have gl:G lz=some (.lst ([(A:Int),(C:Int)].map V.int)):=gl
 refine hide λu1 ee=>?_
 refine ⟨_,rfl,_,rfl,lr,lk,row,row,rfl,rfl,ak.of (s1 _ _ g4),ak.of (s1 _ _ g5),_,rfl,b9 (by simp) ?_⟩
 subst ee
 try dsimp only [gG]
 have oB:Tb K G:=s1 _ _ uP
 refine ⟨_,rfl,_,_,rfl,rfl,.inl ⟨by decide,by decide⟩,_,rfl,_,rfl,_,rfl,2 * sh,pl,ru,lm,_,rfl,ak.of (s1 _ _ gm),by lia,by lia,nV,gK,m6,by lia,bm,oB,λXG GO=>?_⟩
 rw [← eA,← eC] at hm
 rw [← eA] at ma
 rw [← eC] at mo
 have XE:(1000:Int)<2 ^ 63:=by decide
 have inl:∀ z:Int,0<=z->z<=800->InLong z:=λz h1 h2=>⟨by lia,by lia⟩
 refine ⟨_,rfl,lz,[(A:Int),(C:Int)],rfl,ak.of (GO _ _ gl),λj hj=>?_,rfl,?_⟩
 .have hj2:j<2:=hj
  rcases (show j=0\/j=1 by lia) with rfl | rfl
  .exact ⟨inl _ (by show 0<=(A:Int); lia) (by show (A:Int)<=800; lia),inl _ (by show 0<=(A:Int)+0; lia) (by show (A:Int)+0<=800; lia)⟩
  .exact ⟨inl _ (by show 0<=(C:Int); lia) (by show (C:Int)<=800; lia),inl _ (by show 0<=(A:Int)+((C:Int)+0); lia) (by show (A:Int)+((C:Int)+0)<=800; lia)⟩
 .have e:decide (V.int (bB (2 * sh) pl ru (iE sh row):Int)=V.int [(A:Int),(C:Int)].sum)=true:=aGg (by rw [hm]; show V.int ((A+C:Nat):Int)=V.int ((A:Int)+((C:Int)+0)); congr 1)
  show Q (V.bl _) _
  rw [e]
  exact k _ ((GH.trans (s1.sb b)).trans (GO.sb b))
end
section
def j7 (K:W.Frag):Sp:=λvs H Q _=>∃ (a:Addr) (ns:List Int),vs=[.ref a]/\ak K H a (ns.map V.int)/\ns.length<=63/\Tb K H/\∀ H',Q (.bl true) H'
theorem P7 (F:bO K "law" "law" d9 f fd) (T:Txt K mg) (Bl:Def P w K mg base "_law_box" 1 nK (pU K)) (Bc:Def P w K mg base "_law_folded" 1 E7 (Lc K)) (A8:Def P w K mg base "_law_right" 10 Eo (Jr K)):aH P w K mg base bI 11 f fd jw (j7 K):=by
 refine F.ok l9 (λvs H Q E h=>?_) (λcdv A outer st H vs Q E hr h=>?_)
 .obtain ⟨a,ns,rfl,_⟩:=h
  rfl
 obtain ⟨a,ns,rfl,hS,h63,tb,k⟩:=h
 have nd:=l9.nd
 have hu:=cY hr
 refine ⟨_,(Ze (bM 1 nd (Zm Bc hr.m rfl (pc (pv 0) (pc Zh Zd))))
   (Zj (Zs (Zk (Lo rfl) rfl T.yI KI (pc (qA (Zy (eV:=(Zg d9)) (oN:=nN) (N:=["_law_k", "_law_cells"]) (own:=1) (js:=[1]) (by decide +kernel) rfl rfl) rfl (pq rfl T.ko (pc (Zk (Lx rfl) rfl T.uL EX (pc Zh (pc (Zk (Zn (K:=K) rfl) rfl T.fZ aTr (pc (pv 1) Zd)) Zd))) Zd)) (λ_ _ _ _ _ _=>(bS 0 (show List.Nodup (["_law_k", "_law_cells"]:List Str) by decide +kernel))) (λ_ _ _ _ _ _=>(Zm A8 hr.m rfl (pc (Zm Bl hr.m rfl (pc (pv 1) (pc (pv 0) Zd))) Zd)))) Zd))))),?_⟩
 refine ⟨_,rfl,a,ns,6,rfl,hS,h63,by decide,by decide,λr ms H1 hr' s1 e1 lm=>?_⟩
 have lc:(if ((ms.map V.int).length:Int) > 2 then ((ms.map V.int).length:Int) else 2)<=63:=by rw [aAt]; split <;> lia
 refine ⟨_,rfl,r,_,rfl,.inl (ak.of e1),_,_,rfl,_,rfl,?_,?_,λl hl'=>?_⟩
 .split <;> lia
 .lia
 generalize (if ((ms.map V.int).length:Int) > 2 then ((ms.map V.int).length:Int) else 2)=n at *
 have N9:n.toNat<=63:=by lia
 have G8:r≠l:=Zb e1 hl'
 have GL:=tb.same s1
 have p8:tabOf K "Room" "going" ≠ l:=Zb GL hl'
 refine uz (lo:=0) (n:=n.toNat) (l:=l) (λj ys σ G=>∃ v0:Option V,σ=[v0,some (.ref r)]/\ys=(List.replicate j true).map V.bl/\G l=some (.lst ys)/\G r=some (.lst (ms.map V.int))/\Tb K G)
  ⟨none,rfl,rfl,Za,by rw [Zc G8]; exact e1,by unfold Tb; rw [Zc p8]; exact GL⟩ ?_ ?_
 .rintro j ys σ G hj hy ⟨v0,rfl,rfl,g1,g2,g3⟩
  refine ⟨_,rfl,_,rfl,r,ms,_,rfl,ak.of g2,by lia,by lia,λb ba bq G1 hb t1 B1=>?_⟩
  refine ⟨b,ba,bq,0,rfl,B1,by decide,g3.same t1,λG2 t2=>?_⟩
  have mP:l≠b:=Zb g1 hb
  have NU:r≠b:=Zb g2 hb
  have mK:tabOf K "Room" "going" ≠ b:=Zb g3 hb
  refine eX.of (ay9 N9 (by decide)) hj hy (t2 _ _ mP (t1 _ _ g1)) ⟨_,rfl,by rw [aeG,awR]; rfl,Za,?_,?_⟩
  .rw [Zc G8]
   exact t2 _ _ NU (t1 _ _ g2)
  .unfold Tb
   rw [Zc p8]
   exact t2 _ _ mK (t1 _ _ g3)
 .rintro ys σ G hy ⟨v0,rfl,rfl,g1,g2,g3⟩
  refine ⟨l,_,rfl,ak.of g1,?_⟩
  rw [show (List.replicate n.toNat true).all id=true by rw [aql]; intro z hz; rw [(List.mem_replicate.mp hz).2]; rfl]
  exact k G
end
theorem gK {us:List Value} {n:Nat} (h:us.length=n+1):∃ v r,us=v :: r/\r.length=n:=by
 cases us with
 | nil=>cases h
 | cons v r=>exact ⟨v,r,rfl,Nat.succ.inj h⟩
theorem tG {fn:Value->Value->Value->Option Addr->Value->Value->FuncData} {ps:List Str} (h:∀ a b c d e f v0,bindArgs (fn a b c d e f) ⟨[v0],[]⟩=pure (ps.zip [v0])) (hp:ps.length=1:=by rfl) (a b c:Value) (d:Option Addr) (e f:Value) (us:List Value) (hl:us.length=ps.length):bindArgs (fn a b c d e f) ⟨us,[]⟩=pure (ps.zip us):=by
 rw [hp] at hl
 obtain ⟨v0,r0,rfl,q0⟩:=gK hl
 cases aWD q0
 exact h a b c d e f v0
theorem ln2 {fn:Value->Value->Value->Option Addr->Value->Value->FuncData} {ps:List Str} (h:∀ a b c d e f v0 v1,bindArgs (fn a b c d e f) ⟨[v0,v1],[]⟩=pure (ps.zip [v0,v1])) (hp:ps.length=2:=by rfl) (a b c:Value) (d:Option Addr) (e f:Value) (us:List Value) (hl:us.length=ps.length):bindArgs (fn a b c d e f) ⟨us,[]⟩=pure (ps.zip us):=by
 rw [hp] at hl
 obtain ⟨v0,r0,rfl,q0⟩:=gK hl
 obtain ⟨v1,r1,rfl,q1⟩:=gK q0
 cases aWD q1
 exact h a b c d e f v0 v1
theorem qc {fn:Value->Value->Value->Option Addr->Value->Value->FuncData} {ps:List Str} (h:∀ a b c d e f v0 v1 v2,bindArgs (fn a b c d e f) ⟨[v0,v1,v2],[]⟩=pure (ps.zip [v0,v1,v2])) (hp:ps.length=3:=by rfl) (a b c:Value) (d:Option Addr) (e f:Value) (us:List Value) (hl:us.length=ps.length):bindArgs (fn a b c d e f) ⟨us,[]⟩=pure (ps.zip us):=by
 rw [hp] at hl
 obtain ⟨v0,r0,rfl,q0⟩:=gK hl
 obtain ⟨v1,r1,rfl,q1⟩:=gK q0
 obtain ⟨v2,r2,rfl,q2⟩:=gK q1
 cases aWD q2
 exact h a b c d e f v0 v1 v2
theorem qZ {fn:Value->Value->Value->Option Addr->Value->Value->FuncData} {ps:List Str} (h:∀ a b c d e f v0 v1 v2 v3,bindArgs (fn a b c d e f) ⟨[v0,v1,v2,v3],[]⟩=pure (ps.zip [v0,v1,v2,v3])) (hp:ps.length=4:=by rfl) (a b c:Value) (d:Option Addr) (e f:Value) (us:List Value) (hl:us.length=ps.length):bindArgs (fn a b c d e f) ⟨us,[]⟩=pure (ps.zip us):=by
 rw [hp] at hl
 obtain ⟨v0,r0,rfl,q0⟩:=gK hl
 obtain ⟨v1,r1,rfl,q1⟩:=gK q0
 obtain ⟨v2,r2,rfl,q2⟩:=gK q1
 obtain ⟨v3,r3,rfl,q3⟩:=gK q2
 cases aWD q3
 exact h a b c d e f v0 v1 v2 v3
theorem Oq {fn:Value->Value->Value->Option Addr->Value->Value->FuncData} {ps:List Str} (h:∀ a b c d e f v0 v1 v2 v3 v4,bindArgs (fn a b c d e f) ⟨[v0,v1,v2,v3,v4],[]⟩=pure (ps.zip [v0,v1,v2,v3,v4])) (hp:ps.length=5:=by rfl) (a b c:Value) (d:Option Addr) (e f:Value) (us:List Value) (hl:us.length=ps.length):bindArgs (fn a b c d e f) ⟨us,[]⟩=pure (ps.zip us):=by
 rw [hp] at hl
 obtain ⟨v0,r0,rfl,q0⟩:=gK hl
 obtain ⟨v1,r1,rfl,q1⟩:=gK q0
 obtain ⟨v2,r2,rfl,q2⟩:=gK q1
 obtain ⟨v3,r3,rfl,q3⟩:=gK q2
 obtain ⟨v4,r4,rfl,q4⟩:=gK q3
 cases aWD q4
 exact h a b c d e f v0 v1 v2 v3 v4
def eE (K:W.Frag) (nm:Str) (st:Stmt):Prop:=∃ (f:Addr) (od an:Option Addr) (sl:Array (Option Value)) (oc kV dc pm cd ct:Value),W.nsIn K mainGlobals nm=some (some (.ref f))/\K.lookup f=some ⟨oc,od,.func (W.fnOf nm nm (ZV st) (ZL st) (Zg st) .none kV dc pm an cd ct),sl⟩/\W.codeIn K cd nm=true/\W.keepIn K (.ref f)=true
def lN (K:W.Frag) (Ca:Addr) (nm q:Str) (st:Stmt):Prop:=∃ (f:Addr) (od an:Option Addr) (sl:Array (Option Value)) (oc kV dc pm cd ct:Value),W.findIn K (.ref Ca) nm=some (some (.ref f))/\W.isFn K (.ref f)=true/\K.lookup f=some ⟨oc,od,.func (W.fnOf nm q (ZV st) (ZL st) (Zg st) .none kV dc pm an cd ct),sl⟩/\W.codeIn K cd q=true/\W.keepIn K (.ref f)=true
theorem eE.mk {K:W.Frag} {nm:Str} {st:Stmt} {f:Addr} {od an:Option Addr} {sl:Array (Option Value)} {oc kV dc pm cd ct:Value} (a:W.nsIn K mainGlobals nm=some (some (.ref f))) (l:K.lookup f=some ⟨oc,od,.func (W.fnOf nm nm (ZV st) (ZL st) (Zg st) .none kV dc pm an cd ct),sl⟩) (c:W.codeIn K cd nm=true) (k:W.keepIn K (.ref f)=true):eE K nm st:=⟨_,_,_,_,_,_,_,_,_,_,a,l,c,k⟩
theorem lN.mk {K:W.Frag} {Ca:Addr} {nm q:Str} {st:Stmt} {f:Addr} {od an:Option Addr} {sl:Array (Option Value)} {oc kV dc pm cd ct:Value} (a:W.findIn K (.ref Ca) nm=some (some (.ref f))) (i:W.isFn K (.ref f)=true) (l:K.lookup f=some ⟨oc,od,.func (W.fnOf nm q (ZV st) (ZL st) (Zg st) .none kV dc pm an cd ct),sl⟩) (c:W.codeIn K cd q=true) (k:W.keepIn K (.ref f)=true):lN K Ca nm q st:=⟨_,_,_,_,_,_,_,_,_,_,a,i,l,c,k⟩
def yC (P:Program) (w:World) (K:W.Frag) (mg:Str->Option Value) (base:Heap):Prop:=∃ h,K.In h/\h.Ns mainGlobals mg
section
variable {P:Program} {w:World} {K:W.Frag} {mg:Str->Option Value} {base:Heap} {Ca:Addr} {nm q:Str} {st:Stmt} {n:Nat} {ps:List Str} {sp:Sp} (B:yC P w K mg base)
include B
theorem yC.df (x:eE K nm st) (ok:∀ {f fd},bO K nm nm st f fd->aH P w K mg base bI n f fd ps sp) (hb:∀ (kV dc pm:Value) (an:Option Addr) (cd ct:Value) (us:List Value),us.length=ps.length->bindArgs (W.fnOf nm nm (ZV st) (ZL st) (Zg st) .none kV dc pm an cd ct) ⟨us,[]⟩=pure (ps.zip us)):Def P w K mg base nm n ps sp:=by
 obtain ⟨f,od,an,sl,oc,kV,dc,pm,cd,ct,a,l,c,k⟩:=x
 obtain ⟨h,X,G⟩:=B
 have F:=tX l c k
 exact ⟨_,_,ok F,W.mg_of X G a,F.kp,F.binds hb⟩
theorem yC.md (x:lN K Ca nm q st) (ok:∀ {f fd},bO K nm q st f fd->aH P w K mg base bI n f fd ps sp) (hb:∀ (kV dc pm:Value) (an:Option Addr) (cd ct:Value) (us:List Value),us.length=ps.length->bindArgs (W.fnOf nm q (ZV st) (ZL st) (Zg st) .none kV dc pm an cd ct) ⟨us,[]⟩=pure (ps.zip us)):dQ P w K mg base Ca nm n ps sp:=by
 obtain ⟨f,od,an,sl,oc,kV,dc,pm,cd,ct,a,i,l,c,k⟩:=x
 have F:=tX l c k
 exact ⟨_,_,ok F,⟨a,i,k⟩,F.binds hb⟩
theorem yC.kd {y:Str} (x:lN K Ca "__init__" q st) (mk:W.makesIn K Ca=true) (kc:W.keepIn K (.ref Ca)=true) (aC:W.nsIn K mainGlobals y=some (some (.ref Ca))) (ok:∀ {f fd},bO K "__init__" q st f fd->aH P w K mg base bI n f fd ps sp) (hb:∀ (kV dc pm:Value) (an:Option Addr) (cd ct:Value) (us:List Value),us.length=ps.length->bindArgs (W.fnOf "__init__" q (ZV st) (ZL st) (Zg st) .none kV dc pm an cd ct) ⟨us,[]⟩=pure (ps.zip us)):sJ P w K mg base Ca y n ps sp:=by
 obtain ⟨f,od,an,sl,oc,kV,dc,pm,cd,ct,a,i,l,c,k⟩:=x
 obtain ⟨h,X,G⟩:=B
 have F:=tX l c k
 exact ⟨_,_,ok F,⟨mk,a,i,kc⟩,W.mg_of X G aC,F.binds hb⟩
end
theorem QA {l:W.OpenLaw} {w:World} {K:W.Frag} {h:Heap} {mg:Str->Option Value} {fa:Addr} {tp cg:Addr} (X:K.In h) (G:h.Ns mainGlobals mg) (OZ:mg "law" = some (.ref fa))
  {aP:Addr} (nG:W.nsIn K mainGlobals "Room" = some (some (.ref aP)))
  (x0:eE K "_law_take" Ec)
  (x1:eE K "_law_box" mw)
  (x2:eE K "_law_folded" E8)
  (x3:eE K "_law_some_boards" AW)
  (x4:eE K "_law_shape" Et)
  (x5:eE K "_law_asked" Er)
  (a6:W.nsIn K mainGlobals "_law_same" = some (some (.ref f6))) (l6:K.lookup f6=some ⟨vV,W5,.func (W.fnOf "_law_same" "_law_same" (ZV qx) (ZL qx) (Zg qx) .none Xl Xy W0 XF PL Xz),WU⟩) (c6:W.codeIn K PL "_law_same" = true) (k6:W.keepIn K (.ref f6)=true)
  (x7:eE K "shelf_of" FI)
  (x8:lN K aP "has" "Room.has" FF)
  (x9:lN K aP "mates" "Room.mates" FQ)
  (M5:lN K aP "need" "Room.need" F5)
  (Iz:W.findIn K (.ref aP) "going" = some (some (.ref Dt))) (OJ:W.isFn K (.ref Dt)=true) (Hx:K.lookup Dt=some ⟨NQ,NN,.func (W.fnOf "going" "Room.going" (ZV ZC) (ZL ZC) (Zg ZC) .none OB PJ NF PY (.ref cg) PK),Nm⟩) (PR:W.codeIn K (.ref cg) "Room.going" = true) (Hy:W.keepIn K (.ref Dt)=true)
  (M4:lN K aP "drop" "Room.drop" F8)
  (MZ:lN K aP "use" "Room.use" FE)
  (MY:lN K aP "__init__" "Room.__init__" AR)
  (MX:lN K aP "leaver_for" "Room.leaver_for" Gj)
  (MW:lN K aP "bring" "Room.bring" FU)
  (MV:eE K "ask" mz)
  (MU:eE K "run_row" Ax)
  (MT:eE K "misses" AE)
  (MS:eE K "beneath_at" FP)
  (MR:eE K "beneath" Aw)
  (MQ:eE K "is_number" Gf)
  (MP:eE K "may_go" Fc)
  (MO:eE K "come" Ed)
  (MN:eE K "count_misses" AY)
  (MM:eE K "asked_again" F2)
  (ML:eE K "farthest" yh)
  (MK:eE K "misses_by" Gd)
  (MJ:eE K "least_misses" Gp)
  (MG:eE K "returns_of" AZ)
  (MF:eE K "is_marked" AU)
  (ME:eE K "bound" Ar)
  (MD:eE K "places_by_shelf" Gm)
  (MC:eE K "cheapest_ahead" Gh)
  (MB:eE K "least_marks" F1)
  (MA:eE K "marks_of" yg)
  (Mz:eE K "_law_right" uf)
  (PZ:W.nsIn K mainGlobals "law" = some (some (.ref Ic))) (Ox:K.lookup Ic=some ⟨NO,NL,.func (W.fnOf "law" "law" (ZV d9) (ZL d9) (Zg d9) .none CS DB Cv DO xA DE),Nl⟩) (PN:W.codeIn K xA "law" = true) (OC:W.keepIn K (.ref Ic)=true)
  (yJ:W.nsIn K mainGlobals "abs" = some none)
  (yI:W.nsIn K mainGlobals "all" = some none)
  (A6:W.nsIn K mainGlobals "any" = some none)
  (uN:W.nsIn K mainGlobals "bool" = some none)
  (Bf:W.nsIn K mainGlobals "divmod" = some none)
  (vK:W.nsIn K mainGlobals "enumerate" = some none)
  (sO:W.nsIn K mainGlobals "int" = some none)
  (jI:W.nsIn K mainGlobals "isinstance" = some none)
  (fZ:W.nsIn K mainGlobals "len" = some none)
  (nU:W.nsIn K mainGlobals "list" = some none)
  (uL:W.nsIn K mainGlobals "max" = some none)
  (yH:W.nsIn K mainGlobals "min" = some none)
  (ko:W.nsIn K mainGlobals "range" = some none)
  (A5:W.nsIn K mainGlobals "set" = some none)
  (sZ:W.nsIn K mainGlobals "sorted" = some none)
  (uK:W.nsIn K mainGlobals "str" = some none)
  (A4:W.nsIn K mainGlobals "sum" = some none)
  (yK:W.nsIn K mainGlobals "tuple" = some none)
  (uJ:W.nsIn K mainGlobals "zip" = some none)
  (qO:W.plainGet K aP Str.empty=true) (rF:W.hasDictIn K aP=true) (qN:W.plainOver K aP=true) (qL:W.findIn K (.ref aP) "__setattr__" = some (some (.builtin "object.__setattr__"))) (qT:W.makesIn K aP=true) (rj:W.keepIn K (.ref aP)=true)
  (iO:W.findIn K (.ref aP) "places" = some none)
  (jK:W.findIn K (.ref aP) "rule" = some none)
  (g9:W.findIn K (.ref aP) "shelves" = some none)
  (gQ:W.findIn K (.ref aP) "standing" = some none)
  (jJ:W.findIn K (.ref aP) "uses" = some none)
  (ch:W.codeHdIn K cg tp=true) (kt:K.lookup tp=none)
  : tabOf K "Room" "going" = tp/\(∃ c0,W.codeHdIn K c0 tp=true)/\K.lookup tp=none/\∃ fd:FuncData,(∀ (s:Shared) (v:Value),BindsTo s fd ⟨[v],[]⟩ [("_law_script",v)])/\∀ base:Heap,K.In base->base.Ns mainGlobals mg->BMod base mg->aH l.prog w K mg base bI 11 fa fd jw (j7 K):=by
 have e:=OZ.symm.trans (W.mg_of X G PZ)
 cases e
 have rN:=Ti nG
 subst rN
 have T:Txt K mg:=⟨aco X G yJ,aco X G yI,aco X G A6,aco X G uN,aco X G Bf,aco X G vK,aco X G sO,aco X G jI,aco X G fZ,aco X G nU,aco X G uL,aco X G yH,aco X G ko,aco X G A5,aco X G sZ,aco X G uK,aco X G A4,aco X G yK,aco X G uJ,⟨qO,rF,qN,qL⟩,iO,jK,g9,gQ,jJ⟩
 have F6:=tX (st:=qx) l6 c6 k6
 have xE:=F6.binds (ps:=qw) (ln2 λ_ _ _ _ _ _ _ _=>rfl)
 have Mu:=tX (st:=ZC) Hx PR Hy
 have xD:=Mu.binds (ps:=yc) (ln2 λ_ _ _ _ _ _ _ _=>rfl)
 have Mt:=tX (st:=d9) Ox PN OC
 have Iu:=Mt.binds (ps:=jw) (tG λ_ _ _ _ _ _ _=>rfl)
 have tq:=Th Iz Hx rfl ch
 refine ⟨tq,⟨_,ch⟩,kt,?_⟩
 refine ⟨W.fnOf "law" "law" (ZV d9) (ZL d9) (Zg d9) .none CS DB Cv DO xA DE,λs v=>.of_eq rfl,λbase _ _ bm=>?_⟩
 have B:yC l.prog w K mg base:=⟨_,X,G⟩
 have gv:=B.df x0 (λF=>Q5 F T ) (ln2 λ_ _ _ _ _ _ _ _=>rfl)
 have Bl:=B.df x1 (λF=>Qo F T ) (ln2 λ_ _ _ _ _ _ _ _=>rfl)
 have Bc:=B.df x2 (λF=>Uc F T ) (ln2 λ_ _ _ _ _ _ _ _=>rfl)
 have Ci:=B.df x3 (λF=>Wq F T gv) (ln2 λ_ _ _ _ _ _ _ _=>rfl)
 have Bb:=B.df x4 (λF=>SD F T gv) (tG λ_ _ _ _ _ _ _=>rfl)
 have Ba:=B.df x5 (λF=>SA F T gv Ci) (qc λ_ _ _ _ _ _ _ _ _=>rfl)
 have uM:=K9 (P:=l.prog) (w:=w) (base:=base) F6 xE (W.mg_of X G a6) T 
 have iB:=B.df x7 (λF=>VE F T ) (ln2 λ_ _ _ _ _ _ _ _=>rfl)
 have oF:=B.md x8 (λF=>VD F T ) (ln2 λ_ _ _ _ _ _ _ _=>rfl)
 have lP:=B.md x9 (λF=>Wl F T iB) (ln2 λ_ _ _ _ _ _ _ _=>rfl)
 have tu:=B.md M5 (λF=>Wb F T oF) (ln2 λ_ _ _ _ _ _ _ _=>rfl)
 have Cf:dQ l.prog w K mg base (aD K "Room") "going" 2 yc (El K):=⟨_,_,Wk Mu rfl tq ch bm T ,⟨Iz,OJ,Hy⟩,xD⟩
 have Cs:=B.md M4 (λF=>Wa F T tu lP) (ln2 λ_ _ _ _ _ _ _ _=>rfl)
 have Co:=B.md MZ (λF=>VC F T tu lP) (ln2 λ_ _ _ _ _ _ _ _=>rfl)
 have A7:=B.kd MY qT rj nG (λF=>V9 F T ) (qZ λ_ _ _ _ _ _ _ _ _ _=>rfl)
 have Cn:=B.md MX (λF=>Wv F T lP Cf) (ln2 λ_ _ _ _ _ _ _ _=>rfl)
 have Ce:=B.md MW (λF=>Wj F T oF Cn lP Cs) (ln2 λ_ _ _ _ _ _ _ _=>rfl)
 have A3:=B.df MV (λF=>Qh F T oF Co Ce) (ln2 λ_ _ _ _ _ _ _ _=>rfl)
 have Bg:=B.df MU (λF=>Vw F T A7 A3) (qZ λ_ _ _ _ _ _ _ _ _ _=>rfl)
 have sW:=B.df MT (λF=>T5 F T Bg) (qZ λ_ _ _ _ _ _ _ _ _ _=>rfl)
 have Cd:=B.df MS (λF=>Wi F T iB) (qc λ_ _ _ _ _ _ _ _ _=>rfl)
 have zd:=B.df MR (λF=>Vv F T Cd) (ln2 λ_ _ _ _ _ _ _ _=>rfl)
 have Cr:=B.df MQ (λF=>V7 F T ) (tG λ_ _ _ _ _ _ _=>rfl)
 have Be:=B.df MP (λF=>Uh F T Cr) (qZ λ_ _ _ _ _ _ _ _ _ _=>rfl)
 have tE:=B.df MO (λF=>QU F T ) (qc λ_ _ _ _ _ _ _ _ _=>rfl)
 have Cj:=B.df MN (λF=>Wt F T iB Be tE) (qZ λ_ _ _ _ _ _ _ _ _ _=>rfl)
 have oG:=B.df MM (λF=>Wo F T ) (tG λ_ _ _ _ _ _ _=>rfl)
 have Bj:=B.df ML (λF=>VQ F T iB tE oG) (qc λ_ _ _ _ _ _ _ _ _=>rfl)
 have Cq:=B.df MK (λF=>V6 F T Cj) (qZ λ_ _ _ _ _ _ _ _ _ _=>rfl)
 have zc:=B.df MJ (λF=>Ws F T Bj Cq) (qc λ_ _ _ _ _ _ _ _ _=>rfl)
 have Cc:=B.df MG (λF=>Wh F T oG) (tG λ_ _ _ _ _ _ _=>rfl)
 have Cp:=B.df MF (λF=>V5 F T iB) (Oq λ_ _ _ _ _ _ _ _ _ _ _=>rfl)
 have A9:=B.df ME (λF=>Sf F T Cc Cp) (qZ λ_ _ _ _ _ _ _ _ _ _=>rfl)
 have Cm:=B.df MD (λF=>Wu F T iB) (ln2 λ_ _ _ _ _ _ _ _=>rfl)
 have Ck:=B.df MC (λF=>Wy F T ) (qc λ_ _ _ _ _ _ _ _ _=>rfl)
 have Cg:=B.df MB (λF=>Wn F T oG Ck) (ln2 λ_ _ _ _ _ _ _ _=>rfl)
 have Bh:=B.df MA (λF=>VP F T Cm Cg) (qc λ_ _ _ _ _ _ _ _ _=>rfl)
 have A8:=B.df Mz (λF=>SN F T Bb Ba zc uM A9 Bh sW zd) (tG λ_ _ _ _ _ _ _=>rfl)
 exact P7 Mt T Bl Bc A8
theorem walk {l:W.OpenLaw} {q:Program} {loose:List Str} {XP:(Str->Option Value)->Heap->Prop} {YP:World->Heap->Prop} {d:DefRec} {K:Params->W.Frag} {tp:Addr} (hn:l.most=some 63) (hdf:d.params.defaults=[])
  (hY:∀ (w:World) (h:Heap),YP w h->(K w.params).In h/\h.get? tp=some { cls:=.none,data:=.fields #[] })
  (F:∀ (w:World) (mg:Str->Option Value) (fa:Addr) (h:Heap),(K w.params).In h->h.Ns mainGlobals mg->mg d.name=some (.ref fa) ->
   tabOf (K w.params) "Room" "going" = tp/\(∃ c0,W.codeHdIn (K w.params) c0 tp=true)/\(K w.params).lookup tp=none/\∃ fd:FuncData,(∀ (s:Shared) (u:Value),BindsTo s fd ⟨[u],[]⟩ [("_law_script",u)])/\∀ base:Heap,(K w.params).In base->base.Ns mainGlobals mg->BMod base mg->aH l.prog w (K w.params) mg base bI 11 fa fd jw (j7 (K w.params))) :
  W.WalkO q loose XP YP l.row.toRowW d [] (λf vs=>PySem.call f vs) :=
 L2.Tj (tp:=tp) (pos:=tpos) (qual:=lX) (G:=λw=>tabOf (K w.params) "Room" "going" = tp) (n:=63) (k:=11) (x := "_law_script") (CX:=λ_=>bI) (sp:=λw=>j7 (K w.params)) hn (by decide) hdf ⟨rfl,by decide,by decide,rfl⟩ hY F (λ_ _ a ns g hl hT hS=>⟨a,ns,rfl,hS,hl,(by unfold Tb; rw [g]; exact hT),λ_=>rfl⟩) λ_ _ _ _ _ z=>z
end nQ
namespace PySem.W.Fast
abbrev Q:=Nat
open Lean in
local macro_rules|`(command|#reduce 0)=>do
 let f:=λ(n:Name)=>`(command|def $(mkIdent (.mkSimple s!"tw{n.hash}")):ident:=Q)
 let mut r:=#[<-f `PySem.Challenge.pw_nearstairs_k23_rows_turned_about]
 for (x,l) in [("o_",List.range' 43 362),("sts_",[49,71,86,101,116,164,226,317,393]),("tree_",[47,70,85,100,115,163,225,316,392,404]),("heap_",[39,46,405]),("view_",[39]),("env_",[41])] do for i in l do r:=r.push (<-f (.str `PySem.Challenge.cw_nearstairs_k23_rows_turned_about_holds s!"{x}{i}"))
 return mkNullNode r
#reduce 0
end PySem.W.Fast
open PySem PySem.W PyProof.Rows
set_option maxRecDepth 100000 in
set_option maxHeartbeats 0 in
theorem PySem.Challenge.cw_nearstairs_k23_rows_turned_about_holds : PySem.Challenge.rw_nearstairs_k23_rows_turned_about.Holds := by
 w_on; o_law; k_head; (case hw=>w_witness2)
 k_fill
 refine nQ.walk (l:=PySem.Challenge.rw_nearstairs_k23_rows_turned_about) rfl rfl (λw h Y=>⟨PySem.W.km_in_of Y,PySem.W.km_tabs_of Y _ mem_cons_self⟩) ?F
 case F =>
  intro w mg fa h KX G hmg
  refine' nQ.QA KX G hmg ?_ ?_ ?_ ?_ ?_ ?_ ?_ ?_ ?_ ?_ ?_ ?_ ?_ ?_ ?_ ?_ ?_ ?_ ?_ ?_ ?_ ?_ ?_ ?_ ?_ ?_ ?_ ?_ ?_ ?_ ?_ ?_ ?_ ?_ ?_ ?_ ?_ ?_ ?_ ?_ ?_ ?_ ?_ ?_ ?_ ?_ ?_ ?_ ?_ ?_ ?_ ?_ ?_ ?_ ?_ ?_ ?_ ?_ ?_ ?_ ?_ ?_ ?_ ?_ ?_ ?_ ?_ ?_ ?_ ?_ ?_ ?_ ?_ ?_ ?_ ?_ ?_ ?_ ?_ ?_ ?_ ?_
  all_goals try refine' nQ.eE.mk ?_ ?_ ?_ ?_
  all_goals try refine' nQ.lN.mk ?_ ?_ ?_ ?_ ?_
  all_goals try k_is
  all_goals kernel_rfl
