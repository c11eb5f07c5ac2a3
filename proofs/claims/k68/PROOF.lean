import PyProof.Rows.All
import Wide.All
import OpenK.AllK
import Wide.FinOn
import Lean
import PyProof.EqAt
import PyProof.EqKinds
import PyProof.TupleCall
import KE.KDictSum
import KE.KTryDeep
import KE.KTryMore
import PyProof.NsDelKeeps
import PyProof.FString
import PyProof.Rows.SetFrom
import PyProof.DictValues
import KE.KDictList
import PySem.Challenge.RW_nearstairs_k68_whole_the_least_and_its_p
open List (all_cons all_eq_true any_cons any_eq_false any_eq_true any_map append_assoc append_nil drop_drop drop_eq_getElem_cons drop_of_length_le drop_sublist drop_take drop_zero erase_of_not_mem erase_sublist filter_append filter_cons filter_nil filter_sublist find?_cons find?_cons_of_neg find?_cons_of_pos getD_eq_getElem?_getD getElem?_append_left getElem?_append_right getElem?_drop getElem?_eq_getElem getElem?_eq_none getElem?_eq_some_iff getElem?_map getElem?_range getElem_drop getElem_mem getElem_of_mem getElem_take length_append length_cons length_drop length_erase_le length_erase_of_mem length_filter_le length_map length_nil length_pos_iff length_pos_of_mem length_range length_reverse length_set length_singleton length_take map_append map_congr_left map_cons map_id map_map map_nil map_take mem_append mem_append_left mem_append_right mem_cons mem_cons_of_mem mem_cons_self mem_filter mem_flatMap mem_iff_getElem mem_map mem_of_getElem? mem_of_mem_erase mem_of_mem_take mem_range mem_replicate mem_singleton nodup_append nodup_cons nodup_nil nodup_range not_mem_nil pairwise_append pairwise_iff_getElem replicate_succ replicate_succ' take_append_drop take_length take_of_length_le take_succ take_zero)
set_option Elab.async false
set_option compiler.extract_closed false
set_option linter.all false
set_option maxRecDepth 100000
abbrev bd2:=@if_neg
abbrev aLa:=@PySem.wpAny_bind
abbrev aHZ:=@if_pos
abbrev a8w:=@List.getElem?_eq_getElem
abbrev avG:=@Nat.le_refl
abbrev aBk:=@PySem.Heap.get?_push_of_some
abbrev aH5:=@List.length_map
abbrev aeu:=@List.getD_eq_getElem?_getD
abbrev aN1:=@PyProof.Rows.wpS_bind
abbrev aP5:=@PySem.Heap.lt_size
abbrev aPy:=@decide_eq_true
abbrev aSE:=@PyProof.Rows.wpS_pure
abbrev aWj:=@List.getElem?_eq_some_iff
abbrev aJ2:=@PySem.Heap.get?_push_size
abbrev aLj:=@PySem.wpAny_pure
abbrev aIh:=@List.size_toArray
abbrev bdd:=@List.getElem?_map
abbrev aCK:=@Bool.false_ne_true
abbrev aXf:=@decide_eq_false
abbrev bcC:=@Option.some.inj
abbrev aIt:=@List.length_append
abbrev aTw:=@of_decide_eq_true
abbrev a0P:=@Nat.ne_of_lt
abbrev a0a:=@Bool.false_eq_true
abbrev akt:=@List.mem_cons_of_mem
abbrev aVV:=@List.mem_of_getElem?
abbrev aDl:=@List.mem_cons
abbrev aay:=@Ne.symm
abbrev apP:=@List.mem_filter
abbrev auU:=@List.map_append
abbrev adl:=@List.mem_singleton
abbrev a21:=@PySem.boot_len
abbrev a1N:=@List.mem_range
abbrev bbY:=@List.mem_append
abbrev ajJ:=@Nat.le_trans
abbrev auX:=@Nat.zero_le
abbrev a7f:=@PySem.F.plainAttrs_list
abbrev aTs:=@List.mem_cons_self
abbrev asO:=@Bool.and_eq_true
abbrev aek:=@Array.length_toList
abbrev arE:=@List.getElem?_append_right
abbrev aea:=@List.mem_map
abbrev aMc:=@Nat.lt_of_lt_of_le
abbrev aZu:=@List.getElem?_append_left
abbrev acz:=@decide_eq_true_eq
abbrev a12:=@List.sum_cons
abbrev axz:=@PySem.F.slot_list_append
abbrev aXi:=@PySem.F.type_list_append
abbrev a7k:=@PySem.wpAny_mono
abbrev ar3:=@List.map_cons
abbrev afz:=@Array.getElem?_eq_getElem
abbrev aDM:=@bind_congr
abbrev aM8:=@Nat.le_of_lt
abbrev aRy:=@List.length_cons
abbrev a1l:=@PySem.Heap.get?_update_other
abbrev aHW:=@List.nodup_cons
abbrev a7j:=@PyProof.Rows.wpS_forRange
abbrev atr:=@List.not_mem_nil
abbrev aaD:=@List.mem_append_right
abbrev a9R:=@List.filter_sublist
abbrev aXX:=@if_false
abbrev aYO:=@List.length_filter_le
abbrev aW3:=@PySem.PassesOwn.never
abbrev aH7:=@List.countP_append
abbrev aj1:=@List.countP_singleton
abbrev a3E:=@PySem.W.mg_none_of
abbrev aRI:=@PySem.Heap.size_push
abbrev aT6:=@PySem.wpAny_truthy_bool
abbrev aPZ:=@List.find?_cons_of_neg
abbrev azY:=@PySem.sizeLine_eq
abbrev aqK:=@List.take_length
abbrev ake:=@Array.toList_append
abbrev apQ:=@List.mem_cons
abbrev aNV:=@List.append_assoc
abbrev arH:=@congrArg
abbrev a5T:=@PyProof.Rows.wpS_mono
abbrev aCe:=@List.range_succ
abbrev a4q:=@or_false
abbrev af8:=@List.Nodup.mem_erase_iff
abbrev a2W:=@Array.getElem?_toList
abbrev aWR:=@List.perm_append_comm
abbrev amZ:=@List.filter_cons
abbrev at9:=@if_true
abbrev aAl:=@List.getElem?_eq_none
abbrev bcW:=@List.pairwise_iff_getElem
abbrev am3:=@PySem.wpAny_holding
abbrev anO:=@List.map_congr_left
abbrev aZg:=@Bool.eq_iff_iff
abbrev aJj:=@List.length_take
abbrev aB0:=@Int.le_refl
abbrev aZK:=@PyProof.Rows.callWith_type1
abbrev a6N:=@List.nodup_nil
abbrev aOE:=@decide_eq_false_iff_not
abbrev aNW:=@List.lookup_cons
abbrev aU3:=@Nat.lt_irrefl
abbrev aAz:=@PySem.wpAny_seqItems
abbrev awZ:=@Nat.lt_succ_of_lt
abbrev al7:=@List.find?_cons_of_pos
abbrev abU:=@Nat.lt_trichotomy
abbrev akb:=@List.length_erase_of_mem
abbrev aOr:=@List.append_nil
abbrev aSi:=@List.eq_nil_of_length_eq_zero
abbrev aJd:=@Int.le_trans
abbrev aSd:=@List.getElem_mem
abbrev azg:=@List.filter_append
abbrev ai2:=@PySem.wpAny_rule
abbrev aMf:=@List.length_pos_of_mem
abbrev aGg:=@Option.map_some
abbrev bab:=@List.reverse_append
abbrev a3H:=@Nat.ne_of_gt
abbrev aQx:=@PySem.wpAny_field
abbrev afH:=@PyProof.Rows.wpS_modify
abbrev ayu:=@Nat.lt_succ_self
abbrev aLU:=@List.mem_of_mem_erase
abbrev aE1:=@decide_eq_decide
abbrev bbV:=@List.mem_flatMap
abbrev ajk:=@PySem.Heap.get?_update_self
abbrev aK1:=@List.take_succ
abbrev aL9:=@List.Pairwise.sublist
abbrev baf:=@PySem.wpAny_letGo
abbrev a3r:=@List.mem_append_left
abbrev acH:=@List.length_erase_le
abbrev aAi:=@decide_false
abbrev aW9:=@List.pairwise_append
abbrev aGA:=@Nat.sub_self
abbrev aov:=@List.mem_append
abbrev aqI:=@List.length_range
abbrev aNj:=@List.ext_getElem?
abbrev aoq:=@List.countP_congr
abbrev aKw:=@List.filterMap_cons
abbrev az0:=@Bool.false_and
abbrev aEb:=@List.getElem?_range
abbrev a0Y:=@PyProof.Rows.wpS_get
abbrev a5P:=@List.countP_eq_length_filter
abbrev aa0:=@Nat.le_succ
abbrev aGM:=@List.length_drop
abbrev ax7:=@PySem.Calls.callWith_builtin
abbrev az2:=@decide_true
abbrev aoz:=@PySem.Calls.spliced_cons
abbrev aTN:=@PySem.wpAny_Call_Name_kw
abbrev a3U:=@Nat.zero_add
abbrev aTI:=@List.mem_replicate
abbrev aDL:=@PySem.wpAny_passesOwn
abbrev aN3:=@PySem.plainId_quiet
abbrev bcE:=@PySem.F.slot_tuple_iterator_next
abbrev amG:=@Array.perm_iff_toList_perm
abbrev aNI:=@List.mem_singleton
abbrev aol:=@PySem.wpAny_newObj_type
abbrev aQ6:=@PySem.wpAny_pyIter_list
abbrev ahx:=@List.take_of_length_le
abbrev aQq:=@List.drop_of_length_le
abbrev a77:=@Array.toList_push
abbrev aPf:=@beq_iff_eq
abbrev aIp:=@List.mem_iff_getElem
abbrev aau:=@List.drop_eq_getElem_cons
abbrev aZ4:=@Classical.byContradiction
abbrev asJ:=@PySem.W.kia_one
abbrev aq1:=@PySem.F.plain_max_loop
abbrev amA:=@PySem.F.plain_min_loop
abbrev aGJ:=@List.take_append_drop
abbrev aNx:=@beq_eq_false_iff_ne
abbrev a5u:=@PySem.mem_of_lookup
abbrev bbb:=@List.length_pos_iff
abbrev ajH:=@PySem.F.plainAttrs_dict
abbrev ak8:=@PySem.wpAny_callSpecial?_slot
abbrev au5:=@PyProof.Rows.listUpdate_at
abbrev aj7:=@PySem.W.kia_tup
abbrev aCI:=@Bool.or_eq_true
abbrev a4l:=@PySem.wpAny_updateSeq
abbrev aVm:=@PySem.wpAny_setField_rec
abbrev aby:=@Int.emod_lt_of_pos
abbrev aTd:=@List.Nodup.sublist
abbrev aY4:=@List.all_eq_true
abbrev ap2:=@PyProof.Rows.wpS_reverse
abbrev aBr:=@PyProof.Rows.mirror_perm
abbrev azS:=@Bool.not_eq_true'
abbrev a1I:=@PySem.wpAny_tryCatch
abbrev a2H:=@List.length_nil
abbrev aDs:=@PySem.Calls.evalArgs_plain
abbrev aKR:=@PySem.wpAny_pyIter_zip
abbrev a7p:=@PySem.Around.under_plainId
abbrev ab1:=@PySem.wpAny_call_entry
abbrev abY:=@Array.toList_extract
abbrev aEu:=@Array.getElem_toList
abbrev axR:=@List.perm_ext_iff_of_nodup
abbrev aeP:=@Sum.inl.inj
abbrev abT:=@List.any_eq_true
abbrev azy:=@PySem.Heap.get?_update_ne
abbrev a33:=@List.countP_eq_zero
abbrev a5m:=@List.getElem?_eq_none_iff
abbrev aZ2:=@Int.emod_nonneg
abbrev bb8:=@List.replicate_succ'
abbrev amM:=@List.zip_cons_cons
abbrev aSs:=@PySem.tupleKind_room_in1
abbrev aGH:=@PySem.F.slot_list_remove
abbrev a3w:=@PySem.F.type_list_remove
abbrev a15:=@List.nodup_append
abbrev aGN:=@List.replicate_succ
abbrev aKp:=@List.length_reverse
abbrev aii:=@List.eraseIdx_cons_succ
abbrev a3v:=@List.getElem?_cons_succ
abbrev a0z:=@PySem.Calls.spliced_nil
abbrev awc:=@List.flatten_cons
abbrev ahp:=@PyProof.noPylong_small
abbrev aaP:=@List.drop_eq_nil_of_le
abbrev a5C:=@PySem.wpAny_standAt
abbrev aUH:=@Bool.not_true
abbrev af9:=@List.length_singleton
abbrev aIq:=@List.any_eq_true
abbrev ae6:=@List.erase_of_not_mem
abbrev agp:=@List.countP_cons
abbrev aou:=@PySem.F.slot_dict_get
abbrev awg:=@Array.getElem_extract
abbrev aHo:=@List.forIn_cons
abbrev aPP:=@Nat.sub_zero
abbrev ao5:=@List.getElem?_of_mem
abbrev a2x:=@Array.Perm.refl
abbrev adj:=@Nat.add_le_add_right
abbrev bav:=@Array.toList_reverse
abbrev a04:=@Nat.add_zero
abbrev aX2:=@Int.zero_add
abbrev a6o:=@List.mem_erase_of_ne
abbrev ai0:=@List.Perm.refl
namespace L2
open PySem PySem.Spec PyProof.Rows
abbrev Key:=Sum Int Str
def iP:Key->Value->Bool
 | .inl k,v=>Value.isInt k v
 | .inr x,v=>Value.isStrOf x v
def DT (w:World):Key->Int
 | .inl k=>hashInt k
 | .inr x=>hashStr w x
theorem ZJ:∀ {k:Key} {v:Value},iP k v=true->(∃ i t,k=Sum.inl i/\v=Value.int i t)\/(∃ x t,k=Sum.inr x/\v=Value.str x t)
 | .inl i,v,h=>by
  obtain ⟨t,e⟩:=Value.isInt_shape (k:=i) (v:=v) h
  exact .inl ⟨i,t,rfl,e⟩
 | .inr x,v,h=>by
  obtain ⟨t,e⟩:=Value.isStrOf_shape (x:=x) (v:=v) h
  exact .inr ⟨x,t,rfl,e⟩
theorem VS (i:Int) (t:Tok):iP (.inl i) (.int i t)=true:=by simp [iP,Value.isInt]
theorem VR (x:Str) (t:Tok):iP (.inr x) (.str x t)=true:=by simp [iP,Value.isStrOf]
theorem Ss (a b:Int):decide ((Sum.inl a:Key)=Sum.inl b)=(a == b):=by
 by_cases e:a=b
 .subst e; simp
 .have h:¬ (Sum.inl a:Key)=Sum.inl b:=λq=>e (aeP q)
  rw [aXf h]
  exact (aNx.mpr e).symm
theorem Sq (a b:Str):decide ((Sum.inr a:Key)=Sum.inr b)=decide (a=b):=by
 by_cases e:a=b
 .subst e; simp
 .have h:¬ (Sum.inr a:Key)=Sum.inr b:=λq=>e (Sum.inr.inj q)
  rw [aXf h,aXf e]
theorem So (a:Int) (b:Str):decide ((Sum.inl a:Key)=Sum.inr b)=false:=aXf (λq=>nomatch q)
theorem Sn (a:Str) (b:Int):decide ((Sum.inr a:Key)=Sum.inl b)=false:=aXf (λq=>nomatch q)
def ZG (prog:Program) (w:World):PySem.KeyKind prog w Key where
 is:=iP
 hash:=DT w
 inj:=λv a b ha hb=>by
  rcases ZJ ha with ⟨i,t,rfl,rfl⟩ | ⟨x,t,rfl,rfl⟩
  .rcases ZJ hb with ⟨j,u,rfl,e⟩ | ⟨y,u,rfl,e⟩
   .injection e with e1 _; rw [e1]
   .exact nomatch e
  .rcases ZJ hb with ⟨j,u,rfl,e⟩ | ⟨y,u,rfl,e⟩
   .exact nomatch e
   .injection e with e1 _; rw [e1]
 byValue:=λk v h=>by
  rcases ZJ h with ⟨i,t,rfl,rfl⟩ | ⟨x,t,rfl,rfl⟩ <;> rfl
 pyHash:=λhv h=>by
  rcases ZJ hv with ⟨i,t,rfl,rfl⟩ | ⟨x,t,rfl,rfl⟩
  .exact wpAny_pyHash_int h
  .exact wpAny_pyHash_str h
 eqBool:=λhu hv h=>by
  rcases ZJ hu with ⟨i,t,rfl,rfl⟩ | ⟨x,t,rfl,rfl⟩
  .rcases ZJ hv with ⟨j,u,rfl,rfl⟩ | ⟨y,u,rfl,rfl⟩
   .rw [Ss] at h; exact wpAny_eqBool_int h
   .rw [So] at h; exact SeqAt.EqAt.int_str i t y u _ _ _ _ h
  .rcases ZJ hv with ⟨j,u,rfl,rfl⟩ | ⟨y,u,rfl,rfl⟩
   .rw [Sn] at h; exact SeqAt.EqAt.str_int x t j u _ _ _ _ h
   .rw [Sq] at h; exact wpAny_eqBool_str h
 «strs»:=λk x t v h=>by
  rcases ZJ h with ⟨i,u,rfl,e⟩ | ⟨y,u,rfl,e⟩
  .exact nomatch e
  .injection e with e1 _
   subst e1
   cases v <;> rfl
theorem V7 (prog:Program) (w:World) (i:Int) (t:Tok):(ZG prog w).is (.inl i) (.int i t)=true:=VS i t
theorem V6 (prog:Program) (w:World) (x:Str) (t:Tok):(ZG prog w).is (.inr x) (.str x t)=true:=VR x t
inductive V where
 | aX | bl (b:Bool) | int (i:Int) | str (x:Str) | kg (b:Array UInt8) | pX (b:UInt64) | ref (a:Addr) | ty (n:String)
 deriving DecidableEq
def RelV:V->Value->Prop
 | .aX,u=>u=Value.none
 | .bl b,u=>u=Value.bool b
 | .int i,u=>∃ t,u=Value.int i t
 | .str x,u=>∃ t,u=Value.str x t
 | .kg b,u=>∃ t,u=Value.bytes b t
 | .pX b,u=>∃ t,u=Value.float b t
 | .ref a,u=>u=Value.ref a
 | .ty n,u=>u=Value.type n
abbrev Vals:List V->List Value->Prop:=Paired RelV
theorem Vals.length {xs:List V} {us:List Value} (r:Vals xs us):xs.length=us.length:=Paired.length r
theorem Vals.get:∀ {xs:List V} {us:List Value} {i:Nat} {x:V},Vals xs us->xs[i]?=some x->∃ u,us[i]?=some u/\RelV x u
 | _,_,_,_,.nil,e=>by simp at e
 | _,_,0,_,.cons r _,e=>by simp at e; subst e; exact ⟨_,rfl,r⟩
 | _,_,i+1,x,.cons _ t,e=>by
  obtain ⟨u,h1,h2⟩:=Vals.get (i:=i) (x:=x) t (by simpa using e)
  exact ⟨u,by simpa using h1,h2⟩
theorem Vals.set {x:V} {u:Value} (r:RelV x u):∀ {xs:List V} {us:List Value} (i:Nat),Vals xs us->Vals (xs.set i x) (us.set i u)
 | _,_,_,.nil=>.nil
 | _,_,0,.cons _ t=>.cons r t
 | _,_,i+1,.cons q t=>.cons q (Vals.set r i t)
theorem Vals.append:∀ {xs ys:List V} {us ws:List Value},Vals xs us->Vals ys ws->Vals (xs++ys) (us++ws)
 | _,_,_,_,.nil,s=>s
 | _,_,_,_,.cons r t,s=>.cons r (Vals.append t s)
theorem Vals.take:∀ {xs:List V} {us:List Value} (n:Nat),Vals xs us->Vals (xs.take n) (us.take n)
 | _,_,0,_=>.nil
 | _,_,_+1,.nil=>.nil
 | _,_,n+1,.cons r t=>.cons r (Vals.take n t)
theorem Vals.drop:∀ {xs:List V} {us:List Value} (n:Nat),Vals xs us->Vals (xs.drop n) (us.drop n)
 | _,_,0,r=>r
 | _,_,_+1,.nil=>.nil
 | _,_,n+1,.cons _ t=>Vals.drop n t
theorem Vals.none_of:∀ {xs:List V} {us:List Value} {i:Nat},Vals xs us->xs[i]?=none->us[i]?=none:=λ{xs us i} r e=>by
 have h1:=r.length
 have h2:xs.length<=i:=a5m.mp e
 exact a5m.mpr (by lia)
def cL:Option V->Option Value->Prop
 | some v,some u=>RelV v u
 | none,none=>True
 | _,_=>False
def KV {κ:Type}:List (κ×V)->List (κ×Value)->Prop:=Paired λ(p:κ×V) (q:κ×Value)=>p.1=q.1/\RelV p.2 q.2
def kV:Key->V
 | .inl i=>.int i
 | .inr x=>.str x
inductive HO where
  | lst (xs:List V)
  | tup (xs:List V)
  | dK (kvs:List (Key×V)) | dT (kvs:List (List Key×V))
  | set (S:Int->Bool) (n:Nat)
  | ins (C dx:Addr) (fs:List (Str×V))
  | own (x:Addr)
  | xd (fs:List (Str×V))
  | met (f x:Addr)
  | C5 (lo hi:Int)
  | bC (o:Obj) (u:HO)
  | iU (pos:Pos) (qual:Str)
  | ext (φ:Heap->Prop)
abbrev Hp:=Addr->Option HO
def upd (H:Hp) (a:Addr) (o:HO):Hp:=λb=>if b=a then some o else H b
theorem Za {H:Hp} {a:Addr} {o:HO}:upd H a o a=some o:=by unfold upd; rw [aHZ rfl]
theorem Ze {H:Hp} {a b:Addr} {o:HO} (h:b≠a):upd H a o b=H b:=by unfold upd; rw [bd2 h]
theorem tY {H:Hp} {a:Addr} {o u:HO}:upd (upd H a o) a u=upd H a u:=by
 funext b; unfold upd; split <;> rfl
theorem qK {H:Hp} {a b:Addr} {o u:HO} (h:H a=some o) (h':H b=some u) (d:o≠u):a≠b:=by
 intro e; subst e; rw [h] at h'; exact d (bcC h')
theorem Zb {H:Hp} {a b:Addr} {o:HO} (h:H a=some o) (h':H b=none):a≠b:=by
 intro e; subst e; rw [h] at h'; cases h'
section
variable (P:Program) (w:World)
def aJ (H:Hp) (h:Heap) (a:Addr):HO->Prop
 | .lst xs=>xs.length<=sizeLine/\∃ (its:List Value) (n:Nat),Vals xs its/\h.get? a=some { cls:=.type "list",data:=.seq its.toArray n }
 | .tup xs=>xs.length<=sizeLine/\∃ its:List Value,Vals xs its/\IsTup h a its.toArray
 | .dK kvs=>kvs.length<=sizeLine/\(a == sysModules)=false/\∃ vs,KV kvs vs/\h.DictOf (ZG P w) a vs
 | .dT kvs=>kvs.length<=sizeLine/\(a == sysModules)=false/\∃ xs:List (List Key×Addr×Value),
   Paired (λ(p:List Key×V) (q:List Key×Addr×Value)=>p.1=q.1/\H q.2.1=some (.tup (p.1.map kV))/\RelV p.2 q.2.2) kvs xs /\
   ∃ o es ep,h.get? a=some o/\o.ExactDict/\o.data=.dict es ep/\es.toList=xs.map (entryOfKey (tupleKind (ZG P w)))/\(xs.map (·.1)).Nodup
 | .set S n=>h.SetOf (intKind P w) a S n
 | .ins C dx fs=>H dx=some (.own a)/\fs.length<=1000/\dx≠a/\h.get? a=some (W.instObj C dx) /\
   ∃ mA,h.Ns1 dx mA/\(∀ f,cL (fs.lookup f) (mA f))/\PySem.Within mA (fs.map (·.1))
 | .own _=>∃ o,h.get? a=some o
 | .xd fs=>∃ mA,h.Ns1 a mA/\∀ f,cL (fs.lookup f) (mA f)
 | .C5 lo hi=>∃ t u v,h.get? a=some { cls:=.type "range",data:=.fields #[.int lo t,.int hi u,.int 1 v] }
 | .bC o u=>h.get? a=some o/\aJ H h a u
 | .iU pos qual=>∃ ps,h.get? a=some { cls:=.none,data:=.fields ps }/\TriplesOk ps.toList/\∀ cv,codeAmong pos ps.toList=some cv->∃ c oc vs t,cv=.ref c/\H c=some (.bC oc (.own a))/\oc.data=.fields vs/\vs[1]?=some (.str qual t)
 | .met f x=>h.get? a=some (W.methodObj (.ref f) (.ref x))
 | .ext φ=>φ h/\(∃ o,h.get? a=some o)/\∀ h1 h2:Heap,φ h1->(∀ o,h1.get? a=some o->h2.get? a=some o)->φ h2
def dz (H:Hp) (h:Heap):Prop:=∀ a o,H a=some o->aJ P w H h a o
end
section
variable {P:Program} {w:World} {H H':Hp} {h h':Heap} {a:Addr} {o:HO}
theorem aJ.lt (x:aJ P w H h a o):a<h.objs.size:=by
 cases o with
 | lst xs=>obtain ⟨_,_,_,_,e⟩:=x; exact aP5 e
 | tup xs=>obtain ⟨_,_,_,p⟩:=x; exact p.lt
 | dK kvs=>obtain ⟨_,_,_,_,o,_,_,e,_⟩:=x; exact aP5 e
 | dT kvs=>obtain ⟨_,_,_,_,o,_,_,e,_⟩:=x; exact aP5 e
 | set S n=>obtain ⟨o,_,_,_,e,_⟩:=x; exact aP5 e
 | ins C dx fs=>obtain ⟨_,_,_,e,_⟩:=x; exact aP5 e
 | own y=>obtain ⟨_,e⟩:=x; exact aP5 e
 | xd fs=>obtain ⟨_,⟨_,_,_,e,_⟩,_⟩:=x; exact aP5 e
 | C5 lo hi=>obtain ⟨_,_,_,e⟩:=x; exact aP5 e
 | bC ob u=>obtain ⟨e,_⟩:=x; exact aP5 e
 | iU p q=>obtain ⟨_,e,_⟩:=x; exact aP5 e
 | met f y=>exact aP5 (show h.get? a=some _ from x)
 | ext φ=>obtain ⟨_,⟨_,e⟩,_⟩:=x; exact aP5 e
theorem Paired.se {α β:Type} {F G:α->β->Prop}:∀ {l₁:List α} {l₂:List β},Paired F l₁ l₂->(∀ a b,F a b->G a b)->Paired G l₁ l₂
 | _,_,.nil,_=>.nil
 | _,_,.cons r t,f=>.cons (f _ _ r) (Paired.se t f)
theorem aJ.stay (x:aJ P w H h a o) (k:∀ b u,(b=a\/H b=some (.own a))->h.get? b=some u->h'.get? b=some u)
  (ho:∀ b,H b=some (.own a)->H' b=some (.own a)) (ht:∀ b xs,H b=some (.tup xs)->H' b=some (.tup xs))
  (hz:∀ b oz,H b=some (.bC oz (.own a))->H' b=some (.bC oz (.own a)):=by exact λ_ _ q=>q):aJ P w H' h' a o:=by
 induction o with
 | lst xs=>obtain ⟨z,its,n,r,e⟩:=x; exact ⟨z,its,n,r,k _ _ (.inl rfl) e⟩
 | tup xs=>obtain ⟨z,its,r,ob,e,c⟩:=x; exact ⟨z,its,r,ob,k _ _ (.inl rfl) e,c⟩
 | dK kvs=>obtain ⟨z,y,vs,r,ob,es,ep,e,c⟩:=x; exact ⟨z,y,vs,r,ob,es,ep,k _ _ (.inl rfl) e,c⟩
 | dT kvs =>
  obtain ⟨z,y,xs,r,ob,es,ep,e,c⟩:=x
  exact ⟨z,y,xs,Paired.se r λp q z=>⟨z.1,ht _ _ z.2.1,z.2.2⟩,ob,es,ep,k _ _ (.inl rfl) e,c⟩
 | set S n=>obtain ⟨ob,es,ep,t,e,c⟩:=x; exact ⟨ob,es,ep,t,k _ _ (.inl rfl) e,c⟩
 | ins C dx fs =>
  obtain ⟨d,z,ne,e,mA,⟨od,es,ep,e2,c⟩,r⟩:=x
  exact ⟨ho _ d,z,ne,k _ _ (.inl rfl) e,mA,⟨od,es,ep,k _ _ (.inr d) e2,c⟩,r⟩
 | own y=>obtain ⟨ob,e⟩:=x; exact ⟨ob,k _ _ (.inl rfl) e⟩
 | xd fs=>obtain ⟨mA,⟨od,es,ep,e,c⟩,r⟩:=x; exact ⟨mA,⟨od,es,ep,k _ _ (.inl rfl) e,c⟩,r⟩
 | C5 lo hi=>obtain ⟨t,u,v,e⟩:=x; exact ⟨t,u,v,k _ _ (.inl rfl) e⟩
 | bC ob u ih=>obtain ⟨e,q⟩:=x; exact ⟨k _ _ (.inl rfl) e,ih q⟩
 | iU p q =>
  obtain ⟨ps,e,tr,hc⟩:=x
  refine ⟨ps,k a _ (.inl rfl) e,tr,λcv e1=>?_⟩
  obtain ⟨c,oc,vs,tt,z,e2,r⟩:=hc cv e1
  exact ⟨c,oc,vs,tt,z,hz _ _ e2,r⟩
 | met f y =>
  have e:h.get? a=some (W.methodObj (.ref f) (.ref y)):=x
  show h'.get? a=some (W.methodObj (.ref f) (.ref y))
  exact k a _ (.inl rfl) e
 | ext φ=>obtain ⟨p,⟨o,e⟩,st⟩:=x; exact ⟨st _ _ p λo q=>k _ _ (.inl rfl) q,⟨o,k _ _ (.inl rfl) e⟩,st⟩
theorem dz.lt (x:dz P w H h) (e:H a=some o):a<h.objs.size:=(x a o e).lt
theorem dz.fresh (x:dz P w H h) (e:h.objs.size<=a):H a=none:=by
 cases q:H a with
 | none=>rfl
 | some u=>exact absurd (aMc (x.lt q) e) (aU3 _)
theorem dz.kept (x:dz P w H h) (k:∀ b u,h.get? b=some u->h'.get? b=some u):dz P w H h':=λa o e =>
 (x a o e).stay (λb u _ q=>k b u q) (λ_ q=>q) λ_ _ q=>q
theorem dz.laid (x:dz P w H h) (k:∀ b u,h.get? b=some u->h'.get? b=some u) (hp:h.objs.size<=a) (new:aJ P w (upd H a o) h' a o):dz P w (upd H a o) h':=λb u e=>by
 have hn:=x.fresh hp
 by_cases hb:b=a
 .subst hb; rw [Za] at e; cases e; exact new
 .rw [Ze hb] at e
  exact (x b u e).stay (λc v _ q=>k c v q) (λc q=>by rw [Ze (Zb q hn)]; exact q) (λc xs q=>by rw [Ze (Zb q hn)]; exact q) λc oz q=>by rw [Ze (Zb q hn)]; exact q
end
def Rd (H:Hp) (a:Addr) (u:HO):Prop:=H a=some u\/∃ o,H a=some (.bC o u)
theorem Rd.ok {P:Program} {w:World} {H:Hp} {h:Heap} {a:Addr} {u:HO} (r:Rd H a u) (x:dz P w H h):aJ P w H h a u:=by
 rcases r with r | ⟨o,r⟩
 .exact x a u r
 .obtain ⟨_,q⟩:=x a _ r
  exact q
def zo:Option HO->Prop
 | some (.lst _)=>True
 | some (.dK _)=>True
 | some (.dT _)=>True
 | some (.set _ _)=>True
 | some (.ins _ _ _)=>True
 | some (.ext _)=>True
 | _=>False
section
variable {P:Program} {w:World} {H:Hp} {h h':Heap} {x e:Addr} {o':HO}
theorem dz.write (ok:dz P w H h) (mu:zo (H x)) (he:e=x\/H e=some (.own x)) (k:∀ b u,b≠e->h.get? b=some u->h'.get? b=some u) (uT:∃ u,h'.get? e=some u)
  (new:aJ P w (upd H x o') h' x o'):dz P w (upd H x o') h':=λb u q=>by
 have xg:∀ c y,H c=some (.own y)->c≠x:=λc y r z=>by subst z; rw [r] at mu; exact mu
 have Dw:∀ c xs,H c=some (.tup xs)->c≠x:=λc xs r z=>by subst z; rw [r] at mu; exact mu
 by_cases hb:b=x
 .subst hb; rw [Za] at q; cases q; exact new
 .rw [Ze hb] at q
  by_cases sU:b=e
  .have q':H b=some (.own x):=by
    rcases he with z | z
    .exact absurd (sU.trans z) hb
    .rw [sU]; exact z
   rw [q] at q'; cases q'
   obtain ⟨v,hv⟩:=uT
   exact ⟨v,by rw [sU]; exact hv⟩
  .refine (ok b u q).stay (λc v hc r=>k c v ?_ r) (λc r=>by rw [Ze (xg c b r)]; exact r) (λc xs r=>by rw [Ze (Dw c xs r)]; exact r) λc oz r=>by rw [Ze (λz=>by subst z; rw [r] at mu; exact mu)]; exact r
   rcases hc with rfl | hc
   .exact sU
   .rintro rfl
    rcases he with z | z
    .exact xg c b hc z
    .rw [hc] at z; cases z; exact hb rfl
end
structure Un (fs ex:List Addr) (H H':Hp) (h h':Heap):Prop where
 keep:∀ b o,h.get? b=some o->H b=none->b∉fs->b∉ex->h'.get? b=some o
 slot:∀ b o,h.get? b=some o->H b=none->b∈fs->b∉ex->∃ sl,h'.get? b=some { o with slots:=sl }
 free:∀ b o,h.get? b=some o->H b=none->b∉ex->H' b=none
 there:∀ b o,h.get? b=some o->b∉ex->∃ o',h'.get? b=some o'
 tups:∀ b xs,H b=some (.tup xs)->H' b=some (.tup xs)
 gH:∀ b o u,H b=some (.bC o u)->H' b=some (.bC o u)
 gR:∀ b p q,H b=some (.iU p q)->H' b=some (.iU p q)
section
variable {fs fs' ex ex':List Addr} {H H1 H2:Hp} {h h1 h2 h':Heap} {a x e:Addr} {o:HO}
theorem Un.any (u:Un fs ex H H1 h h1) {b:Addr} {ob:Obj} (q:h.get? b=some ob) (n:H b=none) (hx:b∉ex):∃ sl,h1.get? b=some { ob with slots:=sl }:=by
 by_cases hb:b∈fs
 .exact u.slot b ob q n hb hx
 .exact ⟨ob.slots,u.keep b ob q n hb hx⟩
theorem Un.kept (k:∀ b u,h.get? b=some u->h'.get? b=some u):Un fs ex H H h h' :=
 ⟨λb ob q _ _ _=>k b ob q,λb ob q _ _ _=>⟨ob.slots,k b ob q⟩,λ_ _ _ n _=>n,λb ob q _=>⟨ob,k b ob q⟩,λ_ _ q=>q,λ_ _ _ q=>q,λ_ _ _ q=>q⟩
theorem Un.refl:Un fs ex H H h h:=Un.kept λ_ _ q=>q
theorem Un.laid (k:∀ b u,h.get? b=some u->h'.get? b=some u) (hp:h.objs.size<=a) (hn:H a=none):Un fs ex H (upd H a o) h h' where
 keep:=λb u q _ _ _=>k b u q
 slot:=λb u q _ _ _=>⟨u.slots,k b u q⟩
 free:=λb u q n _=>by rw [Ze (a0P (aMc (aP5 q) hp))]; exact n
 there:=λb u q _=>⟨u,k b u q⟩
 tups:=λb xs q=>by rw [Ze (Zb q hn)]; exact q
 gH:=λb u xs q=>by rw [Ze (Zb q hn)]; exact q
 gR:=λb _ _ q=>by rw [Ze (Zb q hn)]; exact q
theorem Un.write (mu:zo (H x)) (he:e=x\/H e=some (.own x)) (k:∀ b u,b≠e->h.get? b=some u->h'.get? b=some u) (uT:∃ u,h'.get? e=some u):Un fs ex H (upd H x o) h h':=by
 have hx:∀ b,H b=none->b≠x:=λb n z=>by subst z; rw [n] at mu; exact mu
 have hb:∀ b,H b=none->b≠e:=λb n z=>by
  subst z
  rcases he with r | r
  .exact hx b n r
  .rw [n] at r; cases r
 have hm:∀ b u,H b=some u->¬ zo (some u)->b≠x:=λb u q nm z=>by subst z; rw [q] at mu; exact nm mu
 refine ⟨λb u q n _ _=>k b u (hb b n) q,λb u q n _ _=>⟨u.slots,k b u (hb b n) q⟩,λb u q n _=>by rw [Ze (hx b n)]; exact n,λb u q _=>?_,
  λb xs q=>by rw [Ze (hm b _ q λz=>z)]; exact q,λb u xs q=>by rw [Ze (hm b _ q λz=>z)]; exact q,λb _ _ q=>by rw [Ze (hm b _ q λz=>z)]; exact q⟩
 by_cases sU:b=e
 .subst sU; exact uT
 .exact ⟨u,k b u sU q⟩
end
def zP (h:Heap) (H:Hp):List Addr:=(List.range h.objs.size).filter λa=>(H a).isSome
def i8 (h:Heap) (H:Hp):Heap:=W.hideAll h (zP h H)
theorem VQ (h:Heap) (H:Hp):(i8 h H).objs.size=h.objs.size:=W.hideAll_size _ _
theorem F1 {h:Heap} {H:Hp} {b:Addr} {o:Obj} (e:h.get? b=some o) (n:H b=none):(i8 h H).get? b=some o :=
 W.hideAll_get _ e λhm=>by
  have q:(H b).isSome=true:=(apP.mp hm).2
  rw [n] at q; simp at q
theorem Sl {h:Heap} {H:Hp} {b:Addr} {o:Obj} (e:(i8 h H).get? b=some o):h.get? b=some o/\H b=none:=by
 have e':h.get? b=some o:=W.of_hideAll (zP h H) e
 refine ⟨e',?_⟩
 cases q:H b with
 | none=>rfl
 | some x =>
  have hm:b∈zP h H:=apP.mpr ⟨a1N.mpr (aP5 e'),by simp [q]⟩
  have z:(i8 h H).get? b=none:=W.hideAll_none (zP h H) hm
  rw [z] at e; cases e
structure Mod (K:W.Frag) (mg:Str->Option Value) (base:Heap):Prop where
 xE:K.In base
 glob:base.Ns mainGlobals mg
 blt:∃ mb,base.Ns builtinsNs mb/\∀ x:Str,x ≠ "__name__" -> mb x=bootBuiltins x
 nolimit:base.NoLimit
structure Cx where
 prog:Program
 w:World
 K:W.Frag
 mg:Str->Option Value
 base:Heap
 A:Around
 N:List Str
 s₀:Shared
 H₀:Hp
 env:Env
 outer:List Env
 stack:List Env
 ex:List Addr
 fn:Str->Bool
 calm:Bool
 pn:List (Addr×Obj)
 xe:Value->Shared->Prop
def frs (l:List Env):List Addr:=l.filterMap (·.frame)
abbrev Cx.fs (X:Cx):List Addr:=frs X.outer
def vD (sc:Scope) (x:Str):Prop:=sc.names.lookup x=some .local\/sc.names.lookup x=some .cell\/sc.names.lookup x=some .free
def Loc (sc:Scope) (x:Str):Prop:=sc.names.lookup x=some .local\/sc.names.lookup x=some .cell
def Look (env:Env) (h:Heap) (m:Str->Option Value) (x:Str) (u:Value):Prop :=
 (env.kindOf x=some .local/\m x=some u)\/((env.kindOf x=some .cell\/env.kindOf x=some .free)/\∃ c,env.cells.lookup x=some c/\h.IsCell c (some u))
structure Cx.Ok (X:Cx):Prop where
 mod:Mod X.K X.mg X.base
 kind:X.env.scope.kind=.function
 glob:X.env.globals=mainGlobals
 blt:X.env.builtins=builtinsNs
 above:X.s₀.heap.objs.size<=X.env.locals
 inj:∀ x y c,X.env.cells.lookup x=some c->X.env.cells.lookup y=some c->x=y
 has:∀ x,(X.env.kindOf x=some .cell\/X.env.kindOf x=some .free)->∃ c,X.env.cells.lookup x=some c
 yq:∀ x c,X.fn x=true->X.env.cells.lookup x=some c->X.s₀.heap.objs.size<=c
 hd:X.calm=true->X.A.handled=none
 frames:X.A.frames=some X.stack
 stk:X.stack=X.outer\/(X.stack=X.env :: X.outer/\X.env.frame=some X.env.locals)
 Ay:∀ b∈X.ex,b≠X.env.locals/\∀ x c,X.env.cells.lookup x=some c->c≠b
 bs:∀ b o,X.base.get? b=some o->X.s₀.heap.get? b=some o/\X.H₀ b=none
 o9:X.base.objs.size<=X.s₀.heap.objs.size
 nG:∀ b o,X.base.get? b=some o->b∉X.ex
 n8:∀ b∈X.ex,b∉X.fs
 gG:X.s₀.heap.FunFrames X.base X.outer
 tD:∀ b∈X.fs,X.H₀ b=none
structure Inv (X:Cx) (pins:List (Addr×Obj)) (σ:List (Option V)) (H:Hp) (s:Shared):Prop where
 ok:X.Ok
 os:s.os=X.s₀.os
 bare:AllBare s.gens
 base:Un X.fs X.ex X.H₀ H X.s₀.heap s.heap
 loc:∃ m,s.heap.Ns X.env.locals m/\∀ (i:Nat) (x:Str) (v:V),X.N[i]?=some x->σ[i]?=some (some v)->vD X.env.scope x->∃ u,RelV v u/\Look X.env s.heap m x u
 cell:∀ x c,X.env.cells.lookup x=some c->∃ v,s.heap.IsCell c v
 free:H X.env.locals=none
 cK:∀ x c,X.env.cells.lookup x=some c->H c=none
 pin:∀ p∈X.pn++pins,s.heap.get? p.1=some p.2/\H p.1=none/\p.1≠X.env.locals/\p.1∉X.fs/\∀ v,p.2.data≠.cell v
 hok:dz X.prog X.w H s.heap
 len:σ.length=X.N.length
section
variable {X:Cx} {pins:List (Addr×Obj)} {σ:List (Option V)} {H H':Hp} {s:Shared} {h':Heap}
theorem Cx.Ok.DA (ok:X.Ok) {b:Addr} {o:Obj} (e:X.base.get? b=some o):b∉X.fs:=λhb=>by
 have:=(ok.gG.mem hb).1
 rw [e] at this; cases this
theorem Inv.bs (I:Inv X pins σ H s):∀ b o,X.base.get? b=some o->s.heap.get? b=some o/\H b=none:=λb o e =>
 ⟨I.base.keep b o (I.ok.bs b o e).1 (I.ok.bs b o e).2 (I.ok.DA e) (I.ok.nG b o e),I.base.free b o (I.ok.bs b o e).1 (I.ok.bs b o e).2 (I.ok.nG b o e)⟩
theorem Inv.bk (I:Inv X pins σ H s):∀ b o,X.base.get? b=some o->s.heap.get? b=some o:=λb o e=>(I.bs b o e).1
theorem Inv.mod (I:Inv X pins σ H s):Mod X.K X.mg X.base:=I.ok.mod
theorem Inv.dN (I:Inv X pins σ H s):X.K.In s.heap:=I.ok.mod.xE.keeps I.bk
theorem Inv.nolimit (I:Inv X pins σ H s):s.heap.NoLimit:=I.ok.mod.nolimit.keeps I.bk
theorem Inv.lt (I:Inv X pins σ H s):X.env.locals<s.heap.objs.size:=let ⟨_,hn,_⟩:=I.loc; hn.lt
theorem Inv.sz (I:Inv X pins σ H s):X.s₀.heap.objs.size<=s.heap.objs.size:=ajJ I.ok.above (aM8 I.lt)
theorem Inv.xh (I:Inv X pins σ H s) {a:Addr} (h:s.heap.objs.size<=a):a∉X.fs:=λhb=>by
 obtain ⟨_,o,ho,_⟩:=I.ok.gG.mem hb
 exact absurd (aMc (aP5 ho) (ajJ I.sz h)) (aU3 _)
theorem Inv.o8 (I:Inv X pins σ H s):∀ x c,X.env.cells.lookup x=some c->c≠X.env.locals:=λx c e z=>by
 obtain ⟨v,o,ho,hd⟩:=I.cell x c e
 obtain ⟨m,⟨o',es,ep,ho',hd',_⟩,_⟩:=I.loc
 rw [z,ho'] at ho; cases ho; rw [hd'] at hd; cases hd
theorem Inv.gG (I:Inv X pins σ H s):s.heap.FunFrames X.base X.outer:=by
 have all:∀ (l:List Env),(∀ b∈frs l,b∈X.fs)->X.s₀.heap.FunFrames X.base l->s.heap.FunFrames X.base l:=by
  intro l
  induction l with
  | nil=>intro _ _; trivial
  | cons env r ih =>
   intro hs hl
   obtain ⟨hk,⟨L,o,hf,hn,ho,hd⟩,hr⟩:=hl
   have hL:L∈X.fs:=hs L (by unfold frs; rw [aKw,hf]; exact aTs)
   obtain ⟨sl,e⟩:=I.base.slot L o ho (I.ok.tD L hL) hL λz=>I.ok.n8 L z hL
   exact ⟨hk,⟨L,_,hf,hn,e,hd⟩,ih (λb hb=>hs b (by unfold frs; rw [aKw,hf]; exact akt _ hb)) hr⟩
 exact all X.outer (λ_ hb=>hb) I.ok.gG
theorem Inv.stack (I:Inv X pins σ H s):s.heap.FunFrames X.base X.stack:=by
 rcases I.ok.stk with e | ⟨e,hf⟩
 .rw [e]; exact I.gG
 .rw [e]
  obtain ⟨m,hn,_⟩:=I.loc
  refine .cons (by rw [I.ok.kind]; decide) hf hn ?_ I.gG
  exact Heap.get?_none_of_le (ajJ I.ok.o9 I.ok.above)
theorem Inv.iV (I:Inv X pins σ H s):∀ b∈frs X.stack,b∈X.env.locals :: X.fs:=λb hb=>by
 rcases I.ok.stk with e | ⟨e,hf⟩
 .rw [e] at hb; exact akt _ hb
 .rw [e] at hb
  unfold frs at hb
  rw [aKw,hf] at hb
  exact hb
theorem Inv.iW (I:Inv X pins σ H s):∀ b∈frs X.stack,H b=none:=λb hb=>by
 rcases aDl.mp (I.iV b hb) with e | hb
 .rw [e]; exact I.free
 .obtain ⟨_,o,ho,_⟩:=I.ok.gG.mem hb
  exact I.base.free b o ho (I.ok.tD b hb) λz=>I.ok.n8 b z hb
theorem Inv.step {g':Array GenState} {t':Nat} {d':Drawn} {ch:List Addr} (I:Inv X pins σ H s)
  (hch:∀ b∈ch,(b∈X.ex\/X.s₀.heap.objs.size<=b)/\b≠X.env.locals/\(∀ x c,X.env.cells.lookup x=some c->c≠b)/\∀ p∈X.pn++pins,p.1≠b)
  (keep:∀ b o,b≠X.env.locals->b∉X.fs->b∉ch->s.heap.get? b=some o->H b=none->h'.get? b=some o)
  (slot:∀ b o,b≠X.env.locals->b∈X.fs->b∉ch->s.heap.get? b=some o->H b=none->∃ sl,h'.get? b=some { o with slots:=sl }) (free:∀ b o,b∉ch->s.heap.get? b=some o->H b=none->H' b=none)
  (there:∀ b o,b∉ch->s.heap.get? b=some o->∃ o',h'.get? b=some o')
  (tups:∀ b xs,H b=some (.tup xs)->H' b=some (.tup xs)) (gH:∀ b o u,H b=some (.bC o u)->H' b=some (.bC o u)) (gR:∀ b p q,H b=some (.iU p q)->H' b=some (.iU p q))
  (ns:∀ m,s.heap.Ns X.env.locals m->h'.Ns X.env.locals m) (hok:dz X.prog X.w H' h') (hg:AllBare g') :
  Inv X pins σ H' { s with heap:=h',gens:=g',drawn:=d',toks:=t' }:=by
 have IC:∀ b o,X.s₀.heap.get? b=some o->b≠X.env.locals:=λb o e=>a0P (aMc (aP5 e) I.ok.above)
 have Af:∀ b o,X.s₀.heap.get? b=some o->b∉X.ex->b∉ch:=λb o e hx hb=>by
  rcases (hch b hb).1 with z | z
  .exact hx z
  .exact absurd (aMc (aP5 e) z) (aU3 _)
 have cellK:∀ x c,X.env.cells.lookup x=some c->∀ v,s.heap.IsCell c v->h'.IsCell c v:=λx c e v ⟨o,ho,hd⟩=>by
  have xu:c∉ch:=λz=>(hch c z).2.2.1 x c e rfl
  by_cases hc:c∈X.fs
  .obtain ⟨sl,q⟩:=slot c o (I.o8 x c e) hc xu ho (I.cK x c e)
   exact ⟨_,q,hd⟩
  .exact ⟨o,keep c o (I.o8 x c e) hc xu ho (I.cK x c e),hd⟩
 refine ⟨I.ok,I.os,hg,⟨λb o e n hb hx=>?_,λb o e n hb hx=>?_,λb o e n hx=>?_,λb o e hx=>?_,λb xs e=>tups b xs (I.base.tups b xs e),λb o xs e=>gH b o xs (I.base.gH b o xs e),λb p r e=>gR b p r (I.base.gR b p r e)⟩,?_,λx c e=>?_,?_,λx c e=>?_,λp hp=>?_,hok,I.len⟩
 .exact keep b o (IC b o e) hb (Af b o e hx) (I.base.keep b o e n hb hx) (I.base.free b o e n hx)
 .obtain ⟨sl,e1⟩:=I.base.slot b o e n hb hx
  obtain ⟨N9,e2⟩:=slot b _ (IC b o e) hb (Af b o e hx) e1 (I.base.free b o e n hx)
  exact ⟨N9,e2⟩
 .obtain ⟨o',e1⟩:=I.base.there b o e hx
  exact free b o' (Af b o e hx) e1 (I.base.free b o e n hx)
 .obtain ⟨o',e1⟩:=I.base.there b o e hx
  exact there b o' (Af b o e hx) e1
 .obtain ⟨m,hn,hl⟩:=I.loc
  refine ⟨m,ns m hn,λi x v e1 e2 e3=>?_⟩
  obtain ⟨u,r,l⟩:=hl i x v e1 e2 e3
  refine ⟨u,r,?_⟩
  rcases l with l | ⟨k,c,e,z⟩
  .exact .inl l
  .exact .inr ⟨k,c,e,cellK x c e _ z⟩
 .obtain ⟨v,z⟩:=I.cell x c e
  exact ⟨v,cellK x c e v z⟩
 .obtain ⟨m,⟨o,_,_,ho,_⟩,_⟩:=I.loc
  exact free _ o (λz=>(hch _ z).2.1 rfl) ho I.free
 .obtain ⟨v,o,ho,hd⟩:=I.cell x c e
  exact free c o (λz=>(hch c z).2.2.1 x c e rfl) ho (I.cK x c e)
 .obtain ⟨e,n,ne,nf,d⟩:=I.pin p hp
  have xu:p.1∉ch:=λz=>(hch p.1 z).2.2.2 p hp rfl
  exact ⟨keep p.1 p.2 ne nf xu e n,free p.1 p.2 xu e n,ne,nf,d⟩
theorem Inv.un {t':Nat} (I:Inv X pins σ H s) (u:Un X.fs [] H H' s.heap h') (hok:dz X.prog X.w H' h'):Inv X pins σ H' { s with heap:=h',toks:=t' }:=by
 obtain ⟨m,⟨o,es,ep,ho,r⟩,_⟩:=id I.loc
 obtain ⟨sl,hL⟩:=u.any ho I.free (by simp)
 exact I.step (g':=s.gens) (d':=s.drawn) (ch:=[]) (λ_ z=>nomatch z) (λb o _ hb _ e n=>u.keep b o e n hb (by simp)) (λb o _ hb _ e n=>u.slot b o e n hb (by simp)) (λb o _ e n=>u.free b o e n (by simp)) (λb o _ e=>u.there b o e (by simp)) u.tups u.gH u.gR (λm' hm=>by
  obtain ⟨o',es',AB,ho',r'⟩:=hm
  rw [ho] at ho'; cases ho'
  exact ⟨_,es',AB,hL,r'⟩) hok I.bare
theorem Inv.call {g':Array GenState} {t':Nat} {d':Drawn} {ch:List Addr} (I:Inv X pins σ H s) (u:Un (frs X.stack) ch H H' s.heap h') (hok:dz X.prog X.w H' h') (hg:AllBare g')
  (hch:∀ b∈ch,(b∈X.ex\/X.s₀.heap.objs.size<=b)/\b≠X.env.locals/\(∀ x c,X.env.cells.lookup x=some c->c≠b)/\∀ p∈X.pn++pins,p.1≠b) :
  Inv X pins σ H' { s with heap:=h',gens:=g',drawn:=d',toks:=t' }:=by
 obtain ⟨m,⟨o,es,ep,ho,r⟩,_⟩:=id I.loc
 obtain ⟨sl,hL⟩:=u.any ho I.free λz=>(hch _ z).2.1 rfl
 exact I.step (ch:=ch) hch (λb o hL hb hc e n=>u.keep b o e n (λz=>(aDl.mp (I.iV b z)).elim hL hb) hc) (λb o _ _ hc e n=>u.any e n hc) (λb o hc e n=>u.free b o e n hc) (λb o hc e=>u.there b o e hc) u.tups u.gH u.gR (λm' hm=>by
  obtain ⟨o',es',AB,ho',r'⟩:=hm
  rw [ho] at ho'; cases ho'
  exact ⟨_,es',AB,hL,r'⟩) hok hg
theorem Inv.turned {t':Nat} {it:Addr} (I:Inv X pins σ H s) (k:∀ b o,b≠it->s.heap.get? b=some o->h'.get? b=some o) (hn:H it=none) (hL:it≠X.env.locals)
  (h1:it∈X.ex\/X.s₀.heap.objs.size<=it) (h2:∀ x c,X.env.cells.lookup x=some c->c≠it) (h3:∀ p∈X.pn++pins,p.1≠it):Inv X pins σ H { s with heap:=h',toks:=t' }:=by
 have IA:∀ b u,H b=some u->b≠it:=λb u e z=>by rw [z,hn] at e; cases e
 refine I.step (g':=s.gens) (d':=s.drawn) (ch:=[it]) (λb hb=>?_) (λb o _ _ hc e _=>k b o (λz=>hc (by simp [z])) e) (λb o _ _ hc e _=>⟨o.slots,k b o (λz=>hc (by simp [z])) e⟩) (λ_ _ _ _ n=>n)
  (λb o hc e=>⟨o,k b o (λz=>hc (by simp [z])) e⟩) (λ_ _ e=>e) (λ_ _ _ e=>e) (λ_ _ _ e=>e) (λm hm=>?_) (λb u e=>?_) I.bare
 .have e:b=it:=by simpa using hb
  subst e
  exact ⟨h1,hL,h2,h3⟩
 .obtain ⟨o,es,ep,ho,r⟩:=hm
  exact ⟨o,es,ep,k _ o (aay hL) ho,r⟩
 .refine (I.hok b u e).stay (λc v hc q=>k c v ?_ q) (λ_ q=>q) λ_ _ q=>q
  rcases hc with z | z
  .rw [z]; exact IA b u e
  .exact IA c _ z
theorem Inv.tok (I:Inv X pins σ H s) (t:Nat):Inv X pins σ H { s with toks:=t }:=I.un (h':=s.heap) (t':=t) Un.refl I.hok
theorem Inv.kept {t':Nat} (I:Inv X pins σ H s) (k:∀ b u,s.heap.get? b=some u->h'.get? b=some u):Inv X pins σ H { s with heap:=h',toks:=t' }:=I.un (Un.kept k) (I.hok.kept k)
theorem Inv.laid {a:Addr} {o:HO} {t':Nat} (I:Inv X pins σ H s) (k:∀ b u,s.heap.get? b=some u->h'.get? b=some u) (hp:s.heap.objs.size<=a) (new:aJ X.prog X.w (upd H a o) h' a o) :
  Inv X pins σ (upd H a o) { s with heap:=h',toks:=t' }:=I.un (Un.laid k hp (I.hok.fresh hp)) (I.hok.laid k hp new)
theorem Inv.write {x e:Addr} {o:HO} {t':Nat} (I:Inv X pins σ H s) (mu:zo (H x)) (he:e=x\/H e=some (.own x)) (k:∀ b u,b≠e->s.heap.get? b=some u->h'.get? b=some u) (uT:∃ u,h'.get? e=some u)
  (new:aJ X.prog X.w (upd H x o) h' x o):Inv X pins σ (upd H x o) { s with heap:=h',toks:=t' }:=I.un (Un.write mu he k uT) (I.hok.write mu he k uT new)
theorem Inv.kO {bM:List (Addr×Obj)} (I:Inv X pins σ H s) (h:∀ p∈bM,s.heap.get? p.1=some p.2/\H p.1=none/\p.1≠X.env.locals/\p.1∉X.fs/\∀ v,p.2.data≠.cell v):Inv X bM σ H s :=
 ⟨I.ok,I.os,I.bare,I.base,I.loc,I.cell,I.free,I.cK,λp hp=>(bbY.mp hp).elim (λz=>I.pin p (a3r _ z)) (h p),I.hok,I.len⟩
theorem Mb {N:List Str} (hN:N.Nodup) {i j:Nat} {x:Str} (a:N[i]?=some x) (b:N[j]?=some x):i=j:=by
 obtain ⟨h1,e1⟩:=aWj.mp a
 obtain ⟨h2,e2⟩:=aWj.mp b
 exact (List.getElem_inj hN).mp (e1.trans e2.symm)
theorem Ml {M:Model} {A:Around} {E:Value->Shared->Prop} {i:Nat} {x:Str} {v:V} {u:Value} {Q:Unit->Shared->Prop} (I:Inv X pins σ H s) (hN:X.N.Nodup) (hi:X.N[i]?=some x) (hx:Loc X.env.scope x) (r:RelV v u)
  (h:∀ s',Inv X pins (σ.set i (some v)) H s'->(∃ a,Heap.SameBut a s.heap s'.heap/\(a=X.env.locals\/X.env.cells.lookup x=some a))->Q () s') (hf:X.fn x=true\/X.env.scope.names.lookup x=some .local:=by first | exact .inl rfl | exact .inr rfl | assumption):wpAny M A (storeName X.env x u) Q E s:=by
 obtain ⟨m,hn,hl⟩:=id I.loc
 have hcls:(X.env.scope.kind == .class || (X.env.scope.kind == .module && X.env.locals != X.env.globals))=false:=by rw [I.ok.kind]; rfl
 have xU:i<σ.length:=by rw [I.len]; exact (aWj.mp hi).1
 have o8:=I.o8
 have tracked:∀ {a:Addr} {h':Heap},(∃ o,s.heap.get? a=some o/\H a=none)->Heap.SameBut a s.heap h'->dz X.prog X.w H h':=λ{a h'} ha hs b ob e=>by
  obtain ⟨_,_,hfree⟩:=ha
  refine (I.hok b ob e).stay (λc w' hc q=>(hs.2 c ?_).trans q) (λ_ q=>q) λ_ _ q=>q
  rintro rfl
  rcases hc with rfl | hc
  .rw [hfree] at e; cases e
  .rw [hfree] at hc; cases hc
 rcases hx with hk | hk
 .refine wpAny_storeName_local hk hn (λh' hn' hs=>?_) hcls
  obtain ⟨oL,_,_,uR,_⟩:=id hn
  refine h _ ⟨I.ok,I.os,I.bare,⟨λb o e n hb hx=>?_,λb o e n hb hx=>?_,I.base.free,λb o e hx=>?_,I.base.tups,I.base.gH,I.base.gR⟩,⟨_,hn',λj y v' e1 e2 e3=>?_⟩,λy c e=>?_,I.free,I.cK,λp hp=>?_,tracked ⟨oL,uR,I.free⟩ hs,by simpa using I.len⟩ ⟨_,hs,.inl rfl⟩
  .exact (hs.2 b (a0P (aMc (aP5 e) I.ok.above))).trans (I.base.keep b o e n hb hx)
  .obtain ⟨sl,e1⟩:=I.base.slot b o e n hb hx
   exact ⟨sl,(hs.2 b (a0P (aMc (aP5 e) I.ok.above))).trans e1⟩
  .obtain ⟨o',e1⟩:=I.base.there b o e hx
   exact ⟨o',(hs.2 b (a0P (aMc (aP5 e) I.ok.above))).trans e1⟩
  .by_cases hj:j=i
   .subst hj
    rw [hi] at e1; cases e1
    rw [List.getElem?_set_self xU] at e2
    cases e2
    exact ⟨u,r,.inl ⟨hk,by simp⟩⟩
   .rw [List.getElem?_set_ne (aay hj)] at e2
    obtain ⟨u',r',q⟩:=hl j y v' e1 e2 e3
    refine ⟨u',r',?_⟩
    rcases q with ⟨k,e⟩ | ⟨k,c,e,z⟩
    .refine .inl ⟨k,?_⟩
     have:y≠x:=λe=>hj (Mb hN e1 (e ▸ hi))
     simp [this,e]
    .exact .inr ⟨k,c,e,z.sameBut hs (o8 y c e)⟩
  .obtain ⟨w',z⟩:=I.cell y c e
   exact ⟨w',z.sameBut hs (o8 y c e)⟩
  .obtain ⟨e,n,ne,nf,d⟩:=I.pin p hp
   exact ⟨(hs.2 p.1 ne).trans e,n,ne,nf,d⟩
 .have hfn:X.fn x=true:=by
   rcases hf with z | z
   .exact z
   .rw [z] at hk; cases hk
  obtain ⟨c,hc⟩:=I.ok.has x (.inl hk)
  obtain ⟨w',z⟩:=I.cell x c hc
  refine wpAny_storeName_cell I.ok.kind hk hc z (λh' hc' hs=>?_)
  obtain ⟨oc,hoc,D7⟩:=id z
  refine h { s with heap:=h' } ⟨I.ok,I.os,I.bare,⟨λb o e n hb hx=>?_,λb o e n hb hx=>?_,I.base.free,λb o e hx=>?_,I.base.tups,I.base.gH,I.base.gR⟩,⟨m,hn.sameBut hs (aay (o8 x c hc)),λj y v' e1 e2 e3=>?_⟩,λy c' e=>?_,I.free,I.cK,λp hp=>?_,tracked ⟨oc,hoc,I.cK x c hc⟩ hs,by simpa using I.len⟩ ⟨c,hs,.inr hc⟩
  .exact (hs.2 b (a0P (aMc (aP5 e) (I.ok.yq x c hfn hc)))).trans (I.base.keep b o e n hb hx)
  .obtain ⟨sl,e1⟩:=I.base.slot b o e n hb hx
   exact ⟨sl,(hs.2 b (a0P (aMc (aP5 e) (I.ok.yq x c hfn hc)))).trans e1⟩
  .obtain ⟨o',e1⟩:=I.base.there b o e hx
   exact ⟨o',(hs.2 b (a0P (aMc (aP5 e) (I.ok.yq x c hfn hc)))).trans e1⟩
  .by_cases hj:j=i
   .subst hj
    rw [hi] at e1; cases e1
    rw [List.getElem?_set_self xU] at e2
    cases e2
    exact ⟨u,r,.inr ⟨.inl hk,c,hc,hc'⟩⟩
   .rw [List.getElem?_set_ne (aay hj)] at e2
    obtain ⟨u',r',q⟩:=hl j y v' e1 e2 e3
    refine ⟨u',r',?_⟩
    rcases q with q | ⟨k,c',e,z'⟩
    .exact .inl q
    .refine .inr ⟨k,c',e,z'.sameBut hs ?_⟩
     rintro rfl
     exact hj (Mb hN e1 (I.ok.inj _ _ _ e hc ▸ hi))
  .by_cases hcc:c'=c
   .subst hcc; exact ⟨_,hc'⟩
   .obtain ⟨w2,z2⟩:=I.cell y c' e
    exact ⟨w2,z2.sameBut hs hcc⟩
  .obtain ⟨e,n,ne,nf,d⟩:=I.pin p hp
   refine ⟨(hs.2 p.1 ?_).trans e,n,ne,nf,d⟩
   intro q
   rw [q,hoc] at e
   have q':oc=p.2:=bcC e
   exact d w' (by rw [← q']; exact D7)
theorem yP {M:Model} {A:Around} {E:Value->Shared->Prop} {i:Nat} {x:Str} {v:V} {u:Value} {Q:Unit->Shared->Prop} (I:Inv X pins σ H s) (hN:X.N.Nodup) (hi:X.N[i]?=some x) (hx:Loc X.env.scope x) (r:RelV v u)
  (h:∀ s',Inv X pins (σ.set i (some v)) H s'->Q () s') (hf:X.fn x=true\/X.env.scope.names.lookup x=some .local:=by first | exact .inl rfl | exact .inr rfl | assumption):wpAny M A (storeName X.env x u) Q E s :=
 Ml I hN hi hx r (λs' I' _=>h s' I') hf
theorem Inv.yp {s':Shared} {ch:List Addr} (I:Inv X pins σ H s) (ho:s'.os=s.os) (u:Un (frs X.stack) ch H H' s.heap s'.heap) (hok:dz X.prog X.w H' s'.heap) (hg:AllBare s'.gens)
  (hch:∀ b∈ch,(b∈X.ex\/X.s₀.heap.objs.size<=b)/\b≠X.env.locals/\(∀ x c,X.env.cells.lookup x=some c->c≠b)/\∀ p∈X.pn++pins,p.1≠b):Inv X pins σ H' s':=by
 obtain ⟨h',g',d',t',o'⟩:=s'
 have e:o'=s.os:=ho
 subst e
 exact I.call (g':=g') (t':=t') (d':=d') u hok hg hch
end
abbrev XK:=Value->Option Addr->Hp->Prop
abbrev St:=List (Option V)
abbrev VK:=V->Hp->Prop
abbrev TE:=St->Hp->VK->Prop
abbrev TT:=St->Hp->(Bool->Hp->Prop)->Prop
abbrev TA:=St->Hp->(List V->Hp->Prop)->Prop
structure Ends where
 nx:St->Hp->Prop
 rt:VK
 bk:St->Hp->Prop:=λ_ _=>False
 ct:St->Hp->Prop:=λ_ _=>False
abbrev TS:=Ends->St->Hp->Prop
def EP (X:Cx) (pins:List (Addr×Obj)) (σ:St) (Q:VK) (u:Value) (s':Shared):Prop:=∃ v H',Inv X pins σ H' s'/\RelV v u/\Q v H'
def TP (X:Cx) (pins:List (Addr×Obj)) (σ:St) (Q:Bool->Hp->Prop) (b:Bool) (s':Shared):Prop:=∃ H',Inv X pins σ H' s'/\Q b H'
def AP (X:Cx) (pins:List (Addr×Obj)) (σ:St) (Q:List V->Hp->Prop) (us:List Value) (s':Shared):Prop:=∃ vs H',Inv X pins σ H' s'/\Vals vs us/\Q vs H'
def SP (X:Cx) (pins:List (Addr×Obj)) (D:Ends) (f:Flow) (s':Shared):Prop :=
 match f with
 | .next=>∃ σ' H',Inv X pins σ' H' s'/\D.nx σ' H'
 | .brk=>∃ σ' H',Inv X pins σ' H' s'/\D.bk σ' H'
 | .cont=>∃ σ' H',Inv X pins σ' H' s'/\D.ct σ' H'
 | .ret u=>∃ v σ' H',Inv X pins σ' H' s'/\RelV v u/\D.rt v H'
def PE (X:Cx) (e:Expr) (t:TE):Prop :=
 ∀ (pins:List (Addr×Obj)) (s:Shared) (σ:St) (H:Hp) (Q:VK),Inv X pins σ H s->t σ H Q->wpAny (model X.prog X.w) X.A (eval e X.env) (EP X pins σ Q) X.xe s
def PT (X:Cx) (e:Expr) (t:TT):Prop :=
 ∀ (pins:List (Addr×Obj)) (s:Shared) (σ:St) (H:Hp) (Q:Bool->Hp->Prop),Inv X pins σ H s->t σ H Q->wpAny (model X.prog X.w) X.A (isTrue e X.env (eval e X.env)) (TP X pins σ Q) X.xe s
def PW (X:Cx) (e:Expr) (t:TT):Prop :=
 ∀ (whole:Sem Value) (pins:List (Addr×Obj)) (s:Shared) (σ:St) (H:Hp) (Q:Bool->Hp->Prop),Inv X pins σ H s->t σ H Q->wpAny (model X.prog X.w) X.A (isTrue e X.env whole) (TP X pins σ Q) X.xe s
theorem PW.pt {X:Cx} {e:Expr} {t:TT} (h:PW X e t):PT X e t:=h _
def PA (X:Cx) (es:List Expr) (t:TA):Prop :=
 ∀ (pos:Pos) (pins:List (Addr×Obj)) (s:Shared) (σ:St) (H:Hp) (Q:List V->Hp->Prop),Inv X pins σ H s->t σ H Q->wpAny (model X.prog X.w) X.A (spliced (backTo pos (starEach es X.env))) (AP X pins σ Q) X.xe s
def PS (X:Cx) (st:Stmt) (t:TS):Prop :=
 ∀ (pins:List (Addr×Obj)) (s:Shared) (σ:St) (H:Hp) (D:Ends),Inv X pins σ H s->t D σ H->wpAny (model X.prog X.w) X.A (exec st X.env) (SP X pins D) X.xe s
def lu (X:Cx) (st:List Stmt) (t:TS):Prop :=
 ∀ (pins:List (Addr×Obj)) (s:Shared) (σ:St) (H:Hp) (D:Ends),Inv X pins σ H s->t D σ H->wpAny (model X.prog X.w) X.A (execs st X.env) (SP X pins D) X.xe s
theorem bG {α:Type} {t:Sem α} {Q Q':α->Shared->Prop} {M:Model} {A:Around} {E:Value->Shared->Prop} {s:Shared} (h:wpAny M A t Q E s) (hQ:∀ a s,Q a s->Q' a s):wpAny M A t Q' E s:=a7k h hQ λ_ _ x=>x
theorem cF {t : Sem Value} {Q : VK} {Q' : Value -> Shared -> Prop} {M : Model} {A : Around} {E : Value -> Shared -> Prop} {s : Shared} {X : Cx} {pins : List (Addr × Obj)} {σ : St} (h : wpAny M A t (EP X pins σ Q) E s) (k : ∀ v s x H, Inv X pins σ H s -> RelV x v -> Q x H -> Q' v s) : wpAny M A t Q' E s := a7k h (λv s z => by obtain ⟨x, H, i, r, q⟩ := z; exact k v s x H i r q) λ_ _ x => x
theorem lH {t : Sem (List Value)} {Q : List V -> Hp -> Prop} {Q' : List Value -> Shared -> Prop} {M : Model} {A : Around} {E : Value -> Shared -> Prop} {s : Shared} {X : Cx} {pins : List (Addr × Obj)} {σ : St} (h : wpAny M A t (AP X pins σ Q) E s) (k : ∀ v s x H, Inv X pins σ H s -> Vals x v -> Q x H -> Q' v s) : wpAny M A t Q' E s := a7k h (λv s z => by obtain ⟨x, H, i, r, q⟩ := z; exact k v s x H i r q) λ_ _ x => x
section
variable {X:Cx}
def vR (i:Nat):TE:=λσ H Q=>∃ v,σ[i]?=some (some v)/\Q v H
def tC (v:V):TE:=λ_ H Q=>Q v H
theorem Rm {i:Nat} {x:Str} {pos:Pos} (hN:X.N[i]?=some x) (hv:vD X.env.scope x) (hd:(x == ("__debug__" : Str))=false:=by decide) (hcd:(x == ("__classdict__" : Str))=false:=by decide):PE X (.Name x pos) (vR i):=by
 intro pins s σ H Q I h
 obtain ⟨v,e,h⟩:=h
 obtain ⟨m,hn,hl⟩:=I.loc
 obtain ⟨u,r,l⟩:=hl i x v hN e hv
 have fin:EP X pins σ Q u s:=⟨v,H,I,r,h⟩
 rcases l with ⟨hk,hm⟩ | ⟨hk,c,hc,hcell⟩
 .exact wpAny_Name (wpAny_loadName_local I.ok.kind hk hn hm fin) hd
 .rcases hk with hk | hk
  .exact wpAny_Name (wpAny_loadName_cell I.ok.kind hk hc hcell fin) hd
  .exact wpAny_Name (wpAny_loadName_free I.ok.kind hk hc hcell fin hcd) hd
theorem Zi {i j pos}:PE X (.Constant (.int i) j pos) (tC (.int i)):=λ_ _ _ H _ I h=>wpAny_Constant_int ⟨.int i,H,I.tok _,⟨_,rfl⟩,h⟩
theorem bO {b j pos}:PE X (.Constant (.bool b) j pos) (tC (.bl b)):=λ_ _ _ H _ I h=>Constant_bool ⟨.bl b,H,I,rfl,h⟩
theorem tQ {j pos}:PE X (.Constant .none j pos) (tC .aX):=λ_ _ _ H _ I h=>Constant_none ⟨.aX,H,I,rfl,h⟩
theorem rA {x j pos}:PE X (.Constant (.str x) j pos) (tC (.str x)):=λ_ _ _ H _ I h=>Calls.Constant_str ⟨.str x,H,I.tok _,⟨_,rfl⟩,h⟩
def Gl (X:Cx) (x:Str):Prop:=X.env.kindOf x=some .globalImplicit
theorem Lp {E:Value->Shared->Prop} {pins:List (Addr×Obj)} {s:Shared} {σ:St} {H:Hp} {x:Str} {u:Value} {pos:Pos} {Q:Value->Shared->Prop} (I:Inv X pins σ H s) (hg:Gl X x) (hm:X.mg x=some u) (h:Q u s)
  (hd:(x == ("__debug__" : Str))=false:=by decide):wpAny (model X.prog X.w) X.A (eval (.Name x pos) X.env) Q E s :=
 Calls.Name_function_global I.ok.kind hg (Calls.loadGlobal_global (by rw [I.ok.glob]; exact I.mod.glob.keeps I.bk) hm h) hd
theorem pA {E:Value->Shared->Prop} {pins:List (Addr×Obj)} {s:Shared} {σ:St} {H:Hp} {x:Str} {u:Value} {pos:Pos} {Q:Value->Shared->Prop} (I:Inv X pins σ H s) (hg:Gl X x) (hm:X.mg x=none) (hv:bootBuiltins x=some u) (h:Q u s)
  (hn:x ≠ "__name__" := by decide) (hd:(x == ("__debug__" : Str))=false:=by decide):wpAny (model X.prog X.w) X.A (eval (.Name x pos) X.env) Q E s:=by
 obtain ⟨mb,h1,h2⟩:=I.mod.blt
 exact Calls.Name_function_global I.ok.kind hg (Calls.loadGlobal_builtin (by rw [I.ok.glob]; exact I.mod.glob.keeps I.bk) hm (by rw [I.ok.blt]; exact h1.keeps I.bk) ((h2 x hn).trans hv) h) hd
theorem ZW {x:Str} {v:V} {u:Value} {pos:Pos} (hg:Gl X x) (hm:X.mg x=none) (hv:bootBuiltins x=some u) (r:RelV v u) (hn:x ≠ "__name__" := by decide) (hd:(x == ("__debug__" : Str))=false:=by decide):PE X (.Name x pos) (tC v) :=
 λ_ _ _ H _ I h=>pA I hg hm hv ⟨v,H,I,r,h⟩ hn hd
variable {a b:Expr} {ta tb:TE} {pos:Pos}
def PC (X:Cx) (op:CmpOp) (a b:Expr) (t:TE):Prop :=
 ∀ (pins:List (Addr×Obj)) (s:Shared) (σ:St) (H:Hp) (Q:VK),Inv X pins σ H s->t σ H Q ->
  wpAny (model X.prog X.w) X.A (eval a X.env) (λv s₁=>wpAny (model X.prog X.w) X.A (eval b X.env) (λu s₂=>wpAny (model X.prog X.w) X.A (compareOp op v u) (EP X pins σ Q) X.xe s₂) X.xe s₁) X.xe s
theorem Ma (b:Expr) {op:CmpOp} (h:op≠.In) (h2:op≠.NotIn):behindInMarks op b=false:=by
 have e1:(op == CmpOp.In)=false:=by cases op <;> first | rfl | exact absurd rfl h
 have e2:(op == CmpOp.NotIn)=false:=by cases op <;> first | rfl | exact absurd rfl h2
 cases b <;> simp [behindInMarks,e1,e2]
def CN (ta:TE):TE:=λσ H Q=>ta σ H λx H1=>Q (.bl (decide (x=.aX))) H1
def vV (ta:TE):TE:=λσ H Q=>ta σ H λx H1=>Q (.bl (!decide (x=.aX))) H1
theorem RelV.jB {x:V} {v:Value} (r:RelV x v):(v == Value.none)=decide (x=.aX):=by
 cases x with
 | aX=>cases r; rfl
 | bl _=>cases r; rfl
 | int _=>obtain ⟨t,rfl⟩:=r; rfl
 | str _=>obtain ⟨t,rfl⟩:=r; rfl
 | kg _=>obtain ⟨t,rfl⟩:=r; rfl
 | pX _=>obtain ⟨t,rfl⟩:=r; rfl
 | ref _=>cases r; rfl
 | ty _=>cases r; rfl
theorem AL {j pos'} (ha:PE X a ta):PC X .Is a (.Constant .none j pos') (CN ta):=by
 intro pins s σ H Q I h
 refine cF (ha pins s σ H _ I h) λv s1 x H1 I1 r1 q1=>?_
 exact Constant_none (is_none_gen ⟨.bl _,H1,I1,by rw [r1.jB]; rfl,q1⟩)
theorem Fv {j pos'} (ha:PE X a ta):PC X .IsNot a (.Constant .none j pos') (vV ta):=by
 intro pins s σ H Q I h
 refine cF (ha pins s σ H _ I h) λv s1 x H1 I1 r1 q1=>?_
 exact Constant_none (isnot_none_gen ⟨.bl _,H1,I1,by rw [r1.jB]; rfl,q1⟩)
def tB (t:TE):TT:=λσ H Q=>t σ H λx H1=>∃ c,x=.bl c/\Q c H1
theorem Ff {op:CmpOp} {t:TE} (h:PC X op a b t) (h1:behindInMarks op b=false:=by first | exact Ma _ (by decide) (by decide) | rfl):PE X (.Compare a [op] [b] pos) t:=λpins s σ H Q I hw=>wpAny_Compare1 (h pins s σ H Q I hw) h1
theorem yy {op:CmpOp} {t:TE} (h:PC X op a b t) (h1:behindInMarks op b=false:=by first | exact Ma _ (by decide) (by decide) | rfl):PT X (.Compare a [op] [b] pos) (tB t):=by
 intro pins s σ H Q I hw
 refine wpAny_isTrue_Compare1 (bG (h pins s σ H _ I hw) λv s1 h1=>bG h1 λu s2 h2=>bG h2 λc s3 ⟨x,H1,I1,r1,q1⟩=>?_) h1
 obtain ⟨d,rfl,q⟩:=q1
 cases r1
 exact aT6 ⟨H1,I1,q⟩
theorem ZY {e:Expr} {t:TE} (h:PE X e t) (he:∀ whole,isTrue e X.env whole=(do let v ← whole; standAt e.pos; holding [v] (truthy v)):=by intro _; rfl):PT X e (tB t):=by
 intro pins s σ H Q I hw
 refine isTrue_plain (cF (h pins s σ H _ I hw) λv s1 x H1 I1 r1 q1=>?_) (he _)
 obtain ⟨d,rfl,q⟩:=q1
 cases r1
 exact aT6 ⟨H1,I1,q⟩
variable {tA zS:TT} {rest:List Expr}
def CT (t u:TT):TT:=λσ H Q=>t σ H λc H1=>if c=true then u σ H1 Q else Q false H1
def Ib (t u:TT):TT:=λσ H Q=>t σ H λc H1=>if c=true then Q true H1 else u σ H1 Q
def CL (t:TT):TT:=λσ H Q=>t σ H λc H1=>Q (!c) H1
theorem tX (ha:PT X a tA):PW X (.BoolOp .And [a] pos) tA:=by
 intro wh pins s σ H Q I h
 refine isTrue_and (bG (ha pins s σ H Q I h) λc s1 e=>?_)
 cases c with
 | true=>exact isTrue_and_nil e
 | false=>exact e
theorem mj (ha:PT X a tA):PW X (.BoolOp .Or [a] pos) tA:=by
 intro wh pins s σ H Q I h
 refine isTrue_or (bG (ha pins s σ H Q I h) λc s1 e=>?_)
 cases c with
 | false=>exact isTrue_or_nil e
 | true=>exact e
theorem tP (ha:PT X a tA) (hb:PW X (.BoolOp .And (b :: rest) pos) zS):PW X (.BoolOp .And (a :: b :: rest) pos) (CT tA zS):=by
 intro wh pins s σ H Q I h
 refine isTrue_and (bG (ha pins s σ H _ I h) λc s1 ⟨H1,I1,q1⟩=>?_)
 cases c with
 | true=>exact hb wh pins s1 σ H1 Q I1 q1
 | false=>exact ⟨H1,I1,q1⟩
theorem pw_or (ha:PT X a tA) (hb:PW X (.BoolOp .Or (b :: rest) pos) zS):PW X (.BoolOp .Or (a :: b :: rest) pos) (Ib tA zS):=by
 intro wh pins s σ H Q I h
 refine isTrue_or (bG (ha pins s σ H _ I h) λc s1 ⟨H1,I1,q1⟩=>?_)
 cases c with
 | true=>exact ⟨H1,I1,q1⟩
 | false=>exact hb wh pins s1 σ H1 Q I1 q1
theorem k9 (ha:PT X a tA):PT X (.UnaryOp .Not a pos) (CL tA):=by
 intro pins s σ H Q I h
 exact isTrue_not (ha pins s σ H (λc H1=>Q (!c) H1) I h)
def wg (ta tb:TE):TE:=λσ H Q=>ta σ H λx H1=>∃ c,x=.bl c/\if c=true then tb σ H1 Q else Q (.bl false) H1
def vU (ta:TE):TE:=λσ H Q=>ta σ H λx H1=>∃ c,x=.bl c/\Q (.bl (!c)) H1
theorem vm {op} {t:TE} (h:PE X a t):PE X (.BoolOp op [a] pos) t:=λpins s σ H Q I hw=>BoolOp_one (h pins s σ H Q I hw)
theorem tO (ha:PE X a ta) (hb:PE X (.BoolOp .And (b :: rest) pos) tb):PE X (.BoolOp .And (a :: b :: rest) pos) (wg ta tb):=by
 intro pins s σ H Q I h
 refine BoolOp_and (cF (ha pins s σ H _ I h) λv s1 x H1 I1 r1 q1=>?_)
 obtain ⟨c,rfl,q1⟩:=q1
 cases r1
 refine aT6 ?_
 cases c with
 | true=>exact hb pins s1 σ H1 Q I1 q1
 | false=>exact ⟨.bl false,H1,I1,rfl,q1⟩
theorem Rl (ha:PE X a ta):PE X (.UnaryOp .Not a pos) (vU ta):=by
 intro pins s σ H Q I h
 refine UnaryOp_ (cF (ha pins s σ H _ I h) λv s1 x H1 I1 r1 q1=>?_)
 obtain ⟨c,rfl,q1⟩:=q1
 cases r1
 exact not_of (aT6 ⟨.bl (!c),H1,I1,rfl,q1⟩)
def zR (t:TT) (ta tb:TE):TE:=λσ H Q=>t σ H λc H1=>if c=true then ta σ H1 Q else tb σ H1 Q
theorem oH {c:Expr} (hc:PT X c tA) (ha:PE X a ta) (hb:PE X b tb):PE X (.IfExp c a b pos) (zR tA ta tb):=by
 intro pins s σ H Q I h
 refine wpAny_IfExp (bG (hc pins s σ H _ I h) λd s1 ⟨H1,I1,q1⟩=>?_)
 cases d with
 | true=>exact ha pins s1 σ H1 Q I1 q1
 | false=>exact hb pins s1 σ H1 Q I1 q1
end
def ak (K:W.Frag) (H:Hp) (a:Addr) (xs:List V):Prop :=
 Rd H a (.lst xs) \/
  ∃ (o:Obj) (its:Array Value) (n:Nat),K.lookup a=some o/\o.cls=.type "list" /\ o.dict=none/\o.data=.seq its n/\its.size<=sizeLine/\Vals xs its.toList
def bJ (K:W.Frag) (H:Hp) (a:Addr) (xs:List V):Prop :=
 Rd H a (.tup xs) \/
  ∃ (o:Obj) (its:Array Value) (n:Nat),K.lookup a=some o/\o.cls=.type "tuple" /\ o.data=.seq its n/\its.size<=sizeLine/\Vals xs its.toList
def EM:Value->Option V
 | .none=>some .aX
 | .bool b=>some (.bl b)
 | .int i _=>some (.int i)
 | .str x _=>some (.str x)
 | .bytes b _=>some (.kg b)
 | .float b _=>some (.pX b)
 | .ref a=>some (.ref a)
 | .type n=>some (.ty n)
 | _=>none
theorem RelV.abs {x:V} {u:Value} (r:RelV x u):EM u=some x:=by
 cases x with
 | aX=>cases r; rfl
 | bl _=>cases r; rfl
 | int _=>obtain ⟨t,rfl⟩:=r; rfl
 | str _=>obtain ⟨t,rfl⟩:=r; rfl
 | kg _=>obtain ⟨t,rfl⟩:=r; rfl
 | pX _=>obtain ⟨t,rfl⟩:=r; rfl
 | ref _=>cases r; rfl
 | ty _=>cases r; rfl
theorem RelV.inj {x y:V} {u:Value} (r:RelV x u) (q:RelV y u):x=y:=bcC (r.abs.symm.trans q.abs)
theorem Vals.inj:∀ {xs ys:List V} {us:List Value},Vals xs us->Vals ys us->xs=ys
 | _,_,_,.nil,.nil=>rfl
 | _,_,_,.cons r t,.cons r' t'=>by rw [r.inj r',Vals.inj t t']
section
variable {X:Cx} {pins:List (Addr×Obj)} {σ:St} {H:Hp} {s:Shared} {a:Addr} {xs ys:List V}
theorem ak.of {K:W.Frag} (h:H a=some (.lst xs)):ak K H a xs:=.inl (.inl h)
theorem bJ.of {K:W.Frag} (h:H a=some (.tup xs)):bJ K H a xs:=.inl (.inl h)
theorem Inv.list (I:Inv X pins σ H s) (h:ak X.K H a xs):∃ its:List Value,Vals xs its/\PlainL s.heap a its.toArray/\xs.length<=sizeLine:=by
 rcases h with h | ⟨o,its,n,hk,hc,hd,hs,hz,r⟩
 .obtain ⟨z,its,n,r,e⟩:=h.ok I.hok
  exact ⟨its,r,⟨_,n,e,rfl,rfl,rfl⟩,z⟩
 .refine ⟨its.toList,r,⟨o,n,I.dN a o hk,hc,hd,by simpa using hs⟩,?_⟩
  have e:=r.length
  simp only [aek] at e
  lia
theorem Inv.tuple (I:Inv X pins σ H s) (h:bJ X.K H a xs):∃ its:List Value,Vals xs its/\IsTup s.heap a its.toArray/\xs.length<=sizeLine:=by
 rcases h with h | ⟨o,its,n,hk,hc,hs,hz,r⟩
 .obtain ⟨z,its,r,p⟩:=h.ok I.hok
  exact ⟨its,r,p,z⟩
 .refine ⟨its.toList,r,⟨o,I.dN a o hk,hc,n,by simpa using hs⟩,?_⟩
  have e:=r.length
  simp only [aek] at e
  lia
theorem Inv.fG (I:Inv X pins σ H s) (h:ak X.K H a xs) (h':ak X.K H a ys):xs=ys:=by
 obtain ⟨its,r,⟨o,n,e,_,_,d⟩,_⟩:=I.list h
 obtain ⟨its',r',⟨o',n',e',_,_,d'⟩,_⟩:=I.list h'
 rw [e] at e'; cases e'
 rw [d] at d'
 injection d' with d1 _
 have:its=its':=by simpa using arH Array.toList d1
 subst this
 exact r.inj r'
theorem Inv.fR (I:Inv X pins σ H s) (h:bJ X.K H a xs) (h':bJ X.K H a ys):xs=ys:=by
 obtain ⟨its,r,⟨o,e,_,n,d⟩,_⟩:=I.tuple h
 obtain ⟨its',r',⟨o',e',_,n',d'⟩,_⟩:=I.tuple h'
 rw [e] at e'; cases e'
 rw [d] at d'
 injection d' with d1 _
 have:its=its':=by simpa using arH Array.toList d1
 subst this
 exact r.inj r'
end
abbrev Cx.iz (X:Cx) (E:Value->Shared->Prop):Cx:={ X with xe:=E }
abbrev Cx.rW (X:Cx):Cx:=X.iz λ_ _=>False
theorem Cx.Ok.iz {X:Cx} (ok:X.Ok) (E:Value->Shared->Prop):(X.iz E).Ok :=
 ⟨ok.mod,ok.kind,ok.glob,ok.blt,ok.above,ok.inj,ok.has,ok.yq,ok.hd,ok.frames,ok.stk,ok.Ay,ok.bs,ok.o9,ok.nG,ok.n8,ok.gG,ok.tD⟩
theorem Cx.Ok.dB {X:Cx} {E:Value->Shared->Prop} (ok:(X.iz E).Ok):X.Ok :=
 ⟨ok.mod,ok.kind,ok.glob,ok.blt,ok.above,ok.inj,ok.has,ok.yq,ok.hd,ok.frames,ok.stk,ok.Ay,ok.bs,ok.o9,ok.nG,ok.n8,ok.gG,ok.tD⟩
section
variable {X:Cx} {pins:List (Addr×Obj)} {σ:St} {H:Hp} {s:Shared} {E:Value->Shared->Prop}
theorem Inv.iz (I:Inv X pins σ H s) (E:Value->Shared->Prop):Inv (X.iz E) pins σ H s:=⟨I.ok.iz E,I.os,I.bare,I.base,I.loc,I.cell,I.free,I.cK,I.pin,I.hok,I.len⟩
theorem Inv.dB (I:Inv (X.iz E) pins σ H s):Inv X pins σ H s:=⟨I.ok.dB,I.os,I.bare,I.base,I.loc,I.cell,I.free,I.cK,I.pin,I.hok,I.len⟩
theorem SP.dB {D:Ends} {f:Flow} {s':Shared} (h:SP (X.iz E) pins D f s'):SP X pins D f s':=by
 cases f with
 | next=>obtain ⟨σ',H',I,q⟩:=h; exact ⟨σ',H',I.dB,q⟩
 | brk=>obtain ⟨σ',H',I,q⟩:=h; exact ⟨σ',H',I.dB,q⟩
 | cont=>obtain ⟨σ',H',I,q⟩:=h; exact ⟨σ',H',I.dB,q⟩
 | ret u=>obtain ⟨v,σ',H',I,r,q⟩:=h; exact ⟨v,σ',H',I.dB,r,q⟩
theorem lu.rW {st:List Stmt} {t:TS} (h:lu X.rW st t):lu X st t:=λpins s σ H D I hw =>
 a7k (h pins s σ H D (I.iz _) hw) (λ_ _ q=>q.dB) λ_ _ z=>False.elim z
end
section
variable {X:Cx} {st:Stmt} {rest:List Stmt} {t u:TS} {e:Expr} {te:TE} {pos:Pos}
def d7:TS:=λD σ H=>D.nx σ H
def mU (t u:TS):TS:=λD σ H=>t { D with nx:=u D } σ H
theorem Zu:lu X [] d7:=λ_ _ σ H _ I h=>wpAny_execs_nil ⟨σ,H,I,h⟩
theorem Zd (h1:PS X st t) (h2:lu X rest u):lu X (st :: rest) (mU t u):=by
 intro pins s σ H D I h
 refine wpAny_execs_cons (bG (h1 pins s σ H { D with nx:=u D } I h) λf s1 q=>?_)
 cases f with
 | next =>
  obtain ⟨σ',H',I',q⟩:=q
  exact h2 pins s1 σ' H' D I' q
 | ret v=>exact q
 | brk=>exact q
 | cont=>exact q
theorem Zj (h1:PS X st t):lu X [st] t:=by
 intro pins s σ H D I h
 refine wpAny_execs_cons (bG (h1 pins s σ H D I h) λf s1 q=>?_)
 cases f with
 | next=>exact wpAny_execs_nil q
 | ret v=>exact q
 | brk=>exact q
 | cont=>exact q
theorem Inv.quiet {pins:List (Addr×Obj)} {σ:St} {H:Hp} {s:Shared} (I:Inv X pins σ H s):interactive X.env=false:=by simp [interactive,I.ok.kind]
def vZ (te:TE):TS:=λD σ H=>te σ H λ_ H1=>D.nx σ H1
theorem Zy (he:PE X e te) (hs:swapsWith e none pos.line X.env=pure false:=by rfl):PS X (.Expr e pos) (vZ te):=by
 intro pins s σ H D I h
 exact wpAny_Expr_any (cF (he pins s σ H _ I h) λv s1 x H1 I1 r1 q1=>⟨σ,H1,I1,q1⟩) I.quiet hs
def CJ (te:TE):TS:=λD σ H=>te σ H D.rt
theorem Zq (he:PE X e te):PS X (.Return (some e) pos) (CJ te):=by
 intro pins s σ H D I h
 exact wpAny_Return_some (cF (he pins s σ H _ I h) λv s1 x H1 I1 r1 q1=>⟨x,σ,H1,I1,r1,q1⟩)
def vX (c:TT) (t u:TS):TS:=λD σ H=>c σ H λb H1=>if b=true then t D σ H1 else u D σ H1
theorem aI {c:Expr} {a b:List Stmt} {tc:TT} (hc:PT X c tc) (ha:lu X a t) (hb:lu X b u):PS X (.If c a b pos) (vX tc t u):=by
 intro pins s σ H D I h
 refine wpAny_If (bG (hc pins s σ H _ I h) λd s1 ⟨H1,I1,q1⟩=>?_)
 cases d with
 | true=>exact ha pins s1 σ H1 D I1 q1
 | false=>exact hb pins s1 σ H1 D I1 q1
end
abbrev TG:=V->St->Hp->(St->Hp->Prop)->Prop
abbrev rD:=List V->St->Hp->(St->Hp->Prop)->Prop
def PG (X:Cx) (target:Expr) (t:TG):Prop :=
 ∀ (pins:List (Addr×Obj)) (s:Shared) (σ:St) (H:Hp) (v:V) (u:Value) (Q:St->Hp->Prop),Inv X pins σ H s->RelV v u->t v σ H Q ->
  wpAny (model X.prog X.w) X.A (assign target X.env u) (λ_ s'=>∃ σ' H',Inv X pins σ' H' s'/\Q σ' H') X.xe s
def zj (X:Cx) (ts:List Expr) (t:rD):Prop :=
 ∀ (pins:List (Addr×Obj)) (s:Shared) (σ:St) (H:Hp) (vs:List V) (us:List Value) (Q:St->Hp->Prop),Inv X pins σ H s->Vals vs us->t vs σ H Q ->
  wpAny (model X.prog X.w) X.A (assignInOrder ((assignEach ts X.env).map (·.2)) us) (λ_ s'=>∃ σ' H',Inv X pins σ' H' s'/\Q σ' H') X.xe s
abbrev ua:=V->V->V->Hp->(Hp->Prop)->Prop
def zh (X:Cx) (t:ua):Prop :=
 ∀ (pins:List (Addr×Obj)) (s:Shared) (σ:St) (H:Hp) (o i v:V) (ov iv u:Value) (Q:Hp->Prop),Inv X pins σ H s->RelV o ov->RelV i iv->RelV v u->t o i v H Q ->
  wpAny (model X.prog X.w) X.A (setItem ov iv u) (λ_ s'=>∃ H',Inv X pins σ H' s'/\Q H') X.xe s
abbrev ze:=V->V->Hp->VK->Prop
def HD (X:Cx) (op:Operator) (t:ze):Prop :=
 ∀ (pins:List (Addr×Obj)) (s:Shared) (σ:St) (H:Hp) (x y:V) (v u:Value) (Q:VK),Inv X pins σ H s->RelV x v->RelV y u->t x y H Q ->
  wpAny (model X.prog X.w) X.A (inplaceOp op v u) (EP X pins σ Q) X.xe s
section
variable {X:Cx} {pos:Pos}
def bT (i:Nat):TG:=λv σ H Q=>Q (σ.set i (some v)) H
theorem Sk {i:Nat} {x:Str} (hN:X.N.Nodup) (hi:X.N[i]?=some x) (hx:Loc X.env.scope x) (hf:X.fn x=true\/X.env.scope.names.lookup x=some .local:=by first | exact .inl rfl | exact .inr rfl | assumption):PG X (.Name x pos) (bT i):=by
 intro pins s σ H v u Q I r h
 exact wpAny_assign_Name (yP I hN hi hx r (λs' I'=>⟨_,H,I',h⟩) hf)
def Er:rD:=λvs σ H Q=>vs=[]/\Q σ H
def yc (t:TG) (u:rD):rD:=λvs σ H Q=>∃ v r,vs=v :: r/\t v σ H λσ' H'=>u r σ' H' Q
theorem kj:zj X [] Er:=by
 intro pins s σ H vs us Q I r h
 obtain ⟨e,h⟩:=h
 subst e
 cases r
 exact assignInOrder_nil ⟨σ,H,I,h⟩
theorem Zt {e:Expr} {es:List Expr} {t:TG} {u:rD} (h1:PG X e t) (h2:zj X es u)
  (hs:(assignEach (e :: es) X.env).map (·.2)=assign e X.env :: (assignEach es X.env).map (·.2):=by rfl):zj X (e :: es) (yc t u):=by
 intro pins s σ H vs us Q I r h
 obtain ⟨v,vr,e1,h⟩:=h
 subst e1
 cases r with
 | cons r rr =>
  rw [hs]
  refine assignInOrder_cons (bG (h1 pins s σ H _ _ _ I r h) λ_ s1 ⟨σ1,H1,I1,q1⟩=>?_)
  exact h2 pins s1 σ1 H1 _ _ Q I1 rr q1
def yb (K:W.Frag) (n:Nat) (t:rD):TG:=λv σ H Q=>∃ a xs,v=.ref a/\bJ K H a xs/\xs.length=n/\t xs σ H Q
theorem Rj {es:List Expr} {k:Nat} {t:rD} {n:Nat} (hc:X.calm=true) (h:zj X es t)
  (hn:(assignEach es X.env).length=n:=by rfl) (hst:(assignEach es X.env).findIdx? (·.1)=none:=by rfl):PG X (.Tuple es k pos) (yb X.K n t):=by
 intro pins s σ H v u Q I r hw
 obtain ⟨a,xs,e1,hq,hl,hw⟩:=hw
 subst e1
 cases r
 obtain ⟨its,rv,ht,hz⟩:=I.tuple hq
 refine assign_Tuple_tuple (I.ok.hd hc) ht (by simp [hn,← hl,rv.length]) hst λh' hx=>?_
 have I1:Inv X pins σ H { s with heap:=h' }:=I.kept (t':=s.toks) λb o e=>hx b o (a0P (aP5 e)) e
 exact h pins _ σ H xs _ Q I1 (by simpa using rv) hw
def Ep (to ti:TE) (t:ua):TG:=λv σ H Q=>to σ H λo H1=>ti σ H1 λi H2=>t o i v H2 λH3=>Q σ H3
theorem vh {o i:Expr} {to ti:TE} {t:ua} (ho:PE X o to) (hi:PE X i ti) (hs:zh X t)
  (ha:∀ v,assign (.Subscript o i pos) X.env v=(do
   let ov ← holding [v] (eval o X.env)
   let iv ← holding [v,ov] (eval i X.env)
   standAt pos
   holding [v,ov,iv] (setItem ov iv v)
   release [v,ov,iv] []):=by intro _; rfl):PG X (.Subscript o i pos) (Ep to ti t):=by
 intro pins s σ H v u Q I r h
 rw [ha]
 refine aLa (am3 (cF (ho pins s σ H _ I h) λov s1 x H1 I1 r1 q1=>?_))
 refine aLa (am3 (cF (hi pins s1 σ H1 _ I1 q1) λiv s2 y H2 I2 r2 q2=>?_))
 refine aLa (a5C (aLa (am3 (bG (hs pins s2 σ H2 x y v ov iv u _ I2 r1 r2 r q2) λ_ s3 ⟨H3,I3,q3⟩=>?_))))
 exact wpAny_release ⟨σ,H3,I3,q3⟩
def jS (te:TE) (g:TG):TS:=λD σ H=>te σ H λx H1=>g x σ H1 D.nx
theorem pq {tg e:Expr} {te:TE} {g:TG} (he:PE X e te) (hg:PG X tg g) (hs:swapsWithSole [tg] e pos.line X.env=pure false:=by rfl) (hw:swappedStores [tg] e X.env=pure none:=by rfl)
  (h1:(assignEach [tg] X.env).map (·.2)=[assign tg X.env]:=by rfl):PS X (.Assign [tg] e pos) (jS te g):=by
 intro pins s σ H D I h
 refine wpAny_Assign_stores (cF (he pins s σ H _ I h) λv s1 x H1 I1 r1 q1=>?_) hs hw
 rw [h1]
 exact bG (hg pins s1 σ H1 x v _ I1 r1 q1) λ_ s2 q=>q
theorem Ri {i:Nat} {x:Str} {e:Expr} {te:TE} {pos':Pos} (hN:X.N.Nodup) (hi:X.N[i]?=some x) (hx:Loc X.env.scope x) (he:PE X e te) (hs:swapsWith e (some (.Name x pos')) pos.line X.env=pure false:=by rfl) (hf:X.fn x=true\/X.env.scope.names.lookup x=some .local:=by first | exact .inl rfl | exact .inr rfl | assumption) :
  PS X (.Assign [.Name x pos'] e pos) (jS te (bT i)):=by
 intro pins s σ H D I h
 refine wpAny_Assign_Name (cF (he pins s σ H _ I h) λv s1 y H1 I1 r1 q1=>?_) hs
 exact yP I1 hN hi hx r1 (λs2 I2=>⟨_,H1,I2,q1⟩) hf
def CK (i j:Nat) (ta:TA):TS:=λD σ H=>ta σ H λvs H1=>∃ v w,vs=[v,w]/\D.nx ((σ.set i (some v)).set j (some w)) H1
theorem AK {i j:Nat} {x y:Str} {a b:Expr} {ta:TA} {px py pt:Pos} {kt k2 Dt} (hc:X.calm=true) (hN:X.N.Nodup) (hi:X.N[i]?=some x) (hj:X.N[j]?=some y) (hij:i≠j)
  (hx:X.env.scope.names.lookup x=some .local) (hy:X.env.scope.names.lookup y=some .local) (ha:PA X [a,b] ta)
  (hw:swappedStores [.Tuple [.Name x px,.Name y py] kt pt] (.Tuple [a,b] k2 Dt) X.env=pure (some [x,y]))
  (hs:swapsWithSole [.Tuple [.Name x px,.Name y py] kt pt] (.Tuple [a,b] k2 Dt) pos.line X.env=pure false:=by rfl) :
  PS X (.Assign [.Tuple [.Name x px,.Name y py] kt pt] (.Tuple [a,b] k2 Dt) pos) (CK i j ta):=by
 intro pins s σ H D I h
 rw [exec_Assign_arm]
 refine aLa (a5C ?_)
 rw [hs]
 refine aLa (aLj ?_)
 rw [bd2 (by decide)]
 refine aLa (Tuple_ (lH (ha _ pins s σ H _ I h) λus s1 vs H1 I1 r1 q1=>?_))
 obtain ⟨v,w,e1,q1⟩:=q1
 subst e1
 obtain ⟨u1,u2,rfl,rv,rw'⟩:∃ u1 u2,us=[u1,u2]/\RelV v u1/\RelV w u2:=by
  cases r1 with
  | cons p q =>
   cases q with
   | cons p' q' =>
    cases q'
    exact ⟨_,_,rfl,p,p'⟩
 refine aol ?_ (by show 2<=sizeLine; decide)
 have I2:Inv X pins σ H1 { s1 with heap:=s1.heap.push { cls:=.type "tuple",data:=.seq [u1,u2].toArray } }:=I1.kept (t':=s1.toks) λb o e=>aBk _ e
 rw [hw]
 refine aLa (aLj ?_)
 show wpAny (model X.prog X.w) X.A (do rule "assign.swapped-stores"; let items ← unpackItems (.ref s1.heap.objs.size) 2 none; assignInOrder [λv=>bindName X.env y v,λv=>bindName X.env x v] items.reverse; pure Flow.next) _ _ _
 refine aLa (ai2 (aLa (unpackItems_tuple (items:=#[u1,u2]) (I.ok.hd hc) (IsTup.new s1.heap _) λh' hx'=>?_)))
 have I3:=I2.kept (h':=h') (t':=s1.toks) λb o e=>hx' b o (a0P (aP5 e)) e
 show wpAny _ _ (assignInOrder [λv=>bindName X.env y v,λv=>bindName X.env x v] [u2,u1] >>= λ_=>pure Flow.next) _ _ _
 refine aLa (assignInOrder_cons (wpAny_bindName (yP I3 hN hj (.inl hy) rw' (λs2 I4=>?_) (.inr hy))))
 refine assignInOrder_cons (wpAny_bindName (yP I4 hN hi (.inl hx) rv (λs3 I5=>assignInOrder_nil (aLj ?_)) (.inr hx)))
 rw [List.set_comm _ _ (aay hij)] at I5
 exact ⟨_,H1,I5,q1⟩
def CS (i:Nat) (te:TE) (ti:ze):TS:=λD σ H=>∃ x,σ[i]?=some (some x)/\te σ H λy H1=>ti x y H1 λz H2=>D.nx (σ.set i (some z)) H2
theorem Fe {i:Nat} {x:Str} {e:Expr} {te:TE} {op:Operator} {ti:ze} {pos':Pos} (hN:X.N.Nodup) (hi:X.N[i]?=some x) (hx:Loc X.env.scope x) (he:PE X e te) (ho:HD X op ti) (hf:X.fn x=true\/X.env.scope.names.lookup x=some .local:=by first | exact .inl rfl | exact .inr rfl | assumption) :
  PS X (.AugAssign (.Name x pos') op e pos) (CS i te ti):=by
 intro pins s σ H D I h
 obtain ⟨v,e1,h⟩:=h
 obtain ⟨m,hn,hl⟩:=I.loc
 have vis:vD X.env.scope x:=by rcases hx with k | k; exact .inl k; exact .inr (.inl k)
 obtain ⟨u,r,l⟩:=hl i x v hi e1 vis
 refine wpAny_AugAssign_Name ?_
 have go:wpAny (model X.prog X.w) X.A (eval e X.env) (λw s₂=>wpAny (model X.prog X.w) X.A (inplaceOp op u w) (λr s₃=>wpAny (model X.prog X.w) X.A (storeName X.env x r) (λ_=>SP X pins D .next) X.xe s₃) X.xe s₂) X.xe s:=by
  refine cF (he pins s σ H _ I h) λw s1 y H1 I1 r1 q1=>?_
  refine cF (ho pins s1 σ H1 v y u w _ I1 r r1 q1) λz s2 zv H2 I2 r2 q2=>?_
  exact yP I2 hN hi hx r2 (λs3 I3=>⟨_,H2,I3,q2⟩) hf
 rcases l with ⟨hk,hm⟩ | ⟨hk,c,hc,hcell⟩
 .exact wpAny_loadName_local I.ok.kind hk hn hm go
 .rcases hk with hk | hk
  .exact wpAny_loadName_cell I.ok.kind hk hc hcell go
  .rcases hx with k | k
   .have:X.env.scope.names.lookup x=some .free:=hk
    rw [k] at this; cases this
   .have:X.env.scope.names.lookup x=some .free:=hk
    rw [k] at this; cases this
def Pr (f:Int->Int->Int):ze:=λx y H Q=>∃ i j,x=.int i/\y=.int j/\Q (.int (f i j)) H
theorem JR:HD X .Add (Pr λi j=>i+j):=by
 intro pins s σ H x y v u Q I r1 r2 h
 obtain ⟨i,j,e1,e2,q⟩:=h
 subst e1; subst e2
 obtain ⟨t,rfl⟩:=r1
 obtain ⟨t',rfl⟩:=r2
 exact iadd_int ⟨.int _,H,I.tok _,⟨_,rfl⟩,q⟩
end
section
variable {X:Cx} {pos:Pos}
def Rh (c:TT) (tb:TS):TS:=λD σ H=>∃ W:Nat->St->Hp->Prop,(∃ m,W m σ H)/\∀ m σ H,W m σ H ->
 c σ H λb H1=>if b=true then ∃ N:St->Hp->Prop,(∀ σ' H',N σ' H'->∃ m',m'<m/\W m' σ' H')/\tb { D with nx:=N,ct:=N,bk:=D.nx } σ H1 else D.nx σ H1
theorem T3 {c:Expr} {body:List Stmt} {tc:TT} {tb:TS} (hp:PassesOwn (model X.prog X.w) X.A X.env X.xe) (hc:PT X c tc) (hb:lu X body tb):PS X (.While c body [] pos) (Rh tc tb):=by
 intro pins s σ H D I h
 obtain ⟨W,⟨m0,w0⟩,turn⟩:=h
 refine wpAny_While (codeAny_whileLoop (λn s'=>∃ σ' H',Inv X pins σ' H' s'/\W n σ' H') ?_ m0 ⟨σ,H,I,w0⟩)
 rintro n s1 ⟨σ1,H1,I1,w1⟩
 refine aDL hp (bG (hc pins s1 σ1 H1 _ I1 (turn n σ1 H1 w1)) λb s2 ⟨H2,I2,q2⟩=>?_)
 cases b with
 | true =>
  obtain ⟨N,hN,q2⟩:=q2
  rw [aHZ rfl]
  refine aDL hp (bG (hb pins s2 σ1 H2 _ I2 q2) λf s3 q3=>?_)
  cases f with
  | next =>
   obtain ⟨σ3,H3,I3,n3⟩:=q3
   obtain ⟨m',hm,w3⟩:=hN σ3 H3 n3
   exact ⟨m',hm,σ3,H3,I3,w3⟩
  | cont =>
   obtain ⟨σ3,H3,I3,n3⟩:=q3
   obtain ⟨m',hm,w3⟩:=hN σ3 H3 n3
   exact ⟨m',hm,σ3,H3,I3,w3⟩
  | brk=>exact q3
  | ret v=>exact q3
 | false =>
  rw [bd2 aCK]
  exact wpAny_execs_nil ⟨σ1,H2,I2,q2⟩
end
structure It where
 go:Nat->Hp->Prop
 jN:Nat->Hp->V->Hp->Prop
 stop:Nat->Hp->Prop
def gK (X:Cx) (pins:List (Addr×Obj)) (H:Hp) (b:Addr):Prop :=
 H b=none/\b≠X.env.locals/\b∉X.fs/\(b∈X.ex\/X.s₀.heap.objs.size<=b)/\(∀ x c,X.env.cells.lookup x=some c->c≠b)/\∀ p∈X.pn++pins,p.1≠b
theorem Inv.ja {X:Cx} {pins:List (Addr×Obj)} {σ:St} {H H':Hp} {s:Shared} {b:Addr} (I:Inv X pins σ H s) (hb:s.heap.objs.size<=b) (hn:H' b=none):gK X pins H' b:=by
 refine ⟨hn,a3H (aMc I.lt hb),I.xh hb,.inr (ajJ I.sz hb),λx c e z=>?_,λp hp z=>?_⟩
 .obtain ⟨v,q⟩:=I.cell x c e
  exact absurd (aMc q.lt (by rw [z]; exact hb)) (aU3 _)
 .exact absurd (aMc (aP5 (I.pin p hp).1) (by rw [z]; exact hb)) (aU3 _)
structure Turn (P:Program) (w:World) (K:W.Frag) (tg:Expr) (J:It) (fp:List Addr) (it:Addr) (tn:Nat->Heap->Prop):Prop where
 mem:it∈fp
 obj:∀ i h,tn i h->∀ b∈fp,∃ o,h.get? b=some o/\∀ v,o.data≠.cell v
 keep:∀ i h h',tn i h->(∀ b∈fp,∀ o,h.get? b=some o->h'.get? b=some o)->tn i h'
 item:∀ (X:Cx),X.prog=P->X.w=w->X.K=K->X.calm=true->∀ (i:Nat) (pins:List (Addr×Obj)) (s:Shared) (σ:St) (H:Hp) (E:Value->Shared->Prop),Inv X pins σ H s->(∀ b∈fp,gK X pins H b)->tn i s.heap->J.go i H ->
  wpAny (model P w) X.A (pyNext (.ref it)) (λr s1=>∃ u,r=some u /\
   wpAny (model P w) X.A (letOwnedTupleGo tg (.ref it) u) (λ_ s2=>∃ x H',Inv X pins σ H' s2/\RelV x u/\J.jN i H x H'/\tn (i+1) s2.heap/\∀ b∈fp,H' b=none) E s1) E s
 done:∀ (X:Cx),X.prog=P->X.w=w->X.K=K->X.calm=true->∀ (i:Nat) (pins:List (Addr×Obj)) (s:Shared) (σ:St) (H:Hp) (E:Value->Shared->Prop),Inv X pins σ H s->(∀ b∈fp,gK X pins H b)->tn i s.heap->J.stop i H ->
  wpAny (model P w) X.A (pyNext (.ref it)) (λr s1=>r=none/\Inv X pins σ H s1) E s
 self:∀ (A:Around) (i:Nat) (s:Shared) (Q:Value->Shared->Prop) (E:Value->Shared->Prop),tn i s.heap->Q (.ref it) s->wpAny (model P w) A (pyIter (.ref it)) Q E s
abbrev TI:=St->Hp->(It->Hp->Prop)->Prop
def HE (X:Cx) (pins:List (Addr×Obj)) (σ:St) (tg:Expr) (R:It->Hp->Prop) (itv:Value) (s2:Shared):Prop :=
 ∃ (it:Addr) (fp:List Addr) (tn:Nat->Heap->Prop) (J:It) (H':Hp),itv=.ref it/\Inv X pins σ H' s2/\Turn X.prog X.w X.K tg J fp it tn/\tn 0 s2.heap/\(∀ b∈fp,gK X pins H' b)/\R J H'
def PI (X:Cx) (tg iter:Expr) (wi:TI):Prop :=
 ∀ (pins:List (Addr×Obj)) (s:Shared) (σ:St) (H:Hp) (R:It->Hp->Prop),Inv X pins σ H s->wi σ H R ->
  wpAny (model X.prog X.w) X.A (eval iter X.env) (λv s1=>wpAny (model X.prog X.w) X.A (pyIter v) (HE X pins σ tg R) X.xe s1) X.xe s
theorem kU {M:Model} {A:Around} {E:Value->Shared->Prop} {s:Shared} {tg:Expr} {it:Addr} {u:Value} {o:Obj} {n:String} {vs:Array Value} {Q:Unit->Shared->Prop} (ho:s.heap.get? it=some o) (hc:o.cls=.type n) (hd:o.data=.fields vs)
  (hn:["enumerate", "zip", "dict_itemiterator", "dict_reverseitemiterator", "odict_iterator", "itertools.zip_longest", "itertools.pairwise"].contains n=false) (hQ:Q () s):wpAny M A (letOwnedTupleGo tg (.ref it) u) Q E s:=by
 unfold letOwnedTupleGo
 cases tg <;> first
  | exact aLj hQ
  | (cases u <;> first
    | exact aLj hQ
    | (refine aLa (wpAny_load ho ?_)
       rw [hc,hd]
       show wpAny M A (if (["enumerate", "zip", "dict_itemiterator", "dict_reverseitemiterator", "odict_iterator", "itertools.zip_longest", "itertools.pairwise"].contains n && vs[0]? == some (rawInt _))=true then _ else _) Q E s
       rw [bd2 (by intro h; rw [hn,az0] at h; cases h)]
       exact aLj hQ))
def rH (K:W.Frag) (a:Addr):It :=
 ⟨λi H=>∃ xs x,ak K H a xs/\xs[i]?=some x,λi H x H'=>H'=H/\∀ xs,ak K H a xs->xs[i]?=some x,λi H=>∃ xs,ak K H a xs/\xs.length<=i⟩
def zu (K:W.Frag) (a:Addr):It :=
 ⟨λi H=>∃ xs x,bJ K H a xs/\xs[i]?=some x,λi H x H'=>H'=H/\∀ xs,bJ K H a xs->xs[i]?=some x,λi H=>∃ xs,bJ K H a xs/\xs.length<=i⟩
def qi (lo:Int) (n:Nat):It:=⟨λi _=>i<n,λi H x H'=>H'=H/\x=.int (lo+i),λi _=>n<=i⟩
theorem VP {P:Program} {w:World} {K:W.Frag} {tg:Expr} (a it:Addr):Turn P w K tg (rH K a) [it] it (λi h=>h.IsListIter it a i) where
 mem:=by simp
 obj:=λi h st b hb=>by
  have e:b=it:=by simpa using hb
  subst e
  obtain ⟨o,e,c,d⟩:=st
  exact ⟨o,e,λv z=>by rw [d] at z; cases z⟩
 keep:=λi h h' st k=>st.at λo e=>k it (by simp) o e
 item:=by
  intro X hP hw hK hc i pins s σ H E I hf st hg
  subst hP hw hK
  obtain ⟨xs,x,hq,hx⟩:=hg
  obtain ⟨its,rv,p,hz⟩:=I.list hq
  obtain ⟨u,hu,ru⟩:=rv.get hx
  obtain ⟨f0,f1,f2,f3,f4,f5⟩:=hf it (by simp)
  refine wpAny_pyNext_list_item st p.isList (x:=u) (by simpa using hu) λh' st' sb=>?_
  have I1:Inv X pins σ H { s with heap:=h' }:=I.turned (t':=s.toks) (λb o hb e=>(sb.2 b hb).trans e) f0 f1 f3 f4 f5
  obtain ⟨o,e,c,d⟩:=id st'
  exact ⟨u,rfl,kU (s:={ s with heap:=h' }) e c d (by decide) ⟨x,H,I1,ru,⟨rfl,λys hy=>by rw [I.fG hy hq]; exact hx⟩,st',λb hb=>(hf b hb).1⟩⟩
 done:=by
  intro X hP hw hK hc i pins s σ H E I hf st hg
  subst hP hw hK
  obtain ⟨xs,hq,hx⟩:=hg
  obtain ⟨its,rv,p,hz⟩:=I.list hq
  obtain ⟨f0,f1,f2,f3,f4,f5⟩:=hf it (by simp)
  have hl:=rv.length
  exact wpAny_pyNext_list_end (I.ok.hd hc) st p.isList (by simp; lia) λh' eb=>⟨rfl,I.turned (t':=s.toks) (λb o hb e=>eb b o hb e) f0 f1 f3 f4 f5⟩
 self:=λ_ _ _ _ _ st h=>wpAny_pyIter_listiter st h
theorem VD {P:Program} {w:World} {K:W.Frag} {tg:Expr} (a it:Addr):Turn P w K tg (zu K a) [it] it (λi h=>h.IsTupleIter it a i) where
 mem:=by simp
 obj:=λi h st b hb=>by
  have e:b=it:=by simpa using hb
  subst e
  obtain ⟨o,e,c,d⟩:=st
  exact ⟨o,e,λv z=>by rw [d] at z; cases z⟩
 keep:=λi h h' st k=>st.at λo e=>k it (by simp) o e
 item:=by
  intro X hP hw hK hc i pins s σ H E I hf st hg
  subst hP hw hK
  obtain ⟨xs,x,hq,hx⟩:=hg
  obtain ⟨its,rv,p,hz⟩:=I.tuple hq
  obtain ⟨u,hu,ru⟩:=rv.get hx
  obtain ⟨f0,f1,f2,f3,f4,f5⟩:=hf it (by simp)
  refine wpAny_pyNext_tuple_item st (show s.heap.IsTuple a its.toArray from p) (x:=u) (by simpa using hu) λh' st' sb=>?_
  have I1:Inv X pins σ H { s with heap:=h' }:=I.turned (t':=s.toks) (λb o hb e=>(sb.2 b hb).trans e) f0 f1 f3 f4 f5
  obtain ⟨o,e,c,d⟩:=id st'
  exact ⟨u,rfl,kU (s:={ s with heap:=h' }) e c d (by decide) ⟨x,H,I1,ru,⟨rfl,λys hy=>by rw [I.fR hy hq]; exact hx⟩,st',λb hb=>(hf b hb).1⟩⟩
 done:=by
  intro X hP hw hK hc i pins s σ H E I hf st hg
  subst hP hw hK
  obtain ⟨xs,hq,hx⟩:=hg
  obtain ⟨its,rv,p,hz⟩:=I.tuple hq
  obtain ⟨f0,f1,f2,f3,f4,f5⟩:=hf it (by simp)
  have hl:=rv.length
  exact wpAny_pyNext_tuple_end (I.ok.hd hc) st (show s.heap.IsTuple a its.toArray from p) (by simp; lia) λh' eb=>⟨rfl,I.turned (t':=s.toks) (λb o hb e=>eb b o hb e) f0 f1 f3 f4 f5⟩
 self:=λ_ _ _ _ _ st h=>wpAny_pyIter_tupleiter st h
theorem VC {P:Program} {w:World} {K:W.Frag} {tg:Expr} (it:Addr) (lo:Int) (n:Nat):Turn P w K tg (qi lo n) [it] it (λi h=>IsRangeIter h it (lo+(i:Nat) * 1) ((n:Int) - (i:Nat)) 1) where
 mem:=by simp
 obj:=λi h st b hb=>by
  have e:b=it:=by simpa using hb
  subst e
  exact ⟨_,st,λv z=>by
   have z':Data.fields _=Data.cell v:=z
   cases z'⟩
 keep:=λi h h' st k=>k it (by simp) _ st
 item:=by
  intro X hP hw hK hc i pins s σ H E I hf st hg
  subst hP hw hK
  obtain ⟨f0,f1,f2,f3,f4,f5⟩:=hf it (by simp)
  have W:=Walks.range (prog:=X.prog) (w:=X.w) (I.ok.hd hc) it lo 1 n
  refine W.item i s _ _ hg st λv h' tk hv st' kk=>?_
  obtain ⟨t,rfl⟩:=hv
  have I1:Inv X pins σ H { s with heap:=h',toks:=tk }:=I.turned (λb o hb e=>kk b o (by simpa using hb) e) f0 f1 f3 f4 f5
  refine ⟨_,rfl,kU (s:={ s with heap:=h',toks:=tk }) (n := "range_iterator") st' rfl rfl (by decide) ⟨.int (lo+i),H,I1,⟨t,?_⟩,⟨rfl,rfl⟩,st',λb hb=>(hf b hb).1⟩⟩
  rw [Int.mul_one]
 done:=by
  intro X hP hw hK hc i pins s σ H E I hf st hg
  subst hP hw hK
  obtain ⟨f0,f1,f2,f3,f4,f5⟩:=hf it (by simp)
  exact wpAny_pyNext_range_end (I.ok.hd hc) st (by have:n<=i:=hg; lia) λh' eb=>⟨rfl,I.turned (t':=s.toks) (λb o hb e=>eb b o hb e) f0 f1 f3 f4 f5⟩
 self:=λ_ _ _ _ _ st h=>wpAny_pyIter_rangeiter st h
section
variable {X:Cx} {tg:Expr}
def qN (K:W.Frag) (tl:TE):TI:=λσ H R=>tl σ H λx H1=>∃ a,x=.ref a/\(∃ xs,ak K H1 a xs)/\R (rH K a) H1
def xJ (K:W.Frag) (tl:TE):TI:=λσ H R=>tl σ H λx H1=>∃ a,x=.ref a/\(∃ xs,bJ K H1 a xs)/\R (zu K a) H1
theorem Sj {l:Expr} {tl:TE} (hl:PE X l tl):PI X tg l (qN X.K tl):=by
 intro pins s σ H R I h
 refine cF (hl pins s σ H _ I h) λv s1 x H1 I1 r1 q1=>?_
 obtain ⟨a,e,⟨xs,hq⟩,q⟩:=q1
 subst e
 cases r1
 obtain ⟨its,rv,p,hz⟩:=I1.list hq
 refine aQ6 p.isList ?_
 refine ⟨s1.heap.objs.size,[s1.heap.objs.size],_,_,H1,rfl,I1.kept (t':=s1.toks) λb o e=>aBk _ e,VP a _,⟨_,aJ2 _ rfl,rfl,rfl⟩,λb hb=>?_,q⟩
 have e:b=s1.heap.objs.size:=by simpa using hb
 subst e
 exact I1.ja (avG _) (I1.hok.fresh (avG _))
theorem Rg {l:Expr} {tl:TE} (hl:PE X l tl):PI X tg l (xJ X.K tl):=by
 intro pins s σ H R I h
 refine cF (hl pins s σ H _ I h) λv s1 x H1 I1 r1 q1=>?_
 obtain ⟨a,e,⟨xs,hq⟩,q⟩:=q1
 subst e
 cases r1
 obtain ⟨its,rv,p,hz⟩:=I1.tuple hq
 refine wpAny_pyIter_tuple (show s1.heap.IsTuple a its.toArray from p) ?_
 refine ⟨s1.heap.objs.size,[s1.heap.objs.size],_,_,H1,rfl,I1.kept (t':=s1.toks) λb o e=>aBk _ e,VD a _,⟨_,aJ2 _ rfl,rfl,rfl⟩,λb hb=>?_,q⟩
 have e:b=s1.heap.objs.size:=by simpa using hb
 subst e
 exact I1.ja (avG _) (I1.hok.fresh (avG _))
theorem TZ {pins:List (Addr×Obj)} {σ:St} {H:Hp} {s:Shared} {R:It->Hp->Prop} {E:Value->Shared->Prop} {lo hi:Int} {t u v:Tok} {tk:Nat} (I:Inv X pins σ H s) (h1 : -(2 ^ 62)<=lo) (h2:lo<2 ^ 62) (h3 : -(2 ^ 62)<=hi) (h4:hi<2 ^ 62)
  (q:R (qi lo (hi - lo).toNat) H):wpAny (model X.prog X.w) X.A (pyIter (.ref s.heap.objs.size)) (HE X pins σ tg R) E { s with heap:=s.heap.push { cls:=.type "range",data:=.fields #[.int lo t,.int hi u,.int 1 v] },toks:=tk }:=by
 refine wpAny_pyIter_range (IsRange.new ..) (small_one h1 h2 h3 h4) ?_
 have I1:Inv X pins σ H { s with heap:=s.heap.push { cls:=.type "range",data:=.fields #[.int lo t,.int hi u,.int 1 v] },toks:=tk }:=I.kept λb o e=>aBk _ e
 refine ⟨(s.heap.push { cls:=.type "range",data:=.fields #[.int lo t,.int hi u,.int 1 v] }).objs.size,[(s.heap.push { cls:=.type "range",data:=.fields #[.int lo t,.int hi u,.int 1 v] }).objs.size],_,_,H,rfl,
  I1.kept (t':=tk) λb o e=>aBk _ e,VC _ lo (hi - lo).toNat,?_,λb hb=>?_,q⟩
 .have e1:lo+((0:Nat):Int) * 1=lo:=by simp
  have e2:(((hi - lo).toNat:Nat):Int) - ((0:Nat):Int)=Builtin.Range.rangeSize lo hi 1:=by rw [rangeSize_one]; split <;> lia
  show IsRangeIter _ _ (lo+((0:Nat):Int) * 1) ((((hi - lo).toNat:Nat):Int) - ((0:Nat):Int)) 1
  rw [e1,e2]
  exact aJ2 _ rfl
 .have e:b=(s.heap.push { cls:=.type "range",data:=.fields #[.int lo t,.int hi u,.int 1 v] }).objs.size:=by simpa using hb
  subst e
  exact I1.ja (avG _) (I1.hok.fresh (avG _))
def xM (ta:TA):TI:=λσ H R=>ta σ H λvs H1=>∃ j:Int,vs=[.int j] /\ -(2 ^ 62)<=j/\j<2 ^ 62/\R (qi 0 j.toNat) H1
theorem ZM {a:Expr} {ta:TA} {p pos:Pos} (hg:Gl X "range") (hm:X.mg "range" = none) (ha:PA X [a] ta) (hs:starEach [a] X.env=[(false,eval a X.env)]:=by rfl):PI X tg (.Call (.Name "range" p) [a] [] pos) (xM ta):=by
 intro pins s σ H R I h
 refine Call_ (pA I hg hm boot_range (aZK (lH (ha pos pins s σ H _ I h) λus s1 vs H1 I1 r1 q1=>?_) hs rfl))
 obtain ⟨j,e,q1,q2,q⟩:=q1
 subst e
 cases r1 with
 | cons r rr =>
  cases rr
  obtain ⟨t,rfl⟩:=r
  exact call_range_1 (TZ I1 (by lia) (by lia) q1 q2 (by simpa using q))
def CO (wi:TI) (g:TG) (tb:TS):TS:=λD σ H=>wi σ H λJ H1=>∃ W:Nat->Nat->St->Hp->Prop,(∃ m,W 0 m σ H1)/\∀ i m σ H,W i m σ H ->
 (J.stop i H/\D.nx σ H)\/(J.go i H/\∃ N:St->Hp->Prop,(∀ σ' H',N σ' H'->∃ m',m'<m/\W (i+1) m' σ' H')/\∀ x H',J.jN i H x H'->g x σ H' λσ2 H2=>tb { D with nx:=N,ct:=N,bk:=D.nx } σ2 H2)
def yx (fp:List Addr) (h:Heap):List (Addr×Obj):=fp.filterMap λb=>(h.get? b).map λo=>(b,o)
theorem BE {fp:List Addr} {h:Heap} {b:Addr} {o:Obj} (hb:b∈fp) (e:h.get? b=some o):(b,o)∈yx fp h:=List.mem_filterMap.mpr ⟨b,hb,by rw [e]; rfl⟩
theorem VO {fp:List Addr} {h:Heap} {p:Addr×Obj} (hp:p∈yx fp h):p.1∈fp/\h.get? p.1=some p.2:=by
 obtain ⟨b,hb,e⟩:=List.mem_filterMap.mp hp
 cases q:h.get? b with
 | none=>rw [q] at e; cases e
 | some o =>
  rw [q] at e
  have e':(b,o)=p:=bcC e
  subst e'
  exact ⟨hb,q⟩
theorem Inv.pinned {pins:List (Addr×Obj)} {σ:St} {H:Hp} {s:Shared} {fp:List Addr} (I:Inv X pins σ H s) (hf:∀ b∈fp,gK X pins H b) (ho:∀ b∈fp,∃ o,s.heap.get? b=some o/\∀ v,o.data≠.cell v):Inv X (pins++yx fp s.heap) σ H s :=
 I.kO λp hp=>(bbY.mp hp).elim (λz=>I.pin p (aaD _ z)) λz=>by
  obtain ⟨hb,e⟩:=VO z
  obtain ⟨f0,f1,f2,_⟩:=hf p.1 hb
  obtain ⟨o,e',d⟩:=ho p.1 hb
  rw [e] at e'; cases e'
  exact ⟨e,f0,f1,f2,d⟩
theorem Inv.ff {pins pl:List (Addr×Obj)} {σ:St} {H:Hp} {s:Shared} (I:Inv X (pins++pl) σ H s):Inv X pins σ H s:=I.kO λp hp=>I.pin p (aaD _ (a3r _ hp))
theorem kq {iter:Expr} {body:List Stmt} {wi:TI} {g:TG} {tb:TS} {pos:Pos} (hp:PassesOwn (model X.prog X.w) X.A X.env X.xe) (hc:X.calm=true) (hi:PI X tg iter wi) (hg:PG X tg g) (hb:lu X body tb)
  (hs:∀ x,foldedSetIterable iter X.env x=pure x:=by intro _; rfl):PS X (.For tg iter body [] pos) (CO wi g tb):=by
 intro pins s σ H D I h
 refine wpAny_For (bG (hi pins s σ H _ I h) λv s1 h1=>bG h1 λitv s2 h2=>?_) hs
 obtain ⟨it,fp,tn,J,H2,e,I2,T,st2,f2,W,⟨m0,w0⟩,turn⟩:=h2
 subst e
 have jT:∀ {H':Hp},(∀ b∈fp,H' b=none)->∀ b∈fp,gK X pins H' b:=λhn b hb=>⟨hn b hb,(f2 b hb).2⟩
 refine codeAny_forLoop_any (λn s'=>∃ i σ' H',Inv X pins σ' H' s'/\tn i s'.heap/\(∀ b∈fp,H' b=none)/\W i n σ' H') ?_ m0 ⟨0,σ,H2,I2,st2,λb hb=>(f2 b hb).1,w0⟩
 rintro n s3 ⟨i,σ3,H3,I3,st3,uU,w3⟩
 rcases turn i n σ3 H3 w3 with ⟨stop,qn⟩ | ⟨go,N,hN,step⟩
 .refine aDL hp (bG (T.done X rfl rfl rfl hc i pins s3 σ3 H3 X.xe I3 (jT uU) st3 stop) λr s4 ⟨hr,I4⟩=>?_)
  subst hr
  exact wpAny_execs_nil ⟨σ3,H3,I4,qn⟩
 .refine aDL hp (bG (T.item X rfl rfl rfl hc i pins s3 σ3 H3 X.xe I3 (jT uU) st3 go) λr s4 ⟨u,hr,h4⟩=>?_)
  subst hr
  refine aDL hp (bG h4 λ_ s5 ⟨x,H5,I5,r5,y5,pF,Ax⟩=>?_)
  have W2:=I5.pinned (jT Ax) (T.obj _ _ pF)
  refine aDL hp (bG (hg _ s5 σ3 H5 x u _ W2 r5 (step x H5 y5)) λ_ s6 ⟨σ6,H6,I6,q6⟩=>?_)
  refine aDL hp (bG (hb _ s6 σ6 H6 _ I6 q6) λf s7 q7=>?_)
  have again:∀ {σ7:St} {H7:Hp},Inv X (pins++yx fp s5.heap) σ7 H7 s7->N σ7 H7->∃ m,m<n/\∃ i σ' H',Inv X pins σ' H' s7/\tn i s7.heap/\(∀ b∈fp,H' b=none)/\W i m σ' H':=λ{σ7 H7} I7 n7=>by
   obtain ⟨m',hm,w7⟩:=hN σ7 H7 n7
   refine ⟨m',hm,i+1,σ7,H7,I7.ff,T.keep _ _ _ pF λb hb o e=>(I7.pin (b,o) (aaD _ (aaD _ (BE hb e)))).1,λb hb=>?_,w7⟩
   obtain ⟨o,e,d⟩:=T.obj _ _ pF b hb
   exact (I7.pin (b,o) (aaD _ (aaD _ (BE hb e)))).2.1
  cases f with
  | next=>obtain ⟨σ7,H7,I7,n7⟩:=q7; exact again I7 n7
  | cont=>obtain ⟨σ7,H7,I7,n7⟩:=q7; exact again I7 n7
  | brk=>obtain ⟨σ7,H7,I7,q7⟩:=q7; exact ⟨σ7,H7,I7.ff,q7⟩
  | ret v=>obtain ⟨x7,σ7,H7,I7,r7,q7⟩:=q7; exact ⟨x7,σ7,H7,I7.ff,r7,q7⟩
end
theorem LJ {K:W.Frag} {a:Addr} {xs:List V} {g:TG} {tb:TS} {D:Ends} {σ:St} {H:Hp} (Pv:Nat->St->Hp->Prop) (h0:Pv 0 σ H) (hl:∀ i σ H,i<=xs.length->Pv i σ H->ak K H a xs)
  (hs:∀ i x σ H,xs[i]?=some x->Pv i σ H->g x σ H λσ2 H2=>tb { D with nx:=Pv (i+1),ct:=Pv (i+1),bk:=D.nx } σ2 H2) (hd:∀ σ H,Pv xs.length σ H->D.nx σ H) :
  ∃ W:Nat->Nat->St->Hp->Prop,(∃ m,W 0 m σ H)/\∀ i m σ H,W i m σ H ->
   ((rH K a).stop i H/\D.nx σ H)\/((rH K a).go i H/\∃ N:St->Hp->Prop,(∀ σ' H',N σ' H'->∃ m',m'<m/\W (i+1) m' σ' H')/\∀ x H',(rH K a).jN i H x H'->g x σ H' λσ2 H2=>tb { D with nx:=N,ct:=N,bk:=D.nx } σ2 H2):=by
 refine ⟨λi m σ H=>m=xs.length - i/\i<=xs.length/\Pv i σ H,⟨xs.length,by simp,auX _,h0⟩,?_⟩
 rintro i m σ H ⟨rfl,hi,p⟩
 have q:=hl i σ H hi p
 by_cases hlt:i<xs.length
 .refine .inr ⟨⟨xs,xs[i],q,by simp [hlt]⟩,Pv (i+1),λσ' H' p'=>⟨xs.length - (i+1),by lia,rfl,hlt,p'⟩,λx H' y=>?_⟩
  obtain ⟨e,y⟩:=y
  subst e
  exact hs i x σ _ (y xs q) p
 .have e:i=xs.length:=by lia
  subst e
  exact .inl ⟨⟨xs,q,avG _⟩,hd σ H p⟩
theorem yQ {lo:Int} {n:Nat} {g:TG} {tb:TS} {D:Ends} {σ:St} {H:Hp} (Pv:Nat->St->Hp->Prop) (h0:Pv 0 σ H)
  (hs:∀ i σ H,i<n->Pv i σ H->g (.int (lo+i)) σ H λσ2 H2=>tb { D with nx:=Pv (i+1),ct:=Pv (i+1),bk:=D.nx } σ2 H2) (hd:∀ σ H,Pv n σ H->D.nx σ H) :
  ∃ W:Nat->Nat->St->Hp->Prop,(∃ m,W 0 m σ H)/\∀ i m σ H,W i m σ H ->
   ((qi lo n).stop i H/\D.nx σ H)\/((qi lo n).go i H/\∃ N:St->Hp->Prop,(∀ σ' H',N σ' H'->∃ m',m'<m/\W (i+1) m' σ' H')/\∀ x H',(qi lo n).jN i H x H'->g x σ H' λσ2 H2=>tb { D with nx:=N,ct:=N,bk:=D.nx } σ2 H2):=by
 refine ⟨λi m σ H=>m=n - i/\i<=n/\Pv i σ H,⟨n,by simp,auX _,h0⟩,?_⟩
 rintro i m σ H ⟨rfl,hi,p⟩
 by_cases hlt:i<n
 .refine .inr ⟨hlt,Pv (i+1),λσ' H' p'=>⟨n - (i+1),by lia,rfl,hlt,p'⟩,λx H' y=>?_⟩
  obtain ⟨e,y⟩:=y
  subst e y
  exact hs i σ _ hlt p
 .have e:i=n:=by lia
  subst e
  exact .inl ⟨avG _,hd σ H p⟩
abbrev R2:=V->V->Hp->VK->Prop
def fc (X:Cx) (f:Value->Value->Sem Value) (r:R2):Prop :=
 ∀ (pins:List (Addr×Obj)) (s:Shared) (σ:St) (H:Hp) (x y:V) (v u:Value) (Q:VK),Inv X pins σ H s->RelV x v->RelV y u->r x y H Q ->
  wpAny (model X.prog X.w) X.A (f v u) (EP X pins σ Q) X.xe s
def Hz (X:Cx) (f:Value->Sem Value) (r:V->Hp->VK->Prop):Prop :=
 ∀ (pins:List (Addr×Obj)) (s:Shared) (σ:St) (H:Hp) (x:V) (v:Value) (Q:VK),Inv X pins σ H s->RelV x v->r x H Q ->
  wpAny (model X.prog X.w) X.A (f v) (EP X pins σ Q) X.xe s
def aW (X:Cx) (f:Value) (r:List V->Hp->VK->Prop):Prop :=
 ∀ (pins:List (Addr×Obj)) (s:Shared) (σ:St) (H:Hp) (xs:List V) (us:List Value) (Q:VK),Inv X pins σ H s->Vals xs us->r xs H Q ->
  wpAny (model X.prog X.w) X.A (call f us) (EP X pins σ Q) X.xe s
def HA (X:Cx) (r:V->Hp->(Bool->Hp->Prop)->Prop):Prop :=
 ∀ (pins:List (Addr×Obj)) (s:Shared) (σ:St) (H:Hp) (x:V) (v:Value) (Q:Bool->Hp->Prop),Inv X pins σ H s->RelV x v->r x H Q ->
  wpAny (model X.prog X.w) X.A (truthy v) (TP X pins σ Q) X.xe s
def zQ (r:R2) (ta tb:TE):TE:=λσ H Q=>ta σ H λx H1=>tb σ H1 λy H2=>r x y H2 Q
def N2 (r:V->Hp->VK->Prop) (ta:TE):TE:=λσ H Q=>ta σ H λx H1=>r x H1 Q
def rI (C:Int->Int->Prop) (g:Int->Int->V):R2:=λx y H Q=>∃ i j,x=.int i/\y=.int j/\C i j/\Q (g i j) H
def qF (g:Int->Int->V):R2:=λx y H Q=>∃ i j,x=.int i/\y=.int j/\Q (g i j) H
def rU (g:Int->V):V->Hp->VK->Prop:=λx H Q=>∃ i,x=.int i/\Q (g i) H
section
variable {X:Cx} {a b c:Expr} {ta tb tc:TE} {pos:Pos}
theorem tH (ha:PE X a ta) (hb:PE X b tb) {pins:List (Addr×Obj)} {s:Shared} {σ:St} {H:Hp} {R:V->V->Hp->Prop} (I:Inv X pins σ H s)
  (h:ta σ H λx H1=>tb σ H1 λy H2=>R x y H2) {Q:Value->Shared->Prop} {f:Value->Value->Sem Value}
  (hf:∀ v u s2 x y H2,Inv X pins σ H2 s2->RelV x v->RelV y u->R x y H2->wpAny (model X.prog X.w) X.A (f v u) Q X.xe s2) :
  wpAny (model X.prog X.w) X.A (eval a X.env) (λv s₁=>wpAny (model X.prog X.w) X.A (eval b X.env) (λu s₂=>wpAny (model X.prog X.w) X.A (f v u) Q X.xe s₂) X.xe s₁) X.xe s:=by
 refine cF (ha pins s σ H _ I h) λv s1 x H1 I1 r1 q1=>?_
 refine cF (hb pins s1 σ H1 _ I1 q1) λu s2 y H2 I2 r2 q2=>?_
 exact hf v u s2 x y H2 I2 r1 r2 q2
theorem ah {op:Operator} {r:R2} (ho:fc X (binaryOp op) r) (ha:PE X a ta) (hb:PE X b tb):PE X (.BinOp a op b pos) (zQ r ta tb):=by
 intro pins s σ H Q I h
 exact wpAny_BinOp (tH ha hb I h λv u s2 x y H2 I2 rx ry q=>ho pins s2 σ H2 x y v u Q I2 rx ry q)
theorem cH {op:UnaryOp} {r:V->Hp->VK->Prop} (ho:Hz X (unaryOp op) r) (ha:PE X a ta):PE X (.UnaryOp op a pos) (N2 r ta):=by
 intro pins s σ H Q I h
 exact UnaryOp_ (cF (ha pins s σ H _ I h) λv s1 x H1 I1 r1 q1=>ho pins s1 σ H1 x v Q I1 r1 q1)
theorem Aa {f:Value->Value->Sem Value} {C:Int->Int->Prop} {g:Int->Int->Int}
  (rule:∀ (i j:Int) (t u:Tok) (s:Shared) (Q:Value->Shared->Prop) (E:Value->Shared->Prop),C i j->Q (.int (g i j) s.toks) { s with toks:=s.toks+1 }->wpAny (model X.prog X.w) X.A (f (.int i t) (.int j u)) Q E s) :
  fc X f (rI C λi j=>.int (g i j)):=by
 intro pins s σ H x y v u Q I rx ry h
 obtain ⟨i,j,rfl,rfl,hc,q⟩:=h
 obtain ⟨t,rfl⟩:=rx
 obtain ⟨t',rfl⟩:=ry
 exact rule i j t t' s _ _ hc ⟨.int (g i j),H,I.tok _,⟨_,rfl⟩,q⟩
theorem wZ {f:Value->Value->Sem Value} {g:Int->Int->Int}
  (rule:∀ (i j:Int) (t u:Tok) (s:Shared) (Q:Value->Shared->Prop) (E:Value->Shared->Prop),Q (.int (g i j) s.toks) { s with toks:=s.toks+1 }->wpAny (model X.prog X.w) X.A (f (.int i t) (.int j u)) Q E s) :
  fc X f (qF λi j=>.int (g i j)):=by
 intro pins s σ H x y v u Q I rx ry h
 obtain ⟨i,j,rfl,rfl,q⟩:=h
 obtain ⟨t,rfl⟩:=rx
 obtain ⟨t',rfl⟩:=ry
 exact rule i j t t' s _ _ ⟨.int (g i j),H,I.tok _,⟨_,rfl⟩,q⟩
theorem pM {f:Value->Value->Sem Value} {g:Int->Int->Bool}
  (rule:∀ (i j:Int) (t u:Tok) (s:Shared) (Q:Value->Shared->Prop) (E:Value->Shared->Prop),Q (.bool (g i j)) s->wpAny (model X.prog X.w) X.A (f (.int i t) (.int j u)) Q E s) :
  fc X f (qF λi j=>.bl (g i j)):=by
 intro pins s σ H x y v u Q I rx ry h
 obtain ⟨i,j,rfl,rfl,q⟩:=h
 obtain ⟨t,rfl⟩:=rx
 obtain ⟨t',rfl⟩:=ry
 exact rule i j t t' s _ _ ⟨.bl (g i j),H,I,rfl,q⟩
def zx (i j:Int):Prop:=0<j/\j<1073741824
def HM (i j:Int):Prop:=0<=j/\j<=1000000/\i.natAbs<2 ^ 64
def ug (i j:Int):Prop:=(-(2 ^ 64)<i/\i<2 ^ 64)\/(-(2 ^ 64)<j/\j<2 ^ 64)
theorem ug.ok {i j:Int} (h:ug i j):IntMulOk i j:=by
 rcases h with ⟨h1,h2⟩ | ⟨h1,h2⟩
 .exact .of_left (intBits_le_64 h1 h2)
 .exact .of_right (intBits_le_64 h1 h2)
theorem ZR:fc X (binaryOp .Add) (qF λi j=>.int (i+j)):=wZ λ_ _ _ _ _ _ _ q=>add_int q
theorem ko:fc X (binaryOp .Sub) (qF λi j=>.int (i - j)):=wZ λ_ _ _ _ _ _ _ q=>sub_int q
theorem mh:fc X (binaryOp .Mult) (rI ug λi j=>.int (i * j)):=Aa λ_ _ _ _ _ _ _ hc q=>mul_int q hc.ok
theorem yH:fc X (binaryOp .FloorDiv) (rI zx λi j=>.int (i / j)):=Aa λi j _ _ _ _ _ hc q=>by
 have h1:(0:Int)<j:=hc.1
 have h2:j<1073741824:=hc.2
 exact floordiv_int (by lia) (by rw [Int.fdiv_eq_ediv_of_nonneg i (by lia)]; exact q) (.inl (ahp (by lia)))
theorem jd:fc X (binaryOp .Mod) (rI (λ_ j=>0<j) λi j=>.int (i % j)):=Aa λi j _ _ _ _ _ hc q=>by
 have h1:(0:Int)<j:=hc
 exact mod_int' (by lia) (by rw [Int.fmod_eq_emod_of_nonneg i (by lia)]; exact q)
theorem Rf:fc X (binaryOp .Pow) (rI HM λi j=>.int (i ^ j.toNat)):=Aa λ_ _ _ _ _ _ _ hc q=>pow_int_small hc.1 hc.2.1 hc.2.2 q
theorem NW {f:Value->Sem Value} {g:Int->Int}
  (rule:∀ (i:Int) (t:Tok) (s:Shared) (Q:Value->Shared->Prop) (E:Value->Shared->Prop),Q (.int (g i) s.toks) { s with toks:=s.toks+1 }->wpAny (model X.prog X.w) X.A (f (.int i t)) Q E s) :
  Hz X f (rU λi=>.int (g i)):=by
 intro pins s σ H x v Q I rx h
 obtain ⟨i,rfl,q⟩:=h
 obtain ⟨t,rfl⟩:=rx
 exact rule i t s _ _ ⟨.int (g i),H,I.tok _,⟨_,rfl⟩,q⟩
theorem l7:Hz X (unaryOp .USub) (rU λi=>.int (-i)):=NW λ_ _ _ _ _ q=>neg_int q
end
def rO:V->V->Bool
 | .aX,.aX=>true | .aX,.int _=>true | .int _,.aX=>true | .aX,.bl _=>true | .bl _,.aX=>true | .aX,.str _=>true | .str _,.aX=>true
 | .int _,.int _=>true | .bl _,.bl _=>true | .str _,.str _=>true | .kg _,.kg _=>true
 | .int _,.str _=>true | .str _,.int _=>true | .bl _,.str _=>true | .str _,.bl _=>true
 | _,_=>false
def Oe:R2:=λx y H Q=>rO x y=true/\Q (.bl (decide (x=y))) H
def Od:R2:=λx y H Q=>rO x y=true/\Q (.bl (!decide (x=y))) H
theorem Lo {i j:Int}:decide (V.int i=V.int j)=(i == j):=by
 rw [aZg]
 simp
theorem JQ {i j:Bool}:decide (V.bl i=V.bl j)=(i == j):=by
 rw [aZg]
 simp
theorem Ln {i j:Str}:decide (V.str i=V.str j)=(i == j):=by
 rw [aZg]
 simp
theorem Lm {i j:Array UInt8}:decide (V.kg i=V.kg j)=(i.toList == j.toList):=by
 rw [aZg]
 cases i
 cases j
 simp
section
variable {X:Cx} {a b c:Expr} {ta tb tc:TE} {pos:Pos}
theorem ZA {pins:List (Addr×Obj)} {σ:St} {H:Hp} {s:Shared} {Q:VK} {k k':Bool} (I:Inv X pins σ H s) (q:Q (.bl k) H) (e:k=k'):EP X pins σ Q (.bool k') s:=by
 subst e
 exact ⟨.bl k,H,I,rfl,q⟩
theorem aQ:fc X (compareOp .Eq) Oe:=by
 intro pins s σ H x y v u Q I rx ry h
 obtain ⟨hs,q⟩:=h
 cases x with
 | aX =>
  cases rx
  cases y with
  | aX=>cases ry; exact PySem.EqNone.eq_none_none (ZA I q (by simp))
  | bl j=>cases ry; exact PySem.EqNone.eq_none_bool (ZA I q (by simp))
  | int j=>obtain ⟨t',rfl⟩:=ry; exact PySem.EqNone.eq_none_int (ZA I q (by simp))
  | str j=>obtain ⟨t',rfl⟩:=ry; exact PySem.EqNone.eq_none_str (ZA I q (by simp))
  | _=>exact absurd (show false=true from hs) aCK
 | bl i =>
  cases rx
  cases y with
  | aX=>cases ry; exact PySem.EqNone.eq_bool_none (ZA I q (by simp))
  | bl j=>cases ry; exact eq_bool (ZA I q JQ)
  | str j=>obtain ⟨t',rfl⟩:=ry; exact PySem.EqMixed.eq_bool_str (ZA I q (by simp))
  | _=>exact absurd (show false=true from hs) aCK
 | int i =>
  obtain ⟨t,rfl⟩:=rx
  cases y with
  | aX=>cases ry; exact PySem.EqNone.eq_int_none (ZA I q (by simp))
  | int j=>obtain ⟨t',rfl⟩:=ry; exact eq_int (ZA I q Lo)
  | str j=>obtain ⟨t',rfl⟩:=ry; exact PySem.EqMixed.eq_int_str (ZA I q (by simp))
  | _=>exact absurd (show false=true from hs) aCK
 | str i =>
  obtain ⟨t,rfl⟩:=rx
  cases y with
  | aX=>cases ry; exact PySem.EqNone.eq_str_none (ZA I q (by simp))
  | bl j=>cases ry; exact PySem.EqMixed.eq_str_bool (ZA I q (by simp))
  | int j=>obtain ⟨t',rfl⟩:=ry; exact PySem.EqMixed.eq_str_int (ZA I q (by simp))
  | str j=>obtain ⟨t',rfl⟩:=ry; exact eq_str (ZA I q Ln)
  | _=>exact absurd (show false=true from hs) aCK
 | kg i =>
  obtain ⟨t,rfl⟩:=rx
  cases y with
  | kg j=>obtain ⟨t',rfl⟩:=ry; exact W.eq_bytes (ZA I q Lm)
  | _=>exact absurd (show false=true from hs) aCK
 | _=>cases y <;> exact absurd (show false=true from hs) aCK
theorem iO:fc X (compareOp .NotEq) Od:=by
 intro pins s σ H x y v u Q I rx ry h
 obtain ⟨hs,q⟩:=h
 cases x with
 | aX =>
  cases rx
  cases y with
  | aX=>cases ry; exact PySem.EqNone.ne_none_none (ZA I q (by simp))
  | bl j=>cases ry; exact PySem.EqNone.ne_none_bool (ZA I q (by simp))
  | int j=>obtain ⟨t',rfl⟩:=ry; exact PySem.EqNone.ne_none_int (ZA I q (by simp))
  | str j=>obtain ⟨t',rfl⟩:=ry; exact PySem.EqNone.ne_none_str (ZA I q (by simp))
  | _=>exact absurd (show false=true from hs) aCK
 | bl i =>
  cases rx
  cases y with
  | aX=>cases ry; exact PySem.EqNone.ne_bool_none (ZA I q (by simp))
  | bl j=>cases ry; exact ne_bool (ZA I q (arH not JQ))
  | str j=>obtain ⟨t',rfl⟩:=ry; exact PySem.EqMixed.ne_bool_str (ZA I q (by simp))
  | _=>exact absurd (show false=true from hs) aCK
 | int i =>
  obtain ⟨t,rfl⟩:=rx
  cases y with
  | aX=>cases ry; exact PySem.EqNone.ne_int_none (ZA I q (by simp))
  | int j=>obtain ⟨t',rfl⟩:=ry; exact ne_int (ZA I q (arH not Lo))
  | str j=>obtain ⟨t',rfl⟩:=ry; exact PySem.EqMixed.ne_int_str (ZA I q (by simp))
  | _=>exact absurd (show false=true from hs) aCK
 | str i =>
  obtain ⟨t,rfl⟩:=rx
  cases y with
  | aX=>cases ry; exact PySem.EqNone.ne_str_none (ZA I q (by simp))
  | bl j=>cases ry; exact PySem.EqMixed.ne_str_bool (ZA I q (by simp))
  | int j=>obtain ⟨t',rfl⟩:=ry; exact PySem.EqMixed.ne_str_int (ZA I q (by simp))
  | str j=>obtain ⟨t',rfl⟩:=ry; exact ne_str (ZA I q (arH not Ln))
  | _=>exact absurd (show false=true from hs) aCK
 | kg i =>
  obtain ⟨t,rfl⟩:=rx
  cases y with
  | kg j=>obtain ⟨t',rfl⟩:=ry; exact W.ne_bytes (ZA I q (arH not Lm))
  | _=>exact absurd (show false=true from hs) aCK
 | _=>cases y <;> exact absurd (show false=true from hs) aCK
theorem cV:fc X (compareOp .Lt) (qF λi j=>.bl (decide (i<j))):=pM λ_ _ _ _ _ _ _ q=>lt_int q
theorem wY:fc X (compareOp .LtE) (qF λi j=>.bl (decide (i<=j))):=pM λ_ _ _ _ _ _ _ q=>le_int q
theorem nF:fc X (compareOp .Gt) (qF λi j=>.bl (decide (j<i))):=pM λ_ _ _ _ _ _ _ q=>gt_int q
theorem kQ:fc X (compareOp .GtE) (qF λi j=>.bl (decide (j<=i))):=pM λ_ _ _ _ _ _ _ q=>ge_int q
theorem Zs (b:Expr) {op:CmpOp} (h:op≠.In:=by decide) (h2:op≠.NotIn:=by decide):behindInMarks op b=false:=by
 have e1:(op == CmpOp.In)=false:=by cases op <;> first | rfl | exact absurd rfl h
 have e2:(op == CmpOp.NotIn)=false:=by cases op <;> first | rfl | exact absurd rfl h2
 cases b <;> simp [behindInMarks,e1,e2]
theorem k7 {op:CmpOp} {r:R2} (ho:fc X (compareOp op) r) (ha:PE X a ta) (hb:PE X b tb) (hm:behindInMarks op b=false):PE X (.Compare a [op] [b] pos) (zQ r ta tb):=by
 intro pins s σ H Q I h
 exact wpAny_Compare1 (tH ha hb I h λv u s2 x y H2 I2 rx ry q=>ho pins s2 σ H2 x y v u Q I2 rx ry q) hm
def qo (t:TE):TT:=λσ H Q=>t σ H λx H'=>∃ k,x=.bl k/\Q k H'
theorem Zp {op:CmpOp} {r:R2} (ho:fc X (compareOp op) r) (ha:PE X a ta) (hb:PE X b tb) (hm:behindInMarks op b=false):PT X (.Compare a [op] [b] pos) (qo (zQ r ta tb)):=by
 intro pins s σ H Q I h
 refine wpAny_isTrue_Compare1 (cF (ha pins s σ H _ I h) λv s1 x H1 I1 r1 q1=>cF (hb pins s1 σ H1 _ I1 q1) λu s2 y H2 I2 r2 q2 =>
  bG (ho pins s2 σ H2 x y v u _ I2 r1 r2 q2) λc s3 ⟨z,H3,I3,r3,k,e,q3⟩=>?_) hm
 subst e
 cases r3
 exact aT6 ⟨H3,I3,q3⟩
def JP (r r':R2) (ta tb tc:TE):TE:=λσ H Q=>ta σ H λx H1=>tb σ H1 λy H2=>r x y H2 λz H3=>∃ k,z=.bl k /\
 (if k=true then tc σ H3 λw' H4=>r' y w' H4 Q else Q (.bl false) H3)
theorem TY {op op':CmpOp} {r r':R2} (ho:fc X (compareOp op) r) (ho':fc X (compareOp op') r') (ha:PE X a ta) (hb:PE X b tb) (hc:PE X c tc)
  (hm:lastMarks [op,op'] [b,c]=false:=by with_unfolding_all rfl):PE X (.Compare a [op,op'] [b,c] pos) (JP r r' ta tb tc):=by
 intro pins s σ H Q I h
 refine Compare_chain (cF (ha pins s σ H _ I h) λv s1 x H1 I1 r1 q1=>chain_link (cF (hb pins s1 σ H1 _ I1 q1) λu s2 y H2 I2 r2 q2 =>
  bG (ho pins s2 σ H2 x y v u _ I2 r1 r2 q2) λd s3 ⟨z,H3,I3,r3,k,e,q3⟩=>?_)) hm
 subst e
 cases r3
 refine aT6 ?_
 cases k with
 | false=>exact ite_ff ⟨.bl false,H3,I3,rfl,q3⟩
 | true=>exact ite_tt (chain_last (cF (hc pins s3 σ H3 _ I3 q3) λw' s4 z' H4 I4 r4 q4=>ho' pins s4 σ H4 y z' u w' Q I4 r2 r4 q4))
theorem TX {op op':CmpOp} {r r':R2} (ho:fc X (compareOp op) r) (ho':fc X (compareOp op') r') (ha:PE X a ta) (hb:PE X b tb) (hc:PE X c tc)
  (hm:lastMarks [op,op'] [b,c]=false:=by with_unfolding_all rfl):PT X (.Compare a [op,op'] [b,c] pos) (qo (JP r r' ta tb tc)):=by
 intro pins s σ H Q I h
 refine isTrue_chain (cF (ha pins s σ H _ I h) λv s1 x H1 I1 r1 q1=>test_link (cF (hb pins s1 σ H1 _ I1 q1) λu s2 y H2 I2 r2 q2 =>
  bG (ho pins s2 σ H2 x y v u _ I2 r1 r2 q2) λd s3 ⟨z,H3,I3,r3,k,e,q3⟩=>?_)) hm
 subst e
 cases r3
 refine aT6 ?_
 cases k with
 | false =>
  obtain ⟨k',e',q'⟩:=q3
  cases e'
  exact ite_ff ⟨H3,I3,q'⟩
 | true =>
  refine ite_tt (test_last (cF (hc pins s3 σ H3 _ I3 q3) λw' s4 z' H4 I4 r4 q4=>bG (ho' pins s4 σ H4 y z' u w' _ I4 r2 r4 q4) λd' s5 ⟨z2,H5,I5,r5,k2,e2,q5⟩=>?_))
  subst e2
  cases r5
  exact aT6 ⟨H5,I5,q5⟩
def zd (K:W.Frag) (x:V) (H:Hp) (k:Bool):Prop :=
 match x with
 | .aX=>k=false
 | .bl b=>k=b
 | .int i=>k=(i != 0)
 | .str y=>y.length<=sizeLine/\k=((y.length:Int) != 0)
 | .kg y=>y.size<=sizeLine/\k=((y.size:Int) != 0)
 | .ref p=>(∃ xs,ak K H p xs/\k=!xs.isEmpty)\/(∃ xs,bJ K H p xs/\k=!xs.isEmpty)\/∃ kvs,H p=some (.dK kvs)/\k=!kvs.isEmpty
 | _=>False
theorem VB {κ:Type} {kvs:List (κ×V)} {vs:List (κ×Value)} (r:KV kvs vs):(!vs.isEmpty)=!kvs.isEmpty:=by
 cases r <;> rfl
theorem MM {xs:List V} {its:List Value} (r:Vals xs its):(!its.toArray.isEmpty)=!xs.isEmpty:=by
 cases r <;> simp
theorem AJ:(sizeLine:Nat)<2 ^ 63:=by rw [azY]; decide
theorem Rc:HA X (λx H Q=>∃ k,zd X.K x H k/\Q k H):=by
 intro pins s σ H x v Q I rx h
 obtain ⟨k,e,q⟩:=h
 have hl:=AJ
 have hs:sizeLine=16777216:=azY
 cases x with
 | aX =>
  cases rx
  have e':k=false:=e
  subst e'
  exact truthy_none ⟨H,I,q⟩
 | bl b =>
  cases rx
  have e':k=b:=e
  subst e'
  exact aT6 ⟨H,I,q⟩
 | int i =>
  obtain ⟨t,rfl⟩:=rx
  have e':k=(i != 0):=e
  subst e'
  exact PySem.P.truthy_int ⟨H,I,q⟩
 | str y =>
  obtain ⟨t,rfl⟩:=rx
  obtain ⟨hy,e'⟩:y.length<=sizeLine/\k=((y.length:Int) != 0):=e
  subst e'
  exact PySem.P.truthy_str (by lia) ⟨H,I.tok _,q⟩
 | kg y =>
  obtain ⟨t,rfl⟩:=rx
  obtain ⟨hy,e'⟩:y.size<=sizeLine/\k=((y.size:Int) != 0):=e
  subst e'
  exact W.truthy_bytes (by lia) ⟨H,I.tok _,q⟩
 | ref p =>
  cases rx
  have e':(∃ xs,ak X.K H p xs/\k=!xs.isEmpty)\/(∃ xs,bJ X.K H p xs/\k=!xs.isEmpty)\/∃ kvs,H p=some (.dK kvs)/\k=!kvs.isEmpty:=e
  rcases e' with ⟨xs,hx,e'⟩ | ⟨xs,hx,e'⟩ | ⟨kvs,hx,e'⟩
  .subst e'
   obtain ⟨its,r,pl,hz⟩:=I.list hx
   have hlen:=r.length
   exact wpAny_truthy_list pl.isList (by simp only [aIh]; lia) ⟨H,I.tok _,by rw [MM r]; exact q⟩
  .subst e'
   obtain ⟨its,r,pl,hz⟩:=I.tuple hx
   have hlen:=r.length
   exact truthy_tuple pl (by simp only [aIh]; lia) ⟨H,I.tok _,by rw [MM r]; exact q⟩
  .subst e'
   obtain ⟨hz,hS,vs,r,m⟩:kvs.length<=sizeLine/\(p == sysModules)=false/\∃ vs,KV kvs vs/\s.heap.DictOf (ZG X.prog X.w) p vs:=I.hok p _ hx
   have hlen:kvs.length=vs.length:=Paired.length r
   exact wpAny_truthy_dict hS m (by lia) ⟨H,I.tok _,by rw [VB r]; exact q⟩
 | _=>exact (show False from e).elim
theorem TV (ha:PE X a ta) (he:∀ whole,isTrue a X.env whole=(do let v ← whole; standAt a.pos; holding [v] (truthy v))) :
  PT X a (λσ H Q=>ta σ H λx H'=>∃ k,zd X.K x H' k/\Q k H'):=by
 intro pins s σ H Q I h
 exact isTrue_plain (cF (ha pins s σ H _ I h) λv s1 x H1 I1 r1 q1=>Rc pins s1 σ H1 x v Q I1 r1 q1) (he _)
theorem vals1 {x:V} {us:List Value} (r:Vals [x] us):∃ u,us=[u]/\RelV x u:=by
 cases r with
 | cons r1 r2=>cases r2; exact ⟨_,rfl,r1⟩
theorem vals2 {x y:V} {us:List Value} (r:Vals [x,y] us):∃ u w',us=[u,w']/\RelV x u/\RelV y w':=by
 cases r with
 | cons r1 r2 =>
  cases r2 with
  | cons r3 r4=>cases r4; exact ⟨_,_,rfl,r1,r3⟩
theorem LI:aW X (.builtin "abs") (λxs H Q=>∃ i,xs=[.int i]/\Q (.int (if i<0 then -i else i)) H):=by
 intro pins s σ H xs us Q I r h
 obtain ⟨i,rfl,q⟩:=h
 obtain ⟨u,rfl,t,rfl⟩:=vals1 r
 exact call_abs_int λu tk=>⟨.int (if i<0 then -i else i),H,I.tok _,⟨_,rfl⟩,q⟩
theorem Mj (hc:X.calm=true):aW X (.builtin "max") (λxs H Q=>∃ i j,xs=[.int i,.int j]/\Q (.int (if j > i then j else i)) H):=by
 intro pins s σ H xs us Q I r h
 obtain ⟨i,j,rfl,q⟩:=h
 obtain ⟨u,w',rfl,⟨t,rfl⟩,⟨t',rfl⟩⟩:=vals2 r
 refine max_two_ints (I.ok.hd hc) λh' tk k=>⟨_,H,I.kept k,?_,q⟩
 by_cases hj:j > i
 .rw [aHZ hj,aHZ hj]; exact ⟨_,rfl⟩
 .rw [bd2 hj,bd2 hj]; exact ⟨_,rfl⟩
theorem VN (hc:X.calm=true):aW X (.builtin "min") (λxs H Q=>∃ i j,xs=[.int i,.int j]/\Q (.int (if j<i then j else i)) H):=by
 intro pins s σ H xs us Q I r h
 obtain ⟨i,j,rfl,q⟩:=h
 obtain ⟨u,w',rfl,⟨t,rfl⟩,⟨t',rfl⟩⟩:=vals2 r
 refine min_two_ints (I.ok.hd hc) λh' tk k=>⟨_,H,I.kept k,?_,q⟩
 by_cases hj:j<i
 .rw [aHZ hj,aHZ hj]; exact ⟨_,rfl⟩
 .rw [bd2 hj,bd2 hj]; exact ⟨_,rfl⟩
theorem Mi:aW X (.type "int") (λxs H Q=>(∃ i,xs=[.int i]/\Q (.int i) H)\/∃ k,xs=[.bl k]/\Q (.int (if k then 1 else 0)) H):=by
 intro pins s σ H xs us Q I r h
 rcases h with ⟨i,rfl,q⟩ | ⟨k,rfl,q⟩
 .obtain ⟨u,rfl,t,rfl⟩:=vals1 r
  exact call_int_int ⟨.int i,H,I,⟨_,rfl⟩,q⟩
 .obtain ⟨u,rfl,r1⟩:=vals1 r
  cases r1
  exact call_int_bool ⟨.int (if k then 1 else 0),H,I.tok _,⟨_,rfl⟩,q⟩
theorem V5:aW X (.builtin "divmod") (λxs H Q=>∃ i j,xs=[.int i,.int j]/\zx i j/\∀ p,H p=none->Q (.ref p) (upd H p (.tup [.int (i / j),.int (i % j)]))):=by
 intro pins s σ H xs us Q I r h
 obtain ⟨i,j,rfl,⟨h1,h2⟩,q⟩:=h
 obtain ⟨u,w',rfl,⟨t,rfl⟩,⟨t',rfl⟩⟩:=vals2 r
 refine divmod_int (by lia) ?_ (.inl (ahp (by lia)))
 rw [Int.fdiv_eq_ediv_of_nonneg i (by lia),Int.fmod_eq_emod_of_nonneg i (by lia)]
 have hn:H s.heap.objs.size=none:=I.hok.fresh (avG _)
 refine ⟨.ref s.heap.objs.size,_,?_,rfl,q _ hn⟩
 refine I.laid (λb o e=>aBk _ e) (avG _) ⟨by simp only [aRy,a2H]; rw [azY]; decide,[.int (i / j) s.toks,.int (i % j) (s.toks+1)],.cons ⟨_,rfl⟩ (.cons ⟨_,rfl⟩ .nil),?_⟩
 exact ⟨_,aJ2 s.heap rfl,rfl,0,rfl⟩
end
structure kr (h:Heap) (x dx C:Addr) (mA:Str->Option Value):Prop where
 obj:h.get? x=some (W.instObj C dx)
 ns:h.Ns1 dx mA
 ne:dx≠x
theorem VM {h:Heap} {dx:Addr} {mA:Str->Option Value} (n:h.Ns1 dx mA):∃ od,h.get? dx=some od/\∀ name,W.lookIn name od=some (mA name):=by
 obtain ⟨o,es,ep,ho,hd,hk,_,hm⟩:=n
 refine ⟨o,ho,λname=>?_⟩
 have e:=hm name
 unfold nsFind findBy at e
 rw [← Array.find?_toList] at e
 unfold W.lookIn
 rw [hd]
 dsimp only
 split
 .rename_i y q
  rw [q] at e
  exact arH some e
 .rename_i q
  rw [q] at e
  have a:es.toList.any (·.refKey)=false:=by
   rw [any_eq_false]
   intro y hy
   obtain ⟨z,t,hkey⟩:=hk y (Array.mem_toList_iff.mp hy)
   simp [DictEntry.refKey,hkey]
  have a':¬ es.toList.any (·.refKey)=true:=by rw [a]; exact aCK
  rw [bd2 a']
  exact arH some e
theorem kr.look {h:Heap} {x dx C:Addr} {mA:Str->Option Value} (I:kr h x dx C mA):∃ od,W.InstAt h x (W.instObj C dx) C (some od)/\∀ name,W.lookIn name od=some (mA name) :=
 let ⟨od,ho,hl⟩:=VM I.ns
 ⟨od,⟨I.obj,rfl,rfl,ho⟩,hl⟩
section
variable {prog:Program} {w:World} {A:Around} {E:Value->Shared->Prop} {s:Shared} {K:W.Frag} {x dx C f:Addr} {mA:Str->Option Value} {name:Str} {v:Value}
theorem Si {expr:Bool} {Q:Value->Shared->Prop} (X:K.In s.heap) (I:kr s.heap x dx C mA) (hg:W.plainGet K C name=true) (hh:W.hasDictIn K C=true)
  (ha:W.findIn K (.ref C) name=some none) (hv:mA name=some v) (hv':W.handedIn v=true) (h:Q v { s with toks:=s.toks+1 }) :
  wpAny (model prog w) A (getAttr (.ref x) name expr) Q E s:=by
 obtain ⟨od,J,hl⟩:=I.look
 exact W.get_value X J (W.plainGet_of hg).1 (W.findObj_own hh ha rfl (by rw [hl,hv])) hv' h
theorem TU {pl:Sem Bool} {Q:Value×List Value->Shared->Prop} (X:K.In s.heap) (I:kr s.heap x dx C mA) (hg:W.plainGet K C name=true)
  (hf:W.findIn K (.ref C) name=some (some (.ref f))) (ht:W.isFn K (.ref f)=true) (hv:mA name=none) (h:Q (.ref f,[.ref x]) s) :
  wpAny (model prog w) A (getMethod (.ref x) name pl) Q E s:=by
 obtain ⟨od,J,hl⟩:=I.look
 exact W.method_fn X J (W.plainGet_of hg).1 (W.plainGet_of hg).2 hf (aPf.mp ht) (by show (W.lookIn name od).map (·.isSome)=some false; rw [hl,hv]; rfl) h
theorem Sg {ns:List Str} {Q:Unit->Shared->Prop} (X:K.In s.heap) (I:kr s.heap x dx C mA)
  (hs:W.findIn K (.ref C) "__setattr__" = some (some (.builtin "object.__setattr__"))) (hp:W.plainOver K C=true) (ht:W.takerIn K C name=some none) (hh:W.hasDictIn K C=true)
  (hw:PySem.Within mA ns) (hsz:ns.length<=sizeLine)
  (h:∀ h',kr h' x dx C (λy=>if y=name then some v else mA y)->Heap.SameBut dx s.heap h'->Q () { s with heap:=h',toks:=s.toks+2 }) :
  wpAny (model prog w) A (setAttr (.ref x) name v) Q E s:=by
 obtain ⟨od,J,hl⟩:=I.look
 refine W.set_plain X J hs (W.osa_open (s:={ s with toks:=s.toks+1 }) (r:=none) X J hp ht λb=>?_)
 obtain ⟨cd,hc,hd'⟩:=W.any_some hh
 have hx:s.heap.get? x=some ⟨.ref C,some dx,.plain,#[]⟩:=I.obj
 refine aLa (aLj (aLa (aLa (wpAny_loadPart hx (aLa (W.Looks.here (s:={ s with toks:=s.toks+1 }) (W.looks_clsIn X hc) ?_))))))
 rw [hd']
 refine aLj (a:=some dx) (aLa (aLj (aLa ?_)))
 refine wpAny_nsSet1 (s:={ s with toks:=s.toks+1 }) I.ns λh' hn2 hs2=>?_
 obtain ⟨oD,esD,X5,PD,PX,PZ⟩:=hn2.count (PySem.Within.cons name v hw)
 refine aLa (wpAny_lookBehind PD (by rw [PX]; exact pastItsLine_dict (ajJ PZ (by rw [aRy]; lia))) ?_)
 exact aLj (h _ ⟨(hs2.2 _ (aay I.ne)).trans I.obj,hn2,I.ne⟩ hs2)
theorem TR {R:Result->Shared->Prop} {vs:List Value} {kw:List (Str×Value)} (X:K.In s.heap) (hm:W.makesIn K C=true)
  (hi:W.findIn K (.ref C) "__init__" = some (some (.ref f))) (hf:W.typeIn K (.ref f)=some (.type "function"))
  (h:codeAny (model prog w) (A.under (.builtin "type.__call__" ⟨.ref C :: vs,kw⟩)) (.call (.ref f) ⟨.ref (s.heap.objs.size+1) :: vs,kw⟩) (W.InitBack (s.heap.objs.size+1) R)
   { s with heap:=(s.heap.push W.emptyDict).push (W.instObj C s.heap.objs.size) }) :
  codeAny (model prog w) A (.call (.ref C) ⟨vs,kw⟩) R s:=by
 obtain ⟨hh,g,d,t,os⟩:=s
 exact W.make_core (W.makes_of X hm) (W.looks_findIn X hi) (λself=>W.bind_fn X self hf) (.inl rfl) h
end
def aM (f:Str) (v:V):List (Str×V)->List (Str×V)
 | []=>[(f,v)]
 | (g,x) :: r=>if g=f then (g,v) :: r else (g,x) :: aM f v r
theorem Zr (f g:Str) (v:V):∀ fs:List (Str×V),(aM f v fs).lookup g=if g=f then some v else fs.lookup g
 | []=>by
  show List.lookup g [(f,v)]=_
  by_cases h:g=f
  .have hb:(g == f)=true:=aPf.mpr h
   simp only [List.lookup,hb,aHZ h]
  .have hb:(g == f)=false:=aNx.mpr h
   simp only [List.lookup,hb,bd2 h]
 | (k,x) :: r=>by
  have ih:=Zr f g v r
  rw [show aM f v ((k,x) :: r)=(if k=f then (k,v) :: r else (k,x) :: aM f v r) from rfl]
  by_cases hk:k=f
  .rw [aHZ hk]
   by_cases h:g=k
   .have hb:(g == k)=true:=aPf.mpr h
    simp only [List.lookup,hb,aHZ (h.trans hk)]
   .have hb:(g == k)=false:=aNx.mpr h
    simp only [List.lookup,hb,bd2 (λe:g=f=>h (e.trans hk.symm))]
  .rw [bd2 hk]
   by_cases h:g=k
   .have hb:(g == k)=true:=aPf.mpr h
    simp only [List.lookup,hb,bd2 (λe:g=f=>hk (h.symm.trans e))]
   .have hb:(g == k)=false:=aNx.mpr h
    simp only [List.lookup,hb]
    exact ih
theorem Gv (f:Str) (v:V):∀ fs:List (Str×V),f∈(aM f v fs).map (·.1)/\∀ g,g∈fs.map (·.1)->g∈(aM f v fs).map (·.1)
 | []=>⟨by simp [aM],λg h=>by simp at h⟩
 | (k,x) :: r=>by
  obtain ⟨i1,i2⟩:=Gv f v r
  rw [show aM f v ((k,x) :: r)=(if k=f then (k,v) :: r else (k,x) :: aM f v r) from rfl]
  by_cases hk:k=f
  .rw [aHZ hk]
   subst hk
   exact ⟨by simp,λg h=>by simpa using h⟩
  .rw [bd2 hk]
   refine ⟨?_,λg h=>?_⟩
   .rw [ar3]
    exact akt _ i1
   .rw [ar3] at h ⊢
    rcases aDl.mp h with e | e
    .exact aDl.mpr (.inl e)
    .exact akt _ (i2 g e)
theorem ML (f:Str) (v:V):∀ fs:List (Str×V),(aM f v fs).length<=fs.length+1
 | []=>by simp [aM]
 | (k,x) :: r=>by
  have ih:=ML f v r
  rw [show aM f v ((k,x) :: r)=(if k=f then (k,v) :: r else (k,x) :: aM f v r) from rfl]
  by_cases hk:k=f
  .rw [aHZ hk,aRy,aRy]; lia
  .rw [bd2 hk,aRy,aRy]; lia
theorem cL.some_of {v:V} {o:Option Value} (r:cL (some v) o):∃ u,o=some u/\RelV v u:=by
 cases o with
 | none=>exact (show False from r).elim
 | some u=>exact ⟨u,rfl,r⟩
theorem cL.none_of {o:Option Value} (r:cL none o):o=none:=by
 cases o with
 | none=>rfl
 | some u=>exact (show False from r).elim
theorem VL {v:V} {u:Value} (r:RelV v u):W.handedIn u=true:=by
 cases v with
 | aX=>cases (show u=Value.none from r); rfl
 | bl b=>cases (show u=Value.bool b from r); rfl
 | int i=>obtain ⟨t,e⟩:=(show ∃ t,u=Value.int i t from r); cases e; rfl
 | str x=>obtain ⟨t,e⟩:=(show ∃ t,u=Value.str x t from r); cases e; rfl
 | kg b=>obtain ⟨t,e⟩:=(show ∃ t,u=Value.bytes b t from r); cases e; rfl
 | pX b=>obtain ⟨t,e⟩:=(show ∃ t,u=Value.float b t from r); cases e; rfl
 | ref a=>cases (show u=Value.ref a from r); rfl
 | ty n=>cases (show u=Value.type n from r); rfl
section
variable {P:Program} {w:World} {H H':Hp} {h h':Heap} {a C dx:Addr} {fs fs':List (Str×V)}
theorem A5 (hok:dz P w H h) (e:H a=some (.ins C dx fs)):∃ mA,kr h a dx C mA/\(∀ f,cL (fs.lookup f) (mA f))/\PySem.Within mA (fs.map (·.1))/\fs.length<=1000/\H dx=some (.own a):=by
 obtain ⟨d,z,ne,ob,mA,n,r,q⟩:=(show aJ P w H h a (.ins C dx fs) from hok a _ e)
 exact ⟨mA,⟨ob,n,ne⟩,r,q,z,d⟩
end
structure oX (K:W.Frag) (C:Addr):Prop where
 pg:W.plainGet K C Str.empty=true
 hd:W.hasDictIn K C=true
 po:W.plainOver K C=true
 sa:W.findIn K (.ref C) "__setattr__" = some (some (.builtin "object.__setattr__"))
theorem oX.get {K:W.Frag} {C:Addr} (c:oX K C) (f:Str):W.plainGet K C f=true:=c.pg
def bV (K:W.Frag) (C:Addr) (f:Str):Prop:=W.findIn K (.ref C) f=some none
theorem bV.vQ {K:W.Frag} {C:Addr} {f:Str} (n:bV K C f):W.takerIn K C f=some none:=by
 unfold W.takerIn
 rw [show W.findIn K (.ref C) f=some none from n]
 rfl
structure Meth (K:W.Frag) (C:Addr) (m:Str) (f:Addr):Prop where
 at_:W.findIn K (.ref C) m=some (some (.ref f))
 fn:W.isFn K (.ref f)=true
 kp:W.keepIn K (.ref f)=true
section
variable {X:Cx} {pins:List (Addr×Obj)} {σ:St} {H:Hp} {s:Shared} {a C dx:Addr} {fs:List (Str×V)} {f:Str} {v:V} {A:Around} {E:Value->Shared->Prop}
theorem VA {b:Bool} {Q:Value->Shared->Prop} (I:Inv X pins σ H s) (e:H a=some (.ins C dx fs)) (c:oX X.K C) (n:bV X.K C f) (l:fs.lookup f=some v)
  (h:∀ u s',Inv X pins σ H s'->RelV v u->Q u s'):wpAny (model X.prog X.w) A (getAttr (.ref a) f b) Q E s:=by
 obtain ⟨mA,O,r,_,_,_⟩:=A5 I.hok e
 obtain ⟨u,hu,ru⟩:=cL.some_of (v:=v) (o:=mA f) (by rw [← l]; exact r f)
 exact Si I.dN O (c.get f) c.hd n hu (VL ru) (h u _ (I.tok _) ru)
theorem Vz {m:Str} {g:Addr} {pl:Sem Bool} {Q:Value×List Value->Shared->Prop} (I:Inv X pins σ H s) (e:H a=some (.ins C dx fs)) (c:oX X.K C) (k:Meth X.K C m g) (l:fs.lookup m=none)
  (h:Q (.ref g,[.ref a]) s):wpAny (model X.prog X.w) A (getMethod (.ref a) m pl) Q E s:=by
 obtain ⟨mA,O,r,_,_,_⟩:=A5 I.hok e
 have hn:mA m=none:=cL.none_of (by rw [← l]; exact r m)
 exact TU I.dN O (c.get m) k.at_ k.fn hn h
theorem Vy {y:V} {u:Value} {Q:Unit->Shared->Prop} (I:Inv X pins σ H s) (e:H a=some (.ins C dx fs)) (c:oX X.K C) (n:bV X.K C f) (hl:fs.length<1000) (ry:RelV y u)
  (h:∀ s',Inv X pins σ (upd H a (.ins C dx (aM f y fs))) s'->Q () s'):wpAny (model X.prog X.w) A (setAttr (.ref a) f u) Q E s:=by
 obtain ⟨mA,O,r,wi,_,ho⟩:=A5 I.hok e
 have hz:(fs.map (·.1)).length<=sizeLine:=by rw [aH5,azY]; lia
 refine Sg I.dN O c.sa c.po n.vQ c.hd wi hz λh' O' sb=>h _ ?_
 have hd:∃ o,h'.get? dx=some o:=let ⟨o,_,_,e',_⟩:=O'.ns; ⟨o,e'⟩
 refine I.write (x:=a) (e:=dx) (by rw [e]; exact True.intro) (.inr ho) (λb q hb z=>(sb.2 b hb).trans z) hd ?_
 refine ⟨by rw [Ze O.ne]; exact ho,?_,O.ne,O'.obj,_,O'.ns,λg=>?_,λg hg=>?_⟩
 .have:=ML f y fs; lia
 .show cL ((aM f y fs).lookup g) (if g=f then some u else mA g)
  rw [Zr]
  by_cases q:g=f
  .rw [aHZ q,aHZ q]; exact ry
  .rw [bd2 q,bd2 q]; exact r g
 .by_cases q:g=f
  .rw [q]; exact (Gv f y fs).1
  .refine (Gv f y fs).2 g (wi g λz=>hg ?_)
   show (if g=f then some u else mA g)=none
   rw [bd2 q]; exact z
theorem Inv.made (I:Inv X pins σ H s):Inv X pins σ (upd (upd H s.heap.objs.size (.own (s.heap.objs.size+1))) (s.heap.objs.size+1) (.ins C s.heap.objs.size []))
  { s with heap:=(s.heap.push W.emptyDict).push (W.instObj C s.heap.objs.size) }:=by
 have e1:(s.heap.push W.emptyDict).get? s.heap.objs.size=some W.emptyDict:=aJ2 s.heap rfl
 have e2:((s.heap.push W.emptyDict).push (W.instObj C s.heap.objs.size)).get? (s.heap.objs.size+1)=some (W.instObj C s.heap.objs.size):=by
  have:=aJ2 (s.heap.push W.emptyDict) (o:=W.instObj C s.heap.objs.size) rfl
  rwa [aRI] at this
 have e3:(s.heap.push W.emptyDict).Ns s.heap.objs.size (λ_=>none):=⟨W.emptyDict,#[],_,e1,rfl,(λe he=>absurd he (by simp)),λ_=>rfl⟩
 have I1:=I.laid (a:=s.heap.objs.size) (o:=.own (s.heap.objs.size+1)) (h':=s.heap.push W.emptyDict) (t':=s.toks) (λb u q=>aBk _ q) (avG _) ⟨_,e1⟩
 refine I1.laid (a:=s.heap.objs.size+1) (o:=.ins C s.heap.objs.size []) (t':=s.toks) (λb u q=>aBk _ q) (Nat.le_of_eq (aRI _ _)) ?_
 have ne:s.heap.objs.size≠s.heap.objs.size+1:=a0P (ayu _)
 refine ⟨by rw [Ze ne,Za],auX _,ne,e2,λ_=>none,(Heap.Ns1.of_empty e3).at λo q=>aBk _ q,λ_=>True.intro,λy hy=>absurd rfl hy⟩
theorem Sf {prog:Program} {w:World} {env:Env} {e:Expr} {f:Str} {pos:Pos} {s:Shared} {Q:Value->Shared->Prop} (hb:attributeBase e f env (eval e env)=eval e env)
  (h:wpAny (model prog w) A (eval e env) (λo s₁=>wpAny (model prog w) A (getAttr o f true) Q E s₁) E s):wpAny (model prog w) A (eval (.Attribute e f pos) env) Q E s :=
 Attribute_any_ h (by rw [arm_eval_Attribute,hb])
end
def vY (K:W.Frag) (ta:TE) (f:Str):TE:=λσ H Q=>ta σ H λx H1=>∃ a C dx fs v,x=.ref a/\H1 a=some (.ins C dx fs)/\oX K C/\bV K C f/\fs.lookup f=some v/\Q v H1
def C0 (K:W.Frag) (ta tv:TE) (f:Str):TS:=λD σ H=>tv σ H λy H1=>ta σ H1 λx H2=>∃ a C dx fs,x=.ref a/\H2 a=some (.ins C dx fs)/\oX K C/\bV K C f/\fs.length<1000 /\
 D.nx σ (upd H2 a (.ins C dx (aM f y fs)))
def zw (X:Cx) (op:Operator) (rd:V->V->Hp->VK->Prop):Prop :=
 ∀ (pins:List (Addr×Obj)) (s:Shared) (σ:St) (H:Hp) (x y:V) (u v:Value) (Q:VK),Inv X pins σ H s->RelV x u->RelV y v->rd x y H Q->wpAny (model X.prog X.w) X.A (inplaceOp op u v) (EP X pins σ Q) X.xe s
section
variable {X:Cx} {o e value:Expr} {f:Str} {pos pos' tpos:Pos} {ta tv:TE}
theorem Rb (he:PE X e ta) (hb:attributeBase e f X.env (eval e X.env)=eval e X.env):PE X (.Attribute e f pos) (vY X.K ta f):=by
 intro pins s σ H Q I h
 refine Sf hb (bG (he pins s σ H _ I h) λu s1 ⟨x,H1,I1,rx,a,C,dx,fs,v,ex,ea,c,n,l,q⟩=>?_)
 subst ex
 obtain rfl:u=Value.ref a:=rx
 exact VA I1 ea c n l λu' s2 I2 ru=>⟨v,H1,I2,ru,q⟩
theorem yw (ha:PE X o ta) (hv:PE X value tv) (hs:swapsWith value (some (.Attribute o f pos')) pos.line X.env=pure false):PS X (.Assign [.Attribute o f pos'] value pos) (C0 X.K ta tv f):=by
 intro pins s σ H D I h
 refine plainObj_wpAny_Assign_Attribute (cF (hv pins s σ H _ I h) λu s1 y H1 I1 ry q=>bG (ha pins s1 σ H1 _ I1 q) λov s2 ⟨x,H2,I2,rx,a,C,dx,fs,ex,ea,c,n,l,q2⟩=>?_) hs
 subst ex
 obtain rfl:ov=Value.ref a:=rx
 exact Vy I2 ea c n l ry λs3 I3=>⟨σ,_,I3,q2⟩
def Dc:V->V->Hp->VK->Prop:=λx y H Q=>∃ i j,x=.int i/\y=.int j/\Q (.int (i+j)) H
theorem Ra:zw X .Add Dc:=by
 rintro pins s σ H x y u v Q I rx ry ⟨i,j,rfl,rfl,q⟩
 obtain ⟨t,rfl⟩:=(show ∃ t,u=Value.int i t from rx)
 obtain ⟨t',rfl⟩:=(show ∃ t',v=Value.int j t' from ry)
 exact PyProof.Rows.iadd_int ⟨.int (i+j),H,I.tok _,⟨_,rfl⟩,q⟩
end
section
variable {X:Cx} {pins:List (Addr×Obj)} {σ:St} {H:Hp} {s:Shared} {A:Around} {E:Value->Shared->Prop} {Q:Value->Shared->Prop} {c:Value} {b:Bool}
inductive fV (K:W.Frag) (H:Hp):V->Value->Prop where
 | aX:fV K H .aX (.type "NoneType")
 | bl (x:Bool):fV K H (.bl x) (.type "bool")
 | int (i:Int):fV K H (.int i) (.type "int")
 | str (x:Str):fV K H (.str x) (.type "str")
 | pX (x:UInt64):fV K H (.pX x) (.type "float")
 | lst {a:Addr} {xs:List V} (e:H a=some (.lst xs)):fV K H (.ref a) (.type "list")
 | bC {a:Addr} {o:Obj} {xs:List V} (e:H a=some (.bC o (.lst xs))):fV K H (.ref a) (.type "list")
 | tup {a:Addr} {xs:List V} (e:H a=some (.tup xs)):fV K H (.ref a) (.type "tuple")
 | dK {a:Addr} {kvs:List (Key×V)} (e:H a=some (.dK kvs)):fV K H (.ref a) (.type "dict")
 | dT {a:Addr} {kvs:List (List Key×V)} (e:H a=some (.dT kvs)):fV K H (.ref a) (.type "dict")
 | ins {a C dx:Addr} {fs:List (Str×V)} (e:H a=some (.ins C dx fs)) (cl:oX K C) (ha:W.findIn K (.ref C) "__class__" = some (some (.builtin "object.__class__")))
   (hn:W.specialIn K (.builtin "object.__class__") "__get__" = some (some (.builtin "getset_descriptor.__get__"))) (htk:W.takesIn K (.builtin "object.__class__")=some true)
   (hm:W.mroIn K C (.type "object")=some true):fV K H (.ref a) (.ref C)
theorem VJ {x:V} {u t:Value} (I:Inv X pins σ H s) (rx:RelV x u) (ty:fV X.K H x t) (e:W.kitOne X.K t c=some b) (h:∀ tk,Q (.bool b) { s with toks:=tk }) :
  wpAny (model X.prog X.w) A (call (.builtin "isinstance") [u,c]) Q E s:=by
 cases ty with
 | aX=>cases (show u=Value.none from rx); exact asJ W.kitx_none I.dN True.intro e (λz=>nomatch z) h
 | bl y=>cases (show u=Value.bool y from rx); exact asJ W.kitx_bool I.dN True.intro e (λz=>nomatch z) h
 | int i=>obtain ⟨t,q⟩:=(show ∃ t,u=Value.int i t from rx); cases q; exact asJ W.kitx_int I.dN True.intro e (λz=>nomatch z) h
 | str y=>obtain ⟨t,q⟩:=(show ∃ t,u=Value.str y t from rx); cases q; exact asJ W.kitx_str I.dN True.intro e (λz=>nomatch z) h
 | pX y=>obtain ⟨t,q⟩:=(show ∃ t,u=Value.float y t from rx); cases q; exact asJ W.kitx_float I.dN True.intro e (λz=>nomatch z) h
 | @lst a xs ea =>
  cases (show u=Value.ref a from rx)
  obtain ⟨_,_,n,_,h1⟩:=(show aJ X.prog X.w H s.heap a (.lst xs) from I.hok a _ ea)
  exact asJ W.kitx_list I.dN ⟨_,h1,rfl⟩ e (λz=>nomatch z) h
 | @bC a ob xs ea =>
  cases (show u=Value.ref a from rx)
  obtain ⟨_,_,_,n,_,h1⟩:=(show aJ X.prog X.w H s.heap a (.bC ob (.lst xs)) from I.hok a _ ea)
  exact asJ W.kitx_list I.dN ⟨_,h1,rfl⟩ e (λz=>nomatch z) h
 | @tup a xs ea =>
  cases (show u=Value.ref a from rx)
  obtain ⟨_,_,_,p⟩:=(show aJ X.prog X.w H s.heap a (.tup xs) from I.hok a _ ea)
  obtain ⟨o,h1,h2,_⟩:=p
  exact asJ W.kitx_tuple I.dN ⟨o,h1,h2⟩ e (λz=>nomatch z) h
 | @dK a kvs ea =>
  cases (show u=Value.ref a from rx)
  obtain ⟨_,_,vs,_,p⟩:=(show aJ X.prog X.w H s.heap a (.dK kvs) from I.hok a _ ea)
  obtain ⟨o,es,ep,h1,h2,_⟩:=p
  exact asJ W.kitx_dict I.dN ⟨o,h1,h2.1⟩ e (λz=>nomatch z) h
 | @dT a kvs ea =>
  cases (show u=Value.ref a from rx)
  obtain ⟨_,_,xs,_,o,es,ep,h1,h2,_⟩:=(show aJ X.prog X.w H s.heap a (.dT kvs) from I.hok a _ ea)
  exact asJ W.kitx_dict I.dN ⟨o,h1,h2.1⟩ e (λz=>nomatch z) h
 | @ins a C dx fs ea cl ha hn htk hm =>
  cases (show u=Value.ref a from rx)
  obtain ⟨mA,O,_⟩:=A5 I.hok ea
  obtain ⟨od,J,_⟩:=O.look
  exact asJ (W.kitx_own (cl.get _) cl.hd ha hn htk hm) I.dN J e (λz=>nomatch z) h
end
structure aZ (k:Nat) (A:Around):Prop where
 hd:A.handled=none
 dp:A.depth+3 * k+5<recursionLimit
 un:A.units+16 * k+200<cLine
 gd:A.guards=some []
theorem aZ.mono {j k:Nat} {A:Around} (r:aZ k A) (h:j<=k):aZ j A:=⟨r.hd,by have:=r.dp; lia,by have:=r.un; lia,r.gd⟩
theorem aZ.deeper {k:Nat} {A:Around} (r:aZ (k+1) A) (env:Env):aZ k (A.deeper env) :=
 ⟨r.hd,by have:=r.dp; show A.depth+1+3 * k+5<_; lia,by have:=r.un; show A.units+3+16 * k+200<_; lia,r.gd⟩
theorem Vx {A:Around} {C:Addr} {us:List Value} {kw:List (Str×Value)}:(A.under (.builtin "type.__call__" ⟨.ref C :: us,kw⟩)).depth=A.depth+1:=by
 first | rfl | simp [Around.under,Code.weight,Code.isCreation,Code.isGuard,Code.isCaller,Code.frames,Code.isFrame,guardIds]
theorem Vw {A:Around} {C:Addr} {us:List Value} {kw:List (Str×Value)}:(A.under (.builtin "type.__call__" ⟨.ref C :: us,kw⟩)).units=A.units+1:=by
 first | rfl | simp [Around.under,Code.cUnits,Code.frames,Code.isFrame]
theorem aZ.make {k:Nat} {A:Around} (r:aZ (k+1) A) (C:Addr) (us:List Value) (kw:List (Str×Value)):aZ k (A.under (.builtin "type.__call__" ⟨.ref C :: us,kw⟩)) :=
 ⟨r.hd,by have:=r.dp; rw [Vx]; lia,by have:=r.un; rw [Vw]; lia,r.gd⟩
theorem aZ.depth {k:Nat} {A:Around} (r:aZ k A):A.depth<recursionLimit:=by have:=r.dp; lia
theorem aZ.units {k:Nat} {A:Around} (r:aZ k A):A.units+64<cLine:=by have:=r.un; lia
def vW:TA:=λ_ H Q=>Q [] H
def qt (ta:TE) (tr:TA):TA:=λσ H Q=>ta σ H λx H1=>tr σ H1 λxs H2=>Q (x :: xs) H2
section
variable {X:Cx} {e:Expr} {es:List Expr} {te:TE} {t:TA} {pos:Pos}
theorem Zc:PA X [] vW:=λ_ _ _ _ H Q I h=>a0z ⟨[],H,I,.nil,h⟩
theorem Se (ha:PE X e te) (hr:PA X es t) (hs:starEach (e :: es) X.env=(false,eval e X.env) :: starEach es X.env:=by rfl):PA X (e :: es) (qt te t):=by
 intro pos pins s σ H Q I h
 rw [hs]
 show wpAny _ _ (spliced ((false,eval e X.env) :: backTo pos (starEach es X.env))) _ _ s
 refine aoz (cF (ha pins s σ H _ I h) λu s1 x H1 I1 r1 q1=>?_)
 exact lH (hr pos pins s1 σ H1 _ I1 q1) λus s2 xs H2 I2 r2 q2=>⟨x :: xs,H2,I2,.cons r1 r2,q2⟩
def CG (t:TA):TE:=λσ H Q=>t σ H λxs H1=>xs.length<=sizeLine/\∀ p,H1 p=none->Q (.ref p) (upd H1 p (.tup xs))
def CM (t:TA):TE:=λσ H Q=>t σ H λxs H1=>xs.length<=sizeLine/\∀ p,H1 p=none->Q (.ref p) (upd H1 p (.lst xs))
theorem k8 {x1} (h:PA X es t):PE X (.Tuple es x1 pos) (CG t):=by
 intro pins s σ H Q I hq
 refine wpAny_Tuple_spliced (bG (h pos pins s σ H _ I hq) λus s1 ⟨xs,H1,I1,r,z,q⟩=>⟨by rw [← r.length]; exact z,?_⟩)
 have hf:H1 s1.heap.objs.size=none:=I1.hok.fresh (avG _)
 refine ⟨.ref s1.heap.objs.size,upd H1 s1.heap.objs.size (.tup xs),I1.laid (t':=s1.toks) (λb u e=>aBk _ e) (avG _) ?_,rfl,q _ hf⟩
 exact ⟨z,us,r,⟨_,aJ2 _ rfl,rfl,_,rfl⟩⟩
theorem ZI (h:PA X es t):PE X (.List es pos) (CM t):=by
 intro pins s σ H Q I hq
 refine wpAny_List_spliced (bG (h pos pins s σ H _ I hq) λus s1 ⟨xs,H1,I1,r,z,q⟩=>⟨by rw [← r.length]; exact z,?_⟩)
 have hf:H1 s1.heap.objs.size=none:=I1.hok.fresh (avG _)
 refine ⟨.ref s1.heap.objs.size,upd H1 s1.heap.objs.size (.lst xs),I1.laid (t':=s1.toks) (λb u e=>aBk _ e) (avG _) ?_,rfl,q _ hf⟩
 exact ⟨z,us,0,r,aJ2 _ rfl⟩
end
abbrev Sp:=List V->Hp->VK->XK->Prop
abbrev pC:=List Env->Hp->Shared->XK->Value->Shared->Prop
structure kB (P:Program) (w:World) (K:W.Frag) (mg:Str->Option Value) (base:Heap) (A:Around) (outer:List Env) (s:Shared) (H:Hp):Prop where
 frames:A.frames=some outer
 mod:Mod K mg base
 bs:∀ b o,base.get? b=some o->s.heap.get? b=some o/\H b=none
 o9:base.objs.size<=s.heap.objs.size
 gG:s.heap.FunFrames base outer
 tD:∀ b∈frs outer,H b=none
 hok:dz P w H s.heap
 bare:AllBare s.gens
def CE (outer:List Env) (P:Program) (w:World) (H:Hp) (s:Shared) (Q:VK) (u:Value) (s':Shared):Prop :=
 ∃ v H',s'.os=s.os/\AllBare s'.gens/\Un (frs outer) [] H H' s.heap s'.heap/\dz P w H' s'.heap/\RelV v u/\Q v H'
def CR (CX:pC) (outer:List Env) (P:Program) (w:World) (H:Hp) (s:Shared) (Q:VK) (E:XK) (r:Result) (s':Shared):Prop :=
 match r with
 | .ok (.ret u)=>CE outer P w H s Q u s'
 | .ok _=>False
 | .error e=>CX outer H s E e s'
structure aD (P:Program) (w:World) (K:W.Frag) (mg:Str->Option Value) (base:Heap) (CX:pC) (k:Nat) (f:Addr) (fd:FuncData) (ps:List Str) (sp:Sp):Prop where
 len:∀ vs H Q E,sp vs H Q E->vs.length=ps.length
 run:∀ (A:Around) (outer:List Env) (s:Shared) (H:Hp) (args:Args) (us:List Value) (vs:List V) (Q:VK) (E:XK),aZ k A->kB P w K mg base A outer s H->BindsTo s fd args (ps.zip us)->Vals vs us->sp vs H Q E ->
  codeAny (model P w) A (.call (.ref f) args) (CR CX outer P w H s Q E) s
theorem kB.make {P:Program} {w:World} {K:W.Frag} {mg:Str->Option Value} {base:Heap} {A:Around} {outer:List Env} {s:Shared} {H:Hp} (e:kB P w K mg base A outer s H) (C:Addr) (us:List Value) (kw:List (Str×Value)) :
  kB P w K mg base (A.under (.builtin "type.__call__" ⟨.ref C :: us,kw⟩)) outer s H:=⟨by first | exact e.frames | (simpa [Around.under,Code.envs,Code.isFrame,pushEnvs] using e.frames),e.mod,e.bs,e.o9,e.gG,e.tD,e.hok,e.bare⟩
section
variable {X:Cx} {pins:List (Addr×Obj)} {σ:St} {H:Hp} {s s':Shared}
theorem Inv.n9 (I:Inv X pins σ H s):kB X.prog X.w X.K X.mg X.base X.A X.stack s H :=
 ⟨I.ok.frames,I.ok.mod,I.bs,ajJ I.ok.o9 I.sz,I.stack,I.iW,I.hok,I.bare⟩
theorem Inv.after {Q:VK} {u:Value} (I:Inv X pins σ H s) (h:CE X.stack X.prog X.w H s Q u s'):EP X pins σ Q u s':=by
 obtain ⟨v,H',os,bare,un,hok,r,q⟩:=h
 obtain ⟨hh,g,d,t,os'⟩:=s'
 obtain rfl:os'=s.os:=os
 exact ⟨v,H',I.call (h':=hh) (g':=g) (d':=d) (t':=t) (ch:=[]) un hok bare (λb z=>absurd z (by simp)),r,q⟩
end
def mW (sp:Sp) (jb:List V) (E:XK) (t:TA):TE:=λσ H Q=>t σ H λvs H1=>sp (vs++jb) H1 Q E
def qp (C:Addr) (m:Str) (sp:Sp) (jb:List V) (E:XK) (ta:TE) (t:TA):TE:=λσ H Q=>ta σ H λx H1=>∃ a dx fs,x=.ref a/\H1 a=some (.ins C dx fs)/\fs.lookup m=none /\
 t σ H1 λvs H2=>sp (x :: (vs++jb)) H2 Q E
def qq (C:Addr) (sp:Sp) (jb:List V) (E:XK) (t:TA):TE:=λσ H Q=>t σ H λvs H1=>∀ x dx,H1 x=none->H1 dx=none->dx≠x ->
 sp (.ref x :: (vs++jb)) (upd (upd H1 dx (.own x)) x (.ins C dx [])) (λv H2=>v=.aX/\Q (.ref x) H2) E
def Binds (K:W.Frag) (fd:FuncData) (ps:List Str) (ds:List Value):Prop :=
 ∀ (s:Shared) (us:List Value),K.In s.heap->(us++ds).length=ps.length->BindsTo s fd ⟨us,[]⟩ (ps.zip (us++ds))
theorem Binds.all {K:W.Frag} {fd:FuncData} {ps:List Str} (h:∀ us:List Value,us.length=ps.length->bindArgs fd ⟨us,[]⟩=pure (ps.zip us)):Binds K fd ps []:=λs us _ hl=>by
 rw [aOr] at hl ⊢
 exact .of_eq (h us hl)
def vg (CX:pC) (X:Cx) (E:XK):Prop:=∀ (pins:List (Addr×Obj)) (σ:St) (H:Hp) (s:Shared) (e:Value) (s':Shared),Inv X pins σ H s->CX X.stack H s E e s'->X.xe e s'
section
variable {X:Cx} {CX:pC} {k:Nat} {f C:Addr} {fd:FuncData} {ps:List Str} {sp:Sp} {jb:List V} {ds:List Value} {E:XK} {x m:Str} {p pos apos:Pos} {e o:Expr} {es:List Expr} {ta:TE} {t:TA}
theorem JO {pins:List (Addr×Obj)} {σ:St} {H:Hp} {s:Shared} {Q:VK} {us:List Value} {vs:List V} (F:aD X.prog X.w X.K X.mg X.base CX k f fd ps sp) (hr:aZ k X.A) (hb:Binds X.K fd ps ds) (hd:Vals jb ds) (hx:vg CX X E)
  (I:Inv X pins σ H s) (r:Vals vs us) (h:sp (vs++jb) H Q E):wpAny (model X.prog X.w) X.A (call (.ref f) us) (EP X pins σ Q) X.xe s:=by
 have r2:Vals (vs++jb) (us++ds):=r.append hd
 have hl:(us++ds).length=ps.length:=by rw [← r2.length]; exact F.len _ _ _ _ h
 refine wpAny_call (codeAny_mono (F.run X.A X.stack s H ⟨us,[]⟩ (us++ds) (vs++jb) Q E hr I.n9 (hb s us I.dN hl) r2 h) λr s' hq=>?_)
 cases r with
 | error e=>exact hx pins σ H s e s' I hq
 | ok fl =>
  cases fl with
  | ret u=>exact I.after hq
  | next=>exact False.elim hq
  | brk=>exact False.elim hq
  | cont=>exact False.elim hq
theorem Sd (F:aD X.prog X.w X.K X.mg X.base CX k f fd ps sp) (hr:aZ k X.A) (hg:Gl X x) (hm:X.mg x=some (.ref f)) (hk:W.keepIn X.K (.ref f)=true) (hb:Binds X.K fd ps ds) (hd:Vals jb ds) (hx:vg CX X E)
  (ha:PA X (e :: es) t) (hdb:(x == ("__debug__" : Str))=false:=by decide) (he:starEach (e :: es) X.env=(false,eval e X.env) :: starEach es X.env:=by rfl) (hpl:(backTo pos (starEach es X.env)).any (·.1)=false:=by rfl) :
  PE X (.Call (.Name x p) (e :: es) [] pos) (mW sp jb E t):=by
 intro pins s σ H Q I h
 refine aTN (Lp I hg hm ?_ hdb)
 refine W.callWith_K (h₀:=X.base) I.ok.mod.xE hk (lH (ha pos pins s σ H _ I h) λus s1 vs H1 I1 r q=>⟨I1.dN,?_⟩) he hpl
 exact JO F hr hb hd hx I1 r q
theorem Sb {pl:Sem Bool} (he:PE X o ta) (c:oX X.K C) (hm:Meth X.K C m f) (F:aD X.prog X.w X.K X.mg X.base CX k f fd ps sp) (hr:aZ k X.A) (hb:Binds X.K fd ps ds) (hd:Vals jb ds) (hx:vg CX X E) (ha:PA X (e :: es) t)
  (hst:starEach (e :: es) X.env=(false,eval e X.env) :: starEach es X.env:=by rfl) (hpl:(backTo pos (starEach es X.env)).any (·.1)=false:=by rfl)
  (ht:eval (.Call (.Attribute o m apos) (e :: es) [] pos) X.env=(do
   let ov ← eval o X.env
   standAt apos.atName
   let (f,first) ← holding [ov] (getMethod ov m pl)
   callWith pos f first (backTo pos (starEach (e :: es) X.env)) (backToKw pos (keywordEach [] X.env))):=by rfl) :
  PE X (.Call (.Attribute o m apos) (e :: es) [] pos) (qp C m sp jb E ta t):=by
 intro pins s σ H Q I h
 refine W.methodCall_KW (pl:=pl) (bG (he pins s σ H _ I h) λu s1 ⟨x,H1,I1,rx,a,dx,fs,ex,ea,l,q⟩=>?_) ht
 subst ex
 obtain rfl:u=Value.ref a:=rx
 refine Vz I1 ea c hm l ?_
 refine W.callWith_K (first:=[.ref a]) (h₀:=X.base) I.ok.mod.xE hm.kp (lH (ha pos pins s1 σ H1 _ I1 q) λus s2 vs H2 I2 r q2=>⟨I2.dN,?_⟩) hst hpl
 exact JO (us:=.ref a :: us) (vs:=.ref a :: vs) F hr hb hd hx I2 (.cons rfl r) q2
structure Mk (K:W.Frag) (C f:Addr):Prop where
 makes:W.makesIn K C=true
 init:W.findIn K (.ref C) "__init__" = some (some (.ref f))
 fn:W.isFn K (.ref f)=true
 kp:W.keepIn K (.ref C)=true
theorem TQ {pins:List (Addr×Obj)} {σ:St} {H:Hp} {s:Shared} {Q:VK} {us:List Value} {vs:List V} (M:Mk X.K C f) (F:aD X.prog X.w X.K X.mg X.base CX k f fd ps sp) (hr:aZ (k+1) X.A) (hb:Binds X.K fd ps ds) (hd:Vals jb ds)
  (hx:vg CX X E) (I:Inv X pins σ H s) (r:Vals vs us)
  (h:∀ x dx,H x=none->H dx=none->dx≠x->sp (.ref x :: (vs++jb)) (upd (upd H dx (.own x)) x (.ins C dx [])) (λv H2=>v=.aX/\Q (.ref x) H2) E) :
  wpAny (model X.prog X.w) X.A (call (.ref C) us) (EP X pins σ Q) X.xe s:=by
 have hq:=h (s.heap.objs.size+1) s.heap.objs.size (I.hok.fresh (aa0 _)) (I.hok.fresh (avG _)) (a0P (ayu _))
 have I2:=Inv.made (C:=C) I
 have r2:Vals (V.ref (s.heap.objs.size+1) :: (vs++jb)) (Value.ref (s.heap.objs.size+1) :: (us++ds)):=.cons rfl (r.append hd)
 have hl:(Value.ref (s.heap.objs.size+1) :: us++ds).length=ps.length:=by
  have e:=r2.length
  rw [F.len _ _ _ _ hq] at e
  exact e.symm
 refine wpAny_call (TR (f:=f) I.dN M.makes M.init (aPf.mp M.fn) (codeAny_mono (F.run _ X.stack _ _ ⟨Value.ref (s.heap.objs.size+1) :: us,[]⟩ (Value.ref (s.heap.objs.size+1) :: (us++ds)) _ _ E (hr.make C us [])
  (I2.n9.make C us []) (hb _ (Value.ref (s.heap.objs.size+1) :: us) I2.dN hl) r2 hq) λr s' hq'=>?_))
 cases r with
 | error e=>exact hx pins σ _ _ e s' I2 hq'
 | ok fl =>
  cases fl with
  | ret u =>
   obtain ⟨v,H',I3,rv,ev,q3⟩:=I2.after hq'
   subst ev
   exact ⟨rv,⟨V.ref (s.heap.objs.size+1),H',I3,rfl,q3⟩⟩
  | next=>exact False.elim hq'
  | brk=>exact False.elim hq'
  | cont=>exact False.elim hq'
theorem Sa (M:Mk X.K C f) (F:aD X.prog X.w X.K X.mg X.base CX k f fd ps sp) (hr:aZ (k+1) X.A) (hg:Gl X x) (hm:X.mg x=some (.ref C)) (hb:Binds X.K fd ps ds) (hd:Vals jb ds) (hx:vg CX X E)
  (ha:PA X (e :: es) t) (hdb:(x == ("__debug__" : Str))=false:=by decide) (he:starEach (e :: es) X.env=(false,eval e X.env) :: starEach es X.env:=by rfl) (hpl:(backTo pos (starEach es X.env)).any (·.1)=false:=by rfl) :
  PE X (.Call (.Name x p) (e :: es) [] pos) (qq C sp jb E t):=by
 intro pins s σ H Q I h
 refine aTN (Lp I hg hm ?_ hdb)
 refine W.callWith_K (h₀:=X.base) I.ok.mod.xE M.kp (lH (ha pos pins s σ H _ I h) λus s1 vs H1 I1 r q=>⟨I1.dN,?_⟩) he hpl
 exact TQ M F hr hb hd hx I1 r q
end
structure af (N P:List Str) (sc:Scope):Prop where
 kind:sc.kind=.function
 co:sc.isCoroutine=false
 gen:sc.isGenerator=false
 nd:N.Nodup
 pre:N.take P.length=P
 par:∀ x∈P,sc.names.lookup x=some .local\/sc.names.lookup x=some .cell
 rX:∀ y∈sc.names,y.2≠.free
theorem Mh {kindOf:Str->Option NameKind} {x:Str}:∀ {binds:List (Str×Value)} {m:Str->Option Value},(∀ v,(x,v)∉binds)->bindL kindOf binds m x=m x
 | [],_,_=>rfl
 | (n,v) :: r,m,h=>by
  unfold bindL
  rw [Mh λw hw=>h w (akt _ hw)]
  split
  .have:x≠n:=by rintro rfl; exact h v aTs
   simp [this]
  .rfl
theorem Mg {kindOf:Str->Option NameKind} {x:Str}:∀ {binds:List (Str×Value)} {m:Str->Option Value},(∀ v,(x,v)∉binds)->bindC kindOf binds m x=m x
 | [],_,_=>rfl
 | (n,v) :: r,m,h=>by
  unfold bindC
  rw [Mg λw hw=>h w (akt _ hw)]
  split
  .rfl
  .have:x≠n:=by rintro rfl; exact h v aTs
   simp [this]
theorem Mf {kindOf:Str->Option NameKind} {x:Str} {v:Value}:∀ {P:List Str} {vs:List Value} {i:Nat} {m:Str->Option Value},P.Nodup->P[i]?=some x->vs[i]?=some v->kindOf x=some .local ->
  bindL kindOf (P.zip vs) m x=some v
 | [],_,_,_,_,h,_,_=>by simp at h
 | _ :: _,[],_,_,_,_,h,_=>by simp at h
 | p :: P,w :: vs,0,m,nd,h1,h2,hk=>by
  simp at h1 h2; subst h1; subst h2
  show bindL kindOf ((p,w) :: P.zip vs) m p=_
  unfold bindL
  rw [Mh λv hv=>(aHW.mp nd).1 (List.of_mem_zip hv).1,aHZ hk]
  simp
 | p :: P,w :: vs,i+1,m,nd,h1,h2,hk=>by
  show bindL kindOf ((p,w) :: P.zip vs) m x=_
  unfold bindL
  exact Mf (i:=i) (aHW.mp nd).2 (by simpa using h1) (by simpa using h2) hk
theorem Me {kindOf:Str->Option NameKind} {x:Str} {v:Value}:∀ {P:List Str} {vs:List Value} {i:Nat} {m:Str->Option Value},P.Nodup->P[i]?=some x->vs[i]?=some v->kindOf x≠some .local ->
  bindC kindOf (P.zip vs) m x=some v
 | [],_,_,_,_,h,_,_=>by simp at h
 | _ :: _,[],_,_,_,_,h,_=>by simp at h
 | p :: P,w :: vs,0,m,nd,h1,h2,hk=>by
  simp at h1 h2; subst h1; subst h2
  show bindC kindOf ((p,w) :: P.zip vs) m p=_
  unfold bindC
  rw [Mg λv hv=>(aHW.mp nd).1 (List.of_mem_zip hv).1,bd2 hk]
  simp
 | p :: P,w :: vs,i+1,m,nd,h1,h2,hk=>by
  show bindC kindOf ((p,w) :: P.zip vs) m x=_
  unfold bindC
  exact Me (i:=i) (aHW.mp nd).2 (by simpa using h1) (by simpa using h2) hk
def start (N:List Str) (vs:List V):St:=vs.map some++List.replicate (N.length - vs.length) none
def jG (CX:pC) (P:Program) (w:World) (K:W.Frag) (mg:Str->Option Value) (base:Heap) (N:List Str) (qual:Str) (scope:Scope) (f:Addr) (cd:Value) (A:Around) (outer:List Env) (s:Shared) (H:Hp) (E:XK):Cx where
 prog:=P
 w:=w
 K:=K
 mg:=mg
 base:=base
 A:=A.deeper (envOfC qual scope s.heap.objs.size f cd)
 N:=N
 s₀:=s
 H₀:=H
 env:=envOfC qual scope s.heap.objs.size f cd
 outer:=outer
 stack:=envOfC qual scope s.heap.objs.size f cd :: outer
 ex:=[]
 calm:=true
 fn:=λ_=>true
 pn:=[]
 xe:=λe s'=>wpAny (model P w) (A.deeper (envOfC qual scope s.heap.objs.size f cd)) (leaving (envOfC qual scope s.heap.objs.size f cd) e) (λ_ s''=>CX outer H s E e s'') (λe' s''=>CX outer H s E e' s'') s'
theorem LH {sc:Scope} {n:Nat} {x:Str} (h:sc.names.lookup x=some .cell):∃ c,(cellsFrom n sc.names []).lookup x=some c:=by
 have q:=W.cellsFrom_some sc.names n [] (.inl h)
 exact Option.isSome_iff_exists.mp q
theorem VI {CX:pC} {P:Program} {w:World} {K:W.Frag} {mg:Str->Option Value} {base:Heap} {N ps:List Str} {qual:Str} {scope:Scope} {f:Addr} {cd:Value} {A:Around} {outer:List Env} {s s1:Shared} {H:Hp} {E:XK} {us:List Value} {vs:List V}
  (S:af N ps scope) (hd:A.handled=none) (e0:kB P w K mg base A outer s H) (hl:vs.length=ps.length) (r:Vals vs us)
  (x:InCallC s s.heap.objs.size (bindL (envOfC qual scope s.heap.objs.size f cd).kindOf (ps.zip us) λ_=>none) (cellsFrom (s.heap.objs.size+1) scope.names []) (bindC (envOfC qual scope s.heap.objs.size f cd).kindOf (ps.zip us) λ_=>none) s1) :
  Inv (jG CX P w K mg base N qual scope f cd A outer s H E) [] (start N vs) H s1:=by
 have hpl:ps.length<=N.length:=by have:=arH List.length S.pre; rw [aJj] at this; lia
 obtain ⟨h1,tk,rfl,hk⟩:=x.done
 have rY:∀ b:Addr,b∉(jG CX P w K mg base N qual scope f cd A outer s H E).ex:=λb z=>absurd (show b∈([]:List Addr) from z) (by simp)
 refine ⟨⟨e0.mod,S.kind,rfl,rfl,avG _,λy z c h1 h2=>?_,λy hy=>?_,λy c _ h=>?_,λ_=>hd,Around.frames_deeper e0.frames,.inr ⟨rfl,rfl⟩,λb z=>absurd z (rY b),e0.bs,e0.o9,λb _ _=>rY b,λb z=>absurd z (rY b),e0.gG,e0.tD⟩,
  rfl,e0.bare,Un.kept hk,⟨_,x.toInCall.ns,λi y v h1 h2 h3=>?_⟩,λy c h=>⟨_,x.cell y c h⟩,e0.hok.fresh (avG _),λy c h=>?_,λp hp=>absurd (show p∈([]:List (Addr×Obj)) from hp) (by simp),e0.hok.kept hk,?_⟩
 .exact name_of_addr x.apart (a5u h1) (a5u h2)
 .have hy:scope.names.lookup y=some .cell\/scope.names.lookup y=some .free:=hy
  rcases hy with hy | hy
  .exact LH hy
  .exact absurd rfl (S.rX _ (a5u hy))
 .exact aM8 (x.above y c (a5u h))
 .have hi:i<vs.length:=by
   unfold start at h2
   by_cases hi:i<vs.length
   .exact hi
   .rw [arE (by simpa using hi)] at h2
    rw [List.getElem?_replicate] at h2
    split at h2 <;> cases h2
  have ha:vs[i]?=some v:=by
   unfold start at h2
   rw [aZu (by simpa using hi),bdd] at h2
   cases e:vs[i]? with
   | none=>rw [e] at h2; cases h2
   | some a=>rw [e] at h2; cases h2; rfl
  obtain ⟨u,hu,rv⟩:=r.get ha
  have hp:ps[i]?=some y:=by
   rw [← S.pre,List.getElem?_take_of_lt (by lia)]; exact h1
  have ID:ps.Nodup:=by rw [← S.pre]; exact S.nd.sublist (List.take_sublist _ _)
  refine ⟨u,rv,?_⟩
  rcases S.par y (aVV hp) with k | k
  .exact .inl ⟨k,Mf ID hp hu k⟩
  .obtain ⟨c,e⟩:=LH (n:=s.heap.objs.size+1) k
   refine .inr ⟨.inl k,c,e,?_⟩
   have q:=x.cell y c e
   rw [Me ID hp hu (by show scope.names.lookup y≠_; rw [k]; decide)] at q
   exact q
 .exact e0.hok.fresh (aM8 (x.above y c (a5u h)))
 .unfold start
  show _=N.length
  rw [aIt,aH5,List.length_replicate]
  lia
theorem qT {CX:pC} {P:Program} {w:World} {K:W.Frag} {mg:Str->Option Value} {base:Heap} {k:Nat} {f:Addr} {name qual:Str} {params:Arguments} {body:List Stmt} {scope:Scope} {dV kV doc pm cdv ct oc:Value} {an od:Option Addr}
  {osl:Array (Option Value)} {N ps:List Str} {sp:Sp} (lk:K.lookup f=some ⟨oc,od,.func (W.fnOf name qual params body scope dV kV doc pm an cdv ct),osl⟩) (hcd:W.codeIn K cdv qual=true) (S:af N ps scope)
  (len:∀ vs H Q E,sp vs H Q E->vs.length=ps.length)
  (hbody:∀ (A:Around) (outer:List Env) (s:Shared) (H:Hp) (vs:List V) (Q:VK) (E:XK),aZ k (A.deeper (envOfC qual scope s.heap.objs.size f cdv))->sp vs H Q E ->
   ∃ t,lu (jG CX P w K mg base N qual scope f cdv A outer s H E) body t/\t { nx:=λ_ H'=>Q .aX H',rt:=Q } (start N vs) H) :
  aD P w K mg base CX (k+1) f (W.fnOf name qual params body scope dV kV doc pm an cdv ct) ps sp:=by
 refine ⟨len,λA outer s H args us vs Q E hr e0 hb r lQ=>?_⟩
 have hl:=len _ _ _ _ lQ
 have KX:K.In s.heap:=e0.mod.xE.keeps λb o e=>(e0.bs b o e).1
 have lim:s.heap.NoLimit:=e0.mod.nolimit.keeps λb o e=>(e0.bs b o e).1
 have hkind:∀ y∈ps.zip us,scope.names.lookup y.1=some .local\/(scope.names.lookup y.1=some .cell/\((cellsFrom (s.heap.objs.size+1) scope.names []).lookup y.1).isSome=true):=λ⟨n,v⟩ hy=>by
  rcases S.par n (List.of_mem_zip hy).1 with q | q
  .exact .inl q
  .exact .inr ⟨q,W.cellsFrom_some _ _ _ (.inl q)⟩
 refine codeAny_call_function hr.depth (KX _ _ lk) rfl S.co S.gen rfl (W.codeRec_of KX hcd) (hb _ _ _ _ ?_)
 refine wpAny_newFunctionEnv_cells S.kind hkind λenv he s1 x=>?_
 subst he
 refine ⟨lim.keeps x.toInCall.keep,codeAny_func ?_⟩
 obtain ⟨t,ht,hq⟩:=hbody A outer s H vs Q E (hr.deeper _) lQ
 have I:Inv (jG CX P w K mg base N qual scope f cdv A outer s H E) [] (start N vs) H s1:=VI S hr.hd e0 hl r x
 refine a7k (ht [] s1 (start N vs) H _ I hq) (λfl s' hs=>?_) λe s' hs=>hs
 have fin:∀ {σ':St} {H':Hp} {v:V} {u:Value},Inv (jG CX P w K mg base N qual scope f cdv A outer s H E) [] σ' H' s'->RelV v u->Q v H'->CE outer P w H s Q u s' :=
  λ{σ' H' v u} J rv q=>⟨v,H',J.os,J.bare,J.base,J.hok,rv,q⟩
 cases fl with
 | ret u =>
  obtain ⟨v,σ',H',J,rv,q⟩:=hs
  exact fin J rv q
 | next =>
  obtain ⟨σ',H',J,q⟩:=hs
  exact fin (v:=V.aX) (u:=Value.none) J rfl q
 | brk =>
  obtain ⟨_,_,_,q⟩:=hs
  exact False.elim q
 | cont =>
  obtain ⟨_,_,_,q⟩:=hs
  exact False.elim q
section
variable {X:Cx} {x:Str} {p pos:Pos} {e:Expr} {es:List Expr} {t:TA} {id T:String} {r:List V->Hp->VK->Prop}
def we (r:List V->Hp->VK->Prop) (t:TA):TE:=λσ H Q=>t σ H λvs H1=>r vs H1 Q
theorem TN (hc:aW X (.builtin id) r) (hg:Gl X x) (hm:X.mg x=none) (hv:bootBuiltins x=some (.builtin id)) (ha:PA X (e :: es) t) (hn:x ≠ "__name__" := by decide) (hdb:(x == ("__debug__" : Str))=false:=by decide)
  (he:starEach (e :: es) X.env=(false,eval e X.env) :: starEach es X.env:=by rfl) (hpl:(backTo pos (starEach es X.env)).any (·.1)=false:=by rfl):PE X (.Call (.Name x p) (e :: es) [] pos) (we r t):=by
 intro pins s σ H Q I h
 refine aTN (pA I hg hm hv ?_ hn hdb)
 exact PyProof.Rows.callWith_builtin1 (lH (ha pos pins s σ H _ I h) λus s1 vs H1 I1 r1 q1=>hc pins s1 σ H1 vs us Q I1 r1 q1) he hpl
theorem VH (hc:aW X (.type T) r) (hg:Gl X x) (hm:X.mg x=none) (hv:bootBuiltins x=some (.type T)) (ha:PA X (e :: es) t) (hn:x ≠ "__name__" := by decide) (hdb:(x == ("__debug__" : Str))=false:=by decide)
  (he:starEach (e :: es) X.env=(false,eval e X.env) :: starEach es X.env:=by rfl) (hpl:(backTo pos (starEach es X.env)).any (·.1)=false:=by rfl):PE X (.Call (.Name x p) (e :: es) [] pos) (we r t):=by
 intro pins s σ H Q I h
 refine aTN (pA I hg hm hv ?_ hn hdb)
 exact aZK (lH (ha pos pins s σ H _ I h) λus s1 vs H1 I1 r1 q1=>hc pins s1 σ H1 vs us Q I1 r1 q1) he hpl
theorem Vv (hc:aW X (.type T) r) (hg:Gl X x) (hm:X.mg x=none) (hv:bootBuiltins x=some (.type T)) (hn:x ≠ "__name__" := by decide) (hdb:(x == ("__debug__" : Str))=false:=by decide) :
  PE X (.Call (.Name x p) [] [] pos) (we r vW):=by
 intro pins s σ H Q I h
 refine aTN (pA I hg hm hv ?_ hn hdb)
 exact PyProof.Rows.callWith_type0 (hc pins s σ H [] [] Q I .nil h)
end
end L2
namespace HT
open PySem PyProof.Rows
def lexLt:List Int->List Int->Bool
 | [],[]=>false
 | [],_ :: _=>true
 | _ :: _,[]=>false
 | x :: xs,y :: ys=>if x=y then lexLt xs ys else decide (x<y)
theorem aO (x y:Int) (xs ys:List Int):lexLt (x :: xs) (y :: ys)=if x=y then lexLt xs ys else decide (x<y):=rfl
theorem cC:lexLt [] []=false:=rfl
theorem MR (y:Int) (ys:List Int):lexLt [] (y :: ys)=true:=rfl
theorem aY (x:Int) (xs:List Int):lexLt (x :: xs) []=false:=rfl
theorem LG (A:Around) (s:Shared) (a:Int) (t:Tok) (c:Int) (u:Tok):∃ e,SeqAt.EqAt A s (.int a t) (.int c u) e/\(e=true↔a=c) :=
 ⟨(a == c),SeqAt.EqAt.int_int a t c u,by simp⟩
theorem TM (A:Around) (s:Shared) (a:Int) (t:Tok) (c:Int) (u:Tok) (prog:Program) (w:World) (E:Value->Shared->Prop) (Q:Value->Shared->Prop) (h:Q (.bool (decide (a<c))) s) :
  wpAny (model prog w) A (richCompare .Lt (.int a t) (.int c u)) Q E s :=
 (PyProof.Rows.lt_int h:wpAny (model prog w) A (compareOp .Lt (.int a t) (.int c u)) Q E s)
section
open PySem.SeqAt
open PySem.AutoSeq1 (wpAny_loadPart')
open PySem.MeetsSeq PySem.MeetsSeq2 PySem.MeetsSeq3
theorem WE (l b:Addr) (items items2:Array Value) (n n2:Nat) (dd dd2:Option Addr) (sl sl2:Array (Option Value)) (ns ms:List Int) (hi:IntsAre items.toList ns) (hj:IntsAre items2.toList ms) :
  Meets (Builtin.«tuple.__lt__» ⟨[.ref l,.ref b],[]⟩)
   (λ_ R s=>s.heap.get? l=some { cls:=.type "tuple",dict:=dd,data:=.seq items n,slots:=sl }/\s.heap.get? b=some { cls:=.type "tuple",dict:=dd2,data:=.seq items2 n2,slots:=sl2 } /\
    R (.ok (.ret (.bool (lexLt ns ms)))) s) :=
 .of_wp λprog w A R s h=>by
  obtain ⟨hp,g,d,tk,os⟩:=s; obtain ⟨hl,hb,h⟩:=h
  have f2:=AutoSeq1.sub_tuple_tuple
  have z1:items.size=ns.length:=by rw [← hi.length]; simp
  have z2:items2.size=ms.length:=by rw [← hj.length]; simp
  wp_walk using wpAny_loadPart' hl,wpAny_loadPart' hb,wpAny_forIn_list _ (λrest b s'=>b.1=none/\s'=⟨hp,g,d,tk,os⟩/\∃ (vs ws:List Value) (ns' ms':List Int),rest=vs.zip ws /\
   IntsAre vs ns'/\IntsAre ws ms'/\ns'.length+items2.size=ms'.length+items.size/\R (.ok (.ret (.bool (lexLt ns' ms')))) ⟨hp,g,d,tk,os⟩) _
  case turn =>
   rintro ⟨y,x⟩ rest b s' ⟨hb',rfl,vs,ws,ns',ms',hz,sL,hwi,hlen,hR⟩
   cases sL with
   | nil=>rw [List.zip_nil_left] at hz; cases hz
   | cons a t sJ =>
    cases hwi with
    | nil=>rw [List.zip_nil_right] at hz; cases hz
    | cons c u sI =>
     rw [amM] at hz
     injection hz with hyx hrest
     injection hyx with hy hx
     subst hy hx
     rw [aO] at hR
     simp only [aRy] at hlen
     obtain ⟨e,he,hiff⟩:=LG A.in1 ⟨hp,g,d,tk,os⟩ a t c u
     refine aLa (he prog w _ _ ?_)
     cases e with
     | true =>
      rw [aHZ (hiff.mp rfl)] at hR
      wp_walk
      exact ⟨rfl,rfl,_,_,_,_,hrest,sJ,sI,by lia,hR⟩
     | false =>
      rw [bd2 (λq=>absurd (hiff.mpr q) aCK)] at hR
      have D5:=TM A.in1 ⟨hp,g,d,tk,os⟩ a t c u prog w
      wp_walk using D5
      exact ⟨_,rfl,by simpa using hR⟩
  case fin =>
   rintro ⟨b1,b2⟩ s' ⟨hb',rfl,vs,ws,ns',ms',hz,sL,hwi,hlen,hR⟩
   simp only at hb'
   subst hb'
   have hv:lexLt ns' ms'=decide (items.size<items2.size):=by
    cases sL with
    | nil =>
     cases hwi with
     | nil =>
      simp only [a2H] at hlen
      rw [cC]
      exact (aXf (by lia)).symm
     | cons c u hw =>
      simp only [a2H,aRy] at hlen
      rw [MR]
      exact (aPy (by lia)).symm
    | cons a t hv =>
     cases hwi with
     | nil =>
      simp only [a2H,aRy] at hlen
      rw [aY]
      exact (aXf (by lia)).symm
     | cons c u hw =>
      rw [amM] at hz
      cases hz
   rw [hv] at hR
   wp_walk
   exact ⟨_,rfl,by simpa [Builtin.Tuple.tupleCompareSizes] using hR⟩
  case h =>
   exact ⟨rfl,rfl,items.toList,items2.toList,ns,ms,rfl,hi,hj,by lia,h⟩
end
section
variable {prog:Program} {w:World} {A:Around} {E:Value->Shared->Prop} {s:Shared}
theorem jZ {l b:Addr} {items items2:Array Value} {ns ms:List Int} {Q:Value->Shared->Prop} (hl:IsTup s.heap l items) (hb:IsTup s.heap b items2) (hi:IntsAre items.toList ns) (hj:IntsAre items2.toList ms)
  (hu:A.units<cLine) (h:Q (.bool (lexLt ns ms)) s):wpAny (model prog w) A (compareOp .Lt (.ref l) (.ref b)) Q E s:=by
 obtain ⟨⟨cls,dd,data,sl⟩,ho,hc,n,hd⟩:=id hl
 obtain ⟨⟨EG,dd2,data2,sl2⟩,ho2,hc2,n2,hd2⟩:=id hb
 simp only at hc hd hc2 hd2
 subst hc hd hc2 hd2
 exact richCompare_meets_room (op:=.Lt) ⟨_,ho,rfl⟩ ⟨_,ho2,rfl⟩ PySem.F.slot_tuple_lt PySem.F.entry_tuple_lt (PySem.F.args_tuple_lt_2 _ _) (WE l b items items2 n n2 dd dd2 sl sl2 ns ms hi hj)
  ⟨ho,ho2,show Value.bool (lexLt ns ms)≠Value.notImplemented/\Q (.bool (lexLt ns ms)) s from ⟨(λx=>nomatch x),h⟩⟩ hu
def gq (n d:Nat):Option Int->Nat
 | none=>d
 | some v=>if v<0 then (v+(n:Int)).toNat else min v.toNat n
theorem jv (n d:Nat):gq n d none=d:=rfl
theorem iY (n d k:Nat):gq n d (some (k:Int))=min k n:=by
 show (if (k:Int)<0 then ((k:Int)+(n:Int)).toNat else min (k:Int).toNat n)=min k n
 rw [bd2 (by lia),Int.toNat_natCast]
end
end HT
namespace L2
open PySem PySem.Spec PyProof.Rows
abbrev TO:=St->Hp->(Option Int->Hp->Prop)->Prop
def PO (X:Cx) (e:Option Expr) (t:TO):Prop :=
 ∀ (pins:List (Addr×Obj)) (s:Shared) (σ:St) (H:Hp) (Q:Option Int->Hp->Prop),Inv X pins σ H s->t σ H Q ->
  wpAny (model X.prog X.w) X.A (evalPart e X.env) (λu s'=>∃ o H',Inv X pins σ H' s'/\IsPart u o/\Q o H') X.xe s
def R9:TO:=λ_ H Q=>Q none H
def vS (t:TE):TO:=λσ H Q=>t σ H λx H1=>∃ i,x=.int i/\Q (some i) H1
theorem yZ {ns:List Int}:∀ {us:List Value},Vals (ns.map V.int) us->IntsAre us ns:=by
 induction ns with
 | nil=>intro us r; rw [map_nil] at r; cases r; exact .nil
 | cons n ns ih =>
  intro us r
  rw [ar3] at r
  cases r with
  | cons r1 r2 =>
   obtain ⟨t,e⟩:=r1
   subst e
   exact .cons n t (ih r2)
section
variable {X:Cx} {e:Expr} {te:TE} {lo hi:Option Expr} {tl th:TO} {pos p2:Pos}
theorem vt:PO X none R9:=by
 intro pins s σ H Q I h
 rw [evalPart_none]
 exact aLj ⟨none,H,I,.none,h⟩
theorem vq (h:PE X e te):PO X (some e) (vS te):=by
 intro pins s σ H Q I hw
 rw [evalPart_some]
 refine cF (h pins s σ H _ I hw) λu s1 x H1 I1 r1 q1=>?_
 obtain ⟨i,rfl,q⟩:=q1
 obtain ⟨t,rfl⟩:=r1
 exact ⟨some i,H1,I1,.int i t,q⟩
def HC (X:Cx) (r:V->Option Int->Option Int->Hp->VK->Prop):Prop :=
 ∀ (pins:List (Addr×Obj)) (s:Shared) (σ:St) (H:Hp) (x:V) (v vl vu:Value) (lo hi:Option Int) (sl:Addr) (Q:VK),Inv X pins σ H s->RelV x v->s.heap.IsSliceOf sl vl vu .none->IsPart vl lo->IsPart vu hi->r x lo hi H Q ->
  ∃ T id,typeLookup (.type T) "__getitem__" = pure (some (.builtin id))/\s.TypeIs v T/\wpAny (model X.prog X.w) X.A (getItem v (.ref sl)) (EP X pins σ Q) X.xe s
def N3 (r:V->Option Int->Option Int->Hp->VK->Prop) (te:TE) (tl th:TO):TE:=λσ H Q=>te σ H λx H1=>tl σ H1 λl H2=>th σ H2 λu H3=>r x l u H3 Q
theorem F0 {r:V->Option Int->Option Int->Hp->VK->Prop} (hr:HC X r) (he:PE X e te) (hl:PO X lo tl) (hu:PO X hi th):PE X (.Subscript e (.Slice lo hi none p2) pos) (N3 r te tl th):=by
 intro pins s σ H Q I h
 refine Subscript_ (cF (he pins s σ H _ I h) λv s1 x H1 I1 r1 q1=>?_)
 refine wpAny_Slice (bG (hl pins s1 σ H1 _ I1 q1) λvl s2 ⟨l,H2,I2,pl,q2⟩=>bG (hu pins s2 σ H2 _ I2 q2) λvu s3 ⟨u,H3,I3,pu,q3⟩=>?_)
 rw [evalPart_none]
 refine aLj ?_
 have I4:Inv X pins σ H3 { s3 with heap:=s3.heap.push { cls:=.type "slice",data:=.fields #[vl,vu,.none] } }:=I3.kept (t':=s3.toks) λb ob q=>aBk _ q
 obtain ⟨T,id,hT,ht,hg⟩:=hr pins { s3 with heap:=s3.heap.push { cls:=.type "slice",data:=.fields #[vl,vu,.none] } } σ H3 x v vl vu l u s3.heap.objs.size Q I4 r1 (Heap.IsSliceOf.new ..) pl pu q3
 show wpAny (model X.prog X.w) X.A (subscriptTail e (.Slice lo hi none p2) v (.ref s3.heap.objs.size)) (EP X pins σ Q) X.xe { s3 with heap:=s3.heap.push { cls:=.type "slice",data:=.fields #[vl,vu,.none] } }
 exact tail_any (ops:=[.ref s3.heap.objs.size,v]) ht hT hg (by with_unfolding_all rfl)
def gI (xs:List V) (lo hi:Option Int):List V:=(xs.drop (HT.gq xs.length 0 lo)).take (HT.gq xs.length xs.length hi - HT.gq xs.length 0 lo)
theorem V4 (xs:List V) (lo hi:Option Int):(gI xs lo hi).length<=xs.length:=by
 unfold gI
 rw [aJj,aGM]
 lia
end
def lP (n:Nat) (i:Int):Option Nat:=if 0<=i then (if i<n then some i.toNat else none) else if -(n:Int)<=i then some (i+n).toNat else none
def cY {α:Type} (xs:List α) (i:Int):Option α:=(lP xs.length i).bind λj=>xs[j]?
theorem Ll {n:Nat} {i:Int} {j:Nat} (h:lP n i=some j):seqIndex? i n=some j/\j<n /\ -(n:Int)<=i/\i<n:=by
 unfold lP at h
 by_cases h0:0<=i
 .rw [aHZ h0] at h
  by_cases h1:i<n
  .rw [aHZ h1] at h
   have e:i.toNat=j:=bcC h
   exact ⟨by rw [seqIndex_of h0 h1,e],by lia,by lia,h1⟩
  .rw [bd2 h1] at h; cases h
 .rw [bd2 h0] at h
  by_cases h1 : -(n:Int)<=i
  .rw [aHZ h1] at h
   have e:(i+n).toNat=j:=bcC h
   exact ⟨by rw [seqIndex_neg (by lia) h1,e],by lia,h1,by lia⟩
  .rw [bd2 h1] at h; cases h
theorem R8 {α:Type} {xs:List α} {i:Int} {v:α} (h:cY xs i=some v):∃ j,seqIndex? i xs.length=some j/\xs[j]?=some v/\j<xs.length /\ -(xs.length:Int)<=i/\i<xs.length:=by
 unfold cY at h
 cases e:lP xs.length i with
 | none=>rw [e] at h; cases h
 | some j =>
  rw [e] at h
  obtain ⟨h1,h2,h3,h4⟩:=Ll e
  exact ⟨j,h1,h,h2,h3,h4⟩
theorem ZX {α:Type} {xs:List α} {j:Nat} {v:α} (h:xs[j]?=some v):cY xs (j:Int)=some v:=by
 have hj:j<xs.length:=(aWj.mp h).1
 have e:lP xs.length (j:Int)=some j:=by
  unfold lP
  rw [aHZ (by lia),aHZ (by lia)]; simp
 unfold cY; rw [e]; exact h
theorem TL {α:Type} (xs:List α) (v:α):cY (xs++[v]) (-1)=some v:=by
 have hl:(xs++[v]).length=xs.length+1:=by simp
 have e:lP (xs++[v]).length (-1)=some xs.length:=by
  unfold lP
  rw [hl,bd2 (by decide),aHZ (by lia)]
  congr 1
  lia
 unfold cY
 rw [e]
 show (xs++[v])[xs.length]?=some v
 simp
def R7 (b:Expr):Prop:=∀ o i,subscripted b false o i=operate [o,i] (getItem o i)
def HH (X:Cx) (r:R2):Prop :=
 ∀ (value slice:Expr) (pins:List (Addr×Obj)) (s:Shared) (σ:St) (H:Hp) (x y:V) (v u:Value) (Q:VK),Inv X pins σ H s->RelV x v->RelV y u->r x y H Q ->
  subscripted slice false v u=operate [v,u] (getItem v u)->wpAny (model X.prog X.w) X.A (subscriptTail value slice v u) (EP X pins σ Q) X.xe s
def WZ (X:Cx) (id:String) (r:V->List V->Hp->VK->Prop):Prop :=
 ∀ (pins:List (Addr×Obj)) (s:Shared) (σ:St) (H:Hp) (x:V) (xs:List V) (v:Value) (us:List Value) (Q:VK),Inv X pins σ H s->RelV x v->Vals xs us->r x xs H Q ->
  wpAny (model X.prog X.w) X.A (call (.builtin id) (v :: us)) (EP X pins σ Q) X.xe s
section
variable {X:Cx} {a b:Expr} {ta tb:TE} {pos:Pos}
theorem aA {r:R2} (hr:HH X r) (ha:PE X a ta) (hb:PE X b tb) (hs:R7 b):PE X (.Subscript a b pos) (zQ r ta tb):=by
 intro pins s σ H Q I h
 exact Subscript_ (tH ha hb I h λv u s2 x y H2 I2 rx ry q=>hr a b pins s2 σ H2 x y v u Q I2 rx ry q (hs _ _))
def wM (K:W.Frag):R2:=λx y H Q=>∃ p xs i v,x=.ref p/\y=.int i/\ak K H p xs/\cY xs i=some v/\Q v H
theorem R6:HH X (wM X.K):=by
 intro value slice pins s σ H x y v u Q I rx ry h hs
 obtain ⟨p,xs,i,z,rfl,rfl,hq,he,q⟩:=h
 cases rx
 obtain ⟨t,rfl⟩:=ry
 obtain ⟨its,r,pl,hz⟩:=I.list hq
 obtain ⟨j,h1,h2,h3,h4,h5⟩:=R8 he
 obtain ⟨w,ew,rw'⟩:=r.get h2
 have hl:=r.length
 have hn:=AJ
 have fin:EP X pins σ Q w s:=⟨z,H,I,rw',q⟩
 by_cases h0:0<=i
 .have hj:i.toNat=j:=by
   rw [seqIndex_of h0 h5] at h1
   exact bcC h1
  exact item_listR pl.isList h0 (by lia) (by rw [hj]; simpa using ew) fin hs
 .have hj:(i+(its.toArray.size:Int)).toNat=j:=by
   rw [seqIndex_neg (by lia) h4] at h1
   rw [aIh,← hl]
   exact bcC h1
  exact subscriptTail_builtinR (x:=w) pl.isList.typeIs slot_list_getitem.lookup
   (wpAny_getItem_list_neg (Q:=λr s'=>r=w/\EP X pins σ Q r s') pl.isList (by lia) (by rw [aIh] <;> lia) (by lia) (by rw [hj]; simpa using ew) ⟨rfl,fin⟩) hs
theorem Vu (its:List Value) (n j:Nat) (u:Value):Obj.mapSeq (·.setIfInBounds j u) { cls:=.type "list",data:=.seq its.toArray n }={ cls:=.type "list",data:=.seq (its.set j u).toArray n }:=by
 simp [Obj.mapSeq]
theorem Inv.lst {pins:List (Addr×Obj)} {σ:St} {H:Hp} {s:Shared} {p:Addr} {xs:List V} (I:Inv X pins σ H s) (h:H p=some (.lst xs)) :
  ∃ (its:List Value) (n:Nat),Vals xs its/\s.heap.get? p=some { cls:=.type "list",data:=.seq its.toArray n }/\xs.length<=sizeLine:=by
 obtain ⟨z,its,n,r,e⟩:=I.hok p _ h
 exact ⟨its,n,r,e,z⟩
theorem Inv.sj {pins:List (Addr×Obj)} {σ:St} {H:Hp} {s:Shared} {p:Addr} {xs ys:List V} {its its':List Value} {n n':Nat} {f:Obj->Obj} (I:Inv X pins σ H s) (h:H p=some (.lst xs))
  (ho:s.heap.get? p=some { cls:=.type "list",data:=.seq its.toArray n }) (hf:f { cls:=.type "list",data:=.seq its.toArray n }={ cls:=.type "list",data:=.seq its'.toArray n' }) (r:Vals ys its') (hz:ys.length<=sizeLine) (t:Nat) :
  Inv X pins σ (upd H p (.lst ys)) { s with heap:=s.heap.update p f,toks:=t }:=by
 have e:(s.heap.update p f).get? p=some { cls:=.type "list",data:=.seq its'.toArray n' }:=by
  rw [ajk f ho (by rw [hf] <;> rfl),hf]
 refine I.write (x:=p) (e:=p) (by rw [h]; trivial) (.inl rfl) (λb u hb q=>(a1l _ _ (aay hb)).trans q) ⟨_,e⟩ ?_
 exact ⟨hz,its',n',r,e⟩
def wJ:V->V->V->Hp->(Hp->Prop)->Prop:=λo i v H Q=>∃ p xs k j,o=.ref p/\i=.int k/\H p=some (.lst xs)/\lP xs.length k=some j/\Q (upd H p (.lst (xs.set j v)))
theorem vA:zh X wJ:=by
 intro pins s σ H o i v ov iv u Q I ro ri rv h
 obtain ⟨p,xs,k,j,rfl,rfl,hp,hj,q⟩:=h
 cases ro
 obtain ⟨t,rfl⟩:=ri
 obtain ⟨its,n,r,ho,hz⟩:=I.lst hp
 obtain ⟨h1,h2,h3,h4⟩:=Ll hj
 have hl:=r.length
 have hn:=AJ
 have I':Inv X pins σ (upd H p (.lst (xs.set j v))) { s with heap:=s.heap.update p (Obj.mapSeq (·.setIfInBounds j u)) } :=
  I.sj hp ho (Vu its n j u) (r.set rv j) (by rw [length_set]; exact hz) s.toks
 by_cases h0:0<=k
 .have hk:k.toNat=j:=by
   rw [seqIndex_of h0 h4] at h1
   exact bcC h1
  exact W.ki_setAt ho h0 (by lia) (by rw [aIh,← hl]; exact h4) (by rw [hk]; exact ⟨_,I',q⟩)
 .have hk:(k+(its.toArray.size:Int)).toNat=j:=by
   rw [seqIndex_neg (by lia) h3] at h1
   rw [aIh,← hl]
   exact bcC h1
  exact W.ki_setBack ho (by lia) (by rw [aIh,← hl]; exact h3) (by lia) (by rw [hk]; exact ⟨_,I',q⟩)
theorem Wn (lo hi:Option Int) (n:Nat):(sliceBounds lo hi none n).1=((HT.gq n 0 lo:Nat):Int)/\(sliceBounds lo hi none n).2.1=((HT.gq n n hi:Nat):Int)/\(sliceBounds lo hi none n).2.2=1:=by
 refine ⟨?_,?_,rfl⟩
 .cases lo with
  | none=>simp [sliceBounds,HT.gq]
  | some i =>
   simp only [sliceBounds,HT.gq,Option.getD_none,show (1:Int) > 0 by decide,at9]
   by_cases h:i<0
   .simp only [h,at9] <;> lia
   .simp only [h,aXX] <;> lia
 .cases hi with
  | none=>simp [sliceBounds,HT.gq]
  | some i =>
   simp only [sliceBounds,HT.gq,Option.getD_none,show (1:Int) > 0 by decide,at9]
   by_cases h:i<0
   .simp only [h,at9] <;> lia
   .simp only [h,aXX] <;> lia
theorem WD (its:List Value) (lo hi:Option Int):slicePick its.toArray lo hi none=((its.drop (HT.gq its.length 0 lo)).take (HT.gq its.length its.length hi - HT.gq its.length 0 lo)).toArray:=by
 obtain ⟨h1,h2,h3⟩:=Wn lo hi its.toArray.size
 unfold slicePick
 rw [h1,h2,h3]
 simp only [sliceRange_one,pick_run,aIh] <;> rfl
def wI (K:W.Frag):V->Option Int->Option Int->Hp->VK->Prop:=λx lo hi H Q=>∃ a xs,x=.ref a/\ak K H a xs/\∀ p,H p=none->Q (.ref p) (upd H p (.lst (gI xs lo hi)))
theorem R5:HC X (wI X.K):=by
 intro pins s σ H x v vl vu lo hi sl Q I rx hs pl pu h
 obtain ⟨a,xs,rfl,hx,q⟩:=h
 cases rx
 obtain ⟨its,r,ht,hz⟩:=I.list hx
 have hlen:=r.length
 refine ⟨"list",_,slot_list_getitem.lookup,ht.isList.typeIs,?_⟩
 refine wpAny_getItem_list_slice ht.isList hs pl pu .none (by simp) ?_ (by rw [aIh] <;> lia)
 rw [WD,← hlen]
 refine ⟨.ref s.heap.objs.size,_,I.laid (t':=s.toks) (o:=.lst (gI xs lo hi)) (λb ob q=>aBk _ q) (avG _) ?_,rfl,q _ (I.hok.fresh (avG _))⟩
 exact ⟨ajJ (V4 xs lo hi) hz,_,0,(r.drop (HT.gq xs.length 0 lo)).take (HT.gq xs.length xs.length hi - HT.gq xs.length 0 lo),aJ2 _ rfl⟩
def fK:V->Bool
 | .aX=>true
 | .bl _=>true
 | .int _=>true
 | .str _=>true
 | _=>false
def oZ:V->V->Bool
 | .aX,.aX=>true
 | .bl a,.bl b=>a == b
 | .bl a,.int b=>(if a then 1 else 0) == b
 | .int a,.bl b=>a == (if b then 1 else 0)
 | .int a,.int b=>a == b
 | .str a,.str b=>a == b
 | _,_=>false
theorem Q9 {A:Around} {s:Shared} {y x:V} {u v:Value} (ry:RelV y u) (rx:RelV x v) (fy:fK y=true) (fx:fK x=true):SeqAt.EqAt A s u v (oZ y x):=by
 cases y with
 | aX =>
  cases ry
  cases x with
  | aX=>cases rx; exact SeqAt.EqAt.same _
  | bl b=>cases rx; exact SeqAt.EqAt.none_bool b
  | int b=>obtain ⟨t,rfl⟩:=rx; exact SeqAt.EqAt.none_int b t
  | str b=>obtain ⟨t,rfl⟩:=rx; exact SeqAt.EqAt.none_str b t
  | _=>exact absurd (show false=true from fx) aCK
 | bl a =>
  cases ry
  cases x with
  | aX=>cases rx; exact SeqAt.EqAt.bool_none a
  | bl b=>cases rx; exact SeqAt.EqAt.bool_bool a b
  | int b=>obtain ⟨t,rfl⟩:=rx; exact SeqAt.EqAt.bool_int a b t
  | str b=>obtain ⟨t,rfl⟩:=rx; exact SeqAt.EqAt.bool_str a b t
  | _=>exact absurd (show false=true from fx) aCK
 | int a =>
  obtain ⟨t',rfl⟩:=ry
  cases x with
  | aX=>cases rx; exact SeqAt.EqAt.int_none a t'
  | bl b=>cases rx; exact SeqAt.EqAt.int_bool a t' b
  | int b=>obtain ⟨t,rfl⟩:=rx; exact SeqAt.EqAt.int_int a t' b t
  | str b=>obtain ⟨t,rfl⟩:=rx; exact SeqAt.EqAt.int_str a t' b t
  | _=>exact absurd (show false=true from fx) aCK
 | str a =>
  obtain ⟨t',rfl⟩:=ry
  cases x with
  | aX=>cases rx; exact SeqAt.EqAt.str_none a t'
  | bl b=>cases rx; exact SeqAt.EqAt.str_bool a t' b
  | int b=>obtain ⟨t,rfl⟩:=rx; exact SeqAt.EqAt.str_int a t' b t
  | str b=>obtain ⟨t,rfl⟩:=rx; exact SeqAt.EqAt.str_str a t' b t
  | _=>exact absurd (show false=true from fx) aCK
 | _=>exact absurd (show false=true from fy) aCK
def j9 (x:V) (u:Value):Bool:=match u with
 | .none=>oZ .aX x
 | .bool b=>oZ (.bl b) x
 | .int i _=>oZ (.int i) x
 | .str z _=>oZ (.str z) x
 | _=>false
theorem JN {x y:V} {u:Value} (r:RelV y u) (f:fK y=true):j9 x u=oZ y x:=by
 cases y with
 | aX=>cases r; rfl
 | bl b=>cases r; rfl
 | int i=>obtain ⟨t,rfl⟩:=r; rfl
 | str z=>obtain ⟨t,rfl⟩:=r; rfl
 | _=>exact absurd (show false=true from f) aCK
theorem yG {x:V}:∀ {xs:List V} {us:List Value},Vals xs us->xs.all fK=true->us.any (j9 x)=xs.any λy=>oZ y x
 | _,_,.nil,_=>rfl
 | y :: xs,u :: us,.cons r t,f=>by
  rw [all_cons,asO] at f
  rw [any_cons,any_cons,JN r f.1,yG t f.2]
theorem yO {A:Around} {s:Shared} {x:V} {v:Value} (rx:RelV x v) (fx:fK x=true):∀ {xs:List V} {us:List Value},Vals xs us->xs.all fK=true->∀ u∈us,SeqAt.EqAt A s u v (j9 x u)
 | _,_,.nil,_=>λu hu=>by cases hu
 | y :: xs,u :: us,.cons r t,f=>λu' hu=>by
  rw [all_cons,asO] at f
  rcases aDl.mp hu with rfl | hu
  .rw [JN r f.1]; exact Q9 r rx f.1 fx
  .exact yO rx fx t f.2 u' hu
def sD (x:V) (xs:List V):Bool:=xs.any λy=>oZ y x
def zW (K:W.Frag) (neg:Bool):R2:=λx y H Q=>∃ p xs,y=.ref p/\(ak K H p xs\/bJ K H p xs)/\fK x=true/\xs.all fK=true/\Q (.bl (if neg then !sD x xs else sD x xs)) H
theorem VG:fc X (compareOp .In) (zW X.K false):=by
 intro pins s σ H x y v u Q I rx ry h
 obtain ⟨p,xs,rfl,hq,fx,fs,q⟩:=h
 cases ry
 rcases hq with hq | hq
 .obtain ⟨its,r,pl,hz⟩:=I.list hq
  refine SeqAt.in_listAt (j9 x) pl.isList (λw hw=>yO rx fx r fs w (by simpa using hw)) ⟨.bl _,H,I,rfl,?_⟩
  rw [show its.toArray.any (j9 x)=its.any (j9 x) by simp,yG r fs]
  exact q
 .obtain ⟨its,r,pl,hz⟩:=I.tuple hq
  refine SeqAt.in_tupleAt (j9 x) pl (λw hw=>yO rx fx r fs w (by simpa using hw)) ⟨.bl _,H,I,rfl,?_⟩
  rw [show its.toArray.any (j9 x)=its.any (j9 x) by simp,yG r fs]
  exact q
theorem Wm:fc X (compareOp .NotIn) (zW X.K true):=by
 intro pins s σ H x y v u Q I rx ry h
 obtain ⟨p,xs,rfl,hq,fx,fs,q⟩:=h
 cases ry
 rcases hq with hq | hq
 .obtain ⟨its,r,pl,hz⟩:=I.list hq
  refine SeqAt.notIn_listAt (j9 x) pl.isList (λw hw=>yO rx fx r fs w (by simpa using hw)) ⟨.bl _,H,I,rfl,?_⟩
  rw [show its.toArray.any (j9 x)=its.any (j9 x) by simp,yG r fs]
  exact q
 .obtain ⟨its,r,pl,hz⟩:=I.tuple hq
  refine SeqAt.notIn_tupleAt (j9 x) pl (λw hw=>yO rx fx r fs w (by simpa using hw)) ⟨.bl _,H,I,rfl,?_⟩
  rw [show its.toArray.any (j9 x)=its.any (j9 x) by simp,yG r fs]
  exact q
theorem Wl:aW X (.builtin "len") (λxs H Q=>∃ p ys,xs=[.ref p]/\(ak X.K H p ys\/bJ X.K H p ys)/\Q (.int ys.length) H):=by
 intro pins s σ H xs us Q I r h
 obtain ⟨p,ys,rfl,hq,q⟩:=h
 obtain ⟨u,rfl,rx⟩:=vals1 r
 cases rx
 have hn:=AJ
 rcases hq with hq | hq
 .obtain ⟨its,r',pl,hz⟩:=I.list hq
  have hlen:=r'.length
  exact Calls.call_len_list pl.isList (by simp only [aIh] <;> lia) ⟨.int ys.length,H,I.tok _,⟨s.toks+1,by rw [aIh,hlen]⟩,q⟩
 .obtain ⟨its,r',pl,hz⟩:=I.tuple hq
  have hlen:=r'.length
  exact len_tuple pl (by simp only [aIh] <;> lia) ⟨.int ys.length,H,I.tok _,⟨s.toks+1,by rw [aIh,hlen]⟩,q⟩
theorem Wk:aW X (.type "list") (λxs H Q=>∃ p ys,xs=[.ref p]/\(ak X.K H p ys\/bJ X.K H p ys)/\∀ l,H l=none->Q (.ref l) (upd H l (.lst ys))):=by
 intro pins s σ H xs us Q I r h
 obtain ⟨p,ys,rfl,hq,q⟩:=h
 obtain ⟨u,rfl,rx⟩:=vals1 r
 cases rx
 have fin:∀ (its:List Value),Vals ys its->ys.length<=sizeLine->∀ (h':Heap) (c':Nat),(∀ b o',s.heap.get? b=some o'->h'.get? b=some o') ->
   h'.get? s.heap.objs.size=some { cls:=.type "list",dict:=none,data:=.seq its.toArray c',slots:=#[] }->EP X pins σ Q (.ref s.heap.objs.size) { s with heap:=h' }:=λits r' hz h' c' kp e =>
  ⟨.ref s.heap.objs.size,_,I.laid (t':=s.toks) kp (avG _) (show aJ X.prog X.w _ h' _ (.lst ys) from ⟨hz,its,c',r',e⟩),rfl,q _ (I.hok.fresh (avG _))⟩
 rcases hq with hq | hq
 .obtain ⟨its,r',pl,hz⟩:=I.list hq
  have hlen:=r'.length
  obtain ⟨o,ho,hc,n,hd⟩:=pl.isList
  exact call_list_seq p (.inl rfl) ho hc hd (λh' c' kp e=>fin its r' hz h' c' kp e) (by simp only [aIh] <;> lia)
 .obtain ⟨its,r',pl,hz⟩:=I.tuple hq
  have hlen:=r'.length
  obtain ⟨o,ho,hc,n,hd⟩:=pl
  exact call_list_seq p (.inr rfl) ho hc hd (λh' c' kp e=>fin its r' hz h' c' kp e) (by simp only [aIh] <;> lia)
def HX (K:W.Frag) (T:String) (x:V) (H:Hp):Prop:=match x with
 | .str _=>T = "str"
 | .int _=>T = "int"
 | .ref p=>(T = "list" /\ ∃ xs,ak K H p xs)\/(T = "tuple" /\ ∃ o,K.lookup p=some o/\o.cls=.type "tuple" /\ o.dict=none) \/
   (T = "dict" /\ ((∃ kvs,H p=some (.dK kvs))\/∃ kvs,H p=some (.dT kvs)))\/(T = "set" /\ ∃ S n,H p=some (.set S n))
 | _=>False
theorem Q8 {pins:List (Addr×Obj)} {σ:St} {H:Hp} {s:Shared} {T:String} {x:V} {v:Value} (I:Inv X pins σ H s) (r:RelV x v) (ty:HX X.K T x H) :
  s.TypeIs v T/\∀ a,v=.ref a->∃ ob,s.heap.get? a=some ob/\ob.dict=none:=by
 cases x with
 | str z =>
  obtain ⟨t,rfl⟩:=r
  cases (show T = "str" from ty)
  exact ⟨typeIs_str s z t,λ_ e=>nomatch e⟩
 | int i =>
  obtain ⟨t,rfl⟩:=r
  cases (show T = "int" from ty)
  exact ⟨typeIs_int s i t,λ_ e=>nomatch e⟩
 | ref p =>
  cases r
  rcases ty with ⟨rfl,xs,hq⟩ | ⟨rfl,o,hk,hc,hd⟩ | ⟨rfl,hk⟩ | ⟨rfl,S,n,hk⟩
  .obtain ⟨its,_,pl,_⟩:=I.list hq
   refine ⟨pl.isList.typeIs,λa e=>?_⟩
   cases e
   obtain ⟨o,n,e,c,hd,_⟩:=pl
   exact ⟨o,e,hd⟩
  .refine ⟨⟨o,I.dN p o hk,hc⟩,λa e=>?_⟩
   cases e
   exact ⟨o,I.dN _ o hk,hd⟩
  .have z:∃ o,s.heap.get? p=some o/\o.ExactDict:=by
    rcases hk with ⟨kvs,hk⟩ | ⟨kvs,hk⟩
    .obtain ⟨_,_,_,_,o,_,_,e,ex,_⟩:=I.hok p _ hk
     exact ⟨o,e,ex⟩
    .obtain ⟨_,_,_,_,o,_,_,e,ex,_⟩:=I.hok p _ hk
     exact ⟨o,e,ex⟩
   obtain ⟨o,e,ex⟩:=z
   refine ⟨⟨o,e,ex.1⟩,λa e2=>?_⟩
   cases e2
   exact ⟨o,e,ex.2.1⟩
  .obtain ⟨o,_,_,_,e,ex,_⟩:=I.hok p _ hk
   refine ⟨⟨o,e,ex.1⟩,λa e2=>?_⟩
   cases e2
   exact ⟨o,e,ex.2.1⟩
 | _=>exact False.elim ty
def CQ (K:W.Frag) (T:String) (r:V->List V->Hp->VK->Prop) (to:TE) (t:TA):TE:=λσ H Q=>to σ H λx H1=>HX K T x H1/\t σ H1 λxs H2=>r x xs H2 Q
variable {o e:Expr} {es:List Expr} {to:TE} {t:TA} {name:Str} {apos cpos:Pos} {T id:String} {r:V->List V->Hp->VK->Prop}
theorem bI (pa:PlainAttrs T) (slot:Slot T name id) (hty:typeOf (.builtin id)=pure (.type "method_descriptor")) (hm:WZ X id r) (ho:PE X o to) (ha:PA X (e :: es) t)
  (hbase:attributeBase o name X.env (eval o X.env)=eval o X.env:=by rfl)
  (hfew:((backTo cpos (starEach (e :: es) X.env)).all (λx=>!x.1) && (backToKw cpos (keywordEach [] X.env)).all (λx=>x.1.isSome)
   && decide ((e :: es).length+([]:List Keyword).length+(if ([]:List Keyword).isEmpty then 0 else 1)<30))=true:=by rfl)
  (hline:(apos.endLine == cpos.line)=true:=by rfl) (hs:starEach (e :: es) X.env=(false,eval e X.env) :: starEach es X.env:=by rfl) (hplain:(backTo cpos (starEach es X.env)).any (·.1)=false:=by rfl) :
  PE X (.Call (.Attribute o name apos) (e :: es) [] cpos) (CQ X.K T r to t):=by
 intro pins s σ H Q I h
 refine wpAny_Call_method_late hbase hfew hline rfl (bG (ho pins s σ H _ I h) λv s1 ⟨x,H1,I1,r1,ty,q1⟩=>?_)
 obtain ⟨h1,h2⟩:=Q8 I1 r1 ty
 refine ⟨T,id,pa,slot,hty,h1,h2,?_⟩
 have hA:=ha cpos pins s1 σ H1 _ I1 q1
 rw [hs] at hA ⊢
 refine ax7 (by show (false || (backTo cpos (starEach es X.env)).any (·.1))=false; rw [hplain] <;> rfl) (aDs ?_)
 exact bG hA λus s2 ⟨vs,H2,I2,r2,q2⟩=>hm pins s2 σ H2 x vs v us Q I2 r1 r2 q2
/- xs.append(e),list.index on a module's tuple .. are MtR facts of 06m -/
end
def HF (X:Cx) (id:String) (r:V->List V->Hp->VK->Prop):Prop :=
 ∀ (pins:List (Addr×Obj)) (s:Shared) (σ:St) (H:Hp) (x:V) (xs:List V) (v:Value) (us:List Value) (Q:VK),Inv X pins σ H s->RelV x v->Vals xs us->r x xs H Q ->
  wpAny (model X.prog X.w) X.A (call (.builtin id) (v :: us)) (EP X pins σ Q) X.xe s
theorem Vals.one:∀ {x:V} {us:List Value},Vals [x] us->∃ u,us=[u]/\RelV x u
 | _,_,.cons r .nil=>⟨_,rfl,r⟩
theorem Vals.rep {xs:List V} {us:List Value} (h:Vals xs us):∀ k:Nat,Vals (List.replicate k xs).flatten (List.replicate k us).flatten
 | 0=>.nil
 | k+1=>by
  rw [aGN,aGN,awc,awc]
  exact Vals.append h (Vals.rep h k)
theorem Mc (its:List Value):∀ (k:Nat) (acc:List Value),
  List.foldl (λx1 x2=>x1++x2) acc.toArray (List.replicate k its.toArray)=(acc++(List.replicate k its).flatten).toArray
 | 0,acc=>by simp
 | k+1,acc=>by
  have e:acc.toArray++its.toArray=(acc++its).toArray:=by simp
  have e2:(acc++its)++(List.replicate k its).flatten=acc++(List.replicate (k+1) its).flatten:=by
   rw [aGN,awc,aNV]
  rw [← e2,← Mc its k (acc++its),← e,aGN,List.foldl_cons]
section
variable {X:Cx} {pins:List (Addr×Obj)} {σ:St} {H:Hp} {s:Shared} {l b:Addr} {xs ys zs:List V}
theorem Inv.lO {its its':List Value} {n:Nat} {f:Array Value->Array Value} {t':Nat} (I:Inv X pins σ H s) (hH:H l=some (.lst xs))
  (e:s.heap.get? l=some { cls:=.type "list",data:=.seq its.toArray n }) (hf:f its.toArray=its'.toArray) (hv:Vals ys its') (hz:ys.length<=sizeLine) :
  Inv X pins σ (upd H l (.lst ys)) { s with heap:=s.heap.update l (Obj.mapSeq f),toks:=t' }:=by
 have q:=PySem.IsL.update e f
 rw [hf] at q
 refine I.write (x:=l) (e:=l) (by rw [hH]; exact trivial) (.inl rfl) (λb' u hb hu=>(a1l s.heap (Obj.mapSeq f) (aay hb)).trans hu) ⟨_,q⟩ ?_
 exact ⟨hz,its',_,hv,q⟩
theorem Inv.sy {its:List Value} {t':Nat} (I:Inv X pins σ H s) (hv:Vals ys its) (hz:ys.length<=sizeLine) :
  Inv X pins σ (upd H s.heap.objs.size (.lst ys)) { s with heap:=s.heap.push { cls:=.type "list",data:=.seq its.toArray },toks:=t' } :=
 I.laid (λ_ _ q=>aBk _ q) (avG _) ⟨hz,its,0,hv,aJ2 _ rfl⟩
theorem Inv.fresh (I:Inv X pins σ H s):H s.heap.objs.size=none:=I.hok.fresh (avG _)
theorem Inv.iD (I:Inv X pins σ H s) (hH:H l=some (.lst xs)):xs.length<=sizeLine/\∃ (its:List Value) (n:Nat),Vals xs its/\xs.length=its.length/\s.heap.get? l=some { cls:=.type "list",data:=.seq its.toArray n }:=by
 obtain ⟨z,its,n,r,e⟩:=I.hok l _ hH
 exact ⟨z,its,n,r,r.length,e⟩
theorem LF {n:Nat} (h:n<=sizeLine):Builtin.List.listTooLong n=false:=by
 unfold Builtin.List.listTooLong
 exact aXf (by lia)
end
section
variable {X:Cx}
def R4:V->List V->Hp->VK->Prop:=λx vs H Q=>∃ l xs y,x=.ref l/\vs=[y]/\H l=some (.lst xs)/\xs.length<sizeLine/\Q .aX (upd H l (.lst (xs++[y])))
theorem ZB:HF X "list.append" R4:=by
 intro pins s σ H x vs v us Q I rx rv h
 obtain ⟨l,xs,y,rfl,rfl,hH,hz,q⟩:=h
 cases rx
 obtain ⟨u,rfl,ru⟩:=rv.one
 obtain ⟨z,its,n,r,hl,e⟩:=I.iD hH
 refine call_meets F.slot_list_append ⟨_,e,rfl⟩ F.entry_list_append (F.args_list_append_2 _ _) (PySem.list_append l its.toArray n u (by rw [aIh]; lia)) ⟨e,?_⟩
 refine ⟨.aX,_,I.lO (its':=its++[u]) hH e (by simp) (r.append (.cons ru .nil)) ?_,rfl,q⟩
 rw [aIt,af9]
 lia
def C9:R2:=λx y H Q=>∃ l b xs zs,x=.ref l/\y=.ref b/\H l=some (.lst xs)/\H b=some (.lst zs)/\xs.length+zs.length<=sizeLine/\∀ p,H p=none->Q (.ref p) (upd H p (.lst (xs++zs)))
theorem Q7:fc X (binaryOp .Add) C9:=by
 intro pins s σ H x y v u Q I rx ry h
 obtain ⟨l,b,xs,zs,rfl,rfl,hH,hB,hz,q⟩:=h
 cases rx
 cases ry
 obtain ⟨z,its,n,r,hl,e⟩:=I.iD hH
 obtain ⟨z2,its2,n2,r2,hl2,e2⟩:=I.iD hB
 refine PySem.P.add_list e e2 ?_ (by rw [aIh,aIh]; lia)
 have ea:its.toArray++its2.toArray=(its++its2).toArray:=by simp
 rw [ea]
 exact ⟨.ref _,_,I.sy (t':=s.toks) (r.append r2) (by rw [aIt]; lia),rfl,q _ I.fresh⟩
def C6:R2:=λx y H Q=>∃ l k xs,x=.ref l/\y=.int k/\H l=some (.lst xs) /\ -(2 ^ 63)<=k/\k<2 ^ 63/\xs.length * k.toNat<=sizeLine /\
 ∀ p,H p=none->Q (.ref p) (upd H p (.lst (List.replicate k.toNat xs).flatten))
theorem R3 {α:Type} (xs:List α) (k:Nat):(List.replicate k xs).flatten.length=k * xs.length:=by
 induction k with
 | zero=>simp
 | succ k ih=>rw [aGN,awc,aIt,ih,Nat.succ_mul,Nat.add_comm]
theorem Q6:fc X (binaryOp .Mult) C6:=by
 intro pins s σ H x y v u Q I rx ry h
 obtain ⟨l,k,xs,rfl,rfl,hH,h1,h2,hz,q⟩:=h
 cases rx
 obtain ⟨t,rfl⟩:=ry
 obtain ⟨z,its,n,r,hl,e⟩:=I.iD hH
 have hlen:its.toArray.size * k.toNat<=sizeLine:=by rw [aIh,← hl]; exact hz
 have hcap:¬ its.toArray.size * k.toNat > (2 ^ 63 - 1) / 8:=by
  have:(sizeLine:Nat)<=(2 ^ 63 - 1) / 8:=by decide
  lia
 have hfit:¬ (!Builtin.List.listFitsIndex k)=true:=by
  rw [fitsIndex_both h1 h2]
  exact aCK
 have nU:¬ Builtin.List.listTooLong (its.toArray.size * k.toNat)=true:=by
  rw [LF hlen]
  exact aCK
 have hnew:List.foldl (λx1 x2=>x1++x2) #[] (List.replicate (if its.toArray.isEmpty=true then 0 else k.toNat) its.toArray)=(List.replicate k.toNat its).flatten.toArray:=by
  have f0:∀ m:Nat,List.foldl (λx1 x2=>x1++x2) #[] (List.replicate m its.toArray)=(List.replicate m its).flatten.toArray:=λm=>by
   have:=Mc its m []
   rw [List.nil_append] at this
   exact this
  rw [f0]
  cases its with
  | nil=>simp
  | cons a r'=>rw [bd2 (by simp)]
 refine wpAny_binaryOp_repeat_ref (T := "list") (U := "int") (by decide) ⟨_,e,rfl⟩ (λs'=>typeIs_int s' k t) noFill_list_mul F.fills_int_mul F.slot_int_rmul repeat_list F.slot_int_index.lookup
  (call_meets F.slot_int_rmul (typeIs_int s k t) F.entry_int_rmul (F.args_int_rmul_2 _ _) (int___rmul___int_list k t l its.toArray n)
   ⟨e,rfl,⟨_,e,rfl⟩,call_meets F.slot_list_mul ⟨_,e,rfl⟩ F.entry_list_mul (F.args_list_mul_2 _ _) (AutoListH.list___mul___list_int_3 l its.toArray n k t hfit hcap nU) ⟨e,?_⟩⟩)
 rw [hnew]
 exact ⟨.ref _,_,I.sy (t':=s.toks) (r.rep k.toNat) (by rw [R3,Nat.mul_comm]; exact hz),rfl,q _ I.fresh⟩
end
end L2
namespace Na
open PySem PySem.W PySem.Calls PyProof.Rows
theorem WK {P:Params} {h:Heap}:∀ (ns:List Int) (vs:List Value),WellAll P h vs (ns.map WData.int)->IntsAre vs ns:=by
 intro ns
 induction ns with
 | nil =>
  intro vs w
  rw [map_nil] at w
  cases w
  exact .nil
 | cons n ns ih =>
  intro vs w
  rw [ar3] at w
  cases w with
  | cons a b =>
   cases a
   exact .cons _ _ (ih _ b)
theorem VF {l:OpenLaw} {n:Nat} (hn:l.most=some n) {P:Params} {h:Heap} {args:List WData} {vals:List Value}
  (hpre:l.row.toRowW.claim.pre args=true) (hwl:WellAll P h vals args) :
  ∃ a vs ns,vals=[Value.ref a]/\args=[WData.list (ns.map WData.int)]/\h.get? a=some { cls:=.type "list",data:=.seq vs.toArray }/\IntsAre vs ns/\ns.length<=n:=by
 have hsh:WShape.hasAll [] args [.list .int]=true:=(pre_splitW hpre).1
 have hc:l.pre.holds [] { args:=args }=true:=(pre_splitW hpre).2
 obtain ⟨d,r,rfl,h1,h2⟩:=hasAllW_cons hsh
 obtain rfl:=hasAllW_nil h2
 obtain ⟨xs,rfl,h3⟩:=hasW_list h1
 obtain ⟨ns,rfl⟩:=items_int h3
 have hlen:ns.length<=n:=by
  unfold OpenLaw.pre at hc
  have h4:(WTm.not (.lt (.lit (.int (n:Int))) (.len (.arg 0)))).holds [] { args:=[.list (ns.map .int)] }=true:=by
   have h4:=(holds_andW hc).1
   rw [hn] at h4
   exact h4
  have h5:=condW_of h4 (w_not (w_lt w_lit (w_len_list (w_arg rfl))))
  rw [aH5] at h5
  refine Nat.le_of_not_lt λq=>?_
  have q':(n:Int)<((ns.length:Nat):Int):=by lia
  first
   | (rw [aPy q'] at h5; exact absurd h5 (by decide))
   | (simp at h5; lia)
 cases hwl with
 | cons w1 w2 =>
  cases w2
  cases w1 with
  | list ho hall=>exact ⟨_,_,ns,rfl,rfl,ho,WK ns _ hall,hlen⟩
theorem VE (l:OpenLaw) (args:List WData):l.row.toRowW.claim.post args (.bool true) args=true :=
 postW_of (r:=l.row.toRowW) (X:=(true == true))
  (show WShape.has [] (.bool true) .bool=true by first | rfl | decide | simp [WShape.has,WShape.arms,WShape.armsAll])
  (show (WTm.eq .res (.lit (.bool true))).value [] { args:=args,res:=some (.bool true),after:=args }=some (.bool (true == true)) from w_eq_bool (w_res rfl) w_lit) rfl
theorem jI {l:OpenLaw} {n:Nat} {q:Program} {loose:List Str} {XP:(Str->Option Value)->Heap->Prop} {YP:World->Heap->Prop} {d:DefRec}
  (hn:l.most=some n) (hdf:d.params.defaults=[])
  (call:∀ (w:World) (s₀ s₁:Shared) (mg mb:Str->Option Value) (fa:Addr) (o:Obj) (pm cd doc:Value) (a:Addr) (vs:List Value) (ns:List Int),
   Ground q loose [] XP w s₀ mg mb s₁.heap->YP w s₁.heap ->
   s₁.heap.get? fa=some o->o.data=.func (docDef d.name d.params d.body d.scope pm cd doc)->s₁.heap.CodeRec cd d.name->mg d.name=some (.ref fa) ->
   s₁.heap.get? a=some { cls:=.type "list",data:=.seq vs.toArray }->IntsAre vs ns->ns.length<=n->s₁.gens=#[] ->
   codeAny (model l.prog w) callerA (.call (.ref fa) ⟨[.ref a],[]⟩) (λr s'=>r=.ok (.ret (.bool true))/\OldK s₁.heap s'.heap/\s'.os=s₁.os/\AllBare s'.gens) s₁) :
  WalkO q loose XP YP l.row.toRowW d [] (λf vs=>PySem.call f vs):=by
 intro w s₀ s₁ mg mb G Y fa o pm cd doc dV kV ho hd hcd hD hmg hg args vals as hpre hlay hrd hwl hlo
 obtain rfl:dV=.none:=Dflts.none hD hdf
 obtain rfl:kV=.none:=Dflts.noKw hD
 obtain ⟨a,vs,ns,rfl,rfl,hobj,hints,hlen⟩:=VF hn hpre hwl
 refine enter_call (codeAny_mono (call w s₀ s₁ mg mb fa o pm cd doc a vs ns G Y ho (fd_plain hd) hcd hmg hobj hints hlen hg) λr s' hq=>?_)
 obtain ⟨rfl,h2,h3,h4⟩:=hq
 exact ⟨.inl ⟨.bool true,.bool true,[],rfl,λ_=>rfl,.bool true,VE l _,λ_=>⟨List.Pairwise.nil,λ_ hm=>(nomatch hm)⟩⟩,h2,h3,h4⟩
end Na
namespace L2
open PySem PySem.Spec PyProof.Rows
theorem Gu:∀ {vs:List Value} {ns:List Int},IntsAre vs ns->Vals (ns.map V.int) vs
 | _,_,.nil=>.nil
 | _,_,.cons n t h=>.cons ⟨t,rfl⟩ (Gu h)
def qc (s:Stmt) (j:Nat):Stmt:=match s with
 | .ClassDef _ _ _ body _ _ _ _ _ _ _=>body.getD j (.Pass ⟨0,0,0,0⟩)
 | _=>.Pass ⟨0,0,0,0⟩
def ki (s:Stmt):Arguments:=match s with
 | .FunctionDef _ a _ _ _ _ _ _ _ _=>a
 | _=>{ posonlyargs:=[],args:=[],vararg:=none,kwonlyargs:=[],kw_defaults:=[],kwarg:=none,defaults:=[] }
def ZN (s:Stmt):List Stmt:=match s with
 | .FunctionDef _ _ b _ _ _ _ _ _ _=>b
 | _=>[]
def Zg (s:Stmt):Scope:=match s with
 | .FunctionDef _ _ _ _ _ _ sc _ _ _=>sc
 | _=>{ kind:=.function,names:=[],isGenerator:=false,isCoroutine:=false }
abbrev bB:pC:=λ_ _ _ _ _ _=>False
abbrev E0:XK:=λ_ _ _=>False
theorem nE {X:Cx}:vg bB X E0:=λ_ _ _ _ _ _ _ h=>h.elim
structure bK (K:W.Frag) (x qual:Str) (st:Stmt) (f:Addr) (fd:FuncData):Prop where
 ex:∃ (oc:Value) (od:Option Addr) (kV doc pm:Value) (an:Option Addr) (cdv ct:Value) (osl:Array (Option Value)),
  fd=W.fnOf x qual (ki st) (ZN st) (Zg st) .none kV doc pm an cdv ct/\K.lookup f=some ⟨oc,od,.func fd,osl⟩/\W.codeIn K cdv qual=true
 kp:W.keepIn K (.ref f)=true
section
variable {P:Program} {w:World} {K:W.Frag} {mg:Str->Option Value} {base:Heap}
theorem bK.ok {x qual:Str} {st:Stmt} {f:Addr} {fd:FuncData} {N ps:List Str} {k:Nat} {sp:Sp} (F:bK K x qual st f fd) (S:af N ps (Zg st)) (len:∀ vs H Q E,sp vs H Q E->vs.length=ps.length)
  (hbody:∀ (cdv:Value) (A:Around) (outer:List Env) (s:Shared) (H:Hp) (vs:List V) (Q:VK) (E:XK),aZ k (A.deeper (envOfC qual (Zg st) s.heap.objs.size f cdv))->sp vs H Q E ->
   ∃ t,lu (jG bB P w K mg base N qual (Zg st) f cdv A outer s H E).rW (ZN st) t/\t { nx:=λ_ H'=>Q .aX H',rt:=Q } (start N vs) H):aD P w K mg base bB (k+1) f fd ps sp:=by
 obtain ⟨oc,od,kV,doc,pm,an,cdv,ct,osl,rfl,lk,hcd⟩:=F.ex
 refine qT lk hcd S len λA outer s H vs Q E hr lQ=>?_
 obtain ⟨t,h,q⟩:=hbody cdv A outer s H vs Q E hr lQ
 exact ⟨t,h.rW,q⟩
theorem bK.binds {x qual:Str} {st:Stmt} {f:Addr} {fd:FuncData} {ps:List Str} (F:bK K x qual st f fd)
  (h:∀ (kV doc pm:Value) (an:Option Addr) (cdv ct:Value) (us:List Value),us.length=ps.length->bindArgs (W.fnOf x qual (ki st) (ZN st) (Zg st) .none kV doc pm an cdv ct) ⟨us,[]⟩=pure (ps.zip us)):Binds K fd ps []:=by
 obtain ⟨oc,od,kV,doc,pm,an,cdv,ct,osl,rfl,lk,hcd⟩:=F.ex
 exact .all (h kV doc pm an cdv ct)
theorem vf {x qual:Str} {st:Stmt} {f:Addr} {oc:Value} {od an:Option Addr} {osl:Array (Option Value)} {kV doc pm cdv ct:Value} (l:K.lookup f=some ⟨oc,od,.func (W.fnOf x qual (ki st) (ZN st) (Zg st) .none kV doc pm an cdv ct),osl⟩)
  (c:W.codeIn K cdv qual=true) (k:W.keepIn K (.ref f)=true):bK K x qual st f (W.fnOf x qual (ki st) (ZN st) (Zg st) .none kV doc pm an cdv ct):=⟨⟨oc,od,kV,doc,pm,an,cdv,ct,osl,rfl,l,c⟩,k⟩
end
theorem cW {A:Around} {k:Nat} (hr:aZ k A):A.units+1<cLine:=Nat.lt_of_le_of_lt (Nat.add_le_add_left (by decide:1<=64) _) hr.units
theorem Zn {n:Nat} (h:n<=1000):n<sizeLine:=Nat.lt_of_le_of_lt h (by decide)
section
variable {X:Cx}
theorem pv (i:Nat) {x:Str} {pos:Pos} (hN:X.N[i]?=some x:=by rfl) (hv:vD X.env.scope x:=by first | exact Or.inl rfl | exact Or.inr (Or.inl rfl) | exact Or.inr (Or.inr rfl)) (hd:(x == ("__debug__" : Str))=false:=by decide)
  (hcd:(x == ("__classdict__" : Str))=false:=by decide):PE X (.Name x pos) (vR i):=Rm hN hv hd hcd
end
def aq (H H':Hp):Prop:=∀ b o,H b=some o->H' b=some o
theorem aq.refl (H:Hp):aq H H:=λ_ _ h=>h
theorem aq.trans {H H1 H2:Hp} (a:aq H H1) (b:aq H1 H2):aq H H2:=λc o h=>b c o (a c o h)
theorem aq.free {H H':Hp} (e:aq H H') {l:Addr} (h:H' l=Option.none):H l=Option.none:=by
 cases q:H l with
 | none=>rfl
 | some o =>
  rw [e l o q] at h
  cases h
theorem aq.seq {K:W.Frag} {H H':Hp} {a:Addr} {xs:List V} (e:aq H H') (h:ak K H a xs):ak K H' a xs:=by
 rcases h with (h | ⟨o,h⟩) | h
 .exact .inl (.inl (e _ _ h))
 .exact .inl (.inr ⟨o,e _ _ h⟩)
 .exact .inr h
end L2
set_option maxHeartbeats 4000000
namespace L2
open PySem PySem.Spec PyProof.Rows
def bw (X:Cx) (N:List Str) (scope:Scope) (cl:List (Str×Addr)) (C:Addr) (s0:Shared) (H0:Hp) (fp:List Addr) (pins:List (Addr×Obj)):Cx :=
 { X with N:=N,s₀:=s0,H₀:=H0,env:=compEnvC scope cl C X.env,outer:=X.stack,stack:=X.stack,ex:=fp,fn:=λx=>scope.names.lookup x == some .cell,pn:=X.pn++pins,xe:=λ_ _=>False }
theorem zc {env:Env}:∀ (names:List (Str×NameKind)) (acc:List (Str×Addr)),(∀ p∈names,p.2=.free->∃ c,env.cells.lookup p.1=some c)->(∀ x c,acc.lookup x=some c->env.cells.lookup x=some c) ->
  ∃ cl,(forIn names acc λ(x:Str×NameKind) cs=>(match x with | (name,kind)=>if (kind == NameKind.free)=true then do let a ← cellOf env name; pure (ForInStep.yield ((name,a) :: cs)) else pure (ForInStep.yield cs):Sem (ForInStep (List (Str×Addr)))))=(pure cl:Sem (List (Str×Addr))) /\
   (∀ x c,cl.lookup x=some c->env.cells.lookup x=some c)/\(∀ x c,acc.lookup x=some c->cl.lookup x=some c)/\∀ p∈names,p.2=.free->∃ c,cl.lookup p.1=some c
 | [],acc,_,h=>⟨acc,rfl,h,λ_ _ e=>e,λ_ z=>nomatch z⟩
 | (n,k) :: r,acc,h,ha=>by
  by_cases hk:k=.free
  .subst hk
   obtain ⟨c,hc⟩:=h (n,.free) aTs rfl
   have ha':∀ x d,((n,c) :: acc).lookup x=some d->env.cells.lookup x=some d:=λx d e=>by
    rw [aNW] at e
    cases q:x == n with
    | true =>
     rw [q] at e
     have hxn:x=n:=by simpa using q
     subst hxn
     cases e
     exact hc
    | false =>
     rw [q] at e
     exact ha x d e
   obtain ⟨cl,e1,e2,e3,e4⟩:=zc r ((n,c) :: acc) (λp hp=>h p (akt _ hp)) ha'
   have top:∃ d,cl.lookup n=some d:=⟨c,e3 n c (by rw [aNW]; simp)⟩
   refine ⟨cl,?_,e2,λx d e=>?_,λp hp hf=>?_⟩
   .rw [aHo]
    simp only [cellOf,hc,beq_self_eq_true,at9]
    exact e1
   .cases q:x == n with
    | true =>
     have hxn:x=n:=by simpa using q
     subst hxn
     have z:=ha x d e
     rw [hc] at z; cases z
     exact e3 x c (by rw [aNW]; simp)
    | false=>exact e3 x d (by rw [aNW,q]; exact e)
   .rcases aDl.mp hp with rfl | hp
    .exact top
    .exact e4 p hp hf
  .obtain ⟨cl,e1,e2,e3,e4⟩:=zc r acc (λp hp=>h p (akt _ hp)) ha
   have hb:(k == NameKind.free)=false:=by simpa using hk
   refine ⟨cl,?_,e2,e3,λp hp hf=>?_⟩
   .rw [aHo]
    simp only [hb,a0a,aXX]
    exact e1
   .rcases aDl.mp hp with rfl | hp
    .exact absurd hf hk
    .exact e4 p hp hf
theorem MK {α:Type} (f:Str->α->α) (x:Str):∀ l:List (Str×α),(l.map λp=>(p.1,f p.1 p.2)).lookup x=(l.lookup x).map (f x)
 | []=>rfl
 | (n,k) :: r=>by
  have ih:=MK f x r
  rw [ar3,aNW,aNW]
  cases q:x == n with
  | true =>
   have e:x=n:=by simpa using q
   subst e
   rfl
  | false=>exact ih
def tN (env:Env) (n:Str) (k:NameKind):NameKind:=if (k == NameKind.free && env.scope.kind == .function && env.kindOf n == some .cell)=true then .cell else k
theorem MQ (scope:Scope) (env:Env) (x:Str):(relabel scope env).names.lookup x=(scope.names.lookup x).map (tN env x):=by
 rw [← MK (tN env) x scope.names]
 show (scope.names.map _).lookup x=_
 congr 1
 refine anO λp _=>?_
 show (if _ then _ else _)=_
 unfold tN
 split <;> rfl
theorem MP (env:Env) (n:Str) (k:NameKind):tN env n k=k\/(k=.free/\tN env n k=.cell):=by
 unfold tN
 by_cases h:(k == NameKind.free && env.scope.kind == .function && env.kindOf n == some .cell)=true
 .refine .inr ⟨?_,aHZ h⟩
  rw [asO,asO] at h
  exact aPf.mp h.1.1
 .exact .inl (bd2 h)
theorem WY {scope:Scope} {env:Env} {x:Str} {k:NameKind} (h:scope.names.lookup x=some k) :
  (relabel scope env).names.lookup x=some k\/(k=.free/\(relabel scope env).names.lookup x=some .cell):=by
 rw [MQ,h]
 rcases MP env x k with q | ⟨q,q'⟩
 .exact .inl (arH some q)
 .exact .inr ⟨q,arH some q'⟩
theorem Wj {scope:Scope} {env:Env} {x:Str} {k:NameKind} (h:(relabel scope env).names.lookup x=some k):∃ k',scope.names.lookup x=some k'/\(k'=k\/k'=.free):=by
 rw [MQ] at h
 cases q:scope.names.lookup x with
 | none=>rw [q] at h; cases h
 | some k' =>
  rw [q] at h
  have h':tN env x k'=k:=bcC h
  rcases MP env x k' with z | ⟨z,_⟩
  .exact ⟨k',rfl,.inl (z.symm.trans h')⟩
  .exact ⟨k',rfl,.inr z⟩
theorem ZT {α:Type} {x:Str}:∀ {l:List (Str×α)} {k:α},l.lookup x=some k->(x,k)∈l
 | [],_,h=>by simp at h
 | (n,k) :: r,k',h=>by
  rw [aNW] at h
  cases hx:x == n with
  | true =>
   rw [hx] at h; cases h
   have:x=n:=by simpa using hx
   subst this
   exact aTs
  | false =>
   rw [hx] at h
   exact akt _ (ZT h)
theorem U5 {prog:Program} {w:World} {A:Around} {s:Shared} {elt target iter:PySem.Expr} {ifs:List PySem.Expr} {scope:Scope} {pos:Pos} {it acc:Value} {env:Env} {R:Result->Shared->Prop} (I:Nat->Shared->Prop)
  (turn:∀ n s,I n s->wpAny (model prog w) A (pyNext it) (λr s1=>match r with
   | none=>R (.ok .next) s1
   | some v=>wpAny (model prog w) A (letOwnedTupleGo target it v) (λ_ s0=>wpAny (model prog w) A (assign target env v) (λ_ s2 =>
     wpAny (model prog w) A (forIn ifs true λc r=>if r=true then do let ok ← isTrue c env (eval c env); pure (ForInStep.yield ok) else pure (ForInStep.yield r)) (λok s3 =>
      if ok=true then wpAny (model prog w) A (eval elt env) (λx s4 =>
       wpAny (model prog w) A (call (.builtin "list.append") [acc,x]) (λ_ s5=>∃ m,m<n/\I m s5) (λ_ _=>False) s4) (λ_ _=>False) s3
      else ∃ m,m<n/\I m s3) (λ_ _=>False) s2) (λ_ _=>False) s0) (λ_ _=>False) s1) (λ_ _=>False) s)
  (n:Nat) (h:I n s):codeAny (model prog w) A (.compLoop (.ListComp elt [⟨target,iter,ifs,0⟩] scope pos) 0 it acc env) R s:=by
 have body:∀ n s,I n s->wpAny (model prog w) A (compTurn (.ListComp elt [⟨target,iter,ifs,0⟩] scope pos) 0 it acc env)
   (λfin s'=>match fin with | .done f=>R (.ok f) s' | .again c=>c=.compLoop (.ListComp elt [⟨target,iter,ifs,0⟩] scope pos) 0 it acc env/\∃ m,m<n/\I m s') (λ_ _=>False) s:=λn s hI=>by
  rw [compTurn_list]
  refine aLa (a5C (aLa (bG (turn n s hI) λr s1 h1=>?_)))
  cases r with
  | none=>exact aLj h1
  | some v =>
   refine aLa (bG h1 λ_ s0 h0=>aLa (bG h0 λ_ s2 h2=>aLa (bG h2 λok s3 h3=>?_)))
   cases ok with
   | true=>exact aLa (aLa (bG h3 λx s4 h4=>aLa (bG h4 λ_ s5 h5=>aLj (aLj ⟨rfl,h5⟩))))
   | false=>exact aLj ⟨rfl,h3⟩
 exact codeAny_loop rfl I (λn s hI=>wpAny_noted (a7k (body n s hI) (λ_ _ q=>q) λ_ _ q=>q.elim)) n h
def iH (own:Nat) (js:List Nat) (wi:TI) (g:TG) (tc:TT) (te:TE):TE:=λσ H Q=>wi σ H λJ H1=>∀ l,H1 l=none ->
 ∃ W:Nat->Nat->List V->St->Hp->Prop,(∃ m,W 0 m [] (List.replicate own none++js.map λj=>(σ[j]?).join) (upd H1 l (.lst [])))/\∀ i m ys σ' H',W i m ys σ' H' ->
  (J.stop i H'/\Q (.ref l) H')\/(J.go i H'/\∀ x H2,J.jN i H' x H2->g x σ' H2 λσ2 H3=>tc σ2 H3 λb H4 =>
   if b=true then te σ2 H4 λy H5=>H5 l=some (.lst ys)/\ys.length<sizeLine/\∃ m',m'<m/\W (i+1) m' (ys++[y]) σ2 (upd H5 l (.lst (ys++[y])))
   else ∃ m',m'<m/\W (i+1) m' ys σ2 H4)
def qm:TT:=λ_ H Q=>Q true H
structure bY (X:Cx) (scope:Scope) (N:List Str) (own:Nat) (js:List Nat):Prop where
 kind:scope.kind=.function
 cell:∀ y∈scope.names,y.2=.cell->scope.names.lookup y.1=some .cell
 names:∀ y∈scope.names,y.2=.local->scope.names.lookup y.1=some .local
 free:∀ y∈scope.names,y.2=.free->X.env.kindOf y.1=some .cell\/X.env.kindOf y.1=some .free
 len:N.length=own+js.length
 js:∀ k j,js[k]?=some j->N[own+k]?=X.N[j]?
 jf:∀ k x,N[own+k]?=some x->scope.names.lookup x=some .free
theorem Un.but {fs ex:List Addr} {H H':Hp} {h h1 h2:Heap} {C:Addr} (u:Un fs ex H H' h h1) (hc:h.objs.size<=C) (sb:∀ b o,b≠C->h1.get? b=some o->h2.get? b=some o):Un fs ex H H' h h2:=by
 have ne:∀ b o,h.get? b=some o->b≠C:=λb o e=>a0P (aMc (aP5 e) hc)
 refine ⟨λb o q n hb hx=>sb b o (ne b o q) (u.keep b o q n hb hx),λb o q n hb hx=>?_,u.free,λb o q hx=>?_,u.tups,u.gH,u.gR⟩
 .obtain ⟨sl,e⟩:=u.slot b o q n hb hx
  exact ⟨sl,sb b _ (ne b o q) e⟩
 .obtain ⟨o',e⟩:=u.there b o q hx
  exact ⟨o',sb b o' (ne b o q) e⟩
theorem tM:∀ (names:List (Str×NameKind)) (n:Nat) (acc:List (Str×Addr)),cellsFrom n names acc=cellsFrom n names []++acc
 | [],_,_=>rfl
 | (x,k) :: r,n,acc=>by
  unfold cellsFrom
  by_cases hk:(k == NameKind.cell)=true
  .rw [aHZ hk,aHZ hk,tM r (n+1) ((x,n) :: acc),tM r (n+1) [(x,n)],aNV]
   rfl
  .rw [bd2 hk,bd2 hk]
   exact tM r n acc
theorem Ft:∀ (names:List (Str×NameKind)) (n:Nat) (x:Str) (c:Addr),(x,c)∈cellsFrom n names []->(x,NameKind.cell)∈names
 | [],_,_,_,h=>nomatch h
 | (y,k) :: r,n,x,c,h=>by
  unfold cellsFrom at h
  by_cases hk:(k == NameKind.cell)=true
  .rw [aHZ hk,tM] at h
   rcases bbY.mp h with q | q
   .exact akt _ (Ft r _ x c q)
   .have e:(x,c)=(y,n):=by simpa using q
    cases e
    have hk':k=.cell:=by simpa using hk
    subst hk'
    exact aTs
  .rw [bd2 hk] at h
   exact akt _ (Ft r _ x c h)
theorem MO {α:Type}:∀ {l:List (Str×α)} {x:Str} {c:α},(x,c)∈l->∃ d,l.lookup x=some d
 | (y,v) :: r,x,c,h=>by
  rw [aNW]
  cases q:x == y with
  | true=>exact ⟨v,rfl⟩
  | false =>
   rcases aDl.mp h with e | e
   .cases e; simp at q
   .exact MO e
theorem E4:∀ (names:List (Str×NameKind)) (n:Nat) (x:Str),(x,NameKind.cell)∈names->∃ c,(x,c)∈cellsFrom n names []
 | [],_,_,h=>nomatch h
 | (y,k) :: r,n,x,h=>by
  unfold cellsFrom
  rcases aDl.mp h with e | e
  .cases e
   rw [aHZ (show (NameKind.cell == NameKind.cell)=true from rfl),tM]
   exact ⟨n,aaD _ (by simp)⟩
  .by_cases hk:(k == NameKind.cell)=true
   .rw [aHZ hk,tM]
    obtain ⟨c,q⟩:=E4 r (n+1) x e
    exact ⟨c,a3r _ q⟩
   .rw [bd2 hk]
    exact E4 r n x e
theorem MF {α:Type}:∀ (l m:List (Str×α)) (x:Str),(l++m).lookup x=match l.lookup x with | some c=>some c | none=>m.lookup x
 | [],m,x=>rfl
 | (y,v) :: r,m,x=>by
  rw [List.cons_append,aNW,aNW]
  cases x == y with
  | true=>rfl
  | false=>exact MF r m x
theorem WB {M:Model} {A:Around} {E:Value->Shared->Prop} {s:Shared} {scope:Scope} {globals:Addr} {cl:List (Str×Addr)} {qual:Str} {env:Env} {Q:Env->Shared->Prop}
  (h:Q (newEnv scope s.heap.objs.size globals (cellsFrom (s.heap.objs.size+1) scope.names cl) qual none .none (some env) builtinsNs) { s with heap:=pushCells (s.heap.push { cls:=.type "dict",data:=.dict #[] }) scope.names }) :
  wpAny M A (newFunctionEnv scope globals cl [] qual none .none (some env)) Q E s:=by
 simp only [newFunctionEnv,Option.isSome_some,at9]
 refine aLa (wpAny_alloc (aLa (wpAny_layCells _ (λname kind cells=>by cases hkc:kind == NameKind.cell <;> simp [hkc]) _ _ _ _ ?_)))
 rw [show ({ s with heap:=s.heap.push { cls:=.type "dict",data:=.dict #[] } }:Shared).heap.objs.size=s.heap.objs.size+1 from aRI ..]
 rw [List.forIn_nil]
 exact aLa (aLj (aLj h))
structure lF (X:Cx) (scope:Scope) (jH:List (Str×Addr)) (n:Nat) (h':Heap):Prop where
 k1:∀ x c,jH.lookup x=some c->X.env.cells.lookup x=some c\/(n<c/\h'.IsCell c none/\(x,NameKind.cell)∈scope.names)
 k2:∀ x,scope.names.lookup x=some .free->∃ c,jH.lookup x=some c/\X.env.cells.lookup x=some c
 k3:∀ p∈scope.names,p.2=.cell\/p.2=.free->∃ c,jH.lookup p.1=some c
 k4:∀ x y c,jH.lookup x=some c->jH.lookup y=some c->x=y
 k5:∀ x c,scope.names.lookup x=some .cell->jH.lookup x=some c->n<c
section
variable {X:Cx} {scope:Scope} {N:List Str} {own:Nat} {js:List Nat}
theorem Vt {cl:List (Str×Addr)} {n:Nat} {h0:Heap} (c:bY X scope N own js) (gJ:∀ x c,cl.lookup x=some c->X.env.cells.lookup x=some c) (jj:∀ p∈scope.names,p.2=.free->∃ c,cl.lookup p.1=some c)
  (inj:∀ x y c,X.env.cells.lookup x=some c->X.env.cells.lookup y=some c->x=y) (lt:∀ x c,X.env.cells.lookup x=some c->c<n) (hn:h0.objs.size=n+1):lF X scope (cellsFrom (n+1) scope.names cl) n (pushCells h0 scope.names):=by
 have ok:=cellsFrom_ok scope.names h0 (n+1) [] ⟨λ_ _ hm=>(nomatch hm),List.Pairwise.nil⟩ (by rw [hn]; exact avG _)
 rw [hn] at ok
 have two:∀ x,(cellsFrom (n+1) scope.names cl).lookup x=match (cellsFrom (n+1) scope.names []).lookup x with | some c=>some c | none=>cl.lookup x:=λx=>by
  rw [tM,MF]
  cases (cellsFrom (n+1) scope.names []).lookup x <;> rfl
 have own':∀ x d,(cellsFrom (n+1) scope.names []).lookup x=some d->(pushCells h0 scope.names).IsCell d none/\n<d/\(x,NameKind.cell)∈scope.names:=λx d e =>
  ⟨(ok.empty x d (mem_of_lookup e)).1,(ok.empty x d (mem_of_lookup e)).2,Ft _ _ x d (mem_of_lookup e)⟩
 have part:∀ x d,(cellsFrom (n+1) scope.names cl).lookup x=some d->(cellsFrom (n+1) scope.names []).lookup x=some d\/((cellsFrom (n+1) scope.names []).lookup x=none/\cl.lookup x=some d):=λx d e=>by
  rw [two] at e
  cases q:(cellsFrom (n+1) scope.names []).lookup x with
  | some d'=>rw [q] at e; exact .inl e
  | none=>rw [q] at e; exact .inr ⟨rfl,e⟩
 have has:∀ x,(x,NameKind.cell)∈scope.names->∃ d,(cellsFrom (n+1) scope.names []).lookup x=some d:=λx m=>by
  obtain ⟨d,q⟩:=E4 scope.names (n+1) x m
  exact MO q
 refine ⟨λx d e=>?_,λx e=>?_,λp hp hk=>?_,λx y d e1 e2=>?_,λx d e1 e2=>?_⟩
 .rcases part x d e with q | ⟨_,q⟩
  .exact .inr ⟨(own' x d q).2.1,(own' x d q).1,(own' x d q).2.2⟩
  .exact .inl (gJ x d q)
 .obtain ⟨d,q⟩:=jj _ (ZT e) rfl
  have no:(cellsFrom (n+1) scope.names []).lookup x=none:=by
   cases z:(cellsFrom (n+1) scope.names []).lookup x with
   | none=>rfl
   | some d' =>
    have y:=c.cell _ (own' x d' z).2.2 rfl
    rw [show scope.names.lookup x=_ from e] at y
    cases y
  exact ⟨d,by rw [two,no]; exact q,gJ x d q⟩
 .rw [two]
  cases z:(cellsFrom (n+1) scope.names []).lookup p.1 with
  | some d'=>exact ⟨d',rfl⟩
  | none =>
   rcases hk with hk | hk
   .obtain ⟨d,q⟩:=has p.1 (by rw [← hk]; exact hp)
    rw [z] at q; cases q
   .exact jj p hp hk
 .rcases part x d e1 with q1 | ⟨_,q1⟩
  .rcases part y d e2 with q2 | ⟨_,q2⟩
   .exact name_of_addr ok.apart (mem_of_lookup q1) (mem_of_lookup q2)
   .exact absurd (Nat.lt_trans (own' x d q1).2.1 (lt y d (gJ y d q2))) (aU3 _)
  .rcases part y d e2 with q2 | ⟨_,q2⟩
   .exact absurd (Nat.lt_trans (own' y d q2).2.1 (lt x d (gJ x d q1))) (aU3 _)
   .exact inj x y d (gJ x d q1) (gJ y d q2)
 .obtain ⟨d',q⟩:=has x (ZT e1)
  rw [two,q] at e2
  cases e2
  exact (own' x d q).2.1
theorem Vs {pins:List (Addr×Obj)} {σ:St} {H:Hp} {s:Shared} {cl:List (Str×Addr)} {fp:List Addr} {h':Heap} {t':Nat} (c:bY X scope N own js) (I:Inv X pins σ H s) (hf:∀ b∈fp,gK X pins H b)
  (fo:∀ b∈fp,b<s.heap.objs.size)
  (ci:lF X scope cl s.heap.objs.size h')
  (hn:h'.Ns s.heap.objs.size (λ_=>none)) (hk:∀ b o,s.heap.get? b=some o->h'.get? b=some o) :
  Inv (bw X N scope cl s.heap.objs.size s H fp pins) [] (List.replicate own none++js.map λj=>(σ[j]?).join) H { s with heap:=h',toks:=t' }:=by
 have o8:∀ x c,cl.lookup x=some c->c≠s.heap.objs.size:=λx c e=>by
  rcases ci.k1 x c e with q | ⟨q,_⟩
  .obtain ⟨v,q⟩:=I.cell x c q
   exact a0P q.lt
  .exact a3H q
 have ok:(bw X N scope cl s.heap.objs.size s H fp pins).Ok:=by
  refine ⟨I.ok.mod,c.kind,I.ok.glob,I.ok.blt,avG _,ci.k4,λx hx=>?_,λx d z e=>aM8 (ci.k5 x d (aPf.mp (show (scope.names.lookup x == some .cell)=true from z)) e),I.ok.hd,I.ok.frames,.inl rfl,λb hb=>⟨a0P (fo b hb),λx d e=>(ci.k1 x d e).elim (λq=>(hf b hb).2.2.2.2.1 x d q) λq=>a3H (Nat.lt_trans (fo b hb) q.1)⟩,I.bs,
   ajJ I.ok.o9 I.sz,λb o e hb=>?_,λb hb z=>?_,I.stack,I.iW⟩
  .have back:∀ k,(relabel scope X.env).names.lookup x=some k->k=.cell\/k=.free->∃ k',(x,k')∈scope.names/\(k'=NameKind.cell\/k'=NameKind.free):=λk e hk=>by
    obtain ⟨k',e',z⟩:=Wj e
    refine ⟨k',ZT e',?_⟩
    rcases z with z | z
    .subst z; exact hk
    .exact .inr z
   obtain ⟨k',m,hk'⟩:∃ k',(x,k')∈scope.names/\(k'=NameKind.cell\/k'=NameKind.free):=by
    rcases hx with hx | hx
    .exact back _ hx (.inl rfl)
    .exact back _ hx (.inr rfl)
   exact ci.k3 _ m hk'
  .rcases (hf b hb).2.2.2.1 with z | z
   .exact I.ok.nG b o e z
   .exact absurd (aMc (aMc (aP5 e) I.ok.o9) z) (aU3 _)
  .rcases aDl.mp (I.iV b z) with q | q
   .exact (hf b hb).2.1 q
   .exact (hf b hb).2.2.1 q
 refine ⟨ok,rfl,I.bare,Un.kept hk,⟨_,hn,λi x v e1 e2 e3=>?_⟩,λx d e=>?_,I.hok.fresh (avG _),λx d e=>(ci.k1 x d e).elim (λq=>I.cK x d q) λq=>I.hok.fresh (aM8 q.1),λp hp=>?_,I.hok.kept hk,?_⟩
 .-- a name with a value is one that the block closes over
  have hi:own<=i:=by
   by_cases hi:i<own
   .rw [aZu (by simpa using hi),List.getElem?_replicate] at e2
    split at e2 <;> cases e2
   .lia
  obtain ⟨k,rfl⟩:∃ k,i=own+k:=⟨i - own,by lia⟩
  rw [arE (by simp),List.length_replicate,Nat.add_sub_cancel_left,bdd] at e2
  cases q:js[k]? with
  | none=>rw [q] at e2; cases e2
  | some j =>
   rw [q] at e2
   have oh:(σ[j]?).join=some v:=by simpa using e2
   have e4:σ[j]?=some (some v):=by
    cases z:σ[j]? with
    | none=>rw [z] at oh; cases oh
    | some o=>rw [z] at oh; rw [show o=some v from oh]
   have tF:N[own+k]?=some x:=e1
   have Em:X.N[j]?=some x:=(c.js k j q).symm.trans tF
   have hfr:=c.jf k x tF
   have hmem:=ZT hfr
   have hk2:=c.free _ hmem rfl
   have vis:vD X.env.scope x:=by
    rcases hk2 with z | z
    .exact .inr (.inl z)
    .exact .inr (.inr z)
   obtain ⟨m,_,hl⟩:=I.loc
   obtain ⟨u,r,l⟩:=hl j x v Em e4 vis
   refine ⟨u,r,?_⟩
   rcases l with ⟨z,_⟩ | ⟨_,d,e,⟨od,ho,hd⟩⟩
   .rcases hk2 with y | y
    .rw [show X.env.kindOf x=_ from z] at y; cases y
    .rw [show X.env.kindOf x=_ from z] at y; cases y
   .obtain ⟨d',e',z'⟩:=ci.k2 x hfr
    have:d'=d:=by have z:=z'; rw [e] at z; exact (bcC z).symm
    subst this
    refine .inr ⟨?_,d',e',⟨od,hk _ _ ho,hd⟩⟩
    rcases WY (scope:=scope) (env:=X.env) hfr with z | ⟨_,z⟩
    .exact .inr z
    .exact .inl z
 .rcases ci.k1 x d e with q | ⟨_,q,_⟩
  .obtain ⟨v,⟨o,ho,hd⟩⟩:=I.cell x d q
   exact ⟨v,o,hk _ _ ho,hd⟩
  .exact ⟨none,q⟩
 .have sM:p∈X.pn++pins:=by
   have z:p∈(X.pn++pins)++[]:=hp
   rwa [aOr] at z
  obtain ⟨a1,a2,a3,a4,a5⟩:=I.pin p sM
  refine ⟨hk _ _ a1,a2,a0P (aP5 a1),λz=>?_,a5⟩
  rcases aDl.mp (I.iV p.1 z) with q | q
  .exact a3 q
  .exact a4 q
 .show _=N.length
  rw [c.len]; simp
theorem ME {pins:List (Addr×Obj)} {σ:St} {H:Hp} {s:Shared} {elt target iter:PySem.Expr} {ifs:List PySem.Expr} {pos:Pos} {it:Addr} {fp:List Addr} {tn:Nat->Heap->Prop} {J:It} {cl:List (Str×Addr)} {g:TG} {tc:TT} {te:TE} {E:Value->Shared->Prop} {Q:VK}
  {RR:Value->Addr->Result->Shared->Prop}
  (c:bY X scope N own js) (hc:X.calm=true) (I:Inv X pins σ H s) (T:Turn X.prog X.w X.K target J fp it tn) (st:tn 0 s.heap) (hf:∀ b∈fp,gK X pins H b)
  (gJ:∀ x c,cl.lookup x=some c->X.env.cells.lookup x=some c) (jj:∀ p∈scope.names,p.2=.free->∃ c,cl.lookup p.1=some c)
  (hg:∀ cl C s0 H0 fp pins,PG (bw X N scope cl C s0 H0 fp pins) target g)
  (ht:∀ cl C s0 H0 fp pins bM s σ H Q,Inv (bw X N scope cl C s0 H0 fp pins) bM σ H s->tc σ H Q->wpAny (model X.prog X.w) X.A (forIn ifs true λc r=>if r=true then do let ok ← isTrue c (compEnvC scope cl C X.env) (eval c (compEnvC scope cl C X.env)); pure (ForInStep.yield ok) else pure (ForInStep.yield r))
   (TP (bw X N scope cl C s0 H0 fp pins) bM σ Q) (λ_ _=>False) s)
  (he:∀ cl C s0 H0 fp pins,PE (bw X N scope cl C s0 H0 fp pins) elt te)
  (h:∀ l,H l=none->∃ W:Nat->Nat->List V->St->Hp->Prop,(∃ m,W 0 m [] (List.replicate own none++js.map λj=>(σ[j]?).join) (upd H l (.lst [])))/\∀ i m ys σ' H',W i m ys σ' H' ->
   (J.stop i H'/\Q (.ref l) H')\/(J.go i H'/\∀ x H2,J.jN i H' x H2->g x σ' H2 λσ2 H3=>tc σ2 H3 λb H4 =>
    if b=true then te σ2 H4 λy H5=>H5 l=some (.lst ys)/\ys.length<sizeLine/\∃ m',m'<m/\W (i+1) m' (ys++[y]) σ2 (upd H5 l (.lst (ys++[y])))
    else ∃ m',m'<m/\W (i+1) m' ys σ2 H4))
  (hRR:∀ l C H' s' m',s.heap.objs.size<=C->s'.heap.Ns C m'->H' C=none->C≠X.env.locals->C∉X.fs->(∀ h2,Heap.SameBut C s'.heap h2->Inv X pins σ H' { s' with heap:=h2 })->Q (.ref l) H'->RR (.ref l) C (.ok .next) s') :
  wpAny (model X.prog X.w) X.A (newList []) (λacc s3=>wpAny (model X.prog X.w) X.A (newFunctionEnv scope X.env.globals cl [] X.env.qual none .none (some X.env)) (λcenv s4 =>
   codeAny (model X.prog X.w) X.A (.compStart (.ListComp elt [⟨target,iter,ifs,0⟩] scope pos) 0 (.ref it) acc { cenv with scope:=relabel scope X.env }) (RR acc cenv.locals) s4) E s3) E s:=by
 have I2:Inv X pins σ (upd H s.heap.objs.size (.lst [])) { s with heap:=s.heap.push { cls:=.type "list",dict:=none,data:=.seq ([]:List Value).toArray },toks:=s.toks }:=I.sy (ys:=[]) .nil (auX _)
 obtain ⟨W,⟨m0,w0⟩,turn⟩:=h s.heap.objs.size I.fresh
 refine aol (WB ?_)
 dsimp only
 generalize hS:({ s with heap:=s.heap.push { cls:=.type "list",dict:=none,data:=.seq ([]:List Value).toArray },toks:=s.toks }:Shared)=s2 at I2
 have e2:s2.heap=s.heap.push { cls:=.type "list",dict:=none,data:=.seq ([]:List Value).toArray }:=by rw [← hS]
 have Ic:s2.heap.objs.size=s.heap.objs.size+1:=by rw [e2,aRI]
 rw [← e2]
 have ci:=Vt (h0:=s2.heap.push { cls:=.type "dict",data:=.dict #[] }) (n:=s2.heap.objs.size) c gJ jj I2.ok.inj (λx d e=>by obtain ⟨v,q⟩:=I2.cell x d e; exact q.lt) (aRI ..)
 have qQ:(pushCells (s2.heap.push { cls:=.type "dict",data:=.dict #[] }) scope.names).Ns s2.heap.objs.size (λ_=>none):=(Heap.Ns.new s2.heap (.type "dict")).keeps (pushCells_keeps _ _)
 have old:∀ b o,s2.heap.get? b=some o->(pushCells (s2.heap.push { cls:=.type "dict",data:=.dict #[] }) scope.names).get? b=some o:=λb o e=>pushCells_keeps _ _ b o (aBk _ e)
 generalize pushCells (s2.heap.push { cls:=.type "dict",data:=.dict #[] }) scope.names=h1 at ci qQ old ⊢
 generalize hcl:cellsFrom (s2.heap.objs.size+1) scope.names cl=jH at ci ⊢
 have nM:∀ b,b∈fp->b<s.heap.objs.size:=λb hb=>by
  obtain ⟨o,e,_⟩:=T.obj 0 _ st b hb
  exact aP5 e
 have hf2:∀ b∈fp,gK X pins (upd H s.heap.objs.size (.lst [])) b:=λb hb=>⟨by rw [Ze (a0P (nM b hb))]; exact (hf b hb).1,(hf b hb).2⟩
 have sf:∀ b∈fp,b<s2.heap.objs.size:=λb hb=>by rw [Ic]; exact awZ (nM b hb)
 have st2:tn 0 s2.heap:=T.keep 0 _ _ st λb _ o e=>by rw [e2]; exact aBk _ e
 have I4:=Vs (t':=s.toks) c I2 hf2 sf ci qQ old
 have cB:tn 0 h1:=T.keep 0 _ _ st2 λb _ o e=>old b o e
 have es:({ s2 with heap:=h1,toks:=s.toks }:Shared)={ s with heap:=h1,toks:=s.toks }:=by rw [← hS]
 rw [es] at I4
 generalize Px:({ s with heap:=h1,toks:=s.toks }:Shared)=s4 at I4
 have wj:tn 0 s4.heap:=by rw [← Px]; exact cB
 have loop:codeAny (model X.prog X.w) X.A (.compLoop (.ListComp elt [⟨target,iter,ifs,0⟩] scope pos) 0 (.ref it) (.ref s.heap.objs.size) (compEnvC scope jH s2.heap.objs.size X.env)) (RR (.ref s.heap.objs.size) s2.heap.objs.size) s4:=by
  refine U5 (λn s'=>∃ i ys σ' H',Inv (bw X N scope jH s2.heap.objs.size s2 (upd H s.heap.objs.size (.lst [])) fp pins) [] σ' H' s'/\tn i s'.heap/\(∀ b∈fp,H' b=none)/\W i n ys σ' H') ?_ m0
   ⟨0,[],_,_,I4,wj,λb hb=>(hf2 b hb).1,w0⟩
  rintro n s5 ⟨i,ys,σ5,H5,I5,pF,Ax,w5⟩
  have jT:∀ {H':Hp} {s':Shared} {σ':St},Inv (bw X N scope jH s2.heap.objs.size s2 (upd H s.heap.objs.size (.lst [])) fp pins) [] σ' H' s'->(∀ b∈fp,H' b=none)->∀ b∈fp,gK (bw X N scope jH s2.heap.objs.size s2 (upd H s.heap.objs.size (.lst [])) fp pins) [] H' b:=λJ' hn b hb =>
   ⟨hn b hb,(J'.ok.Ay b hb).1,J'.ok.n8 b hb,.inl hb,(J'.ok.Ay b hb).2,λp hp z=>by
    have sM:p∈X.pn++pins:=by
     have q:p∈(X.pn++pins)++[]:=hp
     rwa [aOr] at q
    exact (hf b hb).2.2.2.2.2 p sM z⟩
  rcases turn i n ys σ5 H5 w5 with ⟨stop,q⟩ | ⟨go,step⟩
  .refine a7k (T.done (bw X N scope jH s2.heap.objs.size s2 (upd H s.heap.objs.size (.lst [])) fp pins) rfl rfl rfl hc i [] s5 σ5 H5 (λ_ _=>False) I5 (jT I5 Ax) pF stop) (λr s6 ⟨hr,I6⟩=>?_) λ_ _ z=>z
   subst hr
   obtain ⟨m',hn',_⟩:=I6.loc
   have hC:s.heap.objs.size<=s2.heap.objs.size:=by rw [Ic]; exact aa0 _
   refine hRR _ _ H5 s6 m' hC hn' I6.free ?_ ?_ (λh2 sb=>?_) q
   .exact a3H I2.lt
   .exact I2.xh (avG _)
   .have u:Un (frs X.stack) fp (upd H s.heap.objs.size (.lst [])) H5 s2.heap h2:=I6.base.but (avG _) sb.extBut
    have z6:H5 s2.heap.objs.size=none:=I6.free
    have hok:dz X.prog X.w H5 h2:=λb ob e=>(I6.hok b ob e).stay (λd w' hd z=>sb.extBut d w' (by
     rintro rfl
     rcases hd with rfl | hd
     .rw [z6] at e; cases e
     .rw [z6] at hd; cases hd) z) (λ_ z=>z) λ_ _ z=>z
    have J:=I2.yp (s':={ s6 with heap:=h2 }) (ch:=fp) (by show s6.os=s2.os; exact I6.os) u hok I6.bare λb hb=>⟨(hf b hb).2.2.2.1,(hf b hb).2.1,(hf b hb).2.2.2.2.1,(hf b hb).2.2.2.2.2⟩
    exact J
  .refine a7k (T.item (bw X N scope jH s2.heap.objs.size s2 (upd H s.heap.objs.size (.lst [])) fp pins) rfl rfl rfl hc i [] s5 σ5 H5 (λ_ _=>False) I5 (jT I5 Ax) pF go) (λr s6 ⟨u,hr,h6⟩=>?_) λ_ _ z=>z
   subst hr
   refine a7k h6 (λ_ s7 ⟨x,H7,I7,r7,y7,CU,Qo⟩=>?_) λ_ _ z=>z
   have W0:=I7.pinned (jT I7 Qo) (T.obj _ _ CU)
   refine a7k (hg _ _ _ _ _ _ _ s7 σ5 H7 x u _ W0 r7 (step x H7 y7)) (λ_ s8 ⟨σ8,H8,I8,q8⟩=>?_) λ_ _ z=>z
   refine a7k (ht _ _ _ _ _ _ _ s8 σ8 H8 _ I8 q8) (λb s9 ⟨H9,I9,q9⟩=>?_) λ_ _ z=>z
   have fin:∀ {s':Shared} {H':Hp} {m':Nat} {ys':List V},Inv (bw X N scope jH s2.heap.objs.size s2 (upd H s.heap.objs.size (.lst [])) fp pins) ([]++yx fp s7.heap) σ8 H' s'->m'<n->W (i+1) m' ys' σ8 H' ->
     ∃ m,m<n/\∃ i ys σ' H',Inv (bw X N scope jH s2.heap.objs.size s2 (upd H s.heap.objs.size (.lst [])) fp pins) [] σ' H' s'/\tn i s'.heap/\(∀ b∈fp,H' b=none)/\W i m ys σ' H':=λ{s' H' m' ys'} J' hm w'=>by
    refine ⟨m',hm,i+1,ys',σ8,H',J'.ff,T.keep _ _ _ CU λb hb o e=>(J'.pin (b,o) (aaD _ (aaD _ (BE hb e)))).1,λb hb=>?_,w'⟩
    obtain ⟨o,e,d⟩:=T.obj _ _ CU b hb
    exact (J'.pin (b,o) (aaD _ (aaD _ (BE hb e)))).2.1
   cases b with
   | false =>
    rw [bd2 aCK] at q9 ⊢
    obtain ⟨m',hm,w'⟩:=q9
    exact fin I9 hm w'
   | true =>
    rw [aHZ rfl] at q9 ⊢
    refine a7k (he _ _ _ _ _ _ _ s9 σ8 H9 _ I9 q9) (λy Oa ⟨z,BY,W4,z9,el,ez,m',hm,w'⟩=>?_) λ_ _ z=>z
    refine a7k (ZB (X:=bw X N scope jH s2.heap.objs.size s2 (upd H s.heap.objs.size (.lst [])) fp pins) _ Oa σ8 BY (.ref s.heap.objs.size) [z] _ [y] (λ_ H'=>H'=upd BY s.heap.objs.size (.lst (ys++[z]))) W4 rfl (.cons z9 .nil) ⟨_,_,_,rfl,rfl,el,ez,rfl⟩) (λ_ wG ⟨_,W8,W3,_,Qz⟩=>?_) λ_ _ z=>z
    subst Qz
    exact fin W3 hm w'
 have fin:codeAny (model X.prog X.w) X.A (.compStart (.ListComp elt [⟨target,iter,ifs,0⟩] scope pos) 0 (.ref it) (.ref s.heap.objs.size) (compEnvC scope jH s2.heap.objs.size X.env)) (RR (.ref s.heap.objs.size) s2.heap.objs.size) s4 :=
  codeAny_compStart_list loop (T.self X.A 0 s4 _ _ wj loop)
 exact fin
theorem LD {elt target iter:PySem.Expr} {ifs:List PySem.Expr} {pos:Pos} {wi:TI} {g:TG} {tc:TT} {te:TE} (c:bY X scope N own js) (hc:X.calm=true) (hi:PI X target iter wi)
  (hg:∀ cl C s0 H0 fp pins,PG (bw X N scope cl C s0 H0 fp pins) target g)
  (ht:∀ cl C s0 H0 fp pins bM s σ H Q,Inv (bw X N scope cl C s0 H0 fp pins) bM σ H s->tc σ H Q->wpAny (model X.prog X.w) X.A (forIn ifs true λc r=>if r=true then do let ok ← isTrue c (compEnvC scope cl C X.env) (eval c (compEnvC scope cl C X.env)); pure (ForInStep.yield ok) else pure (ForInStep.yield r))
   (TP (bw X N scope cl C s0 H0 fp pins) bM σ Q) (λ_ _=>False) s)
  (he:∀ cl C s0 H0 fp pins,PE (bw X N scope cl C s0 H0 fp pins) elt te)
  (hs:∀ x,foldedSetIterable iter X.env x=pure x:=by intro _; rfl):PE X (.ListComp elt [⟨target,iter,ifs,0⟩] scope pos) (iH own js wi g tc te):=by
 intro pins s σ H Q I h
 obtain ⟨cl,e1,gJ,_,jj⟩:=zc (env:=X.env) scope.names [] (λp hp hf=>I.ok.has _ (c.free p hp hf)) (λx d e=>by simp at e)
 have hclos:closureFor scope X.env=pure cl:=by
  unfold closureFor
  refine (arH (λz=>z >>= λcs=>pure cs) e1).trans ?_
  rfl
 rw [eval_ListComp]
 refine wpAny_comprehension_free (use:=none) rfl hs hclos c.kind c.names (a7k (hi pins s σ H _ I h) (λx s1 h1=>a7k h1 (λitv s2 h2=>?_) λ_ _ e=>e) λ_ _ e=>e)
 obtain ⟨it,fp,tn,J,H2,e,I2,T,st2,f2,q⟩:=h2
 subst e
 refine ME (Q:=Q) (RR:=λacc C=>compPost (model X.prog X.w) X.A X.xe none (EP X pins σ Q) acc C) c hc I2 T st2 f2 gJ jj hg ht he q ?_
 intro l C H' s' m' hC hn hf hL hfs hI hq
 exact ⟨m',hn,λh2 sb=>⟨.ref l,H',hI h2 sb,rfl,hq⟩⟩
theorem LC {elt target iter:PySem.Expr} {ifs:List PySem.Expr} {pos pos' spos:Pos} {y:Str} {k:Nat} {wi:TI} {g:TG} {tc:TT} {te:TE} (c:bY X scope N own js) (hc:X.calm=true) (hN:X.N.Nodup) (hk:X.N[k]?=some y) (hy:X.env.scope.names.lookup y=some .local) (hi:PI X target iter wi)
  (hg:∀ cl C s0 H0 fp pins,PG (bw X N scope cl C s0 H0 fp pins) target g)
  (ht:∀ cl C s0 H0 fp pins bM s σ H Q,Inv (bw X N scope cl C s0 H0 fp pins) bM σ H s->tc σ H Q->wpAny (model X.prog X.w) X.A (forIn ifs true λc r=>if r=true then do let ok ← isTrue c (compEnvC scope cl C X.env) (eval c (compEnvC scope cl C X.env)); pure (ForInStep.yield ok) else pure (ForInStep.yield r))
   (TP (bw X N scope cl C s0 H0 fp pins) bM σ Q) (λ_ _=>False) s)
  (he:∀ cl C s0 H0 fp pins,PE (bw X N scope cl C s0 H0 fp pins) elt te)
  (hs:∀ x,foldedSetIterable iter X.env x=pure x:=by intro _; rfl)
  (hsw:swapsWith (.ListComp elt [⟨target,iter,ifs,0⟩] scope pos) (some (.Name y pos')) spos.line X.env=pure true:=by rfl):PS X (.Assign [.Name y pos'] (.ListComp elt [⟨target,iter,ifs,0⟩] scope pos) spos) (jS (iH own js wi g tc te) (bT k)):=by
 intro pins s σ H D I h
 obtain ⟨cl,e1,gJ,_,jj⟩:=zc (env:=X.env) scope.names [] (λp hp hf=>I.ok.has _ (c.free p hp hf)) (λx d e=>by simp at e)
 have hclos:closureFor scope X.env=pure cl:=by
  unfold closureFor
  refine (arH (λz=>z >>= λcs=>pure cs) e1).trans ?_
  rfl
 rw [exec_Assign_Name_used _ _ _ _ hsw]
 refine aLa (a5C (aLa ?_))
 show wpAny _ X.A (do let _ ← comprehension (.ListComp elt [⟨target,iter,ifs,0⟩] scope pos) scope X.env _ (newList []) false (eval iter X.env) (some (assign (.Name y pos') X.env))) _ _ s
 refine aLa (a7k (wpAny_comprehension_free (use:=some (assign (.Name y pos') X.env)) (Q:=λ_ s'=>SP X pins D .next s') rfl hs hclos c.kind c.names
  (a7k (hi pins s σ H _ I h) (λxv s1 h1=>a7k h1 (λit s2 h2=>?_) λ_ _ e=>e) λ_ _ e=>e)) (λ_ s' hq=>aLj (aLj hq)) λ_ _ e=>e)
 obtain ⟨it,fp,tn,J,H2,e,I2,T,st2,f2,q⟩:=h2
 subst e
 refine ME (Q:=λx H1=>bT k x σ H1 D.nx) (RR:=λacc C=>compPost (model X.prog X.w) X.A X.xe (some (assign (.Name y pos') X.env)) (λ_ s'=>SP X pins D .next s') acc C) c hc I2 T st2 f2 gJ jj hg ht he q ?_
 intro l C H' s' m' hC hn hf hL hfs hI hq
 have J0:=hI s'.heap (Heap.SameBut.refl ..)
 show wpAny _ X.A (assign (.Name y pos') X.env (.ref l)) _ _ _
 have J1:Inv X pins σ H' s':=J0
 refine wpAny_assign_Name (Ml (v:=.ref l) J1 hN hk (.inl hy) rfl (λs'' MW Al=>?_) (.inr hy))
 obtain ⟨a,sb,ha⟩:=Al
 have hne:C≠a:=by
  rcases ha with rfl | ha
  .exact hL
  .rintro rfl
   obtain ⟨v,⟨o,ho,hd⟩⟩:=J1.cell y C ha
   obtain ⟨o',es,ep,ho',hd',_⟩:=hn
   rw [ho] at ho'; cases ho'
   rw [hd] at hd'; cases hd'
 refine ⟨m',hn.sameBut sb hne,λh2 uw=>?_⟩
 have hok:dz X.prog X.w H' h2:=λb ob e=>(MW.hok b ob e).stay (λd w' hd z=>uw.extBut d w' (by
  rintro rfl
  rcases hd with rfl | hd
  .rw [hf] at e; cases e
  .rw [hf] at hd; cases hd) z) (λ_ z=>z) λ_ _ z=>z
 have o8:∀ x d,X.env.cells.lookup x=some d->d≠C:=λx d e z=>by
  subst z
  obtain ⟨v,⟨o,ho,hd⟩⟩:=J1.cell x d e
  obtain ⟨o',es,ep,ho',hd',_⟩:=hn
  rw [ho] at ho'; cases ho'
  rw [hd] at hd'; cases hd'
 have PB:∀ p∈X.pn++pins,p.1≠C:=λp hp z=>by
  have a1:=(I2.pin p hp).1
  exact absurd (aMc (aP5 a1) (by rw [z]; exact hC)) (aU3 _)
 have fin:Inv X pins (σ.set k (some (.ref l))) H' { s'' with heap:=h2 }:=MW.turned (t':=s''.toks) (it:=C) (λb o hb e=>uw.extBut b o hb e) hf hL (.inr (ajJ I2.sz hC)) o8 PB
 exact ⟨_,H',fin,hq⟩
theorem oG {elt target iter:PySem.Expr} {pos:Pos} {wi:TI} {g:TG} {te:TE} (c:bY X scope N own js) (hc:X.calm=true) (hi:PI X target iter wi)
  (hg:∀ cl C s0 H0 fp pins,PG (bw X N scope cl C s0 H0 fp pins) target g) (he:∀ cl C s0 H0 fp pins,PE (bw X N scope cl C s0 H0 fp pins) elt te)
  (hs:∀ x,foldedSetIterable iter X.env x=pure x:=by intro _; rfl):PE X (.ListComp elt [⟨target,iter,[],0⟩] scope pos) (iH own js wi g qm te) :=
 LD c hc hi hg (λcl C s0 H0 fp pins bM s σ H Q I h=>wpAny_tests_nil ⟨H,I,h⟩) he hs
theorem BD {elt target iter ur:PySem.Expr} {pos:Pos} {wi:TI} {g:TG} {tc:TT} {te:TE} (c:bY X scope N own js) (hc:X.calm=true) (hi:PI X target iter wi)
  (hg:∀ cl C s0 H0 fp pins,PG (bw X N scope cl C s0 H0 fp pins) target g) (ht:∀ cl C s0 H0 fp pins,PT (bw X N scope cl C s0 H0 fp pins) ur tc) (he:∀ cl C s0 H0 fp pins,PE (bw X N scope cl C s0 H0 fp pins) elt te)
  (hs:∀ x,foldedSetIterable iter X.env x=pure x:=by intro _; rfl):PE X (.ListComp elt [⟨target,iter,[ur],0⟩] scope pos) (iH own js wi g tc te) :=
 LD c hc hi hg (λcl C s0 H0 fp pins bM s σ H Q I h=>wpAny_tests_one (ht cl C s0 H0 fp pins bM s σ H Q I h)) he hs
theorem vz {elt target iter:PySem.Expr} {pos pos' spos:Pos} {y:Str} (k:Nat) {wi:TI} {g:TG} {te:TE} (c:bY X scope N own js) (hc:X.calm=true) (hN:X.N.Nodup) (hk:X.N[k]?=some y) (hy:X.env.scope.names.lookup y=some .local) (hi:PI X target iter wi)
  (hg:∀ cl C s0 H0 fp pins,PG (bw X N scope cl C s0 H0 fp pins) target g) (he:∀ cl C s0 H0 fp pins,PE (bw X N scope cl C s0 H0 fp pins) elt te)
  (hs:∀ x,foldedSetIterable iter X.env x=pure x:=by intro _; rfl)
  (hsw:swapsWith (.ListComp elt [⟨target,iter,[],0⟩] scope pos) (some (.Name y pos')) spos.line X.env=pure true:=by rfl):PS X (.Assign [.Name y pos'] (.ListComp elt [⟨target,iter,[],0⟩] scope pos) spos) (jS (iH own js wi g qm te) (bT k)) :=
 LC c hc hN hk hy hi hg (λcl C s0 H0 fp pins bM s σ H Q I h=>wpAny_tests_nil ⟨H,I,h⟩) he hs hsw
theorem LB {elt target iter ur:PySem.Expr} {pos pos' spos:Pos} {y:Str} (k:Nat) {wi:TI} {g:TG} {tc:TT} {te:TE} (c:bY X scope N own js) (hc:X.calm=true) (hN:X.N.Nodup) (hk:X.N[k]?=some y) (hy:X.env.scope.names.lookup y=some .local) (hi:PI X target iter wi)
  (hg:∀ cl C s0 H0 fp pins,PG (bw X N scope cl C s0 H0 fp pins) target g) (ht:∀ cl C s0 H0 fp pins,PT (bw X N scope cl C s0 H0 fp pins) ur tc) (he:∀ cl C s0 H0 fp pins,PE (bw X N scope cl C s0 H0 fp pins) elt te)
  (hs:∀ x,foldedSetIterable iter X.env x=pure x:=by intro _; rfl)
  (hsw:swapsWith (.ListComp elt [⟨target,iter,[ur],0⟩] scope pos) (some (.Name y pos')) spos.line X.env=pure true:=by rfl):PS X (.Assign [.Name y pos'] (.ListComp elt [⟨target,iter,[ur],0⟩] scope pos) spos) (jS (iH own js wi g tc te) (bT k)) :=
 LC c hc hN hk hy hi hg (λcl C s0 H0 fp pins bM s σ H Q I h=>wpAny_tests_one (ht cl C s0 H0 fp pins bM s σ H Q I h)) he hs hsw
end
section
variable {X:Cx} {pins:List (Addr×Obj)} {σ:St} {H:Hp} {s:Shared}
theorem dz.w4 {P:Program} {w:World} {h h':Heap} {ch:List Addr} (hok:dz P w H h) (hn:∀ b∈ch,H b=none) (k:∀ b o,b∉ch->h.get? b=some o->h'.get? b=some o):dz P w H h':=λb ob e =>
 (hok b ob e).stay (λd u hd z=>k d u (λm=>by
  rcases hd with rfl | hd
  .rw [hn _ m] at e; cases e
  .rw [hn _ m] at hd; cases hd) z) (λ_ z=>z) λ_ _ z=>z
theorem Inv.gQ {ch:List Addr} {h':Heap} {t':Nat} (I:Inv X pins σ H s) (hch:∀ b∈ch,gK X pins H b) (k:∀ b o,b∉ch->s.heap.get? b=some o->h'.get? b=some o) :
  Inv X pins σ H { s with heap:=h',toks:=t' }:=by
 have u:Un (frs X.stack) ch H H s.heap h':=⟨λb o q _ _ hx=>k b o hx q,λb o q _ _ hx=>⟨o.slots,k b o hx q⟩,λ_ _ _ n _=>n,λb o q hx=>⟨o,k b o hx q⟩,λ_ _ q=>q,λ_ _ _ q=>q,λ_ _ _ q=>q⟩
 exact I.call (g':=s.gens) (d':=s.drawn) (t':=t') u (I.hok.w4 (λb hb=>(hch b hb).1) k) I.bare λb hb=>⟨(hch b hb).2.2.2.1,(hch b hb).2.1,(hch b hb).2.2.2.2.1,(hch b hb).2.2.2.2.2⟩
theorem Inv.j0 {ch:List Addr} {h':Heap} {t':Nat} {o:HO} (I:Inv X pins σ H s) (hch:∀ b∈ch,gK X pins H b) (k:∀ b o,b∉ch->s.heap.get? b=some o->h'.get? b=some o)
  (new:aJ X.prog X.w (upd H s.heap.objs.size o) h' s.heap.objs.size o):Inv X pins σ (upd H s.heap.objs.size o) { s with heap:=h',toks:=t' }:=by
 have fr:H s.heap.objs.size=none:=I.hok.fresh (avG _)
 have ne:∀ b ob,s.heap.get? b=some ob->b≠s.heap.objs.size:=λb ob e=>a0P (aP5 e)
 have nt:∀ b ob,H b=some ob->b≠s.heap.objs.size:=λb ob e=>Zb e fr
 have u:Un (frs X.stack) ch H (upd H s.heap.objs.size o) s.heap h':=⟨λb o q _ _ hx=>k b o hx q,λb o q _ _ hx=>⟨o.slots,k b o hx q⟩,λb ob q n _=>by rw [Ze (ne b ob q)]; exact n,λb o q hx=>⟨o,k b o hx q⟩,
  λb xs q=>by rw [Ze (nt b _ q)]; exact q,λb ob xs q=>by rw [Ze (nt b _ q)]; exact q,λb _ _ q=>by rw [Ze (nt b _ q)]; exact q⟩
 have hok:dz X.prog X.w (upd H s.heap.objs.size o) h':=λb ob e=>by
  by_cases hb:b=s.heap.objs.size
  .subst hb
   rw [Za] at e; cases e
   exact new
  .rw [Ze hb] at e
   refine (I.hok b ob e).stay (λd u hd z=>k d u (λm=>?_) z) (λd z=>by rw [Ze (nt d _ z)]; exact z) (λd xs z=>by rw [Ze (nt d _ z)]; exact z) λd oz z=>by rw [Ze (nt d _ z)]; exact z
   have hn:=(hch d m).1
   rcases hd with rfl | hd
   .rw [hn] at e; cases e
   .rw [hn] at hd; cases hd
 exact I.call (g':=s.gens) (d':=s.drawn) (t':=t') u hok I.bare λb hb=>⟨(hch b hb).2.2.2.1,(hch b hb).2.1,(hch b hb).2.2.2.2.1,(hch b hb).2.2.2.2.2⟩
end
theorem iZ {a b:Nat} (h:a<b\/b<a):@Ne Addr a b:=λe=>by
 have e':a=b:=e
 lia
theorem Gs (n l1 l2:Nat) (h1:l1<n) (h2:l2<n):ZipApart (n+4) (n+2) (n+3) n (n+1) l1 l2 :=
 ⟨iZ (by lia),iZ (by lia),iZ (by lia),iZ (by lia),iZ (by lia),iZ (by lia),iZ (by lia),iZ (by lia),iZ (by lia),iZ (by lia),iZ (by lia),iZ (by lia),iZ (by lia),iZ (by lia),iZ (by lia),iZ (by lia),iZ (by lia),iZ (by lia)⟩
def qh (K:W.Frag) (a b:Addr):It :=
 ⟨λi H=>∃ xs ys x y,ak K H a xs/\ak K H b ys/\xs[i]?=some x/\ys[i]?=some y,
 λi H v H'=>∃ t x y,H t=none/\v=.ref t/\H'=upd H t (.tup [x,y])/\(∀ xs,ak K H a xs->xs[i]?=some x)/\∀ ys,ak K H b ys->ys[i]?=some y,
 λi H=>∃ xs ys,ak K H a xs/\ak K H b ys/\(xs.length<=i\/ys.length<=i)⟩
theorem BC {h:Heap} {it l:Addr} {i:Nat} (x:h.IsListIter it l i):∃ o,h.get? it=some o/\∀ v,o.data≠.cell v:=by
 obtain ⟨o,e,c,d⟩:=x
 exact ⟨o,e,λv z=>by rw [d] at z; cases z⟩
theorem LA {P:Program} {w:World} {K:W.Frag} {elts:List PySem.Expr} {x1} {pos:Pos} (z TI TO i1 i2 a b:Addr) (D:ZipApart z TI TO i1 i2 a b) :
  Turn P w K (.Tuple elts x1 pos) (qh K a b) [z,TI,TO,i1,i2] z (λi h=>IsZip h z TI TO .none/\IsPair h TI (.ref i1) (.ref i2)/\(∃ u v,IsPair h TO u v)/\h.IsListIter i1 a i/\h.IsListIter i2 b i) where
 mem:=by simp
 obj:=λi h st c hc=>by
  obtain ⟨hz,hTI,⟨u,v,hTO⟩,h1,h2⟩:=st
  simp only [apQ,atr,a4q] at hc
  rcases hc with rfl | rfl | rfl | rfl | rfl
  .exact ⟨_,hz,λv e=>by cases e⟩
  .exact ⟨_,hTI,λv e=>by cases e⟩
  .exact ⟨_,hTO,λv e=>by cases e⟩
  .exact BC h1
  .exact BC h2
 keep:=λi h h' st k=>by
  obtain ⟨hz,hTI,⟨u,v,hTO⟩,h1,h2⟩:=st
  exact ⟨k z (by simp) _ hz,k TI (by simp) _ hTI,⟨u,v,k TO (by simp) _ hTO⟩,h1.at λo e=>k i1 (by simp) o e,h2.at λo e=>k i2 (by simp) o e⟩
 item:=by
  intro X hP hw hK hc i pins s σ H E I hf st hg
  subst hP hw hK
  obtain ⟨xs,ys,x,y,j5,j4,hx,hy⟩:=hg
  obtain ⟨hz,hTI,⟨u0,v0,hTO⟩,h1,h2⟩:=st
  obtain ⟨g9,ra,pa,za⟩:=I.list j5
  obtain ⟨iE,rb,pb,zb⟩:=I.list j4
  obtain ⟨ux,hux,C4⟩:=ra.get hx
  obtain ⟨uy,D4,C3⟩:=rb.get hy
  refine wpAny_pyNext_zip_item D hz hTI hTO h1 h2 pa.isList pb.isList (x:=ux) (y:=uy) (by simpa using hux) (by simpa using D4) λh' a1 a2 a3 a4 a5 a6 a7=>?_
  refine ⟨.ref s.heap.objs.size,rfl,?_⟩
  refine wpAny_letOwnedTupleGo_zip a1 λh2' hz' hs'=>?_
  have nR:z<s.heap.objs.size:=aP5 hz
  have kk:∀ c o,c∉[z,TI,TO,i1,i2]->s.heap.get? c=some o->h2'.get? c=some o:=λc o hc e=>by
   simp only [apQ,atr,a4q,not_or] at hc
   exact hs'.extBut c o hc.1 (a7 c o hc.1 hc.2.2.1 hc.2.2.2.1 hc.2.2.2.2 e)
  have tp:h2'.get? s.heap.objs.size=some { cls:=.type "tuple",data:=.seq #[ux,uy] }:=hs'.extBut _ _ (a3H nR) a5
  have I1:Inv X pins σ (upd H s.heap.objs.size (.tup [x,y])) { s with heap:=h2',toks:=s.toks } :=
   I.j0 hf kk ⟨by show 2<=sizeLine; decide,[ux,uy],.cons C4 (.cons C3 .nil),⟨_,tp,rfl,_,rfl⟩⟩
  have HB:h2'.get? TI=s.heap.get? TI:=by
   rw [hTI]
   exact hs'.extBut _ _ D.TIz (a7 _ _ D.TIz D.TITO D.TIi1 D.TIi2 hTI)
  refine ⟨.ref s.heap.objs.size,_,I1,rfl,⟨s.heap.objs.size,x,y,I.hok.fresh (avG _),rfl,rfl,λxs' h=>by rw [I.fG h j5]; exact hx,λys' h=>by rw [I.fG h j4]; exact hy⟩,⟨hz',?_,⟨ux,uy,hs'.extBut _ _ D.TOz a2⟩,a3.at λo e=>hs'.extBut _ o D.i1z e,a4.at λo e=>hs'.extBut _ o D.i2z e⟩,λc hc=>?_⟩
  .show h2'.get? TI=_
   rw [HB]; exact hTI
  .have hc':=hc
   have hlt:c<s.heap.objs.size:=by
    simp only [apQ,atr,a4q] at hc'
    rcases hc' with rfl | rfl | rfl | rfl | rfl
    .exact nR
    .exact aP5 hTI
    .exact aP5 hTO
    .obtain ⟨o,e,_⟩:=BC h1; exact aP5 e
    .obtain ⟨o,e,_⟩:=BC h2; exact aP5 e
   rw [Ze (a0P hlt)]
   exact (hf c hc).1
 done:=by
  intro X hP hw hK hc i pins s σ H E I hf st hg
  subst hP hw hK
  obtain ⟨xs,ys,j5,j4,hend⟩:=hg
  obtain ⟨hz,hTI,⟨u0,v0,hTO⟩,h1,h2⟩:=st
  obtain ⟨g9,ra,pa,za⟩:=I.list j5
  obtain ⟨iE,rb,pb,zb⟩:=I.list j4
  have la:=ra.length
  have lb:=rb.length
  refine wpAny_pyNext_zip_end (I.ok.hd hc) D hz hTI hTO h1 h2 pa.isList pb.isList ?_ λh' hk=>⟨rfl,?_⟩
  .rcases hend with q | q
   .exact .inl (by simp; lia)
   .exact .inr (by simp; lia)
  .refine I.gQ (t':=s.toks) hf λc o hc e=>?_
   simp only [apQ,atr,a4q,not_or] at hc
   exact hk c o hc.1 hc.2.2.1 hc.2.2.2.1 hc.2.2.2.2 e
 self:=λ_ _ _ _ _ st h=>aKR st.1 h
def DW (K:W.Frag) (ta:TA):TI:=λσ H R=>ta σ H λvs H1=>∃ a b,vs=[.ref a,.ref b]/\(∃ xs,ak K H1 a xs)/\(∃ ys,ak K H1 b ys)/\R (qh K a b) H1
section
variable {X:Cx}
theorem Lz:bootBuiltins "zip" = some (.type "zip"):=by first | rfl | decide +kernel | kernel_rfl
theorem WR:bootBuiltins "enumerate" = some (.type "enumerate"):=by first | rfl | decide +kernel | kernel_rfl
theorem JM {elts:List PySem.Expr} {x1} {tpos:Pos} {a b:PySem.Expr} {ta:TA} {p pos:Pos} (hg:Gl X "zip") (hm:X.mg "zip" = none) (ha:PA X [a,b] ta) (hs:starEach [a,b] X.env=[(false,eval a X.env),(false,eval b X.env)]:=by rfl) (hs2:starEach [b] X.env=[(false,eval b X.env)]:=by rfl) :
  PI X (.Tuple elts x1 tpos) (.Call (.Name "zip" p) [a,b] [] pos) (DW X.K ta):=by
 intro pins s σ H R I h
 refine Call_ (pA I hg hm Lz (aZK (lH (ha pos pins s σ H _ I h) λus s1 vs H1 I1 r1 q1=>?_) (by rw [hs,hs2]) (by rw [hs2]; rfl)))
 obtain ⟨l1,l2,e,⟨xs,j5⟩,⟨ys,j4⟩,q⟩:=q1
 subst e
 obtain ⟨v1,v2,rfl,r,r'⟩:=vals2 r1
 cases r
 cases r'
 obtain ⟨g9,ra,pa,za⟩:=I1.list j5
 obtain ⟨iE,rb,pb,zb⟩:=I1.list j4
 have nM:l1<s1.heap.objs.size:=by obtain ⟨o,e,_⟩:=pa.isList; exact aP5 e
 have sf:l2<s1.heap.objs.size:=by obtain ⟨o,e,_⟩:=pb.isList; exact aP5 e
 refine call_zip_2 pa.isList pb.isList λh' g5 g3 g4 g1 g2 hsz kp=>aKR g5 ?_
 refine ⟨_,[_,_,_,_,_],_,_,H1,rfl,I1.kept (t':=s1.toks) kp,LA _ _ _ _ _ l1 l2 (Gs s1.heap.objs.size l1 l2 nM sf),⟨g5,g3,⟨_,_,g4⟩,g1,g2⟩,λc hc=>?_,q⟩
 have hc':s1.heap.objs.size<=c:=by
  simp only [apQ,atr,a4q] at hc
  rcases hc with rfl | rfl | rfl | rfl | rfl <;> first | exact avG _ | exact Nat.le_add_right _ _
 exact I1.ja hc' (I1.hok.fresh hc')
def rJ (K:W.Frag) (a:Addr):It :=
 ⟨λi H=>∃ xs x,ak K H a xs/\xs[i]?=some x,
 λi H v H'=>∃ t x,H t=none/\v=.ref t/\H'=upd H t (.tup [.int i,x])/\∀ xs,ak K H a xs->xs[i]?=some x,
 λi H=>∃ xs,ak K H a xs/\xs.length=i⟩
theorem U4 {P:Program} {w:World} {K:W.Frag} {elts:List PySem.Expr} {x1} {pos:Pos} (e it a:Addr) (hei:e≠it) (Qc:a≠e) (hai:a≠it) :
  Turn P w K (.Tuple elts x1 pos) (rJ K a) [e,it] e (λi h=>(∃ old,IsEnum h e it i old)/\h.IsListIter it a i) where
 mem:=by simp
 obj:=λi h st c hc=>by
  obtain ⟨⟨old,he⟩,h1⟩:=st
  simp only [apQ,atr,a4q] at hc
  rcases hc with rfl | rfl
  .exact ⟨_,he,λv z=>by cases z⟩
  .obtain ⟨o,q,c,d⟩:=h1; exact ⟨o,q,λv z=>by rw [d] at z; cases z⟩
 keep:=λi h h' st k=>by
  obtain ⟨⟨old,he⟩,h1⟩:=st
  exact ⟨⟨old,k e (by simp) _ he⟩,h1.at λo q=>k it (by simp) o q⟩
 item:=by
  intro X hP hw hK hc i pins s σ H E I hf st hg
  subst hP hw hK
  obtain ⟨xs,x,hq,hx⟩:=hg
  obtain ⟨⟨old,he⟩,h1⟩:=st
  obtain ⟨its,rv,p,hz⟩:=I.list hq
  obtain ⟨u,hu,ru⟩:=rv.get hx
  have hlt:i<its.toArray.size:=by
   have:=(aWj.mp hu).1
   simpa using this
  refine wpAny_pyNext_enum_itemD (Draws.list (A:=X.A.in1) (show X.A.in1.handled=none from I.ok.hd hc) it a hai its.toArray) he ⟨h1,p.isList⟩ hlt hei (by simp [hei,aay Qc]) λv h' tk hP ho hs' hT hsz hk=>?_
  have lY:v=u:=by
   have z:its[i]?=some v:=by simpa using hP
   rw [hu] at z; exact (bcC z).symm
  subst lY
  refine ⟨.ref s.heap.objs.size,rfl,?_⟩
  refine wpAny_letOwnedTupleGo_enum ho λh2 PV uw=>?_
  have helt:e<s.heap.objs.size:=aP5 he
  have kk:∀ c o,c∉[e,it]->s.heap.get? c=some o->h2.get? c=some o:=λc o hc q=>by
   simp only [apQ,atr,a4q,not_or] at hc
   exact (uw.2 c hc.1).trans (hk c o hc.1 hc.2 q)
  have tp:h2.get? s.heap.objs.size=some { cls:=.type "tuple",data:=.seq #[.int i tk,v] }:=(uw.2 _ (a3H helt)).trans hT
  have I1:Inv X pins σ (upd H s.heap.objs.size (.tup [.int i,x])) { s with heap:=h2,toks:=tk+1 } :=
   I.j0 hf kk ⟨by show 2<=sizeLine; decide,[.int i tk,v],.cons ⟨tk,rfl⟩ (.cons ru .nil),⟨_,tp,rfl,_,rfl⟩⟩
  refine ⟨.ref s.heap.objs.size,_,I1,rfl,⟨s.heap.objs.size,x,I.hok.fresh (avG _),rfl,rfl,λys hy=>by rw [I.fG hy hq]; exact hx⟩,⟨⟨v,by simpa using PV⟩,hs'.1.at λo q=>(uw.2 _ (aay hei)).trans q⟩,λc hc=>?_⟩
  have hlt':c<s.heap.objs.size:=by
   simp only [apQ,atr,a4q] at hc
   rcases hc with rfl | rfl
   .exact helt
   .obtain ⟨o,q,_⟩:=h1; exact aP5 q
  rw [Ze (a0P hlt')]
  exact (hf c hc).1
 done:=by
  intro X hP hw hK hc i pins s σ H E I hf st hg
  subst hP hw hK
  obtain ⟨xs,hq,hx⟩:=hg
  obtain ⟨⟨old,he⟩,h1⟩:=st
  obtain ⟨its,rv,p,hz⟩:=I.list hq
  have hl:=rv.length
  have ei:i=its.toArray.size:=by simp; lia
  subst ei
  refine wpAny_pyNext_enum_endD (Draws.list (A:=X.A.in1) (show X.A.in1.handled=none from I.ok.hd hc) it a hai its.toArray) he ⟨h1,p.isList⟩ λh' hx'=>⟨rfl,?_⟩
  refine I.gQ (t':=s.toks) hf λc o hc q=>?_
  simp only [apQ,atr,a4q,not_or] at hc
  exact hx' c o hc.2 q
 self:=λ_ _ _ _ _ st h=>by
  obtain ⟨⟨old,he⟩,_⟩:=st
  exact wpAny_pyIter_enum he h
def xN (K:W.Frag) (ta:TA):TI:=λσ H R=>ta σ H λvs H1=>∃ a,vs=[.ref a]/\(∃ xs,ak K H1 a xs)/\R (rJ K a) H1
theorem Fq {elts:List PySem.Expr} {x1} {tpos:Pos} {a:PySem.Expr} {ta:TA} {p pos:Pos} (hg:Gl X "enumerate") (hm:X.mg "enumerate" = none) (ha:PA X [a] ta) (hs:starEach [a] X.env=[(false,eval a X.env)]:=by rfl) :
  PI X (.Tuple elts x1 tpos) (.Call (.Name "enumerate" p) [a] [] pos) (xN X.K ta):=by
 intro pins s σ H R I h
 refine Call_ (pA I hg hm WR (aZK (lH (ha pos pins s σ H _ I h) λus s1 vs H1 I1 r1 q1=>?_) hs rfl))
 obtain ⟨l,e,⟨xs,hq⟩,q⟩:=q1
 subst e
 cases r1 with
 | cons r rr =>
  cases rr
  cases r
  obtain ⟨its,rv,pl,hz⟩:=I1.list hq
  have nM:l<s1.heap.objs.size:=by obtain ⟨o,e,_⟩:=pl.isList; exact aP5 e
  refine call_enumerate_list pl.isList λh' he hi hsz hk=>?_
  refine wpAny_pyIter_enum he ?_
  refine ⟨s1.heap.objs.size+1,[s1.heap.objs.size+1,s1.heap.objs.size],_,_,H1,rfl,I1.kept (t':=s1.toks) hk,U4 (s1.heap.objs.size+1) s1.heap.objs.size l (Nat.succ_ne_self _) (iZ (.inl (awZ nM))) (a0P nM),⟨⟨_,he⟩,hi⟩,λc hc=>?_,q⟩
  have hc':s1.heap.objs.size<=c:=by
   simp only [apQ,atr,a4q] at hc
   rcases hc with rfl | rfl <;> lia
  exact I1.ja hc' (I1.hok.fresh hc')
end
def kE (H:Hp):V->Option String
 | .aX=>some "NoneType"
 | .bl _=>some "bool"
 | .int _=>some "int"
 | .str _=>some "str"
 | .ref a=>match H a with
  | some (.lst _)=>some "list"
  | some (.bC _ (.lst _))=>some "list"
  | some (.tup _)=>some "tuple"
  | some (.dK _)=>some "dict"
  | some (.dT _)=>some "dict"
  | _=>none
 | _=>none
theorem JL {K:W.Frag} {H:Hp} {x:V} {t:String} (h:kE H x=some t):fV K H x (.type t):=by
 cases x with
 | aX=>cases h; exact .aX
 | bl b=>cases h; exact .bl b
 | int i=>cases h; exact .int i
 | str z=>cases h; exact .str z
 | ref a =>
  simp only [kE] at h
  split at h
  .rename_i e; cases h; exact .lst e
  .rename_i e; cases h; exact .bC e
  .rename_i e; cases h; exact .tup e
  .rename_i e; cases h; exact .dK e
  .rename_i e; cases h; exact .dT e
  .cases h
 | _=>cases h
def gS (t c:String):Bool:=t == c || (t == "bool" && c == "int")
def AI:List String:=["NoneType", "bool", "int", "str", "list", "tuple", "dict"]
def tL:List String:=["bool", "int", "str", "list", "tuple", "dict"]
theorem Gr (K:W.Frag):∀ t∈AI,∀ c∈tL,W.kitOne K (.type t) (.type c)=some (gS t c):=by
 intro t ht c hc
 simp only [AI,apQ,atr,a4q] at ht
 simp only [tL,apQ,atr,a4q] at hc
 rcases ht with rfl | rfl | rfl | rfl | rfl | rfl | rfl <;> rcases hc with rfl | rfl | rfl | rfl | rfl | rfl <;> rfl
theorem My {H:Hp} {x:V} {t:String} (h:kE H x=some t):t∈AI:=by
 cases x with
 | aX=>cases h; decide
 | bl b=>cases h; decide
 | int i=>cases h; decide
 | str z=>cases h; decide
 | ref a =>
  simp only [kE] at h
  split at h <;> first | (cases h; decide) | cases h
 | _=>cases h
section
variable {X:Cx}
def C7:List V->Hp->VK->Prop:=λxs H Q=>∃ x t c,xs=[x,.ty c]/\kE H x=some t/\c∈tL/\Q (.bl (gS t c)) H
theorem mO:aW X (.builtin "isinstance") C7:=by
 intro pins s σ H xs us Q I r h
 obtain ⟨x,t,c,rfl,ht,hc,q⟩:=h
 obtain ⟨u,w',rfl,rx,rc⟩:=vals2 r
 cases rc
 exact VJ I rx (JL ht) (Gr X.K t (My ht) c hc) λtk=>⟨.bl _,H,I.tok tk,rfl,q⟩
def wN:List V->Hp->VK->Prop:=λxs H Q=>∃ x t c d p,xs=[x,.ref p]/\H p=some (.tup [.ty c,.ty d])/\kE H x=some t/\c∈tL/\d∈tL/\Q (.bl (gS t c || gS t d)) H
theorem TJ (K:W.Frag) {t c d:String} (ht:t∈AI) (hc:c∈tL) (hd:d∈tL):W.kitAny K (.type t) [.type c,.type d]=some (gS t c || gS t d):=by
 unfold W.kitAny
 rw [Gr K t ht c hc]
 cases gS t c with
 | true=>rfl
 | false =>
  show W.kitAny K (.type t) [.type d]=some (gS t d)
  unfold W.kitAny
  rw [Gr K t ht d hd]
  cases gS t d <;> rfl
theorem Mx:aW X (.builtin "isinstance") wN:=by
 intro pins s σ H xs us Q I r h
 obtain ⟨x,t,c,d,p,rfl,hp,ht,hc,hd,q⟩:=h
 obtain ⟨u,w',rfl,rx,rc⟩:=vals2 r
 cases rc
 obtain ⟨_,its,rv,⟨o,ho,hcl,n,hdt⟩⟩:=(show aJ X.prog X.w H s.heap p (.tup [.ty c,.ty d]) from I.hok p _ hp)
 obtain ⟨u1,u2,rfl,r1,r2⟩:=vals2 rv
 cases r1
 cases r2
 have e:=TJ X.K (My ht) hc hd
 have fin:∀ tk,EP X pins σ Q (.bool (gS t c || gS t d)) { s with toks:=tk }:=λtk=>⟨.bl _,H,I.tok tk,rfl,q⟩
 have htp:s.heap.get? p=some ⟨.type "tuple",o.dict,.seq [Value.type c,Value.type d].toArray n,o.slots⟩:=by
  rw [ho]
  obtain ⟨oc,od,Xr,osl⟩:=o
  cases hcl; cases hdt
  rfl
 have ty:=JL (K:=X.K) ht
 generalize hT:Value.type t=T at ty e
 cases ty with
 | aX=>cases (show u=Value.none from rx); exact aj7 W.kitx_none I.dN True.intro htp e (λz=>nomatch z) fin
 | bl y=>cases (show u=Value.bool y from rx); exact aj7 W.kitx_bool I.dN True.intro htp e (λz=>nomatch z) fin
 | int i=>obtain ⟨t,q⟩:=(show ∃ t,u=Value.int i t from rx); cases q; exact aj7 W.kitx_int I.dN True.intro htp e (λz=>nomatch z) fin
 | str y=>obtain ⟨t,q⟩:=(show ∃ t,u=Value.str y t from rx); cases q; exact aj7 W.kitx_str I.dN True.intro htp e (λz=>nomatch z) fin
 | pX y=>obtain ⟨t,q⟩:=(show ∃ t,u=Value.float y t from rx); cases q; exact aj7 W.kitx_float I.dN True.intro htp e (λz=>nomatch z) fin
 | @lst a xs ea =>
  cases (show u=Value.ref a from rx)
  obtain ⟨_,_,n,_,h1⟩:=(show aJ X.prog X.w H s.heap a (.lst xs) from I.hok a _ ea)
  exact aj7 W.kitx_list I.dN ⟨_,h1,rfl⟩ htp e (λz=>nomatch z) fin
 | @bC a ob xs ea =>
  cases (show u=Value.ref a from rx)
  obtain ⟨_,_,_,n,_,h1⟩:=(show aJ X.prog X.w H s.heap a (.bC ob (.lst xs)) from I.hok a _ ea)
  exact aj7 W.kitx_list I.dN ⟨_,h1,rfl⟩ htp e (λz=>nomatch z) fin
 | @tup a xs ea =>
  cases (show u=Value.ref a from rx)
  obtain ⟨_,_,_,p⟩:=(show aJ X.prog X.w H s.heap a (.tup xs) from I.hok a _ ea)
  obtain ⟨o,h1,h2,_⟩:=p
  exact aj7 W.kitx_tuple I.dN ⟨o,h1,h2⟩ htp e (λz=>nomatch z) fin
 | @dK a kvs ea =>
  cases (show u=Value.ref a from rx)
  obtain ⟨_,_,vs,_,p⟩:=(show aJ X.prog X.w H s.heap a (.dK kvs) from I.hok a _ ea)
  obtain ⟨o,es,ep,h1,h2,_⟩:=p
  exact aj7 W.kitx_dict I.dN ⟨o,h1,h2.1⟩ htp e (λz=>nomatch z) fin
 | @dT a kvs ea =>
  cases (show u=Value.ref a from rx)
  obtain ⟨_,_,xs,_,o,es,ep,h1,h2,_⟩:=(show aJ X.prog X.w H s.heap a (.dT kvs) from I.hok a _ ea)
  exact aj7 W.kitx_dict I.dN ⟨o,h1,h2.1⟩ htp e (λz=>nomatch z) fin
 | ins e'=>cases hT
theorem ZO:bootBuiltins "isinstance" = some (.builtin "isinstance"):=by first | rfl | decide +kernel | kernel_rfl
theorem FZ:bootBuiltins "all" = some (.builtin "all"):=by first | rfl | decide +kernel | kernel_rfl
theorem Ly:bootBuiltins "any" = some (.builtin "any"):=by first | rfl | decide +kernel | kernel_rfl
theorem TH:bootBuiltins "sum" = some (.builtin "sum"):=by first | rfl | decide +kernel | kernel_rfl
theorem FY:bootBuiltins "max" = some (.builtin "max"):=by first | rfl | decide +kernel | kernel_rfl
theorem Lx:bootBuiltins "min" = some (.builtin "min"):=by first | rfl | decide +kernel | kernel_rfl
theorem Lw:bootBuiltins "abs" = some (.builtin "abs"):=by first | rfl | decide +kernel | kernel_rfl
theorem V3:bootBuiltins "divmod" = some (.builtin "divmod"):=by first | rfl | decide +kernel | kernel_rfl
theorem Bo:bootBuiltins "int" = some (.type "int"):=by first | rfl | decide +kernel | kernel_rfl
theorem GG:bootBuiltins "bool" = some (.type "bool"):=by first | rfl | decide +kernel | kernel_rfl
theorem Gq:bootBuiltins "str" = some (.type "str"):=by first | rfl | decide +kernel | kernel_rfl
theorem ZU:bootBuiltins "list" = some (.type "list"):=by first | rfl | decide +kernel | kernel_rfl
theorem MJ:bootBuiltins "tuple" = some (.type "tuple"):=by first | rfl | decide +kernel | kernel_rfl
theorem Gp:∀ {bs:List Bool} {its:List Value},Vals (bs.map V.bl) its->its=bs.map Value.bool
 | [],_,.nil=>rfl
 | b :: bs,_,.cons r t=>by rw [Gp t]; cases r; rfl
theorem MD {bs:List Bool} (f:Nat->Bool) (hf:∀ i b,bs[i]?=some b->f i=b):(List.range bs.length).map f=bs:=by
 apply aNj
 intro i
 rw [bdd]
 by_cases h:i<bs.length
 .rw [aEb h,a8w h]
  simp only [aGg]
  rw [hf i _ (a8w h)]
 .rw [aAl (by simpa using h),aAl (by lia)]; rfl
theorem Gn (hc:X.calm=true):aW X (.builtin "all") (λxs H Q=>∃ (p:Addr) (bs:List Bool),xs=[.ref p]/\ak X.K H p (bs.map V.bl)/\Q (.bl (bs.all id)) H):=by
 intro pins s σ H xs us Q I r h
 obtain ⟨p,bs,rfl,hq,q⟩:=h
 obtain ⟨u,rfl,rx⟩:=vals1 r
 cases rx
 obtain ⟨its,rv,pl,hz⟩:=I.list hq
 have e:=Gp rv
 subst e
 refine call_all_walk (aQ6 pl.isList ?_)
 refine ⟨s.heap.objs.size,_,[s.heap.objs.size],_,_,_,λi=>bs.getD i true,rfl,Walks.list (A:=X.A.in1) (show X.A.in1.handled=none from I.ok.hd hc) s.heap.objs.size p ?_ (bs.map Value.bool).toArray,⟨⟨_,aJ2 _ rfl,rfl,rfl⟩,pl.isList.at λo e=>aBk _ e⟩,?_,?_⟩
 .obtain ⟨o,e,_⟩:=pl.isList; exact a0P (aP5 e)
 .intro i v s' Q' E' hP hQ
  have lY:(bs.map Value.bool)[i]?=some v:=by simpa using hP
  rw [bdd] at lY
  cases z:bs[i]? with
  | none=>rw [z] at lY; cases lY
  | some b =>
   rw [z] at lY
   cases lY
   have:bs.getD i true=b:=by rw [aeu,z]; rfl
   have xZ:Q' (bs.getD i true) s':=hQ
   rw [this] at xZ
   exact aT6 xZ
 .intro h' tk hk
  refine ⟨.bl (bs.all id),H,I.kept (t':=tk) (λb o e=>hk b o (by simpa using a0P (aP5 e)) (aBk _ e)),?_,q⟩
  have z:(List.range bs.length).map (λi=>bs.getD i true)=bs:=MD _ λi b e=>by rw [aeu,e]; rfl
  have z2:(List.range bs.length).all (λi=>bs.getD i true)=bs.all id:=by
   conv=>rhs; rw [← z]
   rw [List.all_map]; rfl
  show Value.bool _=Value.bool _
  have z3:(bs.map Value.bool).toArray.size=bs.length:=by simp
  rw [z3,z2]
end
structure Def (P:Program) (w:World) (K:W.Frag) (mg:Str->Option Value) (base:Heap) (x:Str) (k:Nat) (ps:List Str) (sp:Sp):Prop where
 ex:∃ (f:Addr) (fd:FuncData),aD P w K mg base bB k f fd ps sp/\mg x=some (.ref f)/\W.keepIn K (.ref f)=true/\Binds K fd ps []
section
variable {X:Cx} {x:Str} {p pos:Pos} {e:PySem.Expr} {es:List PySem.Expr} {t:TA} {k:Nat} {ps:List Str} {sp:Sp}
theorem Q5 (D:Def X.prog X.w X.K X.mg X.base x k ps sp) (hr:aZ k X.A) (hg:Gl X x) (ha:PA X (e :: es) t)
  (he:starEach (e :: es) X.env=(false,eval e X.env) :: starEach es X.env:=by rfl) (hpl:(backTo pos (starEach es X.env)).any (·.1)=false:=by rfl) (hd:(x == ("__debug__" : Str))=false:=by decide) :
  PE X (.Call (.Name x p) (e :: es) [] pos) (mW sp [] E0 t):=by
 obtain ⟨f,fd,F,hm,hk,hb⟩:=D.ex
 exact Sd F hr hg hm hk hb .nil nE ha (hdb:=hd) (he:=he) (hpl:=hpl)
end
theorem kh {X:Cx} {K:W.Frag} {es:List PySem.Expr} {k:Nat} {t:rD} {n:Nat} {pos:Pos} (hK:X.K=K) (hc:X.calm=true) (h:zj X es t)
  (hn:(assignEach es X.env).length=n:=by rfl) (hst:(assignEach es X.env).findIdx? (·.1)=none:=by rfl):PG X (.Tuple es k pos) (yb K n t):=by
 subst hK
 exact Rj hc h hn hst
def ou (cj:Scope) (oN:List Str) (scope:Scope) (N:List Str) (own:Nat) (js:List Nat):Bool :=
 scope.kind == .function && scope.names.all (λy=>y.2 != .cell || scope.names.lookup y.1 == some .cell) && scope.names.all (λy=>y.2 != .local || scope.names.lookup y.1 == some .local) &&
 scope.names.all (λy=>y.2 != .free || (cj.names.lookup y.1 == some .cell || cj.names.lookup y.1 == some .free)) && N.length == own+js.length &&
 (js.map λj=>oN[j]?) == (N.drop own).map some && (N.drop own).all λx=>scope.names.lookup x == some .free
theorem Zv {X:Cx} {cj:Scope} {oN:List Str} {scope:Scope} {N:List Str} {own:Nat} {js:List Nat} (h:ou cj oN scope N own js=true) (hs:X.env.scope=cj) (hN:X.N=oN):bY X scope N own js:=by
 unfold ou at h
 simp only [asO,aY4,aCI,aPf,bne_iff_ne,ne_eq] at h
 obtain ⟨⟨⟨⟨⟨⟨h1,h2⟩,h3⟩,h4⟩,h5⟩,h6⟩,h7⟩:=h
 refine ⟨h1,λy hy hl=>?_,λy hy hl=>?_,λy hy hf=>?_,h5,λk j e=>?_,λk x e=>?_⟩
 .rcases h2 y hy with q | q
  .exact absurd hl q
  .exact q
 .rcases h3 y hy with q | q
  .exact absurd hl q
  .exact q
 .rcases h4 y hy with q | q
  .exact absurd hf q
  .show X.env.scope.names.lookup y.1=_\/X.env.scope.names.lookup y.1=_
   rw [hs]; exact q
 .rw [hN]
  have z:=arH (λl=>l[k]?) h6
  simp only [bdd,e,aGg,getElem?_drop] at z
  cases q:N[own+k]? with
  | none=>rw [q] at z; cases z
  | some y=>rw [q] at z; exact (bcC z).symm
 .refine h7 x ?_
  exact aVV (i:=k) (by rw [getElem?_drop]; exact e)
def SB (b:Addr) (H H':Hp):Prop:=∀ a o,a≠b->H a=some o->H' a=some o
theorem SB.trans {b:Addr} {H H1 H2:Hp} (x:SB b H H1) (y:SB b H1 H2):SB b H H2:=λa o n h=>y a o n (x a o n h)
theorem aq.sb {H H':Hp} (x:aq H H') (b:Addr):SB b H H':=λa o _ h=>x a o h
theorem ve (b:Addr) (H:Hp) (o:HO):SB b H (upd H b o):=λa u n h=>by rw [Ze n]; exact h
theorem Zf {H:Hp} {p:Addr} (h:H p=none) (o:HO):aq H (upd H p o):=λb u q=>by rw [Ze (Zb q h)]; exact q
def dU (n:Nat) (l:Addr) (Pv:Nat->List V->St->Hp->Prop) (i:Nat) (ys:List V) (σ:St) (y:V) (H:Hp):Prop :=
 H l=some (.lst ys)/\ys.length<sizeLine/\∃ m',m'<n - i/\(m'=n - (i+1)/\i+1<=n/\(ys++[y]).length<=i+1/\Pv (i+1) (ys++[y]) σ (upd H l (.lst (ys++[y]))))
def kD (n:Nat) (Pv:Nat->List V->St->Hp->Prop) (i:Nat) (ys:List V) (σ:St) (H:Hp):Prop:=∃ m',m'<n - i/\(m'=n - (i+1)/\i+1<=n/\ys.length<=i+1/\Pv (i+1) ys σ H)
theorem dU.of {n:Nat} {l:Addr} {Pv:Nat->List V->St->Hp->Prop} {i:Nat} {ys:List V} {σ:St} {y:V} {H:Hp} (hn:n<=sizeLine) (hi:i<n) (hy:ys.length<=i) (h1:H l=some (.lst ys)) (h2:Pv (i+1) (ys++[y]) σ (upd H l (.lst (ys++[y])))):dU n l Pv i ys σ y H :=
 ⟨h1,by lia,n - (i+1),by lia,rfl,hi,by rw [aIt,af9]; lia,h2⟩
theorem kD.of {n:Nat} {Pv:Nat->List V->St->Hp->Prop} {i:Nat} {ys:List V} {σ:St} {H:Hp} (hi:i<n) (hy:ys.length<=i) (h2:Pv (i+1) ys σ H):kD n Pv i ys σ H :=
 ⟨n - (i+1),by lia,rfl,hi,by lia,h2⟩
theorem tZ {lo:Int} {n:Nat} {l:Addr} {g:TG} {tc:TT} {te:TE} {σ0:St} {H0:Hp} {Qf:Hp->Prop} (Pv:Nat->List V->St->Hp->Prop) (h0:Pv 0 [] σ0 H0)
  (hs:∀ i ys σ' H',i<n->ys.length<=i->Pv i ys σ' H'->g (.int (lo+i)) σ' H' λσ2 H3=>tc σ2 H3 λb H4=>if b=true then te σ2 H4 λy H5=>dU n l Pv i ys σ2 y H5 else kD n Pv i ys σ2 H4)
  (hd:∀ ys σ' H',ys.length<=n->Pv n ys σ' H'->Qf H') :
  ∃ W:Nat->Nat->List V->St->Hp->Prop,(∃ m,W 0 m [] σ0 H0)/\∀ i m ys σ' H',W i m ys σ' H' ->
  ((qi lo n).stop i H'/\Qf H')\/((qi lo n).go i H'/\∀ x H2,(qi lo n).jN i H' x H2->g x σ' H2 λσ2 H3=>tc σ2 H3 λb H4 =>
    if b=true then te σ2 H4 λy H5=>H5 l=some (.lst ys)/\ys.length<sizeLine/\∃ m',m'<m/\W (i+1) m' (ys++[y]) σ2 (upd H5 l (.lst (ys++[y])))
    else ∃ m',m'<m/\W (i+1) m' ys σ2 H4):=by
 refine ⟨λi m ys σ' H'=>m=n - i/\i<=n/\ys.length<=i/\Pv i ys σ' H',⟨n,rfl,auX _,avG _,h0⟩,?_⟩
 rintro i m ys σ' H' ⟨rfl,hi,hy,p⟩
 by_cases hlt:i<n
 .refine .inr ⟨hlt,λx H2 q=>?_⟩
  obtain ⟨rfl,rfl⟩:=q
  exact hs i ys σ' _ hlt hy p
 .have e:i=n:=by lia
  subst e
  exact .inl ⟨avG _,hd ys σ' H' hy p⟩
theorem ZH {K:W.Frag} {a:Addr} {xs:List V} {l:Addr} {g:TG} {tc:TT} {te:TE} {σ0:St} {H0:Hp} {Qf:Hp->Prop} (Pv:Nat->List V->St->Hp->Prop) (h0:Pv 0 [] σ0 H0)
  (hl:∀ i ys σ' H',i<=xs.length->Pv i ys σ' H'->ak K H' a xs)
  (hs:∀ i x ys σ' H',i<xs.length->xs[i]?=some x->ys.length<=i->Pv i ys σ' H'->g x σ' H' λσ2 H3=>tc σ2 H3 λb H4=>if b=true then te σ2 H4 λy H5=>dU xs.length l Pv i ys σ2 y H5 else kD xs.length Pv i ys σ2 H4)
  (hd:∀ ys σ' H',ys.length<=xs.length->Pv xs.length ys σ' H'->Qf H') :
  ∃ W:Nat->Nat->List V->St->Hp->Prop,(∃ m,W 0 m [] σ0 H0)/\∀ i m ys σ' H',W i m ys σ' H' ->
  ((rH K a).stop i H'/\Qf H')\/((rH K a).go i H'/\∀ x H2,(rH K a).jN i H' x H2->g x σ' H2 λσ2 H3=>tc σ2 H3 λb H4 =>
    if b=true then te σ2 H4 λy H5=>H5 l=some (.lst ys)/\ys.length<sizeLine/\∃ m',m'<m/\W (i+1) m' (ys++[y]) σ2 (upd H5 l (.lst (ys++[y])))
    else ∃ m',m'<m/\W (i+1) m' ys σ2 H4):=by
 refine ⟨λi m ys σ' H'=>m=xs.length - i/\i<=xs.length/\ys.length<=i/\Pv i ys σ' H',⟨xs.length,rfl,auX _,avG _,h0⟩,?_⟩
 rintro i m ys σ' H' ⟨rfl,hi,hy,p⟩
 have q:=hl i ys σ' H' hi p
 by_cases hlt:i<xs.length
 .refine .inr ⟨⟨xs,xs[i],q,by simp [hlt]⟩,λx H2 z=>?_⟩
  obtain ⟨rfl,z⟩:=z
  exact hs i x ys σ' _ hlt (z xs q) hy p
 .have e:i=xs.length:=by lia
  subst e
  exact .inl ⟨⟨xs,q,avG _⟩,hd ys σ' H' hy p⟩
theorem TF {K:W.Frag} {a b:Addr} {xs zs:List V} {l:Addr} {g:TG} {tc:TT} {te:TE} {σ0:St} {H0:Hp} {Qf:Hp->Prop} (hlen:xs.length=zs.length) (Pv:Nat->List V->St->Hp->Prop) (h0:Pv 0 [] σ0 H0)
  (hl:∀ i ys σ' H',i<=xs.length->Pv i ys σ' H'->ak K H' a xs/\ak K H' b zs)
  (hs:∀ i x z t ys σ' H',i<xs.length->xs[i]?=some x->zs[i]?=some z->ys.length<=i->Pv i ys σ' H'->H' t=none->g (.ref t) σ' (upd H' t (.tup [x,z])) λσ2 H3=>tc σ2 H3 λb H4=>if b=true then te σ2 H4 λy H5=>dU xs.length l Pv i ys σ2 y H5 else kD xs.length Pv i ys σ2 H4)
  (hd:∀ ys σ' H',ys.length<=xs.length->Pv xs.length ys σ' H'->Qf H') :
  ∃ W:Nat->Nat->List V->St->Hp->Prop,(∃ m,W 0 m [] σ0 H0)/\∀ i m ys σ' H',W i m ys σ' H' ->
  ((qh K a b).stop i H'/\Qf H')\/((qh K a b).go i H'/\∀ x H2,(qh K a b).jN i H' x H2->g x σ' H2 λσ2 H3=>tc σ2 H3 λb H4 =>
    if b=true then te σ2 H4 λy H5=>H5 l=some (.lst ys)/\ys.length<sizeLine/\∃ m',m'<m/\W (i+1) m' (ys++[y]) σ2 (upd H5 l (.lst (ys++[y])))
    else ∃ m',m'<m/\W (i+1) m' ys σ2 H4):=by
 refine ⟨λi m ys σ' H'=>m=xs.length - i/\i<=xs.length/\ys.length<=i/\Pv i ys σ' H',⟨xs.length,rfl,auX _,avG _,h0⟩,?_⟩
 rintro i m ys σ' H' ⟨rfl,hi,hy,p⟩
 have q:=hl i ys σ' H' hi p
 by_cases hlt:i<xs.length
 .have hz:i<zs.length:=by lia
  refine .inr ⟨⟨xs,zs,xs[i],zs[i],q.1,q.2,by simp [hlt],by simp [hz]⟩,λx H2 z=>?_⟩
  obtain ⟨t,u,v,ht,rfl,rfl,z1,z2⟩:=z
  exact hs i u v t ys σ' _ hlt (z1 xs q.1) (z2 zs q.2) hy p ht
 .have e:i=xs.length:=by lia
  subst e
  exact .inl ⟨⟨xs,zs,q.1,q.2,.inl (avG _)⟩,hd ys σ' H' hy p⟩
theorem Lv {K:W.Frag} {a:Addr} {xs:List V} {g:TG} {tb:TS} {D:Ends} {σ:St} {H:Hp} (Pv:Nat->St->Hp->Prop) (h0:Pv 0 σ H) (hl:∀ i σ H,i<=xs.length->Pv i σ H->ak K H a xs)
  (hs:∀ i x t σ H,xs[i]?=some x->Pv i σ H->H t=none->g (.ref t) σ (upd H t (.tup [.int i,x])) λσ2 H2=>tb { D with nx:=Pv (i+1),ct:=Pv (i+1),bk:=D.nx } σ2 H2) (hd:∀ σ H,Pv xs.length σ H->D.nx σ H) :
  ∃ W:Nat->Nat->St->Hp->Prop,(∃ m,W 0 m σ H)/\∀ i m σ H,W i m σ H ->
   ((rJ K a).stop i H/\D.nx σ H)\/((rJ K a).go i H/\∃ N:St->Hp->Prop,(∀ σ' H',N σ' H'->∃ m',m'<m/\W (i+1) m' σ' H')/\∀ x H',(rJ K a).jN i H x H'->g x σ H' λσ2 H2=>tb { D with nx:=N,ct:=N,bk:=D.nx } σ2 H2):=by
 refine ⟨λi m σ H=>m=xs.length - i/\i<=xs.length/\Pv i σ H,⟨xs.length,by simp,auX _,h0⟩,?_⟩
 rintro i m σ H ⟨rfl,hi,p⟩
 have q:=hl i σ H hi p
 by_cases hlt:i<xs.length
 .refine .inr ⟨⟨xs,xs[i],q,by simp [hlt]⟩,Pv (i+1),λσ' H' p'=>⟨xs.length - (i+1),by lia,rfl,hlt,p'⟩,λx H' y=>?_⟩
  obtain ⟨t,u,ht,rfl,rfl,y⟩:=y
  exact hs i u t σ _ (y xs q) p ht
 .have e:i=xs.length:=by lia
  subst e
  exact .inl ⟨⟨xs,q,rfl⟩,hd σ H p⟩
theorem l5 {α:Type} {x:α} {xs:List α}:cY (x :: xs) 0=some x:=ZX (j:=0) rfl
theorem p5 {α:Type} {x y:α} {xs:List α}:cY (x :: y :: xs) 1=some y:=ZX (j:=1) rfl
theorem oB {α:Type} {x y z:α} {xs:List α}:cY (x :: y :: z :: xs) 2=some z:=ZX (j:=2) rfl
theorem ZC {p A B:Prop} [Decidable p] (h1:p->A) (h2:¬ p->B):if decide p=true then A else B:=by
 by_cases h:p
 .rw [aHZ (aPy h)]; exact h1 h
 .rw [bd2 (by rw [aXf h]; exact aCK)]; exact h2 h
def NS:PySem.Expr->Prop
 | .Starred _ _=>False
 | _=>True
theorem p9 {e:PySem.Expr} {es:List PySem.Expr} {env:Env} (h:NS e):starEach (e :: es) env=(false,eval e env) :: starEach es env:=by
 cases e <;> first | rfl | exact h.elim
def rG:List PySem.Expr->Prop
 | []=>True
 | e :: es=>NS e/\rG es
theorem vp {pos:Pos} {env:Env}:∀ {es:List PySem.Expr},rG es->(backTo pos (starEach es env)).any (·.1)=false
 | [],_=>rfl
 | e :: es,h=>by
  rw [p9 h.1]
  have ih:=vp (pos:=pos) (env:=env) h.2
  simp only [backTo] at ih ⊢
  simpa using ih
section
variable {X:Cx} {x:Str} {p pos:Pos} {e:PySem.Expr} {es:List PySem.Expr} {te:TE} {t:TA} {k:Nat} {ps:List Str} {sp:Sp} {id T:String} {r:List V->Hp->VK->Prop}
theorem pc (ha:PE X e te) (hr:PA X es t) (hn:NS e:=by exact True.intro):PA X (e :: es) (qt te t):=Se ha hr (p9 hn)
theorem Zl (D:Def X.prog X.w X.K X.mg X.base x k ps sp) (hr:aZ k X.A) (hg:Gl X x) (ha:PA X (e :: es) t) (hn:rG (e :: es):=by repeat' (first | exact True.intro | refine ⟨?_,?_⟩)) (hd:(x == ("__debug__" : Str))=false:=by decide) :
  PE X (.Call (.Name x p) (e :: es) [] pos) (mW sp [] E0 t):=Q5 D hr hg ha (p9 hn.1) (vp hn.2) hd
theorem Zk (hc:aW X (.builtin id) r) (hg:Gl X x) (hm:X.mg x=none) (hv:bootBuiltins x=some (.builtin id)) (ha:PA X (e :: es) t) (hnn:rG (e :: es):=by repeat' (first | exact True.intro | refine ⟨?_,?_⟩)) (hn:x ≠ "__name__" := by decide) (hdb:(x == ("__debug__" : Str))=false:=by decide) :
  PE X (.Call (.Name x p) (e :: es) [] pos) (we r t):=TN hc hg hm hv ha hn hdb (p9 hnn.1) (vp hnn.2)
theorem yY (hc:aW X (.type T) r) (hg:Gl X x) (hm:X.mg x=none) (hv:bootBuiltins x=some (.type T)) (ha:PA X (e :: es) t) (hnn:rG (e :: es):=by repeat' (first | exact True.intro | refine ⟨?_,?_⟩)) (hn:x ≠ "__name__" := by decide) (hdb:(x == ("__debug__" : Str))=false:=by decide) :
  PE X (.Call (.Name x p) (e :: es) [] pos) (we r t):=VH hc hg hm hv ha hn hdb (p9 hnn.1) (vp hnn.2)
end
theorem Tz {K:W.Frag} {a:Addr} {xs:List V} {l:Addr} {g:TG} {tc:TT} {te:TE} {σ0:St} {H0:Hp} {Qf:Hp->Prop} (Pv:Nat->List V->St->Hp->Prop) (h0:Pv 0 [] σ0 H0)
  (hl:∀ i ys σ' H',i<=xs.length->Pv i ys σ' H'->bJ K H' a xs)
  (hs:∀ i x ys σ' H',i<xs.length->xs[i]?=some x->ys.length<=i->Pv i ys σ' H'->g x σ' H' λσ2 H3=>tc σ2 H3 λb H4=>if b=true then te σ2 H4 λy H5=>dU xs.length l Pv i ys σ2 y H5 else kD xs.length Pv i ys σ2 H4)
  (hd:∀ ys σ' H',ys.length<=xs.length->Pv xs.length ys σ' H'->Qf H') :
  ∃ W:Nat->Nat->List V->St->Hp->Prop,(∃ m,W 0 m [] σ0 H0)/\∀ i m ys σ' H',W i m ys σ' H' ->
  ((zu K a).stop i H'/\Qf H')\/((zu K a).go i H'/\∀ x H2,(zu K a).jN i H' x H2->g x σ' H2 λσ2 H3=>tc σ2 H3 λb H4 =>
    if b=true then te σ2 H4 λy H5=>H5 l=some (.lst ys)/\ys.length<sizeLine/\∃ m',m'<m/\W (i+1) m' (ys++[y]) σ2 (upd H5 l (.lst (ys++[y])))
    else ∃ m',m'<m/\W (i+1) m' ys σ2 H4):=by
 refine ⟨λi m ys σ' H'=>m=xs.length - i/\i<=xs.length/\ys.length<=i/\Pv i ys σ' H',⟨xs.length,rfl,auX _,avG _,h0⟩,?_⟩
 rintro i m ys σ' H' ⟨rfl,hi,hy,p⟩
 have q:=hl i ys σ' H' hi p
 by_cases hlt:i<xs.length
 .refine .inr ⟨⟨xs,xs[i],q,by simp [hlt]⟩,λx H2 z=>?_⟩
  obtain ⟨rfl,z⟩:=z
  exact hs i x ys σ' _ hlt (z xs q) hy p
 .have e:i=xs.length:=by lia
  subst e
  exact .inl ⟨⟨xs,q,avG _⟩,hd ys σ' H' hy p⟩
section
variable {X:Cx}
theorem La {ns:List Int} (f:Nat->Int) (hf:∀ (i:Nat) (z:Int),ns[i]?=some z->f i=z):∀ j,j<=ns.length->preSum f j=(ns.take j).sum
 | 0,_=>by simp [preSum]
 | j+1,h=>by
  have hj:j<ns.length:=h
  rw [preSum,La f hf j (aM8 hj),hf j ns[j] (a8w hj),List.take_add_one,a8w hj]
  show (ns.take j).sum+ns[j]=(ns.take j++[ns[j]]).sum
  first
   | (rw [List.sum_append_int,List.kF])
   | (rw [List.sum_append]; simp only [a12,List.sum_nil,Int.add_zero])
   | (rw [List.sum_append_int]; simp only [a12,List.sum_nil,Int.add_zero])
theorem U3 (hc:X.calm=true):aW X (.builtin "sum") (λxs H Q=>∃ (p:Addr) (ns:List Int),xs=[.ref p]/\ak X.K H p (ns.map V.int)/\(∀ j,j<ns.length->InLong (ns.getD j 0)/\InLong (ns.take (j+1)).sum)/\Q (.int ns.sum) H):=by
 intro pins s σ H xs us Q I r h
 obtain ⟨p,ns,rfl,hq,hb,q⟩:=h
 obtain ⟨u,rfl,rx⟩:=vals1 r
 cases rx
 obtain ⟨its,rv,pl,hz⟩:=I.list hq
 have hlen:ns.length=its.length:=by have:=rv.length; rwa [aH5] at this
 have hval:∀ (i:Nat) (v:Value),its.toArray[i]?=some v->∃ t,v=.int (ns.getD i 0) t:=λi v e=>by
  have e':its[i]?=some v:=by simpa using e
  have hi:i<ns.length:=by rw [hlen]; exact (aWj.mp e').1
  obtain ⟨u,hu,ru⟩:=rv.get (i:=i) (x:=.int ns[i]) (by rw [bdd,a8w hi]; rfl)
  rw [e'] at hu; cases hu
  obtain ⟨t,rfl⟩:=ru
  exact ⟨t,by rw [aeu,a8w hi]; rfl⟩
 have hps:∀ j,j<=ns.length->preSum (λi=>ns.getD i 0) j=(ns.take j).sum:=La _ λi z e=>by rw [aeu,e]; rfl
 refine call_sum_walk (aQ6 pl.isList ?_)
 refine ⟨s.heap.objs.size,_,[s.heap.objs.size],_,_,_,λi=>ns.getD i 0,rfl,Walks.list (A:=X.A.in1) (show X.A.in1.handled=none from I.ok.hd hc) s.heap.objs.size p ?_ its.toArray,⟨⟨_,aJ2 _ rfl,rfl,rfl⟩,pl.isList.at λo e=>aBk _ e⟩,?_,hval,?_,?_⟩
 .obtain ⟨o,e,_⟩:=pl.isList; exact a0P (aP5 e)
 .intro b hb'
  have lt:p<s.heap.objs.size:=by obtain ⟨o,e,_⟩:=pl.isList; exact aP5 e
  show b<(s.heap.push _).objs.size
  rw [aRI]
  simp only [apQ,atr,a4q] at hb'
  rcases hb' with rfl | rfl
  .exact ayu _
  .exact awZ lt
 .intro j hj
  have hj':j<ns.length:=by rw [hlen]; simpa using hj
  refine ⟨(hb j hj').1,?_⟩
  rw [hps (j+1) hj']
  exact (hb j hj').2
 .intro h' tk t' hk
  refine ⟨.int ns.sum,H,I.kept (t':=tk) (λb o e=>hk b o (by simpa using a0P (aP5 e)) (aBk _ e)),⟨t',?_⟩,q⟩
  have e:preSum (λi=>ns.getD i 0) its.toArray.size=ns.sum:=by
   rw [aIh,← hlen,hps _ (avG _),aqK]
  rw [e]
end
section
variable {X:Cx} {K:W.Frag}
theorem Zo (hK:X.K=K):HH X (wM K):=hK ▸ R6
theorem FW (hK:X.K=K):HC X (wI K):=hK ▸ R5
theorem GF (hK:X.K=K):fc X (compareOp .In) (zW K false):=hK ▸ VG
theorem yU (hK:X.K=K):fc X (compareOp .NotIn) (zW K true):=hK ▸ Wm
theorem Zm (hK:X.K=K):aW X (.builtin "len") (λxs H Q=>∃ p ys,xs=[.ref p]/\(ak K H p ys\/bJ K H p ys)/\Q (.int ys.length) H):=hK ▸ Wl
theorem G9 (hK:X.K=K):aW X (.type "list") (λxs H Q=>∃ p ys,xs=[.ref p]/\(ak K H p ys\/bJ K H p ys)/\∀ l,H l=none->Q (.ref l) (upd H l (.lst ys))):=hK ▸ Wk
theorem Vr {ns ms:List Int} (h:ns.length=ms.length):(List.range ns.length).all (λj=>ns.getD j 0 == ms.getD j 0)=decide (ns=ms):=by
 rw [aZg,aY4,acz]
 constructor
 .intro z
  refine List.ext_getElem h λj h1 h2=>?_
  have:=z j (a1N.mpr h1)
  rw [aeu,aeu,a8w h1,a8w h2] at this
  simpa using this
 .rintro rfl j _
  simp
def C8 (K:W.Frag) (neg:Bool):R2:=λx y H Q=>∃ (a b:Addr) (ns ms:List Int),x=.ref a/\y=.ref b/\ak K H a (ns.map V.int)/\ak K H b (ms.map V.int)/\Q (.bl (if neg then !decide (ns=ms) else decide (ns=ms))) H
theorem U0 {A:Around} {s:Shared} {ns:List Int} {us:List Value} (r:Vals (ns.map V.int) us) {ms:List Int} {ws:List Value} (r2:Vals (ms.map V.int) ws) (j:Nat) (h1:j<us.toArray.size) (h2:j<ws.toArray.size):SeqAt.EqAt A s us.toArray[j] ws.toArray[j] (ns.getD j 0 == ms.getD j 0):=by
 have l1:ns.length=us.length:=by have:=r.length; rwa [aH5] at this
 have l2:ms.length=ws.length:=by have:=r2.length; rwa [aH5] at this
 have k1:j<ns.length:=by rw [l1]; simpa using h1
 have k2:j<ms.length:=by rw [l2]; simpa using h2
 obtain ⟨u,hu,ru⟩:=r.get (i:=j) (x:=.int ns[j]) (by rw [bdd,a8w k1]; rfl)
 obtain ⟨v,hv,rv⟩:=r2.get (i:=j) (x:=.int ms[j]) (by rw [bdd,a8w k2]; rfl)
 obtain ⟨t,rfl⟩:=ru
 obtain ⟨t',rfl⟩:=rv
 have e1:us.toArray[j]=.int ns[j] t:=by
  have:us[j]?=some us[j]:=a8w (by simpa using h1)
  rw [hu] at this
  simpa using (bcC this).symm
 have e2:ws.toArray[j]=.int ms[j] t':=by
  have:ws[j]?=some ws[j]:=a8w (by simpa using h2)
  rw [hv] at this
  simpa using (bcC this).symm
 rw [e1,e2,aeu,aeu,a8w k1,a8w k2]
 exact SeqAt.EqAt.int_int _ _ _ _
theorem Q4 (hu:X.A.units<cLine) (hK:X.K=K):fc X (compareOp .NotEq) (C8 K true):=by
 subst hK
 intro pins s σ H x y v u Q I rx ry h
 obtain ⟨a,b,ns,ms,rfl,rfl,ha,hb,q⟩:=h
 cases rx
 cases ry
 obtain ⟨its,r1,p1,_⟩:=I.list ha
 obtain ⟨its2,r2,p2,_⟩:=I.list hb
 have l1:ns.length=its.length:=by have:=r1.length; rwa [aH5] at this
 have l2:ms.length=its2.length:=by have:=r2.length; rwa [aH5] at this
 by_cases hl:ns.length=ms.length
 .refine SeqAt.RcNeAt.lists (e:=λj=>ns.getD j 0 == ms.getD j 0) p1.isList p2.isList (by simp; lia) hu (λj h1 h2=>U0 r1 r2 j h1 h2) X.prog X.w X.xe _ ⟨.bl _,H,I,rfl,?_⟩
  rw [aIh,← l1,Vr hl]
  exact q
 .refine SeqAt.RcNeAt.lists_lengths p1.isList p2.isList (by simp; lia) hu X.prog X.w X.xe _ ⟨.bl true,H,I,rfl,?_⟩
  have e:decide (ns=ms)=false:=aXf λz=>hl (by rw [z])
  rw [e] at q
  exact q
end
def vd (x:Value) (c:Nat):Obj:={ cls:=.type "list",dict:=none,data:=.seq #[x,x] c,slots:=#[] }
theorem K9 {P0:Program} {w0:World} {A0:Around} {R0:Result->Shared->Prop} {it box:Addr} {t:Shared} {old:Value} {c:Nat} (hx:t.heap.get? box=some (vd old c))
  (h:∀ E,wpAny (model P0 w0) A0.in1 (pyNext (.ref it)) (λr t1=>(∃ c1,t1.heap.get? box=some (vd old c1)) /\
   ((r=none/\R0 (.ok (.ret old)) { t1 with heap:=t1.heap.update box (Obj.mapSeq λ_=>#[]) }) \/
    ∃ v,r=some v/\∀ E',wpAny (model P0 w0) A0.in1 (richCompare .Gt v old) (λa t2=>∃ b,a=.bool b/\t2=t1 /\
      codeAny (model P0 w0) A0 (.builtin "max.loop" ⟨[.ref it,.none,.ref box],[]⟩) R0 (if b=true then { t1 with heap:=t1.heap.update box (Obj.mapSeq λ_=>#[v,v]) } else t1)) E' t1)) E t) :
  codeAny (model P0 w0) A0 (.builtin "max.loop" ⟨[.ref it,.none,.ref box],[]⟩) R0 t:=by
 refine codeAny_builtin F.entry_max_loop ?_
 rw [a7p aq1 _]
 show wpAny _ _ (seqItems? (.ref box) >>= λfound=>_) _ _ t
 refine aLa (aAz hx rfl (aLa (a1I (a7k (h _) (λr t1 z=>?_) λ_ _ e=>e))))
 obtain ⟨⟨c1,kR⟩,⟨rfl,fin⟩ | ⟨v,rfl,go⟩⟩:=z
 .exact aLa (a4l kR rfl (aLa (baf (aLj fin))))
 .refine aLa (aLj (aLa (a1I (am3 (aLa (a7k (go _) (λa t2 y=>?_) λ_ _ e=>e))))))
  obtain ⟨b,rfl,rfl,pN⟩:=y
  refine aLa (am3 (aT6 (aLa (baf (aLj ?_)))))
  have name:(toString "max" ++ toString ".loop" : String) = "max.loop" := by decide
  cases b with
  | true=>exact aLa (a4l kR rfl (aLa (baf (by rw [name]; exact aLj ⟨aN3 aq1 _,pN⟩))))
  | false=>exact aLa (baf (by rw [name]; exact aLj ⟨aN3 aq1 _,pN⟩))
theorem UZ {P0:Program} {w0:World} {A0:Around} {R0:Result->Shared->Prop} {it box:Addr} {t:Shared} {c:Nat} (hx:t.heap.get? box=some { cls:=.type "list",dict:=none,data:=.seq #[] c,slots:=#[] })
  (h:∀ E,wpAny (model P0 w0) A0.in1 (pyNext (.ref it)) (λr t1=>∃ v c1,r=some v/\t1.heap.get? box=some { cls:=.type "list",dict:=none,data:=.seq #[] c1,slots:=#[] } /\
   codeAny (model P0 w0) A0 (.builtin "max.loop" ⟨[.ref it,.none,.ref box],[]⟩) R0 { t1 with heap:=t1.heap.update box (Obj.mapSeq λ_=>#[v,v]) }) E t) :
  codeAny (model P0 w0) A0 (.builtin "max.loop" ⟨[.ref it,.none,.ref box],[]⟩) R0 t:=by
 refine codeAny_builtin F.entry_max_loop ?_
 rw [a7p aq1 _]
 show wpAny _ _ (seqItems? (.ref box) >>= λfound=>_) _ _ t
 refine aLa (aAz hx rfl (aLa (a1I (a7k (h _) (λr t1 z=>?_) λ_ _ e=>e))))
 obtain ⟨v,c1,rfl,kR,pN⟩:=z
 have name:(toString "max" ++ toString ".loop" : String) = "max.loop" := by decide
 exact aLa (aLj (aLa (a4l kR rfl (by rw [name]; exact aLj ⟨aN3 aq1 _,pN⟩))))
def JK (P0:Program) (w0:World) (A0:Around) (Good:Heap->Prop) (At:Nat->Value->Prop) (bt:Nat->Nat->Bool):Prop :=
 ∀ (i j:Nat) (u v:Value) (t:Shared) (Q:Value->Shared->Prop) (E:Value->Shared->Prop),Good t.heap->At i u->At j v->Q (.bool (bt i j)) t->wpAny (model P0 w0) A0.in1 (richCompare .Gt u v) Q E t
section
variable {P0:Program} {w0:World} {A0:Around} {R0:Result->Shared->Prop} {it box:Addr} {j8 gD:List Addr} {cnt:Nat} {At:Nat->Value->Prop} {mw:Nat->Heap->Prop} {Good:Heap->Prop} {bt:Nat->Nat->Bool}
theorem Tw (wk:Walks P0 w0 A0.in1 it j8 gD cnt At mw) (cmp:JK P0 w0 A0 Good At bt) (off:box∉gD) (gY:box∉j8) (keep:∀ h h':Heap,Good h->(∀ b o,b∉gD->b≠box->h.get? b=some o->h'.get? b=some o)->Good h') (left:Nat) :
  ∀ (i:Nat) (t:Shared) (best:Value) (c:Nat),cnt=i+1+left->mw (i+1) t.heap->Good t.heap->At (argBest bt i) best->t.heap.get? box=some (vd best c) ->
  (∀ v h' tk,At (argBest bt (cnt - 1)) v->(∀ b o,b∉gD->b≠box->t.heap.get? b=some o->h'.get? b=some o)->R0 (.ok (.ret v)) { t with heap:=h',toks:=tk })->codeAny (model P0 w0) A0 (.builtin "max.loop" ⟨[.ref it,.none,.ref box],[]⟩) R0 t:=by
 induction left with
 | zero =>
  intro i t best c hc hs hg hb hx hR
  exact K9 hx λE=>wk.done t _ _ (by rw [hc]; exact hs) λh' tk kp=>⟨⟨c,kp box _ off hx⟩,.inl ⟨rfl,hR best _ tk (by rw [show cnt - 1=i by lia]; exact hb) λb o n1 n2 e=>(a1l _ _ (aay n2)).trans (kp b o n1 e)⟩⟩
 | succ left ih =>
  intro i t best c hc hs hg hb hx hR
  refine K9 hx λE=>wk.item (i+1) t _ _ (by lia) hs λv h' tk hv hs' kp=>⟨⟨c,kp box _ off hx⟩,.inr ⟨v,rfl,λE'=>?_⟩⟩
  have good:=keep _ h' hg λb o n1 _ e=>kp b o n1 e
  refine cmp (i+1) (argBest bt i) v best _ _ _ good hv hb ⟨_,rfl,rfl,?_⟩
  by_cases pU:bt (i+1) (argBest bt i)=true
  .rw [aHZ pU]
   refine ih (i+1) _ v _ (by lia) (wk.frame _ _ _ hs' λb sR o e=>(a1l _ _ (λz=>gY (by rw [z]; exact sR))).trans e) (keep _ _ good λb o _ n2 e=>(a1l _ _ (aay n2)).trans e) (by rw [argBest,aHZ pU]; exact hv) (ajk _ (kp box _ off hx) rfl) λu h'' tk' hu nN=>?_
   exact hR u h'' tk' hu λb o n1 n2 e=>nN b o n1 n2 ((a1l _ _ (aay n2)).trans (kp b o n1 e))
  .rw [bd2 pU]
   exact ih (i+1) _ best c (by lia) hs' good (by rw [argBest,bd2 pU]; exact hb) (kp box _ off hx) λu h'' tk' hu nN=>hR u h'' tk' hu λb o n1 n2 e=>nN b o n1 n2 (kp b o n1 e)
end
theorem V2 {P0:Program} {w0:World} {A0:Around} {E0:Value->Shared->Prop} {t:Shared} {x:Value} {Q:Value->Shared->Prop}
  (h:wpAny (model P0 w0) A0.in1 (pyIter x) (λiv t2=>∃ it j8 gD cnt At mw bt,∃ Good:Heap->Prop,iv=.ref it/\Walks P0 w0 A0.in1 it j8 gD cnt At mw/\mw 0 t2.heap/\(∀ b∈j8,b<t2.heap.objs.size)/\0<cnt/\Good t2.heap /\
   (∀ h h':Heap,Good h->(∀ b o,b∉gD->b≠t2.heap.objs.size->h.get? b=some o->h'.get? b=some o)->Good h')/\JK P0 w0 A0 Good At bt /\
   ∀ v h' tk,At (argBest bt (cnt - 1)) v->(∀ b o,b∉gD->t2.heap.get? b=some o->h'.get? b=some o)->Q v { t2 with heap:=h',toks:=tk }) E0 t):wpAny (model P0 w0) A0 (call (.builtin "max") [x]) Q E0 t:=by
 have name:(toString "max" ++ toString ".loop" : String) = "max.loop" := by decide
 refine call_function_tree F.kind_max F.plain_max F.entry_max (F.args_max1 _) ?_
 show wpAny _ _ (Builtin.Builtins.bindParams "max" ["key", "default"] 0 ⟨[],[]⟩ >>= λbound=>_) _ _ t
 refine aLa (wpAny_of_eq (show Builtin.Builtins.bindParams "max" ["key", "default"] 0 ⟨[],[]⟩=pure [none,none] from rfl) (aLa (aLj (aLa (a7k h (λiv t2 z=>?_) λ_ _ e=>e)))))
 obtain ⟨it,j8,gD,cnt,At,mw,bt,Good,rfl,wk,hs,hf,pos,hg,keep,cmp,hQ⟩:=z
 have gY:t2.heap.objs.size∉j8:=λm=>aU3 _ (hf _ m)
 have off:t2.heap.objs.size∉gD:=λm=>gY (wk.sub _ m)
 refine aLa (aol ?_)
 rw [name]
 refine aLj ⟨aN3 aq1 _,UZ (aJ2 _ rfl) λE=>wk.item 0 _ _ _ pos (wk.frame _ _ _ hs λb _ o e=>aBk _ e) λv h' tk hv hs' kp=>⟨v,_,rfl,kp _ _ off (aJ2 _ rfl),?_⟩⟩
 have k1:∀ b o,b∉gD->t2.heap.get? b=some o->h'.get? b=some o:=λb o n1 e=>kp b o n1 (aBk _ e)
 have k2:∀ (f:Obj->Obj) b o,b∉gD->t2.heap.get? b=some o->(h'.update t2.heap.objs.size f).get? b=some o:=λf b o n1 e=>(a1l _ _ (a3H (aP5 e))).trans (k1 b o n1 e)
 refine Tw wk cmp off gY keep (cnt - 1) 0 _ v _ (by lia) (wk.frame _ _ _ hs' λb sR o e=>(a1l _ _ (λz=>gY (by rw [z]; exact sR))).trans e) (keep _ _ hg λb o n1 _ e=>k2 _ b o n1 e) hv (ajk _ (kp _ _ off (aJ2 _ rfl)) rfl) λu h'' tk' hu nN=>?_
 exact hQ u h'' tk' hu λb o n1 e=>nN b o n1 (a0P (aP5 e)) (k2 _ b o n1 e)
theorem K8 {P0:Program} {w0:World} {A0:Around} {R0:Result->Shared->Prop} {it box:Addr} {t:Shared} {old:Value} {c:Nat} (hx:t.heap.get? box=some (vd old c))
  (h:∀ E,wpAny (model P0 w0) A0.in1 (pyNext (.ref it)) (λr t1=>(∃ c1,t1.heap.get? box=some (vd old c1)) /\
   ((r=none/\R0 (.ok (.ret old)) { t1 with heap:=t1.heap.update box (Obj.mapSeq λ_=>#[]) }) \/
    ∃ v,r=some v/\∀ E',wpAny (model P0 w0) A0.in1 (richCompare .Lt v old) (λa t2=>∃ b,a=.bool b/\t2=t1 /\
      codeAny (model P0 w0) A0 (.builtin "min.loop" ⟨[.ref it,.none,.ref box],[]⟩) R0 (if b=true then { t1 with heap:=t1.heap.update box (Obj.mapSeq λ_=>#[v,v]) } else t1)) E' t1)) E t) :
  codeAny (model P0 w0) A0 (.builtin "min.loop" ⟨[.ref it,.none,.ref box],[]⟩) R0 t:=by
 refine codeAny_builtin F.entry_min_loop ?_
 rw [a7p amA _]
 show wpAny _ _ (seqItems? (.ref box) >>= λfound=>_) _ _ t
 refine aLa (aAz hx rfl (aLa (a1I (a7k (h _) (λr t1 z=>?_) λ_ _ e=>e))))
 obtain ⟨⟨c1,kR⟩,⟨rfl,fin⟩ | ⟨v,rfl,go⟩⟩:=z
 .exact aLa (a4l kR rfl (aLa (baf (aLj fin))))
 .refine aLa (aLj (aLa (a1I (am3 (aLa (a7k (go _) (λa t2 y=>?_) λ_ _ e=>e))))))
  obtain ⟨b,rfl,rfl,pN⟩:=y
  refine aLa (am3 (aT6 (aLa (baf (aLj ?_)))))
  have name:(toString "min" ++ toString ".loop" : String) = "min.loop" := by decide
  cases b with
  | true=>exact aLa (a4l kR rfl (aLa (baf (by rw [name]; exact aLj ⟨aN3 amA _,pN⟩))))
  | false=>exact aLa (baf (by rw [name]; exact aLj ⟨aN3 amA _,pN⟩))
theorem UY {P0:Program} {w0:World} {A0:Around} {R0:Result->Shared->Prop} {it box:Addr} {t:Shared} {c:Nat} (hx:t.heap.get? box=some { cls:=.type "list",dict:=none,data:=.seq #[] c,slots:=#[] })
  (h:∀ E,wpAny (model P0 w0) A0.in1 (pyNext (.ref it)) (λr t1=>∃ v c1,r=some v/\t1.heap.get? box=some { cls:=.type "list",dict:=none,data:=.seq #[] c1,slots:=#[] } /\
   codeAny (model P0 w0) A0 (.builtin "min.loop" ⟨[.ref it,.none,.ref box],[]⟩) R0 { t1 with heap:=t1.heap.update box (Obj.mapSeq λ_=>#[v,v]) }) E t) :
  codeAny (model P0 w0) A0 (.builtin "min.loop" ⟨[.ref it,.none,.ref box],[]⟩) R0 t:=by
 refine codeAny_builtin F.entry_min_loop ?_
 rw [a7p amA _]
 show wpAny _ _ (seqItems? (.ref box) >>= λfound=>_) _ _ t
 refine aLa (aAz hx rfl (aLa (a1I (a7k (h _) (λr t1 z=>?_) λ_ _ e=>e))))
 obtain ⟨v,c1,rfl,kR,pN⟩:=z
 have name:(toString "min" ++ toString ".loop" : String) = "min.loop" := by decide
 exact aLa (aLj (aLa (a4l kR rfl (by rw [name]; exact aLj ⟨aN3 amA _,pN⟩))))
def Ko (P0:Program) (w0:World) (A0:Around) (Good:Heap->Prop) (At:Nat->Value->Prop) (bt:Nat->Nat->Bool):Prop :=
 ∀ (i j:Nat) (u v:Value) (t:Shared) (Q:Value->Shared->Prop) (E:Value->Shared->Prop),Good t.heap->At i u->At j v->Q (.bool (bt i j)) t->wpAny (model P0 w0) A0.in1 (richCompare .Lt u v) Q E t
section
variable {P0:Program} {w0:World} {A0:Around} {R0:Result->Shared->Prop} {it box:Addr} {j8 gD:List Addr} {cnt:Nat} {At:Nat->Value->Prop} {mw:Nat->Heap->Prop} {Good:Heap->Prop} {bt:Nat->Nat->Bool}
theorem Tv (wk:Walks P0 w0 A0.in1 it j8 gD cnt At mw) (cmp:Ko P0 w0 A0 Good At bt) (off:box∉gD) (gY:box∉j8) (keep:∀ h h':Heap,Good h->(∀ b o,b∉gD->b≠box->h.get? b=some o->h'.get? b=some o)->Good h') (left:Nat) :
  ∀ (i:Nat) (t:Shared) (best:Value) (c:Nat),cnt=i+1+left->mw (i+1) t.heap->Good t.heap->At (argBest bt i) best->t.heap.get? box=some (vd best c) ->
  (∀ v h' tk,At (argBest bt (cnt - 1)) v->(∀ b o,b∉gD->b≠box->t.heap.get? b=some o->h'.get? b=some o)->R0 (.ok (.ret v)) { t with heap:=h',toks:=tk })->codeAny (model P0 w0) A0 (.builtin "min.loop" ⟨[.ref it,.none,.ref box],[]⟩) R0 t:=by
 induction left with
 | zero =>
  intro i t best c hc hs hg hb hx hR
  exact K8 hx λE=>wk.done t _ _ (by rw [hc]; exact hs) λh' tk kp=>⟨⟨c,kp box _ off hx⟩,.inl ⟨rfl,hR best _ tk (by rw [show cnt - 1=i by lia]; exact hb) λb o n1 n2 e=>(a1l _ _ (aay n2)).trans (kp b o n1 e)⟩⟩
 | succ left ih =>
  intro i t best c hc hs hg hb hx hR
  refine K8 hx λE=>wk.item (i+1) t _ _ (by lia) hs λv h' tk hv hs' kp=>⟨⟨c,kp box _ off hx⟩,.inr ⟨v,rfl,λE'=>?_⟩⟩
  have good:=keep _ h' hg λb o n1 _ e=>kp b o n1 e
  refine cmp (i+1) (argBest bt i) v best _ _ _ good hv hb ⟨_,rfl,rfl,?_⟩
  by_cases pU:bt (i+1) (argBest bt i)=true
  .rw [aHZ pU]
   refine ih (i+1) _ v _ (by lia) (wk.frame _ _ _ hs' λb sR o e=>(a1l _ _ (λz=>gY (by rw [z]; exact sR))).trans e) (keep _ _ good λb o _ n2 e=>(a1l _ _ (aay n2)).trans e) (by rw [argBest,aHZ pU]; exact hv) (ajk _ (kp box _ off hx) rfl) λu h'' tk' hu nN=>?_
   exact hR u h'' tk' hu λb o n1 n2 e=>nN b o n1 n2 ((a1l _ _ (aay n2)).trans (kp b o n1 e))
  .rw [bd2 pU]
   exact ih (i+1) _ best c (by lia) hs' good (by rw [argBest,bd2 pU]; exact hb) (kp box _ off hx) λu h'' tk' hu nN=>hR u h'' tk' hu λb o n1 n2 e=>nN b o n1 n2 (kp b o n1 e)
end
theorem V1 {P0:Program} {w0:World} {A0:Around} {E0:Value->Shared->Prop} {t:Shared} {x:Value} {Q:Value->Shared->Prop}
  (h:wpAny (model P0 w0) A0.in1 (pyIter x) (λiv t2=>∃ it j8 gD cnt At mw bt,∃ Good:Heap->Prop,iv=.ref it/\Walks P0 w0 A0.in1 it j8 gD cnt At mw/\mw 0 t2.heap/\(∀ b∈j8,b<t2.heap.objs.size)/\0<cnt/\Good t2.heap /\
   (∀ h h':Heap,Good h->(∀ b o,b∉gD->b≠t2.heap.objs.size->h.get? b=some o->h'.get? b=some o)->Good h')/\Ko P0 w0 A0 Good At bt /\
   ∀ v h' tk,At (argBest bt (cnt - 1)) v->(∀ b o,b∉gD->t2.heap.get? b=some o->h'.get? b=some o)->Q v { t2 with heap:=h',toks:=tk }) E0 t):wpAny (model P0 w0) A0 (call (.builtin "min") [x]) Q E0 t:=by
 have name:(toString "min" ++ toString ".loop" : String) = "min.loop" := by decide
 refine call_function_tree F.kind_min F.plain_min F.entry_min (F.args_min1 _) ?_
 show wpAny _ _ (Builtin.Builtins.bindParams "min" ["key", "default"] 0 ⟨[],[]⟩ >>= λbound=>_) _ _ t
 refine aLa (wpAny_of_eq (show Builtin.Builtins.bindParams "min" ["key", "default"] 0 ⟨[],[]⟩=pure [none,none] from rfl) (aLa (aLj (aLa (a7k h (λiv t2 z=>?_) λ_ _ e=>e)))))
 obtain ⟨it,j8,gD,cnt,At,mw,bt,Good,rfl,wk,hs,hf,pos,hg,keep,cmp,hQ⟩:=z
 have gY:t2.heap.objs.size∉j8:=λm=>aU3 _ (hf _ m)
 have off:t2.heap.objs.size∉gD:=λm=>gY (wk.sub _ m)
 refine aLa (aol ?_)
 rw [name]
 refine aLj ⟨aN3 amA _,UY (aJ2 _ rfl) λE=>wk.item 0 _ _ _ pos (wk.frame _ _ _ hs λb _ o e=>aBk _ e) λv h' tk hv hs' kp=>⟨v,_,rfl,kp _ _ off (aJ2 _ rfl),?_⟩⟩
 have k1:∀ b o,b∉gD->t2.heap.get? b=some o->h'.get? b=some o:=λb o n1 e=>kp b o n1 (aBk _ e)
 have k2:∀ (f:Obj->Obj) b o,b∉gD->t2.heap.get? b=some o->(h'.update t2.heap.objs.size f).get? b=some o:=λf b o n1 e=>(a1l _ _ (a3H (aP5 e))).trans (k1 b o n1 e)
 refine Tv wk cmp off gY keep (cnt - 1) 0 _ v _ (by lia) (wk.frame _ _ _ hs' λb sR o e=>(a1l _ _ (λz=>gY (by rw [z]; exact sR))).trans e) (keep _ _ hg λb o n1 _ e=>k2 _ b o n1 e) hv (ajk _ (kp _ _ off (aJ2 _ rfl)) rfl) λu h'' tk' hu nN=>?_
 exact hQ u h'' tk' hu λb o n1 e=>nN b o n1 (a0P (aP5 e)) (k2 _ b o n1 e)
end L2
namespace HT
open PySem PyProof.Rows
theorem Tu (A:Around) (s:Shared) (a:Int) (t:Tok) (c:Int) (u:Tok) (prog:Program) (w:World) (E:Value->Shared->Prop) (Q:Value->Shared->Prop) (h:Q (.bool (decide (c<a))) s) :
  wpAny (model prog w) A (richCompare .Gt (.int a t) (.int c u)) Q E s :=
 (PyProof.Rows.gt_int h:wpAny (model prog w) A (compareOp .Gt (.int a t) (.int c u)) Q E s)
section
open PySem.SeqAt
open PySem.AutoSeq1 (wpAny_loadPart')
open PySem.MeetsSeq PySem.MeetsSeq2 PySem.MeetsSeq3
theorem WC (l b:Addr) (items items2:Array Value) (n n2:Nat) (dd dd2:Option Addr) (sl sl2:Array (Option Value)) (ns ms:List Int) (hi:IntsAre items.toList ns) (hj:IntsAre items2.toList ms) :
  Meets (Builtin.«tuple.__gt__» ⟨[.ref l,.ref b],[]⟩)
   (λ_ R s=>s.heap.get? l=some { cls:=.type "tuple",dict:=dd,data:=.seq items n,slots:=sl }/\s.heap.get? b=some { cls:=.type "tuple",dict:=dd2,data:=.seq items2 n2,slots:=sl2 } /\
    R (.ok (.ret (.bool (lexLt ms ns)))) s) :=
 .of_wp λprog w A R s h=>by
  obtain ⟨hp,g,d,tk,os⟩:=s; obtain ⟨hl,hb,h⟩:=h
  have f2:=AutoSeq1.sub_tuple_tuple
  have z1:items.size=ns.length:=by rw [← hi.length]; simp
  have z2:items2.size=ms.length:=by rw [← hj.length]; simp
  wp_walk using wpAny_loadPart' hl,wpAny_loadPart' hb,wpAny_forIn_list _ (λrest b s'=>b.1=none/\s'=⟨hp,g,d,tk,os⟩/\∃ (vs ws:List Value) (ns' ms':List Int),rest=vs.zip ws /\
   IntsAre vs ns'/\IntsAre ws ms'/\ns'.length+items2.size=ms'.length+items.size/\R (.ok (.ret (.bool (lexLt ms' ns')))) ⟨hp,g,d,tk,os⟩) _
  case turn =>
   rintro ⟨y,x⟩ rest b s' ⟨hb',rfl,vs,ws,ns',ms',hz,sL,hwi,hlen,hR⟩
   cases sL with
   | nil=>rw [List.zip_nil_left] at hz; cases hz
   | cons a t sJ =>
    cases hwi with
    | nil=>rw [List.zip_nil_right] at hz; cases hz
    | cons c u sI =>
     rw [amM] at hz
     injection hz with hyx hrest
     injection hyx with hy hx
     subst hy hx
     rw [aO] at hR
     simp only [aRy] at hlen
     obtain ⟨e,he,hiff⟩:=LG A.in1 ⟨hp,g,d,tk,os⟩ a t c u
     refine aLa (he prog w _ _ ?_)
     cases e with
     | true =>
      rw [aHZ (hiff.mp rfl).symm] at hR
      wp_walk
      exact ⟨rfl,rfl,_,_,_,_,hrest,sJ,sI,by lia,hR⟩
     | false =>
      rw [bd2 (λq=>absurd (hiff.mpr q.symm) aCK)] at hR
      have D5:=Tu A.in1 ⟨hp,g,d,tk,os⟩ a t c u prog w
      wp_walk using D5
      exact ⟨_,rfl,by simpa using hR⟩
  case fin =>
   rintro ⟨b1,b2⟩ s' ⟨hb',rfl,vs,ws,ns',ms',hz,sL,hwi,hlen,hR⟩
   simp only at hb'
   subst hb'
   have hv:lexLt ms' ns'=decide (items2.size<items.size):=by
    cases sL with
    | nil =>
     cases hwi with
     | nil =>
      simp only [a2H] at hlen
      rw [cC]
      exact (aXf (by lia)).symm
     | cons c u hw =>
      simp only [a2H,aRy] at hlen
      rw [aY]
      exact (aXf (by lia)).symm
    | cons a t hv =>
     cases hwi with
     | nil =>
      simp only [a2H,aRy] at hlen
      rw [MR]
      exact (aPy (by lia)).symm
     | cons c u hw =>
      rw [amM] at hz
      cases hz
   rw [hv] at hR
   wp_walk
   exact ⟨_,rfl,by simpa [Builtin.Tuple.tupleCompareSizes] using hR⟩
  case h =>
   exact ⟨rfl,rfl,items.toList,items2.toList,ns,ms,rfl,hi,hj,by lia,h⟩
end
section
variable {prog:Program} {w:World} {A:Around} {E:Value->Shared->Prop} {s:Shared}
theorem j7 {l b:Addr} {items items2:Array Value} {ns ms:List Int} {Q:Value->Shared->Prop} (hl:IsTup s.heap l items) (hb:IsTup s.heap b items2) (hi:IntsAre items.toList ns) (hj:IntsAre items2.toList ms)
  (hu:A.units<cLine) (h:Q (.bool (lexLt ms ns)) s):wpAny (model prog w) A (compareOp .Gt (.ref l) (.ref b)) Q E s:=by
 obtain ⟨⟨cls,dd,data,sl⟩,ho,hc,n,hd⟩:=id hl
 obtain ⟨⟨EG,dd2,data2,sl2⟩,ho2,hc2,n2,hd2⟩:=id hb
 simp only at hc hd hc2 hd2
 subst hc hd hc2 hd2
 exact richCompare_meets_room (op:=.Gt) ⟨_,ho,rfl⟩ ⟨_,ho2,rfl⟩ PySem.F.slot_tuple_gt PySem.F.entry_tuple_gt (PySem.F.args_tuple_gt_2 _ _) (WC l b items items2 n n2 dd dd2 sl sl2 ns ms hi hj)
  ⟨ho,ho2,show Value.bool (lexLt ms ns)≠Value.notImplemented/\Q (.bool (lexLt ms ns)) s from ⟨(λx=>nomatch x),h⟩⟩ hu
end
end HT
namespace L2
open PySem PySem.Spec PyProof.Rows
def qG (K:W.Frag) (bt:List Int->List Int->Bool):List V->Hp->VK->Prop:=λxs H Q=>∃ (p:Addr) (as:List Addr) (vs:List (List Int)),xs=[.ref p]/\ak K H p (as.map V.ref)/\as≠[]/\as.length=vs.length /\
 (∀ (i:Nat) (a:Addr) (ns:List Int),as[i]?=some a->vs[i]?=some ns->bJ K H a (ns.map V.int)) /\
 ∀ (m:Nat) (a:Addr),m=argBest (λi j=>bt (vs.getD i []) (vs.getD j [])) (as.length - 1)->as[m]?=some a->Q (.ref a) H
theorem AH {h h':Heap} {a:Addr} {us:Array Value} (x:IsTup h a us) (k:∀ o,h.get? a=some o->h'.get? a=some o):IsTup h' a us:=by
 obtain ⟨o,ho,r⟩:=x
 exact ⟨o,k o ho,r⟩
theorem AG {h:Heap} {a:Addr} {us:Array Value} (x:IsTup h a us):a<h.objs.size:=by
 obtain ⟨o,ho,_⟩:=x
 exact aP5 ho
def lE (as:List Addr) (vs:List (List Int)) (h:Heap):Prop:=∀ (i:Nat) (a:Addr) (ns:List Int),as[i]?=some a->vs[i]?=some ns->∃ us:List Value,IsTup h a us.toArray/\IntsAre us.toArray.toList ns
theorem vc {as:List Addr} {us:List Value} (r:Vals (as.map V.ref) us) {i:Nat} {v:Value} (h:us.toArray[i]?=some v):∃ a,as[i]?=some a/\v=.ref a:=by
 have h':us[i]?=some v:=by simpa using h
 have hi:i<as.length:=by
  have:=r.length
  rw [aH5] at this
  rw [this]; exact (aWj.mp h').1
 obtain ⟨u,hu,ru⟩:=r.get (i:=i) (x:=.ref as[i]) (by rw [bdd,a8w hi]; rfl)
 rw [h'] at hu; cases hu
 cases ru
 exact ⟨as[i],a8w hi,rfl⟩
theorem A4 {vs:List (List Int)} {i:Nat} {ns:List Int} (h:vs[i]?=some ns):vs.getD i []=ns:=by rw [aeu,h]; rfl
section
variable {X:Cx} {K:W.Frag}
theorem UX (hc:X.calm=true) (hu:X.A.units+1<cLine) (hK:X.K=K):aW X (.builtin "max") (qG K λa b=>HT.lexLt b a):=by
 subst hK
 intro pins s σ H xs us Q I r h
 obtain ⟨p,as,vs,rfl,hq,hne,hlen,ht,q⟩:=h
 obtain ⟨u,rfl,rx⟩:=vals1 r
 cases rx
 obtain ⟨its,rv,pl,hz⟩:=I.list hq
 have hl:as.length=its.length:=by have:=rv.length; rwa [aH5] at this
 have hu1:X.A.in1.units<cLine:=hu
 have good0:lE as vs s.heap:=λi a ns h1 h2=>by
  obtain ⟨us,r1,p1,_⟩:=I.tuple (ht i a ns h1 h2)
  exact ⟨us,p1,yZ r1⟩
 have small:∀ (i:Nat) (a:Addr) (ns:List Int),as[i]?=some a->vs[i]?=some ns->a<s.heap.objs.size:=λi a ns h1 h2=>by
  obtain ⟨us,p1,_⟩:=good0 i a ns h1 h2
  exact AG p1
 have pos:0<its.length:=by rw [← hl]; exact bbb.mpr hne
 refine V2 (aQ6 pl.isList ?_)
 refine ⟨s.heap.objs.size,_,[s.heap.objs.size],_,_,_,λi j=>HT.lexLt (vs.getD j []) (vs.getD i []),lE as vs,rfl,Walks.list (A:=X.A.in1) (show X.A.in1.handled=none from I.ok.hd hc) s.heap.objs.size p ?_ its.toArray,⟨⟨_,aJ2 _ rfl,rfl,rfl⟩,pl.isList.at λo e=>aBk _ e⟩,?_,by simpa using pos,?_,?_,?_,?_⟩
 .obtain ⟨o,e,_⟩:=pl.isList; exact a0P (aP5 e)
 .intro b hb'
  have lt:p<s.heap.objs.size:=by obtain ⟨o,e,_⟩:=pl.isList; exact aP5 e
  show b<(s.heap.push _).objs.size
  rw [aRI]
  simp only [apQ,atr,a4q] at hb'
  rcases hb' with rfl | rfl
  .exact ayu _
  .exact awZ lt
 .intro i a ns h1 h2
  obtain ⟨us,p1,i1⟩:=good0 i a ns h1 h2
  exact ⟨us,AH p1 λo e=>aBk _ e,i1⟩
 .intro h h' g kp i a ns h1 h2
  obtain ⟨us,p1,i1⟩:=g i a ns h1 h2
  have lt:=small i a ns h1 h2
  refine ⟨us,AH p1 λo e=>kp a o (by simpa using a0P lt) (λz=>?_) e,i1⟩
  have z':a=s.heap.objs.size+1:=by rw [z]; exact aRI ..
  rw [z'] at lt
  exact absurd lt (Nat.not_lt.mpr (aa0 _))
 .intro i j u v t Q' E' g ai aj q'
  obtain ⟨a,ha,rfl⟩:=vc rv ai
  obtain ⟨b,hb,rfl⟩:=vc rv aj
  have vi:i<vs.length:=by rw [← hlen]; exact (aWj.mp ha).1
  have vj:j<vs.length:=by rw [← hlen]; exact (aWj.mp hb).1
  obtain ⟨us,p1,i1⟩:=g i a _ ha (a8w vi)
  obtain ⟨ws,p2,i2⟩:=g j b _ hb (a8w vj)
  refine (HT.j7 p1 p2 i1 i2 hu1 ?_:wpAny (model X.prog X.w) X.A.in1 (compareOp .Gt (.ref a) (.ref b)) Q' E' t)
  have q2:=q'
  dsimp only at q2
  rw [A4 (a8w vi),A4 (a8w vj)] at q2
  exact q2
 .intro v h' tk hv hk
  obtain ⟨a,ha,rfl⟩:=vc rv hv
  exact ⟨.ref a,H,I.kept (t':=tk) (λb o e=>hk b o (by simpa using a0P (aP5 e)) (aBk _ e)),rfl,q _ a (by rw [aIh,← hl]) ha⟩
theorem UW (hc:X.calm=true) (hu:X.A.units+1<cLine) (hK:X.K=K):aW X (.builtin "min") (qG K HT.lexLt):=by
 subst hK
 intro pins s σ H xs us Q I r h
 obtain ⟨p,as,vs,rfl,hq,hne,hlen,ht,q⟩:=h
 obtain ⟨u,rfl,rx⟩:=vals1 r
 cases rx
 obtain ⟨its,rv,pl,hz⟩:=I.list hq
 have hl:as.length=its.length:=by have:=rv.length; rwa [aH5] at this
 have hu1:X.A.in1.units<cLine:=hu
 have good0:lE as vs s.heap:=λi a ns h1 h2=>by
  obtain ⟨us,r1,p1,_⟩:=I.tuple (ht i a ns h1 h2)
  exact ⟨us,p1,yZ r1⟩
 have small:∀ (i:Nat) (a:Addr) (ns:List Int),as[i]?=some a->vs[i]?=some ns->a<s.heap.objs.size:=λi a ns h1 h2=>by
  obtain ⟨us,p1,_⟩:=good0 i a ns h1 h2
  exact AG p1
 have pos:0<its.length:=by rw [← hl]; exact bbb.mpr hne
 refine V1 (aQ6 pl.isList ?_)
 refine ⟨s.heap.objs.size,_,[s.heap.objs.size],_,_,_,λi j=>HT.lexLt (vs.getD i []) (vs.getD j []),lE as vs,rfl,Walks.list (A:=X.A.in1) (show X.A.in1.handled=none from I.ok.hd hc) s.heap.objs.size p ?_ its.toArray,⟨⟨_,aJ2 _ rfl,rfl,rfl⟩,pl.isList.at λo e=>aBk _ e⟩,?_,by simpa using pos,?_,?_,?_,?_⟩
 .obtain ⟨o,e,_⟩:=pl.isList; exact a0P (aP5 e)
 .intro b hb'
  have lt:p<s.heap.objs.size:=by obtain ⟨o,e,_⟩:=pl.isList; exact aP5 e
  show b<(s.heap.push _).objs.size
  rw [aRI]
  simp only [apQ,atr,a4q] at hb'
  rcases hb' with rfl | rfl
  .exact ayu _
  .exact awZ lt
 .intro i a ns h1 h2
  obtain ⟨us,p1,i1⟩:=good0 i a ns h1 h2
  exact ⟨us,AH p1 λo e=>aBk _ e,i1⟩
 .intro h h' g kp i a ns h1 h2
  obtain ⟨us,p1,i1⟩:=g i a ns h1 h2
  have lt:=small i a ns h1 h2
  refine ⟨us,AH p1 λo e=>kp a o (by simpa using a0P lt) (λz=>?_) e,i1⟩
  have z':a=s.heap.objs.size+1:=by rw [z]; exact aRI ..
  rw [z'] at lt
  exact absurd lt (Nat.not_lt.mpr (aa0 _))
 .intro i j u v t Q' E' g ai aj q'
  obtain ⟨a,ha,rfl⟩:=vc rv ai
  obtain ⟨b,hb,rfl⟩:=vc rv aj
  have vi:i<vs.length:=by rw [← hlen]; exact (aWj.mp ha).1
  have vj:j<vs.length:=by rw [← hlen]; exact (aWj.mp hb).1
  obtain ⟨us,p1,i1⟩:=g i a _ ha (a8w vi)
  obtain ⟨ws,p2,i2⟩:=g j b _ hb (a8w vj)
  refine (HT.jZ p1 p2 i1 i2 hu1 ?_:wpAny (model X.prog X.w) X.A.in1 (compareOp .Lt (.ref a) (.ref b)) Q' E' t)
  have q2:=q'
  dsimp only at q2
  rw [A4 (a8w vi),A4 (a8w vj)] at q2
  exact q2
 .intro v h' tk hv hk
  obtain ⟨a,ha,rfl⟩:=vc rv hv
  exact ⟨.ref a,H,I.kept (t':=tk) (λb o e=>hk b o (by simpa using a0P (aP5 e)) (aBk _ e)),rfl,q _ a (by rw [aIh,← hl]) ha⟩
end
section
variable {X:Cx}
def RZ:V->List V->Hp->VK->Prop:=λx vs H Q=>∃ (l:Addr) (ns:List Int) (k:Int),x=.ref l/\vs=[.int k]/\H l=some (.lst (ns.map V.int))/\k∈ns/\Q .aX (upd H l (.lst ((ns.erase k).map V.int)))
theorem Lu (k:Int):∀ (ns:List Int),k∈ns->∃ j,ns[j]?=some k/\(∀ m z,m<j->ns[m]?=some z->z≠k)/\ns.erase k=ns.eraseIdx j
 | [],h=>nomatch h
 | x :: ns,h=>by
  by_cases hx:x=k
  .subst hx
   exact ⟨0,rfl,λm z hm=>absurd hm (Nat.not_lt_zero _),by rw [List.erase_cons_head,List.eraseIdx_cons_zero]⟩
  .have hm:k∈ns:=by
    rcases aDl.mp h with e | e
    .exact absurd e.symm hx
    .exact e
   obtain ⟨j,h1,h2,h3⟩:=Lu k ns hm
   refine ⟨j+1,by simpa using h1,λm z hm hz=>?_,?_⟩
   .cases m with
    | zero =>
     have e:x=z:=by simpa using hz
     rw [← e]; exact hx
    | succ m=>exact h2 m z (by lia) (by simpa using hz)
   .rw [List.erase_cons_tail (by simpa using hx),h3,aii]
theorem Vq {xs:List V} {us:List Value}:∀ (j:Nat),Vals xs us->Vals (xs.eraseIdx j) (us.eraseIdx j):=by
 intro j r
 induction r generalizing j with
 | nil=>exact .nil
 | cons h t ih =>
  cases j with
  | zero=>exact t
  | succ j=>exact .cons h (ih j)
theorem Gm:HF X "list.remove" RZ:=by
 intro pins s σ H x vs v us Q I rx rv h
 obtain ⟨l,ns,k,rfl,rfl,hH,hk,q⟩:=h
 cases rx
 obtain ⟨u,rfl,ru⟩:=rv.one
 obtain ⟨tk,rfl⟩:=ru
 obtain ⟨z,its,n,r,hl,e⟩:=I.iD hH
 rw [aH5] at hl z
 obtain ⟨j,h1,h2,h3⟩:=Lu k ns hk
 have get:∀ (m:Nat) (hm:m<its.toArray.size),∃ (i:Int) (t:Tok),ns[m]?=some i/\its.toArray[m]=.int i t:=λm hm=>by
  have hm':m<ns.length:=by rw [hl]; simpa using hm
  obtain ⟨w,hw,rw'⟩:=r.get (i:=m) (x:=.int ns[m]) (by rw [bdd,a8w hm']; rfl)
  obtain ⟨t,rfl⟩:=rw'
  refine ⟨ns[m],t,a8w hm',?_⟩
  have:its[m]?=some its[m]:=a8w (by simpa using hm)
  rw [hw] at this
  simpa using (bcC this).symm
 have hj:j<its.toArray.size:=by
  have:=(aWj.mp h1).1
  rw [hl] at this; simpa using this
 refine call_meets F.slot_list_remove ⟨_,e,rfl⟩ F.entry_list_remove (F.args_list_remove_2 _ _) (MeetsSeq.list_remove l its.toArray n (.int k tk) (λy=>match y with | .int i _=>i == k | _=>false) (λy hy=>?_) j hj ?_ (λm hm xR=>?_) (by rw [aIh,← hl]; exact z)) ⟨e,?_⟩
 .obtain ⟨m,hm,rfl⟩:=Array.getElem_of_mem hy
  obtain ⟨i,t,_,e2⟩:=get m hm
  rw [e2]
  exact MeetsSeq.EqGives.int i k t tk
 .obtain ⟨i,t,e1,e2⟩:=get j hj
  rw [h1] at e1; cases e1
  rw [e2]
  simp
 .obtain ⟨i,t,e1,e2⟩:=get m hm
  rw [e2]
  simpa using h2 m i xR e1
 .refine ⟨.aX,_,I.lO (its':=its.eraseIdx j) (ys:=(ns.erase k).map V.int) hH e ?_ ?_ ?_,rfl,q⟩
  .rw [List.eraseIdxIfInBounds_toArray]
  .rw [h3]
   have em:∀ (xs:List Int) (i:Nat),(xs.eraseIdx i).map V.int=(xs.map V.int).eraseIdx i:=λxs=>by
    induction xs with
    | nil=>intro i; rfl
    | cons y xs ih=>intro i; cases i with
     | zero=>rfl
     | succ i=>rw [aii,ar3,ar3,aii,ih]
   rw [em]
   exact Vq j r
  .rw [aH5]
   exact ajJ acH z
end
section
variable {κ:Type} [DecidableEq κ]
def aT (kvs:List (κ×V)) (k:κ):Option V:=(kvs.find? λkv=>decide (kv.1=k)).map (·.2)
def putK (kvs:List (κ×V)) (k:κ) (v:V):List (κ×V) :=
 if (kvs.any λkv=>decide (kv.1=k))=true then kvs.map (λkv=>if kv.1=k then (kv.1,v) else kv) else kvs++[(k,v)]
def cy (kvs:List (κ×V)) (k:κ):List (κ×V):=kvs.filter λkv=>decide (kv.1≠k)
theorem ZP {p:κ×V} {r:List (κ×V)} {k:κ} (e:p.1=k):aT (p :: r) k=some p.2:=by simp [aT,find?_cons,e]
theorem ZK {p:κ×V} {r:List (κ×V)} {k:κ} (e:¬ p.1=k):aT (p :: r) k=aT r k:=by simp [aT,find?_cons,e]
theorem yN (k:κ):∀ kvs:List (κ×V),(kvs.any λkv=>decide (kv.1=k))=(aT kvs k).isSome
 | []=>rfl
 | p :: r=>by
  rw [any_cons]
  by_cases e:p.1=k
  .simp only [ZP e,aPy e,Bool.true_or,Option.isSome_some]
  .rw [ZK e,aXf e,Bool.false_or]; exact yN k r
theorem Ls (k j:κ) (y:V):∀ kvs:List (κ×V),aT (kvs.map λkv=>if kv.1=k then (kv.1,y) else kv) j=(aT kvs j).map λx=>if j=k then y else x
 | []=>rfl
 | p :: r=>by
  have ih:=Ls k j y r
  rw [ar3]
  by_cases h:p.1=k
  .rw [aHZ h]
   by_cases e:p.1=j
   .rw [ZP (p:=(p.1,y)) e,ZP e,aGg,aHZ (e.symm.trans h)]
   .rw [ZK (p:=(p.1,y)) e,ZK e,ih]
  .rw [bd2 h]
   by_cases e:p.1=j
   .rw [ZP (p:=p) e,ZP e,aGg,bd2 (λz=>h (e.trans z))]
   .rw [ZK (p:=p) e,ZK e,ih]
theorem Mw (k j:κ) (y:V):∀ kvs:List (κ×V),aT kvs k=none->aT (kvs++[(k,y)]) j=if j=k then some y else aT kvs j
 | [],_=>by
  by_cases e:k=j
  .rw [aHZ e.symm]; exact ZP (p:=(k,y)) e
  .rw [bd2 (λz=>e z.symm)]; exact ZK (p:=(k,y)) e
 | p :: r,hn=>by
  rw [List.cons_append]
  have hk:¬ p.1=k:=λz=>by rw [ZP z] at hn; cases hn
  rw [ZK hk] at hn
  have ih:=Mw k j y r hn
  by_cases e:p.1=j
  .rw [ZP e,ZP e,bd2 (λz=>hk (e.trans z))]
  .rw [ZK e,ZK e,ih]
theorem BB (kvs:List (κ×V)) (k j:κ) (y:V):aT (putK kvs k y) j=if j=k then some y else aT kvs j:=by
 unfold putK
 by_cases a:(kvs.any λkv=>decide (kv.1=k))=true
 .rw [aHZ a,Ls]
  rw [yN] at a
  by_cases e:j=k
  .obtain ⟨x,hx⟩:=Option.isSome_iff_exists.mp a
   rw [aHZ e,e,hx,aGg,aHZ rfl]
  .rw [bd2 e]
   cases aT kvs j with
   | none=>rfl
   | some x=>rw [aGg,bd2 e]
 .rw [bd2 a]
  refine Mw k j y kvs ?_
  rw [yN] at a
  cases q:aT kvs k with
  | none=>rfl
  | some x=>rw [q] at a; exact (a rfl).elim
theorem t7 (kvs:List (κ×V)) (k:κ) (v:V):(putK kvs k v).length<=kvs.length+1:=by
 unfold putK
 split
 .rw [aH5]; lia
 .rw [aIt,aRy,a2H]; lia
theorem Tt {kvs:List (κ×V)} {k:κ} (v:V) (h:aT kvs k=none):putK kvs k v=kvs++[(k,v)]:=by
 unfold putK
 rw [yN,h]
 exact bd2 (by decide)
theorem cL.dW {o:Option V} {u:Option Value} (r:cL o u):o.isSome=u.isSome:=by
 cases o with
 | none=>cases u with
  | none=>rfl
  | some _=>exact (show False from r).elim
 | some _=>cases u with
  | none=>exact (show False from r).elim
  | some _=>rfl
theorem cL.getD {o:Option V} {u:Option Value} {d:V} {d':Value} (r:cL o u) (rd:RelV d d'):RelV (o.getD d) (u.getD d'):=by
 cases o with
 | none=>cases u with
  | none=>exact rd
  | some _=>exact (show False from r).elim
 | some _=>cases u with
  | none=>exact (show False from r).elim
  | some _=>exact r
theorem KV.val {kvs:List (κ×V)} {vs:List (κ×Value)} (r:KV kvs vs) (k:κ):cL (aT kvs k) (valueAt vs k):=by
 unfold KV at r
 induction r with
 | nil=>exact True.intro
 | @cons p q ps qs h t ih =>
  obtain ⟨h1,h2⟩:=h
  by_cases e:p.1=k
  .have e':q.1=k:=h1.symm.trans e
   have b:valueAt (q :: qs) k=some q.2:=by simp [valueAt,find?_cons,e']
   rw [ZP e,b]; exact h2
  .have e':¬ q.1=k:=λz=>e (h1.trans z)
   have b:valueAt (q :: qs) k=valueAt qs k:=by simp [valueAt,find?_cons,e']
   rw [ZK e,b]; exact ih
theorem KV.any {kvs:List (κ×V)} {vs:List (κ×Value)} (r:KV kvs vs) (k:κ):(kvs.any λkv=>decide (kv.1=k))=vs.any λkv=>decide (kv.1=k):=by
 unfold KV at r
 induction r with
 | nil=>rfl
 | cons h t ih=>rw [any_cons,any_cons,ih,h.1]
theorem KV.repl {kvs:List (κ×V)} {vs:List (κ×Value)} (r:KV kvs vs) (k:κ) {y:V} {u:Value} (ry:RelV y u) :
  KV (kvs.map λkv=>if kv.1=k then (kv.1,y) else kv) (vs.map λkv=>if kv.1=k then (kv.1,u) else kv):=by
 unfold KV at r ⊢
 induction r with
 | nil=>exact .nil
 | @cons p q ps qs h t ih =>
  rw [ar3,ar3]
  refine .cons ?_ ih
  obtain ⟨h1,h2⟩:=h
  by_cases e:p.1=k
  .rw [aHZ e,aHZ (h1.symm.trans e)]; exact ⟨h1,ry⟩
  .rw [bd2 e,bd2 (λz=>e (h1.trans z))]; exact ⟨h1,h2⟩
theorem KV.put {kvs:List (κ×V)} {vs:List (κ×Value)} (r:KV kvs vs) (k:κ) {y:V} {u:Value} (ry:RelV y u):KV (putK kvs k y) (stored vs k u):=by
 unfold putK stored
 rw [r.any k]
 by_cases e:(vs.any λkv=>decide (kv.1=k))=true
 .rw [aHZ e,aHZ e]; exact r.repl k ry
 .rw [bd2 e,bd2 e]; exact Paired.snoc r ⟨rfl,ry⟩
theorem KV.drop {kvs:List (κ×V)} {vs:List (κ×Value)} (r:KV kvs vs) (k:κ):KV (cy kvs k) (without vs k):=by
 unfold KV at r ⊢
 unfold cy without
 induction r with
 | nil=>exact .nil
 | @cons p q ps qs h t ih =>
  obtain ⟨h1,h2⟩:=h
  rw [amZ,amZ]
  by_cases e:p.1=k
  .have a:¬ decide (p.1≠k)=true:=by simp [e]
   have b:¬ decide (q.1≠k)=true:=by simp [h1.symm.trans e]
   rw [bd2 a,bd2 b]; exact ih
  .have e':¬ q.1=k:=λz=>e (h1.trans z)
   have a:decide (p.1≠k)=true:=by simp [e]
   have b:decide (q.1≠k)=true:=by simp [e']
   rw [aHZ a,aHZ b]; exact .cons ⟨h1,h2⟩ ih
theorem KV.length {kvs:List (κ×V)} {vs:List (κ×Value)} (r:KV kvs vs):kvs.length=vs.length:=Paired.length r
theorem Tr (kvs:List (κ×V)) (k:κ):(cy kvs k).length<=kvs.length:=aYO _ _
end
theorem g6 {P:Program} {w:World} {k:Key} {u:Value} (r:RelV (kV k) u):(ZG P w).is k u=true:=by
 cases k with
 | inl i=>obtain ⟨t,e⟩:=(show ∃ t,u=Value.int i t from r); subst e; exact V7 P w i t
 | inr x=>obtain ⟨t,e⟩:=(show ∃ t,u=Value.str x t from r); subst e; exact V6 P w x t
theorem Mv {P:Program} {w:World}:∀ {ks:List Key} {us:List Value},Vals (ks.map kV) us->ItemsAre (ZG P w) ks us
 | [],_,r=>by rw [map_nil] at r; cases r; exact .nil
 | k :: ks,_,r=>by
  rw [ar3] at r
  cases r with
  | cons h t=>exact .cons (g6 h) (Mv t)
abbrev KT (H:Hp):List (List Key×V)->List (List Key×Addr×Value)->Prop:=Paired λp q=>p.1=q.1/\H q.2.1=some (.tup (p.1.map kV))/\RelV p.2 q.2.2
theorem KT.val {H:Hp} {kvs:List (List Key×V)} {xs:List (List Key×Addr×Value)} (r:KT H kvs xs) (k:List Key):cL (aT kvs k) ((atKey xs k).map (·.2)):=by
 induction r with
 | nil=>exact True.intro
 | @cons p q ps qs h t ih =>
  obtain ⟨h1,_,h2⟩:=h
  by_cases e:p.1=k
  .have e':q.1=k:=h1.symm.trans e
   have b:atKey (q :: qs) k=some q.2:=by simp [atKey,find?_cons,e']
   rw [ZP e,b]; exact h2
  .have e':¬ q.1=k:=λz=>e (h1.trans z)
   have b:atKey (q :: qs) k=atKey qs k:=by simp [atKey,find?_cons,e']
   rw [ZK e,b]; exact ih
theorem KT.repl {H:Hp} {kvs:List (List Key×V)} {xs:List (List Key×Addr×Value)} (r:KT H kvs xs) (k:List Key) {y:V} {u:Value} (ry:RelV y u) :
  KT H (kvs.map λkv=>if kv.1=k then (kv.1,y) else kv) (xs.map (putAt k u)):=by
 induction r with
 | nil=>exact .nil
 | @cons p q ps qs h t ih =>
  rw [ar3,ar3]
  refine .cons ?_ ih
  obtain ⟨h1,h2,h3⟩:=h
  unfold putAt
  by_cases e:p.1=k
  .rw [aHZ e,aHZ (h1.symm.trans e)]; exact ⟨h1,h2,ry⟩
  .rw [bd2 e,bd2 (λz=>e (h1.trans z))]; exact ⟨h1,h2,h3⟩
theorem KT.put {H:Hp} {kvs:List (List Key×V)} {xs:List (List Key×Addr×Value)} (r:KT H kvs xs) (k:List Key) {b:Addr} {y:V} {u:Value} (hb:H b=some (.tup (k.map kV))) (ry:RelV y u) :
  KT H (putK kvs k y) (storedH xs k b u):=by
 have e:(kvs.any λkv=>decide (kv.1=k))=(atKey xs k).isSome:=by
  rw [yN,(r.val k).dW,Option.isSome_map]
 unfold putK storedH
 rw [e]
 by_cases q:(atKey xs k).isSome=true
 .rw [aHZ q,aHZ q]; exact r.repl k ry
 .rw [bd2 q,bd2 q]; exact Paired.snoc r ⟨rfl,hb,ry⟩
theorem KT.keeps {H H':Hp} {kvs:List (List Key×V)} {xs:List (List Key×Addr×Value)} (r:KT H kvs xs) (ht:∀ b ys,H b=some (.tup ys)->H' b=some (.tup ys)):KT H' kvs xs :=
 Paired.se r λ_ _ z=>⟨z.1,ht _ _ z.2.1,z.2.2⟩
section
variable {P:Program} {w:World} {H:Hp} {h:Heap} {a:Addr}
theorem qE {u:HO} (ok:dz P w H h) (e:Rd H a u):aJ P w H h a u:=e.ok ok
theorem iR {kvs:List (Key×V)} (ok:dz P w H h) (e:Rd H a (.dK kvs)):kvs.length<=sizeLine/\(a == sysModules)=false/\∃ vs,KV kvs vs/\h.DictOf (ZG P w) a vs :=
 show aJ P w H h a (.dK kvs) from qE ok e
theorem oj {kvs:List (Key×V)} (ok:dz P w H h) (e:H a=some (.dK kvs)):kvs.length<=sizeLine/\(a == sysModules)=false/\∃ vs,KV kvs vs/\h.DictOf (ZG P w) a vs:=iR ok (.inl e)
theorem yE {ks:List Key} (ok:dz P w H h) (e:H a=some (.tup (ks.map kV))):(tupleKind (ZG P w)).is h ks a:=by
 obtain ⟨_,its,r,o,h1,h2,n,h3⟩:=(show aJ P w H h a (.tup (ks.map kV)) from ok a _ e)
 exact ⟨o,its.toArray,n,h1,h2,h3,by simpa using Mv r⟩
theorem iQ {kvs:List (List Key×V)} (ok:dz P w H h) (e:Rd H a (.dT kvs)):kvs.length<=sizeLine/\(a == sysModules)=false /\
  ∃ xs,KT H kvs xs/\h.DictOfH (tupleKind (ZG P w)) a xs:=by
 obtain ⟨z,y,xs,r,o,es,ep,h1,h2,h3,h4,h5⟩:=(show aJ P w H h a (.dT kvs) from qE ok e)
 refine ⟨z,y,xs,r,o,es,ep,h1,h2,h3,h4,λx hx=>?_,h5⟩
 have all:∀ {l:List (List Key×V)} {m:List (List Key×Addr×Value)},KT H l m->∀ x∈m,(tupleKind (ZG P w)).is h x.1 x.2.1:=by
  intro l m q
  induction q with
  | nil=>intro x hx; exact nomatch hx
  | @cons p q ps qs hq t ih =>
   intro x hx
   rcases aDl.mp hx with e | hx
   .subst e
    exact yE ok (by rw [← hq.1]; exact hq.2.1)
   .exact ih x hx
 exact all r x hx
theorem yi {kvs:List (List Key×V)} (ok:dz P w H h) (e:H a=some (.dT kvs)):kvs.length<=sizeLine/\(a == sysModules)=false /\
  ∃ xs,KT H kvs xs/\h.DictOfH (tupleKind (ZG P w)) a xs:=iQ ok (.inl e)
end
def eZ (H:Hp) (a:Addr) (y:V) (r:Option V):Prop :=
 (∃ kvs k,Rd H a (.dK kvs)/\y=kV k/\r=aT kvs k)\/∃ kvs k b,Rd H a (.dT kvs)/\y=.ref b/\H b=some (.tup (k.map kV))/\r=aT kvs k
def jg (H:Hp) (a:Addr) (y v:V) (H':Hp):Prop :=
 (∃ kvs k,H a=some (.dK kvs)/\y=kV k/\kvs.length<sizeLine/\H'=upd H a (.dK (putK kvs k v))) \/
 ∃ kvs k b,H a=some (.dT kvs)/\y=.ref b/\H b=some (.tup (k.map kV))/\kvs.length<sizeLine/\H'=upd H a (.dT (putK kvs k v))
theorem eZ.k {H:Hp} {a:Addr} {kvs:List (Key×V)} {k:Key} (e:H a=some (.dK kvs)):eZ H a (kV k) (aT kvs k):=.inl ⟨kvs,k,.inl e,rfl,rfl⟩
theorem jg.k {H:Hp} {a:Addr} {kvs:List (Key×V)} {k:Key} {v:V} (e:H a=some (.dK kvs)) (hl:kvs.length<sizeLine):jg H a (kV k) v (upd H a (.dK (putK kvs k v))):=.inl ⟨kvs,k,e,rfl,hl,rfl⟩
section
variable {X:Cx} {pins:List (Addr×Obj)} {σ:St} {H:Hp} {s:Shared} {a:Addr} {y v:V} {u r:Value} {o:Option V} {A:Around} {E:Value->Shared->Prop}
theorem Inv.big (I:Inv X pins σ H s):sysModules<s.heap.objs.size:=by
 have h:mainGlobals<s.heap.objs.size:=(I.mod.glob.keeps I.bk).lt
 exact Nat.lt_trans (by decide) h
theorem Mu {Q:Value->Shared->Prop} (hu:A.units+1<cLine) (I:Inv X pins σ H s) (g:eZ H a y (some v)) (ry:RelV y u) (h:∀ w' s',Inv X pins σ H s'->RelV v w'->Q w' s') :
  wpAny (model X.prog X.w) A (getItem (.ref a) u) Q E s:=by
 rcases g with ⟨kvs,k,e,ey,l⟩ | ⟨kvs,k,b,e,ey,eb,l⟩
 .subst ey
  obtain ⟨z,hd,vs,rel,dd⟩:=iR I.hok e
  obtain ⟨w',hw,rw'⟩:=cL.some_of (v:=v) (o:=valueAt vs k) (by rw [l]; exact rel.val k)
  exact wpAny_getItem_of (g6 ry) dd.mapOf hw (h w' _ (I.tok _) rw')
 .subst ey
  cases (show u=Value.ref b from ry)
  obtain ⟨z,hd,xs,rel,dd⟩:=iQ I.hok e
  obtain ⟨w',hw,rw'⟩:=cL.some_of (v:=v) (o:=(atKey xs k).map (·.2)) (by rw [l]; exact rel.val k)
  obtain ⟨p,hp,hp2⟩:=Option.map_eq_some_iff.mp hw
  refine wpAny_getItem_heap (aSs hu) (yE I.hok eb) dd hp ?_
  rw [hp2]
  exact h w' _ (I.tok _) rw'
theorem ED {Q:Value->Shared->Prop} (hu:A.units+1<cLine) (I:Inv X pins σ H s) (g:eZ H a y o) (ry:RelV y u) (h:∀ s',Inv X pins σ H s'->Q (.bool o.isSome) s') :
  wpAny (model X.prog X.w) A (compareOp .In u (.ref a)) Q E s:=by
 rcases g with ⟨kvs,k,e,ey,l⟩ | ⟨kvs,k,b,e,ey,eb,l⟩
 .subst ey
  obtain ⟨z,hd,vs,rel,dd⟩:=iR I.hok e
  refine wpAny_in_of (g6 ry) hd dd.mapOf ?_
  rw [← (rel.val k).dW,← l]
  exact h _ (I.tok _)
 .subst ey
  cases (show u=Value.ref b from ry)
  obtain ⟨z,hd,xs,rel,dd⟩:=iQ I.hok e
  refine wpAny_in_heap (aSs hu) (yE I.hok eb) hd dd ?_
  have q:=(rel.val k).dW
  rw [Option.isSome_map] at q
  rw [← q,← l]
  exact h _ (I.tok _)
theorem A3 {h':Heap} {t':Nat} {ob:HO} (I:Inv X pins σ H s) (mu:zo (H a)) (hs:Heap.SameBut a s.heap h') (he:∃ q,h'.get? a=some q) (new:aJ X.prog X.w (upd H a ob) h' a ob) :
  Inv X pins σ (upd H a ob) { s with heap:=h',toks:=t' } :=
 I.write (x:=a) (e:=a) mu (.inl rfl) (λb q hb z=>(hs.2 b hb).trans z) he new
theorem E3 {P:Program} {w:World} {H':Hp} {h':Heap} {kvs:List (Key×V)} {vs:List (Key×Value)} (z:kvs.length<=sizeLine) (hd:(a == sysModules)=false) (rel:KV kvs vs) (dd:h'.DictOf (ZG P w) a vs) :
  aJ P w H' h' a (.dK kvs):=⟨z,hd,vs,rel,dd⟩
theorem Mt {H':Hp} {Q:Unit->Shared->Prop} (hu:A.units+1<cLine) (I:Inv X pins σ H s) (g:jg H a y v H') (ry:RelV y u) (rv:RelV v r) (h:∀ s',Inv X pins σ H' s'->Q () s') :
  wpAny (model X.prog X.w) A (setItem (.ref a) u r) Q E s:=by
 rcases g with ⟨kvs,k,e,ey,l,eH⟩ | ⟨kvs,k,b,e,ey,eb,l,eH⟩
 .subst ey eH
  obtain ⟨z,hd,vs,rel,dd⟩:=oj I.hok e
  have hz:vs.length<=sizeLine:=by rw [← rel.length]; exact z
  have hl:(putK kvs k v).length<=sizeLine:=by have:=t7 kvs k v; lia
  refine wpAny_setItem_pairs (hsz:=hz) (g6 ry) dd λh' o7 hs=>h _ ?_
  have he:∃ q,h'.get? a=some q:=let ⟨q,_,_,hq,_⟩:=o7; ⟨q,hq⟩
  exact A3 I (by rw [e]; exact True.intro) hs he (E3 hl hd (rel.put k rv) o7)
 .subst ey eH
  cases (show u=Value.ref b from ry)
  obtain ⟨z,hd,xs,rel,dd⟩:=yi I.hok e
  have hz:xs.length<=sizeLine:=by rw [← Paired.length rel]; exact z
  have hl:(putK kvs k v).length<=sizeLine:=by have:=t7 kvs k v; lia
  refine wpAny_setItem_heap (hsz:=hz) (aSs hu) (yE I.hok eb) dd λh' o7 hs=>h _ ?_
  obtain ⟨q,es,ep,hq,h2,h3,h4,_,h5⟩:=o7
  refine A3 I (by rw [e]; exact True.intro) hs ⟨q,hq⟩ ⟨hl,hd,_,(rel.put k eb rv).keeps λc ys ec=>?_,q,es,ep,hq,h2,h3,h4,h5⟩
  rw [Ze (qK ec e (λz=>nomatch z))]
  exact ec
end
section
variable {X:Cx} {pins:List (Addr×Obj)} {σ:St} {H:Hp} {s:Shared} {a:Addr} {kvs:List (Key×V)} {k:Key} {u:Value} {A:Around} {E:Value->Shared->Prop}
theorem yk {v:V} {more:List Value} {Q:Value->Shared->Prop} (I:Inv X pins σ H s) (e:H a=some (.dK kvs)) (ry:RelV (kV k) u) (l:aT kvs k=some v) (hm:more=[]\/∃ x,more=[x])
  (h:∀ w' s',Inv X pins σ (upd H a (.dK (cy kvs k))) s'->RelV v w'->Q w' s'):wpAny (model X.prog X.w) A (call (.builtin "dict.pop") (.ref a :: u :: more)) Q E s:=by
 obtain ⟨z,hd,vs,rel,dd⟩:=oj I.hok e
 obtain ⟨w',hw,rw'⟩:=cL.some_of (v:=v) (o:=valueAt vs k) (by rw [← l]; exact rel.val k)
 have hp:(keyPart u).isSome=true:=by
  cases k with
  | inl i=>obtain ⟨t,q⟩:=(show ∃ t,u=Value.int i t from ry); subst q; rfl
  | inr x=>obtain ⟨t,q⟩:=(show ∃ t,u=Value.str x t from ry); subst q; rfl
 have ha:argsOk "dict.pop" ⟨.ref a :: u :: more,[]⟩:=by
  rcases hm with q | ⟨x,q⟩
  .subst q; exact PySem.F.args_dict_pop_2 _ _
  .subst q; exact PySem.F.args_dict_pop_3 _ _ _
 refine call_meetsIn PySem.F.slot_dict_pop dd.typeIs PySem.F.entry_dict_pop ha (meets_dict_pop_there (ZG X.prog X.w) a (g6 ry) more hm hp)
  ⟨vs,w',dd,by rw [← rel.length]; exact z,hw,λh' o7 hs=>h w' _ ?_ rw'⟩
 have he:∃ q,h'.get? a=some q:=let ⟨q,_,_,hq,_⟩:=o7; ⟨q,hq⟩
 exact A3 I (by rw [e]; exact True.intro) hs he (E3 (ajJ (Tr kvs k) z) hd (rel.drop k) o7)
end
def zk (i:Expr):Prop:=∀ ov iv,subscripted i false ov iv=operate [ov,iv] (getItem ov iv)
theorem RY {prog:Program} {w:World} {A:Around} {E:Value->Shared->Prop} {s:Shared} {env:Env} {value slice:Expr} {pos:Pos} {T id:String} {Q:Value->Shared->Prop}
  (hl:typeLookup (.type T) "__getitem__" = pure (some (.builtin id))) (hs:zk slice)
  (h:wpAny (model prog w) A (eval value env) (λo s₁=>wpAny (model prog w) A (eval slice env) (λi s₂=>s₂.TypeIs o T/\wpAny (model prog w) A (getItem o i) Q E s₂) E s₁) E s) :
  wpAny (model prog w) A (eval (.Subscript value slice pos) env) Q E s:=by
 refine Subscript_ (a7k h (λo s₁ h₁=>a7k h₁ (λi s₂ h₂=>?_) λ_ _ x=>x) λ_ _ x=>x)
 obtain ⟨hT,h₂⟩:=h₂
 unfold subscriptTail
 refine aLa ?_
 rw [getitemInPython_of_ne hT.not_modules]
 refine aLa (wpAny_specialOf hT hl ?_)
 have fin:wpAny (model prog w) A (subscripted slice false o i) (λr s₃=>wpAny (model prog w) A (letTemporaryGo value o r >>= λ_=>pure r) Q E s₃) E s₂:=by
  rw [hs o i]
  exact wpAny_operating (a7k h₂ (λr s₃ h₃=>aLa (wpAny_letTemporaryGo (aLj h₃))) λ_ _ x=>x)
 first
  | exact aLj (aLa fin)
  | exact aLa (aLj (aLa fin))
  | exact aLa fin
theorem V0 {X:Cx} {pins:List (Addr×Obj)} {σ:St} {H:Hp} {s:Shared} {a:Addr} {y:V} {o:Option V} (I:Inv X pins σ H s) (g:eZ H a y o):s.TypeIs (.ref a) "dict" := by
 rcases g with ⟨kvs,k,e,_,_⟩ | ⟨kvs,k,b,e,_,_,_⟩
 .obtain ⟨_,_,vs,_,dd⟩:=iR I.hok e
  exact dd.typeIs
 .obtain ⟨_,_,xs,_,dd⟩:=iQ I.hok e
  exact dd.typeIs
def wc (td ty:TE):TE:=λσ H Q=>td σ H λx H1=>ty σ H1 λy H2=>∃ a v,x=.ref a/\eZ H2 a y (some v)/\Q v H2
def CP (ty td:TE):TE:=λσ H Q=>ty σ H λy H1=>td σ H1 λx H2=>∃ a o,x=.ref a/\eZ H2 a y o/\Q (.bl o.isSome) H2
def wD (td ty tv:TE):TS:=λD σ H=>tv σ H λv H1=>td σ H1 λx H2=>ty σ H2 λy H3=>∃ a H4,x=.ref a/\jg H3 a y v H4/\D.nx σ H4
def wF (td ty tv:TE) (rd:V->V->Hp->VK->Prop):TS:=λD σ H=>td σ H λx H1=>ty σ H1 λy H2=>∃ a v,x=.ref a/\eZ H2 a y (some v) /\
 tv σ H2 λy2 H3=>rd v y2 H3 λz H4=>∃ H5,jg H4 a y z H5/\D.nx σ H5
section
variable {X:Cx} {o i e value:Expr} {pos pos' tpos:Pos} {td ty tv:TE}
theorem K7 (hu:X.A.units+1<cLine) (ho:PE X o td) (hi:PE X i ty) (hs:zk i):PE X (.Subscript o i pos) (wc td ty):=by
 intro pins s σ H Q I h
 refine RY PySem.F.slot_dict_getitem.lookup hs (cF (ho pins s σ H _ I h) λu s1 x H1 I1 rx q1=>bG (hi pins s1 σ H1 _ I1 q1) λiv s2 ⟨y,H2,I2,ry,a,v,ex,g,q2⟩=>?_)
 subst ex
 obtain rfl:u=Value.ref a:=rx
 exact ⟨V0 I2 g,Mu hu I2 g ry λw' s3 I3 rw'=>⟨v,H2,I3,rw',q2⟩⟩
theorem Q3 (hu:X.A.units+1<cLine) (hi:PE X i ty) (ho:PE X o td):PC X .In i o (CP ty td):=by
 intro pins s σ H Q I h
 refine cF (hi pins s σ H _ I h) λiv s1 y H1 I1 ry q1=>bG (ho pins s1 σ H1 _ I1 q1) λu s2 ⟨x,H2,I2,rx,a,ov,ex,g,q2⟩=>?_
 subst ex
 obtain rfl:u=Value.ref a:=rx
 exact ED hu I2 g ry λs3 I3=>⟨.bl ov.isSome,H2,I3,rfl,q2⟩
theorem Fp (hu:X.A.units+1<cLine) (ho:PE X o td) (hi:PE X i ty) (hv:PE X value tv) (hs:swapsWith value (some (.Subscript o i pos')) pos.line X.env=pure false) :
  PS X (.Assign [.Subscript o i pos'] value pos) (wD td ty tv):=by
 intro pins s σ H D I h
 refine wpAny_Assign_Subscript (cF (hv pins s σ H _ I h) λr s1 v H1 I1 rv q1=>cF (ho pins s1 σ H1 _ I1 q1) λu s2 x H2 I2 rx q2=>bG (hi pins s2 σ H2 _ I2 q2) λiv s3 ⟨y,H3,I3,ry,a,H4,ex,g,q3⟩=>?_) hs
 subst ex
 obtain rfl:u=Value.ref a:=rx
 exact Mt hu I3 g ry rv λs4 I4=>⟨σ,H4,I4,q3⟩
theorem RX {op:Operator} {rd:V->V->Hp->VK->Prop} (hu:X.A.units+1<cLine) (ho:PE X o td) (hi:PE X i ty) (hv:PE X value tv) (hop:zw X op rd)
  (ha:∀ ov iv new,augStore i ov iv new=(do holding [new,ov,iv] (setItem ov iv new); release [new,ov,iv] []; pure .next)):PS X (.AugAssign (.Subscript o i tpos) op value pos) (wF td ty tv rd):=by
 intro pins s σ H D I h
 refine wpAny_AugAssign_SubscriptAny (cF (ho pins s σ H _ I h) λu s1 x H1 I1 rx q1=>bG (hi pins s1 σ H1 _ I1 q1) λiv s2 ⟨y,H2,I2,ry,a,v,ex,g,q2⟩=>?_) ha
 subst ex
 obtain rfl:u=Value.ref a:=rx
 refine Mu hu I2 g ry λw' s3 I3 rw'=>cF (hv pins s3 σ H2 _ I3 q2) λw2 s4 y2 H3 I4 Ob q3=>bG (hop pins s4 σ H3 v y2 w' w2 _ I4 rw' Ob q3) λw3 s5 ⟨z,H4,I5,rz,H5,g5,q4⟩=>?_
 exact Mt hu I5 g5 ry rz λs6 I6=>⟨σ,H5,I6,q4⟩
end
theorem Tq {P:Program} {w:World} {H:Hp} (h:Heap) (hb:sysModules<h.objs.size):aJ P w H (h.push { cls:=.type "dict",data:=.dict #[] }) h.objs.size (.dK []) :=
 ⟨auX _,aNx.mpr (aay (a0P hb)),[],.nil,Heap.DictOf.new h⟩
def Q2:TE:=λ_ H Q=>∀ p,H p=none->Q (.ref p) (upd H p (.dK []))
section
variable {X:Cx} {pos:Pos}
theorem BA:PE X (.Dict [] [] pos) Q2:=λpins s σ H Q I h =>
 wpAny_Dict_empty ⟨.ref s.heap.objs.size,_,I.laid (a:=s.heap.objs.size) (o:=.dK []) (t':=s.toks) (λ_ _ q=>aBk _ q) (avG _) (Tq s.heap I.big),rfl,h _ (I.hok.fresh (avG _))⟩
end
structure M1 (X:Cx) (o:Expr) (m:Str) (apos:Pos) (e:Expr) (cpos:Pos):Prop where
 base:attributeBase o m X.env (eval o X.env)=eval o X.env
 few:((backTo cpos (starEach [e] X.env)).all (λx=>!x.1) && (backToKw cpos (keywordEach [] X.env)).all (λx=>x.1.isSome)
  && decide (([e]:List Expr).length+([]:List Keyword).length+(if ([]:List Keyword).isEmpty then 0 else 1)<30))=true
 line:(apos.endLine == cpos.line)=true
 trees:backTo cpos (starEach [e] X.env)=[(false,eval e X.env)]
structure M2 (X:Cx) (o:Expr) (m:Str) (apos:Pos) (e f:Expr) (cpos:Pos):Prop where
 base:attributeBase o m X.env (eval o X.env)=eval o X.env
 few:((backTo cpos (starEach [e,f] X.env)).all (λx=>!x.1) && (backToKw cpos (keywordEach [] X.env)).all (λx=>x.1.isSome)
  && decide (([e,f]:List Expr).length+([]:List Keyword).length+(if ([]:List Keyword).isEmpty then 0 else 1)<30))=true
 line:(apos.endLine == cpos.line)=true
 trees:backTo cpos (starEach [e,f] X.env)=[(false,eval e X.env),(false,eval f X.env)]
def BX (H:Hp) (a:Addr):Prop:=(∃ kvs,Rd H a (.dK kvs))\/∃ kvs,Rd H a (.dT kvs)
theorem AF {X:Cx} {pins:List (Addr×Obj)} {σ:St} {H:Hp} {s:Shared} {a:Addr} (I:Inv X pins σ H s) (d:BX H a) :
  s.TypeIs (.ref a) "dict" /\ (∀ b,Value.ref a=.ref b->∃ ob,s.heap.get? b=some ob/\ob.dict=none)/\(a == sysModules)=false:=by
 rcases d with ⟨kvs,e⟩ | ⟨kvs,e⟩
 .obtain ⟨_,hd,vs,_,dd⟩:=iR I.hok e
  refine ⟨dd.typeIs,λb q=>?_,hd⟩
  cases q
  obtain ⟨ob,_,_,h1,h2,_⟩:=dd
  exact ⟨ob,h1,h2.2.1⟩
 .obtain ⟨_,hd,xs,_,dd⟩:=iQ I.hok e
  refine ⟨dd.typeIs,λb q=>?_,hd⟩
  cases q
  obtain ⟨ob,_,_,h1,h2,_⟩:=dd
  exact ⟨ob,h1,h2.2.1⟩
section
variable {X:Cx} {pins:List (Addr×Obj)} {σ:St} {H:Hp} {s:Shared} {a:Addr} {y d:V} {u r:Value} {o:Option V} {A:Around} {E:Value->Shared->Prop}
theorem QZ {Q:Value->Shared->Prop} (hu:A.units+1<cLine) (I:Inv X pins σ H s) (g:eZ H a y o) (ry:RelV y u) (rd:RelV d r) (h:∀ w' s',Inv X pins σ H s'->RelV (o.getD d) w'->Q w' s') :
  wpAny (model X.prog X.w) A (call (.builtin "dict.get") [.ref a,u,r]) Q E s:=by
 rcases g with ⟨kvs,k,e,ey,l⟩ | ⟨kvs,k,b,e,ey,eb,l⟩
 .subst ey
  obtain ⟨z,hd,vs,rel,dd⟩:=iR I.hok e
  refine call_meetsIn aou dd.typeIs PySem.F.entry_dict_get (PySem.F.args_dict_get_3 _ _ _) (meets_dict_get_default (ZG X.prog X.w) a (g6 ry) hd r) ⟨_,dd.mapOf,h _ _ (I.tok _) ?_⟩
  rw [l]
  exact (rel.val k).getD rd
 .subst ey
  cases (show u=Value.ref b from ry)
  obtain ⟨z,hd,xs,rel,dd⟩:=iQ I.hok e
  refine call_meetsIn aou dd.typeIs PySem.F.entry_dict_get (PySem.F.args_dict_get_3 _ _ _) (meetsH_dict_get_default (tupleKind (ZG X.prog X.w)) a b hd r) ⟨aSs hu,k,xs,yE I.hok eb,dd,h _ _ (I.tok _) ?_⟩
  rw [l]
  exact (rel.val k).getD rd
end
def QY (td ty tx:TE):TE:=λσ H Q=>td σ H λx H1=>∃ a,x=.ref a/\BX H1 a/\ty σ H1 λy H2=>tx σ H2 λz H3=>∃ o,eZ H3 a y o/\Q (o.getD z) H3
def QX (td ty:TE):TE:=λσ H Q=>td σ H λx H1=>∃ a,x=.ref a/\BX H1 a/\ty σ H1 λy H2=>∃ kvs k v,H2 a=some (.dK kvs)/\y=kV k/\aT kvs k=some v/\Q v (upd H2 a (.dK (cy kvs k)))
section
variable {X:Cx} {o e f:Expr} {apos cpos:Pos} {td ty tx:TE}
theorem Uy (hu:X.A.units+1<cLine) (ho:PE X o td) (he:PE X e ty) (hf:PE X f tx) (m:M2 X o "get" apos e f cpos):PE X (.Call (.Attribute o "get" apos) [e,f] [] cpos) (QY td ty tx):=by
 intro pins s σ H Q I h
 refine wpAny_Call_method m.base m.few m.line ajH aou PySem.F.type_dict_get (bG (ho pins s σ H _ I h) λu s1 ⟨x,H1,I1,rx,a,ex,d,q1⟩=>?_)
 subst ex
 obtain rfl:u=Value.ref a:=rx
 obtain ⟨t1,t2,_⟩:=AF I1 d
 refine ⟨t1,t2,?_⟩
 rw [m.trees]
 refine ax7 rfl (aDs (aoz (cF (he pins s1 σ H1 _ I1 q1) λiv s2 y H2 I2 ry q2 =>
  aoz (bG (hf pins s2 σ H2 _ I2 q2) λfv s3 ⟨z,H3,I3,rz,ov,g,q3⟩=>a0z ?_))))
 exact QZ hu I3 g ry rz λw' s4 I4 rw'=>⟨_,H3,I4,rw',q3⟩
theorem Ux (ho:PE X o td) (he:PE X e ty) (m:M1 X o "pop" apos e cpos):PE X (.Call (.Attribute o "pop" apos) [e] [] cpos) (QX td ty):=by
 intro pins s σ H Q I h
 refine wpAny_Call_method m.base m.few m.line ajH PySem.F.slot_dict_pop PySem.F.type_dict_pop (bG (ho pins s σ H _ I h) λu s1 ⟨x,H1,I1,rx,a,ex,d,q1⟩=>?_)
 subst ex
 obtain rfl:u=Value.ref a:=rx
 obtain ⟨t1,t2,_⟩:=AF I1 d
 refine ⟨t1,t2,?_⟩
 rw [m.trees]
 refine ax7 rfl (aDs (aoz (bG (he pins s1 σ H1 _ I1 q1) λiv s2 ⟨y,H2,I2,ry,kvs,k,v,ea,ey,l,q2⟩=>a0z ?_)))
 subst ey
 exact yk I2 ea ry l (.inl rfl) λw' s3 I3 rw'=>⟨v,_,I3,rw',q2⟩
end
section
variable {κ:Type} [DecidableEq κ]
theorem mL:∀ {l:List κ} {k:κ},l.Nodup->¬ k∈l->(l++[k]).Nodup
 | [],k,_,_=>by simp
 | a :: r,k,h,hk=>by
  obtain ⟨h1,h2⟩:=aHW.mp h
  show (a :: (r++[k])).Nodup
  refine aHW.mpr ⟨λm=>?_,mL h2 λm=>hk (aDl.mpr (Or.inr m))⟩
  rcases bbY.mp m with q | q
  .exact h1 q
  .exact hk (aDl.mpr (Or.inl (adl.mp q).symm))
theorem UU {p:κ×V} {r:List (κ×V)} {k:κ} (e:p.1=k):cy (p :: r) k=cy r k:=by
 unfold cy
 rw [amZ,bd2 (by simp [e])]
theorem UT {p:κ×V} {r:List (κ×V)} {k:κ} (e:¬ p.1=k):cy (p :: r) k=p :: cy r k:=by
 unfold cy
 rw [amZ,aHZ (by simp [e])]
end
section
variable {X:Cx} {pins:List (Addr×Obj)} {σ:St} {H:Hp} {s:Shared} {d:Addr} {kvs:List (Key×V)} {o:Obj}
theorem Inv.frozen (I:Inv X pins σ H s) (h:H d=some (.dK kvs)) (ho:s.heap.get? d=some o):Inv X pins σ (upd H d (.bC o (.dK kvs))) s:=by
 have ne:∀ b u,H b=some u->u≠.dK kvs->b≠d:=λb u e n z=>by rw [z,h] at e; exact n (bcC e).symm
 have nn:∀ b,H b=none->b≠d:=λb e z=>by rw [z,h] at e; cases e
 have q:=I.step (g':=s.gens) (t':=s.toks) (d':=s.drawn) (ch:=[]) (h':=s.heap) (H':=upd H d (.bC o (.dK kvs))) (λ_ z=>nomatch z) (λb o' _ _ _ e _=>e) (λb o' _ _ _ e _=>⟨o'.slots,e⟩) (λb o' _ _ n=>by rw [Ze (nn b n)]; exact n) (λb o' _ e=>⟨o',e⟩)
  (λb xs e=>by rw [Ze (ne b _ e (by intro z; cases z))]; exact e) (λb o' u e=>by rw [Ze (ne b _ e (by intro z; cases z))]; exact e) (λb _ _ e=>by rw [Ze (ne b _ e (by intro z; cases z))]; exact e) (λm hm=>hm) (λb u e=>?_) I.bare
 .exact q
 .by_cases hb:b=d
  .subst hb
   rw [Za] at e
   cases e
   exact ⟨ho,I.hok b _ h⟩
  .rw [Ze hb] at e
   exact (I.hok b u e).stay (λ_ _ _ z=>z) (λc z=>by rw [Ze (ne c _ z (by intro y; cases y))]; exact z) (λc xs z=>by rw [Ze (ne c _ z (by intro y; cases y))]; exact z) λc oz z=>by rw [Ze (ne c _ z (by intro y; cases y))]; exact z
end
theorem K6 {P:Program} {w:World} {H:Hp} {h:Heap} {d:Addr} {o:Obj} {kvs:List (Key×V)} {es:Array DictEntry} {ep:Nat} (q:aJ P w H h d (.bC o (.dK kvs))) (he:o.data=.dict es ep):(d == sysModules)=false/\∃ vs,KV kvs vs/\h.DictAt (ZG P w) d vs ep:=by
 obtain ⟨ho,_,hs,vs,r,o',es',AB,h1,h2,h3,h4⟩:=q
 rw [ho] at h1; cases h1
 rw [he] at h3
 cases h3
 exact ⟨hs,vs,r,o,es,ho,h2,he,h4⟩
structure Src (P0:Program) (w0:World) (it l:Addr) (its:Array Value) (pos:Nat->Heap->Prop) (sq:Heap->Prop):Prop where
 item:∀ {A0:Around} {E0:Value->Shared->Prop} {t:Shared} {i:Nat} {x:Value} {Q0:Value->Shared->Prop},pos i t.heap->sq t.heap->its[i]?=some x->(∀ g,pos (i+1) g->Heap.SameBut it t.heap g->Q0 x { t with heap:=g })->wpAny (model P0 w0) A0 (Builtin.SmallTypes.nextOf (.ref it)) Q0 E0 t
 stop:∀ {A0:Around} {E0:Value->Shared->Prop} {t:Shared} {i:Nat} {Q0:Value->Shared->Prop},A0.handled=none->pos i t.heap->sq t.heap->its[i]?=none->(∀ g e,Heap.ExtBut it t.heap g->(∃ o,g.get? e=some o/\o.cls=.type "StopIteration")->E0 (.ref e) { t with heap:=g })->wpAny (model P0 w0) A0 (Builtin.SmallTypes.nextOf (.ref it)) Q0 E0 t
 gr:∀ {i:Nat} {g g':Heap},pos i g->(∀ o,g.get? it=some o->g'.get? it=some o)->pos i g'
 kJ:∀ {g g':Heap},sq g->(∀ o,g.get? l=some o->g'.get? l=some o)->sq g'
 obj:∀ {i:Nat} {g:Heap},pos i g->∃ o,g.get? it=some o/\∀ v,o.data≠.cell v
section
variable {P0:Program} {w0:World} {A0:Around} {E0:Value->Shared->Prop} {t:Shared}
theorem WA {it a:Addr} {i:Nat} {its:Array Value} {x:Value} {Q0:Value->Shared->Prop} (st:t.heap.IsTupleIter it a i) (tp:t.heap.IsTuple a its) (hx:its[i]?=some x)
  (k:∀ g,g.IsTupleIter it a (i+1)->Heap.SameBut it t.heap g->Q0 x { t with heap:=g }):wpAny (model P0 w0) A0 (Builtin.SmallTypes.nextOf (.ref it)) Q0 E0 t:=by
 obtain ⟨oi,gi,ci,di⟩:=id st
 obtain ⟨oa,ga,_,n,da⟩:=tp
 unfold Builtin.SmallTypes.nextOf
 refine aLa (ak8 (name:=Str.ofString "__next__") st.typeIs bcE (ab1 bcE st.typeIs F.entry_tuple_iterator_next ?_ (F.args_tuple_iterator_next_1 _)))
 show wpAny _ _ (field (.ref it) 0 >>= _) _ _ t
 refine aLa (aQx gi di (x:=.ref a) rfl ?_)
 show wpAny _ _ (if (Value.ref a == Value.none)=true then _ else _) _ _ t
 rw [bd2 (show ¬ ((Value.ref a == Value.none)=true) from aCK)]
 show wpAny _ _ (field (.ref it) 1 >>= _) _ _ t
 refine aLa (aQx gi di (x:=.int i 0) rfl ?_)
 show wpAny _ _ (seqItems? (.ref a) >>= _) _ _ t
 refine aLa (aAz ga da ?_)
 simp only [hx,Int.toNat_natCast]
 refine aLa (wpAny_setField gi di (by simp) (aLj ⟨x,rfl,aLj (k _ ⟨_,ajk _ gi (Obj.isFreed_of_fields (Obj.data_mapFields di _)),(Obj.cls_mapFields ..).trans ci,?_⟩ (Heap.SameBut.update ..))⟩))
 rw [Obj.data_mapFields di]
 simp [rawInt]
theorem Wz {it a:Addr} {i:Nat} {its:Array Value} {Q0:Value->Shared->Prop} (hA:A0.handled=none) (st:t.heap.IsTupleIter it a i) (tp:t.heap.IsTuple a its) (hx:its[i]?=none)
  (k:∀ g e,Heap.ExtBut it t.heap g->(∃ o,g.get? e=some o/\o.cls=.type "StopIteration")->E0 (.ref e) { t with heap:=g }):wpAny (model P0 w0) A0 (Builtin.SmallTypes.nextOf (.ref it)) Q0 E0 t:=by
 obtain ⟨oi,gi,ci,di⟩:=id st
 obtain ⟨oa,ga,_,n,da⟩:=tp
 unfold Builtin.SmallTypes.nextOf
 refine aLa (ak8 (name:=Str.ofString "__next__") st.typeIs bcE (ab1 bcE st.typeIs F.entry_tuple_iterator_next ?_ (F.args_tuple_iterator_next_1 _)))
 show wpAny _ _ (field (.ref it) 0 >>= _) _ _ t
 refine aLa (aQx gi di (x:=.ref a) rfl ?_)
 show wpAny _ _ (if (Value.ref a == Value.none)=true then _ else _) _ _ t
 rw [bd2 (show ¬ ((Value.ref a == Value.none)=true) from aCK)]
 show wpAny _ _ (field (.ref it) 1 >>= _) _ _ t
 refine aLa (aQx gi di (x:=.int i 0) rfl ?_)
 show wpAny _ _ (seqItems? (.ref a) >>= _) _ _ t
 refine aLa (aAz ga da ?_)
 simp only [hx,Int.toNat_natCast]
 refine aLa (ai2 (aLa (wpAny_setField gi di (by simp) ?_)))
 show wpAny _ _ (newExc (.type "StopIteration") [] >>= _) _ _ _
 refine aLa ?_
 simp only [newTuple,newExc]
 refine aLa (aol (aLa (m:=firstArgMember _ _) (wpAny_of_eq (a:=Value.none) (by first | rfl | (simp only [firstArgMember]; rfl)) (aol ?_ (by size_fits)))) (by size_fits))
 simp only [raiseNew]
 refine aLa (wpAny_handled ?_)
 first | rw [show A0.in1.handled=none from hA] | rw [hA]
 exact aLa (aLj (wpAny_throw (k _ _ (((Heap.SameBut.update ..).extBut.push _).push _) ⟨_,aJ2 _ rfl,rfl⟩)))
end
theorem y9 {h:Heap} {it l:Addr} {i:Nat} (x:h.IsTupleIter it l i):∃ o,h.get? it=some o/\∀ v,o.data≠.cell v:=by
 obtain ⟨o,e,c,d⟩:=x
 exact ⟨o,e,λv z=>by rw [d] at z; cases z⟩
theorem A2 {P0:Program} {w0:World} (it l:Addr) (its:Array Value):Src P0 w0 it l its (λi h=>h.IsTupleIter it l i) (λh=>h.IsTuple l its) where
 item:=λa b c d=>WA a b c d
 stop:=λa b c d e=>Wz a b c d e
 gr:=λa b=>a.at b
 kJ:=λa b=>by obtain ⟨o,e,r⟩:=a; exact ⟨o,b o e,r⟩
 obj:=λa=>y9 a
section
variable {P0:Program} {w0:World} {A0:Around} {E0:Value->Shared->Prop} {t:Shared} {z TI TO ia ib la lb:Addr} {p1 p2:Nat->Heap->Prop} {q1 q2:Heap->Prop} {xs ys:Array Value}
theorem US {k:Nat} {x y u v:Value} {Q0:Value->Shared->Prop} (S1:Src P0 w0 ia la xs p1 q1) (S2:Src P0 w0 ib lb ys p2 q2) (D:ZipApart z TI TO ia ib la lb)
  (zz:IsZip t.heap z TI TO .none) (zI:IsPair t.heap TI (.ref ia) (.ref ib)) (zO:IsPair t.heap TO u v) (a1:p1 k t.heap) (a2:p2 k t.heap) (b1:q1 t.heap) (b2:q2 t.heap) (hx:xs[k]?=some x) (hy:ys[k]?=some y)
  (fin:∀ g,IsZip g z TI TO (rawInt t.heap.objs.size)->IsPair g TO x y->p1 (k+1) g->p2 (k+1) g->IsPair g t.heap.objs.size x y->g.objs.size=t.heap.objs.size+1 ->
   (∀ c o,c≠z->c≠TO->c≠ia->c≠ib->t.heap.get? c=some o->g.get? c=some o)->Q0 (.ref t.heap.objs.size) { t with heap:=g }) :
  wpAny (model P0 w0) A0 (Builtin.«zip.__next__» ⟨[.ref z],[]⟩) (λf s'=>∃ v,f=.done (.ret v)/\Q0 v s') E0 t:=by
 show wpAny _ _ (field (.ref z) 2 >>= _) _ _ _
 refine aLa (aQx zz rfl (x:=.bool false) rfl ?_)
 show wpAny _ _ (field (.ref z) 3 >>= _) _ _ _
 refine aLa (aQx zz rfl (x:=.ref TI) rfl (aLa (aAz zI rfl ?_)))
 show wpAny _ _ (Builtin.SmallTypes.ownedTupleIsFree (.ref z) >>= _) _ _ _
 refine aLa ?_
 unfold Builtin.SmallTypes.ownedTupleIsFree
 refine aLa (aQx zz rfl (x:=.none) rfl (aLj ?_))
 simp only [at9]
 refine aLa (ai2 (aLa (aQx zz rfl (x:=.ref TO) rfl (aLa (aVm zz (by simp) λg1 z1 c1=>?_)))))
 replace z1:IsZip g1 z TI TO .ellipsis:=z1
 refine aLa ?_
 simp only [aHo,List.forIn_nil,List.zipIdx_cons,List.zipIdx_nil]
 refine aLa (aLa (wpAny_onRaise ?_))
 show wpAny _ _ (Builtin.SmallTypes.nextOf (.ref ia) >>= _) _ _ _
 refine aLa (S1.item (S1.gr a1 λo e=>c1.extBut _ o D.i1z e) (S1.kJ b1 λo e=>c1.extBut _ o D.l1z e) hx λg2 QM c2=>aLj ?_)
 have o2:IsPair g2 TO u v:=c2.extBut _ _ D.TOi1 (c1.extBut _ _ D.TOz zO)
 refine aLa (aAz o2 rfl (aLa (wpAny_updateSeq_pair o2 λg3 o3 c3=>?_)))
 replace o3:IsPair g3 TO x v:=o3
 refine aLa (baf (aLj ?_))
 refine aLa (aLa (wpAny_onRaise ?_))
 show wpAny _ _ (Builtin.SmallTypes.nextOf (.ref ib) >>= _) _ _ _
 have m3:∀ c o,c≠z->c≠ia->c≠TO->t.heap.get? c=some o->g3.get? c=some o:=λc o n1 n2 n3 e=>c3.extBut _ _ n3 (c2.extBut _ _ n2 (c1.extBut _ _ n1 e))
 refine aLa (S2.item (S2.gr a2 λo e=>m3 _ o D.i2z D.i12.symm D.TOi2.symm e) (S2.kJ b2 λo e=>m3 _ o D.l2z D.l2i1 D.l2TO e) hy λg4 QK c4=>aLj ?_)
 have o4:IsPair g4 TO x v:=c4.extBut _ _ D.TOi2 o3
 refine aLa (aAz o4 rfl (aLa (wpAny_updateSeq_pair o4 λg5 o5 c5=>?_)))
 replace o5:IsPair g5 TO x y:=o5
 refine aLa (baf (aLj (aLj ?_)))
 refine aLa (aAz o5 rfl (aLa (wpAny_newTuple ?_)))
 have sz:g5.objs.size=t.heap.objs.size:=by rw [c5.1,c4.1,c3.1,c2.1,c1.1]
 have m5:∀ c o,c≠z->c≠TO->c≠ia->c≠ib->t.heap.get? c=some o->g5.get? c=some o:=λc o n1 n2 n3 n4 e=>c5.extBut _ _ n2 (c4.extBut _ _ n4 (m3 c o n1 n3 n2 e))
 have z5:IsZip g5 z TI TO .ellipsis:=c5.extBut _ _ D.TOz.symm (c4.extBut _ _ D.i2z.symm (c3.extBut _ _ D.TOz.symm (c2.extBut _ _ D.i1z.symm z1)))
 have QL:p1 (k+1) g5:=S1.gr QM λo e=>c5.extBut _ o D.TOi1.symm (c4.extBut _ o D.i12 (c3.extBut _ o D.TOi1.symm e))
 have QJ:p2 (k+1) g5:=S2.gr QK λo e=>c5.extBut _ o D.TOi2.symm e
 have HQ:z<g5.objs.size:=aP5 z5
 show wpAny _ _ (Builtin.SmallTypes.ownedTupleHandOut (.ref z) (.ref g5.objs.size) >>= _) _ _ _
 refine aLa ?_
 unfold Builtin.SmallTypes.ownedTupleHandOut
 have z6:IsZip (g5.push { cls:=.type "tuple",data:=.seq #[x,y] }) z TI TO .ellipsis:=aBk _ z5
 refine aLa (aVm z6 (by simp) λg7 z7 c7=>?_)
 replace z7:IsZip g7 z TI TO (rawInt g5.objs.size):=z7
 refine aVm z7 (by simp) λg8 z8 c8=>?_
 replace z8:IsZip g8 z TI TO (rawInt g5.objs.size):=z8
 have m8:∀ c o,c≠z->g5.get? c=some o->g8.get? c=some o:=λc o n1 e=>c8.extBut _ _ n1 (c7.extBut _ _ n1 (aBk _ e))
 have t8:IsPair g8 g5.objs.size x y:=c8.extBut _ _ (a3H HQ) (c7.extBut _ _ (a3H HQ) (aJ2 _ rfl))
 have s8:g8.objs.size=g5.objs.size+1:=by rw [c8.1,c7.1,aRI]
 rw [sz] at z8 t8 s8
 refine aLj ⟨_,rfl,?_⟩
 show Q0 (.ref g5.objs.size) _
 rw [sz]
 exact fin g8 z8 (m8 _ _ D.TOz o5) (S1.gr QL λo e=>m8 _ o D.i1z e) (S2.gr QJ λo e=>m8 _ o D.i2z e) t8 s8 λc o n1 n2 n3 n4 e=>m8 c o n1 (m5 c o n1 n2 n3 n4 e)
theorem UR {k:Nat} {u v:Value} {Q0:Fin->Shared->Prop} (hA:A0.handled=none) (S1:Src P0 w0 ia la xs p1 q1) (S2:Src P0 w0 ib lb ys p2 q2) (D:ZipApart z TI TO ia ib la lb)
  (zz:IsZip t.heap z TI TO .none) (zI:IsPair t.heap TI (.ref ia) (.ref ib)) (zO:IsPair t.heap TO u v) (a1:p1 k t.heap) (b1:q1 t.heap) (hx:xs[k]?=none)
  (fin:∀ g e,(∀ c o,c≠z->c≠TO->c≠ia->c≠ib->t.heap.get? c=some o->g.get? c=some o)->(∃ o,g.get? e=some o/\o.cls=.type "StopIteration")->E0 (.ref e) { t with heap:=g }) :
  wpAny (model P0 w0) A0 (Builtin.«zip.__next__» ⟨[.ref z],[]⟩) Q0 E0 t:=by
 show wpAny _ _ (field (.ref z) 2 >>= _) _ _ _
 refine aLa (aQx zz rfl (x:=.bool false) rfl ?_)
 show wpAny _ _ (field (.ref z) 3 >>= _) _ _ _
 refine aLa (aQx zz rfl (x:=.ref TI) rfl (aLa (aAz zI rfl ?_)))
 show wpAny _ _ (Builtin.SmallTypes.ownedTupleIsFree (.ref z) >>= _) _ _ _
 refine aLa ?_
 unfold Builtin.SmallTypes.ownedTupleIsFree
 refine aLa (aQx zz rfl (x:=.none) rfl (aLj ?_))
 simp only [at9]
 refine aLa (ai2 (aLa (aQx zz rfl (x:=.ref TO) rfl (aLa (aVm zz (by simp) λg1 z1 c1=>?_)))))
 replace z1:IsZip g1 z TI TO .ellipsis:=z1
 refine aLa ?_
 simp only [aHo,List.forIn_nil,List.zipIdx_cons,List.zipIdx_nil]
 refine aLa (aLa (wpAny_onRaise ?_))
 show wpAny _ _ (Builtin.SmallTypes.nextOf (.ref ia) >>= _) _ _ _
 refine aLa (S1.stop hA (S1.gr a1 λo e=>c1.extBut _ o D.i1z e) (S1.kJ b1 λo e=>c1.extBut _ o D.l1z e) hx λg2 e c2 he=>?_)
 obtain ⟨oe,Es,ce⟩:=he
 have z2:IsZip g2 z TI TO .ellipsis:=c2 _ _ D.i1z.symm z1
 have ne:e≠z:=λq=>by rw [q,z2] at Es; cases Es; simp at ce
 exact aVm z2 (by simp) λg3 _ c3=>fin g3 e (λc o n1 _ n3 _ q=>c3.extBut _ _ n1 (c2 _ _ n3 (c1.extBut _ _ n1 q))) ⟨oe,c3.extBut _ _ ne Es,ce⟩
theorem Wy {k:Nat} {x y u v:Value} {Q0:Option Value->Shared->Prop} (S1:Src P0 w0 ia la xs p1 q1) (S2:Src P0 w0 ib lb ys p2 q2) (D:ZipApart z TI TO ia ib la lb)
  (zz:IsZip t.heap z TI TO .none) (zI:IsPair t.heap TI (.ref ia) (.ref ib)) (zO:IsPair t.heap TO u v) (a1:p1 k t.heap) (a2:p2 k t.heap) (b1:q1 t.heap) (b2:q2 t.heap) (hx:xs[k]?=some x) (hy:ys[k]?=some y)
  (fin:∀ g,IsZip g z TI TO (rawInt t.heap.objs.size)->IsPair g TO x y->p1 (k+1) g->p2 (k+1) g->IsPair g t.heap.objs.size x y->g.objs.size=t.heap.objs.size+1 ->
   (∀ c o,c≠z->c≠TO->c≠ia->c≠ib->t.heap.get? c=some o->g.get? c=some o)->Q0 (some (.ref t.heap.objs.size)) { t with heap:=g }):wpAny (model P0 w0) A0 (pyNext (.ref z)) Q0 E0 t:=by
 have ty:t.TypeIs (.ref z) "zip" := ⟨_,zz,rfl⟩
 unfold pyNext
 exact aLa (wpAny_attempt (ak8 (name:=Str.ofString "__next__") ty F.slot_zip_next (ab1 F.slot_zip_next ty F.entry_zip_next (US S1 S2 D zz zI zO a1 a2 b1 b2 hx hy λg r1 r2 r3 r4 r5 r6 r7=>aLj (fin g r1 r2 r3 r4 r5 r6 r7)) (F.args_zip_next_1 _))))
theorem Wx {k:Nat} {u v:Value} {Q0:Option Value->Shared->Prop} (hA:A0.handled=none) (S1:Src P0 w0 ia la xs p1 q1) (S2:Src P0 w0 ib lb ys p2 q2) (D:ZipApart z TI TO ia ib la lb)
  (zz:IsZip t.heap z TI TO .none) (zI:IsPair t.heap TI (.ref ia) (.ref ib)) (zO:IsPair t.heap TO u v) (a1:p1 k t.heap) (b1:q1 t.heap) (hx:xs[k]?=none)
  (fin:∀ g,(∀ c o,c≠z->c≠TO->c≠ia->c≠ib->t.heap.get? c=some o->g.get? c=some o)->Q0 none { t with heap:=g }):wpAny (model P0 w0) A0 (pyNext (.ref z)) Q0 E0 t:=by
 have ty:t.TypeIs (.ref z) "zip" := ⟨_,zz,rfl⟩
 unfold pyNext
 refine aLa (wpAny_attempt (ak8 (name:=Str.ofString "__next__") ty F.slot_zip_next (ab1 F.slot_zip_next ty F.entry_zip_next (UR hA S1 S2 D zz zI zO a1 b1 hx λg e kp he=>?_) (F.args_zip_next_1 _))))
 obtain ⟨oe,ge,ce⟩:=he
 exact aLa (wpAny_isInstance (T := "StopIteration") (b:=true) ⟨oe,ge,ce⟩ isSubtype_stop (aLj (fin _ kp)))
end
abbrev zE (h:Heap) (a:Addr):Heap:=h.push { cls:=.type "tuple_iterator",data:=.fields #[.ref a,.int 0 0] }
abbrev zD (h:Heap) (a b:Addr):Heap:=(zE h a).push { cls:=.type "tuple_iterator",data:=.fields #[.ref b,.int 0 0] }
abbrev zC (h:Heap) (a b:Addr):Heap:=(zD h a b).push { cls:=.type "tuple",data:=.seq #[.ref h.objs.size,.ref (zE h a).objs.size] }
abbrev zB (h:Heap) (a b:Addr):Heap:=(zC h a b).push { cls:=.type "tuple",data:=.seq #[.none,.none] }
abbrev uh (h:Heap) (a b:Addr):Heap:=(zB h a b).push { cls:=.type "zip",data:=.fields #[.none,.bool false,.bool false,.ref (zD h a b).objs.size,.ref (zC h a b).objs.size] }
theorem Zip (a b:Addr) (xs ys:Array Value) :
  Meets (Builtin.«zip.__new__» ⟨[.type "zip",.ref a,.ref b],[]⟩) (λ_ R s=>s.heap.IsTuple a xs/\s.heap.IsTuple b ys/\R (.ok (.ret (.ref (zB s.heap a b).objs.size))) { s with heap:=uh s.heap a b }) :=
 .of_wp λP0 w0 A0 R t h=>by
  obtain ⟨hp,gn,dr,tk,os⟩:=t
  obtain ⟨ta,tb,h⟩:=h
  have sub:=sub_zip
  have qa:Heap.IsTuple (Shared.heap ⟨hp,gn,dr,tk,os⟩) a xs:=ta
  have qb:Heap.IsTuple (Shared.heap ⟨hp.push { cls:=.type "tuple_iterator",data:=.fields #[.ref a,.int 0 0] },gn,dr,tk,os⟩) b ys:=Heap.IsTuple.push tb _
  wp_walk using wpAny_pyIter_tuple qa,wpAny_pyIter_tuple qb
  exact ⟨_,rfl,h⟩
theorem UQ {P0:Program} {w0:World} {A0:Around} {E0:Value->Shared->Prop} {t:Shared} {a b:Addr} {xs ys:Array Value} {Q0:Value->Shared->Prop} (ta:t.heap.IsTuple a xs) (tb:t.heap.IsTuple b ys)
  (h:∀ g,IsZip g (t.heap.objs.size+4) (t.heap.objs.size+2) (t.heap.objs.size+3) .none->IsPair g (t.heap.objs.size+2) (.ref t.heap.objs.size) (.ref (t.heap.objs.size+1))->IsPair g (t.heap.objs.size+3) .none .none ->
   g.IsTupleIter t.heap.objs.size a 0->g.IsTupleIter (t.heap.objs.size+1) b 0->(∀ c o,t.heap.get? c=some o->g.get? c=some o)->Q0 (.ref (t.heap.objs.size+4)) { t with heap:=g }) :
  wpAny (model P0 w0) A0 (call (.type "zip") [.ref a,.ref b]) Q0 E0 t:=by
 refine callType_new F.called_zip (by decide) (F.typeCall_zip_2 _ _) (F.newCall_zip_2 _ _) (λobj=>F.args_object_init_3 obj _ _) F.entry_zip_new (Zip a b xs ys) ⟨ta,tb,?_⟩
 have n1:(zE t.heap a).objs.size=t.heap.objs.size+1:=aRI ..
 have n2:(zD t.heap a b).objs.size=t.heap.objs.size+2:=by rw [aRI,n1]
 have n3:(zC t.heap a b).objs.size=t.heap.objs.size+3:=by rw [aRI,n2]
 have n4:(zB t.heap a b).objs.size=t.heap.objs.size+4:=by rw [aRI,n3]
 have r5:(uh t.heap a b).get? (zB t.heap a b).objs.size=some _:=aJ2 _ rfl
 have r4:(uh t.heap a b).get? (zC t.heap a b).objs.size=some _:=aBk _ (aJ2 _ rfl)
 have r3:(uh t.heap a b).get? (zD t.heap a b).objs.size=some _:=aBk _ (aBk _ (aJ2 _ rfl))
 have r2:(uh t.heap a b).get? (zE t.heap a).objs.size=some _:=aBk _ (aBk _ (aBk _ (aJ2 _ rfl)))
 have r1:(uh t.heap a b).get? t.heap.objs.size=some _:=aBk _ (aBk _ (aBk _ (aBk _ (aJ2 _ rfl))))
 show _/\_
 rw [n2,n3,n4] at r5
 rw [n1,n2] at r3
 rw [n3] at r4
 rw [n1] at r2
 rw [n4]
 refine ⟨⟨_,r5,rfl⟩,h _ r5 r3 r4 ⟨_,r1,rfl,rfl⟩ ⟨_,r2,rfl,rfl⟩ λc o q=>?_⟩
 iterate 5 refine aBk _ ?_
 exact q
def oW (K:W.Frag) (a b:Addr):It :=
 ⟨λi H=>∃ xs ys x y,bJ K H a xs/\bJ K H b ys/\xs[i]?=some x/\ys[i]?=some y,
 λi H v H'=>∃ t x y,H t=none/\v=.ref t/\H'=upd H t (.tup [x,y])/\(∀ xs,bJ K H a xs->xs[i]?=some x)/\∀ ys,bJ K H b ys->ys[i]?=some y,
 λi H=>∃ xs,bJ K H a xs/\(∃ ys,bJ K H b ys)/\xs.length<=i⟩
theorem UP {P:Program} {w:World} {K:W.Frag} {elts:List PySem.Expr} {x1} {pos:Pos} (z TI TO i1 i2 a b:Addr) (D:ZipApart z TI TO i1 i2 a b) :
  Turn P w K (.Tuple elts x1 pos) (oW K a b) [z,TI,TO,i1,i2] z (λi h=>IsZip h z TI TO .none/\IsPair h TI (.ref i1) (.ref i2)/\(∃ u v,IsPair h TO u v)/\h.IsTupleIter i1 a i/\h.IsTupleIter i2 b i) where
 mem:=by simp
 obj:=λi h st c hc=>by
  obtain ⟨hz,hTI,⟨u,v,hTO⟩,h1,h2⟩:=st
  simp only [apQ,atr,a4q] at hc
  rcases hc with rfl | rfl | rfl | rfl | rfl
  .exact ⟨_,hz,λv e=>by cases e⟩
  .exact ⟨_,hTI,λv e=>by cases e⟩
  .exact ⟨_,hTO,λv e=>by cases e⟩
  .exact y9 h1
  .exact y9 h2
 keep:=λi h h' st k=>by
  obtain ⟨hz,hTI,⟨u,v,hTO⟩,h1,h2⟩:=st
  exact ⟨k z (by simp) _ hz,k TI (by simp) _ hTI,⟨u,v,k TO (by simp) _ hTO⟩,h1.at λo e=>k i1 (by simp) o e,h2.at λo e=>k i2 (by simp) o e⟩
 item:=by
  intro X hP hw hK hc i pins s σ H E I hf st hg
  subst hP hw hK
  obtain ⟨xs,ys,x,y,j5,j4,hx,hy⟩:=hg
  obtain ⟨hz,hTI,⟨u0,v0,hTO⟩,h1,h2⟩:=st
  obtain ⟨g9,ra,pa,za⟩:=I.tuple j5
  obtain ⟨iE,rb,pb,zb⟩:=I.tuple j4
  obtain ⟨ux,hux,C4⟩:=ra.get hx
  obtain ⟨uy,D4,C3⟩:=rb.get hy
  refine Wy (A2 i1 a g9.toArray) (A2 i2 b iE.toArray) D hz hTI hTO h1 h2 (show s.heap.IsTuple a g9.toArray from pa) (show s.heap.IsTuple b iE.toArray from pb) (x:=ux) (y:=uy) (by simpa using hux) (by simpa using D4) λh' a1 a2 a3 a4 a5 a6 a7=>?_
  refine ⟨.ref s.heap.objs.size,rfl,?_⟩
  refine wpAny_letOwnedTupleGo_zip a1 λh2' hz' hs'=>?_
  have nR:z<s.heap.objs.size:=aP5 hz
  have kk:∀ c o,c∉[z,TI,TO,i1,i2]->s.heap.get? c=some o->h2'.get? c=some o:=λc o hc e=>by
   simp only [apQ,atr,a4q,not_or] at hc
   exact hs'.extBut c o hc.1 (a7 c o hc.1 hc.2.2.1 hc.2.2.2.1 hc.2.2.2.2 e)
  have tp:h2'.get? s.heap.objs.size=some { cls:=.type "tuple",data:=.seq #[ux,uy] }:=hs'.extBut _ _ (a3H nR) a5
  have I1:Inv X pins σ (upd H s.heap.objs.size (.tup [x,y])) { s with heap:=h2',toks:=s.toks } :=
   I.j0 hf kk ⟨by show 2<=sizeLine; decide,[ux,uy],.cons C4 (.cons C3 .nil),⟨_,tp,rfl,_,rfl⟩⟩
  have HB:h2'.get? TI=s.heap.get? TI:=by
   rw [hTI]
   exact hs'.extBut _ _ D.TIz (a7 _ _ D.TIz D.TITO D.TIi1 D.TIi2 hTI)
  refine ⟨.ref s.heap.objs.size,_,I1,rfl,⟨s.heap.objs.size,x,y,I.hok.fresh (avG _),rfl,rfl,λxs' h=>by rw [I.fR h j5]; exact hx,λys' h=>by rw [I.fR h j4]; exact hy⟩,⟨hz',?_,⟨ux,uy,hs'.extBut _ _ D.TOz a2⟩,a3.at λo e=>hs'.extBut _ o D.i1z e,a4.at λo e=>hs'.extBut _ o D.i2z e⟩,λc hc=>?_⟩
  .show h2'.get? TI=_
   rw [HB]; exact hTI
  .have hc':=hc
   have hlt:c<s.heap.objs.size:=by
    simp only [apQ,atr,a4q] at hc'
    rcases hc' with rfl | rfl | rfl | rfl | rfl
    .exact nR
    .exact aP5 hTI
    .exact aP5 hTO
    .obtain ⟨o,e,_⟩:=y9 h1; exact aP5 e
    .obtain ⟨o,e,_⟩:=y9 h2; exact aP5 e
   rw [Ze (a0P hlt)]
   exact (hf c hc).1
 done:=by
  intro X hP hw hK hc i pins s σ H E I hf st hg
  subst hP hw hK
  obtain ⟨xs,j5,⟨ys,j4⟩,hend⟩:=hg
  obtain ⟨hz,hTI,⟨u0,v0,hTO⟩,h1,h2⟩:=st
  obtain ⟨g9,ra,pa,za⟩:=I.tuple j5
  obtain ⟨iE,rb,pb,zb⟩:=I.tuple j4
  have la:=ra.length
  refine Wx (I.ok.hd hc) (A2 i1 a g9.toArray) (A2 i2 b iE.toArray) D hz hTI hTO h1 (show s.heap.IsTuple a g9.toArray from pa) (by simp; lia) λh' hk=>⟨rfl,?_⟩
  refine I.gQ (t':=s.toks) hf λc o hc e=>?_
  simp only [apQ,atr,a4q,not_or] at hc
  exact hk c o hc.1 hc.2.2.1 hc.2.2.2.1 hc.2.2.2.2 e
 self:=λ_ _ _ _ _ st h=>aKR st.1 h
def xH (K:W.Frag) (ta:TA):TI:=λσ H R=>ta σ H λvs H1=>∃ a b,vs=[.ref a,.ref b]/\((∃ xs ys,ak K H1 a xs/\ak K H1 b ys/\R (qh K a b) H1)\/∃ xs ys,bJ K H1 a xs/\bJ K H1 b ys/\R (oW K a b) H1)
section
variable {X:Cx}
theorem RW {elts:List PySem.Expr} {x1} {tpos:Pos} {a b:PySem.Expr} {ta:TA} {p pos:Pos} (hg:Gl X "zip") (hm:X.mg "zip" = none) (ha:PA X [a,b] ta) (hs:starEach [a,b] X.env=[(false,eval a X.env),(false,eval b X.env)]:=by rfl) (hs2:starEach [b] X.env=[(false,eval b X.env)]:=by rfl) :
  PI X (.Tuple elts x1 tpos) (.Call (.Name "zip" p) [a,b] [] pos) (xH X.K ta):=by
 intro pins s σ H R I h
 refine Call_ (pA I hg hm Lz (aZK (lH (ha pos pins s σ H _ I h) λus s1 vs H1 I1 r1 q1=>?_) (by rw [hs,hs2]) (by rw [hs2]; rfl)))
 obtain ⟨l1,l2,e,q⟩:=q1
 subst e
 obtain ⟨v1,v2,rfl,r,r'⟩:=vals2 r1
 cases r
 cases r'
 have big:∀ c,c∈[s1.heap.objs.size+4,s1.heap.objs.size+2,s1.heap.objs.size+3,s1.heap.objs.size,s1.heap.objs.size+1]->s1.heap.objs.size<=c:=λc hc=>by
  simp only [apQ,atr,a4q] at hc
  rcases hc with rfl | rfl | rfl | rfl | rfl <;> first | exact avG _ | exact Nat.le_add_right _ _
 rcases q with ⟨xs,ys,j5,j4,q⟩ | ⟨xs,ys,j5,j4,q⟩
 .obtain ⟨g9,ra,pa,za⟩:=I1.list j5
  obtain ⟨iE,rb,pb,zb⟩:=I1.list j4
  have nM:l1<s1.heap.objs.size:=by obtain ⟨o,e,_⟩:=pa.isList; exact aP5 e
  have sf:l2<s1.heap.objs.size:=by obtain ⟨o,e,_⟩:=pb.isList; exact aP5 e
  refine call_zip_2 pa.isList pb.isList λh' g5 g3 g4 g1 g2 hsz kp=>aKR g5 ?_
  exact ⟨_,[_,_,_,_,_],_,_,H1,rfl,I1.kept (t':=s1.toks) kp,LA _ _ _ _ _ l1 l2 (Gs s1.heap.objs.size l1 l2 nM sf),⟨g5,g3,⟨_,_,g4⟩,g1,g2⟩,λc hc=>I1.ja (big c hc) (I1.hok.fresh (big c hc)),q⟩
 .obtain ⟨g9,ra,pa,za⟩:=I1.tuple j5
  obtain ⟨iE,rb,pb,zb⟩:=I1.tuple j4
  have nM:l1<s1.heap.objs.size:=AG pa
  have sf:l2<s1.heap.objs.size:=AG pb
  refine UQ (show s1.heap.IsTuple l1 g9.toArray from pa) (show s1.heap.IsTuple l2 iE.toArray from pb) λh' g5 g3 g4 g1 g2 kp=>aKR g5 ?_
  exact ⟨_,[_,_,_,_,_],_,_,H1,rfl,I1.kept (t':=s1.toks) kp,UP _ _ _ _ _ l1 l2 (Gs s1.heap.objs.size l1 l2 nM sf),⟨g5,g3,⟨_,_,g4⟩,g1,g2⟩,λc hc=>I1.ja (big c hc) (I1.hok.fresh (big c hc)),q⟩
end
theorem UO {K:W.Frag} {a b:Addr} {xs zs:List V} {l:Addr} {g:TG} {tc:TT} {te:TE} {σ0:St} {H0:Hp} {Qf:Hp->Prop} (hlen:xs.length=zs.length) (Pv:Nat->List V->St->Hp->Prop) (h0:Pv 0 [] σ0 H0)
  (hl:∀ i ys σ' H',i<=xs.length->Pv i ys σ' H'->bJ K H' a xs/\bJ K H' b zs)
  (hs:∀ i x z t ys σ' H',i<xs.length->xs[i]?=some x->zs[i]?=some z->ys.length<=i->Pv i ys σ' H'->H' t=none->g (.ref t) σ' (upd H' t (.tup [x,z])) λσ2 H3=>tc σ2 H3 λb H4=>if b=true then te σ2 H4 λy H5=>dU xs.length l Pv i ys σ2 y H5 else kD xs.length Pv i ys σ2 H4)
  (hd:∀ ys σ' H',ys.length<=xs.length->Pv xs.length ys σ' H'->Qf H') :
  ∃ W:Nat->Nat->List V->St->Hp->Prop,(∃ m,W 0 m [] σ0 H0)/\∀ i m ys σ' H',W i m ys σ' H' ->
  ((oW K a b).stop i H'/\Qf H')\/((oW K a b).go i H'/\∀ x H2,(oW K a b).jN i H' x H2->g x σ' H2 λσ2 H3=>tc σ2 H3 λb H4 =>
    if b=true then te σ2 H4 λy H5=>H5 l=some (.lst ys)/\ys.length<sizeLine/\∃ m',m'<m/\W (i+1) m' (ys++[y]) σ2 (upd H5 l (.lst (ys++[y])))
    else ∃ m',m'<m/\W (i+1) m' ys σ2 H4):=by
 refine ⟨λi m ys σ' H'=>m=xs.length - i/\i<=xs.length/\ys.length<=i/\Pv i ys σ' H',⟨xs.length,rfl,auX _,avG _,h0⟩,?_⟩
 rintro i m ys σ' H' ⟨rfl,hi,hy,p⟩
 obtain ⟨qa,qb⟩:=hl i ys σ' H' hi p
 by_cases hlt:i<xs.length
 .have hlt':i<zs.length:=by lia
  refine .inr ⟨⟨xs,zs,xs[i],zs[i],qa,qb,by simp [hlt],by simp [hlt']⟩,λx H2 zq=>?_⟩
  obtain ⟨t,u,v,ht,rfl,rfl,z1,z2⟩:=zq
  exact hs i u v t ys σ' H' hlt (z1 xs qa) (z2 zs qb) hy p ht
 .have e:i=xs.length:=by lia
  subst e
  exact .inl ⟨⟨xs,qa,⟨zs,qb⟩,avG _⟩,hd ys σ' H' hy p⟩
def wH (scope cj:Scope):Scope:={ scope with names:=scope.names.map λ(n,k)=>if (k == .free && cj.kind == .function && cj.names.lookup n == some .cell) then (n,.cell) else (n,k) }
theorem Vp {scope:Scope} {env:Env} {cj:Scope} (h:env.scope=cj):relabel scope env=wH scope cj:=by subst h; rfl
theorem UN {X:Cx} {Ih cj:Scope} {n9:Env} {oN:List Str} {scope:Scope} {N:List Str} {own:Nat} {js:List Nat} (hs:X.env.scope=relabel Ih n9) (he:n9.scope=cj) (hN:X.N=oN) (h:ou (wH Ih cj) oN scope N own js=true):bY X scope N own js :=
 Zv h (hs.trans (Vp he)) hN
section
variable {X:Cx} {K:W.Frag} {tg:PySem.Expr}
theorem ZL (hK:X.K=K) {l:PySem.Expr} {tl:TE} (hl:PE X l tl):PI X tg l (qN K tl):=hK ▸ Sj hl
theorem RV (hK:X.K=K) {l:PySem.Expr} {tl:TE} (hl:PE X l tl):PI X tg l (xJ K tl):=hK ▸ Rg hl
end
section
variable {X:Cx}
theorem Ms (hc:X.calm=true):aW X (.builtin "any") (λxs H Q=>∃ (p:Addr) (bs:List Bool),xs=[.ref p]/\ak X.K H p (bs.map V.bl)/\Q (.bl (bs.any id)) H):=by
 intro pins s σ H xs us Q I r h
 obtain ⟨p,bs,rfl,hq,q⟩:=h
 obtain ⟨u,rfl,rx⟩:=vals1 r
 cases rx
 obtain ⟨its,rv,pl,hz⟩:=I.list hq
 have e:=Gp rv
 subst e
 refine call_any_walk (aQ6 pl.isList ?_)
 refine ⟨s.heap.objs.size,_,[s.heap.objs.size],_,_,_,λi=>bs.getD i true,rfl,Walks.list (A:=X.A.in1) (show X.A.in1.handled=none from I.ok.hd hc) s.heap.objs.size p ?_ (bs.map Value.bool).toArray,⟨⟨_,aJ2 _ rfl,rfl,rfl⟩,pl.isList.at λo e=>aBk _ e⟩,?_,?_⟩
 .obtain ⟨o,e,_⟩:=pl.isList; exact a0P (aP5 e)
 .intro i v s' Q' E' hP hQ
  have lY:(bs.map Value.bool)[i]?=some v:=by simpa using hP
  rw [bdd] at lY
  cases z:bs[i]? with
  | none=>rw [z] at lY; cases lY
  | some b =>
   rw [z] at lY
   cases lY
   have:bs.getD i true=b:=by rw [aeu,z]; rfl
   have xZ:Q' (bs.getD i true) s':=hQ
   rw [this] at xZ
   exact aT6 xZ
 .intro h' tk hk
  refine ⟨.bl (bs.any id),H,I.kept (t':=tk) (λb o e=>hk b o (by simpa using a0P (aP5 e)) (aBk _ e)),?_,q⟩
  have z:(List.range bs.length).map (λi=>bs.getD i true)=bs:=MD _ λi b e=>by rw [aeu,e]; rfl
  have z2:(List.range bs.length).any (λi=>bs.getD i true)=bs.any id:=by
   conv=>rhs; rw [← z]
   rw [any_map]; rfl
  show Value.bool _=Value.bool _
  have z3:(bs.map Value.bool).toArray.size=bs.length:=by simp
  rw [z3,z2]
end
theorem UM:bootBuiltins "set" = some (.type "set"):=by first | rfl | decide +kernel | kernel_rfl
section
variable {X:Cx} {K:W.Frag}
theorem UL:aW X (.builtin "len") (λxs H Q=>∃ (p:Addr) (S:Int->Bool) (n:Nat),xs=[.ref p]/\H p=some (.set S n)/\Q (.int n) H):=by
 intro pins s σ H xs us Q I r h
 obtain ⟨p,S,n,rfl,hp,q⟩:=h
 obtain ⟨u,rfl,rx⟩:=vals1 r
 cases rx
 obtain ⟨o,es,ep,t,ho,hex,hd,_,_,hlt,hf,rfl⟩:=(show s.heap.SetOf (intKind X.prog X.w) p S n from I.hok p _ hp)
 refine call_len_set ho hex hd hf ?_ ⟨.int _,H,I.tok _,⟨_,rfl⟩,q⟩
 have:es.size<4096:=hlt
 lia
def kP (xs:List V) (lo hi st:Option Int):List V:=(sliceRange (sliceBounds lo hi st xs.length).1 (sliceBounds lo hi st xs.length).2.1 (sliceBounds lo hi st xs.length).2.2).filterMap (xs[·]?)
theorem Gk {xs:List V} {us:List Value} (r:Vals xs us):∀ l:List Nat,Vals (l.filterMap (xs[·]?)) (l.filterMap (us[·]?))
 | []=>.nil
 | i :: l=>by
  rw [aKw,aKw]
  cases e:xs[i]? with
  | none=>rw [r.none_of e]; exact Gk r l
  | some x =>
   obtain ⟨u,hu,ru⟩:=r.get e
   rw [hu]
   exact .cons ru (Gk r l)
def CI (K:W.Frag) (te:TE) (tl th ts:TO):TE:=λσ H Q=>te σ H λx H1=>tl σ H1 λl H2=>th σ H2 λu H3=>ts σ H3 λst H4=>∃ a xs,x=.ref a/\ak K H4 a xs/\st≠some 0/\(kP xs l u st).length<=sizeLine/\∀ p,H4 p=none->Q (.ref p) (upd H4 p (.lst (kP xs l u st)))
theorem Mr {e:PySem.Expr} {te:TE} {lo hi:Option PySem.Expr} {st:PySem.Expr} {tl th ts:TO} {p2 pos:Pos} (hK:X.K=K) (he:PE X e te) (hl:PO X lo tl) (hu:PO X hi th) (hst:PO X (some st) ts):PE X (.Subscript e (.Slice lo hi (some st) p2) pos) (CI K te tl th ts):=by
 subst hK
 intro pins s σ H Q I h
 refine Subscript_ (cF (he pins s σ H _ I h) λv s1 x H1 I1 r1 q1=>?_)
 refine wpAny_Slice (bG (hl pins s1 σ H1 _ I1 q1) λvl s2 ⟨l,H2,I2,pl,q2⟩=>bG (hu pins s2 σ H2 _ I2 q2) λvu s3 ⟨u,H3,I3,pu,q3⟩=>bG (hst pins s3 σ H3 _ I3 q3) λvs s4 ⟨so,H4,I4,ps,q4⟩=>?_)
 obtain ⟨a,xs,rfl,hx,h0,hz,q⟩:=q4
 cases r1
 have I5:Inv X pins σ H4 { s4 with heap:=s4.heap.push { cls:=.type "slice",data:=.fields #[vl,vu,vs] } }:=I4.kept (t':=s4.toks) λb ob q=>aBk _ q
 obtain ⟨its,r,ht,XR⟩:=I5.list hx
 have hlen:=r.length
 show wpAny (model X.prog X.w) X.A (subscriptTail e (.Slice lo hi (some st) p2) (.ref a) (.ref s4.heap.objs.size)) (EP X pins σ Q) X.xe { s4 with heap:=s4.heap.push { cls:=.type "slice",data:=.fields #[vl,vu,vs] } }
 refine tail_any (ops:=[.ref a,.ref s4.heap.objs.size]) ht.isList.typeIs slot_list_getitem.lookup (wpAny_getItem_list_slice ht.isList (Heap.IsSliceOf.new ..) pl pu ps h0 ?_ (by rw [aIh] <;> lia)) (by with_unfolding_all rfl)
 refine ⟨.ref _,_,I5.laid (t':=s4.toks) (o:=.lst (kP xs l u so)) (λb ob q=>aBk _ q) (avG _) ?_,rfl,q _ (I5.hok.fresh (avG _))⟩
 refine ⟨hz,_,0,Gk r (sliceRange (sliceBounds l u so xs.length).1 (sliceBounds l u so xs.length).2.1 (sliceBounds l u so xs.length).2.2),?_⟩
 have e2:slicePick its.toArray l u so=((sliceRange (sliceBounds l u so xs.length).1 (sliceBounds l u so xs.length).2.1 (sliceBounds l u so xs.length).2.2).filterMap (its[·]?)).toArray:=by
  unfold slicePick
  rw [aIh,← hlen]
  congr 1
  refine arH (λf=>List.filterMap f _) ?_
  funext i
  simp
 rw [e2]
 exact aJ2 _ rfl
end
def mE (hi:Int) (n:Nat):It:=⟨λi _=>i<n,λi H x H'=>H'=H/\x=.int (hi - i),λi _=>n<=i⟩
theorem UK {P:Program} {w:World} {K:W.Frag} {tg:PySem.Expr} (it:Addr) (lo:Int) (n:Nat):Turn P w K tg (mE lo n) [it] it (λi h=>IsRangeIter h it (lo+(i:Nat) * (-1)) ((n:Int) - (i:Nat)) (-1)) where
 mem:=by simp
 obj:=λi h st b hb=>by
  have e:b=it:=by simpa using hb
  subst e
  exact ⟨_,st,λv z=>by
   have z':Data.fields _=Data.cell v:=z
   cases z'⟩
 keep:=λi h h' st k=>k it (by simp) _ st
 item:=by
  intro X hP hw hK hc i pins s σ H E I hf st hg
  subst hP hw hK
  obtain ⟨f0,f1,f2,f3,f4,f5⟩:=hf it (by simp)
  have W:=Walks.range (prog:=X.prog) (w:=X.w) (I.ok.hd hc) it lo (-1) n
  refine W.item i s _ _ hg st λv h' tk hv st' kk=>?_
  obtain ⟨t,rfl⟩:=hv
  have I1:Inv X pins σ H { s with heap:=h',toks:=tk }:=I.turned (λb o hb e=>kk b o (by simpa using hb) e) f0 f1 f3 f4 f5
  refine ⟨_,rfl,kU (s:={ s with heap:=h',toks:=tk }) (n := "range_iterator") st' rfl rfl (by decide) ⟨.int (lo - i),H,I1,⟨t,?_⟩,⟨rfl,rfl⟩,st',λb hb=>(hf b hb).1⟩⟩
  rw [show lo+(i:Int) * (-1)=lo - i by lia]
 done:=by
  intro X hP hw hK hc i pins s σ H E I hf st hg
  subst hP hw hK
  obtain ⟨f0,f1,f2,f3,f4,f5⟩:=hf it (by simp)
  exact wpAny_pyNext_range_end (I.ok.hd hc) st (by have:n<=i:=hg; lia) λh' eb=>⟨rfl,I.turned (t':=s.toks) (λb o hb e=>eb b o hb e) f0 f1 f3 f4 f5⟩
 self:=λ_ _ _ _ _ st h=>wpAny_pyIter_rangeiter st h
section
variable {X:Cx} {tg:PySem.Expr}
theorem Vf {pins:List (Addr×Obj)} {σ:St} {H:Hp} {s:Shared} {R:It->Hp->Prop} {E:Value->Shared->Prop} {lo hi:Int} {t u v:Tok} {tk:Nat} (I:Inv X pins σ H s) (h1 : -(2 ^ 62)<=lo) (h2:lo<2 ^ 62) (h3 : -(2 ^ 62)<=hi) (h4:hi<2 ^ 62)
  (q:R (mE lo (lo - hi).toNat) H):wpAny (model X.prog X.w) X.A (pyIter (.ref s.heap.objs.size)) (HE X pins σ tg R) E { s with heap:=s.heap.push { cls:=.type "range",data:=.fields #[.int lo t,.int hi u,.int (-1) v] },toks:=tk }:=by
 refine wpAny_pyIter_range (IsRange.new ..) (W.small_down h1 h2 h3 h4) ?_
 have I1:Inv X pins σ H { s with heap:=s.heap.push { cls:=.type "range",data:=.fields #[.int lo t,.int hi u,.int (-1) v] },toks:=tk }:=I.kept λb o e=>aBk _ e
 refine ⟨(s.heap.push { cls:=.type "range",data:=.fields #[.int lo t,.int hi u,.int (-1) v] }).objs.size,[(s.heap.push { cls:=.type "range",data:=.fields #[.int lo t,.int hi u,.int (-1) v] }).objs.size],_,_,H,rfl,
  I1.kept (t':=tk) λb o e=>aBk _ e,UK _ lo (lo - hi).toNat,?_,λb hb=>?_,q⟩
 .have e1:lo+((0:Nat):Int) * (-1)=lo:=by simp
  have e2:(((lo - hi).toNat:Nat):Int) - ((0:Nat):Int)=Builtin.Range.rangeSize lo hi (-1):=by rw [W.rangeSize_downNat]; lia
  show IsRangeIter _ _ (lo+((0:Nat):Int) * (-1)) ((((lo - hi).toNat:Nat):Int) - ((0:Nat):Int)) (-1)
  rw [e1,e2]
  exact aJ2 _ rfl
 .have e:b=(s.heap.push { cls:=.type "range",data:=.fields #[.int lo t,.int hi u,.int (-1) v] }).objs.size:=by simpa using hb
  subst e
  exact I1.ja (avG _) (I1.hok.fresh (avG _))
def xK (ta:TA):TI:=λσ H R=>ta σ H λvs H1=>∃ i j:Int,vs=[.int i,.int j,.int (-1)]/\(-(2 ^ 61)<=i/\i<2 ^ 61 /\ -(2 ^ 61)<=j/\j<2 ^ 61)/\R (mE i (i - j).toNat) H1
theorem Gj {a b c:PySem.Expr} {ta:TA} {p pos:Pos} (hg:Gl X "range") (hm:X.mg "range" = none) (ha:PA X [a,b,c] ta) (hs:starEach [a,b,c] X.env=(false,eval a X.env) :: starEach [b,c] X.env:=by rfl) (hpl:(backTo pos (starEach [b,c] X.env)).any (·.1)=false:=by rfl) :
  PI X tg (.Call (.Name "range" p) [a,b,c] [] pos) (xK ta):=by
 intro pins s σ H R I h
 refine Call_ (pA I hg hm boot_range (aZK (lH (ha pos pins s σ H _ I h) λus s1 vs H1 I1 r1 q1=>?_) hs hpl))
 obtain ⟨i,j,e,⟨q1,q2,q3,q4⟩,q⟩:=q1
 subst e
 cases r1 with
 | cons r rr =>
  cases rr with
  | cons r' rr =>
   cases rr with
   | cons r'' rr =>
    cases rr
    obtain ⟨t,rfl⟩:=r
    obtain ⟨t',rfl⟩:=r'
    obtain ⟨t'',rfl⟩:=r''
    exact call_range_3 (by decide) (Vf I1 (by lia) (by lia) (by lia) (by lia) q) (.inl (ahp (by lia)))
end
theorem QW {H:Hp} {a:Addr} {o:HO} (h:H a=some o):upd H a o=H:=by
 funext b
 by_cases e:b=a
 .rw [e,Za,h]
 .rw [Ze e]
theorem Gh {hi:Int} {n:Nat} {g:TG} {tb:TS} {D:Ends} {σ:St} {H:Hp} (Pv:Nat->St->Hp->Prop) (h0:Pv 0 σ H)
  (hs:∀ i σ H,i<n->Pv i σ H->g (.int (hi - i)) σ H λσ2 H2=>tb { D with nx:=Pv (i+1),ct:=Pv (i+1),bk:=D.nx } σ2 H2) (hd:∀ σ H,Pv n σ H->D.nx σ H) :
  ∃ W:Nat->Nat->St->Hp->Prop,(∃ m,W 0 m σ H)/\∀ i m σ H,W i m σ H ->
   ((mE hi n).stop i H/\D.nx σ H)\/((mE hi n).go i H/\∃ N:St->Hp->Prop,(∀ σ' H',N σ' H'->∃ m',m'<m/\W (i+1) m' σ' H')/\∀ x H',(mE hi n).jN i H x H'->g x σ H' λσ2 H2=>tb { D with nx:=N,ct:=N,bk:=D.nx } σ2 H2):=by
 refine ⟨λi m σ H=>m=n - i/\i<=n/\Pv i σ H,⟨n,by simp,auX _,h0⟩,?_⟩
 rintro i m σ H ⟨rfl,hi,p⟩
 by_cases hlt:i<n
 .refine .inr ⟨hlt,Pv (i+1),λσ' H' p'=>⟨n - (i+1),by lia,rfl,hlt,p'⟩,λx H' y=>?_⟩
  obtain ⟨e,y⟩:=y
  subst e y
  exact hs i σ _ hlt p
 .have e:i=n:=by lia
  subst e
  exact .inl ⟨avG _,hd σ H p⟩
theorem MS (xs:List V):∀ n,n<=xs.length->((List.range n).map λi=>n - 1 - i).filterMap (xs[·]?)=(xs.take n).reverse
 | 0,_=>by simp
 | n+1,h=>by
  have hn:n<xs.length:=h
  have ih:=MS xs n (by lia)
  rw [List.range_succ_eq_map,ar3,map_map,aKw]
  have e0:n+1 - 1 - 0=n:=by lia
  rw [e0,a8w hn]
  have e1:(List.range n).map ((λi=>n+1 - 1 - i) ∘ Nat.succ)=(List.range n).map λi=>n - 1 - i:=by
   refine anO λi _=>?_
   show n+1 - 1 - (i+1)=n - 1 - i
   lia
  rw [e1,ih,aK1,a8w hn,bab]
  rfl
theorem Bm (xs:List V):kP xs none none (some (-1))=xs.reverse:=by
 have h:=MS xs xs.length (avG _)
 rw [aqK] at h
 rw [← h,← W.krv_sliceRange]
 rfl
theorem Li {K:W.Frag} {a b:Addr} {xs ys:List V} {g:TG} {tb:TS} {D:Ends} {σ:St} {H:Hp} (Pv:Nat->St->Hp->Prop) (hlen:xs.length=ys.length) (h0:Pv 0 σ H) (hl:∀ i σ H,i<=xs.length->Pv i σ H->ak K H a xs/\ak K H b ys)
  (hs:∀ i x y t σ H,xs[i]?=some x->ys[i]?=some y->Pv i σ H->H t=none->g (.ref t) σ (upd H t (.tup [x,y])) λσ2 H2=>tb { D with nx:=Pv (i+1),ct:=Pv (i+1),bk:=D.nx } σ2 H2) (hd:∀ σ H,Pv xs.length σ H->D.nx σ H) :
  ∃ W:Nat->Nat->St->Hp->Prop,(∃ m,W 0 m σ H)/\∀ i m σ H,W i m σ H ->
   ((qh K a b).stop i H/\D.nx σ H)\/((qh K a b).go i H/\∃ N:St->Hp->Prop,(∀ σ' H',N σ' H'->∃ m',m'<m/\W (i+1) m' σ' H')/\∀ x H',(qh K a b).jN i H x H'->g x σ H' λσ2 H2=>tb { D with nx:=N,ct:=N,bk:=D.nx } σ2 H2):=by
 refine ⟨λi m σ H=>m=xs.length - i/\i<=xs.length/\Pv i σ H,⟨xs.length,by simp,auX _,h0⟩,?_⟩
 rintro i m σ H ⟨rfl,hi,p⟩
 obtain ⟨q1,q2⟩:=hl i σ H hi p
 by_cases hlt:i<xs.length
 .have D9:i<ys.length:=hlen ▸ hlt
  refine .inr ⟨⟨xs,ys,xs[i],ys[i],q1,q2,by simp [hlt],by simp [D9]⟩,Pv (i+1),λσ' H' p'=>⟨xs.length - (i+1),by lia,rfl,hlt,p'⟩,λx H' y=>?_⟩
  obtain ⟨t,x1,y1,ht,rfl,rfl,hx,hy⟩:=y
  exact hs i x1 y1 t σ _ (hx xs q1) (hy ys q2) p ht
 .have e:i=xs.length:=by lia
  subst e
  exact .inl ⟨⟨xs,ys,q1,q2,.inl (avG _)⟩,hd σ H p⟩
end L2
namespace L2.MT
open PySem PySem.Spec PyProof.Rows
def Rk (ρ:Keyed->Nat) (xs:Array Keyed) (i:Nat):Nat:=(xs[i]?).elim 0 ρ
theorem yM {ρ:Keyed->Nat} {xs ys:Array Keyed} {i j:Nat} (h:xs[i]?=ys[j]?):Rk ρ xs i=Rk ρ ys j:=by unfold Rk; rw [h]
def e8 (ρ:Keyed->Nat) (xs:Array Keyed) (i j:Nat):Prop:=K xs i<K xs j\/(K xs i=K xs j/\Rk ρ xs i<Rk ρ xs j)
theorem e8.trans {ρ:Keyed->Nat} {xs:Array Keyed} {i j k:Nat} (h1:e8 ρ xs i j) (h2:e8 ρ xs j k):e8 ρ xs i k:=by
 unfold e8 at *
 lia
def jQ (ρ:Keyed->Nat) (xs:Array Keyed) (n:Nat):Prop:=∀ i j,i<j->j<n->e8 ρ xs i j
def Dec (ρ:Keyed->Nat) (xs:Array Keyed) (n:Nat):Prop:=∀ i j,i<j->j<n->e8 ρ xs j i
def f7 (ρ:Keyed->Nat) (xs:Array Keyed) (n:Nat):Prop:=∀ i,n<=i->i<xs.size->Rk ρ xs i=i
theorem f7.mono {ρ:Keyed->Nat} {xs:Array Keyed} {m n:Nat} (h:f7 ρ xs m) (l:m<=n):f7 ρ xs n:=λi hi hs=>h i (ajJ l hi) hs
theorem AE {ρ:Keyed->Nat} {xs:Array Keyed} {i:Nat} (h:i<xs.size):(xs.toList.map ρ)[i]?=some (Rk ρ xs i):=by
 unfold Rk
 rw [bdd,a2W,afz h]
 rfl
structure Inj (ρ:Keyed->Nat) (xs:Array Keyed):Prop where
 inj:∀ i j,i<xs.size->j<xs.size->Rk ρ xs i=Rk ρ xs j->i=j
 lt:∀ i,i<xs.size->Rk ρ xs i<xs.size
theorem QV {ρ:Keyed->Nat} {xs a₀:Array Keyed} (p:xs.Perm a₀) (h0:f7 ρ a₀ 0):Inj ρ xs:=by
 have e0:a₀.toList.map ρ=List.range a₀.size:=by
  apply aNj
  intro i
  by_cases h:i<a₀.size
  .rw [AE h,aEb h,h0 i (auX _) h]
  .rw [aAl (by simpa using h),aAl (by simpa using h)]
 have pm:(xs.toList.map ρ).Perm (List.range a₀.size):=by rw [← e0]; exact (amG.mp p).map ρ
 have nd:(xs.toList.map ρ).Nodup:=pm.nodup_iff.mpr nodup_range
 refine ⟨λi j hi hj e=>?_,λi hi=>?_⟩
 .refine (List.getElem?_inj (by rw [aH5,aek]; exact hi) nd).mp ?_
  rw [AE hi,AE hj,e]
 .have m:Rk ρ xs i∈xs.toList.map ρ:=aVV (AE hi)
  have:=a1N.mp (pm.mem_iff.mp m)
  rw [p.size_eq]
  exact this
theorem Inj.below {ρ:Keyed->Nat} {xs:Array Keyed} (I:Inj ρ xs) {n:Nat} (h:f7 ρ xs n) {i:Nat} (hi:i<n) (hs:i<xs.size):Rk ρ xs i<n:=by
 by_cases c:Rk ρ xs i<n
 .exact c
 .have l:=I.lt i hs
  have e:=h (Rk ρ xs i) (by lia) l
  have:=I.inj _ _ l hs e
  lia
theorem Gi {ρ:Keyed->Nat} {xs:Array Keyed} {src d:Nat} (hs:src<xs.size) (hd:d<=src) (k:Nat) :
  Rk ρ (bubble xs src d) k=if k=src - d then Rk ρ xs src else if src - d<k/\k<=src then Rk ρ xs (k - 1) else Rk ρ xs k:=by
 have e:=getElem?_bubble hs d hd k
 by_cases h1:k=src - d
 .rw [aHZ h1] at e ⊢
  exact yM e
 .rw [bd2 h1] at e ⊢
  by_cases h2:src - d<k/\k<=src
  .rw [aHZ h2] at e ⊢
   exact yM e
  .rw [bd2 h2] at e ⊢
   exact yM e
theorem qd {ρ:Keyed->Nat} {xs:Array Keyed} {i j:Nat} (hj:j<=xs.size) (k:Nat) :
  Rk ρ (mirror xs i j ((j - i) / 2)) k=if i<=k/\k<j then Rk ρ xs (i+j - 1 - k) else Rk ρ xs k:=by
 have e:=getElem?_mirror_all (i:=i) hj k
 by_cases h1:i<=k/\k<j
 .rw [aHZ h1] at e ⊢
  exact yM e
 .rw [bd2 h1] at e ⊢
  exact yM e
section
variable {prog:Program} {w:World} {A:Around} {E:Value->Shared->Prop} {s:Shared} {a₀:Array Keyed} {ρ:Keyed->Nat}
theorem SB.inj {st:SortSt} (h:SBase a₀ st) (hr:f7 ρ a₀ 0):Inj ρ (arrOf st):=QV h.perm hr
theorem QU {st:SortSt} {n ok:Nat} {Q:Bool->SortSt->Prop} (h0:IntKeys a₀) (hr:f7 ρ a₀ 0) (hn:n<=a₀.size) (hok:ok<=n) (Qj:1<=ok) (hB:SBase a₀ st) (hs:jQ ρ (arrOf st) ok) (hI:f7 ρ (arrOf st) ok)
  (h:∀ st',SBase a₀ st'->jQ ρ (arrOf st') n->Q true st'):wpS (model prog w) A E s (binarySort' 0 n ok) Q st:=by
 rw [binarySort'_eq]
 simp only [a3U]
 refine aN1 (a5T (a7j (I:=λk c st1=>c=(none,())/\SBase a₀ st1/\jQ ρ (arrOf st1) (min k n)/\f7 ρ (arrOf st1) (min k n))
  (Q:=λc st1=>c=(none,())/\SBase a₀ st1/\jQ ρ (arrOf st1) n) ?turn ?last ?first) ?after)
 case after =>
  rintro c st1 ⟨rfl,b1,i1⟩
  exact aSE (h st1 b1 i1)
 case first =>
  rw [show min (max ok 1) n=ok by lia]
  exact ⟨rfl,hB,hs,hI⟩
 case last =>
  rintro c st1 ⟨hc,b1,i1,_⟩
  rw [show min (max (max ok 1) n) n=n by lia] at i1
  exact ⟨hc,b1,i1⟩
 case turn =>
  rintro k c st1 Qa hkn ⟨rfl,b1,i1,d1⟩
  rw [show min k n=k by lia] at i1 d1
  have hk:k<a₀.size:=by lia
  have sz:=b1.size
  have J:=SB.inj b1 hr
  have rk:Rk ρ (arrOf st1) k=k:=d1 k (avG _) (by lia)
  have lo:∀ m,m<k->¬ K (arrOf st1) k<K (arrOf st1) m->e8 ρ (arrOf st1) m k:=λm hm c=>by
   have:=J.below d1 hm (by lia)
   unfold e8
   lia
  refine aN1 (a5T (a7j (I:=λx c st2=>st2=st1/\∃ l r,c=(none,l,r)/\l<=r/\r<=k/\r - l<=k - x/\(∀ i,i<l->e8 ρ (arrOf st1) i k)/\(∀ i,r<=i->i<k->e8 ρ (arrOf st1) k i))
   (Q:=λc st2=>st2=st1/\∃ l r,c=(none,l,r)/\l<=k/\(∀ i,i<l->e8 ρ (arrOf st1) i k)/\(∀ i,l<=i->i<k->e8 ρ (arrOf st1) k i)) ?iturn ?ilast ?ifirst) ?iafter)
  case ifirst=>exact ⟨rfl,0,k,rfl,by lia,by lia,by lia,λi hi=>absurd hi (by lia),λi p q=>absurd q (by lia)⟩
  case ilast =>
   rintro c st2 ⟨rfl,l,r,rfl,hlr,hrk,hm,u1,u2⟩
   have e:l=r:=by lia
   subst e
   exact ⟨rfl,l,l,rfl,hrk,u1,u2⟩
  case iturn =>
   rintro x c st2 _ hxk ⟨rfl,l,r,rfl,hlr,hrk,hm,u1,u2⟩
   dsimp only
   by_cases hge:l ≥ r
   .rw [aHZ hge]
    have e:l=r:=by lia
    subst e
    exact aSE ⟨rfl,l,l,rfl,hrk,u1,u2⟩
   .rw [bd2 hge]
    refine aN1 (wpS_ltK b1 h0 hk (by lia) ?_)
    by_cases c:K (arrOf st2) k<K (arrOf st2) ((l+r) / 2)
    .simp only [c,az2,at9]
     refine aSE ⟨rfl,l,(l+r) / 2,rfl,by lia,by lia,by lia,u1,λi p q=>?_⟩
     by_cases e:i=(l+r) / 2
     .subst e; exact .inl c
     .exact e8.trans (.inl c) (i1 _ _ (by lia) q)
    .simp only [c,aAi,a0a,aXX]
     refine aSE ⟨rfl,(l+r) / 2+1,r,rfl,by lia,by lia,by lia,λi p=>?_,u2⟩
     have v:=lo _ (by lia) c
     by_cases e:i=(l+r) / 2
     .subst e; exact v
     .exact e8.trans (i1 _ _ (by lia) (by lia)) v
  case iafter =>
   rintro c st2 ⟨rfl,l,r,rfl,hlk,u1,u2⟩
   show wpS _ _ _ _ (do moveDown' k l; pure (ForInStep.yield (none,()))) _ _
   rw [moveDown'_eq]
   refine aN1 (afH (aSE ⟨rfl,b1.setArr (bubble_perm _ _ _),?_,?_⟩))
   .rw [show min (k+1) n=k+1 by lia]
    have hks:k<(arrOf st2).size:=by lia
    intro i j hij hj
    show e8 ρ (bubble (arrOf st2) k (k - l)) i j
    unfold e8
    rw [K_bubble hks (by lia),K_bubble hks (by lia),Gi hks (by lia),Gi hks (by lia),show k - (k - l)=l by lia]
    by_cases a1:i=l
    .have qZ:¬ j=l:=by lia
     have JE:l<j/\j<=k:=by lia
     rw [aHZ a1,aHZ a1,bd2 qZ,bd2 qZ,aHZ JE,aHZ JE]
     exact u2 _ (by lia) (by lia)
    .rw [bd2 a1,bd2 a1]
     by_cases a2:j=l
     .have qZ:¬ (l<i/\i<=k):=by lia
      rw [aHZ a2,aHZ a2,bd2 qZ,bd2 qZ]
      exact u1 _ (by lia)
     .rw [bd2 a2,bd2 a2]
      by_cases a3:l<i/\i<=k
      .have qZ:l<j/\j<=k:=by lia
       rw [aHZ a3,aHZ a3,aHZ qZ,aHZ qZ]
       exact i1 _ _ (by lia) (by lia)
      .rw [bd2 a3,bd2 a3]
       by_cases a4:l<j/\j<=k
       .rw [aHZ a4,aHZ a4]
        by_cases a5:i<j - 1
        .exact i1 _ _ a5 (by lia)
        .exfalso; lia
       .rw [bd2 a4,bd2 a4]
        exact i1 _ _ (by lia) (by lia)
   .rw [show min (k+1) n=k+1 by lia]
    intro i hi hs'
    have hs2:i<(arrOf st2).size:=by
     have:(arrOf (setArr st2 (bubble (arrOf st2) k (k - l)))).size=(arrOf st2).size:=bubble_size _ _ _
     lia
    show Rk ρ (bubble (arrOf st2) k (k - l)) i=i
    rw [Gi (by lia) (by lia),bd2 (by lia),bd2 (by lia)]
    exact d1 i (by lia) hs2
theorem Kn {st:SortSt} {a nrem:Nat} {Q:AscSt->SortSt->Prop} (h0:IntKeys a₀) (hr:f7 ρ a₀ 0) (hn:nrem<=a₀.size) (ha:1<=a) (han:a<=nrem) (hB:SBase a₀ st) (hs:jQ ρ (arrOf st) a) (hI:f7 ρ (arrOf st) a)
  (h:∀ n,a<=n->n<=nrem->jQ ρ (arrOf st) n->(n=nrem\/K (arrOf st) n<K (arrOf st) (n - 1))->Q (none,n) st):wpS (model prog w) A E s (ascLoop a nrem) Q st:=by
 unfold ascLoop
 have sz:=hB.size
 have J:=SB.inj hB hr
 refine a7j (I:=λx c st1=>st1=st/\c=(none,x)/\jQ ρ (arrOf st) x) ?turn ?last ⟨rfl,rfl,hs⟩
 case last =>
  rintro c st1 ⟨rfl,rfl,i1⟩
  rw [show max a nrem=nrem by lia] at i1 ⊢
  exact h nrem han (avG _) i1 (.inl rfl)
 case turn =>
  rintro x c st1 hax hxn ⟨rfl,rfl,i1⟩
  dsimp only
  refine aN1 (wpS_ltK hB h0 (by lia) (by lia) ?_)
  by_cases c:K (arrOf st1) x<K (arrOf st1) (x - 1)
  .simp only [c,az2,at9]
   exact aSE (h x hax (by lia) i1 (.inr c))
  .simp only [c,aAi,a0a,aXX]
   refine aSE ⟨rfl,rfl,λi j hij hj=>?_⟩
   by_cases hjx:j<x
   .exact i1 i j hij hjx
   .have ej:j=x:=by lia
    subst ej
    have dx:=hI.mono hax
    have r1:=J.below dx (i:=j - 1) (by lia) (by lia)
    have r2:=dx j (avG _) (by lia)
    have v:e8 ρ (arrOf st1) (j - 1) j:=by unfold e8; lia
    by_cases e:i=j - 1
    .subst e; exact v
    .exact e8.trans (i1 i (j - 1) (by lia) (by lia)) v
theorem Lh {st:SortSt} {n nrem:Nat} {Q:Option Nat->SortSt->Prop} (h0:IntKeys a₀) (hr:f7 ρ a₀ 0) (hn:nrem<=a₀.size) (h1:1<=n) (hnn:n<=nrem) (hB:SBase a₀ st) (hs:Dec ρ (arrOf st) n) (hI:f7 ρ (arrOf st) n)
  (h:∀ m st',SBase a₀ st'->1<=m->m<=nrem->jQ ρ (arrOf st') m->f7 ρ (arrOf st') m->Q (some m) st'):wpS (model prog w) A E s (tail3 n nrem) Q st:=by
 unfold tail3
 have sz:=hB.size
 refine aN1 (ap2 ?_)
 have b1:SBase a₀ (setArr st (mirror (arrOf st) 0 n ((n - 0) / 2))):=hB.setArr (aBr _ _ _ _)
 have d1:f7 ρ (mirror (arrOf st) 0 n ((n - 0) / 2)) n:=λi hi hs'=>by
  rw [mirror_size] at hs'
  rw [qd (by lia),bd2 (by lia)]
  exact hI i hi hs'
 refine aN1 (Kn h0 hr hn h1 hnn b1 ?_ d1 λm m1 m2 i2 _=>aSE (h m _ b1 (by lia) m2 i2 (d1.mono m1)))
 intro i j hij hj
 show e8 ρ (mirror (arrOf st) 0 n ((n - 0) / 2)) i j
 unfold e8
 rw [K_mirror (by lia),K_mirror (by lia),qd (by lia),qd (by lia),aHZ (by lia),aHZ (by lia),aHZ (by lia),aHZ (by lia)]
 exact hs _ _ (by lia) (by lia)
structure DI (ρ:Keyed->Nat) (xs:Array Keyed) (x q:Nat):Prop where
 l:q+1<=x
 sz:x<=xs.size
 d:Dec ρ xs (x - (q+1))
 u:∀ i j,i<x - (q+1)->x - (q+1)<=j->j<x->K xs j<K xs i
 e:∀ i,x - (q+1)<=i->i<x->K xs i=K xs (x - 1)
 f:f7 ρ xs (x - (q+1))
theorem DI.yj {xs:Array Keyed} {x:Nat} (h:DI ρ xs x 0):Dec ρ xs x:=λi j hij hj=>by
 by_cases c:j<x - (0+1)
 .exact h.d i j hij c
 .exact .inl (h.u i j (by lia) (by lia) hj)
theorem DI.rev {xs:Array Keyed} {x q:Nat} (h:DI ρ xs x q):Dec ρ (mirror xs (x - (q+1)) x ((x - (x - (q+1))) / 2)) x/\f7 ρ (mirror xs (x - (q+1)) x ((x - (x - (q+1))) / 2)) x:=by
 have hl:=h.l
 have hz:=h.sz
 refine ⟨λi j hij hj=>?_,λi hi hs=>?_⟩
 .have ke:=K_mirror_equal (i:=x - (q+1)) hz h.e
  unfold e8
  rw [ke,ke,qd hz,qd hz]
  by_cases c1:j<x - (q+1)
  .rw [bd2 (by lia),bd2 (by lia)]
   exact h.d i j hij c1
  .by_cases c2:i<x - (q+1)
   .exact .inl (h.u i j c2 (by lia) hj)
   .rw [aHZ (by lia),aHZ (by lia)]
    refine .inr ⟨(h.e j (by lia) hj).trans (h.e i (by lia) (by lia)).symm,?_⟩
    rw [h.f _ (by lia) (by lia),h.f _ (by lia) (by lia)]
    lia
 .rw [mirror_size] at hs
  rw [qd hz,bd2 (by lia)]
  exact h.f i (by lia) hs
theorem DI.of {xs:Array Keyed} {x:Nat} (hx:1<=x) (hz:x<xs.size) (hd:Dec ρ xs x) (hf:f7 ρ xs x) (hk:K xs x<K xs (x - 1)):DI ρ xs (x+1) 0:=by
 refine ⟨by lia,by lia,hd,λi j hi hj hj'=>?_,λi hi hi'=>?_,hf⟩
 .have ej:j=x:=by lia
  subst ej
  by_cases e:i=j - 1
  .subst e; exact hk
  .have v:=hd i (j - 1) (by lia) (by lia)
   unfold e8 at v
   lia
 .have ei:i=x:=by lia
  subst ei
  rfl
theorem DI.more {xs:Array Keyed} {x q:Nat} (h:DI ρ xs x q) (hz:x<xs.size) (hk:K xs x=K xs (x - 1)):DI ρ xs (x+1) (q+1):=by
 have hl:=h.l
 have e0:x+1 - (q+1+1)=x - (q+1):=by lia
 refine ⟨by lia,by lia,by rw [e0]; exact h.d,λi j hi hj hj'=>?_,λi hi hi'=>?_,by rw [e0]; exact h.f⟩
 .rw [e0] at hi hj
  by_cases c:j<x
  .exact h.u i j hi hj c
  .have ej:j=x:=by lia
   subst ej
   rw [hk]
   exact h.u i (j - 1) hi (by lia) (by lia)
 .rw [show x+1 - 1=x by lia]
  by_cases c:i<x
  .rw [hk]; exact h.e i (by lia) c
  .have ei:i=x:=by lia
   subst ei
   rfl
theorem RU {st:SortSt} {n nrem:Nat} {Q:DescSt->SortSt->Prop} (h0:IntKeys a₀) (hn:nrem<=a₀.size) (hnn:n<=nrem) (hB:SBase a₀ st) (hs:DI ρ (arrOf st) n 0)
  (h:∀ m q st',SBase a₀ st'->m<=nrem->DI ρ (arrOf st') m q->Q (none,m,q) st'):wpS (model prog w) A E s (descLoop n nrem) Q st:=by
 unfold descLoop
 refine a7j (I:=λx c st1=>∃ q,c=(none,x,q)/\SBase a₀ st1/\DI ρ (arrOf st1) x q) ?turn ?last ⟨0,rfl,hB,hs⟩
 case last =>
  rintro c st1 ⟨q,rfl,b1,d1⟩
  rw [show max n nrem=nrem by lia] at d1 ⊢
  exact h nrem q st1 b1 (avG _) d1
 case turn =>
  rintro x c st1 hax hxn ⟨q,rfl,b1,d1⟩
  dsimp only
  have sz:=b1.size
  have hl:=d1.l
  refine aN1 (wpS_ltK b1 h0 (by lia) (by lia) ?_)
  by_cases c:K (arrOf st1) x<K (arrOf st1) (x - 1)
  .simp only [c,az2,at9]
   by_cases hq:q > 0
   .rw [aHZ hq]
    obtain ⟨r1,r2⟩:=d1.rev
    refine aN1 (ap2 (aSE ⟨0,rfl,b1.setArr (aBr _ _ _ _),DI.of (by lia) (by show x<(mirror _ _ _ _).size; rw [mirror_size]; lia) r1 r2 ?_⟩))
    show K (mirror _ _ _ _) x<K (mirror _ _ _ _) (x - 1)
    rw [K_mirror_equal d1.sz d1.e,K_mirror_equal d1.sz d1.e]
    exact c
   .rw [bd2 hq]
    have e:q=0:=by lia
    subst e
    exact aSE ⟨0,rfl,b1,DI.of (by lia) (by lia) d1.yj (d1.f.mono (by lia)) c⟩
  .simp only [c,aAi,a0a,aXX]
   refine aN1 (wpS_ltK b1 h0 (by lia) (by lia) ?_)
   by_cases c2:K (arrOf st1) (x - 1)<K (arrOf st1) x
   .simp only [c2,az2,at9]
    exact aSE (h x q st1 b1 (by lia) d1)
   .simp only [c2,aAi,a0a,aXX]
    exact aSE ⟨q+1,rfl,b1,d1.more (by lia) (by lia)⟩
theorem Lg {st:SortSt} {n nrem:Nat} {Q:Option Nat->SortSt->Prop} (h0:IntKeys a₀) (hr:f7 ρ a₀ 0) (hn:nrem<=a₀.size) (hnn:n+1<=nrem) (hB:SBase a₀ st) (hs:DI ρ (arrOf st) (n+1) 0)
  (h:∀ m st',SBase a₀ st'->1<=m->m<=nrem->jQ ρ (arrOf st') m->f7 ρ (arrOf st') m->Q (some m) st'):wpS (model prog w) A E s (descPart n nrem) Q st:=by
 unfold descPart
 refine aN1 (wpS_lift (ai2 ⟨rfl,?_⟩))
 refine aN1 (RU h0 hn hnn hB hs λm q st1 b1 m2 d1=>?_)
 dsimp only
 have hl:=d1.l
 by_cases hq:q > 0
 .rw [aHZ hq]
  obtain ⟨r1,r2⟩:=d1.rev
  exact aN1 (ap2 (Lh h0 hr hn (by lia) m2 (b1.setArr (aBr _ _ _ _)) r1 r2 h))
 .rw [bd2 hq]
  have e:q=0:=by lia
  subst e
  exact Lh h0 hr hn (by lia) m2 b1 d1.yj (d1.f.mono (by lia)) h
theorem Uw {st:SortSt} {nrem:Nat} {Q:Option Nat->SortSt->Prop} (h0:IntKeys a₀) (hr:f7 ρ a₀ 0) (hn:nrem<=a₀.size) (h1:1<=nrem) (hB:SBase a₀ st) (hI:f7 ρ (arrOf st) 0)
  (h:∀ m st',SBase a₀ st'->1<=m->m<=nrem->jQ ρ (arrOf st') m->f7 ρ (arrOf st') m->Q (some m) st'):wpS (model prog w) A E s (countRun' 0 nrem) Q st:=by
 rw [countRun0_eq]
 have sz:=hB.size
 refine aN1 (Kn h0 hr hn (avG 1) h1 hB (λi j hij hj=>absurd hj (by lia)) (hI.mono (auX _)) λn n1 n2 i1 hor=>?_)
 dsimp only
 by_cases e:n=nrem
 .rw [aHZ (by simpa using e)]
  exact aSE (h n st hB n1 n2 i1 (hI.mono (auX _)))
 .rw [bd2 (by simpa using e)]
  have lt:K (arrOf st) n<K (arrOf st) (n - 1):=hor.resolve_left e
  by_cases g:n > 1
  .rw [aHZ g]
   refine aN1 (wpS_ltK hB h0 (by lia) (by lia) ?_)
   by_cases c:K (arrOf st) 0<K (arrOf st) (n - 1)
   .simp only [c,az2,at9]
    exact aSE (h n st hB n1 n2 i1 (hI.mono (auX _)))
   .simp only [c,aAi,a0a,aXX]
    have all:∀ k,0<=k->k<n->K (arrOf st) k=K (arrOf st) (n - 1):=by
     intro k _ hk
     have a1:k=0\/e8 ρ (arrOf st) 0 k:=by
      by_cases z:k=0
      .exact .inl z
      .exact .inr (i1 0 k (by lia) hk)
     have a2:k=n - 1\/e8 ρ (arrOf st) k (n - 1):=by
      by_cases z:k=n - 1
      .exact .inl z
      .exact .inr (i1 k (n - 1) (by lia) (by lia))
     have a3:=i1 0 (n - 1) (by lia) (by lia)
     unfold e8 at a1 a2 a3
     rcases a1 with a1 | a1
     .subst a1; lia
     .rcases a2 with a2 | a2
      .subst a2; rfl
      .lia
    have ke:=K_mirror_equal (xs:=arrOf st) (i:=0) (j:=n) (by lia) all
    refine aN1 (ap2 (Lg h0 hr hn (by lia) (hB.setArr (aBr _ _ _ _)) (DI.of (by lia) (by show n<(mirror _ _ _ _).size; rw [mirror_size]; lia) (λi j hij hj=>?_) (λi hi hs=>?_) ?_) h))
    .show e8 ρ (mirror (arrOf st) 0 n ((n - 0) / 2)) j i
     unfold e8
     rw [ke,ke,all i (by lia) (by lia),all j (by lia) hj,qd (by lia),qd (by lia),aHZ (by lia),aHZ (by lia),hI _ (by lia) (by lia),hI _ (by lia) (by lia)]
     lia
    .have hs':i<(mirror (arrOf st) 0 n ((n - 0) / 2)).size:=hs
     rw [mirror_size] at hs'
     show Rk ρ (mirror (arrOf st) 0 n ((n - 0) / 2)) i=i
     rw [qd (by lia),bd2 (by lia)]
     exact hI i (by lia) hs'
    .show K (mirror (arrOf st) 0 n ((n - 0) / 2)) n<K (mirror (arrOf st) 0 n ((n - 0) / 2)) (n - 1)
     rw [ke,ke]
     exact lt
  .rw [bd2 g]
   have en:n=1:=by lia
   subst en
   exact Lg h0 hr hn (by lia) hB (DI.of (by lia) (by lia) (λi j hij hj=>absurd hj (by lia)) (hI.mono (auX _)) lt) h
def mz (ρ:Keyed->Nat) (a₀:Array Keyed) (st:SortSt):Prop:=(arrOf st).Perm a₀/\failedOf st=none/\pendingOf st=#[(0,a₀.size,0)]/\jQ ρ (arrOf st) a₀.size
theorem mz.of {st:SortSt} (hB:SBase a₀ st) (hs:jQ ρ (arrOf st) a₀.size):mz ρ a₀ (setPending st ((pendingOf st).push (0,a₀.size,0))) :=
 ⟨hB.perm,hB.failed,by show (pendingOf st).push _=_; rw [hB.pend]; rfl,hs⟩
theorem RT {st:SortSt} {Q:Unit->SortSt->Prop} (h0:IntKeys a₀) (hr:f7 ρ a₀ 0) (hB:SBase a₀ st) (hI:f7 ρ (arrOf st) 0) (h2:2<=a₀.size) (h64:a₀.size<64)
  (h:∀ st',(arrOf st').Perm a₀->failedOf st'=none->jQ ρ (arrOf st') a₀.size->Q () st'):wpS (model prog w) A E s sortRuns' Q st:=by
 rw [sortRuns'_eq]
 refine aN1 (a0Y ?_)
 dsimp only
 have mr:minRun' a₀.size a₀.size 0=a₀.size:=by
  obtain ⟨f,hf⟩:∃ f,a₀.size=f+1:=⟨a₀.size - 1,by lia⟩
  have e:minRun' (f+1) a₀.size 0=a₀.size:=by
   rw [minRun'_succ,aHZ h64]
   rfl
  rwa [← hf] at e
 simp only [hB.size,mr]
 refine aN1 (a5T (a7j
  (I:=λx c st1=>(x=0/\c=(none,0)/\SBase a₀ st1/\f7 ρ (arrOf st1) 0)\/(1<=x/\c=(none,a₀.size)/\mz ρ a₀ st1))
  (Q:=λc st1=>c=(none,a₀.size)/\mz ρ a₀ st1) ?turn ?last (.inl ⟨rfl,rfl,hB,hI⟩)) ?after)
 case last =>
  rintro c st1 (⟨hx,_⟩ | ⟨_,hc,hD⟩)
  .lia
  .exact ⟨hc,hD⟩
 case turn =>
  rintro x c st1 _ hx (⟨rfl,rfl,b1,i1⟩ | ⟨kR,rfl,hD⟩)
  .dsimp only
   rw [bd2 (by lia)]
   simp only [aPP,Nat.min_self,a3U]
   refine aN1 (Uw h0 hr (avG _) (by lia) b1 i1 λm st2 b2 m1 m2 s2 d2=>?_)
   dsimp only
   by_cases lt:m<a₀.size
   .rw [aHZ lt]
    refine aN1 (wpS_lift (ai2 ⟨rfl,?_⟩))
    refine aN1 (QU h0 hr (avG _) m2 m1 b2 s2 d2 λst3 b3 s3=>?_)
    simp only [aUH,a0a,aXX]
    refine aN1 (a0Y ?_)
    have hb:(pendingOf st3).back?=none:=by
     rw [b3.pend]
     rfl
    rw [hb]
    dsimp only
    exact aN1 (afH (aSE (.inr ⟨by lia,rfl,mz.of b3 s3⟩)))
   .rw [bd2 lt]
    have em:m=a₀.size:=by lia
    subst em
    refine aN1 (a0Y ?_)
    have hb:(pendingOf st2).back?=none:=by
     rw [b2.pend]
     rfl
    rw [hb]
    dsimp only
    exact aN1 (afH (aSE (.inr ⟨by lia,rfl,mz.of b2 s2⟩)))
  .dsimp only
   rw [aHZ (avG _)]
   exact aSE ⟨rfl,hD⟩
 case after =>
  rintro c st1 ⟨rfl,hD⟩
  dsimp only
  refine aN1 (a5T (a7j (I:=λ_ c st2=>st2=st1/\c=(none,())) (Q:=λc st2=>st2=st1/\c=(none,())) ?_ (λ_ _ hh=>hh) ⟨rfl,rfl⟩) ?_)
  .rintro x c st2 _ _ ⟨rfl,rfl⟩
   refine aN1 (a0Y ?_)
   rw [aHZ (by rw [hD.2.2.1]; exact avG 1)]
   exact aSE ⟨rfl,rfl⟩
  .rintro c st2 ⟨rfl,rfl⟩
   exact aSE (h _ hD.1 hD.2.1 hD.2.2.2)
end
end L2.MT
namespace L2
open PySem PySem.Spec PyProof.Rows
def BMod (base:Heap) (mg:Str->Option Value):Prop:=∃ bm o,mg "__builtins__" = some (.ref bm)/\bm≠builtinsNs/\bm≠mainGlobals/\base.get? bm=some o/\o.cls=.type "module" /\ o.dict=some builtinsNs/\o.data=.plain
section
variable {X:Cx} {pins:List (Addr×Obj)} {σ:St} {H:Hp} {s:Shared}
theorem Inv.grown {P c':Addr} {pos:Pos} {qual:Str} {ps:Array Value} {h':Heap} {tk:Nat} (I:Inv X pins σ H s) (hP:H P=some (.iU pos qual)) (hx:Heap.ExtBut P s.heap h') (hge:s.heap.objs.size<=c') (hrec:h'.CodeRec (.ref c') qual)
  (htr:TriplesOk ps.toList) (hnf:codeAmong pos ps.toList=none) (htb:h'.get? P=some { cls:=.none,data:=.fields (ps++#[rawInt pos.line,rawInt pos.col,.ref c']) }) :
  ∃ oc vs t,h'.get? c'=some oc/\oc.data=.fields vs/\vs[1]?=some (.str qual t)/\Inv X pins σ (upd H c' (.bC oc (.own P))) { s with heap:=h',toks:=tk }:=by
 obtain ⟨c,oc,vs,t,z,hoc,hd,hv⟩:=hrec
 cases z
 have fr:H c'=none:=I.hok.fresh hge
 have nP:∀ b,H b=none->b≠P:=λb n z=>by rw [z,hP] at n; cases n
 have nc:∀ b u,H b=some u->b≠c':=λb u e=>Zb e fr
 have nh:∀ b o,s.heap.get? b=some o->b≠c':=λb o e=>a0P (aMc (aP5 e) hge)
 have cP:c'≠P:=λz=>by rw [z,hP] at fr; cases fr
 refine ⟨oc,vs,t,hoc,hd,hv,I.step (g':=s.gens) (d':=s.drawn) (t':=tk) (ch:=[]) (h':=h') (H':=upd H c' (.bC oc (.own P))) (λ_ z=>nomatch z) (λb o _ _ _ e n=>hx b o (nP b n) e) (λb o _ _ _ e n=>⟨o.slots,hx b o (nP b n) e⟩)
  (λb o _ e n=>by rw [Ze (nh b o e)]; exact n) (λb o _ e=>?_) (λb xs e=>by rw [Ze (nc b _ e)]; exact e) (λb o u e=>by rw [Ze (nc b _ e)]; exact e) (λb p q e=>by rw [Ze (nc b _ e)]; exact e) (λm hm=>?_) (λb u e=>?_) I.bare⟩
 .by_cases hb:b=P
  .subst hb; exact ⟨_,htb⟩
  .exact ⟨o,hx b o hb e⟩
 .obtain ⟨o,es,ep,ho,r⟩:=hm
  exact ⟨o,es,ep,hx _ o (nP _ I.free) ho,r⟩
 .by_cases hb:b=c'
  .subst hb
   rw [Za] at e
   cases e
   exact ⟨hoc,_,hoc⟩
  .rw [Ze hb] at e
   by_cases Jf:b=P
   .subst Jf
    rw [hP] at e
    cases e
    have e1:(ps++#[rawInt pos.line,rawInt pos.col,Value.ref c']).toList=ps.toList++[rawInt pos.line,rawInt pos.col,.ref c']:=by simp
    refine ⟨_,htb,?_,λcv hc=>?_⟩
    .rw [e1]; exact TriplesOk_snoc _ _ _ _ htr
    .rw [e1,codeAmong_snoc _ htr hnf] at hc
     cases hc
     exact ⟨c',oc,vs,t,rfl,Za,hd,hv⟩
   .refine (I.hok b u e).stay (λd v hd' q=>hx d v ?_ q) (λd q=>by rw [Ze (nc d _ q)]; exact q) (λd xs q=>by rw [Ze (nc d _ q)]; exact q) λd oz q=>by rw [Ze (nc d _ q)]; exact q
    rcases hd' with rfl | hd'
    .exact Jf
    .intro z; rw [z,hP] at hd'; cases hd'
structure jM (X:Cx) (scope:Scope) (x:Str) (fr:List Str) (js:List Nat):Prop where
 kind:scope.kind=.function
 co:scope.isCoroutine=false
 gen:scope.isGenerator=false
 nH:∀ y∈scope.names,y.2≠.cell
 par:scope.names.lookup x=some .local
 free:∀ y∈scope.names,y.2=.free->X.env.kindOf y.1=some .cell\/X.env.kindOf y.1=some .free
 len:fr.length=js.length
 js:∀ (k j:Nat),js[k]?=some j->fr[k]?=X.N[j]?
 jf:∀ (k:Nat) (y:Str),fr[k]?=some y->scope.names.lookup y=some .free
def gv (X:Cx) (A:Around) (N:List Str) (qual:Str) (scope:Scope) (f:Addr) (cd:Value) (cl:List (Str×Addr)) (s:Shared) (H:Hp):Cx where
 prog:=X.prog
 w:=X.w
 K:=X.K
 mg:=X.mg
 base:=X.base
 A:=A.deeper (W.envX qual scope s.heap.objs.size f cd cl)
 N:=N
 s₀:=s
 H₀:=H
 env:=W.envX qual scope s.heap.objs.size f cd cl
 outer:=X.stack
 stack:=W.envX qual scope s.heap.objs.size f cd cl :: X.stack
 ex:=[]
 calm:=true
 fn:=λ_=>false
 pn:=[]
 xe:=λ_ _=>False
theorem RS {A:Around} {x:Str} {fr:List Str} {js:List Nat} {qual:Str} {scope:Scope} {f:Addr} {cd:Value} {cl:List (Str×Addr)} {s1:Shared} {u:Value} {v:V} (c:jM X scope x fr js) (I:Inv X pins σ H s) (hA:A.frames=some X.stack) (hh:A.handled=none)
  (gJ:∀ x c,cl.lookup x=some c->X.env.cells.lookup x=some c) (jj:∀ p∈scope.names,p.2=.free->∃ c,cl.lookup p.1=some c) (r:RelV v u)
  (hn:s1.heap.Ns s.heap.objs.size λy=>[(x,u)].reverse.lookup y) (hk:∀ b o,s.heap.get? b=some o->s1.heap.get? b=some o) (hos:s1.os=s.os) (hg:s1.gens=s.gens) :
  Inv (gv X A (x :: fr) qual scope f cd cl s H) [] (some v :: js.map λj=>(σ[j]?).join) H s1:=by
 have rY:∀ b:Addr,b∉(gv X A (x :: fr) qual scope f cd cl s H).ex:=λb z=>absurd (show b∈([]:List Addr) from z) (by simp)
 have ok:(gv X A (x :: fr) qual scope f cd cl s H).Ok:=by
  refine ⟨I.ok.mod,c.kind,rfl,rfl,avG _,λy z d e1 e2=>I.ok.inj y z d (gJ _ _ e1) (gJ _ _ e2),λy hy=>?_,λy d z _=>absurd z (by simp [gv]),λ_=>hh,Around.frames_deeper hA,.inr ⟨rfl,rfl⟩,λb z=>absurd z (rY b),I.bs,ajJ I.ok.o9 I.sz,λb _ _=>rY b,λb z=>absurd z (rY b),I.stack,I.iW⟩
  have hy:scope.names.lookup y=some .cell\/scope.names.lookup y=some .free:=hy
  rcases hy with hy | hy
  .exact absurd rfl (c.nH _ (ZT hy))
  .exact jj _ (ZT hy) rfl
 refine ⟨ok,hos,by rw [hg]; exact I.bare,Un.kept hk,⟨_,hn,λi y v' e1 e2 e3=>?_⟩,λy d e=>?_,I.hok.fresh (avG _),λy d e=>I.cK y d (gJ y d e),λp hp=>absurd (show p∈([]:List (Addr×Obj)) from hp) (by simp),I.hok.kept hk,?_⟩
 .cases i with
  | zero =>
   have tF:x=y:=by simpa [gv] using e1
   have oh:v=v':=by simpa using e2
   subst tF
   subst oh
   refine ⟨u,r,.inl ⟨c.par,?_⟩⟩
   show ([(x,u)]:List (Str×Value)).reverse.lookup x=some u
   simp
  | succ k =>
   have tF:fr[k]?=some y:=by simpa [gv] using e1
   rw [a3v,bdd] at e2
   cases q:js[k]? with
   | none=>rw [q] at e2; cases e2
   | some j =>
    rw [q] at e2
    have oh:(σ[j]?).join=some v':=by simpa using e2
    have e4:σ[j]?=some (some v'):=by
     cases z:σ[j]? with
     | none=>rw [z] at oh; cases oh
     | some o=>rw [z] at oh; rw [show o=some v' from oh]
    have Em:X.N[j]?=some y:=(c.js k j q).symm.trans tF
    have hfr:=c.jf k y tF
    have hk2:=c.free _ (ZT hfr) rfl
    have vis:vD X.env.scope y:=by
     rcases hk2 with z | z
     .exact .inr (.inl z)
     .exact .inr (.inr z)
    obtain ⟨m,_,hl⟩:=I.loc
    obtain ⟨u',r',l⟩:=hl j y v' Em e4 vis
    refine ⟨u',r',?_⟩
    rcases l with ⟨z,_⟩ | ⟨_,d,e,⟨od,ho,hd⟩⟩
    .rcases hk2 with y' | y'
     .rw [show X.env.kindOf y=_ from z] at y'; cases y'
     .rw [show X.env.kindOf y=_ from z] at y'; cases y'
    .obtain ⟨d',e'⟩:=jj _ (ZT hfr) rfl
     have z':=gJ _ _ e'
     have:d'=d:=by rw [e] at z'; exact (bcC z').symm
     subst this
     exact .inr ⟨.inr hfr,d',e',⟨od,hk _ _ ho,hd⟩⟩
 .obtain ⟨v',⟨o,ho,hd⟩⟩:=I.cell y d (gJ y d e)
  exact ⟨v',o,hk _ _ ho,hd⟩
 .show (some v :: _:List (Option V)).length=(x :: fr).length
  rw [aRy,aRy,aH5,c.len]
theorem Uv {A:Around} {x:Str} {fr:List Str} {js:List Nat} {name qual:Str} {params:Arguments} {body:PySem.Expr} {scope:Scope} {f:Addr} {pm cd ct:Value} {cl:List (Str×Addr)} {u:Value} {v:V} {te:TE} {Q:VK} {E:Value->Shared->Prop} {of:Obj} (c:jM X scope x fr js) (I:Inv X pins σ H s)
  (hA:A.frames=some X.stack) (hh:A.handled=none) (Ei:A.depth<recursionLimit)
  (gJ:∀ x c,cl.lookup x=some c->X.env.cells.lookup x=some c) (jj:∀ p∈scope.names,p.2=.free->∃ c,cl.lookup p.1=some c)
  (ho:s.heap.get? f=some of) (hof:of.data=.func (W.kla_fn name qual params body scope cl pm cd ct)) (hcd:s.heap.CodeRec cd qual)
  (hb:∀ u,bindArgs (W.kla_fn name qual params body scope cl pm cd ct) ⟨[u],[]⟩=pure [(x,u)]) (r:RelV v u)
  (he:∀ s,PE (gv X A (x :: fr) qual scope f cd cl s H) body te) (h:te (some v :: js.map λj=>(σ[j]?).join) H Q) :
  wpAny (model X.prog X.w) A (call (.ref f) [u]) (EP X pins σ Q) E s:=by
 refine wpAny_call (codeAny_mono (R:=λr s'=>∃ u',r=.ok (.ret u')/\CE X.stack X.prog X.w H s Q u' s') (W.kla_callFunE Ei ho hof c.co c.gen rfl hcd (by
  rw [hb u]
  refine aLj ?_
  refine wpAny_newFunctionEnv c.nH (λy hy=>by rw [adl.mp hy]; exact c.par) (λh₁ hns Al=>?_) c.kind
  have hk₁:∀ b o,s.heap.get? b=some o->h₁.get? b=some o:=λb o e=>Al.extBut b o (a0P (aP5 e)) (aBk _ e)
  refine ⟨I.nolimit.keeps hk₁,?_⟩
  have J:=RS (qual:=qual) (f:=f) (cd:=cd) (s1:={ s with heap:=h₁,toks:=s.toks+[(x,u)].length }) c I hA hh gJ jj r hns hk₁ rfl rfl
  refine W.kla_codeExpr (a7k (he s [] _ _ H Q J h) (λu' s' hq=>?_) λ_ _ z=>z.elim)
  obtain ⟨v',H',J',rv,q⟩:=hq
  exact ⟨u',rfl,v',H',J'.os,J'.bare,J'.base,J'.hok,rv,q⟩)) λr s' hq=>?_)
 obtain ⟨u',rfl,hq⟩:=hq
 exact I.after hq
theorem Uu {P c0:Addr} {x:Str} {fr:List Str} {js:List Nat} {params:Arguments} {body:PySem.Expr} {scope:Scope} {pos:Pos} {R:Value->Shared->Prop} (c:jM X scope x fr js) (I:Inv X pins σ H s) (hc0:X.env.code=.ref c0) (hcd:W.codeHdIn X.K c0 P=true)
  (bm:BMod X.base X.mg) (hP:H P=some (.iU pos (X.env.qual ++ "<lambda>"))) (hd0:params.defaults=[]) (hk0:params.kw_defaults=[])
  (h:∀ f cl cd pm ct of H' s',Inv X pins σ H' s'->aq H H'->(∀ x c,cl.lookup x=some c->X.env.cells.lookup x=some c)->(∀ p∈scope.names,p.2=.free->∃ c,cl.lookup p.1=some c) -> 
   H' f=some (.bC of (.own 0))->of.data=.func (W.kla_fn "<lambda>" (X.env.qual ++ "<lambda>") params body scope cl pm cd ct)->(∃ c' oc vs t,cd=.ref c'/\H' c'=some (.bC oc (.own P))/\oc.data=.fields vs/\vs[1]?=some (.str (X.env.qual ++ "<lambda>") t))->R (.ref f) s') :
  wpAny (model X.prog X.w) X.A (eval (.Lambda params body scope pos) X.env) R X.xe s:=by
 obtain ⟨cl,e1,gJ,_,jj⟩:=zc (env:=X.env) scope.names [] (λp hp hf=>I.ok.has _ (c.free p hp hf)) (λx d e=>by simp at e)
 have hclos:closureFor scope X.env=pure cl:=by
  unfold closureFor
  refine (arH (λz=>z >>= λcs=>pure cs) e1).trans ?_
  rfl
 have CH:=W.codeHd_of_K I.dN hcd
 obtain ⟨ps,hps,htr,hcode⟩:=(show aJ X.prog X.w H s.heap P (.iU pos (X.env.qual ++ "<lambda>")) from I.hok P _ hP)
 have hg:=I.ok.mod.glob.keeps I.bk
 have hgP:mainGlobals≠P:=λq=>by
  obtain ⟨o,es,ep,e,hd,_⟩:=hg
  rw [q,hps] at e; cases e; cases hd
 have hb:s.heap.BuiltinsAt X.mg P:=by
  obtain ⟨b,o,a1,a2,a3,a4,a5,a6,a7⟩:=bm
  have e:=I.bk _ _ a4
  exact ⟨b,o,a1,a2,a3,(λz=>by rw [z,hps] at e; cases e; cases a5),e,a5,a6,a7⟩
 rw [arm_eval_Lambda,defaultsOf_eq,hd0,hk0]
 show wpAny _ _ (do let dv ← evalAll (evalEach [] X.env); let Ph ← holding dv (evalAllOpt []); makeFunction "<lambda>" (X.env.qual ++ "<lambda>") params (.expr body) scope X.env dv Ph [] pos pos.line) _ _ s
 refine aLa (evalAll_nil ?_)
 refine aLa (am3 (aLj ?_))
 cases hf:codeAmong pos ps.toList with
 | some cv =>
  obtain ⟨c',oc,vs,t,rfl,hH,hd,hv⟩:=hcode cv hf
  refine W.kla_makeFunctionHit hclos I.ok.glob hg hc0 CH hps htr hf hb λctv h' tk hk hsz=>?_
  have I1:=I.laid (a:=h'.objs.size) (t':=tk) (o:=.bC { cls:=.type "function",data:=.func (W.kla_fn "<lambda>" (X.env.qual ++ "<lambda>") params body scope cl ((X.mg "__name__").getD .none) (.ref c') ctv) } (.own 0)) (h':=h'.push { cls:=.type "function",data:=.func (W.kla_fn "<lambda>" (X.env.qual ++ "<lambda>") params body scope cl ((X.mg "__name__").getD .none) (.ref c') ctv) }) (λb o e=>aBk _ (hk b o e)) hsz ⟨aJ2 _ rfl,_,aJ2 _ rfl⟩
  have fr:=I.hok.fresh hsz
  exact h _ cl _ _ _ _ _ _ I1 (Zf fr _) gJ jj Za rfl ⟨c',oc,vs,t,rfl,by rw [Ze (Zb hH fr)]; exact hH,hd,hv⟩
 | none =>
  refine W.kla_makeFunction hclos I.ok.glob hg hc0 CH hps htr hf hgP hb λc' ctv h' tk hx hge hlt hrec htb=>?_
  obtain ⟨oc,vs,t,hoc,hd,hv,I1⟩:=I.grown (tk:=tk) hP hx hge hrec htr hf htb
  have fr:H c'=none:=I.hok.fresh hge
  have Js:upd H c' (.bC oc (.own P)) h'.objs.size=none:=I1.hok.fresh (avG _)
  have I2:=I1.laid (a:=h'.objs.size) (t':=tk) (o:=.bC (W.kla_obj "<lambda>" (X.env.qual ++ "<lambda>") params body scope cl ((X.mg "__name__").getD .none) c' ctv) (.own 0)) (h':=h'.push (W.kla_obj "<lambda>" (X.env.qual ++ "<lambda>") params body scope cl ((X.mg "__name__").getD .none) c' ctv)) (λb o e=>aBk _ e) (avG _) ⟨aJ2 _ rfl,_,aJ2 _ rfl⟩
  exact h _ cl _ _ _ _ _ _ I2 ((Zf fr _).trans (Zf Js _)) gJ jj Za rfl ⟨c',oc,vs,t,rfl,by rw [Ze (Zb Za Js)]; exact Za,hd,hv⟩
end
end L2
namespace L2
open PySem PySem.Spec PyProof.Rows L2.MT
def ud (key:Int->Int) (ns:List Int) (a b:Int):Prop:=key a<key b\/(key a=key b/\ns.idxOf a<ns.idxOf b)
theorem Ut {l:List Keyed} (h:∀ p∈l,∃ t,p.2=.int (numOf p.2) t):Vals ((l.map λp=>numOf p.2).map V.int) (l.map (·.2)):=by
 induction l with
 | nil=>exact .nil
 | cons p r ih =>
  obtain ⟨t,e⟩:=h p aTs
  exact .cons ⟨t,e⟩ (ih λq hq=>h q (akt _ hq))
theorem Gg {vs:List Value} {ns:List Int} (h:IntsAre vs ns):∀ {i:Nat} {v:Value},vs[i]?=some v->∃ n t,ns[i]?=some n/\v=.int n t:=by
 induction h with
 | nil=>intro i v e; simp at e
 | cons n t _ ih =>
  intro i v e
  cases i with
  | zero=>exact ⟨n,t,rfl,by simpa using e.symm⟩
  | succ i=>exact ih (by simpa using e)
theorem Km:∀ {ns:List Int},ns.Nodup->∀ {i:Nat} {n:Int},ns[i]?=some n->ns.idxOf n=i
 | [],_,_,_,e=>by simp at e
 | x :: r,nd,0,n,e=>by
  have e':x=n:=by simpa using e
  subst e'
  simp
 | x :: r,nd,i+1,n,e=>by
  obtain ⟨h1,h2⟩:=aHW.mp nd
  have e':r[i]?=some n:=by simpa using e
  have ne:x≠n:=λz=>h1 (z ▸ aVV e')
  rw [List.idxOf_cons,show (x == n)=false by simpa using ne]
  show r.idxOf n+1=i+1
  rw [Km h2 e']
theorem Lr {keys:Array Value} {vs:List Value} {ns:List Int} {key:Int->Int} (hk:IntsAre keys.toList (ns.map key)) (hv:IntsAre vs ns) (nd:ns.Nodup) :
  f7 (λp=>ns.idxOf (numOf p.2)) (keys.zip vs.toArray) 0/\∀ xs:Array Keyed,xs.Perm (keys.zip vs.toArray)->jQ (λp=>ns.idxOf (numOf p.2)) xs xs.size ->
   ∃ os:List Int,Vals (os.map V.int) (xs.map (·.2)).toList/\os.Perm ns/\os.Pairwise (ud key ns):=by
 have lk:keys.size=ns.length:=by have:=hk.length; rw [aek,aH5] at this; lia
 have lv:vs.length=ns.length:=by have:=hv.length; lia
 have EK:∀ (i:Nat) (p:Keyed),(keys.zip vs.toArray)[i]?=some p->∃ n t t',ns[i]?=some n/\p=(Value.int (key n) t,Value.int n t'):=λi p e=>by
  have e':(keys.toList.zip vs)[i]?=some p:=by rw [← ksk_zip,a2W]; exact e
  rw [List.getElem?_zip_eq_some] at e'
  obtain ⟨n1,t1,q1,r1⟩:=Gg hk e'.1
  obtain ⟨n2,t2,q2,r2⟩:=Gg hv e'.2
  rw [bdd,q2] at q1
  have Oi:key n2=n1:=by simpa using q1
  exact ⟨n2,t1,t2,q2,Prod.ext (by rw [r1,Oi]) r2⟩
 have DN:∀ p∈(keys.zip vs.toArray).toList,∃ n t t',n∈ns/\p=(Value.int (key n) t,Value.int n t'):=λp hp=>by
  obtain ⟨i,e⟩:=ao5 hp
  rw [a2W] at e
  obtain ⟨n,t,t',q,r⟩:=EK i p e
  exact ⟨n,t,t',aVV q,r⟩
 refine ⟨λi _ hi=>?_,λxs hp hi=>?_⟩
 .obtain ⟨n,t,t',q,r⟩:=EK i _ (afz hi)
  unfold Rk
  rw [afz hi,r]
  show ns.idxOf n=i
  exact Km nd q
 .have pm:=amG.mp hp
  have sd:∀ p∈xs.toList,∃ n t t',n∈ns/\p=(Value.int (key n) t,Value.int n t'):=λp sM=>DN p (pm.mem_iff.mp sM)
  refine ⟨xs.toList.map λp=>numOf p.2,?_,?_,?_⟩
  .rw [Array.toList_map]
   refine Ut λp sM=>?_
   obtain ⟨n,t,t',_,rfl⟩:=sd p sM
   exact ⟨t',rfl⟩
  .have e:(keys.zip vs.toArray).toList.map (λp=>numOf p.2)=ns:=by
    apply aNj
    intro i
    rw [bdd,a2W]
    by_cases hlt:i<(keys.zip vs.toArray).size
    .obtain ⟨n,t,t',q,r⟩:=EK i _ (afz hlt)
     rw [afz hlt,r,q]
     rfl
    .have lz:(keys.zip vs.toArray).size=ns.length:=by rw [Array.size_zip,lk,aIh,lv,Nat.min_self]
     rw [Array.getElem?_eq_none (by lia),aAl (by lia)]
     rfl
   rw [← e]
   exact pm.map _
  .rw [pairwise_iff_getElem]
   intro i j hi' hj' hij
   have hi2:i<xs.size:=by simpa using hi'
   have hj2:j<xs.size:=by simpa using hj'
   have v:=hi i j hij hj2
   obtain ⟨n1,t1,t1',_,r1⟩:=sd xs[i] (by simp)
   obtain ⟨n2,t2,Xf,_,r2⟩:=sd xs[j] (by simp)
   have k1:K xs i=key n1:=by rw [K_eq hi2,r1]; rfl
   have k2:K xs j=key n2:=by rw [K_eq hj2,r2]; rfl
   have q1:Rk (λp=>ns.idxOf (numOf p.2)) xs i=ns.idxOf n1:=by unfold Rk; rw [afz hi2,r1]; rfl
   have q2:Rk (λp=>ns.idxOf (numOf p.2)) xs j=ns.idxOf n2:=by unfold Rk; rw [afz hj2,r2]; rfl
   have g1:(xs.toList.map λp=>numOf p.2)[i]=n1:=by simp [r1,numOf]
   have g2:(xs.toList.map λp=>numOf p.2)[j]=n2:=by simp [r2,numOf]
   rw [g1,g2]
   unfold e8 at v
   rw [k1,k2,q1,q2] at v
   exact v
section
variable {X:Cx} {pins:List (Addr×Obj)} {σ:St} {H:Hp} {s:Shared} {d:Addr} {xs:List V} {o:Obj}
theorem Inv.pD (I:Inv X pins σ H s) (h:H d=some (.bC o (.lst xs))) (h0:∀ o' u,X.H₀ d≠some (.bC o' u)):Inv X pins σ (upd H d (.lst xs)) s:=by
 have ne:∀ b u,H b=some u->u≠.bC o (.lst xs)->b≠d:=λb u e n z=>by rw [z,h] at e; exact n (bcC e).symm
 have nn:∀ b,H b=none->b≠d:=λb e z=>by rw [z,h] at e; cases e
 refine ⟨I.ok,I.os,I.bare,⟨I.base.keep,I.base.slot,λb o' e n hx=>?_,I.base.there,λb ys e=>?_,λb o' u e=>?_,λb p r e=>?_⟩,I.loc,I.cell,?_,λx c e=>?_,λp hp=>?_,λb u e=>?_,I.len⟩
 .have q:=I.base.free b o' e n hx
  rw [Ze (nn b q)]
  exact q
 .have q:=I.base.tups b ys e
  rw [Ze (ne b _ q (by intro z; cases z))]
  exact q
 .have q:=I.base.gH b o' u e
  rw [Ze (λz=>h0 o' u (by rw [← z]; exact e))]
  exact q
 .have q:=I.base.gR b p r e
  rw [Ze (ne b _ q (by intro z; cases z))]
  exact q
 .rw [Ze (nn _ I.free)]
  exact I.free
 .rw [Ze (nn _ (I.cK x c e))]
  exact I.cK x c e
 .obtain ⟨a1,a2,a3⟩:=I.pin p hp
  exact ⟨a1,by rw [Ze (nn _ a2)]; exact a2,a3⟩
 .by_cases hb:b=d
  .subst hb
   rw [Za] at e
   cases e
   exact (I.hok b _ h).2
  .rw [Ze hb] at e
   exact (I.hok b u e).stay (λ_ _ _ z=>z) (λc z=>by rw [Ze (ne c _ z (by intro y; cases y))]; exact z) (λc ys z=>by rw [Ze (ne c _ z (by intro y; cases y))]; exact z) λc oz z=>by rw [Ze (ne c _ z (by intro y; cases y))]; exact z
theorem Lq {a kS:Addr} {st:SortSt} {e1:Nat} {H1:Hp} {ns:List Int} {key:Int->Int} {keys:Array Value} {its:List Value} {ks:List V} {A:Around} {E:Value->Shared->Prop} {R:PySem.Fin->Shared->Prop} (I:Inv X pins σ H1 s) (hk:IntsAre keys.toList (ns.map key)) (hv:IntsAre its ns) (nd:ns.Nodup) (h64:ns.length<64)
  (ha:H1 a=some (.bC (seqObj "list" #[] e1) (.lst []))) (h0:∀ o' u,X.H₀ a≠some (.bC o' u)) (uS:H1 kS=some (.lst ks)) (hlk:ks.length<=64) (hp:(arrOf st).Perm (keys.zip its.toArray)) (hi:jQ (λp=>ns.idxOf (numOf p.2)) (arrOf st) (arrOf st).size) (hf:failedOf st=none)
  (h:∀ (H':Hp) (s':Shared) (os:List Int),Inv X pins σ H' s'->(∀ b,b≠a->b≠kS->H' b=H1 b)->H' a=some (.lst (os.map V.int))->os.Perm ns->os.Pairwise (ud key ns)->R (.done (.ret .none)) s') :
  wpAny (model X.prog X.w) A (ksk_tail a false e1 (.ref kS) st) R E s:=by
 have Ag:a≠kS:=λz=>by rw [z,uS] at ha; cases ha
 obtain ⟨os,vo,po,so⟩:=(Lr hk hv nd).2 _ hp hi
 have lo:=po.length_eq
 unfold ksk_tail
 try dsimp only
 obtain ⟨_,nO,n,rK,Jb,eK⟩:=I.iD uS
 have lK:nO.length<=64:=by have:=rK.length; lia
 refine aLa (au5 eK rfl ?_ (by rw [aIh,azY]; lia) (auX _))
 have I6:=I.lO (t':=s.toks) (f:=λ_=>#[]) (its':=[]) (ys:=[]) uS eK rfl .nil (auX _)
 have Jg:upd H1 kS (.lst []) a=some (.bC (seqObj "list" #[] e1) (.lst [])):=by rw [Ze Ag]; exact ha
 have oa:=(I6.hok a _ Jg).1
 refine aLa (baf ?_)
 refine aLa (seqEpoch_at oa rfl ?_)
 have lo2:((arrOf st).map (·.2)).size=ns.length:=by
  have e:=vo.length
  rw [aH5] at e
  have e2:((arrOf st).map (·.2)).toList.length=((arrOf st).map (·.2)).size:=aek
  lia
 refine aLa (au5 oa rfl ?_ (auX _) (by simp only [a0a,aXX]; rw [lo2,azY]; lia))
 rw [hf]
 simp only [bne_self_eq_false,a0a,aXX]
 have I7:=I6.pD Jg h0
 have I8:=I7.lO (t':=s.toks) (f:=λ_=>(arrOf st).map (·.2)) (its:=[]) (its':=((arrOf st).map (·.2)).toList) (ys:=os.map V.int) Za oa (by exact (Array.toArray_toList).symm) vo (by rw [aH5,azY]; lia)
 refine aLj (h _ _ os I8 (λb n1 n2=>?_) Za po so)
 rw [Ze n1,Ze n1,Ze n2]
theorem SX {a kS:Addr} {e1:Nat} {H1:Hp} {ns:List Int} {key:Int->Int} {keys:Array Value} {its:List Value} {ks:List V} {A:Around} {E:Value->Shared->Prop} {R:PySem.Fin->Shared->Prop} (I:Inv X pins σ H1 s) (hk:IntsAre keys.toList (ns.map key)) (hv:IntsAre its ns) (nd:ns.Nodup) (h64:ns.length<64)
  (ha:H1 a=some (.bC (seqObj "list" #[] e1) (.lst []))) (h0:∀ o' u,X.H₀ a≠some (.bC o' u)) (uS:H1 kS=some (.lst ks)) (hlk:ks.length<=64)
  (h:∀ (H':Hp) (s':Shared) (os:List Int),Inv X pins σ H' s'->(∀ b,b≠a->b≠kS->H' b=H1 b)->H' a=some (.lst (os.map V.int))->os.Perm ns->os.Pairwise (ud key ns)->R (.done (.ret .none)) s') :
  wpAny (model X.prog X.w) A (ksk_end a false its.toArray e1 (.ref kS) keys) R E s:=by
 have lk:keys.size=ns.length:=by have:=hk.length; rw [aek,aH5] at this; lia
 have lv:its.length=ns.length:=by have:=hv.length; lia
 have hzs:(keys.zip its.toArray).size=ns.length:=by rw [Array.size_zip,lk,aIh,lv,Nat.min_self]
 obtain ⟨IQ,_⟩:=Lr hk hv nd
 unfold ksk_end
 simp only [a0a,aXX]
 by_cases h2:its.toArray.size<2
 .rw [aHZ h2,aHZ h2]
  refine aLa (aLj ?_)
  rw [StateT.run_pure]
  refine aLa (aLj ?_)
  try dsimp only
  refine Lq (st:=SortSt.mk' general' (keys.zip its.toArray) #[] 7 none) I hk hv nd h64 ha h0 uS hlk (a2x _) (λi j hij hj=>?_) rfl h
  have hj2:j<(keys.zip its.toArray).size:=hj
  rw [aIh] at h2
  lia
 .rw [bd2 h2,bd2 h2]
  rw [aIh] at h2
  rw [ksk_kind hk (by rw [lk]; lia)]
  refine aLa (aLj ?_)
  refine aLa (a7k (RT (ρ:=λp=>ns.idxOf (numOf p.2)) (a₀:=keys.zip its.toArray) (st:=SortSt.mk' oneType' (keys.zip its.toArray) #[] 7 none)
   (Q:=λ_ st1=>(arrOf st1).Perm (keys.zip its.toArray)/\failedOf st1=none/\jQ (λp=>ns.idxOf (numOf p.2)) (arrOf st1) (keys.zip its.toArray).size)
   (ksk_intKeys hk) IQ ⟨a2x _,rfl,rfl,rfl⟩ IQ (by rw [hzs]; lia) (by rw [hzs]; exact h64) λst1 a1 a2 a3=>⟨a1,a2,a3⟩) ?_ λ_ _ e=>e)
  rintro ⟨⟨⟩,st1⟩ s1 ⟨rfl,hp,hf,hs⟩
  try dsimp only
  exact Lq I hk hv nd h64 ha h0 uS hlk hp (by rw [hp.size_eq]; exact hs) hf h
theorem Us {l f:Addr} {ns:List Int} {key:Int->Int} {Q:VK} {E:Value->Shared->Prop} (I:Inv X pins σ H s) (hq:ak X.K H l (ns.map V.int)) (h64:ns.length<64) (nd:ns.Nodup)
  (turn:∀ z∈ns,∀ H1 s1 u,aq H H1->Inv X pins σ H1 s1->RelV (.int z) u->wpAny (model X.prog X.w) X.A.in1.in1 (call (.ref f) [u]) (EP X pins σ λv H'=>v=.int (key z)/\H'=H1) (λ_ _=>False) s1)
  (q:∀ (D:Addr) (H':Hp) (os:List Int),H D=none->aq H H'->H' D=some (.lst (os.map V.int))->os.Perm ns->os.Pairwise (ud key ns)->Q (.ref D) H') :
  wpAny (model X.prog X.w) X.A (call (.builtin "sorted") [.ref l] [(Str.ofString "key",.ref f)]) (EP X pins σ Q) E s:=by
 obtain ⟨its,rv,pl,hz⟩:=I.list hq
 have hv:=yZ rv
 have lv:its.length=ns.length:=by have:=rv.length; rw [aH5] at this; exact this.symm
 refine call_function_entry_kw kind_sorted plain_sorted entry_sorted (ksk_s1 _ _) ?_
 unfold Builtin.«sorted»
 refine aLa (m:=checkCount "sorted" 1 1 _) (aLj ?_)
 refine aLa (collect_list pl.isList ?_ (by rw [azY]; lia))
 refine aLa (wpAny_newList ?_ (by rw [azY]; lia))
 have hsz:((s.heap.push (seqObj "list" #[] 0)).update s.heap.objs.size (Obj.mapSeq (·++its.toArray))).objs.size=s.heap.objs.size+1:=by
  rw [Heap.size_update,size_push']
 have uR:(((s.heap.push (seqObj "list" #[] 0)).update s.heap.objs.size (Obj.mapSeq (·++its.toArray))).push (seqObj "list" its.toArray 0)).get? (s.heap.objs.size+1)=some (seqObj "list" its.toArray 0):=by
  rw [← hsz]
  exact aJ2 _ rfl
 have keep:∀ b o,s.heap.get? b=some o->(((s.heap.push (seqObj "list" #[] 0)).update s.heap.objs.size (Obj.mapSeq (·++its.toArray))).push (seqObj "list" its.toArray 0)).get? b=some o:=λb o e=>by
  have lt:b<s.heap.objs.size:=aP5 e
  rw [Heap.get?_push_ne _ _ _ (by rw [hsz]; exact a0P (awZ lt)),azy _ _ _ _ (a0P lt),Heap.get?_push_ne _ _ _ (a0P lt)]
  exact e
 show wpAny _ _ _ _ _ { s with heap:=((s.heap.push (seqObj "list" #[] 0)).update s.heap.objs.size (Obj.mapSeq (·++its.toArray))).push (seqObj "list" its.toArray 0) }
 rw [hsz]
 have hsz1:(((s.heap.push (seqObj "list" #[] 0)).update s.heap.objs.size (Obj.mapSeq (·++its.toArray))).push (seqObj "list" its.toArray 0)).objs.size=s.heap.objs.size+2:=by rw [size_push',hsz]
 generalize ((s.heap.push (seqObj "list" #[] 0)).update s.heap.objs.size (Obj.mapSeq (·++its.toArray))).push (seqObj "list" its.toArray 0)=h1 at *
 refine aLa (am3 (wpAny_call_entry_kw slot_list_sort ⟨_,uR,rfl⟩ entry_list_sort ?body (ksk_l1 _ _)))
 case body =>
  show wpAny (model X.prog X.w) X.A.in1.in1 (Builtin.«list.sort» ⟨[.ref (s.heap.objs.size+1)],[(Str.ofString "key",.ref f)]⟩) _ _ _
  rw [ksk_t1]
  unfold ksk_tree
  refine aLa (listItems_at uR rfl ?_)
  refine aLa (au5 uR rfl ?_ (by rw [aIh,azY]; lia) (auX _))
  obtain ⟨e1,IZ⟩:∃ e1,(h1.update (s.heap.objs.size+1) (Obj.mapSeq λ_=>(#[]:Array Value))).get? (s.heap.objs.size+1)=some (seqObj "list" #[] e1):=⟨_,get?_update_seq uR λ_=>#[]⟩
  have xF:∀ b o,s.heap.get? b=some o->(h1.update (s.heap.objs.size+1) (Obj.mapSeq λ_=>(#[]:Array Value))).get? b=some o:=λb o e=>by
   have lt:b<s.heap.objs.size:=aP5 e
   rw [azy _ _ _ _ (a0P (awZ lt))]
   exact keep b o e
  generalize h1.update (s.heap.objs.size+1) (Obj.mapSeq λ_=>(#[]:Array Value))=h2 at *
  refine aLa (seqEpoch_at IZ rfl ?_)
  refine aLa (wpAny_newTuple ?_ (by show its.length<=_; rw [azY]; lia))
  refine aLa (wpAny_newList ?_ (auX _))
  refine am3 ?_
  have fr:H (s.heap.objs.size+1)=none:=I.hok.fresh (aa0 _)
  have h0:∀ o' u,X.H₀ (s.heap.objs.size+1)≠some (.bC o' u):=λo' u e=>by rw [I.base.gH _ _ _ e] at fr; cases fr
  have ho2:(h2.push (seqObj "tuple" its.toArray 0)).get? (s.heap.objs.size+1)=some (seqObj "list" #[] e1):=aBk _ IZ
  have I3:=I.laid (a:=s.heap.objs.size+1) (t':=s.toks) (o:=.bC (seqObj "list" #[] e1) (.lst [])) (h':=h2.push (seqObj "tuple" its.toArray 0)) (λb o e=>aBk _ (xF b o e)) (aa0 _) ⟨ho2,auX _,[],e1,.nil,ho2⟩
  have uU:=I3.hok.fresh (avG _)
  have I4:=I3.laid (t':=s.toks) (o:=.lst []) (h':=(h2.push (seqObj "tuple" its.toArray 0)).push (seqObj "list" #[] 0)) (λb o e=>aBk _ e) (avG _) ⟨auX _,[],0,.nil,aJ2 _ rfl⟩
  have Ag:s.heap.objs.size+1≠(h2.push (seqObj "tuple" its.toArray 0)).objs.size:=Zb Za uU
  have sm:aq H (upd (upd H (s.heap.objs.size+1) (.bC (seqObj "list" #[] e1) (.lst []))) (h2.push (seqObj "tuple" its.toArray 0)).objs.size (.lst [])):=(Zf fr _).trans (Zf uU _)
  have Jr:H (h2.push (seqObj "tuple" its.toArray 0)).objs.size=none:=(Zf fr _).free uU
  have Ed:upd (upd H (s.heap.objs.size+1) (.bC (seqObj "list" #[] e1) (.lst []))) (h2.push (seqObj "tuple" its.toArray 0)).objs.size (.lst []) (h2.push (seqObj "tuple" its.toArray 0)).objs.size=some (.lst []):=Za
  have ha0:upd (upd H (s.heap.objs.size+1) (.bC (seqObj "list" #[] e1) (.lst []))) (h2.push (seqObj "tuple" its.toArray 0)).objs.size (.lst []) (s.heap.objs.size+1)=some (.bC (seqObj "list" #[] e1) (.lst [])):=by rw [Ze Ag]; exact Za
  generalize upd (upd H (s.heap.objs.size+1) (.bC (seqObj "list" #[] e1) (.lst []))) (h2.push (seqObj "tuple" its.toArray 0)).objs.size (.lst [])=H4 at *
  show wpAny (model X.prog X.w) X.A.in1.in1 (ksk_rest (s.heap.objs.size+1) (.ref f) false its.toArray e1 (.ref (h2.push (seqObj "tuple" its.toArray 0)).objs.size)) _ _ { s with heap:=(h2.push (seqObj "tuple" its.toArray 0)).push (seqObj "list" #[] 0) }
  generalize (h2.push (seqObj "tuple" its.toArray 0)).objs.size=kS at *
  generalize (h2.push (seqObj "tuple" its.toArray 0)).push (seqObj "list" #[] 0)=h4 at *
  unfold ksk_rest
  refine aLa (ai2 ?_)
  rw [List.forIn_toArray]
  refine aLa (ksk_fold (λi s1=>∃ H1:Hp,Inv X pins σ H1 s1/\aq H H1/\H1 (s.heap.objs.size+1)=some (.bC (seqObj "list" #[] e1) (.lst []))/\H1 kS=some (.lst (((ns.take i).map key).map V.int))) its 0 _
   ⟨H4,I4,sm,ha0,Ed⟩ ?step ?done)
  case step =>
   rintro j x s1 hx ⟨H1,I1,s1',a1,k1⟩
   simp only [a3U] at k1 ⊢
   obtain ⟨z,t,hz',rfl⟩:=Gg hv hx
   have hj:j<ns.length:=(aWj.mp hz').1
   refine aLa (wpAny_attempt (a7k (turn z (aVV hz') H1 s1 _ s1' I1 ⟨t,rfl⟩) (λv s2 he=>?_) λ_ _ hF=>hF.elim))
   obtain ⟨v',H',I2,r2,rfl,rfl⟩:=he
   try dsimp only
   obtain ⟨_,nO,n,rK,Jb,eK⟩:=I2.iD k1
   have lK:nO.length<=ns.length:=by
    have:=rK.length
    rw [aH5,aH5,aJj] at this
    lia
   refine aLa (au5 eK rfl ?_ (by rw [aIh,azY]; lia) (by rw [Array.size_push,aIh,azY]; lia))
   have ek:ns.take (j+1)=ns.take j++[z]:=by rw [aK1,hz']; rfl
   have I5:=I2.lO (t':=s2.toks) (f:=(·.push v)) (its':=nO++[v]) (ys:=((ns.take (j+1)).map key).map V.int) k1 eK (by simp) (by rw [ek,auU,auU]; exact rK.append (.cons r2 .nil)) (by rw [aH5,aH5,aJj,azY]; lia)
   refine aLj ⟨rfl,_,I5,λb o y=>?_,?_,Za⟩
   .rw [Ze (Zb y Jr)]
    exact s1' _ _ y
   .rw [Ze Ag]
    exact a1
  case done =>
   rintro s1 ⟨H1,I1,s1',a1,k1⟩
   rw [a3U,lv,aqK] at k1
   obtain ⟨_,nO,n,rK,Jb,eK⟩:=I1.iD k1
   try dsimp only
   refine aLa (listItems_at eK rfl ?_)
   refine SX (ns:=ns) (key:=key) I1 (by simpa using yZ rK) hv nd h64 a1 h0 k1 (by rw [aH5,aH5]; lia) λH' s2 os I2 Oo hD po so=>⟨_,rfl,?_⟩
   refine aLj ⟨_,rfl,.ref (s.heap.objs.size+1),H',I2,rfl,q _ H' os fr (λb o y=>?_) hD po so⟩
   rw [Oo b (Zb y fr) (Zb y Jr)]
   exact s1' _ _ y
end
end L2
namespace L2
open PySem PySem.Spec PyProof.Rows
structure dS (P:Program) (w:World) (K:W.Frag) (mg:Str->Option Value) (base:Heap) (C:Addr) (m:Str) (k:Nat) (ps:List Str) (sp:Sp):Prop where
 ex:∃ (f:Addr) (fd:FuncData),aD P w K mg base bB k f fd ps sp/\Meth K C m f/\Binds K fd ps []
structure ue (P:Program) (w:World) (K:W.Frag) (mg:Str->Option Value) (base:Heap) (C:Addr) (x:Str) (k:Nat) (ps:List Str) (sp:Sp):Prop where
 ex:∃ (f:Addr) (fd:FuncData),aD P w K mg base bB k f fd ps sp/\Mk K C f/\mg x=some (.ref C)/\Binds K fd ps []
section
variable {X:Cx} {x m:Str} {p pos apos:Pos} {e o:PySem.Expr} {es:List PySem.Expr} {ta:TE} {t:TA} {k:Nat} {ps:List Str} {sp:Sp} {C:Addr}
theorem ZQ {pl:Sem Bool} (M:dS X.prog X.w X.K X.mg X.base C m k ps sp) (hr:aZ k X.A) (c:oX X.K C) (he:PE X o ta) (ha:PA X (e :: es) t) (hn:rG (e :: es):=by repeat' (first | exact True.intro | refine ⟨?_,?_⟩))
  (ht:eval (.Call (.Attribute o m apos) (e :: es) [] pos) X.env=(do
   let ov ← eval o X.env
   standAt apos.atName
   let (f,first) ← holding [ov] (getMethod ov m pl)
   callWith pos f first (backTo pos (starEach (e :: es) X.env)) (backToKw pos (keywordEach [] X.env))):=by rfl) :
  PE X (.Call (.Attribute o m apos) (e :: es) [] pos) (qp C m sp [] E0 ta t):=by
 obtain ⟨f,fd,F,hm,hb⟩:=M.ex
 exact Sb he c hm F hr hb .nil nE ha (p9 hn.1) (vp hn.2) ht
theorem Ur (M:ue X.prog X.w X.K X.mg X.base C x k ps sp) (hr:aZ (k+1) X.A) (hg:Gl X x) (ha:PA X (e :: es) t) (hn:rG (e :: es):=by repeat' (first | exact True.intro | refine ⟨?_,?_⟩)) (hd:(x == ("__debug__" : Str))=false:=by decide) :
  PE X (.Call (.Name x p) (e :: es) [] pos) (qq C sp [] E0 t):=by
 obtain ⟨f,fd,F,M',hm,hb⟩:=M.ex
 exact Sa M' F hr hg hm hb .nil nE ha (hdb:=hd) (he:=p9 hn.1) (hpl:=vp hn.2)
def N4:TS:=λ_ _ _=>False
theorem nC {st:Stmt}:PS X st N4:=λ_ _ _ _ _ _ h=>False.elim h
end
theorem bK.Oq {P:Program} {w:World} {K:W.Frag} {mg:Str->Option Value} {base:Heap} {x qual:Str} {st:Stmt} {f:Addr} {fd:FuncData} {N ps:List Str} {k:Nat} {sp:Sp} (F:bK K x qual st f fd) (S:af N ps (Zg st)) (len:∀ vs H Q E,sp vs H Q E->vs.length=ps.length)
  (hbody:∀ (cdv:Value) (A:Around) (outer:List Env) (s:Shared) (H:Hp) (vs:List V) (Q:VK) (E:XK),fd.code=cdv->aZ k (A.deeper (envOfC qual (Zg st) s.heap.objs.size f cdv))->sp vs H Q E ->
   ∃ t,lu (jG bB P w K mg base N qual (Zg st) f cdv A outer s H E).rW (ZN st) t/\t { nx:=λ_ H'=>Q .aX H',rt:=Q } (start N vs) H):aD P w K mg base bB (k+1) f fd ps sp:=by
 obtain ⟨oc,od,kV,doc,pm,an,cdv,ct,osl,rfl,lk,hcd⟩:=F.ex
 refine qT lk hcd S len λA outer s H vs Q E hr lQ=>?_
 obtain ⟨t,h,q⟩:=hbody cdv A outer s H vs Q E rfl hr lQ
 exact ⟨t,h.rW,q⟩
theorem pB {X:Cx} {K:W.Frag} {e:PySem.Expr} {f:Str} {pos:Pos} {ta:TE} (hK:X.K=K) (he:PE X e ta) (hb:attributeBase e f X.env (eval e X.env)=eval e X.env):PE X (.Attribute e f pos) (vY K ta f):=by
 subst hK
 exact Rb he hb
def xD (cj:Scope) (oN:List Str) (scope:Scope) (x:Str) (fr:List Str) (js:List Nat):Bool :=
 scope.kind == .function && !scope.isCoroutine && !scope.isGenerator && scope.names.all (λy=>y.2 != .cell) && scope.names.lookup x == some .local &&
 scope.names.all (λy=>y.2 != .free || (cj.names.lookup y.1 == some .cell || cj.names.lookup y.1 == some .free)) && fr.length == js.length &&
 (js.map λj=>oN[j]?) == fr.map some && fr.all λy=>scope.names.lookup y == some .free
theorem Up {X:Cx} {cj:Scope} {oN:List Str} {scope:Scope} {x:Str} {fr:List Str} {js:List Nat} (h:xD cj oN scope x fr js=true) (hs:X.env.scope=cj) (hN:X.N=oN):jM X scope x fr js:=by
 unfold xD at h
 simp only [asO,aY4,aCI,aPf,bne_iff_ne,ne_eq,azS] at h
 obtain ⟨⟨⟨⟨⟨⟨⟨⟨h1,h2⟩,h3⟩,h4⟩,h5⟩,h6⟩,h7⟩,h8⟩,h9⟩:=h
 refine ⟨h1,h2,h3,h4,h5,λy hy hf=>?_,h7,λk j e=>?_,λk y e=>h9 y (aVV e)⟩
 .rcases h6 y hy with q | q
  .exact absurd hf q
  .show X.env.scope.names.lookup y.1=_\/X.env.scope.names.lookup y.1=_
   rw [hs]; exact q
 .rw [hN]
  have z:=arH (λl=>l[k]?) h8
  simp only [bdd,e,aGg] at z
  cases q:fr[k]? with
  | none=>rw [q] at z; cases z
  | some y=>rw [q] at z; exact (bcC z).symm
theorem QT {A:Around} {k:Nat} {env:Env} (hr:aZ k A):(A.in1.in1.deeper env).units+1<cLine:=by
 have:=hr.un
 show A.units+1+1+3+1<cLine
 lia
def Kl (K:W.Frag) (P:Addr) (jD:Pos) (qual:Str) (js:List Nat) (te:TE) (σ:St) (Q:VK) (x:V) (H1:Hp):Prop:=∃ (l:Addr) (ns:List Int) (key:Int->Int),x=.ref l/\ak K H1 l (ns.map V.int)/\ns.length<64/\ns.Nodup/\H1 P=some (.iU jD qual) /\
 (∀ z∈ns,∀ H2,aq H1 H2->te (some (.int z) :: js.map λj=>(σ[j]?).join) H2 λv H'=>v=.int (key z)/\H'=H2) /\
 ∀ (D:Addr) (H':Hp) (os:List Int),H1 D=none->aq H1 H'->H' D=some (.lst (os.map V.int))->os.Perm ns->os.Pairwise (ud key ns)->Q (.ref D) H'
def QS (K:W.Frag) (P:Addr) (jD:Pos) (qual:Str) (js:List Nat) (zN te:TE):TE:=λσ H Q=>zN σ H λx H1=>Kl K P jD qual js te σ Q x H1
section
variable {X:Cx}
theorem Uo {K:W.Frag} {P c0:Addr} {k:Nat} {y:Str} {fr:List Str} {js:List Nat} {qual:Str} {params:Arguments} {body xs:PySem.Expr} {scope:Scope} {p pos jD kpos:Pos} {zN te:TE} (hK:X.K=K) (hr:aZ k X.A) (hcl:X.calm=true) (hg:Gl X "sorted") (hm:X.mg "sorted" = none)
  (c:jM X scope y fr js) (hc0:X.env.code=.ref c0) (hcd:W.codeHdIn X.K c0 P=true) (bm:BMod X.base X.mg) (hq:X.env.qual ++ "<lambda>" = qual) (hd0:params.defaults=[]) (hk0:params.kw_defaults=[])
  (hb:∀ cl pm cd ct u,bindArgs (W.kla_fn "<lambda>" qual params body scope cl pm cd ct) ⟨[u],[]⟩=pure [(y,u)]) (ha:PE X xs zN)
  (he:∀ f cd cl s H,PE (gv X X.A.in1.in1 (y :: fr) qual scope f cd cl s H) body te) (hn:rG [xs]:=by repeat' (first | exact True.intro | refine ⟨?_,?_⟩)) :
  PE X (.Call (.Name "sorted" p) [xs] [⟨some "key",.Lambda params body scope jD,kpos⟩] pos) (QS K P jD qual js zN te):=by
 subst hK
 subst hq
 intro pins s σ H Q I h
 refine aTN (pA I hg hm boot_sorted ?_ (by decide) (by decide))
 refine callWith_kw (lH ((pc ha Zc hn.1) pos pins s σ H (λvs H1=>match vs with | [x]=>Kl X.K P jD (X.env.qual ++ "<lambda>") js te σ Q x H1 | _=>False) I h) λus s1 vs H1 I1 r1 q1=>?_) (by rw [p9 hn.1]; rfl) (by rw [p9 hn.1]; rfl) rfl rfl
 match vs,r1,q1 with
 | [],_,z=>exact z.elim
 | _ :: _ :: _,_,z=>exact z.elim
 | [x],r1,q1 =>
  obtain ⟨l,ns,key,rfl,hS,h64,nd,hP,ht,q⟩:=q1
  obtain ⟨u,rfl,ru⟩:=vals1 r1
  cases ru
  show wpAny _ _ (evalAll [(do let v ← eval (.Lambda params body scope jD) X.env; standAt pos; pure v)]) _ _ s1
  refine wpAny_evalAll_cons (aLa (Uu c I1 hc0 hcd bm hP hd0 hk0 λf cl cd pm ct of H2 s2 I2 sm gJ jj hf hof hcode=>aLa (a5C (aLj (wpAny_evalAll_nil ?_)))))
  show wpAny _ _ (call (.builtin "sorted") [.ref l] [(Str.ofString "key",.ref f)]) _ _ s2
  refine Us I2 (sm.seq hS) h64 nd (λz hz H3 s3 u CW I3 ru=>?_) λD H' os hD N6 hl po so=>q D H' os (sm.free hD) (sm.trans N6) hl po so
  have Ot:=(I3.hok f _ (CW _ _ hf)).1
  obtain ⟨c',oc,vs',t',rfl,hc',hd',hv'⟩:=hcode
  have Oz:=(I3.hok c' _ (CW _ _ hc')).1
  exact Uv (A:=X.A.in1.in1) c I3 I3.ok.frames (I3.ok.hd hcl) hr.depth gJ jj Ot hof ⟨c',oc,vs',t',rfl,Oz,hd',hv'⟩ (hb cl pm _ ct) ru (λs=>he f _ cl s H3) (ht z hz H3 (sm.trans CW))
end
theorem Ve {P:Program} {w:World} {K:W.Frag} {mg mb:Str->Option Value} {CX:pC} {k:Nat} {fa a tp c0:Addr} {pos:Pos} {qual:Str} {fd:FuncData} {x:Str} {sp:Sp} {s₁:Shared} {vs:List Value} {ns:List Int}
  (KX:K.In s₁.heap) (hns:s₁.heap.Ns mainGlobals mg) (hb:s₁.heap.Ns builtinsNs mb) (P9:∀ x:Str,x ≠ "__name__" -> mb x=bootBuiltins x) (hlim:s₁.heap.NoLimit) (hg:s₁.gens=#[])
  (ha:s₁.heap.get? a=some { cls:=.type "list",data:=.seq vs.toArray }) (hi:IntsAre vs ns) (hl:ns.length<=sizeLine) (hr:aZ k callerA)
  (htp:s₁.heap.get? tp=some { cls:=.none,data:=.fields #[] }) (hch:W.codeHdIn K c0 tp=true) (Qg:K.lookup tp=none)
  (hbm:BMod s₁.heap mg) (F:∀ base:Heap,K.In base->base.Ns mainGlobals mg->BMod base mg->aD P w K mg base CX k fa fd [x] sp) (hbind:∀ (s:Shared) (u:Value),BindsTo s fd ⟨[u],[]⟩ [(x,u)])
  (lQ:∀ H:Hp,H tp=some (.iU pos qual)->ak K H a (ns.map V.int)->sp [.ref a] H (λv _=>v=.bl true) λ_ _ _=>False)
  (Eo:∀ H e s',CX [] H s₁ (λ_ _ _=>False) e s'->False) :
  codeAny (model P w) callerA (.call (.ref fa) ⟨[.ref a],[]⟩) (λr s'=>r=.ok (.ret (.bool true))/\OldK s₁.heap s'.heap/\s'.os=s₁.os/\AllBare s'.gens) s₁:=by
 have rv:=Gu hi
 have DP:=hi.length
 have nat:a≠tp:=λz=>by rw [z,htp] at ha; cases ha
 have core:∀ H:Hp,H tp=some (.iU pos qual)->ak K H a (ns.map V.int)->dz P w H s₁.heap->(∀ b,H b≠none->b=tp\/(b=a/\∃ o xs,H b=some (.bC o (.lst xs))))->(H a≠none->K.lookup a=none) ->
   codeAny (model P w) callerA (.call (.ref fa) ⟨[.ref a],[]⟩) (λr s'=>r=.ok (.ret (.bool true))/\OldK s₁.heap s'.heap/\s'.os=s₁.os/\AllBare s'.gens) s₁:=by
  intro H hT hS hok hA hK
  have OE:∀ {b:Addr} {o:Obj} {es:Array DictEntry} {ep:Nat},s₁.heap.get? b=some o->o.data=.dict es ep->H b=none:=λ{b o es ep} e d=>by
   cases q:H b with
   | none=>rfl
   | some u =>
    rcases hA b (by rw [q]; simp) with z | ⟨z,_⟩
    .rw [z,htp] at e
     cases e
     cases d
    .rw [z,ha] at e
     cases e
     cases d
  have Ab:∀ {b:Addr} {m:Str->Option Value},s₁.heap.Ns b m->(i8 s₁.heap H).Ns b m:=λ{b m} ⟨o,es,ep,e,d,r⟩=>⟨o,es,ep,F1 e (OE e d),d,r⟩
  have Ji:K.In (i8 s₁.heap H):=λb o e=>F1 (KX b o e) (by
   cases q:H b with
   | none=>rfl
   | some u =>
    rcases hA b (by rw [q]; simp) with z | ⟨z,_⟩
    .rw [z,Qg] at e
     cases e
    .have n:H a≠none:=by rw [← z,q]; simp
     rw [z,hK n] at e
     cases e)
  have hM:Mod K mg (i8 s₁.heap H):=⟨Ji,Ab hns,⟨mb,Ab hb,P9⟩,let ⟨mc,h1,h2⟩:=hlim; ⟨mc,Ab h1,h2⟩⟩
  have e0:kB P w K mg (i8 s₁.heap H) callerA [] s₁ H:=⟨rfl,hM,λb o e=>Sl e,Nat.le_of_eq (VQ _ _),trivial,λb hb=>absurd (show b∈([]:List Addr) from hb) (by simp),hok,.of_eq hg⟩
  have hB:BMod (i8 s₁.heap H) mg:=by
   obtain ⟨b,o,a1,a2,a3,a4,a5,a6,a7⟩:=hbm
   refine ⟨b,o,a1,a2,a3,F1 a4 ?_,a5,a6,a7⟩
   cases q:H b with
   | none=>rfl
   | some u =>
    rcases hA b (by rw [q]; simp) with z | ⟨z,_⟩
    .rw [z,htp] at a4
     cases a4
     cases a5
    .rw [z,ha] at a4
     cases a4
     have a8:Value.type "list" = Value.type "module" := a5
     injection a8 with a8
     exact absurd a8 (by decide)
  refine codeAny_mono ((F _ Ji (Ab hns) hB).run callerA [] s₁ H ⟨[.ref a],[]⟩ [.ref a] [.ref a] _ _ hr e0 (hbind s₁ (.ref a)) (.cons rfl .nil) (lQ H hT hS)) λr s' h=>?_
  cases r with
  | error e=>exact (Eo H e s' h).elim
  | ok fl =>
   cases fl with
   | next=>exact False.elim h
   | brk=>exact False.elim h
   | cont=>exact False.elim h
   | ret u =>
    obtain ⟨v,H',os,bare,un,xP,r',q⟩:=h
    have q':v=.bl true:=q
    subst q'
    obtain rfl:u=Value.bool true:=r'
    have tab:=(W.codeHd_of_K KX hch).tab htp
    have t2:=xP tp _ (un.gR _ _ _ hT)
    obtain ⟨ps,hps,_⟩:=t2
    have old:∀ b o,s₁.heap.get? b=some o->b≠tp->s'.heap.get? b=some o:=λb o e nb=>by
     cases q:H b with
     | none=>exact un.keep b o e q (by intro z; exact absurd (show b∈([]:List Addr) from z) (by simp)) (by simp)
     | some u =>
      rcases hA b (by rw [q]; simp) with z | ⟨_,ob,xs,z⟩
      .exact absurd z nb
      .have z2:=un.gH b ob _ z
       obtain ⟨e1,_⟩:=hok b _ z
       obtain ⟨e2,_⟩:=xP b _ z2
       rw [e] at e1
       cases e1
       exact e2
    refine ⟨rfl,⟨λb o e=>?_,λb o e=>?_⟩,os,bare⟩
    .by_cases nb:b=tp
     .subst nb
      rw [htp] at e
      cases e
      exact .inr (.inl ⟨tab.isCodeTable,rfl,#[],ps,rfl,by rw [hps]; simp⟩)
     .exact .inl (old b o e nb)
    .by_cases nb:b=tp
     .subst nb
      exact ⟨_,hps⟩
     .exact ⟨o,old b o e nb⟩
 have tb:∀ H:Hp,aJ P w H s₁.heap tp (.iU pos qual):=λH=>⟨#[],htp,True.intro,λcv e=>by cases e⟩
 cases hk:K.lookup a with
 | some o =>
  have e:=KX a o hk
  rw [ha] at e
  cases e
  refine core (λb=>if b=tp then some (.iU pos qual) else none) (aHZ rfl) (.inr ⟨_,vs.toArray,_,hk,rfl,rfl,rfl,by rw [aIh,DP]; exact hl,by simpa using rv⟩) (λb u z=>?_) (λb z=>?_) λz=>absurd (bd2 nat) z
  .by_cases hb:b=tp
   .have z':=(aHZ hb).symm.trans z
    cases z'
    subst hb
    exact tb _
   .have z':=(bd2 hb).symm.trans z
    cases z'
  .by_cases hb:b=tp
   .exact .inl hb
   .exact absurd (bd2 hb) z
 | none =>
  refine core (λb=>if b=tp then some (.iU pos qual) else if b=a then some (.bC { cls:=.type "list",data:=.seq vs.toArray } (.lst (ns.map V.int))) else none) (aHZ rfl) (.inl (.inr ⟨{ cls:=.type "list",data:=.seq vs.toArray },(bd2 nat).trans (aHZ rfl)⟩)) (λb u z=>?_) (λb z=>?_) λ_=>hk
  .by_cases hb:b=tp
   .have z':=(aHZ hb).symm.trans z
    cases z'
    subst hb
    exact tb _
   .have z':=(bd2 hb).symm.trans z
    by_cases hb2:b=a
    .have z2:=(aHZ hb2).symm.trans z'
     cases z2
     subst hb2
     exact ⟨ha,by rw [aH5]; exact hl,vs,_,rv,ha⟩
    .have z2:=(bd2 hb2).symm.trans z'
     cases z2
  .by_cases hb:b=tp
   .exact .inl hb
   .by_cases hb2:b=a
    .exact .inr ⟨hb2,_,_,(bd2 hb).trans (aHZ hb2)⟩
    .exact absurd (by show (if b=tp then _ else if b=a then _ else none)=none; rw [bd2 hb,bd2 hb2]) z
theorem Um {l:W.OpenLaw} {n k:Nat} {q:Program} {loose:List Str} {XP:(Str->Option Value)->Heap->Prop} {YP:World->Heap->Prop} {d:DefRec} {K:Params->W.Frag} {CX:World->pC} {sp:World->Sp} {x:Str} {tp:Addr} {pos:Pos} {qual:Str} {G:World->Prop}
  (hn:l.most=some n) (hn2:n<=sizeLine) (hdf:d.params.defaults=[]) (hr:aZ k callerA)
  (hY:∀ (w:World) (h:Heap),YP w h->(K w.params).In h/\h.get? tp=some { cls:=.none,data:=.fields #[] })
  (F:∀ (w:World) (mg:Str->Option Value) (fa:Addr) (h:Heap),(K w.params).In h->h.Ns mainGlobals mg->mg d.name=some (.ref fa) ->
   G w/\(∃ c0,W.codeHdIn (K w.params) c0 tp=true)/\(K w.params).lookup tp=none/\∃ fd:FuncData,(∀ (s:Shared) (u:Value),BindsTo s fd ⟨[u],[]⟩ [(x,u)]) /\
    ∀ base:Heap,(K w.params).In base->base.Ns mainGlobals mg->BMod base mg->aD l.prog w (K w.params) mg base (CX w) k fa fd [x] (sp w))
  (lQ:∀ (w:World) (H:Hp) (a:Addr) (ns:List Int),G w->ns.length<=n->H tp=some (.iU pos qual)->ak (K w.params) H a (ns.map V.int)->sp w [.ref a] H (λv _=>v=.bl true) λ_ _ _=>False)
  (Eo:∀ (w:World) (H:Hp) (s:Shared) (e:Value) (s':Shared),CX w [] H s (λ_ _ _=>False) e s'->False) :
  W.WalkO q loose XP YP l.row.toRowW d [] (λf vs=>PySem.call f vs):=by
 refine Na.jI hn hdf λw s₀ s₁ mg mb fa o pm cd doc a vs ns G' Y ho hd hcd hmg hobj hints hlen hg=>?_
 obtain ⟨KX,htp⟩:=hY w _ Y
 obtain ⟨g,⟨c0,hc⟩,hk,fd,hb,hF⟩:=F w mg fa _ KX G'.T.g hmg
 have hbm:BMod s₁.heap mg:=by
  obtain ⟨bm,ob,b1,b2,b3,b4,b5,b6⟩:=G'.T.bmain
  refine ⟨bm,ob,b1,b2,λz=>?_,b3,b4,b5,b6⟩
  obtain ⟨o,es,ep,e,hd',_⟩:=G'.T.g
  rw [z,e] at b3
  cases b3
  rw [hd'] at b6
  cases b6
 exact Ve KX G'.T.g G'.T.b G'.T.builtins G'.T.nolimit hg hobj hints (ajJ hlen hn2) hr htp hc hk hbm hF hb (λH hT hS=>lQ w H a ns g hlen hT hS) λH e s'=>Eo w H s₁ e s'
def aB (K:W.Frag) (x:Str):Addr:=match W.nsIn K mainGlobals x with
 | some (some (.ref C))=>C
 | _=>0
def tabOf (K:W.Frag) (x m:Str):Addr:=match W.findIn K (.ref (aB K x)) m with
 | some (some (.ref f))=>(match K.lookup f with
  | some ⟨_,_,.func fd,_⟩=>(match fd.code with
   | .ref c=>(match K.lookup c with
    | some ⟨_,_,.fields vs,_⟩=>(match (vs[11]?:Option Value) with
     | some (.ref P)=>P
     | _=>0)
    | _=>0)
   | _=>0)
  | _=>0)
 | _=>0
theorem Ul {K:W.Frag} {x:Str} {C:Addr} (h:W.nsIn K mainGlobals x=some (some (.ref C))):aB K x=C:=by
 unfold aB
 rw [h]
theorem Uk {K:W.Frag} {x m:Str} {f c P:Addr} {oc:Value} {od:Option Addr} {fd:FuncData} {sl:Array (Option Value)} (h1:W.findIn K (.ref (aB K x)) m=some (some (.ref f))) (h2:K.lookup f=some ⟨oc,od,.func fd,sl⟩) (h3:fd.code=.ref c)
  (h4:W.codeHdIn K c P=true):tabOf K x m=P:=by
 unfold W.codeHdIn at h4
 split at h4
 .rename_i vs _ hk
  simp only [asO] at h4
  obtain ⟨⟨⟨⟨⟨e1,_⟩,_⟩,_⟩,_⟩,_⟩:=h4
  split at e1
  .rename_i P' h11
   have hP:P'=P:=aPf.mp e1
   subst hP
   unfold tabOf
   simp only [h1,h2,h3,hk,h11]
  .cases e1
 .cases h4
section
variable {X:Cx}
def wK:List V->Hp->VK->Prop:=λxs H Q=>xs=[]/\∀ q,H q=none->Q (.ref q) (upd H q (.set (λ_=>false) 0))
theorem Vd:aW X (.type "set") wK:=by
 intro pins s σ H xs us Q I r h
 obtain ⟨rfl,q⟩:=h
 cases r
 refine call_set_0 λled=>⟨.ref s.heap.objs.size,_,I.laid (t':=s.toks) (o:=.set (λ_=>false) 0) (λb ob e=>aBk _ e) (avG _) ?_,rfl,q _ (I.hok.fresh (avG _))⟩
 exact (setObjOf_fresh led).setOf (aJ2 _ rfl) (by decide)
def wL:V->List V->Hp->VK->Prop:=λx vs H Q=>∃ (p:Addr) (S:Int->Bool) (n:Nat) (k:Int),x=.ref p/\vs=[.int k]/\H p=some (.set S n)/\n<=1000/\Q .aX (upd H p (.set (λk'=>S k' || decide (k'=k)) (if S k then n else n+1)))
theorem SW:HF X "set.add" wL:=by
 intro pins s σ H x vs v us Q I rx rv h
 obtain ⟨p,S,n,k,rfl,rfl,hp,hn,q⟩:=h
 cases rx
 obtain ⟨u,rfl,ru⟩:=rv.one
 obtain ⟨tk,rfl⟩:=ru
 have hS:s.heap.SetOf (intKind X.prog X.w) p S n:=I.hok p _ hp
 refine call_set_add (knd:=intKind X.prog X.w) (k:=k) (by simp [intKind,Value.isInt]) rfl hS (Nat.lt_of_le_of_lt (adj hn 1) (by decide)) λh' sb hS'=>?_
 refine ⟨.aX,_,I.write (t':=s.toks+1) (x:=p) (e:=p) (o:=.set _ _) (by rw [hp]; exact True.intro) (.inl rfl) (λb o hb e=>(sb.2 b hb).trans e) ?_ hS',rfl,q⟩
 obtain ⟨o,_,_,_,ho,_⟩:=hS'
 exact ⟨o,ho⟩
end
end L2
namespace L2
open PySem PySem.F PyProof.Rows PySem.MeetsSeq
variable {K:W.Frag} {X:Cx} {pins:List Pin} {σ:St} {H:Hp} {s:Shared}
theorem jm {e:PySem.Expr} {T:String} {r:V->List V->Hp->VK->Prop} {to:TE} {t:TA} (hK:X.K=K) (h:PE X e (CQ X.K T r to t)):PE X e (CQ K T r to t):=by
 subst hK; exact h
end L2
namespace L2
open PySem PySem.Calls PyProof.Rows PySem.MeetsSeq PySem.W
variable {K:W.Frag} {X:Cx} {pins:List Pin} {σ:St} {H:Hp} {s:Shared}
theorem Vc {K:W.Frag} {a:Addr} {xs:List V} {l:Addr} {g:TG} {tc:TT} {te:TE} {σ0:St} {H0:Hp} {Qf:Hp->Prop} (Pv:Nat->List V->St->Hp->Prop) (h0:Pv 0 [] σ0 H0)
  (hl:∀ i ys σ' H',i<=xs.length->Pv i ys σ' H'->ak K H' a xs)
  (hs:∀ i x t ys σ' H',i<xs.length->xs[i]?=some x->ys.length<=i->Pv i ys σ' H'->H' t=none->g (.ref t) σ' (upd H' t (.tup [.int i,x])) λσ2 H3=>tc σ2 H3 λb H4=>if b=true then te σ2 H4 λy H5=>dU xs.length l Pv i ys σ2 y H5 else kD xs.length Pv i ys σ2 H4)
  (hd:∀ ys σ' H',ys.length<=xs.length->Pv xs.length ys σ' H'->Qf H') :
  ∃ W:Nat->Nat->List V->St->Hp->Prop,(∃ m,W 0 m [] σ0 H0)/\∀ i m ys σ' H',W i m ys σ' H' ->
  ((rJ K a).stop i H'/\Qf H')\/((rJ K a).go i H'/\∀ x H2,(rJ K a).jN i H' x H2->g x σ' H2 λσ2 H3=>tc σ2 H3 λb H4 =>
    if b=true then te σ2 H4 λy H5=>H5 l=some (.lst ys)/\ys.length<sizeLine/\∃ m',m'<m/\W (i+1) m' (ys++[y]) σ2 (upd H5 l (.lst (ys++[y])))
    else ∃ m',m'<m/\W (i+1) m' ys σ2 H4):=by
 refine ⟨λi m ys σ' H'=>m=xs.length - i/\i<=xs.length/\ys.length<=i/\Pv i ys σ' H',⟨xs.length,rfl,auX _,avG _,h0⟩,?_⟩
 rintro i m ys σ' H' ⟨rfl,hi,hy,p⟩
 have q:=hl i ys σ' H' hi p
 by_cases hlt:i<xs.length
 .refine .inr ⟨⟨xs,xs[i],q,by simp [hlt]⟩,λx H2 z=>?_⟩
  obtain ⟨t,u,ht,rfl,rfl,z1⟩:=z
  exact hs i u t ys σ' _ hlt (z1 xs q) hy p ht
 .have e:i=xs.length:=by lia
  subst e
  exact .inl ⟨⟨xs,q,rfl⟩,hd ys σ' H' hy p⟩
end L2
namespace L2
open PySem PySem.Calls PySem.Spec PyProof.Rows PySem.W
theorem aZ.m {j k:Nat} {A:Around} (r:aZ k A) (h:j<=k:=by first | decide | lia):aZ j A:=r.mono h
section
variable {X:Cx} {pos:Pos}
theorem bD (i:Nat) {x:Str} (hN:X.N.Nodup) (hi:X.N[i]?=some x:=by rfl) (hx:Loc X.env.scope x:=by first | exact Or.inl rfl | exact Or.inr rfl) (hf:X.fn x=true\/X.env.scope.names.lookup x=some .local:=by first | exact .inl rfl | exact .inr rfl | assumption):PG X (.Name x pos) (bT i):=Sk hN hi hx hf
theorem bA (i:Nat) {x:Str} {e:PySem.Expr} {te:TE} {pos':Pos} (hN:X.N.Nodup) (he:PE X e te) (hi:X.N[i]?=some x:=by rfl) (hx:Loc X.env.scope x:=by first | exact Or.inl rfl | exact Or.inr rfl) (hs:swapsWith e (some (.Name x pos')) pos.line X.env=pure false:=by rfl) (hf:X.fn x=true\/X.env.scope.names.lookup x=some .local:=by first | exact .inl rfl | exact .inr rfl | assumption):PS X (.Assign [.Name x pos'] e pos) (jS te (bT i)):=Ri hN hi hx he hs hf
end
end L2
namespace L2
open PySem PySem.F PyProof.Rows
variable {K:W.Frag} {X:Cx} {pins:List (Addr×Obj)} {σ:St} {H H':Hp} {s:Shared}
end L2
namespace L2
open PySem PySem.F PyProof.Rows PySem.MeetsSeq
variable {K:W.Frag} {X:Cx}
end L2
namespace L2.az
open PySem PySem.Spec PyProof.Rows
structure RR where
 r:Keyed->Nat
 g:Keyed->Int
def Kg (ρ:RR) (xs:Array Keyed) (i:Nat):Int:=(xs[i]?).elim 0 ρ.g
theorem bX {ρ:RR} {xs ys:Array Keyed} {i j:Nat} (h:xs[i]?=ys[j]?):Kg ρ xs i=Kg ρ ys j:=by unfold Kg; rw [h]
theorem iT {ρ:RR} {xs:Array Keyed} {src d:Nat} (hs:src<xs.size) (hd:d<=src) (k:Nat) :
  Kg ρ (bubble xs src d) k=if k=src - d then Kg ρ xs src else if src - d<k/\k<=src then Kg ρ xs (k - 1) else Kg ρ xs k:=by
 have e:=getElem?_bubble hs d hd k
 by_cases c:k=src - d
 .rw [aHZ c] at e ⊢; exact bX e
 .by_cases c2:src - d<k/\k<=src
  .rw [bd2 c,aHZ c2] at e ⊢; exact bX e
  .rw [bd2 c,bd2 c2] at e ⊢; exact bX e
theorem fZ {ρ:RR} {xs:Array Keyed} {i j:Nat} (hj:j<=xs.size) (k:Nat) :
  Kg ρ (mirror xs i j ((j - i) / 2)) k=if i<=k/\k<j then Kg ρ xs (i+j - 1 - k) else Kg ρ xs k:=by
 have e:=getElem?_mirror_all (i:=i) hj k
 by_cases c:i<=k/\k<j
 .rw [aHZ c] at e ⊢; exact bX e
 .rw [bd2 c] at e ⊢; exact bX e
theorem bN {ρ:RR} {xs:Array Keyed} {i j:Nat} (hj:j<=xs.size) (al:∀ k,i<=k->k<j->Kg ρ xs k=Kg ρ xs (j - 1)) (k:Nat):Kg ρ (mirror xs i j ((j - i) / 2)) k=Kg ρ xs k:=by
 rw [fZ hj]
 by_cases c:i<=k/\k<j
 .rw [aHZ c,al _ (by lia) (by lia),al k c.1 c.2]
 .rw [bd2 c]
def gM (prog:Program) (w:World) (A:Around) (s:Shared) (κ:SortKind) (ρ:RR) (a₀:Array Keyed):Prop :=
 ∀ p,p∈a₀.toList->∀ q,q∈a₀.toList->∀ (E:Value->Shared->Prop) (Q:Bool->Shared->Prop),Q (decide (ρ.g p<ρ.g q)) s->wpAny (model prog w) A (keyLt' κ p.1 q.1) Q E s
end L2.az
namespace L2
open PySem PySem.Spec PyProof.Rows
section
open PySem.SeqAt
open PySem.AutoSeq1 (wpAny_loadPart')
open PySem.MeetsSeq PySem.MeetsSeq2 PySem.MeetsSeq3
end
section
variable {prog:Program} {w:World} {A:Around} {E:Value->Shared->Prop} {s:Shared}
def lI (h:Heap) (a:Addr) (us:List Value):Heap:=((h.update a (Obj.mapSeq λ_=>#[])).push (seqObj "tuple" us.toArray 0)).push (seqObj "list" #[] 0)
theorem Uj {h:Heap} {a b:Addr} {us:List Value} {o:Obj} (n:b≠a) (e:h.get? b=some o):(lI h a us).get? b=some o :=
 aBk _ (aBk _ (by rw [azy _ _ _ _ n]; exact e))
def mZ (h:Heap) (us:List Value):Heap:=((h.push (seqObj "list" #[] 0)).update h.objs.size (Obj.mapSeq (·++us.toArray))).push (seqObj "list" us.toArray 0)
theorem Ui {h:Heap} {b:Addr} {us:List Value} {o:Obj} (e:h.get? b=some o):(mZ h us).get? b=some o :=
 aBk _ (by rw [azy _ _ _ _ (a0P (aP5 e))]; exact aBk _ e)
end
variable {K:W.Frag} {X:Cx}
end L2
namespace L2.qf
open PySem PySem.Spec PyProof.Rows
def vn:Bool->Keyed->Array Keyed->Nat->Nat->Nat->StateT SortSt Sem (Option Nat):=sortPriv% PySem.Builtin.gallop
def ZV:Nat->StateT SortSt Sem Unit:=sortPriv% PySem.Builtin.setMinGallop
def Gf:Array Keyed->Array Keyed->StateT SortSt Sem (Array Keyed):=sortPriv% PySem.Builtin.mergeLo
def Ge:Array Keyed->Array Keyed->StateT SortSt Sem (Array Keyed):=sortPriv% PySem.Builtin.mergeHi
def qX (left:Bool) (key:Keyed) (arr:Array Keyed) (base i:Nat):StateT SortSt Sem (Option Bool):=do
 let x ← elem' arr (base+i)
 if left then lt' x key else return (← lt' key x).map (!·)
def pW (left:Bool) (key:Keyed) (arr:Array Keyed) (base n Pb hi0:Nat):StateT SortSt Sem (Option Nat):=do
 let mut lo:=Pb
 let mut hi:=hi0
 for _ in [0:n] do
  if lo ≥ hi then break
  let m:=lo+(hi - lo) / 2
  let some more ← qX left key arr base m | return none
  if more then lo:=m+1 else hi:=m
 return some hi
def Jo (left:Bool) (key:Keyed) (arr:Array Keyed) (base n hint:Nat):StateT SortSt Sem (Option Nat):=do
 let mut fH:=0
 let mut lJ:=1
 for _ in [0:n] do
  if lJ ≥ n - hint then break
  let some more ← qX left key arr base (hint+lJ) | return none
  if !more then break
  fH:=lJ
  lJ:=2 * lJ+1
 pW left key arr base n (hint+fH+1) (hint+min lJ (n - hint))
def Jp (left:Bool) (key:Keyed) (arr:Array Keyed) (base n hint:Nat):StateT SortSt Sem (Option Nat):=do
 let mut fH:=0
 let mut lJ:=1
 for _ in [0:n] do
  if lJ ≥ hint+1 then break
  let some found ← qX left key arr base (hint - lJ) | return none
  if found then break
  fH:=lJ
  lJ:=2 * lJ+1
 pW left key arr base n (hint+1 - min lJ (hint+1)) (hint - fH)
theorem Vo (left:Bool) (key:Keyed) (arr:Array Keyed) (base n hint:Nat):vn left key arr base n hint=(do
 let some right ← qX left key arr base hint | return none
 if right then Jo left key arr base n hint else Jp left key arr base n hint):=rfl
theorem WW (g:Nat):ZV g=modify (λs=>SortSt.mk' (kindOf s) (arrOf s) (pendingOf s) g (failedOf s)):=rfl
theorem ow {σ α:Type} {M:Model} {A:Around} {E:Value->Shared->Prop} {s:Shared} {m m':StateT σ Sem α} {Q:α->σ->Prop} {st:σ} (e:m=m') (h:wpS M A E s m' Q st):wpAny M A (m st) (λr s'=>s'=s/\Q r.1 r.2) E s:=by subst e; exact h
section
variable {prog:Program} {w:World} {A:Around} {E:Value->Shared->Prop} {s:Shared} {a₀:Array Keyed} {κ:SortKind} {ρ:az.RR}
theorem jC {st:SortSt} {p q:Keyed} {Q:Option Bool->SortSt->Prop} (hk:kindOf st=κ) (h0:az.gM prog w A s κ ρ a₀) (mp:p∈a₀.toList) (mq:q∈a₀.toList) (h:Q (some (decide (ρ.g p<ρ.g q))) st):wpS (model prog w) A E s (lt' p q) Q st:=by
 rw [lt'_eq]
 refine aN1 (a0Y ?_)
 rw [hk]
 exact aN1 (wpS_lift (wpAny_attempt (h0 p mp q mq _ _ ⟨rfl,aSE h⟩)))
theorem ZD {st:SortSt} {arr:Array Keyed} {i:Nat} {Q:Keyed->SortSt->Prop} (hi:i<arr.size) (h:Q arr[i] st):wpS (model prog w) A E s (elem' arr i) Q st:=by
 rw [elem'_eq,getElem?_pos arr i hi]
 exact aSE h
theorem bf {arr:Array Keyed} {i:Nat} (hi:i<arr.size):az.Kg ρ arr i=ρ.g arr[i]:=by
 unfold az.Kg
 rw [getElem?_pos arr i hi]
 rfl
def Bd (ρ:az.RR) (left:Bool) (kv:Int) (arr:Array Keyed) (base i:Nat):Bool:=if left then decide (az.Kg ρ arr (base+i)<kv) else !decide (kv<az.Kg ρ arr (base+i))
theorem RQ {st:SortSt} {left:Bool} {key:Keyed} {arr:Array Keyed} {base i:Nat} {Q:Option Bool->SortSt->Prop} (hk:kindOf st=κ) (h0:az.gM prog w A s κ ρ a₀) (ha:∀ p∈arr.toList,p∈a₀.toList) (mk:key∈a₀.toList) (hi:base+i<arr.size) (h:Q (some (Bd ρ left (ρ.g key) arr base i)) st):wpS (model prog w) A E s (qX left key arr base i) Q st:=by
 unfold qX
 refine aN1 (ZD hi ?_)
 have m:arr[base+i]∈a₀.toList:=ha _ (by simp)
 unfold Bd at h
 rw [bf hi] at h
 cases left with
 | true =>
  simp only [at9] at h ⊢
  exact jC hk h0 m mk h
 | false =>
  simp only [a0a,aXX] at h ⊢
  exact aN1 (jC hk h0 mk m (aSE h))
structure Cut (ρ:az.RR) (left:Bool) (kv:Int) (arr:Array Keyed) (base n k:Nat):Prop where
 le:k<=n
 lo:∀ i,i<k->Bd ρ left kv arr base i=true
 hi:∀ i,k<=i->i<n->Bd ρ left kv arr base i=false
def dh (ρ:az.RR) (arr:Array Keyed) (a b:Nat):Prop:=∀ i j,a<=i->i<=j->j<b->az.Kg ρ arr i<=az.Kg ρ arr j
theorem SV {left:Bool} {kv:Int} {arr:Array Keyed} {base n i j:Nat} (hs:dh ρ arr base (base+n)) (hij:i<=j) (hj:j<n) (h:Bd ρ left kv arr base j=true):Bd ρ left kv arr base i=true:=by
 have q:=hs (base+i) (base+j) (by lia) (by lia) (by lia)
 unfold Bd at h ⊢
 cases left with
 | true =>
  simp only [at9,acz] at h ⊢
  lia
 | false =>
  simp only [a0a,aXX,azS,aOE] at h ⊢
  lia
section
variable {st:SortSt} {left:Bool} {key:Keyed} {arr:Array Keyed} {base n:Nat} {Q:Option Nat->SortSt->Prop} {P:Nat->Bool}
theorem Lf {lo hi:Nat} (B:∀ {i:Nat} {Q:Option Bool->SortSt->Prop},i<n->Q (some (P i)) st->wpS (model prog w) A E s (qX left key arr base i) Q st)
  (up:∀ {i j:Nat},i<=j->j<n->P j=true->P i=true) (dn:∀ {i j:Nat},i<=j->j<n->P i=false->P j=false)
  (h:∀ k,k<=n->(∀ i,i<k->P i=true)->(∀ i,k<=i->i<n->P i=false)->Q (some k) st)
  (PK:lo<=hi) (PM:hi<=n) (u1:∀ i,i<lo->P i=true) (u2:∀ i,hi<=i->i<n->P i=false):wpS (model prog w) A E s (pW left key arr base n lo hi) Q st:=by
 unfold pW
 refine aN1 (a5T (a7j (I:=λx c st2=>st2=st/\∃ l r,c=(none,l,r)/\l<=r/\r<=n/\r - l<=n - x/\(∀ i,i<l->P i=true)/\(∀ i,r<=i->i<n->P i=false))
  (Q:=λc st2=>st2=st/\∃ r,c=(none,r,r)/\r<=n/\(∀ i,i<r->P i=true)/\(∀ i,r<=i->i<n->P i=false)) ?iturn ?ilast ?ifirst) ?iafter)
 case ifirst=>exact ⟨rfl,lo,hi,rfl,PK,PM,by lia,u1,u2⟩
 case ilast =>
  rintro c st2 ⟨rfl,l,r,rfl,hlr,hrk,hm,u1,u2⟩
  have e:l=r:=by lia
  subst e
  exact ⟨rfl,l,rfl,hrk,u1,u2⟩
 case iturn =>
  rintro x c st2 _ hxk ⟨rfl,l,r,rfl,hlr,hrk,hm,u1,u2⟩
  dsimp only
  by_cases hge:l ≥ r
  .rw [aHZ hge]
   have e:l=r:=by lia
   subst e
   exact aSE ⟨rfl,l,rfl,hrk,u1,u2⟩
  .rw [bd2 hge]
   refine aN1 (B (by lia) ?_)
   dsimp only
   cases c:P (l+(r - l) / 2) with
   | true =>
    rw [aHZ rfl]
    exact aSE ⟨rfl,l+(r - l) / 2+1,r,rfl,by lia,by lia,by lia,λi p=>up (j:=l+(r - l) / 2) (by lia) (by lia) c,u2⟩
   | false =>
    rw [bd2 (by simp)]
    exact aSE ⟨rfl,l,l+(r - l) / 2,rfl,by lia,by lia,by lia,u1,λi p q=>dn p q c⟩
 case iafter =>
  rintro c st2 ⟨rfl,r,rfl,Pz,u1,u2⟩
  exact aSE (h r Pz u1 u2)
end
theorem vC {st:SortSt} {left:Bool} {key:Keyed} {arr:Array Keyed} {base n hint:Nat} {Q:Option Nat->SortSt->Prop} (hk:kindOf st=κ) (h0:az.gM prog w A s κ ρ a₀) (ha:∀ p∈arr.toList,p∈a₀.toList) (mk:key∈a₀.toList) (hb:base+n<=arr.size) (hh:hint<n) (hs:dh ρ arr base (base+n))
  (h:∀ k,Cut ρ left (ρ.g key) arr base n k->Q (some k) st):wpS (model prog w) A E s (vn left key arr base n hint) Q st:=by
 rw [Vo]
 have B:∀ {i:Nat} {Q:Option Bool->SortSt->Prop},i<n->Q (some (Bd ρ left (ρ.g key) arr base i)) st->wpS (model prog w) A E s (qX left key arr base i) Q st:=λ{i Q} hi hq=>RQ hk h0 ha mk (by lia) hq
 have up:∀ {i j:Nat},i<=j->j<n->Bd ρ left (ρ.g key) arr base j=true->Bd ρ left (ρ.g key) arr base i=true:=λhij hj hq=>SV hs hij hj hq
 have h:=λk c1 c2 c3=>h k ⟨c1,c2,c3⟩
 generalize Bd ρ left (ρ.g key) arr base=P at *
 have dn:∀ {i j:Nat},i<=j->j<n->P i=false->P j=false:=λ{i j} hij hj hq=>by
  cases e:P j with
  | false=>rfl
  | true=>rw [up hij hj e] at hq; exact hq
 refine aN1 (B hh ?_)
 dsimp only
 cases e:P hint with
 | true =>
  rw [aHZ rfl]
  unfold Jo
  refine aN1 (a5T (a7j (I:=λx c st2=>st2=st/\∃ l o,c=(none,l,o)/\l<o/\x+1<=o/\hint+l<n/\P (hint+l)=true)
   (Q:=λc st2=>st2=st/\∃ l o,c=(none,l,o)/\l<o/\hint+l<n/\P (hint+l)=true/\(n - hint<=o\/hint+o<n/\P (hint+o)=false)) ?jturn ?jlast ?jfirst) ?jafter)
  case jfirst=>exact ⟨rfl,0,1,rfl,by lia,by lia,by lia,e⟩
  case jlast =>
   rintro c st2 ⟨rfl,l,o,rfl,hlo,D3,ji,hp⟩
   exact ⟨rfl,l,o,rfl,hlo,ji,hp,.inl (by lia)⟩
  case jturn =>
   rintro x c st2 _ hxk ⟨rfl,l,o,rfl,hlo,D3,ji,hp⟩
   dsimp only
   by_cases hge:o ≥ n - hint
   .rw [aHZ hge]
    exact aSE ⟨rfl,l,o,rfl,hlo,ji,hp,.inl hge⟩
   .rw [bd2 hge]
    refine aN1 (B (by lia) ?_)
    dsimp only
    cases c:P (hint+o) with
    | true =>
     rw [bd2 (by simp)]
     exact aSE ⟨rfl,o,2 * o+1,rfl,by lia,by lia,by lia,c⟩
    | false =>
     rw [aHZ (by simp)]
     exact aSE ⟨rfl,l,o,rfl,hlo,ji,hp,.inr ⟨by lia,c⟩⟩
  case jafter =>
   rintro c st2 ⟨rfl,l,o,rfl,hlo,ji,hp,ho⟩
   refine Lf B up dn h (by dsimp only; lia) (by dsimp only; lia) (λi hi=>up (j:=hint+l) (by dsimp only at hi; lia) ji hp) (λi p q=>?_)
   dsimp only at p
   rcases ho with ho | ⟨ho,c⟩
   .lia
   .exact dn (i:=hint+o) (by lia) q c
 | false =>
  rw [bd2 (by simp)]
  unfold Jp
  refine aN1 (a5T (a7j (I:=λx c st2=>st2=st/\∃ l o,c=(none,l,o)/\l<o/\x+1<=o/\l<=hint/\P (hint - l)=false)
   (Q:=λc st2=>st2=st/\∃ l o,c=(none,l,o)/\l<o/\l<=hint/\P (hint - l)=false/\(hint+1<=o\/o<=hint/\P (hint - o)=true)) ?kturn ?klast ?kfirst) ?kafter)
  case kfirst=>exact ⟨rfl,0,1,rfl,by lia,by lia,by lia,e⟩
  case klast =>
   rintro c st2 ⟨rfl,l,o,rfl,hlo,D3,ji,hp⟩
   exact ⟨rfl,l,o,rfl,hlo,ji,hp,.inl (by lia)⟩
  case kturn =>
   rintro x c st2 _ hxk ⟨rfl,l,o,rfl,hlo,D3,ji,hp⟩
   dsimp only
   by_cases hge:o ≥ hint+1
   .rw [aHZ hge]
    exact aSE ⟨rfl,l,o,rfl,hlo,ji,hp,.inl hge⟩
   .rw [bd2 hge]
    refine aN1 (B (by lia) ?_)
    dsimp only
    cases c:P (hint - o) with
    | true =>
     rw [aHZ rfl]
     exact aSE ⟨rfl,l,o,rfl,hlo,ji,hp,.inr ⟨by lia,c⟩⟩
    | false =>
     rw [bd2 (by simp)]
     exact aSE ⟨rfl,o,2 * o+1,rfl,by lia,by lia,by lia,c⟩
  case kafter =>
   rintro c st2 ⟨rfl,l,o,rfl,hlo,ji,hp,ho⟩
   refine Lf B up dn h (by dsimp only; lia) (by dsimp only; lia) (λi hi=>?_) (λi p q=>dn (i:=hint - l) (by dsimp only at p; lia) q hp)
   dsimp only at hi
   rcases ho with ho | ⟨ho,c⟩
   .lia
   .exact up (j:=hint - o) (by lia) (by lia) c
end
def Lk (ρ:az.RR) (x y:Keyed):Prop:=ρ.g x<=ρ.g y
structure MI (ρ:az.RR) (A B out:List Keyed) (ia ib:Nat):Prop where
 perm:(out++A.drop ia++B.drop ib).Perm (A++B)
 sa:(out++A.drop ia).Pairwise (Lk ρ)
 sb:(out++B.drop ib).Pairwise (Lk ρ)
section
variable {ρ:az.RR} {A B out:List Keyed} {ia ib:Nat}
theorem MI.f9 (h:MI ρ A B out ia ib) (k:Nat) (hk:∀ t∈(B.drop ib).take k,∀ x∈A.drop ia,ρ.g t<=ρ.g x):MI ρ A B (out++(B.drop ib).take k) ia (ib+k):=by
 have e:B.drop (ib+k)=(B.drop ib).drop k:=by rw [drop_drop]
 have s:=h.sb
 have p:=h.perm
 rw [← aGJ k (B.drop ib)] at s p
 refine ⟨?_,?_,?_⟩
 .rw [e]
  refine List.Perm.trans ?_ p
  rw [aNV out,aNV out,aNV out,← aNV (A.drop ia)]
  exact (List.Perm.append_right _ aWR).append_left _
 .have s1:(out++(B.drop ib).take k).Pairwise (Lk ρ):=by
   rw [← aNV] at s
   exact (aW9.1 s).1
  have a1:=aW9.1 h.sa
  refine aW9.2 ⟨s1,a1.2.1,λx hx y hy=>?_⟩
  rcases bbY.1 hx with hx | hx
  .exact a1.2.2 x hx y hy
  .exact hk x hx y hy
 .rw [e,aNV]
  exact s
theorem MI.iG (h:MI ρ A B out ia ib) (k:Nat) (hk:∀ t∈(A.drop ia).take k,∀ x∈B.drop ib,ρ.g t<=ρ.g x):MI ρ A B (out++(A.drop ia).take k) (ia+k) ib:=by
 have h2:MI ρ B A out ib ia:=⟨by
  refine List.Perm.trans ?_ (List.Perm.trans h.perm aWR)
  rw [aNV,aNV]
  exact aWR.append_left _,h.sb,h.sa⟩
 have h3:=h2.f9 k hk
 refine ⟨?_,h3.sb,h3.sa⟩
 refine List.Perm.trans ?_ (List.Perm.trans h3.perm aWR)
 rw [aNV _ (A.drop _),aNV _ (B.drop _)]
 exact aWR.append_left _
def Res (ρ:az.RR) (A B:List Keyed) (r:Array Keyed):Prop:=r.toList.Perm (A++B)/\r.toList.Pairwise (Lk ρ)
theorem AV (a:Array Keyed) (i:Nat):(a.extract i a.size).toList=a.toList.drop i:=by
 rw [abY,List.extract_eq_drop_take]
 exact ahx (by simp)
theorem Fo (a:Array Keyed) (i k:Nat):(a.extract i (i+k)).toList=(a.toList.drop i).take k:=by
 rw [abY,List.extract_eq_drop_take]
 congr 1
 lia
theorem MI.res {a b out:Array Keyed} (h:MI ρ a.toList b.toList out.toList ia ib) (he:a.toList.drop ia=[]\/b.toList.drop ib=[]):Res ρ a.toList b.toList (out++a.extract ia a.size++b.extract ib b.size):=by
 unfold Res
 rw [ake,ake,AV,AV]
 refine ⟨h.perm,?_⟩
 rcases he with he | he
 .rw [he,aOr]; exact h.sb
 .rw [he,aOr]; exact h.sa
theorem MI.last {a b out:Array Keyed} (h:MI ρ a.toList b.toList out.toList ia ib) (hl:∀ y∈b.toList,∀ x∈a.toList.drop (a.size - 1),ρ.g y<=ρ.g x) (he:ia+1=a.size):Res ρ a.toList b.toList (out++b.extract ib b.size++a.extract ia a.size):=by
 have e:ia=a.size - 1:=by lia
 have h2:=h.f9 (b.toList.length) (λt ht x hx=>hl t (List.mem_of_mem_drop (mem_of_mem_take ht)) x (by rw [← e]; exact hx))
 have e2:(b.toList.drop ib).take b.toList.length=b.toList.drop ib:=ahx (by simp)
 have e3:b.toList.drop (ib+b.toList.length)=[]:=aQq (by lia)
 rw [e2] at h2
 unfold Res
 rw [ake,ake,AV,AV]
 refine ⟨?_,h2.sa⟩
 have:=h2.perm
 rw [e3,aOr] at this
 exact this
end
abbrev mD:=Option (Array Keyed)×Array Keyed×Nat×Nat×Nat×Nat×Nat
def Ak (a b out:Array Keyed) (ia ib g k k1:Nat):StateT SortSt Sem (ForInStep mD):=do
 let x ← elem' a ia
 if ia+1+1 == a.size then pure (.done (some (out.push x++b.extract ib b.size++a.extract (ia+1) a.size),out.push x,ia+1,ib,g,k,k1))
 else if k<7 && k1<7 then pure (.done (none,out.push x,ia+1,ib,g,k,k1)) else pure (.yield (none,out.push x,ia+1,ib,g,k,k1))
def lo2 (a b out:Array Keyed) (ia ib g k bc:Nat):StateT SortSt Sem (ForInStep mD):=do
 let x ← elem' b ib
 if ib+1 == b.size then pure (.done (some (out.push x++a.extract ia a.size++b.extract (ib+1) b.size),out.push x,ia,ib+1,g,k,bc))
 else do
  let y ← elem' a ia
  let r ← vn true y b (ib+1) (b.size - (ib+1)) 0
  match r with
  | some k1 =>
   if k1 > 0 then
    if ib+1+k1 == b.size then pure (.done (some (out.push x++b.extract (ib+1) (ib+1+k1)++a.extract ia a.size++b.extract (ib+1+k1) b.size),out.push x++b.extract (ib+1) (ib+1+k1),ia,ib+1+k1,g,k,k1))
    else Ak a b (out.push x++b.extract (ib+1) (ib+1+k1)) ia (ib+1+k1) g k k1
   else Ak a b (out.push x) ia (ib+1) g k k1
  | none=>pure (.done (some (out.push x++a.extract ia a.size++b.extract (ib+1) b.size),out.push x,ia,ib+1,g,k,bc))
def lo1 (a b out:Array Keyed) (ia ib g ac bc:Nat):StateT SortSt Sem (ForInStep mD):=do
 ZV g
 let y ← elem' b ib
 let r ← vn false y a ia (a.size - ia) 0
 match r with
 | some k =>
  if k > 0 then
   if ia+k+1 == a.size then pure (.done (some (out++a.extract ia (ia+k)++b.extract ib b.size++a.extract (ia+k) a.size),out++a.extract ia (ia+k),ia+k,ib,g,k,bc))
   else if ia+k == a.size then pure (.done (some (out++a.extract ia (ia+k)++a.extract (ia+k) a.size++b.extract ib b.size),out++a.extract ia (ia+k),ia+k,ib,g,k,bc))
   else lo2 a b (out++a.extract ia (ia+k)) (ia+k) ib g k bc
  else lo2 a b out ia ib g k bc
 | none=>pure (.done (some (out++a.extract ia a.size++b.extract ib b.size),out,ia,ib,g,ac,bc))
abbrev ql:=Option (Array Keyed)×Array Keyed×Nat×Nat×Nat×Nat
def Aj (a b:Array Keyed) (mg:Nat) (c:ql):StateT SortSt Sem (ForInStep ql):=do
 let y ← elem' b c.2.2.2.1
 let x ← elem' a c.2.2.1
 let r ← lt' y x
 match r with
 | some w =>
  if w then do
   let y ← elem' b c.2.2.2.1
   if c.2.2.2.1+1 == b.size then pure (.done (some (c.2.1.push y++a.extract c.2.2.1 a.size++b.extract (c.2.2.2.1+1) b.size),c.2.1.push y,c.2.2.1,c.2.2.2.1+1,0,c.2.2.2.2.2+1))
   else if c.2.2.2.2.2+1 ≥ mg then pure (.done (none,c.2.1.push y,c.2.2.1,c.2.2.2.1+1,0,c.2.2.2.2.2+1))
   else pure (.yield (none,c.2.1.push y,c.2.2.1,c.2.2.2.1+1,0,c.2.2.2.2.2+1))
  else do
   let x ← elem' a c.2.2.1
   if c.2.2.1+1+1 == a.size then pure (.done (some (c.2.1.push x++b.extract c.2.2.2.1 b.size++a.extract (c.2.2.1+1) a.size),c.2.1.push x,c.2.2.1+1,c.2.2.2.1,c.2.2.2.2.1+1,0))
   else if c.2.2.2.2.1+1 ≥ mg then pure (.done (none,c.2.1.push x,c.2.2.1+1,c.2.2.2.1,c.2.2.2.2.1+1,0))
   else pure (.yield (none,c.2.1.push x,c.2.2.1+1,c.2.2.2.1,c.2.2.2.2.1+1,0))
 | none=>pure (.done (some (c.2.1++a.extract c.2.2.1 a.size++b.extract c.2.2.2.1 b.size),c.2.1,c.2.2.1,c.2.2.2.1,c.2.2.2.2.1,c.2.2.2.2.2))
abbrev uc:=Option (Array Keyed)×Array Keyed×Nat×Nat×Nat
def Ai (a b:Array Keyed) (c:uc):StateT SortSt Sem (ForInStep uc):=do
 let d ← forIn [0:a.size+b.size] ((none,c.2.1,c.2.2.1,c.2.2.2.1,0,0):ql) (λ_ d=>Aj a b c.2.2.2.2 d)
 match d.1 with
 | some r=>pure (.done (some r,d.2.1,d.2.2.1,d.2.2.2.1,c.2.2.2.2))
 | none=>do
  rule "list.sort.gallop"
  let e ← forIn [0:a.size+b.size] ((none,d.2.1,d.2.2.1,d.2.2.2.1,c.2.2.2.2+1,d.2.2.2.2.1,d.2.2.2.2.2):mD) (λ_ e=>if e.2.2.2.2.1 > 1 then lo1 a b e.2.1 e.2.2.1 e.2.2.2.1 (e.2.2.2.2.1 - 1) e.2.2.2.2.2.1 e.2.2.2.2.2.2 else lo1 a b e.2.1 e.2.2.1 e.2.2.2.1 e.2.2.2.2.1 e.2.2.2.2.2.1 e.2.2.2.2.2.2)
  match e.1 with
  | some r=>pure (.done (some r,e.2.1,e.2.2.1,e.2.2.2.1,e.2.2.2.2.1))
  | none=>do
   ZV (e.2.2.2.2.1+1)
   pure (.yield (none,e.2.1,e.2.2.1,e.2.2.2.1,e.2.2.2.2.1+1))
theorem Vn {M:Model} {A:Around} {E:Value->Shared->Prop} {s:Shared} {Q:Array Keyed->SortSt->Prop} {st:SortSt} (a b:Array Keyed) (h:wpS M A E s (do
 rule "list.sort.merge-lo"
 let x ← elem' b 0
 if 1 == b.size then pure (#[x]++a.extract 0 a.size++b.extract 1 b.size)
 else if 0+1 == a.size then pure (#[x]++b.extract 1 b.size++a.extract 0 a.size)
 else do
  let st ← get
  let c ← forIn [0:a.size+b.size] ((none,#[x],0,1,gallopOf st):uc) (λ_ c=>Ai a b c)
  match c.1 with
  | some r=>pure r
  | none=>unsupported "internal:list.sort.merge-bound") Q st):wpS M A E s (Gf a b) Q st:=by
 show wpAny M A (Gf a b st) _ E s
 wp_delta
 wp_delta
 refine ow ?_ h
 dsimp only
 refine aDM λ_=>aDM λx=>?_
 congr 1
 congr 1
 refine aDM λst=>?_
 congr 1
 .congr 1
  funext _ c
  unfold Ai
  congr 1
  .congr 1
   funext _ d
   unfold Aj
   refine aDM λy=>aDM λx=>aDM λr=>?_
   cases r with
   | some w =>
    cases w with
    | true=>rfl
    | false=>rfl
   | none=>rfl
  .funext d
   cases d.1 with
   | some r=>rfl
   | none =>
    dsimp only
    refine aDM λ_=>?_
    congr 1
    .congr 1
     funext _ e
     congr 1
     all_goals
      unfold lo1
      refine aDM λ_=>aDM λy=>aDM λr=>?_
      cases r with
      | none=>rfl
      | some k =>
       dsimp only
       congr 1
       .congr 1
        congr 1
        unfold lo2
        refine aDM λx=>?_
        congr 1
        refine aDM λy=>aDM λr=>?_
        cases r with
        | none=>rfl
        | some k1=>rfl
       .unfold lo2
        refine aDM λx=>?_
        congr 1
        refine aDM λy=>aDM λr=>?_
        cases r with
        | none=>rfl
        | some k1=>rfl
    .funext e
     cases e.1 with
     | some r=>rfl
     | none=>rfl
 .funext c
  cases c.1 with
  | some r=>rfl
  | none=>rfl
def Sm (st st':SortSt):Prop:=kindOf st'=kindOf st/\arrOf st'=arrOf st/\pendingOf st'=pendingOf st/\failedOf st'=failedOf st
theorem Sm.refl (st:SortSt):Sm st st:=⟨rfl,rfl,rfl,rfl⟩
theorem Sm.trans {a b c:SortSt} (h:Sm a b) (h':Sm b c):Sm a c:=⟨h'.1.trans h.1,h'.2.1.trans h.2.1,h'.2.2.1.trans h.2.2.1,h'.2.2.2.trans h.2.2.2⟩
section
variable {prog:Program} {w:World} {A:Around} {E:Value->Shared->Prop} {s:Shared} {a₀:Array Keyed} {κ:SortKind} {ρ:az.RR} {a b:Array Keyed}
theorem AU {st:SortSt} {g:Nat} {Q:Unit->SortSt->Prop} (h:∀ st',Sm st st'->Q () st'):wpS (model prog w) A E s (ZV g) Q st:=by
 rw [WW]
 exact afH (h _ ⟨rfl,rfl,rfl,rfl⟩)
theorem Kh (h:a.toList.Pairwise (Lk ρ)) (i j:Nat):dh ρ a i (i+(a.size - i)):=by
 intro x y hx hxy hy
 have hy':y<a.size:=by lia
 rw [bf (show x<a.size by lia),bf hy']
 by_cases e:x=y
 .subst e; lia
 .exact bcW.1 h x y (by simpa using (show x<a.size by lia)) (by simpa using hy') (by lia)
theorem VZ {i:Nat} {x:Keyed} (h:x∈a.toList.drop i):∃ j,∃ hj:i+j<a.size,x=a[i+j]:=by
 obtain ⟨j,hj,e⟩:=aIp.1 h
 rw [aGM,aek] at hj
 refine ⟨j,by lia,?_⟩
 rw [← e,getElem_drop,aEu]
theorem VY {i k:Nat} {x:Keyed} (h:x∈(a.toList.drop i).take k):∃ j,j<k/\∃ hj:i+j<a.size,x=a[i+j]:=by
 obtain ⟨j,hj,e⟩:=aIp.1 h
 rw [aJj,aGM,aek] at hj
 refine ⟨j,by lia,by lia,?_⟩
 rw [← e,getElem_take,getElem_drop,aEu]
theorem Cut.low {left:Bool} {kv:Int} {i k:Nat} (h:Cut ρ left kv a i (a.size - i) k) {x:Keyed} (hx:x∈(a.toList.drop i).take k):ρ.g x<=kv:=by
 obtain ⟨j,hj,hs,rfl⟩:=VY hx
 have:=h.lo j hj
 unfold Bd at this
 rw [bf hs] at this
 cases left with
 | true=>simp only [at9,acz] at this; lia
 | false=>simp only [a0a,aXX,azS,aOE] at this; lia
theorem Cut.high {left:Bool} {kv:Int} {i k:Nat} (h:Cut ρ left kv a i (a.size - i) k) {x:Keyed} (hx:x∈a.toList.drop (i+k)):kv<=ρ.g x:=by
 obtain ⟨j,hs,rfl⟩:=VZ hx
 have:=h.hi (k+j) (by lia) (by lia)
 unfold Bd at this
 rw [show i+(k+j)=i+k+j by lia,bf hs] at this
 cases left with
 | true=>simp only [at9,aOE] at this; lia
 | false=>simp only [a0a,aXX,Bool.not_eq_false',acz] at this; lia
theorem yL {i:Nat} (hi:i<a.size):(a.toList.drop i).take 1=[a[i]]:=by
 rw [aau (by simpa using hi)]
 rfl
theorem By {i:Nat} (hi:i<a.size) (h:(a.toList.drop i).Pairwise (Lk ρ)) {x:Keyed} (hx:x∈a.toList.drop i):ρ.g a[i]<=ρ.g x:=by
 rw [aau (by simpa using hi)] at h hx
 rcases aDl.1 hx with rfl | hx
 .exact aB0 _
 .exact (List.pairwise_cons.1 h).1 x hx
structure vE (ρ:az.RR) (a₀ a b:Array Keyed):Prop where
 ma:∀ p∈a.toList,p∈a₀.toList
 mb:∀ p∈b.toList,p∈a₀.toList
 sa:a.toList.Pairwise (Lk ρ)
 sb:b.toList.Pairwise (Lk ρ)
 last:∀ y∈b.toList,∀ x∈a.toList.drop (a.size - 1),ρ.g y<=ρ.g x
def Jm (ρ:az.RR) (a b:Array Keyed) (m:Nat) (out:Array Keyed) (ia ib:Nat):Prop:=MI ρ a.toList b.toList out.toList ia ib/\m<=ia+ib/\ia+1<a.size/\ib<b.size
def MV (ρ:az.RR) (a b:Array Keyed) (m:Nat) (c:mD):Prop:=(∃ r q,c=(some r,q)/\Res ρ a.toList b.toList r)\/∃ out ia ib g k k1,c=(none,out,ia,ib,g,k,k1)/\Jm ρ a b m out ia ib
def HG (ρ:az.RR) (a b:Array Keyed) (m:Nat) (st:SortSt) (r:ForInStep mD) (st':SortSt):Prop:=Sm st st'/\match r with
 | .done c=>MV ρ a b m c
 | .yield c=>∃ out ia ib g k k1,c=(none,out,ia,ib,g,k,k1)/\Jm ρ a b m out ia ib
theorem MI.iN {out:Array Keyed} {ia ib:Nat} (h:MI ρ a.toList b.toList out.toList ia ib) (hi:ia<a.size) (hk:∀ x∈b.toList.drop ib,ρ.g a[ia]<=ρ.g x):MI ρ a.toList b.toList (out.push a[ia]).toList (ia+1) ib:=by
 have:=h.iG 1 (by rw [yL hi]; intro t ht x hx; rw [adl.1 ht]; exact hk x hx)
 rw [yL hi] at this
 rw [a77]
 exact this
theorem MI.iM {out:Array Keyed} {ia ib:Nat} (h:MI ρ a.toList b.toList out.toList ia ib) (hi:ib<b.size) (hk:∀ x∈a.toList.drop ia,ρ.g b[ib]<=ρ.g x):MI ρ a.toList b.toList (out.push b[ib]).toList ia (ib+1):=by
 have:=h.f9 1 (by rw [yL hi]; intro t ht x hx; rw [adl.1 ht]; exact hk x hx)
 rw [yL hi] at this
 rw [a77]
 exact this
theorem Kf {gE st:SortSt} {out:Array Keyed} {ia ib g k k1 m:Nat} (T:vE ρ a₀ a b) (hS:Sm gE st) (h:Jm ρ a b m out ia ib) (hk:∀ x∈b.toList.drop ib,ρ.g (a[ia]'(by have:=h.2.2.1; lia))<=ρ.g x):wpS (model prog w) A E s (Ak a b out ia ib g k k1) (HG ρ a b (m+1) gE) st:=by
 obtain ⟨M,hm,ha,hb⟩:=h
 have nQ:ia<a.size:=by lia
 unfold Ak
 refine aN1 (ZD nQ ?_)
 have M2:=M.iN nQ hk
 by_cases e:ia+1+1=a.size
 .rw [aHZ (by simpa using e)]
  exact aSE ⟨hS,.inl ⟨_,_,rfl,M2.last T.last e⟩⟩
 .rw [bd2 (by simpa using e)]
  have J:Jm ρ a b (m+1) (out.push a[ia]) (ia+1) ib:=⟨M2,by lia,by lia,hb⟩
  by_cases c:(decide (k<7) && decide (k1<7))=true
  .rw [aHZ c]
   exact aSE ⟨hS,.inr ⟨_,_,_,_,_,_,rfl,J⟩⟩
  .rw [bd2 c]
   exact aSE ⟨hS,_,_,_,_,_,_,rfl,J⟩
theorem Ke {gE st:SortSt} {out:Array Keyed} {ia ib g k bc m:Nat} (h0:az.gM prog w A s κ ρ a₀) (hk:kindOf st=κ) (T:vE ρ a₀ a b) (hS:Sm gE st) (h:Jm ρ a b m out ia ib) (hq:∀ x∈a.toList.drop ia,ρ.g (b[ib]'(h.2.2.2))<=ρ.g x):wpS (model prog w) A E s (lo2 a b out ia ib g k bc) (HG ρ a b (m+1) gE) st:=by
 obtain ⟨M,hm,ha,hb⟩:=h
 have nQ:ia<a.size:=by lia
 unfold lo2
 refine aN1 (ZD hb ?_)
 have M2:=M.iM hb hq
 by_cases e:ib+1=b.size
 .rw [aHZ (by simpa using e)]
  exact aSE ⟨hS,.inl ⟨_,_,rfl,M2.res (.inr (aQq (by simp; lia)))⟩⟩
 .rw [bd2 (by simpa using e)]
  refine aN1 (ZD nQ ?_)
  refine aN1 (vC hk h0 T.mb (T.ma _ (by simp)) (by lia) (by lia) (Kh T.sb _ 0) (λk1 C=>?_))
  dsimp only
  have fa:∀ x∈a.toList.drop ia,ρ.g a[ia]<=ρ.g x:=λx hx=>By nQ (aL9 (drop_sublist _ _) T.sa) hx
  have M3:=M2.f9 k1 (λt ht x hx=>aJd (C.low ht) (fa x hx))
  rw [← Fo,← ake] at M3
  have hi:∀ x∈b.toList.drop (ib+1+k1),ρ.g a[ia]<=ρ.g x:=λx hx=>C.high hx
  by_cases c:k1 > 0
  .rw [aHZ c]
   by_cases e2:ib+1+k1=b.size
   .rw [aHZ (by simpa using e2)]
    exact aSE ⟨hS,.inl ⟨_,_,rfl,M3.res (.inr (aQq (by simp; lia)))⟩⟩
   .rw [bd2 (by simpa using e2)]
    have:=C.le
    exact Kf T hS ⟨M3,by lia,ha,by lia⟩ hi
  .rw [bd2 c]
   have e3:k1=0:=by lia
   subst e3
   exact Kf T hS ⟨M2,by lia,ha,by lia⟩ hi
theorem RP {gE st:SortSt} {out:Array Keyed} {ia ib g ac bc m:Nat} (h0:az.gM prog w A s κ ρ a₀) (hk:kindOf st=κ) (T:vE ρ a₀ a b) (hS:Sm gE st) (h:Jm ρ a b m out ia ib):wpS (model prog w) A E s (lo1 a b out ia ib g ac bc) (HG ρ a b (m+1) gE) st:=by
 obtain ⟨M,hm,ha,hb⟩:=h
 have nQ:ia<a.size:=by lia
 unfold lo1
 refine aN1 (AU λst1 sW=>?_)
 have hk1:kindOf st1=κ:=sW.1.trans hk
 have mK:=hS.trans sW
 refine aN1 (ZD hb ?_)
 refine aN1 (vC hk1 h0 T.ma (T.mb _ (by simp)) (by lia) (by lia) (Kh T.sa _ 0) (λk C=>?_))
 dsimp only
 have fb:∀ x∈b.toList.drop ib,ρ.g b[ib]<=ρ.g x:=λx hx=>By hb (aL9 (drop_sublist _ _) T.sb) hx
 have M3:=M.iG k (λt ht x hx=>aJd (C.low ht) (fb x hx))
 rw [← Fo,← ake] at M3
 have hi:∀ x∈a.toList.drop (ia+k),ρ.g b[ib]<=ρ.g x:=λx hx=>C.high hx
 have:=C.le
 by_cases c:k > 0
 .rw [aHZ c]
  by_cases e2:ia+k+1=a.size
  .rw [aHZ (by simpa using e2)]
   exact aSE ⟨mK,.inl ⟨_,_,rfl,M3.last T.last e2⟩⟩
  .rw [bd2 (by simpa using e2)]
   by_cases e3:ia+k=a.size
   .rw [aHZ (by simpa using e3)]
    exact aSE ⟨mK,.inl ⟨_,_,rfl,M3.res (.inl (aQq (by simp; lia)))⟩⟩
   .rw [bd2 (by simpa using e3)]
    exact Ke h0 hk1 T mK ⟨M3,by lia,by lia,hb⟩ hi
 .rw [bd2 c]
  have e3:k=0:=by lia
  subst e3
  exact Ke h0 hk1 T mK ⟨M,by lia,ha,hb⟩ hi
def M7 (ρ:az.RR) (a b:Array Keyed) (m:Nat) (c:ql):Prop:=(∃ r q,c=(some r,q)/\Res ρ a.toList b.toList r)\/∃ out ia ib k k1,c=(none,out,ia,ib,k,k1)/\Jm ρ a b m out ia ib
theorem RO {st:SortSt} {out:Array Keyed} {mg ia ib ac bc m:Nat} (h0:az.gM prog w A s κ ρ a₀) (hk:kindOf st=κ) (T:vE ρ a₀ a b) (h:Jm ρ a b m out ia ib):wpS (model prog w) A E s (Aj a b mg (none,out,ia,ib,ac,bc)) (λr st'=>st'=st/\match r with
  | .done c=>M7 ρ a b (m+1) c
  | .yield c=>∃ out ia ib k k1,c=(none,out,ia,ib,k,k1)/\Jm ρ a b (m+1) out ia ib) st:=by
 obtain ⟨M,hm,ha,hb⟩:=h
 have nQ:ia<a.size:=by lia
 have fa:∀ x∈a.toList.drop ia,ρ.g a[ia]<=ρ.g x:=λx hx=>By nQ (aL9 (drop_sublist _ _) T.sa) hx
 have fb:∀ x∈b.toList.drop ib,ρ.g b[ib]<=ρ.g x:=λx hx=>By hb (aL9 (drop_sublist _ _) T.sb) hx
 unfold Aj
 dsimp only
 refine aN1 (ZD hb (aN1 (ZD nQ (aN1 (jC hk h0 (T.mb _ (by simp)) (T.ma _ (by simp)) ?_)))))
 dsimp only
 by_cases c:ρ.g b[ib]<ρ.g a[ia]
 .rw [aPy c,aHZ rfl]
  refine aN1 (ZD hb ?_)
  have M2:=M.iM hb (λx hx=>by have:=fa x hx; lia)
  by_cases e:ib+1=b.size
  .rw [aHZ (by simpa using e)]
   exact aSE ⟨rfl,.inl ⟨_,_,rfl,M2.res (.inr (aQq (by simp; lia)))⟩⟩
  .rw [bd2 (by simpa using e)]
   have J:Jm ρ a b (m+1) (out.push b[ib]) ia (ib+1):=⟨M2,by lia,ha,by lia⟩
   by_cases c2:bc+1 ≥ mg
   .rw [aHZ c2]
    exact aSE ⟨rfl,.inr ⟨_,_,_,_,_,rfl,J⟩⟩
   .rw [bd2 c2]
    exact aSE ⟨rfl,_,_,_,_,_,rfl,J⟩
 .rw [aXf c,bd2 (by simp)]
  refine aN1 (ZD nQ ?_)
  have M2:=M.iN nQ (λx hx=>by have:=fb x hx; lia)
  by_cases e:ia+1+1=a.size
  .rw [aHZ (by simpa using e)]
   exact aSE ⟨rfl,.inl ⟨_,_,rfl,M2.last T.last e⟩⟩
  .rw [bd2 (by simpa using e)]
   have J:Jm ρ a b (m+1) (out.push a[ia]) (ia+1) ib:=⟨M2,by lia,by lia,hb⟩
   by_cases c2:ac+1 ≥ mg
   .rw [aHZ c2]
    exact aSE ⟨rfl,.inr ⟨_,_,_,_,_,rfl,J⟩⟩
   .rw [bd2 c2]
    exact aSE ⟨rfl,_,_,_,_,_,rfl,J⟩
theorem Jm.weak {m m':Nat} {out:Array Keyed} {ia ib:Nat} (h:Jm ρ a b m out ia ib) (hm:m'<=m):Jm ρ a b m' out ia ib:=⟨h.1,by have:=h.2.1; lia,h.2.2.1,h.2.2.2⟩
theorem RN {st:SortSt} {out:Array Keyed} {ia ib g m:Nat} (h0:az.gM prog w A s κ ρ a₀) (hk:kindOf st=κ) (T:vE ρ a₀ a b) (h:Jm ρ a b m out ia ib):wpS (model prog w) A E s (Ai a b (none,out,ia,ib,g)) (λr st'=>Sm st st'/\match r with
  | .done c=>∃ r q,c=(some r,q)/\Res ρ a.toList b.toList r
  | .yield c=>∃ out ia ib g,c=(none,out,ia,ib,g)/\Jm ρ a b (m+1) out ia ib) st:=by
 have pos:0<a.size+b.size:=by have:=h.2.2.1; lia
 unfold Ai
 dsimp only
 refine aN1 (a5T (a7j (I:=λx c st2=>st2=st/\∃ out ia ib k k1,c=(none,out,ia,ib,k,k1)/\Jm ρ a b (m+x) out ia ib) (Q:=λc st2=>st2=st/\M7 ρ a b (m+1) c) ?turn ?last ?first) ?after)
 case first=>exact ⟨rfl,_,_,_,_,_,rfl,h⟩
 case last =>
  rintro c st2 ⟨rfl,out,ia,ib,k,k1,rfl,J⟩
  exact ⟨rfl,.inr ⟨_,_,_,_,_,rfl,J.weak (by lia)⟩⟩
 case turn =>
  rintro x c st2 _ hx ⟨rfl,out,ia,ib,k,k1,rfl,J⟩
  refine a5T (RO h0 hk T J) ?_
  rintro r st3 ⟨rfl,hr⟩
  cases r with
  | done c =>
   refine ⟨rfl,?_⟩
   rcases hr with hr | ⟨out,ia,ib,k,k1,rfl,J⟩
   .exact .inl hr
   .exact .inr ⟨_,_,_,_,_,rfl,J.weak (by lia)⟩
  | yield c=>exact ⟨rfl,hr⟩
 case after =>
  rintro c st2 ⟨rfl,hc⟩
  rcases hc with ⟨r,q,rfl,R⟩ | ⟨out,ia,ib,k,k1,rfl,J⟩
  .exact aSE ⟨Sm.refl _,_,_,rfl,R⟩
  .dsimp only
   refine aN1 (wpS_lift (ai2 ⟨rfl,?_⟩))
   refine aN1 (a5T (a7j (I:=λx c st3=>Sm st2 st3/\∃ out ia ib g k k1,c=(none,out,ia,ib,g,k,k1)/\Jm ρ a b (m+x) out ia ib) (Q:=λc st3=>Sm st2 st3/\MV ρ a b (m+1) c) ?jturn ?jlast ?jfirst) ?jafter)
   case jfirst=>exact ⟨Sm.refl _,_,_,_,_,_,_,rfl,J.weak (by lia)⟩
   case jlast =>
    rintro c st3 ⟨hS,out,ia,ib,g,k,k1,rfl,J⟩
    exact ⟨hS,.inr ⟨_,_,_,_,_,_,rfl,J.weak (by lia)⟩⟩
   case jturn =>
    rintro x c st3 _ hx ⟨hS,out,ia,ib,g,k,k1,rfl,J⟩
    have Ef:kindOf st3=κ:=hS.1.trans hk
    dsimp only
    rw [show (if g > 1 then lo1 a b out ia ib (g - 1) k k1 else lo1 a b out ia ib g k k1)=lo1 a b out ia ib (if g > 1 then g - 1 else g) k k1 by split <;> rfl]
    refine a5T (RP h0 Ef T hS J) ?_
    rintro r cB ⟨nZ,hr⟩
    cases r with
    | done c =>
     refine ⟨nZ,?_⟩
     rcases hr with hr | ⟨out,ia,ib,g,k,k1,rfl,J⟩
     .exact .inl hr
     .exact .inr ⟨_,_,_,_,_,_,rfl,J.weak (by lia)⟩
    | yield c=>exact ⟨nZ,hr⟩
   case jafter =>
    rintro c st3 ⟨hS,hc⟩
    rcases hc with ⟨r,q,rfl,R⟩ | ⟨out,ia,ib,g,k,k1,rfl,J⟩
    .exact aSE ⟨hS,_,_,rfl,R⟩
    .refine aN1 (AU λcB nZ=>aSE ⟨hS.trans nZ,_,_,_,_,rfl,J⟩)
theorem Vm {st:SortSt} {Q:Array Keyed->SortSt->Prop} (h0:az.gM prog w A s κ ρ a₀) (hk:kindOf st=κ) (T:vE ρ a₀ a b) (ha:0<a.size) (hb:0<b.size) (hf:∀ x∈a.toList,ρ.g b[0]<=ρ.g x)
  (h:∀ r st',Sm st st'->Res ρ a.toList b.toList r->Q r st'):wpS (model prog w) A E s (Gf a b) Q st:=by
 refine Vn _ _ ?_
 refine aN1 (wpS_lift (ai2 ⟨rfl,?_⟩))
 refine aN1 (ZD hb ?_)
 have M0:MI ρ a.toList b.toList (#[]:Array Keyed).toList 0 0:=⟨by simp,by simpa using T.sa,by simpa using T.sb⟩
 have M1:MI ρ a.toList b.toList (#[b[0]]:Array Keyed).toList 0 1:=M0.iM hb (λx hx=>hf x (by simpa using hx))
 by_cases e1:1=b.size
 .rw [aHZ (by simpa using e1)]
  exact aSE (h _ _ (Sm.refl _) (M1.res (.inr (aQq (by simp; lia)))))
 .rw [bd2 (by simpa using e1)]
  by_cases e2:0+1=a.size
  .rw [aHZ (by simpa using e2)]
   exact aSE (h _ _ (Sm.refl _) (M1.last T.last e2))
  .rw [bd2 (by simpa using e2)]
   refine aN1 (a0Y ?_)
   refine aN1 (a5T (a7j (I:=λx c st2=>Sm st st2/\∃ out ia ib g,c=(none,out,ia,ib,g)/\Jm ρ a b (x+1) out ia ib) (Q:=λc st2=>Sm st st2/\∃ r q,c=(some r,q)/\Res ρ a.toList b.toList r) ?turn ?last ?first) ?after)
   case first=>exact ⟨Sm.refl _,_,_,_,_,rfl,M1,by lia,by lia,by lia⟩
   case last =>
    rintro c st2 ⟨_,out,ia,ib,g,rfl,J⟩
    have:=J.2.1
    have:=J.2.2.1
    have:=J.2.2.2
    lia
   case turn =>
    rintro x c st2 _ hx ⟨hS,out,ia,ib,g,rfl,J⟩
    refine a5T (RN h0 (hS.1.trans hk) T J) ?_
    rintro r st3 ⟨sV,hr⟩
    cases r with
    | done c=>exact ⟨hS.trans sV,hr⟩
    | yield c=>exact ⟨hS.trans sV,hr⟩
   case after =>
    rintro c st2 ⟨hS,r,q,rfl,R⟩
    exact aSE (h r st2 hS R)
end
structure MH (ρ:az.RR) (A B O:List Keyed) (na nb:Nat):Prop where
 perm:(A.take na++B.take nb++O).Perm (A++B)
 sa:(A.take na++O).Pairwise (Lk ρ)
 sb:(B.take nb++O).Pairwise (Lk ρ)
section
variable {ρ:az.RR} {A B O:List Keyed} {na nb:Nat}
theorem MH.f9 (h:MH ρ A B O na nb) (k:Nat) (hkn:k<=nb) (hk:∀ t∈(B.take nb).drop k,∀ x∈A.take na,ρ.g x<=ρ.g t):MH ρ A B ((B.take nb).drop k++O) na k:=by
 have e:B.take k=(B.take nb).take k:=by rw [List.take_take,Nat.min_eq_left hkn]
 have s:=h.sb
 have p:=h.perm
 rw [← aGJ k (B.take nb),aNV] at s
 rw [← aGJ k (B.take nb)] at p
 refine ⟨?_,?_,?_⟩
 .rw [e]
  refine List.Perm.trans ?_ p
  simp only [aNV]
  exact ai0 _
 .have s1:=(aW9.1 s).2.1
  have a1:=aW9.1 h.sa
  refine aW9.2 ⟨a1.1,s1,λx hx y hy=>?_⟩
  rcases bbY.1 hy with hy | hy
  .exact hk y hy x hx
  .exact a1.2.2 x hx y hy
 .rw [e]
  exact s
theorem MH.iG (h:MH ρ A B O na nb) (k:Nat) (hkn:k<=na) (hk:∀ t∈(A.take na).drop k,∀ x∈B.take nb,ρ.g x<=ρ.g t):MH ρ A B ((A.take na).drop k++O) k nb:=by
 have h2:MH ρ B A O nb na:=⟨List.Perm.trans (aWR.append_right _) (List.Perm.trans h.perm aWR),h.sb,h.sa⟩
 have h3:=h2.f9 k hkn hk
 exact ⟨List.Perm.trans (aWR.append_right _) (List.Perm.trans h3.perm aWR),h3.sb,h3.sa⟩
theorem kW (a:Array Keyed) (k:Nat):(a.extract 0 k).toList=a.toList.take k:=by
 rw [abY,List.extract_eq_drop_take,drop_zero,aPP]
theorem uZ (a:Array Keyed) (i k:Nat):(a.extract i k).toList=(a.toList.take k).drop i:=by
 rw [abY,List.extract_eq_drop_take,drop_take]
theorem MH.res {a b out:Array Keyed} (h:MH ρ a.toList b.toList out.toList.reverse na nb) (he:na=0\/nb=0):Res ρ a.toList b.toList (a.extract 0 na++b.extract 0 nb++out.reverse):=by
 unfold Res
 rw [ake,ake,kW,kW,bav]
 refine ⟨h.perm,?_⟩
 rcases he with rfl | rfl
 .rw [take_zero,List.nil_append]; exact h.sb
 .rw [take_zero,aOr]; exact h.sa
theorem MH.first {a b out:Array Keyed} (h:MH ρ a.toList b.toList out.toList.reverse na 1) (hl:∀ y∈b.toList.take 1,∀ x∈a.toList,ρ.g y<=ρ.g x):Res ρ a.toList b.toList (b.extract 0 1++a.extract 0 na++out.reverse):=by
 have h2:=h.iG 0 (auX _) (λt ht x hx=>hl x hx t (mem_of_mem_take (List.mem_of_mem_drop ht)))
 rw [drop_zero] at h2
 unfold Res
 rw [ake,ake,kW,kW,bav]
 have p:=h2.perm
 have s:=h2.sb
 rw [take_zero,List.nil_append,← aNV] at p
 rw [← aNV] at s
 exact ⟨p,s⟩
end
abbrev mF:=Option (Array Keyed)×Nat×Nat×Array Keyed×Nat×Nat×Nat
def As (a b:Array Keyed) (na nb:Nat) (out:Array Keyed) (g k k1:Nat):StateT SortSt Sem (ForInStep mF):=do
 let x ← elem' a (na - 1)
 if na - 1 == 0 then pure (.done (some (a.extract 0 (na - 1)++b.extract 0 nb++(out.push x).reverse),na - 1,nb,out.push x,g,k,k1))
 else if k<7 && k1<7 then pure (.done (none,na - 1,nb,out.push x,g,k,k1)) else pure (.yield (none,na - 1,nb,out.push x,g,k,k1))
def hi2 (a b:Array Keyed) (na nb:Nat) (out:Array Keyed) (g k bc:Nat):StateT SortSt Sem (ForInStep mF):=do
 let x ← elem' b (nb - 1)
 if nb - 1 == 1 then pure (.done (some (b.extract 0 (nb - 1)++a.extract 0 na++(out.push x).reverse),na,nb - 1,out.push x,g,k,bc))
 else do
  let y ← elem' a (na - 1)
  let r ← vn true y b 0 (nb - 1) (nb - 1 - 1)
  match r with
  | some i =>
   if nb - 1 - i > 0 then
    if i == 1 then pure (.done (some (b.extract 0 i++a.extract 0 na++(out.push x++(b.extract i (nb - 1)).reverse).reverse),na,i,out.push x++(b.extract i (nb - 1)).reverse,g,k,nb - 1 - i))
    else if i == 0 then pure (.done (some (a.extract 0 na++b.extract 0 i++(out.push x++(b.extract i (nb - 1)).reverse).reverse),na,i,out.push x++(b.extract i (nb - 1)).reverse,g,k,nb - 1 - i))
    else As a b na i (out.push x++(b.extract i (nb - 1)).reverse) g k (nb - 1 - i)
   else As a b na (nb - 1) (out.push x) g k (nb - 1 - i)
  | none=>pure (.done (some (a.extract 0 na++b.extract 0 (nb - 1)++(out.push x).reverse),na,nb - 1,out.push x,g,k,bc))
def hi1 (a b:Array Keyed) (na nb:Nat) (out:Array Keyed) (g ac bc:Nat):StateT SortSt Sem (ForInStep mF):=do
 ZV g
 let y ← elem' b (nb - 1)
 let r ← vn false y a 0 na (na - 1)
 match r with
 | some i =>
  if na - i > 0 then
   if i == 0 then pure (.done (some (a.extract 0 i++b.extract 0 nb++(out++(a.extract i na).reverse).reverse),i,nb,out++(a.extract i na).reverse,g,na - i,bc))
   else hi2 a b i nb (out++(a.extract i na).reverse) g (na - i) bc
  else hi2 a b na nb out g (na - i) bc
 | none=>pure (.done (some (a.extract 0 na++b.extract 0 nb++out.reverse),na,nb,out,g,ac,bc))
abbrev qj:=Option (Array Keyed)×Nat×Nat×Array Keyed×Nat×Nat
def Ar (a b:Array Keyed) (mg:Nat) (c:qj):StateT SortSt Sem (ForInStep qj):=do
 let y ← elem' b (c.2.2.1 - 1)
 let x ← elem' a (c.2.1 - 1)
 let r ← lt' y x
 match r with
 | some w =>
  if w then do
   let x ← elem' a (c.2.1 - 1)
   if c.2.1 - 1 == 0 then pure (.done (some (a.extract 0 (c.2.1 - 1)++b.extract 0 c.2.2.1++(c.2.2.2.1.push x).reverse),c.2.1 - 1,c.2.2.1,c.2.2.2.1.push x,c.2.2.2.2.1+1,0))
   else if c.2.2.2.2.1+1 ≥ mg then pure (.done (none,c.2.1 - 1,c.2.2.1,c.2.2.2.1.push x,c.2.2.2.2.1+1,0))
   else pure (.yield (none,c.2.1 - 1,c.2.2.1,c.2.2.2.1.push x,c.2.2.2.2.1+1,0))
  else do
   let y ← elem' b (c.2.2.1 - 1)
   if c.2.2.1 - 1 == 1 then pure (.done (some (b.extract 0 (c.2.2.1 - 1)++a.extract 0 c.2.1++(c.2.2.2.1.push y).reverse),c.2.1,c.2.2.1 - 1,c.2.2.2.1.push y,0,c.2.2.2.2.2+1))
   else if c.2.2.2.2.2+1 ≥ mg then pure (.done (none,c.2.1,c.2.2.1 - 1,c.2.2.2.1.push y,0,c.2.2.2.2.2+1))
   else pure (.yield (none,c.2.1,c.2.2.1 - 1,c.2.2.2.1.push y,0,c.2.2.2.2.2+1))
 | none=>pure (.done (some (a.extract 0 c.2.1++b.extract 0 c.2.2.1++c.2.2.2.1.reverse),c.2.1,c.2.2.1,c.2.2.2.1,c.2.2.2.2.1,c.2.2.2.2.2))
abbrev uf:=Option (Array Keyed)×Nat×Nat×Array Keyed×Nat
def Aq (a b:Array Keyed) (c:uf):StateT SortSt Sem (ForInStep uf):=do
 let d ← forIn [0:a.size+b.size] ((none,c.2.1,c.2.2.1,c.2.2.2.1,0,0):qj) (λ_ d=>Ar a b c.2.2.2.2 d)
 match d.1 with
 | some r=>pure (.done (some r,d.2.1,d.2.2.1,d.2.2.2.1,c.2.2.2.2))
 | none=>do
  rule "list.sort.gallop"
  let e ← forIn [0:a.size+b.size] ((none,d.2.1,d.2.2.1,d.2.2.2.1,c.2.2.2.2+1,d.2.2.2.2.1,d.2.2.2.2.2):mF) (λ_ e=>if e.2.2.2.2.1 > 1 then hi1 a b e.2.1 e.2.2.1 e.2.2.2.1 (e.2.2.2.2.1 - 1) e.2.2.2.2.2.1 e.2.2.2.2.2.2 else hi1 a b e.2.1 e.2.2.1 e.2.2.2.1 e.2.2.2.2.1 e.2.2.2.2.2.1 e.2.2.2.2.2.2)
  match e.1 with
  | some r=>pure (.done (some r,e.2.1,e.2.2.1,e.2.2.2.1,e.2.2.2.2.1))
  | none=>do
   ZV (e.2.2.2.2.1+1)
   pure (.yield (none,e.2.1,e.2.2.1,e.2.2.2.1,e.2.2.2.2.1+1))
theorem Vl {M:Model} {A:Around} {E:Value->Shared->Prop} {s:Shared} {Q:Array Keyed->SortSt->Prop} {st:SortSt} (a b:Array Keyed) (h:wpS M A E s (do
 rule "list.sort.merge-hi"
 let x ← elem' a (a.size - 1)
 if a.size - 1 == 0 then pure (a.extract 0 (a.size - 1)++b.extract 0 b.size++#[x].reverse)
 else if b.size == 1 then pure (b.extract 0 b.size++a.extract 0 (a.size - 1)++#[x].reverse)
 else do
  let st ← get
  let c ← forIn [0:a.size+b.size] ((none,a.size - 1,b.size,#[x],gallopOf st):uf) (λ_ c=>Aq a b c)
  match c.1 with
  | some r=>pure r
  | none=>unsupported "internal:list.sort.merge-bound") Q st):wpS M A E s (Ge a b) Q st:=by
 show wpAny M A (Ge a b st) _ E s
 wp_delta
 wp_delta
 refine ow ?_ h
 dsimp only
 refine aDM λ_=>aDM λx=>?_
 congr 1
 congr 1
 refine aDM λst=>?_
 congr 1
 .congr 1
  funext _ c
  unfold Aq
  congr 1
  .congr 1
   funext _ d
   unfold Ar
   refine aDM λy=>aDM λx=>aDM λr=>?_
   cases r with
   | some w =>
    cases w with
    | true=>rfl
    | false=>rfl
   | none=>rfl
  .funext d
   cases d.1 with
   | some r=>rfl
   | none =>
    dsimp only
    refine aDM λ_=>?_
    congr 1
    .congr 1
     funext _ e
     congr 1
     all_goals
      unfold hi1
      refine aDM λ_=>aDM λy=>aDM λr=>?_
      cases r with
      | none=>rfl
      | some k =>
       dsimp only
       congr 1
       .congr 1
        unfold hi2
        refine aDM λx=>?_
        congr 1
        refine aDM λy=>aDM λr=>?_
        cases r with
        | none=>rfl
        | some k1=>rfl
       .unfold hi2
        refine aDM λx=>?_
        congr 1
        refine aDM λy=>aDM λr=>?_
        cases r with
        | none=>rfl
        | some k1=>rfl
    .funext e
     cases e.1 with
     | some r=>rfl
     | none=>rfl
 .funext c
  cases c.1 with
  | some r=>rfl
  | none=>rfl
section
variable {prog:Program} {w:World} {A:Around} {E:Value->Shared->Prop} {s:Shared} {a₀:Array Keyed} {κ:SortKind} {ρ:az.RR} {a b:Array Keyed}
theorem Fd (h:a.toList.Pairwise (Lk ρ)) {n:Nat} (hn:n<=a.size):dh ρ a 0 (0+n):=by
 intro x y hx hxy hy
 have hy':y<a.size:=by lia
 rw [bf (show x<a.size by lia),bf hy']
 by_cases e:x=y
 .subst e; lia
 .exact bcW.1 h x y (by simpa using (show x<a.size by lia)) (by simpa using hy') (by lia)
theorem Fc {n:Nat} {x:Keyed} (h:x∈a.toList.take n):∃ j,j<n/\∃ hj:j<a.size,x=a[j]:=by
 obtain ⟨j,hj,e⟩:=aIp.1 h
 rw [aJj,aek] at hj
 refine ⟨j,by lia,by lia,?_⟩
 rw [← e,getElem_take,aEu]
theorem Fl {i n:Nat} {x:Keyed} (h:x∈(a.toList.take n).drop i):∃ j,i<=j/\j<n/\∃ hj:j<a.size,x=a[j]:=by
 obtain ⟨j,hj,e⟩:=aIp.1 h
 rw [aGM,aJj,aek] at hj
 refine ⟨i+j,by lia,by lia,by lia,?_⟩
 rw [← e,getElem_drop,getElem_take,aEu]
theorem Cut.xB {left:Bool} {kv:Int} {n k:Nat} (h:Cut ρ left kv a 0 n k) {x:Keyed} (hx:x∈a.toList.take k):ρ.g x<=kv:=by
 obtain ⟨j,hj,hs,rfl⟩:=Fc hx
 have:=h.lo j hj
 unfold Bd at this
 simp only [a3U] at this
 rw [bf hs] at this
 cases left with
 | true=>simp only [at9,acz] at this; lia
 | false=>simp only [a0a,aXX,azS,aOE] at this; lia
theorem Cut.qR {left:Bool} {kv:Int} {n k:Nat} (h:Cut ρ left kv a 0 n k) {x:Keyed} (hx:x∈(a.toList.take n).drop k):kv<=ρ.g x:=by
 obtain ⟨j,hk,hj,hs,rfl⟩:=Fl hx
 have:=h.hi j hk hj
 unfold Bd at this
 simp only [a3U] at this
 rw [bf hs] at this
 cases left with
 | true=>simp only [at9,aOE] at this; lia
 | false=>simp only [a0a,aXX,Bool.not_eq_false',acz] at this; lia
theorem Bx {n:Nat} (hn:0<n) (hs:n<=a.size):(a.toList.take n).drop (n - 1)=[a[n - 1]]:=by
 rw [drop_take,show n - (n - 1)=1 by lia]
 exact yL (by lia)
theorem Be {n:Nat} (hn:0<n) (hs:n<=a.size) (h:a.toList.Pairwise (Lk ρ)) {x:Keyed} (hx:x∈a.toList.take n):ρ.g x<=ρ.g a[n - 1]:=by
 obtain ⟨j,hj,hs2,rfl⟩:=Fc hx
 have:=Fd h hs j (n - 1) (by lia) (by lia) (by lia)
 rw [bf hs2,bf (show n - 1<a.size by lia)] at this
 exact this
theorem MH.first' {out:Array Keyed} {na nb:Nat} (h:MH ρ a.toList b.toList out.toList.reverse na nb) (hl:∀ y∈b.toList.take 1,∀ x∈a.toList,ρ.g y<=ρ.g x) (e:nb=1):Res ρ a.toList b.toList (b.extract 0 nb++a.extract 0 na++out.reverse):=by
 subst e
 exact h.first hl
structure vF (ρ:az.RR) (a₀ a b:Array Keyed):Prop where
 ma:∀ p∈a.toList,p∈a₀.toList
 mb:∀ p∈b.toList,p∈a₀.toList
 sa:a.toList.Pairwise (Lk ρ)
 sb:b.toList.Pairwise (Lk ρ)
 first:∀ y∈b.toList.take 1,∀ x∈a.toList,ρ.g y<=ρ.g x
structure Jh (ρ:az.RR) (a b:Array Keyed) (m na nb:Nat) (out:Array Keyed):Prop where
 M:MH ρ a.toList b.toList out.toList.reverse na nb
 bd:na+nb+m<=a.size+b.size
 la:na<=a.size
 lb:nb<=b.size
 pa:1<=na
 pb:2<=nb
theorem Jh.weak {m m' na nb:Nat} {out:Array Keyed} (h:Jh ρ a b m na nb out) (hm:m'<=m):Jh ρ a b m' na nb out:=⟨h.M,by have:=h.bd; lia,h.la,h.lb,h.pa,h.pb⟩
def MX (ρ:az.RR) (a b:Array Keyed) (m:Nat) (c:mF):Prop:=(∃ r q,c=(some r,q)/\Res ρ a.toList b.toList r)\/∃ na nb out g k k1,c=(none,na,nb,out,g,k,k1)/\Jh ρ a b m na nb out
def HJ (ρ:az.RR) (a b:Array Keyed) (m:Nat) (st:SortSt) (r:ForInStep mF) (st':SortSt):Prop:=Sm st st'/\match r with
 | .done c=>MX ρ a b m c
 | .yield c=>∃ na nb out g k k1,c=(none,na,nb,out,g,k,k1)/\Jh ρ a b m na nb out
theorem MH.iN {out:Array Keyed} {na nb:Nat} (h:MH ρ a.toList b.toList out.toList.reverse na nb) (hn:0<na) (hs:na<=a.size) (hk:∀ x∈b.toList.take nb,ρ.g x<=ρ.g a[na - 1]):MH ρ a.toList b.toList (out.push a[na - 1]).toList.reverse (na - 1) nb:=by
 have:=h.iG (na - 1) (by lia) (by rw [Bx hn hs]; intro t ht x hx; rw [adl.1 ht]; exact hk x hx)
 rw [Bx hn hs] at this
 rw [a77,bab]
 exact this
theorem MH.iM {out:Array Keyed} {na nb:Nat} (h:MH ρ a.toList b.toList out.toList.reverse na nb) (hn:0<nb) (hs:nb<=b.size) (hk:∀ x∈a.toList.take na,ρ.g x<=ρ.g b[nb - 1]):MH ρ a.toList b.toList (out.push b[nb - 1]).toList.reverse na (nb - 1):=by
 have:=h.f9 (nb - 1) (by lia) (by rw [Bx hn hs]; intro t ht x hx; rw [adl.1 ht]; exact hk x hx)
 rw [Bx hn hs] at this
 rw [a77,bab]
 exact this
theorem Kd (out:Array Keyed) (i n:Nat):(out++(a.extract i n).reverse).toList.reverse=(a.toList.take n).drop i++out.toList.reverse:=by
 rw [ake,bab,bav,List.reverse_reverse,uZ]
theorem Kc {gE st:SortSt} {out:Array Keyed} {na nb g k k1 m:Nat} (T:vF ρ a₀ a b) (hS:Sm gE st) (h:Jh ρ a b m na nb out) (hk:∀ x∈b.toList.take nb,ρ.g x<=ρ.g (a[na - 1]'(by have:=h.pa; have:=h.la; lia))):wpS (model prog w) A E s (As a b na nb out g k k1) (HJ ρ a b (m+1) gE) st:=by
 obtain ⟨M,bd,la,lb,pa,pb⟩:=h
 unfold As
 refine aN1 (ZD (show na - 1<a.size by lia) ?_)
 have M2:=M.iN (by lia) la hk
 by_cases e:na - 1=0
 .rw [aHZ (by simpa using e)]
  exact aSE ⟨hS,.inl ⟨_,_,rfl,M2.res (.inl e)⟩⟩
 .rw [bd2 (by simpa using e)]
  have J:Jh ρ a b (m+1) (na - 1) nb (out.push a[na - 1]):=⟨M2,by lia,by lia,lb,by lia,pb⟩
  by_cases c:(decide (k<7) && decide (k1<7))=true
  .rw [aHZ c]
   exact aSE ⟨hS,.inr ⟨_,_,_,_,_,_,rfl,J⟩⟩
  .rw [bd2 c]
   exact aSE ⟨hS,_,_,_,_,_,_,rfl,J⟩
theorem Ka {gE st:SortSt} {out:Array Keyed} {na nb g k bc m:Nat} (h0:az.gM prog w A s κ ρ a₀) (hk:kindOf st=κ) (T:vF ρ a₀ a b) (hS:Sm gE st) (h:Jh ρ a b m na nb out) (hq:∀ x∈a.toList.take na,ρ.g x<=ρ.g (b[nb - 1]'(by have:=h.pb; have:=h.lb; lia))):wpS (model prog w) A E s (hi2 a b na nb out g k bc) (HJ ρ a b (m+1) gE) st:=by
 obtain ⟨M,bd,la,lb,pa,pb⟩:=h
 unfold hi2
 refine aN1 (ZD (show nb - 1<b.size by lia) ?_)
 have M2:=M.iM (by lia) lb hq
 by_cases e:nb - 1=1
 .rw [aHZ (by simpa using e)]
  exact aSE ⟨hS,.inl ⟨_,_,rfl,M2.first' T.first e⟩⟩
 .rw [bd2 (by simpa using e)]
  refine aN1 (ZD (show na - 1<a.size by lia) ?_)
  refine aN1 (vC hk h0 T.mb (T.ma _ (by simp)) (by lia) (by lia) (Fd T.sb (by lia)) (λi C=>?_))
  dsimp only
  have fa:∀ x∈a.toList.take na,ρ.g x<=ρ.g a[na - 1]:=λx hx=>Be (by lia) la T.sa hx
  have ci:=C.le
  have M3:=M2.f9 i (by lia) (λt ht x hx=>aJd (fa x hx) (C.qR ht))
  rw [← Kd] at M3
  have hi:∀ x∈b.toList.take i,ρ.g x<=ρ.g a[na - 1]:=λx hx=>C.xB hx
  by_cases c:nb - 1 - i > 0
  .rw [aHZ c]
   by_cases e2:i=1
   .rw [aHZ (by simpa using e2)]
    exact aSE ⟨hS,.inl ⟨_,_,rfl,M3.first' T.first e2⟩⟩
   .rw [bd2 (by simpa using e2)]
    by_cases e3:i=0
    .rw [aHZ (by simpa using e3)]
     exact aSE ⟨hS,.inl ⟨_,_,rfl,M3.res (.inr e3)⟩⟩
    .rw [bd2 (by simpa using e3)]
     exact Kc T hS ⟨M3,by lia,la,by lia,pa,by lia⟩ hi
  .rw [bd2 c]
   have e3:i=nb - 1:=by lia
   subst e3
   exact Kc T hS ⟨M2,by lia,la,by lia,pa,by lia⟩ hi
theorem RM {gE st:SortSt} {out:Array Keyed} {na nb g ac bc m:Nat} (h0:az.gM prog w A s κ ρ a₀) (hk:kindOf st=κ) (T:vF ρ a₀ a b) (hS:Sm gE st) (h:Jh ρ a b m na nb out):wpS (model prog w) A E s (hi1 a b na nb out g ac bc) (HJ ρ a b (m+1) gE) st:=by
 obtain ⟨M,bd,la,lb,pa,pb⟩:=h
 unfold hi1
 refine aN1 (AU λst1 sW=>?_)
 have hk1:kindOf st1=κ:=sW.1.trans hk
 have mK:=hS.trans sW
 refine aN1 (ZD (show nb - 1<b.size by lia) ?_)
 refine aN1 (vC hk1 h0 T.ma (T.mb _ (by simp)) (by lia) (by lia) (Fd T.sa la) (λi C=>?_))
 dsimp only
 have fb:∀ x∈b.toList.take nb,ρ.g x<=ρ.g b[nb - 1]:=λx hx=>Be (by lia) lb T.sb hx
 have ci:=C.le
 have M3:=M.iG i ci (λt ht x hx=>aJd (fb x hx) (C.qR ht))
 rw [← Kd] at M3
 have hi:∀ x∈a.toList.take i,ρ.g x<=ρ.g b[nb - 1]:=λx hx=>C.xB hx
 by_cases c:na - i > 0
 .rw [aHZ c]
  by_cases e2:i=0
  .rw [aHZ (by simpa using e2)]
   exact aSE ⟨mK,.inl ⟨_,_,rfl,M3.res (.inl e2)⟩⟩
  .rw [bd2 (by simpa using e2)]
   exact Ka h0 hk1 T mK ⟨M3,by lia,by lia,lb,by lia,pb⟩ hi
 .rw [bd2 c]
  have e3:i=na:=by lia
  subst e3
  exact Ka h0 hk1 T mK ⟨M,by lia,la,lb,pa,pb⟩ hi
def MY (ρ:az.RR) (a b:Array Keyed) (m:Nat) (c:qj):Prop:=(∃ r q,c=(some r,q)/\Res ρ a.toList b.toList r)\/∃ na nb out k k1,c=(none,na,nb,out,k,k1)/\Jh ρ a b m na nb out
theorem RL {st:SortSt} {out:Array Keyed} {mg na nb ac bc m:Nat} (h0:az.gM prog w A s κ ρ a₀) (hk:kindOf st=κ) (T:vF ρ a₀ a b) (h:Jh ρ a b m na nb out):wpS (model prog w) A E s (Ar a b mg (none,na,nb,out,ac,bc)) (λr st'=>st'=st/\match r with
  | .done c=>MY ρ a b (m+1) c
  | .yield c=>∃ na nb out k k1,c=(none,na,nb,out,k,k1)/\Jh ρ a b (m+1) na nb out) st:=by
 obtain ⟨M,bd,la,lb,pa,pb⟩:=h
 have fa:∀ x∈a.toList.take na,ρ.g x<=ρ.g a[na - 1]:=λx hx=>Be (by lia) la T.sa hx
 have fb:∀ x∈b.toList.take nb,ρ.g x<=ρ.g b[nb - 1]:=λx hx=>Be (by lia) lb T.sb hx
 have ha:na - 1<a.size:=by lia
 have hb:nb - 1<b.size:=by lia
 unfold Ar
 dsimp only
 refine aN1 (ZD hb (aN1 (ZD ha (aN1 (jC hk h0 (T.mb _ (by simp)) (T.ma _ (by simp)) ?_)))))
 dsimp only
 by_cases c:ρ.g b[nb - 1]<ρ.g a[na - 1]
 .rw [aPy c,aHZ rfl]
  refine aN1 (ZD ha ?_)
  have M2:=M.iN (by lia) la (λx hx=>by have:=fb x hx; lia)
  by_cases e:na - 1=0
  .rw [aHZ (by simpa using e)]
   exact aSE ⟨rfl,.inl ⟨_,_,rfl,M2.res (.inl e)⟩⟩
  .rw [bd2 (by simpa using e)]
   have J:Jh ρ a b (m+1) (na - 1) nb (out.push a[na - 1]):=⟨M2,by lia,by lia,lb,by lia,pb⟩
   by_cases c2:ac+1 ≥ mg
   .rw [aHZ c2]
    exact aSE ⟨rfl,.inr ⟨_,_,_,_,_,rfl,J⟩⟩
   .rw [bd2 c2]
    exact aSE ⟨rfl,_,_,_,_,_,rfl,J⟩
 .rw [aXf c,bd2 (by simp)]
  refine aN1 (ZD hb ?_)
  have M2:=M.iM (by lia) lb (λx hx=>by have:=fa x hx; lia)
  by_cases e:nb - 1=1
  .rw [aHZ (by simpa using e)]
   exact aSE ⟨rfl,.inl ⟨_,_,rfl,M2.first' T.first e⟩⟩
  .rw [bd2 (by simpa using e)]
   have J:Jh ρ a b (m+1) na (nb - 1) (out.push b[nb - 1]):=⟨M2,by lia,la,by lia,pa,by lia⟩
   by_cases c2:bc+1 ≥ mg
   .rw [aHZ c2]
    exact aSE ⟨rfl,.inr ⟨_,_,_,_,_,rfl,J⟩⟩
   .rw [bd2 c2]
    exact aSE ⟨rfl,_,_,_,_,_,rfl,J⟩
theorem RK {st:SortSt} {out:Array Keyed} {na nb g m:Nat} (h0:az.gM prog w A s κ ρ a₀) (hk:kindOf st=κ) (T:vF ρ a₀ a b) (h:Jh ρ a b m na nb out):wpS (model prog w) A E s (Aq a b (none,na,nb,out,g)) (λr st'=>Sm st st'/\match r with
  | .done c=>∃ r q,c=(some r,q)/\Res ρ a.toList b.toList r
  | .yield c=>∃ na nb out g,c=(none,na,nb,out,g)/\Jh ρ a b (m+1) na nb out) st:=by
 have pos:0<a.size+b.size:=by have:=h.la; have:=h.pa; lia
 unfold Aq
 dsimp only
 refine aN1 (a5T (a7j (I:=λx c st2=>st2=st/\∃ na nb out k k1,c=(none,na,nb,out,k,k1)/\Jh ρ a b (m+x) na nb out) (Q:=λc st2=>st2=st/\MY ρ a b (m+1) c) ?turn ?last ?first) ?after)
 case first=>exact ⟨rfl,_,_,_,_,_,rfl,h⟩
 case last =>
  rintro c st2 ⟨rfl,na,nb,out,k,k1,rfl,J⟩
  exact ⟨rfl,.inr ⟨_,_,_,_,_,rfl,J.weak (by lia)⟩⟩
 case turn =>
  rintro x c st2 _ hx ⟨rfl,na,nb,out,k,k1,rfl,J⟩
  refine a5T (RL h0 hk T J) ?_
  rintro r st3 ⟨rfl,hr⟩
  cases r with
  | done c =>
   refine ⟨rfl,?_⟩
   rcases hr with hr | ⟨na,nb,out,k,k1,rfl,J⟩
   .exact .inl hr
   .exact .inr ⟨_,_,_,_,_,rfl,J.weak (by lia)⟩
  | yield c=>exact ⟨rfl,hr⟩
 case after =>
  rintro c st2 ⟨rfl,hc⟩
  rcases hc with ⟨r,q,rfl,R⟩ | ⟨na,nb,out,k,k1,rfl,J⟩
  .exact aSE ⟨Sm.refl _,_,_,rfl,R⟩
  .dsimp only
   refine aN1 (wpS_lift (ai2 ⟨rfl,?_⟩))
   refine aN1 (a5T (a7j (I:=λx c st3=>Sm st2 st3/\∃ na nb out g k k1,c=(none,na,nb,out,g,k,k1)/\Jh ρ a b (m+x) na nb out) (Q:=λc st3=>Sm st2 st3/\MX ρ a b (m+1) c) ?jturn ?jlast ?jfirst) ?jafter)
   case jfirst=>exact ⟨Sm.refl _,_,_,_,_,_,_,rfl,J.weak (by lia)⟩
   case jlast =>
    rintro c st3 ⟨hS,na,nb,out,g,k,k1,rfl,J⟩
    exact ⟨hS,.inr ⟨_,_,_,_,_,_,rfl,J.weak (by lia)⟩⟩
   case jturn =>
    rintro x c st3 _ hx ⟨hS,na,nb,out,g,k,k1,rfl,J⟩
    have Ef:kindOf st3=κ:=hS.1.trans hk
    dsimp only
    rw [show (if g > 1 then hi1 a b na nb out (g - 1) k k1 else hi1 a b na nb out g k k1)=hi1 a b na nb out (if g > 1 then g - 1 else g) k k1 by split <;> rfl]
    refine a5T (RM h0 Ef T hS J) ?_
    rintro r cB ⟨nZ,hr⟩
    cases r with
    | done c =>
     refine ⟨nZ,?_⟩
     rcases hr with hr | ⟨na,nb,out,g,k,k1,rfl,J⟩
     .exact .inl hr
     .exact .inr ⟨_,_,_,_,_,_,rfl,J.weak (by lia)⟩
    | yield c=>exact ⟨nZ,hr⟩
   case jafter =>
    rintro c st3 ⟨hS,hc⟩
    rcases hc with ⟨r,q,rfl,R⟩ | ⟨na,nb,out,g,k,k1,rfl,J⟩
    .exact aSE ⟨hS,_,_,rfl,R⟩
    .refine aN1 (AU λcB nZ=>aSE ⟨hS.trans nZ,_,_,_,_,rfl,J⟩)
theorem Vk {st:SortSt} {Q:Array Keyed->SortSt->Prop} (h0:az.gM prog w A s κ ρ a₀) (hk:kindOf st=κ) (T:vF ρ a₀ a b) (ha:0<a.size) (hb:0<b.size) (hf:∀ x∈b.toList,ρ.g x<=ρ.g a[a.size - 1])
  (h:∀ r st',Sm st st'->Res ρ a.toList b.toList r->Q r st'):wpS (model prog w) A E s (Ge a b) Q st:=by
 refine Vl _ _ ?_
 refine aN1 (wpS_lift (ai2 ⟨rfl,?_⟩))
 refine aN1 (ZD (show a.size - 1<a.size by lia) ?_)
 have ta:a.toList.take a.size=a.toList:=ahx (by simp)
 have tb:b.toList.take b.size=b.toList:=ahx (by simp)
 have M0:MH ρ a.toList b.toList (#[]:Array Keyed).toList.reverse a.size b.size:=⟨by rw [ta,tb]; simp,by rw [ta]; simpa using T.sa,by rw [tb]; simpa using T.sb⟩
 have M1:MH ρ a.toList b.toList (#[a[a.size - 1]]:Array Keyed).toList.reverse (a.size - 1) b.size:=M0.iN ha (avG _) (λx hx=>hf x (by rw [tb] at hx; exact hx))
 by_cases e1:a.size - 1=0
 .rw [aHZ (by simpa using e1)]
  exact aSE (h _ _ (Sm.refl _) (M1.res (.inl e1)))
 .rw [bd2 (by simpa using e1)]
  by_cases e2:b.size=1
  .rw [aHZ (by simpa using e2)]
   exact aSE (h _ _ (Sm.refl _) (M1.first' T.first e2))
  .rw [bd2 (by simpa using e2)]
   refine aN1 (a0Y ?_)
   refine aN1 (a5T (a7j (I:=λx c st2=>Sm st st2/\∃ na nb out g,c=(none,na,nb,out,g)/\Jh ρ a b (x+1) na nb out) (Q:=λc st2=>Sm st st2/\∃ r q,c=(some r,q)/\Res ρ a.toList b.toList r) ?turn ?last ?first) ?after)
   case first=>exact ⟨Sm.refl _,_,_,_,_,rfl,M1,by lia,by lia,by lia,by lia,by lia⟩
   case last =>
    rintro c st2 ⟨_,na,nb,out,g,rfl,J⟩
    have:=J.bd
    have:=J.pa
    lia
   case turn =>
    rintro x c st2 _ hx ⟨hS,na,nb,out,g,rfl,J⟩
    refine a5T (RK h0 (hS.1.trans hk) T J) ?_
    rintro r st3 ⟨sV,hr⟩
    cases r with
    | done c=>exact ⟨hS.trans sV,hr⟩
    | yield c=>exact ⟨hS.trans sV,hr⟩
   case after =>
    rintro c st2 ⟨hS,r,q,rfl,R⟩
    exact aSE (h r st2 hS R)
end
end L2.qf
set_option maxHeartbeats 400000
namespace L2.qf
open PySem PySem.Spec PyProof.Rows
def Gd:Nat->StateT SortSt Sem Bool:=sortPriv% PySem.Builtin.mergeAt
def layAt (arr:Array Keyed) (at_:Nat) (l:List Keyed) (k:Nat):Array Keyed:=(l.zipIdx k).foldl (λa (p,j)=>a.setIfInBounds (at_+j) p) arr
theorem Bl (arr:Array Keyed) (at_:Nat) (l:List Keyed) (k i:Nat) (h:at_+k+l.length<=arr.size):(layAt arr at_ l k)[i]?=if at_+k<=i/\i<at_+k+l.length then l[i - (at_+k)]? else arr[i]?:=by
 induction l generalizing arr k with
 | nil=>rw [bd2 (by simp)]; rfl
 | cons x l ih =>
  have e:layAt arr at_ (x :: l) k=layAt (arr.setIfInBounds (at_+k) x) at_ l (k+1):=by
   unfold layAt
   rw [List.zipIdx_cons,List.foldl_cons]
  simp only [aRy] at h ⊢
  rw [e,ih (arr.setIfInBounds (at_+k) x) (k+1) (by simp; lia)]
  by_cases c:at_+k=i
  .subst c
   rw [bd2 (by lia),aHZ (by lia),aGA,Array.getElem?_setIfInBounds_self_of_lt (by lia)]
   rfl
  .by_cases c2:at_+(k+1)<=i/\i<at_+(k+1)+l.length
   .rw [aHZ c2,aHZ (by lia),show i - (at_+k)=(i - (at_+(k+1)))+1 by lia,a3v]
   .rw [bd2 c2,bd2 (by lia),Array.getElem?_setIfInBounds_ne c]
theorem Ww (arr:Array Keyed) (at_:Nat) (l:List Keyed) (h:at_+l.length<=arr.size):(layAt arr at_ l 0).toList=arr.toList.take at_++(l++arr.toList.drop (at_+l.length)):=by
 refine aNj λi=>?_
 rw [a2W,Bl arr at_ l 0 i (by lia),a04]
 have hl:(arr.toList.take at_).length=at_:=by rw [aJj,aek]; lia
 by_cases c1:i<at_
 .rw [bd2 (by lia),aZu (by lia),List.getElem?_take_of_lt c1,a2W]
 .rw [arE (by lia),hl]
  by_cases c2:i<at_+l.length
  .rw [aHZ (by lia),aZu (by lia)]
  .rw [bd2 (by lia),arE (by lia),getElem?_drop,a2W]
   congr 1
   lia
theorem Vj {arr:Array Keyed} {at_ n:Nat} {l:List Keyed} (h:at_+n<=arr.size) (p:l.Perm (arr.extract at_ (at_+n)).toList):(layAt arr at_ l 0).Perm arr:=by
 rw [Fo] at p
 have e:l.length=n:=by rw [p.length_eq,aJj,aGM,aek]; lia
 refine amG.2 ?_
 rw [Ww arr at_ l (by lia),e]
 have d:arr.toList=arr.toList.take at_++((arr.toList.drop at_).take n++arr.toList.drop (at_+n)):=by
  rw [← drop_drop,aGJ,aGJ]
 conv=>rhs; rw [d]
 exact (p.append_right _).append_left _
section
variable {prog:Program} {w:World} {A:Around} {E:Value->Shared->Prop} {s:Shared} {a₀:Array Keyed} {κ:SortKind} {ρ:az.RR}
theorem pw_ex {arr:Array Keyed} {i j:Nat} (hj:j<=arr.size) (h:dh ρ arr i j):(arr.extract i j).toList.Pairwise (Lk ρ):=by
 refine bcW.2 λx y hx hy hxy=>?_
 simp only [aek,Array.size_extract] at hx hy
 have:=h (i+x) (i+y) (by lia) (by lia) (by lia)
 rw [bf (show i+x<arr.size by lia),bf (show i+y<arr.size by lia)] at this
 simpa [Lk] using this
theorem J9 {arr:Array Keyed} {i j:Nat} {x:Keyed} (h:x∈(arr.extract i j).toList):∃ k,i<=k/\k<j/\k<arr.size/\ρ.g x=az.Kg ρ arr k/\x∈arr.toList:=by
 rw [uZ] at h
 obtain ⟨k,h1,h2,h3,rfl⟩:=Fl h
 exact ⟨k,h1,h2,h3,(bf h3).symm,by simp⟩
theorem Fb {arr:Array Keyed} {at_:Nat} {l:List Keyed} (h:at_+l.length<=arr.size) {i:Nat} (h1:at_<=i) (h2:i<at_+l.length):az.Kg ρ (layAt arr at_ l 0) i=ρ.g (l[i - at_]'(by lia)):=by
 have:=Bl arr at_ l 0 i (by lia)
 rw [aHZ (by lia),a04,a8w (by lia)] at this
 unfold az.Kg
 rw [this]
 rfl
theorem uY {arr:Array Keyed} {at_:Nat} {l:List Keyed} (h:at_+l.length<=arr.size) {i:Nat} (h1:i<at_\/at_+l.length<=i):az.Kg ρ (layAt arr at_ l 0) i=az.Kg ρ arr i:=by
 have:=Bl arr at_ l 0 i (by lia)
 rw [bd2 (by lia)] at this
 unfold az.Kg
 rw [this]
end
end L2.qf
set_option maxHeartbeats 1000000
namespace L2.qf
open PySem PySem.Spec PyProof.Rows
section
variable {prog:Program} {w:World} {A:Around} {E:Value->Shared->Prop} {s:Shared} {a₀:Array Keyed} {κ:SortKind} {ρ:az.RR}
theorem SS {arr:Array Keyed} {u lo hi:Nat} {r:List Keyed} (h:u+r.length<=arr.size) (hr:r.Pairwise (Lk ρ)) (hne:0<r.length) (hl:dh ρ arr lo u) (hh:dh ρ arr (u+r.length) hi)
  (bl:∀ i,lo<=i->i<u->∀ x∈r,az.Kg ρ arr i<=ρ.g x) (bh:∀ i,u+r.length<=i->i<hi->∀ x∈r,ρ.g x<=az.Kg ρ arr i):dh ρ (layAt arr u r 0) lo hi:=by
 intro i j hi1 hij hj
 by_cases a1:i<u
 .rw [uY h (.inl a1)]
  by_cases b1:j<u
  .rw [uY h (.inl b1)]
   exact hl i j hi1 hij b1
  .by_cases b2:j<u+r.length
   .rw [Fb h (by lia) b2]
    exact bl i hi1 a1 _ (aSd _)
   .rw [uY h (.inr (by lia))]
    exact aJd (bl i hi1 a1 (r[0]'hne) (aSd _)) (bh j (by lia) hj _ (aSd _))
 .by_cases a2:i<u+r.length
  .rw [Fb h (by lia) a2]
   by_cases b2:j<u+r.length
   .rw [Fb h (by lia) b2]
    by_cases e:i=j
    .subst e; exact aB0 _
    .exact bcW.1 hr (i - u) (j - u) (by lia) (by lia) (by lia)
   .rw [uY h (.inr (by lia))]
    exact bh j (by lia) hj _ (aSd _)
  .rw [uY h (.inr (by lia)),uY h (.inr (by lia))]
   exact hh i j (by lia) hij hj
theorem Cut.su {left:Bool} {kv:Int} {arr:Array Keyed} {base n k:Nat} (h:Cut ρ left kv arr base n k) {i:Nat} (h1:base<=i) (h2:i<base+k):az.Kg ρ arr i<=kv:=by
 have:=h.lo (i - base) (by lia)
 unfold Bd at this
 rw [show base+(i - base)=i by lia] at this
 cases left with
 | true=>simp only [at9,acz] at this; lia
 | false=>simp only [a0a,aXX,azS,aOE] at this; lia
theorem Cut.nX {left:Bool} {kv:Int} {arr:Array Keyed} {base n k:Nat} (h:Cut ρ left kv arr base n k) {i:Nat} (h1:base+k<=i) (h2:i<base+n):kv<=az.Kg ρ arr i:=by
 have:=h.hi (i - base) (by lia) (by lia)
 unfold Bd at this
 rw [show base+(i - base)=i by lia] at this
 cases left with
 | true=>simp only [at9,aOE] at this; lia
 | false=>simp only [a0a,aXX,Bool.not_eq_false',acz] at this; lia
theorem SQ {st st':SortSt} {Q:PUnit->SortSt->Prop} (h:Q ⟨⟩ st'):wpS (model prog w) A E s (set st') Q st:=afH (f:=λ_=>st') h
theorem Vi {st:SortSt} {i sa na p sb nb q:Nat} {Q:Bool->SortSt->Prop} (h0:az.gM prog w A s κ ρ a₀) (hk:kindOf st=κ) (ha:∀ x∈(arrOf st).toList,x∈a₀.toList) (hfl:failedOf st=none)
  (e1:(pendingOf st)[i]?=some (sa,na,p)) (e2:(pendingOf st)[i+1]?=some (sb,nb,q)) (Al:sb=sa+na) (pa:0<na) (pb:0<nb) (hsz:sb+nb<=(arrOf st).size) (s1:dh ρ (arrOf st) sa (sa+na)) (s2:dh ρ (arrOf st) sb (sb+nb))
  (h:∀ st',kindOf st'=κ->failedOf st'=none->(arrOf st').Perm (arrOf st)->pendingOf st'=((pendingOf st).setIfInBounds i (sa,na+nb,p)).eraseIdxIfInBounds (i+1)->dh ρ (arrOf st') sa (sb+nb) ->
   (∀ j,j<sa\/sb+nb<=j->(arrOf st')[j]?=(arrOf st)[j]?)->Q true st'):wpS (model prog w) A E s (Gd i) Q st:=by
 show wpAny (model prog w) A (Gd i st) _ E s
 wp_delta
 wp_delta
 refine ow rfl ?_
 refine aN1 (a0Y ?_)
 rw [e1,e2]
 refine aN1 (SQ (st':=SortSt.mk' (kindOf st) (arrOf st) (((pendingOf st).setIfInBounds i (sa,na+nb,p)).eraseIdxIfInBounds (i+1)) (gallopOf st) (failedOf st)) ?_)
 generalize pR:SortSt.mk' (kindOf st) (arrOf st) (((pendingOf st).setIfInBounds i (sa,na+nb,p)).eraseIdxIfInBounds (i+1)) (gallopOf st) (failedOf st)=st1
 have k1:kindOf st1=κ:=by rw [← pR]; exact hk
 have f1:failedOf st1=none:=by rw [← pR]; exact hfl
 have a1:arrOf st1=arrOf st:=by rw [← pR]
 have p1:pendingOf st1=((pendingOf st).setIfInBounds i (sa,na+nb,p)).eraseIdxIfInBounds (i+1):=by rw [← pR]
 have hb0:sb<(arrOf st).size:=by lia
 refine aN1 (ZD hb0 ?_)
 refine aN1 (vC k1 h0 ha (ha _ (by simp)) (show sa+na<=(arrOf st).size by lia) pa s1 (λk C1=>?_))
 have c1:=C1.le
 rw [← bf hb0] at C1
 dsimp only
 have whole:(∀ x y,sa<=x->x<sb->sb<=y->y<sb+nb->az.Kg ρ (arrOf st) x<=az.Kg ρ (arrOf st) y)->dh ρ (arrOf st) sa (sb+nb):=λhc x y hx hxy hy=>by
  by_cases u:y<sb
  .exact s1 x y hx hxy (by lia)
  .by_cases v:x<sb
   .exact hc x y hx v (by lia) hy
   .exact s2 x y (by lia) hxy hy
 by_cases z:na - k=0
 .rw [aHZ (by simpa using z)]
  refine aSE (h st1 k1 f1 (by rw [a1]) p1 ?_ (λj _=>by rw [a1]))
  rw [a1]
  refine whole λx y hx xO hy DZ=>?_
  exact aJd (C1.su hx (by lia)) (s2 sb y (avG _) hy DZ)
 .rw [bd2 (by simpa using z)]
  have sP:sa+k+(na - k) - 1<(arrOf st).size:=by lia
  refine aN1 (ZD sP ?_)
  refine aN1 (vC k1 h0 ha (ha _ (by simp)) (show sb+nb<=(arrOf st).size by lia) (by lia) s2 (λn2 C2=>?_))
  have c2:=C2.le
  rw [← bf sP,show sa+k+(na - k) - 1=sb - 1 by lia] at C2
  dsimp only
  by_cases z2:n2=0
  .rw [aHZ (by simpa using z2)]
   refine aSE (h st1 k1 f1 (by rw [a1]) p1 ?_ (λj _=>by rw [a1]))
   rw [a1]
   refine whole λx y hx xO hy DZ=>?_
   exact aJd (s1 x (sb - 1) hx (by lia) (by lia)) (C2.nX (by lia) DZ)
  .rw [bd2 (by simpa using z2)]
   have c3:=Nat.pos_of_ne_zero z2
   have mX:∀ x∈((arrOf st).extract (sa+k) sb).toList,∃ j,sa+k<=j/\j<sb/\j<(arrOf st).size/\ρ.g x=az.Kg ρ (arrOf st) j/\x∈(arrOf st).toList:=λx hx=>J9 hx
   have mY:∀ x∈((arrOf st).extract sb (sb+n2)).toList,∃ j,sb<=j/\j<sb+n2/\j<(arrOf st).size/\ρ.g x=az.Kg ρ (arrOf st) j/\x∈(arrOf st).toList:=λx hx=>J9 hx
   have sX:((arrOf st).extract (sa+k) sb).toList.Pairwise (Lk ρ):=pw_ex (by lia) (λx y p q r=>s1 x y (by lia) q (by lia))
   have sY:((arrOf st).extract sb (sb+n2)).toList.Pairwise (Lk ρ):=pw_ex (by lia) (λx y p q r=>s2 x y (by lia) q (by lia))
   have zX:((arrOf st).extract (sa+k) sb).size=na - k:=by rw [Array.size_extract]; lia
   have zY:((arrOf st).extract sb (sb+n2)).size=n2:=by rw [Array.size_extract]; lia
   have low:∀ x∈((arrOf st).extract (sa+k) sb).toList,az.Kg ρ (arrOf st) sb<=ρ.g x:=λx hx=>by
    obtain ⟨j,j1,j2,j3,e,_⟩:=mX x hx
    rw [e]
    exact C1.nX j1 (by lia)
   have high:∀ x∈((arrOf st).extract sb (sb+n2)).toList,ρ.g x<=az.Kg ρ (arrOf st) (sb - 1):=λx hx=>by
    obtain ⟨j,j1,j2,j3,e,_⟩:=mY x hx
    rw [e]
    exact C2.su j1 j2
   have fin:∀ r st',Sm st1 st'->Res ρ ((arrOf st).extract (sa+k) sb).toList ((arrOf st).extract sb (sb+n2)).toList r->wpS (model prog w) A E s (do
     modify λs=>SortSt.mk' (kindOf s) (layAt (arrOf s) (sa+k) r.toList 0) (pendingOf s) (gallopOf s) (failedOf s)
     return (failedOf (← get)).isNone) Q st':=by
    rintro r st' ⟨sW,mK,sV,nZ⟩ ⟨rp,rs⟩
    refine aN1 (afH (aN1 (a0Y (aSE ?_))))
    have ex:((arrOf st).extract (sa+k) sb).toList++((arrOf st).extract sb (sb+n2)).toList=((arrOf st).extract (sa+k) (sa+k+(na - k+n2))).toList:=by
     rw [uZ,uZ,uZ,drop_take,drop_take,drop_take]
     rw [show sb - (sa+k)=na - k by lia,show sb+n2 - sb=n2 by lia,show sa+k+(na - k+n2) - (sa+k)=(na - k)+n2 by lia,List.take_add,drop_drop,show sa+k+(na - k)=sb by lia]
    have len:r.toList.length=na - k+n2:=by rw [rp.length_eq,aIt,aek,aek,zX,zY]
    have xG:∀ x∈r.toList,az.Kg ρ (arrOf st) sb<=ρ.g x/\ρ.g x<=az.Kg ρ (arrOf st) (sb - 1):=λx hx=>by
     rcases bbY.1 (rp.mem_iff.1 hx) with hx | hx
     .obtain ⟨j,j1,j2,j3,e,_⟩:=mX x hx
      exact ⟨low x hx,by rw [e]; exact s1 j (sb - 1) (by lia) (by lia) (by lia)⟩
     .obtain ⟨j,j1,j2,j3,e,_⟩:=mY x hx
      exact ⟨by rw [e]; exact s2 sb j (avG _) j1 (by lia),high x hx⟩
    have Py:failedOf st'=none:=nZ.trans f1
    show Q (failedOf st').isNone _
    rw [Py]
    refine h _ (sW.trans k1) rfl ?_ (sV.trans p1) ?_ ?_
    .show (layAt (arrOf st') (sa+k) r.toList 0).Perm (arrOf st)
     rw [mK,a1]
     exact Vj (n:=na - k+n2) (by lia) (by rw [← ex]; exact rp)
    .show dh ρ (layAt (arrOf st') (sa+k) r.toList 0) sa (sb+nb)
     rw [mK,a1]
     refine SS (by lia) rs (by lia) (λx y p q r=>s1 x y p q (by lia)) (λx y p q r=>s2 x y (by lia) q r) (λi i1 i2 x hx=>?_) (λi i1 i2 x hx=>?_)
     .exact aJd (C1.su i1 (by lia)) (xG x hx).1
     .exact aJd (xG x hx).2 (C2.nX (by lia) i2)
    .intro j hj
     show (layAt (arrOf st') (sa+k) r.toList 0)[j]?=_
     rw [mK,a1,Bl _ _ _ _ _ (by lia),bd2 (by lia)]
   by_cases c:na - k<=n2
   .rw [aHZ c]
    refine aN1 (Vm h0 k1 ⟨λx hx=>?_,λx hx=>?_,sX,sY,λy hy x hx=>?_⟩ (show 0<((arrOf st).extract (sa+k) sb).size by lia) (show 0<((arrOf st).extract sb (sb+n2)).size by lia) (λx hx=>?_) (λr st' hS R=>fin r st' hS R))
    .obtain ⟨_,_,_,_,_,m⟩:=mX x hx; exact ha x m
    .obtain ⟨_,_,_,_,_,m⟩:=mY x hx; exact ha x m
    .rw [zX,uZ,drop_drop] at hx
     obtain ⟨j,j1,j2,j3,rfl⟩:=Fl hx
     have ej:j=sb - 1:=by lia
     subst ej
     rw [← bf j3]
     exact high y hy
    .rw [awg,← bf]
     exact low x hx
   .rw [bd2 c]
    refine aN1 (Vk h0 k1 ⟨λx hx=>?_,λx hx=>?_,sX,sY,λy hy x hx=>?_⟩ (show 0<((arrOf st).extract (sa+k) sb).size by lia) (show 0<((arrOf st).extract sb (sb+n2)).size by lia) (λx hx=>?_) (λr st' hS R=>fin r st' hS R))
    .obtain ⟨_,_,_,_,_,m⟩:=mX x hx; exact ha x m
    .obtain ⟨_,_,_,_,_,m⟩:=mY x hx; exact ha x m
    .obtain ⟨j,j1,j2,rfl⟩:=Fc hy
     rw [awg,← bf,show sb+j=sb by lia]
     exact low x hx
    .rw [awg,← bf]
     have:=high x hx
     rw [show sa+k+(((arrOf st).extract (sa+k) sb).size - 1)=sb - 1 by lia]
     exact this
end
structure GP (κ:SortKind) (a₀:Array Keyed) (P:Array (Nat×Nat×Nat)) (st:SortSt):Prop where
 perm:(arrOf st).Perm a₀
 kn:kindOf st=κ
 failed:failedOf st=none
 pend:pendingOf st=P
section
variable {prog:Program} {w:World} {A:Around} {E:Value->Shared->Prop} {s:Shared} {a₀:Array Keyed} {κ:SortKind} {ρ:az.RR} {P:Array (Nat×Nat×Nat)}
theorem GP.size {st:SortSt} (h:GP κ a₀ P st):(arrOf st).size=a₀.size:=h.perm.size_eq
theorem GP.setArr {st:SortSt} {xs:Array Keyed} (h:GP κ a₀ P st) (hp:xs.Perm (arrOf st)):GP κ a₀ P (setArr st xs):=⟨hp.trans h.perm,h.kn,h.failed,h.pend⟩
theorem GP.mem {st:SortSt} (h:GP κ a₀ P st):∀ x∈(arrOf st).toList,x∈a₀.toList:=λx hx=>(amG.mp h.perm).mem_iff.mp hx
theorem yF {st:SortSt} {i j:Nat} {Q:Option Bool->SortSt->Prop} (hB:GP κ a₀ P st) (h0:az.gM prog w A s κ ρ a₀) (hi:i<a₀.size) (hj:j<a₀.size)
  (h:Q (some (decide (az.Kg ρ (arrOf st) i<az.Kg ρ (arrOf st) j))) st):wpS (model prog w) A E s (ltAt' i j) Q st:=by
 have hi':i<(arrOf st).size:=by rw [hB.size]; exact hi
 have hj':j<(arrOf st).size:=by rw [hB.size]; exact hj
 rw [bf hi',bf hj'] at h
 rw [ltAt'_eq]
 refine aN1 (a0Y ?_)
 refine aN1 (ZD hi' (aN1 (ZD hj' ?_)))
 exact jC hB.kn h0 (hB.mem _ (by simp)) (hB.mem _ (by simp)) h
theorem SO {st:SortSt} {lo n ok:Nat} {Q:Bool->SortSt->Prop} (h0:az.gM prog w A s κ ρ a₀) (hn:lo+n<=a₀.size) (hok:ok<=n) (Qj:1<=ok) (hB:GP κ a₀ P st) (hs:dh ρ (arrOf st) lo (lo+ok))
  (h:∀ st',GP κ a₀ P st'->dh ρ (arrOf st') lo (lo+n)->(∀ j,j<lo\/lo+n<=j->(arrOf st')[j]?=(arrOf st)[j]?)->Q true st'):wpS (model prog w) A E s (binarySort' lo n ok) Q st:=by
 rw [binarySort'_eq]
 refine aN1 (a5T (a7j (I:=λk c st1=>c=(none,())/\GP κ a₀ P st1/\dh ρ (arrOf st1) lo (lo+min k n)/\∀ j,j<lo\/lo+n<=j->(arrOf st1)[j]?=(arrOf st)[j]?)
  (Q:=λc st1=>c=(none,())/\GP κ a₀ P st1/\dh ρ (arrOf st1) lo (lo+n)/\∀ j,j<lo\/lo+n<=j->(arrOf st1)[j]?=(arrOf st)[j]?) ?turn ?last ?first) ?after)
 case after =>
  rintro c st1 ⟨rfl,b1,i1,o1⟩
  exact aSE (h st1 b1 i1 o1)
 case first =>
  rw [show min (max ok 1) n=ok by lia]
  exact ⟨rfl,hB,hs,λ_ _=>rfl⟩
 case last =>
  rintro c st1 ⟨hc,b1,i1,o1⟩
  rw [show min (max (max ok 1) n) n=n by lia] at i1
  exact ⟨hc,b1,i1,o1⟩
 case turn =>
  rintro k c st1 Qa hkn ⟨rfl,b1,i1,o1⟩
  rw [show min k n=k by lia] at i1
  have hk:lo+k<a₀.size:=by lia
  have sz:=b1.size
  refine aN1 (a5T (a7j (I:=λx c st2=>st2=st1/\∃ l r,c=(none,l,r)/\l<=r/\r<=k/\r - l<=k - x/\(∀ i,i<l->az.Kg ρ (arrOf st1) (lo+i)<=az.Kg ρ (arrOf st1) (lo+k))/\(∀ i,r<=i->i<k->az.Kg ρ (arrOf st1) (lo+k)<=az.Kg ρ (arrOf st1) (lo+i)))
   (Q:=λc st2=>st2=st1/\∃ l r,c=(none,l,r)/\l<=k/\(∀ i,i<l->az.Kg ρ (arrOf st1) (lo+i)<=az.Kg ρ (arrOf st1) (lo+k))/\(∀ i,l<=i->i<k->az.Kg ρ (arrOf st1) (lo+k)<=az.Kg ρ (arrOf st1) (lo+i))) ?iturn ?ilast ?ifirst) ?iafter)
  case ifirst=>exact ⟨rfl,0,k,rfl,by lia,by lia,by lia,λi hi=>absurd hi (by lia),λi p q=>absurd q (by lia)⟩
  case ilast =>
   rintro c st2 ⟨rfl,l,r,rfl,hlr,hrk,hm,u1,u2⟩
   have e:l=r:=by lia
   subst e
   exact ⟨rfl,l,l,rfl,hrk,u1,u2⟩
  case iturn =>
   rintro x c st2 _ hxk ⟨rfl,l,r,rfl,hlr,hrk,hm,u1,u2⟩
   dsimp only
   by_cases hge:l ≥ r
   .rw [aHZ hge]
    have e:l=r:=by lia
    subst e
    exact aSE ⟨rfl,l,l,rfl,hrk,u1,u2⟩
   .rw [bd2 hge]
    refine aN1 (yF b1 h0 hk (by lia) ?_)
    by_cases c:az.Kg ρ (arrOf st2) (lo+k)<az.Kg ρ (arrOf st2) (lo+(l+r) / 2)
    .simp only [c,az2,at9]
     refine aSE ⟨rfl,l,(l+r) / 2,rfl,by lia,by lia,by lia,u1,λi p q=>?_⟩
     have:=i1 (lo+(l+r) / 2) (lo+i) (by lia) (by lia) (by lia)
     lia
    .simp only [c,aAi,a0a,aXX]
     refine aSE ⟨rfl,(l+r) / 2+1,r,rfl,by lia,by lia,by lia,λi p=>?_,u2⟩
     have:=i1 (lo+i) (lo+(l+r) / 2) (by lia) (by lia) (by lia)
     lia
  case iafter =>
   rintro c st2 ⟨rfl,l,r,rfl,hlk,u1,u2⟩
   show wpS _ _ _ _ (do moveDown' (lo+k) (lo+l); pure (ForInStep.yield (none,()))) _ _
   rw [moveDown'_eq]
   have hks:lo+k<(arrOf st2).size:=by lia
   refine aN1 (afH (aSE ⟨rfl,b1.setArr (bubble_perm _ _ _),?_,?_⟩))
   .rw [show min (k+1) n=k+1 by lia]
    intro i j hi hij hj
    show az.Kg ρ (bubble (arrOf st2) (lo+k) (lo+k - (lo+l))) i<=az.Kg ρ (bubble (arrOf st2) (lo+k) (lo+k - (lo+l))) j
    rw [az.iT hks (by lia),az.iT hks (by lia),show lo+k - (lo+k - (lo+l))=lo+l by lia]
    have U1:∀ i,lo<=i->i<lo+l->az.Kg ρ (arrOf st2) i<=az.Kg ρ (arrOf st2) (lo+k):=λi p q=>by
     have:=u1 (i - lo) (by lia)
     rw [show lo+(i - lo)=i by lia] at this
     exact this
    have U2:∀ i,lo+l<=i->i<lo+k->az.Kg ρ (arrOf st2) (lo+k)<=az.Kg ρ (arrOf st2) i:=λi p q=>by
     have:=u2 (i - lo) (by lia) (by lia)
     rw [show lo+(i - lo)=i by lia] at this
     exact this
    by_cases a1:i=lo+l
    .rw [aHZ a1]
     by_cases b2:j=lo+l
     .rw [aHZ b2]; exact aB0 _
     .rw [bd2 b2,aHZ (by lia)]
      exact U2 _ (by lia) (by lia)
    .rw [bd2 a1]
     by_cases a2:j=lo+l
     .rw [aHZ a2,bd2 (by lia)]
      exact U1 _ (by lia) (by lia)
     .rw [bd2 a2]
      by_cases a3:lo+l<i/\i<=lo+k
      .rw [aHZ a3,aHZ (by lia)]
       exact i1 _ _ (by lia) (by lia) (by lia)
      .rw [bd2 a3]
       by_cases a4:lo+l<j/\j<=lo+k
       .rw [aHZ a4]
        exact i1 _ _ (by lia) (by lia) (by lia)
       .rw [bd2 a4]
        exact i1 _ _ (by lia) (by lia) (by lia)
   .intro j hj
    show (bubble (arrOf st2) (lo+k) (lo+k - (lo+l)))[j]?=_
    rw [getElem?_bubble hks _ (by lia),bd2 (by lia),bd2 (by lia)]
    exact o1 j hj
end
abbrev AS:=Option (Option Nat)×Nat
abbrev DS:=Option (Option Nat)×Nat×Nat
def oE (lo a nrem:Nat):StateT SortSt Sem AS:=forIn [a:nrem] ((none,a):AS) λ_ c=>do
 let x ← ltAt' (lo+c.2) (lo+c.2 - 1)
 match x with
 | some y=>if y=true then pure (.done (none,c.2)) else pure (.yield (none,c.2+1))
 | _=>pure (.done (some none,c.2))
def jn (lo n nrem:Nat):StateT SortSt Sem (Option Nat):=do
 reverseSlice' lo (lo+n)
 let c ← oE lo n nrem
 match c.1 with
 | some r=>pure r
 | none=>pure (some c.2)
def kY (lo n nrem:Nat):StateT SortSt Sem DS:=forIn [n:nrem] ((none,n,0):DS) λ_ c=>do
 let x ← ltAt' (lo+c.2.1) (lo+c.2.1 - 1)
 match x with
 | some y=>if y=true then (if c.2.2 > 0 then (do
    reverseSlice' (lo+c.2.1 - (c.2.2+1)) (lo+c.2.1)
    pure (.yield (none,c.2.1+1,0))) else pure (.yield (none,c.2.1+1,0))) else (do
   let x ← ltAt' (lo+c.2.1 - 1) (lo+c.2.1)
   match x with
   | some z=>if z=true then pure (.done (none,c.2.1,c.2.2)) else pure (.yield (none,c.2.1+1,c.2.2+1))
   | _=>pure (.done (some none,c.2.1,c.2.2)))
 | _=>pure (.done (some none,c.2.1,c.2.2))
def jy (lo n nrem:Nat):StateT SortSt Sem (Option Nat):=do
 liftM (rule "list.sort.descending-run")
 let c ← kY lo (n+1) nrem
 match c.1 with
 | some r=>pure r
 | none=>if c.2.2 > 0 then (do
   reverseSlice' (lo+c.2.1 - (c.2.2+1)) (lo+c.2.1)
   jn lo c.2.1 nrem) else jn lo c.2.1 nrem
theorem Vb (lo nrem:Nat):countRun' lo nrem=(do
  let c ← oE lo 1 nrem
  match c.1 with
  | some r=>pure r
  | none=>if (c.2 == nrem)=true then pure (some c.2) else if c.2 > 1 then (do
    let x ← ltAt' lo (lo+c.2 - 1)
    match x with
    | some y=>if y=true then pure (some c.2) else (do
      reverseSlice' lo (lo+c.2)
      jy lo c.2 nrem)
    | _=>pure none) else jy lo c.2 nrem):=by
 rw [countRun'_eq]
 unfold jy jn kY oE
 have tl:∀ {f g:AS->StateT SortSt Sem (Option Nat)} {m:StateT SortSt Sem AS},(∀ r n,f (r,n)=g (r,n))->(m >>= f)=(m >>= g):=λh=>arH _ (funext λ⟨r,n⟩=>h r n)
 have td:∀ {f g:DS->StateT SortSt Sem (Option Nat)} {m:StateT SortSt Sem DS},(∀ r n q,f (r,n,q)=g (r,n,q))->(m >>= f)=(m >>= g):=λh=>arH _ (funext λ⟨r,n,q⟩=>h r n q)
 have bc:∀ {α:Type} {f g:α->StateT SortSt Sem (Option Nat)} {m:StateT SortSt Sem α},(∀ x,f x=g x)->(m >>= f)=(m >>= g):=λh=>arH _ (funext h)
 refine tl λr n=>?_
 cases r with
 | some r=>rfl
 | none =>
  dsimp only
  split
  .rfl
  .split
   .refine bc λx=>?_
    cases x with
    | none=>rfl
    | some y =>
     dsimp only
     split
     .rfl
     .refine bc λ_=>bc λ_=>td λr n q=>?_
      cases r with
      | some r=>rfl
      | none =>
       dsimp only
       split
       .exact bc λ_=>bc λ_=>tl λr n=>by cases r <;> rfl
       .exact bc λ_=>tl λr n=>by cases r <;> rfl
   .refine bc λ_=>td λr n q=>?_
    cases r with
    | some r=>rfl
    | none =>
     dsimp only
     split
     .exact bc λ_=>bc λ_=>tl λr n=>by cases r <;> rfl
     .exact bc λ_=>tl λr n=>by cases r <;> rfl
section
variable {prog:Program} {w:World} {A:Around} {E:Value->Shared->Prop} {s:Shared} {a₀:Array Keyed} {κ:SortKind} {ρ:az.RR} {P:Array (Nat×Nat×Nat)}
def Out (lo n:Nat) (xs ys:Array Keyed):Prop:=∀ j,j<lo\/lo+n<=j->ys[j]?=xs[j]?
theorem BQ {xs:Array Keyed} {lo n i j:Nat} (hj:j<=xs.size) (h1:lo<=i) (h2:j<=lo+n):Out lo n xs (mirror xs i j ((j - i) / 2)):=λk hk=>by
 rw [getElem?_mirror_all hj,bd2 (by lia)]
theorem Le {st:SortSt} {lo a nrem:Nat} {Q:AS->SortSt->Prop} (h0:az.gM prog w A s κ ρ a₀) (hn:lo+nrem<=a₀.size) (ha:1<=a) (han:a<=nrem) (hB:GP κ a₀ P st) (hs:dh ρ (arrOf st) lo (lo+a))
  (h:∀ n,a<=n->n<=nrem->dh ρ (arrOf st) lo (lo+n)->(n=nrem\/az.Kg ρ (arrOf st) (lo+n)<az.Kg ρ (arrOf st) (lo+n - 1))->Q (none,n) st):wpS (model prog w) A E s (oE lo a nrem) Q st:=by
 unfold oE
 refine a7j (I:=λx c st1=>st1=st/\c=(none,x)/\dh ρ (arrOf st) lo (lo+x)) ?turn ?last ⟨rfl,rfl,hs⟩
 case last =>
  rintro c st1 ⟨rfl,rfl,i1⟩
  rw [show max a nrem=nrem by lia] at i1 ⊢
  exact h nrem han (avG _) i1 (.inl rfl)
 case turn =>
  rintro x c st1 hax hxn ⟨rfl,rfl,i1⟩
  dsimp only
  refine aN1 (yF hB h0 (by lia) (by lia) ?_)
  by_cases c:az.Kg ρ (arrOf st1) (lo+x)<az.Kg ρ (arrOf st1) (lo+x - 1)
  .simp only [c,az2,at9]
   exact aSE (h x hax (by lia) i1 (.inr c))
  .simp only [c,aAi,a0a,aXX]
   refine aSE ⟨rfl,rfl,λi j hi hij hj=>?_⟩
   by_cases hjx:j<lo+x
   .exact i1 i j hi hij hjx
   .have ej:j=lo+x:=by lia
    subst ej
    by_cases e:i=lo+x
    .subst e; exact aB0 _
    .have:=i1 i (lo+x - 1) hi (by lia) (by lia)
     lia
structure DX (ρ:az.RR) (xs:Array Keyed) (lo x q:Nat):Prop where
 l:q+1<=x
 d:∀ i j,lo<=i->i<=j->j<lo+x->az.Kg ρ xs j<=az.Kg ρ xs i
 e:∀ i,lo+x - (q+1)<=i->i<lo+x->az.Kg ρ xs i=az.Kg ρ xs (lo+x - 1)
theorem DX.rev {xs:Array Keyed} {lo x q:Nat} (h:DX ρ xs lo x q) (hz:lo+x<=xs.size):DX ρ (mirror xs (lo+x - (q+1)) (lo+x) ((lo+x - (lo+x - (q+1))) / 2)) lo x 0:=by
 have ke:=az.bN (ρ:=ρ) (i:=lo+x - (q+1)) hz h.e
 have:=h.l
 refine ⟨by lia,λi j h1 h2 h3=>?_,λi h1 h2=>?_⟩
 .rw [ke,ke]; exact h.d i j h1 h2 h3
 .have e:i=lo+x - 1:=by lia
  rw [e]
theorem DX.zero {xs:Array Keyed} {lo x q:Nat} (h:DX ρ xs lo x q):DX ρ xs lo x 0:=⟨by have:=h.l; lia,h.d,λi h1 h2=>by rw [show i=lo+x - 1 by have:=h.l; lia]⟩
theorem DX.less {xs:Array Keyed} {lo x:Nat} (h:DX ρ xs lo x 0) (k:az.Kg ρ xs (lo+x)<az.Kg ρ xs (lo+x - 1)):DX ρ xs lo (x+1) 0:=by
 have:=h.l
 refine ⟨by lia,λi j h1 h2 h3=>?_,λi h1 h2=>by rw [show i=lo+(x+1) - 1 by lia]⟩
 by_cases c:j<lo+x
 .exact h.d i j h1 h2 c
 .have ej:j=lo+x:=by lia
  subst ej
  by_cases e:i=lo+x
  .subst e; exact aB0 _
  .have:=h.d i (lo+x - 1) h1 (by lia) (by lia)
   lia
theorem DX.more {xs:Array Keyed} {lo x q:Nat} (h:DX ρ xs lo x q) (k:az.Kg ρ xs (lo+x)=az.Kg ρ xs (lo+x - 1)):DX ρ xs lo (x+1) (q+1):=by
 have:=h.l
 refine ⟨by lia,λi j h1 h2 h3=>?_,λi h1 h2=>?_⟩
 .by_cases c:j<lo+x
  .exact h.d i j h1 h2 c
  .have ej:j=lo+x:=by lia
   subst ej
   by_cases e:i=lo+x
   .subst e; exact aB0 _
   .have:=h.d i (lo+x - 1) h1 (by lia) (by lia)
    lia
 .rw [show lo+(x+1) - 1=lo+x by lia]
  by_cases c:i<lo+x
  .rw [k]; exact h.e i (by lia) c
  .rw [show i=lo+x by lia]
theorem Uh {st:SortSt} {lo n nrem:Nat} {Q:DS->SortSt->Prop} (h0:az.gM prog w A s κ ρ a₀) (hn:lo+nrem<=a₀.size) (hnn:n<=nrem) (hB:GP κ a₀ P st) (hs:DX ρ (arrOf st) lo n 0)
  (h:∀ m q st',GP κ a₀ P st'->m<=nrem->DX ρ (arrOf st') lo m q->Out lo nrem (arrOf st) (arrOf st')->Q (none,m,q) st'):wpS (model prog w) A E s (kY lo n nrem) Q st:=by
 unfold kY
 refine a7j (I:=λx c st1=>∃ q,c=(none,x,q)/\GP κ a₀ P st1/\DX ρ (arrOf st1) lo x q/\Out lo nrem (arrOf st) (arrOf st1)) ?turn ?last ⟨0,rfl,hB,hs,λ_ _=>rfl⟩
 case last =>
  rintro c st1 ⟨q,rfl,b1,d1,o1⟩
  rw [show max n nrem=nrem by lia] at d1 ⊢
  exact h nrem q st1 b1 (avG _) d1 o1
 case turn =>
  rintro x c st1 hax hxn ⟨q,rfl,b1,d1,o1⟩
  dsimp only
  have sz:=b1.size
  have hl:=d1.l
  refine aN1 (yF b1 h0 (by lia) (by lia) ?_)
  by_cases c:az.Kg ρ (arrOf st1) (lo+x)<az.Kg ρ (arrOf st1) (lo+x - 1)
  .simp only [c,az2,at9]
   by_cases hq:q > 0
   .rw [aHZ hq]
    have ke:=az.bN (ρ:=ρ) (i:=lo+x - (q+1)) (by lia:lo+x<=(arrOf st1).size) d1.e
    refine aN1 (ap2 (aSE ⟨0,rfl,b1.setArr (aBr _ _ _ _),(d1.rev (by lia)).less ?_,λk hk=>(BQ (by lia) (by lia) (by lia) k hk).trans (o1 k hk)⟩))
    rw [ke,ke]; exact c
   .rw [bd2 hq]
    have e:q=0:=by lia
    subst e
    exact aSE ⟨0,rfl,b1,d1.less c,o1⟩
  .simp only [c,aAi,a0a,aXX]
   refine aN1 (yF b1 h0 (by lia) (by lia) ?_)
   by_cases c2:az.Kg ρ (arrOf st1) (lo+x - 1)<az.Kg ρ (arrOf st1) (lo+x)
   .simp only [c2,az2,at9]
    exact aSE (h x q st1 b1 (by lia) d1 o1)
   .simp only [c2,aAi,a0a,aXX]
    exact aSE ⟨q+1,rfl,b1,d1.more (by lia),o1⟩
theorem L6 {st gE:SortSt} {lo n nrem:Nat} {Q:Option Nat->SortSt->Prop} (h0:az.gM prog w A s κ ρ a₀) (hn:lo+nrem<=a₀.size) (h1:1<=n) (hnn:n<=nrem) (hB:GP κ a₀ P st) (hs:DX ρ (arrOf st) lo n 0) (ho:Out lo nrem (arrOf gE) (arrOf st))
  (h:∀ m st',GP κ a₀ P st'->1<=m->m<=nrem->dh ρ (arrOf st') lo (lo+m)->Out lo nrem (arrOf gE) (arrOf st')->Q (some m) st'):wpS (model prog w) A E s (jn lo n nrem) Q st:=by
 unfold jn
 have sz:=hB.size
 refine aN1 (ap2 ?_)
 have b1:GP κ a₀ P (setArr st (mirror (arrOf st) lo (lo+n) ((lo+n - lo) / 2))):=hB.setArr (aBr _ _ _ _)
 refine aN1 (Le h0 hn h1 hnn b1 ?_ λm m1 m2 i2 _=>aSE (h m _ b1 (by lia) m2 i2 λk hk=>(BQ (by lia) (by lia) (by lia) k hk).trans (ho k hk)))
 intro i j hi hij hj
 show az.Kg ρ (mirror (arrOf st) lo (lo+n) ((lo+n - lo) / 2)) i<=az.Kg ρ (mirror (arrOf st) lo (lo+n) ((lo+n - lo) / 2)) j
 rw [az.fZ (by lia),az.fZ (by lia),aHZ (by lia),aHZ (by lia)]
 exact hs.d _ _ (by lia) (by lia) (by lia)
theorem L5 {st gE:SortSt} {lo n nrem:Nat} {Q:Option Nat->SortSt->Prop} (h0:az.gM prog w A s κ ρ a₀) (hn:lo+nrem<=a₀.size) (hnn:n+1<=nrem) (hB:GP κ a₀ P st) (hs:DX ρ (arrOf st) lo (n+1) 0) (ho:Out lo nrem (arrOf gE) (arrOf st))
  (h:∀ m st',GP κ a₀ P st'->1<=m->m<=nrem->dh ρ (arrOf st') lo (lo+m)->Out lo nrem (arrOf gE) (arrOf st')->Q (some m) st'):wpS (model prog w) A E s (jy lo n nrem) Q st:=by
 unfold jy
 refine aN1 (wpS_lift (ai2 ⟨rfl,?_⟩))
 refine aN1 (Uh h0 hn hnn hB hs λm q st1 b1 m2 d1 o1=>?_)
 dsimp only
 have hl:=d1.l
 have sz:=b1.size
 by_cases hq:q > 0
 .rw [aHZ hq]
  exact aN1 (ap2 (L6 h0 hn (by lia) m2 (b1.setArr (aBr _ _ _ _)) (d1.rev (by lia)) (λk hk=>((BQ (by lia) (by lia) (by lia) k hk).trans (o1 k hk)).trans (ho k hk)) h))
 .rw [bd2 hq]
  exact L6 h0 hn (by lia) m2 b1 d1.zero (λk hk=>(o1 k hk).trans (ho k hk)) h
theorem Va {st:SortSt} {lo nrem:Nat} {Q:Option Nat->SortSt->Prop} (h0:az.gM prog w A s κ ρ a₀) (hn:lo+nrem<=a₀.size) (h1:1<=nrem) (hB:GP κ a₀ P st)
  (h:∀ m st',GP κ a₀ P st'->1<=m->m<=nrem->dh ρ (arrOf st') lo (lo+m)->Out lo nrem (arrOf st) (arrOf st')->Q (some m) st'):wpS (model prog w) A E s (countRun' lo nrem) Q st:=by
 rw [Vb]
 have sz:=hB.size
 refine aN1 (Le h0 hn (avG 1) h1 hB (λi j hi hij hj=>by rw [show i=j by lia]; exact aB0 _) λn n1 n2 i1 hor=>?_)
 dsimp only
 by_cases e:n=nrem
 .rw [aHZ (by simpa using e)]
  exact aSE (h n st hB n1 n2 i1 λ_ _=>rfl)
 .rw [bd2 (by simpa using e)]
  have lt:az.Kg ρ (arrOf st) (lo+n)<az.Kg ρ (arrOf st) (lo+n - 1):=hor.resolve_left e
  by_cases g:n > 1
  .rw [aHZ g]
   refine aN1 (yF hB h0 (by lia) (by lia) ?_)
   by_cases c:az.Kg ρ (arrOf st) lo<az.Kg ρ (arrOf st) (lo+n - 1)
   .simp only [c,az2,at9]
    exact aSE (h n st hB n1 n2 i1 λ_ _=>rfl)
   .simp only [c,aAi,a0a,aXX]
    have all:∀ k,lo<=k->k<lo+n->az.Kg ρ (arrOf st) k=az.Kg ρ (arrOf st) (lo+n - 1):=λk h1 h2=>by
     have a1:=i1 lo k (avG _) h1 h2
     have a2:=i1 k (lo+n - 1) h1 (by lia) (by lia)
     lia
    have ke:=az.bN (ρ:=ρ) (xs:=arrOf st) (i:=lo) (j:=lo+n) (by lia) all
    have dx:DX ρ (mirror (arrOf st) lo (lo+n) ((lo+n - lo) / 2)) lo n 0:=⟨by lia,λi j h1 h2 h3=>by rw [ke,ke,all i h1 (by lia),all j (by lia) h3]; exact aB0 _,λi h1 h2=>by rw [show i=lo+n - 1 by lia]⟩
    exact aN1 (ap2 (L5 (gE:=st) h0 hn (by lia) (hB.setArr (aBr _ _ _ _)) (dx.less (by rw [ke,ke]; exact lt)) (BQ (by lia) (by lia) (by lia)) h))
  .rw [bd2 g]
   have en:n=1:=by lia
   subst en
   exact L5 (gE:=st) h0 hn (by lia) hB (DX.less ⟨by lia,λi j h1 h2 h3=>by rw [show i=j by lia]; exact aB0 _,λi h1 h2=>by rw [show i=lo+1 - 1 by lia]⟩ lt) (λ_ _=>rfl) h
end
abbrev Rn:=Nat×Nat×Nat
def fM:List Rn->Nat->Nat->Prop
 | [],a,b=>a=b
 | t :: r,a,b=>t.1=a/\0<t.2.1/\fM r (a+t.2.1) b
theorem dD:∀ {l m:List Rn} {a b:Nat},fM (l++m) a b↔∃ c,fM l a c/\fM m c b
 | [],m,a,b=>⟨λh=>⟨a,rfl,h⟩,λ⟨c,h1,h2⟩=>by rw [show a=c from h1]; exact h2⟩
 | t :: r,m,a,b=>by
  constructor
  .rintro ⟨h1,h2,h3⟩
   obtain ⟨c,h4,h5⟩:=dD.mp h3
   exact ⟨c,⟨h1,h2,h4⟩,h5⟩
  .rintro ⟨c,⟨h1,h2,h4⟩,h5⟩
   exact ⟨h1,h2,dD.mpr ⟨c,h4,h5⟩⟩
theorem Bw:∀ {l:List Rn} {a b:Nat},fM l a b->l.length+a<=b
 | [],a,b,h=>by rw [show a=b from h]; show 0+b<=b; lia
 | t :: r,a,b,⟨_,h2,h3⟩=>by
  have:=Bw h3
  rw [aRy]
  lia
theorem Bc:∀ {l:List Rn} {a b:Nat},fM l a b->∀ t∈l,a<=t.1/\t.1+t.2.1<=b
 | [],a,b,h,t,ht=>nomatch ht
 | u :: r,a,b,⟨h1,h2,h3⟩,t,ht=>by
  have l:=Bw h3
  rcases aDl.mp ht with e | ht
  .subst e; lia
  .have:=Bc h3 t ht
   lia
theorem J8:∀ {l:List Rn} {i:Nat} {x y:Rn},l[i]?=some x->l[i+1]?=some y->l=l.take i++x :: y :: l.drop (i+2)
 | [],i,x,y,h,_=>by simp at h
 | [a],0,x,y,h,h2=>by simp at h2
 | a :: b :: r,0,x,y,h,h2=>by
  simp only [List.getElem?_cons_zero,a3v,Option.some.injEq] at h h2
  subst h h2; rfl
 | a :: r,i+1,x,y,h,h2=>by
  have:=J8 (l:=r) (i:=i) (x:=x) (y:=y) (by simpa using h) (by simpa using h2)
  show a :: r=a :: (r.take i++x :: y :: r.drop (i+2))
  rw [← this]
theorem U9 (l m:List Rn) (x y v:Rn):((l++x :: y :: m).set l.length v).eraseIdx (l.length+1)=l++v :: m:=by
 induction l with
 | nil=>rfl
 | cons a r ih=>show a :: ((r++x :: y :: m).set r.length v).eraseIdx (r.length+1)=a :: (r++v :: m); rw [ih]
section
variable {prog:Program} {w:World} {A:Around} {E:Value->Shared->Prop} {s:Shared} {a₀:Array Keyed} {κ:SortKind} {ρ:az.RR} {P:Array Rn}
theorem yD {xs ys:Array Keyed} {a b:Nat} (h:dh ρ xs a b) (e:∀ j,a<=j->j<b->ys[j]?=xs[j]?):dh ρ ys a b:=λi j h1 h2 h3=>by
 rw [az.bX (e i h1 (by lia)),az.bX (e j (by lia) h3)]
 exact h i j h1 h2 h3
structure RI (κ:SortKind) (a₀:Array Keyed) (ρ:az.RR) (lo:Nat) (st:SortSt):Prop where
 perm:(arrOf st).Perm a₀
 kn:kindOf st=κ
 failed:failedOf st=none
 tile:fM (pendingOf st).toList 0 lo
 uv:∀ t∈(pendingOf st).toList,dh ρ (arrOf st) t.1 (t.1+t.2.1)
theorem RI.gp {lo:Nat} {st:SortSt} (h:RI κ a₀ ρ lo st):GP κ a₀ (pendingOf st) st:=⟨h.perm,h.kn,h.failed,rfl⟩
theorem RI.out {lo n:Nat} {st st':SortSt} (h:RI κ a₀ ρ lo st) (g:GP κ a₀ (pendingOf st) st') (o:Out lo n (arrOf st) (arrOf st')):RI κ a₀ ρ lo st' :=
 ⟨g.perm,g.kn,g.failed,by rw [g.pend]; exact h.tile,λt ht=>by
  rw [g.pend] at ht
  have:=Bc h.tile t ht
  exact yD (h.uv t ht) λj h1 h2=>o j (.inl (by lia))⟩
theorem RI.merge {lo i:Nat} {x y:Rn} {st:SortSt} {Q:Bool->SortSt->Prop} (h0:az.gM prog w A s κ ρ a₀) (h:RI κ a₀ ρ lo st) (hlo:lo<=a₀.size) (e1:(pendingOf st)[i]?=some x) (e2:(pendingOf st)[i+1]?=some y)
  (k:∀ st',RI κ a₀ ρ lo st'->(pendingOf st').size+1=(pendingOf st).size->(∀ j,lo<=j->(arrOf st')[j]?=(arrOf st)[j]?)->Q true st'):wpS (model prog w) A E s (Gd i) Q st:=by
 obtain ⟨sa,na,p⟩:=x
 obtain ⟨sb,nb,q⟩:=y
 have el:=J8 (l:=(pendingOf st).toList) (i:=i) (by rw [a2W]; exact e1) (by rw [a2W]; exact e2)
 have hi:i<(pendingOf st).toList.length:=by
  rw [aek]
  exact (Array.getElem?_eq_some_iff.mp e1).1
 have hti:((pendingOf st).toList.take i).length=i:=by rw [aJj]; lia
 have ht:=h.tile
 have hs:=h.uv
 have hsz:(pendingOf st).size=(pendingOf st).toList.length:=aek.symm
 have hnew:(((pendingOf st).setIfInBounds i (sa,na+nb,p)).eraseIdxIfInBounds (i+1)).toList=(pendingOf st).toList.take i++(sa,na+nb,p) :: (pendingOf st).toList.drop (i+2):=by
  rw [Array.toList_eraseIdxIfInBounds,Array.toList_setIfInBounds]
  conv=>lhs; rw [el]
  have:=U9 ((pendingOf st).toList.take i) ((pendingOf st).toList.drop (i+2)) (sa,na,p) (sb,nb,q) (sa,na+nb,p)
  rw [hti] at this
  exact this
 generalize (pendingOf st).toList.take i=l at *
 generalize (pendingOf st).toList.drop (i+2)=m at *
 rw [el] at ht hs hsz
 obtain ⟨c,t1,t2,t3,t4,t5,t6⟩:=dD.mp ht
 have t2:sa=c:=t2
 have t3:0<na:=t3
 have t4:sb=c+na:=t4
 have t5:0<nb:=t5
 have t6:fM m (c+na+nb) lo:=t6
 have l6:=Bw t6
 refine Vi h0 h.kn h.gp.mem h.failed e1 e2 (by lia) t3 t5 (by rw [h.gp.size]; lia) (hs (sa,na,p) (by simp)) (hs (sb,nb,q) (by simp)) λst' k1 f1 p1 pe s1 o1=>?_
 refine k st' ⟨p1.trans h.perm,k1,f1,?_,?_⟩ ?_ λj hj=>o1 j (.inr (by lia))
 .rw [pe,hnew]
  exact dD.mpr ⟨c,t1,t2,by show 0<na+nb; lia,by show fM m (c+(na+nb)) lo; rw [← Nat.add_assoc]; exact t6⟩
 .rw [pe,hnew]
  intro t ht
  rcases bbY.mp ht with ht | ht
  .have:=Bc t1 t ht
   exact yD (hs t (a3r _ ht)) λj h1 h2=>o1 j (.inl (by lia))
  .rcases aDl.mp ht with ht | ht
   .subst ht
    show dh ρ (arrOf st') sa (sa+(na+nb))
    rw [show sa+(na+nb)=sb+nb by lia]
    exact s1
   .have:=Bc t6 t ht
    exact yD (hs t (aaD _ (akt _ (akt _ ht)))) λj h1 h2=>o1 j (.inr (by lia))
 .have z:(pendingOf st').size=(pendingOf st').toList.length:=aek.symm
  rw [z,pe,hnew,hsz,aIt,aIt]
  rfl
theorem RI.push {lo n:Nat} {st:SortSt} (h:RI κ a₀ ρ lo st) (hn:0<n) (hs:dh ρ (arrOf st) lo (lo+n)):RI κ a₀ ρ (lo+n) (setPending st ((pendingOf st).push (lo,n,0))):=by
 refine ⟨h.perm,h.kn,h.failed,?_,?_⟩
 .show fM ((pendingOf st).push (lo,n,0)).toList 0 (lo+n)
  rw [a77]
  exact dD.mpr ⟨lo,h.tile,rfl,hn,rfl⟩
 .show ∀ t∈((pendingOf st).push (lo,n,0)).toList,_
  rw [a77]
  intro t ht
  rcases bbY.mp ht with ht | ht
  .exact h.uv t ht
  .rw [adl.mp ht]; exact hs
theorem L4 {f:Rn->Rn} (hf:∀ t,(f t).1=t.1/\(f t).2.1=t.2.1):∀ {l:List Rn} {i a b:Nat},fM l a b->fM (l.modify i f) a b
 | [],i,a,b,h=>by cases i <;> exact h
 | t :: r,0,a,b,⟨h1,h2,h3⟩=>by
  show fM (f t :: r) a b
  exact ⟨(hf t).1.trans h1,by rw [(hf t).2]; exact h2,by rw [(hf t).2]; exact h3⟩
 | t :: r,i+1,a,b,⟨h1,h2,h3⟩=>⟨h1,h2,L4 hf h3⟩
theorem MC {f:Rn->Rn}:∀ {l:List Rn} {i:Nat} {t:Rn},t∈l.modify i f->t∈l\/∃ u∈l,t=f u
 | [],i,t,h=>by cases i <;> exact nomatch h
 | u :: r,0,t,h=>by
  rcases aDl.mp (show t∈f u :: r from h) with e | h
  .exact .inr ⟨u,aTs,e⟩
  .exact .inl (akt _ h)
 | u :: r,i+1,t,h=>by
  rcases aDl.mp (show t∈u :: r.modify i f from h) with e | h
  .exact .inl (e ▸ aTs)
  .rcases MC h with h | ⟨v,hv,e⟩
   .exact .inl (akt _ h)
   .exact .inr ⟨v,akt _ hv,e⟩
theorem RI.pow {lo i:Nat} {st:SortSt} {f:Rn->Rn} (hf:∀ t,(f t).1=t.1/\(f t).2.1=t.2.1) (h:RI κ a₀ ρ lo st):RI κ a₀ ρ lo (setPending st ((pendingOf st).modify i f)):=by
 refine ⟨h.perm,h.kn,h.failed,?_,?_⟩
 .show fM ((pendingOf st).modify i f).toList 0 lo
  rw [Array.toList_modify]
  exact L4 hf h.tile
 .show ∀ t∈((pendingOf st).modify i f).toList,_
  rw [Array.toList_modify]
  intro t ht
  rcases MC ht with ht | ⟨u,hu,e⟩
  .exact h.uv t ht
  .rw [e,(hf u).1,(hf u).2]; exact h.uv u hu
theorem nA {st:SortSt} {Q:Unit->SortSt->Prop} (h0:az.gM prog w A s κ ρ a₀) (hP:(arrOf st).Perm a₀) (hk:kindOf st=κ) (hf:failedOf st=none) (hp:pendingOf st=#[])
  (h:∀ st',(arrOf st').Perm a₀->failedOf st'=none->dh ρ (arrOf st') 0 a₀.size->Q () st'):wpS (model prog w) A E s sortRuns' Q st:=by
 rw [sortRuns'_eq]
 refine aN1 (a0Y ?_)
 dsimp only
 have Qt:(arrOf st).size=a₀.size:=hP.size_eq
 simp only [Qt]
 generalize minRun' a₀.size a₀.size 0=mr
 have r0:RI κ a₀ ρ 0 st:=⟨hP,hk,hf,by rw [hp]; rfl,by rw [hp]; exact λt ht=>nomatch ht⟩
 refine aN1 (a5T (a7j (I:=λx c st1=>∃ lo,c=(none,lo)/\lo<=a₀.size/\(x<=lo\/lo=a₀.size)/\RI κ a₀ ρ lo st1) (Q:=λc st1=>c=(none,a₀.size)/\RI κ a₀ ρ a₀.size st1) ?turn ?last ⟨0,rfl,auX _,.inl (avG _),r0⟩) ?after)
 case last =>
  rintro c st1 ⟨lo,rfl,hlo,hx,r1⟩
  have e:lo=a₀.size:=by lia
  subst e
  exact ⟨rfl,r1⟩
 case turn =>
  rintro x c st1 _ hx ⟨lo,rfl,hlo,XT,r1⟩
  dsimp only
  by_cases g:lo ≥ a₀.size
  .rw [aHZ g]
   have e:lo=a₀.size:=by lia
   subst e
   exact aSE ⟨rfl,r1⟩
  .rw [bd2 g]
   refine aN1 (Va h0 (by lia) (by lia) r1.gp λm st2 b2 m1 m2 s2 o2=>?_)
   dsimp only
   have r2:=r1.out b2 o2
   have fin:∀ {n:Nat} {st3:SortSt},0<n->lo+n<=a₀.size->RI κ a₀ ρ lo st3->dh ρ (arrOf st3) lo (lo+n)->∃ lo',(none,lo+n)=((none,lo'):Option Unit×Nat)/\lo'<=a₀.size/\(x+1<=lo'\/lo'=a₀.size)/\RI κ a₀ ρ lo' (setPending st3 ((pendingOf st3).push (lo,n,0))):=λ{n st3} h1 h2 h3 h4=>⟨lo+n,rfl,h2,by lia,h3.push h1 h4⟩
   by_cases lt:m<mr
   .rw [aHZ lt]
    refine aN1 (wpS_lift (ai2 ⟨rfl,?_⟩))
    refine aN1 (SO h0 (by lia) (by lia) m1 b2 s2 λst3 b3 s3 o3=>?_)
    simp only [aUH,a0a,aXX]
    have r3:=r1.out (n:=a₀.size - lo) b3 λj hj=>(o3 j (by lia)).trans (o2 j hj)
    have hn:0<min (a₀.size - lo) mr:=by lia
    have ji:lo+min (a₀.size - lo) mr<=a₀.size:=by lia
    clear b3 o3 b2 s2 o2 r2 m1 m2 lt
    generalize min (a₀.size - lo) mr=n at *
    refine aN1 (a0Y ?_)
    cases eb:(pendingOf st3).back? with
    | none =>
     dsimp only
     exact aN1 (afH (aSE (fin hn ji r3 s3)))
    | some t =>
     obtain ⟨s1,n1,z⟩:=t
     dsimp only
     generalize power' a₀.size (2 * s1+n1) (2 * s1+n1+n1+n) a₀.size=pw
     refine aN1 (a5T (a7j (I:=λ_ c cB=>c=(none,())/\RI κ a₀ ρ lo cB/\dh ρ (arrOf cB) lo (lo+n)) (Q:=λc cB=>c=(none,())/\RI κ a₀ ρ lo cB/\dh ρ (arrOf cB) lo (lo+n)) ?_ (λ_ _ hh=>hh) ⟨rfl,r3,s3⟩) ?_)
     .rintro y c cB _ _ ⟨rfl,r4,h4⟩
      refine aN1 (a0Y ?_)
      by_cases c2:(pendingOf cB).size > 1
      .have e1:(pendingOf cB)[(pendingOf cB).size - 2]?=some (pendingOf cB)[(pendingOf cB).size - 2]:=afz (by lia)
       have e2:(pendingOf cB)[(pendingOf cB).size - 2+1]?=some (pendingOf cB)[(pendingOf cB).size - 2+1]:=afz (by lia)
       simp only [aHZ c2]
       rw [e1]
       dsimp only
       by_cases c3:(pendingOf cB)[(pendingOf cB).size - 2].2.2<=pw
       .rw [aHZ c3]
        exact aSE ⟨rfl,r4,h4⟩
       .rw [bd2 c3]
        refine aN1 (RI.merge h0 r4 hlo e1 e2 λpF r5 _ o5=>?_)
        simp only [aUH,a0a,aXX]
        exact aSE ⟨rfl,r5,yD h4 λj h1 _=>o5 j h1⟩
      .simp only [bd2 c2]
       exact aSE ⟨rfl,r4,h4⟩
     .rintro c cB ⟨rfl,r4,h4⟩
      dsimp only
      exact aN1 (afH (aN1 (afH (aSE (fin hn ji (r4.pow λ_=>⟨rfl,rfl⟩) h4)))))
   .rw [bd2 lt]
    have hn:0<m:=by lia
    have ji:lo+m<=a₀.size:=by lia
    have r3:=r2
    have s3:=s2
    clear b2 s2 o2 r2 m1 m2 lt
    generalize m=n at *
    generalize st2=st3 at *
    refine aN1 (a0Y ?_)
    cases eb:(pendingOf st3).back? with
    | none =>
     dsimp only
     exact aN1 (afH (aSE (fin hn ji r3 s3)))
    | some t =>
     obtain ⟨s1,n1,z⟩:=t
     dsimp only
     generalize power' a₀.size (2 * s1+n1) (2 * s1+n1+n1+n) a₀.size=pw
     refine aN1 (a5T (a7j (I:=λ_ c cB=>c=(none,())/\RI κ a₀ ρ lo cB/\dh ρ (arrOf cB) lo (lo+n)) (Q:=λc cB=>c=(none,())/\RI κ a₀ ρ lo cB/\dh ρ (arrOf cB) lo (lo+n)) ?_ (λ_ _ hh=>hh) ⟨rfl,r3,s3⟩) ?_)
     .rintro y c cB _ _ ⟨rfl,r4,h4⟩
      refine aN1 (a0Y ?_)
      by_cases c2:(pendingOf cB).size > 1
      .have e1:(pendingOf cB)[(pendingOf cB).size - 2]?=some (pendingOf cB)[(pendingOf cB).size - 2]:=afz (by lia)
       have e2:(pendingOf cB)[(pendingOf cB).size - 2+1]?=some (pendingOf cB)[(pendingOf cB).size - 2+1]:=afz (by lia)
       simp only [aHZ c2]
       rw [e1]
       dsimp only
       by_cases c3:(pendingOf cB)[(pendingOf cB).size - 2].2.2<=pw
       .rw [aHZ c3]
        exact aSE ⟨rfl,r4,h4⟩
       .rw [bd2 c3]
        refine aN1 (RI.merge h0 r4 hlo e1 e2 λpF r5 _ o5=>?_)
        simp only [aUH,a0a,aXX]
        exact aSE ⟨rfl,r5,yD h4 λj h1 _=>o5 j h1⟩
      .simp only [bd2 c2]
       exact aSE ⟨rfl,r4,h4⟩
     .rintro c cB ⟨rfl,r4,h4⟩
      dsimp only
      exact aN1 (afH (aN1 (afH (aSE (fin hn ji (r4.pow λ_=>⟨rfl,rfl⟩) h4)))))
 case after =>
  rintro c st1 ⟨rfl,r1⟩
  dsimp only
  have l1:=Bw r1.tile
  rw [aek] at l1
  refine aN1 (a5T (a7j (I:=λx c st2=>c=(none,())/\RI κ a₀ ρ a₀.size st2/\(pendingOf st2).size+x<=a₀.size+1) (Q:=λc st2=>c=(none,())/\RI κ a₀ ρ a₀.size st2/\(pendingOf st2).size<=1) ?_ ?_ ⟨rfl,r1,by lia⟩) ?_)
  .rintro y c st2 _ _ ⟨rfl,r2,h2⟩
   refine aN1 (a0Y ?_)
   by_cases c1:(pendingOf st2).size<=1
   .rw [aHZ c1]
    exact aSE ⟨rfl,r2,c1⟩
   .rw [bd2 c1]
    obtain ⟨i,hi,hlt⟩:∃ i,(if Option.any (λx=>decide (x<(pendingOf st2)[(pendingOf st2).size - 2+1]?.elim 0 λx=>x.snd.fst)) (if (pendingOf st2).size - 2 > 0 then Option.map (λx=>x.snd.fst) (pendingOf st2)[(pendingOf st2).size - 2 - 1]? else none)=true then (pendingOf st2).size - 2 - 1 else (pendingOf st2).size - 2)=i/\i+1<(pendingOf st2).size:=⟨_,rfl,by generalize Option.any _ _=bb; cases bb <;> simp <;> lia⟩
    rw [hi]
    refine aN1 (RI.merge h0 r2 (avG _) (afz (by lia)) (afz hlt) λpF r5 z5 _=>?_)
    simp only [aUH,a0a,aXX]
    exact aSE ⟨rfl,r5,by lia⟩
  .rintro c st2 ⟨rfl,r2,h2⟩
   exact ⟨rfl,r2,by lia⟩
  .rintro c st2 ⟨rfl,r2,h2⟩
   dsimp only
   refine aSE (h st2 r2.perm r2.failed ?_)
   have ht:=r2.tile
   have hs:=r2.uv
   have z:(pendingOf st2).size=(pendingOf st2).toList.length:=aek.symm
   rw [z] at h2
   generalize (pendingOf st2).toList=l at *
   match l,h2,ht,hs with
   | [],_,ht,_ =>
    have e:0=a₀.size:=ht
    intro i j _ _ hj
    lia
   | [t],_,⟨t1,t2,t3⟩,hs =>
    have e:0+t.2.1=a₀.size:=t3
    have q:=hs t (by simp)
    rw [t1,e] at q
    exact q
   | _ :: _ :: _,h2,_,_=>simp at h2
end
end L2.qf
set_option maxHeartbeats 4000000
namespace L2
open PySem PySem.Spec PyProof.Rows
section
variable {prog:Program} {w:World} {A:Around} {E:Value->Shared->Prop} {s:Shared}
theorem RJ {a:Addr} {us:List Value} {m:Nat} {P:PySem.Fin->Shared->Prop} {κ:SortKind} {ρ:az.RR} (ho:s.heap.get? a=some (seqObj "list" us.toArray m)) (z:us.length<=1000000)
  (hk:2<=us.length->(∀ (E:Value->Shared->Prop) (Q:SortKind->Shared->Prop),Q κ { s with heap:=lI s.heap a us }->wpAny (model prog w) A (keyKind' us.toArray) Q E { s with heap:=lI s.heap a us })/\az.gM prog w A { s with heap:=lI s.heap a us } κ ρ (pairsOf us))
  (g:∀ q:SortSt,(arrOf q).Perm (pairsOf us)->qf.dh ρ (arrOf q) 0 (pairsOf us).size->P (.done (.ret .none)) { s with heap:=sortedHeap s.heap a us ((arrOf q).map (·.2)) }):wpAny (model prog w) A (Builtin.«list.sort» ⟨[.ref a],[]⟩) P E s:=by
 rw [list_sort_plain]
 have al:a<s.heap.objs.size:=aP5 ho
 obtain ⟨c,oc⟩:∃ c,(s.heap.update a (Obj.mapSeq λ_=>#[])).get? a=some (seqObj "list" #[] c):=⟨_,get?_update_seq ho (λ_=>#[])⟩
 have w6:(lI s.heap a us).get? a=some (seqObj "list" #[] c):=aBk _ (aBk _ oc)
 refine aLa (listItems_at ho rfl (aLa (au5 ho rfl (aLa (seqEpoch_at oc rfl (aLa (wpAny_newTuple (aLa (wpAny_newList (am3 ?_)))))))))) <;> try (rw [azY]; first | (rw [aIh]; lia) | lia)
 show wpAny (model prog w) A _ P E { s with heap:=lI s.heap a us }
 dsimp only
 have Xc:us.toArray.size=us.length:=aIh ..
 by_cases few:us.toArray.size<2
 .rw [aHZ few,aHZ few]
  refine aLa (aLj ?_)
  rw [StateT.run_pure]
  refine aLa (aLj (aLa (seqEpoch_at w6 rfl (aLa (au5 w6 rfl ?_ (hsz2:=by rw [Array.size_map]; show (pairsOf us).size<=_; rw [pairsOf_size,azY]; lia))))))
  simp only [bne_self_eq_false,a0a,aXX]
  refine aLj (g (SortSt.mk' general' (us.toArray.zip us.toArray) #[] 7 none) (a2x _) λi j _ hij hj=>?_)
  rw [pairsOf_size] at hj
  rw [show i=j by lia]
  exact aB0 _
 .rw [bd2 few,bd2 few]
  have two:2<=us.length:=by lia
  obtain ⟨k1,k2⟩:=hk two
  refine aLa (k1 _ _ (aLa (a7k (qf.nA (a₀:=pairsOf us) (st:=SortSt.mk' κ (us.toArray.zip us.toArray) #[] 7 none) (Q:=λ_ q=>(arrOf q).Perm (pairsOf us)/\failedOf q=none/\qf.dh ρ (arrOf q) 0 (pairsOf us).size) k2 (a2x _) rfl rfl rfl λq a1 a2 a3=>⟨a1,a2,a3⟩) ?_ λ_ _ e=>e)))
  rintro ⟨⟨⟩,q⟩ t ⟨rfl,hp,hf,hs⟩
  refine aLa (seqEpoch_at w6 rfl (aLa (au5 w6 rfl ?_ (hsz2:=by rw [Array.size_map,hp.size_eq,pairsOf_size,azY]; lia))))
  dsimp only
  rw [hf]
  simp only [bne_self_eq_false,a0a,aXX]
  exact aLj (g q hp hs)
theorem SN {l:Addr} {us:List Value} {Q:Value->Shared->Prop} {κ:SortKind} {ρ:az.RR} (hl:s.heap.IsList l us.toArray) (z:us.length<=1000000)
  (hk:2<=us.length->∀ h':Heap,(∀ b o,s.heap.get? b=some o->h'.get? b=some o)->(∀ (E:Value->Shared->Prop) (Q:SortKind->Shared->Prop),Q κ { s with heap:=h' }->wpAny (model prog w) A.in1.in1 (keyKind' us.toArray) Q E { s with heap:=h' })/\az.gM prog w A.in1.in1 { s with heap:=h' } κ ρ (pairsOf us))
  (g:∀ q:SortSt,(arrOf q).Perm (pairsOf us)->qf.dh ρ (arrOf q) 0 (pairsOf us).size->Q (.ref (s.heap.objs.size+1)) { s with heap:=sortedAll s.heap us ((arrOf q).map (·.2)) }):wpAny (model prog w) A (call (.builtin "sorted") [.ref l]) Q E s:=by
 have zz:us.length<=sizeLine:=by rw [azY]; lia
 refine Calls.call_function_entry kind_sorted plain_sorted entry_sorted (args_sorted1 _) ?_
 unfold Builtin.«sorted»
 refine aLa (m:=checkCount "sorted" 1 1 _) (aLj (aLa (collect_list hl (aLa (wpAny_newList ?_ zz)) zz)))
 have sz:((s.heap.push (seqObj "list" #[] 0)).update s.heap.objs.size (Obj.mapSeq (·++us.toArray))).objs.size=s.heap.objs.size+1:=by rw [Heap.size_update,size_push']
 have oL:(mZ s.heap us).get? (s.heap.objs.size+1)=some (seqObj "list" us.toArray 0):=by unfold mZ; rw [← sz]; exact aJ2 _ rfl
 show wpAny _ _ _ _ _ { s with heap:=mZ s.heap us }
 rw [sz]
 refine aLa (am3 (ab1 slot_list_sort ⟨_,oL,rfl⟩ entry_list_sort (RJ (s:={ s with heap:=mZ s.heap us }) (κ:=κ) oL z (λtwo=>hk two _ λb o e=>Uj (a0P (awZ (aP5 e))) (Ui e)) λq a1 a2=>⟨_,rfl,?_⟩) (args_list_sort _)))
 exact aLj ⟨_,rfl,g q a1 a2⟩
end
theorem RH {α:Type}:∀ {l:List α},2<=l.length->∃ a b r,l=a :: b :: r
 | [],h=>absurd h (Nat.not_succ_le_zero 1)
 | [_],h=>absurd h (aU3 1)
 | a :: b :: r,_=>⟨a,b,r,rfl⟩
def uB:az.RR:=⟨λ_=>0,λp=>match p.1 with | .int n _=>n | _=>0⟩
theorem J7 {xs:Array Keyed} {i:Nat}:az.Kg uB xs i=PyProof.Rows.K xs i:=by
 unfold az.Kg PyProof.Rows.K
 cases xs[i]? with
 | none=>rfl
 | some p=>obtain ⟨v,u⟩:=p; cases v <;> rfl
def Ug (K:W.Frag):List V->Hp->VK->Prop:=λxs H Q=>∃ (p:Addr) (ns:List Int),xs=[.ref p]/\ak K H p (ns.map V.int)/\ns.length<=1000000 /\
 ∀ (D:Addr) (os:List Int),H D=none->os.Perm ns->os.Pairwise (·<=·)->Q (.ref D) (upd H D (.lst (os.map V.int)))
variable {K:W.Frag} {X:Cx}
theorem Wv (hK:X.K=K):aW X (.builtin "sorted") (Ug K):=by
 subst hK
 intro pins s σ H xs us Q I r h
 obtain ⟨p,ns,rfl,hq,hz0,q⟩:=h
 obtain ⟨u,rfl,rx⟩:=vals1 r
 cases rx
 obtain ⟨its,rv,pl,hz⟩:=I.list hq
 have hv:=yZ rv
 have lv:its.length=ns.length:=by have:=rv.length; rw [aH5] at this; exact this.symm
 refine SN (κ:=oneType') (ρ:=uB) pl.isList (by lia) (λtwo h' kp=>⟨λE Q hQ=>?_,λx mx y my E Q hQ=>?_⟩) λst hp hs=>?_
 .obtain ⟨v1,v2,rest,e⟩:=RH two
  rw [e] at hv ⊢
  rw [keyKind_ints hv]
  exact aLj hQ
 .obtain ⟨a,t,ea⟩:=hv.intKeys x mx
  obtain ⟨b,t',eb⟩:=hv.intKeys y my
  rw [ea,eb]
  refine W.kat_lt_int ?_
  have e1:uB.g x=a:=by unfold uB; dsimp only; rw [ea]
  have e2:uB.g y=b:=by unfold uB; dsimp only; rw [eb]
  rw [e1,e2] at hQ
  exact hQ
 .obtain ⟨ns',h1,h2,h3⟩:=sorted_out hv hp (λi j hij hj=>by rw [← J7,← J7]; exact hs i j (auX _) hij hj)
  generalize (arrOf st).map (·.2)=out at *
  obtain ⟨e,he⟩:=sortedAll_at s.heap its out
  have hz2:(ns'.map V.int).length<=sizeLine:=by rw [aH5,h2.length_eq,azY]; lia
  have fr:H (s.heap.objs.size+1)=none:=I.hok.fresh (aa0 _)
  refine ⟨.ref (s.heap.objs.size+1),_,I.laid (a:=s.heap.objs.size+1) (t':=s.toks) (o:=.lst (ns'.map V.int)) (λb o z=>sortedAll_old z) (aa0 _) ⟨hz2,out.toList,e,Gu h1,he⟩,rfl,q _ ns' fr h2 h3⟩
end L2
set_option maxHeartbeats 1000000
namespace L2
open PySem PySem.Spec PyProof.Rows
def zp (d:Addr) (o:Obj) (kvs:List (Key×V)):It :=
 ⟨λi H=>H d=some (.bC o (.dK kvs))/\i<kvs.length,λi H x H'=>H'=H/\∃ k,kvs[i]?=some (k,x),λi H=>H d=some (.bC o (.dK kvs))/\kvs.length<=i⟩
theorem qL:∀ {kvs:List (Key×V)} {vs:List (Key×Value)},KV kvs vs->∀ {i:Nat} {k:Key} {v:Value},vs[i]?=some (k,v)->∃ x,kvs[i]?=some (k,x)/\RelV x v
 | _,_,.nil,i,k,v,h=>by simp at h
 | p :: r,q :: t,.cons a b,0,k,v,h=>by
  have e:q=(k,v):=by simpa using h
  subst e
  obtain ⟨p1,p2⟩:=p
  obtain ⟨h1,h2⟩:=a
  cases h1
  exact ⟨p2,rfl,h2⟩
 | p :: r,q :: t,.cons a b,i+1,k,v,h=>by
  obtain ⟨x,e,rx⟩:=qL b (i:=i) (by simpa using h)
  exact ⟨x,by simpa using e,rx⟩
theorem Vh {P:Program} {w:World} {K:W.Frag} {tg:Expr} (d it:Addr) {o:Obj} {kvs:List (Key×V)} {es:Array DictEntry} {ep:Nat} (he:o.data=.dict es ep):Turn P w K tg (zp d o kvs) [it] it (λi h=>h.IsValIter it d i kvs.length ep) where
 mem:=by simp
 obj:=λi h st b hb=>by
  have e:b=it:=by simpa using hb
  subst e
  obtain ⟨o,e,c,d⟩:=st
  exact ⟨o,e,λv z=>by rw [d] at z; cases z⟩
 keep:=λi h h' ⟨o,ho,x⟩ k=>⟨o,k it (by simp) o ho,x⟩
 item:=by
  intro X hP hw hK hc i pins s σ H E I hf st hg
  subst hP hw hK
  obtain ⟨hd,hi⟩:=hg
  obtain ⟨hs,vs,r,m⟩:=K6 (I.hok d _ hd) he
  have hlen:=r.length
  rw [hlen] at st hi
  obtain ⟨f0,f1,f2,f3,f4,f5⟩:=hf it (by simp)
  obtain ⟨⟨k,v⟩,hx⟩:∃ p,vs[i]?=some p:=⟨vs[i],a8w hi⟩
  refine wpAny_pyNext_values_item st m hx λh' st' sb=>?_
  have I1:Inv X pins σ H { s with heap:=h' }:=I.turned (t':=s.toks) (λb o hb e=>(sb.2 b hb).trans e) f0 f1 f3 f4 f5
  obtain ⟨x,ex,rx⟩:=qL r hx
  refine ⟨v,rfl,letGo_valiter (s':={ s with heap:=h' }) st' ⟨x,H,I1,rx,⟨rfl,k,ex⟩,?_,λb hb=>(hf b hb).1⟩⟩
  show h'.IsValIter it d (i+1) kvs.length ep
  rw [hlen]; exact st'
 done:=by
  intro X hP hw hK hc i pins s σ H E I hf st hg
  subst hP hw hK
  obtain ⟨hd,hi⟩:=hg
  obtain ⟨hs,vs,r,m⟩:=K6 (I.hok d _ hd) he
  have hlen:=r.length
  rw [hlen] at st hi
  obtain ⟨f0,f1,f2,f3,f4,f5⟩:=hf it (by simp)
  exact wpAny_pyNext_values_end (I.ok.hd hc) st m (a5m.mpr hi) λh' eb=>⟨rfl,I.turned (t':=s.toks) (λb o hb e=>eb b o hb e) f0 f1 f3 f4 f5⟩
 self:=λ_ _ _ _ _ st h=>wpAny_pyIter_valiter st h
section
variable {X:Cx} {tg:Expr}
def RG (tl:TE):TI:=λσ H R=>tl σ H λx H1=>∃ d kvs,x=.ref d/\H1 d=some (.dK kvs)/\∀ o,R (zp d o kvs) (upd H1 d (.bC o (.dK kvs)))
theorem Ue {l:Expr} {tl:TE} {apos cpos:Pos} (hl:PE X l tl) (hbase:attributeBase l "values" X.env (eval l X.env)=eval l X.env:=by rfl) (hline:(apos.endLine == cpos.line)=true:=by rfl):PI X tg (.Call (.Attribute l "values" apos) [] [] cpos) (RG tl):=by
 intro pins s σ H R I h
 refine wpAny_Call_method0_late hbase hline (cF (hl pins s σ H _ I h) λv s1 x H1 I1 r1 q1=>?_)
 obtain ⟨d,kvs,e,hd,q⟩:=q1
 subst e
 cases r1
 obtain ⟨t1,t2,_⟩:=AF I1 (.inl ⟨kvs,.inl hd⟩)
 obtain ⟨hz,hs,vs,rv,dd⟩:=I1.hok d _ hd
 obtain ⟨ep,m⟩:=dd.dictAt
 obtain ⟨o,es,ho,hx,he,rest⟩:=id m
 refine ⟨"dict", "dict.values",ajH,PySem.F.slot_dict_values,PySem.F.type_dict_values,t1,t2,ax7 rfl (PySem.evalArgs_none ?_)⟩
 refine call_meetsIn PySem.F.slot_dict_values t1 PySem.F.entry_dict_values (PySem.F.args_dict_values_1 _) (meets_dict_values (ZG X.prog X.w) d hs) ⟨⟨vs,dd⟩,?_⟩
 generalize hh:s1.heap.push { cls:=.type "dict_values",data:=.fields #[.ref d] }=h2
 have up:∀ b o,s1.heap.get? b=some o->h2.get? b=some o:=λb o e=>by rw [← hh]; exact aBk _ e
 have sz:s1.heap.objs.size<=h2.objs.size:=by rw [← hh,aRI]; exact aa0 _
 have hv:h2.IsValuesView s1.heap.objs.size d:=by rw [← hh]; exact ⟨_,aJ2 _ rfl,rfl,rfl⟩
 have I2:Inv X pins σ (upd H1 d (.bC o (.dK kvs))) { s1 with heap:=h2 }:=(I1.frozen hd ho).kept (t':=s1.toks) λb o e=>up b o e
 have m2:h2.DictAt (ZG X.prog X.w) d vs ep:=m.at' λo e=>up d o e
 refine wpAny_pyIter_values (s:={ s1 with heap:=h2 }) hv m2 ?_
 refine ⟨h2.objs.size,[h2.objs.size],_,_,_,rfl,I2.kept (t':=s1.toks) λb o e=>aBk _ e,Vh d _ (kvs:=kvs) he,?_,λb hb=>?_,q o⟩
 .show Heap.IsValIter _ _ d 0 kvs.length ep
  rw [rv.length]
  exact ⟨_,aJ2 _ rfl,rfl,rfl⟩
 .have e:b=h2.objs.size:=by simpa using hb
  subst e
  exact I2.ja (avG _) (I2.hok.fresh (avG _))
end
theorem U8 {d:Addr} {o:Obj} {kvs:List (Key×V)} {g:TG} {tb:TS} {D:Ends} {σ:St} {H:Hp} (Pv:Nat->St->Hp->Prop) (h0:Pv 0 σ H) (hl:∀ i σ H,i<=kvs.length->Pv i σ H->H d=some (.bC o (.dK kvs)))
  (hs:∀ i k v σ H,kvs[i]?=some (k,v)->Pv i σ H->g v σ H λσ2 H2=>tb { D with nx:=Pv (i+1),ct:=Pv (i+1),bk:=D.nx } σ2 H2) (hd:∀ σ H,Pv kvs.length σ H->D.nx σ H) :
  ∃ W:Nat->Nat->St->Hp->Prop,(∃ m,W 0 m σ H)/\∀ i m σ H,W i m σ H ->
   ((zp d o kvs).stop i H/\D.nx σ H)\/((zp d o kvs).go i H/\∃ N:St->Hp->Prop,(∀ σ' H',N σ' H'->∃ m',m'<m/\W (i+1) m' σ' H')/\∀ x H',(zp d o kvs).jN i H x H'->g x σ H' λσ2 H2=>tb { D with nx:=N,ct:=N,bk:=D.nx } σ2 H2):=by
 refine ⟨λi m σ H=>m=kvs.length - i/\i<=kvs.length/\Pv i σ H,⟨kvs.length,by simp,auX _,h0⟩,?_⟩
 rintro i m σ H ⟨rfl,hi,p⟩
 have q:=hl i σ H hi p
 by_cases hlt:i<kvs.length
 .refine .inr ⟨⟨q,hlt⟩,Pv (i+1),λσ' H' z=>⟨kvs.length - (i+1),by lia,rfl,by lia,z⟩,λx H' z=>?_⟩
  obtain ⟨rfl,k,hkv⟩:=z
  exact hs i k x σ _ hkv p
 .have e:i=kvs.length:=by lia
  subst e
  exact .inl ⟨⟨q,avG _⟩,hd σ H p⟩
def RE (td ty tx:TE):TE:=λσ H Q=>td σ H λx H1=>∃ a,x=.ref a/\BX H1 a/\ty σ H1 λy H2=>tx σ H2 λz H3=>∃ kvs k,H3 a=some (.dK kvs)/\y=kV k/\kvs.length<sizeLine /\
 (∀ v,aT kvs k=some v->Q v H3)/\(aT kvs k=none->Q z (upd H3 a (.dK (putK kvs k z))))
section
variable {X:Cx} {o e f:Expr} {apos cpos:Pos} {td ty tx:TE}
theorem Ud (ho:PE X o td) (he:PE X e ty) (hf:PE X f tx) (m:M2 X o "setdefault" apos e f cpos):PE X (.Call (.Attribute o "setdefault" apos) [e,f] [] cpos) (RE td ty tx):=by
 intro pins s σ H Q I h
 refine wpAny_Call_method m.base m.few m.line ajH PySem.F.slot_dict_setdefault PySem.F.type_dict_setdefault (bG (ho pins s σ H _ I h) λu s1 ⟨x,H1,I1,rx,a,ex,d,q1⟩=>?_)
 subst ex
 obtain rfl:u=Value.ref a:=rx
 obtain ⟨t1,t2,_⟩:=AF I1 d
 refine ⟨t1,t2,?_⟩
 rw [m.trees]
 refine ax7 rfl (aDs (aoz (cF (he pins s1 σ H1 _ I1 q1) λiv s2 y H2 I2 ry q2 =>
  aoz (bG (hf pins s2 σ H2 _ I2 q2) λfv s3 ⟨z,H3,I3,rz,kvs,k,ea,ey,hlt,q3,q4⟩=>a0z ?_))))
 subst ey
 obtain ⟨zz,hd,vs,rel,dd⟩:=oj I3.hok ea
 have hz:vs.length<=sizeLine:=by rw [← rel.length]; exact zz
 refine call_meetsIn PySem.F.slot_dict_setdefault dd.typeIs PySem.F.entry_dict_setdefault (PySem.F.args_dict_setdefault_3 _ _ _) (kt_meets_setdefault (ZG X.prog X.w) a (g6 ry) hd fv) ⟨vs,dd,hz,λv hv=>?_,λhn h' o7 hs=>?_⟩
 .have q:=rel.val k
  rw [hv] at q
  cases e:aT kvs k with
  | none=>rw [e] at q; cases cL.none_of q
  | some w' =>
   rw [e] at q
   obtain ⟨u,eu,ru⟩:=q.some_of
   cases eu
   exact ⟨w',H3,I3.tok _,ru,q3 w' e⟩
 .have hn':aT kvs k=none:=by
   have q:=(rel.val k).dW
   rw [hn] at q
   cases e:aT kvs k with
   | none=>rfl
   | some _=>rw [e] at q; cases q
  have he:∃ q,h'.get? a=some q:=let ⟨q,_,_,hq,_⟩:=o7; ⟨q,hq⟩
  have hl:(putK kvs k z).length<=sizeLine:=by have:=t7 kvs k z; lia
  exact ⟨z,_,A3 I3 (by rw [ea]; exact True.intro) hs he (E3 hl hd (rel.put k rz) o7),rz,q4 hn'⟩
end
def Pq:ze:=λx y H Q=>∃ l b xs zs,x=.ref l/\y=.ref b/\H l=some (.lst xs)/\H b=some (.lst zs)/\xs.length+zs.length<=sizeLine/\Q (.ref l) (upd H l (.lst (xs++zs)))
theorem MG:typeLookup (.type "list") (dunderI "add")=pure (some (.builtin "list.__iadd__")):=PySem.F.slot_list_iadd.lookup
theorem RD {X:Cx}:HD X .Add Pq:=by
 intro pins s σ H x y v u Q I rx ry h
 obtain ⟨l,b,xs,zs,rfl,rfl,hH,hB,hz,q⟩:=h
 cases rx
 cases ry
 obtain ⟨z,its,n,r,hl,e⟩:=I.iD hH
 obtain ⟨z2,its2,n2,r2,hl2,e2⟩:=I.iD hB
 have hsz:its.toArray.size+its2.toArray.size<=sizeLine:=by rw [aIh,aIh]; lia
 have nU:¬ (!its.toArray.isEmpty && Builtin.List.listTooLong (its.toArray.size+its2.toArray.size))=true:=by
  rw [LF hsz,Bool.and_false]
  exact aCK
 have T1:s.TypeIs (.ref l) "list" := ⟨_,e,rfl⟩
 have T2:s.TypeIs (.ref b) "list" := ⟨_,e2,rfl⟩
 unfold inplaceOp
 refine am3 ?_
 have PR:fillsInplaceSlot (.type "list") "add" (Operator.Add == .Add)=pure false:=by
  show (typeLookup (.type "list") (dunderI "add") >>= _)=_
  rw [MG]; rfl
 have hsi:seqSlot? (.type "list") (dunderI "add")=pure (some (.builtin "list.__iadd__")):=by
  unfold seqSlot?
  rw [MG]; rfl
 refine aLa (wpAny_typeOf T1 (aLa (wpAny_of_eq PR ?_)))
 rw [bd2 aCK]
 refine aLa (wpAny_binaryOp1_none (nm := "add") T1 T2 noFill_list_add ?_)
 refine aLa (wpAny_of_eq hsi (aLa (ai2 ?_)))
 refine call_meets PySem.F.slot_list_iadd T1 PySem.F.entry_list_iadd (PySem.F.args_list_iadd_2 _ _) (AutoSeq1.list___iadd___list_list_0 l its.toArray n b its2.toArray n2 nU (by rw [aIh]; lia) (by lia)) ⟨e,e2,?_⟩
 refine ⟨.ref l,_,I.lO (its':=its++its2) hH e (by simp) (r.append r2) ?_,rfl,q⟩
 rw [aIt]
 lia
end L2
set_option maxHeartbeats 4000000
namespace L2
open PySem PySem.Spec PyProof.Rows
variable {X:Cx}
theorem Ld:fc X (compareOp .IsNot) (λx y H Q=>∃ c d:Bool,x=.bl c/\y=.bl d/\Q (.bl (!(c == d))) H):=by
 intro pins s σ H x y v u Q I rx ry h
 obtain ⟨c,d,rfl,rfl,q⟩:=h
 cases rx
 cases ry
 cases c <;> cases d <;> exact aLj (ZA I q rfl)
end L2

namespace oV
open PySem L2
theorem Xj {N P:List Str} {s:Scope} (a:s.kind=.function:=by rfl) (b:s.isCoroutine=false:=by rfl) (c:s.isGenerator=false:=by rfl) (d:N.Nodup:=by decide +kernel) (e:N.take P.length=P:=by rfl) (f:∀ x ∈ P,s.names.lookup x=some .local\/s.names.lookup x=some .cell:=by decide +kernel) (g:∀ y ∈ s.names,y.2 ≠ .free:=by decide +kernel):af N P s:=⟨a,b,c,d,e,f,g⟩
theorem sl (n:Nat) (h:n ≤ 99:=by decide):n ≤ sizeLine:=ajJ h (by rw [azY]; decide)
variable {P:Program} {w:World} {K:W.Frag} {mg:Str->Option Value} {base:Heap}
def top (i:Nat):Stmt:=PySem.Challenge.pw_nearstairs_k68_whole_the_least_and_its_p.main.body.getD i (.Pass ⟨0,0,0,0⟩)
theorem bZ {N P:List Str} {sc:Scope} (a:sc.kind=.function:=by rfl) (b:sc.isCoroutine=false:=by rfl) (c:sc.isGenerator=false:=by rfl) (d:N.Nodup:=by decide +kernel) (e:N.take P.length=P:=by rfl) (f:∀ x∈P,sc.names.lookup x=some .local\/sc.names.lookup x=some .cell:=by decide +kernel) (g:∀ y∈sc.names,y.2≠.free:=by decide +kernel):af N P sc:=⟨a,b,c,d,e,f,g⟩
abbrev GD:Stmt:=top 1
abbrev ig:List Str:=["shelves", "board"]
abbrev rC:List Str:=ig.take 2
theorem gb:af ig rC (Zg GD):=bZ
abbrev Hr:Stmt:=top 9
abbrev gy:List Str:=["thing"]
abbrev BJ:List Str:=gy.take 1
theorem fj:af gy BJ (Zg Hr):=bZ
abbrev Gb:Stmt:=top 11
abbrev jK:List Str:=["places", "mates", "board", "out"]
abbrev Ga:List Str:=jK.take 4
theorem iJ:af jK Ga (Zg Gb):=bZ
abbrev E9:Stmt:=top 12
abbrev oU:List Str:=["mates", "board", "out"]
abbrev AR:List Str:=oU.take 3
theorem kN:af oU AR (Zg E9):=bZ
abbrev BS:Stmt:=top 13
abbrev bW:List Str:=["shelves", "places", "row", "order", "standing", "missed", "board", "out", "mates"]
abbrev ZZ:List Str:=bW.take 4
theorem cU:af bW ZZ (Zg BS):=bZ
abbrev E8:Stmt:=top 14
abbrev oR:List Str:=["shelves", "places", "row", "order"]
abbrev E7:List Str:=oR.take 4
theorem kM:af oR E7 (Zg E8):=bZ
abbrev Hq:Stmt:=top 15
abbrev gx:List Str:=["shelves", "places", "row", "order", "missed"]
abbrev BI:List Str:=gx.take 4
theorem fh:af gx BI (Zg Hq):=bZ
abbrev G8:Stmt:=top 16
abbrev eU:List Str:=["row", "told", "behind", "at", "board"]
abbrev yT:List Str:=eU.take 1
theorem dJ:af eU yT (Zg G8):=bZ
abbrev yX:Stmt:=top 17
abbrev cS:List Str:=["shelves", "places", "row", "standing", "again", "order", "board", "behind", "mates", "out", "latest"]
abbrev BP:List Str:=cS.take 3
theorem gh:af cS BP (Zg yX):=bZ
abbrev Hw:Stmt:=top 18
abbrev dP:List Str:=["shelves", "places", "row"]
abbrev BR:List Str:=dP.take 3
theorem cT:af dP BR (Zg Hw):=bZ
abbrev BU:Stmt:=top 20
abbrev cQ:List Str:=["row"]
abbrev GW:List Str:=cQ.take 1
theorem d9:af cQ GW (Zg BU):=bZ
abbrev Hv:Stmt:=top 21
abbrev cz:List Str:=["shelves", "row", "told", "at", "board"]
abbrev Hu:List Str:=cz.take 2
theorem bQ:af cz Hu (Zg Hv):=bZ
abbrev Hy:Stmt:=top 22
abbrev cM:List Str:=["again", "costs", "at", "within", "choices", "ahead"]
abbrev Hx:List Str:=cM.take 3
theorem b9:af cM Hx (Zg Hy):=bZ
abbrev G7:Stmt:=top 23
abbrev eT:List Str:=["fee", "row", "again", "costs", "aheads", "at", "cost", "ahead", "marks", "mark"]
abbrev G6:List Str:=eT.take 2
theorem dH:af eT G6 (Zg G7):=bZ
abbrev BH:Stmt:=top 25
abbrev dQ:List Str:=["shelves", "row", "marks", "first", "last", "shelf"]
abbrev Ho:List Str:=dQ.take 5
theorem fk:af dQ Ho (Zg BH):=bZ
abbrev Bb:Stmt:=top 26
abbrev je:List Str:=["shelves", "places", "row", "marks", "free"]
abbrev Ba:List Str:=je.take 4
theorem jt:af je Ba (Zg Bb):=bZ
abbrev yW:Stmt:=top 27
abbrev cR:List Str:=["shelves", "places", "row", "marks", "spots", "asked"]
abbrev BO:List Str:=cR.take 3
theorem gc:af cR BO (Zg yW):=bZ
abbrev Hl:Stmt:=top 28
abbrev gA:List Str:=["row", "thing", "last", "mark"]
abbrev Hj:List Str:=gA.take 2
theorem fm:af gA Hj (Zg Hl):=bZ
abbrev GZ:Stmt:=top 29
abbrev eS:List Str:=["shelves", "places", "row", "order", "marks", "missed"]
abbrev BW:List Str:=eS.take 5
theorem dG:af eS BW (Zg GZ):=bZ
abbrev BG:Stmt:=qc (top 31) 0
abbrev dR:List Str:=["self", "shelves", "places", "rule"]
abbrev Hi:List Str:=dR.take 4
theorem fB:af dR Hi (Zg BG):=bZ
abbrev GC:Stmt:=qc (top 31) 1
abbrev iw:List Str:=["self", "board"]
abbrev yV:List Str:=iw.take 2
theorem gk:af iw yV (Zg GC):=bZ
abbrev GV:Stmt:=qc (top 31) 2
abbrev fQ:List Str:=["self", "board", "out"]
abbrev GU:List Str:=fQ.take 2
theorem eG:af fQ GU (Zg GV):=bZ
abbrev GL:Stmt:=qc (top 31) 3
abbrev iu:List Str:=["self", "board", "mates"]
abbrev GK:List Str:=iu.take 2
theorem gj:af iu GK (Zg GL):=bZ
abbrev Hh:Stmt:=qc (top 31) 4
abbrev gC:List Str:=["self", "board"]
abbrev Hg:List Str:=gC.take 2
theorem fC:af gC Hg (Zg Hh):=bZ
abbrev Hf:Stmt:=qc (top 31) 7
abbrev gB:List Str:=["self", "board"]
abbrev BF:List Str:=gB.take 2
theorem fq:af gB BF (Zg Hf):=bZ
abbrev GS:Stmt:=qc (top 31) 8
abbrev fP:List Str:=["self", "board"]
abbrev vB:List Str:=fP.take 2
theorem eE:af fP vB (Zg GS):=bZ
abbrev Ht:Stmt:=qc (top 31) 9
abbrev cA:List Str:=["self", "board", "mates"]
abbrev Hs:List Str:=cA.take 2
theorem bR:af cA Hs (Zg Ht):=bZ
abbrev ZE:Stmt:=qc (top 31) 10
abbrev bP:List Str:=["self", "mates"]
abbrev yR:List Str:=bP.take 2
theorem eF:af bP yR (Zg ZE):=bZ
abbrev ny:Stmt:=top 33
abbrev rF:List Str:=["room", "board"]
abbrev oM:List Str:=rF.take 2
theorem nu:af rF oM (Zg ny):=bZ
abbrev Bk:Stmt:=top 34
abbrev fX:List Str:=["shelves", "places", "rule", "row", "room"]
abbrev GB:List Str:=fX.take 4
theorem gU:af fX GB (Zg Bk):=bZ
abbrev Bv:Stmt:=top 35
abbrev ir:List Str:=["shelves", "places", "rule", "row"]
abbrev F9:List Str:=ir.take 4
theorem iI:af ir F9 (Zg Bv):=bZ
abbrev GR:Stmt:=top 36
abbrev fO:List Str:=["shelves", "row", "at", "board", "between", "ahead", "other"]
abbrev GQ:List Str:=fO.take 3
theorem eB:af fO GQ (Zg GR):=bZ
abbrev Bj:Stmt:=top 37
abbrev fY:List Str:=["shelves", "row"]
abbrev GA:List Str:=fY.take 2
theorem gV:af fY GA (Zg Bj):=bZ
abbrev nv:Stmt:=top 39
abbrev rE:List Str:=["_law_script", "_law_k", "_law_cell"]
abbrev oK:List Str:=rE.take 2
theorem nk:af rE oK (Zg nv):=bZ
abbrev E6:Stmt:=top 40
abbrev oO:List Str:=["_law_box_here", "_law_size", "_law_found", "_law_step", "_law_once", "_law_twice"]
abbrev rq:List Str:=oO.take 2
theorem kK:af oO rq (Zg E6):=bZ
abbrev F8:Stmt:=top 41
abbrev jL:List Str:=["_law_script", "_law_size", "_law_cells", "_law_k", "_law_cell"]
abbrev F7:List Str:=jL.take 2
theorem iK:af jL F7 (Zg F8):=bZ
abbrev BV:Stmt:=top 42
abbrev cD:List Str:=["_law_box_here", "_law_size", "_law_many", "_law_way", "_law_begin", "_law_first", "_law_found", "_law_far", "_law_k", "_law_at"]
abbrev GY:List Str:=cD.take 2
theorem dF:af cD GY (Zg BV):=bZ
abbrev Fj:Stmt:=top 43
abbrev lC:List Str:=["_law_box_here", "_law_far", "_law_shelves"]
abbrev Fi:List Str:=lC.take 1
theorem jq:af lC Fi (Zg Fj):=bZ
abbrev Fg:Stmt:=top 44
abbrev lD:List Str:=["_law_box_here", "_law_few", "_law_most", "_law_some", "_law_size", "_law_way", "_law_found", "_law_k", "_law_drawn", "_law_back", "_law_turned", "_law_often"]
abbrev FP:List Str:=lD.take 3
theorem ju:af lD FP (Zg Fg):=bZ
abbrev rm:Stmt:=top 45
abbrev ku:List Str:=["_law_found", "_law_due"]
abbrev rj:List Str:=ku.take 2
theorem kL:af ku rj (Zg rm):=bZ
abbrev yS:Stmt:=top 46
abbrev bL:List Str:=["_law_box_here", "_law_shelves", "_law_places", "_law_row", "_law_there", "_law_found", "_law_board", "_law_some", "_law_gone"]
abbrev GX:List Str:=bL.take 4
theorem dI:af bL GX (Zg yS):=bZ
abbrev GO:Stmt:=top 47
abbrev fN:List Str:=["_law_box_here", "_law_row", "_law_way", "_law_found", "_law_place"]
abbrev GN:List Str:=fN.take 2
theorem d8:af fN GN (Zg GO):=bZ
abbrev FO:Stmt:=top 48
abbrev lB:List Str:=["_law_shelves", "_law_places", "_law_row", "_law_choice", "_law_marks"]
abbrev FN:List Str:=lB.take 3
theorem jo:af lB FN (Zg FO):=bZ
abbrev p8:Stmt:=top 49
abbrev cO:List Str:=["_law_box_here", "_law_shelves", "_law_places", "_law_rule", "_law_row", "_law_kept", "_law_sizes", "_law_long", "_law_depths", "_law_least", "_law_marks", "_law_turn", "_law_choice", "_law_missed", "_law_papers", "_law_seen", "_law_parts"]
abbrev FL:List Str:=cO.take 1
theorem jr:af cO FL (Zg p8):=bZ
abbrev eN:Stmt:=top 50
abbrev oQ:List Str:=["_law_script", "_law_cells"]
abbrev jJ:List Str:=oQ.take 1
theorem nj:af oQ jJ (Zg eN):=bZ
structure Txt (K:W.Frag) (mg:Str->Option Value):Prop where
 zG:mg "abs" = none
 vK:mg "all" = none
 zF:mg "any" = none
 vM:mg "bool" = none
 Cj:mg "divmod" = none
 wR:mg "enumerate" = none
 um:mg "int" = none
 jO:mg "isinstance" = none
 dX:mg "len" = none
 nB:mg "list" = none
 vJ:mg "max" = none
 zK:mg "min" = none
 jx:mg "range" = none
 Ct:mg "set" = none
 zJ:mg "sorted" = none
 vI:mg "str" = none
 Cs:mg "sum" = none
 zH:mg "tuple" = none
 vH:mg "zip" = none
 fD:oX K (aB K "Room")
 HR:bV K (aB K "Room") "places"
 Dm:bV K (aB K "Room") "rule"
 HS:bV K (aB K "Room") "shelves"
 Ip:bV K (aB K "Room") "standing"
 uI:bV K (aB K "Room") "uses"
structure aG (H:Hp) (b:Addr) (a q c:Int):Prop where
 at':H b=some (.lst [.int a,.int q,.int c])
 a0:0<=a
 q0:0<=q
 q1:q<2147483647
 c0:0<=c
theorem aG.sb {H H':Hp} {b x:Addr} {a q c:Int} (B:aG H b a q c) (s:SB x H H') (n:b≠x):aG H' b a q c:=⟨s _ _ n B.at',B.a0,B.q0,B.q1,B.c0⟩
theorem aG.same {H H':Hp} {b:Addr} {a q c:Int} (B:aG H b a q c) (s:aq H H'):aG H' b a q c:=⟨s _ _ B.at',B.a0,B.q0,B.q1,B.c0⟩
def tT:Sp:=λvs H Q _=>∃ (b:Addr) (a q c n:Int),vs=[.ref b,.int n]/\aG H b a q c/\c<1099511627776/\0<n/\n<1073741824 /\
 ∀ (r a' c':Int) (H':Hp),0<=r->r<n->aG H' b a' q c'->c'<=c+1->SB b H H'->Q (.int r) H'
section
theorem pZ (a:Int) {b:Int} (h:0<b):0<=a % b:=aZ2 a (by lia)
theorem pY (a:Int) {b:Int} (h:0<b):a % b<b:=aby a h
theorem SM (F:bK K "_law_take" "_law_take" E6 f fd) (T:Txt K mg):aD P w K mg base bB 1 f fd rq tT:=by
 refine F.ok kK (λvs H Q E h=>?_) (λcdv A outer s H vs Q E hr h=>?_)
 .obtain ⟨b,a,q,c,n,rfl,_⟩:=h
  rfl
 obtain ⟨b,a,q,c,n,rfl,B,hc,hn0,hn1,k⟩:=h
 have nd:=kK.nd
 refine ⟨_,(Zd (aI (Zp nF (aA (Zo (K:=K) rfl) (pv 0) Zi (λ_ _=>rfl)) Zi (Zs _)) (Zd (pq (Zk V5 rfl T.Cj V3 (pc (aA (Zo (K:=K) rfl) (pv 0) Zi (λ_ _=>rfl)) (pc (pv 1) Zc))) (kh (K:=K) (n:=2) rfl rfl (Zt (vh (pv 0) Zi vA) (Zt (bD 2 nd) kj))))
   (Zj (Zq (pv 2)))) Zu)
   (Zd (pq (ah ZR (aA (Zo (K:=K) rfl) (pv 0) Zi (λ_ _=>rfl)) Zi) (vh (pv 0) Zi vA))
   (Zd (bA 3 nd (ah ZR Zi (ah mh (aA (Zo (K:=K) rfl) (pv 0) Zi (λ_ _=>rfl)) (aA (Zo (K:=K) rfl) (pv 0) Zi (λ_ _=>rfl)))))
   (Zd (bA 4 nd (ah jd (ah mh (ah ZR (aA (Zo (K:=K) rfl) (pv 0) Zi (λ_ _=>rfl)) (ah mh Zi (aA (Zo (K:=K) rfl) (pv 0) Zi (λ_ _=>rfl)))) (pv 3)) Zi))
   (Zd (bA 5 nd (ah jd (ah ZR (ah mh (pv 4) (ah ZR (ah jd (pv 4) Zi) Zi)) (aA (Zo (K:=K) rfl) (pv 0) Zi (λ_ _=>rfl))) Zi))
   (Zj (Zq (ah jd (ah yH (ah jd (ah mh (pv 5) (ah ZR (ah jd (pv 5) Zi) Zi)) Zi) Zi) (pv 1))))))))),?_⟩
 have hb:=B.at'
 have hc0:=B.c0
 have IV:=B.q0
 have hq1:=B.q1
 refine ⟨_,rfl,b,_,_,_,rfl,rfl,ak.of hb,l5,_,_,rfl,rfl,_,rfl,?_⟩
 refine ZC (λha=>?_) (λha=>?_)
 .refine ⟨_,rfl,b,_,_,_,rfl,rfl,ak.of hb,l5,_,rfl,_,_,rfl,⟨hn0,hn1⟩,λp hp=>?_⟩
  have P8:upd H p (.tup [.int (a / n),.int (a % n)]) b=some (.lst [.int a,.int q,.int c]):=by rw [Ze (Zb hb hp)]; exact hb
  refine ⟨p,_,rfl,bJ.of Za,rfl,_,_,rfl,⟨_,rfl,b,_,_,0,rfl,rfl,P8,rfl,?_⟩⟩
  refine ⟨_,_,rfl,rfl,_,rfl,?_⟩
  exact k _ (a / n) c _ (pZ _ hn0) (pY _ hn0) ⟨Za,Int.ediv_nonneg B.a0 (by lia),IV,hq1,hc0⟩ (by lia) ((Zf hp _).sb b |>.trans (ve b _ _))
 .refine ⟨_,rfl,b,_,_,_,rfl,rfl,ak.of hb,oB,_,_,rfl,rfl,_,rfl,b,_,_,2,rfl,rfl,hb,rfl,?_⟩
  have hb1:upd H b (.lst [.int a,.int q,.int (c+1)]) b=some (.lst [.int a,.int q,.int (c+1)]):=Za
  have i0:ak K (upd H b (.lst [.int a,.int q,.int (c+1)])) b [.int a,.int q,.int (c+1)]:=ak.of hb1
  refine ⟨_,rfl,b,_,_,_,rfl,rfl,i0,oB,_,rfl,b,_,_,_,rfl,rfl,i0,oB,_,_,rfl,rfl,.inl ⟨by lia,by lia⟩,_,_,rfl,rfl,?_⟩
  refine ⟨_,rfl,b,_,_,_,rfl,rfl,i0,p5,_,rfl,b,_,_,_,rfl,rfl,i0,oB,_,_,rfl,rfl,.inl ⟨by decide,by decide⟩,_,_,rfl,rfl,_,rfl,_,_,rfl,rfl,.inl ⟨by lia,by lia⟩,_,_,rfl,rfl,(by show (0:Int)<_; decide),?_⟩
  generalize IX:(q+39373 * (c+1)) * (69621+(c+1) * (c+1)) % 2147483587=on
  have Xq:0<=on:=by rw [← IX]; exact pZ _ (by decide)
  have Xp:on<2147483587:=by rw [← IX]; exact pY _ (by decide)
  refine ⟨_,rfl,_,rfl,_,_,rfl,rfl,(by show (0:Int)<_; decide),_,_,rfl,rfl,_,_,rfl,rfl,.inl ⟨by lia,by lia⟩,_,rfl,b,_,_,_,rfl,rfl,i0,oB,_,_,rfl,rfl,_,_,rfl,rfl,(by show (0:Int)<_; decide),?_⟩
  generalize htw:(on * (on % 30011+5)+(c+1)) % 2147483563=tw
  have tw0:0<=tw:=by rw [← htw]; exact pZ _ (by decide)
  have tw1:tw<2147483563:=by rw [← htw]; exact pY _ (by decide)
  refine ⟨_,rfl,_,rfl,_,_,rfl,rfl,(by show (0:Int)<_; decide),_,_,rfl,rfl,_,_,rfl,rfl,.inl ⟨by lia,by lia⟩,_,_,rfl,rfl,(by show (0:Int)<_; decide),_,_,rfl,rfl,⟨by decide,by decide⟩,_,rfl,_,_,rfl,rfl,hn0,?_⟩
  exact k _ a (c+1) _ (pZ _ hn0) (pY _ hn0) ⟨hb1,B.a0,IV,hq1,by lia⟩ (by lia) (ve b _ _)
end
section
def qA (K:W.Frag):Sp:=λvs H Q _=>∃ (l:Addr) (ns:List Int) (k:Int),vs=[.ref l,.int k]/\ak K H l (ns.map V.int)/\0<=k/\k<1000000 /\
 ∀ (r:Addr) (a q:Int) (H':Hp),H r=none->aq H H'->aG H' r a q 0->Q (.ref r) H'
theorem qM (b:Bool) : -(2 ^ 64)<(if b then 1 else 0:Int)/\(if b then 1 else 0:Int)<2 ^ 64:=by cases b <;> decide
theorem L3 {ns:List Int} {k:Int} (h0:0<=k) (h:k<(ns.length:Int)):∃ v:Int,cY (ns.map V.int) k=some (.int v):=by
 have hk:k.toNat<ns.length:=by lia
 have q:cY (ns.map V.int) ((k.toNat:Nat):Int)=some (.int ns[k.toNat]):=ZX (by rw [bdd,a8w hk] <;> rfl)
 rw [show ((k.toNat:Nat):Int)=k by lia] at q
 exact ⟨_,q⟩
theorem RC (i:Int):0<=(if i<0 then -i else i):=by split <;> lia
theorem Lc (i:Int) (b:Bool):0<=(if i<0 then -i else i) * (if b then 1 else 0:Int):=Int.mul_nonneg (RC i) (by cases b <;> decide)
theorem RB (F:bK K "_law_box" "_law_box" nv f fd) (T:Txt K mg):aD P w K mg base bB 1 f fd oK (qA K):=by
 refine F.ok nk (λvs H Q E h=>?_) (λcdv A outer s H vs Q E hr h=>?_)
 .obtain ⟨l,ns,k,rfl,_⟩:=h
  rfl
 obtain ⟨l,ns,k,rfl,hS,hk0,hk1,kk⟩:=h
 have nd:=nk.nd
 refine ⟨_,(Zd (bA 2 nd (oH (Zp cV (pv 1) (Zk (Zm (K:=K) rfl) rfl T.dX a21 (pc (pv 0) Zc)) (Zs _)) (aA (Zo (K:=K) rfl) (pv 0) (pv 1) (λ_ _=>rfl)) Zi))
   (Zj (Zq (ZI (pc (ah mh (Zk LI rfl T.zG Lw (pc (pv 2) Zc)) (yY Mi rfl T.um Bo (pc (k7 kQ (Zk LI rfl T.zG Lw (pc (pv 2) Zc)) (ah Rf Zi Zi) (Zs _)) Zc))) (pc (ah jd (ah mh (ah ZR (ah ZR (ah jd (pv 2) Zi) (ah mh Zi (pv 1))) Zi) Zi) Zi) (pc Zi Zc))))))),?_⟩
 refine ⟨_,rfl,_,rfl,l,_,rfl,.inl hS,_,_,rfl,rfl,_,rfl,?_⟩
 refine ZC (λc=>?_) (λc=>?_)
 .rw [aH5] at c
  obtain ⟨v,hv⟩:=L3 hk0 c
  refine ⟨_,rfl,_,rfl,l,_,_,_,rfl,rfl,hS,hv,?_⟩
  refine ⟨_,rfl,_,rfl,_,rfl,_,rfl,_,_,rfl,rfl,⟨by decide,by decide,by decide⟩,_,_,rfl,rfl,.inr ⟨_,rfl,_,_,rfl,rfl,.inr (qM _),?_⟩⟩
  refine ⟨_,rfl,_,_,rfl,rfl,(by show (0:Int)<_; decide),_,rfl,_,_,rfl,rfl,.inl ⟨by decide,by decide⟩,_,_,rfl,rfl,_,_,rfl,rfl,_,_,rfl,rfl,.inr ⟨by decide,by decide⟩,_,_,rfl,rfl,(by show (0:Int)<_; decide),(sl 3),λr hr=>?_⟩
  exact kk r _ _ _ hr (Zf hr _) ⟨Za,Lc _ _,pZ _ (by decide),pY _ (by decide),aB0 _⟩
 .refine ⟨_,rfl,_,rfl,_,rfl,_,rfl,_,_,rfl,rfl,⟨by decide,by decide,by decide⟩,_,_,rfl,rfl,.inr ⟨_,rfl,_,_,rfl,rfl,.inr (qM _),?_⟩⟩
  refine ⟨_,rfl,_,_,rfl,rfl,(by show (0:Int)<_; decide),_,rfl,_,_,rfl,rfl,.inl ⟨by decide,by decide⟩,_,_,rfl,rfl,_,_,rfl,rfl,_,_,rfl,rfl,.inr ⟨by decide,by decide⟩,_,_,rfl,rfl,(by show (0:Int)<_; decide),(sl 3),λr hr=>?_⟩
  exact kk r _ _ _ hr (Zf hr _) ⟨Za,Lc _ _,pZ _ (by decide),pY _ (by decide),aB0 _⟩
def LZ (K:W.Frag):Sp:=λvs H Q _=>∃ (a:Addr) (ns:List Int) (n:Nat),vs=[.ref a,.int (n:Int)]/\ak K H a (ns.map V.int)/\ns.length<=63/\0<n/\n<=63 /\
 ∀ (r:Addr) (ms:List Int) (H':Hp),H r=none->aq H H'->H' r=some (.lst (ms.map V.int))->ms.length=min n ns.length->Q (.ref r) H'
theorem Lb (ns:List Int) (lo hi:Option Int):gI (ns.map V.int) lo hi=((ns.drop (HT.gq ns.length 0 lo)).take (HT.gq ns.length ns.length hi - HT.gq ns.length 0 lo)).map V.int:=by
 unfold gI
 rw [aH5,← List.map_drop,← map_take]
theorem Bu (ms:List Int) (j:Nat) (v:Int):(ms.map V.int).set j (.int v)=(ms.set j v).map V.int:=by rw [List.map_set]
theorem E5 {n:Nat} {i:Int} (h0:0<=i) (h:i<n):lP n i=some i.toNat:=by unfold lP; rw [aHZ h0,aHZ h]
theorem RA {ms:List Int} {i:Nat} {x:V} (h:(ms.map V.int)[i]?=some x):∃ z,x=V.int z/\i<ms.length:=by
 rw [bdd] at h
 cases e:ms[i]? with
 | none=>rw [e] at h; cases h
 | some z=>rw [e] at h; exact ⟨z,(bcC h).symm,(aWj.mp e).1⟩
theorem U7 (F:bK K "_law_folded" "_law_folded" F8 f fd) (T:Txt K mg):aD P w K mg base bB 1 f fd F7 (LZ K):=by
 refine F.ok iK (λvs H Q E h=>?_) (λcdv A outer s H vs Q E hr h=>?_)
 .obtain ⟨a,ns,n,rfl,_⟩:=h
  rfl
 obtain ⟨a,ns,n,rfl,hS,h63,hn0,hn1,k⟩:=h
 have nd:=iK.nd
 refine ⟨_,(Zd (bA 2 nd (yY (G9 (K:=K) rfl) rfl T.nB ZU (pc (F0 (FW (K:=K) rfl) (pv 0) vt (vq (pv 1))) Zc)))
   (Zd (kq aW3 rfl (Fq rfl T.wR (pc (F0 (FW (K:=K) rfl) (pv 0) (vq (pv 1)) (vq Zi)) Zc)) (kh (K:=K) (n:=2) rfl rfl (Zt (bD 3 nd) (Zt (bD 4 nd) kj))) (Zj (pq (ah ZR (aA (Zo (K:=K) rfl) (pv 2) (ah jd (pv 3) (pv 1)) (λ_ _=>rfl)) (ah mh (pv 4) (ah ZR (pv 3) Zi))) (vh (pv 2) (ah jd (pv 3) (pv 1)) vA))))
   (Zj (Zq (pv 2))))),?_⟩
 refine ⟨_,rfl,_,rfl,_,rfl,a,_,rfl,hS,λp hp=>?_⟩
 have s1:=Zf hp (.lst (gI (ns.map V.int) none (some (n:Int))))
 refine ⟨p,_,rfl,.inl (ak.of Za),λr hr1=>?_⟩
 have s2:=s1.trans (Zf hr1 (.lst (gI (ns.map V.int) none (some (n:Int)))))
 have IU:H r=none:=s1.free hr1
 rw [Lb] at *
 generalize hms:(ns.drop (HT.gq ns.length 0 none)).take (HT.gq ns.length ns.length (some (n:Int)) - HT.gq ns.length 0 none)=ms at *
 have Pd:ms.length=min n ns.length:=by
  rw [← hms,HT.jv,HT.iY,aJj,aGM]; lia
 generalize Qh:upd (upd H p (.lst (ms.map V.int))) r (.lst (ms.map V.int))=H2 at *
 have Jj:H2 r=some (.lst (ms.map V.int)):=by rw [← Qh]; exact Za
 refine ⟨_,rfl,_,rfl,_,rfl,_,rfl,a,_,rfl,s2.seq hS,λt ht=>?_⟩
 rw [Lb]
 generalize hws:(ns.drop (HT.gq ns.length 0 (some (n:Int)))).take (HT.gq ns.length ns.length (some 63) - HT.gq ns.length 0 (some (n:Int)))=ws
 have O6:0<ws.length->n<ns.length:=λh=>by
  rw [← hws,aJj,aGM,HT.iY] at h; lia
 have O7:ws.length<=63:=by rw [← hws,aJj,aGM]; lia
 have s3:=s2.trans (Zf ht (.lst (ws.map V.int)))
 have Iq:r≠t:=Zb Jj ht
 refine ⟨t,rfl,⟨_,ak.of Za⟩,Lv (K:=K) (a:=t) (xs:=ws.map V.int) (λi σ H'=>∃ (ms':List Int) (v3 v4:Option V),σ=[some (.ref a),some (.int n),some (.ref r),v3,v4]/\ms'.length=min n ns.length/\H' r=some (.lst (ms'.map V.int))/\H' t=some (.lst (ws.map V.int))/\aq H H')
  ⟨ms,none,none,rfl,Pd,by rw [Ze Iq]; exact Jj,Za,s3⟩ (λi σ H' _ ⟨_,_,_,_,_,_,q,_⟩=>ak.of q) ?_ ?_⟩
 .rintro i x u σ H' hi ⟨ms',v3,v4,rfl,lm,h1,h2,s4⟩ hu
  obtain ⟨z,rfl,hlt⟩:=RA hi
  have hnl:=O6 (by lia)
  have s5:=Zf hu (.tup [.int (i:Int),.int z])
  refine ⟨u,_,rfl,bJ.of Za,rfl,_,_,rfl,_,_,rfl,rfl,?_⟩
  have m0:0<=(i:Int) % (n:Int):=pZ _ (by lia)
  have m1:(i:Int) % (n:Int)<(n:Int):=pY _ (by lia)
  obtain ⟨v,hv⟩:=L3 (ns:=ms') m0 (by lia)
  refine ⟨_,rfl,_,rfl,_,rfl,_,_,rfl,rfl,(by show (0:Int)<_; lia),r,_,_,_,rfl,rfl,ak.of (s5 _ _ h1),hv,?_⟩
  refine ⟨_,rfl,_,rfl,_,_,rfl,rfl,_,_,rfl,rfl,.inr ⟨by lia,by lia⟩,_,_,rfl,rfl,?_⟩
  refine ⟨_,rfl,_,rfl,_,rfl,_,_,rfl,rfl,(by show (0:Int)<_; lia),r,_,_,((i:Int) % (n:Int)).toNat,rfl,rfl,s5 _ _ h1,E5 m0 (by rw [aH5]; lia),?_⟩
  refine ⟨ms'.set ((i:Int) % (n:Int)).toNat (v+z * ((i:Int)+2)),_,_,rfl,by rw [length_set]; exact lm,by rw [Za,Bu],?_,?_⟩
  .rw [Ze (aay Iq)]; exact s5 _ _ h2
  .intro b o e
   rw [Ze (Zb e IU)]
   exact s5 _ _ (s4 _ _ e)
 .rintro σ H' ⟨ms',v3,v4,rfl,lm,h1,h2,s4⟩
  exact ⟨_,rfl,k r ms' H' IU s4 h1 lm⟩
end
theorem hide {t u:TS} {D:Ends} {σ:St} {H:Hp} (h:∀ u',u'=u->mU t u' D σ H):mU t u D σ H:=h u rfl
theorem JC {te:TE} {σ:St} {H:Hp} {Q:VK} (Post:V->Hp->Prop) (h1:∀ Q':VK,(∀ v H1,Post v H1->Q' v H1)->te σ H Q') (h2:∀ v H1,Post v H1->Q v H1):te σ H Q:=h1 Q h2
theorem qW {te:TE} {g:TG} {u:TS} {D:Ends} {σ:St} {H:Hp} (Post:V->Hp->Prop) (h1:∀ Q':VK,(∀ v H1,Post v H1->Q' v H1)->te σ H Q') (h2:∀ v H1,Post v H1->g v σ H1 (u D)):mU (jS te g) u D σ H:=h1 _ h2
theorem qV {ts u:TS} {D:Ends} {σ:St} {H:Hp} (Post:St->Hp->Prop) (h1:∀ D':Ends,D'.rt=D.rt->(∀ σ1 H1,Post σ1 H1->D'.nx σ1 H1)->ts D' σ H) (h2:∀ σ1 H1,Post σ1 H1->u D σ1 H1):mU ts u D σ H:=h1 _ rfl h2
theorem EF {tt:TT} {ta tb:TE} {σ:St} {H:Hp} {Q:VK} (Post:Bool->Hp->Prop) (h1:∀ Q':Bool->Hp->Prop,(∀ v H1,Post v H1->Q' v H1)->tt σ H Q') (h2:∀ c H1,Post c H1->if c=true then ta σ H1 Q else tb σ H1 Q):zR tt ta tb σ H Q:=h1 _ h2
theorem oq {tt:TT} {ta tb:TS} {D:Ends} {σ:St} {H:Hp} (Post:Bool->Hp->Prop) (h1:∀ Q':Bool->Hp->Prop,(∀ v H1,Post v H1->Q' v H1)->tt σ H Q') (h2:∀ c H1,Post c H1->if c=true then ta D σ H1 else tb D σ H1):vX tt ta tb D σ H:=h1 _ h2
theorem yl {t u:TT} {σ:St} {H:Hp} {Q:Bool->Hp->Prop} (Post:Bool->Hp->Prop) (h1:∀ Q':Bool->Hp->Prop,(∀ v H1,Post v H1->Q' v H1)->t σ H Q') (h2:∀ c H1,Post c H1->if c=true then Q true H1 else u σ H1 Q):Ib t u σ H Q:=h1 _ h2
theorem F5 {b l:Addr} {H G:Hp} {xs:List V} (s:SB b H G) (hb:G b=some (.lst xs)) (hl:G l=none):H l=none:=by
 cases e:H l with
 | none=>rfl
 | some o =>
  by_cases h:l=b
  .rw [h,hb] at hl; cases hl
  .rw [s _ _ h e] at hl; cases hl
theorem tS {ns:List Int} {k:Int} (h0:0<=k) (h:k<(ns.length:Int)):∃ v:Int,cY (ns.map V.int) k=some (.int v)/\v∈ns:=by
 have hk:k.toNat<ns.length:=by lia
 have q:cY (ns.map V.int) ((k.toNat:Nat):Int)=some (.int ns[k.toNat]):=ZX (by rw [bdd,a8w hk] <;> rfl)
 rw [show ((k.toNat:Nat):Int)=k by lia] at q
 exact ⟨_,q,aSd hk⟩
theorem t9 (ns:List Int):(ns.map V.int).all fK=true:=by
 rw [aY4]
 intro x hx
 obtain ⟨n,_,rfl⟩:=aea.mp hx
 rfl
theorem Uc {n:Nat} (h:0<n):lP n (-1)=some (n - 1):=by
 unfold lP
 rw [bd2 (by decide),aHZ (by lia)]
 congr 1
 lia
theorem FJ {ns:List Int} {j:Nat} {v x:Int} (h:x∈ns.set j v):x∈ns\/x=v:=by
 rcases List.mem_or_eq_of_mem_set h with h | h
 .exact .inl h
 .exact .inr h
theorem SK {i j:Int} {A B:Prop} (h1:i=j->A) (h2:¬ i=j->B):if decide (V.int i=V.int j)=true then A else B :=
 ZC (λe=>h1 (by injection e)) (λe=>h2 λz=>e (by rw [z]))
theorem bu {b:Bool} {A B:Prop} (h:b=false) (hB:B):if b=true then A else B:=by subst h; rw [bd2 aCK]; exact hB
theorem cE {b:Bool} {A B:Prop} (h:b=true) (hA:A):if b=true then A else B:=by subst h; rw [aHZ rfl]; exact hA
theorem Bt {α:Type} {xs:List α} {i:Int} (h0:0<=i) (h1:i<(xs.length:Int)):∃ v,cY xs i=some v/\v∈xs:=by
 have hk:i.toNat<xs.length:=by lia
 have q:cY xs ((i.toNat:Nat):Int)=some xs[i.toNat]:=ZX (a8w hk)
 rw [show ((i.toNat:Nat):Int)=i by lia] at q
 exact ⟨_,q,aSd hk⟩
theorem Rz (x y:Int) (k:Bool):∃ n:Int,cY [V.int x,V.int y] (if k=true then 1 else 0)=some (.int n)/\(n=x\/n=y):=by
 cases k with
 | true=>exact ⟨y,p5,.inr rfl⟩
 | false=>exact ⟨x,l5,.inl rfl⟩
theorem wX (x y r:Int) (h0:0<=r) (h1:r<2):∃ n:Int,cY [V.int x,V.int y] r=some (.int n)/\(n=x\/n=y):=by
 have h:r=0\/r=1:=by lia
 rcases h with rfl | rfl
 .exact ⟨x,l5,.inl rfl⟩
 .exact ⟨y,p5,.inr rfl⟩
theorem Ry (r:Int) (h0:0<=r) (h1:r<4):∃ n:Int,cY [V.int 1,V.int 1,V.int 12,V.int 24] r=some (.int n)/\(n=1\/n=12\/n=24):=by
 obtain ⟨x,hx,m⟩:=Bt (xs:=[V.int 1,V.int 1,V.int 12,V.int 24]) h0 (by show r<((4:Nat):Int); lia)
 simp only [apQ,atr,a4q] at m
 rcases m with rfl | rfl | rfl | rfl
 .exact ⟨_,hx,.inl rfl⟩
 .exact ⟨_,hx,.inl rfl⟩
 .exact ⟨_,hx,.inr (.inl rfl)⟩
 .exact ⟨_,hx,.inr (.inr rfl)⟩
theorem wW (r:Int) (h0:0<=r) (h1:r<5):∃ v,cY [V.int 1,V.int 1,V.int 2,V.int 3,V.int 4] r=some (.int v)/\1<=v/\v<=64:=by
 obtain ⟨x,hx,m⟩:=Bt (xs:=[V.int 1,V.int 1,V.int 2,V.int 3,V.int 4]) h0 (by show r<((5:Nat):Int); lia)
 simp only [apQ,atr,a4q] at m
 rcases m with rfl | rfl | rfl | rfl | rfl <;> exact ⟨_,hx,by decide,by decide⟩
def mC (z:Str):Prop:=z = "old" \/ z = "come" \/ z = "few"
theorem wU (r:Int) (h0:0<=r) (h1:r<3):∃ z:Str,cY [V.str "old",V.str "come",V.str "few"] r=some (.str z)/\mC z:=by
 obtain ⟨x,hx,m⟩:=Bt (xs:=[V.str "old",V.str "come",V.str "few"]) h0 (by show r<((3:Nat):Int); lia)
 simp only [apQ,atr,a4q] at m
 rcases m with rfl | rfl | rfl
 .exact ⟨_,hx,.inl rfl⟩
 .exact ⟨_,hx,.inr (.inl rfl)⟩
 .exact ⟨_,hx,.inr (.inr rfl)⟩
theorem U6 {s:Int} (h0:1<=s) (h1:s<=16):555<=9999 / s/\9999 / s<=9999/\1<=(if 10000 / s - 480 > 1 then 10000 / s - 480 else 1)/\(if 10000 / s - 480 > 1 then 10000 / s - 480 else 1)+455<=9999 / s:=by
 have key:∀ n:Fin 17,1<=(n.val:Int)->(555<=9999 / (n.val:Int)/\9999 / (n.val:Int)<=9999/\1<=(if 10000 / (n.val:Int) - 480 > 1 then 10000 / (n.val:Int) - 480 else 1)/\(if 10000 / (n.val:Int) - 480 > 1 then 10000 / (n.val:Int) - 480 else 1)+455<=9999 / (n.val:Int)):=by decide +kernel
 have e:((⟨s.toNat,by lia⟩:Fin 17).val:Int)=s:=by show ((s.toNat:Nat):Int)=s; lia
 have q:=key ⟨s.toNat,by lia⟩ (by rw [e]; exact h0)
 rw [e] at q
 exact q
def mH (t:Int) (ns:List Int):Prop:=∀ n∈ns,0<=n/\n<=t
section
def LY:Sp:=λvs H Q _=>∃ (b:Addr) (a q c s:Int),vs=[.ref b,.int s]/\aG H b a q c/\c<500000000/\1<=s/\s<=16 /\
 ∀ (l:Addr) (ns:List Int) (a' c':Int) (H':Hp),H l=none->H' l=some (.lst (ns.map V.int))->3<=ns.length->ns.length<=20->mH (9999 / s) ns->aG H' b a' q c'->c'<=c+40->SB b H H'->Q (.ref l) H'
theorem WQ (F:bK K "_law_some_boards" "_law_some_boards" BV f fd) (T:Txt K mg) (dj:Def P w K mg base "_law_take" 1 rq tT):aD P w K mg base bB 2 f fd GY LY:=by
 refine F.ok dF (λvs H Q E h=>?_) (λcdv A outer st H vs Q E hr h=>?_)
 .obtain ⟨b,a,q,c,s,rfl,_⟩:=h
  rfl
 obtain ⟨b,a,q,c,s,rfl,B,hc,hs0,hs1,k⟩:=h
 have nd:=dF.nd
 obtain ⟨NY,mR,m0,m1⟩:=U6 hs0 hs1
 refine ⟨_,(Zd (bA 2 nd (ah ZR Zi (Zl dj hr.m rfl (pc (pv 0) (pc (aA (Zo (K:=K) rfl) (ZI (pc Zi (pc Zi Zc))) (yY Mi rfl T.um Bo (pc (k7 aQ (Zl dj hr.m rfl (pc (pv 0) (pc Zi Zc))) Zi (Zs _)) Zc)) (λ_ _=>rfl)) Zc)))))
   (Zd (pq (k8 (pc (Zl dj hr.m rfl (pc (pv 0) (pc Zi Zc))) (pc (Zl dj hr.m rfl (pc (pv 0) (pc Zi Zc))) Zc))) (kh (K:=K) (n:=2) rfl rfl (Zt (bD 3 nd) (Zt (bD 4 nd) kj))))
   (Zd (bA 5 nd (oH (Zp cV (pv 4) Zi (Zs _)) (pv 4) (Zl dj hr.m rfl (pc (pv 0) (pc (aA (Zo (K:=K) rfl) (ZI (pc Zi (pc (Zk (Mj rfl) rfl T.vJ FY (pc Zi (pc (ah ko (ah yH Zi (pv 1)) Zi) Zc))) Zc))) (ah ko (pv 4) Zi) (λ_ _=>rfl)) Zc)))))
   (Zd (vz 6 (Zv (cj:=(Zg BV)) (oN:=cD) (N:=["_law_k", "_law_first", "_law_way"]) (own:=1) (js:=[5,3]) (by decide +kernel) rfl rfl) rfl nd rfl rfl (ZM rfl T.jx (pc (pv 2) Zc)) (λ_ _ _ _ _ _=>(bD 0 (show List.Nodup (["_law_k", "_law_first", "_law_way"]:List Str) by decide +kernel))) (λ_ _ _ _ _ _=>(ah ZR (pv 1) (ah mh (aA (Zo (K:=K) rfl) (ZI (pc Zi (pc Zi (pc Zi (pc Zi Zc))))) (pv 2) (λ_ _=>rfl)) (pv 0)))))
   (Zd (bA 7 nd (oH (Zp aQ (Zl dj hr.m rfl (pc (pv 0) (pc Zi Zc))) Zi (Zs _)) (ah yH Zi (pv 1)) (Zl dj hr.m rfl (pc (pv 0) (pc (ah ZR Zi (ah yH Zi (pv 1))) Zc)))))
   (Zd (aI (PW.pt (pw_or (PW.pt (tP (Zp aQ (pv 3) Zi (Zs _)) (tX (Zp (yU (K:=K) rfl) (pv 7) (pv 6) rfl)))) (mj (PW.pt (tP (Zp aQ (pv 7) (ah yH Zi (pv 1)) (Zs _)) (tX (Zp (yU (K:=K) rfl) (pv 7) (pv 6) rfl))))))) (Zj (pq (pv 7) (vh (pv 6) (cH l7 Zi) vA))) Zu)
   (Zd (kq aW3 rfl (ZM rfl T.jx (pc (ah ko (pv 2) Zi) Zc)) (bD 8 nd) (Zd (bA 9 nd (ah ZR (pv 8) (Zl dj hr.m rfl (pc (pv 0) (pc (ah ko (pv 2) (pv 8)) Zc)))))
   (Zj (pq (k8 (pc (aA (Zo (K:=K) rfl) (pv 6) (pv 9) (λ_ _=>rfl)) (pc (aA (Zo (K:=K) rfl) (pv 6) (pv 8) (λ_ _=>rfl)) Zc))) (kh (K:=K) (n:=2) rfl rfl (Zt (vh (pv 6) (pv 8) vA) (Zt (vh (pv 6) (pv 9) vA) kj)))))))
   (Zj (Zq (pv 6)))))))))),?_⟩
 generalize hm:(if 10000 / s - 480 > 1 then 10000 / s - 480 else 1)=m at m0 m1
 generalize ht:(9999:Int) / s=top at *
 refine hide λuu ee=>?_
 refine ⟨_,rfl,(sl 2),λp1 hp1=>⟨_,rfl,b,a,q,c,6,rfl,B.same (Zf hp1 _),by lia,by decide,by decide,λr1 a1 c1 H1 z9 Io B1 hc1 s1=>⟨rfl,.inr ⟨_,rfl,?_⟩⟩⟩⟩
 have q1:b≠p1:=Zb B.at' hp1
 obtain ⟨n,hn,hn'⟩:=Rz 5 18 (decide (V.int r1=V.int 0))
 refine ⟨p1,_,_,_,rfl,rfl,ak.of (s1 _ _ (aay q1) Za),hn,b,a1,q,c1,n,rfl,B1,by lia,by lia,by lia,λr2 a2 c2 H2 wQ wO B2 hc2 s2=>⟨_,_,rfl,rfl,?_⟩⟩
 have XE:3<=3+r2:=by lia
 have XD:3+r2<=20:=by lia
 have u2:SB b H H2:=(((Zf hp1 _).sb b).trans s1).trans s2
 dsimp only [bT]
 subst ee
 try dsimp only
 refine hide λuu ee=>?_
 refine ⟨_,rfl,b,a2,q,c2,4,rfl,B2,by lia,by decide,by decide,λr3 a3 c3 H3 uC z4 B3 hc3 s3=>?_⟩
 refine ⟨_,rfl,b,a3,q,c3,4,rfl,B3,by lia,by decide,by decide,λr4 a4 c4 MZ De Im W9 hc4 s4=>⟨(sl 2),λp4 IW=>⟨p4,_,rfl,bJ.of Za,rfl,_,_,rfl,_,_,rfl,rfl,?_⟩⟩⟩
 have B4:=W9.same (Zf IW (.tup [.int r3,.int r4]))
 have u4:SB b H (upd MZ p4 (.tup [.int r3,.int r4])):=((u2.trans s3).trans s4).trans ((Zf IW _).sb b)
 generalize upd MZ p4 (.tup [.int r3,.int r4])=H4 at *
 subst ee
 try dsimp only
 refine qW (λv G=>∃ z a' c',v=.int z/\0<=z/\z+456<=top/\aG G b a' q c'/\c'<=c4+1/\SB b H G) (λQ' k'=>?_) ?_
 .refine ⟨_,rfl,_,_,rfl,rfl,_,rfl,ZC (λEI=>⟨_,rfl,k' _ _ ⟨_,a4,c4,rfl,De,by lia,B4,by lia,u4⟩⟩) (λEI=>?_)⟩
  refine ⟨_,rfl,_,rfl,_,_,rfl,rfl,⟨by lia,by lia⟩,_,_,rfl,rfl,_,_,rfl,(sl 2),λp2 hp2=>?_⟩
  have q2:b≠p2:=Zb B4.at' hp2
  rw [hm]
  obtain ⟨n2,hn2,PJ⟩:=wX 100 m (r4 - 2) (by lia) (by lia)
  refine ⟨_,rfl,_,_,rfl,rfl,p2,_,_,_,rfl,rfl,ak.of Za,hn2,b,a4,q,c4,n2,rfl,B4.same (Zf hp2 _),by lia,by lia,by lia,λr5 a5 c5 H5 Oh Xn B5 hc5 s5=>?_⟩
  exact k' _ _ ⟨r5,a5,c5,rfl,Oh,by lia,B5,by lia,u4.trans (((Zf hp2 _).sb b).trans s5)⟩
 rintro _ H5 ⟨z,a5,c5,rfl,z0,z1,B5,hc5,u5⟩
 dsimp only [bT]
 refine hide λuu ee=>?_
 refine ⟨_,rfl,_,rfl,by lia,by lia,λl hl=>?_⟩
 have lX:H l=none:=F5 u5 B5.at' hl
 have jV:l≠b:=aay (Zb B5.at' hl)
 have hmn:(3+r2).toNat<=20:=by lia
 refine tZ (lo:=0) (n:=(3+r2).toNat) (l:=l) (λj ys σ G=>∃ (v0:Option V) (ns:List Int),σ=[v0,some (.int z),some (.int r3)]/\ys=ns.map V.int/\ns.length=j/\mH top ns/\G l=some (.lst ys)/\aq H5 G)
  ⟨none,[],rfl,rfl,rfl,λn hn=>(nomatch hn),Za,Zf hl _⟩ ?_ ?_
 .rintro j ys σ G hj hy ⟨v0,ns,rfl,rfl,hj',hb',h1,h2⟩
  refine ⟨_,rfl,(sl 4),λp hp=>?_⟩
  obtain ⟨n4,PF,D8⟩:=Ry r3 uC z4
  have np:l≠p:=Zb h1 hp
  have Po:(j:Int)<=19:=by lia
  refine ⟨_,rfl,p,_,_,_,rfl,rfl,ak.of Za,PF,_,rfl,_,_,rfl,rfl,.inl ⟨by lia,by lia⟩,_,_,rfl,rfl,dU.of (ajJ hmn (by decide)) hj hy (by rw [Ze np]; exact h1) ⟨_,ns++[z+n4 * (0+(j:Int))],rfl,by rw [auU]; rfl,by rw [aIt,hj']; rfl,λx hx=>?_,Za,λe o y=>?_⟩⟩
  .rcases bbY.mp hx with h | h
   .exact hb' x h
   .have ex:x=z+n4 * (0+(j:Int)):=by simpa using h
    subst ex
    rcases D8 with rfl | rfl | rfl
    .exact ⟨by lia,by lia⟩
    .exact ⟨by lia,by lia⟩
    .exact ⟨by lia,by lia⟩
  .rw [Ze (Zb y hl)]
   exact Zf hp _ _ _ (h2 _ _ y)
 rintro ys σ G hy ⟨v0,ns,rfl,rfl,hj',hb',h1,h2⟩
 have B6:=B5.same h2
 have u6:SB b H G:=u5.trans (h2.sb b)
 have pQ:3<=ns.length:=by lia
 have Pc:ns.length<=20:=by lia
 dsimp only [bT]
 subst ee
 try dsimp only
 refine qW (λv G'=>∃ z a' c',v=.int z/\0<=z/\z<=top/\aG G' b a' q c'/\c'<=c5+2/\SB b G G') (λQ' k'=>?_) ?_
 .refine ⟨_,rfl,b,a5,q,c5,5,rfl,B6,by lia,by decide,by decide,λr7 a7 c7 H7 Xm Xl B7 Je s7=>⟨rfl,_,rfl,ZC (λ_=>?_) (λ_=>?_)⟩⟩
  .refine ⟨_,rfl,_,_,rfl,rfl,⟨by lia,by lia⟩,?_⟩
   exact k' _ _ ⟨_,a7,c7,rfl,by rw [ht]; lia,by rw [ht]; lia,B7,by lia,s7⟩
  .refine ⟨_,rfl,_,rfl,_,_,rfl,rfl,⟨by lia,by lia⟩,_,_,rfl,rfl,b,a7,q,c7,_,rfl,B7,by lia,by rw [ht]; lia,by rw [ht]; lia,λr8 a8 c8 H8 Dd zZ B8 P4 s8=>?_⟩
   exact k' _ _ ⟨_,a8,c8,rfl,Dd,by rw [ht] at zZ; lia,B8,by lia,s7.trans s8⟩
 rintro _ H7 ⟨fr,a7,c7,rfl,Qq,Qp,B7,Je,s7⟩
 have h7:=s7 _ _ jV h1
 have u7:SB b H H7:=u6.trans s7
 refine qV (λσ G'=>∃ ns':List Int,σ=[some (.ref b),some (.int s),some (.int (3+r2)),some (.int r3),some (.int r4),some (.int z),some (.ref l),some (.int fr),none,none]/\G' l=some (.lst (ns'.map V.int))/\ns'.length=ns.length/\mH top ns'/\aG G' b a7 q c7/\SB b H G') (λD' _ k'=>?_) ?_
 .refine oq (λ_ G'=>G'=H7) (λQ' k''=>?_) ?_
  .refine yl (λ_ G'=>G'=H7) (λMU k3=>?_) ?_
   .exact ⟨_,rfl,rfl,_,rfl,ZC (λ_=>⟨_,rfl,_,rfl,l,_,rfl,.inl (ak.of h7),rfl,t9 _,_,rfl,k3 _ _ rfl⟩) (λ_=>k3 _ _ rfl)⟩
   .rintro cb _ rfl
    cases cb with
    | true=>exact cE rfl (k'' _ _ rfl)
    | false=>exact bu rfl ⟨_,rfl,_,rfl,_,_,rfl,rfl,⟨by lia,by lia⟩,rfl,_,rfl,ZC (λ_=>⟨_,rfl,_,rfl,l,_,rfl,.inl (ak.of h7),rfl,t9 _,_,rfl,k'' _ _ rfl⟩) (λ_=>k'' _ _ rfl)⟩
  .rintro cb _ rfl
   cases cb with
   | false=>exact bu rfl (k' _ _ ⟨ns,rfl,h7,rfl,hb',B7,u7⟩)
   | true =>
    refine cE rfl ⟨_,rfl,_,rfl,_,rfl,l,_,_,_,rfl,rfl,h7,Uc (by rw [aH5]; lia),k' _ _ ⟨ns.set (ns.length - 1) fr,rfl,?_,length_set,λx hx=>?_,B7.sb (ve l _ _) (aay jV),λe o n' y=>?_⟩⟩
    .rw [Za,aH5,Bu]
    .rcases FJ hx with h | h
     .exact hb' x h
     .subst h; exact ⟨Qq,Qp⟩
    .rw [Ze (Zb y lX)]; exact u7 _ _ n' y
 rintro _ H8 ⟨OC,rfl,h8,l8,b8,B8,u8⟩
 refine ⟨_,rfl,_,_,rfl,rfl,_,rfl,by lia,by lia,yQ (lo:=0) (n:=(3+r2 - 1).toNat) (λj σ G'=>∃ (ns':List Int) (v8 v9:Option V) (a' c':Int),σ=[some (.ref b),some (.int s),some (.int (3+r2)),some (.int r3),some (.int r4),some (.int z),some (.ref l),some (.int fr),v8,v9]/\G' l=some (.lst (ns'.map V.int))/\ns'.length=ns.length/\mH top ns'/\aG G' b a' q c'/\c'<=c7+(j:Int)/\SB b H G')
  ⟨OC,_,_,a7,c7,rfl,h8,l8,b8,B8,by lia,u8⟩ ?_ ?_⟩
 .rintro j σ G' hj ⟨ns',v8,v9,a',c',rfl,pV,l',b',B',hc',u'⟩
  have Po:(j:Int)<=18:=by lia
  have jl:(j:Int)+1<3+r2:=by lia
  refine ⟨_,rfl,_,rfl,_,rfl,_,rfl,_,_,rfl,rfl,b,a',q,c',_,rfl,B',by lia,by lia,by lia,λr9 a9 c9 H9 Og Of B9 P1 s9=>⟨_,_,rfl,rfl,?_⟩⟩
  have h9:=s9 _ _ jV pV
  obtain ⟨x1,kR,DM⟩:=tS (ns:=ns') (k:=0+(j:Int)+r9) (by lia) (by lia)
  obtain ⟨x2,xO,DL⟩:=tS (ns:=ns') (k:=0+(j:Int)) (by lia) (by lia)
  refine ⟨_,rfl,_,rfl,l,_,_,_,rfl,rfl,ak.of h9,kR,_,rfl,_,rfl,l,_,_,_,rfl,rfl,ak.of h9,xO,(sl 2),λt ht'=>?_⟩
  have xj:l≠t:=Zb h9 ht'
  refine ⟨t,_,rfl,bJ.of Za,rfl,_,_,rfl,_,rfl,_,rfl,l,_,_,_,rfl,rfl,(by rw [Ze xj]; exact h9),E5 (by lia) (by rw [aH5]; lia),?_⟩
  refine ⟨_,_,rfl,_,rfl,_,rfl,l,_,_,_,rfl,rfl,Za,E5 (by lia) (by rw [length_set,aH5]; lia),rfl,?_⟩
  refine ⟨(ns'.set (0+(j:Int)).toNat x1).set (0+(j:Int)+r9).toNat x2,_,_,a9,c9,rfl,by rw [Za,Bu,Bu],by rw [length_set,length_set]; exact l',λx hx=>?_,?_,by lia,λe o n' y=>?_⟩
  .rcases FJ hx with h | h
   .rcases FJ h with h | h
    .exact b' x h
    .subst h; exact b' _ DM
   .subst h; exact b' _ DL
  .exact ((B9.same (Zf ht' _)).sb (ve l _ _) (aay jV)).sb (ve l _ _) (aay jV)
  .have ne:e≠l:=Zb y lX
   rw [Ze ne,Ze ne]
   exact Zf ht' _ _ _ (s9 _ _ n' (u' _ _ n' y))
 .rintro σ G' ⟨ns',v8,v9,a',c',rfl,pV,l',b',B',hc',u'⟩
  exact ⟨_,rfl,k l ns' a' c' G' lX pV (by lia) (by lia) b' B' (by lia) u'⟩
end
section
def KL:Sp:=λvs H Q _=>∃ (b:Addr) (a q c:Int),vs=[.ref b]/\aG H b a q c/\c<500000000 /\
 ∀ (p:Addr) (sh pl:Int) (r:Str) (a' c':Int) (H':Hp),H' p=some (.tup [.int sh,.int pl,.str r])->1<=sh->sh<=64->1<=pl->pl<=16->mC r->aG H' b a' q c'->c'<=c+5->SB b H H'->Q (.ref p) H'
theorem Ub (F:bK K "_law_shape" "_law_shape" Fj f fd) (T:Txt K mg) (dj:Def P w K mg base "_law_take" 1 rq tT):aD P w K mg base bB 2 f fd Fi KL:=by
 refine F.ok jq (λvs H Q E h=>?_) (λcdv A outer st H vs Q E hr h=>?_)
 .obtain ⟨b,a,q,c,rfl,_⟩:=h
  rfl
 obtain ⟨b,a,q,c,rfl,B,hc,k⟩:=h
 have nd:=jq.nd
 refine ⟨_,(Zd (bA 1 nd (k7 aQ (Zl dj hr.m rfl (pc (pv 0) (pc Zi Zc))) Zi (Zs _)))
   (Zd (bA 2 nd (oH (ZY (pv 1)) (ah ZR Zi (Zl dj hr.m rfl (pc (pv 0) (pc Zi Zc)))) (aA (Zo (K:=K) rfl) (ZI (pc Zi (pc Zi (pc Zi (pc Zi (pc Zi Zc)))))) (Zl dj hr.m rfl (pc (pv 0) (pc Zi Zc))) (λ_ _=>rfl))))
   (Zj (Zq (k8 (pc (pv 2) (pc (ah ZR Zi (Zl dj hr.m rfl (pc (pv 0) (pc (oH (ZY (pv 1)) Zi Zi) Zc)))) (pc (aA (Zo (K:=K) rfl) (ZI (pc rA (pc rA (pc rA Zc)))) (Zl dj hr.m rfl (pc (pv 0) (pc Zi Zc))) (λ_ _=>rfl)) Zc)))))))),?_⟩
 refine ⟨_,rfl,b,a,q,c,6,rfl,B,by lia,by decide,by decide,λr1 a1 c1 H1 z9 Io B1 hc1 s1=>⟨rfl,?_⟩⟩
 generalize decide (V.int r1=V.int 0)=Jt
 dsimp only
 refine qW (λv G=>∃ z a' c',v=.int z/\1<=z/\z<=64/\aG G b a' q c'/\c'<=c1+1/\SB b H G) (λQ' k'=>?_) ?_
 .refine ⟨_,rfl,_,rfl,?_⟩
  cases Jt with
  | true=>exact cE rfl ⟨_,rfl,b,a1,q,c1,64,rfl,B1,by lia,by decide,by decide,λr2 a2 c2 H2 wQ wO B2 hc2 s2=>⟨_,_,rfl,rfl,k' _ _ ⟨_,a2,c2,rfl,by lia,by lia,B2,by lia,s1.trans s2⟩⟩⟩
  | false =>
   refine bu rfl ⟨(sl 5),λp0 hp0=>⟨_,rfl,b,a1,q,c1,5,rfl,B1.same (Zf hp0 _),by lia,by decide,by decide,λr2 a2 c2 H2 wQ wO B2 hc2 s2=>?_⟩⟩
   have q0:b≠p0:=Zb B1.at' hp0
   obtain ⟨sh,hsh,gO,iX⟩:=wW r2 wQ wO
   exact ⟨p0,_,_,_,rfl,rfl,ak.of (s2 _ _ (aay q0) Za),hsh,k' _ _ ⟨_,a2,c2,rfl,gO,iX,B2,by lia,s1.trans (((Zf hp0 _).sb b).trans s2)⟩⟩
 rintro _ H2 ⟨sh,a2,c2,rfl,gO,iX,B2,hc2,u2⟩
 refine ⟨_,rfl,_,rfl,?_⟩
 refine JC (te:=zR _ _ _) (λv G=>∃ z,v=.int z/\4<=z/\z<=16/\G=H2) (λQ' k'=>?_) ?_
 .refine ⟨_,rfl,_,rfl,?_⟩
  cases Jt with
  | true=>exact cE rfl (k' _ _ ⟨_,rfl,by decide,by decide,rfl⟩)
  | false=>exact bu rfl (k' _ _ ⟨_,rfl,by decide,by decide,rfl⟩)
 rintro _ _ ⟨n,rfl,n0,n1,rfl⟩
 refine ⟨b,a2,q,c2,_,rfl,B2,by lia,by lia,by lia,λr3 a3 c3 H3 uC z4 B3 hc3 s3=>⟨_,_,rfl,rfl,(sl 3),λp3 hp3=>⟨_,rfl,b,a3,q,c3,3,rfl,B3.same (Zf hp3 _),by lia,by decide,by decide,λr4 a4 c4 H4 De Im B4 hc4 s4=>?_⟩⟩⟩
 have q3:b≠p3:=Zb B3.at' hp3
 obtain ⟨ru,qP,Pp⟩:=wU r4 De Im
 refine ⟨p3,_,_,_,rfl,rfl,ak.of (s4 _ _ (aay q3) Za),qP,(sl 3),λpp hpp=>?_⟩
 exact k pp sh _ ru a4 c4 _ Za gO iX (by lia) (by lia) Pp (B4.same (Zf hpp _)) (by lia)
  (((u2.trans s3).trans (((Zf hp3 _).sb b).trans s4)).trans ((Zf hpp _).sb b))
def KJ:Sp:=λvs H Q _=>∃ (b:Addr) (a q c fw mt:Int),vs=[.ref b,.int fw,.int mt]/\aG H b a q c/\c<400000000/\0<=fw/\fw<=mt/\mt<=400 /\
 ∀ (l:Addr) (ns:List Int) (a' c':Int) (H':Hp),H l=none->H' l=some (.lst (ns.map V.int))->(ns.length:Int)<=mt->mH 9999 ns->aG H' b a' q c'->c'<=c+2000->SB b H H'->Q (.ref l) H'
theorem wV (x0 x1 x2 x3 x4 r:Int) (h0:0<=r) (h1:r<5):∃ n:Int,cY [V.int x0,V.int x1,V.int x2,V.int x3,V.int x4] r=some (.int n)/\(n=x0\/n=x1\/n=x2\/n=x3\/n=x4):=by
 obtain ⟨x,hx,m⟩:=Bt (xs:=[V.int x0,V.int x1,V.int x2,V.int x3,V.int x4]) h0 (by show r<((5:Nat):Int); lia)
 simp only [apQ,atr,a4q] at m
 rcases m with rfl | rfl | rfl | rfl | rfl
 .exact ⟨_,hx,.inl rfl⟩
 .exact ⟨_,hx,.inr (.inl rfl)⟩
 .exact ⟨_,hx,.inr (.inr (.inl rfl))⟩
 .exact ⟨_,hx,.inr (.inr (.inr (.inl rfl)))⟩
 .exact ⟨_,hx,.inr (.inr (.inr (.inr rfl)))⟩
theorem Rx (x y:Int):(if y<x then y else x)<=x/\(if y<x then y else x)<=y/\((if y<x then y else x)=x\/(if y<x then y else x)=y):=by
 split <;> refine ⟨by lia,by lia,by lia⟩
theorem Ua (F:bK K "_law_asked" "_law_asked" Fg f fd) (T:Txt K mg) (dj:Def P w K mg base "_law_take" 1 rq tT) (Dh:Def P w K mg base "_law_some_boards" 2 GY LY):aD P w K mg base bB 3 f fd FP KJ:=by
 refine F.ok ju (λvs H Q E h=>?_) (λcdv A outer st H vs Q E hr h=>?_)
 .obtain ⟨b,a,q,c,fw,mt,rfl,_⟩:=h
  rfl
 obtain ⟨b,a,q,c,fw,mt,rfl,B,hc,XY,hfm,hm1,k⟩:=h
 have nd:=ju.nd
 refine ⟨_,(Zd (bA 3 nd (Zl Dh hr.m rfl (pc (pv 0) (pc Zi Zc))))
   (Zd (bA 4 nd (oH (Zp aQ (Zl dj hr.m rfl (pc (pv 0) (pc Zi Zc))) Zi (Zs _)) (Zl dj hr.m rfl (pc (pv 0) (pc (ah ZR (pv 2) Zi) Zc))) (Zl dj hr.m rfl (pc (pv 0) (pc (ah ZR (pv 1) Zi) Zc)))))
   (Zd (AK (i:=5) (j:=6) rfl nd rfl rfl (by decide) rfl rfl (pc (Zl dj hr.m rfl (pc (pv 0) (pc Zi Zc))) (pc (ZI Zc) Zc)) rfl)
   (Zd (kq aW3 rfl (ZM rfl T.jx (pc (pv 4) Zc)) (bD 7 nd) (Zd (bA 8 nd (oH (PW.pt (pw_or (Zp (GF (K:=K) rfl) (pv 5) (k8 (pc Zi (pc Zi Zc))) rfl) (mj (PW.pt (tP (Zp aQ (pv 5) Zi (Zs _)) (tX (Zp aQ (ah jd (pv 7) Zi) Zi (Zs _)))))))) (aA (Zo (K:=K) rfl) (pv 3) (Zl dj hr.m rfl (pc (pv 0) (pc (Zk (Zm (K:=K) rfl) rfl T.dX a21 (pc (pv 3) Zc)) Zc))) (λ_ _=>rfl)) Zi))
   (Zd (bA 9 nd (ah jd (pv 7) (ah ko (ah mh Zi (Zk (Zm (K:=K) rfl) rfl T.dX a21 (pc (pv 3) Zc))) Zi)))
   (Zd (bA 10 nd (aA (Zo (K:=K) rfl) (pv 3) (Zk (VN rfl) rfl T.zK Lx (pc (pv 9) (pc (ah ko (ah ko (ah mh Zi (Zk (Zm (K:=K) rfl) rfl T.dX a21 (pc (pv 3) Zc))) Zi) (pv 9)) Zc))) (λ_ _=>rfl)))
   (Zd (bA 11 nd (oH (Zp aQ (Zl dj hr.m rfl (pc (pv 0) (pc Zi Zc))) Zi (Zs _)) (pv 8) (aA (Zo (K:=K) rfl) (pv 3) Zi (λ_ _=>rfl))))
   (Zj (Zy (jm (K:=K) rfl (bI a7f axz aXi ZB (pv 6) (pc (aA (Zo (K:=K) rfl) (ZI (pc (pv 8) (pc (aA (Zo (K:=K) rfl) (pv 3) (ah jd (pv 7) (Zk (Zm (K:=K) rfl) rfl T.dX a21 (pc (pv 3) Zc))) (λ_ _=>rfl)) (pc (oH (Zp aQ (ah jd (pv 7) Zi) Zi (Zs _)) (pv 8) (aA (Zo (K:=K) rfl) (pv 3) (ah jd (pv 7) (Zk (Zm (K:=K) rfl) rfl T.dX a21 (pc (pv 3) Zc))) (λ_ _=>rfl))) (pc (pv 10) (pc (pv 11) Zc)))))) (pv 5) (λ_ _=>rfl)) Zc))))))))))
   (Zj (Zq (pv 6))))))),?_⟩
 refine ⟨_,rfl,b,a,q,c,1,rfl,B,by lia,by decide,by decide,λl1 fT a1 c1 H1 hl1 e1 g3 XZ bd B1 hc1 s1=>?_⟩
 have bd':∀ n∈fT,0<=n/\n<=9999:=bd
 have uM:l1≠b:=λe=>by rw [e,B.at'] at hl1; cases hl1
 dsimp only
 refine qW (λv G=>∃ z a' c',v=.int z/\0<=z/\z<=mt/\aG G b a' q c'/\c'<=c1+2/\SB b H1 G) (λQ' k'=>?_) ?_
 .refine ⟨_,rfl,b,a1,q,c1,8,rfl,B1,by lia,by decide,by decide,λr2 a2 c2 H2 wQ wO B2 hc2 s2=>⟨rfl,_,rfl,ZC (λ_=>?_) (λ_=>?_)⟩⟩
  .refine ⟨_,rfl,_,rfl,_,_,rfl,rfl,b,a2,q,c2,_,rfl,B2,by lia,by lia,by lia,λr3 a3 c3 H3 uC z4 B3 hc3 s3=>?_⟩
   exact k' _ _ ⟨_,a3,c3,rfl,uC,by lia,B3,by lia,s2.trans s3⟩
  .refine ⟨_,rfl,_,rfl,_,_,rfl,rfl,b,a2,q,c2,_,rfl,B2,by lia,by lia,by lia,λr3 a3 c3 H3 uC z4 B3 hc3 s3=>?_⟩
   exact k' _ _ ⟨_,a3,c3,rfl,uC,by lia,B3,by lia,s2.trans s3⟩
 rintro _ H3 ⟨sz,a3,c3,rfl,Xh,Xg,B3,hc3,s3⟩
 refine ⟨_,rfl,b,a3,q,c3,5,rfl,B3,by lia,by decide,by decide,λwy a4 c4 H4 NU NT B4 hc4 s4=>⟨(sl 0),λl hl=>⟨_,_,rfl,?_⟩⟩⟩
 have u4:SB b H H4:=s1.trans (s3.trans s4)
 have lX:H l=none:=F5 u4 B4.at' hl
 have jV:l≠b:=aay (Zb B4.at' hl)
 have e4:=s4 _ _ uM (s3 _ _ uM e1)
 have Ae:l1≠l:=Zb e4 hl
 have L0:(3:Int)<=fT.length:=by lia
 have L1:(fT.length:Int)<=20:=by lia
 refine ⟨_,rfl,_,rfl,by lia,by lia,yQ (lo:=0) (n:=sz.toNat) (λj σ G=>∃ (v7 v8 v9 v10 v11:Option V) (ns:List Int) (a' c':Int),σ=[some (.ref b),some (.int fw),some (.int mt),some (.ref l1),some (.int sz),some (.int wy),some (.ref l),v7,v8,v9,v10,v11]/\G l=some (.lst (ns.map V.int))/\ns.length=j/\mH 9999 ns/\G l1=some (.lst (fT.map V.int))/\aG G b a' q c'/\c'<=c4+2 * (j:Int)/\SB b H G)
  ⟨_,_,_,_,_,[],a4,c4,rfl,Za,rfl,λn hn=>(nomatch hn),by rw [Ze Ae]; exact e4,B4.same (Zf hl _),by lia,u4.trans ((Zf hl _).sb b)⟩ ?_ ?_⟩
 .rintro j σ G hj ⟨v7,v8,v9,v10,v11,ns,a',c',rfl,h1,h2,h3,h4,h5,h6,h7⟩
  have Pn:(j:Int)<400:=by lia
  refine qW (λv G'=>∃ z EN c'',v=.int z/\0<=z/\z<=9999/\aG G' b EN q c''/\c''<=c'+1/\SB b G G') (λQ' k'=>?_) ?_
  .refine EF (λ_ G'=>aq G G') (λMU k''=>?_) ?_
   .refine ⟨_,rfl,(sl 2),λp hp=>⟨p,_,rfl,.inr (bJ.of Za),rfl,rfl,_,rfl,?_⟩⟩
    have sp:=Zf hp (.tup [.int 0,.int 4])
    generalize (if false=true then !sD (V.int wy) [V.int 0,V.int 4] else sD (V.int wy) [V.int 0,V.int 4])=cw
    cases cw with
    | true=>exact cE rfl (k'' _ _ sp)
    | false=>exact bu rfl ⟨_,rfl,rfl,_,rfl,ZC (λ_=>⟨_,rfl,_,_,rfl,rfl,(by show (0:Int)<3; decide),rfl,_,rfl,k'' _ _ sp⟩) (λ_=>k'' _ _ sp)⟩
   .rintro cb G' sg
    have B':=h5.same sg
    have Aw:=sg _ _ h4
    cases cb with
    | false=>exact bu rfl (k' _ _ ⟨0,a',c',rfl,by decide,by decide,B',by lia,sg.sb b⟩)
    | true =>
     refine cE rfl ⟨_,rfl,_,rfl,_,rfl,l1,_,rfl,.inl (ak.of Aw),b,a',q,c',_,rfl,B',by lia,by rw [aH5]; lia,by rw [aH5]; lia,λr8 a8 c8 H8 Dd zZ B8 P4 s8=>?_⟩
     rw [aH5] at zZ
     obtain ⟨x1,kR,DM⟩:=tS (ns:=fT) Dd zZ
     obtain ⟨y0,y1⟩:=bd' _ DM
     exact ⟨l1,_,_,_,rfl,rfl,ak.of (s8 _ _ uM Aw),kR,k' _ _ ⟨_,a8,c8,rfl,y0,y1,B8,by lia,(sg.sb b).trans s8⟩⟩
  rintro _ G1 ⟨dr,a1',JD,rfl,JB,JA,Xb,P7,t1⟩
  have g4:=t1 _ _ uM h4
  have g1:=t1 _ _ jV h1
  dsimp only [bT]
  refine hide λuu ee=>?_
  have jE:(fT.map V.int).length=fT.length:=aH5 ..
  refine ⟨_,rfl,_,rfl,l1,_,rfl,.inl (ak.of g4),_,_,rfl,rfl,.inl ⟨by decide,by decide⟩,_,_,rfl,rfl,_,_,rfl,rfl,(by show (0:Int)<_; rw [jE]; lia),?_⟩
  dsimp only [bT]
  subst ee
  try dsimp only
  refine hide λuu ee=>?_
  obtain ⟨x2,xO,DL⟩:∃ x2,cY (fT.map V.int) (if 2 * (fT.length:Int) - 2 - (0+(j:Int)) % (2 * (fT.length:Int) - 2)<(0+(j:Int)) % (2 * (fT.length:Int) - 2) then 2 * (fT.length:Int) - 2 - (0+(j:Int)) % (2 * (fT.length:Int) - 2) else (0+(j:Int)) % (2 * (fT.length:Int) - 2))=some (.int x2)/\x2∈fT:=by
   have Yc:0<=(0+(j:Int)) % (2 * (fT.length:Int) - 2):=pZ _ (by lia)
   have Yb:(0+(j:Int)) % (2 * (fT.length:Int) - 2)<2 * (fT.length:Int) - 2:=pY _ (by lia)
   generalize (0+(j:Int)) % (2 * (fT.length:Int) - 2)=bk at *
   obtain ⟨XI,XH,XG⟩:=Rx bk (2 * (fT.length:Int) - 2 - bk)
   generalize (if 2 * (fT.length:Int) - 2 - bk<bk then 2 * (fT.length:Int) - 2 - bk else bk)=mi at *
   exact tS (by lia) (by lia)
  obtain ⟨Xe,Xd⟩:=bd' _ DL
  refine ⟨_,rfl,_,rfl,_,rfl,l1,_,rfl,.inl (ak.of g4),_,_,rfl,rfl,.inl ⟨by decide,by decide⟩,_,_,rfl,rfl,_,rfl,_,_,rfl,rfl,_,_,rfl,l1,_,_,_,rfl,rfl,ak.of g4,(by rw [jE]; exact xO),?_⟩
  dsimp only [bT]
  subst ee
  try dsimp only
  obtain ⟨x0,Pw,OW⟩:=tS (ns:=fT) (k:=0) (by decide) (by lia)
  obtain ⟨of0,Ou⟩:=bd' _ OW
  refine qW (λv G'=>∃ z EN c'',v=.int z/\0<=z/\z<=9999/\aG G' b EN q c''/\c''<=JD+1/\SB b G1 G') (λQ' k'=>?_) ?_
  .refine ⟨_,rfl,b,a1',q,JD,2,rfl,Xb,by lia,by decide,by decide,λr9 a9 c9 H9 Og Of B9 P1 s9=>⟨rfl,_,rfl,ZC (λ_=>⟨_,rfl,k' _ _ ⟨_,a9,c9,rfl,JB,JA,B9,by lia,s9⟩⟩) (λ_=>⟨_,rfl,l1,_,_,_,rfl,rfl,ak.of (s9 _ _ uM g4),Pw,k' _ _ ⟨_,a9,c9,rfl,of0,Ou,B9,by lia,s9⟩⟩)⟩⟩
  rintro _ G2 ⟨ft,a2',EI,rfl,X3,X0,Xa,P6,t2⟩
  have k4:=t2 _ _ uM g4
  have k1:=t2 _ _ jV g1
  have O3:0<=(0+(j:Int)) % (fT.length:Int):=pZ _ (by lia)
  have O2:(0+(j:Int)) % (fT.length:Int)<fT.length:=pY _ (by lia)
  obtain ⟨x3,IT,OV⟩:=tS (ns:=fT) O3 O2
  obtain ⟨Nc,Nb⟩:=bd' _ OV
  refine ⟨_,rfl,.inl ⟨rfl,_,ak.of k1⟩,_,rfl,_,rfl,_,rfl,_,rfl,l1,_,rfl,.inl (ak.of k4),_,_,rfl,rfl,(by show (0:Int)<_; rw [jE]; lia),l1,_,_,_,rfl,rfl,ak.of k4,(by rw [jE]; exact IT),?_⟩
  refine JC (te:=zR _ _ _) (λv G'=>∃ z,v=.int z/\0<=z/\z<=9999/\G'=G2) (λQ' k'=>?_) ?_
  .refine ⟨_,rfl,_,_,rfl,rfl,(by show (0:Int)<3; decide),rfl,_,rfl,ZC (λ_=>⟨_,rfl,k' _ _ ⟨_,rfl,JB,JA,rfl⟩⟩) (λ_=>?_)⟩
   exact ⟨_,rfl,_,rfl,_,rfl,l1,_,rfl,.inl (ak.of k4),_,_,rfl,rfl,(by show (0:Int)<_; rw [jE]; lia),l1,_,_,_,rfl,rfl,ak.of k4,(by rw [jE]; exact IT),k' _ _ ⟨_,rfl,Nc,Nb,rfl⟩⟩
  rintro _ _ ⟨mid,rfl,O1,O0,rfl⟩
  obtain ⟨pk,hpk,D6⟩:=wV dr x3 mid x2 ft wy NU NT
  refine ⟨_,rfl,_,rfl,(sl 5),λp hp=>⟨_,rfl,p,_,_,_,rfl,rfl,ak.of Za,hpk,l,_,_,rfl,rfl,(by rw [Ze (Zb k1 hp)]; exact k1),Zn (by rw [aH5]; lia),?_⟩⟩
  have Om:0<=pk/\pk<=9999:=by rcases D6 with rfl | rfl | rfl | rfl | rfl <;> exact ⟨by lia,by lia⟩
  refine ⟨_,_,_,_,_,ns++[pk],a2',EI,rfl,by rw [Za,auU]; rfl,by rw [aIt,h2]; rfl,λn hn=>?_,?_,(Xa.same (Zf hp _)).sb (ve l _ _) (aay jV),by lia,λe o n' y=>?_⟩
  .rcases bbY.mp hn with h | h
   .exact h3 n h
   .have en:n=pk:=by simpa using h
    subst en; exact Om
  .rw [Ze Ae]; exact Zf hp _ _ _ k4
  .rw [Ze (Zb y lX)]
   exact Zf hp _ _ _ (t2 _ _ n' (t1 _ _ n' (h7 _ _ n' y)))
 .rintro σ G ⟨v7,v8,v9,v10,v11,ns,a',c',rfl,h1,h2,h3,h4,h5,h6,h7⟩
  exact ⟨_,rfl,k l ns a' c' G lX h1 (by lia) h3 h5 (by lia) h7⟩
end
def Sc:V->Prop
 | .int _=>True
 | .bl _=>True
 | .aX=>True
 | .str _=>True
 | _=>False
def Eqv:Nat->Hp->V->V->Prop
 | 0,_,x,y=>x=y/\Sc x
 | n+1,H,x,y=>(x=y/\Sc x)\/∃ (a b:Addr) (xs ys:List V),x=.ref a/\y=.ref b/\((H a=some (.lst xs)/\H b=some (.lst ys))\/(H a=some (.tup xs)/\H b=some (.tup ys)))/\xs.length=ys.length/\xs.length<=1000/\∀ (i:Nat) (u v:V),xs[i]?=some u->ys[i]?=some v->Eqv n H u v
theorem Eqv.same:∀ {n:Nat} {H H':Hp} {x y:V},Eqv n H x y->aq H H'->Eqv n H' x y
 | 0,_,_,_,_,h,_=>h
 | n+1,H,H',x,y,h,s=>by
  rcases h with h | ⟨a,b,xs,ys,h1,h2,h3,h5,h6,h7⟩
  .exact .inl h
  .refine .inr ⟨a,b,xs,ys,h1,h2,?_,h5,h6,λi u v e1 e2=>(h7 i u v e1 e2).same s⟩
   rcases h3 with ⟨h3,h4⟩ | ⟨h3,h4⟩
   .exact .inl ⟨s _ _ h3,s _ _ h4⟩
   .exact .inr ⟨s _ _ h3,s _ _ h4⟩
def A9 (n:Nat):Sp:=λvs H Q _=>∃ x y,vs=[x,y]/\Eqv n H x y/\∀ H',aq H H'->Q (.bl true) H'
theorem zL {H:Hp} {a:Addr} {xs:List V} (h:H a=some (.tup xs)):kE H (.ref a)=some "tuple" := by simp only [kE,h]
theorem zM {H:Hp} {a:Addr} {xs:List V} (h:H a=some (.lst xs)):kE H (.ref a)=some "list" := by simp only [kE,h]
section
theorem KI {n:Nat} {Ie:Sp} (lQ:∀ m,n=m+1->Ie=A9 m) (F:bK K "_law_same" "_law_same" rm f fd) (T:Txt K mg) (vL:Def P w K mg base "_law_same" n rj Ie):aD P w K mg base bB (n+1) f fd rj (A9 n):=by
 refine F.ok kL (λvs H Q E h=>?_) (λcdv A outer st H vs Q E hr h=>?_)
 .obtain ⟨x,y,rfl,_⟩:=h
  rfl
 obtain ⟨x,y,rfl,h,k⟩:=h
 have nd:=kL.nd
 refine ⟨_,(Zd (aI (ZY (Zk Mx rfl T.jO ZO (pc (pv 1) (pc (k8 (pc (ZW (v:=.ty "list") rfl T.nB ZU rfl) (pc (ZW (v:=.ty "tuple") rfl T.zH MJ rfl) Zc))) Zc)))) (Zd (aI (PW.pt (pw_or (k9 (ZY (Zk Mx rfl T.jO ZO (pc (pv 0) (pc (k8 (pc (ZW (v:=.ty "list") rfl T.nB ZU rfl) (pc (ZW (v:=.ty "tuple") rfl T.zH MJ rfl) Zc))) Zc))))) (mj (Zp iO (Zk mO rfl T.jO ZO (pc (pv 0) (pc (ZW (v:=.ty "list") rfl T.nB ZU rfl) Zc))) (Zk mO rfl T.jO ZO (pc (pv 1) (pc (ZW (v:=.ty "list") rfl T.nB ZU rfl) Zc))) (Zs _))))) (Zj (Zq bO)) Zu)
   (Zj (Zq (tO (k7 aQ (Zk (Zm (K:=K) rfl) rfl T.dX a21 (pc (pv 0) Zc)) (Zk (Zm (K:=K) rfl) rfl T.dX a21 (pc (pv 1) Zc)) (Zs _)) (vm (Zk (Gn rfl) rfl T.vK FZ (pc (oG (Zv (cj:=(Zg rm)) (oN:=ku) (N:=["_law_one", "_law_other"]) (own:=2) (js:=[]) (by decide +kernel) rfl rfl) rfl (RW rfl T.vH (pc (pv 0) (pc (pv 1) Zc))) (λ_ _ _ _ _ _=>(kh (K:=K) (n:=2) rfl rfl (Zt (bD 0 (show List.Nodup (["_law_one", "_law_other"]:List Str) by decide +kernel)) (Zt (bD 1 (show List.Nodup (["_law_one", "_law_other"]:List Str) by decide +kernel)) kj)))) (λ_ _ _ _ _ _=>(Zl vL hr.m rfl (pc (pv 0) (pc (pv 1) Zc))))) Zc))))))) Zu)
   (Zd (aI (PW.pt (pw_or (yy (AL (pv 1))) (mj (ZY (Zk mO rfl T.jO ZO (pc (pv 1) (pc (ZW (v:=.ty "str") rfl T.vI Gq rfl) Zc))))))) (Zj (Zq (tO (k7 aQ (pv 0) (pv 1) (Zs _)) (vm (k7 aQ (Zk mO rfl T.jO ZO (pc (pv 0) (pc (ZW (v:=.ty "str") rfl T.vI Gq rfl) Zc))) (Zk mO rfl T.jO ZO (pc (pv 1) (pc (ZW (v:=.ty "str") rfl T.vI Gq rfl) Zc))) (Zs _)))))) Zu)
   (Zj (Zq (tO (Zk mO rfl T.jO ZO (pc (pv 0) (pc (ZW (v:=.ty "int") rfl T.um Bo rfl) Zc))) (tO (k7 aQ (Zk mO rfl T.jO ZO (pc (pv 0) (pc (ZW (v:=.ty "bool") rfl T.vM GG rfl) Zc))) (Zk mO rfl T.jO ZO (pc (pv 1) (pc (ZW (v:=.ty "bool") rfl T.vM GG rfl) Zc))) (Zs _)) (vm (k7 aQ (pv 0) (pv 1) (Zs _))))))))),?_⟩
 have split:(x=y/\Sc x)\/∃ (m:Nat) (a b:Addr) (xs ys:List V),n=m+1/\x=.ref a/\y=.ref b/\((H a=some (.lst xs)/\H b=some (.lst ys))\/(H a=some (.tup xs)/\H b=some (.tup ys)))/\xs.length=ys.length/\xs.length<=1000/\∀ (i:Nat) (u v:V),xs[i]?=some u->ys[i]?=some v->Eqv m H u v:=by
  cases n with
  | zero=>exact .inl h
  | succ m =>
   rcases h with h | ⟨a,b,xs,ys,h1,h2,h3,h5,h6,h7⟩
   .exact .inl h
   .exact .inr ⟨m,a,b,xs,ys,rfl,h1,h2,h3,h5,h6,h7⟩
 rcases split with ⟨rfl,hs⟩ | ⟨m,a,b,xs,ys,rfl,rfl,rfl,⟨ha,hb⟩ | ⟨ha,hb⟩,hl,hlen,hi⟩
 .have key:∀ p,H p=none->∀ o,aq H (upd H p o):=λp hp o=>Zf hp o
  cases x with
  | int j =>
   refine ⟨_,rfl,(sl 2),λp hp=>⟨_,_,_,_,p,rfl,Za,rfl,by decide,by decide,_,rfl,bu (by decide) ?_⟩⟩
   refine ⟨_,rfl,_,rfl,bu (by simp) ⟨_,rfl,_,_,_,rfl,rfl,by decide,_,rfl,bu (by decide) ?_⟩⟩
   refine ⟨_,rfl,_,_,_,rfl,rfl,by decide,_,rfl,cE (by decide) ⟨_,rfl,_,_,_,rfl,rfl,by decide,_,rfl,_,_,_,rfl,rfl,by decide,rfl,_,rfl,cE (by decide) ⟨_,rfl,_,rfl,rfl,?_⟩⟩⟩
   rw [aPy rfl]
   exact k _ (key p hp _)
  | bl j =>
   refine ⟨_,rfl,(sl 2),λp hp=>⟨_,_,_,_,p,rfl,Za,rfl,by decide,by decide,_,rfl,bu (by decide) ?_⟩⟩
   refine ⟨_,rfl,_,rfl,bu (by simp) ⟨_,rfl,_,_,_,rfl,rfl,by decide,_,rfl,bu (by decide) ?_⟩⟩
   refine ⟨_,rfl,_,_,_,rfl,rfl,by decide,_,rfl,cE (by decide) ⟨_,rfl,_,_,_,rfl,rfl,by decide,_,rfl,_,_,_,rfl,rfl,by decide,rfl,_,rfl,cE (by decide) ⟨_,rfl,_,rfl,rfl,?_⟩⟩⟩
   rw [aPy rfl]
   exact k _ (key p hp _)
  | aX =>
   refine ⟨_,rfl,(sl 2),λp hp=>⟨_,_,_,_,p,rfl,Za,rfl,by decide,by decide,_,rfl,bu (by decide) ?_⟩⟩
   refine ⟨_,rfl,_,rfl,cE (by simp) (cE rfl ⟨_,rfl,_,rfl,rfl,_,rfl,cE (by decide) ⟨_,rfl,_,_,_,rfl,rfl,by decide,_,rfl,_,_,_,rfl,rfl,by decide,rfl,?_⟩⟩)⟩
   rw [aPy rfl]
   exact k _ (key p hp _)
  | str z =>
   refine ⟨_,rfl,(sl 2),λp hp=>⟨_,_,_,_,p,rfl,Za,rfl,by decide,by decide,_,rfl,bu (by decide) ?_⟩⟩
   refine ⟨_,rfl,_,rfl,bu (by simp) ⟨_,rfl,_,_,_,rfl,rfl,by decide,_,rfl,cE (by decide) ⟨_,rfl,_,rfl,rfl,_,rfl,cE (by simp) ⟨_,rfl,_,_,_,rfl,rfl,by decide,_,rfl,_,_,_,rfl,rfl,by decide,rfl,?_⟩⟩⟩⟩
   rw [aPy rfl]
   exact k _ (key p hp _)
  | _=>exact hs.elim
 .have he:=lQ m rfl
  subst he
  refine ⟨_,rfl,(sl 2),λp hp=>?_⟩
  have s1:=Zf hp (.tup [.ty "list",.ty "tuple"])
  refine ⟨_,_,_,_,p,rfl,Za,zM (s1 _ _ hb),by decide,by decide,_,rfl,cE (by decide) ?_⟩
  refine ⟨_,rfl,(sl 2),λp2 hp2=>?_⟩
  have s2:=s1.trans (Zf hp2 (.tup [.ty "list",.ty "tuple"]))
  refine ⟨_,_,_,_,p2,rfl,Za,zM (s2 _ _ ha),by decide,by decide,_,rfl,bu (by decide) ?_⟩
  refine ⟨_,rfl,_,_,_,rfl,zM (s2 _ _ ha),by decide,_,rfl,_,_,_,rfl,zM (s2 _ _ hb),by decide,rfl,_,rfl,bu (by decide) ?_⟩
  refine ⟨_,rfl,a,_,rfl,.inl (ak.of (s2 _ _ ha)),_,rfl,b,_,rfl,.inl (ak.of (s2 _ _ hb)),rfl,_,rfl,?_⟩
  generalize upd (upd H p (.tup [.ty "list",.ty "tuple"])) p2 (.tup [.ty "list",.ty "tuple"])=H2 at *
  refine cE (by rw [hl]; simp) ?_
  refine ⟨_,rfl,_,rfl,a,b,rfl,.inl ⟨_,_,ak.of (s2 _ _ ha),ak.of (s2 _ _ hb),λl hl'=>?_⟩⟩
  have lX:H l=none:=s2.free hl'
  refine TF (K:=K) (a:=a) (b:=b) (xs:=xs) (zs:=ys) (l:=l) hl (λi zs σ H'=>∃ v0 v1:Option V,σ=[v0,v1]/\zs=(List.replicate i true).map V.bl/\H' l=some (.lst zs)/\aq H H')
   ⟨none,none,rfl,by simp,Za,s2.trans (Zf hl' _)⟩ (λi zs σ H' _ ⟨_,_,_,_,_,q⟩=>⟨ak.of (q _ _ ha),ak.of (q _ _ hb)⟩) ?_ ?_
  .rintro i x z t zs σ H' Eg hxi DY uP ⟨v0,v1,rfl,rfl,h1,s3⟩ ht
   have s4:=s3.trans (Zf ht (.tup [x,z]))
   have qJ:l≠t:=Zb h1 ht
   refine ⟨t,_,rfl,bJ.of Za,rfl,_,_,rfl,_,_,rfl,rfl,?_⟩
   refine ⟨_,rfl,_,rfl,x,z,rfl,(hi i x z hxi DY).same s4,λH5 s5=>?_⟩
   refine dU.of (aM8 (Zn hlen)) Eg uP (s5 _ _ (by rw [Ze qJ]; exact h1)) ⟨_,_,rfl,by rw [bb8,auU]; rfl,Za,?_⟩
   intro c o e
   rw [Ze (Zb e lX)]
   exact s5 _ _ (s4 _ _ e)
  .rintro zs σ H' uP ⟨v0,v1,rfl,rfl,h1,s3⟩
   refine ⟨l,_,rfl,ak.of h1,?_⟩
   rw [show (List.replicate xs.length true).all id=true by rw [aY4]; intro z hz; rw [(aTI.mp hz).2]; rfl]
   exact k H' s3
 .have he:=lQ m rfl
  subst he
  refine ⟨_,rfl,(sl 2),λp hp=>?_⟩
  have s1:=Zf hp (.tup [.ty "list",.ty "tuple"])
  refine ⟨_,_,_,_,p,rfl,Za,zL (s1 _ _ hb),by decide,by decide,_,rfl,cE (by decide) ?_⟩
  refine ⟨_,rfl,(sl 2),λp2 hp2=>?_⟩
  have s2:=s1.trans (Zf hp2 (.tup [.ty "list",.ty "tuple"]))
  refine ⟨_,_,_,_,p2,rfl,Za,zL (s2 _ _ ha),by decide,by decide,_,rfl,bu (by decide) ?_⟩
  refine ⟨_,rfl,_,_,_,rfl,zL (s2 _ _ ha),by decide,_,rfl,_,_,_,rfl,zL (s2 _ _ hb),by decide,rfl,_,rfl,bu (by decide) ?_⟩
  refine ⟨_,rfl,a,_,rfl,.inr (bJ.of (s2 _ _ ha)),_,rfl,b,_,rfl,.inr (bJ.of (s2 _ _ hb)),rfl,_,rfl,?_⟩
  generalize upd (upd H p (.tup [.ty "list",.ty "tuple"])) p2 (.tup [.ty "list",.ty "tuple"])=H2 at *
  refine cE (by rw [hl]; simp) ?_
  refine ⟨_,rfl,_,rfl,a,b,rfl,.inr ⟨_,_,bJ.of (s2 _ _ ha),bJ.of (s2 _ _ hb),λl hl'=>?_⟩⟩
  have lX:H l=none:=s2.free hl'
  refine UO (K:=K) (a:=a) (b:=b) (xs:=xs) (zs:=ys) (l:=l) hl (λi zs σ H'=>∃ v0 v1:Option V,σ=[v0,v1]/\zs=(List.replicate i true).map V.bl/\H' l=some (.lst zs)/\aq H H')
   ⟨none,none,rfl,by simp,Za,s2.trans (Zf hl' _)⟩ (λi zs σ H' _ ⟨_,_,_,_,_,q⟩=>⟨bJ.of (q _ _ ha),bJ.of (q _ _ hb)⟩) ?_ ?_
  .rintro i x z t zs σ H' Eg hxi DY uP ⟨v0,v1,rfl,rfl,h1,s3⟩ ht
   have s4:=s3.trans (Zf ht (.tup [x,z]))
   have qJ:l≠t:=Zb h1 ht
   refine ⟨t,_,rfl,bJ.of Za,rfl,_,_,rfl,_,_,rfl,rfl,?_⟩
   refine ⟨_,rfl,_,rfl,x,z,rfl,(hi i x z hxi DY).same s4,λH5 s5=>?_⟩
   refine dU.of (aM8 (Zn hlen)) Eg uP (s5 _ _ (by rw [Ze qJ]; exact h1)) ⟨_,_,rfl,by rw [bb8,auU]; rfl,Za,?_⟩
   intro c o e
   rw [Ze (Zb e lX)]
   exact s5 _ _ (s4 _ _ e)
  .rintro zs σ H' uP ⟨v0,v1,rfl,rfl,h1,s3⟩
   refine ⟨l,_,rfl,ak.of h1,?_⟩
   rw [show (List.replicate xs.length true).all id=true by rw [aY4]; intro z hz; rw [(aTI.mp hz).2]; rfl]
   exact k H' s3
def CV:Sp:=λ_ _ _ _=>False
theorem LX (F:bK K "_law_same" "_law_same" rm f fd) (bi:Binds K fd rj []) (m:mg "_law_same" = some (.ref f)) (T:Txt K mg):∀ n,Def P w K mg base "_law_same" (n+1) rj (A9 n)
 | 0=>by
  have D0:Def P w K mg base "_law_same" 0 rj CV:=⟨f,fd,⟨λ_ _ _ _ h=>h.elim,λ_ _ _ _ _ _ _ _ _ _ _ _ _ h=>h.elim⟩,m,F.kp,bi⟩
  exact ⟨f,fd,KI (n:=0) (λ_ h=>by lia) F T D0,m,F.kp,bi⟩
 | n+1=>⟨f,fd,KI (n:=n+1) (λj h=>by cases (show j=n by lia); rfl) F T (LX F bi m T n),m,F.kp,bi⟩
end
def aK:Option Int->V
 | none=>.aX
 | some g=>.int g
theorem gN {i:Nat} {v:V} {σ:St} {H:Hp} {Q:St->Hp->Prop} (h:Q (σ.set i (some v)) H):bT i v σ H Q:=h
theorem F4 {b:Bool} {A B:Prop} (h1:b=true->A) (h2:¬ b=true->B):if b=true then A else B:=by
 by_cases h:b=true
 .rw [aHZ h]; exact h1 h
 .rw [bd2 h]; exact h2 h
theorem oJ {ns:List Int} {i:Nat} {x:V} (h:(ns.map V.int)[i]?=some x):∃ z,ns[i]?=some z/\x=V.int z:=by
 rw [bdd] at h
 cases e:ns[i]? with
 | none=>rw [e] at h; cases h
 | some z=>rw [e] at h; exact ⟨z,rfl,(bcC h).symm⟩
theorem yK (z:Int) (ns:List Int):sD (.int z) (ns.map V.int)=decide (z∈ns):=by
 unfold sD
 rw [any_map,aZg,abT,acz]
 constructor
 .rintro ⟨x,hx,e⟩
  have:x=z:=by simpa [oZ] using e
  rw [← this]; exact hx
 .intro h
  exact ⟨z,h,by simp [oZ]⟩
structure Rec where
 b:Int
 t0:Int
 t1:Int
 n:Int
def aL (S:List Rec) (b:Int):Option Rec:=S.find? λr=>decide (r.b=b)
def bS (S:List Rec) (q:Rec):List Rec:=if S.any (λr=>decide (r.b=q.b)) then S.map (λr=>if r.b=q.b then q else r) else S++[q]
def fL (S:List Rec) (b:Int):List Rec:=S.filter λr=>decide (r.b≠b)
def AD (ru:Str):List Int:=if ru = "old" then [1] else if ru = "come" then [0] else [2,0]
def fld (r:Rec) (k:Int):Int:=if k=0 then r.t0 else if k=1 then r.t1 else r.n
def fJ (ru:Str) (r:Rec):List Int:=(AD ru).map (fld r)
def ZS (sh b:Int) (S:List Rec):List Rec:=S.filter λr=>decide (V.int (r.b % sh)=V.int (b % sh))
def kZ (ru:Str) (S:List Rec):Nat:=argBest (λi j=>HT.lexLt ((S.map λr=>fJ ru r++[r.b]).getD i []) ((S.map λr=>fJ ru r++[r.b]).getD j [])) (S.length - 1)
def cX (sh pl:Int) (ru:Str) (S:List Rec) (b:Int):Option Int:=if ((ZS sh b S).length:Int)<pl then none else ((ZS sh b S)[kZ ru (ZS sh b S)]?).map (·.b)
def Uq (S:List Rec):Prop:=(S.map (·.b)).Nodup
theorem Uq.rec:∀ {S:List Rec},Uq S->∀ r∈S,aL S r.b=some r
 | [],_,_,h=>nomatch h
 | q :: S,u,r,h=>by
  have u':(q.b :: S.map (·.b)).Nodup:=u
  obtain ⟨u1,u2⟩:=aHW.mp u'
  rcases aDl.mp h with rfl | h
  .unfold aL
   rw [al7 (by simp)]
  .have ne:¬ q.b=r.b:=λe=>u1 (by rw [e]; exact aea.mpr ⟨r,h,rfl⟩)
   unfold aL
   rw [aPZ (by simpa using ne)]
   exact Uq.rec u2 r h
theorem Rw (S:List Rec) (q:Rec):(S.map λr=>if r.b=q.b then q else r).map (·.b)=S.map (·.b):=by
 rw [map_map]
 refine anO λr _=>?_
 show (if r.b=q.b then q else r).b=r.b
 split
 .rename_i e; exact e.symm
 .rfl
theorem Uq.put {S:List Rec} (u:Uq S) (q:Rec):Uq (bS S q):=by
 unfold bS
 by_cases e:(S.any λr=>decide (r.b=q.b))=true
 .rw [aHZ e]
  show ((S.map λr=>if r.b=q.b then q else r).map (·.b)).Nodup
  rw [Rw]; exact u
 .rw [bd2 e]
  show ((S++[q]).map (·.b)).Nodup
  rw [auU]
  refine mL u λm=>e ?_
  obtain ⟨r,hr,z⟩:=aea.mp m
  exact aIq.mpr ⟨r,hr,by simpa using z⟩
theorem Uq.drop {S:List Rec} (u:Uq S) (b:Int):Uq (fL S b):=aTd (List.Sublist.map _ a9R) u
theorem KH (S:List Rec) (q:Rec):(bS S q).length<=S.length+1:=by
 unfold bS
 split
 .rw [aH5]; lia
 .simp
theorem T9 (S:List Rec) (b:Int):(fL S b).length<=S.length:=aYO ..
def dM (S:List Rec):Option Int->List Rec
 | none=>S
 | some g=>fL S g
def bH (sh pl:Int) (ru:Str) (i:Nat) (b:Int) (S:List Rec):List Rec×(Bool×Option Int) :=
 match aL S b with
 | some r=>(bS S ⟨b,r.t0,i,r.n+1⟩,(true,none))
 | none=>(bS (dM S (cX sh pl ru S b)) ⟨b,i,i,0⟩,(false,cX sh pl ru S b))
def aR (sh pl:Int) (ru:Str) (row:List Int):Nat->List Rec×List (Bool×Option Int)
 | 0=>([],[])
 | i+1=>((bH sh pl ru i (row.getD i 0) (aR sh pl ru row i).1).1,(aR sh pl ru row i).2++[(bH sh pl ru i (row.getD i 0) (aR sh pl ru row i).1).2])
def jw (sh pl:Int) (ru:Str) (row:List Int):List (Bool×Option Int):=(aR sh pl ru row row.length).2
theorem Uq.less {S:List Rec} (u:Uq S) (g:Option Int):Uq (dM S g):=by
 cases g with
 | none=>exact u
 | some g=>exact u.drop g
theorem UH (S:List Rec) (g:Option Int):(dM S g).length<=S.length:=by
 cases g with
 | none=>exact avG _
 | some g=>exact T9 S g
theorem SJ (sh pl:Int) (ru:Str) (i:Nat) (b:Int) (S:List Rec) (u:Uq S):Uq (bH sh pl ru i b S).1/\(bH sh pl ru i b S).1.length<=S.length+1:=by
 unfold bH
 cases aL S b with
 | some r=>exact ⟨u.put _,KH _ _⟩
 | none=>exact ⟨(u.less _).put _,ajJ (KH _ _) (adj (UH _ _) 1)⟩
theorem AQ (sh pl:Int) (ru:Str) (row:List Int) (i:Nat):Uq (aR sh pl ru row i).1/\(aR sh pl ru row i).1.length<=i/\(aR sh pl ru row i).2.length=i:=by
 induction i with
 | zero=>exact ⟨a6N,avG _,rfl⟩
 | succ i ih =>
  obtain ⟨h1,h2⟩:=SJ sh pl ru i (row.getD i 0) (aR sh pl ru row i).1 ih.1
  refine ⟨h1,ajJ h2 (adj ih.2.1 1),?_⟩
  show ((aR sh pl ru row i).2++_).length=_
  rw [aIt,ih.2.2]; rfl
def Told (H:Hp) (l:Addr) (fs:List (Bool×Option Int)):Prop:=∃ ao:List Addr,H l=some (.lst (ao.map V.ref))/\ao.length=fs.length/\∀ (m:Nat) (ad:Addr) (f:Bool×Option Int),ao[m]?=some ad->fs[m]?=some f->H ad=some (.tup [.bl f.1,aK f.2])
theorem FI (sh pl:Int) (ru:Str) (row:List Int):(jw sh pl ru row).length=row.length:=(AQ sh pl ru row row.length).2.2
def tpos:Pos:=(match (ZN ZE).head? with
 | some (.If _ (.Return (some (.Call _ _ (⟨_,.Lambda _ _ _ pos,_⟩ :: _) _)) _ :: _) _ _)=>pos
 | _=>⟨0,0,0,0⟩)
abbrev mQ:Str := "Room.going" ++ ".<locals>." ++ "<lambda>"
def Tb (K:W.Frag) (H:Hp):Prop:=H (tabOf K "Room" "going")=some (.iU tpos mQ)
theorem Tb.same {K:W.Frag} {H H':Hp} (t:Tb K H) (s:aq H H'):Tb K H':=s _ _ t
def qw (K:W.Frag):Sp:=λvs H Q _=>∃ (sh pl:Int) (ru:Str) (a:Addr) (row:List Int),vs=[.int sh,.int pl,.str ru,.ref a]/\ak K H a (row.map V.int)/\1<=sh/\sh<=64/\1<=pl/\pl<=16/\mC ru/\row.length<=400/\mH 9999 row/\Tb K H /\
 ∀ (l:Addr) (H':Hp),H l=none->aq H H'->Told H' l (jw sh pl ru row)->Q (.ref l) H'
theorem tW:∀ a:List Int,HT.lexLt a a=false
 | []=>rfl
 | x :: xs=>by rw [HT.aO,aHZ rfl]; exact tW xs
theorem Bh:∀ {a b c:List Int},HT.lexLt a b=true->HT.lexLt b c=true->HT.lexLt a c=true
 | [],[],_,h,_=>by rw [HT.cC] at h; cases h
 | [],_ :: _,[],_,h=>by rw [HT.aY] at h; cases h
 | [],_ :: _,_ :: _,_,_=>rfl
 | _ :: _,[],_,h,_=>by rw [HT.aY] at h; cases h
 | _ :: _,_ :: _,[],_,h=>by rw [HT.aY] at h; cases h
 | x :: xs,y :: ys,z :: zs,h1,h2=>by
  rw [HT.aO] at h1 h2 ⊢
  by_cases e1:x=y
  .subst e1
   rw [aHZ rfl] at h1
   by_cases e2:x=z
   .subst e2
    rw [aHZ rfl] at h2 ⊢
    exact Bh h1 h2
   .rw [bd2 e2] at h2 ⊢; exact h2
  .rw [bd2 e1] at h1
   have l1:=aTw h1
   by_cases e2:y=z
   .subst e2
    rw [bd2 e1]; exact h1
   .rw [bd2 e2] at h2
    have l2:=aTw h2
    rw [bd2 (by lia)]
    exact aPy (by lia)
theorem KG (f:Nat->List Int):∀ k,argBest (λi j=>HT.lexLt (f i) (f j)) k<=k/\∀ j,j<=k->HT.lexLt (f j) (f (argBest (λi j=>HT.lexLt (f i) (f j)) k))=false
 | 0=>⟨avG _,λj hj=>by
   have:j=0:=by lia
   subst this; exact tW _⟩
 | k+1=>by
  obtain ⟨h1,h2⟩:=KG f k
  unfold argBest
  by_cases c:HT.lexLt (f (k+1)) (f (argBest (λi j=>HT.lexLt (f i) (f j)) k))=true
  .rw [aHZ c]
   refine ⟨avG _,λj hj=>?_⟩
   by_cases e:j=k+1
   .subst e; exact tW _
   .cases q:HT.lexLt (f j) (f (k+1)) with
    | false=>rfl
    | true =>
     have:=Bh q c
     rw [h2 j (by lia)] at this; cases this
  .rw [bd2 c]
   refine ⟨by lia,λj hj=>?_⟩
   by_cases e:j=k+1
   .subst e; simpa using c
   .exact h2 j (by lia)
theorem MB {sh pl:Int} {ru:Str} {S:List Rec} {b:Int} (hpl:1<=pl) (xV:¬ ((ZS sh b S).length:Int)<pl):∃ r∈ZS sh b S,cX sh pl ru S b=some r.b/\∀ r'∈ZS sh b S,HT.lexLt (fJ ru r'++[r'.b]) (fJ ru r++[r.b])=false:=by
 unfold cX
 rw [bd2 xV]
 generalize ZS sh b S=T at *
 have pos:0<T.length:=by lia
 obtain ⟨h1,h2⟩:=KG (λi=>(T.map λr=>fJ ru r++[r.b]).getD i []) (T.length - 1)
 have e:argBest (λi j=>HT.lexLt ((T.map λr=>fJ ru r++[r.b]).getD i []) ((T.map λr=>fJ ru r++[r.b]).getD j [])) (T.length - 1)=kZ ru T:=rfl
 rw [e] at h1 h2
 have hlt:kZ ru T<T.length:=by lia
 have at':∀ i (h:i<T.length),(T.map λr=>fJ ru r++[r.b]).getD i []=fJ ru T[i]++[T[i].b]:=λi h=>by
  rw [aeu,bdd,a8w h]; rfl
 refine ⟨T[kZ ru T],aSd hlt,by rw [a8w hlt]; rfl,λr' hr'=>?_⟩
 obtain ⟨j,hj,rfl⟩:=getElem_of_mem hr'
 have q:=h2 j (by lia)
 rw [at' j hj,at' _ hlt] at q
 exact q
def dd:List Int->List Int
 | []=>[]
 | x :: xs=>x :: (dd xs).filter λy=>decide (y≠x)
theorem jY:∀ {xs:List Int} {y:Int},y∈dd xs↔y∈xs
 | [],y=>Iff.rfl
 | x :: xs,y=>by
  unfold dd
  rw [apQ,apQ,mem_filter,jY (xs:=xs)]
  constructor
  .rintro (h | h)
   .exact .inl h
   .exact .inr h.1
  .rintro (h | h)
   .exact .inl h
   .by_cases e:y=x
    .exact .inl e
    .exact .inr ⟨h,by simpa using e⟩
theorem nI:∀ xs:List Int,(dd xs).Nodup
 | []=>a6N
 | x :: xs=>by
  unfold dd
  refine aHW.mpr ⟨λh=>?_,aTd a9R (nI xs)⟩
  have:=(apP.mp h).2
  simp at this
def jc (sh a b:Int):Bool:=decide (V.int (a % sh)=V.int (b % sh))
theorem jU {sh a b:Int}:jc sh a b=true↔a % sh=b % sh:=by
 unfold jc
 rw [acz]
 exact ⟨λh=>by injection h,λh=>by rw [h]⟩
def hist (sh:Int) (row:List Int) (b:Int) (i:Nat):List Int:=(row.take i).reverse.filter λx=>jc sh x b
def iy (S:List Rec):List Int:=S.map (·.b)
theorem aH {S:List Rec} {b:Int}:aL S b=none↔b∉iy S:=by
 unfold aL iy
 rw [List.find?_eq_none]
 constructor
 .intro h m
  obtain ⟨r,hr,e⟩:=aea.mp m
  exact h r hr (by simpa using e)
 .intro h r hr e
  exact h (aea.mpr ⟨r,hr,by simpa using e⟩)
theorem GJ {S:List Rec} {b:Int} {r:Rec} (h:aL S b=some r):r∈S/\r.b=b:=by
 unfold aL at h
 exact ⟨List.mem_of_find?_eq_some h,by simpa using List.find?_some h⟩
theorem Gz {S:List Rec} {q:Rec} (x:Int):aL (bS S q) x=if x=q.b then some q else aL S x:=by
 unfold bS
 by_cases e:(S.any λr=>decide (r.b=q.b))=true
 .rw [aHZ e]
  induction S with
  | nil=>simp at e
  | cons r S ih =>
   rw [ar3]
   by_cases er:r.b=q.b
   .rw [aHZ er]
    by_cases ex:x=q.b
    .rw [aHZ ex]
     unfold aL
     rw [al7 (by simpa using ex.symm)]
    .rw [bd2 ex]
     have e1:aL (q :: S.map λr=>if r.b=q.b then q else r) x=aL (S.map λr=>if r.b=q.b then q else r) x:=by
      unfold aL
      rw [aPZ (by simpa using aay ex)]
     have e2:aL (r :: S) x=aL S x:=by
      unfold aL
      rw [aPZ (by rw [er]; simpa using aay ex)]
     rw [e1,e2]
     clear e ih e1 e2
     induction S with
     | nil=>rfl
     | cons s S ih2 =>
      rw [ar3]
      by_cases es:s.b=q.b
      .rw [aHZ es]
       unfold aL at ih2 ⊢
       rw [aPZ (by simpa using aay ex),aPZ (by rw [es]; simpa using aay ex)]
       exact ih2
      .rw [bd2 es]
       unfold aL at ih2 ⊢
       by_cases Az:s.b=x
       .rw [al7 (by simpa using Az),al7 (by simpa using Az)]
       .rw [aPZ (by simpa using Az),aPZ (by simpa using Az)]
        exact ih2
   .rw [bd2 er]
    rw [any_cons] at e
    have e':(S.any λr=>decide (r.b=q.b))=true:=by
     rcases aCI _ _ |>.mp e with h | h
     .exact absurd (aTw h) er
     .exact h
    have ih':=ih e'
    unfold aL at ih' ⊢
    by_cases oY:r.b=x
    .rw [al7 (by simpa using oY),al7 (by simpa using oY),bd2 (by rw [← oY]; exact er)]
    .rw [aPZ (by simpa using oY),aPZ (by simpa using oY)]
     exact ih'
 .rw [bd2 e]
  unfold aL
  rw [List.find?_append]
  by_cases ex:x=q.b
  .rw [aHZ ex]
   have:S.find? (λr=>decide (r.b=x))=none:=by
    rw [List.find?_eq_none]
    intro r hr hx
    exact e (aIq.mpr ⟨r,hr,by rw [← ex]; exact hx⟩)
   rw [this,Option.none_or]
   rw [al7 (by simpa using ex.symm)]
  .rw [bd2 ex]
   have:List.find? (λr=>decide (r.b=x)) [q]=none:=by
    rw [aPZ (by simpa using aay ex)]; rfl
   rw [this,Option.or_none]
theorem MA {S:List Rec} {g:Int} (x:Int):aL (fL S g) x=if x=g then none else aL S x:=by
 by_cases ex:x=g
 .rw [aHZ ex,aH]
  intro m
  obtain ⟨r,hr,e⟩:=aea.mp m
  have:=(apP.mp hr).2
  simp [e,ex] at this
 .rw [bd2 ex]
  induction S with
  | nil=>rfl
  | cons r S ih =>
   unfold fL aL at ih ⊢
   rw [amZ]
   by_cases er:r.b=g
   .rw [bd2 (by simp [er]),aPZ (by rw [er]; simpa using aay ex)]
    exact ih
   .rw [aHZ (by simpa using er)]
    by_cases oY:r.b=x
    .rw [al7 (by simpa using oY),al7 (by simpa using oY)]
    .rw [aPZ (by simpa using oY),aPZ (by simpa using oY)]
     exact ih
theorem Wi (sh a:Int):jc sh a a=true:=jU.mpr rfl
theorem A8 {S:List Rec} {q:Rec} (x:Int):x∈iy (bS S q)↔x=q.b\/x∈iy S:=by
 have h:=Gz (S:=S) (q:=q) x
 constructor
 .intro m
  by_cases e:x=q.b
  .exact .inl e
  .rw [bd2 e] at h
   refine .inr ?_
   by_cases c:x∈iy S
   .exact c
   .rw [aH.mpr c] at h
    exact absurd m (aH.mp h)
 .intro m
  by_cases c:x∈iy (bS S q)
  .exact c
  .rw [aH.mpr c] at h
   by_cases e:x=q.b
   .rw [aHZ e] at h; cases h
   .rw [bd2 e] at h
    rcases m with m | m
    .exact absurd m e
    .exact absurd m (aH.mp h.symm)
theorem T8 {S:List Rec} {g:Int} (x:Int):x∈iy (fL S g)↔x∈iy S/\x≠g:=by
 have h:=MA (S:=S) (g:=g) x
 constructor
 .intro m
  by_cases e:x=g
  .rw [aHZ e] at h
   exact absurd m (aH.mp h)
  .rw [bd2 e] at h
   refine ⟨?_,e⟩
   by_cases c:x∈iy S
   .exact c
   .rw [aH.mpr c] at h
    exact absurd m (aH.mp h)
 .rintro ⟨m,e⟩
  rw [bd2 e] at h
  by_cases c:x∈iy (fL S g)
  .exact c
  .rw [aH.mpr c] at h
   exact absurd m (aH.mp h.symm)
def Zh (sh s:Int) (there:List Int):List Int:=there.filter λo=>decide (o % sh=s)
theorem Zz (sh s b:Int) (there:List Int):Zh sh s (there++[b])=if b % sh=s then Zh sh s there++[b] else Zh sh s there:=by
 unfold Zh
 rw [azg]
 by_cases h:b % sh=s
 .rw [aHZ h,amZ,aHZ (by simpa using h),filter_nil]
 .rw [bd2 h,amZ,bd2 (by simpa using h),filter_nil,aOr]
theorem ZF (sh s g:Int) (there:List Int):Zh sh s (there.erase g)=(Zh sh s there).erase g:=by
 unfold Zh
 rw [List.erase_filter]
theorem aa {sh s b:Int} {there:List Int}:b∈Zh sh s there↔b∈there/\b % sh=s:=by
 unfold Zh
 rw [mem_filter,acz]
structure fW (H:Hp) (ls:Addr) (ao:List Addr) (sh:Int) (there:List Int):Prop where
 top:H ls=some (.lst (ao.map V.ref))
 len:ao.length=sh.toNat
 nd:ao.Nodup
 off:ls∉ao
 at_:∀ (s:Nat) (ad:Addr),ao[s]?=some ad->H ad=some (.lst ((Zh sh s there).map V.int))
theorem fW.other {H:Hp} {ls:Addr} {ao:List Addr} {sh:Int} {there:List Int} (h:fW H ls ao sh there) {a:Addr} (o:HO) (h1:a≠ls) (h2:a∉ao):fW (upd H a o) ls ao sh there :=
 ⟨by rw [Ze (aay h1)]; exact h.top,h.len,h.nd,h.off,λi ad e=>by rw [Ze (λz:ad=a=>h2 (z ▸ aVV e))]; exact h.at_ i ad e⟩
theorem fW.put {H:Hp} {ls:Addr} {ao:List Addr} {sh:Int} {there jR:List Int} (h:fW H ls ao sh there) {s0:Nat} {ad:Addr} {ns:List Int} (e0:ao[s0]?=some ad) (hn:Zh sh s0 jR=ns) (ho:∀ s:Nat,s≠s0->Zh sh s jR=Zh sh s there):fW (upd H ad (.lst (ns.map V.int))) ls ao sh jR:=by
 refine ⟨by rw [Ze (λz:ls=ad=>h.off (z ▸ aVV e0))]; exact h.top,h.len,h.nd,h.off,λs a e=>?_⟩
 by_cases hs:s=s0
 .subst hs
  rw [e0] at e
  cases e
  rw [Za,hn]
 .have ne:a≠ad:=λz=>by
   subst z
   exact hs ((List.getElem?_inj (aWj.mp e).1 h.nd).mp (e.trans e0.symm))
  rw [Ze ne,ho s hs]
  exact h.at_ s a e
theorem fW.get {H:Hp} {ls:Addr} {ao:List Addr} {sh:Int} {there:List Int} (h:fW H ls ao sh there) {k:Int} (h0:0<=k) (h1:k<sh):∃ (s:Nat) (ad:Addr),(s:Int)=k/\ao[s]?=some ad/\cY (ao.map V.ref) k=some (.ref ad)/\H ad=some (.lst ((Zh sh k there).map V.int)):=by
 have hk:k.toNat<ao.length:=by rw [h.len]; lia
 have e:ao[k.toNat]?=some ao[k.toNat]:=a8w hk
 have ek:((k.toNat:Nat):Int)=k:=by lia
 have q:cY (ao.map V.ref) ((k.toNat:Nat):Int)=some (.ref ao[k.toNat]):=ZX (by rw [bdd,e]; rfl)
 have q2:=h.at_ _ _ e
 rw [ek] at q q2
 exact ⟨k.toNat,_,ek,e,q,q2⟩
theorem fW.one {H:Hp} {ls:Addr} {ao:List Addr} {sh:Int} {there:List Int} (h:fW H ls ao sh there) {ad:Addr} (m:ad∈ao):∃ xs,H ad=some (.lst xs):=by
 obtain ⟨s,e⟩:=ao5 m
 exact ⟨_,h.at_ s ad e⟩
def eV (sh pl:Int) (ru:Str) (ls du:Addr):List (Str×V):=aM "uses" (.ref du) (aM "standing" (.ref ls) (aM "rule" (.str ru) (aM "places" (.int pl) (aM "shelves" (.int sh) []))))
theorem yJ (sh pl:Int) (ru:Str) (ls du:Addr):(eV sh pl ru ls du).lookup ("uses" : Str)=some (.ref du):=by
 unfold eV
 rw [Zr,aHZ rfl]
theorem Wh (sh pl:Int) (ru:Str) (ls du:Addr):(eV sh pl ru ls du).lookup ("standing" : Str)=some (.ref ls):=by
 unfold eV
 rw [Zr,bd2 (by decide +kernel),Zr,aHZ rfl]
theorem KD (sh pl:Int) (ru:Str) (ls du:Addr):(eV sh pl ru ls du).lookup ("rule" : Str)=some (.str ru):=by
 unfold eV
 rw [Zr,bd2 (by decide +kernel),Zr,bd2 (by decide +kernel),Zr,aHZ rfl]
theorem UG (sh pl:Int) (ru:Str) (ls du:Addr):(eV sh pl ru ls du).lookup ("places" : Str)=some (.int pl):=by
 unfold eV
 rw [Zr,bd2 (by decide +kernel),Zr,bd2 (by decide +kernel),Zr,bd2 (by decide +kernel),Zr,aHZ rfl]
theorem Vg (sh pl:Int) (ru:Str) (ls du:Addr):(eV sh pl ru ls du).lookup ("shelves" : Str)=some (.int sh):=by
 unfold eV
 rw [Zr,bd2 (by decide +kernel),Zr,bd2 (by decide +kernel),Zr,bd2 (by decide +kernel),Zr,bd2 (by decide +kernel),Zr,aHZ rfl]
theorem cu (sh pl:Int) (ru:Str) (ls du:Addr) {m:Str} (h1:¬ m = "uses" := by decide +kernel) (h2:¬ m = "standing" := by decide +kernel) (h3:¬ m = "rule" := by decide +kernel) (h4:¬ m = "places" := by decide +kernel) (h5:¬ m = "shelves" := by decide +kernel):(eV sh pl ru ls du).lookup m=none:=by
 unfold eV
 rw [Zr,bd2 h1,Zr,bd2 h2,Zr,bd2 h3,Zr,bd2 h4,Zr,bd2 h5]
 rfl
structure aE (K:W.Frag) (H:Hp) (p:Addr) (sh pl:Int) (ru:Str) (ls:Addr) (ao:List Addr) (du:Addr) (seq:List Int) (us:Int->Int) (n:Nat):Prop where
 ob:∃ dx,H p=some (.ins (aB K "Room") dx (eV sh pl ru ls du))
 st:fW H ls ao sh seq
 dc:∃ kvs,H du=some (.dK kvs)/\kvs.length<=n/\∀ b,aT kvs (Sum.inl b:Key)=if b∈seq then some (.int (us b)) else none
 nd:seq.Nodup
 s0:1<=sh
 s1:sh<=64
def SR (ao:List Addr) (du:Addr) (H H':Hp):Prop:=∀ b o,H b=some o->b≠du->b∉ao->H' b=some o
theorem SR.of {ao:List Addr} {du:Addr} {H H':Hp} (s:aq H H'):SR ao du H H':=λb o h _ _=>s b o h
theorem SR.trans {ao:List Addr} {du:Addr} {H H1 H2:Hp} (a:SR ao du H H1) (b:SR ao du H1 H2):SR ao du H H2:=λc o h n1 n2=>b c o (a c o h n1 n2) n1 n2
section
variable {K:W.Frag} {H H':Hp} {p:Addr} {sh pl:Int} {ru:Str} {ls:Addr} {ao:List Addr} {du:Addr} {seq:List Int} {us:Int->Int} {n:Nat}
theorem aE.off (R:aE K H p sh pl ru ls ao du seq us n):p≠du/\p∉ao/\ls≠du/\ls∉ao/\du∉ao/\p≠ls:=by
 obtain ⟨dx,h1⟩:=R.ob
 obtain ⟨kvs,h2,_⟩:=R.dc
 refine ⟨λz=>?_,λz=>?_,λz=>?_,R.st.off,λz=>?_,λz=>?_⟩
 .rw [z,h2] at h1; cases h1
 .obtain ⟨xs,e⟩:=R.st.one z
  rw [e] at h1; cases h1
 .have e:=R.st.top
  rw [z,h2] at e; cases e
 .obtain ⟨xs,e⟩:=R.st.one z
  rw [e] at h2; cases h2
 .have e:=R.st.top
  rw [← z,h1] at e; cases e
theorem aE.same (R:aE K H p sh pl ru ls ao du seq us n) (s:aq H H'):aE K H' p sh pl ru ls ao du seq us n:=by
 obtain ⟨dx,h1⟩:=R.ob
 obtain ⟨kvs,h2,h3⟩:=R.dc
 exact ⟨⟨dx,s _ _ h1⟩,⟨s _ _ R.st.top,R.st.len,R.st.nd,R.st.off,λi ad e=>s _ _ (R.st.at_ i ad e)⟩,⟨kvs,s _ _ h2,h3⟩,R.nd,R.s0,R.s1⟩
theorem SR.keep {o:HO} {b:Addr} (s:SR ao du H H') (R:aE K H p sh pl ru ls ao du seq us n) (h:H b=some o) (n1:∀ kvs,o≠.dK kvs) (n2:∀ xs,o≠.lst xs):H' b=some o:=by
 refine s _ _ h (λz=>?_) λz=>?_
 .obtain ⟨kvs,e,_⟩:=R.dc
  rw [z,e] at h
  exact n1 kvs (bcC h).symm
 .obtain ⟨xs,e⟩:=R.st.one z
  rw [e] at h
  exact n2 xs (bcC h).symm
theorem aE.wC (R:aE K H p sh pl ru ls ao du seq us n) (b:Int):∃ (s:Nat) (ad:Addr),(s:Int)=b % sh/\ao[s]?=some ad/\cY (ao.map V.ref) (b % sh)=some (.ref ad)/\H ad=some (.lst ((Zh sh (b % sh) seq).map V.int)):=by
 have h0:=R.s0
 exact R.st.get (aZ2 _ (by lia)) (aby _ (by lia))
end
section
def tV:Sp:=λvs H Q _=>∃ sh b:Int,vs=[.int sh,.int b]/\1<=sh/\Q (.int (b % sh)) H
theorem Wg (F:bK K "shelf_of" "shelf_of" GD f fd) (T:Txt K mg):aD P w K mg base bB 1 f fd rC tV:=by
 refine F.ok gb (λvs H Q E h=>?_) (λcdv A outer st H vs Q E hr h=>?_)
 .obtain ⟨sh,b,rfl,_⟩:=h
  rfl
 obtain ⟨sh,b,rfl,h0,k⟩:=h
 have nd:=gb.nd
 refine ⟨_,(Zj (Zq (ah jd (pv 1) (pv 0)))),?_⟩
 exact ⟨_,rfl,_,rfl,_,_,rfl,rfl,(by show 0<sh; lia),k⟩
def kH (K:W.Frag):Sp:=λvs H Q _=>∃ (p:Addr) (b sh pl:Int) (ru:Str) (ls:Addr) (ao:List Addr) (du:Addr) (seq:List Int) (us:Int->Int) (n:Nat),vs=[.ref p,.int b]/\aE K H p sh pl ru ls ao du seq us n/\Q (.bl (decide (b∈seq))) H
theorem Wf (F:bK K "has" "Room.has" GC f fd) (T:Txt K mg):aD P w K mg base bB 1 f fd yV (kH K):=by
 refine F.ok gk (λvs H Q E h=>?_) (λcdv A outer st H vs Q E hr h=>?_)
 .obtain ⟨p,b,sh,pl,ru,ls,ao,du,seq,us,n,rfl,_⟩:=h
  rfl
 obtain ⟨p,b,sh,pl,ru,ls,ao,du,seq,us,n,rfl,R,k⟩:=h
 have nd:=gk.nd
 have hu:=cW hr
 refine ⟨_,(Zj (Zq (Ff (Q3 hu (pv 1) (pB (K:=K) rfl (pv 0) rfl))))),?_⟩
 obtain ⟨dx,h1⟩:=R.ob
 obtain ⟨kvs,h2,h3,h4⟩:=R.dc
 refine ⟨_,rfl,_,rfl,p,_,dx,_,_,rfl,h1,T.fD,T.uI,yJ ..,du,_,rfl,eZ.k (k:=Sum.inl b) h2,?_⟩
 rw [h4 b]
 by_cases c:b∈seq
 .rw [aHZ c]
  rw [aPy c] at k
  exact k
 .rw [bd2 c]
  rw [aXf c] at k
  exact k
def yI (K:W.Frag):Sp:=λvs H Q _=>∃ (p:Addr) (b sh pl:Int) (ru:Str) (ls:Addr) (ao:List Addr) (du:Addr) (seq:List Int) (us:Int->Int) (n:Nat),vs=[.ref p,.int b]/\aE K H p sh pl ru ls ao du seq us n /\
 ∀ (s:Nat) (ad:Addr),(s:Int)=b % sh->ao[s]?=some ad->H ad=some (.lst ((Zh sh (b % sh) seq).map V.int))->Q (.ref ad) H
theorem WJ (F:bK K "mates" "Room.mates" GS f fd) (T:Txt K mg) (iL:Def P w K mg base "shelf_of" 1 rC tV):aD P w K mg base bB 2 f fd vB (yI K):=by
 refine F.ok eE (λvs H Q E h=>?_) (λcdv A outer st H vs Q E hr h=>?_)
 .obtain ⟨p,b,sh,pl,ru,ls,ao,du,seq,us,n,rfl,_⟩:=h
  rfl
 obtain ⟨p,b,sh,pl,ru,ls,ao,du,seq,us,n,rfl,R,k⟩:=h
 have nd:=eE.nd
 refine ⟨_,(Zj (Zq (aA (Zo (K:=K) rfl) (pB (K:=K) rfl (pv 0) rfl) (Zl iL hr.m rfl (pc (pB (K:=K) rfl (pv 0) rfl) (pc (pv 1) Zc))) (λ_ _=>rfl)))),?_⟩
 obtain ⟨dx,h1⟩:=R.ob
 obtain ⟨s,ad,e1,e2,e3,e4⟩:=R.wC b
 exact ⟨_,rfl,p,_,dx,_,_,rfl,h1,T.fD,T.Ip,Wh ..,_,rfl,p,_,dx,_,_,rfl,h1,T.fD,T.HS,Vg ..,_,rfl,sh,b,rfl,R.s0,ls,_,_,_,rfl,rfl,ak.of R.st.top,e3,k s ad e1 e2 e4⟩
def ET (K:W.Frag):Sp:=λvs H Q _=>∃ (p:Addr) (b sh pl:Int) (ru:Str) (ls:Addr) (ao:List Addr) (du:Addr) (seq:List Int) (us:Int->Int) (n:Nat),vs=[.ref p,.int b]/\aE K H p sh pl ru ls ao du seq us n/\b∈seq/\Q .aX H
theorem Wu (F:bK K "need" "Room.need" Hf f fd) (T:Txt K mg) (pH:dS P w K mg base (aB K "Room") "has" 1 yV (kH K)):aD P w K mg base bB 2 f fd BF (ET K):=by
 refine F.ok fq (λvs H Q E h=>?_) (λcdv A outer st H vs Q E hr h=>?_)
 .obtain ⟨p,b,sh,pl,ru,ls,ao,du,seq,us,n,rfl,_⟩:=h
  rfl
 obtain ⟨p,b,sh,pl,ru,ls,ao,du,seq,us,n,rfl,R,hb,k⟩:=h
 have nd:=fq.nd
 refine ⟨_,(Zj (aI (k9 (ZY (ZQ pH hr.m T.fD (pv 0) (pc (pv 1) Zc)))) (Zj nC) Zu)),?_⟩
 obtain ⟨dx,h1⟩:=R.ob
 refine ⟨_,rfl,p,dx,_,rfl,h1,cu ..,_,rfl,p,b,sh,pl,ru,ls,ao,du,seq,us,n,rfl,R,?_⟩
 rw [aPy hb]
 exact ⟨_,rfl,bu rfl k⟩
end
section
def FH (K:W.Frag):Sp:=λvs H Q _=>∃ (p m:Addr) (ms:List Int) (sh pl:Int) (ru:Str) (ls:Addr) (ao:List Addr) (du:Addr) (seq:List Int) (us:Int->Int) (n:Nat),vs=[.ref p,.ref m]/\aE K H p sh pl ru ls ao du seq us n/\Tb K H/\H m=some (.lst (ms.map V.int))/\ms.length<64/\ms.Nodup/\(∀ b∈ms,b∈seq) /\
 ∀ (D:Addr) (H':Hp) (os:List Int),H D=none->aq H H'->H' D=some (.lst (os.map V.int))->os.Perm ms->(ru = "few" -> os.Pairwise (ud us ms))->(ru ≠ "few" -> os=ms)->Q (.ref D) H'
theorem WI {f tp cg:Addr} {fd:FuncData} (F:bK K "going" "Room.going" ZE f fd) (hfc:fd.code=.ref cg) (htp:tabOf K "Room" "going" = tp) (hch:W.codeHdIn K cg tp=true) (bm:BMod base mg) (T:Txt K mg):aD P w K mg base bB 2 f fd yR (FH K):=by
 refine F.Oq eF (λvs H Q E h=>?_) (λcdv A outer st H vs Q E PY hr h=>?_)
 .obtain ⟨p,m,ms,sh,pl,ru,ls,ao,du,seq,us,n,rfl,_⟩:=h
  rfl
 obtain ⟨p,m,ms,sh,pl,ru,ls,ao,du,seq,us,n,rfl,R,tb,hm,h64,hnd,hin,k⟩:=h
 have nd:=eF.nd
 have hu:=cW hr
 have hc0:cdv=.ref cg:=PY.symm.trans hfc
 refine ⟨_,(Zd (aI (Zp aQ (pB (K:=K) rfl (pv 0) rfl) rA (Zs _)) (Zj (Zq (Uo (X:=(jG bB P w K mg base bP "Room.going" (Zg ZE) f cdv A outer st H E).rW) (K:=K) (P:=tp) (c0:=cg) rfl hr rfl rfl T.zJ (Up (cj:=(Zg ZE)) (oN:=bP) (x := "board") (fr:=["self"]) (js:=[0]) (by decide +kernel) rfl rfl) hc0 hch bm rfl rfl rfl (λ_ _ _ _ _=>rfl) (pv 1) (λ_ _ _ _ _=>(K7 (QT hr) (pB (K:=K) rfl (pv 1) rfl) (pv 0) (λ_ _=>rfl)))))) Zu)
   (Zj (Zq (yY (G9 (K:=K) rfl) rfl T.nB ZU (pc (pv 1) Zc))))),?_⟩
 obtain ⟨dx,h1⟩:=R.ob
 obtain ⟨kvs,h2,h3,h4⟩:=R.dc
 refine ⟨_,rfl,p,_,dx,_,_,rfl,h1,T.fD,T.Dm,KD ..,rfl,_,rfl,?_⟩
 refine ZC (λc=>?_) (λc=>?_)
 .have c':ru = "few" := by injection c
  have tb':H tp=some (.iU tpos mQ):=by
   have t:=tb
   unfold Tb at t
   rw [htp] at t
   exact t
  refine ⟨_,rfl,m,ms,us,rfl,ak.of hm,h64,hnd,tb',λz hz H2 sm=>?_,λD H' os hD sm hl po so=>k D H' os hD sm hl po (λ_=>so) λz=>absurd c' z⟩
  have v:=h4 z
  rw [aHZ (hin z hz)] at v
  exact ⟨_,rfl,p,_,dx,_,_,rfl,sm _ _ h1,T.fD,T.uI,yJ ..,_,rfl,du,_,rfl,(by have q:=eZ.k (k:=Sum.inl z) (sm _ _ h2); rw [v] at q; exact q),rfl,rfl⟩
 .have c':¬ ru = "few" := λz=>c (by rw [z])
  exact ⟨_,rfl,m,_,rfl,.inl (ak.of hm),λD hD=>k D _ ms hD (Zf hD _) Za (ai0 _) (λz=>absurd z c') λ_=>rfl⟩
theorem T7 {kvs:List (Key×V)} {k:Key} (j:Key):aT (cy kvs k) j=if j=k then none else aT kvs j:=by
 induction kvs with
 | nil=>by_cases e:j=k <;> simp [cy,aT,e]
 | cons q r ih =>
  by_cases e:q.1=k
  .rw [UU e,ih]
   by_cases c:j=k
   .rw [aHZ c,aHZ c]
   .rw [bd2 c,bd2 c,ZK (λz=>c (z.symm.trans e))]
  .rw [UT e]
   by_cases c:q.1=j
   .rw [ZP c,bd2 (λz=>e (c.trans z)),ZP c]
   .rw [ZK c,ih,ZK c]
theorem UE (kvs:List (Key×V)) (k:Key):(cy kvs k).length<=kvs.length:=aYO ..
def J6 (K:W.Frag):Sp:=λvs H Q _=>∃ (p:Addr) (b sh pl:Int) (ru:Str) (ls:Addr) (ao:List Addr) (du:Addr) (seq:List Int) (us:Int->Int) (n:Nat),vs=[.ref p,.int b]/\aE K H p sh pl ru ls ao du seq us n/\b∈seq /\
 ∀ H',aE K H' p sh pl ru ls ao du (seq.erase b) us n->SR ao du H H'->Q .aX H'
theorem Wt (F:bK K "drop" "Room.drop" Hh f fd) (T:Txt K mg) (uH:dS P w K mg base (aB K "Room") "need" 2 BF (ET K)) (mJ:dS P w K mg base (aB K "Room") "mates" 2 vB (yI K)):aD P w K mg base bB 3 f fd Hg (J6 K):=by
 refine F.ok fC (λvs H Q E h=>?_) (λcdv A outer st H vs Q E hr h=>?_)
 .obtain ⟨p,b,sh,pl,ru,ls,ao,du,seq,us,n,rfl,_⟩:=h
  rfl
 obtain ⟨p,b,sh,pl,ru,ls,ao,du,seq,us,n,rfl,R,hb,k⟩:=h
 have nd:=fC.nd
 refine ⟨_,(Zd (Zy (ZQ uH hr.m T.fD (pv 0) (pc (pv 1) Zc)))
   (Zd (Zy (jm (K:=K) rfl (bI a7f aGH a3w Gm (ZQ mJ hr.m T.fD (pv 0) (pc (pv 1) Zc)) (pc (pv 1) Zc))))
   (Zj (Zy (Ux (pB (K:=K) rfl (pv 0) rfl) (pv 1) ⟨rfl,rfl,rfl,rfl⟩))))),?_⟩
 obtain ⟨dx,h1⟩:=R.ob
 obtain ⟨kvs,h2,h3,h4⟩:=R.dc
 obtain ⟨o1,o2,o3,o4,o5,o6⟩:=R.off
 refine ⟨_,rfl,p,dx,_,rfl,h1,cu ..,_,rfl,p,b,sh,pl,ru,ls,ao,du,seq,us,n,rfl,R,hb,?_⟩
 refine ⟨_,rfl,p,dx,_,rfl,h1,cu ..,_,rfl,p,b,sh,pl,ru,ls,ao,du,seq,us,n,rfl,R,λs ad es hs had=>?_⟩
 have nL:ad∈ao:=aVV hs
 have hmem:b∈Zh sh (b % sh) seq:=aa.mpr ⟨hb,rfl⟩
 refine ⟨.inl ⟨rfl,_,ak.of had⟩,_,rfl,ad,_,b,rfl,rfl,had,hmem,?_⟩
 have S1:fW (upd H ad (.lst (((Zh sh (b % sh) seq).erase b).map V.int))) ls ao sh (seq.erase b):=by
  refine R.st.put hs ?_ λs' hs'=>?_
  .rw [ZF,es]
  .rw [ZF]
   exact ae6 λm=>hs' (by have:=(aa.mp m).2; lia)
 have np:p≠ad:=λz=>o2 (z ▸ nL)
 have OP:du≠ad:=λz=>o5 (z ▸ nL)
 have pV:upd H ad (.lst (((Zh sh (b % sh) seq).erase b).map V.int)) p=some (.ins (aB K "Room") dx (eV sh pl ru ls du)):=by rw [Ze np]; exact h1
 have h2':upd H ad (.lst (((Zh sh (b % sh) seq).erase b).map V.int)) du=some (.dK kvs):=by rw [Ze OP]; exact h2
 refine ⟨_,rfl,p,_,dx,_,_,rfl,pV,T.fD,T.uI,yJ ..,du,rfl,.inl ⟨_,.inl h2'⟩,_,rfl,kvs,Sum.inl b,_,h2',rfl,(by rw [h4 b,aHZ hb]),?_⟩
 refine k _ ⟨⟨dx,by rw [Ze o1]; exact pV⟩,S1.other _ (aay o3) o5,⟨_,Za,ajJ (UE _ _) h3,λx=>?_⟩,R.nd.erase b,R.s0,R.s1⟩ λx o e n1 n2=>?_
 .rw [T7,h4 x]
  by_cases c:x=b
  .subst c
   rw [aHZ rfl,bd2 (λm=>((af8 R.nd).mp m).1 rfl)]
  .rw [bd2 (λz=>c (aeP z))]
   by_cases m:x∈seq
   .rw [aHZ m,aHZ ((af8 R.nd).mpr ⟨c,m⟩)]
   .rw [bd2 m,bd2 (λz=>m (aLU z))]
 .rw [Ze n1,Ze (λz:x=ad=>n2 (z ▸ nL))]
  exact e
def bump (us:Int->Int) (b:Int):Int->Int:=λx=>if x=b then us b+1 else us x
def qu (K:W.Frag):Sp:=λvs H Q _=>∃ (p:Addr) (b sh pl:Int) (ru:Str) (ls:Addr) (ao:List Addr) (du:Addr) (seq:List Int) (us:Int->Int) (n:Nat),vs=[.ref p,.int b]/\aE K H p sh pl ru ls ao du seq us n/\n<=900/\b∈seq/\seq.length<=900 /\
 ∀ H',aE K H' p sh pl ru ls ao du (if ru = "old" then seq.erase b++[b] else seq) (bump us b) (n+1)->SR ao du H H'->Q .aX H'
theorem We (F:bK K "use" "Room.use" GL f fd) (T:Txt K mg) (uH:dS P w K mg base (aB K "Room") "need" 2 BF (ET K)) (mJ:dS P w K mg base (aB K "Room") "mates" 2 vB (yI K)):aD P w K mg base bB 3 f fd GK (qu K):=by
 refine F.ok gj (λvs H Q E h=>?_) (λcdv A outer st H vs Q E hr h=>?_)
 .obtain ⟨p,b,sh,pl,ru,ls,ao,du,seq,us,n,rfl,_⟩:=h
  rfl
 obtain ⟨p,b,sh,pl,ru,ls,ao,du,seq,us,n,rfl,R,hn,hb,hsl,k⟩:=h
 have nd:=gj.nd
 have hu:=cW hr
 refine ⟨_,(Zd (Zy (ZQ uH hr.m T.fD (pv 0) (pc (pv 1) Zc)))
   (Zd (RX hu (pB (K:=K) rfl (pv 0) rfl) (pv 1) Zi Ra (λ_ _ _=>rfl))
   (Zj (aI (Zp aQ (pB (K:=K) rfl (pv 0) rfl) rA (Zs _)) (Zd (bA 2 nd (ZQ mJ hr.m T.fD (pv 0) (pc (pv 1) Zc)))
   (Zd (Zy (jm (K:=K) rfl (bI a7f aGH a3w Gm (pv 2) (pc (pv 1) Zc))))
   (Zj (Zy (jm (K:=K) rfl (bI a7f axz aXi ZB (pv 2) (pc (pv 1) Zc))))))) Zu)))),?_⟩
 obtain ⟨dx,h1⟩:=R.ob
 obtain ⟨kvs,h2,h3,h4⟩:=R.dc
 obtain ⟨o1,o2,o3,o4,o5,o6⟩:=R.off
 refine ⟨_,rfl,p,dx,_,rfl,h1,cu ..,_,rfl,p,b,sh,pl,ru,ls,ao,du,seq,us,n,rfl,R,hb,?_⟩
 refine ⟨_,rfl,p,_,dx,_,_,rfl,h1,T.fD,T.uI,yJ ..,_,rfl,du,_,rfl,(by have q:=eZ.k (k:=Sum.inl b) h2; rw [h4 b,aHZ hb] at q; exact q),_,_,rfl,rfl,_,jg.k (k:=Sum.inl b) h2 (Zn (by lia)),?_⟩
 have R1:aE K (upd H du (.dK (putK kvs (Sum.inl b) (.int (us b+1))))) p sh pl ru ls ao du seq (bump us b) (n+1):=by
  refine ⟨⟨dx,by rw [Ze o1]; exact h1⟩,R.st.other _ (aay o3) o5,⟨_,Za,ajJ (t7 ..) (by lia),λx=>?_⟩,R.nd,R.s0,R.s1⟩
  rw [BB]
  unfold bump
  by_cases c:x=b
  .subst c
   rw [aHZ rfl,aHZ hb,aHZ rfl]
  .rw [bd2 (λz=>c (aeP z)),h4 x,bd2 c]
 have s1:SR ao du H (upd H du (.dK (putK kvs (Sum.inl b) (.int (us b+1))))):=λx o e n1 n2=>by rw [Ze n1]; exact e
 generalize upd H du (.dK (putK kvs (Sum.inl b) (.int (us b+1))))=H1 at *
 obtain ⟨qU,g1⟩:=R1.ob
 refine ⟨_,rfl,p,_,qU,_,_,rfl,g1,T.fD,T.Dm,KD ..,rfl,_,rfl,?_⟩
 refine ZC (λc=>?_) (λc=>?_)
 .have c':ru = "old" := by injection c
  rw [aHZ c'] at k
  refine ⟨_,rfl,p,qU,_,rfl,g1,cu ..,_,rfl,p,b,sh,pl,ru,ls,ao,du,seq,_,_,rfl,R1,λs ad es hs had=>?_⟩
  have nL:ad∈ao:=aVV hs
  have hmem:b∈Zh sh (b % sh) seq:=aa.mpr ⟨hb,rfl⟩
  refine ⟨_,rfl,.inl ⟨rfl,_,ak.of had⟩,_,rfl,ad,_,b,rfl,rfl,had,hmem,?_⟩
  have ll:((Zh sh (b % sh) seq).erase b).length<=900:=ajJ acH (ajJ (aYO ..) hsl)
  refine ⟨_,rfl,.inl ⟨rfl,_,ak.of Za⟩,_,rfl,ad,_,_,rfl,rfl,Za,Zn (by rw [aH5]; lia),?_⟩
  rw [tY]
  have e1:(((Zh sh (b % sh) seq).erase b).map V.int++[V.int b])=((Zh sh (b % sh) seq).erase b++[b]).map V.int:=by rw [auU]; rfl
  have S2:fW (upd H1 ad (.lst (((Zh sh (b % sh) seq).erase b++[b]).map V.int))) ls ao sh (seq.erase b++[b]):=by
   refine R1.st.put hs ?_ λs' hs'=>?_
   .rw [Zz,aHZ es.symm,ZF,es]
   .rw [Zz,bd2 (by lia),ZF]
    exact ae6 λm=>hs' (by have:=(aa.mp m).2; lia)
  have np:p≠ad:=λz=>o2 (z ▸ nL)
  have DH:du≠ad:=λz=>o5 (z ▸ nL)
  obtain ⟨DR,g2,g3,g4⟩:=R1.dc
  have I0:∀ x,x∈seq.erase b++[b]↔x∈seq:=λx=>by
   rw [aov,aNI,af8 R.nd]
   constructor
   .rintro (⟨_,m⟩ | rfl)
    .exact m
    .exact hb
   .intro m
    by_cases z:x=b
    .exact .inr z
    .exact .inl ⟨z,m⟩
  rw [e1]
  refine k _ ⟨⟨qU,by rw [Ze np]; exact g1⟩,S2,⟨DR,by rw [Ze DH]; exact g2,g3,λx=>?_⟩,?_,R.s0,R.s1⟩ λx o e n1 n2=>?_
  .rw [g4 x]
   by_cases m:x∈seq
   .rw [aHZ m,aHZ ((I0 x).mpr m)]
   .rw [bd2 m,bd2 (λz=>m ((I0 x).mp z))]
  .refine mL (R.nd.erase b) λm=>((af8 R.nd).mp m).1 rfl
  .rw [Ze (λz:x=ad=>n2 (z ▸ nL))]
   exact s1 _ _ e n1 n2
 .have c':¬ ru = "old" := λz=>c (by rw [z])
  rw [bd2 c'] at k
  exact k _ R1 s1
end
def lG (ru:Str) (r:Rec):Int:=if ru = "old" then r.t1 else r.t0
def tm (ru:Str) (S:List Rec) (x:Int):Int:=match aL S x with
 | some r=>lG ru r
 | none=>0
theorem yC {ru:Str} {S:List Rec} {r:Rec} (u:Uq S) (h:r∈S):tm ru S r.b=lG ru r:=by
 unfold tm
 rw [u.rec r h]
def av (seq:List Int):Option Int->List Int
 | none=>seq
 | some g=>seq.erase g
structure eY (sh pl:Int) (ru:Str) (S:List Rec) (seq:List Int) (us:Int->Int) (i:Nat):Prop where
 uq:Uq S
 nd:seq.Nodup
 mem:∀ b,b∈seq↔b∈iy S
 ord:seq.Pairwise λa b=>tm ru S a<tm ru S b
 bnd:∀ b∈seq,tm ru S b<i
 vN:∀ r∈S,us r.b=r.n
 cap:∀ s,((Zh sh s seq).length:Int)<=pl
def kT (ru:Str) (us:Int->Int) (pl:Int) (ms:List Int) (gone:Option Int):Prop :=
 ((ms.length:Int)<pl->gone=none)/\(¬ (ms.length:Int)<pl->∃ (g:Int) (rest:List Int),gone=some g/\(g :: rest).Perm ms/\(ru = "few" -> (g :: rest).Pairwise (ud us ms))/\(ru ≠ "few" -> g :: rest=ms))
theorem BN:∀ {a b:List Int},a.Nodup->b.Nodup->(∀ x,x∈a↔x∈b)->a.length=b.length
 | [],b,_,_,h=>by
  cases b with
  | nil=>rfl
  | cons y r=>exact absurd ((h y).mpr aTs) (by simp)
 | x :: a,b,na,nb,h=>by
  obtain ⟨n1,n2⟩:=aHW.mp na
  have mb:x∈b:=(h x).mp aTs
  have ih:=BN n2 (nb.erase x) λy=>by
   rw [af8 nb]
   constructor
   .intro m
    exact ⟨λz=>n1 (z ▸ m),(h y).mp (akt _ m)⟩
   .rintro ⟨z,m⟩
    rcases aDl.mp ((h y).mpr m) with q | q
    .exact absurd q z
    .exact q
  rw [aRy,ih,akb mb]
  have:0<b.length:=aMf mb
  lia
theorem eY.Dv {sh pl:Int} {ru:Str} {S:List Rec} {seq:List Int} {us:Int->Int} {i:Nat} (L:eY sh pl ru S seq us i) (z:Int):((ZS sh z S).length=(Zh sh (z % sh) seq).length)/\∀ x,x∈Zh sh (z % sh) seq↔∃ r∈ZS sh z S,r.b=x:=by
 have hm:∀ x,x∈Zh sh (z % sh) seq↔∃ r∈ZS sh z S,r.b=x:=λx=>by
  rw [aa,L.mem x]
  constructor
  .rintro ⟨m,e⟩
   obtain ⟨r,hr,rfl⟩:=aea.mp m
   exact ⟨r,apP.mpr ⟨hr,by simp [e]⟩,rfl⟩
  .rintro ⟨r,hr,rfl⟩
   obtain ⟨h1,h2⟩:=apP.mp hr
   exact ⟨aea.mpr ⟨r,h1,rfl⟩,by simpa using h2⟩
 refine ⟨?_,hm⟩
 have xr:((ZS sh z S).map (·.b)).Nodup:=aTd (List.Sublist.map _ a9R) L.uq
 have uN:(Zh sh (z % sh) seq).Nodup:=aTd a9R L.nd
 have e:=BN xr uN λx=>by
  rw [hm x,mem_map]
 rw [aH5] at e
 exact e
theorem T6 {R:Int->Int->Prop} {l:List Int} (p:l.Pairwise R) {a b:Int} (ha:a∈l) (hb:b∈l) (h:l.idxOf a<l.idxOf b):R a b:=by
 have la:=List.idxOf_lt_length_of_mem ha
 have lb:=List.idxOf_lt_length_of_mem hb
 have q:=bcW.mp p _ _ la lb h
 rwa [List.getElem_idxOf la,List.getElem_idxOf lb] at q
theorem FG {a b:Int} {x y:List Int} (h:a<b):HT.lexLt (a :: x) (b :: y)=true:=by
 rw [HT.aO,bd2 (by lia),aPy h]
theorem SI {sh pl:Int} {ru:Str} {S:List Rec} {seq:List Int} {us:Int->Int} {i:Nat} {z:Int} {gone:Option Int} (L:eY sh pl ru S seq us i) (hpl:1<=pl) (qP:mC ru) (G:kT ru us pl (Zh sh (z % sh) seq) gone):cX sh pl ru S z=gone:=by
 obtain ⟨hlen,hmem⟩:=L.Dv z
 by_cases c:((ZS sh z S).length:Int)<pl
 .rw [G.1 (by rw [← hlen]; exact c)]
  unfold cX
  rw [aHZ c]
 .obtain ⟨g,rest,rfl,pm,h1,h2⟩:=G.2 (by rw [← hlen]; exact c)
  obtain ⟨r,hr,e,least⟩:=MB (ru:=ru) hpl c
  rw [e]
  have hg:g∈Zh sh (z % sh) seq:=pm.mem_iff.mp aTs
  obtain ⟨r0,hr0,e0⟩:=(hmem g).mp hg
  have hrb:r.b∈Zh sh (z % sh) seq:=(hmem r.b).mpr ⟨r,hr,rfl⟩
  by_cases eq:r.b=g
  .rw [eq]
  .exfalso
   have hrest:r.b∈rest:=by
    rcases aDl.mp (pm.mem_iff.mpr hrb) with q | q
    .exact absurd q eq
    .exact q
   have DV:r∈S:=(apP.mp hr).1
   have sE:r0∈S:=(apP.mp hr0).1
   have cN:(Zh sh (z % sh) seq).Pairwise λa b=>tm ru S a<tm ru S b:=aL9 a9R L.ord
   have bad:=least r0 hr0
   have ht:∀ {a b:Int},a∈Zh sh (z % sh) seq->b∈Zh sh (z % sh) seq->(Zh sh (z % sh) seq).idxOf a<(Zh sh (z % sh) seq).idxOf b->tm ru S a<tm ru S b:=λha hb h=>T6 cN ha hb h
   by_cases few:ru = "few"
   .have k:=List.rel_of_pairwise_cons (h1 few) hrest
    have e1:tm ru S r0.b=r0.t0:=by rw [yC L.uq sE,lG,bd2 (by rw [few]; decide)]
    have e2:tm ru S r.b=r.t0:=by rw [yC L.uq DV,lG,bd2 (by rw [few]; decide)]
    have u1:=L.vN r0 sE
    have u2:=L.vN r DV
    have kk:∀ q:Rec,fJ ru q=[q.n,q.t0]:=λq=>by
     unfold fJ AD
     rw [few,bd2 (by decide),bd2 (by decide)]
     rfl
    rw [kk,kk] at bad
    rcases k with k | ⟨k1,k2⟩
    .rw [← e0,u1,u2] at k
     rw [show [r0.n,r0.t0]++[r0.b]=r0.n :: [r0.t0,r0.b] from rfl,show [r.n,r.t0]++[r.b]=r.n :: [r.t0,r.b] from rfl,FG k] at bad
     cases bad
    .have t:=ht hg hrb k2
     rw [← e0,e1,e2] at t
     rw [← e0,u1,u2] at k1
     rw [show [r0.n,r0.t0]++[r0.b]=r0.n :: [r0.t0,r0.b] from rfl,show [r.n,r.t0]++[r.b]=r.n :: [r.t0,r.b] from rfl,HT.aO,aHZ k1,FG t] at bad
     cases bad
   .have e3:=h2 few
    have t:tm ru S g<tm ru S r.b:=by
     rw [← e3] at cN
     exact List.rel_of_pairwise_cons cN hrest
    rw [← e0,yC L.uq sE,yC L.uq DV] at t
    have kk:∀ q:Rec,fJ ru q++[q.b]=[lG ru q,q.b]:=λq=>by
     rcases qP with rfl | rfl | rfl
     .unfold fJ AD lG
      rw [aHZ rfl,aHZ rfl]
      rfl
     .unfold fJ AD lG
      rw [bd2 (by decide),aHZ rfl,bd2 (by decide)]
      rfl
     .exact absurd rfl few
    rw [kk,kk,FG t] at bad
    cases bad
theorem yz {ru:Str} {S:List Rec} {q:Rec} (x:Int):tm ru (bS S q) x=if x=q.b then lG ru q else tm ru S x:=by
 unfold tm
 rw [Gz]
 by_cases e:x=q.b
 .rw [aHZ e,aHZ e]
 .rw [bd2 e,bd2 e]
theorem SH {ru:Str} {S:List Rec} {g:Option Int} {x:Int} (h:∀ y,g=some y->x≠y):tm ru (dM S g) x=tm ru S x:=by
 cases g with
 | none=>rfl
 | some y =>
  unfold tm
  rw [show aL (dM S (some y)) x=aL S x by
   show aL (fL S y) x=_
   rw [MA,bd2 (h y rfl)]]
theorem LW {seq:List Int} {g:Option Int}:(av seq g).length<=seq.length:=by
 cases g with
 | none=>exact avG _
 | some g=>exact acH
theorem aU {seq:List Int} {g:Option Int}:(av seq g).Sublist seq:=by
 cases g with
 | none=>exact List.Sublist.refl _
 | some g=>exact erase_sublist
theorem Bs {seq:List Int} {g:Option Int} (nd:seq.Nodup) {x:Int}:x∈av seq g↔x∈seq/\∀ y,g=some y->x≠y:=by
 cases g with
 | none=>exact ⟨λh=>⟨h,λy e=>by cases e⟩,λh=>h.1⟩
 | some g =>
  show x∈seq.erase g↔_
  rw [af8 nd]
  exact ⟨λh=>⟨h.2,λy e=>by cases e; exact h.1⟩,λh=>⟨h.2 g rfl,h.1⟩⟩
theorem LV {S:List Rec} {g:Option Int} {x:Int}:x∈iy (dM S g)↔x∈iy S/\∀ y,g=some y->x≠y:=by
 cases g with
 | none=>exact ⟨λh=>⟨h,λy e=>by cases e⟩,λh=>h.1⟩
 | some g =>
  show x∈iy (fL S g)↔_
  rw [T8]
  exact ⟨λh=>⟨h.1,λy e=>by cases e; exact h.2⟩,λh=>⟨h.1,h.2 g rfl⟩⟩
theorem VX {S:List Rec} {o:Option Int} {r:Rec} (h:r∈dM S o):r∈S:=by
 cases o with
 | none=>exact h
 | some g=>exact (apP.mp h).1
theorem Mq {S:List Rec} {q r:Rec} (u:Uq S) (h:r∈bS S q):r=q\/(r∈S/\r.b≠q.b):=by
 have e:=(u.put q).rec r h
 rw [Gz] at e
 by_cases c:r.b=q.b
 .rw [aHZ c] at e
  exact .inl (bcC e).symm
 .rw [bd2 c] at e
  exact .inr ⟨(GJ e).1,c⟩
theorem Mp {R:Int->Int->Prop} {l:List Int} {z:Int} (p:l.Pairwise R) (h:∀ x∈l,R x z):(l++[z]).Pairwise R:=by
 rw [pairwise_append]
 exact ⟨p,List.pairwise_singleton _ _,λa ha b hb=>by rw [adl.mp hb]; exact h a ha⟩
theorem eY.missed {sh pl:Int} {ru:Str} {S:List Rec} {seq:List Int} {us us':Int->Int} {i:Nat} {z:Int} {gone:Option Int} (L:eY sh pl ru S seq us i) (hz:z∉seq) (hg:cX sh pl ru S z=gone) (hu:∀ x,us' x=if x=z then 0 else us x)
  (hc:((Zh sh (z % sh) seq).length:Int)<pl\/∃ g∈Zh sh (z % sh) seq,gone=some g):eY sh pl ru (bS (dM S gone) ⟨z,i,i,0⟩) (av seq gone++[z]) us' (i+1):=by
 have u1:=L.uq.less gone
 have nz:z∉av seq gone:=λm=>hz (aU.subset m)
 have tq:lG ru ⟨z,i,i,0⟩=(i:Int):=by unfold lG; split <;> rfl
 have te:∀ x∈av seq gone,tm ru (bS (dM S gone) ⟨z,i,i,0⟩) x=tm ru S x:=λx m=>by
  obtain ⟨m1,m2⟩:=(Bs L.nd).mp m
  rw [yz,bd2 (λe:x=z=>nz (e ▸ m)),SH m2]
 have tz:tm ru (bS (dM S gone) ⟨z,i,i,0⟩) z=(i:Int):=by rw [yz,aHZ rfl,tq]
 refine ⟨u1.put _,mL (L.nd.sublist aU) nz,λx=>?_,Mp ?_ ?_,λx m=>?_,λr hr=>?_,λs=>?_⟩
 .rw [aov,aNI,A8,Bs L.nd,LV,L.mem x]
  exact ⟨λh=>h.elim (λq=>.inr q) λq=>.inl q,λh=>h.elim (λq=>.inr q) λq=>.inl q⟩
 .have p:=L.ord.sublist (aU (g:=gone))
  exact p.imp_of_mem λha hb h=>by rw [te _ ha,te _ hb]; exact h
 .intro x m
  rw [te x m,tz]
  exact L.bnd x (aU.subset m)
 .rcases bbY.mp m with m | m
  .rw [te x m]
   have:=L.bnd x (aU.subset m)
   lia
  .rw [adl.mp m,tz]
   lia
 .rcases Mq u1 hr with rfl | ⟨h1,h2⟩
  .rw [hu,aHZ rfl]
  .rw [hu,bd2 h2]
   exact L.vN r (VX h1)
 .rw [Zz]
  have hl:Zh sh s (av seq gone)=av (Zh sh s seq) gone:=by
   cases gone with
   | none=>rfl
   | some g=>exact ZF sh s g seq
  rw [hl]
  have cs:=L.cap s
  have ll:=LW (seq:=Zh sh s seq) (g:=gone)
  split
  .rename_i e
   rw [aIt]
   rcases hc with hc | ⟨g,hg',rfl⟩
   .rw [e] at hc
    have:[z].length=1:=rfl
    lia
   .rw [e] at hg'
    have e1:(av (Zh sh s seq) (some g)).length=(Zh sh s seq).length - 1:=akb hg'
    have p0:0<(Zh sh s seq).length:=aMf hg'
    have:[z].length=1:=rfl
    lia
  .lia
theorem eY.found {sh pl:Int} {ru:Str} {S:List Rec} {seq:List Int} {us us':Int->Int} {i:Nat} {z:Int} {r:Rec} (L:eY sh pl ru S seq us i) (hr:aL S z=some r) (hu:∀ x,us' x=if x=z then us z+1 else us x) :
  eY sh pl ru (bS S ⟨z,r.t0,i,r.n+1⟩) (if ru = "old" then seq.erase z++[z] else seq) us' (i+1):=by
 obtain ⟨rS,rb⟩:=GJ hr
 subst rb
 have Cb:r.b∈seq:=(L.mem _).mpr (aea.mpr ⟨r,rS,rfl⟩)
 have HU:∀ q∈bS S ⟨r.b,r.t0,i,r.n+1⟩,us' q.b=q.n:=λq hq=>by
  rcases Mq L.uq hq with rfl | ⟨h1,h2⟩
  .rw [hu,aHZ rfl,L.vN r rS]
  .rw [hu,bd2 h2]
   exact L.vN q h1
 have xx:∀ x,x∈iy (bS S ⟨r.b,r.t0,i,r.n+1⟩)↔x∈iy S:=λx=>by
  rw [A8]
  constructor
  .rintro (rfl | h)
   .exact (L.mem _).mp Cb
   .exact h
  .exact λh=>.inr h
 by_cases old:ru = "old"
 .rw [aHZ old]
  have nz:r.b∉seq.erase r.b:=λm=>((af8 L.nd).mp m).1 rfl
  have te:∀ x∈seq.erase r.b,tm ru (bS S ⟨r.b,r.t0,i,r.n+1⟩) x=tm ru S x:=λx m=>by
   rw [yz,bd2 (λe:x=r.b=>nz (e ▸ m))]
  have tz:tm ru (bS S ⟨r.b,r.t0,i,r.n+1⟩) r.b=(i:Int):=by rw [yz,aHZ rfl,lG,aHZ old]
  refine ⟨L.uq.put _,mL (L.nd.erase _) nz,λx=>?_,Mp ?_ ?_,λx m=>?_,HU,λs=>?_⟩
  .rw [xx,← L.mem x,aov,aNI,af8 L.nd]
   constructor
   .rintro (⟨_,m⟩ | rfl)
    .exact m
    .exact Cb
   .intro m
    by_cases e:x=r.b
    .exact .inr e
    .exact .inl ⟨e,m⟩
  .have p:=L.ord.sublist (erase_sublist (a:=r.b))
   exact p.imp_of_mem λha hb h=>by rw [te _ ha,te _ hb]; exact h
  .intro x m
   rw [te x m,tz]
   exact L.bnd x (aLU m)
  .rcases bbY.mp m with m | m
   .rw [te x m]
    have:=L.bnd x (aLU m)
    lia
   .rw [adl.mp m,tz]
    lia
  .rw [Zz,ZF]
   have cs:=L.cap s
   split
   .rename_i e
    have hin:r.b∈Zh sh s seq:=aa.mpr ⟨Cb,e⟩
    rw [aIt,akb hin]
    have p0:0<(Zh sh s seq).length:=aMf hin
    have:[r.b].length=1:=rfl
    lia
   .have:((Zh sh s seq).erase r.b).length<=(Zh sh s seq).length:=acH
    lia
 .rw [bd2 old]
  have te:∀ x,tm ru (bS S ⟨r.b,r.t0,i,r.n+1⟩) x=tm ru S x:=λx=>by
   rw [yz]
   by_cases e:x=r.b
   .rw [aHZ e,e,yC L.uq rS,lG,lG,bd2 old,bd2 old]
   .rw [bd2 e]
  refine ⟨L.uq.put _,L.nd,λx=>by rw [xx,L.mem x],L.ord.imp λh=>by rw [te,te]; exact h,λx m=>?_,HU,L.cap⟩
  rw [te]
  have:=L.bnd x m
  lia
section
def J5 (K:W.Frag):Sp:=λvs H Q _=>∃ (p dx:Addr) (sh pl:Int) (ru:Str),vs=[.ref p,.int sh,.int pl,.str ru]/\H p=some (.ins (aB K "Room") dx [])/\1<=sh/\sh<=64 /\
 ∀ (ls:Addr) (ao:List Addr) (du:Addr) (H':Hp),aE K H' p sh pl ru ls ao du [] (λ_=>0) 0->H ls=none->H du=none->(∀ ad∈ao,H ad=none)->(∀ b o,H b=some o->b≠p->H' b=some o)->Q .aX H'
theorem Ws (F:bK K "__init__" "Room.__init__" BG f fd) (T:Txt K mg):aD P w K mg base bB 1 f fd Hi (J5 K):=by
 refine F.ok fB (λvs H Q E h=>?_) (λcdv A outer st H vs Q E hr h=>?_)
 .obtain ⟨p,dx,sh,pl,ru,rfl,_⟩:=h
  rfl
 obtain ⟨p,dx,sh,pl,ru,rfl,hp,hs0,hs1,k⟩:=h
 have nd:=fB.nd
 refine ⟨_,(Zd (yw (pv 0) (pv 1) rfl)
   (Zd (yw (pv 0) (pv 2) rfl)
   (Zd (yw (pv 0) (pv 3) rfl)
   (Zd (yw (pv 0) (oG (Zv (cj:=(Zg BG)) (oN:=dR) (N:=["number"]) (own:=1) (js:=[]) (by decide +kernel) rfl rfl) rfl (ZM rfl T.jx (pc (pv 1) Zc)) (λ_ _ _ _ _ _=>(bD 0 (show List.Nodup (["number"]:List Str) by decide +kernel))) (λ_ _ _ _ _ _=>(ZI Zc))) rfl)
   (Zj (yw (pv 0) BA rfl)))))),?_⟩
 refine ⟨_,rfl,_,rfl,p,_,dx,_,rfl,hp,T.fD,T.HS,(by show 0<1000; decide),?_⟩
 refine ⟨_,rfl,_,rfl,p,_,dx,_,rfl,Za,T.fD,T.HR,(by show 1<1000; decide),?_⟩
 refine ⟨_,rfl,_,rfl,p,_,dx,_,rfl,Za,T.fD,T.Dm,(by show 2<1000; decide),?_⟩
 have e3:upd (upd (upd H p (.ins (aB K "Room") dx (aM "shelves" (.int sh) []))) p (.ins (aB K "Room") dx (aM "places" (.int pl) (aM "shelves" (.int sh) [])))) p (.ins (aB K "Room") dx (aM "rule" (.str ru) (aM "places" (.int pl) (aM "shelves" (.int sh) [])))) p=some (.ins (aB K "Room") dx (aM "rule" (.str ru) (aM "places" (.int pl) (aM "shelves" (.int sh) [])))):=Za
 have o3:∀ b o,H b=some o->b≠p->upd (upd (upd H p (.ins (aB K "Room") dx (aM "shelves" (.int sh) []))) p (.ins (aB K "Room") dx (aM "places" (.int pl) (aM "shelves" (.int sh) [])))) p (.ins (aB K "Room") dx (aM "rule" (.str ru) (aM "places" (.int pl) (aM "shelves" (.int sh) [])))) b=some o:=λb o e n=>by rw [Ze n,Ze n,Ze n]; exact e
 generalize upd (upd (upd H p (.ins (aB K "Room") dx (aM "shelves" (.int sh) []))) p (.ins (aB K "Room") dx (aM "places" (.int pl) (aM "shelves" (.int sh) [])))) p (.ins (aB K "Room") dx (aM "rule" (.str ru) (aM "places" (.int pl) (aM "shelves" (.int sh) []))))=H3 at *
 have f3:∀ b,H3 b=none->H b=none:=λb e=>by
  cases q:H b with
  | none=>rfl
  | some o =>
   by_cases z:b=p
   .rw [z,e3] at e; cases e
   .rw [o3 b o q z] at e; cases e
 refine ⟨_,rfl,sh,rfl,by lia,by lia,λls hls=>?_⟩
 refine tZ (lo:=0) (n:=sh.toNat) (l:=ls) (λj ys σ G=>∃ (v0:Option V) (ao:List Addr),σ=[v0]/\ys=ao.map V.ref/\ao.length=j/\ao.Nodup/\ls∉ao/\G ls=some (.lst ys)/\(∀ ad∈ao,H3 ad=none/\G ad=some (.lst []))/\aq H3 G)
  ⟨none,[],rfl,rfl,rfl,a6N,by simp,Za,by simp,Zf hls _⟩ ?_ ?_
 .rintro j ys σ G hj hy ⟨v0,ao,rfl,rfl,hlen,hnd,hoff,g1,g2,s1⟩
  refine ⟨(sl 0),λq hq=>?_⟩
  have nq:ls≠q:=Zb g1 hq
  have IB:q∉ao:=λm=>by rw [(g2 q m).2] at hq; cases hq
  refine dU.of (ajJ (by lia:sh.toNat<=64) (by decide)) hj hy (by rw [Ze nq]; exact g1) ⟨_,ao++[q],rfl,by rw [auU]; rfl,by rw [aIt,hlen]; rfl,mL hnd IB,?_,Za,λad m=>?_,?_⟩
  .intro m
   rcases bbY.mp m with m | m
   .exact hoff m
   .exact nq (by simpa using m)
  .rcases bbY.mp m with m | m
   .rw [Ze (λz:ad=ls=>hoff (z ▸ m)),Ze (λz:ad=q=>IB (z ▸ m))]
    exact g2 ad m
   .have e:ad=q:=by simpa using m
    subst e
    rw [Ze (aay nq)]
    exact ⟨s1.free hq,Za⟩
  .intro e o y
   rw [Ze (Zb y hls),Ze (Zb (s1 _ _ y) hq)]
   exact s1 _ _ y
 rintro ys σ G hy ⟨v0,ao,rfl,rfl,hlen,hnd,hoff,g1,g2,s1⟩
 have gp:=s1 _ _ e3
 refine ⟨_,rfl,p,_,dx,_,rfl,gp,T.fD,T.Ip,(by show 3<1000; decide),?_⟩
 intro du pT
 have DC:ls≠p:=λz=>by rw [z,e3] at hls; cases hls
 have IG:∀ ad∈ao,ad≠p:=λad m z=>by have q:=(g2 ad m).1; rw [z,e3] at q; cases q
 have Ac:p≠du:=Zb (Za (H:=G) (a:=p) (o:=.ins (aB K "Room") dx (aM "standing" (.ref ls) (aM "rule" (.str ru) (aM "places" (.int pl) (aM "shelves" (.int sh) [])))))) pT
 have gl:ls≠du:=λz=>by rw [← z,Ze DC,g1] at pT; cases pT
 have ga:du∉ao:=λm=>by rw [Ze (aay Ac),(g2 du m).2] at pT; cases pT
 refine ⟨_,rfl,p,_,dx,_,rfl,(by rw [Ze Ac]; exact Za),T.fD,T.uI,(by show 4<1000; decide),?_⟩
 have xW:H3 du=none:=by
  rw [Ze (aay Ac)] at pT
  exact s1.free pT
 refine k ls ao du _ ⟨⟨dx,Za⟩,⟨?_,hlen,hnd,hoff,λi ad e=>?_⟩,⟨[],?_,avG _,λb=>by simp [aT]⟩,a6N,hs0,hs1⟩ (f3 _ hls) (f3 _ xW) (λad m=>f3 _ (g2 ad m).1) λb o e n=>?_
 .rw [Ze DC,Ze gl,Ze DC]
  exact g1
 .have m:=aVV e
  rw [Ze (IG ad m),Ze (λz:ad=du=>ga (z ▸ m)),Ze (IG ad m)]
  exact (g2 ad m).2
 .rw [Ze (aay Ac)]
  exact Za
 .have q:=s1 _ _ (o3 b o e n)
  have nb:b≠du:=λz=>by
   rw [← z,Ze n,q] at pT
   cases pT
  rw [Ze n,Ze nb,Ze n]
  exact q
def zero (us:Int->Int) (b:Int):Int->Int:=λx=>if x=b then 0 else us x
def KC (K:W.Frag):Sp:=λvs H Q _=>∃ (p:Addr) (b sh pl:Int) (ru:Str) (ls:Addr) (ao:List Addr) (du:Addr) (seq:List Int) (us:Int->Int) (n:Nat),vs=[.ref p,.int b]/\aE K H p sh pl ru ls ao du seq us n/\Tb K H/\n<=900/\b∉seq/\1<=pl/\(Zh sh (b % sh) seq).length<64 /\
 ∀ (gone:Option Int) (H':Hp),kT ru us pl (Zh sh (b % sh) seq) gone->aE K H' p sh pl ru ls ao du (av seq gone++[b]) (zero us b) (n+1)->SR ao du H H'->Q (aK gone) H'
def LU (K:W.Frag):Sp:=λvs H Q _=>∃ (p:Addr) (b sh pl:Int) (ru:Str) (ls:Addr) (ao:List Addr) (du:Addr) (seq:List Int) (us:Int->Int) (n:Nat),vs=[.ref p,.int b]/\aE K H p sh pl ru ls ao du seq us n/\Tb K H/\1<=pl/\(Zh sh (b % sh) seq).length<64 /\
 ∀ (gone:Option Int) (H':Hp),kT ru us pl (Zh sh (b % sh) seq) gone->aq H H'->Q (aK gone) H'
theorem WV (F:bK K "leaver_for" "Room.leaver_for" Ht f fd) (T:Txt K mg) (mJ:dS P w K mg base (aB K "Room") "mates" 2 vB (yI K)) (Ds:dS P w K mg base (aB K "Room") "going" 2 yR (FH K)):aD P w K mg base bB 3 f fd Hs (LU K):=by
 refine F.ok bR (λvs H Q E h=>?_) (λcdv A outer st H vs Q E hr h=>?_)
 .obtain ⟨p,b,sh,pl,ru,ls,ao,du,seq,us,n,rfl,_⟩:=h
  rfl
 obtain ⟨p,b,sh,pl,ru,ls,ao,du,seq,us,n,rfl,R,tb,hpl,h64,k⟩:=h
 have nd:=bR.nd
 have hu:=cW hr
 refine ⟨_,(Zd (bA 2 nd (ZQ mJ hr.m T.fD (pv 0) (pc (pv 1) Zc)))
   (Zd (aI (Zp cV (Zk (Zm (K:=K) rfl) rfl T.dX a21 (pc (pv 2) Zc)) (pB (K:=K) rfl (pv 0) rfl) (Zs _)) (Zj (Zq tQ)) Zu)
   (Zj (Zq (aA (Zo (K:=K) rfl) (ZQ Ds hr.m T.fD (pv 0) (pc (pv 2) Zc)) Zi (λ_ _=>rfl)))))),?_⟩
 obtain ⟨dx,h1⟩:=R.ob
 refine ⟨_,rfl,p,dx,_,rfl,h1,cu ..,_,rfl,p,b,sh,pl,ru,ls,ao,du,seq,us,n,rfl,R,λs ad es hs had=>?_⟩
 have hnd:(Zh sh (b % sh) seq).Nodup:=R.nd.sublist a9R
 refine ⟨_,rfl,ad,_,rfl,.inl (ak.of had),_,rfl,p,_,dx,_,_,rfl,h1,T.fD,T.HR,UG ..,_,_,rfl,rfl,_,rfl,?_⟩
 rw [aH5]
 refine ZC (λc=>?_) (λc=>?_)
 .exact k none H ⟨λ_=>rfl,λz=>absurd z (by lia)⟩ (aq.refl _)
 .refine ⟨_,rfl,p,dx,_,rfl,h1,cu ..,_,rfl,p,ad,Zh sh (b % sh) seq,sh,pl,ru,ls,ao,du,seq,us,n,rfl,R,tb,had,h64,hnd,(λx m=>(aa.mp m).1),λD H' os hD sm hl po s1 s2=>?_⟩
  have lo:=po.length_eq
  match os,hl,po,s1,s2,lo with
  | [],_,_,_,_,lo=>exact absurd lo (by simp; lia)
  | g :: rest,hl,po,s1,s2,lo =>
   refine ⟨D,_,_,_,rfl,rfl,ak.of hl,l5,?_⟩
   exact k (some g) H' ⟨λz=>absurd c (by lia),λ_=>⟨g,rest,rfl,po,s1,s2⟩⟩ sm
theorem WH (F:bK K "bring" "Room.bring" GV f fd) (T:Txt K mg) (pH:dS P w K mg base (aB K "Room") "has" 1 yV (kH K)) (Dk:dS P w K mg base (aB K "Room") "leaver_for" 3 Hs (LU K)) (mJ:dS P w K mg base (aB K "Room") "mates" 2 vB (yI K)) (Dl:dS P w K mg base (aB K "Room") "drop" 3 Hg (J6 K)):aD P w K mg base bB 4 f fd GU (KC K):=by
 refine F.ok eG (λvs H Q E h=>?_) (λcdv A outer st H vs Q E hr h=>?_)
 .obtain ⟨p,b,sh,pl,ru,ls,ao,du,seq,us,n,rfl,_⟩:=h
  rfl
 obtain ⟨p,b,sh,pl,ru,ls,ao,du,seq,us,n,rfl,R,tb,hn,hb,hpl,h64,k⟩:=h
 have nd:=eG.nd
 have hu:=cW hr
 refine ⟨_,(Zd (aI (ZY (ZQ pH hr.m T.fD (pv 0) (pc (pv 1) Zc))) (Zj nC) Zu)
   (Zd (bA 2 nd (ZQ Dk hr.m T.fD (pv 0) (pc (pv 1) Zc)))
   (Zd (aI (yy (Fv (pv 2))) (Zj (Zy (ZQ Dl hr.m T.fD (pv 0) (pc (pv 2) Zc)))) Zu)
   (Zd (Zy (jm (K:=K) rfl (bI a7f axz aXi ZB (ZQ mJ hr.m T.fD (pv 0) (pc (pv 1) Zc)) (pc (pv 1) Zc))))
   (Zd (Fp hu (pB (K:=K) rfl (pv 0) rfl) (pv 1) Zi rfl)
   (Zj (Zq (pv 2)))))))),?_⟩
 obtain ⟨dx,h1⟩:=R.ob
 refine ⟨_,rfl,p,dx,_,rfl,h1,cu ..,_,rfl,p,b,sh,pl,ru,ls,ao,du,seq,us,n,rfl,R,?_⟩
 rw [aXf hb]
 refine ⟨_,rfl,bu rfl ?_⟩
 refine ⟨_,rfl,p,dx,_,rfl,h1,cu ..,_,rfl,p,b,sh,pl,ru,ls,ao,du,seq,us,n,rfl,R,tb,hpl,h64,λgone H1 gp sm=>?_⟩
 refine gN ?_
 dsimp only
 have R0:=R.same sm
 have hnd:(Zh sh (b % sh) seq).Nodup:=R.nd.sublist a9R
 refine qV (λσ G=>σ=[some (.ref p),some (.int b),some (aK gone)]/\aE K G p sh pl ru ls ao du (av seq gone) us n/\SR ao du H G) (λD' _ k'=>?_) ?_
 .match gone,gp with
  | none,gp=>exact ⟨_,rfl,_,rfl,bu rfl (k' _ _ ⟨rfl,R0,SR.of sm⟩)⟩
  | some g,gp =>
   have hg:g∈Zh sh (b % sh) seq:=by
    by_cases c:((Zh sh (b % sh) seq).length:Int)<pl
    .exact absurd (gp.1 c) (by simp)
    .obtain ⟨g',rest,e,po,_⟩:=gp.2 c
     injection e with e
     subst e
     exact po.mem_iff.mp aTs
   obtain ⟨Ez,pV⟩:=R0.ob
   exact ⟨_,rfl,_,rfl,cE rfl ⟨_,rfl,p,Ez,_,rfl,pV,cu ..,_,rfl,p,g,sh,pl,ru,ls,ao,du,seq,us,n,rfl,R0,(aa.mp hg).1,λH2 R2 s3=>k' _ _ ⟨rfl,R2,(SR.of sm).trans s3⟩⟩⟩
 rintro _ G ⟨rfl,R1,s1⟩
 obtain ⟨qU,g1⟩:=R1.ob
 obtain ⟨kvs,g2,g3,g4⟩:=R1.dc
 obtain ⟨o1,o2,o3,o4,o5,o6⟩:=R1.off
 refine ⟨_,rfl,p,qU,_,rfl,g1,cu ..,_,rfl,p,b,sh,pl,ru,ls,ao,du,av seq gone,us,n,rfl,R1,λs ad es hs Qd=>?_⟩
 have nL:ad∈ao:=aVV hs
 have xY:=R1.st.at_ s ad hs
 have ll:(Zh sh s (av seq gone)).length<=64:=by
  have q:(Zh sh s (av seq gone)).Sublist (Zh sh s seq):=List.Sublist.filter _ (aU (g:=gone))
  have q2:=q.length_le
  rw [es] at q2 ⊢
  lia
 refine ⟨.inl ⟨rfl,_,ak.of xY⟩,_,rfl,ad,_,_,rfl,rfl,xY,Zn (by rw [aH5]; lia),?_⟩
 have nb:b∉av seq gone:=λm=>hb (aU.subset m)
 have e1:((Zh sh s (av seq gone)).map V.int++[V.int b])=(Zh sh s (av seq gone)++[b]).map V.int:=by rw [auU]; rfl
 rw [e1]
 have S2:fW (upd G ad (.lst ((Zh sh s (av seq gone)++[b]).map V.int))) ls ao sh (av seq gone++[b]):=by
  refine R1.st.put hs ?_ λs' hs'=>?_
  .rw [Zz,aHZ es.symm]
  .rw [Zz,bd2 (by lia)]
 have np:p≠ad:=λz=>o2 (z ▸ nL)
 have DH:du≠ad:=λz=>o5 (z ▸ nL)
 have qS:upd G ad (.lst ((Zh sh s (av seq gone)++[b]).map V.int)) p=some (.ins (aB K "Room") qU (eV sh pl ru ls du)):=by rw [Ze np]; exact g1
 have tu:upd G ad (.lst ((Zh sh s (av seq gone)++[b]).map V.int)) du=some (.dK kvs):=by rw [Ze DH]; exact g2
 refine ⟨_,rfl,p,_,qU,_,_,rfl,qS,T.fD,T.uI,yJ ..,_,rfl,du,_,rfl,jg.k (k:=Sum.inl b) tu (Zn (by lia)),?_⟩
 refine ⟨_,rfl,k gone _ gp ⟨⟨qU,by rw [Ze o1]; exact qS⟩,S2.other _ (aay o3) o5,⟨_,Za,ajJ (t7 ..) (by lia),λx=>?_⟩,mL R1.nd nb,R.s0,R.s1⟩ λx o e n1 n2=>?_⟩
 .rw [BB]
  unfold zero
  by_cases c:x=b
  .subst c
   rw [aHZ rfl,aHZ (aaD _ (adl.mpr rfl)),aHZ rfl]
  .rw [bd2 (λz=>c (aeP z)),g4 x,bd2 c]
   by_cases m:x∈av seq gone
   .rw [aHZ m,aHZ (a3r _ m)]
   .rw [bd2 m,bd2 (λz=>(bbY.mp z).elim m λq=>c (adl.mp q))]
 .rw [Ze n1,Ze (λz:x=ad=>n2 (z ▸ nL))]
  exact s1 _ _ e n1 n2
end
section
def qC (K:W.Frag):Sp:=λvs H Q _=>∃ (p:Addr) (b sh pl:Int) (ru:Str) (ls:Addr) (ao:List Addr) (du:Addr) (seq:List Int) (us:Int->Int) (n:Nat),vs=[.ref p,.int b]/\aE K H p sh pl ru ls ao du seq us n/\Tb K H/\n<=900/\seq.length<=900/\1<=pl/\(Zh sh (b % sh) seq).length<64 /\
 (∀ (t:Addr) (H':Hp),b∈seq->H t=none->aE K H' p sh pl ru ls ao du (if ru = "old" then seq.erase b++[b] else seq) (bump us b) (n+1)->SR ao du H H'->H' t=some (.tup [.bl true,.aX])->Q (.ref t) H') /\
 ∀ (t:Addr) (gone:Option Int) (H':Hp),b∉seq->H t=none->kT ru us pl (Zh sh (b % sh) seq) gone->aE K H' p sh pl ru ls ao du (av seq gone++[b]) (zero us b) (n+1)->SR ao du H H'->H' t=some (.tup [.bl false,aK gone])->Q (.ref t) H'
theorem SR.free {ao:List Addr} {du:Addr} {H H':Hp} {p:Addr} {sh pl:Int} {ru:Str} {ls:Addr} {seq:List Int} {us:Int->Int} {n:Nat} (s:SR ao du H H') (R':aE K H' p sh pl ru ls ao du seq us n) {t:Addr} (h:H' t=none):H t=none:=by
 cases q:H t with
 | none=>rfl
 | some o =>
  have n1:t≠du:=λz=>by
   obtain ⟨kvs,e,_⟩:=R'.dc
   rw [z,e] at h; cases h
  have n2:t∉ao:=λz=>by
   obtain ⟨xs,e⟩:=R'.st.one z
   rw [e] at h; cases h
  rw [s _ _ q n1 n2] at h
  cases h
theorem Rv (F:bK K "ask" "ask" ny f fd) (T:Txt K mg) (pH:dS P w K mg base (aB K "Room") "has" 1 yV (kH K)) (Cn:dS P w K mg base (aB K "Room") "use" 3 GK (qu K)) (Dr:dS P w K mg base (aB K "Room") "bring" 4 GU (KC K)):aD P w K mg base bB 5 f fd oM (qC K):=by
 refine F.ok nu (λvs H Q E h=>?_) (λcdv A outer st H vs Q E hr h=>?_)
 .obtain ⟨p,b,sh,pl,ru,ls,ao,du,seq,us,n,rfl,_⟩:=h
  rfl
 obtain ⟨p,b,sh,pl,ru,ls,ao,du,seq,us,n,rfl,R,tb,hn,hsl,hpl,h64,k1,k2⟩:=h
 have nd:=nu.nd
 refine ⟨_,(Zd (aI (ZY (ZQ pH hr.m T.fD (pv 0) (pc (pv 1) Zc))) (Zd (Zy (ZQ Cn hr.m T.fD (pv 0) (pc (pv 1) Zc)))
   (Zj (Zq (k8 (pc bO (pc tQ Zc)))))) Zu)
   (Zj (Zq (k8 (pc bO (pc (ZQ Dr hr.m T.fD (pv 0) (pc (pv 1) Zc)) Zc)))))),?_⟩
 obtain ⟨dx,h1⟩:=R.ob
 refine ⟨_,rfl,p,dx,_,rfl,h1,cu ..,_,rfl,p,b,sh,pl,ru,ls,ao,du,seq,us,n,rfl,R,_,rfl,?_⟩
 refine ZC (λc=>?_) (λc=>?_)
 .refine ⟨_,rfl,p,dx,_,rfl,h1,cu ..,_,rfl,p,b,sh,pl,ru,ls,ao,du,seq,us,n,rfl,R,hn,c,hsl,λH1 R1 s1=>?_⟩
  exact ⟨(sl 2),λt ht=>k1 t _ c (s1.free R1 ht) (R1.same (Zf ht _)) (s1.trans (SR.of (Zf ht _))) Za⟩
 .refine ⟨_,rfl,p,dx,_,rfl,h1,cu ..,_,rfl,p,b,sh,pl,ru,ls,ao,du,seq,us,n,rfl,R,tb,hn,c,hpl,h64,λgone H1 gp R1 s1=>?_⟩
  exact ⟨(sl 2),λt ht=>k2 t gone _ c (s1.free R1 ht) gp (R1.same (Zf ht _)) (s1.trans (SR.of (Zf ht _))) Za⟩
end
section
theorem eY.nil (sh pl:Int) (ru:Str) (hpl:1<=pl):eY sh pl ru [] [] (λ_=>0) 0 :=
 ⟨a6N,a6N,λb=>by simp [iy],List.Pairwise.nil,(λb m=>nomatch m),(λr m=>nomatch m),λs=>by show ((0:Nat):Int)<=pl; lia⟩
theorem VW (F:bK K "run_row" "run_row" Bk f fd) (T:Txt K mg) (Cv:ue P w K mg base (aB K "Room") "Room" 1 Hi (J5 K)) (Cr:Def P w K mg base "ask" 5 oM (qC K)):aD P w K mg base bB 7 f fd GB (qw K):=by
 refine F.ok gU (λvs H Q E h=>?_) (λcdv A outer st H vs Q E hr h=>?_)
 .obtain ⟨sh,pl,ru,a,row,rfl,_⟩:=h
  rfl
 obtain ⟨sh,pl,ru,a,row,rfl,hS,hs0,hs1,hp0,hp1,qP,hl,bd,tb,k⟩:=h
 have nd:=gU.nd
 refine ⟨_,(Zd (bA 4 nd (Ur Cv hr.m rfl (pc (pv 0) (pc (pv 1) (pc (pv 2) Zc)))))
   (Zj (Zq (oG (Zv (cj:=(Zg Bk)) (oN:=fX) (N:=["board", "room"]) (own:=1) (js:=[4]) (by decide +kernel) rfl rfl) rfl (ZL (K:=K) rfl (pv 3)) (λ_ _ _ _ _ _=>(bD 0 (show List.Nodup (["board", "room"]:List Str) by decide +kernel))) (λ_ _ _ _ _ _=>(Zl Cr hr.m rfl (pc (pv 1) (pc (pv 0) Zc)))))))),?_⟩
 refine ⟨_,rfl,_,rfl,_,rfl,λx dx nx OM ne=>?_⟩
 have s0:aq H (upd (upd H dx (.own x)) x (.ins (aB K "Room") dx [])):=λb o e=>by
  rw [Ze (Zb e nx),Ze (Zb e OM)]
  exact e
 refine ⟨x,dx,sh,pl,ru,rfl,Za,hs0,hs1,λls ao du H1 R1 fl fd' fa o1=>⟨rfl,?_⟩⟩
 have s1:aq H H1:=λb o e=>o1 b o (s0 b o e) (Zb e nx)
 have X4:=s0.free fl
 have Qs:=s0.free fd'
 have Et:∀ ad∈ao,H ad=none:=λad m=>s0.free (fa ad m)
 refine gN ?_
 dsimp only
 refine ⟨_,rfl,a,rfl,⟨_,s1.seq hS⟩,λl hl'=>?_⟩
 have lX:H l=none:=s1.free hl'
 have Ae:l≠ls:=λz'=>by rw [z',R1.st.top] at hl'; cases hl'
 have Ad:l∉ao/\l≠du:=by
  refine ⟨λm=>?_,λz=>?_⟩
  .obtain ⟨xs,e⟩:=R1.st.one m
   rw [e] at hl'; cases hl'
  .obtain ⟨kvs,e,_⟩:=R1.dc
   rw [z,e] at hl'; cases hl'
 refine ZH (K:=K) (a:=a) (xs:=row.map V.int) (l:=l) (λj ys σ' G=>∃ (v0:Option V) (as:List Addr) (seq:List Int) (us:Int->Int),σ'=[v0,some (.ref x)]/\ys=as.map V.ref/\as.length=j/\G l=some (.lst ys)/\aE K G x sh pl ru ls ao du seq us j/\eY sh pl ru (aR sh pl ru row j).1 seq us j/\seq.length<=j /\
   (∀ (m:Nat) (ad:Addr) (f:Bool×Option Int),as[m]?=some ad->(aR sh pl ru row j).2[m]?=some f->G ad=some (.tup [.bl f.1,aK f.2]))/\aq H G)
  ⟨none,[],[],_,rfl,rfl,rfl,Za,R1.same (Zf hl' _),eY.nil sh pl ru hp0,avG _,λm ad f h=>(by simp at h),s1.trans (Zf hl' _)⟩ (λj ys σ' G _ ⟨_,_,_,_,_,_,_,_,_,_,_,_,q⟩=>q.seq hS) ?_ ?_
 .rintro j y ys σ' G hj hy hys ⟨v0,as,seq,us,rfl,rfl,hlen,g1,R,L,O8,q2,s2⟩
  obtain ⟨z,hz,rfl⟩:=oJ hy
  have XU:j<row.length:=(aWj.mp hz).1
  have eg:row.getD j 0=z:=by rw [aeu,hz]; rfl
  have QD:(Zh sh (z % sh) seq).length<64:=by have:=L.cap (z % sh); lia
  have N1:Tb K G:=tb.same s2
  obtain ⟨_,Xk,Oc⟩:=AQ sh pl ru row j
  have e1:(aR sh pl ru row (j+1)).1=(bH sh pl ru j z (aR sh pl ru row j).1).1:=by rw [← eg]; rfl
  have e2:(aR sh pl ru row (j+1)).2=(aR sh pl ru row j).2++[(bH sh pl ru j z (aR sh pl ru row j).1).2]:=by rw [← eg]; rfl
  have fin:∀ (t:Addr) (H':Hp) (seq':List Int) (us':Int->Int) (f:Bool×Option Int),G t=none->aE K H' x sh pl ru ls ao du seq' us' (j+1)->SR ao du G H'->H' t=some (.tup [.bl f.1,aK f.2])->(bH sh pl ru j z (aR sh pl ru row j).1).2=f->eY sh pl ru (aR sh pl ru row (j+1)).1 seq' us' (j+1)->seq'.length<=j+1 ->
    dU (row.map V.int).length l (λj ys σ' G=>∃ (v0:Option V) (as:List Addr) (seq:List Int) (us:Int->Int),σ'=[v0,some (.ref x)]/\ys=as.map V.ref/\as.length=j/\G l=some (.lst ys)/\aE K G x sh pl ru ls ao du seq us j/\eY sh pl ru (aR sh pl ru row j).1 seq us j/\seq.length<=j /\
     (∀ (m:Nat) (ad:Addr) (f:Bool×Option Int),as[m]?=some ad->(aR sh pl ru row j).2[m]?=some f->G ad=some (.tup [.bl f.1,aK f.2]))/\aq H G) j (as.map V.ref) [some (.int z),some (.ref x)] (.ref t) H':=by
   intro t H' seq' us' f ht R' sr x6 hf L' ls'
   have qJ:l≠t:=Zb g1 ht
   have qS:=sr _ _ g1 Ad.2 Ad.1
   have sG:aq H H':=λb o e=>sr _ _ (s2 _ _ e) (Zb e Qs) λm=>by rw [Et b m] at e; cases e
   refine dU.of (aM8 (Zn (by rw [aH5]; lia))) hj hys qS ⟨_,as++[t],seq',us',rfl,by rw [auU]; rfl,by rw [aIt,hlen]; rfl,Za,?_,L',ls',λm ad f' hm hf'=>?_,?_⟩
   .obtain ⟨Xz,Xy,Xx,Xw,Xv,Xu⟩:=R'.off
    obtain ⟨Ez,w1⟩:=R'.ob
    obtain ⟨kvs,w2,w3⟩:=R'.dc
    have OB:x≠l:=λz'=>by rw [z',qS] at w1; cases w1
    exact ⟨⟨Ez,by rw [Ze OB]; exact w1⟩,R'.st.other _ Ae Ad.1,⟨kvs,by rw [Ze (aay Ad.2)]; exact w2,w3⟩,R'.nd,R'.s0,R'.s1⟩
   .rw [e2,hf] at hf'
    by_cases xR:m<as.length
    .rw [aZu xR] at hm
     rw [aZu (by lia)] at hf'
     have q:=q2 m ad f' hm hf'
     have DJ:ad≠l:=λe=>by rw [e,g1] at q; cases q
     rw [Ze DJ]
     exact sr.keep R q (λ_ e=>by cases e) λ_ e=>by cases e
    .rw [arE (by lia)] at hm
     have em:m=as.length:=by
      have:=(aWj.mp hm).1
      simp at this; lia
     subst em
     rw [aGA] at hm
     cases hm
     rw [arE (by lia),Oc,hlen,aGA] at hf'
     cases hf'
     rw [Ze (aay qJ)]
     exact x6
   .intro e o y'
    rw [Ze (Zb y' lX)]
    exact sG _ _ y'
  refine ⟨_,rfl,_,rfl,x,z,sh,pl,ru,ls,ao,du,seq,us,j,rfl,R,N1,by lia,by lia,hp0,QD,λt H' hin ht R' sr x6=>?_,λt gone H' hin ht gp R' sr x6=>?_⟩
  .have Ek:z∈iy (aR sh pl ru row j).1:=(L.mem z).mp hin
   cases hr':aL (aR sh pl ru row j).1 z with
   | none=>exact absurd Ek (aH.mp hr')
   | some r =>
    have es:bH sh pl ru j z (aR sh pl ru row j).1=(bS (aR sh pl ru row j).1 ⟨z,r.t0,j,r.n+1⟩,(true,none)):=by
     unfold bH
     rw [hr']
    refine fin t H' _ _ (true,none) ht R' sr x6 (by rw [es]) ?_ ?_
    .rw [e1,es]
     exact L.found hr' λx=>rfl
    .split
     .rw [aIt,akb hin]
      have:0<seq.length:=aMf hin
      have:[z].length=1:=rfl
      lia
     .lia
  .have Ek:z∉iy (aR sh pl ru row j).1:=λm=>hin ((L.mem z).mpr m)
   have hr':=aH.mpr Ek
   have hg:=SI L hp0 qP gp
   have es:bH sh pl ru j z (aR sh pl ru row j).1=(bS (dM (aR sh pl ru row j).1 gone) ⟨z,j,j,0⟩,(false,gone)):=by
    unfold bH
    rw [hr',hg]
   refine fin t H' _ _ (false,gone) ht R' sr x6 (by rw [es]) ?_ ?_
   .rw [e1,es]
    refine L.missed hin hg (λx=>rfl) ?_
    by_cases c:((Zh sh (z % sh) seq).length:Int)<pl
    .exact .inl c
    .obtain ⟨g,rest,rfl,pm,_⟩:=gp.2 c
     exact .inr ⟨g,pm.mem_iff.mp aTs,rfl⟩
   .rw [aIt]
    have:=LW (seq:=seq) (g:=gone)
    have:[z].length=1:=rfl
    lia
 .rintro ys σ' G hys ⟨v0,as,seq,us,rfl,rfl,hlen,g1,R,L,O8,q2,s2⟩
  rw [aH5] at hlen
  refine k l G lX s2 ⟨as,g1,?_,λm ad f h1 h2=>?_⟩
  .rw [FI,hlen]
  .refine q2 m ad f h1 ?_
   rw [aH5]
   exact h2
end
def ie (sh:Int) (row:List Int) (j:Nat):Option Int:=if row.getD j 0∈hist sh row (row.getD j 0) j then some ((dd ((hist sh row (row.getD j 0) j).takeWhile λy=>decide (y≠row.getD j 0))).length:Int) else none
def tK (sh:Int) (row:List Int):List (Option Int):=(List.range row.length).map (ie sh row)
def nK (sh pl:Int) (ru:Str) (row:List Int):Nat:=(jw sh pl ru row).countP λf=>!f.1
def qB (K:W.Frag):Sp:=λvs H Q _=>∃ (sh:Int) (a:Addr) (row:List Int),vs=[.int sh,.ref a]/\ak K H a (row.map V.int)/\1<=sh/\sh<=64/\row.length<=400/\mH 9999 row /\
 ∀ (l:Addr) (H':Hp),H l=none->aq H H'->H' l=some (.lst ((tK sh row).map aK))->Q (.ref l) H'
def J4 (K:W.Frag):Sp:=λvs H Q _=>∃ (sh pl:Int) (ru:Str) (a:Addr) (row:List Int),vs=[.int sh,.int pl,.str ru,.ref a]/\ak K H a (row.map V.int)/\1<=sh/\sh<=64/\1<=pl/\pl<=16/\mC ru/\row.length<=400/\mH 9999 row/\Tb K H /\
 ∀ H',aq H H'->Q (.int (nK sh pl ru row)) H'
theorem SG (sh:Int) (row:List Int):(tK sh row).length=row.length:=by unfold tK; rw [aH5,aqI]
theorem UD (F:bK K "misses" "misses" Bv f fd) (T:Txt K mg) (Cm:Def P w K mg base "run_row" 7 GB (qw K)):aD P w K mg base bB 8 f fd F9 (J4 K):=by
 refine F.ok iI (λvs H Q E h=>?_) (λcdv A outer st H vs Q E hr h=>?_)
 .obtain ⟨sh,pl,ru,a,row,rfl,_⟩:=h
  rfl
 obtain ⟨sh,pl,ru,a,row,rfl,hS,hs0,hs1,hp0,hp1,qP,hl,bd,tb,k⟩:=h
 have nd:=iI.nd
 refine ⟨_,(Zj (Zq (Zk (Zm (K:=K) rfl) rfl T.dX a21 (pc (BD (Zv (cj:=(Zg Bv)) (oN:=ir) (N:=["found", "out"]) (own:=2) (js:=[]) (by decide +kernel) rfl rfl) rfl (ZL (K:=K) rfl (Zl Cm hr.m rfl (pc (pv 0) (pc (pv 1) (pc (pv 2) (pc (pv 3) Zc)))))) (λ_ _ _ _ _ _=>(kh (K:=K) (n:=2) rfl rfl (Zt (bD 0 (show List.Nodup (["found", "out"]:List Str) by decide +kernel)) (Zt (bD 1 (show List.Nodup (["found", "out"]:List Str) by decide +kernel)) kj)))) (λ_ _ _ _ _ _=>(k9 (ZY (pv 0)))) (λ_ _ _ _ _ _=>(pv 1))) Zc)))),?_⟩
 refine ⟨_,rfl,_,rfl,_,rfl,_,rfl,sh,pl,ru,a,row,rfl,hS,hs0,hs1,hp0,hp1,qP,hl,bd,tb,λlr H1 hlr s1 told=>?_⟩
 obtain ⟨ao,p1,p2,p3⟩:=told
 have rl:=FI sh pl ru row
 have hmiss:nK sh pl ru row=(jw sh pl ru row).countP λf=>!f.1:=rfl
 generalize jw sh pl ru row=fs at *
 refine ⟨lr,rfl,⟨_,ak.of p1⟩,λl hl'=>?_⟩
 refine ZH (K:=K) (a:=lr) (xs:=ao.map V.ref) (l:=l) (λj ys σ' G'=>∃ v0 v1:Option V,σ'=[v0,v1]/\ys.length=(fs.take j).countP (λf=>!f.1)/\G'=upd H1 l (.lst ys))
  ⟨none,none,rfl,rfl,rfl⟩ (λj ys σ' G' _ ⟨_,_,_,_,q⟩=>ak.of (by rw [q,Ze (Zb p1 hl')]; exact p1)) ?_ ?_
 .rintro j x ys σ' G' hj ic hys ⟨v0,v1,rfl,hy,rfl⟩
  rw [bdd] at ic
  cases ea:ao[j]? with
  | none=>rw [ea] at ic; cases ic
  | some ad =>
   rw [ea] at ic
   cases ic
   have Jc:j<fs.length:=by rw [← p2]; exact (aWj.mp ea).1
   have JH:=p3 j ad fs[j] ea (a8w Jc)
   have tk:(fs.take (j+1)).countP (λf=>!f.1)=(fs.take j).countP (λf=>!f.1)+(if (!fs[j].1)=true then 1 else 0):=by
    rw [aK1,a8w Jc,aH7]
    show _+List.countP _ [fs[j]]=_
    rw [agp,List.countP_nil,a3U]
   refine ⟨ad,_,rfl,bJ.of (by rw [Ze (Zb JH hl')]; exact JH),rfl,_,_,rfl,_,_,rfl,rfl,_,rfl,_,rfl,?_⟩
   refine F4 (λc'=>?_) (λc'=>?_)
   .rw [aHZ c'] at tk
    exact ⟨_,rfl,dU.of (aM8 (Zn (by rw [aH5]; lia))) hj hys Za ⟨_,_,rfl,by rw [aIt,hy,tk]; rfl,tY⟩⟩
   .rw [bd2 c',a04] at tk
    exact kD.of hj hys ⟨_,_,rfl,hy.trans tk.symm,rfl⟩
 rintro ys σ' G' _ ⟨v0,v1,rfl,hy,rfl⟩
 rw [aH5,p2,aqK] at hy
 refine ⟨l,_,rfl,.inl (ak.of Za),?_⟩
 rw [hy]
 have q:=k _ (s1.trans (Zf hl' (.lst ys)))
 rw [hmiss] at q
 exact q
def seg (row:List Int) (p t:Nat):List Int:=((row.take p).drop t).reverse
theorem KA (row:List Int) (p t:Nat) (h:t<=p):(row.take p).reverse=seg row p t++(row.take t).reverse:=by
 unfold seg
 rw [← bab]
 congr 1
 have e:row.take t=(row.take p).take t:=by rw [List.take_take,Nat.min_eq_left h]
 rw [e,aGJ]
theorem Tp {row:List Int} {p t:Nat} {x:Int} (h:t<p) (hx:row[t]?=some x):seg row p t=seg row p (t+1)++[x]:=by
 unfold seg
 have hl:t<(row.take p).length:=by
  have:=(aWj.mp hx).1
  rw [aJj]; lia
 rw [aau hl,List.reverse_cons]
 congr 1
 have e:(row.take p)[t]=x:=by
  rw [getElem_take]
  exact (aWj.mp hx).2
 rw [e]
theorem Kz (row:List Int) (p:Nat):seg row p p=[]:=by
 unfold seg
 rw [aaP (List.length_take_le _ _)]
 rfl
theorem To {sh:Int} {row:List Int} {p:Nat} {b:Int} (hb:row.getD p 0=b) (h:b∉seg row p 0):ie sh row p=none:=by
 unfold ie
 rw [hb,bd2]
 intro m
 have:=(apP.mp m).1
 rw [KA row p 0 (auX _),take_zero,List.reverse_nil,aOr] at this
 exact h this
theorem Tn {sh:Int} {row:List Int} {p t:Nat} {b:Int} {ks:List Int} (hb:row.getD p 0=b) (ht:t<p) (hx:row[t]?=some b) (h:b∉seg row p (t+1)) (hn:ks.Nodup) (hk:∀ x,x∈ks↔x∈(seg row p (t+1)).filter λx=>jc sh x b):ie sh row p=some (ks.length:Int):=by
 have e:hist sh row b p=((seg row p (t+1)).filter λx=>jc sh x b)++b :: ((row.take t).reverse.filter λx=>jc sh x b):=by
  unfold hist
  rw [KA row p (t+1) (by lia),aK1,hx,bab,azg]
  congr 1
  show List.filter _ (b :: (row.take t).reverse)=_
  rw [amZ,aHZ (Wi sh b)]
 unfold ie
 rw [hb,e,aHZ (aaD _ aTs)]
 congr 1
 have tw:(((seg row p (t+1)).filter λx=>jc sh x b)++b :: ((row.take t).reverse.filter λx=>jc sh x b)).takeWhile (λy=>decide (y≠b))=(seg row p (t+1)).filter λx=>jc sh x b:=by
  rw [List.takeWhile_append_of_pos,List.takeWhile_cons,bd2 (by simp),aOr]
  intro y hy
  have:y≠b:=λq=>h (q ▸ (apP.mp hy).1)
  simpa using this
 rw [tw]
 have:=((axR hn (nI ((seg row p (t+1)).filter λx=>jc sh x b))).mpr λx=>(hk x).trans jY.symm).length_eq
 rw [this]
theorem SE (ks:List Int) (x:Int):HO.set (λk'=>decide (k'∈ks) || decide (k'=x)) (if decide (x∈ks)=true then ks.length else ks.length+1)=HO.set (λk=>decide (k∈if x∈ks then ks else ks++[x])) (if x∈ks then ks else ks++[x]).length:=by
 by_cases c:x∈ks
 .rw [aHZ c,aHZ (aPy c)]
  congr 1
  funext k'
  rw [aZg,aCI,acz,acz]
  constructor
  .rintro (h | h)
   .exact h
   .rw [h]; exact c
  .exact λh=>.inl h
 .rw [bd2 c,bd2 (by simpa using c),aIt]
  congr 1
  funext k'
  rw [aZg,aCI,acz,acz,acz,aov,aNI]
section
def wB (K:W.Frag):Sp:=λvs H Q _=>∃ (sh:Int) (a:Addr) (row:List Int) (p:Nat),vs=[.int sh,.ref a,.int p]/\ak K H a (row.map V.int)/\1<=sh/\p<row.length/\row.length<=400 /\
 ∀ H',aq H H'->Q (aK (ie sh row p)) H'
theorem WG (F:bK K "beneath_at" "beneath_at" GR f fd) (T:Txt K mg) (iL:Def P w K mg base "shelf_of" 1 rC tV):aD P w K mg base bB 2 f fd GQ (wB K):=by
 refine F.ok eB (λvs H Q E h=>?_) (λcdv A outer st H vs Q E hr h=>?_)
 .obtain ⟨sh,a,row,p,rfl,_⟩:=h
  rfl
 obtain ⟨sh,a,row,p,rfl,hS,hs0,hp,hl,k⟩:=h
 have nd:=eB.nd
 have hu:=cW hr
 refine ⟨_,(Zd (bA 3 nd (aA (Zo (K:=K) rfl) (pv 1) (pv 2) (λ_ _=>rfl)))
   (Zd (bA 4 nd (Vv Vd rfl T.Ct UM))
   (Zd (kq aW3 rfl (Gj rfl T.jx (pc (ah ko (pv 2) Zi) (pc (cH l7 Zi) (pc (cH l7 Zi) Zc)))) (bD 5 nd) (Zd (bA 6 nd (aA (Zo (K:=K) rfl) (pv 1) (pv 5) (λ_ _=>rfl)))
   (Zd (aI (Zp aQ (pv 6) (pv 3) (Zs _)) (Zj (Zq (Zk UL rfl T.dX a21 (pc (pv 4) Zc)))) Zu)
   (Zj (aI (Zp aQ (Zl iL hr.m rfl (pc (pv 0) (pc (pv 6) Zc))) (Zl iL hr.m rfl (pc (pv 0) (pc (pv 3) Zc))) (Zs _)) (Zj (Zy (jm (K:=K) rfl (bI PySem.F.plainAttrs_set PySem.F.slot_set_add PySem.F.type_set_add SW (pv 4) (pc (pv 6) Zc))))) Zu)))))
   (Zj (Zq tQ))))),?_⟩
 have Jd:row[p]?=some row[p]:=a8w hp
 have El:cY (row.map V.int) (p:Int)=some (.int row[p]):=ZX (by rw [bdd,Jd]; rfl)
 have eg:row.getD p 0=row[p]:=by rw [aeu,Jd]; rfl
 generalize row[p]=b at *
 refine ⟨_,rfl,_,rfl,a,_,_,_,rfl,rfl,hS,El,?_⟩
 refine ⟨rfl,λd hd=>?_⟩
 have s0:=Zf hd (.set (λ_=>false) 0)
 have e0:(HO.set (λ_=>false) 0)=HO.set (λk=>decide (k∈([]:List Int))) ([]:List Int).length:=by
  congr 1
 refine ⟨_,rfl,_,_,rfl,rfl,_,rfl,_,rfl,_,_,rfl,⟨by lia,by lia,by lia,by lia⟩,Gh (hi:=(p:Int) - 1) (n:=((p:Int) - 1 - -1).toNat) (λj σ G=>∃ (v5 v6:Option V) (ks:List Int),σ=[some (.int sh),some (.ref a),some (.int p),some (.int b),some (.ref d),v5,v6]/\b∉seg row p (p - j)/\ks.Nodup/\(∀ x,x∈ks↔x∈(seg row p (p - j)).filter λx=>jc sh x b)/\G d=some (.set (λk=>decide (k∈ks)) ks.length)/\aq H G)
  ⟨none,none,[],rfl,by rw [aPP,Kz]; simp,a6N,by rw [aPP,Kz]; simp,by rw [Za,e0],s0⟩ ?_ ?_⟩
 .rintro j σ G hj ⟨v5,v6,ks,rfl,lS,hnd,hks,hd2,s3⟩
  have XW:j<p:=by lia
  have hml:p - 1 - j<row.length:=by lia
  have hget:row[p - 1 - j]?=some row[p - 1 - j]:=a8w hml
  have hat:cY (row.map V.int) ((p:Int) - 1 - (j:Int))=some (.int row[p - 1 - j]):=by
   have q:cY (row.map V.int) ((p - 1 - j:Nat):Int)=some (.int row[p - 1 - j]):=ZX (by rw [bdd,hget]; rfl)
   rw [show ((p - 1 - j:Nat):Int)=(p:Int) - 1 - (j:Int) by lia] at q
   exact q
  rw [show p - j=(p - 1 - j)+1 by lia] at lS hks
  generalize hm:p - 1 - j=m at *
  generalize row[m]=z at *
  refine ⟨_,rfl,_,rfl,a,_,_,_,rfl,rfl,s3.seq hS,hat,?_⟩
  refine ⟨_,rfl,_,rfl,rfl,_,rfl,?_⟩
  by_cases c:z=b
  .refine cE (by simp [c]) ?_
   rw [c] at hget
   have sS:=Tn (sh:=sh) eg (by lia) hget lS hnd hks
   refine ⟨_,rfl,d,_,_,rfl,hd2,?_⟩
   have q:=k G s3
   rw [sS] at q
   exact q
  .refine bu (by simp [c]) ?_
   have Ex:=Tp (p:=p) (by lia) hget
   have qO:b∉seg row p m:=by
    rw [Ex]
    intro q
    rcases bbY.mp q with q | q
    .exact lS q
    .exact c (adl.mp q).symm
   have kl:ks.length<=400:=by
    have h1:=((axR hnd (nI ((seg row p (m+1)).filter λx=>jc sh x b))).mpr λx=>(hks x).trans jY.symm).length_eq
    have h2:∀ l:List Int,(dd l).length<=l.length:=λl=>by
     induction l with
     | nil=>exact avG _
     | cons y l ih =>
      unfold dd
      have:=aYO (λz=>decide (z≠y)) (dd l)
      rw [aRy,aRy]; lia
    have h3:=h2 ((seg row p (m+1)).filter λx=>jc sh x b)
    have h4:=aYO (λx=>jc sh x b) (seg row p (m+1))
    have h5:(seg row p (m+1)).length<=row.length:=by unfold seg; rw [aKp,aGM,aJj]; lia
    lia
   have em:p - (j+1)=m:=by lia
   refine ⟨_,rfl,_,rfl,sh,z,rfl,hs0,_,rfl,_,rfl,sh,b,rfl,hs0,rfl,_,rfl,?_⟩
   refine F4 (λc2=>?_) (λc2=>?_)
   .refine ⟨_,rfl,.inr (.inr (.inr ⟨rfl,_,_,hd2⟩)),_,rfl,d,_,_,z,rfl,rfl,hd2,by lia,?_⟩
    rw [SE]
    refine ⟨_,_,(if z∈ks then ks else ks++[z]),rfl,by rw [em]; exact qO,?_,λx=>?_,Za,λe u y=>by rw [Ze (Zb y hd)]; exact s3 _ _ y⟩
    .split
     .exact hnd
     .rename_i OJ; exact mL hnd OJ
    .rw [em,Ex,azg,aov,← hks x]
     have e1:List.filter (λx=>jc sh x b) [z]=[z]:=by rw [amZ,aHZ (show jc sh z b=true from c2)]; rfl
     rw [e1]
     by_cases cin:z∈ks
     .rw [aHZ cin]
      constructor
      .exact λq=>.inl q
      .rintro (q | q)
       .exact q
       .rw [adl.mp q]; exact cin
     .rw [bd2 cin,aov]
   .refine ⟨_,_,ks,rfl,by rw [em]; exact qO,hnd,λx=>?_,hd2,s3⟩
    rw [em,Ex,azg,aov,← hks x]
    have e1:List.filter (λx=>jc sh x b) [z]=[]:=by rw [amZ,bd2 (show ¬ jc sh z b=true from c2)]; rfl
    rw [e1]
    simp
 .rintro σ G ⟨v5,v6,ks,rfl,lS,hnd,hks,hd2,s3⟩
  rw [show p - ((p:Int) - 1 - -1).toNat=0 by lia] at lS
  have sS:=To (sh:=sh) eg lS
  have q:=k G s3
  rw [sS] at q
  exact q
theorem VV (F:bK K "beneath" "beneath" Bj f fd) (T:Txt K mg) (Dq:Def P w K mg base "beneath_at" 2 GQ (wB K)):aD P w K mg base bB 3 f fd GA (qB K):=by
 refine F.ok gV (λvs H Q E h=>?_) (λcdv A outer st H vs Q E hr h=>?_)
 .obtain ⟨sh,a,row,rfl,_⟩:=h
  rfl
 obtain ⟨sh,a,row,rfl,hS,hs0,hs1,hl,bd,k⟩:=h
 have nd:=gV.nd
 refine ⟨_,(Zj (Zq (oG (Zv (cj:=(Zg Bj)) (oN:=fY) (N:=["at", "shelves", "row"]) (own:=1) (js:=[0,1]) (by decide +kernel) rfl rfl) rfl (ZM rfl T.jx (pc (Zk (Zm (K:=K) rfl) rfl T.dX a21 (pc (pv 1) Zc)) Zc)) (λ_ _ _ _ _ _=>(bD 0 (show List.Nodup (["at", "shelves", "row"]:List Str) by decide +kernel))) (λ_ _ _ _ _ _=>(Zl Dq hr.m rfl (pc (pv 1) (pc (pv 2) (pc (pv 0) Zc)))))))),?_⟩
 have len:(row.map V.int).length=row.length:=aH5 ..
 refine ⟨_,rfl,a,_,rfl,.inl hS,_,rfl,by lia,by lia,λl lT=>?_⟩
 rw [len,show ((row.length:Int)).toNat=row.length by lia]
 refine tZ (lo:=0) (n:=row.length) (l:=l) (λj ys σ' G'=>∃ v0:Option V,σ'=[v0,some (.int sh),some (.ref a)]/\ys=((List.range j).map (ie sh row)).map aK/\G' l=some (.lst ys)/\aq H G')
  ⟨none,rfl,rfl,Za,Zf lT _⟩ ?_ ?_
 .rintro j ys σ' G' hj hys ⟨v0,rfl,rfl,q1,q2⟩
  refine ⟨_,rfl,_,rfl,_,rfl,sh,a,row,j,by rw [aX2]; rfl,q2.seq hS,hs0,hj,hl,λG2 t2=>?_⟩
  refine dU.of (aM8 (Zn (by lia))) hj hys (t2 _ _ q1) ⟨_,rfl,?_,Za,λe o y=>by rw [Ze (Zb y lT)]; exact t2 _ _ (q2 _ _ y)⟩
  rw [aCe,auU,auU]
  rfl
 rintro ys σ' G' _ ⟨v0,rfl,rfl,q1,q2⟩
 exact k l G' lT q2 q1
end
def bF (pl:Int) (ms:List Int) (b:Int) (o:Option Int):Bool :=
 if b∈ms\/(ms.length:Int)<pl then o.isNone else (match o with | some g=>decide (g∈ms) | none=>false)
def cN (sh pl:Int) (b:Int) (o:Option Int) (S:List Int×Nat):Option (List Int×Nat) :=
 if bF pl (Zh sh (b % sh) S.1) b o=true then (if b∈S.1 then some S else some (av S.1 o++[b],S.2+1)) else none
def bg (sh pl:Int) (row:List Int) (os:List (Option Int)):Nat->Option (List Int×Nat)
 | 0=>some ([],0)
 | i+1=>(bg sh pl row os i).bind (cN sh pl (row.getD i 0) (os.getD i none))
def dg (sh pl:Int) (row:List Int) (os:List (Option Int)):Option Int:=if os.length=row.length then (bg sh pl row os row.length).map (λS=>(S.2:Int)) else none
theorem Mm {sh pl:Int} {row:List Int} {os:List (Option Int)} {i:Nat} (h:bg sh pl row os i=none):∀ d,bg sh pl row os (i+d)=none
 | 0=>h
 | d+1=>by
  show (bg sh pl row os (i+d)).bind _=none
  rw [Mm h d]
  rfl
theorem F3 {sh pl:Int} {row:List Int} {os:List (Option Int)}:∀ {i:Nat} {S:List Int×Nat},bg sh pl row os i=some S->S.1.length<=i/\S.2<=i
 | 0,S,h=>by
  have:S=([],0):=(bcC h).symm
  subst this
  exact ⟨avG _,avG _⟩
 | i+1,S,h=>by
  have h':(bg sh pl row os i).bind (cN sh pl (row.getD i 0) (os.getD i none))=some S:=h
  cases e:bg sh pl row os i with
  | none=>rw [e] at h'; cases h'
  | some T =>
   obtain ⟨h1,h2⟩:=F3 e
   rw [e] at h'
   have h3:cN sh pl (row.getD i 0) (os.getD i none) T=some S:=h'
   unfold cN at h3
   split at h3
   .split at h3
    .cases h3
     exact ⟨by lia,by lia⟩
    .cases h3
     have:(av T.1 (os.getD i none)).length<=T.1.length:=by
      cases os.getD i none with
      | none=>exact avG _
      | some g=>exact acH
     refine ⟨?_,?_⟩
     .show (av T.1 (os.getD i none)++[_]).length<=_
      rw [aIt]
      show _+1<=_
      lia
     .show T.2+1<=_
      lia
   .cases h3
section
def ES:Sp:=λvs H Q _=>∃ o:Option Int,vs=[aK o]/\Q (.bl o.isSome) H
theorem Wr (F:bK K "is_number" "is_number" Hr f fd) (T:Txt K mg):aD P w K mg base bB 1 f fd BJ ES:=by
 refine F.ok fj (λvs H Q E h=>?_) (λcdv A outer s H vs Q E hr h=>?_)
 .obtain ⟨x,rfl,_⟩:=h
  rfl
 obtain ⟨x,rfl,q⟩:=h
 have nd:=fj.nd
 refine ⟨_,(Zj (Zq (tO (Zk mO rfl T.jO ZO (pc (pv 0) (pc (ZW (v:=.ty "int") rfl T.um Bo rfl) Zc))) (vm (Rl (Zk mO rfl T.jO ZO (pc (pv 0) (pc (ZW (v:=.ty "bool") rfl T.vM GG rfl) Zc)))))))),?_⟩
 cases x with
 | none=>exact ⟨_,rfl,_,_,_,rfl,rfl,by decide,_,rfl,bu (by decide) q⟩
 | some g=>exact ⟨_,rfl,_,_,_,rfl,rfl,by decide,_,rfl,cE (by decide) ⟨_,rfl,_,_,_,rfl,rfl,by decide,_,rfl,q⟩⟩
def qx (K:W.Frag):Sp:=λvs H Q _=>∃ (pl:Int) (m:Addr) (ms:List Int) (b:Int) (o:Option Int),vs=[.int pl,.ref m,.int b,aK o]/\H m=some (.lst (ms.map V.int))/\Q (.bl (bF pl ms b o)) H
theorem UC (F:bK K "may_go" "may_go" Gb f fd) (T:Txt K mg) (uG:Def P w K mg base "is_number" 1 BJ ES):aD P w K mg base bB 2 f fd Ga (qx K):=by
 refine F.ok iJ (λvs H Q E h=>?_) (λcdv A outer st H vs Q E hr h=>?_)
 .obtain ⟨pl,m,ms,b,o,rfl,_⟩:=h
  rfl
 obtain ⟨pl,m,ms,b,o,rfl,hm,k⟩:=h
 have nd:=iJ.nd
 refine ⟨_,(Zd (aI (PW.pt (pw_or (Zp (GF (K:=K) rfl) (pv 2) (pv 1) rfl) (mj (Zp cV (Zk (Zm (K:=K) rfl) rfl T.dX a21 (pc (pv 1) Zc)) (pv 0) (Zs _))))) (Zj (Zq (Ff (AL (pv 3))))) Zu)
   (Zj (Zq (tO (Zl uG hr.m rfl (pc (pv 3) Zc)) (vm (k7 (GF (K:=K) rfl) (pv 3) (pv 1) rfl)))))),?_⟩
 refine ⟨_,rfl,_,rfl,m,_,rfl,.inl (ak.of hm),rfl,t9 _,_,rfl,?_⟩
 rw [yK,bd2 (by decide)]
 have e1:b∈ms\/(ms.length:Int)<pl->bF pl ms b o=decide (aK o=.aX):=λc=>by
  unfold bF
  rw [aHZ c]
  cases o <;> rfl
 by_cases c:b∈ms
 .rw [e1 (.inl c)] at k
  exact cE (aPy c) (cE rfl ⟨_,rfl,k⟩)
 .refine bu (aXf c) ⟨_,rfl,m,_,rfl,.inl (ak.of hm),_,rfl,_,_,rfl,rfl,_,rfl,?_⟩
  rw [aH5]
  refine ZC (λc2=>?_) (λc2=>?_)
  .rw [e1 (.inr c2)] at k
   exact ⟨_,rfl,k⟩
  .refine ⟨_,rfl,o,rfl,?_⟩
   have e2:¬ (b∈ms\/(ms.length:Int)<pl):=λq=>q.elim c c2
   unfold bF at k
   rw [bd2 e2] at k
   cases o with
   | none=>exact ⟨_,rfl,bu rfl k⟩
   | some g =>
    refine ⟨_,rfl,cE rfl ⟨_,rfl,_,rfl,m,_,rfl,.inl (ak.of hm),rfl,t9 _,?_⟩⟩
    show Q (V.bl (sD (.int g) (ms.map V.int))) H
    rw [yK]
    exact k
def ER:Sp:=λvs H Q _=>∃ (m:Addr) (ms:List Int) (b:Int) (out:Option Int),vs=[.ref m,.int b,aK out]/\H m=some (.lst (ms.map V.int))/\ms.length<=900/\(∀ g,out=some g->g∈ms)/\Q .aX (upd H m (.lst ((av ms out++[b]).map V.int)))
theorem SD (F:bK K "come" "come" E9 f fd) (T:Txt K mg):aD P w K mg base bB 1 f fd AR ER:=by
 refine F.ok kN (λvs H Q E h=>?_) (λcdv A outer st H vs Q E hr h=>?_)
 .obtain ⟨m,ms,b,out,rfl,_⟩:=h
  rfl
 obtain ⟨m,ms,b,out,rfl,hm,hl,hg,k⟩:=h
 have nd:=kN.nd
 refine ⟨_,(Zd (aI (yy (Fv (pv 2))) (Zj (Zy (jm (K:=K) rfl (bI a7f aGH a3w Gm (pv 0) (pc (pv 2) Zc))))) Zu)
   (Zj (Zy (jm (K:=K) rfl (bI a7f axz aXi ZB (pv 0) (pc (pv 1) Zc)))))),?_⟩
 refine qV (λσ G=>σ=[some (.ref m),some (.int b),some (aK out)]/\G=upd H m (.lst ((av ms out).map V.int))) (λD' _ k'=>?_) ?_
 .cases out with
  | none=>exact ⟨_,rfl,_,rfl,bu rfl (k' _ _ ⟨rfl,by rw [show upd H m (.lst ((av ms none).map V.int))=H from QW hm]⟩)⟩
  | some g=>exact ⟨_,rfl,_,rfl,cE rfl ⟨_,rfl,.inl ⟨rfl,_,ak.of hm⟩,_,rfl,m,ms,g,rfl,rfl,hm,hg g rfl,k' _ _ ⟨rfl,rfl⟩⟩⟩
 rintro _ _ ⟨rfl,rfl⟩
 have len:(av ms out).length<=ms.length:=by
  cases out with
  | none=>exact avG _
  | some g=>exact acH
 refine ⟨_,rfl,.inl ⟨rfl,_,ak.of Za⟩,_,rfl,m,_,_,rfl,rfl,Za,Zn (by rw [aH5]; lia),?_⟩
 rw [tY]
 rw [auU] at k
 exact k
def kI (K:W.Frag):Sp:=λvs H Q _=>∃ (sh pl:Int) (a lo:Addr) (row:List Int) (os:List (Option Int)),vs=[.int sh,.int pl,.ref a,.ref lo]/\ak K H a (row.map V.int)/\H lo=some (.lst (os.map aK))/\1<=sh/\sh<=64/\row.length<=400 /\
 ∀ H',aq H H'->Q (aK (dg sh pl row os)) H'
theorem WT (F:bK K "count_misses" "count_misses" BS f fd) (T:Txt K mg) (iL:Def P w K mg base "shelf_of" 1 rC tV) (Ci:Def P w K mg base "may_go" 2 Ga (qx K)) (uo:Def P w K mg base "come" 1 AR ER):aD P w K mg base bB 3 f fd ZZ (kI K):=by
 refine F.ok cU (λvs H Q E h=>?_) (λcdv A outer st H vs Q E hr h=>?_)
 .obtain ⟨sh,pl,a,lo,row,os,rfl,_⟩:=h
  rfl
 obtain ⟨sh,pl,a,lo,row,os,rfl,hS,hO,hs0,hs1,hl,k⟩:=h
 have nd:=cU.nd
 refine ⟨_,(Zd (aI (PW.pt (pw_or (k9 (ZY (Zk mO rfl T.jO ZO (pc (pv 3) (pc (ZW (v:=.ty "list") rfl T.nB ZU rfl) Zc))))) (mj (Zp iO (Zk (Zm (K:=K) rfl) rfl T.dX a21 (pc (pv 3) Zc)) (Zk (Zm (K:=K) rfl) rfl T.dX a21 (pc (pv 2) Zc)) (Zs _))))) (Zj (Zq tQ)) Zu)
   (Zd (vz 4 (Zv (cj:=(Zg BS)) (oN:=bW) (N:=["number"]) (own:=1) (js:=[]) (by decide +kernel) rfl rfl) rfl nd rfl rfl (ZM rfl T.jx (pc (pv 0) Zc)) (λ_ _ _ _ _ _=>(bD 0 (show List.Nodup (["number"]:List Str) by decide +kernel))) (λ_ _ _ _ _ _=>(ZI Zc)))
   (Zd (bA 5 nd Zi)
   (Zd (kq aW3 rfl (JM rfl T.vH (pc (pv 2) (pc (pv 3) Zc))) (kh (K:=K) (n:=2) rfl rfl (Zt (bD 6 nd) (Zt (bD 7 nd) kj))) (Zd (bA 8 nd (aA (Zo (K:=K) rfl) (pv 4) (Zl iL hr.m rfl (pc (pv 0) (pc (pv 6) Zc))) (λ_ _=>rfl)))
   (Zd (aI (k9 (ZY (Zl Ci hr.m rfl (pc (pv 1) (pc (pv 8) (pc (pv 6) (pc (pv 7) Zc))))))) (Zj (Zq tQ)) Zu)
   (Zj (aI (Zp (yU (K:=K) rfl) (pv 6) (pv 8) rfl) (Zd (Fe (i:=5) nd rfl (by first | exact Or.inl rfl | exact Or.inr rfl) Zi JR)
   (Zj (Zy (Zl uo hr.m rfl (pc (pv 8) (pc (pv 6) (pc (pv 7) Zc))))))) Zu)))))
   (Zj (Zq (pv 5))))))),?_⟩
 have ty:kE H (.ref lo)=some "list" := by simp only [kE,hO]
 refine ⟨_,rfl,_,_,_,rfl,ty,by decide,_,rfl,bu (by decide) ⟨_,rfl,lo,_,rfl,.inl (ak.of hO),_,rfl,a,_,rfl,.inl hS,rfl,_,rfl,?_⟩⟩
 rw [aH5,aH5]
 by_cases jF:os.length=row.length
 case neg =>
  refine cE (by simp; lia) ?_
  have q:=k H (aq.refl _)
  unfold dg at q
  rw [bd2 jF] at q
  exact q
 refine bu (by simp [jF]) ?_
 refine ⟨_,rfl,sh,rfl,by lia,by lia,λls hls=>?_⟩
 refine tZ (lo:=0) (n:=sh.toNat) (l:=ls) (λj ys σ G=>∃ (v0:Option V) (ao:List Addr),σ=[v0]/\ys=ao.map V.ref/\ao.length=j/\ao.Nodup/\ls∉ao/\G ls=some (.lst ys)/\(∀ ad∈ao,H ad=none/\G ad=some (.lst []))/\aq H G)
  ⟨none,[],rfl,rfl,rfl,a6N,by simp,Za,by simp,Zf hls _⟩ ?_ ?_
 .rintro j ys σ G hj hy ⟨v0,ao,rfl,rfl,hlen,hnd,hoff,g1,g2,s1⟩
  refine ⟨(sl 0),λp hp=>?_⟩
  have np:ls≠p:=Zb g1 hp
  have xq:p∉ao:=λm=>by rw [(g2 p m).2] at hp; cases hp
  refine dU.of (ajJ (by lia:sh.toNat<=64) (by decide)) hj hy (by rw [Ze np]; exact g1) ⟨_,ao++[p],rfl,by rw [auU]; rfl,by rw [aIt,hlen]; rfl,mL hnd xq,?_,Za,λad m=>?_,?_⟩
  .intro m
   rcases bbY.mp m with m | m
   .exact hoff m
   .exact np (by simpa using m)
  .rcases bbY.mp m with m | m
   .rw [Ze (λz:ad=ls=>hoff (z ▸ m)),Ze (λz:ad=p=>xq (z ▸ m))]
    exact g2 ad m
   .have e:ad=p:=by simpa using m
    subst e
    rw [Ze (aay np)]
    exact ⟨s1.free hp,Za⟩
  .intro e o y
   rw [Ze (Zb y hls),Ze (Zb (s1 _ _ y) hp)]
   exact s1 _ _ y
 rintro ys σ G hy ⟨v0,ao,rfl,rfl,hlen,hnd,hoff,g1,g2,s1⟩
 refine gN ?_
 have S0:fW G ls ao sh []:=⟨g1,hlen,hnd,hoff,λi ad e=>(g2 ad (aVV e)).2⟩
 have fr:∀ ad∈ao,H ad=none:=λad m=>(g2 ad m).1
 clear g1 g2 hy
 dsimp only
 refine gN ?_
 dsimp only
 refine ⟨_,rfl,_,rfl,a,lo,rfl,⟨_,s1.seq hS⟩,⟨_,ak.of (s1 _ _ hO)⟩,Li (K:=K) (a:=a) (b:=lo) (xs:=row.map V.int) (ys:=os.map aK) (λi σ G=>∃ (v6 v7 v8:Option V) (S:List Int×Nat),σ=[some (.int sh),some (.int pl),some (.ref a),some (.ref lo),some (.ref ls),some (.int S.2),v6,v7,v8]/\bg sh pl row os i=some S/\fW G ls ao sh S.1/\aq H G)
  (by rw [aH5,aH5,jF]) ⟨none,none,none,([],0),rfl,rfl,S0,s1⟩ (λi σ G _ ⟨_,_,_,_,_,_,_,q⟩=>⟨q.seq hS,ak.of (q _ _ hO)⟩) ?_ ?_⟩
 .clear S0 s1
  rintro i x y t σ G hx hy ⟨v6,v7,v8,S,rfl,hR,Sh,s1⟩ ht
  obtain ⟨z,hz,rfl⟩:=oJ hx
  rw [bdd] at hy
  cases ho:os[i]? with
  | none=>rw [ho] at hy; cases hy
  | some o =>
  rw [ho] at hy
  cases hy
  have hi:i<row.length:=(aWj.mp hz).1
  have eg:row.getD i 0=z:=by rw [aeu,hz]; rfl
  have eo:os.getD i none=o:=by rw [aeu,ho]; rfl
  have r1:bg sh pl row os (i+1)=cN sh pl z o S:=by
   show (bg sh pl row os i).bind _=_
   rw [hR,eg,eo]
   rfl
  obtain ⟨jE,sA⟩:=F3 hR
  refine ⟨t,_,rfl,bJ.of Za,rfl,_,_,rfl,_,_,rfl,rfl,?_⟩
  have w:=Zf ht (.tup [.int z,aK o])
  have S1:fW (upd G t (.tup [.int z,aK o])) ls ao sh S.1:=⟨w _ _ Sh.top,Sh.len,Sh.nd,Sh.off,λi ad e=>w _ _ (Sh.at_ i ad e)⟩
  have s2:=s1.trans w
  generalize upd G t (.tup [.int z,aK o])=G1 at *
  clear Sh s1 w
  obtain ⟨s0,ad,yg,had,hat,hm⟩:=S1.get (k:=z % sh) (aZ2 _ (by lia)) (aby _ (by lia))
  refine ⟨_,rfl,_,rfl,_,rfl,sh,z,rfl,hs0,ls,_,_,_,rfl,rfl,ak.of S1.top,hat,?_⟩
  refine gN ?_
  dsimp only
  have lm:(Zh sh (z % sh) S.1).length<=S.1.length:=aYO ..
  have hin:z∈Zh sh (z % sh) S.1↔z∈S.1:=⟨λm=>(aa.mp m).1,λm=>aa.mpr ⟨m,rfl⟩⟩
  unfold cN at r1
  refine ⟨_,rfl,_,rfl,_,rfl,_,rfl,pl,ad,Zh sh (z % sh) S.1,z,o,rfl,hm,_,rfl,?_⟩
  by_cases c:bF pl (Zh sh (z % sh) S.1) z o=true
  case neg =>
   rw [bd2 c] at r1
   refine cE (by simpa using c) ?_
   have q:=k G1 s2
   have e:dg sh pl row os=none:=by
    unfold dg
    rw [aHZ jF]
    have:=Mm r1 (row.length - (i+1))
    rw [show i+1+(row.length - (i+1))=row.length by lia] at this
    rw [this]
    rfl
   rw [e] at q
   exact q
  rw [aHZ c] at r1
  refine bu (by simpa using c) ?_
  refine ⟨_,rfl,_,rfl,ad,_,rfl,.inl (ak.of hm),rfl,t9 _,_,rfl,?_⟩
  rw [yK,aHZ rfl]
  by_cases c2:z∈S.1
  .rw [aHZ c2] at r1
   refine bu (by simpa using hin.mpr c2) ?_
   exact ⟨_,_,_,S,rfl,r1,S1,s2⟩
  .rw [bd2 c2] at r1
   have c3:z∉Zh sh (z % sh) S.1:=λm=>c2 (hin.mp m)
   refine cE (by simpa using c3) ?_
   have n5:∀ g,o=some g->g∈Zh sh (z % sh) S.1:=λg e=>by
    subst e
    unfold bF at c
    split at c
    .cases c
    .exact aTw c
   refine ⟨_,rfl,_,_,rfl,rfl,?_⟩
   refine ⟨_,rfl,_,rfl,_,rfl,ad,Zh sh (z % sh) S.1,z,o,rfl,hm,by lia,n5,?_⟩
   refine ⟨_,_,_,(av S.1 o++[z],S.2+1),rfl,r1,?_,λe u y=>?_⟩
   .refine S1.put had ?_ λs hs=>?_
    .rw [Zz,aHZ yg.symm,yg]
     cases o with
     | none=>rfl
     | some g=>show Zh _ _ (S.1.erase g)++_=_; rw [ZF]; rfl
    .have ne:¬ z % sh=(s:Int):=λq=>hs (by lia)
     rw [Zz,bd2 ne]
     cases o with
     | none=>rfl
     | some g =>
      show Zh _ _ (S.1.erase g)=_
      rw [ZF]
      exact ae6 λm=>ne ((aa.mp (n5 g rfl)).2.symm.trans (aa.mp m).2)
   .rw [Ze (Zb y (fr ad (aVV had)))]
    exact s2 _ _ y
 .rintro σ G3 ⟨v6,v7,v8,S,rfl,hR,Sh,s3⟩
  rw [aH5] at hR
  have q:=k G3 s3
  unfold dg at q
  rw [aHZ jF,hR] at q
  exact ⟨_,rfl,q⟩
end
def jA (b:Int):Nat->List Int->Int
 | _,[]=>1000000
 | p,x :: xs=>if x=b then (p:Int) else jA b (p+1) xs
def bE (row:List Int) (p:Nat) (b:Int):Int:=jA b (p+1) (row.drop (p+1))
theorem Gy {row:List Int} {b:Int} {p:Nat} {x:Int} (h:row[p]?=some x):jA b p (row.drop p)=if x=b then (p:Int) else jA b (p+1) (row.drop (p+1)):=by
 obtain ⟨hp,rfl⟩:=aWj.mp h
 rw [aau hp]
 rfl
theorem Tj {row:List Int} {b:Int} {p:Nat} (h:row.length<=p):jA b p (row.drop p)=1000000:=by
 rw [aaP h]
 rfl
def tR (sh b:Int) (there:List Int):List Int:=there.filter λo=>decide (V.int (o % sh)=V.int (b % sh))
def dO (row:List Int) (p:Nat) (some:List Int):Nat:=argBest (λi j=>HT.lexLt ((some.map λo=>[bE row p o,o]).getD j []) ((some.map λo=>[bE row p o,o]).getD i [])) (some.length - 1)
def bx (sh pl:Int) (row:List Int) (p:Nat) (b:Int) (there:List Int):Option Int :=
 if b∉there/\pl<=((tR sh b there).length:Int) then (tR sh b there)[dO row p (tR sh b there)]? else none
def dZ (b:Int) (there:List Int):List Int:=if b∈there then there else there++[b]
def aS (sh pl:Int) (row:List Int):Nat->List Int×List (Option Int)
 | 0=>([],[])
 | i+1=>(dZ (row.getD i 0) (av (aS sh pl row i).1 (bx sh pl row i (row.getD i 0) (aS sh pl row i).1)),(aS sh pl row i).2++[bx sh pl row i (row.getD i 0) (aS sh pl row i).1])
def eW (sh pl:Int) (row:List Int):List (Option Int):=(aS sh pl row row.length).2
theorem Ti (there:List Int) (g:Option Int):(av there g).length<=there.length:=by
 cases g with
 | none=>exact avG _
 | some g=>exact acH
theorem SA (b:Int) (there:List Int):(dZ b there).length<=there.length+1:=by
 unfold dZ
 split
 .lia
 .simp
theorem FF (sh pl:Int) (row:List Int) (i:Nat):(aS sh pl row i).1.length<=i/\(aS sh pl row i).2.length=i:=by
 induction i with
 | zero=>exact ⟨avG _,rfl⟩
 | succ i ih =>
  refine ⟨?_,?_⟩
  .have h1:=SA (row.getD i 0) (av (aS sh pl row i).1 (bx sh pl row i (row.getD i 0) (aS sh pl row i).1))
   have h2:=Ti (aS sh pl row i).1 (bx sh pl row i (row.getD i 0) (aS sh pl row i).1)
   show (dZ _ _).length<=_
   lia
  .show ((aS sh pl row i).2++_).length=_
   rw [aIt,ih.2]; rfl
def ng (K:W.Frag):Sp:=λvs H Q _=>∃ (sh pl:Int) (a:Addr) (row:List Int),vs=[.int sh,.int pl,.ref a]/\ak K H a (row.map V.int)/\1<=sh/\sh<=64/\1<=pl/\pl<=16/\row.length<=400/\mH 9999 row /\
 ∀ (l:Addr) (H':Hp),H l=none->aq H H'->H' l=some (.lst ((eW sh pl row).map aK))->Q (.ref l) H'
def iB (d b:Int):Nat->List Int->Int
 | _,[]=>d
 | p,x :: xs=>if x=b then (p:Int) else iB d b (p+1) xs
theorem UB {d b:Int} {row:List Int} {p:Nat} {x:Int} (h:row[p]?=some x):iB d b p (row.drop p)=if x=b then (p:Int) else iB d b (p+1) (row.drop (p+1)):=by
 obtain ⟨hp,rfl⟩:=aWj.mp h
 rw [aau hp]
 rfl
def gP (row:List Int) (p:Nat) (b:Int):Int:=iB row.length b p (row.drop p)
theorem A7 {row:List Int} {p:Nat} {b:Int} (h:row.length<=p):gP row p b=row.length:=by
 unfold gP
 rw [aaP h]
 rfl
theorem Br {row:List Int} {p:Nat} {b x:Int} (h:row[p]?=some x):gP row p b=if x=b then (p:Int) else gP row (p+1) b:=UB h
def Zw (row:List Int):List Int:=(List.range row.length).map λi=>gP row (i+1) (row.getD i 0)
def p7 (row:List Int) (j:Nat):List Int:=(List.range j).map λk=>gP row (row.length - k) (row.getD (row.length - 1 - k) 0)
theorem VU (row:List Int):(p7 row row.length).reverse=Zw row:=by
 unfold p7 Zw
 apply aNj
 intro i
 by_cases h:i<row.length
 .rw [List.getElem?_reverse (by simpa using h)]
  simp only [aH5,aqI,bdd]
  rw [aEb (by lia),aEb h]
  show some (gP row (row.length - (row.length - 1 - i)) (row.getD (row.length - 1 - (row.length - 1 - i)) 0))=some (gP row (i+1) (row.getD i 0))
  rw [show row.length - (row.length - 1 - i)=i+1 by lia,show row.length - 1 - (row.length - 1 - i)=i by lia]
 .rw [aAl (by simpa using h),aAl (by simpa using h)]
theorem BL (row:List Int):(Zw row).length=row.length:=by unfold Zw; simp
theorem UA {row:List Int} {i:Nat} {y:Int} (h:(Zw row)[i]?=some y):y=gP row (i+1) (row.getD i 0):=by
 have hi:i<row.length:=by rw [← BL row]; exact (aWj.mp h).1
 unfold Zw at h
 rw [bdd,aEb hi] at h
 exact (bcC h).symm
theorem Wd (row:List Int) (j:Nat):p7 row (j+1)=p7 row j++[gP row (row.length - j) (row.getD (row.length - 1 - j) 0)]:=by
 unfold p7
 rw [aCe,auU]
 rfl
section
def A6 (K:W.Frag):Sp:=λvs H Q _=>∃ (a:Addr) (row:List Int),vs=[.ref a]/\ak K H a (row.map V.int)/\row.length<=400 /\
 ∀ (l:Addr) (H':Hp),H l=none->aq H H'->H' l=some (.lst ((Zw row).map V.int))->Q (.ref l) H'
theorem WO (F:bK K "asked_again" "asked_again" G8 f fd) (T:Txt K mg):aD P w K mg base bB 1 f fd yT (A6 K):=by
 refine F.ok dJ (λvs H Q E h=>?_) (λcdv A outer st H vs Q E hr h=>?_)
 .obtain ⟨a,row,rfl,_⟩:=h
  rfl
 obtain ⟨a,row,rfl,hS,hl,k⟩:=h
 have nd:=dJ.nd
 have hu:=cW hr
 refine ⟨_,(Zd (bA 1 nd (ZI Zc))
   (Zd (bA 2 nd BA)
   (Zd (kq aW3 rfl (Gj rfl T.jx (pc (ah ko (Zk (Zm (K:=K) rfl) rfl T.dX a21 (pc (pv 0) Zc)) Zi) (pc (cH l7 Zi) (pc (cH l7 Zi) Zc)))) (bD 3 nd) (Zd (bA 4 nd (aA (Zo (K:=K) rfl) (pv 0) (pv 3) (λ_ _=>rfl)))
   (Zd (Zy (jm (K:=K) rfl (bI a7f axz aXi ZB (pv 1) (pc (Uy hu (pv 2) (pv 4) (Zk (Zm (K:=K) rfl) rfl T.dX a21 (pc (pv 0) Zc)) ⟨rfl,rfl,rfl,rfl⟩) Zc))))
   (Zj (Fp hu (pv 2) (pv 4) (pv 3) rfl)))))
   (Zj (Zq (Mr (K:=K) rfl (pv 1) vt vt (vq (cH l7 Zi)))))))),?_⟩
 have len:(row.map V.int).length=row.length:=aH5 ..
 refine ⟨(sl 0),λlt hlt=>λld lU=>?_⟩
 have s0:=(Zf hlt (.lst [])).trans (Zf lU (.dK []))
 have Ej:H ld=none:=(Zf hlt (.lst [])).free lU
 have Dy:lt≠ld:=Zb (Za (H:=H) (a:=lt) (o:=.lst [])) lU
 refine ⟨_,rfl,a,_,rfl,.inl (s0.seq hS),_,_,rfl,rfl,_,rfl,_,rfl,_,_,rfl,⟨by lia,by lia,by lia,by lia⟩,Gh (hi:=((row.map V.int).length:Int) - 1) (n:=(((row.map V.int).length:Int) - 1 - -1).toNat) (λj σ G=>∃ (v3 v4:Option V) (kvs:List (Key×V)),σ=[some (.ref a),some (.ref lt),some (.ref ld),v3,v4]/\G lt=some (.lst ((p7 row j).map V.int))/\G ld=some (.dK kvs)/\kvs.length<=j/\(∀ b,(aT kvs (Sum.inl b:Key)).getD (.int row.length)=.int (gP row (row.length - j) b))/\aq H G)
  ⟨none,none,[],rfl,by rw [Ze Dy]; exact Za,Za,avG _,λb=>by rw [A7 (by lia)]; rfl,s0⟩ ?_ ?_⟩
 .rintro j σ G hj ⟨v3,v4,kvs,rfl,h1,h2,hk,hv,s1⟩
  have hjn:j<row.length:=by lia
  have hlt':row.length - 1 - j<row.length:=by lia
  have hget:row[row.length - 1 - j]?=some row[row.length - 1 - j]:=a8w hlt'
  have hat:cY (row.map V.int) (((row.map V.int).length:Int) - 1 - (j:Int))=some (.int row[row.length - 1 - j]):=by
   have q:cY (row.map V.int) ((row.length - 1 - j:Nat):Int)=some (.int row[row.length - 1 - j]):=ZX (by rw [bdd,hget]; rfl)
   rw [show ((row.length - 1 - j:Nat):Int)=((row.map V.int).length:Int) - 1 - (j:Int) by lia] at q
   exact q
  have eg:row.getD (row.length - 1 - j) 0=row[row.length - 1 - j]:=by rw [aeu,hget]; rfl
  have ea:=Wd row j
  rw [eg] at ea
  generalize row[row.length - 1 - j]=z at *
  refine ⟨_,rfl,_,rfl,a,_,_,_,rfl,rfl,s1.seq hS,hat,?_⟩
  refine ⟨_,rfl,.inl ⟨rfl,_,ak.of h1⟩,_,rfl,ld,rfl,.inl ⟨_,.inl h2⟩,_,rfl,_,rfl,a,_,rfl,.inl (s1.seq hS),_,eZ.k (k:=Sum.inl z) h2,lt,_,_,rfl,rfl,h1,Zn (by rw [aH5]; unfold p7; simp; lia),?_⟩
  rw [len,hv z]
  have h2':upd G lt (.lst ((p7 row j).map V.int++[.int (gP row (row.length - j) z)])) ld=some (.dK kvs):=by rw [Ze (aay Dy)]; exact h2
  refine ⟨_,rfl,_,rfl,_,rfl,ld,_,rfl,jg.k (k:=Sum.inl z) h2' (Zn (by lia)),⟨_,_,_,rfl,?_,Za,?_,λb=>?_,?_⟩⟩
  .rw [Ze Dy,Za,ea,auU]; rfl
  .exact ajJ (t7 ..) (by lia)
  .rw [BB,show row.length - (j+1)=row.length - 1 - j by lia,Br hget]
   by_cases e:z=b
   .subst e
    rw [aHZ rfl,aHZ rfl]
    show V.int _=V.int _
    congr 1
    lia
   .rw [bd2 (λq=>e (aeP q).symm),bd2 e,hv b,show row.length - 1 - j+1=row.length - j by lia]
  .intro e o y
   rw [Ze (Zb y Ej),Ze (Zb y hlt)]
   exact s1 _ _ y
 .rintro σ G ⟨v3,v4,kvs,rfl,h1,h2,hk,hv,s1⟩
  rw [show (((row.map V.int).length:Int) - 1 - -1).toNat=row.length by lia] at h1
  refine ⟨_,rfl,1,rfl,_,rfl,lt,_,rfl,ak.of h1,by decide,?_,λp hp=>?_⟩
  .rw [Bm,aKp,aH5]; unfold p7; simp; exact aM8 (Zn (by lia))
  .rw [Bm,← List.map_reverse,VU]
   exact k p _ (s1.free hp) (s1.trans (Zf hp _)) Za
end
theorem F2 (sh b:Int) (there:List Int):tR sh b there=Zh sh (b % sh) there:=by
 unfold tR Zh
 refine List.filter_congr λo _=>?_
 rw [aE1]
 exact ⟨λe=>by injection e,λe=>by rw [e]⟩
theorem MN (sh s:Int) (there:List Int) (g:Option Int):Zh sh s (av there g)=av (Zh sh s there) g:=by
 cases g with
 | none=>rfl
 | some g =>
  show (there.erase g).filter _=(there.filter _).erase g
  rw [List.erase_filter]
theorem Uz {l:List Int} {g:Option Int} (h:∀ x,g=some x->x∉l):av l g=l:=by
 cases g with
 | none=>rfl
 | some g=>exact ae6 (h g rfl)
theorem fW.same {H H':Hp} {ls:Addr} {ao:List Addr} {sh:Int} {there:List Int} (h:fW H ls ao sh there) (s:aq H H'):fW H' ls ao sh there :=
 ⟨s _ _ h.top,h.len,h.nd,h.off,λi ad e=>s _ _ (h.at_ i ad e)⟩
theorem fW.free {H:Hp} {ls:Addr} {ao:List Addr} {sh:Int} {there:List Int} (h:fW H ls ao sh there) {p:Addr} (hp:H p=none):p≠ls/\p∉ao:=by
 refine ⟨λe=>?_,λm=>?_⟩
 .rw [e,h.top] at hp; cases hp
 .obtain ⟨s,e⟩:=ao5 m
  rw [h.at_ s p e] at hp; cases hp
theorem GI {f g:Nat->Nat->Bool}:∀ k,(∀ i j,i<=k->j<=k->f i j=g i j)->argBest f k=argBest g k/\argBest g k<=k
 | 0,_=>⟨rfl,avG _⟩
 | k+1,h=>by
  obtain ⟨e,l⟩:=GI k λi j hi hj=>h i j (by lia) (by lia)
  unfold argBest
  rw [e,h (k+1) (argBest g k) (avG _) (by lia)]
  refine ⟨rfl,?_⟩
  split <;> lia
theorem qI (d b:Int):∀ (xs:List Int) (p:Nat),(jA b p xs=1000000/\iB d b p xs=d)\/(jA b p xs=iB d b p xs/\(p:Int)<=iB d b p xs/\iB d b p xs<p+xs.length)
 | [],p=>.inl ⟨rfl,rfl⟩
 | x :: xs,p=>by
  unfold jA iB
  by_cases e:x=b
  .rw [aHZ e,aHZ e]
   refine .inr ⟨rfl,by lia,?_⟩
   rw [aRy]; lia
  .rw [bd2 e,bd2 e]
   rcases qI d b xs (p+1) with h | ⟨h1,h2,h3⟩
   .exact .inl h
   .refine .inr ⟨h1,by lia,?_⟩
    rw [aRy]; lia
theorem Ky {row:List Int} {i:Nat} {o:Int} (hi:i<row.length):(bE row i o=1000000/\gP row (i+1) o=row.length)\/(bE row i o=gP row (i+1) o/\gP row (i+1) o<row.length):=by
 rcases qI row.length o (row.drop (i+1)) (i+1) with h | ⟨h1,h2,h3⟩
 .exact .inl h
 .refine .inr ⟨h1,?_⟩
  rw [aGM] at h3
  show iB _ _ _ _<_
  lia
theorem xC (a b c d:Int):HT.lexLt [a,b] [c,d]=if a=c then decide (b<d) else decide (a<c):=by
 rw [HT.aO,HT.aO]
 split
 .split
  .rename_i _ e; subst e; simp [HT.lexLt]
  .rfl
 .rfl
theorem Th {row br:List Int} {i:Nat} (hi:i<row.length) (hl:row.length<=400) (hne:br≠[]) :
  argBest (λa b=>HT.lexLt ((br.map λo=>[gP row (i+1) o,o]).getD b []) ((br.map λo=>[gP row (i+1) o,o]).getD a [])) (br.length - 1)=dO row i br:=by
 have pos:0<br.length:=bbb.mpr hne
 refine (GI _ λa b ha hb=>?_).1
 have la:a<br.length:=by lia
 have lb:b<br.length:=by lia
 simp only [aeu,bdd,a8w la,a8w lb,aGg,Option.getD_some]
 rw [xC,xC]
 rcases Ky (row:=row) (i:=i) (o:=br[a]) hi with ⟨x1,x2⟩ | ⟨x1,x2⟩ <;> rcases Ky (row:=row) (i:=i) (o:=br[b]) hi with ⟨y1,y2⟩ | ⟨y1,y2⟩
 .rw [x1,x2,y1,y2]; simp
 .rw [x1,x2,y1,bd2 (by lia),bd2 (by lia),aE1]; lia
 .rw [x1,y2,y1,bd2 (by lia),bd2 (by lia),aE1]; lia
 .rw [x1,y1]
theorem nY {t:TS} {D:Ends} {σ:St} {H:Hp} (h:∀ D':Ends,(∀ σ G,D.nx σ G->D'.nx σ G)->t D' σ H):t D σ H:=h D λ_ _ x=>x
section
theorem Wc (F:bK K "farthest" "farthest" yX f fd) (T:Txt K mg) (iL:Def P w K mg base "shelf_of" 1 rC tV) (uo:Def P w K mg base "come" 1 AR ER) (pI:Def P w K mg base "asked_again" 1 yT (A6 K)):aD P w K mg base bB 8 f fd BP (ng K):=by
 refine F.ok gh (λvs H Q E h=>?_) (λcdv A outer st H vs Q E hr h=>?_)
 .obtain ⟨sh,pl,a,row,rfl,_⟩:=h
  rfl
 obtain ⟨sh,pl,a,row,rfl,hS,hs0,hs1,hp0,hp1,hl,bd,k⟩:=h
 have nd:=gh.nd
 have hu:=cW hr
 refine ⟨_,(Zd (vz 3 (Zv (cj:=(Zg yX)) (oN:=cS) (N:=["number"]) (own:=1) (js:=[]) (by decide +kernel) rfl rfl) rfl nd rfl rfl (ZM rfl T.jx (pc (pv 0) Zc)) (λ_ _ _ _ _ _=>(bD 0 (show List.Nodup (["number"]:List Str) by decide +kernel))) (λ_ _ _ _ _ _=>(ZI Zc)))
   (Zd (bA 4 nd BA)
   (Zd (bA 5 nd (ZI Zc))
   (Zd (kq aW3 rfl (JM rfl T.vH (pc (pv 2) (pc (Zl pI hr.m rfl (pc (pv 2) Zc)) Zc))) (kh (K:=K) (n:=2) rfl rfl (Zt (bD 6 nd) (Zt (bD 7 nd) kj))) (Zd (bA 8 nd (aA (Zo (K:=K) rfl) (pv 3) (Zl iL hr.m rfl (pc (pv 0) (pc (pv 6) Zc))) (λ_ _=>rfl)))
   (Zd (bA 9 nd tQ)
   (Zd (aI (Zp (yU (K:=K) rfl) (pv 6) (pv 8) rfl) (Zd (aI (Zp kQ (Zk (Zm (K:=K) rfl) rfl T.dX a21 (pc (pv 8) Zc)) (pv 1) (Zs _)) (Zj (pq (Zk (UX rfl hu rfl) rfl T.vJ FY (pc (oG (Zv (cj:=(Zg yX)) (oN:=cS) (N:=["mate", "again"]) (own:=1) (js:=[4]) (by decide +kernel) rfl rfl) rfl (ZL (K:=K) rfl (pv 8)) (λ_ _ _ _ _ _=>(bD 0 (show List.Nodup (["mate", "again"]:List Str) by decide +kernel))) (λ_ _ _ _ _ _=>(k8 (pc (K7 hu (pv 1) (pv 0) (λ_ _=>rfl)) (pc (pv 0) Zc))))) Zc)) (kh (K:=K) (n:=2) rfl rfl (Zt (bD 10 nd) (Zt (bD 9 nd) kj))))) Zu)
   (Zj (Zy (Zl uo hr.m rfl (pc (pv 8) (pc (pv 6) (pc (pv 9) Zc))))))) Zu)
   (Zd (Fp hu (pv 4) (pv 6) (pv 7) rfl)
   (Zj (Zy (jm (K:=K) rfl (bI a7f axz aXi ZB (pv 5) (pc (pv 9) Zc))))))))))
   (Zj (Zq (pv 5))))))),?_⟩
 refine ⟨_,rfl,sh,rfl,by lia,by lia,λls hls=>?_⟩
 refine tZ (lo:=0) (n:=sh.toNat) (l:=ls) (λj ys σ G=>∃ (v0:Option V) (ao:List Addr),σ=[v0]/\ys=ao.map V.ref/\ao.length=j/\ao.Nodup/\ls∉ao/\G ls=some (.lst ys)/\(∀ ad∈ao,H ad=none/\G ad=some (.lst []))/\aq H G)
  ⟨none,[],rfl,rfl,rfl,a6N,by simp,Za,by simp,Zf hls _⟩ ?_ ?_
 .rintro j ys σ G hj hy ⟨v0,ao,rfl,rfl,hlen,hnd,hoff,g1,g2,s1⟩
  refine ⟨(sl 0),λp hp=>?_⟩
  have np:ls≠p:=Zb g1 hp
  have xq:p∉ao:=λm=>by rw [(g2 p m).2] at hp; cases hp
  refine dU.of (ajJ (by lia:sh.toNat<=64) (by decide)) hj hy (by rw [Ze np]; exact g1) ⟨_,ao++[p],rfl,by rw [auU]; rfl,by rw [aIt,hlen]; rfl,mL hnd xq,?_,Za,λad m=>?_,?_⟩
  .intro m
   rcases bbY.mp m with m | m
   .exact hoff m
   .exact np (by simpa using m)
  .rcases bbY.mp m with m | m
   .rw [Ze (λz:ad=ls=>hoff (z ▸ m)),Ze (λz:ad=p=>xq (z ▸ m))]
    exact g2 ad m
   .have e:ad=p:=by simpa using m
    subst e
    rw [Ze (aay np)]
    exact ⟨s1.free hp,Za⟩
  .intro e o y
   rw [Ze (Zb y hls),Ze (Zb (s1 _ _ y) hp)]
   exact s1 _ _ y
 rintro ys σ G hy ⟨v0,ao,rfl,rfl,hlen,hnd,hoff,g1,g2,s1⟩
 refine gN ?_
 have S0:fW G ls ao sh []:=⟨g1,hlen,hnd,hoff,λi ad e=>(g2 ad (aVV e)).2⟩
 have fr:∀ ad∈ao,H ad=none:=λad m=>(g2 ad m).1
 clear g1 g2 hy
 dsimp only
 intro ld lU
 refine ⟨(sl 0),λlo hlo=>?_⟩
 obtain ⟨xr,uN⟩:=S0.free lU
 have S1:=S0.same (Zf lU (.dK []))
 obtain ⟨OF,Iw⟩:=S1.free hlo
 have S2:=S1.same (Zf hlo (.lst []))
 have DB:lo≠ld:=λe=>by rw [e,Za] at hlo; cases hlo
 have s3:=s1.trans ((Zf lU (.dK [])).trans (Zf hlo (.lst [])))
 have e1:upd (upd G ld (.dK [])) lo (.lst []) ld=some (.dK []):=by rw [Ze (aay DB)]; exact Za
 have e2:upd (upd G ld (.dK [])) lo (.lst []) lo=some (.lst []):=Za
 have Ej:H ld=none:=s1.free lU
 have IY:H lo=none:=(s1.trans (Zf lU (.dK []))).free hlo
 generalize upd (upd G ld (.dK [])) lo (.lst [])=G2 at *
 refine ⟨_,rfl,_,rfl,a,row,rfl,s3.seq hS,hl,λla G3 hla s4 e3=>?_⟩
 obtain ⟨XC,OT⟩:=S2.free hla
 have OQ:la≠lo:=λe=>by rw [e,e2] at hla; cases hla
 have OR:la≠ld:=λe=>by rw [e,e1] at hla; cases hla
 have s5:=s3.trans s4
 refine ⟨a,la,rfl,⟨_,s5.seq hS⟩,⟨_,ak.of e3⟩,Li (K:=K) (a:=a) (b:=la) (xs:=row.map V.int) (ys:=(Zw row).map V.int) (λi σ G=>∃ (v6 v7 v8 v9 v10:Option V) (kvs:List (Key×V)),σ=[some (.int sh),some (.int pl),some (.ref a),some (.ref ls),some (.ref ld),some (.ref lo),v6,v7,v8,v9,v10]/\fW G ls ao sh (aS sh pl row i).1/\G lo=some (.lst ((aS sh pl row i).2.map aK))/\G ld=some (.dK kvs)/\kvs.length<=i/\(∀ b∈(aS sh pl row i).1,aT kvs (Sum.inl b:Key)=some (.int (gP row i b)))/\G la=some (.lst ((Zw row).map V.int))/\aq H G)
  (by rw [aH5,aH5,BL]) ⟨none,none,none,none,none,[],rfl,S2.same s4,s4 _ _ e2,s4 _ _ e1,avG _,λb m=>(nomatch m),e3,s5⟩ (λi σ G _ h=>by obtain ⟨_,_,_,_,_,_,_,_,_,_,_,_,q1,q2⟩:=h; exact ⟨q2.seq hS,ak.of q1⟩) ?_ ?_⟩
 .clear S0 S1 S2 e1 e2 s3 s4 s5 e3 lU hlo hla s1
  rintro i x y t σ G hx hy ⟨v6,v7,v8,v9,v10,kvs,rfl,S,h1,h2,hk,hv,h3,s1⟩ ht
  obtain ⟨z,hz,rfl⟩:=oJ hx
  obtain ⟨y,hy',rfl⟩:=oJ hy
  have ey:=UA hy'
  have hi:i<row.length:=(aWj.mp hz).1
  have eg:row.getD i 0=z:=by rw [aeu,hz]; rfl
  rw [eg] at ey
  obtain ⟨jE,sA⟩:=FF sh pl row i
  have r1:(aS sh pl row (i+1)).1=dZ z (av (aS sh pl row i).1 (bx sh pl row i z (aS sh pl row i).1)):=by rw [← eg]; rfl
  have r2:(aS sh pl row (i+1)).2=(aS sh pl row i).2++[bx sh pl row i z (aS sh pl row i).1]:=by rw [← eg]; rfl
  generalize (aS sh pl row i).1=there at *
  generalize (aS sh pl row i).2=found at *
  refine ⟨t,_,rfl,bJ.of Za,rfl,_,_,rfl,_,_,rfl,rfl,?_⟩
  refine nY λDz En=>?_
  try dsimp only
  refine hide λu1 e1=>?_
  have w:=Zf ht (.tup [.int z,.int y])
  have S1:=S.same w
  have g1:=w _ _ h1
  have g2:=w _ _ h2
  have g3:=w _ _ h3
  have s2:=s1.trans w
  generalize upd G t (.tup [.int z,.int y])=G1 at *
  clear S h1 h2 h3 s1 w
  obtain ⟨s0,ad,yg,had,hat,hm⟩:=S1.get (k:=z % sh) (aZ2 _ (by lia)) (aby _ (by lia))
  refine ⟨_,rfl,_,rfl,_,rfl,sh,z,rfl,hs0,ls,_,_,_,rfl,rfl,ak.of S1.top,hat,?_⟩
  have hg:bx sh pl row i z there=if z∉there/\pl<=((Zh sh (z % sh) there).length:Int) then (Zh sh (z % sh) there)[dO row i (Zh sh (z % sh) there)]? else none:=by unfold bx; rw [F2]
  have lm:(Zh sh (z % sh) there).length<=there.length:=aYO ..
  have hin:∀ b,b∈Zh sh (z % sh) there↔b∈there/\b % sh=z % sh:=λb=>aa
  have hsl:∀ gone:Option Int,(∀ g,gone=some g->g∈Zh sh (z % sh) there)->z∉there->fW (upd G1 ad (.lst ((av (Zh sh (z % sh) there) gone++[z]).map V.int))) ls ao sh (dZ z (av there gone)):=λgone PN hnz=>by
   have e:dZ z (av there gone)=av there gone++[z]:=by
    unfold dZ
    rw [bd2]
    cases gone with
    | none=>exact hnz
    | some g=>exact λm=>hnz (aLU m)
   refine S1.put had ?_ λs hs=>?_
   .rw [e,Zz,aHZ yg.symm,MN,yg]
   .have ne:¬ z % sh=(s:Int):=λq=>hs (by lia)
    rw [e,Zz,bd2 ne,MN]
    exact Uz λx hx m=>ne (((hin x).mp (PN x hx)).2.symm.trans (aa.mp m).2)
  have Eh:∀ o∈Zh sh (z % sh) there,z∉there->aT kvs (Sum.inl o:Key)=some (.int (gP row (i+1) o)):=λo mo hnz=>by
   have mt:=((hin o).mp mo).1
   have ne:¬ z=o:=λe=>hnz (e ▸ mt)
   rw [hv o mt,Br hz,bd2 ne]
  generalize Zh sh (z % sh) there=br at *
  generalize hgo:bx sh pl row i z there=gone at *
  have n5:∀ g,gone=some g->g∈br:=λg e=>by
   rw [hg] at e
   split at e
   .exact aVV e
   .cases e
  refine gN ?_
  subst e1
  dsimp only
  refine qW (λv G'=>v=.aX/\G1=G') (λQ' k'=>k' _ _ ⟨rfl,rfl⟩) ?_
  rintro _ _ ⟨rfl,rfl⟩
  refine gN ?_
  refine qV (λσ G'=>∃ v10:Option V,σ=[some (.int sh),some (.int pl),some (.ref a),some (.ref ls),some (.ref ld),some (.ref lo),some (.int z),some (.int y),some (.ref ad),some (aK gone),v10]/\fW G' ls ao sh (dZ z (av there gone))/\G' lo=some (.lst (found.map aK))/\G' ld=some (.dK kvs)/\G' la=some (.lst ((Zw row).map V.int))/\aq H G') (λD' _ k'=>?_) ?_
  .refine ⟨_,rfl,_,rfl,ad,_,rfl,.inl (ak.of hm),rfl,t9 _,_,rfl,?_⟩
   rw [yK,aHZ rfl]
   refine F4 (λc=>?_) (λc=>?_)
   .have c':z∉br:=by simpa using c
    have hnz:z∉there:=λm=>c' ((hin z).mpr ⟨m,rfl⟩)
    refine qV (λσ G'=>∃ v10:Option V,σ=[some (.int sh),some (.int pl),some (.ref a),some (.ref ls),some (.ref ld),some (.ref lo),some (.int z),some (.int y),some (.ref ad),some (aK gone),v10]/\aq G1 G') (λYj _ k''=>?_) ?_
    .refine ⟨_,rfl,ad,_,rfl,.inl (ak.of hm),_,rfl,_,_,rfl,rfl,_,rfl,?_⟩
     rw [aH5]
     refine ZC (λc2=>?_) (λc2=>?_)
     .rw [aHZ ⟨hnz,c2⟩] at hg
      have pos:0<br.length:=by lia
      refine ⟨_,rfl,ad,rfl,⟨_,ak.of hm⟩,λl2 hl2=>?_⟩
      refine ZH (K:=K) (a:=ad) (xs:=br.map V.int) (l:=l2) (λj ys σ' G'=>∃ (v0:Option V) (as:List Addr),σ'=[v0,some (.ref ld)]/\ys=as.map V.ref/\as.length=j/\G' l2=some (.lst ys)/\(∀ (m:Nat) (ad:Addr) (o:Int),as[m]?=some ad->br[m]?=some o->G' ad=some (.tup [.int (gP row (i+1) o),.int o]))/\aq G1 G')
       ⟨none,[],rfl,rfl,rfl,Za,λm ad o h=>(by simp at h),Zf hl2 _⟩ (λj ys σ' G' _ h=>by obtain ⟨_,_,_,_,_,_,_,q⟩:=h; exact ak.of (q _ _ hm)) ?_ ?_
      .rintro j x ys σ' G' hj ic hys ⟨v0,as,rfl,rfl,hj',q1,q2,q3⟩
       obtain ⟨o,ho,rfl⟩:=oJ ic
       have ev:=Eh o (aVV ho) hnz
       refine ⟨_,rfl,_,rfl,ld,_,rfl,(by have q:=eZ.k (k:=Sum.inl o) (q3 _ _ g2); rw [ev] at q; exact q),_,rfl,(sl 2),λp hp=>?_⟩
       have np:l2≠p:=Zb q1 hp
       refine dU.of (aM8 (Zn (by rw [aH5]; lia))) hj hys (by rw [Ze np]; exact q1) ⟨_,as++[p],rfl,by rw [auU]; rfl,by rw [aIt,hj']; rfl,Za,λm ad o' hm ho'=>?_,?_⟩
       .by_cases xR:m<as.length
        .rw [aZu xR] at hm
         have q:=q2 m ad o' hm ho'
         have na:ad≠l2:=λe=>by rw [e,q1] at q; cases q
         rw [Ze na,Ze (Zb q hp)]
         exact q
        .rw [arE (by lia)] at hm
         have em:m=as.length:=by
          have:=(aWj.mp hm).1
          simp at this; lia
         subst em
         rw [aGA] at hm
         cases hm
         rw [hj',ho] at ho'
         cases ho'
         rw [Ze (aay np)]
         exact Za
       .intro e o' y
        rw [Ze (Zb y hl2)]
        exact Zf hp _ _ _ (q3 _ _ y)
      .rintro ys σ' G' hys ⟨v0,as,rfl,rfl,hj',q1,q2,q3⟩
       rw [aH5] at hj'
       refine ⟨l2,as,br.map (λo=>[gP row (i+1) o,o]),rfl,ak.of q1,λe=>?_,by rw [aH5]; exact hj',λm ad ns hm hns=>?_,λm JG hm2 xX=>?_⟩
       .rw [e] at hj'; simp at hj'; lia
       .rw [bdd] at hns
        cases ho:br[m]? with
        | none=>rw [ho] at hns; cases hns
        | some o =>
         rw [ho] at hns
         cases hns
         exact bJ.of (q2 m ad o hm ho)
       .have hm':m=dO row i br:=by
         rw [hm2,hj']
         exact Th hi hl (bbb.mp pos)
        rw [← hm'] at hg
        have mlt:m<br.length:=by rw [← hj']; exact (aWj.mp xX).1
        rw [a8w mlt] at hg
        have q4:=q2 m JG _ xX (a8w mlt)
        subst hg
        exact ⟨JG,_,rfl,bJ.of q4,rfl,_,_,rfl,_,_,rfl,rfl,k'' _ _ ⟨_,rfl,q3⟩⟩
     .rw [bd2 (λq=>c2 q.2)] at hg
      subst hg
      exact k'' _ _ ⟨_,rfl,aq.refl _⟩
    .rintro _ G2 ⟨v10,rfl,t1⟩
     have hm2:=t1 _ _ hm
     have DJ:ad≠lo:=λe:ad=lo=>Iw (e ▸ aVV had)
     have DK:ad≠ld:=λe:ad=ld=>uN (e ▸ aVV had)
     have OS:ad≠la:=λe:ad=la=>OT (e ▸ aVV had)
     refine ⟨_,rfl,_,rfl,_,rfl,ad,br,z,gone,rfl,hm2,by lia,n5,k' _ _ ⟨_,rfl,?_,?_,?_,?_,?_⟩⟩
     .have S2:=hsl gone n5 hnz
      refine ⟨?_,S2.len,S2.nd,S2.off,λs a e=>?_⟩
      .rw [Ze (λz:ls=ad=>S1.off (z ▸ aVV had))]
       exact t1 _ _ S1.top
      .have q:=S2.at_ s a e
       by_cases ea:a=ad
       .subst ea
        rw [Za] at q ⊢
        exact q
       .rw [Ze ea] at q ⊢
        exact t1 _ _ q
     .rw [Ze (aay DJ)]; exact t1 _ _ g1
     .rw [Ze (aay DK)]; exact t1 _ _ g2
     .rw [Ze (aay OS)]; exact t1 _ _ g3
     .intro e o q
      rw [Ze (Zb q (fr ad (aVV had)))]
      exact t1 _ _ (s2 _ _ q)
   .have c':z∈there:=((hin z).mp (by simpa using c)).1
    rw [bd2 (λq=>q.1 c')] at hg
    subst hg
    refine k' _ _ ⟨_,rfl,?_,g1,g2,g3,s2⟩
    show fW G1 ls ao sh (dZ z there)
    rw [dZ,aHZ c']
    exact S1
  rintro _ G3 ⟨v10,rfl,S3,m1,m2,m3,s4⟩
  refine ⟨_,rfl,_,rfl,_,rfl,ld,_,rfl,jg.k (k:=Sum.inl z) m2 (Zn (by lia)),?_⟩
  have IK:upd G3 ld (.dK (putK kvs (Sum.inl z) (.int y))) lo=some (.lst (found.map aK)):=by rw [Ze DB]; exact m1
  refine ⟨_,rfl,.inl ⟨rfl,_,ak.of IK⟩,_,rfl,lo,_,_,rfl,rfl,IK,Zn (by rw [aH5]; lia),En _ _ ⟨_,_,_,_,_,putK kvs (Sum.inl z) (.int y),rfl,?_,?_,?_,?_,?_,?_,?_⟩⟩
  .rw [r1]
   exact (S3.other _ xr uN).other _ OF Iw
  .rw [Za,r2,auU]; rfl
  .rw [Ze (aay DB)]; exact Za
  .exact ajJ (t7 ..) (by lia)
  .intro b m
   rw [r1] at m
   rw [BB]
   by_cases e:b=z
   .subst e
    rw [aHZ rfl,ey]
   .rw [bd2 (λq=>e (aeP q))]
    have mt:b∈there:=by
     have m':b∈av there gone:=by
      unfold dZ at m
      split at m
      .exact m
      .rcases bbY.mp m with m | m
       .exact m
       .exact absurd (by simpa using m) e
     cases gone with
     | none=>exact m'
     | some g=>exact aLU m'
    rw [hv b mt,Br hz,bd2 (λq=>e q.symm)]
  .rw [Ze OQ,Ze OR]; exact m3
  .intro e o q
   rw [Ze (Zb q IY),Ze (Zb q Ej)]
   exact s4 _ _ q
 .rintro σ G ⟨v6,v7,v8,v9,v10,kvs,rfl,S,h1,h2,hk,hv,h3,s1⟩
  rw [aH5] at h1
  exact ⟨_,rfl,k lo G IY s1 h1⟩
end
theorem Kw (f:Nat->Nat->Bool) (k:Nat):argBest f k<=k:=(GI (f:=f) (g:=f) k λ_ _ _ _=>rfl).2
theorem EO {sh pl:Int} {row:List Int}:∀ {n i:Nat},i<n->(aS sh pl row n).2[i]?=some (bx sh pl row i (row.getD i 0) (aS sh pl row i).1)
 | 0,i,h=>absurd h (Nat.not_lt_zero _)
 | n+1,i,h=>by
  have len:=(FF sh pl row n).2
  show ((aS sh pl row n).2++[_])[i]?=_
  by_cases c:i<n
  .rw [aZu (by rw [len]; exact c)]
   exact EO c
  .have e:i=n:=by lia
   subst e
   rw [arE (by rw [len]; exact avG _),len,aGA]
   rfl
theorem Kv (sh pl:Int) (row:List Int):(eW sh pl row).length=row.length:=(FF sh pl row row.length).2
theorem Sz {sh pl:Int} (hp:1<=pl) (row:List Int) (i:Nat) (b:Int) (there:List Int):bF pl (Zh sh (b % sh) there) b (bx sh pl row i b there)=true:=by
 have hin:b∈Zh sh (b % sh) there↔b∈there:=⟨λm=>(aa.mp m).1,λm=>aa.mpr ⟨m,rfl⟩⟩
 unfold bx bF
 rw [F2]
 by_cases c:b∈there\/((Zh sh (b % sh) there).length:Int)<pl
 .rw [aHZ (c.imp hin.mpr id),bd2]
  .rfl
  .rintro ⟨q1,q2⟩
   rcases c with c | c
   .exact q1 c
   .lia
 .have c1:b∉there:=λq=>c (.inl q)
  have c2:pl<=((Zh sh (b % sh) there).length:Int):=by
   have:¬ ((Zh sh (b % sh) there).length:Int)<pl:=λq=>c (.inr q)
   lia
  rw [bd2 (λq=>c (q.imp hin.mp id)),aHZ ⟨c1,c2⟩]
  have lt:dO row i (Zh sh (b % sh) there)<(Zh sh (b % sh) there).length:=by
   have:=Kw (λi' j=>HT.lexLt (((Zh sh (b % sh) there).map λo=>[bE row i o,o]).getD j []) (((Zh sh (b % sh) there).map λo=>[bE row i o,o]).getD i' [])) ((Zh sh (b % sh) there).length - 1)
   have e:dO row i (Zh sh (b % sh) there)<=(Zh sh (b % sh) there).length - 1:=this
   lia
  rw [a8w lt]
  exact aPy (aSd lt)
theorem rB {sh pl:Int} (hp:1<=pl) (row:List Int):∀ i,i<=row.length->∃ c,bg sh pl row (eW sh pl row) i=some ((aS sh pl row i).1,c)
 | 0,_=>⟨0,rfl⟩
 | i+1,h=>by
  obtain ⟨c,e⟩:=rB hp row i (by lia)
  have eo:(eW sh pl row).getD i none=bx sh pl row i (row.getD i 0) (aS sh pl row i).1:=by
   rw [aeu]
   unfold eW
   rw [EO (by lia:i<row.length)]
   rfl
  have hm:=Sz (sh:=sh) hp row i (row.getD i 0) (aS sh pl row i).1
  have r1:(aS sh pl row (i+1)).1=dZ (row.getD i 0) (av (aS sh pl row i).1 (bx sh pl row i (row.getD i 0) (aS sh pl row i).1)):=rfl
  have r2:bg sh pl row (eW sh pl row) (i+1)=cN sh pl (row.getD i 0) (bx sh pl row i (row.getD i 0) (aS sh pl row i).1) ((aS sh pl row i).1,c):=by
   show (bg sh pl row (eW sh pl row) i).bind _=_
   rw [e,eo]
   rfl
  rw [r1,r2]
  have hg:row.getD i 0∈(aS sh pl row i).1->bx sh pl row i (row.getD i 0) (aS sh pl row i).1=none:=λm=>by
   unfold bx
   rw [bd2 (λq=>q.1 m)]
  generalize bx sh pl row i (row.getD i 0) (aS sh pl row i).1=o at *
  generalize row.getD i 0=b at *
  generalize (aS sh pl row i).1=there at *
  unfold cN
  rw [aHZ hm]
  by_cases c2:b∈there
  .rw [aHZ c2,hg c2]
   refine ⟨c,?_⟩
   show some (there,c)=some (dZ b there,c)
   unfold dZ
   rw [aHZ c2]
  .rw [bd2 c2]
   refine ⟨c+1,?_⟩
   unfold dZ
   rw [bd2]
   cases o with
   | none=>exact c2
   | some g=>exact λm=>c2 (aLU m)
theorem FU {sh pl:Int} (hp:1<=pl) (row:List Int):∃ c:Nat,dg sh pl row (eW sh pl row)=some (c:Int)/\c<=row.length:=by
 obtain ⟨c,e⟩:=rB hp row row.length (avG _)
 refine ⟨c,?_,(F3 e).2⟩
 unfold dg
 rw [aHZ (Kv sh pl row),e]
 rfl
def Zx (sh pl:Int) (row:List Int):Int:=(dg sh pl row (eW sh pl row)).getD 0
section
def rN (K:W.Frag):Sp:=λvs H Q _=>∃ (sh pl:Int) (a lo:Addr) (row:List Int) (os:List (Option Int)) (c:Int),vs=[.int sh,.int pl,.ref a,.ref lo]/\ak K H a (row.map V.int)/\H lo=some (.lst (os.map aK))/\1<=sh/\sh<=64/\row.length<=400/\dg sh pl row os=some c /\
 ∀ H',aq H H'->Q (.int c) H'
theorem Wa (F:bK K "misses_by" "misses_by" Hq f fd) (T:Txt K mg) (pJ:Def P w K mg base "count_misses" 3 ZZ (kI K)):aD P w K mg base bB 4 f fd BI (rN K):=by
 refine F.ok fh (λvs H Q E h=>?_) (λcdv A outer st H vs Q E hr h=>?_)
 .obtain ⟨sh,pl,a,lo,row,os,c,rfl,_⟩:=h
  rfl
 obtain ⟨sh,pl,a,lo,row,os,c,rfl,hS,hO,hs0,hs1,hl,hc,k⟩:=h
 have nd:=fh.nd
 refine ⟨_,(Zd (bA 4 nd (Zl pJ hr.m rfl (pc (pv 0) (pc (pv 1) (pc (pv 2) (pc (pv 3) Zc))))))
   (Zd (aI (yy (AL (pv 4))) (Zj nC) Zu)
   (Zj (Zq (pv 4))))),?_⟩
 refine ⟨_,rfl,_,rfl,_,rfl,_,rfl,sh,pl,a,lo,row,os,rfl,hS,hO,hs0,hs1,hl,λH1 s1=>?_⟩
 rw [hc]
 exact ⟨_,rfl,_,rfl,bu rfl ⟨_,rfl,k H1 s1⟩⟩
def FE (K:W.Frag):Sp:=λvs H Q _=>∃ (sh pl:Int) (a:Addr) (row:List Int),vs=[.int sh,.int pl,.ref a]/\ak K H a (row.map V.int)/\1<=sh/\sh<=64/\1<=pl/\pl<=16/\row.length<=400/\mH 9999 row /\
 ∀ H',aq H H'->Q (.int (Zx sh pl row)) H'
theorem WS (F:bK K "least_misses" "least_misses" Hw f fd) (T:Txt K mg) (uE:Def P w K mg base "farthest" 8 BP (ng K)) (uF:Def P w K mg base "misses_by" 4 BI (rN K)):aD P w K mg base bB 9 f fd BR (FE K):=by
 refine F.ok cT (λvs H Q E h=>?_) (λcdv A outer st H vs Q E hr h=>?_)
 .obtain ⟨sh,pl,a,row,rfl,_⟩:=h
  rfl
 obtain ⟨sh,pl,a,row,rfl,hS,hs0,hs1,hp0,hp1,hl,bd,k⟩:=h
 have nd:=cT.nd
 refine ⟨_,(Zj (Zq (Zl uF hr.m rfl (pc (pv 0) (pc (pv 1) (pc (pv 2) (pc (Zl uE hr.m rfl (pc (pv 0) (pc (pv 1) (pc (pv 2) Zc)))) Zc))))))),?_⟩
 obtain ⟨c,hc,_⟩:=FU (sh:=sh) hp0 row
 refine ⟨_,rfl,_,rfl,_,rfl,_,rfl,_,rfl,_,rfl,sh,pl,a,row,rfl,hS,hs0,hs1,hp0,hp1,hl,bd,λlo H1 hlo s1 e1=>?_⟩
 refine ⟨sh,pl,a,lo,row,_,c,rfl,s1.seq hS,e1,hs0,hs1,hl,hc,λH2 s2=>?_⟩
 have q:=k H2 (s1.trans s2)
 unfold Zx at q
 rw [hc] at q
 exact q
end
structure iS (sh pl:Int) (row:List Int) (O:Nat->List Int) (m:Nat->Nat):Prop where
 z:O 0=[]/\m 0=0
 nd:∀ i,i<=row.length->(O i).Nodup
 sz:∀ i,i<=row.length->∀ s,((Zh sh s (O i)).length:Int)<=pl
 hit:∀ i,i<row.length->row.getD i 0∈O i->(∀ x∈O (i+1),x∈O i)/\m (i+1)=m i
 Ah:∀ i,i<row.length->row.getD i 0∉O i->(∀ x∈O (i+1),x=row.getD i 0\/x∈O i)/\m (i+1)=m i+1
 now:∀ i,i<row.length->row.getD i 0∈O (i+1)
section
variable {sh pl:Int} {row:List Int} {os:List (Option Int)}
def oS (sh pl:Int) (row:List Int) (os:List (Option Int)) (i:Nat):List Int×Nat:=(bg sh pl row os i).getD ([],0)
theorem J3 {i:Nat} {S:List Int×Nat} (h:bg sh pl row os (i+1)=some S):bg sh pl row os i=some (oS sh pl row os i)/\cN sh pl (row.getD i 0) (os.getD i none) (oS sh pl row os i)=some S:=by
 have h':(bg sh pl row os i).bind (cN sh pl (row.getD i 0) (os.getD i none))=some S:=h
 unfold oS
 cases e:bg sh pl row os i with
 | none=>rw [e] at h'; cases h'
 | some U=>rw [e] at h'; exact ⟨rfl,h'⟩
theorem Sy {n:Nat} {S:List Int×Nat} (h:bg sh pl row os n=some S):∀ i,i<=n->bg sh pl row os i=some (oS sh pl row os i):=by
 induction n generalizing S with
 | zero =>
  intro i hi
  have:i=0:=by lia
  subst this
  rfl
 | succ n ih =>
  intro i hi
  by_cases c:i=n+1
  .subst c; unfold oS; rw [h]; rfl
  .exact ih (J3 h).1 i (by lia)
theorem vv {n i:Nat} {S:List Int×Nat} (h:bg sh pl row os n=some S) (hi:i<n):bF pl (Zh sh (row.getD i 0 % sh) (oS sh pl row os i).1) (row.getD i 0) (os.getD i none)=true/\(row.getD i 0∈(oS sh pl row os i).1->oS sh pl row os (i+1)=oS sh pl row os i)/\(row.getD i 0∉(oS sh pl row os i).1->oS sh pl row os (i+1)=(av (oS sh pl row os i).1 (os.getD i none)++[row.getD i 0],(oS sh pl row os i).2+1)):=by
 have q:=(J3 (Sy h (i+1) (by lia))).2
 unfold cN at q
 split at q
 case isFalse=>cases q
 case isTrue c =>
  refine ⟨c,λhb=>?_,λhb=>?_⟩
  .rw [aHZ hb] at q; exact (bcC q).symm
  .rw [bd2 hb] at q; exact (bcC q).symm
theorem Ku {l:List Int} {o:Option Int} {x:Int} (h:x∈av l o):x∈l:=by
 cases o with
 | none=>exact h
 | some g=>exact aLU h
theorem A1 (hp:1<=pl) {S:List Int×Nat} (h:bg sh pl row os row.length=some S):iS sh pl row (λi=>(oS sh pl row os i).1) λi=>(oS sh pl row os i).2:=by
 have inv:∀ i,i<=row.length->(oS sh pl row os i).1.Nodup/\∀ s,((Zh sh s (oS sh pl row os i).1).length:Int)<=pl:=by
  intro i
  induction i with
  | zero=>exact λ_=>⟨a6N,λs=>by show ((0:Nat):Int)<=pl; lia⟩
  | succ i ih =>
   intro hi
   obtain ⟨n1,z1⟩:=ih (by lia)
   obtain ⟨hm,hh,hn⟩:=vv h (by lia:i<row.length)
   by_cases c:row.getD i 0∈(oS sh pl row os i).1
   .rw [hh c]; exact ⟨n1,z1⟩
   .rw [hn c]
    have cb:row.getD i 0∉Zh sh (row.getD i 0 % sh) (oS sh pl row os i).1:=λm=>c (aa.mp m).1
    refine ⟨?_,λs=>?_⟩
    .show (av _ _++[_]).Nodup
     rw [a15]
     exact ⟨n1.sublist aU,by simp,λx hx y hy e=>c (by rw [adl.mp hy] at e; rw [← e]; exact Ku hx)⟩
    .show ((Zh sh s (av _ _++[_])).length:Int)<=pl
     rw [Zz]
     have zs:=z1 s
     unfold bF at hm
     cases eo:os.getD i none with
     | none =>
      rw [eo] at hm
      show ((if _ then Zh sh s (oS sh pl row os i).1++[_] else Zh sh s (oS sh pl row os i).1).length:Int)<=pl
      split
      .rename_i e
       rw [aIt,af9]
       split at hm
       case isFalse=>cases hm
       case isTrue q =>
        rcases q with q | q
        .exact absurd q cb
        .rw [e] at q; lia
      .exact zs
     | some g =>
      rw [eo] at hm
      show ((if _ then Zh sh s ((oS sh pl row os i).1.erase g)++[_] else Zh sh s ((oS sh pl row os i).1.erase g)).length:Int)<=pl
      rw [ZF]
      split at hm
      case isTrue=>cases hm
      case isFalse q =>
       have mg:=aTw hm
       split
       .rename_i e
        rw [e] at mg
        rw [aIt,af9,akb mg]
        have:=aMf mg
        lia
       .have:=acH (a:=g) (l:=Zh sh s (oS sh pl row os i).1)
        lia
 refine ⟨⟨rfl,rfl⟩,λi hi=>(inv i hi).1,λi hi=>(inv i hi).2,λi hi hb=>?_,λi hi hb=>?_,λi hi=>?_⟩
 .obtain ⟨_,hh,_⟩:=vv h hi
  try dsimp only
  rw [hh hb]
  exact ⟨λx hx=>hx,rfl⟩
 .obtain ⟨_,_,hn⟩:=vv h hi
  try dsimp only
  rw [hn hb]
  refine ⟨λx hx=>?_,rfl⟩
  rcases bbY.mp hx with hx | hx
  .exact .inr (Ku hx)
  .exact .inl (adl.mp hx)
 .obtain ⟨_,hh,hn⟩:=vv h hi
  try dsimp only
  by_cases c:row.getD i 0∈(oS sh pl row os i).1
  .rw [hh c]; exact c
  .rw [hn c]; exact aaD _ (adl.mpr rfl)
end
theorem AO {α:Type} [BEq α] [LawfulBEq α]:∀ {a b:List α},a.Nodup->(∀ x∈a,x∈b)->a.length<=b.length
 | [],_,_,_=>auX _
 | x :: a,b,h,m=>by
  obtain ⟨h1,h2⟩:=aHW.mp h
  have q:=AO (b:=b.erase x) h2 λy hy=>(a6o (λz:y=x=>h1 (by rw [← z]; exact hy))).mpr (m y (akt _ hy))
  rw [akb (m x aTs)] at q
  have:=aMf (m x aTs)
  rw [aRy]
  lia
theorem AZ {α β:Type} {f:α->β}:∀ {l:List α},l.Nodup->(∀ x∈l,∀ y∈l,f x=f y->x=y)->(l.map f).Nodup
 | [],_,_=>a6N
 | x :: l,h,i=>by
  obtain ⟨h1,h2⟩:=aHW.mp h
  refine aHW.mpr ⟨λz=>?_,AZ h2 λa ha b hb=>i a (akt _ ha) b (akt _ hb)⟩
  obtain ⟨y,hy,e⟩:=aea.mp z
  exact h1 (by rw [← i y (akt _ hy) x aTs e]; exact hy)
theorem FD {α:Type} [BEq α] [LawfulBEq α] {n:Nat} {p:Nat->Bool} {b:List α} (f:Nat->α) (h:∀ i,i<n->p i=true->f i∈b) (inj:∀ i j,i<n->j<n->p i=true->p j=true->f i=f j->i=j):(List.range n).countP p<=b.length:=by
 rw [a5P]
 have nd:((List.range n).filter p).Nodup:=List.nodup_range.sublist a9R
 have at':∀ x∈(List.range n).filter p,x<n/\p x=true:=λx hx=>⟨a1N.mp (apP.mp hx).1,(apP.mp hx).2⟩
 have:=AO (a:=((List.range n).filter p).map f) (b:=b) (AZ nd λx hx y hy e=>inj x y (at' x hx).1 (at' y hy).1 (at' x hx).2 (at' y hy).2 e) λy hy=>by
  obtain ⟨x,hx,rfl⟩:=aea.mp hy
  exact h x (at' x hx).1 (at' x hx).2
 rwa [aH5] at this
theorem Ks {n:Nat} {p q:Nat->Bool} (f:Nat->Nat) (h:∀ i,i<n->p i=true->f i<n/\q (f i)=true) (inj:∀ i j,i<n->j<n->p i=true->p j=true->f i=f j->i=j):(List.range n).countP p<=(List.range n).countP q:=by
 rw [a5P (p:=q)]
 exact FD f (λi hi hp=>apP.mpr ⟨a1N.mpr (h i hi hp).1,(h i hi hp).2⟩) inj
def gW (row:List Int) (b:Int):Nat->Option Nat
 | 0=>none
 | j+1=>if row.getD j 0=b then some j else gW row b j
theorem qe {row:List Int} {b:Int}:∀ {j i:Nat},gW row b j=some i->i<j/\row.getD i 0=b/\∀ k,i<k->k<j->row.getD k 0≠b
 | 0,i,h=>nomatch h
 | j+1,i,h=>by
  unfold gW at h
  split at h
  .rename_i c
   cases h
   exact ⟨ayu _,c,λk h1 h2=>by lia⟩
  .rename_i c
   obtain ⟨h1,h2,h3⟩:=qe h
   refine ⟨by lia,h2,λk k1 k2=>?_⟩
   by_cases e:k=j
   .subst e; exact c
   .exact h3 k k1 (by lia)
theorem Bq {row:List Int} {b:Int}:∀ {j:Nat},gW row b j=none->∀ k,k<j->row.getD k 0≠b
 | 0,_,k,h=>by lia
 | j+1,h,k,hk=>by
  unfold gW at h
  split at h
  .cases h
  .rename_i c
   by_cases e:k=j
   .subst e; exact c
   .exact Bq h k (by lia)
theorem J2 {row:List Int} {b:Int} {j i:Nat} (h1:i<j) (h2:row.getD i 0=b) (h3:∀ k,i<k->k<j->row.getD k 0≠b):gW row b j=some i:=by
 cases e:gW row b j with
 | none=>exact absurd h2 (Bq e i h1)
 | some k =>
  obtain ⟨k1,k2,k3⟩:=qe e
  congr 1
  by_cases c:k<i
  .exact absurd h2 (k3 i c h1)
  .by_cases c2:i<k
   .exact absurd k2 (h3 k c2 k1)
   .lia
theorem uX {row:List Int} {b:Int}:∀ (d p:Nat),p+d=row.length->(gP row p b=row.length/\∀ k,p<=k->k<row.length->row.getD k 0≠b)\/∃ j:Nat,p<=j/\j<row.length/\gP row p b=(j:Int)/\row.getD j 0=b/\∀ k,p<=k->k<j->row.getD k 0≠b
 | 0,p,h=>.inl ⟨A7 (by lia),λk h1 h2=>by lia⟩
 | d+1,p,h=>by
  have hx:row[p]?=some (row.getD p 0):=by rw [aeu,a8w (by lia)]; rfl
  rw [Br hx]
  by_cases c:row.getD p 0=b
  .rw [aHZ c]
   exact .inr ⟨p,avG _,by lia,rfl,c,λk h1 h2=>by lia⟩
  .rw [bd2 c]
   rcases uX (row:=row) (b:=b) d (p+1) (by lia) with ⟨h1,h2⟩ | ⟨j,h1,h2,h3,h4,h5⟩
   .refine .inl ⟨h1,λk k1 k2=>?_⟩
    by_cases e:k=p
    .subst e; exact c
    .exact h2 k (by lia) k2
   .refine .inr ⟨j,by lia,h2,h3,h4,λk k1 k2=>?_⟩
    by_cases e:k=p
    .subst e; exact c
    .exact h5 k (by lia) k2
def bz (row:List Int) (i:Nat):Int:=gP row (i+1) (row.getD i 0)
def eX (sh:Int) (row:List Int) (i j m:Nat):Bool:=(decide (i<m) && decide (m<j)) && decide (row.getD m 0 % sh=row.getD i 0 % sh)
def dw (sh:Int) (row:List Int) (ms:List Nat) (i j:Nat):Bool:=ms.any (eX sh row i j)
def jP (sh:Int) (row:List Int) (ms:List Nat) (i:Nat):Bool:=decide (bz row i<row.length) && !dw sh row ms i (bz row i).toNat
def e7 (row:List Int) (f:Nat->Nat->Bool) (j:Nat):Bool:=match gW row (row.getD j 0) j with
 | some i=>f i j
 | none=>false
def n6 (sh:Int) (row:List Int) (ms:List Nat) (j:Nat):Bool:=e7 row (λi j=>!dw sh row ms i j) j
theorem AN {row:List Int} {i:Nat} (hi:i<row.length) (h:bz row i<row.length):∃ j:Nat,bz row i=(j:Int)/\i<j/\j<row.length/\row.getD j 0=row.getD i 0/\gW row (row.getD j 0) j=some i:=by
 rcases uX (row:=row) (b:=row.getD i 0) (row.length - (i+1)) (i+1) (by lia) with ⟨h1,_⟩ | ⟨j,h1,h2,h3,h4,h5⟩
 .unfold bz at h; lia
 .exact ⟨j,h3,by lia,h2,h4,by rw [h4]; exact J2 (by lia) rfl λk k1 k2=>h5 k (by lia) k2⟩
theorem AM {row:List Int} {i j:Nat} (hj:j<row.length) (h:gW row (row.getD j 0) j=some i):bz row i=(j:Int):=by
 obtain ⟨h1,h2,h3⟩:=qe h
 rcases uX (row:=row) (b:=row.getD i 0) (row.length - (i+1)) (i+1) (by lia) with ⟨_,k2⟩ | ⟨k,k1,k2,k3,k4,k5⟩
 .exact absurd h2.symm (k2 j (by lia) hj)
 .unfold bz
  rw [k3]
  congr 1
  by_cases c:k<j
  .exact absurd (k4.trans h2) (h3 k (by lia) c)
  .by_cases c2:j<k
   .exact absurd h2.symm (k5 j (by lia) c2)
   .lia
theorem Ru (row:List Int) (f:Nat->Nat->Bool):(List.range row.length).countP (λi=>decide (bz row i<row.length) && f i (bz row i).toNat)=(List.range row.length).countP (e7 row f):=by
 apply Nat.le_antisymm
 .refine Ks (λi=>(bz row i).toNat) (λi hi hp=>?_) (λi j hi hj hp hq e=>?_)
  .obtain ⟨h1,h2⟩:=(asO _ _).mp hp
   obtain ⟨j,e,h3,h4,h5,h6⟩:=AN hi (aTw h1)
   rw [e] at h2 ⊢
   refine ⟨h4,?_⟩
   unfold e7
   rw [show ((j:Int)).toNat=j from rfl,h6]
   exact h2
  .obtain ⟨h1,_⟩:=(asO _ _).mp hp
   obtain ⟨h2,_⟩:=(asO _ _).mp hq
   obtain ⟨x,e1,_,_,_,q1⟩:=AN hi (aTw h1)
   obtain ⟨y,e2,_,_,_,q2⟩:=AN hj (aTw h2)
   rw [e1,e2] at e
   have Ew:x=y:=e
   rw [Ew,q2] at q1
   exact (bcC q1).symm
 .refine Ks (λj=>(gW row (row.getD j 0) j).getD 0) (λj hj hp=>?_) (λi j hi hj hp hq e=>?_)
  .unfold e7 at hp
   cases e:gW row (row.getD j 0) j with
   | none=>rw [e] at hp; cases hp
   | some i =>
    rw [e] at hp
    have:=qe e
    have n:=AM hj e
    refine ⟨by show i<_; lia,?_⟩
    show (decide (bz row i<row.length) && f i (bz row i).toNat)=true
    rw [n,aPy (by lia)]
    exact hp
  .unfold e7 at hp hq
   cases e1:gW row (row.getD i 0) i with
   | none=>rw [e1] at hp; cases hp
   | some x =>
    cases e2:gW row (row.getD j 0) j with
    | none=>rw [e2] at hq; cases hq
    | some y =>
     rw [e1,e2] at e
     have Ew:x=y:=e
     have n1:=AM hi e1
     have n2:=AM hj e2
     rw [Ew,n2] at n1
     lia
def aN (sh pl:Int) (row:List Int) (ms:List Nat):Int:=(pl - 1) * ms.length+((List.range row.length).countP (jP sh row ms):Nat)
theorem qY (sh pl:Int) (row:List Int) (ms:List Nat):aN sh pl row ms=(pl - 1) * ms.length+((List.range row.length).countP (n6 sh row ms):Nat):=by
 unfold aN n6
 rw [← Ru]
 rfl
section
variable {sh pl:Int} {row:List Int} {O:Nat->List Int} {m:Nat->Nat}
def b7 (row:List Int) (O:Nat->List Int) (j:Nat):Bool:=decide (row.getD j 0∈O j)
theorem iS.cnt (o:iS sh pl row O m):∀ i,i<=row.length->m i+(List.range i).countP (b7 row O)=i
 | 0,_=>by rw [o.z.2]; rfl
 | i+1,h=>by
  have ih:=o.cnt i (by lia)
  rw [aCe,aH7,aj1]
  unfold b7 at ih ⊢
  by_cases c:row.getD i 0∈O i
  .rw [(o.hit i (by lia) c).2,aHZ (by simpa using c)]; lia
  .rw [(o.Ah i (by lia) c).2,bd2 (by simpa using c)]; lia
theorem iS.step (o:iS sh pl row O m) {i:Nat} (hi:i<row.length) {x:Int} (h:x∈O (i+1)):x=row.getD i 0\/x∈O i:=by
 by_cases c:row.getD i 0∈O i
 .exact .inr ((o.hit i hi c).1 x h)
 .exact (o.Ah i hi c).1 x h
theorem iS.back (o:iS sh pl row O m):∀ {j:Nat},j<=row.length->∀ {x:Int},x∈O j->∃ i,i<j/\row.getD i 0=x
 | 0,_,x,h=>by rw [o.z.1] at h; cases h
 | j+1,hj,x,h=>by
  rcases o.step (by lia) h with e | h
  .exact ⟨j,by lia,e.symm⟩
  .obtain ⟨i,h1,h2⟩:=o.back (by lia) h
   exact ⟨i,by lia,h2⟩
theorem iS.stay (o:iS sh pl row O m) {i:Nat} {x:Int}:∀ (d t:Nat),i<t->t+d<=row.length->x∈O (t+d)->(∀ k,i<k->k<t+d->row.getD k 0≠x)->x∈O t
 | 0,t,_,_,h,_=>h
 | d+1,t,h1,h2,h,h3=>by
  have q:=o.stay d (t+1) (by lia) (by lia) (by rw [show t+1+d=t+(d+1) by lia]; exact h) λk k1 k2=>h3 k k1 (by lia)
  rcases o.step (by lia) q with e | q
  .exact absurd e.symm (h3 t (by lia) (by lia))
  .exact q
theorem iS.over (o:iS sh pl row O m) {a:Nat} (ha:a<row.length):(((List.range row.length).countP λj=>b7 row O j && e7 row (λi j=>eX sh row i j a) j:Nat):Int)<=pl - 1:=by
 have key:∀ j,j<row.length->(b7 row O j && e7 row (λi j=>eX sh row i j a) j)=true->∃ i,i<a/\a<j/\row.getD i 0=row.getD j 0/\(∀ k,i<k->k<j->row.getD k 0≠row.getD j 0)/\row.getD a 0 % sh=row.getD j 0 % sh/\row.getD j 0∈O (a+1):=λj hj hp=>by
  obtain ⟨h1,h2⟩:=(asO _ _).mp hp
  have h1:row.getD j 0∈O j:=aTw h1
  unfold e7 at h2
  cases e:gW row (row.getD j 0) j with
  | none=>rw [e] at h2; cases h2
  | some i =>
   rw [e] at h2
   obtain ⟨p1,p2,p3⟩:=qe e
   obtain ⟨c1,c3⟩:=(asO _ _).mp h2
   obtain ⟨c1,c2⟩:=(asO _ _).mp c1
   have c1:=aTw c1
   have c2:=aTw c2
   have c3:=aTw c3
   refine ⟨i,c1,c2,p2,p3,by rw [c3,p2],?_⟩
   exact o.stay (i:=i) (j - (a+1)) (a+1) (by lia) (by lia) (by rw [show a+1+(j - (a+1))=j by lia]; exact h1) λk k1 k2=>p3 k k1 (by lia)
 have ma:row.getD a 0∈Zh sh (row.getD a 0 % sh) (O (a+1)):=aa.mpr ⟨o.now a ha,rfl⟩
 have le:=FD (n:=row.length) (p:=λj=>b7 row O j && e7 row (λi j=>eX sh row i j a) j) (b:=(Zh sh (row.getD a 0 % sh) (O (a+1))).erase (row.getD a 0)) (λj=>row.getD j 0) (λj hj hp=>?_) (λj k hj hk hp hq e=>?_)
 .have z:=o.sz (a+1) (by lia) (row.getD a 0 % sh)
  rw [akb ma] at le
  have:=aMf ma
  lia
 .obtain ⟨i,h1,h2,h3,h4,h5,h6⟩:=key j hj hp
  exact (a6o (λz:row.getD j 0=row.getD a 0=>h4 a h1 h2 z.symm)).mpr (aa.mpr ⟨h6,h5.symm⟩)
 .obtain ⟨i,h1,h2,_,h4,_⟩:=key j hj hp
  obtain ⟨i',pV,h2',_,Aw,_⟩:=key k hk hq
  by_cases c:j<k
  .exact absurd e (Aw j (by lia) c)
  .by_cases c2:k<j
   .exact absurd e.symm (h4 k (by lia) c2)
   .lia
theorem E2 {p q r s:Nat->Bool}:∀ l:List Nat,(∀ x∈l,p x=true->q x=true->r x=true\/s x=true)->l.countP (λx=>p x && q x)<=l.countP (λx=>p x && r x)+l.countP λx=>p x && s x
 | [],_=>avG _
 | x :: l,h=>by
  have ih:=E2 l λy hy=>h y (akt _ hy)
  simp only [agp]
  have:=h x aTs
  cases hp:p x <;> cases hq:q x <;> cases hr:r x <;> cases hs:s x <;> simp_all <;> lia
theorem iS.marked (o:iS sh pl row O m):∀ ms:List Nat,(∀ x∈ms,x<row.length)->(((List.range row.length).countP λj=>b7 row O j && e7 row (λi j=>dw sh row ms i j) j:Nat):Int)<=(pl - 1) * ms.length
 | [],_=>by
  have:(List.range row.length).countP (λj=>b7 row O j && e7 row (λi j=>dw sh row [] i j) j)=0:=by
   rw [a33]
   intro j _ z
   obtain ⟨_,h2⟩:=(asO _ _).mp z
   unfold e7 at h2
   split at h2 <;> cases h2
  rw [this]
  show (0:Int)<=(pl - 1) * ((0:Nat):Int)
  simp
 | a :: ms,h=>by
  have h1:=o.over (h a aTs)
  have h2:=o.marked ms λx hx=>h x (akt _ hx)
  have h3:=E2 (p:=b7 row O) (q:=e7 row (λi j=>dw sh row (a :: ms) i j)) (r:=e7 row (λi j=>eX sh row i j a)) (s:=e7 row (λi j=>dw sh row ms i j)) (List.range row.length) (λx _ _ hx=>by
   unfold e7 at hx ⊢
   cases e:gW row (row.getD x 0) x with
   | none=>rw [e] at hx; cases hx
   | some i =>
    rw [e] at hx
    have hx:(eX sh row i x a || dw sh row ms i x)=true:=hx
    exact (aCI _ _).mp hx)
  rw [aRy,Int.natCast_succ,Int.mul_add,Int.mul_one]
  lia
theorem iS.weak (o:iS sh pl row O m) (ms:List Nat) (h:∀ x∈ms,x<row.length):(row.length:Int) - m row.length<=aN sh pl row ms:=by
 have h1:=o.cnt row.length (avG _)
 have h2:=o.marked ms h
 rw [qY]
 have h3:=E2 (p:=b7 row O) (q:=λ_=>true) (r:=e7 row (λi j=>dw sh row ms i j)) (s:=n6 sh row ms) (List.range row.length) (λx hm hx _=>by
  unfold n6 e7
  cases e:gW row (row.getD x 0) x with
  | none =>
   obtain ⟨i,i1,i2⟩:=o.back (aM8 (a1N.mp hm)) (aTw hx)
   exact absurd i2 (Bq e i i1)
  | some i=>dsimp only; cases dw sh row ms i x <;> simp)
 have h4:(List.range row.length).countP (λx=>b7 row O x && n6 sh row ms x)<=(List.range row.length).countP (n6 sh row ms):=List.countP_mono_left λx _ hx=>((asO _ _).mp hx).2
 have h5:(List.range row.length).countP (λx=>b7 row O x && true)=(List.range row.length).countP (b7 row O):=by simp only [Bool.and_true]
 lia
end
def mV (ms:List Nat):List V:=ms.map λm:Nat=>V.int (m:Int)
def gF (row:List Int):List Nat:=(List.range row.length).filter λi=>decide (bz row i<row.length)
theorem Mz (row:List Int) {i:Nat} (hi:i<row.length):(Zw row)[i]?=some (bz row i):=by
 unfold Zw
 rw [bdd,aEb hi]
 rfl
section
def JZ (G:Hp) (l:Addr) (row:List Int) (ns:List Nat):Prop:=∃ ao:List Addr,G l=some (.lst (ao.map V.ref))/\ao.length=ns.length/\∀ (k:Nat) (ad:Addr) (i:Nat),ao[k]?=some ad->ns[k]?=some i->G ad=some (.tup [.int (i:Int),.int (bz row i)])
def JY (K:W.Frag):Sp:=λvs H Q _=>∃ (a:Addr) (row:List Int),vs=[.ref a]/\ak K H a (row.map V.int)/\row.length<=400 /\
 ∀ (l:Addr) (H':Hp),H l=none->aq H H'->JZ H' l row (gF row)->Q (.ref l) H'
theorem Wq (F:bK K "returns_of" "returns_of" BU f fd) (T:Txt K mg) (pI:Def P w K mg base "asked_again" 1 yT (A6 K)):aD P w K mg base bB 2 f fd GW (JY K):=by
 refine F.ok d9 (λvs H Q E h=>?_) (λcdv A outer st H vs Q E hr h=>?_)
 .obtain ⟨a,row,rfl,_⟩:=h
  rfl
 obtain ⟨a,row,rfl,hS,hl,k⟩:=h
 have nd:=d9.nd
 refine ⟨_,(Zj (Zq (BD (Zv (cj:=(Zg BU)) (oN:=cQ) (N:=["first", "last", "row"]) (own:=2) (js:=[0]) (by decide +kernel) rfl rfl) rfl (Fq rfl T.wR (pc (Zl pI hr.m rfl (pc (pv 0) Zc)) Zc)) (λ_ _ _ _ _ _=>(kh (K:=K) (n:=2) rfl rfl (Zt (bD 0 (show List.Nodup (["first", "last", "row"]:List Str) by decide +kernel)) (Zt (bD 1 (show List.Nodup (["first", "last", "row"]:List Str) by decide +kernel)) kj)))) (λ_ _ _ _ _ _=>(Zp cV (pv 1) (Zk (Zm (K:=K) rfl) rfl T.dX a21 (pc (pv 2) Zc)) (Zs _))) (λ_ _ _ _ _ _=>(k8 (pc (pv 0) (pc (pv 1) Zc))))))),?_⟩
 refine ⟨_,rfl,a,row,rfl,hS,hl,λlg H1 xT s1 e1=>⟨lg,rfl,⟨_,ak.of e1⟩,λl hl'=>?_⟩⟩
 have la:((Zw row).map V.int).length=row.length:=by rw [aH5,BL]
 refine Vc (K:=K) (a:=lg) (xs:=(Zw row).map V.int) (l:=l) (λj ys σ' G'=>∃ (v0 v1:Option V),σ'=[v0,v1,some (.ref a)]/\G' l=some (.lst ys)/\JZ G' l row ((List.range j).filter λi=>decide (bz row i<row.length))/\aq H1 G')
  ⟨none,none,rfl,Za,⟨[],Za,rfl,λk ad i h _=>by simp at h⟩,Zf hl' _⟩ (λj ys σ' G' _ ⟨_,_,_,_,_,s⟩=>ak.of (s _ _ e1)) ?_ ?_
 .rintro j x t ys σ' G' hj ic hys ⟨v0,v1,rfl,el,⟨ao,r1,r2,r3⟩,sg⟩ ht
  have hj':j<row.length:=by lia
  rw [bdd,Mz row hj'] at ic
  cases ic
  have xj:l≠t:=Zb el ht
  have hx:((List.range (j+1)).filter λi=>decide (bz row i<row.length))=((List.range j).filter λi=>decide (bz row i<row.length))++(if bz row j<row.length then [j] else []):=by
   rw [aCe,azg,amZ,filter_nil]
   simp only [acz]
  have sx:=Zf (H:=G') ht (.tup [V.int (j:Int),V.int (bz row j)])
  refine ⟨t,_,rfl,bJ.of Za,rfl,_,_,rfl,_,_,rfl,rfl,?_⟩
  refine ⟨_,rfl,_,rfl,a,_,rfl,.inl ((s1.trans (sg.trans sx)).seq hS),_,_,rfl,rfl,_,rfl,?_⟩
  generalize upd G' t (.tup [V.int (j:Int),V.int (bz row j)])=G1 at *
  have Jx:=sx _ _ el
  rw [aH5]
  refine ZC (λc=>?_) (λc=>?_)
  .rw [aHZ c] at hx
   refine ⟨_,rfl,_,rfl,(sl 2),λq hq=>?_⟩
   have sq:=Zf (H:=G1) hq (.tup [V.int (j:Int),V.int (bz row j)])
   have eq:=Za (H:=G1) (a:=q) (o:=.tup [V.int (j:Int),V.int (bz row j)])
   have OG:l≠q:=Zb Jx hq
   dsimp only
   have sG:=sx.trans sq
   generalize upd G1 q (.tup [V.int (j:Int),V.int (bz row j)])=G2 at *
   have ey:ys=ao.map V.ref:=by rw [el] at r1; cases r1; rfl
   subst ey
   refine dU.of (by rw [la]; exact aM8 (Zn (by lia))) hj hys (sG _ _ el) ⟨_,_,rfl,Za,⟨ao++[q],by rw [Za,auU]; rfl,by rw [hx,aIt,aIt,r2]; rfl,λk ad i h1 h2=>?_⟩,λx o e=>by rw [Ze (Zb e hl')]; exact sG _ _ (sg _ _ e)⟩
   rw [hx] at h2
   by_cases ck:k<ao.length
   .rw [aZu ck] at h1
    rw [aZu (by rw [← r2]; exact ck)] at h2
    have q3:=r3 k ad i h1 h2
    rw [Ze (λz=>by rw [z,el] at q3; cases q3)]
    exact sG _ _ q3
   .rw [arE (by lia)] at h1
    rw [arE (by rw [← r2]; lia),← r2] at h2
    cases ek:k - ao.length with
    | zero =>
     rw [ek] at h1 h2
     cases h1; cases h2
     rw [Ze (aay OG)]
     exact eq
    | succ n=>rw [ek] at h1; simp at h1
  .rw [bd2 c,aOr] at hx
   refine kD.of hj hys ⟨_,_,rfl,Jx,⟨ao,sx _ _ r1,by rw [hx]; exact r2,λk ad i h1 h2=>sx _ _ (r3 k ad i h1 (by rw [hx] at h2; exact h2))⟩,sg.trans sx⟩
 .rintro ys σ' G' _ ⟨v0,v1,rfl,el,rr,sg⟩
  rw [la] at rr
  exact k l G' (s1.free hl') (s1.trans sg) rr
def wu (K:W.Frag):Sp:=λvs H Q _=>∃ (sh:Int) (a lm:Addr) (row:List Int) (ms:List Nat) (i j:Nat),vs=[.int sh,.ref a,.ref lm,.int (i:Int),.int (j:Int)]/\ak K H a (row.map V.int)/\ak K H lm (mV ms)/\1<=sh/\i<row.length/\(∀ x∈ms,x<row.length)/\ms.length<=900 /\
 ∀ H',aq H H'->Q (.bl (dw sh row ms i j)) H'
theorem V9 (F:bK K "is_marked" "is_marked" BH f fd) (T:Txt K mg) (iL:Def P w K mg base "shelf_of" 1 rC tV):aD P w K mg base bB 2 f fd Ho (wu K):=by
 refine F.ok fk (λvs H Q E h=>?_) (λcdv A outer st H vs Q E hr h=>?_)
 .obtain ⟨sh,a,lm,row,ms,i,j,rfl,_⟩:=h
  rfl
 obtain ⟨sh,a,lm,row,ms,i,j,rfl,hS,hM,hs0,hi,hm,hl,k⟩:=h
 have nd:=fk.nd
 refine ⟨_,(Zd (bA 5 nd (Zl iL hr.m rfl (pc (pv 0) (pc (aA (Zo (K:=K) rfl) (pv 1) (pv 3) (λ_ _=>rfl)) Zc))))
   (Zj (Zq (Zk (Ms rfl) rfl T.zF Ly (pc (oG (Zv (cj:=(Zg BH)) (oN:=dQ) (N:=["mark", "first", "last", "shelf", "shelves", "row"]) (own:=1) (js:=[3,4,5,0,1]) (by decide +kernel) rfl rfl) rfl (ZL (K:=K) rfl (pv 2)) (λ_ _ _ _ _ _=>(bD 0 (show List.Nodup (["mark", "first", "last", "shelf", "shelves", "row"]:List Str) by decide +kernel))) (λ_ _ _ _ _ _=>(tO (TY cV cV (pv 1) (pv 0) (pv 2)) (vm (k7 aQ (Zl iL hr.m rfl (pc (pv 4) (pc (aA (Zo (K:=K) rfl) (pv 5) (pv 0) (λ_ _=>rfl)) Zc))) (pv 3) (Zs _)))))) Zc))))),?_⟩
 have at':∀ x,x<row.length->cY (row.map V.int) (x:Int)=some (.int (row.getD x 0)):=λx hx=>ZX (by rw [bdd,aeu,a8w hx]; rfl)
 refine ⟨_,rfl,_,rfl,_,rfl,a,_,_,_,rfl,rfl,hS,at' i hi,sh,_,rfl,hs0,gN ?_⟩
 refine ⟨_,rfl,lm,rfl,⟨_,hM⟩,λl hl'=>?_⟩
 have lV:(mV ms).length=ms.length:=aH5 ..
 refine ZH (K:=K) (a:=lm) (xs:=mV ms) (l:=l) (λn ys σ' G'=>∃ (v0:Option V),σ'=[v0,some (.int (i:Int)),some (.int (j:Int)),some (.int (row.getD i 0 % sh)),some (.int sh),some (.ref a)]/\ys=((ms.take n).map (eX sh row i j)).map V.bl/\G' l=some (.lst ys)/\aq H G')
  ⟨none,rfl,rfl,Za,Zf hl' _⟩ (λn ys σ' G' _ ⟨_,_,_,_,s⟩=>s.seq hM) ?_ ?_
 .rintro n x ys σ' G' hn hxn hys ⟨v0,rfl,rfl,el,sg⟩
  have hn':n<ms.length:=by lia
  have em:ms[n]?=some ms[n]:=a8w hn'
  have ex:x=.int (ms[n]:Int):=by
   unfold mV at hxn
   rw [bdd,em] at hxn
   exact (bcC hxn).symm
  subst ex
  have mr:=hm _ (aVV em)
  have tk:ms.take (n+1)=ms.take n++[ms[n]]:=by rw [aK1,em]; rfl
  generalize ms[n]=z at *
  have fin:∀ {b:Bool},b=eX sh row i j z->dU (mV ms).length l (λn ys σ' G'=>∃ (v0:Option V),σ'=[v0,some (.int (i:Int)),some (.int (j:Int)),some (.int (row.getD i 0 % sh)),some (.int sh),some (.ref a)]/\ys=((ms.take n).map (eX sh row i j)).map V.bl/\G' l=some (.lst ys)/\aq H G') n (((ms.take n).map (eX sh row i j)).map V.bl) [some (.int (z:Int)),some (.int (i:Int)),some (.int (j:Int)),some (.int (row.getD i 0 % sh)),some (.int sh),some (.ref a)] (.bl b) G':=λ{b} e =>
   dU.of (by rw [lV]; exact aM8 (Zn (by lia))) hn hys el ⟨_,rfl,by rw [tk,e,auU,auU]; rfl,Za,λx o e=>by rw [Ze (Zb e hl')]; exact sg _ _ e⟩
  refine ⟨_,rfl,_,rfl,_,_,rfl,rfl,_,rfl,?_⟩
  by_cases c1:i<z
  .refine cE (aPy (by lia)) ⟨_,rfl,_,_,rfl,rfl,_,rfl,?_⟩
   by_cases c2:z<j
   .refine cE (aPy (by lia)) ⟨_,rfl,_,rfl,_,rfl,a,_,_,_,rfl,rfl,sg.seq hS,at' z mr,sh,_,rfl,hs0,_,rfl,rfl,fin ?_⟩
    unfold eX
    rw [aPy c1,aPy c2]
    simp
   .refine bu (aXf (by lia)) (fin ?_)
    unfold eX
    rw [aXf c2,Bool.and_false,az0]
  .refine bu (aXf (by lia)) ⟨_,rfl,bu rfl (fin ?_)⟩
   unfold eX
   rw [aXf c1,az0,az0]
 .rintro ys σ' G' _ ⟨v0,rfl,rfl,el,sg⟩
  rw [lV,aqK] at el
  refine ⟨l,_,rfl,ak.of el,?_⟩
  rw [any_map]
  exact k G' sg
def ni (K:W.Frag):Sp:=λvs H Q _=>∃ (sh pl:Int) (a lm:Addr) (row:List Int) (ms:List Nat),vs=[.int sh,.int pl,.ref a,.ref lm]/\ak K H a (row.map V.int)/\ak K H lm (mV ms)/\1<=sh/\row.length<=400/\(∀ x∈ms,x<row.length)/\ms.length<=900 /\
 ∀ H',aq H H'->Q (.int (aN sh pl row ms)) H'
theorem E1 {row:List Int} {i:Nat}:0<=bz row i:=by
 unfold bz
 by_cases c:i+1<=row.length
 .rcases uX (row:=row) (b:=row.getD i 0) (row.length - (i+1)) (i+1) (by lia) with ⟨h1,_⟩ | ⟨j,_,_,h3,_⟩ <;> lia
 .rw [A7 (by lia)]; lia
theorem Tg (F:bK K "bound" "bound" Bb f fd) (T:Txt K mg) (Dp:Def P w K mg base "returns_of" 2 GW (JY K)) (Cp:Def P w K mg base "is_marked" 2 Ho (wu K)):aD P w K mg base bB 3 f fd Ba (ni K):=by
 refine F.ok jt (λvs H Q E h=>?_) (λcdv A outer st H vs Q E hr h=>?_)
 .obtain ⟨sh,pl,a,lm,row,ms,rfl,_⟩:=h
  rfl
 obtain ⟨sh,pl,a,lm,row,ms,rfl,hS,hM,hs0,hl,hm,hml,k⟩:=h
 have nd:=jt.nd
 refine ⟨_,(Zd (LB 4 (Zv (cj:=(Zg Bb)) (oN:=je) (N:=["first", "last", "shelves", "row", "marks"]) (own:=2) (js:=[0,2,3]) (by decide +kernel) rfl rfl) rfl nd rfl rfl (ZL (K:=K) rfl (Zl Dp hr.m rfl (pc (pv 2) Zc))) (λ_ _ _ _ _ _=>(kh (K:=K) (n:=2) rfl rfl (Zt (bD 0 (show List.Nodup (["first", "last", "shelves", "row", "marks"]:List Str) by decide +kernel)) (Zt (bD 1 (show List.Nodup (["first", "last", "shelves", "row", "marks"]:List Str) by decide +kernel)) kj)))) (λ_ _ _ _ _ _=>(k9 (ZY (Zl Cp hr.m rfl (pc (pv 2) (pc (pv 3) (pc (pv 4) (pc (pv 0) (pc (pv 1) Zc))))))))) (λ_ _ _ _ _ _=>(pv 0)))
   (Zj (Zq (ah ZR (ah mh (ah ko (pv 1) Zi) (Zk (Zm (K:=K) rfl) rfl T.dX a21 (pc (pv 3) Zc))) (Zk (Zm (K:=K) rfl) rfl T.dX a21 (pc (pv 4) Zc)))))),?_⟩
 refine ⟨_,rfl,a,row,rfl,hS,hl,λlr H1 hlr s1 rr=>?_⟩
 obtain ⟨ao,r1,r2,r3⟩:=rr
 refine ⟨lr,rfl,⟨_,ak.of r1⟩,λl hl'=>?_⟩
 have lV:(ao.map V.ref).length=(gF row).length:=by rw [aH5,r2]
 have XM:(gF row).length<=row.length:=by
  have:=aYO (λi=>decide (bz row i<row.length)) (List.range row.length)
  rw [aqI] at this
  exact this
 refine ZH (K:=K) (a:=lr) (xs:=ao.map V.ref) (l:=l) (λn ys σ' G'=>∃ (v0 v1:Option V),σ'=[v0,v1,some (.int sh),some (.ref a),some (.ref lm)]/\ys.length=((gF row).take n).countP (λi=>!dw sh row ms i (bz row i).toNat)/\G' l=some (.lst ys)/\aq H1 G')
  ⟨none,none,rfl,rfl,Za,Zf hl' _⟩ (λn ys σ' G' _ ⟨_,_,_,_,_,s⟩=>ak.of (s _ _ r1)) ?_ ?_
 .rintro n x ys σ' G' hn hxn hys ⟨v0,v1,rfl,hy,el,sg⟩
  have hn':n<ao.length:=by rw [aH5] at hn; exact hn
  rw [bdd,a8w hn'] at hxn
  cases hxn
  have ei:(gF row)[n]?=some (gF row)[n]:=a8w (by lia)
  have q3:=r3 n _ _ (a8w hn') ei
  have tk:(gF row).take (n+1)=(gF row).take n++[(gF row)[n]]:=by rw [aK1,ei]; rfl
  obtain ⟨i1,i2⟩:=apP.mp (aVV ei)
  have i1:=a1N.mp i1
  generalize (gF row)[n]=i at *
  have ge:=E1 (row:=row) (i:=i)
  refine ⟨_,_,rfl,bJ.of (sg _ _ q3),rfl,_,_,rfl,_,_,rfl,rfl,?_⟩
  refine ⟨_,rfl,_,rfl,_,rfl,_,rfl,_,rfl,sh,a,lm,row,ms,i,(bz row i).toNat,by rw [Int.toNat_of_nonneg ge]; rfl,(s1.trans sg).seq hS,(s1.trans sg).seq hM,hs0,i1,hm,hml,λG2 s2=>?_⟩
  refine ⟨_,rfl,?_⟩
  have Jw:=s2 _ _ el
  cases cb:dw sh row ms i (bz row i).toNat with
  | false =>
   refine cE rfl ⟨_,rfl,dU.of (by rw [lV]; exact aM8 (Zn (by lia))) hn hys Jw ⟨_,_,rfl,?_,Za,λx o e=>by rw [Ze (Zb e hl')]; exact s2 _ _ (sg _ _ e)⟩⟩
   rw [tk,aH7,aj1,aIt,hy,aHZ (by rw [cb]; rfl)]
   rfl
  | true =>
   refine bu rfl (kD.of hn hys ⟨_,_,rfl,?_,Jw,sg.trans s2⟩)
   rw [tk,aH7,aj1,hy,bd2 (by rw [cb]; exact aCK)]
   rfl
 .rintro ys σ' G' _ ⟨v0,v1,rfl,hy,el,sg⟩
  rw [lV,aqK] at hy
  have sG:=s1.trans sg
  have e:(gF row).countP (λi=>!dw sh row ms i (bz row i).toNat)=(List.range row.length).countP (jP sh row ms):=by
   unfold gF
   rw [List.countP_filter]
   refine aoq λi _=>?_
   unfold jP
   rw [Bool.and_comm]
  rw [e] at hy
  have lM:(mV ms).length=ms.length:=aH5 ..
  refine gN ⟨_,rfl,_,_,rfl,rfl,_,rfl,lm,_,rfl,.inl (sG.seq hM),_,_,rfl,rfl,.inr (by rw [lM]; lia),_,rfl,l,_,rfl,.inl (ak.of el),_,_,rfl,rfl,?_⟩
  rw [lM,hy]
  exact k G' sG
end
def cJ (sh:Int) (row:List Int):List Int:=row.foldl (λks b=>if b % sh∈ks then ks else ks++[b % sh]) []
theorem LS (sh:Int) (row:List Int) (b:Int):cJ sh (row++[b])=if b % sh∈cJ sh row then cJ sh row else cJ sh row++[b % sh]:=by
 unfold cJ
 rw [List.foldl_append]
 rfl
theorem p6 (sh:Int) (row:List Int):∀ n,n<=row.length->(cJ sh (row.take n)).Nodup/\(∀ s,s∈cJ sh (row.take n)↔∃ i,i<n/\row.getD i 0 % sh=s)/\(cJ sh (row.take n)).length<=n
 | 0,_=>⟨a6N,λs=>⟨λh=>(nomatch h),λ⟨i,h,_⟩=>by lia⟩,avG _⟩
 | n+1,hn=>by
  obtain ⟨h1,h2,h3⟩:=p6 sh row n (by lia)
  have et:row.take (n+1)=row.take n++[row.getD n 0]:=by rw [aK1,aeu,a8w (by lia:n<row.length)]; rfl
  rw [et,LS]
  have ex:∀ s,(∃ i,i<n+1/\row.getD i 0 % sh=s)↔(∃ i,i<n/\row.getD i 0 % sh=s)\/row.getD n 0 % sh=s:=λs=>by
   constructor
   .rintro ⟨i,h,e⟩
    by_cases c:i=n
    .subst c; exact .inr e
    .exact .inl ⟨i,by lia,e⟩
   .rintro (⟨i,h,e⟩ | e)
    .exact ⟨i,by lia,e⟩
    .exact ⟨n,by lia,e⟩
  by_cases c:row.getD n 0 % sh∈cJ sh (row.take n)
  .rw [aHZ c]
   refine ⟨h1,λs=>?_,by lia⟩
   rw [ex,h2]
   exact ⟨.inl,λz=>z.elim id λe=>(h2 s).mp (e ▸ c)⟩
  .rw [bd2 c]
   refine ⟨mL h1 c,λs=>?_,by rw [aIt]; show _+1<=_; lia⟩
   rw [ex,aov,aNI,h2]
   exact ⟨λz=>z.imp id Eq.symm,λz=>z.imp id Eq.symm⟩
def aV (sh:Int) (row:List Int) (n:Nat) (s:Int):List Nat:=(List.range n).filter λi=>decide (row.getD i 0 % sh=s)
theorem Bp (sh:Int) (row:List Int) (n:Nat) (s:Int):aV sh row (n+1) s=aV sh row n s++(if row.getD n 0 % sh=s then [n] else []):=by
 unfold aV
 rw [aCe,azg,amZ,filter_nil]
 simp only [acz]
theorem yv (a b:List Nat):mV (a++b)=mV a++mV b:=auU ..
theorem K5 (sh:Int) (row:List Int) (n:Nat) (s:Int):(mV (aV sh row n s)).length<=n:=by
 unfold mV aV
 rw [aH5]
 have:=aYO (λi=>decide (row.getD i 0 % sh=s)) (List.range n)
 rwa [aqI] at this
def jh (p:Int×Addr):Key×V:=(Sum.inl p.1,V.ref p.2)
structure zg (G:Hp) (d:Addr) (sh:Int) (row:List Int) (n:Nat) (L:List (Int×Addr)):Prop where
 top:G d=some (.dK (L.map jh))
 ks:L.map (·.1)=cJ sh (row.take n)
 nd:(L.map (·.2)).Nodup
 at':∀ p∈L,G p.2=some (.lst (mV (aV sh row n p.1)))
theorem EZ:∀ (L:List (Int×Addr)) (s:Int),(∃ ad,(s,ad)∈L/\aT (L.map jh) (Sum.inl s)=some (.ref ad))\/(s∉L.map (·.1)/\aT (L.map jh) (Sum.inl s)=none)
 | [],s=>.inr ⟨λh=>(nomatch h),rfl⟩
 | (x,ad) :: L,s=>by
  by_cases c:x=s
  .subst c
   exact .inl ⟨ad,aTs,ZP (p:=jh (x,ad)) rfl⟩
  .have e:aT ((jh (x,ad)) :: L.map jh) (Sum.inl s)=aT (L.map jh) (Sum.inl s):=ZK λz=>c (aeP z)
   rw [ar3,e]
   rcases EZ L s with ⟨a,h1,h2⟩ | ⟨h1,h2⟩
   .exact .inl ⟨a,akt _ h1,h2⟩
   .exact .inr ⟨λz=>(aDl.mp z).elim (λz=>c z.symm) h1,h2⟩
theorem FA {α β:Type}:∀ {L:List (α×β)},(L.map (·.1)).Nodup->∀ {p q:α×β},p∈L->q∈L->p.1=q.1->p=q
 | [],_,_,_,h,_,_=>nomatch h
 | x :: L,nd,p,q,hp,hq,e=>by
  obtain ⟨n1,n2⟩:=aHW.mp nd
  rcases aDl.mp hp with h1 | h1 <;> rcases aDl.mp hq with h2 | h2
  .rw [h1,h2]
  .exact absurd (aea.mpr ⟨q,h2,by rw [← e,h1]⟩) n1
  .exact absurd (aea.mpr ⟨p,h1,by rw [e,h2]⟩) n1
  .exact FA n2 h1 h2 e
theorem Sx {α β:Type} {L:List (α×β)} (nd:(L.map (·.2)).Nodup) {p q:α×β} (hp:p∈L) (hq:q∈L) (e:p.2=q.2):p=q:=by
 have h:=FA (L:=L.map λx=>(x.2,x.1)) (by rw [map_map]; exact nd) (p:=(p.2,p.1)) (q:=(q.2,q.1)) (aea.mpr ⟨p,hp,rfl⟩) (aea.mpr ⟨q,hq,rfl⟩) e
 obtain ⟨a,b⟩:=p
 obtain ⟨c,d⟩:=q
 cases h; rfl
section
def wo (K:W.Frag):Sp:=λvs H Q _=>∃ (sh:Int) (a:Addr) (row:List Int),vs=[.int sh,.ref a]/\ak K H a (row.map V.int)/\1<=sh/\row.length<=400 /\
 ∀ (d:Addr) (H':Hp) (L:List (Int×Addr)),H d=none->aq H H'->zg H' d sh row row.length L->(∀ p∈L,H p.2=none)->Q (.ref d) H'
theorem WU (F:bK K "places_by_shelf" "places_by_shelf" Hv f fd) (T:Txt K mg) (iL:Def P w K mg base "shelf_of" 1 rC tV):aD P w K mg base bB 2 f fd Hu (wo K):=by
 refine F.ok bQ (λvs H Q E h=>?_) (λcdv A outer st H vs Q E hr h=>?_)
 .obtain ⟨sh,a,row,rfl,_⟩:=h
  rfl
 obtain ⟨sh,a,row,rfl,hS,hs0,hl,k⟩:=h
 have nd:=bQ.nd
 refine ⟨_,(Zd (bA 2 nd BA)
   (Zd (kq aW3 rfl (Fq rfl T.wR (pc (pv 1) Zc)) (kh (K:=K) (n:=2) rfl rfl (Zt (bD 3 nd) (Zt (bD 4 nd) kj))) (Zj (Zy (jm (K:=K) rfl (bI a7f axz aXi ZB (Ud (pv 2) (Zl iL hr.m rfl (pc (pv 0) (pc (pv 4) Zc))) (ZI Zc) ⟨rfl,rfl,rfl,rfl⟩) (pc (pv 3) Zc))))))
   (Zj (Zq (pv 2))))),?_⟩
 refine λd hd=>⟨_,rfl,a,rfl,⟨_,(Zf hd _).seq hS⟩,Lv (K:=K) (a:=a) (xs:=row.map V.int) (λi σ G=>∃ (v3 v4:Option V) (L:List (Int×Addr)),σ=[some (.int sh),some (.ref a),some (.ref d),v3,v4]/\zg G d sh row i L/\(∀ p∈L,H p.2=none)/\aq H G)
  ⟨none,none,[],rfl,⟨Za,rfl,a6N,λp h=>(nomatch h)⟩,λp h=>(nomatch h),Zf hd _⟩ (λi σ G _ ⟨_,_,_,_,_,_,s⟩=>s.seq hS) ?_ ?_⟩
 .rintro i x t σ G hx ⟨v3,v4,L,rfl,B,nw,sg⟩ ht
  obtain ⟨z,hz,rfl⟩:=oJ hx
  have hi:i<row.length:=(aWj.mp hz).1
  have eg:row.getD i 0=z:=by rw [aeu,hz]; rfl
  have et:row.take (i+1)=row.take i++[z]:=by rw [aK1,hz]; rfl
  obtain ⟨k1,k2,k3⟩:=p6 sh row i (by lia)
  have lL:L.length<=i:=by have:=arH List.length B.ks; rw [aH5] at this; lia
  refine ⟨t,_,rfl,bJ.of Za,rfl,_,_,rfl,gN ⟨_,_,rfl,gN ⟨rfl,?_⟩⟩⟩
  have s1:=Zf (H:=G) ht (.tup [V.int (i:Int),V.int z])
  generalize upd G t (.tup [V.int (i:Int),V.int z])=G1 at *
  have mR:=s1 _ _ B.top
  refine ⟨_,rfl,d,rfl,.inl ⟨_,.inl mR⟩,_,rfl,_,rfl,sh,z,rfl,hs0,(sl 0),λq hq=>?_⟩
  have s2:=Zf (H:=G1) hq (.lst [])
  have e2:upd G1 q (.lst []) q=some (.lst []):=Za
  have qH:H q=none:=(sg.trans s1).free hq
  have Iu:q≠d:=λz=>by rw [z,mR] at hq; cases hq
  have sG:=s1.trans s2
  have Iv:∀ p∈L,p.2≠q:=λp hp z=>by
   have h:=s1 _ _ (B.at' p hp)
   rw [z,hq] at h; cases h
  generalize upd G1 q (.lst [])=G2 at *
  have rM:=s2 _ _ mR
  have IE:∀ p∈L,p.2≠d:=λp hp z=>by
   have h:=sG _ _ (B.at' p hp)
   rw [z,rM] at h; cases h
  clear mR hq s1 s2
  have Ig:cJ sh (row.take (i+1))=if z % sh∈cJ sh (row.take i) then cJ sh (row.take i) else cJ sh (row.take i)++[z % sh]:=by rw [et]; exact LS ..
  refine ⟨_,Sum.inl (z % sh),rM,rfl,Zn (by rw [aH5]; lia),λv hv=>?_,λhn=>?_⟩
  .rcases EZ L (z % sh) with ⟨ad,h1,h2⟩ | ⟨h1,h2⟩
   .rw [hv] at h2
    cases h2
    have ea:=sG _ _ (B.at' _ h1)
    refine ⟨.inl ⟨rfl,_,ak.of ea⟩,_,rfl,ad,_,_,rfl,rfl,ea,Zn (ajJ (K5 sh row i (z % sh)) (by lia)),⟨_,_,L,rfl,⟨by rw [Ze (aay (IE _ h1))]; exact rM,?_,B.nd,λp hp=>?_⟩,nw,λx o e=>by rw [Ze (Zb e (nw _ h1))]; exact sG _ _ (sg _ _ e)⟩⟩
    .rw [B.ks,Ig,aHZ]
     rw [← B.ks]
     exact aea.mpr ⟨_,h1,rfl⟩
    .rw [Bp,eg]
     by_cases c:p.2=ad
     .have ep:p=(z % sh,ad):=Sx B.nd hp h1 c
      subst ep
      rw [Za,aHZ rfl,yv]
      rfl
     .rw [Ze c,bd2,aOr]
      .exact sG _ _ (B.at' p hp)
      .intro w
       have ep:p=(z % sh,ad):=FA (by rw [B.ks]; exact k1) hp h1 w.symm
       exact c (by rw [ep])
   .rw [hv] at h2; cases h2
  .rcases EZ L (z % sh) with ⟨ad,h1,h2⟩ | ⟨h1,h2⟩
   .rw [hn] at h2; cases h2
   .rw [Tt _ h2]
    have eq:upd G2 d (.dK (L.map jh++[(Sum.inl (z % sh),V.ref q)])) q=some (.lst []):=by rw [Ze Iu]; exact e2
    refine ⟨.inl ⟨rfl,_,ak.of eq⟩,_,rfl,q,_,_,rfl,rfl,eq,Zn (by show 0<=1000; lia),⟨_,_,L++[(z % sh,q)],rfl,⟨by rw [Ze (aay Iu),Za,auU]; rfl,?_,?_,λp hp=>?_⟩,λp hp=>?_,λx o e=>by rw [Ze (Zb e qH),Ze (Zb e hd)]; exact sG _ _ (sg _ _ e)⟩⟩
    .rw [auU,B.ks,Ig,bd2]
     .rfl
     .rw [← B.ks]; exact h1
    .rw [auU]
     refine mL B.nd λw=>?_
     obtain ⟨p,hp,e⟩:=aea.mp w
     exact Iv p hp e
    .rw [Bp,eg]
     rcases bbY.mp hp with hp | hp
     .rw [Ze (Iv p hp),Ze (IE p hp),bd2,aOr]
      .exact sG _ _ (B.at' p hp)
      .exact λw=>h1 (aea.mpr ⟨p,hp,w.symm⟩)
     .have ep:p=(z % sh,q):=by simpa using hp
      subst ep
      have e0:aV sh row i (z % sh)=[]:=by
       unfold aV
       rw [List.filter_eq_nil_iff]
       intro x hx w
       refine h1 ?_
       rw [B.ks,k2]
       exact ⟨x,a1N.mp hx,aTw w⟩
      rw [Za,e0,aHZ rfl]
      rfl
    .rcases bbY.mp hp with hp | hp
     .exact nw p hp
     .have ep:p=(z % sh,q):=by simpa using hp
      subst ep
      exact qH
 .rintro σ G ⟨v3,v4,L,rfl,B,nw,sg⟩
  rw [aH5] at B
  exact ⟨_,rfl,k d G L hd sg B nw⟩
end
def iA (again:List Int) (n k:Nat):Nat:=(List.range k).countP λd=>decide (again.getD (n - 1 - d) 0<=(n:Int))
theorem LR (again:List Int) (n k:Nat):iA again n (k+1)=iA again n k+(if again.getD (n - 1 - k) 0<=(n:Int) then 1 else 0):=by
 unfold iA
 rw [aCe,aH7,aj1]
 simp only [acz]
def tG (again au:List Int) (n d:Nat):Int×Int:=(au.getD (n - 1 - d) 0+(iA again n (d+1):Int),((n - 1 - d:Nat):Int))
def fU (again au:List Int) (n:Nat):List (Int×Int):=(List.range n).map (tG again au n)++[((iA again n n:Int),-1)]
def nD (p:Int×Int):List Int:=[p.1,p.2]
def lZ (l:List (Int×Int)):Nat:=argBest (λi j=>HT.lexLt ((l.map nD).getD i []) ((l.map nD).getD j [])) (l.length - 1)
def iF (again au:List Int) (n:Nat):Int×Int:=(fU again au n).getD (lZ (fU again au n)) (0,-1)
theorem Fz (again au:List Int) (n:Nat):(fU again au n).length=n+1:=by unfold fU; simp
theorem JX {l:List (Int×Int)} (h:0<l.length):lZ l<l.length:=by
 have:=Kw (λi j=>HT.lexLt ((l.map nD).getD i []) ((l.map nD).getD j [])) (l.length - 1)
 unfold lZ
 lia
theorem AY (again au:List Int) (n:Nat):(fU again au n)[lZ (fU again au n)]?=some (iF again au n):=by
 have h:=JX (l:=fU again au n) (by rw [Fz]; lia)
 unfold iF
 rw [aeu,a8w h]
 rfl
theorem Gx (again au:List Int) (n:Nat) : -1<=(iF again au n).2/\(iF again au n).2<n:=by
 have m:=aVV (AY again au n)
 generalize iF again au n=c at *
 unfold fU at m
 rcases bbY.mp m with m | m
 .obtain ⟨d,hd,rfl⟩:=aea.mp m
  have:=a1N.mp hd
  unfold tG
  dsimp only
  lia
 .rw [adl.mp m]
  dsimp only
  lia
def bU (again:List Int) (ay:Int):Nat->List Int×List Int
 | 0=>([],[])
 | n+1=>((bU again ay n).1++[(iF again (bU again ay n).1 n).1+ay],(bU again ay n).2++[(iF again (bU again ay n).1 n).2])
theorem JW (again:List Int) (ay:Int) (n:Nat):(bU again ay (n+1)).1=(bU again ay n).1++[(iF again (bU again ay n).1 n).1+ay]:=rfl
theorem EY (again:List Int) (ay:Int) (n:Nat):(bU again ay (n+1)).2=(bU again ay n).2++[(iF again (bU again ay n).1 n).2]:=rfl
theorem yu (again:List Int) (ay:Int):∀ n,(bU again ay n).1.length=n/\(bU again ay n).2.length=n
 | 0=>⟨rfl,rfl⟩
 | n+1=>by
  obtain ⟨h1,h2⟩:=yu again ay n
  unfold bU
  rw [aIt,aIt,h1,h2]
  exact ⟨rfl,rfl⟩
theorem Bf (again:List Int) (ay:Int):∀ n i,i<n -> -1<=(bU again ay n).2.getD i (-1)/\(bU again ay n).2.getD i (-1)<i
 | 0,i,h=>by lia
 | n+1,i,h=>by
  have l:=(yu again ay n).2
  unfold bU
  dsimp only
  rw [aeu]
  by_cases c:i<n
  .rw [aZu (by lia),← aeu]
   exact Bf again ay n i c
  .have e:i=n:=by lia
   subst e
   rw [arE (by lia),l,aGA]
   exact Gx ..
def jk (as:List Int):Nat->Int->List Nat
 | 0,_=>[]
 | f+1,m=>if 0<=m then m.toNat :: jk as f (as.getD m.toNat (-1)) else []
theorem AX (as:List Int) (f:Nat) (m:Int):jk as (f+1) m=if 0<=m then m.toNat :: jk as f (as.getD m.toNat (-1)) else []:=rfl
def lN (as:List Int):Int:=as.getLast?.getD (-1)
def gu (ay:Int) (row:List Int):List Nat:=(jk (bU (Zw row) ay row.length).2 row.length (lN (bU (Zw row) ay row.length).2)).reverse
theorem EX (again:List Int) (ay:Int) (n:Nat) : -1<=lN (bU again ay n).2/\lN (bU again ay n).2<n:=by
 unfold lN
 cases n with
 | zero=>exact ⟨aB0 _,(by show (-1:Int)<0; decide)⟩
 | succ n =>
  unfold bU
  rw [List.getLast?_append]
  have:=Gx again (bU again ay n).1 n
  show -1<=(iF again (bU again ay n).1 n).2/\(iF again (bU again ay n).1 n).2<((n+1:Nat):Int)
  lia
theorem oA {as:List Int} {n:Nat} (h:∀ i,i<n->as.getD i (-1)<(i:Int)):∀ (f:Nat) (m:Int),m<n->∀ x∈jk as f m,(x:Int)<=m
 | 0,_,_,x,hx=>nomatch hx
 | f+1,m,hm,x,hx=>by
  unfold jk at hx
  by_cases c:0<=m
  .rw [aHZ c] at hx
   rcases aDl.mp hx with e | hx
   .lia
   .have q:=h m.toNat (by lia)
    have:=oA h f _ (by lia) x hx
    lia
  .rw [bd2 c] at hx; cases hx
theorem fF (ay:Int) (row:List Int):∀ x∈gu ay row,x<row.length:=λx hx=>by
 unfold gu at hx
 have q:=EX (Zw row) ay row.length
 have:=oA (λi hi=>(Bf (Zw row) ay row.length i hi).2) _ _ q.2 x (List.mem_reverse.mp hx)
 lia
theorem EW (as:List Int):∀ (f:Nat) (m:Int),(jk as f m).length<=f
 | 0,_=>avG _
 | f+1,m=>by
  unfold jk
  split
  .rw [aRy]; have:=EW as f (as.getD m.toNat (-1)); lia
  .exact auX _
theorem EV (ay:Int) (row:List Int):(gu ay row).length<=row.length:=by
 unfold gu
 rw [aKp]
 exact EW ..
section
def wA (K:W.Frag):Sp:=λvs H Q _=>∃ (ag co:Addr) (again au:List Int) (n:Nat),vs=[.ref ag,.ref co,.int (n:Int)]/\H ag=some (.lst (again.map V.int))/\H co=some (.lst (au.map V.int))/\n<=again.length/\n<=au.length/\n<=400 /\
 ∀ (p:Addr) (H':Hp),aq H H'->H' p=some (.tup [.int (iF again au n).1,.int (iF again au n).2])->Q (.ref p) H'
def kC (G:Hp) (l:Addr) (ps:List (Int×Int)):Prop:=∃ ao:List Addr,G l=some (.lst (ao.map V.ref))/\ao.length=ps.length/\∀ (k:Nat) (ad:Addr) (p:Int×Int),ao[k]?=some ad->ps[k]?=some p->G ad=some (.tup [.int p.1,.int p.2])
theorem kC.push {G:Hp} {l q:Addr} {ps:List (Int×Int)} {p:Int×Int} (h:kC G l ps) (hq:G q=some (.tup [.int p.1,.int p.2])) {ao:List Addr} (e:G l=some (.lst (ao.map V.ref))):kC (upd G l (.lst (ao.map V.ref++[.ref q]))) l (ps++[p]):=by
 obtain ⟨as,r1,r2,r3⟩:=h
 have ea:ao.map V.ref=as.map V.ref:=by rw [r1] at e; exact (HO.lst.inj (bcC e)).symm
 refine ⟨as++[q],by rw [Za,ea,auU]; rfl,by rw [aIt,aIt,r2]; rfl,λk ad p' h1 h2=>?_⟩
 by_cases ck:k<as.length
 .rw [aZu ck] at h1
  rw [aZu (by lia)] at h2
  have q3:=r3 k ad p' h1 h2
  rw [Ze (λz=>by rw [z,r1] at q3; cases q3)]
  exact q3
 .rw [arE (by lia)] at h1
  rw [arE (by lia),← r2] at h2
  cases ek:k - as.length with
  | zero =>
   rw [ek] at h1 h2
   cases h1; cases h2
   rw [Ze (λz=>by rw [z,r1] at hq; cases hq)]
   exact hq
  | succ n=>rw [ek] at h1; simp at h1
theorem kC.same {G G':Hp} {l:Addr} {ps:List (Int×Int)} (h:kC G l ps) (s:aq G G'):kC G' l ps:=by
 obtain ⟨as,r1,r2,r3⟩:=h
 exact ⟨as,s _ _ r1,r2,λk ad p h1 h2=>s _ _ (r3 k ad p h1 h2)⟩
theorem WX (F:bK K "cheapest_ahead" "cheapest_ahead" Hy f fd) (T:Txt K mg):aD P w K mg base bB 1 f fd Hx (wA K):=by
 refine F.ok b9 (λvs H Q E h=>?_) (λcdv A outer st H vs Q E hr h=>?_)
 .obtain ⟨ag,co,again,au,n,rfl,_⟩:=h
  rfl
 obtain ⟨ag,co,again,au,n,rfl,hA,hC,l1,l2,hn,k⟩:=h
 have nd:=b9.nd
 have hu:=cW hr
 refine ⟨_,(Zd (bA 3 nd Zi)
   (Zd (bA 4 nd (ZI Zc))
   (Zd (kq aW3 rfl (Gj rfl T.jx (pc (ah ko (pv 2) Zi) (pc (cH l7 Zi) (pc (cH l7 Zi) Zc)))) (bD 5 nd) (Zd (aI (Zp wY (aA (Zo (K:=K) rfl) (pv 0) (pv 5) (λ_ _=>rfl)) (pv 2) (Zs _)) (Zj (Fe (i:=3) nd rfl (by first | exact Or.inl rfl | exact Or.inr rfl) Zi JR)) Zu)
   (Zj (Zy (jm (K:=K) rfl (bI a7f axz aXi ZB (pv 4) (pc (k8 (pc (ah ZR (aA (Zo (K:=K) rfl) (pv 1) (pv 5) (λ_ _=>rfl)) (pv 3)) (pc (pv 5) Zc))) Zc)))))))
   (Zd (Zy (jm (K:=K) rfl (bI a7f axz aXi ZB (pv 4) (pc (k8 (pc (pv 3) (pc (cH l7 Zi) Zc))) Zc))))
   (Zj (Zq (Zk (UW rfl hu rfl) rfl T.zK Lx (pc (pv 4) Zc)))))))),?_⟩
 refine gN ⟨(sl 0),λlc nW=>gN ?_⟩
 have s0:=Zf (H:=H) nW (.lst [])
 have QG:∀ i,i<again.length->cY (again.map V.int) (i:Int)=some (.int (again.getD i 0)):=λi hi=>ZX (by rw [bdd,aeu,a8w hi]; rfl)
 have atC:∀ i,i<au.length->cY (au.map V.int) (i:Int)=some (.int (au.getD i 0)):=λi hi=>ZX (by rw [bdd,aeu,a8w hi]; rfl)
 refine ⟨_,rfl,_,_,rfl,rfl,_,rfl,_,rfl,_,_,rfl,⟨by lia,by lia,by lia,by lia⟩,Gh (hi:=(n:Int) - 1) (n:=((n:Int) - 1 - -1).toNat) (λj σ G=>∃ (v5:Option V),σ=[some (.ref ag),some (.ref co),some (.int (n:Int)),some (.int (iA again n j:Int)),some (.ref lc),v5]/\kC G lc ((List.range j).map (tG again au n))/\aq H G)
  ⟨none,rfl,⟨[],Za,rfl,λk ad p h _=>by simp at h⟩,s0⟩ ?_ ?_⟩
 .rintro j σ G hj ⟨v5,rfl,C,sg⟩
  have hj':j<n:=by lia
  have hz:(n:Int) - 1 - (j:Int)=((n - 1 - j:Nat):Int):=by lia
  rw [hz]
  refine gN ?_
  refine qV (λσ G'=>σ=[some (.ref ag),some (.ref co),some (.int (n:Int)),some (.int (iA again n (j+1):Int)),some (.ref lc),some (.int ((n - 1 - j:Nat):Int))]/\G'=G) (λD' _ k'=>?_) ?_
  .refine ⟨_,rfl,_,rfl,ag,_,_,_,rfl,rfl,ak.of (sg _ _ hA),QG _ (by lia),_,rfl,_,_,rfl,rfl,_,rfl,?_⟩
   have ws:=LR again n j
   refine ZC (λc=>?_) (λc=>?_)
   .rw [aHZ c] at ws
    refine ⟨_,rfl,_,_,rfl,rfl,k' _ _ ⟨?_,rfl⟩⟩
    rw [ws]; rfl
   .rw [bd2 c] at ws
    exact k' _ _ ⟨by rw [ws]; rfl,rfl⟩
  rintro _ G' ⟨rfl,rfl⟩
  obtain ⟨as,r1,r2,r3⟩:=id C
  refine ⟨_,rfl,.inl ⟨rfl,_,ak.of r1⟩,_,rfl,_,rfl,co,_,_,_,rfl,rfl,ak.of (sg _ _ hC),atC _ (by lia),_,rfl,_,_,rfl,rfl,_,rfl,(sl 2),λq hq=>?_⟩
  have sq:=Zf (H:=G') hq (.tup [V.int (au.getD (n - 1 - j) 0+(iA again n (j+1):Int)),V.int ((n - 1 - j:Nat):Int)])
  have eq:=Za (H:=G') (a:=q) (o:=.tup [V.int (au.getD (n - 1 - j) 0+(iA again n (j+1):Int)),V.int ((n - 1 - j:Nat):Int)])
  generalize upd G' q (.tup [V.int (au.getD (n - 1 - j) 0+(iA again n (j+1):Int)),V.int ((n - 1 - j:Nat):Int)])=G2 at *
  have la:(as.map V.ref).length<=1000:=by rw [aH5,r2,aH5,aqI]; lia
  refine ⟨lc,_,_,rfl,rfl,sq _ _ r1,Zn la,⟨_,rfl,?_,λx o e=>by rw [Ze (Zb e nW)]; exact sq _ _ (sg _ _ e)⟩⟩
  rw [aCe,auU]
  exact (C.same sq).push (p:=tG again au n j) eq (sq _ _ r1)
 .rintro σ G ⟨v5,rfl,C,sg⟩
  rw [show ((n:Int) - 1 - -1).toNat=n by lia] at C ⊢
  obtain ⟨as,r1,r2,r3⟩:=id C
  have la:(as.map V.ref).length<=1000:=by rw [aH5,r2,aH5,aqI]; lia
  refine ⟨_,rfl,.inl ⟨rfl,_,ak.of r1⟩,_,rfl,_,rfl,(sl 2),λq hq=>?_⟩
  have sq:=Zf (H:=G) hq (.tup [V.int (iA again n n:Int),V.int (-1)])
  have eq:=Za (H:=G) (a:=q) (o:=.tup [V.int (iA again n n:Int),V.int (-1)])
  generalize upd G q (.tup [V.int (iA again n n:Int),V.int (-1)])=G2 at *
  have P:=(C.same sq).push (p:=((iA again n n:Int),-1)) eq (sq _ _ r1)
  have sH:aq H (upd G2 lc (.lst (as.map V.ref++[.ref q]))):=λx o e=>by rw [Ze (Zb e nW)]; exact sq _ _ (sg _ _ e)
  have eP:(List.range n).map (tG again au n)++[((iA again n n:Int),-1)]=fU again au n:=rfl
  rw [eP] at P
  refine ⟨lc,_,_,rfl,rfl,sq _ _ r1,Zn la,?_⟩
  generalize upd G2 lc (.lst (as.map V.ref++[.ref q]))=G3 at *
  obtain ⟨bs,p1,p2,p3⟩:=P
  refine ⟨_,rfl,lc,bs,(fU again au n).map nD,rfl,ak.of p1,λz=>?_,by rw [p2,aH5],λi a ns h1 h2=>?_,λm a hm ha=>?_⟩
  .rw [z,Fz] at p2; cases p2
  .rw [bdd] at h2
   cases e:(fU again au n)[i]? with
   | none=>rw [e] at h2; cases h2
   | some p =>
    rw [e] at h2
    cases h2
    exact bJ.of (p3 i a p h1 e)
  .have em:m=lZ (fU again au n):=by rw [hm,p2]; rfl
   exact k a G3 sH (p3 m a _ ha (by rw [em]; exact AY ..))
def wz (K:W.Frag):Sp:=λvs H Q _=>∃ (ay:Int) (a:Addr) (row:List Int),vs=[.int ay,.ref a]/\ak K H a (row.map V.int)/\row.length<=400 /\
 ∀ (l:Addr) (H':Hp),H l=none->aq H H'->H' l=some (.lst (mV (gu ay row)))->Q (.ref l) H'
theorem WN (F:bK K "least_marks" "least_marks" G7 f fd) (T:Txt K mg) (pI:Def P w K mg base "asked_again" 1 yT (A6 K)) (Di:Def P w K mg base "cheapest_ahead" 1 Hx (wA K)):aD P w K mg base bB 2 f fd G6 (wz K):=by
 refine F.ok dH (λvs H Q E h=>?_) (λcdv A outer st H vs Q E hr h=>?_)
 .obtain ⟨ay,a,row,rfl,_⟩:=h
  rfl
 obtain ⟨ay,a,row,rfl,hS,hl,k⟩:=h
 have nd:=dH.nd
 have hu:=cW hr
 refine ⟨_,(Zd (bA 2 nd (Zl pI hr.m rfl (pc (pv 1) Zc)))
   (Zd (bA 3 nd (ZI Zc))
   (Zd (bA 4 nd (ZI Zc))
   (Zd (kq aW3 rfl (ZM rfl T.jx (pc (Zk (Zm (K:=K) rfl) rfl T.dX a21 (pc (pv 1) Zc)) Zc)) (bD 5 nd) (Zd (pq (Zl Di hr.m rfl (pc (pv 2) (pc (pv 3) (pc (pv 5) Zc)))) (kh (K:=K) (n:=2) rfl rfl (Zt (bD 6 nd) (Zt (bD 7 nd) kj))))
   (Zd (Zy (jm (K:=K) rfl (bI a7f axz aXi ZB (pv 3) (pc (ah ZR (pv 6) (pv 0)) Zc))))
   (Zj (Zy (jm (K:=K) rfl (bI a7f axz aXi ZB (pv 4) (pc (pv 7) Zc))))))))
   (Zd (bA 8 nd (ZI Zc))
   (Zd (bA 9 nd (oH (TV (pv 4) (λ_=>rfl)) (aA (Zo (K:=K) rfl) (pv 4) (cH l7 Zi) (λ_ _=>rfl)) (cH l7 Zi)))
   (Zd (T3 aW3 (Zp kQ (pv 9) Zi (Zs _)) (Zd (Zy (jm (K:=K) rfl (bI a7f axz aXi ZB (pv 8) (pc (pv 9) Zc))))
   (Zj (bA 9 nd (aA (Zo (K:=K) rfl) (pv 4) (pv 9) (λ_ _=>rfl))))))
   (Zj (Zq (Mr (K:=K) rfl (pv 8) vt vt (vq (cH l7 Zi)))))))))))),?_⟩
 refine ⟨_,rfl,a,row,rfl,hS,hl,λlg H1 xT s1 e1=>gN ⟨(sl 0),λlc nW=>gN ⟨(sl 0),λla hla=>gN ?_⟩⟩⟩
 have s2:=(Zf (H:=H1) nW (.lst [])).trans (Zf hla (.lst []))
 have ec:upd (upd H1 lc (.lst [])) la (.lst []) lc=some (.lst []):=Zf hla _ _ _ Za
 have ea:upd (upd H1 lc (.lst [])) la (.lst []) la=some (.lst []):=Za
 have Ec:H1 la=none:=(Zf (H:=H1) nW (.lst [])).free hla
 have IF:lc≠la:=Zb (Za (H:=H1) (a:=lc) (o:=.lst [])) hla
 generalize upd (upd H1 lc (.lst [])) la (.lst [])=H2 at *
 have lA:=BL row
 have lR:(row.map V.int).length=row.length:=aH5 ..
 refine ⟨_,rfl,a,_,rfl,.inl ((s1.trans s2).seq hS),_,rfl,by lia,by lia,yQ (lo:=0) (n:=(((row.map V.int).length:Nat):Int).toNat) (λi σ G=>∃ (v5 v6 v7:Option V),σ=[some (.int ay),some (.ref a),some (.ref lg),some (.ref lc),some (.ref la),v5,v6,v7,none,none]/\G lc=some (.lst ((bU (Zw row) ay i).1.map V.int))/\G la=some (.lst ((bU (Zw row) ay i).2.map V.int))/\aq H1 G)
  ⟨none,none,none,rfl,ec,ea,s2⟩ ?_ ?_⟩
 .rintro i σ G hi ⟨v5,v6,v7,rfl,g1,g2,sg⟩
  have hi':i<row.length:=by rw [lR] at hi; lia
  obtain ⟨d1,d2⟩:=yu (Zw row) ay i
  rw [aX2]
  refine gN ⟨_,rfl,_,rfl,_,rfl,lg,lc,Zw row,(bU (Zw row) ay i).1,i,rfl,sg _ _ e1,g1,by lia,by lia,by lia,λp G1 t1 ep=>⟨p,_,rfl,bJ.of ep,rfl,_,_,rfl,gN ⟨_,_,rfl,gN ⟨rfl,?_⟩⟩⟩⟩
  have qS:=t1 _ _ g1
  have tu:=t1 _ _ g2
  refine ⟨_,rfl,.inl ⟨rfl,_,ak.of qS⟩,_,rfl,_,rfl,_,_,rfl,rfl,lc,_,_,rfl,rfl,qS,Zn (by rw [aH5,d1]; lia),?_⟩
  have yd:upd G1 lc (.lst ((bU (Zw row) ay i).1.map V.int++[V.int ((iF (Zw row) (bU (Zw row) ay i).1 i).1+ay)])) la=some (.lst ((bU (Zw row) ay i).2.map V.int)):=by rw [Ze (aay IF)]; exact tu
  refine ⟨_,rfl,.inl ⟨rfl,_,ak.of yd⟩,_,rfl,la,_,_,rfl,rfl,yd,Zn (by rw [aH5,d2]; lia),⟨_,_,_,rfl,?_,?_,λx o e=>?_⟩⟩
  .rw [Ze IF,Za,JW,auU]; rfl
  .rw [Za,EY,auU]; rfl
  .rw [Ze (Zb e Ec),Ze (Zb e nW)]
   exact t1 _ _ (sg _ _ e)
 .rintro σ G ⟨v5,v6,v7,rfl,g1,g2,sg⟩
  rw [show (((row.map V.int).length:Nat):Int).toNat=row.length by rw [lR]; rfl] at g1 g2
  have dl:=(yu (Zw row) ay row.length).2
  have da:=Bf (Zw row) ay row.length
  have dm:=EX (Zw row) ay row.length
  have pS:(jk (bU (Zw row) ay row.length).2 row.length (lN (bU (Zw row) ay row.length).2)).reverse=gu ay row:=rfl
  generalize (bU (Zw row) ay row.length).2=as at *
  refine ⟨(sl 0),λlm nV=>gN ?_⟩
  have s3:=Zf (H:=G) nV (.lst [])
  have e3:upd G lm (.lst []) lm=some (.lst []):=Za
  have xS:H1 lm=none:=sg.free nV
  generalize upd G lm (.lst [])=G1 at *
  have tu:=s3 _ _ g2
  have uA:=sg.trans s3
  have OI:lm≠la:=λz=>by rw [z,g2] at nV; cases nV
  clear g1 g2 s3 nV sg
  dsimp only
  refine qW (λv G=>v=.int (lN as)/\G=G1) (λQ' k'=>?_) ?_
  .refine ⟨_,rfl,_,.inl ⟨_,ak.of tu,rfl⟩,?_⟩
   by_cases c:as=[]
   .subst c
    exact bu rfl ⟨_,rfl,k' _ _ ⟨rfl,rfl⟩⟩
   .have ea:as=as.dropLast++[as.getLast c]:=(List.dropLast_concat_getLast c).symm
    have em:lN as=as.getLast c:=by unfold lN; rw [List.getLast?_eq_some_getLast c]; rfl
    refine cE (by cases as with | nil=>exact absurd rfl c | cons _ _=>rfl) ⟨_,rfl,_,rfl,la,_,_,_,rfl,rfl,ak.of tu,?_,k' _ _ ⟨by rw [em],rfl⟩⟩
    conv=>lhs; rw [ea,auU]
    exact TL _ _
  rintro _ G2 ⟨rfl,rfl⟩
  have tl:=EW as row.length (lN as)
  generalize hTT:jk as row.length (lN as)=TT at *
  refine gN ⟨λm σ G=>∃ (mark:Int) (dn:List Nat) (fu:Nat),m=(mark+1).toNat/\σ=[some (.int ay),some (.ref a),some (.ref lg),some (.ref lc),some (.ref la),v5,v6,v7,some (.ref lm),some (.int mark)] /\ -1<=mark/\mark<fu/\mark<row.length/\dn++jk as fu mark=TT/\G lm=some (.lst (mV dn))/\G la=some (.lst (as.map V.int))/\aq H1 G,⟨_,lN as,[],row.length,rfl,rfl,dm.1,dm.2,dm.2,hTT,e3,tu,uA⟩,?_⟩
  rintro m σ G ⟨mark,dn,fu,rfl,rfl,m1,m2,m3,hT,el,Qw,sG⟩
  have ld:dn.length<=row.length:=by
   have:=arH List.length hT
   rw [aIt] at this
   lia
  refine ⟨_,rfl,_,_,rfl,rfl,_,rfl,?_⟩
  by_cases c:0<=mark
  .refine cE (aPy c) ⟨λσ G=>∃ (fE:Int) (dn:List Nat) (fu:Nat),fE<mark/\σ=[some (.int ay),some (.ref a),some (.ref lg),some (.ref lc),some (.ref la),v5,v6,v7,some (.ref lm),some (.int fE)] /\ -1<=fE/\fE<fu/\fE<row.length/\dn++jk as fu fE=TT/\G lm=some (.lst (mV dn))/\G la=some (.lst (as.map V.int))/\aq H1 G,λσ' G' ⟨fE,dn,fu,q1,q2,q3,q4⟩=>⟨(fE+1).toNat,by lia,fE,dn,fu,rfl,q2,q3,q4⟩,?_⟩
   obtain ⟨f',rfl⟩:∃ f',fu=f'+1:=⟨fu - 1,by lia⟩
   have hat:cY (as.map V.int) mark=some (.int (as.getD mark.toNat (-1))):=by
    have q:cY (as.map V.int) ((mark.toNat:Nat):Int)=some (.int (as.getD mark.toNat (-1))):=ZX (by rw [bdd,aeu,a8w (by lia)]; rfl)
    rwa [Int.toNat_of_nonneg c] at q
   have dd:=da mark.toNat (by lia)
   refine ⟨_,rfl,.inl ⟨rfl,_,ak.of el⟩,_,rfl,lm,_,_,rfl,rfl,el,Zn (by unfold mV; rw [aH5]; lia),?_⟩
   have yh:upd G lm (.lst (mV dn++[V.int mark])) la=some (.lst (as.map V.int)):=by rw [Ze (aay OI)]; exact Qw
   refine ⟨_,rfl,_,rfl,la,_,_,_,rfl,rfl,ak.of yh,hat,gN ⟨_,dn++[mark.toNat],f',by lia,rfl,dd.1,by lia,by lia,?_,?_,yh,λx o e=>by rw [Ze (Zb e xS)]; exact sG _ _ e⟩⟩
   .rw [← hT,aNV]
    congr 1
    rw [AX,aHZ c]; rfl
   .rw [Za,yv]
    show _=some (HO.lst (mV dn++[V.int ((mark.toNat:Nat):Int)]))
    rw [Int.toNat_of_nonneg c]
  .refine bu (aXf c) ?_
   have e0:jk as fu mark=[]:=by
    cases fu with
    | zero=>rfl
    | succ f=>unfold jk; rw [bd2 c]
   rw [e0,aOr] at hT
   subst hT
   refine ⟨_,rfl,1,rfl,_,rfl,lm,_,rfl,ak.of el,by decide,?_,λp hp=>?_⟩
   .rw [Bm,aKp]; unfold mV; rw [aH5]; exact aM8 (Zn (by lia))
   .rw [Bm]
    have e5:(mV dn).reverse=mV (gu ay row):=by rw [← pS]; unfold mV; rw [List.map_reverse]
    rw [e5]
    exact k p _ (s1.free (sG.free hp)) ((s1.trans sG).trans (Zf hp _)) Za
end
def aF (sh:Int) (row:List Int) (s:Int):List Int:=(aV sh row row.length s).map λi=>row.getD i 0
def i7 (sh pl:Int) (row:List Int) (s:Int):List Nat:=(gu (pl - 1) (aF sh row s)).map λx=>(aV sh row row.length s).getD x 0
def dY (sh pl:Int) (row:List Int):List Nat:=(cJ sh row).flatMap (i7 sh pl row)
theorem tU {sh pl:Int} {row:List Int} {s:Int} {x:Nat} (h:x∈i7 sh pl row s):x<row.length/\row.getD x 0 % sh=s:=by
 obtain ⟨y,hy,rfl⟩:=aea.mp h
 have l:=fF _ _ y hy
 unfold aF at l
 rw [aH5] at l
 have m:(aV sh row row.length s).getD y 0∈aV sh row row.length s:=by rw [aeu,a8w l]; exact aSd l
 obtain ⟨h1,h2⟩:=apP.mp m
 exact ⟨a1N.mp h1,aTw h2⟩
theorem K4 (sh:Int) (row:List Int):∀ (ks:List Int),ks.Nodup->∀ n,(ks.map λs=>(aV sh row n s).length).sum<=n
 | ks,nd,0=>by
  have:(ks.map λs=>(aV sh row 0 s).length).sum=0:=by
   induction ks with
   | nil=>rfl
   | cons s ks ih=>rw [ar3,a12,ih (aHW.mp nd).2]; rfl
  lia
 | ks,nd,n+1=>by
  have ih:=K4 sh row ks nd n
  have key:∀ ks:List Int,ks.Nodup->(ks.map λs=>(aV sh row (n+1) s).length).sum<=(ks.map λs=>(aV sh row n s).length).sum+(if row.getD n 0 % sh∈ks then 1 else 0):=by
   intro ks
   induction ks with
   | nil=>intro _; exact auX _
   | cons s ks ih =>
    intro nd
    obtain ⟨n1,n2⟩:=aHW.mp nd
    have:=ih n2
    rw [ar3,ar3,a12,a12,Bp,aIt]
    by_cases c:row.getD n 0 % sh=s
    .rw [aHZ c,aHZ (by rw [c]; exact aTs)]
     rw [bd2 (by rw [c]; exact n1)] at this
     show _+1+_<=_
     lia
    .rw [bd2 c]
     by_cases c2:row.getD n 0 % sh∈ks
     .rw [aHZ c2] at this; rw [aHZ (akt _ c2)]
      show _+0+_<=_
      lia
     .rw [bd2 c2] at this
      show _+0+_<=_
      lia
  have:=key ks nd
  split at this <;> lia
theorem Fy {sh pl:Int} {row:List Int} (ks:List Int) (nd:ks.Nodup):(ks.flatMap (i7 sh pl row)).length<=row.length:=by
 refine ajJ ?_ (K4 sh row ks nd row.length)
 clear nd
 induction ks with
 | nil=>exact avG _
 | cons s ks ih =>
  rw [List.flatMap_cons,aIt,ar3,a12]
  have:(i7 sh pl row s).length<=(aV sh row row.length s).length:=by
   unfold i7
   rw [aH5]
   refine ajJ (EV ..) ?_
   unfold aF
   rw [aH5]
   exact avG _
  lia
theorem Tf:∀ {os:List Int} {ns:List Nat},os.Perm (ns.map λm:Nat=>(m:Int))->os=(os.map Int.toNat).map λm:Nat=>(m:Int):=λ{os ns} h=>by
 rw [map_map]
 conv=>lhs; rw [← map_id os]
 refine anO λx hx=>?_
 obtain ⟨m,_,e⟩:=aea.mp (h.mem_iff.mp hx)
 show x=((x.toNat:Nat):Int)
 lia
section
def m9 (K:W.Frag):Sp:=λvs H Q _=>∃ (sh pl:Int) (a:Addr) (row:List Int),vs=[.int sh,.int pl,.ref a]/\ak K H a (row.map V.int)/\1<=sh/\row.length<=400 /\
 ∀ (l:Addr) (H':Hp) (os:List Nat),H l=none->aq H H'->H' l=some (.lst (mV os))->os.Perm (dY sh pl row)->os.Pairwise (·<=·)->Q (.ref l) H'
theorem Wb (F:bK K "marks_of" "marks_of" yW f fd) (T:Txt K mg) (Dj:Def P w K mg base "places_by_shelf" 2 Hu (wo K)) (Dg:Def P w K mg base "least_marks" 2 G6 (wz K)):aD P w K mg base bB 3 f fd BO (m9 K):=by
 refine F.ok gc (λvs H Q E h=>?_) (λcdv A outer st H vs Q E hr h=>?_)
 .obtain ⟨sh,pl,a,row,rfl,_⟩:=h
  rfl
 obtain ⟨sh,pl,a,row,rfl,hS,hs0,hl,k⟩:=h
 have nd:=gc.nd
 refine ⟨_,(Zd (bA 3 nd (ZI Zc))
   (Zd (kq aW3 rfl (Ue (Zl Dj hr.m rfl (pc (pv 0) (pc (pv 2) Zc)))) (bD 4 nd) (Zd (vz 5 (Zv (cj:=(Zg yW)) (oN:=cR) (N:=["spot", "row"]) (own:=1) (js:=[2]) (by decide +kernel) rfl rfl) rfl nd rfl rfl (ZL (K:=K) rfl (pv 4)) (λ_ _ _ _ _ _=>(bD 0 (show List.Nodup (["spot", "row"]:List Str) by decide +kernel))) (λ_ _ _ _ _ _=>(aA (Zo (K:=K) rfl) (pv 1) (pv 0) (λ_ _=>rfl))))
   (Zj (Fe (i:=3) nd rfl (by first | exact Or.inl rfl | exact Or.inr rfl) (oG (Zv (cj:=(Zg yW)) (oN:=cR) (N:=["at", "spots"]) (own:=1) (js:=[4]) (by decide +kernel) rfl rfl) rfl (ZL (K:=K) rfl (Zl Dg hr.m rfl (pc (ah ko (pv 1) Zi) (pc (pv 5) Zc)))) (λ_ _ _ _ _ _=>(bD 0 (show List.Nodup (["at", "spots"]:List Str) by decide +kernel))) (λ_ _ _ _ _ _=>(aA (Zo (K:=K) rfl) (pv 1) (pv 0) (λ_ _=>rfl)))) RD))))
   (Zj (Zq (Zk (Wv (K:=K) rfl) rfl T.zJ PyProof.Rows.boot_sorted (pc (pv 3) Zc)))))),?_⟩
 refine ⟨(sl 0),λlm pS=>gN ?_⟩
 have s0:=Zf (H:=H) pS (.lst [])
 have e0:upd H lm (.lst []) lm=some (.lst []):=Za
 generalize upd H lm (.lst [])=H0 at *
 refine ⟨_,rfl,_,rfl,sh,a,row,rfl,s0.seq hS,hs0,hl,λd H1 L hd s1 B nw=>⟨d,_,rfl,B.top,λo=>?_⟩⟩
 obtain ⟨k1,k2,k3⟩:=p6 sh row row.length (avG _)
 rw [aqK] at k1 k2 k3
 have bk:=B.ks
 rw [aqK] at bk
 have fz:∀ x o',H1 x=some o'->x≠d->upd H1 d (.bC o (.dK (L.map jh))) x=some o':=λx o' e n=>by rw [Ze n]; exact e
 have sF:aq H (upd H1 d (.bC o (.dK (L.map jh)))):=λx o' e=>fz x o' (s1 _ _ (s0 _ _ e)) (Zb (s0 _ _ e) hd)
 have Iz:lm≠d:=Zb e0 hd
 have em:upd H1 d (.bC o (.dK (L.map jh))) lm=some (.lst []):=fz _ _ (s1 _ _ e0) Iz
 have el:∀ p∈L,upd H1 d (.bC o (.dK (L.map jh))) p.2=some (.lst (mV (aV sh row row.length p.1))):=λp hp=>fz _ _ (B.at' p hp) λz=>by
  have h:=B.at' p hp
  rw [z,B.top] at h; cases h
 have ed:upd H1 d (.bC o (.dK (L.map jh))) d=some (.bC o (.dK (L.map jh))):=Za
 have DE:∀ p∈L,p.2≠lm:=λp hp z=>by
  have h:=nw p hp
  rw [z,e0] at h; cases h
 generalize upd H1 d (.bC o (.dK (L.map jh)))=H2 at *
 refine U8 (d:=d) (o:=o) (kvs:=L.map jh) (λi σ G=>∃ (v4 v5:Option V),σ=[some (.int sh),some (.int pl),some (.ref a),some (.ref lm),v4,v5]/\G lm=some (.lst (mV (((cJ sh row).take i).flatMap (i7 sh pl row))))/\∀ x o',H2 x=some o'->x≠lm->G x=some o')
  ⟨none,none,rfl,em,λx o' e _=>e⟩ (λi σ G _ ⟨_,_,_,_,s⟩=>s _ _ ed (aay Iz)) ?_ ?_
 .rintro i k' v σ G hkv ⟨v4,v5,rfl,gm,sg⟩
  rw [bdd] at hkv
  cases eL:L[i]? with
  | none=>rw [eL] at hkv; cases hkv
  | some p =>
   rw [eL] at hkv
   cases hkv
   have hp:=aVV eL
   have ei:(cJ sh row)[i]?=some p.1:=by rw [← bk,bdd,eL]; rfl
   have gp:=sg _ _ (el p hp) (DE p hp)
   have zT:aq H G:=λx o' e=>sg _ _ (sF _ _ e) (Zb e pS)
   obtain ⟨s,ad⟩:=p
   dsimp only [jh] at *
   refine gN ⟨_,rfl,ad,rfl,⟨_,ak.of gp⟩,λla hla=>?_⟩
   have N5:∀ x∈aV sh row row.length s,x<row.length:=λx hx=>a1N.mp (apP.mp hx).1
   have XJ:(aV sh row row.length s).length<=row.length:=by have:=K5 sh row row.length s; unfold mV at this; rwa [aH5] at this
   have at':∀ x,x<row.length->cY (row.map V.int) (x:Int)=some (.int (row.getD x 0)):=λx hx=>ZX (by rw [bdd,aeu,a8w hx]; rfl)
   have ask:aF sh row s=(aV sh row row.length s).map λi=>row.getD i 0:=rfl
   have OZ:i7 sh pl row s=(gu (pl - 1) (aF sh row s)).map λx=>(aV sh row row.length s).getD x 0:=rfl
   have Pe:=fF (pl - 1) (aF sh row s)
   have XO:=EV (pl - 1) (aF sh row s)
   have Pf:(aF sh row s).length=(aV sh row row.length s).length:=by rw [ask,aH5]
   have HY:(cJ sh row).take (i+1)=(cJ sh row).take i++[s]:=by rw [aK1,ei]; rfl
   have ym:=Fy (sh:=sh) (pl:=pl) (row:=row) ((cJ sh row).take (i+1)) (k1.sublist (List.take_sublist ..))
   rw [HY,List.flatMap_append,aIt] at ym
   have yf:[s].flatMap (i7 sh pl row)=i7 sh pl row s:=by simp
   rw [yf] at ym
   generalize aV sh row row.length s=sp at *
   have lV:(mV sp).length=sp.length:=aH5 ..
   have O4:∀ {j:Nat} {x:V},(mV sp)[j]?=some x->∃ y,sp[j]?=some y/\x=.int (y:Int):=λ{j x} h=>by
    unfold mV at h
    rw [bdd] at h
    cases e:sp[j]? with
    | none=>rw [e] at h; cases h
    | some y=>rw [e] at h; exact ⟨y,rfl,(bcC h).symm⟩
   refine ZH (K:=K) (a:=ad) (xs:=mV sp) (l:=la) (λj ys σ' G'=>∃ (v0:Option V),σ'=[v0,some (.ref a)]/\ys=((sp.take j).map λi=>row.getD i 0).map V.int/\G'=upd G la (.lst ys))
    ⟨none,rfl,rfl,rfl⟩ (λj ys σ' G' _ ⟨_,_,_,q⟩=>ak.of (by rw [q,Ze (Zb gp hla)]; exact gp)) ?_ ?_
   .rintro j x ys σ' G' hj ic hys ⟨v0,rfl,rfl,rfl⟩
    obtain ⟨y,ey,rfl⟩:=O4 ic
    refine ⟨_,rfl,_,rfl,a,_,_,_,rfl,rfl,(zT.trans (Zf hla _)).seq hS,at' y (N5 y (aVV ey)),dU.of (by rw [lV]; exact aM8 (Zn (by lia))) hj hys Za ⟨_,rfl,?_,tY⟩⟩
    rw [aK1,ey]
    simp
   rintro ys σ' G' _ ⟨v0,rfl,rfl,rfl⟩
   rw [lV,aqK,← ask]
   have s2:=Zf (H:=G) hla (.lst ((aF sh row s).map V.int))
   have ea:upd G la (.lst ((aF sh row s).map V.int)) la=some (.lst ((aF sh row s).map V.int)):=Za
   generalize upd G la (.lst ((aF sh row s).map V.int))=G1 at *
   have Jk:=s2 _ _ gm
   refine gN ⟨_,rfl,_,rfl,_,_,rfl,rfl,_,rfl,pl - 1,la,aF sh row s,rfl,ak.of ea,by lia,λlb G2 hlb t2 eb=>⟨lb,rfl,⟨_,ak.of eb⟩,λlz sN=>?_⟩⟩
   have lW:(mV (gu (pl - 1) (aF sh row s))).length=(gu (pl - 1) (aF sh row s)).length:=aH5 ..
   generalize gu (pl - 1) (aF sh row s)=bs at *
   have O5:∀ {j:Nat} {x:V},(mV bs)[j]?=some x->∃ y,bs[j]?=some y/\x=.int (y:Int):=λ{j x} h=>by
    unfold mV at h
    rw [bdd] at h
    cases e:bs[j]? with
    | none=>rw [e] at h; cases h
    | some y=>rw [e] at h; exact ⟨y,rfl,(bcC h).symm⟩
   have Qk:=t2 _ _ (s2 _ _ gp)
   refine ZH (K:=K) (a:=lb) (xs:=mV bs) (l:=lz) (λj ys σ' G'=>∃ (v0:Option V),σ'=[v0,some (.ref ad)]/\ys=mV ((bs.take j).map λx=>sp.getD x 0)/\G'=upd G2 lz (.lst ys))
    ⟨none,rfl,rfl,rfl⟩ (λj ys σ' G' _ ⟨_,_,_,q⟩=>ak.of (by rw [q,Ze (Zb eb sN)]; exact eb)) ?_ ?_
   .rintro j x ys σ' G' hj ic hys ⟨v0,rfl,rfl,rfl⟩
    obtain ⟨y,ey,rfl⟩:=O5 ic
    have ly:y<sp.length:=by rw [← Pf]; exact Pe y (aVV ey)
    refine ⟨_,rfl,_,rfl,ad,_,_,_,rfl,rfl,ak.of (Zf sN _ _ _ Qk),ZX (xs:=mV sp) (v:=.int ((sp.getD y 0:Nat):Int)) (by unfold mV; rw [bdd,aeu,a8w ly]; rfl),dU.of (by rw [lW]; exact aM8 (Zn (by lia))) hj hys Za ⟨_,rfl,?_,tY⟩⟩
    rw [aK1,ey,auU,yv]
    rfl
   rintro ys σ' G' _ ⟨v0,rfl,rfl,rfl⟩
   rw [lW,aqK,← OZ]
   have s3:=Zf (H:=G2) sN (.lst (mV (i7 sh pl row s)))
   have ez:upd G2 lz (.lst (mV (i7 sh pl row s))) lz=some (.lst (mV (i7 sh pl row s))):=Za
   have XS:lm≠lz:=Zb (t2 _ _ Jk) sN
   generalize upd G2 lz (.lst (mV (i7 sh pl row s)))=G3 at *
   have Ql:=s3 _ _ (t2 _ _ Jk)
   refine ⟨lm,lz,_,_,rfl,rfl,Ql,ez,?_,⟨_,_,rfl,?_,λx o' e n=>?_⟩⟩
   .unfold mV
    rw [aH5,aH5]
    exact aM8 (Zn (by lia))
   .rw [Za,HY,List.flatMap_append,yf,yv]
   .rw [Ze n]
    exact s3 _ _ (t2 _ _ (s2 _ _ (sg _ _ e n)))
 .rintro σ G ⟨v4,v5,rfl,gm,sg⟩
  have lL:(L.map jh).length=(cJ sh row).length:=by rw [aH5,← bk,aH5]
  rw [lL,aqK] at gm
  have cl:=Fy (sh:=sh) (pl:=pl) (row:=row) (cJ sh row) k1
  have e9:(cJ sh row).flatMap (i7 sh pl row)=dY sh pl row:=rfl
  rw [e9] at gm cl
  have zT:aq H G:=λx o' e=>sg _ _ (sF _ _ e) (Zb e pS)
  have Qm:G lm=some (.lst (((dY sh pl row).map λm:Nat=>(m:Int)).map V.int)):=by rw [gm,map_map]; rfl
  refine ⟨_,rfl,lm,_,rfl,ak.of Qm,by rw [aH5]; lia,λD os hD hp hw=>?_⟩
  have eo:=Tf hp
  have hp2:(os.map Int.toNat).Perm (dY sh pl row):=by
   have q:=hp.map Int.toNat
   rw [map_map] at q
   refine q.trans (List.Perm.of_eq ?_)
   conv=>rhs; rw [← map_id (dY sh pl row)]
   exact anO λx _=>rfl
  refine k D _ (os.map Int.toNat) (zT.free hD) (zT.trans (Zf hD _)) ?_ hp2 ?_
  .rw [Za]
   conv=>lhs; rw [eo]
   rw [map_map]
   rfl
  .rw [List.pairwise_map]
   exact hw.imp λ{a b} h=>by lia
end
theorem LQ (f:Nat->List Int):∀ k,argBest (λi j=>HT.lexLt (f i) (f j)) k<=k/\∀ j,j<=k->HT.lexLt (f j) (f (argBest (λi j=>HT.lexLt (f i) (f j)) k))=false
 | 0=>⟨avG _,λj hj=>by
   have:j=0:=by lia
   subst this; exact tW _⟩
 | k+1=>by
  obtain ⟨h1,h2⟩:=LQ f k
  unfold argBest
  by_cases c:HT.lexLt (f (k+1)) (f (argBest (λi j=>HT.lexLt (f i) (f j)) k))=true
  .rw [aHZ c]
   refine ⟨avG _,λj hj=>?_⟩
   by_cases e:j=k+1
   .subst e; exact tW _
   .cases q:HT.lexLt (f j) (f (k+1)) with
    | false=>rfl
    | true =>
     have:=Bh q c
     rw [h2 j (by lia)] at this; cases this
  .rw [bd2 c]
   refine ⟨by lia,λj hj=>?_⟩
   by_cases e:j=k+1
   .subst e; simpa using c
   .exact h2 j (by lia)
theorem K3 {again au:List Int} {n:Nat} {p:Int×Int} (h:p∈fU again au n):(iF again au n).1<=p.1:=by
 obtain ⟨j,hj,rfl⟩:=getElem_of_mem h
 have hm:=AY again au n
 have bl:=JX (l:=fU again au n) (by rw [Fz]; lia)
 have at':∀ i (h:i<(fU again au n).length),((fU again au n).map nD).getD i []=nD (fU again au n)[i]:=λi h=>by
  rw [aeu,bdd,a8w h]; rfl
 have q:=(LQ (λi=>((fU again au n).map nD).getD i []) ((fU again au n).length - 1)).2 j (by lia)
 have e:argBest (λi j=>HT.lexLt (((fU again au n).map nD).getD i []) (((fU again au n).map nD).getD j [])) ((fU again au n).length - 1)=lZ (fU again au n):=rfl
 rw [e,at' j hj,at' _ bl] at q
 rw [a8w bl] at hm
 rw [bcC hm] at q
 unfold nD at q
 rw [HT.aO] at q
 by_cases c:(fU again au n)[j].1=(iF again au n).1
 .lia
 .rw [bd2 c] at q
  have:=of_decide_eq_false q
  lia
def Mn (again:List Int) (ay:Int) (i:Nat):Int:=(iF again (bU again ay i).1 i).1
def An (again:List Int) (ay:Int) (i:Nat):Int:=(iF again (bU again ay i).1 i).2
theorem kX (again:List Int) (ay:Int):∀ n i,i<n->(bU again ay n).1.getD i 0=Mn again ay i+ay/\(bU again ay n).2.getD i (-1)=An again ay i
 | 0,i,h=>by lia
 | n+1,i,h=>by
  obtain ⟨l1,l2⟩:=yu again ay n
  rw [JW,EY,aeu,aeu]
  by_cases c:i<n
  .rw [aZu (by lia),aZu (by lia),← aeu,← aeu]
   exact kX again ay n i c
  .have e:i=n:=by lia
   subst e
   rw [arE (by lia),arE (by lia),l1,l2,aGA]
   exact ⟨rfl,rfl⟩
def i9 (again:List Int) (ay:Int):List Nat->Nat->Int
 | [],n=>(iA again n n:Int)
 | x :: l,n=>(iA again n (n - x):Int)+ay+i9 again ay l x
def qk:List Nat->Nat->Prop
 | [],_=>True
 | x :: l,n=>x<n/\qk l x
theorem EH {again:List Int} {ay:Int} {n x:Nat} (h:x<n):((Mn again ay x+ay+(iA again n (n - x):Int)),(x:Int))∈fU again (bU again ay n).1 n:=by
 unfold fU
 refine a3r _ (aea.mpr ⟨n - 1 - x,a1N.mpr (by lia),?_⟩)
 unfold tG
 rw [show n - 1 - (n - 1 - x)=x by lia,show n - 1 - x+1=n - x by lia,(kX again ay n x h).1]
theorem K2 {again:List Int} {ay:Int}:∀ (l:List Nat) (n:Nat),qk l n->Mn again ay n<=i9 again ay l n
 | [],n,_=>K3 (p:=((iA again n n:Int),-1)) (aaD _ (adl.mpr rfl))
 | x :: l,n,⟨h1,h2⟩=>by
  have a:=K2 l x h2 (again:=again) (ay:=ay)
  have b:Mn again ay n<=_:=K3 (EH (again:=again) (ay:=ay) h1)
  unfold i9
  dsimp only at b
  lia
theorem Rt {again:List Int} {ay:Int} {N:Nat}:∀ (n:Nat),n<N->∀ f,n<=f->Mn again ay n=i9 again ay (jk (bU again ay N).2 f (An again ay n)) n/\qk (jk (bU again ay N).2 f (An again ay n)) n:=by
 intro n
 induction n using Nat.strongRecOn with
 | ind n ih =>
  intro hN f hf
  have hm:=aVV (AY again (bU again ay n).1 n)
  have hA:=Gx again (bU again ay n).1 n
  have eM:Mn again ay n=(iF again (bU again ay n).1 n).1:=rfl
  have eA:An again ay n=(iF again (bU again ay n).1 n).2:=rfl
  generalize iF again (bU again ay n).1 n=p at *
  unfold fU at hm
  rcases bbY.mp hm with hm | hm
  .obtain ⟨d,hd,rfl⟩:=aea.mp hm
   have hd:=a1N.mp hd
   unfold tG at eM eA
   dsimp only at eM eA
   obtain ⟨x,ex⟩:∃ x,x=n - 1 - d:=⟨_,rfl⟩
   rw [← ex] at eM eA
   have hx:x<n:=by lia
   rw [eA]
   obtain ⟨f',rfl⟩:∃ f',f=f'+1:=⟨f - 1,by lia⟩
   rw [AX,aHZ (by lia),show ((x:Int)).toNat=x from rfl,(kX again ay N x (by lia)).2]
   obtain ⟨i1,i2⟩:=ih x hx (by lia) f' (by lia)
   refine ⟨?_,hx,i2⟩
   unfold i9
   rw [eM,(kX again ay n x hx).1,show d+1=n - x by lia,← i1]
   lia
  .rw [adl.mp hm] at eM eA
   rw [eA,eM]
   have e0:jk (bU again ay N).2 f (-1)=[]:=by
    cases f with
    | zero=>rfl
    | succ f=>rw [AX,bd2 (by decide)]
   rw [e0]
   exact ⟨rfl,trivial⟩
theorem HZ {q:Nat->Bool}:∀ {n t:Nat},t<n->(List.range n).countP (λi=>decide (t<=i) && q i)=(List.range n).countP (λi=>decide (t+1<=i) && q i)+(if q t=true then 1 else 0)
 | 0,t,h=>by lia
 | n+1,t,h=>by
  rw [aCe,aH7,aH7,aj1,aj1]
  by_cases c:t<n
  .rw [HZ c,aPy (by lia:t<=n),aPy (by lia:t+1<=n)]
   lia
  .have e:t=n:=by lia
   subst e
   have z:∀ p:Nat->Bool,(∀ i,i<t->p i=false)->(List.range t).countP p=0:=λp hp=>by
    rw [a33]
    intro i hi w
    rw [hp i (a1N.mp hi)] at w; cases w
   rw [z _ λi hi=>by rw [aXf (by lia:¬ t<=i),az0],z _ λi hi=>by rw [aXf (by lia:¬ t+1<=i),az0],aPy (avG t),aXf (by lia:¬ t+1<=t)]
   simp
theorem cut {p:Nat->Bool} {x:Nat}:∀ {n:Nat},x<=n->(List.range n).countP p=(List.range x).countP p+(List.range n).countP (λi=>decide (x<=i) && p i)
 | 0,h=>by
  have:x=0:=by lia
  subst this; rfl
 | n+1,h=>by
  by_cases c:x<=n
  .rw [aCe,aH7,aH7,cut c,aj1,aj1,aPy c,Bool.true_and]
   lia
  .have e:x=n+1:=by lia
   subst e
   have:(List.range (n+1)).countP (λi=>decide (n+1<=i) && p i)=0:=by
    rw [a33]
    intro i hi w
    have:=a1N.mp hi
    rw [aXf (by lia:¬ n+1<=i)] at w; cases w
   lia
theorem mP {row:List Int} {n:Nat} (hn:n<=row.length):∀ k,k<=n->iA (Zw row) n k=(List.range n).countP λi=>decide (n - k<=i) && decide (bz row i<=(n:Int))
 | 0,_=>by
  have:(List.range n).countP (λi=>decide (n - 0<=i) && decide (bz row i<=(n:Int)))=0:=by
   rw [a33]
   intro i hi w
   have:=a1N.mp hi
   rw [aXf (by lia:¬ n - 0<=i)] at w; cases w
  rw [this]; rfl
 | k+1,h=>by
  have ag:(Zw row).getD (n - 1 - k) 0=bz row (n - 1 - k):=by rw [aeu,Mz row (by lia)]; rfl
  rw [LR,mP hn k (by lia),ag,show n - (k+1)=n - 1 - k by lia,HZ (t:=n - 1 - k) (by lia),show n - 1 - k+1=n - k by lia]
  simp only [acz]
def cI (row:List Int) (l:List Nat) (n:Nat):Nat:=(List.range n).countP λi=>decide (bz row i<=(n:Int)) && !dw 1 row l i (bz row i).toNat
theorem om (row:List Int) (i j m:Nat):eX 1 row i j m=(decide (i<m) && decide (m<j)):=by
 unfold eX
 rw [Int.emod_one,Int.emod_one,aPy rfl,Bool.and_true]
theorem K1 {row:List Int} {ay:Int}:∀ (l:List Nat) (n:Nat),n<=row.length->qk l n->i9 (Zw row) ay l n=ay * l.length+(cI row l n:Int)
 | [],n,hn,_=>by
  unfold i9 cI
  rw [mP hn n (avG _)]
  show _=ay * ((0:Nat):Int)+_
  rw [show (((0:Nat):Int))=0 from rfl,Int.mul_zero,aX2]
  congr 2
  funext i
  rw [aPy (by lia:n - n<=i),Bool.true_and]
  show _=(_ && !(List.any [] _))
  simp
 | x :: l,n,hn,⟨h1,h2⟩=>by
  have ih:=K1 (row:=row) (ay:=ay) l x (by lia) h2
  have lt:∀ {l:List Nat} {n:Nat},qk l n->∀ y∈l,y<n:=by
   intro l
   induction l with
   | nil=>exact λ_ y hy=>nomatch hy
   | cons z l ih =>
    intro n ⟨d1,d2⟩ y hy
    rcases aDl.mp hy with rfl | hy
    .exact d1
    .have:=ih d2 y hy; lia
  have e:cI row (x :: l) n=cI row l x+iA (Zw row) n (n - x):=by
   unfold cI
   rw [cut (x:=x) (by lia),mP hn (n - x) (by lia),show n - (n - x)=x by lia]
   congr 1
   .refine aoq λi hi=>?_
    have hi:=a1N.mp hi
    have ge:=E1 (row:=row) (i:=i)
    have em:dw 1 row (x :: l) i (bz row i).toNat=(eX 1 row i (bz row i).toNat x || dw 1 row l i (bz row i).toNat):=rfl
    rw [em,om,aPy hi,Bool.true_and]
    by_cases c:bz row i<=(x:Int)
    .rw [aPy c,aPy (by lia:bz row i<=(n:Int)),aXf (by lia:¬ x<(bz row i).toNat)]
     simp
    .rw [aXf c,aPy (by lia:x<(bz row i).toNat)]
     simp
   .refine aoq λi hi=>?_
    by_cases c:x<=i
    .have em:dw 1 row (x :: l) i (bz row i).toNat=false:=by
      unfold dw
      rw [any_eq_false]
      intro y hy w
      have:y<=x:=(aDl.mp hy).elim (λz=>by lia) λz=>by have:=lt h2 y z; lia
      rw [om,aXf (by lia:¬ i<y)] at w; cases w
     rw [em]; simp
    .rw [aXf c]; simp
  unfold i9
  rw [ih,e,aRy,Int.natCast_succ,Int.mul_add,Int.mul_one]
  lia
theorem K0 (sh pl:Int) (row:List Int) (l:List Nat):aN sh pl row l.reverse=aN sh pl row l:=by
 unfold aN
 rw [aKp]
 congr 3
 funext i
 unfold jP dw
 rw [List.any_reverse]
theorem KZ {row:List Int} {ay:Int} {l:List Nat} {n:Nat} (hn:row.length=n+1) (h:qk l n):aN 1 (ay+1) row l=i9 (Zw row) ay l n:=by
 rw [K1 l n (by lia) h]
 unfold aN cI
 rw [show ay+1 - 1=ay by lia]
 congr 2
 rw [hn,aCe,aH7,aj1]
 have e:jP 1 row l n=false:=by
  unfold jP
  have:bz row n=(row.length:Int):=by unfold bz; exact A7 (by lia)
  rw [aXf (by lia),az0]
 rw [e,bd2 aCK,a04]
 refine aoq λi _=>?_
 unfold jP
 rw [show decide (bz row i<(row.length:Int))=decide (bz row i<=(n:Int)) from aE1.mpr (by lia)]
theorem BK {p:Nat->Bool}:∀ n,qk ((List.range n).filter p).reverse n
 | 0=>trivial
 | n+1=>by
  rw [aCe,azg,bab,amZ,filter_nil]
  have up:∀ {l:List Nat} {a b:Nat},a<=b->qk l a->qk l b:=λ{l a b} h d=>by
   cases l with
   | nil=>trivial
   | cons x l=>exact ⟨aMc d.1 h,d.2⟩
  split
  .exact ⟨ayu _,BK n⟩
  .exact up (aa0 _) (BK n)
theorem LP {row:List Int} {ay:Int} (hf:0<=ay) (xs:List Nat):aN 1 (ay+1) row (gu ay row)<=aN 1 (ay+1) row xs:=by
 cases hn:row.length with
 | zero =>
  have e0:∀ l,aN 1 (ay+1) row l=ay * l.length:=λl=>by
   unfold aN
   rw [hn,show ay+1 - 1=ay by lia]
   simp
  have:(gu ay row).length=0:=by have:=EV ay row; lia
  rw [e0,e0,this]
  show ay * ((0:Nat):Int)<=_
  rw [show (((0:Nat):Int))=0 from rfl,Int.mul_zero]
  exact Int.mul_nonneg hf (by lia)
 | succ n =>
  have h1:aN 1 (ay+1) row (gu ay row)=Mn (Zw row) ay n:=by
   unfold gu
   rw [K0]
   have em:lN (bU (Zw row) ay row.length).2=An (Zw row) ay n:=by
    unfold lN
    rw [hn,EY,List.getLast?_append]
    rfl
   obtain ⟨g1,g2⟩:=Rt (again:=Zw row) (ay:=ay) (N:=row.length) n (by lia) row.length (by lia)
   rw [em,KZ hn g2,← g1]
  have h2:=K2 (again:=Zw row) (ay:=ay) _ n (BK (p:=λi=>decide (i∈xs)) n)
  rw [← KZ hn (BK n)] at h2
  rw [h1]
  refine aJd h2 ?_
  rw [K0]
  unfold aN
  have hl:((List.range n).filter λi=>decide (i∈xs)).length<=xs.length:=AO (List.nodup_range.sublist a9R) λx hx=>aTw (apP.mp hx).2
  have hm:ay * ((((List.range n).filter λi=>decide (i∈xs)).length:Nat):Int)<=ay * (xs.length:Int):=Int.mul_le_mul_of_nonneg_left (by lia) hf
  have hc:(List.range row.length).countP (jP 1 row ((List.range n).filter λi=>decide (i∈xs)))=(List.range row.length).countP (jP 1 row xs):=by
   refine aoq λi hi=>?_
   unfold jP
   by_cases c:bz row i<(row.length:Int)
   .have ge:=E1 (row:=row) (i:=i)
    have:dw 1 row ((List.range n).filter λi=>decide (i∈xs)) i (bz row i).toNat=dw 1 row xs i (bz row i).toNat:=by
     unfold dw
     rw [aZg,abT,abT]
     constructor
     .rintro ⟨x,hx,h⟩
      exact ⟨x,aTw (apP.mp hx).2,h⟩
     .rintro ⟨x,hx,h⟩
      have h':=h
      rw [om] at h'
      obtain ⟨_,h3⟩:=(asO _ _).mp h'
      have:=aTw h3
      exact ⟨x,apP.mpr ⟨a1N.mpr (by lia),aPy hx⟩,h⟩
    rw [this]
   .rw [aXf c]; simp
  rw [hc,show ay+1 - 1=ay by lia]
  lia
theorem KY {t:Int} {a:Int->Nat} {c:Nat}:∀ {ks:List Int},ks.Nodup->t∈ks->(ks.map λs=>a s+(if t=s then c else 0)).sum=(ks.map a).sum+c
 | [],_,h=>nomatch h
 | s :: ks,nd,h=>by
  obtain ⟨n1,n2⟩:=aHW.mp nd
  rw [ar3,ar3,a12,a12]
  by_cases e:t=s
  .have:(ks.map λs=>a s+(if t=s then c else 0))=ks.map a:=anO λu hu=>by rw [bd2 (λz=>n1 (by rw [← e,z]; exact hu)),a04]
   rw [this,aHZ e]; lia
  .have:=KY (a:=a) (c:=c) n2 ((aDl.mp h).resolve_left e)
   rw [this,bd2 e]; lia
theorem pL {sh:Int} {row:List Int} {ks:List Int} (nd:ks.Nodup) (f:Nat->Bool):∀ n,(∀ i,i<n->row.getD i 0 % sh∈ks)->(List.range n).countP f=(ks.map λs=>(aV sh row n s).countP f).sum
 | 0,_=>by
  have:∀ ks:List Int,(ks.map λs=>(aV sh row 0 s).countP f).sum=0:=λks=>by
   induction ks with
   | nil=>rfl
   | cons s ks ih=>rw [ar3,a12,ih]; rfl
  rw [this]; rfl
 | n+1,h=>by
  rw [aCe,aH7,pL nd f n λi hi=>h i (by lia),aj1,← KY nd (h n (by lia))]
  congr 1
  refine anO λs _=>?_
  rw [Bp,aH7]
  by_cases c:row.getD n 0 % sh=s
  .rw [aHZ c,aHZ c,aj1]
  .rw [bd2 c,bd2 c]; rfl
theorem KW (l:List Nat) (f:Nat->Bool):l.countP f=(List.range l.length).countP λx=>f (l.getD x 0):=by
 have e:l=(List.range l.length).map λx=>l.getD x 0:=by
  apply aNj
  intro i
  by_cases h:i<l.length
  .rw [bdd,aEb h,a8w h,aGg,aeu,a8w h]; rfl
  .rw [aAl (by lia),aAl (by rw [aH5,aqI]; lia)]
 conv=>lhs; rw [e,List.countP_map]
 rfl
section
variable {sh:Int} {row:List Int} {s:Int}
theorem gT {x:Nat} (h:x<(aV sh row row.length s).length):(aV sh row row.length s).getD x 0<row.length/\row.getD ((aV sh row row.length s).getD x 0) 0 % sh=s:=by
 have m:(aV sh row row.length s).getD x 0∈aV sh row row.length s:=by rw [aeu,a8w h]; exact aSd h
 obtain ⟨h1,h2⟩:=apP.mp m
 exact ⟨a1N.mp h1,aTw h2⟩
theorem cG {x y:Nat} (h:y<(aV sh row row.length s).length) (hxy:x<y):(aV sh row row.length s).getD x 0<(aV sh row row.length s).getD y 0:=by
 have pw:(aV sh row row.length s).Pairwise (·<·):=aL9 a9R List.pairwise_lt_range
 have:=bcW.mp pw x y (by lia) h hxy
 rw [aeu,aeu,a8w h,a8w (by lia:x<_)]
 exact this
theorem m6 {p:Nat} (h:p<row.length) (e:row.getD p 0 % sh=s):∃ x,x<(aV sh row row.length s).length/\(aV sh row row.length s).getD x 0=p:=by
 have m:p∈aV sh row row.length s:=apP.mpr ⟨a1N.mpr h,aPy e⟩
 obtain ⟨x,hx,q⟩:=getElem_of_mem m
 exact ⟨x,hx,by rw [aeu,a8w hx]; exact q⟩
theorem uW {x:Nat} (h:x<(aV sh row row.length s).length):(aF sh row s).getD x 0=row.getD ((aV sh row row.length s).getD x 0) 0:=by
 have e:(aV sh row row.length s).getD x 0=(aV sh row row.length s)[x]:=by rw [aeu,a8w h]; rfl
 rw [e]
 unfold aF
 rw [aeu,bdd,a8w h]
 rfl
theorem Te {row:List Int} {i j:Nat} (h1:i<j) (h2:j<row.length) (h3:row.getD j 0=row.getD i 0) (h4:∀ k,i<k->k<j->row.getD k 0≠row.getD i 0):bz row i=(j:Int) :=
 AM h2 (J2 h1 h3.symm λk k1 k2=>by rw [h3]; exact h4 k k1 k2)
theorem Td {row:List Int} {i:Nat} (hi:i<row.length) (h:∀ k,i<k->k<row.length->row.getD k 0≠row.getD i 0):bz row i=(row.length:Int):=by
 rcases uX (row:=row) (b:=row.getD i 0) (row.length - (i+1)) (i+1) (by lia) with ⟨h1,_⟩ | ⟨j,h1,h2,h3,h4,h5⟩
 .exact h1
 .exact absurd h4 (h j (by lia) h2)
theorem ye {ms js:List Nat} (hm:∀ z,z<(aV sh row row.length s).length->(z∈js↔(aV sh row row.length s).getD z 0∈ms)) (hj:∀ z∈js,z<(aV sh row row.length s).length) (hr:∀ z∈ms,z<row.length) {x:Nat} (hx:x<(aV sh row row.length s).length):jP sh row ms ((aV sh row row.length s).getD x 0)=jP 1 (aF sh row s) js x:=by
 have la:(aF sh row s).length=(aV sh row row.length s).length:=by unfold aF; rw [aH5]
 have hp:=gT hx
 unfold jP
 by_cases c:bz (aF sh row s) x<((aF sh row s).length:Int)
 .obtain ⟨y,e1,h1,h2,h3,h4⟩:=AN (by lia) c
  rw [la] at h2
  obtain ⟨_,_,h5⟩:=qe h4
  rw [uW h2,uW hx] at h3
  have e2:bz row ((aV sh row row.length s).getD x 0)=((aV sh row row.length s).getD y 0:Nat):=Te (cG h2 h1) (gT h2).1 h3 λk k1 k2 e=>by
   obtain ⟨z,hz,ez⟩:=m6 (sh:=sh) (row:=row) (s:=s) (p:=k) (by have:=(gT h2).1; lia) (by rw [e]; exact hp.2)
   have z1:x<z:=by
    rcases abU x z with h | h | h
    .exact h
    .rw [h,ez] at k1; lia
    .have:=cG hx h; rw [ez] at this; lia
   have z2:z<y:=by
    rcases abU z y with h | h | h
    .exact h
    .rw [← h,ez] at k2; lia
    .have:=cG hz h; rw [ez] at this; lia
   refine h5 z z1 z2 ?_
   rw [uW hz,ez,uW h2,h3]
   exact e
  have q1:=(gT h2).1
  rw [e1,e2,aPy (by lia:(((aV sh row row.length s).getD y 0:Nat):Int)<(row.length:Int)),aPy (by lia:(y:Int)<((aF sh row s).length:Int))]
  congr 2
  show dw sh row ms _ ((aV sh row row.length s).getD y 0)=dw 1 (aF sh row s) js x y
  unfold dw
  rw [aZg,abT,abT]
  constructor
  .rintro ⟨m,xQ,w⟩
   obtain ⟨w1,w3⟩:=(asO _ _).mp w
   obtain ⟨w1,w2⟩:=(asO _ _).mp w1
   have w1:=aTw w1
   have w2:=aTw w2
   have w3:=aTw w3
   obtain ⟨z,hz,ez⟩:=m6 (s:=s) (hr m xQ) (by rw [w3]; exact hp.2)
   refine ⟨z,(hm z hz).mpr (by rw [ez]; exact xQ),?_⟩
   rw [om]
   have z1:x<z:=by
    rcases abU x z with h | h | h
    .exact h
    .rw [h,ez] at w1; lia
    .have:=cG hx h; rw [ez] at this; lia
   have z2:z<y:=by
    rcases abU z y with h | h | h
    .exact h
    .rw [← h,ez] at w2; lia
    .have:=cG hz h; rw [ez] at this; lia
   rw [aPy z1,aPy z2]; rfl
  .rintro ⟨z,hz,w⟩
   rw [om] at w
   obtain ⟨w1,w2⟩:=(asO _ _).mp w
   have w1:=aTw w1
   have w2:=aTw w2
   have zl:=hj z hz
   refine ⟨_,(hm z zl).mp hz,?_⟩
   unfold eX
   rw [aPy (cG zl w1),aPy (cG h2 w2),(gT zl).2,hp.2]
   simp
 .have e2:bz row ((aV sh row row.length s).getD x 0)=(row.length:Int):=Td hp.1 λk k1 k2 e=>by
   obtain ⟨z,hz,ez⟩:=m6 (s:=s) (p:=k) k2 (by rw [e]; exact hp.2)
   have z1:x<z:=by
    rcases abU x z with h | h | h
    .exact h
    .rw [h,ez] at k1; lia
    .have:=cG hx h; rw [ez] at this; lia
   rcases uX (row:=aF sh row s) (b:=(aF sh row s).getD x 0) ((aF sh row s).length - (x+1)) (x+1) (by lia) with ⟨_,q⟩ | ⟨j,_,j2,j3,_⟩
   .refine q z (by lia) (by lia) ?_
    rw [uW hz,uW hx,ez,e]
   .unfold bz at c
    lia
  rw [aXf c,e2,aXf (by lia:¬ (row.length:Int)<row.length)]
  rfl
end
theorem KU {a b:Int->Int}:∀ {ks:List Int},(∀ s∈ks,a s<=b s)->(ks.map a).sum<=(ks.map b).sum
 | [],_=>aB0 _
 | s :: ks,h=>by
  rw [ar3,ar3,a12,a12]
  have:=h s aTs
  have:=KU λt ht=>h t (akt _ ht)
  lia
theorem AW {ay:Int} {l c:Int->Nat}:∀ ks:List Int,(ks.map λs=>ay * (l s:Int)+(c s:Int)).sum=ay * (((ks.map l).sum:Nat):Int)+(((ks.map c).sum:Nat):Int)
 | []=>by simp
 | s :: ks=>by
  rw [ar3,ar3,ar3,a12,a12,a12,AW ks,Int.natCast_add,Int.natCast_add,Int.mul_add]
  lia
theorem GH {sh:Int} {row:List Int} {ms:List Nat} (J:Int->List Nat) (hr:∀ z∈ms,z<row.length) (hj:∀ s∈cJ sh row,(∀ z∈J s,z<(aV sh row row.length s).length)/\∀ z,z<(aV sh row row.length s).length->(z∈J s↔(aV sh row row.length s).getD z 0∈ms)) :
  (List.range row.length).countP (jP sh row ms)=((cJ sh row).map λs=>(List.range (aF sh row s).length).countP (jP 1 (aF sh row s) (J s))).sum:=by
 obtain ⟨k1,k2,_⟩:=p6 sh row row.length (avG _)
 rw [aqK] at k1 k2
 rw [pL k1 _ row.length λi hi=>(k2 _).mpr ⟨i,hi,rfl⟩]
 congr 1
 refine anO λs hs=>?_
 rw [KW]
 have la:(aF sh row s).length=(aV sh row row.length s).length:=by unfold aF; rw [aH5]
 rw [la]
 refine aoq λx hx=>?_
 rw [ye (hj s hs).2 (hj s hs).1 hr (a1N.mp hx)]
theorem Tc {sh pl:Int} {row:List Int} {os ms:List Nat} (hp:1<=pl) (ho:os.Perm (dY sh pl row)) (hr:∀ z∈ms,z<row.length):aN sh pl row os<=aN sh pl row ms:=by
 have so:∀ z∈os,z<row.length:=λz hz=>by
  obtain ⟨s,_,hs⟩:=bbV.mp (ho.mem_iff.mp hz)
  exact (tU hs).1
 obtain ⟨k1,k2,_⟩:=p6 sh row row.length (avG _)
 rw [aqK] at k1 k2
 have la:∀ s,(aF sh row s).length=(aV sh row row.length s).length:=λs=>by unfold aF; rw [aH5]
 have c1:=GH (sh:=sh) (row:=row) (ms:=os) (λs=>gu (pl - 1) (aF sh row s)) so λs hs=>by
  refine ⟨λz hz=>by rw [← la]; exact fF _ _ z hz,λz hz=>?_⟩
  rw [ho.mem_iff]
  constructor
  .exact λh=>bbV.mpr ⟨s,hs,aea.mpr ⟨z,h,rfl⟩⟩
  .intro h
   obtain ⟨t,ht,h⟩:=bbV.mp h
   have et:t=s:=by rw [← (tU h).2,(gT hz).2]
   subst et
   obtain ⟨y,hy,e⟩:=aea.mp h
   have ly:y<(aV sh row row.length t).length:=by rw [← la]; exact fF _ _ y hy
   have:y=z:=by
    rcases abU y z with q | q | q
    .have:=cG hz q; lia
    .exact q
    .have:=cG ly q; lia
   rw [← this]; exact hy
 have c2:=GH (sh:=sh) (row:=row) (ms:=ms) (λs=>(List.range (aV sh row row.length s).length).filter λz=>decide ((aV sh row row.length s).getD z 0∈ms)) hr λs hs=>by
  refine ⟨λz hz=>a1N.mp (apP.mp hz).1,λz hz=>?_⟩
  rw [mem_filter]
  exact ⟨λh=>aTw h.2,λh=>⟨a1N.mpr hz,aPy h⟩⟩
 have l1:os.length=((cJ sh row).map λs=>(gu (pl - 1) (aF sh row s)).length).sum:=by
  rw [ho.length_eq]
  unfold dY
  rw [List.length_flatMap]
  congr 1
  refine anO λs _=>?_
  unfold i7
  rw [aH5]
 have l2:((cJ sh row).map λs=>((List.range (aV sh row row.length s).length).filter λz=>decide ((aV sh row row.length s).getD z 0∈ms)).length).sum<=ms.length:=by
  have e:((cJ sh row).map λs=>((List.range (aV sh row row.length s).length).filter λz=>decide ((aV sh row row.length s).getD z 0∈ms)).length).sum=(List.range row.length).countP λi=>decide (i∈ms):=by
   rw [pL k1 _ row.length λi hi=>(k2 _).mpr ⟨i,hi,rfl⟩]
   congr 1
   refine anO λs _=>?_
   rw [KW (aV sh row row.length s),a5P]
  rw [e]
  exact FD (f:=id) (λi _ h=>aTw h) λi j _ _ _ _ e=>e
 have f0:0<=pl - 1:=by lia
 have main:=KU (ks:=cJ sh row) (a:=λs=>aN 1 (pl - 1+1) (aF sh row s) (gu (pl - 1) (aF sh row s))) (b:=λs=>aN 1 (pl - 1+1) (aF sh row s) ((List.range (aV sh row row.length s).length).filter λz=>decide ((aV sh row row.length s).getD z 0∈ms))) λs _=>LP f0 _
 unfold aN at main ⊢
 rw [show pl - 1+1 - 1=pl - 1 by lia] at main
 rw [AW,AW,← c1,← c2,← l1] at main
 have:=Int.mul_le_mul_of_nonneg_left (Int.ofNat_le.mpr l2) f0
 have e3:((ms.length:Nat):Int)=Int.ofNat ms.length:=rfl
 refine aJd main ?_
 have e4:(pl - 1) * ((((cJ sh row).map λs=>((List.range (aV sh row row.length s).length).filter λz=>decide ((aV sh row row.length s).getD z 0∈ms)).length).sum:Nat):Int)<=(pl - 1) * (ms.length:Int):=this
 lia
theorem KS {as:List Int} {n:Nat} (h:∀ i,i<n->as.getD i (-1)<(i:Int)):∀ (f:Nat) (m:Int),m<n->(jk as f m).Pairwise (· > ·)
 | 0,_,_=>List.Pairwise.nil
 | f+1,m,hm=>by
  rw [AX]
  by_cases c:0<=m
  .rw [aHZ c]
   have q:=h m.toNat (by lia)
   refine List.pairwise_cons.mpr ⟨λx hx=>?_,KS h f _ (by lia)⟩
   have:=oA h f _ (by lia) x hx
   lia
  .rw [bd2 c]; exact List.Pairwise.nil
theorem Rr (ay:Int) (row:List Int):(gu ay row).Pairwise (·<·):=by
 unfold gu
 rw [List.pairwise_reverse]
 exact KS (λi hi=>(Bf (Zw row) ay row.length i hi).2) _ _ (EX (Zw row) ay row.length).2
theorem Sw (sh pl:Int) (row:List Int) (s:Int):(i7 sh pl row s).Pairwise (·<·):=by
 unfold i7
 rw [List.pairwise_map]
 refine List.Pairwise.imp_of_mem (λ{a b} ha hb h=>?_) (Rr (pl - 1) (aF sh row s))
 refine cG ?_ h
 have:=fF _ _ b hb
 unfold aF at this
 rwa [aH5] at this
theorem JV {sh pl:Int} {row:List Int}:∀ {ks:List Int},ks.Nodup->(ks.flatMap (i7 sh pl row)).Nodup
 | [],_=>a6N
 | s :: ks,nd=>by
  obtain ⟨n1,n2⟩:=aHW.mp nd
  rw [List.flatMap_cons,a15]
  refine ⟨(Sw sh pl row s).imp λ{a b} h=>a0P h,JV n2,λx hx y hy e=>?_⟩
  obtain ⟨t,ht,hy⟩:=bbV.mp hy
  subst e
  have:t=s:=by rw [← (tU hy).2,(tU hx).2]
  exact n1 (this ▸ ht)
theorem JU {sh pl:Int} {row:List Int} {os:List Nat} (ho:os.Perm (dY sh pl row)) (hp:os.Pairwise (·<=·)):os.Pairwise (·<·):=by
 have k1:=(p6 sh row row.length (avG _)).1
 rw [aqK] at k1
 have nd:os.Nodup:=ho.nodup_iff.mpr (JV k1)
 have:os.Pairwise λa b=>a<=b/\a≠b:=List.Pairwise.and hp nd
 exact this.imp λ{a b} h=>by lia
theorem nJ {sh pl:Int} {row:List Int} {os:List Nat} (ho:os.Perm (dY sh pl row)):(∀ x∈os,x<row.length)/\os.length<=row.length:=by
 refine ⟨λx hx=>?_,?_⟩
 .obtain ⟨s,_,hs⟩:=bbV.mp (ho.mem_iff.mp hx)
  exact (tU hs).1
 .rw [ho.length_eq]
  have:=Fy (sh:=sh) (pl:=pl) (row:=row) (cJ sh row) (by have:=(p6 sh row row.length (avG _)).1; rwa [aqK] at this)
  exact this
structure rL (sh pl:Int) (row:List Int) (F:Nat->List Int) (m:Nat->Nat):Prop where
 hit:∀ i,i<row.length->row.getD i 0∈F i->∀ x∈F i,x∈F (i+1)
 Ah:∀ i,i<row.length->row.getD i 0∉F i->(∀ x∈F i,x∈F (i+1))\/∃ z∈F i,(∀ x∈F i,x≠z->x∈F (i+1))/\pl<=((Zh sh (row.getD i 0 % sh) (F i)).length:Int)/\z % sh=row.getD i 0 % sh/\∀ x∈F i,x % sh=row.getD i 0 % sh->bE row i x<=bE row i z
theorem LO (f:Nat->List Int):∀ k,argBest (λi j=>HT.lexLt (f j) (f i)) k<=k/\∀ j,j<=k->HT.lexLt (f (argBest (λi j=>HT.lexLt (f j) (f i)) k)) (f j)=false
 | 0=>⟨avG _,λj hj=>by
   have:j=0:=by lia
   subst this; exact tW _⟩
 | k+1=>by
  obtain ⟨h1,h2⟩:=LO f k
  unfold argBest
  by_cases c:HT.lexLt (f (argBest (λi j=>HT.lexLt (f j) (f i)) k)) (f (k+1))=true
  .rw [aHZ c]
   refine ⟨avG _,λj hj=>?_⟩
   by_cases e:j=k+1
   .subst e; exact tW _
   .cases q:HT.lexLt (f (k+1)) (f j) with
    | false=>rfl
    | true =>
     have:=Bh c q
     rw [h2 j (by lia)] at this; cases this
  .rw [bd2 c]
   refine ⟨by lia,λj hj=>?_⟩
   by_cases e:j=k+1
   .subst e; simpa using c
   .exact h2 j (by lia)
theorem S9 {row:List Int} {p:Nat} {S:List Int} (h:S≠[]):∃ z,S[dO row p S]?=some z/\z∈S/\∀ x∈S,bE row p x<=bE row p z:=by
 have pos:0<S.length:=bbb.mpr h
 obtain ⟨h1,h2⟩:=LO (λi=>(S.map λo=>[bE row p o,o]).getD i []) (S.length - 1)
 have e:argBest (λi j=>HT.lexLt ((S.map λo=>[bE row p o,o]).getD j []) ((S.map λo=>[bE row p o,o]).getD i [])) (S.length - 1)=dO row p S:=rfl
 rw [e] at h1 h2
 have hlt:dO row p S<S.length:=by lia
 have at':∀ i (h:i<S.length),(S.map λo=>[bE row p o,o]).getD i []=[bE row p S[i],S[i]]:=λi h=>by
  rw [aeu,bdd,a8w h]; rfl
 refine ⟨S[dO row p S],a8w hlt,aSd hlt,λx hx=>?_⟩
 obtain ⟨j,hj,rfl⟩:=getElem_of_mem hx
 have q:=h2 j (by lia)
 rw [at' j hj,at' _ hlt,HT.aO] at q
 by_cases c:bE row p S[dO row p S]=bE row p S[j]
 .lia
 .rw [bd2 c] at q
  have:=of_decide_eq_false q
  lia
section
variable {sh pl:Int} {row:List Int}
theorem Rq (hp:1<=pl) {i:Nat} (hi:i<=row.length):(oS sh pl row (eW sh pl row) i).1=(aS sh pl row i).1:=by
 obtain ⟨c,e⟩:=rB (sh:=sh) hp row i hi
 unfold oS
 rw [e]; rfl
theorem KR (hp:1<=pl):rL sh pl row (λi=>(oS sh pl row (eW sh pl row) i).1) λi=>(oS sh pl row (eW sh pl row) i).2:=by
 obtain ⟨c,e⟩:=rB (sh:=sh) hp row row.length (avG _)
 refine ⟨λi hi hb=>?_,λi hi hb=>?_⟩
 .obtain ⟨_,hh,_⟩:=vv e hi
  try dsimp only
  rw [hh hb]
  exact λx hx=>hx
 .obtain ⟨_,_,hn⟩:=vv e hi
  try dsimp only at hb ⊢
  rw [hn hb]
  have eo:(eW sh pl row).getD i none=bx sh pl row i (row.getD i 0) (aS sh pl row i).1:=by
   rw [aeu]
   unfold eW
   rw [EO (by lia:i<row.length)]
   rfl
  rw [eo]
  rw [Rq hp (by lia)] at hb ⊢
  generalize row.getD i 0=b at *
  generalize (aS sh pl row i).1=there at *
  unfold bx
  by_cases c:b∉there/\pl<=((tR sh b there).length:Int)
  .rw [aHZ c]
   have ne:tR sh b there≠[]:=λz=>by
    have h2:=c.2
    rw [z] at h2
    have h3:pl<=((0:Nat):Int):=h2
    lia
   obtain ⟨z,hz,zm,zf⟩:=S9 (row:=row) (p:=i) ne
   rw [hz]
   right
   have h2:=c.2
   rw [F2] at zm zf h2
   refine ⟨z,(aa.mp zm).1,λx hx hne=>a3r _ ((a6o hne).mpr hx),h2,(aa.mp zm).2,λx hx hs=>zf x (aa.mpr ⟨hx,hs⟩)⟩
  .rw [bd2 c]
   exact .inl λx hx=>a3r _ hx
theorem FT (hp:1<=pl):Zx sh pl row=(oS sh pl row (eW sh pl row) row.length).2:=by
 obtain ⟨c,e⟩:=rB (sh:=sh) hp row row.length (avG _)
 unfold Zx dg oS
 rw [aHZ (Kv sh pl row),e]
 rfl
structure Nx (row:List Int) (a:Nat) (x:Int) (j:Nat):Prop where
 lt:a<j
 hi:j<row.length
 at':row.getD j 0=x
 no:∀ k,a<k->k<j->row.getD k 0≠x
theorem JT {row:List Int} (hl:row.length<=1000000) {x:Int}:∀ (d p:Nat),p+1+d=row.length->(bE row p x=1000000)\/∃ j:Nat,bE row p x=(j:Int)/\Nx row p x j
 | 0,p,h=>.inl (Tj (by lia))
 | d+1,p,h=>by
  have hx:row[p+1]?=some (row.getD (p+1) 0):=by rw [aeu,a8w (by lia)]; rfl
  unfold bE
  rw [Gy hx]
  by_cases c:row.getD (p+1) 0=x
  .rw [aHZ c]
   exact .inr ⟨p+1,rfl,by lia,by lia,c,λk h1 h2=>by lia⟩
  .rw [bd2 c]
   rcases JT hl (x:=x) d (p+1) (by lia) with h1 | ⟨j,e,q⟩
   .exact .inl h1
   .refine .inr ⟨j,e,by have:=q.lt; lia,q.hi,q.at',λk k1 k2=>?_⟩
    by_cases e:k=p+1
    .subst e; exact c
    .exact q.no k (by lia) k2
theorem KQ (hl:row.length<=1000000):∀ (d a:Nat) {x:Int} {j:Nat},a+1+d=j->Nx row a x j->bE row a x=(j:Int)
 | 0,a,x,j,hd,h=>by
  have hx:row[a+1]?=some (row.getD (a+1) 0):=by rw [aeu,a8w (by have:=h.hi; lia)]; rfl
  unfold bE
  rw [Gy hx,aHZ (by rw [show a+1=j by lia]; exact h.at'),show a+1=j by lia]
 | d+1,a,x,j,hd,h=>by
  have hx:row[a+1]?=some (row.getD (a+1) 0):=by rw [aeu,a8w (by have:=h.hi; lia)]; rfl
  unfold bE
  rw [Gy hx,bd2 (h.no (a+1) (by lia) (by lia))]
  exact KQ hl d (a+1) (by lia) ⟨by lia,h.hi,h.at',λk k1 k2=>h.no k (by lia) k2⟩
theorem EU (hl:row.length<=1000000) {a:Nat} {x:Int} {j:Nat} (h:Nx row a x j):bE row a x=(j:Int):=KQ hl (j - (a+1)) a (by have:=h.lt; lia) h
variable {F:Nat->List Int} {m:Nat->Nat}
def vG (row:List Int) (F:Nat->List Int) (e:Nat) (z:Int) (j:Nat):Prop:=e<row.length/\z∈F e/\z∉F (e+1)/\Nx row e z j
theorem rL.drop (f:rL sh pl row F m) {e j:Nat} {z:Int} (h:vG row F e z j):row.getD e 0∉F e/\(∀ x∈F e,x≠z->x∈F (e+1))/\pl<=((Zh sh (row.getD e 0 % sh) (F e)).length:Int)/\z % sh=row.getD e 0 % sh/\∀ x∈F e,x % sh=row.getD e 0 % sh->bE row e x<=bE row e z:=by
 obtain ⟨h0,h1,h2,_⟩:=h
 have c:row.getD e 0∉F e:=λc=>h2 (f.hit e h0 c z h1)
 refine ⟨c,?_⟩
 rcases f.Ah e h0 c with q | ⟨z',q1,q2,q3⟩
 .exact absurd (q z h1) h2
 .by_cases ez:z=z'
  .subst ez; exact ⟨q2,q3⟩
  .exact absurd (q2 z h1 ez) h2
theorem Fx {x:Int}:∀ (d t:Nat),x∈F t->x∉F (t+d)->∃ e,t<=e/\e<t+d/\x∈F e/\x∉F (e+1)
 | 0,t,h1,h2=>absurd h1 h2
 | d+1,t,h1,h2=>by
  by_cases c:x∈F (t+1)
  .obtain ⟨e,e1,e2,e3⟩:=Fx d (t+1) c (by rw [show t+1+d=t+(d+1) by lia]; exact h2)
   exact ⟨e,by lia,by lia,e3⟩
  .exact ⟨t,avG _,by lia,h1,c⟩
structure qg (sh:Int) (row:List Int) (F:Nat->List Int) (e:Nat) (ms:List Nat):Prop where
 ge:∀ a∈ms,e<=a/\a<row.length
 nd:ms.Nodup
 why:∀ a∈ms,∃ z j,vG row F a z j/\∀ b∈ms,row.getD b 0 % sh=row.getD a 0 % sh->a<b->j<=b
 all:∀ a z j,e<=a->vG row F a z j->∃ b∈ms,row.getD b 0 % sh=row.getD a 0 % sh/\a<=b/\b<j
theorem JS (sh:Int) (row:List Int) (F:Nat->List Int):∀ (d e:Nat),e+d=row.length->∃ ms,qg sh row F e ms
 | 0,e,h=>⟨[],λ_ h=>(nomatch h),a6N,λ_ h=>(nomatch h),λa z j h1 h2=>by have:=h2.1; lia⟩
 | d+1,e,h=>by
  obtain ⟨ms,g⟩:=JS sh row F d (e+1) (by lia)
  by_cases c:∃ z j,vG row F e z j/\∀ b∈ms,row.getD b 0 % sh=row.getD e 0 % sh->j<=b
  .obtain ⟨z,j,c1,c2⟩:=c
   refine ⟨e :: ms,λa ha=>?_,aHW.mpr ⟨λm=>by have:=(g.ge e m).1; lia,g.nd⟩,λa ha=>?_,λa y k h1 h2=>?_⟩
   .rcases aDl.mp ha with rfl | ha
    .exact ⟨avG _,c1.1⟩
    .have:=g.ge a ha; lia
   .rcases aDl.mp ha with rfl | ha
    .refine ⟨z,j,c1,λb hb eb lt=>?_⟩
     rcases aDl.mp hb with rfl | hb
     .lia
     .exact c2 b hb eb
    .obtain ⟨z,j,q1,q2⟩:=g.why a ha
     refine ⟨z,j,q1,λb hb eb lt=>?_⟩
     rcases aDl.mp hb with eb' | hb
     .have:=(g.ge a ha).1; lia
     .exact q2 b hb eb lt
   .by_cases ea:a=e
    .subst ea
     exact ⟨a,aTs,rfl,avG _,h2.2.2.2.lt⟩
    .obtain ⟨b,b1,b2⟩:=g.all a y k (by lia) h2
     exact ⟨b,akt _ b1,b2⟩
  .refine ⟨ms,λa ha=>by have:=g.ge a ha; lia,g.nd,g.why,λa y k h1 h2=>?_⟩
   by_cases ea:a=e
   .subst ea
    apply aZ4
    intro no
    refine c ⟨y,k,h2,λb hb eb=>?_⟩
    apply aZ4
    intro nb
    exact no ⟨b,hb,eb,by have:=(g.ge b hb).1; lia,by lia⟩
   .exact g.all a y k (by lia) h2
theorem qg.miss {ms:List Nat} (g:qg sh row F 0 ms) (f:rL sh pl row F m) (o:iS sh pl row F m) {i j:Nat} (hj:j<row.length) (hp:gW row (row.getD j 0) j=some i) (hm:row.getD j 0∉F j):dw sh row ms i j=true:=by
 obtain ⟨p1,p2,p3⟩:=qe hp
 have h1:=o.now i (by lia)
 rw [p2] at h1
 obtain ⟨e,e1,e2,e3,e4⟩:=Fx (F:=F) (j - (i+1)) (i+1) h1 (by rw [show i+1+(j - (i+1))=j by lia]; exact hm)
 have D:vG row F e (row.getD j 0) j:=⟨by lia,e3,e4,by lia,hj,rfl,λk k1 k2=>p3 k (by lia) k2⟩
 obtain ⟨b,b1,b2,b3,b4⟩:=g.all e _ j (auX _) D
 have s:=(f.drop D).2.2.2.1
 refine aIq.mpr ⟨b,b1,?_⟩
 unfold eX
 rw [aPy (by lia:i<b),aPy b4,aPy (by rw [b2,p2,s])]
 rfl
theorem qg.over {ms:List Nat} (hl:row.length<=1000000) (g:qg sh row F 0 ms) (f:rL sh pl row F m) (o:iS sh pl row F m) {a:Nat} (ha:a∈ms):pl - 1<=(((List.range row.length).countP λj=>b7 row F j && e7 row (λi j=>eX sh row i j a) j:Nat):Int):=by
 obtain ⟨z,jz,D,w⟩:=g.why a ha
 obtain ⟨d1,d2,d3,d4,d5⟩:=f.drop D
 have nz:=EU hl D.2.2.2
 have IS:z∈Zh sh (row.getD a 0 % sh) (F a):=aa.mpr ⟨D.2.1,d4⟩
 have key:∀ x∈(Zh sh (row.getD a 0 % sh) (F a)).erase z,∃ j:Nat,bE row a x=(j:Int)/\row.getD j 0=x/\j∈(List.range row.length).filter λj=>b7 row F j && e7 row (λi j=>eX sh row i j a) j:=λx hx=>by
  have hxz:x≠z:=λe=>by
   subst e
   exact (List.Nodup.not_mem_erase ((o.nd a (by have:=D.1; lia)).sublist a9R)) hx
  obtain ⟨x1,x2⟩:=aa.mp (aLU hx)
  have le:=d5 x x1 x2
  rcases JT hl (x:=x) (row.length - (a+1)) a (by have:=D.1; lia) with e | ⟨j,e,N⟩
  .have:=D.2.2.2.hi; lia
  .refine ⟨j,e,N.at',apP.mpr ⟨a1N.mpr N.hi,?_⟩⟩
   have hin:x∈F j:=aZ4 λno=>by
    have xj:=N.lt
    obtain ⟨e',e1,e2,e3,e4⟩:=Fx (F:=F) (j - (a+1)) (a+1) (d2 x x1 hxz) (by rw [show a+1+(j - (a+1))=j by lia]; exact no)
    have D':vG row F e' x j:=⟨by have:=N.hi; lia,e3,e4,by lia,N.hi,N.at',λk k1 k2=>N.no k (by lia) k2⟩
    obtain ⟨b,b1,b2,b3,b4⟩:=g.all e' x j (auX _) D'
    have s:=(f.drop D').2.2.2.1
    have:=w b b1 (by rw [b2,← s,x2]) (by lia)
    lia
   obtain ⟨i',i1,i2⟩:=o.back (by have:=D.1; lia) x1
   have xj:=N.lt
   unfold b7 e7
   rw [N.at',aPy hin]
   cases ep:gW row x j with
   | none=>exact absurd i2 (Bq ep i' (by lia))
   | some i =>
    obtain ⟨p1,p2,p3⟩:=qe ep
    have PL:i<a:=by
     rcases abU i a with c | c | c
     .exact c
     .subst c; exact absurd (by rw [p2]; exact x1) d1
     .exact absurd p2 (N.no i c p1)
    show (true && eX sh row i j a)=true
    unfold eX
    rw [aPy PL,aPy xj,aPy (by rw [p2,x2])]
    rfl
 have nd:((Zh sh (row.getD a 0 % sh) (F a)).erase z).Nodup:=((o.nd a (by have:=D.1; lia)).sublist a9R).sublist erase_sublist
 have le:=AO (a:=((Zh sh (row.getD a 0 % sh) (F a)).erase z).map λx=>(bE row a x).toNat) (b:=(List.range row.length).filter λj=>b7 row F j && e7 row (λi j=>eX sh row i j a) j) (AZ nd λx hx y hy e=>?_) (λy hy=>?_)
 .rw [aH5,akb IS,← a5P] at le
  have:=aMf IS
  lia
 .obtain ⟨j,j1,j2,_⟩:=key x hx
  obtain ⟨k,k1,k2,_⟩:=key y hy
  rw [j1,k1] at e
  have e:j=k:=e
  rw [← j2,← k2,e]
 .obtain ⟨x,hx,rfl⟩:=aea.mp hy
  obtain ⟨j,j1,_,j3⟩:=key x hx
  rw [j1]
  exact j3
theorem qg.two {ms:List Nat} (hl:row.length<=1000000) (g:qg sh row F 0 ms) (f:rL sh pl row F m) (o:iS sh pl row F m) {a b i j:Nat} (ha:a∈ms) (hb:b∈ms) (lt:a<b) (hj:j<row.length) (hp:gW row (row.getD j 0) j=some i) (hh:row.getD j 0∈F j) (h1:eX sh row i j a=true) (h2:eX sh row i j b=true):False:=by
 obtain ⟨p1,p2,p3⟩:=qe hp
 unfold eX at h1 h2
 obtain ⟨c,c3⟩:=(asO _ _).mp h1
 obtain ⟨c1,c2⟩:=(asO _ _).mp c
 obtain ⟨c,e3⟩:=(asO _ _).mp h2
 obtain ⟨e1,e2⟩:=(asO _ _).mp c
 have c1:=aTw c1
 have c3:=aTw c3
 have e2:=aTw e2
 have e3:=aTw e3
 obtain ⟨z,jz,D,w⟩:=g.why a ha
 obtain ⟨d1,d2,d3,d4,d5⟩:=f.drop D
 have nz:=EU hl D.2.2.2
 have hs:=w b hb (by rw [e3,c3]) lt
 have xa:=o.stay (i:=i) (x:=row.getD j 0) (j - a) a c1 (by lia) (by rw [show a+(j - a)=j by lia]; exact hh) λk k1 k2=>p3 k k1 (by lia)
 have q:=d5 _ xa (by rw [c3,p2])
 rw [EU hl (⟨by lia,hj,rfl,λk k1 k2=>p3 k (by lia) k2⟩:Nx row a (row.getD j 0) j)] at q
 lia
theorem Fw {p q r s:Nat->Bool}:∀ l:List Nat,(∀ x∈l,p x=true->(r x=true->q x=true/\s x=false)/\(s x=true->q x=true))->l.countP (λx=>p x && r x)+l.countP (λx=>p x && s x)<=l.countP λx=>p x && q x
 | [],_=>avG _
 | x :: l,h=>by
  have ih:=Fw l λy hy=>h y (akt _ hy)
  simp only [agp]
  have:=h x aTs
  cases hp:p x <;> cases hq:q x <;> cases hr:r x <;> cases hs:s x <;> simp_all <;> lia
theorem qg.marked {ms:List Nat} (hl:row.length<=1000000) (g:qg sh row F 0 ms) (f:rL sh pl row F m) (o:iS sh pl row F m):∀ l:List Nat,l.Nodup->(∀ x∈l,x∈ms)->(pl - 1) * l.length<=(((List.range row.length).countP λj=>b7 row F j && e7 row (λi j=>dw sh row l i j) j:Nat):Int)
 | [],_,_=>by
  show (pl - 1) * ((0:Nat):Int)<=_
  rw [Int.natCast_zero,Int.mul_zero]
  exact Int.natCast_nonneg _
 | a :: l,nd,h=>by
  obtain ⟨n1,n2⟩:=aHW.mp nd
  have h1:=g.over hl f o (h a aTs)
  have h2:=g.marked hl f o l n2 λx hx=>h x (akt _ hx)
  have h3:=Fw (p:=b7 row F) (q:=e7 row (λi j=>dw sh row (a :: l) i j)) (r:=e7 row (λi j=>eX sh row i j a)) (s:=e7 row (λi j=>dw sh row l i j)) (List.range row.length) (λx hm hx=>by
   have hx:row.getD x 0∈F x:=aTw hx
   unfold e7
   cases e:gW row (row.getD x 0) x with
   | none=>exact ⟨λz=>(nomatch z),λz=>(nomatch z)⟩
   | some i =>
    dsimp only
    have em:dw sh row (a :: l) i x=(eX sh row i x a || dw sh row l i x):=rfl
    rw [em]
    refine ⟨λca=>⟨by rw [ca]; rfl,?_⟩,λcb=>by rw [cb,Bool.or_true]⟩
    cases cb:dw sh row l i x with
    | false=>rfl
    | true =>
     obtain ⟨b,b1,b2⟩:=aIq.mp cb
     rcases abU a b with lt | lt | lt
     .exact (g.two hl f o (h a aTs) (h b (akt _ b1)) lt (a1N.mp hm) e hx ca b2).elim
     .subst lt; exact absurd b1 n1
     .exact (g.two hl f o (h b (akt _ b1)) (h a aTs) lt (a1N.mp hm) e hx b2 ca).elim)
  rw [aRy,Int.natCast_succ,Int.mul_add,Int.mul_one]
  lia
theorem L8 (hl:row.length<=1000000) (f:rL sh pl row F m) (o:iS sh pl row F m):∃ ms:List Nat,(∀ x∈ms,x<row.length)/\aN sh pl row ms<=(row.length:Int) - m row.length:=by
 obtain ⟨ms,g⟩:=JS sh row F row.length 0 (a3U _)
 refine ⟨ms,λx hx=>(g.ge x hx).2,?_⟩
 have h1:=o.cnt row.length (avG _)
 have h2:=g.marked hl f o ms g.nd λ_ h=>h
 rw [qY]
 have h3:=Fw (p:=b7 row F) (q:=λ_=>true) (r:=e7 row (λi j=>dw sh row ms i j)) (s:=n6 sh row ms) (List.range row.length) (λx hm hx=>by
  unfold n6 e7
  cases e:gW row (row.getD x 0) x with
  | none=>exact ⟨λz=>(nomatch z),λz=>(nomatch z)⟩
  | some i=>exact ⟨λz=>⟨rfl,by dsimp only at z ⊢; rw [z]; rfl⟩,λ_=>rfl⟩)
 have h4:(List.range row.length).countP (n6 sh row ms)<=(List.range row.length).countP (λx=>b7 row F x && n6 sh row ms x):=List.countP_mono_left λx hm hx=>by
  refine (asO _ _).mpr ⟨?_,hx⟩
  unfold n6 e7 at hx
  cases e:gW row (row.getD x 0) x with
  | none=>rw [e] at hx; cases hx
  | some i =>
   rw [e] at hx
   refine aPy (aZ4 λno=>?_)
   have:=g.miss f o (a1N.mp hm) e no
   dsimp only at hx
   rw [this] at hx
   cases hx
 have h5:(List.range row.length).countP (λx=>b7 row F x && true)=(List.range row.length).countP (b7 row F):=by simp only [Bool.and_true]
 lia
theorem Gw {os:List Nat} (hl:row.length<=1000000) (hp:1<=pl) (ho:os.Perm (dY sh pl row)) (hi:∀ x∈os,x<row.length):aN sh pl row os=(row.length:Int) - Zx sh pl row:=by
 obtain ⟨c,e⟩:=rB (sh:=sh) hp row row.length (avG _)
 have o:=A1 hp e
 obtain ⟨ms,h1,h2⟩:=L8 hl (KR hp) o
 have h3:=o.weak os hi
 have h4:=Tc hp ho h1
 rw [FT hp]
 try dsimp only at h2 h3
 lia
end
theorem KP (sh pl:Int) (ru:Str) (row:List Int):∀ (n i:Nat),i<n->(aR sh pl ru row n).2[i]?=some (bH sh pl ru i (row.getD i 0) (aR sh pl ru row i).1).2
 | 0,i,h=>absurd h (Nat.not_lt_zero _)
 | n+1,i,h=>by
  have l:=(AQ sh pl ru row n).2.2
  show ((aR sh pl ru row n).2++[_])[i]?=_
  by_cases c:i<n
  .rw [aZu (by lia)]
   exact KP sh pl ru row n i c
  .have e:i=n:=by lia
   subst e
   rw [arE (by lia),l,aGA]; rfl
def rQ (sh pl:Int) (ru:Str) (row:List Int):List (Option Int):=(jw sh pl ru row).map λf=>f.2
theorem UJ {sh:Int} {S:List Rec} {T:List Int} (u:Uq S) (nd:T.Nodup) (h:∀ x,x∈T↔x∈iy S) (b:Int):((Zh sh (b % sh) T).length=(ZS sh b S).length)/\∀ r∈ZS sh b S,r.b∈Zh sh (b % sh) T:=by
 have mem:∀ x,x∈Zh sh (b % sh) T↔x∈(ZS sh b S).map (·.b):=λx=>by
  rw [aa,h x,mem_map]
  constructor
  .rintro ⟨h1,h2⟩
   obtain ⟨r,hr,e⟩:=aea.mp h1
   refine ⟨r,apP.mpr ⟨hr,?_⟩,e⟩
   rw [← e] at h2
   simp [h2]
  .rintro ⟨r,hr,e⟩
   obtain ⟨h1,h2⟩:=apP.mp hr
   refine ⟨aea.mpr ⟨r,h1,e⟩,?_⟩
   rw [← e]
   simpa using h2
 have xr:(Zh sh (b % sh) T).Nodup:=nd.sublist a9R
 have uN:((ZS sh b S).map (·.b)).Nodup:=aTd (List.Sublist.map _ a9R) u
 refine ⟨?_,λr hr=>(mem _).mpr (List.mem_map_of_mem hr)⟩
 rw [BN xr uN mem,aH5]
theorem KO (sh pl:Int) (ru:Str) (row:List Int) (hpl:1<=pl):∀ i,i<=row.length->∃ T:List Int×Nat,bg sh pl row (rQ sh pl ru row) i=some T/\T.1.Nodup/\(∀ x,x∈T.1↔x∈iy (aR sh pl ru row i).1)/\T.2=(aR sh pl ru row i).2.countP λf=>!f.1
 | 0,_=>⟨([],0),rfl,a6N,λx=>by simp [aR,iy],rfl⟩
 | i+1,hi=>by
  obtain ⟨T,h1,h2,h3,h4⟩:=KO sh pl ru row hpl i (by lia)
  have u:=(AQ sh pl ru row i).1
  have eg:(rQ sh pl ru row).getD i none=(bH sh pl ru i (row.getD i 0) (aR sh pl ru row i).1).2.2:=by
   unfold rQ jw
   rw [aeu,bdd,KP sh pl ru row row.length i (by lia)]; rfl
  obtain ⟨sl,sm⟩:=UJ (sh:=sh) u h2 h3 (row.getD i 0)
  have e:bg sh pl row (rQ sh pl ru row) (i+1)=cN sh pl (row.getD i 0) (bH sh pl ru i (row.getD i 0) (aR sh pl ru row i).1).2.2 T:=by
   show (bg sh pl row (rQ sh pl ru row) i).bind _=_
   rw [h1,eg]; rfl
  rw [e]
  have ec:(aR sh pl ru row (i+1)).2.countP (λf=>!f.1)=T.2+(if (!(bH sh pl ru i (row.getD i 0) (aR sh pl ru row i).1).2.1)=true then 1 else 0):=by
   show ((aR sh pl ru row i).2++[_]).countP _=_
   rw [aH7,h4,agp,List.countP_nil,a3U]
  have eb:(aR sh pl ru row (i+1)).1=(bH sh pl ru i (row.getD i 0) (aR sh pl ru row i).1).1:=rfl
  rw [ec,eb]
  generalize row.getD i 0=b at *
  generalize (aR sh pl ru row i).1=S at *
  have nb:∀ x:Int,b∈Zh sh (b % sh) T.1↔b∈T.1:=λ_=>by rw [aa]; exact ⟨λz=>z.1,λz=>⟨z,rfl⟩⟩
  unfold bH cN
  cases er:aL S b with
  | some r =>
   obtain ⟨r1,r2⟩:=GJ er
   have hb:b∈T.1:=(h3 b).mpr (r2 ▸ List.mem_map_of_mem r1)
   have hm:bF pl (Zh sh (b % sh) T.1) b none=true:=by unfold bF; rw [aHZ (.inl ((nb 0).mpr hb))]; rfl
   refine ⟨T,by rw [aHZ hm,aHZ hb],h2,λx=>?_,by simp⟩
   rw [A8,h3 x]
   exact ⟨.inr,λz=>z.elim (λz=>(h3 x).mp (z ▸ hb)) id⟩
  | none =>
   have hb:b∉T.1:=λz=>aH.mp er ((h3 b).mp z)
   have hm:bF pl (Zh sh (b % sh) T.1) b (cX sh pl ru S b)=true/\∀ g,cX sh pl ru S b=some g->g∈T.1:=by
    by_cases c:((ZS sh b S).length:Int)<pl
    .have eg:cX sh pl ru S b=none:=by unfold cX; rw [aHZ c]
     rw [eg]
     exact ⟨by unfold bF; rw [aHZ (.inr (by rw [sl]; exact c))]; rfl,λ_ z=>by cases z⟩
    .obtain ⟨r,hr,eg,_⟩:=MB (ru:=ru) hpl c
     rw [eg]
     refine ⟨?_,λg z=>by cases z; exact (aa.mp (sm r hr)).1⟩
     unfold bF
     rw [bd2 (λz=>z.elim (λz=>hb ((nb 0).mp z)) (by rw [sl]; exact c))]
     exact aPy (sm r hr)
   refine ⟨(av T.1 (cX sh pl ru S b)++[b],T.2+1),by rw [aHZ hm.1,bd2 hb],?_,λx=>?_,by simp⟩
   .rw [a15]
    exact ⟨h2.sublist aU,by simp,λx hx y hy z=>hb (by rw [adl.mp hy] at z; rw [← z]; exact aU.subset hx)⟩
   .rw [aov,aNI,Bs h2,A8,LV,h3 x]
    exact Or.comm
theorem Rp (sh pl:Int) (ru:Str) (row:List Int) (hpl:1<=pl):dg sh pl row (rQ sh pl ru row)=some ((jw sh pl ru row).countP (λf=>!f.1):Int):=by
 obtain ⟨T,h1,_,_,h4⟩:=KO sh pl ru row hpl row.length (avG _)
 unfold dg
 rw [aHZ (by unfold rQ; rw [aH5,FI]),h1]
 show some (T.2:Int)=_
 rw [h4]; rfl
theorem LN {sh pl:Int} {row:List Int} {os:List (Option Int)} {c:Int} (hp:1<=pl) (h:dg sh pl row os=some c) (ms:List Nat) (hm:∀ x∈ms,x<row.length):(row.length:Int) - c<=aN sh pl row ms:=by
 unfold dg at h
 split at h
 .cases e:bg sh pl row os row.length with
  | none=>rw [e] at h; cases h
  | some S =>
   rw [e] at h
   have ec:(S.2:Int)=c:=bcC h
   have q:=(A1 hp e).weak ms hm
   have es:oS sh pl row os row.length=S:=by unfold oS; rw [e]; rfl
   rw [es,ec] at q
   exact q
 .cases h
theorem VT {pl b:Int} {ms ms':List Int} {o:Option Int} (h1:∀ x,x∈ms↔x∈ms') (h2:ms.length=ms'.length):bF pl ms b o=bF pl ms' b o:=by
 unfold bF
 rw [h2]
 have e:(b∈ms\/(ms'.length:Int)<pl)↔(b∈ms'\/(ms'.length:Int)<pl):=or_congr (h1 b) Iff.rfl
 by_cases c:b∈ms'\/(ms'.length:Int)<pl
 .rw [aHZ c,aHZ (e.mpr c)]
 .rw [bd2 c,bd2 (λz=>c (e.mp z))]
  cases o with
  | some g=>exact aE1.mpr (h1 g)
  | none=>rfl
theorem LM {sh pl:Int} {row:List Int} {os:List (Option Int)} (y:Option Int):∀ i,i<=os.length->bg sh pl row (os++[y]) i=bg sh pl row os i
 | 0,_=>rfl
 | i+1,h=>by
  show (bg sh pl row (os++[y]) i).bind _=(bg sh pl row os i).bind _
  have e:(os++[y]).getD i none=os.getD i none:=by rw [aeu,aeu,aZu (by lia)]
  rw [LM y i (by lia),e]
def eO (y:V) (z:Int) (x:Int):Bool:=(!decide (V.int x=y)) && !decide (V.int x=V.int z)
theorem S8 {sh pl z:Int} {o:Option Int} {S:List Int×Nat} {T:List Int} (nd:S.1.Nodup) (OO:T.Nodup) (h:∀ x,x∈T↔x∈S.1) (c:bF pl (Zh sh (z % sh) S.1) z o=true) :
  ∃ S',cN sh pl z o S=some S'/\S'.1.Nodup/\(T.filter (eO (aK o) z)++[z]).Nodup/\(∀ x,x∈T.filter (eO (aK o) z)++[z]↔x∈S'.1)/\S'.2=S.2+(if z∈T then 0 else 1):=by
 have kp:∀ x,eO (aK o) z x=true↔V.int x≠aK o/\x≠z:=λx=>by
  unfold eO
  simp
 have nT:(T.filter (eO (aK o) z)++[z]).Nodup:=by
  rw [a15]
  exact ⟨OO.sublist a9R,by simp,λx hx w hw e=>((kp x).mp (apP.mp hx).2).2 (e.trans (adl.mp hw))⟩
 have mT:∀ x,x∈T.filter (eO (aK o) z)++[z]↔(x∈T/\V.int x≠aK o/\x≠z)\/x=z:=λx=>by
  rw [aov,mem_filter,kp,aNI]
 unfold cN
 rw [aHZ c]
 by_cases hz:z∈S.1
 .rw [aHZ hz]
  have ey:o=none:=by
   unfold bF at c
   rw [aHZ (.inl (aa.mpr ⟨hz,rfl⟩))] at c
   exact Option.isNone_iff_eq_none.mp c
  refine ⟨S,rfl,nd,nT,λx=>?_,by rw [aHZ ((h z).mpr hz)]; rfl⟩
  rw [mT,h x,ey]
  constructor
  .rintro (⟨h1,_⟩ | rfl)
   .exact h1
   .exact hz
  .intro h1
   by_cases e:x=z
   .exact .inr e
   .exact .inl ⟨h1,(λw=>nomatch w),e⟩
 .rw [bd2 hz]
  refine ⟨_,rfl,?_,nT,λx=>?_,by rw [bd2 (λw=>hz ((h z).mp w))]⟩
  .rw [a15]
   exact ⟨nd.sublist aU,by simp,λx hx w hw e=>hz (by rw [adl.mp hw] at e; rw [← e]; exact aU.subset hx)⟩
  .rw [mT,aov,aNI,Bs nd,h x]
   constructor
   .rintro (⟨h1,h2,_⟩ | rfl)
    .exact .inl ⟨h1,λg eg e=>h2 (by rw [eg,e]; rfl)⟩
    .exact .inr rfl
   .rintro (⟨h1,h2⟩ | rfl)
    .refine .inl ⟨h1,λe=>?_,λe=>hz (e ▸ h1)⟩
     cases o with
     | none=>cases e
     | some g=>exact h2 g rfl (by cases e; rfl)
    .exact .inr rfl
section
def qz (K:W.Frag):Sp:=λvs H Q _=>∃ (b lr:Addr) (a q c sh pl:Int) (row:List Int),vs=[.ref b,.int sh,.int pl,.ref lr]/\aG H b a q c/\c<310000000/\H lr=some (.lst (row.map V.int))/\lr≠b/\row.length<=200/\1<=sh/\1<=pl /\
 ∀ (D:Addr) (H':Hp) (os:List (Option Int)) (a' c':Int),H D=none->H' D=some (.lst (os.map aK))->os.length=row.length->(∃ c,dg sh pl row os=some c)->aG H' b a' q c'->c'<=c+row.length->SB b H H'->Q (.ref D) H'
theorem WM (F:bK K "_law_drawn_order" "_law_drawn_order" yS f fd) (T:Txt K mg) (dj:Def P w K mg base "_law_take" 1 rq tT):aD P w K mg base bB 2 f fd GX (qz K):=by
 refine F.ok dI (λvs H Q E h=>?_) (λcdv A outer st H vs Q E hr h=>?_)
 .obtain ⟨b,lr,a,q,c,sh,pl,row,rfl,_⟩:=h
  rfl
 obtain ⟨b,lr,a,q,c,sh,pl,row,rfl,B,hc,hR,jV,hl,hs0,hp0,k⟩:=h
 have nd:=dI.nd
 refine ⟨_,(Zd (AK (i:=4) (j:=5) rfl nd rfl rfl (by decide) rfl rfl (pc (ZI Zc) (pc (ZI Zc) Zc)) rfl)
   (Zd (kq aW3 rfl (ZL (K:=K) rfl (pv 3)) (bD 6 nd) (Zd (LB 7 (Zv (cj:=(Zg yS)) (oN:=bL) (N:=["_law_one", "_law_shelves", "_law_board"]) (own:=1) (js:=[1,6]) (by decide +kernel) rfl rfl) rfl nd rfl rfl (ZL (K:=K) rfl (pv 4)) (λ_ _ _ _ _ _=>(bD 0 (show List.Nodup (["_law_one", "_law_shelves", "_law_board"]:List Str) by decide +kernel))) (λ_ _ _ _ _ _=>(Zp aQ (ah jd (pv 0) (pv 1)) (ah jd (pv 2) (pv 1)) (Zs _))) (λ_ _ _ _ _ _=>(pv 0)))
   (Zd (bA 8 nd tQ)
   (Zd (aI (PW.pt (tP (Zp (yU (K:=K) rfl) (pv 6) (pv 4) rfl) (tX (Zp kQ (Zk (Zm (K:=K) rfl) rfl T.dX a21 (pc (pv 7) Zc)) (pv 2) (Zs _))))) (Zj (bA 8 nd (aA (Zo (K:=K) rfl) (pv 7) (Zl dj hr.m rfl (pc (pv 0) (pc (Zk (Zm (K:=K) rfl) rfl T.dX a21 (pc (pv 7) Zc)) Zc))) (λ_ _=>rfl)))) Zu)
   (Zd (bA 4 nd (ah Q7 (BD (Zv (cj:=(Zg yS)) (oN:=bL) (N:=["_law_one", "_law_gone", "_law_board"]) (own:=1) (js:=[8,6]) (by decide +kernel) rfl rfl) rfl (ZL (K:=K) rfl (pv 4)) (λ_ _ _ _ _ _=>(bD 0 (show List.Nodup (["_law_one", "_law_gone", "_law_board"]:List Str) by decide +kernel))) (λ_ _ _ _ _ _=>(PW.pt (tP (Zp iO (pv 0) (pv 1) (Zs _)) (tX (Zp iO (pv 0) (pv 2) (Zs _)))))) (λ_ _ _ _ _ _=>(pv 0))) (ZI (pc (pv 6) Zc))))
   (Zj (Zy (jm (K:=K) rfl (bI a7f axz aXi ZB (pv 5) (pc (pv 8) Zc))))))))))
   (Zj (Zq (pv 5))))),?_⟩
 refine ⟨(sl 0),λl0 sP=>⟨(sl 0),λlf lT=>⟨_,_,rfl,?_⟩⟩⟩
 try dsimp only
 have s0:=(Zf sP (.lst [])).trans (Zf lT (.lst []))
 have e0:upd (upd H l0 (.lst [])) lf (.lst []) l0=some (.lst []):=Zf lT _ _ _ Za
 have Jy:upd (upd H l0 (.lst [])) lf (.lst []) lf=some (.lst []):=Za
 have j6:H lf=none:=(Zf sP (.lst [])).free lT
 have OL:lf≠l0:=λz=>by rw [z,Za] at lT; cases lT
 have xw:b≠lf:=Zb B.at' j6
 have XA:lr≠lf:=Zb hR j6
 have B0:=B.same s0
 generalize upd (upd H l0 (.lst [])) lf (.lst [])=G0 at *
 refine ⟨_,rfl,lr,rfl,⟨_,ak.of (s0 _ _ hR)⟩,LJ (K:=K) (a:=lr) (xs:=row.map V.int) (λi σ G=>∃ (v6 v7 v8:Option V) (lt:Addr) (TT:List Int) (os:List (Option Int)) (a' c':Int),σ=[some (.ref b),some (.int sh),some (.int pl),some (.ref lr),some (.ref lt),some (.ref lf),v6,v7,v8]/\lt≠lf/\lt≠b/\G lt=some (.lst (TT.map V.int))/\TT.length<=i/\G lf=some (.lst (os.map aK))/\os.length=i/\aG G b a' q c'/\c'<=c+i/\SB b H G/\TT.Nodup/\∃ S:List Int×Nat,bg sh pl row os i=some S/\S.1.Nodup/\∀ x,x∈TT↔x∈S.1)
  ⟨none,none,none,l0,[],[],a,c,rfl,aay OL,(λz=>by rw [z,B.at'] at sP; cases sP),e0,avG _,Jy,rfl,B0,by lia,(λx o _ e=>s0 _ _ e),a6N,([],0),rfl,a6N,λ_=>Iff.rfl⟩ (λi σ G _ h=>by obtain ⟨_,_,_,_,_,_,_,_,_,_,_,_,_,_,_,_,_,sb,_⟩:=h; exact ak.of (sb _ _ jV hR)) ?_ ?_⟩
 .clear s0 e0 Jy B0
  rintro i x σ G hx ⟨v6,v7,v8,lt,TT,os,a',c',rfl,OH,xo,elt,Qe,ef,hos,Bg,hcg,sb,nT,S,Av,nS,xQ⟩
  obtain ⟨z,hz,rfl⟩:=oJ hx
  have hi:i<row.length:=(aWj.mp hz).1
  have eg:row.getD i 0=z:=by rw [aeu,hz]; rfl
  have Ey:∀ y,bF pl (Zh sh (z % sh) TT) z y=bF pl (Zh sh (z % sh) S.1) z y:=λy=>by
   have mm:∀ x,x∈Zh sh (z % sh) TT↔x∈Zh sh (z % sh) S.1:=λx=>by rw [aa,aa,xQ x]
   exact VT mm (BN (nT.sublist a9R) (nS.sublist a9R) mm)
  have hin:z∈Zh sh (z % sh) TT↔z∈TT:=⟨λm=>(aa.mp m).1,λm=>aa.mpr ⟨m,rfl⟩⟩
  have hbig:(TT.map V.int).length<=sizeLine:=aM8 (Zn (by rw [aH5]; lia))
  refine gN ?_
  refine nY λDz En=>?_
  try dsimp only
  refine hide λu1 e1=>?_
  refine ⟨_,rfl,lt,rfl,⟨_,ak.of elt⟩,λls hls=>?_⟩
  refine ZH (K:=K) (a:=lt) (xs:=TT.map V.int) (l:=ls) (λi ys σ G'=>∃ v0:Option V,σ=[v0,some (.int sh),some (.int z)]/\ys=(Zh sh (z % sh) (TT.take i)).map V.int/\G'=upd G ls (.lst ys)) ⟨none,rfl,rfl,rfl⟩ (λi ys σ G' _ h=>by obtain ⟨_,_,_,q⟩:=h; exact ak.of (by rw [q,Ze (Zb elt hls)]; exact elt)) ?_ ?_
  .rintro i x ys σ G hi hxi hys ⟨v0,rfl,rfl,rfl⟩
   obtain ⟨y,ey,rfl⟩:=oJ hxi
   have uV:TT.take (i+1)=TT.take i++[y]:=by rw [aK1,ey]; rfl
   refine ⟨_,rfl,_,rfl,_,_,rfl,rfl,by lia,_,rfl,_,rfl,_,_,rfl,rfl,by lia,rfl,_,rfl,?_⟩
   by_cases c:y % sh=z % sh
   .refine cE (by simp [c]) ⟨_,rfl,dU.of hbig hi hys Za ⟨_,rfl,?_,tY⟩⟩
    rw [uV,Zz,aHZ c,auU]; rfl
   .refine bu (by simp [c]) (kD.of hi hys ⟨_,rfl,?_,rfl⟩)
    rw [uV,Zz,bd2 c]
  subst e1
  rintro ys σ G' _ ⟨v0,rfl,rfl,rfl⟩
  rw [aH5,aqK]
  refine gN ?_
  try dsimp only
  have ss:=Zf hls (.lst ((Zh sh (z % sh) TT).map V.int))
  have els:upd G ls (.lst ((Zh sh (z % sh) TT).map V.int)) ls=some (.lst ((Zh sh (z % sh) TT).map V.int)):=Za
  have xm:ls≠b:=λw=>by rw [w,Bg.at'] at hls; cases hls
  have elt:=ss _ _ elt
  have ef:=ss _ _ ef
  have Bg:=Bg.same ss
  have sb:SB b H (upd G ls (.lst ((Zh sh (z % sh) TT).map V.int))):=λx o nx e=>ss _ _ (sb _ _ nx e)
  generalize upd G ls (.lst ((Zh sh (z % sh) TT).map V.int))=G1 at *
  refine gN (i:=8) (v:=.aX) ?_
  dsimp only
  refine qV (λσ G=>∃ (o:Option Int) (a2 c2:Int),σ=[some (.ref b),some (.int sh),some (.int pl),some (.ref lr),some (.ref lt),some (.ref lf),some (.int z),some (.ref ls),some (aK o)]/\G lt=some (.lst (TT.map V.int))/\G lf=some (.lst (os.map aK))/\aG G b a2 q c2/\c2<=c+(i+1)/\SB b H G/\bF pl (Zh sh (z % sh) TT) z o=true) (λD' _ k'=>?_) ?_
  .refine ⟨_,rfl,_,rfl,lt,_,rfl,.inl (ak.of elt),rfl,t9 _,_,rfl,?_⟩
   rw [yK]
   have k0:=λm=>k' _ _ ⟨none,a',c',rfl,elt,ef,Bg,by lia,sb,m⟩
   have mN:(z∈Zh sh (z % sh) TT\/((Zh sh (z % sh) TT).length:Int)<pl)->bF pl (Zh sh (z % sh) TT) z none=true:=λc=>by unfold bF; rw [aHZ c]; rfl
   by_cases c1:z∈TT
   .exact bu (by simp [c1]) (bu rfl (k0 (mN (.inl (hin.mpr c1)))))
   .refine cE (by simp [c1]) ⟨_,rfl,ls,_,rfl,.inl (ak.of els),_,rfl,_,_,rfl,rfl,_,rfl,?_⟩
    rw [aH5]
    refine ZC (λc2=>?_) (λc2=>k0 (mN (.inr (by lia))))
    have l1:(Zh sh (z % sh) TT).length<=TT.length:=aYO ..
    refine ⟨_,rfl,_,rfl,_,rfl,ls,_,rfl,.inl (ak.of els),b,a',q,c',_,rfl,Bg,by lia,by rw [aH5]; lia,by rw [aH5]; lia,λr a2 c2 G2 r0 r1 B2 hc2 t2=>?_⟩
    rw [aH5] at r1
    obtain ⟨g,hg,gm⟩:=tS r0 r1
    have mS:bF pl (Zh sh (z % sh) TT) z (some g)=true:=by unfold bF; rw [bd2 (λw=>w.elim (λw=>c1 (hin.mp w)) (by lia))]; exact aPy gm
    exact ⟨ls,_,_,_,rfl,rfl,ak.of (t2 _ _ xm els),hg,gN (k' _ _ ⟨some g,a2,c2,rfl,t2 _ _ xo elt,t2 _ _ (aay xw) ef,B2,by lia,sb.trans t2,mS⟩)⟩
  clear elt ef Bg hcg sb els xm
  rintro _ G3 ⟨o,a2,c2,rfl,elt,ef,Bg,hcg,sb,hm⟩
  rw [Ey] at hm
  obtain ⟨S',o1,o2,o3,o4,_⟩:=S8 nS nT xQ hm
  try dsimp only
  refine hide λu1 e1=>?_
  refine ⟨_,rfl,lt,rfl,⟨_,ak.of elt⟩,λlc nW=>?_⟩
  refine ZH (K:=K) (a:=lt) (xs:=TT.map V.int) (l:=lc) (λj ys σ G=>∃ (v0:Option V),σ=[v0,some (aK o),some (.int z)]/\ys=((TT.take j).filter (eO (aK o) z)).map V.int/\G=upd G3 lc (.lst ys)) ⟨none,rfl,rfl,rfl⟩ (λi ys σ G _ h=>by obtain ⟨_,_,_,q⟩:=h; exact ak.of (by rw [q,Ze (Zb elt nW)]; exact elt)) ?_ ?_
  .rintro j x ys σ G hj ic hys ⟨v0,rfl,rfl,rfl⟩
   obtain ⟨x0,ex,rfl⟩:=oJ ic
   have uV:TT.take (j+1)=TT.take j++[x0]:=by rw [aK1,ex]; rfl
   have sc:rO (V.int x0) (aK o)=true:=by cases o <;> rfl
   have e1:eO (aK o) z x0=((!decide (V.int x0=aK o)) && !decide (V.int x0=V.int z)):=rfl
   refine ⟨_,rfl,_,rfl,sc,_,rfl,?_⟩
   cases c1:(!decide (V.int x0=aK o)) with
   | false =>
    rw [c1] at e1
    refine bu rfl (bu rfl (kD.of hj hys ⟨_,rfl,?_,rfl⟩))
    rw [uV,azg,amZ,bd2 (by rw [e1,az0]; exact aCK)]; simp
   | true =>
    rw [c1,Bool.true_and] at e1
    refine cE rfl ⟨_,rfl,_,rfl,rfl,_,rfl,?_⟩
    cases c2:(!decide (V.int x0=V.int z)) with
    | false =>
     rw [c2] at e1
     refine bu rfl (kD.of hj hys ⟨_,rfl,?_,rfl⟩)
     rw [uV,azg,amZ,bd2 (by rw [e1]; decide)]; simp
    | true =>
     rw [c2] at e1
     refine cE rfl ⟨_,rfl,dU.of hbig hj hys Za ⟨_,rfl,?_,tY⟩⟩
     rw [uV,azg,amZ,aHZ e1,auU]; rfl
  subst e1
  rintro ys σ G _ ⟨v0,rfl,rfl,rfl⟩
  rw [aH5,aqK]
  have uP:(TT.filter (eO (aK o) z)).length<=TT.length:=aYO ..
  generalize TT.filter (eO (aK o) z)=zs at *
  have Qv:upd G3 lc (.lst (zs.map V.int)) lc=some (.lst (zs.map V.int)):=Za
  refine ⟨_,rfl,(sl 1),λl1 hl1=>⟨lc,l1,_,_,rfl,rfl,Zf hl1 _ _ _ Qv,Za,aM8 (Zn (by rw [aH5]; show _+1<=1000; lia)),λl2 hl2=>gN ?_⟩⟩
  have s4:=((Zf nW (.lst (zs.map V.int))).trans (Zf hl1 (.lst [V.int z]))).trans (Zf hl2 (.lst (zs.map V.int++[V.int z])))
  have e2:upd (upd (upd G3 lc (.lst (zs.map V.int))) l1 (.lst [V.int z])) l2 (.lst (zs.map V.int++[V.int z])) l2=some (.lst ((zs++[z]).map V.int)):=by rw [Za,auU]; rfl
  have n2:G3 l2=none:=((Zf nW (.lst (zs.map V.int))).trans (Zf hl1 (.lst [V.int z]))).free hl2
  have Qx:=ef
  have ef:=s4 _ _ ef
  have zA:=Bg.same s4
  try dsimp only
  generalize upd (upd (upd G3 lc (.lst (zs.map V.int))) l1 (.lst [V.int z])) l2 (.lst (zs.map V.int++[V.int z]))=G4 at *
  have II:l2≠lf:=λw=>by rw [w,Qx] at n2; cases n2
  refine ⟨_,rfl,.inl ⟨rfl,_,ak.of ef⟩,_,rfl,lf,_,_,rfl,rfl,ef,Zn (by rw [aH5]; lia),?_⟩
  refine En _ _ ⟨_,_,_,l2,zs++[z],os++[o],a2,c2,rfl,II,(λw=>by rw [w,Bg.at'] at n2; cases n2),by rw [Ze II]; exact e2,by rw [aIt]; show _+1<=_; lia,by rw [Za,auU]; rfl,by rw [aIt,hos]; rfl,⟨by rw [Ze xw]; exact zA.at',zA.a0,zA.q0,zA.q1,zA.c0⟩,by lia,(λx o' nx e=>by rw [Ze (Zb e j6)]; exact s4 _ _ (sb _ _ nx e)),o3,S',?_,o2,o4⟩
  show (bg sh pl row (os++[o]) i).bind _=_
  rw [LM _ i (by lia),Av,eg,aeu,arE (by lia),hos,aGA]
  exact o1
 .rintro σ G ⟨v6,v7,v8,lt,TT,os,a',c',rfl,OH,xo,elt,Qe,ef,hos,Bg,hcg,sb,_,S,Av,_⟩
  rw [aH5] at hos hcg Av
  exact ⟨_,rfl,k lf G os a' c' j6 ef hos ⟨_,by unfold dg; rw [aHZ hos,Av]; rfl⟩ Bg hcg sb⟩
end
section
def wm (K:W.Frag):Sp:=λvs H Q _=>∃ (b lr:Addr) (a q c:Int) (row:List Int),vs=[.ref b,.ref lr]/\aG H b a q c/\c<310000000/\H lr=some (.lst (row.map V.int))/\lr≠b/\row.length<=400 /\
 ∀ (D:Addr) (H':Hp) (ms:List Nat) (a' c':Int),H D=none->H' D=some (.lst (mV ms))->(∀ x∈ms,x<row.length)->ms.Pairwise (·<·)->ms.length<=row.length->aG H' b a' q c'->c'<=c+1+row.length->SB b H H'->Q (.ref D) H'
theorem Wo (F:bK K "_law_some_marks" "_law_some_marks" GO f fd) (T:Txt K mg) (dj:Def P w K mg base "_law_take" 1 rq tT):aD P w K mg base bB 2 f fd GN (wm K):=by
 refine F.ok d8 (λvs H Q E h=>?_) (λcdv A outer st H vs Q E hr h=>?_)
 .obtain ⟨b,lr,a,q,c,row,rfl,_⟩:=h
  rfl
 obtain ⟨b,lr,a,q,c,row,rfl,B,hc,hR,jV,hl,k⟩:=h
 have nd:=d8.nd
 refine ⟨_,(Zd (AK (i:=2) (j:=3) rfl nd rfl rfl (by decide) rfl rfl (pc (Zl dj hr.m rfl (pc (pv 0) (pc Zi Zc))) (pc (ZI Zc) Zc)) rfl)
   (Zd (kq aW3 rfl (ZM rfl T.jx (pc (Zk (Zm (K:=K) rfl) rfl T.dX a21 (pc (pv 1) Zc)) Zc)) (bD 4 nd) (Zj (aI (PW.pt (pw_or (Zp aQ (pv 2) Zi (Zs _)) (mj (PW.pt (tP (Zp nF (pv 2) Zi (Zs _)) (tX (Zp aQ (Zl dj hr.m rfl (pc (pv 0) (pc (aA (Zo (K:=K) rfl) (ZI (pc Zi (pc Zi Zc))) (ah ko (pv 2) Zi) (λ_ _=>rfl)) Zc))) Zi (Zs _)))))))) (Zj (Zy (jm (K:=K) rfl (bI a7f axz aXi ZB (pv 3) (pc (pv 4) Zc))))) Zu)))
   (Zj (Zq (pv 3))))),?_⟩
 refine ⟨_,rfl,b,a,q,c,4,rfl,B,by lia,by decide,by decide,λwy a1 c1 H1 w0 w1 B1 hc1 s1=>⟨(sl 0),λlf lT=>⟨_,_,rfl,?_⟩⟩⟩
 try dsimp only
 have s2:=Zf (H:=H1) lT (.lst [])
 have ef:upd H1 lf (.lst []) lf=some (.lst []):=Za
 have xw:b≠lf:=Zb B1.at' lT
 have B2:=B1.same s2
 have j6:H lf=none:=F5 s1 B1.at' lT
 have u2:SB b H (upd H1 lf (.lst [])):=s1.trans (s2.sb b)
 generalize upd H1 lf (.lst [])=H2 at *
 have lR:(row.map V.int).length=row.length:=aH5 ..
 refine ⟨_,rfl,lr,_,rfl,.inl (ak.of (u2 _ _ jV hR)),_,rfl,by lia,by lia,yQ (lo:=0) (n:=(((row.map V.int).length:Nat):Int).toNat) (λi σ G=>∃ (v4:Option V) (ms:List Nat) (a' c':Int),σ=[some (.ref b),some (.ref lr),some (.int wy),some (.ref lf),v4]/\G lf=some (.lst (mV ms))/\(∀ x∈ms,x<i)/\ms.Pairwise (·<·)/\ms.length<=i/\aG G b a' q c'/\c'<=c+1+i/\SB b H G)
  ⟨none,[],a1,c1,rfl,ef,λx h=>(nomatch h),List.Pairwise.nil,avG _,B2,by lia,u2⟩ ?_ ?_⟩
 .rintro i σ G hi ⟨v4,ms,a',c',rfl,gf,m1,m2,m3,Bg,hcg,sb⟩
  have hi':i<row.length:=by rw [lR] at hi; lia
  rw [aX2]
  refine gN ?_
  have OY:∀ x∈ms++[i],x<i+1:=λx hx=>by
   rcases bbY.mp hx with h | h
   .have:=m1 x h; lia
   .have e:x=i:=by simpa using h
    lia
  have OX:(ms++[i]).Pairwise (·<·):=by
   rw [pairwise_append]
   refine ⟨m2,by simp,λx hx y hy=>?_⟩
   have e:y=i:=by simpa using hy
   have:=m1 x hx
   lia
  have yes:∀ {a2 c2:Int} {G':Hp},G' lf=some (.lst (mV ms))->aG G' b a2 q c2->c2<=c+1+((i+1:Nat):Int)->SB b H G'->∃ (v4:Option V) (ms':List Nat) (a' c':Int),([some (.ref b),some (.ref lr),some (.int wy),some (.ref lf),some (.int (i:Int))]:St)=[some (.ref b),some (.ref lr),some (.int wy),some (.ref lf),v4]/\upd G' lf (.lst (mV ms++[V.int (i:Int)])) lf=some (.lst (mV ms'))/\(∀ x∈ms',x<i+1)/\ms'.Pairwise (·<·)/\ms'.length<=i+1/\aG (upd G' lf (.lst (mV ms++[V.int (i:Int)]))) b a' q c'/\c'<=c+1+((i+1:Nat):Int)/\SB b H (upd G' lf (.lst (mV ms++[V.int (i:Int)]))):=λ{a2 c2 G'} g1 g2 g3 g4 =>
   ⟨_,ms++[i],a2,c2,rfl,by rw [Za,yv]; rfl,OY,OX,by rw [aIt]; show _+1<=_; lia,⟨by rw [Ze xw]; exact g2.at',g2.a0,g2.q0,g2.q1,g2.c0⟩,g3,λx o nx e=>by rw [Ze (Zb e j6)]; exact g4 _ _ nx e⟩
  refine oq (λ_ G'=>∃ a2 c2:Int,G' lf=some (.lst (mV ms))/\aG G' b a2 q c2/\c2<=c+1+((i+1:Nat):Int)/\SB b H G') (λQ' k'=>?_) ?_
  .refine ⟨_,rfl,rfl,_,rfl,?_⟩
   have k0:=λv=>k' v G ⟨a',c',gf,Bg,by lia,sb⟩
   by_cases e1:wy=1
   .exact cE (by rw [e1]; simp) (k0 _)
   .refine bu (by simpa using e1) ⟨_,rfl,_,_,rfl,rfl,_,rfl,?_⟩
    by_cases e2:1<wy
    .refine cE (aPy e2) ⟨_,rfl,(sl 2),λp0 hp0=>?_⟩
     have q0:b≠p0:=Zb Bg.at' hp0
     have s5:=Zf (H:=G) hp0 (.lst [V.int 2,V.int 5])
     obtain ⟨n,hn,n0,n1⟩:∃ n:Int,cY [V.int 2,V.int 5] (wy - 2)=some (.int n)/\0<n/\n<=5:=by
      have:wy=2\/wy=3:=by lia
      rcases this with rfl | rfl
      .exact ⟨2,rfl,by decide,by decide⟩
      .exact ⟨5,rfl,by decide,by decide⟩
     refine ⟨_,rfl,_,_,rfl,rfl,p0,_,_,_,rfl,rfl,ak.of Za,hn,b,a',q,c',n,rfl,Bg.same s5,by lia,by lia,by lia,λr a2 c2 G2 r0 r1 B2 hc2 t2=>⟨rfl,_,rfl,k' _ _ ⟨a2,c2,t2 _ _ (aay xw) (s5 _ _ gf),B2,by lia,(sb.trans (s5.sb b)).trans t2⟩⟩⟩
    .exact bu (aXf e2) (k0 _)
  .rintro cc G' ⟨a2,c2,g1,g2,g3,g4⟩
   cases cc with
   | true=>exact cE rfl ⟨_,rfl,.inl ⟨rfl,_,ak.of g1⟩,_,rfl,lf,_,_,rfl,rfl,g1,Zn (by unfold mV; rw [aH5]; lia),yes g1 g2 g3 g4⟩
   | false=>exact bu rfl ⟨_,ms,a2,c2,rfl,g1,λx hx=>awZ (m1 x hx),m2,by lia,g2,g3,g4⟩
 .rintro σ G ⟨v4,ms,a',c',rfl,gf,m1,m2,m3,Bg,hcg,sb⟩
  rw [show (((row.map V.int).length:Nat):Int).toNat=row.length by rw [lR]; rfl] at m1 m3 hcg
  exact ⟨_,rfl,k lf G ms a' c' j6 gf m1 m2 m3 Bg hcg sb⟩
end
section
variable {sh pl:Int} {row:List Int}
theorem L7 (hl:row.length<=1000000) (hp:1<=pl):∃ ms:List Nat,(∀ x∈ms,x<row.length)/\aN sh pl row ms<=(row.length:Int) - Zx sh pl row:=by
 obtain ⟨c,e⟩:=rB (sh:=sh) hp row row.length (avG _)
 obtain ⟨ms,h1,h2⟩:=L8 hl (KR hp) (A1 hp e)
 refine ⟨ms,h1,?_⟩
 rw [FT hp]
 exact h2
theorem LL (hp:1<=pl) {ms:List Nat} (h:∀ x∈ms,x<row.length):(row.length:Int) - Zx sh pl row<=aN sh pl row ms:=by
 obtain ⟨c,e⟩:=rB (sh:=sh) hp row row.length (avG _)
 have q:=(A1 hp e).weak ms h
 rw [FT hp]
 exact q
theorem LK (hl:row.length<=1000000) (hp:1<=pl) {x:Int} (h:∀ ms:List Nat,(∀ y∈ms,y<row.length)->(row.length:Int) - x<=aN sh pl row ms):Zx sh pl row<=x:=by
 obtain ⟨ms,h1,h2⟩:=L7 (sh:=sh) hl hp
 have:=h ms h1
 lia
theorem KN {c:Int} (hc:∀ i,i<row.length->row.getD i 0 % sh=c) {ms:List Nat} (hm:∀ x∈ms,x<row.length):aN sh pl row ms=aN 1 pl row ms:=by
 unfold aN
 congr 2
 refine aoq λi hi=>?_
 have hi:=a1N.mp hi
 have e:dw sh row ms i (bz row i).toNat=dw 1 row ms i (bz row i).toNat:=by
  unfold dw
  have key:∀ m∈ms,eX sh row i (bz row i).toNat m=eX 1 row i (bz row i).toNat m:=λm hm'=>by
   unfold eX
   rw [hc m (hm m hm'),hc i hi,aPy rfl,aPy (by lia:row.getD m 0 % 1=row.getD i 0 % 1)]
  rw [aZg,abT,abT]
  constructor
  .rintro ⟨m,h1,h2⟩; exact ⟨m,h1,by rw [← key m h1]; exact h2⟩
  .rintro ⟨m,h1,h2⟩; exact ⟨m,h1,by rw [key m h1]; exact h2⟩
 unfold jP
 rw [e]
theorem UI {c:Int} (hl:row.length<=1000000) (hp:1<=pl) (hc:∀ i,i<row.length->row.getD i 0 % sh=c):aN 1 pl row (gu (pl - 1) row)=(row.length:Int) - Zx sh pl row:=by
 have a:=LL (sh:=sh) (row:=row) hp (fF (pl - 1) row)
 obtain ⟨ms,h1,h2⟩:=L7 (sh:=sh) hl hp
 have b:=LP (row:=row) (ay:=pl - 1) (by lia) ms
 rw [show pl - 1+1=pl by lia] at b
 rw [KN hc (fF (pl - 1) row)] at a
 rw [KN hc h1] at h2
 lia
theorem FQ (sh:Int) (row:List Int) (c:Int):aF sh row c=row.filter λx=>decide (x % sh=c):=by
 have e:∀ r:List Int,(List.range r.length).map (λi=>r.getD i 0)=r:=λr=>by
  apply aNj
  intro i
  rw [bdd]
  by_cases h:i<r.length
  .rw [aEb h,a8w h]
   show some (r.getD i 0)=_
   rw [aeu,a8w h]; rfl
  .rw [aAl (by rw [aqI]; lia),aAl (by lia)]; rfl
 unfold aF aV
 have f:=arH (List.filter λx=>decide (x % sh=c)) (e row)
 rw [List.filter_map] at f
 exact f
theorem Sv:aN sh pl row (dY sh pl row)=((cJ sh row).map λs=>aN 1 pl (aF sh row s) (gu (pl - 1) (aF sh row s))).sum:=by
 have so:∀ z∈dY sh pl row,z<row.length:=λz hz=>by
  obtain ⟨s,_,hs⟩:=bbV.mp hz
  exact (tU hs).1
 have la:∀ s,(aF sh row s).length=(aV sh row row.length s).length:=λs=>by unfold aF; rw [aH5]
 have c1:=GH (sh:=sh) (row:=row) (ms:=dY sh pl row) (λs=>gu (pl - 1) (aF sh row s)) so λs hs=>by
  refine ⟨λz hz=>by rw [← la]; exact fF _ _ z hz,λz hz=>?_⟩
  constructor
  .exact λh=>bbV.mpr ⟨s,hs,aea.mpr ⟨z,h,rfl⟩⟩
  .intro h
   obtain ⟨t,ht,h⟩:=bbV.mp h
   have et:t=s:=by rw [← (tU h).2,(gT hz).2]
   subst et
   obtain ⟨y,hy,e⟩:=aea.mp h
   have ly:y<(aV sh row row.length t).length:=by rw [← la]; exact fF _ _ y hy
   have:y=z:=by
    rcases abU y z with q | q | q
    .have:=cG hz q; lia
    .exact q
    .have:=cG ly q; lia
   rw [← this]; exact hy
 have l1:(dY sh pl row).length=((cJ sh row).map λs=>(gu (pl - 1) (aF sh row s)).length).sum:=by
  unfold dY
  rw [List.length_flatMap]
  congr 1
  refine anO λs _=>?_
  unfold i7
  rw [aH5]
 unfold aN
 rw [AW,← c1,← l1]
theorem Kr {a b:Int->Int}:∀ ks:List Int,(ks.map λs=>a s - b s).sum=(ks.map a).sum - (ks.map b).sum
 | []=>rfl
 | s :: ks=>by
  rw [ar3,ar3,ar3,a12,a12,a12,Kr ks]
  lia
theorem Kq {a:Int->Nat}:∀ ks:List Int,(ks.map λs=>(a s:Int)).sum=((ks.map a).sum:Nat)
 | []=>rfl
 | s :: ks=>by
  rw [ar3,ar3,a12,a12,Kq ks]
  lia
theorem S7 (hl:row.length<=1000000) (hp:1<=pl):Zx sh pl row=((cJ sh row).map λs=>Zx sh pl (row.filter λx=>decide (x % sh=s))).sum:=by
 have e:=Gw (sh:=sh) hl hp (ai0 (dY sh pl row)) (nJ (ai0 _)).1
 obtain ⟨k1,k2,_⟩:=p6 sh row row.length (avG _)
 rw [aqK] at k1 k2
 have len:=pL (sh:=sh) (row:=row) k1 (λ_=>true) row.length λi hi=>(k2 _).mpr ⟨i,hi,rfl⟩
 have each:(cJ sh row).map (λs=>aN 1 pl (aF sh row s) (gu (pl - 1) (aF sh row s)))=(cJ sh row).map λs=>(((aV sh row row.length s).countP (λ_=>true):Nat):Int) - Zx sh pl (row.filter λx=>decide (x % sh=s)):=by
  refine anO λs _=>?_
  have hm:∀ i,i<(aF sh row s).length->(aF sh row s).getD i 0 % sh=s:=λi hi=>by
   rw [aeu,a8w hi]
   have m:(aF sh row s)[i]∈row.filter λx=>decide (x % sh=s):=(FQ sh row s) ▸ aSd hi
   exact aTw (apP.mp m).2
  have ln:(aF sh row s).length<=row.length:=by rw [FQ]; exact aYO ..
  have q:=UI (sh:=sh) (pl:=pl) (by lia) hp hm
  rw [q,← FQ]
  congr 1
  unfold aF
  rw [aH5,List.countP_true]
 rw [Sv,each,Kr,Kq,← len,List.countP_true,aqI] at e
 lia
theorem S6 {f:Int->Int} {a b:List Int} (h:a.Perm b):(a.map f).sum=(b.map f).sum:=by
 induction h with
 | nil=>rfl
 | cons x _ ih=>rw [ar3,ar3,a12,a12,ih]
 | swap x y l=>rw [ar3,ar3,ar3,ar3,a12,a12,a12,a12]; lia
 | trans _ _ i1 i2=>exact i1.trans i2
theorem Lj {f:Int->Int}:∀ {a:List Int},(∀ x∈a,f x=0)->(a.map f).sum=0
 | [],_=>rfl
 | x :: a,h=>by rw [ar3,a12,h x aTs,Lj λy hy=>h y (akt _ hy)]; rfl
theorem T5:Zx sh pl []=0:=rfl
theorem T4 (hl:row.length<=1000000) (hp:1<=pl) (hs:1<=sh):(((List.range sh.toNat).map λk:Nat=>(k:Int)).map λs=>Zx sh pl (row.filter λx=>decide (x % sh=s))).sum=Zx sh pl row:=by
 obtain ⟨k1,k2,_⟩:=p6 sh row row.length (avG _)
 rw [aqK] at k1 k2
 rw [S7 hl hp]
 obtain ⟨L,eL⟩:∃ L,L=(List.range sh.toNat).map λk:Nat=>(k:Int):=⟨_,rfl⟩
 rw [← eL]
 have nd:L.Nodup:=by
  rw [eL]
  exact AZ nodup_range λx _ y _ e=>Int.ofNat.inj e
 have mem:∀ s,s∈L↔0<=s/\s<sh:=λs=>by
  rw [eL,mem_map]
  constructor
  .rintro ⟨k,hk,rfl⟩
   have:=a1N.mp hk
   lia
  .rintro ⟨h1,h2⟩
   exact ⟨s.toNat,a1N.mpr (by lia),by lia⟩
 have per:L.Perm (cJ sh row++L.filter λs=>!decide (s∈cJ sh row)):=by
  refine (axR nd ?_).mpr λs=>?_
  .rw [a15]
   refine ⟨k1,nd.sublist a9R,λx hx y hy e=>?_⟩
   have:=(apP.mp hy).2
   rw [← e] at this
   simp [hx] at this
  .rw [aov,mem_filter]
   constructor
   .intro h
    by_cases c:s∈cJ sh row
    .exact .inl c
    .exact .inr ⟨h,by simp [c]⟩
   .rintro (h | h)
    .obtain ⟨i,_,e⟩:=(k2 s).mp h
     rw [mem,← e]
     exact ⟨aZ2 _ (by lia),aby _ (by lia)⟩
    .exact h.1
 rw [S6 per,auU,List.sum_append,Lj (a:=L.filter λs=>!decide (s∈cJ sh row)) λs hs=>?_]
 .lia
 .have hs:=(apP.mp hs).2
  have ns:s∉cJ sh row:=by simpa using hs
  rw [List.filter_eq_nil_iff.mpr λx hx e=>ns ?_]
  .exact T5
  .obtain ⟨i,hi,ex⟩:=aIp.mp hx
   refine (k2 s).mpr ⟨i,hi,?_⟩
   rw [aeu,a8w hi,ex]
   exact aTw e
end
section
def qy (K:W.Frag):Sp:=λvs H Q _=>∃ (sh pl:Int) (a lo:Addr) (row:List Int) (os:List (Option Int)) (c:Int),vs=[.int sh,.int pl,.ref a,.ref lo]/\ak K H a (row.map V.int)/\H lo=some (.lst (os.map aK))/\1<=sh/\sh<=64/\row.length<=400/\dg sh pl row os=some c /\
 ∀ H',aq H H'->Q (.bl true) H'
theorem Su (F:bK K "fits" "fits" E8 f fd) (T:Txt K mg) (pJ:Def P w K mg base "count_misses" 3 ZZ (kI K)):aD P w K mg base bB 4 f fd E7 (qy K):=by
 refine F.ok kM (λvs H Q E h=>?_) (λcdv A outer st H vs Q E hr h=>?_)
 .obtain ⟨sh,pl,a,lo,row,os,c,rfl,_⟩:=h
  rfl
 obtain ⟨sh,pl,a,lo,row,os,c,rfl,hS,hO,hs0,hs1,hl,hc,k⟩:=h
 have nd:=kM.nd
 refine ⟨_,(Zj (Zq (Ff (Fv (Zl pJ hr.m rfl (pc (pv 0) (pc (pv 1) (pc (pv 2) (pc (pv 3) Zc))))))))),?_⟩
 refine ⟨_,rfl,_,rfl,_,rfl,_,rfl,sh,pl,a,lo,row,os,rfl,hS,hO,hs0,hs1,hl,λH1 s1=>?_⟩
 rw [hc]
 exact k H1 s1
def qD (K:W.Frag):Sp:=λvs H Q _=>∃ (a lm:Addr) (row:List Int) (ms:List Nat),vs=[.ref a,.ref lm]/\ak K H a (row.map V.int)/\H lm=some (.lst (mV ms))/\(∀ x∈ms,x<row.length)/\ms.Pairwise (·<·)/\∀ H',aq H H'->Q (.bl true) H'
theorem V8 (F:bK K "are_marks" "are_marks" Hl f fd) (T:Txt K mg) (uG:Def P w K mg base "is_number" 1 BJ ES):aD P w K mg base bB 2 f fd Hj (qD K):=by
 refine F.ok fm (λvs H Q E h=>?_) (λcdv A outer st H vs Q E hr h=>?_)
 .obtain ⟨a,lm,row,ms,rfl,_⟩:=h
  rfl
 obtain ⟨a,lm,row,ms,rfl,hS,hM,hm,hp,k⟩:=h
 have nd:=fm.nd
 refine ⟨_,(Zd (aI (k9 (ZY (Zk mO rfl T.jO ZO (pc (pv 1) (pc (ZW (v:=.ty "list") rfl T.nB ZU rfl) Zc))))) (Zj (Zq bO)) Zu)
   (Zd (bA 2 nd (cH l7 Zi))
   (Zd (kq aW3 rfl (ZL (K:=K) rfl (pv 1)) (bD 3 nd) (Zd (aI (PW.pt (pw_or (k9 (ZY (Zl uG hr.m rfl (pc (pv 3) Zc)))) (mj (k9 (TX cV cV (pv 2) (pv 3) (Zk (Zm (K:=K) rfl) rfl T.dX a21 (pc (pv 0) Zc))))))) (Zj (Zq bO)) Zu)
   (Zj (bA 2 nd (pv 3)))))
   (Zj (Zq bO))))),?_⟩
 refine ⟨_,rfl,_,_,_,rfl,(by simp only [kE,hM]:kE H (.ref lm)=some "list"),by decide,_,rfl,bu (by decide) ?_⟩
 dsimp only [d7]
 refine ⟨_,rfl,gN ?_⟩
 try dsimp only
 refine ⟨_,rfl,lm,rfl,⟨_,ak.of hM⟩,LJ (K:=K) (a:=lm) (xs:=mV ms) (λi σ G=>∃ (z:Int) (v3:Option V),σ=[some (.ref a),some (.ref lm),some (.int z),v3]/\(∀ y,ms[i]?=some y->z<(y:Int))/\aq H G) ⟨-1,_,rfl,λy _=>by lia,aq.refl _⟩ (λi σ G _ h=>by obtain ⟨_,_,_,_,s⟩:=h; exact ak.of (s _ _ hM)) ?_ ?_⟩
 .rintro i x σ G hx ⟨z,v3,rfl,hz,s1⟩
  obtain ⟨y,ey,rfl⟩:∃ y,ms[i]?=some y/\x=.int (y:Int):=by
   unfold mV at hx
   rw [bdd] at hx
   cases e:ms[i]? with
   | none=>rw [e] at hx; cases hx
   | some y=>rw [e] at hx; exact ⟨y,rfl,(bcC hx).symm⟩
  have hy:=hm y (aVV ey)
  have lt:=hz y ey
  refine gN ?_
  try dsimp only
  refine hide λu1 ee=>?_
  refine ⟨_,rfl,some (y:Int),rfl,_,rfl,bu rfl ⟨_,rfl,_,rfl,_,_,rfl,rfl,_,rfl,cE (aPy lt) ?_⟩⟩
  refine ⟨_,rfl,a,_,rfl,.inl (s1.seq hS),_,_,rfl,rfl,_,rfl,bu (by rw [aH5,aPy (by lia:(y:Int)<(row.length:Int))]; rfl) ?_⟩
  subst ee
  try dsimp only [d7]
  refine ⟨_,rfl,gN ⟨_,_,rfl,λy' e'=>?_,s1⟩⟩
  have h1:=(aWj.mp ey)
  have h2:=(aWj.mp e')
  obtain ⟨l1,v1⟩:=h1
  obtain ⟨l2,v2⟩:=h2
  have:=bcW.mp hp i (i+1) l1 l2 (ayu i)
  lia
 .rintro σ G ⟨z,v3,rfl,hz,s1⟩
  exact k G s1
def m7 (K:W.Frag):Sp:=λvs H Q _=>∃ (sh pl:Int) (a lo lm:Addr) (row:List Int) (os:List (Option Int)) (c:Int) (ms:List Nat),vs=[.int sh,.int pl,.ref a,.ref lo,.ref lm]/\ak K H a (row.map V.int)/\H lo=some (.lst (os.map aK))/\H lm=some (.lst (mV ms))/\1<=sh/\sh<=64/\row.length<=400/\dg sh pl row os=some c/\(∀ x∈ms,x<row.length)/\ms.Pairwise (·<·)/\ms.length<=900 /\
 ∀ H',aq H H'->Q (.bl (decide ((row.length:Int) - aN sh pl row ms=c))) H'
theorem WL (F:bK K "shows_least" "shows_least" GZ f fd) (T:Txt K mg) (pJ:Def P w K mg base "count_misses" 3 ZZ (kI K)) (Co:Def P w K mg base "are_marks" 2 Hj (qD K)) (uL:Def P w K mg base "bound" 3 Ba (ni K)):aD P w K mg base bB 4 f fd BW (m7 K):=by
 refine F.ok dG (λvs H Q E h=>?_) (λcdv A outer st H vs Q E hr h=>?_)
 .obtain ⟨sh,pl,a,lo,lm,row,os,c,ms,rfl,_⟩:=h
  rfl
 obtain ⟨sh,pl,a,lo,lm,row,os,c,ms,rfl,hS,hO,hM,hs0,hs1,hl,hc,hm,hp,l9,k⟩:=h
 have nd:=dG.nd
 refine ⟨_,(Zd (bA 5 nd (Zl pJ hr.m rfl (pc (pv 0) (pc (pv 1) (pc (pv 2) (pc (pv 3) Zc))))))
   (Zd (aI (PW.pt (pw_or (yy (AL (pv 5))) (mj (k9 (ZY (Zl Co hr.m rfl (pc (pv 2) (pc (pv 4) Zc)))))))) (Zj (Zq bO)) Zu)
   (Zj (Zq (k7 aQ (ah ko (Zk (Zm (K:=K) rfl) rfl T.dX a21 (pc (pv 2) Zc)) (Zl uL hr.m rfl (pc (pv 0) (pc (pv 1) (pc (pv 2) (pc (pv 4) Zc)))))) (pv 5) (Zs _)))))),?_⟩
 refine ⟨_,rfl,_,rfl,_,rfl,_,rfl,sh,pl,a,lo,row,os,rfl,hS,hO,hs0,hs1,hl,λH1 s1=>gN ?_⟩
 rw [hc]
 try dsimp only
 refine ⟨_,rfl,_,rfl,bu rfl ⟨_,rfl,_,rfl,a,lm,row,ms,rfl,s1.seq hS,s1 _ _ hM,hm,hp,λH2 s2=>⟨_,rfl,bu rfl ?_⟩⟩⟩
 dsimp only [d7]
 have s12:=s1.trans s2
 refine ⟨_,rfl,a,_,rfl,.inl (s12.seq hS),_,rfl,_,rfl,_,rfl,_,rfl,sh,pl,a,lm,row,ms,rfl,s12.seq hS,ak.of (s12 _ _ hM),hs0,hl,hm,l9,λH3 s3=>⟨_,_,rfl,rfl,_,rfl,rfl,?_⟩⟩
 have e:decide (V.int (((row.map V.int).length:Int) - aN sh pl row ms)=V.int c)=decide ((row.length:Int) - aN sh pl row ms=c):=by
  rw [aH5,aE1]
  exact ⟨λh=>V.int.inj h,λh=>arH V.int h⟩
 have q:=k H3 (s12.trans s3)
 rw [← e] at q
 exact q
end
section
def qv (K:W.Frag):Sp:=λvs H Q _=>∃ (sh pl:Int) (a:Addr) (row:List Int),vs=[.int sh,.int pl,.ref a]/\ak K H a (row.map V.int)/\1<=sh/\sh<=64/\1<=pl/\pl<=16/\row.length<=400/\mH 9999 row/\∀ H',aq H H'->Q (.bl true) H'
theorem S5 (F:bK K "_law_shown" "_law_shown" FO f fd) (T:Txt K mg) (uE:Def P w K mg base "farthest" 8 BP (ng K)) (uD:Def P w K mg base "marks_of" 3 BO (m9 K)) (Cu:Def P w K mg base "fits" 4 E7 (qy K)) (uJ:Def P w K mg base "shows_least" 4 BW (m7 K)) (rR:Def P w K mg base "least_misses" 9 BR (FE K)) (uL:Def P w K mg base "bound" 3 Ba (ni K)) (NV:∀ n,Def P w K mg base "_law_same" (n+1) rj (A9 n)):aD P w K mg base bB 10 f fd FN (qv K):=by
 refine F.ok jo (λvs H Q E h=>?_) (λcdv A outer st H vs Q E hr h=>?_)
 .obtain ⟨sh,pl,a,row,rfl,_⟩:=h
  rfl
 obtain ⟨sh,pl,a,row,rfl,hS,gO,iX,gX,fS,hl,bd,k⟩:=h
 have nd:=jo.nd
 have vL:=NV 0
 refine ⟨_,(Zd (AK (i:=3) (j:=4) rfl nd rfl rfl (by decide) rfl rfl (pc (Zl uE hr.m rfl (pc (pv 0) (pc (pv 1) (pc (pv 2) Zc)))) (pc (Zl uD hr.m rfl (pc (pv 0) (pc (pv 1) (pc (pv 2) Zc)))) Zc)) rfl)
   (Zd (aI (PW.pt (pw_or (Zp Ld (Zl Cu hr.m rfl (pc (pv 0) (pc (pv 1) (pc (pv 2) (pc (pv 3) Zc))))) bO (Zs _)) (mj (Zp Ld (Zl uJ hr.m rfl (pc (pv 0) (pc (pv 1) (pc (pv 2) (pc (pv 3) (pc (pv 4) Zc)))))) bO (Zs _))))) (Zj (Zq bO)) Zu)
   (Zj (Zq (Zl vL hr.m rfl (pc (Zl rR hr.m rfl (pc (pv 0) (pc (pv 1) (pc (pv 2) Zc)))) (pc (ah ko (Zk (Zm (K:=K) rfl) rfl T.dX a21 (pc (pv 2) Zc)) (Zl uL hr.m rfl (pc (pv 0) (pc (pv 1) (pc (pv 2) (pc (pv 4) Zc)))))) Zc))))))),?_⟩
 refine hide λu1 ee=>?_
 refine ⟨_,rfl,_,rfl,_,rfl,sh,pl,a,row,rfl,hS,gO,iX,gX,fS,hl,bd,λlo H1 hlo s1 eo=>⟨_,rfl,_,rfl,_,rfl,sh,pl,a,row,rfl,s1.seq hS,gO,hl,λlm H2 os pS s2 em po pw=>⟨_,_,rfl,?_⟩⟩⟩
 subst ee
 try dsimp only
 obtain ⟨mi,ml⟩:=nJ po
 have asc:=JU po pw
 have str:=Gw (by lia) gX po mi
 obtain ⟨c,hc,_⟩:=FU (sh:=sh) gX row
 have le:Zx sh pl row=c:=by unfold Zx; rw [hc]; rfl
 have s12:=s1.trans s2
 have eo:=s2 _ _ eo
 refine hide λu1 ee=>?_
 refine ⟨_,rfl,_,rfl,_,rfl,_,rfl,sh,pl,a,lo,row,_,(c:Int),rfl,s12.seq hS,eo,gO,iX,hl,hc,λH3 s3=>⟨_,_,rfl,rfl,_,rfl,bu rfl ?_⟩⟩
 refine ⟨_,rfl,_,rfl,_,rfl,_,rfl,_,rfl,sh,pl,a,lo,lm,row,_,(c:Int),os,rfl,(s12.trans s3).seq hS,s3 _ _ eo,s3 _ _ em,gO,iX,hl,hc,mi,asc,by lia,λH4 s4=>?_⟩
 rw [aPy (by rw [str,le]; lia:(row.length:Int) - aN sh pl row os=(c:Int))]
 refine ⟨_,_,rfl,rfl,_,rfl,bu rfl ?_⟩
 subst ee
 try dsimp only [d7]
 have pG:=s12.trans (s3.trans s4)
 refine ⟨_,rfl,_,rfl,_,rfl,sh,pl,a,row,rfl,pG.seq hS,gO,iX,gX,fS,hl,bd,λH5 s5=>?_⟩
 refine ⟨_,rfl,a,_,rfl,.inl ((pG.trans s5).seq hS),_,rfl,_,rfl,_,rfl,_,rfl,sh,pl,a,lm,row,os,rfl,(pG.trans s5).seq hS,ak.of (s5 _ _ (s4 _ _ (s3 _ _ em))),gO,hl,mi,by lia,λH6 s6=>⟨_,_,rfl,rfl,_,_,rfl,?_,λH7 s7=>k H7 (pG.trans (s5.trans (s6.trans s7)))⟩⟩
 rw [str,aH5]
 exact ⟨by show V.int _=V.int _; congr 1; lia,trivial⟩
end
theorem Ro (xs:List V) (n:Nat):gI xs none (some (n:Int))=xs.take n:=by
 unfold gI
 rw [HT.jv,HT.iY,drop_zero,aPP]
 by_cases c:n<=xs.length
 .rw [Nat.min_eq_left c]
 .rw [Nat.min_eq_right (by lia),ahx (avG _),ahx (by lia)]
theorem JJ {t:Int}:∀ {l:List Int},(∀ x∈l,0<=x/\x<=t)->0<=l.sum/\l.sum<=t * l.length
 | [],_=>⟨aB0 _,by simp⟩
 | x :: l,h=>by
  obtain ⟨i1,i2⟩:=JJ λy hy=>h y (akt _ hy)
  obtain ⟨h1,h2⟩:=h x aTs
  rw [a12,aRy,Int.natCast_add,Int.mul_add]
  lia
theorem S4 {sh pl:Int} {row:List Int} (hp:1<=pl):0<=Zx sh pl row/\Zx sh pl row<=row.length:=by
 obtain ⟨c,hc,h⟩:=FU (sh:=sh) hp row
 unfold Zx
 rw [hc]
 show 0<=(c:Int)/\(c:Int)<=_
 lia
def pK (sh:Int) (row:List Int) (s:Int):List Int:=row.filter λx=>decide (x % sh=s)
section
def Kp (K:W.Frag):Sp:=λvs H Q _=>∃ (b:Addr) (a q c:Int),vs=[.ref b]/\aG H b a q c/\c<300000000/\Tb K H/\∀ H',SB b H H'->Q (.bl true) H'
theorem SY (F:bK K "_law_right" "_law_right" p8 f fd) (T:Txt K mg) (Ce:Def P w K mg base "_law_shape" 2 Fi KL) (Cd:Def P w K mg base "_law_asked" 3 FP KJ) (dj:Def P w K mg base "_law_take" 1 rq tT) (uK:Def P w K mg base "_law_shown" 10 FN (qv K)) (Ck:Def P w K mg base "beneath" 3 GA (qB K)) (rR:Def P w K mg base "least_misses" 9 BR (FE K)) (uD:Def P w K mg base "marks_of" 3 BO (m9 K)) (Cg:Def P w K mg base "misses" 8 F9 (J4 K)) (Df:Def P w K mg base "_law_drawn_order" 2 GX (qz K)) (uF:Def P w K mg base "misses_by" 4 BI (rN K)) (Dn:Def P w K mg base "_law_some_marks" 2 GN (wm K)) (uJ:Def P w K mg base "shows_least" 4 BW (m7 K)):aD P w K mg base bB 11 f fd FL (Kp K):=by
 refine F.ok jr (λvs H Q E h=>?_) (λcdv A outer st H vs Q E hr h=>?_)
 .obtain ⟨b,a,q,c,rfl,_⟩:=h
  rfl
 obtain ⟨b,a,q,c,rfl,B,hc,tb,k⟩:=h
 have w9:tabOf K "Room" "going" ≠ b:=qK tb B.1 (by intro z; cases z)
 have nd:=jr.nd
 have hu:=cW hr
 refine ⟨_,(Zd (pq (Zl Ce hr.m rfl (pc (pv 0) Zc)) (kh (K:=K) (n:=3) rfl rfl (Zt (bD 1 nd) (Zt (bD 2 nd) (Zt (bD 3 nd) kj)))))
   (Zd (bA 4 nd (Zl Cd hr.m rfl (pc (pv 0) (pc Zi (pc Zi Zc)))))
   (Zd (bA 5 nd (yY (G9 (K:=K) rfl) rfl T.nB ZU (pc (pv 4) Zc)))
   (Zd (bA 6 nd (ZI (pc (pv 2) (pc Zi (pc (ah ZR Zi (Zl dj hr.m rfl (pc (pv 0) (pc Zi Zc)))) Zc)))))
   (Zd (aI (k9 (ZY (Zk (Gn rfl) rfl T.vK FZ (pc (oG (Zv (cj:=(Zg p8)) (oN:=cO) (N:=["_law_size", "_law_shelves", "_law_row"]) (own:=1) (js:=[1,4]) (by decide +kernel) rfl rfl) rfl (ZL (K:=K) rfl (pv 6)) (λ_ _ _ _ _ _=>(bD 0 (show List.Nodup (["_law_size", "_law_shelves", "_law_row"]:List Str) by decide +kernel))) (λ_ _ _ _ _ _=>(Zl uK hr.m rfl (pc (pv 1) (pc (pv 0) (pc (pv 2) Zc)))))) Zc)))) (Zj (Zq bO)) Zu)
   (Zd (aI (PW.pt (pw_or (k9 (ZY (Zl uK hr.m rfl (pc (oH (Zp cV (pv 1) Zi (Zs _)) (ah ZR (pv 1) Zi) Zi) (pc (pv 2) (pc (pv 4) Zc)))))) (mj (k9 (ZY (Zl uK hr.m rfl (pc (pv 1) (pc (pv 2) (pc (pv 4) Zc))))))))) (Zj (Zq bO)) Zu)
   (Zd (bA 7 nd (F0 (FW (K:=K) rfl) (ah Q6 (pv 4) Zi) vt (vq Zi)))
   (Zd (aI (Zp aQ (Zl dj hr.m rfl (pc (pv 0) (pc Zi Zc))) Zi (Zs _)) (Zd (bA 8 nd (Zl Ck hr.m rfl (pc (pv 1) (pc (pv 7) Zc))))
   (Zj (aI (PW.pt (pw_or (k9 (ZY (Zl uK hr.m rfl (pc (pv 1) (pc (pv 2) (pc (pv 7) Zc)))))) (mj (Zp iO (Zk (Zm (K:=K) rfl) rfl T.dX a21 (pc (pv 8) Zc)) (Zk (Zm (K:=K) rfl) rfl T.dX a21 (pc (pv 7) Zc)) (Zs _))))) (Zj (Zq bO)) Zu))) Zu)
   (Zd (pq (k8 (pc (Zl rR hr.m rfl (pc (pv 1) (pc (pv 2) (pc (pv 4) Zc)))) (pc (Zl uD hr.m rfl (pc (pv 1) (pc (pv 2) (pc (pv 4) Zc)))) Zc))) (kh (K:=K) (n:=2) rfl rfl (Zt (bD 9 nd) (Zt (bD 10 nd) kj))))
   (Zd (aI (ZY (Zk (Ms rfl) rfl T.zF Ly (pc (oG (Zv (cj:=(Zg p8)) (oN:=cO) (N:=["_law_one", "_law_least", "_law_shelves", "_law_places", "_law_row"]) (own:=1) (js:=[9,1,2,4]) (by decide +kernel) rfl rfl) rfl (RV (K:=K) rfl (k8 (pc rA (pc rA (pc rA Zc))))) (λ_ _ _ _ _ _=>(bD 0 (show List.Nodup (["_law_one", "_law_least", "_law_shelves", "_law_places", "_law_row"]:List Str) by decide +kernel))) (λ_ _ _ _ _ _=>(k7 cV (Zl Cg hr.m rfl (pc (pv 2) (pc (pv 3) (pc (pv 0) (pc (pv 4) Zc))))) (pv 1) (Zs _)))) Zc))) (Zj (Zq bO)) Zu)
   (Zd (kq aW3 rfl (ZM rfl T.jx (pc Zi Zc)) (bD 11 nd) (Zd (bA 12 nd (Zl Df hr.m rfl (pc (pv 0) (pc (pv 1) (pc (pv 2) (pc (pv 4) Zc))))))
   (Zd (bA 13 nd (Zl uF hr.m rfl (pc (pv 1) (pc (pv 2) (pc (pv 4) (pc (pv 12) Zc))))))
   (Zd (bA 14 nd (ZI (pc (pv 10) (pc (Zl Dn hr.m rfl (pc (pv 0) (pc (pv 4) Zc))) Zc))))
   (Zd (vz 15 (Zv (cj:=(Zg p8)) (oN:=cO) (N:=["_law_paper", "_law_shelves", "_law_places", "_law_row", "_law_choice"]) (own:=1) (js:=[1,2,4,12]) (by decide +kernel) rfl rfl) rfl nd rfl rfl (ZL (K:=K) rfl (pv 14)) (λ_ _ _ _ _ _=>(bD 0 (show List.Nodup (["_law_paper", "_law_shelves", "_law_places", "_law_row", "_law_choice"]:List Str) by decide +kernel))) (λ_ _ _ _ _ _=>(Zl uJ hr.m rfl (pc (pv 1) (pc (pv 2) (pc (pv 3) (pc (pv 4) (pc (pv 0) Zc))))))))
   (Zj (aI (PW.pt (pw_or (Zp cV (pv 13) (pv 9) (Zs _)) (pw_or (Zp iO (aA (Zo (K:=K) rfl) (pv 15) Zi (λ_ _=>rfl)) (k7 aQ (pv 13) (pv 9) (Zs _)) (Zs _)) (mj (PW.pt (tP (Zp nF (pv 13) (pv 9) (Zs _)) (tX (ZY (aA (Zo (K:=K) rfl) (pv 15) Zi (λ_ _=>rfl)))))))))) (Zj (Zq bO)) Zu)))))))
   (Zd (vz 16 (Zv (cj:=(Zg p8)) (oN:=cO) (N:=["_law_part", "_law_row", "_law_shelves"]) (own:=1) (js:=[4,1]) (by decide +kernel) rfl rfl) rfl nd rfl rfl (ZM rfl T.jx (pc (pv 1) Zc)) (λ_ _ _ _ _ _=>(bD 0 (show List.Nodup (["_law_part", "_law_row", "_law_shelves"]:List Str) by decide +kernel))) (λ_ _ _ _ _ _=>(BD (UN (cj:=(Zg p8)) (oN:=["_law_part", "_law_row", "_law_shelves"]) (N:=["_law_board", "_law_part", "_law_shelves"]) (own:=1) (js:=[0,2]) rfl rfl rfl (by decide +kernel)) rfl (ZL (K:=K) rfl (pv 1)) (λ_ _ _ _ _ _=>(bD 0 (show List.Nodup (["_law_board", "_law_part", "_law_shelves"]:List Str) by decide +kernel))) (λ_ _ _ _ _ _=>(Zp aQ (ah jd (pv 0) (pv 2)) (pv 1) (Zs _))) (λ_ _ _ _ _ _=>(pv 0)))))
   (Zd (aI (Zp (Q4 (K:=K) (Nat.lt_of_succ_lt hu) rfl) (pv 4) (pv 5) (Zs _)) (Zj (Zq bO)) Zu)
   (Zj (Zq (k7 aQ (pv 9) (Zk (U3 rfl) rfl T.Cs TH (pc (oG (Zv (cj:=(Zg p8)) (oN:=cO) (N:=["_law_part", "_law_shelves", "_law_places"]) (own:=1) (js:=[1,2]) (by decide +kernel) rfl rfl) rfl (ZL (K:=K) rfl (pv 16)) (λ_ _ _ _ _ _=>(bD 0 (show List.Nodup (["_law_part", "_law_shelves", "_law_places"]:List Str) by decide +kernel))) (λ_ _ _ _ _ _=>(Zl rR hr.m rfl (pc (pv 1) (pc (pv 2) (pc (pv 0) Zc)))))) Zc)) (Zs _))))))))))))))))),?_⟩
 refine hide λu1 ee=>?_
 refine ⟨_,rfl,b,a,q,c,rfl,B,by lia,λp sh pl ru a1 c1 H1 e1 gO iX gX fS qP B1 hc1 s1=>⟨p,_,rfl,bJ.of e1,rfl,_,_,rfl,gN ⟨_,_,rfl,gN ⟨_,_,rfl,gN ⟨rfl,?_⟩⟩⟩⟩⟩
 subst ee
 try dsimp only
 refine hide λu1 ee=>?_
 refine ⟨_,rfl,b,a1,q,c1,40,120,rfl,B1,by lia,by decide,by decide,by decide,λlr row a2 c2 H2 hlr e2 sA bd B2 hc2 s2=>gN ?_⟩
 subst ee
 try dsimp only
 have u2:=s1.trans s2
 have pO:lr≠b:=aay (Zb B1.at' hlr)
 refine hide λu1 ee=>?_
 refine ⟨_,rfl,lr,_,rfl,.inl (ak.of e2),λlk hlk=>gN ?_⟩
 have g4:=Zf hlk (.lst (row.map V.int)) _ _ e2
 have g5:upd H2 lk (.lst (row.map V.int)) lk=some (.lst (row.map V.int)):=Za
 have u5:SB b H (upd H2 lk (.lst (row.map V.int))):=u2.trans ((Zf hlk _).sb b)
 have DF:lk≠b:=aay (Zb B2.at' hlk)
 have B5:=B2.same (Zf hlk (.lst (row.map V.int)))
 have NZ:Tb K (upd H2 lk (.lst (row.map V.int))):=u5 _ _ w9 tb
 subst ee
 try dsimp only
 generalize upd H2 lk (.lst (row.map V.int))=H5 at *
 have DQ:row.length<=120:=by lia
 have Ao:row.length<=1000000:=by lia
 clear s1 s2 u2 B B1 B2 e1 e2 hlr hlk sA
 refine hide λu1 ee=>?_
 refine ⟨_,rfl,_,rfl,b,a2,q,c2,16,rfl,B5,by lia,by decide,by decide,λr1 a3 c3 H6 z9 Io B6 hc3 s6=>⟨_,_,rfl,rfl,(sl 3),λlz sN=>gN ?_⟩⟩
 subst ee
 try dsimp only
 have g4:=s6 _ _ pO g4
 have g5:=s6 _ _ DF g5
 have s7:=Zf sN (.lst [V.int pl,.int 1,.int (1+r1)])
 have gz:upd H6 lz (.lst [V.int pl,.int 1,.int (1+r1)]) lz=some (.lst ([pl,1,1+r1].map V.int)):=Za
 have B7:=B6.same s7
 have u7:SB b H (upd H6 lz (.lst [V.int pl,.int 1,.int (1+r1)])):=(u5.trans s6).trans (s7.sb b)
 generalize upd H6 lz (.lst [V.int pl,.int 1,.int (1+r1)])=H7 at *
 have g4:=s7 _ _ g4
 have g5:=s7 _ _ g5
 clear s6 s7 B6 B5 u5 NZ sN
 refine hide λu1 ee=>?_
 refine ⟨_,rfl,lz,rfl,⟨_,ak.of gz⟩,λl hl=>?_⟩
 refine ZH (K:=K) (a:=lz) (xs:=[pl,1,1+r1].map V.int) (l:=l) (λj ys σ G=>∃ v0:Option V,σ=[v0,some (.int sh),some (.ref lr)]/\ys=(List.replicate j true).map V.bl/\G l=some (.lst ys)/\aq H7 G) ⟨none,rfl,rfl,Za,Zf hl _⟩ (λj ys σ G _ h=>by obtain ⟨_,_,_,_,s⟩:=h; exact ak.of (s _ _ gz)) ?_ ?_
 .rintro j x ys σ G hj ic hys ⟨v0,rfl,rfl,gl,s1⟩
  obtain ⟨z,ez,rfl⟩:=oJ ic
  have hz:1<=z/\z<=16:=by
   have m:=aVV ez
   rcases aDl.mp m with rfl | m
   .exact ⟨gX,fS⟩
   .rcases aDl.mp m with rfl | m
    .lia
    .rw [adl.mp m]; lia
  exact ⟨_,rfl,_,rfl,_,rfl,sh,z,lr,row,rfl,ak.of (s1 _ _ g4),gO,iX,hz.1,hz.2,by lia,bd,λH8 s8=>dU.of (sl 3) hj hys (s8 _ _ gl) ⟨_,rfl,by rw [bb8,auU]; rfl,Za,λx o e=>by rw [Ze (Zb e hl)]; exact s8 _ _ (s1 _ _ e)⟩⟩
 rintro ys σ G _ ⟨v0,rfl,rfl,gl,s1⟩
 refine ⟨l,_,rfl,ak.of gl,_,rfl,?_⟩
 rw [show ∀ n,(List.replicate n true).all id=true from λn=>by rw [aY4]; intro z hz; rw [(aTI.mp hz).2]; rfl]
 refine bu rfl ?_
 subst ee
 try dsimp only [d7]
 have g4:=s1 _ _ g4
 have g5:=s1 _ _ g5
 have B8:=B7.same s1
 have u8:=u7.trans (s1.sb b)
 clear s1 gl gz hl B7 u7
 refine hide λu1 ee=>?_
 refine oq (λc G'=>c=false/\aq G G') (λQ' k'=>?_) ?_
 .refine yl (λc G'=>c=false/\aq G G') (λMU k''=>?_) ?_
  .refine ⟨_,rfl,_,_,rfl,rfl,_,rfl,ZC (λz=>⟨_,rfl,_,_,rfl,rfl,_,rfl,_,rfl,_,pl,lr,row,rfl,ak.of g4,by lia,by lia,gX,fS,by lia,bd,λH9 s9=>⟨_,rfl,k'' _ _ ⟨rfl,s9⟩⟩⟩) (λz=>⟨_,rfl,_,rfl,_,pl,lr,row,rfl,ak.of g4,by decide,by decide,gX,fS,by lia,bd,λH9 s9=>⟨_,rfl,k'' _ _ ⟨rfl,s9⟩⟩⟩)⟩
  .rintro c G2 ⟨rfl,s1⟩
   exact bu rfl ⟨_,rfl,_,rfl,_,rfl,sh,pl,lr,row,rfl,ak.of (s1 _ _ g4),gO,iX,gX,fS,by lia,bd,λH9 s9=>⟨_,rfl,k' _ _ ⟨rfl,s1.trans s9⟩⟩⟩
 rintro c G2 ⟨rfl,s1⟩
 refine bu rfl ?_
 subst ee
 try dsimp only [d7]
 have g4:=s1 _ _ g4
 have g5:=s1 _ _ g5
 have B9:=B8.same s1
 have u9:=u8.trans (s1.sb b)
 clear s1 B8 u8
 refine hide λu1 ee=>?_
 have xy:(row.map V.int).length * (400:Int).toNat<=120 * 400:=by rw [aH5]; exact Nat.mul_le_mul_right _ DQ
 refine ⟨_,rfl,lr,400,_,rfl,rfl,g4,by decide,by decide,ajJ xy (by decide),λlq Ea=>⟨_,rfl,lq,_,rfl,ak.of Za,λlg xT=>gN ?_⟩⟩
 obtain ⟨rg,AA⟩:∃ rg:List Int,rg=((List.replicate 400 row).flatten).take 400:=⟨_,rfl⟩
 have ec:gI (List.replicate (Int.toNat 400) (row.map V.int)).flatten none (some ((400:Nat):Int))=rg.map V.int:=by
  rw [Ro,AA,map_take,List.map_flatten,List.map_replicate]
  rfl
 have DO:rg.length<=400:=by rw [AA]; exact List.length_take_le ..
 have EJ:mH 9999 rg:=λx hx=>by
  rw [AA] at hx
  obtain ⟨l,hl,hx⟩:=List.mem_flatten.mp (mem_of_mem_take hx)
  rw [(aTI.mp hl).2] at hx
  exact bd x hx
 rw [show gI (List.replicate (Int.toNat 400) (row.map V.int)).flatten none (some 400)=rg.map V.int from ec]
 subst ee
 try dsimp only
 have s1:=(Zf Ea (.lst (List.replicate (Int.toNat 400) (row.map V.int)).flatten)).trans (Zf xT (.lst (rg.map V.int)))
 have DG:lg≠b:=aay (Zb (Zf Ea (.lst (List.replicate (Int.toNat 400) (row.map V.int)).flatten) _ _ B9.at') xT)
 have gg:=Za (H:=upd G2 lq (.lst (List.replicate (Int.toNat 400) (row.map V.int)).flatten)) (a:=lg) (o:=.lst (rg.map V.int))
 generalize upd (upd G2 lq (.lst (List.replicate (Int.toNat 400) (row.map V.int)).flatten)) lg (.lst (rg.map V.int))=BY at *
 have g4:=s1 _ _ g4
 have g5:=s1 _ _ g5
 have BZ:=B9.same s1
 have HW:=u9.trans (s1.sb b)
 clear s1 B9 u9 ec AA Ea xT xy
 refine hide λu1 ee=>?_
 refine qV (λσ G=>∃ (v8:Option V) (a' c':Int),σ=[some (.ref b),some (.int sh),some (.int pl),some (.str ru),some (.ref lr),some (.ref lk),some (.ref lz),some (.ref lg),v8,none,none,none,none,none,none,none,none]/\aG G b a' q c'/\c'<=c3+1/\SB b BY G) (λD' hD k'=>?_) ?_
 .refine ⟨_,rfl,b,a3,q,c3,16,rfl,BZ,by lia,by decide,by decide,λr2 a4 c4 W8 wQ wO M9 hc4 wG=>⟨rfl,_,rfl,ZC (λz=>?_) (λz=>k' _ _ ⟨_,a4,c4,rfl,M9,hc4,wG⟩)⟩⟩
  refine hide λu2 e2=>?_
  refine ⟨_,rfl,_,rfl,sh,lg,rg,rfl,ak.of (wG _ _ DG gg),gO,iX,DO,EJ,λld Yi lU s12 Qy=>gN ?_⟩
  subst e2
  try dsimp only
  have Jl:=s12 _ _ (wG _ _ DG gg)
  refine ⟨_,rfl,_,rfl,_,rfl,sh,pl,lg,rg,rfl,ak.of Jl,gO,iX,gX,fS,DO,EJ,λYh uA=>⟨_,rfl,bu rfl ?_⟩⟩
  refine ⟨_,rfl,ld,_,rfl,.inl (ak.of (uA _ _ Qy)),_,rfl,lg,_,rfl,.inl (ak.of (uA _ _ Jl)),rfl,_,rfl,bu (by rw [aH5,aH5,SG]; simp) ?_⟩
  dsimp only [d7]
  exact k' _ _ ⟨_,a4,c4,rfl,(M9.same s12).same uA,hc4,(wG.trans (s12.sb b)).trans (uA.sb b)⟩
 rintro σ W7 ⟨v8,a5,c5,rfl,HP,hc5,pG⟩
 subst ee
 try dsimp only
 have g4:=pG _ _ pO g4
 have g5:=pG _ _ DF g5
 have CD:=HW.trans pG
 clear pG HW BZ gg DG EJ DO
 have CF:Tb K W7:=CD _ _ w9 tb
 refine hide λu1 ee=>?_
 refine ⟨_,rfl,_,rfl,_,rfl,sh,pl,lr,row,rfl,ak.of g4,gO,iX,gX,fS,by lia,bd,λYg zV=>⟨_,rfl,_,rfl,_,rfl,sh,pl,lr,row,rfl,ak.of (zV _ _ g4),gO,by lia,λlm W6 os pS Ik em po pw=>⟨(sl 2),λtt uQ=>⟨tt,_,rfl,bJ.of Za,rfl,_,_,rfl,gN ⟨_,_,rfl,gN ⟨rfl,?_⟩⟩⟩⟩⟩⟩
 subst ee
 try dsimp only
 have em:=Zf uQ (.tup [.int (Zx sh pl row),.ref lm]) _ _ em
 have s1:=zV.trans (Ik.trans (Zf uQ (.tup [.int (Zx sh pl row),.ref lm])))
 generalize upd W6 tt (.tup [.int (Zx sh pl row),.ref lm])=HL at *
 have g4:=s1 _ _ g4
 have g5:=s1 _ _ g5
 have M8:=HP.same s1
 have CC:=CD.trans (s1.sb b)
 have vP:Tb K HL:=CC _ _ w9 tb
 have DE:lm≠b:=aay (Zb (zV _ _ HP.at') pS)
 obtain ⟨mi,ml⟩:=nJ po
 have asc:=JU po pw
 have str:=Gw Ao gX po mi
 clear s1 zV Ik HP CD CF pS po pw uQ
 have Il:∀ r:Str,Zx sh pl row<=(nK sh pl r row:Int):=λr=>LK Ao gX λms hm=>LN gX (Rp sh pl r row gX) ms hm
 refine hide λu1 ee=>?_
 refine ⟨(sl 3),λtt uQ=>⟨tt,rfl,⟨_,bJ.of Za⟩,λly sO=>?_⟩⟩
 have zU:=Zf uQ (.tup [.str "old",.str "come",.str "few"])
 have et:=Za (H:=HL) (a:=tt) (o:=.tup [.str "old",.str "come",.str "few"])
 generalize upd HL tt (.tup [.str "old",.str "come",.str "few"])=M4 at *
 have vO:Tb K M4:=zU _ _ vP
 refine Tz (K:=K) (a:=tt) (xs:=[.str "old",.str "come",.str "few"]) (l:=ly) (λj ys σ G=>∃ v0:Option V,σ=[v0,some (.int (Zx sh pl row)),some (.int sh),some (.int pl),some (.ref lr)]/\ys=(List.replicate j false).map V.bl/\G ly=some (.lst ys)/\aq M4 G) ⟨none,rfl,rfl,Za,Zf sO _⟩ (λj ys σ G _ h=>by obtain ⟨_,_,_,_,s⟩:=h; exact bJ.of (s _ _ et)) ?_ ?_
 .rintro j x ys σ G hj ic hys ⟨v0,rfl,rfl,gl,s1⟩
  obtain ⟨r,rfl,hr'⟩:∃ r:Str,x=.str r/\mC r:=by
   have m:=aVV ic
   rcases aDl.mp m with rfl | m
   .exact ⟨_,rfl,.inl rfl⟩
   .rcases aDl.mp m with rfl | m
    .exact ⟨_,rfl,.inr (.inl rfl)⟩
    .exact ⟨_,adl.mp m,.inr (.inr rfl)⟩
  refine ⟨_,rfl,_,rfl,_,rfl,_,rfl,sh,pl,r,lr,row,rfl,ak.of (s1 _ _ (zU _ _ g4)),gO,iX,gX,fS,hr',by lia,bd,s1 _ _ vO,λH5 t5=>?_⟩
  refine ⟨_,rfl,_,_,rfl,rfl,?_⟩
  have:=Il r
  dsimp only
  rw [aXf (by lia)]
  exact dU.of (sl 3) hj hys (t5 _ _ gl) ⟨_,rfl,by rw [bb8,auU]; rfl,Za,λx o e=>by rw [Ze (Zb e sO)]; exact t5 _ _ (s1 _ _ e)⟩
 rintro ys σ G _ ⟨v0,rfl,rfl,gl,s1⟩
 refine ⟨ly,_,rfl,ak.of gl,_,rfl,?_⟩
 rw [show ∀ n,(List.replicate n false).any id=false from λn=>by rw [any_eq_false]; intro z hz; rw [(aTI.mp hz).2]; exact aCK]
 refine bu rfl ?_
 subst ee
 try dsimp only [d7]
 have uz:=zU.trans s1
 have g4:=uz _ _ g4
 have g5:=uz _ _ g5
 have em:=uz _ _ em
 have HN:=M8.same uz
 have CB:=CC.trans (uz.sb b)
 clear uz zU s1 gl et uQ sO M8 CC vP vO Il
 obtain ⟨HK,Jz⟩:∃ HK,HK=G:=⟨_,rfl⟩
 rw [← Jz] at g4 g5 em HN CB ⊢
 clear Jz
 refine hide λu1 ee=>?_
 refine ⟨_,rfl,by decide,by decide,yQ (lo:=0) (n:=(4:Int).toNat) (λi σ G=>∃ (v11 CA Cz Cy Cw:Option V) (a' c':Int),σ=[some (.ref b),some (.int sh),some (.int pl),some (.str ru),some (.ref lr),some (.ref lk),some (.ref lz),some (.ref lg),v8,some (.int (Zx sh pl row)),some (.ref lm),v11,CA,Cz,Cy,Cw,none]/\aG G b a' q c'/\c'<=c5+241 * (i:Int)/\SB b HK G)
  ⟨_,_,_,_,_,a5,c5,rfl,HN,by lia,λx o _ e=>e⟩ ?_ ?_⟩
 .rintro i σ G hi ⟨v11,CA,Cz,Cy,Cw,a',c',rfl,B',hc',sb⟩
  have XX:i<4:=hi
  have Qn:=sb _ _ pO g4
  refine gN ?_
  refine nY λD' Qi=>?_
  try dsimp only
  refine hide λu1 ee=>?_
  refine ⟨_,rfl,_,rfl,_,rfl,_,rfl,b,lr,a',q,c',sh,pl,row,rfl,B',by lia,Qn,pO,by lia,gO,gX,λld G1 EA a6 c6 lU tE dl EB B6 hc6 s6=>gN ?_⟩
  subst ee
  try dsimp only
  obtain ⟨cm,Au⟩:=EB
  have X8:Zx sh pl row<=cm:=LK Ao gX λms hm=>LN gX Au ms hm
  have Ij:=sb.trans s6
  refine hide λu1 ee=>?_
  refine ⟨_,rfl,_,rfl,_,rfl,_,rfl,sh,pl,lr,ld,row,EA,cm,rfl,ak.of (Ij _ _ pO g4),tE,gO,iX,by lia,Au,λG2 t2=>gN ?_⟩
  subst ee
  try dsimp only
  have Ii:=Ij.trans (t2.sb b)
  have tE:=t2 _ _ tE
  have B7:=B6.same t2
  refine hide λu1 ee=>?_
  refine ⟨_,rfl,_,rfl,_,rfl,b,lr,a6,q,c6,row,rfl,B7,by lia,Ii _ _ pO g4,pO,by lia,λls G3 ms2 a7 c7 hls els IJ Oj XF B8 Je s7=>⟨(sl 2),λxA Eb=>gN ?_⟩⟩
  subst ee
  try dsimp only
  have ON:ld≠b:=aay (Zb B'.at' lU)
  have s8:=Zf Eb (.lst [V.ref lm,.ref ls])
  have Jv:=Za (H:=G3) (a:=xA) (o:=.lst [V.ref lm,.ref ls])
  have B9:=B8.same s8
  have CY:=(Ii.trans s7).trans (s8.sb b)
  have tE:=s8 _ _ (s7 _ _ ON tE)
  have els:=s8 _ _ els
  generalize upd G3 xA (.lst [V.ref lm,.ref ls])=G4 at *
  have Qu:=CY _ _ DE em
  have Jq:=CY _ _ pO g4
  refine hide λu1 ee=>?_
  refine ⟨_,rfl,xA,rfl,⟨_,ak.of Jv⟩,λly sO=>?_⟩
  refine ZH (K:=K) (a:=xA) (xs:=[V.ref lm,.ref ls]) (l:=ly) (λj ys σ G=>∃ v0:Option V,σ=[v0,some (.int sh),some (.int pl),some (.ref lr),some (.ref ld)]/\ys=([decide ((row.length:Int) - aN sh pl row os=cm),decide ((row.length:Int) - aN sh pl row ms2=cm)].take j).map V.bl/\G ly=some (.lst ys)/\aq G4 G) ⟨none,rfl,rfl,Za,Zf sO _⟩ (λj ys σ G _ h=>by obtain ⟨_,_,_,_,s⟩:=h; exact ak.of (s _ _ Jv)) ?_ ?_
  .rintro j x ys σ G hj ic hys ⟨v0,rfl,rfl,gl,s1⟩
   have sm:([V.ref lm,.ref ls]:List V).length<=sizeLine:=by show 2<=sizeLine; decide
   have hj2:j<2:=hj
   rcases (show j=0\/j=1 by lia) with rfl | rfl
   .have hx:V.ref lm=x:=by simpa using ic
    subst hx
    exact ⟨_,rfl,_,rfl,_,rfl,_,rfl,_,rfl,sh,pl,lr,ld,lm,row,EA,cm,os,rfl,ak.of (s1 _ _ Jq),s1 _ _ tE,s1 _ _ Qu,gO,iX,by lia,Au,mi,asc,by lia,λH5 t5=>dU.of sm hj hys (t5 _ _ gl) ⟨_,rfl,rfl,Za,λx o e=>by rw [Ze (Zb e sO)]; exact t5 _ _ (s1 _ _ e)⟩⟩
   .have hx:V.ref ls=x:=by simpa using ic
    subst hx
    exact ⟨_,rfl,_,rfl,_,rfl,_,rfl,_,rfl,sh,pl,lr,ld,ls,row,EA,cm,ms2,rfl,ak.of (s1 _ _ Jq),s1 _ _ tE,s1 _ _ els,gO,iX,by lia,Au,IJ,Oj,by lia,λH5 t5=>dU.of sm hj hys (t5 _ _ gl) ⟨_,rfl,rfl,Za,λx o e=>by rw [Ze (Zb e sO)]; exact t5 _ _ (s1 _ _ e)⟩⟩
  rintro ys σ G5 _ ⟨v0,rfl,rfl,gl,s1⟩
  refine gN ?_
  subst ee
  try dsimp only
  have CZ:=CY.trans (s1.sb b)
  have BZ:=B9.same s1
  have w2:=LL (sh:=sh) (row:=row) gX IJ
  have e1:decide ((row.length:Int) - aN sh pl row os=cm)=decide (cm=Zx sh pl row):=by rw [str,aE1]; lia
  have gl:G5 ly=some (.lst [.bl (decide (cm=Zx sh pl row)),.bl (decide ((row.length:Int) - aN sh pl row ms2=cm))]):=by rw [← e1]; exact gl
  have fin:D'.nx ([some (.ref b),some (.int sh),some (.int pl),some (.str ru),some (.ref lr),some (.ref lk),some (.ref lz),some (.ref lg),v8,some (.int (Zx sh pl row)),some (.ref lm),some (.int (0+(i:Int))),some (.ref ld),some (.int cm),some (.ref xA),some (.ref ly),none]) G5:=Qi _ _ ⟨_,_,_,_,_,a7,c7,rfl,BZ,by lia,CZ⟩
  have w3:Zx sh pl row<cm->decide ((row.length:Int) - aN sh pl row ms2=cm)=false:=λh=>aXf (by lia)
  have e2:decide (V.int cm=V.int (Zx sh pl row))=decide (cm=Zx sh pl row):=aE1.mpr ⟨λh=>V.int.inj h,λh=>arH V.int h⟩
  generalize decide ((row.length:Int) - aN sh pl row ms2=cm)=w at *
  refine ⟨_,rfl,_,rfl,_,_,rfl,rfl,_,rfl,bu (aXf (by lia)) ?_⟩
  refine ⟨_,rfl,ly,_,_,_,rfl,rfl,ak.of gl,l5,_,rfl,_,rfl,rfl,rfl,_,rfl,bu (by rw [e2]; simp) ?_⟩
  refine ⟨_,rfl,_,rfl,_,_,rfl,rfl,_,rfl,ZC (λz=>⟨_,rfl,ly,_,_,_,rfl,rfl,ak.of gl,p5,_,rfl,bu (w3 z) fin⟩) (λz=>bu rfl fin)⟩
 rintro σ W5 ⟨v11,CA,Cz,Cy,Cw,a8,c8,rfl,Yk,P5,sb⟩
 subst ee
 try dsimp only
 have g4:=sb _ _ pO g4
 have g5:=sb _ _ DF g5
 have HV:=CB.trans sb
 clear sb CB HN em
 refine hide λu1 ee=>?_
 refine ⟨_,rfl,_,rfl,by lia,by lia,λlp Am=>?_⟩
 have XN:lp≠lr:=aay (Zb g4 Am)
 refine tZ (lo:=0) (n:=sh.toNat) (l:=lp) (λj ys σ G=>∃ (v0:Option V) (as:List Addr),σ=[v0,some (.ref lr),some (.int sh)]/\ys=as.map V.ref/\as.length=j/\(∀ (i:Nat) (a:Addr),as[i]?=some a->G a=some (.lst ((pK sh row (i:Int)).map V.int)))/\G lp=some (.lst ys)/\aq W5 G)
  ⟨none,[],rfl,rfl,rfl,λ(i:Nat) (a:Addr) (e:([]:List Addr)[i]?=some a)=>(by simp at e),Za,Zf Am _⟩ ?_ ?_
 .rintro j ys σ G hj hys ⟨v0,as,rfl,rfl,hl,hat,gl,s1⟩
  rw [aX2]
  refine ⟨_,rfl,lr,rfl,⟨_,ak.of (s1 _ _ g4)⟩,λl2 hl2=>?_⟩
  refine ZH (K:=K) (a:=lr) (xs:=row.map V.int) (l:=l2) (λi zs σ G2=>∃ v0:Option V,σ=[v0,some (.int (j:Int)),some (.int sh)]/\zs=((row.take i).filter λx=>decide (x % sh=(j:Int))).map V.int/\G2 l2=some (.lst zs)/\aq G G2)
   ⟨none,rfl,rfl,Za,Zf hl2 _⟩ (λi zs σ G2 _ h=>by obtain ⟨_,_,_,_,s⟩:=h; exact ak.of (s _ _ (s1 _ _ g4))) ?_ ?_
  .rintro i x zs σ G2 hi hx hzs ⟨v0,rfl,rfl,ya,s2⟩
   obtain ⟨y,ey,rfl⟩:=oJ hx
   have tk:(row.take (i+1)).filter (λx=>decide (x % sh=(j:Int)))=(row.take i).filter (λx=>decide (x % sh=(j:Int)))++if y % sh=(j:Int) then [y] else []:=by
    rw [aK1,ey,azg]
    congr 1
    show List.filter _ [y]=_
    rw [amZ,filter_nil]
    simp only [acz]
   refine ⟨_,rfl,_,rfl,_,_,rfl,rfl,by lia,_,rfl,rfl,_,rfl,SK (λc=>?_) (λc=>?_)⟩
   .rw [aHZ c] at tk
    exact ⟨_,rfl,dU.of (aM8 (Zn (by rw [aH5]; lia))) hi hzs ya ⟨_,rfl,by rw [tk,auU]; rfl,Za,λx o e=>by rw [Ze (Zb e hl2)]; exact s2 _ _ e⟩⟩
   .rw [bd2 c,aOr] at tk
    exact kD.of hi hzs ⟨_,rfl,by rw [tk],ya,s2⟩
  .rintro zs σ G2 _ ⟨v0,rfl,rfl,ya,s2⟩
   rw [aH5,aqK] at ya
   have gp:=s2 _ _ gl
   have n2:l2≠lp:=aay (Zb gl hl2)
   refine dU.of (aM8 (Zn (by lia))) hj hys gp ⟨_,as++[l2],rfl,by rw [auU]; rfl,by rw [aIt,hl]; rfl,λi a e=>?_,Za,λx o e=>by rw [Ze (Zb e Am)]; exact s2 _ _ (s1 _ _ e)⟩
   by_cases ci:i<as.length
   .rw [aZu ci] at e
    have h1:=hat i a e
    have na:a≠lp:=λz=>by
     rw [z,gl] at h1
     have h1:=HO.lst.inj (bcC h1)
     have:(as.map V.ref)[i]?=some (.ref a):=by rw [bdd,e]; rfl
     rw [h1,bdd] at this
     cases e3:(pK sh row (i:Int))[i]? with
     | none=>rw [e3] at this; cases this
     | some z=>rw [e3] at this; cases this
    rw [Ze na]
    exact s2 _ _ h1
   .have ei:i=j:=by
     have:=(aWj.mp e).1
     rw [aIt] at this
     have:i<as.length+1:=this
     lia
    subst ei
    rw [arE (by lia),hl,aGA] at e
    cases e
    rw [Ze n2]
    exact ya
 rintro ys σ G _ ⟨v0,as,rfl,rfl,hl,hat,gl,s1⟩
 refine gN ?_
 subst ee
 try dsimp only
 have g4:=s1 _ _ g4
 have g5:=s1 _ _ g5
 have NX:=HV.trans (s1.sb b)
 clear s1 HV Am
 refine hide λu1 ee=>?_
 refine ⟨_,rfl,_,rfl,lr,lk,row,row,rfl,rfl,ak.of g4,ak.of g5,_,rfl,bu (by simp) ?_⟩
 subst ee
 try dsimp only [d7]
 have O9:sh.toNat<=64:=by lia
 refine ⟨_,rfl,_,rfl,lp,rfl,⟨_,ak.of gl⟩,λlw Ja=>?_⟩
 refine ZH (K:=K) (a:=lp) (xs:=as.map V.ref) (l:=lw) (λj ys σ G2=>∃ v0:Option V,σ=[v0,some (.int sh),some (.int pl)]/\ys=(((List.range j).map λk:Nat=>(k:Int)).map λs=>Zx sh pl (pK sh row s)).map V.int/\G2 lw=some (.lst ys)/\aq G G2)
  ⟨none,rfl,rfl,Za,Zf Ja _⟩ (λi ys σ G2 _ h=>by obtain ⟨_,_,_,_,s⟩:=h; exact ak.of (s _ _ gl)) ?_ ?_
 .rintro j x ys σ G2 hj hx hys ⟨v0,rfl,rfl,gw,s2⟩
  obtain ⟨a,ea,rfl⟩:∃ a,as[j]?=some a/\x=V.ref a:=by
   rw [bdd] at hx
   cases e:as[j]? with
   | none=>rw [e] at hx; cases hx
   | some a=>rw [e] at hx; exact ⟨a,rfl,(bcC hx).symm⟩
  have gp:=s2 _ _ (hat j a ea)
  have Pa:(pK sh row (j:Int)).length<=row.length:=aYO ..
  exact ⟨_,rfl,_,rfl,_,rfl,sh,pl,a,_,rfl,ak.of gp,gO,iX,gX,fS,by lia,λx hx=>bd x (apP.mp hx).1,λH5 t5=>dU.of (aM8 (Zn (by rw [aH5]; lia))) hj hys (t5 _ _ gw) ⟨_,rfl,by rw [aCe,auU,auU,auU]; rfl,Za,λx o e=>by rw [Ze (Zb e Ja)]; exact t5 _ _ (s2 _ _ e)⟩⟩
 rintro ys σ G2 _ ⟨v0,rfl,rfl,gw,s2⟩
 rw [aH5,hl] at gw
 have Yd:(100000:Int)<2 ^ 63:=by decide
 have inl:∀ z:Int,0<=z->z<=100000->InLong z:=λz h1 h2=>⟨by lia,by lia⟩
 have pb:∀ s,0<=Zx sh pl (pK sh row s)/\Zx sh pl (pK sh row s)<=120:=λs=>by
  have h1:=S4 (sh:=sh) (row:=pK sh row s) gX
  have Pa:(pK sh row s).length<=row.length:=aYO ..
  lia
 have tot:=T4 (sh:=sh) (row:=row) Ao gX gO
 obtain ⟨zs,ez⟩:∃ zs,zs=((List.range sh.toNat).map λk:Nat=>(k:Int)).map λs=>Zx sh pl (pK sh row s):=⟨_,rfl⟩
 have tot:zs.sum=Zx sh pl row:=by rw [ez]; exact tot
 have zb:∀ x∈zs,0<=x/\x<=120:=λx hx=>by
  rw [ez] at hx
  obtain ⟨s,_,rfl⟩:=aea.mp hx
  exact pb s
 have zl:zs.length<=64:=by rw [ez,aH5,aH5,aqI]; exact O9
 rw [← ez] at gw
 refine ⟨lw,zs,rfl,ak.of gw,λj hj=>⟨?_,?_⟩,rfl,?_⟩
 .obtain ⟨h1,h2⟩:=zb zs[j] (aSd hj)
  rw [aeu,a8w hj]
  exact inl _ h1 (aJd h2 (by decide))
 .obtain ⟨h1,h2⟩:=JJ (l:=zs.take (j+1)) λx hx=>zb x (mem_of_mem_take hx)
  have:(zs.take (j+1)).length<=zs.length:=List.length_take_le' ..
  exact inl _ h1 (by lia)
 .have e:decide (V.int (Zx sh pl row)=V.int zs.sum)=true:=aPy (by rw [tot])
  show Q (V.bl _) _
  rw [e]
  exact k _ (NX.trans (s2.sb b))
end
section
def kG (K:W.Frag):Sp:=λvs H Q _=>∃ (a:Addr) (ns:List Int),vs=[.ref a]/\ak K H a (ns.map V.int)/\ns.length<=63/\Tb K H/\∀ H',Q (.bl true) H'
theorem QO (F:bK K "law" "law" eN f fd) (T:Txt K mg) (Cq:Def P w K mg base "_law_box" 1 oK (qA K)) (Cf:Def P w K mg base "_law_folded" 1 F7 (LZ K)) (Cc:Def P w K mg base "_law_right" 11 FL (Kp K)):aD P w K mg base bB 12 f fd jJ (kG K):=by
 refine F.ok nj (λvs H Q E h=>?_) (λcdv A outer st H vs Q E hr h=>?_)
 .obtain ⟨a,ns,rfl,_⟩:=h
  rfl
 obtain ⟨a,ns,rfl,hS,h63,tb,k⟩:=h
 have nd:=nj.nd
 have hu:=cW hr
 refine ⟨_,(Zd (bA 1 nd (Zl Cf hr.m rfl (pc (pv 0) (pc Zi Zc))))
   (Zj (Zq (Zk (Gn rfl) rfl T.vK FZ (pc (oG (Zv (cj:=(Zg eN)) (oN:=oQ) (N:=["_law_k", "_law_cells"]) (own:=1) (js:=[1]) (by decide +kernel) rfl rfl) rfl (ZM rfl T.jx (pc (Zk (Mj rfl) rfl T.vJ FY (pc Zi (pc (Zk (Zm (K:=K) rfl) rfl T.dX a21 (pc (pv 1) Zc)) Zc))) Zc)) (λ_ _ _ _ _ _=>(bD 0 (show List.Nodup (["_law_k", "_law_cells"]:List Str) by decide +kernel))) (λ_ _ _ _ _ _=>(Zl Cc hr.m rfl (pc (Zl Cq hr.m rfl (pc (pv 1) (pc (pv 0) Zc))) Zc)))) Zc))))),?_⟩
 refine ⟨_,rfl,a,ns,3,rfl,hS,h63,by decide,by decide,λr ms H1 hr' s1 e1 lm=>?_⟩
 have lc:(if ((ms.map V.int).length:Int) > 2 then ((ms.map V.int).length:Int) else 2)<=63:=by rw [aH5]; split <;> lia
 refine ⟨_,rfl,r,_,rfl,.inl (ak.of e1),_,_,rfl,_,rfl,?_,?_,λl hl'=>?_⟩
 .split <;> lia
 .lia
 generalize (if ((ms.map V.int).length:Int) > 2 then ((ms.map V.int).length:Int) else 2)=n at *
 have OU:n.toNat<=63:=by lia
 have Ir:r≠l:=Zb e1 hl'
 have Ia:=tb.same s1
 have qJ:tabOf K "Room" "going" ≠ l:=Zb Ia hl'
 refine tZ (lo:=0) (n:=n.toNat) (l:=l) (λj ys σ G=>∃ v0:Option V,σ=[v0,some (.ref r)]/\ys=(List.replicate j true).map V.bl/\G l=some (.lst ys)/\G r=some (.lst (ms.map V.int))/\Tb K G)
  ⟨none,rfl,rfl,Za,by rw [Ze Ir]; exact e1,by unfold Tb; rw [Ze qJ]; exact Ia⟩ ?_ ?_
 .rintro j ys σ G hj hy ⟨v0,rfl,rfl,g1,g2,g3⟩
  refine ⟨_,rfl,_,rfl,r,ms,_,rfl,ak.of g2,by lia,by lia,λb ba bq G1 hb t1 B1=>?_⟩
  refine ⟨b,ba,bq,0,rfl,B1,by decide,g3.same t1,λG2 t2=>?_⟩
  have jV:l≠b:=Zb g1 hb
  have OD:r≠b:=Zb g2 hb
  have w9:tabOf K "Room" "going" ≠ b:=Zb g3 hb
  refine dU.of (ajJ OU (by decide)) hj hy (t2 _ _ jV (t1 _ _ g1)) ⟨_,rfl,by rw [bb8,auU]; rfl,Za,?_,?_⟩
  .rw [Ze Ir]
   exact t2 _ _ OD (t1 _ _ g2)
  .unfold Tb
   rw [Ze qJ]
   exact t2 _ _ w9 (t1 _ _ g3)
 .rintro ys σ G hy ⟨v0,rfl,rfl,g1,g2,g3⟩
  refine ⟨l,_,rfl,ak.of g1,?_⟩
  rw [show (List.replicate n.toNat true).all id=true by rw [aY4]; intro z hz; rw [(aTI.mp hz).2]; rfl]
  exact k G
end
theorem fS {us:List Value} {n:Nat} (h:us.length=n+1):∃ v r,us=v :: r/\r.length=n:=by
 cases us with
 | nil=>cases h
 | cons v r=>exact ⟨v,r,rfl,Nat.succ.inj h⟩
theorem uO {fn:Value->Value->Value->Option Addr->Value->Value->FuncData} {ps:List Str} (h:∀ a b c d e f v0,bindArgs (fn a b c d e f) ⟨[v0],[]⟩=pure (ps.zip [v0])) (hp:ps.length=1:=by rfl) (a b c:Value) (d:Option Addr) (e f:Value) (us:List Value) (hl:us.length=ps.length):bindArgs (fn a b c d e f) ⟨us,[]⟩=pure (ps.zip us):=by
 rw [hp] at hl
 obtain ⟨v0,r0,rfl,q0⟩:=fS hl
 cases aSi q0
 exact h a b c d e f v0
theorem ln2 {fn:Value->Value->Value->Option Addr->Value->Value->FuncData} {ps:List Str} (h:∀ a b c d e f v0 v1,bindArgs (fn a b c d e f) ⟨[v0,v1],[]⟩=pure (ps.zip [v0,v1])) (hp:ps.length=2:=by rfl) (a b c:Value) (d:Option Addr) (e f:Value) (us:List Value) (hl:us.length=ps.length):bindArgs (fn a b c d e f) ⟨us,[]⟩=pure (ps.zip us):=by
 rw [hp] at hl
 obtain ⟨v0,r0,rfl,q0⟩:=fS hl
 obtain ⟨v1,r1,rfl,q1⟩:=fS q0
 cases aSi q1
 exact h a b c d e f v0 v1
theorem pQ {fn:Value->Value->Value->Option Addr->Value->Value->FuncData} {ps:List Str} (h:∀ a b c d e f v0 v1 v2,bindArgs (fn a b c d e f) ⟨[v0,v1,v2],[]⟩=pure (ps.zip [v0,v1,v2])) (hp:ps.length=3:=by rfl) (a b c:Value) (d:Option Addr) (e f:Value) (us:List Value) (hl:us.length=ps.length):bindArgs (fn a b c d e f) ⟨us,[]⟩=pure (ps.zip us):=by
 rw [hp] at hl
 obtain ⟨v0,r0,rfl,q0⟩:=fS hl
 obtain ⟨v1,r1,rfl,q1⟩:=fS q0
 obtain ⟨v2,r2,rfl,q2⟩:=fS q1
 cases aSi q2
 exact h a b c d e f v0 v1 v2
theorem pP {fn:Value->Value->Value->Option Addr->Value->Value->FuncData} {ps:List Str} (h:∀ a b c d e f v0 v1 v2 v3,bindArgs (fn a b c d e f) ⟨[v0,v1,v2,v3],[]⟩=pure (ps.zip [v0,v1,v2,v3])) (hp:ps.length=4:=by rfl) (a b c:Value) (d:Option Addr) (e f:Value) (us:List Value) (hl:us.length=ps.length):bindArgs (fn a b c d e f) ⟨us,[]⟩=pure (ps.zip us):=by
 rw [hp] at hl
 obtain ⟨v0,r0,rfl,q0⟩:=fS hl
 obtain ⟨v1,r1,rfl,q1⟩:=fS q0
 obtain ⟨v2,r2,rfl,q2⟩:=fS q1
 obtain ⟨v3,r3,rfl,q3⟩:=fS q2
 cases aSi q3
 exact h a b c d e f v0 v1 v2 v3
theorem IL {fn:Value->Value->Value->Option Addr->Value->Value->FuncData} {ps:List Str} (h:∀ a b c d e f v0 v1 v2 v3 v4,bindArgs (fn a b c d e f) ⟨[v0,v1,v2,v3,v4],[]⟩=pure (ps.zip [v0,v1,v2,v3,v4])) (hp:ps.length=5:=by rfl) (a b c:Value) (d:Option Addr) (e f:Value) (us:List Value) (hl:us.length=ps.length):bindArgs (fn a b c d e f) ⟨us,[]⟩=pure (ps.zip us):=by
 rw [hp] at hl
 obtain ⟨v0,r0,rfl,q0⟩:=fS hl
 obtain ⟨v1,r1,rfl,q1⟩:=fS q0
 obtain ⟨v2,r2,rfl,q2⟩:=fS q1
 obtain ⟨v3,r3,rfl,q3⟩:=fS q2
 obtain ⟨v4,r4,rfl,q4⟩:=fS q3
 cases aSi q4
 exact h a b c d e f v0 v1 v2 v3 v4
def cZ (K:W.Frag) (nm:Str) (st:Stmt):Prop:=∃ (f:Addr) (od an:Option Addr) (sl:Array (Option Value)) (oc kV dc pm cd ct:Value),W.nsIn K mainGlobals nm=some (some (.ref f))/\K.lookup f=some ⟨oc,od,.func (W.fnOf nm nm (ki st) (ZN st) (Zg st) .none kV dc pm an cd ct),sl⟩/\W.codeIn K cd nm=true/\W.keepIn K (.ref f)=true
def mG (K:W.Frag) (Ca:Addr) (nm q:Str) (st:Stmt):Prop:=∃ (f:Addr) (od an:Option Addr) (sl:Array (Option Value)) (oc kV dc pm cd ct:Value),W.findIn K (.ref Ca) nm=some (some (.ref f))/\W.isFn K (.ref f)=true/\K.lookup f=some ⟨oc,od,.func (W.fnOf nm q (ki st) (ZN st) (Zg st) .none kV dc pm an cd ct),sl⟩/\W.codeIn K cd q=true/\W.keepIn K (.ref f)=true
theorem cZ.mk {K:W.Frag} {nm:Str} {st:Stmt} {f:Addr} {od an:Option Addr} {sl:Array (Option Value)} {oc kV dc pm cd ct:Value} (a:W.nsIn K mainGlobals nm=some (some (.ref f))) (l:K.lookup f=some ⟨oc,od,.func (W.fnOf nm nm (ki st) (ZN st) (Zg st) .none kV dc pm an cd ct),sl⟩) (c:W.codeIn K cd nm=true) (k:W.keepIn K (.ref f)=true):cZ K nm st:=⟨_,_,_,_,_,_,_,_,_,_,a,l,c,k⟩
theorem mG.mk {K:W.Frag} {Ca:Addr} {nm q:Str} {st:Stmt} {f:Addr} {od an:Option Addr} {sl:Array (Option Value)} {oc kV dc pm cd ct:Value} (a:W.findIn K (.ref Ca) nm=some (some (.ref f))) (i:W.isFn K (.ref f)=true) (l:K.lookup f=some ⟨oc,od,.func (W.fnOf nm q (ki st) (ZN st) (Zg st) .none kV dc pm an cd ct),sl⟩) (c:W.codeIn K cd q=true) (k:W.keepIn K (.ref f)=true):mG K Ca nm q st:=⟨_,_,_,_,_,_,_,_,_,_,a,i,l,c,k⟩
def zy (P:Program) (w:World) (K:W.Frag) (mg:Str->Option Value) (base:Heap):Prop:=∃ h,K.In h/\h.Ns mainGlobals mg
section
variable {P:Program} {w:World} {K:W.Frag} {mg:Str->Option Value} {base:Heap} {Ca:Addr} {nm q:Str} {st:Stmt} {n:Nat} {ps:List Str} {sp:Sp} (B:zy P w K mg base)
include B
theorem zy.df (x:cZ K nm st) (ok:∀ {f fd},bK K nm nm st f fd->aD P w K mg base bB n f fd ps sp) (hb:∀ (kV dc pm:Value) (an:Option Addr) (cd ct:Value) (us:List Value),us.length=ps.length->bindArgs (W.fnOf nm nm (ki st) (ZN st) (Zg st) .none kV dc pm an cd ct) ⟨us,[]⟩=pure (ps.zip us)):Def P w K mg base nm n ps sp:=by
 obtain ⟨f,od,an,sl,oc,kV,dc,pm,cd,ct,a,l,c,k⟩:=x
 obtain ⟨h,X,G⟩:=B
 have F:=vf l c k
 exact ⟨_,_,ok F,W.mg_of X G a,F.kp,F.binds hb⟩
theorem zy.md (x:mG K Ca nm q st) (ok:∀ {f fd},bK K nm q st f fd->aD P w K mg base bB n f fd ps sp) (hb:∀ (kV dc pm:Value) (an:Option Addr) (cd ct:Value) (us:List Value),us.length=ps.length->bindArgs (W.fnOf nm q (ki st) (ZN st) (Zg st) .none kV dc pm an cd ct) ⟨us,[]⟩=pure (ps.zip us)):dS P w K mg base Ca nm n ps sp:=by
 obtain ⟨f,od,an,sl,oc,kV,dc,pm,cd,ct,a,i,l,c,k⟩:=x
 have F:=vf l c k
 exact ⟨_,_,ok F,⟨a,i,k⟩,F.binds hb⟩
theorem zy.kd {y:Str} (x:mG K Ca "__init__" q st) (mk:W.makesIn K Ca=true) (kc:W.keepIn K (.ref Ca)=true) (aC:W.nsIn K mainGlobals y=some (some (.ref Ca))) (ok:∀ {f fd},bK K "__init__" q st f fd->aD P w K mg base bB n f fd ps sp) (hb:∀ (kV dc pm:Value) (an:Option Addr) (cd ct:Value) (us:List Value),us.length=ps.length->bindArgs (W.fnOf "__init__" q (ki st) (ZN st) (Zg st) .none kV dc pm an cd ct) ⟨us,[]⟩=pure (ps.zip us)):ue P w K mg base Ca y n ps sp:=by
 obtain ⟨f,od,an,sl,oc,kV,dc,pm,cd,ct,a,i,l,c,k⟩:=x
 obtain ⟨h,X,G⟩:=B
 have F:=vf l c k
 exact ⟨_,_,ok F,⟨mk,a,i,kc⟩,W.mg_of X G aC,F.binds hb⟩
end
theorem QN {l:W.OpenLaw} {w:World} {K:W.Frag} {h:Heap} {mg:Str->Option Value} {fa:Addr} {tp cg:Addr} (X:K.In h) (G:h.Ns mainGlobals mg) (PU:mg "law" = some (.ref fa))
  {aP:Addr} (oF:W.nsIn K mainGlobals "Room" = some (some (.ref aP)))
  (x0:cZ K "_law_take" E6)
  (x1:cZ K "_law_box" nv)
  (x2:cZ K "_law_folded" F8)
  (x3:cZ K "_law_some_boards" BV)
  (x4:cZ K "_law_shape" Fj)
  (x5:cZ K "_law_asked" Fg)
  (a6:W.nsIn K mainGlobals "_law_same" = some (some (.ref f6))) (l6:K.lookup f6=some ⟨w6,Xs,.func (W.fnOf "_law_same" "_law_same" (ki rm) (ZN rm) (Zg rm) .none XQ X6 Xo Ye QC X7),Xi⟩) (c6:W.codeIn K QC "_law_same" = true) (k6:W.keepIn K (.ref f6)=true)
  (x7:cZ K "shelf_of" GD)
  (x8:mG K aP "has" "Room.has" GC)
  (x9:mG K aP "mates" "Room.mates" GS)
  (NR:mG K aP "need" "Room.need" Hf)
  (JI:W.findIn K (.ref aP) "going" = some (some (.ref Eu))) (Pu:W.isFn K (.ref Eu)=true) (IM:K.lookup Eu=some ⟨OA,Ow,.func (W.fnOf "going" "Room.going" (ki ZE) (ZN ZE) (Zg ZE) .none Pj QA Ol QH (.ref cg) QB),N8⟩) (QF:W.codeIn K (.ref cg) "Room.going" = true) (IP:W.keepIn K (.ref Eu)=true)
  (NQ:mG K aP "drop" "Room.drop" Hh)
  (NP:mG K aP "use" "Room.use" GL)
  (NO:mG K aP "__init__" "Room.__init__" BG)
  (NN:mG K aP "leaver_for" "Room.leaver_for" Ht)
  (NL:mG K aP "bring" "Room.bring" GV)
  (NK:cZ K "ask" ny)
  (NJ:cZ K "run_row" Bk)
  (NI:cZ K "misses" Bv)
  (NH:cZ K "beneath_at" GR)
  (NG:cZ K "beneath" Bj)
  (NF:cZ K "is_number" Hr)
  (ND:cZ K "may_go" Gb)
  (NC:cZ K "come" E9)
  (NB:cZ K "count_misses" BS)
  (Nz:cZ K "asked_again" G8)
  (Ny:cZ K "farthest" yX)
  (Nv:cZ K "misses_by" Hq)
  (Nu:cZ K "least_misses" Hw)
  (Nt:cZ K "returns_of" BU)
  (Nr:cZ K "is_marked" BH)
  (Nq:cZ K "bound" Bb)
  (Np:cZ K "places_by_shelf" Hv)
  (Nn:cZ K "cheapest_ahead" Hy)
  (Nm:cZ K "least_marks" G7)
  (Nl:cZ K "marks_of" yW)
  (Nk:cZ K "_law_drawn_order" yS)
  (Nj:cZ K "_law_some_marks" GO)
  (Ni:cZ K "fits" E8)
  (Nh:cZ K "are_marks" Hl)
  (Ng:cZ K "shows_least" GZ)
  (Nf:cZ K "_law_shown" FO)
  (Nd:cZ K "_law_right" p8)
  (QI:W.nsIn K mainGlobals "law" = some (some (.ref Ju))) (Pg:K.lookup Ju=some ⟨Ox,Ov,.func (W.fnOf "law" "law" (ki eN) (ZN eN) (Zg eN) .none DU EC Du EL yo EE),N7⟩) (QE:W.codeIn K yo "law" = true) (Pk:W.keepIn K (.ref Ju)=true)
  (zG:W.nsIn K mainGlobals "abs" = some none)
  (vK:W.nsIn K mainGlobals "all" = some none)
  (zF:W.nsIn K mainGlobals "any" = some none)
  (vM:W.nsIn K mainGlobals "bool" = some none)
  (Cj:W.nsIn K mainGlobals "divmod" = some none)
  (wR:W.nsIn K mainGlobals "enumerate" = some none)
  (um:W.nsIn K mainGlobals "int" = some none)
  (jO:W.nsIn K mainGlobals "isinstance" = some none)
  (dX:W.nsIn K mainGlobals "len" = some none)
  (nB:W.nsIn K mainGlobals "list" = some none)
  (vJ:W.nsIn K mainGlobals "max" = some none)
  (zK:W.nsIn K mainGlobals "min" = some none)
  (jx:W.nsIn K mainGlobals "range" = some none)
  (Ct:W.nsIn K mainGlobals "set" = some none)
  (zJ:W.nsIn K mainGlobals "sorted" = some none)
  (vI:W.nsIn K mainGlobals "str" = some none)
  (Cs:W.nsIn K mainGlobals "sum" = some none)
  (zH:W.nsIn K mainGlobals "tuple" = some none)
  (vH:W.nsIn K mainGlobals "zip" = some none)
  (rV:W.plainGet K aP Str.empty=true) (sQ:W.hasDictIn K aP=true) (rT:W.plainOver K aP=true) (rP:W.findIn K (.ref aP) "__setattr__" = some (some (.builtin "object.__setattr__"))) (rZ:W.makesIn K aP=true) (sC:W.keepIn K (.ref aP)=true)
  (i6:W.findIn K (.ref aP) "places" = some none)
  (jX:W.findIn K (.ref aP) "rule" = some none)
  (iC:W.findIn K (.ref aP) "shelves" = some none)
  (gZ:W.findIn K (.ref aP) "standing" = some none)
  (jW:W.findIn K (.ref aP) "uses" = some none)
  (ch:W.codeHdIn K cg tp=true) (kt:K.lookup tp=none)
  : tabOf K "Room" "going" = tp/\(∃ c0,W.codeHdIn K c0 tp=true)/\K.lookup tp=none/\∃ fd:FuncData,(∀ (s:Shared) (v:Value),BindsTo s fd ⟨[v],[]⟩ [("_law_script",v)])/\∀ base:Heap,K.In base->base.Ns mainGlobals mg->BMod base mg->aD l.prog w K mg base bB 12 fa fd jJ (kG K):=by
 have e:=PU.symm.trans (W.mg_of X G QI)
 cases e
 have sZ:=Ul oF
 subst sZ
 have T:Txt K mg:=⟨a3E X G zG,a3E X G vK,a3E X G zF,a3E X G vM,a3E X G Cj,a3E X G wR,a3E X G um,a3E X G jO,a3E X G dX,a3E X G nB,a3E X G vJ,a3E X G zK,a3E X G jx,a3E X G Ct,a3E X G zJ,a3E X G vI,a3E X G Cs,a3E X G zH,a3E X G vH,⟨rV,sQ,rT,rP⟩,i6,jX,iC,gZ,jW⟩
 have F6:=vf (st:=rm) l6 c6 k6
 have yt:=F6.binds (ps:=rj) (ln2 λ_ _ _ _ _ _ _ _=>rfl)
 have M6:=vf (st:=ZE) IM QF IP
 have yr:=M6.binds (ps:=yR) (ln2 λ_ _ _ _ _ _ _ _=>rfl)
 have M5:=vf (st:=eN) Pg QE Pk
 have JF:=M5.binds (ps:=jJ) (uO λ_ _ _ _ _ _ _=>rfl)
 have tq:=Uk JI IM rfl ch
 refine ⟨tq,⟨_,ch⟩,kt,?_⟩
 refine ⟨W.fnOf "law" "law" (ki eN) (ZN eN) (Zg eN) .none DU EC Du EL yo EE,λs v=>.of_eq rfl,λbase _ _ bm=>?_⟩
 have B:zy l.prog w K mg base:=⟨_,X,G⟩
 have dj:=B.df x0 (λF=>SM F T ) (ln2 λ_ _ _ _ _ _ _ _=>rfl)
 have Cq:=B.df x1 (λF=>RB F T ) (ln2 λ_ _ _ _ _ _ _ _=>rfl)
 have Cf:=B.df x2 (λF=>U7 F T ) (ln2 λ_ _ _ _ _ _ _ _=>rfl)
 have Dh:=B.df x3 (λF=>WQ F T dj) (ln2 λ_ _ _ _ _ _ _ _=>rfl)
 have Ce:=B.df x4 (λF=>Ub F T dj) (uO λ_ _ _ _ _ _ _=>rfl)
 have Cd:=B.df x5 (λF=>Ua F T dj Dh) (pQ λ_ _ _ _ _ _ _ _ _=>rfl)
 have vL:=LX (P:=l.prog) (w:=w) (base:=base) F6 yt (W.mg_of X G a6) T 
 have iL:=B.df x7 (λF=>Wg F T ) (ln2 λ_ _ _ _ _ _ _ _=>rfl)
 have pH:=B.md x8 (λF=>Wf F T ) (ln2 λ_ _ _ _ _ _ _ _=>rfl)
 have mJ:=B.md x9 (λF=>WJ F T iL) (ln2 λ_ _ _ _ _ _ _ _=>rfl)
 have uH:=B.md NR (λF=>Wu F T pH) (ln2 λ_ _ _ _ _ _ _ _=>rfl)
 have Ds:dS l.prog w K mg base (aB K "Room") "going" 2 yR (FH K):=⟨_,_,WI M6 rfl tq ch bm T ,⟨JI,Pu,IP⟩,yr⟩
 have Dl:=B.md NQ (λF=>Wt F T uH mJ) (ln2 λ_ _ _ _ _ _ _ _=>rfl)
 have Cn:=B.md NP (λF=>We F T uH mJ) (ln2 λ_ _ _ _ _ _ _ _=>rfl)
 have Cv:=B.kd NO rZ sC oF (λF=>Ws F T ) (pP λ_ _ _ _ _ _ _ _ _ _=>rfl)
 have Dk:=B.md NN (λF=>WV F T mJ Ds) (ln2 λ_ _ _ _ _ _ _ _=>rfl)
 have Dr:=B.md NL (λF=>WH F T pH Dk mJ Dl) (ln2 λ_ _ _ _ _ _ _ _=>rfl)
 have Cr:=B.df NK (λF=>Rv F T pH Cn Dr) (ln2 λ_ _ _ _ _ _ _ _=>rfl)
 have Cm:=B.df NJ (λF=>VW F T Cv Cr) (pP λ_ _ _ _ _ _ _ _ _ _=>rfl)
 have Cg:=B.df NI (λF=>UD F T Cm) (pP λ_ _ _ _ _ _ _ _ _ _=>rfl)
 have Dq:=B.df NH (λF=>WG F T iL) (pQ λ_ _ _ _ _ _ _ _ _=>rfl)
 have Ck:=B.df NG (λF=>VV F T Dq) (ln2 λ_ _ _ _ _ _ _ _=>rfl)
 have uG:=B.df NF (λF=>Wr F T ) (uO λ_ _ _ _ _ _ _=>rfl)
 have Ci:=B.df ND (λF=>UC F T uG) (pP λ_ _ _ _ _ _ _ _ _ _=>rfl)
 have uo:=B.df NC (λF=>SD F T ) (pQ λ_ _ _ _ _ _ _ _ _=>rfl)
 have pJ:=B.df NB (λF=>WT F T iL Ci uo) (pP λ_ _ _ _ _ _ _ _ _ _=>rfl)
 have pI:=B.df Nz (λF=>WO F T ) (uO λ_ _ _ _ _ _ _=>rfl)
 have uE:=B.df Ny (λF=>Wc F T iL uo pI) (pQ λ_ _ _ _ _ _ _ _ _=>rfl)
 have uF:=B.df Nv (λF=>Wa F T pJ) (pP λ_ _ _ _ _ _ _ _ _ _=>rfl)
 have rR:=B.df Nu (λF=>WS F T uE uF) (pQ λ_ _ _ _ _ _ _ _ _=>rfl)
 have Dp:=B.df Nt (λF=>Wq F T pI) (uO λ_ _ _ _ _ _ _=>rfl)
 have Cp:=B.df Nr (λF=>V9 F T iL) (IL λ_ _ _ _ _ _ _ _ _ _ _=>rfl)
 have uL:=B.df Nq (λF=>Tg F T Dp Cp) (pP λ_ _ _ _ _ _ _ _ _ _=>rfl)
 have Dj:=B.df Np (λF=>WU F T iL) (ln2 λ_ _ _ _ _ _ _ _=>rfl)
 have Di:=B.df Nn (λF=>WX F T ) (pQ λ_ _ _ _ _ _ _ _ _=>rfl)
 have Dg:=B.df Nm (λF=>WN F T pI Di) (ln2 λ_ _ _ _ _ _ _ _=>rfl)
 have uD:=B.df Nl (λF=>Wb F T Dj Dg) (pQ λ_ _ _ _ _ _ _ _ _=>rfl)
 have Df:=B.df Nk (λF=>WM F T dj) (pP λ_ _ _ _ _ _ _ _ _ _=>rfl)
 have Dn:=B.df Nj (λF=>Wo F T dj) (ln2 λ_ _ _ _ _ _ _ _=>rfl)
 have Cu:=B.df Ni (λF=>Su F T pJ) (pP λ_ _ _ _ _ _ _ _ _ _=>rfl)
 have Co:=B.df Nh (λF=>V8 F T uG) (ln2 λ_ _ _ _ _ _ _ _=>rfl)
 have uJ:=B.df Ng (λF=>WL F T pJ Co uL) (IL λ_ _ _ _ _ _ _ _ _ _ _=>rfl)
 have uK:=B.df Nf (λF=>S5 F T uE uD Cu uJ rR uL vL) (pQ λ_ _ _ _ _ _ _ _ _=>rfl)
 have Cc:=B.df Nd (λF=>SY F T Ce Cd dj uK Ck rR uD Cg Df uF Dn uJ) (uO λ_ _ _ _ _ _ _=>rfl)
 exact QO M5 T Cq Cf Cc
theorem walk {l:W.OpenLaw} {q:Program} {loose:List Str} {XP:(Str->Option Value)->Heap->Prop} {YP:World->Heap->Prop} {d:DefRec} {K:Params->W.Frag} {tp:Addr} (hn:l.most=some 63) (hdf:d.params.defaults=[])
  (hY:∀ (w:World) (h:Heap),YP w h->(K w.params).In h/\h.get? tp=some { cls:=.none,data:=.fields #[] })
  (F:∀ (w:World) (mg:Str->Option Value) (fa:Addr) (h:Heap),(K w.params).In h->h.Ns mainGlobals mg->mg d.name=some (.ref fa) ->
   tabOf (K w.params) "Room" "going" = tp/\(∃ c0,W.codeHdIn (K w.params) c0 tp=true)/\(K w.params).lookup tp=none/\∃ fd:FuncData,(∀ (s:Shared) (u:Value),BindsTo s fd ⟨[u],[]⟩ [("_law_script",u)])/\∀ base:Heap,(K w.params).In base->base.Ns mainGlobals mg->BMod base mg->aD l.prog w (K w.params) mg base bB 12 fa fd jJ (kG (K w.params))) :
  W.WalkO q loose XP YP l.row.toRowW d [] (λf vs=>PySem.call f vs) :=
 L2.Um (tp:=tp) (pos:=tpos) (qual:=mQ) (G:=λw=>tabOf (K w.params) "Room" "going" = tp) (n:=63) (k:=12) (x := "_law_script") (CX:=λ_=>bB) (sp:=λw=>kG (K w.params)) hn (by decide) hdf ⟨rfl,by decide,by decide,rfl⟩ hY F (λ_ _ a ns g hl hT hS=>⟨a,ns,rfl,hS,hl,(by unfold Tb; rw [g]; exact hT),λ_=>rfl⟩) λ_ _ _ _ _ z=>z
end oV
namespace PySem.W.Fast
abbrev Q:=Nat
open Lean in
local macro_rules|`(command|#reduce 0)=>do
 let f:=λ(n:Name)=>`(command|def $(mkIdent (.mkSimple s!"tw{n.hash}")):ident:=Q)
 let mut r:=#[<-f `PySem.Challenge.pw_nearstairs_k68_whole_the_least_and_its_p]
 for (x,l) in [("o_",List.range' 43 404),("tree_",[47,70,85,100,115,163,239,248,339,415,446]),("heap_",[39,46,447]),("sts_",[49,71,86,101,116,164,240,249,340,416]),("env_",[41]),("view_",[39])] do for i in l do r:=r.push (<-f (.str `PySem.Challenge.cw_nearstairs_k68_whole_the_least_and_its_p_holds s!"{x}{i}"))
 return mkNullNode r
#reduce 0
end PySem.W.Fast
open PySem PySem.W PyProof.Rows
set_option maxRecDepth 100000 in
set_option maxHeartbeats 0 in
theorem PySem.Challenge.cw_nearstairs_k68_whole_the_least_and_its_p_holds : PySem.Challenge.rw_nearstairs_k68_whole_the_least_and_its_p.Holds := by
 w_on; o_law; k_head; (case hw=>w_witness2)
 k_fill
 refine oV.walk (l:=PySem.Challenge.rw_nearstairs_k68_whole_the_least_and_its_p) rfl rfl (λw h Y=>⟨PySem.W.km_in_of Y,PySem.W.km_tabs_of Y _ mem_cons_self⟩) ?F
 case F =>
  intro w mg fa h KX G hmg
  refine' oV.QN KX G hmg ?_ ?_ ?_ ?_ ?_ ?_ ?_ ?_ ?_ ?_ ?_ ?_ ?_ ?_ ?_ ?_ ?_ ?_ ?_ ?_ ?_ ?_ ?_ ?_ ?_ ?_ ?_ ?_ ?_ ?_ ?_ ?_ ?_ ?_ ?_ ?_ ?_ ?_ ?_ ?_ ?_ ?_ ?_ ?_ ?_ ?_ ?_ ?_ ?_ ?_ ?_ ?_ ?_ ?_ ?_ ?_ ?_ ?_ ?_ ?_ ?_ ?_ ?_ ?_ ?_ ?_ ?_ ?_ ?_ ?_ ?_ ?_ ?_ ?_ ?_ ?_ ?_ ?_ ?_ ?_ ?_ ?_ ?_ ?_ ?_ ?_ ?_ ?_
  all_goals try refine' oV.cZ.mk ?_ ?_ ?_ ?_
  all_goals try refine' oV.mG.mk ?_ ?_ ?_ ?_ ?_
  all_goals try k_is
  all_goals kernel_rfl
