import PyProof.Rows.All
import Wide.All
import OpenK.AllK
import Wide.FinOn
import Lean
import PyProof.EqAt
import PyProof.EqKinds
import PyProof.TupleCall
import KE.KDictSum
import KE.KTryDeep
import KE.KTryMore
import PyProof.NsDelKeeps
import PyProof.FString
import PyProof.Rows.SetFrom
import KE.KItemsList
import PySem.Challenge.RW_nearstairs_k28_written_through
open List (all_cons all_eq_true any_cons any_eq_false any_eq_true any_map append_assoc append_nil drop_drop drop_of_length_le drop_sublist drop_take drop_zero filter_cons find?_cons getD_eq_getElem?_getD getElem?_append_left getElem?_append_right getElem?_drop getElem?_eq_getElem getElem?_eq_none getElem?_eq_some_iff getElem?_map getElem?_range getElem?_replicate getElem?_set_ne getElem?_set_self getElem_drop getElem_mem getElem_take length_append length_cons length_drop length_filter_le length_map length_range length_replicate length_set length_singleton length_take map_append map_congr_left map_cons map_id map_map map_nil map_set mem_append mem_append_left mem_append_right mem_cons mem_cons_of_mem mem_cons_self mem_erase_of_ne mem_filter mem_iff_getElem mem_map mem_map_of_mem mem_of_getElem? mem_of_mem_erase mem_range mem_replicate mem_singleton nodup_cons nodup_nil not_mem_nil pairwise_append pairwise_cons pairwise_iff_getElem pairwise_map replicate_succ' take_append_drop take_length take_of_length_le take_succ take_zero)
set_option Elab.async false
set_option compiler.extract_closed false
set_option linter.all false
set_option maxRecDepth 100000
abbrev aM3:=@if_neg
abbrev abw:=@if_pos
abbrev apg:=@PySem.wpAny_bind
abbrev aEt:=@Nat.le_refl
abbrev aXX:=@PySem.Heap.get?_push_of_some
abbrev adb:=@PyProof.Rows.wpS_bind
abbrev aK1:=@List.length_map
abbrev af3:=@List.getElem?_eq_getElem
abbrev aRf:=@PyProof.Rows.wpS_pure
abbrev a2R:=@PySem.Heap.lt_size
abbrev a5a:=@PySem.wpAny_pure
abbrev a2U:=@List.getElem?_eq_some_iff
abbrev am7:=@List.size_toArray
abbrev aBC:=@Bool.false_ne_true
abbrev avM:=@Option.some.inj
abbrev aYI:=@PySem.Heap.get?_push_size
abbrev aqO:=@Bool.false_eq_true
abbrev ayF:=@Nat.ne_of_lt
abbrev aBD:=@List.mem_of_getElem?
abbrev aBK:=@List.getElem?_map
abbrev aCv:=@List.length_append
abbrev aUM:=@Nat.zero_le
abbrev aYJ:=@Array.length_toList
abbrev a28:=@Nat.le_trans
abbrev a4v:=@Ne.symm
abbrev a9e:=@List.getD_eq_getElem?_getD
abbrev arG:=@List.mem_singleton
abbrev aHJ:=@List.mem_cons
abbrev a2Z:=@Array.getElem?_eq_getElem
abbrev akK:=@Nat.lt_of_lt_of_le
abbrev aea:=@decide_eq_true
abbrev aHO:=@List.mem_cons_of_mem
abbrev aTi:=@bind_congr
abbrev a0j:=@decide_eq_false
abbrev a1m:=@List.mem_append
abbrev aLq:=@PySem.sizeLine_eq
abbrev auv:=@List.getElem?_append_right
abbrev a9C:=@List.mem_append_right
abbrev aY3:=@List.getElem?_append_left
abbrev ag5:=@PyProof.Rows.wpS_forRange
abbrev at1:=@if_false
abbrev aRs:=@PySem.wpAny_mono
abbrev aFv:=@List.mem_cons_self
abbrev aC1:=@PyProof.Rows.callWith_type1
abbrev aIV:=@List.map_append
abbrev bbz:=@List.eq_nil_of_length_eq_zero
abbrev a9L:=@Nat.le_of_lt
abbrev aok:=@congrArg
abbrev asH:=@Nat.lt_irrefl
abbrev aQ7:=@List.not_mem_nil
abbrev aAq:=@List.append_assoc
abbrev aKD:=@List.Nodup.mem_erase_iff
abbrev abk:=@Array.getElem?_toList
abbrev aRL:=@List.perm_append_comm
abbrev aje:=@Array.toList_append
abbrev aQS:=@PySem.W.mg_none_of
abbrev aVU:=@PyProof.Rows.wpS_mono
abbrev aDr:=@Sum.inl.inj
abbrev aOV:=@if_true
abbrev ayt:=@decide_eq_true_eq
abbrev af9:=@PyProof.Rows.slot_tuple_getitem
abbrev apM:=@PySem.F.plainAttrs_list
abbrev aaz:=@List.getElem?_eq_none
abbrev ad2:=@List.mem_map_of_mem
abbrev aoN:=@PySem.boot_len
abbrev aDH:=@List.nodup_cons
abbrev ac1:=@PySem.wpAny_field
abbrev aFw:=@decide_eq_false_iff_not
abbrev aKO:=@List.lookup_cons
abbrev aNZ:=@List.mem_cons
abbrev aS0:=@or_false
abbrev a9s:=@PySem.wpAny_holding
abbrev aIq:=@List.length_take
abbrev aSH:=@PySem.wpAny_truthy_bool
abbrev aDD:=@List.map_cons
abbrev a9q:=@List.getElem?_set_ne
abbrev aan:=@PySem.PassesOwn.never
abbrev baF:=@PySem.wpAny_call_entry
abbrev apN:=@Bool.and_eq_true
abbrev au8:=@List.mem_map
abbrev aE9:=@PySem.F.slot_list_append
abbrev aAu:=@PySem.F.type_list_append
abbrev arz:=@List.length_cons
abbrev aBp:=@PySem.Heap.size_push
abbrev aPe:=@PySem.wpAny_rule
abbrev a6m:=@PySem.wpAny_callSpecial?_slot
abbrev abG:=@List.getElem?_set_self
abbrev aB2:=@PySem.wpAny_newObj_type
abbrev anG:=@Nat.ne_of_gt
abbrev asI:=@Int.le_refl
abbrev bcu:=@List.append_nil
abbrev ahA:=@Array.perm_iff_toList_perm
abbrev bbL:=@PyProof.Rows.wpS_modify
abbrev a2z:=@List.mem_of_mem_erase
abbrev avt:=@PySem.Calls.spliced_cons
abbrev a2j:=@Int.emod_lt_of_pos
abbrev abS:=@List.length_drop
abbrev aXt:=@List.all_eq_true
abbrev a9R:=@decide_false
abbrev aOJ:=@List.pairwise_append
abbrev aWX:=@Array.getElem_toList
abbrev arf:=@Int.le_trans
abbrev aW2:=@Nat.lt_succ_of_lt
abbrev aIZ:=@beq_eq_false_iff_ne
abbrev ar3:=@List.mem_range
abbrev aKE:=@beq_self_eq_true
abbrev a2J:=@PyProof.Rows.wpS_get
abbrev akC:=@List.length_set
abbrev a1F:=@PySem.Calls.callWith_builtin
abbrev a8F:=@decide_true
abbrev aVm:=@Nat.lt_of_le_of_lt
abbrev ag9:=@List.mem_replicate
abbrev aKJ:=@List.mem_append_left
abbrev a7q:=@Option.map_some
abbrev aI8:=@Int.emod_nonneg
abbrev bcY:=@PySem.F.slot_tuple_iterator_next
abbrev afx:=@List.ext_getElem?
abbrev ahH:=@List.take_of_length_le
abbrev aX5:=@List.drop_of_length_le
abbrev aZl:=@Array.toList_push
abbrev aTL:=@beq_iff_eq
abbrev a2h:=@List.pairwise_iff_getElem
abbrev bdc:=@PySem.W.kia_one
abbrev aaf:=@PySem.wpAny_seqItems
abbrev adf:=@List.length_singleton
abbrev abX:=@PyProof.Rows.boot_sorted
abbrev aPV:=@PySem.mem_of_lookup
abbrev aum:=@PySem.F.plainAttrs_dict
abbrev bbS:=@PySem.Paired.length
abbrev adT:=@PyProof.Rows.listUpdate_at
abbrev a9z:=@Bool.eq_iff_iff
abbrev aJJ:=@PySem.wpAny_Call_Name_kw
abbrev aml:=@PySem.W.kia_tup
abbrev ara:=@Nat.not_lt_zero
abbrev ayg:=@PySem.wpAny_setField_rec
abbrev aN8:=@List.pairwise_cons
abbrev aPc:=@List.filter_cons
abbrev aYm:=@PyProof.Rows.wpS_reverse
abbrev as4:=@PyProof.Rows.mirror_perm
abbrev aPI:=@List.getElem_mem
abbrev aQr:=@PySem.Calls.spliced_nil
abbrev a2q:=@PySem.Heap.get?_push_ne
abbrev aKM:=@Bool.not_eq_true'
abbrev a8Y:=@List.map_congr_left
abbrev aBO:=@PySem.F.slot_dict_pop
abbrev aYR:=@List.Pairwise.sublist
abbrev a2d:=@Nat.sub_self
abbrev aZ9:=@List.length_range
abbrev amk:=@PySem.Calls.evalArgs_plain
abbrev auO:=@PySem.wpAny_pyIter_zip
abbrev azl:=@List.take_append_drop
abbrev aBe:=@Array.toList_extract
abbrev a3T:=@List.mem_iff_getElem
abbrev a4X:=@PySem.wpAny_newList
abbrev an7:=@List.perm_ext_iff_of_nodup
abbrev a9f:=@PySem.wpAny_passesOwn
abbrev a2W:=@List.mem_or_eq_of_mem_set
abbrev aWn:=@List.replicate_succ'
abbrev awl:=@List.getElem?_replicate
abbrev avQ:=@PySem.F.args_tuple_add_2
abbrev a57:=@Nat.lt_trans
abbrev aP0:=@PySem.tupleKind_room_in1
abbrev asM:=@Nat.zero_add
abbrev aHk:=@List.getElem?_range
abbrev bdb:=@List.find?_cons
abbrev ba7:=@PySem.F.entry_tuple_add
abbrev aXr:=@List.eraseIdx_cons_succ
abbrev aS5:=@List.getElem?_cons_succ
abbrev aCP:=@PyProof.noPylong_small
abbrev aTP:=@PySem.F.slot_tuple_add
abbrev alT:=@Int.add_mul_ediv_right
abbrev azX:=@Int.ediv_eq_zero_of_lt
abbrev aTa:=@Bool.not_true
abbrev aBM:=@List.length_replicate
abbrev aMW:=@List.length_filter_le
abbrev a8N:=@PySem.F.slot_dict_get
abbrev aPx:=@Array.getElem_extract
abbrev adJ:=@List.erase_of_not_mem
abbrev aQh:=@Int.mul_ediv_add_emod
abbrev apG:=@List.mem_filter
abbrev aZ5:=@List.forIn_cons
abbrev asq:=@List.getElem?_of_mem
abbrev aRT:=@Array.Perm.refl
abbrev ba5:=@Array.toList_reverse
namespace L2
open PySem PySem.Spec PyProof.Rows
abbrev Key:=Sum Int Str
def ju:Key->Value->Bool
 | .inl k,v=>Value.isInt k v
 | .inr x,v=>Value.isStrOf x v
def Gm (w:World):Key->Int
 | .inl k=>hashInt k
 | .inr x=>hashStr w x
theorem ZI:∀ {k:Key} {v:Value},ju k v=true->(∃ i t,k=Sum.inl i/\v=Value.int i t)\/(∃ x t,k=Sum.inr x/\v=Value.str x t)
 | .inl i,v,h=>by
  obtain ⟨t,e⟩:=Value.isInt_shape (k:=i) (v:=v) h
  exact .inl ⟨i,t,rfl,e⟩
 | .inr x,v,h=>by
  obtain ⟨t,e⟩:=Value.isStrOf_shape (x:=x) (v:=v) h
  exact .inr ⟨x,t,rfl,e⟩
theorem Z8 (i:Int) (t:Tok):ju (.inl i) (.int i t)=true:=by simp [ju,Value.isInt]
theorem Z7 (x:Str) (t:Tok):ju (.inr x) (.str x t)=true:=by simp [ju,Value.isStrOf]
theorem W6 (a b:Int):decide ((Sum.inl a:Key)=Sum.inl b)=(a == b):=by
 by_cases e:a=b
 .subst e; simp
 .have h:¬ (Sum.inl a:Key)=Sum.inl b:=λq=>e (aDr q)
  rw [a0j h]
  exact (aIZ.mpr e).symm
theorem W4 (a b:Str):decide ((Sum.inr a:Key)=Sum.inr b)=decide (a=b):=by
 by_cases e:a=b
 .subst e; simp
 .have h:¬ (Sum.inr a:Key)=Sum.inr b:=λq=>e (Sum.inr.inj q)
  rw [a0j h,a0j e]
theorem W3 (a:Int) (b:Str):decide ((Sum.inl a:Key)=Sum.inr b)=false:=a0j (λq=>nomatch q)
theorem W2 (a:Str) (b:Int):decide ((Sum.inr a:Key)=Sum.inl b)=false:=a0j (λq=>nomatch q)
def ZD (prog:Program) (w:World):PySem.KeyKind prog w Key where
 is:=ju
 hash:=Gm w
 inj:=λv a b ha hb=>by
  rcases ZI ha with ⟨i,t,rfl,rfl⟩ | ⟨x,t,rfl,rfl⟩
  .rcases ZI hb with ⟨j,u,rfl,e⟩ | ⟨y,u,rfl,e⟩
   .injection e with e1 _; rw [e1]
   .exact nomatch e
  .rcases ZI hb with ⟨j,u,rfl,e⟩ | ⟨y,u,rfl,e⟩
   .exact nomatch e
   .injection e with e1 _; rw [e1]
 byValue:=λk v h=>by
  rcases ZI h with ⟨i,t,rfl,rfl⟩ | ⟨x,t,rfl,rfl⟩ <;> rfl
 pyHash:=λhv h=>by
  rcases ZI hv with ⟨i,t,rfl,rfl⟩ | ⟨x,t,rfl,rfl⟩
  .exact wpAny_pyHash_int h
  .exact wpAny_pyHash_str h
 eqBool:=λhu hv h=>by
  rcases ZI hu with ⟨i,t,rfl,rfl⟩ | ⟨x,t,rfl,rfl⟩
  .rcases ZI hv with ⟨j,u,rfl,rfl⟩ | ⟨y,u,rfl,rfl⟩
   .rw [W6] at h; exact wpAny_eqBool_int h
   .rw [W3] at h; exact SeqAt.EqAt.int_str i t y u _ _ _ _ h
  .rcases ZI hv with ⟨j,u,rfl,rfl⟩ | ⟨y,u,rfl,rfl⟩
   .rw [W2] at h; exact SeqAt.EqAt.str_int x t j u _ _ _ _ h
   .rw [W4] at h; exact wpAny_eqBool_str h
 «strs»:=λk x t v h=>by
  rcases ZI h with ⟨i,u,rfl,e⟩ | ⟨y,u,rfl,e⟩
  .exact nomatch e
  .injection e with e1 _
   subst e1
   cases v <;> rfl
theorem Z4 (prog:Program) (w:World) (k:Key) (v:Value):(ZD prog w).is k v=ju k v:=rfl
theorem Zib (prog:Program) (w:World) (i:Int) (t:Tok):(ZD prog w).is (.inl i) (.int i t)=true:=Z8 i t
theorem Zic (prog:Program) (w:World) (x:Str) (t:Tok):(ZD prog w).is (.inr x) (.str x t)=true:=Z7 x t
inductive V where
 | aT | bl (b:Bool) | int (i:Int) | str (x:Str) | o7 (b:Array UInt8) | sM (b:UInt64) | ref (a:Addr) | ty (n:String)
 deriving DecidableEq
def RelV:V->Value->Prop
 | .aT,u=>u=Value.none
 | .bl b,u=>u=Value.bool b
 | .int i,u=>∃ t,u=Value.int i t
 | .str x,u=>∃ t,u=Value.str x t
 | .o7 b,u=>∃ t,u=Value.bytes b t
 | .sM b,u=>∃ t,u=Value.float b t
 | .ref a,u=>u=Value.ref a
 | .ty n,u=>u=Value.type n
abbrev Vals:List V->List Value->Prop:=Paired RelV
theorem Vals.length {xs:List V} {us:List Value} (r:Vals xs us):xs.length=us.length:=bbS r
theorem Vals.get:∀ {xs:List V} {us:List Value} {i:Nat} {x:V},Vals xs us->xs[i]?=some x->∃ u,us[i]?=some u/\RelV x u
 | _,_,_,_,.nil,e=>by simp at e
 | _,_,0,_,.cons r _,e=>by simp at e; subst e; exact ⟨_,rfl,r⟩
 | _,_,i+1,x,.cons _ t,e=>by
  obtain ⟨u,h1,h2⟩:=Vals.get (i:=i) (x:=x) t (by simpa using e)
  exact ⟨u,by simpa using h1,h2⟩
theorem Vals.set {x:V} {u:Value} (r:RelV x u):∀ {xs:List V} {us:List Value} (i:Nat),Vals xs us->Vals (xs.set i x) (us.set i u)
 | _,_,_,.nil=>.nil
 | _,_,0,.cons _ t=>.cons r t
 | _,_,i+1,.cons q t=>.cons q (Vals.set r i t)
theorem Vals.append:∀ {xs ys:List V} {us ws:List Value},Vals xs us->Vals ys ws->Vals (xs++ys) (us++ws)
 | _,_,_,_,.nil,s=>s
 | _,_,_,_,.cons r t,s=>.cons r (Vals.append t s)
theorem Vals.take:∀ {xs:List V} {us:List Value} (n:Nat),Vals xs us->Vals (xs.take n) (us.take n)
 | _,_,0,_=>.nil
 | _,_,_+1,.nil=>.nil
 | _,_,n+1,.cons r t=>.cons r (Vals.take n t)
theorem Vals.drop:∀ {xs:List V} {us:List Value} (n:Nat),Vals xs us->Vals (xs.drop n) (us.drop n)
 | _,_,0,r=>r
 | _,_,_+1,.nil=>.nil
 | _,_,n+1,.cons _ t=>Vals.drop n t
def dQ:Option V->Option Value->Prop
 | some v,some u=>RelV v u
 | none,none=>True
 | _,_=>False
def KV {κ:Type}:List (κ×V)->List (κ×Value)->Prop:=Paired λ(p:κ×V) (q:κ×Value)=>p.1=q.1/\RelV p.2 q.2
def kV:Key->V
 | .inl i=>.int i
 | .inr x=>.str x
inductive HO where
  | lst (xs:List V)
  | tup (xs:List V)
  | dK (kvs:List (Key×V)) | dT (kvs:List (List Key×V))
  | set (S:Int->Bool) (n:Nat)
  | ins (C dx:Addr) (fs:List (Str×V))
  | own (x:Addr)
  | xd (fs:List (Str×V))
  | met (f x:Addr)
  | FH (lo hi:Int)
  | cW (o:Obj) (u:HO)
  | kh (pos:Pos) (qual:Str)
  | ext (φ:Heap->Prop)
abbrev Hp:=Addr->Option HO
def upd (H:Hp) (a:Addr) (o:HO):Hp:=λb=>if b=a then some o else H b
theorem Za {H:Hp} {a:Addr} {o:HO}:upd H a o a=some o:=by unfold upd; rw [abw rfl]
theorem Zc {H:Hp} {a b:Addr} {o:HO} (h:b≠a):upd H a o b=H b:=by unfold upd; rw [aM3 h]
theorem IJ {H:Hp} {a:Addr} {o u:HO}:upd (upd H a o) a u=upd H a u:=by
 funext b; unfold upd; split <;> rfl
theorem ou {H:Hp} {a b:Addr} {o u:HO} (h:H a=some o) (h':H b=some u) (d:o≠u):a≠b:=by
 intro e; subst e; rw [h] at h'; exact d (avM h')
theorem Ze {H:Hp} {a b:Addr} {o:HO} (h:H a=some o) (h':H b=none):a≠b:=by
 intro e; subst e; rw [h] at h'; cases h'
section
variable (P:Program) (w:World)
def aJ (H:Hp) (h:Heap) (a:Addr):HO->Prop
 | .lst xs=>xs.length<=sizeLine/\∃ (its:List Value) (n:Nat),Vals xs its/\h.get? a=some { cls:=.type "list",data:=.seq its.toArray n }
 | .tup xs=>xs.length<=sizeLine/\∃ its:List Value,Vals xs its/\IsTup h a its.toArray
 | .dK kvs=>kvs.length<=sizeLine/\(a == sysModules)=false/\∃ vs,KV kvs vs/\h.DictOf (ZD P w) a vs
 | .dT kvs=>kvs.length<=sizeLine/\(a == sysModules)=false/\∃ xs:List (List Key×Addr×Value),
   Paired (λ(p:List Key×V) (q:List Key×Addr×Value)=>p.1=q.1/\H q.2.1=some (.tup (p.1.map kV))/\RelV p.2 q.2.2) kvs xs /\
   ∃ o es ep,h.get? a=some o/\o.ExactDict/\o.data=.dict es ep/\es.toList=xs.map (entryOfKey (tupleKind (ZD P w)))/\(xs.map (·.1)).Nodup
 | .set S n=>h.SetOf (intKind P w) a S n
 | .ins C dx fs=>H dx=some (.own a)/\fs.length<=1000/\dx≠a/\h.get? a=some (W.instObj C dx) /\
   ∃ mA,h.Ns1 dx mA/\(∀ f,dQ (fs.lookup f) (mA f))/\PySem.Within mA (fs.map (·.1))
 | .own _=>∃ o,h.get? a=some o
 | .xd fs=>∃ mA,h.Ns1 a mA/\∀ f,dQ (fs.lookup f) (mA f)
 | .FH lo hi=>∃ t u v,h.get? a=some { cls:=.type "range",data:=.fields #[.int lo t,.int hi u,.int 1 v] }
 | .cW o u=>h.get? a=some o/\aJ H h a u
 | .kh pos qual=>∃ ps,h.get? a=some { cls:=.none,data:=.fields ps }/\TriplesOk ps.toList/\∀ cv,codeAmong pos ps.toList=some cv->∃ c oc vs t,cv=.ref c/\H c=some (.cW oc (.own a))/\oc.data=.fields vs/\vs[1]?=some (.str qual t)
 | .met f x=>h.get? a=some (W.methodObj (.ref f) (.ref x))
 | .ext φ=>φ h/\(∃ o,h.get? a=some o)/\∀ h1 h2:Heap,φ h1->(∀ o,h1.get? a=some o->h2.get? a=some o)->φ h2
def fz (H:Hp) (h:Heap):Prop:=∀ a o,H a=some o->aJ P w H h a o
end
section
variable {P:Program} {w:World} {H H':Hp} {h h':Heap} {a:Addr} {o:HO}
theorem aJ.lt (x:aJ P w H h a o):a<h.objs.size:=by
 cases o with
 | lst xs=>obtain ⟨_,_,_,_,e⟩:=x; exact a2R e
 | tup xs=>obtain ⟨_,_,_,p⟩:=x; exact p.lt
 | dK kvs=>obtain ⟨_,_,_,_,o,_,_,e,_⟩:=x; exact a2R e
 | dT kvs=>obtain ⟨_,_,_,_,o,_,_,e,_⟩:=x; exact a2R e
 | set S n=>obtain ⟨o,_,_,_,e,_⟩:=x; exact a2R e
 | ins C dx fs=>obtain ⟨_,_,_,e,_⟩:=x; exact a2R e
 | own y=>obtain ⟨_,e⟩:=x; exact a2R e
 | xd fs=>obtain ⟨_,⟨_,_,_,e,_⟩,_⟩:=x; exact a2R e
 | FH lo hi=>obtain ⟨_,_,_,e⟩:=x; exact a2R e
 | cW ob u=>obtain ⟨e,_⟩:=x; exact a2R e
 | kh p q=>obtain ⟨_,e,_⟩:=x; exact a2R e
 | met f y=>exact a2R (show h.get? a=some _ from x)
 | ext φ=>obtain ⟨_,⟨_,e⟩,_⟩:=x; exact a2R e
theorem Paired.vA {α β:Type} {F G:α->β->Prop}:∀ {l₁:List α} {l₂:List β},Paired F l₁ l₂->(∀ a b,F a b->G a b)->Paired G l₁ l₂
 | _,_,.nil,_=>.nil
 | _,_,.cons r t,f=>.cons (f _ _ r) (Paired.vA t f)
theorem aJ.stay (x:aJ P w H h a o) (k:∀ b u,(b=a\/H b=some (.own a))->h.get? b=some u->h'.get? b=some u)
  (ho:∀ b,H b=some (.own a)->H' b=some (.own a)) (ht:∀ b xs,H b=some (.tup xs)->H' b=some (.tup xs))
  (hz:∀ b oz,H b=some (.cW oz (.own a))->H' b=some (.cW oz (.own a)):=by exact λ_ _ q=>q):aJ P w H' h' a o:=by
 induction o with
 | lst xs=>obtain ⟨z,its,n,r,e⟩:=x; exact ⟨z,its,n,r,k _ _ (.inl rfl) e⟩
 | tup xs=>obtain ⟨z,its,r,ob,e,c⟩:=x; exact ⟨z,its,r,ob,k _ _ (.inl rfl) e,c⟩
 | dK kvs=>obtain ⟨z,y,vs,r,ob,es,ep,e,c⟩:=x; exact ⟨z,y,vs,r,ob,es,ep,k _ _ (.inl rfl) e,c⟩
 | dT kvs =>
  obtain ⟨z,y,xs,r,ob,es,ep,e,c⟩:=x
  exact ⟨z,y,xs,Paired.vA r λp q z=>⟨z.1,ht _ _ z.2.1,z.2.2⟩,ob,es,ep,k _ _ (.inl rfl) e,c⟩
 | set S n=>obtain ⟨ob,es,ep,t,e,c⟩:=x; exact ⟨ob,es,ep,t,k _ _ (.inl rfl) e,c⟩
 | ins C dx fs =>
  obtain ⟨d,z,ne,e,mA,⟨od,es,ep,e2,c⟩,r⟩:=x
  exact ⟨ho _ d,z,ne,k _ _ (.inl rfl) e,mA,⟨od,es,ep,k _ _ (.inr d) e2,c⟩,r⟩
 | own y=>obtain ⟨ob,e⟩:=x; exact ⟨ob,k _ _ (.inl rfl) e⟩
 | xd fs=>obtain ⟨mA,⟨od,es,ep,e,c⟩,r⟩:=x; exact ⟨mA,⟨od,es,ep,k _ _ (.inl rfl) e,c⟩,r⟩
 | FH lo hi=>obtain ⟨t,u,v,e⟩:=x; exact ⟨t,u,v,k _ _ (.inl rfl) e⟩
 | cW ob u ih=>obtain ⟨e,q⟩:=x; exact ⟨k _ _ (.inl rfl) e,ih q⟩
 | kh p q =>
  obtain ⟨ps,e,tr,hc⟩:=x
  refine ⟨ps,k a _ (.inl rfl) e,tr,λcv e1=>?_⟩
  obtain ⟨c,oc,vs,tt,z,e2,r⟩:=hc cv e1
  exact ⟨c,oc,vs,tt,z,hz _ _ e2,r⟩
 | met f y =>
  have e:h.get? a=some (W.methodObj (.ref f) (.ref y)):=x
  show h'.get? a=some (W.methodObj (.ref f) (.ref y))
  exact k a _ (.inl rfl) e
 | ext φ=>obtain ⟨p,⟨o,e⟩,st⟩:=x; exact ⟨st _ _ p λo q=>k _ _ (.inl rfl) q,⟨o,k _ _ (.inl rfl) e⟩,st⟩
theorem fz.lt (x:fz P w H h) (e:H a=some o):a<h.objs.size:=(x a o e).lt
theorem fz.fresh (x:fz P w H h) (e:h.objs.size<=a):H a=none:=by
 cases q:H a with
 | none=>rfl
 | some u=>exact absurd (akK (x.lt q) e) (asH _)
theorem fz.kept (x:fz P w H h) (k:∀ b u,h.get? b=some u->h'.get? b=some u):fz P w H h':=λa o e =>
 (x a o e).stay (λb u _ q=>k b u q) (λ_ q=>q) λ_ _ q=>q
theorem fz.laid (x:fz P w H h) (k:∀ b u,h.get? b=some u->h'.get? b=some u) (hp:h.objs.size<=a) (new:aJ P w (upd H a o) h' a o):fz P w (upd H a o) h':=λb u e=>by
 have hn:=x.fresh hp
 by_cases hb:b=a
 .subst hb; rw [Za] at e; cases e; exact new
 .rw [Zc hb] at e
  exact (x b u e).stay (λc v _ q=>k c v q) (λc q=>by rw [Zc (Ze q hn)]; exact q) (λc xs q=>by rw [Zc (Ze q hn)]; exact q) λc oz q=>by rw [Zc (Ze q hn)]; exact q
end
def Rd (H:Hp) (a:Addr) (u:HO):Prop:=H a=some u\/∃ o,H a=some (.cW o u)
theorem Rd.ok {P:Program} {w:World} {H:Hp} {h:Heap} {a:Addr} {u:HO} (r:Rd H a u) (x:fz P w H h):aJ P w H h a u:=by
 rcases r with r | ⟨o,r⟩
 .exact x a u r
 .obtain ⟨_,q⟩:=x a _ r
  exact q
def BR:Option HO->Prop
 | some (.lst _)=>True
 | some (.dK _)=>True
 | some (.dT _)=>True
 | some (.set _ _)=>True
 | some (.ins _ _ _)=>True
 | some (.ext _)=>True
 | _=>False
section
variable {P:Program} {w:World} {H:Hp} {h h':Heap} {x e:Addr} {o':HO}
theorem fz.write (ok:fz P w H h) (mu:BR (H x)) (he:e=x\/H e=some (.own x)) (k:∀ b u,b≠e->h.get? b=some u->h'.get? b=some u) (xW:∃ u,h'.get? e=some u)
  (new:aJ P w (upd H x o') h' x o'):fz P w (upd H x o') h':=λb u q=>by
 have zM:∀ c y,H c=some (.own y)->c≠x:=λc y r z=>by subst z; rw [r] at mu; exact mu
 have F3:∀ c xs,H c=some (.tup xs)->c≠x:=λc xs r z=>by subst z; rw [r] at mu; exact mu
 by_cases hb:b=x
 .subst hb; rw [Za] at q; cases q; exact new
 .rw [Zc hb] at q
  by_cases vP:b=e
  .have q':H b=some (.own x):=by
    rcases he with z | z
    .exact absurd (vP.trans z) hb
    .rw [vP]; exact z
   rw [q] at q'; cases q'
   obtain ⟨v,hv⟩:=xW
   exact ⟨v,by rw [vP]; exact hv⟩
  .refine (ok b u q).stay (λc v hc r=>k c v ?_ r) (λc r=>by rw [Zc (zM c b r)]; exact r) (λc xs r=>by rw [Zc (F3 c xs r)]; exact r) λc oz r=>by rw [Zc (λz=>by subst z; rw [r] at mu; exact mu)]; exact r
   rcases hc with rfl | hc
   .exact vP
   .rintro rfl
    rcases he with z | z
    .exact zM c b hc z
    .rw [hc] at z; cases z; exact hb rfl
end
structure Un (fs ex:List Addr) (H H':Hp) (h h':Heap):Prop where
 keep:∀ b o,h.get? b=some o->H b=none->b∉fs->b∉ex->h'.get? b=some o
 slot:∀ b o,h.get? b=some o->H b=none->b∈fs->b∉ex->∃ sl,h'.get? b=some { o with slots:=sl }
 free:∀ b o,h.get? b=some o->H b=none->b∉ex->H' b=none
 there:∀ b o,h.get? b=some o->b∉ex->∃ o',h'.get? b=some o'
 tups:∀ b xs,H b=some (.tup xs)->H' b=some (.tup xs)
 i7:∀ b o u,H b=some (.cW o u)->H' b=some (.cW o u)
 ji:∀ b p q,H b=some (.kh p q)->H' b=some (.kh p q)
section
variable {fs fs' ex ex':List Addr} {H H1 H2:Hp} {h h1 h2 h':Heap} {a x e:Addr} {o:HO}
theorem Un.any (u:Un fs ex H H1 h h1) {b:Addr} {ob:Obj} (q:h.get? b=some ob) (n:H b=none) (hx:b∉ex):∃ sl,h1.get? b=some { ob with slots:=sl }:=by
 by_cases hb:b∈fs
 .exact u.slot b ob q n hb hx
 .exact ⟨ob.slots,u.keep b ob q n hb hx⟩
theorem Un.kept (k:∀ b u,h.get? b=some u->h'.get? b=some u):Un fs ex H H h h' :=
 ⟨λb ob q _ _ _=>k b ob q,λb ob q _ _ _=>⟨ob.slots,k b ob q⟩,λ_ _ _ n _=>n,λb ob q _=>⟨ob,k b ob q⟩,λ_ _ q=>q,λ_ _ _ q=>q,λ_ _ _ q=>q⟩
theorem Un.refl:Un fs ex H H h h:=Un.kept λ_ _ q=>q
theorem Un.laid (k:∀ b u,h.get? b=some u->h'.get? b=some u) (hp:h.objs.size<=a) (hn:H a=none):Un fs ex H (upd H a o) h h' where
 keep:=λb u q _ _ _=>k b u q
 slot:=λb u q _ _ _=>⟨u.slots,k b u q⟩
 free:=λb u q n _=>by rw [Zc (ayF (akK (a2R q) hp))]; exact n
 there:=λb u q _=>⟨u,k b u q⟩
 tups:=λb xs q=>by rw [Zc (Ze q hn)]; exact q
 i7:=λb u xs q=>by rw [Zc (Ze q hn)]; exact q
 ji:=λb _ _ q=>by rw [Zc (Ze q hn)]; exact q
theorem Un.write (mu:BR (H x)) (he:e=x\/H e=some (.own x)) (k:∀ b u,b≠e->h.get? b=some u->h'.get? b=some u) (xW:∃ u,h'.get? e=some u):Un fs ex H (upd H x o) h h':=by
 have hx:∀ b,H b=none->b≠x:=λb n z=>by subst z; rw [n] at mu; exact mu
 have hb:∀ b,H b=none->b≠e:=λb n z=>by
  subst z
  rcases he with r | r
  .exact hx b n r
  .rw [n] at r; cases r
 have hm:∀ b u,H b=some u->¬ BR (some u)->b≠x:=λb u q nm z=>by subst z; rw [q] at mu; exact nm mu
 refine ⟨λb u q n _ _=>k b u (hb b n) q,λb u q n _ _=>⟨u.slots,k b u (hb b n) q⟩,λb u q n _=>by rw [Zc (hx b n)]; exact n,λb u q _=>?_,
  λb xs q=>by rw [Zc (hm b _ q λz=>z)]; exact q,λb u xs q=>by rw [Zc (hm b _ q λz=>z)]; exact q,λb _ _ q=>by rw [Zc (hm b _ q λz=>z)]; exact q⟩
 by_cases vP:b=e
 .subst vP; exact xW
 .exact ⟨u,k b u vP q⟩
end
def Cq (h:Heap) (H:Hp):List Addr:=(List.range h.objs.size).filter λa=>(H a).isSome
def kN (h:Heap) (H:Hp):Heap:=W.hideAll h (Cq h H)
theorem Z6 (h:Heap) (H:Hp):(kN h H).objs.size=h.objs.size:=W.hideAll_size _ _
theorem Jt {h:Heap} {H:Hp} {b:Addr} {o:Obj} (e:h.get? b=some o) (n:H b=none):(kN h H).get? b=some o :=
 W.hideAll_get _ e λhm=>by
  have q:(H b).isSome=true:=(apG.mp hm).2
  rw [n] at q; simp at q
theorem Xw {h:Heap} {H:Hp} {b:Addr} {o:Obj} (e:(kN h H).get? b=some o):h.get? b=some o/\H b=none:=by
 have e':h.get? b=some o:=W.of_hideAll (Cq h H) e
 refine ⟨e',?_⟩
 cases q:H b with
 | none=>rfl
 | some x =>
  have hm:b∈Cq h H:=apG.mpr ⟨ar3.mpr (a2R e'),by simp [q]⟩
  have z:(kN h H).get? b=none:=W.hideAll_none (Cq h H) hm
  rw [z] at e; cases e
structure Mod (K:W.Frag) (mg:Str->Option Value) (base:Heap):Prop where
 xO:K.In base
 glob:base.Ns mainGlobals mg
 blt:∃ mb,base.Ns builtinsNs mb/\∀ x:Str,x ≠ "__name__" -> mb x=bootBuiltins x
 nolimit:base.NoLimit
structure Cx where
 prog:Program
 w:World
 K:W.Frag
 mg:Str->Option Value
 base:Heap
 A:Around
 N:List Str
 s₀:Shared
 H₀:Hp
 env:Env
 outer:List Env
 stack:List Env
 ex:List Addr
 fn:Str->Bool
 calm:Bool
 pn:List (Addr×Obj)
 xe:Value->Shared->Prop
def frs (l:List Env):List Addr:=l.filterMap (·.frame)
abbrev Cx.fs (X:Cx):List Addr:=frs X.outer
def BI (sc:Scope) (x:Str):Prop:=sc.names.lookup x=some .local\/sc.names.lookup x=some .cell\/sc.names.lookup x=some .free
def Loc (sc:Scope) (x:Str):Prop:=sc.names.lookup x=some .local\/sc.names.lookup x=some .cell
def Look (env:Env) (h:Heap) (m:Str->Option Value) (x:Str) (u:Value):Prop :=
 (env.kindOf x=some .local/\m x=some u)\/((env.kindOf x=some .cell\/env.kindOf x=some .free)/\∃ c,env.cells.lookup x=some c/\h.IsCell c (some u))
structure Cx.Ok (X:Cx):Prop where
 mod:Mod X.K X.mg X.base
 kind:X.env.scope.kind=.function
 glob:X.env.globals=mainGlobals
 blt:X.env.builtins=builtinsNs
 above:X.s₀.heap.objs.size<=X.env.locals
 inj:∀ x y c,X.env.cells.lookup x=some c->X.env.cells.lookup y=some c->x=y
 has:∀ x,(X.env.kindOf x=some .cell\/X.env.kindOf x=some .free)->∃ c,X.env.cells.lookup x=some c
 AN:∀ x c,X.fn x=true->X.env.cells.lookup x=some c->X.s₀.heap.objs.size<=c
 hd:X.calm=true->X.A.handled=none
 frames:X.A.frames=some X.stack
 stk:X.stack=X.outer\/(X.stack=X.env :: X.outer/\X.env.frame=some X.env.locals)
 C7:∀ b∈X.ex,b≠X.env.locals/\∀ x c,X.env.cells.lookup x=some c->c≠b
 bs:∀ b o,X.base.get? b=some o->X.s₀.heap.get? b=some o/\X.H₀ b=none
 rH:X.base.objs.size<=X.s₀.heap.objs.size
 qm:∀ b o,X.base.get? b=some o->b∉X.ex
 qL:∀ b∈X.ex,b∉X.fs
 i6:X.s₀.heap.FunFrames X.base X.outer
 vU:∀ b∈X.fs,X.H₀ b=none
structure Inv (X:Cx) (pins:List (Addr×Obj)) (σ:List (Option V)) (H:Hp) (s:Shared):Prop where
 ok:X.Ok
 os:s.os=X.s₀.os
 bare:AllBare s.gens
 base:Un X.fs X.ex X.H₀ H X.s₀.heap s.heap
 loc:∃ m,s.heap.Ns X.env.locals m/\∀ (i:Nat) (x:Str) (v:V),X.N[i]?=some x->σ[i]?=some (some v)->BI X.env.scope x->∃ u,RelV v u/\Look X.env s.heap m x u
 cell:∀ x c,X.env.cells.lookup x=some c->∃ v,s.heap.IsCell c v
 free:H X.env.locals=none
 dO:∀ x c,X.env.cells.lookup x=some c->H c=none
 pin:∀ p∈X.pn++pins,s.heap.get? p.1=some p.2/\H p.1=none/\p.1≠X.env.locals/\p.1∉X.fs/\∀ v,p.2.data≠.cell v
 hok:fz X.prog X.w H s.heap
 len:σ.length=X.N.length
section
variable {X:Cx} {pins:List (Addr×Obj)} {σ:List (Option V)} {H H':Hp} {s:Shared} {h':Heap}
theorem Cx.Ok.F7 (ok:X.Ok) {b:Addr} {o:Obj} (e:X.base.get? b=some o):b∉X.fs:=λhb=>by
 have:=(ok.i6.mem hb).1
 rw [e] at this; cases this
theorem Inv.bs (I:Inv X pins σ H s):∀ b o,X.base.get? b=some o->s.heap.get? b=some o/\H b=none:=λb o e =>
 ⟨I.base.keep b o (I.ok.bs b o e).1 (I.ok.bs b o e).2 (I.ok.F7 e) (I.ok.qm b o e),I.base.free b o (I.ok.bs b o e).1 (I.ok.bs b o e).2 (I.ok.qm b o e)⟩
theorem Inv.bk (I:Inv X pins σ H s):∀ b o,X.base.get? b=some o->s.heap.get? b=some o:=λb o e=>(I.bs b o e).1
theorem Inv.mod (I:Inv X pins σ H s):Mod X.K X.mg X.base:=I.ok.mod
theorem Inv.d8 (I:Inv X pins σ H s):X.K.In s.heap:=I.ok.mod.xO.keeps I.bk
theorem Inv.nolimit (I:Inv X pins σ H s):s.heap.NoLimit:=I.ok.mod.nolimit.keeps I.bk
theorem Inv.lt (I:Inv X pins σ H s):X.env.locals<s.heap.objs.size:=let ⟨_,hn,_⟩:=I.loc; hn.lt
theorem Inv.sz (I:Inv X pins σ H s):X.s₀.heap.objs.size<=s.heap.objs.size:=a28 I.ok.above (a9L I.lt)
theorem Inv.zN (I:Inv X pins σ H s) {a:Addr} (h:s.heap.objs.size<=a):a∉X.fs:=λhb=>by
 obtain ⟨_,o,ho,_⟩:=I.ok.i6.mem hb
 exact absurd (akK (a2R ho) (a28 I.sz h)) (asH _)
theorem Inv.rG (I:Inv X pins σ H s):∀ x c,X.env.cells.lookup x=some c->c≠X.env.locals:=λx c e z=>by
 obtain ⟨v,o,ho,hd⟩:=I.cell x c e
 obtain ⟨m,⟨o',es,ep,ho',hd',_⟩,_⟩:=I.loc
 rw [z,ho'] at ho; cases ho; rw [hd'] at hd; cases hd
theorem Inv.i6 (I:Inv X pins σ H s):s.heap.FunFrames X.base X.outer:=by
 have all:∀ (l:List Env),(∀ b∈frs l,b∈X.fs)->X.s₀.heap.FunFrames X.base l->s.heap.FunFrames X.base l:=by
  intro l
  induction l with
  | nil=>intro _ _; trivial
  | cons env r ih =>
   intro hs hl
   obtain ⟨hk,⟨L,o,hf,hn,ho,hd⟩,hr⟩:=hl
   have hL:L∈X.fs:=hs L (by unfold frs; rw [List.filterMap_cons,hf]; exact aFv)
   obtain ⟨sl,e⟩:=I.base.slot L o ho (I.ok.vU L hL) hL λz=>I.ok.qL L z hL
   exact ⟨hk,⟨L,_,hf,hn,e,hd⟩,ih (λb hb=>hs b (by unfold frs; rw [List.filterMap_cons,hf]; exact aHO _ hb)) hr⟩
 exact all X.outer (λ_ hb=>hb) I.ok.i6
theorem Inv.stack (I:Inv X pins σ H s):s.heap.FunFrames X.base X.stack:=by
 rcases I.ok.stk with e | ⟨e,hf⟩
 .rw [e]; exact I.i6
 .rw [e]
  obtain ⟨m,hn,_⟩:=I.loc
  refine .cons (by rw [I.ok.kind]; decide) hf hn ?_ I.i6
  exact Heap.get?_none_of_le (a28 I.ok.rH I.ok.above)
theorem Inv.kj (I:Inv X pins σ H s):∀ b∈frs X.stack,b∈X.env.locals :: X.fs:=λb hb=>by
 rcases I.ok.stk with e | ⟨e,hf⟩
 .rw [e] at hb; exact aHO _ hb
 .rw [e] at hb
  unfold frs at hb
  rw [List.filterMap_cons,hf] at hb
  exact hb
theorem Inv.ko (I:Inv X pins σ H s):∀ b∈frs X.stack,H b=none:=λb hb=>by
 rcases aHJ.mp (I.kj b hb) with e | hb
 .rw [e]; exact I.free
 .obtain ⟨_,o,ho,_⟩:=I.ok.i6.mem hb
  exact I.base.free b o ho (I.ok.vU b hb) λz=>I.ok.qL b z hb
theorem Inv.step {g':Array GenState} {t':Nat} {d':Drawn} {ch:List Addr} (I:Inv X pins σ H s)
  (hch:∀ b∈ch,(b∈X.ex\/X.s₀.heap.objs.size<=b)/\b≠X.env.locals/\(∀ x c,X.env.cells.lookup x=some c->c≠b)/\∀ p∈X.pn++pins,p.1≠b)
  (keep:∀ b o,b≠X.env.locals->b∉X.fs->b∉ch->s.heap.get? b=some o->H b=none->h'.get? b=some o)
  (slot:∀ b o,b≠X.env.locals->b∈X.fs->b∉ch->s.heap.get? b=some o->H b=none->∃ sl,h'.get? b=some { o with slots:=sl }) (free:∀ b o,b∉ch->s.heap.get? b=some o->H b=none->H' b=none)
  (there:∀ b o,b∉ch->s.heap.get? b=some o->∃ o',h'.get? b=some o')
  (tups:∀ b xs,H b=some (.tup xs)->H' b=some (.tup xs)) (i7:∀ b o u,H b=some (.cW o u)->H' b=some (.cW o u)) (ji:∀ b p q,H b=some (.kh p q)->H' b=some (.kh p q))
  (ns:∀ m,s.heap.Ns X.env.locals m->h'.Ns X.env.locals m) (hok:fz X.prog X.w H' h') (hg:AllBare g') :
  Inv X pins σ H' { s with heap:=h',gens:=g',drawn:=d',toks:=t' }:=by
 have LV:∀ b o,X.s₀.heap.get? b=some o->b≠X.env.locals:=λb o e=>ayF (akK (a2R e) I.ok.above)
 have CG:∀ b o,X.s₀.heap.get? b=some o->b∉X.ex->b∉ch:=λb o e hx hb=>by
  rcases (hch b hb).1 with z | z
  .exact hx z
  .exact absurd (akK (a2R e) z) (asH _)
 have cellK:∀ x c,X.env.cells.lookup x=some c->∀ v,s.heap.IsCell c v->h'.IsCell c v:=λx c e v ⟨o,ho,hd⟩=>by
  have zS:c∉ch:=λz=>(hch c z).2.2.1 x c e rfl
  by_cases hc:c∈X.fs
  .obtain ⟨sl,q⟩:=slot c o (I.rG x c e) hc zS ho (I.dO x c e)
   exact ⟨_,q,hd⟩
  .exact ⟨o,keep c o (I.rG x c e) hc zS ho (I.dO x c e),hd⟩
 refine ⟨I.ok,I.os,hg,⟨λb o e n hb hx=>?_,λb o e n hb hx=>?_,λb o e n hx=>?_,λb o e hx=>?_,λb xs e=>tups b xs (I.base.tups b xs e),λb o xs e=>i7 b o xs (I.base.i7 b o xs e),λb p r e=>ji b p r (I.base.ji b p r e)⟩,?_,λx c e=>?_,?_,λx c e=>?_,λp hp=>?_,hok,I.len⟩
 .exact keep b o (LV b o e) hb (CG b o e hx) (I.base.keep b o e n hb hx) (I.base.free b o e n hx)
 .obtain ⟨sl,e1⟩:=I.base.slot b o e n hb hx
  obtain ⟨SH,e2⟩:=slot b _ (LV b o e) hb (CG b o e hx) e1 (I.base.free b o e n hx)
  exact ⟨SH,e2⟩
 .obtain ⟨o',e1⟩:=I.base.there b o e hx
  exact free b o' (CG b o e hx) e1 (I.base.free b o e n hx)
 .obtain ⟨o',e1⟩:=I.base.there b o e hx
  exact there b o' (CG b o e hx) e1
 .obtain ⟨m,hn,hl⟩:=I.loc
  refine ⟨m,ns m hn,λi x v e1 e2 e3=>?_⟩
  obtain ⟨u,r,l⟩:=hl i x v e1 e2 e3
  refine ⟨u,r,?_⟩
  rcases l with l | ⟨k,c,e,z⟩
  .exact .inl l
  .exact .inr ⟨k,c,e,cellK x c e _ z⟩
 .obtain ⟨v,z⟩:=I.cell x c e
  exact ⟨v,cellK x c e v z⟩
 .obtain ⟨m,⟨o,_,_,ho,_⟩,_⟩:=I.loc
  exact free _ o (λz=>(hch _ z).2.1 rfl) ho I.free
 .obtain ⟨v,o,ho,hd⟩:=I.cell x c e
  exact free c o (λz=>(hch c z).2.2.1 x c e rfl) ho (I.dO x c e)
 .obtain ⟨e,n,ne,nf,d⟩:=I.pin p hp
  have zS:p.1∉ch:=λz=>(hch p.1 z).2.2.2 p hp rfl
  exact ⟨keep p.1 p.2 ne nf zS e n,free p.1 p.2 zS e n,ne,nf,d⟩
theorem Inv.un {t':Nat} (I:Inv X pins σ H s) (u:Un X.fs [] H H' s.heap h') (hok:fz X.prog X.w H' h'):Inv X pins σ H' { s with heap:=h',toks:=t' }:=by
 obtain ⟨m,⟨o,es,ep,ho,r⟩,_⟩:=id I.loc
 obtain ⟨sl,hL⟩:=u.any ho I.free (by simp)
 exact I.step (g':=s.gens) (d':=s.drawn) (ch:=[]) (λ_ z=>nomatch z) (λb o _ hb _ e n=>u.keep b o e n hb (by simp)) (λb o _ hb _ e n=>u.slot b o e n hb (by simp)) (λb o _ e n=>u.free b o e n (by simp)) (λb o _ e=>u.there b o e (by simp)) u.tups u.i7 u.ji (λm' hm=>by
  obtain ⟨o',es',Hw,ho',r'⟩:=hm
  rw [ho] at ho'; cases ho'
  exact ⟨_,es',Hw,hL,r'⟩) hok I.bare
theorem Inv.call {g':Array GenState} {t':Nat} {d':Drawn} {ch:List Addr} (I:Inv X pins σ H s) (u:Un (frs X.stack) ch H H' s.heap h') (hok:fz X.prog X.w H' h') (hg:AllBare g')
  (hch:∀ b∈ch,(b∈X.ex\/X.s₀.heap.objs.size<=b)/\b≠X.env.locals/\(∀ x c,X.env.cells.lookup x=some c->c≠b)/\∀ p∈X.pn++pins,p.1≠b) :
  Inv X pins σ H' { s with heap:=h',gens:=g',drawn:=d',toks:=t' }:=by
 obtain ⟨m,⟨o,es,ep,ho,r⟩,_⟩:=id I.loc
 obtain ⟨sl,hL⟩:=u.any ho I.free λz=>(hch _ z).2.1 rfl
 exact I.step (ch:=ch) hch (λb o hL hb hc e n=>u.keep b o e n (λz=>(aHJ.mp (I.kj b z)).elim hL hb) hc) (λb o _ _ hc e n=>u.any e n hc) (λb o hc e n=>u.free b o e n hc) (λb o hc e=>u.there b o e hc) u.tups u.i7 u.ji (λm' hm=>by
  obtain ⟨o',es',Hw,ho',r'⟩:=hm
  rw [ho] at ho'; cases ho'
  exact ⟨_,es',Hw,hL,r'⟩) hok hg
theorem Inv.turned {t':Nat} {it:Addr} (I:Inv X pins σ H s) (k:∀ b o,b≠it->s.heap.get? b=some o->h'.get? b=some o) (hn:H it=none) (hL:it≠X.env.locals)
  (h1:it∈X.ex\/X.s₀.heap.objs.size<=it) (h2:∀ x c,X.env.cells.lookup x=some c->c≠it) (h3:∀ p∈X.pn++pins,p.1≠it):Inv X pins σ H { s with heap:=h',toks:=t' }:=by
 have LQ:∀ b u,H b=some u->b≠it:=λb u e z=>by rw [z,hn] at e; cases e
 refine I.step (g':=s.gens) (d':=s.drawn) (ch:=[it]) (λb hb=>?_) (λb o _ _ hc e _=>k b o (λz=>hc (by simp [z])) e) (λb o _ _ hc e _=>⟨o.slots,k b o (λz=>hc (by simp [z])) e⟩) (λ_ _ _ _ n=>n)
  (λb o hc e=>⟨o,k b o (λz=>hc (by simp [z])) e⟩) (λ_ _ e=>e) (λ_ _ _ e=>e) (λ_ _ _ e=>e) (λm hm=>?_) (λb u e=>?_) I.bare
 .have e:b=it:=by simpa using hb
  subst e
  exact ⟨h1,hL,h2,h3⟩
 .obtain ⟨o,es,ep,ho,r⟩:=hm
  exact ⟨o,es,ep,k _ o (a4v hL) ho,r⟩
 .refine (I.hok b u e).stay (λc v hc q=>k c v ?_ q) (λ_ q=>q) λ_ _ q=>q
  rcases hc with z | z
  .rw [z]; exact LQ b u e
  .exact LQ c _ z
theorem Inv.tok (I:Inv X pins σ H s) (t:Nat):Inv X pins σ H { s with toks:=t }:=I.un (h':=s.heap) (t':=t) Un.refl I.hok
theorem Inv.kept {t':Nat} (I:Inv X pins σ H s) (k:∀ b u,s.heap.get? b=some u->h'.get? b=some u):Inv X pins σ H { s with heap:=h',toks:=t' }:=I.un (Un.kept k) (I.hok.kept k)
theorem Inv.laid {a:Addr} {o:HO} {t':Nat} (I:Inv X pins σ H s) (k:∀ b u,s.heap.get? b=some u->h'.get? b=some u) (hp:s.heap.objs.size<=a) (new:aJ X.prog X.w (upd H a o) h' a o) :
  Inv X pins σ (upd H a o) { s with heap:=h',toks:=t' }:=I.un (Un.laid k hp (I.hok.fresh hp)) (I.hok.laid k hp new)
theorem Inv.write {x e:Addr} {o:HO} {t':Nat} (I:Inv X pins σ H s) (mu:BR (H x)) (he:e=x\/H e=some (.own x)) (k:∀ b u,b≠e->s.heap.get? b=some u->h'.get? b=some u) (xW:∃ u,h'.get? e=some u)
  (new:aJ X.prog X.w (upd H x o) h' x o):Inv X pins σ (upd H x o) { s with heap:=h',toks:=t' }:=I.un (Un.write mu he k xW) (I.hok.write mu he k xW new)
theorem Inv.oh {cJ:List (Addr×Obj)} (I:Inv X pins σ H s) (h:∀ p∈cJ,s.heap.get? p.1=some p.2/\H p.1=none/\p.1≠X.env.locals/\p.1∉X.fs/\∀ v,p.2.data≠.cell v):Inv X cJ σ H s :=
 ⟨I.ok,I.os,I.bare,I.base,I.loc,I.cell,I.free,I.dO,λp hp=>(a1m.mp hp).elim (λz=>I.pin p (aKJ _ z)) (h p),I.hok,I.len⟩
theorem PR {N:List Str} (hN:N.Nodup) {i j:Nat} {x:Str} (a:N[i]?=some x) (b:N[j]?=some x):i=j:=by
 obtain ⟨h1,e1⟩:=a2U.mp a
 obtain ⟨h2,e2⟩:=a2U.mp b
 exact (List.getElem_inj hN).mp (e1.trans e2.symm)
theorem Qs {M:Model} {A:Around} {E:Value->Shared->Prop} {i:Nat} {x:Str} {v:V} {u:Value} {Q:Unit->Shared->Prop} (I:Inv X pins σ H s) (hN:X.N.Nodup) (hi:X.N[i]?=some x) (hx:Loc X.env.scope x) (r:RelV v u)
  (h:∀ s',Inv X pins (σ.set i (some v)) H s'->(∃ a,Heap.SameBut a s.heap s'.heap/\(a=X.env.locals\/X.env.cells.lookup x=some a))->Q () s') (hf:X.fn x=true\/X.env.scope.names.lookup x=some .local:=by first | exact .inl rfl | exact .inr rfl | assumption):wpAny M A (storeName X.env x u) Q E s:=by
 obtain ⟨m,hn,hl⟩:=id I.loc
 have hcls:(X.env.scope.kind == .class || (X.env.scope.kind == .module && X.env.locals != X.env.globals))=false:=by rw [I.ok.kind]; rfl
 have As:i<σ.length:=by rw [I.len]; exact (a2U.mp hi).1
 have rG:=I.rG
 have tracked:∀ {a:Addr} {h':Heap},(∃ o,s.heap.get? a=some o/\H a=none)->Heap.SameBut a s.heap h'->fz X.prog X.w H h':=λ{a h'} ha hs b ob e=>by
  obtain ⟨_,_,hfree⟩:=ha
  refine (I.hok b ob e).stay (λc w' hc q=>(hs.2 c ?_).trans q) (λ_ q=>q) λ_ _ q=>q
  rintro rfl
  rcases hc with rfl | hc
  .rw [hfree] at e; cases e
  .rw [hfree] at hc; cases hc
 rcases hx with hk | hk
 .refine wpAny_storeName_local hk hn (λh' hn' hs=>?_) hcls
  obtain ⟨oL,_,_,kY,_⟩:=id hn
  refine h _ ⟨I.ok,I.os,I.bare,⟨λb o e n hb hx=>?_,λb o e n hb hx=>?_,I.base.free,λb o e hx=>?_,I.base.tups,I.base.i7,I.base.ji⟩,⟨_,hn',λj y v' e1 e2 e3=>?_⟩,λy c e=>?_,I.free,I.dO,λp hp=>?_,tracked ⟨oL,kY,I.free⟩ hs,by simpa using I.len⟩ ⟨_,hs,.inl rfl⟩
  .exact (hs.2 b (ayF (akK (a2R e) I.ok.above))).trans (I.base.keep b o e n hb hx)
  .obtain ⟨sl,e1⟩:=I.base.slot b o e n hb hx
   exact ⟨sl,(hs.2 b (ayF (akK (a2R e) I.ok.above))).trans e1⟩
  .obtain ⟨o',e1⟩:=I.base.there b o e hx
   exact ⟨o',(hs.2 b (ayF (akK (a2R e) I.ok.above))).trans e1⟩
  .by_cases hj:j=i
   .subst hj
    rw [hi] at e1; cases e1
    rw [abG As] at e2
    cases e2
    exact ⟨u,r,.inl ⟨hk,by simp⟩⟩
   .rw [a9q (a4v hj)] at e2
    obtain ⟨u',r',q⟩:=hl j y v' e1 e2 e3
    refine ⟨u',r',?_⟩
    rcases q with ⟨k,e⟩ | ⟨k,c,e,z⟩
    .refine .inl ⟨k,?_⟩
     have:y≠x:=λe=>hj (PR hN e1 (e ▸ hi))
     simp [this,e]
    .exact .inr ⟨k,c,e,z.sameBut hs (rG y c e)⟩
  .obtain ⟨w',z⟩:=I.cell y c e
   exact ⟨w',z.sameBut hs (rG y c e)⟩
  .obtain ⟨e,n,ne,nf,d⟩:=I.pin p hp
   exact ⟨(hs.2 p.1 ne).trans e,n,ne,nf,d⟩
 .have hfn:X.fn x=true:=by
   rcases hf with z | z
   .exact z
   .rw [z] at hk; cases hk
  obtain ⟨c,hc⟩:=I.ok.has x (.inl hk)
  obtain ⟨w',z⟩:=I.cell x c hc
  refine wpAny_storeName_cell I.ok.kind hk hc z (λh' hc' hs=>?_)
  obtain ⟨oc,hoc,GX⟩:=id z
  refine h { s with heap:=h' } ⟨I.ok,I.os,I.bare,⟨λb o e n hb hx=>?_,λb o e n hb hx=>?_,I.base.free,λb o e hx=>?_,I.base.tups,I.base.i7,I.base.ji⟩,⟨m,hn.sameBut hs (a4v (rG x c hc)),λj y v' e1 e2 e3=>?_⟩,λy c' e=>?_,I.free,I.dO,λp hp=>?_,tracked ⟨oc,hoc,I.dO x c hc⟩ hs,by simpa using I.len⟩ ⟨c,hs,.inr hc⟩
  .exact (hs.2 b (ayF (akK (a2R e) (I.ok.AN x c hfn hc)))).trans (I.base.keep b o e n hb hx)
  .obtain ⟨sl,e1⟩:=I.base.slot b o e n hb hx
   exact ⟨sl,(hs.2 b (ayF (akK (a2R e) (I.ok.AN x c hfn hc)))).trans e1⟩
  .obtain ⟨o',e1⟩:=I.base.there b o e hx
   exact ⟨o',(hs.2 b (ayF (akK (a2R e) (I.ok.AN x c hfn hc)))).trans e1⟩
  .by_cases hj:j=i
   .subst hj
    rw [hi] at e1; cases e1
    rw [abG As] at e2
    cases e2
    exact ⟨u,r,.inr ⟨.inl hk,c,hc,hc'⟩⟩
   .rw [a9q (a4v hj)] at e2
    obtain ⟨u',r',q⟩:=hl j y v' e1 e2 e3
    refine ⟨u',r',?_⟩
    rcases q with q | ⟨k,c',e,z'⟩
    .exact .inl q
    .refine .inr ⟨k,c',e,z'.sameBut hs ?_⟩
     rintro rfl
     exact hj (PR hN e1 (I.ok.inj _ _ _ e hc ▸ hi))
  .by_cases hcc:c'=c
   .subst hcc; exact ⟨_,hc'⟩
   .obtain ⟨w2,z2⟩:=I.cell y c' e
    exact ⟨w2,z2.sameBut hs hcc⟩
  .obtain ⟨e,n,ne,nf,d⟩:=I.pin p hp
   refine ⟨(hs.2 p.1 ?_).trans e,n,ne,nf,d⟩
   intro q
   rw [q,hoc] at e
   have q':oc=p.2:=avM e
   exact d w' (by rw [← q']; exact GX)
theorem PN {M:Model} {A:Around} {E:Value->Shared->Prop} {i:Nat} {x:Str} {v:V} {u:Value} {Q:Unit->Shared->Prop} (I:Inv X pins σ H s) (hN:X.N.Nodup) (hi:X.N[i]?=some x) (hx:Loc X.env.scope x) (r:RelV v u)
  (h:∀ s',Inv X pins (σ.set i (some v)) H s'->Q () s') (hf:X.fn x=true\/X.env.scope.names.lookup x=some .local:=by first | exact .inl rfl | exact .inr rfl | assumption):wpAny M A (storeName X.env x u) Q E s :=
 Qs I hN hi hx r (λs' I' _=>h s' I') hf
theorem Inv.AM {s':Shared} {ch:List Addr} (I:Inv X pins σ H s) (ho:s'.os=s.os) (u:Un (frs X.stack) ch H H' s.heap s'.heap) (hok:fz X.prog X.w H' s'.heap) (hg:AllBare s'.gens)
  (hch:∀ b∈ch,(b∈X.ex\/X.s₀.heap.objs.size<=b)/\b≠X.env.locals/\(∀ x c,X.env.cells.lookup x=some c->c≠b)/\∀ p∈X.pn++pins,p.1≠b):Inv X pins σ H' s':=by
 obtain ⟨h',g',d',t',o'⟩:=s'
 have e:o'=s.os:=ho
 subst e
 exact I.call (g':=g') (t':=t') (d':=d') u hok hg hch
end
abbrev XK:=Value->Option Addr->Hp->Prop
abbrev St:=List (Option V)
abbrev VK:=V->Hp->Prop
abbrev TE:=St->Hp->VK->Prop
abbrev TT:=St->Hp->(Bool->Hp->Prop)->Prop
abbrev TA:=St->Hp->(List V->Hp->Prop)->Prop
structure Ends where
 nx:St->Hp->Prop
 rt:VK
 bk:St->Hp->Prop:=λ_ _=>False
 ct:St->Hp->Prop:=λ_ _=>False
abbrev TS:=Ends->St->Hp->Prop
def EP (X:Cx) (pins:List (Addr×Obj)) (σ:St) (Q:VK) (u:Value) (s':Shared):Prop:=∃ v H',Inv X pins σ H' s'/\RelV v u/\Q v H'
def TP (X:Cx) (pins:List (Addr×Obj)) (σ:St) (Q:Bool->Hp->Prop) (b:Bool) (s':Shared):Prop:=∃ H',Inv X pins σ H' s'/\Q b H'
def AP (X:Cx) (pins:List (Addr×Obj)) (σ:St) (Q:List V->Hp->Prop) (us:List Value) (s':Shared):Prop:=∃ vs H',Inv X pins σ H' s'/\Vals vs us/\Q vs H'
def SP (X:Cx) (pins:List (Addr×Obj)) (D:Ends) (f:Flow) (s':Shared):Prop :=
 match f with
 | .next=>∃ σ' H',Inv X pins σ' H' s'/\D.nx σ' H'
 | .brk=>∃ σ' H',Inv X pins σ' H' s'/\D.bk σ' H'
 | .cont=>∃ σ' H',Inv X pins σ' H' s'/\D.ct σ' H'
 | .ret u=>∃ v σ' H',Inv X pins σ' H' s'/\RelV v u/\D.rt v H'
def PE (X:Cx) (e:Expr) (t:TE):Prop :=
 ∀ (pins:List (Addr×Obj)) (s:Shared) (σ:St) (H:Hp) (Q:VK),Inv X pins σ H s->t σ H Q->wpAny (model X.prog X.w) X.A (eval e X.env) (EP X pins σ Q) X.xe s
def PT (X:Cx) (e:Expr) (t:TT):Prop :=
 ∀ (pins:List (Addr×Obj)) (s:Shared) (σ:St) (H:Hp) (Q:Bool->Hp->Prop),Inv X pins σ H s->t σ H Q->wpAny (model X.prog X.w) X.A (isTrue e X.env (eval e X.env)) (TP X pins σ Q) X.xe s
def PW (X:Cx) (e:Expr) (t:TT):Prop :=
 ∀ (whole:Sem Value) (pins:List (Addr×Obj)) (s:Shared) (σ:St) (H:Hp) (Q:Bool->Hp->Prop),Inv X pins σ H s->t σ H Q->wpAny (model X.prog X.w) X.A (isTrue e X.env whole) (TP X pins σ Q) X.xe s
theorem PW.pt {X:Cx} {e:Expr} {t:TT} (h:PW X e t):PT X e t:=h _
def PA (X:Cx) (es:List Expr) (t:TA):Prop :=
 ∀ (pos:Pos) (pins:List (Addr×Obj)) (s:Shared) (σ:St) (H:Hp) (Q:List V->Hp->Prop),Inv X pins σ H s->t σ H Q->wpAny (model X.prog X.w) X.A (spliced (backTo pos (starEach es X.env))) (AP X pins σ Q) X.xe s
def PS (X:Cx) (st:Stmt) (t:TS):Prop :=
 ∀ (pins:List (Addr×Obj)) (s:Shared) (σ:St) (H:Hp) (D:Ends),Inv X pins σ H s->t D σ H->wpAny (model X.prog X.w) X.A (exec st X.env) (SP X pins D) X.xe s
def pB (X:Cx) (st:List Stmt) (t:TS):Prop :=
 ∀ (pins:List (Addr×Obj)) (s:Shared) (σ:St) (H:Hp) (D:Ends),Inv X pins σ H s->t D σ H->wpAny (model X.prog X.w) X.A (execs st X.env) (SP X pins D) X.xe s
theorem bY {α:Type} {t:Sem α} {Q Q':α->Shared->Prop} {M:Model} {A:Around} {E:Value->Shared->Prop} {s:Shared} (h:wpAny M A t Q E s) (hQ:∀ a s,Q a s->Q' a s):wpAny M A t Q' E s:=aRs h hQ λ_ _ x=>x
theorem gc {t : Sem Value} {Q : VK} {Q' : Value -> Shared -> Prop} {M : Model} {A : Around} {E : Value -> Shared -> Prop} {s : Shared} {X : Cx} {pins : List (Addr × Obj)} {σ : St} (h : wpAny M A t (EP X pins σ Q) E s) (k : ∀ v s x H, Inv X pins σ H s -> RelV x v -> Q x H -> Q' v s) : wpAny M A t Q' E s := aRs h (λv s z => by obtain ⟨x, H, i, r, q⟩ := z; exact k v s x H i r q) λ_ _ x => x
theorem mR {t : Sem (List Value)} {Q : List V -> Hp -> Prop} {Q' : List Value -> Shared -> Prop} {M : Model} {A : Around} {E : Value -> Shared -> Prop} {s : Shared} {X : Cx} {pins : List (Addr × Obj)} {σ : St} (h : wpAny M A t (AP X pins σ Q) E s) (k : ∀ v s x H, Inv X pins σ H s -> Vals x v -> Q x H -> Q' v s) : wpAny M A t Q' E s := aRs h (λv s z => by obtain ⟨x, H, i, r, q⟩ := z; exact k v s x H i r q) λ_ _ x => x
section
variable {X:Cx}
def yJ (i:Nat):TE:=λσ H Q=>∃ v,σ[i]?=some (some v)/\Q v H
def tC (v:V):TE:=λ_ H Q=>Q v H
theorem W0 {i:Nat} {x:Str} {pos:Pos} (hN:X.N[i]?=some x) (hv:BI X.env.scope x) (hd:(x == ("__debug__" : Str))=false:=by decide) (hcd:(x == ("__classdict__" : Str))=false:=by decide):PE X (.Name x pos) (yJ i):=by
 intro pins s σ H Q I h
 obtain ⟨v,e,h⟩:=h
 obtain ⟨m,hn,hl⟩:=I.loc
 obtain ⟨u,r,l⟩:=hl i x v hN e hv
 have fin:EP X pins σ Q u s:=⟨v,H,I,r,h⟩
 rcases l with ⟨hk,hm⟩ | ⟨hk,c,hc,hcell⟩
 .exact wpAny_Name (wpAny_loadName_local I.ok.kind hk hn hm fin) hd
 .rcases hk with hk | hk
  .exact wpAny_Name (wpAny_loadName_cell I.ok.kind hk hc hcell fin) hd
  .exact wpAny_Name (wpAny_loadName_free I.ok.kind hk hc hcell fin hcd) hd
theorem Zj {i j pos}:PE X (.Constant (.int i) j pos) (tC (.int i)):=λ_ _ _ H _ I h=>wpAny_Constant_int ⟨.int i,H,I.tok _,⟨_,rfl⟩,h⟩
theorem dM {b j pos}:PE X (.Constant (.bool b) j pos) (tC (.bl b)):=λ_ _ _ H _ I h=>Constant_bool ⟨.bl b,H,I,rfl,h⟩
theorem WZ {j pos}:PE X (.Constant .none j pos) (tC .aT):=λ_ _ _ H _ I h=>Constant_none ⟨.aT,H,I,rfl,h⟩
theorem ZM {x j pos}:PE X (.Constant (.str x) j pos) (tC (.str x)):=λ_ _ _ H _ I h=>Calls.Constant_str ⟨.str x,H,I.tok _,⟨_,rfl⟩,h⟩
def Gl (X:Cx) (x:Str):Prop:=X.env.kindOf x=some .globalImplicit
theorem II {E:Value->Shared->Prop} {pins:List (Addr×Obj)} {s:Shared} {σ:St} {H:Hp} {x:Str} {u:Value} {pos:Pos} {Q:Value->Shared->Prop} (I:Inv X pins σ H s) (hg:Gl X x) (hm:X.mg x=some u) (h:Q u s)
  (hd:(x == ("__debug__" : Str))=false:=by decide):wpAny (model X.prog X.w) X.A (eval (.Name x pos) X.env) Q E s :=
 Calls.Name_function_global I.ok.kind hg (Calls.loadGlobal_global (by rw [I.ok.glob]; exact I.mod.glob.keeps I.bk) hm h) hd
theorem pQ {E:Value->Shared->Prop} {pins:List (Addr×Obj)} {s:Shared} {σ:St} {H:Hp} {x:Str} {u:Value} {pos:Pos} {Q:Value->Shared->Prop} (I:Inv X pins σ H s) (hg:Gl X x) (hm:X.mg x=none) (hv:bootBuiltins x=some u) (h:Q u s)
  (hn:x ≠ "__name__" := by decide) (hd:(x == ("__debug__" : Str))=false:=by decide):wpAny (model X.prog X.w) X.A (eval (.Name x pos) X.env) Q E s:=by
 obtain ⟨mb,h1,h2⟩:=I.mod.blt
 exact Calls.Name_function_global I.ok.kind hg (Calls.loadGlobal_builtin (by rw [I.ok.glob]; exact I.mod.glob.keeps I.bk) hm (by rw [I.ok.blt]; exact h1.keeps I.bk) ((h2 x hn).trans hv) h) hd
theorem Xv {x:Str} {v:V} {u:Value} {pos:Pos} (hg:Gl X x) (hm:X.mg x=some u) (r:RelV v u) (hd:(x == ("__debug__" : Str))=false:=by decide):PE X (.Name x pos) (tC v) :=
 λ_ _ _ H _ I h=>II I hg hm ⟨v,H,I,r,h⟩ hd
theorem pR {x:Str} {v:V} {u:Value} {pos:Pos} (hg:Gl X x) (hm:X.mg x=none) (hv:bootBuiltins x=some u) (r:RelV v u) (hn:x ≠ "__name__" := by decide) (hd:(x == ("__debug__" : Str))=false:=by decide):PE X (.Name x pos) (tC v) :=
 λ_ _ _ H _ I h=>pQ I hg hm hv ⟨v,H,I,r,h⟩ hn hd
variable {a b:Expr} {ta tb:TE} {pos:Pos}
def PC (X:Cx) (op:CmpOp) (a b:Expr) (t:TE):Prop :=
 ∀ (pins:List (Addr×Obj)) (s:Shared) (σ:St) (H:Hp) (Q:VK),Inv X pins σ H s->t σ H Q ->
  wpAny (model X.prog X.w) X.A (eval a X.env) (λv s₁=>wpAny (model X.prog X.w) X.A (eval b X.env) (λu s₂=>wpAny (model X.prog X.w) X.A (compareOp op v u) (EP X pins σ Q) X.xe s₂) X.xe s₁) X.xe s
theorem PM (b:Expr) {op:CmpOp} (h:op≠.In) (h2:op≠.NotIn):behindInMarks op b=false:=by
 have e1:(op == CmpOp.In)=false:=by cases op <;> first | rfl | exact absurd rfl h
 have e2:(op == CmpOp.NotIn)=false:=by cases op <;> first | rfl | exact absurd rfl h2
 cases b <;> simp [behindInMarks,e1,e2]
def Fi (ta:TE):TE:=λσ H Q=>ta σ H λx H1=>Q (.bl (decide (x=.aT))) H1
def yM (ta:TE):TE:=λσ H Q=>ta σ H λx H1=>Q (.bl (!decide (x=.aT))) H1
theorem RelV.lG {x:V} {v:Value} (r:RelV x v):(v == Value.none)=decide (x=.aT):=by
 cases x with
 | aT=>cases r; rfl
 | bl _=>cases r; rfl
 | int _=>obtain ⟨t,rfl⟩:=r; rfl
 | str _=>obtain ⟨t,rfl⟩:=r; rfl
 | o7 _=>obtain ⟨t,rfl⟩:=r; rfl
 | sM _=>obtain ⟨t,rfl⟩:=r; rfl
 | ref _=>cases r; rfl
 | ty _=>cases r; rfl
theorem NV {j pos'} (ha:PE X a ta):PC X .Is a (.Constant .none j pos') (Fi ta):=by
 intro pins s σ H Q I h
 refine gc (ha pins s σ H _ I h) λv s1 x H1 I1 r1 q1=>?_
 exact Constant_none (is_none_gen ⟨.bl _,H1,I1,by rw [r1.lG]; rfl,q1⟩)
theorem OV {j pos'} (ha:PE X a ta):PC X .IsNot a (.Constant .none j pos') (yM ta):=by
 intro pins s σ H Q I h
 refine gc (ha pins s σ H _ I h) λv s1 x H1 I1 r1 q1=>?_
 exact Constant_none (isnot_none_gen ⟨.bl _,H1,I1,by rw [r1.lG]; rfl,q1⟩)
def tB (t:TE):TT:=λσ H Q=>t σ H λx H1=>∃ c,x=.bl c/\Q c H1
theorem WY {op:CmpOp} {t:TE} (h:PC X op a b t) (h1:behindInMarks op b=false:=by first | exact PM _ (by decide) (by decide) | rfl):PE X (.Compare a [op] [b] pos) t:=λpins s σ H Q I hw=>wpAny_Compare1 (h pins s σ H Q I hw) h1
theorem DB {op:CmpOp} {t:TE} (h:PC X op a b t) (h1:behindInMarks op b=false:=by first | exact PM _ (by decide) (by decide) | rfl):PT X (.Compare a [op] [b] pos) (tB t):=by
 intro pins s σ H Q I hw
 refine wpAny_isTrue_Compare1 (bY (h pins s σ H _ I hw) λv s1 h1=>bY h1 λu s2 h2=>bY h2 λc s3 ⟨x,H1,I1,r1,q1⟩=>?_) h1
 obtain ⟨d,rfl,q⟩:=q1
 cases r1
 exact aSH ⟨H1,I1,q⟩
theorem jJ {e:Expr} {t:TE} (h:PE X e t) (he:∀ whole,isTrue e X.env whole=(do let v ← whole; standAt e.pos; holding [v] (truthy v)):=by intro _; rfl):PT X e (tB t):=by
 intro pins s σ H Q I hw
 refine isTrue_plain (gc (h pins s σ H _ I hw) λv s1 x H1 I1 r1 q1=>?_) (he _)
 obtain ⟨d,rfl,q⟩:=q1
 cases r1
 exact aSH ⟨H1,I1,q⟩
variable {tA Cu:TT} {rest:List Expr}
def Fp (t u:TT):TT:=λσ H Q=>t σ H λc H1=>if c=true then u σ H1 Q else Q false H1
def LI (t u:TT):TT:=λσ H Q=>t σ H λc H1=>if c=true then Q true H1 else u σ H1 Q
def Ff (t:TT):TT:=λσ H Q=>t σ H λc H1=>Q (!c) H1
theorem IG (ha:PT X a tA):PW X (.BoolOp .And [a] pos) tA:=by
 intro wh pins s σ H Q I h
 refine isTrue_and (bY (ha pins s σ H Q I h) λc s1 e=>?_)
 cases c with
 | true=>exact isTrue_and_nil e
 | false=>exact e
theorem DA (ha:PT X a tA):PW X (.BoolOp .Or [a] pos) tA:=by
 intro wh pins s σ H Q I h
 refine isTrue_or (bY (ha pins s σ H Q I h) λc s1 e=>?_)
 cases c with
 | false=>exact isTrue_or_nil e
 | true=>exact e
theorem Ip (ha:PT X a tA) (hb:PW X (.BoolOp .And (b :: rest) pos) Cu):PW X (.BoolOp .And (a :: b :: rest) pos) (Fp tA Cu):=by
 intro wh pins s σ H Q I h
 refine isTrue_and (bY (ha pins s σ H _ I h) λc s1 ⟨H1,I1,q1⟩=>?_)
 cases c with
 | true=>exact hb wh pins s1 σ H1 Q I1 q1
 | false=>exact ⟨H1,I1,q1⟩
theorem pw_or (ha:PT X a tA) (hb:PW X (.BoolOp .Or (b :: rest) pos) Cu):PW X (.BoolOp .Or (a :: b :: rest) pos) (LI tA Cu):=by
 intro wh pins s σ H Q I h
 refine isTrue_or (bY (ha pins s σ H _ I h) λc s1 ⟨H1,I1,q1⟩=>?_)
 cases c with
 | true=>exact ⟨H1,I1,q1⟩
 | false=>exact hb wh pins s1 σ H1 Q I1 q1
theorem wB (ha:PT X a tA):PT X (.UnaryOp .Not a pos) (Ff tA):=by
 intro pins s σ H Q I h
 exact isTrue_not (ha pins s σ H (λc H1=>Q (!c) H1) I h)
def yR (ta tb:TE):TE:=λσ H Q=>ta σ H λx H1=>∃ c,x=.bl c/\if c=true then tb σ H1 Q else Q (.bl false) H1
def Fe (ta tb:TE):TE:=λσ H Q=>ta σ H λx H1=>∃ c,x=.bl c/\if c=true then Q (.bl true) H1 else tb σ H1 Q
theorem Dn {op} {t:TE} (h:PE X a t):PE X (.BoolOp op [a] pos) t:=λpins s σ H Q I hw=>BoolOp_one (h pins s σ H Q I hw)
theorem Dm (ha:PE X a ta) (hb:PE X (.BoolOp .And (b :: rest) pos) tb):PE X (.BoolOp .And (a :: b :: rest) pos) (yR ta tb):=by
 intro pins s σ H Q I h
 refine BoolOp_and (gc (ha pins s σ H _ I h) λv s1 x H1 I1 r1 q1=>?_)
 obtain ⟨c,rfl,q1⟩:=q1
 cases r1
 refine aSH ?_
 cases c with
 | true=>exact hb pins s1 σ H1 Q I1 q1
 | false=>exact ⟨.bl false,H1,I1,rfl,q1⟩
theorem zC (ha:PE X a ta) (hb:PE X (.BoolOp .Or (b :: rest) pos) tb):PE X (.BoolOp .Or (a :: b :: rest) pos) (Fe ta tb):=by
 intro pins s σ H Q I h
 refine BoolOp_or (gc (ha pins s σ H _ I h) λv s1 x H1 I1 r1 q1=>?_)
 obtain ⟨c,rfl,q1⟩:=q1
 cases r1
 refine aSH ?_
 cases c with
 | false=>exact hb pins s1 σ H1 Q I1 q1
 | true=>exact ⟨.bl true,H1,I1,rfl,q1⟩
def Sw (t:TT) (ta tb:TE):TE:=λσ H Q=>t σ H λc H1=>if c=true then ta σ H1 Q else tb σ H1 Q
theorem wK {c:Expr} (hc:PT X c tA) (ha:PE X a ta) (hb:PE X b tb):PE X (.IfExp c a b pos) (Sw tA ta tb):=by
 intro pins s σ H Q I h
 refine wpAny_IfExp (bY (hc pins s σ H _ I h) λd s1 ⟨H1,I1,q1⟩=>?_)
 cases d with
 | true=>exact ha pins s1 σ H1 Q I1 q1
 | false=>exact hb pins s1 σ H1 Q I1 q1
end
def aB (K:W.Frag) (H:Hp) (a:Addr) (xs:List V):Prop :=
 Rd H a (.lst xs) \/
  ∃ (o:Obj) (its:Array Value) (n:Nat),K.lookup a=some o/\o.cls=.type "list" /\ o.dict=none/\o.data=.seq its n/\its.size<=sizeLine/\Vals xs its.toList
def aK (K:W.Frag) (H:Hp) (a:Addr) (xs:List V):Prop :=
 Rd H a (.tup xs) \/
  ∃ (o:Obj) (its:Array Value) (n:Nat),K.lookup a=some o/\o.cls=.type "tuple" /\ o.data=.seq its n/\its.size<=sizeLine/\Vals xs its.toList
def HN:Value->Option V
 | .none=>some .aT
 | .bool b=>some (.bl b)
 | .int i _=>some (.int i)
 | .str x _=>some (.str x)
 | .bytes b _=>some (.o7 b)
 | .float b _=>some (.sM b)
 | .ref a=>some (.ref a)
 | .type n=>some (.ty n)
 | _=>none
theorem RelV.abs {x:V} {u:Value} (r:RelV x u):HN u=some x:=by
 cases x with
 | aT=>cases r; rfl
 | bl _=>cases r; rfl
 | int _=>obtain ⟨t,rfl⟩:=r; rfl
 | str _=>obtain ⟨t,rfl⟩:=r; rfl
 | o7 _=>obtain ⟨t,rfl⟩:=r; rfl
 | sM _=>obtain ⟨t,rfl⟩:=r; rfl
 | ref _=>cases r; rfl
 | ty _=>cases r; rfl
theorem RelV.inj {x y:V} {u:Value} (r:RelV x u) (q:RelV y u):x=y:=avM (r.abs.symm.trans q.abs)
theorem Vals.inj:∀ {xs ys:List V} {us:List Value},Vals xs us->Vals ys us->xs=ys
 | _,_,_,.nil,.nil=>rfl
 | _,_,_,.cons r t,.cons r' t'=>by rw [r.inj r',Vals.inj t t']
section
variable {X:Cx} {pins:List (Addr×Obj)} {σ:St} {H:Hp} {s:Shared} {a:Addr} {xs ys:List V}
theorem aB.of {K:W.Frag} (h:H a=some (.lst xs)):aB K H a xs:=.inl (.inl h)
theorem aK.of {K:W.Frag} (h:H a=some (.tup xs)):aK K H a xs:=.inl (.inl h)
theorem Inv.list (I:Inv X pins σ H s) (h:aB X.K H a xs):∃ its:List Value,Vals xs its/\PlainL s.heap a its.toArray/\xs.length<=sizeLine:=by
 rcases h with h | ⟨o,its,n,hk,hc,hd,hs,hz,r⟩
 .obtain ⟨z,its,n,r,e⟩:=h.ok I.hok
  exact ⟨its,r,⟨_,n,e,rfl,rfl,rfl⟩,z⟩
 .refine ⟨its.toList,r,⟨o,n,I.d8 a o hk,hc,hd,by simpa using hs⟩,?_⟩
  have e:=r.length
  simp only [aYJ] at e
  lia
theorem Inv.tuple (I:Inv X pins σ H s) (h:aK X.K H a xs):∃ its:List Value,Vals xs its/\IsTup s.heap a its.toArray/\xs.length<=sizeLine:=by
 rcases h with h | ⟨o,its,n,hk,hc,hs,hz,r⟩
 .obtain ⟨z,its,r,p⟩:=h.ok I.hok
  exact ⟨its,r,p,z⟩
 .refine ⟨its.toList,r,⟨o,I.d8 a o hk,hc,n,by simpa using hs⟩,?_⟩
  have e:=r.length
  simp only [aYJ] at e
  lia
theorem Inv.fO (I:Inv X pins σ H s) (h:aB X.K H a xs) (h':aB X.K H a ys):xs=ys:=by
 obtain ⟨its,r,⟨o,n,e,_,_,d⟩,_⟩:=I.list h
 obtain ⟨its',r',⟨o',n',e',_,_,d'⟩,_⟩:=I.list h'
 rw [e] at e'; cases e'
 rw [d] at d'
 injection d' with d1 _
 have:its=its':=by simpa using aok Array.toList d1
 subst this
 exact r.inj r'
theorem Inv.gb (I:Inv X pins σ H s) (h:aK X.K H a xs) (h':aK X.K H a ys):xs=ys:=by
 obtain ⟨its,r,⟨o,e,_,n,d⟩,_⟩:=I.tuple h
 obtain ⟨its',r',⟨o',e',_,n',d'⟩,_⟩:=I.tuple h'
 rw [e] at e'; cases e'
 rw [d] at d'
 injection d' with d1 _
 have:its=its':=by simpa using aok Array.toList d1
 subst this
 exact r.inj r'
end
abbrev Cx.jK (X:Cx) (E:Value->Shared->Prop):Cx:={ X with xe:=E }
abbrev Cx.vn (X:Cx):Cx:=X.jK λ_ _=>False
theorem Cx.Ok.jK {X:Cx} (ok:X.Ok) (E:Value->Shared->Prop):(X.jK E).Ok :=
 ⟨ok.mod,ok.kind,ok.glob,ok.blt,ok.above,ok.inj,ok.has,ok.AN,ok.hd,ok.frames,ok.stk,ok.C7,ok.bs,ok.rH,ok.qm,ok.qL,ok.i6,ok.vU⟩
theorem Cx.Ok.fB {X:Cx} {E:Value->Shared->Prop} (ok:(X.jK E).Ok):X.Ok :=
 ⟨ok.mod,ok.kind,ok.glob,ok.blt,ok.above,ok.inj,ok.has,ok.AN,ok.hd,ok.frames,ok.stk,ok.C7,ok.bs,ok.rH,ok.qm,ok.qL,ok.i6,ok.vU⟩
section
variable {X:Cx} {pins:List (Addr×Obj)} {σ:St} {H:Hp} {s:Shared} {E:Value->Shared->Prop}
theorem Inv.jK (I:Inv X pins σ H s) (E:Value->Shared->Prop):Inv (X.jK E) pins σ H s:=⟨I.ok.jK E,I.os,I.bare,I.base,I.loc,I.cell,I.free,I.dO,I.pin,I.hok,I.len⟩
theorem Inv.fB (I:Inv (X.jK E) pins σ H s):Inv X pins σ H s:=⟨I.ok.fB,I.os,I.bare,I.base,I.loc,I.cell,I.free,I.dO,I.pin,I.hok,I.len⟩
theorem SP.fB {D:Ends} {f:Flow} {s':Shared} (h:SP (X.jK E) pins D f s'):SP X pins D f s':=by
 cases f with
 | next=>obtain ⟨σ',H',I,q⟩:=h; exact ⟨σ',H',I.fB,q⟩
 | brk=>obtain ⟨σ',H',I,q⟩:=h; exact ⟨σ',H',I.fB,q⟩
 | cont=>obtain ⟨σ',H',I,q⟩:=h; exact ⟨σ',H',I.fB,q⟩
 | ret u=>obtain ⟨v,σ',H',I,r,q⟩:=h; exact ⟨v,σ',H',I.fB,r,q⟩
theorem pB.vn {st:List Stmt} {t:TS} (h:pB X.vn st t):pB X st t:=λpins s σ H D I hw =>
 aRs (h pins s σ H D (I.jK _) hw) (λ_ _ q=>q.fB) λ_ _ z=>False.elim z
end
section
variable {X:Cx} {st:Stmt} {rest:List Stmt} {t u:TS} {e:Expr} {te:TE} {pos:Pos}
def gk:TS:=λD σ H=>D.nx σ H
def pV (t u:TS):TS:=λD σ H=>t { D with nx:=u D } σ H
theorem Zv:pB X [] gk:=λ_ _ σ H _ I h=>wpAny_execs_nil ⟨σ,H,I,h⟩
theorem Zf (h1:PS X st t) (h2:pB X rest u):pB X (st :: rest) (pV t u):=by
 intro pins s σ H D I h
 refine wpAny_execs_cons (bY (h1 pins s σ H { D with nx:=u D } I h) λf s1 q=>?_)
 cases f with
 | next =>
  obtain ⟨σ',H',I',q⟩:=q
  exact h2 pins s1 σ' H' D I' q
 | ret v=>exact q
 | brk=>exact q
 | cont=>exact q
theorem Zi (h1:PS X st t):pB X [st] t:=by
 intro pins s σ H D I h
 refine wpAny_execs_cons (bY (h1 pins s σ H D I h) λf s1 q=>?_)
 cases f with
 | next=>exact wpAny_execs_nil q
 | ret v=>exact q
 | brk=>exact q
 | cont=>exact q
theorem Inv.quiet {pins:List (Addr×Obj)} {σ:St} {H:Hp} {s:Shared} (I:Inv X pins σ H s):interactive X.env=false:=by simp [interactive,I.ok.kind]
def yP (te:TE):TS:=λD σ H=>te σ H λ_ H1=>D.nx σ H1
theorem Zp (he:PE X e te) (hs:swapsWith e none pos.line X.env=pure false:=by rfl):PS X (.Expr e pos) (yP te):=by
 intro pins s σ H D I h
 exact wpAny_Expr_any (gc (he pins s σ H _ I h) λv s1 x H1 I1 r1 q1=>⟨σ,H1,I1,q1⟩) I.quiet hs
def Fd (te:TE):TS:=λD σ H=>te σ H D.rt
theorem Zu (he:PE X e te):PS X (.Return (some e) pos) (Fd te):=by
 intro pins s σ H D I h
 exact wpAny_Return_some (gc (he pins s σ H _ I h) λv s1 x H1 I1 r1 q1=>⟨x,σ,H1,I1,r1,q1⟩)
def yK:TS:=λD _ H=>D.rt .aT H
theorem IF:PS X (.Return none pos) yK:=λ_ _ σ H _ I h=>wpAny_Return_none ⟨.aT,σ,H,I,rfl,h⟩
def yN (c:TT) (t u:TS):TS:=λD σ H=>c σ H λb H1=>if b=true then t D σ H1 else u D σ H1
theorem aI {c:Expr} {a b:List Stmt} {tc:TT} (hc:PT X c tc) (ha:pB X a t) (hb:pB X b u):PS X (.If c a b pos) (yN tc t u):=by
 intro pins s σ H D I h
 refine wpAny_If (bY (hc pins s σ H _ I h) λd s1 ⟨H1,I1,q1⟩=>?_)
 cases d with
 | true=>exact ha pins s1 σ H1 D I1 q1
 | false=>exact hb pins s1 σ H1 D I1 q1
end
abbrev TG:=V->St->Hp->(St->Hp->Prop)->Prop
abbrev uT:=List V->St->Hp->(St->Hp->Prop)->Prop
def PG (X:Cx) (target:Expr) (t:TG):Prop :=
 ∀ (pins:List (Addr×Obj)) (s:Shared) (σ:St) (H:Hp) (v:V) (u:Value) (Q:St->Hp->Prop),Inv X pins σ H s->RelV v u->t v σ H Q ->
  wpAny (model X.prog X.w) X.A (assign target X.env u) (λ_ s'=>∃ σ' H',Inv X pins σ' H' s'/\Q σ' H') X.xe s
def BP (X:Cx) (ts:List Expr) (t:uT):Prop :=
 ∀ (pins:List (Addr×Obj)) (s:Shared) (σ:St) (H:Hp) (vs:List V) (us:List Value) (Q:St->Hp->Prop),Inv X pins σ H s->Vals vs us->t vs σ H Q ->
  wpAny (model X.prog X.w) X.A (assignInOrder ((assignEach ts X.env).map (·.2)) us) (λ_ s'=>∃ σ' H',Inv X pins σ' H' s'/\Q σ' H') X.xe s
abbrev wM:=V->V->V->Hp->(Hp->Prop)->Prop
def BO (X:Cx) (t:wM):Prop :=
 ∀ (pins:List (Addr×Obj)) (s:Shared) (σ:St) (H:Hp) (o i v:V) (ov iv u:Value) (Q:Hp->Prop),Inv X pins σ H s->RelV o ov->RelV i iv->RelV v u->t o i v H Q ->
  wpAny (model X.prog X.w) X.A (setItem ov iv u) (λ_ s'=>∃ H',Inv X pins σ H' s'/\Q H') X.xe s
section
variable {X:Cx} {pos:Pos}
def fQ (i:Nat):TG:=λv σ H Q=>Q (σ.set i (some v)) H
theorem Xu {i:Nat} {x:Str} (hN:X.N.Nodup) (hi:X.N[i]?=some x) (hx:Loc X.env.scope x) (hf:X.fn x=true\/X.env.scope.names.lookup x=some .local:=by first | exact .inl rfl | exact .inr rfl | assumption):PG X (.Name x pos) (fQ i):=by
 intro pins s σ H v u Q I r h
 exact wpAny_assign_Name (PN I hN hi hx r (λs' I'=>⟨_,H,I',h⟩) hf)
def Hr:uT:=λvs σ H Q=>vs=[]/\Q σ H
def Az (t:TG) (u:uT):uT:=λvs σ H Q=>∃ v r,vs=v :: r/\t v σ H λσ' H'=>u r σ' H' Q
theorem mK:BP X [] Hr:=by
 intro pins s σ H vs us Q I r h
 obtain ⟨e,h⟩:=h
 subst e
 cases r
 exact assignInOrder_nil ⟨σ,H,I,h⟩
theorem Zt {e:Expr} {es:List Expr} {t:TG} {u:uT} (h1:PG X e t) (h2:BP X es u)
  (hs:(assignEach (e :: es) X.env).map (·.2)=assign e X.env :: (assignEach es X.env).map (·.2):=by rfl):BP X (e :: es) (Az t u):=by
 intro pins s σ H vs us Q I r h
 obtain ⟨v,vr,e1,h⟩:=h
 subst e1
 cases r with
 | cons r rr =>
  rw [hs]
  refine assignInOrder_cons (bY (h1 pins s σ H _ _ _ I r h) λ_ s1 ⟨σ1,H1,I1,q1⟩=>?_)
  exact h2 pins s1 σ1 H1 _ _ Q I1 rr q1
def Ay (K:W.Frag) (n:Nat) (t:uT):TG:=λv σ H Q=>∃ a xs,v=.ref a/\aK K H a xs/\xs.length=n/\t xs σ H Q
theorem WX {es:List Expr} {k:Nat} {t:uT} {n:Nat} (hc:X.calm=true) (h:BP X es t)
  (hn:(assignEach es X.env).length=n:=by rfl) (hst:(assignEach es X.env).findIdx? (·.1)=none:=by rfl):PG X (.Tuple es k pos) (Ay X.K n t):=by
 intro pins s σ H v u Q I r hw
 obtain ⟨a,xs,e1,hq,hl,hw⟩:=hw
 subst e1
 cases r
 obtain ⟨its,rv,ht,hz⟩:=I.tuple hq
 refine assign_Tuple_tuple (I.ok.hd hc) ht (by simp [hn,← hl,rv.length]) hst λh' hx=>?_
 have I1:Inv X pins σ H { s with heap:=h' }:=I.kept (t':=s.toks) λb o e=>hx b o (ayF (a2R e)) e
 exact h pins _ σ H xs _ Q I1 (by simpa using rv) hw
def Hq (to ti:TE) (t:wM):TG:=λv σ H Q=>to σ H λo H1=>ti σ H1 λi H2=>t o i v H2 λH3=>Q σ H3
theorem wA {o i:Expr} {to ti:TE} {t:wM} (ho:PE X o to) (hi:PE X i ti) (hs:BO X t)
  (ha:∀ v,assign (.Subscript o i pos) X.env v=(do
   let ov ← holding [v] (eval o X.env)
   let iv ← holding [v,ov] (eval i X.env)
   standAt pos
   holding [v,ov,iv] (setItem ov iv v)
   release [v,ov,iv] []):=by intro _; rfl):PG X (.Subscript o i pos) (Hq to ti t):=by
 intro pins s σ H v u Q I r h
 rw [ha]
 refine apg (a9s (gc (ho pins s σ H _ I h) λov s1 x H1 I1 r1 q1=>?_))
 refine apg (a9s (gc (hi pins s1 σ H1 _ I1 q1) λiv s2 y H2 I2 r2 q2=>?_))
 refine apg (wpAny_standAt (apg (a9s (bY (hs pins s2 σ H2 x y v ov iv u _ I2 r1 r2 r q2) λ_ s3 ⟨H3,I3,q3⟩=>?_))))
 exact wpAny_release ⟨σ,H3,I3,q3⟩
def oV (te:TE) (g:TG):TS:=λD σ H=>te σ H λx H1=>g x σ H1 D.nx
theorem mH {tg e:Expr} {te:TE} {g:TG} (he:PE X e te) (hg:PG X tg g) (hs:swapsWithSole [tg] e pos.line X.env=pure false:=by rfl) (hw:swappedStores [tg] e X.env=pure none:=by rfl)
  (h1:(assignEach [tg] X.env).map (·.2)=[assign tg X.env]:=by rfl):PS X (.Assign [tg] e pos) (oV te g):=by
 intro pins s σ H D I h
 refine wpAny_Assign_stores (gc (he pins s σ H _ I h) λv s1 x H1 I1 r1 q1=>?_) hs hw
 rw [h1]
 exact bY (hg pins s1 σ H1 x v _ I1 r1 q1) λ_ s2 q=>q
theorem WW {i:Nat} {x:Str} {e:Expr} {te:TE} {pos':Pos} (hN:X.N.Nodup) (hi:X.N[i]?=some x) (hx:Loc X.env.scope x) (he:PE X e te) (hs:swapsWith e (some (.Name x pos')) pos.line X.env=pure false:=by rfl) (hf:X.fn x=true\/X.env.scope.names.lookup x=some .local:=by first | exact .inl rfl | exact .inr rfl | assumption) :
  PS X (.Assign [.Name x pos'] e pos) (oV te (fQ i)):=by
 intro pins s σ H D I h
 refine wpAny_Assign_Name (gc (he pins s σ H _ I h) λv s1 y H1 I1 r1 q1=>?_) hs
 exact PN I1 hN hi hx r1 (λs2 I2=>⟨_,H1,I2,q1⟩) hf
end
structure It where
 go:Nat->Hp->Prop
 oU:Nat->Hp->V->Hp->Prop
 stop:Nat->Hp->Prop
def jb (X:Cx) (pins:List (Addr×Obj)) (H:Hp) (b:Addr):Prop :=
 H b=none/\b≠X.env.locals/\b∉X.fs/\(b∈X.ex\/X.s₀.heap.objs.size<=b)/\(∀ x c,X.env.cells.lookup x=some c->c≠b)/\∀ p∈X.pn++pins,p.1≠b
theorem Inv.lV {X:Cx} {pins:List (Addr×Obj)} {σ:St} {H H':Hp} {s:Shared} {b:Addr} (I:Inv X pins σ H s) (hb:s.heap.objs.size<=b) (hn:H' b=none):jb X pins H' b:=by
 refine ⟨hn,anG (akK I.lt hb),I.zN hb,.inr (a28 I.sz hb),λx c e z=>?_,λp hp z=>?_⟩
 .obtain ⟨v,q⟩:=I.cell x c e
  exact absurd (akK q.lt (by rw [z]; exact hb)) (asH _)
 .exact absurd (akK (a2R (I.pin p hp).1) (by rw [z]; exact hb)) (asH _)
structure Turn (P:Program) (w:World) (K:W.Frag) (tg:Expr) (J:It) (fp:List Addr) (it:Addr) (tn:Nat->Heap->Prop):Prop where
 mem:it∈fp
 obj:∀ i h,tn i h->∀ b∈fp,∃ o,h.get? b=some o/\∀ v,o.data≠.cell v
 keep:∀ i h h',tn i h->(∀ b∈fp,∀ o,h.get? b=some o->h'.get? b=some o)->tn i h'
 item:∀ (X:Cx),X.prog=P->X.w=w->X.K=K->X.calm=true->∀ (i:Nat) (pins:List (Addr×Obj)) (s:Shared) (σ:St) (H:Hp) (E:Value->Shared->Prop),Inv X pins σ H s->(∀ b∈fp,jb X pins H b)->tn i s.heap->J.go i H ->
  wpAny (model P w) X.A (pyNext (.ref it)) (λr s1=>∃ u,r=some u /\
   wpAny (model P w) X.A (letOwnedTupleGo tg (.ref it) u) (λ_ s2=>∃ x H',Inv X pins σ H' s2/\RelV x u/\J.oU i H x H'/\tn (i+1) s2.heap/\∀ b∈fp,H' b=none) E s1) E s
 done:∀ (X:Cx),X.prog=P->X.w=w->X.K=K->X.calm=true->∀ (i:Nat) (pins:List (Addr×Obj)) (s:Shared) (σ:St) (H:Hp) (E:Value->Shared->Prop),Inv X pins σ H s->(∀ b∈fp,jb X pins H b)->tn i s.heap->J.stop i H ->
  wpAny (model P w) X.A (pyNext (.ref it)) (λr s1=>r=none/\Inv X pins σ H s1) E s
 self:∀ (A:Around) (i:Nat) (s:Shared) (Q:Value->Shared->Prop) (E:Value->Shared->Prop),tn i s.heap->Q (.ref it) s->wpAny (model P w) A (pyIter (.ref it)) Q E s
abbrev TI:=St->Hp->(It->Hp->Prop)->Prop
def Lv (X:Cx) (pins:List (Addr×Obj)) (σ:St) (tg:Expr) (R:It->Hp->Prop) (itv:Value) (s2:Shared):Prop :=
 ∃ (it:Addr) (fp:List Addr) (tn:Nat->Heap->Prop) (J:It) (H':Hp),itv=.ref it/\Inv X pins σ H' s2/\Turn X.prog X.w X.K tg J fp it tn/\tn 0 s2.heap/\(∀ b∈fp,jb X pins H' b)/\R J H'
def PI (X:Cx) (tg iter:Expr) (wi:TI):Prop :=
 ∀ (pins:List (Addr×Obj)) (s:Shared) (σ:St) (H:Hp) (R:It->Hp->Prop),Inv X pins σ H s->wi σ H R ->
  wpAny (model X.prog X.w) X.A (eval iter X.env) (λv s1=>wpAny (model X.prog X.w) X.A (pyIter v) (Lv X pins σ tg R) X.xe s1) X.xe s
theorem oA {M:Model} {A:Around} {E:Value->Shared->Prop} {s:Shared} {tg:Expr} {it:Addr} {u:Value} {o:Obj} {n:String} {vs:Array Value} {Q:Unit->Shared->Prop} (ho:s.heap.get? it=some o) (hc:o.cls=.type n) (hd:o.data=.fields vs)
  (hn:["enumerate", "zip", "dict_itemiterator", "dict_reverseitemiterator", "odict_iterator", "itertools.zip_longest", "itertools.pairwise"].contains n=false) (hQ:Q () s):wpAny M A (letOwnedTupleGo tg (.ref it) u) Q E s:=by
 unfold letOwnedTupleGo
 cases tg <;> first
  | exact a5a hQ
  | (cases u <;> first
    | exact a5a hQ
    | (refine apg (wpAny_load ho ?_)
       rw [hc,hd]
       show wpAny M A (if (["enumerate", "zip", "dict_itemiterator", "dict_reverseitemiterator", "odict_iterator", "itertools.zip_longest", "itertools.pairwise"].contains n && vs[0]? == some (rawInt _))=true then _ else _) Q E s
       rw [aM3 (by intro h; rw [hn,Bool.false_and] at h; cases h)]
       exact a5a hQ))
def BV (K:W.Frag) (a:Addr):It :=
 ⟨λi H=>∃ xs x,aB K H a xs/\xs[i]?=some x,λi H x H'=>H'=H/\∀ xs,aB K H a xs->xs[i]?=some x,λi H=>∃ xs,aB K H a xs/\xs.length<=i⟩
def BU (K:W.Frag) (a:Addr):It :=
 ⟨λi H=>∃ xs x,aK K H a xs/\xs[i]?=some x,λi H x H'=>H'=H/\∀ xs,aK K H a xs->xs[i]?=some x,λi H=>∃ xs,aK K H a xs/\xs.length<=i⟩
def rP (lo:Int) (n:Nat):It:=⟨λi _=>i<n,λi H x H'=>H'=H/\x=.int (lo+i),λi _=>n<=i⟩
theorem Z5 {P:Program} {w:World} {K:W.Frag} {tg:Expr} (a it:Addr):Turn P w K tg (BV K a) [it] it (λi h=>h.IsListIter it a i) where
 mem:=by simp
 obj:=λi h st b hb=>by
  have e:b=it:=by simpa using hb
  subst e
  obtain ⟨o,e,c,d⟩:=st
  exact ⟨o,e,λv z=>by rw [d] at z; cases z⟩
 keep:=λi h h' st k=>st.at λo e=>k it (by simp) o e
 item:=by
  intro X hP hw hK hc i pins s σ H E I hf st hg
  subst hP hw hK
  obtain ⟨xs,x,hq,hx⟩:=hg
  obtain ⟨its,rv,p,hz⟩:=I.list hq
  obtain ⟨u,hu,ru⟩:=rv.get hx
  obtain ⟨f0,f1,f2,f3,f4,f5⟩:=hf it (by simp)
  refine wpAny_pyNext_list_item st p.isList (x:=u) (by simpa using hu) λh' st' sb=>?_
  have I1:Inv X pins σ H { s with heap:=h' }:=I.turned (t':=s.toks) (λb o hb e=>(sb.2 b hb).trans e) f0 f1 f3 f4 f5
  obtain ⟨o,e,c,d⟩:=id st'
  exact ⟨u,rfl,oA (s:={ s with heap:=h' }) e c d (by decide) ⟨x,H,I1,ru,⟨rfl,λys hy=>by rw [I.fO hy hq]; exact hx⟩,st',λb hb=>(hf b hb).1⟩⟩
 done:=by
  intro X hP hw hK hc i pins s σ H E I hf st hg
  subst hP hw hK
  obtain ⟨xs,hq,hx⟩:=hg
  obtain ⟨its,rv,p,hz⟩:=I.list hq
  obtain ⟨f0,f1,f2,f3,f4,f5⟩:=hf it (by simp)
  have hl:=rv.length
  exact wpAny_pyNext_list_end (I.ok.hd hc) st p.isList (by simp; lia) λh' eb=>⟨rfl,I.turned (t':=s.toks) (λb o hb e=>eb b o hb e) f0 f1 f3 f4 f5⟩
 self:=λ_ _ _ _ _ st h=>wpAny_pyIter_listiter st h
theorem Z3 {P:Program} {w:World} {K:W.Frag} {tg:Expr} (a it:Addr):Turn P w K tg (BU K a) [it] it (λi h=>h.IsTupleIter it a i) where
 mem:=by simp
 obj:=λi h st b hb=>by
  have e:b=it:=by simpa using hb
  subst e
  obtain ⟨o,e,c,d⟩:=st
  exact ⟨o,e,λv z=>by rw [d] at z; cases z⟩
 keep:=λi h h' st k=>st.at λo e=>k it (by simp) o e
 item:=by
  intro X hP hw hK hc i pins s σ H E I hf st hg
  subst hP hw hK
  obtain ⟨xs,x,hq,hx⟩:=hg
  obtain ⟨its,rv,p,hz⟩:=I.tuple hq
  obtain ⟨u,hu,ru⟩:=rv.get hx
  obtain ⟨f0,f1,f2,f3,f4,f5⟩:=hf it (by simp)
  refine wpAny_pyNext_tuple_item st (show s.heap.IsTuple a its.toArray from p) (x:=u) (by simpa using hu) λh' st' sb=>?_
  have I1:Inv X pins σ H { s with heap:=h' }:=I.turned (t':=s.toks) (λb o hb e=>(sb.2 b hb).trans e) f0 f1 f3 f4 f5
  obtain ⟨o,e,c,d⟩:=id st'
  exact ⟨u,rfl,oA (s:={ s with heap:=h' }) e c d (by decide) ⟨x,H,I1,ru,⟨rfl,λys hy=>by rw [I.gb hy hq]; exact hx⟩,st',λb hb=>(hf b hb).1⟩⟩
 done:=by
  intro X hP hw hK hc i pins s σ H E I hf st hg
  subst hP hw hK
  obtain ⟨xs,hq,hx⟩:=hg
  obtain ⟨its,rv,p,hz⟩:=I.tuple hq
  obtain ⟨f0,f1,f2,f3,f4,f5⟩:=hf it (by simp)
  have hl:=rv.length
  exact wpAny_pyNext_tuple_end (I.ok.hd hc) st (show s.heap.IsTuple a its.toArray from p) (by simp; lia) λh' eb=>⟨rfl,I.turned (t':=s.toks) (λb o hb e=>eb b o hb e) f0 f1 f3 f4 f5⟩
 self:=λ_ _ _ _ _ st h=>wpAny_pyIter_tupleiter st h
theorem Z2 {P:Program} {w:World} {K:W.Frag} {tg:Expr} (it:Addr) (lo:Int) (n:Nat):Turn P w K tg (rP lo n) [it] it (λi h=>IsRangeIter h it (lo+(i:Nat) * 1) ((n:Int) - (i:Nat)) 1) where
 mem:=by simp
 obj:=λi h st b hb=>by
  have e:b=it:=by simpa using hb
  subst e
  exact ⟨_,st,λv z=>by
   have z':Data.fields _=Data.cell v:=z
   cases z'⟩
 keep:=λi h h' st k=>k it (by simp) _ st
 item:=by
  intro X hP hw hK hc i pins s σ H E I hf st hg
  subst hP hw hK
  obtain ⟨f0,f1,f2,f3,f4,f5⟩:=hf it (by simp)
  have W:=Walks.range (prog:=X.prog) (w:=X.w) (I.ok.hd hc) it lo 1 n
  refine W.item i s _ _ hg st λv h' tk hv st' kk=>?_
  obtain ⟨t,rfl⟩:=hv
  have I1:Inv X pins σ H { s with heap:=h',toks:=tk }:=I.turned (λb o hb e=>kk b o (by simpa using hb) e) f0 f1 f3 f4 f5
  refine ⟨_,rfl,oA (s:={ s with heap:=h',toks:=tk }) (n := "range_iterator") st' rfl rfl (by decide) ⟨.int (lo+i),H,I1,⟨t,?_⟩,⟨rfl,rfl⟩,st',λb hb=>(hf b hb).1⟩⟩
  rw [Int.mul_one]
 done:=by
  intro X hP hw hK hc i pins s σ H E I hf st hg
  subst hP hw hK
  obtain ⟨f0,f1,f2,f3,f4,f5⟩:=hf it (by simp)
  exact wpAny_pyNext_range_end (I.ok.hd hc) st (by have:n<=i:=hg; lia) λh' eb=>⟨rfl,I.turned (t':=s.toks) (λb o hb e=>eb b o hb e) f0 f1 f3 f4 f5⟩
 self:=λ_ _ _ _ _ st h=>wpAny_pyIter_rangeiter st h
section
variable {X:Cx} {tg:Expr}
def uh (K:W.Frag) (tl:TE):TI:=λσ H R=>tl σ H λx H1=>∃ a,x=.ref a/\(∃ xs,aB K H1 a xs)/\R (BV K a) H1
def Ae (K:W.Frag) (tl:TE):TI:=λσ H R=>tl σ H λx H1=>∃ a,x=.ref a/\(∃ xs,aK K H1 a xs)/\R (BU K a) H1
theorem Xs {l:Expr} {tl:TE} (hl:PE X l tl):PI X tg l (uh X.K tl):=by
 intro pins s σ H R I h
 refine gc (hl pins s σ H _ I h) λv s1 x H1 I1 r1 q1=>?_
 obtain ⟨a,e,⟨xs,hq⟩,q⟩:=q1
 subst e
 cases r1
 obtain ⟨its,rv,p,hz⟩:=I1.list hq
 refine wpAny_pyIter_list p.isList ?_
 refine ⟨s1.heap.objs.size,[s1.heap.objs.size],_,_,H1,rfl,I1.kept (t':=s1.toks) λb o e=>aXX _ e,Z5 a _,⟨_,aYI _ rfl,rfl,rfl⟩,λb hb=>?_,q⟩
 have e:b=s1.heap.objs.size:=by simpa using hb
 subst e
 exact I1.lV (aEt _) (I1.hok.fresh (aEt _))
theorem WV {l:Expr} {tl:TE} (hl:PE X l tl):PI X tg l (Ae X.K tl):=by
 intro pins s σ H R I h
 refine gc (hl pins s σ H _ I h) λv s1 x H1 I1 r1 q1=>?_
 obtain ⟨a,e,⟨xs,hq⟩,q⟩:=q1
 subst e
 cases r1
 obtain ⟨its,rv,p,hz⟩:=I1.tuple hq
 refine wpAny_pyIter_tuple (show s1.heap.IsTuple a its.toArray from p) ?_
 refine ⟨s1.heap.objs.size,[s1.heap.objs.size],_,_,H1,rfl,I1.kept (t':=s1.toks) λb o e=>aXX _ e,Z3 a _,⟨_,aYI _ rfl,rfl,rfl⟩,λb hb=>?_,q⟩
 have e:b=s1.heap.objs.size:=by simpa using hb
 subst e
 exact I1.lV (aEt _) (I1.hok.fresh (aEt _))
theorem Pj {pins:List (Addr×Obj)} {σ:St} {H:Hp} {s:Shared} {R:It->Hp->Prop} {E:Value->Shared->Prop} {lo hi:Int} {t u v:Tok} {tk:Nat} (I:Inv X pins σ H s) (h1 : -(2 ^ 62)<=lo) (h2:lo<2 ^ 62) (h3 : -(2 ^ 62)<=hi) (h4:hi<2 ^ 62)
  (q:R (rP lo (hi - lo).toNat) H):wpAny (model X.prog X.w) X.A (pyIter (.ref s.heap.objs.size)) (Lv X pins σ tg R) E { s with heap:=s.heap.push { cls:=.type "range",data:=.fields #[.int lo t,.int hi u,.int 1 v] },toks:=tk }:=by
 refine wpAny_pyIter_range (IsRange.new ..) (small_one h1 h2 h3 h4) ?_
 have I1:Inv X pins σ H { s with heap:=s.heap.push { cls:=.type "range",data:=.fields #[.int lo t,.int hi u,.int 1 v] },toks:=tk }:=I.kept λb o e=>aXX _ e
 refine ⟨(s.heap.push { cls:=.type "range",data:=.fields #[.int lo t,.int hi u,.int 1 v] }).objs.size,[(s.heap.push { cls:=.type "range",data:=.fields #[.int lo t,.int hi u,.int 1 v] }).objs.size],_,_,H,rfl,
  I1.kept (t':=tk) λb o e=>aXX _ e,Z2 _ lo (hi - lo).toNat,?_,λb hb=>?_,q⟩
 .have e1:lo+((0:Nat):Int) * 1=lo:=by simp
  have e2:(((hi - lo).toNat:Nat):Int) - ((0:Nat):Int)=Builtin.Range.rangeSize lo hi 1:=by rw [rangeSize_one]; split <;> lia
  show IsRangeIter _ _ (lo+((0:Nat):Int) * 1) ((((hi - lo).toNat:Nat):Int) - ((0:Nat):Int)) 1
  rw [e1,e2]
  exact aYI _ rfl
 .have e:b=(s.heap.push { cls:=.type "range",data:=.fields #[.int lo t,.int hi u,.int 1 v] }).objs.size:=by simpa using hb
  subst e
  exact I1.lV (aEt _) (I1.hok.fresh (aEt _))
def Ah (ta:TA):TI:=λσ H R=>ta σ H λvs H1=>∃ j:Int,vs=[.int j] /\ -(2 ^ 62)<=j/\j<2 ^ 62/\R (rP 0 j.toNat) H1
def Ag (ta:TA):TI:=λσ H R=>ta σ H λvs H1=>∃ i j:Int,vs=[.int i,.int j]/\(-(2 ^ 62)<=i/\i<2 ^ 62 /\ -(2 ^ 62)<=j/\j<2 ^ 62)/\R (rP i (j - i).toNat) H1
theorem tE {a:Expr} {ta:TA} {p pos:Pos} (hg:Gl X "range") (hm:X.mg "range" = none) (ha:PA X [a] ta) (hs:starEach [a] X.env=[(false,eval a X.env)]:=by rfl):PI X tg (.Call (.Name "range" p) [a] [] pos) (Ah ta):=by
 intro pins s σ H R I h
 refine Call_ (pQ I hg hm boot_range (aC1 (mR (ha pos pins s σ H _ I h) λus s1 vs H1 I1 r1 q1=>?_) hs rfl))
 obtain ⟨j,e,q1,q2,q⟩:=q1
 subst e
 cases r1 with
 | cons r rr =>
  cases rr
  obtain ⟨t,rfl⟩:=r
  exact call_range_1 (Pj I1 (by lia) (by lia) q1 q2 (by simpa using q))
theorem JT {a b:Expr} {ta:TA} {p pos:Pos} (hg:Gl X "range") (hm:X.mg "range" = none) (ha:PA X [a,b] ta) (hs:starEach [a,b] X.env=[(false,eval a X.env),(false,eval b X.env)]:=by rfl) (hs2:starEach [b] X.env=[(false,eval b X.env)]:=by rfl) :
  PI X tg (.Call (.Name "range" p) [a,b] [] pos) (Ag ta):=by
 intro pins s σ H R I h
 refine Call_ (pQ I hg hm boot_range (aC1 (mR (ha pos pins s σ H _ I h) λus s1 vs H1 I1 r1 q1=>?_) (by rw [hs,hs2]) (by rw [hs2]; rfl)))
 obtain ⟨i,j,e,⟨q1,q2,q3,q4⟩,q⟩:=q1
 subst e
 cases r1 with
 | cons r rr =>
  cases rr with
  | cons r' rr =>
   cases rr
   obtain ⟨t,rfl⟩:=r
   obtain ⟨t',rfl⟩:=r'
   exact call_range_2 (Pj I1 q1 q2 q3 q4 q)
def Fj (wi:TI) (g:TG) (tb:TS):TS:=λD σ H=>wi σ H λJ H1=>∃ W:Nat->Nat->St->Hp->Prop,(∃ m,W 0 m σ H1)/\∀ i m σ H,W i m σ H ->
 (J.stop i H/\D.nx σ H)\/(J.go i H/\∃ N:St->Hp->Prop,(∀ σ' H',N σ' H'->∃ m',m'<m/\W (i+1) m' σ' H')/\∀ x H',J.oU i H x H'->g x σ H' λσ2 H2=>tb { D with nx:=N,ct:=N,bk:=D.nx } σ2 H2)
def A2 (fp:List Addr) (h:Heap):List (Addr×Obj):=fp.filterMap λb=>(h.get? b).map λo=>(b,o)
theorem Em {fp:List Addr} {h:Heap} {b:Addr} {o:Obj} (hb:b∈fp) (e:h.get? b=some o):(b,o)∈A2 fp h:=List.mem_filterMap.mpr ⟨b,hb,by rw [e]; rfl⟩
theorem YS {fp:List Addr} {h:Heap} {p:Addr×Obj} (hp:p∈A2 fp h):p.1∈fp/\h.get? p.1=some p.2:=by
 obtain ⟨b,hb,e⟩:=List.mem_filterMap.mp hp
 cases q:h.get? b with
 | none=>rw [q] at e; cases e
 | some o =>
  rw [q] at e
  have e':(b,o)=p:=avM e
  subst e'
  exact ⟨hb,q⟩
theorem Inv.pinned {pins:List (Addr×Obj)} {σ:St} {H:Hp} {s:Shared} {fp:List Addr} (I:Inv X pins σ H s) (hf:∀ b∈fp,jb X pins H b) (ho:∀ b∈fp,∃ o,s.heap.get? b=some o/\∀ v,o.data≠.cell v):Inv X (pins++A2 fp s.heap) σ H s :=
 I.oh λp hp=>(a1m.mp hp).elim (λz=>I.pin p (a9C _ z)) λz=>by
  obtain ⟨hb,e⟩:=YS z
  obtain ⟨f0,f1,f2,_⟩:=hf p.1 hb
  obtain ⟨o,e',d⟩:=ho p.1 hb
  rw [e] at e'; cases e'
  exact ⟨e,f0,f1,f2,d⟩
theorem Inv.gW {pins pl:List (Addr×Obj)} {σ:St} {H:Hp} {s:Shared} (I:Inv X (pins++pl) σ H s):Inv X pins σ H s:=I.oh λp hp=>I.pin p (a9C _ (aKJ _ hp))
theorem rJ {iter:Expr} {body:List Stmt} {wi:TI} {g:TG} {tb:TS} {pos:Pos} (hp:PassesOwn (model X.prog X.w) X.A X.env X.xe) (hc:X.calm=true) (hi:PI X tg iter wi) (hg:PG X tg g) (hb:pB X body tb)
  (hs:∀ x,foldedSetIterable iter X.env x=pure x:=by intro _; rfl):PS X (.For tg iter body [] pos) (Fj wi g tb):=by
 intro pins s σ H D I h
 refine wpAny_For (bY (hi pins s σ H _ I h) λv s1 h1=>bY h1 λitv s2 h2=>?_) hs
 obtain ⟨it,fp,tn,J,H2,e,I2,T,st2,f2,W,⟨m0,w0⟩,turn⟩:=h2
 subst e
 have mS:∀ {H':Hp},(∀ b∈fp,H' b=none)->∀ b∈fp,jb X pins H' b:=λhn b hb=>⟨hn b hb,(f2 b hb).2⟩
 refine codeAny_forLoop_any (λn s'=>∃ i σ' H',Inv X pins σ' H' s'/\tn i s'.heap/\(∀ b∈fp,H' b=none)/\W i n σ' H') ?_ m0 ⟨0,σ,H2,I2,st2,λb hb=>(f2 b hb).1,w0⟩
 rintro n s3 ⟨i,σ3,H3,I3,st3,xZ,w3⟩
 rcases turn i n σ3 H3 w3 with ⟨stop,qn⟩ | ⟨go,N,hN,step⟩
 .refine a9f hp (bY (T.done X rfl rfl rfl hc i pins s3 σ3 H3 X.xe I3 (mS xZ) st3 stop) λr s4 ⟨hr,I4⟩=>?_)
  subst hr
  exact wpAny_execs_nil ⟨σ3,H3,I4,qn⟩
 .refine a9f hp (bY (T.item X rfl rfl rfl hc i pins s3 σ3 H3 X.xe I3 (mS xZ) st3 go) λr s4 ⟨u,hr,h4⟩=>?_)
  subst hr
  refine a9f hp (bY h4 λ_ s5 ⟨x,H5,I5,r5,y5,rT,C6⟩=>?_)
  have I5':=I5.pinned (mS C6) (T.obj _ _ rT)
  refine a9f hp (bY (hg _ s5 σ3 H5 x u _ I5' r5 (step x H5 y5)) λ_ s6 ⟨σ6,H6,I6,q6⟩=>?_)
  refine a9f hp (bY (hb _ s6 σ6 H6 _ I6 q6) λf s7 q7=>?_)
  have again:∀ {σ7:St} {H7:Hp},Inv X (pins++A2 fp s5.heap) σ7 H7 s7->N σ7 H7->∃ m,m<n/\∃ i σ' H',Inv X pins σ' H' s7/\tn i s7.heap/\(∀ b∈fp,H' b=none)/\W i m σ' H':=λ{σ7 H7} I7 n7=>by
   obtain ⟨m',hm,w7⟩:=hN σ7 H7 n7
   refine ⟨m',hm,i+1,σ7,H7,I7.gW,T.keep _ _ _ rT λb hb o e=>(I7.pin (b,o) (a9C _ (a9C _ (Em hb e)))).1,λb hb=>?_,w7⟩
   obtain ⟨o,e,d⟩:=T.obj _ _ rT b hb
   exact (I7.pin (b,o) (a9C _ (a9C _ (Em hb e)))).2.1
  cases f with
  | next=>obtain ⟨σ7,H7,I7,n7⟩:=q7; exact again I7 n7
  | cont=>obtain ⟨σ7,H7,I7,n7⟩:=q7; exact again I7 n7
  | brk=>obtain ⟨σ7,H7,I7,q7⟩:=q7; exact ⟨σ7,H7,I7.gW,q7⟩
  | ret v=>obtain ⟨x7,σ7,H7,I7,r7,q7⟩:=q7; exact ⟨x7,σ7,H7,I7.gW,r7,q7⟩
end
theorem Bt {lo:Int} {n:Nat} {g:TG} {tb:TS} {D:Ends} {σ:St} {H:Hp} (Pv:Nat->St->Hp->Prop) (h0:Pv 0 σ H)
  (hs:∀ i σ H,i<n->Pv i σ H->g (.int (lo+i)) σ H λσ2 H2=>tb { D with nx:=Pv (i+1),ct:=Pv (i+1),bk:=D.nx } σ2 H2) (hd:∀ σ H,Pv n σ H->D.nx σ H) :
  ∃ W:Nat->Nat->St->Hp->Prop,(∃ m,W 0 m σ H)/\∀ i m σ H,W i m σ H ->
   ((rP lo n).stop i H/\D.nx σ H)\/((rP lo n).go i H/\∃ N:St->Hp->Prop,(∀ σ' H',N σ' H'->∃ m',m'<m/\W (i+1) m' σ' H')/\∀ x H',(rP lo n).oU i H x H'->g x σ H' λσ2 H2=>tb { D with nx:=N,ct:=N,bk:=D.nx } σ2 H2):=by
 refine ⟨λi m σ H=>m=n - i/\i<=n/\Pv i σ H,⟨n,by simp,aUM _,h0⟩,?_⟩
 rintro i m σ H ⟨rfl,hi,p⟩
 by_cases hlt:i<n
 .refine .inr ⟨hlt,Pv (i+1),λσ' H' p'=>⟨n - (i+1),by lia,rfl,hlt,p'⟩,λx H' y=>?_⟩
  obtain ⟨e,y⟩:=y
  subst e y
  exact hs i σ _ hlt p
 .have e:i=n:=by lia
  subst e
  exact .inl ⟨aEt _,hd σ H p⟩
abbrev R2:=V->V->Hp->VK->Prop
def gV (X:Cx) (f:Value->Value->Sem Value) (r:R2):Prop :=
 ∀ (pins:List (Addr×Obj)) (s:Shared) (σ:St) (H:Hp) (x y:V) (v u:Value) (Q:VK),Inv X pins σ H s->RelV x v->RelV y u->r x y H Q ->
  wpAny (model X.prog X.w) X.A (f v u) (EP X pins σ Q) X.xe s
def Ls (X:Cx) (f:Value->Sem Value) (r:V->Hp->VK->Prop):Prop :=
 ∀ (pins:List (Addr×Obj)) (s:Shared) (σ:St) (H:Hp) (x:V) (v:Value) (Q:VK),Inv X pins σ H s->RelV x v->r x H Q ->
  wpAny (model X.prog X.w) X.A (f v) (EP X pins σ Q) X.xe s
def bH (X:Cx) (f:Value) (r:List V->Hp->VK->Prop):Prop :=
 ∀ (pins:List (Addr×Obj)) (s:Shared) (σ:St) (H:Hp) (xs:List V) (us:List Value) (Q:VK),Inv X pins σ H s->Vals xs us->r xs H Q ->
  wpAny (model X.prog X.w) X.A (call f us) (EP X pins σ Q) X.xe s
def Cs (r:R2) (ta tb:TE):TE:=λσ H Q=>ta σ H λx H1=>tb σ H1 λy H2=>r x y H2 Q
def Ss (r:V->Hp->VK->Prop) (ta:TE):TE:=λσ H Q=>ta σ H λx H1=>r x H1 Q
def rI (C:Int->Int->Prop) (g:Int->Int->V):R2:=λx y H Q=>∃ i j,x=.int i/\y=.int j/\C i j/\Q (g i j) H
def t9 (g:Int->Int->V):R2:=λx y H Q=>∃ i j,x=.int i/\y=.int j/\Q (g i j) H
def rU (g:Int->V):V->Hp->VK->Prop:=λx H Q=>∃ i,x=.int i/\Q (g i) H
section
variable {X:Cx} {a b c:Expr} {ta tb tc:TE} {pos:Pos}
theorem wj (ha:PE X a ta) (hb:PE X b tb) {pins:List (Addr×Obj)} {s:Shared} {σ:St} {H:Hp} {R:V->V->Hp->Prop} (I:Inv X pins σ H s)
  (h:ta σ H λx H1=>tb σ H1 λy H2=>R x y H2) {Q:Value->Shared->Prop} {f:Value->Value->Sem Value}
  (hf:∀ v u s2 x y H2,Inv X pins σ H2 s2->RelV x v->RelV y u->R x y H2->wpAny (model X.prog X.w) X.A (f v u) Q X.xe s2) :
  wpAny (model X.prog X.w) X.A (eval a X.env) (λv s₁=>wpAny (model X.prog X.w) X.A (eval b X.env) (λu s₂=>wpAny (model X.prog X.w) X.A (f v u) Q X.xe s₂) X.xe s₁) X.xe s:=by
 refine gc (ha pins s σ H _ I h) λv s1 x H1 I1 r1 q1=>?_
 refine gc (hb pins s1 σ H1 _ I1 q1) λu s2 y H2 I2 r2 q2=>?_
 exact hf v u s2 x y H2 I2 r1 r2 q2
theorem ak {op:Operator} {r:R2} (ho:gV X (binaryOp op) r) (ha:PE X a ta) (hb:PE X b tb):PE X (.BinOp a op b pos) (Cs r ta tb):=by
 intro pins s σ H Q I h
 exact wpAny_BinOp (wj ha hb I h λv u s2 x y H2 I2 rx ry q=>ho pins s2 σ H2 x y v u Q I2 rx ry q)
theorem jW {op:UnaryOp} {r:V->Hp->VK->Prop} (ho:Ls X (unaryOp op) r) (ha:PE X a ta):PE X (.UnaryOp op a pos) (Ss r ta):=by
 intro pins s σ H Q I h
 exact UnaryOp_ (gc (ha pins s σ H _ I h) λv s1 x H1 I1 r1 q1=>ho pins s1 σ H1 x v Q I1 r1 q1)
theorem CB {f:Value->Value->Sem Value} {C:Int->Int->Prop} {g:Int->Int->Int}
  (rule:∀ (i j:Int) (t u:Tok) (s:Shared) (Q:Value->Shared->Prop) (E:Value->Shared->Prop),C i j->Q (.int (g i j) s.toks) { s with toks:=s.toks+1 }->wpAny (model X.prog X.w) X.A (f (.int i t) (.int j u)) Q E s) :
  gV X f (rI C λi j=>.int (g i j)):=by
 intro pins s σ H x y v u Q I rx ry h
 obtain ⟨i,j,rfl,rfl,hc,q⟩:=h
 obtain ⟨t,rfl⟩:=rx
 obtain ⟨t',rfl⟩:=ry
 exact rule i j t t' s _ _ hc ⟨.int (g i j),H,I.tok _,⟨_,rfl⟩,q⟩
theorem zJ {f:Value->Value->Sem Value} {g:Int->Int->Int}
  (rule:∀ (i j:Int) (t u:Tok) (s:Shared) (Q:Value->Shared->Prop) (E:Value->Shared->Prop),Q (.int (g i j) s.toks) { s with toks:=s.toks+1 }->wpAny (model X.prog X.w) X.A (f (.int i t) (.int j u)) Q E s) :
  gV X f (t9 λi j=>.int (g i j)):=by
 intro pins s σ H x y v u Q I rx ry h
 obtain ⟨i,j,rfl,rfl,q⟩:=h
 obtain ⟨t,rfl⟩:=rx
 obtain ⟨t',rfl⟩:=ry
 exact rule i j t t' s _ _ ⟨.int (g i j),H,I.tok _,⟨_,rfl⟩,q⟩
theorem sy {f:Value->Value->Sem Value} {g:Int->Int->Bool}
  (rule:∀ (i j:Int) (t u:Tok) (s:Shared) (Q:Value->Shared->Prop) (E:Value->Shared->Prop),Q (.bool (g i j)) s->wpAny (model X.prog X.w) X.A (f (.int i t) (.int j u)) Q E s) :
  gV X f (t9 λi j=>.bl (g i j)):=by
 intro pins s σ H x y v u Q I rx ry h
 obtain ⟨i,j,rfl,rfl,q⟩:=h
 obtain ⟨t,rfl⟩:=rx
 obtain ⟨t',rfl⟩:=ry
 exact rule i j t t' s _ _ ⟨.bl (g i j),H,I,rfl,q⟩
def Cb (i j:Int):Prop:=0<j/\j<1073741824
def LA (i j:Int):Prop:=0<=j/\j<=1000000/\i.natAbs<2 ^ 64
def wQ (i j:Int):Prop:=(-(2 ^ 64)<i/\i<2 ^ 64)\/(-(2 ^ 64)<j/\j<2 ^ 64)
theorem wQ.ok {i j:Int} (h:wQ i j):IntMulOk i j:=by
 rcases h with ⟨h1,h2⟩ | ⟨h1,h2⟩
 .exact .of_left (intBits_le_64 h1 h2)
 .exact .of_right (intBits_le_64 h1 h2)
theorem ZJ:gV X (binaryOp .Add) (t9 λi j=>.int (i+j)):=zJ λ_ _ _ _ _ _ _ q=>add_int q
theorem sR:gV X (binaryOp .Sub) (t9 λi j=>.int (i - j)):=zJ λ_ _ _ _ _ _ _ q=>sub_int q
theorem o9:gV X (binaryOp .Mult) (rI wQ λi j=>.int (i * j)):=CB λ_ _ _ _ _ _ _ hc q=>mul_int q hc.ok
theorem uQ:gV X (binaryOp .FloorDiv) (rI Cb λi j=>.int (i / j)):=CB λi j _ _ _ _ _ hc q=>by
 have h1:(0:Int)<j:=hc.1
 have h2:j<1073741824:=hc.2
 exact floordiv_int (by lia) (by rw [Int.fdiv_eq_ediv_of_nonneg i (by lia)]; exact q) (.inl (aCP (by lia)))
theorem o8:gV X (binaryOp .Mod) (rI (λ_ j=>0<j) λi j=>.int (i % j)):=CB λi j _ _ _ _ _ hc q=>by
 have h1:(0:Int)<j:=hc
 exact mod_int' (by lia) (by rw [Int.fmod_eq_emod_of_nonneg i (by lia)]; exact q)
theorem Ie:gV X (binaryOp .Pow) (rI LA λi j=>.int (i ^ j.toNat)):=CB λ_ _ _ _ _ _ _ hc q=>pow_int_small hc.1 hc.2.1 hc.2.2 q
theorem Si {f:Value->Sem Value} {g:Int->Int}
  (rule:∀ (i:Int) (t:Tok) (s:Shared) (Q:Value->Shared->Prop) (E:Value->Shared->Prop),Q (.int (g i) s.toks) { s with toks:=s.toks+1 }->wpAny (model X.prog X.w) X.A (f (.int i t)) Q E s) :
  Ls X f (rU λi=>.int (g i)):=by
 intro pins s σ H x v Q I rx h
 obtain ⟨i,rfl,q⟩:=h
 obtain ⟨t,rfl⟩:=rx
 exact rule i t s _ _ ⟨.int (g i),H,I.tok _,⟨_,rfl⟩,q⟩
theorem yi:Ls X (unaryOp .USub) (rU λi=>.int (-i)):=Si λ_ _ _ _ _ q=>neg_int q
end
def zd:V->V->Bool
 | .aT,.aT=>true | .aT,.int _=>true | .int _,.aT=>true | .aT,.bl _=>true | .bl _,.aT=>true | .aT,.str _=>true | .str _,.aT=>true
 | .int _,.int _=>true | .bl _,.bl _=>true | .str _,.str _=>true | .o7 _,.o7 _=>true
 | .int _,.str _=>true | .str _,.int _=>true | .bl _,.str _=>true | .str _,.bl _=>true
 | _,_=>false
def SM:R2:=λx y H Q=>zd x y=true/\Q (.bl (decide (x=y))) H
def SK:R2:=λx y H Q=>zd x y=true/\Q (.bl (!decide (x=y))) H
theorem Oz {i j:Int}:decide (V.int i=V.int j)=(i == j):=by
 rw [a9z]
 simp
theorem NU {i j:Bool}:decide (V.bl i=V.bl j)=(i == j):=by
 rw [a9z]
 simp
theorem Ox {i j:Str}:decide (V.str i=V.str j)=(i == j):=by
 rw [a9z]
 simp
theorem Ow {i j:Array UInt8}:decide (V.o7 i=V.o7 j)=(i.toList == j.toList):=by
 rw [a9z]
 cases i
 cases j
 simp
section
variable {X:Cx} {a b c:Expr} {ta tb tc:TE} {pos:Pos}
theorem ZF {pins:List (Addr×Obj)} {σ:St} {H:Hp} {s:Shared} {Q:VK} {k k':Bool} (I:Inv X pins σ H s) (q:Q (.bl k) H) (e:k=k'):EP X pins σ Q (.bool k') s:=by
 subst e
 exact ⟨.bl k,H,I,rfl,q⟩
theorem aU:gV X (compareOp .Eq) SM:=by
 intro pins s σ H x y v u Q I rx ry h
 obtain ⟨hs,q⟩:=h
 cases x with
 | aT =>
  cases rx
  cases y with
  | aT=>cases ry; exact PySem.EqNone.eq_none_none (ZF I q (by simp))
  | bl j=>cases ry; exact PySem.EqNone.eq_none_bool (ZF I q (by simp))
  | int j=>obtain ⟨t',rfl⟩:=ry; exact PySem.EqNone.eq_none_int (ZF I q (by simp))
  | str j=>obtain ⟨t',rfl⟩:=ry; exact PySem.EqNone.eq_none_str (ZF I q (by simp))
  | _=>exact absurd (show false=true from hs) aBC
 | bl i =>
  cases rx
  cases y with
  | aT=>cases ry; exact PySem.EqNone.eq_bool_none (ZF I q (by simp))
  | bl j=>cases ry; exact eq_bool (ZF I q NU)
  | str j=>obtain ⟨t',rfl⟩:=ry; exact PySem.EqMixed.eq_bool_str (ZF I q (by simp))
  | _=>exact absurd (show false=true from hs) aBC
 | int i =>
  obtain ⟨t,rfl⟩:=rx
  cases y with
  | aT=>cases ry; exact PySem.EqNone.eq_int_none (ZF I q (by simp))
  | int j=>obtain ⟨t',rfl⟩:=ry; exact eq_int (ZF I q Oz)
  | str j=>obtain ⟨t',rfl⟩:=ry; exact PySem.EqMixed.eq_int_str (ZF I q (by simp))
  | _=>exact absurd (show false=true from hs) aBC
 | str i =>
  obtain ⟨t,rfl⟩:=rx
  cases y with
  | aT=>cases ry; exact PySem.EqNone.eq_str_none (ZF I q (by simp))
  | bl j=>cases ry; exact PySem.EqMixed.eq_str_bool (ZF I q (by simp))
  | int j=>obtain ⟨t',rfl⟩:=ry; exact PySem.EqMixed.eq_str_int (ZF I q (by simp))
  | str j=>obtain ⟨t',rfl⟩:=ry; exact eq_str (ZF I q Ox)
  | _=>exact absurd (show false=true from hs) aBC
 | o7 i =>
  obtain ⟨t,rfl⟩:=rx
  cases y with
  | o7 j=>obtain ⟨t',rfl⟩:=ry; exact W.eq_bytes (ZF I q Ow)
  | _=>exact absurd (show false=true from hs) aBC
 | _=>cases y <;> exact absurd (show false=true from hs) aBC
theorem ue:gV X (compareOp .NotEq) SK:=by
 intro pins s σ H x y v u Q I rx ry h
 obtain ⟨hs,q⟩:=h
 cases x with
 | aT =>
  cases rx
  cases y with
  | aT=>cases ry; exact PySem.EqNone.ne_none_none (ZF I q (by simp))
  | bl j=>cases ry; exact PySem.EqNone.ne_none_bool (ZF I q (by simp))
  | int j=>obtain ⟨t',rfl⟩:=ry; exact PySem.EqNone.ne_none_int (ZF I q (by simp))
  | str j=>obtain ⟨t',rfl⟩:=ry; exact PySem.EqNone.ne_none_str (ZF I q (by simp))
  | _=>exact absurd (show false=true from hs) aBC
 | bl i =>
  cases rx
  cases y with
  | aT=>cases ry; exact PySem.EqNone.ne_bool_none (ZF I q (by simp))
  | bl j=>cases ry; exact ne_bool (ZF I q (aok not NU))
  | str j=>obtain ⟨t',rfl⟩:=ry; exact PySem.EqMixed.ne_bool_str (ZF I q (by simp))
  | _=>exact absurd (show false=true from hs) aBC
 | int i =>
  obtain ⟨t,rfl⟩:=rx
  cases y with
  | aT=>cases ry; exact PySem.EqNone.ne_int_none (ZF I q (by simp))
  | int j=>obtain ⟨t',rfl⟩:=ry; exact ne_int (ZF I q (aok not Oz))
  | str j=>obtain ⟨t',rfl⟩:=ry; exact PySem.EqMixed.ne_int_str (ZF I q (by simp))
  | _=>exact absurd (show false=true from hs) aBC
 | str i =>
  obtain ⟨t,rfl⟩:=rx
  cases y with
  | aT=>cases ry; exact PySem.EqNone.ne_str_none (ZF I q (by simp))
  | bl j=>cases ry; exact PySem.EqMixed.ne_str_bool (ZF I q (by simp))
  | int j=>obtain ⟨t',rfl⟩:=ry; exact PySem.EqMixed.ne_str_int (ZF I q (by simp))
  | str j=>obtain ⟨t',rfl⟩:=ry; exact ne_str (ZF I q (aok not Ox))
  | _=>exact absurd (show false=true from hs) aBC
 | o7 i =>
  obtain ⟨t,rfl⟩:=rx
  cases y with
  | o7 j=>obtain ⟨t',rfl⟩:=ry; exact W.ne_bytes (ZF I q (aok not Ow))
  | _=>exact absurd (show false=true from hs) aBC
 | _=>cases y <;> exact absurd (show false=true from hs) aBC
theorem jY:gV X (compareOp .Lt) (t9 λi j=>.bl (decide (i<j))):=sy λ_ _ _ _ _ _ _ q=>lt_int q
theorem zF:gV X (compareOp .LtE) (t9 λi j=>.bl (decide (i<=j))):=sy λ_ _ _ _ _ _ _ q=>le_int q
theorem zG:gV X (compareOp .Gt) (t9 λi j=>.bl (decide (j<i))):=sy λ_ _ _ _ _ _ _ q=>gt_int q
theorem zH:gV X (compareOp .GtE) (t9 λi j=>.bl (decide (j<=i))):=sy λ_ _ _ _ _ _ _ q=>ge_int q
theorem Zz (b:Expr) {op:CmpOp} (h:op≠.In:=by decide) (h2:op≠.NotIn:=by decide):behindInMarks op b=false:=by
 have e1:(op == CmpOp.In)=false:=by cases op <;> first | rfl | exact absurd rfl h
 have e2:(op == CmpOp.NotIn)=false:=by cases op <;> first | rfl | exact absurd rfl h2
 cases b <;> simp [behindInMarks,e1,e2]
theorem oK {op:CmpOp} {r:R2} (ho:gV X (compareOp op) r) (ha:PE X a ta) (hb:PE X b tb) (hm:behindInMarks op b=false):PE X (.Compare a [op] [b] pos) (Cs r ta tb):=by
 intro pins s σ H Q I h
 exact wpAny_Compare1 (wj ha hb I h λv u s2 x y H2 I2 rx ry q=>ho pins s2 σ H2 x y v u Q I2 rx ry q) hm
def tS (t:TE):TT:=λσ H Q=>t σ H λx H'=>∃ k,x=.bl k/\Q k H'
theorem Zy {op:CmpOp} {r:R2} (ho:gV X (compareOp op) r) (ha:PE X a ta) (hb:PE X b tb) (hm:behindInMarks op b=false):PT X (.Compare a [op] [b] pos) (tS (Cs r ta tb)):=by
 intro pins s σ H Q I h
 refine wpAny_isTrue_Compare1 (gc (ha pins s σ H _ I h) λv s1 x H1 I1 r1 q1=>gc (hb pins s1 σ H1 _ I1 q1) λu s2 y H2 I2 r2 q2 =>
  bY (ho pins s2 σ H2 x y v u _ I2 r1 r2 q2) λc s3 ⟨z,H3,I3,r3,k,e,q3⟩=>?_) hm
 subst e
 cases r3
 exact aSH ⟨H3,I3,q3⟩
def WU (r r':R2) (ta tb tc:TE):TE:=λσ H Q=>ta σ H λx H1=>tb σ H1 λy H2=>r x y H2 λz H3=>∃ k,z=.bl k /\
 (if k=true then tc σ H3 λw' H4=>r' y w' H4 Q else Q (.bl false) H3)
theorem X0 {op op':CmpOp} {r r':R2} (ho:gV X (compareOp op) r) (ho':gV X (compareOp op') r') (ha:PE X a ta) (hb:PE X b tb) (hc:PE X c tc)
  (hm:lastMarks [op,op'] [b,c]=false:=by with_unfolding_all rfl):PT X (.Compare a [op,op'] [b,c] pos) (tS (WU r r' ta tb tc)):=by
 intro pins s σ H Q I h
 refine isTrue_chain (gc (ha pins s σ H _ I h) λv s1 x H1 I1 r1 q1=>test_link (gc (hb pins s1 σ H1 _ I1 q1) λu s2 y H2 I2 r2 q2 =>
  bY (ho pins s2 σ H2 x y v u _ I2 r1 r2 q2) λd s3 ⟨z,H3,I3,r3,k,e,q3⟩=>?_)) hm
 subst e
 cases r3
 refine aSH ?_
 cases k with
 | false =>
  obtain ⟨k',e',q'⟩:=q3
  cases e'
  exact ite_ff ⟨H3,I3,q'⟩
 | true =>
  refine ite_tt (test_last (gc (hc pins s3 σ H3 _ I3 q3) λw' s4 z' H4 I4 r4 q4=>bY (ho' pins s4 σ H4 y z' u w' _ I4 r2 r4 q4) λd' s5 ⟨z2,H5,I5,r5,k2,e2,q5⟩=>?_))
  subst e2
  cases r5
  exact aSH ⟨H5,I5,q5⟩
theorem Dl:(sizeLine:Nat)<2 ^ 63:=by rw [aLq]; decide
theorem vals1 {x:V} {us:List Value} (r:Vals [x] us):∃ u,us=[u]/\RelV x u:=by
 cases r with
 | cons r1 r2=>cases r2; exact ⟨_,rfl,r1⟩
theorem vals2 {x y:V} {us:List Value} (r:Vals [x,y] us):∃ u w',us=[u,w']/\RelV x u/\RelV y w':=by
 cases r with
 | cons r1 r2 =>
  cases r2 with
  | cons r3 r4=>cases r4; exact ⟨_,_,rfl,r1,r3⟩
theorem Ph:bH X (.builtin "abs") (λxs H Q=>∃ i,xs=[.int i]/\Q (.int (if i<0 then -i else i)) H):=by
 intro pins s σ H xs us Q I r h
 obtain ⟨i,rfl,q⟩:=h
 obtain ⟨u,rfl,t,rfl⟩:=vals1 r
 exact call_abs_int λu tk=>⟨.int (if i<0 then -i else i),H,I.tok _,⟨_,rfl⟩,q⟩
theorem Qa (hc:X.calm=true):bH X (.builtin "max") (λxs H Q=>∃ i j,xs=[.int i,.int j]/\Q (.int (if j > i then j else i)) H):=by
 intro pins s σ H xs us Q I r h
 obtain ⟨i,j,rfl,q⟩:=h
 obtain ⟨u,w',rfl,⟨t,rfl⟩,⟨t',rfl⟩⟩:=vals2 r
 refine max_two_ints (I.ok.hd hc) λh' tk k=>⟨_,H,I.kept k,?_,q⟩
 by_cases hj:j > i
 .rw [abw hj,abw hj]; exact ⟨_,rfl⟩
 .rw [aM3 hj,aM3 hj]; exact ⟨_,rfl⟩
theorem YR (hc:X.calm=true):bH X (.builtin "min") (λxs H Q=>∃ i j,xs=[.int i,.int j]/\Q (.int (if j<i then j else i)) H):=by
 intro pins s σ H xs us Q I r h
 obtain ⟨i,j,rfl,q⟩:=h
 obtain ⟨u,w',rfl,⟨t,rfl⟩,⟨t',rfl⟩⟩:=vals2 r
 refine min_two_ints (I.ok.hd hc) λh' tk k=>⟨_,H,I.kept k,?_,q⟩
 by_cases hj:j<i
 .rw [abw hj,abw hj]; exact ⟨_,rfl⟩
 .rw [aM3 hj,aM3 hj]; exact ⟨_,rfl⟩
theorem JS:bH X (.type "int") (λxs H Q=>(∃ i,xs=[.int i]/\Q (.int i) H)\/∃ k,xs=[.bl k]/\Q (.int (if k then 1 else 0)) H):=by
 intro pins s σ H xs us Q I r h
 rcases h with ⟨i,rfl,q⟩ | ⟨k,rfl,q⟩
 .obtain ⟨u,rfl,t,rfl⟩:=vals1 r
  exact call_int_int ⟨.int i,H,I,⟨_,rfl⟩,q⟩
 .obtain ⟨u,rfl,r1⟩:=vals1 r
  cases r1
  exact call_int_bool ⟨.int (if k then 1 else 0),H,I.tok _,⟨_,rfl⟩,q⟩
theorem Zih:bH X (.builtin "divmod") (λxs H Q=>∃ i j,xs=[.int i,.int j]/\Cb i j/\∀ p,H p=none->Q (.ref p) (upd H p (.tup [.int (i / j),.int (i % j)]))):=by
 intro pins s σ H xs us Q I r h
 obtain ⟨i,j,rfl,⟨h1,h2⟩,q⟩:=h
 obtain ⟨u,w',rfl,⟨t,rfl⟩,⟨t',rfl⟩⟩:=vals2 r
 refine divmod_int (by lia) ?_ (.inl (aCP (by lia)))
 rw [Int.fdiv_eq_ediv_of_nonneg i (by lia),Int.fmod_eq_emod_of_nonneg i (by lia)]
 have hn:H s.heap.objs.size=none:=I.hok.fresh (aEt _)
 refine ⟨.ref s.heap.objs.size,_,?_,rfl,q _ hn⟩
 refine I.laid (λb o e=>aXX _ e) (aEt _) ⟨by simp only [arz,List.length_nil]; rw [aLq]; decide,[.int (i / j) s.toks,.int (i % j) (s.toks+1)],.cons ⟨_,rfl⟩ (.cons ⟨_,rfl⟩ .nil),?_⟩
 exact ⟨_,aYI s.heap rfl,rfl,0,rfl⟩
end
structure nA (h:Heap) (x dx C:Addr) (mA:Str->Option Value):Prop where
 obj:h.get? x=some (W.instObj C dx)
 ns:h.Ns1 dx mA
 ne:dx≠x
theorem YQ {h:Heap} {dx:Addr} {mA:Str->Option Value} (n:h.Ns1 dx mA):∃ od,h.get? dx=some od/\∀ name,W.lookIn name od=some (mA name):=by
 obtain ⟨o,es,ep,ho,hd,hk,_,hm⟩:=n
 refine ⟨o,ho,λname=>?_⟩
 have e:=hm name
 unfold nsFind findBy at e
 rw [← Array.find?_toList] at e
 unfold W.lookIn
 rw [hd]
 dsimp only
 split
 .rename_i y q
  rw [q] at e
  exact aok some e
 .rename_i q
  rw [q] at e
  have a:es.toList.any (·.refKey)=false:=by
   rw [any_eq_false]
   intro y hy
   obtain ⟨z,t,hkey⟩:=hk y (Array.mem_toList_iff.mp hy)
   simp [DictEntry.refKey,hkey]
  have a':¬ es.toList.any (·.refKey)=true:=by rw [a]; exact aBC
  rw [aM3 a']
  exact aok some e
theorem nA.look {h:Heap} {x dx C:Addr} {mA:Str->Option Value} (I:nA h x dx C mA):∃ od,W.InstAt h x (W.instObj C dx) C (some od)/\∀ name,W.lookIn name od=some (mA name) :=
 let ⟨od,ho,hl⟩:=YQ I.ns
 ⟨od,⟨I.obj,rfl,rfl,ho⟩,hl⟩
section
variable {prog:Program} {w:World} {A:Around} {E:Value->Shared->Prop} {s:Shared} {K:W.Frag} {x dx C f:Addr} {mA:Str->Option Value} {name:Str} {v:Value}
theorem Xr {expr:Bool} {Q:Value->Shared->Prop} (X:K.In s.heap) (I:nA s.heap x dx C mA) (hg:W.plainGet K C name=true) (hh:W.hasDictIn K C=true)
  (ha:W.findIn K (.ref C) name=some none) (hv:mA name=some v) (hv':W.handedIn v=true) (h:Q v { s with toks:=s.toks+1 }) :
  wpAny (model prog w) A (getAttr (.ref x) name expr) Q E s:=by
 obtain ⟨od,J,hl⟩:=I.look
 exact W.get_value X J (W.plainGet_of hg).1 (W.findObj_own hh ha rfl (by rw [hl,hv])) hv' h
theorem XZ {pl:Sem Bool} {Q:Value×List Value->Shared->Prop} (X:K.In s.heap) (I:nA s.heap x dx C mA) (hg:W.plainGet K C name=true)
  (hf:W.findIn K (.ref C) name=some (some (.ref f))) (ht:W.isFn K (.ref f)=true) (hv:mA name=none) (h:Q (.ref f,[.ref x]) s) :
  wpAny (model prog w) A (getMethod (.ref x) name pl) Q E s:=by
 obtain ⟨od,J,hl⟩:=I.look
 exact W.method_fn X J (W.plainGet_of hg).1 (W.plainGet_of hg).2 hf (aTL.mp ht) (by show (W.lookIn name od).map (·.isSome)=some false; rw [hl,hv]; rfl) h
theorem Xq {ns:List Str} {Q:Unit->Shared->Prop} (X:K.In s.heap) (I:nA s.heap x dx C mA)
  (hs:W.findIn K (.ref C) "__setattr__" = some (some (.builtin "object.__setattr__"))) (hp:W.plainOver K C=true) (ht:W.takerIn K C name=some none) (hh:W.hasDictIn K C=true)
  (hw:PySem.Within mA ns) (hsz:ns.length<=sizeLine)
  (h:∀ h',nA h' x dx C (λy=>if y=name then some v else mA y)->Heap.SameBut dx s.heap h'->Q () { s with heap:=h',toks:=s.toks+2 }) :
  wpAny (model prog w) A (setAttr (.ref x) name v) Q E s:=by
 obtain ⟨od,J,hl⟩:=I.look
 refine W.set_plain X J hs (W.osa_open (s:={ s with toks:=s.toks+1 }) (r:=none) X J hp ht λb=>?_)
 obtain ⟨cd,hc,hd'⟩:=W.any_some hh
 have hx:s.heap.get? x=some ⟨.ref C,some dx,.plain,#[]⟩:=I.obj
 refine apg (a5a (apg (apg (wpAny_loadPart hx (apg (W.Looks.here (s:={ s with toks:=s.toks+1 }) (W.looks_clsIn X hc) ?_))))))
 rw [hd']
 refine a5a (a:=some dx) (apg (a5a (apg ?_)))
 refine wpAny_nsSet1 (s:={ s with toks:=s.toks+1 }) I.ns λh' hn2 hs2=>?_
 obtain ⟨oD,esD,epD,Uv,UH,UJ⟩:=hn2.count (PySem.Within.cons name v hw)
 refine apg (wpAny_lookBehind Uv (by rw [UH]; exact pastItsLine_dict (a28 UJ (by rw [arz]; lia))) ?_)
 exact a5a (h _ ⟨(hs2.2 _ (a4v I.ne)).trans I.obj,hn2,I.ne⟩ hs2)
theorem XY {R:Result->Shared->Prop} {vs:List Value} {kw:List (Str×Value)} (X:K.In s.heap) (hm:W.makesIn K C=true)
  (hi:W.findIn K (.ref C) "__init__" = some (some (.ref f))) (hf:W.typeIn K (.ref f)=some (.type "function"))
  (h:codeAny (model prog w) (A.under (.builtin "type.__call__" ⟨.ref C :: vs,kw⟩)) (.call (.ref f) ⟨.ref (s.heap.objs.size+1) :: vs,kw⟩) (W.InitBack (s.heap.objs.size+1) R)
   { s with heap:=(s.heap.push W.emptyDict).push (W.instObj C s.heap.objs.size) }) :
  codeAny (model prog w) A (.call (.ref C) ⟨vs,kw⟩) R s:=by
 obtain ⟨hh,g,d,t,os⟩:=s
 exact W.make_core (W.makes_of X hm) (W.looks_findIn X hi) (λself=>W.bind_fn X self hf) (.inl rfl) h
end
def ai (f:Str) (v:V):List (Str×V)->List (Str×V)
 | []=>[(f,v)]
 | (g,x) :: r=>if g=f then (g,v) :: r else (g,x) :: ai f v r
theorem Zg (f g:Str) (v:V):∀ fs:List (Str×V),(ai f v fs).lookup g=if g=f then some v else fs.lookup g
 | []=>by
  show List.lookup g [(f,v)]=_
  by_cases h:g=f
  .have hb:(g == f)=true:=aTL.mpr h
   simp only [List.lookup,hb,abw h]
  .have hb:(g == f)=false:=aIZ.mpr h
   simp only [List.lookup,hb,aM3 h]
 | (k,x) :: r=>by
  have ih:=Zg f g v r
  rw [show ai f v ((k,x) :: r)=(if k=f then (k,v) :: r else (k,x) :: ai f v r) from rfl]
  by_cases hk:k=f
  .rw [abw hk]
   by_cases h:g=k
   .have hb:(g == k)=true:=aTL.mpr h
    simp only [List.lookup,hb,abw (h.trans hk)]
   .have hb:(g == k)=false:=aIZ.mpr h
    simp only [List.lookup,hb,aM3 (λe:g=f=>h (e.trans hk.symm))]
  .rw [aM3 hk]
   by_cases h:g=k
   .have hb:(g == k)=true:=aTL.mpr h
    simp only [List.lookup,hb,aM3 (λe:g=f=>hk (h.symm.trans e))]
   .have hb:(g == k)=false:=aIZ.mpr h
    simp only [List.lookup,hb]
    exact ih
theorem JR (f:Str) (v:V):∀ fs:List (Str×V),f∈(ai f v fs).map (·.1)/\∀ g,g∈fs.map (·.1)->g∈(ai f v fs).map (·.1)
 | []=>⟨by simp [ai],λg h=>by simp at h⟩
 | (k,x) :: r=>by
  obtain ⟨i1,i2⟩:=JR f v r
  rw [show ai f v ((k,x) :: r)=(if k=f then (k,v) :: r else (k,x) :: ai f v r) from rfl]
  by_cases hk:k=f
  .rw [abw hk]
   subst hk
   exact ⟨by simp,λg h=>by simpa using h⟩
  .rw [aM3 hk]
   refine ⟨?_,λg h=>?_⟩
   .rw [aDD]
    exact aHO _ i1
   .rw [aDD] at h ⊢
    rcases aHJ.mp h with e | e
    .exact aHJ.mpr (.inl e)
    .exact aHO _ (i2 g e)
theorem QG (f:Str) (v:V):∀ fs:List (Str×V),(ai f v fs).length<=fs.length+1
 | []=>by simp [ai]
 | (k,x) :: r=>by
  have ih:=QG f v r
  rw [show ai f v ((k,x) :: r)=(if k=f then (k,v) :: r else (k,x) :: ai f v r) from rfl]
  by_cases hk:k=f
  .rw [abw hk,arz,arz]; lia
  .rw [aM3 hk,arz,arz]; lia
theorem dQ.some_of {v:V} {o:Option Value} (r:dQ (some v) o):∃ u,o=some u/\RelV v u:=by
 cases o with
 | none=>exact (show False from r).elim
 | some u=>exact ⟨u,rfl,r⟩
theorem dQ.none_of {o:Option Value} (r:dQ none o):o=none:=by
 cases o with
 | none=>rfl
 | some u=>exact (show False from r).elim
theorem YO {v:V} {u:Value} (r:RelV v u):W.handedIn u=true:=by
 cases v with
 | aT=>cases (show u=Value.none from r); rfl
 | bl b=>cases (show u=Value.bool b from r); rfl
 | int i=>obtain ⟨t,e⟩:=(show ∃ t,u=Value.int i t from r); cases e; rfl
 | str x=>obtain ⟨t,e⟩:=(show ∃ t,u=Value.str x t from r); cases e; rfl
 | o7 b=>obtain ⟨t,e⟩:=(show ∃ t,u=Value.bytes b t from r); cases e; rfl
 | sM b=>obtain ⟨t,e⟩:=(show ∃ t,u=Value.float b t from r); cases e; rfl
 | ref a=>cases (show u=Value.ref a from r); rfl
 | ty n=>cases (show u=Value.type n from r); rfl
section
variable {P:Program} {w:World} {H H':Hp} {h h':Heap} {a C dx:Addr} {fs fs':List (Str×V)}
theorem DK (hok:fz P w H h) (e:H a=some (.ins C dx fs)):∃ mA,nA h a dx C mA/\(∀ f,dQ (fs.lookup f) (mA f))/\PySem.Within mA (fs.map (·.1))/\fs.length<=1000/\H dx=some (.own a):=by
 obtain ⟨d,z,ne,ob,mA,n,r,q⟩:=(show aJ P w H h a (.ins C dx fs) from hok a _ e)
 exact ⟨mA,⟨ob,n,ne⟩,r,q,z,d⟩
end
structure mO (K:W.Frag) (C:Addr):Prop where
 pg:W.plainGet K C Str.empty=true
 hd:W.hasDictIn K C=true
 po:W.plainOver K C=true
 sa:W.findIn K (.ref C) "__setattr__" = some (some (.builtin "object.__setattr__"))
theorem mO.get {K:W.Frag} {C:Addr} (c:mO K C) (f:Str):W.plainGet K C f=true:=c.pg
def aQ (K:W.Frag) (C:Addr) (f:Str):Prop:=W.findIn K (.ref C) f=some none
theorem aQ.yI {K:W.Frag} {C:Addr} {f:Str} (n:aQ K C f):W.takerIn K C f=some none:=by
 unfold W.takerIn
 rw [show W.findIn K (.ref C) f=some none from n]
 rfl
structure Meth (K:W.Frag) (C:Addr) (m:Str) (f:Addr):Prop where
 at_:W.findIn K (.ref C) m=some (some (.ref f))
 fn:W.isFn K (.ref f)=true
 kp:W.keepIn K (.ref f)=true
section
variable {X:Cx} {pins:List (Addr×Obj)} {σ:St} {H:Hp} {s:Shared} {a C dx:Addr} {fs:List (Str×V)} {f:Str} {v:V} {A:Around} {E:Value->Shared->Prop}
theorem Z1 {b:Bool} {Q:Value->Shared->Prop} (I:Inv X pins σ H s) (e:H a=some (.ins C dx fs)) (c:mO X.K C) (n:aQ X.K C f) (l:fs.lookup f=some v)
  (h:∀ u s',Inv X pins σ H s'->RelV v u->Q u s'):wpAny (model X.prog X.w) A (getAttr (.ref a) f b) Q E s:=by
 obtain ⟨mA,O,r,_,_,_⟩:=DK I.hok e
 obtain ⟨u,hu,ru⟩:=dQ.some_of (v:=v) (o:=mA f) (by rw [← l]; exact r f)
 exact Xr I.d8 O (c.get f) c.hd n hu (YO ru) (h u _ (I.tok _) ru)
theorem QA {m:Str} {g:Addr} {pl:Sem Bool} {Q:Value×List Value->Shared->Prop} (I:Inv X pins σ H s) (e:H a=some (.ins C dx fs)) (c:mO X.K C) (k:Meth X.K C m g) (l:fs.lookup m=none)
  (h:Q (.ref g,[.ref a]) s):wpAny (model X.prog X.w) A (getMethod (.ref a) m pl) Q E s:=by
 obtain ⟨mA,O,r,_,_,_⟩:=DK I.hok e
 have hn:mA m=none:=dQ.none_of (by rw [← l]; exact r m)
 exact XZ I.d8 O (c.get m) k.at_ k.fn hn h
theorem Z0 {y:V} {u:Value} {Q:Unit->Shared->Prop} (I:Inv X pins σ H s) (e:H a=some (.ins C dx fs)) (c:mO X.K C) (n:aQ X.K C f) (hl:fs.length<1000) (ry:RelV y u)
  (h:∀ s',Inv X pins σ (upd H a (.ins C dx (ai f y fs))) s'->Q () s'):wpAny (model X.prog X.w) A (setAttr (.ref a) f u) Q E s:=by
 obtain ⟨mA,O,r,wi,_,ho⟩:=DK I.hok e
 have hz:(fs.map (·.1)).length<=sizeLine:=by rw [aK1,aLq]; lia
 refine Xq I.d8 O c.sa c.po n.yI c.hd wi hz λh' O' sb=>h _ ?_
 have hd:∃ o,h'.get? dx=some o:=let ⟨o,_,_,e',_⟩:=O'.ns; ⟨o,e'⟩
 refine I.write (x:=a) (e:=dx) (by rw [e]; exact True.intro) (.inr ho) (λb q hb z=>(sb.2 b hb).trans z) hd ?_
 refine ⟨by rw [Zc O.ne]; exact ho,?_,O.ne,O'.obj,_,O'.ns,λg=>?_,λg hg=>?_⟩
 .have:=QG f y fs; lia
 .show dQ ((ai f y fs).lookup g) (if g=f then some u else mA g)
  rw [Zg]
  by_cases q:g=f
  .rw [abw q,abw q]; exact ry
  .rw [aM3 q,aM3 q]; exact r g
 .by_cases q:g=f
  .rw [q]; exact (JR f y fs).1
  .refine (JR f y fs).2 g (wi g λz=>hg ?_)
   show (if g=f then some u else mA g)=none
   rw [aM3 q]; exact z
theorem Inv.made (I:Inv X pins σ H s):Inv X pins σ (upd (upd H s.heap.objs.size (.own (s.heap.objs.size+1))) (s.heap.objs.size+1) (.ins C s.heap.objs.size []))
  { s with heap:=(s.heap.push W.emptyDict).push (W.instObj C s.heap.objs.size) }:=by
 have e1:(s.heap.push W.emptyDict).get? s.heap.objs.size=some W.emptyDict:=aYI s.heap rfl
 have e2:((s.heap.push W.emptyDict).push (W.instObj C s.heap.objs.size)).get? (s.heap.objs.size+1)=some (W.instObj C s.heap.objs.size):=by
  have:=aYI (s.heap.push W.emptyDict) (o:=W.instObj C s.heap.objs.size) rfl
  rwa [aBp] at this
 have e3:(s.heap.push W.emptyDict).Ns s.heap.objs.size (λ_=>none):=⟨W.emptyDict,#[],_,e1,rfl,(λe he=>absurd he (by simp)),λ_=>rfl⟩
 have I1:=I.laid (a:=s.heap.objs.size) (o:=.own (s.heap.objs.size+1)) (h':=s.heap.push W.emptyDict) (t':=s.toks) (λb u q=>aXX _ q) (aEt _) ⟨_,e1⟩
 refine I1.laid (a:=s.heap.objs.size+1) (o:=.ins C s.heap.objs.size []) (t':=s.toks) (λb u q=>aXX _ q) (Nat.le_of_eq (aBp _ _)) ?_
 have ne:s.heap.objs.size≠s.heap.objs.size+1:=ayF (Nat.lt_succ_self _)
 refine ⟨by rw [Zc ne,Za],aUM _,ne,e2,λ_=>none,(Heap.Ns1.of_empty e3).at λo q=>aXX _ q,λ_=>True.intro,λy hy=>absurd rfl hy⟩
theorem Xp {prog:Program} {w:World} {env:Env} {e:Expr} {f:Str} {pos:Pos} {s:Shared} {Q:Value->Shared->Prop} (hb:attributeBase e f env (eval e env)=eval e env)
  (h:wpAny (model prog w) A (eval e env) (λo s₁=>wpAny (model prog w) A (getAttr o f true) Q E s₁) E s):wpAny (model prog w) A (eval (.Attribute e f pos) env) Q E s :=
 Attribute_any_ h (by rw [arm_eval_Attribute,hb])
end
def yO (K:W.Frag) (ta:TE) (f:Str):TE:=λσ H Q=>ta σ H λx H1=>∃ a C dx fs v,x=.ref a/\H1 a=some (.ins C dx fs)/\mO K C/\aQ K C f/\fs.lookup f=some v/\Q v H1
def Fw (K:W.Frag) (ta tv:TE) (f:Str):TS:=λD σ H=>tv σ H λy H1=>ta σ H1 λx H2=>∃ a C dx fs,x=.ref a/\H2 a=some (.ins C dx fs)/\mO K C/\aQ K C f/\fs.length<1000 /\
 D.nx σ (upd H2 a (.ins C dx (ai f y fs)))
def BX (X:Cx) (op:Operator) (rd:V->V->Hp->VK->Prop):Prop :=
 ∀ (pins:List (Addr×Obj)) (s:Shared) (σ:St) (H:Hp) (x y:V) (u v:Value) (Q:VK),Inv X pins σ H s->RelV x u->RelV y v->rd x y H Q->wpAny (model X.prog X.w) X.A (inplaceOp op u v) (EP X pins σ Q) X.xe s
section
variable {X:Cx} {o e value:Expr} {f:Str} {pos pos' tpos:Pos} {ta tv:TE}
theorem WT (he:PE X e ta) (hb:attributeBase e f X.env (eval e X.env)=eval e X.env):PE X (.Attribute e f pos) (yO X.K ta f):=by
 intro pins s σ H Q I h
 refine Xp hb (bY (he pins s σ H _ I h) λu s1 ⟨x,H1,I1,rx,a,C,dx,fs,v,ex,ea,c,n,l,q⟩=>?_)
 subst ex
 obtain rfl:u=Value.ref a:=rx
 exact Z1 I1 ea c n l λu' s2 I2 ru=>⟨v,H1,I2,ru,q⟩
theorem k6 (ha:PE X o ta) (hv:PE X value tv) (hs:swapsWith value (some (.Attribute o f pos')) pos.line X.env=pure false):PS X (.Assign [.Attribute o f pos'] value pos) (Fw X.K ta tv f):=by
 intro pins s σ H D I h
 refine plainObj_wpAny_Assign_Attribute (gc (hv pins s σ H _ I h) λu s1 y H1 I1 ry q=>bY (ha pins s1 σ H1 _ I1 q) λov s2 ⟨x,H2,I2,rx,a,C,dx,fs,ex,ea,c,n,l,q2⟩=>?_) hs
 subst ex
 obtain rfl:ov=Value.ref a:=rx
 exact Z0 I2 ea c n l ry λs3 I3=>⟨σ,_,I3,q2⟩
def FP:V->V->Hp->VK->Prop:=λx y H Q=>∃ i j,x=.int i/\y=.int j/\Q (.int (i+j)) H
theorem WS:BX X .Add FP:=by
 rintro pins s σ H x y u v Q I rx ry ⟨i,j,rfl,rfl,q⟩
 obtain ⟨t,rfl⟩:=(show ∃ t,u=Value.int i t from rx)
 obtain ⟨t',rfl⟩:=(show ∃ t',v=Value.int j t' from ry)
 exact PyProof.Rows.iadd_int ⟨.int (i+j),H,I.tok _,⟨_,rfl⟩,q⟩
end
section
variable {X:Cx} {pins:List (Addr×Obj)} {σ:St} {H:Hp} {s:Shared} {A:Around} {E:Value->Shared->Prop} {Q:Value->Shared->Prop} {c:Value} {b:Bool}
inductive iG (K:W.Frag) (H:Hp):V->Value->Prop where
 | aT:iG K H .aT (.type "NoneType")
 | bl (x:Bool):iG K H (.bl x) (.type "bool")
 | int (i:Int):iG K H (.int i) (.type "int")
 | str (x:Str):iG K H (.str x) (.type "str")
 | sM (x:UInt64):iG K H (.sM x) (.type "float")
 | lst {a:Addr} {xs:List V} (e:H a=some (.lst xs)):iG K H (.ref a) (.type "list")
 | cW {a:Addr} {o:Obj} {xs:List V} (e:H a=some (.cW o (.lst xs))):iG K H (.ref a) (.type "list")
 | tup {a:Addr} {xs:List V} (e:H a=some (.tup xs)):iG K H (.ref a) (.type "tuple")
 | dK {a:Addr} {kvs:List (Key×V)} (e:H a=some (.dK kvs)):iG K H (.ref a) (.type "dict")
 | dT {a:Addr} {kvs:List (List Key×V)} (e:H a=some (.dT kvs)):iG K H (.ref a) (.type "dict")
 | ins {a C dx:Addr} {fs:List (Str×V)} (e:H a=some (.ins C dx fs)) (cl:mO K C) (ha:W.findIn K (.ref C) "__class__" = some (some (.builtin "object.__class__")))
   (hn:W.specialIn K (.builtin "object.__class__") "__get__" = some (some (.builtin "getset_descriptor.__get__"))) (htk:W.takesIn K (.builtin "object.__class__")=some true)
   (hm:W.mroIn K C (.type "object")=some true):iG K H (.ref a) (.ref C)
theorem YN {x:V} {u t:Value} (I:Inv X pins σ H s) (rx:RelV x u) (ty:iG X.K H x t) (e:W.kitOne X.K t c=some b) (h:∀ tk,Q (.bool b) { s with toks:=tk }) :
  wpAny (model X.prog X.w) A (call (.builtin "isinstance") [u,c]) Q E s:=by
 cases ty with
 | aT=>cases (show u=Value.none from rx); exact bdc W.kitx_none I.d8 True.intro e (λz=>nomatch z) h
 | bl y=>cases (show u=Value.bool y from rx); exact bdc W.kitx_bool I.d8 True.intro e (λz=>nomatch z) h
 | int i=>obtain ⟨t,q⟩:=(show ∃ t,u=Value.int i t from rx); cases q; exact bdc W.kitx_int I.d8 True.intro e (λz=>nomatch z) h
 | str y=>obtain ⟨t,q⟩:=(show ∃ t,u=Value.str y t from rx); cases q; exact bdc W.kitx_str I.d8 True.intro e (λz=>nomatch z) h
 | sM y=>obtain ⟨t,q⟩:=(show ∃ t,u=Value.float y t from rx); cases q; exact bdc W.kitx_float I.d8 True.intro e (λz=>nomatch z) h
 | @lst a xs ea =>
  cases (show u=Value.ref a from rx)
  obtain ⟨_,_,n,_,h1⟩:=(show aJ X.prog X.w H s.heap a (.lst xs) from I.hok a _ ea)
  exact bdc W.kitx_list I.d8 ⟨_,h1,rfl⟩ e (λz=>nomatch z) h
 | @cW a ob xs ea =>
  cases (show u=Value.ref a from rx)
  obtain ⟨_,_,_,n,_,h1⟩:=(show aJ X.prog X.w H s.heap a (.cW ob (.lst xs)) from I.hok a _ ea)
  exact bdc W.kitx_list I.d8 ⟨_,h1,rfl⟩ e (λz=>nomatch z) h
 | @tup a xs ea =>
  cases (show u=Value.ref a from rx)
  obtain ⟨_,_,_,p⟩:=(show aJ X.prog X.w H s.heap a (.tup xs) from I.hok a _ ea)
  obtain ⟨o,h1,h2,_⟩:=p
  exact bdc W.kitx_tuple I.d8 ⟨o,h1,h2⟩ e (λz=>nomatch z) h
 | @dK a kvs ea =>
  cases (show u=Value.ref a from rx)
  obtain ⟨_,_,vs,_,p⟩:=(show aJ X.prog X.w H s.heap a (.dK kvs) from I.hok a _ ea)
  obtain ⟨o,es,ep,h1,h2,_⟩:=p
  exact bdc W.kitx_dict I.d8 ⟨o,h1,h2.1⟩ e (λz=>nomatch z) h
 | @dT a kvs ea =>
  cases (show u=Value.ref a from rx)
  obtain ⟨_,_,xs,_,o,es,ep,h1,h2,_⟩:=(show aJ X.prog X.w H s.heap a (.dT kvs) from I.hok a _ ea)
  exact bdc W.kitx_dict I.d8 ⟨o,h1,h2.1⟩ e (λz=>nomatch z) h
 | @ins a C dx fs ea cl ha hn htk hm =>
  cases (show u=Value.ref a from rx)
  obtain ⟨mA,O,_⟩:=DK I.hok ea
  obtain ⟨od,J,_⟩:=O.look
  exact bdc (W.kitx_own (cl.get _) cl.hd ha hn htk hm) I.d8 J e (λz=>nomatch z) h
end
structure bf (k:Nat) (A:Around):Prop where
 hd:A.handled=none
 dp:A.depth+3 * k+5<recursionLimit
 un:A.units+16 * k+200<cLine
 gd:A.guards=some []
theorem bf.mono {j k:Nat} {A:Around} (r:bf k A) (h:j<=k):bf j A:=⟨r.hd,by have:=r.dp; lia,by have:=r.un; lia,r.gd⟩
theorem bf.deeper {k:Nat} {A:Around} (r:bf (k+1) A) (env:Env):bf k (A.deeper env) :=
 ⟨r.hd,by have:=r.dp; show A.depth+1+3 * k+5<_; lia,by have:=r.un; show A.units+3+16 * k+200<_; lia,r.gd⟩
theorem Y9 {A:Around} {C:Addr} {us:List Value} {kw:List (Str×Value)}:(A.under (.builtin "type.__call__" ⟨.ref C :: us,kw⟩)).depth=A.depth+1:=by
 first | rfl | simp [Around.under,Code.weight,Code.isCreation,Code.isGuard,Code.isCaller,Code.frames,Code.isFrame,guardIds]
theorem Y8 {A:Around} {C:Addr} {us:List Value} {kw:List (Str×Value)}:(A.under (.builtin "type.__call__" ⟨.ref C :: us,kw⟩)).units=A.units+1:=by
 first | rfl | simp [Around.under,Code.cUnits,Code.frames,Code.isFrame]
theorem bf.make {k:Nat} {A:Around} (r:bf (k+1) A) (C:Addr) (us:List Value) (kw:List (Str×Value)):bf k (A.under (.builtin "type.__call__" ⟨.ref C :: us,kw⟩)) :=
 ⟨r.hd,by have:=r.dp; rw [Y9]; lia,by have:=r.un; rw [Y8]; lia,r.gd⟩
theorem bf.depth {k:Nat} {A:Around} (r:bf k A):A.depth<recursionLimit:=by have:=r.dp; lia
theorem bf.units {k:Nat} {A:Around} (r:bf k A):A.units+64<cLine:=by have:=r.un; lia
def uX:TA:=λ_ H Q=>Q [] H
def tU (ta:TE) (tr:TA):TA:=λσ H Q=>ta σ H λx H1=>tr σ H1 λxs H2=>Q (x :: xs) H2
section
variable {X:Cx} {e:Expr} {es:List Expr} {te:TE} {t:TA} {pos:Pos}
theorem Zb:PA X [] uX:=λ_ _ _ _ H Q I h=>aQr ⟨[],H,I,.nil,h⟩
theorem Xo (ha:PE X e te) (hr:PA X es t) (hs:starEach (e :: es) X.env=(false,eval e X.env) :: starEach es X.env:=by rfl):PA X (e :: es) (tU te t):=by
 intro pos pins s σ H Q I h
 rw [hs]
 show wpAny _ _ (spliced ((false,eval e X.env) :: backTo pos (starEach es X.env))) _ _ s
 refine avt (gc (ha pins s σ H _ I h) λu s1 x H1 I1 r1 q1=>?_)
 exact mR (hr pos pins s1 σ H1 _ I1 q1) λus s2 xs H2 I2 r2 q2=>⟨x :: xs,H2,I2,.cons r1 r2,q2⟩
def Fc (t:TA):TE:=λσ H Q=>t σ H λxs H1=>xs.length<=sizeLine/\∀ p,H1 p=none->Q (.ref p) (upd H1 p (.tup xs))
def Fg (t:TA):TE:=λσ H Q=>t σ H λxs H1=>xs.length<=sizeLine/\∀ p,H1 p=none->Q (.ref p) (upd H1 p (.lst xs))
theorem jI {x1} (h:PA X es t):PE X (.Tuple es x1 pos) (Fc t):=by
 intro pins s σ H Q I hq
 refine wpAny_Tuple_spliced (bY (h pos pins s σ H _ I hq) λus s1 ⟨xs,H1,I1,r,z,q⟩=>⟨by rw [← r.length]; exact z,?_⟩)
 have hf:H1 s1.heap.objs.size=none:=I1.hok.fresh (aEt _)
 refine ⟨.ref s1.heap.objs.size,upd H1 s1.heap.objs.size (.tup xs),I1.laid (t':=s1.toks) (λb u e=>aXX _ e) (aEt _) ?_,rfl,q _ hf⟩
 exact ⟨z,us,r,⟨_,aYI _ rfl,rfl,_,rfl⟩⟩
theorem j8 (h:PA X es t):PE X (.List es pos) (Fg t):=by
 intro pins s σ H Q I hq
 refine wpAny_List_spliced (bY (h pos pins s σ H _ I hq) λus s1 ⟨xs,H1,I1,r,z,q⟩=>⟨by rw [← r.length]; exact z,?_⟩)
 have hf:H1 s1.heap.objs.size=none:=I1.hok.fresh (aEt _)
 refine ⟨.ref s1.heap.objs.size,upd H1 s1.heap.objs.size (.lst xs),I1.laid (t':=s1.toks) (λb u e=>aXX _ e) (aEt _) ?_,rfl,q _ hf⟩
 exact ⟨z,us,0,r,aYI _ rfl⟩
end
abbrev Sp:=List V->Hp->VK->XK->Prop
abbrev rQ:=List Env->Hp->Shared->XK->Value->Shared->Prop
structure nI (P:Program) (w:World) (K:W.Frag) (mg:Str->Option Value) (base:Heap) (A:Around) (outer:List Env) (s:Shared) (H:Hp):Prop where
 frames:A.frames=some outer
 mod:Mod K mg base
 bs:∀ b o,base.get? b=some o->s.heap.get? b=some o/\H b=none
 rH:base.objs.size<=s.heap.objs.size
 i6:s.heap.FunFrames base outer
 vU:∀ b∈frs outer,H b=none
 hok:fz P w H s.heap
 bare:AllBare s.gens
def CE (outer:List Env) (P:Program) (w:World) (H:Hp) (s:Shared) (Q:VK) (u:Value) (s':Shared):Prop :=
 ∃ v H',s'.os=s.os/\AllBare s'.gens/\Un (frs outer) [] H H' s.heap s'.heap/\fz P w H' s'.heap/\RelV v u/\Q v H'
def CR (CX:rQ) (outer:List Env) (P:Program) (w:World) (H:Hp) (s:Shared) (Q:VK) (E:XK) (r:Result) (s':Shared):Prop :=
 match r with
 | .ok (.ret u)=>CE outer P w H s Q u s'
 | .ok _=>False
 | .error e=>CX outer H s E e s'
structure av (P:Program) (w:World) (K:W.Frag) (mg:Str->Option Value) (base:Heap) (CX:rQ) (k:Nat) (f:Addr) (fd:FuncData) (ps:List Str) (sp:Sp):Prop where
 len:∀ vs H Q E,sp vs H Q E->vs.length=ps.length
 run:∀ (A:Around) (outer:List Env) (s:Shared) (H:Hp) (args:Args) (us:List Value) (vs:List V) (Q:VK) (E:XK),bf k A->nI P w K mg base A outer s H->BindsTo s fd args (ps.zip us)->Vals vs us->sp vs H Q E ->
  codeAny (model P w) A (.call (.ref f) args) (CR CX outer P w H s Q E) s
theorem nI.make {P:Program} {w:World} {K:W.Frag} {mg:Str->Option Value} {base:Heap} {A:Around} {outer:List Env} {s:Shared} {H:Hp} (e:nI P w K mg base A outer s H) (C:Addr) (us:List Value) (kw:List (Str×Value)) :
  nI P w K mg base (A.under (.builtin "type.__call__" ⟨.ref C :: us,kw⟩)) outer s H:=⟨by first | exact e.frames | (simpa [Around.under,Code.envs,Code.isFrame,pushEnvs] using e.frames),e.mod,e.bs,e.rH,e.i6,e.vU,e.hok,e.bare⟩
section
variable {X:Cx} {pins:List (Addr×Obj)} {σ:St} {H:Hp} {s s':Shared}
theorem Inv.AE (I:Inv X pins σ H s):nI X.prog X.w X.K X.mg X.base X.A X.stack s H :=
 ⟨I.ok.frames,I.ok.mod,I.bs,a28 I.ok.rH I.sz,I.stack,I.ko,I.hok,I.bare⟩
theorem Inv.after {Q:VK} {u:Value} (I:Inv X pins σ H s) (h:CE X.stack X.prog X.w H s Q u s'):EP X pins σ Q u s':=by
 obtain ⟨v,H',os,bare,un,hok,r,q⟩:=h
 obtain ⟨hh,g,d,t,os'⟩:=s'
 obtain rfl:os'=s.os:=os
 exact ⟨v,H',I.call (h':=hh) (g':=g) (d':=d) (t':=t) (ch:=[]) un hok bare (λb z=>absurd z (by simp)),r,q⟩
end
def nL (sp:Sp) (jQ:List V) (E:XK) (t:TA):TE:=λσ H Q=>t σ H λvs H1=>sp (vs++jQ) H1 Q E
def nK (C:Addr) (m:Str) (sp:Sp) (jQ:List V) (E:XK) (ta:TE) (t:TA):TE:=λσ H Q=>ta σ H λx H1=>∃ a dx fs,x=.ref a/\H1 a=some (.ins C dx fs)/\fs.lookup m=none /\
 t σ H1 λvs H2=>sp (x :: (vs++jQ)) H2 Q E
def tT (C:Addr) (sp:Sp) (jQ:List V) (E:XK) (t:TA):TE:=λσ H Q=>t σ H λvs H1=>∀ x dx,H1 x=none->H1 dx=none->dx≠x ->
 sp (.ref x :: (vs++jQ)) (upd (upd H1 dx (.own x)) x (.ins C dx [])) (λv H2=>v=.aT/\Q (.ref x) H2) E
def Binds (K:W.Frag) (fd:FuncData) (ps:List Str) (ds:List Value):Prop :=
 ∀ (s:Shared) (us:List Value),K.In s.heap->(us++ds).length=ps.length->BindsTo s fd ⟨us,[]⟩ (ps.zip (us++ds))
theorem Binds.all {K:W.Frag} {fd:FuncData} {ps:List Str} (h:∀ us:List Value,us.length=ps.length->bindArgs fd ⟨us,[]⟩=pure (ps.zip us)):Binds K fd ps []:=λs us _ hl=>by
 rw [bcu] at hl ⊢
 exact .of_eq (h us hl)
def wz (CX:rQ) (X:Cx) (E:XK):Prop:=∀ (pins:List (Addr×Obj)) (σ:St) (H:Hp) (s:Shared) (e:Value) (s':Shared),Inv X pins σ H s->CX X.stack H s E e s'->X.xe e s'
section
variable {X:Cx} {CX:rQ} {k:Nat} {f C:Addr} {fd:FuncData} {ps:List Str} {sp:Sp} {jQ:List V} {ds:List Value} {E:XK} {x m:Str} {p pos apos:Pos} {e o:Expr} {es:List Expr} {ta:TE} {t:TA}
theorem Dk {pins:List (Addr×Obj)} {σ:St} {H:Hp} {s:Shared} {Q:VK} {us:List Value} {vs:List V} (F:av X.prog X.w X.K X.mg X.base CX k f fd ps sp) (hr:bf k X.A) (hb:Binds X.K fd ps ds) (hd:Vals jQ ds) (hx:wz CX X E)
  (I:Inv X pins σ H s) (r:Vals vs us) (h:sp (vs++jQ) H Q E):wpAny (model X.prog X.w) X.A (call (.ref f) us) (EP X pins σ Q) X.xe s:=by
 have r2:Vals (vs++jQ) (us++ds):=r.append hd
 have hl:(us++ds).length=ps.length:=by rw [← r2.length]; exact F.len _ _ _ _ h
 refine wpAny_call (codeAny_mono (F.run X.A X.stack s H ⟨us,[]⟩ (us++ds) (vs++jQ) Q E hr I.AE (hb s us I.d8 hl) r2 h) λr s' hq=>?_)
 cases r with
 | error e=>exact hx pins σ H s e s' I hq
 | ok fl =>
  cases fl with
  | ret u=>exact I.after hq
  | next=>exact False.elim hq
  | brk=>exact False.elim hq
  | cont=>exact False.elim hq
theorem Xn (F:av X.prog X.w X.K X.mg X.base CX k f fd ps sp) (hr:bf k X.A) (hg:Gl X x) (hm:X.mg x=some (.ref f)) (hk:W.keepIn X.K (.ref f)=true) (hb:Binds X.K fd ps ds) (hd:Vals jQ ds) (hx:wz CX X E)
  (ha:PA X (e :: es) t) (hdb:(x == ("__debug__" : Str))=false:=by decide) (he:starEach (e :: es) X.env=(false,eval e X.env) :: starEach es X.env:=by rfl) (hpl:(backTo pos (starEach es X.env)).any (·.1)=false:=by rfl) :
  PE X (.Call (.Name x p) (e :: es) [] pos) (nL sp jQ E t):=by
 intro pins s σ H Q I h
 refine aJJ (II I hg hm ?_ hdb)
 refine W.callWith_K (h₀:=X.base) I.ok.mod.xO hk (mR (ha pos pins s σ H _ I h) λus s1 vs H1 I1 r q=>⟨I1.d8,?_⟩) he hpl
 exact Dk F hr hb hd hx I1 r q
theorem Xm {pl:Sem Bool} (he:PE X o ta) (c:mO X.K C) (hm:Meth X.K C m f) (F:av X.prog X.w X.K X.mg X.base CX k f fd ps sp) (hr:bf k X.A) (hb:Binds X.K fd ps ds) (hd:Vals jQ ds) (hx:wz CX X E) (ha:PA X (e :: es) t)
  (hst:starEach (e :: es) X.env=(false,eval e X.env) :: starEach es X.env:=by rfl) (hpl:(backTo pos (starEach es X.env)).any (·.1)=false:=by rfl)
  (ht:eval (.Call (.Attribute o m apos) (e :: es) [] pos) X.env=(do
   let ov ← eval o X.env
   standAt apos.atName
   let (f,first) ← holding [ov] (getMethod ov m pl)
   callWith pos f first (backTo pos (starEach (e :: es) X.env)) (backToKw pos (keywordEach [] X.env))):=by rfl) :
  PE X (.Call (.Attribute o m apos) (e :: es) [] pos) (nK C m sp jQ E ta t):=by
 intro pins s σ H Q I h
 refine W.methodCall_KW (pl:=pl) (bY (he pins s σ H _ I h) λu s1 ⟨x,H1,I1,rx,a,dx,fs,ex,ea,l,q⟩=>?_) ht
 subst ex
 obtain rfl:u=Value.ref a:=rx
 refine QA I1 ea c hm l ?_
 refine W.callWith_K (first:=[.ref a]) (h₀:=X.base) I.ok.mod.xO hm.kp (mR (ha pos pins s1 σ H1 _ I1 q) λus s2 vs H2 I2 r q2=>⟨I2.d8,?_⟩) hst hpl
 exact Dk (us:=.ref a :: us) (vs:=.ref a :: vs) F hr hb hd hx I2 (.cons rfl r) q2
theorem XX {pl:Sem Bool} (he:PE X o ta) (c:mO X.K C) (hm:Meth X.K C m f) (F:av X.prog X.w X.K X.mg X.base CX k f fd ps sp) (hr:bf k X.A) (hb:Binds X.K fd ps ds) (hd:Vals jQ ds) (hx:wz CX X E)
  (ht:eval (.Call (.Attribute o m apos) [] [] pos) X.env=(do
   let ov ← eval o X.env
   standAt apos.atName
   let (f,first) ← holding [ov] (getMethod ov m pl)
   callWith pos f first (backTo pos (starEach [] X.env)) (backToKw pos (keywordEach [] X.env))):=by rfl) :
  PE X (.Call (.Attribute o m apos) [] [] pos) (nK C m sp jQ E ta uX):=by
 intro pins s σ H Q I h
 refine W.methodCall_KW (pl:=pl) (bY (he pins s σ H _ I h) λu s1 ⟨x,H1,I1,rx,a,dx,fs,ex,ea,l,q⟩=>?_) ht
 subst ex
 obtain rfl:u=Value.ref a:=rx
 refine QA I1 ea c hm l ?_
 exact W.callWith_K0 (first:=[.ref a]) I1.d8 hm.kp (Dk (us:=[.ref a]) (vs:=[.ref a]) F hr hb hd hx I1 (.cons rfl .nil) q)
structure Mk (K:W.Frag) (C f:Addr):Prop where
 makes:W.makesIn K C=true
 init:W.findIn K (.ref C) "__init__" = some (some (.ref f))
 fn:W.isFn K (.ref f)=true
 kp:W.keepIn K (.ref C)=true
theorem XW {pins:List (Addr×Obj)} {σ:St} {H:Hp} {s:Shared} {Q:VK} {us:List Value} {vs:List V} (M:Mk X.K C f) (F:av X.prog X.w X.K X.mg X.base CX k f fd ps sp) (hr:bf (k+1) X.A) (hb:Binds X.K fd ps ds) (hd:Vals jQ ds)
  (hx:wz CX X E) (I:Inv X pins σ H s) (r:Vals vs us)
  (h:∀ x dx,H x=none->H dx=none->dx≠x->sp (.ref x :: (vs++jQ)) (upd (upd H dx (.own x)) x (.ins C dx [])) (λv H2=>v=.aT/\Q (.ref x) H2) E) :
  wpAny (model X.prog X.w) X.A (call (.ref C) us) (EP X pins σ Q) X.xe s:=by
 have hq:=h (s.heap.objs.size+1) s.heap.objs.size (I.hok.fresh (Nat.le_succ _)) (I.hok.fresh (aEt _)) (ayF (Nat.lt_succ_self _))
 have I2:=Inv.made (C:=C) I
 have r2:Vals (V.ref (s.heap.objs.size+1) :: (vs++jQ)) (Value.ref (s.heap.objs.size+1) :: (us++ds)):=.cons rfl (r.append hd)
 have hl:(Value.ref (s.heap.objs.size+1) :: us++ds).length=ps.length:=by
  have e:=r2.length
  rw [F.len _ _ _ _ hq] at e
  exact e.symm
 refine wpAny_call (XY (f:=f) I.d8 M.makes M.init (aTL.mp M.fn) (codeAny_mono (F.run _ X.stack _ _ ⟨Value.ref (s.heap.objs.size+1) :: us,[]⟩ (Value.ref (s.heap.objs.size+1) :: (us++ds)) _ _ E (hr.make C us [])
  (I2.AE.make C us []) (hb _ (Value.ref (s.heap.objs.size+1) :: us) I2.d8 hl) r2 hq) λr s' hq'=>?_))
 cases r with
 | error e=>exact hx pins σ _ _ e s' I2 hq'
 | ok fl =>
  cases fl with
  | ret u =>
   obtain ⟨v,H',I3,rv,ev,q3⟩:=I2.after hq'
   subst ev
   exact ⟨rv,⟨V.ref (s.heap.objs.size+1),H',I3,rfl,q3⟩⟩
  | next=>exact False.elim hq'
  | brk=>exact False.elim hq'
  | cont=>exact False.elim hq'
theorem Xl (M:Mk X.K C f) (F:av X.prog X.w X.K X.mg X.base CX k f fd ps sp) (hr:bf (k+1) X.A) (hg:Gl X x) (hm:X.mg x=some (.ref C)) (hb:Binds X.K fd ps ds) (hd:Vals jQ ds) (hx:wz CX X E)
  (ha:PA X (e :: es) t) (hdb:(x == ("__debug__" : Str))=false:=by decide) (he:starEach (e :: es) X.env=(false,eval e X.env) :: starEach es X.env:=by rfl) (hpl:(backTo pos (starEach es X.env)).any (·.1)=false:=by rfl) :
  PE X (.Call (.Name x p) (e :: es) [] pos) (tT C sp jQ E t):=by
 intro pins s σ H Q I h
 refine aJJ (II I hg hm ?_ hdb)
 refine W.callWith_K (h₀:=X.base) I.ok.mod.xO M.kp (mR (ha pos pins s σ H _ I h) λus s1 vs H1 I1 r q=>⟨I1.d8,?_⟩) he hpl
 exact XW M F hr hb hd hx I1 r q
end
structure ah (N P:List Str) (sc:Scope):Prop where
 kind:sc.kind=.function
 co:sc.isCoroutine=false
 gen:sc.isGenerator=false
 nd:N.Nodup
 pre:N.take P.length=P
 par:∀ x∈P,sc.names.lookup x=some .local\/sc.names.lookup x=some .cell
 vp:∀ y∈sc.names,y.2≠.free
theorem P9 {kindOf:Str->Option NameKind} {x:Str}:∀ {binds:List (Str×Value)} {m:Str->Option Value},(∀ v,(x,v)∉binds)->bindL kindOf binds m x=m x
 | [],_,_=>rfl
 | (n,v) :: r,m,h=>by
  unfold bindL
  rw [P9 λw hw=>h w (aHO _ hw)]
  split
  .have:x≠n:=by rintro rfl; exact h v aFv
   simp [this]
  .rfl
theorem P8 {kindOf:Str->Option NameKind} {x:Str}:∀ {binds:List (Str×Value)} {m:Str->Option Value},(∀ v,(x,v)∉binds)->bindC kindOf binds m x=m x
 | [],_,_=>rfl
 | (n,v) :: r,m,h=>by
  unfold bindC
  rw [P8 λw hw=>h w (aHO _ hw)]
  split
  .rfl
  .have:x≠n:=by rintro rfl; exact h v aFv
   simp [this]
theorem P7 {kindOf:Str->Option NameKind} {x:Str} {v:Value}:∀ {P:List Str} {vs:List Value} {i:Nat} {m:Str->Option Value},P.Nodup->P[i]?=some x->vs[i]?=some v->kindOf x=some .local ->
  bindL kindOf (P.zip vs) m x=some v
 | [],_,_,_,_,h,_,_=>by simp at h
 | _ :: _,[],_,_,_,_,h,_=>by simp at h
 | p :: P,w :: vs,0,m,nd,h1,h2,hk=>by
  simp at h1 h2; subst h1; subst h2
  show bindL kindOf ((p,w) :: P.zip vs) m p=_
  unfold bindL
  rw [P9 λv hv=>(aDH.mp nd).1 (List.of_mem_zip hv).1,abw hk]
  simp
 | p :: P,w :: vs,i+1,m,nd,h1,h2,hk=>by
  show bindL kindOf ((p,w) :: P.zip vs) m x=_
  unfold bindL
  exact P7 (i:=i) (aDH.mp nd).2 (by simpa using h1) (by simpa using h2) hk
theorem P6 {kindOf:Str->Option NameKind} {x:Str} {v:Value}:∀ {P:List Str} {vs:List Value} {i:Nat} {m:Str->Option Value},P.Nodup->P[i]?=some x->vs[i]?=some v->kindOf x≠some .local ->
  bindC kindOf (P.zip vs) m x=some v
 | [],_,_,_,_,h,_,_=>by simp at h
 | _ :: _,[],_,_,_,_,h,_=>by simp at h
 | p :: P,w :: vs,0,m,nd,h1,h2,hk=>by
  simp at h1 h2; subst h1; subst h2
  show bindC kindOf ((p,w) :: P.zip vs) m p=_
  unfold bindC
  rw [P8 λv hv=>(aDH.mp nd).1 (List.of_mem_zip hv).1,aM3 hk]
  simp
 | p :: P,w :: vs,i+1,m,nd,h1,h2,hk=>by
  show bindC kindOf ((p,w) :: P.zip vs) m x=_
  unfold bindC
  exact P6 (i:=i) (aDH.mp nd).2 (by simpa using h1) (by simpa using h2) hk
def start (N:List Str) (vs:List V):St:=vs.map some++List.replicate (N.length - vs.length) none
def lX (CX:rQ) (P:Program) (w:World) (K:W.Frag) (mg:Str->Option Value) (base:Heap) (N:List Str) (qual:Str) (scope:Scope) (f:Addr) (cd:Value) (A:Around) (outer:List Env) (s:Shared) (H:Hp) (E:XK):Cx where
 prog:=P
 w:=w
 K:=K
 mg:=mg
 base:=base
 A:=A.deeper (envOfC qual scope s.heap.objs.size f cd)
 N:=N
 s₀:=s
 H₀:=H
 env:=envOfC qual scope s.heap.objs.size f cd
 outer:=outer
 stack:=envOfC qual scope s.heap.objs.size f cd :: outer
 ex:=[]
 calm:=true
 fn:=λ_=>true
 pn:=[]
 xe:=λe s'=>wpAny (model P w) (A.deeper (envOfC qual scope s.heap.objs.size f cd)) (leaving (envOfC qual scope s.heap.objs.size f cd) e) (λ_ s''=>CX outer H s E e s'') (λe' s''=>CX outer H s E e' s'') s'
theorem Pg {sc:Scope} {n:Nat} {x:Str} (h:sc.names.lookup x=some .cell):∃ c,(cellsFrom n sc.names []).lookup x=some c:=by
 have q:=W.cellsFrom_some sc.names n [] (.inl h)
 exact Option.isSome_iff_exists.mp q
theorem YM {CX:rQ} {P:Program} {w:World} {K:W.Frag} {mg:Str->Option Value} {base:Heap} {N ps:List Str} {qual:Str} {scope:Scope} {f:Addr} {cd:Value} {A:Around} {outer:List Env} {s s1:Shared} {H:Hp} {E:XK} {us:List Value} {vs:List V}
  (S:ah N ps scope) (hd:A.handled=none) (e0:nI P w K mg base A outer s H) (hl:vs.length=ps.length) (r:Vals vs us)
  (x:InCallC s s.heap.objs.size (bindL (envOfC qual scope s.heap.objs.size f cd).kindOf (ps.zip us) λ_=>none) (cellsFrom (s.heap.objs.size+1) scope.names []) (bindC (envOfC qual scope s.heap.objs.size f cd).kindOf (ps.zip us) λ_=>none) s1) :
  Inv (lX CX P w K mg base N qual scope f cd A outer s H E) [] (start N vs) H s1:=by
 have hpl:ps.length<=N.length:=by have:=aok List.length S.pre; rw [aIq] at this; lia
 obtain ⟨h1,tk,rfl,hk⟩:=x.done
 have vq:∀ b:Addr,b∉(lX CX P w K mg base N qual scope f cd A outer s H E).ex:=λb z=>absurd (show b∈([]:List Addr) from z) (by simp)
 refine ⟨⟨e0.mod,S.kind,rfl,rfl,aEt _,λy z c h1 h2=>?_,λy hy=>?_,λy c _ h=>?_,λ_=>hd,Around.frames_deeper e0.frames,.inr ⟨rfl,rfl⟩,λb z=>absurd z (vq b),e0.bs,e0.rH,λb _ _=>vq b,λb z=>absurd z (vq b),e0.i6,e0.vU⟩,
  rfl,e0.bare,Un.kept hk,⟨_,x.toInCall.ns,λi y v h1 h2 h3=>?_⟩,λy c h=>⟨_,x.cell y c h⟩,e0.hok.fresh (aEt _),λy c h=>?_,λp hp=>absurd (show p∈([]:List (Addr×Obj)) from hp) (by simp),e0.hok.kept hk,?_⟩
 .exact name_of_addr x.apart (aPV h1) (aPV h2)
 .have hy:scope.names.lookup y=some .cell\/scope.names.lookup y=some .free:=hy
  rcases hy with hy | hy
  .exact Pg hy
  .exact absurd rfl (S.vp _ (aPV hy))
 .exact a9L (x.above y c (aPV h))
 .have hi:i<vs.length:=by
   unfold start at h2
   by_cases hi:i<vs.length
   .exact hi
   .rw [auv (by simpa using hi)] at h2
    rw [awl] at h2
    split at h2 <;> cases h2
  have ha:vs[i]?=some v:=by
   unfold start at h2
   rw [aY3 (by simpa using hi),aBK] at h2
   cases e:vs[i]? with
   | none=>rw [e] at h2; cases h2
   | some a=>rw [e] at h2; cases h2; rfl
  obtain ⟨u,hu,rv⟩:=r.get ha
  have hp:ps[i]?=some y:=by
   rw [← S.pre,List.getElem?_take_of_lt (by lia)]; exact h1
  have LW:ps.Nodup:=by rw [← S.pre]; exact S.nd.sublist (List.take_sublist _ _)
  refine ⟨u,rv,?_⟩
  rcases S.par y (aBD hp) with k | k
  .exact .inl ⟨k,P7 LW hp hu k⟩
  .obtain ⟨c,e⟩:=Pg (n:=s.heap.objs.size+1) k
   refine .inr ⟨.inl k,c,e,?_⟩
   have q:=x.cell y c e
   rw [P6 LW hp hu (by show scope.names.lookup y≠_; rw [k]; decide)] at q
   exact q
 .exact e0.hok.fresh (a9L (x.above y c (aPV h)))
 .unfold start
  show _=N.length
  rw [aCv,aK1,aBM]
  lia
theorem uB {CX:rQ} {P:Program} {w:World} {K:W.Frag} {mg:Str->Option Value} {base:Heap} {k:Nat} {f:Addr} {name qual:Str} {params:Arguments} {body:List Stmt} {scope:Scope} {dV kV doc pm cdv ct oc:Value} {an od:Option Addr}
  {osl:Array (Option Value)} {N ps:List Str} {sp:Sp} (lk:K.lookup f=some ⟨oc,od,.func (W.fnOf name qual params body scope dV kV doc pm an cdv ct),osl⟩) (hcd:W.codeIn K cdv qual=true) (S:ah N ps scope)
  (len:∀ vs H Q E,sp vs H Q E->vs.length=ps.length)
  (hbody:∀ (A:Around) (outer:List Env) (s:Shared) (H:Hp) (vs:List V) (Q:VK) (E:XK),bf k (A.deeper (envOfC qual scope s.heap.objs.size f cdv))->sp vs H Q E ->
   ∃ t,pB (lX CX P w K mg base N qual scope f cdv A outer s H E) body t/\t { nx:=λ_ H'=>Q .aT H',rt:=Q } (start N vs) H) :
  av P w K mg base CX (k+1) f (W.fnOf name qual params body scope dV kV doc pm an cdv ct) ps sp:=by
 refine ⟨len,λA outer s H args us vs Q E hr e0 hb r m9=>?_⟩
 have hl:=len _ _ _ _ m9
 have KX:K.In s.heap:=e0.mod.xO.keeps λb o e=>(e0.bs b o e).1
 have lim:s.heap.NoLimit:=e0.mod.nolimit.keeps λb o e=>(e0.bs b o e).1
 have hkind:∀ y∈ps.zip us,scope.names.lookup y.1=some .local\/(scope.names.lookup y.1=some .cell/\((cellsFrom (s.heap.objs.size+1) scope.names []).lookup y.1).isSome=true):=λ⟨n,v⟩ hy=>by
  rcases S.par n (List.of_mem_zip hy).1 with q | q
  .exact .inl q
  .exact .inr ⟨q,W.cellsFrom_some _ _ _ (.inl q)⟩
 refine codeAny_call_function hr.depth (KX _ _ lk) rfl S.co S.gen rfl (W.codeRec_of KX hcd) (hb _ _ _ _ ?_)
 refine wpAny_newFunctionEnv_cells S.kind hkind λenv he s1 x=>?_
 subst he
 refine ⟨lim.keeps x.toInCall.keep,codeAny_func ?_⟩
 obtain ⟨t,ht,hq⟩:=hbody A outer s H vs Q E (hr.deeper _) m9
 have I:Inv (lX CX P w K mg base N qual scope f cdv A outer s H E) [] (start N vs) H s1:=YM S hr.hd e0 hl r x
 refine aRs (ht [] s1 (start N vs) H _ I hq) (λfl s' hs=>?_) λe s' hs=>hs
 have fin:∀ {σ':St} {H':Hp} {v:V} {u:Value},Inv (lX CX P w K mg base N qual scope f cdv A outer s H E) [] σ' H' s'->RelV v u->Q v H'->CE outer P w H s Q u s' :=
  λ{σ' H' v u} J rv q=>⟨v,H',J.os,J.bare,J.base,J.hok,rv,q⟩
 cases fl with
 | ret u =>
  obtain ⟨v,σ',H',J,rv,q⟩:=hs
  exact fin J rv q
 | next =>
  obtain ⟨σ',H',J,q⟩:=hs
  exact fin (v:=V.aT) (u:=Value.none) J rfl q
 | brk =>
  obtain ⟨_,_,_,q⟩:=hs
  exact False.elim q
 | cont =>
  obtain ⟨_,_,_,q⟩:=hs
  exact False.elim q
section
variable {X:Cx} {x:Str} {p pos:Pos} {e:Expr} {es:List Expr} {t:TA} {id T:String} {r:List V->Hp->VK->Prop}
def Ct (r:List V->Hp->VK->Prop) (t:TA):TE:=λσ H Q=>t σ H λvs H1=>r vs H1 Q
theorem XU (hc:bH X (.builtin id) r) (hg:Gl X x) (hm:X.mg x=none) (hv:bootBuiltins x=some (.builtin id)) (ha:PA X (e :: es) t) (hn:x ≠ "__name__" := by decide) (hdb:(x == ("__debug__" : Str))=false:=by decide)
  (he:starEach (e :: es) X.env=(false,eval e X.env) :: starEach es X.env:=by rfl) (hpl:(backTo pos (starEach es X.env)).any (·.1)=false:=by rfl):PE X (.Call (.Name x p) (e :: es) [] pos) (Ct r t):=by
 intro pins s σ H Q I h
 refine aJJ (pQ I hg hm hv ?_ hn hdb)
 exact PyProof.Rows.callWith_builtin1 (mR (ha pos pins s σ H _ I h) λus s1 vs H1 I1 r1 q1=>hc pins s1 σ H1 vs us Q I1 r1 q1) he hpl
theorem YL (hc:bH X (.type T) r) (hg:Gl X x) (hm:X.mg x=none) (hv:bootBuiltins x=some (.type T)) (ha:PA X (e :: es) t) (hn:x ≠ "__name__" := by decide) (hdb:(x == ("__debug__" : Str))=false:=by decide)
  (he:starEach (e :: es) X.env=(false,eval e X.env) :: starEach es X.env:=by rfl) (hpl:(backTo pos (starEach es X.env)).any (·.1)=false:=by rfl):PE X (.Call (.Name x p) (e :: es) [] pos) (Ct r t):=by
 intro pins s σ H Q I h
 refine aJJ (pQ I hg hm hv ?_ hn hdb)
 exact aC1 (mR (ha pos pins s σ H _ I h) λus s1 vs H1 I1 r1 q1=>hc pins s1 σ H1 vs us Q I1 r1 q1) he hpl
end
end L2
namespace HT
open PySem PyProof.Rows
theorem lW (A:Around) (s:Shared) (a:Int) (t:Tok) (c:Int) (u:Tok):∃ e,SeqAt.EqAt A s (.int a t) (.int c u) e/\(e=true↔a=c) :=
 ⟨(a == c),SeqAt.EqAt.int_int a t c u,by simp⟩
section
open PySem.SeqAt
open PySem.AutoSeq1 (wpAny_loadPart')
open PySem.MeetsSeq PySem.MeetsSeq2 PySem.MeetsSeq3
end
section
variable {prog:Program} {w:World} {A:Around} {E:Value->Shared->Prop} {s:Shared}
theorem sP {t b:Addr} {vs ws:List Value} {Q:Value->Shared->Prop} (ht:IsTup s.heap t vs.toArray) (hb:IsTup s.heap b ws.toArray) (hv:vs≠[])
  (h1:ws=[]->Q (.ref t) s) (h2:ws≠[]->Q (.ref s.heap.objs.size) { s with heap:=s.heap.push { cls:=.type "tuple",data:=.seq (vs++ws).toArray } })
  (hsz:vs.length+ws.length<=sizeLine):wpAny (model prog w) A (binaryOp .Add (.ref t) (.ref b)) Q E s:=by
 obtain ⟨⟨cls,dd,data,sl⟩,ho,hc,n,hd⟩:=id ht
 obtain ⟨⟨Vk,dd2,data2,sl2⟩,ho2,hc2,n2,hd2⟩:=id hb
 simp only at hc hd hc2 hd2
 subst hc hd hc2 hd2
 have e:vs.toArray++ws.toArray=(vs++ws).toArray:=by simp
 by_cases hw:ws=[]
 .exact concat_meets ⟨_,ho,rfl⟩ ⟨_,ho2,rfl⟩ noFill_tuple_add seq_tuple_add aTP ba7 (avQ _ _)
   (tuple_addW1 t b vs.toArray ws.toArray n n2 dd dd2 sl sl2 (by simpa using hv) (by simp [hw])) ⟨ho,ho2,h1 hw⟩
 .refine concat_meets ⟨_,ho,rfl⟩ ⟨_,ho2,rfl⟩ noFill_tuple_add seq_tuple_add aTP ba7 (avQ _ _)
   (tuple_addW2 t b vs.toArray ws.toArray n n2 dd dd2 sl sl2 (by simpa using hv) (by simpa using hw) (by rw [am7,am7]; exact hsz)) ⟨ho,ho2,?_⟩
  rw [e]
  exact h2 hw
def bB (n d:Nat):Option Int->Nat
 | none=>d
 | some v=>if v<0 then (v+(n:Int)).toNat else min v.toNat n
theorem jk (n d:Nat):bB n d none=d:=rfl
theorem kq (n d k:Nat):bB n d (some (k:Int))=min k n:=by
 show (if (k:Int)<0 then ((k:Int)+(n:Int)).toNat else min (k:Int).toNat n)=min k n
 rw [aM3 (by lia),Int.toNat_natCast]
theorem WR (n d:Nat) (hd:d<=n) (o:Option Int):bB n d o<=n:=by
 cases o with
 | none=>exact hd
 | some v =>
  show (if v<0 then (v+(n:Int)).toNat else min v.toNat n)<=n
  by_cases hv:v<0
  .rw [abw hv]; lia
  .rw [aM3 hv]; exact Nat.min_le_right _ _
theorem kQ (v:Int) (n d:Nat):(if v<0 then max (v+(n:Int)) 0 else min v (n:Int))=((bB n d (some v):Nat):Int):=by
 show (if v<0 then max (v+(n:Int)) 0 else min v (n:Int))=(((if v<0 then (v+(n:Int)).toNat else min v.toNat n):Nat):Int)
 by_cases hv:v<0
 .simp only [abw hv]; lia
 .simp only [aM3 hv]; lia
theorem Y7 (lo hi:Option Int) (n:Nat):Builtin.Slice.sliceAdjust lo hi 1 (n:Int)=(((bB n 0 lo:Nat):Int),((bB n n hi:Nat):Int)):=by
 have h1:¬ ((1:Int)<0):=by lia
 unfold Builtin.Slice.sliceAdjust
 simp only [h1,at1]
 refine Prod.ext ?_ ?_
 .cases lo with
  | none=>rfl
  | some v=>exact kQ v n 0
 .cases hi with
  | none=>rfl
  | some v=>exact kQ v n n
theorem ZkA (i j:Nat):Builtin.Slice.slicePlaces (i:Int) (j:Int) 1=j - i:=by
 unfold Builtin.Slice.slicePlaces
 have h1:(1:Int) > 0:=by lia
 simp only [h1,aOV,Int.ediv_one]
 split <;> lia
theorem Qz {v:Value} {o:Option Int} {Q:Option Int->Shared->Prop} (p:IsPart v o) (h:Q o s):wpAny (model prog w) A (Builtin.Slice.slicePartIndex v) Q E s:=by
 cases p with
 | none=>exact slicePart_none h
 | int i t=>exact slicePart_int h
theorem QK {sl:Addr} {vl vu:Value} {lo hi:Option Int} {n:Nat} {Q:Int×Int×Nat->Shared->Prop} (hs:s.heap.IsSliceOf sl vl vu .none) (pl:IsPart vl lo) (pu:IsPart vu hi)
  (h:Q (((bB n 0 lo:Nat):Int),1,bB n n hi - bB n 0 lo) s):wpAny (model prog w) A (Builtin.Slice.sliceApplied (.ref sl) (pure (n:Int))) Q E s:=by
 obtain ⟨os,hos,hcs,hds⟩:=id hs
 unfold Builtin.Slice.sliceApplied Builtin.Slice.sliceFields
 refine apg (apg (ac1 hos hds (x:=vl) rfl (apg (ac1 hos hds (x:=vu) rfl (apg (ac1 hos hds (x:=.none) rfl (a5a ?_)))))))
 refine apg (slicePart_none ?_)
 show wpAny _ _ (if ((1:Int) == 0)=true then _ else _) _ _ s
 rw [aM3 (by decide)]
 refine apg (Qz pl (apg (Qz pu (apg (a5a ?_)))))
 show wpAny _ _ (match Builtin.Slice.sliceAdjust lo hi 1 (n:Int) with | (lo,hi)=>pure (lo,(1:Int),Builtin.Slice.slicePlaces lo hi 1)) _ _ s
 rw [Y7 lo hi n]
 show wpAny _ _ (pure (((bB n 0 lo:Nat):Int),(1:Int),Builtin.Slice.slicePlaces ((bB n 0 lo:Nat):Int) ((bB n n hi:Nat):Int) 1)) _ _ s
 rw [ZkA]
 exact a5a h
theorem XT (xs:Array Value) (i k:Nat):((List.range k).filterMap λ(m:Nat)=>xs[((i:Int)+(m:Int) * 1).toNat]?).toArray=((xs.toList.drop i).take k).toArray:=by
 have e:(λ(m:Nat)=>xs[((i:Int)+(m:Int) * 1).toNat]?)=λm=>xs[i+m]?:=by
  funext m
  have:((i:Int)+(m:Int) * 1).toNat=i+m:=by lia
  rw [this]
 rw [e]
 have:=pick_run xs i k
 rw [List.filterMap_map] at this
 have e2:((λx=>xs[x]?) ∘ λx=>i+x)=λm=>xs[i+m]?:=rfl
 rw [e2] at this
 rw [this]
theorem iu {t sl:Addr} {items:Array Value} {vl vu:Value} {lo hi:Option Int} {Q:Value->Shared->Prop} (ht:IsTup s.heap t items) (hs:s.heap.IsSliceOf sl vl vu .none) (pl:IsPart vl lo) (pu:IsPart vu hi)
  (hw:¬ (bB items.size 0 lo=0/\bB items.size items.size hi=items.size))
  (h:Q (.ref s.heap.objs.size) { s with heap:=s.heap.push { cls:=.type "tuple",data:=.seq ((items.toList.drop (bB items.size 0 lo)).take (bB items.size items.size hi - bB items.size 0 lo)).toArray } })
  (hsz:items.size<=sizeLine):wpAny (model prog w) A (getItem (.ref t) (.ref sl)) Q E s:=by
 have ow:sizeOk (.seq ((items.toList.drop (bB items.size 0 lo)).take (bB items.size items.size hi - bB items.size 0 lo)).toArray):=by
  show ((items.toList.drop (bB items.size 0 lo)).take (bB items.size items.size hi - bB items.size 0 lo)).toArray.size<=sizeLine
  rw [am7,aIq,abS,aYJ]
  lia
 have hj:bB items.size items.size hi<=items.size:=WR _ _ (aEt _) hi
 obtain ⟨os,hos,hcs,hds⟩:=id hs
 have Hl:s.TypeIs (.ref sl) "slice" := ⟨os,hos,hcs⟩
 unfold getItem
 try with_reducible refine a9s ?_
 first | refine apg (a5a ?_) | skip
 refine apg (wpAny_sequenceKey ht.typeIs (by decide) ?_)
 refine apg (a6m (name:=Str.ofString "__getitem__") ht.typeIs af9
  (baF af9 ht.typeIs entry_tuple_getitem ?_ (args_tuple_getitem _ _)))
 show wpAny _ _ (Builtin.Tuple.tupleItemsOf (.ref t) >>= _) _ _ s
 refine apg (tupleItemsOf_ ht ?_)
 refine apg (wpAny_typeOf Hl ?_)
 rw [abw (by decide)]
 refine apg (QK hs pl pu ?_)
 have hno:¬ ((((bB items.size 0 lo:Nat):Int) == 0 && (1:Int) == 1 && (bB items.size items.size hi - bB items.size 0 lo) == items.size)=true):=by
  intro q
  rw [apN,apN] at q
  have q1:((bB items.size 0 lo:Nat):Int)=0:=eq_of_beq q.1.1
  have q2:bB items.size items.size hi - bB items.size 0 lo=items.size:=eq_of_beq q.2
  exact hw ⟨by lia,by lia⟩
 show wpAny _ _ (if (((bB items.size 0 lo:Nat):Int) == 0 && (1:Int) == 1 && (bB items.size items.size hi - bB items.size 0 lo) == items.size)=true then _ else _) _ _ s
 rw [aM3 hno,XT]
 first
  | exact apg (m:=Builtin.Tuple.tupleExact _) (aB2 (a5a ⟨_,rfl,a5a h⟩) ow)
  | exact apg (m:=Builtin.Tuple.tupleExact _) (aB2 (apg (a5a (a5a ⟨_,rfl,a5a h⟩))) ow)
  | exact apg (apg (m:=Builtin.Tuple.tupleExact _) (aB2 (a5a (a5a ⟨_,rfl,a5a h⟩)) ow))
  | exact apg (apg (m:=Builtin.Tuple.tupleExact _) (aB2 (a5a ⟨_,rfl,a5a h⟩) ow))
end
end HT
namespace L2
open PySem PySem.Spec PyProof.Rows
abbrev TO:=St->Hp->(Option Int->Hp->Prop)->Prop
def PO (X:Cx) (e:Option Expr) (t:TO):Prop :=
 ∀ (pins:List (Addr×Obj)) (s:Shared) (σ:St) (H:Hp) (Q:Option Int->Hp->Prop),Inv X pins σ H s->t σ H Q ->
  wpAny (model X.prog X.w) X.A (evalPart e X.env) (λu s'=>∃ o H',Inv X pins σ H' s'/\IsPart u o/\Q o H') X.xe s
def Xk:TO:=λ_ H Q=>Q none H
def yL (t:TE):TO:=λσ H Q=>t σ H λx H1=>∃ i,x=.int i/\Q (some i) H1
theorem Kc {ns:List Int}:∀ {us:List Value},Vals (ns.map V.int) us->IntsAre us ns:=by
 induction ns with
 | nil=>intro us r; rw [map_nil] at r; cases r; exact .nil
 | cons n ns ih =>
  intro us r
  rw [aDD] at r
  cases r with
  | cons r1 r2 =>
   obtain ⟨t,e⟩:=r1
   subst e
   exact .cons n t (ih r2)
section
variable {X:Cx} {e:Expr} {te:TE} {lo hi:Option Expr} {tl th:TO} {pos p2:Pos}
theorem yt:PO X none Xk:=by
 intro pins s σ H Q I h
 rw [evalPart_none]
 exact a5a ⟨none,H,I,.none,h⟩
theorem uP (h:PE X e te):PO X (some e) (yL te):=by
 intro pins s σ H Q I hw
 rw [evalPart_some]
 refine gc (h pins s σ H _ I hw) λu s1 x H1 I1 r1 q1=>?_
 obtain ⟨i,rfl,q⟩:=q1
 obtain ⟨t,rfl⟩:=r1
 exact ⟨some i,H1,I1,.int i t,q⟩
def BK (X:Cx) (r:V->Option Int->Option Int->Hp->VK->Prop):Prop :=
 ∀ (pins:List (Addr×Obj)) (s:Shared) (σ:St) (H:Hp) (x:V) (v vl vu:Value) (lo hi:Option Int) (sl:Addr) (Q:VK),Inv X pins σ H s->RelV x v->s.heap.IsSliceOf sl vl vu .none->IsPart vl lo->IsPart vu hi->r x lo hi H Q ->
  ∃ T id,typeLookup (.type T) "__getitem__" = pure (some (.builtin id))/\s.TypeIs v T/\wpAny (model X.prog X.w) X.A (getItem v (.ref sl)) (EP X pins σ Q) X.xe s
def Su (r:V->Option Int->Option Int->Hp->VK->Prop) (te:TE) (tl th:TO):TE:=λσ H Q=>te σ H λx H1=>tl σ H1 λl H2=>th σ H2 λu H3=>r x l u H3 Q
theorem wI {r:V->Option Int->Option Int->Hp->VK->Prop} (hr:BK X r) (he:PE X e te) (hl:PO X lo tl) (hu:PO X hi th):PE X (.Subscript e (.Slice lo hi none p2) pos) (Su r te tl th):=by
 intro pins s σ H Q I h
 refine Subscript_ (gc (he pins s σ H _ I h) λv s1 x H1 I1 r1 q1=>?_)
 refine wpAny_Slice (bY (hl pins s1 σ H1 _ I1 q1) λvl s2 ⟨l,H2,I2,pl,q2⟩=>bY (hu pins s2 σ H2 _ I2 q2) λvu s3 ⟨u,H3,I3,pu,q3⟩=>?_)
 rw [evalPart_none]
 refine a5a ?_
 have I4:Inv X pins σ H3 { s3 with heap:=s3.heap.push { cls:=.type "slice",data:=.fields #[vl,vu,.none] } }:=I3.kept (t':=s3.toks) λb ob q=>aXX _ q
 obtain ⟨T,id,hT,ht,hg⟩:=hr pins { s3 with heap:=s3.heap.push { cls:=.type "slice",data:=.fields #[vl,vu,.none] } } σ H3 x v vl vu l u s3.heap.objs.size Q I4 r1 (Heap.IsSliceOf.new ..) pl pu q3
 show wpAny (model X.prog X.w) X.A (subscriptTail e (.Slice lo hi none p2) v (.ref s3.heap.objs.size)) (EP X pins σ Q) X.xe { s3 with heap:=s3.heap.push { cls:=.type "slice",data:=.fields #[vl,vu,.none] } }
 exact tail_any (ops:=[.ref s3.heap.objs.size,v]) ht hT hg (by with_unfolding_all rfl)
def dP (xs:List V) (lo hi:Option Int):List V:=(xs.drop (HT.bB xs.length 0 lo)).take (HT.bB xs.length xs.length hi - HT.bB xs.length 0 lo)
theorem QF (xs:List V) (lo hi:Option Int):(dP xs lo hi).length<=xs.length:=by
 unfold dP
 rw [aIq,abS]
 lia
def FI (K:W.Frag):V->Option Int->Option Int->Hp->VK->Prop:=λx lo hi H Q=>∃ a xs,x=.ref a/\aK K H a xs /\
 ¬ (HT.bB xs.length 0 lo=0/\HT.bB xs.length xs.length hi=xs.length)/\∀ p,H p=none->Q (.ref p) (upd H p (.tup (dP xs lo hi)))
theorem WQ:BK X (FI X.K):=by
 intro pins s σ H x v vl vu lo hi sl Q I rx hs pl pu h
 obtain ⟨a,xs,rfl,hx,hw,q⟩:=h
 cases rx
 obtain ⟨its,r,ht,hz⟩:=I.tuple hx
 have hlen:its.toArray.size=xs.length:=by rw [am7]; exact r.length.symm
 refine ⟨"tuple",_,af9.lookup,ht.typeIs,?_⟩
 refine HT.iu ht hs pl pu (by rw [hlen]; exact hw) ?_ (by rw [hlen]; exact hz)
 rw [hlen]
 refine ⟨.ref s.heap.objs.size,_,I.laid (t':=s.toks) (o:=.tup (dP xs lo hi)) (λb ob q=>aXX _ q) (aEt _) ?_,rfl,q _ (I.hok.fresh (aEt _))⟩
 exact ⟨a28 (QF xs lo hi) hz,_,(r.drop (HT.bB xs.length 0 lo)).take (HT.bB xs.length xs.length hi - HT.bB xs.length 0 lo),IsTup.new _ _⟩
def zo (K:W.Frag):R2:=λx y H Q=>∃ a b xs ys,x=.ref a/\y=.ref b/\aK K H a xs/\aK K H b ys/\xs≠[]/\xs.length+ys.length<=sizeLine /\
 (ys=[]->Q (.ref a) H)/\(ys≠[]->∀ p,H p=none->Q (.ref p) (upd H p (.tup (xs++ys))))
theorem Vals.kD {xs:List V} {us:List Value} (r:Vals xs us):us=[]↔xs=[]:=by
 cases r with
 | nil=>simp
 | cons _ _=>simp
theorem Xj:gV X (binaryOp .Add) (zo X.K):=by
 intro pins s σ H x y v u Q I rx ry h
 obtain ⟨a,b,xs,ys,rfl,rfl,ha,hb,hx,hz,q1,q2⟩:=h
 cases rx
 cases ry
 obtain ⟨its,r1,p1,_⟩:=I.tuple ha
 obtain ⟨its2,r2,p2,_⟩:=I.tuple hb
 refine HT.sP p1 p2 (λz=>hx (r1.kD.mp z)) (λz=>⟨.ref a,H,I,rfl,q1 (r2.kD.mp z)⟩) (λz=>?_) (by rw [← r1.length,← r2.length]; exact hz)
 refine ⟨.ref s.heap.objs.size,_,I.laid (t':=s.toks) (o:=.tup (xs++ys)) (λb ob q=>aXX _ q) (aEt _) ?_,rfl,q2 (λw=>z (r2.kD.mpr w)) _ (I.hok.fresh (aEt _))⟩
 exact ⟨by rw [aCv]; exact hz,_,r1.append r2,IsTup.new _ _⟩
end
def pM (n:Nat) (i:Int):Option Nat:=if 0<=i then (if i<n then some i.toNat else none) else if -(n:Int)<=i then some (i+n).toNat else none
def fS {α:Type} (xs:List α) (i:Int):Option α:=(pM xs.length i).bind λj=>xs[j]?
theorem Ov {n:Nat} {i:Int} {j:Nat} (h:pM n i=some j):seqIndex? i n=some j/\j<n /\ -(n:Int)<=i/\i<n:=by
 unfold pM at h
 by_cases h0:0<=i
 .rw [abw h0] at h
  by_cases h1:i<n
  .rw [abw h1] at h
   have e:i.toNat=j:=avM h
   exact ⟨by rw [seqIndex_of h0 h1,e],by lia,by lia,h1⟩
  .rw [aM3 h1] at h; cases h
 .rw [aM3 h0] at h
  by_cases h1 : -(n:Int)<=i
  .rw [abw h1] at h
   have e:(i+n).toNat=j:=avM h
   exact ⟨by rw [seqIndex_neg (by lia) h1,e],by lia,h1,by lia⟩
  .rw [aM3 h1] at h; cases h
theorem Ou {α:Type} {xs:List α} {i:Int} {v:α} (h:fS xs i=some v):∃ j,seqIndex? i xs.length=some j/\xs[j]?=some v/\j<xs.length /\ -(xs.length:Int)<=i/\i<xs.length:=by
 unfold fS at h
 cases e:pM xs.length i with
 | none=>rw [e] at h; cases h
 | some j =>
  rw [e] at h
  obtain ⟨h1,h2,h3,h4⟩:=Ov e
  exact ⟨j,h1,h,h2,h3,h4⟩
theorem rN {α:Type} {xs:List α} {j:Nat} {v:α} (h:xs[j]?=some v):fS xs (j:Int)=some v:=by
 have hj:j<xs.length:=(a2U.mp h).1
 have e:pM xs.length (j:Int)=some j:=by
  unfold pM
  rw [abw (by lia),abw (by lia)]; simp
 unfold fS; rw [e]; exact h
def Xi (b:Expr):Prop:=∀ o i,subscripted b false o i=operate [o,i] (getItem o i)
def BS (X:Cx) (r:R2):Prop :=
 ∀ (value slice:Expr) (pins:List (Addr×Obj)) (s:Shared) (σ:St) (H:Hp) (x y:V) (v u:Value) (Q:VK),Inv X pins σ H s->RelV x v->RelV y u->r x y H Q ->
  subscripted slice false v u=operate [v,u] (getItem v u)->wpAny (model X.prog X.w) X.A (subscriptTail value slice v u) (EP X pins σ Q) X.xe s
def MtR (X:Cx) (id:String) (r:V->List V->Hp->VK->Prop):Prop :=
 ∀ (pins:List (Addr×Obj)) (s:Shared) (σ:St) (H:Hp) (x:V) (xs:List V) (v:Value) (us:List Value) (Q:VK),Inv X pins σ H s->RelV x v->Vals xs us->r x xs H Q ->
  wpAny (model X.prog X.w) X.A (call (.builtin id) (v :: us)) (EP X pins σ Q) X.xe s
section
variable {X:Cx} {a b:Expr} {ta tb:TE} {pos:Pos}
theorem ao {r:R2} (hr:BS X r) (ha:PE X a ta) (hb:PE X b tb) (hs:Xi b):PE X (.Subscript a b pos) (Cs r ta tb):=by
 intro pins s σ H Q I h
 exact Subscript_ (wj ha hb I h λv u s2 x y H2 I2 rx ry q=>hr a b pins s2 σ H2 x y v u Q I2 rx ry q (hs _ _))
def zk (K:W.Frag):R2:=λx y H Q=>∃ p xs i v,x=.ref p/\y=.int i/\aB K H p xs/\fS xs i=some v/\Q v H
def zj (K:W.Frag):R2:=λx y H Q=>∃ p xs i v,x=.ref p/\y=.int i/\aK K H p xs/\fS xs i=some v/\Q v H
theorem Xh:BS X (zk X.K):=by
 intro value slice pins s σ H x y v u Q I rx ry h hs
 obtain ⟨p,xs,i,z,rfl,rfl,hq,he,q⟩:=h
 cases rx
 obtain ⟨t,rfl⟩:=ry
 obtain ⟨its,r,pl,hz⟩:=I.list hq
 obtain ⟨j,h1,h2,h3,h4,h5⟩:=Ou he
 obtain ⟨w,ew,rw'⟩:=r.get h2
 have hl:=r.length
 have hn:=Dl
 have fin:EP X pins σ Q w s:=⟨z,H,I,rw',q⟩
 by_cases h0:0<=i
 .have hj:i.toNat=j:=by
   rw [seqIndex_of h0 h5] at h1
   exact avM h1
  exact item_listR pl.isList h0 (by lia) (by rw [hj]; simpa using ew) fin hs
 .have hj:(i+(its.toArray.size:Int)).toNat=j:=by
   rw [seqIndex_neg (by lia) h4] at h1
   rw [am7,← hl]
   exact avM h1
  exact subscriptTail_builtinR (x:=w) pl.isList.typeIs slot_list_getitem.lookup
   (wpAny_getItem_list_neg (Q:=λr s'=>r=w/\EP X pins σ Q r s') pl.isList (by lia) (by rw [am7] <;> lia) (by lia) (by rw [hj]; simpa using ew) ⟨rfl,fin⟩) hs
theorem WO:BS X (zj X.K):=by
 intro value slice pins s σ H x y v u Q I rx ry h hs
 obtain ⟨p,xs,i,z,rfl,rfl,hq,he,q⟩:=h
 cases rx
 obtain ⟨t,rfl⟩:=ry
 obtain ⟨its,r,pl,hz⟩:=I.tuple hq
 obtain ⟨j,h1,h2,h3,h4,h5⟩:=Ou he
 obtain ⟨w,ew,rw'⟩:=r.get h2
 have hl:=r.length
 have hn:=Dl
 have fin:EP X pins σ Q w s:=⟨z,H,I,rw',q⟩
 exact subscriptTail_builtinR (x:=w) pl.typeIs slot_tuple_getitem.lookup
  (getItem_tuple (j:=j) (Q:=λr s'=>r=w/\EP X pins σ Q r s') pl (by lia) (by lia) (by rw [am7,← hl]; exact h1) (by simpa using ew) ⟨rfl,fin⟩) hs
theorem ZkB (its:List Value) (n j:Nat) (u:Value):Obj.mapSeq (·.setIfInBounds j u) { cls:=.type "list",data:=.seq its.toArray n }={ cls:=.type "list",data:=.seq (its.set j u).toArray n }:=by
 simp [Obj.mapSeq]
theorem Inv.lst {pins:List (Addr×Obj)} {σ:St} {H:Hp} {s:Shared} {p:Addr} {xs:List V} (I:Inv X pins σ H s) (h:H p=some (.lst xs)) :
  ∃ (its:List Value) (n:Nat),Vals xs its/\s.heap.get? p=some { cls:=.type "list",data:=.seq its.toArray n }/\xs.length<=sizeLine:=by
 obtain ⟨z,its,n,r,e⟩:=I.hok p _ h
 exact ⟨its,n,r,e,z⟩
theorem Inv.vC {pins:List (Addr×Obj)} {σ:St} {H:Hp} {s:Shared} {p:Addr} {xs ys:List V} {its its':List Value} {n n':Nat} {f:Obj->Obj} (I:Inv X pins σ H s) (h:H p=some (.lst xs))
  (ho:s.heap.get? p=some { cls:=.type "list",data:=.seq its.toArray n }) (hf:f { cls:=.type "list",data:=.seq its.toArray n }={ cls:=.type "list",data:=.seq its'.toArray n' }) (r:Vals ys its') (hz:ys.length<=sizeLine) (t:Nat) :
  Inv X pins σ (upd H p (.lst ys)) { s with heap:=s.heap.update p f,toks:=t }:=by
 have e:(s.heap.update p f).get? p=some { cls:=.type "list",data:=.seq its'.toArray n' }:=by
  rw [Heap.get?_update_self f ho (by rw [hf] <;> rfl),hf]
 refine I.write (x:=p) (e:=p) (by rw [h]; trivial) (.inl rfl) (λb u hb q=>(Heap.get?_update_other _ _ (a4v hb)).trans q) ⟨_,e⟩ ?_
 exact ⟨hz,its',n',r,e⟩
def zh:V->V->V->Hp->(Hp->Prop)->Prop:=λo i v H Q=>∃ p xs k j,o=.ref p/\i=.int k/\H p=some (.lst xs)/\pM xs.length k=some j/\Q (upd H p (.lst (xs.set j v)))
theorem wH:BO X zh:=by
 intro pins s σ H o i v ov iv u Q I ro ri rv h
 obtain ⟨p,xs,k,j,rfl,rfl,hp,hj,q⟩:=h
 cases ro
 obtain ⟨t,rfl⟩:=ri
 obtain ⟨its,n,r,ho,hz⟩:=I.lst hp
 obtain ⟨h1,h2,h3,h4⟩:=Ov hj
 have hl:=r.length
 have hn:=Dl
 have I':Inv X pins σ (upd H p (.lst (xs.set j v))) { s with heap:=s.heap.update p (Obj.mapSeq (·.setIfInBounds j u)) } :=
  I.vC hp ho (ZkB its n j u) (r.set rv j) (by rw [akC]; exact hz) s.toks
 by_cases h0:0<=k
 .have hk:k.toNat=j:=by
   rw [seqIndex_of h0 h4] at h1
   exact avM h1
  exact W.ki_setAt ho h0 (by lia) (by rw [am7,← hl]; exact h4) (by rw [hk]; exact ⟨_,I',q⟩)
 .have hk:(k+(its.toArray.size:Int)).toNat=j:=by
   rw [seqIndex_neg (by lia) h3] at h1
   rw [am7,← hl]
   exact avM h1
  exact W.ki_setBack ho (by lia) (by rw [am7,← hl]; exact h3) (by lia) (by rw [hk]; exact ⟨_,I',q⟩)
theorem Zhg (lo hi:Option Int) (n:Nat):(sliceBounds lo hi none n).1=((HT.bB n 0 lo:Nat):Int)/\(sliceBounds lo hi none n).2.1=((HT.bB n n hi:Nat):Int)/\(sliceBounds lo hi none n).2.2=1:=by
 refine ⟨?_,?_,rfl⟩
 .cases lo with
  | none=>simp [sliceBounds,HT.bB]
  | some i =>
   simp only [sliceBounds,HT.bB,Option.getD_none,show (1:Int) > 0 by decide,aOV]
   by_cases h:i<0
   .simp only [h,aOV] <;> lia
   .simp only [h,at1] <;> lia
 .cases hi with
  | none=>simp [sliceBounds,HT.bB]
  | some i =>
   simp only [sliceBounds,HT.bB,Option.getD_none,show (1:Int) > 0 by decide,aOV]
   by_cases h:i<0
   .simp only [h,aOV] <;> lia
   .simp only [h,at1] <;> lia
theorem Zgd (its:List Value) (lo hi:Option Int):slicePick its.toArray lo hi none=((its.drop (HT.bB its.length 0 lo)).take (HT.bB its.length its.length hi - HT.bB its.length 0 lo)).toArray:=by
 obtain ⟨h1,h2,h3⟩:=Zhg lo hi its.toArray.size
 unfold slicePick
 rw [h1,h2,h3]
 simp only [sliceRange_one,pick_run,am7] <;> rfl
def zg (K:W.Frag):V->Option Int->Option Int->Hp->VK->Prop:=λx lo hi H Q=>∃ a xs,x=.ref a/\aB K H a xs/\∀ p,H p=none->Q (.ref p) (upd H p (.lst (dP xs lo hi)))
theorem Xg:BK X (zg X.K):=by
 intro pins s σ H x v vl vu lo hi sl Q I rx hs pl pu h
 obtain ⟨a,xs,rfl,hx,q⟩:=h
 cases rx
 obtain ⟨its,r,ht,hz⟩:=I.list hx
 have hlen:=r.length
 refine ⟨"list",_,slot_list_getitem.lookup,ht.isList.typeIs,?_⟩
 refine wpAny_getItem_list_slice ht.isList hs pl pu .none (by simp) ?_ (by rw [am7] <;> lia)
 rw [Zgd,← hlen]
 refine ⟨.ref s.heap.objs.size,_,I.laid (t':=s.toks) (o:=.lst (dP xs lo hi)) (λb ob q=>aXX _ q) (aEt _) ?_,rfl,q _ (I.hok.fresh (aEt _))⟩
 exact ⟨a28 (QF xs lo hi) hz,_,0,(r.drop (HT.bB xs.length 0 lo)).take (HT.bB xs.length xs.length hi - HT.bB xs.length 0 lo),aYI _ rfl⟩
def cA:V->Bool
 | .aT=>true
 | .bl _=>true
 | .int _=>true
 | .str _=>true
 | _=>false
def oZ:V->V->Bool
 | .aT,.aT=>true
 | .bl a,.bl b=>a == b
 | .bl a,.int b=>(if a then 1 else 0) == b
 | .int a,.bl b=>a == (if b then 1 else 0)
 | .int a,.int b=>a == b
 | .str a,.str b=>a == b
 | _,_=>false
theorem Ic {A:Around} {s:Shared} {y x:V} {u v:Value} (ry:RelV y u) (rx:RelV x v) (fy:cA y=true) (fx:cA x=true):SeqAt.EqAt A s u v (oZ y x):=by
 cases y with
 | aT =>
  cases ry
  cases x with
  | aT=>cases rx; exact SeqAt.EqAt.same _
  | bl b=>cases rx; exact SeqAt.EqAt.none_bool b
  | int b=>obtain ⟨t,rfl⟩:=rx; exact SeqAt.EqAt.none_int b t
  | str b=>obtain ⟨t,rfl⟩:=rx; exact SeqAt.EqAt.none_str b t
  | _=>exact absurd (show false=true from fx) aBC
 | bl a =>
  cases ry
  cases x with
  | aT=>cases rx; exact SeqAt.EqAt.bool_none a
  | bl b=>cases rx; exact SeqAt.EqAt.bool_bool a b
  | int b=>obtain ⟨t,rfl⟩:=rx; exact SeqAt.EqAt.bool_int a b t
  | str b=>obtain ⟨t,rfl⟩:=rx; exact SeqAt.EqAt.bool_str a b t
  | _=>exact absurd (show false=true from fx) aBC
 | int a =>
  obtain ⟨t',rfl⟩:=ry
  cases x with
  | aT=>cases rx; exact SeqAt.EqAt.int_none a t'
  | bl b=>cases rx; exact SeqAt.EqAt.int_bool a t' b
  | int b=>obtain ⟨t,rfl⟩:=rx; exact SeqAt.EqAt.int_int a t' b t
  | str b=>obtain ⟨t,rfl⟩:=rx; exact SeqAt.EqAt.int_str a t' b t
  | _=>exact absurd (show false=true from fx) aBC
 | str a =>
  obtain ⟨t',rfl⟩:=ry
  cases x with
  | aT=>cases rx; exact SeqAt.EqAt.str_none a t'
  | bl b=>cases rx; exact SeqAt.EqAt.str_bool a t' b
  | int b=>obtain ⟨t,rfl⟩:=rx; exact SeqAt.EqAt.str_int a t' b t
  | str b=>obtain ⟨t,rfl⟩:=rx; exact SeqAt.EqAt.str_str a t' b t
  | _=>exact absurd (show false=true from fx) aBC
 | _=>exact absurd (show false=true from fy) aBC
def nj (x:V) (u:Value):Bool:=match u with
 | .none=>oZ .aT x
 | .bool b=>oZ (.bl b) x
 | .int i _=>oZ (.int i) x
 | .str z _=>oZ (.str z) x
 | _=>false
theorem NT {x y:V} {u:Value} (r:RelV y u) (f:cA y=true):nj x u=oZ y x:=by
 cases y with
 | aT=>cases r; rfl
 | bl b=>cases r; rfl
 | int i=>obtain ⟨t,rfl⟩:=r; rfl
 | str z=>obtain ⟨t,rfl⟩:=r; rfl
 | _=>exact absurd (show false=true from f) aBC
theorem Bc {x:V}:∀ {xs:List V} {us:List Value},Vals xs us->xs.all cA=true->us.any (nj x)=xs.any λy=>oZ y x
 | _,_,.nil,_=>rfl
 | y :: xs,u :: us,.cons r t,f=>by
  rw [all_cons,apN] at f
  rw [any_cons,any_cons,NT r f.1,Bc t f.2]
theorem Bj {A:Around} {s:Shared} {x:V} {v:Value} (rx:RelV x v) (fx:cA x=true):∀ {xs:List V} {us:List Value},Vals xs us->xs.all cA=true->∀ u∈us,SeqAt.EqAt A s u v (nj x u)
 | _,_,.nil,_=>λu hu=>by cases hu
 | y :: xs,u :: us,.cons r t,f=>λu' hu=>by
  rw [all_cons,apN] at f
  rcases aHJ.mp hu with rfl | hu
  .rw [NT r f.1]; exact Ic r rx f.1 fx
  .exact Bj rx fx t f.2 u' hu
def vI (x:V) (xs:List V):Bool:=xs.any λy=>oZ y x
def Cy (K:W.Frag) (neg:Bool):R2:=λx y H Q=>∃ p xs,y=.ref p/\(aB K H p xs\/aK K H p xs)/\cA x=true/\xs.all cA=true/\Q (.bl (if neg then !vI x xs else vI x xs)) H
theorem YK:gV X (compareOp .In) (Cy X.K false):=by
 intro pins s σ H x y v u Q I rx ry h
 obtain ⟨p,xs,rfl,hq,fx,fs,q⟩:=h
 cases ry
 rcases hq with hq | hq
 .obtain ⟨its,r,pl,hz⟩:=I.list hq
  refine SeqAt.in_listAt (nj x) pl.isList (λw hw=>Bj rx fx r fs w (by simpa using hw)) ⟨.bl _,H,I,rfl,?_⟩
  rw [show its.toArray.any (nj x)=its.any (nj x) by simp,Bc r fs]
  exact q
 .obtain ⟨its,r,pl,hz⟩:=I.tuple hq
  refine SeqAt.in_tupleAt (nj x) pl (λw hw=>Bj rx fx r fs w (by simpa using hw)) ⟨.bl _,H,I,rfl,?_⟩
  rw [show its.toArray.any (nj x)=its.any (nj x) by simp,Bc r fs]
  exact q
theorem Zhh:gV X (compareOp .NotIn) (Cy X.K true):=by
 intro pins s σ H x y v u Q I rx ry h
 obtain ⟨p,xs,rfl,hq,fx,fs,q⟩:=h
 cases ry
 rcases hq with hq | hq
 .obtain ⟨its,r,pl,hz⟩:=I.list hq
  refine SeqAt.notIn_listAt (nj x) pl.isList (λw hw=>Bj rx fx r fs w (by simpa using hw)) ⟨.bl _,H,I,rfl,?_⟩
  rw [show its.toArray.any (nj x)=its.any (nj x) by simp,Bc r fs]
  exact q
 .obtain ⟨its,r,pl,hz⟩:=I.tuple hq
  refine SeqAt.notIn_tupleAt (nj x) pl (λw hw=>Bj rx fx r fs w (by simpa using hw)) ⟨.bl _,H,I,rfl,?_⟩
  rw [show its.toArray.any (nj x)=its.any (nj x) by simp,Bc r fs]
  exact q
theorem Zhi:bH X (.builtin "len") (λxs H Q=>∃ p ys,xs=[.ref p]/\(aB X.K H p ys\/aK X.K H p ys)/\Q (.int ys.length) H):=by
 intro pins s σ H xs us Q I r h
 obtain ⟨p,ys,rfl,hq,q⟩:=h
 obtain ⟨u,rfl,rx⟩:=vals1 r
 cases rx
 have hn:=Dl
 rcases hq with hq | hq
 .obtain ⟨its,r',pl,hz⟩:=I.list hq
  have hlen:=r'.length
  exact Calls.call_len_list pl.isList (by simp only [am7] <;> lia) ⟨.int ys.length,H,I.tok _,⟨s.toks+1,by rw [am7,hlen]⟩,q⟩
 .obtain ⟨its,r',pl,hz⟩:=I.tuple hq
  have hlen:=r'.length
  exact len_tuple pl (by simp only [am7] <;> lia) ⟨.int ys.length,H,I.tok _,⟨s.toks+1,by rw [am7,hlen]⟩,q⟩
theorem Zhj:bH X (.type "list") (λxs H Q=>∃ p ys,xs=[.ref p]/\(aB X.K H p ys\/aK X.K H p ys)/\∀ l,H l=none->Q (.ref l) (upd H l (.lst ys))):=by
 intro pins s σ H xs us Q I r h
 obtain ⟨p,ys,rfl,hq,q⟩:=h
 obtain ⟨u,rfl,rx⟩:=vals1 r
 cases rx
 have fin:∀ (its:List Value),Vals ys its->ys.length<=sizeLine->∀ (h':Heap) (c':Nat),(∀ b o',s.heap.get? b=some o'->h'.get? b=some o') ->
   h'.get? s.heap.objs.size=some { cls:=.type "list",dict:=none,data:=.seq its.toArray c',slots:=#[] }->EP X pins σ Q (.ref s.heap.objs.size) { s with heap:=h' }:=λits r' hz h' c' kp e =>
  ⟨.ref s.heap.objs.size,_,I.laid (t':=s.toks) kp (aEt _) (show aJ X.prog X.w _ h' _ (.lst ys) from ⟨hz,its,c',r',e⟩),rfl,q _ (I.hok.fresh (aEt _))⟩
 rcases hq with hq | hq
 .obtain ⟨its,r',pl,hz⟩:=I.list hq
  have hlen:=r'.length
  obtain ⟨o,ho,hc,n,hd⟩:=pl.isList
  exact call_list_seq p (.inl rfl) ho hc hd (λh' c' kp e=>fin its r' hz h' c' kp e) (by simp only [am7] <;> lia)
 .obtain ⟨its,r',pl,hz⟩:=I.tuple hq
  have hlen:=r'.length
  obtain ⟨o,ho,hc,n,hd⟩:=pl
  exact call_list_seq p (.inr rfl) ho hc hd (λh' c' kp e=>fin its r' hz h' c' kp e) (by simp only [am7] <;> lia)
theorem Zge:bH X (.type "tuple") (λxs H Q=>∃ p ys,xs=[.ref p]/\((aB X.K H p ys/\∀ l,H l=none->Q (.ref l) (upd H l (.tup ys)))\/(aK X.K H p ys/\Q (.ref p) H))):=by
 intro pins s σ H xs us Q I r h
 obtain ⟨p,ys,rfl,h⟩:=h
 obtain ⟨u,rfl,rx⟩:=vals1 r
 cases rx
 rcases h with ⟨hq,q⟩ | ⟨hq,q⟩
 .obtain ⟨its,r',pl,hz⟩:=I.list hq
  have hlen:=r'.length
  refine call_tuple_list pl.isList (λh' kp=>?_) (by simp only [am7] <;> lia)
  have I1:Inv X pins σ H { s with heap:=h' }:=I.kept (t':=s.toks) kp
  have I2:Inv X pins σ (upd H h'.objs.size (.tup ys)) { s with heap:=h'.push { cls:=.type "tuple",data:=.seq its.toArray } } :=
   I1.laid (t':=s.toks) (λb o e=>aXX _ e) (aEt _) (show aJ X.prog X.w _ _ _ (.tup ys) from ⟨hz,its,r',IsTup.new _ _⟩)
  exact ⟨.ref h'.objs.size,_,I2,rfl,q _ (I1.hok.fresh (aEt _))⟩
 .obtain ⟨its,r',pl,hz⟩:=I.tuple hq
  exact call_tuple_same pl ⟨.ref p,H,I,rfl,q⟩
def LF (K:W.Frag) (T:String) (x:V) (H:Hp):Prop:=match x with
 | .str _=>T = "str"
 | .int _=>T = "int"
 | .ref p=>(T = "list" /\ ∃ xs,aB K H p xs)\/(T = "tuple" /\ ∃ o,K.lookup p=some o/\o.cls=.type "tuple" /\ o.dict=none) \/
   (T = "dict" /\ ((∃ kvs,H p=some (.dK kvs))\/∃ kvs,H p=some (.dT kvs)))\/(T = "set" /\ ∃ S n,H p=some (.set S n))
 | _=>False
theorem WN {pins:List (Addr×Obj)} {σ:St} {H:Hp} {s:Shared} {T:String} {x:V} {v:Value} (I:Inv X pins σ H s) (r:RelV x v) (ty:LF X.K T x H) :
  s.TypeIs v T/\∀ a,v=.ref a->∃ ob,s.heap.get? a=some ob/\ob.dict=none:=by
 cases x with
 | str z =>
  obtain ⟨t,rfl⟩:=r
  cases (show T = "str" from ty)
  exact ⟨typeIs_str s z t,λ_ e=>nomatch e⟩
 | int i =>
  obtain ⟨t,rfl⟩:=r
  cases (show T = "int" from ty)
  exact ⟨typeIs_int s i t,λ_ e=>nomatch e⟩
 | ref p =>
  cases r
  rcases ty with ⟨rfl,xs,hq⟩ | ⟨rfl,o,hk,hc,hd⟩ | ⟨rfl,hk⟩ | ⟨rfl,S,n,hk⟩
  .obtain ⟨its,_,pl,_⟩:=I.list hq
   refine ⟨pl.isList.typeIs,λa e=>?_⟩
   cases e
   obtain ⟨o,n,e,c,hd,_⟩:=pl
   exact ⟨o,e,hd⟩
  .refine ⟨⟨o,I.d8 p o hk,hc⟩,λa e=>?_⟩
   cases e
   exact ⟨o,I.d8 _ o hk,hd⟩
  .have z:∃ o,s.heap.get? p=some o/\o.ExactDict:=by
    rcases hk with ⟨kvs,hk⟩ | ⟨kvs,hk⟩
    .obtain ⟨_,_,_,_,o,_,_,e,ex,_⟩:=I.hok p _ hk
     exact ⟨o,e,ex⟩
    .obtain ⟨_,_,_,_,o,_,_,e,ex,_⟩:=I.hok p _ hk
     exact ⟨o,e,ex⟩
   obtain ⟨o,e,ex⟩:=z
   refine ⟨⟨o,e,ex.1⟩,λa e2=>?_⟩
   cases e2
   exact ⟨o,e,ex.2.1⟩
  .obtain ⟨o,_,_,_,e,ex,_⟩:=I.hok p _ hk
   refine ⟨⟨o,e,ex.1⟩,λa e2=>?_⟩
   cases e2
   exact ⟨o,e,ex.2.1⟩
 | _=>exact False.elim ty
def Fo (K:W.Frag) (T:String) (r:V->List V->Hp->VK->Prop) (to:TE) (t:TA):TE:=λσ H Q=>to σ H λx H1=>LF K T x H1/\t σ H1 λxs H2=>r x xs H2 Q
variable {o e:Expr} {es:List Expr} {to:TE} {t:TA} {name:Str} {apos cpos:Pos} {T id:String} {r:V->List V->Hp->VK->Prop}
theorem iQ (pa:PlainAttrs T) (slot:Slot T name id) (hty:typeOf (.builtin id)=pure (.type "method_descriptor")) (hm:MtR X id r) (ho:PE X o to) (ha:PA X (e :: es) t)
  (hbase:attributeBase o name X.env (eval o X.env)=eval o X.env:=by rfl)
  (hfew:((backTo cpos (starEach (e :: es) X.env)).all (λx=>!x.1) && (backToKw cpos (keywordEach [] X.env)).all (λx=>x.1.isSome)
   && decide ((e :: es).length+([]:List Keyword).length+(if ([]:List Keyword).isEmpty then 0 else 1)<30))=true:=by rfl)
  (hline:(apos.endLine == cpos.line)=true:=by rfl) (hs:starEach (e :: es) X.env=(false,eval e X.env) :: starEach es X.env:=by rfl) (hplain:(backTo cpos (starEach es X.env)).any (·.1)=false:=by rfl) :
  PE X (.Call (.Attribute o name apos) (e :: es) [] cpos) (Fo X.K T r to t):=by
 intro pins s σ H Q I h
 refine wpAny_Call_method_late hbase hfew hline rfl (bY (ho pins s σ H _ I h) λv s1 ⟨x,H1,I1,r1,ty,q1⟩=>?_)
 obtain ⟨h1,h2⟩:=WN I1 r1 ty
 refine ⟨T,id,pa,slot,hty,h1,h2,?_⟩
 have hA:=ha cpos pins s1 σ H1 _ I1 q1
 rw [hs] at hA ⊢
 refine a1F (by show (false || (backTo cpos (starEach es X.env)).any (·.1))=false; rw [hplain] <;> rfl) (amk ?_)
 exact bY hA λus s2 ⟨vs,H2,I2,r2,q2⟩=>hm pins s2 σ H2 x vs v us Q I2 r1 r2 q2
/- xs.append(e),list.index on a module's tuple .. are MtR facts of 06m -/
end
def QN (X:Cx) (id:String) (r:V->List V->Hp->VK->Prop):Prop :=
 ∀ (pins:List (Addr×Obj)) (s:Shared) (σ:St) (H:Hp) (x:V) (xs:List V) (v:Value) (us:List Value) (Q:VK),Inv X pins σ H s->RelV x v->Vals xs us->r x xs H Q ->
  wpAny (model X.prog X.w) X.A (call (.builtin id) (v :: us)) (EP X pins σ Q) X.xe s
theorem Vals.one:∀ {x:V} {us:List Value},Vals [x] us->∃ u,us=[u]/\RelV x u
 | _,_,.cons r .nil=>⟨_,rfl,r⟩
section
variable {X:Cx} {pins:List (Addr×Obj)} {σ:St} {H:Hp} {s:Shared} {l b:Addr} {xs ys zs:List V}
theorem Inv.qw {its its':List Value} {n:Nat} {f:Array Value->Array Value} {t':Nat} (I:Inv X pins σ H s) (hH:H l=some (.lst xs))
  (e:s.heap.get? l=some { cls:=.type "list",data:=.seq its.toArray n }) (hf:f its.toArray=its'.toArray) (hv:Vals ys its') (hz:ys.length<=sizeLine) :
  Inv X pins σ (upd H l (.lst ys)) { s with heap:=s.heap.update l (Obj.mapSeq f),toks:=t' }:=by
 have q:=PySem.IsL.update e f
 rw [hf] at q
 refine I.write (x:=l) (e:=l) (by rw [hH]; exact trivial) (.inl rfl) (λb' u hb hu=>(Heap.get?_update_other s.heap (Obj.mapSeq f) (a4v hb)).trans hu) ⟨_,q⟩ ?_
 exact ⟨hz,its',_,hv,q⟩
theorem Inv.zV {its:List Value} {t':Nat} (I:Inv X pins σ H s) (hv:Vals ys its) (hz:ys.length<=sizeLine) :
  Inv X pins σ (upd H s.heap.objs.size (.lst ys)) { s with heap:=s.heap.push { cls:=.type "list",data:=.seq its.toArray },toks:=t' } :=
 I.laid (λ_ _ q=>aXX _ q) (aEt _) ⟨hz,its,0,hv,aYI _ rfl⟩
theorem Inv.fresh (I:Inv X pins σ H s):H s.heap.objs.size=none:=I.hok.fresh (aEt _)
theorem Inv.mW (I:Inv X pins σ H s) (hH:H l=some (.lst xs)):xs.length<=sizeLine/\∃ (its:List Value) (n:Nat),Vals xs its/\xs.length=its.length/\s.heap.get? l=some { cls:=.type "list",data:=.seq its.toArray n }:=by
 obtain ⟨z,its,n,r,e⟩:=I.hok l _ hH
 exact ⟨z,its,n,r,r.length,e⟩
end
section
variable {X:Cx}
def Xf:V->List V->Hp->VK->Prop:=λx vs H Q=>∃ l xs y,x=.ref l/\vs=[y]/\H l=some (.lst xs)/\xs.length<sizeLine/\Q .aT (upd H l (.lst (xs++[y])))
theorem wJ:QN X "list.append" Xf:=by
 intro pins s σ H x vs v us Q I rx rv h
 obtain ⟨l,xs,y,rfl,rfl,hH,hz,q⟩:=h
 cases rx
 obtain ⟨u,rfl,ru⟩:=rv.one
 obtain ⟨z,its,n,r,hl,e⟩:=I.mW hH
 refine call_meets F.slot_list_append ⟨_,e,rfl⟩ F.entry_list_append (F.args_list_append_2 _ _) (PySem.list_append l its.toArray n u (by rw [am7]; lia)) ⟨e,?_⟩
 refine ⟨.aT,_,I.qw (its':=its++[u]) hH e (by simp) (r.append (.cons ru .nil)) ?_,rfl,q⟩
 rw [aCv,adf]
 lia
def FO:R2:=λx y H Q=>∃ l b xs zs,x=.ref l/\y=.ref b/\H l=some (.lst xs)/\H b=some (.lst zs)/\xs.length+zs.length<=sizeLine/\∀ p,H p=none->Q (.ref p) (upd H p (.lst (xs++zs)))
theorem NR:gV X (binaryOp .Add) FO:=by
 intro pins s σ H x y v u Q I rx ry h
 obtain ⟨l,b,xs,zs,rfl,rfl,hH,hB,hz,q⟩:=h
 cases rx
 cases ry
 obtain ⟨z,its,n,r,hl,e⟩:=I.mW hH
 obtain ⟨z2,its2,n2,r2,hl2,e2⟩:=I.mW hB
 refine PySem.P.add_list e e2 ?_ (by rw [am7,am7]; lia)
 have ea:its.toArray++its2.toArray=(its++its2).toArray:=by simp
 rw [ea]
 exact ⟨.ref _,_,I.zV (t':=s.toks) (r.append r2) (by rw [aCv]; lia),rfl,q _ I.fresh⟩
end
end L2
namespace Q3
open PySem PySem.W PySem.Calls PyProof.Rows
theorem ZeW {P:Params} {h:Heap}:∀ (ns:List Int) (vs:List Value),WellAll P h vs (ns.map WData.int)->IntsAre vs ns:=by
 intro ns
 induction ns with
 | nil =>
  intro vs w
  rw [map_nil] at w
  cases w
  exact .nil
 | cons n ns ih =>
  intro vs w
  rw [aDD] at w
  cases w with
  | cons a b =>
   cases a
   exact .cons _ _ (ih _ b)
theorem YJ {l:OpenLaw} {n:Nat} (hn:l.most=some n) {P:Params} {h:Heap} {args:List WData} {vals:List Value}
  (hpre:l.row.toRowW.claim.pre args=true) (hwl:WellAll P h vals args) :
  ∃ a vs ns,vals=[Value.ref a]/\args=[WData.list (ns.map WData.int)]/\h.get? a=some { cls:=.type "list",data:=.seq vs.toArray }/\IntsAre vs ns/\ns.length<=n:=by
 have hsh:WShape.hasAll [] args [.list .int]=true:=(pre_splitW hpre).1
 have hc:l.pre.holds [] { args:=args }=true:=(pre_splitW hpre).2
 obtain ⟨d,r,rfl,h1,h2⟩:=hasAllW_cons hsh
 obtain rfl:=hasAllW_nil h2
 obtain ⟨xs,rfl,h3⟩:=hasW_list h1
 obtain ⟨ns,rfl⟩:=items_int h3
 have hlen:ns.length<=n:=by
  unfold OpenLaw.pre at hc
  have h4:(WTm.not (.lt (.lit (.int (n:Int))) (.len (.arg 0)))).holds [] { args:=[.list (ns.map .int)] }=true:=by
   have h4:=(holds_andW hc).1
   rw [hn] at h4
   exact h4
  have h5:=condW_of h4 (w_not (w_lt w_lit (w_len_list (w_arg rfl))))
  rw [aK1] at h5
  refine Nat.le_of_not_lt λq=>?_
  have q':(n:Int)<((ns.length:Nat):Int):=by lia
  first
   | (rw [aea q'] at h5; exact absurd h5 (by decide))
   | (simp at h5; lia)
 cases hwl with
 | cons w1 w2 =>
  cases w2
  cases w1 with
  | list ho hall=>exact ⟨_,_,ns,rfl,rfl,ho,ZeW ns _ hall,hlen⟩
theorem YI (l:OpenLaw) (args:List WData):l.row.toRowW.claim.post args (.bool true) args=true :=
 postW_of (r:=l.row.toRowW) (X:=(true == true))
  (show WShape.has [] (.bool true) .bool=true by first | rfl | decide | simp [WShape.has,WShape.arms,WShape.armsAll])
  (show (WTm.eq .res (.lit (.bool true))).value [] { args:=args,res:=some (.bool true),after:=args }=some (.bool (true == true)) from w_eq_bool (w_res rfl) w_lit) rfl
theorem lZ {l:OpenLaw} {n:Nat} {q:Program} {loose:List Str} {XP:(Str->Option Value)->Heap->Prop} {YP:World->Heap->Prop} {d:DefRec}
  (hn:l.most=some n) (hdf:d.params.defaults=[])
  (call:∀ (w:World) (s₀ s₁:Shared) (mg mb:Str->Option Value) (fa:Addr) (o:Obj) (pm cd doc:Value) (a:Addr) (vs:List Value) (ns:List Int),
   Ground q loose [] XP w s₀ mg mb s₁.heap->YP w s₁.heap ->
   s₁.heap.get? fa=some o->o.data=.func (docDef d.name d.params d.body d.scope pm cd doc)->s₁.heap.CodeRec cd d.name->mg d.name=some (.ref fa) ->
   s₁.heap.get? a=some { cls:=.type "list",data:=.seq vs.toArray }->IntsAre vs ns->ns.length<=n->s₁.gens=#[] ->
   codeAny (model l.prog w) callerA (.call (.ref fa) ⟨[.ref a],[]⟩) (λr s'=>r=.ok (.ret (.bool true))/\OldK s₁.heap s'.heap/\s'.os=s₁.os/\AllBare s'.gens) s₁) :
  WalkO q loose XP YP l.row.toRowW d [] (λf vs=>PySem.call f vs):=by
 intro w s₀ s₁ mg mb G Y fa o pm cd doc dV kV ho hd hcd hD hmg hg args vals as hpre hlay hrd hwl hlo
 obtain rfl:dV=.none:=Dflts.none hD hdf
 obtain rfl:kV=.none:=Dflts.noKw hD
 obtain ⟨a,vs,ns,rfl,rfl,hobj,hints,hlen⟩:=YJ hn hpre hwl
 refine enter_call (codeAny_mono (call w s₀ s₁ mg mb fa o pm cd doc a vs ns G Y ho (fd_plain hd) hcd hmg hobj hints hlen hg) λr s' hq=>?_)
 obtain ⟨rfl,h2,h3,h4⟩:=hq
 exact ⟨.inl ⟨.bool true,.bool true,[],rfl,λ_=>rfl,.bool true,YI l _,λ_=>⟨List.Pairwise.nil,λ_ hm=>(nomatch hm)⟩⟩,h2,h3,h4⟩
end Q3
namespace L2
open PySem PySem.Spec PyProof.Rows
theorem Ec:∀ {vs:List Value} {ns:List Int},IntsAre vs ns->Vals (ns.map V.int) vs
 | _,_,.nil=>.nil
 | _,_,.cons n t h=>.cons ⟨t,rfl⟩ (Ec h)
def Zq (s:Stmt) (j:Nat):Stmt:=match s with
 | .ClassDef _ _ _ body _ _ _ _ _ _ _=>body.getD j (.Pass ⟨0,0,0,0⟩)
 | _=>.Pass ⟨0,0,0,0⟩
def ZW (s:Stmt):Arguments:=match s with
 | .FunctionDef _ a _ _ _ _ _ _ _ _=>a
 | _=>{ posonlyargs:=[],args:=[],vararg:=none,kwonlyargs:=[],kw_defaults:=[],kwarg:=none,defaults:=[] }
def ZK (s:Stmt):List Stmt:=match s with
 | .FunctionDef _ _ b _ _ _ _ _ _ _=>b
 | _=>[]
def Zh (s:Stmt):Scope:=match s with
 | .FunctionDef _ _ _ _ _ _ sc _ _ _=>sc
 | _=>{ kind:=.function,names:=[],isGenerator:=false,isCoroutine:=false }
abbrev aV:rQ:=λ_ _ _ _ _ _=>False
abbrev E0:XK:=λ_ _ _=>False
theorem oj {X:Cx}:wz aV X E0:=λ_ _ _ _ _ _ _ h=>h.elim
structure aY (K:W.Frag) (x qual:Str) (st:Stmt) (f:Addr) (fd:FuncData):Prop where
 ex:∃ (oc:Value) (od:Option Addr) (kV doc pm:Value) (an:Option Addr) (cdv ct:Value) (osl:Array (Option Value)),
  fd=W.fnOf x qual (ZW st) (ZK st) (Zh st) .none kV doc pm an cdv ct/\K.lookup f=some ⟨oc,od,.func fd,osl⟩/\W.codeIn K cdv qual=true
 kp:W.keepIn K (.ref f)=true
section
variable {P:Program} {w:World} {K:W.Frag} {mg:Str->Option Value} {base:Heap}
theorem aY.ok {x qual:Str} {st:Stmt} {f:Addr} {fd:FuncData} {N ps:List Str} {k:Nat} {sp:Sp} (F:aY K x qual st f fd) (S:ah N ps (Zh st)) (len:∀ vs H Q E,sp vs H Q E->vs.length=ps.length)
  (hbody:∀ (cdv:Value) (A:Around) (outer:List Env) (s:Shared) (H:Hp) (vs:List V) (Q:VK) (E:XK),bf k (A.deeper (envOfC qual (Zh st) s.heap.objs.size f cdv))->sp vs H Q E ->
   ∃ t,pB (lX aV P w K mg base N qual (Zh st) f cdv A outer s H E).vn (ZK st) t/\t { nx:=λ_ H'=>Q .aT H',rt:=Q } (start N vs) H):av P w K mg base aV (k+1) f fd ps sp:=by
 obtain ⟨oc,od,kV,doc,pm,an,cdv,ct,osl,rfl,lk,hcd⟩:=F.ex
 refine uB lk hcd S len λA outer s H vs Q E hr m9=>?_
 obtain ⟨t,h,q⟩:=hbody cdv A outer s H vs Q E hr m9
 exact ⟨t,h.vn,q⟩
theorem aY.binds {x qual:Str} {st:Stmt} {f:Addr} {fd:FuncData} {ps:List Str} (F:aY K x qual st f fd)
  (h:∀ (kV doc pm:Value) (an:Option Addr) (cdv ct:Value) (us:List Value),us.length=ps.length->bindArgs (W.fnOf x qual (ZW st) (ZK st) (Zh st) .none kV doc pm an cdv ct) ⟨us,[]⟩=pure (ps.zip us)):Binds K fd ps []:=by
 obtain ⟨oc,od,kV,doc,pm,an,cdv,ct,osl,rfl,lk,hcd⟩:=F.ex
 exact .all (h kV doc pm an cdv ct)
theorem uO {x qual:Str} {st:Stmt} {f:Addr} {oc:Value} {od an:Option Addr} {osl:Array (Option Value)} {kV doc pm cdv ct:Value} (l:K.lookup f=some ⟨oc,od,.func (W.fnOf x qual (ZW st) (ZK st) (Zh st) .none kV doc pm an cdv ct),osl⟩)
  (c:W.codeIn K cdv qual=true) (k:W.keepIn K (.ref f)=true):aY K x qual st f (W.fnOf x qual (ZW st) (ZK st) (Zh st) .none kV doc pm an cdv ct):=⟨⟨oc,od,kV,doc,pm,an,cdv,ct,osl,rfl,l,c⟩,k⟩
end
theorem bT {A:Around} {k:Nat} (hr:bf k A):A.units+1<cLine:=aVm (Nat.add_le_add_left (by decide:1<=64) _) hr.units
theorem ZA {n:Nat} (h:n<=1000):n<sizeLine:=aVm h (by decide)
section
variable {X:Cx}
theorem pv (i:Nat) {x:Str} {pos:Pos} (hN:X.N[i]?=some x:=by rfl) (hv:BI X.env.scope x:=by first | exact Or.inl rfl | exact Or.inr (Or.inl rfl) | exact Or.inr (Or.inr rfl)) (hd:(x == ("__debug__" : Str))=false:=by decide)
  (hcd:(x == ("__classdict__" : Str))=false:=by decide):PE X (.Name x pos) (yJ i):=W0 hN hv hd hcd
end
def az (H H':Hp):Prop:=∀ b o,H b=some o->H' b=some o
theorem az.refl (H:Hp):az H H:=λ_ _ h=>h
theorem az.trans {H H1 H2:Hp} (a:az H H1) (b:az H1 H2):az H H2:=λc o h=>b c o (a c o h)
theorem az.free {H H':Hp} (e:az H H') {l:Addr} (h:H' l=Option.none):H l=Option.none:=by
 cases q:H l with
 | none=>rfl
 | some o =>
  rw [e l o q] at h
  cases h
theorem az.seq {K:W.Frag} {H H':Hp} {a:Addr} {xs:List V} (e:az H H') (h:aB K H a xs):aB K H' a xs:=by
 rcases h with (h | ⟨o,h⟩) | h
 .exact .inl (.inl (e _ _ h))
 .exact .inl (.inr ⟨o,e _ _ h⟩)
 .exact .inr h
end L2
set_option maxHeartbeats 4000000
namespace L2
open PySem PySem.Spec PyProof.Rows
def bM (X:Cx) (N:List Str) (scope:Scope) (cl:List (Str×Addr)) (C:Addr) (s0:Shared) (H0:Hp) (fp:List Addr) (pins:List (Addr×Obj)):Cx :=
 { X with N:=N,s₀:=s0,H₀:=H0,env:=compEnvC scope cl C X.env,outer:=X.stack,stack:=X.stack,ex:=fp,fn:=λx=>scope.names.lookup x == some .cell,pn:=X.pn++pins,xe:=λ_ _=>False }
theorem BA {env:Env}:∀ (names:List (Str×NameKind)) (acc:List (Str×Addr)),(∀ p∈names,p.2=.free->∃ c,env.cells.lookup p.1=some c)->(∀ x c,acc.lookup x=some c->env.cells.lookup x=some c) ->
  ∃ cl,(forIn names acc λ(x:Str×NameKind) cs=>(match x with | (name,kind)=>if (kind == NameKind.free)=true then do let a ← cellOf env name; pure (ForInStep.yield ((name,a) :: cs)) else pure (ForInStep.yield cs):Sem (ForInStep (List (Str×Addr)))))=(pure cl:Sem (List (Str×Addr))) /\
   (∀ x c,cl.lookup x=some c->env.cells.lookup x=some c)/\(∀ x c,acc.lookup x=some c->cl.lookup x=some c)/\∀ p∈names,p.2=.free->∃ c,cl.lookup p.1=some c
 | [],acc,_,h=>⟨acc,rfl,h,λ_ _ e=>e,λ_ z=>nomatch z⟩
 | (n,k) :: r,acc,h,ha=>by
  by_cases hk:k=.free
  .subst hk
   obtain ⟨c,hc⟩:=h (n,.free) aFv rfl
   have ha':∀ x d,((n,c) :: acc).lookup x=some d->env.cells.lookup x=some d:=λx d e=>by
    rw [aKO] at e
    cases q:x == n with
    | true =>
     rw [q] at e
     have hxn:x=n:=by simpa using q
     subst hxn
     cases e
     exact hc
    | false =>
     rw [q] at e
     exact ha x d e
   obtain ⟨cl,e1,e2,e3,e4⟩:=BA r ((n,c) :: acc) (λp hp=>h p (aHO _ hp)) ha'
   have top:∃ d,cl.lookup n=some d:=⟨c,e3 n c (by rw [aKO]; simp)⟩
   refine ⟨cl,?_,e2,λx d e=>?_,λp hp hf=>?_⟩
   .rw [aZ5]
    simp only [cellOf,hc,aKE,aOV]
    exact e1
   .cases q:x == n with
    | true =>
     have hxn:x=n:=by simpa using q
     subst hxn
     have z:=ha x d e
     rw [hc] at z; cases z
     exact e3 x c (by rw [aKO]; simp)
    | false=>exact e3 x d (by rw [aKO,q]; exact e)
   .rcases aHJ.mp hp with rfl | hp
    .exact top
    .exact e4 p hp hf
  .obtain ⟨cl,e1,e2,e3,e4⟩:=BA r acc (λp hp=>h p (aHO _ hp)) ha
   have hb:(k == NameKind.free)=false:=by simpa using hk
   refine ⟨cl,?_,e2,e3,λp hp hf=>?_⟩
   .rw [aZ5]
    simp only [hb,aqO,at1]
    exact e1
   .rcases aHJ.mp hp with rfl | hp
    .exact absurd hf hk
    .exact e4 p hp hf
theorem QE {α:Type} (f:Str->α->α) (x:Str):∀ l:List (Str×α),(l.map λp=>(p.1,f p.1 p.2)).lookup x=(l.lookup x).map (f x)
 | []=>rfl
 | (n,k) :: r=>by
  have ih:=QE f x r
  rw [aDD,aKO,aKO]
  cases q:x == n with
  | true =>
   have e:x=n:=by simpa using q
   subst e
   rfl
  | false=>exact ih
def wu (env:Env) (n:Str) (k:NameKind):NameKind:=if (k == NameKind.free && env.scope.kind == .function && env.kindOf n == some .cell)=true then .cell else k
theorem QD (scope:Scope) (env:Env) (x:Str):(relabel scope env).names.lookup x=(scope.names.lookup x).map (wu env x):=by
 rw [← QE (wu env) x scope.names]
 show (scope.names.map _).lookup x=_
 congr 1
 refine a8Y λp _=>?_
 show (if _ then _ else _)=_
 unfold wu
 split <;> rfl
theorem QC (env:Env) (n:Str) (k:NameKind):wu env n k=k\/(k=.free/\wu env n k=.cell):=by
 unfold wu
 by_cases h:(k == NameKind.free && env.scope.kind == .function && env.kindOf n == some .cell)=true
 .refine .inr ⟨?_,abw h⟩
  rw [apN,apN] at h
  exact aTL.mp h.1.1
 .exact .inl (aM3 h)
theorem Zdd {scope:Scope} {env:Env} {x:Str} {k:NameKind} (h:scope.names.lookup x=some k) :
  (relabel scope env).names.lookup x=some k\/(k=.free/\(relabel scope env).names.lookup x=some .cell):=by
 rw [QD,h]
 rcases QC env x k with q | ⟨q,q'⟩
 .exact .inl (aok some q)
 .exact .inr ⟨q,aok some q'⟩
theorem Zhk {scope:Scope} {env:Env} {x:Str} {k:NameKind} (h:(relabel scope env).names.lookup x=some k):∃ k',scope.names.lookup x=some k'/\(k'=k\/k'=.free):=by
 rw [QD] at h
 cases q:scope.names.lookup x with
 | none=>rw [q] at h; cases h
 | some k' =>
  rw [q] at h
  have h':wu env x k'=k:=avM h
  rcases QC env x k' with z | ⟨z,_⟩
  .exact ⟨k',rfl,.inl (z.symm.trans h')⟩
  .exact ⟨k',rfl,.inr z⟩
theorem ZY {α:Type} {x:Str}:∀ {l:List (Str×α)} {k:α},l.lookup x=some k->(x,k)∈l
 | [],_,h=>by simp at h
 | (n,k) :: r,k',h=>by
  rw [aKO] at h
  cases hx:x == n with
  | true =>
   rw [hx] at h; cases h
   have:x=n:=by simpa using hx
   subst this
   exact aFv
  | false =>
   rw [hx] at h
   exact aHO _ (ZY h)
theorem YH {prog:Program} {w:World} {A:Around} {s:Shared} {elt target iter:PySem.Expr} {ifs:List PySem.Expr} {scope:Scope} {pos:Pos} {it acc:Value} {env:Env} {R:Result->Shared->Prop} (I:Nat->Shared->Prop)
  (turn:∀ n s,I n s->wpAny (model prog w) A (pyNext it) (λr s1=>match r with
   | none=>R (.ok .next) s1
   | some v=>wpAny (model prog w) A (letOwnedTupleGo target it v) (λ_ s0=>wpAny (model prog w) A (assign target env v) (λ_ s2 =>
     wpAny (model prog w) A (forIn ifs true λc r=>if r=true then do let ok ← isTrue c env (eval c env); pure (ForInStep.yield ok) else pure (ForInStep.yield r)) (λok s3 =>
      if ok=true then wpAny (model prog w) A (eval elt env) (λx s4 =>
       wpAny (model prog w) A (call (.builtin "list.append") [acc,x]) (λ_ s5=>∃ m,m<n/\I m s5) (λ_ _=>False) s4) (λ_ _=>False) s3
      else ∃ m,m<n/\I m s3) (λ_ _=>False) s2) (λ_ _=>False) s0) (λ_ _=>False) s1) (λ_ _=>False) s)
  (n:Nat) (h:I n s):codeAny (model prog w) A (.compLoop (.ListComp elt [⟨target,iter,ifs,0⟩] scope pos) 0 it acc env) R s:=by
 have body:∀ n s,I n s->wpAny (model prog w) A (compTurn (.ListComp elt [⟨target,iter,ifs,0⟩] scope pos) 0 it acc env)
   (λfin s'=>match fin with | .done f=>R (.ok f) s' | .again c=>c=.compLoop (.ListComp elt [⟨target,iter,ifs,0⟩] scope pos) 0 it acc env/\∃ m,m<n/\I m s') (λ_ _=>False) s:=λn s hI=>by
  rw [compTurn_list]
  refine apg (wpAny_standAt (apg (bY (turn n s hI) λr s1 h1=>?_)))
  cases r with
  | none=>exact a5a h1
  | some v =>
   refine apg (bY h1 λ_ s0 h0=>apg (bY h0 λ_ s2 h2=>apg (bY h2 λok s3 h3=>?_)))
   cases ok with
   | true=>exact apg (apg (bY h3 λx s4 h4=>apg (bY h4 λ_ s5 h5=>a5a (a5a ⟨rfl,h5⟩))))
   | false=>exact a5a ⟨rfl,h3⟩
 exact codeAny_loop rfl I (λn s hI=>wpAny_noted (aRs (body n s hI) (λ_ _ q=>q) λ_ _ q=>q.elim)) n h
def lA (own:Nat) (js:List Nat) (wi:TI) (g:TG) (tc:TT) (te:TE):TE:=λσ H Q=>wi σ H λJ H1=>∀ l,H1 l=none ->
 ∃ W:Nat->Nat->List V->St->Hp->Prop,(∃ m,W 0 m [] (List.replicate own none++js.map λj=>(σ[j]?).join) (upd H1 l (.lst [])))/\∀ i m ys σ' H',W i m ys σ' H' ->
  (J.stop i H'/\Q (.ref l) H')\/(J.go i H'/\∀ x H2,J.oU i H' x H2->g x σ' H2 λσ2 H3=>tc σ2 H3 λb H4 =>
   if b=true then te σ2 H4 λy H5=>H5 l=some (.lst ys)/\ys.length<sizeLine/\∃ m',m'<m/\W (i+1) m' (ys++[y]) σ2 (upd H5 l (.lst (ys++[y])))
   else ∃ m',m'<m/\W (i+1) m' ys σ2 H4)
def tR:TT:=λ_ H Q=>Q true H
structure eE (X:Cx) (scope:Scope) (N:List Str) (own:Nat) (js:List Nat):Prop where
 kind:scope.kind=.function
 cell:∀ y∈scope.names,y.2=.cell->scope.names.lookup y.1=some .cell
 names:∀ y∈scope.names,y.2=.local->scope.names.lookup y.1=some .local
 free:∀ y∈scope.names,y.2=.free->X.env.kindOf y.1=some .cell\/X.env.kindOf y.1=some .free
 len:N.length=own+js.length
 js:∀ k j,js[k]?=some j->N[own+k]?=X.N[j]?
 jf:∀ k x,N[own+k]?=some x->scope.names.lookup x=some .free
theorem Un.but {fs ex:List Addr} {H H':Hp} {h h1 h2:Heap} {C:Addr} (u:Un fs ex H H' h h1) (hc:h.objs.size<=C) (sb:∀ b o,b≠C->h1.get? b=some o->h2.get? b=some o):Un fs ex H H' h h2:=by
 have ne:∀ b o,h.get? b=some o->b≠C:=λb o e=>ayF (akK (a2R e) hc)
 refine ⟨λb o q n hb hx=>sb b o (ne b o q) (u.keep b o q n hb hx),λb o q n hb hx=>?_,u.free,λb o q hx=>?_,u.tups,u.i7,u.ji⟩
 .obtain ⟨sl,e⟩:=u.slot b o q n hb hx
  exact ⟨sl,sb b _ (ne b o q) e⟩
 .obtain ⟨o',e⟩:=u.there b o q hx
  exact ⟨o',sb b o' (ne b o q) e⟩
theorem wo:∀ (names:List (Str×NameKind)) (n:Nat) (acc:List (Str×Addr)),cellsFrom n names acc=cellsFrom n names []++acc
 | [],_,_=>rfl
 | (x,k) :: r,n,acc=>by
  unfold cellsFrom
  by_cases hk:(k == NameKind.cell)=true
  .rw [abw hk,abw hk,wo r (n+1) ((x,n) :: acc),wo r (n+1) [(x,n)],aAq]
   rfl
  .rw [aM3 hk,aM3 hk]
   exact wo r n acc
theorem IE:∀ (names:List (Str×NameKind)) (n:Nat) (x:Str) (c:Addr),(x,c)∈cellsFrom n names []->(x,NameKind.cell)∈names
 | [],_,_,_,h=>nomatch h
 | (y,k) :: r,n,x,c,h=>by
  unfold cellsFrom at h
  by_cases hk:(k == NameKind.cell)=true
  .rw [abw hk,wo] at h
   rcases a1m.mp h with q | q
   .exact aHO _ (IE r _ x c q)
   .have e:(x,c)=(y,n):=by simpa using q
    cases e
    have hk':k=.cell:=by simpa using hk
    subst hk'
    exact aFv
  .rw [aM3 hk] at h
   exact aHO _ (IE r _ x c h)
theorem QH {α:Type}:∀ {l:List (Str×α)} {x:Str} {c:α},(x,c)∈l->∃ d,l.lookup x=some d
 | (y,v) :: r,x,c,h=>by
  rw [aKO]
  cases q:x == y with
  | true=>exact ⟨v,rfl⟩
  | false =>
   rcases aHJ.mp h with e | e
   .cases e; simp at q
   .exact QH e
theorem Ib:∀ (names:List (Str×NameKind)) (n:Nat) (x:Str),(x,NameKind.cell)∈names->∃ c,(x,c)∈cellsFrom n names []
 | [],_,_,h=>nomatch h
 | (y,k) :: r,n,x,h=>by
  unfold cellsFrom
  rcases aHJ.mp h with e | e
  .cases e
   rw [abw (show (NameKind.cell == NameKind.cell)=true from rfl),wo]
   exact ⟨n,a9C _ (by simp)⟩
  .by_cases hk:(k == NameKind.cell)=true
   .rw [abw hk,wo]
    obtain ⟨c,q⟩:=Ib r (n+1) x e
    exact ⟨c,aKJ _ q⟩
   .rw [aM3 hk]
    exact Ib r n x e
theorem Qy {α:Type}:∀ (l m:List (Str×α)) (x:Str),(l++m).lookup x=match l.lookup x with | some c=>some c | none=>m.lookup x
 | [],m,x=>rfl
 | (y,v) :: r,m,x=>by
  rw [List.cons_append,aKO,aKO]
  cases x == y with
  | true=>rfl
  | false=>exact Qy r m x
theorem Zhl {M:Model} {A:Around} {E:Value->Shared->Prop} {s:Shared} {scope:Scope} {globals:Addr} {cl:List (Str×Addr)} {qual:Str} {env:Env} {Q:Env->Shared->Prop}
  (h:Q (newEnv scope s.heap.objs.size globals (cellsFrom (s.heap.objs.size+1) scope.names cl) qual none .none (some env) builtinsNs) { s with heap:=pushCells (s.heap.push { cls:=.type "dict",data:=.dict #[] }) scope.names }) :
  wpAny M A (newFunctionEnv scope globals cl [] qual none .none (some env)) Q E s:=by
 simp only [newFunctionEnv,Option.isSome_some,aOV]
 refine apg (wpAny_alloc (apg (wpAny_layCells _ (λname kind cells=>by cases hkc:kind == NameKind.cell <;> simp [hkc]) _ _ _ _ ?_)))
 rw [show ({ s with heap:=s.heap.push { cls:=.type "dict",data:=.dict #[] } }:Shared).heap.objs.size=s.heap.objs.size+1 from aBp ..]
 rw [List.forIn_nil]
 exact apg (a5a (a5a h))
structure oS (X:Cx) (scope:Scope) (lY:List (Str×Addr)) (n:Nat) (h':Heap):Prop where
 k1:∀ x c,lY.lookup x=some c->X.env.cells.lookup x=some c\/(n<c/\h'.IsCell c none/\(x,NameKind.cell)∈scope.names)
 k2:∀ x,scope.names.lookup x=some .free->∃ c,lY.lookup x=some c/\X.env.cells.lookup x=some c
 k3:∀ p∈scope.names,p.2=.cell\/p.2=.free->∃ c,lY.lookup p.1=some c
 k4:∀ x y c,lY.lookup x=some c->lY.lookup y=some c->x=y
 k5:∀ x c,scope.names.lookup x=some .cell->lY.lookup x=some c->n<c
section
variable {X:Cx} {scope:Scope} {N:List Str} {own:Nat} {js:List Nat}
theorem ZkC {cl:List (Str×Addr)} {n:Nat} {h0:Heap} (c:eE X scope N own js) (i8:∀ x c,cl.lookup x=some c->X.env.cells.lookup x=some c) (kZ:∀ p∈scope.names,p.2=.free->∃ c,cl.lookup p.1=some c)
  (inj:∀ x y c,X.env.cells.lookup x=some c->X.env.cells.lookup y=some c->x=y) (lt:∀ x c,X.env.cells.lookup x=some c->c<n) (hn:h0.objs.size=n+1):oS X scope (cellsFrom (n+1) scope.names cl) n (pushCells h0 scope.names):=by
 have ok:=cellsFrom_ok scope.names h0 (n+1) [] ⟨λ_ _ hm=>(nomatch hm),List.Pairwise.nil⟩ (by rw [hn]; exact aEt _)
 rw [hn] at ok
 have two:∀ x,(cellsFrom (n+1) scope.names cl).lookup x=match (cellsFrom (n+1) scope.names []).lookup x with | some c=>some c | none=>cl.lookup x:=λx=>by
  rw [wo,Qy]
  cases (cellsFrom (n+1) scope.names []).lookup x <;> rfl
 have own':∀ x d,(cellsFrom (n+1) scope.names []).lookup x=some d->(pushCells h0 scope.names).IsCell d none/\n<d/\(x,NameKind.cell)∈scope.names:=λx d e =>
  ⟨(ok.empty x d (mem_of_lookup e)).1,(ok.empty x d (mem_of_lookup e)).2,IE _ _ x d (mem_of_lookup e)⟩
 have part:∀ x d,(cellsFrom (n+1) scope.names cl).lookup x=some d->(cellsFrom (n+1) scope.names []).lookup x=some d\/((cellsFrom (n+1) scope.names []).lookup x=none/\cl.lookup x=some d):=λx d e=>by
  rw [two] at e
  cases q:(cellsFrom (n+1) scope.names []).lookup x with
  | some d'=>rw [q] at e; exact .inl e
  | none=>rw [q] at e; exact .inr ⟨rfl,e⟩
 have has:∀ x,(x,NameKind.cell)∈scope.names->∃ d,(cellsFrom (n+1) scope.names []).lookup x=some d:=λx m=>by
  obtain ⟨d,q⟩:=Ib scope.names (n+1) x m
  exact QH q
 refine ⟨λx d e=>?_,λx e=>?_,λp hp hk=>?_,λx y d e1 e2=>?_,λx d e1 e2=>?_⟩
 .rcases part x d e with q | ⟨_,q⟩
  .exact .inr ⟨(own' x d q).2.1,(own' x d q).1,(own' x d q).2.2⟩
  .exact .inl (i8 x d q)
 .obtain ⟨d,q⟩:=kZ _ (ZY e) rfl
  have no:(cellsFrom (n+1) scope.names []).lookup x=none:=by
   cases z:(cellsFrom (n+1) scope.names []).lookup x with
   | none=>rfl
   | some d' =>
    have y:=c.cell _ (own' x d' z).2.2 rfl
    rw [show scope.names.lookup x=_ from e] at y
    cases y
  exact ⟨d,by rw [two,no]; exact q,i8 x d q⟩
 .rw [two]
  cases z:(cellsFrom (n+1) scope.names []).lookup p.1 with
  | some d'=>exact ⟨d',rfl⟩
  | none =>
   rcases hk with hk | hk
   .obtain ⟨d,q⟩:=has p.1 (by rw [← hk]; exact hp)
    rw [z] at q; cases q
   .exact kZ p hp hk
 .rcases part x d e1 with q1 | ⟨_,q1⟩
  .rcases part y d e2 with q2 | ⟨_,q2⟩
   .exact name_of_addr ok.apart (mem_of_lookup q1) (mem_of_lookup q2)
   .exact absurd (a57 (own' x d q1).2.1 (lt y d (i8 y d q2))) (asH _)
  .rcases part y d e2 with q2 | ⟨_,q2⟩
   .exact absurd (a57 (own' y d q2).2.1 (lt x d (i8 x d q1))) (asH _)
   .exact inj x y d (i8 x d q1) (i8 y d q2)
 .obtain ⟨d',q⟩:=has x (ZY e1)
  rw [two,q] at e2
  cases e2
  exact (own' x d q).2.1
theorem ZkD {pins:List (Addr×Obj)} {σ:St} {H:Hp} {s:Shared} {cl:List (Str×Addr)} {fp:List Addr} {h':Heap} {t':Nat} (c:eE X scope N own js) (I:Inv X pins σ H s) (hf:∀ b∈fp,jb X pins H b)
  (fo:∀ b∈fp,b<s.heap.objs.size)
  (ci:oS X scope cl s.heap.objs.size h')
  (hn:h'.Ns s.heap.objs.size (λ_=>none)) (hk:∀ b o,s.heap.get? b=some o->h'.get? b=some o) :
  Inv (bM X N scope cl s.heap.objs.size s H fp pins) [] (List.replicate own none++js.map λj=>(σ[j]?).join) H { s with heap:=h',toks:=t' }:=by
 have rG:∀ x c,cl.lookup x=some c->c≠s.heap.objs.size:=λx c e=>by
  rcases ci.k1 x c e with q | ⟨q,_⟩
  .obtain ⟨v,q⟩:=I.cell x c q
   exact ayF q.lt
  .exact anG q
 have ok:(bM X N scope cl s.heap.objs.size s H fp pins).Ok:=by
  refine ⟨I.ok.mod,c.kind,I.ok.glob,I.ok.blt,aEt _,ci.k4,λx hx=>?_,λx d z e=>a9L (ci.k5 x d (aTL.mp (show (scope.names.lookup x == some .cell)=true from z)) e),I.ok.hd,I.ok.frames,.inl rfl,λb hb=>⟨ayF (fo b hb),λx d e=>(ci.k1 x d e).elim (λq=>(hf b hb).2.2.2.2.1 x d q) λq=>anG (a57 (fo b hb) q.1)⟩,I.bs,
   a28 I.ok.rH I.sz,λb o e hb=>?_,λb hb z=>?_,I.stack,I.ko⟩
  .have back:∀ k,(relabel scope X.env).names.lookup x=some k->k=.cell\/k=.free->∃ k',(x,k')∈scope.names/\(k'=NameKind.cell\/k'=NameKind.free):=λk e hk=>by
    obtain ⟨k',e',z⟩:=Zhk e
    refine ⟨k',ZY e',?_⟩
    rcases z with z | z
    .subst z; exact hk
    .exact .inr z
   obtain ⟨k',m,hk'⟩:∃ k',(x,k')∈scope.names/\(k'=NameKind.cell\/k'=NameKind.free):=by
    rcases hx with hx | hx
    .exact back _ hx (.inl rfl)
    .exact back _ hx (.inr rfl)
   exact ci.k3 _ m hk'
  .rcases (hf b hb).2.2.2.1 with z | z
   .exact I.ok.qm b o e z
   .exact absurd (akK (akK (a2R e) I.ok.rH) z) (asH _)
  .rcases aHJ.mp (I.kj b z) with q | q
   .exact (hf b hb).2.1 q
   .exact (hf b hb).2.2.1 q
 refine ⟨ok,rfl,I.bare,Un.kept hk,⟨_,hn,λi x v e1 e2 e3=>?_⟩,λx d e=>?_,I.hok.fresh (aEt _),λx d e=>(ci.k1 x d e).elim (λq=>I.dO x d q) λq=>I.hok.fresh (a9L q.1),λp hp=>?_,I.hok.kept hk,?_⟩
 .-- a name with a value is one that the block closes over
  have hi:own<=i:=by
   by_cases hi:i<own
   .rw [aY3 (by simpa using hi),awl] at e2
    split at e2 <;> cases e2
   .lia
  obtain ⟨k,rfl⟩:∃ k,i=own+k:=⟨i - own,by lia⟩
  rw [auv (by simp),aBM,Nat.add_sub_cancel_left,aBK] at e2
  cases q:js[k]? with
  | none=>rw [q] at e2; cases e2
  | some j =>
   rw [q] at e2
   have qM:(σ[j]?).join=some v:=by simpa using e2
   have e4:σ[j]?=some (some v):=by
    cases z:σ[j]? with
    | none=>rw [z] at qM; cases qM
    | some o=>rw [z] at qM; rw [show o=some v from qM]
   have oE:N[own+k]?=some x:=e1
   have Hj:X.N[j]?=some x:=(c.js k j q).symm.trans oE
   have hfr:=c.jf k x oE
   have hmem:=ZY hfr
   have hk2:=c.free _ hmem rfl
   have vis:BI X.env.scope x:=by
    rcases hk2 with z | z
    .exact .inr (.inl z)
    .exact .inr (.inr z)
   obtain ⟨m,_,hl⟩:=I.loc
   obtain ⟨u,r,l⟩:=hl j x v Hj e4 vis
   refine ⟨u,r,?_⟩
   rcases l with ⟨z,_⟩ | ⟨_,d,e,⟨od,ho,hd⟩⟩
   .rcases hk2 with y | y
    .rw [show X.env.kindOf x=_ from z] at y; cases y
    .rw [show X.env.kindOf x=_ from z] at y; cases y
   .obtain ⟨d',e',z'⟩:=ci.k2 x hfr
    have:d'=d:=by have z:=z'; rw [e] at z; exact (avM z).symm
    subst this
    refine .inr ⟨?_,d',e',⟨od,hk _ _ ho,hd⟩⟩
    rcases Zdd (scope:=scope) (env:=X.env) hfr with z | ⟨_,z⟩
    .exact .inr z
    .exact .inl z
 .rcases ci.k1 x d e with q | ⟨_,q,_⟩
  .obtain ⟨v,⟨o,ho,hd⟩⟩:=I.cell x d q
   exact ⟨v,o,hk _ _ ho,hd⟩
  .exact ⟨none,q⟩
 .have vL:p∈X.pn++pins:=by
   have z:p∈(X.pn++pins)++[]:=hp
   rwa [bcu] at z
  obtain ⟨a1,a2,a3,a4,a5⟩:=I.pin p vL
  refine ⟨hk _ _ a1,a2,ayF (a2R a1),λz=>?_,a5⟩
  rcases aHJ.mp (I.kj p.1 z) with q | q
  .exact a3 q
  .exact a4 q
 .show _=N.length
  rw [c.len]; simp
theorem Qx {pins:List (Addr×Obj)} {σ:St} {H:Hp} {s:Shared} {elt target iter:PySem.Expr} {ifs:List PySem.Expr} {pos:Pos} {it:Addr} {fp:List Addr} {tn:Nat->Heap->Prop} {J:It} {cl:List (Str×Addr)} {g:TG} {tc:TT} {te:TE} {E:Value->Shared->Prop} {Q:VK}
  {RR:Value->Addr->Result->Shared->Prop}
  (c:eE X scope N own js) (hc:X.calm=true) (I:Inv X pins σ H s) (T:Turn X.prog X.w X.K target J fp it tn) (st:tn 0 s.heap) (hf:∀ b∈fp,jb X pins H b)
  (i8:∀ x c,cl.lookup x=some c->X.env.cells.lookup x=some c) (kZ:∀ p∈scope.names,p.2=.free->∃ c,cl.lookup p.1=some c)
  (hg:∀ cl C s0 H0 fp pins,PG (bM X N scope cl C s0 H0 fp pins) target g)
  (ht:∀ cl C s0 H0 fp pins cJ s σ H Q,Inv (bM X N scope cl C s0 H0 fp pins) cJ σ H s->tc σ H Q->wpAny (model X.prog X.w) X.A (forIn ifs true λc r=>if r=true then do let ok ← isTrue c (compEnvC scope cl C X.env) (eval c (compEnvC scope cl C X.env)); pure (ForInStep.yield ok) else pure (ForInStep.yield r))
   (TP (bM X N scope cl C s0 H0 fp pins) cJ σ Q) (λ_ _=>False) s)
  (he:∀ cl C s0 H0 fp pins,PE (bM X N scope cl C s0 H0 fp pins) elt te)
  (h:∀ l,H l=none->∃ W:Nat->Nat->List V->St->Hp->Prop,(∃ m,W 0 m [] (List.replicate own none++js.map λj=>(σ[j]?).join) (upd H l (.lst [])))/\∀ i m ys σ' H',W i m ys σ' H' ->
   (J.stop i H'/\Q (.ref l) H')\/(J.go i H'/\∀ x H2,J.oU i H' x H2->g x σ' H2 λσ2 H3=>tc σ2 H3 λb H4 =>
    if b=true then te σ2 H4 λy H5=>H5 l=some (.lst ys)/\ys.length<sizeLine/\∃ m',m'<m/\W (i+1) m' (ys++[y]) σ2 (upd H5 l (.lst (ys++[y])))
    else ∃ m',m'<m/\W (i+1) m' ys σ2 H4))
  (hRR:∀ l C H' s' m',s.heap.objs.size<=C->s'.heap.Ns C m'->H' C=none->C≠X.env.locals->C∉X.fs->(∀ h2,Heap.SameBut C s'.heap h2->Inv X pins σ H' { s' with heap:=h2 })->Q (.ref l) H'->RR (.ref l) C (.ok .next) s') :
  wpAny (model X.prog X.w) X.A (newList []) (λacc s3=>wpAny (model X.prog X.w) X.A (newFunctionEnv scope X.env.globals cl [] X.env.qual none .none (some X.env)) (λcenv s4 =>
   codeAny (model X.prog X.w) X.A (.compStart (.ListComp elt [⟨target,iter,ifs,0⟩] scope pos) 0 (.ref it) acc { cenv with scope:=relabel scope X.env }) (RR acc cenv.locals) s4) E s3) E s:=by
 have I2:Inv X pins σ (upd H s.heap.objs.size (.lst [])) { s with heap:=s.heap.push { cls:=.type "list",dict:=none,data:=.seq ([]:List Value).toArray },toks:=s.toks }:=I.zV (ys:=[]) .nil (aUM _)
 obtain ⟨W,⟨m0,w0⟩,turn⟩:=h s.heap.objs.size I.fresh
 refine aB2 (Zhl ?_)
 dsimp only
 generalize hS:({ s with heap:=s.heap.push { cls:=.type "list",dict:=none,data:=.seq ([]:List Value).toArray },toks:=s.toks }:Shared)=s2 at I2
 have e2:s2.heap=s.heap.push { cls:=.type "list",dict:=none,data:=.seq ([]:List Value).toArray }:=by rw [← hS]
 have LJ:s2.heap.objs.size=s.heap.objs.size+1:=by rw [e2,aBp]
 rw [← e2]
 have ci:=ZkC (h0:=s2.heap.push { cls:=.type "dict",data:=.dict #[] }) (n:=s2.heap.objs.size) c i8 kZ I2.ok.inj (λx d e=>by obtain ⟨v,q⟩:=I2.cell x d e; exact q.lt) (aBp ..)
 have uq:(pushCells (s2.heap.push { cls:=.type "dict",data:=.dict #[] }) scope.names).Ns s2.heap.objs.size (λ_=>none):=(Heap.Ns.new s2.heap (.type "dict")).keeps (pushCells_keeps _ _)
 have old:∀ b o,s2.heap.get? b=some o->(pushCells (s2.heap.push { cls:=.type "dict",data:=.dict #[] }) scope.names).get? b=some o:=λb o e=>pushCells_keeps _ _ b o (aXX _ e)
 generalize pushCells (s2.heap.push { cls:=.type "dict",data:=.dict #[] }) scope.names=h1 at ci uq old ⊢
 generalize hcl:cellsFrom (s2.heap.objs.size+1) scope.names cl=lY at ci ⊢
 have qv:∀ b,b∈fp->b<s.heap.objs.size:=λb hb=>by
  obtain ⟨o,e,_⟩:=T.obj 0 _ st b hb
  exact a2R e
 have hf2:∀ b∈fp,jb X pins (upd H s.heap.objs.size (.lst [])) b:=λb hb=>⟨by rw [Zc (ayF (qv b hb))]; exact (hf b hb).1,(hf b hb).2⟩
 have vB:∀ b∈fp,b<s2.heap.objs.size:=λb hb=>by rw [LJ]; exact aW2 (qv b hb)
 have st2:tn 0 s2.heap:=T.keep 0 _ _ st λb _ o e=>by rw [e2]; exact aXX _ e
 have I4:=ZkD (t':=s.toks) c I2 hf2 vB ci uq old
 have cY:tn 0 h1:=T.keep 0 _ _ st2 λb _ o e=>old b o e
 have es:({ s2 with heap:=h1,toks:=s.toks }:Shared)={ s with heap:=h1,toks:=s.toks }:=by rw [← hS]
 rw [es] at I4
 generalize Ur:({ s with heap:=h1,toks:=s.toks }:Shared)=s4 at I4
 have yS:tn 0 s4.heap:=by rw [← Ur]; exact cY
 have loop:codeAny (model X.prog X.w) X.A (.compLoop (.ListComp elt [⟨target,iter,ifs,0⟩] scope pos) 0 (.ref it) (.ref s.heap.objs.size) (compEnvC scope lY s2.heap.objs.size X.env)) (RR (.ref s.heap.objs.size) s2.heap.objs.size) s4:=by
  refine YH (λn s'=>∃ i ys σ' H',Inv (bM X N scope lY s2.heap.objs.size s2 (upd H s.heap.objs.size (.lst [])) fp pins) [] σ' H' s'/\tn i s'.heap/\(∀ b∈fp,H' b=none)/\W i n ys σ' H') ?_ m0
   ⟨0,[],_,_,I4,yS,λb hb=>(hf2 b hb).1,w0⟩
  rintro n s5 ⟨i,ys,σ5,H5,I5,rT,C6,w5⟩
  have mS:∀ {H':Hp} {s':Shared} {σ':St},Inv (bM X N scope lY s2.heap.objs.size s2 (upd H s.heap.objs.size (.lst [])) fp pins) [] σ' H' s'->(∀ b∈fp,H' b=none)->∀ b∈fp,jb (bM X N scope lY s2.heap.objs.size s2 (upd H s.heap.objs.size (.lst [])) fp pins) [] H' b:=λJ' hn b hb =>
   ⟨hn b hb,(J'.ok.C7 b hb).1,J'.ok.qL b hb,.inl hb,(J'.ok.C7 b hb).2,λp hp z=>by
    have vL:p∈X.pn++pins:=by
     have q:p∈(X.pn++pins)++[]:=hp
     rwa [bcu] at q
    exact (hf b hb).2.2.2.2.2 p vL z⟩
  rcases turn i n ys σ5 H5 w5 with ⟨stop,q⟩ | ⟨go,step⟩
  .refine aRs (T.done (bM X N scope lY s2.heap.objs.size s2 (upd H s.heap.objs.size (.lst [])) fp pins) rfl rfl rfl hc i [] s5 σ5 H5 (λ_ _=>False) I5 (mS I5 C6) rT stop) (λr s6 ⟨hr,I6⟩=>?_) λ_ _ z=>z
   subst hr
   obtain ⟨m',hn',_⟩:=I6.loc
   have hC:s.heap.objs.size<=s2.heap.objs.size:=by rw [LJ]; exact Nat.le_succ _
   refine hRR _ _ H5 s6 m' hC hn' I6.free ?_ ?_ (λh2 sb=>?_) q
   .exact anG I2.lt
   .exact I2.zN (aEt _)
   .have u:Un (frs X.stack) fp (upd H s.heap.objs.size (.lst [])) H5 s2.heap h2:=I6.base.but (aEt _) sb.extBut
    have z6:H5 s2.heap.objs.size=none:=I6.free
    have hok:fz X.prog X.w H5 h2:=λb ob e=>(I6.hok b ob e).stay (λd w' hd z=>sb.extBut d w' (by
     rintro rfl
     rcases hd with rfl | hd
     .rw [z6] at e; cases e
     .rw [z6] at hd; cases hd) z) (λ_ z=>z) λ_ _ z=>z
    have J:=I2.AM (s':={ s6 with heap:=h2 }) (ch:=fp) (by show s6.os=s2.os; exact I6.os) u hok I6.bare λb hb=>⟨(hf b hb).2.2.2.1,(hf b hb).2.1,(hf b hb).2.2.2.2.1,(hf b hb).2.2.2.2.2⟩
    exact J
  .refine aRs (T.item (bM X N scope lY s2.heap.objs.size s2 (upd H s.heap.objs.size (.lst [])) fp pins) rfl rfl rfl hc i [] s5 σ5 H5 (λ_ _=>False) I5 (mS I5 C6) rT go) (λr s6 ⟨u,hr,h6⟩=>?_) λ_ _ z=>z
   subst hr
   refine aRs h6 (λ_ s7 ⟨x,H7,I7,r7,y7,Fq,UX⟩=>?_) λ_ _ z=>z
   have I7':=I7.pinned (mS I7 UX) (T.obj _ _ Fq)
   refine aRs (hg _ _ _ _ _ _ _ s7 σ5 H7 x u _ I7' r7 (step x H7 y7)) (λ_ s8 ⟨σ8,H8,I8,q8⟩=>?_) λ_ _ z=>z
   refine aRs (ht _ _ _ _ _ _ _ s8 σ8 H8 _ I8 q8) (λb s9 ⟨H9,I9,q9⟩=>?_) λ_ _ z=>z
   have fin:∀ {s':Shared} {H':Hp} {m':Nat} {ys':List V},Inv (bM X N scope lY s2.heap.objs.size s2 (upd H s.heap.objs.size (.lst [])) fp pins) ([]++A2 fp s7.heap) σ8 H' s'->m'<n->W (i+1) m' ys' σ8 H' ->
     ∃ m,m<n/\∃ i ys σ' H',Inv (bM X N scope lY s2.heap.objs.size s2 (upd H s.heap.objs.size (.lst [])) fp pins) [] σ' H' s'/\tn i s'.heap/\(∀ b∈fp,H' b=none)/\W i m ys σ' H':=λ{s' H' m' ys'} J' hm w'=>by
    refine ⟨m',hm,i+1,ys',σ8,H',J'.gW,T.keep _ _ _ Fq λb hb o e=>(J'.pin (b,o) (a9C _ (a9C _ (Em hb e)))).1,λb hb=>?_,w'⟩
    obtain ⟨o,e,d⟩:=T.obj _ _ Fq b hb
    exact (J'.pin (b,o) (a9C _ (a9C _ (Em hb e)))).2.1
   cases b with
   | false =>
    rw [aM3 aBC] at q9 ⊢
    obtain ⟨m',hm,w'⟩:=q9
    exact fin I9 hm w'
   | true =>
    rw [abw rfl] at q9 ⊢
    refine aRs (he _ _ _ _ _ _ _ s9 σ8 H9 _ I9 q9) (λy FE ⟨z,QW,I10,u9,el,ez,m',hm,w'⟩=>?_) λ_ _ z=>z
    refine aRs (wJ (X:=bM X N scope lY s2.heap.objs.size s2 (upd H s.heap.objs.size (.lst [])) fp pins) _ FE σ8 QW (.ref s.heap.objs.size) [z] _ [y] (λ_ H'=>H'=upd QW s.heap.objs.size (.lst (ys++[z]))) I10 rfl (.cons u9 .nil) ⟨_,_,_,rfl,rfl,el,ez,rfl⟩) (λ_ n5 ⟨_,H11,I11,_,Vf⟩=>?_) λ_ _ z=>z
    subst Vf
    exact fin I11 hm w'
 have fin:codeAny (model X.prog X.w) X.A (.compStart (.ListComp elt [⟨target,iter,ifs,0⟩] scope pos) 0 (.ref it) (.ref s.heap.objs.size) (compEnvC scope lY s2.heap.objs.size X.env)) (RR (.ref s.heap.objs.size) s2.heap.objs.size) s4 :=
  codeAny_compStart_list loop (T.self X.A 0 s4 _ _ yS loop)
 exact fin
theorem Pf {elt target iter:PySem.Expr} {ifs:List PySem.Expr} {pos:Pos} {wi:TI} {g:TG} {tc:TT} {te:TE} (c:eE X scope N own js) (hc:X.calm=true) (hi:PI X target iter wi)
  (hg:∀ cl C s0 H0 fp pins,PG (bM X N scope cl C s0 H0 fp pins) target g)
  (ht:∀ cl C s0 H0 fp pins cJ s σ H Q,Inv (bM X N scope cl C s0 H0 fp pins) cJ σ H s->tc σ H Q->wpAny (model X.prog X.w) X.A (forIn ifs true λc r=>if r=true then do let ok ← isTrue c (compEnvC scope cl C X.env) (eval c (compEnvC scope cl C X.env)); pure (ForInStep.yield ok) else pure (ForInStep.yield r))
   (TP (bM X N scope cl C s0 H0 fp pins) cJ σ Q) (λ_ _=>False) s)
  (he:∀ cl C s0 H0 fp pins,PE (bM X N scope cl C s0 H0 fp pins) elt te)
  (hs:∀ x,foldedSetIterable iter X.env x=pure x:=by intro _; rfl):PE X (.ListComp elt [⟨target,iter,ifs,0⟩] scope pos) (lA own js wi g tc te):=by
 intro pins s σ H Q I h
 obtain ⟨cl,e1,i8,_,kZ⟩:=BA (env:=X.env) scope.names [] (λp hp hf=>I.ok.has _ (c.free p hp hf)) (λx d e=>by simp at e)
 have hclos:closureFor scope X.env=pure cl:=by
  unfold closureFor
  refine (aok (λz=>z >>= λcs=>pure cs) e1).trans ?_
  rfl
 rw [eval_ListComp]
 refine wpAny_comprehension_free (use:=none) rfl hs hclos c.kind c.names (aRs (hi pins s σ H _ I h) (λx s1 h1=>aRs h1 (λitv s2 h2=>?_) λ_ _ e=>e) λ_ _ e=>e)
 obtain ⟨it,fp,tn,J,H2,e,I2,T,st2,f2,q⟩:=h2
 subst e
 refine Qx (Q:=Q) (RR:=λacc C=>compPost (model X.prog X.w) X.A X.xe none (EP X pins σ Q) acc C) c hc I2 T st2 f2 i8 kZ hg ht he q ?_
 intro l C H' s' m' hC hn hf hL hfs hI hq
 exact ⟨m',hn,λh2 sb=>⟨.ref l,H',hI h2 sb,rfl,hq⟩⟩
theorem XS {elt target iter:PySem.Expr} {ifs:List PySem.Expr} {pos pos' spos:Pos} {y:Str} {k:Nat} {wi:TI} {g:TG} {tc:TT} {te:TE} (c:eE X scope N own js) (hc:X.calm=true) (hN:X.N.Nodup) (hk:X.N[k]?=some y) (hy:X.env.scope.names.lookup y=some .local) (hi:PI X target iter wi)
  (hg:∀ cl C s0 H0 fp pins,PG (bM X N scope cl C s0 H0 fp pins) target g)
  (ht:∀ cl C s0 H0 fp pins cJ s σ H Q,Inv (bM X N scope cl C s0 H0 fp pins) cJ σ H s->tc σ H Q->wpAny (model X.prog X.w) X.A (forIn ifs true λc r=>if r=true then do let ok ← isTrue c (compEnvC scope cl C X.env) (eval c (compEnvC scope cl C X.env)); pure (ForInStep.yield ok) else pure (ForInStep.yield r))
   (TP (bM X N scope cl C s0 H0 fp pins) cJ σ Q) (λ_ _=>False) s)
  (he:∀ cl C s0 H0 fp pins,PE (bM X N scope cl C s0 H0 fp pins) elt te)
  (hs:∀ x,foldedSetIterable iter X.env x=pure x:=by intro _; rfl)
  (hsw:swapsWith (.ListComp elt [⟨target,iter,ifs,0⟩] scope pos) (some (.Name y pos')) spos.line X.env=pure true:=by rfl):PS X (.Assign [.Name y pos'] (.ListComp elt [⟨target,iter,ifs,0⟩] scope pos) spos) (oV (lA own js wi g tc te) (fQ k)):=by
 intro pins s σ H D I h
 obtain ⟨cl,e1,i8,_,kZ⟩:=BA (env:=X.env) scope.names [] (λp hp hf=>I.ok.has _ (c.free p hp hf)) (λx d e=>by simp at e)
 have hclos:closureFor scope X.env=pure cl:=by
  unfold closureFor
  refine (aok (λz=>z >>= λcs=>pure cs) e1).trans ?_
  rfl
 rw [exec_Assign_Name_used _ _ _ _ hsw]
 refine apg (wpAny_standAt (apg ?_))
 show wpAny _ X.A (do let _ ← comprehension (.ListComp elt [⟨target,iter,ifs,0⟩] scope pos) scope X.env _ (newList []) false (eval iter X.env) (some (assign (.Name y pos') X.env))) _ _ s
 refine apg (aRs (wpAny_comprehension_free (use:=some (assign (.Name y pos') X.env)) (Q:=λ_ s'=>SP X pins D .next s') rfl hs hclos c.kind c.names
  (aRs (hi pins s σ H _ I h) (λxv s1 h1=>aRs h1 (λit s2 h2=>?_) λ_ _ e=>e) λ_ _ e=>e)) (λ_ s' hq=>a5a (a5a hq)) λ_ _ e=>e)
 obtain ⟨it,fp,tn,J,H2,e,I2,T,st2,f2,q⟩:=h2
 subst e
 refine Qx (Q:=λx H1=>fQ k x σ H1 D.nx) (RR:=λacc C=>compPost (model X.prog X.w) X.A X.xe (some (assign (.Name y pos') X.env)) (λ_ s'=>SP X pins D .next s') acc C) c hc I2 T st2 f2 i8 kZ hg ht he q ?_
 intro l C H' s' m' hC hn hf hL hfs hI hq
 have J0:=hI s'.heap (Heap.SameBut.refl ..)
 show wpAny _ X.A (assign (.Name y pos') X.env (.ref l)) _ _ _
 have J1:Inv X pins σ H' s':=J0
 refine wpAny_assign_Name (Qs (v:=.ref l) J1 hN hk (.inl hy) rfl (λs'' QS jG=>?_) (.inr hy))
 obtain ⟨a,sb,ha⟩:=jG
 have hne:C≠a:=by
  rcases ha with rfl | ha
  .exact hL
  .rintro rfl
   obtain ⟨v,⟨o,ho,hd⟩⟩:=J1.cell y C ha
   obtain ⟨o',es,ep,ho',hd',_⟩:=hn
   rw [ho] at ho'; cases ho'
   rw [hd] at hd'; cases hd'
 refine ⟨m',hn.sameBut sb hne,λh2 xg=>?_⟩
 have hok:fz X.prog X.w H' h2:=λb ob e=>(QS.hok b ob e).stay (λd w' hd z=>xg.extBut d w' (by
  rintro rfl
  rcases hd with rfl | hd
  .rw [hf] at e; cases e
  .rw [hf] at hd; cases hd) z) (λ_ z=>z) λ_ _ z=>z
 have rG:∀ x d,X.env.cells.lookup x=some d->d≠C:=λx d e z=>by
  subst z
  obtain ⟨v,⟨o,ho,hd⟩⟩:=J1.cell x d e
  obtain ⟨o',es,ep,ho',hd',_⟩:=hn
  rw [ho] at ho'; cases ho'
  rw [hd] at hd'; cases hd'
 have xU:∀ p∈X.pn++pins,p.1≠C:=λp hp z=>by
  have a1:=(I2.pin p hp).1
  exact absurd (akK (a2R a1) (by rw [z]; exact hC)) (asH _)
 have fin:Inv X pins (σ.set k (some (.ref l))) H' { s'' with heap:=h2 }:=QS.turned (t':=s''.toks) (it:=C) (λb o hb e=>xg.extBut b o hb e) hf hL (.inr (a28 I2.sz hC)) rG xU
 exact ⟨_,H',fin,hq⟩
theorem uS {elt target iter:PySem.Expr} {pos:Pos} {wi:TI} {g:TG} {te:TE} (c:eE X scope N own js) (hc:X.calm=true) (hi:PI X target iter wi)
  (hg:∀ cl C s0 H0 fp pins,PG (bM X N scope cl C s0 H0 fp pins) target g) (he:∀ cl C s0 H0 fp pins,PE (bM X N scope cl C s0 H0 fp pins) elt te)
  (hs:∀ x,foldedSetIterable iter X.env x=pure x:=by intro _; rfl):PE X (.ListComp elt [⟨target,iter,[],0⟩] scope pos) (lA own js wi g tR te) :=
 Pf c hc hi hg (λcl C s0 H0 fp pins cJ s σ H Q I h=>wpAny_tests_nil ⟨H,I,h⟩) he hs
theorem Js {elt target iter LG:PySem.Expr} {pos:Pos} {wi:TI} {g:TG} {tc:TT} {te:TE} (c:eE X scope N own js) (hc:X.calm=true) (hi:PI X target iter wi)
  (hg:∀ cl C s0 H0 fp pins,PG (bM X N scope cl C s0 H0 fp pins) target g) (ht:∀ cl C s0 H0 fp pins,PT (bM X N scope cl C s0 H0 fp pins) LG tc) (he:∀ cl C s0 H0 fp pins,PE (bM X N scope cl C s0 H0 fp pins) elt te)
  (hs:∀ x,foldedSetIterable iter X.env x=pure x:=by intro _; rfl):PE X (.ListComp elt [⟨target,iter,[LG],0⟩] scope pos) (lA own js wi g tc te) :=
 Pf c hc hi hg (λcl C s0 H0 fp pins cJ s σ H Q I h=>wpAny_tests_one (ht cl C s0 H0 fp pins cJ s σ H Q I h)) he hs
theorem Pe {elt target iter:PySem.Expr} {pos pos' spos:Pos} {y:Str} (k:Nat) {wi:TI} {g:TG} {te:TE} (c:eE X scope N own js) (hc:X.calm=true) (hN:X.N.Nodup) (hk:X.N[k]?=some y) (hy:X.env.scope.names.lookup y=some .local) (hi:PI X target iter wi)
  (hg:∀ cl C s0 H0 fp pins,PG (bM X N scope cl C s0 H0 fp pins) target g) (he:∀ cl C s0 H0 fp pins,PE (bM X N scope cl C s0 H0 fp pins) elt te)
  (hs:∀ x,foldedSetIterable iter X.env x=pure x:=by intro _; rfl)
  (hsw:swapsWith (.ListComp elt [⟨target,iter,[],0⟩] scope pos) (some (.Name y pos')) spos.line X.env=pure true:=by rfl):PS X (.Assign [.Name y pos'] (.ListComp elt [⟨target,iter,[],0⟩] scope pos) spos) (oV (lA own js wi g tR te) (fQ k)) :=
 XS c hc hN hk hy hi hg (λcl C s0 H0 fp pins cJ s σ H Q I h=>wpAny_tests_nil ⟨H,I,h⟩) he hs hsw
end
section
variable {X:Cx} {pins:List (Addr×Obj)} {σ:St} {H:Hp} {s:Shared}
theorem fz.zK {P:Program} {w:World} {h h':Heap} {ch:List Addr} (hok:fz P w H h) (hn:∀ b∈ch,H b=none) (k:∀ b o,b∉ch->h.get? b=some o->h'.get? b=some o):fz P w H h':=λb ob e =>
 (hok b ob e).stay (λd u hd z=>k d u (λm=>by
  rcases hd with rfl | hd
  .rw [hn _ m] at e; cases e
  .rw [hn _ m] at hd; cases hd) z) (λ_ z=>z) λ_ _ z=>z
theorem Inv.jh {ch:List Addr} {h':Heap} {t':Nat} (I:Inv X pins σ H s) (hch:∀ b∈ch,jb X pins H b) (k:∀ b o,b∉ch->s.heap.get? b=some o->h'.get? b=some o) :
  Inv X pins σ H { s with heap:=h',toks:=t' }:=by
 have u:Un (frs X.stack) ch H H s.heap h':=⟨λb o q _ _ hx=>k b o hx q,λb o q _ _ hx=>⟨o.slots,k b o hx q⟩,λ_ _ _ n _=>n,λb o q hx=>⟨o,k b o hx q⟩,λ_ _ q=>q,λ_ _ _ q=>q,λ_ _ _ q=>q⟩
 exact I.call (g':=s.gens) (d':=s.drawn) (t':=t') u (I.hok.zK (λb hb=>(hch b hb).1) k) I.bare λb hb=>⟨(hch b hb).2.2.2.1,(hch b hb).2.1,(hch b hb).2.2.2.2.1,(hch b hb).2.2.2.2.2⟩
theorem Inv.m7 {ch:List Addr} {h':Heap} {t':Nat} {o:HO} (I:Inv X pins σ H s) (hch:∀ b∈ch,jb X pins H b) (k:∀ b o,b∉ch->s.heap.get? b=some o->h'.get? b=some o)
  (new:aJ X.prog X.w (upd H s.heap.objs.size o) h' s.heap.objs.size o):Inv X pins σ (upd H s.heap.objs.size o) { s with heap:=h',toks:=t' }:=by
 have fr:H s.heap.objs.size=none:=I.hok.fresh (aEt _)
 have ne:∀ b ob,s.heap.get? b=some ob->b≠s.heap.objs.size:=λb ob e=>ayF (a2R e)
 have nt:∀ b ob,H b=some ob->b≠s.heap.objs.size:=λb ob e=>Ze e fr
 have u:Un (frs X.stack) ch H (upd H s.heap.objs.size o) s.heap h':=⟨λb o q _ _ hx=>k b o hx q,λb o q _ _ hx=>⟨o.slots,k b o hx q⟩,λb ob q n _=>by rw [Zc (ne b ob q)]; exact n,λb o q hx=>⟨o,k b o hx q⟩,
  λb xs q=>by rw [Zc (nt b _ q)]; exact q,λb ob xs q=>by rw [Zc (nt b _ q)]; exact q,λb _ _ q=>by rw [Zc (nt b _ q)]; exact q⟩
 have hok:fz X.prog X.w (upd H s.heap.objs.size o) h':=λb ob e=>by
  by_cases hb:b=s.heap.objs.size
  .subst hb
   rw [Za] at e; cases e
   exact new
  .rw [Zc hb] at e
   refine (I.hok b ob e).stay (λd u hd z=>k d u (λm=>?_) z) (λd z=>by rw [Zc (nt d _ z)]; exact z) (λd xs z=>by rw [Zc (nt d _ z)]; exact z) λd oz z=>by rw [Zc (nt d _ z)]; exact z
   have hn:=(hch d m).1
   rcases hd with rfl | hd
   .rw [hn] at e; cases e
   .rw [hn] at hd; cases hd
 exact I.call (g':=s.gens) (d':=s.drawn) (t':=t') u hok I.bare λb hb=>⟨(hch b hb).2.2.2.1,(hch b hb).2.1,(hch b hb).2.2.2.2.1,(hch b hb).2.2.2.2.2⟩
end
theorem kC {a b:Nat} (h:a<b\/b<a):@Ne Addr a b:=λe=>by
 have e':a=b:=e
 lia
theorem JN (n l1 l2:Nat) (h1:l1<n) (h2:l2<n):ZipApart (n+4) (n+2) (n+3) n (n+1) l1 l2 :=
 ⟨kC (by lia),kC (by lia),kC (by lia),kC (by lia),kC (by lia),kC (by lia),kC (by lia),kC (by lia),kC (by lia),kC (by lia),kC (by lia),kC (by lia),kC (by lia),kC (by lia),kC (by lia),kC (by lia),kC (by lia),kC (by lia)⟩
def tN (K:W.Frag) (a b:Addr):It :=
 ⟨λi H=>∃ xs ys x y,aB K H a xs/\aB K H b ys/\xs[i]?=some x/\ys[i]?=some y,
 λi H v H'=>∃ t x y,H t=none/\v=.ref t/\H'=upd H t (.tup [x,y])/\(∀ xs,aB K H a xs->xs[i]?=some x)/\∀ ys,aB K H b ys->ys[i]?=some y,
 λi H=>∃ xs ys,aB K H a xs/\aB K H b ys/\(xs.length<=i\/ys.length<=i)⟩
theorem Ea {h:Heap} {it l:Addr} {i:Nat} (x:h.IsListIter it l i):∃ o,h.get? it=some o/\∀ v,o.data≠.cell v:=by
 obtain ⟨o,e,c,d⟩:=x
 exact ⟨o,e,λv z=>by rw [d] at z; cases z⟩
theorem Pd {P:Program} {w:World} {K:W.Frag} {elts:List PySem.Expr} {x1} {pos:Pos} (z TI TO i1 i2 a b:Addr) (D:ZipApart z TI TO i1 i2 a b) :
  Turn P w K (.Tuple elts x1 pos) (tN K a b) [z,TI,TO,i1,i2] z (λi h=>IsZip h z TI TO .none/\IsPair h TI (.ref i1) (.ref i2)/\(∃ u v,IsPair h TO u v)/\h.IsListIter i1 a i/\h.IsListIter i2 b i) where
 mem:=by simp
 obj:=λi h st c hc=>by
  obtain ⟨hz,hTI,⟨u,v,hTO⟩,h1,h2⟩:=st
  simp only [aNZ,aQ7,aS0] at hc
  rcases hc with rfl | rfl | rfl | rfl | rfl
  .exact ⟨_,hz,λv e=>by cases e⟩
  .exact ⟨_,hTI,λv e=>by cases e⟩
  .exact ⟨_,hTO,λv e=>by cases e⟩
  .exact Ea h1
  .exact Ea h2
 keep:=λi h h' st k=>by
  obtain ⟨hz,hTI,⟨u,v,hTO⟩,h1,h2⟩:=st
  exact ⟨k z (by simp) _ hz,k TI (by simp) _ hTI,⟨u,v,k TO (by simp) _ hTO⟩,h1.at λo e=>k i1 (by simp) o e,h2.at λo e=>k i2 (by simp) o e⟩
 item:=by
  intro X hP hw hK hc i pins s σ H E I hf st hg
  subst hP hw hK
  obtain ⟨xs,ys,x,y,ni,ng,hx,hy⟩:=hg
  obtain ⟨hz,hTI,⟨u0,v0,hTO⟩,h1,h2⟩:=st
  obtain ⟨jw,ra,pa,za⟩:=I.list ni
  obtain ⟨jN,rb,pb,zb⟩:=I.list ng
  obtain ⟨ux,hux,FG⟩:=ra.get hx
  obtain ⟨uy,GS,FF⟩:=rb.get hy
  refine wpAny_pyNext_zip_item D hz hTI hTO h1 h2 pa.isList pb.isList (x:=ux) (y:=uy) (by simpa using hux) (by simpa using GS) λh' a1 a2 a3 a4 a5 a6 a7=>?_
  refine ⟨.ref s.heap.objs.size,rfl,?_⟩
  refine wpAny_letOwnedTupleGo_zip a1 λh2' hz' hs'=>?_
  have qD:z<s.heap.objs.size:=a2R hz
  have kk:∀ c o,c∉[z,TI,TO,i1,i2]->s.heap.get? c=some o->h2'.get? c=some o:=λc o hc e=>by
   simp only [aNZ,aQ7,aS0,not_or] at hc
   exact hs'.extBut c o hc.1 (a7 c o hc.1 hc.2.2.1 hc.2.2.2.1 hc.2.2.2.2 e)
  have tp:h2'.get? s.heap.objs.size=some { cls:=.type "tuple",data:=.seq #[ux,uy] }:=hs'.extBut _ _ (anG qD) a5
  have I1:Inv X pins σ (upd H s.heap.objs.size (.tup [x,y])) { s with heap:=h2',toks:=s.toks } :=
   I.m7 hf kk ⟨by show 2<=sizeLine; decide,[ux,uy],.cons FG (.cons FF .nil),⟨_,tp,rfl,_,rfl⟩⟩
  have Lu:h2'.get? TI=s.heap.get? TI:=by
   rw [hTI]
   exact hs'.extBut _ _ D.TIz (a7 _ _ D.TIz D.TITO D.TIi1 D.TIi2 hTI)
  refine ⟨.ref s.heap.objs.size,_,I1,rfl,⟨s.heap.objs.size,x,y,I.hok.fresh (aEt _),rfl,rfl,λxs' h=>by rw [I.fO h ni]; exact hx,λys' h=>by rw [I.fO h ng]; exact hy⟩,⟨hz',?_,⟨ux,uy,hs'.extBut _ _ D.TOz a2⟩,a3.at λo e=>hs'.extBut _ o D.i1z e,a4.at λo e=>hs'.extBut _ o D.i2z e⟩,λc hc=>?_⟩
  .show h2'.get? TI=_
   rw [Lu]; exact hTI
  .have hc':=hc
   have hlt:c<s.heap.objs.size:=by
    simp only [aNZ,aQ7,aS0] at hc'
    rcases hc' with rfl | rfl | rfl | rfl | rfl
    .exact qD
    .exact a2R hTI
    .exact a2R hTO
    .obtain ⟨o,e,_⟩:=Ea h1; exact a2R e
    .obtain ⟨o,e,_⟩:=Ea h2; exact a2R e
   rw [Zc (ayF hlt)]
   exact (hf c hc).1
 done:=by
  intro X hP hw hK hc i pins s σ H E I hf st hg
  subst hP hw hK
  obtain ⟨xs,ys,ni,ng,hend⟩:=hg
  obtain ⟨hz,hTI,⟨u0,v0,hTO⟩,h1,h2⟩:=st
  obtain ⟨jw,ra,pa,za⟩:=I.list ni
  obtain ⟨jN,rb,pb,zb⟩:=I.list ng
  have la:=ra.length
  have lb:=rb.length
  refine wpAny_pyNext_zip_end (I.ok.hd hc) D hz hTI hTO h1 h2 pa.isList pb.isList ?_ λh' hk=>⟨rfl,?_⟩
  .rcases hend with q | q
   .exact .inl (by simp; lia)
   .exact .inr (by simp; lia)
  .refine I.jh (t':=s.toks) hf λc o hc e=>?_
   simp only [aNZ,aQ7,aS0,not_or] at hc
   exact hk c o hc.1 hc.2.2.1 hc.2.2.2.1 hc.2.2.2.2 e
 self:=λ_ _ _ _ _ st h=>auO st.1 h
def GL (K:W.Frag) (ta:TA):TI:=λσ H R=>ta σ H λvs H1=>∃ a b,vs=[.ref a,.ref b]/\(∃ xs,aB K H1 a xs)/\(∃ ys,aB K H1 b ys)/\R (tN K a b) H1
section
variable {X:Cx}
theorem Pc:bootBuiltins "zip" = some (.type "zip"):=by first | rfl | decide +kernel | kernel_rfl
theorem ZfC:bootBuiltins "enumerate" = some (.type "enumerate"):=by first | rfl | decide +kernel | kernel_rfl
theorem WM {elts:List PySem.Expr} {x1} {tpos:Pos} {a b:PySem.Expr} {ta:TA} {p pos:Pos} (hg:Gl X "zip") (hm:X.mg "zip" = none) (ha:PA X [a,b] ta) (hs:starEach [a,b] X.env=[(false,eval a X.env),(false,eval b X.env)]:=by rfl) (hs2:starEach [b] X.env=[(false,eval b X.env)]:=by rfl) :
  PI X (.Tuple elts x1 tpos) (.Call (.Name "zip" p) [a,b] [] pos) (GL X.K ta):=by
 intro pins s σ H R I h
 refine Call_ (pQ I hg hm Pc (aC1 (mR (ha pos pins s σ H _ I h) λus s1 vs H1 I1 r1 q1=>?_) (by rw [hs,hs2]) (by rw [hs2]; rfl)))
 obtain ⟨l1,l2,e,⟨xs,ni⟩,⟨ys,ng⟩,q⟩:=q1
 subst e
 obtain ⟨v1,v2,rfl,r,r'⟩:=vals2 r1
 cases r
 cases r'
 obtain ⟨jw,ra,pa,za⟩:=I1.list ni
 obtain ⟨jN,rb,pb,zb⟩:=I1.list ng
 have qv:l1<s1.heap.objs.size:=by obtain ⟨o,e,_⟩:=pa.isList; exact a2R e
 have vB:l2<s1.heap.objs.size:=by obtain ⟨o,e,_⟩:=pb.isList; exact a2R e
 refine call_zip_2 pa.isList pb.isList λh' g5 g3 g4 g1 g2 hsz kp=>auO g5 ?_
 refine ⟨_,[_,_,_,_,_],_,_,H1,rfl,I1.kept (t':=s1.toks) kp,Pd _ _ _ _ _ l1 l2 (JN s1.heap.objs.size l1 l2 qv vB),⟨g5,g3,⟨_,_,g4⟩,g1,g2⟩,λc hc=>?_,q⟩
 have hc':s1.heap.objs.size<=c:=by
  simp only [aNZ,aQ7,aS0] at hc
  rcases hc with rfl | rfl | rfl | rfl | rfl <;> first | exact aEt _ | exact Nat.le_add_right _ _
 exact I1.lV hc' (I1.hok.fresh hc')
def BW (K:W.Frag) (a:Addr):It :=
 ⟨λi H=>∃ xs x,aB K H a xs/\xs[i]?=some x,
 λi H v H'=>∃ t x,H t=none/\v=.ref t/\H'=upd H t (.tup [.int i,x])/\∀ xs,aB K H a xs->xs[i]?=some x,
 λi H=>∃ xs,aB K H a xs/\xs.length=i⟩
theorem YG {P:Program} {w:World} {K:W.Frag} {elts:List PySem.Expr} {x1} {pos:Pos} (e it a:Addr) (hei:e≠it) (UP:a≠e) (hai:a≠it) :
  Turn P w K (.Tuple elts x1 pos) (BW K a) [e,it] e (λi h=>(∃ old,IsEnum h e it i old)/\h.IsListIter it a i) where
 mem:=by simp
 obj:=λi h st c hc=>by
  obtain ⟨⟨old,he⟩,h1⟩:=st
  simp only [aNZ,aQ7,aS0] at hc
  rcases hc with rfl | rfl
  .exact ⟨_,he,λv z=>by cases z⟩
  .obtain ⟨o,q,c,d⟩:=h1; exact ⟨o,q,λv z=>by rw [d] at z; cases z⟩
 keep:=λi h h' st k=>by
  obtain ⟨⟨old,he⟩,h1⟩:=st
  exact ⟨⟨old,k e (by simp) _ he⟩,h1.at λo q=>k it (by simp) o q⟩
 item:=by
  intro X hP hw hK hc i pins s σ H E I hf st hg
  subst hP hw hK
  obtain ⟨xs,x,hq,hx⟩:=hg
  obtain ⟨⟨old,he⟩,h1⟩:=st
  obtain ⟨its,rv,p,hz⟩:=I.list hq
  obtain ⟨u,hu,ru⟩:=rv.get hx
  have hlt:i<its.toArray.size:=by
   have:=(a2U.mp hu).1
   simpa using this
  refine wpAny_pyNext_enum_itemD (Draws.list (A:=X.A.in1) (show X.A.in1.handled=none from I.ok.hd hc) it a hai its.toArray) he ⟨h1,p.isList⟩ hlt hei (by simp [hei,a4v UP]) λv h' tk hP ho hs' hT hsz hk=>?_
  have oY:v=u:=by
   have z:its[i]?=some v:=by simpa using hP
   rw [hu] at z; exact (avM z).symm
  subst oY
  refine ⟨.ref s.heap.objs.size,rfl,?_⟩
  refine wpAny_letOwnedTupleGo_enum ho λh2 UG xg=>?_
  have helt:e<s.heap.objs.size:=a2R he
  have kk:∀ c o,c∉[e,it]->s.heap.get? c=some o->h2.get? c=some o:=λc o hc q=>by
   simp only [aNZ,aQ7,aS0,not_or] at hc
   exact (xg.2 c hc.1).trans (hk c o hc.1 hc.2 q)
  have tp:h2.get? s.heap.objs.size=some { cls:=.type "tuple",data:=.seq #[.int i tk,v] }:=(xg.2 _ (anG helt)).trans hT
  have I1:Inv X pins σ (upd H s.heap.objs.size (.tup [.int i,x])) { s with heap:=h2,toks:=tk+1 } :=
   I.m7 hf kk ⟨by show 2<=sizeLine; decide,[.int i tk,v],.cons ⟨tk,rfl⟩ (.cons ru .nil),⟨_,tp,rfl,_,rfl⟩⟩
  refine ⟨.ref s.heap.objs.size,_,I1,rfl,⟨s.heap.objs.size,x,I.hok.fresh (aEt _),rfl,rfl,λys hy=>by rw [I.fO hy hq]; exact hx⟩,⟨⟨v,by simpa using UG⟩,hs'.1.at λo q=>(xg.2 _ (a4v hei)).trans q⟩,λc hc=>?_⟩
  have hlt':c<s.heap.objs.size:=by
   simp only [aNZ,aQ7,aS0] at hc
   rcases hc with rfl | rfl
   .exact helt
   .obtain ⟨o,q,_⟩:=h1; exact a2R q
  rw [Zc (ayF hlt')]
  exact (hf c hc).1
 done:=by
  intro X hP hw hK hc i pins s σ H E I hf st hg
  subst hP hw hK
  obtain ⟨xs,hq,hx⟩:=hg
  obtain ⟨⟨old,he⟩,h1⟩:=st
  obtain ⟨its,rv,p,hz⟩:=I.list hq
  have hl:=rv.length
  have ei:i=its.toArray.size:=by simp; lia
  subst ei
  refine wpAny_pyNext_enum_endD (Draws.list (A:=X.A.in1) (show X.A.in1.handled=none from I.ok.hd hc) it a hai its.toArray) he ⟨h1,p.isList⟩ λh' hx'=>⟨rfl,?_⟩
  refine I.jh (t':=s.toks) hf λc o hc q=>?_
  simp only [aNZ,aQ7,aS0,not_or] at hc
  exact hx' c o hc.2 q
 self:=λ_ _ _ _ _ st h=>by
  obtain ⟨⟨old,he⟩,_⟩:=st
  exact wpAny_pyIter_enum he h
def Ai (K:W.Frag) (ta:TA):TI:=λσ H R=>ta σ H λvs H1=>∃ a,vs=[.ref a]/\(∃ xs,aB K H1 a xs)/\R (BW K a) H1
theorem Ot {elts:List PySem.Expr} {x1} {tpos:Pos} {a:PySem.Expr} {ta:TA} {p pos:Pos} (hg:Gl X "enumerate") (hm:X.mg "enumerate" = none) (ha:PA X [a] ta) (hs:starEach [a] X.env=[(false,eval a X.env)]:=by rfl) :
  PI X (.Tuple elts x1 tpos) (.Call (.Name "enumerate" p) [a] [] pos) (Ai X.K ta):=by
 intro pins s σ H R I h
 refine Call_ (pQ I hg hm ZfC (aC1 (mR (ha pos pins s σ H _ I h) λus s1 vs H1 I1 r1 q1=>?_) hs rfl))
 obtain ⟨l,e,⟨xs,hq⟩,q⟩:=q1
 subst e
 cases r1 with
 | cons r rr =>
  cases rr
  cases r
  obtain ⟨its,rv,pl,hz⟩:=I1.list hq
  have qv:l<s1.heap.objs.size:=by obtain ⟨o,e,_⟩:=pl.isList; exact a2R e
  refine call_enumerate_list pl.isList λh' he hi hsz hk=>?_
  refine wpAny_pyIter_enum he ?_
  refine ⟨s1.heap.objs.size+1,[s1.heap.objs.size+1,s1.heap.objs.size],_,_,H1,rfl,I1.kept (t':=s1.toks) hk,YG (s1.heap.objs.size+1) s1.heap.objs.size l (Nat.succ_ne_self _) (kC (.inl (aW2 qv))) (ayF qv),⟨⟨_,he⟩,hi⟩,λc hc=>?_,q⟩
  have hc':s1.heap.objs.size<=c:=by
   simp only [aNZ,aQ7,aS0] at hc
   rcases hc with rfl | rfl <;> lia
  exact I1.lV hc' (I1.hok.fresh hc')
end
def rq (H:Hp):V->Option String
 | .aT=>some "NoneType"
 | .bl _=>some "bool"
 | .int _=>some "int"
 | .str _=>some "str"
 | .ref a=>match H a with
  | some (.lst _)=>some "list"
  | some (.cW _ (.lst _))=>some "list"
  | some (.tup _)=>some "tuple"
  | some (.dK _)=>some "dict"
  | some (.dT _)=>some "dict"
  | _=>none
 | _=>none
theorem NQ {K:W.Frag} {H:Hp} {x:V} {t:String} (h:rq H x=some t):iG K H x (.type t):=by
 cases x with
 | aT=>cases h; exact .aT
 | bl b=>cases h; exact .bl b
 | int i=>cases h; exact .int i
 | str z=>cases h; exact .str z
 | ref a =>
  simp only [rq] at h
  split at h
  .rename_i e; cases h; exact .lst e
  .rename_i e; cases h; exact .cW e
  .rename_i e; cases h; exact .tup e
  .rename_i e; cases h; exact .dK e
  .rename_i e; cases h; exact .dT e
  .cases h
 | _=>cases h
def jj (t c:String):Bool:=t == c || (t == "bool" && c == "int")
def Dj:List String:=["NoneType", "bool", "int", "str", "list", "tuple", "dict"]
def wm:List String:=["bool", "int", "str", "list", "tuple", "dict"]
theorem JM (K:W.Frag):∀ t∈Dj,∀ c∈wm,W.kitOne K (.type t) (.type c)=some (jj t c):=by
 intro t ht c hc
 simp only [Dj,aNZ,aQ7,aS0] at ht
 simp only [wm,aNZ,aQ7,aS0] at hc
 rcases ht with rfl | rfl | rfl | rfl | rfl | rfl | rfl <;> rcases hc with rfl | rfl | rfl | rfl | rfl | rfl <;> rfl
theorem P5 {H:Hp} {x:V} {t:String} (h:rq H x=some t):t∈Dj:=by
 cases x with
 | aT=>cases h; decide
 | bl b=>cases h; decide
 | int i=>cases h; decide
 | str z=>cases h; decide
 | ref a =>
  simp only [rq] at h
  split at h <;> first | (cases h; decide) | cases h
 | _=>cases h
section
variable {X:Cx}
def FL:List V->Hp->VK->Prop:=λxs H Q=>∃ x t c,xs=[x,.ty c]/\rq H x=some t/\c∈wm/\Q (.bl (jj t c)) H
theorem uR:bH X (.builtin "isinstance") FL:=by
 intro pins s σ H xs us Q I r h
 obtain ⟨x,t,c,rfl,ht,hc,q⟩:=h
 obtain ⟨u,w',rfl,rx,rc⟩:=vals2 r
 cases rc
 exact YN I rx (NQ ht) (JM X.K t (P5 ht) c hc) λtk=>⟨.bl _,H,I.tok tk,rfl,q⟩
def zl:List V->Hp->VK->Prop:=λxs H Q=>∃ x t c d p,xs=[x,.ref p]/\H p=some (.tup [.ty c,.ty d])/\rq H x=some t/\c∈wm/\d∈wm/\Q (.bl (jj t c || jj t d)) H
theorem XR (K:W.Frag) {t c d:String} (ht:t∈Dj) (hc:c∈wm) (hd:d∈wm):W.kitAny K (.type t) [.type c,.type d]=some (jj t c || jj t d):=by
 unfold W.kitAny
 rw [JM K t ht c hc]
 cases jj t c with
 | true=>rfl
 | false =>
  show W.kitAny K (.type t) [.type d]=some (jj t d)
  unfold W.kitAny
  rw [JM K t ht d hd]
  cases jj t d <;> rfl
theorem P4:bH X (.builtin "isinstance") zl:=by
 intro pins s σ H xs us Q I r h
 obtain ⟨x,t,c,d,p,rfl,hp,ht,hc,hd,q⟩:=h
 obtain ⟨u,w',rfl,rx,rc⟩:=vals2 r
 cases rc
 obtain ⟨_,its,rv,⟨o,ho,hcl,n,hdt⟩⟩:=(show aJ X.prog X.w H s.heap p (.tup [.ty c,.ty d]) from I.hok p _ hp)
 obtain ⟨u1,u2,rfl,r1,r2⟩:=vals2 rv
 cases r1
 cases r2
 have e:=XR X.K (P5 ht) hc hd
 have fin:∀ tk,EP X pins σ Q (.bool (jj t c || jj t d)) { s with toks:=tk }:=λtk=>⟨.bl _,H,I.tok tk,rfl,q⟩
 have htp:s.heap.get? p=some ⟨.type "tuple",o.dict,.seq [Value.type c,Value.type d].toArray n,o.slots⟩:=by
  rw [ho]
  obtain ⟨oc,od,odt,osl⟩:=o
  cases hcl; cases hdt
  rfl
 have ty:=NQ (K:=X.K) ht
 generalize hT:Value.type t=T at ty e
 cases ty with
 | aT=>cases (show u=Value.none from rx); exact aml W.kitx_none I.d8 True.intro htp e (λz=>nomatch z) fin
 | bl y=>cases (show u=Value.bool y from rx); exact aml W.kitx_bool I.d8 True.intro htp e (λz=>nomatch z) fin
 | int i=>obtain ⟨t,q⟩:=(show ∃ t,u=Value.int i t from rx); cases q; exact aml W.kitx_int I.d8 True.intro htp e (λz=>nomatch z) fin
 | str y=>obtain ⟨t,q⟩:=(show ∃ t,u=Value.str y t from rx); cases q; exact aml W.kitx_str I.d8 True.intro htp e (λz=>nomatch z) fin
 | sM y=>obtain ⟨t,q⟩:=(show ∃ t,u=Value.float y t from rx); cases q; exact aml W.kitx_float I.d8 True.intro htp e (λz=>nomatch z) fin
 | @lst a xs ea =>
  cases (show u=Value.ref a from rx)
  obtain ⟨_,_,n,_,h1⟩:=(show aJ X.prog X.w H s.heap a (.lst xs) from I.hok a _ ea)
  exact aml W.kitx_list I.d8 ⟨_,h1,rfl⟩ htp e (λz=>nomatch z) fin
 | @cW a ob xs ea =>
  cases (show u=Value.ref a from rx)
  obtain ⟨_,_,_,n,_,h1⟩:=(show aJ X.prog X.w H s.heap a (.cW ob (.lst xs)) from I.hok a _ ea)
  exact aml W.kitx_list I.d8 ⟨_,h1,rfl⟩ htp e (λz=>nomatch z) fin
 | @tup a xs ea =>
  cases (show u=Value.ref a from rx)
  obtain ⟨_,_,_,p⟩:=(show aJ X.prog X.w H s.heap a (.tup xs) from I.hok a _ ea)
  obtain ⟨o,h1,h2,_⟩:=p
  exact aml W.kitx_tuple I.d8 ⟨o,h1,h2⟩ htp e (λz=>nomatch z) fin
 | @dK a kvs ea =>
  cases (show u=Value.ref a from rx)
  obtain ⟨_,_,vs,_,p⟩:=(show aJ X.prog X.w H s.heap a (.dK kvs) from I.hok a _ ea)
  obtain ⟨o,es,ep,h1,h2,_⟩:=p
  exact aml W.kitx_dict I.d8 ⟨o,h1,h2.1⟩ htp e (λz=>nomatch z) fin
 | @dT a kvs ea =>
  cases (show u=Value.ref a from rx)
  obtain ⟨_,_,xs,_,o,es,ep,h1,h2,_⟩:=(show aJ X.prog X.w H s.heap a (.dT kvs) from I.hok a _ ea)
  exact aml W.kitx_dict I.d8 ⟨o,h1,h2.1⟩ htp e (λz=>nomatch z) fin
 | ins e'=>cases hT
theorem rO:bootBuiltins "isinstance" = some (.builtin "isinstance"):=by first | rfl | decide +kernel | kernel_rfl
theorem Pb:bootBuiltins "all" = some (.builtin "all"):=by first | rfl | decide +kernel | kernel_rfl
theorem Pa:bootBuiltins "any" = some (.builtin "any"):=by first | rfl | decide +kernel | kernel_rfl
theorem O9:bootBuiltins "max" = some (.builtin "max"):=by first | rfl | decide +kernel | kernel_rfl
theorem XQ:bootBuiltins "min" = some (.builtin "min"):=by first | rfl | decide +kernel | kernel_rfl
theorem O8:bootBuiltins "abs" = some (.builtin "abs"):=by first | rfl | decide +kernel | kernel_rfl
theorem Zij:bootBuiltins "divmod" = some (.builtin "divmod"):=by first | rfl | decide +kernel | kernel_rfl
theorem Eb:bootBuiltins "int" = some (.type "int"):=by first | rfl | decide +kernel | kernel_rfl
theorem Qw:bootBuiltins "bool" = some (.type "bool"):=by first | rfl | decide +kernel | kernel_rfl
theorem JL:bootBuiltins "str" = some (.type "str"):=by first | rfl | decide +kernel | kernel_rfl
theorem ZZ:bootBuiltins "list" = some (.type "list"):=by first | rfl | decide +kernel | kernel_rfl
theorem Ej:bootBuiltins "tuple" = some (.type "tuple"):=by first | rfl | decide +kernel | kernel_rfl
theorem JK:∀ {bs:List Bool} {its:List Value},Vals (bs.map V.bl) its->its=bs.map Value.bool
 | [],_,.nil=>rfl
 | b :: bs,_,.cons r t=>by rw [JK t]; cases r; rfl
theorem Qv {bs:List Bool} (f:Nat->Bool) (hf:∀ i b,bs[i]?=some b->f i=b):(List.range bs.length).map f=bs:=by
 apply afx
 intro i
 rw [aBK]
 by_cases h:i<bs.length
 .rw [aHk h,af3 h]
  simp only [a7q]
  rw [hf i _ (af3 h)]
 .rw [aaz (by simpa using h),aaz (by lia)]; rfl
theorem P1 (hc:X.calm=true):bH X (.builtin "all") (λxs H Q=>∃ (p:Addr) (bs:List Bool),xs=[.ref p]/\aB X.K H p (bs.map V.bl)/\Q (.bl (bs.all id)) H):=by
 intro pins s σ H xs us Q I r h
 obtain ⟨p,bs,rfl,hq,q⟩:=h
 obtain ⟨u,rfl,rx⟩:=vals1 r
 cases rx
 obtain ⟨its,rv,pl,hz⟩:=I.list hq
 have e:=JK rv
 subst e
 refine call_all_walk (wpAny_pyIter_list pl.isList ?_)
 refine ⟨s.heap.objs.size,_,[s.heap.objs.size],_,_,_,λi=>bs.getD i true,rfl,Walks.list (A:=X.A.in1) (show X.A.in1.handled=none from I.ok.hd hc) s.heap.objs.size p ?_ (bs.map Value.bool).toArray,⟨⟨_,aYI _ rfl,rfl,rfl⟩,pl.isList.at λo e=>aXX _ e⟩,?_,?_⟩
 .obtain ⟨o,e,_⟩:=pl.isList; exact ayF (a2R e)
 .intro i v s' Q' E' hP hQ
  have oY:(bs.map Value.bool)[i]?=some v:=by simpa using hP
  rw [aBK] at oY
  cases z:bs[i]? with
  | none=>rw [z] at oY; cases oY
  | some b =>
   rw [z] at oY
   cases oY
   have:bs.getD i true=b:=by rw [a9e,z]; rfl
   have Aw:Q' (bs.getD i true) s':=hQ
   rw [this] at Aw
   exact aSH Aw
 .intro h' tk hk
  refine ⟨.bl (bs.all id),H,I.kept (t':=tk) (λb o e=>hk b o (by simpa using ayF (a2R e)) (aXX _ e)),?_,q⟩
  have z:(List.range bs.length).map (λi=>bs.getD i true)=bs:=Qv _ λi b e=>by rw [a9e,e]; rfl
  have z2:(List.range bs.length).all (λi=>bs.getD i true)=bs.all id:=by
   conv=>rhs; rw [← z]
   rw [List.all_map]; rfl
  show Value.bool _=Value.bool _
  have z3:(bs.map Value.bool).toArray.size=bs.length:=by simp
  rw [z3,z2]
theorem WL (lo:Int) (n:Nat):∀ {acc:Array Value},ItemsOf (λi v=>∃ t,v=.int (lo+i * 1) t) acc n->Vals ((List.range n).map λi=>V.int (lo+(i:Nat))) acc.toList:=by
 intro acc h
 obtain ⟨hs,hi⟩:=h
 have gen:∀ (l:List Value) (k:Nat) (xs:List V),xs.length=l.length->(∀ (j:Nat) (v:Value) (x:V),l[j]?=some v->xs[j]?=some x->RelV x v)->Vals xs l:=by
  intro l
  induction l with
  | nil=>intro k xs hl _; cases xs with | nil=>exact .nil | cons _ _=>simp at hl
  | cons u l ih =>
   intro k xs hl hr
   cases xs with
   | nil=>simp at hl
   | cons x xs=>exact .cons (hr 0 u x rfl rfl) (ih k xs (by simpa using hl) λj v y e1 e2=>hr (j+1) v y (by simpa using e1) (by simpa using e2))
 refine gen _ 0 _ (by simp [hs]) λj v x e1 e2=>?_
 have oE:acc[j]?=some v:=by simpa using e1
 obtain ⟨t,rfl⟩:=hi j v oE
 have hj:j<n:=by rw [← hs]; exact (Array.getElem?_eq_some_iff.mp oE).1
 rw [aBK,aHk hj] at e2
 cases e2
 exact ⟨t,by simp⟩
def ZkE (ta:TA):TE:=λσ H Q=>ta σ H λvs H1=>∃ i j:Int,vs=[.int i,.int j]/\(-(2 ^ 62)<=i/\i<2 ^ 62 /\ -(2 ^ 62)<=j/\j<2 ^ 62)/\(j - i).toNat<=sizeLine /\
 ∀ p,H1 p=none->Q (.ref p) (upd H1 p (.lst ((List.range (j - i).toNat).map λk=>V.int (i+(k:Nat)))))
theorem Zhp {a b:PySem.Expr} {ta:TA} {p q pos pos2:Pos} (hc:X.calm=true) (UD:Gl X "list") (hm1:X.mg "list" = none) (hg:Gl X "range") (hm:X.mg "range" = none) (ha:PA X [a,b] ta)
  (hs:starEach [a,b] X.env=[(false,eval a X.env),(false,eval b X.env)]:=by rfl) (hs2:starEach [b] X.env=[(false,eval b X.env)]:=by rfl)
  (CW:starEach [PySem.Expr.Call (.Name "range" p) [a,b] [] pos] X.env=[(false,eval (PySem.Expr.Call (.Name "range" p) [a,b] [] pos) X.env)]:=by rfl) :
  PE X (.Call (.Name "list" q) [.Call (.Name "range" p) [a,b] [] pos] [] pos2) (ZkE ta):=by
 intro pins s σ H Q I h
 refine Call_ (pQ I UD hm1 ZZ (aC1 (Q:=EP X pins σ Q) ?_ CW rfl))
 rw [CW]
 refine avt (Call_ (pQ I hg hm boot_range (aC1 (mR (ha pos pins s σ H _ I h) λus s1 vs H1 I1 r1 q1=>?_) (by rw [hs,hs2]) (by rw [hs2]; rfl))))
 obtain ⟨i,j,e,⟨q1,q2,q3,q4⟩,hz,q⟩:=q1
 subst e
 cases r1 with
 | cons r rr =>
  cases rr with
  | cons r' rr =>
   cases rr
   obtain ⟨t,rfl⟩:=r
   obtain ⟨t',rfl⟩:=r'
   refine call_range_2 (aQr ?_)
   have I2:Inv X pins σ H1 { s1 with heap:=s1.heap.push { cls:=.type "range",data:=.fields #[.int i t,.int j t',.int 1 s1.toks] },toks:=s1.toks+1 }:=I1.kept λb o e=>aXX _ e
   have hsz:sizeLine=16777216:=aLq
   refine call_list_range (n:=(j - i).toNat) (I.ok.hd hc) (IsRange.new ..) (small_one q1 q2 q3 q4) (by rw [rangeSize_one]; split <;> lia) (by lia) λh' tk acc' c' hk hS hit=>?_
   refine ⟨.ref _,_,I2.laid (o:=.lst ((List.range (j - i).toNat).map λk=>V.int (i+(k:Nat)))) hk (aEt _) ⟨by simpa using hz,acc'.toList,c',WL i _ hit,by simpa using hS⟩,rfl,q _ (I2.hok.fresh (aEt _))⟩
end
structure Def (P:Program) (w:World) (K:W.Frag) (mg:Str->Option Value) (base:Heap) (x:Str) (k:Nat) (ps:List Str) (sp:Sp):Prop where
 ex:∃ (f:Addr) (fd:FuncData),av P w K mg base aV k f fd ps sp/\mg x=some (.ref f)/\W.keepIn K (.ref f)=true/\Binds K fd ps []
section
variable {X:Cx} {x:Str} {p pos:Pos} {e:PySem.Expr} {es:List PySem.Expr} {t:TA} {k:Nat} {ps:List Str} {sp:Sp}
theorem WK (D:Def X.prog X.w X.K X.mg X.base x k ps sp) (hr:bf k X.A) (hg:Gl X x) (ha:PA X (e :: es) t)
  (he:starEach (e :: es) X.env=(false,eval e X.env) :: starEach es X.env:=by rfl) (hpl:(backTo pos (starEach es X.env)).any (·.1)=false:=by rfl) (hd:(x == ("__debug__" : Str))=false:=by decide) :
  PE X (.Call (.Name x p) (e :: es) [] pos) (nL sp [] E0 t):=by
 obtain ⟨f,fd,F,hm,hk,hb⟩:=D.ex
 exact Xn F hr hg hm hk hb .nil oj ha (hdb:=hd) (he:=he) (hpl:=hpl)
end
theorem mJ {X:Cx} {K:W.Frag} {es:List PySem.Expr} {k:Nat} {t:uT} {n:Nat} {pos:Pos} (hK:X.K=K) (hc:X.calm=true) (h:BP X es t)
  (hn:(assignEach es X.env).length=n:=by rfl) (hst:(assignEach es X.env).findIdx? (·.1)=none:=by rfl):PG X (.Tuple es k pos) (Ay K n t):=by
 subst hK
 exact WX hc h hn hst
def uE (iZ:Scope) (oN:List Str) (scope:Scope) (N:List Str) (own:Nat) (js:List Nat):Bool :=
 scope.kind == .function && scope.names.all (λy=>y.2 != .cell || scope.names.lookup y.1 == some .cell) && scope.names.all (λy=>y.2 != .local || scope.names.lookup y.1 == some .local) &&
 scope.names.all (λy=>y.2 != .free || (iZ.names.lookup y.1 == some .cell || iZ.names.lookup y.1 == some .free)) && N.length == own+js.length &&
 (js.map λj=>oN[j]?) == (N.drop own).map some && (N.drop own).all λx=>scope.names.lookup x == some .free
theorem ZL {X:Cx} {iZ:Scope} {oN:List Str} {scope:Scope} {N:List Str} {own:Nat} {js:List Nat} (h:uE iZ oN scope N own js=true) (hs:X.env.scope=iZ) (hN:X.N=oN):eE X scope N own js:=by
 unfold uE at h
 simp only [apN,aXt,Bool.or_eq_true,aTL,bne_iff_ne,ne_eq] at h
 obtain ⟨⟨⟨⟨⟨⟨h1,h2⟩,h3⟩,h4⟩,h5⟩,h6⟩,h7⟩:=h
 refine ⟨h1,λy hy hl=>?_,λy hy hl=>?_,λy hy hf=>?_,h5,λk j e=>?_,λk x e=>?_⟩
 .rcases h2 y hy with q | q
  .exact absurd hl q
  .exact q
 .rcases h3 y hy with q | q
  .exact absurd hl q
  .exact q
 .rcases h4 y hy with q | q
  .exact absurd hf q
  .show X.env.scope.names.lookup y.1=_\/X.env.scope.names.lookup y.1=_
   rw [hs]; exact q
 .rw [hN]
  have z:=aok (λl=>l[k]?) h6
  simp only [aBK,e,a7q,getElem?_drop] at z
  cases q:N[own+k]? with
  | none=>rw [q] at z; cases z
  | some y=>rw [q] at z; exact (avM z).symm
 .refine h7 x ?_
  exact aBD (i:=k) (by rw [getElem?_drop]; exact e)
def SB (b:Addr) (H H':Hp):Prop:=∀ a o,a≠b->H a=some o->H' a=some o
theorem SB.trans {b:Addr} {H H1 H2:Hp} (x:SB b H H1) (y:SB b H1 H2):SB b H H2:=λa o n h=>y a o n (x a o n h)
theorem az.sb {H H':Hp} (x:az H H') (b:Addr):SB b H H':=λa o _ h=>x a o h
theorem yh (b:Addr) (H:Hp) (o:HO):SB b H (upd H b o):=λa u n h=>by rw [Zc n]; exact h
theorem Zd {H:Hp} {p:Addr} (h:H p=none) (o:HO):az H (upd H p o):=λb u q=>by rw [Zc (Ze q h)]; exact q
def jR (n:Nat) (l:Addr) (Pv:Nat->List V->St->Hp->Prop) (i:Nat) (ys:List V) (σ:St) (y:V) (H:Hp):Prop :=
 H l=some (.lst ys)/\ys.length<sizeLine/\∃ m',m'<n - i/\(m'=n - (i+1)/\i+1<=n/\(ys++[y]).length<=i+1/\Pv (i+1) (ys++[y]) σ (upd H l (.lst (ys++[y]))))
def rR (n:Nat) (Pv:Nat->List V->St->Hp->Prop) (i:Nat) (ys:List V) (σ:St) (H:Hp):Prop:=∃ m',m'<n - i/\(m'=n - (i+1)/\i+1<=n/\ys.length<=i+1/\Pv (i+1) ys σ H)
theorem jR.of {n:Nat} {l:Addr} {Pv:Nat->List V->St->Hp->Prop} {i:Nat} {ys:List V} {σ:St} {y:V} {H:Hp} (hn:n<=sizeLine) (hi:i<n) (hy:ys.length<=i) (h1:H l=some (.lst ys)) (h2:Pv (i+1) (ys++[y]) σ (upd H l (.lst (ys++[y])))):jR n l Pv i ys σ y H :=
 ⟨h1,by lia,n - (i+1),by lia,rfl,hi,by rw [aCv,adf]; lia,h2⟩
theorem rR.of {n:Nat} {Pv:Nat->List V->St->Hp->Prop} {i:Nat} {ys:List V} {σ:St} {H:Hp} (hi:i<n) (hy:ys.length<=i) (h2:Pv (i+1) ys σ H):rR n Pv i ys σ H :=
 ⟨n - (i+1),by lia,rfl,hi,by lia,h2⟩
theorem wL {lo:Int} {n:Nat} {l:Addr} {g:TG} {tc:TT} {te:TE} {σ0:St} {H0:Hp} {Qf:Hp->Prop} (Pv:Nat->List V->St->Hp->Prop) (h0:Pv 0 [] σ0 H0)
  (hs:∀ i ys σ' H',i<n->ys.length<=i->Pv i ys σ' H'->g (.int (lo+i)) σ' H' λσ2 H3=>tc σ2 H3 λb H4=>if b=true then te σ2 H4 λy H5=>jR n l Pv i ys σ2 y H5 else rR n Pv i ys σ2 H4)
  (hd:∀ ys σ' H',ys.length<=n->Pv n ys σ' H'->Qf H') :
  ∃ W:Nat->Nat->List V->St->Hp->Prop,(∃ m,W 0 m [] σ0 H0)/\∀ i m ys σ' H',W i m ys σ' H' ->
  ((rP lo n).stop i H'/\Qf H')\/((rP lo n).go i H'/\∀ x H2,(rP lo n).oU i H' x H2->g x σ' H2 λσ2 H3=>tc σ2 H3 λb H4 =>
    if b=true then te σ2 H4 λy H5=>H5 l=some (.lst ys)/\ys.length<sizeLine/\∃ m',m'<m/\W (i+1) m' (ys++[y]) σ2 (upd H5 l (.lst (ys++[y])))
    else ∃ m',m'<m/\W (i+1) m' ys σ2 H4):=by
 refine ⟨λi m ys σ' H'=>m=n - i/\i<=n/\ys.length<=i/\Pv i ys σ' H',⟨n,rfl,aUM _,aEt _,h0⟩,?_⟩
 rintro i m ys σ' H' ⟨rfl,hi,hy,p⟩
 by_cases hlt:i<n
 .refine .inr ⟨hlt,λx H2 q=>?_⟩
  obtain ⟨rfl,rfl⟩:=q
  exact hs i ys σ' _ hlt hy p
 .have e:i=n:=by lia
  subst e
  exact .inl ⟨aEt _,hd ys σ' H' hy p⟩
theorem JJ {K:W.Frag} {a:Addr} {xs:List V} {l:Addr} {g:TG} {tc:TT} {te:TE} {σ0:St} {H0:Hp} {Qf:Hp->Prop} (Pv:Nat->List V->St->Hp->Prop) (h0:Pv 0 [] σ0 H0)
  (hl:∀ i ys σ' H',i<=xs.length->Pv i ys σ' H'->aB K H' a xs)
  (hs:∀ i x ys σ' H',i<xs.length->xs[i]?=some x->ys.length<=i->Pv i ys σ' H'->g x σ' H' λσ2 H3=>tc σ2 H3 λb H4=>if b=true then te σ2 H4 λy H5=>jR xs.length l Pv i ys σ2 y H5 else rR xs.length Pv i ys σ2 H4)
  (hd:∀ ys σ' H',ys.length<=xs.length->Pv xs.length ys σ' H'->Qf H') :
  ∃ W:Nat->Nat->List V->St->Hp->Prop,(∃ m,W 0 m [] σ0 H0)/\∀ i m ys σ' H',W i m ys σ' H' ->
  ((BV K a).stop i H'/\Qf H')\/((BV K a).go i H'/\∀ x H2,(BV K a).oU i H' x H2->g x σ' H2 λσ2 H3=>tc σ2 H3 λb H4 =>
    if b=true then te σ2 H4 λy H5=>H5 l=some (.lst ys)/\ys.length<sizeLine/\∃ m',m'<m/\W (i+1) m' (ys++[y]) σ2 (upd H5 l (.lst (ys++[y])))
    else ∃ m',m'<m/\W (i+1) m' ys σ2 H4):=by
 refine ⟨λi m ys σ' H'=>m=xs.length - i/\i<=xs.length/\ys.length<=i/\Pv i ys σ' H',⟨xs.length,rfl,aUM _,aEt _,h0⟩,?_⟩
 rintro i m ys σ' H' ⟨rfl,hi,hy,p⟩
 have q:=hl i ys σ' H' hi p
 by_cases hlt:i<xs.length
 .refine .inr ⟨⟨xs,xs[i],q,by simp [hlt]⟩,λx H2 z=>?_⟩
  obtain ⟨rfl,z⟩:=z
  exact hs i x ys σ' _ hlt (z xs q) hy p
 .have e:i=xs.length:=by lia
  subst e
  exact .inl ⟨⟨xs,q,aEt _⟩,hd ys σ' H' hy p⟩
theorem XO {K:W.Frag} {a b:Addr} {xs zs:List V} {l:Addr} {g:TG} {tc:TT} {te:TE} {σ0:St} {H0:Hp} {Qf:Hp->Prop} (hlen:xs.length=zs.length) (Pv:Nat->List V->St->Hp->Prop) (h0:Pv 0 [] σ0 H0)
  (hl:∀ i ys σ' H',i<=xs.length->Pv i ys σ' H'->aB K H' a xs/\aB K H' b zs)
  (hs:∀ i x z t ys σ' H',i<xs.length->xs[i]?=some x->zs[i]?=some z->ys.length<=i->Pv i ys σ' H'->H' t=none->g (.ref t) σ' (upd H' t (.tup [x,z])) λσ2 H3=>tc σ2 H3 λb H4=>if b=true then te σ2 H4 λy H5=>jR xs.length l Pv i ys σ2 y H5 else rR xs.length Pv i ys σ2 H4)
  (hd:∀ ys σ' H',ys.length<=xs.length->Pv xs.length ys σ' H'->Qf H') :
  ∃ W:Nat->Nat->List V->St->Hp->Prop,(∃ m,W 0 m [] σ0 H0)/\∀ i m ys σ' H',W i m ys σ' H' ->
  ((tN K a b).stop i H'/\Qf H')\/((tN K a b).go i H'/\∀ x H2,(tN K a b).oU i H' x H2->g x σ' H2 λσ2 H3=>tc σ2 H3 λb H4 =>
    if b=true then te σ2 H4 λy H5=>H5 l=some (.lst ys)/\ys.length<sizeLine/\∃ m',m'<m/\W (i+1) m' (ys++[y]) σ2 (upd H5 l (.lst (ys++[y])))
    else ∃ m',m'<m/\W (i+1) m' ys σ2 H4):=by
 refine ⟨λi m ys σ' H'=>m=xs.length - i/\i<=xs.length/\ys.length<=i/\Pv i ys σ' H',⟨xs.length,rfl,aUM _,aEt _,h0⟩,?_⟩
 rintro i m ys σ' H' ⟨rfl,hi,hy,p⟩
 have q:=hl i ys σ' H' hi p
 by_cases hlt:i<xs.length
 .have hz:i<zs.length:=by lia
  refine .inr ⟨⟨xs,zs,xs[i],zs[i],q.1,q.2,by simp [hlt],by simp [hz]⟩,λx H2 z=>?_⟩
  obtain ⟨t,u,v,ht,rfl,rfl,z1,z2⟩:=z
  exact hs i u v t ys σ' _ hlt (z1 xs q.1) (z2 zs q.2) hy p ht
 .have e:i=xs.length:=by lia
  subst e
  exact .inl ⟨⟨xs,zs,q.1,q.2,.inl (aEt _)⟩,hd ys σ' H' hy p⟩
theorem O7 {K:W.Frag} {a:Addr} {xs:List V} {g:TG} {tb:TS} {D:Ends} {σ:St} {H:Hp} (Pv:Nat->St->Hp->Prop) (h0:Pv 0 σ H) (hl:∀ i σ H,i<=xs.length->Pv i σ H->aB K H a xs)
  (hs:∀ i x t σ H,xs[i]?=some x->Pv i σ H->H t=none->g (.ref t) σ (upd H t (.tup [.int i,x])) λσ2 H2=>tb { D with nx:=Pv (i+1),ct:=Pv (i+1),bk:=D.nx } σ2 H2) (hd:∀ σ H,Pv xs.length σ H->D.nx σ H) :
  ∃ W:Nat->Nat->St->Hp->Prop,(∃ m,W 0 m σ H)/\∀ i m σ H,W i m σ H ->
   ((BW K a).stop i H/\D.nx σ H)\/((BW K a).go i H/\∃ N:St->Hp->Prop,(∀ σ' H',N σ' H'->∃ m',m'<m/\W (i+1) m' σ' H')/\∀ x H',(BW K a).oU i H x H'->g x σ H' λσ2 H2=>tb { D with nx:=N,ct:=N,bk:=D.nx } σ2 H2):=by
 refine ⟨λi m σ H=>m=xs.length - i/\i<=xs.length/\Pv i σ H,⟨xs.length,by simp,aUM _,h0⟩,?_⟩
 rintro i m σ H ⟨rfl,hi,p⟩
 have q:=hl i σ H hi p
 by_cases hlt:i<xs.length
 .refine .inr ⟨⟨xs,xs[i],q,by simp [hlt]⟩,Pv (i+1),λσ' H' p'=>⟨xs.length - (i+1),by lia,rfl,hlt,p'⟩,λx H' y=>?_⟩
  obtain ⟨t,u,ht,rfl,rfl,y⟩:=y
  exact hs i u t σ _ (y xs q) p ht
 .have e:i=xs.length:=by lia
  subst e
  exact .inl ⟨⟨xs,q,rfl⟩,hd σ H p⟩
theorem cK {α:Type} {x:α} {xs:List α}:fS (x :: xs) 0=some x:=rN (j:=0) rfl
theorem gj {α:Type} {x y:α} {xs:List α}:fS (x :: y :: xs) 1=some y:=rN (j:=1) rfl
theorem gS {α:Type} {x y z:α} {xs:List α}:fS (x :: y :: z :: xs) 2=some z:=rN (j:=2) rfl
theorem pq {p A B:Prop} [Decidable p] (h1:p->A) (h2:¬ p->B):if decide p=true then A else B:=by
 by_cases h:p
 .rw [abw (aea h)]; exact h1 h
 .rw [aM3 (by rw [a0j h]; exact aBC)]; exact h2 h
end L2
namespace HT
open PySem PySem.Spec PyProof.Rows
section
variable {prog:Program} {w:World} {A:Around} {E:Value->Shared->Prop} {s:Shared}
theorem qP {t b:Addr} {ws:List Value} {Q:Value->Shared->Prop} (ht:IsTup s.heap t #[]) (hb:IsTup s.heap b ws.toArray) (h0:Q (.ref b) s):wpAny (model prog w) A (binaryOp .Add (.ref t) (.ref b)) Q E s:=by
 obtain ⟨o1,ho,hc,n,hd⟩:=ht
 obtain ⟨o2,ho2,hc2,n2,hd2⟩:=hb
 have e1:s.heap.get? t=some ⟨.type "tuple",o1.dict,.seq #[] n,o1.slots⟩:=by
  rw [ho]; obtain ⟨_,_,_,_⟩:=o1; cases hc; cases hd; rfl
 have e2:s.heap.get? b=some ⟨.type "tuple",o2.dict,.seq ws.toArray n2,o2.slots⟩:=by
  rw [ho2]; obtain ⟨_,_,_,_⟩:=o2; cases hc2; cases hd2; rfl
 exact concat_meets ⟨_,e1,rfl⟩ ⟨_,e2,rfl⟩ noFill_tuple_add seq_tuple_add aTP ba7 (avQ _ _) (tuple_addW0 t b #[] ws.toArray n n2 o1.dict o2.dict o1.slots o2.slots rfl) ⟨e1,e2,h0⟩
theorem gh {t sl:Addr} {items:Array Value} {vl vu:Value} {lo hi:Option Int} {Q:Value->Shared->Prop} (ht:IsTup s.heap t items) (hs:s.heap.IsSliceOf sl vl vu .none) (pl:IsPart vl lo) (pu:IsPart vu hi)
  (h0:bB items.size 0 lo=0) (h1:bB items.size items.size hi=items.size) (h:Q (.ref t) s):wpAny (model prog w) A (getItem (.ref t) (.ref sl)) Q E s:=by
 obtain ⟨os,hos,hcs,hds⟩:=id hs
 have Hl:s.TypeIs (.ref sl) "slice" := ⟨os,hos,hcs⟩
 unfold getItem
 try with_reducible refine a9s ?_
 first | refine apg (a5a ?_) | skip
 refine apg (wpAny_sequenceKey ht.typeIs (by decide) ?_)
 refine apg (a6m (name:=Str.ofString "__getitem__") ht.typeIs af9
  (baF af9 ht.typeIs entry_tuple_getitem ?_ (args_tuple_getitem _ _)))
 show wpAny _ _ (Builtin.Tuple.tupleItemsOf (.ref t) >>= _) _ _ s
 refine apg (tupleItemsOf_ ht ?_)
 refine apg (wpAny_typeOf Hl ?_)
 rw [abw (by decide)]
 refine apg (QK hs pl pu ?_)
 show wpAny _ _ (if (((bB items.size 0 lo:Nat):Int) == 0 && (1:Int) == 1 && (bB items.size items.size hi - bB items.size 0 lo) == items.size)=true then _ else _) _ _ s
 rw [h0,h1,abw (by simp)]
 refine apg (m:=Builtin.Tuple.tupleIsExact _) ?_
 unfold Builtin.Tuple.tupleIsExact
 refine apg (wpAny_typeOf ht.typeIs (a5a ?_))
 simp only [aKE,aOV]
 first
  | exact apg (aPe (a5a ⟨_,rfl,a5a h⟩))
  | exact apg (aPe (apg (a5a (a5a ⟨_,rfl,a5a h⟩))))
end
end HT
namespace L2
open PySem PySem.Spec PyProof.Rows
section
variable {X:Cx}
def zu:R2:=λx y H Q=>∃ a b xs ys,x=.ref a/\y=.ref b/\H a=some (.tup xs)/\H b=some (.tup ys)/\xs.length+ys.length<=sizeLine/\∀ p H',az H H'->H' p=some (.tup (xs++ys))->Q (.ref p) H'
theorem Oq:gV X (binaryOp .Add) zu:=by
 intro pins s σ H x y v u Q I rx ry h
 obtain ⟨a,b,xs,ys,rfl,rfl,ha,hb,hz,q⟩:=h
 by_cases hx:xs=[]
 .subst hx
  cases rx
  cases ry
  obtain ⟨its,r1,p1,_⟩:=I.tuple (aK.of ha)
  obtain ⟨its2,r2,p2,_⟩:=I.tuple (aK.of hb)
  cases r1
  exact HT.qP p1 p2 ⟨.ref b,H,I,rfl,q b H (az.refl H) hb⟩
 .refine Xj pins s σ H _ _ v u Q I rx ry ⟨a,b,xs,ys,rfl,rfl,aK.of ha,aK.of hb,hx,hz,λe=>?_,λ_ p hp=>q p _ (Zd hp _) Za⟩
  subst e
  exact q a H (az.refl H) (by rw [bcu]; exact ha)
def FJ:V->Option Int->Option Int->Hp->VK->Prop:=λx lo hi H Q=>∃ a xs,x=.ref a/\H a=some (.tup xs)/\∀ p H',az H H'->H' p=some (.tup (dP xs lo hi))->Q (.ref p) H'
theorem ID:BK X FJ:=by
 intro pins s σ H x v vl vu lo hi sl Q I rx hs pl pu h
 obtain ⟨a,xs,rfl,hx,q⟩:=h
 by_cases hw:HT.bB xs.length 0 lo=0/\HT.bB xs.length xs.length hi=xs.length
 .cases rx
  obtain ⟨its,r,ht,hz⟩:=I.tuple (aK.of hx)
  have hlen:its.toArray.size=xs.length:=by rw [am7]; exact r.length.symm
  refine ⟨"tuple",_,af9.lookup,ht.typeIs,?_⟩
  refine HT.gh ht hs pl pu (by rw [hlen]; exact hw.1) (by rw [hlen]; exact hw.2) ⟨.ref a,H,I,rfl,q a H (az.refl H) ?_⟩
  unfold dP
  rw [hw.1,hw.2,drop_zero,Nat.sub_zero,take_length]
  exact hx
 .exact WQ pins s σ H _ v vl vu lo hi sl Q I rx hs pl pu ⟨a,xs,rfl,aK.of hx,hw,λp hp=>q p _ (Zd hp _) Za⟩
end
def NS:PySem.Expr->Prop
 | .Starred _ _=>False
 | _=>True
theorem rM {e:PySem.Expr} {es:List PySem.Expr} {env:Env} (h:NS e):starEach (e :: es) env=(false,eval e env) :: starEach es env:=by
 cases e <;> first | rfl | exact h.elim
def tL:List PySem.Expr->Prop
 | []=>True
 | e :: es=>NS e/\tL es
theorem wF {pos:Pos} {env:Env}:∀ {es:List PySem.Expr},tL es->(backTo pos (starEach es env)).any (·.1)=false
 | [],_=>rfl
 | e :: es,h=>by
  rw [rM h.1]
  have ih:=wF (pos:=pos) (env:=env) h.2
  simp only [backTo] at ih ⊢
  simpa using ih
section
variable {X:Cx} {x:Str} {p pos:Pos} {e:PySem.Expr} {es:List PySem.Expr} {te:TE} {t:TA} {k:Nat} {ps:List Str} {sp:Sp} {id T:String} {r:List V->Hp->VK->Prop}
theorem pc (ha:PE X e te) (hr:PA X es t) (hn:NS e:=by exact True.intro):PA X (e :: es) (tU te t):=Xo ha hr (rM hn)
theorem Zm (D:Def X.prog X.w X.K X.mg X.base x k ps sp) (hr:bf k X.A) (hg:Gl X x) (ha:PA X (e :: es) t) (hn:tL (e :: es):=by repeat' (first | exact True.intro | refine ⟨?_,?_⟩)) (hd:(x == ("__debug__" : Str))=false:=by decide) :
  PE X (.Call (.Name x p) (e :: es) [] pos) (nL sp [] E0 t):=WK D hr hg ha (rM hn.1) (wF hn.2) hd
theorem Zn (hc:bH X (.builtin id) r) (hg:Gl X x) (hm:X.mg x=none) (hv:bootBuiltins x=some (.builtin id)) (ha:PA X (e :: es) t) (hnn:tL (e :: es):=by repeat' (first | exact True.intro | refine ⟨?_,?_⟩)) (hn:x ≠ "__name__" := by decide) (hdb:(x == ("__debug__" : Str))=false:=by decide) :
  PE X (.Call (.Name x p) (e :: es) [] pos) (Ct r t):=XU hc hg hm hv ha hn hdb (rM hnn.1) (wF hnn.2)
theorem tF (hc:bH X (.type T) r) (hg:Gl X x) (hm:X.mg x=none) (hv:bootBuiltins x=some (.type T)) (ha:PA X (e :: es) t) (hnn:tL (e :: es):=by repeat' (first | exact True.intro | refine ⟨?_,?_⟩)) (hn:x ≠ "__name__" := by decide) (hdb:(x == ("__debug__" : Str))=false:=by decide) :
  PE X (.Call (.Name x p) (e :: es) [] pos) (Ct r t):=YL hc hg hm hv ha hn hdb (rM hnn.1) (wF hnn.2)
end
theorem O6 {K:W.Frag} {a:Addr} {xs:List V} {l:Addr} {g:TG} {tc:TT} {te:TE} {σ0:St} {H0:Hp} {Qf:Hp->Prop} (Pv:Nat->List V->St->Hp->Prop) (h0:Pv 0 [] σ0 H0)
  (hl:∀ i ys σ' H',i<=xs.length->Pv i ys σ' H'->aK K H' a xs)
  (hs:∀ i x ys σ' H',i<xs.length->xs[i]?=some x->ys.length<=i->Pv i ys σ' H'->g x σ' H' λσ2 H3=>tc σ2 H3 λb H4=>if b=true then te σ2 H4 λy H5=>jR xs.length l Pv i ys σ2 y H5 else rR xs.length Pv i ys σ2 H4)
  (hd:∀ ys σ' H',ys.length<=xs.length->Pv xs.length ys σ' H'->Qf H') :
  ∃ W:Nat->Nat->List V->St->Hp->Prop,(∃ m,W 0 m [] σ0 H0)/\∀ i m ys σ' H',W i m ys σ' H' ->
  ((BU K a).stop i H'/\Qf H')\/((BU K a).go i H'/\∀ x H2,(BU K a).oU i H' x H2->g x σ' H2 λσ2 H3=>tc σ2 H3 λb H4 =>
    if b=true then te σ2 H4 λy H5=>H5 l=some (.lst ys)/\ys.length<sizeLine/\∃ m',m'<m/\W (i+1) m' (ys++[y]) σ2 (upd H5 l (.lst (ys++[y])))
    else ∃ m',m'<m/\W (i+1) m' ys σ2 H4):=by
 refine ⟨λi m ys σ' H'=>m=xs.length - i/\i<=xs.length/\ys.length<=i/\Pv i ys σ' H',⟨xs.length,rfl,aUM _,aEt _,h0⟩,?_⟩
 rintro i m ys σ' H' ⟨rfl,hi,hy,p⟩
 have q:=hl i ys σ' H' hi p
 by_cases hlt:i<xs.length
 .refine .inr ⟨⟨xs,xs[i],q,by simp [hlt]⟩,λx H2 z=>?_⟩
  obtain ⟨rfl,z⟩:=z
  exact hs i x ys σ' _ hlt (z xs q) hy p
 .have e:i=xs.length:=by lia
  subst e
  exact .inl ⟨⟨xs,q,aEt _⟩,hd ys σ' H' hy p⟩
section
variable {X:Cx} {K:W.Frag}
theorem Zr (hK:X.K=K):BS X (zk K):=hK ▸ Xh
theorem ZB (hK:X.K=K):BS X (zj K):=hK ▸ WO
theorem D9 (hK:X.K=K):BK X (zg K):=hK ▸ Xg
theorem ZkF (hK:X.K=K):gV X (compareOp .In) (Cy K false):=hK ▸ YK
theorem Kr (hK:X.K=K):gV X (compareOp .NotIn) (Cy K true):=hK ▸ Zhh
theorem Zx (hK:X.K=K):bH X (.builtin "len") (λxs H Q=>∃ p ys,xs=[.ref p]/\(aB K H p ys\/aK K H p ys)/\Q (.int ys.length) H):=hK ▸ Zhi
theorem Et (hK:X.K=K):bH X (.type "list") (λxs H Q=>∃ p ys,xs=[.ref p]/\(aB K H p ys\/aK K H p ys)/\∀ l,H l=none->Q (.ref l) (upd H l (.lst ys))):=hK ▸ Zhj
theorem QJ (hK:X.K=K):bH X (.type "tuple") (λxs H Q=>∃ p ys,xs=[.ref p]/\((aB K H p ys/\∀ l,H l=none->Q (.ref l) (upd H l (.tup ys)))\/(aK K H p ys/\Q (.ref p) H))):=hK ▸ Zge
theorem ZkG {ns ms:List Int} (h:ns.length=ms.length):(List.range ns.length).all (λj=>ns.getD j 0 == ms.getD j 0)=decide (ns=ms):=by
 rw [a9z,aXt,ayt]
 constructor
 .intro z
  refine List.ext_getElem h λj h1 h2=>?_
  have:=z j (ar3.mpr h1)
  rw [a9e,a9e,af3 h1,af3 h2] at this
  simpa using this
 .rintro rfl j _
  simp
def FN (K:W.Frag) (neg:Bool):R2:=λx y H Q=>∃ (a b:Addr) (ns ms:List Int),x=.ref a/\y=.ref b/\aB K H a (ns.map V.int)/\aB K H b (ms.map V.int)/\Q (.bl (if neg then !decide (ns=ms) else decide (ns=ms))) H
theorem YF {A:Around} {s:Shared} {ns:List Int} {us:List Value} (r:Vals (ns.map V.int) us) {ms:List Int} {ws:List Value} (r2:Vals (ms.map V.int) ws) (j:Nat) (h1:j<us.toArray.size) (h2:j<ws.toArray.size):SeqAt.EqAt A s us.toArray[j] ws.toArray[j] (ns.getD j 0 == ms.getD j 0):=by
 have l1:ns.length=us.length:=by have:=r.length; rwa [aK1] at this
 have l2:ms.length=ws.length:=by have:=r2.length; rwa [aK1] at this
 have k1:j<ns.length:=by rw [l1]; simpa using h1
 have k2:j<ms.length:=by rw [l2]; simpa using h2
 obtain ⟨u,hu,ru⟩:=r.get (i:=j) (x:=.int ns[j]) (by rw [aBK,af3 k1]; rfl)
 obtain ⟨v,hv,rv⟩:=r2.get (i:=j) (x:=.int ms[j]) (by rw [aBK,af3 k2]; rfl)
 obtain ⟨t,rfl⟩:=ru
 obtain ⟨t',rfl⟩:=rv
 have e1:us.toArray[j]=.int ns[j] t:=by
  have:us[j]?=some us[j]:=af3 (by simpa using h1)
  rw [hu] at this
  simpa using (avM this).symm
 have e2:ws.toArray[j]=.int ms[j] t':=by
  have:ws[j]?=some ws[j]:=af3 (by simpa using h2)
  rw [hv] at this
  simpa using (avM this).symm
 rw [e1,e2,a9e,a9e,af3 k1,af3 k2]
 exact SeqAt.EqAt.int_int _ _ _ _
theorem NP (hu:X.A.units<cLine) (hK:X.K=K):gV X (compareOp .NotEq) (FN K true):=by
 subst hK
 intro pins s σ H x y v u Q I rx ry h
 obtain ⟨a,b,ns,ms,rfl,rfl,ha,hb,q⟩:=h
 cases rx
 cases ry
 obtain ⟨its,r1,p1,_⟩:=I.list ha
 obtain ⟨its2,r2,p2,_⟩:=I.list hb
 have l1:ns.length=its.length:=by have:=r1.length; rwa [aK1] at this
 have l2:ms.length=its2.length:=by have:=r2.length; rwa [aK1] at this
 by_cases hl:ns.length=ms.length
 .refine SeqAt.RcNeAt.lists (e:=λj=>ns.getD j 0 == ms.getD j 0) p1.isList p2.isList (by simp; lia) hu (λj h1 h2=>YF r1 r2 j h1 h2) X.prog X.w X.xe _ ⟨.bl _,H,I,rfl,?_⟩
  rw [am7,← l1,ZkG hl]
  exact q
 .refine SeqAt.RcNeAt.lists_lengths p1.isList p2.isList (by simp; lia) hu X.prog X.w X.xe _ ⟨.bl true,H,I,rfl,?_⟩
  have e:decide (ns=ms)=false:=a0j λz=>hl (by rw [z])
  rw [e] at q
  exact q
end
end L2
namespace HT
open PySem PyProof.Rows
section
open PySem.SeqAt
open PySem.AutoSeq1 (wpAny_loadPart')
open PySem.MeetsSeq PySem.MeetsSeq2 PySem.MeetsSeq3
end
end HT
namespace L2
open PySem PySem.Spec PyProof.Rows
theorem NO {h:Heap} {a:Addr} {us:Array Value} (x:IsTup h a us):a<h.objs.size:=by
 obtain ⟨o,ho,_⟩:=x
 exact a2R ho
section
variable {X:Cx}
def Xe:V->List V->Hp->VK->Prop:=λx vs H Q=>∃ (l:Addr) (ns:List Int) (k:Int),x=.ref l/\vs=[.int k]/\H l=some (.lst (ns.map V.int))/\k∈ns/\Q .aT (upd H l (.lst ((ns.erase k).map V.int)))
theorem O4 (k:Int):∀ (ns:List Int),k∈ns->∃ j,ns[j]?=some k/\(∀ m z,m<j->ns[m]?=some z->z≠k)/\ns.erase k=ns.eraseIdx j
 | [],h=>nomatch h
 | x :: ns,h=>by
  by_cases hx:x=k
  .subst hx
   exact ⟨0,rfl,λm z hm=>absurd hm (ara _),by rw [List.erase_cons_head,List.eraseIdx_cons_zero]⟩
  .have hm:k∈ns:=by
    rcases aHJ.mp h with e | e
    .exact absurd e.symm hx
    .exact e
   obtain ⟨j,h1,h2,h3⟩:=O4 k ns hm
   refine ⟨j+1,by simpa using h1,λm z hm hz=>?_,?_⟩
   .cases m with
    | zero =>
     have e:x=z:=by simpa using hz
     rw [← e]; exact hx
    | succ m=>exact h2 m z (by lia) (by simpa using hz)
   .rw [List.erase_cons_tail (by simpa using hx),h3,aXr]
theorem ZkH {xs:List V} {us:List Value}:∀ (j:Nat),Vals xs us->Vals (xs.eraseIdx j) (us.eraseIdx j):=by
 intro j r
 induction r generalizing j with
 | nil=>exact .nil
 | cons h t ih =>
  cases j with
  | zero=>exact t
  | succ j=>exact .cons h (ih j)
theorem PZ:QN X "list.remove" Xe:=by
 intro pins s σ H x vs v us Q I rx rv h
 obtain ⟨l,ns,k,rfl,rfl,hH,hk,q⟩:=h
 cases rx
 obtain ⟨u,rfl,ru⟩:=rv.one
 obtain ⟨tk,rfl⟩:=ru
 obtain ⟨z,its,n,r,hl,e⟩:=I.mW hH
 rw [aK1] at hl z
 obtain ⟨j,h1,h2,h3⟩:=O4 k ns hk
 have get:∀ (m:Nat) (hm:m<its.toArray.size),∃ (i:Int) (t:Tok),ns[m]?=some i/\its.toArray[m]=.int i t:=λm hm=>by
  have hm':m<ns.length:=by rw [hl]; simpa using hm
  obtain ⟨w,hw,rw'⟩:=r.get (i:=m) (x:=.int ns[m]) (by rw [aBK,af3 hm']; rfl)
  obtain ⟨t,rfl⟩:=rw'
  refine ⟨ns[m],t,af3 hm',?_⟩
  have:its[m]?=some its[m]:=af3 (by simpa using hm)
  rw [hw] at this
  simpa using (avM this).symm
 have hj:j<its.toArray.size:=by
  have:=(a2U.mp h1).1
  rw [hl] at this; simpa using this
 refine call_meets F.slot_list_remove ⟨_,e,rfl⟩ F.entry_list_remove (F.args_list_remove_2 _ _) (MeetsSeq.list_remove l its.toArray n (.int k tk) (λy=>match y with | .int i _=>i == k | _=>false) (λy hy=>?_) j hj ?_ (λm hm Uy=>?_) (by rw [am7,← hl]; exact z)) ⟨e,?_⟩
 .obtain ⟨m,hm,rfl⟩:=Array.getElem_of_mem hy
  obtain ⟨i,t,_,e2⟩:=get m hm
  rw [e2]
  exact MeetsSeq.EqGives.int i k t tk
 .obtain ⟨i,t,e1,e2⟩:=get j hj
  rw [h1] at e1; cases e1
  rw [e2]
  simp
 .obtain ⟨i,t,e1,e2⟩:=get m hm
  rw [e2]
  simpa using h2 m i Uy e1
 .refine ⟨.aT,_,I.qw (its':=its.eraseIdx j) (ys:=(ns.erase k).map V.int) hH e ?_ ?_ ?_,rfl,q⟩
  .rw [List.eraseIdxIfInBounds_toArray]
  .rw [h3]
   have em:∀ (xs:List Int) (i:Nat),(xs.eraseIdx i).map V.int=(xs.map V.int).eraseIdx i:=λxs=>by
    induction xs with
    | nil=>intro i; rfl
    | cons y xs ih=>intro i; cases i with
     | zero=>rfl
     | succ i=>rw [aXr,aDD,aDD,aXr,ih]
   rw [em]
   exact ZkH j r
  .rw [aK1]
   exact a28 List.length_erase_le z
end
section
variable {κ:Type} [DecidableEq κ]
def aO (kvs:List (κ×V)) (k:κ):Option V:=(kvs.find? λkv=>decide (kv.1=k)).map (·.2)
def putK (kvs:List (κ×V)) (k:κ) (v:V):List (κ×V) :=
 if (kvs.any λkv=>decide (kv.1=k))=true then kvs.map (λkv=>if kv.1=k then (kv.1,v) else kv) else kvs++[(k,v)]
def aW (kvs:List (κ×V)) (k:κ):List (κ×V):=kvs.filter λkv=>decide (kv.1≠k)
theorem ZV {p:κ×V} {r:List (κ×V)} {k:κ} (e:p.1=k):aO (p :: r) k=some p.2:=by simp [aO,bdb,e]
theorem ZO {p:κ×V} {r:List (κ×V)} {k:κ} (e:¬ p.1=k):aO (p :: r) k=aO r k:=by simp [aO,bdb,e]
theorem Bh (k:κ):∀ kvs:List (κ×V),(kvs.any λkv=>decide (kv.1=k))=(aO kvs k).isSome
 | []=>rfl
 | p :: r=>by
  rw [any_cons]
  by_cases e:p.1=k
  .simp only [ZV e,aea e,Bool.true_or,Option.isSome_some]
  .rw [ZO e,a0j e,Bool.false_or]; exact Bh k r
theorem O3 (k j:κ) (y:V):∀ kvs:List (κ×V),aO (kvs.map λkv=>if kv.1=k then (kv.1,y) else kv) j=(aO kvs j).map λx=>if j=k then y else x
 | []=>rfl
 | p :: r=>by
  have ih:=O3 k j y r
  rw [aDD]
  by_cases h:p.1=k
  .rw [abw h]
   by_cases e:p.1=j
   .rw [ZV (p:=(p.1,y)) e,ZV e,a7q,abw (e.symm.trans h)]
   .rw [ZO (p:=(p.1,y)) e,ZO e,ih]
  .rw [aM3 h]
   by_cases e:p.1=j
   .rw [ZV (p:=p) e,ZV e,a7q,aM3 (λz=>h (e.trans z))]
   .rw [ZO (p:=p) e,ZO e,ih]
theorem PY (k j:κ) (y:V):∀ kvs:List (κ×V),aO kvs k=none->aO (kvs++[(k,y)]) j=if j=k then some y else aO kvs j
 | [],_=>by
  by_cases e:k=j
  .rw [abw e.symm]; exact ZV (p:=(k,y)) e
  .rw [aM3 (λz=>e z.symm)]; exact ZO (p:=(k,y)) e
 | p :: r,hn=>by
  rw [List.cons_append]
  have hk:¬ p.1=k:=λz=>by rw [ZV z] at hn; cases hn
  rw [ZO hk] at hn
  have ih:=PY k j y r hn
  by_cases e:p.1=j
  .rw [ZV e,ZV e,aM3 (λz=>hk (e.trans z))]
  .rw [ZO e,ZO e,ih]
theorem yv (kvs:List (κ×V)) (k j:κ) (y:V):aO (putK kvs k y) j=if j=k then some y else aO kvs j:=by
 unfold putK
 by_cases a:(kvs.any λkv=>decide (kv.1=k))=true
 .rw [abw a,O3]
  rw [Bh] at a
  by_cases e:j=k
  .obtain ⟨x,hx⟩:=Option.isSome_iff_exists.mp a
   rw [abw e,e,hx,a7q,abw rfl]
  .rw [aM3 e]
   cases aO kvs j with
   | none=>rfl
   | some x=>rw [a7q,aM3 e]
 .rw [aM3 a]
  refine PY k j y kvs ?_
  rw [Bh] at a
  cases q:aO kvs k with
  | none=>rfl
  | some x=>rw [q] at a; exact (a rfl).elim
theorem By (kvs:List (κ×V)) (k:κ) (v:V):(putK kvs k v).length<=kvs.length+1:=by
 unfold putK
 split
 .rw [aK1]; lia
 .rw [aCv,arz,List.length_nil]; lia
theorem dQ.iE {o:Option V} {u:Option Value} (r:dQ o u):o.isSome=u.isSome:=by
 cases o with
 | none=>cases u with
  | none=>rfl
  | some _=>exact (show False from r).elim
 | some _=>cases u with
  | none=>exact (show False from r).elim
  | some _=>rfl
theorem dQ.getD {o:Option V} {u:Option Value} {d:V} {d':Value} (r:dQ o u) (rd:RelV d d'):RelV (o.getD d) (u.getD d'):=by
 cases o with
 | none=>cases u with
  | none=>exact rd
  | some _=>exact (show False from r).elim
 | some _=>cases u with
  | none=>exact (show False from r).elim
  | some _=>exact r
theorem KV.val {kvs:List (κ×V)} {vs:List (κ×Value)} (r:KV kvs vs) (k:κ):dQ (aO kvs k) (valueAt vs k):=by
 unfold KV at r
 induction r with
 | nil=>exact True.intro
 | @cons p q ps qs h t ih =>
  obtain ⟨h1,h2⟩:=h
  by_cases e:p.1=k
  .have e':q.1=k:=h1.symm.trans e
   have b:valueAt (q :: qs) k=some q.2:=by simp [valueAt,bdb,e']
   rw [ZV e,b]; exact h2
  .have e':¬ q.1=k:=λz=>e (h1.trans z)
   have b:valueAt (q :: qs) k=valueAt qs k:=by simp [valueAt,bdb,e']
   rw [ZO e,b]; exact ih
theorem KV.any {kvs:List (κ×V)} {vs:List (κ×Value)} (r:KV kvs vs) (k:κ):(kvs.any λkv=>decide (kv.1=k))=vs.any λkv=>decide (kv.1=k):=by
 unfold KV at r
 induction r with
 | nil=>rfl
 | cons h t ih=>rw [any_cons,any_cons,ih,h.1]
theorem KV.repl {kvs:List (κ×V)} {vs:List (κ×Value)} (r:KV kvs vs) (k:κ) {y:V} {u:Value} (ry:RelV y u) :
  KV (kvs.map λkv=>if kv.1=k then (kv.1,y) else kv) (vs.map λkv=>if kv.1=k then (kv.1,u) else kv):=by
 unfold KV at r ⊢
 induction r with
 | nil=>exact .nil
 | @cons p q ps qs h t ih =>
  rw [aDD,aDD]
  refine .cons ?_ ih
  obtain ⟨h1,h2⟩:=h
  by_cases e:p.1=k
  .rw [abw e,abw (h1.symm.trans e)]; exact ⟨h1,ry⟩
  .rw [aM3 e,aM3 (λz=>e (h1.trans z))]; exact ⟨h1,h2⟩
theorem KV.put {kvs:List (κ×V)} {vs:List (κ×Value)} (r:KV kvs vs) (k:κ) {y:V} {u:Value} (ry:RelV y u):KV (putK kvs k y) (stored vs k u):=by
 unfold putK stored
 rw [r.any k]
 by_cases e:(vs.any λkv=>decide (kv.1=k))=true
 .rw [abw e,abw e]; exact r.repl k ry
 .rw [aM3 e,aM3 e]; exact Paired.snoc r ⟨rfl,ry⟩
theorem KV.drop {kvs:List (κ×V)} {vs:List (κ×Value)} (r:KV kvs vs) (k:κ):KV (aW kvs k) (without vs k):=by
 unfold KV at r ⊢
 unfold aW without
 induction r with
 | nil=>exact .nil
 | @cons p q ps qs h t ih =>
  obtain ⟨h1,h2⟩:=h
  rw [aPc,aPc]
  by_cases e:p.1=k
  .have a:¬ decide (p.1≠k)=true:=by simp [e]
   have b:¬ decide (q.1≠k)=true:=by simp [h1.symm.trans e]
   rw [aM3 a,aM3 b]; exact ih
  .have e':¬ q.1=k:=λz=>e (h1.trans z)
   have a:decide (p.1≠k)=true:=by simp [e]
   have b:decide (q.1≠k)=true:=by simp [e']
   rw [abw a,abw b]; exact .cons ⟨h1,h2⟩ ih
theorem KV.length {kvs:List (κ×V)} {vs:List (κ×Value)} (r:KV kvs vs):kvs.length=vs.length:=bbS r
theorem XN (kvs:List (κ×V)) (k:κ):(aW kvs k).length<=kvs.length:=aMW _ _
end
theorem jv {P:Program} {w:World} {k:Key} {u:Value} (r:RelV (kV k) u):(ZD P w).is k u=true:=by
 cases k with
 | inl i=>obtain ⟨t,e⟩:=(show ∃ t,u=Value.int i t from r); subst e; exact Zib P w i t
 | inr x=>obtain ⟨t,e⟩:=(show ∃ t,u=Value.str x t from r); subst e; exact Zic P w x t
theorem PX {P:Program} {w:World}:∀ {ks:List Key} {us:List Value},Vals (ks.map kV) us->ItemsAre (ZD P w) ks us
 | [],_,r=>by rw [map_nil] at r; cases r; exact .nil
 | k :: ks,_,r=>by
  rw [aDD] at r
  cases r with
  | cons h t=>exact .cons (jv h) (PX t)
abbrev KT (H:Hp):List (List Key×V)->List (List Key×Addr×Value)->Prop:=Paired λp q=>p.1=q.1/\H q.2.1=some (.tup (p.1.map kV))/\RelV p.2 q.2.2
theorem KT.val {H:Hp} {kvs:List (List Key×V)} {xs:List (List Key×Addr×Value)} (r:KT H kvs xs) (k:List Key):dQ (aO kvs k) ((atKey xs k).map (·.2)):=by
 induction r with
 | nil=>exact True.intro
 | @cons p q ps qs h t ih =>
  obtain ⟨h1,_,h2⟩:=h
  by_cases e:p.1=k
  .have e':q.1=k:=h1.symm.trans e
   have b:atKey (q :: qs) k=some q.2:=by simp [atKey,bdb,e']
   rw [ZV e,b]; exact h2
  .have e':¬ q.1=k:=λz=>e (h1.trans z)
   have b:atKey (q :: qs) k=atKey qs k:=by simp [atKey,bdb,e']
   rw [ZO e,b]; exact ih
theorem KT.repl {H:Hp} {kvs:List (List Key×V)} {xs:List (List Key×Addr×Value)} (r:KT H kvs xs) (k:List Key) {y:V} {u:Value} (ry:RelV y u) :
  KT H (kvs.map λkv=>if kv.1=k then (kv.1,y) else kv) (xs.map (putAt k u)):=by
 induction r with
 | nil=>exact .nil
 | @cons p q ps qs h t ih =>
  rw [aDD,aDD]
  refine .cons ?_ ih
  obtain ⟨h1,h2,h3⟩:=h
  unfold putAt
  by_cases e:p.1=k
  .rw [abw e,abw (h1.symm.trans e)]; exact ⟨h1,h2,ry⟩
  .rw [aM3 e,aM3 (λz=>e (h1.trans z))]; exact ⟨h1,h2,h3⟩
theorem KT.put {H:Hp} {kvs:List (List Key×V)} {xs:List (List Key×Addr×Value)} (r:KT H kvs xs) (k:List Key) {b:Addr} {y:V} {u:Value} (hb:H b=some (.tup (k.map kV))) (ry:RelV y u) :
  KT H (putK kvs k y) (storedH xs k b u):=by
 have e:(kvs.any λkv=>decide (kv.1=k))=(atKey xs k).isSome:=by
  rw [Bh,(r.val k).iE,Option.isSome_map]
 unfold putK storedH
 rw [e]
 by_cases q:(atKey xs k).isSome=true
 .rw [abw q,abw q]; exact r.repl k ry
 .rw [aM3 q,aM3 q]; exact Paired.snoc r ⟨rfl,hb,ry⟩
theorem KT.keeps {H H':Hp} {kvs:List (List Key×V)} {xs:List (List Key×Addr×Value)} (r:KT H kvs xs) (ht:∀ b ys,H b=some (.tup ys)->H' b=some (.tup ys)):KT H' kvs xs :=
 Paired.vA r λ_ _ z=>⟨z.1,ht _ _ z.2.1,z.2.2⟩
section
variable {P:Program} {w:World} {H:Hp} {h:Heap} {a:Addr}
theorem t7 {u:HO} (ok:fz P w H h) (e:Rd H a u):aJ P w H h a u:=e.ok ok
theorem j6 {kvs:List (Key×V)} (ok:fz P w H h) (e:Rd H a (.dK kvs)):kvs.length<=sizeLine/\(a == sysModules)=false/\∃ vs,KV kvs vs/\h.DictOf (ZD P w) a vs :=
 show aJ P w H h a (.dK kvs) from t7 ok e
theorem qN {kvs:List (Key×V)} (ok:fz P w H h) (e:H a=some (.dK kvs)):kvs.length<=sizeLine/\(a == sysModules)=false/\∃ vs,KV kvs vs/\h.DictOf (ZD P w) a vs:=j6 ok (.inl e)
theorem A1 {ks:List Key} (ok:fz P w H h) (e:H a=some (.tup (ks.map kV))):(tupleKind (ZD P w)).is h ks a:=by
 obtain ⟨_,its,r,o,h1,h2,n,h3⟩:=(show aJ P w H h a (.tup (ks.map kV)) from ok a _ e)
 exact ⟨o,its.toArray,n,h1,h2,h3,by simpa using PX r⟩
theorem j5 {kvs:List (List Key×V)} (ok:fz P w H h) (e:Rd H a (.dT kvs)):kvs.length<=sizeLine/\(a == sysModules)=false /\
  ∃ xs,KT H kvs xs/\h.DictOfH (tupleKind (ZD P w)) a xs:=by
 obtain ⟨z,y,xs,r,o,es,ep,h1,h2,h3,h4,h5⟩:=(show aJ P w H h a (.dT kvs) from t7 ok e)
 refine ⟨z,y,xs,r,o,es,ep,h1,h2,h3,h4,λx hx=>?_,h5⟩
 have all:∀ {l:List (List Key×V)} {m:List (List Key×Addr×Value)},KT H l m->∀ x∈m,(tupleKind (ZD P w)).is h x.1 x.2.1:=by
  intro l m q
  induction q with
  | nil=>intro x hx; exact nomatch hx
  | @cons p q ps qs hq t ih =>
   intro x hx
   rcases aHJ.mp hx with e | hx
   .subst e
    exact A1 ok (by rw [← hq.1]; exact hq.2.1)
   .exact ih x hx
 exact all r x hx
theorem AI {kvs:List (List Key×V)} (ok:fz P w H h) (e:H a=some (.dT kvs)):kvs.length<=sizeLine/\(a == sysModules)=false /\
  ∃ xs,KT H kvs xs/\h.DictOfH (tupleKind (ZD P w)) a xs:=j5 ok (.inl e)
end
def eB (H:Hp) (a:Addr) (y:V) (r:Option V):Prop :=
 (∃ kvs k,Rd H a (.dK kvs)/\y=kV k/\r=aO kvs k)\/∃ kvs k b,Rd H a (.dT kvs)/\y=.ref b/\H b=some (.tup (k.map kV))/\r=aO kvs k
def jE (H:Hp) (a:Addr) (y v:V) (H':Hp):Prop :=
 (∃ kvs k,H a=some (.dK kvs)/\y=kV k/\kvs.length<sizeLine/\H'=upd H a (.dK (putK kvs k v))) \/
 ∃ kvs k b,H a=some (.dT kvs)/\y=.ref b/\H b=some (.tup (k.map kV))/\kvs.length<sizeLine/\H'=upd H a (.dT (putK kvs k v))
theorem eB.k {H:Hp} {a:Addr} {kvs:List (Key×V)} {k:Key} (e:H a=some (.dK kvs)):eB H a (kV k) (aO kvs k):=.inl ⟨kvs,k,.inl e,rfl,rfl⟩
theorem jE.k {H:Hp} {a:Addr} {kvs:List (Key×V)} {k:Key} {v:V} (e:H a=some (.dK kvs)) (hl:kvs.length<sizeLine):jE H a (kV k) v (upd H a (.dK (putK kvs k v))):=.inl ⟨kvs,k,e,rfl,hl,rfl⟩
section
variable {X:Cx} {pins:List (Addr×Obj)} {σ:St} {H:Hp} {s:Shared} {a:Addr} {y v:V} {u r:Value} {o:Option V} {A:Around} {E:Value->Shared->Prop}
theorem Inv.big (I:Inv X pins σ H s):sysModules<s.heap.objs.size:=by
 have h:mainGlobals<s.heap.objs.size:=(I.mod.glob.keeps I.bk).lt
 exact a57 (by decide) h
theorem PV {Q:Value->Shared->Prop} (hu:A.units+1<cLine) (I:Inv X pins σ H s) (g:eB H a y (some v)) (ry:RelV y u) (h:∀ w' s',Inv X pins σ H s'->RelV v w'->Q w' s') :
  wpAny (model X.prog X.w) A (getItem (.ref a) u) Q E s:=by
 rcases g with ⟨kvs,k,e,ey,l⟩ | ⟨kvs,k,b,e,ey,eb,l⟩
 .subst ey
  obtain ⟨z,hd,vs,rel,dd⟩:=j6 I.hok e
  obtain ⟨w',hw,rw'⟩:=dQ.some_of (v:=v) (o:=valueAt vs k) (by rw [l]; exact rel.val k)
  exact wpAny_getItem_of (jv ry) dd.mapOf hw (h w' _ (I.tok _) rw')
 .subst ey
  cases (show u=Value.ref b from ry)
  obtain ⟨z,hd,xs,rel,dd⟩:=j5 I.hok e
  obtain ⟨w',hw,rw'⟩:=dQ.some_of (v:=v) (o:=(atKey xs k).map (·.2)) (by rw [l]; exact rel.val k)
  obtain ⟨p,hp,hp2⟩:=Option.map_eq_some_iff.mp hw
  refine wpAny_getItem_heap (aP0 hu) (A1 I.hok eb) dd hp ?_
  rw [hp2]
  exact h w' _ (I.tok _) rw'
theorem HF {Q:Value->Shared->Prop} (hu:A.units+1<cLine) (I:Inv X pins σ H s) (g:eB H a y o) (ry:RelV y u) (h:∀ s',Inv X pins σ H s'->Q (.bool o.isSome) s') :
  wpAny (model X.prog X.w) A (compareOp .In u (.ref a)) Q E s:=by
 rcases g with ⟨kvs,k,e,ey,l⟩ | ⟨kvs,k,b,e,ey,eb,l⟩
 .subst ey
  obtain ⟨z,hd,vs,rel,dd⟩:=j6 I.hok e
  refine wpAny_in_of (jv ry) hd dd.mapOf ?_
  rw [← (rel.val k).iE,← l]
  exact h _ (I.tok _)
 .subst ey
  cases (show u=Value.ref b from ry)
  obtain ⟨z,hd,xs,rel,dd⟩:=j5 I.hok e
  refine wpAny_in_heap (aP0 hu) (A1 I.hok eb) hd dd ?_
  have q:=(rel.val k).iE
  rw [Option.isSome_map] at q
  rw [← q,← l]
  exact h _ (I.tok _)
theorem IC {h':Heap} {t':Nat} {ob:HO} (I:Inv X pins σ H s) (mu:BR (H a)) (hs:Heap.SameBut a s.heap h') (he:∃ q,h'.get? a=some q) (new:aJ X.prog X.w (upd H a ob) h' a ob) :
  Inv X pins σ (upd H a ob) { s with heap:=h',toks:=t' } :=
 I.write (x:=a) (e:=a) mu (.inl rfl) (λb q hb z=>(hs.2 b hb).trans z) he new
theorem NN {P:Program} {w:World} {H':Hp} {h':Heap} {kvs:List (Key×V)} {vs:List (Key×Value)} (z:kvs.length<=sizeLine) (hd:(a == sysModules)=false) (rel:KV kvs vs) (dd:h'.DictOf (ZD P w) a vs) :
  aJ P w H' h' a (.dK kvs):=⟨z,hd,vs,rel,dd⟩
theorem PU {H':Hp} {Q:Unit->Shared->Prop} (hu:A.units+1<cLine) (I:Inv X pins σ H s) (g:jE H a y v H') (ry:RelV y u) (rv:RelV v r) (h:∀ s',Inv X pins σ H' s'->Q () s') :
  wpAny (model X.prog X.w) A (setItem (.ref a) u r) Q E s:=by
 rcases g with ⟨kvs,k,e,ey,l,eH⟩ | ⟨kvs,k,b,e,ey,eb,l,eH⟩
 .subst ey eH
  obtain ⟨z,hd,vs,rel,dd⟩:=qN I.hok e
  have hz:vs.length<=sizeLine:=by rw [← rel.length]; exact z
  have hl:(putK kvs k v).length<=sizeLine:=by have:=By kvs k v; lia
  refine wpAny_setItem_pairs (hsz:=hz) (jv ry) dd λh' we hs=>h _ ?_
  have he:∃ q,h'.get? a=some q:=let ⟨q,_,_,hq,_⟩:=we; ⟨q,hq⟩
  exact IC I (by rw [e]; exact True.intro) hs he (NN hl hd (rel.put k rv) we)
 .subst ey eH
  cases (show u=Value.ref b from ry)
  obtain ⟨z,hd,xs,rel,dd⟩:=AI I.hok e
  have hz:xs.length<=sizeLine:=by rw [← bbS rel]; exact z
  have hl:(putK kvs k v).length<=sizeLine:=by have:=By kvs k v; lia
  refine wpAny_setItem_heap (hsz:=hz) (aP0 hu) (A1 I.hok eb) dd λh' we hs=>h _ ?_
  obtain ⟨q,es,ep,hq,h2,h3,h4,_,h5⟩:=we
  refine IC I (by rw [e]; exact True.intro) hs ⟨q,hq⟩ ⟨hl,hd,_,(rel.put k eb rv).keeps λc ys ec=>?_,q,es,ep,hq,h2,h3,h4,h5⟩
  rw [Zc (ou ec e (λz=>nomatch z))]
  exact ec
end
section
variable {X:Cx} {pins:List (Addr×Obj)} {σ:St} {H:Hp} {s:Shared} {a:Addr} {kvs:List (Key×V)} {k:Key} {u:Value} {A:Around} {E:Value->Shared->Prop}
theorem uD {v:V} {more:List Value} {Q:Value->Shared->Prop} (I:Inv X pins σ H s) (e:H a=some (.dK kvs)) (ry:RelV (kV k) u) (l:aO kvs k=some v) (hm:more=[]\/∃ x,more=[x])
  (h:∀ w' s',Inv X pins σ (upd H a (.dK (aW kvs k))) s'->RelV v w'->Q w' s'):wpAny (model X.prog X.w) A (call (.builtin "dict.pop") (.ref a :: u :: more)) Q E s:=by
 obtain ⟨z,hd,vs,rel,dd⟩:=qN I.hok e
 obtain ⟨w',hw,rw'⟩:=dQ.some_of (v:=v) (o:=valueAt vs k) (by rw [← l]; exact rel.val k)
 have hp:(keyPart u).isSome=true:=by
  cases k with
  | inl i=>obtain ⟨t,q⟩:=(show ∃ t,u=Value.int i t from ry); subst q; rfl
  | inr x=>obtain ⟨t,q⟩:=(show ∃ t,u=Value.str x t from ry); subst q; rfl
 have ha:argsOk "dict.pop" ⟨.ref a :: u :: more,[]⟩:=by
  rcases hm with q | ⟨x,q⟩
  .subst q; exact PySem.F.args_dict_pop_2 _ _
  .subst q; exact PySem.F.args_dict_pop_3 _ _ _
 refine call_meetsIn aBO dd.typeIs PySem.F.entry_dict_pop ha (meets_dict_pop_there (ZD X.prog X.w) a (jv ry) more hm hp)
  ⟨vs,w',dd,by rw [← rel.length]; exact z,hw,λh' we hs=>h w' _ ?_ rw'⟩
 have he:∃ q,h'.get? a=some q:=let ⟨q,_,_,hq,_⟩:=we; ⟨q,hq⟩
 exact IC I (by rw [e]; exact True.intro) hs he (NN (a28 (XN kvs k) z) hd (rel.drop k) we)
theorem V4 {r:Value} {Q:Value->Shared->Prop} (I:Inv X pins σ H s) (e:H a=some (.dK kvs)) (ry:RelV (kV k) u) (l:aO kvs k=none) (h:∀ s',Inv X pins σ H s'->Q r s') :
  wpAny (model X.prog X.w) A (call (.builtin "dict.pop") [.ref a,u,r]) Q E s:=by
 obtain ⟨z,hd,vs,rel,dd⟩:=qN I.hok e
 have hn:valueAt vs k=none:=dQ.none_of (by rw [← l]; exact rel.val k)
 have hp:(keyPart u).isSome=true:=by
  cases k with
  | inl i=>obtain ⟨t,q⟩:=(show ∃ t,u=Value.int i t from ry); subst q; rfl
  | inr x=>obtain ⟨t,q⟩:=(show ∃ t,u=Value.str x t from ry); subst q; rfl
 exact call_meetsIn aBO dd.typeIs PySem.F.entry_dict_pop (PySem.F.args_dict_pop_3 _ _ _) (meets_dict_pop_default (ZD X.prog X.w) a (jv ry) hd hp r) ⟨vs,dd,hn,h _ (I.tok _)⟩
end
def BQ (i:Expr):Prop:=∀ ov iv,subscripted i false ov iv=operate [ov,iv] (getItem ov iv)
theorem Xd {prog:Program} {w:World} {A:Around} {E:Value->Shared->Prop} {s:Shared} {env:Env} {value slice:Expr} {pos:Pos} {T id:String} {Q:Value->Shared->Prop}
  (hl:typeLookup (.type T) "__getitem__" = pure (some (.builtin id))) (hs:BQ slice)
  (h:wpAny (model prog w) A (eval value env) (λo s₁=>wpAny (model prog w) A (eval slice env) (λi s₂=>s₂.TypeIs o T/\wpAny (model prog w) A (getItem o i) Q E s₂) E s₁) E s) :
  wpAny (model prog w) A (eval (.Subscript value slice pos) env) Q E s:=by
 refine Subscript_ (aRs h (λo s₁ h₁=>aRs h₁ (λi s₂ h₂=>?_) λ_ _ x=>x) λ_ _ x=>x)
 obtain ⟨hT,h₂⟩:=h₂
 unfold subscriptTail
 refine apg ?_
 rw [getitemInPython_of_ne hT.not_modules]
 refine apg (wpAny_specialOf hT hl ?_)
 have fin:wpAny (model prog w) A (subscripted slice false o i) (λr s₃=>wpAny (model prog w) A (letTemporaryGo value o r >>= λ_=>pure r) Q E s₃) E s₂:=by
  rw [hs o i]
  exact wpAny_operating (aRs h₂ (λr s₃ h₃=>apg (wpAny_letTemporaryGo (a5a h₃))) λ_ _ x=>x)
 first
  | exact a5a (apg fin)
  | exact apg (a5a (apg fin))
  | exact apg fin
theorem Zim {X:Cx} {pins:List (Addr×Obj)} {σ:St} {H:Hp} {s:Shared} {a:Addr} {y:V} {o:Option V} (I:Inv X pins σ H s) (g:eB H a y o):s.TypeIs (.ref a) "dict" := by
 rcases g with ⟨kvs,k,e,_,_⟩ | ⟨kvs,k,b,e,_,_,_⟩
 .obtain ⟨_,_,vs,_,dd⟩:=j6 I.hok e
  exact dd.typeIs
 .obtain ⟨_,_,xs,_,dd⟩:=j5 I.hok e
  exact dd.typeIs
def yQ (td ty:TE):TE:=λσ H Q=>td σ H λx H1=>ty σ H1 λy H2=>∃ a v,x=.ref a/\eB H2 a y (some v)/\Q v H2
def Fl (ty td:TE):TE:=λσ H Q=>ty σ H λy H1=>td σ H1 λx H2=>∃ a o,x=.ref a/\eB H2 a y o/\Q (.bl o.isSome) H2
def ze (td ty tv:TE):TS:=λD σ H=>tv σ H λv H1=>td σ H1 λx H2=>ty σ H2 λy H3=>∃ a H4,x=.ref a/\jE H3 a y v H4/\D.nx σ H4
def zf (td ty tv:TE) (rd:V->V->Hp->VK->Prop):TS:=λD σ H=>td σ H λx H1=>ty σ H1 λy H2=>∃ a v,x=.ref a/\eB H2 a y (some v) /\
 tv σ H2 λy2 H3=>rd v y2 H3 λz H4=>∃ H5,jE H4 a y z H5/\D.nx σ H5
section
variable {X:Cx} {o i e value:Expr} {pos pos' tpos:Pos} {td ty tv:TE}
theorem Bb (hu:X.A.units+1<cLine) (ho:PE X o td) (hi:PE X i ty) (hs:BQ i):PE X (.Subscript o i pos) (yQ td ty):=by
 intro pins s σ H Q I h
 refine Xd PySem.F.slot_dict_getitem.lookup hs (gc (ho pins s σ H _ I h) λu s1 x H1 I1 rx q1=>bY (hi pins s1 σ H1 _ I1 q1) λiv s2 ⟨y,H2,I2,ry,a,v,ex,g,q2⟩=>?_)
 subst ex
 obtain rfl:u=Value.ref a:=rx
 exact ⟨Zim I2 g,PV hu I2 g ry λw' s3 I3 rw'=>⟨v,H2,I3,rw',q2⟩⟩
theorem V3 (hu:X.A.units+1<cLine) (hi:PE X i ty) (ho:PE X o td):PC X .In i o (Fl ty td):=by
 intro pins s σ H Q I h
 refine gc (hi pins s σ H _ I h) λiv s1 y H1 I1 ry q1=>bY (ho pins s1 σ H1 _ I1 q1) λu s2 ⟨x,H2,I2,rx,a,ov,ex,g,q2⟩=>?_
 subst ex
 obtain rfl:u=Value.ref a:=rx
 exact HF hu I2 g ry λs3 I3=>⟨.bl ov.isSome,H2,I3,rfl,q2⟩
theorem Ba (hu:X.A.units+1<cLine) (ho:PE X o td) (hi:PE X i ty) (hv:PE X value tv) (hs:swapsWith value (some (.Subscript o i pos')) pos.line X.env=pure false) :
  PS X (.Assign [.Subscript o i pos'] value pos) (ze td ty tv):=by
 intro pins s σ H D I h
 refine wpAny_Assign_Subscript (gc (hv pins s σ H _ I h) λr s1 v H1 I1 rv q1=>gc (ho pins s1 σ H1 _ I1 q1) λu s2 x H2 I2 rx q2=>bY (hi pins s2 σ H2 _ I2 q2) λiv s3 ⟨y,H3,I3,ry,a,H4,ex,g,q3⟩=>?_) hs
 subst ex
 obtain rfl:u=Value.ref a:=rx
 exact PU hu I3 g ry rv λs4 I4=>⟨σ,H4,I4,q3⟩
theorem WJ {op:Operator} {rd:V->V->Hp->VK->Prop} (hu:X.A.units+1<cLine) (ho:PE X o td) (hi:PE X i ty) (hv:PE X value tv) (hop:BX X op rd)
  (ha:∀ ov iv new,augStore i ov iv new=(do holding [new,ov,iv] (setItem ov iv new); release [new,ov,iv] []; pure .next)):PS X (.AugAssign (.Subscript o i tpos) op value pos) (zf td ty tv rd):=by
 intro pins s σ H D I h
 refine wpAny_AugAssign_SubscriptAny (gc (ho pins s σ H _ I h) λu s1 x H1 I1 rx q1=>bY (hi pins s1 σ H1 _ I1 q1) λiv s2 ⟨y,H2,I2,ry,a,v,ex,g,q2⟩=>?_) ha
 subst ex
 obtain rfl:u=Value.ref a:=rx
 refine PV hu I2 g ry λw' s3 I3 rw'=>gc (hv pins s3 σ H2 _ I3 q2) λw2 s4 y2 H3 I4 SJ q3=>bY (hop pins s4 σ H3 v y2 w' w2 _ I4 rw' SJ q3) λw3 s5 ⟨z,H4,I5,rz,H5,g5,q4⟩=>?_
 exact PU hu I5 g5 ry rz λs6 I6=>⟨σ,H5,I6,q4⟩
end
theorem XM {P:Program} {w:World} {H:Hp} (h:Heap) (hb:sysModules<h.objs.size):aJ P w H (h.push { cls:=.type "dict",data:=.dict #[] }) h.objs.size (.dK []) :=
 ⟨aUM _,aIZ.mpr (a4v (ayF hb)),[],.nil,Heap.DictOf.new h⟩
def V2:TE:=λ_ H Q=>∀ p,H p=none->Q (.ref p) (upd H p (.dK []))
section
variable {X:Cx} {pos:Pos}
theorem Bg:PE X (.Dict [] [] pos) V2:=λpins s σ H Q I h =>
 wpAny_Dict_empty ⟨.ref s.heap.objs.size,_,I.laid (a:=s.heap.objs.size) (o:=.dK []) (t':=s.toks) (λ_ _ q=>aXX _ q) (aEt _) (XM s.heap I.big),rfl,h _ (I.hok.fresh (aEt _))⟩
end
structure M1 (X:Cx) (o:Expr) (m:Str) (apos:Pos) (e:Expr) (cpos:Pos):Prop where
 base:attributeBase o m X.env (eval o X.env)=eval o X.env
 few:((backTo cpos (starEach [e] X.env)).all (λx=>!x.1) && (backToKw cpos (keywordEach [] X.env)).all (λx=>x.1.isSome)
  && decide (([e]:List Expr).length+([]:List Keyword).length+(if ([]:List Keyword).isEmpty then 0 else 1)<30))=true
 line:(apos.endLine == cpos.line)=true
 trees:backTo cpos (starEach [e] X.env)=[(false,eval e X.env)]
structure M2 (X:Cx) (o:Expr) (m:Str) (apos:Pos) (e f:Expr) (cpos:Pos):Prop where
 base:attributeBase o m X.env (eval o X.env)=eval o X.env
 few:((backTo cpos (starEach [e,f] X.env)).all (λx=>!x.1) && (backToKw cpos (keywordEach [] X.env)).all (λx=>x.1.isSome)
  && decide (([e,f]:List Expr).length+([]:List Keyword).length+(if ([]:List Keyword).isEmpty then 0 else 1)<30))=true
 line:(apos.endLine == cpos.line)=true
 trees:backTo cpos (starEach [e,f] X.env)=[(false,eval e X.env),(false,eval f X.env)]
def EI (H:Hp) (a:Addr):Prop:=(∃ kvs,Rd H a (.dK kvs))\/∃ kvs,Rd H a (.dT kvs)
theorem Di {X:Cx} {pins:List (Addr×Obj)} {σ:St} {H:Hp} {s:Shared} {a:Addr} (I:Inv X pins σ H s) (d:EI H a) :
  s.TypeIs (.ref a) "dict" /\ (∀ b,Value.ref a=.ref b->∃ ob,s.heap.get? b=some ob/\ob.dict=none)/\(a == sysModules)=false:=by
 rcases d with ⟨kvs,e⟩ | ⟨kvs,e⟩
 .obtain ⟨_,hd,vs,_,dd⟩:=j6 I.hok e
  refine ⟨dd.typeIs,λb q=>?_,hd⟩
  cases q
  obtain ⟨ob,_,_,h1,h2,_⟩:=dd
  exact ⟨ob,h1,h2.2.1⟩
 .obtain ⟨_,hd,xs,_,dd⟩:=j5 I.hok e
  refine ⟨dd.typeIs,λb q=>?_,hd⟩
  cases q
  obtain ⟨ob,_,_,h1,h2,_⟩:=dd
  exact ⟨ob,h1,h2.2.1⟩
section
variable {X:Cx} {pins:List (Addr×Obj)} {σ:St} {H:Hp} {s:Shared} {a:Addr} {y d:V} {u r:Value} {o:Option V} {A:Around} {E:Value->Shared->Prop}
theorem V1 {Q:Value->Shared->Prop} (hu:A.units+1<cLine) (I:Inv X pins σ H s) (g:eB H a y o) (ry:RelV y u) (rd:RelV d r) (h:∀ w' s',Inv X pins σ H s'->RelV (o.getD d) w'->Q w' s') :
  wpAny (model X.prog X.w) A (call (.builtin "dict.get") [.ref a,u,r]) Q E s:=by
 rcases g with ⟨kvs,k,e,ey,l⟩ | ⟨kvs,k,b,e,ey,eb,l⟩
 .subst ey
  obtain ⟨z,hd,vs,rel,dd⟩:=j6 I.hok e
  refine call_meetsIn a8N dd.typeIs PySem.F.entry_dict_get (PySem.F.args_dict_get_3 _ _ _) (meets_dict_get_default (ZD X.prog X.w) a (jv ry) hd r) ⟨_,dd.mapOf,h _ _ (I.tok _) ?_⟩
  rw [l]
  exact (rel.val k).getD rd
 .subst ey
  cases (show u=Value.ref b from ry)
  obtain ⟨z,hd,xs,rel,dd⟩:=j5 I.hok e
  refine call_meetsIn a8N dd.typeIs PySem.F.entry_dict_get (PySem.F.args_dict_get_3 _ _ _) (meetsH_dict_get_default (tupleKind (ZD X.prog X.w)) a b hd r) ⟨aP0 hu,k,xs,A1 I.hok eb,dd,h _ _ (I.tok _) ?_⟩
  rw [l]
  exact (rel.val k).getD rd
end
def V0 (td ty tx:TE):TE:=λσ H Q=>td σ H λx H1=>∃ a,x=.ref a/\EI H1 a/\ty σ H1 λy H2=>tx σ H2 λz H3=>∃ o,eB H3 a y o/\Q (o.getD z) H3
def VZ (td ty:TE):TE:=λσ H Q=>td σ H λx H1=>∃ a,x=.ref a/\EI H1 a/\ty σ H1 λy H2=>∃ kvs k v,H2 a=some (.dK kvs)/\y=kV k/\aO kvs k=some v/\Q v (upd H2 a (.dK (aW kvs k)))
def VY (td ty tx:TE):TE:=λσ H Q=>td σ H λx H1=>∃ a,x=.ref a/\EI H1 a/\ty σ H1 λy H2=>tx σ H2 λz H3=>∃ kvs k,H3 a=some (.dK kvs)/\y=kV k /\
 (∀ v,aO kvs k=some v->Q v (upd H3 a (.dK (aW kvs k))))/\(aO kvs k=none->Q z H3)
section
variable {X:Cx} {o e f:Expr} {apos cpos:Pos} {td ty tx:TE}
theorem O0 (hu:X.A.units+1<cLine) (ho:PE X o td) (he:PE X e ty) (hf:PE X f tx) (m:M2 X o "get" apos e f cpos):PE X (.Call (.Attribute o "get" apos) [e,f] [] cpos) (V0 td ty tx):=by
 intro pins s σ H Q I h
 refine wpAny_Call_method m.base m.few m.line aum a8N PySem.F.type_dict_get (bY (ho pins s σ H _ I h) λu s1 ⟨x,H1,I1,rx,a,ex,d,q1⟩=>?_)
 subst ex
 obtain rfl:u=Value.ref a:=rx
 obtain ⟨t1,t2,_⟩:=Di I1 d
 refine ⟨t1,t2,?_⟩
 rw [m.trees]
 refine a1F rfl (amk (avt (gc (he pins s1 σ H1 _ I1 q1) λiv s2 y H2 I2 ry q2 =>
  avt (bY (hf pins s2 σ H2 _ I2 q2) λfv s3 ⟨z,H3,I3,rz,ov,g,q3⟩=>aQr ?_))))
 exact V1 hu I3 g ry rz λw' s4 I4 rw'=>⟨_,H3,I4,rw',q3⟩
theorem OZ (ho:PE X o td) (he:PE X e ty) (m:M1 X o "pop" apos e cpos):PE X (.Call (.Attribute o "pop" apos) [e] [] cpos) (VZ td ty):=by
 intro pins s σ H Q I h
 refine wpAny_Call_method m.base m.few m.line aum aBO PySem.F.type_dict_pop (bY (ho pins s σ H _ I h) λu s1 ⟨x,H1,I1,rx,a,ex,d,q1⟩=>?_)
 subst ex
 obtain rfl:u=Value.ref a:=rx
 obtain ⟨t1,t2,_⟩:=Di I1 d
 refine ⟨t1,t2,?_⟩
 rw [m.trees]
 refine a1F rfl (amk (avt (bY (he pins s1 σ H1 _ I1 q1) λiv s2 ⟨y,H2,I2,ry,kvs,k,v,ea,ey,l,q2⟩=>aQr ?_)))
 subst ey
 exact uD I2 ea ry l (.inl rfl) λw' s3 I3 rw'=>⟨v,_,I3,rw',q2⟩
theorem OY (ho:PE X o td) (he:PE X e ty) (hf:PE X f tx) (m:M2 X o "pop" apos e f cpos):PE X (.Call (.Attribute o "pop" apos) [e,f] [] cpos) (VY td ty tx):=by
 intro pins s σ H Q I h
 refine wpAny_Call_method m.base m.few m.line aum aBO PySem.F.type_dict_pop (bY (ho pins s σ H _ I h) λu s1 ⟨x,H1,I1,rx,a,ex,d,q1⟩=>?_)
 subst ex
 obtain rfl:u=Value.ref a:=rx
 obtain ⟨t1,t2,_⟩:=Di I1 d
 refine ⟨t1,t2,?_⟩
 rw [m.trees]
 refine a1F rfl (amk (avt (gc (he pins s1 σ H1 _ I1 q1) λiv s2 y H2 I2 ry q2 =>
  avt (bY (hf pins s2 σ H2 _ I2 q2) λfv s3 ⟨z,H3,I3,rz,kvs,k,ea,ey,q3,q4⟩=>aQr ?_))))
 subst ey
 cases l:aO kvs k with
 | some v=>exact uD I3 ea ry l (.inr ⟨fv,rfl⟩) λw' s4 I4 rw'=>⟨v,_,I4,rw',q3 v l⟩
 | none=>exact V4 I3 ea ry l λs4 I4=>⟨z,H3,I4,rz,q4 l⟩
end
section
variable {κ:Type} [DecidableEq κ]
theorem A9:∀ {l:List κ} {k:κ},l.Nodup->¬ k∈l->(l++[k]).Nodup
 | [],k,_,_=>by simp
 | a :: r,k,h,hk=>by
  obtain ⟨h1,h2⟩:=aDH.mp h
  show (a :: (r++[k])).Nodup
  refine aDH.mpr ⟨λm=>?_,A9 h2 λm=>hk (aHJ.mpr (Or.inr m))⟩
  rcases a1m.mp m with q | q
  .exact h1 q
  .exact hk (aHJ.mpr (Or.inl (arG.mp q).symm))
theorem YE {p:κ×V} {r:List (κ×V)} {k:κ} (e:p.1=k):aW (p :: r) k=aW r k:=by
 unfold aW
 rw [aPc,aM3 (by simp [e])]
theorem YD {p:κ×V} {r:List (κ×V)} {k:κ} (e:¬ p.1=k):aW (p :: r) k=p :: aW r k:=by
 unfold aW
 rw [aPc,abw (by simp [e])]
end
theorem OX {P:Program} {w:World} {k:Key} {u:Value} (h:(ZD P w).is k u=true):RelV (kV k) u:=by
 rw [Z4] at h
 rcases ZI h with ⟨i,t,rfl,rfl⟩ | ⟨x,t,rfl,rfl⟩
 .exact ⟨t,rfl⟩
 .exact ⟨t,rfl⟩
structure Src (P0:Program) (w0:World) (it l:Addr) (its:Array Value) (pos:Nat->Heap->Prop) (sq:Heap->Prop):Prop where
 item:∀ {A0:Around} {E0:Value->Shared->Prop} {t:Shared} {i:Nat} {x:Value} {Q0:Value->Shared->Prop},pos i t.heap->sq t.heap->its[i]?=some x->(∀ g,pos (i+1) g->Heap.SameBut it t.heap g->Q0 x { t with heap:=g })->wpAny (model P0 w0) A0 (Builtin.SmallTypes.nextOf (.ref it)) Q0 E0 t
 stop:∀ {A0:Around} {E0:Value->Shared->Prop} {t:Shared} {i:Nat} {Q0:Value->Shared->Prop},A0.handled=none->pos i t.heap->sq t.heap->its[i]?=none->(∀ g e,Heap.ExtBut it t.heap g->(∃ o,g.get? e=some o/\o.cls=.type "StopIteration")->E0 (.ref e) { t with heap:=g })->wpAny (model P0 w0) A0 (Builtin.SmallTypes.nextOf (.ref it)) Q0 E0 t
 iP:∀ {i:Nat} {g g':Heap},pos i g->(∀ o,g.get? it=some o->g'.get? it=some o)->pos i g'
 nS:∀ {g g':Heap},sq g->(∀ o,g.get? l=some o->g'.get? l=some o)->sq g'
 obj:∀ {i:Nat} {g:Heap},pos i g->∃ o,g.get? it=some o/\∀ v,o.data≠.cell v
section
variable {P0:Program} {w0:World} {A0:Around} {E0:Value->Shared->Prop} {t:Shared}
theorem Zhw {it a:Addr} {i:Nat} {its:Array Value} {x:Value} {Q0:Value->Shared->Prop} (st:t.heap.IsTupleIter it a i) (tp:t.heap.IsTuple a its) (hx:its[i]?=some x)
  (k:∀ g,g.IsTupleIter it a (i+1)->Heap.SameBut it t.heap g->Q0 x { t with heap:=g }):wpAny (model P0 w0) A0 (Builtin.SmallTypes.nextOf (.ref it)) Q0 E0 t:=by
 obtain ⟨oi,gi,ci,di⟩:=id st
 obtain ⟨oa,ga,_,n,da⟩:=tp
 unfold Builtin.SmallTypes.nextOf
 refine apg (a6m (name:=Str.ofString "__next__") st.typeIs bcY (baF bcY st.typeIs F.entry_tuple_iterator_next ?_ (F.args_tuple_iterator_next_1 _)))
 show wpAny _ _ (field (.ref it) 0 >>= _) _ _ t
 refine apg (ac1 gi di (x:=.ref a) rfl ?_)
 show wpAny _ _ (if (Value.ref a == Value.none)=true then _ else _) _ _ t
 rw [aM3 (show ¬ ((Value.ref a == Value.none)=true) from aBC)]
 show wpAny _ _ (field (.ref it) 1 >>= _) _ _ t
 refine apg (ac1 gi di (x:=.int i 0) rfl ?_)
 show wpAny _ _ (seqItems? (.ref a) >>= _) _ _ t
 refine apg (aaf ga da ?_)
 simp only [hx,Int.toNat_natCast]
 refine apg (wpAny_setField gi di (by simp) (a5a ⟨x,rfl,a5a (k _ ⟨_,Heap.get?_update_self _ gi (Obj.isFreed_of_fields (Obj.data_mapFields di _)),(Obj.cls_mapFields ..).trans ci,?_⟩ (Heap.SameBut.update ..))⟩))
 rw [Obj.data_mapFields di]
 simp [rawInt]
theorem Zhx {it a:Addr} {i:Nat} {its:Array Value} {Q0:Value->Shared->Prop} (hA:A0.handled=none) (st:t.heap.IsTupleIter it a i) (tp:t.heap.IsTuple a its) (hx:its[i]?=none)
  (k:∀ g e,Heap.ExtBut it t.heap g->(∃ o,g.get? e=some o/\o.cls=.type "StopIteration")->E0 (.ref e) { t with heap:=g }):wpAny (model P0 w0) A0 (Builtin.SmallTypes.nextOf (.ref it)) Q0 E0 t:=by
 obtain ⟨oi,gi,ci,di⟩:=id st
 obtain ⟨oa,ga,_,n,da⟩:=tp
 unfold Builtin.SmallTypes.nextOf
 refine apg (a6m (name:=Str.ofString "__next__") st.typeIs bcY (baF bcY st.typeIs F.entry_tuple_iterator_next ?_ (F.args_tuple_iterator_next_1 _)))
 show wpAny _ _ (field (.ref it) 0 >>= _) _ _ t
 refine apg (ac1 gi di (x:=.ref a) rfl ?_)
 show wpAny _ _ (if (Value.ref a == Value.none)=true then _ else _) _ _ t
 rw [aM3 (show ¬ ((Value.ref a == Value.none)=true) from aBC)]
 show wpAny _ _ (field (.ref it) 1 >>= _) _ _ t
 refine apg (ac1 gi di (x:=.int i 0) rfl ?_)
 show wpAny _ _ (seqItems? (.ref a) >>= _) _ _ t
 refine apg (aaf ga da ?_)
 simp only [hx,Int.toNat_natCast]
 refine apg (aPe (apg (wpAny_setField gi di (by simp) ?_)))
 show wpAny _ _ (newExc (.type "StopIteration") [] >>= _) _ _ _
 refine apg ?_
 simp only [newTuple,newExc]
 refine apg (aB2 (apg (m:=firstArgMember _ _) (wpAny_of_eq (a:=Value.none) (by first | rfl | (simp only [firstArgMember]; rfl)) (aB2 ?_ (by size_fits)))) (by size_fits))
 simp only [raiseNew]
 refine apg (wpAny_handled ?_)
 first | rw [show A0.in1.handled=none from hA] | rw [hA]
 exact apg (a5a (wpAny_throw (k _ _ (((Heap.SameBut.update ..).extBut.push _).push _) ⟨_,aYI _ rfl,rfl⟩)))
end
theorem Bx {h:Heap} {it l:Addr} {i:Nat} (x:h.IsTupleIter it l i):∃ o,h.get? it=some o/\∀ v,o.data≠.cell v:=by
 obtain ⟨o,e,c,d⟩:=x
 exact ⟨o,e,λv z=>by rw [d] at z; cases z⟩
theorem DJ {P0:Program} {w0:World} (it l:Addr) (its:Array Value):Src P0 w0 it l its (λi h=>h.IsTupleIter it l i) (λh=>h.IsTuple l its) where
 item:=λa b c d=>Zhw a b c d
 stop:=λa b c d e=>Zhx a b c d e
 iP:=λa b=>a.at b
 nS:=λa b=>by obtain ⟨o,e,r⟩:=a; exact ⟨o,b o e,r⟩
 obj:=λa=>Bx a
section
variable {P0:Program} {w0:World} {A0:Around} {E0:Value->Shared->Prop} {t:Shared} {z TI TO ia ib la lb:Addr} {p1 p2:Nat->Heap->Prop} {q1 q2:Heap->Prop} {xs ys:Array Value}
theorem YC {k:Nat} {x y u v:Value} {Q0:Value->Shared->Prop} (S1:Src P0 w0 ia la xs p1 q1) (S2:Src P0 w0 ib lb ys p2 q2) (D:ZipApart z TI TO ia ib la lb)
  (zz:IsZip t.heap z TI TO .none) (zI:IsPair t.heap TI (.ref ia) (.ref ib)) (zO:IsPair t.heap TO u v) (a1:p1 k t.heap) (a2:p2 k t.heap) (b1:q1 t.heap) (b2:q2 t.heap) (hx:xs[k]?=some x) (hy:ys[k]?=some y)
  (fin:∀ g,IsZip g z TI TO (rawInt t.heap.objs.size)->IsPair g TO x y->p1 (k+1) g->p2 (k+1) g->IsPair g t.heap.objs.size x y->g.objs.size=t.heap.objs.size+1 ->
   (∀ c o,c≠z->c≠TO->c≠ia->c≠ib->t.heap.get? c=some o->g.get? c=some o)->Q0 (.ref t.heap.objs.size) { t with heap:=g }) :
  wpAny (model P0 w0) A0 (Builtin.«zip.__next__» ⟨[.ref z],[]⟩) (λf s'=>∃ v,f=.done (.ret v)/\Q0 v s') E0 t:=by
 show wpAny _ _ (field (.ref z) 2 >>= _) _ _ _
 refine apg (ac1 zz rfl (x:=.bool false) rfl ?_)
 show wpAny _ _ (field (.ref z) 3 >>= _) _ _ _
 refine apg (ac1 zz rfl (x:=.ref TI) rfl (apg (aaf zI rfl ?_)))
 show wpAny _ _ (Builtin.SmallTypes.ownedTupleIsFree (.ref z) >>= _) _ _ _
 refine apg ?_
 unfold Builtin.SmallTypes.ownedTupleIsFree
 refine apg (ac1 zz rfl (x:=.none) rfl (a5a ?_))
 simp only [aOV]
 refine apg (aPe (apg (ac1 zz rfl (x:=.ref TO) rfl (apg (ayg zz (by simp) λg1 z1 c1=>?_)))))
 replace z1:IsZip g1 z TI TO .ellipsis:=z1
 refine apg ?_
 simp only [aZ5,List.forIn_nil,List.zipIdx_cons,List.zipIdx_nil]
 refine apg (apg (wpAny_onRaise ?_))
 show wpAny _ _ (Builtin.SmallTypes.nextOf (.ref ia) >>= _) _ _ _
 refine apg (S1.item (S1.iP a1 λo e=>c1.extBut _ o D.i1z e) (S1.nS b1 λo e=>c1.extBut _ o D.l1z e) hx λg2 VD c2=>a5a ?_)
 have o2:IsPair g2 TO u v:=c2.extBut _ _ D.TOi1 (c1.extBut _ _ D.TOz zO)
 refine apg (aaf o2 rfl (apg (wpAny_updateSeq_pair o2 λg3 o3 c3=>?_)))
 replace o3:IsPair g3 TO x v:=o3
 refine apg (wpAny_letGo (a5a ?_))
 refine apg (apg (wpAny_onRaise ?_))
 show wpAny _ _ (Builtin.SmallTypes.nextOf (.ref ib) >>= _) _ _ _
 have m3:∀ c o,c≠z->c≠ia->c≠TO->t.heap.get? c=some o->g3.get? c=some o:=λc o n1 n2 n3 e=>c3.extBut _ _ n3 (c2.extBut _ _ n2 (c1.extBut _ _ n1 e))
 refine apg (S2.item (S2.iP a2 λo e=>m3 _ o D.i2z D.i12.symm D.TOi2.symm e) (S2.nS b2 λo e=>m3 _ o D.l2z D.l2i1 D.l2TO e) hy λg4 VB c4=>a5a ?_)
 have o4:IsPair g4 TO x v:=c4.extBut _ _ D.TOi2 o3
 refine apg (aaf o4 rfl (apg (wpAny_updateSeq_pair o4 λg5 o5 c5=>?_)))
 replace o5:IsPair g5 TO x y:=o5
 refine apg (wpAny_letGo (a5a (a5a ?_)))
 refine apg (aaf o5 rfl (apg (wpAny_newTuple ?_)))
 have sz:g5.objs.size=t.heap.objs.size:=by rw [c5.1,c4.1,c3.1,c2.1,c1.1]
 have m5:∀ c o,c≠z->c≠TO->c≠ia->c≠ib->t.heap.get? c=some o->g5.get? c=some o:=λc o n1 n2 n3 n4 e=>c5.extBut _ _ n2 (c4.extBut _ _ n4 (m3 c o n1 n3 n2 e))
 have z5:IsZip g5 z TI TO .ellipsis:=c5.extBut _ _ D.TOz.symm (c4.extBut _ _ D.i2z.symm (c3.extBut _ _ D.TOz.symm (c2.extBut _ _ D.i1z.symm z1)))
 have VC:p1 (k+1) g5:=S1.iP VD λo e=>c5.extBut _ o D.TOi1.symm (c4.extBut _ o D.i12 (c3.extBut _ o D.TOi1.symm e))
 have VA:p2 (k+1) g5:=S2.iP VB λo e=>c5.extBut _ o D.TOi2.symm e
 have LB:z<g5.objs.size:=a2R z5
 show wpAny _ _ (Builtin.SmallTypes.ownedTupleHandOut (.ref z) (.ref g5.objs.size) >>= _) _ _ _
 refine apg ?_
 unfold Builtin.SmallTypes.ownedTupleHandOut
 have z6:IsZip (g5.push { cls:=.type "tuple",data:=.seq #[x,y] }) z TI TO .ellipsis:=aXX _ z5
 refine apg (ayg z6 (by simp) λg7 z7 c7=>?_)
 replace z7:IsZip g7 z TI TO (rawInt g5.objs.size):=z7
 refine ayg z7 (by simp) λg8 z8 c8=>?_
 replace z8:IsZip g8 z TI TO (rawInt g5.objs.size):=z8
 have m8:∀ c o,c≠z->g5.get? c=some o->g8.get? c=some o:=λc o n1 e=>c8.extBut _ _ n1 (c7.extBut _ _ n1 (aXX _ e))
 have t8:IsPair g8 g5.objs.size x y:=c8.extBut _ _ (anG LB) (c7.extBut _ _ (anG LB) (aYI _ rfl))
 have s8:g8.objs.size=g5.objs.size+1:=by rw [c8.1,c7.1,aBp]
 rw [sz] at z8 t8 s8
 refine a5a ⟨_,rfl,?_⟩
 show Q0 (.ref g5.objs.size) _
 rw [sz]
 exact fin g8 z8 (m8 _ _ D.TOz o5) (S1.iP VC λo e=>m8 _ o D.i1z e) (S2.iP VA λo e=>m8 _ o D.i2z e) t8 s8 λc o n1 n2 n3 n4 e=>m8 c o n1 (m5 c o n1 n2 n3 n4 e)
theorem Y6 {k:Nat} {u v:Value} {Q0:Fin->Shared->Prop} (hA:A0.handled=none) (S1:Src P0 w0 ia la xs p1 q1) (S2:Src P0 w0 ib lb ys p2 q2) (D:ZipApart z TI TO ia ib la lb)
  (zz:IsZip t.heap z TI TO .none) (zI:IsPair t.heap TI (.ref ia) (.ref ib)) (zO:IsPair t.heap TO u v) (a1:p1 k t.heap) (b1:q1 t.heap) (hx:xs[k]?=none)
  (fin:∀ g e,(∀ c o,c≠z->c≠TO->c≠ia->c≠ib->t.heap.get? c=some o->g.get? c=some o)->(∃ o,g.get? e=some o/\o.cls=.type "StopIteration")->E0 (.ref e) { t with heap:=g }) :
  wpAny (model P0 w0) A0 (Builtin.«zip.__next__» ⟨[.ref z],[]⟩) Q0 E0 t:=by
 show wpAny _ _ (field (.ref z) 2 >>= _) _ _ _
 refine apg (ac1 zz rfl (x:=.bool false) rfl ?_)
 show wpAny _ _ (field (.ref z) 3 >>= _) _ _ _
 refine apg (ac1 zz rfl (x:=.ref TI) rfl (apg (aaf zI rfl ?_)))
 show wpAny _ _ (Builtin.SmallTypes.ownedTupleIsFree (.ref z) >>= _) _ _ _
 refine apg ?_
 unfold Builtin.SmallTypes.ownedTupleIsFree
 refine apg (ac1 zz rfl (x:=.none) rfl (a5a ?_))
 simp only [aOV]
 refine apg (aPe (apg (ac1 zz rfl (x:=.ref TO) rfl (apg (ayg zz (by simp) λg1 z1 c1=>?_)))))
 replace z1:IsZip g1 z TI TO .ellipsis:=z1
 refine apg ?_
 simp only [aZ5,List.forIn_nil,List.zipIdx_cons,List.zipIdx_nil]
 refine apg (apg (wpAny_onRaise ?_))
 show wpAny _ _ (Builtin.SmallTypes.nextOf (.ref ia) >>= _) _ _ _
 refine apg (S1.stop hA (S1.iP a1 λo e=>c1.extBut _ o D.i1z e) (S1.nS b1 λo e=>c1.extBut _ o D.l1z e) hx λg2 e c2 he=>?_)
 obtain ⟨oe,Hs,ce⟩:=he
 have z2:IsZip g2 z TI TO .ellipsis:=c2 _ _ D.i1z.symm z1
 have ne:e≠z:=λq=>by rw [q,z2] at Hs; cases Hs; simp at ce
 exact ayg z2 (by simp) λg3 _ c3=>fin g3 e (λc o n1 _ n3 _ q=>c3.extBut _ _ n1 (c2 _ _ n3 (c1.extBut _ _ n1 q))) ⟨oe,c3.extBut _ _ ne Hs,ce⟩
theorem Zhy {k:Nat} {x y u v:Value} {Q0:Option Value->Shared->Prop} (S1:Src P0 w0 ia la xs p1 q1) (S2:Src P0 w0 ib lb ys p2 q2) (D:ZipApart z TI TO ia ib la lb)
  (zz:IsZip t.heap z TI TO .none) (zI:IsPair t.heap TI (.ref ia) (.ref ib)) (zO:IsPair t.heap TO u v) (a1:p1 k t.heap) (a2:p2 k t.heap) (b1:q1 t.heap) (b2:q2 t.heap) (hx:xs[k]?=some x) (hy:ys[k]?=some y)
  (fin:∀ g,IsZip g z TI TO (rawInt t.heap.objs.size)->IsPair g TO x y->p1 (k+1) g->p2 (k+1) g->IsPair g t.heap.objs.size x y->g.objs.size=t.heap.objs.size+1 ->
   (∀ c o,c≠z->c≠TO->c≠ia->c≠ib->t.heap.get? c=some o->g.get? c=some o)->Q0 (some (.ref t.heap.objs.size)) { t with heap:=g }):wpAny (model P0 w0) A0 (pyNext (.ref z)) Q0 E0 t:=by
 have ty:t.TypeIs (.ref z) "zip" := ⟨_,zz,rfl⟩
 unfold pyNext
 exact apg (wpAny_attempt (a6m (name:=Str.ofString "__next__") ty F.slot_zip_next (baF F.slot_zip_next ty F.entry_zip_next (YC S1 S2 D zz zI zO a1 a2 b1 b2 hx hy λg r1 r2 r3 r4 r5 r6 r7=>a5a (fin g r1 r2 r3 r4 r5 r6 r7)) (F.args_zip_next_1 _))))
theorem Zhz {k:Nat} {u v:Value} {Q0:Option Value->Shared->Prop} (hA:A0.handled=none) (S1:Src P0 w0 ia la xs p1 q1) (S2:Src P0 w0 ib lb ys p2 q2) (D:ZipApart z TI TO ia ib la lb)
  (zz:IsZip t.heap z TI TO .none) (zI:IsPair t.heap TI (.ref ia) (.ref ib)) (zO:IsPair t.heap TO u v) (a1:p1 k t.heap) (b1:q1 t.heap) (hx:xs[k]?=none)
  (fin:∀ g,(∀ c o,c≠z->c≠TO->c≠ia->c≠ib->t.heap.get? c=some o->g.get? c=some o)->Q0 none { t with heap:=g }):wpAny (model P0 w0) A0 (pyNext (.ref z)) Q0 E0 t:=by
 have ty:t.TypeIs (.ref z) "zip" := ⟨_,zz,rfl⟩
 unfold pyNext
 refine apg (wpAny_attempt (a6m (name:=Str.ofString "__next__") ty F.slot_zip_next (baF F.slot_zip_next ty F.entry_zip_next (Y6 hA S1 S2 D zz zI zO a1 b1 hx λg e kp he=>?_) (F.args_zip_next_1 _))))
 obtain ⟨oe,ge,ce⟩:=he
 exact apg (wpAny_isInstance (T := "StopIteration") (b:=true) ⟨oe,ge,ce⟩ isSubtype_stop (a5a (fin _ kp)))
end
abbrev Ci (h:Heap) (a:Addr):Heap:=h.push { cls:=.type "tuple_iterator",data:=.fields #[.ref a,.int 0 0] }
abbrev Cg (h:Heap) (a b:Addr):Heap:=(Ci h a).push { cls:=.type "tuple_iterator",data:=.fields #[.ref b,.int 0 0] }
abbrev Ce (h:Heap) (a b:Addr):Heap:=(Cg h a b).push { cls:=.type "tuple",data:=.seq #[.ref h.objs.size,.ref (Ci h a).objs.size] }
abbrev Cd (h:Heap) (a b:Addr):Heap:=(Ce h a b).push { cls:=.type "tuple",data:=.seq #[.none,.none] }
abbrev wU (h:Heap) (a b:Addr):Heap:=(Cd h a b).push { cls:=.type "zip",data:=.fields #[.none,.bool false,.bool false,.ref (Cg h a b).objs.size,.ref (Ce h a b).objs.size] }
theorem ZkI (a b:Addr) (xs ys:Array Value) :
  Meets (Builtin.«zip.__new__» ⟨[.type "zip",.ref a,.ref b],[]⟩) (λ_ R s=>s.heap.IsTuple a xs/\s.heap.IsTuple b ys/\R (.ok (.ret (.ref (Cd s.heap a b).objs.size))) { s with heap:=wU s.heap a b }) :=
 .of_wp λP0 w0 A0 R t h=>by
  obtain ⟨hp,gn,dr,tk,os⟩:=t
  obtain ⟨ta,tb,h⟩:=h
  have sub:=sub_zip
  have qa:Heap.IsTuple (Shared.heap ⟨hp,gn,dr,tk,os⟩) a xs:=ta
  have qb:Heap.IsTuple (Shared.heap ⟨hp.push { cls:=.type "tuple_iterator",data:=.fields #[.ref a,.int 0 0] },gn,dr,tk,os⟩) b ys:=Heap.IsTuple.push tb _
  wp_walk using wpAny_pyIter_tuple qa,wpAny_pyIter_tuple qb
  exact ⟨_,rfl,h⟩
theorem Y5 {P0:Program} {w0:World} {A0:Around} {E0:Value->Shared->Prop} {t:Shared} {a b:Addr} {xs ys:Array Value} {Q0:Value->Shared->Prop} (ta:t.heap.IsTuple a xs) (tb:t.heap.IsTuple b ys)
  (h:∀ g,IsZip g (t.heap.objs.size+4) (t.heap.objs.size+2) (t.heap.objs.size+3) .none->IsPair g (t.heap.objs.size+2) (.ref t.heap.objs.size) (.ref (t.heap.objs.size+1))->IsPair g (t.heap.objs.size+3) .none .none ->
   g.IsTupleIter t.heap.objs.size a 0->g.IsTupleIter (t.heap.objs.size+1) b 0->(∀ c o,t.heap.get? c=some o->g.get? c=some o)->Q0 (.ref (t.heap.objs.size+4)) { t with heap:=g }) :
  wpAny (model P0 w0) A0 (call (.type "zip") [.ref a,.ref b]) Q0 E0 t:=by
 refine callType_new F.called_zip (by decide) (F.typeCall_zip_2 _ _) (F.newCall_zip_2 _ _) (λobj=>F.args_object_init_3 obj _ _) F.entry_zip_new (ZkI a b xs ys) ⟨ta,tb,?_⟩
 have n1:(Ci t.heap a).objs.size=t.heap.objs.size+1:=aBp ..
 have n2:(Cg t.heap a b).objs.size=t.heap.objs.size+2:=by rw [aBp,n1]
 have n3:(Ce t.heap a b).objs.size=t.heap.objs.size+3:=by rw [aBp,n2]
 have n4:(Cd t.heap a b).objs.size=t.heap.objs.size+4:=by rw [aBp,n3]
 have r5:(wU t.heap a b).get? (Cd t.heap a b).objs.size=some _:=aYI _ rfl
 have r4:(wU t.heap a b).get? (Ce t.heap a b).objs.size=some _:=aXX _ (aYI _ rfl)
 have r3:(wU t.heap a b).get? (Cg t.heap a b).objs.size=some _:=aXX _ (aXX _ (aYI _ rfl))
 have r2:(wU t.heap a b).get? (Ci t.heap a).objs.size=some _:=aXX _ (aXX _ (aXX _ (aYI _ rfl)))
 have r1:(wU t.heap a b).get? t.heap.objs.size=some _:=aXX _ (aXX _ (aXX _ (aXX _ (aYI _ rfl))))
 show _/\_
 rw [n2,n3,n4] at r5
 rw [n1,n2] at r3
 rw [n3] at r4
 rw [n1] at r2
 rw [n4]
 refine ⟨⟨_,r5,rfl⟩,h _ r5 r3 r4 ⟨_,r1,rfl,rfl⟩ ⟨_,r2,rfl,rfl⟩ λc o q=>?_⟩
 iterate 5 refine aXX _ ?_
 exact q
def qZ (K:W.Frag) (a b:Addr):It :=
 ⟨λi H=>∃ xs ys x y,aK K H a xs/\aK K H b ys/\xs[i]?=some x/\ys[i]?=some y,
 λi H v H'=>∃ t x y,H t=none/\v=.ref t/\H'=upd H t (.tup [x,y])/\(∀ xs,aK K H a xs->xs[i]?=some x)/\∀ ys,aK K H b ys->ys[i]?=some y,
 λi H=>∃ xs,aK K H a xs/\(∃ ys,aK K H b ys)/\xs.length<=i⟩
theorem Y4 {P:Program} {w:World} {K:W.Frag} {elts:List PySem.Expr} {x1} {pos:Pos} (z TI TO i1 i2 a b:Addr) (D:ZipApart z TI TO i1 i2 a b) :
  Turn P w K (.Tuple elts x1 pos) (qZ K a b) [z,TI,TO,i1,i2] z (λi h=>IsZip h z TI TO .none/\IsPair h TI (.ref i1) (.ref i2)/\(∃ u v,IsPair h TO u v)/\h.IsTupleIter i1 a i/\h.IsTupleIter i2 b i) where
 mem:=by simp
 obj:=λi h st c hc=>by
  obtain ⟨hz,hTI,⟨u,v,hTO⟩,h1,h2⟩:=st
  simp only [aNZ,aQ7,aS0] at hc
  rcases hc with rfl | rfl | rfl | rfl | rfl
  .exact ⟨_,hz,λv e=>by cases e⟩
  .exact ⟨_,hTI,λv e=>by cases e⟩
  .exact ⟨_,hTO,λv e=>by cases e⟩
  .exact Bx h1
  .exact Bx h2
 keep:=λi h h' st k=>by
  obtain ⟨hz,hTI,⟨u,v,hTO⟩,h1,h2⟩:=st
  exact ⟨k z (by simp) _ hz,k TI (by simp) _ hTI,⟨u,v,k TO (by simp) _ hTO⟩,h1.at λo e=>k i1 (by simp) o e,h2.at λo e=>k i2 (by simp) o e⟩
 item:=by
  intro X hP hw hK hc i pins s σ H E I hf st hg
  subst hP hw hK
  obtain ⟨xs,ys,x,y,ni,ng,hx,hy⟩:=hg
  obtain ⟨hz,hTI,⟨u0,v0,hTO⟩,h1,h2⟩:=st
  obtain ⟨jw,ra,pa,za⟩:=I.tuple ni
  obtain ⟨jN,rb,pb,zb⟩:=I.tuple ng
  obtain ⟨ux,hux,FG⟩:=ra.get hx
  obtain ⟨uy,GS,FF⟩:=rb.get hy
  refine Zhy (DJ i1 a jw.toArray) (DJ i2 b jN.toArray) D hz hTI hTO h1 h2 (show s.heap.IsTuple a jw.toArray from pa) (show s.heap.IsTuple b jN.toArray from pb) (x:=ux) (y:=uy) (by simpa using hux) (by simpa using GS) λh' a1 a2 a3 a4 a5 a6 a7=>?_
  refine ⟨.ref s.heap.objs.size,rfl,?_⟩
  refine wpAny_letOwnedTupleGo_zip a1 λh2' hz' hs'=>?_
  have qD:z<s.heap.objs.size:=a2R hz
  have kk:∀ c o,c∉[z,TI,TO,i1,i2]->s.heap.get? c=some o->h2'.get? c=some o:=λc o hc e=>by
   simp only [aNZ,aQ7,aS0,not_or] at hc
   exact hs'.extBut c o hc.1 (a7 c o hc.1 hc.2.2.1 hc.2.2.2.1 hc.2.2.2.2 e)
  have tp:h2'.get? s.heap.objs.size=some { cls:=.type "tuple",data:=.seq #[ux,uy] }:=hs'.extBut _ _ (anG qD) a5
  have I1:Inv X pins σ (upd H s.heap.objs.size (.tup [x,y])) { s with heap:=h2',toks:=s.toks } :=
   I.m7 hf kk ⟨by show 2<=sizeLine; decide,[ux,uy],.cons FG (.cons FF .nil),⟨_,tp,rfl,_,rfl⟩⟩
  have Lu:h2'.get? TI=s.heap.get? TI:=by
   rw [hTI]
   exact hs'.extBut _ _ D.TIz (a7 _ _ D.TIz D.TITO D.TIi1 D.TIi2 hTI)
  refine ⟨.ref s.heap.objs.size,_,I1,rfl,⟨s.heap.objs.size,x,y,I.hok.fresh (aEt _),rfl,rfl,λxs' h=>by rw [I.gb h ni]; exact hx,λys' h=>by rw [I.gb h ng]; exact hy⟩,⟨hz',?_,⟨ux,uy,hs'.extBut _ _ D.TOz a2⟩,a3.at λo e=>hs'.extBut _ o D.i1z e,a4.at λo e=>hs'.extBut _ o D.i2z e⟩,λc hc=>?_⟩
  .show h2'.get? TI=_
   rw [Lu]; exact hTI
  .have hc':=hc
   have hlt:c<s.heap.objs.size:=by
    simp only [aNZ,aQ7,aS0] at hc'
    rcases hc' with rfl | rfl | rfl | rfl | rfl
    .exact qD
    .exact a2R hTI
    .exact a2R hTO
    .obtain ⟨o,e,_⟩:=Bx h1; exact a2R e
    .obtain ⟨o,e,_⟩:=Bx h2; exact a2R e
   rw [Zc (ayF hlt)]
   exact (hf c hc).1
 done:=by
  intro X hP hw hK hc i pins s σ H E I hf st hg
  subst hP hw hK
  obtain ⟨xs,ni,⟨ys,ng⟩,hend⟩:=hg
  obtain ⟨hz,hTI,⟨u0,v0,hTO⟩,h1,h2⟩:=st
  obtain ⟨jw,ra,pa,za⟩:=I.tuple ni
  obtain ⟨jN,rb,pb,zb⟩:=I.tuple ng
  have la:=ra.length
  refine Zhz (I.ok.hd hc) (DJ i1 a jw.toArray) (DJ i2 b jN.toArray) D hz hTI hTO h1 (show s.heap.IsTuple a jw.toArray from pa) (by simp; lia) λh' hk=>⟨rfl,?_⟩
  refine I.jh (t':=s.toks) hf λc o hc e=>?_
  simp only [aNZ,aQ7,aS0,not_or] at hc
  exact hk c o hc.1 hc.2.2.1 hc.2.2.2.1 hc.2.2.2.2 e
 self:=λ_ _ _ _ _ st h=>auO st.1 h
def Ad (K:W.Frag) (ta:TA):TI:=λσ H R=>ta σ H λvs H1=>∃ a b,vs=[.ref a,.ref b]/\((∃ xs ys,aB K H1 a xs/\aB K H1 b ys/\R (tN K a b) H1)\/∃ xs ys,aK K H1 a xs/\aK K H1 b ys/\R (qZ K a b) H1)
section
variable {X:Cx}
theorem WI {elts:List PySem.Expr} {x1} {tpos:Pos} {a b:PySem.Expr} {ta:TA} {p pos:Pos} (hg:Gl X "zip") (hm:X.mg "zip" = none) (ha:PA X [a,b] ta) (hs:starEach [a,b] X.env=[(false,eval a X.env),(false,eval b X.env)]:=by rfl) (hs2:starEach [b] X.env=[(false,eval b X.env)]:=by rfl) :
  PI X (.Tuple elts x1 tpos) (.Call (.Name "zip" p) [a,b] [] pos) (Ad X.K ta):=by
 intro pins s σ H R I h
 refine Call_ (pQ I hg hm Pc (aC1 (mR (ha pos pins s σ H _ I h) λus s1 vs H1 I1 r1 q1=>?_) (by rw [hs,hs2]) (by rw [hs2]; rfl)))
 obtain ⟨l1,l2,e,q⟩:=q1
 subst e
 obtain ⟨v1,v2,rfl,r,r'⟩:=vals2 r1
 cases r
 cases r'
 have big:∀ c,c∈[s1.heap.objs.size+4,s1.heap.objs.size+2,s1.heap.objs.size+3,s1.heap.objs.size,s1.heap.objs.size+1]->s1.heap.objs.size<=c:=λc hc=>by
  simp only [aNZ,aQ7,aS0] at hc
  rcases hc with rfl | rfl | rfl | rfl | rfl <;> first | exact aEt _ | exact Nat.le_add_right _ _
 rcases q with ⟨xs,ys,ni,ng,q⟩ | ⟨xs,ys,ni,ng,q⟩
 .obtain ⟨jw,ra,pa,za⟩:=I1.list ni
  obtain ⟨jN,rb,pb,zb⟩:=I1.list ng
  have qv:l1<s1.heap.objs.size:=by obtain ⟨o,e,_⟩:=pa.isList; exact a2R e
  have vB:l2<s1.heap.objs.size:=by obtain ⟨o,e,_⟩:=pb.isList; exact a2R e
  refine call_zip_2 pa.isList pb.isList λh' g5 g3 g4 g1 g2 hsz kp=>auO g5 ?_
  exact ⟨_,[_,_,_,_,_],_,_,H1,rfl,I1.kept (t':=s1.toks) kp,Pd _ _ _ _ _ l1 l2 (JN s1.heap.objs.size l1 l2 qv vB),⟨g5,g3,⟨_,_,g4⟩,g1,g2⟩,λc hc=>I1.lV (big c hc) (I1.hok.fresh (big c hc)),q⟩
 .obtain ⟨jw,ra,pa,za⟩:=I1.tuple ni
  obtain ⟨jN,rb,pb,zb⟩:=I1.tuple ng
  have qv:l1<s1.heap.objs.size:=NO pa
  have vB:l2<s1.heap.objs.size:=NO pb
  refine Y5 (show s1.heap.IsTuple l1 jw.toArray from pa) (show s1.heap.IsTuple l2 jN.toArray from pb) λh' g5 g3 g4 g1 g2 kp=>auO g5 ?_
  exact ⟨_,[_,_,_,_,_],_,_,H1,rfl,I1.kept (t':=s1.toks) kp,Y4 _ _ _ _ _ l1 l2 (JN s1.heap.objs.size l1 l2 qv vB),⟨g5,g3,⟨_,_,g4⟩,g1,g2⟩,λc hc=>I1.lV (big c hc) (I1.hok.fresh (big c hc)),q⟩
end
theorem Y3 {K:W.Frag} {a b:Addr} {xs zs:List V} {l:Addr} {g:TG} {tc:TT} {te:TE} {σ0:St} {H0:Hp} {Qf:Hp->Prop} (hlen:xs.length=zs.length) (Pv:Nat->List V->St->Hp->Prop) (h0:Pv 0 [] σ0 H0)
  (hl:∀ i ys σ' H',i<=xs.length->Pv i ys σ' H'->aK K H' a xs/\aK K H' b zs)
  (hs:∀ i x z t ys σ' H',i<xs.length->xs[i]?=some x->zs[i]?=some z->ys.length<=i->Pv i ys σ' H'->H' t=none->g (.ref t) σ' (upd H' t (.tup [x,z])) λσ2 H3=>tc σ2 H3 λb H4=>if b=true then te σ2 H4 λy H5=>jR xs.length l Pv i ys σ2 y H5 else rR xs.length Pv i ys σ2 H4)
  (hd:∀ ys σ' H',ys.length<=xs.length->Pv xs.length ys σ' H'->Qf H') :
  ∃ W:Nat->Nat->List V->St->Hp->Prop,(∃ m,W 0 m [] σ0 H0)/\∀ i m ys σ' H',W i m ys σ' H' ->
  ((qZ K a b).stop i H'/\Qf H')\/((qZ K a b).go i H'/\∀ x H2,(qZ K a b).oU i H' x H2->g x σ' H2 λσ2 H3=>tc σ2 H3 λb H4 =>
    if b=true then te σ2 H4 λy H5=>H5 l=some (.lst ys)/\ys.length<sizeLine/\∃ m',m'<m/\W (i+1) m' (ys++[y]) σ2 (upd H5 l (.lst (ys++[y])))
    else ∃ m',m'<m/\W (i+1) m' ys σ2 H4):=by
 refine ⟨λi m ys σ' H'=>m=xs.length - i/\i<=xs.length/\ys.length<=i/\Pv i ys σ' H',⟨xs.length,rfl,aUM _,aEt _,h0⟩,?_⟩
 rintro i m ys σ' H' ⟨rfl,hi,hy,p⟩
 obtain ⟨qa,qb⟩:=hl i ys σ' H' hi p
 by_cases hlt:i<xs.length
 .have hlt':i<zs.length:=by lia
  refine .inr ⟨⟨xs,zs,xs[i],zs[i],qa,qb,by simp [hlt],by simp [hlt']⟩,λx H2 zq=>?_⟩
  obtain ⟨t,u,v,ht,rfl,rfl,z1,z2⟩:=zq
  exact hs i u v t ys σ' H' hlt (z1 xs qa) (z2 zs qb) hy p ht
 .have e:i=xs.length:=by lia
  subst e
  exact .inl ⟨⟨xs,qa,⟨zs,qb⟩,aEt _⟩,hd ys σ' H' hy p⟩
section
variable {X:Cx} {K:W.Frag} {tg:PySem.Expr}
theorem Jr (hK:X.K=K) {l:PySem.Expr} {tl:TE} (hl:PE X l tl):PI X tg l (uh K tl):=hK ▸ Xs hl
theorem OF (hK:X.K=K) {l:PySem.Expr} {tl:TE} (hl:PE X l tl):PI X tg l (Ae K tl):=hK ▸ WV hl
end
def BY (K:W.Frag) (H:Hp):Nat->V->V->Bool->Prop
 | 0,x,y,b=>cA x=true/\cA y=true/\b=oZ x y
 | n+1,x,y,b=>(cA x=true/\cA y=true/\b=oZ x y)\/∃ (a c:Addr) (xs ys:List V) (e:Nat->Bool),x=.ref a/\y=.ref c/\(∀ (i:Nat) (u v:V),xs[i]?=some u->ys[i]?=some v->BY K H n u v (e i)) /\
   ((aB K H a xs/\aB K H c ys/\((xs.length=ys.length/\b=(List.range xs.length).all e)\/(xs.length≠ys.length/\b=false))) \/
    (aK K H a xs/\aK K H c ys/\b=((List.range (min xs.length ys.length)).all e && xs.length == ys.length)))
theorem Jq {x:V} (h:cA x=true):oZ x x=true:=by
 cases x with
 | aT=>rfl
 | bl b=>exact aKE b
 | int i=>exact aKE i
 | str z=>exact aKE z
 | _=>exact absurd h aBC
section
variable {X:Cx} {pins:List (Addr×Obj)} {σ:St} {H:Hp} {s:Shared}
theorem Jp (I:Inv X pins σ H s):∀ (n:Nat) (x:V) (b:Bool),BY X.K H n x x b->b=true
 | 0,x,b,⟨h1,_,h2⟩=>by rw [h2]; exact Jq h1
 | n+1,x,b,h=>by
  rcases h with ⟨h1,_,h2⟩ | ⟨a,c,xs,ys,e,rfl,h2,hi,⟨ha,hc,hb⟩ | ⟨ha,hc,hb⟩⟩
  .rw [h2]; exact Jq h1
  .cases h2
   have Hv:ys=xs:=I.fO hc ha
   subst Hv
   rcases hb with ⟨_,hb⟩ | ⟨hb,_⟩
   .rw [hb,aXt]
    intro i hi'
    have hlt:=ar3.mp hi'
    exact Jp I n ys[i] (e i) (hi i ys[i] ys[i] (af3 hlt) (af3 hlt))
   .exact absurd rfl hb
  .cases h2
   have Hv:ys=xs:=I.gb hc ha
   subst Hv
   rw [hb,Nat.min_self,aKE,Bool.and_true,aXt]
   intro i hi'
   have hlt:=ar3.mp hi'
   exact Jp I n ys[i] (e i) (hi i ys[i] ys[i] (af3 hlt) (af3 hlt))
theorem uN {xs:List V} {us:List Value} (r:Vals xs us) {j:Nat} (h:j<us.toArray.size):∃ x,xs[j]?=some x/\RelV x us.toArray[j]:=by
 have hj:j<us.length:=by simpa using h
 have hx:j<xs.length:=by rw [r.length]; exact hj
 obtain ⟨u,hu,ru⟩:=r.get (i:=j) (x:=xs[j]) (af3 hx)
 rw [af3 hj] at hu
 cases hu
 exact ⟨xs[j],af3 hx,by simpa using ru⟩
theorem Dh (I:Inv X pins σ H s):∀ (n:Nat) (A:Around) (x y:V) (u v:Value) (b:Bool),A.units+n<cLine->RelV x u->RelV y v->BY X.K H n x y b->SeqAt.EqAt A s u v b
 | 0,A,x,y,u,v,b,hu,rx,ry,⟨h1,h2,h3⟩=>by rw [h3]; exact Ic rx ry h1 h2
 | n+1,A,x,y,u,v,b,hu,rx,ry,h=>by
  rcases h with ⟨h1,h2,h3⟩ | ⟨a,c,xs,ys,e,rfl,rfl,hi,hh⟩
  .rw [h3]; exact Ic rx ry h1 h2
  .cases rx
   cases ry
   by_cases hac:a=c
   .subst hac
    have hb:b=true:=Jp I (n+1) (.ref a) b (.inr ⟨a,a,xs,ys,e,rfl,rfl,hi,hh⟩)
    rw [hb]
    exact SeqAt.EqAt.same _
   .have GV:A.units<cLine:=by lia
    have hu1:A.in1.units+n<cLine:=by
     have q:A.in1.units=A.units+1:=rfl
     rw [q]; lia
    refine SeqAt.EqAt.of_refs hac ?_
    rcases hh with ⟨ha,hc,hb⟩ | ⟨ha,hc,hb⟩
    .obtain ⟨its,r1,p1,_⟩:=I.list ha
     obtain ⟨its2,r2,p2,_⟩:=I.list hc
     have l1:=r1.length
     have l2:=r2.length
     rcases hb with ⟨hl,hb⟩ | ⟨hl,hb⟩
     .have q:=SeqAt.RcAt.lists (A:=A) (e:=e) p1.isList p2.isList (by simp; lia) GV λj h1 h2=>by
       obtain ⟨x,hx,rx⟩:=uN r1 h1
       obtain ⟨y,hy,ry⟩:=uN r2 h2
       exact Dh I n A.in1 x y _ _ (e j) hu1 rx ry (hi j x y hx hy)
      rw [am7,← l1,← hb] at q
      exact q
     .rw [hb]
      exact SeqAt.RcAt.lists_lengths p1.isList p2.isList (by simp; lia) GV
    .obtain ⟨its,r1,p1,_⟩:=I.tuple ha
     obtain ⟨its2,r2,p2,_⟩:=I.tuple hc
     have l1:=r1.length
     have l2:=r2.length
     have q:=SeqAt.RcAt.tuples (A:=A) (e:=e) (show s.heap.IsTuple a its.toArray from p1) (show s.heap.IsTuple c its2.toArray from p2) GV λj h1 h2=>by
      obtain ⟨x,hx,rx⟩:=uN r1 h1
      obtain ⟨y,hy,ry⟩:=uN r2 h2
      exact Dh I n A.in1 x y _ _ (e j) hu1 rx ry (hi j x y hx hy)
     rw [am7,am7,← l1,← l2,← hb] at q
     exact q
end
section
variable {X:Cx} {K:W.Frag}
def zm (K:W.Frag) (n:Nat) (neg:Bool):R2:=λx y H Q=>∃ (a c:Addr) (xs ys:List V) (e:Nat->Bool),x=.ref a/\y=.ref c/\(∀ (i:Nat) (u v:V),xs[i]?=some u->ys[i]?=some v->BY K H n u v (e i))/\aB K H a xs/\aB K H c ys /\
 ((xs.length=ys.length/\Q (.bl (if neg then !(List.range xs.length).all e else (List.range xs.length).all e)) H)\/(xs.length≠ys.length/\Q (.bl neg) H))
theorem VX (n:Nat) (hu:X.A.units+1+n<cLine) (hK:X.K=K):gV X (compareOp .Eq) (zm K n false):=by
 subst hK
 intro pins s σ H x y v u Q I rx ry h
 obtain ⟨a,c,xs,ys,e,rfl,rfl,hi,ha,hc,q⟩:=h
 cases rx
 cases ry
 obtain ⟨its,r1,p1,_⟩:=I.list ha
 obtain ⟨its2,r2,p2,_⟩:=I.list hc
 have l1:=r1.length
 have l2:=r2.length
 have hu1:X.A.in1.units+n<cLine:=hu
 rcases q with ⟨hl,q⟩ | ⟨hl,q⟩
 .refine SeqAt.eq_listAt (e:=e) p1.isList p2.isList (by simp; lia) (by lia) (λj h1 h2=>?_) ⟨.bl _,H,I,rfl,?_⟩
  .obtain ⟨x,hx,rx⟩:=uN r1 h1
   obtain ⟨y,hy,ry⟩:=uN r2 h2
   exact Dh I n X.A.in1 x y _ _ (e j) hu1 rx ry (hi j x y hx hy)
  .rw [am7,← l1]; exact q
 .exact SeqAt.eq_list_lengthsAt p1.isList p2.isList (by simp; lia) (by lia) ⟨.bl false,H,I,rfl,q⟩
theorem VW (n:Nat) (hu:X.A.units+1+n<cLine) (hK:X.K=K):gV X (compareOp .NotEq) (zm K n true):=by
 subst hK
 intro pins s σ H x y v u Q I rx ry h
 obtain ⟨a,c,xs,ys,e,rfl,rfl,hi,ha,hc,q⟩:=h
 cases rx
 cases ry
 obtain ⟨its,r1,p1,_⟩:=I.list ha
 obtain ⟨its2,r2,p2,_⟩:=I.list hc
 have l1:=r1.length
 have l2:=r2.length
 have hu1:X.A.in1.units+n<cLine:=hu
 rcases q with ⟨hl,q⟩ | ⟨hl,q⟩
 .refine SeqAt.RcNeAt.lists (e:=e) p1.isList p2.isList (by simp; lia) (by lia) (λj h1 h2=>?_) X.prog X.w X.xe _ ⟨.bl _,H,I,rfl,?_⟩
  .obtain ⟨x,hx,rx⟩:=uN r1 h1
   obtain ⟨y,hy,ry⟩:=uN r2 h2
   exact Dh I n X.A.in1 x y _ _ (e j) hu1 rx ry (hi j x y hx hy)
  .rw [am7,← l1]; exact q
 .exact SeqAt.RcNeAt.lists_lengths p1.isList p2.isList (by simp; lia) (by lia) X.prog X.w X.xe _ ⟨.bl true,H,I,rfl,q⟩
theorem uo {A:Around} {k:Nat} (hr:bf k A) (n:Nat) (h:n<=60):A.units+1+n<cLine:=by have:=hr.units; lia
end
section
variable {X:Cx}
theorem Qq (hc:X.calm=true):bH X (.builtin "any") (λxs H Q=>∃ (p:Addr) (bs:List Bool),xs=[.ref p]/\aB X.K H p (bs.map V.bl)/\Q (.bl (bs.any id)) H):=by
 intro pins s σ H xs us Q I r h
 obtain ⟨p,bs,rfl,hq,q⟩:=h
 obtain ⟨u,rfl,rx⟩:=vals1 r
 cases rx
 obtain ⟨its,rv,pl,hz⟩:=I.list hq
 have e:=JK rv
 subst e
 refine call_any_walk (wpAny_pyIter_list pl.isList ?_)
 refine ⟨s.heap.objs.size,_,[s.heap.objs.size],_,_,_,λi=>bs.getD i true,rfl,Walks.list (A:=X.A.in1) (show X.A.in1.handled=none from I.ok.hd hc) s.heap.objs.size p ?_ (bs.map Value.bool).toArray,⟨⟨_,aYI _ rfl,rfl,rfl⟩,pl.isList.at λo e=>aXX _ e⟩,?_,?_⟩
 .obtain ⟨o,e,_⟩:=pl.isList; exact ayF (a2R e)
 .intro i v s' Q' E' hP hQ
  have oY:(bs.map Value.bool)[i]?=some v:=by simpa using hP
  rw [aBK] at oY
  cases z:bs[i]? with
  | none=>rw [z] at oY; cases oY
  | some b =>
   rw [z] at oY
   cases oY
   have:bs.getD i true=b:=by rw [a9e,z]; rfl
   have Aw:Q' (bs.getD i true) s':=hQ
   rw [this] at Aw
   exact aSH Aw
 .intro h' tk hk
  refine ⟨.bl (bs.any id),H,I.kept (t':=tk) (λb o e=>hk b o (by simpa using ayF (a2R e)) (aXX _ e)),?_,q⟩
  have z:(List.range bs.length).map (λi=>bs.getD i true)=bs:=Qv _ λi b e=>by rw [a9e,e]; rfl
  have z2:(List.range bs.length).any (λi=>bs.getD i true)=bs.any id:=by
   conv=>rhs; rw [← z]
   rw [any_map]; rfl
  show Value.bool _=Value.bool _
  have z3:(bs.map Value.bool).toArray.size=bs.length:=by simp
  rw [z3,z2]
end
def pF (hi:Int) (n:Nat):It:=⟨λi _=>i<n,λi H x H'=>H'=H/\x=.int (hi - i),λi _=>n<=i⟩
theorem Y0 {P:Program} {w:World} {K:W.Frag} {tg:PySem.Expr} (it:Addr) (lo:Int) (n:Nat):Turn P w K tg (pF lo n) [it] it (λi h=>IsRangeIter h it (lo+(i:Nat) * (-1)) ((n:Int) - (i:Nat)) (-1)) where
 mem:=by simp
 obj:=λi h st b hb=>by
  have e:b=it:=by simpa using hb
  subst e
  exact ⟨_,st,λv z=>by
   have z':Data.fields _=Data.cell v:=z
   cases z'⟩
 keep:=λi h h' st k=>k it (by simp) _ st
 item:=by
  intro X hP hw hK hc i pins s σ H E I hf st hg
  subst hP hw hK
  obtain ⟨f0,f1,f2,f3,f4,f5⟩:=hf it (by simp)
  have W:=Walks.range (prog:=X.prog) (w:=X.w) (I.ok.hd hc) it lo (-1) n
  refine W.item i s _ _ hg st λv h' tk hv st' kk=>?_
  obtain ⟨t,rfl⟩:=hv
  have I1:Inv X pins σ H { s with heap:=h',toks:=tk }:=I.turned (λb o hb e=>kk b o (by simpa using hb) e) f0 f1 f3 f4 f5
  refine ⟨_,rfl,oA (s:={ s with heap:=h',toks:=tk }) (n := "range_iterator") st' rfl rfl (by decide) ⟨.int (lo - i),H,I1,⟨t,?_⟩,⟨rfl,rfl⟩,st',λb hb=>(hf b hb).1⟩⟩
  rw [show lo+(i:Int) * (-1)=lo - i by lia]
 done:=by
  intro X hP hw hK hc i pins s σ H E I hf st hg
  subst hP hw hK
  obtain ⟨f0,f1,f2,f3,f4,f5⟩:=hf it (by simp)
  exact wpAny_pyNext_range_end (I.ok.hd hc) st (by have:n<=i:=hg; lia) λh' eb=>⟨rfl,I.turned (t':=s.toks) (λb o hb e=>eb b o hb e) f0 f1 f3 f4 f5⟩
 self:=λ_ _ _ _ _ st h=>wpAny_pyIter_rangeiter st h
section
variable {X:Cx} {tg:PySem.Expr}
theorem YZ {pins:List (Addr×Obj)} {σ:St} {H:Hp} {s:Shared} {R:It->Hp->Prop} {E:Value->Shared->Prop} {lo hi:Int} {t u v:Tok} {tk:Nat} (I:Inv X pins σ H s) (h1 : -(2 ^ 62)<=lo) (h2:lo<2 ^ 62) (h3 : -(2 ^ 62)<=hi) (h4:hi<2 ^ 62)
  (q:R (pF lo (lo - hi).toNat) H):wpAny (model X.prog X.w) X.A (pyIter (.ref s.heap.objs.size)) (Lv X pins σ tg R) E { s with heap:=s.heap.push { cls:=.type "range",data:=.fields #[.int lo t,.int hi u,.int (-1) v] },toks:=tk }:=by
 refine wpAny_pyIter_range (IsRange.new ..) (W.small_down h1 h2 h3 h4) ?_
 have I1:Inv X pins σ H { s with heap:=s.heap.push { cls:=.type "range",data:=.fields #[.int lo t,.int hi u,.int (-1) v] },toks:=tk }:=I.kept λb o e=>aXX _ e
 refine ⟨(s.heap.push { cls:=.type "range",data:=.fields #[.int lo t,.int hi u,.int (-1) v] }).objs.size,[(s.heap.push { cls:=.type "range",data:=.fields #[.int lo t,.int hi u,.int (-1) v] }).objs.size],_,_,H,rfl,
  I1.kept (t':=tk) λb o e=>aXX _ e,Y0 _ lo (lo - hi).toNat,?_,λb hb=>?_,q⟩
 .have e1:lo+((0:Nat):Int) * (-1)=lo:=by simp
  have e2:(((lo - hi).toNat:Nat):Int) - ((0:Nat):Int)=Builtin.Range.rangeSize lo hi (-1):=by rw [W.rangeSize_downNat]; lia
  show IsRangeIter _ _ (lo+((0:Nat):Int) * (-1)) ((((lo - hi).toNat:Nat):Int) - ((0:Nat):Int)) (-1)
  rw [e1,e2]
  exact aYI _ rfl
 .have e:b=(s.heap.push { cls:=.type "range",data:=.fields #[.int lo t,.int hi u,.int (-1) v] }).objs.size:=by simpa using hb
  subst e
  exact I1.lV (aEt _) (I1.hok.fresh (aEt _))
def Af (ta:TA):TI:=λσ H R=>ta σ H λvs H1=>∃ i j:Int,vs=[.int i,.int j,.int (-1)]/\(-(2 ^ 61)<=i/\i<2 ^ 61 /\ -(2 ^ 61)<=j/\j<2 ^ 61)/\R (pF i (i - j).toNat) H1
theorem Qp {a b c:PySem.Expr} {ta:TA} {p pos:Pos} (hg:Gl X "range") (hm:X.mg "range" = none) (ha:PA X [a,b,c] ta) (hs:starEach [a,b,c] X.env=(false,eval a X.env) :: starEach [b,c] X.env:=by rfl) (hpl:(backTo pos (starEach [b,c] X.env)).any (·.1)=false:=by rfl) :
  PI X tg (.Call (.Name "range" p) [a,b,c] [] pos) (Af ta):=by
 intro pins s σ H R I h
 refine Call_ (pQ I hg hm boot_range (aC1 (mR (ha pos pins s σ H _ I h) λus s1 vs H1 I1 r1 q1=>?_) hs hpl))
 obtain ⟨i,j,e,⟨q1,q2,q3,q4⟩,q⟩:=q1
 subst e
 cases r1 with
 | cons r rr =>
  cases rr with
  | cons r' rr =>
   cases rr with
   | cons r'' rr =>
    cases rr
    obtain ⟨t,rfl⟩:=r
    obtain ⟨t',rfl⟩:=r'
    obtain ⟨t'',rfl⟩:=r''
    exact call_range_3 (by decide) (YZ I1 (by lia) (by lia) (by lia) (by lia) q) (.inl (aCP (by lia)))
end
theorem PK {hi:Int} {n:Nat} {g:TG} {tb:TS} {D:Ends} {σ:St} {H:Hp} (Pv:Nat->St->Hp->Prop) (h0:Pv 0 σ H)
  (hs:∀ i σ H,i<n->Pv i σ H->g (.int (hi - i)) σ H λσ2 H2=>tb { D with nx:=Pv (i+1),ct:=Pv (i+1),bk:=D.nx } σ2 H2) (hd:∀ σ H,Pv n σ H->D.nx σ H) :
  ∃ W:Nat->Nat->St->Hp->Prop,(∃ m,W 0 m σ H)/\∀ i m σ H,W i m σ H ->
   ((pF hi n).stop i H/\D.nx σ H)\/((pF hi n).go i H/\∃ N:St->Hp->Prop,(∀ σ' H',N σ' H'->∃ m',m'<m/\W (i+1) m' σ' H')/\∀ x H',(pF hi n).oU i H x H'->g x σ H' λσ2 H2=>tb { D with nx:=N,ct:=N,bk:=D.nx } σ2 H2):=by
 refine ⟨λi m σ H=>m=n - i/\i<=n/\Pv i σ H,⟨n,by simp,aUM _,h0⟩,?_⟩
 rintro i m σ H ⟨rfl,hi,p⟩
 by_cases hlt:i<n
 .refine .inr ⟨hlt,Pv (i+1),λσ' H' p'=>⟨n - (i+1),by lia,rfl,hlt,p'⟩,λx H' y=>?_⟩
  obtain ⟨e,y⟩:=y
  subst e y
  exact hs i σ _ hlt p
 .have e:i=n:=by lia
  subst e
  exact .inl ⟨aEt _,hd σ H p⟩
theorem WH {K:W.Frag} {a b:Addr} {xs ys:List V} {g:TG} {tb:TS} {D:Ends} {σ:St} {H:Hp} (Pv:Nat->St->Hp->Prop) (hlen:xs.length=ys.length) (h0:Pv 0 σ H) (hl:∀ i σ H,i<=xs.length->Pv i σ H->aB K H a xs/\aB K H b ys)
  (hs:∀ i x y t σ H,xs[i]?=some x->ys[i]?=some y->Pv i σ H->H t=none->g (.ref t) σ (upd H t (.tup [x,y])) λσ2 H2=>tb { D with nx:=Pv (i+1),ct:=Pv (i+1),bk:=D.nx } σ2 H2) (hd:∀ σ H,Pv xs.length σ H->D.nx σ H) :
  ∃ W:Nat->Nat->St->Hp->Prop,(∃ m,W 0 m σ H)/\∀ i m σ H,W i m σ H ->
   ((tN K a b).stop i H/\D.nx σ H)\/((tN K a b).go i H/\∃ N:St->Hp->Prop,(∀ σ' H',N σ' H'->∃ m',m'<m/\W (i+1) m' σ' H')/\∀ x H',(tN K a b).oU i H x H'->g x σ H' λσ2 H2=>tb { D with nx:=N,ct:=N,bk:=D.nx } σ2 H2):=by
 refine ⟨λi m σ H=>m=xs.length - i/\i<=xs.length/\Pv i σ H,⟨xs.length,by simp,aUM _,h0⟩,?_⟩
 rintro i m σ H ⟨rfl,hi,p⟩
 obtain ⟨q1,q2⟩:=hl i σ H hi p
 by_cases hlt:i<xs.length
 .have GZ:i<ys.length:=hlen ▸ hlt
  refine .inr ⟨⟨xs,ys,xs[i],ys[i],q1,q2,by simp [hlt],by simp [GZ]⟩,Pv (i+1),λσ' H' p'=>⟨xs.length - (i+1),by lia,rfl,hlt,p'⟩,λx H' y=>?_⟩
  obtain ⟨t,x1,y1,ht,rfl,rfl,hx,hy⟩:=y
  exact hs i x1 y1 t σ _ (hx xs q1) (hy ys q2) p ht
 .have e:i=xs.length:=by lia
  subst e
  exact .inl ⟨⟨xs,ys,q1,q2,.inl (aEt _)⟩,hd σ H p⟩
end L2
namespace L2.QM
open PySem PySem.Spec PyProof.Rows
def Rk (ρ:Keyed->Nat) (xs:Array Keyed) (i:Nat):Nat:=(xs[i]?).elim 0 ρ
theorem Bf {ρ:Keyed->Nat} {xs ys:Array Keyed} {i j:Nat} (h:xs[i]?=ys[j]?):Rk ρ xs i=Rk ρ ys j:=by unfold Rk; rw [h]
def gT (ρ:Keyed->Nat) (xs:Array Keyed) (i j:Nat):Prop:=K xs i<K xs j\/(K xs i=K xs j/\Rk ρ xs i<Rk ρ xs j)
theorem gT.trans {ρ:Keyed->Nat} {xs:Array Keyed} {i j k:Nat} (h1:gT ρ xs i j) (h2:gT ρ xs j k):gT ρ xs i k:=by
 unfold gT at *
 lia
def mL (ρ:Keyed->Nat) (xs:Array Keyed) (n:Nat):Prop:=∀ i j,i<j->j<n->gT ρ xs i j
def Dec (ρ:Keyed->Nat) (xs:Array Keyed) (n:Nat):Prop:=∀ i j,i<j->j<n->gT ρ xs j i
def iI (ρ:Keyed->Nat) (xs:Array Keyed) (n:Nat):Prop:=∀ i,n<=i->i<xs.size->Rk ρ xs i=i
theorem iI.mono {ρ:Keyed->Nat} {xs:Array Keyed} {m n:Nat} (h:iI ρ xs m) (l:m<=n):iI ρ xs n:=λi hi hs=>h i (a28 l hi) hs
theorem Dz {ρ:Keyed->Nat} {xs:Array Keyed} {i:Nat} (h:i<xs.size):(xs.toList.map ρ)[i]?=some (Rk ρ xs i):=by
 unfold Rk
 rw [aBK,abk,a2Z h]
 rfl
structure Inj (ρ:Keyed->Nat) (xs:Array Keyed):Prop where
 inj:∀ i j,i<xs.size->j<xs.size->Rk ρ xs i=Rk ρ xs j->i=j
 lt:∀ i,i<xs.size->Rk ρ xs i<xs.size
theorem VV {ρ:Keyed->Nat} {xs a₀:Array Keyed} (p:xs.Perm a₀) (h0:iI ρ a₀ 0):Inj ρ xs:=by
 have e0:a₀.toList.map ρ=List.range a₀.size:=by
  apply afx
  intro i
  by_cases h:i<a₀.size
  .rw [Dz h,aHk h,h0 i (aUM _) h]
  .rw [aaz (by simpa using h),aaz (by simpa using h)]
 have pm:(xs.toList.map ρ).Perm (List.range a₀.size):=by rw [← e0]; exact (ahA.mp p).map ρ
 have nd:(xs.toList.map ρ).Nodup:=pm.nodup_iff.mpr List.nodup_range
 refine ⟨λi j hi hj e=>?_,λi hi=>?_⟩
 .refine (List.getElem?_inj (by rw [aK1,aYJ]; exact hi) nd).mp ?_
  rw [Dz hi,Dz hj,e]
 .have m:Rk ρ xs i∈xs.toList.map ρ:=aBD (Dz hi)
  have:=ar3.mp (pm.mem_iff.mp m)
  rw [p.size_eq]
  exact this
theorem Inj.below {ρ:Keyed->Nat} {xs:Array Keyed} (I:Inj ρ xs) {n:Nat} (h:iI ρ xs n) {i:Nat} (hi:i<n) (hs:i<xs.size):Rk ρ xs i<n:=by
 by_cases c:Rk ρ xs i<n
 .exact c
 .have l:=I.lt i hs
  have e:=h (Rk ρ xs i) (by lia) l
  have:=I.inj _ _ l hs e
  lia
theorem JI {ρ:Keyed->Nat} {xs:Array Keyed} {src d:Nat} (hs:src<xs.size) (hd:d<=src) (k:Nat) :
  Rk ρ (bubble xs src d) k=if k=src - d then Rk ρ xs src else if src - d<k/\k<=src then Rk ρ xs (k - 1) else Rk ρ xs k:=by
 have e:=getElem?_bubble hs d hd k
 by_cases h1:k=src - d
 .rw [abw h1] at e ⊢
  exact Bf e
 .rw [aM3 h1] at e ⊢
  by_cases h2:src - d<k/\k<=src
  .rw [abw h2] at e ⊢
   exact Bf e
  .rw [aM3 h2] at e ⊢
   exact Bf e
theorem tD {ρ:Keyed->Nat} {xs:Array Keyed} {i j:Nat} (hj:j<=xs.size) (k:Nat) :
  Rk ρ (mirror xs i j ((j - i) / 2)) k=if i<=k/\k<j then Rk ρ xs (i+j - 1 - k) else Rk ρ xs k:=by
 have e:=getElem?_mirror_all (i:=i) hj k
 by_cases h1:i<=k/\k<j
 .rw [abw h1] at e ⊢
  exact Bf e
 .rw [aM3 h1] at e ⊢
  exact Bf e
section
variable {prog:Program} {w:World} {A:Around} {E:Value->Shared->Prop} {s:Shared} {a₀:Array Keyed} {ρ:Keyed->Nat}
theorem SB.inj {st:SortSt} (h:SBase a₀ st) (hr:iI ρ a₀ 0):Inj ρ (arrOf st):=VV h.perm hr
theorem VU {st:SortSt} {n ok:Nat} {Q:Bool->SortSt->Prop} (h0:IntKeys a₀) (hr:iI ρ a₀ 0) (hn:n<=a₀.size) (hok:ok<=n) (UT:1<=ok) (hB:SBase a₀ st) (hs:mL ρ (arrOf st) ok) (hI:iI ρ (arrOf st) ok)
  (h:∀ st',SBase a₀ st'->mL ρ (arrOf st') n->Q true st'):wpS (model prog w) A E s (binarySort' 0 n ok) Q st:=by
 rw [binarySort'_eq]
 simp only [asM]
 refine adb (aVU (ag5 (I:=λk c st1=>c=(none,())/\SBase a₀ st1/\mL ρ (arrOf st1) (min k n)/\iI ρ (arrOf st1) (min k n))
  (Q:=λc st1=>c=(none,())/\SBase a₀ st1/\mL ρ (arrOf st1) n) ?turn ?last ?first) ?after)
 case after =>
  rintro c st1 ⟨rfl,b1,i1⟩
  exact aRf (h st1 b1 i1)
 case first =>
  rw [show min (max ok 1) n=ok by lia]
  exact ⟨rfl,hB,hs,hI⟩
 case last =>
  rintro c st1 ⟨hc,b1,i1,_⟩
  rw [show min (max (max ok 1) n) n=n by lia] at i1
  exact ⟨hc,b1,i1⟩
 case turn =>
  rintro k c st1 UO hkn ⟨rfl,b1,i1,d1⟩
  rw [show min k n=k by lia] at i1 d1
  have hk:k<a₀.size:=by lia
  have sz:=b1.size
  have J:=SB.inj b1 hr
  have rk:Rk ρ (arrOf st1) k=k:=d1 k (aEt _) (by lia)
  have lo:∀ m,m<k->¬ K (arrOf st1) k<K (arrOf st1) m->gT ρ (arrOf st1) m k:=λm hm c=>by
   have:=J.below d1 hm (by lia)
   unfold gT
   lia
  refine adb (aVU (ag5 (I:=λx c st2=>st2=st1/\∃ l r,c=(none,l,r)/\l<=r/\r<=k/\r - l<=k - x/\(∀ i,i<l->gT ρ (arrOf st1) i k)/\(∀ i,r<=i->i<k->gT ρ (arrOf st1) k i))
   (Q:=λc st2=>st2=st1/\∃ l r,c=(none,l,r)/\l<=k/\(∀ i,i<l->gT ρ (arrOf st1) i k)/\(∀ i,l<=i->i<k->gT ρ (arrOf st1) k i)) ?iturn ?ilast ?ifirst) ?iafter)
  case ifirst=>exact ⟨rfl,0,k,rfl,by lia,by lia,by lia,λi hi=>absurd hi (by lia),λi p q=>absurd q (by lia)⟩
  case ilast =>
   rintro c st2 ⟨rfl,l,r,rfl,hlr,hrk,hm,u1,u2⟩
   have e:l=r:=by lia
   subst e
   exact ⟨rfl,l,l,rfl,hrk,u1,u2⟩
  case iturn =>
   rintro x c st2 _ hxk ⟨rfl,l,r,rfl,hlr,hrk,hm,u1,u2⟩
   dsimp only
   by_cases hge:l ≥ r
   .rw [abw hge]
    have e:l=r:=by lia
    subst e
    exact aRf ⟨rfl,l,l,rfl,hrk,u1,u2⟩
   .rw [aM3 hge]
    refine adb (wpS_ltK b1 h0 hk (by lia) ?_)
    by_cases c:K (arrOf st2) k<K (arrOf st2) ((l+r) / 2)
    .simp only [c,a8F,aOV]
     refine aRf ⟨rfl,l,(l+r) / 2,rfl,by lia,by lia,by lia,u1,λi p q=>?_⟩
     by_cases e:i=(l+r) / 2
     .subst e; exact .inl c
     .exact gT.trans (.inl c) (i1 _ _ (by lia) q)
    .simp only [c,a9R,aqO,at1]
     refine aRf ⟨rfl,(l+r) / 2+1,r,rfl,by lia,by lia,by lia,λi p=>?_,u2⟩
     have v:=lo _ (by lia) c
     by_cases e:i=(l+r) / 2
     .subst e; exact v
     .exact gT.trans (i1 _ _ (by lia) (by lia)) v
  case iafter =>
   rintro c st2 ⟨rfl,l,r,rfl,hlk,u1,u2⟩
   show wpS _ _ _ _ (do moveDown' k l; pure (ForInStep.yield (none,()))) _ _
   rw [moveDown'_eq]
   refine adb (bbL (aRf ⟨rfl,b1.setArr (bubble_perm _ _ _),?_,?_⟩))
   .rw [show min (k+1) n=k+1 by lia]
    have hks:k<(arrOf st2).size:=by lia
    intro i j hij hj
    show gT ρ (bubble (arrOf st2) k (k - l)) i j
    unfold gT
    rw [K_bubble hks (by lia),K_bubble hks (by lia),JI hks (by lia),JI hks (by lia),show k - (k - l)=l by lia]
    by_cases a1:i=l
    .have uG:¬ j=l:=by lia
     have M4:l<j/\j<=k:=by lia
     rw [abw a1,abw a1,aM3 uG,aM3 uG,abw M4,abw M4]
     exact u2 _ (by lia) (by lia)
    .rw [aM3 a1,aM3 a1]
     by_cases a2:j=l
     .have uG:¬ (l<i/\i<=k):=by lia
      rw [abw a2,abw a2,aM3 uG,aM3 uG]
      exact u1 _ (by lia)
     .rw [aM3 a2,aM3 a2]
      by_cases a3:l<i/\i<=k
      .have uG:l<j/\j<=k:=by lia
       rw [abw a3,abw a3,abw uG,abw uG]
       exact i1 _ _ (by lia) (by lia)
      .rw [aM3 a3,aM3 a3]
       by_cases a4:l<j/\j<=k
       .rw [abw a4,abw a4]
        by_cases a5:i<j - 1
        .exact i1 _ _ a5 (by lia)
        .exfalso; lia
       .rw [aM3 a4,aM3 a4]
        exact i1 _ _ (by lia) (by lia)
   .rw [show min (k+1) n=k+1 by lia]
    intro i hi hs'
    have hs2:i<(arrOf st2).size:=by
     have:(arrOf (setArr st2 (bubble (arrOf st2) k (k - l)))).size=(arrOf st2).size:=bubble_size _ _ _
     lia
    show Rk ρ (bubble (arrOf st2) k (k - l)) i=i
    rw [JI (by lia) (by lia),aM3 (by lia),aM3 (by lia)]
    exact d1 i (by lia) hs2
theorem NL {st:SortSt} {a nrem:Nat} {Q:AscSt->SortSt->Prop} (h0:IntKeys a₀) (hr:iI ρ a₀ 0) (hn:nrem<=a₀.size) (ha:1<=a) (han:a<=nrem) (hB:SBase a₀ st) (hs:mL ρ (arrOf st) a) (hI:iI ρ (arrOf st) a)
  (h:∀ n,a<=n->n<=nrem->mL ρ (arrOf st) n->(n=nrem\/K (arrOf st) n<K (arrOf st) (n - 1))->Q (none,n) st):wpS (model prog w) A E s (ascLoop a nrem) Q st:=by
 unfold ascLoop
 have sz:=hB.size
 have J:=SB.inj hB hr
 refine ag5 (I:=λx c st1=>st1=st/\c=(none,x)/\mL ρ (arrOf st) x) ?turn ?last ⟨rfl,rfl,hs⟩
 case last =>
  rintro c st1 ⟨rfl,rfl,i1⟩
  rw [show max a nrem=nrem by lia] at i1 ⊢
  exact h nrem han (aEt _) i1 (.inl rfl)
 case turn =>
  rintro x c st1 hax hxn ⟨rfl,rfl,i1⟩
  dsimp only
  refine adb (wpS_ltK hB h0 (by lia) (by lia) ?_)
  by_cases c:K (arrOf st1) x<K (arrOf st1) (x - 1)
  .simp only [c,a8F,aOV]
   exact aRf (h x hax (by lia) i1 (.inr c))
  .simp only [c,a9R,aqO,at1]
   refine aRf ⟨rfl,rfl,λi j hij hj=>?_⟩
   by_cases hjx:j<x
   .exact i1 i j hij hjx
   .have ej:j=x:=by lia
    subst ej
    have dx:=hI.mono hax
    have r1:=J.below dx (i:=j - 1) (by lia) (by lia)
    have r2:=dx j (aEt _) (by lia)
    have v:gT ρ (arrOf st1) (j - 1) j:=by unfold gT; lia
    by_cases e:i=j - 1
    .subst e; exact v
    .exact gT.trans (i1 i (j - 1) (by lia) (by lia)) v
theorem OE {st:SortSt} {n nrem:Nat} {Q:Option Nat->SortSt->Prop} (h0:IntKeys a₀) (hr:iI ρ a₀ 0) (hn:nrem<=a₀.size) (h1:1<=n) (hnn:n<=nrem) (hB:SBase a₀ st) (hs:Dec ρ (arrOf st) n) (hI:iI ρ (arrOf st) n)
  (h:∀ m st',SBase a₀ st'->1<=m->m<=nrem->mL ρ (arrOf st') m->iI ρ (arrOf st') m->Q (some m) st'):wpS (model prog w) A E s (tail3 n nrem) Q st:=by
 unfold tail3
 have sz:=hB.size
 refine adb (aYm ?_)
 have b1:SBase a₀ (setArr st (mirror (arrOf st) 0 n ((n - 0) / 2))):=hB.setArr (as4 _ _ _ _)
 have d1:iI ρ (mirror (arrOf st) 0 n ((n - 0) / 2)) n:=λi hi hs'=>by
  rw [mirror_size] at hs'
  rw [tD (by lia),aM3 (by lia)]
  exact hI i hi hs'
 refine adb (NL h0 hr hn h1 hnn b1 ?_ d1 λm m1 m2 i2 _=>aRf (h m _ b1 (by lia) m2 i2 (d1.mono m1)))
 intro i j hij hj
 show gT ρ (mirror (arrOf st) 0 n ((n - 0) / 2)) i j
 unfold gT
 rw [K_mirror (by lia),K_mirror (by lia),tD (by lia),tD (by lia),abw (by lia),abw (by lia),abw (by lia),abw (by lia)]
 exact hs _ _ (by lia) (by lia)
structure DI (ρ:Keyed->Nat) (xs:Array Keyed) (x q:Nat):Prop where
 l:q+1<=x
 sz:x<=xs.size
 d:Dec ρ xs (x - (q+1))
 u:∀ i j,i<x - (q+1)->x - (q+1)<=j->j<x->K xs j<K xs i
 e:∀ i,x - (q+1)<=i->i<x->K xs i=K xs (x - 1)
 f:iI ρ xs (x - (q+1))
theorem DI.AJ {xs:Array Keyed} {x:Nat} (h:DI ρ xs x 0):Dec ρ xs x:=λi j hij hj=>by
 by_cases c:j<x - (0+1)
 .exact h.d i j hij c
 .exact .inl (h.u i j (by lia) (by lia) hj)
theorem DI.rev {xs:Array Keyed} {x q:Nat} (h:DI ρ xs x q):Dec ρ (mirror xs (x - (q+1)) x ((x - (x - (q+1))) / 2)) x/\iI ρ (mirror xs (x - (q+1)) x ((x - (x - (q+1))) / 2)) x:=by
 have hl:=h.l
 have hz:=h.sz
 refine ⟨λi j hij hj=>?_,λi hi hs=>?_⟩
 .have ke:=K_mirror_equal (i:=x - (q+1)) hz h.e
  unfold gT
  rw [ke,ke,tD hz,tD hz]
  by_cases c1:j<x - (q+1)
  .rw [aM3 (by lia),aM3 (by lia)]
   exact h.d i j hij c1
  .by_cases c2:i<x - (q+1)
   .exact .inl (h.u i j c2 (by lia) hj)
   .rw [abw (by lia),abw (by lia)]
    refine .inr ⟨(h.e j (by lia) hj).trans (h.e i (by lia) (by lia)).symm,?_⟩
    rw [h.f _ (by lia) (by lia),h.f _ (by lia) (by lia)]
    lia
 .rw [mirror_size] at hs
  rw [tD hz,aM3 (by lia)]
  exact h.f i (by lia) hs
theorem DI.of {xs:Array Keyed} {x:Nat} (hx:1<=x) (hz:x<xs.size) (hd:Dec ρ xs x) (hf:iI ρ xs x) (hk:K xs x<K xs (x - 1)):DI ρ xs (x+1) 0:=by
 refine ⟨by lia,by lia,hd,λi j hi hj hj'=>?_,λi hi hi'=>?_,hf⟩
 .have ej:j=x:=by lia
  subst ej
  by_cases e:i=j - 1
  .subst e; exact hk
  .have v:=hd i (j - 1) (by lia) (by lia)
   unfold gT at v
   lia
 .have ei:i=x:=by lia
  subst ei
  rfl
theorem DI.more {xs:Array Keyed} {x q:Nat} (h:DI ρ xs x q) (hz:x<xs.size) (hk:K xs x=K xs (x - 1)):DI ρ xs (x+1) (q+1):=by
 have hl:=h.l
 have e0:x+1 - (q+1+1)=x - (q+1):=by lia
 refine ⟨by lia,by lia,by rw [e0]; exact h.d,λi j hi hj hj'=>?_,λi hi hi'=>?_,by rw [e0]; exact h.f⟩
 .rw [e0] at hi hj
  by_cases c:j<x
  .exact h.u i j hi hj c
  .have ej:j=x:=by lia
   subst ej
   rw [hk]
   exact h.u i (j - 1) hi (by lia) (by lia)
 .rw [show x+1 - 1=x by lia]
  by_cases c:i<x
  .rw [hk]; exact h.e i (by lia) c
  .have ei:i=x:=by lia
   subst ei
   rfl
theorem WG {st:SortSt} {n nrem:Nat} {Q:DescSt->SortSt->Prop} (h0:IntKeys a₀) (hn:nrem<=a₀.size) (hnn:n<=nrem) (hB:SBase a₀ st) (hs:DI ρ (arrOf st) n 0)
  (h:∀ m q st',SBase a₀ st'->m<=nrem->DI ρ (arrOf st') m q->Q (none,m,q) st'):wpS (model prog w) A E s (descLoop n nrem) Q st:=by
 unfold descLoop
 refine ag5 (I:=λx c st1=>∃ q,c=(none,x,q)/\SBase a₀ st1/\DI ρ (arrOf st1) x q) ?turn ?last ⟨0,rfl,hB,hs⟩
 case last =>
  rintro c st1 ⟨q,rfl,b1,d1⟩
  rw [show max n nrem=nrem by lia] at d1 ⊢
  exact h nrem q st1 b1 (aEt _) d1
 case turn =>
  rintro x c st1 hax hxn ⟨q,rfl,b1,d1⟩
  dsimp only
  have sz:=b1.size
  have hl:=d1.l
  refine adb (wpS_ltK b1 h0 (by lia) (by lia) ?_)
  by_cases c:K (arrOf st1) x<K (arrOf st1) (x - 1)
  .simp only [c,a8F,aOV]
   by_cases hq:q > 0
   .rw [abw hq]
    obtain ⟨r1,r2⟩:=d1.rev
    refine adb (aYm (aRf ⟨0,rfl,b1.setArr (as4 _ _ _ _),DI.of (by lia) (by show x<(mirror _ _ _ _).size; rw [mirror_size]; lia) r1 r2 ?_⟩))
    show K (mirror _ _ _ _) x<K (mirror _ _ _ _) (x - 1)
    rw [K_mirror_equal d1.sz d1.e,K_mirror_equal d1.sz d1.e]
    exact c
   .rw [aM3 hq]
    have e:q=0:=by lia
    subst e
    exact aRf ⟨0,rfl,b1,DI.of (by lia) (by lia) d1.AJ (d1.f.mono (by lia)) c⟩
  .simp only [c,a9R,aqO,at1]
   refine adb (wpS_ltK b1 h0 (by lia) (by lia) ?_)
   by_cases c2:K (arrOf st1) (x - 1)<K (arrOf st1) x
   .simp only [c2,a8F,aOV]
    exact aRf (h x q st1 b1 (by lia) d1)
   .simp only [c2,a9R,aqO,at1]
    exact aRf ⟨q+1,rfl,b1,d1.more (by lia) (by lia)⟩
theorem OD {st:SortSt} {n nrem:Nat} {Q:Option Nat->SortSt->Prop} (h0:IntKeys a₀) (hr:iI ρ a₀ 0) (hn:nrem<=a₀.size) (hnn:n+1<=nrem) (hB:SBase a₀ st) (hs:DI ρ (arrOf st) (n+1) 0)
  (h:∀ m st',SBase a₀ st'->1<=m->m<=nrem->mL ρ (arrOf st') m->iI ρ (arrOf st') m->Q (some m) st'):wpS (model prog w) A E s (descPart n nrem) Q st:=by
 unfold descPart
 refine adb (wpS_lift (aPe ⟨rfl,?_⟩))
 refine adb (WG h0 hn hnn hB hs λm q st1 b1 m2 d1=>?_)
 dsimp only
 have hl:=d1.l
 by_cases hq:q > 0
 .rw [abw hq]
  obtain ⟨r1,r2⟩:=d1.rev
  exact adb (aYm (OE h0 hr hn (by lia) m2 (b1.setArr (as4 _ _ _ _)) r1 r2 h))
 .rw [aM3 hq]
  have e:q=0:=by lia
  subst e
  exact OE h0 hr hn (by lia) m2 b1 d1.AJ (d1.f.mono (by lia)) h
theorem XJ {st:SortSt} {nrem:Nat} {Q:Option Nat->SortSt->Prop} (h0:IntKeys a₀) (hr:iI ρ a₀ 0) (hn:nrem<=a₀.size) (h1:1<=nrem) (hB:SBase a₀ st) (hI:iI ρ (arrOf st) 0)
  (h:∀ m st',SBase a₀ st'->1<=m->m<=nrem->mL ρ (arrOf st') m->iI ρ (arrOf st') m->Q (some m) st'):wpS (model prog w) A E s (countRun' 0 nrem) Q st:=by
 rw [countRun0_eq]
 have sz:=hB.size
 refine adb (NL h0 hr hn (aEt 1) h1 hB (λi j hij hj=>absurd hj (by lia)) (hI.mono (aUM _)) λn n1 n2 i1 hor=>?_)
 dsimp only
 by_cases e:n=nrem
 .rw [abw (by simpa using e)]
  exact aRf (h n st hB n1 n2 i1 (hI.mono (aUM _)))
 .rw [aM3 (by simpa using e)]
  have lt:K (arrOf st) n<K (arrOf st) (n - 1):=hor.resolve_left e
  by_cases g:n > 1
  .rw [abw g]
   refine adb (wpS_ltK hB h0 (by lia) (by lia) ?_)
   by_cases c:K (arrOf st) 0<K (arrOf st) (n - 1)
   .simp only [c,a8F,aOV]
    exact aRf (h n st hB n1 n2 i1 (hI.mono (aUM _)))
   .simp only [c,a9R,aqO,at1]
    have all:∀ k,0<=k->k<n->K (arrOf st) k=K (arrOf st) (n - 1):=by
     intro k _ hk
     have a1:k=0\/gT ρ (arrOf st) 0 k:=by
      by_cases z:k=0
      .exact .inl z
      .exact .inr (i1 0 k (by lia) hk)
     have a2:k=n - 1\/gT ρ (arrOf st) k (n - 1):=by
      by_cases z:k=n - 1
      .exact .inl z
      .exact .inr (i1 k (n - 1) (by lia) (by lia))
     have a3:=i1 0 (n - 1) (by lia) (by lia)
     unfold gT at a1 a2 a3
     rcases a1 with a1 | a1
     .subst a1; lia
     .rcases a2 with a2 | a2
      .subst a2; rfl
      .lia
    have ke:=K_mirror_equal (xs:=arrOf st) (i:=0) (j:=n) (by lia) all
    refine adb (aYm (OD h0 hr hn (by lia) (hB.setArr (as4 _ _ _ _)) (DI.of (by lia) (by show n<(mirror _ _ _ _).size; rw [mirror_size]; lia) (λi j hij hj=>?_) (λi hi hs=>?_) ?_) h))
    .show gT ρ (mirror (arrOf st) 0 n ((n - 0) / 2)) j i
     unfold gT
     rw [ke,ke,all i (by lia) (by lia),all j (by lia) hj,tD (by lia),tD (by lia),abw (by lia),abw (by lia),hI _ (by lia) (by lia),hI _ (by lia) (by lia)]
     lia
    .have hs':i<(mirror (arrOf st) 0 n ((n - 0) / 2)).size:=hs
     rw [mirror_size] at hs'
     show Rk ρ (mirror (arrOf st) 0 n ((n - 0) / 2)) i=i
     rw [tD (by lia),aM3 (by lia)]
     exact hI i (by lia) hs'
    .show K (mirror (arrOf st) 0 n ((n - 0) / 2)) n<K (mirror (arrOf st) 0 n ((n - 0) / 2)) (n - 1)
     rw [ke,ke]
     exact lt
  .rw [aM3 g]
   have en:n=1:=by lia
   subst en
   exact OD h0 hr hn (by lia) hB (DI.of (by lia) (by lia) (λi j hij hj=>absurd hj (by lia)) (hI.mono (aUM _)) lt) h
def pA (ρ:Keyed->Nat) (a₀:Array Keyed) (st:SortSt):Prop:=(arrOf st).Perm a₀/\failedOf st=none/\pendingOf st=#[(0,a₀.size,0)]/\mL ρ (arrOf st) a₀.size
theorem pA.of {st:SortSt} (hB:SBase a₀ st) (hs:mL ρ (arrOf st) a₀.size):pA ρ a₀ (setPending st ((pendingOf st).push (0,a₀.size,0))) :=
 ⟨hB.perm,hB.failed,by show (pendingOf st).push _=_; rw [hB.pend]; rfl,hs⟩
theorem WE {st:SortSt} {Q:Unit->SortSt->Prop} (h0:IntKeys a₀) (hr:iI ρ a₀ 0) (hB:SBase a₀ st) (hI:iI ρ (arrOf st) 0) (h2:2<=a₀.size) (h64:a₀.size<64)
  (h:∀ st',(arrOf st').Perm a₀->failedOf st'=none->mL ρ (arrOf st') a₀.size->Q () st'):wpS (model prog w) A E s sortRuns' Q st:=by
 rw [sortRuns'_eq]
 refine adb (a2J ?_)
 dsimp only
 have mr:minRun' a₀.size a₀.size 0=a₀.size:=by
  obtain ⟨f,hf⟩:∃ f,a₀.size=f+1:=⟨a₀.size - 1,by lia⟩
  have e:minRun' (f+1) a₀.size 0=a₀.size:=by
   rw [minRun'_succ,abw h64]
   rfl
  rwa [← hf] at e
 simp only [hB.size,mr]
 refine adb (aVU (ag5
  (I:=λx c st1=>(x=0/\c=(none,0)/\SBase a₀ st1/\iI ρ (arrOf st1) 0)\/(1<=x/\c=(none,a₀.size)/\pA ρ a₀ st1))
  (Q:=λc st1=>c=(none,a₀.size)/\pA ρ a₀ st1) ?turn ?last (.inl ⟨rfl,rfl,hB,hI⟩)) ?after)
 case last =>
  rintro c st1 (⟨hx,_⟩ | ⟨_,hc,hD⟩)
  .lia
  .exact ⟨hc,hD⟩
 case turn =>
  rintro x c st1 _ hx (⟨rfl,rfl,b1,i1⟩ | ⟨Mf,rfl,hD⟩)
  .dsimp only
   rw [aM3 (by lia)]
   simp only [Nat.sub_zero,Nat.min_self,asM]
   refine adb (XJ h0 hr (aEt _) (by lia) b1 i1 λm st2 b2 m1 m2 s2 d2=>?_)
   dsimp only
   by_cases lt:m<a₀.size
   .rw [abw lt]
    refine adb (wpS_lift (aPe ⟨rfl,?_⟩))
    refine adb (VU h0 hr (aEt _) m2 m1 b2 s2 d2 λst3 b3 s3=>?_)
    simp only [aTa,aqO,at1]
    refine adb (a2J ?_)
    have hb:(pendingOf st3).back?=none:=by
     rw [b3.pend]
     rfl
    rw [hb]
    dsimp only
    exact adb (bbL (aRf (.inr ⟨by lia,rfl,pA.of b3 s3⟩)))
   .rw [aM3 lt]
    have em:m=a₀.size:=by lia
    subst em
    refine adb (a2J ?_)
    have hb:(pendingOf st2).back?=none:=by
     rw [b2.pend]
     rfl
    rw [hb]
    dsimp only
    exact adb (bbL (aRf (.inr ⟨by lia,rfl,pA.of b2 s2⟩)))
  .dsimp only
   rw [abw (aEt _)]
   exact aRf ⟨rfl,hD⟩
 case after =>
  rintro c st1 ⟨rfl,hD⟩
  dsimp only
  refine adb (aVU (ag5 (I:=λ_ c st2=>st2=st1/\c=(none,())) (Q:=λc st2=>st2=st1/\c=(none,())) ?_ (λ_ _ hh=>hh) ⟨rfl,rfl⟩) ?_)
  .rintro x c st2 _ _ ⟨rfl,rfl⟩
   refine adb (a2J ?_)
   rw [abw (by rw [hD.2.2.1]; exact aEt 1)]
   exact aRf ⟨rfl,rfl⟩
  .rintro c st2 ⟨rfl,rfl⟩
   exact aRf (h _ hD.1 hD.2.1 hD.2.2.2)
end
end L2.QM
namespace L2
open PySem PySem.Spec PyProof.Rows
def BMod (base:Heap) (mg:Str->Option Value):Prop:=∃ bm o,mg "__builtins__" = some (.ref bm)/\bm≠builtinsNs/\bm≠mainGlobals/\base.get? bm=some o/\o.cls=.type "module" /\ o.dict=some builtinsNs/\o.data=.plain
section
variable {X:Cx} {pins:List (Addr×Obj)} {σ:St} {H:Hp} {s:Shared}
theorem Inv.grown {P c':Addr} {pos:Pos} {qual:Str} {ps:Array Value} {h':Heap} {tk:Nat} (I:Inv X pins σ H s) (hP:H P=some (.kh pos qual)) (hx:Heap.ExtBut P s.heap h') (hge:s.heap.objs.size<=c') (hrec:h'.CodeRec (.ref c') qual)
  (htr:TriplesOk ps.toList) (hnf:codeAmong pos ps.toList=none) (htb:h'.get? P=some { cls:=.none,data:=.fields (ps++#[rawInt pos.line,rawInt pos.col,.ref c']) }) :
  ∃ oc vs t,h'.get? c'=some oc/\oc.data=.fields vs/\vs[1]?=some (.str qual t)/\Inv X pins σ (upd H c' (.cW oc (.own P))) { s with heap:=h',toks:=tk }:=by
 obtain ⟨c,oc,vs,t,z,hoc,hd,hv⟩:=hrec
 cases z
 have fr:H c'=none:=I.hok.fresh hge
 have nP:∀ b,H b=none->b≠P:=λb n z=>by rw [z,hP] at n; cases n
 have nc:∀ b u,H b=some u->b≠c':=λb u e=>Ze e fr
 have nh:∀ b o,s.heap.get? b=some o->b≠c':=λb o e=>ayF (akK (a2R e) hge)
 have cP:c'≠P:=λz=>by rw [z,hP] at fr; cases fr
 refine ⟨oc,vs,t,hoc,hd,hv,I.step (g':=s.gens) (d':=s.drawn) (t':=tk) (ch:=[]) (h':=h') (H':=upd H c' (.cW oc (.own P))) (λ_ z=>nomatch z) (λb o _ _ _ e n=>hx b o (nP b n) e) (λb o _ _ _ e n=>⟨o.slots,hx b o (nP b n) e⟩)
  (λb o _ e n=>by rw [Zc (nh b o e)]; exact n) (λb o _ e=>?_) (λb xs e=>by rw [Zc (nc b _ e)]; exact e) (λb o u e=>by rw [Zc (nc b _ e)]; exact e) (λb p q e=>by rw [Zc (nc b _ e)]; exact e) (λm hm=>?_) (λb u e=>?_) I.bare⟩
 .by_cases hb:b=P
  .subst hb; exact ⟨_,htb⟩
  .exact ⟨o,hx b o hb e⟩
 .obtain ⟨o,es,ep,ho,r⟩:=hm
  exact ⟨o,es,ep,hx _ o (nP _ I.free) ho,r⟩
 .by_cases hb:b=c'
  .subst hb
   rw [Za] at e
   cases e
   exact ⟨hoc,_,hoc⟩
  .rw [Zc hb] at e
   by_cases Mz:b=P
   .subst Mz
    rw [hP] at e
    cases e
    have e1:(ps++#[rawInt pos.line,rawInt pos.col,Value.ref c']).toList=ps.toList++[rawInt pos.line,rawInt pos.col,.ref c']:=by simp
    refine ⟨_,htb,?_,λcv hc=>?_⟩
    .rw [e1]; exact TriplesOk_snoc _ _ _ _ htr
    .rw [e1,codeAmong_snoc _ htr hnf] at hc
     cases hc
     exact ⟨c',oc,vs,t,rfl,Za,hd,hv⟩
   .refine (I.hok b u e).stay (λd v hd' q=>hx d v ?_ q) (λd q=>by rw [Zc (nc d _ q)]; exact q) (λd xs q=>by rw [Zc (nc d _ q)]; exact q) λd oz q=>by rw [Zc (nc d _ q)]; exact q
    rcases hd' with rfl | hd'
    .exact Mz
    .intro z; rw [z,hP] at hd'; cases hd'
structure mD (X:Cx) (scope:Scope) (x:Str) (fr:List Str) (js:List Nat):Prop where
 kind:scope.kind=.function
 co:scope.isCoroutine=false
 gen:scope.isGenerator=false
 qo:∀ y∈scope.names,y.2≠.cell
 par:scope.names.lookup x=some .local
 free:∀ y∈scope.names,y.2=.free->X.env.kindOf y.1=some .cell\/X.env.kindOf y.1=some .free
 len:fr.length=js.length
 js:∀ (k j:Nat),js[k]?=some j->fr[k]?=X.N[j]?
 jf:∀ (k:Nat) (y:Str),fr[k]?=some y->scope.names.lookup y=some .free
def iR (X:Cx) (A:Around) (N:List Str) (qual:Str) (scope:Scope) (f:Addr) (cd:Value) (cl:List (Str×Addr)) (s:Shared) (H:Hp):Cx where
 prog:=X.prog
 w:=X.w
 K:=X.K
 mg:=X.mg
 base:=X.base
 A:=A.deeper (W.envX qual scope s.heap.objs.size f cd cl)
 N:=N
 s₀:=s
 H₀:=H
 env:=W.envX qual scope s.heap.objs.size f cd cl
 outer:=X.stack
 stack:=W.envX qual scope s.heap.objs.size f cd cl :: X.stack
 ex:=[]
 calm:=true
 fn:=λ_=>false
 pn:=[]
 xe:=λ_ _=>False
theorem WD {A:Around} {x:Str} {fr:List Str} {js:List Nat} {qual:Str} {scope:Scope} {f:Addr} {cd:Value} {cl:List (Str×Addr)} {s1:Shared} {u:Value} {v:V} (c:mD X scope x fr js) (I:Inv X pins σ H s) (hA:A.frames=some X.stack) (hh:A.handled=none)
  (i8:∀ x c,cl.lookup x=some c->X.env.cells.lookup x=some c) (kZ:∀ p∈scope.names,p.2=.free->∃ c,cl.lookup p.1=some c) (r:RelV v u)
  (hn:s1.heap.Ns s.heap.objs.size λy=>[(x,u)].reverse.lookup y) (hk:∀ b o,s.heap.get? b=some o->s1.heap.get? b=some o) (hos:s1.os=s.os) (hg:s1.gens=s.gens) :
  Inv (iR X A (x :: fr) qual scope f cd cl s H) [] (some v :: js.map λj=>(σ[j]?).join) H s1:=by
 have vq:∀ b:Addr,b∉(iR X A (x :: fr) qual scope f cd cl s H).ex:=λb z=>absurd (show b∈([]:List Addr) from z) (by simp)
 have ok:(iR X A (x :: fr) qual scope f cd cl s H).Ok:=by
  refine ⟨I.ok.mod,c.kind,rfl,rfl,aEt _,λy z d e1 e2=>I.ok.inj y z d (i8 _ _ e1) (i8 _ _ e2),λy hy=>?_,λy d z _=>absurd z (by simp [iR]),λ_=>hh,Around.frames_deeper hA,.inr ⟨rfl,rfl⟩,λb z=>absurd z (vq b),I.bs,a28 I.ok.rH I.sz,λb _ _=>vq b,λb z=>absurd z (vq b),I.stack,I.ko⟩
  have hy:scope.names.lookup y=some .cell\/scope.names.lookup y=some .free:=hy
  rcases hy with hy | hy
  .exact absurd rfl (c.qo _ (ZY hy))
  .exact kZ _ (ZY hy) rfl
 refine ⟨ok,hos,by rw [hg]; exact I.bare,Un.kept hk,⟨_,hn,λi y v' e1 e2 e3=>?_⟩,λy d e=>?_,I.hok.fresh (aEt _),λy d e=>I.dO y d (i8 y d e),λp hp=>absurd (show p∈([]:List (Addr×Obj)) from hp) (by simp),I.hok.kept hk,?_⟩
 .cases i with
  | zero =>
   have oE:x=y:=by simpa [iR] using e1
   have qM:v=v':=by simpa using e2
   subst oE
   subst qM
   refine ⟨u,r,.inl ⟨c.par,?_⟩⟩
   show ([(x,u)]:List (Str×Value)).reverse.lookup x=some u
   simp
  | succ k =>
   have oE:fr[k]?=some y:=by simpa [iR] using e1
   rw [aS5,aBK] at e2
   cases q:js[k]? with
   | none=>rw [q] at e2; cases e2
   | some j =>
    rw [q] at e2
    have qM:(σ[j]?).join=some v':=by simpa using e2
    have e4:σ[j]?=some (some v'):=by
     cases z:σ[j]? with
     | none=>rw [z] at qM; cases qM
     | some o=>rw [z] at qM; rw [show o=some v' from qM]
    have Hj:X.N[j]?=some y:=(c.js k j q).symm.trans oE
    have hfr:=c.jf k y oE
    have hk2:=c.free _ (ZY hfr) rfl
    have vis:BI X.env.scope y:=by
     rcases hk2 with z | z
     .exact .inr (.inl z)
     .exact .inr (.inr z)
    obtain ⟨m,_,hl⟩:=I.loc
    obtain ⟨u',r',l⟩:=hl j y v' Hj e4 vis
    refine ⟨u',r',?_⟩
    rcases l with ⟨z,_⟩ | ⟨_,d,e,⟨od,ho,hd⟩⟩
    .rcases hk2 with y' | y'
     .rw [show X.env.kindOf y=_ from z] at y'; cases y'
     .rw [show X.env.kindOf y=_ from z] at y'; cases y'
    .obtain ⟨d',e'⟩:=kZ _ (ZY hfr) rfl
     have z':=i8 _ _ e'
     have:d'=d:=by rw [e] at z'; exact (avM z').symm
     subst this
     exact .inr ⟨.inr hfr,d',e',⟨od,hk _ _ ho,hd⟩⟩
 .obtain ⟨v',⟨o,ho,hd⟩⟩:=I.cell y d (i8 y d e)
  exact ⟨v',o,hk _ _ ho,hd⟩
 .show (some v :: _:List (Option V)).length=(x :: fr).length
  rw [arz,arz,aK1,c.len]
theorem XI {A:Around} {x:Str} {fr:List Str} {js:List Nat} {name qual:Str} {params:Arguments} {body:PySem.Expr} {scope:Scope} {f:Addr} {pm cd ct:Value} {cl:List (Str×Addr)} {u:Value} {v:V} {te:TE} {Q:VK} {E:Value->Shared->Prop} {of:Obj} (c:mD X scope x fr js) (I:Inv X pins σ H s)
  (hA:A.frames=some X.stack) (hh:A.handled=none) (Hh:A.depth<recursionLimit)
  (i8:∀ x c,cl.lookup x=some c->X.env.cells.lookup x=some c) (kZ:∀ p∈scope.names,p.2=.free->∃ c,cl.lookup p.1=some c)
  (ho:s.heap.get? f=some of) (hof:of.data=.func (W.kla_fn name qual params body scope cl pm cd ct)) (hcd:s.heap.CodeRec cd qual)
  (hb:∀ u,bindArgs (W.kla_fn name qual params body scope cl pm cd ct) ⟨[u],[]⟩=pure [(x,u)]) (r:RelV v u)
  (he:∀ s,PE (iR X A (x :: fr) qual scope f cd cl s H) body te) (h:te (some v :: js.map λj=>(σ[j]?).join) H Q) :
  wpAny (model X.prog X.w) A (call (.ref f) [u]) (EP X pins σ Q) E s:=by
 refine wpAny_call (codeAny_mono (R:=λr s'=>∃ u',r=.ok (.ret u')/\CE X.stack X.prog X.w H s Q u' s') (W.kla_callFunE Hh ho hof c.co c.gen rfl hcd (by
  rw [hb u]
  refine a5a ?_
  refine wpAny_newFunctionEnv c.qo (λy hy=>by rw [arG.mp hy]; exact c.par) (λh₁ hns jG=>?_) c.kind
  have hk₁:∀ b o,s.heap.get? b=some o->h₁.get? b=some o:=λb o e=>jG.extBut b o (ayF (a2R e)) (aXX _ e)
  refine ⟨I.nolimit.keeps hk₁,?_⟩
  have J:=WD (qual:=qual) (f:=f) (cd:=cd) (s1:={ s with heap:=h₁,toks:=s.toks+[(x,u)].length }) c I hA hh i8 kZ r hns hk₁ rfl rfl
  refine W.kla_codeExpr (aRs (he s [] _ _ H Q J h) (λu' s' hq=>?_) λ_ _ z=>z.elim)
  obtain ⟨v',H',J',rv,q⟩:=hq
  exact ⟨u',rfl,v',H',J'.os,J'.bare,J'.base,J'.hok,rv,q⟩)) λr s' hq=>?_)
 obtain ⟨u',rfl,hq⟩:=hq
 exact I.after hq
theorem XH {P c0:Addr} {x:Str} {fr:List Str} {js:List Nat} {params:Arguments} {body:PySem.Expr} {scope:Scope} {pos:Pos} {R:Value->Shared->Prop} (c:mD X scope x fr js) (I:Inv X pins σ H s) (hc0:X.env.code=.ref c0) (hcd:W.codeHdIn X.K c0 P=true)
  (bm:BMod X.base X.mg) (hP:H P=some (.kh pos (X.env.qual ++ "<lambda>"))) (hd0:params.defaults=[]) (hk0:params.kw_defaults=[])
  (h:∀ f cl cd pm ct of H' s',Inv X pins σ H' s'->az H H'->(∀ x c,cl.lookup x=some c->X.env.cells.lookup x=some c)->(∀ p∈scope.names,p.2=.free->∃ c,cl.lookup p.1=some c) -> 
   H' f=some (.cW of (.own 0))->of.data=.func (W.kla_fn "<lambda>" (X.env.qual ++ "<lambda>") params body scope cl pm cd ct)->(∃ c' oc vs t,cd=.ref c'/\H' c'=some (.cW oc (.own P))/\oc.data=.fields vs/\vs[1]?=some (.str (X.env.qual ++ "<lambda>") t))->R (.ref f) s') :
  wpAny (model X.prog X.w) X.A (eval (.Lambda params body scope pos) X.env) R X.xe s:=by
 obtain ⟨cl,e1,i8,_,kZ⟩:=BA (env:=X.env) scope.names [] (λp hp hf=>I.ok.has _ (c.free p hp hf)) (λx d e=>by simp at e)
 have hclos:closureFor scope X.env=pure cl:=by
  unfold closureFor
  refine (aok (λz=>z >>= λcs=>pure cs) e1).trans ?_
  rfl
 have CH:=W.codeHd_of_K I.d8 hcd
 obtain ⟨ps,hps,htr,hcode⟩:=(show aJ X.prog X.w H s.heap P (.kh pos (X.env.qual ++ "<lambda>")) from I.hok P _ hP)
 have hg:=I.ok.mod.glob.keeps I.bk
 have hgP:mainGlobals≠P:=λq=>by
  obtain ⟨o,es,ep,e,hd,_⟩:=hg
  rw [q,hps] at e; cases e; cases hd
 have hb:s.heap.BuiltinsAt X.mg P:=by
  obtain ⟨b,o,a1,a2,a3,a4,a5,a6,a7⟩:=bm
  have e:=I.bk _ _ a4
  exact ⟨b,o,a1,a2,a3,(λz=>by rw [z,hps] at e; cases e; cases a5),e,a5,a6,a7⟩
 rw [arm_eval_Lambda,defaultsOf_eq,hd0,hk0]
 show wpAny _ _ (do let dv ← evalAll (evalEach [] X.env); let Uh ← holding dv (evalAllOpt []); makeFunction "<lambda>" (X.env.qual ++ "<lambda>") params (.expr body) scope X.env dv Uh [] pos pos.line) _ _ s
 refine apg (evalAll_nil ?_)
 refine apg (a9s (a5a ?_))
 cases hf:codeAmong pos ps.toList with
 | some cv =>
  obtain ⟨c',oc,vs,t,rfl,hH,hd,hv⟩:=hcode cv hf
  refine W.kla_makeFunctionHit hclos I.ok.glob hg hc0 CH hps htr hf hb λctv h' tk hk hsz=>?_
  have I1:=I.laid (a:=h'.objs.size) (t':=tk) (o:=.cW { cls:=.type "function",data:=.func (W.kla_fn "<lambda>" (X.env.qual ++ "<lambda>") params body scope cl ((X.mg "__name__").getD .none) (.ref c') ctv) } (.own 0)) (h':=h'.push { cls:=.type "function",data:=.func (W.kla_fn "<lambda>" (X.env.qual ++ "<lambda>") params body scope cl ((X.mg "__name__").getD .none) (.ref c') ctv) }) (λb o e=>aXX _ (hk b o e)) hsz ⟨aYI _ rfl,_,aYI _ rfl⟩
  have fr:=I.hok.fresh hsz
  exact h _ cl _ _ _ _ _ _ I1 (Zd fr _) i8 kZ Za rfl ⟨c',oc,vs,t,rfl,by rw [Zc (Ze hH fr)]; exact hH,hd,hv⟩
 | none =>
  refine W.kla_makeFunction hclos I.ok.glob hg hc0 CH hps htr hf hgP hb λc' ctv h' tk hx hge hlt hrec htb=>?_
  obtain ⟨oc,vs,t,hoc,hd,hv,I1⟩:=I.grown (tk:=tk) hP hx hge hrec htr hf htb
  have fr:H c'=none:=I.hok.fresh hge
  have AA:upd H c' (.cW oc (.own P)) h'.objs.size=none:=I1.hok.fresh (aEt _)
  have I2:=I1.laid (a:=h'.objs.size) (t':=tk) (o:=.cW (W.kla_obj "<lambda>" (X.env.qual ++ "<lambda>") params body scope cl ((X.mg "__name__").getD .none) c' ctv) (.own 0)) (h':=h'.push (W.kla_obj "<lambda>" (X.env.qual ++ "<lambda>") params body scope cl ((X.mg "__name__").getD .none) c' ctv)) (λb o e=>aXX _ e) (aEt _) ⟨aYI _ rfl,_,aYI _ rfl⟩
  exact h _ cl _ _ _ _ _ _ I2 ((Zd fr _).trans (Zd AA _)) i8 kZ Za rfl ⟨c',oc,vs,t,rfl,by rw [Zc (Ze Za AA)]; exact Za,hd,hv⟩
end
end L2
namespace L2
open PySem PySem.Spec PyProof.Rows L2.QM
def tM (key:Int->Int) (ns:List Int) (a b:Int):Prop:=key a<key b\/(key a=key b/\ns.idxOf a<ns.idxOf b)
theorem XG {l:List Keyed} (h:∀ p∈l,∃ t,p.2=.int (numOf p.2) t):Vals ((l.map λp=>numOf p.2).map V.int) (l.map (·.2)):=by
 induction l with
 | nil=>exact .nil
 | cons p r ih =>
  obtain ⟨t,e⟩:=h p aFv
  exact .cons ⟨t,e⟩ (ih λq hq=>h q (aHO _ hq))
theorem Jo {vs:List Value} {ns:List Int} (h:IntsAre vs ns):∀ {i:Nat} {v:Value},vs[i]?=some v->∃ n t,ns[i]?=some n/\v=.int n t:=by
 induction h with
 | nil=>intro i v e; simp at e
 | cons n t _ ih =>
  intro i v e
  cases i with
  | zero=>exact ⟨n,t,rfl,by simpa using e.symm⟩
  | succ i=>exact ih (by simpa using e)
theorem Nz:∀ {ns:List Int},ns.Nodup->∀ {i:Nat} {n:Int},ns[i]?=some n->ns.idxOf n=i
 | [],_,_,_,e=>by simp at e
 | x :: r,nd,0,n,e=>by
  have e':x=n:=by simpa using e
  subst e'
  simp
 | x :: r,nd,i+1,n,e=>by
  obtain ⟨h1,h2⟩:=aDH.mp nd
  have e':r[i]?=some n:=by simpa using e
  have ne:x≠n:=λz=>h1 (z ▸ aBD e')
  rw [List.idxOf_cons,show (x == n)=false by simpa using ne]
  show r.idxOf n+1=i+1
  rw [Nz h2 e']
theorem PJ {keys:Array Value} {vs:List Value} {ns:List Int} {key:Int->Int} (hk:IntsAre keys.toList (ns.map key)) (hv:IntsAre vs ns) (nd:ns.Nodup) :
  iI (λp=>ns.idxOf (numOf p.2)) (keys.zip vs.toArray) 0/\∀ xs:Array Keyed,xs.Perm (keys.zip vs.toArray)->mL (λp=>ns.idxOf (numOf p.2)) xs xs.size ->
   ∃ os:List Int,Vals (os.map V.int) (xs.map (·.2)).toList/\os.Perm ns/\os.Pairwise (tM key ns):=by
 have lk:keys.size=ns.length:=by have:=hk.length; rw [aYJ,aK1] at this; lia
 have lv:vs.length=ns.length:=by have:=hv.length; lia
 have AZ:∀ (i:Nat) (p:Keyed),(keys.zip vs.toArray)[i]?=some p->∃ n t t',ns[i]?=some n/\p=(Value.int (key n) t,Value.int n t'):=λi p e=>by
  have e':(keys.toList.zip vs)[i]?=some p:=by rw [← ksk_zip,abk]; exact e
  rw [List.getElem?_zip_eq_some] at e'
  obtain ⟨n1,t1,q1,r1⟩:=Jo hk e'.1
  obtain ⟨n2,t2,q2,r2⟩:=Jo hv e'.2
  rw [aBK,q2] at q1
  have zx:key n2=n1:=by simpa using q1
  exact ⟨n2,t1,t2,q2,Prod.ext (by rw [r1,zx]) r2⟩
 have Gi:∀ p∈(keys.zip vs.toArray).toList,∃ n t t',n∈ns/\p=(Value.int (key n) t,Value.int n t'):=λp hp=>by
  obtain ⟨i,e⟩:=asq hp
  rw [abk] at e
  obtain ⟨n,t,t',q,r⟩:=AZ i p e
  exact ⟨n,t,t',aBD q,r⟩
 refine ⟨λi _ hi=>?_,λxs hp hi=>?_⟩
 .obtain ⟨n,t,t',q,r⟩:=AZ i _ (a2Z hi)
  unfold Rk
  rw [a2Z hi,r]
  show ns.idxOf n=i
  exact Nz nd q
 .have pm:=ahA.mp hp
  have vz:∀ p∈xs.toList,∃ n t t',n∈ns/\p=(Value.int (key n) t,Value.int n t'):=λp vL=>Gi p (pm.mem_iff.mp vL)
  refine ⟨xs.toList.map λp=>numOf p.2,?_,?_,?_⟩
  .rw [Array.toList_map]
   refine XG λp vL=>?_
   obtain ⟨n,t,t',_,rfl⟩:=vz p vL
   exact ⟨t',rfl⟩
  .have e:(keys.zip vs.toArray).toList.map (λp=>numOf p.2)=ns:=by
    apply afx
    intro i
    rw [aBK,abk]
    by_cases hlt:i<(keys.zip vs.toArray).size
    .obtain ⟨n,t,t',q,r⟩:=AZ i _ (a2Z hlt)
     rw [a2Z hlt,r,q]
     rfl
    .have lz:(keys.zip vs.toArray).size=ns.length:=by rw [Array.size_zip,lk,am7,lv,Nat.min_self]
     rw [Array.getElem?_eq_none (by lia),aaz (by lia)]
     rfl
   rw [← e]
   exact pm.map _
  .rw [pairwise_iff_getElem]
   intro i j hi' hj' hij
   have hi2:i<xs.size:=by simpa using hi'
   have hj2:j<xs.size:=by simpa using hj'
   have v:=hi i j hij hj2
   obtain ⟨n1,t1,t1',_,r1⟩:=vz xs[i] (by simp)
   obtain ⟨n2,t2,t2',_,r2⟩:=vz xs[j] (by simp)
   have k1:K xs i=key n1:=by rw [K_eq hi2,r1]; rfl
   have k2:K xs j=key n2:=by rw [K_eq hj2,r2]; rfl
   have q1:Rk (λp=>ns.idxOf (numOf p.2)) xs i=ns.idxOf n1:=by unfold Rk; rw [a2Z hi2,r1]; rfl
   have q2:Rk (λp=>ns.idxOf (numOf p.2)) xs j=ns.idxOf n2:=by unfold Rk; rw [a2Z hj2,r2]; rfl
   have g1:(xs.toList.map λp=>numOf p.2)[i]=n1:=by simp [r1,numOf]
   have g2:(xs.toList.map λp=>numOf p.2)[j]=n2:=by simp [r2,numOf]
   rw [g1,g2]
   unfold gT at v
   rw [k1,k2,q1,q2] at v
   exact v
section
variable {X:Cx} {pins:List (Addr×Obj)} {σ:St} {H:Hp} {s:Shared} {d:Addr} {xs:List V} {o:Obj}
theorem Inv.rS (I:Inv X pins σ H s) (h:H d=some (.cW o (.lst xs))) (h0:∀ o' u,X.H₀ d≠some (.cW o' u)):Inv X pins σ (upd H d (.lst xs)) s:=by
 have ne:∀ b u,H b=some u->u≠.cW o (.lst xs)->b≠d:=λb u e n z=>by rw [z,h] at e; exact n (avM e).symm
 have nn:∀ b,H b=none->b≠d:=λb e z=>by rw [z,h] at e; cases e
 refine ⟨I.ok,I.os,I.bare,⟨I.base.keep,I.base.slot,λb o' e n hx=>?_,I.base.there,λb ys e=>?_,λb o' u e=>?_,λb p r e=>?_⟩,I.loc,I.cell,?_,λx c e=>?_,λp hp=>?_,λb u e=>?_,I.len⟩
 .have q:=I.base.free b o' e n hx
  rw [Zc (nn b q)]
  exact q
 .have q:=I.base.tups b ys e
  rw [Zc (ne b _ q (by intro z; cases z))]
  exact q
 .have q:=I.base.i7 b o' u e
  rw [Zc (λz=>h0 o' u (by rw [← z]; exact e))]
  exact q
 .have q:=I.base.ji b p r e
  rw [Zc (ne b _ q (by intro z; cases z))]
  exact q
 .rw [Zc (nn _ I.free)]
  exact I.free
 .rw [Zc (nn _ (I.dO x c e))]
  exact I.dO x c e
 .obtain ⟨a1,a2,a3⟩:=I.pin p hp
  exact ⟨a1,by rw [Zc (nn _ a2)]; exact a2,a3⟩
 .by_cases hb:b=d
  .subst hb
   rw [Za] at e
   cases e
   exact (I.hok b _ h).2
  .rw [Zc hb] at e
   exact (I.hok b u e).stay (λ_ _ _ z=>z) (λc z=>by rw [Zc (ne c _ z (by intro y; cases y))]; exact z) (λc ys z=>by rw [Zc (ne c _ z (by intro y; cases y))]; exact z) λc oz z=>by rw [Zc (ne c _ z (by intro y; cases y))]; exact z
theorem PF {a kS:Addr} {st:SortSt} {e1:Nat} {H1:Hp} {ns:List Int} {key:Int->Int} {keys:Array Value} {its:List Value} {ks:List V} {A:Around} {E:Value->Shared->Prop} {R:PySem.Fin->Shared->Prop} (I:Inv X pins σ H1 s) (hk:IntsAre keys.toList (ns.map key)) (hv:IntsAre its ns) (nd:ns.Nodup) (h64:ns.length<64)
  (ha:H1 a=some (.cW (seqObj "list" #[] e1) (.lst []))) (h0:∀ o' u,X.H₀ a≠some (.cW o' u)) (xV:H1 kS=some (.lst ks)) (hlk:ks.length<=64) (hp:(arrOf st).Perm (keys.zip its.toArray)) (hi:mL (λp=>ns.idxOf (numOf p.2)) (arrOf st) (arrOf st).size) (hf:failedOf st=none)
  (h:∀ (H':Hp) (s':Shared) (os:List Int),Inv X pins σ H' s'->(∀ b,b≠a->b≠kS->H' b=H1 b)->H' a=some (.lst (os.map V.int))->os.Perm ns->os.Pairwise (tM key ns)->R (.done (.ret .none)) s') :
  wpAny (model X.prog X.w) A (ksk_tail a false e1 (.ref kS) st) R E s:=by
 have CJ:a≠kS:=λz=>by rw [z,xV] at ha; cases ha
 obtain ⟨os,vo,po,so⟩:=(PJ hk hv nd).2 _ hp hi
 have lo:=po.length_eq
 unfold ksk_tail
 try dsimp only
 obtain ⟨_,qB,n,rK,Ms,eK⟩:=I.mW xV
 have lK:qB.length<=64:=by have:=rK.length; lia
 refine apg (adT eK rfl ?_ (by rw [am7,aLq]; lia) (aUM _))
 have I6:=I.qw (t':=s.toks) (f:=λ_=>#[]) (its':=[]) (ys:=[]) xV eK rfl .nil (aUM _)
 have MA:upd H1 kS (.lst []) a=some (.cW (seqObj "list" #[] e1) (.lst [])):=by rw [Zc CJ]; exact ha
 have oa:=(I6.hok a _ MA).1
 refine apg (wpAny_letGo ?_)
 refine apg (seqEpoch_at oa rfl ?_)
 have lo2:((arrOf st).map (·.2)).size=ns.length:=by
  have e:=vo.length
  rw [aK1] at e
  have e2:((arrOf st).map (·.2)).toList.length=((arrOf st).map (·.2)).size:=aYJ
  lia
 refine apg (adT oa rfl ?_ (aUM _) (by simp only [aqO,at1]; rw [lo2,aLq]; lia))
 rw [hf]
 simp only [bne_self_eq_false,aqO,at1]
 have I7:=I6.rS MA h0
 have I8:=I7.qw (t':=s.toks) (f:=λ_=>(arrOf st).map (·.2)) (its:=[]) (its':=((arrOf st).map (·.2)).toList) (ys:=os.map V.int) Za oa (by exact (Array.toArray_toList).symm) vo (by rw [aK1,aLq]; lia)
 refine a5a (h _ _ os I8 (λb n1 n2=>?_) Za po so)
 rw [Zc n1,Zc n1,Zc n2]
theorem WC {a kS:Addr} {e1:Nat} {H1:Hp} {ns:List Int} {key:Int->Int} {keys:Array Value} {its:List Value} {ks:List V} {A:Around} {E:Value->Shared->Prop} {R:PySem.Fin->Shared->Prop} (I:Inv X pins σ H1 s) (hk:IntsAre keys.toList (ns.map key)) (hv:IntsAre its ns) (nd:ns.Nodup) (h64:ns.length<64)
  (ha:H1 a=some (.cW (seqObj "list" #[] e1) (.lst []))) (h0:∀ o' u,X.H₀ a≠some (.cW o' u)) (xV:H1 kS=some (.lst ks)) (hlk:ks.length<=64)
  (h:∀ (H':Hp) (s':Shared) (os:List Int),Inv X pins σ H' s'->(∀ b,b≠a->b≠kS->H' b=H1 b)->H' a=some (.lst (os.map V.int))->os.Perm ns->os.Pairwise (tM key ns)->R (.done (.ret .none)) s') :
  wpAny (model X.prog X.w) A (ksk_end a false its.toArray e1 (.ref kS) keys) R E s:=by
 have lk:keys.size=ns.length:=by have:=hk.length; rw [aYJ,aK1] at this; lia
 have lv:its.length=ns.length:=by have:=hv.length; lia
 have hzs:(keys.zip its.toArray).size=ns.length:=by rw [Array.size_zip,lk,am7,lv,Nat.min_self]
 obtain ⟨Me,_⟩:=PJ hk hv nd
 unfold ksk_end
 simp only [aqO,at1]
 by_cases h2:its.toArray.size<2
 .rw [abw h2,abw h2]
  refine apg (a5a ?_)
  rw [StateT.run_pure]
  refine apg (a5a ?_)
  try dsimp only
  refine PF (st:=SortSt.mk' general' (keys.zip its.toArray) #[] 7 none) I hk hv nd h64 ha h0 xV hlk (aRT _) (λi j hij hj=>?_) rfl h
  have hj2:j<(keys.zip its.toArray).size:=hj
  rw [am7] at h2
  lia
 .rw [aM3 h2,aM3 h2]
  rw [am7] at h2
  rw [ksk_kind hk (by rw [lk]; lia)]
  refine apg (a5a ?_)
  refine apg (aRs (WE (ρ:=λp=>ns.idxOf (numOf p.2)) (a₀:=keys.zip its.toArray) (st:=SortSt.mk' oneType' (keys.zip its.toArray) #[] 7 none)
   (Q:=λ_ st1=>(arrOf st1).Perm (keys.zip its.toArray)/\failedOf st1=none/\mL (λp=>ns.idxOf (numOf p.2)) (arrOf st1) (keys.zip its.toArray).size)
   (ksk_intKeys hk) Me ⟨aRT _,rfl,rfl,rfl⟩ Me (by rw [hzs]; lia) (by rw [hzs]; exact h64) λst1 a1 a2 a3=>⟨a1,a2,a3⟩) ?_ λ_ _ e=>e)
  rintro ⟨⟨⟩,st1⟩ s1 ⟨rfl,hp,hf,hs⟩
  try dsimp only
  exact PF I hk hv nd h64 ha h0 xV hlk hp (by rw [hp.size_eq]; exact hs) hf h
theorem XF {l f:Addr} {ns:List Int} {key:Int->Int} {Q:VK} {E:Value->Shared->Prop} (I:Inv X pins σ H s) (hq:aB X.K H l (ns.map V.int)) (h64:ns.length<64) (nd:ns.Nodup)
  (turn:∀ z∈ns,∀ H1 s1 u,az H H1->Inv X pins σ H1 s1->RelV (.int z) u->wpAny (model X.prog X.w) X.A.in1.in1 (call (.ref f) [u]) (EP X pins σ λv H'=>v=.int (key z)/\H'=H1) (λ_ _=>False) s1)
  (q:∀ (D:Addr) (H':Hp) (os:List Int),H D=none->az H H'->H' D=some (.lst (os.map V.int))->os.Perm ns->os.Pairwise (tM key ns)->Q (.ref D) H') :
  wpAny (model X.prog X.w) X.A (call (.builtin "sorted") [.ref l] [(Str.ofString "key",.ref f)]) (EP X pins σ Q) E s:=by
 obtain ⟨its,rv,pl,hz⟩:=I.list hq
 have hv:=Kc rv
 have lv:its.length=ns.length:=by have:=rv.length; rw [aK1] at this; exact this.symm
 refine call_function_entry_kw kind_sorted plain_sorted entry_sorted (ksk_s1 _ _) ?_
 unfold Builtin.«sorted»
 refine apg (m:=checkCount "sorted" 1 1 _) (a5a ?_)
 refine apg (collect_list pl.isList ?_ (by rw [aLq]; lia))
 refine apg (a4X ?_ (by rw [aLq]; lia))
 have hsz:((s.heap.push (seqObj "list" #[] 0)).update s.heap.objs.size (Obj.mapSeq (·++its.toArray))).objs.size=s.heap.objs.size+1:=by
  rw [Heap.size_update,size_push']
 have kY:(((s.heap.push (seqObj "list" #[] 0)).update s.heap.objs.size (Obj.mapSeq (·++its.toArray))).push (seqObj "list" its.toArray 0)).get? (s.heap.objs.size+1)=some (seqObj "list" its.toArray 0):=by
  rw [← hsz]
  exact aYI _ rfl
 have keep:∀ b o,s.heap.get? b=some o->(((s.heap.push (seqObj "list" #[] 0)).update s.heap.objs.size (Obj.mapSeq (·++its.toArray))).push (seqObj "list" its.toArray 0)).get? b=some o:=λb o e=>by
  have lt:b<s.heap.objs.size:=a2R e
  rw [a2q _ _ _ (by rw [hsz]; exact ayF (aW2 lt)),Heap.get?_update_ne _ _ _ _ (ayF lt),a2q _ _ _ (ayF lt)]
  exact e
 show wpAny _ _ _ _ _ { s with heap:=((s.heap.push (seqObj "list" #[] 0)).update s.heap.objs.size (Obj.mapSeq (·++its.toArray))).push (seqObj "list" its.toArray 0) }
 rw [hsz]
 have hsz1:(((s.heap.push (seqObj "list" #[] 0)).update s.heap.objs.size (Obj.mapSeq (·++its.toArray))).push (seqObj "list" its.toArray 0)).objs.size=s.heap.objs.size+2:=by rw [size_push',hsz]
 generalize ((s.heap.push (seqObj "list" #[] 0)).update s.heap.objs.size (Obj.mapSeq (·++its.toArray))).push (seqObj "list" its.toArray 0)=h1 at *
 refine apg (a9s (wpAny_call_entry_kw slot_list_sort ⟨_,kY,rfl⟩ entry_list_sort ?body (ksk_l1 _ _)))
 case body =>
  show wpAny (model X.prog X.w) X.A.in1.in1 (Builtin.«list.sort» ⟨[.ref (s.heap.objs.size+1)],[(Str.ofString "key",.ref f)]⟩) _ _ _
  rw [ksk_t1]
  unfold ksk_tree
  refine apg (listItems_at kY rfl ?_)
  refine apg (adT kY rfl ?_ (by rw [am7,aLq]; lia) (aUM _))
  obtain ⟨e1,Mp⟩:∃ e1,(h1.update (s.heap.objs.size+1) (Obj.mapSeq λ_=>(#[]:Array Value))).get? (s.heap.objs.size+1)=some (seqObj "list" #[] e1):=⟨_,get?_update_seq kY λ_=>#[]⟩
  have Aa:∀ b o,s.heap.get? b=some o->(h1.update (s.heap.objs.size+1) (Obj.mapSeq λ_=>(#[]:Array Value))).get? b=some o:=λb o e=>by
   have lt:b<s.heap.objs.size:=a2R e
   rw [Heap.get?_update_ne _ _ _ _ (ayF (aW2 lt))]
   exact keep b o e
  generalize h1.update (s.heap.objs.size+1) (Obj.mapSeq λ_=>(#[]:Array Value))=h2 at *
  refine apg (seqEpoch_at Mp rfl ?_)
  refine apg (wpAny_newTuple ?_ (by show its.length<=_; rw [aLq]; lia))
  refine apg (a4X ?_ (aUM _))
  refine a9s ?_
  have fr:H (s.heap.objs.size+1)=none:=I.hok.fresh (Nat.le_succ _)
  have h0:∀ o' u,X.H₀ (s.heap.objs.size+1)≠some (.cW o' u):=λo' u e=>by rw [I.base.i7 _ _ _ e] at fr; cases fr
  have ho2:(h2.push (seqObj "tuple" its.toArray 0)).get? (s.heap.objs.size+1)=some (seqObj "list" #[] e1):=aXX _ Mp
  have I3:=I.laid (a:=s.heap.objs.size+1) (t':=s.toks) (o:=.cW (seqObj "list" #[] e1) (.lst [])) (h':=h2.push (seqObj "tuple" its.toArray 0)) (λb o e=>aXX _ (Aa b o e)) (Nat.le_succ _) ⟨ho2,aUM _,[],e1,.nil,ho2⟩
  have xZ:=I3.hok.fresh (aEt _)
  have I4:=I3.laid (t':=s.toks) (o:=.lst []) (h':=(h2.push (seqObj "tuple" its.toArray 0)).push (seqObj "list" #[] 0)) (λb o e=>aXX _ e) (aEt _) ⟨aUM _,[],0,.nil,aYI _ rfl⟩
  have CJ:s.heap.objs.size+1≠(h2.push (seqObj "tuple" its.toArray 0)).objs.size:=Ze Za xZ
  have sm:az H (upd (upd H (s.heap.objs.size+1) (.cW (seqObj "list" #[] e1) (.lst []))) (h2.push (seqObj "tuple" its.toArray 0)).objs.size (.lst [])):=(Zd fr _).trans (Zd xZ _)
  have ML:H (h2.push (seqObj "tuple" its.toArray 0)).objs.size=none:=(Zd fr _).free xZ
  have G0:upd (upd H (s.heap.objs.size+1) (.cW (seqObj "list" #[] e1) (.lst []))) (h2.push (seqObj "tuple" its.toArray 0)).objs.size (.lst []) (h2.push (seqObj "tuple" its.toArray 0)).objs.size=some (.lst []):=Za
  have ha0:upd (upd H (s.heap.objs.size+1) (.cW (seqObj "list" #[] e1) (.lst []))) (h2.push (seqObj "tuple" its.toArray 0)).objs.size (.lst []) (s.heap.objs.size+1)=some (.cW (seqObj "list" #[] e1) (.lst [])):=by rw [Zc CJ]; exact Za
  generalize upd (upd H (s.heap.objs.size+1) (.cW (seqObj "list" #[] e1) (.lst []))) (h2.push (seqObj "tuple" its.toArray 0)).objs.size (.lst [])=H4 at *
  show wpAny (model X.prog X.w) X.A.in1.in1 (ksk_rest (s.heap.objs.size+1) (.ref f) false its.toArray e1 (.ref (h2.push (seqObj "tuple" its.toArray 0)).objs.size)) _ _ { s with heap:=(h2.push (seqObj "tuple" its.toArray 0)).push (seqObj "list" #[] 0) }
  generalize (h2.push (seqObj "tuple" its.toArray 0)).objs.size=kS at *
  generalize (h2.push (seqObj "tuple" its.toArray 0)).push (seqObj "list" #[] 0)=h4 at *
  unfold ksk_rest
  refine apg (aPe ?_)
  rw [List.forIn_toArray]
  refine apg (ksk_fold (λi s1=>∃ H1:Hp,Inv X pins σ H1 s1/\az H H1/\H1 (s.heap.objs.size+1)=some (.cW (seqObj "list" #[] e1) (.lst []))/\H1 kS=some (.lst (((ns.take i).map key).map V.int))) its 0 _
   ⟨H4,I4,sm,ha0,G0⟩ ?step ?done)
  case step =>
   rintro j x s1 hx ⟨H1,I1,s1',a1,k1⟩
   simp only [asM] at k1 ⊢
   obtain ⟨z,t,hz',rfl⟩:=Jo hv hx
   have hj:j<ns.length:=(a2U.mp hz').1
   refine apg (wpAny_attempt (aRs (turn z (aBD hz') H1 s1 _ s1' I1 ⟨t,rfl⟩) (λv s2 he=>?_) λ_ _ hF=>hF.elim))
   obtain ⟨v',H',I2,r2,rfl,rfl⟩:=he
   try dsimp only
   obtain ⟨_,qB,n,rK,Ms,eK⟩:=I2.mW k1
   have lK:qB.length<=ns.length:=by
    have:=rK.length
    rw [aK1,aK1,aIq] at this
    lia
   refine apg (adT eK rfl ?_ (by rw [am7,aLq]; lia) (by rw [Array.size_push,am7,aLq]; lia))
   have ek:ns.take (j+1)=ns.take j++[z]:=by rw [take_succ,hz']; rfl
   have I5:=I2.qw (t':=s2.toks) (f:=(·.push v)) (its':=qB++[v]) (ys:=((ns.take (j+1)).map key).map V.int) k1 eK (by simp) (by rw [ek,aIV,aIV]; exact rK.append (.cons r2 .nil)) (by rw [aK1,aK1,aIq,aLq]; lia)
   refine a5a ⟨rfl,_,I5,λb o y=>?_,?_,Za⟩
   .rw [Zc (Ze y ML)]
    exact s1' _ _ y
   .rw [Zc CJ]
    exact a1
  case done =>
   rintro s1 ⟨H1,I1,s1',a1,k1⟩
   rw [asM,lv,take_length] at k1
   obtain ⟨_,qB,n,rK,Ms,eK⟩:=I1.mW k1
   try dsimp only
   refine apg (listItems_at eK rfl ?_)
   refine WC (ns:=ns) (key:=key) I1 (by simpa using Kc rK) hv nd h64 a1 h0 k1 (by rw [aK1,aK1]; lia) λH' s2 os I2 S6 hD po so=>⟨_,rfl,?_⟩
   refine a5a ⟨_,rfl,.ref (s.heap.objs.size+1),H',I2,rfl,q _ H' os fr (λb o y=>?_) hD po so⟩
   rw [S6 b (Ze y fr) (Ze y ML)]
   exact s1' _ _ y
end
end L2
namespace L2
open PySem PySem.Spec PyProof.Rows
structure ay (P:Program) (w:World) (K:W.Frag) (mg:Str->Option Value) (base:Heap) (C:Addr) (m:Str) (k:Nat) (ps:List Str) (sp:Sp):Prop where
 ex:∃ (f:Addr) (fd:FuncData),av P w K mg base aV k f fd ps sp/\Meth K C m f/\Binds K fd ps []
structure nG (P:Program) (w:World) (K:W.Frag) (mg:Str->Option Value) (base:Heap) (C:Addr) (x:Str) (k:Nat) (ps:List Str) (sp:Sp):Prop where
 ex:∃ (f:Addr) (fd:FuncData),av P w K mg base aV k f fd ps sp/\Mk K C f/\mg x=some (.ref C)/\Binds K fd ps []
section
variable {X:Cx} {x m:Str} {p pos apos:Pos} {e o:PySem.Expr} {es:List PySem.Expr} {ta:TE} {t:TA} {k:Nat} {ps:List Str} {sp:Sp} {C:Addr}
theorem Zk {pl:Sem Bool} (M:ay X.prog X.w X.K X.mg X.base C m k ps sp) (hr:bf k X.A) (c:mO X.K C) (he:PE X o ta) (ha:PA X (e :: es) t) (hn:tL (e :: es):=by repeat' (first | exact True.intro | refine ⟨?_,?_⟩))
  (ht:eval (.Call (.Attribute o m apos) (e :: es) [] pos) X.env=(do
   let ov ← eval o X.env
   standAt apos.atName
   let (f,first) ← holding [ov] (getMethod ov m pl)
   callWith pos f first (backTo pos (starEach (e :: es) X.env)) (backToKw pos (keywordEach [] X.env))):=by rfl) :
  PE X (.Call (.Attribute o m apos) (e :: es) [] pos) (nK C m sp [] E0 ta t):=by
 obtain ⟨f,fd,F,hm,hb⟩:=M.ex
 exact Xm he c hm F hr hb .nil oj ha (rM hn.1) (wF hn.2) ht
theorem Be (M:nG X.prog X.w X.K X.mg X.base C x k ps sp) (hr:bf (k+1) X.A) (hg:Gl X x) (ha:PA X (e :: es) t) (hn:tL (e :: es):=by repeat' (first | exact True.intro | refine ⟨?_,?_⟩)) (hd:(x == ("__debug__" : Str))=false:=by decide) :
  PE X (.Call (.Name x p) (e :: es) [] pos) (tT C sp [] E0 t):=by
 obtain ⟨f,fd,F,M',hm,hb⟩:=M.ex
 exact Xl M' F hr hg hm hb .nil oj ha (hdb:=hd) (he:=rM hn.1) (hpl:=wF hn.2)
def Sv:TS:=λ_ _ _=>False
theorem qg {st:Stmt}:PS X st Sv:=λ_ _ _ _ _ _ h=>False.elim h
end
theorem aY.S8 {P:Program} {w:World} {K:W.Frag} {mg:Str->Option Value} {base:Heap} {x qual:Str} {st:Stmt} {f:Addr} {fd:FuncData} {N ps:List Str} {k:Nat} {sp:Sp} (F:aY K x qual st f fd) (S:ah N ps (Zh st)) (len:∀ vs H Q E,sp vs H Q E->vs.length=ps.length)
  (hbody:∀ (cdv:Value) (A:Around) (outer:List Env) (s:Shared) (H:Hp) (vs:List V) (Q:VK) (E:XK),fd.code=cdv->bf k (A.deeper (envOfC qual (Zh st) s.heap.objs.size f cdv))->sp vs H Q E ->
   ∃ t,pB (lX aV P w K mg base N qual (Zh st) f cdv A outer s H E).vn (ZK st) t/\t { nx:=λ_ H'=>Q .aT H',rt:=Q } (start N vs) H):av P w K mg base aV (k+1) f fd ps sp:=by
 obtain ⟨oc,od,kV,doc,pm,an,cdv,ct,osl,rfl,lk,hcd⟩:=F.ex
 refine uB lk hcd S len λA outer s H vs Q E hr m9=>?_
 obtain ⟨t,h,q⟩:=hbody cdv A outer s H vs Q E rfl hr m9
 exact ⟨t,h.vn,q⟩
theorem Zl {X:Cx} {K:W.Frag} {e:PySem.Expr} {f:Str} {pos:Pos} {ta:TE} (hK:X.K=K) (he:PE X e ta) (hb:attributeBase e f X.env (eval e X.env)=eval e X.env):PE X (.Attribute e f pos) (yO K ta f):=by
 subst hK
 exact WT he hb
def zW (iZ:Scope) (oN:List Str) (scope:Scope) (x:Str) (fr:List Str) (js:List Nat):Bool :=
 scope.kind == .function && !scope.isCoroutine && !scope.isGenerator && scope.names.all (λy=>y.2 != .cell) && scope.names.lookup x == some .local &&
 scope.names.all (λy=>y.2 != .free || (iZ.names.lookup y.1 == some .cell || iZ.names.lookup y.1 == some .free)) && fr.length == js.length &&
 (js.map λj=>oN[j]?) == fr.map some && fr.all λy=>scope.names.lookup y == some .free
theorem XE {X:Cx} {iZ:Scope} {oN:List Str} {scope:Scope} {x:Str} {fr:List Str} {js:List Nat} (h:zW iZ oN scope x fr js=true) (hs:X.env.scope=iZ) (hN:X.N=oN):mD X scope x fr js:=by
 unfold zW at h
 simp only [apN,aXt,Bool.or_eq_true,aTL,bne_iff_ne,ne_eq,aKM] at h
 obtain ⟨⟨⟨⟨⟨⟨⟨⟨h1,h2⟩,h3⟩,h4⟩,h5⟩,h6⟩,h7⟩,h8⟩,h9⟩:=h
 refine ⟨h1,h2,h3,h4,h5,λy hy hf=>?_,h7,λk j e=>?_,λk y e=>h9 y (aBD e)⟩
 .rcases h6 y hy with q | q
  .exact absurd hf q
  .show X.env.scope.names.lookup y.1=_\/X.env.scope.names.lookup y.1=_
   rw [hs]; exact q
 .rw [hN]
  have z:=aok (λl=>l[k]?) h8
  simp only [aBK,e,a7q] at z
  cases q:fr[k]? with
  | none=>rw [q] at z; cases z
  | some y=>rw [q] at z; exact (avM z).symm
theorem VT {A:Around} {k:Nat} {env:Env} (hr:bf k A):(A.in1.in1.deeper env).units+1<cLine:=by
 have:=hr.un
 show A.units+1+1+3+1<cLine
 lia
def Ny (K:W.Frag) (P:Addr) (lO:Pos) (qual:Str) (js:List Nat) (te:TE) (σ:St) (Q:VK) (x:V) (H1:Hp):Prop:=∃ (l:Addr) (ns:List Int) (key:Int->Int),x=.ref l/\aB K H1 l (ns.map V.int)/\ns.length<64/\ns.Nodup/\H1 P=some (.kh lO qual) /\
 (∀ z∈ns,∀ H2,az H1 H2->te (some (.int z) :: js.map λj=>(σ[j]?).join) H2 λv H'=>v=.int (key z)/\H'=H2) /\
 ∀ (D:Addr) (H':Hp) (os:List Int),H1 D=none->az H1 H'->H' D=some (.lst (os.map V.int))->os.Perm ns->os.Pairwise (tM key ns)->Q (.ref D) H'
def VS (K:W.Frag) (P:Addr) (lO:Pos) (qual:Str) (js:List Nat) (Cp te:TE):TE:=λσ H Q=>Cp σ H λx H1=>Ny K P lO qual js te σ Q x H1
section
variable {X:Cx}
theorem XD {K:W.Frag} {P c0:Addr} {k:Nat} {y:Str} {fr:List Str} {js:List Nat} {qual:Str} {params:Arguments} {body xs:PySem.Expr} {scope:Scope} {p pos lO kpos:Pos} {Cp te:TE} (hK:X.K=K) (hr:bf k X.A) (hcl:X.calm=true) (hg:Gl X "sorted") (hm:X.mg "sorted" = none)
  (c:mD X scope y fr js) (hc0:X.env.code=.ref c0) (hcd:W.codeHdIn X.K c0 P=true) (bm:BMod X.base X.mg) (hq:X.env.qual ++ "<lambda>" = qual) (hd0:params.defaults=[]) (hk0:params.kw_defaults=[])
  (hb:∀ cl pm cd ct u,bindArgs (W.kla_fn "<lambda>" qual params body scope cl pm cd ct) ⟨[u],[]⟩=pure [(y,u)]) (ha:PE X xs Cp)
  (he:∀ f cd cl s H,PE (iR X X.A.in1.in1 (y :: fr) qual scope f cd cl s H) body te) (hn:tL [xs]:=by repeat' (first | exact True.intro | refine ⟨?_,?_⟩)) :
  PE X (.Call (.Name "sorted" p) [xs] [⟨some "key",.Lambda params body scope lO,kpos⟩] pos) (VS K P lO qual js Cp te):=by
 subst hK
 subst hq
 intro pins s σ H Q I h
 refine aJJ (pQ I hg hm boot_sorted ?_ (by decide) (by decide))
 refine callWith_kw (mR ((pc ha Zb hn.1) pos pins s σ H (λvs H1=>match vs with | [x]=>Ny X.K P lO (X.env.qual ++ "<lambda>") js te σ Q x H1 | _=>False) I h) λus s1 vs H1 I1 r1 q1=>?_) (by rw [rM hn.1]; rfl) (by rw [rM hn.1]; rfl) rfl rfl
 match vs,r1,q1 with
 | [],_,z=>exact z.elim
 | _ :: _ :: _,_,z=>exact z.elim
 | [x],r1,q1 =>
  obtain ⟨l,ns,key,rfl,hS,h64,nd,hP,ht,q⟩:=q1
  obtain ⟨u,rfl,ru⟩:=vals1 r1
  cases ru
  show wpAny _ _ (evalAll [(do let v ← eval (.Lambda params body scope lO) X.env; standAt pos; pure v)]) _ _ s1
  refine wpAny_evalAll_cons (apg (XH c I1 hc0 hcd bm hP hd0 hk0 λf cl cd pm ct of H2 s2 I2 sm i8 kZ hf hof hcode=>apg (wpAny_standAt (a5a (wpAny_evalAll_nil ?_)))))
  show wpAny _ _ (call (.builtin "sorted") [.ref l] [(Str.ofString "key",.ref f)]) _ _ s2
  refine XF I2 (sm.seq hS) h64 nd (λz hz H3 s3 u Fv I3 ru=>?_) λD H' os hD Sz hl po so=>q D H' os (sm.free hD) (sm.trans Sz) hl po so
  have Tc:=(I3.hok f _ (Fv _ _ hf)).1
  obtain ⟨c',oc,vs',t',rfl,hc',hd',hv'⟩:=hcode
  have Tj:=(I3.hok c' _ (Fv _ _ hc')).1
  exact XI (A:=X.A.in1.in1) c I3 I3.ok.frames (I3.ok.hd hcl) hr.depth i8 kZ Tc hof ⟨c',oc,vs',t',rfl,Tj,hd',hv'⟩ (hb cl pm _ ct) ru (λs=>he f _ cl s H3) (ht z hz H3 (sm.trans Fv))
end
theorem YY {P:Program} {w:World} {K:W.Frag} {mg mb:Str->Option Value} {CX:rQ} {k:Nat} {fa a tp c0:Addr} {pos:Pos} {qual:Str} {fd:FuncData} {x:Str} {sp:Sp} {s₁:Shared} {vs:List Value} {ns:List Int}
  (KX:K.In s₁.heap) (hns:s₁.heap.Ns mainGlobals mg) (hb:s₁.heap.Ns builtinsNs mb) (UM:∀ x:Str,x ≠ "__name__" -> mb x=bootBuiltins x) (hlim:s₁.heap.NoLimit) (hg:s₁.gens=#[])
  (ha:s₁.heap.get? a=some { cls:=.type "list",data:=.seq vs.toArray }) (hi:IntsAre vs ns) (hl:ns.length<=sizeLine) (hr:bf k callerA)
  (htp:s₁.heap.get? tp=some { cls:=.none,data:=.fields #[] }) (hch:W.codeHdIn K c0 tp=true) (UR:K.lookup tp=none)
  (hbm:BMod s₁.heap mg) (F:∀ base:Heap,K.In base->base.Ns mainGlobals mg->BMod base mg->av P w K mg base CX k fa fd [x] sp) (hbind:∀ (s:Shared) (u:Value),BindsTo s fd ⟨[u],[]⟩ [(x,u)])
  (m9:∀ H:Hp,H tp=some (.kh pos qual)->aB K H a (ns.map V.int)->sp [.ref a] H (λv _=>v=.bl true) λ_ _ _=>False)
  (Ho:∀ H e s',CX [] H s₁ (λ_ _ _=>False) e s'->False) :
  codeAny (model P w) callerA (.call (.ref fa) ⟨[.ref a],[]⟩) (λr s'=>r=.ok (.ret (.bool true))/\OldK s₁.heap s'.heap/\s'.os=s₁.os/\AllBare s'.gens) s₁:=by
 have rv:=Ec hi
 have Gj:=hi.length
 have nat:a≠tp:=λz=>by rw [z,htp] at ha; cases ha
 have core:∀ H:Hp,H tp=some (.kh pos qual)->aB K H a (ns.map V.int)->fz P w H s₁.heap->(∀ b,H b≠none->b=tp\/(b=a/\∃ o xs,H b=some (.cW o (.lst xs))))->(H a≠none->K.lookup a=none) ->
   codeAny (model P w) callerA (.call (.ref fa) ⟨[.ref a],[]⟩) (λr s'=>r=.ok (.ret (.bool true))/\OldK s₁.heap s'.heap/\s'.os=s₁.os/\AllBare s'.gens) s₁:=by
  intro H hT hS hok hA hK
  have TJ:∀ {b:Addr} {o:Obj} {es:Array DictEntry} {ep:Nat},s₁.heap.get? b=some o->o.data=.dict es ep->H b=none:=λ{b o es ep} e d=>by
   cases q:H b with
   | none=>rfl
   | some u =>
    rcases hA b (by rw [q]; simp) with z | ⟨z,_⟩
    .rw [z,htp] at e
     cases e
     cases d
    .rw [z,ha] at e
     cases e
     cases d
  have CF:∀ {b:Addr} {m:Str->Option Value},s₁.heap.Ns b m->(kN s₁.heap H).Ns b m:=λ{b m} ⟨o,es,ep,e,d,r⟩=>⟨o,es,ep,Jt e (TJ e d),d,r⟩
  have MB:K.In (kN s₁.heap H):=λb o e=>Jt (KX b o e) (by
   cases q:H b with
   | none=>rfl
   | some u =>
    rcases hA b (by rw [q]; simp) with z | ⟨z,_⟩
    .rw [z,UR] at e
     cases e
    .have n:H a≠none:=by rw [← z,q]; simp
     rw [z,hK n] at e
     cases e)
  have hM:Mod K mg (kN s₁.heap H):=⟨MB,CF hns,⟨mb,CF hb,UM⟩,let ⟨mc,h1,h2⟩:=hlim; ⟨mc,CF h1,h2⟩⟩
  have e0:nI P w K mg (kN s₁.heap H) callerA [] s₁ H:=⟨rfl,hM,λb o e=>Xw e,Nat.le_of_eq (Z6 _ _),trivial,λb hb=>absurd (show b∈([]:List Addr) from hb) (by simp),hok,.of_eq hg⟩
  have hB:BMod (kN s₁.heap H) mg:=by
   obtain ⟨b,o,a1,a2,a3,a4,a5,a6,a7⟩:=hbm
   refine ⟨b,o,a1,a2,a3,Jt a4 ?_,a5,a6,a7⟩
   cases q:H b with
   | none=>rfl
   | some u =>
    rcases hA b (by rw [q]; simp) with z | ⟨z,_⟩
    .rw [z,htp] at a4
     cases a4
     cases a5
    .rw [z,ha] at a4
     cases a4
     have a8:Value.type "list" = Value.type "module" := a5
     injection a8 with a8
     exact absurd a8 (by decide)
  refine codeAny_mono ((F _ MB (CF hns) hB).run callerA [] s₁ H ⟨[.ref a],[]⟩ [.ref a] [.ref a] _ _ hr e0 (hbind s₁ (.ref a)) (.cons rfl .nil) (m9 H hT hS)) λr s' h=>?_
  cases r with
  | error e=>exact (Ho H e s' h).elim
  | ok fl =>
   cases fl with
   | next=>exact False.elim h
   | brk=>exact False.elim h
   | cont=>exact False.elim h
   | ret u =>
    obtain ⟨v,H',os,bare,un,An,r',q⟩:=h
    have q':v=.bl true:=q
    subst q'
    obtain rfl:u=Value.bool true:=r'
    have tab:=(W.codeHd_of_K KX hch).tab htp
    have t2:=An tp _ (un.ji _ _ _ hT)
    obtain ⟨ps,hps,_⟩:=t2
    have old:∀ b o,s₁.heap.get? b=some o->b≠tp->s'.heap.get? b=some o:=λb o e nb=>by
     cases q:H b with
     | none=>exact un.keep b o e q (by intro z; exact absurd (show b∈([]:List Addr) from z) (by simp)) (by simp)
     | some u =>
      rcases hA b (by rw [q]; simp) with z | ⟨_,ob,xs,z⟩
      .exact absurd z nb
      .have z2:=un.i7 b ob _ z
       obtain ⟨e1,_⟩:=hok b _ z
       obtain ⟨e2,_⟩:=An b _ z2
       rw [e] at e1
       cases e1
       exact e2
    refine ⟨rfl,⟨λb o e=>?_,λb o e=>?_⟩,os,bare⟩
    .by_cases nb:b=tp
     .subst nb
      rw [htp] at e
      cases e
      exact .inr (.inl ⟨tab.isCodeTable,rfl,#[],ps,rfl,by rw [hps]; simp⟩)
     .exact .inl (old b o e nb)
    .by_cases nb:b=tp
     .subst nb
      exact ⟨_,hps⟩
     .exact ⟨o,old b o e nb⟩
 have tb:∀ H:Hp,aJ P w H s₁.heap tp (.kh pos qual):=λH=>⟨#[],htp,True.intro,λcv e=>by cases e⟩
 cases hk:K.lookup a with
 | some o =>
  have e:=KX a o hk
  rw [ha] at e
  cases e
  refine core (λb=>if b=tp then some (.kh pos qual) else none) (abw rfl) (.inr ⟨_,vs.toArray,_,hk,rfl,rfl,rfl,by rw [am7,Gj]; exact hl,by simpa using rv⟩) (λb u z=>?_) (λb z=>?_) λz=>absurd (aM3 nat) z
  .by_cases hb:b=tp
   .have z':=(abw hb).symm.trans z
    cases z'
    subst hb
    exact tb _
   .have z':=(aM3 hb).symm.trans z
    cases z'
  .by_cases hb:b=tp
   .exact .inl hb
   .exact absurd (aM3 hb) z
 | none =>
  refine core (λb=>if b=tp then some (.kh pos qual) else if b=a then some (.cW { cls:=.type "list",data:=.seq vs.toArray } (.lst (ns.map V.int))) else none) (abw rfl) (.inl (.inr ⟨{ cls:=.type "list",data:=.seq vs.toArray },(aM3 nat).trans (abw rfl)⟩)) (λb u z=>?_) (λb z=>?_) λ_=>hk
  .by_cases hb:b=tp
   .have z':=(abw hb).symm.trans z
    cases z'
    subst hb
    exact tb _
   .have z':=(aM3 hb).symm.trans z
    by_cases hb2:b=a
    .have z2:=(abw hb2).symm.trans z'
     cases z2
     subst hb2
     exact ⟨ha,by rw [aK1]; exact hl,vs,_,rv,ha⟩
    .have z2:=(aM3 hb2).symm.trans z'
     cases z2
  .by_cases hb:b=tp
   .exact .inl hb
   .by_cases hb2:b=a
    .exact .inr ⟨hb2,_,_,(aM3 hb).trans (abw hb2)⟩
    .exact absurd (by show (if b=tp then _ else if b=a then _ else none)=none; rw [aM3 hb,aM3 hb2]) z
theorem XC {l:W.OpenLaw} {n k:Nat} {q:Program} {loose:List Str} {XP:(Str->Option Value)->Heap->Prop} {YP:World->Heap->Prop} {d:DefRec} {K:Params->W.Frag} {CX:World->rQ} {sp:World->Sp} {x:Str} {tp:Addr} {pos:Pos} {qual:Str} {G:World->Prop}
  (hn:l.most=some n) (hn2:n<=sizeLine) (hdf:d.params.defaults=[]) (hr:bf k callerA)
  (hY:∀ (w:World) (h:Heap),YP w h->(K w.params).In h/\h.get? tp=some { cls:=.none,data:=.fields #[] })
  (F:∀ (w:World) (mg:Str->Option Value) (fa:Addr) (h:Heap),(K w.params).In h->h.Ns mainGlobals mg->mg d.name=some (.ref fa) ->
   G w/\(∃ c0,W.codeHdIn (K w.params) c0 tp=true)/\(K w.params).lookup tp=none/\∃ fd:FuncData,(∀ (s:Shared) (u:Value),BindsTo s fd ⟨[u],[]⟩ [(x,u)]) /\
    ∀ base:Heap,(K w.params).In base->base.Ns mainGlobals mg->BMod base mg->av l.prog w (K w.params) mg base (CX w) k fa fd [x] (sp w))
  (m9:∀ (w:World) (H:Hp) (a:Addr) (ns:List Int),G w->ns.length<=n->H tp=some (.kh pos qual)->aB (K w.params) H a (ns.map V.int)->sp w [.ref a] H (λv _=>v=.bl true) λ_ _ _=>False)
  (Ho:∀ (w:World) (H:Hp) (s:Shared) (e:Value) (s':Shared),CX w [] H s (λ_ _ _=>False) e s'->False) :
  W.WalkO q loose XP YP l.row.toRowW d [] (λf vs=>PySem.call f vs):=by
 refine Q3.lZ hn hdf λw s₀ s₁ mg mb fa o pm cd doc a vs ns G' Y ho hd hcd hmg hobj hints hlen hg=>?_
 obtain ⟨KX,htp⟩:=hY w _ Y
 obtain ⟨g,⟨c0,hc⟩,hk,fd,hb,hF⟩:=F w mg fa _ KX G'.T.g hmg
 have hbm:BMod s₁.heap mg:=by
  obtain ⟨bm,ob,b1,b2,b3,b4,b5,b6⟩:=G'.T.bmain
  refine ⟨bm,ob,b1,b2,λz=>?_,b3,b4,b5,b6⟩
  obtain ⟨o,es,ep,e,hd',_⟩:=G'.T.g
  rw [z,e] at b3
  cases b3
  rw [hd'] at b6
  cases b6
 exact YY KX G'.T.g G'.T.b G'.T.builtins G'.T.nolimit hg hobj hints (a28 hlen hn2) hr htp hc hk hbm hF hb (λH hT hS=>m9 w H a ns g hlen hT hS) λH e s'=>Ho w H s₁ e s'
def aa (K:W.Frag) (x:Str):Addr:=match W.nsIn K mainGlobals x with
 | some (some (.ref C))=>C
 | _=>0
def tabOf (K:W.Frag) (x m:Str):Addr:=match W.findIn K (.ref (aa K x)) m with
 | some (some (.ref f))=>(match K.lookup f with
  | some ⟨_,_,.func fd,_⟩=>(match fd.code with
   | .ref c=>(match K.lookup c with
    | some ⟨_,_,.fields vs,_⟩=>(match (vs[11]?:Option Value) with
     | some (.ref P)=>P
     | _=>0)
    | _=>0)
   | _=>0)
  | _=>0)
 | _=>0
theorem Bm {K:W.Frag} {x:Str} {C:Addr} (h:W.nsIn K mainGlobals x=some (some (.ref C))):aa K x=C:=by
 unfold aa
 rw [h]
theorem XA {K:W.Frag} {x m:Str} {f c P:Addr} {oc:Value} {od:Option Addr} {fd:FuncData} {sl:Array (Option Value)} (h1:W.findIn K (.ref (aa K x)) m=some (some (.ref f))) (h2:K.lookup f=some ⟨oc,od,.func fd,sl⟩) (h3:fd.code=.ref c)
  (h4:W.codeHdIn K c P=true):tabOf K x m=P:=by
 unfold W.codeHdIn at h4
 split at h4
 .rename_i vs _ hk
  simp only [apN] at h4
  obtain ⟨⟨⟨⟨⟨e1,_⟩,_⟩,_⟩,_⟩,_⟩:=h4
  split at e1
  .rename_i P' h11
   have hP:P'=P:=aTL.mp e1
   subst hP
   unfold tabOf
   simp only [h1,h2,h3,hk,h11]
  .cases e1
 .cases h4
end L2
namespace L2
open PySem PySem.F PyProof.Rows PySem.MeetsSeq
variable {K:W.Frag} {X:Cx} {pins:List Pin} {σ:St} {H:Hp} {s:Shared}
theorem uM {e:PySem.Expr} {T:String} {r:V->List V->Hp->VK->Prop} {to:TE} {t:TA} (hK:X.K=K) (h:PE X e (Fo X.K T r to t)):PE X e (Fo K T r to t):=by
 subst hK; exact h
end L2
namespace L2
open PySem PySem.Calls PyProof.Rows PySem.MeetsSeq PySem.W
variable {K:W.Frag} {X:Cx} {pins:List Pin} {σ:St} {H:Hp} {s:Shared}
def Xz:List V->Hp->VK->Prop:=λxs H Q=>∃ (d:Addr) (kvs:List (Key×V)) (ns:List Int),xs=[.ref d]/\H d=some (.dK kvs)/\kvs.map Prod.fst=ns.map Sum.inl/\ns.length<64 /\
 ∀ (D:Addr) (os:List Int),H D=none->os.Perm ns->os.Pairwise (·<=·)->Q (.ref D) (upd H D (.lst (os.map V.int)))
theorem OC:∀ {xs:List V} {us:List Value},xs.length=us.length->(∀ (i:Nat) x u,xs[i]?=some x->us[i]?=some u->RelV x u)->Vals xs us
 | [],[],_,_=>.nil
 | [],_ :: _,h,_=>nomatch h
 | _ :: _,[],h,_=>nomatch h
 | x :: xs,u :: us,h,k=>.cons (k 0 x u rfl rfl) (OC (by simpa using h) λi x' u' h1 h2=>k (i+1) x' u' (by simpa using h1) (by simpa using h2))
theorem Nx:∀ {kvs:List (Key×V)} {vs:List (Key×Value)},KV kvs vs->∀ {i:Nat} {p:Key×V} {q:Key×Value},kvs[i]?=some p->vs[i]?=some q->p.1=q.1
 | _,_,.nil,_,_,_,h,_=>nomatch h
 | _,_,.cons r t,0,_,_,h1,h2=>by cases h1; cases h2; exact r.1
 | _,_,.cons r t,i+1,_,_,h1,h2=>Nx (i:=i) t (by simpa using h1) (by simpa using h2)
theorem Qo {P:Program} {w:World} {kvs:List (Key×V)} {vs:List (Key×Value)} {ns:List Int} {acc:Array Value} (r:KV kvs vs) (e:kvs.map Prod.fst=ns.map Sum.inl) (h:ItemsOf (λi v=>∃ k x,vs[i]?=some (k,x)/\(ZD P w).is k v=true) acc vs.length):IntsAre acc.toList ns:=by
 have lv:kvs.length=vs.length:=bbS r
 have ln:kvs.length=ns.length:=by have:=aok List.length e; simpa using this
 refine Kc (OC (by have l3:acc.toList.length=acc.size:=aYJ; have l4:=h.1; rw [aK1]; lia) λi x u hx hu=>?_)
 rw [abk] at hu
 obtain ⟨k,y,h1,h2⟩:=h.2 i u hu
 have hi:i<kvs.length:=by rw [lv]; exact (a2U.mp h1).1
 have e1:=Nx r (af3 hi) h1
 have e2:(kvs.map Prod.fst)[i]?=some k:=by rw [aBK,af3 hi]; exact aok some e1
 rw [e,aBK] at e2
 rw [aBK] at hx
 cases g:ns[i]? with
 | none=>rw [g] at hx; cases hx
 | some z =>
  rw [g] at hx e2
  cases hx; cases e2
  exact OX h2
theorem QB (hc:X.calm=true):bH X (.builtin "sorted") Xz:=by
 intro pins s σ H xs us Q I r h
 obtain ⟨d,kvs,ns,rfl,hd,hk,h64,q⟩:=h
 obtain ⟨u,rfl,rx⟩:=vals1 r
 cases rx
 obtain ⟨hz,hs,vs,rv,hD⟩:=I.hok d _ hd
 obtain ⟨ep,hat⟩:=hD.dictAt
 have hl:vs.length=ns.length:=by have l1:kvs.length=vs.length:=bbS rv; have l2:=aok List.length hk; simp at l2; lia
 refine call_function_entry kind_sorted plain_sorted entry_sorted (args_sorted1 _) ?_
 unfold Builtin.«sorted»
 refine apg (m:=checkCount "sorted" 1 1 _) (a5a ?_)
 refine apg (kdu_collect (A:=X.A.in1) (kdl_dict (knd:=ZD X.prog X.w) (kvs:=vs) (ep:=ep) hs) (show X.A.in1.handled=none from I.ok.hd hc) hat (by rw [aLq]; lia) λh' tk acc hk' hacc=>?_)
 have hI:=Qo rv hk hacc
 have la:acc.toList.length=ns.length:=by rw [aYJ,hacc.1,hl]
 refine apg (a4X ?_ (by rw [la,aLq]; lia))
 have kY:(h'.push (seqObj "list" acc.toList.toArray 0)).get? h'.objs.size=some (seqObj "list" acc.toList.toArray 0):=aYI _ rfl
 have I1:=I.kept (t':=tk) hk'
 show wpAny _ _ _ _ _ { s with heap:=h'.push (seqObj "list" acc.toList.toArray 0),toks:=tk }
 refine apg (a9s (baF slot_list_sort ⟨_,kY,rfl⟩ entry_list_sort (list_sort_tree kY hI (by lia) λout ns' a1 a2 a3=>⟨_,rfl,?_⟩) (args_list_sort _)))
 refine a5a ⟨_,rfl,?_⟩
 obtain ⟨e,he⟩:=sortedHeap_at (out:=out) kY
 have fr:H h'.objs.size=none:=I1.hok.fresh (aEt _)
 have lo:=a2.length_eq
 refine ⟨.ref h'.objs.size,_,I1.laid (a:=h'.objs.size) (t':=tk) (o:=.lst (ns'.map V.int)) (λb o z=>?_) (aEt _) ⟨by rw [aK1,lo,aLq]; lia,out.toList,e,Ec a1,he⟩,rfl,q _ ns' fr a2 a3⟩
 have z':h'.get? b=some o:=z
 have lt:=a2R z'
 rw [sortedHeap_old (ayF lt) (by rw [size_push']; exact aW2 lt),a2q _ _ _ (ayF lt)]
 exact z'
theorem Br {C:Addr} {m:Str} {k:Nat} {ps:List Str} {sp:Sp} {o:PySem.Expr} {ta:TE} {apos pos:Pos} {pl:Sem Bool} (M:ay X.prog X.w X.K X.mg X.base C m k ps sp) (hr:bf k X.A) (c:mO X.K C) (he:PE X o ta)
  (ht:eval (.Call (.Attribute o m apos) [] [] pos) X.env=(do
   let ov ← eval o X.env
   standAt apos.atName
   let (f,first) ← holding [ov] (getMethod ov m pl)
   callWith pos f first (backTo pos (starEach [] X.env)) (backToKw pos (keywordEach [] X.env))):=by rfl) :
  PE X (.Call (.Attribute o m apos) [] [] pos) (nK C m sp [] E0 ta uX):=by
 obtain ⟨f,fd,F,hm,hb⟩:=M
 exact XX he c hm F hr hb .nil (λ_ _ _ _ _ _ _ z=>z.elim) ht
end L2
namespace L2
open PySem PySem.Calls PySem.Spec PyProof.Rows PySem.W
structure BZ (K:W.Frag) (C:Addr) (m:Str) (f:Addr):Prop where
 ga:W.specialIn K (.ref C) "__getattribute__" = some (some (.builtin "type.__getattribute__"))
 rd:∃ mc,W.readsIn K C mc=true/\W.findCls K (.ref C) mc m=some (.val (.ref f))
 kp:W.keepIn K (.ref f)=true
structure wR (P:Program) (w:World) (K:W.Frag) (mg:Str->Option Value) (base:Heap) (x m:Str) (k:Nat) (ps:List Str) (sp:Sp):Prop where
 ex:∃ (C f:Addr) (fd:FuncData),av P w K mg base aV k f fd ps sp/\BZ K C m f/\mg x=some (.ref C)/\Binds K fd ps []
section
variable {X:Cx} {x m:Str} {p pos apos:Pos} {e o:PySem.Expr} {es:List PySem.Expr} {ta:TE} {t:TA} {k:Nat} {ps:List Str} {sp:Sp} {C:Addr}
theorem WB {pl:Sem Bool} (M:wR X.prog X.w X.K X.mg X.base x m k ps sp) (hr:bf k X.A) (hg:Gl X x) (ha:PA X (e :: es) t) (hn:tL (e :: es):=by repeat' (first | exact True.intro | refine ⟨?_,?_⟩)) (hd:(x == ("__debug__" : Str))=false:=by decide)
  (ht:eval (.Call (.Attribute (.Name x p) m apos) (e :: es) [] pos) X.env=(do
   let ov ← eval (.Name x p) X.env
   standAt apos.atName
   let (f,first) ← holding [ov] (getMethod ov m pl)
   callWith pos f first (backTo pos (starEach (e :: es) X.env)) (backToKw pos (keywordEach [] X.env))):=by rfl) :
  PE X (.Call (.Attribute (.Name x p) m apos) (e :: es) [] pos) (nL sp [] E0 t):=by
 obtain ⟨C,f,fd,F,c,hm,hb⟩:=M.ex
 obtain ⟨mc,hr1,hr2⟩:=c.rd
 intro pins s σ H Q I h
 have he:PE X (.Name x p) (tC (.ref C)):=Xv (v:=.ref C) hg hm rfl hd
 refine W.methodCall_KW (pl:=pl) (bY (he pins s σ H (λv H1=>v=.ref C/\H1=H) I ⟨rfl,rfl⟩) λu s1 ⟨x,H1,I1,rx,e1,e2⟩=>?_) ht
 subst e1 e2
 obtain rfl:u=Value.ref C:=rx
 have I2:Inv X pins σ H1 { s1 with toks:=s1.toks+1 }:=I1.kept (t':=s1.toks+1) λb o e=>e
 refine W.method_cls I1.d8 c.ga (W.cls_value I1.d8 hr1 hr2 rfl ?_)
 refine W.callWith_K (first:=[]) (h₀:=X.base) I.ok.mod.xO c.kp (mR (ha pos pins _ σ H1 _ I2 h) λus s2 vs H2 I3 r q2=>⟨I3.d8,?_⟩) (rM hn.1) (wF hn.2)
 exact Dk (us:=us) (vs:=vs) F hr hb .nil oj I3 r q2
end
theorem bf.m {j k:Nat} {A:Around} (r:bf k A) (h:j<=k:=by first | decide | lia):bf j A:=r.mono h
section
variable {X:Cx} {pos:Pos}
theorem bZ (i:Nat) {x:Str} (hN:X.N.Nodup) (hi:X.N[i]?=some x:=by rfl) (hx:Loc X.env.scope x:=by first | exact Or.inl rfl | exact Or.inr rfl) (hf:X.fn x=true\/X.env.scope.names.lookup x=some .local:=by first | exact .inl rfl | exact .inr rfl | assumption):PG X (.Name x pos) (fQ i):=Xu hN hi hx hf
theorem cI (i:Nat) {x:Str} {e:PySem.Expr} {te:TE} {pos':Pos} (hN:X.N.Nodup) (he:PE X e te) (hi:X.N[i]?=some x:=by rfl) (hx:Loc X.env.scope x:=by first | exact Or.inl rfl | exact Or.inr rfl) (hs:swapsWith e (some (.Name x pos')) pos.line X.env=pure false:=by rfl) (hf:X.fn x=true\/X.env.scope.names.lookup x=some .local:=by first | exact .inl rfl | exact .inr rfl | assumption):PS X (.Assign [.Name x pos'] e pos) (oV te (fQ i)):=WW hN hi hx he hs hf
end
end L2
namespace L2
open PySem PySem.F PyProof.Rows
variable {K:W.Frag} {X:Cx} {pins:List (Addr×Obj)} {σ:St} {H H':Hp} {s:Shared}
end L2
namespace L2
open PySem PySem.F PyProof.Rows PySem.MeetsSeq
variable {K:W.Frag} {X:Cx}
end L2
namespace L2.aH
open PySem PySem.Spec PyProof.Rows
structure RR where
 r:Keyed->Nat
 g:Keyed->Int
def Kg (ρ:RR) (xs:Array Keyed) (i:Nat):Int:=(xs[i]?).elim 0 ρ.g
theorem cN {ρ:RR} {xs ys:Array Keyed} {i j:Nat} (h:xs[i]?=ys[j]?):Kg ρ xs i=Kg ρ ys j:=by unfold Kg; rw [h]
theorem j9 {ρ:RR} {xs:Array Keyed} {src d:Nat} (hs:src<xs.size) (hd:d<=src) (k:Nat) :
  Kg ρ (bubble xs src d) k=if k=src - d then Kg ρ xs src else if src - d<k/\k<=src then Kg ρ xs (k - 1) else Kg ρ xs k:=by
 have e:=getElem?_bubble hs d hd k
 by_cases c:k=src - d
 .rw [abw c] at e ⊢; exact cN e
 .by_cases c2:src - d<k/\k<=src
  .rw [aM3 c,abw c2] at e ⊢; exact cN e
  .rw [aM3 c,aM3 c2] at e ⊢; exact cN e
theorem iH {ρ:RR} {xs:Array Keyed} {i j:Nat} (hj:j<=xs.size) (k:Nat) :
  Kg ρ (mirror xs i j ((j - i) / 2)) k=if i<=k/\k<j then Kg ρ xs (i+j - 1 - k) else Kg ρ xs k:=by
 have e:=getElem?_mirror_all (i:=i) hj k
 by_cases c:i<=k/\k<j
 .rw [abw c] at e ⊢; exact cN e
 .rw [aM3 c] at e ⊢; exact cN e
theorem ck {ρ:RR} {xs:Array Keyed} {i j:Nat} (hj:j<=xs.size) (al:∀ k,i<=k->k<j->Kg ρ xs k=Kg ρ xs (j - 1)) (k:Nat):Kg ρ (mirror xs i j ((j - i) / 2)) k=Kg ρ xs k:=by
 rw [iH hj]
 by_cases c:i<=k/\k<j
 .rw [abw c,al _ (by lia) (by lia),al k c.1 c.2]
 .rw [aM3 c]
def je (prog:Program) (w:World) (A:Around) (s:Shared) (κ:SortKind) (ρ:RR) (a₀:Array Keyed):Prop :=
 ∀ p,p∈a₀.toList->∀ q,q∈a₀.toList->∀ (E:Value->Shared->Prop) (Q:Bool->Shared->Prop),Q (decide (ρ.g p<ρ.g q)) s->wpAny (model prog w) A (keyLt' κ p.1 q.1) Q E s
end L2.aH
namespace L2
open PySem PySem.Spec PyProof.Rows
section
open PySem.SeqAt
open PySem.AutoSeq1 (wpAny_loadPart')
open PySem.MeetsSeq PySem.MeetsSeq2 PySem.MeetsSeq3
end
section
variable {prog:Program} {w:World} {A:Around} {E:Value->Shared->Prop} {s:Shared}
def mT (h:Heap) (a:Addr) (us:List Value):Heap:=((h.update a (Obj.mapSeq λ_=>#[])).push (seqObj "tuple" us.toArray 0)).push (seqObj "list" #[] 0)
theorem Xy {h:Heap} {a b:Addr} {us:List Value} {o:Obj} (n:b≠a) (e:h.get? b=some o):(mT h a us).get? b=some o :=
 aXX _ (aXX _ (by rw [Heap.get?_update_ne _ _ _ _ n]; exact e))
end
def rX:Value->Addr
 | .ref a=>a
 | _=>0
theorem PD {α:Type}:∀ l:List α,l.zip l=l.map λv=>(v,v)
 | []=>rfl
 | x :: r=>by rw [List.zip_cons_cons,PD r]; rfl
theorem Qu (us:List Value):(pairsOf us).toList=us.map λv=>(v,v):=by
 unfold pairsOf
 rw [Array.toList_zip]
 exact PD us
variable {K:W.Frag} {X:Cx}
end L2
namespace L2.tG
open PySem PySem.Spec PyProof.Rows
def yr:Bool->Keyed->Array Keyed->Nat->Nat->Nat->StateT SortSt Sem (Option Nat):=sortPriv% PySem.Builtin.gallop
def yC:Nat->StateT SortSt Sem Unit:=sortPriv% PySem.Builtin.setMinGallop
def Jl:Array Keyed->Array Keyed->StateT SortSt Sem (Array Keyed):=sortPriv% PySem.Builtin.mergeLo
def Jk:Array Keyed->Array Keyed->StateT SortSt Sem (Array Keyed):=sortPriv% PySem.Builtin.mergeHi
def uF (left:Bool) (key:Keyed) (arr:Array Keyed) (base i:Nat):StateT SortSt Sem (Option Bool):=do
 let x ← elem' arr (base+i)
 if left then lt' x key else return (← lt' key x).map (!·)
def sL (left:Bool) (key:Keyed) (arr:Array Keyed) (base n T8 hi0:Nat):StateT SortSt Sem (Option Nat):=do
 let mut lo:=T8
 let mut hi:=hi0
 for _ in [0:n] do
  if lo ≥ hi then break
  let m:=lo+(hi - lo) / 2
  let some more ← uF left key arr base m | return none
  if more then lo:=m+1 else hi:=m
 return some hi
def MJ (left:Bool) (key:Keyed) (arr:Array Keyed) (base n hint:Nat):StateT SortSt Sem (Option Nat):=do
 let mut ir:=0
 let mut oW:=1
 for _ in [0:n] do
  if oW ≥ n - hint then break
  let some more ← uF left key arr base (hint+oW) | return none
  if !more then break
  ir:=oW
  oW:=2 * oW+1
 sL left key arr base n (hint+ir+1) (hint+min oW (n - hint))
def MK (left:Bool) (key:Keyed) (arr:Array Keyed) (base n hint:Nat):StateT SortSt Sem (Option Nat):=do
 let mut ir:=0
 let mut oW:=1
 for _ in [0:n] do
  if oW ≥ hint+1 then break
  let some found ← uF left key arr base (hint - oW) | return none
  if found then break
  ir:=oW
  oW:=2 * oW+1
 sL left key arr base n (hint+1 - min oW (hint+1)) (hint - ir)
theorem ZkJ (left:Bool) (key:Keyed) (arr:Array Keyed) (base n hint:Nat):yr left key arr base n hint=(do
 let some right ← uF left key arr base hint | return none
 if right then MJ left key arr base n hint else MK left key arr base n hint):=rfl
theorem Zet (g:Nat):yC g=modify (λs=>SortSt.mk' (kindOf s) (arrOf s) (pendingOf s) g (failedOf s)):=rfl
theorem qQ {σ α:Type} {M:Model} {A:Around} {E:Value->Shared->Prop} {s:Shared} {m m':StateT σ Sem α} {Q:α->σ->Prop} {st:σ} (e:m=m') (h:wpS M A E s m' Q st):wpAny M A (m st) (λr s'=>s'=s/\Q r.1 r.2) E s:=by subst e; exact h
section
variable {prog:Program} {w:World} {A:Around} {E:Value->Shared->Prop} {s:Shared} {a₀:Array Keyed} {κ:SortKind} {ρ:aH.RR}
theorem lN {st:SortSt} {p q:Keyed} {Q:Option Bool->SortSt->Prop} (hk:kindOf st=κ) (h0:aH.je prog w A s κ ρ a₀) (mp:p∈a₀.toList) (mq:q∈a₀.toList) (h:Q (some (decide (ρ.g p<ρ.g q))) st):wpS (model prog w) A E s (lt' p q) Q st:=by
 rw [lt'_eq]
 refine adb (a2J ?_)
 rw [hk]
 exact adb (wpS_lift (wpAny_attempt (h0 p mp q mq _ _ ⟨rfl,aRf h⟩)))
theorem ZE {st:SortSt} {arr:Array Keyed} {i:Nat} {Q:Keyed->SortSt->Prop} (hi:i<arr.size) (h:Q arr[i] st):wpS (model prog w) A E s (elem' arr i) Q st:=by
 rw [elem'_eq,getElem?_pos arr i hi]
 exact aRf h
theorem bE {arr:Array Keyed} {i:Nat} (hi:i<arr.size):aH.Kg ρ arr i=ρ.g arr[i]:=by
 unfold aH.Kg
 rw [getElem?_pos arr i hi]
 rfl
def Bd (ρ:aH.RR) (left:Bool) (kv:Int) (arr:Array Keyed) (base i:Nat):Bool:=if left then decide (aH.Kg ρ arr (base+i)<kv) else !decide (kv<aH.Kg ρ arr (base+i))
theorem VR {st:SortSt} {left:Bool} {key:Keyed} {arr:Array Keyed} {base i:Nat} {Q:Option Bool->SortSt->Prop} (hk:kindOf st=κ) (h0:aH.je prog w A s κ ρ a₀) (ha:∀ p∈arr.toList,p∈a₀.toList) (mk:key∈a₀.toList) (hi:base+i<arr.size) (h:Q (some (Bd ρ left (ρ.g key) arr base i)) st):wpS (model prog w) A E s (uF left key arr base i) Q st:=by
 unfold uF
 refine adb (ZE hi ?_)
 have m:arr[base+i]∈a₀.toList:=ha _ (by simp)
 unfold Bd at h
 rw [bE hi] at h
 cases left with
 | true =>
  simp only [aOV] at h ⊢
  exact lN hk h0 m mk h
 | false =>
  simp only [aqO,at1] at h ⊢
  exact adb (lN hk h0 mk m (aRf h))
structure Cut (ρ:aH.RR) (left:Bool) (kv:Int) (arr:Array Keyed) (base n k:Nat):Prop where
 le:k<=n
 lo:∀ i,i<k->Bd ρ left kv arr base i=true
 hi:∀ i,k<=i->i<n->Bd ρ left kv arr base i=false
def fq (ρ:aH.RR) (arr:Array Keyed) (a b:Nat):Prop:=∀ i j,a<=i->i<=j->j<b->aH.Kg ρ arr i<=aH.Kg ρ arr j
theorem WA {left:Bool} {kv:Int} {arr:Array Keyed} {base n i j:Nat} (hs:fq ρ arr base (base+n)) (hij:i<=j) (hj:j<n) (h:Bd ρ left kv arr base j=true):Bd ρ left kv arr base i=true:=by
 have q:=hs (base+i) (base+j) (by lia) (by lia) (by lia)
 unfold Bd at h ⊢
 cases left with
 | true =>
  simp only [aOV,ayt] at h ⊢
  lia
 | false =>
  simp only [aqO,at1,aKM,aFw] at h ⊢
  lia
section
variable {st:SortSt} {left:Bool} {key:Keyed} {arr:Array Keyed} {base n:Nat} {Q:Option Nat->SortSt->Prop} {P:Nat->Bool}
theorem OB {lo hi:Nat} (B:∀ {i:Nat} {Q:Option Bool->SortSt->Prop},i<n->Q (some (P i)) st->wpS (model prog w) A E s (uF left key arr base i) Q st)
  (up:∀ {i j:Nat},i<=j->j<n->P j=true->P i=true) (dn:∀ {i j:Nat},i<=j->j<n->P i=false->P j=false)
  (h:∀ k,k<=n->(∀ i,i<k->P i=true)->(∀ i,k<=i->i<n->P i=false)->Q (some k) st)
  (Uz:lo<=hi) (UC:hi<=n) (u1:∀ i,i<lo->P i=true) (u2:∀ i,hi<=i->i<n->P i=false):wpS (model prog w) A E s (sL left key arr base n lo hi) Q st:=by
 unfold sL
 refine adb (aVU (ag5 (I:=λx c st2=>st2=st/\∃ l r,c=(none,l,r)/\l<=r/\r<=n/\r - l<=n - x/\(∀ i,i<l->P i=true)/\(∀ i,r<=i->i<n->P i=false))
  (Q:=λc st2=>st2=st/\∃ r,c=(none,r,r)/\r<=n/\(∀ i,i<r->P i=true)/\(∀ i,r<=i->i<n->P i=false)) ?iturn ?ilast ?ifirst) ?iafter)
 case ifirst=>exact ⟨rfl,lo,hi,rfl,Uz,UC,by lia,u1,u2⟩
 case ilast =>
  rintro c st2 ⟨rfl,l,r,rfl,hlr,hrk,hm,u1,u2⟩
  have e:l=r:=by lia
  subst e
  exact ⟨rfl,l,rfl,hrk,u1,u2⟩
 case iturn =>
  rintro x c st2 _ hxk ⟨rfl,l,r,rfl,hlr,hrk,hm,u1,u2⟩
  dsimp only
  by_cases hge:l ≥ r
  .rw [abw hge]
   have e:l=r:=by lia
   subst e
   exact aRf ⟨rfl,l,rfl,hrk,u1,u2⟩
  .rw [aM3 hge]
   refine adb (B (by lia) ?_)
   dsimp only
   cases c:P (l+(r - l) / 2) with
   | true =>
    rw [abw rfl]
    exact aRf ⟨rfl,l+(r - l) / 2+1,r,rfl,by lia,by lia,by lia,λi p=>up (j:=l+(r - l) / 2) (by lia) (by lia) c,u2⟩
   | false =>
    rw [aM3 (by simp)]
    exact aRf ⟨rfl,l,l+(r - l) / 2,rfl,by lia,by lia,by lia,u1,λi p q=>dn p q c⟩
 case iafter =>
  rintro c st2 ⟨rfl,r,rfl,Ut,u1,u2⟩
  exact aRf (h r Ut u1 u2)
end
theorem yy {st:SortSt} {left:Bool} {key:Keyed} {arr:Array Keyed} {base n hint:Nat} {Q:Option Nat->SortSt->Prop} (hk:kindOf st=κ) (h0:aH.je prog w A s κ ρ a₀) (ha:∀ p∈arr.toList,p∈a₀.toList) (mk:key∈a₀.toList) (hb:base+n<=arr.size) (hh:hint<n) (hs:fq ρ arr base (base+n))
  (h:∀ k,Cut ρ left (ρ.g key) arr base n k->Q (some k) st):wpS (model prog w) A E s (yr left key arr base n hint) Q st:=by
 rw [ZkJ]
 have B:∀ {i:Nat} {Q:Option Bool->SortSt->Prop},i<n->Q (some (Bd ρ left (ρ.g key) arr base i)) st->wpS (model prog w) A E s (uF left key arr base i) Q st:=λ{i Q} hi hq=>VR hk h0 ha mk (by lia) hq
 have up:∀ {i j:Nat},i<=j->j<n->Bd ρ left (ρ.g key) arr base j=true->Bd ρ left (ρ.g key) arr base i=true:=λhij hj hq=>WA hs hij hj hq
 have h:=λk c1 c2 c3=>h k ⟨c1,c2,c3⟩
 generalize Bd ρ left (ρ.g key) arr base=P at *
 have dn:∀ {i j:Nat},i<=j->j<n->P i=false->P j=false:=λ{i j} hij hj hq=>by
  cases e:P j with
  | false=>rfl
  | true=>rw [up hij hj e] at hq; exact hq
 refine adb (B hh ?_)
 dsimp only
 cases e:P hint with
 | true =>
  rw [abw rfl]
  unfold MJ
  refine adb (aVU (ag5 (I:=λx c st2=>st2=st/\∃ l o,c=(none,l,o)/\l<o/\x+1<=o/\hint+l<n/\P (hint+l)=true)
   (Q:=λc st2=>st2=st/\∃ l o,c=(none,l,o)/\l<o/\hint+l<n/\P (hint+l)=true/\(n - hint<=o\/hint+o<n/\P (hint+o)=false)) ?jturn ?jlast ?jfirst) ?jafter)
  case jfirst=>exact ⟨rfl,0,1,rfl,by lia,by lia,by lia,e⟩
  case jlast =>
   rintro c st2 ⟨rfl,l,o,rfl,hlo,GQ,jO,hp⟩
   exact ⟨rfl,l,o,rfl,hlo,jO,hp,.inl (by lia)⟩
  case jturn =>
   rintro x c st2 _ hxk ⟨rfl,l,o,rfl,hlo,GQ,jO,hp⟩
   dsimp only
   by_cases hge:o ≥ n - hint
   .rw [abw hge]
    exact aRf ⟨rfl,l,o,rfl,hlo,jO,hp,.inl hge⟩
   .rw [aM3 hge]
    refine adb (B (by lia) ?_)
    dsimp only
    cases c:P (hint+o) with
    | true =>
     rw [aM3 (by simp)]
     exact aRf ⟨rfl,o,2 * o+1,rfl,by lia,by lia,by lia,c⟩
    | false =>
     rw [abw (by simp)]
     exact aRf ⟨rfl,l,o,rfl,hlo,jO,hp,.inr ⟨by lia,c⟩⟩
  case jafter =>
   rintro c st2 ⟨rfl,l,o,rfl,hlo,jO,hp,ho⟩
   refine OB B up dn h (by dsimp only; lia) (by dsimp only; lia) (λi hi=>up (j:=hint+l) (by dsimp only at hi; lia) jO hp) (λi p q=>?_)
   dsimp only at p
   rcases ho with ho | ⟨ho,c⟩
   .lia
   .exact dn (i:=hint+o) (by lia) q c
 | false =>
  rw [aM3 (by simp)]
  unfold MK
  refine adb (aVU (ag5 (I:=λx c st2=>st2=st/\∃ l o,c=(none,l,o)/\l<o/\x+1<=o/\l<=hint/\P (hint - l)=false)
   (Q:=λc st2=>st2=st/\∃ l o,c=(none,l,o)/\l<o/\l<=hint/\P (hint - l)=false/\(hint+1<=o\/o<=hint/\P (hint - o)=true)) ?kturn ?klast ?kfirst) ?kafter)
  case kfirst=>exact ⟨rfl,0,1,rfl,by lia,by lia,by lia,e⟩
  case klast =>
   rintro c st2 ⟨rfl,l,o,rfl,hlo,GQ,jO,hp⟩
   exact ⟨rfl,l,o,rfl,hlo,jO,hp,.inl (by lia)⟩
  case kturn =>
   rintro x c st2 _ hxk ⟨rfl,l,o,rfl,hlo,GQ,jO,hp⟩
   dsimp only
   by_cases hge:o ≥ hint+1
   .rw [abw hge]
    exact aRf ⟨rfl,l,o,rfl,hlo,jO,hp,.inl hge⟩
   .rw [aM3 hge]
    refine adb (B (by lia) ?_)
    dsimp only
    cases c:P (hint - o) with
    | true =>
     rw [abw rfl]
     exact aRf ⟨rfl,l,o,rfl,hlo,jO,hp,.inr ⟨by lia,c⟩⟩
    | false =>
     rw [aM3 (by simp)]
     exact aRf ⟨rfl,o,2 * o+1,rfl,by lia,by lia,by lia,c⟩
  case kafter =>
   rintro c st2 ⟨rfl,l,o,rfl,hlo,jO,hp,ho⟩
   refine OB B up dn h (by dsimp only; lia) (by dsimp only; lia) (λi hi=>?_) (λi p q=>dn (i:=hint - l) (by dsimp only at p; lia) q hp)
   dsimp only at hi
   rcases ho with ho | ⟨ho,c⟩
   .lia
   .exact up (j:=hint - o) (by lia) (by lia) c
end
def Lk (ρ:aH.RR) (x y:Keyed):Prop:=ρ.g x<=ρ.g y
structure MI (ρ:aH.RR) (A B out:List Keyed) (ia ib:Nat):Prop where
 perm:(out++A.drop ia++B.drop ib).Perm (A++B)
 sa:(out++A.drop ia).Pairwise (Lk ρ)
 sb:(out++B.drop ib).Pairwise (Lk ρ)
section
variable {ρ:aH.RR} {A B out:List Keyed} {ia ib:Nat}
theorem MI.iJ (h:MI ρ A B out ia ib) (k:Nat) (hk:∀ t∈(B.drop ib).take k,∀ x∈A.drop ia,ρ.g t<=ρ.g x):MI ρ A B (out++(B.drop ib).take k) ia (ib+k):=by
 have e:B.drop (ib+k)=(B.drop ib).drop k:=by rw [drop_drop]
 have s:=h.sb
 have p:=h.perm
 rw [← azl k (B.drop ib)] at s p
 refine ⟨?_,?_,?_⟩
 .rw [e]
  refine List.Perm.trans ?_ p
  rw [aAq out,aAq out,aAq out,← aAq (A.drop ia)]
  exact (List.Perm.append_right _ aRL).append_left _
 .have s1:(out++(B.drop ib).take k).Pairwise (Lk ρ):=by
   rw [← aAq] at s
   exact (aOJ.1 s).1
  have a1:=aOJ.1 h.sa
  refine aOJ.2 ⟨s1,a1.2.1,λx hx y hy=>?_⟩
  rcases a1m.1 hx with hx | hx
  .exact a1.2.2 x hx y hy
  .exact hk x hx y hy
 .rw [e,aAq]
  exact s
theorem MI.jS (h:MI ρ A B out ia ib) (k:Nat) (hk:∀ t∈(A.drop ia).take k,∀ x∈B.drop ib,ρ.g t<=ρ.g x):MI ρ A B (out++(A.drop ia).take k) (ia+k) ib:=by
 have h2:MI ρ B A out ib ia:=⟨by
  refine List.Perm.trans ?_ (List.Perm.trans h.perm aRL)
  rw [aAq,aAq]
  exact aRL.append_left _,h.sb,h.sa⟩
 have h3:=h2.iJ k hk
 refine ⟨?_,h3.sb,h3.sa⟩
 refine List.Perm.trans ?_ (List.Perm.trans h3.perm aRL)
 rw [aAq _ (A.drop _),aAq _ (B.drop _)]
 exact aRL.append_left _
def Res (ρ:aH.RR) (A B:List Keyed) (r:Array Keyed):Prop:=r.toList.Perm (A++B)/\r.toList.Pairwise (Lk ρ)
theorem Dy (a:Array Keyed) (i:Nat):(a.extract i a.size).toList=a.toList.drop i:=by
 rw [aBe,List.extract_eq_drop_take]
 exact ahH (by simp)
theorem IB (a:Array Keyed) (i k:Nat):(a.extract i (i+k)).toList=(a.toList.drop i).take k:=by
 rw [aBe,List.extract_eq_drop_take]
 congr 1
 lia
theorem MI.res {a b out:Array Keyed} (h:MI ρ a.toList b.toList out.toList ia ib) (he:a.toList.drop ia=[]\/b.toList.drop ib=[]):Res ρ a.toList b.toList (out++a.extract ia a.size++b.extract ib b.size):=by
 unfold Res
 rw [aje,aje,Dy,Dy]
 refine ⟨h.perm,?_⟩
 rcases he with he | he
 .rw [he,bcu]; exact h.sb
 .rw [he,bcu]; exact h.sa
theorem MI.last {a b out:Array Keyed} (h:MI ρ a.toList b.toList out.toList ia ib) (hl:∀ y∈b.toList,∀ x∈a.toList.drop (a.size - 1),ρ.g y<=ρ.g x) (he:ia+1=a.size):Res ρ a.toList b.toList (out++b.extract ib b.size++a.extract ia a.size):=by
 have e:ia=a.size - 1:=by lia
 have h2:=h.iJ (b.toList.length) (λt ht x hx=>hl t (List.mem_of_mem_drop (List.mem_of_mem_take ht)) x (by rw [← e]; exact hx))
 have e2:(b.toList.drop ib).take b.toList.length=b.toList.drop ib:=ahH (by simp)
 have e3:b.toList.drop (ib+b.toList.length)=[]:=aX5 (by lia)
 rw [e2] at h2
 unfold Res
 rw [aje,aje,Dy,Dy]
 refine ⟨?_,h2.sa⟩
 have:=h2.perm
 rw [e3,bcu] at this
 exact this
end
abbrev pC:=Option (Array Keyed)×Array Keyed×Nat×Nat×Nat×Nat×Nat
def CN (a b out:Array Keyed) (ia ib g k k1:Nat):StateT SortSt Sem (ForInStep pC):=do
 let x ← elem' a ia
 if ia+1+1 == a.size then pure (.done (some (out.push x++b.extract ib b.size++a.extract (ia+1) a.size),out.push x,ia+1,ib,g,k,k1))
 else if k<7 && k1<7 then pure (.done (none,out.push x,ia+1,ib,g,k,k1)) else pure (.yield (none,out.push x,ia+1,ib,g,k,k1))
def lo2 (a b out:Array Keyed) (ia ib g k bc:Nat):StateT SortSt Sem (ForInStep pC):=do
 let x ← elem' b ib
 if ib+1 == b.size then pure (.done (some (out.push x++a.extract ia a.size++b.extract (ib+1) b.size),out.push x,ia,ib+1,g,k,bc))
 else do
  let y ← elem' a ia
  let r ← yr true y b (ib+1) (b.size - (ib+1)) 0
  match r with
  | some k1 =>
   if k1 > 0 then
    if ib+1+k1 == b.size then pure (.done (some (out.push x++b.extract (ib+1) (ib+1+k1)++a.extract ia a.size++b.extract (ib+1+k1) b.size),out.push x++b.extract (ib+1) (ib+1+k1),ia,ib+1+k1,g,k,k1))
    else CN a b (out.push x++b.extract (ib+1) (ib+1+k1)) ia (ib+1+k1) g k k1
   else CN a b (out.push x) ia (ib+1) g k k1
  | none=>pure (.done (some (out.push x++a.extract ia a.size++b.extract (ib+1) b.size),out.push x,ia,ib+1,g,k,bc))
def lo1 (a b out:Array Keyed) (ia ib g ac bc:Nat):StateT SortSt Sem (ForInStep pC):=do
 yC g
 let y ← elem' b ib
 let r ← yr false y a ia (a.size - ia) 0
 match r with
 | some k =>
  if k > 0 then
   if ia+k+1 == a.size then pure (.done (some (out++a.extract ia (ia+k)++b.extract ib b.size++a.extract (ia+k) a.size),out++a.extract ia (ia+k),ia+k,ib,g,k,bc))
   else if ia+k == a.size then pure (.done (some (out++a.extract ia (ia+k)++a.extract (ia+k) a.size++b.extract ib b.size),out++a.extract ia (ia+k),ia+k,ib,g,k,bc))
   else lo2 a b (out++a.extract ia (ia+k)) (ia+k) ib g k bc
  else lo2 a b out ia ib g k bc
 | none=>pure (.done (some (out++a.extract ia a.size++b.extract ib b.size),out,ia,ib,g,ac,bc))
abbrev tQ:=Option (Array Keyed)×Array Keyed×Nat×Nat×Nat×Nat
def CM (a b:Array Keyed) (mg:Nat) (c:tQ):StateT SortSt Sem (ForInStep tQ):=do
 let y ← elem' b c.2.2.2.1
 let x ← elem' a c.2.2.1
 let r ← lt' y x
 match r with
 | some w =>
  if w then do
   let y ← elem' b c.2.2.2.1
   if c.2.2.2.1+1 == b.size then pure (.done (some (c.2.1.push y++a.extract c.2.2.1 a.size++b.extract (c.2.2.2.1+1) b.size),c.2.1.push y,c.2.2.1,c.2.2.2.1+1,0,c.2.2.2.2.2+1))
   else if c.2.2.2.2.2+1 ≥ mg then pure (.done (none,c.2.1.push y,c.2.2.1,c.2.2.2.1+1,0,c.2.2.2.2.2+1))
   else pure (.yield (none,c.2.1.push y,c.2.2.1,c.2.2.2.1+1,0,c.2.2.2.2.2+1))
  else do
   let x ← elem' a c.2.2.1
   if c.2.2.1+1+1 == a.size then pure (.done (some (c.2.1.push x++b.extract c.2.2.2.1 b.size++a.extract (c.2.2.1+1) a.size),c.2.1.push x,c.2.2.1+1,c.2.2.2.1,c.2.2.2.2.1+1,0))
   else if c.2.2.2.2.1+1 ≥ mg then pure (.done (none,c.2.1.push x,c.2.2.1+1,c.2.2.2.1,c.2.2.2.2.1+1,0))
   else pure (.yield (none,c.2.1.push x,c.2.2.1+1,c.2.2.2.1,c.2.2.2.2.1+1,0))
 | none=>pure (.done (some (c.2.1++a.extract c.2.2.1 a.size++b.extract c.2.2.2.1 b.size),c.2.1,c.2.2.1,c.2.2.2.1,c.2.2.2.2.1,c.2.2.2.2.2))
abbrev wN:=Option (Array Keyed)×Array Keyed×Nat×Nat×Nat
def CL (a b:Array Keyed) (c:wN):StateT SortSt Sem (ForInStep wN):=do
 let d ← forIn [0:a.size+b.size] ((none,c.2.1,c.2.2.1,c.2.2.2.1,0,0):tQ) (λ_ d=>CM a b c.2.2.2.2 d)
 match d.1 with
 | some r=>pure (.done (some r,d.2.1,d.2.2.1,d.2.2.2.1,c.2.2.2.2))
 | none=>do
  rule "list.sort.gallop"
  let e ← forIn [0:a.size+b.size] ((none,d.2.1,d.2.2.1,d.2.2.2.1,c.2.2.2.2+1,d.2.2.2.2.1,d.2.2.2.2.2):pC) (λ_ e=>if e.2.2.2.2.1 > 1 then lo1 a b e.2.1 e.2.2.1 e.2.2.2.1 (e.2.2.2.2.1 - 1) e.2.2.2.2.2.1 e.2.2.2.2.2.2 else lo1 a b e.2.1 e.2.2.1 e.2.2.2.1 e.2.2.2.2.1 e.2.2.2.2.2.1 e.2.2.2.2.2.2)
  match e.1 with
  | some r=>pure (.done (some r,e.2.1,e.2.2.1,e.2.2.2.1,e.2.2.2.2.1))
  | none=>do
   yC (e.2.2.2.2.1+1)
   pure (.yield (none,e.2.1,e.2.2.1,e.2.2.2.1,e.2.2.2.2.1+1))
theorem ZkK {M:Model} {A:Around} {E:Value->Shared->Prop} {s:Shared} {Q:Array Keyed->SortSt->Prop} {st:SortSt} (a b:Array Keyed) (h:wpS M A E s (do
 rule "list.sort.merge-lo"
 let x ← elem' b 0
 if 1 == b.size then pure (#[x]++a.extract 0 a.size++b.extract 1 b.size)
 else if 0+1 == a.size then pure (#[x]++b.extract 1 b.size++a.extract 0 a.size)
 else do
  let st ← get
  let c ← forIn [0:a.size+b.size] ((none,#[x],0,1,gallopOf st):wN) (λ_ c=>CL a b c)
  match c.1 with
  | some r=>pure r
  | none=>unsupported "internal:list.sort.merge-bound") Q st):wpS M A E s (Jl a b) Q st:=by
 show wpAny M A (Jl a b st) _ E s
 wp_delta
 wp_delta
 refine qQ ?_ h
 dsimp only
 refine aTi λ_=>aTi λx=>?_
 congr 1
 congr 1
 refine aTi λst=>?_
 congr 1
 .congr 1
  funext _ c
  unfold CL
  congr 1
  .congr 1
   funext _ d
   unfold CM
   refine aTi λy=>aTi λx=>aTi λr=>?_
   cases r with
   | some w =>
    cases w with
    | true=>rfl
    | false=>rfl
   | none=>rfl
  .funext d
   cases d.1 with
   | some r=>rfl
   | none =>
    dsimp only
    refine aTi λ_=>?_
    congr 1
    .congr 1
     funext _ e
     congr 1
     all_goals
      unfold lo1
      refine aTi λ_=>aTi λy=>aTi λr=>?_
      cases r with
      | none=>rfl
      | some k =>
       dsimp only
       congr 1
       .congr 1
        congr 1
        unfold lo2
        refine aTi λx=>?_
        congr 1
        refine aTi λy=>aTi λr=>?_
        cases r with
        | none=>rfl
        | some k1=>rfl
       .unfold lo2
        refine aTi λx=>?_
        congr 1
        refine aTi λy=>aTi λr=>?_
        cases r with
        | none=>rfl
        | some k1=>rfl
    .funext e
     cases e.1 with
     | some r=>rfl
     | none=>rfl
 .funext c
  cases c.1 with
  | some r=>rfl
  | none=>rfl
def Sm (st st':SortSt):Prop:=kindOf st'=kindOf st/\arrOf st'=arrOf st/\pendingOf st'=pendingOf st/\failedOf st'=failedOf st
theorem Sm.refl (st:SortSt):Sm st st:=⟨rfl,rfl,rfl,rfl⟩
theorem Sm.trans {a b c:SortSt} (h:Sm a b) (h':Sm b c):Sm a c:=⟨h'.1.trans h.1,h'.2.1.trans h.2.1,h'.2.2.1.trans h.2.2.1,h'.2.2.2.trans h.2.2.2⟩
section
variable {prog:Program} {w:World} {A:Around} {E:Value->Shared->Prop} {s:Shared} {a₀:Array Keyed} {κ:SortKind} {ρ:aH.RR} {a b:Array Keyed}
theorem Dw {st:SortSt} {g:Nat} {Q:Unit->SortSt->Prop} (h:∀ st',Sm st st'->Q () st'):wpS (model prog w) A E s (yC g) Q st:=by
 rw [Zet]
 exact bbL (h _ ⟨rfl,rfl,rfl,rfl⟩)
theorem Nv (h:a.toList.Pairwise (Lk ρ)) (i j:Nat):fq ρ a i (i+(a.size - i)):=by
 intro x y hx hxy hy
 have hy':y<a.size:=by lia
 rw [bE (show x<a.size by lia),bE hy']
 by_cases e:x=y
 .subst e; lia
 .exact a2h.1 h x y (by simpa using (show x<a.size by lia)) (by simpa using hy') (by lia)
theorem Zio {i:Nat} {x:Keyed} (h:x∈a.toList.drop i):∃ j,∃ hj:i+j<a.size,x=a[i+j]:=by
 obtain ⟨j,hj,e⟩:=a3T.1 h
 rw [abS,aYJ] at hj
 refine ⟨j,by lia,?_⟩
 rw [← e,getElem_drop,aWX]
theorem Zip {i k:Nat} {x:Keyed} (h:x∈(a.toList.drop i).take k):∃ j,j<k/\∃ hj:i+j<a.size,x=a[i+j]:=by
 obtain ⟨j,hj,e⟩:=a3T.1 h
 rw [aIq,abS,aYJ] at hj
 refine ⟨j,by lia,by lia,?_⟩
 rw [← e,getElem_take,getElem_drop,aWX]
theorem Cut.low {left:Bool} {kv:Int} {i k:Nat} (h:Cut ρ left kv a i (a.size - i) k) {x:Keyed} (hx:x∈(a.toList.drop i).take k):ρ.g x<=kv:=by
 obtain ⟨j,hj,hs,rfl⟩:=Zip hx
 have:=h.lo j hj
 unfold Bd at this
 rw [bE hs] at this
 cases left with
 | true=>simp only [aOV,ayt] at this; lia
 | false=>simp only [aqO,at1,aKM,aFw] at this; lia
theorem Cut.high {left:Bool} {kv:Int} {i k:Nat} (h:Cut ρ left kv a i (a.size - i) k) {x:Keyed} (hx:x∈a.toList.drop (i+k)):kv<=ρ.g x:=by
 obtain ⟨j,hs,rfl⟩:=Zio hx
 have:=h.hi (k+j) (by lia) (by lia)
 unfold Bd at this
 rw [show i+(k+j)=i+k+j by lia,bE hs] at this
 cases left with
 | true=>simp only [aOV,aFw] at this; lia
 | false=>simp only [aqO,at1,Bool.not_eq_false',ayt] at this; lia
theorem Bl {i:Nat} (hi:i<a.size):(a.toList.drop i).take 1=[a[i]]:=by
 rw [List.drop_eq_getElem_cons (by simpa using hi)]
 rfl
theorem D8 {i:Nat} (hi:i<a.size) (h:(a.toList.drop i).Pairwise (Lk ρ)) {x:Keyed} (hx:x∈a.toList.drop i):ρ.g a[i]<=ρ.g x:=by
 rw [List.drop_eq_getElem_cons (by simpa using hi)] at h hx
 rcases aHJ.1 hx with rfl | hx
 .exact asI _
 .exact (aN8.1 h).1 x hx
structure yD (ρ:aH.RR) (a₀ a b:Array Keyed):Prop where
 ma:∀ p∈a.toList,p∈a₀.toList
 mb:∀ p∈b.toList,p∈a₀.toList
 sa:a.toList.Pairwise (Lk ρ)
 sb:b.toList.Pairwise (Lk ρ)
 last:∀ y∈b.toList,∀ x∈a.toList.drop (a.size - 1),ρ.g y<=ρ.g x
def Jm (ρ:aH.RR) (a b:Array Keyed) (m:Nat) (out:Array Keyed) (ia ib:Nat):Prop:=MI ρ a.toList b.toList out.toList ia ib/\m<=ia+ib/\ia+1<a.size/\ib<b.size
def QO (ρ:aH.RR) (a b:Array Keyed) (m:Nat) (c:pC):Prop:=(∃ r q,c=(some r,q)/\Res ρ a.toList b.toList r)\/∃ out ia ib g k k1,c=(none,out,ia,ib,g,k,k1)/\Jm ρ a b m out ia ib
def Lx (ρ:aH.RR) (a b:Array Keyed) (m:Nat) (st:SortSt) (r:ForInStep pC) (st':SortSt):Prop:=Sm st st'/\match r with
 | .done c=>QO ρ a b m c
 | .yield c=>∃ out ia ib g k k1,c=(none,out,ia,ib,g,k,k1)/\Jm ρ a b m out ia ib
theorem MI.jV {out:Array Keyed} {ia ib:Nat} (h:MI ρ a.toList b.toList out.toList ia ib) (hi:ia<a.size) (hk:∀ x∈b.toList.drop ib,ρ.g a[ia]<=ρ.g x):MI ρ a.toList b.toList (out.push a[ia]).toList (ia+1) ib:=by
 have:=h.jS 1 (by rw [Bl hi]; intro t ht x hx; rw [arG.1 ht]; exact hk x hx)
 rw [Bl hi] at this
 rw [aZl]
 exact this
theorem MI.jU {out:Array Keyed} {ia ib:Nat} (h:MI ρ a.toList b.toList out.toList ia ib) (hi:ib<b.size) (hk:∀ x∈a.toList.drop ia,ρ.g b[ib]<=ρ.g x):MI ρ a.toList b.toList (out.push b[ib]).toList ia (ib+1):=by
 have:=h.iJ 1 (by rw [Bl hi]; intro t ht x hx; rw [arG.1 ht]; exact hk x hx)
 rw [Bl hi] at this
 rw [aZl]
 exact this
theorem Nu {gm st:SortSt} {out:Array Keyed} {ia ib g k k1 m:Nat} (T:yD ρ a₀ a b) (hS:Sm gm st) (h:Jm ρ a b m out ia ib) (hk:∀ x∈b.toList.drop ib,ρ.g (a[ia]'(by have:=h.2.2.1; lia))<=ρ.g x):wpS (model prog w) A E s (CN a b out ia ib g k k1) (Lx ρ a b (m+1) gm) st:=by
 obtain ⟨M,hm,ha,hb⟩:=h
 have qC:ia<a.size:=by lia
 unfold CN
 refine adb (ZE qC ?_)
 have M2:=M.jV qC hk
 by_cases e:ia+1+1=a.size
 .rw [abw (by simpa using e)]
  exact aRf ⟨hS,.inl ⟨_,_,rfl,M2.last T.last e⟩⟩
 .rw [aM3 (by simpa using e)]
  have J:Jm ρ a b (m+1) (out.push a[ia]) (ia+1) ib:=⟨M2,by lia,by lia,hb⟩
  by_cases c:(decide (k<7) && decide (k1<7))=true
  .rw [abw c]
   exact aRf ⟨hS,.inr ⟨_,_,_,_,_,_,rfl,J⟩⟩
  .rw [aM3 c]
   exact aRf ⟨hS,_,_,_,_,_,_,rfl,J⟩
theorem Nt {gm st:SortSt} {out:Array Keyed} {ia ib g k bc m:Nat} (h0:aH.je prog w A s κ ρ a₀) (hk:kindOf st=κ) (T:yD ρ a₀ a b) (hS:Sm gm st) (h:Jm ρ a b m out ia ib) (hq:∀ x∈a.toList.drop ia,ρ.g (b[ib]'(h.2.2.2))<=ρ.g x):wpS (model prog w) A E s (lo2 a b out ia ib g k bc) (Lx ρ a b (m+1) gm) st:=by
 obtain ⟨M,hm,ha,hb⟩:=h
 have qC:ia<a.size:=by lia
 unfold lo2
 refine adb (ZE hb ?_)
 have M2:=M.jU hb hq
 by_cases e:ib+1=b.size
 .rw [abw (by simpa using e)]
  exact aRf ⟨hS,.inl ⟨_,_,rfl,M2.res (.inr (aX5 (by simp; lia)))⟩⟩
 .rw [aM3 (by simpa using e)]
  refine adb (ZE qC ?_)
  refine adb (yy hk h0 T.mb (T.ma _ (by simp)) (by lia) (by lia) (Nv T.sb _ 0) (λk1 C=>?_))
  dsimp only
  have fa:∀ x∈a.toList.drop ia,ρ.g a[ia]<=ρ.g x:=λx hx=>D8 qC (aYR (drop_sublist _ _) T.sa) hx
  have M3:=M2.iJ k1 (λt ht x hx=>arf (C.low ht) (fa x hx))
  rw [← IB,← aje] at M3
  have hi:∀ x∈b.toList.drop (ib+1+k1),ρ.g a[ia]<=ρ.g x:=λx hx=>C.high hx
  by_cases c:k1 > 0
  .rw [abw c]
   by_cases e2:ib+1+k1=b.size
   .rw [abw (by simpa using e2)]
    exact aRf ⟨hS,.inl ⟨_,_,rfl,M3.res (.inr (aX5 (by simp; lia)))⟩⟩
   .rw [aM3 (by simpa using e2)]
    have:=C.le
    exact Nu T hS ⟨M3,by lia,ha,by lia⟩ hi
  .rw [aM3 c]
   have e3:k1=0:=by lia
   subst e3
   exact Nu T hS ⟨M2,by lia,ha,by lia⟩ hi
theorem VQ {gm st:SortSt} {out:Array Keyed} {ia ib g ac bc m:Nat} (h0:aH.je prog w A s κ ρ a₀) (hk:kindOf st=κ) (T:yD ρ a₀ a b) (hS:Sm gm st) (h:Jm ρ a b m out ia ib):wpS (model prog w) A E s (lo1 a b out ia ib g ac bc) (Lx ρ a b (m+1) gm) st:=by
 obtain ⟨M,hm,ha,hb⟩:=h
 have qC:ia<a.size:=by lia
 unfold lo1
 refine adb (Dw λst1 vR=>?_)
 have hk1:kindOf st1=κ:=vR.1.trans hk
 have pN:=hS.trans vR
 refine adb (ZE hb ?_)
 refine adb (yy hk1 h0 T.ma (T.mb _ (by simp)) (by lia) (by lia) (Nv T.sa _ 0) (λk C=>?_))
 dsimp only
 have fb:∀ x∈b.toList.drop ib,ρ.g b[ib]<=ρ.g x:=λx hx=>D8 hb (aYR (drop_sublist _ _) T.sb) hx
 have M3:=M.jS k (λt ht x hx=>arf (C.low ht) (fb x hx))
 rw [← IB,← aje] at M3
 have hi:∀ x∈a.toList.drop (ia+k),ρ.g b[ib]<=ρ.g x:=λx hx=>C.high hx
 have:=C.le
 by_cases c:k > 0
 .rw [abw c]
  by_cases e2:ia+k+1=a.size
  .rw [abw (by simpa using e2)]
   exact aRf ⟨pN,.inl ⟨_,_,rfl,M3.last T.last e2⟩⟩
  .rw [aM3 (by simpa using e2)]
   by_cases e3:ia+k=a.size
   .rw [abw (by simpa using e3)]
    exact aRf ⟨pN,.inl ⟨_,_,rfl,M3.res (.inl (aX5 (by simp; lia)))⟩⟩
   .rw [aM3 (by simpa using e3)]
    exact Nt h0 hk1 T pN ⟨M3,by lia,by lia,hb⟩ hi
 .rw [aM3 c]
  have e3:k=0:=by lia
  subst e3
  exact Nt h0 hk1 T pN ⟨M,by lia,ha,hb⟩ hi
def Q2 (ρ:aH.RR) (a b:Array Keyed) (m:Nat) (c:tQ):Prop:=(∃ r q,c=(some r,q)/\Res ρ a.toList b.toList r)\/∃ out ia ib k k1,c=(none,out,ia,ib,k,k1)/\Jm ρ a b m out ia ib
theorem VP {st:SortSt} {out:Array Keyed} {mg ia ib ac bc m:Nat} (h0:aH.je prog w A s κ ρ a₀) (hk:kindOf st=κ) (T:yD ρ a₀ a b) (h:Jm ρ a b m out ia ib):wpS (model prog w) A E s (CM a b mg (none,out,ia,ib,ac,bc)) (λr st'=>st'=st/\match r with
  | .done c=>Q2 ρ a b (m+1) c
  | .yield c=>∃ out ia ib k k1,c=(none,out,ia,ib,k,k1)/\Jm ρ a b (m+1) out ia ib) st:=by
 obtain ⟨M,hm,ha,hb⟩:=h
 have qC:ia<a.size:=by lia
 have fa:∀ x∈a.toList.drop ia,ρ.g a[ia]<=ρ.g x:=λx hx=>D8 qC (aYR (drop_sublist _ _) T.sa) hx
 have fb:∀ x∈b.toList.drop ib,ρ.g b[ib]<=ρ.g x:=λx hx=>D8 hb (aYR (drop_sublist _ _) T.sb) hx
 unfold CM
 dsimp only
 refine adb (ZE hb (adb (ZE qC (adb (lN hk h0 (T.mb _ (by simp)) (T.ma _ (by simp)) ?_)))))
 dsimp only
 by_cases c:ρ.g b[ib]<ρ.g a[ia]
 .rw [aea c,abw rfl]
  refine adb (ZE hb ?_)
  have M2:=M.jU hb (λx hx=>by have:=fa x hx; lia)
  by_cases e:ib+1=b.size
  .rw [abw (by simpa using e)]
   exact aRf ⟨rfl,.inl ⟨_,_,rfl,M2.res (.inr (aX5 (by simp; lia)))⟩⟩
  .rw [aM3 (by simpa using e)]
   have J:Jm ρ a b (m+1) (out.push b[ib]) ia (ib+1):=⟨M2,by lia,ha,by lia⟩
   by_cases c2:bc+1 ≥ mg
   .rw [abw c2]
    exact aRf ⟨rfl,.inr ⟨_,_,_,_,_,rfl,J⟩⟩
   .rw [aM3 c2]
    exact aRf ⟨rfl,_,_,_,_,_,rfl,J⟩
 .rw [a0j c,aM3 (by simp)]
  refine adb (ZE qC ?_)
  have M2:=M.jV qC (λx hx=>by have:=fb x hx; lia)
  by_cases e:ia+1+1=a.size
  .rw [abw (by simpa using e)]
   exact aRf ⟨rfl,.inl ⟨_,_,rfl,M2.last T.last e⟩⟩
  .rw [aM3 (by simpa using e)]
   have J:Jm ρ a b (m+1) (out.push a[ia]) (ia+1) ib:=⟨M2,by lia,by lia,hb⟩
   by_cases c2:ac+1 ≥ mg
   .rw [abw c2]
    exact aRf ⟨rfl,.inr ⟨_,_,_,_,_,rfl,J⟩⟩
   .rw [aM3 c2]
    exact aRf ⟨rfl,_,_,_,_,_,rfl,J⟩
theorem Jm.weak {m m':Nat} {out:Array Keyed} {ia ib:Nat} (h:Jm ρ a b m out ia ib) (hm:m'<=m):Jm ρ a b m' out ia ib:=⟨h.1,by have:=h.2.1; lia,h.2.2.1,h.2.2.2⟩
theorem VO {st:SortSt} {out:Array Keyed} {ia ib g m:Nat} (h0:aH.je prog w A s κ ρ a₀) (hk:kindOf st=κ) (T:yD ρ a₀ a b) (h:Jm ρ a b m out ia ib):wpS (model prog w) A E s (CL a b (none,out,ia,ib,g)) (λr st'=>Sm st st'/\match r with
  | .done c=>∃ r q,c=(some r,q)/\Res ρ a.toList b.toList r
  | .yield c=>∃ out ia ib g,c=(none,out,ia,ib,g)/\Jm ρ a b (m+1) out ia ib) st:=by
 have pos:0<a.size+b.size:=by have:=h.2.2.1; lia
 unfold CL
 dsimp only
 refine adb (aVU (ag5 (I:=λx c st2=>st2=st/\∃ out ia ib k k1,c=(none,out,ia,ib,k,k1)/\Jm ρ a b (m+x) out ia ib) (Q:=λc st2=>st2=st/\Q2 ρ a b (m+1) c) ?turn ?last ?first) ?after)
 case first=>exact ⟨rfl,_,_,_,_,_,rfl,h⟩
 case last =>
  rintro c st2 ⟨rfl,out,ia,ib,k,k1,rfl,J⟩
  exact ⟨rfl,.inr ⟨_,_,_,_,_,rfl,J.weak (by lia)⟩⟩
 case turn =>
  rintro x c st2 _ hx ⟨rfl,out,ia,ib,k,k1,rfl,J⟩
  refine aVU (VP h0 hk T J) ?_
  rintro r st3 ⟨rfl,hr⟩
  cases r with
  | done c =>
   refine ⟨rfl,?_⟩
   rcases hr with hr | ⟨out,ia,ib,k,k1,rfl,J⟩
   .exact .inl hr
   .exact .inr ⟨_,_,_,_,_,rfl,J.weak (by lia)⟩
  | yield c=>exact ⟨rfl,hr⟩
 case after =>
  rintro c st2 ⟨rfl,hc⟩
  rcases hc with ⟨r,q,rfl,R⟩ | ⟨out,ia,ib,k,k1,rfl,J⟩
  .exact aRf ⟨Sm.refl _,_,_,rfl,R⟩
  .dsimp only
   refine adb (wpS_lift (aPe ⟨rfl,?_⟩))
   refine adb (aVU (ag5 (I:=λx c st3=>Sm st2 st3/\∃ out ia ib g k k1,c=(none,out,ia,ib,g,k,k1)/\Jm ρ a b (m+x) out ia ib) (Q:=λc st3=>Sm st2 st3/\QO ρ a b (m+1) c) ?jturn ?jlast ?jfirst) ?jafter)
   case jfirst=>exact ⟨Sm.refl _,_,_,_,_,_,_,rfl,J.weak (by lia)⟩
   case jlast =>
    rintro c st3 ⟨hS,out,ia,ib,g,k,k1,rfl,J⟩
    exact ⟨hS,.inr ⟨_,_,_,_,_,_,rfl,J.weak (by lia)⟩⟩
   case jturn =>
    rintro x c st3 _ hx ⟨hS,out,ia,ib,g,k,k1,rfl,J⟩
    have Hf:kindOf st3=κ:=hS.1.trans hk
    dsimp only
    rw [show (if g > 1 then lo1 a b out ia ib (g - 1) k k1 else lo1 a b out ia ib g k k1)=lo1 a b out ia ib (if g > 1 then g - 1 else g) k k1 by split <;> rfl]
    refine aVU (VQ h0 Hf T hS J) ?_
    rintro r cY ⟨qI,hr⟩
    cases r with
    | done c =>
     refine ⟨qI,?_⟩
     rcases hr with hr | ⟨out,ia,ib,g,k,k1,rfl,J⟩
     .exact .inl hr
     .exact .inr ⟨_,_,_,_,_,_,rfl,J.weak (by lia)⟩
    | yield c=>exact ⟨qI,hr⟩
   case jafter =>
    rintro c st3 ⟨hS,hc⟩
    rcases hc with ⟨r,q,rfl,R⟩ | ⟨out,ia,ib,g,k,k1,rfl,J⟩
    .exact aRf ⟨hS,_,_,rfl,R⟩
    .refine adb (Dw λcY qI=>aRf ⟨hS.trans qI,_,_,_,_,rfl,J⟩)
theorem ZkL {st:SortSt} {Q:Array Keyed->SortSt->Prop} (h0:aH.je prog w A s κ ρ a₀) (hk:kindOf st=κ) (T:yD ρ a₀ a b) (ha:0<a.size) (hb:0<b.size) (hf:∀ x∈a.toList,ρ.g b[0]<=ρ.g x)
  (h:∀ r st',Sm st st'->Res ρ a.toList b.toList r->Q r st'):wpS (model prog w) A E s (Jl a b) Q st:=by
 refine ZkK _ _ ?_
 refine adb (wpS_lift (aPe ⟨rfl,?_⟩))
 refine adb (ZE hb ?_)
 have M0:MI ρ a.toList b.toList (#[]:Array Keyed).toList 0 0:=⟨by simp,by simpa using T.sa,by simpa using T.sb⟩
 have M1:MI ρ a.toList b.toList (#[b[0]]:Array Keyed).toList 0 1:=M0.jU hb (λx hx=>hf x (by simpa using hx))
 by_cases e1:1=b.size
 .rw [abw (by simpa using e1)]
  exact aRf (h _ _ (Sm.refl _) (M1.res (.inr (aX5 (by simp; lia)))))
 .rw [aM3 (by simpa using e1)]
  by_cases e2:0+1=a.size
  .rw [abw (by simpa using e2)]
   exact aRf (h _ _ (Sm.refl _) (M1.last T.last e2))
  .rw [aM3 (by simpa using e2)]
   refine adb (a2J ?_)
   refine adb (aVU (ag5 (I:=λx c st2=>Sm st st2/\∃ out ia ib g,c=(none,out,ia,ib,g)/\Jm ρ a b (x+1) out ia ib) (Q:=λc st2=>Sm st st2/\∃ r q,c=(some r,q)/\Res ρ a.toList b.toList r) ?turn ?last ?first) ?after)
   case first=>exact ⟨Sm.refl _,_,_,_,_,rfl,M1,by lia,by lia,by lia⟩
   case last =>
    rintro c st2 ⟨_,out,ia,ib,g,rfl,J⟩
    have:=J.2.1
    have:=J.2.2.1
    have:=J.2.2.2
    lia
   case turn =>
    rintro x c st2 _ hx ⟨hS,out,ia,ib,g,rfl,J⟩
    refine aVU (VO h0 (hS.1.trans hk) T J) ?_
    rintro r st3 ⟨vQ,hr⟩
    cases r with
    | done c=>exact ⟨hS.trans vQ,hr⟩
    | yield c=>exact ⟨hS.trans vQ,hr⟩
   case after =>
    rintro c st2 ⟨hS,r,q,rfl,R⟩
    exact aRf (h r st2 hS R)
end
structure MH (ρ:aH.RR) (A B O:List Keyed) (na nb:Nat):Prop where
 perm:(A.take na++B.take nb++O).Perm (A++B)
 sa:(A.take na++O).Pairwise (Lk ρ)
 sb:(B.take nb++O).Pairwise (Lk ρ)
section
variable {ρ:aH.RR} {A B O:List Keyed} {na nb:Nat}
theorem MH.iJ (h:MH ρ A B O na nb) (k:Nat) (hkn:k<=nb) (hk:∀ t∈(B.take nb).drop k,∀ x∈A.take na,ρ.g x<=ρ.g t):MH ρ A B ((B.take nb).drop k++O) na k:=by
 have e:B.take k=(B.take nb).take k:=by rw [List.take_take,Nat.min_eq_left hkn]
 have s:=h.sb
 have p:=h.perm
 rw [← azl k (B.take nb),aAq] at s
 rw [← azl k (B.take nb)] at p
 refine ⟨?_,?_,?_⟩
 .rw [e]
  refine List.Perm.trans ?_ p
  simp only [aAq]
  exact List.Perm.refl _
 .have s1:=(aOJ.1 s).2.1
  have a1:=aOJ.1 h.sa
  refine aOJ.2 ⟨a1.1,s1,λx hx y hy=>?_⟩
  rcases a1m.1 hy with hy | hy
  .exact hk y hy x hx
  .exact a1.2.2 x hx y hy
 .rw [e]
  exact s
theorem MH.jS (h:MH ρ A B O na nb) (k:Nat) (hkn:k<=na) (hk:∀ t∈(A.take na).drop k,∀ x∈B.take nb,ρ.g x<=ρ.g t):MH ρ A B ((A.take na).drop k++O) k nb:=by
 have h2:MH ρ B A O nb na:=⟨List.Perm.trans (aRL.append_right _) (List.Perm.trans h.perm aRL),h.sb,h.sa⟩
 have h3:=h2.iJ k hkn hk
 exact ⟨List.Perm.trans (aRL.append_right _) (List.Perm.trans h3.perm aRL),h3.sb,h3.sa⟩
theorem oB (a:Array Keyed) (k:Nat):(a.extract 0 k).toList=a.toList.take k:=by
 rw [aBe,List.extract_eq_drop_take,drop_zero,Nat.sub_zero]
theorem yg (a:Array Keyed) (i k:Nat):(a.extract i k).toList=(a.toList.take k).drop i:=by
 rw [aBe,List.extract_eq_drop_take,drop_take]
theorem MH.res {a b out:Array Keyed} (h:MH ρ a.toList b.toList out.toList.reverse na nb) (he:na=0\/nb=0):Res ρ a.toList b.toList (a.extract 0 na++b.extract 0 nb++out.reverse):=by
 unfold Res
 rw [aje,aje,oB,oB,ba5]
 refine ⟨h.perm,?_⟩
 rcases he with rfl | rfl
 .rw [take_zero,List.nil_append]; exact h.sb
 .rw [take_zero,bcu]; exact h.sa
theorem MH.first {a b out:Array Keyed} (h:MH ρ a.toList b.toList out.toList.reverse na 1) (hl:∀ y∈b.toList.take 1,∀ x∈a.toList,ρ.g y<=ρ.g x):Res ρ a.toList b.toList (b.extract 0 1++a.extract 0 na++out.reverse):=by
 have h2:=h.jS 0 (aUM _) (λt ht x hx=>hl x hx t (List.mem_of_mem_take (List.mem_of_mem_drop ht)))
 rw [drop_zero] at h2
 unfold Res
 rw [aje,aje,oB,oB,ba5]
 have p:=h2.perm
 have s:=h2.sb
 rw [take_zero,List.nil_append,← aAq] at p
 rw [← aAq] at s
 exact ⟨p,s⟩
end
abbrev pG:=Option (Array Keyed)×Nat×Nat×Array Keyed×Nat×Nat×Nat
def C0 (a b:Array Keyed) (na nb:Nat) (out:Array Keyed) (g k k1:Nat):StateT SortSt Sem (ForInStep pG):=do
 let x ← elem' a (na - 1)
 if na - 1 == 0 then pure (.done (some (a.extract 0 (na - 1)++b.extract 0 nb++(out.push x).reverse),na - 1,nb,out.push x,g,k,k1))
 else if k<7 && k1<7 then pure (.done (none,na - 1,nb,out.push x,g,k,k1)) else pure (.yield (none,na - 1,nb,out.push x,g,k,k1))
def hi2 (a b:Array Keyed) (na nb:Nat) (out:Array Keyed) (g k bc:Nat):StateT SortSt Sem (ForInStep pG):=do
 let x ← elem' b (nb - 1)
 if nb - 1 == 1 then pure (.done (some (b.extract 0 (nb - 1)++a.extract 0 na++(out.push x).reverse),na,nb - 1,out.push x,g,k,bc))
 else do
  let y ← elem' a (na - 1)
  let r ← yr true y b 0 (nb - 1) (nb - 1 - 1)
  match r with
  | some i =>
   if nb - 1 - i > 0 then
    if i == 1 then pure (.done (some (b.extract 0 i++a.extract 0 na++(out.push x++(b.extract i (nb - 1)).reverse).reverse),na,i,out.push x++(b.extract i (nb - 1)).reverse,g,k,nb - 1 - i))
    else if i == 0 then pure (.done (some (a.extract 0 na++b.extract 0 i++(out.push x++(b.extract i (nb - 1)).reverse).reverse),na,i,out.push x++(b.extract i (nb - 1)).reverse,g,k,nb - 1 - i))
    else C0 a b na i (out.push x++(b.extract i (nb - 1)).reverse) g k (nb - 1 - i)
   else C0 a b na (nb - 1) (out.push x) g k (nb - 1 - i)
  | none=>pure (.done (some (a.extract 0 na++b.extract 0 (nb - 1)++(out.push x).reverse),na,nb - 1,out.push x,g,k,bc))
def hi1 (a b:Array Keyed) (na nb:Nat) (out:Array Keyed) (g ac bc:Nat):StateT SortSt Sem (ForInStep pG):=do
 yC g
 let y ← elem' b (nb - 1)
 let r ← yr false y a 0 na (na - 1)
 match r with
 | some i =>
  if na - i > 0 then
   if i == 0 then pure (.done (some (a.extract 0 i++b.extract 0 nb++(out++(a.extract i na).reverse).reverse),i,nb,out++(a.extract i na).reverse,g,na - i,bc))
   else hi2 a b i nb (out++(a.extract i na).reverse) g (na - i) bc
  else hi2 a b na nb out g (na - i) bc
 | none=>pure (.done (some (a.extract 0 na++b.extract 0 nb++out.reverse),na,nb,out,g,ac,bc))
abbrev tO:=Option (Array Keyed)×Nat×Nat×Array Keyed×Nat×Nat
def CZ (a b:Array Keyed) (mg:Nat) (c:tO):StateT SortSt Sem (ForInStep tO):=do
 let y ← elem' b (c.2.2.1 - 1)
 let x ← elem' a (c.2.1 - 1)
 let r ← lt' y x
 match r with
 | some w =>
  if w then do
   let x ← elem' a (c.2.1 - 1)
   if c.2.1 - 1 == 0 then pure (.done (some (a.extract 0 (c.2.1 - 1)++b.extract 0 c.2.2.1++(c.2.2.2.1.push x).reverse),c.2.1 - 1,c.2.2.1,c.2.2.2.1.push x,c.2.2.2.2.1+1,0))
   else if c.2.2.2.2.1+1 ≥ mg then pure (.done (none,c.2.1 - 1,c.2.2.1,c.2.2.2.1.push x,c.2.2.2.2.1+1,0))
   else pure (.yield (none,c.2.1 - 1,c.2.2.1,c.2.2.2.1.push x,c.2.2.2.2.1+1,0))
  else do
   let y ← elem' b (c.2.2.1 - 1)
   if c.2.2.1 - 1 == 1 then pure (.done (some (b.extract 0 (c.2.2.1 - 1)++a.extract 0 c.2.1++(c.2.2.2.1.push y).reverse),c.2.1,c.2.2.1 - 1,c.2.2.2.1.push y,0,c.2.2.2.2.2+1))
   else if c.2.2.2.2.2+1 ≥ mg then pure (.done (none,c.2.1,c.2.2.1 - 1,c.2.2.2.1.push y,0,c.2.2.2.2.2+1))
   else pure (.yield (none,c.2.1,c.2.2.1 - 1,c.2.2.2.1.push y,0,c.2.2.2.2.2+1))
 | none=>pure (.done (some (a.extract 0 c.2.1++b.extract 0 c.2.2.1++c.2.2.2.1.reverse),c.2.1,c.2.2.1,c.2.2.2.1,c.2.2.2.2.1,c.2.2.2.2.2))
abbrev wO:=Option (Array Keyed)×Nat×Nat×Array Keyed×Nat
def CY (a b:Array Keyed) (c:wO):StateT SortSt Sem (ForInStep wO):=do
 let d ← forIn [0:a.size+b.size] ((none,c.2.1,c.2.2.1,c.2.2.2.1,0,0):tO) (λ_ d=>CZ a b c.2.2.2.2 d)
 match d.1 with
 | some r=>pure (.done (some r,d.2.1,d.2.2.1,d.2.2.2.1,c.2.2.2.2))
 | none=>do
  rule "list.sort.gallop"
  let e ← forIn [0:a.size+b.size] ((none,d.2.1,d.2.2.1,d.2.2.2.1,c.2.2.2.2+1,d.2.2.2.2.1,d.2.2.2.2.2):pG) (λ_ e=>if e.2.2.2.2.1 > 1 then hi1 a b e.2.1 e.2.2.1 e.2.2.2.1 (e.2.2.2.2.1 - 1) e.2.2.2.2.2.1 e.2.2.2.2.2.2 else hi1 a b e.2.1 e.2.2.1 e.2.2.2.1 e.2.2.2.2.1 e.2.2.2.2.2.1 e.2.2.2.2.2.2)
  match e.1 with
  | some r=>pure (.done (some r,e.2.1,e.2.2.1,e.2.2.2.1,e.2.2.2.2.1))
  | none=>do
   yC (e.2.2.2.2.1+1)
   pure (.yield (none,e.2.1,e.2.2.1,e.2.2.2.1,e.2.2.2.2.1+1))
theorem ZkM {M:Model} {A:Around} {E:Value->Shared->Prop} {s:Shared} {Q:Array Keyed->SortSt->Prop} {st:SortSt} (a b:Array Keyed) (h:wpS M A E s (do
 rule "list.sort.merge-hi"
 let x ← elem' a (a.size - 1)
 if a.size - 1 == 0 then pure (a.extract 0 (a.size - 1)++b.extract 0 b.size++#[x].reverse)
 else if b.size == 1 then pure (b.extract 0 b.size++a.extract 0 (a.size - 1)++#[x].reverse)
 else do
  let st ← get
  let c ← forIn [0:a.size+b.size] ((none,a.size - 1,b.size,#[x],gallopOf st):wO) (λ_ c=>CY a b c)
  match c.1 with
  | some r=>pure r
  | none=>unsupported "internal:list.sort.merge-bound") Q st):wpS M A E s (Jk a b) Q st:=by
 show wpAny M A (Jk a b st) _ E s
 wp_delta
 wp_delta
 refine qQ ?_ h
 dsimp only
 refine aTi λ_=>aTi λx=>?_
 congr 1
 congr 1
 refine aTi λst=>?_
 congr 1
 .congr 1
  funext _ c
  unfold CY
  congr 1
  .congr 1
   funext _ d
   unfold CZ
   refine aTi λy=>aTi λx=>aTi λr=>?_
   cases r with
   | some w =>
    cases w with
    | true=>rfl
    | false=>rfl
   | none=>rfl
  .funext d
   cases d.1 with
   | some r=>rfl
   | none =>
    dsimp only
    refine aTi λ_=>?_
    congr 1
    .congr 1
     funext _ e
     congr 1
     all_goals
      unfold hi1
      refine aTi λ_=>aTi λy=>aTi λr=>?_
      cases r with
      | none=>rfl
      | some k =>
       dsimp only
       congr 1
       .congr 1
        unfold hi2
        refine aTi λx=>?_
        congr 1
        refine aTi λy=>aTi λr=>?_
        cases r with
        | none=>rfl
        | some k1=>rfl
       .unfold hi2
        refine aTi λx=>?_
        congr 1
        refine aTi λy=>aTi λr=>?_
        cases r with
        | none=>rfl
        | some k1=>rfl
    .funext e
     cases e.1 with
     | some r=>rfl
     | none=>rfl
 .funext c
  cases c.1 with
  | some r=>rfl
  | none=>rfl
section
variable {prog:Program} {w:World} {A:Around} {E:Value->Shared->Prop} {s:Shared} {a₀:Array Keyed} {κ:SortKind} {ρ:aH.RR} {a b:Array Keyed}
theorem Io (h:a.toList.Pairwise (Lk ρ)) {n:Nat} (hn:n<=a.size):fq ρ a 0 (0+n):=by
 intro x y hx hxy hy
 have hy':y<a.size:=by lia
 rw [bE (show x<a.size by lia),bE hy']
 by_cases e:x=y
 .subst e; lia
 .exact a2h.1 h x y (by simpa using (show x<a.size by lia)) (by simpa using hy') (by lia)
theorem Im {n:Nat} {x:Keyed} (h:x∈a.toList.take n):∃ j,j<n/\∃ hj:j<a.size,x=a[j]:=by
 obtain ⟨j,hj,e⟩:=a3T.1 h
 rw [aIq,aYJ] at hj
 refine ⟨j,by lia,by lia,?_⟩
 rw [← e,getElem_take,aWX]
theorem IA {i n:Nat} {x:Keyed} (h:x∈(a.toList.take n).drop i):∃ j,i<=j/\j<n/\∃ hj:j<a.size,x=a[j]:=by
 obtain ⟨j,hj,e⟩:=a3T.1 h
 rw [abS,aIq,aYJ] at hj
 refine ⟨i+j,by lia,by lia,by lia,?_⟩
 rw [← e,getElem_drop,getElem_take,aWX]
theorem Cut.zU {left:Bool} {kv:Int} {n k:Nat} (h:Cut ρ left kv a 0 n k) {x:Keyed} (hx:x∈a.toList.take k):ρ.g x<=kv:=by
 obtain ⟨j,hj,hs,rfl⟩:=Im hx
 have:=h.lo j hj
 unfold Bd at this
 simp only [asM] at this
 rw [bE hs] at this
 cases left with
 | true=>simp only [aOV,ayt] at this; lia
 | false=>simp only [aqO,at1,aKM,aFw] at this; lia
theorem Cut.uw {left:Bool} {kv:Int} {n k:Nat} (h:Cut ρ left kv a 0 n k) {x:Keyed} (hx:x∈(a.toList.take n).drop k):kv<=ρ.g x:=by
 obtain ⟨j,hk,hj,hs,rfl⟩:=IA hx
 have:=h.hi j hk hj
 unfold Bd at this
 simp only [asM] at this
 rw [bE hs] at this
 cases left with
 | true=>simp only [aOV,aFw] at this; lia
 | false=>simp only [aqO,at1,Bool.not_eq_false',ayt] at this; lia
theorem D7 {n:Nat} (hn:0<n) (hs:n<=a.size):(a.toList.take n).drop (n - 1)=[a[n - 1]]:=by
 rw [drop_take,show n - (n - 1)=1 by lia]
 exact Bl (by lia)
theorem DH {n:Nat} (hn:0<n) (hs:n<=a.size) (h:a.toList.Pairwise (Lk ρ)) {x:Keyed} (hx:x∈a.toList.take n):ρ.g x<=ρ.g a[n - 1]:=by
 obtain ⟨j,hj,hs2,rfl⟩:=Im hx
 have:=Io h hs j (n - 1) (by lia) (by lia) (by lia)
 rw [bE hs2,bE (show n - 1<a.size by lia)] at this
 exact this
theorem MH.first' {out:Array Keyed} {na nb:Nat} (h:MH ρ a.toList b.toList out.toList.reverse na nb) (hl:∀ y∈b.toList.take 1,∀ x∈a.toList,ρ.g y<=ρ.g x) (e:nb=1):Res ρ a.toList b.toList (b.extract 0 nb++a.extract 0 na++out.reverse):=by
 subst e
 exact h.first hl
structure yE (ρ:aH.RR) (a₀ a b:Array Keyed):Prop where
 ma:∀ p∈a.toList,p∈a₀.toList
 mb:∀ p∈b.toList,p∈a₀.toList
 sa:a.toList.Pairwise (Lk ρ)
 sb:b.toList.Pairwise (Lk ρ)
 first:∀ y∈b.toList.take 1,∀ x∈a.toList,ρ.g y<=ρ.g x
structure Jh (ρ:aH.RR) (a b:Array Keyed) (m na nb:Nat) (out:Array Keyed):Prop where
 M:MH ρ a.toList b.toList out.toList.reverse na nb
 bd:na+nb+m<=a.size+b.size
 la:na<=a.size
 lb:nb<=b.size
 pa:1<=na
 pb:2<=nb
theorem Jh.weak {m m' na nb:Nat} {out:Array Keyed} (h:Jh ρ a b m na nb out) (hm:m'<=m):Jh ρ a b m' na nb out:=⟨h.M,by have:=h.bd; lia,h.la,h.lb,h.pa,h.pb⟩
def QT (ρ:aH.RR) (a b:Array Keyed) (m:Nat) (c:pG):Prop:=(∃ r q,c=(some r,q)/\Res ρ a.toList b.toList r)\/∃ na nb out g k k1,c=(none,na,nb,out,g,k,k1)/\Jh ρ a b m na nb out
def Lz (ρ:aH.RR) (a b:Array Keyed) (m:Nat) (st:SortSt) (r:ForInStep pG) (st':SortSt):Prop:=Sm st st'/\match r with
 | .done c=>QT ρ a b m c
 | .yield c=>∃ na nb out g k k1,c=(none,na,nb,out,g,k,k1)/\Jh ρ a b m na nb out
theorem MH.jV {out:Array Keyed} {na nb:Nat} (h:MH ρ a.toList b.toList out.toList.reverse na nb) (hn:0<na) (hs:na<=a.size) (hk:∀ x∈b.toList.take nb,ρ.g x<=ρ.g a[na - 1]):MH ρ a.toList b.toList (out.push a[na - 1]).toList.reverse (na - 1) nb:=by
 have:=h.jS (na - 1) (by lia) (by rw [D7 hn hs]; intro t ht x hx; rw [arG.1 ht]; exact hk x hx)
 rw [D7 hn hs] at this
 rw [aZl,List.reverse_append]
 exact this
theorem MH.jU {out:Array Keyed} {na nb:Nat} (h:MH ρ a.toList b.toList out.toList.reverse na nb) (hn:0<nb) (hs:nb<=b.size) (hk:∀ x∈a.toList.take na,ρ.g x<=ρ.g b[nb - 1]):MH ρ a.toList b.toList (out.push b[nb - 1]).toList.reverse na (nb - 1):=by
 have:=h.iJ (nb - 1) (by lia) (by rw [D7 hn hs]; intro t ht x hx; rw [arG.1 ht]; exact hk x hx)
 rw [D7 hn hs] at this
 rw [aZl,List.reverse_append]
 exact this
theorem Nr (out:Array Keyed) (i n:Nat):(out++(a.extract i n).reverse).toList.reverse=(a.toList.take n).drop i++out.toList.reverse:=by
 rw [aje,List.reverse_append,ba5,List.reverse_reverse,yg]
theorem Nq {gm st:SortSt} {out:Array Keyed} {na nb g k k1 m:Nat} (T:yE ρ a₀ a b) (hS:Sm gm st) (h:Jh ρ a b m na nb out) (hk:∀ x∈b.toList.take nb,ρ.g x<=ρ.g (a[na - 1]'(by have:=h.pa; have:=h.la; lia))):wpS (model prog w) A E s (C0 a b na nb out g k k1) (Lz ρ a b (m+1) gm) st:=by
 obtain ⟨M,bd,la,lb,pa,pb⟩:=h
 unfold C0
 refine adb (ZE (show na - 1<a.size by lia) ?_)
 have M2:=M.jV (by lia) la hk
 by_cases e:na - 1=0
 .rw [abw (by simpa using e)]
  exact aRf ⟨hS,.inl ⟨_,_,rfl,M2.res (.inl e)⟩⟩
 .rw [aM3 (by simpa using e)]
  have J:Jh ρ a b (m+1) (na - 1) nb (out.push a[na - 1]):=⟨M2,by lia,by lia,lb,by lia,pb⟩
  by_cases c:(decide (k<7) && decide (k1<7))=true
  .rw [abw c]
   exact aRf ⟨hS,.inr ⟨_,_,_,_,_,_,rfl,J⟩⟩
  .rw [aM3 c]
   exact aRf ⟨hS,_,_,_,_,_,_,rfl,J⟩
theorem Np {gm st:SortSt} {out:Array Keyed} {na nb g k bc m:Nat} (h0:aH.je prog w A s κ ρ a₀) (hk:kindOf st=κ) (T:yE ρ a₀ a b) (hS:Sm gm st) (h:Jh ρ a b m na nb out) (hq:∀ x∈a.toList.take na,ρ.g x<=ρ.g (b[nb - 1]'(by have:=h.pb; have:=h.lb; lia))):wpS (model prog w) A E s (hi2 a b na nb out g k bc) (Lz ρ a b (m+1) gm) st:=by
 obtain ⟨M,bd,la,lb,pa,pb⟩:=h
 unfold hi2
 refine adb (ZE (show nb - 1<b.size by lia) ?_)
 have M2:=M.jU (by lia) lb hq
 by_cases e:nb - 1=1
 .rw [abw (by simpa using e)]
  exact aRf ⟨hS,.inl ⟨_,_,rfl,M2.first' T.first e⟩⟩
 .rw [aM3 (by simpa using e)]
  refine adb (ZE (show na - 1<a.size by lia) ?_)
  refine adb (yy hk h0 T.mb (T.ma _ (by simp)) (by lia) (by lia) (Io T.sb (by lia)) (λi C=>?_))
  dsimp only
  have fa:∀ x∈a.toList.take na,ρ.g x<=ρ.g a[na - 1]:=λx hx=>DH (by lia) la T.sa hx
  have ci:=C.le
  have M3:=M2.iJ i (by lia) (λt ht x hx=>arf (fa x hx) (C.uw ht))
  rw [← Nr] at M3
  have hi:∀ x∈b.toList.take i,ρ.g x<=ρ.g a[na - 1]:=λx hx=>C.zU hx
  by_cases c:nb - 1 - i > 0
  .rw [abw c]
   by_cases e2:i=1
   .rw [abw (by simpa using e2)]
    exact aRf ⟨hS,.inl ⟨_,_,rfl,M3.first' T.first e2⟩⟩
   .rw [aM3 (by simpa using e2)]
    by_cases e3:i=0
    .rw [abw (by simpa using e3)]
     exact aRf ⟨hS,.inl ⟨_,_,rfl,M3.res (.inr e3)⟩⟩
    .rw [aM3 (by simpa using e3)]
     exact Nq T hS ⟨M3,by lia,la,by lia,pa,by lia⟩ hi
  .rw [aM3 c]
   have e3:i=nb - 1:=by lia
   subst e3
   exact Nq T hS ⟨M2,by lia,la,by lia,pa,by lia⟩ hi
theorem VN {gm st:SortSt} {out:Array Keyed} {na nb g ac bc m:Nat} (h0:aH.je prog w A s κ ρ a₀) (hk:kindOf st=κ) (T:yE ρ a₀ a b) (hS:Sm gm st) (h:Jh ρ a b m na nb out):wpS (model prog w) A E s (hi1 a b na nb out g ac bc) (Lz ρ a b (m+1) gm) st:=by
 obtain ⟨M,bd,la,lb,pa,pb⟩:=h
 unfold hi1
 refine adb (Dw λst1 vR=>?_)
 have hk1:kindOf st1=κ:=vR.1.trans hk
 have pN:=hS.trans vR
 refine adb (ZE (show nb - 1<b.size by lia) ?_)
 refine adb (yy hk1 h0 T.ma (T.mb _ (by simp)) (by lia) (by lia) (Io T.sa la) (λi C=>?_))
 dsimp only
 have fb:∀ x∈b.toList.take nb,ρ.g x<=ρ.g b[nb - 1]:=λx hx=>DH (by lia) lb T.sb hx
 have ci:=C.le
 have M3:=M.jS i ci (λt ht x hx=>arf (fb x hx) (C.uw ht))
 rw [← Nr] at M3
 have hi:∀ x∈a.toList.take i,ρ.g x<=ρ.g b[nb - 1]:=λx hx=>C.zU hx
 by_cases c:na - i > 0
 .rw [abw c]
  by_cases e2:i=0
  .rw [abw (by simpa using e2)]
   exact aRf ⟨pN,.inl ⟨_,_,rfl,M3.res (.inl e2)⟩⟩
  .rw [aM3 (by simpa using e2)]
   exact Np h0 hk1 T pN ⟨M3,by lia,by lia,lb,by lia,pb⟩ hi
 .rw [aM3 c]
  have e3:i=na:=by lia
  subst e3
  exact Np h0 hk1 T pN ⟨M,by lia,la,lb,pa,pb⟩ hi
def QU (ρ:aH.RR) (a b:Array Keyed) (m:Nat) (c:tO):Prop:=(∃ r q,c=(some r,q)/\Res ρ a.toList b.toList r)\/∃ na nb out k k1,c=(none,na,nb,out,k,k1)/\Jh ρ a b m na nb out
theorem VM {st:SortSt} {out:Array Keyed} {mg na nb ac bc m:Nat} (h0:aH.je prog w A s κ ρ a₀) (hk:kindOf st=κ) (T:yE ρ a₀ a b) (h:Jh ρ a b m na nb out):wpS (model prog w) A E s (CZ a b mg (none,na,nb,out,ac,bc)) (λr st'=>st'=st/\match r with
  | .done c=>QU ρ a b (m+1) c
  | .yield c=>∃ na nb out k k1,c=(none,na,nb,out,k,k1)/\Jh ρ a b (m+1) na nb out) st:=by
 obtain ⟨M,bd,la,lb,pa,pb⟩:=h
 have fa:∀ x∈a.toList.take na,ρ.g x<=ρ.g a[na - 1]:=λx hx=>DH (by lia) la T.sa hx
 have fb:∀ x∈b.toList.take nb,ρ.g x<=ρ.g b[nb - 1]:=λx hx=>DH (by lia) lb T.sb hx
 have ha:na - 1<a.size:=by lia
 have hb:nb - 1<b.size:=by lia
 unfold CZ
 dsimp only
 refine adb (ZE hb (adb (ZE ha (adb (lN hk h0 (T.mb _ (by simp)) (T.ma _ (by simp)) ?_)))))
 dsimp only
 by_cases c:ρ.g b[nb - 1]<ρ.g a[na - 1]
 .rw [aea c,abw rfl]
  refine adb (ZE ha ?_)
  have M2:=M.jV (by lia) la (λx hx=>by have:=fb x hx; lia)
  by_cases e:na - 1=0
  .rw [abw (by simpa using e)]
   exact aRf ⟨rfl,.inl ⟨_,_,rfl,M2.res (.inl e)⟩⟩
  .rw [aM3 (by simpa using e)]
   have J:Jh ρ a b (m+1) (na - 1) nb (out.push a[na - 1]):=⟨M2,by lia,by lia,lb,by lia,pb⟩
   by_cases c2:ac+1 ≥ mg
   .rw [abw c2]
    exact aRf ⟨rfl,.inr ⟨_,_,_,_,_,rfl,J⟩⟩
   .rw [aM3 c2]
    exact aRf ⟨rfl,_,_,_,_,_,rfl,J⟩
 .rw [a0j c,aM3 (by simp)]
  refine adb (ZE hb ?_)
  have M2:=M.jU (by lia) lb (λx hx=>by have:=fa x hx; lia)
  by_cases e:nb - 1=1
  .rw [abw (by simpa using e)]
   exact aRf ⟨rfl,.inl ⟨_,_,rfl,M2.first' T.first e⟩⟩
  .rw [aM3 (by simpa using e)]
   have J:Jh ρ a b (m+1) na (nb - 1) (out.push b[nb - 1]):=⟨M2,by lia,la,by lia,pa,by lia⟩
   by_cases c2:bc+1 ≥ mg
   .rw [abw c2]
    exact aRf ⟨rfl,.inr ⟨_,_,_,_,_,rfl,J⟩⟩
   .rw [aM3 c2]
    exact aRf ⟨rfl,_,_,_,_,_,rfl,J⟩
theorem VL {st:SortSt} {out:Array Keyed} {na nb g m:Nat} (h0:aH.je prog w A s κ ρ a₀) (hk:kindOf st=κ) (T:yE ρ a₀ a b) (h:Jh ρ a b m na nb out):wpS (model prog w) A E s (CY a b (none,na,nb,out,g)) (λr st'=>Sm st st'/\match r with
  | .done c=>∃ r q,c=(some r,q)/\Res ρ a.toList b.toList r
  | .yield c=>∃ na nb out g,c=(none,na,nb,out,g)/\Jh ρ a b (m+1) na nb out) st:=by
 have pos:0<a.size+b.size:=by have:=h.la; have:=h.pa; lia
 unfold CY
 dsimp only
 refine adb (aVU (ag5 (I:=λx c st2=>st2=st/\∃ na nb out k k1,c=(none,na,nb,out,k,k1)/\Jh ρ a b (m+x) na nb out) (Q:=λc st2=>st2=st/\QU ρ a b (m+1) c) ?turn ?last ?first) ?after)
 case first=>exact ⟨rfl,_,_,_,_,_,rfl,h⟩
 case last =>
  rintro c st2 ⟨rfl,na,nb,out,k,k1,rfl,J⟩
  exact ⟨rfl,.inr ⟨_,_,_,_,_,rfl,J.weak (by lia)⟩⟩
 case turn =>
  rintro x c st2 _ hx ⟨rfl,na,nb,out,k,k1,rfl,J⟩
  refine aVU (VM h0 hk T J) ?_
  rintro r st3 ⟨rfl,hr⟩
  cases r with
  | done c =>
   refine ⟨rfl,?_⟩
   rcases hr with hr | ⟨na,nb,out,k,k1,rfl,J⟩
   .exact .inl hr
   .exact .inr ⟨_,_,_,_,_,rfl,J.weak (by lia)⟩
  | yield c=>exact ⟨rfl,hr⟩
 case after =>
  rintro c st2 ⟨rfl,hc⟩
  rcases hc with ⟨r,q,rfl,R⟩ | ⟨na,nb,out,k,k1,rfl,J⟩
  .exact aRf ⟨Sm.refl _,_,_,rfl,R⟩
  .dsimp only
   refine adb (wpS_lift (aPe ⟨rfl,?_⟩))
   refine adb (aVU (ag5 (I:=λx c st3=>Sm st2 st3/\∃ na nb out g k k1,c=(none,na,nb,out,g,k,k1)/\Jh ρ a b (m+x) na nb out) (Q:=λc st3=>Sm st2 st3/\QT ρ a b (m+1) c) ?jturn ?jlast ?jfirst) ?jafter)
   case jfirst=>exact ⟨Sm.refl _,_,_,_,_,_,_,rfl,J.weak (by lia)⟩
   case jlast =>
    rintro c st3 ⟨hS,na,nb,out,g,k,k1,rfl,J⟩
    exact ⟨hS,.inr ⟨_,_,_,_,_,_,rfl,J.weak (by lia)⟩⟩
   case jturn =>
    rintro x c st3 _ hx ⟨hS,na,nb,out,g,k,k1,rfl,J⟩
    have Hf:kindOf st3=κ:=hS.1.trans hk
    dsimp only
    rw [show (if g > 1 then hi1 a b na nb out (g - 1) k k1 else hi1 a b na nb out g k k1)=hi1 a b na nb out (if g > 1 then g - 1 else g) k k1 by split <;> rfl]
    refine aVU (VN h0 Hf T hS J) ?_
    rintro r cY ⟨qI,hr⟩
    cases r with
    | done c =>
     refine ⟨qI,?_⟩
     rcases hr with hr | ⟨na,nb,out,g,k,k1,rfl,J⟩
     .exact .inl hr
     .exact .inr ⟨_,_,_,_,_,_,rfl,J.weak (by lia)⟩
    | yield c=>exact ⟨qI,hr⟩
   case jafter =>
    rintro c st3 ⟨hS,hc⟩
    rcases hc with ⟨r,q,rfl,R⟩ | ⟨na,nb,out,g,k,k1,rfl,J⟩
    .exact aRf ⟨hS,_,_,rfl,R⟩
    .refine adb (Dw λcY qI=>aRf ⟨hS.trans qI,_,_,_,_,rfl,J⟩)
theorem ZkN {st:SortSt} {Q:Array Keyed->SortSt->Prop} (h0:aH.je prog w A s κ ρ a₀) (hk:kindOf st=κ) (T:yE ρ a₀ a b) (ha:0<a.size) (hb:0<b.size) (hf:∀ x∈b.toList,ρ.g x<=ρ.g a[a.size - 1])
  (h:∀ r st',Sm st st'->Res ρ a.toList b.toList r->Q r st'):wpS (model prog w) A E s (Jk a b) Q st:=by
 refine ZkM _ _ ?_
 refine adb (wpS_lift (aPe ⟨rfl,?_⟩))
 refine adb (ZE (show a.size - 1<a.size by lia) ?_)
 have ta:a.toList.take a.size=a.toList:=ahH (by simp)
 have tb:b.toList.take b.size=b.toList:=ahH (by simp)
 have M0:MH ρ a.toList b.toList (#[]:Array Keyed).toList.reverse a.size b.size:=⟨by rw [ta,tb]; simp,by rw [ta]; simpa using T.sa,by rw [tb]; simpa using T.sb⟩
 have M1:MH ρ a.toList b.toList (#[a[a.size - 1]]:Array Keyed).toList.reverse (a.size - 1) b.size:=M0.jV ha (aEt _) (λx hx=>hf x (by rw [tb] at hx; exact hx))
 by_cases e1:a.size - 1=0
 .rw [abw (by simpa using e1)]
  exact aRf (h _ _ (Sm.refl _) (M1.res (.inl e1)))
 .rw [aM3 (by simpa using e1)]
  by_cases e2:b.size=1
  .rw [abw (by simpa using e2)]
   exact aRf (h _ _ (Sm.refl _) (M1.first' T.first e2))
  .rw [aM3 (by simpa using e2)]
   refine adb (a2J ?_)
   refine adb (aVU (ag5 (I:=λx c st2=>Sm st st2/\∃ na nb out g,c=(none,na,nb,out,g)/\Jh ρ a b (x+1) na nb out) (Q:=λc st2=>Sm st st2/\∃ r q,c=(some r,q)/\Res ρ a.toList b.toList r) ?turn ?last ?first) ?after)
   case first=>exact ⟨Sm.refl _,_,_,_,_,rfl,M1,by lia,by lia,by lia,by lia,by lia⟩
   case last =>
    rintro c st2 ⟨_,na,nb,out,g,rfl,J⟩
    have:=J.bd
    have:=J.pa
    lia
   case turn =>
    rintro x c st2 _ hx ⟨hS,na,nb,out,g,rfl,J⟩
    refine aVU (VL h0 (hS.1.trans hk) T J) ?_
    rintro r st3 ⟨vQ,hr⟩
    cases r with
    | done c=>exact ⟨hS.trans vQ,hr⟩
    | yield c=>exact ⟨hS.trans vQ,hr⟩
   case after =>
    rintro c st2 ⟨hS,r,q,rfl,R⟩
    exact aRf (h r st2 hS R)
end
end L2.tG
set_option maxHeartbeats 400000
namespace L2.tG
open PySem PySem.Spec PyProof.Rows
def Jj:Nat->StateT SortSt Sem Bool:=sortPriv% PySem.Builtin.mergeAt
def layAt (arr:Array Keyed) (at_:Nat) (l:List Keyed) (k:Nat):Array Keyed:=(l.zipIdx k).foldl (λa (p,j)=>a.setIfInBounds (at_+j) p) arr
theorem Ef (arr:Array Keyed) (at_:Nat) (l:List Keyed) (k i:Nat) (h:at_+k+l.length<=arr.size):(layAt arr at_ l k)[i]?=if at_+k<=i/\i<at_+k+l.length then l[i - (at_+k)]? else arr[i]?:=by
 induction l generalizing arr k with
 | nil=>rw [aM3 (by simp)]; rfl
 | cons x l ih =>
  have e:layAt arr at_ (x :: l) k=layAt (arr.setIfInBounds (at_+k) x) at_ l (k+1):=by
   unfold layAt
   rw [List.zipIdx_cons,List.foldl_cons]
  simp only [arz] at h ⊢
  rw [e,ih (arr.setIfInBounds (at_+k) x) (k+1) (by simp; lia)]
  by_cases c:at_+k=i
  .subst c
   rw [aM3 (by lia),abw (by lia),a2d,Array.getElem?_setIfInBounds_self_of_lt (by lia)]
   rfl
  .by_cases c2:at_+(k+1)<=i/\i<at_+(k+1)+l.length
   .rw [abw c2,abw (by lia),show i - (at_+k)=(i - (at_+(k+1)))+1 by lia,aS5]
   .rw [aM3 c2,aM3 (by lia),Array.getElem?_setIfInBounds_ne c]
theorem ZhD (arr:Array Keyed) (at_:Nat) (l:List Keyed) (h:at_+l.length<=arr.size):(layAt arr at_ l 0).toList=arr.toList.take at_++(l++arr.toList.drop (at_+l.length)):=by
 refine afx λi=>?_
 rw [abk,Ef arr at_ l 0 i (by lia),Nat.add_zero]
 have hl:(arr.toList.take at_).length=at_:=by rw [aIq,aYJ]; lia
 by_cases c1:i<at_
 .rw [aM3 (by lia),aY3 (by lia),List.getElem?_take_of_lt c1,abk]
 .rw [auv (by lia),hl]
  by_cases c2:i<at_+l.length
  .rw [abw (by lia),aY3 (by lia)]
  .rw [aM3 (by lia),auv (by lia),getElem?_drop,abk]
   congr 1
   lia
theorem ZkO {arr:Array Keyed} {at_ n:Nat} {l:List Keyed} (h:at_+n<=arr.size) (p:l.Perm (arr.extract at_ (at_+n)).toList):(layAt arr at_ l 0).Perm arr:=by
 rw [IB] at p
 have e:l.length=n:=by rw [p.length_eq,aIq,abS,aYJ]; lia
 refine ahA.2 ?_
 rw [ZhD arr at_ l (by lia),e]
 have d:arr.toList=arr.toList.take at_++((arr.toList.drop at_).take n++arr.toList.drop (at_+n)):=by
  rw [← drop_drop,azl,azl]
 conv=>rhs; rw [d]
 exact (p.append_right _).append_left _
section
variable {prog:Program} {w:World} {A:Around} {E:Value->Shared->Prop} {s:Shared} {a₀:Array Keyed} {κ:SortKind} {ρ:aH.RR}
theorem pw_ex {arr:Array Keyed} {i j:Nat} (hj:j<=arr.size) (h:fq ρ arr i j):(arr.extract i j).toList.Pairwise (Lk ρ):=by
 refine a2h.2 λx y hx hy hxy=>?_
 simp only [aYJ,Array.size_extract] at hx hy
 have:=h (i+x) (i+y) (by lia) (by lia) (by lia)
 rw [bE (show i+x<arr.size by lia),bE (show i+y<arr.size by lia)] at this
 simpa [Lk] using this
theorem Nn {arr:Array Keyed} {i j:Nat} {x:Keyed} (h:x∈(arr.extract i j).toList):∃ k,i<=k/\k<j/\k<arr.size/\ρ.g x=aH.Kg ρ arr k/\x∈arr.toList:=by
 rw [yg] at h
 obtain ⟨k,h1,h2,h3,rfl⟩:=IA h
 exact ⟨k,h1,h2,h3,(bE h3).symm,by simp⟩
theorem Il {arr:Array Keyed} {at_:Nat} {l:List Keyed} (h:at_+l.length<=arr.size) {i:Nat} (h1:at_<=i) (h2:i<at_+l.length):aH.Kg ρ (layAt arr at_ l 0) i=ρ.g (l[i - at_]'(by lia)):=by
 have:=Ef arr at_ l 0 i (by lia)
 rw [abw (by lia),Nat.add_zero,af3 (by lia)] at this
 unfold aH.Kg
 rw [this]
 rfl
theorem yf {arr:Array Keyed} {at_:Nat} {l:List Keyed} (h:at_+l.length<=arr.size) {i:Nat} (h1:i<at_\/at_+l.length<=i):aH.Kg ρ (layAt arr at_ l 0) i=aH.Kg ρ arr i:=by
 have:=Ef arr at_ l 0 i (by lia)
 rw [aM3 (by lia)] at this
 unfold aH.Kg
 rw [this]
end
end L2.tG
set_option maxHeartbeats 1000000
namespace L2.tG
open PySem PySem.Spec PyProof.Rows
section
variable {prog:Program} {w:World} {A:Around} {E:Value->Shared->Prop} {s:Shared} {a₀:Array Keyed} {κ:SortKind} {ρ:aH.RR}
theorem Wz {arr:Array Keyed} {u lo hi:Nat} {r:List Keyed} (h:u+r.length<=arr.size) (hr:r.Pairwise (Lk ρ)) (hne:0<r.length) (hl:fq ρ arr lo u) (hh:fq ρ arr (u+r.length) hi)
  (bl:∀ i,lo<=i->i<u->∀ x∈r,aH.Kg ρ arr i<=ρ.g x) (bh:∀ i,u+r.length<=i->i<hi->∀ x∈r,ρ.g x<=aH.Kg ρ arr i):fq ρ (layAt arr u r 0) lo hi:=by
 intro i j hi1 hij hj
 by_cases a1:i<u
 .rw [yf h (.inl a1)]
  by_cases b1:j<u
  .rw [yf h (.inl b1)]
   exact hl i j hi1 hij b1
  .by_cases b2:j<u+r.length
   .rw [Il h (by lia) b2]
    exact bl i hi1 a1 _ (aPI _)
   .rw [yf h (.inr (by lia))]
    exact arf (bl i hi1 a1 (r[0]'hne) (aPI _)) (bh j (by lia) hj _ (aPI _))
 .by_cases a2:i<u+r.length
  .rw [Il h (by lia) a2]
   by_cases b2:j<u+r.length
   .rw [Il h (by lia) b2]
    by_cases e:i=j
    .subst e; exact asI _
    .exact a2h.1 hr (i - u) (j - u) (by lia) (by lia) (by lia)
   .rw [yf h (.inr (by lia))]
    exact bh j (by lia) hj _ (aPI _)
  .rw [yf h (.inr (by lia)),yf h (.inr (by lia))]
   exact hh i j (by lia) hij hj
theorem Cut.vD {left:Bool} {kv:Int} {arr:Array Keyed} {base n k:Nat} (h:Cut ρ left kv arr base n k) {i:Nat} (h1:base<=i) (h2:i<base+k):aH.Kg ρ arr i<=kv:=by
 have:=h.lo (i - base) (by lia)
 unfold Bd at this
 rw [show base+(i - base)=i by lia] at this
 cases left with
 | true=>simp only [aOV,ayt] at this; lia
 | false=>simp only [aqO,at1,aKM,aFw] at this; lia
theorem Cut.qF {left:Bool} {kv:Int} {arr:Array Keyed} {base n k:Nat} (h:Cut ρ left kv arr base n k) {i:Nat} (h1:base+k<=i) (h2:i<base+n):kv<=aH.Kg ρ arr i:=by
 have:=h.hi (i - base) (by lia) (by lia)
 unfold Bd at this
 rw [show base+(i - base)=i by lia] at this
 cases left with
 | true=>simp only [aOV,aFw] at this; lia
 | false=>simp only [aqO,at1,Bool.not_eq_false',ayt] at this; lia
theorem Wy {st st':SortSt} {Q:PUnit->SortSt->Prop} (h:Q ⟨⟩ st'):wpS (model prog w) A E s (set st') Q st:=bbL (f:=λ_=>st') h
theorem ZkP {st:SortSt} {i sa na p sb nb q:Nat} {Q:Bool->SortSt->Prop} (h0:aH.je prog w A s κ ρ a₀) (hk:kindOf st=κ) (ha:∀ x∈(arrOf st).toList,x∈a₀.toList) (hfl:failedOf st=none)
  (e1:(pendingOf st)[i]?=some (sa,na,p)) (e2:(pendingOf st)[i+1]?=some (sb,nb,q)) (jG:sb=sa+na) (pa:0<na) (pb:0<nb) (hsz:sb+nb<=(arrOf st).size) (s1:fq ρ (arrOf st) sa (sa+na)) (s2:fq ρ (arrOf st) sb (sb+nb))
  (h:∀ st',kindOf st'=κ->failedOf st'=none->(arrOf st').Perm (arrOf st)->pendingOf st'=((pendingOf st).setIfInBounds i (sa,na+nb,p)).eraseIdxIfInBounds (i+1)->fq ρ (arrOf st') sa (sb+nb) ->
   (∀ j,j<sa\/sb+nb<=j->(arrOf st')[j]?=(arrOf st)[j]?)->Q true st'):wpS (model prog w) A E s (Jj i) Q st:=by
 show wpAny (model prog w) A (Jj i st) _ E s
 wp_delta
 wp_delta
 refine qQ rfl ?_
 refine adb (a2J ?_)
 rw [e1,e2]
 refine adb (Wy (st':=SortSt.mk' (kindOf st) (arrOf st) (((pendingOf st).setIfInBounds i (sa,na+nb,p)).eraseIdxIfInBounds (i+1)) (gallopOf st) (failedOf st)) ?_)
 generalize sE:SortSt.mk' (kindOf st) (arrOf st) (((pendingOf st).setIfInBounds i (sa,na+nb,p)).eraseIdxIfInBounds (i+1)) (gallopOf st) (failedOf st)=st1
 have k1:kindOf st1=κ:=by rw [← sE]; exact hk
 have f1:failedOf st1=none:=by rw [← sE]; exact hfl
 have a1:arrOf st1=arrOf st:=by rw [← sE]
 have p1:pendingOf st1=((pendingOf st).setIfInBounds i (sa,na+nb,p)).eraseIdxIfInBounds (i+1):=by rw [← sE]
 have hb0:sb<(arrOf st).size:=by lia
 refine adb (ZE hb0 ?_)
 refine adb (yy k1 h0 ha (ha _ (by simp)) (show sa+na<=(arrOf st).size by lia) pa s1 (λk C1=>?_))
 have c1:=C1.le
 rw [← bE hb0] at C1
 dsimp only
 have whole:(∀ x y,sa<=x->x<sb->sb<=y->y<sb+nb->aH.Kg ρ (arrOf st) x<=aH.Kg ρ (arrOf st) y)->fq ρ (arrOf st) sa (sb+nb):=λhc x y hx hxy hy=>by
  by_cases u:y<sb
  .exact s1 x y hx hxy (by lia)
  .by_cases v:x<sb
   .exact hc x y hx v (by lia) hy
   .exact s2 x y (by lia) hxy hy
 by_cases z:na - k=0
 .rw [abw (by simpa using z)]
  refine aRf (h st1 k1 f1 (by rw [a1]) p1 ?_ (λj _=>by rw [a1]))
  rw [a1]
  refine whole λx y hx GR hy GO=>?_
  exact arf (C1.vD hx (by lia)) (s2 sb y (aEt _) hy GO)
 .rw [aM3 (by simpa using z)]
  have qE:sa+k+(na - k) - 1<(arrOf st).size:=by lia
  refine adb (ZE qE ?_)
  refine adb (yy k1 h0 ha (ha _ (by simp)) (show sb+nb<=(arrOf st).size by lia) (by lia) s2 (λn2 C2=>?_))
  have c2:=C2.le
  rw [← bE qE,show sa+k+(na - k) - 1=sb - 1 by lia] at C2
  dsimp only
  by_cases z2:n2=0
  .rw [abw (by simpa using z2)]
   refine aRf (h st1 k1 f1 (by rw [a1]) p1 ?_ (λj _=>by rw [a1]))
   rw [a1]
   refine whole λx y hx GR hy GO=>?_
   exact arf (s1 x (sb - 1) hx (by lia) (by lia)) (C2.qF (by lia) GO)
  .rw [aM3 (by simpa using z2)]
   have c3:=Nat.pos_of_ne_zero z2
   have mX:∀ x∈((arrOf st).extract (sa+k) sb).toList,∃ j,sa+k<=j/\j<sb/\j<(arrOf st).size/\ρ.g x=aH.Kg ρ (arrOf st) j/\x∈(arrOf st).toList:=λx hx=>Nn hx
   have mY:∀ x∈((arrOf st).extract sb (sb+n2)).toList,∃ j,sb<=j/\j<sb+n2/\j<(arrOf st).size/\ρ.g x=aH.Kg ρ (arrOf st) j/\x∈(arrOf st).toList:=λx hx=>Nn hx
   have sX:((arrOf st).extract (sa+k) sb).toList.Pairwise (Lk ρ):=pw_ex (by lia) (λx y p q r=>s1 x y (by lia) q (by lia))
   have sY:((arrOf st).extract sb (sb+n2)).toList.Pairwise (Lk ρ):=pw_ex (by lia) (λx y p q r=>s2 x y (by lia) q (by lia))
   have zX:((arrOf st).extract (sa+k) sb).size=na - k:=by rw [Array.size_extract]; lia
   have zY:((arrOf st).extract sb (sb+n2)).size=n2:=by rw [Array.size_extract]; lia
   have low:∀ x∈((arrOf st).extract (sa+k) sb).toList,aH.Kg ρ (arrOf st) sb<=ρ.g x:=λx hx=>by
    obtain ⟨j,j1,j2,j3,e,_⟩:=mX x hx
    rw [e]
    exact C1.qF j1 (by lia)
   have high:∀ x∈((arrOf st).extract sb (sb+n2)).toList,ρ.g x<=aH.Kg ρ (arrOf st) (sb - 1):=λx hx=>by
    obtain ⟨j,j1,j2,j3,e,_⟩:=mY x hx
    rw [e]
    exact C2.vD j1 j2
   have fin:∀ r st',Sm st1 st'->Res ρ ((arrOf st).extract (sa+k) sb).toList ((arrOf st).extract sb (sb+n2)).toList r->wpS (model prog w) A E s (do
     modify λs=>SortSt.mk' (kindOf s) (layAt (arrOf s) (sa+k) r.toList 0) (pendingOf s) (gallopOf s) (failedOf s)
     return (failedOf (← get)).isNone) Q st':=by
    rintro r st' ⟨vR,pN,vQ,qI⟩ ⟨rp,rs⟩
    refine adb (bbL (adb (a2J (aRf ?_))))
    have ex:((arrOf st).extract (sa+k) sb).toList++((arrOf st).extract sb (sb+n2)).toList=((arrOf st).extract (sa+k) (sa+k+(na - k+n2))).toList:=by
     rw [yg,yg,yg,drop_take,drop_take,drop_take]
     rw [show sb - (sa+k)=na - k by lia,show sb+n2 - sb=n2 by lia,show sa+k+(na - k+n2) - (sa+k)=(na - k)+n2 by lia,List.take_add,drop_drop,show sa+k+(na - k)=sb by lia]
    have len:r.toList.length=na - k+n2:=by rw [rp.length_eq,aCv,aYJ,aYJ,zX,zY]
    have Ac:∀ x∈r.toList,aH.Kg ρ (arrOf st) sb<=ρ.g x/\ρ.g x<=aH.Kg ρ (arrOf st) (sb - 1):=λx hx=>by
     rcases a1m.1 (rp.mem_iff.1 hx) with hx | hx
     .obtain ⟨j,j1,j2,j3,e,_⟩:=mX x hx
      exact ⟨low x hx,by rw [e]; exact s1 j (sb - 1) (by lia) (by lia) (by lia)⟩
     .obtain ⟨j,j1,j2,j3,e,_⟩:=mY x hx
      exact ⟨by rw [e]; exact s2 sb j (aEt _) j1 (by lia),high x hx⟩
    have CW:failedOf st'=none:=qI.trans f1
    show Q (failedOf st').isNone _
    rw [CW]
    refine h _ (vR.trans k1) rfl ?_ (vQ.trans p1) ?_ ?_
    .show (layAt (arrOf st') (sa+k) r.toList 0).Perm (arrOf st)
     rw [pN,a1]
     exact ZkO (n:=na - k+n2) (by lia) (by rw [← ex]; exact rp)
    .show fq ρ (layAt (arrOf st') (sa+k) r.toList 0) sa (sb+nb)
     rw [pN,a1]
     refine Wz (by lia) rs (by lia) (λx y p q r=>s1 x y p q (by lia)) (λx y p q r=>s2 x y (by lia) q r) (λi i1 i2 x hx=>?_) (λi i1 i2 x hx=>?_)
     .exact arf (C1.vD i1 (by lia)) (Ac x hx).1
     .exact arf (Ac x hx).2 (C2.qF (by lia) i2)
    .intro j hj
     show (layAt (arrOf st') (sa+k) r.toList 0)[j]?=_
     rw [pN,a1,Ef _ _ _ _ _ (by lia),aM3 (by lia)]
   by_cases c:na - k<=n2
   .rw [abw c]
    refine adb (ZkL h0 k1 ⟨λx hx=>?_,λx hx=>?_,sX,sY,λy hy x hx=>?_⟩ (show 0<((arrOf st).extract (sa+k) sb).size by lia) (show 0<((arrOf st).extract sb (sb+n2)).size by lia) (λx hx=>?_) (λr st' hS R=>fin r st' hS R))
    .obtain ⟨_,_,_,_,_,m⟩:=mX x hx; exact ha x m
    .obtain ⟨_,_,_,_,_,m⟩:=mY x hx; exact ha x m
    .rw [zX,yg,drop_drop] at hx
     obtain ⟨j,j1,j2,j3,rfl⟩:=IA hx
     have ej:j=sb - 1:=by lia
     subst ej
     rw [← bE j3]
     exact high y hy
    .rw [aPx,← bE]
     exact low x hx
   .rw [aM3 c]
    refine adb (ZkN h0 k1 ⟨λx hx=>?_,λx hx=>?_,sX,sY,λy hy x hx=>?_⟩ (show 0<((arrOf st).extract (sa+k) sb).size by lia) (show 0<((arrOf st).extract sb (sb+n2)).size by lia) (λx hx=>?_) (λr st' hS R=>fin r st' hS R))
    .obtain ⟨_,_,_,_,_,m⟩:=mX x hx; exact ha x m
    .obtain ⟨_,_,_,_,_,m⟩:=mY x hx; exact ha x m
    .obtain ⟨j,j1,j2,rfl⟩:=Im hy
     rw [aPx,← bE,show sb+j=sb by lia]
     exact low x hx
    .rw [aPx,← bE]
     have:=high x hx
     rw [show sa+k+(((arrOf st).extract (sa+k) sb).size - 1)=sb - 1 by lia]
     exact this
end
structure GP (κ:SortKind) (a₀:Array Keyed) (P:Array (Nat×Nat×Nat)) (st:SortSt):Prop where
 perm:(arrOf st).Perm a₀
 kn:kindOf st=κ
 failed:failedOf st=none
 pend:pendingOf st=P
section
variable {prog:Program} {w:World} {A:Around} {E:Value->Shared->Prop} {s:Shared} {a₀:Array Keyed} {κ:SortKind} {ρ:aH.RR} {P:Array (Nat×Nat×Nat)}
theorem GP.size {st:SortSt} (h:GP κ a₀ P st):(arrOf st).size=a₀.size:=h.perm.size_eq
theorem GP.setArr {st:SortSt} {xs:Array Keyed} (h:GP κ a₀ P st) (hp:xs.Perm (arrOf st)):GP κ a₀ P (setArr st xs):=⟨hp.trans h.perm,h.kn,h.failed,h.pend⟩
theorem GP.mem {st:SortSt} (h:GP κ a₀ P st):∀ x∈(arrOf st).toList,x∈a₀.toList:=λx hx=>(ahA.mp h.perm).mem_iff.mp hx
theorem A8 {st:SortSt} {i j:Nat} {Q:Option Bool->SortSt->Prop} (hB:GP κ a₀ P st) (h0:aH.je prog w A s κ ρ a₀) (hi:i<a₀.size) (hj:j<a₀.size)
  (h:Q (some (decide (aH.Kg ρ (arrOf st) i<aH.Kg ρ (arrOf st) j))) st):wpS (model prog w) A E s (ltAt' i j) Q st:=by
 have hi':i<(arrOf st).size:=by rw [hB.size]; exact hi
 have hj':j<(arrOf st).size:=by rw [hB.size]; exact hj
 rw [bE hi',bE hj'] at h
 rw [ltAt'_eq]
 refine adb (a2J ?_)
 refine adb (ZE hi' (adb (ZE hj' ?_)))
 exact lN hB.kn h0 (hB.mem _ (by simp)) (hB.mem _ (by simp)) h
theorem Wx {st:SortSt} {lo n ok:Nat} {Q:Bool->SortSt->Prop} (h0:aH.je prog w A s κ ρ a₀) (hn:lo+n<=a₀.size) (hok:ok<=n) (UT:1<=ok) (hB:GP κ a₀ P st) (hs:fq ρ (arrOf st) lo (lo+ok))
  (h:∀ st',GP κ a₀ P st'->fq ρ (arrOf st') lo (lo+n)->(∀ j,j<lo\/lo+n<=j->(arrOf st')[j]?=(arrOf st)[j]?)->Q true st'):wpS (model prog w) A E s (binarySort' lo n ok) Q st:=by
 rw [binarySort'_eq]
 refine adb (aVU (ag5 (I:=λk c st1=>c=(none,())/\GP κ a₀ P st1/\fq ρ (arrOf st1) lo (lo+min k n)/\∀ j,j<lo\/lo+n<=j->(arrOf st1)[j]?=(arrOf st)[j]?)
  (Q:=λc st1=>c=(none,())/\GP κ a₀ P st1/\fq ρ (arrOf st1) lo (lo+n)/\∀ j,j<lo\/lo+n<=j->(arrOf st1)[j]?=(arrOf st)[j]?) ?turn ?last ?first) ?after)
 case after =>
  rintro c st1 ⟨rfl,b1,i1,o1⟩
  exact aRf (h st1 b1 i1 o1)
 case first =>
  rw [show min (max ok 1) n=ok by lia]
  exact ⟨rfl,hB,hs,λ_ _=>rfl⟩
 case last =>
  rintro c st1 ⟨hc,b1,i1,o1⟩
  rw [show min (max (max ok 1) n) n=n by lia] at i1
  exact ⟨hc,b1,i1,o1⟩
 case turn =>
  rintro k c st1 UO hkn ⟨rfl,b1,i1,o1⟩
  rw [show min k n=k by lia] at i1
  have hk:lo+k<a₀.size:=by lia
  have sz:=b1.size
  refine adb (aVU (ag5 (I:=λx c st2=>st2=st1/\∃ l r,c=(none,l,r)/\l<=r/\r<=k/\r - l<=k - x/\(∀ i,i<l->aH.Kg ρ (arrOf st1) (lo+i)<=aH.Kg ρ (arrOf st1) (lo+k))/\(∀ i,r<=i->i<k->aH.Kg ρ (arrOf st1) (lo+k)<=aH.Kg ρ (arrOf st1) (lo+i)))
   (Q:=λc st2=>st2=st1/\∃ l r,c=(none,l,r)/\l<=k/\(∀ i,i<l->aH.Kg ρ (arrOf st1) (lo+i)<=aH.Kg ρ (arrOf st1) (lo+k))/\(∀ i,l<=i->i<k->aH.Kg ρ (arrOf st1) (lo+k)<=aH.Kg ρ (arrOf st1) (lo+i))) ?iturn ?ilast ?ifirst) ?iafter)
  case ifirst=>exact ⟨rfl,0,k,rfl,by lia,by lia,by lia,λi hi=>absurd hi (by lia),λi p q=>absurd q (by lia)⟩
  case ilast =>
   rintro c st2 ⟨rfl,l,r,rfl,hlr,hrk,hm,u1,u2⟩
   have e:l=r:=by lia
   subst e
   exact ⟨rfl,l,l,rfl,hrk,u1,u2⟩
  case iturn =>
   rintro x c st2 _ hxk ⟨rfl,l,r,rfl,hlr,hrk,hm,u1,u2⟩
   dsimp only
   by_cases hge:l ≥ r
   .rw [abw hge]
    have e:l=r:=by lia
    subst e
    exact aRf ⟨rfl,l,l,rfl,hrk,u1,u2⟩
   .rw [aM3 hge]
    refine adb (A8 b1 h0 hk (by lia) ?_)
    by_cases c:aH.Kg ρ (arrOf st2) (lo+k)<aH.Kg ρ (arrOf st2) (lo+(l+r) / 2)
    .simp only [c,a8F,aOV]
     refine aRf ⟨rfl,l,(l+r) / 2,rfl,by lia,by lia,by lia,u1,λi p q=>?_⟩
     have:=i1 (lo+(l+r) / 2) (lo+i) (by lia) (by lia) (by lia)
     lia
    .simp only [c,a9R,aqO,at1]
     refine aRf ⟨rfl,(l+r) / 2+1,r,rfl,by lia,by lia,by lia,λi p=>?_,u2⟩
     have:=i1 (lo+i) (lo+(l+r) / 2) (by lia) (by lia) (by lia)
     lia
  case iafter =>
   rintro c st2 ⟨rfl,l,r,rfl,hlk,u1,u2⟩
   show wpS _ _ _ _ (do moveDown' (lo+k) (lo+l); pure (ForInStep.yield (none,()))) _ _
   rw [moveDown'_eq]
   have hks:lo+k<(arrOf st2).size:=by lia
   refine adb (bbL (aRf ⟨rfl,b1.setArr (bubble_perm _ _ _),?_,?_⟩))
   .rw [show min (k+1) n=k+1 by lia]
    intro i j hi hij hj
    show aH.Kg ρ (bubble (arrOf st2) (lo+k) (lo+k - (lo+l))) i<=aH.Kg ρ (bubble (arrOf st2) (lo+k) (lo+k - (lo+l))) j
    rw [aH.j9 hks (by lia),aH.j9 hks (by lia),show lo+k - (lo+k - (lo+l))=lo+l by lia]
    have U1:∀ i,lo<=i->i<lo+l->aH.Kg ρ (arrOf st2) i<=aH.Kg ρ (arrOf st2) (lo+k):=λi p q=>by
     have:=u1 (i - lo) (by lia)
     rw [show lo+(i - lo)=i by lia] at this
     exact this
    have U2:∀ i,lo+l<=i->i<lo+k->aH.Kg ρ (arrOf st2) (lo+k)<=aH.Kg ρ (arrOf st2) i:=λi p q=>by
     have:=u2 (i - lo) (by lia) (by lia)
     rw [show lo+(i - lo)=i by lia] at this
     exact this
    by_cases a1:i=lo+l
    .rw [abw a1]
     by_cases b2:j=lo+l
     .rw [abw b2]; exact asI _
     .rw [aM3 b2,abw (by lia)]
      exact U2 _ (by lia) (by lia)
    .rw [aM3 a1]
     by_cases a2:j=lo+l
     .rw [abw a2,aM3 (by lia)]
      exact U1 _ (by lia) (by lia)
     .rw [aM3 a2]
      by_cases a3:lo+l<i/\i<=lo+k
      .rw [abw a3,abw (by lia)]
       exact i1 _ _ (by lia) (by lia) (by lia)
      .rw [aM3 a3]
       by_cases a4:lo+l<j/\j<=lo+k
       .rw [abw a4]
        exact i1 _ _ (by lia) (by lia) (by lia)
       .rw [aM3 a4]
        exact i1 _ _ (by lia) (by lia) (by lia)
   .intro j hj
    show (bubble (arrOf st2) (lo+k) (lo+k - (lo+l)))[j]?=_
    rw [getElem?_bubble hks _ (by lia),aM3 (by lia),aM3 (by lia)]
    exact o1 j hj
end
abbrev AS:=Option (Option Nat)×Nat
abbrev DS:=Option (Option Nat)×Nat×Nat
def qR (lo a nrem:Nat):StateT SortSt Sem AS:=forIn [a:nrem] ((none,a):AS) λ_ c=>do
 let x ← ltAt' (lo+c.2) (lo+c.2 - 1)
 match x with
 | some y=>if y=true then pure (.done (none,c.2)) else pure (.yield (none,c.2+1))
 | _=>pure (.done (some none,c.2))
def lu (lo n nrem:Nat):StateT SortSt Sem (Option Nat):=do
 reverseSlice' lo (lo+n)
 let c ← qR lo n nrem
 match c.1 with
 | some r=>pure r
 | none=>pure (some c.2)
def oG (lo n nrem:Nat):StateT SortSt Sem DS:=forIn [n:nrem] ((none,n,0):DS) λ_ c=>do
 let x ← ltAt' (lo+c.2.1) (lo+c.2.1 - 1)
 match x with
 | some y=>if y=true then (if c.2.2 > 0 then (do
    reverseSlice' (lo+c.2.1 - (c.2.2+1)) (lo+c.2.1)
    pure (.yield (none,c.2.1+1,0))) else pure (.yield (none,c.2.1+1,0))) else (do
   let x ← ltAt' (lo+c.2.1 - 1) (lo+c.2.1)
   match x with
   | some z=>if z=true then pure (.done (none,c.2.1,c.2.2)) else pure (.yield (none,c.2.1+1,c.2.2+1))
   | _=>pure (.done (some none,c.2.1,c.2.2)))
 | _=>pure (.done (some none,c.2.1,c.2.2))
def lF (lo n nrem:Nat):StateT SortSt Sem (Option Nat):=do
 liftM (rule "list.sort.descending-run")
 let c ← oG lo (n+1) nrem
 match c.1 with
 | some r=>pure r
 | none=>if c.2.2 > 0 then (do
   reverseSlice' (lo+c.2.1 - (c.2.2+1)) (lo+c.2.1)
   lu lo c.2.1 nrem) else lu lo c.2.1 nrem
theorem YX (lo nrem:Nat):countRun' lo nrem=(do
  let c ← qR lo 1 nrem
  match c.1 with
  | some r=>pure r
  | none=>if (c.2 == nrem)=true then pure (some c.2) else if c.2 > 1 then (do
    let x ← ltAt' lo (lo+c.2 - 1)
    match x with
    | some y=>if y=true then pure (some c.2) else (do
      reverseSlice' lo (lo+c.2)
      lF lo c.2 nrem)
    | _=>pure none) else lF lo c.2 nrem):=by
 rw [countRun'_eq]
 unfold lF lu oG qR
 have tl:∀ {f g:AS->StateT SortSt Sem (Option Nat)} {m:StateT SortSt Sem AS},(∀ r n,f (r,n)=g (r,n))->(m >>= f)=(m >>= g):=λh=>aok _ (funext λ⟨r,n⟩=>h r n)
 have td:∀ {f g:DS->StateT SortSt Sem (Option Nat)} {m:StateT SortSt Sem DS},(∀ r n q,f (r,n,q)=g (r,n,q))->(m >>= f)=(m >>= g):=λh=>aok _ (funext λ⟨r,n,q⟩=>h r n q)
 have bc:∀ {α:Type} {f g:α->StateT SortSt Sem (Option Nat)} {m:StateT SortSt Sem α},(∀ x,f x=g x)->(m >>= f)=(m >>= g):=λh=>aok _ (funext h)
 refine tl λr n=>?_
 cases r with
 | some r=>rfl
 | none =>
  dsimp only
  split
  .rfl
  .split
   .refine bc λx=>?_
    cases x with
    | none=>rfl
    | some y =>
     dsimp only
     split
     .rfl
     .refine bc λ_=>bc λ_=>td λr n q=>?_
      cases r with
      | some r=>rfl
      | none =>
       dsimp only
       split
       .exact bc λ_=>bc λ_=>tl λr n=>by cases r <;> rfl
       .exact bc λ_=>tl λr n=>by cases r <;> rfl
   .refine bc λ_=>td λr n q=>?_
    cases r with
    | some r=>rfl
    | none =>
     dsimp only
     split
     .exact bc λ_=>bc λ_=>tl λr n=>by cases r <;> rfl
     .exact bc λ_=>tl λr n=>by cases r <;> rfl
section
variable {prog:Program} {w:World} {A:Around} {E:Value->Shared->Prop} {s:Shared} {a₀:Array Keyed} {κ:SortKind} {ρ:aH.RR} {P:Array (Nat×Nat×Nat)}
def Out (lo n:Nat) (xs ys:Array Keyed):Prop:=∀ j,j<lo\/lo+n<=j->ys[j]?=xs[j]?
theorem El {xs:Array Keyed} {lo n i j:Nat} (hj:j<=xs.size) (h1:lo<=i) (h2:j<=lo+n):Out lo n xs (mirror xs i j ((j - i) / 2)):=λk hk=>by
 rw [getElem?_mirror_all hj,aM3 (by lia)]
theorem OA {st:SortSt} {lo a nrem:Nat} {Q:AS->SortSt->Prop} (h0:aH.je prog w A s κ ρ a₀) (hn:lo+nrem<=a₀.size) (ha:1<=a) (han:a<=nrem) (hB:GP κ a₀ P st) (hs:fq ρ (arrOf st) lo (lo+a))
  (h:∀ n,a<=n->n<=nrem->fq ρ (arrOf st) lo (lo+n)->(n=nrem\/aH.Kg ρ (arrOf st) (lo+n)<aH.Kg ρ (arrOf st) (lo+n - 1))->Q (none,n) st):wpS (model prog w) A E s (qR lo a nrem) Q st:=by
 unfold qR
 refine ag5 (I:=λx c st1=>st1=st/\c=(none,x)/\fq ρ (arrOf st) lo (lo+x)) ?turn ?last ⟨rfl,rfl,hs⟩
 case last =>
  rintro c st1 ⟨rfl,rfl,i1⟩
  rw [show max a nrem=nrem by lia] at i1 ⊢
  exact h nrem han (aEt _) i1 (.inl rfl)
 case turn =>
  rintro x c st1 hax hxn ⟨rfl,rfl,i1⟩
  dsimp only
  refine adb (A8 hB h0 (by lia) (by lia) ?_)
  by_cases c:aH.Kg ρ (arrOf st1) (lo+x)<aH.Kg ρ (arrOf st1) (lo+x - 1)
  .simp only [c,a8F,aOV]
   exact aRf (h x hax (by lia) i1 (.inr c))
  .simp only [c,a9R,aqO,at1]
   refine aRf ⟨rfl,rfl,λi j hi hij hj=>?_⟩
   by_cases hjx:j<lo+x
   .exact i1 i j hi hij hjx
   .have ej:j=lo+x:=by lia
    subst ej
    by_cases e:i=lo+x
    .subst e; exact asI _
    .have:=i1 i (lo+x - 1) hi (by lia) (by lia)
     lia
structure DX (ρ:aH.RR) (xs:Array Keyed) (lo x q:Nat):Prop where
 l:q+1<=x
 d:∀ i j,lo<=i->i<=j->j<lo+x->aH.Kg ρ xs j<=aH.Kg ρ xs i
 e:∀ i,lo+x - (q+1)<=i->i<lo+x->aH.Kg ρ xs i=aH.Kg ρ xs (lo+x - 1)
theorem DX.rev {xs:Array Keyed} {lo x q:Nat} (h:DX ρ xs lo x q) (hz:lo+x<=xs.size):DX ρ (mirror xs (lo+x - (q+1)) (lo+x) ((lo+x - (lo+x - (q+1))) / 2)) lo x 0:=by
 have ke:=aH.ck (ρ:=ρ) (i:=lo+x - (q+1)) hz h.e
 have:=h.l
 refine ⟨by lia,λi j h1 h2 h3=>?_,λi h1 h2=>?_⟩
 .rw [ke,ke]; exact h.d i j h1 h2 h3
 .have e:i=lo+x - 1:=by lia
  rw [e]
theorem DX.zero {xs:Array Keyed} {lo x q:Nat} (h:DX ρ xs lo x q):DX ρ xs lo x 0:=⟨by have:=h.l; lia,h.d,λi h1 h2=>by rw [show i=lo+x - 1 by have:=h.l; lia]⟩
theorem DX.less {xs:Array Keyed} {lo x:Nat} (h:DX ρ xs lo x 0) (k:aH.Kg ρ xs (lo+x)<aH.Kg ρ xs (lo+x - 1)):DX ρ xs lo (x+1) 0:=by
 have:=h.l
 refine ⟨by lia,λi j h1 h2 h3=>?_,λi h1 h2=>by rw [show i=lo+(x+1) - 1 by lia]⟩
 by_cases c:j<lo+x
 .exact h.d i j h1 h2 c
 .have ej:j=lo+x:=by lia
  subst ej
  by_cases e:i=lo+x
  .subst e; exact asI _
  .have:=h.d i (lo+x - 1) h1 (by lia) (by lia)
   lia
theorem DX.more {xs:Array Keyed} {lo x q:Nat} (h:DX ρ xs lo x q) (k:aH.Kg ρ xs (lo+x)=aH.Kg ρ xs (lo+x - 1)):DX ρ xs lo (x+1) (q+1):=by
 have:=h.l
 refine ⟨by lia,λi j h1 h2 h3=>?_,λi h1 h2=>?_⟩
 .by_cases c:j<lo+x
  .exact h.d i j h1 h2 c
  .have ej:j=lo+x:=by lia
   subst ej
   by_cases e:i=lo+x
   .subst e; exact asI _
   .have:=h.d i (lo+x - 1) h1 (by lia) (by lia)
    lia
 .rw [show lo+(x+1) - 1=lo+x by lia]
  by_cases c:i<lo+x
  .rw [k]; exact h.e i (by lia) c
  .rw [show i=lo+x by lia]
theorem Xx {st:SortSt} {lo n nrem:Nat} {Q:DS->SortSt->Prop} (h0:aH.je prog w A s κ ρ a₀) (hn:lo+nrem<=a₀.size) (hnn:n<=nrem) (hB:GP κ a₀ P st) (hs:DX ρ (arrOf st) lo n 0)
  (h:∀ m q st',GP κ a₀ P st'->m<=nrem->DX ρ (arrOf st') lo m q->Out lo nrem (arrOf st) (arrOf st')->Q (none,m,q) st'):wpS (model prog w) A E s (oG lo n nrem) Q st:=by
 unfold oG
 refine ag5 (I:=λx c st1=>∃ q,c=(none,x,q)/\GP κ a₀ P st1/\DX ρ (arrOf st1) lo x q/\Out lo nrem (arrOf st) (arrOf st1)) ?turn ?last ⟨0,rfl,hB,hs,λ_ _=>rfl⟩
 case last =>
  rintro c st1 ⟨q,rfl,b1,d1,o1⟩
  rw [show max n nrem=nrem by lia] at d1 ⊢
  exact h nrem q st1 b1 (aEt _) d1 o1
 case turn =>
  rintro x c st1 hax hxn ⟨q,rfl,b1,d1,o1⟩
  dsimp only
  have sz:=b1.size
  have hl:=d1.l
  refine adb (A8 b1 h0 (by lia) (by lia) ?_)
  by_cases c:aH.Kg ρ (arrOf st1) (lo+x)<aH.Kg ρ (arrOf st1) (lo+x - 1)
  .simp only [c,a8F,aOV]
   by_cases hq:q > 0
   .rw [abw hq]
    have ke:=aH.ck (ρ:=ρ) (i:=lo+x - (q+1)) (by lia:lo+x<=(arrOf st1).size) d1.e
    refine adb (aYm (aRf ⟨0,rfl,b1.setArr (as4 _ _ _ _),(d1.rev (by lia)).less ?_,λk hk=>(El (by lia) (by lia) (by lia) k hk).trans (o1 k hk)⟩))
    rw [ke,ke]; exact c
   .rw [aM3 hq]
    have e:q=0:=by lia
    subst e
    exact aRf ⟨0,rfl,b1,d1.less c,o1⟩
  .simp only [c,a9R,aqO,at1]
   refine adb (A8 b1 h0 (by lia) (by lia) ?_)
   by_cases c2:aH.Kg ρ (arrOf st1) (lo+x - 1)<aH.Kg ρ (arrOf st1) (lo+x)
   .simp only [c2,a8F,aOV]
    exact aRf (h x q st1 b1 (by lia) d1 o1)
   .simp only [c2,a9R,aqO,at1]
    exact aRf ⟨q+1,rfl,b1,d1.more (by lia),o1⟩
theorem PB {st gm:SortSt} {lo n nrem:Nat} {Q:Option Nat->SortSt->Prop} (h0:aH.je prog w A s κ ρ a₀) (hn:lo+nrem<=a₀.size) (h1:1<=n) (hnn:n<=nrem) (hB:GP κ a₀ P st) (hs:DX ρ (arrOf st) lo n 0) (ho:Out lo nrem (arrOf gm) (arrOf st))
  (h:∀ m st',GP κ a₀ P st'->1<=m->m<=nrem->fq ρ (arrOf st') lo (lo+m)->Out lo nrem (arrOf gm) (arrOf st')->Q (some m) st'):wpS (model prog w) A E s (lu lo n nrem) Q st:=by
 unfold lu
 have sz:=hB.size
 refine adb (aYm ?_)
 have b1:GP κ a₀ P (setArr st (mirror (arrOf st) lo (lo+n) ((lo+n - lo) / 2))):=hB.setArr (as4 _ _ _ _)
 refine adb (OA h0 hn h1 hnn b1 ?_ λm m1 m2 i2 _=>aRf (h m _ b1 (by lia) m2 i2 λk hk=>(El (by lia) (by lia) (by lia) k hk).trans (ho k hk)))
 intro i j hi hij hj
 show aH.Kg ρ (mirror (arrOf st) lo (lo+n) ((lo+n - lo) / 2)) i<=aH.Kg ρ (mirror (arrOf st) lo (lo+n) ((lo+n - lo) / 2)) j
 rw [aH.iH (by lia),aH.iH (by lia),abw (by lia),abw (by lia)]
 exact hs.d _ _ (by lia) (by lia) (by lia)
theorem Pz {st gm:SortSt} {lo n nrem:Nat} {Q:Option Nat->SortSt->Prop} (h0:aH.je prog w A s κ ρ a₀) (hn:lo+nrem<=a₀.size) (hnn:n+1<=nrem) (hB:GP κ a₀ P st) (hs:DX ρ (arrOf st) lo (n+1) 0) (ho:Out lo nrem (arrOf gm) (arrOf st))
  (h:∀ m st',GP κ a₀ P st'->1<=m->m<=nrem->fq ρ (arrOf st') lo (lo+m)->Out lo nrem (arrOf gm) (arrOf st')->Q (some m) st'):wpS (model prog w) A E s (lF lo n nrem) Q st:=by
 unfold lF
 refine adb (wpS_lift (aPe ⟨rfl,?_⟩))
 refine adb (Xx h0 hn hnn hB hs λm q st1 b1 m2 d1 o1=>?_)
 dsimp only
 have hl:=d1.l
 have sz:=b1.size
 by_cases hq:q > 0
 .rw [abw hq]
  exact adb (aYm (PB h0 hn (by lia) m2 (b1.setArr (as4 _ _ _ _)) (d1.rev (by lia)) (λk hk=>((El (by lia) (by lia) (by lia) k hk).trans (o1 k hk)).trans (ho k hk)) h))
 .rw [aM3 hq]
  exact PB h0 hn (by lia) m2 b1 d1.zero (λk hk=>(o1 k hk).trans (ho k hk)) h
theorem YW {st:SortSt} {lo nrem:Nat} {Q:Option Nat->SortSt->Prop} (h0:aH.je prog w A s κ ρ a₀) (hn:lo+nrem<=a₀.size) (h1:1<=nrem) (hB:GP κ a₀ P st)
  (h:∀ m st',GP κ a₀ P st'->1<=m->m<=nrem->fq ρ (arrOf st') lo (lo+m)->Out lo nrem (arrOf st) (arrOf st')->Q (some m) st'):wpS (model prog w) A E s (countRun' lo nrem) Q st:=by
 rw [YX]
 have sz:=hB.size
 refine adb (OA h0 hn (aEt 1) h1 hB (λi j hi hij hj=>by rw [show i=j by lia]; exact asI _) λn n1 n2 i1 hor=>?_)
 dsimp only
 by_cases e:n=nrem
 .rw [abw (by simpa using e)]
  exact aRf (h n st hB n1 n2 i1 λ_ _=>rfl)
 .rw [aM3 (by simpa using e)]
  have lt:aH.Kg ρ (arrOf st) (lo+n)<aH.Kg ρ (arrOf st) (lo+n - 1):=hor.resolve_left e
  by_cases g:n > 1
  .rw [abw g]
   refine adb (A8 hB h0 (by lia) (by lia) ?_)
   by_cases c:aH.Kg ρ (arrOf st) lo<aH.Kg ρ (arrOf st) (lo+n - 1)
   .simp only [c,a8F,aOV]
    exact aRf (h n st hB n1 n2 i1 λ_ _=>rfl)
   .simp only [c,a9R,aqO,at1]
    have all:∀ k,lo<=k->k<lo+n->aH.Kg ρ (arrOf st) k=aH.Kg ρ (arrOf st) (lo+n - 1):=λk h1 h2=>by
     have a1:=i1 lo k (aEt _) h1 h2
     have a2:=i1 k (lo+n - 1) h1 (by lia) (by lia)
     lia
    have ke:=aH.ck (ρ:=ρ) (xs:=arrOf st) (i:=lo) (j:=lo+n) (by lia) all
    have dx:DX ρ (mirror (arrOf st) lo (lo+n) ((lo+n - lo) / 2)) lo n 0:=⟨by lia,λi j h1 h2 h3=>by rw [ke,ke,all i h1 (by lia),all j (by lia) h3]; exact asI _,λi h1 h2=>by rw [show i=lo+n - 1 by lia]⟩
    exact adb (aYm (Pz (gm:=st) h0 hn (by lia) (hB.setArr (as4 _ _ _ _)) (dx.less (by rw [ke,ke]; exact lt)) (El (by lia) (by lia) (by lia)) h))
  .rw [aM3 g]
   have en:n=1:=by lia
   subst en
   exact Pz (gm:=st) h0 hn (by lia) hB (DX.less ⟨by lia,λi j h1 h2 h3=>by rw [show i=j by lia]; exact asI _,λi h1 h2=>by rw [show i=lo+1 - 1 by lia]⟩ lt) (λ_ _=>rfl) h
end
abbrev Rn:=Nat×Nat×Nat
def iw:List Rn->Nat->Nat->Prop
 | [],a,b=>a=b
 | t :: r,a,b=>t.1=a/\0<t.2.1/\iw r (a+t.2.1) b
theorem fC:∀ {l m:List Rn} {a b:Nat},iw (l++m) a b↔∃ c,iw l a c/\iw m c b
 | [],m,a,b=>⟨λh=>⟨a,rfl,h⟩,λ⟨c,h1,h2⟩=>by rw [show a=c from h1]; exact h2⟩
 | t :: r,m,a,b=>by
  constructor
  .rintro ⟨h1,h2,h3⟩
   obtain ⟨c,h4,h5⟩:=fC.mp h3
   exact ⟨c,⟨h1,h2,h4⟩,h5⟩
  .rintro ⟨c,⟨h1,h2,h4⟩,h5⟩
   exact ⟨h1,h2,fC.mpr ⟨c,h4,h5⟩⟩
theorem D6:∀ {l:List Rn} {a b:Nat},iw l a b->l.length+a<=b
 | [],a,b,h=>by rw [show a=b from h]; show 0+b<=b; lia
 | t :: r,a,b,⟨_,h2,h3⟩=>by
  have:=D6 h3
  rw [arz]
  lia
theorem DG:∀ {l:List Rn} {a b:Nat},iw l a b->∀ t∈l,a<=t.1/\t.1+t.2.1<=b
 | [],a,b,h,t,ht=>nomatch ht
 | u :: r,a,b,⟨h1,h2,h3⟩,t,ht=>by
  have l:=D6 h3
  rcases aHJ.mp ht with e | ht
  .subst e; lia
  .have:=DG h3 t ht
   lia
theorem Nm:∀ {l:List Rn} {i:Nat} {x y:Rn},l[i]?=some x->l[i+1]?=some y->l=l.take i++x :: y :: l.drop (i+2)
 | [],i,x,y,h,_=>by simp at h
 | [a],0,x,y,h,h2=>by simp at h2
 | a :: b :: r,0,x,y,h,h2=>by
  simp only [List.getElem?_cons_zero,aS5,Option.some.injEq] at h h2
  subst h h2; rfl
 | a :: r,i+1,x,y,h,h2=>by
  have:=Nm (l:=r) (i:=i) (x:=x) (y:=y) (by simpa using h) (by simpa using h2)
  show a :: r=a :: (r.take i++x :: y :: r.drop (i+2))
  rw [← this]
theorem YV (l m:List Rn) (x y v:Rn):((l++x :: y :: m).set l.length v).eraseIdx (l.length+1)=l++v :: m:=by
 induction l with
 | nil=>rfl
 | cons a r ih=>show a :: ((r++x :: y :: m).set r.length v).eraseIdx (r.length+1)=a :: (r++v :: m); rw [ih]
section
variable {prog:Program} {w:World} {A:Around} {E:Value->Shared->Prop} {s:Shared} {a₀:Array Keyed} {κ:SortKind} {ρ:aH.RR} {P:Array Rn}
theorem A4 {xs ys:Array Keyed} {a b:Nat} (h:fq ρ xs a b) (e:∀ j,a<=j->j<b->ys[j]?=xs[j]?):fq ρ ys a b:=λi j h1 h2 h3=>by
 rw [aH.cN (e i h1 (by lia)),aH.cN (e j (by lia) h3)]
 exact h i j h1 h2 h3
structure RI (κ:SortKind) (a₀:Array Keyed) (ρ:aH.RR) (lo:Nat) (st:SortSt):Prop where
 perm:(arrOf st).Perm a₀
 kn:kindOf st=κ
 failed:failedOf st=none
 tile:iw (pendingOf st).toList 0 lo
 w9:∀ t∈(pendingOf st).toList,fq ρ (arrOf st) t.1 (t.1+t.2.1)
theorem RI.gp {lo:Nat} {st:SortSt} (h:RI κ a₀ ρ lo st):GP κ a₀ (pendingOf st) st:=⟨h.perm,h.kn,h.failed,rfl⟩
theorem RI.out {lo n:Nat} {st st':SortSt} (h:RI κ a₀ ρ lo st) (g:GP κ a₀ (pendingOf st) st') (o:Out lo n (arrOf st) (arrOf st')):RI κ a₀ ρ lo st' :=
 ⟨g.perm,g.kn,g.failed,by rw [g.pend]; exact h.tile,λt ht=>by
  rw [g.pend] at ht
  have:=DG h.tile t ht
  exact A4 (h.w9 t ht) λj h1 h2=>o j (.inl (by lia))⟩
theorem RI.merge {lo i:Nat} {x y:Rn} {st:SortSt} {Q:Bool->SortSt->Prop} (h0:aH.je prog w A s κ ρ a₀) (h:RI κ a₀ ρ lo st) (hlo:lo<=a₀.size) (e1:(pendingOf st)[i]?=some x) (e2:(pendingOf st)[i+1]?=some y)
  (k:∀ st',RI κ a₀ ρ lo st'->(pendingOf st').size+1=(pendingOf st).size->(∀ j,lo<=j->(arrOf st')[j]?=(arrOf st)[j]?)->Q true st'):wpS (model prog w) A E s (Jj i) Q st:=by
 obtain ⟨sa,na,p⟩:=x
 obtain ⟨sb,nb,q⟩:=y
 have el:=Nm (l:=(pendingOf st).toList) (i:=i) (by rw [abk]; exact e1) (by rw [abk]; exact e2)
 have hi:i<(pendingOf st).toList.length:=by
  rw [aYJ]
  exact (Array.getElem?_eq_some_iff.mp e1).1
 have hti:((pendingOf st).toList.take i).length=i:=by rw [aIq]; lia
 have ht:=h.tile
 have hs:=h.w9
 have hsz:(pendingOf st).size=(pendingOf st).toList.length:=aYJ.symm
 have hnew:(((pendingOf st).setIfInBounds i (sa,na+nb,p)).eraseIdxIfInBounds (i+1)).toList=(pendingOf st).toList.take i++(sa,na+nb,p) :: (pendingOf st).toList.drop (i+2):=by
  rw [Array.toList_eraseIdxIfInBounds,Array.toList_setIfInBounds]
  conv=>lhs; rw [el]
  have:=YV ((pendingOf st).toList.take i) ((pendingOf st).toList.drop (i+2)) (sa,na,p) (sb,nb,q) (sa,na+nb,p)
  rw [hti] at this
  exact this
 generalize (pendingOf st).toList.take i=l at *
 generalize (pendingOf st).toList.drop (i+2)=m at *
 rw [el] at ht hs hsz
 obtain ⟨c,t1,t2,t3,t4,t5,t6⟩:=fC.mp ht
 have t2:sa=c:=t2
 have t3:0<na:=t3
 have t4:sb=c+na:=t4
 have t5:0<nb:=t5
 have t6:iw m (c+na+nb) lo:=t6
 have l6:=D6 t6
 refine ZkP h0 h.kn h.gp.mem h.failed e1 e2 (by lia) t3 t5 (by rw [h.gp.size]; lia) (hs (sa,na,p) (by simp)) (hs (sb,nb,q) (by simp)) λst' k1 f1 p1 pe s1 o1=>?_
 refine k st' ⟨p1.trans h.perm,k1,f1,?_,?_⟩ ?_ λj hj=>o1 j (.inr (by lia))
 .rw [pe,hnew]
  exact fC.mpr ⟨c,t1,t2,by show 0<na+nb; lia,by show iw m (c+(na+nb)) lo; rw [← Nat.add_assoc]; exact t6⟩
 .rw [pe,hnew]
  intro t ht
  rcases a1m.mp ht with ht | ht
  .have:=DG t1 t ht
   exact A4 (hs t (aKJ _ ht)) λj h1 h2=>o1 j (.inl (by lia))
  .rcases aHJ.mp ht with ht | ht
   .subst ht
    show fq ρ (arrOf st') sa (sa+(na+nb))
    rw [show sa+(na+nb)=sb+nb by lia]
    exact s1
   .have:=DG t6 t ht
    exact A4 (hs t (a9C _ (aHO _ (aHO _ ht)))) λj h1 h2=>o1 j (.inr (by lia))
 .have z:(pendingOf st').size=(pendingOf st').toList.length:=aYJ.symm
  rw [z,pe,hnew,hsz,aCv,aCv]
  rfl
theorem RI.push {lo n:Nat} {st:SortSt} (h:RI κ a₀ ρ lo st) (hn:0<n) (hs:fq ρ (arrOf st) lo (lo+n)):RI κ a₀ ρ (lo+n) (setPending st ((pendingOf st).push (lo,n,0))):=by
 refine ⟨h.perm,h.kn,h.failed,?_,?_⟩
 .show iw ((pendingOf st).push (lo,n,0)).toList 0 (lo+n)
  rw [aZl]
  exact fC.mpr ⟨lo,h.tile,rfl,hn,rfl⟩
 .show ∀ t∈((pendingOf st).push (lo,n,0)).toList,_
  rw [aZl]
  intro t ht
  rcases a1m.mp ht with ht | ht
  .exact h.w9 t ht
  .rw [arG.mp ht]; exact hs
theorem Py {f:Rn->Rn} (hf:∀ t,(f t).1=t.1/\(f t).2.1=t.2.1):∀ {l:List Rn} {i a b:Nat},iw l a b->iw (l.modify i f) a b
 | [],i,a,b,h=>by cases i <;> exact h
 | t :: r,0,a,b,⟨h1,h2,h3⟩=>by
  show iw (f t :: r) a b
  exact ⟨(hf t).1.trans h1,by rw [(hf t).2]; exact h2,by rw [(hf t).2]; exact h3⟩
 | t :: r,i+1,a,b,⟨h1,h2,h3⟩=>⟨h1,h2,Py hf h3⟩
theorem Qt {f:Rn->Rn}:∀ {l:List Rn} {i:Nat} {t:Rn},t∈l.modify i f->t∈l\/∃ u∈l,t=f u
 | [],i,t,h=>by cases i <;> exact nomatch h
 | u :: r,0,t,h=>by
  rcases aHJ.mp (show t∈f u :: r from h) with e | h
  .exact .inr ⟨u,aFv,e⟩
  .exact .inl (aHO _ h)
 | u :: r,i+1,t,h=>by
  rcases aHJ.mp (show t∈u :: r.modify i f from h) with e | h
  .exact .inl (e ▸ aFv)
  .rcases Qt h with h | ⟨v,hv,e⟩
   .exact .inl (aHO _ h)
   .exact .inr ⟨v,aHO _ hv,e⟩
theorem RI.pow {lo i:Nat} {st:SortSt} {f:Rn->Rn} (hf:∀ t,(f t).1=t.1/\(f t).2.1=t.2.1) (h:RI κ a₀ ρ lo st):RI κ a₀ ρ lo (setPending st ((pendingOf st).modify i f)):=by
 refine ⟨h.perm,h.kn,h.failed,?_,?_⟩
 .show iw ((pendingOf st).modify i f).toList 0 lo
  rw [Array.toList_modify]
  exact Py hf h.tile
 .show ∀ t∈((pendingOf st).modify i f).toList,_
  rw [Array.toList_modify]
  intro t ht
  rcases Qt ht with ht | ⟨u,hu,e⟩
  .exact h.w9 t ht
  .rw [e,(hf u).1,(hf u).2]; exact h.w9 u hu
theorem p9 {st:SortSt} {Q:Unit->SortSt->Prop} (h0:aH.je prog w A s κ ρ a₀) (hP:(arrOf st).Perm a₀) (hk:kindOf st=κ) (hf:failedOf st=none) (hp:pendingOf st=#[])
  (h:∀ st',(arrOf st').Perm a₀->failedOf st'=none->fq ρ (arrOf st') 0 a₀.size->Q () st'):wpS (model prog w) A E s sortRuns' Q st:=by
 rw [sortRuns'_eq]
 refine adb (a2J ?_)
 dsimp only
 have U8:(arrOf st).size=a₀.size:=hP.size_eq
 simp only [U8]
 generalize minRun' a₀.size a₀.size 0=mr
 have r0:RI κ a₀ ρ 0 st:=⟨hP,hk,hf,by rw [hp]; rfl,by rw [hp]; exact λt ht=>nomatch ht⟩
 refine adb (aVU (ag5 (I:=λx c st1=>∃ lo,c=(none,lo)/\lo<=a₀.size/\(x<=lo\/lo=a₀.size)/\RI κ a₀ ρ lo st1) (Q:=λc st1=>c=(none,a₀.size)/\RI κ a₀ ρ a₀.size st1) ?turn ?last ⟨0,rfl,aUM _,.inl (aEt _),r0⟩) ?after)
 case last =>
  rintro c st1 ⟨lo,rfl,hlo,hx,r1⟩
  have e:lo=a₀.size:=by lia
  subst e
  exact ⟨rfl,r1⟩
 case turn =>
  rintro x c st1 _ hx ⟨lo,rfl,hlo,hxl,r1⟩
  dsimp only
  by_cases g:lo ≥ a₀.size
  .rw [abw g]
   have e:lo=a₀.size:=by lia
   subst e
   exact aRf ⟨rfl,r1⟩
  .rw [aM3 g]
   refine adb (YW h0 (by lia) (by lia) r1.gp λm st2 b2 m1 m2 s2 o2=>?_)
   dsimp only
   have r2:=r1.out b2 o2
   have fin:∀ {n:Nat} {st3:SortSt},0<n->lo+n<=a₀.size->RI κ a₀ ρ lo st3->fq ρ (arrOf st3) lo (lo+n)->∃ lo',(none,lo+n)=((none,lo'):Option Unit×Nat)/\lo'<=a₀.size/\(x+1<=lo'\/lo'=a₀.size)/\RI κ a₀ ρ lo' (setPending st3 ((pendingOf st3).push (lo,n,0))):=λ{n st3} h1 h2 h3 h4=>⟨lo+n,rfl,h2,by lia,h3.push h1 h4⟩
   by_cases lt:m<mr
   .rw [abw lt]
    refine adb (wpS_lift (aPe ⟨rfl,?_⟩))
    refine adb (Wx h0 (by lia) (by lia) m1 b2 s2 λst3 b3 s3 o3=>?_)
    simp only [aTa,aqO,at1]
    have r3:=r1.out (n:=a₀.size - lo) b3 λj hj=>(o3 j (by lia)).trans (o2 j hj)
    have hn:0<min (a₀.size - lo) mr:=by lia
    have jO:lo+min (a₀.size - lo) mr<=a₀.size:=by lia
    clear b3 o3 b2 s2 o2 r2 m1 m2 lt
    generalize min (a₀.size - lo) mr=n at *
    refine adb (a2J ?_)
    cases eb:(pendingOf st3).back? with
    | none =>
     dsimp only
     exact adb (bbL (aRf (fin hn jO r3 s3)))
    | some t =>
     obtain ⟨s1,n1,z⟩:=t
     dsimp only
     generalize power' a₀.size (2 * s1+n1) (2 * s1+n1+n1+n) a₀.size=pw
     refine adb (aVU (ag5 (I:=λ_ c cY=>c=(none,())/\RI κ a₀ ρ lo cY/\fq ρ (arrOf cY) lo (lo+n)) (Q:=λc cY=>c=(none,())/\RI κ a₀ ρ lo cY/\fq ρ (arrOf cY) lo (lo+n)) ?_ (λ_ _ hh=>hh) ⟨rfl,r3,s3⟩) ?_)
     .rintro y c cY _ _ ⟨rfl,r4,h4⟩
      refine adb (a2J ?_)
      by_cases c2:(pendingOf cY).size > 1
      .have e1:(pendingOf cY)[(pendingOf cY).size - 2]?=some (pendingOf cY)[(pendingOf cY).size - 2]:=a2Z (by lia)
       have e2:(pendingOf cY)[(pendingOf cY).size - 2+1]?=some (pendingOf cY)[(pendingOf cY).size - 2+1]:=a2Z (by lia)
       simp only [abw c2]
       rw [e1]
       dsimp only
       by_cases c3:(pendingOf cY)[(pendingOf cY).size - 2].2.2<=pw
       .rw [abw c3]
        exact aRf ⟨rfl,r4,h4⟩
       .rw [aM3 c3]
        refine adb (RI.merge h0 r4 hlo e1 e2 λrT r5 _ o5=>?_)
        simp only [aTa,aqO,at1]
        exact aRf ⟨rfl,r5,A4 h4 λj h1 _=>o5 j h1⟩
      .simp only [aM3 c2]
       exact aRf ⟨rfl,r4,h4⟩
     .rintro c cY ⟨rfl,r4,h4⟩
      dsimp only
      exact adb (bbL (adb (bbL (aRf (fin hn jO (r4.pow λ_=>⟨rfl,rfl⟩) h4)))))
   .rw [aM3 lt]
    have hn:0<m:=by lia
    have jO:lo+m<=a₀.size:=by lia
    have r3:=r2
    have s3:=s2
    clear b2 s2 o2 r2 m1 m2 lt
    generalize m=n at *
    generalize st2=st3 at *
    refine adb (a2J ?_)
    cases eb:(pendingOf st3).back? with
    | none =>
     dsimp only
     exact adb (bbL (aRf (fin hn jO r3 s3)))
    | some t =>
     obtain ⟨s1,n1,z⟩:=t
     dsimp only
     generalize power' a₀.size (2 * s1+n1) (2 * s1+n1+n1+n) a₀.size=pw
     refine adb (aVU (ag5 (I:=λ_ c cY=>c=(none,())/\RI κ a₀ ρ lo cY/\fq ρ (arrOf cY) lo (lo+n)) (Q:=λc cY=>c=(none,())/\RI κ a₀ ρ lo cY/\fq ρ (arrOf cY) lo (lo+n)) ?_ (λ_ _ hh=>hh) ⟨rfl,r3,s3⟩) ?_)
     .rintro y c cY _ _ ⟨rfl,r4,h4⟩
      refine adb (a2J ?_)
      by_cases c2:(pendingOf cY).size > 1
      .have e1:(pendingOf cY)[(pendingOf cY).size - 2]?=some (pendingOf cY)[(pendingOf cY).size - 2]:=a2Z (by lia)
       have e2:(pendingOf cY)[(pendingOf cY).size - 2+1]?=some (pendingOf cY)[(pendingOf cY).size - 2+1]:=a2Z (by lia)
       simp only [abw c2]
       rw [e1]
       dsimp only
       by_cases c3:(pendingOf cY)[(pendingOf cY).size - 2].2.2<=pw
       .rw [abw c3]
        exact aRf ⟨rfl,r4,h4⟩
       .rw [aM3 c3]
        refine adb (RI.merge h0 r4 hlo e1 e2 λrT r5 _ o5=>?_)
        simp only [aTa,aqO,at1]
        exact aRf ⟨rfl,r5,A4 h4 λj h1 _=>o5 j h1⟩
      .simp only [aM3 c2]
       exact aRf ⟨rfl,r4,h4⟩
     .rintro c cY ⟨rfl,r4,h4⟩
      dsimp only
      exact adb (bbL (adb (bbL (aRf (fin hn jO (r4.pow λ_=>⟨rfl,rfl⟩) h4)))))
 case after =>
  rintro c st1 ⟨rfl,r1⟩
  dsimp only
  have l1:=D6 r1.tile
  rw [aYJ] at l1
  refine adb (aVU (ag5 (I:=λx c st2=>c=(none,())/\RI κ a₀ ρ a₀.size st2/\(pendingOf st2).size+x<=a₀.size+1) (Q:=λc st2=>c=(none,())/\RI κ a₀ ρ a₀.size st2/\(pendingOf st2).size<=1) ?_ ?_ ⟨rfl,r1,by lia⟩) ?_)
  .rintro y c st2 _ _ ⟨rfl,r2,h2⟩
   refine adb (a2J ?_)
   by_cases c1:(pendingOf st2).size<=1
   .rw [abw c1]
    exact aRf ⟨rfl,r2,c1⟩
   .rw [aM3 c1]
    obtain ⟨i,hi,hlt⟩:∃ i,(if Option.any (λx=>decide (x<(pendingOf st2)[(pendingOf st2).size - 2+1]?.elim 0 λx=>x.snd.fst)) (if (pendingOf st2).size - 2 > 0 then Option.map (λx=>x.snd.fst) (pendingOf st2)[(pendingOf st2).size - 2 - 1]? else none)=true then (pendingOf st2).size - 2 - 1 else (pendingOf st2).size - 2)=i/\i+1<(pendingOf st2).size:=⟨_,rfl,by generalize Option.any _ _=bb; cases bb <;> simp <;> lia⟩
    rw [hi]
    refine adb (RI.merge h0 r2 (aEt _) (a2Z (by lia)) (a2Z hlt) λrT r5 z5 _=>?_)
    simp only [aTa,aqO,at1]
    exact aRf ⟨rfl,r5,by lia⟩
  .rintro c st2 ⟨rfl,r2,h2⟩
   exact ⟨rfl,r2,by lia⟩
  .rintro c st2 ⟨rfl,r2,h2⟩
   dsimp only
   refine aRf (h st2 r2.perm r2.failed ?_)
   have ht:=r2.tile
   have hs:=r2.w9
   have z:(pendingOf st2).size=(pendingOf st2).toList.length:=aYJ.symm
   rw [z] at h2
   generalize (pendingOf st2).toList=l at *
   match l,h2,ht,hs with
   | [],_,ht,_ =>
    have e:0=a₀.size:=ht
    intro i j _ _ hj
    lia
   | [t],_,⟨t1,t2,t3⟩,hs =>
    have e:0+t.2.1=a₀.size:=t3
    have q:=hs t (by simp)
    rw [t1,e] at q
    exact q
   | _ :: _ :: _,h2,_,_=>simp at h2
end
end L2.tG
set_option maxHeartbeats 4000000
namespace L2
open PySem PySem.Spec PyProof.Rows
section
variable {prog:Program} {w:World} {A:Around} {E:Value->Shared->Prop} {s:Shared}
theorem Nl {a:Addr} {us:List Value} {m:Nat} {P:PySem.Fin->Shared->Prop} {κ:SortKind} {ρ:aH.RR} (ho:s.heap.get? a=some (seqObj "list" us.toArray m)) (z:us.length<=1000000)
  (hk:2<=us.length->(∀ (E:Value->Shared->Prop) (Q:SortKind->Shared->Prop),Q κ { s with heap:=mT s.heap a us }->wpAny (model prog w) A (keyKind' us.toArray) Q E { s with heap:=mT s.heap a us })/\aH.je prog w A { s with heap:=mT s.heap a us } κ ρ (pairsOf us))
  (g:∀ q:SortSt,(arrOf q).Perm (pairsOf us)->tG.fq ρ (arrOf q) 0 (pairsOf us).size->P (.done (.ret .none)) { s with heap:=sortedHeap s.heap a us ((arrOf q).map (·.2)) }):wpAny (model prog w) A (Builtin.«list.sort» ⟨[.ref a],[]⟩) P E s:=by
 rw [list_sort_plain]
 have al:a<s.heap.objs.size:=a2R ho
 obtain ⟨c,oc⟩:∃ c,(s.heap.update a (Obj.mapSeq λ_=>#[])).get? a=some (seqObj "list" #[] c):=⟨_,get?_update_seq ho (λ_=>#[])⟩
 have CC:(mT s.heap a us).get? a=some (seqObj "list" #[] c):=aXX _ (aXX _ oc)
 refine apg (listItems_at ho rfl (apg (adT ho rfl (apg (seqEpoch_at oc rfl (apg (wpAny_newTuple (apg (a4X (a9s ?_)))))))))) <;> try (rw [aLq]; first | (rw [am7]; lia) | lia)
 show wpAny (model prog w) A _ P E { s with heap:=mT s.heap a us }
 dsimp only
 have us2:us.toArray.size=us.length:=am7 ..
 by_cases few:us.toArray.size<2
 .rw [abw few,abw few]
  refine apg (a5a ?_)
  rw [StateT.run_pure]
  refine apg (a5a (apg (seqEpoch_at CC rfl (apg (adT CC rfl ?_ (hsz2:=by rw [Array.size_map]; show (pairsOf us).size<=_; rw [pairsOf_size,aLq]; lia))))))
  simp only [bne_self_eq_false,aqO,at1]
  refine a5a (g (SortSt.mk' general' (us.toArray.zip us.toArray) #[] 7 none) (aRT _) λi j _ hij hj=>?_)
  rw [pairsOf_size] at hj
  rw [show i=j by lia]
  exact asI _
 .rw [aM3 few,aM3 few]
  have two:2<=us.length:=by lia
  obtain ⟨k1,k2⟩:=hk two
  refine apg (k1 _ _ (apg (aRs (tG.p9 (a₀:=pairsOf us) (st:=SortSt.mk' κ (us.toArray.zip us.toArray) #[] 7 none) (Q:=λ_ q=>(arrOf q).Perm (pairsOf us)/\failedOf q=none/\tG.fq ρ (arrOf q) 0 (pairsOf us).size) k2 (aRT _) rfl rfl rfl λq a1 a2 a3=>⟨a1,a2,a3⟩) ?_ λ_ _ e=>e)))
  rintro ⟨⟨⟩,q⟩ t ⟨rfl,hp,hf,hs⟩
  refine apg (seqEpoch_at CC rfl (apg (adT CC rfl ?_ (hsz2:=by rw [Array.size_map,hp.size_eq,pairsOf_size,aLq]; lia))))
  dsimp only
  rw [hf]
  simp only [bne_self_eq_false,aqO,at1]
  exact a5a (g q hp hs)
end
theorem VJ {α:Type}:∀ {l:List α},2<=l.length->∃ a b r,l=a :: b :: r
 | [],h=>absurd h (Nat.not_succ_le_zero 1)
 | [_],h=>absurd h (asH 1)
 | a :: b :: r,_=>⟨a,b,r,rfl⟩
def xh:aH.RR:=⟨λ_=>0,λp=>match p.1 with | .int n _=>n | _=>0⟩
theorem Nk {xs:Array Keyed} {i:Nat}:aH.Kg xh xs i=PyProof.Rows.K xs i:=by
 unfold aH.Kg PyProof.Rows.K
 cases xs[i]? with
 | none=>rfl
 | some p=>obtain ⟨v,u⟩:=p; cases v <;> rfl
variable {K:W.Frag} {X:Cx}
end L2
set_option maxHeartbeats 1000000
namespace L2
open PySem PySem.Spec PySem.Calls PyProof.Rows PySem.MeetsSeq PySem.W
abbrev k7:=Addr×Int×Int
def rC (es:List k7) (a:Addr):k7:=(es.find? λe=>e.1 == a).getD (0,0,0)
theorem yq:∀ {es:List k7},(es.map (·.1)).Nodup->∀ {e:k7},e∈es->rC es e.1=e
 | [],_,_,h=>by cases h
 | x :: r,nd,e,h=>by
  rw [aDD] at nd
  obtain ⟨n1,n2⟩:=aDH.mp nd
  unfold rC
  rw [bdb]
  rcases aHJ.mp h with rfl | h
  .rw [aKE]; rfl
  .have ne:(x.1 == e.1)=false:=by
    rw [aIZ]
    exact λz=>n1 (by rw [z]; exact ad2 h)
   rw [ne]
   exact yq n2 h
def gP (e:k7):Value:=.ref e.1
def Cw (es:List k7):aH.RR:=⟨λ_=>0,λp=>(rC es (rX p.2)).2.1⟩
def BN (h:Heap) (e:k7):Prop:=∃ t t',h.get? e.1=some { cls:=.type "tuple",data:=.seq #[.int e.2.1 t,.int e.2.2 t'] }
section
variable {prog:Program} {w:World} {A:Around} {E:Value->Shared->Prop} {s:Shared}
theorem HJ {a b:k7} {Q:Bool->Shared->Prop} (h1:BN s.heap a) (h2:BN s.heap b) (hab:a.2.1=b.2.1->a.2.2=b.2.2) (h:Q (decide (a.2.1<b.2.1)) s):wpAny (model prog w) A (keyLt' (tuples' true) (gP a) (gP b)) Q E s:=by
 obtain ⟨t,t',ho⟩:=h1
 obtain ⟨u,u',ho'⟩:=h2
 refine W.kat_lt ho rfl ho' rfl (W.kat_cons ?_)
 obtain ⟨c,e,hc⟩:=HT.lW A s a.2.1 t b.2.1 u
 refine e prog w _ _ ?_
 cases c with
 | true =>
  have z:=hc.mp rfl
  refine W.kat_yes (W.kat_cons ?_)
  obtain ⟨c2,e2,hc2⟩:=HT.lW A s a.2.2 t' b.2.2 u'
  refine e2 prog w _ _ ?_
  cases c2 with
  | true =>
   rw [a0j (by lia)] at h
   exact W.kat_yes (W.kat_nil h)
  | false=>exact absurd (hc2.mpr (hab z)) aBC
 | false=>exact W.kat_no (oneLt_int h)
theorem Nj {h:Heap}:∀ {es:List k7},(∀ e∈es,BN h e)->∃ fs:List Value,W.KatTups h (es.map gP) fs/\fs.length=es.length/\∀ v∈fs,∃ (n:Int) (t:Tok),v=.int n t
 | [],_=>⟨[],W.KatTups.nil,rfl,λ_ h=>by cases h⟩
 | e :: es,hh=>by
  obtain ⟨fs,t,lf,hf⟩:=Nj (es:=es) λx m=>hh x (aHO _ m)
  obtain ⟨a,b,ho⟩:=hh e aFv
  rw [aDD]
  refine ⟨.int e.2.1 a :: fs,W.KatTups.cons ho rfl rfl rfl t,by rw [arz,lf]; rfl,λv m=>?_⟩
  rcases aHJ.mp m with rfl | m
  .exact ⟨_,_,rfl⟩
  .exact hf v m
end
theorem zD {es:List k7} (nd:(es.map (·.1)).Nodup) {xs:Array Keyed} (hp:xs.Perm (pairsOf (es.map gP))) (hi:tG.fq (Cw es) xs 0 (pairsOf (es.map gP)).size) :
  ∃ os:List k7,(xs.map (·.2)).toList=os.map gP/\os.Perm es/\os.Pairwise λx y=>x.2.1<=y.2.1:=by
 have pm:=ahA.mp hp
 rw [Qu,map_map] at pm
 have mx:∀ p∈xs.toList,∃ e∈es,p=(gP e,gP e):=λp h=>by
  obtain ⟨e,m,q⟩:=au8.mp (pm.mem_iff.mp h)
  exact ⟨e,m,q.symm⟩
 refine ⟨xs.toList.map λp=>rC es (rX p.2),?_,?_,?_⟩
 .rw [Array.toList_map,map_map]
  refine a8Y λp h=>?_
  obtain ⟨e,m,rfl⟩:=mx p h
  show gP e=gP (rC es e.1)
  rw [yq nd m]
 .have q:=pm.map λp=>rC es (rX p.2)
  rw [map_map] at q
  refine q.trans (List.Perm.of_eq ?_)
  have:es.map ((λp:Keyed=>rC es (rX p.2)) ∘ ((λv=>(v,v)) ∘ gP))=es.map id:=a8Y λe m=>yq nd m
  rw [this,map_id]
 .rw [pairwise_iff_getElem]
  intro i j h1 h2 hij
  have hi2:i<xs.size:=by simpa using h1
  have hj2:j<xs.size:=by simpa using h2
  have v:=hi i j (aUM _) (a9L hij) (by rw [← hp.size_eq]; exact hj2)
  unfold aH.Kg at v
  rw [a2Z hi2,a2Z hj2] at v
  rw [List.getElem_map,List.getElem_map,aWX,aWX]
  exact v
def m6 (H:Hp) (es:List k7):Hp:=λa=>match es.find? λe=>e.1 == a with
 | some e=>some (.tup [.int e.2.1,.int e.2.2])
 | none=>H a
theorem Px {H:Hp} {es:List k7} {a:Addr} (h:∀ e∈es,e.1≠a):m6 H es a=H a:=by
 unfold m6
 rw [List.find?_eq_none.mpr λe m=>by simpa using h e m]
theorem Ym {H:Hp} {es:List k7} (nd:(es.map (·.1)).Nodup) {e:k7} (m:e∈es):m6 H es e.1=some (.tup [.int e.2.1,.int e.2.2]):=by
 have q:=yq nd m
 unfold rC at q
 unfold m6
 cases z:es.find? λx=>x.1 == e.1 with
 | none=>exact absurd (List.find?_eq_none.mp z e m) (by simp)
 | some x=>rw [z] at q; have q:x=e:=q; rw [q]
theorem Qn {α β:Type} {F:α->β->Prop}:∀ {l₁:List α} {l₂:List β},Paired F l₁ l₂->∀ {i:Nat} {a:α} {b:β},l₁[i]?=some a->l₂[i]?=some b->F a b
 | _,_,.nil,_,_,_,h,_=>by simp at h
 | _,_,.cons r t,0,_,_,h,g=>by
  simp only [List.getElem?_cons_zero,Option.some.injEq] at h g
  subst h g; exact r
 | _,_,.cons r t,i+1,_,_,h,g=>Qn t (i:=i) (by simpa using h) (by simpa using g)
theorem Ni {α β:Type} {f:α->β}:∀ {l:List α},(l.map f).Nodup->∀ {a b:α},a∈l->b∈l->f a=f b->a=b
 | [],_,_,_,h,_,_=>nomatch h
 | x :: r,nd,a,b,ha,hb,e=>by
  obtain ⟨n1,n2⟩:=aDH.mp nd
  rcases aHJ.mp ha with h1 | h1 <;> rcases aHJ.mp hb with h2 | h2
  .rw [h1,h2]
  .exact absurd (by rw [← h1,e]; exact ad2 h2) n1
  .exact absurd (by rw [← h2,← e]; exact ad2 h1) n1
  .exact Ni n2 h1 h2 e
theorem Ww (os:List k7):Vals (os.map λe=>V.ref e.1) (os.map gP):=by
 induction os with
 | nil=>exact .nil
 | cons e r ih=>exact .cons rfl ih
section
variable {X:Cx} {pins:List (Addr×Obj)} {σ:St} {H H':Hp} {s:Shared} {h':Heap}
theorem Inv.more {t':Nat} (I:Inv X pins σ H s) (k:∀ b u,s.heap.get? b=some u->h'.get? b=some u) (on:∀ b o,H b=some o->H' b=some o) (fr:∀ b u,s.heap.get? b=some u->H b=none->H' b=none) (new:∀ b o,H b=none->H' b=some o->aJ X.prog X.w H' h' b o) :
  Inv X pins σ H' { s with heap:=h',toks:=t' }:=by
 refine I.un ⟨λb u q _ _ _=>k b u q,λb u q _ _ _=>⟨u.slots,k b u q⟩,λb u q n _=>fr b u q n,λb u q _=>⟨u,k b u q⟩,λb xs q=>on _ _ q,λb o u q=>on _ _ q,λb p z q=>on _ _ q⟩ λb u e=>?_
 cases c:H b with
 | some o =>
  have e2:=avM ((on b o c).symm.trans e)
  subst e2
  exact (I.hok b o c).stay (λc v _ q=>k c v q) (λc q=>on _ _ q) (λc xs q=>on _ _ q) λc oz q=>on _ _ q
 | none=>exact new b u c e
end
theorem ZhG {P:Program} {w:World} (d:Addr) (hd:(d == sysModules)=false) :
  MeetsIn P w (Builtin.«dict.items» ⟨[.ref d],[]⟩) (λ_ R s=>s.TypeIs (.ref d) "dict" /\ R (.ok (.ret (.ref s.heap.objs.size))) { s with heap:=s.heap.push { cls:=.type "dict_items",data:=.fields #[.ref d] } }) :=
 .of_wp λA R s ⟨ty,h⟩=>by
  unfold Builtin.«dict.items»; refine apg ?_; unfold Builtin.Dict.noArgs; refine apg (wpAny_notOrdered_dict ty ?_); show wpAny _ _ (pure d) _ _ s
  refine a5a ?_; show wpAny _ _ (Builtin.Dict.showsAll d >>= _) _ _ s; unfold Builtin.Dict.showsAll; rw [aM3 (by rw [hd]; exact aBC)]
  exact apg (a5a (apg (aB2 (a5a ⟨_,rfl,h⟩))))
section
variable {X:Cx}
def Ly (H:Hp) (v d:Addr):Prop:=H v=some (.ext λh=>h.IsItemsView v d)
def Wv (tl:TE):TE:=λσ H Q=>tl σ H λx H1=>∃ d kvs,x=.ref d/\H1 d=some (.dK kvs)/\∀ v,H1 v=none->Q (.ref v) (upd H1 v (.ext λh=>h.IsItemsView v d))
theorem YU {l:Expr} {tl:TE} {apos cpos:Pos} (hl:PE X l tl) (hbase:attributeBase l "items" X.env (eval l X.env)=eval l X.env:=by rfl) (hline:(apos.endLine == cpos.line)=true:=by rfl):PE X (.Call (.Attribute l "items" apos) [] [] cpos) (Wv tl):=by
 intro pins s σ H Q I h
 refine wpAny_Call_method0_late hbase hline (gc (hl pins s σ H _ I h) λv s1 x H1 I1 r1 q1=>?_)
 obtain ⟨d,kvs,e,hd,q⟩:=q1
 subst e
 cases r1
 obtain ⟨t1,t2,hs⟩:=Di I1 (.inl ⟨kvs,.inl hd⟩)
 refine ⟨"dict", "dict.items",aum,PySem.F.slot_dict_items,PySem.F.type_dict_items,t1,t2,a1F rfl (PySem.evalArgs_none ?_)⟩
 refine call_meetsIn PySem.F.slot_dict_items t1 PySem.F.entry_dict_items (PySem.F.args_dict_items_1 _) (ZhG d hs) ⟨t1,?_⟩
 refine ⟨.ref s1.heap.objs.size,_,I1.laid (a:=s1.heap.objs.size) (t':=s1.toks) (o:=.ext λh=>h.IsItemsView s1.heap.objs.size d) (λb o z=>aXX _ z) (aEt _) ⟨⟨_,aYI _ rfl,rfl,rfl⟩,⟨_,aYI _ rfl⟩,λh1 h2 ⟨o,ho,x⟩ up=>⟨o,up o ho,x⟩⟩,rfl,q _ (I1.hok.fresh (aEt _))⟩
def Yl:List V->Hp->VK->Prop:=λxs H Q=>∃ (v d:Addr) (ps:List (Int×Int)),xs=[.ref v]/\Ly H v d/\H d=some (.dK (ps.map λp=>(Sum.inl p.1,V.int p.2)))/\(ps.map (·.1)).Nodup/\ps.length<=1000000 /\
 ∀ (D:Addr) (os:List k7) (H':Hp),H D=none->az H H'->H' D=some (.lst (os.map λe=>V.ref e.1))->(∀ e∈os,H e.1=none/\H' e.1=some (.tup [.int e.2.1,.int e.2.2]))->(os.map (·.2)).Perm ps->(os.Pairwise λx y=>x.2.1<y.2.1)->Q (.ref D) H'
theorem ZhH (hc:X.calm=true):bH X (.builtin "sorted") Yl:=by
 intro pins s σ H xs us Q I r h
 obtain ⟨v,d,ps,rfl,hv,hd,nd,hz,q⟩:=h
 obtain ⟨u,rfl,rx⟩:=vals1 r
 cases rx
 obtain ⟨hvw,_⟩:=I.hok v _ hv
 obtain ⟨_,hs,vs,rv,hD⟩:=I.hok d _ hd
 obtain ⟨ep,hat⟩:=hD.dictAt
 have hl:vs.length=ps.length:=by have:=bbS rv; rw [aK1] at this; exact this.symm
 refine call_function_entry kind_sorted plain_sorted entry_sorted (args_sorted1 _) ?_
 unfold Builtin.«sorted»
 refine apg (m:=checkCount "sorted" 1 1 _) (a5a ?_)
 refine apg (W.kdx_collect (A:=X.A.in1) (knd:=ZD X.prog X.w) (kvs:=vs) (ep:=ep) (show X.A.in1.handled=none from I.ok.hd hc) hvw hat (by rw [aLq]; lia) λh' tk as hk' la hG=>?_)
 obtain ⟨es,ea,ev,pk⟩:∃ es:List k7,es.map (·.1)=as/\es.map (·.2)=ps/\∀ e∈es,BN h' e:=by
  refine ⟨as.zip ps,List.map_fst_zip (by lia),List.map_snd_zip (by lia),λe m=>?_⟩
  obtain ⟨j,hj⟩:=List.mem_iff_getElem?.mp m
  rw [List.getElem?_zip_eq_some] at hj
  obtain ⟨ja,jp⟩:=hj
  obtain ⟨key,k,x,e1,e2,e3⟩:=hG.pairs j _ ja
  obtain ⟨f1,f2⟩:=Qn rv (i:=j) (by rw [aBK,jp]; rfl) e1
  dsimp only at f1 f2
  subst f1
  obtain ⟨t,rfl⟩:=OX e2
  obtain ⟨t',rfl⟩:=f2
  exact ⟨t,t',e3⟩
 have zR:(es.map (·.1)).Nodup:=by rw [ea]; exact hG.rise.imp λh=>ayF h
 have LX:(es.map λe=>e.2.1).Nodup:=by
  rw [← ev,map_map] at nd
  exact nd
 have le:es.length=ps.length:=by rw [← ev,aK1]
 have er:as.map Value.ref=es.map gP:=by rw [← ea,map_map]; rfl
 have ab:∀ e∈es,s.heap.objs.size<e.1:=λe m=>hG.above _ (by rw [← ea]; exact ad2 m)
 rw [er]
 refine apg (a4X ?_ (by rw [aK1,le,aLq]; lia))
 have kY:(h'.push (seqObj "list" (es.map gP).toArray 0)).get? h'.objs.size=some (seqObj "list" (es.map gP).toArray 0):=aYI _ rfl
 show wpAny _ _ _ _ _ { s with heap:=h'.push (seqObj "list" (es.map gP).toArray 0),toks:=tk }
 have up1:∀ b o,h'.get? b=some o->(h'.push (seqObj "list" (es.map gP).toArray 0)).get? b=some o:=λb o e=>aXX _ e
 have L1:∀ e∈es,e.1<h'.objs.size:=λe m=>by obtain ⟨_,_,z⟩:=pk e m; exact a2R z
 refine apg (a9s (baF slot_list_sort ⟨_,kY,rfl⟩ entry_list_sort (Nl (s:={ s with heap:=h'.push (seqObj "list" (es.map gP).toArray 0),toks:=tk }) (κ:=tuples' true) (ρ:=Cw es) kY (by rw [aK1,le]; exact hz) (λtwo=>?_) λst a1 a2=>⟨_,rfl,?_⟩) (args_list_sort _)))
 .have FW:∀ e∈es,BN (mT (h'.push (seqObj "list" (es.map gP).toArray 0)) h'.objs.size (es.map gP)) e:=λe m=>by
   obtain ⟨t,t',z⟩:=pk e m
   exact ⟨t,t',Xy (ayF (L1 e m)) (up1 _ _ z)⟩
  refine ⟨λE Q hQ=>?_,λx mx y my E Q hQ=>?_⟩
  .obtain ⟨fs,t,lf,hf⟩:=Nj FW
   refine W.kat_kind (T:=Value.type "int") t (by rw [aK1] at two; lia) (λv m=>?_) rfl hQ
   obtain ⟨n,t,rfl⟩:=hf v m
   exact .now
  .rw [Qu,map_map] at mx my
   obtain ⟨a,ma,rfl⟩:=au8.mp mx
   obtain ⟨b,mb,rfl⟩:=au8.mp my
   refine HJ (FW a ma) (FW b mb) (λz=>by rw [Ni LX ma mb z]) ?_
   have e1:(Cw es).g (gP a,gP a)=a.2.1:=by show (rC es a.1).2.1=_; rw [yq zR ma]
   have e2:(Cw es).g (gP b,gP b)=b.2.1:=by show (rC es b.1).2.1=_; rw [yq zR mb]
   rw [← e1,← e2]
   exact hQ
 refine a5a ⟨_,rfl,?_⟩
 obtain ⟨os,eo,po,so⟩:=zD zR a1 a2
 obtain ⟨e,he⟩:=sortedHeap_at (out:=(arrOf st).map (·.2)) kY
 have lo:=po.length_eq
 have D0:H h'.objs.size=none:=(I.kept (t':=tk) hk').hok.fresh (aEt _)
 have ndO:(os.map (·.1)).Nodup:=(po.map _).nodup_iff.mpr zR
 have nE:∀ {b o},H b=some o->∀ e∈es,e.1≠b:=λ{b o} z e m=>anG (a57 (I.hok.lt z) (ab e m))
 have on:∀ b o,H b=some o->upd (m6 H es) h'.objs.size (.lst (os.map λe=>V.ref e.1)) b=some o:=λb o z=>by rw [Zc (Ze z D0),Px (nE z)]; exact z
 have LD:∀ b o,h'.get? b=some o->(sortedHeap (h'.push (seqObj "list" (es.map gP).toArray 0)) h'.objs.size (es.map gP) ((arrOf st).map (·.2))).get? b=some o:=λb o z=>by
  have lt:=a2R z
  rw [sortedHeap_old (ayF lt) (by rw [size_push']; exact aW2 lt),a2q _ _ _ (ayF lt)]
  exact z
 have I2:Inv X pins σ (upd (m6 H es) h'.objs.size (.lst (os.map λe=>V.ref e.1))) { s with heap:=sortedHeap (h'.push (seqObj "list" (es.map gP).toArray 0)) h'.objs.size (es.map gP) ((arrOf st).map (·.2)),toks:=tk }:=by
  generalize sortedHeap (h'.push (seqObj "list" (es.map gP).toArray 0)) h'.objs.size (es.map gP) ((arrOf st).map (·.2))=hF at *
  refine I.more (λb u z=>LD _ _ (hk' _ _ z)) on (λb u z n=>?_) λb o n z=>?_
  .rw [Zc (ayF (a2R (hk' _ _ z))),Px λe m=>anG (a57 (a2R z) (ab e m))]
   exact n
  by_cases c:b=h'.objs.size
  .subst c
   rw [Za] at z
   cases z
   exact ⟨by rw [aK1,lo,le,aLq]; lia,os.map gP,e,Ww os,by rw [← eo]; exact he⟩
  .rw [Zc c] at z
   unfold m6 at z
   cases y:es.find? λe=>e.1 == b with
   | none=>rw [y] at z; rw [show H b=some o from z] at n; cases n
   | some x =>
    rw [y] at z
    have mx:=List.mem_of_find?_eq_some y
    have ex:x.1=b:=by simpa using List.find?_some y
    cases z
    obtain ⟨t,t',g⟩:=pk x mx
    rw [← ex]
    exact ⟨by show 2<=sizeLine; decide,[.int x.2.1 t,.int x.2.2 t'],.cons ⟨t,rfl⟩ (.cons ⟨t',rfl⟩ .nil),_,LD _ _ g,rfl,_,rfl⟩
 refine ⟨.ref h'.objs.size,_,I2,rfl,q _ os _ D0 on Za (λx m=>?_) (by rw [← ev]; exact po.map _) ?_⟩
 .have mE:=po.mem_iff.mp m
  refine ⟨?_,by rw [Zc (ayF (L1 x mE))]; exact Ym zR mE⟩
  cases c:H x.1 with
  | none=>rfl
  | some o=>exact absurd rfl (nE c x mE)
 .have zQ:(os.map λe=>e.2.1).Nodup:=(po.map _).nodup_iff.mpr LX
  have:=List.pairwise_map.mp zQ
  exact (so.and this).imp λh=>by obtain ⟨h1,h2⟩:=h; lia
end
def YT:List V->Hp->VK->Prop:=λxs H Q=>∃ (d:Addr) (kvs:List (Key×V)) (ns:List Int),xs=[.ref d]/\H d=some (.dK kvs)/\kvs.map Prod.fst=ns.map Sum.inl/\ns.length<=1000000 /\
 ∀ (D:Addr) (os:List Int),H D=none->os.Perm ns->os.Pairwise (·<=·)->Q (.ref D) (upd H D (.lst (os.map V.int)))
section
variable {X:Cx}
theorem Zgq (hc:X.calm=true):bH X (.builtin "sorted") YT:=by
 intro pins s σ H xs us Q I r h
 obtain ⟨d,kvs,ns,rfl,hd,hk,hz0,q⟩:=h
 obtain ⟨u,rfl,rx⟩:=vals1 r
 cases rx
 obtain ⟨hz,hs,vs,rv,hD⟩:=I.hok d _ hd
 obtain ⟨ep,hat⟩:=hD.dictAt
 have hl:vs.length=ns.length:=by have l1:kvs.length=vs.length:=bbS rv; have l2:=aok List.length hk; simp at l2; lia
 refine call_function_entry kind_sorted plain_sorted entry_sorted (args_sorted1 _) ?_
 unfold Builtin.«sorted»
 refine apg (m:=checkCount "sorted" 1 1 _) (a5a ?_)
 refine apg (kdu_collect (A:=X.A.in1) (kdl_dict (knd:=ZD X.prog X.w) (kvs:=vs) (ep:=ep) hs) (show X.A.in1.handled=none from I.ok.hd hc) hat (by rw [aLq]; lia) λh' tk acc hk' hacc=>?_)
 have hv:=Qo rv hk hacc
 have la:acc.toList.length=ns.length:=by rw [aYJ,hacc.1,hl]
 generalize acc.toList=its at *
 refine apg (a4X ?_ (by rw [la,aLq]; lia))
 have kY:(h'.push (seqObj "list" its.toArray 0)).get? h'.objs.size=some (seqObj "list" its.toArray 0):=aYI _ rfl
 have I1:=I.kept (t':=tk) hk'
 show wpAny _ _ _ _ _ { s with heap:=h'.push (seqObj "list" its.toArray 0),toks:=tk }
 refine apg (a9s (baF slot_list_sort ⟨_,kY,rfl⟩ entry_list_sort (Nl (s:={ s with heap:=h'.push (seqObj "list" its.toArray 0),toks:=tk }) (κ:=oneType') (ρ:=xh) kY (by lia) (λtwo=>⟨λE Q hQ=>?_,λx mx y my E Q hQ=>?_⟩) λst hp hs=>⟨_,rfl,?_⟩) (args_list_sort _)))
 .have hkk:keyKind' its.toArray=pure oneType':=by
   obtain ⟨v1,v2,rest,e⟩:=VJ two
   rw [e] at hv ⊢
   exact keyKind_ints hv
  rw [hkk]
  exact a5a hQ
 .obtain ⟨a,t,ea⟩:=hv.intKeys x mx
  obtain ⟨b,t',eb⟩:=hv.intKeys y my
  rw [ea,eb]
  refine W.kat_lt_int ?_
  have e1:xh.g x=a:=by unfold xh; dsimp only; rw [ea]
  have e2:xh.g y=b:=by unfold xh; dsimp only; rw [eb]
  rw [e1,e2] at hQ
  exact hQ
 refine a5a ⟨_,rfl,?_⟩
 obtain ⟨ns',h1,h2,h3⟩:=sorted_out hv hp (λi j hij hj=>by rw [← Nk,← Nk]; exact hs i j (aUM _) hij hj)
 generalize (arrOf st).map (·.2)=out at *
 obtain ⟨e,he⟩:=sortedHeap_at (out:=out) kY
 have fr:H h'.objs.size=none:=I1.hok.fresh (aEt _)
 have lo:=h2.length_eq
 refine ⟨.ref h'.objs.size,_,I1.laid (a:=h'.objs.size) (t':=tk) (o:=.lst (ns'.map V.int)) (λb o z=>?_) (aEt _) ⟨by rw [aK1,lo,aLq]; lia,out.toList,e,Ec h1,he⟩,rfl,q _ ns' fr h2 h3⟩
 have z':h'.get? b=some o:=z
 have lt:=a2R z'
 rw [sortedHeap_old (ayF lt) (by rw [size_push']; exact aW2 lt),a2q _ _ _ (ayF lt)]
 exact z'
end
end L2
set_option maxHeartbeats 4000000

namespace nF
open PySem L2
theorem scm {N P:List Str} {s:Scope} (a:s.kind=.function:=by rfl) (b:s.isCoroutine=false:=by rfl) (c:s.isGenerator=false:=by rfl) (d:N.Nodup:=by decide +kernel) (e:N.take P.length=P:=by rfl) (f:∀ x ∈ P,s.names.lookup x=some .local\/s.names.lookup x=some .cell:=by decide +kernel) (g:∀ y ∈ s.names,y.2 ≠ .free:=by decide +kernel):ah N P s:=⟨a,b,c,d,e,f,g⟩
theorem sl (n:Nat) (h:n ≤ 99:=by decide):n ≤ sizeLine:=a28 h (by rw [aLq]; decide)
variable {P:Program} {w:World} {K:W.Frag} {mg:Str->Option Value} {base:Heap}
def top (i:Nat):Stmt:=PySem.Challenge.pw_nearstairs_k28_written_through.main.body.getD i (.Pass ⟨0,0,0,0⟩)
theorem bA {N P:List Str} {sc:Scope} (a:sc.kind=.function:=by rfl) (b:sc.isCoroutine=false:=by rfl) (c:sc.isGenerator=false:=by rfl) (d:N.Nodup:=by decide +kernel) (e:N.take P.length=P:=by rfl) (f:∀ x∈P,sc.names.lookup x=some .local\/sc.names.lookup x=some .cell:=by decide +kernel) (g:∀ y∈sc.names,y.2≠.free:=by decide +kernel):ah N P sc:=⟨a,b,c,d,e,f,g⟩
abbrev Ka:Stmt:=top 2
abbrev jB:List Str:=["size", "spot"]
abbrev yw:List Str:=jB.take 2
theorem iM:ah jB yw (Zh Ka):=bA
abbrev J9:Stmt:=top 3
abbrev jz:List Str:=["size", "board", "first"]
abbrev Ek:List Str:=jz.take 2
theorem iK:ah jz Ek (Zh J9):=bA
abbrev J8:Stmt:=top 4
abbrev jA:List Str:=["shelves", "board"]
abbrev J7:List Str:=jA.take 2
theorem iL:ah jA J7 (Zh J8):=bA
abbrev Ei:Stmt:=Zq (top 12) 0
abbrev f6:List Str:=["self", "shelves", "places", "rule"]
abbrev J3:List Str:=f6.take 4
theorem ie:ah f6 J3 (Zh Ei):=bA
abbrev J6:Stmt:=Zq (top 12) 1
abbrev jD:List Str:=["self", "board"]
abbrev BC:List Str:=jD.take 2
theorem iO:ah jD BC (Zh J6):=bA
abbrev KG:Stmt:=Zq (top 12) 2
abbrev iB:List Str:=["self", "board", "out"]
abbrev KD:List Str:=iB.take 2
theorem gz:ah iB KD (Zh KG):=bA
abbrev J5:Stmt:=Zq (top 12) 3
abbrev jC:List Str:=["self", "board", "mates"]
abbrev J4:List Str:=jC.take 2
theorem iN:ah jC J4 (Zh J5):=bA
abbrev J2:Stmt:=Zq (top 12) 4
abbrev iY:List Str:=["self", "board"]
abbrev Eh:List Str:=iY.take 2
theorem ig:ah iY Eh (Zh J2):=bA
abbrev Kq:Stmt:=Zq (top 12) 5
abbrev gK:List Str:=["self"]
abbrev Kp:List Str:=gK.take 1
theorem fM:ah gK Kp (Zh Kq):=bA
abbrev JZ:Stmt:=Zq (top 12) 7
abbrev iX:List Str:=["self", "board"]
abbrev Bw:List Str:=iX.take 2
theorem ic:ah iX Bw (Zh JZ):=bA
abbrev KC:Stmt:=Zq (top 12) 8
abbrev iA:List Str:=["self", "board"]
abbrev yz:List Str:=iA.take 2
theorem gx:ah iA yz (Zh KC):=bA
abbrev Lp:Stmt:=Zq (top 12) 9
abbrev cX:List Str:=["self", "board", "mates"]
abbrev EB:List Str:=cX.take 2
theorem cG:ah cX EB (Zh Lp):=bA
abbrev ZG:Stmt:=Zq (top 12) 10
abbrev cE:List Str:=["self", "mates"]
abbrev BH:List Str:=cE.take 2
theorem gy:ah cE BH (Zh ZG):=bA
abbrev KA:Stmt:=Zq (top 14) 0
abbrev iy:List Str:=["self", "room_plan", "shelves", "places", "rule", "writing"]
abbrev Kz:List Str:=iy.take 2
theorem gr:ah iy Kz (Zh KA):=bA
abbrev JY:Stmt:=Zq (top 14) 1
abbrev iV:List Str:=["self", "board"]
abbrev Bv:List Str:=iV.take 2
theorem g6:ah iV Bv (Zh JY):=bA
abbrev KP:Stmt:=Zq (top 14) 2
abbrev eZ:List Str:=["self", "board", "words"]
abbrev KO:List Str:=eZ.take 3
theorem dD:ah eZ KO (Zh KP):=bA
abbrev Ln:Stmt:=Zq (top 14) 3
abbrev dU:List Str:=["self", "board"]
abbrev Lm:List Str:=dU.take 2
theorem cR:ah dU Lm (Zh Ln):=bA
abbrev Ll:Stmt:=Zq (top 14) 4
abbrev dR:List Str:=["self", "board"]
abbrev ZS:List Str:=dR.take 2
theorem cO:ah dR ZS (Zh Ll):=bA
abbrev JX:Stmt:=Zq (top 14) 5
abbrev iT:List Str:=["self", "board", "words"]
abbrev Eg:List Str:=iT.take 3
theorem gZ:ah iT Eg (Zh JX):=bA
abbrev Lj:Stmt:=Zq (top 14) 6
abbrev dS:List Str:=["self", "board", "at", "word"]
abbrev Li:List Str:=dS.take 4
theorem cQ:ah dS Li (Zh Lj):=bA
abbrev KN:Stmt:=Zq (top 14) 8
abbrev e8:List Str:=["self", "board"]
abbrev Ey:List Str:=e8.take 2
theorem dF:ah e8 Ey (Zh KN):=bA
abbrev Ko:Stmt:=Zq (top 15) 0
abbrev gM:List Str:=["self", "size"]
abbrev Kn:List Str:=gM.take 2
theorem fN:ah gM Kn (Zh Ko):=bA
abbrev EA:Stmt:=Zq (top 15) 2
abbrev bN:List Str:=["self", "board"]
abbrev Lo:List Str:=bN.take 2
theorem cH:ah bN Lo (Zh EA):=bA
abbrev Ky:Stmt:=Zq (top 15) 3
abbrev iC:List Str:=["self", "board", "words", "spot", "word"]
abbrev Kw:List Str:=iC.take 3
theorem gA:ah iC Kw (Zh Ky):=bA
abbrev K7:Stmt:=Zq (top 15) 4
abbrev f7:List Str:=["self"]
abbrev K6:List Str:=f7.take 1
theorem eX:ah f7 K6 (Zh K7):=bA
abbrev ZX:Stmt:=Zq (top 17) 0
abbrev ef:List Str:=["self", "size", "room_plans"]
abbrev BG:List Str:=ef.take 3
theorem gw:ah ef BG (Zh ZX):=bA
abbrev Kv:Stmt:=Zq (top 17) 1
abbrev iz:List Str:=["self", "k"]
abbrev Ku:List Str:=iz.take 2
theorem gu:ah iz Ku (Zh Kv):=bA
abbrev KL:Stmt:=Zq (top 17) 2
abbrev fh:List Str:=["self", "k"]
abbrev Ex:List Str:=fh.take 2
theorem dI:ah fh Ex (Zh KL):=bA
abbrev Km:Stmt:=Zq (top 17) 3
abbrev gF:List Str:=["self", "k", "board"]
abbrev Es:List Str:=gF.take 3
theorem fF:ah gF Es (Zh Km):=bA
abbrev K5:Stmt:=Zq (top 17) 4
abbrev fU:List Str:=["self"]
abbrev K4:List Str:=fU.take 1
theorem eL:ah fU K4 (Zh K5):=bA
abbrev Kl:Stmt:=Zq (top 17) 5
abbrev gG:List Str:=["self", "k"]
abbrev BD:List Str:=gG.take 2
theorem fH:ah gG BD (Zh Kl):=bA
abbrev KW:Stmt:=Zq (top 17) 6
abbrev dX:List Str:=["self", "events"]
abbrev Ez:List Str:=dX.take 1
theorem cT:ah dX Ez (Zh KW):=bA
abbrev K3:Stmt:=Zq (top 17) 7
abbrev fV:List Str:=["self", "k", "board"]
abbrev BE:List Str:=fV.take 3
theorem eN:ah fV BE (Zh K3):=bA
abbrev Lc:Stmt:=Zq (top 17) 8
abbrev cL:List Str:=["self", "k"]
abbrev Lb:List Str:=cL.take 2
theorem cy:ah cL Lb (Zh Lc):=bA
abbrev K2:Stmt:=Zq (top 17) 9
abbrev fT:List Str:=["self", "k", "board"]
abbrev EF:List Str:=fT.take 3
theorem eG:ah fT EF (Zh K2):=bA
abbrev KJ:Stmt:=Zq (top 17) 10
abbrev fc:List Str:=["self", "k", "board", "words"]
abbrev Ew:List Str:=fc.take 4
theorem dH:ah fc Ew (Zh KJ):=bA
abbrev K1:Stmt:=Zq (top 17) 11
abbrev fW:List Str:=["self", "k", "board"]
abbrev ZU:List Str:=fW.take 3
theorem eS:ah fW ZU (Zh K1):=bA
abbrev JW:Stmt:=Zq (top 17) 12
abbrev iW:List Str:=["self", "k", "board", "words"]
abbrev Bu:List Str:=iW.take 4
theorem g9:ah iW Bu (Zh JW):=bA
abbrev KH:Stmt:=Zq (top 17) 13
abbrev e9:List Str:=["self", "k", "spot"]
abbrev La:List Str:=e9.take 3
theorem dG:ah e9 La (Zh KH):=bA
abbrev KU:Stmt:=Zq (top 17) 14
abbrev dW:List Str:=["self", "k", "spot", "word"]
abbrev KS:List Str:=dW.take 4
theorem cS:ah dW KS (Zh KU):=bA
abbrev Kh:Stmt:=Zq (top 19) 0
abbrev gJ:List Str:=["self", "plan", "size", "kind", "room_plans"]
abbrev Er:List Str:=gJ.take 2
theorem fL:ah gJ Er (Zh Kh):=bA
abbrev Kf:Stmt:=Zq (top 19) 1
abbrev gH:List Str:=["self", "spot", "board"]
abbrev Ep:List Str:=gH.take 2
theorem fJ:ah gH Ep (Zh Kf):=bA
abbrev K0:Stmt:=Zq (top 19) 2
abbrev fX:List Str:=["self", "spot", "word", "board"]
abbrev EE:List Str:=fX.take 3
theorem eT:ah fX EE (Zh K0):=bA
abbrev KZ:Stmt:=Zq (top 19) 5
abbrev fZ:List Str:=["self", "board", "k"]
abbrev ED:List Str:=fZ.take 2
theorem eV:ah fZ ED (Zh KZ):=bA
abbrev KR:Stmt:=Zq (top 19) 6
abbrev dY:List Str:=["self", "board", "k", "store"]
abbrev KQ:List Str:=dY.take 2
theorem cU:ah dY KQ (Zh KR):=bA
abbrev K9:Stmt:=Zq (top 19) 7
abbrev fj:List Str:=["self", "k", "board", "store"]
abbrev EH:List Str:=fj.take 3
theorem dJ:ah fj EH (Zh K9):=bA
abbrev KY:Stmt:=Zq (top 19) 8
abbrev fY:List Str:=["self", "k", "board", "words", "far", "store"]
abbrev EC:List Str:=fY.take 4
theorem eU:ah fY EC (Zh KY):=bA
abbrev Lf:Stmt:=Zq (top 19) 9
abbrev cB:List Str:=["self", "k", "board", "words", "near", "out"]
abbrev Le:List Str:=cB.take 3
theorem bR:ah cB Le (Zh Lf):=bA
abbrev Lr:Stmt:=Zq (top 19) 10
abbrev cM:List Str:=["self", "k", "board", "words", "fresh", "near", "fresh_near"]
abbrev Lq:List Str:=cM.take 3
theorem cz:ah cM Lq (Zh Lr):=bA
abbrev Lh:Stmt:=Zq (top 19) 11
abbrev bW:List Str:=["self", "k", "board", "words", "fresh"]
abbrev Lg:List Str:=bW.take 3
theorem bP:ah bW Lg (Zh Lh):=bA
abbrev ZP:Stmt:=Zq (top 19) 12
abbrev gI:List Str:=["self", "k", "board", "words", "fresh", "out", "out_words", "out_fresh"]
abbrev ZH:List Str:=gI.take 5
theorem fK:ah gI ZH (Zh ZP):=bA
abbrev Ld:Stmt:=Zq (top 19) 13
abbrev cC:List Str:=["self", "k", "board", "words", "fresh"]
abbrev ZQ:List Str:=cC.take 5
theorem bS:ah cC ZQ (Zh Ld):=bA
abbrev p8:Stmt:=top 21
abbrev uU:List Str:=["_law_script", "_law_k", "_law_cell"]
abbrev qT:List Str:=uU.take 2
theorem pY:ah uU qT (Zh p8):=bA
abbrev Ik:Stmt:=top 22
abbrev qV:List Str:=["_law_box_here", "_law_size", "_law_found", "_law_step", "_law_once", "_law_twice"]
abbrev uL:List Str:=qV.take 2
theorem nU:ah qV uL (Zh Ik):=bA
abbrev Ji:Stmt:=top 23
abbrev mC:List Str:=["_law_script", "_law_size", "_law_cells", "_law_k", "_law_cell"]
abbrev Jg:List Str:=mC.take 2
theorem jT:ah mC Jg (Zh Ji):=bA
abbrev uK:Stmt:=top 24
abbrev nB:List Str:=["_law_found", "_law_due"]
abbrev uJ:List Str:=nB.take 2
theorem nV:ah nB uJ (Zh uK):=bA
abbrev JV:Stmt:=top 25
abbrev iS:List Str:=["_law_box_here", "_law_far", "_law_shelves", "_law_places", "_law_rule"]
abbrev JU:List Str:=iS.take 1
theorem gY:ah iS JU (Zh JV):=bA
abbrev Dv:Stmt:=top 26
abbrev nD:List Str:=["_law_box_here", "_law_kind", "_law_size"]
abbrev Ij:List Str:=nD.take 1
theorem nX:ah nD Ij (Zh Dv):=bA
abbrev Eo:Stmt:=top 27
abbrev dg:List Str:=["_law_box_here", "_law_size", "_law_many_here", "_law_way", "_law_begin", "_law_first", "_law_found", "_law_far", "_law_k", "_law_at"]
abbrev Ke:List Str:=dg.take 2
theorem fE:ah dg Ke (Zh Eo):=bA
abbrev Ii:Stmt:=top 28
abbrev qU:List Str:=["_law_box_here", "_law_way", "_law_number", "_law_turn"]
abbrev Ih:List Str:=qU.take 1
theorem nT:ah qU Ih (Zh Ii):=bA
abbrev Ig:Stmt:=top 29
abbrev qY:List Str:=["_law_box_here", "_law_size", "_law_some", "_law_write", "_law_spot"]
abbrev Du:List Str:=qY.take 3
theorem nZ:ah qY Du (Zh Ig):=bA
abbrev HS:Stmt:=top 30
abbrev qW:List Str:=["_law_box_here", "_law_few", "_law_most", "_law_great"]
abbrev Dt:List Str:=qW.take 3
theorem nY:ah qW Dt (Zh HS):=bA
abbrev DF:Stmt:=top 31
abbrev kU:List Str:=["_law_rooms_here", "_law_first", "_law_found"]
abbrev Iz:List Str:=kU.take 2
theorem lB:ah kU Iz (Zh DF):=bA
abbrev Ds:Stmt:=top 32
abbrev nC:List Str:=["_law_events"]
abbrev Dr:List Str:=nC.take 1
theorem nW:ah nC Dr (Zh Ds):=bA
abbrev En:Stmt:=top 33
abbrev cZ:List Str:=["_law_stairs", "_law_plan_here", "_law_deed_here", "_law_events", "_law_board", "_law_due"]
abbrev Kd:List Str:=cZ.take 4
theorem fD:ah cZ Kd (Zh En):=bA
abbrev DE:Stmt:=top 34
abbrev kW:List Str:=["_law_book"]
abbrev Iw:List Str:=kW.take 1
theorem lD:ah kW Iw (Zh DE):=bA
abbrev EG:Stmt:=top 35
abbrev b9:List Str:=["_law_box_here", "_law_plan_here", "_law_some", "_law_stairs", "_law_book", "_law_turn", "_law_deed_here", "_law_word_here", "_law_events"]
abbrev K8:List Str:=b9.take 3
theorem dB:ah b9 K8 (Zh EG):=bA
abbrev Eu:Stmt:=top 36
abbrev d9:List Str:=["_law_box_here", "_law_plan_here", "_law_some", "_law_stairs", "_law_turn", "_law_deed_here"]
abbrev Ks:List Str:=d9.take 3
theorem gq:ah d9 Ks (Zh Eu):=bA
abbrev Iv:Stmt:=top 37
abbrev oR:List Str:=["_law_box_here", "_law_size", "_law_kind", "_law_rooms_here", "_law_some"]
abbrev Iu:List Str:=oR.take 1
theorem lC:ah oR Iu (Zh Iv):=bA
abbrev gB:Stmt:=top 38
abbrev qX:List Str:=["_law_script", "_law_cells"]
abbrev mw:List Str:=qX.take 1
theorem pX:ah qX mw (Zh gB):=bA
structure Txt (K:W.Frag) (mg:Str->Option Value):Prop where
 CV:mg "abs" = none
 CU:mg "all" = none
 CT:mg "any" = none
 CO:mg "bool" = none
 Gv:mg "divmod" = none
 Cm:mg "enumerate" = none
 xP:mg "int" = none
 pK:mg "isinstance" = none
 nJ:mg "len" = none
 pT:mg "list" = none
 CS:mg "max" = none
 GG:mg "min" = none
 lE:mg "range" = none
 uV:mg "sorted" = none
 Ab:mg "str" = none
 wZ:mg "tuple" = none
 CQ:mg "zip" = none
 gf:mO K (aa K "Room")
 L7:aQ K (aa K "Room") "places"
 Gz:aQ K (aa K "Room") "rule"
 L8:aQ K (aa K "Room") "shelves"
 Ma:aQ K (aa K "Room") "standing"
 uW:aQ K (aa K "Room") "uses"
 gg:mO K (aa K "Store")
 Cj:aQ K (aa K "Store") "fresh"
 yG:aQ K (aa K "Store") "held"
 E3:aQ K (aa K "Store") "late"
 uc:aQ K (aa K "Store") "room"
 qd:mO K (aa K "Memory")
 yH:aQ K (aa K "Memory") "kept"
 E8:aQ K (aa K "Memory") "size"
 aR:mO K (aa K "Stairs")
 Ck:aQ K (aa K "Stairs") "bottom"
 vd:aQ K (aa K "Stairs") "events"
 E7:aQ K (aa K "Stairs") "kind"
 qf:aQ K (aa K "Stairs") "last"
 ve:aQ K (aa K "Stairs") "size"
 n8:aQ K (aa K "Stairs") "stores"
structure aG (H:Hp) (b:Addr) (a q c:Int):Prop where
 at':H b=some (.lst [.int a,.int q,.int c])
 a0:0<=a
 q0:0<=q
 q1:q<2147483647
 c0:0<=c
theorem aG.sb {H H':Hp} {b x:Addr} {a q c:Int} (B:aG H b a q c) (s:SB x H H') (n:b≠x):aG H' b a q c:=⟨s _ _ n B.at',B.a0,B.q0,B.q1,B.c0⟩
theorem aG.same {H H':Hp} {b:Addr} {a q c:Int} (B:aG H b a q c) (s:az H H'):aG H' b a q c:=⟨s _ _ B.at',B.a0,B.q0,B.q1,B.c0⟩
def wk:Sp:=λvs H Q _=>∃ (b:Addr) (a q c n:Int),vs=[.ref b,.int n]/\aG H b a q c/\c<1099511627776/\0<n/\n<1073741824 /\
 ∀ (r a' c':Int) (H':Hp),0<=r->r<n->aG H' b a' q c'->c'<=c+1->SB b H H'->Q (.int r) H'
section
theorem vY (a:Int) {b:Int} (h:0<b):0<=a % b:=aI8 a (by lia)
theorem vX (a:Int) {b:Int} (h:0<b):a % b<b:=a2j a h
theorem Wu (F:aY K "_law_take" "_law_take" Ik f fd) (T:Txt K mg):av P w K mg base aV 1 f fd uL wk:=by
 refine F.ok nU (λvs H Q E h=>?_) (λcdv A outer s H vs Q E hr h=>?_)
 .obtain ⟨b,a,q,c,n,rfl,_⟩:=h
  rfl
 obtain ⟨b,a,q,c,n,rfl,B,hc,hn0,hn1,k⟩:=h
 have nd:=nU.nd
 refine ⟨_,(Zf (aI (Zy zG (ao (Zr (K:=K) rfl) (pv 0) Zj (λ_ _=>rfl)) Zj (Zz _)) (Zf (mH (Zn Zih rfl T.Gv Zij (pc (ao (Zr (K:=K) rfl) (pv 0) Zj (λ_ _=>rfl)) (pc (pv 1) Zb))) (mJ (K:=K) (n:=2) rfl rfl (Zt (wA (pv 0) Zj wH) (Zt (bZ 2 nd) mK))))
   (Zi (Zu (pv 2)))) Zv)
   (Zf (mH (ak ZJ (ao (Zr (K:=K) rfl) (pv 0) Zj (λ_ _=>rfl)) Zj) (wA (pv 0) Zj wH))
   (Zf (cI 3 nd (ak ZJ Zj (ak o9 (ao (Zr (K:=K) rfl) (pv 0) Zj (λ_ _=>rfl)) (ao (Zr (K:=K) rfl) (pv 0) Zj (λ_ _=>rfl)))))
   (Zf (cI 4 nd (ak o8 (ak o9 (ak ZJ (ao (Zr (K:=K) rfl) (pv 0) Zj (λ_ _=>rfl)) (ak o9 Zj (ao (Zr (K:=K) rfl) (pv 0) Zj (λ_ _=>rfl)))) (pv 3)) Zj))
   (Zf (cI 5 nd (ak o8 (ak ZJ (ak o9 (pv 4) (ak ZJ (ak o8 (pv 4) Zj) Zj)) (ao (Zr (K:=K) rfl) (pv 0) Zj (λ_ _=>rfl))) Zj))
   (Zi (Zu (ak o8 (ak uQ (ak o8 (ak o9 (pv 5) (ak ZJ (ak o8 (pv 5) Zj) Zj)) Zj) Zj) (pv 1))))))))),?_⟩
 have hb:=B.at'
 have hc0:=B.c0
 have Ml:=B.q0
 have hq1:=B.q1
 refine ⟨_,rfl,b,_,_,_,rfl,rfl,aB.of hb,cK,_,_,rfl,rfl,_,rfl,?_⟩
 refine pq (λha=>?_) (λha=>?_)
 .refine ⟨_,rfl,b,_,_,_,rfl,rfl,aB.of hb,cK,_,rfl,_,_,rfl,⟨hn0,hn1⟩,λp hp=>?_⟩
  have UL:upd H p (.tup [.int (a / n),.int (a % n)]) b=some (.lst [.int a,.int q,.int c]):=by rw [Zc (Ze hb hp)]; exact hb
  refine ⟨p,_,rfl,aK.of Za,rfl,_,_,rfl,⟨_,rfl,b,_,_,0,rfl,rfl,UL,rfl,?_⟩⟩
  refine ⟨_,_,rfl,rfl,_,rfl,?_⟩
  exact k _ (a / n) c _ (vY _ hn0) (vX _ hn0) ⟨Za,Int.ediv_nonneg B.a0 (by lia),Ml,hq1,hc0⟩ (by lia) ((Zd hp _).sb b |>.trans (yh b _ _))
 .refine ⟨_,rfl,b,_,_,_,rfl,rfl,aB.of hb,gS,_,_,rfl,rfl,_,rfl,b,_,_,2,rfl,rfl,hb,rfl,?_⟩
  have hb1:upd H b (.lst [.int a,.int q,.int (c+1)]) b=some (.lst [.int a,.int q,.int (c+1)]):=Za
  have i0:aB K (upd H b (.lst [.int a,.int q,.int (c+1)])) b [.int a,.int q,.int (c+1)]:=aB.of hb1
  refine ⟨_,rfl,b,_,_,_,rfl,rfl,i0,gS,_,rfl,b,_,_,_,rfl,rfl,i0,gS,_,_,rfl,rfl,.inl ⟨by lia,by lia⟩,_,_,rfl,rfl,?_⟩
  refine ⟨_,rfl,b,_,_,_,rfl,rfl,i0,gj,_,rfl,b,_,_,_,rfl,rfl,i0,gS,_,_,rfl,rfl,.inl ⟨by decide,by decide⟩,_,_,rfl,rfl,_,rfl,_,_,rfl,rfl,.inl ⟨by lia,by lia⟩,_,_,rfl,rfl,(by show (0:Int)<_; decide),?_⟩
  generalize Mn:(q+39373 * (c+1)) * (69621+(c+1) * (c+1)) % 2147483587=on
  have on0:0<=on:=by rw [← Mn]; exact vY _ (by decide)
  have on1:on<2147483587:=by rw [← Mn]; exact vX _ (by decide)
  refine ⟨_,rfl,_,rfl,_,_,rfl,rfl,(by show (0:Int)<_; decide),_,_,rfl,rfl,_,_,rfl,rfl,.inl ⟨by lia,by lia⟩,_,rfl,b,_,_,_,rfl,rfl,i0,gS,_,_,rfl,rfl,_,_,rfl,rfl,(by show (0:Int)<_; decide),?_⟩
  generalize htw:(on * (on % 30011+5)+(c+1)) % 2147483563=tw
  have tw0:0<=tw:=by rw [← htw]; exact vY _ (by decide)
  have tw1:tw<2147483563:=by rw [← htw]; exact vX _ (by decide)
  refine ⟨_,rfl,_,rfl,_,_,rfl,rfl,(by show (0:Int)<_; decide),_,_,rfl,rfl,_,_,rfl,rfl,.inl ⟨by lia,by lia⟩,_,_,rfl,rfl,(by show (0:Int)<_; decide),_,_,rfl,rfl,⟨by decide,by decide⟩,_,rfl,_,_,rfl,rfl,hn0,?_⟩
  exact k _ a (c+1) _ (vY _ hn0) (vX _ hn0) ⟨hb1,B.a0,Ml,hq1,by lia⟩ (by lia) (yh b _ _)
end
section
def tY (K:W.Frag):Sp:=λvs H Q _=>∃ (l:Addr) (ns:List Int) (k:Int),vs=[.ref l,.int k]/\aB K H l (ns.map V.int)/\0<=k/\k<1000000 /\
 ∀ (r:Addr) (a q:Int) (H':Hp),H r=none->az H H'->aG H' r a q 0->Q (.ref r) H'
theorem ug (b:Bool) : -(2 ^ 64)<(if b then 1 else 0:Int)/\(if b then 1 else 0:Int)<2 ^ 64:=by cases b <;> decide
theorem Pw {ns:List Int} {k:Int} (h0:0<=k) (h:k<(ns.length:Int)):∃ v:Int,fS (ns.map V.int) k=some (.int v):=by
 have hk:k.toNat<ns.length:=by lia
 have q:fS (ns.map V.int) ((k.toNat:Nat):Int)=some (.int ns[k.toNat]):=rN (by rw [aBK,af3 hk] <;> rfl)
 rw [show ((k.toNat:Nat):Int)=k by lia] at q
 exact ⟨_,q⟩
theorem VI (i:Int):0<=(if i<0 then -i else i):=by split <;> lia
theorem Oa (i:Int) (b:Bool):0<=(if i<0 then -i else i) * (if b then 1 else 0:Int):=Int.mul_nonneg (VI i) (by cases b <;> decide)
theorem VH (F:aY K "_law_box" "_law_box" p8 f fd) (T:Txt K mg):av P w K mg base aV 1 f fd qT (tY K):=by
 refine F.ok pY (λvs H Q E h=>?_) (λcdv A outer s H vs Q E hr h=>?_)
 .obtain ⟨l,ns,k,rfl,_⟩:=h
  rfl
 obtain ⟨l,ns,k,rfl,hS,hk0,hk1,kk⟩:=h
 have nd:=pY.nd
 refine ⟨_,(Zf (cI 2 nd (wK (Zy jY (pv 1) (Zn (Zx (K:=K) rfl) rfl T.nJ aoN (pc (pv 0) Zb)) (Zz _)) (ao (Zr (K:=K) rfl) (pv 0) (pv 1) (λ_ _=>rfl)) Zj))
   (Zi (Zu (j8 (pc (ak o9 (Zn Ph rfl T.CV O8 (pc (pv 2) Zb)) (tF JS rfl T.xP Eb (pc (oK zH (Zn Ph rfl T.CV O8 (pc (pv 2) Zb)) (ak Ie Zj Zj) (Zz _)) Zb))) (pc (ak o8 (ak o9 (ak ZJ (ak ZJ (ak o8 (pv 2) Zj) (ak o9 Zj (pv 1))) Zj) Zj) Zj) (pc Zj Zb))))))),?_⟩
 refine ⟨_,rfl,_,rfl,l,_,rfl,.inl hS,_,_,rfl,rfl,_,rfl,?_⟩
 refine pq (λc=>?_) (λc=>?_)
 .rw [aK1] at c
  obtain ⟨v,hv⟩:=Pw hk0 c
  refine ⟨_,rfl,_,rfl,l,_,_,_,rfl,rfl,hS,hv,?_⟩
  refine ⟨_,rfl,_,rfl,_,rfl,_,rfl,_,_,rfl,rfl,⟨by decide,by decide,by decide⟩,_,_,rfl,rfl,.inr ⟨_,rfl,_,_,rfl,rfl,.inr (ug _),?_⟩⟩
  refine ⟨_,rfl,_,_,rfl,rfl,(by show (0:Int)<_; decide),_,rfl,_,_,rfl,rfl,.inl ⟨by decide,by decide⟩,_,_,rfl,rfl,_,_,rfl,rfl,_,_,rfl,rfl,.inr ⟨by decide,by decide⟩,_,_,rfl,rfl,(by show (0:Int)<_; decide),(sl 3),λr hr=>?_⟩
  exact kk r _ _ _ hr (Zd hr _) ⟨Za,Oa _ _,vY _ (by decide),vX _ (by decide),asI _⟩
 .refine ⟨_,rfl,_,rfl,_,rfl,_,rfl,_,_,rfl,rfl,⟨by decide,by decide,by decide⟩,_,_,rfl,rfl,.inr ⟨_,rfl,_,_,rfl,rfl,.inr (ug _),?_⟩⟩
  refine ⟨_,rfl,_,_,rfl,rfl,(by show (0:Int)<_; decide),_,rfl,_,_,rfl,rfl,.inl ⟨by decide,by decide⟩,_,_,rfl,rfl,_,_,rfl,rfl,_,_,rfl,rfl,.inr ⟨by decide,by decide⟩,_,_,rfl,rfl,(by show (0:Int)<_; decide),(sl 3),λr hr=>?_⟩
  exact kk r _ _ _ hr (Zd hr _) ⟨Za,Oa _ _,vY _ (by decide),vX _ (by decide),asI _⟩
def Pu (K:W.Frag):Sp:=λvs H Q _=>∃ (a:Addr) (ns:List Int) (n:Nat),vs=[.ref a,.int (n:Int)]/\aB K H a (ns.map V.int)/\ns.length<=63/\0<n/\n<=63 /\
 ∀ (r:Addr) (ms:List Int) (H':Hp),H r=none->az H H'->H' r=some (.lst (ms.map V.int))->ms.length=min n ns.length->Q (.ref r) H'
theorem N9 (ns:List Int) (lo hi:Option Int):dP (ns.map V.int) lo hi=((ns.drop (HT.bB ns.length 0 lo)).take (HT.bB ns.length ns.length hi - HT.bB ns.length 0 lo)).map V.int:=by
 unfold dP
 rw [aK1,← List.map_drop,← List.map_take]
theorem D5 (ms:List Int) (j:Nat) (v:Int):(ms.map V.int).set j (.int v)=(ms.set j v).map V.int:=by rw [map_set]
theorem HR {n:Nat} {i:Int} (h0:0<=i) (h:i<n):pM n i=some i.toNat:=by unfold pM; rw [abw h0,abw h]
theorem VG {ms:List Int} {i:Nat} {x:V} (h:(ms.map V.int)[i]?=some x):∃ z,x=V.int z/\i<ms.length:=by
 rw [aBK] at h
 cases e:ms[i]? with
 | none=>rw [e] at h; cases h
 | some z=>rw [e] at h; exact ⟨z,(avM h).symm,(a2U.mp e).1⟩
theorem Yu (F:aY K "_law_folded" "_law_folded" Ji f fd) (T:Txt K mg):av P w K mg base aV 1 f fd Jg (Pu K):=by
 refine F.ok jT (λvs H Q E h=>?_) (λcdv A outer s H vs Q E hr h=>?_)
 .obtain ⟨a,ns,n,rfl,_⟩:=h
  rfl
 obtain ⟨a,ns,n,rfl,hS,h63,hn0,hn1,k⟩:=h
 have nd:=jT.nd
 refine ⟨_,(Zf (cI 2 nd (tF (Et (K:=K) rfl) rfl T.pT ZZ (pc (wI (D9 (K:=K) rfl) (pv 0) yt (uP (pv 1))) Zb)))
   (Zf (rJ aan rfl (Ot rfl T.Cm (pc (wI (D9 (K:=K) rfl) (pv 0) (uP (pv 1)) (uP Zj)) Zb)) (mJ (K:=K) (n:=2) rfl rfl (Zt (bZ 3 nd) (Zt (bZ 4 nd) mK))) (Zi (mH (ak ZJ (ao (Zr (K:=K) rfl) (pv 2) (ak o8 (pv 3) (pv 1)) (λ_ _=>rfl)) (ak o9 (pv 4) (ak ZJ (pv 3) Zj))) (wA (pv 2) (ak o8 (pv 3) (pv 1)) wH))))
   (Zi (Zu (pv 2))))),?_⟩
 refine ⟨_,rfl,_,rfl,_,rfl,a,_,rfl,hS,λp hp=>?_⟩
 have s1:=Zd hp (.lst (dP (ns.map V.int) none (some (n:Int))))
 refine ⟨p,_,rfl,.inl (aB.of Za),λr hr1=>?_⟩
 have s2:=s1.trans (Zd hr1 (.lst (dP (ns.map V.int) none (some (n:Int)))))
 have Mj:H r=none:=s1.free hr1
 rw [N9] at *
 generalize hms:(ns.drop (HT.bB ns.length 0 none)).take (HT.bB ns.length ns.length (some (n:Int)) - HT.bB ns.length 0 none)=ms at *
 have Ua:ms.length=min n ns.length:=by
  rw [← hms,HT.jk,HT.kq,aIq,abS]; lia
 generalize US:upd (upd H p (.lst (ms.map V.int))) r (.lst (ms.map V.int))=H2 at *
 have MC:H2 r=some (.lst (ms.map V.int)):=by rw [← US]; exact Za
 refine ⟨_,rfl,_,rfl,_,rfl,_,rfl,a,_,rfl,s2.seq hS,λt ht=>?_⟩
 rw [N9]
 generalize hws:(ns.drop (HT.bB ns.length 0 (some (n:Int)))).take (HT.bB ns.length ns.length (some 63) - HT.bB ns.length 0 (some (n:Int)))=ws
 have kL:0<ws.length->n<ns.length:=λh=>by
  rw [← hws,aIq,abS,HT.kq] at h; lia
 have T5:ws.length<=63:=by rw [← hws,aIq,abS]; lia
 have s3:=s2.trans (Zd ht (.lst (ws.map V.int)))
 have LO:r≠t:=Ze MC ht
 refine ⟨t,rfl,⟨_,aB.of Za⟩,O7 (K:=K) (a:=t) (xs:=ws.map V.int) (λi σ H'=>∃ (ms':List Int) (v3 v4:Option V),σ=[some (.ref a),some (.int n),some (.ref r),v3,v4]/\ms'.length=min n ns.length/\H' r=some (.lst (ms'.map V.int))/\H' t=some (.lst (ws.map V.int))/\az H H')
  ⟨ms,none,none,rfl,Ua,by rw [Zc LO]; exact MC,Za,s3⟩ (λi σ H' _ ⟨_,_,_,_,_,_,q,_⟩=>aB.of q) ?_ ?_⟩
 .rintro i x u σ H' hi ⟨ms',v3,v4,rfl,lm,h1,h2,s4⟩ hu
  obtain ⟨z,rfl,hlt⟩:=VG hi
  have hnl:=kL (by lia)
  have s5:=Zd hu (.tup [.int (i:Int),.int z])
  refine ⟨u,_,rfl,aK.of Za,rfl,_,_,rfl,_,_,rfl,rfl,?_⟩
  have m0:0<=(i:Int) % (n:Int):=vY _ (by lia)
  have m1:(i:Int) % (n:Int)<(n:Int):=vX _ (by lia)
  obtain ⟨v,hv⟩:=Pw (ns:=ms') m0 (by lia)
  refine ⟨_,rfl,_,rfl,_,rfl,_,_,rfl,rfl,(by show (0:Int)<_; lia),r,_,_,_,rfl,rfl,aB.of (s5 _ _ h1),hv,?_⟩
  refine ⟨_,rfl,_,rfl,_,_,rfl,rfl,_,_,rfl,rfl,.inr ⟨by lia,by lia⟩,_,_,rfl,rfl,?_⟩
  refine ⟨_,rfl,_,rfl,_,rfl,_,_,rfl,rfl,(by show (0:Int)<_; lia),r,_,_,((i:Int) % (n:Int)).toNat,rfl,rfl,s5 _ _ h1,HR m0 (by rw [aK1]; lia),?_⟩
  refine ⟨ms'.set ((i:Int) % (n:Int)).toNat (v+z * ((i:Int)+2)),_,_,rfl,by rw [akC]; exact lm,by rw [Za,D5],?_,?_⟩
  .rw [Zc (a4v LO)]; exact s5 _ _ h2
  .intro b o e
   rw [Zc (Ze e Mj)]
   exact s5 _ _ (s4 _ _ e)
 .rintro σ H' ⟨ms',v3,v4,rfl,lm,h1,h2,s4⟩
  exact ⟨_,rfl,k r ms' H' Mj s4 h1 lm⟩
end
theorem hide {t u:TS} {D:Ends} {σ:St} {H:Hp} (h:∀ u',u'=u->pV t u' D σ H):pV t u D σ H:=h u rfl
theorem C8 {te:TE} {g:TG} {u:TS} {D:Ends} {σ:St} {H:Hp} (Post:V->Hp->Prop) (h1:∀ Q':VK,(∀ v H1,Post v H1->Q' v H1)->te σ H Q') (h2:∀ v H1,Post v H1->g v σ H1 (u D)):pV (oV te g) u D σ H:=h1 _ h2
theorem x9 {ts u:TS} {D:Ends} {σ:St} {H:Hp} (Post:St->Hp->Prop) (h1:∀ D':Ends,D'.rt=D.rt->(∀ σ1 H1,Post σ1 H1->D'.nx σ1 H1)->ts D' σ H) (h2:∀ σ1 H1,Post σ1 H1->u D σ1 H1):pV ts u D σ H:=h1 _ rfl h2
theorem AK {tt:TT} {ta tb:TS} {D:Ends} {σ:St} {H:Hp} (Post:Bool->Hp->Prop) (h1:∀ Q':Bool->Hp->Prop,(∀ v H1,Post v H1->Q' v H1)->tt σ H Q') (h2:∀ c H1,Post c H1->if c=true then ta D σ H1 else tb D σ H1):yN tt ta tb D σ H:=h1 _ h2
theorem HH {t u:TT} {σ:St} {H:Hp} {Q:Bool->Hp->Prop} (Post:Bool->Hp->Prop) (h1:∀ Q':Bool->Hp->Prop,(∀ v H1,Post v H1->Q' v H1)->t σ H Q') (h2:∀ c H1,Post c H1->if c=true then Q true H1 else u σ H1 Q):LI t u σ H Q:=h1 _ h2
theorem Pr {b l:Addr} {H G:Hp} {xs:List V} (s:SB b H G) (hb:G b=some (.lst xs)) (hl:G l=none):H l=none:=by
 cases e:H l with
 | none=>rfl
 | some o =>
  by_cases h:l=b
  .rw [h,hb] at hl; cases hl
  .rw [s _ _ h e] at hl; cases hl
theorem VF {ns:List Int} {k:Int} (h0:0<=k) (h:k<(ns.length:Int)):∃ v:Int,fS (ns.map V.int) k=some (.int v)/\v∈ns:=by
 have hk:k.toNat<ns.length:=by lia
 have q:fS (ns.map V.int) ((k.toNat:Nat):Int)=some (.int ns[k.toNat]):=rN (by rw [aBK,af3 hk] <;> rfl)
 rw [show ((k.toNat:Nat):Int)=k by lia] at q
 exact ⟨_,q,aPI hk⟩
theorem Qm (ns:List Int):(ns.map V.int).all cA=true:=by
 rw [aXt]
 intro x hx
 obtain ⟨n,_,rfl⟩:=au8.mp hx
 rfl
theorem Yk {n:Nat} (h:0<n):pM n (-1)=some (n - 1):=by
 unfold pM
 rw [aM3 (by decide),abw (by lia)]
 congr 1
 lia
theorem Ir {ns:List Int} {j:Nat} {v x:Int} (h:x∈ns.set j v):x∈ns\/x=v:=by
 rcases a2W h with h | h
 .exact .inl h
 .exact .inr h
theorem yp {i j:Int} {A B:Prop} (h1:i=j->A) (h2:¬ i=j->B):if decide (V.int i=V.int j)=true then A else B :=
 pq (λe=>h1 (by injection e)) (λe=>h2 λz=>e (by rw [z]))
theorem cF {b:Bool} {A B:Prop} (h:b=false) (hB:B):if b=true then A else B:=by subst h; rw [aM3 aBC]; exact hB
theorem fk {b:Bool} {A B:Prop} (h:b=true) (hA:A):if b=true then A else B:=by subst h; rw [abw rfl]; exact hA
theorem Jf {α:Type} {xs:List α} {i:Int} (h0:0<=i) (h1:i<(xs.length:Int)):∃ v,fS xs i=some v/\v∈xs:=by
 have hk:i.toNat<xs.length:=by lia
 have q:fS xs ((i.toNat:Nat):Int)=some xs[i.toNat]:=rN (af3 hk)
 rw [show ((i.toNat:Nat):Int)=i by lia] at q
 exact ⟨_,q,aPI hk⟩
theorem Nh (x y:Int) (k:Bool):∃ n:Int,fS [V.int x,V.int y] (if k=true then 1 else 0)=some (.int n)/\(n=x\/n=y):=by
 cases k with
 | true=>exact ⟨y,gj,.inr rfl⟩
 | false=>exact ⟨x,cK,.inl rfl⟩
theorem zB (x y r:Int) (h0:0<=r) (h1:r<2):∃ n:Int,fS [V.int x,V.int y] r=some (.int n)/\(n=x\/n=y):=by
 have h:r=0\/r=1:=by lia
 rcases h with rfl | rfl
 .exact ⟨x,cK,.inl rfl⟩
 .exact ⟨y,gj,.inr rfl⟩
theorem VE (r:Int) (h0:0<=r) (h1:r<4):∃ n:Int,fS [V.int 1,V.int 1,V.int 12,V.int 24] r=some (.int n)/\(n=1\/n=12\/n=24):=by
 obtain ⟨x,hx,m⟩:=Jf (xs:=[V.int 1,V.int 1,V.int 12,V.int 24]) h0 (by show r<((4:Nat):Int); lia)
 simp only [aNZ,aQ7,aS0] at m
 rcases m with rfl | rfl | rfl | rfl
 .exact ⟨_,hx,.inl rfl⟩
 .exact ⟨_,hx,.inl rfl⟩
 .exact ⟨_,hx,.inr (.inl rfl)⟩
 .exact ⟨_,hx,.inr (.inr rfl)⟩
theorem zA (r:Int) (h0:0<=r) (h1:r<5):∃ v,fS [V.int 1,V.int 1,V.int 2,V.int 3,V.int 4] r=some (.int v)/\1<=v/\v<=64:=by
 obtain ⟨x,hx,m⟩:=Jf (xs:=[V.int 1,V.int 1,V.int 2,V.int 3,V.int 4]) h0 (by show r<((5:Nat):Int); lia)
 simp only [aNZ,aQ7,aS0] at m
 rcases m with rfl | rfl | rfl | rfl | rfl <;> exact ⟨_,hx,by decide,by decide⟩
def tH (z:Str):Prop:=z = "old" \/ z = "come" \/ z = "few"
theorem zy (r:Int) (h0:0<=r) (h1:r<3):∃ z:Str,fS [V.str "old",V.str "come",V.str "few"] r=some (.str z)/\tH z:=by
 obtain ⟨x,hx,m⟩:=Jf (xs:=[V.str "old",V.str "come",V.str "few"]) h0 (by show r<((3:Nat):Int); lia)
 simp only [aNZ,aQ7,aS0] at m
 rcases m with rfl | rfl | rfl
 .exact ⟨_,hx,.inl rfl⟩
 .exact ⟨_,hx,.inr (.inl rfl)⟩
 .exact ⟨_,hx,.inr (.inr rfl)⟩
theorem Yt {s:Int} (h0:1<=s) (h1:s<=16):555<=9999 / s/\9999 / s<=9999/\1<=(if 10000 / s - 480 > 1 then 10000 / s - 480 else 1)/\(if 10000 / s - 480 > 1 then 10000 / s - 480 else 1)+455<=9999 / s:=by
 have key:∀ n:Fin 17,1<=(n.val:Int)->(555<=9999 / (n.val:Int)/\9999 / (n.val:Int)<=9999/\1<=(if 10000 / (n.val:Int) - 480 > 1 then 10000 / (n.val:Int) - 480 else 1)/\(if 10000 / (n.val:Int) - 480 > 1 then 10000 / (n.val:Int) - 480 else 1)+455<=9999 / (n.val:Int)):=by decide +kernel
 have e:((⟨s.toNat,by lia⟩:Fin 17).val:Int)=s:=by show ((s.toNat:Nat):Int)=s; lia
 have q:=key ⟨s.toNat,by lia⟩ (by rw [e]; exact h0)
 rw [e] at q
 exact q
def EJ (t:Int) (ns:List Int):Prop:=∀ n∈ns,0<=n/\n<=t
def Lw (t:Int) (ns:List Int):Prop:=∃ x∈ns,x+1<=t
theorem Ng {ns:List Int} {k:Int} (h0:0<=k) (h:k<(ns.length:Int)):∃ v:Int,fS (ns.map V.int) k=some (.int v)/\ns[k.toNat]?=some v:=by
 have hk:k.toNat<ns.length:=by lia
 have q:fS (ns.map V.int) ((k.toNat:Nat):Int)=some (.int ns[k.toNat]):=rN (by rw [aBK,af3 hk] <;> rfl)
 rw [show ((k.toNat:Nat):Int)=k by lia] at q
 exact ⟨_,q,af3 hk⟩
theorem Yj {ns:List Int} {i j:Nat} {x1 x2 x:Int} (h1:ns[j]?=some x1) (h2:ns[i]?=some x2) (h:x∈ns):x∈(ns.set i x1).set j x2:=by
 obtain ⟨p,hp⟩:=asq h
 have li:=(a2U.mp h2).1
 have lj:=(a2U.mp h1).1
 by_cases e:p=i
 .subst e
  rw [h2] at hp; cases hp
  exact aBD (abG (i:=j) (by rw [akC]; exact lj))
 .by_cases e':p=j
  .subst e'
   rw [h1] at hp; cases hp
   refine aBD (i:=i) ?_
   rw [a9q e,abG li]
  .refine aBD (i:=p) ?_
   rw [a9q (λz=>e' z.symm),a9q (λz=>e z.symm)]
   exact hp
section
def Pq:Sp:=λvs H Q _=>∃ (b:Addr) (a q c s:Int),vs=[.ref b,.int s]/\aG H b a q c/\c<500000000/\1<=s/\s<=16 /\
 ∀ (l:Addr) (ns:List Int) (a' c':Int) (H':Hp),H l=none->H' l=some (.lst (ns.map V.int))->3<=ns.length->ns.length<=20->EJ (9999 / s) ns->Lw (9999 / s) ns->aG H' b a' q c'->c'<=c+40->SB b H H'->Q (.ref l) H'
theorem ZfD (F:aY K "_law_some_boards" "_law_some_boards" Eo f fd) (T:Txt K mg) (d7:Def P w K mg base "_law_take" 1 uL wk):av P w K mg base aV 2 f fd Ke Pq:=by
 refine F.ok fE (λvs H Q E h=>?_) (λcdv A outer st H vs Q E hr h=>?_)
 .obtain ⟨b,a,q,c,s,rfl,_⟩:=h
  rfl
 obtain ⟨b,a,q,c,s,rfl,B,hc,hs0,hs1,k⟩:=h
 have nd:=fE.nd
 obtain ⟨Sk,Sj,m0,m1⟩:=Yt hs0 hs1
 refine ⟨_,(Zf (cI 2 nd (ak ZJ Zj (Zm d7 hr.m rfl (pc (pv 0) (pc (ao (Zr (K:=K) rfl) (j8 (pc Zj (pc Zj Zb))) (tF JS rfl T.xP Eb (pc (oK aU (Zm d7 hr.m rfl (pc (pv 0) (pc Zj Zb))) Zj (Zz _)) Zb)) (λ_ _=>rfl)) Zb)))))
   (Zf (mH (jI (pc (Zm d7 hr.m rfl (pc (pv 0) (pc Zj Zb))) (pc (Zm d7 hr.m rfl (pc (pv 0) (pc Zj Zb))) Zb))) (mJ (K:=K) (n:=2) rfl rfl (Zt (bZ 3 nd) (Zt (bZ 4 nd) mK))))
   (Zf (cI 5 nd (wK (Zy jY (pv 4) Zj (Zz _)) (pv 4) (Zm d7 hr.m rfl (pc (pv 0) (pc (ao (Zr (K:=K) rfl) (j8 (pc Zj (pc (Zn (Qa rfl) rfl T.CS O9 (pc Zj (pc (ak sR (ak uQ Zj (pv 1)) Zj) Zb))) Zb))) (ak sR (pv 4) Zj) (λ_ _=>rfl)) Zb)))))
   (Zf (Pe 6 (ZL (iZ:=(Zh Eo)) (oN:=dg) (N:=["_law_k", "_law_first", "_law_way"]) (own:=1) (js:=[5,3]) (by decide +kernel) rfl rfl) rfl nd rfl rfl (tE rfl T.lE (pc (pv 2) Zb)) (λ_ _ _ _ _ _=>(bZ 0 (show List.Nodup (["_law_k", "_law_first", "_law_way"]:List Str) by decide +kernel))) (λ_ _ _ _ _ _=>(ak ZJ (pv 1) (ak o9 (ao (Zr (K:=K) rfl) (j8 (pc Zj (pc Zj (pc Zj (pc Zj Zb))))) (pv 2) (λ_ _=>rfl)) (pv 0)))))
   (Zf (cI 7 nd (wK (Zy aU (Zm d7 hr.m rfl (pc (pv 0) (pc Zj Zb))) Zj (Zz _)) (ak uQ Zj (pv 1)) (Zm d7 hr.m rfl (pc (pv 0) (pc (ak ZJ Zj (ak uQ Zj (pv 1))) Zb)))))
   (Zf (aI (PW.pt (pw_or (PW.pt (Ip (Zy aU (pv 3) Zj (Zz _)) (IG (Zy (Kr (K:=K) rfl) (pv 7) (pv 6) rfl)))) (DA (PW.pt (Ip (Zy aU (pv 7) (ak uQ Zj (pv 1)) (Zz _)) (IG (Zy (Kr (K:=K) rfl) (pv 7) (pv 6) rfl))))))) (Zi (mH (pv 7) (wA (pv 6) (jW yi Zj) wH))) Zv)
   (Zf (rJ aan rfl (tE rfl T.lE (pc (ak sR (pv 2) Zj) Zb)) (bZ 8 nd) (Zf (cI 9 nd (ak ZJ (pv 8) (Zm d7 hr.m rfl (pc (pv 0) (pc (ak sR (pv 2) (pv 8)) Zb)))))
   (Zi (mH (jI (pc (ao (Zr (K:=K) rfl) (pv 6) (pv 9) (λ_ _=>rfl)) (pc (ao (Zr (K:=K) rfl) (pv 6) (pv 8) (λ_ _=>rfl)) Zb))) (mJ (K:=K) (n:=2) rfl rfl (Zt (wA (pv 6) (pv 8) wH) (Zt (wA (pv 6) (pv 9) wH) mK)))))))
   (Zi (Zu (pv 6)))))))))),?_⟩
 generalize hm:(if 10000 / s - 480 > 1 then 10000 / s - 480 else 1)=m at m0 m1
 generalize ht:(9999:Int) / s=top at *
 refine hide λuu ee=>?_
 refine ⟨_,rfl,(sl 2),λp1 hp1=>⟨_,rfl,b,a,q,c,6,rfl,B.same (Zd hp1 _),by lia,by decide,by decide,λr1 a1 c1 H1 u9 zw B1 hc1 s1=>⟨rfl,.inr ⟨_,rfl,?_⟩⟩⟩⟩
 have q1:b≠p1:=Ze B.at' hp1
 obtain ⟨n,hn,hn'⟩:=Nh 5 18 (decide (V.int r1=V.int 0))
 refine ⟨p1,_,_,_,rfl,rfl,aB.of (s1 _ _ (a4v q1) Za),hn,b,a1,q,c1,n,rfl,B1,by lia,by lia,by lia,λr2 a2 c2 H2 rA qc B2 hc2 s2=>⟨_,_,rfl,rfl,?_⟩⟩
 have mn0:3<=3+r2:=by lia
 have mn1:3+r2<=20:=by lia
 have u2:SB b H H2:=(((Zd hp1 _).sb b).trans s1).trans s2
 dsimp only [fQ]
 subst ee
 try dsimp only
 refine hide λuu ee=>?_
 refine ⟨_,rfl,b,a2,q,c2,4,rfl,B2,by lia,by decide,by decide,λr3 a3 c3 H3 uZ ua B3 hc3 s3=>?_⟩
 refine ⟨_,rfl,b,a3,q,c3,4,rfl,B3,by lia,by decide,by decide,λr4 a4 c4 QV zv Cz B4' hc4 s4=>⟨(sl 2),λp4 Mm=>⟨p4,_,rfl,aK.of Za,rfl,_,_,rfl,_,_,rfl,rfl,?_⟩⟩⟩
 have B4:=B4'.same (Zd Mm (.tup [.int r3,.int r4]))
 have u4:SB b H (upd QV p4 (.tup [.int r3,.int r4])):=((u2.trans s3).trans s4).trans ((Zd Mm _).sb b)
 generalize upd QV p4 (.tup [.int r3,.int r4])=H4 at *
 subst ee
 try dsimp only
 refine C8 (λv G=>∃ z a' c',v=.int z/\0<=z/\z+456<=top/\aG G b a' q c'/\c'<=c4+1/\SB b H G) (λQ' k'=>?_) ?_
 .refine ⟨_,rfl,_,_,rfl,rfl,_,rfl,pq (λVp=>⟨_,rfl,k' _ _ ⟨_,a4,c4,rfl,zv,by lia,B4,by lia,u4⟩⟩) (λVp=>?_)⟩
  refine ⟨_,rfl,_,rfl,_,_,rfl,rfl,⟨by lia,by lia⟩,_,_,rfl,rfl,_,_,rfl,(sl 2),λp2 hp2=>?_⟩
  have q2:b≠p2:=Ze B4.at' hp2
  rw [hm]
  obtain ⟨n2,hn2,Ux⟩:=zB 100 m (r4 - 2) (by lia) (by lia)
  refine ⟨_,rfl,_,_,rfl,rfl,p2,_,_,_,rfl,rfl,aB.of Za,hn2,b,a4,q,c4,n2,rfl,B4.same (Zd hp2 _),by lia,by lia,by lia,λr5 a5 c5 H5 FQ LL B5 hc5 s5=>?_⟩
  exact k' _ _ ⟨r5,a5,c5,rfl,FQ,by lia,B5,by lia,u4.trans (((Zd hp2 _).sb b).trans s5)⟩
 rintro _ H5 ⟨z,a5,c5,rfl,z0,z1,B5,hc5,u5⟩
 dsimp only [fQ]
 refine hide λuu ee=>?_
 refine ⟨_,rfl,_,rfl,by lia,by lia,λl hl=>?_⟩
 have vN:H l=none:=Pr u5 B5.at' hl
 have lH:l≠b:=a4v (Ze B5.at' hl)
 have hmn:(3+r2).toNat<=20:=by lia
 refine wL (lo:=0) (n:=(3+r2).toNat) (l:=l) (λj ys σ G=>∃ (v0:Option V) (ns:List Int),σ=[v0,some (.int z),some (.int r3)]/\ys=ns.map V.int/\ns.length=j/\(EJ top ns/\(0<j->ns[0]?=some z))/\G l=some (.lst ys)/\az H5 G)
  ⟨none,[],rfl,rfl,rfl,⟨λn hn=>(nomatch hn),λz=>absurd z (asH 0)⟩,Za,Zd hl _⟩ ?_ ?_
 .rintro j ys σ G hj hy ⟨v0,ns,rfl,rfl,hj',⟨hb',hz'⟩,h1,h2⟩
  refine ⟨_,rfl,(sl 4),λp hp=>?_⟩
  obtain ⟨n4,Uw,GY⟩:=VE r3 uZ ua
  have np:l≠p:=Ze h1 hp
  have Um:(j:Int)<=19:=by lia
  refine ⟨_,rfl,p,_,_,_,rfl,rfl,aB.of Za,Uw,_,rfl,_,_,rfl,rfl,.inl ⟨by lia,by lia⟩,_,_,rfl,rfl,jR.of (a28 hmn (by decide)) hj hy (by rw [Zc np]; exact h1) ⟨_,ns++[z+n4 * (0+(j:Int))],rfl,by rw [aIV]; rfl,by rw [aCv,hj']; rfl,⟨λx hx=>?_,λ_=>?_⟩,Za,λe o y=>?_⟩⟩
  .rcases a1m.mp hx with h | h
   .exact hb' x h
   .have ex:x=z+n4 * (0+(j:Int)):=by simpa using h
    subst ex
    rcases GY with rfl | rfl | rfl
    .exact ⟨by lia,by lia⟩
    .exact ⟨by lia,by lia⟩
    .exact ⟨by lia,by lia⟩
  .by_cases j0:j=0
   .have:ns=[]:=bbz (by lia)
    rw [this,j0]
    show some (z+n4 * (0+((0:Nat):Int)))=some z
    rw [show (0:Int)+((0:Nat):Int)=0 by lia,Int.mul_zero,Int.add_zero]
   .rw [aY3 (by lia)]
    exact hz' (by lia)
  .rw [Zc (Ze y hl)]
   exact Zd hp _ _ _ (h2 _ _ y)
 rintro ys σ G hy ⟨v0,ns,rfl,rfl,hj',⟨hb',hz'⟩,h1,h2⟩
 have B6:=B5.same h2
 have u6:SB b H G:=u5.trans (h2.sb b)
 have kM:3<=ns.length:=by lia
 have T9:ns.length<=20:=by lia
 have hz0:ns[0]?=some z:=hz' (by lia)
 dsimp only [fQ]
 subst ee
 try dsimp only
 refine C8 (λv G'=>∃ z a' c',v=.int z/\0<=z/\z<=top/\aG G' b a' q c'/\c'<=c5+2/\SB b G G') (λQ' k'=>?_) ?_
 .refine ⟨_,rfl,b,a5,q,c5,5,rfl,B6,by lia,by decide,by decide,λr7 a7 c7 H7 r70 r71 B7 UK s7=>⟨rfl,_,rfl,pq (λ_=>?_) (λ_=>?_)⟩⟩
  .refine ⟨_,rfl,_,_,rfl,rfl,⟨by lia,by lia⟩,?_⟩
   exact k' _ _ ⟨_,a7,c7,rfl,by rw [ht]; lia,by rw [ht]; lia,B7,by lia,s7⟩
  .refine ⟨_,rfl,_,rfl,_,_,rfl,rfl,⟨by lia,by lia⟩,_,_,rfl,rfl,b,a7,q,c7,_,rfl,B7,by lia,by rw [ht]; lia,by rw [ht]; lia,λr8 a8 c8 H8 SO SN B8 hc8 s8=>?_⟩
   exact k' _ _ ⟨_,a8,c8,rfl,SO,by rw [ht] at SN; lia,B8,by lia,s7.trans s8⟩
 rintro _ H7 ⟨fr,a7,c7,rfl,UY,vW,B7,UK,s7⟩
 have h7:=s7 _ _ lH h1
 have u7:SB b H H7:=u6.trans s7
 refine x9 (λσ G'=>∃ ns':List Int,σ=[some (.ref b),some (.int s),some (.int (3+r2)),some (.int r3),some (.int r4),some (.int z),some (.ref l),some (.int fr),none,none]/\G' l=some (.lst (ns'.map V.int))/\ns'.length=ns.length/\(EJ top ns'/\Lw top ns')/\aG G' b a7 q c7/\SB b H G') (λD' _ k'=>?_) ?_
 .refine AK (λ_ G'=>G'=H7) (λQ' k''=>?_) ?_
  .refine HH (λ_ G'=>G'=H7) (λQ'' k3=>?_) ?_
   .exact ⟨_,rfl,rfl,_,rfl,pq (λ_=>⟨_,rfl,_,rfl,l,_,rfl,.inl (aB.of h7),rfl,Qm _,_,rfl,k3 _ _ rfl⟩) (λ_=>k3 _ _ rfl)⟩
   .rintro cb _ rfl
    cases cb with
    | true=>exact fk rfl (k'' _ _ rfl)
    | false=>exact cF rfl ⟨_,rfl,_,rfl,_,_,rfl,rfl,⟨by lia,by lia⟩,rfl,_,rfl,pq (λ_=>⟨_,rfl,_,rfl,l,_,rfl,.inl (aB.of h7),rfl,Qm _,_,rfl,k'' _ _ rfl⟩) (λ_=>k'' _ _ rfl)⟩
  .rintro cb _ rfl
   cases cb with
   | false=>exact cF rfl (k' _ _ ⟨ns,rfl,h7,rfl,⟨hb',z,aBD hz0,by lia⟩,B7,u7⟩)
   | true =>
    refine fk rfl ⟨_,rfl,_,rfl,_,rfl,l,_,_,_,rfl,rfl,h7,Yk (by rw [aK1]; lia),k' _ _ ⟨ns.set (ns.length - 1) fr,rfl,?_,akC,⟨λx hx=>?_,z,?_,by lia⟩,B7.sb (yh l _ _) (a4v lH),λe o n' y=>?_⟩⟩
    .rw [Za,aK1,D5]
    .rcases Ir hx with h | h
     .exact hb' x h
     .subst h; exact ⟨UY,vW⟩
    .refine aBD (i:=0) ?_
     rw [a9q (by lia)]
     exact hz0
    .rw [Zc (Ze y vN)]; exact u7 _ _ n' y
 rintro _ H8 ⟨Tu,rfl,h8,l8,b8,B8,u8⟩
 refine ⟨_,rfl,_,_,rfl,rfl,_,rfl,by lia,by lia,Bt (lo:=0) (n:=(3+r2 - 1).toNat) (λj σ G'=>∃ (ns':List Int) (v8 v9:Option V) (a' c':Int),σ=[some (.ref b),some (.int s),some (.int (3+r2)),some (.int r3),some (.int r4),some (.int z),some (.ref l),some (.int fr),v8,v9]/\G' l=some (.lst (ns'.map V.int))/\ns'.length=ns.length/\(EJ top ns'/\Lw top ns')/\aG G' b a' q c'/\c'<=c7+(j:Int)/\SB b H G')
  ⟨Tu,_,_,a7,c7,rfl,h8,l8,b8,B8,by lia,u8⟩ ?_ ?_⟩
 .rintro j σ G' hj ⟨ns',v8,v9,a',c',rfl,rF,l',⟨b',lo'⟩,B',hc',u'⟩
  have Um:(j:Int)<=18:=by lia
  have jl:(j:Int)+1<3+r2:=by lia
  refine ⟨_,rfl,_,rfl,_,rfl,_,rfl,_,_,rfl,rfl,b,a',q,c',_,rfl,B',by lia,by lia,by lia,λr9 a9 c9 H9 r90 r91 B9 hc9 s9=>⟨_,_,rfl,rfl,?_⟩⟩
  have h9:=s9 _ _ lH rF
  obtain ⟨x1,Mf,ME⟩:=Ng (ns:=ns') (k:=0+(j:Int)+r9) (by lia) (by lia)
  have T3:=aBD ME
  obtain ⟨x2,GR,MD⟩:=Ng (ns:=ns') (k:=0+(j:Int)) (by lia) (by lia)
  have TZ:=aBD MD
  refine ⟨_,rfl,_,rfl,l,_,_,_,rfl,rfl,aB.of h9,Mf,_,rfl,_,rfl,l,_,_,_,rfl,rfl,aB.of h9,GR,(sl 2),λt ht'=>?_⟩
  have sA:l≠t:=Ze h9 ht'
  refine ⟨t,_,rfl,aK.of Za,rfl,_,_,rfl,_,rfl,_,rfl,l,_,_,_,rfl,rfl,(by rw [Zc sA]; exact h9),HR (by lia) (by rw [aK1]; lia),?_⟩
  refine ⟨_,_,rfl,_,rfl,_,rfl,l,_,_,_,rfl,rfl,Za,HR (by lia) (by rw [akC,aK1]; lia),rfl,?_⟩
  refine ⟨(ns'.set (0+(j:Int)).toNat x1).set (0+(j:Int)+r9).toNat x2,_,_,a9,c9,rfl,by rw [Za,D5,D5],by rw [akC,akC]; exact l',⟨λx hx=>?_,(by obtain ⟨x,m,q⟩:=lo'; exact ⟨x,Yj ME MD m,q⟩)⟩,?_,by lia,λe o n' y=>?_⟩
  .rcases Ir hx with h | h
   .rcases Ir h with h | h
    .exact b' x h
    .subst h; exact b' _ T3
   .subst h; exact b' _ TZ
  .exact ((B9.same (Zd ht' _)).sb (yh l _ _) (a4v lH)).sb (yh l _ _) (a4v lH)
  .have ne:e≠l:=Ze y vN
   rw [Zc ne,Zc ne]
   exact Zd ht' _ _ _ (s9 _ _ n' (u' _ _ n' y))
 .rintro σ G' ⟨ns',v8,v9,a',c',rfl,rF,l',⟨b',lo'⟩,B',hc',u'⟩
  exact ⟨_,rfl,k l ns' a' c' G' vN rF (by lia) (by lia) b' lo' B' (by lia) u'⟩
end
def Sc:V->Prop
 | .int _=>True
 | .bl _=>True
 | .aT=>True
 | .str _=>True
 | _=>False
def Eqv:Nat->Hp->V->V->Prop
 | 0,_,x,y=>x=y/\Sc x
 | n+1,H,x,y=>(x=y/\Sc x)\/∃ (a b:Addr) (xs ys:List V),x=.ref a/\y=.ref b/\((H a=some (.lst xs)/\H b=some (.lst ys))\/(H a=some (.tup xs)/\H b=some (.tup ys)))/\xs.length=ys.length/\xs.length<=1000/\∀ (i:Nat) (u v:V),xs[i]?=some u->ys[i]?=some v->Eqv n H u v
theorem Eqv.same:∀ {n:Nat} {H H':Hp} {x y:V},Eqv n H x y->az H H'->Eqv n H' x y
 | 0,_,_,_,_,h,_=>h
 | n+1,H,H',x,y,h,s=>by
  rcases h with h | ⟨a,b,xs,ys,h1,h2,h3,h5,h6,h7⟩
  .exact .inl h
  .refine .inr ⟨a,b,xs,ys,h1,h2,?_,h5,h6,λi u v e1 e2=>(h7 i u v e1 e2).same s⟩
   rcases h3 with ⟨h3,h4⟩ | ⟨h3,h4⟩
   .exact .inl ⟨s _ _ h3,s _ _ h4⟩
   .exact .inr ⟨s _ _ h3,s _ _ h4⟩
def DC (n:Nat):Sp:=λvs H Q _=>∃ x y,vs=[x,y]/\Eqv n H x y/\∀ H',az H H'->Q (.bl true) H'
theorem Eqv.sc {H:Hp} {x:V} (h:Sc x):∀ n,Eqv n H x x
 | 0=>⟨rfl,h⟩
 | _+1=>.inl ⟨rfl,h⟩
theorem Eqv.AB {H:Hp} {a b:Addr} {xs:List V} (ha:H a=some (.tup xs)) (hb:H b=some (.tup xs)) (hl:xs.length<=1000) (hs:∀ x∈xs,Sc x):Eqv 1 H (.ref a) (.ref b) :=
 .inr ⟨a,b,xs,xs,rfl,rfl,.inr ⟨ha,hb⟩,rfl,hl,λi u v e1 e2=>by rw [e1] at e2; cases e2; exact ⟨rfl,hs u (aBD e1)⟩⟩
theorem Cn {H:Hp} {a:Addr} {xs:List V} (h:H a=some (.tup xs)):rq H (.ref a)=some "tuple" := by simp only [rq,h]
theorem Co {H:Hp} {a:Addr} {xs:List V} (h:H a=some (.lst xs)):rq H (.ref a)=some "list" := by simp only [rq,h]
section
theorem N8 {n:Nat} {yX:Sp} (m9:∀ m,n=m+1->yX=DC m) (F:aY K "_law_same" "_law_same" uK f fd) (T:Txt K mg) (xT:Def P w K mg base "_law_same" n uJ yX):av P w K mg base aV (n+1) f fd uJ (DC n):=by
 refine F.ok nV (λvs H Q E h=>?_) (λcdv A outer st H vs Q E hr h=>?_)
 .obtain ⟨x,y,rfl,_⟩:=h
  rfl
 obtain ⟨x,y,rfl,h,k⟩:=h
 have nd:=nV.nd
 refine ⟨_,(Zf (aI (jJ (Zn P4 rfl T.pK rO (pc (pv 1) (pc (jI (pc (pR (v:=.ty "list") rfl T.pT ZZ rfl) (pc (pR (v:=.ty "tuple") rfl T.wZ Ej rfl) Zb))) Zb)))) (Zf (aI (PW.pt (pw_or (wB (jJ (Zn P4 rfl T.pK rO (pc (pv 0) (pc (jI (pc (pR (v:=.ty "list") rfl T.pT ZZ rfl) (pc (pR (v:=.ty "tuple") rfl T.wZ Ej rfl) Zb))) Zb))))) (DA (Zy ue (Zn uR rfl T.pK rO (pc (pv 0) (pc (pR (v:=.ty "list") rfl T.pT ZZ rfl) Zb))) (Zn uR rfl T.pK rO (pc (pv 1) (pc (pR (v:=.ty "list") rfl T.pT ZZ rfl) Zb))) (Zz _))))) (Zi (Zu dM)) Zv)
   (Zi (Zu (Dm (oK aU (Zn (Zx (K:=K) rfl) rfl T.nJ aoN (pc (pv 0) Zb)) (Zn (Zx (K:=K) rfl) rfl T.nJ aoN (pc (pv 1) Zb)) (Zz _)) (Dn (Zn (P1 rfl) rfl T.CU Pb (pc (uS (ZL (iZ:=(Zh uK)) (oN:=nB) (N:=["_law_one", "_law_other"]) (own:=2) (js:=[]) (by decide +kernel) rfl rfl) rfl (WI rfl T.CQ (pc (pv 0) (pc (pv 1) Zb))) (λ_ _ _ _ _ _=>(mJ (K:=K) (n:=2) rfl rfl (Zt (bZ 0 (show List.Nodup (["_law_one", "_law_other"]:List Str) by decide +kernel)) (Zt (bZ 1 (show List.Nodup (["_law_one", "_law_other"]:List Str) by decide +kernel)) mK)))) (λ_ _ _ _ _ _=>(Zm xT hr.m rfl (pc (pv 0) (pc (pv 1) Zb))))) Zb))))))) Zv)
   (Zf (aI (PW.pt (pw_or (DB (NV (pv 1))) (DA (jJ (Zn uR rfl T.pK rO (pc (pv 1) (pc (pR (v:=.ty "str") rfl T.Ab JL rfl) Zb))))))) (Zi (Zu (Dm (oK aU (pv 0) (pv 1) (Zz _)) (Dn (oK aU (Zn uR rfl T.pK rO (pc (pv 0) (pc (pR (v:=.ty "str") rfl T.Ab JL rfl) Zb))) (Zn uR rfl T.pK rO (pc (pv 1) (pc (pR (v:=.ty "str") rfl T.Ab JL rfl) Zb))) (Zz _)))))) Zv)
   (Zi (Zu (Dm (Zn uR rfl T.pK rO (pc (pv 0) (pc (pR (v:=.ty "int") rfl T.xP Eb rfl) Zb))) (Dm (oK aU (Zn uR rfl T.pK rO (pc (pv 0) (pc (pR (v:=.ty "bool") rfl T.CO Qw rfl) Zb))) (Zn uR rfl T.pK rO (pc (pv 1) (pc (pR (v:=.ty "bool") rfl T.CO Qw rfl) Zb))) (Zz _)) (Dn (oK aU (pv 0) (pv 1) (Zz _))))))))),?_⟩
 have split:(x=y/\Sc x)\/∃ (m:Nat) (a b:Addr) (xs ys:List V),n=m+1/\x=.ref a/\y=.ref b/\((H a=some (.lst xs)/\H b=some (.lst ys))\/(H a=some (.tup xs)/\H b=some (.tup ys)))/\xs.length=ys.length/\xs.length<=1000/\∀ (i:Nat) (u v:V),xs[i]?=some u->ys[i]?=some v->Eqv m H u v:=by
  cases n with
  | zero=>exact .inl h
  | succ m =>
   rcases h with h | ⟨a,b,xs,ys,h1,h2,h3,h5,h6,h7⟩
   .exact .inl h
   .exact .inr ⟨m,a,b,xs,ys,rfl,h1,h2,h3,h5,h6,h7⟩
 rcases split with ⟨rfl,hs⟩ | ⟨m,a,b,xs,ys,rfl,rfl,rfl,⟨ha,hb⟩ | ⟨ha,hb⟩,hl,hlen,hi⟩
 .have key:∀ p,H p=none->∀ o,az H (upd H p o):=λp hp o=>Zd hp o
  cases x with
  | int j =>
   refine ⟨_,rfl,(sl 2),λp hp=>⟨_,_,_,_,p,rfl,Za,rfl,by decide,by decide,_,rfl,cF (by decide) ?_⟩⟩
   refine ⟨_,rfl,_,rfl,cF (by simp) ⟨_,rfl,_,_,_,rfl,rfl,by decide,_,rfl,cF (by decide) ?_⟩⟩
   refine ⟨_,rfl,_,_,_,rfl,rfl,by decide,_,rfl,fk (by decide) ⟨_,rfl,_,_,_,rfl,rfl,by decide,_,rfl,_,_,_,rfl,rfl,by decide,rfl,_,rfl,fk (by decide) ⟨_,rfl,_,rfl,rfl,?_⟩⟩⟩
   rw [aea rfl]
   exact k _ (key p hp _)
  | bl j =>
   refine ⟨_,rfl,(sl 2),λp hp=>⟨_,_,_,_,p,rfl,Za,rfl,by decide,by decide,_,rfl,cF (by decide) ?_⟩⟩
   refine ⟨_,rfl,_,rfl,cF (by simp) ⟨_,rfl,_,_,_,rfl,rfl,by decide,_,rfl,cF (by decide) ?_⟩⟩
   refine ⟨_,rfl,_,_,_,rfl,rfl,by decide,_,rfl,fk (by decide) ⟨_,rfl,_,_,_,rfl,rfl,by decide,_,rfl,_,_,_,rfl,rfl,by decide,rfl,_,rfl,fk (by decide) ⟨_,rfl,_,rfl,rfl,?_⟩⟩⟩
   rw [aea rfl]
   exact k _ (key p hp _)
  | aT =>
   refine ⟨_,rfl,(sl 2),λp hp=>⟨_,_,_,_,p,rfl,Za,rfl,by decide,by decide,_,rfl,cF (by decide) ?_⟩⟩
   refine ⟨_,rfl,_,rfl,fk (by simp) (fk rfl ⟨_,rfl,_,rfl,rfl,_,rfl,fk (by decide) ⟨_,rfl,_,_,_,rfl,rfl,by decide,_,rfl,_,_,_,rfl,rfl,by decide,rfl,?_⟩⟩)⟩
   rw [aea rfl]
   exact k _ (key p hp _)
  | str z =>
   refine ⟨_,rfl,(sl 2),λp hp=>⟨_,_,_,_,p,rfl,Za,rfl,by decide,by decide,_,rfl,cF (by decide) ?_⟩⟩
   refine ⟨_,rfl,_,rfl,cF (by simp) ⟨_,rfl,_,_,_,rfl,rfl,by decide,_,rfl,fk (by decide) ⟨_,rfl,_,rfl,rfl,_,rfl,fk (by simp) ⟨_,rfl,_,_,_,rfl,rfl,by decide,_,rfl,_,_,_,rfl,rfl,by decide,rfl,?_⟩⟩⟩⟩
   rw [aea rfl]
   exact k _ (key p hp _)
  | _=>exact hs.elim
 .have he:=m9 m rfl
  subst he
  refine ⟨_,rfl,(sl 2),λp hp=>?_⟩
  have s1:=Zd hp (.tup [.ty "list",.ty "tuple"])
  refine ⟨_,_,_,_,p,rfl,Za,Co (s1 _ _ hb),by decide,by decide,_,rfl,fk (by decide) ?_⟩
  refine ⟨_,rfl,(sl 2),λp2 hp2=>?_⟩
  have s2:=s1.trans (Zd hp2 (.tup [.ty "list",.ty "tuple"]))
  refine ⟨_,_,_,_,p2,rfl,Za,Co (s2 _ _ ha),by decide,by decide,_,rfl,cF (by decide) ?_⟩
  refine ⟨_,rfl,_,_,_,rfl,Co (s2 _ _ ha),by decide,_,rfl,_,_,_,rfl,Co (s2 _ _ hb),by decide,rfl,_,rfl,cF (by decide) ?_⟩
  refine ⟨_,rfl,a,_,rfl,.inl (aB.of (s2 _ _ ha)),_,rfl,b,_,rfl,.inl (aB.of (s2 _ _ hb)),rfl,_,rfl,?_⟩
  generalize upd (upd H p (.tup [.ty "list",.ty "tuple"])) p2 (.tup [.ty "list",.ty "tuple"])=H2 at *
  refine fk (by rw [hl]; simp) ?_
  refine ⟨_,rfl,_,rfl,a,b,rfl,.inl ⟨_,_,aB.of (s2 _ _ ha),aB.of (s2 _ _ hb),λl hl'=>?_⟩⟩
  have vN:H l=none:=s2.free hl'
  refine XO (K:=K) (a:=a) (b:=b) (xs:=xs) (zs:=ys) (l:=l) hl (λi zs σ H'=>∃ v0 v1:Option V,σ=[v0,v1]/\zs=(List.replicate i true).map V.bl/\H' l=some (.lst zs)/\az H H')
   ⟨none,none,rfl,by simp,Za,s2.trans (Zd hl' _)⟩ (λi zs σ H' _ ⟨_,_,_,_,_,q⟩=>⟨aB.of (q _ _ ha),aB.of (q _ _ hb)⟩) ?_ ?_
  .rintro i x z t zs σ H' Hg hxi GN Aj ⟨v0,v1,rfl,rfl,h1,s3⟩ ht
   have s4:=s3.trans (Zd ht (.tup [x,z]))
   have xG:l≠t:=Ze h1 ht
   refine ⟨t,_,rfl,aK.of Za,rfl,_,_,rfl,_,_,rfl,rfl,?_⟩
   refine ⟨_,rfl,_,rfl,x,z,rfl,(hi i x z hxi GN).same s4,λH5 s5=>?_⟩
   refine jR.of (a9L (ZA hlen)) Hg Aj (s5 _ _ (by rw [Zc xG]; exact h1)) ⟨_,_,rfl,by rw [aWn,aIV]; rfl,Za,?_⟩
   intro c o e
   rw [Zc (Ze e vN)]
   exact s5 _ _ (s4 _ _ e)
  .rintro zs σ H' Aj ⟨v0,v1,rfl,rfl,h1,s3⟩
   refine ⟨l,_,rfl,aB.of h1,?_⟩
   rw [show (List.replicate xs.length true).all id=true by rw [aXt]; intro z hz; rw [(ag9.mp hz).2]; rfl]
   exact k H' s3
 .have he:=m9 m rfl
  subst he
  refine ⟨_,rfl,(sl 2),λp hp=>?_⟩
  have s1:=Zd hp (.tup [.ty "list",.ty "tuple"])
  refine ⟨_,_,_,_,p,rfl,Za,Cn (s1 _ _ hb),by decide,by decide,_,rfl,fk (by decide) ?_⟩
  refine ⟨_,rfl,(sl 2),λp2 hp2=>?_⟩
  have s2:=s1.trans (Zd hp2 (.tup [.ty "list",.ty "tuple"]))
  refine ⟨_,_,_,_,p2,rfl,Za,Cn (s2 _ _ ha),by decide,by decide,_,rfl,cF (by decide) ?_⟩
  refine ⟨_,rfl,_,_,_,rfl,Cn (s2 _ _ ha),by decide,_,rfl,_,_,_,rfl,Cn (s2 _ _ hb),by decide,rfl,_,rfl,cF (by decide) ?_⟩
  refine ⟨_,rfl,a,_,rfl,.inr (aK.of (s2 _ _ ha)),_,rfl,b,_,rfl,.inr (aK.of (s2 _ _ hb)),rfl,_,rfl,?_⟩
  generalize upd (upd H p (.tup [.ty "list",.ty "tuple"])) p2 (.tup [.ty "list",.ty "tuple"])=H2 at *
  refine fk (by rw [hl]; simp) ?_
  refine ⟨_,rfl,_,rfl,a,b,rfl,.inr ⟨_,_,aK.of (s2 _ _ ha),aK.of (s2 _ _ hb),λl hl'=>?_⟩⟩
  have vN:H l=none:=s2.free hl'
  refine Y3 (K:=K) (a:=a) (b:=b) (xs:=xs) (zs:=ys) (l:=l) hl (λi zs σ H'=>∃ v0 v1:Option V,σ=[v0,v1]/\zs=(List.replicate i true).map V.bl/\H' l=some (.lst zs)/\az H H')
   ⟨none,none,rfl,by simp,Za,s2.trans (Zd hl' _)⟩ (λi zs σ H' _ ⟨_,_,_,_,_,q⟩=>⟨aK.of (q _ _ ha),aK.of (q _ _ hb)⟩) ?_ ?_
  .rintro i x z t zs σ H' Hg hxi GN Aj ⟨v0,v1,rfl,rfl,h1,s3⟩ ht
   have s4:=s3.trans (Zd ht (.tup [x,z]))
   have xG:l≠t:=Ze h1 ht
   refine ⟨t,_,rfl,aK.of Za,rfl,_,_,rfl,_,_,rfl,rfl,?_⟩
   refine ⟨_,rfl,_,rfl,x,z,rfl,(hi i x z hxi GN).same s4,λH5 s5=>?_⟩
   refine jR.of (a9L (ZA hlen)) Hg Aj (s5 _ _ (by rw [Zc xG]; exact h1)) ⟨_,_,rfl,by rw [aWn,aIV]; rfl,Za,?_⟩
   intro c o e
   rw [Zc (Ze e vN)]
   exact s5 _ _ (s4 _ _ e)
  .rintro zs σ H' Aj ⟨v0,v1,rfl,rfl,h1,s3⟩
   refine ⟨l,_,rfl,aB.of h1,?_⟩
   rw [show (List.replicate xs.length true).all id=true by rw [aXt]; intro z hz; rw [(ag9.mp hz).2]; rfl]
   exact k H' s3
def Ft:Sp:=λ_ _ _ _=>False
theorem Pp (F:aY K "_law_same" "_law_same" uK f fd) (bi:Binds K fd uJ []) (m:mg "_law_same" = some (.ref f)) (T:Txt K mg):∀ n,Def P w K mg base "_law_same" (n+1) uJ (DC n)
 | 0=>by
  have D0:Def P w K mg base "_law_same" 0 uJ Ft:=⟨f,fd,⟨λ_ _ _ _ h=>h.elim,λ_ _ _ _ _ _ _ _ _ _ _ _ _ h=>h.elim⟩,m,F.kp,bi⟩
  exact ⟨f,fd,N8 (n:=0) (λ_ h=>by lia) F T D0,m,F.kp,bi⟩
 | n+1=>⟨f,fd,N8 (n:=n+1) (λj h=>by cases (show j=n by lia); rfl) F T (Pp F bi m T n),m,F.kp,bi⟩
end
def ql:Option Int->V
 | none=>.aT
 | some g=>.int g
theorem gN {i:Nat} {v:V} {σ:St} {H:Hp} {Q:St->Hp->Prop} (h:Q (σ.set i (some v)) H):fQ i v σ H Q:=h
theorem Je {b:Bool} {A B:Prop} (h1:b=true->A) (h2:¬ b=true->B):if b=true then A else B:=by
 by_cases h:b=true
 .rw [abw h]; exact h1 h
 .rw [aM3 h]; exact h2 h
theorem Wt {ns:List Int} {i:Nat} {x:V} (h:(ns.map V.int)[i]?=some x):∃ z,ns[i]?=some z/\x=V.int z:=by
 rw [aBK] at h
 cases e:ns[i]? with
 | none=>rw [e] at h; cases h
 | some z=>rw [e] at h; exact ⟨z,rfl,(avM h).symm⟩
theorem N7 (z:Int) (ns:List Int):vI (.int z) (ns.map V.int)=decide (z∈ns):=by
 unfold vI
 rw [any_map,a9z,any_eq_true,ayt]
 constructor
 .rintro ⟨x,hx,e⟩
  have:x=z:=by simpa [oZ] using e
  rw [← this]; exact hx
 .intro h
  exact ⟨z,h,by simp [oZ]⟩
def tpos:Pos:=(match (ZK ZG).head? with
 | some (.If _ (.Return (some (.Call _ _ (⟨_,.Lambda _ _ _ pos,_⟩ :: _) _)) _ :: _) _ _)=>pos
 | _=>⟨0,0,0,0⟩)
abbrev pU:Str := "Room.going" ++ ".<locals>." ++ "<lambda>"
def Tb (K:W.Frag) (H:Hp):Prop:=H (tabOf K "Room" "going")=some (.kh tpos pU)
theorem Tb.same {K:W.Frag} {H H':Hp} (t:Tb K H) (s:az H H'):Tb K H':=s _ _ t
def Zo (sh s:Int) (there:List Int):List Int:=there.filter λo=>decide (o % sh=s)
theorem BB (sh s b:Int) (there:List Int):Zo sh s (there++[b])=if b % sh=s then Zo sh s there++[b] else Zo sh s there:=by
 unfold Zo
 rw [List.filter_append]
 by_cases h:b % sh=s
 .rw [abw h,aPc,abw (by simpa using h),List.filter_nil]
 .rw [aM3 h,aPc,aM3 (by simpa using h),List.filter_nil,bcu]
theorem BF (sh s g:Int) (there:List Int):Zo sh s (there.erase g)=(Zo sh s there).erase g:=by
 unfold Zo
 rw [List.erase_filter]
theorem bz {sh s b:Int} {there:List Int}:b∈Zo sh s there↔b∈there/\b % sh=s:=by
 unfold Zo
 rw [mem_filter,ayt]
structure oQ (H:Hp) (ls:Addr) (au:List Addr) (sh:Int) (there:List Int):Prop where
 top:H ls=some (.lst (au.map V.ref))
 len:au.length=sh.toNat
 nd:au.Nodup
 off:ls∉au
 at_:∀ (s:Nat) (ad:Addr),au[s]?=some ad->H ad=some (.lst ((Zo sh s there).map V.int))
theorem oQ.other {H:Hp} {ls:Addr} {au:List Addr} {sh:Int} {there:List Int} (h:oQ H ls au sh there) {a:Addr} (o:HO) (h1:a≠ls) (h2:a∉au):oQ (upd H a o) ls au sh there :=
 ⟨by rw [Zc (a4v h1)]; exact h.top,h.len,h.nd,h.off,λi ad e=>by rw [Zc (λz:ad=a=>h2 (z ▸ aBD e))]; exact h.at_ i ad e⟩
theorem oQ.put {H:Hp} {ls:Addr} {au:List Addr} {sh:Int} {there mQ:List Int} (h:oQ H ls au sh there) {s0:Nat} {ad:Addr} {ns:List Int} (e0:au[s0]?=some ad) (hn:Zo sh s0 mQ=ns) (ho:∀ s:Nat,s≠s0->Zo sh s mQ=Zo sh s there):oQ (upd H ad (.lst (ns.map V.int))) ls au sh mQ:=by
 refine ⟨by rw [Zc (λz:ls=ad=>h.off (z ▸ aBD e0))]; exact h.top,h.len,h.nd,h.off,λs a e=>?_⟩
 by_cases hs:s=s0
 .subst hs
  rw [e0] at e
  cases e
  rw [Za,hn]
 .have ne:a≠ad:=λz=>by
   subst z
   exact hs ((List.getElem?_inj (a2U.mp e).1 h.nd).mp (e.trans e0.symm))
  rw [Zc ne,ho s hs]
  exact h.at_ s a e
theorem oQ.get {H:Hp} {ls:Addr} {au:List Addr} {sh:Int} {there:List Int} (h:oQ H ls au sh there) {k:Int} (h0:0<=k) (h1:k<sh):∃ (s:Nat) (ad:Addr),(s:Int)=k/\au[s]?=some ad/\fS (au.map V.ref) k=some (.ref ad)/\H ad=some (.lst ((Zo sh k there).map V.int)):=by
 have hk:k.toNat<au.length:=by rw [h.len]; lia
 have e:au[k.toNat]?=some au[k.toNat]:=af3 hk
 have ek:((k.toNat:Nat):Int)=k:=by lia
 have q:fS (au.map V.ref) ((k.toNat:Nat):Int)=some (.ref au[k.toNat]):=rN (by rw [aBK,e]; rfl)
 have q2:=h.at_ _ _ e
 rw [ek] at q q2
 exact ⟨k.toNat,_,ek,e,q,q2⟩
theorem oQ.one {H:Hp} {ls:Addr} {au:List Addr} {sh:Int} {there:List Int} (h:oQ H ls au sh there) {ad:Addr} (m:ad∈au):∃ xs,H ad=some (.lst xs):=by
 obtain ⟨s,e⟩:=asq m
 exact ⟨_,h.at_ s ad e⟩
def gR (sh pl:Int) (ru:Str) (ls du:Addr):List (Str×V):=ai "uses" (.ref du) (ai "standing" (.ref ls) (ai "rule" (.str ru) (ai "places" (.int pl) (ai "shelves" (.int sh) []))))
theorem yo (sh pl:Int) (ru:Str) (ls du:Addr):(gR sh pl ru ls du).lookup ("uses" : Str)=some (.ref du):=by
 unfold gR
 rw [Zg,abw rfl]
theorem Ziw (sh pl:Int) (ru:Str) (ls du:Addr):(gR sh pl ru ls du).lookup ("standing" : Str)=some (.ref ls):=by
 unfold gR
 rw [Zg,aM3 (by decide +kernel),Zg,abw rfl]
theorem N6 (sh pl:Int) (ru:Str) (ls du:Addr):(gR sh pl ru ls du).lookup ("rule" : Str)=some (.str ru):=by
 unfold gR
 rw [Zg,aM3 (by decide +kernel),Zg,aM3 (by decide +kernel),Zg,abw rfl]
theorem Ys (sh pl:Int) (ru:Str) (ls du:Addr):(gR sh pl ru ls du).lookup ("places" : Str)=some (.int pl):=by
 unfold gR
 rw [Zg,aM3 (by decide +kernel),Zg,aM3 (by decide +kernel),Zg,aM3 (by decide +kernel),Zg,abw rfl]
theorem ZkQ (sh pl:Int) (ru:Str) (ls du:Addr):(gR sh pl ru ls du).lookup ("shelves" : Str)=some (.int sh):=by
 unfold gR
 rw [Zg,aM3 (by decide +kernel),Zg,aM3 (by decide +kernel),Zg,aM3 (by decide +kernel),Zg,aM3 (by decide +kernel),Zg,abw rfl]
theorem bQ (sh pl:Int) (ru:Str) (ls du:Addr) {m:Str} (h1:¬ m = "uses" := by decide +kernel) (h2:¬ m = "standing" := by decide +kernel) (h3:¬ m = "rule" := by decide +kernel) (h4:¬ m = "places" := by decide +kernel) (h5:¬ m = "shelves" := by decide +kernel):(gR sh pl ru ls du).lookup m=none:=by
 unfold gR
 rw [Zg,aM3 h1,Zg,aM3 h2,Zg,aM3 h3,Zg,aM3 h4,Zg,aM3 h5]
 rfl
def KI (kvs:List (Key×V)):Prop:=∃ ks:List Int,kvs.map Prod.fst=ks.map Sum.inl/\ks.Nodup
theorem KI.nil:KI []:=⟨[],rfl,nodup_nil⟩
theorem KI.put {kvs:List (Key×V)} (h:KI kvs) (b:Int) (v:V):KI (putK kvs (Sum.inl b) v):=by
 obtain ⟨ks,e,nd⟩:=h
 unfold putK
 split
 .refine ⟨ks,?_,nd⟩
  rw [← e,map_map]
  exact a8Y λq _=>by
   show (if q.1=Sum.inl b then (q.1,v) else q).1=q.1
   split <;> rfl
 .rename_i c
  refine ⟨ks++[b],by rw [aIV,aIV,e]; rfl,?_⟩
  rw [List.nodup_append]
  refine ⟨nd,by simp,λx hx y hy z=>c ?_⟩
  rw [arG.mp hy] at z
  subst z
  have m:(Sum.inl x:Key)∈kvs.map Prod.fst:=by rw [e]; exact ad2 hx
  obtain ⟨q,hq,eq⟩:=au8.mp m
  exact List.any_eq_true.mpr ⟨q,hq,by simpa using eq⟩
theorem KI.drop {kvs:List (Key×V)} (h:KI kvs) (b:Int):KI (aW kvs (Sum.inl b)):=by
 obtain ⟨ks,e,nd⟩:=h
 unfold aW
 refine ⟨ks.filter λx=>decide (x≠b),?_,nd.sublist List.filter_sublist⟩
 have l:(kvs.filter λkv=>decide (kv.1≠Sum.inl b)).map Prod.fst=(kvs.map Prod.fst).filter λk=>decide (k≠Sum.inl b):=by
  rw [List.filter_map]; rfl
 rw [l,e,List.filter_map]
 congr 1
 refine List.filter_congr λx _=>?_
 show decide ((Sum.inl x:Key)≠Sum.inl b)=decide (x≠b)
 rw [decide_eq_decide]
 exact ⟨λz y=>z (by rw [y]),λz y=>z (aDr y)⟩
theorem tu {kvs:List (Key×V)} (k:Key):(aO kvs k).isSome=true↔k∈kvs.map Prod.fst:=by
 rw [← Bh,any_eq_true,mem_map]
 exact ⟨λ⟨q,h1,h2⟩=>⟨q,h1,by simpa using h2⟩,λ⟨q,h1,h2⟩=>⟨q,h1,by simpa using h2⟩⟩
structure aE (K:W.Frag) (H:Hp) (p:Addr) (sh pl:Int) (ru:Str) (ls:Addr) (au:List Addr) (du:Addr) (seq:List Int) (us:Int->Int) (n:Nat):Prop where
 ob:∃ dx,H p=some (.ins (aa K "Room") dx (gR sh pl ru ls du))
 st:oQ H ls au sh seq
 dc:∃ kvs,H du=some (.dK kvs)/\(kvs.length<=n/\KI kvs)/\∀ b,aO kvs (Sum.inl b:Key)=if b∈seq then some (.int (us b)) else none
 nd:seq.Nodup
 s0:1<=sh
 s1:sh<=64
def SR (au:List Addr) (du:Addr) (H H':Hp):Prop:=∀ b o,H b=some o->b≠du->b∉au->H' b=some o
theorem SR.of {au:List Addr} {du:Addr} {H H':Hp} (s:az H H'):SR au du H H':=λb o h _ _=>s b o h
theorem SR.trans {au:List Addr} {du:Addr} {H H1 H2:Hp} (a:SR au du H H1) (b:SR au du H1 H2):SR au du H H2:=λc o h n1 n2=>b c o (a c o h n1 n2) n1 n2
section
variable {K:W.Frag} {H H':Hp} {p:Addr} {sh pl:Int} {ru:Str} {ls:Addr} {au:List Addr} {du:Addr} {seq:List Int} {us:Int->Int} {n:Nat}
theorem aE.off (R:aE K H p sh pl ru ls au du seq us n):p≠du/\p∉au/\ls≠du/\ls∉au/\du∉au/\p≠ls:=by
 obtain ⟨dx,h1⟩:=R.ob
 obtain ⟨kvs,h2,_⟩:=R.dc
 refine ⟨λz=>?_,λz=>?_,λz=>?_,R.st.off,λz=>?_,λz=>?_⟩
 .rw [z,h2] at h1; cases h1
 .obtain ⟨xs,e⟩:=R.st.one z
  rw [e] at h1; cases h1
 .have e:=R.st.top
  rw [z,h2] at e; cases e
 .obtain ⟨xs,e⟩:=R.st.one z
  rw [e] at h2; cases h2
 .have e:=R.st.top
  rw [← z,h1] at e; cases e
theorem aE.same (R:aE K H p sh pl ru ls au du seq us n) (s:az H H'):aE K H' p sh pl ru ls au du seq us n:=by
 obtain ⟨dx,h1⟩:=R.ob
 obtain ⟨kvs,h2,h3⟩:=R.dc
 exact ⟨⟨dx,s _ _ h1⟩,⟨s _ _ R.st.top,R.st.len,R.st.nd,R.st.off,λi ad e=>s _ _ (R.st.at_ i ad e)⟩,⟨kvs,s _ _ h2,h3⟩,R.nd,R.s0,R.s1⟩
theorem SR.keep {o:HO} {b:Addr} (s:SR au du H H') (R:aE K H p sh pl ru ls au du seq us n) (h:H b=some o) (n1:∀ kvs,o≠.dK kvs) (n2:∀ xs,o≠.lst xs):H' b=some o:=by
 refine s _ _ h (λz=>?_) λz=>?_
 .obtain ⟨kvs,e,_⟩:=R.dc
  rw [z,e] at h
  exact n1 kvs (avM h).symm
 .obtain ⟨xs,e⟩:=R.st.one z
  rw [e] at h
  exact n2 xs (avM h).symm
theorem aE.yY (R:aE K H p sh pl ru ls au du seq us n) (b:Int):∃ (s:Nat) (ad:Addr),(s:Int)=b % sh/\au[s]?=some ad/\fS (au.map V.ref) (b % sh)=some (.ref ad)/\H ad=some (.lst ((Zo sh (b % sh) seq).map V.int)):=by
 have h0:=R.s0
 exact R.st.get (aI8 _ (by lia)) (a2j _ (by lia))
end
section
def N5:Sp:=λvs H Q _=>∃ sh b:Int,vs=[.int sh,.int b]/\1<=sh/\Q (.int (b % sh)) H
theorem Zix (F:aY K "shelf_of" "shelf_of" J8 f fd) (T:Txt K mg):av P w K mg base aV 1 f fd J7 N5:=by
 refine F.ok iL (λvs H Q E h=>?_) (λcdv A outer st H vs Q E hr h=>?_)
 .obtain ⟨sh,b,rfl,_⟩:=h
  rfl
 obtain ⟨sh,b,rfl,h0,k⟩:=h
 have nd:=iL.nd
 refine ⟨_,(Zi (Zu (ak o8 (pv 1) (pv 0)))),?_⟩
 exact ⟨_,rfl,_,rfl,_,_,rfl,rfl,(by show 0<sh; lia),k⟩
def nR (K:W.Frag):Sp:=λvs H Q _=>∃ (p:Addr) (b sh pl:Int) (ru:Str) (ls:Addr) (au:List Addr) (du:Addr) (seq:List Int) (us:Int->Int) (n:Nat),vs=[.ref p,.int b]/\aE K H p sh pl ru ls au du seq us n/\Q (.bl (decide (b∈seq))) H
theorem Ziy (F:aY K "has" "Room.has" J6 f fd) (T:Txt K mg):av P w K mg base aV 1 f fd BC (nR K):=by
 refine F.ok iO (λvs H Q E h=>?_) (λcdv A outer st H vs Q E hr h=>?_)
 .obtain ⟨p,b,sh,pl,ru,ls,au,du,seq,us,n,rfl,_⟩:=h
  rfl
 obtain ⟨p,b,sh,pl,ru,ls,au,du,seq,us,n,rfl,R,k⟩:=h
 have nd:=iO.nd
 have hu:=bT hr
 refine ⟨_,(Zi (Zu (WY (V3 hu (pv 1) (Zl (K:=K) rfl (pv 0) rfl))))),?_⟩
 obtain ⟨dx,h1⟩:=R.ob
 obtain ⟨kvs,h2,h3,h4⟩:=R.dc
 refine ⟨_,rfl,_,rfl,p,_,dx,_,_,rfl,h1,T.gf,T.uW,yo ..,du,_,rfl,eB.k (k:=Sum.inl b) h2,?_⟩
 rw [h4 b]
 by_cases c:b∈seq
 .rw [abw c]
  rw [aea c] at k
  exact k
 .rw [aM3 c]
  rw [a0j c] at k
  exact k
def A7 (K:W.Frag):Sp:=λvs H Q _=>∃ (p:Addr) (b sh pl:Int) (ru:Str) (ls:Addr) (au:List Addr) (du:Addr) (seq:List Int) (us:Int->Int) (n:Nat),vs=[.ref p,.int b]/\aE K H p sh pl ru ls au du seq us n /\
 ∀ (s:Nat) (ad:Addr),(s:Int)=b % sh->au[s]?=some ad->H ad=some (.lst ((Zo sh (b % sh) seq).map V.int))->Q (.ref ad) H
theorem Zgy (F:aY K "mates" "Room.mates" KC f fd) (T:Txt K mg) (Gx:Def P w K mg base "shelf_of" 1 J7 N5):av P w K mg base aV 2 f fd yz (A7 K):=by
 refine F.ok gx (λvs H Q E h=>?_) (λcdv A outer st H vs Q E hr h=>?_)
 .obtain ⟨p,b,sh,pl,ru,ls,au,du,seq,us,n,rfl,_⟩:=h
  rfl
 obtain ⟨p,b,sh,pl,ru,ls,au,du,seq,us,n,rfl,R,k⟩:=h
 have nd:=gx.nd
 refine ⟨_,(Zi (Zu (ao (Zr (K:=K) rfl) (Zl (K:=K) rfl (pv 0) rfl) (Zm Gx hr.m rfl (pc (Zl (K:=K) rfl (pv 0) rfl) (pc (pv 1) Zb))) (λ_ _=>rfl)))),?_⟩
 obtain ⟨dx,h1⟩:=R.ob
 obtain ⟨s,ad,e1,e2,e3,e4⟩:=R.yY b
 exact ⟨_,rfl,p,_,dx,_,_,rfl,h1,T.gf,T.Ma,Ziw ..,_,rfl,p,_,dx,_,_,rfl,h1,T.gf,T.L8,ZkQ ..,_,rfl,sh,b,rfl,R.s0,ls,_,_,_,rfl,rfl,aB.of R.st.top,e3,k s ad e1 e2 e4⟩
def Dq (K:W.Frag):Sp:=λvs H Q _=>∃ (p:Addr) (b sh pl:Int) (ru:Str) (ls:Addr) (au:List Addr) (du:Addr) (seq:List Int) (us:Int->Int) (n:Nat),vs=[.ref p,.int b]/\aE K H p sh pl ru ls au du seq us n/\b∈seq/\Q .aT H
theorem ZhJ (F:aY K "need" "Room.need" JZ f fd) (T:Txt K mg) (sf:ay P w K mg base (aa K "Room") "has" 1 BC (nR K)):av P w K mg base aV 2 f fd Bw (Dq K):=by
 refine F.ok ic (λvs H Q E h=>?_) (λcdv A outer st H vs Q E hr h=>?_)
 .obtain ⟨p,b,sh,pl,ru,ls,au,du,seq,us,n,rfl,_⟩:=h
  rfl
 obtain ⟨p,b,sh,pl,ru,ls,au,du,seq,us,n,rfl,R,hb,k⟩:=h
 have nd:=ic.nd
 refine ⟨_,(Zi (aI (wB (jJ (Zk sf hr.m T.gf (pv 0) (pc (pv 1) Zb)))) (Zi qg) Zv)),?_⟩
 obtain ⟨dx,h1⟩:=R.ob
 refine ⟨_,rfl,p,dx,_,rfl,h1,bQ ..,_,rfl,p,b,sh,pl,ru,ls,au,du,seq,us,n,rfl,R,?_⟩
 rw [aea hb]
 exact ⟨_,rfl,cF rfl k⟩
end
section
def Iq (K:W.Frag):Sp:=λvs H Q _=>∃ (p m:Addr) (ms:List Int) (sh pl:Int) (ru:Str) (ls:Addr) (au:List Addr) (du:Addr) (seq:List Int) (us:Int->Int) (n:Nat),vs=[.ref p,.ref m]/\aE K H p sh pl ru ls au du seq us n/\Tb K H/\H m=some (.lst (ms.map V.int))/\ms.length<64/\ms.Nodup/\(∀ b∈ms,b∈seq) /\
 ∀ (D:Addr) (H':Hp) (os:List Int),H D=none->az H H'->H' D=some (.lst (os.map V.int))->os.Perm ms->(ru = "few" -> os.Pairwise (tM us ms))->(ru ≠ "few" -> os=ms)->Q (.ref D) H'
theorem Zgz {f tp cg:Addr} {fd:FuncData} (F:aY K "going" "Room.going" ZG f fd) (hfc:fd.code=.ref cg) (htp:tabOf K "Room" "going" = tp) (hch:W.codeHdIn K cg tp=true) (bm:BMod base mg) (T:Txt K mg):av P w K mg base aV 2 f fd BH (Iq K):=by
 refine F.S8 gy (λvs H Q E h=>?_) (λcdv A outer st H vs Q E UI hr h=>?_)
 .obtain ⟨p,m,ms,sh,pl,ru,ls,au,du,seq,us,n,rfl,_⟩:=h
  rfl
 obtain ⟨p,m,ms,sh,pl,ru,ls,au,du,seq,us,n,rfl,R,tb,hm,h64,hnd,hin,k⟩:=h
 have nd:=gy.nd
 have hu:=bT hr
 have hc0:cdv=.ref cg:=UI.symm.trans hfc
 refine ⟨_,(Zf (aI (Zy aU (Zl (K:=K) rfl (pv 0) rfl) ZM (Zz _)) (Zi (Zu (XD (X:=(lX aV P w K mg base cE "Room.going" (Zh ZG) f cdv A outer st H E).vn) (K:=K) (P:=tp) (c0:=cg) rfl hr rfl rfl T.uV (XE (iZ:=(Zh ZG)) (oN:=cE) (x := "board") (fr:=["self"]) (js:=[0]) (by decide +kernel) rfl rfl) hc0 hch bm rfl rfl rfl (λ_ _ _ _ _=>rfl) (pv 1) (λ_ _ _ _ _=>(Bb (VT hr) (Zl (K:=K) rfl (pv 1) rfl) (pv 0) (λ_ _=>rfl)))))) Zv)
   (Zi (Zu (tF (Et (K:=K) rfl) rfl T.pT ZZ (pc (pv 1) Zb))))),?_⟩
 obtain ⟨dx,h1⟩:=R.ob
 obtain ⟨kvs,h2,h3,h4⟩:=R.dc
 refine ⟨_,rfl,p,_,dx,_,_,rfl,h1,T.gf,T.Gz,N6 ..,rfl,_,rfl,?_⟩
 refine pq (λc=>?_) (λc=>?_)
 .have c':ru = "few" := by injection c
  have tb':H tp=some (.kh tpos pU):=by
   have t:=tb
   unfold Tb at t
   rw [htp] at t
   exact t
  refine ⟨_,rfl,m,ms,us,rfl,aB.of hm,h64,hnd,tb',λz hz H2 sm=>?_,λD H' os hD sm hl po so=>k D H' os hD sm hl po (λ_=>so) λz=>absurd c' z⟩
  have v:=h4 z
  rw [abw (hin z hz)] at v
  exact ⟨_,rfl,p,_,dx,_,_,rfl,sm _ _ h1,T.gf,T.uW,yo ..,_,rfl,du,_,rfl,(by have q:=eB.k (k:=Sum.inl z) (sm _ _ h2); rw [v] at q; exact q),rfl,rfl⟩
 .have c':¬ ru = "few" := λz=>c (by rw [z])
  exact ⟨_,rfl,m,_,rfl,.inl (aB.of hm),λD hD=>k D _ ms hD (Zd hD _) Za (List.Perm.refl _) (λz=>absurd z c') λ_=>rfl⟩
theorem D4 {kvs:List (Key×V)} {k:Key} (j:Key):aO (aW kvs k) j=if j=k then none else aO kvs j:=by
 induction kvs with
 | nil=>by_cases e:j=k <;> simp [aW,aO,e]
 | cons q r ih =>
  by_cases e:q.1=k
  .rw [YE e,ih]
   by_cases c:j=k
   .rw [abw c,abw c]
   .rw [aM3 c,aM3 c,ZO (λz=>c (z.symm.trans e))]
  .rw [YD e]
   by_cases c:q.1=j
   .rw [ZV c,aM3 (λz=>e (c.trans z)),ZV c]
   .rw [ZO c,ih,ZO c]
theorem Yr (kvs:List (Key×V)) (k:Key):(aW kvs k).length<=kvs.length:=aMW ..
def HQ (K:W.Frag):Sp:=λvs H Q _=>∃ (p:Addr) (b sh pl:Int) (ru:Str) (ls:Addr) (au:List Addr) (du:Addr) (seq:List Int) (us:Int->Int) (n:Nat),vs=[.ref p,.int b]/\aE K H p sh pl ru ls au du seq us n/\b∈seq /\
 ∀ H',aE K H' p sh pl ru ls au du (seq.erase b) us n->SR au du H H'->Q .aT H'
theorem ZhK (F:aY K "drop" "Room.drop" J2 f fd) (T:Txt K mg) (rZ:ay P w K mg base (aa K "Room") "need" 2 Bw (Dq K)) (pJ:ay P w K mg base (aa K "Room") "mates" 2 yz (A7 K)):av P w K mg base aV 3 f fd Eh (HQ K):=by
 refine F.ok ig (λvs H Q E h=>?_) (λcdv A outer st H vs Q E hr h=>?_)
 .obtain ⟨p,b,sh,pl,ru,ls,au,du,seq,us,n,rfl,_⟩:=h
  rfl
 obtain ⟨p,b,sh,pl,ru,ls,au,du,seq,us,n,rfl,R,hb,k⟩:=h
 have nd:=ig.nd
 refine ⟨_,(Zf (Zp (Zk rZ hr.m T.gf (pv 0) (pc (pv 1) Zb)))
   (Zf (Zp (uM (K:=K) rfl (iQ apM PySem.F.slot_list_remove PySem.F.type_list_remove PZ (Zk pJ hr.m T.gf (pv 0) (pc (pv 1) Zb)) (pc (pv 1) Zb))))
   (Zi (Zp (OZ (Zl (K:=K) rfl (pv 0) rfl) (pv 1) ⟨rfl,rfl,rfl,rfl⟩))))),?_⟩
 obtain ⟨dx,h1⟩:=R.ob
 obtain ⟨kvs,h2,h3,h4⟩:=R.dc
 obtain ⟨o1,o2,o3,o4,o5,o6⟩:=R.off
 refine ⟨_,rfl,p,dx,_,rfl,h1,bQ ..,_,rfl,p,b,sh,pl,ru,ls,au,du,seq,us,n,rfl,R,hb,?_⟩
 refine ⟨_,rfl,p,dx,_,rfl,h1,bQ ..,_,rfl,p,b,sh,pl,ru,ls,au,du,seq,us,n,rfl,R,λs ad es hs had=>?_⟩
 have qu:ad∈au:=aBD hs
 have hmem:b∈Zo sh (b % sh) seq:=bz.mpr ⟨hb,rfl⟩
 refine ⟨.inl ⟨rfl,_,aB.of had⟩,_,rfl,ad,_,b,rfl,rfl,had,hmem,?_⟩
 have S1:oQ (upd H ad (.lst (((Zo sh (b % sh) seq).erase b).map V.int))) ls au sh (seq.erase b):=by
  refine R.st.put hs ?_ λs' hs'=>?_
  .rw [BF,es]
  .rw [BF]
   exact adJ λm=>hs' (by have:=(bz.mp m).2; lia)
 have np:p≠ad:=λz=>o2 (z ▸ qu)
 have CI:du≠ad:=λz=>o5 (z ▸ qu)
 have rF:upd H ad (.lst (((Zo sh (b % sh) seq).erase b).map V.int)) p=some (.ins (aa K "Room") dx (gR sh pl ru ls du)):=by rw [Zc np]; exact h1
 have h2':upd H ad (.lst (((Zo sh (b % sh) seq).erase b).map V.int)) du=some (.dK kvs):=by rw [Zc CI]; exact h2
 refine ⟨_,rfl,p,_,dx,_,_,rfl,rF,T.gf,T.uW,yo ..,du,rfl,.inl ⟨_,.inl h2'⟩,_,rfl,kvs,Sum.inl b,_,h2',rfl,(by rw [h4 b,abw hb]),?_⟩
 refine k _ ⟨⟨dx,by rw [Zc o1]; exact rF⟩,S1.other _ (a4v o3) o5,⟨_,Za,⟨a28 (Yr _ _) h3.1,h3.2.drop b⟩,λx=>?_⟩,R.nd.erase b,R.s0,R.s1⟩ λx o e n1 n2=>?_
 .rw [D4,h4 x]
  by_cases c:x=b
  .subst c
   rw [abw rfl,aM3 (λm=>((aKD R.nd).mp m).1 rfl)]
  .rw [aM3 (λz=>c (aDr z))]
   by_cases m:x∈seq
   .rw [abw m,abw ((aKD R.nd).mpr ⟨c,m⟩)]
   .rw [aM3 m,aM3 (λz=>m (a2z z))]
 .rw [Zc n1,Zc (λz:x=ad=>n2 (z ▸ qu))]
  exact e
def bump (us:Int->Int) (b:Int):Int->Int:=λx=>if x=b then us b+1 else us x
def tV (K:W.Frag):Sp:=λvs H Q _=>∃ (p:Addr) (b sh pl:Int) (ru:Str) (ls:Addr) (au:List Addr) (du:Addr) (seq:List Int) (us:Int->Int) (n:Nat),vs=[.ref p,.int b]/\aE K H p sh pl ru ls au du seq us n/\n<=900/\b∈seq/\seq.length<=900 /\
 ∀ H',aE K H' p sh pl ru ls au du (if ru = "old" then seq.erase b++[b] else seq) (bump us b) (n+1)->SR au du H H'->Q .aT H'
theorem ZiA (F:aY K "use" "Room.use" J5 f fd) (T:Txt K mg) (rZ:ay P w K mg base (aa K "Room") "need" 2 Bw (Dq K)) (pJ:ay P w K mg base (aa K "Room") "mates" 2 yz (A7 K)):av P w K mg base aV 3 f fd J4 (tV K):=by
 refine F.ok iN (λvs H Q E h=>?_) (λcdv A outer st H vs Q E hr h=>?_)
 .obtain ⟨p,b,sh,pl,ru,ls,au,du,seq,us,n,rfl,_⟩:=h
  rfl
 obtain ⟨p,b,sh,pl,ru,ls,au,du,seq,us,n,rfl,R,hn,hb,hsl,k⟩:=h
 have nd:=iN.nd
 have hu:=bT hr
 refine ⟨_,(Zf (Zp (Zk rZ hr.m T.gf (pv 0) (pc (pv 1) Zb)))
   (Zf (WJ hu (Zl (K:=K) rfl (pv 0) rfl) (pv 1) Zj WS (λ_ _ _=>rfl))
   (Zi (aI (Zy aU (Zl (K:=K) rfl (pv 0) rfl) ZM (Zz _)) (Zf (cI 2 nd (Zk pJ hr.m T.gf (pv 0) (pc (pv 1) Zb)))
   (Zf (Zp (uM (K:=K) rfl (iQ apM PySem.F.slot_list_remove PySem.F.type_list_remove PZ (pv 2) (pc (pv 1) Zb))))
   (Zi (Zp (uM (K:=K) rfl (iQ apM aE9 aAu wJ (pv 2) (pc (pv 1) Zb))))))) Zv)))),?_⟩
 obtain ⟨dx,h1⟩:=R.ob
 obtain ⟨kvs,h2,h3,h4⟩:=R.dc
 obtain ⟨o1,o2,o3,o4,o5,o6⟩:=R.off
 refine ⟨_,rfl,p,dx,_,rfl,h1,bQ ..,_,rfl,p,b,sh,pl,ru,ls,au,du,seq,us,n,rfl,R,hb,?_⟩
 refine ⟨_,rfl,p,_,dx,_,_,rfl,h1,T.gf,T.uW,yo ..,_,rfl,du,_,rfl,(by have q:=eB.k (k:=Sum.inl b) h2; rw [h4 b,abw hb] at q; exact q),_,_,rfl,rfl,_,jE.k (k:=Sum.inl b) h2 (ZA (by lia)),?_⟩
 have R1:aE K (upd H du (.dK (putK kvs (Sum.inl b) (.int (us b+1))))) p sh pl ru ls au du seq (bump us b) (n+1):=by
  refine ⟨⟨dx,by rw [Zc o1]; exact h1⟩,R.st.other _ (a4v o3) o5,⟨_,Za,⟨a28 (By ..) (by have:=h3.1; lia),h3.2.put b _⟩,λx=>?_⟩,R.nd,R.s0,R.s1⟩
  rw [yv]
  unfold bump
  by_cases c:x=b
  .subst c
   rw [abw rfl,abw hb,abw rfl]
  .rw [aM3 (λz=>c (aDr z)),h4 x,aM3 c]
 have s1:SR au du H (upd H du (.dK (putK kvs (Sum.inl b) (.int (us b+1))))):=λx o e n1 n2=>by rw [Zc n1]; exact e
 generalize upd H du (.dK (putK kvs (Sum.inl b) (.int (us b+1))))=H1 at *
 obtain ⟨iD,g1⟩:=R1.ob
 refine ⟨_,rfl,p,_,iD,_,_,rfl,g1,T.gf,T.Gz,N6 ..,rfl,_,rfl,?_⟩
 refine pq (λc=>?_) (λc=>?_)
 .have c':ru = "old" := by injection c
  rw [abw c'] at k
  refine ⟨_,rfl,p,iD,_,rfl,g1,bQ ..,_,rfl,p,b,sh,pl,ru,ls,au,du,seq,_,_,rfl,R1,λs ad es hs had=>?_⟩
  have qu:ad∈au:=aBD hs
  have hmem:b∈Zo sh (b % sh) seq:=bz.mpr ⟨hb,rfl⟩
  refine ⟨_,rfl,.inl ⟨rfl,_,aB.of had⟩,_,rfl,ad,_,b,rfl,rfl,had,hmem,?_⟩
  have ll:((Zo sh (b % sh) seq).erase b).length<=900:=a28 List.length_erase_le (a28 (aMW ..) hsl)
  refine ⟨_,rfl,.inl ⟨rfl,_,aB.of Za⟩,_,rfl,ad,_,_,rfl,rfl,Za,ZA (by rw [aK1]; lia),?_⟩
  rw [IJ]
  have e1:(((Zo sh (b % sh) seq).erase b).map V.int++[V.int b])=((Zo sh (b % sh) seq).erase b++[b]).map V.int:=by rw [aIV]; rfl
  have S2:oQ (upd H1 ad (.lst (((Zo sh (b % sh) seq).erase b++[b]).map V.int))) ls au sh (seq.erase b++[b]):=by
   refine R1.st.put hs ?_ λs' hs'=>?_
   .rw [BB,abw es.symm,BF,es]
   .rw [BB,aM3 (by lia),BF]
    exact adJ λm=>hs' (by have:=(bz.mp m).2; lia)
  have np:p≠ad:=λz=>o2 (z ▸ qu)
  have Gd:du≠ad:=λz=>o5 (z ▸ qu)
  obtain ⟨Gk,g2,g3,g4⟩:=R1.dc
  have Mq:∀ x,x∈seq.erase b++[b]↔x∈seq:=λx=>by
   rw [mem_append,mem_singleton,aKD R.nd]
   constructor
   .rintro (⟨_,m⟩ | rfl)
    .exact m
    .exact hb
   .intro m
    by_cases z:x=b
    .exact .inr z
    .exact .inl ⟨z,m⟩
  rw [e1]
  refine k _ ⟨⟨iD,by rw [Zc np]; exact g1⟩,S2,⟨Gk,by rw [Zc Gd]; exact g2,g3,λx=>?_⟩,?_,R.s0,R.s1⟩ λx o e n1 n2=>?_
  .rw [g4 x]
   by_cases m:x∈seq
   .rw [abw m,abw ((Mq x).mpr m)]
   .rw [aM3 m,aM3 (λz=>m ((Mq x).mp z))]
  .refine A9 (R.nd.erase b) λm=>((aKD R.nd).mp m).1 rfl
  .rw [Zc (λz:x=ad=>n2 (z ▸ qu))]
   exact s1 _ _ e n1 n2
 .have c':¬ ru = "old" := λz=>c (by rw [z])
  rw [aM3 c'] at k
  exact k _ R1 s1
end
def cV (seq:List Int):Option Int->List Int
 | none=>seq
 | some g=>seq.erase g
def gD (ru:Str) (us:Int->Int) (pl:Int) (ms:List Int) (gone:Option Int):Prop :=
 ((ms.length:Int)<pl->gone=none)/\(¬ (ms.length:Int)<pl->∃ (g:Int) (rest:List Int),gone=some g/\(g :: rest).Perm ms/\(ru = "few" -> (g :: rest).Pairwise (tM us ms))/\(ru ≠ "few" -> g :: rest=ms))
theorem lQ {seq:List Int} {g:Option Int}:(cV seq g).Sublist seq:=by
 cases g with
 | none=>exact List.Sublist.refl _
 | some g=>exact List.erase_sublist
section
def Nf (K:W.Frag):Sp:=λvs H Q _=>∃ (p dx:Addr) (sh pl:Int) (ru:Str),vs=[.ref p,.int sh,.int pl,.str ru]/\H p=some (.ins (aa K "Room") dx [])/\1<=sh/\sh<=64 /\
 ∀ (ls:Addr) (au:List Addr) (du:Addr) (H':Hp),aE K H' p sh pl ru ls au du [] (λ_=>0) 0->H ls=none->H du=none->(∀ ad∈au,H ad=none)->(∀ b o,H b=some o->b≠p->H' b=some o)->Q .aT H'
theorem ZhL (F:aY K "__init__" "Room.__init__" Ei f fd) (T:Txt K mg):av P w K mg base aV 1 f fd J3 (Nf K):=by
 refine F.ok ie (λvs H Q E h=>?_) (λcdv A outer st H vs Q E hr h=>?_)
 .obtain ⟨p,dx,sh,pl,ru,rfl,_⟩:=h
  rfl
 obtain ⟨p,dx,sh,pl,ru,rfl,hp,hs0,hs1,k⟩:=h
 have nd:=ie.nd
 refine ⟨_,(Zf (k6 (pv 0) (pv 1) rfl)
   (Zf (k6 (pv 0) (pv 2) rfl)
   (Zf (k6 (pv 0) (pv 3) rfl)
   (Zf (k6 (pv 0) (uS (ZL (iZ:=(Zh Ei)) (oN:=f6) (N:=["number"]) (own:=1) (js:=[]) (by decide +kernel) rfl rfl) rfl (tE rfl T.lE (pc (pv 1) Zb)) (λ_ _ _ _ _ _=>(bZ 0 (show List.Nodup (["number"]:List Str) by decide +kernel))) (λ_ _ _ _ _ _=>(j8 Zb))) rfl)
   (Zi (k6 (pv 0) Bg rfl)))))),?_⟩
 refine ⟨_,rfl,_,rfl,p,_,dx,_,rfl,hp,T.gf,T.L8,(by show 0<1000; decide),?_⟩
 refine ⟨_,rfl,_,rfl,p,_,dx,_,rfl,Za,T.gf,T.L7,(by show 1<1000; decide),?_⟩
 refine ⟨_,rfl,_,rfl,p,_,dx,_,rfl,Za,T.gf,T.Gz,(by show 2<1000; decide),?_⟩
 have e3:upd (upd (upd H p (.ins (aa K "Room") dx (ai "shelves" (.int sh) []))) p (.ins (aa K "Room") dx (ai "places" (.int pl) (ai "shelves" (.int sh) [])))) p (.ins (aa K "Room") dx (ai "rule" (.str ru) (ai "places" (.int pl) (ai "shelves" (.int sh) [])))) p=some (.ins (aa K "Room") dx (ai "rule" (.str ru) (ai "places" (.int pl) (ai "shelves" (.int sh) [])))):=Za
 have o3:∀ b o,H b=some o->b≠p->upd (upd (upd H p (.ins (aa K "Room") dx (ai "shelves" (.int sh) []))) p (.ins (aa K "Room") dx (ai "places" (.int pl) (ai "shelves" (.int sh) [])))) p (.ins (aa K "Room") dx (ai "rule" (.str ru) (ai "places" (.int pl) (ai "shelves" (.int sh) [])))) b=some o:=λb o e n=>by rw [Zc n,Zc n,Zc n]; exact e
 generalize upd (upd (upd H p (.ins (aa K "Room") dx (ai "shelves" (.int sh) []))) p (.ins (aa K "Room") dx (ai "places" (.int pl) (ai "shelves" (.int sh) [])))) p (.ins (aa K "Room") dx (ai "rule" (.str ru) (ai "places" (.int pl) (ai "shelves" (.int sh) []))))=H3 at *
 have f3:∀ b,H3 b=none->H b=none:=λb e=>by
  cases q:H b with
  | none=>rfl
  | some o =>
   by_cases z:b=p
   .rw [z,e3] at e; cases e
   .rw [o3 b o q z] at e; cases e
 refine ⟨_,rfl,sh,rfl,by lia,by lia,λls hls=>?_⟩
 refine wL (lo:=0) (n:=sh.toNat) (l:=ls) (λj ys σ G=>∃ (v0:Option V) (au:List Addr),σ=[v0]/\ys=au.map V.ref/\au.length=j/\au.Nodup/\ls∉au/\G ls=some (.lst ys)/\(∀ ad∈au,H3 ad=none/\G ad=some (.lst []))/\az H3 G)
  ⟨none,[],rfl,rfl,rfl,nodup_nil,by simp,Za,by simp,Zd hls _⟩ ?_ ?_
 .rintro j ys σ G hj hy ⟨v0,au,rfl,rfl,hlen,hnd,hoff,g1,g2,s1⟩
  refine ⟨(sl 0),λq hq=>?_⟩
  have nq:ls≠q:=Ze g1 hq
  have LR:q∉au:=λm=>by rw [(g2 q m).2] at hq; cases hq
  refine jR.of (a28 (by lia:sh.toNat<=64) (by decide)) hj hy (by rw [Zc nq]; exact g1) ⟨_,au++[q],rfl,by rw [aIV]; rfl,by rw [aCv,hlen]; rfl,A9 hnd LR,?_,Za,λad m=>?_,?_⟩
  .intro m
   rcases a1m.mp m with m | m
   .exact hoff m
   .exact nq (by simpa using m)
  .rcases a1m.mp m with m | m
   .rw [Zc (λz:ad=ls=>hoff (z ▸ m)),Zc (λz:ad=q=>LR (z ▸ m))]
    exact g2 ad m
   .have e:ad=q:=by simpa using m
    subst e
    rw [Zc (a4v nq)]
    exact ⟨s1.free hq,Za⟩
  .intro e o y
   rw [Zc (Ze y hls),Zc (Ze (s1 _ _ y) hq)]
   exact s1 _ _ y
 rintro ys σ G hy ⟨v0,au,rfl,rfl,hlen,hnd,hoff,g1,g2,s1⟩
 have gp:=s1 _ _ e3
 refine ⟨_,rfl,p,_,dx,_,rfl,gp,T.gf,T.Ma,(by show 3<1000; decide),?_⟩
 intro du sF
 have Ga:ls≠p:=λz=>by rw [z,e3] at hls; cases hls
 have LY:∀ ad∈au,ad≠p:=λad m z=>by have q:=(g2 ad m).1; rw [z,e3] at q; cases q
 have xH:p≠du:=Ze (Za (H:=G) (a:=p) (o:=.ins (aa K "Room") dx (ai "standing" (.ref ls) (ai "rule" (.str ru) (ai "places" (.int pl) (ai "shelves" (.int sh) [])))))) sF
 have gl:ls≠du:=λz=>by rw [← z,Zc Ga,g1] at sF; cases sF
 have ga:du∉au:=λm=>by rw [Zc (a4v xH),(g2 du m).2] at sF; cases sF
 refine ⟨_,rfl,p,_,dx,_,rfl,(by rw [Zc xH]; exact Za),T.gf,T.uW,(by show 4<1000; decide),?_⟩
 have Au:H3 du=none:=by
  rw [Zc (a4v xH)] at sF
  exact s1.free sF
 refine k ls au du _ ⟨⟨dx,Za⟩,⟨?_,hlen,hnd,hoff,λi ad e=>?_⟩,⟨[],?_,⟨aEt _,KI.nil⟩,λb=>by simp [aO]⟩,nodup_nil,hs0,hs1⟩ (f3 _ hls) (f3 _ Au) (λad m=>f3 _ (g2 ad m).1) λb o e n=>?_
 .rw [Zc Ga,Zc gl,Zc Ga]
  exact g1
 .have m:=aBD e
  rw [Zc (LY ad m),Zc (λz:ad=du=>ga (z ▸ m)),Zc (LY ad m)]
  exact (g2 ad m).2
 .rw [Zc (a4v xH)]
  exact Za
 .have q:=s1 _ _ (o3 b o e n)
  have nb:b≠du:=λz=>by
   rw [← z,Zc n,q] at sF
   cases sF
  rw [Zc n,Zc nb,Zc n]
  exact q
def zero (us:Int->Int) (b:Int):Int->Int:=λx=>if x=b then 0 else us x
def N4 (K:W.Frag):Sp:=λvs H Q _=>∃ (p:Addr) (b sh pl:Int) (ru:Str) (ls:Addr) (au:List Addr) (du:Addr) (seq:List Int) (us:Int->Int) (n:Nat),vs=[.ref p,.int b]/\aE K H p sh pl ru ls au du seq us n/\Tb K H/\n<=900/\b∉seq/\1<=pl/\(Zo sh (b % sh) seq).length<64 /\
 ∀ (gone:Option Int) (H':Hp),gD ru us pl (Zo sh (b % sh) seq) gone->aE K H' p sh pl ru ls au du (cV seq gone++[b]) (zero us b) (n+1)->SR au du H H'->Q (ql gone) H'
def JD (K:W.Frag):Sp:=λvs H Q _=>∃ (p:Addr) (b sh pl:Int) (ru:Str) (ls:Addr) (au:List Addr) (du:Addr) (seq:List Int) (us:Int->Int) (n:Nat),vs=[.ref p,.int b]/\aE K H p sh pl ru ls au du seq us n/\Tb K H/\1<=pl/\(Zo sh (b % sh) seq).length<64 /\
 ∀ (gone:Option Int) (H':Hp),gD ru us pl (Zo sh (b % sh) seq) gone->az H H'->Q (ql gone) H'
theorem ZdD (F:aY K "leaver_for" "Room.leaver_for" Lp f fd) (T:Txt K mg) (pJ:ay P w K mg base (aa K "Room") "mates" 2 yz (A7 K)) (E2:ay P w K mg base (aa K "Room") "going" 2 BH (Iq K)):av P w K mg base aV 3 f fd EB (JD K):=by
 refine F.ok cG (λvs H Q E h=>?_) (λcdv A outer st H vs Q E hr h=>?_)
 .obtain ⟨p,b,sh,pl,ru,ls,au,du,seq,us,n,rfl,_⟩:=h
  rfl
 obtain ⟨p,b,sh,pl,ru,ls,au,du,seq,us,n,rfl,R,tb,hpl,h64,k⟩:=h
 have nd:=cG.nd
 have hu:=bT hr
 refine ⟨_,(Zf (cI 2 nd (Zk pJ hr.m T.gf (pv 0) (pc (pv 1) Zb)))
   (Zf (aI (Zy jY (Zn (Zx (K:=K) rfl) rfl T.nJ aoN (pc (pv 2) Zb)) (Zl (K:=K) rfl (pv 0) rfl) (Zz _)) (Zi (Zu WZ)) Zv)
   (Zi (Zu (ao (Zr (K:=K) rfl) (Zk E2 hr.m T.gf (pv 0) (pc (pv 2) Zb)) Zj (λ_ _=>rfl)))))),?_⟩
 obtain ⟨dx,h1⟩:=R.ob
 refine ⟨_,rfl,p,dx,_,rfl,h1,bQ ..,_,rfl,p,b,sh,pl,ru,ls,au,du,seq,us,n,rfl,R,λs ad es hs had=>?_⟩
 have hnd:(Zo sh (b % sh) seq).Nodup:=R.nd.sublist List.filter_sublist
 refine ⟨_,rfl,ad,_,rfl,.inl (aB.of had),_,rfl,p,_,dx,_,_,rfl,h1,T.gf,T.L7,Ys ..,_,_,rfl,rfl,_,rfl,?_⟩
 rw [aK1]
 refine pq (λc=>?_) (λc=>?_)
 .exact k none H ⟨λ_=>rfl,λz=>absurd z (by lia)⟩ (az.refl _)
 .refine ⟨_,rfl,p,dx,_,rfl,h1,bQ ..,_,rfl,p,ad,Zo sh (b % sh) seq,sh,pl,ru,ls,au,du,seq,us,n,rfl,R,tb,had,h64,hnd,(λx m=>(bz.mp m).1),λD H' os hD sm hl po s1 s2=>?_⟩
  have lo:=po.length_eq
  match os,hl,po,s1,s2,lo with
  | [],_,_,_,_,lo=>exact absurd lo (by simp; lia)
  | g :: rest,hl,po,s1,s2,lo =>
   refine ⟨D,_,_,_,rfl,rfl,aB.of hl,cK,?_⟩
   exact k (some g) H' ⟨λz=>absurd c (by lia),λ_=>⟨g,rest,rfl,po,s1,s2⟩⟩ sm
theorem ZgB (F:aY K "bring" "Room.bring" KG f fd) (T:Txt K mg) (sf:ay P w K mg base (aa K "Room") "has" 1 BC (nR K)) (xr:ay P w K mg base (aa K "Room") "leaver_for" 3 EB (JD K)) (pJ:ay P w K mg base (aa K "Room") "mates" 2 yz (A7 K)) (wY:ay P w K mg base (aa K "Room") "drop" 3 Eh (HQ K)):av P w K mg base aV 4 f fd KD (N4 K):=by
 refine F.ok gz (λvs H Q E h=>?_) (λcdv A outer st H vs Q E hr h=>?_)
 .obtain ⟨p,b,sh,pl,ru,ls,au,du,seq,us,n,rfl,_⟩:=h
  rfl
 obtain ⟨p,b,sh,pl,ru,ls,au,du,seq,us,n,rfl,R,tb,hn,hb,hpl,h64,k⟩:=h
 have nd:=gz.nd
 have hu:=bT hr
 refine ⟨_,(Zf (aI (jJ (Zk sf hr.m T.gf (pv 0) (pc (pv 1) Zb))) (Zi qg) Zv)
   (Zf (cI 2 nd (Zk xr hr.m T.gf (pv 0) (pc (pv 1) Zb)))
   (Zf (aI (DB (OV (pv 2))) (Zi (Zp (Zk wY hr.m T.gf (pv 0) (pc (pv 2) Zb)))) Zv)
   (Zf (Zp (uM (K:=K) rfl (iQ apM aE9 aAu wJ (Zk pJ hr.m T.gf (pv 0) (pc (pv 1) Zb)) (pc (pv 1) Zb))))
   (Zf (Ba hu (Zl (K:=K) rfl (pv 0) rfl) (pv 1) Zj rfl)
   (Zi (Zu (pv 2)))))))),?_⟩
 obtain ⟨dx,h1⟩:=R.ob
 refine ⟨_,rfl,p,dx,_,rfl,h1,bQ ..,_,rfl,p,b,sh,pl,ru,ls,au,du,seq,us,n,rfl,R,?_⟩
 rw [a0j hb]
 refine ⟨_,rfl,cF rfl ?_⟩
 refine ⟨_,rfl,p,dx,_,rfl,h1,bQ ..,_,rfl,p,b,sh,pl,ru,ls,au,du,seq,us,n,rfl,R,tb,hpl,h64,λgone H1 gp sm=>?_⟩
 refine gN ?_
 dsimp only
 have R0:=R.same sm
 have hnd:(Zo sh (b % sh) seq).Nodup:=R.nd.sublist List.filter_sublist
 refine x9 (λσ G=>σ=[some (.ref p),some (.int b),some (ql gone)]/\aE K G p sh pl ru ls au du (cV seq gone) us n/\SR au du H G) (λD' _ k'=>?_) ?_
 .match gone,gp with
  | none,gp=>exact ⟨_,rfl,_,rfl,cF rfl (k' _ _ ⟨rfl,R0,SR.of sm⟩)⟩
  | some g,gp =>
   have hg:g∈Zo sh (b % sh) seq:=by
    by_cases c:((Zo sh (b % sh) seq).length:Int)<pl
    .exact absurd (gp.1 c) (by simp)
    .obtain ⟨g',rest,e,po,_⟩:=gp.2 c
     injection e with e
     subst e
     exact po.mem_iff.mp aFv
   obtain ⟨wc,rF⟩:=R0.ob
   exact ⟨_,rfl,_,rfl,fk rfl ⟨_,rfl,p,wc,_,rfl,rF,bQ ..,_,rfl,p,g,sh,pl,ru,ls,au,du,seq,us,n,rfl,R0,(bz.mp hg).1,λH2 R2 s3=>k' _ _ ⟨rfl,R2,(SR.of sm).trans s3⟩⟩⟩
 rintro _ G ⟨rfl,R1,s1⟩
 obtain ⟨iD,g1⟩:=R1.ob
 obtain ⟨kvs,g2,g3,g4⟩:=R1.dc
 obtain ⟨o1,o2,o3,o4,o5,o6⟩:=R1.off
 refine ⟨_,rfl,p,iD,_,rfl,g1,bQ ..,_,rfl,p,b,sh,pl,ru,ls,au,du,cV seq gone,us,n,rfl,R1,λs ad es hs UQ=>?_⟩
 have qu:ad∈au:=aBD hs
 have Av:=R1.st.at_ s ad hs
 have ll:(Zo sh s (cV seq gone)).length<=64:=by
  have q:(Zo sh s (cV seq gone)).Sublist (Zo sh s seq):=List.Sublist.filter _ (lQ (g:=gone))
  have q2:=q.length_le
  rw [es] at q2 ⊢
  lia
 refine ⟨.inl ⟨rfl,_,aB.of Av⟩,_,rfl,ad,_,_,rfl,rfl,Av,ZA (by rw [aK1]; lia),?_⟩
 have nb:b∉cV seq gone:=λm=>hb (lQ.subset m)
 have e1:((Zo sh s (cV seq gone)).map V.int++[V.int b])=(Zo sh s (cV seq gone)++[b]).map V.int:=by rw [aIV]; rfl
 rw [e1]
 have S2:oQ (upd G ad (.lst ((Zo sh s (cV seq gone)++[b]).map V.int))) ls au sh (cV seq gone++[b]):=by
  refine R1.st.put hs ?_ λs' hs'=>?_
  .rw [BB,abw es.symm]
  .rw [BB,aM3 (by lia)]
 have np:p≠ad:=λz=>o2 (z ▸ qu)
 have Gd:du≠ad:=λz=>o5 (z ▸ qu)
 have C4:upd G ad (.lst ((Zo sh s (cV seq gone)++[b]).map V.int)) p=some (.ins (aa K "Room") iD (gR sh pl ru ls du)):=by rw [Zc np]; exact g1
 have UW:upd G ad (.lst ((Zo sh s (cV seq gone)++[b]).map V.int)) du=some (.dK kvs):=by rw [Zc Gd]; exact g2
 refine ⟨_,rfl,p,_,iD,_,_,rfl,C4,T.gf,T.uW,yo ..,_,rfl,du,_,rfl,jE.k (k:=Sum.inl b) UW (ZA (by lia)),?_⟩
 refine ⟨_,rfl,k gone _ gp ⟨⟨iD,by rw [Zc o1]; exact C4⟩,S2.other _ (a4v o3) o5,⟨_,Za,⟨a28 (By ..) (by have:=g3.1; lia),g3.2.put b _⟩,λx=>?_⟩,A9 R1.nd nb,R.s0,R.s1⟩ λx o e n1 n2=>?_⟩
 .rw [yv]
  unfold zero
  by_cases c:x=b
  .subst c
   rw [abw rfl,abw (a9C _ (arG.mpr rfl)),abw rfl]
  .rw [aM3 (λz=>c (aDr z)),g4 x,aM3 c]
   by_cases m:x∈cV seq gone
   .rw [abw m,abw (aKJ _ m)]
   .rw [aM3 m,aM3 (λz=>(a1m.mp z).elim m λq=>c (arG.mp q))]
 .rw [Zc n1,Zc (λz:x=ad=>n2 (z ▸ qu))]
  exact s1 _ _ e n1 n2
end
theorem ye:∀ {a b:List Int},a.Nodup->(∀ x∈a,x∈b)->a.length<=b.length
 | [],_,_,_=>aUM _
 | x :: a,b,nd,h=>by
  have CI:=aDH.mp nd
  have mx:=h x aFv
  have q:=ye (b:=b.erase x) CI.2 λy hy=>(mem_erase_of_ne (λz:y=x=>CI.1 (by rw [← z]; exact hy))).mpr (h y (aHO _ hy))
  rw [List.length_erase_of_mem mx] at q
  have:=List.length_pos_of_mem mx
  show a.length+1<=b.length
  lia
theorem N3 {kvs:List (Key×V)} {seq:List Int} (h:KI kvs) (nd:seq.Nodup) (e:∀ b,(aO kvs (Sum.inl b:Key)).isSome=true↔b∈seq):kvs.length=seq.length:=by
 obtain ⟨ks,h4,h5⟩:=h
 have per:ks.Perm seq:=by
  refine (an7 h5 nd).mpr λb=>?_
  rw [← e b,tu,h4,mem_map]
  constructor
  .intro m
   exact ⟨b,m,rfl⟩
  .rintro ⟨x,hx,q⟩
   rw [← aDr q]; exact hx
 have l:=aok List.length h4
 rw [aK1,aK1] at l
 rw [l,per.length_eq]
theorem aE.norm {K:W.Frag} {H:Hp} {p:Addr} {sh pl:Int} {ru:Str} {ls:Addr} {au:List Addr} {du:Addr} {seq:List Int} {us:Int->Int} {n:Nat} (R:aE K H p sh pl ru ls au du seq us n):aE K H p sh pl ru ls au du seq us seq.length:=by
 obtain ⟨kvs,h2,⟨h3,h5⟩,h4⟩:=R.dc
 refine ⟨R.ob,R.st,⟨kvs,h2,⟨Nat.le_of_eq (N3 h5 R.nd λb=>?_),h5⟩,h4⟩,R.nd,R.s0,R.s1⟩
 rw [h4 b]
 by_cases c:b∈seq
 .simp [c]
 .simp [c]
structure SA where
 sp:Addr
 rp:Addr
 ls:Addr
 au:List Addr
 du:Addr
 dh:Addr
 df:Addr
structure Cf where
 sh:Int
 pl:Int
 ru:Str
 late:Bool
def bK (rp:Addr) (late:Bool) (dh df:Addr):List (Str×V):=ai "fresh" (.ref df) (ai "held" (.ref dh) (ai "late" (.bl late) (ai "room" (.ref rp) [])))
theorem JC (rp:Addr) (late:Bool) (dh df:Addr):(bK rp late dh df).lookup ("fresh" : Str)=some (.ref df):=by
 unfold bK; rw [Zg,abw rfl]
theorem DU (rp:Addr) (late:Bool) (dh df:Addr):(bK rp late dh df).lookup ("held" : Str)=some (.ref dh):=by
 unfold bK; rw [Zg,aM3 (by decide +kernel),Zg,abw rfl]
theorem N2 (rp:Addr) (late:Bool) (dh df:Addr):(bK rp late dh df).lookup ("late" : Str)=some (.bl late):=by
 unfold bK; rw [Zg,aM3 (by decide +kernel),Zg,aM3 (by decide +kernel),Zg,abw rfl]
theorem wD (rp:Addr) (late:Bool) (dh df:Addr):(bK rp late dh df).lookup ("room" : Str)=some (.ref rp):=by
 unfold bK; rw [Zg,aM3 (by decide +kernel),Zg,aM3 (by decide +kernel),Zg,aM3 (by decide +kernel),Zg,abw rfl]
theorem dz (rp:Addr) (late:Bool) (dh df:Addr) {m:Str} (h1:¬ m = "fresh" := by decide +kernel) (h2:¬ m = "held" := by decide +kernel) (h3:¬ m = "late" := by decide +kernel) (h4:¬ m = "room" := by decide +kernel):(bK rp late dh df).lookup m=none:=by
 unfold bK
 rw [Zg,aM3 h1,Zg,aM3 h2,Zg,aM3 h3,Zg,aM3 h4]
 rfl
structure Rm where
 seq:List Int
 us:Int->Int
 wd:Int->List Int
 fr:Int->Bool
def Mt:HO->Prop
 | .lst _=>True
 | .dK _=>True
 | .ins _ _ _=>True
 | _=>False
structure bV (O:Addr->Prop) (H H':Hp) (O':Addr->Prop):Prop where
 kp:∀ x o,H x=some o->(O x->¬ Mt o)->H' x=some o
 fr:∀ x,O' x->O x\/H x=none
theorem bV.trans {O O1 O2:Addr->Prop} {H H1 H2:Hp} (a:bV O H H1 O1) (b:bV O1 H1 H2 O2):bV O H H2 O2:=by
 refine ⟨λx o e n=>b.kp x o (a.kp x o e n) λh=>(a.fr x h).elim n (λz=>by rw [e] at z; cases z),λx h=>(b.fr x h).elim (a.fr x) λz=>?_⟩
 by_cases c:O x
 .exact .inl c
 .cases q:H x with
  | none=>exact .inr rfl
  | some o=>rw [a.kp x o q λh=>absurd h c] at z; cases z
theorem bV.same {O:Addr->Prop} {H H':Hp} (s:az H H'):bV O H H' O:=⟨λx o e _=>s x o e,λ_ h=>.inl h⟩
theorem aE.frame {K:W.Frag} {H H':Hp} {p:Addr} {sh pl:Int} {ru:Str} {ls:Addr} {au:List Addr} {du:Addr} {seq:List Int} {us:Int->Int} {n:Nat} (R:aE K H p sh pl ru ls au du seq us n) (h:∀ x o,x=p\/x=ls\/x∈au\/x=du->H x=some o->H' x=some o):aE K H' p sh pl ru ls au du seq us n:=by
 obtain ⟨dx,h1⟩:=R.ob
 obtain ⟨kvs,h2,h3⟩:=R.dc
 exact ⟨⟨dx,h _ _ (.inl rfl) h1⟩,⟨h _ _ (.inr (.inl rfl)) R.st.top,R.st.len,R.st.nd,R.st.off,λi ad e=>h _ _ (.inr (.inr (.inl (aBD e)))) (R.st.at_ i ad e)⟩,⟨kvs,h _ _ (.inr (.inr (.inr rfl))) h2,h3⟩,R.nd,R.s0,R.s1⟩
structure bO (H:Hp) (dh ls:Addr) (au:List Addr) (O:Addr->Prop) (seq:List Int) (wd:Int->List Int) (kvs:List (Key×V)) (wl:Int->Addr):Prop where
 dc:H dh=some (.dK kvs)
 ki:KI kvs
 v:∀ b,aO kvs (Sum.inl b:Key)=if b∈seq then some (.ref (wl b)) else none
 at_:∀ b∈seq,H (wl b)=some (.lst ((wd b).map V.int))/\O (wl b)/\wl b∉au/\wl b≠ls
 inj:∀ b∈seq,∀ c∈seq,wl b=wl c->b=c
structure gE (K:W.Frag) (H:Hp) (a:SA) (c:Cf) (seq:List Int) (us:Int->Int) (O:Addr->Prop):Prop where
 ob:∃ dx,H a.sp=some (.ins (aa K "Store") dx (bK a.rp c.late a.dh a.df))
 room:aE K H a.rp c.sh c.pl c.ru a.ls a.au a.du seq us seq.length
 d1:∃ kvs,H a.dh=some (.dK kvs)
 d2:∃ kvs,H a.df=some (.dK kvs)
 n1:a.du≠a.dh
 n2:a.df≠a.dh
 n3:a.df≠a.du
 own:∀ x,x=a.sp\/x=a.rp\/x=a.ls\/x∈a.au\/x=a.du\/x=a.dh\/x=a.df->O x
 ex:∀ x,O x->H x≠none
structure aA (K:W.Frag) (H:Hp) (a:SA) (c:Cf) (s:Rm) (O:Addr->Prop):Prop where
 aZ:gE K H a c s.seq s.us O
 held:∃ kvs wl,bO H a.dh a.ls a.au O s.seq s.wd kvs wl
 fresh:∃ kvs,H a.df=some (.dK kvs)/\KI kvs/\∀ b,aO kvs (Sum.inl b:Key)=if s.fr b=true then some (.bl true) else none
 sN:∀ b,s.fr b=true->b∈s.seq
section
variable {K:W.Frag} {H H':Hp} {a:SA} {c:Cf} {s:Rm} {O O':Addr->Prop} {kvs:List (Key×V)} {wl:Int->Addr} {seq:List Int} {us:Int->Int}
theorem bO.frame {dh ls:Addr} {au:List Addr} {wd:Int->List Int} (h:bO H dh ls au O seq wd kvs wl) (hO:O dh) (f:∀ x o,O x->H x=some o->H' x=some o):bO H' dh ls au O seq wd kvs wl :=
 ⟨f _ _ hO h.dc,h.ki,h.v,λb m=>⟨f _ _ (h.at_ b m).2.1 (h.at_ b m).1,(h.at_ b m).2⟩,h.inj⟩
theorem uC {x:Addr} (h:H x≠none) (f:∀ o,H x=some o->H' x=some o):H' x≠none:=λz=>by
 cases q:H x with
 | none=>exact h q
 | some o=>rw [f o q] at z; cases z
theorem HP {x y:Addr} {o:HO} (h:H x≠none):upd H y o x≠none:=by
 by_cases z:x=y
 .rw [z,Za]; simp
 .rw [Zc z]; exact h
theorem gE.frame (S:gE K H a c seq us O) (f:∀ x o,O x->H x=some o->H' x=some o):gE K H' a c seq us O:=by
 obtain ⟨dx,h1⟩:=S.ob
 obtain ⟨k1,h2⟩:=S.d1
 obtain ⟨k2,h3⟩:=S.d2
 exact ⟨⟨dx,f _ _ (S.own _ (by simp)) h1⟩,S.room.frame λx o m e=>f x o (S.own x (by rcases m with m | m | m | m <;> simp [m])) e,⟨k1,f _ _ (S.own _ (by simp)) h2⟩,⟨k2,f _ _ (S.own _ (by simp)) h3⟩,S.n1,S.n2,S.n3,S.own,λx h=>uC (S.ex x h) λo=>f x o h⟩
theorem aA.frame (S:aA K H a c s O) (f:∀ x o,O x->H x=some o->H' x=some o):aA K H' a c s O:=by
 obtain ⟨kvs,wl,h2⟩:=S.held
 obtain ⟨kf,h3,h4⟩:=S.fresh
 exact ⟨S.aZ.frame f,⟨kvs,wl,h2.frame (S.aZ.own _ (by simp)) f⟩,⟨kf,f _ _ (S.aZ.own _ (by simp)) h3,h4⟩,S.sN⟩
theorem aA.same (S:aA K H a c s O) (h:az H H'):aA K H' a c s O:=S.frame λx o _ e=>h x o e
theorem gE.same (S:gE K H a c seq us O) (h:az H H'):gE K H' a c seq us O:=S.frame λx o _ e=>h x o e
theorem gE.kinds (S:gE K H a c seq us O) {x:Addr} {kvs:List (Key×V)} (h:H x=some (.dK kvs)):x≠a.sp/\x≠a.rp/\x≠a.ls/\x∉a.au:=by
 obtain ⟨dx,h1⟩:=S.ob
 obtain ⟨dr,h2⟩:=S.room.ob
 refine ⟨λz=>?_,λz=>?_,λz=>?_,λm=>?_⟩
 .rw [← z,h] at h1; cases h1
 .rw [← z,h] at h2; cases h2
 .have q:=S.room.st.top; rw [← z,h] at q; cases q
 .obtain ⟨xs,e⟩:=S.room.st.one m; rw [h] at e; cases e
theorem gE.put (S:gE K H a c seq us O) {x:Addr} (hx:x=a.dh\/x=a.df) (kvs:List (Key×V)):gE K (upd H x (.dK kvs)) a c seq us O:=by
 obtain ⟨kx,ex⟩:∃ kx,H x=some (.dK kx):=hx.elim (λz=>z ▸ S.d1) λz=>z ▸ S.d2
 obtain ⟨q1,q2,q3,q4⟩:=S.kinds ex
 have nu:x≠a.du:=hx.elim (λz=>z ▸ a4v S.n1) λz=>z ▸ S.n3
 obtain ⟨dx,h1⟩:=S.ob
 have dd:∀ {y},(∃ k,H y=some (.dK k))->∃ k,upd H x (.dK kvs) y=some (.dK k):=λ{y} h=>by
  by_cases z:y=x
  .rw [z,Za]; exact ⟨_,rfl⟩
  .rw [Zc z]; exact h
 exact ⟨⟨dx,by rw [Zc (a4v q1)]; exact h1⟩,S.room.frame λy o m e=>by
  rw [Zc (λz:y=x=>by subst z; exact m.elim q2 λm=>m.elim q3 λm=>m.elim q4 nu)]; exact e,dd S.d1,dd S.d2,S.n1,S.n2,S.n3,S.own,λy h=>HP (S.ex y h)⟩
theorem gE.mono (S:gE K H a c seq us O) (h1:∀ x,x=a.sp\/x=a.rp\/x=a.ls\/x∈a.au\/x=a.du\/x=a.dh\/x=a.df->O' x) (h2:∀ x,O' x->H x≠none):gE K H a c seq us O':=⟨S.ob,S.room,S.d1,S.d2,S.n1,S.n2,S.n3,h1,h2⟩
theorem gE.fm {seq':List Int} {us':Int->Int} {n:Nat} (S:gE K H a c seq us O) (R:aE K H' a.rp c.sh c.pl c.ru a.ls a.au a.du seq' us' n) (r:SR a.au a.du H H'):gE K H' a c seq' us' O:=by
 obtain ⟨dx,h1⟩:=S.ob
 obtain ⟨k1,h2⟩:=S.d1
 obtain ⟨k2,h3⟩:=S.d2
 refine ⟨⟨dx,r.keep S.room h1 (λ_ z=>by cases z) (λ_ z=>by cases z)⟩,R.norm,⟨k1,r _ _ h2 (a4v S.n1) (S.kinds h2).2.2.2⟩,⟨k2,r _ _ h3 S.n3 (S.kinds h3).2.2.2⟩,S.n1,S.n2,S.n3,S.own,λx h=>?_⟩
 by_cases z:x=a.du
 .obtain ⟨kv,e,_⟩:=R.dc
  rw [z,e]; simp
 .by_cases m:x∈a.au
  .obtain ⟨xs,e⟩:=R.st.one m
   rw [e]; simp
  .exact uC (S.ex x h) λo e=>r x o e z m
theorem gE.cI (S:gE K H a c seq us O) (r:SR a.au a.du H H'):bV O H H' O:=by
 refine ⟨λx o e n=>r x o e (λz=>?_) λm=>?_,λ_ h=>.inl h⟩
 .obtain ⟨kv,q,_⟩:=S.room.dc
  rw [z,q] at e
  cases e
  exact n (S.own x (by simp [z])) trivial
 .obtain ⟨xs,q⟩:=S.room.st.one m
  rw [q] at e
  cases e
  exact n (S.own x (by simp [m])) trivial
theorem gE.Aq {wd:Int->List Int} {seq':List Int} (S:gE K H a c seq us O) (h:bO H a.dh a.ls a.au O seq' wd kvs wl) (r:SR a.au a.du H H'):bO H' a.dh a.ls a.au O seq' wd kvs wl:=by
 obtain ⟨kr,g,_⟩:=S.room.dc
 exact ⟨r _ _ h.dc (a4v S.n1) (S.kinds h.dc).2.2.2,h.ki,h.v,λx m=>⟨r _ _ (h.at_ x m).1 (λz=>by have e:=(h.at_ x m).1; rw [z,g] at e; cases e) (h.at_ x m).2.2.1,(h.at_ x m).2⟩,h.inj⟩
theorem bO.seqs {dh ls:Addr} {au:List Addr} {seq':List Int} {wd:Int->List Int} (h:bO H dh ls au O seq wd kvs wl) (hs:∀ b,b∈seq'↔b∈seq):bO H dh ls au O seq' wd kvs wl :=
 ⟨h.dc,h.ki,λb=>by rw [h.v b]; exact ite_congr (propext (hs b).symm) (λ_=>rfl) λ_=>rfl,λb m=>h.at_ b ((hs b).mp m),λb m c m'=>h.inj b ((hs b).mp m) c ((hs c).mp m')⟩
theorem aA.fm {seq':List Int} {us':Int->Int} {n:Nat} (S:aA K H a c s O) (R:aE K H' a.rp c.sh c.pl c.ru a.ls a.au a.du seq' us' n) (r:SR a.au a.du H H') (hs:∀ b,b∈seq'↔b∈s.seq):aA K H' a c ⟨seq',us',s.wd,s.fr⟩ O:=by
 obtain ⟨kvs,wl,h2⟩:=S.held
 obtain ⟨kf,h3,h4⟩:=S.fresh
 exact ⟨S.aZ.fm R r,⟨kvs,wl,(S.aZ.Aq h2 r).seqs hs⟩,⟨kf,r _ _ h3 S.aZ.n3 (S.aZ.kinds h3).2.2.2,h4⟩,λb h=>(hs b).mpr (S.sN b h)⟩
theorem gE.sj (S:gE K H a c seq us O) {x:Addr} (hx:x=a.dh\/x=a.df) (kvs:List (Key×V)):bV O H (upd H x (.dK kvs)) O:=by
 refine ⟨λy o e n=>?_,λ_ h=>.inl h⟩
 rw [Zc (λz=>?_)]
 .exact e
 obtain ⟨kx,ex⟩:∃ kx,H x=some (.dK kx):=hx.elim (λz=>z ▸ S.d1) λz=>z ▸ S.d2
 rw [z,ex] at e
 cases e
 exact n (S.own y (by rw [z]; rcases hx with h | h <;> simp [h])) trivial
theorem bO.put {dh ls:Addr} {au:List Addr} {seq':List Int} {wd:Int->List Int} (h:bO H dh ls au O seq wd kvs wl) {b:Int} {l:Addr} (ws:List Int) (hl:H l=none) (ex:∀ x,O x->H x≠none) (na:∀ x∈au,H x≠none) (nl:H ls≠none) (hs:∀ x,x∈seq'↔x=b\/x∈seq) :
  bO (upd (upd H l (.lst (ws.map V.int))) dh (.dK (putK kvs (Sum.inl b) (.ref l)))) dh ls au (λx=>O x\/x=l) seq' (λx=>if x=b then ws else wd x) (putK kvs (Sum.inl b) (.ref l)) (λx=>if x=b then l else wl x):=by
 have nd:l≠dh:=λz=>by rw [z,h.dc] at hl; cases hl
 have nw:∀ x∈seq,wl x≠l:=λx m z=>by have q:=(h.at_ x m).1; rw [z,hl] at q; cases q
 have md:∀ x,x∈seq'->x≠b->x∈seq:=λx m n=>((hs x).mp m).resolve_left n
 refine ⟨Za,h.ki.put b _,λx=>?_,λx m=>?_,λx m y m' e=>?_⟩
 .rw [yv]
  by_cases z:x=b
  .rw [abw (by rw [z]),abw ((hs x).mpr (.inl z)),abw z]
  .rw [aM3 (λq=>z (aDr q)),h.v x,aM3 z]
   exact ite_congr (propext ⟨λm=>(hs x).mpr (.inr m),λm=>md x m z⟩) (λ_=>rfl) λ_=>rfl
 .by_cases z:x=b
  .rw [abw z,abw z,Zc nd,Za]
   exact ⟨rfl,.inr rfl,λm=>na l m hl,λq=>nl (q ▸ hl)⟩
  .rw [aM3 z,aM3 z]
   obtain ⟨e1,e2,e3,e4⟩:=h.at_ x (md x m z)
   exact ⟨by rw [Zc (λq=>by rw [q,h.dc] at e1; cases e1),Zc (nw x (md x m z))]; exact e1,.inl e2,e3,e4⟩
 .by_cases z:x=b
  .by_cases z':y=b
   .rw [z,z']
   .rw [abw z,aM3 z'] at e
    exact absurd e.symm (nw y (md y m' z'))
  .by_cases z':y=b
   .rw [aM3 z,abw z'] at e
    exact absurd e (nw x (md x m z))
   .rw [aM3 z,aM3 z'] at e
    exact h.inj x (md x m z) y (md y m' z') e
theorem aA.jO (S:aA K H a c s O) (h:bO H a.dh a.ls a.au O s.seq s.wd kvs wl):kvs.length=s.seq.length:=by
 refine N3 h.ki S.aZ.room.nd λb=>?_
 rw [h.v b]
 by_cases m:b∈s.seq
 .simp [m]
 .simp [m]
theorem aA.UZ {kf:List (Key×V)} (S:aA K H a c s O) (h:KI kf) (v:∀ b,aO kf (Sum.inl b:Key)=if s.fr b=true then some (.bl true) else none):kf.length<=s.seq.length:=by
 obtain ⟨ks,e,nd⟩:=h
 have l:=aok List.length e
 rw [aK1,aK1] at l
 rw [l]
 refine ye nd λb m=>S.sN b ?_
 have q:=tu (kvs:=kf) (Sum.inl b)
 rw [v b,e] at q
 have:=q.mpr (ad2 m)
 by_cases z:s.fr b=true
 .exact z
 .rw [aM3 z] at this; cases this
end
section
variable {K:W.Frag} {H H':Hp} {a:SA} {c:Cf} {s:Rm} {O O':Addr->Prop} {kvs:List (Key×V)} {wl:Int->Addr} {seq:List Int} {us:Int->Int}
theorem gE.laid {wd:Int->List Int} {zc seq':List Int} {b:Int} {l:Addr} (S:gE K H a c seq us O) (h:bO H a.dh a.ls a.au O zc wd kvs wl) (ws:List Int) (hl:H l=none) (hs:∀ x,x∈seq'↔x=b\/x∈zc) :
  (gE K (upd (upd H l (.lst (ws.map V.int))) a.dh (.dK (putK kvs (Sum.inl b) (.ref l)))) a c seq us (λx=>O x\/x=l)/\bO (upd (upd H l (.lst (ws.map V.int))) a.dh (.dK (putK kvs (Sum.inl b) (.ref l)))) a.dh a.ls a.au (λx=>O x\/x=l) seq' (λx=>if x=b then ws else wd x) (putK kvs (Sum.inl b) (.ref l)) (λx=>if x=b then l else wl x)) /\
   bV O H (upd (upd H l (.lst (ws.map V.int))) a.dh (.dK (putK kvs (Sum.inl b) (.ref l)))) (λx=>O x\/x=l):=by
 have sm:=Zd hl (.lst (ws.map V.int))
 have S1:=S.same sm
 refine ⟨⟨((S1.put (x:=a.dh) (.inl rfl) _).mono (λx m=>.inl (S.own x m)) λx m=>HP ?_),h.put ws hl S.ex (λx m=>S.ex x (S.own x (by simp [m]))) (S.ex _ (S.own _ (by simp))) hs⟩,?_⟩
 .rcases m with m | m
  .exact S1.ex x m
  .rw [m,Za]; simp
 .have p:=(bV.same sm).trans (S1.sj (x:=a.dh) (.inl rfl) (putK kvs (Sum.inl b) (.ref l)))
  exact ⟨p.kp,λx m=>m.elim .inl λz=>.inr (by rw [z]; exact hl)⟩
theorem bO.pop {wd:Int->List Int} {b:Int} (h:bO H a.dh a.ls a.au O seq wd kvs wl) (nn:seq.Nodup) (hb:b∈seq) (S:gE K H a c (seq.erase b) us O):bO (upd H a.dh (.dK (aW kvs (Sum.inl b)))) a.dh a.ls a.au (λx=>O x/\x≠wl b) (seq.erase b) wd (aW kvs (Sum.inl b)) wl:=by
 have mm:∀ {x},x∈seq.erase b->x≠b/\x∈seq:=λ{x} m=>(aKD nn).mp m
 refine ⟨Za,h.ki.drop b,λx=>?_,λx m=>?_,λx m y m'=>h.inj x (mm m).2 y (mm m').2⟩
 .rw [D4]
  by_cases z:x=b
  .rw [abw (by rw [z]),aM3 (λm=>(mm m).1 z)]
  .rw [aM3 (λq=>z (aDr q)),h.v x]
   exact ite_congr (propext ⟨λm=>(aKD nn).mpr ⟨z,m⟩,λm=>(mm m).2⟩) (λ_=>rfl) λ_=>rfl
 .obtain ⟨e1,e2,e3,e4⟩:=h.at_ x (mm m).2
  exact ⟨by rw [Zc (λz=>by rw [z,h.dc] at e1; cases e1)]; exact e1,⟨e2,λz=>(mm m).1 (h.inj x (mm m).2 b hb z)⟩,e3,e4⟩
end
section
def mj:Rm:=⟨[],λ_=>0,λ_=>[],λ_=>false⟩
def N1 (K:W.Frag):Sp:=λvs H Q _=>∃ (p dx tp:Addr) (sh pl:Int) (ru wr:Str),vs=[.ref p,.ref tp]/\H p=some (.ins (aa K "Store") dx [])/\aK K H tp [.int sh,.int pl,.str ru,.str wr]/\1<=sh/\sh<=64 /\
 ∀ (a:SA) (H':Hp),a.sp=p->aA K H' a ⟨sh,pl,ru,decide (wr = "late")⟩ mj (λx=>x=p\/(H x=none/\H' x≠none))->(∀ b o,H b=some o->b≠p->H' b=some o)->Q .aT H'
theorem ZgE (F:aY K "__init__" "Store.__init__" KA f fd) (T:Txt K mg) (GJ:nG P w K mg base (aa K "Room") "Room" 1 J3 (Nf K)):av P w K mg base aV 3 f fd Kz (N1 K):=by
 refine F.ok gr (λvs H Q E h=>?_) (λcdv A outer st H vs Q E hr h=>?_)
 .obtain ⟨p,dx,tp,sh,pl,ru,wr,rfl,_⟩:=h
  rfl
 obtain ⟨p,dx,tp,sh,pl,ru,wr,rfl,hp,htp,s0,s1,k⟩:=h
 have nd:=gr.nd
 refine ⟨_,(Zf (mH (pv 1) (mJ (K:=K) (n:=4) rfl rfl (Zt (bZ 2 nd) (Zt (bZ 3 nd) (Zt (bZ 4 nd) (Zt (bZ 5 nd) mK))))))
   (Zf (k6 (pv 0) (Be GJ hr.m rfl (pc (pv 2) (pc (pv 3) (pc (pv 4) Zb)))) rfl)
   (Zf (k6 (pv 0) (oK aU (pv 5) ZM (Zz _)) rfl)
   (Zf (k6 (pv 0) Bg rfl)
   (Zi (k6 (pv 0) Bg rfl)))))),?_⟩
 refine ⟨_,rfl,tp,_,rfl,htp,rfl,_,_,rfl,gN ⟨_,_,rfl,gN ⟨_,_,rfl,gN ⟨_,_,rfl,gN ⟨rfl,?_⟩⟩⟩⟩⟩
 try dsimp only
 refine ⟨_,rfl,_,rfl,_,rfl,λrp rx Am Mi nrx=>⟨rp,rx,sh,pl,ru,rfl,Za,s0,s1,λls au du H1 R1 f1 f2 f3 k1=>⟨rfl,?_⟩⟩⟩
 have Tz:p≠rp:=Ze hp Am
 have L6:∀ x o,H x=some o->H1 x=some o:=λx o e=>k1 x o (by rw [Zc (Ze e Am),Zc (Ze e Mi)]; exact e) (Ze e Am)
 have fr:∀ x,upd (upd H rx (.own rp)) rp (.ins (aa K "Room") rx []) x=none->H x=none:=λx e=>by
  cases q:H x with
  | none=>rfl
  | some o=>rw [Zc (Ze q Am),Zc (Ze q Mi),q] at e; cases e
 have f1:=fr _ f1
 have f2:=fr _ f2
 have f3:∀ ad∈au,H ad=none:=λad m=>fr _ (f3 ad m)
 have h1:=L6 _ _ hp
 refine ⟨_,rfl,p,_,dx,_,rfl,h1,T.gg,T.uc,(by show 0<1000; decide),?_⟩
 obtain ⟨o1,o2,o3,o4,o5,o6⟩:=R1.off
 have q1:p≠ls:=λz=>by rw [z,R1.st.top] at h1; cases h1
 have q2:p≠du:=λz=>by obtain ⟨kv,g,_⟩:=R1.dc; rw [z,g] at h1; cases h1
 have q3:p∉au:=λz=>by obtain ⟨xs,g⟩:=R1.st.one z; rw [g] at h1; cases h1
 have put:∀ {G:Hp} {o:HO},aE K G rp sh pl ru ls au du [] (λ_=>0) 0->aE K (upd G p o) rp sh pl ru ls au du [] (λ_=>0) 0:=λ{G o} R=>by
  obtain ⟨wc,e1⟩:=R.ob
  obtain ⟨kv,e2,e3⟩:=R.dc
  exact ⟨⟨wc,by rw [Zc (a4v Tz)]; exact e1⟩,R.st.other o q1 q3,⟨kv,by rw [Zc (a4v q2)]; exact e2,e3⟩,R.nd,R.s0,R.s1⟩
 have R2:=put (o:=.ins (aa K "Store") dx (ai "room" (.ref rp) [])) R1
 have e2:upd H1 p (.ins (aa K "Store") dx (ai "room" (.ref rp) [])) p=some (.ins (aa K "Store") dx (ai "room" (.ref rp) [])):=Za
 have k2:∀ x o,H x=some o->x≠p->upd H1 p (.ins (aa K "Store") dx (ai "room" (.ref rp) [])) x=some o:=λx o e n=>by rw [Zc n]; exact L6 x o e
 generalize upd H1 p (.ins (aa K "Store") dx (ai "room" (.ref rp) []))=H2 at *
 refine ⟨_,rfl,rfl,_,rfl,p,_,dx,_,rfl,e2,T.gg,T.E3,(by show 1<1000; decide),?_⟩
 have el:decide (V.str wr=V.str "late")=decide (wr = "late"):=decide_eq_decide.mpr ⟨λe=>by injection e,λe=>by rw [e]⟩
 rw [el]
 have R3:=put (o:=.ins (aa K "Store") dx (ai "late" (.bl (decide (wr = "late"))) (ai "room" (.ref rp) []))) R2
 have e3:upd H2 p (.ins (aa K "Store") dx (ai "late" (.bl (decide (wr = "late"))) (ai "room" (.ref rp) []))) p=some (.ins (aa K "Store") dx (ai "late" (.bl (decide (wr = "late"))) (ai "room" (.ref rp) []))):=Za
 have k3:∀ x o,H x=some o->x≠p->upd H2 p (.ins (aa K "Store") dx (ai "late" (.bl (decide (wr = "late"))) (ai "room" (.ref rp) []))) x=some o:=λx o e n=>by rw [Zc n]; exact k2 x o e n
 generalize upd H2 p (.ins (aa K "Store") dx (ai "late" (.bl (decide (wr = "late"))) (ai "room" (.ref rp) [])))=H3 at *
 refine λdh xX=>?_
 have nh:p≠dh:=Ze e3 xX
 refine ⟨_,rfl,p,_,dx,_,rfl,(by rw [Zc nh]; exact e3),T.gg,T.yG,(by show 2<1000; decide),?_⟩
 have R4:=put (o:=.ins (aa K "Store") dx (ai "held" (.ref dh) (ai "late" (.bl (decide (wr = "late"))) (ai "room" (.ref rp) [])))) (R3.same (Zd xX (.dK [])))
 have e4:upd (upd H3 dh (.dK [])) p (.ins (aa K "Store") dx (ai "held" (.ref dh) (ai "late" (.bl (decide (wr = "late"))) (ai "room" (.ref rp) [])))) p=some (.ins (aa K "Store") dx (ai "held" (.ref dh) (ai "late" (.bl (decide (wr = "late"))) (ai "room" (.ref rp) [])))):=Za
 have d4:upd (upd H3 dh (.dK [])) p (.ins (aa K "Store") dx (ai "held" (.ref dh) (ai "late" (.bl (decide (wr = "late"))) (ai "room" (.ref rp) [])))) dh=some (.dK []):=by rw [Zc (a4v nh)]; exact Za
 have MO:H dh=none:=by
  cases q:H dh with
  | none=>rfl
  | some o=>rw [k3 dh o q (a4v nh)] at xX; cases xX
 have k4:∀ x o,H x=some o->x≠p->upd (upd H3 dh (.dK [])) p (.ins (aa K "Store") dx (ai "held" (.ref dh) (ai "late" (.bl (decide (wr = "late"))) (ai "room" (.ref rp) [])))) x=some o:=λx o e n=>by rw [Zc n,Zc (λz:x=dh=>by rw [z,MO] at e; cases e)]; exact k3 x o e n
 generalize upd (upd H3 dh (.dK [])) p (.ins (aa K "Store") dx (ai "held" (.ref dh) (ai "late" (.bl (decide (wr = "late"))) (ai "room" (.ref rp) []))))=H4 at *
 refine λdf hdf=>?_
 have nf:p≠df:=Ze e4 hdf
 refine ⟨_,rfl,p,_,dx,_,rfl,(by rw [Zc nf]; exact e4),T.gg,T.Cj,(by show 3<1000; decide),?_⟩
 have MP:H df=none:=by
  cases q:H df with
  | none=>rfl
  | some o=>rw [k4 df o q (a4v nf)] at hdf; cases hdf
 have LS:dh≠df:=λz=>by rw [← z,d4] at hdf; cases hdf
 obtain ⟨kv,g,_⟩:=R3.dc
 obtain ⟨kv4,g4,_⟩:=R4.dc
 have R5:=put (o:=.ins (aa K "Store") dx (bK rp (decide (wr = "late")) dh df)) (R4.same (Zd hdf (.dK [])))
 have e5:upd (upd H4 df (.dK [])) p (.ins (aa K "Store") dx (bK rp (decide (wr = "late")) dh df)) p=some (.ins (aa K "Store") dx (bK rp (decide (wr = "late")) dh df)):=Za
 have d5:upd (upd H4 df (.dK [])) p (.ins (aa K "Store") dx (bK rp (decide (wr = "late")) dh df)) dh=some (.dK []):=by rw [Zc (a4v nh),Zc LS]; exact d4
 have f5:upd (upd H4 df (.dK [])) p (.ins (aa K "Store") dx (bK rp (decide (wr = "late")) dh df)) df=some (.dK []):=by rw [Zc (a4v nf)]; exact Za
 have k5:∀ x o,H x=some o->x≠p->upd (upd H4 df (.dK [])) p (.ins (aa K "Store") dx (bK rp (decide (wr = "late")) dh df)) x=some o:=λx o e n=>by rw [Zc n,Zc (λz:x=df=>by rw [z,MP] at e; cases e)]; exact k4 x o e n
 change Q .aT (upd (upd H4 df (.dK [])) p (.ins (aa K "Store") dx (bK rp (decide (wr = "late")) dh df)))
 generalize upd (upd H4 df (.dK [])) p (.ins (aa K "Store") dx (bK rp (decide (wr = "late")) dh df))=H5 at *
 refine k ⟨p,rp,ls,au,du,dh,df⟩ _ rfl ⟨⟨⟨dx,e5⟩,R5,⟨_,d5⟩,⟨_,f5⟩,λz=>?_,a4v LS,λz=>?_,λx hx=>?_,λx hx=>?_⟩,⟨[],λ_=>p,d5,KI.nil,λ_=>rfl,(λb m=>absurd m (by simp [mj])),λb m=>absurd m (by simp [mj])⟩,⟨[],f5,KI.nil,λ_=>rfl⟩,λb h=>by cases h⟩ k5
 .have z:du=dh:=z
  rw [← z,g] at xX; cases xX
 .have z:df=du:=z
  rw [z,g4] at hdf; cases hdf
 .obtain ⟨dr5,r5⟩:=R5.ob
  obtain ⟨ku5,u5,_⟩:=R5.dc
  rcases hx with rfl | rfl | rfl | hx | rfl | rfl | rfl
  .exact .inl rfl
  .exact .inr ⟨Am,by rw [r5]; simp⟩
  .exact .inr ⟨f1,by rw [R5.st.top]; simp⟩
  .obtain ⟨xs,q⟩:=R5.st.one hx
   exact .inr ⟨f3 x hx,by rw [q]; simp⟩
  .exact .inr ⟨f2,by rw [u5]; simp⟩
  .exact .inr ⟨MO,by rw [d5]; simp⟩
  .exact .inr ⟨MP,by rw [f5]; simp⟩
 .rcases hx with rfl | hx
  .rw [e5]; simp
  .exact hx.2
end
section
def Dp (K:W.Frag):Sp:=λvs H Q _=>∃ (a:SA) (c:Cf) (s:Rm) (O:Addr->Prop) (b:Int),vs=[.ref a.sp,.int b]/\aA K H a c s O/\Q (.bl (decide (b∈s.seq))) H
theorem ZhM (F:aY K "has" "Store.has" JY f fd) (T:Txt K mg) (sf:ay P w K mg base (aa K "Room") "has" 1 BC (nR K)):av P w K mg base aV 2 f fd Bv (Dp K):=by
 refine F.ok g6 (λvs H Q E h=>?_) (λcdv A outer st H vs Q E hr h=>?_)
 .obtain ⟨a,c,s,O,b,rfl,_⟩:=h
  rfl
 obtain ⟨a,c,s,O,b,rfl,S,k⟩:=h
 have nd:=g6.nd
 refine ⟨_,(Zi (Zu (Zk sf hr.m T.gf (Zl (K:=K) rfl (pv 0) rfl) (pc (pv 1) Zb)))),?_⟩
 obtain ⟨dx,h1⟩:=S.aZ.ob
 obtain ⟨dr,h2⟩:=S.aZ.room.ob
 exact ⟨_,rfl,a.sp,_,dx,_,_,rfl,h1,T.gg,T.uc,wD ..,a.rp,dr,_,rfl,h2,bQ ..,_,rfl,a.rp,b,c.sh,c.pl,c.ru,a.ls,a.au,a.du,s.seq,s.us,_,rfl,S.aZ.room,k⟩
def pW (K:W.Frag):Sp:=λvs H Q _=>∃ (p dx rp dh df:Addr) (late:Bool) (kvs:List (Key×V)) (b:Int) (lw:Addr) (zs:List V),vs=[.ref p,.int b,.ref lw]/\H p=some (.ins (aa K "Store") dx (bK rp late dh df))/\H dh=some (.dK kvs)/\kvs.length<=900/\H lw=some (.lst zs) /\
 ∀ l,H l=none->Q .aT (upd (upd H l (.lst zs)) dh (.dK (putK kvs (Sum.inl b) (.ref l))))
theorem ZhN (F:aY K "lay" "Store.lay" JX f fd) (T:Txt K mg):av P w K mg base aV 1 f fd Eg (pW K):=by
 refine F.ok gZ (λvs H Q E h=>?_) (λcdv A outer st H vs Q E hr h=>?_)
 .obtain ⟨p,dx,rp,dh,df,late,kvs,b,lw,zs,rfl,_⟩:=h
  rfl
 obtain ⟨p,dx,rp,dh,df,late,kvs,b,lw,zs,rfl,hp,hd,hl,hw,k⟩:=h
 have nd:=gZ.nd
 have hu:=bT hr
 refine ⟨_,(Zi (Ba hu (Zl (K:=K) rfl (pv 0) rfl) (pv 1) (tF (Et (K:=K) rfl) rfl T.pT ZZ (pc (pv 2) Zb)) rfl)),?_⟩
 refine ⟨_,rfl,lw,_,rfl,.inl (aB.of hw),λl hl'=>?_⟩
 have s1:=Zd hl' (.lst zs)
 exact ⟨_,rfl,p,_,dx,_,_,rfl,s1 _ _ hp,T.gg,T.yG,DU ..,_,rfl,dh,_,rfl,jE.k (k:=Sum.inl b) (s1 _ _ hd) (ZA (by lia)),k l hl'⟩
def vJ (s:Rm) (b:Int) (ws:List Int):Rm:=⟨s.seq++[b],zero s.us b,λx=>if x=b then ws else s.wd x,s.fr⟩
def jm (s:Rm) (b:Int):Rm:=⟨s.seq.erase b,s.us,s.wd,λx=>if x=b then false else s.fr x⟩
def fP (s:Rm) (b:Int) (ws:List Int):Rm:=⟨s.seq,s.us,λx=>if x=b then ws else s.wd x,s.fr⟩
def vV (s:Rm) (b:Int):Rm:=⟨s.seq,s.us,s.wd,λx=>if x=b then true else s.fr x⟩
def Po (K:W.Frag):Sp:=λvs H Q _=>∃ (a:SA) (c:Cf) (s:Rm) (O:Addr->Prop) (b:Int) (lw:Addr) (ws:List Int),vs=[.ref a.sp,.int b,.ref lw]/\aA K H a c s O/\Tb K H/\H lw=some (.lst (ws.map V.int))/\¬ O lw/\b∉s.seq/\s.seq.length<=800/\1<=c.pl/\c.pl<=16/\((Zo c.sh (b % c.sh) s.seq).length:Int)<c.pl /\
 ∀ H' O',aA K H' a c (vJ s b ws) O'->bV O H H' O'->Q .aT H'
theorem Zeu (F:aY K "take_in" "Store.take_in" KP f fd) (T:Txt K mg) (E1:ay P w K mg base (aa K "Room") "bring" 4 KD (N4 K)) (wX:ay P w K mg base (aa K "Store") "lay" 1 Eg (pW K)):av P w K mg base aV 5 f fd KO (Po K):=by
 refine F.ok dD (λvs H Q E h=>?_) (λcdv A outer st H vs Q E hr h=>?_)
 .obtain ⟨a,c,s,O,b,lw,ws,rfl,_⟩:=h
  rfl
 obtain ⟨a,c,s,O,b,lw,ws,rfl,S,tb,jH,hO,hb,hsl,hpl,Uu,hsh,k⟩:=h
 have nd:=dD.nd
 refine ⟨_,(Zf (Zp (Zk E1 hr.m T.gf (Zl (K:=K) rfl (pv 0) rfl) (pc (pv 1) Zb)))
   (Zi (Zp (Zk wX hr.m T.gg (pv 0) (pc (pv 1) (pc (pv 2) Zb)))))),?_⟩
 obtain ⟨dx,h1⟩:=S.aZ.ob
 obtain ⟨dr,h2⟩:=S.aZ.room.ob
 refine ⟨_,rfl,a.sp,_,dx,_,_,rfl,h1,T.gg,T.uc,wD ..,a.rp,dr,_,rfl,h2,bQ ..,_,rfl,a.rp,b,c.sh,c.pl,c.ru,a.ls,a.au,a.du,s.seq,s.us,_,rfl,S.aZ.room,tb,by lia,hb,hpl,by lia,λgone G gp R1 r1=>?_⟩
 obtain rfl:gone=none:=gp.1 hsh
 obtain ⟨kvs,wl,h3⟩:=S.held
 obtain ⟨kf,h4,h5⟩:=S.fresh
 have kl:=S.jO h3
 have p1:=S.aZ.cI r1
 have h3:=S.aZ.Aq h3 r1
 have h4:=r1 _ _ h4 S.aZ.n3 (S.aZ.kinds h4).2.2.2
 have S1:=S.aZ.fm R1 r1
 obtain ⟨dx,h1⟩:=S1.ob
 refine ⟨_,rfl,a.sp,dx,_,rfl,h1,dz ..,_,rfl,_,rfl,a.sp,dx,a.rp,a.dh,a.df,c.late,kvs,b,lw,_,rfl,h1,h3.dc,by lia,p1.kp _ _ jH (λh=>absurd h hO),λl hl=>?_⟩
 obtain ⟨S2,p2⟩:=S1.laid h3 ws hl (seq':=s.seq++[b]) (b:=b) (λx=>by rw [mem_append,mem_singleton]; exact Or.comm)
 exact k _ _ ⟨S2.1,⟨_,_,S2.2⟩,⟨kf,by rw [Zc S.aZ.n2]; exact Zd hl _ _ _ h4,h5⟩,λx h=>aKJ _ (S.sN x h)⟩ (p1.trans p2)
def Ql (K:W.Frag):Sp:=λvs H Q _=>∃ (a:SA) (c:Cf) (s:Rm) (O:Addr->Prop) (b:Int),vs=[.ref a.sp,.int b]/\aA K H a c s O/\b∈s.seq /\
 ∀ (t l:Addr) (H':Hp) (O':Addr->Prop),H' t=some (.tup [.ref l,.bl (s.fr b)])->H' l=some (.lst ((s.wd b).map V.int))->¬ O' l->aA K H' a c (jm s b) O'->bV O H H' O'->(O l\/H l=none)->Q (.ref t) H'
theorem ZdW (F:aY K "give_out" "Store.give_out" Ln f fd) (T:Txt K mg) (wY:ay P w K mg base (aa K "Room") "drop" 3 Eh (HQ K)):av P w K mg base aV 4 f fd Lm (Ql K):=by
 refine F.ok cR (λvs H Q E h=>?_) (λcdv A outer st H vs Q E hr h=>?_)
 .obtain ⟨a,c,s,O,b,rfl,_⟩:=h
  rfl
 obtain ⟨a,c,s,O,b,rfl,S,hb,k⟩:=h
 have nd:=cR.nd
 refine ⟨_,(Zf (Zp (Zk wY hr.m T.gf (Zl (K:=K) rfl (pv 0) rfl) (pc (pv 1) Zb)))
   (Zi (Zu (jI (pc (OZ (Zl (K:=K) rfl (pv 0) rfl) (pv 1) ⟨rfl,rfl,rfl,rfl⟩) (pc (OY (Zl (K:=K) rfl (pv 0) rfl) (pv 1) dM ⟨rfl,rfl,rfl,rfl⟩) Zb)))))),?_⟩
 obtain ⟨dx,h1⟩:=S.aZ.ob
 obtain ⟨dr,h2⟩:=S.aZ.room.ob
 refine ⟨_,rfl,a.sp,_,dx,_,_,rfl,h1,T.gg,T.uc,wD ..,a.rp,dr,_,rfl,h2,bQ ..,_,rfl,a.rp,b,c.sh,c.pl,c.ru,a.ls,a.au,a.du,s.seq,s.us,_,rfl,S.aZ.room,hb,λG R1 r1=>?_⟩
 obtain ⟨kvs,wl,h3⟩:=S.held
 obtain ⟨kf,h4,h5,h6⟩:=S.fresh
 have p1:=S.aZ.cI r1
 have h3:=S.aZ.Aq h3 r1
 have h4:=r1 _ _ h4 S.aZ.n3 (S.aZ.kinds h4).2.2.2
 have S1:=S.aZ.fm R1 r1
 obtain ⟨dx,h1⟩:=S1.ob
 have vb:=h3.v b
 rw [abw hb] at vb
 obtain ⟨w1,w2,w3,w4⟩:=h3.at_ b hb
 refine ⟨_,rfl,a.sp,_,dx,_,_,rfl,h1,T.gg,T.yG,DU ..,a.dh,rfl,.inl ⟨_,.inl h3.dc⟩,_,rfl,kvs,Sum.inl b,_,h3.dc,rfl,vb,?_⟩
 have nn:s.seq.Nodup:=S.aZ.room.nd
 have H3:=h3.pop nn hb S1
 have S2:=S1.put (x:=a.dh) (.inl rfl) (aW kvs (Sum.inl b))
 have p2:=p1.trans (S1.sj (x:=a.dh) (.inl rfl) (aW kvs (Sum.inl b)))
 have h4:upd G a.dh (.dK (aW kvs (Sum.inl b))) a.df=some (.dK kf):=by rw [Zc S.aZ.n2]; exact h4
 have w1:upd G a.dh (.dK (aW kvs (Sum.inl b))) (wl b)=some (.lst ((s.wd b).map V.int)):=by rw [Zc (λz=>by rw [z,h3.dc] at w1; cases w1)]; exact w1
 generalize upd G a.dh (.dK (aW kvs (Sum.inl b)))=G2 at *
 obtain ⟨dx,h1⟩:=S2.ob
 have fin:∀ (G3:Hp) (z9:List (Key×V)),gE K G3 a c (s.seq.erase b) s.us O->bV O H G3 O->bO G3 a.dh a.ls a.au (λx=>O x/\x≠wl b) (s.seq.erase b) s.wd (aW kvs (Sum.inl b)) wl->G3 a.df=some (.dK z9)->KI z9->(∀ x,aO z9 (Sum.inl x:Key)=if (jm s b).fr x=true then some (.bl true) else none)->G3 (wl b)=some (.lst ((s.wd b).map V.int)) ->
   2<=sizeLine/\∀ t,G3 t=none->Q (.ref t) (upd G3 t (.tup [.ref (wl b),.bl (s.fr b)])):=λG3 z9 S3 p3 h3' e1 e2 e3 e4=>by
  refine ⟨by decide,λt ht=>?_⟩
  have sm:=Zd ht (.tup [.ref (wl b),.bl (s.fr b)])
  have core:∀ x,x=a.sp\/x=a.rp\/x=a.ls\/x∈a.au\/x=a.du\/x=a.dh\/x=a.df->O x/\x≠wl b:=λx m=>⟨S3.own x m,λz=>by
   subst z
   rcases m with m | m | m | m | m | m | m
   .obtain ⟨d,q⟩:=S3.ob; rw [← m,e4] at q; cases q
   .obtain ⟨d,q⟩:=S3.room.ob; rw [← m,e4] at q; cases q
   .exact w4 m
   .exact w3 m
   .obtain ⟨d,q,_⟩:=S3.room.dc; rw [← m,e4] at q; cases q
   .obtain ⟨d,q⟩:=S3.d1; rw [← m,e4] at q; cases q
   .rw [← m,e4] at e1; cases e1⟩
  have S4:=(S3.mono core λx h=>S3.ex x h.1).same sm
  refine k t (wl b) _ (λx=>O x/\x≠wl b) Za (sm _ _ e4) (λh=>h.2 rfl) ⟨S4,⟨_,_,h3'.frame (core _ (by simp)) λx o _ e=>sm x o e⟩,⟨z9,sm _ _ e1,e2,e3⟩,λx h=>?_⟩ ⟨λx o e n=>sm _ _ (p3.kp x o e n),λx h=>.inl h.1⟩ (.inl w2)
  have h:(if x=b then false else s.fr x)=true:=h
  by_cases z:x=b
  .rw [abw z] at h; cases h
  .rw [aM3 z] at h
   exact (aKD nn).mpr ⟨z,S.sN x h⟩
 refine ⟨_,rfl,a.sp,_,dx,_,_,rfl,h1,T.gg,T.Cj,JC ..,a.df,rfl,.inl ⟨_,.inl h4⟩,_,rfl,kf,Sum.inl b,h4,rfl,λv hv=>?_,λhv=>?_⟩
 .have hf:s.fr b=true:=by
   by_cases z:s.fr b=true
   .exact z
   .rw [h6 b,aM3 z] at hv; cases hv
  rw [h6 b,abw hf] at hv
  cases hv
  have S3:=S2.put (x:=a.df) (.inr rfl) (aW kf (Sum.inl b))
  have fin:=fin _ (aW kf (Sum.inl b)) S3 (p2.trans (S2.sj (x:=a.df) (.inr rfl) _)) ⟨by rw [Zc (a4v S.aZ.n2)]; exact H3.dc,H3.ki,H3.v,λx m=>⟨by rw [Zc (λz=>by have q:=(H3.at_ x m).1; rw [z,h4] at q; cases q)]; exact (H3.at_ x m).1,(H3.at_ x m).2⟩,H3.inj⟩ Za (h5.drop b) (λx=>?_) (by rw [Zc (λz=>by rw [z,h4] at w1; cases w1)]; exact w1)
  .rw [hf] at fin
   exact fin
  .rw [D4]
   by_cases z:x=b
   .rw [abw (by rw [z])]
    unfold jm
    simp [z]
   .rw [aM3 (λq=>z (aDr q)),h6 x]
    unfold jm
    simp [z]
 .have hf:s.fr b=false:=by
   cases z:s.fr b with
   | false=>rfl
   | true=>rw [h6 b,abw z] at hv; cases hv
  have fin:=fin _ kf S2 p2 H3 h4 h5 (λx=>?_) w1
  .rw [hf] at fin
   exact fin
  .rw [h6 x]
   unfold jm
   by_cases z:x=b
   .simp [z,hf]
   .simp [z]
end
section
def Ed (K:W.Frag):Sp:=λvs H Q _=>∃ (a:SA) (c:Cf) (s:Rm) (O:Addr->Prop) (b:Int),vs=[.ref a.sp,.int b]/\aA K H a c s O/\b∈s.seq/\∀ l,H l=none->Q (.ref l) (upd H l (.lst ((s.wd b).map V.int)))
theorem ZdX (F:aY K "words_of" "Store.words_of" Ll f fd) (T:Txt K mg) (rZ:ay P w K mg base (aa K "Room") "need" 2 Bw (Dq K)):av P w K mg base aV 3 f fd ZS (Ed K):=by
 refine F.ok cO (λvs H Q E h=>?_) (λcdv A outer st H vs Q E hr h=>?_)
 .obtain ⟨a,c,s,O,b,rfl,_⟩:=h
  rfl
 obtain ⟨a,c,s,O,b,rfl,S,hb,k⟩:=h
 have nd:=cO.nd
 have hu:=bT hr
 refine ⟨_,(Zf (Zp (Zk rZ hr.m T.gf (Zl (K:=K) rfl (pv 0) rfl) (pc (pv 1) Zb)))
   (Zi (Zu (tF (Et (K:=K) rfl) rfl T.pT ZZ (pc (Bb hu (Zl (K:=K) rfl (pv 0) rfl) (pv 1) (λ_ _=>rfl)) Zb))))),?_⟩
 obtain ⟨dx,h1⟩:=S.aZ.ob
 obtain ⟨dr,h2⟩:=S.aZ.room.ob
 obtain ⟨kvs,wl,h3⟩:=S.held
 have vb:=h3.v b
 rw [abw hb] at vb
 refine ⟨_,rfl,a.sp,_,dx,_,_,rfl,h1,T.gg,T.uc,wD ..,a.rp,dr,_,rfl,h2,bQ ..,_,rfl,a.rp,b,c.sh,c.pl,c.ru,a.ls,a.au,a.du,s.seq,s.us,_,rfl,S.aZ.room,hb,?_⟩
 exact ⟨_,rfl,a.sp,_,dx,_,_,rfl,h1,T.gg,T.yG,DU ..,_,rfl,a.dh,_,rfl,(by have q:=eB.k (k:=Sum.inl b) h3.dc; rw [vb] at q; exact q),wl b,_,rfl,.inl (aB.of (h3.at_ b hb).1),k⟩
theorem aA.lay {H:Hp} {a:SA} {c:Cf} {s:Rm} {O:Addr->Prop} (S:aA K H a c s O) {b:Int} (hb:b∈s.seq) (ws:List Int) {Q:Hp->Prop} (k:∀ H' O',aA K H' a c (fP s b ws) O'->bV O H H' O'->Q H') :
  ∃ dx kvs,H a.sp=some (.ins (aa K "Store") dx (bK a.rp c.late a.dh a.df))/\H a.dh=some (.dK kvs)/\kvs.length=s.seq.length/\∀ l,H l=none->Q (upd (upd H l (.lst (ws.map V.int))) a.dh (.dK (putK kvs (Sum.inl b) (.ref l)))):=by
 obtain ⟨dx,h1⟩:=S.aZ.ob
 obtain ⟨kvs,wl,h3⟩:=S.held
 obtain ⟨kf,h4,h5⟩:=S.fresh
 refine ⟨dx,kvs,h1,h3.dc,S.jO h3,λl hl=>?_⟩
 obtain ⟨S2,p2⟩:=S.aZ.laid h3 ws hl (seq':=s.seq) (b:=b) (λx=>⟨.inr,λm=>m.elim (λz=>z ▸ hb) id⟩)
 exact k _ _ ⟨S2.1,⟨_,_,S2.2⟩,⟨kf,by rw [Zc S.aZ.n2]; exact Zd hl _ _ _ h4,h5⟩,S.sN⟩ p2
theorem gE.lst {H:Hp} {a:SA} {c:Cf} {seq:List Int} {us:Int->Int} {O:Addr->Prop} (S:gE K H a c seq us O) {l:Addr} {xs:List V} (hl:H l=some (.lst xs)) (n1:l≠a.ls) (n2:l∉a.au) (u:List V):gE K (upd H l (.lst u)) a c seq us O:=by
 obtain ⟨dx,h1⟩:=S.ob
 obtain ⟨dr,h2⟩:=S.room.ob
 obtain ⟨kr,h3,_⟩:=S.room.dc
 obtain ⟨k1,h4⟩:=S.d1
 obtain ⟨k2,h5⟩:=S.d2
 have ne:∀ {y o},H y=some o->(∀ xs,o≠.lst xs)->upd H l (.lst u) y=some o:=λ{y o} e n=>by rw [Zc (λz=>by rw [z,hl] at e; exact n xs (avM e).symm)]; exact e
 have R:aE K (upd H l (.lst u)) a.rp c.sh c.pl c.ru a.ls a.au a.du seq us seq.length:=S.room.frame λy o m e=>by
  rw [Zc (λz:y=l=>by
   subst z
   rcases m with m | m | m | m
   .rw [m,h2] at hl; cases hl
   .exact n1 m
   .exact n2 m
   .rw [m,h3] at hl; cases hl)]
  exact e
 exact ⟨⟨dx,ne h1 (λ_ z=>by cases z)⟩,R,⟨k1,ne h4 (λ_ z=>by cases z)⟩,⟨k2,ne h5 (λ_ z=>by cases z)⟩,S.n1,S.n2,S.n3,S.own,λy h=>HP (S.ex y h)⟩
def Qk (K:W.Frag):Sp:=λvs H Q _=>∃ (a:SA) (c:Cf) (s:Rm) (O:Addr->Prop) (b i x:Int),vs=[.ref a.sp,.int b,.int i,.int x]/\aA K H a c s O/\b∈s.seq/\0<=i/\i<(s.wd b).length/\∀ H',aA K H' a c (fP s b ((s.wd b).set i.toNat x)) O->bV O H H' O->Q .aT H'
theorem ZdY (F:aY K "lay_word" "Store.lay_word" Lj f fd) (T:Txt K mg):av P w K mg base aV 1 f fd Li (Qk K):=by
 refine F.ok cQ (λvs H Q E h=>?_) (λcdv A outer st H vs Q E hr h=>?_)
 .obtain ⟨a,c,s,O,b,i,x,rfl,_⟩:=h
  rfl
 obtain ⟨a,c,s,O,b,i,x,rfl,S,hb,i0,i1,k⟩:=h
 have nd:=cQ.nd
 have hu:=bT hr
 refine ⟨_,(Zi (mH (pv 3) (wA (Bb hu (Zl (K:=K) rfl (pv 0) rfl) (pv 1) (λ_ _=>rfl)) (pv 2) wH))),?_⟩
 obtain ⟨dx,h1⟩:=S.aZ.ob
 obtain ⟨kvs,wl,h3⟩:=S.held
 obtain ⟨kf,h4,h5⟩:=S.fresh
 have vb:=h3.v b
 rw [abw hb] at vb
 obtain ⟨w1,w2,w3,w4⟩:=h3.at_ b hb
 refine ⟨_,rfl,_,rfl,a.sp,_,dx,_,_,rfl,h1,T.gg,T.yG,DU ..,_,rfl,a.dh,_,rfl,(by have q:=eB.k (k:=Sum.inl b) h3.dc; rw [vb] at q; exact q),_,rfl,wl b,_,i,i.toNat,rfl,rfl,w1,?_,?_⟩
 .unfold pM
  rw [abw i0,abw (by rw [aK1]; exact i1)]
 .rw [← map_set]
  refine k _ ⟨S.aZ.lst w1 w4 w3 _,⟨kvs,wl,by rw [Zc (λz=>by rw [← z,h3.dc] at w1; cases w1)]; exact h3.dc,h3.ki,h3.v,λy m=>?_,h3.inj⟩,⟨kf,by rw [Zc (λz=>by rw [← z,h4] at w1; cases w1)]; exact h4,h5⟩,S.sN⟩ ⟨λy o e n=>?_,λ_ h=>.inl h⟩
  .show _=some (HO.lst ((if y=b then (s.wd b).set i.toNat x else s.wd y).map V.int))/\_
   by_cases z:y=b
   .rw [abw z,z,Za]
    exact ⟨rfl,w2,w3,w4⟩
   .obtain ⟨e1,e2⟩:=h3.at_ y m
    rw [aM3 z,Zc (λq=>z (h3.inj y m b hb q))]
    exact ⟨e1,e2⟩
  .rw [Zc (λz=>?_)]
   .exact e
   .rw [z,w1] at e
    cases e
    exact n (z ▸ w2) trivial
def JH (K:W.Frag):Sp:=λvs H Q _=>∃ (a:SA) (c:Cf) (s:Rm) (O:Addr->Prop) (b:Int),vs=[.ref a.sp,.int b]/\aA K H a c s O/\b∈s.seq/\s.seq.length<=800/\∀ H',aA K H' a c (vV s b) O->bV O H H' O->Q .aT H'
theorem Zev (F:aY K "freshen" "Store.freshen" KN f fd) (T:Txt K mg):av P w K mg base aV 1 f fd Ey (JH K):=by
 refine F.ok dF (λvs H Q E h=>?_) (λcdv A outer st H vs Q E hr h=>?_)
 .obtain ⟨a,c,s,O,b,rfl,_⟩:=h
  rfl
 obtain ⟨a,c,s,O,b,rfl,S,hb,hl,k⟩:=h
 have nd:=dF.nd
 have hu:=bT hr
 refine ⟨_,(Zi (Ba hu (Zl (K:=K) rfl (pv 0) rfl) (pv 1) dM rfl)),?_⟩
 obtain ⟨dx,h1⟩:=S.aZ.ob
 obtain ⟨kvs,wl,h3⟩:=S.held
 obtain ⟨kf,h4,h5,h6⟩:=S.fresh
 have fl:=S.UZ h5 h6
 refine ⟨_,rfl,a.sp,_,dx,_,_,rfl,h1,T.gg,T.Cj,JC ..,_,rfl,a.df,_,rfl,jE.k (k:=Sum.inl b) h4 (ZA (by lia)),?_⟩
 have S2:=S.aZ.put (x:=a.df) (.inr rfl) (putK kf (Sum.inl b) (.bl true))
 refine k _ ⟨S2,⟨kvs,wl,by rw [Zc (a4v S.aZ.n2)]; exact h3.dc,h3.ki,h3.v,λx m=>⟨by rw [Zc (λz=>by have q:=(h3.at_ x m).1; rw [z,h4] at q; cases q)]; exact (h3.at_ x m).1,(h3.at_ x m).2⟩,h3.inj⟩,⟨_,Za,h5.put b _,λx=>?_⟩,λx h=>?_⟩ (S.aZ.sj (x:=a.df) (.inr rfl) _)
 .rw [yv]
  show _=if (if x=b then true else s.fr x)=true then _ else _
  by_cases z:x=b
  .rw [abw (by rw [z]),abw z,abw rfl]
  .rw [aM3 (λq=>z (aDr q)),h6 x,aM3 z]
 .by_cases z:x=b
  .exact z ▸ hb
  .exact S.sN x ((aM3 z:(if x=b then true else s.fr x)=s.fr x).symm.trans h)
end
section
def A6:Sp:=λvs H Q _=>∃ s p:Int,vs=[.int s,.int p]/\0<s/\s<1073741824/\Q (.int (p / s)) H
theorem ZiB (F:aY K "board_of" "board_of" Ka f fd) (T:Txt K mg):av P w K mg base aV 1 f fd yw A6:=by
 refine F.ok iM (λvs H Q E h=>?_) (λcdv A outer s H vs Q E hr h=>?_)
 .obtain ⟨s,p,rfl,_⟩:=h
  rfl
 obtain ⟨s,p,rfl,h0,h1,k⟩:=h
 have nd:=iM.nd
 refine ⟨_,(Zi (Zu (ak uQ (pv 1) (pv 0)))),?_⟩
 exact ⟨_,rfl,_,rfl,_,_,rfl,rfl,⟨h0,h1⟩,k⟩
def gX (s b:Int):List V:=(List.range s.toNat).map λk=>V.int (b * s+(k:Nat))
def Jd:Sp:=λvs H Q _=>∃ s b:Int,vs=[.int s,.int b]/\0<s/\s<=1000/\0<=b/\b<=1000000/\∀ (r:Addr) (H':Hp),H r=none->az H H'->H' r=some (.lst (gX s b))->Q (.ref r) H'
theorem Wg {b s:Int} (h0:0<=b) (h1:b<=1000000) (s0:0<s) (s1:s<=1000):0<=b * s/\b * s<=1000000000:=by
 refine ⟨Int.mul_nonneg h0 (by lia),?_⟩
 exact arf (Int.mul_le_mul_of_nonneg_right h1 (by lia)) (Int.mul_le_mul_of_nonneg_left s1 (by decide))
theorem ZiD (F:aY K "spots_of" "spots_of" J9 f fd) (T:Txt K mg):av P w K mg base aV 1 f fd Ek Jd:=by
 refine F.ok iK (λvs H Q E h=>?_) (λcdv A outer s H vs Q E hr h=>?_)
 .obtain ⟨s,p,rfl,_⟩:=h
  rfl
 obtain ⟨s,b,rfl,s0,s1,b0,b1,k⟩:=h
 have nd:=iK.nd
 refine ⟨_,(Zf (cI 2 nd (ak o9 (pv 1) (pv 0)))
   (Zi (Zu (Zhp rfl rfl T.pT rfl T.lE (pc (pv 2) (pc (ak ZJ (pv 2) (pv 0)) Zb)))))),?_⟩
 obtain ⟨m0,m1⟩:=Wg b0 b1 s0 s1
 have e:(b * s+s - b * s).toNat=s.toNat:=by lia
 refine ⟨_,rfl,_,rfl,_,_,rfl,rfl,.inl ⟨by lia,by lia⟩,?_⟩
 refine ⟨_,rfl,_,rfl,_,rfl,_,_,rfl,rfl,_,_,rfl,⟨by lia,by lia,by lia,by lia⟩,?_⟩
 rw [e]
 refine ⟨a9L (ZA (by lia)),λp hp=>?_⟩
 exact k p _ hp (Zd hp _) Za
def jt (size:Int) (dk:Addr):List (Str×V):=ai "kept" (.ref dk) (ai "size" (.int size) [])
theorem DT (size:Int) (dk:Addr):(jt size dk).lookup ("kept" : Str)=some (.ref dk):=by
 unfold jt; rw [Zg,abw rfl]
theorem NZ (size:Int) (dk:Addr):(jt size dk).lookup ("size" : Str)=some (.int size):=by
 unfold jt; rw [Zg,aM3 (by decide +kernel),Zg,abw rfl]
theorem qt (size:Int) (dk:Addr) {m:Str} (h1:¬ m = "kept" := by decide +kernel) (h2:¬ m = "size" := by decide +kernel):(jt size dk).lookup m=none:=by
 unfold jt
 rw [Zg,aM3 h1,Zg,aM3 h2]
 rfl
structure dZ (K:W.Frag) (H:Hp) (bm dk:Addr) (size:Int) (mem:Int->Int) (U:List Int):Prop where
 ob:∃ dx,H bm=some (.ins (aa K "Memory") dx (jt size dk))
 kept:∃ kvs,H dk=some (.dK kvs)/\KI kvs/\∀ s,aO kvs (Sum.inl s:Key)=if mem s=0 then none else some (.int (mem s))
 sup:∀ s,mem s≠0->s / size∈U
theorem dZ.frame {H H':Hp} {bm dk:Addr} {size:Int} {mem:Int->Int} {U:List Int} (m:dZ K H bm dk size mem U) (f:∀ x o,x=bm\/x=dk->H x=some o->H' x=some o):dZ K H' bm dk size mem U:=by
 obtain ⟨dx,e⟩:=m.ob
 obtain ⟨kvs,e2,r⟩:=m.kept
 exact ⟨⟨dx,f _ _ (.inl rfl) e⟩,⟨kvs,f _ _ (.inr rfl) e2,r⟩,m.sup⟩
theorem NY {size:Int} {mem:Int->Int} {U:List Int} {kvs:List (Key×V)} (z0:0<size) (h:KI kvs) (v:∀ s,aO kvs (Sum.inl s:Key)=if mem s=0 then none else some (.int (mem s))) (sup:∀ s,mem s≠0->s / size∈U):kvs.length<=U.length * size.toNat:=by
 obtain ⟨ks,e,nd⟩:=h
 have l:=aok List.length e
 rw [aK1,aK1] at l
 rw [l]
 have q:=ye nd (b:=U.flatMap λb=>(List.range size.toNat).map λk=>b * size+(k:Nat)) λs m=>?_
 .refine a28 q (Nat.le_of_eq ?_)
  clear q sup
  induction U with
  | nil=>simp
  | cons x U ih=>rw [List.flatMap_cons,aCv,ih,aK1,aZ9,arz,Nat.succ_mul,Nat.add_comm]
 .have q:=tu (kvs:=kvs) (Sum.inl s)
  rw [v s,e] at q
  have hs:=q.mpr (ad2 m)
  have nz:mem s≠0:=λz=>by rw [abw z] at hs; cases hs
  rw [List.mem_flatMap]
  have m0:0<=s % size:=aI8 _ (by lia)
  have m1:s % size<size:=a2j _ (by lia)
  refine ⟨s / size,sup s nz,au8.mpr ⟨(s % size).toNat,ar3.mpr (by lia),?_⟩⟩
  have:=aQh s size
  rw [Int.toNat_of_nonneg m0,Int.mul_comm]
  exact this
def tX (K:W.Frag):Sp:=λvs H Q _=>∃ (p dx:Addr) (size:Int),vs=[.ref p,.int size]/\H p=some (.ins (aa K "Memory") dx []) /\
 ∀ (dk:Addr) (H':Hp),(∀ U,dZ K H' p dk size (λ_=>0) U)->H dk=none->(∀ b o,H b=some o->b≠p->H' b=some o)->Q .aT H'
theorem ZfE (F:aY K "__init__" "Memory.__init__" Ko f fd) (T:Txt K mg):av P w K mg base aV 1 f fd Kn (tX K):=by
 refine F.ok fN (λvs H Q E h=>?_) (λcdv A outer st H vs Q E hr h=>?_)
 .obtain ⟨p,dx,size,rfl,_⟩:=h
  rfl
 obtain ⟨p,dx,size,rfl,hp,k⟩:=h
 have nd:=fN.nd
 refine ⟨_,(Zf (k6 (pv 0) (pv 1) rfl)
   (Zi (k6 (pv 0) Bg rfl))),?_⟩
 refine ⟨_,rfl,_,rfl,p,_,dx,_,rfl,hp,T.qd,T.E8,(by show 0<1000; decide),λdk C3=>?_⟩
 have np:p≠dk:=Ze (Za (H:=H) (a:=p) (o:=.ins (aa K "Memory") dx (ai "size" (.int size) []))) C3
 refine ⟨_,rfl,p,_,dx,_,rfl,(by rw [Zc np]; exact Za),T.qd,T.yH,(by show 1<1000; decide),?_⟩
 rw [Zc (a4v np)] at C3
 refine k dk _ (λU=>⟨⟨dx,Za⟩,⟨[],by rw [Zc (a4v np)]; exact Za,KI.nil,λ_=>rfl⟩,λs h=>absurd rfl h⟩) C3 λx o e n=>?_
 rw [Zc n,Zc (Ze e C3),Zc n]
 exact e
def bg (size:Int) (mem:Int->Int) (b:Int):List Int:=(List.range size.toNat).map λk=>mem (b * size+(k:Nat))
def gQ (size:Int) (mem:Int->Int) (b:Int) (ws:List Int) (i:Nat):Int->Int:=λs=>if b * size<=s/\s<b * size+i then ws.getD (s - b * size).toNat 0 else mem s
def lR (size:Int) (mem:Int->Int) (b:Int) (ws:List Int):Int->Int:=gQ size mem b ws size.toNat
theorem Pn {s b:Int} {i:Nat} {x:V} (h:(gX s b)[i]?=some x):x=.int (b * s+(i:Nat))/\i<s.toNat:=by
 unfold gX at h
 rw [aBK] at h
 by_cases c:i<s.toNat
 .rw [aHk c] at h
  exact ⟨(avM h).symm,c⟩
 .rw [aaz (by rw [aZ9]; lia)] at h
  cases h
def Pk (K:W.Frag):Sp:=λvs H Q _=>∃ (bm dk:Addr) (size b:Int) (mem:Int->Int) (U:List Int),vs=[.ref bm,.int b]/\dZ K H bm dk size mem U/\0<size/\size<=1000/\0<=b/\b<=1000000/\∀ l H',H l=none->az H H'->H' l=some (.lst ((bg size mem b).map V.int))->Q (.ref l) H'
theorem ZdF (F:aY K "words_of" "Memory.words_of" EA f fd) (T:Txt K mg) (wW:Def P w K mg base "spots_of" 1 Ek Jd):av P w K mg base aV 2 f fd Lo (Pk K):=by
 refine F.ok cH (λvs H Q E h=>?_) (λcdv A outer st H vs Q E hr h=>?_)
 .obtain ⟨bm,dk,size,b,mem,U,rfl,_⟩:=h
  rfl
 obtain ⟨bm,dk,size,b,mem,U,rfl,M,z0,z1,b0,b1,k⟩:=h
 have nd:=cH.nd
 have hu:=bT hr
 refine ⟨_,(Zi (Zu (uS (ZL (iZ:=(Zh EA)) (oN:=bN) (N:=["spot", "self"]) (own:=1) (js:=[0]) (by decide +kernel) rfl rfl) rfl (Jr (K:=K) rfl (Zm wW hr.m rfl (pc (Zl (K:=K) rfl (pv 0) rfl) (pc (pv 1) Zb)))) (λ_ _ _ _ _ _=>(bZ 0 (show List.Nodup (["spot", "self"]:List Str) by decide +kernel))) (λ_ _ _ _ _ _=>(O0 hu (Zl (K:=K) rfl (pv 1) rfl) (pv 0) Zj ⟨rfl,rfl,rfl,rfl⟩))))),?_⟩
 obtain ⟨dx,h1⟩:=M.ob
 obtain ⟨kvs,h2,h3,h4⟩:=M.kept
 refine ⟨_,rfl,bm,_,dx,_,_,rfl,h1,T.qd,T.E8,NZ ..,_,rfl,size,b,rfl,z0,z1,b0,b1,λr H1 hr1 s1 e1=>⟨r,rfl,⟨_,aB.of e1⟩,λl hl=>?_⟩⟩
 have rF:=s1 _ _ h1
 have hk:=s1 _ _ h2
 have CK:(gX size b).length=size.toNat:=by unfold gX; rw [aK1,aZ9]
 refine JJ (K:=K) (a:=r) (xs:=gX size b) (l:=l) (λi ys σ' G'=>∃ v0:Option V,σ'=[v0,some (.ref bm)]/\ys=((List.range i).map λk=>mem (b * size+(k:Nat))).map V.int/\G'=upd H1 l (.lst ys)) ⟨none,rfl,rfl,rfl⟩ (λi ys σ' G' _ ⟨_,_,_,q⟩=>aB.of (by rw [q,Zc (Ze e1 hl)]; exact e1)) ?_ ?_
 .rintro i x ys σ' G' hi hxi hys ⟨v0,rfl,rfl,rfl⟩
  obtain ⟨rfl,_⟩:=Pn hxi
  have sl:=Zd hl (.lst (((List.range i).map λk=>mem (b * size+(k:Nat))).map V.int))
  have q:=eB.k (k:=Sum.inl (b * size+(i:Nat))) (sl _ _ hk)
  rw [h4] at q
  refine ⟨_,rfl,bm,_,dx,_,_,rfl,sl _ _ rF,T.qd,T.yH,DT ..,dk,rfl,.inl ⟨_,.inl (sl _ _ hk)⟩,_,rfl,_,q,?_⟩
  have eg:(if mem (b * size+(i:Nat))=0 then none else some (V.int (mem (b * size+(i:Nat))))).getD (V.int 0)=V.int (mem (b * size+(i:Nat))):=by
   by_cases c:mem (b * size+(i:Nat))=0
   .rw [abw c,c]; rfl
   .rw [aM3 c]; rfl
  rw [eg]
  exact jR.of (a9L (ZA (by lia))) hi hys Za ⟨_,rfl,by rw [List.range_succ,aIV,aIV]; rfl,IJ⟩
 .rintro ys σ' G' _ ⟨v0,rfl,rfl,rfl⟩
  rw [CK]
  exact k l _ (s1.free hl) (s1.trans (Zd hl _)) Za
def Nd (K:W.Frag):Sp:=λvs H Q _=>∃ (bm dk:Addr) (size b:Int) (mem:Int->Int) (U:List Int) (lw:Addr) (ws:List Int),vs=[.ref bm,.int b,.ref lw]/\dZ K H bm dk size mem U/\0<size/\size<=1000/\0<=b/\b<=1000000/\b∈U/\U.length<=800/\H lw=some (.lst (ws.map V.int))/\ws.length=size.toNat/\∀ H',dZ K H' bm dk size (lR size mem b ws) U->(∀ x o,H x=some o->x≠dk->H' x=some o)->Q .aT H'
theorem Yq {size:Int} {mem:Int->Int} {b:Int} {ws:List Int} {i:Nat} {x:Int} (h:ws[i]?=some x) (s:Int):gQ size mem b ws (i+1) s=if s=b * size+(i:Nat) then x else gQ size mem b ws i s:=by
 unfold gQ
 have gd:ws.getD i 0=x:=by rw [a9e,h]; rfl
 by_cases c:s=b * size+(i:Nat)
 .rw [abw c,abw (by lia)]
  have:(s - b * size).toNat=i:=by lia
  rw [this,gd]
 .rw [aM3 c]
  by_cases d:b * size<=s/\s<b * size+(i:Nat)
  .rw [abw d,abw (by lia)]
  .rw [aM3 d,aM3 (by lia)]
theorem ZkR {size b:Int} {i:Nat} (z0:0<size) (hi:i<size.toNat):(b * size+(i:Nat)) / size=b:=by
 rw [Int.add_comm,alT _ _ (by lia),azX (by lia) (by lia)]
 lia
theorem ZgG (F:aY K "lay" "Memory.lay" Ky f fd) (T:Txt K mg) (wW:Def P w K mg base "spots_of" 1 Ek Jd):av P w K mg base aV 2 f fd Kw (Nd K):=by
 refine F.ok gA (λvs H Q E h=>?_) (λcdv A outer st H vs Q E hr h=>?_)
 .obtain ⟨bm,dk,size,b,mem,U,lw,ws,rfl,_⟩:=h
  rfl
 obtain ⟨bm,dk,size,b,mem,U,lw,ws,rfl,M,z0,z1,b0,b1,bU,lU,jH,kL,k⟩:=h
 have nd:=gA.nd
 have hu:=bT hr
 refine ⟨_,(Zi (rJ aan rfl (WM rfl T.CQ (pc (Zm wW hr.m rfl (pc (Zl (K:=K) rfl (pv 0) rfl) (pc (pv 1) Zb))) (pc (pv 2) Zb))) (mJ (K:=K) (n:=2) rfl rfl (Zt (bZ 3 nd) (Zt (bZ 4 nd) mK))) (Zi (aI (Zy aU (pv 4) Zj (Zz _)) (Zi (Zp (OY (Zl (K:=K) rfl (pv 0) rfl) (pv 3) Zj ⟨rfl,rfl,rfl,rfl⟩))) (Zi (Ba hu (Zl (K:=K) rfl (pv 0) rfl) (pv 3) (pv 4) rfl)))))),?_⟩
 obtain ⟨dx,h1⟩:=M.ob
 obtain ⟨kv0,h2,_⟩:=M.kept
 refine ⟨_,rfl,bm,_,dx,_,_,rfl,h1,T.qd,T.E8,NZ ..,_,rfl,size,b,rfl,z0,z1,b0,b1,λr H1 hr1 s1 e1=>?_⟩
 have CK:(gX size b).length=size.toNat:=by unfold gX; rw [aK1,aZ9]
 have Tv:r≠dk:=λz=>by rw [z,h2] at hr1; cases hr1
 have TM:lw≠dk:=λz=>by rw [z,h2] at jH; cases jH
 refine ⟨_,rfl,r,lw,rfl,⟨_,aB.of e1⟩,⟨_,aB.of (s1 _ _ jH)⟩,WH (K:=K) (a:=r) (b:=lw) (xs:=gX size b) (ys:=ws.map V.int) (λi σ G=>∃ v3 v4:Option V,σ=[some (.ref bm),some (.int b),some (.ref lw),v3,v4]/\dZ K G bm dk size (gQ size mem b ws i) U/\∀ x o,H1 x=some o->x≠dk->G x=some o) (by rw [CK,aK1,kL])
  ⟨none,none,rfl,?_,λ_ _ e _=>e⟩ (λi σ G _ ⟨_,_,_,_,q⟩=>⟨aB.of (q _ _ e1 Tv),aB.of (q _ _ (s1 _ _ jH) TM)⟩) ?_ ?_⟩
 .have e0:gQ size mem b ws 0=mem:=by
   funext s
   unfold gQ
   rw [aM3 (by lia)]
  rw [e0]
  exact M.frame λx o _ e=>s1 x o e
 .rintro i x y t σ G hx hy ⟨v3,v4,rfl,M',fr⟩ ht
  obtain ⟨rfl,hi⟩:=Pn hx
  obtain ⟨z,hz,rfl⟩:∃ z,ws[i]?=some z/\y=V.int z:=by
   rw [aBK] at hy
   cases e:ws[i]? with
   | none=>rw [e] at hy; cases hy
   | some z=>rw [e] at hy; exact ⟨z,rfl,(avM hy).symm⟩
  have s2:=Zd ht (.tup [V.int (b * size+(i:Nat)),V.int z])
  refine ⟨t,_,rfl,aK.of Za,rfl,_,_,rfl,gN ⟨_,_,rfl,gN ⟨rfl,?_⟩⟩⟩
  have M2:dZ K (upd G t (.tup [V.int (b * size+(i:Nat)),V.int z])) bm dk size (gQ size mem b ws i) U:=M'.frame λx o _ e=>s2 x o e
  have AA:∀ x o,H1 x=some o->x≠dk->upd G t (.tup [V.int (b * size+(i:Nat)),V.int z]) x=some o:=λx o e n=>s2 _ _ (fr x o e n)
  generalize upd G t (.tup [V.int (b * size+(i:Nat)),V.int z])=G2 at *
  obtain ⟨jd,g1⟩:=M2.ob
  obtain ⟨kvs,g2,g3,g4⟩:=M2.kept
  have Ge:bm≠dk:=λq=>by rw [q,g2] at g1; cases g1
  have sp:=ZkR (b:=b) z0 hi
  have es:=Yq (size:=size) (mem:=mem) (b:=b) hz
  have fin:∀ kvs',KI kvs'->(∀ s,aO kvs' (Sum.inl s:Key)=if s=b * size+(i:Nat) then (if z=0 then none else some (.int z)) else aO kvs (Sum.inl s:Key))->dZ K (upd G2 dk (.dK kvs')) bm dk size (gQ size mem b ws (i+1)) U/\∀ x o,H1 x=some o->x≠dk->upd G2 dk (.dK kvs') x=some o:=λkvs' ki hv=>by
   refine ⟨⟨⟨jd,by rw [Zc Ge]; exact g1⟩,⟨kvs',Za,ki,λs=>?_⟩,λs hs=>?_⟩,λx o e n=>by rw [Zc n]; exact AA x o e n⟩
   .by_cases c:s=b * size+(i:Nat)
    .rw [hv s,(es s).trans (abw c),abw c]
    .rw [hv s,(es s).trans (aM3 c),aM3 c,g4 s]
   .rw [es s] at hs
    by_cases c:s=b * size+(i:Nat)
    .rw [c,sp]; exact bU
    .rw [aM3 c] at hs
     exact M2.sup s hs
  refine ⟨_,rfl,rfl,_,rfl,Je (λc=>?_) (λc=>?_)⟩
  .have c:z=0:=by simpa using c
   refine ⟨_,rfl,bm,_,jd,_,_,rfl,g1,T.qd,T.yH,DT ..,dk,rfl,.inl ⟨_,.inl g2⟩,_,rfl,kvs,Sum.inl (b * size+(i:Nat)),g2,rfl,λv hv=>?_,λhv=>?_⟩
   .obtain ⟨f1,f2⟩:=fin _ (g3.drop (b * size+(i:Nat))) (λs=>by
     rw [D4,abw c]
     by_cases q:s=b * size+(i:Nat)
     .rw [abw (by rw [q]),abw q]
     .rw [aM3 (λy=>q (aDr y)),aM3 q])
    exact ⟨_,_,rfl,f1,f2⟩
   .rw [g4] at hv
    have e0:gQ size mem b ws i (b * size+(i:Nat))=0:=by
     by_cases q:gQ size mem b ws i (b * size+(i:Nat))=0
     .exact q
     .rw [aM3 q] at hv; cases hv
    have e:gQ size mem b ws (i+1)=gQ size mem b ws i:=by
     funext s
     rw [es s]
     by_cases q:s=b * size+(i:Nat)
     .rw [abw q,q,e0,c]
     .rw [aM3 q]
    exact ⟨_,_,rfl,by rw [e]; exact M2,AA⟩
  .have c:z≠0:=λq=>c (by rw [q]; simp)
   have kl:=NY z0 g3 g4 M2.sup
   have kb:kvs.length<sizeLine:=aVm (a28 kl (Nat.mul_le_mul lU (by lia:size.toNat<=1000))) (by decide)
   refine ⟨_,rfl,_,rfl,bm,_,jd,_,_,rfl,g1,T.qd,T.yH,DT ..,_,rfl,dk,_,rfl,jE.k (k:=Sum.inl (b * size+(i:Nat))) g2 kb,?_⟩
   obtain ⟨f1,f2⟩:=fin _ (g3.put (b * size+(i:Nat)) (.int z)) (λs=>by
     rw [yv,aM3 c]
     by_cases q:s=b * size+(i:Nat)
     .rw [abw (by rw [q]),abw q]
     .rw [aM3 (λy=>q (aDr y)),aM3 q])
   exact ⟨_,_,rfl,f1,f2⟩
 .rintro σ G ⟨v3,v4,rfl,M',fr⟩
  rw [CK] at M'
  exact k G M' λx o e n=>fr x o (s1 _ _ e) n
end
structure aP where
 size:Int
 kind:Str
 aF:List Cf
 U:List Int
structure WF (g:aP):Prop where
 cf:∀ c∈g.aF,1<=c.pl/\c.pl<=16
 z0:1<=g.size
 z1:g.size<=1000
 lU:g.U.length<=800
 ub:∀ b∈g.U,0<=b/\b<=1000000
 l4:g.aF.length<=4
 l1:1<=g.aF.length
structure aq where
 rm:List Rm
 mem:Int->Int
 ev:List (List V)
def aq.at_ (st:aq) (k:Nat):Rm:=st.rm.getD k mj
def aq.set (st:aq) (k:Nat) (s:Rm):aq:={ st with rm:=st.rm.set k s }
def aq.tell (st:aq) (e:List V):aq:={ st with ev:=st.ev++[e] }
structure TA where
 p:Addr
 ss:Addr
 bm:Addr
 dk:Addr
 ev:Addr
 as:List SA
abbrev OS:=Nat->Addr->Prop
def OS.set (os:OS) (k:Nat) (O:Addr->Prop):OS:=λj=>if j=k then O else os j
def Bs (A:TA) (x:Addr):Prop:=x=A.p\/x=A.ss\/x=A.bm\/x=A.dk\/x=A.ev
def OW (A:TA) (os:OS) (x:Addr):Prop:=Bs A x\/∃ k,k<A.as.length/\os k x
def Ev (n:Nat) (e:List V):Prop:=(∃ k:Nat,k<=n/\e=[.str "found",.int (k:Int)])\/(∃ (k:Nat) (b:Int),(k<n/\0<=b/\b<=1000000)/\(e=[.str "in",.int (k:Int),.int b]\/e=[.str "out",.int (k:Int),.int b]))\/∃ (k:Nat) (b:Int),(k<=n/\0<=b/\b<=1000000)/\e=[.str "words",.int (k:Int),.int b]
def tP (n:Nat) (H:Hp) (l:Addr) (es:List (List V)):Prop:=(∀ e∈es,Ev n e)/\∃ ts:List Addr,H l=some (.lst (ts.map V.ref))/\ts.length=es.length/\∀ (i:Nat) (t:Addr) (e:List V),ts[i]?=some t->es[i]?=some e->H t=some (.tup e)
def br (size:Int) (ss bm:Addr) (last:Nat) (ev:Addr) (kind:Str):List (Str×V):=ai "kind" (.str kind) (ai "events" (.ref ev) (ai "last" (.int last) (ai "bottom" (.ref bm) (ai "stores" (.ref ss) (ai "size" (.int size) [])))))
section
variable (size:Int) (ss bm:Addr) (last:Nat) (ev:Addr) (kind:Str)
theorem NX:(br size ss bm last ev kind).lookup ("kind" : Str)=some (.str kind):=by
 unfold br; rw [Zg,abw rfl]
theorem Bq:(br size ss bm last ev kind).lookup ("events" : Str)=some (.ref ev):=by
 unfold br; rw [Zg,aM3 (by decide +kernel),Zg,abw rfl]
theorem rL:(br size ss bm last ev kind).lookup ("last" : Str)=some (.int last):=by
 unfold br; rw [Zg,aM3 (by decide +kernel),Zg,aM3 (by decide +kernel),Zg,abw rfl]
theorem JG:(br size ss bm last ev kind).lookup ("bottom" : Str)=some (.ref bm):=by
 unfold br; rw [Zg,aM3 (by decide +kernel),Zg,aM3 (by decide +kernel),Zg,aM3 (by decide +kernel),Zg,abw rfl]
theorem ZT:(br size ss bm last ev kind).lookup ("stores" : Str)=some (.ref ss):=by
 unfold br; rw [Zg,aM3 (by decide +kernel),Zg,aM3 (by decide +kernel),Zg,aM3 (by decide +kernel),Zg,aM3 (by decide +kernel),Zg,abw rfl]
theorem ym:(br size ss bm last ev kind).lookup ("size" : Str)=some (.int size):=by
 unfold br; rw [Zg,aM3 (by decide +kernel),Zg,aM3 (by decide +kernel),Zg,aM3 (by decide +kernel),Zg,aM3 (by decide +kernel),Zg,aM3 (by decide +kernel),Zg,abw rfl]
theorem aD {m:Str} (h1:¬ m = "kind" := by decide +kernel) (h2:¬ m = "events" := by decide +kernel) (h3:¬ m = "last" := by decide +kernel) (h4:¬ m = "bottom" := by decide +kernel) (h5:¬ m = "stores" := by decide +kernel) (h6:¬ m = "size" := by decide +kernel):(br size ss bm last ev kind).lookup m=none:=by
 unfold br
 rw [Zg,aM3 h1,Zg,aM3 h2,Zg,aM3 h3,Zg,aM3 h4,Zg,aM3 h5,Zg,aM3 h6]
 rfl
theorem ZR {f g:Str} {v x:V} {r:List (Str×V)} (h:¬ g=f):ai f v ((g,x) :: r)=(g,x) :: ai f v r:=by
 show (if g=f then _ else _)=_; rw [aM3 h]
theorem Ws {f:Str} {v x:V} {r:List (Str×V)}:ai f v ((f,x) :: r)=(f,v) :: r:=by
 show (if f=f then _ else _)=_; rw [abw rfl]
theorem yu {f:Str} {v:V}:ai f v []=[(f,v)]:=rfl
theorem JQ:br size ss bm last ev kind=([(("size" : Str),V.int size),(("stores" : Str),V.ref ss),(("bottom" : Str),V.ref bm),(("last" : Str),V.int last),(("events" : Str),V.ref ev),(("kind" : Str),V.str kind)]:List (Str×V)):=by
 unfold br
 have a1:¬ ("size" : Str) = "stores" := by decide +kernel
 have a2:¬ ("size" : Str) = "bottom" := by decide +kernel
 have a3:¬ ("size" : Str) = "last" := by decide +kernel
 have a4:¬ ("size" : Str) = "events" := by decide +kernel
 have a5:¬ ("size" : Str) = "kind" := by decide +kernel
 have b2:¬ ("stores" : Str) = "bottom" := by decide +kernel
 have b3:¬ ("stores" : Str) = "last" := by decide +kernel
 have b4:¬ ("stores" : Str) = "events" := by decide +kernel
 have b5:¬ ("stores" : Str) = "kind" := by decide +kernel
 have c3:¬ ("bottom" : Str) = "last" := by decide +kernel
 have c4:¬ ("bottom" : Str) = "events" := by decide +kernel
 have c5:¬ ("bottom" : Str) = "kind" := by decide +kernel
 have d4:¬ ("last" : Str) = "events" := by decide +kernel
 have d5:¬ ("last" : Str) = "kind" := by decide +kernel
 have e5:¬ ("events" : Str) = "kind" := by decide +kernel
 rw [yu,ZR a1,yu,ZR a2,ZR b2,yu,ZR a3,ZR b3,ZR c3,yu,ZR a4,ZR b4,ZR c4,ZR d4,yu,ZR a5,ZR b5,ZR c5,ZR d5,ZR e5,yu]
theorem Wf (ev':Addr):ai "events" (.ref ev') (br size ss bm last ev kind)=br size ss bm last ev' kind:=by
 rw [JQ,JQ]
 have a4:¬ ("size" : Str) = "events" := by decide +kernel
 have b4:¬ ("stores" : Str) = "events" := by decide +kernel
 have c4:¬ ("bottom" : Str) = "events" := by decide +kernel
 have d4:¬ ("last" : Str) = "events" := by decide +kernel
 rw [ZR a4,ZR b4,ZR c4,ZR d4,Ws]
end
structure af (K:W.Frag) (H:Hp) (A:TA) (g:aP) (st:aq) (os:OS) (n:Nat):Prop where
 ob:∃ dx,H A.p=some (.ins (aa K "Stairs") dx (br g.size A.ss A.bm A.as.length A.ev g.kind))
 ss:H A.ss=some (.lst (A.as.map λa=>V.ref a.sp))
 mem:dZ K H A.bm A.dk g.size st.mem g.U
 ev:tP g.aF.length H A.ev st.ev
 sO:st.ev.length<=n
 lc:g.aF.length=A.as.length
 lS:st.rm.length=A.as.length
 aZ:∀ (k:Nat) (a:SA) (c:Cf) (s:Rm),A.as[k]?=some a->g.aF[k]?=some c->st.rm[k]?=some s->aA K H a c s (os k)
 off:∀ k,k<A.as.length->∀ x,os k x->¬ Bs A x
 oF:∀ i j,i<A.as.length->j<A.as.length->i≠j->∀ x,os i x->¬ os j x
 vj:A.ss≠A.ev
 oq:A.p≠A.bm
 rj:∀ s∈st.rm,∀ b∈s.seq,b∈g.U
 full:∀ (k:Nat) (c:Cf) (s:Rm),g.aF[k]?=some c->st.rm[k]?=some s->∀ t,((Zo c.sh t s.seq).length:Int)<=c.pl
 wl:∀ s∈st.rm,∀ b∈s.seq,(s.wd b).length=g.size.toNat
 wf:WF g
 tb:Tb K H
section
variable {K:W.Frag} {H H':Hp} {A:TA} {g:aP} {st:aq} {os:OS} {n:Nat} {a:SA} {c:Cf} {s:Rm}
theorem tP.frame {m:Nat} {l:Addr} {es:List (List V)} (h:tP m H l es) (f1:∀ o,H l=some o->H' l=some o) (f2:∀ x ys,H x=some (.tup ys)->H' x=some (.tup ys)):tP m H' l es:=by
 obtain ⟨h0,ts,h1,h2,h3⟩:=h
 exact ⟨h0,ts,f1 _ h1,h2,λi t e a b=>f2 _ _ (h3 i t e a b)⟩
theorem af.frame (T:af K H A g st os n) (f:∀ x o,H x=some o->(OW A os x\/¬ Mt o)->H' x=some o):af K H' A g st os n:=by
 obtain ⟨dx,h1⟩:=T.ob
 have fb:∀ {x o},Bs A x->H x=some o->H' x=some o:=λ{x o} h e=>f x o e (.inl (.inl h))
 have ft:∀ x ys,H x=some (.tup ys)->H' x=some (.tup ys):=λx ys e=>f x _ e (.inr id)
 refine ⟨⟨dx,fb (.inl rfl) h1⟩,fb (by simp [Bs]) T.ss,T.mem.frame λx o m e=>fb (by rcases m with m | m <;> simp [Bs,m]) e,T.ev.frame (λo e=>fb (by simp [Bs]) e) ft,T.sO,T.lc,T.lS,λk a c s h1 h2 h3=>(T.aZ k a c s h1 h2 h3).frame λx o h e=>f x o e (.inl (.inr ⟨k,(a2U.mp h1).1,h⟩)),T.off,T.oF,T.vj,T.oq,T.rj,T.full,T.wl,T.wf,f _ _ T.tb (.inr id)⟩
theorem af.same (T:af K H A g st os n) (h:az H H'):af K H' A g st os n:=T.frame λx o e _=>h x o e
theorem af.le {m:Nat} (T:af K H A g st os n) (h:n<=m):af K H A g st os m:=⟨T.ob,T.ss,T.mem,T.ev,a28 T.sO h,T.lc,T.lS,T.aZ,T.off,T.oF,T.vj,T.oq,T.rj,T.full,T.wl,T.wf,T.tb⟩
theorem af.ex (T:af K H A g st os n):∀ x,OW A os x->H x≠none:=λx h=>by
 rcases h with h | ⟨k,hk,h⟩
 .obtain ⟨dx,h1⟩:=T.ob
  obtain ⟨dm,h2⟩:=T.mem.ob
  obtain ⟨kv,h3,_⟩:=T.mem.kept
  obtain ⟨_,ts,h4,_⟩:=T.ev
  rcases h with rfl | rfl | rfl | rfl | rfl
  .rw [h1]; simp
  .rw [T.ss]; simp
  .rw [h2]; simp
  .rw [h3]; simp
  .rw [h4]; simp
 .have h1:A.as[k]?=some A.as[k]:=af3 hk
  have h2:g.aF[k]?=some (g.aF[k]'(by rw [T.lc]; exact hk)):=af3 _
  have h3:st.rm[k]?=some (st.rm[k]'(by rw [T.lS]; exact hk)):=af3 _
  exact (T.aZ _ _ _ _ h1 h2 h3).aZ.ex x h
theorem aq.at_of {k:Nat} (h:k<st.rm.length):st.rm[k]?=some (st.at_ k):=by
 unfold aq.at_
 rw [a9e,af3 h]
 rfl
theorem aq.jx {k j:Nat} {s:Rm} (h:k<st.rm.length):(st.set k s).at_ j=if j=k then s else st.at_ j:=by
 unfold aq.at_ aq.set
 rw [a9e,a9e]
 by_cases z:j=k
 .rw [abw z,z,abG h]; rfl
 .rw [aM3 z,a9q (a4v z)]
def aP.cf (g:aP) (k:Nat):Cf:=g.aF.getD k ⟨1,1, "old",true⟩
theorem af.at_ (T:af K H A g st os n) {k:Nat} (hk:k<A.as.length):∃ a,A.as[k]?=some a/\g.aF[k]?=some (g.cf k)/\st.rm[k]?=some (st.at_ k)/\aA K H a (g.cf k) (st.at_ k) (os k):=by
 have h1:A.as[k]?=some A.as[k]:=af3 hk
 have h2:g.aF[k]?=some (g.cf k):=by
  unfold aP.cf
  rw [a9e,af3 (by rw [T.lc]; exact hk)]
  rfl
 have h3:=aq.at_of (st:=st) (k:=k) (by rw [T.lS]; exact hk)
 exact ⟨_,h1,h2,h3,T.aZ _ _ _ _ h1 h2 h3⟩
theorem af.mG (T:af K H A g st os n) {k:Nat} (hk:k<A.as.length):(st.at_ k).seq.length<=800/\(∀ b∈(st.at_ k).seq,b∈g.U/\((st.at_ k).wd b).length=g.size.toNat)/\(∀ t,((Zo (g.cf k).sh t (st.at_ k).seq).length:Int)<=(g.cf k).pl)/\1<=(g.cf k).pl/\(g.cf k).pl<=16/\(st.at_ k).seq.Nodup:=by
 obtain ⟨a,h1,h2,h3,S⟩:=T.at_ hk
 have m:=aBD h3
 obtain ⟨c1,c2⟩:=T.wf.cf _ (aBD h2)
 exact ⟨a28 (ye S.aZ.room.nd (T.rj _ m)) T.wf.lU,λb h=>⟨T.rj _ m b h,T.wl _ m b h⟩,T.full _ _ _ h2 h3,c1,c2,S.aZ.room.nd⟩
theorem We {k:Nat} {O':Addr->Prop} (T:af K H A g st os n) (hk:k<A.as.length) (p:bV (os k) H H' O'):bV (OW A os) H H' (OW A (os.set k O')):=by
 refine ⟨λx o e nn=>p.kp x o e λh=>nn (.inr ⟨k,hk,h⟩),λx h=>?_⟩
 rcases h with h | ⟨j,hj,h⟩
 .exact .inl (.inl h)
 .unfold OS.set at h
  by_cases z:j=k
  .rw [abw z] at h
   exact (p.fr x h).elim (λq=>.inl (.inr ⟨k,hk,q⟩)) .inr
  .rw [aM3 z] at h
   exact .inl (.inr ⟨j,hj,h⟩)
theorem af.fm {k:Nat} {s':Rm} {O':Addr->Prop} (T:af K H A g st os n) (ha:A.as[k]?=some a) (hc:g.aF[k]?=some c) (S:aA K H' a c s' O') (p:bV (os k) H H' O') (hu:∀ b∈s'.seq,b∈g.U/\(s'.wd b).length=g.size.toNat) (hf:∀ t,((Zo c.sh t s'.seq).length:Int)<=c.pl) :
  af K H' A g (st.set k s') (os.set k O') n/\bV (OW A os) H H' (OW A (os.set k O')):=by
 have hk:k<A.as.length:=(a2U.mp ha).1
 refine ⟨?_,We T hk p⟩
 have nb:∀ {x o},Bs A x->H x=some o->H' x=some o:=λ{x o} h e=>p.kp x o e λq=>absurd h (T.off k hk x q)
 have nt:∀ x ys,H x=some (.tup ys)->H' x=some (.tup ys):=λx ys e=>p.kp x _ e λ_=>id
 obtain ⟨dx,h1⟩:=T.ob
 refine ⟨⟨dx,nb (.inl rfl) h1⟩,nb (by simp [Bs]) T.ss,T.mem.frame λx o m e=>nb (by rcases m with m | m <;> simp [Bs,m]) e,T.ev.frame (λo e=>nb (by simp [Bs]) e) nt,T.sO,T.lc,by show (st.rm.set k s').length=_; rw [akC]; exact T.lS,λj b cb sb hb hcb jG=>?_,λj hj x h=>?_,λi j hi hj hij x h1 h2=>?_,T.vj,T.oq,λq hq b hb=>?_,λj cb sb hcb jG=>?_,λq hq b hb=>?_,T.wf,p.kp _ _ T.tb λ_=>id⟩
 .have hj:=(a2U.mp hb).1
  unfold OS.set
  by_cases e:j=k
  .subst e
   rw [ha] at hb; cases hb
   rw [hc] at hcb; cases hcb
   have jG:(st.rm.set j s')[j]?=some sb:=jG
   rw [abG (by rw [T.lS]; exact hk)] at jG
   cases jG
   rw [abw rfl]
   exact S
  .have jG:(st.rm.set k s')[j]?=some sb:=jG
   rw [a9q (a4v e)] at jG
   rw [aM3 e]
   exact (T.aZ j b cb sb hb hcb jG).frame λx o h q=>p.kp x o q λz=>absurd z (T.oF j k hj hk e x h)
 .unfold OS.set at h
  by_cases e:j=k
  .rw [abw e] at h
   rcases p.fr x h with q | q
   .exact T.off k hk x q
   .exact λz=>T.ex x (.inl z) q
  .rw [aM3 e] at h
   exact T.off j hj x h
 .unfold OS.set at h1 h2
  by_cases e1:i=k
  .rw [abw e1] at h1
   rw [aM3 (λz=>hij (e1.trans z.symm))] at h2
   rcases p.fr x h1 with q | q
   .exact T.oF k j hk hj (λz=>hij (e1.trans z)) x q h2
   .exact T.ex x (.inr ⟨j,hj,h2⟩) q
  .rw [aM3 e1] at h1
   by_cases e2:j=k
   .rw [abw e2] at h2
    rcases p.fr x h2 with q | q
    .exact T.oF i k hi hk e1 x h1 q
    .exact T.ex x (.inr ⟨i,hi,h1⟩) q
   .rw [aM3 e2] at h2
    exact T.oF i j hi hj hij x h1 h2
 .rcases a2W hq with hq | rfl
  .exact T.rj q hq b hb
  .exact (hu b hb).1
 .by_cases e:j=k
  .subst e
   rw [hc] at hcb; cases hcb
   have jG:(st.rm.set j s')[j]?=some sb:=jG
   rw [abG (by rw [T.lS]; exact hk)] at jG
   cases jG
   exact hf
  .have jG:(st.rm.set k s')[j]?=some sb:=jG
   rw [a9q (a4v e)] at jG
   exact T.full j cb sb hcb jG
 .rcases a2W hq with hq | rfl
  .exact T.wl q hq b hb
  .exact (hu b hb).2
theorem af.event (T:af K H A g st os n) {t:Addr} (e:List V) (he:Ev g.aF.length e) (ht:H t=none):∃ ts:List Addr,H A.ev=some (.lst (ts.map V.ref))/\ts.length<=n/\af K (upd (upd H t (.tup e)) A.ev (.lst (ts.map V.ref++[.ref t]))) A g (st.tell e) os (n+1)/\bV (OW A os) H (upd (upd H t (.tup e)) A.ev (.lst (ts.map V.ref++[.ref t]))) (OW A os):=by
 obtain ⟨h0,ts,h1,h2,h3⟩:=T.ev
 have s1:=Zd ht (.tup e)
 have T1:=T.same s1
 have Tt:t≠A.ev:=λz=>by rw [z,h1] at ht; cases ht
 have off:∀ {x o},H x=some o->x≠A.ev->upd (upd H t (.tup e)) A.ev (.lst (ts.map V.ref++[.ref t])) x=some o:=λ{x o} q z=>by rw [Zc z]; exact s1 _ _ q
 have nk:∀ {x o},H x=some o->(∀ xs,o≠.lst xs)->x≠A.ev:=λ{x o} q m z=>by rw [z,h1] at q; exact m _ (avM q).symm
 have sO:=T.sO
 refine ⟨ts,h1,by lia,?_,⟨λx o q m=>off q λz=>?_,λx h=>.inl h⟩⟩
 .obtain ⟨dx,g1⟩:=T.ob
  obtain ⟨dm,g2⟩:=T.mem.ob
  obtain ⟨kv,g3,g4⟩:=T.mem.kept
  refine ⟨⟨dx,off g1 (nk g1 (λ_ z=>by cases z))⟩,off T.ss T.vj,⟨⟨dm,off g2 (nk g2 (λ_ z=>by cases z))⟩,⟨kv,off g3 (nk g3 (λ_ z=>by cases z)),g4⟩,T.mem.sup⟩,⟨λe' m=>(a1m.mp m).elim (h0 e') λm=>by rw [arG.mp m]; exact he,ts++[t],by rw [Za,aIV]; rfl,by rw [aCv]; show _=(st.ev++[e]).length; rw [aCv,h2]; rfl,λi t' e' q1 q2=>?_⟩,by show (st.ev++[e]).length<=n+1; rw [aCv]; show st.ev.length+1<=n+1; lia,T.lc,T.lS,λk a c s q1 q2 q3=>(T.aZ k a c s q1 q2 q3).frame λx o h q=>off q λz=>T.off k (a2U.mp q1).1 x h (by simp [Bs,z]),T.off,T.oF,T.vj,T.oq,T.rj,T.full,T.wl,T.wf,off T.tb (nk T.tb (λ_ z=>by cases z))⟩
  have q2:(st.ev++[e])[i]?=some e':=q2
  by_cases hi:i<ts.length
  .rw [aY3 hi] at q1
   rw [aY3 (by lia)] at q2
   have q:=h3 i t' e' q1 q2
   exact off q (nk q (λ_ z=>by cases z))
  .have hl:=(a2U.mp q1).1
   rw [aCv,adf] at hl
   have:i=ts.length:=by lia
   rw [auv (by lia),this,a2d] at q1
   rw [auv (by lia),show i - st.ev.length=0 by lia] at q2
   cases q1
   cases q2
   rw [Zc Tt]
   exact Za
 .rw [z,h1] at q
  cases q
  exact m (.inl (by simp [Bs,z])) trivial
end
theorem NW {R:Int->Int->Prop} (anti:∀ a b,R a b->R b a->a=b):∀ {l1 l2:List Int},l1.Perm l2->l1.Pairwise R->l2.Pairwise R->l1=l2
 | [],l2,p,_,_=>(List.nil_perm.mp p).symm
 | a :: l1,l2,p,h1,h2=>by
  match l2,p,h2 with
  | [],p,_=>exact absurd p.length_eq (by simp)
  | b :: l2,p,h2 =>
   have e:a=b:=by
    by_cases c:a=b
    .exact c
    .have ma:a∈l2:=(aHJ.mp (p.mem_iff.mp aFv)).resolve_left c
     have mb:b∈l1:=(aHJ.mp (p.mem_iff.mpr aFv)).resolve_left (λz=>c z.symm)
     exact anti a b ((aN8.mp h1).1 b mb) ((aN8.mp h2).1 a ma)
   subst e
   rw [NW anti (List.Perm.cons_inv p) (aN8.mp h1).2 (aN8.mp h2).2]
theorem Yi {us:Int->Int} {ms:List Int} (a b:Int) (h1:tM us ms a b) (h2:tM us ms b a):a=b:=by
 rcases h1 with h1 | ⟨h1,h3⟩ <;> rcases h2 with h2 | ⟨h2,h4⟩ <;> lia
theorem Yp {ru:Str} {us:Int->Int} {pl:Int} {ms:List Int} {g g':Option Int} (h:gD ru us pl ms g) (h':gD ru us pl ms g'):g=g':=by
 by_cases c:(ms.length:Int)<pl
 .rw [h.1 c,h'.1 c]
 .obtain ⟨x,r,rfl,p,f,n⟩:=h.2 c
  obtain ⟨x',r',rfl,p',f',n'⟩:=h'.2 c
  have e:x :: r=x' :: r':=by
   by_cases q:ru = "few"
   .exact NW Yi (p.trans p'.symm) (f q) (f' q)
   .rw [n q,n' q]
  injection e with e1 _
  rw [e1]
open Classical in
noncomputable def eY (c:Cf) (s:Rm) (b:Int):Option Int:=if h:∃ g,gD c.ru s.us c.pl (Zo c.sh (b % c.sh) s.seq) g then Classical.choose h else none
theorem Yh {c:Cf} {s:Rm} {b:Int} {g:Option Int} (h:gD c.ru s.us c.pl (Zo c.sh (b % c.sh) s.seq) g):eY c s b=g:=by
 unfold eY
 have e:∃ g,gD c.ru s.us c.pl (Zo c.sh (b % c.sh) s.seq) g:=⟨g,h⟩
 rw [dif_pos e]
 exact Yp (Classical.choose_spec e) h
theorem Yo {sh pl:Int} {seq seq':List Int} (h:∀ s,((Zo sh s seq).length:Int)<=pl) (hs:seq'.Sublist seq):∀ s,((Zo sh s seq').length:Int)<=pl:=λs=>by
 have q:(Zo sh s seq').Sublist (Zo sh s seq):=List.Sublist.filter _ hs
 have:=q.length_le
 have:=h s
 lia
theorem Yn {sh pl:Int} {seq seq':List Int} (h:∀ s,((Zo sh s seq).length:Int)<=pl) (hs:seq'.Perm seq):∀ s,((Zo sh s seq').length:Int)<=pl:=λs=>by
 have q:(Zo sh s seq').Perm (Zo sh s seq):=List.Perm.filter _ hs
 rw [q.length_eq]
 exact h s
theorem Wq {sh pl b:Int} {seq:List Int} (h:∀ s,((Zo sh s seq).length:Int)<=pl) (hb:((Zo sh (b % sh) seq).length:Int)<pl):∀ s,((Zo sh s (seq++[b])).length:Int)<=pl:=λs=>by
 rw [BB]
 split
 .rename_i e
  rw [← e,aCv]
  show ((_+1:Nat):Int)<=pl
  lia
 .exact h s
def kg (c:Cf) (s:Rm) (b:Int):Rm:=⟨if c.ru = "old" then s.seq.erase b++[b] else s.seq,bump s.us b,s.wd,s.fr⟩
theorem wG {c:Cf} {s:Rm} {b:Int} (hb:b∈s.seq):(kg c s b).seq.Perm s.seq:=by
 unfold kg
 by_cases e:c.ru = "old"
 .rw [abw e]; exact (aRL).trans (List.perm_cons_erase hb).symm
 .rw [aM3 e]
def eW (k:Nat) (b:Int):List V:=[.str "words",.int (k:Int),.int b]
def eI (k:Nat) (b:Int):List V:=[.str "in",.int (k:Int),.int b]
def eO (k:Nat) (b:Int):List V:=[.str "out",.int (k:Int),.int b]
def eF (k:Nat):List V:=[.str "found",.int (k:Int)]
def aP.n (g:aP):Nat:=g.aF.length
def cD (g:aP) (k:Nat) (b:Int) (ws:List Int) (st:aq):aq:=if k=g.n then aq.tell { st with mem:=lR g.size st.mem b ws } (eW k b) else (st.set k (fP (st.at_ k) b ws)).tell (eW k b)
def bF (k:Nat) (b:Int) (ws:List Int) (st:aq):aq:=(st.set k (vJ (st.at_ k) b ws)).tell (eI k b)
def dN (k:Nat) (b:Int) (st:aq):aq:=(st.tell (eO k b)).set k (jm (st.at_ k) b)
def kP (st:aq):aq:={ st with ev:=[] }
def TA.re (A:TA) (e:Addr):TA:={ A with ev:=e }
def Res (K:W.Frag) (H:Hp) (A:TA) (g:aP) (os:OS) (st':aq) (m:Nat) (Q:Hp->Prop):Prop:=∀ H' os',af K H' A g st' os' m->bV (OW A os) H H' (OW A os')->Q H'
theorem tups {O O':Addr->Prop} {H H':Hp} (p:bV O H H' O') {x:Addr} {ys:List V} (h:H x=some (.tup ys)):H' x=some (.tup ys):=p.kp x _ h λ_=>id
section
variable {K:W.Frag} {H H':Hp} {A:TA} {g:aP} {st:aq} {os:OS} {n:Nat}
theorem af.ix {k:Nat} {a:SA} (ha:A.as[k]?=some a):fS (A.as.map λa=>V.ref a.sp) (k:Int)=some (.ref a.sp):=rN (by rw [aBK,ha]; rfl)
theorem af.ln (T:af K H A g st os n):g.n=A.as.length:=T.lc
theorem bV.out {O O':Addr->Prop} (p:bV O H H' O') {x:Addr} {o:HO} (h:H x=some o) (n:¬ O x):H' x=some o/\¬ O' x:=⟨p.kp x o h λz=>absurd z n,λz=>(p.fr x z).elim n λq=>by rw [h] at q; cases q⟩
theorem af.fresh (T:af K H A g st os n) {x:Addr} (h:H x=none):¬ OW A os x:=λz=>T.ex x z h
theorem af.told (T:af K H A g st os n) {e' dx:Addr} (he:H e'=none):af K (upd (upd H e' (.lst [])) A.p (.ins (aa K "Stairs") dx (br g.size A.ss A.bm A.as.length e' g.kind))) (A.re e') g (kP st) os 0:=by
 obtain ⟨d0,h1⟩:=T.ob
 obtain ⟨dm,h2⟩:=T.mem.ob
 obtain ⟨kv,h3,h4⟩:=T.mem.kept
 have s:=Zd he (.lst ([]:List V))
 have TH:A.p≠e':=Ze h1 he
 have off:∀ {x o},H x=some o->x≠A.p->upd (upd H e' (.lst [])) A.p (.ins (aa K "Stairs") dx (br g.size A.ss A.bm A.as.length e' g.kind)) x=some o:=λ{x o} q z=>by rw [Zc z]; exact s _ _ q
 have nk:∀ {x o},H x=some o->(∀ C d f,o≠.ins C d f)->x≠A.p:=λ{x o} q m z=>by rw [z,h1] at q; exact m _ _ _ (avM q).symm
 have nb:∀ x,(∃ k,k<A.as.length/\os k x)->¬ Bs (A.re e') x:=λx ⟨k,hk,h⟩ z=>by
  rcases z with z | z | z | z | z
  .exact T.off k hk x h (.inl z)
  .exact T.off k hk x h (.inr (.inl z))
  .exact T.off k hk x h (.inr (.inr (.inl z)))
  .exact T.off k hk x h (.inr (.inr (.inr (.inl z))))
  .have z:x=e':=z
   exact T.ex x (.inr ⟨k,hk,h⟩) (z ▸ he)
 refine ⟨⟨dx,Za⟩,off T.ss (nk T.ss (λ_ _ _ z=>by cases z)),⟨⟨dm,off h2 (a4v T.oq)⟩,⟨kv,off h3 (nk h3 (λ_ _ _ z=>by cases z)),h4⟩,T.mem.sup⟩,⟨(λe m=>by cases m),[],by show _=some (HO.lst []); rw [show (A.re e').ev=e' from rfl,Zc (a4v TH)]; exact Za,rfl,λi t e q _=>by simp at q⟩,aEt _,T.lc,T.lS,λk a c s' q1 q2 q3=>(T.aZ k a c s' q1 q2 q3).frame λx o h q=>off q λz=>T.off k (a2U.mp q1).1 x h (.inl z),λk hk x h=>nb x ⟨k,hk,h⟩,T.oF,λz=>?_,T.oq,T.rj,T.full,T.wl,T.wf,off T.tb (nk T.tb (λ_ _ _ z=>by cases z))⟩
 have z:A.ss=e':=z
 have q:=T.ss
 rw [z,he] at q; cases q
end
section
def D3 (K:W.Frag):Sp:=λvs H Q _=>∃ (A:TA) (g:aP) (st:aq) (os:OS) (n k:Nat) (a:SA),vs=[.ref A.p,.int (k:Int)]/\af K H A g st os n/\A.as[k]?=some a/\Q (.ref a.sp) H
theorem ZfF (F:aY K "store" "Steps.store" Kl f fd) (T:Txt K mg):av P w K mg base aV 1 f fd BD (D3 K):=by
 refine F.ok fH (λvs H Q E h=>?_) (λcdv A outer s0 H vs Q E hr h=>?_)
 .obtain ⟨A,g,st,os,n,k,a,rfl,_⟩:=h
  rfl
 obtain ⟨A,g,st,os,n,k,a,rfl,R,ha,q⟩:=h
 have nd:=fH.nd
 refine ⟨_,(Zf (aI (wB (X0 zF jY Zj (pv 1) (Zl (K:=K) rfl (pv 0) rfl))) (Zi qg) Zv)
   (Zi (Zu (ao (Zr (K:=K) rfl) (Zl (K:=K) rfl (pv 0) rfl) (pv 1) (λ_ _=>rfl))))),?_⟩
 obtain ⟨dx,h1⟩:=R.ob
 have hk:k<A.as.length:=(a2U.mp ha).1
 refine ⟨_,rfl,_,_,rfl,rfl,_,rfl,fk (aea (by lia)) ⟨_,rfl,A.p,_,dx,_,_,rfl,h1,T.aR,T.qf,rL ..,_,_,rfl,rfl,_,rfl,cF (by rw [aea (by lia)]; rfl) ?_⟩⟩
 exact ⟨_,rfl,A.p,_,dx,_,_,rfl,h1,T.aR,T.n8,ZT ..,_,rfl,A.ss,_,_,_,rfl,rfl,aB.of R.ss,af.ix ha,q⟩
def kT (g:aP) (st:aq) (k:Nat) (b:Int):List Int:=if k=g.n then bg g.size st.mem b else (st.at_ k).wd b
def JB (K:W.Frag):Sp:=λvs H Q _=>∃ (A:TA) (g:aP) (st:aq) (os:OS) (n k:Nat) (b:Int),vs=[.ref A.p,.int (k:Int),.int b]/\af K H A g st os n/\k<=g.n/\(k<g.n->b∈(st.at_ k).seq)/\0<=b/\b<=1000000/\∀ l H',H l=none->az H H'->H' l=some (.lst ((kT g st k b).map V.int))->Q (.ref l) H'
theorem ZfG (F:aY K "words" "Steps.words" Km f fd) (T:Txt K mg) (EV:ay P w K mg base (aa K "Memory") "words_of" 2 Lo (Pk K)) (sd:ay P w K mg base (aa K "Stairs") "store" 1 BD (D3 K)) (se:ay P w K mg base (aa K "Store") "words_of" 3 ZS (Ed K)):av P w K mg base aV 4 f fd Es (JB K):=by
 refine F.ok fF (λvs H Q E h=>?_) (λcdv A outer s0 H vs Q E hr h=>?_)
 .obtain ⟨A,g,st,os,n,k,b,rfl,_⟩:=h
  rfl
 obtain ⟨A,g,st,os,n,k,b,rfl,R,hk,hb,b0,b1,q⟩:=h
 have nd:=fF.nd
 refine ⟨_,(Zf (aI (Zy aU (pv 1) (Zl (K:=K) rfl (pv 0) rfl) (Zz _)) (Zi (Zu (Zk EV hr.m T.qd (Zl (K:=K) rfl (pv 0) rfl) (pc (pv 2) Zb)))) Zv)
   (Zi (Zu (Zk se hr.m T.gg (Zk sd hr.m T.aR (pv 0) (pc (pv 1) Zb)) (pc (pv 2) Zb))))),?_⟩
 obtain ⟨dx,h1⟩:=R.ob
 obtain ⟨dm,h2⟩:=R.mem.ob
 have ln:=R.ln
 unfold kT at q
 refine ⟨_,rfl,_,rfl,A.p,_,dx,_,_,rfl,h1,T.aR,T.qf,rL ..,rfl,_,rfl,yp (λe=>?_) (λe=>?_)⟩
 .rw [abw (by lia)] at q
  exact ⟨_,rfl,A.p,_,dx,_,_,rfl,h1,T.aR,T.Ck,JG ..,A.bm,dm,_,rfl,h2,qt ..,_,rfl,A.bm,A.dk,g.size,b,st.mem,g.U,rfl,R.mem,by have:=R.wf.z0; lia,R.wf.z1,b0,b1,q⟩
 .rw [aM3 (by lia)] at q
  obtain ⟨a,e1,e2,e3,B⟩:=R.at_ (k:=k) (by lia)
  obtain ⟨ds,h3⟩:=B.aZ.ob
  exact ⟨_,rfl,A.p,dx,_,rfl,h1,aD ..,_,rfl,A,g,st,os,n,k,a,rfl,R,e1,a.sp,ds,_,rfl,h3,dz ..,_,rfl,a,_,_,_,b,rfl,B,hb (by lia),λl hl=>q l _ hl (Zd hl _) Za⟩
def JP (K:W.Frag):Sp:=λvs H Q _=>∃ (A:TA) (g:aP) (st:aq) (os:OS) (n:Nat),vs=[.ref A.p]/\af K H A g st os n/\∀ e' H',af K H' (A.re e') g (kP st) os 0->tP g.n H' A.ev st.ev->¬ OW (A.re e') os A.ev->bV (OW A os) H H' (OW (A.re e') os)->Q (.ref A.ev) H'
theorem Zec (F:aY K "happened" "Steps.happened" KW f fd) (T:Txt K mg):av P w K mg base aV 1 f fd Ez (JP K):=by
 refine F.ok cT (λvs H Q E h=>?_) (λcdv A outer s0 H vs Q E hr h=>?_)
 .obtain ⟨A,g,st,os,n,rfl,_⟩:=h
  rfl
 obtain ⟨A,g,st,os,n,rfl,R,q⟩:=h
 have nd:=cT.nd
 refine ⟨_,(Zf (cI 1 nd (Zl (K:=K) rfl (pv 0) rfl))
   (Zf (k6 (pv 0) (j8 Zb) rfl)
   (Zi (Zu (pv 1))))),?_⟩
 obtain ⟨dx,h1⟩:=R.ob
 refine ⟨_,rfl,A.p,_,dx,_,_,rfl,h1,T.aR,T.vd,Bq ..,gN ?_⟩
 try dsimp only
 refine ⟨(sl 0),λe' he=>⟨_,rfl,A.p,_,dx,_,rfl,Zd he _ _ _ h1,T.aR,T.vd,(by rw [JQ]; show 6<1000; decide),?_⟩⟩
 rw [Wf]
 have off:∀ {x o},H x=some o->x≠A.p->upd (upd H e' (.lst [])) A.p (.ins (aa K "Stairs") dx (br g.size A.ss A.bm A.as.length e' g.kind)) x=some o:=λ{x o} q z=>by rw [Zc z]; exact Zd he _ _ _ q
 have np:∀ {x o},H x=some o->(∀ C d f,o≠.ins C d f)->x≠A.p:=λ{x o} q m z=>by rw [z,h1] at q; exact m _ _ _ (avM q).symm
 obtain ⟨v0,ts,v1,v2,v3⟩:=R.ev
 have Tq:A.ev≠e':=Ze v1 he
 refine ⟨_,rfl,q e' _ (R.told he) ⟨v0,ts,off v1 (np v1 (λ_ _ _ z=>by cases z)),v2,λi t e a b=>off (v3 i t e a b) (np (v3 i t e a b) (λ_ _ _ z=>by cases z))⟩ (λz=>?_) ⟨λx o e m=>off e λz=>?_,λx h=>?_⟩⟩
 .rcases z with z | ⟨k,hk,z⟩
  .obtain ⟨dm,h2⟩:=R.mem.ob
   obtain ⟨kv,h3,_⟩:=R.mem.kept
   rcases z with z | z | z | z | z
   .exact np v1 (λ_ _ _ z=>by cases z) z
   .exact R.vj z.symm
   .rw [show (A.re e').bm=A.bm from rfl] at z
    rw [z,h2] at v1; cases v1
   .rw [show (A.re e').dk=A.dk from rfl] at z
    rw [z,h3] at v1; cases v1
   .exact Tq z
  .exact R.off k hk _ z (by simp [Bs])
 .rw [z,h1] at e
  cases e
  exact m (.inl (.inl z)) trivial
 .rcases h with h | h
  .rcases h with h | h | h | h | h
   .exact .inl (.inl (.inl h))
   .exact .inl (.inl (.inr (.inl h)))
   .exact .inl (.inl (.inr (.inr (.inl h))))
   .exact .inl (.inl (.inr (.inr (.inr (.inl h)))))
   .exact .inr (by rw [h]; exact he)
  .exact .inl (.inr h)
def Dg (K:W.Frag):Sp:=λvs H Q _=>∃ (A:TA) (g:aP) (st:aq) (os:OS) (n k:Nat) (b:Int),vs=[.ref A.p,.int (k:Int),.int b]/\af K H A g st os n/\k<g.n/\∀ H',az H H'->gD (g.cf k).ru (st.at_ k).us (g.cf k).pl (Zo (g.cf k).sh (b % (g.cf k).sh) (st.at_ k).seq) (eY (g.cf k) (st.at_ k) b)->Q (ql (eY (g.cf k) (st.at_ k) b)) H'
theorem Zfq (F:aY K "leaver" "Steps.leaver" K3 f fd) (T:Txt K mg) (xr:ay P w K mg base (aa K "Room") "leaver_for" 3 EB (JD K)):av P w K mg base aV 4 f fd BE (Dg K):=by
 refine F.ok eN (λvs H Q E h=>?_) (λcdv A outer s0 H vs Q E hr h=>?_)
 .obtain ⟨A,g,st,os,n,k,b,rfl,_⟩:=h
  rfl
 obtain ⟨A,g,st,os,n,k,b,rfl,R,hk,q⟩:=h
 have nd:=eN.nd
 refine ⟨_,(Zi (Zu (Zk xr hr.m T.gf (Zl (K:=K) rfl (ao (Zr (K:=K) rfl) (Zl (K:=K) rfl (pv 0) rfl) (pv 1) (λ_ _=>rfl)) rfl) (pc (pv 2) Zb)))),?_⟩
 obtain ⟨dx,h1⟩:=R.ob
 have ln:=R.ln
 obtain ⟨a,e1,e2,e3,B⟩:=R.at_ (k:=k) (by lia)
 obtain ⟨u1,u2,u3,u4,u5,u6⟩:=R.mG (k:=k) (by lia)
 obtain ⟨ds,h3⟩:=B.aZ.ob
 obtain ⟨dr,h4⟩:=B.aZ.room.ob
 have fl:=u3 (b % (g.cf k).sh)
 refine ⟨_,rfl,A.p,_,dx,_,_,rfl,h1,T.aR,T.n8,ZT ..,_,rfl,A.ss,_,_,_,rfl,rfl,aB.of R.ss,af.ix e1,a.sp,_,ds,_,_,rfl,h3,T.gg,T.uc,wD ..,a.rp,dr,_,rfl,h4,bQ ..,_,rfl,a.rp,b,(g.cf k).sh,(g.cf k).pl,(g.cf k).ru,a.ls,a.au,a.du,(st.at_ k).seq,(st.at_ k).us,_,rfl,B.aZ.room,R.tb,u4,by lia,λgone H' gp sm=>?_⟩
 have e:=Yh (s:=st.at_ k) gp
 have q':=q H' sm (by rw [e]; exact gp)
 rw [e] at q'
 exact q'
def Nc (K:W.Frag):Sp:=λvs H Q _=>∃ (A:TA) (g:aP) (st:aq) (os:OS) (n k:Nat),vs=[.ref A.p,.int (k:Int)]/\af K H A g st os n/\k<=g.n/\n<=900000/\Res K H A g os (st.tell (eF k)) (n+1) (Q .aT)
theorem big {n m:Nat} (h:n<=m) (hm:m<=900000):n<sizeLine:=aVm (a28 h hm) (by decide)
theorem Zdo (F:aY K "tell_found" "Steps.tell_found" Lc f fd) (T:Txt K mg):av P w K mg base aV 1 f fd Lb (Nc K):=by
 refine F.ok cy (λvs H Q E h=>?_) (λcdv A outer s0 H vs Q E hr h=>?_)
 .obtain ⟨A,g,st,os,n,k,rfl,_⟩:=h
  rfl
 obtain ⟨A,g,st,os,n,k,rfl,R,UB,hl,q⟩:=h
 have nd:=cy.nd
 refine ⟨_,(Zi (Zp (uM (K:=K) rfl (iQ apM aE9 aAu wJ (Zl (K:=K) rfl (pv 0) rfl) (pc (jI (pc ZM (pc (pv 1) Zb))) Zb))))),?_⟩
 obtain ⟨dx,h1⟩:=R.ob
 obtain ⟨_,Fb,v1,_⟩:=R.ev
 refine ⟨_,rfl,A.p,_,dx,_,_,rfl,h1,T.aR,T.vd,Bq ..,.inl ⟨rfl,_,aB.of v1⟩,_,rfl,(sl 2),λt ht=>?_⟩
 obtain ⟨ts,w1,w2,R2,p2⟩:=R.event (eF k) (.inl ⟨k,UB,rfl⟩) ht
 exact ⟨A.ev,_,_,rfl,rfl,Zd ht _ _ _ w1,big (by rw [aK1]; exact w2) hl,q _ _ R2 p2⟩
def Jc (K:W.Frag):Sp:=λvs H Q _=>∃ (A:TA) (g:aP) (st:aq) (os:OS) (n k:Nat) (b:Int),vs=[.ref A.p,.int (k:Int),.int b]/\af K H A g st os n/\k<g.n/\b∈(st.at_ k).seq/\Res K H A g os (st.set k (kg (g.cf k) (st.at_ k) b)) n (Q .aT)
theorem Zfr (F:aY K "use_in" "Steps.use_in" K2 f fd) (T:Txt K mg) (Gw:ay P w K mg base (aa K "Room") "use" 3 J4 (tV K)):av P w K mg base aV 4 f fd EF (Jc K):=by
 refine F.ok eG (λvs H Q E h=>?_) (λcdv A outer s0 H vs Q E hr h=>?_)
 .obtain ⟨A,g,st,os,n,k,b,rfl,_⟩:=h
  rfl
 obtain ⟨A,g,st,os,n,k,b,rfl,R,hk,hb,q⟩:=h
 have nd:=eG.nd
 refine ⟨_,(Zi (Zp (Zk Gw hr.m T.gf (Zl (K:=K) rfl (ao (Zr (K:=K) rfl) (Zl (K:=K) rfl (pv 0) rfl) (pv 1) (λ_ _=>rfl)) rfl) (pc (pv 2) Zb)))),?_⟩
 obtain ⟨dx,h1⟩:=R.ob
 have ln:=R.ln
 obtain ⟨a,e1,e2,e3,B⟩:=R.at_ (k:=k) (by lia)
 obtain ⟨u1,u2,u3,u4,u5,u6⟩:=R.mG (k:=k) (by lia)
 obtain ⟨ds,h3⟩:=B.aZ.ob
 obtain ⟨dr,h4⟩:=B.aZ.room.ob
 refine ⟨_,rfl,A.p,_,dx,_,_,rfl,h1,T.aR,T.n8,ZT ..,_,rfl,A.ss,_,_,_,rfl,rfl,aB.of R.ss,af.ix e1,a.sp,_,ds,_,_,rfl,h3,T.gg,T.uc,wD ..,a.rp,dr,_,rfl,h4,bQ ..,_,rfl,a.rp,b,(g.cf k).sh,(g.cf k).pl,(g.cf k).ru,a.ls,a.au,a.du,(st.at_ k).seq,(st.at_ k).us,_,rfl,B.aZ.room,by lia,hb,by lia,λH' R1 r1=>?_⟩
 have um:=λx=>(wG (c:=g.cf k) hb).mem_iff (a:=x)
 obtain ⟨R2,p2⟩:=R.fm e1 e2 (B.fm R1 r1 um) (B.aZ.cI r1) (λx hx=>u2 x ((um x).mp hx)) (Yn u3 (wG (c:=g.cf k) hb))
 exact q H' _ R2 p2
def JA (K:W.Frag):Sp:=λvs H Q _=>∃ (A:TA) (g:aP) (st:aq) (os:OS) (n k:Nat) (b:Int) (lw:Addr) (ws:List Int),vs=[.ref A.p,.int (k:Int),.int b,.ref lw]/\af K H A g st os n/\k<g.n/\b∉(st.at_ k).seq/\b∈g.U/\((Zo (g.cf k).sh (b % (g.cf k).sh) (st.at_ k).seq).length:Int)<(g.cf k).pl/\H lw=some (.lst (ws.map V.int))/\¬ OW A os lw/\ws.length=g.size.toNat/\n<=900000/\Res K H A g os (bF k b ws st) (n+1) (Q .aT)
theorem Zew (F:aY K "come_in" "Steps.come_in" KJ f fd) (T:Txt K mg) (EO:ay P w K mg base (aa K "Store") "take_in" 5 KO (Po K)):av P w K mg base aV 6 f fd Ew (JA K):=by
 refine F.ok dH (λvs H Q E h=>?_) (λcdv A outer s0 H vs Q E hr h=>?_)
 .obtain ⟨A,g,st,os,n,k,b,lw,ws,rfl,_⟩:=h
  rfl
 obtain ⟨A,g,st,os,n,k,b,lw,ws,rfl,R,hk,hb,My,hsh,jH,nO,kL,hl,q⟩:=h
 have nd:=dH.nd
 refine ⟨_,(Zf (Zp (Zk EO hr.m T.gg (ao (Zr (K:=K) rfl) (Zl (K:=K) rfl (pv 0) rfl) (pv 1) (λ_ _=>rfl)) (pc (pv 2) (pc (pv 3) Zb))))
   (Zi (Zp (uM (K:=K) rfl (iQ apM aE9 aAu wJ (Zl (K:=K) rfl (pv 0) rfl) (pc (jI (pc ZM (pc (pv 1) (pc (pv 2) Zb)))) Zb)))))),?_⟩
 obtain ⟨dx,h1⟩:=R.ob
 have ln:=R.ln
 obtain ⟨a,e1,e2,e3,B⟩:=R.at_ (k:=k) (by lia)
 obtain ⟨u1,u2,u3,u4,u5,u6⟩:=R.mG (k:=k) (by lia)
 obtain ⟨ds,h3⟩:=B.aZ.ob
 refine ⟨_,rfl,A.p,_,dx,_,_,rfl,h1,T.aR,T.n8,ZT ..,_,rfl,A.ss,_,_,_,rfl,rfl,aB.of R.ss,af.ix e1,a.sp,ds,_,rfl,h3,dz ..,_,rfl,_,rfl,a,_,_,_,b,lw,ws,rfl,B,R.tb,jH,(λz=>nO (.inr ⟨k,by lia,z⟩)),hb,u1,u4,u5,hsh,λH1 O1 B1 p1=>?_⟩
 obtain ⟨R2,p2⟩:=R.fm e1 e2 B1 p1 (λx hx=>by
  show x∈g.U/\(if x=b then ws else (st.at_ k).wd x).length=_
  by_cases z:x=b
  .rw [abw z,z]; exact ⟨My,kL⟩
  .rw [aM3 z]
   exact u2 x ((a1m.mp hx).resolve_right λm=>z (arG.mp m))) (Wq u3 hsh)
 obtain ⟨jd,g2⟩:=R2.ob
 obtain ⟨_,Fb,v1,_⟩:=R2.ev
 refine ⟨_,rfl,A.p,_,jd,_,_,rfl,g2,T.aR,T.vd,Bq ..,.inl ⟨rfl,_,aB.of v1⟩,_,rfl,_,rfl,(sl 3),λt ht=>?_⟩
 obtain ⟨ts,w1,w2,R4,p4⟩:=R2.event (eI k b) (.inr (.inl ⟨k,b,⟨hk,R.wf.ub b My⟩,.inl rfl⟩)) ht
 exact ⟨A.ev,_,_,rfl,rfl,Zd ht _ _ _ w1,big (by rw [aK1]; exact w2) hl,q _ _ R4 (p2.trans p4)⟩
def A5 (K:W.Frag):Sp:=λvs H Q _=>∃ (A:TA) (g:aP) (st:aq) (os:OS) (n k:Nat) (b:Int),vs=[.ref A.p,.int (k:Int),.int b]/\af K H A g st os n/\k<g.n/\b∈(st.at_ k).seq/\n<=900000 /\
 ∀ H' os' t l,H' t=some (.tup [.ref l,.bl ((st.at_ k).fr b)])->H' l=some (.lst (((st.at_ k).wd b).map V.int))->¬ OW A os' l->af K H' A g (dN k b st) os' (n+1)->bV (OW A os) H H' (OW A os')->Q (.ref t) H'
theorem Zft (F:aY K "go_out" "Steps.go_out" K1 f fd) (T:Txt K mg) (EU:ay P w K mg base (aa K "Store") "give_out" 4 Lm (Ql K)):av P w K mg base aV 5 f fd ZU (A5 K):=by
 refine F.ok eS (λvs H Q E h=>?_) (λcdv A outer s0 H vs Q E hr h=>?_)
 .obtain ⟨A,g,st,os,n,k,b,rfl,_⟩:=h
  rfl
 obtain ⟨A,g,st,os,n,k,b,rfl,R,hk,hb,hl,q⟩:=h
 have nd:=eS.nd
 refine ⟨_,(Zf (Zp (uM (K:=K) rfl (iQ apM aE9 aAu wJ (Zl (K:=K) rfl (pv 0) rfl) (pc (jI (pc ZM (pc (pv 1) (pc (pv 2) Zb)))) Zb))))
   (Zi (Zu (Zk EU hr.m T.gg (ao (Zr (K:=K) rfl) (Zl (K:=K) rfl (pv 0) rfl) (pv 1) (λ_ _=>rfl)) (pc (pv 2) Zb))))),?_⟩
 obtain ⟨dx,h1⟩:=R.ob
 obtain ⟨_,Fb,v1,_⟩:=R.ev
 have ln:=R.ln
 refine ⟨_,rfl,A.p,_,dx,_,_,rfl,h1,T.aR,T.vd,Bq ..,.inl ⟨rfl,_,aB.of v1⟩,_,rfl,_,rfl,(sl 3),λt ht=>?_⟩
 obtain ⟨ts,w1,w2,R4,p4⟩:=R.event [.str "out",.int (k:Int),.int b] (.inr (.inl ⟨k,b,⟨hk,R.wf.ub b ((R.mG (k:=k) (by lia)).2.1 b hb).1⟩,.inr rfl⟩)) ht
 refine ⟨A.ev,_,_,rfl,rfl,Zd ht _ _ _ w1,big (by rw [aK1]; exact w2) hl,?_⟩
 generalize upd (upd H t (.tup [.str "out",.int (k:Int),.int b])) A.ev (.lst (ts.map V.ref++[.ref t]))=H4 at *
 obtain ⟨HD,g4⟩:=R4.ob
 obtain ⟨a,e1,e2,e3,B⟩:=R4.at_ (k:=k) (by lia)
 obtain ⟨u1,u2,u3,u4,u5,u6⟩:=R4.mG (k:=k) (by lia)
 obtain ⟨ds,h3⟩:=B.aZ.ob
 refine ⟨_,rfl,A.p,_,HD,_,_,rfl,g4,T.aR,T.n8,ZT ..,_,rfl,A.ss,_,_,_,rfl,rfl,aB.of R4.ss,af.ix e1,a.sp,ds,_,rfl,h3,dz ..,_,rfl,a,_,_,_,b,rfl,B,hb,λt2 l H5 O5 et el nl B' p5 own=>?_⟩
 obtain ⟨R5,p6⟩:=R4.fm e1 e2 B' p5 (λx hx=>u2 x (a2z hx)) (Yo u3 List.erase_sublist)
 refine q H5 _ t2 l et el (λz=>?_) R5 (p4.trans p6)
 rcases z with z | ⟨j,hj,z⟩
 .rcases own with o | o
  .exact R4.off k (by lia) l o z
  .exact R4.ex l (.inl z) o
 .unfold OS.set at z
  by_cases e:j=k
  .rw [abw e] at z; exact nl z
  .rw [aM3 e] at z
   rcases own with o | o
   .exact R4.oF j k hj (by lia) e l z o
   .exact R4.ex l (.inr ⟨j,hj,z⟩) o
end
section
variable {K:W.Frag} {H H':Hp} {A:TA} {g:aP} {st:aq} {os:OS} {n:Nat}
theorem af.Gh {mem':Int->Int} (T:af K H A g st os n) (M:dZ K H' A.bm A.dk g.size mem' g.U) (f:∀ x o,H x=some o->x≠A.dk->H' x=some o):af K H' A g { st with mem:=mem' } os n/\bV (OW A os) H H' (OW A os):=by
 obtain ⟨dx,h1⟩:=T.ob
 obtain ⟨kv,h2,_⟩:=T.mem.kept
 have nk:∀ {x o},H x=some o->(∀ k,o≠.dK k)->H' x=some o:=λ{x o} q m=>f x o q λz=>by rw [z,h2] at q; exact m _ (avM q).symm
 refine ⟨⟨⟨dx,nk h1 (λ_ z=>by cases z)⟩,nk T.ss (λ_ z=>by cases z),M,T.ev.frame (λo e=>?_) (λx ys e=>nk e (λ_ z=>by cases z)),T.sO,T.lc,T.lS,λk a c s q1 q2 q3=>(T.aZ k a c s q1 q2 q3).frame λx o h q=>f x o q λz=>T.off k (a2U.mp q1).1 x h (by simp [Bs,z]),T.off,T.oF,T.vj,T.oq,T.rj,T.full,T.wl,T.wf,nk T.tb (λ_ z=>by cases z)⟩,⟨λx o e m=>f x o e λz=>?_,λx h=>.inl h⟩⟩
 .obtain ⟨_,ts,v,_⟩:=T.ev
  rw [v] at e; cases e
  exact nk v (λ_ z=>by cases z)
 .rw [z,h2] at e
  cases e
  exact m (.inl (by simp [Bs,z])) trivial
end
section
def nM (K:W.Frag):Sp:=λvs H Q _=>∃ (A:TA) (g:aP) (st:aq) (os:OS) (n k:Nat) (b:Int) (lw:Addr) (ws:List Int),vs=[.ref A.p,.int (k:Int),.int b,.ref lw]/\af K H A g st os n/\k<=g.n/\(k<g.n->b∈(st.at_ k).seq)/\b∈g.U/\H lw=some (.lst (ws.map V.int))/\¬ OW A os lw/\ws.length=g.size.toNat/\n<=900000/\Res K H A g os (cD g k b ws st) (n+1) (Q .aT)
theorem ZhQ (F:aY K "put" "Steps.put" JW f fd) (T:Txt K mg) (GD:ay P w K mg base (aa K "Memory") "lay" 2 Kw (Nd K)) (wX:ay P w K mg base (aa K "Store") "lay" 1 Eg (pW K)):av P w K mg base aV 3 f fd Bu (nM K):=by
 refine F.ok g9 (λvs H Q E h=>?_) (λcdv A outer s0 H vs Q E hr h=>?_)
 .obtain ⟨A,g,st,os,n,k,b,lw,ws,rfl,_⟩:=h
  rfl
 obtain ⟨A,g,st,os,n,k,b,lw,ws,rfl,R,hk,hb,bU,jH,nO,kL,hl,q⟩:=h
 have nd:=g9.nd
 refine ⟨_,(Zf (aI (Zy aU (pv 1) (Zl (K:=K) rfl (pv 0) rfl) (Zz _)) (Zi (Zp (Zk GD hr.m T.qd (Zl (K:=K) rfl (pv 0) rfl) (pc (pv 2) (pc (pv 3) Zb))))) (Zi (Zp (Zk wX hr.m T.gg (ao (Zr (K:=K) rfl) (Zl (K:=K) rfl (pv 0) rfl) (pv 1) (λ_ _=>rfl)) (pc (pv 2) (pc (pv 3) Zb))))))
   (Zi (Zp (uM (K:=K) rfl (iQ apM aE9 aAu wJ (Zl (K:=K) rfl (pv 0) rfl) (pc (jI (pc ZM (pc (pv 1) (pc (pv 2) Zb)))) Zb)))))),?_⟩
 obtain ⟨dx,h1⟩:=R.ob
 have ln:=R.ln
 refine x9 (λσ G=>σ=[some (.ref A.p),some (.int (k:Int)),some (.int b),some (.ref lw)]/\∃ os',af K G A g (if k=g.n then { st with mem:=lR g.size st.mem b ws } else st.set k (fP (st.at_ k) b ws)) os' n/\bV (OW A os) H G (OW A os')) (λD' _ k'=>?_) ?_
 .refine ⟨_,rfl,_,rfl,A.p,_,dx,_,_,rfl,h1,T.aR,T.qf,rL ..,rfl,_,rfl,yp (λe=>?_) (λe=>?_)⟩
  .obtain ⟨dm,h2⟩:=R.mem.ob
   have z0:=R.wf.z0
   obtain ⟨b0,b1⟩:=R.wf.ub b bU
   refine ⟨_,rfl,A.p,_,dx,_,_,rfl,h1,T.aR,T.Ck,JG ..,A.bm,dm,_,rfl,h2,qt ..,_,rfl,_,rfl,A.bm,A.dk,g.size,b,st.mem,g.U,lw,ws,rfl,R.mem,by lia,R.wf.z1,b0,b1,bU,R.wf.lU,jH,kL,λH1 M1 f1=>?_⟩
   obtain ⟨R1,p1⟩:=R.Gh M1 f1
   rw [abw (by lia)] at k'
   exact k' _ _ ⟨rfl,_,R1,p1⟩
  .obtain ⟨a,e1,e2,e3,B⟩:=R.at_ (k:=k) (by lia)
   obtain ⟨u1,u2,u3,u4,u5,u6⟩:=R.mG (k:=k) (by lia)
   obtain ⟨ds,kvs,h3,h4,h5,h6⟩:=B.lay (hb (by lia)) ws (Q:=D'.nx [some (.ref A.p),some (.int (k:Int)),some (.int b),some (.ref lw)]) (λH' O' B' p'=>by
    obtain ⟨R1,p1⟩:=R.fm e1 e2 B' p' (λx hx=>by
     show x∈g.U/\(if x=b then ws else (st.at_ k).wd x).length=_
     by_cases z:x=b
     .rw [abw z,z]; exact ⟨bU,kL⟩
     .rw [aM3 z]; exact u2 x hx) u3
    rw [aM3 (by lia)] at k'
    exact k' _ _ ⟨rfl,_,R1,p1⟩)
   exact ⟨_,rfl,A.p,_,dx,_,_,rfl,h1,T.aR,T.n8,ZT ..,_,rfl,A.ss,_,_,_,rfl,rfl,aB.of R.ss,af.ix e1,a.sp,ds,_,rfl,h3,dz ..,_,rfl,_,rfl,a.sp,ds,a.rp,a.dh,a.df,(g.cf k).late,kvs,b,lw,_,rfl,h3,h4,by lia,jH,h6⟩
 rintro _ G ⟨rfl,gO,R2,p2⟩
 obtain ⟨jd,g2⟩:=R2.ob
 obtain ⟨_,Fb,v1,_⟩:=R2.ev
 refine ⟨_,rfl,A.p,_,jd,_,_,rfl,g2,T.aR,T.vd,Bq ..,.inl ⟨rfl,_,aB.of v1⟩,_,rfl,_,rfl,(sl 3),λt ht=>?_⟩
 obtain ⟨ts,w1,w2,R4,p4⟩:=R2.event (eW k b) (.inr (.inr ⟨k,b,⟨hk,R.wf.ub b bU⟩,rfl⟩)) ht
 refine ⟨A.ev,_,_,rfl,rfl,Zd ht _ _ _ w1,big (by rw [aK1]; exact w2) hl,q _ _ ?_ (p2.trans p4)⟩
 unfold cD
 by_cases c:k=g.n
 .rw [abw c] at R4 ⊢; exact R4
 .rw [aM3 c] at R4 ⊢; exact R4
def k8 (g:aP) (s:Rm) (sp:Int):Int:=(s.wd (sp / g.size)).getD (sp % g.size).toNat 0
def OU (K:W.Frag):Sp:=λvs H Q _=>∃ (A:TA) (g:aP) (st:aq) (os:OS) (n k:Nat) (sp:Int),vs=[.ref A.p,.int (k:Int),.int sp]/\af K H A g st os n/\k<g.n/\sp / g.size∈(st.at_ k).seq/\∀ H',az H H'->Q (.int (k8 g (st.at_ k) sp)) H'
theorem AY {ws:List Int} {m:Nat} {i:Int} (l:ws.length=m) (h0:0<=i) (h1:i<m):fS (ws.map V.int) i=some (.int (ws.getD i.toNat 0)):=by
 have e:(i.toNat:Int)=i:=by lia
 have hi:i.toNat<ws.length:=by lia
 have q:fS (ws.map V.int) (i.toNat:Int)=some (.int (ws.getD i.toNat 0)):=rN (by
  rw [aBK,a9e,af3 hi]; rfl)
 rw [e] at q
 exact q
theorem Zex (F:aY K "word_in" "Steps.word_in" KH f fd) (T:Txt K mg) (se:ay P w K mg base (aa K "Store") "words_of" 3 ZS (Ed K)) (pI:Def P w K mg base "board_of" 1 yw A6):av P w K mg base aV 4 f fd La (OU K):=by
 refine F.ok dG (λvs H Q E h=>?_) (λcdv A outer s0 H vs Q E hr h=>?_)
 .obtain ⟨A,g,st,os,n,k,sp,rfl,_⟩:=h
  rfl
 obtain ⟨A,g,st,os,n,k,sp,rfl,R,hk,hb,q⟩:=h
 have nd:=dG.nd
 refine ⟨_,(Zi (Zu (ao (Zr (K:=K) rfl) (Zk se hr.m T.gg (ao (Zr (K:=K) rfl) (Zl (K:=K) rfl (pv 0) rfl) (pv 1) (λ_ _=>rfl)) (pc (Zm pI hr.m rfl (pc (Zl (K:=K) rfl (pv 0) rfl) (pc (pv 2) Zb))) Zb)) (ak o8 (pv 2) (Zl (K:=K) rfl (pv 0) rfl)) (λ_ _=>rfl)))),?_⟩
 obtain ⟨dx,h1⟩:=R.ob
 have ln:=R.ln
 obtain ⟨a,e1,e2,e3,B⟩:=R.at_ (k:=k) (by lia)
 obtain ⟨u1,u2,u3,u4,u5,u6⟩:=R.mG (k:=k) (by lia)
 obtain ⟨ds,h3⟩:=B.aZ.ob
 have z0:=R.wf.z0
 have z1:=R.wf.z1
 refine ⟨_,rfl,A.p,_,dx,_,_,rfl,h1,T.aR,T.n8,ZT ..,_,rfl,A.ss,_,_,_,rfl,rfl,aB.of R.ss,af.ix e1,a.sp,ds,_,rfl,h3,dz ..,_,rfl,A.p,_,dx,_,_,rfl,h1,T.aR,T.ve,ym ..,_,rfl,g.size,sp,rfl,by lia,by lia,a,_,_,_,_,rfl,B,hb,λl hl=>?_⟩
 have s1:=Zd hl (.lst (((st.at_ k).wd (sp / g.size)).map V.int))
 have m0:0<=sp % g.size:=aI8 _ (by lia)
 have m1:sp % g.size<g.size:=a2j _ (by lia)
 exact ⟨_,rfl,_,rfl,A.p,_,dx,_,_,rfl,s1 _ _ h1,T.aR,T.ve,ym ..,_,_,rfl,rfl,(by show 0<g.size; lia),l,_,_,_,rfl,rfl,aB.of Za,AY (u2 _ hb).2 m0 (by lia),q _ s1⟩
def ku (g:aP) (s:Rm) (sp x:Int):Rm:=fP s (sp / g.size) ((s.wd (sp / g.size)).set (sp % g.size).toNat x)
def Qj (K:W.Frag):Sp:=λvs H Q _=>∃ (A:TA) (g:aP) (st:aq) (os:OS) (n k:Nat) (sp x:Int),vs=[.ref A.p,.int (k:Int),.int sp,.int x]/\af K H A g st os n/\k<g.n/\sp / g.size∈(st.at_ k).seq/\Res K H A g os (st.set k (ku g (st.at_ k) sp x)) n (Q .aT)
theorem Zed (F:aY K "put_word" "Steps.put_word" KU f fd) (T:Txt K mg) (ET:ay P w K mg base (aa K "Store") "lay_word" 1 Li (Qk K)) (pI:Def P w K mg base "board_of" 1 yw A6):av P w K mg base aV 2 f fd KS (Qj K):=by
 refine F.ok cS (λvs H Q E h=>?_) (λcdv A outer s0 H vs Q E hr h=>?_)
 .obtain ⟨A,g,st,os,n,k,sp,x,rfl,_⟩:=h
  rfl
 obtain ⟨A,g,st,os,n,k,sp,x,rfl,R,hk,hb,q⟩:=h
 have nd:=cS.nd
 refine ⟨_,(Zi (Zp (Zk ET hr.m T.gg (ao (Zr (K:=K) rfl) (Zl (K:=K) rfl (pv 0) rfl) (pv 1) (λ_ _=>rfl)) (pc (Zm pI hr.m rfl (pc (Zl (K:=K) rfl (pv 0) rfl) (pc (pv 2) Zb))) (pc (ak o8 (pv 2) (Zl (K:=K) rfl (pv 0) rfl)) (pc (pv 3) Zb)))))),?_⟩
 obtain ⟨dx,h1⟩:=R.ob
 have ln:=R.ln
 obtain ⟨a,e1,e2,e3,B⟩:=R.at_ (k:=k) (by lia)
 obtain ⟨u1,u2,u3,u4,u5,u6⟩:=R.mG (k:=k) (by lia)
 obtain ⟨ds,h3⟩:=B.aZ.ob
 have z0:=R.wf.z0
 have z1:=R.wf.z1
 have m0:0<=sp % g.size:=aI8 _ (by lia)
 have m1:sp % g.size<g.size:=a2j _ (by lia)
 have lw:=(u2 _ hb).2
 refine ⟨_,rfl,A.p,_,dx,_,_,rfl,h1,T.aR,T.n8,ZT ..,_,rfl,A.ss,_,_,_,rfl,rfl,aB.of R.ss,af.ix e1,a.sp,ds,_,rfl,h3,dz ..,_,rfl,A.p,_,dx,_,_,rfl,h1,T.aR,T.ve,ym ..,_,rfl,g.size,sp,rfl,by lia,by lia,_,rfl,_,rfl,A.p,_,dx,_,_,rfl,h1,T.aR,T.ve,ym ..,_,_,rfl,rfl,(by show 0<g.size; lia),_,rfl,a,_,_,_,_,_,x,rfl,B,hb,m0,by lia,λH1 B1 p1=>?_⟩
 obtain ⟨R1,p2⟩:=R.fm e1 e2 B1 p1 (λy hy=>by
  show y∈g.U/\(if y=sp / g.size then _ else (st.at_ k).wd y).length=_
  by_cases z:y=sp / g.size
  .rw [abw z,akC,z]; exact u2 _ hb
  .rw [aM3 z]; exact u2 y hy) u3
 exact q _ _ R1 p2
end
def Wr (s:Str):Prop:=s = "late" \/ s = "through"
structure bI (K:W.Frag) (H:Hp) (tp:Addr) (ts:List Addr) (aF:List Cf):Prop where
 top:H tp=some (.tup (ts.map V.ref))
 len:ts.length=aF.length
 at_:∀ (i:Nat) (t:Addr) (c:Cf),ts[i]?=some t->aF[i]?=some c->∃ wr:Str,H t=some (.tup [.int c.sh,.int c.pl,.str c.ru,.str wr])/\c.late=decide (wr = "late")/\Wr wr
 cf:∀ c∈aF,1<=c.sh/\c.sh<=64/\1<=c.pl/\c.pl<=16/\tH c.ru
theorem bI.frame {K:W.Frag} {H H':Hp} {tp:Addr} {ts:List Addr} {aF:List Cf} (p:bI K H tp ts aF) (s:∀ x ys,H x=some (.tup ys)->H' x=some (.tup ys)):bI K H' tp ts aF :=
 ⟨s _ _ p.top,p.len,λi t c h1 h2=>by obtain ⟨wr,e1,e2⟩:=p.at_ i t c h1 h2; exact ⟨wr,s _ _ e1,e2⟩,p.cf⟩
theorem bI.same {K:W.Frag} {H H':Hp} {tp:Addr} {ts:List Addr} {aF:List Cf} (p:bI K H tp ts aF) (s:az H H'):bI K H' tp ts aF :=
 ⟨s _ _ p.top,p.len,λi t c h1 h2=>by obtain ⟨wr,e1,e2⟩:=p.at_ i t c h1 h2; exact ⟨wr,s _ _ e1,e2⟩,p.cf⟩
def Sl (size:Int) (ss bm:Addr) (last:Nat) (ev:Addr):List (Str×V):=ai "events" (.ref ev) (ai "last" (.int last) (ai "bottom" (.ref bm) (ai "stores" (.ref ss) (ai "size" (.int size) []))))
structure yF (K:W.Frag) (H G:Hp) (as:List SA) (aF:List Cf) (os:OS):Prop where
 at_:∀ (i:Nat) (a:SA) (c:Cf),as[i]?=some a->aF[i]?=some c->aA K G a c mj (os i)
 fr:∀ i,i<as.length->∀ x,os i x->H x=none
 oF:∀ i j,i<as.length->j<as.length->i≠j->∀ x,os i x->¬ os j x
theorem yF.frame {K:W.Frag} {H G G':Hp} {as:List SA} {aF:List Cf} {os:OS} {p:Addr} (m:yF K H G as aF os) (hp:H p≠none) (f:∀ x o,G x=some o->x≠p->G' x=some o):yF K H G' as aF os :=
 ⟨λi a c h1 h2=>(m.at_ i a c h1 h2).frame λx o h e=>f x o e λz=>hp (z ▸ m.fr i (a2U.mp h1).1 x h),m.fr,m.oF⟩
theorem yF.ex {K:W.Frag} {H G:Hp} {as:List SA} {aF:List Cf} {os:OS} (m:yF K H G as aF os) (l:as.length<=aF.length) {i:Nat} (hi:i<as.length) {x:Addr} (h:os i x):G x≠none :=
 (m.at_ i _ _ (af3 hi) (af3 (akK hi l))).aZ.ex x h
def oO (n:Nat):aq:=⟨List.replicate n mj,λ_=>0,[]⟩
section
def Jb (K:W.Frag):Sp:=λvs H Q _=>∃ (p dx tp:Addr) (size:Int) (ts:List Addr) (aF:List Cf),vs=[.ref p,.int size,.ref tp]/\H p=some (.ins (aa K "Stairs") dx [])/\bI K H tp ts aF/\aF.length<=4/\Tb K H /\
 ∀ (A:TA) (os:OS) (H':Hp),A.p=p->H' p=some (.ins (aa K "Stairs") dx (Sl size A.ss A.bm A.as.length A.ev))->(∀ kind U,WF ⟨size,kind,aF,U⟩->af K (upd H' p (.ins (aa K "Stairs") dx (br size A.ss A.bm A.as.length A.ev kind))) A ⟨size,kind,aF,U⟩ (oO aF.length) os 0) ->
  (∀ x,OW A os x->x≠p->H x=none)->(∀ b o,H b=some o->b≠p->H' b=some o)->Q .aT H'
theorem ZgJ (F:aY K "__init__" "Steps.__init__" ZX f fd) (T:Txt K mg) (Gr:nG P w K mg base (aa K "Store") "Store" 3 Kz (N1 K)) (Gu:nG P w K mg base (aa K "Memory") "Memory" 1 Kn (tX K)):av P w K mg base aV 5 f fd BG (Jb K):=by
 refine F.ok gw (λvs H Q E h=>?_) (λcdv A outer s0 H vs Q E hr h=>?_)
 .obtain ⟨p,dx,tp,size,ts,aF,rfl,_⟩:=h
  rfl
 obtain ⟨p,dx,tp,size,ts,aF,rfl,hp,pa,l4,tb,k⟩:=h
 have nd:=gw.nd
 refine ⟨_,(Zf (k6 (pv 0) (pv 1) rfl)
   (Zf (k6 (pv 0) (uS (ZL (iZ:=(Zh ZX)) (oN:=ef) (N:=["room_plan"]) (own:=1) (js:=[]) (by decide +kernel) rfl rfl) rfl (OF (K:=K) rfl (pv 2)) (λ_ _ _ _ _ _=>(bZ 0 (show List.Nodup (["room_plan"]:List Str) by decide +kernel))) (λ_ _ _ _ _ _=>(Be Gr hr.m rfl (pc (pv 0) Zb)))) rfl)
   (Zf (k6 (pv 0) (Be Gu hr.m rfl (pc (pv 1) Zb)) rfl)
   (Zf (k6 (pv 0) (Zn (Zx (K:=K) rfl) rfl T.nJ aoN (pc (Zl (K:=K) rfl (pv 0) rfl) Zb)) rfl)
   (Zi (k6 (pv 0) (j8 Zb) rfl)))))),?_⟩
 refine ⟨_,rfl,_,rfl,p,_,dx,_,rfl,hp,T.aR,T.ve,(by show 0<1000; decide),?_⟩
 have fu:∀ {G:Hp} {o':HO} x o,G x=some o->x≠p->upd G p o' x=some o:=λx o e n=>by rw [Zc n]; exact e
 have xU:H p≠none:=by rw [hp]; simp
 have nk:∀ {x o},H x=some o->(∀ C d f,o≠.ins C d f)->x≠p:=λ{x o} q m z=>by rw [z,hp] at q; exact m _ _ _ (avM q).symm
 have e1:upd H p (.ins (aa K "Stairs") dx (ai "size" (.int size) [])) p=some (.ins (aa K "Stairs") dx (ai "size" (.int size) [])):=Za
 have f1:∀ x o,H x=some o->x≠p->upd H p (.ins (aa K "Stairs") dx (ai "size" (.int size) [])) x=some o:=fu
 have n1:∀ x,upd H p (.ins (aa K "Stairs") dx (ai "size" (.int size) [])) x=none->H x=none:=λx e=>by
  by_cases z:x=p
  .rw [z,Za] at e; cases e
  .rw [Zc z] at e; exact e
 generalize upd H p (.ins (aa K "Stairs") dx (ai "size" (.int size) []))=H1 at *
 have FZ:=pa.frame (H':=H1) λx ys e=>f1 x _ e (nk e (λ_ _ _ z=>by cases z))
 refine ⟨_,rfl,tp,rfl,⟨_,aK.of FZ.top⟩,λss hss=>?_⟩
 refine O6 (K:=K) (a:=tp) (xs:=ts.map V.ref) (l:=ss) (λj ys σ G=>∃ (v0:Option V) (as:List SA) (os:OS),σ=[v0]/\ys=as.map (λa=>V.ref a.sp)/\as.length=j/\G ss=some (.lst ys)/\az H1 G/\yF K H G as aF os/\∀ i,i<as.length->¬ os i ss)
  ⟨none,[],λ_ _=>False,rfl,rfl,rfl,Za,Zd hss _,⟨λi a c h=>by simp at h,λi h=>by simp at h,λi j h=>by simp at h⟩,λi h=>by simp at h⟩ (λj ys σ G _ ⟨_,_,_,_,_,_,_,s,_⟩=>aK.of (s _ _ FZ.top)) ?_ ?_
 .rintro j x ys σ G hj Ak hys ⟨v0,as,os,rfl,rfl,hlen,g1,s1,mk,ns⟩
  rw [aK1] at hj
  rw [aBK] at Ak
  obtain ⟨t,et,rfl⟩:∃ t,ts[j]?=some t/\V.ref t=x:=by
   cases e:ts[j]? with
   | none=>rw [e] at Ak; cases Ak
   | some t=>rw [e] at Ak; exact ⟨t,rfl,avM Ak⟩
  have Mu:j<aF.length:=by rw [← pa.len]; exact hj
  have ec:aF[j]?=some aF[j]:=af3 Mu
  obtain ⟨wr,q1,q2,_⟩:=FZ.at_ j t _ et ec
  have cb:=pa.cf _ (aPI Mu)
  have zx:=s1 _ _ q1
  refine ⟨_,rfl,λx wc hx hdx ne=>⟨x,wc,t,aF[j].sh,aF[j].pl,aF[j].ru,wr,rfl,Za,aK.of ?_,cb.1,cb.2.1,λa G1 ea S1 k2=>⟨rfl,?_⟩⟩⟩
  .rw [Zc (Ze zx hx),Zc (Ze zx hdx)]; exact zx
  have sG:az G G1:=λy o e=>k2 y o (by rw [Zc (Ze e hx),Zc (Ze e hdx)]; exact e) (Ze e hx)
  have oX:∀ y,(y=x\/(upd (upd G wc (.own x)) x (.ins (aa K "Store") wc []) y=none/\G1 y≠none))->G y=none:=λy h=>by
   rcases h with h | h
   .rw [h]; exact hx
   .cases q:G y with
    | none=>rfl
    | some o=>have e:=h.1; rw [Zc (Ze q hx),Zc (Ze q hdx),q] at e; cases e
  rw [show (⟨aF[j].sh,aF[j].pl,aF[j].ru,decide (wr = "late")⟩:Cf)=aF[j] by rw [← q2]] at S1
  rw [show V.ref x=V.ref a.sp by rw [ea]]
  have C4:=sG _ _ g1
  have xN:as.length<=aF.length:=by lia
  obtain ⟨N,S1,oX⟩:∃ N:Addr->Prop,aA K G1 a aF[j] mj N/\∀ y,N y->G y=none:=⟨_,S1,oX⟩
  have nN:¬ N ss:=λh=>by have q:=oX ss h; rw [g1] at q; cases q
  have la:∀ {i:Nat} {b:SA},(as++[a])[i]?=some b->(i<as.length/\as[i]?=some b)\/(i=as.length/\b=a):=λ{i b} hb=>by
   by_cases hi:i<as.length
   .rw [aY3 hi] at hb; exact .inl ⟨hi,hb⟩
   .have:=(a2U.mp hb).1
    rw [aCv,adf] at this
    have hi2:i=as.length:=by lia
    subst hi2
    rw [auv (aEt _),a2d] at hb
    cases hb
    exact .inr ⟨rfl,rfl⟩
  have os':∀ {i},i<as.length->(os.set as.length N) i=os i:=λ{i} h=>aM3 (by lia)
  have zE:(os.set as.length N) as.length=N:=abw rfl
  have cs:∀ {i},i<(as++[a]).length->i<as.length\/i=as.length:=λ{i} h=>by rw [aCv,adf] at h; lia
  refine jR.of (a9L (ZA (by rw [aK1,pa.len]; lia))) (by rw [aK1]; exact hj) hys C4 ⟨_,as++[a],os.set as.length N,rfl,by rw [aIV]; rfl,by rw [aCv,hlen]; rfl,Za,λy o e=>?_,⟨λi b c hb hc=>?_,λi hi y hy=>?_,λi i' hi hi' nn y h1 h2=>?_⟩,λi hi=>?_⟩
  .rw [Zc (Ze e hss)]; exact sG _ _ (s1 _ _ e)
  .rcases la hb with ⟨hi,hb⟩ | ⟨hi,rfl⟩
   .rw [os' hi]
    exact (mk.at_ i b c hb hc).frame λy o h e=>by rw [Zc (λz:y=ss=>ns i hi (z ▸ h))]; exact sG _ _ e
   .subst hi
    rw [zE]
    rw [hlen,ec] at hc; cases hc
    exact S1.frame λy o h e=>by rw [Zc (λz:y=ss=>nN (z ▸ h))]; exact e
  .rcases cs hi with h | h
   .rw [os' h] at hy; exact mk.fr i h y hy
   .rw [h,zE] at hy; exact n1 _ (s1.free (oX y hy))
  .rcases cs hi with a1 | a1
   .rw [os' a1] at h1
    rcases cs hi' with a2 | a2
    .rw [os' a2] at h2; exact mk.oF i i' a1 a2 nn y h1 h2
    .rw [a2,zE] at h2; exact mk.ex xN a1 h1 (oX y h2)
   .rw [a1,zE] at h1
    rcases cs hi' with a2 | a2
    .rw [os' a2] at h2; exact mk.ex xN a2 h2 (oX y h1)
    .exact nn (a1.trans a2.symm)
  .rcases cs hi with h | h
   .rw [os' h]; exact ns i h
   .rw [h,zE]; exact nN
 rintro ys σ G hys ⟨v0,as,os,rfl,rfl,hlen,g1,s1,mk,ns⟩
 rw [aK1,pa.len] at hlen
 have hp2:=s1 _ _ e1
 have fG:∀ x o,H x=some o->x≠p->G x=some o:=λx o e n=>s1 _ _ (f1 x o e n)
 refine ⟨_,rfl,p,_,dx,_,rfl,hp2,T.aR,T.n8,(by show 1<1000; decide),?_⟩
 have CD:ss≠p:=λz=>by rw [z,hp2] at g1; cases g1
 have e2:upd G p (.ins (aa K "Stairs") dx (ai "stores" (.ref ss) (ai "size" (.int size) []))) p=some (.ins (aa K "Stairs") dx (ai "stores" (.ref ss) (ai "size" (.int size) []))):=Za
 have f2:∀ x o,G x=some o->x≠p->upd G p (.ins (aa K "Stairs") dx (ai "stores" (.ref ss) (ai "size" (.int size) []))) x=some o:=fu
 generalize upd G p (.ins (aa K "Stairs") dx (ai "stores" (.ref ss) (ai "size" (.int size) [])))=H2 at *
 have mk2:=mk.frame xU f2
 refine ⟨_,rfl,λbm bx hbm Mw nbx=>⟨bm,bx,size,rfl,Za,λdk H3 M3 MN k3=>⟨rfl,?_⟩⟩⟩
 have s3:az H2 H3:=λy o e=>k3 y o (by rw [Zc (Ze e hbm),Zc (Ze e Mw)]; exact e) (Ze e hbm)
 have zQ:H2 dk=none:=by
  cases q:H2 dk with
  | none=>rfl
  | some o=>rw [Zc (Ze q hbm),Zc (Ze q Mw),q] at MN; cases MN
 have e3:=s3 _ _ e2
 have oq:p≠bm:=Ze e2 hbm
 have F5:p≠dk:=Ze e2 zQ
 refine ⟨_,rfl,p,_,dx,_,rfl,e3,T.aR,T.Ck,(by show 2<1000; decide),?_⟩
 have e4:upd H3 p (.ins (aa K "Stairs") dx (ai "bottom" (.ref bm) (ai "stores" (.ref ss) (ai "size" (.int size) [])))) p=some (.ins (aa K "Stairs") dx (ai "bottom" (.ref bm) (ai "stores" (.ref ss) (ai "size" (.int size) [])))):=Za
 have f4:∀ x o,H3 x=some o->x≠p->upd H3 p (.ins (aa K "Stairs") dx (ai "bottom" (.ref bm) (ai "stores" (.ref ss) (ai "size" (.int size) [])))) x=some o:=fu
 generalize upd H3 p (.ins (aa K "Stairs") dx (ai "bottom" (.ref bm) (ai "stores" (.ref ss) (ai "size" (.int size) []))))=H4 at *
 have g4:=f4 _ _ (s3 _ _ (f2 _ _ g1 CD)) CD
 have Ub:(ai "bottom" (.ref bm) (ai "stores" (.ref ss) (ai "size" (.int size) [])):List (Str×V)).lookup ("stores" : Str)=some (.ref ss):=by rw [Zg,aM3 (by decide +kernel),Zg,abw rfl]
 refine ⟨_,rfl,p,_,dx,_,_,rfl,e4,T.aR,T.n8,Ub,ss,_,rfl,.inl (aB.of g4),_,rfl,p,_,dx,_,rfl,e4,T.aR,T.qf,(by show 3<1000; decide),?_⟩
 rw [aK1]
 have e5:upd H4 p (.ins (aa K "Stairs") dx (ai "last" (.int (as.length:Int)) (ai "bottom" (.ref bm) (ai "stores" (.ref ss) (ai "size" (.int size) []))))) p=some (.ins (aa K "Stairs") dx (ai "last" (.int (as.length:Int)) (ai "bottom" (.ref bm) (ai "stores" (.ref ss) (ai "size" (.int size) []))))):=Za
 have f5:∀ x o,H4 x=some o->x≠p->upd H4 p (.ins (aa K "Stairs") dx (ai "last" (.int (as.length:Int)) (ai "bottom" (.ref bm) (ai "stores" (.ref ss) (ai "size" (.int size) []))))) x=some o:=fu
 generalize upd H4 p (.ins (aa K "Stairs") dx (ai "last" (.int (as.length:Int)) (ai "bottom" (.ref bm) (ai "stores" (.ref ss) (ai "size" (.int size) [])))))=H5 at *
 have MT:∀ x o,H3 x=some o->x≠p->H5 x=some o:=λx o e n=>f5 _ _ (f4 _ _ e n) n
 have MU:∀ x o,H2 x=some o->x≠p->H5 x=some o:=λx o e n=>MT _ _ (s3 _ _ e) n
 have Gg:=mk2.frame xU MU
 have Hu:∀ x o,H x=some o->x≠p->H5 x=some o:=λx o e n=>MU _ _ (f2 _ _ (fG x o e n) n) n
 refine ⟨(sl 0),λev hev=>⟨_,rfl,p,_,dx,_,rfl,Zd hev _ _ _ e5,T.aR,T.vd,(by show 4<1000; decide),?_⟩⟩
 have s6:=Zd hev (.lst ([]:List V))
 have LU:ev≠p:=λz=>by rw [z,e5] at hev; cases hev
 have xN:as.length<=aF.length:=by lia
 have nH:∀ {x},H5 x=none->x≠p->H x=none:=λ{x} h n=>by
  cases q:H x with
  | none=>rfl
  | some o=>rw [Hu x o q n] at h; cases h
 have L0:∀ {x},H2 x=none->x≠p->H x=none:=λ{x} h n=>by
  cases q:H x with
  | none=>rfl
  | some o=>rw [f2 _ _ (fG x o q n) n] at h; cases h
 refine k ⟨p,ss,bm,dk,ev,as⟩ os _ rfl Za (λkind U wf=>?_) (λx hx n=>?_) λx o e n=>?_
 .rw [IJ]
  have ff:∀ x o,H5 x=some o->x≠p->upd (upd H5 ev (.lst [])) p (.ins (aa K "Stairs") dx (br size ss bm as.length ev kind)) x=some o:=λx o e n=>fu x o (s6 _ _ e) n
  have Gf:=Gg.frame xU ff
  have g5:=f5 _ _ g4 CD
  have rp:∀ {s:Rm},s∈List.replicate aF.length mj->s=mj:=λh=>(ag9.mp h).2
  refine ⟨⟨dx,Za⟩,ff _ _ g5 CD,(M3 U).frame λx o m e=>ff x o (MT x o e ?_) ?_,⟨(λe m=>by cases m),[],by show upd _ p _ ev=_; rw [Zc LU]; exact Za,rfl,λi t e q _=>by simp at q⟩,aEt _,hlen.symm,by show (List.replicate _ _).length=_; rw [aBM]; exact hlen.symm,λj b c s hb hc hs=>?_,λj hj x h z=>?_,Gf.oF,Ze g5 hev,oq,λs hs b hb=>?_,λj c s hc hs t=>?_,λs hs b hb=>?_,wf,ff _ _ (Hu _ _ tb (nk tb (λ_ _ _ z=>by cases z))) (nk tb (λ_ _ _ z=>by cases z))⟩
  .rcases m with rfl | rfl; exact a4v oq; exact a4v F5
  .rcases m with rfl | rfl; exact a4v oq; exact a4v F5
  .have hs:(List.replicate aF.length mj)[j]?=some s:=hs
   rw [rp (aBD hs)]
   exact Gf.at_ j b c hb hc
  .rcases z with z | z | z | z | z
   .exact xU ((show x=p from z) ▸ Gf.fr j hj x h)
   .exact ns j hj ((show x=ss from z) ▸ h)
   .exact mk2.ex xN hj h (by rw [z]; exact hbm)
   .exact mk2.ex xN hj h (by rw [z]; exact zQ)
   .exact Gg.ex xN hj h (by rw [z]; exact hev)
  .rw [rp hs] at hb; exact absurd hb (by simp [mj])
  .have hs:(List.replicate aF.length mj)[j]?=some s:=hs
   rw [rp (aBD hs)]
   show ((0:Nat):Int)<=c.pl
   have:=(wf.cf c (aBD hc)).1
   lia
  .rw [rp hs] at hb; exact absurd hb (by simp [mj])
 .rcases hx with hx | ⟨j,hj,hx⟩
  .rcases hx with z | z | z | z | z
   .exact absurd z n
   .rw [z]; exact n1 _ hss
   .rw [z]; exact L0 hbm (a4v oq)
   .rw [z]; exact L0 zQ (a4v F5)
   .rw [z]; exact nH hev LU
  .exact Gg.fr j hj x hx
 .rw [Zc n]
  exact s6 _ _ (Hu x o e n)
def Jz (K:W.Frag):Sp:=λvs H Q _=>∃ (p dx pp tp:Addr) (size:Int) (kind:Str) (ts:List Addr) (aF:List Cf),vs=[.ref p,.ref pp]/\H p=some (.ins (aa K "Stairs") dx [])/\H pp=some (.tup [.int size,.str kind,.ref tp])/\bI K H tp ts aF/\aF.length<=4/\Tb K H /\
 ∀ (A:TA) (os:OS) (H':Hp),A.p=p->(∀ U,WF ⟨size,kind,aF,U⟩->af K H' A ⟨size,kind,aF,U⟩ (oO aF.length) os 0)->(∀ x,OW A os x->x≠p->H x=none)->(∀ b o,H b=some o->b≠p->H' b=some o)->Q .aT H'
theorem ZfH (F:aY K "__init__" "Stairs.__init__" Kh f fd) (T:Txt K mg) (GC:wR P w K mg base "Steps" "__init__" 5 BG (Jb K)):av P w K mg base aV 6 f fd Er (Jz K):=by
 refine F.ok fL (λvs H Q E h=>?_) (λcdv A outer s0 H vs Q E hr h=>?_)
 .obtain ⟨p,dx,pp,tp,size,kind,ts,aF,rfl,_⟩:=h
  rfl
 obtain ⟨p,dx,pp,tp,size,kind,ts,aF,rfl,hp,hpp,pa,l4,tb,q⟩:=h
 have nd:=fL.nd
 refine ⟨_,(Zf (mH (pv 1) (mJ (K:=K) (n:=3) rfl rfl (Zt (bZ 2 nd) (Zt (bZ 3 nd) (Zt (bZ 4 nd) mK)))))
   (Zf (Zp (WB GC hr.m rfl (pc (pv 0) (pc (pv 2) (pc (pv 4) Zb)))))
   (Zi (k6 (pv 0) (pv 3) rfl)))),?_⟩
 refine ⟨_,rfl,pp,_,rfl,aK.of hpp,rfl,_,_,rfl,gN ⟨_,_,rfl,gN ⟨_,_,rfl,gN ⟨rfl,?_⟩⟩⟩⟩
 try dsimp only
 refine ⟨_,rfl,_,rfl,_,rfl,p,dx,tp,size,ts,aF,rfl,hp,pa,l4,tb,λA os H1 ep h1 RS f1 k1=>?_⟩
 refine ⟨_,rfl,_,rfl,p,_,dx,_,rfl,h1,T.aR,T.E7,(by show 5<1000; decide),?_⟩
 exact q A os _ ep (λU wf=>RS kind U wf) f1 λx o e n=>by rw [Zc n]; exact k1 x o e n
end
def nearF (st:aq) (b:Int):Nat:=st.rm.findIdx λs=>decide (b∈s.seq)
def pP (k:Nat) (b:Int) (st:aq):aq:=st.set k (vV (st.at_ k) b)
def bC (g:aP) (b:Int) (ws:List Int):Nat->Nat->aq->aq
 | 0,k,st=>cD g k b ws st
 | r+1,k,st=>if b∈(st.at_ k).seq then (if (g.cf k).late=true then pP k b (cD g k b ws st) else bC g b ws r (k+1) (cD g k b ws st)) else bC g b ws r (k+1) st
def ZC (g:aP) (k:Nat) (b:Int) (st:aq):aq:=if (g.cf k).late=true then pP k b st else bC g b ((st.at_ k).wd b) (g.n - (k+1)) (k+1) st
def aL (b:Int):Nat->aq->List Int->Bool->aq×List Int×Bool
 | 0,st,ws,fr=>(st,ws,fr)
 | j+1,st,ws,fr=>if b∈(st.at_ j).seq then aL b j (dN j b st) ((st.at_ j).wd b) (fr || (st.at_ j).fr b) else aL b j st ws fr
def b7 (g:aP) (k:Nat) (b:Int) (st:aq):aq×List Int×Bool:=if g.kind = "within" then aL b k (dN k b st) ((st.at_ k).wd b) ((st.at_ k).fr b) else (dN k b st,(st.at_ k).wd b,(st.at_ k).fr b)
def kR (g:aP) (k:Nat) (b:Int) (st:aq):aq:=if (b7 g k b st).2.2=true then bC g b (b7 g k b st).2.1 (g.n - (k+1)) (k+1) (b7 g k b st).1 else (b7 g k b st).1
noncomputable def ZN (g:aP) (j:Nat) (b:Int) (st:aq):aq:=match eY (g.cf j) (st.at_ j) b with
 | none=>st
 | some o=>kR g j o st
noncomputable def fR (g:aP) (b:Int) (ws:List Int):Nat->aq->aq
 | 0,st=>st
 | j+1,st=>fR g b ws j (bF j b ws (ZN g j b st))
def bJ (g:aP) (k:Nat) (b:Int) (st:aq):aq:=if k<g.n then st.set k (kg (g.cf k) (st.at_ k) b) else st
noncomputable def A3 (g:aP) (k:Nat) (b:Int) (st:aq):aq:=fR g b (kT g (bJ g k b st) k b) k (bJ g k b st)
def bG (g:aP) (k:Nat) (b:Int) (ws:List Int) (fr:Bool) (st:aq):aq:=if fr=true then ZC g k b (bF k b ws st) else bF k b ws st
noncomputable def pushS (g:aP):Nat->Nat->Int->List Int->Bool->aq->aq
 | 0,k,b,ws,fr,st=>if fr=true then cD g k b ws st else st
 | r+1,k,b,ws,fr,st=>match eY (g.cf k) (st.at_ k) b with
  | none=>bG g k b ws fr st
  | some o=>pushS g r (k+1) o ((st.at_ k).wd o) ((st.at_ k).fr o) (bG g k b ws fr (dN k o st))
noncomputable def uI (g:aP) (k:Nat) (b:Int) (st:aq):aq:=if k=0 then bJ g 0 b st else if k=g.n then pushS g g.n 0 b (bg g.size st.mem b) false st else pushS g g.n 0 b ((st.at_ k).wd b) ((st.at_ k).fr b) (dN k b st)
noncomputable def Zw (g:aP) (b:Int) (st:aq):aq:=if g.kind = "apart" then uI g (nearF st b) b (st.tell (eF (nearF st b))) else A3 g (nearF st b) b (st.tell (eF (nearF st b)))
noncomputable def uH (g:aP) (sp x:Int) (st:aq):aq:=(λs1:aq=>ZC g 0 (sp / g.size) (s1.set 0 (ku g (s1.at_ 0) sp x))) (Zw g (sp / g.size) st)
theorem sZ {st:aq} {k j:Nat} {s:Rm}:(st.set k s).at_ j=if j=k/\k<st.rm.length then s else st.at_ j:=by
 by_cases h:k<st.rm.length
 .rw [aq.jx h]
  by_cases z:j=k
  .rw [abw z,abw ⟨z,h⟩]
  .rw [aM3 z,aM3 (λq=>z q.1)]
 .rw [aM3 (λq=>h q.2)]
  unfold aq.at_ aq.set
  rw [List.set_eq_of_length_le (by lia)]
theorem sW {st:aq} {e:List V} {j:Nat}:(st.tell e).at_ j=st.at_ j:=rfl
theorem Df {st:aq} {k j:Nat} {s:Rm} (h:s.seq=(st.at_ k).seq):((st.set k s).at_ j).seq=(st.at_ j).seq:=by
 rw [sZ]
 split
 .rename_i q; rw [h,q.1]
 .rfl
theorem bu {st:aq} {k:Nat} {s:Rm}:(st.set k s).rm.length=st.rm.length:=akC ..
theorem sU {g:aP} {k:Nat} {b:Int} {ws:List Int} {st:aq} {j:Nat}:((cD g k b ws st).at_ j).seq=(st.at_ j).seq:=by
 unfold cD
 split
 .rfl
 .exact Df rfl
theorem DR {g:aP} {k:Nat} {b:Int} {ws:List Int} {st:aq}:(cD g k b ws st).rm.length=st.rm.length:=by
 unfold cD
 split
 .rfl
 .exact bu
theorem OT {k j:Nat} {b:Int} {st:aq}:((pP k b st).at_ j).seq=(st.at_ j).seq:=Df rfl
theorem jc {g:aP} {b:Int} {ws:List Int} {j:Nat}:∀ {r k:Nat} {st:aq},((bC g b ws r k st).at_ j).seq=(st.at_ j).seq
 | 0,k,st=>sU
 | r+1,k,st=>by
  rw [bC]
  split
  .split
   .rw [OT,sU]
   .exact jc.trans sU
  .exact jc
theorem j7 {g:aP} {k:Nat} {b:Int} {st:aq} {j:Nat}:((ZC g k b st).at_ j).seq=(st.at_ j).seq:=by
 unfold ZC
 split
 .exact OT
 .exact jc
theorem j4 {k j:Nat} {b:Int} {st:aq} (h:k<st.rm.length):((dN k b st).at_ j).seq=if j=k then (st.at_ j).seq.erase b else (st.at_ j).seq:=by
 unfold dN
 rw [aq.jx (by exact h)]
 by_cases z:j=k
 .rw [abw z,abw z,z]; rfl
 .rw [aM3 z,aM3 z]; rfl
theorem bL {k:Nat} {b:Int} {st:aq}:(dN k b st).rm.length=st.rm.length:=bu
theorem Ja {b:Int} {j:Nat}:∀ {k:Nat} {st:aq} {ws:List Int} {fr:Bool},k<=st.rm.length->((aL b k st ws fr).1.at_ j).seq=if j<k then (st.at_ j).seq.erase b else (st.at_ j).seq
 | 0,st,ws,fr,_=>by rw [aL,aM3 (by lia)]
 | k+1,st,ws,fr,h=>by
  rw [aL]
  split
  .rw [Ja (by rw [bL]; lia),j4 (by lia)]
   by_cases z:j=k
   .rw [aM3 (by lia),abw z,abw (by lia)]
   .rw [aM3 z]
    by_cases y:j<k
    .rw [abw y,abw (by lia)]
    .rw [aM3 y,aM3 (by lia)]
  .rename_i m
   rw [Ja (by lia)]
   by_cases z:j=k
   .rw [aM3 (by lia),abw (by lia),z,adJ m]
   .by_cases y:j<k
    .rw [abw y,abw (by lia)]
    .rw [aM3 y,aM3 (by lia)]
theorem Oo {g:aP} {k:Nat} {b:Int} {st:aq} {j:Nat} (h:k<st.rm.length):((b7 g k b st).1.at_ j).seq=if j=k\/(g.kind = "within" /\ j<k) then (st.at_ j).seq.erase b else (st.at_ j).seq:=by
 unfold b7
 split
 .rename_i w
  rw [Ja (by rw [bL]; lia),j4 h]
  by_cases z:j=k
  .rw [aM3 (by lia),abw z,abw (.inl z)]
  .rw [aM3 z]
   by_cases y:j<k
   .rw [abw y,abw (.inr ⟨w,y⟩)]
   .rw [aM3 y,aM3 (by lia)]
 .rename_i w
  show ((dN k b st).at_ j).seq=_
  rw [j4 h]
  by_cases z:j=k
  .rw [abw z,abw (.inl z)]
  .rw [aM3 z,aM3 (λq=>q.elim z λq=>w q.1)]
theorem OR {g:aP} {k:Nat} {b:Int} {st:aq} {j:Nat} (h:k<st.rm.length):((kR g k b st).at_ j).seq=if j=k\/(g.kind = "within" /\ j<k) then (st.at_ j).seq.erase b else (st.at_ j).seq:=by
 unfold kR
 split
 .rw [jc]; exact Oo h
 .exact Oo h
theorem yl {k j:Nat} {b:Int} {ws:List Int} {st:aq} (h:k<st.rm.length):((bF k b ws st).at_ j).seq=if j=k then (st.at_ j).seq++[b] else (st.at_ j).seq:=by
 unfold bF
 rw [sW,aq.jx h]
 by_cases z:j=k
 .rw [abw z,abw z,z]; rfl
 .rw [aM3 z,aM3 z]
theorem Jy {g:aP} {k j:Nat} {b:Int} {ws:List Int} {fr:Bool} {st:aq} (h:k<st.rm.length):((bG g k b ws fr st).at_ j).seq=if j=k then (st.at_ j).seq++[b] else (st.at_ j).seq:=by
 unfold bG
 split
 .rw [j7]; exact yl h
 .exact yl h
theorem DQ {st:aq} {b:Int} (h:nearF st b<st.rm.length):b∈(st.at_ (nearF st b)).seq:=by
 have e:=aq.at_of h
 rw [af3 h] at e
 have:=List.findIdx_getElem (w:=h)
 rw [ayt] at this
 rw [← avM e]
 exact this
theorem DZ {st:aq} {b:Int} {j:Nat} (h:j<nearF st b) (hl:j<st.rm.length):b∉(st.at_ j).seq:=by
 have e:=aq.at_of hl
 rw [af3 hl] at e
 rw [← avM e]
 have:=List.not_of_lt_findIdx h
 simpa using this
theorem yk (st:aq) (b:Int):nearF st b<=st.rm.length:=List.findIdx_le_length
theorem yx {c:Cf} {s:Rm} {b g:Int} (h:eY c s b=some g):g∈s.seq/\g % c.sh=b % c.sh/\gD c.ru s.us c.pl (Zo c.sh (b % c.sh) s.seq) (some g):=by
 unfold eY at h
 split at h
 .rename_i e
  have q:=Classical.choose_spec e
  rw [h] at q
  by_cases l:((Zo c.sh (b % c.sh) s.seq).length:Int)<c.pl
  .exact absurd (q.1 l) (by simp)
  .obtain ⟨g',r,e',p,_⟩:=q.2 l
   cases e'
   have m:=bz.mp (p.mem_iff.mp aFv)
   exact ⟨m.1,m.2,q⟩
 .cases h
theorem Om {c:Cf} {s:Rm} {b:Int} (h:gD c.ru s.us c.pl (Zo c.sh (b % c.sh) s.seq) none):((Zo c.sh (b % c.sh) s.seq).length:Int)<c.pl:=by
 by_cases l:((Zo c.sh (b % c.sh) s.seq).length:Int)<c.pl
 .exact l
 .obtain ⟨_,_,z,_⟩:=h.2 l
  cases z
theorem OQ {c:Cf} {seq:List Int} {b g:Int} (hf:∀ t,((Zo c.sh t seq).length:Int)<=c.pl) (h:g∈seq) (e:g % c.sh=b % c.sh):((Zo c.sh (b % c.sh) (seq.erase g)).length:Int)<c.pl:=by
 have m:g∈Zo c.sh (b % c.sh) seq:=bz.mpr ⟨h,e⟩
 rw [BF,List.length_erase_of_mem m]
 have:=List.length_pos_of_mem m
 have:=hf (b % c.sh)
 lia
section
def Qi (K:W.Frag):Sp:=λvs H Q _=>∃ (A:TA) (g:aP) (st:aq) (os:OS) (n:Nat) (b:Int),vs=[.ref A.p,.int b]/\af K H A g st os n/\∀ H',az H H'->Q (.int (nearF st b:Nat)) H'
theorem Zeg (F:aY K "nearest" "Stairs.nearest" KR f fd) (T:Txt K mg) (rY:ay P w K mg base (aa K "Store") "has" 2 Bv (Dp K)):av P w K mg base aV 3 f fd KQ (Qi K):=by
 refine F.ok cU (λvs H Q E h=>?_) (λcdv A outer s0 H vs Q E hr h=>?_)
 .obtain ⟨A,g,st,os,n,b,rfl,_⟩:=h
  rfl
 obtain ⟨A,g,st,os,n,b,rfl,R,q⟩:=h
 have nd:=cU.nd
 refine ⟨_,(Zf (rJ aan rfl (Ot rfl T.Cm (pc (Zl (K:=K) rfl (pv 0) rfl) Zb)) (mJ (K:=K) (n:=2) rfl rfl (Zt (bZ 2 nd) (Zt (bZ 3 nd) mK))) (Zi (aI (jJ (Zk rY hr.m T.gg (pv 3) (pc (pv 1) Zb))) (Zi (Zu (pv 2))) Zv)))
   (Zi (Zu (Zl (K:=K) rfl (pv 0) rfl)))),?_⟩
 obtain ⟨dx,h1⟩:=R.ob
 have lS:=R.lS
 refine ⟨_,rfl,A.p,_,dx,_,_,rfl,h1,T.aR,T.n8,ZT ..,A.ss,rfl,⟨_,aB.of R.ss⟩,O7 (K:=K) (a:=A.ss) (xs:=A.as.map λa=>V.ref a.sp) (λi σ G=>∃ v2 v3:Option V,σ=[some (.ref A.p),some (.int b),v2,v3]/\az H G/\i<=nearF st b) ⟨_,_,rfl,az.refl _,aUM _⟩ (λi σ G _ ⟨_,_,_,s,_⟩=>aB.of (s _ _ R.ss)) ?_ ?_⟩
 .rintro i x t σ G hi ⟨v2,v3,rfl,s,hle⟩ ht
  rw [aBK] at hi
  obtain ⟨a,ea,rfl⟩:∃ a,A.as[i]?=some a/\V.ref a.sp=x:=by
   cases e:A.as[i]? with
   | none=>rw [e] at hi; cases hi
   | some a=>rw [e] at hi; exact ⟨a,rfl,avM hi⟩
  have hil:=(a2U.mp ea).1
  obtain ⟨a',e1,e2,e3,B⟩:=R.at_ hil
  rw [ea] at e1; cases e1
  refine ⟨t,_,rfl,aK.of Za,rfl,_,_,rfl,gN ⟨_,_,rfl,gN ⟨rfl,?_⟩⟩⟩
  try dsimp only
  have s2:=s.trans (Zd ht (.tup [.int (i:Int),.ref a.sp]))
  have B':=B.same s2
  obtain ⟨ds,h3⟩:=B'.aZ.ob
  refine ⟨_,rfl,a.sp,ds,_,rfl,h3,dz ..,_,rfl,a,_,_,_,b,rfl,B',_,rfl,?_⟩
  by_cases m:b∈(st.at_ i).seq
  .refine fk (aea m) ⟨_,rfl,?_⟩
   have e:nearF st b=i:=by
    by_cases z:i<nearF st b
    .exact absurd m (DZ z (by lia))
    .lia
   have q':=q _ s2
   rw [e] at q'
   exact q'
  .refine cF (a0j m) ⟨_,_,rfl,s2,?_⟩
   by_cases z:i=nearF st b
   .exact absurd (z ▸ DQ (st:=st) (b:=b) (by lia)) m
   .lia
 .rintro σ G ⟨v2,v3,rfl,s,hle⟩
  rw [aK1] at hle
  have e:nearF st b=A.as.length:=by have:=yk st b; lia
  have q':=q _ s
  rw [e] at q'
  exact ⟨_,rfl,A.p,_,dx,_,_,rfl,s _ _ h1,T.aR,T.qf,rL ..,q'⟩
def Ia (K:W.Frag):Sp:=λvs H Q _=>∃ (A:TA) (g:aP) (st:aq) (os:OS) (n k:Nat) (b:Int) (lw:Addr) (ws:List Int),vs=[.ref A.p,.int (k:Int),.int b,.ref lw]/\af K H A g st os n/\k<=g.n/\b∈g.U/\H lw=some (.lst (ws.map V.int))/\¬ OW A os lw/\ws.length=g.size.toNat/\n<=800000/\Res K H A g os (bC g b ws (g.n - k) k st) (n+5) (Q .aT)
theorem Zfu (F:aY K "go_on" "Stairs.go_on" KY f fd) (T:Txt K mg) (rY:ay P w K mg base (aa K "Store") "has" 2 Bv (Dp K)) (qe:ay P w K mg base (aa K "Stairs") "put" 3 Bu (nM K)) (xo:ay P w K mg base (aa K "Store") "freshen" 1 Ey (JH K)):av P w K mg base aV 4 f fd EC (Ia K):=by
 refine F.ok eU (λvs H Q E h=>?_) (λcdv A outer s0 H vs Q E hr h=>?_)
 .obtain ⟨A,g,st,os,n,k,b,lw,ws,rfl,_⟩:=h
  rfl
 obtain ⟨A,g,st,os,n,k,b,lw,ws,rfl,R,hk,bU,jH,nO,kL,hn,q⟩:=h
 have nd:=eU.nd
 refine ⟨_,(Zf (rJ aan rfl (JT rfl T.lE (pc (pv 1) (pc (Zl (K:=K) rfl (pv 0) rfl) Zb))) (bZ 4 nd) (Zf (cI 5 nd (ao (Zr (K:=K) rfl) (Zl (K:=K) rfl (pv 0) rfl) (pv 4) (λ_ _=>rfl)))
   (Zi (aI (jJ (Zk rY hr.m T.gg (pv 5) (pc (pv 2) Zb))) (Zf (Zp (Zk qe hr.m T.aR (pv 0) (pc (pv 4) (pc (pv 2) (pc (pv 3) Zb)))))
   (Zi (aI (jJ (Zl (K:=K) rfl (pv 5) rfl)) (Zf (Zp (Zk xo hr.m T.gg (pv 5) (pc (pv 2) Zb)))
   (Zi IF)) Zv))) Zv))))
   (Zi (Zp (Zk qe hr.m T.aR (pv 0) (pc (Zl (K:=K) rfl (pv 0) rfl) (pc (pv 2) (pc (pv 3) Zb))))))),?_⟩
 obtain ⟨dx,h1⟩:=R.ob
 have ln:=R.ln
 have l4:g.n<=4:=R.wf.l4
 refine ⟨_,rfl,_,rfl,A.p,_,dx,_,_,rfl,h1,T.aR,T.qf,rL ..,_,_,rfl,⟨by lia,by lia,by lia,by lia⟩,Bt (lo:=(k:Int)) (n:=((A.as.length:Int) - (k:Int)).toNat) (λi σ G=>∃ (v4 v5:Option V) (st':aq) (os':OS),σ=[some (.ref A.p),some (.int (k:Int)),some (.int b),some (.ref lw),v4,v5]/\k+i<=g.n/\af K G A g st' os' (n+i)/\bV (OW A os) H G (OW A os')/\bC g b ws (g.n - (k+i)) (k+i) st'=bC g b ws (g.n - k) k st/\G lw=some (.lst (ws.map V.int))/\¬ OW A os' lw)
  ⟨_,_,st,os,rfl,hk,R,bV.same (az.refl _),rfl,jH,nO⟩ ?_ ?_⟩
 .rintro i σ G hi ⟨v4,v5,st',os',rfl,hki,R1,p1,eg,lT,zT⟩
  have en:((k:Int)+(i:Int))=((k+i:Nat):Int):=by lia
  rw [en]
  refine gN ?_
  try dsimp only
  obtain ⟨iD,g1⟩:=R1.ob
  obtain ⟨a,e1,e2,e3,B⟩:=R1.at_ (k:=k+i) (by lia)
  obtain ⟨ds,h3⟩:=B.aZ.ob
  have er:g.n - (k+i)=(g.n - (k+(i+1)))+1:=by lia
  rw [er,bC] at eg
  refine ⟨_,rfl,A.p,_,iD,_,_,rfl,g1,T.aR,T.n8,ZT ..,_,rfl,A.ss,_,_,_,rfl,rfl,aB.of R1.ss,af.ix e1,gN ?_⟩
  try dsimp only
  refine ⟨_,rfl,a.sp,ds,_,rfl,h3,dz ..,_,rfl,a,_,_,_,b,rfl,B,_,rfl,?_⟩
  by_cases m:b∈(st'.at_ (k+i)).seq
  .rw [abw m] at eg
   refine fk (aea m) ⟨_,rfl,A.p,iD,_,rfl,g1,aD ..,_,rfl,_,rfl,_,rfl,A,g,st',os',n+i,k+i,b,lw,ws,rfl,R1,hki,λ_=>m,bU,lT,zT,kL,by lia,λG2 jX R2 p2=>?_⟩
   obtain ⟨a2,e4,e5,e6,B2⟩:=R2.at_ (k:=k+i) (by lia)
   rw [e1] at e4; cases e4
   obtain ⟨d2,h4⟩:=B2.aZ.ob
   obtain ⟨vM,xK⟩:=p2.out lT zT
   refine ⟨_,rfl,a.sp,_,d2,_,_,rfl,h4,T.gg,T.E3,N2 ..,_,rfl,?_⟩
   by_cases c:(g.cf (k+i)).late=true
   .rw [abw c] at eg
    refine fk c ?_
    have m2:b∈((cD g (k+i) b ws st').at_ (k+i)).seq:=by rw [sU]; exact m
    obtain ⟨u1,u2,u3,u4,u5,u6⟩:=R2.mG (k:=k+i) (by lia)
    refine ⟨_,rfl,a.sp,d2,_,rfl,h4,dz ..,_,rfl,a,_,_,_,b,rfl,B2,m2,u1,λG3 B3 p3=>?_⟩
    obtain ⟨R3,p4⟩:=R2.fm e1 e2 B3 p3 u2 u3
    have R3:af K G3 A g (bC g b ws (g.n - k) k st) (jX.set (k+i) (jX (k+i))) (n+i+1):=by rw [← eg]; exact R3
    exact q _ _ (R3.le (by lia)) ((p1.trans p2).trans p4)
   .rw [aM3 c] at eg
    exact cF (by simpa using c) ⟨_,_,_,jX,rfl,by lia,R2,p1.trans p2,eg,vM,xK⟩
  .rw [aM3 m] at eg
   exact cF (a0j m) ⟨_,_,st',os',rfl,by lia,R1.le (by lia),p1,eg,lT,zT⟩
 .rintro σ G ⟨v4,v5,st',os',rfl,hki,R1,p1,eg,lT,zT⟩
  have en:((A.as.length:Int) - (k:Int)).toNat=g.n - k:=by lia
  rw [en] at eg hki R1
  have ek:k+(g.n - k)=g.n:=by lia
  rw [ek,a2d,bC] at eg
  obtain ⟨iD,g1⟩:=R1.ob
  refine ⟨_,rfl,A.p,iD,_,rfl,g1,aD ..,_,rfl,A.p,_,iD,_,_,rfl,g1,T.aR,T.qf,rL ..,_,rfl,_,rfl,A,g,st',os',_,g.n,b,lw,ws,by rw [ln]; rfl,R1,aEt _,λh=>absurd h (asH _),bU,lT,zT,kL,by lia,λG2 jX R2 p2=>?_⟩
  rw [eg] at R2
  exact q _ _ (R2.le (by lia)) (p1.trans p2)
def Jx (K:W.Frag):Sp:=λvs H Q _=>∃ (A:TA) (g:aP) (st:aq) (os:OS) (n k:Nat) (b:Int),vs=[.ref A.p,.int (k:Int),.int b]/\af K H A g st os n/\k<g.n/\b∈(st.at_ k).seq/\n<=800000/\Res K H A g os (ZC g k b st) (n+5) (Q .aT)
theorem Zey (F:aY K "change" "Stairs.change" K9 f fd) (T:Txt K mg) (xo:ay P w K mg base (aa K "Store") "freshen" 1 Ey (JH K)) (xD:ay P w K mg base (aa K "Stairs") "go_on" 4 EC (Ia K)) (se:ay P w K mg base (aa K "Store") "words_of" 3 ZS (Ed K)):av P w K mg base aV 5 f fd EH (Jx K):=by
 refine F.ok dJ (λvs H Q E h=>?_) (λcdv A outer s0 H vs Q E hr h=>?_)
 .obtain ⟨A,g,st,os,n,k,b,rfl,_⟩:=h
  rfl
 obtain ⟨A,g,st,os,n,k,b,rfl,R,hk,hb,hn,q⟩:=h
 have nd:=dJ.nd
 refine ⟨_,(Zf (cI 3 nd (ao (Zr (K:=K) rfl) (Zl (K:=K) rfl (pv 0) rfl) (pv 1) (λ_ _=>rfl)))
   (Zi (aI (jJ (Zl (K:=K) rfl (pv 3) rfl)) (Zi (Zp (Zk xo hr.m T.gg (pv 3) (pc (pv 2) Zb)))) (Zi (Zp (Zk xD hr.m T.aR (pv 0) (pc (ak ZJ (pv 1) Zj) (pc (pv 2) (pc (Zk se hr.m T.gg (pv 3) (pc (pv 2) Zb)) Zb))))))))),?_⟩
 obtain ⟨dx,h1⟩:=R.ob
 have ln:=R.ln
 obtain ⟨a,e1,e2,e3,B⟩:=R.at_ (k:=k) (by lia)
 obtain ⟨u1,u2,u3,u4,u5,u6⟩:=R.mG (k:=k) (by lia)
 obtain ⟨ds,h3⟩:=B.aZ.ob
 unfold ZC at q
 refine ⟨_,rfl,A.p,_,dx,_,_,rfl,h1,T.aR,T.n8,ZT ..,_,rfl,A.ss,_,_,_,rfl,rfl,aB.of R.ss,af.ix e1,gN ?_⟩
 try dsimp only
 refine ⟨_,rfl,a.sp,_,ds,_,_,rfl,h3,T.gg,T.E3,N2 ..,_,rfl,?_⟩
 by_cases c:(g.cf k).late=true
 .rw [abw c] at q
  refine fk c ⟨_,rfl,a.sp,ds,_,rfl,h3,dz ..,_,rfl,a,_,_,_,b,rfl,B,hb,u1,λG3 B3 p3=>?_⟩
  obtain ⟨R3,p4⟩:=R.fm e1 e2 B3 p3 u2 u3
  exact q _ _ (R3.le (by lia)) p4
 .rw [aM3 c] at q
  refine cF (by simpa using c) ⟨_,rfl,A.p,dx,_,rfl,h1,aD ..,_,rfl,_,_,rfl,rfl,_,rfl,_,rfl,a.sp,ds,_,rfl,h3,dz ..,_,rfl,a,_,_,_,b,rfl,B,hb,λl hl=>?_⟩
  have sm:=Zd hl (.lst (((st.at_ k).wd b).map V.int))
  exact ⟨A,g,st,os,n,k+1,b,l,_,rfl,R.same sm,hk,(u2 b hb).1,Za,R.fresh hl,(u2 b hb).2,hn,λG2 jX R2 p2=>q _ _ R2 ((bV.same sm).trans p2)⟩
end
section
def Ol (K:W.Frag):Sp:=λvs H Q _=>∃ (A:TA) (g:aP) (st:aq) (os:OS) (n k:Nat) (b:Int),vs=[.ref A.p,.int (k:Int),.int b]/\af K H A g st os n/\k<g.n/\b∈(st.at_ k).seq/\n<=700000/\Res K H A g os (kR g k b st) (n+10) (Q .aT)
theorem Zdp (F:aY K "drive_out" "Stairs.drive_out" Lr f fd) (T:Txt K mg) (n6:ay P w K mg base (aa K "Stairs") "go_out" 5 ZU (A5 K)) (rY:ay P w K mg base (aa K "Store") "has" 2 Bv (Dp K)) (xD:ay P w K mg base (aa K "Stairs") "go_on" 4 EC (Ia K)):av P w K mg base aV 6 f fd Lq (Ol K):=by
 refine F.ok cz (λvs H Q E h=>?_) (λcdv A outer s0 H vs Q E hr h=>?_)
 .obtain ⟨A,g,st,os,n,k,b,rfl,_⟩:=h
  rfl
 obtain ⟨A,g,st,os,n,k,b,rfl,R,hk,hb,hn,q⟩:=h
 have nd:=cz.nd
 refine ⟨_,(Zf (mH (Zk n6 hr.m T.aR (pv 0) (pc (pv 1) (pc (pv 2) Zb))) (mJ (K:=K) (n:=2) rfl rfl (Zt (bZ 3 nd) (Zt (bZ 4 nd) mK))))
   (Zf (aI (Zy aU (Zl (K:=K) rfl (pv 0) rfl) ZM (Zz _)) (Zi (rJ aan rfl (Qp rfl T.lE (pc (ak sR (pv 1) Zj) (pc (jW yi Zj) (pc (jW yi Zj) Zb)))) (bZ 5 nd) (Zi (aI (jJ (Zk rY hr.m T.gg (ao (Zr (K:=K) rfl) (Zl (K:=K) rfl (pv 0) rfl) (pv 5) (λ_ _=>rfl)) (pc (pv 2) Zb))) (Zf (mH (Zk n6 hr.m T.aR (pv 0) (pc (pv 5) (pc (pv 2) Zb))) (mJ (K:=K) (n:=2) rfl rfl (Zt (bZ 3 nd) (Zt (bZ 6 nd) mK))))
   (Zi (cI 4 nd (zC (pv 4) (Dn (pv 6)))))) Zv)))) Zv)
   (Zi (aI (jJ (pv 4)) (Zi (Zp (Zk xD hr.m T.aR (pv 0) (pc (ak ZJ (pv 1) Zj) (pc (pv 2) (pc (pv 3) Zb)))))) Zv)))),?_⟩
 obtain ⟨dx,h1⟩:=R.ob
 have ln:=R.ln
 have lS:=R.lS
 have l4:g.n<=4:=R.wf.l4
 obtain ⟨u1,u2,u3,u4,u5,u6⟩:=R.mG (k:=k) (by lia)
 obtain ⟨bU,bl⟩:=u2 b hb
 refine hide λu1 e1=>?_
 refine ⟨_,rfl,A.p,dx,_,rfl,h1,aD ..,_,rfl,_,rfl,A,g,st,os,n,k,b,rfl,R,hk,hb,by lia,λH1 gO t l et el nl R1 p1=>⟨t,_,rfl,aK.of et,rfl,_,_,rfl,gN ⟨_,_,rfl,gN ⟨rfl,?_⟩⟩⟩⟩
 subst e1
 try dsimp only
 refine x9 (λσ G=>∃ (v5 v6:Option V) (l:Addr) (os':OS),σ=[some (.ref A.p),some (.int (k:Int)),some (.int b),some (.ref l),some (.bl (b7 g k b st).2.2),v5,v6]/\af K G A g (b7 g k b st).1 os' (n+5)/\bV (OW A os) H G (OW A os')/\G l=some (.lst ((b7 g k b st).2.1.map V.int))/\¬ OW A os' l/\(b7 g k b st).2.1.length=g.size.toNat) (λD' _ k'=>?_) ?_
 .obtain ⟨iD,g1⟩:=R1.ob
  refine ⟨_,rfl,A.p,_,iD,_,_,rfl,g1,T.aR,T.E7,NX ..,rfl,_,rfl,pq (λc=>?_) (λc=>?_)⟩
  .have c':g.kind = "within" := by injection c
   have ed:b7 g k b st=aL b k (dN k b st) ((st.at_ k).wd b) ((st.at_ k).fr b):=abw c'
   rw [ed] at k'
   refine ⟨_,rfl,_,_,rfl,rfl,_,rfl,_,rfl,_,_,rfl,⟨by lia,by lia,by lia,by lia⟩,PK (hi:=(k:Int) - 1) (n:=((k:Int) - 1 - -1).toNat) (λi σ G=>∃ (v5 v6:Option V) (l:Addr) (st':aq) (os':OS) (ws:List Int) (fr:Bool),σ=[some (.ref A.p),some (.int (k:Int)),some (.int b),some (.ref l),some (.bl fr),v5,v6]/\i<=k/\af K G A g st' os' (n+1+i)/\bV (OW A os) H G (OW A os')/\G l=some (.lst (ws.map V.int))/\¬ OW A os' l/\ws.length=g.size.toNat/\aL b (k - i) st' ws fr=aL b k (dN k b st) ((st.at_ k).wd b) ((st.at_ k).fr b))
    ⟨_,_,l,_,gO,_,_,rfl,aUM _,R1,p1,el,nl,bl,rfl⟩ ?_ ?_⟩
   .rintro i σ G hi ⟨v5,v6,l,st',os',ws,fr,rfl,hik,R2,p2,el,nl,lw,eo⟩
    have hi':i<k:=by lia
    have en:((k:Int) - 1 - (i:Int))=((k - 1 - i:Nat):Int):=by lia
    rw [en]
    refine gN ?_
    try dsimp only
    obtain ⟨a,e1,e2,e3,B⟩:=R2.at_ (k:=k - 1 - i) (by lia)
    obtain ⟨w1,w2,w3,w4,w5,w6⟩:=R2.mG (k:=k - 1 - i) (by lia)
    obtain ⟨ds,h3⟩:=B.aZ.ob
    obtain ⟨jd,g2⟩:=R2.ob
    have ek:k - i=(k - 1 - i)+1:=by lia
    rw [ek,aL] at eo
    refine ⟨_,rfl,A.p,_,jd,_,_,rfl,g2,T.aR,T.n8,ZT ..,_,rfl,A.ss,_,_,_,rfl,rfl,aB.of R2.ss,af.ix e1,a.sp,ds,_,rfl,h3,dz ..,_,rfl,a,_,_,_,b,rfl,B,_,rfl,?_⟩
    by_cases m:b∈(st'.at_ (k - 1 - i)).seq
    .rw [abw m] at eo
     refine fk (aea m) ⟨_,rfl,A.p,jd,_,rfl,g2,aD ..,_,rfl,_,rfl,A,g,st',os',_,k - 1 - i,b,rfl,R2,by lia,m,by lia,λH3 rD t3 l3 U7 AF Gb R3 p3=>⟨t3,_,rfl,aK.of U7,rfl,_,_,rfl,gN ⟨_,_,rfl,gN ⟨rfl,?_⟩⟩⟩⟩
     try dsimp only
     have fin:∃ (v5 v6:Option V) (l:Addr) (st'':aq) (os':OS) (ws:List Int) (MM:Bool),[some (.ref A.p),some (.int (k:Int)),some (.int b),some (.ref l3),some (.bl (fr || (st'.at_ (k - 1 - i)).fr b)),some (.int ((k - 1 - i:Nat):Int)),some (.bl ((st'.at_ (k - 1 - i)).fr b))]=[some (V.ref A.p),some (.int (k:Int)),some (.int b),some (.ref l),some (.bl MM),v5,v6]/\i+1<=k/\af K H3 A g st'' os' (n+1+(i+1))/\bV (OW A os) H H3 (OW A os')/\H3 l=some (.lst (ws.map V.int))/\¬ OW A os' l/\ws.length=g.size.toNat/\aL b (k - (i+1)) st'' ws MM=aL b k (dN k b st) ((st.at_ k).wd b) ((st.at_ k).fr b) :=
      ⟨_,_,l3,_,rD,_,_,rfl,by lia,R3,p2.trans p3,AF,Gb,(w2 b m).2,by rw [show k - (i+1)=k - 1 - i by lia]; exact eo⟩
     cases fr with
     | true=>exact ⟨_,rfl,_,rfl,fk rfl (gN fin)⟩
     | false=>exact ⟨_,rfl,_,rfl,cF rfl ⟨_,rfl,gN fin⟩⟩
    .rw [aM3 m] at eo
     exact cF (a0j m) ⟨_,_,l,st',os',ws,fr,rfl,by lia,R2.le (by lia),p2,el,nl,lw,by rw [show k - (i+1)=k - 1 - i by lia]; exact eo⟩
   .rintro σ G ⟨v5,v6,l,st',os',ws,fr,rfl,hik,R2,p2,el,nl,lw,eo⟩
    have en:((k:Int) - 1 - -1).toNat=k:=by lia
    rw [en,a2d,aL] at eo
    rw [en] at R2
    rw [← eo] at k'
    exact k' _ _ ⟨_,_,l,os',rfl,R2.le (by lia),p2,el,nl,lw⟩
  .have c':¬ g.kind = "within" := λz=>c (by rw [z])
   have ed:b7 g k b st=(dN k b st,(st.at_ k).wd b,(st.at_ k).fr b):=aM3 c'
   rw [ed] at k'
   exact k' _ _ ⟨_,_,l,gO,rfl,R1.le (by lia),p1,el,nl,bl⟩
 rintro _ G ⟨v5,v6,l2,jX,rfl,R2,p2,Vd,TN,T6⟩
 unfold kR at q
 generalize b7 g k b st=dq at *
 obtain ⟨st2,ws,fr⟩:=dq
 dsimp only at *
 cases fr with
 | true =>
  rw [abw rfl] at q
  obtain ⟨jd,g2⟩:=R2.ob
  exact ⟨_,rfl,_,rfl,fk rfl ⟨_,rfl,A.p,jd,_,rfl,g2,aD ..,_,rfl,_,_,rfl,rfl,_,rfl,_,rfl,A,g,st2,jX,_,k+1,b,l2,ws,rfl,R2,hk,bU,Vd,TN,T6,by lia,λG3 rD R3 p3=>q _ _ R3 (p2.trans p3)⟩⟩
 | false =>
  rw [aM3 (by decide)] at q
  exact ⟨_,rfl,_,rfl,cF rfl (q _ _ (R2.le (by lia)) p2)⟩
def Nb (K:W.Frag):Sp:=λvs H Q _=>∃ (A:TA) (g:aP) (st:aq) (os:OS) (n k:Nat) (b:Int),vs=[.ref A.p,.int (k:Int),.int b]/\af K H A g st os n/\k=nearF st b/\b∈g.U/\n<=600000/\(b∈((A3 g k b st).at_ 0).seq->Res K H A g os (A3 g k b st) (n+50) (Q .aT))
theorem ZcY (F:aY K "fetch_down" "Stairs.fetch_down" Lf f fd) (T:Txt K mg) (xC:ay P w K mg base (aa K "Stairs") "use_in" 4 EF (Jc K)) (xx:ay P w K mg base (aa K "Stairs") "words" 4 Es (JB K)) (rB:ay P w K mg base (aa K "Stairs") "leaver" 4 BE (Dg K)) (EX:ay P w K mg base (aa K "Stairs") "drive_out" 6 Lq (Ol K)) (xj:ay P w K mg base (aa K "Stairs") "come_in" 6 Ew (JA K)):av P w K mg base aV 7 f fd Le (Nb K):=by
 refine F.ok bR (λvs H Q E h=>?_) (λcdv A outer s0 H vs Q E hr h=>?_)
 .obtain ⟨A,g,st,os,n,k,b,rfl,_⟩:=h
  rfl
 obtain ⟨A,g,st,os,n,k,b,rfl,R,hk,bU,hn,q⟩:=h
 have nd:=bR.nd
 refine ⟨_,(Zf (aI (Zy jY (pv 1) (Zl (K:=K) rfl (pv 0) rfl) (Zz _)) (Zi (Zp (Zk xC hr.m T.aR (pv 0) (pc (pv 1) (pc (pv 2) Zb))))) Zv)
   (Zf (cI 3 nd (Zk xx hr.m T.aR (pv 0) (pc (pv 1) (pc (pv 2) Zb))))
   (Zi (rJ aan rfl (Qp rfl T.lE (pc (ak sR (pv 1) Zj) (pc (jW yi Zj) (pc (jW yi Zj) Zb)))) (bZ 4 nd) (Zf (cI 5 nd (Zk rB hr.m T.aR (pv 0) (pc (pv 4) (pc (pv 2) Zb))))
   (Zf (aI (DB (OV (pv 5))) (Zi (Zp (Zk EX hr.m T.aR (pv 0) (pc (pv 4) (pc (pv 5) Zb))))) Zv)
   (Zi (Zp (Zk xj hr.m T.aR (pv 0) (pc (pv 4) (pc (pv 2) (pc (pv 3) Zb)))))))))))),?_⟩
 have ln:=R.ln
 have lS:=R.lS
 have l4:g.n<=4:=R.wf.l4
 obtain ⟨b0,b1⟩:=R.wf.ub b bU
 have gC:k<=g.n:=by rw [hk]; have:=yk st b; lia
 have GK:k<g.n->b∈(st.at_ k).seq:=λh=>by rw [hk]; exact DQ (by lia)
 refine x9 (λσ G=>σ=[some (.ref A.p),some (.int (k:Int)),some (.int b),none,none,none]/\∃ os',af K G A g (bJ g k b st) os' n/\bV (OW A os) H G (OW A os')) (λD' _ k'=>?_) ?_
 .obtain ⟨dx,h1⟩:=R.ob
  refine ⟨_,rfl,_,rfl,A.p,_,dx,_,_,rfl,h1,T.aR,T.qf,rL ..,_,_,rfl,rfl,_,rfl,?_⟩
  by_cases c:k<g.n
  .have eu:bJ g k b st=st.set k (kg (g.cf k) (st.at_ k) b):=abw c
   rw [eu] at k'
   exact fk (aea (by lia)) ⟨_,rfl,A.p,dx,_,rfl,h1,aD ..,_,rfl,_,rfl,A,g,st,os,n,k,b,rfl,R,c,GK c,λH1 gO R1 p1=>k' _ _ ⟨rfl,gO,R1,p1⟩⟩
  .have eu:bJ g k b st=st:=aM3 c
   rw [eu] at k'
   exact cF (a0j (by lia)) (k' _ _ ⟨rfl,os,R,bV.same (az.refl _)⟩)
 rintro _ G ⟨rfl,om,R0,p0⟩
 have Sx:∀ j,j≠k->((bJ g k b st).at_ j).seq=(st.at_ j).seq:=λj hj=>by
  unfold bJ
  split
  .rw [sZ,aM3 (λz=>hj z.1)]
  .rfl
 have vH:k<g.n->b∈((bJ g k b st).at_ k).seq:=λh=>by
  have e:bJ g k b st=st.set k (kg (g.cf k) (st.at_ k) b):=abw h
  rw [e,aq.jx (by lia),abw rfl]
  exact (wG (GK h)).mem_iff.mpr (GK h)
 have nb:∀ j,j<k->b∉((bJ g k b st).at_ j).seq:=λj hj=>by
  rw [Sx j (by lia)]
  exact DZ (by lia) (by lia)
 unfold A3 at q
 generalize bJ g k b st=gm at *
 obtain ⟨dx,h1⟩:=R0.ob
 refine hide λu1 e1=>?_
 refine ⟨_,rfl,A.p,dx,_,rfl,h1,aD ..,_,rfl,_,rfl,A,g,gm,om,n,k,b,rfl,R0,gC,vH,b0,b1,λlw H1 jH s1 ew=>gN ?_⟩
 subst e1
 try dsimp only
 have nO:=R0.fresh jH
 have kL:(kT g gm k b).length=g.size.toNat:=by
  unfold kT
  split
  .unfold bg; rw [aK1,aZ9]
  .exact ((R0.mG (k:=k) (by lia)).2.1 b (vH (by lia))).2
 generalize kT g gm k b=ws at *
 have R1:=R0.same s1
 refine ⟨_,rfl,_,_,rfl,rfl,_,rfl,_,rfl,_,_,rfl,⟨by lia,by lia,by lia,by lia⟩,PK (hi:=(k:Int) - 1) (n:=((k:Int) - 1 - -1).toNat) (λi σ G'=>∃ (v4 v5:Option V) (st':aq) (os':OS),σ=[some (.ref A.p),some (.int (k:Int)),some (.int b),some (.ref lw),v4,v5]/\i<=k/\af K G' A g st' os' (n+11 * i)/\bV (OW A os) H G' (OW A os')/\fR g b ws (k - i) st'=fR g b ws k gm/\(∀ j,j<k - i->b∉(st'.at_ j).seq)/\(k - i<g.n->b∈(st'.at_ (k - i)).seq)/\G' lw=some (.lst (ws.map V.int))/\¬ OW A os' lw)
  ⟨_,_,gm,om,rfl,aUM _,R1,p0.trans (bV.same s1),rfl,nb,vH,ew,nO⟩ ?_ ?_⟩
 .rintro i σ G' hi ⟨v4,v5,st',os',rfl,hik,R2,p2,ed,vt,vG,MW,xK⟩
  have hi':i<k:=by lia
  have en:((k:Int) - 1 - (i:Int))=((k - 1 - i:Nat):Int):=by lia
  rw [en]
  refine gN ?_
  try dsimp only
  have hlt:k - 1 - i<g.n:=by lia
  have lS2:=R2.lS
  have hbn:b∉(st'.at_ (k - 1 - i)).seq:=vt (k - 1 - i) (by lia)
  obtain ⟨w1,w2,w3,w4,w5,w6⟩:=R2.mG (k:=k - 1 - i) (by lia)
  obtain ⟨jd,g2⟩:=R2.ob
  have Ve:k - i=(k - 1 - i)+1:=by lia
  rw [Ve,fR] at ed
  refine hide λu1 e1=>?_
  refine ⟨_,rfl,A.p,jd,_,rfl,g2,aD ..,_,rfl,_,rfl,A,g,st',os',_,k - 1 - i,b,rfl,R2,hlt,λH3 s3 gp=>gN ?_⟩
  subst e1
  try dsimp only
  have R3:=R2.same s3
  have U3:=s3 _ _ MW
  obtain ⟨vZ,g3⟩:=R3.ob
  refine x9 (λσ' G3=>σ'=[some (.ref A.p),some (.int (k:Int)),some (.int b),some (.ref lw),some (.int ((k - 1 - i:Nat):Int)),some (ql (eY (g.cf (k - 1 - i)) (st'.at_ (k - 1 - i)) b))]/\∃ gO,af K G3 A g (ZN g (k - 1 - i) b st') gO (n+11 * i+10)/\bV (OW A os') H3 G3 (OW A gO)/\b∉((ZN g (k - 1 - i) b st').at_ (k - 1 - i)).seq/\((Zo (g.cf (k - 1 - i)).sh (b % (g.cf (k - 1 - i)).sh) ((ZN g (k - 1 - i) b st').at_ (k - 1 - i)).seq).length:Int)<(g.cf (k - 1 - i)).pl/\∀ j,j<k - 1 - i->b∉((ZN g (k - 1 - i) b st').at_ j).seq) (λD' _ k'=>?_) ?_
  .cases eg:eY (g.cf (k - 1 - i)) (st'.at_ (k - 1 - i)) b with
   | none =>
    have el:ZN g (k - 1 - i) b st'=st':=by unfold ZN; rw [eg]
    rw [eg] at gp k'
    rw [el] at k'
    exact ⟨_,rfl,_,rfl,cF rfl (k' _ _ ⟨rfl,os',R3.le (by lia),bV.same (az.refl _),hbn,Om gp,λj hj=>vt j (by lia)⟩)⟩
   | some go =>
    have el:ZN g (k - 1 - i) b st'=kR g (k - 1 - i) go st':=by unfold ZN; rw [eg]
    rw [eg] at gp k'
    rw [el] at k'
    obtain ⟨m1,m2,m3⟩:=yx eg
    have sq:=λj=>OR (g:=g) (k:=k - 1 - i) (b:=go) (st:=st') (j:=j) (by lia)
    refine ⟨_,rfl,_,rfl,fk rfl ⟨_,rfl,A.p,vZ,_,rfl,g3,aD ..,_,rfl,_,rfl,A,g,st',os',_,k - 1 - i,go,rfl,R3,hlt,m1,by lia,λH4 CA R4 p4=>k' _ _ ⟨rfl,CA,R4,p4,?_,?_,λj hj=>?_⟩⟩⟩
    .rw [sq,abw (.inl rfl)]
     exact λm=>hbn (a2z m)
    .rw [sq,abw (.inl rfl)]
     exact OQ w3 m1 m2
    .rw [sq]
     have:=vt j (by lia)
     split
     .exact λm=>this (a2z m)
     .exact this
  rintro _ G3 ⟨rfl,CA,R4,p4,UN,hsh,TR⟩
  obtain ⟨MV,LZ⟩:=p4.out U3 xK
  obtain ⟨HD,g4⟩:=R4.ob
  have lS4:=R4.lS
  refine ⟨_,rfl,A.p,HD,_,rfl,g4,aD ..,_,rfl,_,rfl,_,rfl,A,g,_,CA,_,k - 1 - i,b,lw,ws,rfl,R4,hlt,UN,bU,hsh,MV,LZ,kL,by lia,λH5 S7 R5 p5=>?_⟩
  obtain ⟨U0,TX⟩:=p5.out MV LZ
  have sq:=λj=>yl (k:=k - 1 - i) (b:=b) (ws:=ws) (st:=ZN g (k - 1 - i) b st') (j:=j) (by lia)
  refine ⟨_,_,_,S7,rfl,by lia,R5.le (by lia),((p2.trans (bV.same s3)).trans p4).trans p5,?_,λj hj=>?_,λ_=>?_,U0,TX⟩
  .rw [show k - (i+1)=k - 1 - i by lia]
   exact ed
  .rw [sq,aM3 (by lia)]
   exact TR j (by lia)
  .rw [show k - (i+1)=k - 1 - i by lia,sq,abw rfl]
   exact a9C _ (arG.mpr rfl)
 .rintro σ G' ⟨v4,v5,st',os',rfl,hik,R2,p2,ed,vt,vG,MW,xK⟩
  have en:((k:Int) - 1 - -1).toNat=k:=by lia
  have l1:1<=g.n:=R.wf.l1
  rw [en,a2d] at ed vG
  rw [en] at R2
  have ed:st'=fR g b ws k gm:=ed
  rw [← ed] at q
  exact q (vG (by lia)) _ _ (R2.le (by lia)) p2
end
def dw (st:aq):Prop:=∀ i j,i<st.rm.length->j<st.rm.length->i≠j->∀ x∈(st.at_ i).seq,x∉(st.at_ j).seq
def mz (st:aq) (b:Int):Prop:=∀ j,j<st.rm.length->b∉(st.at_ j).seq
theorem Bp {g:aP} {k:Nat} {b:Int} {ws:List Int} {fr:Bool} {st:aq}:(bG g k b ws fr st).rm.length=st.rm.length:=by
 have go:∀ {r k:Nat} {st:aq} {ws:List Int},(bC g b ws r k st).rm.length=st.rm.length:=λ{r}=>by
  induction r with
  | zero=>intro k st ws; exact DR
  | succ r ih =>
   intro k st ws
   rw [bC]
   split
   .split
    .exact bu.trans DR
    .exact ih.trans DR
   .exact ih
 unfold bG ZC
 split
 .split
  .exact bu.trans bu
  .exact go.trans bu
 .exact bu
theorem I0 {st st':aq} {k:Nat} {b:Int} (d:dw st) (h:mz st b) (l:st'.rm.length=st.rm.length) (sq:∀ j,(st'.at_ j).seq=if j=k then (st.at_ j).seq++[b] else (st.at_ j).seq):dw st':=λi j hi hj hij x hx hx'=>by
 rw [l] at hi hj
 rw [sq] at hx hx'
 by_cases z:i=k
 .rw [abw z] at hx
  rw [aM3 (by lia)] at hx'
  rcases a1m.mp hx with m | m
  .exact d i j hi hj hij x m hx'
  .exact h j hj (arG.mp m ▸ hx')
 .rw [aM3 z] at hx
  by_cases y:j=k
  .rw [abw y] at hx'
   rcases a1m.mp hx' with m | m
   .exact d i j hi hj hij x hx m
   .exact h i hi (arG.mp m ▸ hx)
  .rw [aM3 y] at hx'
   exact d i j hi hj hij x hx hx'
theorem DY {st:aq} {k:Nat} {b:Int} (d:dw st) (hk:k<st.rm.length) (nn:(st.at_ k).seq.Nodup) (hb:b∈(st.at_ k).seq):dw (dN k b st)/\mz (dN k b st) b:=by
 have sq:=λj=>j4 (b:=b) (j:=j) hk
 refine ⟨λi j hi hj hij x hx hx'=>?_,λj hj m=>?_⟩
 .rw [bL] at hi hj
  rw [sq] at hx hx'
  refine d i j hi hj hij x ?_ ?_
  .split at hx
   .exact a2z hx
   .exact hx
  .split at hx'
   .exact a2z hx'
   .exact hx'
 .rw [bL] at hj
  rw [sq] at m
  split at m
  .rename_i z
   rw [z] at m
   exact ((aKD nn).mp m).1 rfl
  .rename_i z
   exact d k j hk hj (λy=>z y.symm) b hb m
section
def IZ (K:W.Frag):Sp:=λvs H Q _=>∃ (A:TA) (g:aP) (st:aq) (os:OS) (n k:Nat) (b:Int) (lw:Addr) (ws:List Int) (fr:Bool),vs=[.ref A.p,.int (k:Int),.int b,.ref lw,.bl fr]/\af K H A g st os n/\k<g.n/\b∉(st.at_ k).seq/\b∈g.U/\((Zo (g.cf k).sh (b % (g.cf k).sh) (st.at_ k).seq).length:Int)<(g.cf k).pl/\H lw=some (.lst (ws.map V.int))/\¬ OW A os lw/\ws.length=g.size.toNat/\n<=700000/\Res K H A g os (bG g k b ws fr st) (n+6) (Q .aT)
theorem ZcZ (F:aY K "come_apart" "Stairs.come_apart" Ld f fd) (T:Txt K mg) (xj:ay P w K mg base (aa K "Stairs") "come_in" 6 Ew (JA K)) (xE:ay P w K mg base (aa K "Stairs") "change" 5 EH (Jx K)):av P w K mg base aV 7 f fd ZQ (IZ K):=by
 refine F.ok bS (λvs H Q E h=>?_) (λcdv A outer s0 H vs Q E hr h=>?_)
 .obtain ⟨A,g,st,os,n,k,b,lw,ws,fr,rfl,_⟩:=h
  rfl
 obtain ⟨A,g,st,os,n,k,b,lw,ws,fr,rfl,R,hk,hb,bU,hsh,jH,nO,kL,hn,q⟩:=h
 have nd:=bS.nd
 refine ⟨_,(Zf (Zp (Zk xj hr.m T.aR (pv 0) (pc (pv 1) (pc (pv 2) (pc (pv 3) Zb)))))
   (Zi (aI (jJ (pv 4)) (Zi (Zp (Zk xE hr.m T.aR (pv 0) (pc (pv 1) (pc (pv 2) Zb))))) Zv))),?_⟩
 obtain ⟨dx,h1⟩:=R.ob
 have ln:=R.ln
 have lS:=R.lS
 refine ⟨_,rfl,A.p,dx,_,rfl,h1,aD ..,_,rfl,_,rfl,_,rfl,A,g,st,os,n,k,b,lw,ws,rfl,R,hk,hb,bU,hsh,jH,nO,kL,by lia,λH1 gO R1 p1=>?_⟩
 unfold bG at q
 cases fr with
 | true =>
  rw [abw rfl] at q
  obtain ⟨iD,g1⟩:=R1.ob
  exact ⟨_,rfl,_,rfl,fk rfl ⟨_,rfl,A.p,iD,_,rfl,g1,aD ..,_,rfl,_,rfl,A,g,_,gO,_,k,b,rfl,R1,hk,by rw [yl (by lia),abw rfl]; exact a9C _ (arG.mpr rfl),by lia,λH2 jX R2 p2=>q _ _ R2 (p1.trans p2)⟩⟩
 | false =>
  rw [aM3 (by decide)] at q
  exact ⟨_,rfl,_,rfl,cF rfl (q _ _ (R1.le (by lia)) p1)⟩
def De (K:W.Frag) (r:Nat):Sp:=λvs H Q _=>∃ (A:TA) (g:aP) (st:aq) (os:OS) (n k:Nat) (b:Int) (lw:Addr) (ws:List Int) (fr:Bool),vs=[.ref A.p,.int (k:Int),.int b,.ref lw,.bl fr]/\af K H A g st os n/\k+r=g.n/\mz st b/\dw st/\b∈g.U/\H lw=some (.lst (ws.map V.int))/\¬ OW A os lw/\ws.length=g.size.toNat/\n+7 * r<=600000/\(dw (pushS g r k b ws fr st)->(0<r->b∈((pushS g r k b ws fr st).at_ k).seq)->(∀ j,j<k->((pushS g r k b ws fr st).at_ j).seq=(st.at_ j).seq)->Res K H A g os (pushS g r k b ws fr st) (n+7 * r+1) (Q .aT))
def Wo:Sp:=λ_ _ _ _=>False
theorem QI {r:Nat} {yX:Sp} (m9:∀ m,r=m+1->yX=De K m) (F:aY K "push" "Stairs.push" ZP f fd) (T:Txt K mg) (qe:ay P w K mg base (aa K "Stairs") "put" 3 Bu (nM K)) (rB:ay P w K mg base (aa K "Stairs") "leaver" 4 BE (Dg K)) (ud:ay P w K mg base (aa K "Stairs") "come_apart" 7 ZQ (IZ K)) (n6:ay P w K mg base (aa K "Stairs") "go_out" 5 ZU (A5 K)) (xw:ay P w K mg base (aa K "Stairs") "push" (r+7) ZH yX):av P w K mg base aV (r+8) f fd ZH (De K r):=by
 refine F.ok fK (λvs H Q E h=>?_) (λcdv A outer s0 H vs Q E hr h=>?_)
 .obtain ⟨A,g,st,os,n,k,b,lw,ws,fr,rfl,_⟩:=h
  rfl
 obtain ⟨A,g,st,os,n,k,b,lw,ws,fr,rfl,R,hk,hb,dj,bU,jH,nO,kL,hn,q⟩:=h
 have nd:=fK.nd
 refine ⟨_,(Zf (aI (Zy aU (pv 1) (Zl (K:=K) rfl (pv 0) rfl) (Zz _)) (Zf (aI (jJ (pv 4)) (Zi (Zp (Zk qe hr.m T.aR (pv 0) (pc (pv 1) (pc (pv 2) (pc (pv 3) Zb)))))) Zv)
   (Zi IF)) Zv)
   (Zf (cI 5 nd (Zk rB hr.m T.aR (pv 0) (pc (pv 1) (pc (pv 2) Zb))))
   (Zf (aI (DB (NV (pv 5))) (Zf (Zp (Zk ud hr.m T.aR (pv 0) (pc (pv 1) (pc (pv 2) (pc (pv 3) (pc (pv 4) Zb))))))
   (Zi IF)) Zv)
   (Zf (mH (Zk n6 hr.m T.aR (pv 0) (pc (pv 1) (pc (pv 5) Zb))) (mJ (K:=K) (n:=2) rfl rfl (Zt (bZ 6 nd) (Zt (bZ 7 nd) mK))))
   (Zf (Zp (Zk ud hr.m T.aR (pv 0) (pc (pv 1) (pc (pv 2) (pc (pv 3) (pc (pv 4) Zb))))))
   (Zi (Zp (Zk xw hr.m T.aR (pv 0) (pc (ak ZJ (pv 1) Zj) (pc (pv 5) (pc (pv 6) (pc (pv 7) Zb)))))))))))),?_⟩
 obtain ⟨dx,h1⟩:=R.ob
 have ln:=R.ln
 have lS:=R.lS
 cases r with
 | zero =>
  have ek:k=g.n:=by lia
  refine ⟨_,rfl,_,rfl,A.p,_,dx,_,_,rfl,h1,T.aR,T.qf,rL ..,rfl,_,rfl,yp (λe=>?_) (λe=>absurd (show (k:Int)=(A.as.length:Int) by lia) e)⟩
  rw [pushS] at q
  cases fr with
  | true =>
   rw [abw rfl] at q
   refine ⟨_,rfl,_,rfl,fk rfl ⟨_,rfl,A.p,dx,_,rfl,h1,aD ..,_,rfl,_,rfl,_,rfl,A,g,st,os,n,k,b,lw,ws,rfl,R,by lia,(λh=>absurd h (by lia)),bU,jH,nO,kL,by lia,λH2 jX R2 p2=>q (λi j hi hj hij x=>?_) (λh=>absurd h (asH _)) (λj _=>sU) _ _ (R2.le (by lia)) p2⟩⟩
   rw [sU,sU]
   rw [DR] at hi hj
   exact dj i j hi hj hij x
  | false =>
   rw [aM3 (by decide)] at q
   exact ⟨_,rfl,_,rfl,cF rfl (q dj (λh=>absurd h (asH _)) (λ_ _=>rfl) _ _ (R.le (by lia)) (bV.same (az.refl _)))⟩
 | succ r =>
  have gC:k<g.n:=by lia
  obtain ⟨u1,u2,u3,u4,u5,u6⟩:=R.mG (k:=k) (by lia)
  refine ⟨_,rfl,_,rfl,A.p,_,dx,_,_,rfl,h1,T.aR,T.qf,rL ..,rfl,_,rfl,yp (λe=>absurd e (by lia)) (λe=>?_)⟩
  dsimp only [gk]
  refine hide λu1 eu=>?_
  refine ⟨_,rfl,A.p,dx,_,rfl,h1,aD ..,_,rfl,_,rfl,A,g,st,os,n,k,b,rfl,R,gC,λH1 s1 gp=>gN ?_⟩
  subst eu
  try dsimp only
  have R1:=R.same s1
  have lT:=s1 _ _ jH
  obtain ⟨iD,h2⟩:=R1.ob
  have Mx:=hb k (by lia)
  rw [pushS] at q
  cases eg:eY (g.cf k) (st.at_ k) b with
  | none =>
   rw [eg] at gp q
   dsimp only at q
   have sq:=λj=>Jy (g:=g) (k:=k) (b:=b) (ws:=ws) (fr:=fr) (st:=st) (j:=j) (by lia)
   refine ⟨_,rfl,_,rfl,fk rfl ⟨_,rfl,A.p,iD,_,rfl,h2,aD ..,_,rfl,_,rfl,_,rfl,_,rfl,A,g,st,os,n,k,b,lw,ws,fr,rfl,R1,gC,Mx,bU,Om gp,lT,nO,kL,by lia,λH2 jX R2 p2=>?_⟩⟩
   exact q (I0 dj hb Bp sq) (λ_=>by rw [sq,abw rfl]; exact a9C _ (arG.mpr rfl)) (λj hj=>by rw [sq,aM3 (by lia)]) _ _ (R2.le (by lia)) ((bV.same s1).trans p2)
  | some go =>
   rw [eg] at gp q
   dsimp only at q
   obtain ⟨m1,m2,m3⟩:=yx eg
   refine ⟨_,rfl,_,rfl,cF rfl ?_⟩
   dsimp only [gk]
   refine hide λu1 eu=>?_
   refine ⟨_,rfl,A.p,iD,_,rfl,h2,aD ..,_,rfl,_,rfl,A,g,st,os,n,k,go,rfl,R1,gC,m1,by lia,λH2 jX t l et el nl R2 p2=>⟨t,_,rfl,aK.of et,rfl,_,_,rfl,gN ⟨_,_,rfl,gN ⟨rfl,?_⟩⟩⟩⟩
   subst eu
   try dsimp only
   obtain ⟨vM,xK⟩:=p2.out lT nO
   obtain ⟨jd,h3⟩:=R2.ob
   obtain ⟨d2,xF⟩:=DY dj (by lia) u6 m1
   have sg:=λj=>j4 (b:=go) (j:=j) (st:=st) (k:=k) (by lia)
   have SI:((dN k go st).at_ k).seq=(st.at_ k).seq.erase go:=by rw [sg,abw rfl]
   have vt:mz (dN k go st) b:=λj hj m=>by
    rw [bL] at hj
    rw [sg] at m
    split at m
    .exact hb j hj (a2z m)
    .exact hb j hj m
   refine ⟨_,rfl,A.p,jd,_,rfl,h3,aD ..,_,rfl,_,rfl,_,rfl,_,rfl,A,g,_,jX,_,k,b,lw,ws,fr,rfl,R2,gC,vt k (by rw [bL]; lia),bU,by rw [SI]; exact OQ u3 m1 m2,vM,xK,kL,by lia,λH3 rD R3 p3=>?_⟩
   obtain ⟨AF,Gb⟩:=p3.out el nl
   obtain ⟨vZ,h4⟩:=R3.ob
   have sq:=λj=>Jy (g:=g) (k:=k) (b:=b) (ws:=ws) (fr:=fr) (st:=dN k go st) (j:=j) (by rw [bL]; lia)
   have ne:go≠b:=λz=>Mx (z ▸ m1)
   have d3:=I0 d2 vt (Bp (g:=g) (k:=k) (b:=b) (ws:=ws) (fr:=fr)) sq
   have Tp:mz (bG g k b ws fr (dN k go st)) go:=λj hj m=>by
    rw [Bp] at hj
    rw [sq] at m
    split at m
    .rcases a1m.mp m with m | m
     .exact xF j hj m
     .exact ne (arG.mp m)
    .exact xF j hj m
   have e0:=m9 r rfl
   subst e0
   refine ⟨_,rfl,A.p,vZ,_,rfl,h4,aD ..,_,rfl,_,_,rfl,rfl,_,rfl,_,rfl,_,rfl,A,g,_,rD,_,k+1,go,l,_,_,rfl,R3,by lia,Tp,d3,(u2 go m1).1,AF,Gb,(u2 go m1).2,by lia,λz1 z2 z3 H4 CA R4 p4=>?_⟩
   refine q z1 (λ_=>?_) (λj hj=>?_) _ _ (R4.le (by lia)) ((((bV.same s1).trans p2).trans p3).trans p4)
   .rw [z3 k (by lia),sq,abw rfl]
    exact a9C _ (arG.mpr rfl)
   .rw [z3 j (by lia),sq,aM3 (by lia),sg,aM3 (by lia)]
theorem QL (F:aY K "push" "Stairs.push" ZP f fd) (bi:Binds K fd ZH []) (m:Meth K (aa K "Stairs") "push" f) (T:Txt K mg) (qe:ay P w K mg base (aa K "Stairs") "put" 3 Bu (nM K)) (rB:ay P w K mg base (aa K "Stairs") "leaver" 4 BE (Dg K)) (ud:ay P w K mg base (aa K "Stairs") "come_apart" 7 ZQ (IZ K)) (n6:ay P w K mg base (aa K "Stairs") "go_out" 5 ZU (A5 K)):∀ n,ay P w K mg base (aa K "Stairs") "push" (n+8) ZH (De K n)
 | 0=>by
  have M0:ay P w K mg base (aa K "Stairs") "push" 7 ZH Wo:=⟨f,fd,⟨λ_ _ _ _ h=>h.elim,λ_ _ _ _ _ _ _ _ _ _ _ _ _ h=>h.elim⟩,m,bi⟩
  exact ⟨f,fd,QI (r:=0) (λ_ h=>by lia) F T qe rB ud n6 M0,m,bi⟩
 | n+1=>⟨f,fd,QI (r:=n+1) (λj h=>by cases (show j=n by lia); rfl) F T qe rB ud n6 (QL F bi m T qe rB ud n6 n),m,bi⟩
end
section
def Oj (K:W.Frag):Sp:=λvs H Q _=>∃ (A:TA) (g:aP) (st:aq) (os:OS) (n:Nat) (b:Int),vs=[.ref A.p,.int (nearF st b:Nat),.int b]/\af K H A g st os n/\dw st/\b∈g.U/\n<=500000/\(dw (uI g (nearF st b) b st)->b∈((uI g (nearF st b) b st).at_ 0).seq->Res K H A g os (uI g (nearF st b) b st) (n+50) (Q .aT))
theorem ZcR (F:aY K "fetch_apart" "Stairs.fetch_apart" Lh f fd) (T:Txt K mg) (xC:ay P w K mg base (aa K "Stairs") "use_in" 4 EF (Jc K)) (xx:ay P w K mg base (aa K "Stairs") "words" 4 Es (JB K)) (n6:ay P w K mg base (aa K "Stairs") "go_out" 5 ZU (A5 K)) (Ul:∀ n,ay P w K mg base (aa K "Stairs") "push" (n+8) ZH (De K n)):av P w K mg base aV 13 f fd Lg (Oj K):=by
 refine F.ok bP (λvs H Q E h=>?_) (λcdv A outer s0 H vs Q E hr h=>?_)
 .obtain ⟨A,g,st,os,n,b,rfl,_⟩:=h
  rfl
 obtain ⟨A,g,st,os,n,b,rfl,R,dj,bU,hn,q⟩:=h
 have nd:=bP.nd
 have l4:g.n<=4:=R.wf.l4
 have l1:1<=g.n:=R.wf.l1
 have xw:=Ul g.n
 refine ⟨_,(Zi (aI (Zy aU (pv 1) Zj (Zz _)) (Zi (Zp (Zk xC hr.m T.aR (pv 0) (pc (pv 1) (pc (pv 2) Zb))))) (Zi (aI (Zy aU (pv 1) (Zl (K:=K) rfl (pv 0) rfl) (Zz _)) (Zi (Zp (Zk xw hr.m T.aR (pv 0) (pc Zj (pc (pv 2) (pc (Zk xx hr.m T.aR (pv 0) (pc (pv 1) (pc (pv 2) Zb))) (pc dM Zb))))))) (Zf (mH (Zk n6 hr.m T.aR (pv 0) (pc (pv 1) (pc (pv 2) Zb))) (mJ (K:=K) (n:=2) rfl rfl (Zt (bZ 3 nd) (Zt (bZ 4 nd) mK))))
   (Zi (Zp (Zk xw hr.m T.aR (pv 0) (pc Zj (pc (pv 2) (pc (pv 3) (pc (pv 4) Zb)))))))))))),?_⟩
 obtain ⟨dx,h1⟩:=R.ob
 have ln:=R.ln
 have lS:=R.lS
 obtain ⟨b0,b1⟩:=R.wf.ub b bU
 have TL:=yk st b
 have sA:=DQ (st:=st) (b:=b)
 have zP:=λj=>DZ (st:=st) (b:=b) (j:=j)
 generalize nearF st b=k at *
 unfold uI at q
 refine ⟨_,rfl,rfl,_,rfl,yp (λe=>?_) (λe=>?_)⟩
 .have e0:k=0:=by lia
  subst e0
  rw [abw rfl] at q
  have hb:=sA (by lia)
  have eu:bJ g 0 b st=st.set 0 (kg (g.cf 0) (st.at_ 0) b):=abw (by lia)
  rw [eu] at q
  have sq:∀ j,((st.set 0 (kg (g.cf 0) (st.at_ 0) b)).at_ j).seq.Perm (st.at_ j).seq:=λj=>by
   rw [sZ]
   split
   .rename_i z; rw [z.1]; exact wG hb
   .exact List.Perm.refl _
  refine ⟨_,rfl,A.p,dx,_,rfl,h1,aD ..,_,rfl,_,rfl,A,g,st,os,n,0,b,rfl,R,by lia,hb,λH1 gO R1 p1=>q (λi j hi hj hij x hx hx'=>?_) ((sq 0).mem_iff.mpr hb) _ _ (R1.le (by lia)) p1⟩
  rw [bu] at hi hj
  exact dj i j hi hj hij x ((sq i).mem_iff.mp hx) ((sq j).mem_iff.mp hx')
 .have n0:k≠0:=by lia
  rw [aM3 n0] at q
  refine ⟨_,rfl,_,rfl,A.p,_,dx,_,_,rfl,h1,T.aR,T.qf,rL ..,rfl,_,rfl,yp (λe'=>?_) (λe'=>?_)⟩
  .have ek:k=g.n:=by lia
   rw [abw ek] at q
   refine ⟨_,rfl,A.p,dx,_,rfl,h1,aD ..,_,rfl,_,rfl,A.p,dx,_,rfl,h1,aD ..,_,rfl,_,rfl,A,g,st,os,n,k,b,rfl,R,by lia,(λh=>absurd h (by lia)),b0,b1,λlw H1 jH s1 ew=>?_⟩
   have ew:H1 lw=some (.lst ((bg g.size st.mem b).map V.int)):=by rw [ew]; unfold kT; rw [abw ek]
   exact ⟨A,g,st,os,n,0,b,lw,_,false,rfl,R.same s1,by lia,λj hj=>zP j (by lia) hj,dj,bU,ew,R.fresh jH,by unfold bg; rw [aK1,aZ9],by lia,λz1 z2 _ H2 jX R2 p2=>q z1 (z2 (by lia)) _ _ (R2.le (by lia)) ((bV.same s1).trans p2)⟩
  .have gC:k<g.n:=by lia
   rw [aM3 (by lia)] at q
   have hb:=sA (by lia)
   obtain ⟨u1,u2,u3,u4,u5,u6⟩:=R.mG (k:=k) (by lia)
   obtain ⟨d2,xF⟩:=DY dj (by lia) u6 hb
   refine ⟨_,rfl,A.p,dx,_,rfl,h1,aD ..,_,rfl,_,rfl,A,g,st,os,n,k,b,rfl,R,gC,hb,by lia,λH2 jX t l et el nl R2 p2=>⟨t,_,rfl,aK.of et,rfl,_,_,rfl,gN ⟨_,_,rfl,gN ⟨rfl,?_⟩⟩⟩⟩
   try dsimp only
   obtain ⟨jd,h2⟩:=R2.ob
   exact ⟨_,rfl,A.p,jd,_,rfl,h2,aD ..,_,rfl,_,rfl,_,rfl,A,g,_,jX,_,0,b,l,_,_,rfl,R2,by lia,xF,d2,bU,el,nl,(u2 b hb).2,by lia,λz1 z2 _ H3 rD R3 p3=>q z1 (z2 (by lia)) _ _ (R3.le (by lia)) (p2.trans p3)⟩
def IY (K:W.Frag):Sp:=λvs H Q _=>∃ (A:TA) (g:aP) (st:aq) (os:OS) (n:Nat) (b:Int),vs=[.ref A.p,.int b]/\af K H A g st os n/\(g.kind = "apart" -> dw st)/\b∈g.U/\n<=400000/\((g.kind = "apart" -> dw (Zw g b st))->b∈((Zw g b st).at_ 0).seq->Res K H A g os (Zw g b st) (n+60) (Q .aT))
theorem Zfv (F:aY K "fetch" "Stairs.fetch" KZ f fd) (T:Txt K mg) (ES:ay P w K mg base (aa K "Stairs") "nearest" 3 KQ (Qi K)) (EW:ay P w K mg base (aa K "Stairs") "tell_found" 1 Lb (Nc K)) (EZ:ay P w K mg base (aa K "Stairs") "fetch_apart" 13 Lg (Oj K)) (EY:ay P w K mg base (aa K "Stairs") "fetch_down" 7 Le (Nb K)):av P w K mg base aV 14 f fd ED (IY K):=by
 refine F.ok eV (λvs H Q E h=>?_) (λcdv A outer s0 H vs Q E hr h=>?_)
 .obtain ⟨A,g,st,os,n,b,rfl,_⟩:=h
  rfl
 obtain ⟨A,g,st,os,n,b,rfl,R,dj,bU,hn,q⟩:=h
 have nd:=eV.nd
 refine ⟨_,(Zf (cI 2 nd (Zk ES hr.m T.aR (pv 0) (pc (pv 1) Zb)))
   (Zf (Zp (Zk EW hr.m T.aR (pv 0) (pc (pv 2) Zb)))
   (Zi (aI (Zy aU (Zl (K:=K) rfl (pv 0) rfl) ZM (Zz _)) (Zi (Zp (Zk EZ hr.m T.aR (pv 0) (pc (pv 2) (pc (pv 1) Zb))))) (Zi (Zp (Zk EY hr.m T.aR (pv 0) (pc (pv 2) (pc (pv 1) Zb))))))))),?_⟩
 obtain ⟨dx,h1⟩:=R.ob
 refine ⟨_,rfl,A.p,dx,_,rfl,h1,aD ..,_,rfl,A,g,st,os,n,b,rfl,R,λH1 s1=>gN ?_⟩
 try dsimp only
 have R1:=R.same s1
 refine ⟨_,rfl,A.p,dx,_,rfl,s1 _ _ h1,aD ..,_,rfl,A,g,st,os,n,nearF st b,rfl,R1,(by have:=yk st b; have:=R.lS; have:=R.ln; lia),by lia,λH2 jX R2 p2=>?_⟩
 obtain ⟨jd,h2⟩:=R2.ob
 unfold Zw at q
 refine ⟨_,rfl,A.p,_,jd,_,_,rfl,h2,T.aR,T.E7,NX ..,rfl,_,rfl,pq (λc=>?_) (λc=>?_)⟩
 .have c':g.kind = "apart" := by injection c
  rw [abw c'] at q
  exact ⟨_,rfl,A.p,jd,_,rfl,h2,aD ..,_,rfl,_,rfl,A,g,st.tell (eF (nearF st b)),jX,_,b,rfl,R2,dj c',bU,by lia,λz1 z2 H3 rD R3 p3=>q (λ_=>z1) z2 _ _ (R3.le (by lia)) (((bV.same s1).trans p2).trans p3)⟩
 .have c':¬ g.kind = "apart" := λz=>c (by rw [z])
  rw [aM3 c'] at q
  exact ⟨_,rfl,A.p,jd,_,rfl,h2,aD ..,_,rfl,_,rfl,A,g,st.tell (eF (nearF st b)),jX,_,nearF st b,b,rfl,R2,rfl,bU,by lia,λz2 H3 rD R3 p3=>q (λz=>absurd z c') z2 _ _ (R3.le (by lia)) (((bV.same s1).trans p2).trans p3)⟩
def HZ (K:W.Frag):Sp:=λvs H Q _=>∃ (A:TA) (g:aP) (st:aq) (os:OS) (sp:Int),vs=[.ref A.p,.int sp]/\af K H A g st os 0/\(g.kind = "apart" -> dw st)/\sp / g.size∈g.U /\
 ∀ H' e' os' tp,H' tp=some (.tup [.int (k8 g ((Zw g (sp / g.size) st).at_ 0) sp),.ref A.ev])->af K H' (A.re e') g (kP (Zw g (sp / g.size) st)) os' 0->tP g.n H' A.ev (Zw g (sp / g.size) st).ev->(Zw g (sp / g.size) st).ev.length<=100->¬ OW (A.re e') os' A.ev->bV (OW A os) H H' (OW (A.re e') os')->(g.kind = "apart" -> dw (Zw g (sp / g.size) st))->sp / g.size∈((Zw g (sp / g.size) st).at_ 0).seq->Q (.ref tp) H'
theorem ZfI (F:aY K "read" "Stairs.read" Kf f fd) (T:Txt K mg) (pI:Def P w K mg base "board_of" 1 yw A6) (xB:ay P w K mg base (aa K "Stairs") "fetch" 14 ED (IY K)) (EN:ay P w K mg base (aa K "Stairs") "word_in" 4 La (OU K)) (xq:ay P w K mg base (aa K "Stairs") "happened" 1 Ez (JP K)):av P w K mg base aV 15 f fd Ep (HZ K):=by
 refine F.ok fJ (λvs H Q E h=>?_) (λcdv A outer s0 H vs Q E hr h=>?_)
 .obtain ⟨A,g,st,os,sp,rfl,_⟩:=h
  rfl
 obtain ⟨A,g,st,os,sp,rfl,R,dj,bU,q⟩:=h
 have nd:=fJ.nd
 refine ⟨_,(Zf (cI 2 nd (Zm pI hr.m rfl (pc (Zl (K:=K) rfl (pv 0) rfl) (pc (pv 1) Zb))))
   (Zf (Zp (Zk xB hr.m T.aR (pv 0) (pc (pv 2) Zb)))
   (Zi (Zu (jI (pc (Zk EN hr.m T.aR (pv 0) (pc Zj (pc (pv 1) Zb))) (pc (Br xq hr.m T.aR (pv 0)) Zb))))))),?_⟩
 obtain ⟨dx,h1⟩:=R.ob
 have z0:=R.wf.z0
 have z1:=R.wf.z1
 have l1:1<=g.n:=R.wf.l1
 refine ⟨_,rfl,A.p,_,dx,_,_,rfl,h1,T.aR,T.ve,ym ..,_,rfl,g.size,sp,rfl,by lia,by lia,gN ?_⟩
 try dsimp only
 refine ⟨_,rfl,A.p,dx,_,rfl,h1,aD ..,_,rfl,A,g,st,os,0,_,rfl,R,dj,bU,by decide,λy1 y2 H1 gO R1 p1=>?_⟩
 obtain ⟨iD,h2⟩:=R1.ob
 refine ⟨_,rfl,A.p,iD,_,rfl,h2,aD ..,_,rfl,A,g,_,gO,_,0,sp,rfl,R1,l1,y2,λH2 s2=>?_⟩
 have R2:=R1.same s2
 refine ⟨_,rfl,A.p,iD,_,rfl,s2 _ _ h2,aD ..,A,g,_,gO,_,rfl,R2,λe' H3 R3 U5 ne3 p3=>⟨(sl 2),λtp htp=>?_⟩⟩
 have s4:=Zd htp (.tup [.int (k8 g ((Zw g (sp / g.size) st).at_ 0) sp),.ref A.ev])
 exact q _ e' gO tp Za (R3.same s4) (U5.frame (λo e=>s4 _ _ e) λx ys e=>s4 _ _ e) (a28 R1.sO (by decide)) ne3 (((p1.trans (bV.same s2)).trans p3).trans (bV.same s4)) y1 y2
def IX (K:W.Frag):Sp:=λvs H Q _=>∃ (A:TA) (g:aP) (st:aq) (os:OS) (sp x:Int),vs=[.ref A.p,.int sp,.int x]/\af K H A g st os 0/\(g.kind = "apart" -> dw st)/\sp / g.size∈g.U /\
 ∀ H' e' os',af K H' (A.re e') g (kP (uH g sp x st)) os' 0->tP g.n H' A.ev (uH g sp x st).ev->(uH g sp x st).ev.length<=100->¬ OW (A.re e') os' A.ev->bV (OW A os) H H' (OW (A.re e') os')->(g.kind = "apart" -> dw (uH g sp x st))->sp / g.size∈((uH g sp x st).at_ 0).seq->Q (.ref A.ev) H'
theorem Wn {st st':aq} (d:dw st) (l:st'.rm.length=st.rm.length) (sq:∀ j,(st'.at_ j).seq=(st.at_ j).seq):dw st':=λi j hi hj hij x hx hx'=>by
 rw [l] at hi hj
 rw [sq] at hx hx'
 exact d i j hi hj hij x hx hx'
theorem Zfw (F:aY K "write" "Stairs.write" K0 f fd) (T:Txt K mg) (pI:Def P w K mg base "board_of" 1 yw A6) (xB:ay P w K mg base (aa K "Stairs") "fetch" 14 ED (IY K)) (ER:ay P w K mg base (aa K "Stairs") "put_word" 2 KS (Qj K)) (xE:ay P w K mg base (aa K "Stairs") "change" 5 EH (Jx K)) (xq:ay P w K mg base (aa K "Stairs") "happened" 1 Ez (JP K)):av P w K mg base aV 15 f fd EE (IX K):=by
 refine F.ok eT (λvs H Q E h=>?_) (λcdv A outer s0 H vs Q E hr h=>?_)
 .obtain ⟨A,g,st,os,sp,x,rfl,_⟩:=h
  rfl
 obtain ⟨A,g,st,os,sp,x,rfl,R,dj,bU,q⟩:=h
 have nd:=eT.nd
 refine ⟨_,(Zf (cI 3 nd (Zm pI hr.m rfl (pc (Zl (K:=K) rfl (pv 0) rfl) (pc (pv 1) Zb))))
   (Zf (Zp (Zk xB hr.m T.aR (pv 0) (pc (pv 3) Zb)))
   (Zf (Zp (Zk ER hr.m T.aR (pv 0) (pc Zj (pc (pv 1) (pc (pv 2) Zb)))))
   (Zf (Zp (Zk xE hr.m T.aR (pv 0) (pc Zj (pc (pv 3) Zb))))
   (Zi (Zu (Br xq hr.m T.aR (pv 0)))))))),?_⟩
 obtain ⟨dx,h1⟩:=R.ob
 have z0:=R.wf.z0
 have z1:=R.wf.z1
 have l1:1<=g.n:=R.wf.l1
 refine ⟨_,rfl,A.p,_,dx,_,_,rfl,h1,T.aR,T.ve,ym ..,_,rfl,g.size,sp,rfl,by lia,by lia,gN ?_⟩
 try dsimp only
 refine ⟨_,rfl,A.p,dx,_,rfl,h1,aD ..,_,rfl,A,g,st,os,0,_,rfl,R,dj,bU,by decide,λy1 y2 H1 gO R1 p1=>?_⟩
 obtain ⟨iD,h2⟩:=R1.ob
 refine ⟨_,rfl,A.p,iD,_,rfl,h2,aD ..,_,rfl,_,rfl,A,g,_,gO,_,0,sp,x,rfl,R1,l1,y2,λH2 jX R2 p2=>?_⟩
 obtain ⟨jd,h3⟩:=R2.ob
 have yT:∀ j,(((Zw g (sp / g.size) st).set 0 (ku g ((Zw g (sp / g.size) st).at_ 0) sp x)).at_ j).seq=((Zw g (sp / g.size) st).at_ j).seq:=λj=>Df rfl
 refine ⟨_,rfl,A.p,jd,_,rfl,h3,aD ..,_,rfl,A,g,_,jX,_,0,_,rfl,R2,l1,by rw [yT]; exact y2,by decide,λH3 rD R3 p3=>?_⟩
 obtain ⟨vZ,h4⟩:=R3.ob
 have LK:∀ j,((uH g sp x st).at_ j).seq=((Zw g (sp / g.size) st).at_ j).seq:=λj=>j7.trans (yT j)
 refine ⟨_,rfl,A.p,vZ,_,rfl,h4,aD ..,A,g,_,rD,_,rfl,R3,λe' H4 R4 U4 ne4 p4=>?_⟩
 exact q _ e' rD R4 U4 (a28 R3.sO (by decide)) ne4 (((p1.trans p2).trans p3).trans p4) (λc=>Wn (y1 c) (by have a1:=R3.lS; have a2:=R1.lS; show (uH g sp x st).rm.length=_; rw [a2]; exact a1) LK) (by rw [LK]; exact y2)
end
section
theorem Wd (x y:Str) (r:Int) (h0:0<=r) (h1:r<2):∃ z:Str,fS [V.str x,V.str y] r=some (.str z)/\(z=x\/z=y):=by
 have h:r=0\/r=1:=by lia
 rcases h with rfl | rfl
 .exact ⟨x,cK,.inl rfl⟩
 .exact ⟨y,gj,.inr rfl⟩
def Na:Sp:=λvs H Q _=>∃ (b:Addr) (a q c:Int),vs=[.ref b]/\aG H b a q c/\c<400000000 /\
 ∀ (p:Addr) (sh pl:Int) (r wr:Str) (a' c':Int) (H':Hp),H' p=some (.tup [.int sh,.int pl,.str r,.str wr])->1<=sh->sh<=64->1<=pl->pl<=16->tH r->Wr wr->aG H' b a' q c'->c'<=c+6->SB b H H'->Q (.ref p) H'
theorem ZhU (F:aY K "_law_room_plan" "_law_room_plan" JV f fd) (T:Txt K mg) (d7:Def P w K mg base "_law_take" 1 uL wk):av P w K mg base aV 2 f fd JU Na:=by
 refine F.ok gY (λvs H Q E h=>?_) (λcdv A outer st H vs Q E hr h=>?_)
 .obtain ⟨b,a,q,c,rfl,_⟩:=h
  rfl
 obtain ⟨b,a,q,c,rfl,B,hc,k⟩:=h
 have nd:=gY.nd
 refine ⟨_,(Zf (cI 1 nd (oK aU (Zm d7 hr.m rfl (pc (pv 0) (pc Zj Zb))) Zj (Zz _)))
   (Zf (cI 2 nd (wK (jJ (pv 1)) (ak ZJ Zj (Zm d7 hr.m rfl (pc (pv 0) (pc Zj Zb)))) (ao (Zr (K:=K) rfl) (j8 (pc Zj (pc Zj (pc Zj (pc Zj (pc Zj Zb)))))) (Zm d7 hr.m rfl (pc (pv 0) (pc Zj Zb))) (λ_ _=>rfl))))
   (Zf (cI 3 nd (ak ZJ Zj (Zm d7 hr.m rfl (pc (pv 0) (pc (wK (jJ (pv 1)) Zj Zj) Zb)))))
   (Zf (cI 4 nd (ao (Zr (K:=K) rfl) (j8 (pc ZM (pc ZM (pc ZM Zb)))) (Zm d7 hr.m rfl (pc (pv 0) (pc Zj Zb))) (λ_ _=>rfl)))
   (Zi (Zu (jI (pc (pv 2) (pc (pv 3) (pc (pv 4) (pc (ao (Zr (K:=K) rfl) (j8 (pc ZM (pc ZM Zb))) (Zm d7 hr.m rfl (pc (pv 0) (pc Zj Zb))) (λ_ _=>rfl)) Zb))))))))))),?_⟩
 refine ⟨_,rfl,b,a,q,c,6,rfl,B,by lia,by decide,by decide,λr1 a1 c1 H1 u9 zw B1 hc1 s1=>⟨rfl,?_⟩⟩
 generalize decide (V.int r1=V.int 0)=MQ
 try dsimp only
 refine C8 (λv G=>∃ z a' c',v=.int z/\1<=z/\z<=64/\aG G b a' q c'/\c'<=c1+1/\SB b H G) (λQ' k'=>?_) ?_
 .refine ⟨_,rfl,_,rfl,?_⟩
  cases MQ with
  | true=>exact fk rfl ⟨_,rfl,b,a1,q,c1,64,rfl,B1,by lia,by decide,by decide,λr2 a2 c2 H2 rA qc B2 hc2 s2=>⟨_,_,rfl,rfl,k' _ _ ⟨_,a2,c2,rfl,by lia,by lia,B2,by lia,s1.trans s2⟩⟩⟩
  | false =>
   refine cF rfl ⟨(sl 5),λp0 hp0=>⟨_,rfl,b,a1,q,c1,5,rfl,B1.same (Zd hp0 _),by lia,by decide,by decide,λr2 a2 c2 H2 rA qc B2 hc2 s2=>?_⟩⟩
   have q0:b≠p0:=Ze B1.at' hp0
   obtain ⟨sh,hsh,y9,yZ⟩:=zA r2 rA qc
   exact ⟨p0,_,_,_,rfl,rfl,aB.of (s2 _ _ (a4v q0) Za),hsh,k' _ _ ⟨_,a2,c2,rfl,y9,yZ,B2,by lia,s1.trans (((Zd hp0 _).sb b).trans s2)⟩⟩
 rintro _ H2 ⟨sh,a2,c2,rfl,y9,yZ,B2,hc2,u2⟩
 refine gN ?_
 try dsimp only
 refine C8 (λv G=>∃ z a' c',v=.int z/\1<=z/\z<=16/\aG G b a' q c'/\c'<=c2+1/\SB b H G) (λQ' k'=>?_) ?_
 .refine ⟨_,rfl,_,rfl,_,rfl,?_⟩
  cases MQ with
  | true=>exact fk rfl ⟨b,a2,q,c2,16,rfl,B2,by lia,by decide,by decide,λr3 a3 c3 H3 uZ ua B3 hc3 s3=>⟨_,_,rfl,rfl,k' _ _ ⟨_,a3,c3,rfl,by lia,by lia,B3,by lia,u2.trans s3⟩⟩⟩
  | false=>exact cF rfl ⟨b,a2,q,c2,4,rfl,B2,by lia,by decide,by decide,λr3 a3 c3 H3 uZ ua B3 hc3 s3=>⟨_,_,rfl,rfl,k' _ _ ⟨_,a3,c3,rfl,by lia,by lia,B3,by lia,u2.trans s3⟩⟩⟩
 rintro _ H3 ⟨pl,a3,c3,rfl,FU,kB,B3,hc3,u3⟩
 refine gN ?_
 try dsimp only
 refine ⟨(sl 3),λp3 hp3=>⟨_,rfl,b,a3,q,c3,3,rfl,B3.same (Zd hp3 _),by lia,by decide,by decide,λr4 a4 c4 H4 zv Cz B4 hc4 s4=>?_⟩⟩
 have q3:b≠p3:=Ze B3.at' hp3
 obtain ⟨ru,Us,Up⟩:=zy r4 zv Cz
 refine ⟨p3,_,_,_,rfl,rfl,aB.of (s4 _ _ (a4v q3) Za),Us,?_⟩
 have u4:SB b H H4:=u3.trans (((Zd hp3 _).sb b).trans s4)
 refine ⟨_,rfl,_,rfl,_,rfl,(sl 2),λp5 GW=>⟨_,rfl,b,a4,q,c4,2,rfl,B4.same (Zd GW _),by lia,by decide,by decide,λr5 a5 c5 H5 FQ LL B5 hc5 s5=>?_⟩⟩
 have q5:b≠p5:=Ze B4.at' GW
 obtain ⟨wr,hwr,Uo⟩:=Wd "late" "through" r5 FQ LL
 refine ⟨p5,_,_,_,rfl,rfl,aB.of (s5 _ _ (a4v q5) Za),hwr,(sl 4),λpp hpp=>?_⟩
 exact k pp sh pl ru wr a5 c5 _ Za y9 yZ FU kB Up Uo (B5.same (Zd hpp _)) (by lia)
  ((u4.trans (((Zd GW _).sb b).trans s5)).trans ((Zd hpp _).sb b))
end
theorem Wc (r:Int) (h0:0<=r) (h1:r<3):∃ z:Str,fS [V.str "within",V.str "apart",V.str "free"] r=some (.str z)/\(z = "within" \/ z = "apart" \/ z = "free"):=by
 have h:r=0\/r=1\/r=2:=by lia
 rcases h with rfl | rfl | rfl
 .exact ⟨_,cK,.inl rfl⟩
 .exact ⟨_,gj,.inr (.inl rfl)⟩
 .exact ⟨_,gS,.inr (.inr rfl)⟩
section
def Oi (K:W.Frag):Sp:=λvs H Q _=>∃ (b:Addr) (a q c:Int),vs=[.ref b]/\aG H b a q c/\c<300000000 /\
 ∀ (pp tp:Addr) (ts:List Addr) (size:Int) (kind:Str) (aF:List Cf) (a' c':Int) (H':Hp),H' pp=some (.tup [.int size,.str kind,.ref tp])->bI K H' tp ts aF->(kind = "within" \/ kind = "apart" \/ kind = "free")->1<=size->size<=16->1<=aF.length->aF.length<=4->aG H' b a' q c'->c'<=c+40->SB b H H'->Q (.ref pp) H'
theorem Wm (F:aY K "_law_plan" "_law_plan" Dv f fd) (T:Txt K mg) (d7:Def P w K mg base "_law_take" 1 uL wk) (Gy:Def P w K mg base "_law_room_plan" 2 JU Na):av P w K mg base aV 3 f fd Ij (Oi K):=by
 refine F.ok nX (λvs H Q E h=>?_) (λcdv A outer st H vs Q E hr h=>?_)
 .obtain ⟨b,a,q,c,rfl,_⟩:=h
  rfl
 obtain ⟨b,a,q,c,rfl,B,hc,k⟩:=h
 have nd:=nX.nd
 refine ⟨_,(Zf (cI 1 nd (ao (Zr (K:=K) rfl) (j8 (pc ZM (pc ZM (pc ZM Zb)))) (Zm d7 hr.m rfl (pc (pv 0) (pc Zj Zb))) (λ_ _=>rfl)))
   (Zf (cI 2 nd (ak ZJ Zj (Zm d7 hr.m rfl (pc (pv 0) (pc (ao (Zr (K:=K) rfl) (j8 (pc Zj (pc Zj Zb))) (tF JS rfl T.xP Eb (pc (oK aU (Zm d7 hr.m rfl (pc (pv 0) (pc Zj Zb))) Zj (Zz _)) Zb)) (λ_ _=>rfl)) Zb)))))
   (Zi (Zu (jI (pc (pv 2) (pc (pv 1) (pc (tF (QJ (K:=K) rfl) rfl T.wZ Ej (pc (uS (ZL (iZ:=(Zh Dv)) (oN:=nD) (N:=["_law_k", "_law_box_here"]) (own:=1) (js:=[0]) (by decide +kernel) rfl rfl) rfl (tE rfl T.lE (pc (ak ZJ Zj (Zm d7 hr.m rfl (pc (pv 0) (pc Zj Zb)))) Zb)) (λ_ _ _ _ _ _=>(bZ 0 (show List.Nodup (["_law_k", "_law_box_here"]:List Str) by decide +kernel))) (λ_ _ _ _ _ _=>(Zm Gy hr.m rfl (pc (pv 1) Zb)))) Zb)) Zb)))))))),?_⟩
 refine ⟨(sl 3),λp1 hp1=>⟨_,rfl,b,a,q,c,3,rfl,B.same (Zd hp1 _),by lia,by decide,by decide,λr1 a1 c1 H1 u9 zw B1 hc1 s1=>?_⟩⟩
 have q1:b≠p1:=Ze B.at' hp1
 obtain ⟨kd,hkd,Mc⟩:=Wc r1 u9 zw
 refine ⟨p1,_,_,_,rfl,rfl,aB.of (s1 _ _ (a4v q1) Za),hkd,gN ?_⟩
 try dsimp only
 have u1:SB b H H1:=((Zd hp1 _).sb b).trans s1
 refine ⟨_,rfl,(sl 2),λp2 hp2=>⟨_,rfl,b,a1,q,c1,8,rfl,B1.same (Zd hp2 _),by lia,by decide,by decide,λr2 a2 c2 H2 rA qc B2 hc2 s2=>⟨rfl,.inr ⟨_,rfl,?_⟩⟩⟩⟩
 have q2:b≠p2:=Ze B1.at' hp2
 obtain ⟨n,hn,hn'⟩:=Nh 4 16 (decide (V.int r2=V.int 0))
 refine ⟨p2,_,_,_,rfl,rfl,aB.of (s2 _ _ (a4v q2) Za),hn,b,a2,q,c2,n,rfl,B2,by lia,by lia,by lia,λr3 a3 c3 H3 uZ ua B3 hc3 s3=>⟨_,_,rfl,rfl,gN ?_⟩⟩
 try dsimp only
 have u3:SB b H H3:=(((u1.trans ((Zd hp2 _).sb b)).trans s2)).trans s3
 refine ⟨_,rfl,_,rfl,_,rfl,b,a3,q,c3,4,rfl,B3,by lia,by decide,by decide,λr4 a4 c4 H4 zv Cz B4 hc4 s4=>⟨_,_,rfl,rfl,_,rfl,by lia,by lia,λl hl=>?_⟩⟩
 have lH:l≠b:=a4v (Ze B4.at' hl)
 have u4:=u3.trans s4
 refine wL (lo:=0) (n:=(1+r4).toNat) (l:=l) (λj ys σ G=>∃ (v0:Option V) (ts:List Addr) (aF:List Cf) (a' c':Int),σ=[v0,some (.ref b)]/\ys=ts.map V.ref/\ts.length=j/\aF.length=j/\(∀ (i:Nat) (t:Addr) (c:Cf),ts[i]?=some t->aF[i]?=some c->∃ wr:Str,G t=some (.tup [.int c.sh,.int c.pl,.str c.ru,.str wr])/\c.late=decide (wr = "late")/\Wr wr)/\(∀ c∈aF,1<=c.sh/\c.sh<=64/\1<=c.pl/\c.pl<=16/\tH c.ru)/\G l=some (.lst ys)/\aG G b a' q c'/\c'<=c4+6 * (j:Int)/\SB b H G)
  ⟨none,[],[],a4,c4,rfl,rfl,rfl,rfl,(λi t c h=>by simp at h),(λc h=>by simp at h),Za,B4.same (Zd hl _),by lia,u4.trans ((Zd hl _).sb b)⟩ ?_ ?_
 .rintro j ys σ G hj hys ⟨v0,ts,aF,a',c',rfl,rfl,hl1,hl2,hat,hcf,g1,B',hc',u'⟩
  refine ⟨_,rfl,b,a',q,c',rfl,B',by lia,λp sh pl r wr a5 c5 G5 ep y9 yZ FU kB hr hw B5 hc5 s5=>?_⟩
  have g5:=s5 _ _ lH g1
  have TF:p≠l:=λz=>by rw [z,g5] at ep; cases ep
  refine jR.of (a28 (by lia:(1+r4).toNat<=4) (by decide)) hj hys g5 ⟨_,ts++[p],aF++[⟨sh,pl,r,decide (wr = "late")⟩],a5,c5,rfl,by rw [aIV]; rfl,by rw [aCv,hl1]; rfl,by rw [aCv,hl2]; rfl,λi t c h1 h2=>?_,λc hc=>?_,Za,B5.sb (yh l _ _) (a4v lH),by lia,λx o nx e=>?_⟩
  .by_cases hi:i<j
   .rw [aY3 (by lia)] at h1 h2
    obtain ⟨wr',e1,e2⟩:=hat i t c h1 h2
    refine ⟨wr',?_,e2⟩
    have zL:t≠b:=λz=>by rw [z,B'.at'] at e1; cases e1
    have oE:=s5 _ _ zL e1
    rw [Zc (λz=>by rw [z,g5] at oE; cases oE)]
    exact oE
   .have hi2:i=j:=by have:=(a2U.mp h1).1; rw [aCv,adf] at this; lia
    subst hi2
    rw [auv (by lia),show i - ts.length=0 by lia] at h1
    rw [auv (by lia),show i - aF.length=0 by lia] at h2
    cases h1; cases h2
    exact ⟨wr,by rw [Zc TF]; exact ep,rfl,hw⟩
  .rcases a1m.mp hc with hc | hc
   .exact hcf c hc
   .rw [arG.mp hc]; exact ⟨y9,yZ,FU,kB,hr⟩
  .have To:x≠l:=λz=>by
    rw [z] at e
    have:=u4 _ _ lH e
    rw [this] at hl; cases hl
   rw [Zc To]
   exact s5 _ _ nx (u' _ _ nx e)
 rintro ys σ G _ ⟨v0,ts,aF,a',c',rfl,rfl,hl1,hl2,hat,hcf,g1,B',hc',u'⟩
 refine ⟨l,_,rfl,.inl ⟨aB.of g1,λtp htp=>⟨(sl 3),λpp hpp=>?_⟩⟩⟩
 have s5:=Zd htp (.tup (ts.map V.ref))
 have s6:=s5.trans (Zd hpp (.tup [.int (1+r3),.str kd,.ref tp]))
 refine k pp tp ts (1+r3) kd aF a' c' _ Za ⟨Zd hpp _ _ _ Za,by show ts.length=aF.length; lia,λi t c h1 h2=>by obtain ⟨wr,e1,e2⟩:=hat i t c h1 h2; exact ⟨wr,s6 _ _ e1,e2⟩,hcf⟩ Mc (by show 1<=1+r3; lia) (by show 1+r3<=16; lia) (by show 1<=aF.length; lia) (by show aF.length<=4; lia) (B'.same s6) (by lia) (u'.trans (s6.sb b))
end
section
def HY:Sp:=λvs H Q _=>∃ (b:Addr) (a q c x y:Int),vs=[.ref b,.int x,.int y]/\aG H b a q c/\c<1099511627770/\0<x/\x<=y/\y<1073741824 /\
 ∀ (r a' c':Int) (H':Hp),1<=r->r<=y->aG H' b a' q c'->c'<=c+2->SB b H H'->Q (.int r) H'
theorem Wl (F:aY K "_law_many" "_law_many" HS f fd) (T:Txt K mg) (d7:Def P w K mg base "_law_take" 1 uL wk):av P w K mg base aV 2 f fd Dt HY:=by
 refine F.ok nY (λvs H Q E h=>?_) (λcdv A outer st H vs Q E hr h=>?_)
 .obtain ⟨b,a,q,c,x,y,rfl,_⟩:=h
  rfl
 obtain ⟨b,a,q,c,x,y,rfl,B,hc,x0,xy,y1,k⟩:=h
 have nd:=nY.nd
 refine ⟨_,(Zf (cI 3 nd (oK aU (Zm d7 hr.m rfl (pc (pv 0) (pc Zj Zb))) Zj (Zz _)))
   (Zi (Zu (ak ZJ Zj (Zm d7 hr.m rfl (pc (pv 0) (pc (wK (jJ (pv 3)) (pv 2) (pv 1)) Zb))))))),?_⟩
 refine ⟨_,rfl,b,a,q,c,8,rfl,B,by lia,by decide,by decide,λr a1 c1 G1 r0 r1 B1 hc1 t1=>?_⟩
 refine ⟨rfl,gN ?_⟩
 refine ⟨_,rfl,_,rfl,_,rfl,Je (λz=>?_) (λz=>?_)⟩
 .refine ⟨_,rfl,b,a1,q,c1,y,rfl,B1,by lia,by lia,by lia,λr2 a2 c2 G2 rA qc B2 hc2 t2=>?_⟩
  exact ⟨_,_,rfl,rfl,k (1+r2) a2 c2 G2 (by lia) (by lia) B2 (by lia) (t1.trans t2)⟩
 .refine ⟨_,rfl,b,a1,q,c1,x,rfl,B1,by lia,by lia,by lia,λr2 a2 c2 G2 rA qc B2 hc2 t2=>?_⟩
  exact ⟨_,_,rfl,rfl,k (1+r2) a2 c2 G2 (by lia) (by lia) B2 (by lia) (t1.trans t2)⟩
end
inductive Dd where
 | rd (sp:Int)
 | wt (sp x:Int)
def Dd.sp:Dd->Int
 | .rd sp=>sp
 | .wt sp _=>sp
def Dd.vs:Dd->List V
 | .rd sp=>[.str "read",.int sp]
 | .wt sp x=>[.str "write",.int sp,.int x]
def Dd.ok:Dd->Prop
 | .rd sp=>0<=sp/\sp<=9999
 | .wt sp x=>(0<=sp/\sp<=9999)/\x.natAbs<10 ^ 40
section
def Oh:Sp:=λvs H Q _=>∃ (b:Addr) (a q c:Int),vs=[.ref b]/\aG H b a q c/\c<400000000/\∀ (x a' c':Int) (H':Hp),x.natAbs<10 ^ 40->aG H' b a' q c'->c'<=c+8->SB b H H'->Q (.int x) H'
theorem Wk (F:aY K "_law_word" "_law_word" Ii f fd) (T:Txt K mg) (d7:Def P w K mg base "_law_take" 1 uL wk):av P w K mg base aV 2 f fd Ih Oh:=by
 refine F.ok nT (λvs H Q E h=>?_) (λcdv A outer s0 H vs Q E hr h=>?_)
 .obtain ⟨b,a,q,c,rfl,_⟩:=h
  rfl
 obtain ⟨b,a,q,c,rfl,B,hc,k⟩:=h
 have nd:=nT.nd
 refine ⟨_,(Zf (cI 1 nd (Zm d7 hr.m rfl (pc (pv 0) (pc Zj Zb))))
   (Zf (aI (Zy jY (pv 1) Zj (Zz _)) (Zf (cI 2 nd (Zm d7 hr.m rfl (pc (pv 0) (pc (ao (Zr (K:=K) rfl) (j8 (pc Zj (pc Zj (pc Zj Zb)))) (pv 1) (λ_ _=>rfl)) Zb))))
   (Zi (Zu (ao (Zr (K:=K) rfl) (j8 (pc (pv 2) (pc (ak ZJ Zj (pv 2)) (pc (ak sR (jW yi Zj) (pv 2)) Zb)))) (pv 1) (λ_ _=>rfl))))) Zv)
   (Zf (cI 2 nd Zj)
   (Zf (rJ aan rfl (tE rfl T.lE (pc (ak ZJ Zj (Zm d7 hr.m rfl (pc (pv 0) (pc Zj Zb)))) Zb)) (bZ 3 nd) (Zi (cI 2 nd (ak ZJ (ak o9 (pv 2) (ak Ie Zj Zj)) (Zm d7 hr.m rfl (pc (pv 0) (pc (ak Ie Zj Zj) Zb)))))))
   (Zi (Zu (ao (Zr (K:=K) rfl) (j8 (pc (pv 2) (pc (ak sR Zj (pv 2)) Zb))) (Zm d7 hr.m rfl (pc (pv 0) (pc Zj Zb))) (λ_ _=>rfl)))))))),?_⟩
 refine ⟨_,rfl,b,a,q,c,4,rfl,B,by lia,by decide,by decide,λr1 a1 c1 H1 u9 zw B1 hc1 s1=>gN ?_⟩
 try dsimp only
 refine ⟨_,rfl,_,_,rfl,rfl,_,rfl,pq (λz=>?_) (λz=>?_)⟩
 .obtain ⟨n,hn,n0,n1⟩:∃ n:Int,fS [V.int 9,V.int 99,V.int 99] r1=some (.int n)/\1<=n/\n<=99:=by
   have h:r1=0\/r1=1\/r1=2:=by lia
   rcases h with rfl | rfl | rfl
   .exact ⟨9,cK,by decide,by decide⟩
   .exact ⟨99,gj,by decide,by decide⟩
   .exact ⟨99,gS,by decide,by decide⟩
  refine ⟨_,rfl,(sl 3),λp1 hp1=>⟨_,rfl,p1,_,_,_,rfl,rfl,aB.of Za,hn,b,a1,q,c1,n,rfl,B1.same (Zd hp1 _),by lia,by lia,by lia,λr2 a2 c2 H2 rA qc B2 hc2 s2=>gN ?_⟩⟩
  try dsimp only
  refine ⟨_,rfl,_,rfl,_,_,rfl,rfl,_,rfl,_,rfl,_,_,rfl,rfl,(sl 3),λp2 hp2=>⟨_,rfl,p2,?_⟩⟩
  obtain ⟨x,hx,x1⟩:∃ x:Int,fS [V.int r2,V.int (1+r2),V.int (-1 - r2)] r1=some (.int x)/\x.natAbs<10 ^ 40:=by
   have h:r1=0\/r1=1\/r1=2:=by lia
   have Vs:1000<=10 ^ 40:=by decide
   rcases h with rfl | rfl | rfl
   .exact ⟨_,cK,by lia⟩
   .exact ⟨_,gj,by lia⟩
   .exact ⟨_,gS,by lia⟩
  exact ⟨_,_,_,rfl,rfl,aB.of Za,hx,k x a2 c2 _ x1 (B2.same (Zd hp2 _)) (by lia) (((s1.trans ((Zd hp1 _).sb b)).trans s2).trans ((Zd hp2 _).sb b))⟩
 .dsimp only [gk]
  refine gN ?_
  try dsimp only
  refine ⟨_,rfl,b,a1,q,c1,4,rfl,B1,by lia,by decide,by decide,λr2 a2 c2 H2 rA qc B2 hc2 s2=>⟨_,_,rfl,rfl,_,rfl,by lia,by lia,?_⟩⟩
  have e7:(10:Int) ^ (7:Int).toNat=10000000:=by decide
  refine Bt (lo:=0) (n:=(1+r2).toNat) (λi σ G=>∃ (v3:Option V) (z a' c':Int),σ=[some (.ref b),some (.int r1),some (.int z),v3]/\0<=z/\z<10000000 ^ i/\aG G b a' q c'/\c'<=c2+(i:Int)/\SB b H G)
   ⟨none,0,a2,c2,rfl,by decide,by decide,B2,by lia,s1.trans s2⟩ ?_ ?_
  .rintro i σ G hi ⟨v3,z,a',c',rfl,z0,z1,B',hc',s'⟩
   refine gN ?_
   try dsimp only
   refine ⟨_,rfl,_,_,rfl,rfl,⟨by decide,by decide,by decide⟩,_,_,rfl,rfl,.inr (by rw [e7]; decide),_,rfl,_,_,rfl,rfl,⟨by decide,by decide,by decide⟩,b,a',q,c',_,rfl,B',by lia,by rw [e7]; decide,by rw [e7]; decide,λr3 a3 c3 H3 uZ ua B3 hc3 s3=>⟨_,_,rfl,rfl,gN ⟨_,_,a3,c3,rfl,?_,?_,B3,by lia,s'.trans s3⟩⟩⟩
   .rw [e7]
    lia
   .rw [e7] at ua ⊢
    rw [Int.pow_succ]
    generalize (10000000:Int) ^ i=X at *
    lia
  .rintro σ G ⟨v3,z,a',c',rfl,z0,z1,B',hc',s'⟩
   have zb:z<10000000000000000000000000000:=by
    have h:(1+r2).toNat=1\/(1+r2).toNat=2\/(1+r2).toNat=3\/(1+r2).toNat=4:=by lia
    have p1:(10000000:Int) ^ 1=10000000:=by decide
    have p2:(10000000:Int) ^ 2=100000000000000:=by decide
    have p3:(10000000:Int) ^ 3=1000000000000000000000:=by decide
    have p4:(10000000:Int) ^ 4=10000000000000000000000000000:=by decide
    rcases h with e | e | e | e <;> rw [e] at z1 <;> lia
   have Vs:10000000000000000000000000000<=10 ^ 40:=by decide
   refine ⟨_,rfl,_,rfl,_,_,rfl,rfl,(sl 2),λp2 hp2=>⟨_,rfl,b,a',q,c',2,rfl,B'.same (Zd hp2 _),by lia,by decide,by decide,λr4 a4 c4 H4 zv Cz B4 hc4 s4=>?_⟩⟩
   have np:b≠p2:=Ze B'.at' hp2
   obtain ⟨x,hx,x1⟩:∃ x:Int,fS [V.int z,V.int (0 - z)] r4=some (.int x)/\x.natAbs<10 ^ 40:=by
    have h:r4=0\/r4=1:=by lia
    rcases h with rfl | rfl
    .exact ⟨_,cK,by lia⟩
    .exact ⟨_,gj,by lia⟩
   exact ⟨p2,_,_,_,rfl,rfl,aB.of (s4 _ _ (a4v np) Za),hx,k x a4 c4 _ x1 B4 (by lia) ((s'.trans ((Zd hp2 _).sb b)).trans s4)⟩
def IW:Sp:=λvs H Q _=>∃ (b l:Addr) (a q c size:Int) (ns:List Int),vs=[.ref b,.int size,.ref l]/\aG H b a q c/\l≠b/\c<350000000/\1<=size/\size<=16/\H l=some (.lst (ns.map V.int))/\1<=ns.length/\ns.length<=20/\(∀ x∈ns,0<=x/\x<=100000)/\∀ (t:Addr) (d:Dd) (a' c':Int) (H':Hp),H' t=some (.tup d.vs)->d.ok->d.sp / size∈(9999 / size) :: ns->aG H' b a' q c'->c'<=c+12->SB b H H'->Q (.ref t) H'
theorem Wj (F:aY K "_law_deed" "_law_deed" Ig f fd) (T:Txt K mg) (d7:Def P w K mg base "_law_take" 1 uL wk) (GI:Def P w K mg base "_law_word" 2 Ih Oh):av P w K mg base aV 3 f fd Du IW:=by
 refine F.ok nZ (λvs H Q E h=>?_) (λcdv A outer s0 H vs Q E hr h=>?_)
 .obtain ⟨b,l,a,q,c,size,ns,rfl,_⟩:=h
  rfl
 obtain ⟨b,l,a,q,c,size,ns,rfl,B,lH,hc,z0,z1,hl,l0,l1,vm,k⟩:=h
 have nd:=nZ.nd
 refine ⟨_,(Zf (cI 3 nd (Zm d7 hr.m rfl (pc (pv 0) (pc Zj Zb))))
   (Zf (cI 4 nd (Zn (YR rfl) rfl T.GG XQ (pc Zj (pc (ak ZJ (ak o9 (ao (Zr (K:=K) rfl) (pv 2) (Zm d7 hr.m rfl (pc (pv 0) (pc (Zn (Zx (K:=K) rfl) rfl T.nJ aoN (pc (pv 2) Zb)) Zb))) (λ_ _=>rfl)) (pv 1)) (Zm d7 hr.m rfl (pc (pv 0) (pc (pv 1) Zb)))) Zb))))
   (Zi (Zu (wK (Zy aU (pv 3) Zj (Zz _)) (jI (pc ZM (pc (pv 4) (pc (Zm GI hr.m rfl (pc (pv 0) Zb)) Zb)))) (jI (pc ZM (pc (pv 4) Zb)))))))),?_⟩
 refine ⟨_,rfl,b,a,q,c,2,rfl,B,by lia,by decide,by decide,λr1 a1 c1 H1 u9 zw B1 hc1 s1=>gN ?_⟩
 try dsimp only
 have hl1:=s1 _ _ lH hl
 refine ⟨_,rfl,_,rfl,_,rfl,l,_,rfl,.inl (aB.of hl1),b,a1,q,c1,_,rfl,B1,by lia,by rw [aK1]; lia,by rw [aK1]; lia,λr2 a2 c2 H2 rA qc B2 hc2 s2=>?_⟩
 rw [aK1] at qc
 obtain ⟨x,hx,xm⟩:=VF rA qc
 have xb:=vm x xm
 refine ⟨l,_,_,_,rfl,rfl,aB.of (s2 _ _ lH hl1),hx,_,rfl,_,_,rfl,rfl,.inl ⟨by lia,by lia⟩,_,rfl,_,rfl,b,a2,q,c2,size,rfl,B2,by lia,by lia,by lia,λr3 a3 c3 H3 uZ ua B3 hc3 s3=>⟨_,_,rfl,rfl,_,_,rfl,gN ?_⟩⟩
 have m0:0<=x * size:=Int.mul_nonneg xb.1 (by lia)
 have ok:0<=(if x * size+r3<9999 then x * size+r3 else 9999)/\(if x * size+r3<9999 then x * size+r3 else 9999)<=9999:=by split <;> lia
 have Mb:(if x * size+r3<9999 then x * size+r3 else 9999) / size∈(9999 / size) :: ns:=by
  split
  .have e:(x * size+r3) / size=x:=by
    rw [Int.add_comm,alT _ _ (by lia),azX uZ ua,Int.zero_add]
   rw [e]
   exact aHO _ xm
  .exact aFv
 generalize (if x * size+r3<9999 then x * size+r3 else 9999)=sp at *
 try dsimp only
 have u3:=(s1.trans s2).trans s3
 refine ⟨_,rfl,rfl,_,rfl,Je (λz=>?_) (λz=>?_)⟩
 .exact ⟨_,rfl,_,rfl,b,a3,q,c3,rfl,B3,by lia,λy a4 c4 H4 yb B4 hc4 s4=>⟨(sl 3),λt ht=>k t (.wt sp y) a4 c4 _ Za ⟨ok,yb⟩ Mb (B4.same (Zd ht _)) (by lia) ((u3.trans s4).trans ((Zd ht _).sb b))⟩⟩
 .exact ⟨_,rfl,(sl 2),λt ht=>k t (.rd sp) a3 c3 _ Za ok Mb (B3.same (Zd ht _)) (by lia) (u3.trans ((Zd ht _).sb b))⟩
end
noncomputable def bD (g:aP) (d:Dd) (st:aq):aq:=match d with
 | .rd sp=>Zw g (sp / g.size) st
 | .wt sp x=>uH g sp x st
section
structure BL (K:W.Frag) (H:Hp) (A:TA) (g:aP) (st:aq) (os:OS):Prop where
 at_:af K H A g st os 0
 dj:g.kind = "apart" -> dw st
theorem BL.frame {H H':Hp} {A:TA} {g:aP} {st:aq} {os:OS} (r:BL K H A g st os) (f:∀ x o,H x=some o->(OW A os x\/¬ Mt o)->H' x=some o):BL K H' A g st os:=⟨r.at_.frame f,r.dj⟩
theorem af.few {H:Hp} {A:TA} {g:aP} {st:aq} {os:OS} {n:Nat} (T:af K H A g st os n) {k:Nat} (hk:k<g.n) (hU:g.U.length<64):(st.at_ k).seq.length<64:=by
 have ln:=T.ln
 obtain ⟨a,e1,e2,e3,B⟩:=T.at_ (k:=k) (by lia)
 have nd:(st.at_ k).seq.Nodup:=B.aZ.room.nd
 exact aVm (ye nd λx hx=>T.rj _ (aBD e3) x hx) hU
end
structure Lk (a b:aq):Prop where
 len:b.rm.length=a.rm.length
 sq:∀ j,(b.at_ j).seq=(a.at_ j).seq
 us:∀ j,(b.at_ j).us=(a.at_ j).us
theorem Lk.refl (a:aq):Lk a a:=⟨rfl,λ_=>rfl,λ_=>rfl⟩
theorem Lk.trans {a b c:aq} (x:Lk a b) (y:Lk b c):Lk a c:=⟨y.len.trans x.len,λj=>(y.sq j).trans (x.sq j),λj=>(y.us j).trans (x.us j)⟩
theorem Dc {st:aq} {k:Nat} {s:Rm} (h1:s.seq=(st.at_ k).seq) (h2:s.us=(st.at_ k).us):Lk st (st.set k s):=by
 refine ⟨bu,λj=>Df h1,λj=>?_⟩
 rw [sZ]
 split
 .rename_i q; rw [h2,q.1]
 .rfl
theorem mZ {g:aP} {k:Nat} {b:Int} {ws:List Int} {st:aq}:Lk st (cD g k b ws st):=by
 unfold cD
 split
 .exact ⟨rfl,λ_=>rfl,λ_=>rfl⟩
 .have q:=Dc (st:=st) (k:=k) (s:=fP (st.at_ k) b ws) rfl rfl
  exact ⟨q.len,q.sq,q.us⟩
theorem DP {g:aP} {b:Int} {ws:List Int}:∀ {r k:Nat} {st:aq},Lk st (bC g b ws r k st)
 | 0,k,st=>mZ
 | r+1,k,st=>by
  rw [bC]
  split
  .split
   .exact mZ.trans (Dc rfl rfl)
   .exact mZ.trans DP
  .exact DP
theorem YB {g:aP} {k:Nat} {b:Int} {st:aq}:Lk st (ZC g k b st):=by
 unfold ZC
 split
 .exact Dc rfl rfl
 .exact DP
theorem qy {g:aP} {k:Nat} {x:Int} {a:aq}:Lk (b7 g k x a).1 (kR g k x a):=by
 unfold kR
 split
 .exact DP
 .exact Lk.refl _
theorem IV {g:aP} {d:Dd} {st:aq}:Lk (Zw g (d.sp / g.size) st) (bD g d st):=by
 cases d with
 | rd sp=>exact Lk.refl _
 | wt sp x=>exact (Dc (s:=ku g ((Zw g (sp / g.size) st).at_ 0) sp x) rfl rfl).trans YB
theorem Yg {g:aP} {k j:Nat} {b:Int} {st:aq} (hk:k<st.rm.length):(((ZN g k b st).at_ j).seq=(st.at_ j).seq)\/∃ o,o∈(st.at_ k).seq/\o % (g.cf k).sh=b % (g.cf k).sh/\eY (g.cf k) (st.at_ k) b=some o/\((ZN g k b st).at_ j).seq=if j=k\/(g.kind = "within" /\ j<k) then (st.at_ j).seq.erase o else (st.at_ j).seq:=by
 unfold ZN
 split
 .exact .inl rfl
 .rename_i o e
  exact .inr ⟨o,(yx e).1,(yx e).2.1,e,OR hk⟩
theorem YA {g:aP} {k:Nat} {b:Int} {st:aq}:(ZN g k b st).rm.length=st.rm.length:=by
 unfold ZN
 split
 .rfl
 .rw [qy.len]
  unfold b7
  split
  .have:∀ {k:Nat} {st:aq} {x:Int} {ws:List Int} {fr:Bool},(aL x k st ws fr).1.rm.length=st.rm.length:=λ{k}=>by
    induction k with
    | zero=>intro st x ws fr; rfl
    | succ k ih =>
     intro st x ws fr
     rw [aL]
     split
     .rw [ih,bL]
     .exact ih
   rw [this,bL]
  .exact bL
theorem Yz {g:aP} {k j:Nat} {b:Int} {st:aq} (hk:k<st.rm.length) (hb:b∉(st.at_ k).seq):b∈((ZN g k b st).at_ j).seq↔b∈(st.at_ j).seq:=by
 rcases Yg (g:=g) (j:=j) (b:=b) hk with e | ⟨o,ho,_,_,e⟩
 .rw [e]
 .rw [e]
  split
  .exact mem_erase_of_ne λz=>hb (z ▸ ho)
  .exact Iff.rfl
theorem qO {k:Nat} {b:Int} {ws:List Int} {st:aq}:(bF k b ws st).rm.length=st.rm.length:=bu
theorem Wb {a b s k:Int} (hs:0<s) (k0:0<=k) (k1:k<s) (h1:b * s<=a * s+k) (h2:a * s+k<b * s+s):a=b:=by
 have e1:∀ x y:Int,x+1<=y->x * s+s<=y * s:=λx y h=>by
  have q:=Int.mul_le_mul_of_nonneg_right h (Int.le_of_lt hs)
  rw [Int.add_mul,Int.one_mul] at q
  exact q
 by_cases c:a<b
 .have:=e1 a b c; lia
 .by_cases d:b<a
  .have:=e1 b a d; lia
  .lia
theorem Wi {s:Int} {mem:Int->Int} {b y:Int} {ws:List Int} (hs:0<s) (h:y≠b):bg s (lR s mem b ws) y=bg s mem y:=by
 unfold bg
 refine a8Y λk hk=>?_
 have hk:=ar3.mp hk
 unfold lR gQ
 rw [aM3]
 rintro ⟨h1,h2⟩
 exact h (Wb hs (Int.natCast_nonneg k) (by lia) h1 (by lia))
theorem Bk {s:Int} {mem:Int->Int} {b:Int}:(bg s mem b).length=s.toNat:=by unfold bg; rw [aK1,aZ9]
theorem DW {s:Int} {mem:Int->Int} {b:Int} {k:Nat} (h:k<s.toNat):(bg s mem b)[k]?=some (mem (b * s+(k:Nat))):=by
 unfold bg
 rw [aBK,aHk h]
 rfl
theorem Wh {s:Int} {mem:Int->Int} {b:Int} {ws:List Int} (h:ws.length=s.toNat):bg s (lR s mem b ws) b=ws:=by
 apply afx
 intro k
 by_cases c:k<s.toNat
 .rw [DW c]
  unfold lR gQ
  rw [abw (by lia),show (b * s+(k:Nat) - b * s).toNat=k by lia,a9e,af3 (by lia)]
  rfl
 .rw [aaz (by rw [Bk]; lia),aaz (by lia)]
def Cl (g:aP) (bk:Int->Int) (x:Int) (st:aq) (k:Nat):Prop:=(k<g.n->x∈(st.at_ k).seq)->(∀ j,j<k->(st.at_ j).fr x=false)->kT g st k x=bg g.size bk x
def Fx (g:aP) (bk:Int->Int) (x:Int) (st:aq):Prop:=∀ k,k<=g.n->Cl g bk x st k
structure bw (g:aP) (st:aq):Prop where
 len:st.rm.length=g.n
 nd:∀ k,(st.at_ k).seq.Nodup
 ff:∀ k x,(st.at_ k).fr x=true->x∈(st.at_ k).seq
theorem bw.no {g:aP} {st:aq} (h:bw g st) {k:Nat} {x:Int} (n:x∉(st.at_ k).seq):(st.at_ k).fr x=false:=by
 cases e:(st.at_ k).fr x with
 | false=>rfl
 | true=>exact absurd (h.ff k x e) n
structure Vw (g:aP) (x:Int) (a b:aq):Prop where
 m:∀ j,x∈(b.at_ j).seq↔x∈(a.at_ j).seq
 w:∀ j,(b.at_ j).wd x=(a.at_ j).wd x
 f:∀ j,(b.at_ j).fr x=(a.at_ j).fr x
 mem:bg g.size b.mem x=bg g.size a.mem x
section
variable {g:aP} {bk:Int->Int} {x y b:Int} {st a c:aq} {k:Nat} {ws:List Int}
theorem Vw.refl:Vw g x st st:=⟨λ_=>Iff.rfl,λ_=>rfl,λ_=>rfl,rfl⟩
theorem Vw.trans {a b c:aq} (p:Vw g x a b) (q:Vw g x b c):Vw g x a c:=⟨λj=>(q.m j).trans (p.m j),λj=>(q.w j).trans (p.w j),λj=>(q.f j).trans (p.f j),q.mem.trans p.mem⟩
theorem Vw.cl {a b:aq} (v:Vw g x a b) (h:Cl g bk x a k):Cl g bk x b k:=λh1 h2=>by
 have q:=h (λhk=>(v.m k).mp (h1 hk)) λj hj=>(v.f j).symm.trans (h2 j hj)
 rw [← q]
 unfold kT
 split
 .exact v.mem
 .exact v.w k
theorem Vw.fx {a b:aq} (v:Vw g x a b) (h:Fx g bk x a):Fx g bk x b:=λk hk=>v.cl (h k hk)
theorem yd {s:Rm} (hm:x∈s.seq↔x∈(st.at_ k).seq) (hw:s.wd x=(st.at_ k).wd x) (hf:s.fr x=(st.at_ k).fr x):Vw g x st (st.set k s):=by
 refine ⟨λj=>?_,λj=>?_,λj=>?_,rfl⟩ <;> rw [sZ] <;> split
 .rename_i z; rw [z.1]; exact hm
 .exact Iff.rfl
 .rename_i z; rw [z.1]; exact hw
 .rfl
 .rename_i z; rw [z.1]; exact hf
 .rfl
theorem Vw.tell {a b:aq} {e:List V} (v:Vw g x a b):Vw g x a (b.tell e):=⟨v.m,v.w,v.f,v.mem⟩
theorem C9 (hs:0<g.size) (h:x≠b):Vw g x st (cD g k b ws st):=by
 unfold cD
 split
 .exact ⟨λ_=>Iff.rfl,λ_=>rfl,λ_=>rfl,Wi hs h⟩
 .exact (yd (s:=fP (st.at_ k) b ws) Iff.rfl (by show (if x=b then ws else _)=_; rw [aM3 h]) rfl).tell
theorem OP (h:x≠b):Vw g x st (pP k b st):=yd (s:=vV (st.at_ k) b) Iff.rfl rfl (by show (if x=b then true else _)=_; rw [aM3 h])
theorem DO (hs:0<g.size) (h:x≠b):∀ {r k:Nat} {st:aq},Vw g x st (bC g b ws r k st)
 | 0,k,st=>C9 hs h
 | r+1,k,st=>by
  rw [bC]
  split
  .split
   .exact (C9 hs h).trans (OP h)
   .exact (C9 hs h).trans (DO hs h)
  .exact DO hs h
theorem Qh (hs:0<g.size) (h:x≠b):Vw g x st (ZC g k b st):=by
 unfold ZC
 split
 .exact OP h
 .exact DO hs h
theorem IU (h:x≠b):Vw g x st (bF k b ws st) :=
 (yd (s:=vJ (st.at_ k) b ws) (by show x∈_++[b]↔_; rw [mem_append,mem_singleton]; exact ⟨λq=>q.resolve_right h,.inl⟩) (by show (if x=b then ws else _)=_; rw [aM3 h]) rfl).tell
theorem lg (h:x≠b):Vw g x st (dN k b st) :=
 ((Vw.refl (st:=st)).tell (e:=eO k b)).trans (yd (st:=st.tell (eO k b)) (s:=jm (st.at_ k) b) (mem_erase_of_ne h) rfl (by show (if x=b then false else _)=_; rw [aM3 h]; rfl))
theorem IT (h:x≠b):∀ {k:Nat} {st:aq} {ws:List Int} {fr:Bool},Vw g x st (aL b k st ws fr).1
 | 0,st,ws,fr=>Vw.refl
 | k+1,st,ws,fr=>by
  rw [aL]
  split
  .exact (lg h).trans (IT h)
  .exact IT h
theorem Ye (hs:0<g.size) (h:x≠b):Vw g x st (kR g k b st):=by
 have k1:Vw g x st (b7 g k b st).1:=by
  unfold b7
  split
  .exact (lg h).trans (IT h)
  .exact lg h
 unfold kR
 split
 .exact k1.trans (DO hs h)
 .exact k1
theorem Og (h:k<g.n->b∈(st.at_ k).seq):Vw g x st (bJ g k b st):=by
 unfold bJ
 split
 .rename_i hk
  exact yd (wG (h hk)).mem_iff rfl rfl
 .exact Vw.refl
theorem Jw {fr:Bool} (hs:0<g.size) (h:x≠b):Vw g x st (bG g k b ws fr st):=by
 unfold bG
 split
 .exact (IU h).trans (Qh hs h)
 .exact IU h
theorem bw.tell {e:List V} (h:bw g st):bw g (st.tell e):=⟨h.len,h.nd,h.ff⟩
theorem bw.set {s:Rm} (h:bw g st) (n:s.seq.Nodup) (f:∀ x,s.fr x=true->x∈s.seq):bw g (st.set k s):=by
 refine ⟨bu.trans h.len,λj=>?_,λj x=>?_⟩ <;> rw [sZ] <;> split
 .exact n
 .exact h.nd j
 .exact f x
 .exact h.ff j x
theorem bw.put (h:bw g st):bw g (cD g k b ws st):=by
 unfold cD
 split
 .exact ⟨h.len,h.nd,h.ff⟩
 .exact (h.set (s:=fP (st.at_ k) b ws) (h.nd k) (h.ff k)).tell
theorem bw.fresh (h:bw g st) (hb:b∈(st.at_ k).seq):bw g (pP k b st):=h.set (s:=vV (st.at_ k) b) (h.nd k) λz hz=>by
 have hz:(if z=b then true else (st.at_ k).fr z)=true:=hz
 by_cases e:z=b
 .rw [e]; exact hb
 .rw [aM3 e] at hz; exact h.ff k z hz
theorem bw.bC:∀ {r k:Nat} {st:aq},bw g st->bw g (bC g b ws r k st)
 | 0,k,st,h=>h.put
 | r+1,k,st,h=>by
  rw [nF.bC]
  split
  .rename_i m
   split
   .exact h.put.fresh (by rw [sU]; exact m)
   .exact bw.bC h.put
  .exact bw.bC h
theorem bw.change (h:bw g st) (hb:b∈(st.at_ k).seq):bw g (ZC g k b st):=by
 unfold ZC
 split
 .exact h.fresh hb
 .exact h.bC
theorem bw.wg (h:bw g st) (hb:b∉(st.at_ k).seq):bw g (bF k b ws st):=(h.set (s:=vJ (st.at_ k) b ws) (A9 (h.nd k) hb) λz hz=>aKJ _ (h.ff k z hz)).tell
theorem bw.go (h:bw g st):bw g (dN k b st):=(h.tell (e:=eO k b)).set (s:=jm (st.at_ k) b) ((h.nd k).erase _) λz hz=>by
 have hz:(if z=b then false else (st.at_ k).fr z)=true:=hz
 by_cases e:z=b
 .rw [abw e] at hz; cases hz
 .rw [aM3 e] at hz
  exact (mem_erase_of_ne e).mpr (h.ff k z hz)
theorem bw.outs:∀ {k:Nat} {st:aq} {ws:List Int} {fr:Bool},bw g st->bw g (aL b k st ws fr).1
 | 0,st,ws,fr,h=>h
 | k+1,st,ws,fr,h=>by
  rw [aL]
  split
  .exact bw.outs h.go
  .exact bw.outs h
theorem bw.MZ (h:bw g st):bw g (b7 g k b st).1:=by
 unfold b7
 split
 .exact h.go.outs
 .exact h.go
theorem bw.drive (h:bw g st):bw g (kR g k b st):=by
 unfold kR
 split
 .exact h.MZ.bC
 .exact h.MZ
theorem bw.leave (h:bw g st):bw g (ZN g k b st):=by
 unfold ZN
 split
 .exact h
 .exact h.drive
theorem bw.used (h:bw g st) (hb:k<g.n->b∈(st.at_ k).seq):bw g (bJ g k b st):=by
 unfold bJ
 split
 .rename_i hk
  exact h.set ((wG (hb hk)).nodup_iff.mpr (h.nd k)) λz hz=>(wG (hb hk)).mem_iff.mpr (h.ff k z hz)
 .exact h
theorem bw.bG {fr:Bool} (h:bw g st) (hk:k<g.n) (hb:b∉(st.at_ k).seq):bw g (bG g k b ws fr st):=by
 unfold nF.bG
 split
 .exact (h.wg hb).change (by rw [yl (by rw [h.len]; exact hk),abw rfl]; simp)
 .exact h.wg hb
theorem yc {a b:aq} (h:∀ j,j<=k->b.at_ j=a.at_ j) (hm:k=g.n->b.mem=a.mem) (c:Cl g bk x a k):Cl g bk x b k:=λh1 h2=>by
 have q:=c (λhk=>by rw [← h k (aEt _)]; exact h1 hk) λj hj=>by rw [← h j (a9L hj)]; exact h2 j hj
 rw [← q]
 unfold kT
 split
 .rename_i z; rw [hm z]
 .rw [h k (aEt _)]
theorem oM (h:k<g.n):kT g st k x=(st.at_ k).wd x:=by unfold kT; rw [aM3 (by lia)]
theorem sV:kT g st g.n x=bg g.size st.mem x:=by unfold kT; rw [abw rfl]
theorem sS {s:Rm} (h:k<st.rm.length):(st.set k s).at_ k=s:=by rw [aq.jx h,abw rfl]
theorem wC {s:Rm} {j:Nat} (h:j≠k):(st.set k s).at_ j=st.at_ j:=by rw [sZ,aM3 (λq=>h q.1)]
theorem Wa (hk:k<g.n):cD g k b ws st=(st.set k (fP (st.at_ k) b ws)).tell (eW k b):=by unfold cD; rw [aM3 (by lia)]
theorem yj:∀ {r k:Nat} {st:aq},k+r=g.n->st.rm.length=g.n->(∀ j,j<k->Cl g bk x st j)->((∀ i,i<k->(st.at_ i).fr x=false)->ws=bg g.size bk x)->Fx g bk x (bC g x ws r k st)
 | 0,k,st,e,hl,hc,hw=>λj hj=>by
  rw [bC]
  have e:k=g.n:=by lia
  subst e
  unfold cD
  rw [abw rfl]
  by_cases c:j=g.n
  .subst c
   intro _ h2
   have q:=hw λi hi=>h2 i hi
   rw [sV]
   show bg g.size (lR g.size st.mem x ws) x=_
   rw [Wh (by rw [q]; exact Bk)]
   exact q
  .exact yc (a:=st) (λi _=>rfl) (λz=>absurd z c) (hc j (by lia))
 | r+1,k,st,e,hl,hc,hw=>by
  have hk:k<g.n:=by lia
  have gC:k<st.rm.length:=by lia
  rw [bC]
  split
  .rename_i m
   rw [Wa hk]
   split
   .intro j hj
    have a1:∀ i,i≠k->(pP k x ((st.set k (fP (st.at_ k) x ws)).tell (eW k x))).at_ i=st.at_ i:=λi hi=>by
     unfold pP
     rw [wC hi,sW,wC hi]
    have a2:(pP k x ((st.set k (fP (st.at_ k) x ws)).tell (eW k x))).at_ k=vV (fP (st.at_ k) x ws) x:=by
     unfold pP
     rw [sS (by show k<(st.set k _).rm.length; rw [bu]; exact gC),sW,sS gC]
    by_cases c:j<k
    .exact yc (a:=st) (λi hi=>a1 i (by lia)) (λz=>by lia) (hc j c)
    .by_cases d:j=k
     .subst d
      intro _ h2
      rw [oM hk,a2]
      show (if x=x then ws else _)=_
      rw [abw rfl]
      exact hw λi hi=>by rw [← a1 i (by lia)]; exact h2 i hi
     .intro _ h2
      have q:=h2 k (by lia)
      rw [a2] at q
      have q:(if x=x then true else _)=false:=q
      rw [abw rfl] at q
      cases q
   .have a1:∀ i,i≠k->((st.set k (fP (st.at_ k) x ws)).tell (eW k x)).at_ i=st.at_ i:=λi hi=>by rw [sW,wC hi]
    have a2:((st.set k (fP (st.at_ k) x ws)).tell (eW k x)).at_ k=fP (st.at_ k) x ws:=by rw [sW,sS gC]
    have f1:∀ i,(((st.set k (fP (st.at_ k) x ws)).tell (eW k x)).at_ i).fr x=(st.at_ i).fr x:=λi=>by
     by_cases c:i=k
     .rw [c,a2]; rfl
     .rw [a1 i c]
    refine yj (by lia) (bu.trans hl) (λj hj=>?_) λh=>hw λi hi=>by rw [← f1]; exact h i (by lia)
    by_cases c:j<k
    .exact yc (a:=st) (λi hi=>a1 i (by lia)) (λz=>by lia) (hc j c)
    .have d:j=k:=by lia
     subst d
     intro _ h2
     rw [oM hk,a2]
     show (if x=x then ws else _)=_
     rw [abw rfl]
     exact hw λi hi=>by rw [← f1]; exact h2 i hi
  .rename_i m
   refine yj (by lia) hl (λj hj=>?_) λh=>hw λi hi=>h i (by lia)
   by_cases c:j<k
   .exact hc j c
   .have d:j=k:=by lia
    subst d
    exact λh1=>absurd (h1 hk) m
theorem Qg (hl:st.rm.length=g.n) (hk:k<g.n) (hx:x∈(st.at_ k).seq) (hc:∀ j,j<=k->Cl g bk x st j):Fx g bk x (ZC g k x st):=by
 unfold ZC
 split
 .intro j hj
  have a1:∀ i,i≠k->(pP k x st).at_ i=st.at_ i:=λi hi=>wC hi
  have a2:(pP k x st).at_ k=vV (st.at_ k) x:=sS (by lia)
  by_cases c:j<k
  .exact yc (a:=st) (λi hi=>a1 i (by lia)) (λz=>by lia) (hc j (by lia))
  .by_cases d:j=k
   .subst d
    intro h1 h2
    have q:=hc j (aEt _) (λ_=>hx) λi hi=>by rw [← a1 i (by lia)]; exact h2 i hi
    rw [oM hk] at q ⊢
    rw [a2]
    exact q
   .intro _ h2
    have q:=h2 k (by lia)
    rw [a2] at q
    have q:(if x=x then true else _)=false:=q
    rw [abw rfl] at q
    cases q
 .refine yj (by lia) hl (λj hj=>hc j (by lia)) λh=>?_
  have q:=hc k (aEt _) (λ_=>hx) λi hi=>h i (by lia)
  rw [oM hk] at q
  exact q
theorem uA (h:k<st.rm.length):(dN k b st).at_ k=jm (st.at_ k) b:=sS (st:=st.tell (eO k b)) h
theorem pO {j:Nat} (h:j≠k):(dN k b st).at_ j=st.at_ j:=wC (st:=st.tell (eO k b)) h
theorem M9 {s:Rm} (h:s.seq.Nodup):x∉(jm s x).seq:=λm=>((aKD h).mp m).1 rfl
theorem IS:∀ {k:Nat} {st:aq} {ws:List Int} {fr:Bool},k<=st.rm.length->bw g st ->
  (∀ i,k<=i->(aL x k st ws fr).1.at_ i=st.at_ i)/\(∀ i,i<k->x∉((aL x k st ws fr).1.at_ i).seq)/\(aL x k st ws fr).1.mem=st.mem/\((aL x k st ws fr).2.2=false->fr=false/\∀ i,i<k->(st.at_ i).fr x=false)/\(k<=g.n->(∀ i,i<k->Cl g bk x st i)->((∀ i,i<k->x∉(st.at_ i).seq)->ws=bg g.size bk x)->(aL x k st ws fr).2.1=bg g.size bk x)
 | 0,st,ws,fr,_,_=>⟨λ_ _=>rfl,λi h=>absurd h (ara _),rfl,λh=>⟨h,λi q=>absurd q (ara _)⟩,λ_ _ h=>h λi q=>absurd q (ara _)⟩
 | k+1,st,ws,fr,hk,ok=>by
  rw [aL]
  split
  .rename_i m
   obtain ⟨b1,b2,b3,b4,b5⟩:=IS (k:=k) (st:=dN k x st) (ws:=(st.at_ k).wd x) (fr:=fr || (st.at_ k).fr x) (by rw [bL]; lia) ok.go
   refine ⟨λi hi=>?_,λi hi=>?_,b3,λh=>?_,λhn hc hw=>b5 (by lia) (λi hi=>?_) λh=>?_⟩
   .rw [b1 i (by lia),pO (by lia)]
   .by_cases c:i<k
    .exact b2 i c
    .have e:i=k:=by lia
     rw [e,b1 k (aEt _),uA (by lia)]
     exact M9 (ok.nd k)
   .obtain ⟨c1,c2⟩:=b4 h
    rw [Bool.or_eq_false_iff] at c1
    refine ⟨c1.1,λi hi=>?_⟩
    by_cases c:i<k
    .have q:=c2 i c
     rw [pO (by lia)] at q
     exact q
    .have e:i=k:=by lia
     rw [e]; exact c1.2
   .exact yc (a:=st) (λj hj=>pO (by lia)) (λz=>by lia) (hc i (by lia))
   .have q:=hc k (by lia) (λ_=>m) λi hi=>ok.no (by
     have q:=h i hi
     rw [pO (by lia)] at q
     exact q)
    rw [oM (by lia)] at q
    exact q
  .rename_i m
   obtain ⟨b1,b2,b3,b4,b5⟩:=IS (k:=k) (st:=st) (ws:=ws) (fr:=fr) (by lia) ok
   refine ⟨λi hi=>b1 i (by lia),λi hi=>?_,b3,λh=>⟨(b4 h).1,λi hi=>?_⟩,λhn hc hw=>b5 (by lia) (λi hi=>hc i (by lia)) λh=>hw λi hi=>?_⟩
   .by_cases c:i<k
    .exact b2 i c
    .have e:i=k:=by lia
     rw [e,b1 k (aEt _)]
     exact m
   .by_cases c:i<k
    .exact (b4 h).2 i c
    .have e:i=k:=by lia
     rw [e]; exact ok.no m
   .by_cases c:i<k
    .exact h i c
    .have e:i=k:=by lia
     rw [e]; exact m
theorem Yd (ok:bw g st) (hk:k<g.n) (hx:x∈(st.at_ k).seq) (h:Fx g bk x st):Fx g bk x (kR g k x st):=by
 have gC:k<st.rm.length:=by rw [ok.len]; exact hk
 have n1:x∉((dN k x st).at_ k).seq:=by rw [uA gC]; exact M9 (ok.nd k)
 have l1:(dN k x st).rm.length=g.n:=bL.trans ok.len
 have c1:∀ j,j<k->Cl g bk x (dN k x st) j:=λj hj=>yc (a:=st) (λi hi=>pO (by lia)) (λz=>by lia) (h j (by lia))
 unfold kR b7
 by_cases w:g.kind = "within"
 .rw [abw w]
  obtain ⟨b1,b2,b3,b4,b5⟩:=IS (g:=g) (bk:=bk) (x:=x) (k:=k) (st:=dN k x st) (ws:=(st.at_ k).wd x) (fr:=(st.at_ k).fr x) (by lia) ok.go
  have hw:=b5 (by lia) c1 λq=>by
   have e:=h k (by lia) (λ_=>hx) λi hi=>ok.no (by
    have q:=q i hi
    rw [pO (by lia)] at q
    exact q)
   rw [oM hk] at e
   exact e
  have no:∀ j,j<=k->x∉((aL x k (dN k x st) ((st.at_ k).wd x) ((st.at_ k).fr x)).1.at_ j).seq:=λj hj=>by
   by_cases c:j<k
   .exact b2 j c
   .have e:j=k:=by lia
    rw [e,b1 k (aEt _)]; exact n1
  split
  .exact yj (by lia) (ok.go.outs.len) (λj hj h1=>absurd (h1 (by lia)) (no j (by lia))) λ_=>hw
  .rename_i f
   have f:(aL x k (dN k x st) ((st.at_ k).wd x) ((st.at_ k).fr x)).2.2=false:=by simpa using f
   obtain ⟨d1,d2⟩:=b4 f
   intro j hj h1 h2
   by_cases c:j<=k
   .exact absurd (h1 (by lia)) (no j c)
   .have a1:∀ i,k<i->(aL x k (dN k x st) ((st.at_ k).wd x) ((st.at_ k).fr x)).1.at_ i=st.at_ i:=λi hi=>by rw [b1 i (by lia),pO (by lia)]
    have q:=h j hj (λz=>by rw [← a1 j (by lia)]; exact h1 z) λi hi=>by
     by_cases c1:i<k
     .have q:=d2 i c1
      rw [pO (by lia)] at q
      exact q
     .by_cases c2:i=k
      .rw [c2]; exact d1
      .rw [← a1 i (by lia)]; exact h2 i hi
    rw [← q]
    unfold kT
    rw [a1 j (by lia),b3]
    rfl
 .rw [aM3 w]
  split
  .refine yj (by lia) l1 (λj hj=>?_) λq=>?_
   .by_cases c:j<k
    .exact c1 j c
    .have e:j=k:=by lia
     rw [e]; exact λh1=>absurd (h1 hk) n1
   .have e:=h k (by lia) (λ_=>hx) λi hi=>by
     have q:=q i (by lia)
     rw [pO (by lia)] at q
     exact q
    rw [oM hk] at e
    exact e
  .rename_i f
   have f:(st.at_ k).fr x=false:=by simpa using f
   intro j hj h1 h2
   by_cases c:j=k
   .rw [c] at h1; exact absurd (h1 hk) n1
   .have q:=h j hj (λz=>by have q:=h1 z; rw [show (dN k x st).at_ j=st.at_ j from pO c] at q; exact q) λi hi=>by
     by_cases d:i=k
     .rw [d]; exact f
     .have q:=h2 i hi
      rw [show (dN k x st).at_ i=st.at_ i from pO d] at q
      exact q
    rw [← q]
    unfold kT
    rw [show ((dN k x st,(st.at_ k).wd x,(st.at_ k).fr x):aq×List Int×Bool).1.at_ j=st.at_ j from pO c]
    rfl
theorem Yy (hs:0<g.size) (ok:bw g st) (hk:k<g.n) (hb:b∈(st.at_ k).seq) (h:∀ x,Fx g bk x st):∀ x,Fx g bk x (kR g k b st):=λx=>by
 by_cases e:x=b
 .rw [e]; exact Yd ok hk hb (h b)
 .exact (Ye hs e).fx (h x)
theorem Qe (hs:0<g.size) (ok:bw g st) (hk:k<g.n) (h:∀ x,Fx g bk x st):∀ x,Fx g bk x (ZN g k b st):=by
 unfold ZN
 split
 .exact h
 .rename_i e
  exact Yy hs ok hk (yx e).1 h
theorem Xc (ok:bw g st) (hk:k<g.n) (hb:x∉(st.at_ k).seq) (hw:ws=bg g.size bk x) (h:Fx g bk x st):Fx g bk x (bF k x ws st):=by
 have gC:k<st.rm.length:=by rw [ok.len]; exact hk
 have a1:∀ i,i≠k->(bF k x ws st).at_ i=st.at_ i:=λi hi=>by unfold bF; rw [sW,wC hi]
 have a2:(bF k x ws st).at_ k=vJ (st.at_ k) x ws:=by unfold bF; rw [sW,sS gC]
 have f1:∀ i,((bF k x ws st).at_ i).fr x=(st.at_ i).fr x:=λi=>by
  by_cases c:i=k
  .rw [c,a2]; rfl
  .rw [a1 i c]
 intro j hj h1 h2
 by_cases c:j=k
 .subst c
  rw [oM hk,a2]
  show (if x=x then ws else _)=_
  rw [abw rfl]
  exact hw
 .have q:=h j hj (λz=>by rw [← a1 j c]; exact h1 z) λi hi=>by rw [← f1]; exact h2 i hi
  rw [← q]
  unfold kT
  rw [a1 j c]
  rfl
theorem OO (hs:0<g.size) (hw:ws=bg g.size bk b):∀ {k:Nat} {st:aq},k<=g.n->bw g st->(∀ x,Fx g bk x st)->(∀ j,j<k->b∉(st.at_ j).seq)->bw g (fR g b ws k st)/\∀ x,Fx g bk x (fR g b ws k st)
 | 0,st,_,ok,h,_=>⟨ok,h⟩
 | k+1,st,hk,ok,h,hn=>by
  have gC:k<st.rm.length:=by rw [ok.len]; lia
  have m:=λj=>Yz (g:=g) (j:=j) gC (hn k (by lia))
  have l1:k<(ZN g k b st).rm.length:=by rw [YA]; exact gC
  have nk:b∉((ZN g k b st).at_ k).seq:=λz=>hn k (by lia) ((m k).mp z)
  rw [fR]
  refine OO hs hw (by lia) (ok.leave.wg nk) (λx=>?_) λj hj=>?_
  .by_cases e:x=b
   .rw [e]; exact Xc ok.leave (by lia) nk hw (Qe hs ok (by lia) h b)
   .exact (IU e).fx (Qe hs ok (by lia) h x)
  .rw [yl l1,aM3 (by lia),m]
   exact hn j (by lia)
theorem ON {fr:Bool} (ok:bw g st) (hk:k<g.n) (hb:mz st x) (hw:ws=bg g.size bk x) (hm:fr=false->bg g.size st.mem x=bg g.size bk x):Fx g bk x (bG g k x ws fr st):=by
 have gC:k<st.rm.length:=by rw [ok.len]; exact hk
 have a1:∀ i,i≠k->(bF k x ws st).at_ i=st.at_ i:=λi hi=>by unfold bF; rw [sW,wC hi]
 have a2:(bF k x ws st).at_ k=vJ (st.at_ k) x ws:=by unfold bF; rw [sW,sS gC]
 have cl:∀ j,j<g.n->Cl g bk x (bF k x ws st) j:=λj hj h1 _=>by
  by_cases c:j=k
  .subst c
   rw [oM hk,a2]
   show (if x=x then ws else _)=_
   rw [abw rfl]
   exact hw
  .have q:=h1 hj
   rw [a1 j c] at q
   exact absurd q (hb j (by rw [ok.len]; exact hj))
 unfold bG
 split
 .exact Qg (qO.trans ok.len) hk (by rw [a2]; exact a9C _ aFv) λj hj=>cl j (by lia)
 .rename_i f
  have f:fr=false:=by simpa using f
  intro j hj
  by_cases c:j=g.n
  .subst c
   intro _ _
   rw [sV]
   exact hm f
  .exact cl j (by lia)
theorem Jv (hs:0<g.size):∀ {r k:Nat} {b:Int} {ws:List Int} {fr:Bool} {st:aq},k+r=g.n->bw g st->dw st->mz st b->(∀ x,x≠b->Fx g bk x st)->ws=bg g.size bk b->(fr=false->bg g.size st.mem b=bg g.size bk b)->bw g (pushS g r k b ws fr st)/\∀ x,Fx g bk x (pushS g r k b ws fr st)
 | 0,k,b,ws,fr,st,e,ok,dj,nw,h,hw,hm=>by
  have e:k=g.n:=by lia
  subst e
  rw [pushS]
  have LC:∀ j,j<g.n->Cl g bk b st j:=λj hj h1=>absurd (h1 hj) (nw j (by rw [ok.len]; exact hj))
  split
  .refine ⟨ok.put,λx=>?_⟩
   by_cases c:x=b
   .rw [c]
    exact yj (r:=0) (k:=g.n) (by lia) ok.len LC λ_=>hw
   .exact (C9 hs c).fx (h x c)
  .rename_i f
   have f:fr=false:=by simpa using f
   refine ⟨ok,λx=>?_⟩
   by_cases c:x=b
   .rw [c]
    intro j hj
    by_cases d:j=g.n
    .subst d
     intro _ _
     rw [sV]
     exact hm f
    .exact LC j (by lia)
   .exact h x c
 | r+1,k,b,ws,fr,st,e,ok,dj,nw,h,hw,hm=>by
  have hk:k<g.n:=by lia
  have gC:k<st.rm.length:=by rw [ok.len]; exact hk
  rw [pushS]
  split
  .refine ⟨ok.bG hk (nw k gC),λx=>?_⟩
   by_cases c:x=b
   .rw [c]; exact ON ok hk nw hw hm
   .exact (Jw hs c).fx (h x c)
  .rename_i o eo
   have ho:=(yx eo).1
   have rE:o≠b:=λz=>nw k gC (z ▸ ho)
   obtain ⟨d0,n0⟩:=DY dj gC (ok.nd k) ho
   have F2:mz (dN k o st) b:=λj hj m=>by
    rw [bL] at hj
    rw [j4 gC] at m
    split at m
    .exact nw j hj (a2z m)
    .exact nw j hj m
   have LN:bw g (dN k o st):=ok.go
   have Ar:k<(dN k o st).rm.length:=by rw [bL]; exact gC
   have fo:∀ j,j≠k->(st.at_ j).fr o=false:=λj hj=>by
    by_cases c:j<st.rm.length
    .exact ok.no (dj k j gC c (a4v hj) o ho)
    .refine ok.no λm=>?_
     have e:st.at_ j=mj:=by
      unfold aq.at_
      rw [a9e,aaz (by lia)]
      rfl
     rw [e] at m; cases m
   have c0:=h o rE k (by lia) (λ_=>ho) λj hj=>fo j (by lia)
   rw [oM hk] at c0
   have vo:=Jw (g:=g) (x:=o) (b:=b) (st:=dN k o st) (k:=k) (ws:=ws) (fr:=fr) hs rE
   have yT:=λj=>Jy (g:=g) (k:=k) (j:=j) (b:=b) (ws:=ws) (fr:=fr) Ar
   refine Jv hs (by lia) (LN.bG hk (F2 k Ar)) (I0 d0 F2 Bp yT) (λj hj m=>?_) (λx hx=>?_) c0 λf=>?_
   .rw [Bp] at hj
    rw [yT] at m
    split at m
    .rcases a1m.mp m with m | m
     .exact n0 j hj m
     .exact rE (arG.mp m)
    .exact n0 j hj m
   .by_cases c:x=b
    .rw [c]; exact ON LN hk F2 hw hm
    .exact ((lg hx).trans (Jw hs c)).fx (h x c)
   .rw [vo.mem]
    have q:=h o rE g.n (aEt _) (λz=>absurd z (asH _)) λj hj=>by
     by_cases c:j=k
     .rw [c]; exact f
     .exact fo j c
    rw [sV] at q
    exact q
theorem JF (hs:0<g.size) (l1:1<=g.n) (ok:bw g st) (dj:g.kind = "apart" -> dw st) (h:∀ x,Fx g bk x st):bw g (Zw g b st)/\∀ x,Fx g bk x (Zw g b st):=by
 have TL:=yk st b
 have hlen:=ok.len
 have zP:=λj=>DZ (st:=st) (b:=b) (j:=j)
 have sA:=DQ (st:=st) (b:=b)
 have vis:kT g st (nearF st b) b=bg g.size bk b:=h b _ (by lia) (λz=>sA (by lia)) λj hj=>ok.no (zP j hj (by lia))
 have vh:bw g (st.tell (eF (nearF st b))):=ok.tell
 have h1:∀ x,Fx g bk x (st.tell (eF (nearF st b))):=λx=>(Vw.refl (st:=st)).tell.fx (h x)
 generalize hn:nearF st b=k at *
 unfold Zw
 rw [hn]
 split
 .rename_i ka
  unfold uI
  split
  .rename_i z
   subst z
   have hb:0<g.n->b∈((st.tell (eF 0)).at_ 0).seq:=λ_=>sA (by lia)
   exact ⟨vh.used hb,λx=>(Og hb).fx (h1 x)⟩
  .split
   .rename_i z
    refine Jv hs (by lia) vh (dj ka) (λj hj=>zP j (by have:j<st.rm.length:=hj; lia) hj) (λx _=>h1 x) ?_ λ_=>?_
    .rw [z,sV] at vis; exact vis
    .rw [z,sV] at vis; exact vis
   .rename_i z1 z2
    have gC:k<st.rm.length:=by lia
    have hb:=sA gC
    obtain ⟨d2,xF⟩:=DY (st:=st.tell (eF k)) (dj ka) gC (ok.nd k) hb
    refine Jv hs (by lia) vh.go d2 xF (λx hx=>(lg hx).fx (h1 x)) ?_ λf=>?_
    .rw [oM (by lia)] at vis; exact vis
    .have q:=h b g.n (aEt _) (λz=>absurd z (asH _)) λj hj=>by
      by_cases c:j=k
      .rw [c]; exact f
      .exact ok.no (dj ka k j gC (by lia) (a4v c) b hb)
     rw [sV] at q
     exact q
 .unfold A3
  have hb:k<g.n->b∈((st.tell (eF k)).at_ k).seq:=λz=>sA (by lia)
  have v:=λx=>Og (g:=g) (x:=x) (st:=st.tell (eF k)) hb
  refine OO hs ?_ (by lia) (vh.used hb) (λx=>(v x).fx (h1 x)) λj hj m=>zP j hj (by lia) (((v b).m j).mp m)
  rw [← vis]
  unfold kT
  split
  .exact (v b).mem
  .exact (v b).w k
def sQ (bk:Int->Int) (sp v:Int):Int->Int:=λs=>if s=sp then v else bk s
theorem AO {sp v:Int} (hs:0<g.size) (h:y≠sp / g.size):bg g.size (sQ bk sp v) y=bg g.size bk y:=by
 unfold bg
 refine a8Y λk hk=>?_
 have hk:=ar3.mp hk
 unfold sQ
 rw [aM3]
 intro z
 apply h
 rw [← z,Int.add_comm,alT _ _ (by lia),azX (Int.natCast_nonneg k) (by lia),Int.zero_add]
theorem AQ {sp v:Int} (hs:0<g.size):bg g.size (sQ bk sp v) (sp / g.size)=(bg g.size bk (sp / g.size)).set (sp % g.size).toNat v:=by
 have m0:0<=sp % g.size:=aI8 _ (by lia)
 have m1:sp % g.size<g.size:=a2j _ hs
 have dm:=aQh sp g.size
 rw [Int.mul_comm] at dm
 apply afx
 intro k
 by_cases c:k<g.size.toNat
 .rw [DW c]
  by_cases d:k=(sp % g.size).toNat
  .rw [← d,abG (by rw [Bk]; exact c)]
   unfold sQ
   rw [abw (by lia)]
  .rw [a9q (a4v d),DW c]
   unfold sQ
   rw [aM3 (by lia)]
 .rw [aaz (by rw [Bk]; lia),aaz (by rw [akC,Bk]; lia)]
theorem IQ {sp:Int} (hs:0<g.size):(bg g.size bk (sp / g.size)).getD (sp % g.size).toNat 0=bk sp:=by
 have m0:0<=sp % g.size:=aI8 _ (by lia)
 have m1:sp % g.size<g.size:=a2j _ hs
 have dm:=aQh sp g.size
 rw [Int.mul_comm] at dm
 rw [a9e,DW (by lia)]
 show bk _=_
 congr 1
 lia
theorem Yx {sp v:Int} (hs:0<g.size) (l1:1<=g.n) (ok:bw g st) (hb:sp / g.size∈(st.at_ 0).seq) (h:∀ x,Fx g bk x st):bw g (ZC g 0 (sp / g.size) (st.set 0 (ku g (st.at_ 0) sp v)))/\∀ x,Fx g (sQ bk sp v) x (ZC g 0 (sp / g.size) (st.set 0 (ku g (st.at_ 0) sp v))):=by
 have vh:bw g (st.set 0 (ku g (st.at_ 0) sp v)):=ok.set (ok.nd 0) (ok.ff 0)
 have a2:(st.set 0 (ku g (st.at_ 0) sp v)).at_ 0=ku g (st.at_ 0) sp v:=sS (by rw [ok.len]; exact l1)
 have hb1:sp / g.size∈((st.set 0 (ku g (st.at_ 0) sp v)).at_ 0).seq:=by rw [a2]; exact hb
 refine ⟨vh.change hb1,λx=>?_⟩
 by_cases c:x=sp / g.size
 .subst c
  refine Qg vh.len l1 hb1 λj hj=>?_
  have e:j=0:=by lia
  subst e
  intro _ _
  rw [oM l1,a2,AQ hs]
  show (if sp / g.size=sp / g.size then _ else _)=_
  rw [abw rfl]
  have q:=h (sp / g.size) 0 (aUM _) (λ_=>hb) λj hj=>absurd hj (ara _)
  rw [oM l1] at q
  rw [q]
 .have v:Vw g x st (ZC g 0 (sp / g.size) (st.set 0 (ku g (st.at_ 0) sp v))):=(yd (s:=ku g (st.at_ 0) sp v) (k:=0) Iff.rfl (by show (if x=sp / g.size then _ else _)=_; rw [aM3 c]) rfl).trans (Qh hs c)
  intro k hk h1 h2
  rw [AO hs c]
  exact v.fx (h x) k hk h1 h2
def AR (bk:Int->Int):Dd->Int->Int
 | .rd _=>bk
 | .wt sp v=>sQ bk sp v
theorem DV {d:Dd} (hs:0<g.size) (l1:1<=g.n) (ok:bw g st) (dj:g.kind = "apart" -> dw st) (hb:d.sp / g.size∈((Zw g (d.sp / g.size) st).at_ 0).seq) (h:∀ x,Fx g bk x st):bw g (kP (bD g d st))/\∀ x,Fx g (AR bk d) x (kP (bD g d st)):=by
 obtain ⟨o1,f1⟩:=JF (b:=d.sp / g.size) hs l1 ok dj h
 cases d with
 | rd sp=>exact ⟨⟨o1.len,o1.nd,o1.ff⟩,f1⟩
 | wt sp v =>
  obtain ⟨o2,f2⟩:=Yx (v:=v) hs l1 o1 hb f1
  exact ⟨⟨o2.len,o2.nd,o2.ff⟩,f2⟩
theorem kO:bw g (oO g.n)/\∀ x,Fx g (λ_=>0) x (oO g.n):=by
 have e:∀ j,(oO g.n).at_ j=mj:=λj=>by
  unfold oO aq.at_
  rw [a9e,awl]
  split <;> rfl
 refine ⟨⟨aBM ..,λj=>by rw [e]; exact nodup_nil,λj x h=>by rw [e] at h; cases h⟩,λx k hk h1 _=>?_⟩
 by_cases c:k=g.n
 .rw [c,sV]; rfl
 .have q:=h1 (by lia)
  rw [e] at q; cases q
theorem Yw {sp:Int} (hs:0<g.size) (l1:1<=g.n) (hb:sp / g.size∈(st.at_ 0).seq) (h:∀ x,Fx g bk x st):k8 g (st.at_ 0) sp=bk sp:=by
 have q:=h (sp / g.size) 0 (aUM _) (λ_=>hb) λj hj=>absurd hj (ara _)
 rw [oM l1] at q
 unfold k8
 rw [q,IQ hs]
end
section
def tZ (K:W.Frag):Sp:=λvs H Q _=>∃ (p:Addr) (sh pl:Int) (ru:Str) (ls:Addr) (au:List Addr) (du:Addr) (seq:List Int) (us:Int->Int) (n:Nat),vs=[.ref p]/\aE K H p sh pl ru ls au du seq us n/\seq.length<64 /\
 ∀ (D:Addr) (os:List Int),H D=none->os.Perm seq->os.Pairwise (·<=·)->Q (.ref D) (upd H D (.lst (os.map V.int)))
theorem ZfJ (F:aY K "boards" "Room.boards" Kq f fd) (T:Txt K mg):av P w K mg base aV 1 f fd Kp (tZ K):=by
 refine F.ok fM (λvs H Q E h=>?_) (λcdv A outer st H vs Q E hr h=>?_)
 .obtain ⟨p,sh,pl,ru,ls,au,du,seq,us,n,rfl,_⟩:=h
  rfl
 obtain ⟨p,sh,pl,ru,ls,au,du,seq,us,n,rfl,R,h64,k⟩:=h
 have nd:=fM.nd
 refine ⟨_,(Zi (Zu (Zn (QB rfl) rfl T.uV abX (pc (Zl (K:=K) rfl (pv 0) rfl) Zb)))),?_⟩
 obtain ⟨dx,h1⟩:=R.ob
 obtain ⟨kvs,h2,⟨h3,ks,h4,h5⟩,h6⟩:=R.dc
 have per:ks.Perm seq:=by
  refine (an7 h5 R.nd).mpr λb=>?_
  have q:=tu (kvs:=kvs) (Sum.inl b)
  rw [h6 b,h4] at q
  constructor
  .intro m
   have:=q.mpr (ad2 m)
   by_cases c:b∈seq
   .exact c
   .rw [aM3 c] at this; cases this
  .intro m
   rw [abw m] at q
   obtain ⟨x,hx,e⟩:=au8.mp (q.mp rfl)
   rw [← aDr e]; exact hx
 exact ⟨_,rfl,p,_,dx,_,_,rfl,h1,T.gf,T.uW,yo ..,du,kvs,ks,rfl,h2,h4,by rw [per.length_eq]; exact h64,λD os hD po pw=>k D os hD (po.trans per) pw⟩
end
section
def M8 (K:W.Frag):Sp:=λvs H Q _=>∃ (A:TA) (g:aP) (st:aq) (os:OS) (n k:Nat),vs=[.ref A.p,.int (k:Int)]/\af K H A g st os n/\k<g.n/\(st.at_ k).seq.length<64/\∀ (D:Addr) (bs:List Int),H D=none->bs.Perm (st.at_ k).seq->bs.Pairwise (·<=·)->Q (.ref D) (upd H D (.lst (bs.map V.int)))
theorem ZgT (F:aY K "lies" "Steps.lies" Kv f fd) (T:Txt K mg) (sd:ay P w K mg base (aa K "Stairs") "store" 1 BD (D3 K)) (E6:ay P w K mg base (aa K "Room") "boards" 1 Kp (tZ K)):av P w K mg base aV 2 f fd Ku (M8 K):=by
 refine F.ok gu (λvs H Q E h=>?_) (λcdv A outer s0 H vs Q E hr h=>?_)
 .obtain ⟨A,g,st,os,n,k,rfl,_⟩:=h
  rfl
 obtain ⟨A,g,st,os,n,k,rfl,R,hk,h64,q⟩:=h
 have nd:=gu.nd
 refine ⟨_,(Zi (Zu (Br E6 hr.m T.gf (Zl (K:=K) rfl (Zk sd hr.m T.aR (pv 0) (pc (pv 1) Zb)) rfl)))),?_⟩
 obtain ⟨dx,h1⟩:=R.ob
 have ln:=R.ln
 obtain ⟨a,e1,e2,e3,B⟩:=R.at_ (k:=k) (by lia)
 obtain ⟨ds,h3⟩:=B.aZ.ob
 obtain ⟨dr,h4⟩:=B.aZ.room.ob
 exact ⟨_,rfl,A.p,dx,_,rfl,h1,aD ..,_,rfl,A,g,st,os,n,k,a,rfl,R,e1,a.sp,_,ds,_,_,rfl,h3,T.gg,T.uc,wD ..,a.rp,dr,_,rfl,h4,bQ ..,a.rp,(g.cf k).sh,(g.cf k).pl,(g.cf k).ru,a.ls,a.au,a.du,(st.at_ k).seq,(st.at_ k).us,_,rfl,B.aZ.room,h64,q⟩
end
theorem Qd {ns:List Int}:(ns.map V.int).all cA=true:=by
 rw [aXt]
 intro x hx
 obtain ⟨n,_,rfl⟩:=au8.mp hx
 rfl
section
def JE (K:W.Frag):Sp:=λvs H Q _=>∃ (A:TA) (g:aP) (st:aq) (os:OS) (n k:Nat),vs=[.ref A.p,.int (k:Int)]/\af K H A g st os n/\k<g.n/\g.U.length<64/\∀ (D:Addr) (cs:List Int),H D=none->(∀ x,x∈cs↔(st.at_ k).fr x=true)->cs.length<64->cs.Pairwise (·<=·)->Q (.ref D) (upd H D (.lst (cs.map V.int)))
theorem Zez (F:aY K "changed" "Steps.changed" KL f fd) (T:Txt K mg) (sd:ay P w K mg base (aa K "Stairs") "store" 1 BD (D3 K)):av P w K mg base aV 2 f fd Ex (JE K):=by
 refine F.ok dI (λvs H Q E h=>?_) (λcdv A outer s0 H vs Q E hr h=>?_)
 .obtain ⟨A,g,st,os,n,k,rfl,_⟩:=h
  rfl
 obtain ⟨A,g,st,os,n,k,rfl,R,hk,hU,q⟩:=h
 have nd:=dI.nd
 refine ⟨_,(Zi (Zu (Zn (QB rfl) rfl T.uV abX (pc (Zl (K:=K) rfl (Zk sd hr.m T.aR (pv 0) (pc (pv 1) Zb)) rfl) Zb)))),?_⟩
 obtain ⟨dx,h1⟩:=R.ob
 have ln:=R.ln
 obtain ⟨a,e1,e2,e3,B⟩:=R.at_ (k:=k) (by lia)
 obtain ⟨ds,h3⟩:=B.aZ.ob
 obtain ⟨kf,h4,⟨ks,h5,h6⟩,h7⟩:=B.fresh
 have mem:∀ b,b∈ks↔(st.at_ k).fr b=true:=λb=>by
  have z:=tu (kvs:=kf) (Sum.inl b)
  rw [h7 b,h5] at z
  constructor
  .intro m
   have:=z.mpr (ad2 m)
   by_cases c:(st.at_ k).fr b=true
   .exact c
   .rw [aM3 c] at this; cases this
  .intro m
   rw [abw m] at z
   obtain ⟨x,hx,e⟩:=au8.mp (z.mp rfl)
   rw [← aDr e]; exact hx
 have zZ:ks.length<64:=aVm (ye h6 λx hx=>R.rj _ (aBD e3) x (B.sN x ((mem x).mp hx))) hU
 exact ⟨_,rfl,A.p,dx,_,rfl,h1,aD ..,_,rfl,A,g,st,os,n,k,a,rfl,R,e1,a.sp,_,ds,_,_,rfl,h3,T.gg,T.Cj,JC ..,a.df,kf,ks,rfl,h4,h5,zZ,λD cs hD po pw=>q D cs hD (λx=>po.mem_iff.trans (mem x)) (by rw [po.length_eq]; exact zZ) pw⟩
end
structure tK (mem:Int->Int) (ps:List (Int×Int)):Prop where
 up:ps.Pairwise λa b=>a.1<b.1
 mm:∀ s v,(s,v)∈ps↔mem s=v/\v≠0
theorem tK.uniq {mem:Int->Int} {ps qs:List (Int×Int)} (h1:tK mem ps) (h2:tK mem qs):ps=qs:=by
 have nd:∀ {l:List (Int×Int)},(l.Pairwise λa b=>a.1<b.1)->l.Nodup:=λh=>h.imp λ{a b} z e=>by rw [e] at z; lia
 have pm:ps.Perm qs:=(an7 (nd h1.up) (nd h2.up)).mpr λq=>by
  obtain ⟨s,v⟩:=q
  rw [h1.mm,h2.mm]
 exact List.Perm.eq_of_pairwise (le:=λa b=>a.1<b.1) (λa b _ _ z1 z2=>by lia) h1.up h2.up pm
theorem tK.congr {mem mem':Int->Int} {ps:List (Int×Int)} (h:tK mem ps) (e:∀ s,mem s=mem' s):tK mem' ps:=⟨h.up,λs v=>by rw [h.mm,e]⟩
def jy (H:Hp) (l:Addr) (ps:List (Int×Int)):Prop:=∃ as:List Addr,H l=some (.lst (as.map V.ref))/\as.length=ps.length/\∀ (i:Nat) (a:Addr) (p:Int×Int),as[i]?=some a->ps[i]?=some p->H a=some (.tup [.int p.1,.int p.2])
theorem jy.same {H H':Hp} {l:Addr} {ps:List (Int×Int)} (h:jy H l ps) (s:az H H'):jy H' l ps:=by
 obtain ⟨as,h1,h2,h3⟩:=h
 exact ⟨as,s _ _ h1,h2,λi a p e1 e2=>s _ _ (h3 i a p e1 e2)⟩
theorem jy.eqv {H:Hp} {l m:Addr} {ps:List (Int×Int)} (h1:jy H l ps) (h2:jy H m ps) (hl:ps.length<=1000):Eqv 2 H (.ref l) (.ref m):=by
 obtain ⟨as,a1,a2,a3⟩:=h1
 obtain ⟨bs,b1,b2,b3⟩:=h2
 refine .inr ⟨l,m,_,_,rfl,rfl,.inl ⟨a1,b1⟩,by rw [aK1,aK1,a2,b2],by rw [aK1,a2]; exact hl,λi u v e1 e2=>?_⟩
 rw [aBK] at e1 e2
 cases ha:as[i]? with
 | none=>rw [ha] at e1; cases e1
 | some a =>
  cases hb:bs[i]? with
  | none=>rw [hb] at e2; cases e2
  | some b =>
   rw [ha] at e1
   rw [hb] at e2
   cases e1
   cases e2
   have hi:i<ps.length:=by rw [← a2]; exact (a2U.mp ha).1
   have hp:ps[i]?=some ps[i]:=af3 hi
   exact Eqv.AB (a3 i a _ ha hp) (b3 i b _ hb hp) (by show 2<=1000; decide) λx hx=>by
    rcases aHJ.mp hx with rfl | hx
    .trivial
    .rw [arG.mp hx]; trivial
theorem z4 {kvs:List (Key×V)} {ks:List Int} {mem:Int->Int} (h:kvs.map Prod.fst=ks.map Sum.inl) (nd:ks.Nodup) (hv:∀ s,aO kvs (Sum.inl s:Key)=if mem s=0 then none else some (.int (mem s))):kvs=(ks.map λk=>(k,mem k)).map λp=>(Sum.inl p.1,V.int p.2):=by
 have key:∀ {kvs:List (Key×V)} {ks:List Int},kvs.map Prod.fst=ks.map Sum.inl->ks.Nodup->(∀ k∈ks,aO kvs (Sum.inl k:Key)=some (.int (mem k)))->kvs=(ks.map λk=>(k,mem k)).map λp=>(Sum.inl p.1,V.int p.2):=by
  intro kvs
  induction kvs with
  | nil =>
   intro ks h _ _
   cases ks with
   | nil=>rfl
   | cons k r=>cases h
  | cons p r ih =>
   intro ks h nd hv
   cases ks with
   | nil=>cases h
   | cons k ks =>
    rw [aDD,aDD] at h
    injection h with h1 h2
    obtain ⟨n1,n2⟩:=aDH.mp nd
    have v0:=hv k aFv
    rw [ZV h1] at v0
    rw [aDD,aDD,← ih h2 n2 λk' m=>by
     have v:=hv k' (aHO _ m)
     rw [ZO λz=>n1 (by rw [aDr (h1.symm.trans z)]; exact m)] at v
     exact v]
    rw [← h1,← avM v0]
 refine key h nd λk m=>?_
 have z:=(tu (kvs:=kvs) (Sum.inl k)).mpr (by rw [h]; exact ad2 m)
 have v:=hv k
 by_cases c:mem k=0
 .rw [abw c] at v; rw [v] at z; cases z
 .rw [aM3 c] at v; exact v
section
def Of (K:W.Frag):Sp:=λvs H Q _=>∃ (bm dk:Addr) (size:Int) (mem:Int->Int) (U:List Int),vs=[.ref bm]/\dZ K H bm dk size mem U/\0<size/\size<=1000/\U.length<=800 /\
 ∀ (D:Addr) (ps:List (Int×Int)) (H':Hp),H D=none->az H H'->jy H' D ps->tK mem ps->Q (.ref D) H'
theorem Zfz (F:aY K "pairs" "Memory.pairs" K7 f fd) (T:Txt K mg):av P w K mg base aV 1 f fd K6 (Of K):=by
 refine F.ok eX (λvs H Q E h=>?_) (λcdv A outer s0 H vs Q E hr h=>?_)
 .obtain ⟨bm,dk,size,mem,U,rfl,_⟩:=h
  rfl
 obtain ⟨bm,dk,size,mem,U,rfl,M,z0,z1,lU,q⟩:=h
 have nd:=eX.nd
 refine ⟨_,(Zi (Zu (Zn (ZhH rfl) rfl T.uV abX (pc (YU (Zl (K:=K) rfl (pv 0) rfl)) Zb)))),?_⟩
 obtain ⟨dx,h1⟩:=M.ob
 obtain ⟨kvs,h2,hk,h4⟩:=M.kept
 have kl:=NY z0 hk h4 M.sup
 obtain ⟨ks,h5,h6⟩:=hk
 have ek:=z4 h5 h6 h4
 rw [ek] at h2
 have mk:∀ k,k∈ks↔mem k≠0:=λk=>by
  have z:=tu (kvs:=kvs) (Sum.inl k)
  rw [h4 k,h5] at z
  constructor
  .intro m c
   rw [abw c] at z
   exact absurd (z.mpr (ad2 m)) aBC
  .intro c
   rw [aM3 c] at z
   obtain ⟨x,hx,e⟩:=au8.mp (z.mp rfl)
   rw [← aDr e]; exact hx
 have lk:ks.length<=1000000:=by
  have l:=aok List.length h5
  rw [aK1,aK1] at l
  rw [← l]
  exact a28 kl (a28 (Nat.mul_le_mul lU (by lia:size.toNat<=1000)) (by decide))
 refine ⟨_,rfl,bm,_,dx,_,_,rfl,h1,T.qd,T.yH,DT ..,dk,_,rfl,h2,λv hv=>?_⟩
 have s1:=Zd hv (.ext λh=>h.IsItemsView v dk)
 refine ⟨v,dk,ks.map λk=>(k,mem k),rfl,Za,s1 _ _ h2,by rw [map_map]; exact (map_id ks).symm ▸ h6,by rw [aK1]; exact lk,λD os H' hD s2 eD et pm pw=>?_⟩
 refine q D (os.map λe=>e.2) H' (s1.free hD) (s1.trans s2) ⟨os.map λe=>e.1,by rw [map_map]; exact eD,by rw [aK1,aK1],λi a p e1 e2=>?_⟩ ⟨List.pairwise_map.mpr pw,λs v=>?_⟩
 .rw [aBK] at e1 e2
  cases e:os[i]? with
  | none=>rw [e] at e1; cases e1
  | some x =>
   rw [e] at e1 e2
   cases e1
   cases e2
   exact (et x (aBD e)).2
 .rw [pm.mem_iff,mem_map]
  constructor
  .rintro ⟨k,hk,e⟩
   cases e
   exact ⟨rfl,(mk _).mp hk⟩
  .rintro ⟨e1,e2⟩
   exact ⟨s,(mk s).mpr (by rw [e1]; exact e2),by rw [e1]⟩
def OM (K:W.Frag):Sp:=λvs H Q _=>∃ (A:TA) (g:aP) (st:aq) (os:OS) (n:Nat),vs=[.ref A.p]/\af K H A g st os n /\
 ∀ (D:Addr) (ps:List (Int×Int)) (H':Hp),H D=none->az H H'->jy H' D ps->tK st.mem ps->Q (.ref D) H'
theorem ZfA (F:aY K "memory" "Steps.memory" K5 f fd) (T:Txt K mg) (EL:ay P w K mg base (aa K "Memory") "pairs" 1 K6 (Of K)):av P w K mg base aV 2 f fd K4 (OM K):=by
 refine F.ok eL (λvs H Q E h=>?_) (λcdv A outer s0 H vs Q E hr h=>?_)
 .obtain ⟨A,g,st,os,n,rfl,_⟩:=h
  rfl
 obtain ⟨A,g,st,os,n,rfl,R,q⟩:=h
 have nd:=eL.nd
 refine ⟨_,(Zi (Zu (Br EL hr.m T.qd (Zl (K:=K) rfl (pv 0) rfl)))),?_⟩
 obtain ⟨dx,h1⟩:=R.ob
 obtain ⟨dm,h2⟩:=R.mem.ob
 have z0:=R.wf.z0
 exact ⟨_,rfl,A.p,_,dx,_,_,rfl,h1,T.aR,T.Ck,JG ..,A.bm,dm,_,rfl,h2,qt ..,A.bm,A.dk,g.size,st.mem,g.U,rfl,R.mem,by lia,R.wf.z1,R.wf.lU,q⟩
end
def kX (H:Hp) (bd:Addr) (bk:Int->Int) (n:Nat):Prop:=∃ kvs,H bd=some (.dK kvs)/\(kvs.length<=n/\KI kvs)/\∀ s,(aO kvs (Sum.inl s:Key)).getD (V.int 0)=V.int (bk s)
theorem kX.frame {H H':Hp} {bd:Addr} {bk:Int->Int} {n:Nat} (h:kX H bd bk n) (f:∀ o,H bd=some o->H' bd=some o):kX H' bd bk n:=by
 obtain ⟨kvs,h1,h2⟩:=h
 exact ⟨kvs,f _ h1,h2⟩
theorem kX.put {H:Hp} {bd:Addr} {bk:Int->Int} {n:Nat} {kvs:List (Key×V)} (h2:kvs.length<=n/\KI kvs) (h3:∀ s,(aO kvs (Sum.inl s:Key)).getD (V.int 0)=V.int (bk s)) (sp v:Int):kX (upd H bd (.dK (putK kvs (Sum.inl sp) (V.int v)))) bd (sQ bk sp v) (n+1):=by
 refine ⟨_,Za,⟨a28 (By ..) (by lia),h2.2.put ..⟩,λs=>?_⟩
 rw [yv]
 unfold sQ
 by_cases c:s=sp
 .rw [abw (by rw [c]),abw c]
  rfl
 .rw [aM3 (λz=>c (aDr z)),aM3 c]
  exact h3 s
section
def jL (bk:Int->Int) (os:List Int):List (Int×Int):=(os.filter λs=>!decide (bk s=0)).map λs=>(s,bk s)
theorem Yv {bk:Int->Int} {os:List Int} {i:Nat} {s:Int} (h:os[i]?=some s):jL bk (os.take (i+1))=jL bk (os.take i)++if bk s=0 then [] else [(s,bk s)]:=by
 unfold jL
 rw [take_succ,h,List.filter_append,aIV]
 congr 1
 show (List.filter _ [s]).map _=_
 by_cases c:bk s=0
 .rw [abw c,aPc,aM3 (by simp [c])]; rfl
 .rw [aM3 c,aPc,abw (by simp [c])]; rfl
def OL (K:W.Frag):Sp:=λvs H Q _=>∃ (bd:Addr) (bk:Int->Int) (n:Nat),vs=[.ref bd]/\kX H bd bk n/\n<=900/\∀ (D:Addr) (ps:List (Int×Int)) (H':Hp),az H H'->jy H' D ps->tK bk ps->ps.length<=1000->Q (.ref D) H'
theorem Yc (F:aY K "_law_pairs" "_law_pairs" DE f fd) (T:Txt K mg):av P w K mg base aV 1 f fd Iw (OL K):=by
 refine F.ok lD (λvs H Q E h=>?_) (λcdv A outer s0 H vs Q E hr h=>?_)
 .obtain ⟨bd,bk,n,rfl,_⟩:=h
  rfl
 obtain ⟨bd,bk,n,rfl,⟨kvs,h1,⟨h2,ks,h5,h6⟩,h3⟩,n9,q⟩:=h
 have nd:=lD.nd
 have hu:=bT hr
 refine ⟨_,(Zi (Zu (Js (ZL (iZ:=(Zh DE)) (oN:=kW) (N:=["_law_spot", "_law_book"]) (own:=1) (js:=[0]) (by decide +kernel) rfl rfl) rfl (Jr (K:=K) rfl (Zn (Zgq rfl) rfl T.uV abX (pc (pv 0) Zb))) (λ_ _ _ _ _ _=>(bZ 0 (show List.Nodup (["_law_spot", "_law_book"]:List Str) by decide +kernel))) (λ_ _ _ _ _ _=>(Zy ue (Bb hu (pv 1) (pv 0) (λ_ _=>rfl)) Zj (Zz _))) (λ_ _ _ _ _ _=>(jI (pc (pv 0) (pc (Bb hu (pv 1) (pv 0) (λ_ _=>rfl)) Zb))))))),?_⟩
 have lk:ks.length<=900:=by
  have l:=aok List.length h5
  rw [aK1,aK1] at l
  lia
 refine ⟨_,rfl,bd,kvs,ks,rfl,h1,h5,by lia,λD os hD po pw=>⟨D,rfl,⟨_,aB.of Za⟩,λlz uv=>?_⟩⟩
 have s1:=Zd hD (.lst (os.map V.int))
 have eD:=Za (H:=H) (a:=D) (o:=.lst (os.map V.int))
 generalize upd H D (.lst (os.map V.int))=G1 at *
 have lo:os.length<=900:=by rw [po.length_eq]; exact lk
 refine JJ (K:=K) (a:=D) (xs:=os.map V.int) (l:=lz) (λi ys σ G=>∃ (v0:Option V) (as:List Addr),σ=[v0,some (.ref bd)]/\ys=as.map V.ref/\as.length=(jL bk (os.take i)).length/\(∀ (j:Nat) (a:Addr) (p:Int×Int),as[j]?=some a->(jL bk (os.take i))[j]?=some p->G a=some (.tup [.int p.1,.int p.2]))/\G lz=some (.lst ys)/\az G1 G)
  ⟨none,[],rfl,rfl,rfl,λj a p e=>by simp at e,Za,Zd uv _⟩ (λi ys σ G _ h=>by obtain ⟨_,_,_,_,_,_,_,s⟩:=h; exact aB.of (s _ _ eD)) ?_ ?_
 .rintro i x ys σ G hi hx hys ⟨v0,as,rfl,rfl,hl,hat,gl,s2⟩
  obtain ⟨s,es,rfl⟩:=Wt hx
  have e1:=s2 _ _ (s1 _ _ h1)
  have sn:=Yv (bk:=bk) es
  have hs:∃ v,eB G bd (.int s) (some (.int v))/\v=bk s:=by
   have m:s∈ks:=po.mem_iff.mp (aBD es)
   have z:=(tu (kvs:=kvs) (Sum.inl s)).mpr (by rw [h5]; exact ad2 m)
   have v:=h3 s
   have g:=eB.k (k:=Sum.inl s) e1
   cases c:aO kvs (Sum.inl s:Key) with
   | none=>rw [c] at z; cases z
   | some y =>
    rw [c] at v g
    have v:y=V.int (bk s):=v
    rw [v] at g
    exact ⟨_,g,rfl⟩
  obtain ⟨v,gv,rfl⟩:=hs
  refine ⟨_,rfl,_,rfl,bd,_,rfl,gv,rfl,_,rfl,?_⟩
  by_cases c:bk s=0
  .rw [abw c,bcu] at sn
   refine cF (by simp [c]) (rR.of hi hys ⟨_,as,rfl,rfl,by rw [sn]; exact hl,λj a p e1 e2=>hat j a p e1 (by rw [sn] at e2; exact e2),gl,s2⟩)
  .rw [aM3 c] at sn
   refine fk (by simp [c]) ⟨_,rfl,_,rfl,_,rfl,bd,_,rfl,gv,(sl 2),λt ht=>?_⟩
   have s3:=Zd ht (.tup [.int s,.int (bk s)])
   have et:=Za (H:=G) (a:=t) (o:=.tup [.int s,.int (bk s)])
   generalize upd G t (.tup [.int s,.int (bk s)])=G3 at *
   have MG:=s3 _ _ gl
   have nl:∀ {u:Addr} {zs:List V},G3 u=some (.tup zs)->u≠lz:=λe=>ou e MG (by intro z; cases z)
   refine jR.of (a9L (ZA (by rw [aK1]; lia))) hi hys MG ⟨_,as++[t],rfl,by rw [aIV]; rfl,by rw [sn,aCv,aCv,hl]; rfl,λj a p e1 e2=>?_,Za,λx o e=>by rw [Zc (Ze e uv)]; exact s3 _ _ (s2 _ _ e)⟩
   rw [sn] at e2
   by_cases cj:j<as.length
   .rw [aY3 cj] at e1
    rw [aY3 (by rw [← hl]; exact cj)] at e2
    have h1:=s3 _ _ (hat j a p e1 e2)
    rw [Zc (nl h1)]
    exact h1
   .rw [auv (by lia)] at e1
    rw [auv (by lia),← hl] at e2
    have ej:j - as.length=0:=by
     cases h0:j - as.length with
     | zero=>rfl
     | succ m=>rw [h0] at e1; simp at e1
    rw [ej] at e1 e2
    cases e1
    cases e2
    rw [Zc (nl et)]
    exact et
 .rintro ys σ G _ ⟨v0,as,rfl,rfl,hl,hat,gl,s2⟩
  rw [aK1,take_length] at hl hat
  have TQ:os.Nodup:=po.nodup_iff.mpr h6
  have lp:(jL bk os).length<=1000:=by
   unfold jL
   rw [aK1]
   exact a28 (aMW ..) (by lia)
  refine q lz (jL bk os) G (s1.trans s2) ⟨as,gl,hl,hat⟩ ⟨?_,λs v=>?_⟩ lp
  .unfold jL
   rw [pairwise_map]
   exact ((pw.and TQ).imp λh=>by obtain ⟨h1,h2⟩:=h; lia:os.Pairwise λa b=>a<b).filter _
  .unfold jL
   rw [mem_map]
   constructor
   .rintro ⟨k,hk,e⟩
    cases e
    have:=(apG.mp hk).2
    exact ⟨rfl,by simpa using this⟩
   .rintro ⟨e1,e2⟩
    refine ⟨s,apG.mpr ⟨po.mem_iff.mpr ?_,by simp [e1,e2]⟩,by rw [e1]⟩
    have v3:=h3 s
    have z:=tu (kvs:=kvs) (Sum.inl s)
    cases c:aO kvs (Sum.inl s:Key) with
    | none =>
     rw [c] at v3
     have v3:V.int 0=V.int (bk s):=v3
     injection v3 with v3
     exact absurd (by rw [← e1,← v3]) e2
    | some y =>
     rw [c,h5] at z
     obtain ⟨x,hx,e⟩:=au8.mp (z.mp rfl)
     rw [← aDr e]; exact hx
end
theorem M7 {n:Nat} (i:Nat):(oO n).at_ i=mj:=by
 unfold oO aq.at_
 rw [a9e,awl]
 split <;> rfl
theorem Yb {n:Nat}:dw (oO n):=λi j hi hj hij x hx=>by
 rw [M7] at hx
 exact absurd hx (by simp [mj])
theorem uz {t:TS} {D:Ends} {σ:St} {H:Hp} (h:∀ D':Ends,(∀ σ G,D.nx σ G->D'.nx σ G)->t D' σ H):t D σ H:=h D λ_ _ x=>x
section
variable {g:aP} {st:aq} {x b:Int} {k lo:Nat} {ws:List Int}
def NF (lo:Nat) (st:aq):Prop:=∀ k x,lo<=k->(st.at_ k).fr x=false
def Tr (g:aP) (lo:Nat):Prop:=lo<=1/\∀ k,lo<=k->k<g.n->(g.cf k).late=false
theorem ya {s:Rm} (h:NF lo st) (f:lo<=k->∀ x,s.fr x=false):NF lo (st.set k s):=λj x hj=>by
 rw [sZ]
 split
 .rename_i c
  exact f (by lia) x
 .exact h j x hj
theorem jZ (h:NF lo st):NF lo (dN k b st):=ya (st:=st.tell (eO k b)) (s:=jm (st.at_ k) b) h λhk x=>by
 show (if x=b then false else (st.at_ k).fr x)=false
 split
 .rfl
 .exact h k x hk
theorem DN (h:NF lo st):NF lo (bF k b ws st):=ya (s:=vJ (st.at_ k) b ws) h λhk x=>h k x hk
theorem HX (h:NF lo st):NF lo (cD g k b ws st):=by
 unfold cD
 split
 .exact h
 .exact ya (s:=fP (st.at_ k) b ws) h λhk x=>h k x hk
theorem IP (h:NF lo st):NF lo (bJ g k b st):=by
 unfold bJ
 split
 .exact ya (s:=kg (g.cf k) (st.at_ k) b) h λhk x=>h k x hk
 .exact h
theorem DM (t:Tr g lo):∀ {r k:Nat} {st:aq},lo<=k->k+r=g.n->NF lo st->NF lo (bC g b ws r k st)
 | 0,k,st,_,_,h=>HX h
 | r+1,k,st,hk,e,h=>by
  unfold bC
  split
  .rw [aM3 (by rw [t.2 k hk (by lia)]; exact aBC)]
   exact DM t (by lia) (by lia) (HX h)
  .exact DM t (by lia) (by lia) h
theorem Qc (t:Tr g lo) (hk:k<g.n) (h:NF lo st):NF lo (ZC g k b st):=by
 unfold ZC
 have:=t.1
 split
 .rename_i c
  refine ya (s:=vV (st.at_ k) b) h λhl=>?_
  rw [t.2 k hl hk] at c; cases c
 .exact DM t (by lia) (by lia) h
theorem IM:∀ {k:Nat} {st:aq} {ws:List Int} {fr:Bool},NF lo st->NF lo (aL b k st ws fr).1
 | 0,st,ws,fr,h=>h
 | k+1,st,ws,fr,h=>by
  unfold aL
  split
  .exact IM (jZ h)
  .exact IM h
theorem X8 (t:Tr g lo) (hk:k<g.n) (h:NF lo st):NF lo (kR g k b st):=by
 have:=t.1
 have h1:NF lo (b7 g k b st).1:=by
  unfold b7
  split
  .exact IM (jZ h)
  .exact jZ h
 unfold kR
 split
 .exact DM t (by lia) (by lia) h1
 .exact h1
theorem X7 (t:Tr g lo) (hk:k<g.n) (h:NF lo st):NF lo (ZN g k b st):=by
 unfold ZN
 split
 .exact h
 .exact X8 t hk h
theorem Oe (t:Tr g lo):∀ {k:Nat} {st:aq},k<=g.n->NF lo st->NF lo (fR g b ws k st)
 | 0,st,_,h=>h
 | k+1,st,hk,h=>Oe t (k:=k) (by lia) (DN (X7 t (by lia) h))
theorem OJ {fr:Bool} (t:Tr g lo) (hk:k<g.n) (h:NF lo st):NF lo (bG g k b ws fr st):=by
 unfold bG
 split
 .exact Qc t hk (DN h)
 .exact DN h
theorem IL (t:Tr g lo):∀ {r k:Nat} {b:Int} {ws:List Int} {fr:Bool} {st:aq},k+r=g.n->NF lo st->NF lo (pushS g r k b ws fr st)
 | 0,k,b,ws,fr,st,_,h=>by
  unfold pushS
  split
  .exact HX h
  .exact h
 | r+1,k,b,ws,fr,st,hk,h=>by
  unfold pushS
  split
  .exact OJ t (by lia) h
  .exact IL t (by lia) (OJ t (by lia) (jZ h))
theorem OI (t:Tr g lo) (hl:st.rm.length=g.n) (h:NF lo st):NF lo (Zw g b st):=by
 have nl:=yk st b
 have h0:NF lo (st.tell (eF (nearF st b))):=h
 unfold Zw
 split
 .unfold uI
  split
  .exact IP h0
  .split
   .exact IL t (by lia) h0
   .exact IL t (by lia) (jZ h0)
 .exact Oe t (by lia) (IP h0)
theorem Od {d:Dd} (t:Tr g lo) (l1:1<=g.n) (hl:st.rm.length=g.n) (h:NF lo st):NF lo (bD g d st):=by
 cases d with
 | rd sp=>exact OI t hl h
 | wt sp v =>
  have h1:=OI (b:=sp / g.size) t hl h
  exact Qc (st:=(Zw g (sp / g.size) st).set 0 (ku g ((Zw g (sp / g.size) st).at_ 0) sp v)) t (by lia) (ya (s:=ku g ((Zw g (sp / g.size) st).at_ 0) sp v) h1 λhk x=>h1 0 x hk)
theorem M6 {n:Nat}:NF lo (oO n):=λk x _=>by rw [M7]; rfl
def aN (es:List (List V)):List (Int×Int):=es.filterMap λe=>match e with
 | [.str s,.int k,.int b]=>if s = "words" then some (k,b) else none
 | _=>none
theorem Bo {es:List (List V)} {e:List V}:aN (es++[e])=aN es++aN [e]:=List.filterMap_append ..
theorem HW:aN [eW k b]=[((k:Int),b)]:=by
 show (match (if ("words" : Str) = "words" then some ((k:Int),b) else none) with | some x=>[x] | none=>[])=_
 rw [abw rfl]
theorem NJ:aN [eO k b]=[]:=by
 show (match (if ("out" : Str) = "words" then some ((k:Int),b) else none) with | some x=>[x] | none=>[])=_
 rw [aM3 (by decide +kernel)]
theorem NI:aN [eI k b]=[]:=by
 show (match (if ("in" : Str) = "words" then some ((k:Int),b) else none) with | some x=>[x] | none=>[])=_
 rw [aM3 (by decide +kernel)]
theorem V9:aN [eF k]=[]:=rfl
def Zs (st:aq):Prop:=NF 0 st/\aN st.ev=[]
theorem pS (h:Zs st):Zs (dN k b st):=⟨jZ h.1,by show aN (st.ev++[eO k b])=[]; rw [Bo,h.2,NJ]; rfl⟩
theorem NH (h:Zs st):Zs (bF k b ws st):=⟨DN h.1,by show aN (st.ev++[eI k b])=[]; rw [Bo,h.2,NI]; rfl⟩
theorem NG (h:Zs st):Zs (bJ g k b st):=⟨IP h.1,by unfold bJ; split <;> exact h.2⟩
theorem HV:∀ {k:Nat} {st:aq} {ws:List Int},Zs st->Zs (aL b k st ws false).1/\(aL b k st ws false).2.2=false
 | 0,st,ws,h=>⟨h,rfl⟩
 | k+1,st,ws,h=>by
  unfold aL
  split
  .rw [h.1 k b (aUM _)]
   exact HV (pS h)
  .exact HV h
theorem Xb (h:Zs st):Zs (kR g k b st):=by
 have h1:Zs (b7 g k b st).1/\(b7 g k b st).2.2=false:=by
  unfold b7
  split
  .rw [h.1 k b (aUM _)]
   exact HV (pS h)
  .exact ⟨pS h,h.1 k b (aUM _)⟩
 unfold kR
 rw [aM3 (by rw [h1.2]; exact aBC)]
 exact h1.1
theorem Xa (h:Zs st):Zs (ZN g k b st):=by
 unfold ZN
 split
 .exact h
 .exact Xb h
theorem ND:∀ {k:Nat} {st:aq},Zs st->Zs (fR g b ws k st)
 | 0,st,h=>h
 | k+1,st,h=>ND (k:=k) (NH (Xa h))
theorem HU:∀ {r k:Nat} {b:Int} {ws:List Int} {st:aq},Zs st->Zs (pushS g r k b ws false st)
 | 0,k,b,ws,st,h=>by
  unfold pushS
  rw [aM3 aBC]
  exact h
 | r+1,k,b,ws,st,h=>by
  have c:∀ {st:aq},Zs st->Zs (bG g k b ws false st):=λh=>by
   unfold bG
   rw [aM3 aBC]
   exact NH h
  unfold pushS
  split
  .exact c h
  .rename_i o _
   rw [h.1 k o (aUM _)]
   exact HU (c (pS h))
theorem Oc (h:NF 0 st) (he:st.ev=[]):Zs (Zw g b st):=by
 have h0:Zs (st.tell (eF (nearF st b))):=⟨h,by show aN (st.ev++[eF (nearF st b)])=[]; rw [he]; rfl⟩
 unfold Zw
 split
 .unfold uI
  split
  .exact NG h0
  .split
   .exact HU h0
   .rw [h0.1 _ b (aUM _)]
    exact HU (pS h0)
 .exact ND (NG h0)
def ny (sq:Nat->Bool) (b:Int):Nat->Nat->List (Int×Int)
 | 0,k=>[((k:Int),b)]
 | r+1,k=>(if sq k=true then [((k:Int),b)] else [])++ny sq b r (k+1)
theorem NC:(cD g k b ws st).ev=st.ev++[eW k b]:=by
 unfold cD
 split <;> rfl
theorem JO {sq:Nat->Bool}:∀ {r k:Nat} {st:aq},(∀ j,k<=j->j<g.n->(g.cf j).late=false)->k+r=g.n->(∀ j,sq j=decide (b∈(st.at_ j).seq))->aN (bC g b ws r k st).ev=aN st.ev++ny sq b r k
 | 0,k,st,_,_,_=>by
  unfold bC
  rw [NC,Bo,HW]
  rfl
 | r+1,k,st,t,e,hs=>by
  unfold bC
  show _=aN st.ev++((if sq k=true then [((k:Int),b)] else [])++ny sq b r (k+1))
  by_cases c:b∈(st.at_ k).seq
  .rw [abw c,aM3 (by rw [t k (aEt _) (by lia)]; exact aBC),abw (by rw [hs,aea c]),JO (sq:=sq) (λj h1 h2=>t j (by lia) h2) (by lia) (λj=>by rw [hs,sU]),NC,Bo,HW,aAq]
  .rw [aM3 c,aM3 (by rw [hs,a0j c]; exact aBC),JO (λj h1 h2=>t j (by lia) h2) (by lia) hs]
   rfl
theorem ZkS {sp v:Int} (t:Tr g 0) (l1:1<=g.n) (h:NF 0 st) (he:st.ev=[]):aN (bD g (.wt sp v) st).ev=ny (λj=>decide (sp / g.size∈((bD g (.wt sp v) st).at_ j).seq)) (sp / g.size) (g.n - 1) 1:=by
 have z:=Oc (g:=g) (b:=sp / g.size) h he
 have lk:=λj=>(IV (g:=g) (d:=.wt sp v) (st:=st)).sq j
 have e:bD g (.wt sp v) st=bC g (sp / g.size) ((((Zw g (sp / g.size) st).set 0 (ku g ((Zw g (sp / g.size) st).at_ 0) sp v)).at_ 0).wd (sp / g.size)) (g.n - 1) 1 ((Zw g (sp / g.size) st).set 0 (ku g ((Zw g (sp / g.size) st).at_ 0) sp v)):=by
  show ZC g 0 _ _=_
  unfold ZC
  rw [aM3 (by rw [t.2 0 (aEt _) (by lia)]; exact aBC)]
 have q:=JO (g:=g) (b:=sp / g.size) (ws:=(((Zw g (sp / g.size) st).set 0 (ku g ((Zw g (sp / g.size) st).at_ 0) sp v)).at_ 0).wd (sp / g.size)) (r:=g.n - 1) (k:=1) (st:=(Zw g (sp / g.size) st).set 0 (ku g ((Zw g (sp / g.size) st).at_ 0) sp v)) (sq:=λj=>decide (sp / g.size∈((bD g (.wt sp v) st).at_ j).seq)) (λj _ h2=>t.2 j (aUM _) h2) (by lia) λj=>by
  rw [lk j]
  congr 1
  rw [sZ]
  split
  .rename_i c
   rw [c.1]; rfl
  .rfl
 rw [← e] at q
 rw [q,show aN ((Zw g (sp / g.size) st).set 0 (ku g ((Zw g (sp / g.size) st).at_ 0) sp v)).ev=[] from z.2]
 rfl
theorem W9 {bk:Int->Int} (hs:0<g.size) (n:NF 0 st) (h:∀ x,Fx g bk x st) (sp:Int):st.mem sp=bk sp:=by
 have e:=h (sp / g.size) g.n (aEt _) (λz=>absurd z (asH _)) λj hj=>n j _ (aUM _)
 rw [sV] at e
 rw [← IQ (g:=g) (bk:=bk) (sp:=sp) hs,← e,IQ hs]
theorem X6 {sp v:Int} (hl:(Zw g (sp / g.size) st).rm.length=g.n) (l1:1<=g.n) (lt:(g.cf 0).late=true):((bD g (.wt sp v) st).at_ 0).fr (sp / g.size)=true:=by
 show ((ZC g 0 _ _).at_ 0).fr _=true
 unfold ZC
 rw [abw lt]
 unfold pP
 rw [sS (by rw [bu,hl]; lia)]
 show (if sp / g.size=sp / g.size then true else _)=true
 rw [abw rfl]
end
def iF (sq:Nat->Bool) (b:Int) (k:Nat):Nat->List (Int×Int)
 | 0=>[]
 | i+1=>iF sq b k i++if sq (k+i)=true then [(((k+i:Nat):Int),b)] else []
theorem PL {sq:Nat->Bool} {b:Int} {k:Nat}:∀ {r:Nat},iF sq b k (r+1)=(if sq k=true then [((k:Int),b)] else [])++iF sq b (k+1) r
 | 0=>by show []++_=_++[]; rw [List.nil_append,bcu]; rfl
 | r+1=>by
  show iF sq b k (r+1)++_=_++(iF sq b (k+1) r++_)
  rw [PL,aAq,show k+(r+1)=k+1+r by lia]
theorem NB {sq:Nat->Bool} {b:Int}:∀ {r k:Nat},ny sq b r k=iF sq b k r++[(((k+r:Nat):Int),b)]
 | 0,k=>rfl
 | r+1,k=>by
  show _++ny sq b r (k+1)=_
  rw [NB,PL,aAq,show k+1+r=k+(r+1) by lia]
theorem OH {sq:Nat->Bool} {b:Int} {k:Nat}:∀ {r:Nat},(iF sq b k r).length<=r
 | 0=>aEt _
 | r+1=>by
  have:=OH (sq:=sq) (b:=b) (k:=k) (r:=r)
  show (iF sq b k r++_).length<=_
  rw [aCv]
  split
  .show _+1<=_; lia
  .show _+0<=_; lia
theorem Z9 {es:List (List V)} {i:Nat} {e:List V} (h:es[i]?=some e):aN (es.take (i+1))=aN (es.take i)++aN [e]:=by
 rw [take_succ,h]
 exact Bo
section
theorem Ju {G:Hp} {l t:Addr} {as:List Addr} {ps:List (Int×Int)} {p:Int×Int} (hl:as.length=ps.length) (hat:∀ (j:Nat) (a:Addr) (q:Int×Int),as[j]?=some a->ps[j]?=some q->G a=some (.tup [.int q.1,.int q.2])) (et:G t=some (.tup [.int p.1,.int p.2])) (gl:G l=some (.lst (as.map V.ref))) (zs:List V) :
  ∀ (j:Nat) (a:Addr) (q:Int×Int),(as++[t])[j]?=some a->(ps++[p])[j]?=some q->upd G l (.lst zs) a=some (.tup [.int q.1,.int q.2]):=λj a q e1 e2=>by
 have nl:∀ {u:Addr} {zs:List V},G u=some (.tup zs)->u≠l:=λe=>ou e gl (by intro z; cases z)
 by_cases cj:j<as.length
 .rw [aY3 cj] at e1
  rw [aY3 (by rw [← hl]; exact cj)] at e2
  have h1:=hat j a q e1 e2
  rw [Zc (nl h1)]
  exact h1
 .rw [auv (by lia)] at e1
  rw [auv (by lia),← hl] at e2
  have ej:j - as.length=0:=by
   cases h0:j - as.length with
   | zero=>rfl
   | succ m=>rw [h0] at e1; simp at e1
  rw [ej] at e1 e2
  cases e1
  cases e2
  rw [Zc (nl et)]
  exact et
def IK (K:W.Frag):Sp:=λvs H Q _=>∃ (le:Addr) (n:Nat) (es:List (List V)),vs=[.ref le]/\tP n H le es/\es.length<=900/\∀ (D:Addr) (H':Hp),az H H'->jy H' D (aN es)->Q (.ref D) H'
theorem W8 (F:aY K "_law_puts" "_law_puts" Ds f fd) (T:Txt K mg):av P w K mg base aV 1 f fd Dr (IK K):=by
 refine F.ok nW (λvs H Q E h=>?_) (λcdv A outer s0 H vs Q E hr h=>?_)
 .obtain ⟨le,n,es,rfl,_⟩:=h
  rfl
 obtain ⟨le,n,es,rfl,⟨hE,ts,hl,hlen,hat⟩,h9,q⟩:=h
 have nd:=nW.nd
 refine ⟨_,(Zi (Zu (Js (ZL (iZ:=(Zh Ds)) (oN:=nC) (N:=["_law_event"]) (own:=1) (js:=[]) (by decide +kernel) rfl rfl) rfl (Jr (K:=K) rfl (pv 0)) (λ_ _ _ _ _ _=>(bZ 0 (show List.Nodup (["_law_event"]:List Str) by decide +kernel))) (λ_ _ _ _ _ _=>(Zy aU (ao (ZB (K:=K) rfl) (pv 0) Zj (λ_ _=>rfl)) ZM (Zz _))) (λ_ _ _ _ _ _=>(wI ID (pv 0) (uP Zj) yt))))),?_⟩
 refine ⟨_,rfl,le,rfl,⟨_,aB.of hl⟩,λlz uv=>?_⟩
 refine JJ (K:=K) (a:=le) (xs:=ts.map V.ref) (l:=lz) (λi ys σ G=>∃ (v0:Option V) (as:List Addr),σ=[v0]/\ys=as.map V.ref/\as.length=(aN (es.take i)).length/\(∀ (j:Nat) (a:Addr) (p:Int×Int),as[j]?=some a->(aN (es.take i))[j]?=some p->G a=some (.tup [.int p.1,.int p.2]))/\G lz=some (.lst ys)/\az H G)
  ⟨none,[],rfl,rfl,rfl,λj a p e=>by simp at e,Za,Zd uv _⟩ (λi ys σ G _ h=>by obtain ⟨_,_,_,_,_,_,_,s⟩:=h; exact aB.of (s _ _ hl)) ?_ ?_
 .rintro i x ys σ G hi hx hys ⟨v0,as,rfl,rfl,hl1,jP,gl,s2⟩
  obtain ⟨t,et,rfl⟩:∃ t,ts[i]?=some t/\x=V.ref t:=by
   rw [aBK] at hx
   cases e:ts[i]? with
   | none=>rw [e] at hx; cases hx
   | some t=>rw [e] at hx; exact ⟨t,rfl,(avM hx).symm⟩
  have hi':i<es.length:=by rw [← hlen]; exact (a2U.mp et).1
  have ee:es[i]?=some es[i]:=af3 hi'
  have ht:=s2 _ _ (hat i t _ et ee)
  have hev:=hE _ (aPI hi')
  have tk:=Z9 ee
  generalize es[i]=e at *
  have two:(∃ (s:Str) (r:List V),e=.str s :: r/\s ≠ "words" /\ aN [e]=[])\/∃ (k:Nat) (b:Int),e=[.str "words",.int (k:Int),.int b]:=by
   rcases hev with ⟨k,_,rfl⟩ | ⟨k,b,_,rfl | rfl⟩ | ⟨k,b,_,rfl⟩
   .exact .inl ⟨_,_,rfl,by decide +kernel,V9⟩
   .exact .inl ⟨_,_,rfl,by decide +kernel,NI⟩
   .exact .inl ⟨_,_,rfl,by decide +kernel,NJ⟩
   .exact .inr ⟨k,b,rfl⟩
  rcases two with ⟨s,r,rfl,ns,hp⟩ | ⟨k,b,rfl⟩
  .rw [hp,bcu] at tk
   exact ⟨_,rfl,t,_,_,_,rfl,rfl,aK.of ht,cK,rfl,_,rfl,cF (a0j λz=>ns (by injection z)) (rR.of hi hys ⟨_,as,rfl,rfl,by rw [tk]; exact hl1,λj a p e1 e2=>jP j a p e1 (by rw [tk] at e2; exact e2),gl,s2⟩)⟩
  .rw [show aN [[V.str "words",V.int (k:Int),V.int b]]=[((k:Int),b)] from HW] at tk
   refine ⟨_,rfl,t,_,_,_,rfl,rfl,aK.of ht,cK,rfl,_,rfl,fk (aea rfl) ⟨_,rfl,_,rfl,t,_,rfl,ht,λp1 G1 s3 e1=>?_⟩⟩
   rw [show dP [V.str "words",V.int (k:Int),V.int b] (some 1) none=[V.int (k:Int),V.int b] from rfl] at e1
   exact jR.of (a9L (ZA (by rw [aK1,hlen]; lia))) hi hys (s3 _ _ gl) ⟨_,as++[p1],rfl,by rw [aIV]; rfl,by rw [tk,aCv,aCv,hl1]; rfl,by rw [tk]; exact Ju hl1 (λj a p e1 e2=>s3 _ _ (jP j a p e1 e2)) e1 (s3 _ _ gl) _,Za,λx o e=>by rw [Zc (Ze e uv)]; exact s3 _ _ (s2 _ _ e)⟩
 .rintro ys σ G _ ⟨v0,as,rfl,rfl,hl1,jP,gl,s2⟩
  rw [aK1,hlen,take_length] at hl1 jP
  exact q lz G s2 ⟨as,gl,hl1,jP⟩
end
theorem X5 (xs:List V) (n:Nat):dP xs (some (n:Int)) none=xs.drop n:=by
 unfold dP
 rw [HT.jk,HT.kq]
 by_cases c:n<=xs.length
 .rw [Nat.min_eq_left c]
  exact ahH (by rw [abS]; lia)
 .rw [Nat.min_eq_right (by lia),List.drop_length,List.drop_eq_nil_of_le (by lia),List.take_nil]
def mF (fst:Str):List Cf->List Cf
 | []=>[]
 | c :: r=>{ c with late:=decide (fst = "late") } :: r.map λc=>{ c with late:=false }
theorem DL {fst:Str} {aF:List Cf}:(mF fst aF).length=aF.length:=by
 cases aF with
 | nil=>rfl
 | cons c r=>show (List.map _ r).length+1=r.length+1; rw [aK1]
section
def tW (K:W.Frag):Sp:=λvs H Q _=>∃ (tp:Addr) (bX:List Addr) (aF:List Cf) (fst:Str),vs=[.ref tp,.str fst]/\bI K H tp bX aF/\1<=aF.length/\aF.length<=4/\(fst = "late" \/ fst = "through") /\
 ∀ pH mP H',az H H'->bI K H' pH mP (mF fst aF)->Q (.ref pH) H'
theorem X4 (F:aY K "_law_rooms" "_law_rooms" DF f fd) (T:Txt K mg):av P w K mg base aV 1 f fd Iz (tW K):=by
 refine F.ok lB (λvs H Q E h=>?_) (λcdv A outer s0 H vs Q E hr h=>?_)
 .obtain ⟨tp,bX,aF,fst,rfl,_⟩:=h
  rfl
 obtain ⟨tp,bX,aF,fst,rfl,pa,l1,l4,hf,q⟩:=h
 have nd:=lB.nd
 refine ⟨_,(Zf (Pe 2 (ZL (iZ:=(Zh DF)) (oN:=kU) (N:=["_law_room"]) (own:=1) (js:=[]) (by decide +kernel) rfl rfl) rfl nd rfl rfl (OF (K:=K) rfl (pv 0)) (λ_ _ _ _ _ _=>(bZ 0 (show List.Nodup (["_law_room"]:List Str) by decide +kernel))) (λ_ _ _ _ _ _=>(ak Oq (wI ID (pv 0) yt (uP Zj)) (jI (pc ZM Zb)))))
   (Zi (Zu (tF (QJ (K:=K) rfl) rfl T.wZ Ej (pc (ak NR (j8 (pc (ak Oq (wI ID (ao (ZB (K:=K) rfl) (pv 0) Zj (λ_ _=>rfl)) yt (uP Zj)) (jI (pc (pv 1) Zb))) Zb)) (wI (D9 (K:=K) rfl) (pv 2) (uP Zj) yt)) Zb))))),?_⟩
 have lt:bX.length=aF.length:=pa.len
 refine hide λu1 e1=>?_
 refine ⟨_,rfl,tp,rfl,⟨_,aK.of pa.top⟩,λl hl=>?_⟩
 refine O6 (K:=K) (a:=tp) (xs:=bX.map V.ref) (l:=l) (λi ys σ G=>∃ (v0:Option V) (us:List Addr),σ=[v0]/\ys=us.map V.ref/\us.length=i/\G l=some (.lst ys)/\(∀ (j:Nat) (u:Addr) (c:Cf),us[j]?=some u->aF[j]?=some c->G u=some (.tup [.int c.sh,.int c.pl,.str c.ru,.str "through"]))/\az H G)
  ⟨none,[],rfl,rfl,rfl,Za,λj u c e=>by simp at e,Zd hl _⟩ (λi ys σ G _ h=>by obtain ⟨_,_,_,_,_,_,_,s⟩:=h; exact aK.of (s _ _ pa.top)) ?_ ?_
 .rintro i x ys σ G hi hx hys ⟨v0,us,rfl,rfl,vK,gl,GU,s1⟩
  obtain ⟨t,et,rfl⟩:∃ t,bX[i]?=some t/\x=V.ref t:=by
   rw [aBK] at hx
   cases e:bX[i]? with
   | none=>rw [e] at hx; cases hx
   | some t=>rw [e] at hx; exact ⟨t,rfl,(avM hx).symm⟩
  have hi':i<aF.length:=by rw [← lt]; exact (a2U.mp et).1
  obtain ⟨wr,ew,_,_⟩:=pa.at_ i t aF[i] et (af3 hi')
  have ew:=s1 _ _ ew
  refine ⟨_,rfl,_,rfl,t,_,rfl,ew,λp1 G1 s2 e1=>⟨(sl 1),λp2 hp2=>?_⟩⟩
  have ec:dP [V.int aF[i].sh,V.int aF[i].pl,V.str aF[i].ru,V.str wr] none (some 3)=[V.int aF[i].sh,V.int aF[i].pl,V.str aF[i].ru]:=rfl
  rw [ec] at e1
  have s3:=Zd (H:=G1) hp2 (.tup [.str "through"])
  refine ⟨p1,p2,_,_,rfl,rfl,s3 _ _ e1,Za,(sl 4),λp3 G3 s4 e3=>?_⟩
  have s5:=s2.trans (s3.trans s4)
  have MF:=s5 _ _ gl
  have nl:∀ {u:Addr} {zs:List V},G3 u=some (.tup zs)->u≠l:=λe=>ou e MF (by intro z; cases z)
  refine jR.of (a9L (ZA (by rw [aK1]; lia))) hi hys MF ⟨_,us++[p3],rfl,by rw [aIV]; rfl,by rw [aCv,vK]; rfl,Za,λj u c ej HA=>?_,λx o e=>by rw [Zc (Ze e hl)]; exact s5 _ _ (s1 _ _ e)⟩
  by_cases cj:j<us.length
  .rw [aY3 cj] at ej
   have h1:=s5 _ _ (GU j u c ej HA)
   rw [Zc (nl h1)]
   exact h1
  .have hj:j=i:=by
    have:=(a2U.mp ej).1
    rw [aCv] at this
    have:j<us.length+1:=this
    lia
   subst hj
   rw [auv (by lia),vK,a2d] at ej
   cases ej
   rw [af3 hi'] at HA
   cases HA
   rw [Zc (nl e3)]
   exact e3
 rintro ys σ G _ ⟨v0,us,rfl,rfl,vK,gl,GU,s1⟩
 rw [aK1,lt] at vK
 refine gN ?_
 subst e1
 try dsimp only
 cases aF with
 | nil=>exact absurd l1 (by simp)
 | cons c0 cr =>
 obtain ⟨t0,tr,rfl⟩:∃ t0 tr,bX=t0 :: tr:=by
  cases bX with
  | nil=>cases lt
  | cons a r=>exact ⟨a,r,rfl⟩
 obtain ⟨u0,ur,rfl⟩:∃ u0 ur,us=u0 :: ur:=by
  cases us with
  | nil=>cases vK
  | cons a r=>exact ⟨a,r,rfl⟩
 obtain ⟨wr,ew,_,_⟩:=pa.at_ 0 t0 c0 rfl rfl
 have ew:=s1 _ _ ew
 have AZ:fS ((t0 :: tr).map V.ref) 0=some (.ref t0):=cK
 refine ⟨_,rfl,tp,_,_,_,rfl,rfl,aK.of (s1 _ _ pa.top),AZ,_,rfl,t0,_,rfl,ew,λp1 G1 s2 e1=>⟨_,rfl,(sl 1),λp2 hp2=>?_⟩⟩
 rw [show dP [V.int c0.sh,V.int c0.pl,V.str c0.ru,V.str wr] none (some 3)=[V.int c0.sh,V.int c0.pl,V.str c0.ru] from rfl] at e1
 have s3:=Zd (H:=G1) hp2 (.tup [.str fst])
 refine ⟨p1,p2,_,_,rfl,rfl,s3 _ _ e1,Za,(sl 4),λp3 G3 s4 e3=>⟨(sl 1),λld Aq=>?_⟩⟩
 have s5:=s2.trans (s3.trans s4)
 have s6:=Zd (H:=G3) Aq (.lst [.ref p3])
 have Vc:=Za (H:=G3) (a:=ld) (o:=.lst [.ref p3])
 generalize upd G3 ld (.lst [.ref p3])=G4 at *
 have xY:=s6 _ _ (s5 _ _ gl)
 refine ⟨_,rfl,_,rfl,l,_,rfl,aB.of xY,λl3 hl3=>?_⟩
 rw [show dP ((u0 :: ur).map V.ref) (some 1) none=ur.map V.ref from X5 _ 1]
 have s7:=Zd (H:=G4) hl3 (.lst (ur.map V.ref))
 have AF:=Za (H:=G4) (a:=l3) (o:=.lst (ur.map V.ref))
 generalize upd G4 l3 (.lst (ur.map V.ref))=G5 at *
 have lur:ur.length<=4:=by
  have:ur.length+1=cr.length+1:=vK
  have:cr.length+1<=4:=l4
  lia
 refine ⟨ld,l3,_,_,rfl,rfl,s7 _ _ Vc,AF,(by show 1+(ur.map V.ref).length<=sizeLine; rw [aK1]; exact a28 (by lia:1+ur.length<=5) (by decide)),λlr hlr=>⟨lr,_,rfl,.inl ⟨aB.of Za,λtq Al=>?_⟩⟩⟩
 have s8:=Zd (H:=G5) hlr (.lst ([.ref p3]++ur.map V.ref))
 have s9:=Zd (H:=upd G5 lr (.lst ([.ref p3]++ur.map V.ref))) Al (.tup ([.ref p3]++ur.map V.ref))
 have Fy:=s6.trans (s7.trans (s8.trans s9))
 refine q tq (p3 :: ur) _ (s1.trans (s5.trans Fy)) ⟨Za,by rw [DL]; exact vK,λi u c ei ec=>?_,λc hc=>?_⟩
 .cases i with
  | zero =>
   have ei:p3=u:=by simpa using ei
   have ec:({ c0 with late:=decide (fst = "late") }:Cf)=c:=by simpa [mF] using ec
   subst ei ec
   exact ⟨fst,Fy _ _ e3,rfl,hf⟩
  | succ i =>
   have ei:(u0 :: ur)[i+1]?=some u:=ei
   have ec:(cr.map λc:Cf=>({ c with late:=false }:Cf))[i]?=some c:=ec
   rw [aBK] at ec
   cases e:cr[i]? with
   | none=>rw [e] at ec; cases ec
   | some d =>
    rw [e] at ec
    cases ec
    exact ⟨"through",Fy _ _ (s5 _ _ (GU (i+1) u d ei e)),(a0j (by decide +kernel)).symm,.inr rfl⟩
 .rcases aHJ.mp hc with rfl | hc
  .exact pa.cf c0 aFv
  .obtain ⟨d,hd,rfl⟩:=au8.mp hc
   exact pa.cf d (aHO _ hd)
end
theorem W7 (xs:List V) (m:Nat) (h:xs.length=m) (h1:1<=m):dP xs (some (0 - (m:Int))) none=xs:=by
 unfold dP
 have e:HT.bB xs.length 0 (some (0 - (m:Int)))=0:=by
  have:=HT.kQ (0 - (m:Int)) xs.length 0
  rw [abw (by lia)] at this
  lia
 rw [HT.jk,e]
 exact ahH (by rw [abS]; lia)
theorem V8 {K:W.Frag} {H:Hp} {as bs:List Addr} {ps:List (Int×Int)} (h1:as.length=ps.length) (h2:bs.length=ps.length) (g1:∀ (j:Nat) (a:Addr) (q:Int×Int),as[j]?=some a->ps[j]?=some q->H a=some (.tup [.int q.1,.int q.2])) (g2:∀ (j:Nat) (a:Addr) (q:Int×Int),bs[j]?=some a->ps[j]?=some q->H a=some (.tup [.int q.1,.int q.2])) :
  ∀ (i:Nat) (u v:V),(as.map V.ref)[i]?=some u->(bs.map V.ref)[i]?=some v->BY K H 1 u v true:=λi u v e1 e2=>by
 rw [aBK] at e1 e2
 cases ha:as[i]? with
 | none=>rw [ha] at e1; cases e1
 | some a =>
  cases hb:bs[i]? with
  | none=>rw [hb] at e2; cases e2
  | some b =>
   rw [ha] at e1
   rw [hb] at e2
   cases e1
   cases e2
   have hi:i<ps.length:=by rw [← h1]; exact (a2U.mp ha).1
   have hp:ps[i]?=some ps[i]:=af3 hi
   have x1:=g1 i a _ ha hp
   have x2:=g2 i b _ hb hp
   refine .inr ⟨a,b,_,_,λ_=>true,rfl,rfl,λj y z e1 e2=>?_,.inr ⟨aK.of x1,aK.of x2,rfl⟩⟩
   rw [e1] at e2
   cases e2
   have f:cA y=true:=by
    have m:=aBD e1
    rcases aHJ.mp m with rfl | m
    .rfl
    .rw [arG.mp m]; rfl
   exact ⟨f,f,(Jq f).symm⟩
section
def yU (K:W.Frag):Sp:=λvs H Q _=>∃ (A:TA) (g:aP) (st:aq) (os:OS) (n:Nat) (pp tp:Addr) (bX:List Addr) (t le:Addr) (d:Dd) (es:List (List V)),vs=[.ref A.p,.ref pp,.ref t,.ref le]/\af K H A g st os n/\H pp=some (.tup [.int g.size,.str g.kind,.ref tp])/\bI K H tp bX g.aF/\H t=some (.tup d.vs)/\tP g.n H le es/\es.length<=900/\g.U.length<64/\aN es=ny (λj=>decide (d.sp / g.size∈(st.at_ j).seq)) (d.sp / g.size) (g.n - 1) 1/\∀ H',az H H'->Q (.bl true) H'
theorem ZfK (F:aY K "_law_write_right" "_law_write_right" En f fd) (T:Txt K mg) (xS:Def P w K mg base "_law_puts" 1 Dr (IK K)) (GB:ay P w K mg base (aa K "Stairs") "lies" 2 Ku (M8 K)):av P w K mg base aV 3 f fd Kd (yU K):=by
 refine F.ok fD (λvs H Q E h=>?_) (λcdv A outer s0 H vs Q E hr h=>?_)
 .obtain ⟨A,g,st,os,n,pp,tp,bX,t,le,d,es,rfl,_⟩:=h
  rfl
 obtain ⟨A,g,st,os,n,pp,tp,bX,t,le,d,es,rfl,R,hpp,pa,et,ev,l9,hU,hP,q⟩:=h
 have nd:=fD.nd
 have hu:=bT hr
 have z0:=R.wf.z0
 have z1:=R.wf.z1
 have l4:g.n<=4:=R.wf.l4
 have l1:1<=g.n:=R.wf.l1
 have xM:(bX.map V.ref).length=g.n:=by rw [aK1,pa.len]; rfl
 obtain ⟨dx,ob⟩:=R.ob
 have Vt:fS d.vs 1=some (.int d.sp):=by cases d <;> exact gj
 refine ⟨_,(Zf (cI 4 nd (ak uQ (ao (ZB (K:=K) rfl) (pv 2) Zj (λ_ _=>rfl)) (ao (ZB (K:=K) rfl) (pv 1) Zj (λ_ _=>rfl))))
   (Zf (cI 5 nd (ak NR (Js (ZL (iZ:=(Zh En)) (oN:=cZ) (N:=["_law_k", "_law_board", "_law_stairs"]) (own:=1) (js:=[4,0]) (by decide +kernel) rfl rfl) rfl (JT rfl T.lE (pc Zj (pc (Zn (Zx (K:=K) rfl) rfl T.nJ aoN (pc (ao (ZB (K:=K) rfl) (pv 1) Zj (λ_ _=>rfl)) Zb)) Zb))) (λ_ _ _ _ _ _=>(bZ 0 (show List.Nodup (["_law_k", "_law_board", "_law_stairs"]:List Str) by decide +kernel))) (λ_ _ _ _ _ _=>(Zy (ZkF (K:=K) rfl) (pv 1) (Zk GB hr.m T.aR (pv 2) (pc (pv 0) Zb)) rfl)) (λ_ _ _ _ _ _=>(jI (pc (pv 0) (pc (pv 1) Zb))))) (j8 (pc (jI (pc (Zn (Zx (K:=K) rfl) rfl T.nJ aoN (pc (ao (ZB (K:=K) rfl) (pv 1) Zj (λ_ _=>rfl)) Zb)) (pc (pv 4) Zb))) Zb))))
   (Zi (Zu (oK (VX (K:=K) 1 (uo hr 1 (by decide)) rfl) (wI (D9 (K:=K) rfl) (Zm xS hr.m rfl (pc (pv 3) Zb)) (uP (ak sR Zj (Zn (Zx (K:=K) rfl) rfl T.nJ aoN (pc (pv 5) Zb)))) yt) (pv 5) (Zz _)))))),?_⟩
 refine hide λu1 e1=>?_
 refine ⟨_,rfl,t,_,_,_,rfl,rfl,aK.of et,Vt,_,rfl,pp,_,_,_,rfl,rfl,aK.of hpp,cK,_,_,rfl,rfl,⟨by lia,by lia⟩,gN ?_⟩
 subst e1
 try dsimp only
 refine hide λu1 e1=>?_
 refine ⟨_,rfl,pp,_,_,_,rfl,rfl,aK.of hpp,gS,tp,_,rfl,.inr (aK.of pa.top),?_⟩
 rw [xM]
 generalize hb:d.sp / g.size=b at *
 refine ⟨_,_,rfl,⟨by lia,by lia,by lia,by lia⟩,λlz uv=>?_⟩
 have en:((g.n:Int) - 1).toNat=g.n - 1:=by lia
 rw [en]
 obtain ⟨sq,Mh⟩:∃ sq:Nat->Bool,sq=λj=>decide (b∈(st.at_ j).seq):=⟨_,rfl⟩
 rw [← Mh] at hP
 refine wL (lo:=1) (n:=g.n - 1) (l:=lz) (λi ys σ G=>∃ (v0:Option V) (as:List Addr),σ=[v0,some (.int b),some (.ref A.p)]/\ys=as.map V.ref/\as.length=(iF sq b 1 i).length/\(∀ (j:Nat) (a:Addr) (p:Int×Int),as[j]?=some a->(iF sq b 1 i)[j]?=some p->G a=some (.tup [.int p.1,.int p.2]))/\G lz=some (.lst ys)/\az H G)
  ⟨none,[],rfl,rfl,rfl,λj a p e=>by simp at e,Za,Zd uv _⟩ ?_ ?_
 .rintro i ys σ G hi hys ⟨v0,as,rfl,rfl,hl1,jP,gl,s2⟩
  have e0:(1:Int)+(i:Int)=((1+i:Nat):Int):=by lia
  have hi':1+i<g.n:=by lia
  rw [e0]
  refine ⟨_,rfl,_,rfl,A.p,dx,_,rfl,s2 _ _ ob,aD ..,_,rfl,A,g,st,os,n,1+i,rfl,R.same s2,hi',R.few hi' hU,λD bs hD pb _=>⟨D,_,rfl,.inl (aB.of Za),rfl,Qd,?_⟩⟩
  have ei:vI (V.int b) (bs.map V.int)=sq (1+i):=by rw [N7,Mh]; exact decide_eq_decide.mpr pb.mem_iff
  have dq:iF sq b 1 (i+1)=iF sq b 1 i++(if sq (1+i)=true then [(((1+i:Nat):Int),b)] else []):=rfl
  have s3:=Zd hD (.lst (bs.map V.int))
  refine ⟨_,rfl,?_⟩
  show ite (vI (V.int b) (bs.map V.int)=true) _ _
  rw [ei]
  generalize upd G D (.lst (bs.map V.int))=G3 at *
  cases c:sq (1+i) with
  | false =>
   rw [c,aM3 aBC,bcu] at dq
   exact cF rfl (rR.of hi hys ⟨_,as,rfl,rfl,by rw [dq]; exact hl1,λj a p e1 e2=>s3 _ _ (jP j a p e1 (by rw [dq] at e2; exact e2)),s3 _ _ gl,s2.trans s3⟩)
  | true =>
   rw [c,abw rfl] at dq
   refine fk rfl ⟨_,rfl,_,rfl,(sl 2),λtq Al=>?_⟩
   have s4:=s3.trans (Zd Al (.tup [.int ((1+i:Nat):Int),.int b]))
   have xY:=s4 _ _ gl
   exact jR.of (a9L (ZA (by lia))) hi hys xY ⟨_,as++[tq],rfl,by rw [aIV]; rfl,by rw [dq,aCv,aCv,hl1]; rfl,by rw [dq]; exact Ju hl1 (λj a p e1 e2=>s4 _ _ (jP j a p e1 e2)) Za xY _,Za,λx o e=>by rw [Zc (Ze e uv)]; exact s4 _ _ (s2 _ _ e)⟩
 rintro ys σ G _ ⟨v0,as,rfl,rfl,hl1,jP,gl,s2⟩
 refine ⟨_,rfl,pp,_,_,_,rfl,rfl,aK.of (s2 _ _ hpp),gS,tp,_,rfl,.inr (aK.of (s2 _ _ pa.top)),_,rfl,(sl 2),λtq Al=>⟨(sl 1),λlq Mr=>?_⟩⟩
 rw [xM] at Mr ⊢
 have dl:=OH (sq:=sq) (b:=b) (k:=1) (r:=g.n - 1)
 have s3:=Zd Al (.tup [.int (g.n:Int),.int b])
 have U6:=Za (H:=G) (a:=tq) (o:=.tup [.int (g.n:Int),.int b])
 generalize upd G tq (.tup [.int (g.n:Int),.int b])=G3 at *
 have s4:=Zd Mr (.lst [.ref tq])
 have Vb:=Za (H:=G3) (a:=lq) (o:=.lst [.ref tq])
 generalize upd G3 lq (.lst [.ref tq])=G4 at *
 refine ⟨lz,lq,_,_,rfl,rfl,s4 _ _ (s3 _ _ gl),Vb,(by rw [aK1,hl1]; exact a9L (ZA (by show _+1<=1000; lia))),λlr hlr=>gN ?_⟩
 subst e1
 try dsimp only
 have s5:=s4.trans (Zd hlr (.lst (as.map V.ref++[.ref tq])))
 have HC:iF sq b 1 (g.n - 1)++[((g.n:Int),b)]=aN es:=by rw [hP,NB,show 1+(g.n - 1)=g.n by lia]
 have pr:jy (upd G4 lr (.lst (as.map V.ref++[.ref tq]))) lr (aN es):=by
  rw [← HC]
  refine ⟨as++[tq],by rw [aIV]; exact Za,by rw [aCv,aCv,hl1]; rfl,?_⟩
  have xY:=s4 _ _ (s3 _ _ gl)
  intro j a p e1 e2
  have h0:=Ju (l:=lz) (zs:=as.map V.ref) hl1 (λj a p e1 e2=>s4 _ _ (s3 _ _ (jP j a p e1 e2))) (p:=((g.n:Int),b)) (s4 _ _ U6) xY j a p e1 e2
  have nz:a≠lz:=λz=>by rw [z,Za] at h0; cases h0
  rw [Zc nz] at h0
  exact Zd hlr _ _ _ h0
 generalize upd G4 lr (.lst (as.map V.ref++[.ref tq]))=G5 at *
 have lP:(aN es).length<=5:=by rw [← HC,aCv]; show _+1<=5; lia
 have FD:=s2.trans (s3.trans s5)
 refine ⟨_,rfl,le,g.n,es,rfl,ev.frame (λo e=>FD _ _ e) λx ys e=>FD _ _ e,l9,λD G6 s6 pD=>?_⟩
 obtain ⟨bs,b1,b2,b3⟩:=pr.same s6
 obtain ⟨cs,c1,c2,c3⟩:=pD
 have lb:(bs.map V.ref).length=(aN es).length:=by rw [aK1,b2]
 refine ⟨_,rfl,lr,_,rfl,.inl (aB.of b1),_,_,rfl,rfl,_,rfl,D,_,rfl,aB.of c1,λl5 UA=>?_⟩
 rw [lb]
 have Ug:1<=(aN es).length:=by rw [← HC,aCv]; show 1<=_+1; lia
 rw [W7 (cs.map V.ref) (aN es).length (by rw [aK1,c2]) Ug]
 have s7:=Zd UA (.lst (cs.map V.ref))
 refine ⟨_,rfl,l5,lr,_,_,λ_=>true,rfl,rfl,V8 c2 b2 (λj a q e1 e2=>s7 _ _ (c3 j a q e1 e2)) (λj a q e1 e2=>s7 _ _ (b3 j a q e1 e2)),aB.of Za,aB.of (s7 _ _ b1),.inl ⟨by rw [aK1,aK1,c2,b2],?_⟩⟩
 show Q (V.bl ((List.range _).all λ_=>true)) _
 rw [show ∀ n,(List.range n).all (λ_=>true)=true from λn=>by rw [aXt]; intro _ _; rfl]
 exact q _ (FD.trans (s6.trans s7))
end
structure W5 (K:W.Frag) (H G:Hp) (b pp tp lo:Addr) (bX:List Addr) (g:aP) (A:TA) (os:OS) (st:aq) (ns:List Int):Prop where
 rd:BL K G A g st os
 nv:G lo=some (.lst (ns.map V.int))
 pl:G pp=some (.tup [.int g.size,.str g.kind,.ref tp])
 pa:bI K G tp bX g.aF
 kp:SB b H G
 nw:∀ x,OW A os x->H x=none
 of:¬ OW A os b/\¬ OW A os lo
 nb:lo≠b
section
variable {K:W.Frag} {H G G1:Hp} {b pp tp lo:Addr} {bX:List Addr} {g:aP} {A:TA} {os:OS} {st:aq} {ns:List Int} {a q c:Int}
theorem W5.sb (w:W5 K H G b pp tp lo bX g A os st ns) (B:aG G b a q c) (s:SB b G G1):W5 K H G1 b pp tp lo bX g A os st ns:=by
 have nt:∀ {x ys},G x=some (.tup ys)->x≠b:=λ{x ys} e z=>by rw [z,B.at'] at e; cases e
 refine ⟨w.rd.frame λx o e z=>s x o (λy=>?_) e,s _ _ w.nb w.nv,s _ _ (nt w.pl) w.pl,w.pa.frame λx ys e=>s _ _ (nt e) e,w.kp.trans s,w.nw,w.of,w.nb⟩
 subst y
 rcases z with z | z
 .exact w.of.1 z
 .rw [B.at'] at e; cases e; exact z trivial
theorem W5.same (w:W5 K H G b pp tp lo bX g A os st ns) (B:aG G b a q c) (s:az G G1):W5 K H G1 b pp tp lo bX g A os st ns:=w.sb B (s.sb b)
theorem W5.new (w:W5 K H G b pp tp lo bX g A os st ns) (B:aG G b a q c) {x:Addr} (h:G x=none):H x=none:=by
 cases e:H x with
 | none=>rfl
 | some o =>
  by_cases z:x=b
  .rw [z,B.at'] at h; cases h
  .rw [w.kp x o z e] at h; cases h
theorem W5.fm (w:W5 K H G b pp tp lo bX g A os st ns) (B:aG G b a q c) {A':TA} {os':OS} {st':aq} (R:BL K G1 A' g st' os') (t:bV (OW A os) G G1 (OW A' os')):W5 K H G1 b pp tp lo bX g A' os' st' ns/\aG G1 b a q c:=by
 obtain ⟨l1,l2⟩:=t.out w.nv w.of.2
 obtain ⟨b1,b2⟩:=t.out B.at' w.of.1
 refine ⟨⟨R,l1,tups t w.pl,w.pa.frame λx ys e=>tups t e,λx o n e=>t.kp x o (w.kp x o n e) (λz=>?_),λx z=>?_,⟨b2,l2⟩,w.nb⟩,⟨b1,B.a0,B.q0,B.q1,B.c0⟩⟩
 .have z:=w.nw x z
  rw [z] at e; cases e
 .exact (t.fr x z).elim (λz=>w.nw x z) λz=>w.new B z
theorem W5.book (w:W5 K H G b pp tp lo bX g A os st ns) (B:aG G b a q c) {d:Addr} {kv:List (Key×V)} (ed:G d=some (.dK kv)) (no:¬ OW A os d) (hn:H d=none) (s:∀ x o,x≠d->G x=some o->G1 x=some o):W5 K H G1 b pp tp lo bX g A os st ns/\aG G1 b a q c:=by
 have nt:∀ {x ys},G x=some (.tup ys)->x≠d:=λ{x ys} e z=>by rw [z,ed] at e; cases e
 have nl:∀ {x ys},G x=some (.lst ys)->x≠d:=λ{x ys} e z=>by rw [z,ed] at e; cases e
 refine ⟨⟨w.rd.frame λx o e z=>s x o (λy=>?_) e,s _ _ (nl w.nv) w.nv,s _ _ (nt w.pl) w.pl,w.pa.frame λx ys e=>s _ _ (nt e) e,λx o n e=>s _ _ (λz=>?_) (w.kp x o n e),w.nw,w.of,w.nb⟩,⟨s _ _ (nl B.at') B.at',B.a0,B.q0,B.q1,B.c0⟩⟩
 .subst y
  rcases z with z | z
  .exact no z
  .rw [ed] at e; cases e; exact z trivial
 .rw [z,hn] at e; cases e
theorem W5.made {A0:TA} {om:OS} {H3 H5:Hp} (u:SB b H H3) (B:aG H3 b a q c) (hO:∀ x,OW A0 om x->H3 x=none) (m:az H3 H5) (R:af K H5 A0 g (oO g.n) om 0) (nv:H3 lo=some (.lst (ns.map V.int))) (pl:H3 pp=some (.tup [.int g.size,.str g.kind,.ref tp])) (pa:bI K H3 tp bX g.aF) (nb:lo≠b):W5 K H H5 b pp tp lo bX g A0 om (oO g.n) ns :=
 ⟨⟨R,λ_=>Yb⟩,m _ _ nv,m _ _ pl,pa.same m,u.trans (m.sb b),λx z=>Pr u B.at' (hO x z),⟨λz=>(by have z:=hO b z; rw [B.at'] at z; cases z),λz=>(by have z:=hO lo z; rw [nv] at z; cases z)⟩,nb⟩
end
structure Hd (K:W.Frag) (H:Hp) (b pp tp lo:Addr) (bX:List Addr) (g:aP) (ns:List Int) (a q c:Int):Prop where
 box:aG H b a q c
 cb:c<=100000
 pl:H pp=some (.tup [.int g.size,.str g.kind,.ref tp])
 pa:bI K H tp bX g.aF
 wf:WF g
 z1:g.size<=16
 gU:g.U=(9999 / g.size) :: ns
 nv:H lo=some (.lst (ns.map V.int))
 nb:lo≠b
 n3:1<=ns.length
 uf:ns.length<=20
 vm:∀ x∈ns,0<=x/\x<=100000
 tb:Tb K H
section
def yV (K:W.Frag):Sp:=λvs H Q _=>∃ (b pp tp lo:Addr) (bX:List Addr) (g:aP) (ns:List Int) (a q c:Int),vs=[.ref b,.ref pp,.ref lo]/\Hd K H b pp tp lo bX g ns a q c/\Tr g 0 /\
 ∀ (a' c':Int) (H':Hp),aG H' b a' q c'->c'<=c+1300->SB b H H'->Q (.bl true) H'
theorem ZeA (F:aY K "_law_through_right" "_law_through_right" EG f fd) (T:Txt K mg) (wV:nG P w K mg base (aa K "Stairs") "Stairs" 6 Er (Jz K)) (xR:Def P w K mg base "_law_many" 2 Dt HY) (xQ:Def P w K mg base "_law_deed" 3 Du IW) (xA:ay P w K mg base (aa K "Stairs") "write" 15 EE (IX K)) (xu:ay P w K mg base (aa K "Stairs") "read" 15 Ep (HZ K)) (E5:Def P w K mg base "_law_write_right" 3 Kd (yU K)) (xS:Def P w K mg base "_law_puts" 1 Dr (IK K)) (Gq:Def P w K mg base "_law_pairs" 1 Iw (OL K)) (Q4:∀ n,Def P w K mg base "_law_same" (n+1) uJ (DC n)) (EK:ay P w K mg base (aa K "Stairs") "memory" 2 K4 (OM K)) (vc:ay P w K mg base (aa K "Stairs") "changed" 2 Ex (JE K)):av P w K mg base aV 17 f fd K8 (yV K):=by
 refine F.ok dB (λvs H Q E h=>?_) (λcdv A outer s0 H vs Q E hr h=>?_)
 .obtain ⟨b,pp,tp,lo,bX,g,ns,a,q,c,rfl,_⟩:=h
  rfl
 obtain ⟨b,pp,tp,lo,bX,g,ns,a,q,c,rfl,h0,tr,k⟩:=h
 have nd:=dB.nd
 have hu:=bT hr
 have xT:=Q4 2
 refine ⟨_,(Zf (mH (jI (pc (Be wV hr.m rfl (pc (pv 1) Zb)) (pc Bg Zb))) (mJ (K:=K) (n:=2) rfl rfl (Zt (bZ 3 nd) (Zt (bZ 4 nd) mK))))
   (Zf (rJ aan rfl (tE rfl T.lE (pc (Zm xR hr.m rfl (pc (pv 0) (pc Zj (pc Zj Zb)))) Zb)) (bZ 5 nd) (Zf (cI 6 nd (Zm xQ hr.m rfl (pc (pv 0) (pc (ao (ZB (K:=K) rfl) (pv 1) Zj (λ_ _=>rfl)) (pc (pv 2) Zb)))))
   (Zf (aI (Zy aU (ao (ZB (K:=K) rfl) (pv 6) Zj (λ_ _=>rfl)) ZM (Zz _)) (Zf (Ba hu (pv 4) (ao (ZB (K:=K) rfl) (pv 6) Zj (λ_ _=>rfl)) (ao (ZB (K:=K) rfl) (pv 6) Zj (λ_ _=>rfl)) rfl)
   (Zi (aI (wB (jJ (Zm E5 hr.m rfl (pc (pv 3) (pc (pv 1) (pc (pv 6) (pc (Zk xA hr.m T.aR (pv 3) (pc (ao (ZB (K:=K) rfl) (pv 6) Zj (λ_ _=>rfl)) (pc (ao (ZB (K:=K) rfl) (pv 6) Zj (λ_ _=>rfl)) Zb))) Zb))))))) (Zi (Zu dM)) Zv))) (Zf (mH (Zk xu hr.m T.aR (pv 3) (pc (ao (ZB (K:=K) rfl) (pv 6) Zj (λ_ _=>rfl)) Zb)) (mJ (K:=K) (n:=2) rfl rfl (Zt (bZ 7 nd) (Zt (bZ 8 nd) mK))))
   (Zi (aI (PW.pt (pw_or (wB (jJ (Zm xT hr.m rfl (pc (pv 7) (pc (O0 hu (pv 4) (ao (ZB (K:=K) rfl) (pv 6) Zj (λ_ _=>rfl)) Zj ⟨rfl,rfl,rfl,rfl⟩) Zb))))) (DA (Zy (VW (K:=K) 1 (uo hr 1 (by decide)) rfl) (Zm xS hr.m rfl (pc (pv 8) Zb)) (j8 Zb) (Zz _))))) (Zi (Zu dM)) Zv))))
   (Zf (aI (wB (jJ (Zm xT hr.m rfl (pc (Br EK hr.m T.aR (pv 3)) (pc (Zm Gq hr.m rfl (pc (pv 4) Zb)) Zb))))) (Zi (Zu dM)) Zv)
   (Zi (aI (jJ (Zn (Qq rfl) rfl T.CT Pa (pc (uS (ZL (iZ:=(Zh EG)) (oN:=b9) (N:=["_law_k", "_law_stairs"]) (own:=1) (js:=[3]) (by decide +kernel) rfl rfl) rfl (tE rfl T.lE (pc (Zn (Zx (K:=K) rfl) rfl T.nJ aoN (pc (ao (ZB (K:=K) rfl) (pv 1) Zj (λ_ _=>rfl)) Zb)) Zb)) (λ_ _ _ _ _ _=>(bZ 0 (show List.Nodup (["_law_k", "_law_stairs"]:List Str) by decide +kernel))) (λ_ _ _ _ _ _=>(oK (NP (K:=K) (Nat.lt_of_succ_lt hu) rfl) (Zk vc hr.m T.aR (pv 1) (pc (pv 0) Zb)) (j8 Zb) (Zz _)))) Zb))) (Zi (Zu dM)) Zv))))))
   (Zi (Zu dM)))),?_⟩
 have z0:=h0.wf.z0
 have z1:=h0.z1
 have l1:1<=g.n:=h0.wf.l1
 have l4:g.n<=4:=h0.wf.l4
 have hs:0<g.size:=by lia
 have cb:=h0.cb
 have n3:=h0.n3
 have uf:=h0.uf
 have BJ:g.U.length<64:=by rw [h0.gU]; show ns.length+1<64; lia
 refine hide λu1 e1=>?_
 refine ⟨_,rfl,λp dx hp hdx xH=>?_⟩
 have m1:az H (upd (upd H dx (.own p)) p (.ins (aa K "Stairs") dx [])):=λx o e=>by rw [Zc (Ze e hp),Zc (Ze e hdx)]; exact e
 have hp1:=Za (H:=upd H dx (.own p)) (a:=p) (o:=.ins (aa K "Stairs") dx [])
 have vW:∀ x,upd (upd H dx (.own p)) p (.ins (aa K "Stairs") dx []) x=none->H x=none:=λx e=>m1.free e
 generalize upd (upd H dx (.own p)) p (.ins (aa K "Stairs") dx [])=H4 at *
 refine ⟨p,dx,pp,tp,g.size,g.kind,bX,g.aF,rfl,hp1,m1 _ _ h0.pl,h0.pa.same m1,h0.wf.l4,h0.tb.same m1,λA0 om H5 ep RS own k2=>⟨rfl,λbd hbd=>⟨(sl 2),λtt Mg=>⟨tt,_,rfl,aK.of Za,rfl,_,_,rfl,gN ⟨_,_,rfl,gN ⟨rfl,?_⟩⟩⟩⟩⟩⟩
 have m2:az H H5:=λx o e=>k2 x o (m1 _ _ e) (Ze e hp)
 have hO:∀ x,OW A0 om x->H x=none:=λx h=>by
  by_cases z:x=p
  .rw [z]; exact hp
  .exact vW x (own x h z)
 have m3:=(Zd hbd (.dK [])).trans (Zd Mg (.tup [.ref p,.ref bd]))
 have HB:=Zd Mg (.tup [.ref p,.ref bd]) _ _ (Za (H:=H5) (a:=bd) (o:=.dK []))
 have R5:=RS g.U h0.wf
 have Ge:=R5.fresh hbd
 have Hi:H bd=none:=m2.free hbd
 subst e1
 try dsimp only
 have w0:W5 K H _ b pp tp lo bX g A0 om (oO g.n) ns:=W5.made (λx o _ e=>e) h0.box hO (m2.trans m3) (R5.same m3) h0.nv h0.pl h0.pa h0.nb
 have B0:=h0.box.same (m2.trans m3)
 generalize upd (upd H5 bd (.dK [])) tt (.tup [.ref p,.ref bd])=H6 at *
 rw [show V.ref p=V.ref A0.p by rw [ep]]
 clear RS own k2 m1 hp1 vW m3 R5 hO
 refine hide λu1 e1=>?_
 refine ⟨_,rfl,b,a,q,c,30,100,rfl,B0,by lia,by decide,by decide,by decide,λmn a4 c4 H9 m0 T4 B9 hc4 t4=>⟨_,rfl,by lia,by lia,Bt (lo:=0) (n:=mn.toNat) (λi σ G=>∃ (v5 v6 v7 v8:Option V) (A:TA) (os:OS) (st:aq) (bk:Int->Int) (a' c':Int),σ=[some (.ref b),some (.ref pp),some (.ref lo),some (.ref A0.p),some (.ref bd),v5,v6,v7,v8]/\A.p=A0.p/\W5 K H G b pp tp lo bX g A os st ns/\bw g st/\(∀ x,Fx g bk x st)/\NF 0 st/\kX G bd bk i/\¬ OW A os bd/\aG G b a' q c'/\c'<=c4+12 * (i:Int))
  ⟨_,_,_,_,A0,om,_,_,a4,c4,rfl,rfl,w0.sb B0 t4,kO.1,kO.2,M6,⟨[],t4 _ _ (λz=>by rw [z,B0.at'] at HB; cases HB) HB,⟨aEt _,KI.nil⟩,λs=>rfl⟩,Ge,B9,by lia⟩ ?_ ?_⟩⟩
 .rintro i σ G hi ⟨v5,v6,v7,v8,A,os,st,bk,a',c',rfl,eA,w,ok,fx,nf,AH,rE,B',hc'⟩
  refine gN ?_
  refine uz λD' Ax=>?_
  try dsimp only
  rw [← eA] at Ax ⊢
  refine hide λu1 e1=>?_
  refine ⟨_,rfl,_,rfl,pp,_,_,_,rfl,rfl,aK.of w.pl,cK,_,rfl,b,lo,a',q,c',g.size,ns,rfl,B',h0.nb,by lia,z0,z1,w.nv,by lia,uf,h0.vm,λt d a5 c5 G1 et S9 iU B5 hc5 s5=>gN ?_⟩
  subst e1
  try dsimp only
  have w:=w.sb B' s5
  have bU:d.sp / g.size∈g.U:=by rw [h0.gU]; exact iU
  have Mv:st.ev=[]:=bbz (Nat.le_zero.mp w.rd.at_.sO)
  have Vr:b≠bd:=λz=>by obtain ⟨kvs,e,_⟩:=AH; rw [← z,B'.at'] at e; cases e
  have AH:=AH.frame λo e=>s5 _ _ (a4v Vr) e
  have xM:(bX.map V.ref).length=g.n:=by rw [aK1,w.pa.len]; rfl
  have xJ:=Od (d:=d) tr l1 ok.len nf
  refine hide λu1 e1=>?_
  have rest:∀ (G:Hp) (v7 v8:Option V) (e':Addr) (os':OS),W5 K H G b pp tp lo bX g (A.re e') os' (kP (bD g d st)) ns->bw g (kP (bD g d st))->(∀ x,Fx g (AR bk d) x (kP (bD g d st)))->kX G bd (AR bk d) (i+1)->¬ OW (A.re e') os' bd->aG G b a5 q c5->u1 D' [some (.ref b),some (.ref pp),some (.ref lo),some (.ref A.p),some (.ref bd),some (.int (0+(i:Int))),some (.ref t),v7,v8] G:=by
   intro G v7 v8 e' os' w2 F0 C5 AG F8 B6
   subst e1
   try dsimp only
   obtain ⟨dx,ob⟩:=w2.rd.at_.ob
   refine hide λu1 e1=>?_
   refine ⟨_,rfl,A.p,dx,_,rfl,ob,aD ..,A.re e',g,_,os',0,rfl,w2.rd.at_,λD ps G6 hD s8 pD pL=>⟨_,rfl,bd,AR bk d,i+1,rfl,AG.frame λo e=>s8 _ _ e,by lia,λD2 ps2 G7 s9 S5 S0 lp=>?_⟩⟩
   have ep:ps=ps2:=(pL.congr λs=>W9 hs xJ C5 s).uniq S0
   subst ep
   refine ⟨_,_,rfl,(pD.same s9).eqv S5 lp,λG8 FE=>⟨_,rfl,cF rfl ?_⟩⟩
   subst e1
   try dsimp only
   dsimp only [gk]
   have FA:=s8.trans (s9.trans FE)
   have w3:=w2.same B6 FA
   refine ⟨_,rfl,pp,_,_,_,rfl,rfl,aK.of w3.pl,gS,tp,_,rfl,.inr (aK.of w3.pa.top),_,rfl,?_⟩
   rw [xM]
   refine ⟨by lia,by lia,λly Ao=>?_⟩
   have F1:=FA _ _ ob
   refine wL (lo:=0) (n:=(g.n:Int).toNat) (l:=ly) (λj ys σ G=>∃ v0:Option V,σ=[v0,some (.ref A.p)]/\ys=(List.replicate j false).map V.bl/\G ly=some (.lst ys)/\az G8 G) ⟨none,rfl,rfl,Za,Zd Ao _⟩ ?_ ?_
   .rintro j ys σ G9 hj hys ⟨v0,rfl,rfl,gl,n5⟩
    have e0:(0:Int)+(j:Int)=(j:Int):=by lia
    rw [e0]
    refine ⟨_,rfl,A.p,dx,_,rfl,n5 _ _ F1,aD ..,_,rfl,A.re e',g,_,os',0,j,rfl,w3.rd.at_.same n5,by lia,BJ,λD cs hD mem zZ pw=>⟨(sl 0),λl0 qE=>?_⟩⟩
    have ce:cs=[]:=List.eq_nil_iff_forall_not_mem.mpr λx hx=>by
     have:=(mem x).mp hx
     rw [show ((kP (bD g d st)).at_ j).fr x=false from xJ j x (aUM _)] at this
     cases this
    subst ce
    have s12:=(Zd hD (.lst (List.map V.int []))).trans (Zd qE (.lst []))
    refine ⟨D,l0,[],[],rfl,rfl,aB.of (Zd qE _ _ _ Za),aB.of Za,?_⟩
    exact jR.of (a9L (ZA (by lia))) hj hys (s12 _ _ gl) ⟨_,rfl,by rw [aWn,aIV]; rfl,Za,λx o e=>by rw [Zc (Ze e Ao)]; exact s12 _ _ (n5 _ _ e)⟩
   rintro ys σ G9 _ ⟨v0,rfl,rfl,gl,n5⟩
   refine ⟨ly,_,rfl,aB.of gl,_,rfl,?_⟩
   rw [show (List.replicate (g.n:Int).toNat false).any id=false by rw [any_eq_false]; intro z hz; rw [(ag9.mp hz).2]; exact aBC]
   refine cF rfl ?_
   dsimp only [gk]
   have Fz:=FA.trans n5
   exact Ax _ _ ⟨_,_,_,_,A.re e',os',_,_,a5,c5,rfl,rfl,w2.same B6 Fz,F0,C5,xJ,AG.frame λo e=>Fz _ _ e,F8,B6.same Fz,by lia⟩
  obtain ⟨dx,ob⟩:=w.rd.at_.ob
  obtain ⟨kvs,h1,h2,h3⟩:=AH
  have zL:t≠bd:=λz=>by rw [z,h1] at et; cases et
  cases d with
  | wt sp v =>
   refine ⟨_,rfl,t,_,_,_,rfl,rfl,aK.of et,cK,rfl,_,rfl,fk (aea rfl) ?_⟩
   refine ⟨_,rfl,t,_,_,_,rfl,rfl,aK.of et,gS,_,rfl,_,rfl,t,_,_,_,rfl,rfl,aK.of et,gj,bd,_,rfl,jE.k (k:=Sum.inl sp) h1 (ZA (by have:=h2.1; lia)),?_⟩
   have off:∀ x o,x≠bd->G1 x=some o->upd G1 bd (.dK (putK kvs (Sum.inl sp) (V.int v))) x=some o:=λx o n e=>by rw [Zc n]; exact e
   obtain ⟨w1,B6⟩:=w.book B5 h1 rE Hi off
   have MY:=kX.put (H:=G1) (bd:=bd) h2 h3 sp v
   have AD:=off _ _ zL et
   generalize upd G1 bd (.dK (putK kvs (Sum.inl sp) (V.int v)))=G2 at *
   obtain ⟨iD,Tn⟩:=w1.rd.at_.ob
   refine ⟨_,rfl,_,rfl,_,rfl,_,rfl,A.p,iD,_,rfl,Tn,aD ..,_,rfl,t,_,_,_,rfl,rfl,aK.of AD,gj,_,rfl,t,_,_,_,rfl,rfl,aK.of AD,gS,A,g,st,os,sp,v,rfl,w1.rd.at_,w1.rd.dj,bU,λG3 e' gO r1 r2 r3 r4 r5 r6 r7=>?_⟩
   obtain ⟨w2,B7⟩:=w1.fm B6 (A':=A.re e') (os':=gO) (st':=kP (bD g (.wt sp v) st)) ⟨r1,r6⟩ r5
   have hb:(Dd.wt sp v).sp / g.size∈((Zw g ((Dd.wt sp v).sp / g.size) st).at_ 0).seq:=by rw [← (IV (g:=g) (d:=.wt sp v) (st:=st)).sq 0]; exact r7
   obtain ⟨o2,f2⟩:=DV (d:=.wt sp v) hs l1 ok w.rd.dj hb fx
   have TU:¬ OW (A.re e') gO bd:=by obtain ⟨kv,e,_⟩:=MY; exact (r5.out e rE).2
   refine ⟨A.re e',g,_,gO,0,pp,tp,bX,t,A.ev,.wt sp v,_,rfl,w2.rd.at_,w2.pl,w2.pa,tups r5 AD,r2,by lia,BJ,ZkS tr l1 nf Mv,λG4 s4=>⟨_,rfl,cF rfl ?_⟩⟩
   dsimp only [gk]
   exact rest G4 _ _ e' gO (w2.same B7 s4) o2 f2 (MY.frame λo e=>s4 _ _ (r5.out e rE).1) TU (B7.same s4)
  | rd sp =>
   refine ⟨_,rfl,t,_,_,_,rfl,rfl,aK.of et,cK,rfl,_,rfl,cF (by decide +kernel) ?_⟩
   refine hide λu2 e2=>?_
   refine ⟨_,rfl,A.p,dx,_,rfl,ob,aD ..,_,rfl,t,_,_,_,rfl,rfl,aK.of et,gj,A,g,st,os,sp,rfl,w.rd.at_,w.rd.dj,bU,λG2 e' gO tp' MX r1 r2 r3 r4 r5 r6 r7=>⟨tp',_,rfl,aK.of MX,rfl,_,_,rfl,gN ⟨_,_,rfl,gN ⟨rfl,?_⟩⟩⟩⟩
   subst e2
   try dsimp only
   obtain ⟨w2,B7⟩:=w.fm B5 (A':=A.re e') (os':=gO) (st':=kP (bD g (.rd sp) st)) ⟨r1,r6⟩ r5
   obtain ⟨o1,f1⟩:=JF (b:=sp / g.size) hs l1 ok w.rd.dj fx
   rw [Yw hs l1 r7 f1]
   obtain ⟨o2,f2⟩:=DV (d:=.rd sp) hs l1 ok w.rd.dj r7 fx
   obtain ⟨hb1,TV⟩:=r5.out h1 rE
   have AD:=tups r5 et
   refine ⟨_,rfl,_,rfl,bd,rfl,.inl ⟨_,.inl hb1⟩,_,rfl,t,_,_,_,rfl,rfl,aK.of AD,gj,_,eB.k (k:=Sum.inl sp) hb1,?_⟩
   rw [h3]
   refine ⟨_,_,rfl,Eqv.sc (x:=.int _) trivial 2,λG3 s3=>⟨_,rfl,cF rfl ?_⟩⟩
   have zp:aN (Zw g (sp / g.size) st).ev=[]:=(Oc (g:=g) (b:=sp / g.size) nf Mv).2
   refine ⟨_,rfl,A.ev,g.n,_,rfl,r2.frame (λo e=>s3 _ _ e) λx ys e=>s3 _ _ e,by lia,λD G4 s4 pD=>⟨(sl 0),λl0 qE=>?_⟩⟩
   rw [zp] at pD
   obtain ⟨as,d1,d2,_⟩:=pD
   rw [bbz d2] at d1
   have s5:=s4.trans (Zd qE (.lst []))
   refine ⟨D,l0,[],[],λ_=>true,rfl,rfl,λi u v h _=>by simp at h,aB.of (Zd qE _ _ _ d1),aB.of Za,.inl ⟨rfl,_,rfl,cF rfl ?_⟩⟩
   dsimp only [gk]
   have rW:=s3.trans s5
   exact rest _ _ _ e' gO (w2.same B7 rW) o2 f2 ⟨kvs,rW _ _ hb1,⟨by have:=h2.1; lia,h2.2⟩,h3⟩ TV (B7.same rW)
 .rintro σ G ⟨v5,v6,v7,v8,A,os,st,bk,a',c',rfl,eA,w,ok,fx,nf,AH,rE,B',hc'⟩
  subst e1
  exact k a' c' G B' (by lia) w.kp
end
section
def yW (K:W.Frag):Sp:=λvs H Q _=>∃ (b pp tp lo:Addr) (bX:List Addr) (g:aP) (ns:List Int) (a q c:Int),vs=[.ref b,.ref pp,.ref lo]/\Hd K H b pp tp lo bX g ns a q c/\Tr g 1/\(g.cf 0).late=true /\
 ∀ (H':Hp),SB b H H'->Q (.bl true) H'
theorem ZgY (F:aY K "_law_late_right" "_law_late_right" Eu f fd) (T:Txt K mg) (wV:nG P w K mg base (aa K "Stairs") "Stairs" 6 Er (Jz K)) (xR:Def P w K mg base "_law_many" 2 Dt HY) (xQ:Def P w K mg base "_law_deed" 3 Du IW) (xA:ay P w K mg base (aa K "Stairs") "write" 15 EE (IX K)) (xu:ay P w K mg base (aa K "Stairs") "read" 15 Ep (HZ K)) (vc:ay P w K mg base (aa K "Stairs") "changed" 2 Ex (JE K)):av P w K mg base aV 17 f fd Ks (yW K):=by
 refine F.ok gq (λvs H Q E h=>?_) (λcdv A outer s0 H vs Q E hr h=>?_)
 .obtain ⟨b,pp,tp,lo,bX,g,ns,a,q,c,rfl,_⟩:=h
  rfl
 obtain ⟨b,pp,tp,lo,bX,g,ns,a,q,c,rfl,h0,tr,T7,k⟩:=h
 have nd:=gq.nd
 have hu:=bT hr
 refine ⟨_,(Zf (cI 3 nd (Be wV hr.m rfl (pc (pv 1) Zb)))
   (Zf (rJ aan rfl (tE rfl T.lE (pc (Zm xR hr.m rfl (pc (pv 0) (pc Zj (pc Zj Zb)))) Zb)) (bZ 4 nd) (Zf (cI 5 nd (Zm xQ hr.m rfl (pc (pv 0) (pc (ao (ZB (K:=K) rfl) (pv 1) Zj (λ_ _=>rfl)) (pc (pv 2) Zb)))))
   (Zf (aI (Zy aU (ao (ZB (K:=K) rfl) (pv 5) Zj (λ_ _=>rfl)) ZM (Zz _)) (Zi (Zp (Zk xA hr.m T.aR (pv 3) (pc (ao (ZB (K:=K) rfl) (pv 5) Zj (λ_ _=>rfl)) (pc (ao (ZB (K:=K) rfl) (pv 5) Zj (λ_ _=>rfl)) Zb))))) (Zi (Zp (Zk xu hr.m T.aR (pv 3) (pc (ao (ZB (K:=K) rfl) (pv 5) Zj (λ_ _=>rfl)) Zb)))))
   (Zf (aI (jJ (Zn (Qq rfl) rfl T.CT Pa (pc (uS (ZL (iZ:=(Zh Eu)) (oN:=d9) (N:=["_law_k", "_law_stairs"]) (own:=1) (js:=[3]) (by decide +kernel) rfl rfl) rfl (JT rfl T.lE (pc Zj (pc (Zn (Zx (K:=K) rfl) rfl T.nJ aoN (pc (ao (ZB (K:=K) rfl) (pv 1) Zj (λ_ _=>rfl)) Zb)) Zb))) (λ_ _ _ _ _ _=>(bZ 0 (show List.Nodup (["_law_k", "_law_stairs"]:List Str) by decide +kernel))) (λ_ _ _ _ _ _=>(oK (NP (K:=K) (Nat.lt_of_succ_lt hu) rfl) (Zk vc hr.m T.aR (pv 1) (pc (pv 0) Zb)) (j8 Zb) (Zz _)))) Zb))) (Zi (Zu dM)) Zv)
   (Zi (aI (PW.pt (Ip (Zy aU (ao (ZB (K:=K) rfl) (pv 5) Zj (λ_ _=>rfl)) ZM (Zz _)) (IG (Zy (Kr (K:=K) rfl) (ak uQ (ao (ZB (K:=K) rfl) (pv 5) Zj (λ_ _=>rfl)) (ao (ZB (K:=K) rfl) (pv 1) Zj (λ_ _=>rfl))) (Zk vc hr.m T.aR (pv 3) (pc Zj Zb)) rfl)))) (Zi (Zu dM)) Zv))))))
   (Zi (Zu dM)))),?_⟩
 have z0:=h0.wf.z0
 have z1:=h0.z1
 have l1:1<=g.n:=h0.wf.l1
 have l4:g.n<=4:=h0.wf.l4
 have hs:0<g.size:=by lia
 have cb:=h0.cb
 have n3:=h0.n3
 have uf:=h0.uf
 have BJ:g.U.length<64:=by rw [h0.gU]; show ns.length+1<64; lia
 refine hide λu1 e1=>?_
 refine ⟨_,rfl,λp dx hp hdx xH=>?_⟩
 have m1:az H (upd (upd H dx (.own p)) p (.ins (aa K "Stairs") dx [])):=λx o e=>by rw [Zc (Ze e hp),Zc (Ze e hdx)]; exact e
 have hp1:=Za (H:=upd H dx (.own p)) (a:=p) (o:=.ins (aa K "Stairs") dx [])
 have vW:∀ x,upd (upd H dx (.own p)) p (.ins (aa K "Stairs") dx []) x=none->H x=none:=λx e=>m1.free e
 generalize upd (upd H dx (.own p)) p (.ins (aa K "Stairs") dx [])=H4 at *
 refine ⟨p,dx,pp,tp,g.size,g.kind,bX,g.aF,rfl,hp1,m1 _ _ h0.pl,h0.pa.same m1,h0.wf.l4,h0.tb.same m1,λA0 om H5 ep RS own k2=>⟨rfl,gN ?_⟩⟩
 have m2:az H H5:=λx o e=>k2 x o (m1 _ _ e) (Ze e hp)
 have hO:∀ x,OW A0 om x->H x=none:=λx h=>by
  by_cases z:x=p
  .rw [z]; exact hp
  .exact vW x (own x h z)
 have R5:=RS g.U h0.wf
 subst e1
 try dsimp only
 have w0:W5 K H _ b pp tp lo bX g A0 om (oO g.n) ns:=W5.made (λx o _ e=>e) h0.box hO m2 R5 h0.nv h0.pl h0.pa h0.nb
 have B0:=h0.box.same m2
 rw [show V.ref p=V.ref A0.p by rw [ep]]
 clear RS own k2 m1 hp1 vW R5 hO
 refine hide λu1 e1=>?_
 refine ⟨_,rfl,b,a,q,c,30,100,rfl,B0,by lia,by decide,by decide,by decide,λmn a4 c4 H9 m0 T4 B9 hc4 t4=>⟨_,rfl,by lia,by lia,Bt (lo:=0) (n:=mn.toNat) (λi σ G=>∃ (v5 v6:Option V) (A:TA) (os:OS) (st:aq) (bk:Int->Int) (a' c':Int),σ=[some (.ref b),some (.ref pp),some (.ref lo),some (.ref A0.p),v5,v6]/\A.p=A0.p/\W5 K H G b pp tp lo bX g A os st ns/\bw g st/\(∀ x,Fx g bk x st)/\NF 1 st/\aG G b a' q c'/\c'<=c4+12 * (i:Int))
  ⟨_,_,A0,om,_,_,a4,c4,rfl,rfl,w0.sb B0 t4,kO.1,kO.2,M6,B9,by lia⟩ ?_ ?_⟩⟩
 .rintro i σ G hi ⟨v5,v6,A,os,st,bk,a',c',rfl,eA,w,ok,fx,nf,B',hc'⟩
  refine gN ?_
  refine uz λD' Ax=>?_
  try dsimp only
  rw [← eA] at Ax ⊢
  refine hide λu1 e1=>?_
  refine ⟨_,rfl,_,rfl,pp,_,_,_,rfl,rfl,aK.of w.pl,cK,_,rfl,b,lo,a',q,c',g.size,ns,rfl,B',h0.nb,by lia,z0,z1,w.nv,by lia,uf,h0.vm,λt d a5 c5 G1 et S9 iU B5 hc5 s5=>gN ?_⟩
  subst e1
  try dsimp only
  have w:=w.sb B' s5
  have bU:d.sp / g.size∈g.U:=by rw [h0.gU]; exact iU
  have xJ:=Od (d:=d) tr l1 ok.len nf
  have xM:(bX.map V.ref).length=g.n:=by rw [aK1,w.pa.len]; rfl
  refine hide λu1 e1=>?_
  obtain ⟨dx,ob⟩:=w.rd.at_.ob
  have rest:∀ (G:Hp) (e':Addr) (os':OS),W5 K H G b pp tp lo bX g (A.re e') os' (kP (bD g d st)) ns->bw g (kP (bD g d st))->(∀ x,Fx g (AR bk d) x (kP (bD g d st)))->aG G b a5 q c5->G t=some (.tup d.vs)->(∀ sp v,d=.wt sp v->((kP (bD g d st)).at_ 0).fr (sp / g.size)=true)->u1 D' [some (.ref b),some (.ref pp),some (.ref lo),some (.ref A.p),some (.int (0+(i:Int))),some (.ref t)] G:=by
   intro G e' os' w2 F0 C5 B6 et Sh
   subst e1
   try dsimp only
   refine hide λu1 e1=>?_
   obtain ⟨dx,ob⟩:=w2.rd.at_.ob
   refine ⟨_,rfl,pp,_,_,_,rfl,rfl,aK.of w2.pl,gS,tp,_,rfl,.inr (aK.of w2.pa.top),?_⟩
   rw [xM]
   refine ⟨_,_,rfl,⟨by lia,by lia,by lia,by lia⟩,λly Ao=>?_⟩
   refine wL (lo:=1) (n:=((g.n:Int) - 1).toNat) (l:=ly) (λj ys σ G9=>∃ v0:Option V,σ=[v0,some (.ref A.p)]/\ys=(List.replicate j false).map V.bl/\G9 ly=some (.lst ys)/\az G G9) ⟨none,rfl,rfl,Za,Zd Ao _⟩ ?_ ?_
   .rintro j ys σ G9 hj hys ⟨v0,rfl,rfl,gl,n5⟩
    have e0:(1:Int)+(j:Int)=((1+j:Nat):Int):=by lia
    rw [e0]
    refine ⟨_,rfl,A.p,dx,_,rfl,n5 _ _ ob,aD ..,_,rfl,A.re e',g,_,os',0,1+j,rfl,w2.rd.at_.same n5,by lia,BJ,λD cs hD mem zZ pw=>⟨(sl 0),λl0 qE=>?_⟩⟩
    have ce:cs=[]:=List.eq_nil_iff_forall_not_mem.mpr λx hx=>by
     have:=(mem x).mp hx
     rw [show ((kP (bD g d st)).at_ (1+j)).fr x=false from xJ (1+j) x (by lia)] at this
     cases this
    subst ce
    have s12:=(Zd hD (.lst (List.map V.int []))).trans (Zd qE (.lst []))
    refine ⟨D,l0,[],[],rfl,rfl,aB.of (Zd qE _ _ _ Za),aB.of Za,?_⟩
    exact jR.of (a9L (ZA (by lia))) hj hys (s12 _ _ gl) ⟨_,rfl,by rw [aWn,aIV]; rfl,Za,λx o e=>by rw [Zc (Ze e Ao)]; exact s12 _ _ (n5 _ _ e)⟩
   rintro ys σ G9 _ ⟨v0,rfl,rfl,gl,n5⟩
   refine ⟨ly,_,rfl,aB.of gl,_,rfl,?_⟩
   rw [show (List.replicate ((g.n:Int) - 1).toNat false).any id=false by rw [any_eq_false]; intro z hz; rw [(ag9.mp hz).2]; exact aBC]
   refine cF rfl ?_
   subst e1
   try dsimp only
   dsimp only [gk]
   have w3:=w2.same B6 n5
   have B7:=B6.same n5
   have et:=n5 _ _ et
   have end_:∀ G,az G9 G->D'.nx [some (.ref b),some (.ref pp),some (.ref lo),some (.ref A.p),some (.int (0+(i:Int))),some (.ref t)] G:=λG s12=>Ax _ _ ⟨_,_,A.re e',os',_,_,a5,c5,rfl,rfl,w3.same B7 s12,F0,C5,xJ,B7.same s12,by lia⟩
   cases d with
   | rd sp =>
    exact ⟨_,rfl,t,_,_,_,rfl,rfl,aK.of et,cK,rfl,_,rfl,cF (by decide +kernel) (cF rfl (end_ _ λ_ _ e=>e))⟩
   | wt sp v =>
    refine ⟨_,rfl,t,_,_,_,rfl,rfl,aK.of et,cK,rfl,_,rfl,fk (aea rfl) ?_⟩
    obtain ⟨vZ,F1⟩:=w3.rd.at_.ob
    refine ⟨_,rfl,t,_,_,_,rfl,rfl,aK.of et,gj,_,rfl,pp,_,_,_,rfl,rfl,aK.of w3.pl,cK,_,_,rfl,rfl,⟨hs,by lia⟩,_,rfl,A.p,vZ,_,rfl,F1,aD ..,A.re e',g,_,os',0,0,rfl,w3.rd.at_,by lia,BJ,λD cs hD mem zZ pw=>⟨D,_,rfl,.inl (aB.of Za),rfl,Qd,_,rfl,?_⟩⟩
    rw [show vI (V.int (sp / g.size)) (cs.map V.int)=true by rw [N7]; exact aea ((mem _).mpr (Sh sp v rfl))]
    exact cF rfl (end_ _ (Zd hD _))
  cases d with
  | wt sp v =>
   refine ⟨_,rfl,t,_,_,_,rfl,rfl,aK.of et,cK,rfl,_,rfl,fk (aea rfl) ?_⟩
   refine ⟨_,rfl,A.p,dx,_,rfl,ob,aD ..,_,rfl,t,_,_,_,rfl,rfl,aK.of et,gj,_,rfl,t,_,_,_,rfl,rfl,aK.of et,gS,A,g,st,os,sp,v,rfl,w.rd.at_,w.rd.dj,bU,λG3 e' gO r1 r2 r3 r4 r5 r6 r7=>?_⟩
   obtain ⟨w2,B7⟩:=w.fm B5 (A':=A.re e') (os':=gO) (st':=kP (bD g (.wt sp v) st)) ⟨r1,r6⟩ r5
   have hb:(Dd.wt sp v).sp / g.size∈((Zw g ((Dd.wt sp v).sp / g.size) st).at_ 0).seq:=by rw [← (IV (g:=g) (d:=.wt sp v) (st:=st)).sq 0]; exact r7
   obtain ⟨o1,_⟩:=JF (b:=sp / g.size) hs l1 ok w.rd.dj fx
   obtain ⟨o2,f2⟩:=DV (d:=.wt sp v) hs l1 ok w.rd.dj hb fx
   exact rest G3 e' gO w2 o2 f2 B7 (tups r5 et) λSy v' e=>by cases e; exact X6 o1.len l1 T7
  | rd sp =>
   refine ⟨_,rfl,t,_,_,_,rfl,rfl,aK.of et,cK,rfl,_,rfl,cF (by decide +kernel) ?_⟩
   refine ⟨_,rfl,A.p,dx,_,rfl,ob,aD ..,_,rfl,t,_,_,_,rfl,rfl,aK.of et,gj,A,g,st,os,sp,rfl,w.rd.at_,w.rd.dj,bU,λG2 e' gO tp' MX r1 r2 r3 r4 r5 r6 r7=>?_⟩
   obtain ⟨w2,B7⟩:=w.fm B5 (A':=A.re e') (os':=gO) (st':=kP (bD g (.rd sp) st)) ⟨r1,r6⟩ r5
   obtain ⟨o2,f2⟩:=DV (d:=.rd sp) hs l1 ok w.rd.dj r7 fx
   exact rest G2 e' gO w2 o2 f2 B7 (tups r5 et) λSy v' e=>by cases e
 .rintro σ G ⟨v5,v6,A,os,st,bk,a',c',rfl,eA,w,ok,fx,nf,B',hc'⟩
  subst e1
  exact k G w.kp
end
theorem V7 {fst:Str} {c:Cf}:∀ {aF:List Cf} {k:Nat},(mF fst aF)[k+1]?=some c->c.late=false:=λ{aF k} h=>by
 cases aF with
 | nil=>cases h
 | cons d r =>
  have h:(r.map λc:Cf=>({ c with late:=false }:Cf))[k]?=some c:=h
  rw [aBK] at h
  cases e:r[k]? with
  | none=>rw [e] at h; cases h
  | some d=>rw [e] at h; cases h; rfl
theorem Ob {g:aP} {fst:Str} {aF:List Cf} (e:g.aF=mF fst aF) {k:Nat} (h:k+1<g.n):(g.cf (k+1)).late=false:=by
 have hk:k+1<g.aF.length:=h
 refine V7 (fst:=fst) (aF:=aF) (k:=k) ?_
 rw [← e]
 unfold aP.cf
 rw [a9e,af3 hk]
 rfl
theorem OG {g:aP} {fst:Str} {aF:List Cf} (e:g.aF=mF fst aF) (h:0<g.n):(g.cf 0).late=decide (fst = "late"):=by
 unfold aP.n at h
 unfold aP.cf
 rw [e] at h ⊢
 cases aF with
 | nil=>exact absurd h (by simp [mF])
 | cons d r=>rfl
section
def NK (K:W.Frag):Sp:=λvs H Q _=>∃ (b:Addr) (a q:Int),vs=[.ref b]/\aG H b a q 0/\Tb K H/\∀ H',SB b H H'->Q (.bl true) H'
theorem X3 (F:aY K "_law_right" "_law_right" Iv f fd) (T:Txt K mg) (GH:Def P w K mg base "_law_plan" 3 Ij (Oi K)) (E4:Def P w K mg base "_law_some_boards" 2 Ke Pq) (CP:Def P w K mg base "_law_rooms" 1 Iz (tW K)) (EM:Def P w K mg base "_law_through_right" 17 K8 (yV K)) (GA:Def P w K mg base "_law_late_right" 17 Ks (yW K)):av P w K mg base aV 18 f fd Iu (NK K):=by
 refine F.ok lC (λvs H Q E h=>?_) (λcdv A outer s0 H vs Q E hr h=>?_)
 .obtain ⟨b,a,q,rfl,_⟩:=h
  rfl
 obtain ⟨b,a,q,rfl,B,tb,k⟩:=h
 have nd:=lC.nd
 have hu:=bT hr
 refine ⟨_,(Zf (mH (Zm GH hr.m rfl (pc (pv 0) Zb)) (mJ (K:=K) (n:=3) rfl rfl (Zt (bZ 1 nd) (Zt (bZ 2 nd) (Zt (bZ 3 nd) mK)))))
   (Zf (cI 4 nd (Zm E4 hr.m rfl (pc (pv 0) (pc (pv 1) Zb))))
   (Zf (aI (wB (jJ (Zm EM hr.m rfl (pc (pv 0) (pc (jI (pc (pv 1) (pc (pv 2) (pc (Zm CP hr.m rfl (pc (pv 3) (pc ZM Zb))) Zb)))) (pc (pv 4) Zb)))))) (Zi (Zu dM)) Zv)
   (Zi (Zu (Zm GA hr.m rfl (pc (pv 0) (pc (jI (pc (pv 1) (pc (pv 2) (pc (Zm CP hr.m rfl (pc (pv 3) (pc ZM Zb))) Zb)))) (pc (pv 4) Zb))))))))),?_⟩
 refine hide λu1 e1=>?_
 refine ⟨_,rfl,b,a,q,0,rfl,B,by decide,λpp tp bX size kind aF a1 c1 H1 hpp pa Mc z0 z1 l1 l4 B1 hc1 s1=>⟨pp,_,rfl,aK.of hpp,rfl,_,_,rfl,gN ⟨_,_,rfl,gN ⟨_,_,rfl,gN ⟨rfl,?_⟩⟩⟩⟩⟩
 subst e1
 try dsimp only
 have oq:∀ {x ys},H1 x=some (.tup ys)->x≠b:=λ{x ys} e z=>by rw [z,B1.at'] at e; cases e
 refine hide λu1 e1=>?_
 refine ⟨_,rfl,_,rfl,b,a1,q,c1,size,rfl,B1,by lia,z0,z1,λlo ns a3 c3 H3 hlo nv n3 uf Vq _ B3 hc3 t3=>gN ?_⟩
 subst e1
 try dsimp only
 have LM:=pa.frame (H':=H3) λx ys e=>t3 _ _ (oq e) e
 have u3:SB b H H3:=s1.trans t3
 have lH:lo≠b:=λz=>by rw [z,B1.at'] at hlo; cases hlo
 have So:Tb K H3:=u3 _ _ (λz=>by have t:=tb; unfold Tb at t; rw [z,B.at'] at t; cases t) tb
 have vm:∀ x∈ns,0<=x/\x<=100000:=λx hx=>by
  have:=Vq x hx
  have s9:9999 / size<=9999:=Int.ediv_le_self _ (by decide)
  lia
 have mk:∀ {fst:Str} {pH:Addr} {mP:List Addr} {p2:Addr} {H:Hp} {a q c:Int} {g:aP},g=⟨size,kind,mF fst aF,(9999 / size) :: ns⟩->bI K H pH mP (mF fst aF)->H p2=some (.tup [.int size,.str kind,.ref pH])->aG H b a q c->c<=100000->H lo=some (.lst (ns.map V.int))->Tb K H->Hd K H b p2 pH lo mP g ns a q c:=by
  intro fst pH mP p2 H a q c g eg FY hp2 B2 hc Hy Sq
  rw [eg]
  refine ⟨B2,hc,hp2,FY,⟨λc hc=>⟨(FY.cf c hc).2.2.1,(FY.cf c hc).2.2.2.1⟩,z0,by show size<=1000; lia,by show _+1<=800; lia,λb hb=>?_,by show (mF fst aF).length<=4; rw [DL]; exact l4,by show 1<=(mF fst aF).length; rw [DL]; exact l1⟩,z1,rfl,Hy,lH,by lia,uf,vm,Sq⟩
  have s9:9999 / size<=9999:=Int.ediv_le_self _ (by decide)
  have s0:0<=9999 / size:=Int.ediv_nonneg (by decide) (by lia)
  rcases aHJ.mp hb with rfl | hb
  .lia
  .have:=vm b hb; lia
 have gs:∀ fst:Str,∃ g:aP,g=⟨size,kind,mF fst aF,(9999 / size) :: ns⟩:=λ_=>⟨_,rfl⟩
 have gn:∀ {fst:Str} {g:aP},g=⟨size,kind,mF fst aF,(9999 / size) :: ns⟩->0<g.n:=λ{fst g} e=>by
  rw [e]
  show 0<(mF fst aF).length
  rw [DL]; exact l1
 obtain ⟨g,eg⟩:=gs "through"
 refine hide λu1 e1=>?_
 refine ⟨_,rfl,_,rfl,_,rfl,_,rfl,tp,bX,aF, "through",rfl,LM,l1,l4,.inr rfl,λpH mP H4 s4 SY=>⟨(sl 3),λp2 hp2=>?_⟩⟩
 have s5:=Zd hp2 (.tup [V.int size,V.str kind,V.ref pH])
 have Va:=Za (H:=H4) (a:=p2) (o:=.tup [V.int size,V.str kind,V.ref pH])
 generalize upd H4 p2 (.tup [V.int size,V.str kind,V.ref pH])=H5 at *
 have rW:=s4.trans s5
 have h5:=mk eg (SY.same s5) Va (B3.same rW) (by lia) (rW _ _ nv) (So.same rW)
 have ec:g.aF=mF "through" aF:=by rw [eg]
 have tr:Tr g 0:=⟨by decide,λk _ hk=>by
  cases k with
  | zero=>rw [OG ec hk]; decide +kernel
  | succ k=>exact Ob ec hk⟩
 refine ⟨_,rfl,b,p2,pH,lo,mP,g,ns,a3,q,c3,rfl,h5,tr,λa6 c6 H6 B6 hc6 s6=>⟨_,rfl,cF rfl ?_⟩⟩
 subst e1
 try dsimp only
 dsimp only [gk]
 have F6:∀ {x ys},H5 x=some (.tup ys)->x≠b:=λ{x ys} e z=>by rw [z,h5.box.at'] at e; cases e
 have SX:=(LM.same rW).frame (H':=H6) λx ys e=>s6 _ _ (F6 e) e
 have Sn:Tb K H6:=s6 _ _ (λz=>by have t:=h5.tb; unfold Tb at t; rw [z,h5.box.at'] at t; cases t) h5.tb
 have Hx:=s6 _ _ lH h5.nv
 have u6:SB b H H6:=(u3.trans (rW.sb b)).trans s6
 clear tr ec h5
 obtain ⟨g2,Hz⟩:=gs "late"
 refine ⟨_,rfl,_,rfl,_,rfl,_,rfl,tp,bX,aF, "late",rfl,SX,l1,l4,.inl rfl,λCr E9 H7 s7 SW=>⟨(sl 3),λp3 hp3=>?_⟩⟩
 have s8:=Zd hp3 (.tup [V.int size,V.str kind,V.ref Cr])
 have U9:=Za (H:=H7) (a:=p3) (o:=.tup [V.int size,V.str kind,V.ref Cr])
 generalize upd H7 p3 (.tup [V.int size,V.str kind,V.ref Cr])=H8 at *
 have Cv:=s7.trans s8
 have h8:=mk Hz (SW.same s8) U9 (B6.same Cv) (by lia) (Cv _ _ Hx) (Sn.same Cv)
 have ec:g2.aF=mF "late" aF:=by rw [Hz]
 have tr:Tr g2 1:=⟨by decide,λk h1 hk=>by
  cases k with
  | zero=>exact absurd h1 (by decide)
  | succ k=>exact Ob ec hk⟩
 exact ⟨_,rfl,b,p3,Cr,lo,E9,g2,ns,a6,q,c6,rfl,h8,tr,(by rw [OG ec (gn Hz)]; exact aea rfl),λH9 s9=>k H9 (u6.trans ((Cv.sb b).trans s9))⟩
end
section
def nQ (K:W.Frag):Sp:=λvs H Q _=>∃ (a:Addr) (ns:List Int),vs=[.ref a]/\aB K H a (ns.map V.int)/\ns.length<=63/\Tb K H/\∀ H',Q (.bl true) H'
theorem V6 (F:aY K "law" "law" gB f fd) (T:Txt K mg) (GF:Def P w K mg base "_law_box" 1 qT (tY K)) (Gs:Def P w K mg base "_law_folded" 1 Jg (Pu K)) (Gp:Def P w K mg base "_law_right" 18 Iu (NK K)):av P w K mg base aV 19 f fd mw (nQ K):=by
 refine F.ok pX (λvs H Q E h=>?_) (λcdv A outer st H vs Q E hr h=>?_)
 .obtain ⟨a,ns,rfl,_⟩:=h
  rfl
 obtain ⟨a,ns,rfl,hS,h63,tb,k⟩:=h
 have nd:=pX.nd
 have hu:=bT hr
 refine ⟨_,(Zf (cI 1 nd (Zm Gs hr.m rfl (pc (pv 0) (pc Zj Zb))))
   (Zi (Zu (Zn (P1 rfl) rfl T.CU Pb (pc (uS (ZL (iZ:=(Zh gB)) (oN:=qX) (N:=["_law_k", "_law_cells"]) (own:=1) (js:=[1]) (by decide +kernel) rfl rfl) rfl (tE rfl T.lE (pc (Zn (Qa rfl) rfl T.CS O9 (pc Zj (pc (Zn (Zx (K:=K) rfl) rfl T.nJ aoN (pc (pv 1) Zb)) Zb))) Zb)) (λ_ _ _ _ _ _=>(bZ 0 (show List.Nodup (["_law_k", "_law_cells"]:List Str) by decide +kernel))) (λ_ _ _ _ _ _=>(Zm Gp hr.m rfl (pc (Zm GF hr.m rfl (pc (pv 1) (pc (pv 0) Zb))) Zb)))) Zb))))),?_⟩
 refine ⟨_,rfl,a,ns,3,rfl,hS,h63,by decide,by decide,λr ms H1 hr' s1 e1 lm=>?_⟩
 have lc:(if ((ms.map V.int).length:Int) > 1 then ((ms.map V.int).length:Int) else 1)<=63:=by rw [aK1]; split <;> lia
 refine ⟨_,rfl,r,_,rfl,.inl (aB.of e1),_,_,rfl,_,rfl,?_,?_,λl hl'=>?_⟩
 .split <;> lia
 .lia
 generalize (if ((ms.map V.int).length:Int) > 1 then ((ms.map V.int).length:Int) else 1)=n at *
 have TY:n.toNat<=63:=by lia
 have LP:r≠l:=Ze e1 hl'
 have LH:=tb.same s1
 have xG:tabOf K "Room" "going" ≠ l:=Ze LH hl'
 refine wL (lo:=0) (n:=n.toNat) (l:=l) (λj ys σ G=>∃ v0:Option V,σ=[v0,some (.ref r)]/\ys=(List.replicate j true).map V.bl/\G l=some (.lst ys)/\G r=some (.lst (ms.map V.int))/\Tb K G)
  ⟨none,rfl,rfl,Za,by rw [Zc LP]; exact e1,by unfold Tb; rw [Zc xG]; exact LH⟩ ?_ ?_
 .rintro j ys σ G hj hy ⟨v0,rfl,rfl,g1,g2,g3⟩
  refine ⟨_,rfl,_,rfl,r,ms,_,rfl,aB.of g2,by lia,by lia,λb ba bq G1 hb t1 B1=>?_⟩
  refine ⟨b,ba,bq,rfl,B1,g3.same t1,λG2 t2=>?_⟩
  have lH:l≠b:=Ze g1 hb
  have Tw:r≠b:=Ze g2 hb
  have zL:tabOf K "Room" "going" ≠ b:=Ze g3 hb
  refine jR.of (a28 TY (by decide)) hj hy (t2 _ _ lH (t1 _ _ g1)) ⟨_,rfl,by rw [aWn,aIV]; rfl,Za,?_,?_⟩
  .rw [Zc LP]
   exact t2 _ _ Tw (t1 _ _ g2)
  .unfold Tb
   rw [Zc xG]
   exact t2 _ _ zL (t1 _ _ g3)
 .rintro ys σ G hy ⟨v0,rfl,rfl,g1,g2,g3⟩
  refine ⟨l,_,rfl,aB.of g1,?_⟩
  rw [show (List.replicate n.toNat true).all id=true by rw [aXt]; intro z hz; rw [(ag9.mp hz).2]; rfl]
  exact k G
end
theorem kB {us:List Value} {n:Nat} (h:us.length=n+1):∃ v r,us=v :: r/\r.length=n:=by
 cases us with
 | nil=>cases h
 | cons v r=>exact ⟨v,r,rfl,Nat.succ.inj h⟩
theorem qx {fn:Value->Value->Value->Option Addr->Value->Value->FuncData} {ps:List Str} (h:∀ a b c d e f v0,bindArgs (fn a b c d e f) ⟨[v0],[]⟩=pure (ps.zip [v0])) (hp:ps.length=1:=by rfl) (a b c:Value) (d:Option Addr) (e f:Value) (us:List Value) (hl:us.length=ps.length):bindArgs (fn a b c d e f) ⟨us,[]⟩=pure (ps.zip us):=by
 rw [hp] at hl
 obtain ⟨v0,r0,rfl,q0⟩:=kB hl
 cases bbz q0
 exact h a b c d e f v0
theorem ln2 {fn:Value->Value->Value->Option Addr->Value->Value->FuncData} {ps:List Str} (h:∀ a b c d e f v0 v1,bindArgs (fn a b c d e f) ⟨[v0,v1],[]⟩=pure (ps.zip [v0,v1])) (hp:ps.length=2:=by rfl) (a b c:Value) (d:Option Addr) (e f:Value) (us:List Value) (hl:us.length=ps.length):bindArgs (fn a b c d e f) ⟨us,[]⟩=pure (ps.zip us):=by
 rw [hp] at hl
 obtain ⟨v0,r0,rfl,q0⟩:=kB hl
 obtain ⟨v1,r1,rfl,q1⟩:=kB q0
 cases bbz q1
 exact h a b c d e f v0 v1
theorem kM {fn:Value->Value->Value->Option Addr->Value->Value->FuncData} {ps:List Str} (h:∀ a b c d e f v0 v1 v2,bindArgs (fn a b c d e f) ⟨[v0,v1,v2],[]⟩=pure (ps.zip [v0,v1,v2])) (hp:ps.length=3:=by rfl) (a b c:Value) (d:Option Addr) (e f:Value) (us:List Value) (hl:us.length=ps.length):bindArgs (fn a b c d e f) ⟨us,[]⟩=pure (ps.zip us):=by
 rw [hp] at hl
 obtain ⟨v0,r0,rfl,q0⟩:=kB hl
 obtain ⟨v1,r1,rfl,q1⟩:=kB q0
 obtain ⟨v2,r2,rfl,q2⟩:=kB q1
 cases bbz q2
 exact h a b c d e f v0 v1 v2
theorem vE {fn:Value->Value->Value->Option Addr->Value->Value->FuncData} {ps:List Str} (h:∀ a b c d e f v0 v1 v2 v3,bindArgs (fn a b c d e f) ⟨[v0,v1,v2,v3],[]⟩=pure (ps.zip [v0,v1,v2,v3])) (hp:ps.length=4:=by rfl) (a b c:Value) (d:Option Addr) (e f:Value) (us:List Value) (hl:us.length=ps.length):bindArgs (fn a b c d e f) ⟨us,[]⟩=pure (ps.zip us):=by
 rw [hp] at hl
 obtain ⟨v0,r0,rfl,q0⟩:=kB hl
 obtain ⟨v1,r1,rfl,q1⟩:=kB q0
 obtain ⟨v2,r2,rfl,q2⟩:=kB q1
 obtain ⟨v3,r3,rfl,q3⟩:=kB q2
 cases bbz q3
 exact h a b c d e f v0 v1 v2 v3
theorem L3 {fn:Value->Value->Value->Option Addr->Value->Value->FuncData} {ps:List Str} (h:∀ a b c d e f v0 v1 v2 v3 v4,bindArgs (fn a b c d e f) ⟨[v0,v1,v2,v3,v4],[]⟩=pure (ps.zip [v0,v1,v2,v3,v4])) (hp:ps.length=5:=by rfl) (a b c:Value) (d:Option Addr) (e f:Value) (us:List Value) (hl:us.length=ps.length):bindArgs (fn a b c d e f) ⟨us,[]⟩=pure (ps.zip us):=by
 rw [hp] at hl
 obtain ⟨v0,r0,rfl,q0⟩:=kB hl
 obtain ⟨v1,r1,rfl,q1⟩:=kB q0
 obtain ⟨v2,r2,rfl,q2⟩:=kB q1
 obtain ⟨v3,r3,rfl,q3⟩:=kB q2
 obtain ⟨v4,r4,rfl,q4⟩:=kB q3
 cases bbz q4
 exact h a b c d e f v0 v1 v2 v3 v4
def jF (K:W.Frag) (nm:Str) (st:Stmt):Prop:=∃ (f:Addr) (od an:Option Addr) (sl:Array (Option Value)) (oc kV dc pm cd ct:Value),W.nsIn K mainGlobals nm=some (some (.ref f))/\K.lookup f=some ⟨oc,od,.func (W.fnOf nm nm (ZW st) (ZK st) (Zh st) .none kV dc pm an cd ct),sl⟩/\W.codeIn K cd nm=true/\W.keepIn K (.ref f)=true
def cu (K:W.Frag) (Ca:Addr) (nm q:Str) (st:Stmt):Prop:=∃ (f:Addr) (od an:Option Addr) (sl:Array (Option Value)) (oc kV dc pm cd ct:Value),W.findIn K (.ref Ca) nm=some (some (.ref f))/\W.isFn K (.ref f)=true/\K.lookup f=some ⟨oc,od,.func (W.fnOf nm q (ZW st) (ZK st) (Zh st) .none kV dc pm an cd ct),sl⟩/\W.codeIn K cd q=true/\W.keepIn K (.ref f)=true
theorem jF.mk {K:W.Frag} {nm:Str} {st:Stmt} {f:Addr} {od an:Option Addr} {sl:Array (Option Value)} {oc kV dc pm cd ct:Value} (a:W.nsIn K mainGlobals nm=some (some (.ref f))) (l:K.lookup f=some ⟨oc,od,.func (W.fnOf nm nm (ZW st) (ZK st) (Zh st) .none kV dc pm an cd ct),sl⟩) (c:W.codeIn K cd nm=true) (k:W.keepIn K (.ref f)=true):jF K nm st:=⟨_,_,_,_,_,_,_,_,_,_,a,l,c,k⟩
theorem cu.mk {K:W.Frag} {Ca:Addr} {nm q:Str} {st:Stmt} {f:Addr} {od an:Option Addr} {sl:Array (Option Value)} {oc kV dc pm cd ct:Value} (a:W.findIn K (.ref Ca) nm=some (some (.ref f))) (i:W.isFn K (.ref f)=true) (l:K.lookup f=some ⟨oc,od,.func (W.fnOf nm q (ZW st) (ZK st) (Zh st) .none kV dc pm an cd ct),sl⟩) (c:W.codeIn K cd q=true) (k:W.keepIn K (.ref f)=true):cu K Ca nm q st:=⟨_,_,_,_,_,_,_,_,_,_,a,i,l,c,k⟩
def Cc (P:Program) (w:World) (K:W.Frag) (mg:Str->Option Value) (base:Heap):Prop:=∃ h,K.In h/\h.Ns mainGlobals mg
section
variable {P:Program} {w:World} {K:W.Frag} {mg:Str->Option Value} {base:Heap} {Ca:Addr} {nm q:Str} {st:Stmt} {n:Nat} {ps:List Str} {sp:Sp} (B:Cc P w K mg base)
include B
theorem Cc.df (x:jF K nm st) (ok:∀ {f fd},aY K nm nm st f fd->av P w K mg base aV n f fd ps sp) (hb:∀ (kV dc pm:Value) (an:Option Addr) (cd ct:Value) (us:List Value),us.length=ps.length->bindArgs (W.fnOf nm nm (ZW st) (ZK st) (Zh st) .none kV dc pm an cd ct) ⟨us,[]⟩=pure (ps.zip us)):Def P w K mg base nm n ps sp:=by
 obtain ⟨f,od,an,sl,oc,kV,dc,pm,cd,ct,a,l,c,k⟩:=x
 obtain ⟨h,X,G⟩:=B
 have F:=uO l c k
 exact ⟨_,_,ok F,W.mg_of X G a,F.kp,F.binds hb⟩
theorem Cc.md (x:cu K Ca nm q st) (ok:∀ {f fd},aY K nm q st f fd->av P w K mg base aV n f fd ps sp) (hb:∀ (kV dc pm:Value) (an:Option Addr) (cd ct:Value) (us:List Value),us.length=ps.length->bindArgs (W.fnOf nm q (ZW st) (ZK st) (Zh st) .none kV dc pm an cd ct) ⟨us,[]⟩=pure (ps.zip us)):ay P w K mg base Ca nm n ps sp:=by
 obtain ⟨f,od,an,sl,oc,kV,dc,pm,cd,ct,a,i,l,c,k⟩:=x
 have F:=uO l c k
 exact ⟨_,_,ok F,⟨a,i,k⟩,F.binds hb⟩
theorem Cc.kd {y:Str} (x:cu K Ca "__init__" q st) (mk:W.makesIn K Ca=true) (kc:W.keepIn K (.ref Ca)=true) (aC:W.nsIn K mainGlobals y=some (some (.ref Ca))) (ok:∀ {f fd},aY K "__init__" q st f fd->av P w K mg base aV n f fd ps sp) (hb:∀ (kV dc pm:Value) (an:Option Addr) (cd ct:Value) (us:List Value),us.length=ps.length->bindArgs (W.fnOf "__init__" q (ZW st) (ZK st) (Zh st) .none kV dc pm an cd ct) ⟨us,[]⟩=pure (ps.zip us)):nG P w K mg base Ca y n ps sp:=by
 obtain ⟨f,od,an,sl,oc,kV,dc,pm,cd,ct,a,i,l,c,k⟩:=x
 obtain ⟨h,X,G⟩:=B
 have F:=uO l c k
 exact ⟨_,_,ok F,⟨mk,a,i,kc⟩,W.mg_of X G aC,F.binds hb⟩
end
theorem V5 {l:W.OpenLaw} {w:World} {K:W.Frag} {h:Heap} {mg:Str->Option Value} {fa:Addr} {tp cg:Addr} (X:K.In h) (G:h.Ns mainGlobals mg) (UE:mg "law" = some (.ref fa))
  {aS:Addr} (qS:W.nsIn K mainGlobals "Room" = some (some (.ref aS)))
  {aM:Addr} (oH:W.nsIn K mainGlobals "Store" = some (some (.ref aM)))
  {aX:Addr} (mh:W.nsIn K mainGlobals "Memory" = some (some (.ref aX)))
  {aj:Addr} (l7:W.nsIn K mainGlobals "Stairs" = some (some (.ref aj)))
  {jg:Addr} (oJ:W.nsIn K mainGlobals "Steps" = some (some (.ref jg)))
  (x0:jF K "_law_take" Ik)
  (x1:jF K "_law_box" p8)
  (x2:jF K "_law_folded" Ji)
  (x3:jF K "_law_some_boards" Eo)
  (a4:W.nsIn K mainGlobals "_law_same" = some (some (.ref f4))) (l4:K.lookup f4=some ⟨oc4,od4,.func (W.fnOf "_law_same" "_law_same" (ZW uK) (ZK uK) (Zh uK) .none kV4 dc4 pm4 an4 Vl ct4),sl4⟩) (c4:W.codeIn K Vl "_law_same" = true) (k4:W.keepIn K (.ref f4)=true)
  (x5:jF K "shelf_of" J8)
  (x6:cu K aS "has" "Room.has" J6)
  (x7:cu K aS "mates" "Room.mates" KC)
  (x8:cu K aS "need" "Room.need" JZ)
  (a9:W.findIn K (.ref aS) "going" = some (some (.ref f9))) (i9:W.isFn K (.ref f9)=true) (l9:K.lookup f9=some ⟨oc9,od9,.func (W.fnOf "going" "Room.going" (ZW ZG) (ZK ZG) (Zh ZG) .none kV9 dc9 pm9 an9 (.ref cg) ct9),sl9⟩) (c9:W.codeIn K (.ref cg) "Room.going" = true) (k9:W.keepIn K (.ref f9)=true)
  (Sg:cu K aS "drop" "Room.drop" J2)
  (Sf:cu K aS "use" "Room.use" J5)
  (Se:cu K aS "__init__" "Room.__init__" Ei)
  (Sd:cu K aS "leaver_for" "Room.leaver_for" Lp)
  (Sb:cu K aS "bring" "Room.bring" KG)
  (Sa:cu K aM "__init__" "Store.__init__" KA)
  (R9:cu K aM "has" "Store.has" JY)
  (R8:cu K aM "lay" "Store.lay" JX)
  (R7:cu K aM "take_in" "Store.take_in" KP)
  (R6:cu K aM "give_out" "Store.give_out" Ln)
  (RZ:cu K aM "words_of" "Store.words_of" Ll)
  (RY:cu K aM "lay_word" "Store.lay_word" Lj)
  (RX:cu K aM "freshen" "Store.freshen" KN)
  (RW:jF K "board_of" Ka)
  (RV:jF K "spots_of" J9)
  (RU:cu K aX "__init__" "Memory.__init__" Ko)
  (RT:cu K aX "words_of" "Memory.words_of" EA)
  (RQ:cu K aX "lay" "Memory.lay" Ky)
  (RP:cu K aj "store" "Steps.store" Kl)
  (RO:cu K aj "words" "Steps.words" Km)
  (RN:cu K aj "happened" "Steps.happened" KW)
  (RM:cu K aj "leaver" "Steps.leaver" K3)
  (RL:cu K aj "tell_found" "Steps.tell_found" Lc)
  (RK:cu K aj "use_in" "Steps.use_in" K2)
  (RJ:cu K aj "come_in" "Steps.come_in" KJ)
  (RH:cu K aj "go_out" "Steps.go_out" K1)
  (RG:cu K aj "put" "Steps.put" JW)
  (RE:cu K aj "word_in" "Steps.word_in" KH)
  (RD:cu K aj "put_word" "Steps.put_word" KU)
  (UU:W.specialIn K (.ref jg) "__getattribute__" = some (some (.builtin "type.__getattribute__"))) (SQ:W.readsIn K jg (.type "type")=true) (Vz:W.findCls K (.ref jg) (.type "type") "__init__" = some (.val (.ref MS))) (Ue:K.lookup MS=some ⟨Ti,Tf,.func (W.fnOf "__init__" "Steps.__init__" (ZW ZX) (ZK ZX) (Zh ZX) .none Uj Vh SV Vv HL Vj),SG⟩) (Vo:W.codeIn K HL "Steps.__init__" = true) (L5:W.keepIn K (.ref MS)=true)
  (RC:cu K aj "__init__" "Stairs.__init__" Kh)
  (RB:cu K aj "nearest" "Stairs.nearest" KR)
  (RA:cu K aj "go_on" "Stairs.go_on" KY)
  (Rz:cu K aj "change" "Stairs.change" K9)
  (Ry:cu K aj "drive_out" "Stairs.drive_out" Lr)
  (Rx:cu K aj "fetch_down" "Stairs.fetch_down" Lf)
  (Rw:cu K aj "come_apart" "Stairs.come_apart" Ld)
  (Vy:W.findIn K (.ref aj) "push" = some (some (.ref Ht))) (Uq:W.isFn K (.ref Ht)=true) (Ud:K.lookup Ht=some ⟨Th,Te,.func (W.fnOf "push" "Stairs.push" (ZW ZP) (ZK ZP) (Zh ZP) .none Ui Vg SS Vu HK Vi),SE⟩) (Vn:W.codeIn K HK "Stairs.push" = true) (L4:W.keepIn K (.ref Ht)=true)
  (Rv:cu K aj "fetch_apart" "Stairs.fetch_apart" Lh)
  (Ru:cu K aj "fetch" "Stairs.fetch" KZ)
  (Rt:cu K aj "read" "Stairs.read" Kf)
  (Rr:cu K aj "write" "Stairs.write" K0)
  (Rq:jF K "_law_room_plan" JV)
  (Rp:jF K "_law_plan" Dv)
  (Ro:jF K "_law_many" HS)
  (Rl:jF K "_law_word" Ii)
  (Rj:jF K "_law_deed" Ig)
  (Ri:cu K aS "boards" "Room.boards" Kq)
  (Rh:cu K aj "lies" "Steps.lies" Kv)
  (Rg:cu K aj "changed" "Steps.changed" KL)
  (Rf:cu K aX "pairs" "Memory.pairs" K7)
  (Rc:cu K aj "memory" "Steps.memory" K5)
  (Rb:jF K "_law_pairs" DE)
  (Ra:jF K "_law_puts" Ds)
  (Q9:jF K "_law_rooms" DF)
  (Q8:jF K "_law_write_right" En)
  (Q7:jF K "_law_through_right" EG)
  (Q6:jF K "_law_late_right" Eu)
  (Q5:jF K "_law_right" Iv)
  (Vx:W.nsIn K mainGlobals "law" = some (some (.ref MR))) (Uc:K.lookup MR=some ⟨Tg,Td,.func (W.fnOf "law" "law" (ZW gB) (ZK gB) (Zh gB) .none Gn HE FT HM AL HG),SD⟩) (Vm:W.codeIn K AL "law" = true) (Uk:W.keepIn K (.ref MR)=true)
  (CV:W.nsIn K mainGlobals "abs" = some none)
  (CU:W.nsIn K mainGlobals "all" = some none)
  (CT:W.nsIn K mainGlobals "any" = some none)
  (CO:W.nsIn K mainGlobals "bool" = some none)
  (Gv:W.nsIn K mainGlobals "divmod" = some none)
  (Cm:W.nsIn K mainGlobals "enumerate" = some none)
  (xP:W.nsIn K mainGlobals "int" = some none)
  (pK:W.nsIn K mainGlobals "isinstance" = some none)
  (nJ:W.nsIn K mainGlobals "len" = some none)
  (pT:W.nsIn K mainGlobals "list" = some none)
  (CS:W.nsIn K mainGlobals "max" = some none)
  (GG:W.nsIn K mainGlobals "min" = some none)
  (lE:W.nsIn K mainGlobals "range" = some none)
  (uV:W.nsIn K mainGlobals "sorted" = some none)
  (Ab:W.nsIn K mainGlobals "str" = some none)
  (wZ:W.nsIn K mainGlobals "tuple" = some none)
  (CQ:W.nsIn K mainGlobals "zip" = some none)
  (vg:W.plainGet K aS Str.empty=true) (vO:W.hasDictIn K aS=true) (vf:W.plainOver K aS=true) (uY:W.findIn K (.ref aS) "__setattr__" = some (some (.builtin "object.__setattr__"))) (vv:W.makesIn K aS=true) (vF:W.keepIn K (.ref aS)=true)
  (kI:W.findIn K (.ref aS) "places" = some none)
  (mV:W.findIn K (.ref aS) "rule" = some none)
  (jM:W.findIn K (.ref aS) "shelves" = some none)
  (jr:W.findIn K (.ref aS) "standing" = some none)
  (mU:W.findIn K (.ref aS) "uses" = some none)
  (su:W.plainGet K aM Str.empty=true) (sH:W.hasDictIn K aM=true) (sr:W.plainOver K aM=true) (rV:W.findIn K (.ref aM) "__setattr__" = some (some (.builtin "object.__setattr__"))) (sC:W.makesIn K aM=true) (sD:W.keepIn K (.ref aM)=true)
  (kE:W.findIn K (.ref aM) "fresh" = some none)
  (lM:W.findIn K (.ref aM) "held" = some none)
  (lJ:W.findIn K (.ref aM) "late" = some none)
  (lI:W.findIn K (.ref aM) "room" = some none)
  (qk:W.plainGet K aX Str.empty=true) (qH:W.hasDictIn K aX=true) (qi:W.plainOver K aX=true) (p7:W.findIn K (.ref aX) "__setattr__" = some (some (.builtin "object.__setattr__"))) (qq:W.makesIn K aX=true) (qA:W.keepIn K (.ref aX)=true)
  (kK:W.findIn K (.ref aX) "kept" = some none)
  (kJ:W.findIn K (.ref aX) "size" = some none)
  (qj:W.plainGet K aj Str.empty=true) (qG:W.hasDictIn K aj=true) (qh:W.plainOver K aj=true) (pZ:W.findIn K (.ref aj) "__setattr__" = some (some (.builtin "object.__setattr__"))) (qp:W.makesIn K aj=true) (qz:W.keepIn K (.ref aj)=true)
  (jq:W.findIn K (.ref aj) "bottom" = some none)
  (jo:W.findIn K (.ref aj) "events" = some none)
  (kH:W.findIn K (.ref aj) "kind" = some none)
  (kG:W.findIn K (.ref aj) "last" = some none)
  (kF:W.findIn K (.ref aj) "size" = some none)
  (jn:W.findIn K (.ref aj) "stores" = some none)
  (ch:W.codeHdIn K cg tp=true) (kt:K.lookup tp=none)
  : tabOf K "Room" "going" = tp/\(∃ c0,W.codeHdIn K c0 tp=true)/\K.lookup tp=none/\∃ fd:FuncData,(∀ (s:Shared) (v:Value),BindsTo s fd ⟨[v],[]⟩ [("_law_script",v)])/\∀ base:Heap,K.In base->base.Ns mainGlobals mg->BMod base mg->av l.prog w K mg base aV 19 fa fd mw (nQ K):=by
 have e:=UE.symm.trans (W.mg_of X G Vx)
 cases e
 have vS:=Bm qS
 subst vS
 have sI:=Bm oH
 subst sI
 have qK:=Bm mh
 subst qK
 have qJ:=Bm l7
 subst qJ
 have sJ:=Bm oJ
 subst sJ
 have T:Txt K mg:=⟨aQS X G CV,aQS X G CU,aQS X G CT,aQS X G CO,aQS X G Gv,aQS X G Cm,aQS X G xP,aQS X G pK,aQS X G nJ,aQS X G pT,aQS X G CS,aQS X G GG,aQS X G lE,aQS X G uV,aQS X G Ab,aQS X G wZ,aQS X G CQ,⟨vg,vO,vf,uY⟩,kI,mV,jM,jr,mU,⟨su,sH,sr,rV⟩,kE,lM,lJ,lI,⟨qk,qH,qi,p7⟩,kK,kJ,⟨qj,qG,qh,pZ⟩,jq,jo,kH,kG,kF,jn⟩
 have F4:=uO (st:=uK) l4 c4 k4
 have AX:=F4.binds (ps:=uJ) (ln2 λ_ _ _ _ _ _ _ _=>rfl)
 have F9:=uO (st:=ZG) l9 c9 k9
 have AW:=F9.binds (ps:=BH) (ln2 λ_ _ _ _ _ _ _ _=>rfl)
 have QZ:=uO (st:=ZX) Ue Vo L5
 have AV:=QZ.binds (ps:=BG) (kM λ_ _ _ _ _ _ _ _ _=>rfl)
 have QY:=uO (st:=ZP) Ud Vn L4
 have AU:=QY.binds (ps:=ZH) (L3 λ_ _ _ _ _ _ _ _ _ _ _=>rfl)
 have QX:=uO (st:=gB) Uc Vm Uk
 have M5:=QX.binds (ps:=mw) (qx λ_ _ _ _ _ _ _=>rfl)
 have tq:=XA a9 l9 rfl ch
 refine ⟨tq,⟨_,ch⟩,kt,?_⟩
 refine ⟨W.fnOf "law" "law" (ZW gB) (ZK gB) (Zh gB) .none Gn HE FT HM AL HG,λs v=>.of_eq rfl,λbase _ _ bm=>?_⟩
 have B:Cc l.prog w K mg base:=⟨_,X,G⟩
 have d7:=B.df x0 (λF=>Wu F T ) (ln2 λ_ _ _ _ _ _ _ _=>rfl)
 have GF:=B.df x1 (λF=>VH F T ) (ln2 λ_ _ _ _ _ _ _ _=>rfl)
 have Gs:=B.df x2 (λF=>Yu F T ) (ln2 λ_ _ _ _ _ _ _ _=>rfl)
 have E4:=B.df x3 (λF=>ZfD F T d7) (ln2 λ_ _ _ _ _ _ _ _=>rfl)
 have xT:=Pp (P:=l.prog) (w:=w) (base:=base) F4 AX (W.mg_of X G a4) T 
 have Gx:=B.df x5 (λF=>Zix F T ) (ln2 λ_ _ _ _ _ _ _ _=>rfl)
 have sf:=B.md x6 (λF=>Ziy F T ) (ln2 λ_ _ _ _ _ _ _ _=>rfl)
 have pJ:=B.md x7 (λF=>Zgy F T Gx) (ln2 λ_ _ _ _ _ _ _ _=>rfl)
 have rZ:=B.md x8 (λF=>ZhJ F T sf) (ln2 λ_ _ _ _ _ _ _ _=>rfl)
 have E2:ay l.prog w K mg base (aa K "Room") "going" 2 BH (Iq K):=⟨_,_,Zgz F9 rfl tq ch bm T ,⟨a9,i9,k9⟩,AW⟩
 have wY:=B.md Sg (λF=>ZhK F T rZ pJ) (ln2 λ_ _ _ _ _ _ _ _=>rfl)
 have Gw:=B.md Sf (λF=>ZiA F T rZ pJ) (ln2 λ_ _ _ _ _ _ _ _=>rfl)
 have GJ:=B.kd Se vv vF qS (λF=>ZhL F T ) (vE λ_ _ _ _ _ _ _ _ _ _=>rfl)
 have xr:=B.md Sd (λF=>ZdD F T pJ E2) (ln2 λ_ _ _ _ _ _ _ _=>rfl)
 have E1:=B.md Sb (λF=>ZgB F T sf xr pJ wY) (ln2 λ_ _ _ _ _ _ _ _=>rfl)
 have Gr:=B.kd Sa sC sD oH (λF=>ZgE F T GJ) (ln2 λ_ _ _ _ _ _ _ _=>rfl)
 have rY:=B.md R9 (λF=>ZhM F T sf) (ln2 λ_ _ _ _ _ _ _ _=>rfl)
 have wX:=B.md R8 (λF=>ZhN F T ) (kM λ_ _ _ _ _ _ _ _ _=>rfl)
 have EO:=B.md R7 (λF=>Zeu F T E1 wX) (kM λ_ _ _ _ _ _ _ _ _=>rfl)
 have EU:=B.md R6 (λF=>ZdW F T wY) (ln2 λ_ _ _ _ _ _ _ _=>rfl)
 have se:=B.md RZ (λF=>ZdX F T rZ) (ln2 λ_ _ _ _ _ _ _ _=>rfl)
 have ET:=B.md RY (λF=>ZdY F T ) (vE λ_ _ _ _ _ _ _ _ _ _=>rfl)
 have xo:=B.md RX (λF=>Zev F T ) (ln2 λ_ _ _ _ _ _ _ _=>rfl)
 have pI:=B.df RW (λF=>ZiB F T ) (ln2 λ_ _ _ _ _ _ _ _=>rfl)
 have wW:=B.df RV (λF=>ZiD F T ) (ln2 λ_ _ _ _ _ _ _ _=>rfl)
 have Gu:=B.kd RU qq qA mh (λF=>ZfE F T ) (ln2 λ_ _ _ _ _ _ _ _=>rfl)
 have EV:=B.md RT (λF=>ZdF F T wW) (ln2 λ_ _ _ _ _ _ _ _=>rfl)
 have GD:=B.md RQ (λF=>ZgG F T wW) (kM λ_ _ _ _ _ _ _ _ _=>rfl)
 have sd:=B.md RP (λF=>ZfF F T ) (ln2 λ_ _ _ _ _ _ _ _=>rfl)
 have xx:=B.md RO (λF=>ZfG F T EV sd se) (kM λ_ _ _ _ _ _ _ _ _=>rfl)
 have xq:=B.md RN (λF=>Zec F T ) (qx λ_ _ _ _ _ _ _=>rfl)
 have rB:=B.md RM (λF=>Zfq F T xr) (kM λ_ _ _ _ _ _ _ _ _=>rfl)
 have EW:=B.md RL (λF=>Zdo F T ) (ln2 λ_ _ _ _ _ _ _ _=>rfl)
 have xC:=B.md RK (λF=>Zfr F T Gw) (kM λ_ _ _ _ _ _ _ _ _=>rfl)
 have xj:=B.md RJ (λF=>Zew F T EO) (vE λ_ _ _ _ _ _ _ _ _ _=>rfl)
 have n6:=B.md RH (λF=>Zft F T EU) (kM λ_ _ _ _ _ _ _ _ _=>rfl)
 have qe:=B.md RG (λF=>ZhQ F T GD wX) (vE λ_ _ _ _ _ _ _ _ _ _=>rfl)
 have EN:=B.md RE (λF=>Zex F T se pI) (kM λ_ _ _ _ _ _ _ _ _=>rfl)
 have ER:=B.md RD (λF=>Zed F T ET pI) (vE λ_ _ _ _ _ _ _ _ _ _=>rfl)
 have GC:wR l.prog w K mg base "Steps" "__init__" 5 BG (Jb K):=⟨_,_,_,ZgJ QZ T Gr Gu,⟨UU,⟨_,SQ,Vz⟩,L5⟩,W.mg_of X G oJ,AV⟩
 have wV:=B.kd RC qp qz l7 (λF=>ZfH F T GC) (ln2 λ_ _ _ _ _ _ _ _=>rfl)
 have ES:=B.md RB (λF=>Zeg F T rY) (ln2 λ_ _ _ _ _ _ _ _=>rfl)
 have xD:=B.md RA (λF=>Zfu F T rY qe xo) (vE λ_ _ _ _ _ _ _ _ _ _=>rfl)
 have xE:=B.md Rz (λF=>Zey F T xo xD se) (kM λ_ _ _ _ _ _ _ _ _=>rfl)
 have EX:=B.md Ry (λF=>Zdp F T n6 rY xD) (kM λ_ _ _ _ _ _ _ _ _=>rfl)
 have EY:=B.md Rx (λF=>ZcY F T xC xx rB EX xj) (kM λ_ _ _ _ _ _ _ _ _=>rfl)
 have ud:=B.md Rw (λF=>ZcZ F T xj xE) (L3 λ_ _ _ _ _ _ _ _ _ _ _=>rfl)
 have xw:=QL (P:=l.prog) (w:=w) (base:=base) QY AU ⟨Vy,Uq,L4⟩ T qe rB ud n6
 have EZ:=B.md Rv (λF=>ZcR F T xC xx n6 xw) (kM λ_ _ _ _ _ _ _ _ _=>rfl)
 have xB:=B.md Ru (λF=>Zfv F T ES EW EZ EY) (ln2 λ_ _ _ _ _ _ _ _=>rfl)
 have xu:=B.md Rt (λF=>ZfI F T pI xB EN xq) (ln2 λ_ _ _ _ _ _ _ _=>rfl)
 have xA:=B.md Rr (λF=>Zfw F T pI xB ER xE xq) (kM λ_ _ _ _ _ _ _ _ _=>rfl)
 have Gy:=B.df Rq (λF=>ZhU F T d7) (qx λ_ _ _ _ _ _ _=>rfl)
 have GH:=B.df Rp (λF=>Wm F T d7 Gy) (qx λ_ _ _ _ _ _ _=>rfl)
 have xR:=B.df Ro (λF=>Wl F T d7) (kM λ_ _ _ _ _ _ _ _ _=>rfl)
 have GI:=B.df Rl (λF=>Wk F T d7) (qx λ_ _ _ _ _ _ _=>rfl)
 have xQ:=B.df Rj (λF=>Wj F T d7 GI) (kM λ_ _ _ _ _ _ _ _ _=>rfl)
 have E6:=B.md Ri (λF=>ZfJ F T ) (qx λ_ _ _ _ _ _ _=>rfl)
 have GB:=B.md Rh (λF=>ZgT F T sd E6) (ln2 λ_ _ _ _ _ _ _ _=>rfl)
 have vc:=B.md Rg (λF=>Zez F T sd) (ln2 λ_ _ _ _ _ _ _ _=>rfl)
 have EL:=B.md Rf (λF=>Zfz F T ) (qx λ_ _ _ _ _ _ _=>rfl)
 have EK:=B.md Rc (λF=>ZfA F T EL) (qx λ_ _ _ _ _ _ _=>rfl)
 have Gq:=B.df Rb (λF=>Yc F T ) (qx λ_ _ _ _ _ _ _=>rfl)
 have xS:=B.df Ra (λF=>W8 F T ) (qx λ_ _ _ _ _ _ _=>rfl)
 have CP:=B.df Q9 (λF=>X4 F T ) (ln2 λ_ _ _ _ _ _ _ _=>rfl)
 have E5:=B.df Q8 (λF=>ZfK F T xS GB) (vE λ_ _ _ _ _ _ _ _ _ _=>rfl)
 have EM:=B.df Q7 (λF=>ZeA F T wV xR xQ xA xu E5 xS Gq xT EK vc) (kM λ_ _ _ _ _ _ _ _ _=>rfl)
 have GA:=B.df Q6 (λF=>ZgY F T wV xR xQ xA xu vc) (kM λ_ _ _ _ _ _ _ _ _=>rfl)
 have Gp:=B.df Q5 (λF=>X3 F T GH E4 CP EM GA) (qx λ_ _ _ _ _ _ _=>rfl)
 exact V6 QX T GF Gs Gp
theorem walk {l:W.OpenLaw} {q:Program} {loose:List Str} {XP:(Str->Option Value)->Heap->Prop} {YP:World->Heap->Prop} {d:DefRec} {K:Params->W.Frag} {tp:Addr} (hn:l.most=some 63) (hdf:d.params.defaults=[])
  (hY:∀ (w:World) (h:Heap),YP w h->(K w.params).In h/\h.get? tp=some { cls:=.none,data:=.fields #[] })
  (F:∀ (w:World) (mg:Str->Option Value) (fa:Addr) (h:Heap),(K w.params).In h->h.Ns mainGlobals mg->mg d.name=some (.ref fa) ->
   tabOf (K w.params) "Room" "going" = tp/\(∃ c0,W.codeHdIn (K w.params) c0 tp=true)/\(K w.params).lookup tp=none/\∃ fd:FuncData,(∀ (s:Shared) (u:Value),BindsTo s fd ⟨[u],[]⟩ [("_law_script",u)])/\∀ base:Heap,(K w.params).In base->base.Ns mainGlobals mg->BMod base mg->av l.prog w (K w.params) mg base aV 19 fa fd mw (nQ (K w.params))) :
  W.WalkO q loose XP YP l.row.toRowW d [] (λf vs=>PySem.call f vs) :=
 L2.XC (tp:=tp) (pos:=tpos) (qual:=pU) (G:=λw=>tabOf (K w.params) "Room" "going" = tp) (n:=63) (k:=19) (x := "_law_script") (CX:=λ_=>aV) (sp:=λw=>nQ (K w.params)) hn (by decide) hdf ⟨rfl,by decide,by decide,rfl⟩ hY F (λ_ _ a ns g hl hT hS=>⟨a,ns,rfl,hS,hl,(by unfold Tb; rw [g]; exact hT),λ_=>rfl⟩) λ_ _ _ _ _ z=>z
end nF
namespace PySem.W.Fast
abbrev Q:=Nat
open Lean in
local macro_rules|`(command|#reduce 0)=>do
 let f:=λ(n:Name)=>`(command|def $(mkIdent (.mkSimple s!"tw{n.hash}")):ident:=Q)
 let mut r:=#[<-f `PySem.Challenge.pw_nearstairs_k28_written_through]
 for (x,l) in [("o_",List.range' 43 849),("sts_",[49,92,107,122,137,152,243,245,331,380,585,587,782,863]),("tree_",[47,91,106,121,136,151,242,243,330,379,498,581,585,699,778,862,891]),("env_",[41]),("thread_",[581,778]),("heap_",[39,46,892]),("view_",[39])] do for i in l do r:=r.push (<-f (.str `PySem.Challenge.cw_nearstairs_k28_written_through_holds s!"{x}{i}"))
 return mkNullNode r
#reduce 0
end PySem.W.Fast
open PySem PySem.W PyProof.Rows
set_option maxRecDepth 100000 in
set_option maxHeartbeats 0 in
theorem PySem.Challenge.cw_nearstairs_k28_written_through_holds : PySem.Challenge.rw_nearstairs_k28_written_through.Holds := by
 w_on; o_law; k_head; (case hw=>w_witness2)
 k_fill
 refine nF.walk (l:=PySem.Challenge.rw_nearstairs_k28_written_through) rfl rfl (λw h Y=>⟨PySem.W.km_in_of Y,PySem.W.km_tabs_of Y _ mem_cons_self⟩) ?F
 case F =>
  intro w mg fa h KX G hmg
  refine' nF.V5 KX G hmg ?_ ?_ ?_ ?_ ?_ ?_ ?_ ?_ ?_ ?_ ?_ ?_ ?_ ?_ ?_ ?_ ?_ ?_ ?_ ?_ ?_ ?_ ?_ ?_ ?_ ?_ ?_ ?_ ?_ ?_ ?_ ?_ ?_ ?_ ?_ ?_ ?_ ?_ ?_ ?_ ?_ ?_ ?_ ?_ ?_ ?_ ?_ ?_ ?_ ?_ ?_ ?_ ?_ ?_ ?_ ?_ ?_ ?_ ?_ ?_ ?_ ?_ ?_ ?_ ?_ ?_ ?_ ?_ ?_ ?_ ?_ ?_ ?_ ?_ ?_ ?_ ?_ ?_ ?_ ?_ ?_ ?_ ?_ ?_ ?_ ?_ ?_ ?_ ?_ ?_ ?_ ?_ ?_ ?_ ?_ ?_ ?_ ?_ ?_ ?_ ?_ ?_ ?_ ?_ ?_ ?_ ?_ ?_ ?_ ?_ ?_ ?_ ?_ ?_ ?_ ?_ ?_ ?_ ?_ ?_ ?_ ?_ ?_ ?_ ?_ ?_ ?_ ?_ ?_ ?_ ?_ ?_ ?_ ?_ ?_ ?_ ?_ ?_ ?_ ?_ ?_ ?_ ?_ ?_ ?_ ?_ ?_ ?_ ?_ ?_ ?_ ?_ ?_ ?_
  all_goals try refine' nF.jF.mk ?_ ?_ ?_ ?_
  all_goals try refine' nF.cu.mk ?_ ?_ ?_ ?_ ?_
  all_goals try k_is
  all_goals kernel_rfl
