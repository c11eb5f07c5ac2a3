import PyProof.Rows.All
import Wide.All
import OpenK.AllK
import Wide.FinOn
import Lean
import PyProof.EqAt
import PyProof.EqKinds
import PyProof.TupleCall
import KE.KDictSum
import KE.KTryDeep
import KE.KTryMore
import PyProof.NsDelKeeps
import PyProof.FString
import PyProof.Rows.SetFrom
import KE.KItemsList
import PySem.Challenge.RW_nearstairs_k60_whole_the_last_word_told
open List (all_cons all_eq_true any_cons append_assoc append_nil drop_drop drop_of_length_le drop_sublist drop_take erase_cons_head filter_cons find?_cons getD_eq_getElem?_getD getElem?_append_left getElem?_append_right getElem?_drop getElem?_eq_getElem getElem?_eq_none getElem?_eq_some_iff getElem?_map getElem?_range getElem?_replicate getElem?_set_ne getElem?_set_self getElem_drop getElem_mem getElem_take length_append length_cons length_drop length_filter_le length_map length_range length_replicate length_set length_singleton length_take map_append map_congr_left map_cons map_id map_map map_nil map_set mem_append mem_append_left mem_append_right mem_cons mem_cons_of_mem mem_cons_self mem_erase_of_ne mem_filter mem_iff_getElem mem_map mem_map_of_mem mem_of_getElem? mem_of_mem_erase mem_range mem_replicate mem_singleton nodup_cons nodup_nil not_mem_nil pairwise_append pairwise_cons pairwise_iff_getElem pairwise_map take_append_drop take_of_length_le take_zero)
set_option Elab.async false
set_option compiler.extract_closed false
set_option linter.all false
set_option maxRecDepth 100000
abbrev aBJ:=@if_neg
abbrev ajr:=@if_pos
abbrev awJ:=@PySem.wpAny_bind
abbrev a17:=@Nat.le_refl
abbrev aL6:=@PySem.Heap.get?_push_of_some
abbrev a5h:=@PyProof.Rows.wpS_bind
abbrev afy:=@List.length_map
abbrev aod:=@PyProof.Rows.wpS_pure
abbrev aDe:=@PySem.Heap.lt_size
abbrev a7Y:=@List.getElem?_eq_some_iff
abbrev aOf:=@PySem.wpAny_pure
abbrev aWh:=@PySem.Heap.get?_push_size
abbrev adk:=@List.getElem?_eq_getElem
abbrev aGB:=@Option.some.inj
abbrev aXZ:=@Bool.false_eq_true
abbrev am8:=@Bool.false_ne_true
abbrev aFS:=@Ne.symm
abbrev a19:=@Nat.ne_of_lt
abbrev aHG:=@List.size_toArray
abbrev a7T:=@List.mem_of_getElem?
abbrev aUD:=@Array.length_toList
abbrev awv:=@Nat.le_trans
abbrev ai5:=@List.mem_singleton
abbrev avV:=@Nat.zero_le
abbrev axz:=@Array.getElem?_eq_getElem
abbrev aC3:=@List.getElem?_map
abbrev aM6:=@List.mem_cons
abbrev a7q:=@Nat.lt_of_lt_of_le
abbrev aZE:=@List.mem_cons_of_mem
abbrev agn:=@bind_congr
abbrev aPD:=@List.mem_append
abbrev ap5:=@List.length_append
abbrev bav:=@PySem.sizeLine_eq
abbrev af2:=@List.mem_append_right
abbrev aAz:=@PyProof.Rows.wpS_forRange
abbrev aXu:=@List.getD_eq_getElem?_getD
abbrev an3:=@decide_eq_true
abbrev abW:=@List.mem_cons_self
abbrev aE9:=@if_false
abbrev a7f:=@PyProof.Rows.callWith_type1
abbrev ba7:=@decide_eq_false
abbrev aOy:=@congrArg
abbrev aUi:=@List.getElem?_append_right
abbrev acp:=@PySem.wpAny_mono
abbrev aNy:=@Nat.lt_irrefl
abbrev aRC:=@List.getElem?_append_left
abbrev azX:=@List.not_mem_nil
abbrev a9K:=@List.Nodup.mem_erase_iff
abbrev apT:=@Array.getElem?_toList
abbrev ace:=@List.perm_append_comm
abbrev akt:=@PySem.PassesOwn.never
abbrev aDG:=@Array.toList_append
abbrev axG:=@PyProof.Rows.wpS_mono
abbrev a6c:=@PySem.W.mg_none_of
abbrev aXH:=@Sum.inl.inj
abbrev aA6:=@PySem.F.plainAttrs_list
abbrev aSf:=@if_true
abbrev a8E:=@List.append_assoc
abbrev aAZ:=@List.map_append
abbrev awj:=@List.getElem?_eq_none
abbrev aEW:=@List.nodup_cons
abbrev a8L:=@decide_eq_false_iff_not
abbrev akY:=@List.lookup_cons
abbrev aOs:=@List.mem_cons
abbrev avK:=@or_false
abbrev aV2:=@Nat.le_of_lt
abbrev ali:=@List.mem_map_of_mem
abbrev aDC:=@decide_eq_true_eq
abbrev asO:=@List.map_cons
abbrev aM1:=@List.getElem?_set_ne
abbrev a3u:=@PySem.F.slot_list_append
abbrev aDM:=@PySem.F.type_list_append
abbrev am4:=@List.length_cons
abbrev aVk:=@List.length_take
abbrev aHg:=@PySem.Heap.size_push
abbrev ai7:=@List.getElem?_set_self
abbrev asR:=@PySem.wpAny_truthy_bool
abbrev aL1:=@Nat.ne_of_gt
abbrev aDI:=@PySem.wpAny_field
abbrev aKB:=@Int.le_refl
abbrev a8o:=@Int.le_trans
abbrev aFl:=@PySem.wpAny_holding
abbrev aGk:=@Array.perm_iff_toList_perm
abbrev aCh:=@PyProof.Rows.wpS_modify
abbrev ak3:=@List.mem_of_mem_erase
abbrev a5K:=@PySem.Calls.spliced_cons
abbrev aUj:=@Int.emod_lt_of_pos
abbrev ag2:=@PySem.wpAny_rule
abbrev aLy:=@decide_false
abbrev aUZ:=@List.pairwise_append
abbrev aVA:=@Array.getElem_toList
abbrev aWL:=@Nat.lt_succ_of_lt
abbrev aHA:=@beq_eq_false_iff_ne
abbrev aAw:=@Bool.and_eq_true
abbrev ba8:=@PySem.wpAny_call_entry
abbrev baX:=@PyProof.Rows.wpS_get
abbrev akS:=@List.length_set
abbrev asT:=@PySem.Calls.callWith_builtin
abbrev avW:=@decide_true
abbrev au8:=@List.mem_map
abbrev a4h:=@List.mem_append_left
abbrev a2j:=@Option.map_some
abbrev ahY:=@Nat.not_lt_zero
abbrev a4n:=@Int.emod_nonneg
abbrev aAn:=@PySem.F.slot_tuple_iterator_next
abbrev aTT:=@List.ext_getElem?
abbrev aPj:=@List.drop_of_length_le
abbrev aEt:=@Array.toList_push
abbrev aXR:=@beq_iff_eq
abbrev aiN:=@List.pairwise_iff_getElem
abbrev aBy:=@PySem.W.kia_one
abbrev alb:=@PySem.wpAny_seqItems
abbrev aYI:=@PySem.boot_len
abbrev aay:=@List.length_singleton
abbrev aij:=@PySem.mem_of_lookup
abbrev auI:=@PySem.F.plainAttrs_dict
abbrev a7K:=@PySem.wpAny_callSpecial?_slot
abbrev a9d:=@PySem.Paired.length
abbrev aUa:=@PyProof.Rows.listUpdate_at
abbrev arR:=@List.append_nil
abbrev aGH:=@PySem.wpAny_Call_Name_kw
abbrev axD:=@Nat.lt_of_le_of_lt
abbrev aqS:=@PySem.W.kia_tup
abbrev aHJ:=@PySem.wpAny_setField_rec
abbrev aM2:=@List.pairwise_cons
abbrev aYp:=@List.length_drop
abbrev ba1:=@List.filter_cons
abbrev baF:=@PyProof.Rows.wpS_reverse
abbrev aCy:=@PyProof.Rows.mirror_perm
abbrev aIf:=@Int.add_mul_ediv_right
abbrev aPs:=@Int.ediv_eq_zero_of_lt
abbrev anp:=@PySem.Calls.spliced_nil
abbrev aGu:=@PySem.Heap.get?_push_ne
abbrev aoH:=@Bool.not_eq_true'
abbrev al9:=@List.map_congr_left
abbrev aut:=@PySem.F.slot_dict_pop
abbrev aBu:=@List.Pairwise.sublist
abbrev at7:=@List.length_range
abbrev aa5:=@PySem.Calls.evalArgs_plain
abbrev ak8:=@PySem.wpAny_pyIter_zip
abbrev awL:=@List.take_append_drop
abbrev aBI:=@Array.toList_extract
abbrev aMO:=@List.mem_iff_getElem
abbrev a31:=@PySem.wpAny_newList
abbrev ar6:=@List.perm_ext_iff_of_nodup
abbrev a3i:=@List.getElem_mem
abbrev aTa:=@PySem.wpAny_passesOwn
abbrev a9T:=@List.drop_eq_getElem_cons
abbrev al0:=@List.mem_or_eq_of_mem_set
abbrev ar8:=@List.getElem?_replicate
abbrev aPz:=@Nat.lt_trans
abbrev aYP:=@PySem.tupleKind_room_in1
abbrev bcx:=@Nat.zero_add
abbrev a1l:=@Nat.sub_self
abbrev aeK:=@List.mem_replicate
abbrev aPf:=@PyProof.Rows.boot_sorted
abbrev aTe:=@List.mem_range
abbrev aA5:=@List.getElem?_range
abbrev anW:=@List.find?_cons
abbrev apw:=@List.eraseIdx_cons_succ
abbrev aFs:=@List.getElem?_cons_succ
abbrev aZW:=@PySem.wpAny_newObj_type
abbrev bbt:=@List.take_of_length_le
abbrev bb4:=@PyProof.noPylong_small
abbrev aaC:=@List.all_eq_true
abbrev aWJ:=@Bool.not_true
abbrev aB7:=@List.length_replicate
abbrev ane:=@List.length_filter_le
abbrev aPx:=@PySem.F.slot_dict_get
abbrev ar9:=@Array.getElem_extract
abbrev a5f:=@List.erase_of_not_mem
abbrev bb3:=@Int.mul_ediv_add_emod
abbrev aCE:=@List.mem_filter
abbrev aJ5:=@Bool.eq_iff_iff
abbrev aU9:=@List.forIn_cons
abbrev aQ3:=@List.getElem?_of_mem
abbrev asx:=@Array.Perm.refl
abbrev adP:=@Array.toList_reverse
abbrev akN:=@List.replicate_succ'
namespace L2
open PySem PySem.Spec PyProof.Rows
abbrev Key:=Sum Int Str
def jn:Key->Value->Bool
 | .inl k,v=>Value.isInt k v
 | .inr x,v=>Value.isStrOf x v
def FW (w:World):Key->Int
 | .inl k=>hashInt k
 | .inr x=>hashStr w x
theorem ZD:∀ {k:Key} {v:Value},jn k v=true->(∃ i t,k=Sum.inl i/\v=Value.int i t)\/(∃ x t,k=Sum.inr x/\v=Value.str x t)
 | .inl i,v,h=>by
  obtain ⟨t,e⟩:=Value.isInt_shape (k:=i) (v:=v) h
  exact .inl ⟨i,t,rfl,e⟩
 | .inr x,v,h=>by
  obtain ⟨t,e⟩:=Value.isStrOf_shape (x:=x) (v:=v) h
  exact .inr ⟨x,t,rfl,e⟩
theorem XM (i:Int) (t:Tok):jn (.inl i) (.int i t)=true:=by simp [jn,Value.isInt]
theorem XJ (x:Str) (t:Tok):jn (.inr x) (.str x t)=true:=by simp [jn,Value.isStrOf]
theorem Vf (a b:Int):decide ((Sum.inl a:Key)=Sum.inl b)=(a == b):=by
 by_cases e:a=b
 .subst e; simp
 .have h:¬ (Sum.inl a:Key)=Sum.inl b:=λq=>e (aXH q)
  rw [ba7 h]
  exact (aHA.mpr e).symm
theorem Ve (a b:Str):decide ((Sum.inr a:Key)=Sum.inr b)=decide (a=b):=by
 by_cases e:a=b
 .subst e; simp
 .have h:¬ (Sum.inr a:Key)=Sum.inr b:=λq=>e (Sum.inr.inj q)
  rw [ba7 h,ba7 e]
theorem Vd (a:Int) (b:Str):decide ((Sum.inl a:Key)=Sum.inr b)=false:=ba7 (λq=>nomatch q)
theorem V4 (a:Str) (b:Int):decide ((Sum.inr a:Key)=Sum.inl b)=false:=ba7 (λq=>nomatch q)
def Zx (prog:Program) (w:World):PySem.KeyKind prog w Key where
 is:=jn
 hash:=FW w
 inj:=λv a b ha hb=>by
  rcases ZD ha with ⟨i,t,rfl,rfl⟩ | ⟨x,t,rfl,rfl⟩
  .rcases ZD hb with ⟨j,u,rfl,e⟩ | ⟨y,u,rfl,e⟩
   .injection e with e1 _; rw [e1]
   .exact nomatch e
  .rcases ZD hb with ⟨j,u,rfl,e⟩ | ⟨y,u,rfl,e⟩
   .exact nomatch e
   .injection e with e1 _; rw [e1]
 byValue:=λk v h=>by
  rcases ZD h with ⟨i,t,rfl,rfl⟩ | ⟨x,t,rfl,rfl⟩ <;> rfl
 pyHash:=λhv h=>by
  rcases ZD hv with ⟨i,t,rfl,rfl⟩ | ⟨x,t,rfl,rfl⟩
  .exact wpAny_pyHash_int h
  .exact wpAny_pyHash_str h
 eqBool:=λhu hv h=>by
  rcases ZD hu with ⟨i,t,rfl,rfl⟩ | ⟨x,t,rfl,rfl⟩
  .rcases ZD hv with ⟨j,u,rfl,rfl⟩ | ⟨y,u,rfl,rfl⟩
   .rw [Vf] at h; exact wpAny_eqBool_int h
   .rw [Vd] at h; exact SeqAt.EqAt.int_str i t y u _ _ _ _ h
  .rcases ZD hv with ⟨j,u,rfl,rfl⟩ | ⟨y,u,rfl,rfl⟩
   .rw [V4] at h; exact SeqAt.EqAt.str_int x t j u _ _ _ _ h
   .rw [Ve] at h; exact wpAny_eqBool_str h
 «strs»:=λk x t v h=>by
  rcases ZD h with ⟨i,u,rfl,e⟩ | ⟨y,u,rfl,e⟩
  .exact nomatch e
  .injection e with e1 _
   subst e1
   cases v <;> rfl
theorem Yw (prog:Program) (w:World) (k:Key) (v:Value):(Zx prog w).is k v=jn k v:=rfl
theorem YA (prog:Program) (w:World) (i:Int) (t:Tok):(Zx prog w).is (.inl i) (.int i t)=true:=XM i t
theorem Yz (prog:Program) (w:World) (x:Str) (t:Tok):(Zx prog w).is (.inr x) (.str x t)=true:=XJ x t
inductive V where
 | aR | bl (b:Bool) | int (i:Int) | str (x:Str) | oF (b:Array UInt8) | sO (b:UInt64) | ref (a:Addr) | ty (n:String)
 deriving DecidableEq
def RelV:V->Value->Prop
 | .aR,u=>u=Value.none
 | .bl b,u=>u=Value.bool b
 | .int i,u=>∃ t,u=Value.int i t
 | .str x,u=>∃ t,u=Value.str x t
 | .oF b,u=>∃ t,u=Value.bytes b t
 | .sO b,u=>∃ t,u=Value.float b t
 | .ref a,u=>u=Value.ref a
 | .ty n,u=>u=Value.type n
abbrev Vals:List V->List Value->Prop:=Paired RelV
theorem Vals.length {xs:List V} {us:List Value} (r:Vals xs us):xs.length=us.length:=a9d r
theorem Vals.get:∀ {xs:List V} {us:List Value} {i:Nat} {x:V},Vals xs us->xs[i]?=some x->∃ u,us[i]?=some u/\RelV x u
 | _,_,_,_,.nil,e=>by simp at e
 | _,_,0,_,.cons r _,e=>by simp at e; subst e; exact ⟨_,rfl,r⟩
 | _,_,i+1,x,.cons _ t,e=>by
  obtain ⟨u,h1,h2⟩:=Vals.get (i:=i) (x:=x) t (by simpa using e)
  exact ⟨u,by simpa using h1,h2⟩
theorem Vals.set {x:V} {u:Value} (r:RelV x u):∀ {xs:List V} {us:List Value} (i:Nat),Vals xs us->Vals (xs.set i x) (us.set i u)
 | _,_,_,.nil=>.nil
 | _,_,0,.cons _ t=>.cons r t
 | _,_,i+1,.cons q t=>.cons q (Vals.set r i t)
theorem Vals.append:∀ {xs ys:List V} {us ws:List Value},Vals xs us->Vals ys ws->Vals (xs++ys) (us++ws)
 | _,_,_,_,.nil,s=>s
 | _,_,_,_,.cons r t,s=>.cons r (Vals.append t s)
theorem Vals.take:∀ {xs:List V} {us:List Value} (n:Nat),Vals xs us->Vals (xs.take n) (us.take n)
 | _,_,0,_=>.nil
 | _,_,_+1,.nil=>.nil
 | _,_,n+1,.cons r t=>.cons r (Vals.take n t)
theorem Vals.drop:∀ {xs:List V} {us:List Value} (n:Nat),Vals xs us->Vals (xs.drop n) (us.drop n)
 | _,_,0,r=>r
 | _,_,_+1,.nil=>.nil
 | _,_,n+1,.cons _ t=>Vals.drop n t
def dH:Option V->Option Value->Prop
 | some v,some u=>RelV v u
 | none,none=>True
 | _,_=>False
def KV {κ:Type}:List (κ×V)->List (κ×Value)->Prop:=Paired λ(p:κ×V) (q:κ×Value)=>p.1=q.1/\RelV p.2 q.2
def kV:Key->V
 | .inl i=>.int i
 | .inr x=>.str x
inductive HO where
  | lst (xs:List V)
  | tup (xs:List V)
  | dK (kvs:List (Key×V)) | dT (kvs:List (List Key×V))
  | set (S:Int->Bool) (n:Nat)
  | ins (C dx:Addr) (fs:List (Str×V))
  | own (x:Addr)
  | xd (fs:List (Str×V))
  | met (f x:Addr)
  | Fg (lo hi:Int)
  | cS (o:Obj) (u:HO)
  | j8 (pos:Pos) (qual:Str)
  | ext (φ:Heap->Prop)
abbrev Hp:=Addr->Option HO
def upd (H:Hp) (a:Addr) (o:HO):Hp:=λb=>if b=a then some o else H b
theorem Za {H:Hp} {a:Addr} {o:HO}:upd H a o a=some o:=by unfold upd; rw [ajr rfl]
theorem Zc {H:Hp} {a b:Addr} {o:HO} (h:b≠a):upd H a o b=H b:=by unfold upd; rw [aBJ h]
theorem Ic {H:Hp} {a:Addr} {o u:HO}:upd (upd H a o) a u=upd H a u:=by
 funext b; unfold upd; split <;> rfl
theorem uh {H:Hp} {a b:Addr} {o u:HO} (h:H a=some o) (h':H b=some u) (d:o≠u):a≠b:=by
 intro e; subst e; rw [h] at h'; exact d (aGB h')
theorem Ze {H:Hp} {a b:Addr} {o:HO} (h:H a=some o) (h':H b=none):a≠b:=by
 intro e; subst e; rw [h] at h'; cases h'
section
variable (P:Program) (w:World)
def aI (H:Hp) (h:Heap) (a:Addr):HO->Prop
 | .lst xs=>xs.length<=sizeLine/\∃ (its:List Value) (n:Nat),Vals xs its/\h.get? a=some { cls:=.type "list",data:=.seq its.toArray n }
 | .tup xs=>xs.length<=sizeLine/\∃ its:List Value,Vals xs its/\IsTup h a its.toArray
 | .dK kvs=>kvs.length<=sizeLine/\(a == sysModules)=false/\∃ vs,KV kvs vs/\h.DictOf (Zx P w) a vs
 | .dT kvs=>kvs.length<=sizeLine/\(a == sysModules)=false/\∃ xs:List (List Key×Addr×Value),
   Paired (λ(p:List Key×V) (q:List Key×Addr×Value)=>p.1=q.1/\H q.2.1=some (.tup (p.1.map kV))/\RelV p.2 q.2.2) kvs xs /\
   ∃ o es ep,h.get? a=some o/\o.ExactDict/\o.data=.dict es ep/\es.toList=xs.map (entryOfKey (tupleKind (Zx P w)))/\(xs.map (·.1)).Nodup
 | .set S n=>h.SetOf (intKind P w) a S n
 | .ins C dx fs=>H dx=some (.own a)/\fs.length<=1000/\dx≠a/\h.get? a=some (W.instObj C dx) /\
   ∃ mA,h.Ns1 dx mA/\(∀ f,dH (fs.lookup f) (mA f))/\PySem.Within mA (fs.map (·.1))
 | .own _=>∃ o,h.get? a=some o
 | .xd fs=>∃ mA,h.Ns1 a mA/\∀ f,dH (fs.lookup f) (mA f)
 | .Fg lo hi=>∃ t u v,h.get? a=some { cls:=.type "range",data:=.fields #[.int lo t,.int hi u,.int 1 v] }
 | .cS o u=>h.get? a=some o/\aI H h a u
 | .j8 pos qual=>∃ ps,h.get? a=some { cls:=.none,data:=.fields ps }/\TriplesOk ps.toList/\∀ cv,codeAmong pos ps.toList=some cv->∃ c oc vs t,cv=.ref c/\H c=some (.cS oc (.own a))/\oc.data=.fields vs/\vs[1]?=some (.str qual t)
 | .met f x=>h.get? a=some (W.methodObj (.ref f) (.ref x))
 | .ext φ=>φ h/\(∃ o,h.get? a=some o)/\∀ h1 h2:Heap,φ h1->(∀ o,h1.get? a=some o->h2.get? a=some o)->φ h2
def fc (H:Hp) (h:Heap):Prop:=∀ a o,H a=some o->aI P w H h a o
end
section
variable {P:Program} {w:World} {H H':Hp} {h h':Heap} {a:Addr} {o:HO}
theorem aI.lt (x:aI P w H h a o):a<h.objs.size:=by
 cases o with
 | lst xs=>obtain ⟨_,_,_,_,e⟩:=x; exact aDe e
 | tup xs=>obtain ⟨_,_,_,p⟩:=x; exact p.lt
 | dK kvs=>obtain ⟨_,_,_,_,o,_,_,e,_⟩:=x; exact aDe e
 | dT kvs=>obtain ⟨_,_,_,_,o,_,_,e,_⟩:=x; exact aDe e
 | set S n=>obtain ⟨o,_,_,_,e,_⟩:=x; exact aDe e
 | ins C dx fs=>obtain ⟨_,_,_,e,_⟩:=x; exact aDe e
 | own y=>obtain ⟨_,e⟩:=x; exact aDe e
 | xd fs=>obtain ⟨_,⟨_,_,_,e,_⟩,_⟩:=x; exact aDe e
 | Fg lo hi=>obtain ⟨_,_,_,e⟩:=x; exact aDe e
 | cS ob u=>obtain ⟨e,_⟩:=x; exact aDe e
 | j8 p q=>obtain ⟨_,e,_⟩:=x; exact aDe e
 | met f y=>exact aDe (show h.get? a=some _ from x)
 | ext φ=>obtain ⟨_,⟨_,e⟩,_⟩:=x; exact aDe e
theorem Paired.vF {α β:Type} {F G:α->β->Prop}:∀ {l₁:List α} {l₂:List β},Paired F l₁ l₂->(∀ a b,F a b->G a b)->Paired G l₁ l₂
 | _,_,.nil,_=>.nil
 | _,_,.cons r t,f=>.cons (f _ _ r) (Paired.vF t f)
theorem aI.stay (x:aI P w H h a o) (k:∀ b u,(b=a\/H b=some (.own a))->h.get? b=some u->h'.get? b=some u)
  (ho:∀ b,H b=some (.own a)->H' b=some (.own a)) (ht:∀ b xs,H b=some (.tup xs)->H' b=some (.tup xs))
  (hz:∀ b oz,H b=some (.cS oz (.own a))->H' b=some (.cS oz (.own a)):=by exact λ_ _ q=>q):aI P w H' h' a o:=by
 induction o with
 | lst xs=>obtain ⟨z,its,n,r,e⟩:=x; exact ⟨z,its,n,r,k _ _ (.inl rfl) e⟩
 | tup xs=>obtain ⟨z,its,r,ob,e,c⟩:=x; exact ⟨z,its,r,ob,k _ _ (.inl rfl) e,c⟩
 | dK kvs=>obtain ⟨z,y,vs,r,ob,es,ep,e,c⟩:=x; exact ⟨z,y,vs,r,ob,es,ep,k _ _ (.inl rfl) e,c⟩
 | dT kvs =>
  obtain ⟨z,y,xs,r,ob,es,ep,e,c⟩:=x
  exact ⟨z,y,xs,Paired.vF r λp q z=>⟨z.1,ht _ _ z.2.1,z.2.2⟩,ob,es,ep,k _ _ (.inl rfl) e,c⟩
 | set S n=>obtain ⟨ob,es,ep,t,e,c⟩:=x; exact ⟨ob,es,ep,t,k _ _ (.inl rfl) e,c⟩
 | ins C dx fs =>
  obtain ⟨d,z,ne,e,mA,⟨od,es,ep,e2,c⟩,r⟩:=x
  exact ⟨ho _ d,z,ne,k _ _ (.inl rfl) e,mA,⟨od,es,ep,k _ _ (.inr d) e2,c⟩,r⟩
 | own y=>obtain ⟨ob,e⟩:=x; exact ⟨ob,k _ _ (.inl rfl) e⟩
 | xd fs=>obtain ⟨mA,⟨od,es,ep,e,c⟩,r⟩:=x; exact ⟨mA,⟨od,es,ep,k _ _ (.inl rfl) e,c⟩,r⟩
 | Fg lo hi=>obtain ⟨t,u,v,e⟩:=x; exact ⟨t,u,v,k _ _ (.inl rfl) e⟩
 | cS ob u ih=>obtain ⟨e,q⟩:=x; exact ⟨k _ _ (.inl rfl) e,ih q⟩
 | j8 p q =>
  obtain ⟨ps,e,tr,hc⟩:=x
  refine ⟨ps,k a _ (.inl rfl) e,tr,λcv e1=>?_⟩
  obtain ⟨c,oc,vs,tt,z,e2,r⟩:=hc cv e1
  exact ⟨c,oc,vs,tt,z,hz _ _ e2,r⟩
 | met f y =>
  have e:h.get? a=some (W.methodObj (.ref f) (.ref y)):=x
  show h'.get? a=some (W.methodObj (.ref f) (.ref y))
  exact k a _ (.inl rfl) e
 | ext φ=>obtain ⟨p,⟨o,e⟩,st⟩:=x; exact ⟨st _ _ p λo q=>k _ _ (.inl rfl) q,⟨o,k _ _ (.inl rfl) e⟩,st⟩
theorem fc.lt (x:fc P w H h) (e:H a=some o):a<h.objs.size:=(x a o e).lt
theorem fc.fresh (x:fc P w H h) (e:h.objs.size<=a):H a=none:=by
 cases q:H a with
 | none=>rfl
 | some u=>exact absurd (a7q (x.lt q) e) (aNy _)
theorem fc.kept (x:fc P w H h) (k:∀ b u,h.get? b=some u->h'.get? b=some u):fc P w H h':=λa o e =>
 (x a o e).stay (λb u _ q=>k b u q) (λ_ q=>q) λ_ _ q=>q
theorem fc.laid (x:fc P w H h) (k:∀ b u,h.get? b=some u->h'.get? b=some u) (hp:h.objs.size<=a) (new:aI P w (upd H a o) h' a o):fc P w (upd H a o) h':=λb u e=>by
 have hn:=x.fresh hp
 by_cases hb:b=a
 .subst hb; rw [Za] at e; cases e; exact new
 .rw [Zc hb] at e
  exact (x b u e).stay (λc v _ q=>k c v q) (λc q=>by rw [Zc (Ze q hn)]; exact q) (λc xs q=>by rw [Zc (Ze q hn)]; exact q) λc oz q=>by rw [Zc (Ze q hn)]; exact q
end
def Rd (H:Hp) (a:Addr) (u:HO):Prop:=H a=some u\/∃ o,H a=some (.cS o u)
theorem Rd.ok {P:Program} {w:World} {H:Hp} {h:Heap} {a:Addr} {u:HO} (r:Rd H a u) (x:fc P w H h):aI P w H h a u:=by
 rcases r with r | ⟨o,r⟩
 .exact x a u r
 .obtain ⟨_,q⟩:=x a _ r
  exact q
def BF:Option HO->Prop
 | some (.lst _)=>True
 | some (.dK _)=>True
 | some (.dT _)=>True
 | some (.set _ _)=>True
 | some (.ins _ _ _)=>True
 | some (.ext _)=>True
 | _=>False
section
variable {P:Program} {w:World} {H:Hp} {h h':Heap} {x e:Addr} {o':HO}
theorem fc.write (ok:fc P w H h) (mu:BF (H x)) (he:e=x\/H e=some (.own x)) (k:∀ b u,b≠e->h.get? b=some u->h'.get? b=some u) (xV:∃ u,h'.get? e=some u)
  (new:aI P w (upd H x o') h' x o'):fc P w (upd H x o') h':=λb u q=>by
 have zJ:∀ c y,H c=some (.own y)->c≠x:=λc y r z=>by subst z; rw [r] at mu; exact mu
 have FD:∀ c xs,H c=some (.tup xs)->c≠x:=λc xs r z=>by subst z; rw [r] at mu; exact mu
 by_cases hb:b=x
 .subst hb; rw [Za] at q; cases q; exact new
 .rw [Zc hb] at q
  by_cases vS:b=e
  .have q':H b=some (.own x):=by
    rcases he with z | z
    .exact absurd (vS.trans z) hb
    .rw [vS]; exact z
   rw [q] at q'; cases q'
   obtain ⟨v,hv⟩:=xV
   exact ⟨v,by rw [vS]; exact hv⟩
  .refine (ok b u q).stay (λc v hc r=>k c v ?_ r) (λc r=>by rw [Zc (zJ c b r)]; exact r) (λc xs r=>by rw [Zc (FD c xs r)]; exact r) λc oz r=>by rw [Zc (λz=>by subst z; rw [r] at mu; exact mu)]; exact r
   rcases hc with rfl | hc
   .exact vS
   .rintro rfl
    rcases he with z | z
    .exact zJ c b hc z
    .rw [hc] at z; cases z; exact hb rfl
end
structure Un (fs ex:List Addr) (H H':Hp) (h h':Heap):Prop where
 keep:∀ b o,h.get? b=some o->H b=none->b∉fs->b∉ex->h'.get? b=some o
 slot:∀ b o,h.get? b=some o->H b=none->b∈fs->b∉ex->∃ sl,h'.get? b=some { o with slots:=sl }
 free:∀ b o,h.get? b=some o->H b=none->b∉ex->H' b=none
 there:∀ b o,h.get? b=some o->b∉ex->∃ o',h'.get? b=some o'
 tups:∀ b xs,H b=some (.tup xs)->H' b=some (.tup xs)
 iX:∀ b o u,H b=some (.cS o u)->H' b=some (.cS o u)
 jd:∀ b p q,H b=some (.j8 p q)->H' b=some (.j8 p q)
section
variable {fs fs' ex ex':List Addr} {H H1 H2:Hp} {h h1 h2 h':Heap} {a x e:Addr} {o:HO}
theorem Un.any (u:Un fs ex H H1 h h1) {b:Addr} {ob:Obj} (q:h.get? b=some ob) (n:H b=none) (hx:b∉ex):∃ sl,h1.get? b=some { ob with slots:=sl }:=by
 by_cases hb:b∈fs
 .exact u.slot b ob q n hb hx
 .exact ⟨ob.slots,u.keep b ob q n hb hx⟩
theorem Un.kept (k:∀ b u,h.get? b=some u->h'.get? b=some u):Un fs ex H H h h' :=
 ⟨λb ob q _ _ _=>k b ob q,λb ob q _ _ _=>⟨ob.slots,k b ob q⟩,λ_ _ _ n _=>n,λb ob q _=>⟨ob,k b ob q⟩,λ_ _ q=>q,λ_ _ _ q=>q,λ_ _ _ q=>q⟩
theorem Un.refl:Un fs ex H H h h:=Un.kept λ_ _ q=>q
theorem Un.laid (k:∀ b u,h.get? b=some u->h'.get? b=some u) (hp:h.objs.size<=a) (hn:H a=none):Un fs ex H (upd H a o) h h' where
 keep:=λb u q _ _ _=>k b u q
 slot:=λb u q _ _ _=>⟨u.slots,k b u q⟩
 free:=λb u q n _=>by rw [Zc (a19 (a7q (aDe q) hp))]; exact n
 there:=λb u q _=>⟨u,k b u q⟩
 tups:=λb xs q=>by rw [Zc (Ze q hn)]; exact q
 iX:=λb u xs q=>by rw [Zc (Ze q hn)]; exact q
 jd:=λb _ _ q=>by rw [Zc (Ze q hn)]; exact q
theorem Un.write (mu:BF (H x)) (he:e=x\/H e=some (.own x)) (k:∀ b u,b≠e->h.get? b=some u->h'.get? b=some u) (xV:∃ u,h'.get? e=some u):Un fs ex H (upd H x o) h h':=by
 have hx:∀ b,H b=none->b≠x:=λb n z=>by subst z; rw [n] at mu; exact mu
 have hb:∀ b,H b=none->b≠e:=λb n z=>by
  subst z
  rcases he with r | r
  .exact hx b n r
  .rw [n] at r; cases r
 have hm:∀ b u,H b=some u->¬ BF (some u)->b≠x:=λb u q nm z=>by subst z; rw [q] at mu; exact nm mu
 refine ⟨λb u q n _ _=>k b u (hb b n) q,λb u q n _ _=>⟨u.slots,k b u (hb b n) q⟩,λb u q n _=>by rw [Zc (hx b n)]; exact n,λb u q _=>?_,
  λb xs q=>by rw [Zc (hm b _ q λz=>z)]; exact q,λb u xs q=>by rw [Zc (hm b _ q λz=>z)]; exact q,λb _ _ q=>by rw [Zc (hm b _ q λz=>z)]; exact q⟩
 by_cases vS:b=e
 .subst vS; exact xV
 .exact ⟨u,k b u vS q⟩
end
def Ce (h:Heap) (H:Hp):List Addr:=(List.range h.objs.size).filter λa=>(H a).isSome
def kG (h:Heap) (H:Hp):Heap:=W.hideAll h (Ce h H)
theorem XI (h:Heap) (H:Hp):(kG h H).objs.size=h.objs.size:=W.hideAll_size _ _
theorem IY {h:Heap} {H:Hp} {b:Addr} {o:Obj} (e:h.get? b=some o) (n:H b=none):(kG h H).get? b=some o :=
 W.hideAll_get _ e λhm=>by
  have q:(H b).isSome=true:=(aCE.mp hm).2
  rw [n] at q; simp at q
theorem V6 {h:Heap} {H:Hp} {b:Addr} {o:Obj} (e:(kG h H).get? b=some o):h.get? b=some o/\H b=none:=by
 have e':h.get? b=some o:=W.of_hideAll (Ce h H) e
 refine ⟨e',?_⟩
 cases q:H b with
 | none=>rfl
 | some x =>
  have hm:b∈Ce h H:=aCE.mpr ⟨aTe.mpr (aDe e'),by simp [q]⟩
  have z:(kG h H).get? b=none:=W.hideAll_none (Ce h H) hm
  rw [z] at e; cases e
structure Mod (K:W.Frag) (mg:Str->Option Value) (base:Heap):Prop where
 xQ:K.In base
 glob:base.Ns mainGlobals mg
 blt:∃ mb,base.Ns builtinsNs mb/\∀ x:Str,x ≠ "__name__" -> mb x=bootBuiltins x
 nolimit:base.NoLimit
structure Cx where
 prog:Program
 w:World
 K:W.Frag
 mg:Str->Option Value
 base:Heap
 A:Around
 N:List Str
 s₀:Shared
 H₀:Hp
 env:Env
 outer:List Env
 stack:List Env
 ex:List Addr
 fn:Str->Bool
 calm:Bool
 pn:List (Addr×Obj)
 xe:Value->Shared->Prop
def frs (l:List Env):List Addr:=l.filterMap (·.frame)
abbrev Cx.fs (X:Cx):List Addr:=frs X.outer
def BA (sc:Scope) (x:Str):Prop:=sc.names.lookup x=some .local\/sc.names.lookup x=some .cell\/sc.names.lookup x=some .free
def Loc (sc:Scope) (x:Str):Prop:=sc.names.lookup x=some .local\/sc.names.lookup x=some .cell
def Look (env:Env) (h:Heap) (m:Str->Option Value) (x:Str) (u:Value):Prop :=
 (env.kindOf x=some .local/\m x=some u)\/((env.kindOf x=some .cell\/env.kindOf x=some .free)/\∃ c,env.cells.lookup x=some c/\h.IsCell c (some u))
structure Cx.Ok (X:Cx):Prop where
 mod:Mod X.K X.mg X.base
 kind:X.env.scope.kind=.function
 glob:X.env.globals=mainGlobals
 blt:X.env.builtins=builtinsNs
 above:X.s₀.heap.objs.size<=X.env.locals
 inj:∀ x y c,X.env.cells.lookup x=some c->X.env.cells.lookup y=some c->x=y
 has:∀ x,(X.env.kindOf x=some .cell\/X.env.kindOf x=some .free)->∃ c,X.env.cells.lookup x=some c
 AE:∀ x c,X.fn x=true->X.env.cells.lookup x=some c->X.s₀.heap.objs.size<=c
 hd:X.calm=true->X.A.handled=none
 frames:X.A.frames=some X.stack
 stk:X.stack=X.outer\/(X.stack=X.env :: X.outer/\X.env.frame=some X.env.locals)
 C6:∀ b∈X.ex,b≠X.env.locals/\∀ x c,X.env.cells.lookup x=some c->c≠b
 bs:∀ b o,X.base.get? b=some o->X.s₀.heap.get? b=some o/\X.H₀ b=none
 rE:X.base.objs.size<=X.s₀.heap.objs.size
 qd:∀ b o,X.base.get? b=some o->b∉X.ex
 qD:∀ b∈X.ex,b∉X.fs
 iW:X.s₀.heap.FunFrames X.base X.outer
 vY:∀ b∈X.fs,X.H₀ b=none
structure Inv (X:Cx) (pins:List (Addr×Obj)) (σ:List (Option V)) (H:Hp) (s:Shared):Prop where
 ok:X.Ok
 os:s.os=X.s₀.os
 bare:AllBare s.gens
 base:Un X.fs X.ex X.H₀ H X.s₀.heap s.heap
 loc:∃ m,s.heap.Ns X.env.locals m/\∀ (i:Nat) (x:Str) (v:V),X.N[i]?=some x->σ[i]?=some (some v)->BA X.env.scope x->∃ u,RelV v u/\Look X.env s.heap m x u
 cell:∀ x c,X.env.cells.lookup x=some c->∃ v,s.heap.IsCell c v
 free:H X.env.locals=none
 dD:∀ x c,X.env.cells.lookup x=some c->H c=none
 pin:∀ p∈X.pn++pins,s.heap.get? p.1=some p.2/\H p.1=none/\p.1≠X.env.locals/\p.1∉X.fs/\∀ v,p.2.data≠.cell v
 hok:fc X.prog X.w H s.heap
 len:σ.length=X.N.length
section
variable {X:Cx} {pins:List (Addr×Obj)} {σ:List (Option V)} {H H':Hp} {s:Shared} {h':Heap}
theorem Cx.Ok.FF (ok:X.Ok) {b:Addr} {o:Obj} (e:X.base.get? b=some o):b∉X.fs:=λhb=>by
 have:=(ok.iW.mem hb).1
 rw [e] at this; cases this
theorem Inv.bs (I:Inv X pins σ H s):∀ b o,X.base.get? b=some o->s.heap.get? b=some o/\H b=none:=λb o e =>
 ⟨I.base.keep b o (I.ok.bs b o e).1 (I.ok.bs b o e).2 (I.ok.FF e) (I.ok.qd b o e),I.base.free b o (I.ok.bs b o e).1 (I.ok.bs b o e).2 (I.ok.qd b o e)⟩
theorem Inv.bk (I:Inv X pins σ H s):∀ b o,X.base.get? b=some o->s.heap.get? b=some o:=λb o e=>(I.bs b o e).1
theorem Inv.mod (I:Inv X pins σ H s):Mod X.K X.mg X.base:=I.ok.mod
theorem Inv.dW (I:Inv X pins σ H s):X.K.In s.heap:=I.ok.mod.xQ.keeps I.bk
theorem Inv.nolimit (I:Inv X pins σ H s):s.heap.NoLimit:=I.ok.mod.nolimit.keeps I.bk
theorem Inv.lt (I:Inv X pins σ H s):X.env.locals<s.heap.objs.size:=let ⟨_,hn,_⟩:=I.loc; hn.lt
theorem Inv.sz (I:Inv X pins σ H s):X.s₀.heap.objs.size<=s.heap.objs.size:=awv I.ok.above (aV2 I.lt)
theorem Inv.zK (I:Inv X pins σ H s) {a:Addr} (h:s.heap.objs.size<=a):a∉X.fs:=λhb=>by
 obtain ⟨_,o,ho,_⟩:=I.ok.iW.mem hb
 exact absurd (a7q (aDe ho) (awv I.sz h)) (aNy _)
theorem Inv.rD (I:Inv X pins σ H s):∀ x c,X.env.cells.lookup x=some c->c≠X.env.locals:=λx c e z=>by
 obtain ⟨v,o,ho,hd⟩:=I.cell x c e
 obtain ⟨m,⟨o',es,ep,ho',hd',_⟩,_⟩:=I.loc
 rw [z,ho'] at ho; cases ho; rw [hd'] at hd; cases hd
theorem Inv.iW (I:Inv X pins σ H s):s.heap.FunFrames X.base X.outer:=by
 have all:∀ (l:List Env),(∀ b∈frs l,b∈X.fs)->X.s₀.heap.FunFrames X.base l->s.heap.FunFrames X.base l:=by
  intro l
  induction l with
  | nil=>intro _ _; trivial
  | cons env r ih =>
   intro hs hl
   obtain ⟨hk,⟨L,o,hf,hn,ho,hd⟩,hr⟩:=hl
   have hL:L∈X.fs:=hs L (by unfold frs; rw [List.filterMap_cons,hf]; exact abW)
   obtain ⟨sl,e⟩:=I.base.slot L o ho (I.ok.vY L hL) hL λz=>I.ok.qD L z hL
   exact ⟨hk,⟨L,_,hf,hn,e,hd⟩,ih (λb hb=>hs b (by unfold frs; rw [List.filterMap_cons,hf]; exact aZE _ hb)) hr⟩
 exact all X.outer (λ_ hb=>hb) I.ok.iW
theorem Inv.stack (I:Inv X pins σ H s):s.heap.FunFrames X.base X.stack:=by
 rcases I.ok.stk with e | ⟨e,hf⟩
 .rw [e]; exact I.iW
 .rw [e]
  obtain ⟨m,hn,_⟩:=I.loc
  refine .cons (by rw [I.ok.kind]; decide) hf hn ?_ I.iW
  exact Heap.get?_none_of_le (awv I.ok.rE I.ok.above)
theorem Inv.j9 (I:Inv X pins σ H s):∀ b∈frs X.stack,b∈X.env.locals :: X.fs:=λb hb=>by
 rcases I.ok.stk with e | ⟨e,hf⟩
 .rw [e] at hb; exact aZE _ hb
 .rw [e] at hb
  unfold frs at hb
  rw [List.filterMap_cons,hf] at hb
  exact hb
theorem Inv.kg (I:Inv X pins σ H s):∀ b∈frs X.stack,H b=none:=λb hb=>by
 rcases aM6.mp (I.j9 b hb) with e | hb
 .rw [e]; exact I.free
 .obtain ⟨_,o,ho,_⟩:=I.ok.iW.mem hb
  exact I.base.free b o ho (I.ok.vY b hb) λz=>I.ok.qD b z hb
theorem Inv.step {g':Array GenState} {t':Nat} {d':Drawn} {ch:List Addr} (I:Inv X pins σ H s)
  (hch:∀ b∈ch,(b∈X.ex\/X.s₀.heap.objs.size<=b)/\b≠X.env.locals/\(∀ x c,X.env.cells.lookup x=some c->c≠b)/\∀ p∈X.pn++pins,p.1≠b)
  (keep:∀ b o,b≠X.env.locals->b∉X.fs->b∉ch->s.heap.get? b=some o->H b=none->h'.get? b=some o)
  (slot:∀ b o,b≠X.env.locals->b∈X.fs->b∉ch->s.heap.get? b=some o->H b=none->∃ sl,h'.get? b=some { o with slots:=sl }) (free:∀ b o,b∉ch->s.heap.get? b=some o->H b=none->H' b=none)
  (there:∀ b o,b∉ch->s.heap.get? b=some o->∃ o',h'.get? b=some o')
  (tups:∀ b xs,H b=some (.tup xs)->H' b=some (.tup xs)) (iX:∀ b o u,H b=some (.cS o u)->H' b=some (.cS o u)) (jd:∀ b p q,H b=some (.j8 p q)->H' b=some (.j8 p q))
  (ns:∀ m,s.heap.Ns X.env.locals m->h'.Ns X.env.locals m) (hok:fc X.prog X.w H' h') (hg:AllBare g') :
  Inv X pins σ H' { s with heap:=h',gens:=g',drawn:=d',toks:=t' }:=by
 have Lz:∀ b o,X.s₀.heap.get? b=some o->b≠X.env.locals:=λb o e=>a19 (a7q (aDe e) I.ok.above)
 have CA:∀ b o,X.s₀.heap.get? b=some o->b∉X.ex->b∉ch:=λb o e hx hb=>by
  rcases (hch b hb).1 with z | z
  .exact hx z
  .exact absurd (a7q (aDe e) z) (aNy _)
 have cellK:∀ x c,X.env.cells.lookup x=some c->∀ v,s.heap.IsCell c v->h'.IsCell c v:=λx c e v ⟨o,ho,hd⟩=>by
  have zP:c∉ch:=λz=>(hch c z).2.2.1 x c e rfl
  by_cases hc:c∈X.fs
  .obtain ⟨sl,q⟩:=slot c o (I.rD x c e) hc zP ho (I.dD x c e)
   exact ⟨_,q,hd⟩
  .exact ⟨o,keep c o (I.rD x c e) hc zP ho (I.dD x c e),hd⟩
 refine ⟨I.ok,I.os,hg,⟨λb o e n hb hx=>?_,λb o e n hb hx=>?_,λb o e n hx=>?_,λb o e hx=>?_,λb xs e=>tups b xs (I.base.tups b xs e),λb o xs e=>iX b o xs (I.base.iX b o xs e),λb p r e=>jd b p r (I.base.jd b p r e)⟩,?_,λx c e=>?_,?_,λx c e=>?_,λp hp=>?_,hok,I.len⟩
 .exact keep b o (Lz b o e) hb (CA b o e hx) (I.base.keep b o e n hb hx) (I.base.free b o e n hx)
 .obtain ⟨sl,e1⟩:=I.base.slot b o e n hb hx
  obtain ⟨RN,e2⟩:=slot b _ (Lz b o e) hb (CA b o e hx) e1 (I.base.free b o e n hx)
  exact ⟨RN,e2⟩
 .obtain ⟨o',e1⟩:=I.base.there b o e hx
  exact free b o' (CA b o e hx) e1 (I.base.free b o e n hx)
 .obtain ⟨o',e1⟩:=I.base.there b o e hx
  exact there b o' (CA b o e hx) e1
 .obtain ⟨m,hn,hl⟩:=I.loc
  refine ⟨m,ns m hn,λi x v e1 e2 e3=>?_⟩
  obtain ⟨u,r,l⟩:=hl i x v e1 e2 e3
  refine ⟨u,r,?_⟩
  rcases l with l | ⟨k,c,e,z⟩
  .exact .inl l
  .exact .inr ⟨k,c,e,cellK x c e _ z⟩
 .obtain ⟨v,z⟩:=I.cell x c e
  exact ⟨v,cellK x c e v z⟩
 .obtain ⟨m,⟨o,_,_,ho,_⟩,_⟩:=I.loc
  exact free _ o (λz=>(hch _ z).2.1 rfl) ho I.free
 .obtain ⟨v,o,ho,hd⟩:=I.cell x c e
  exact free c o (λz=>(hch c z).2.2.1 x c e rfl) ho (I.dD x c e)
 .obtain ⟨e,n,ne,nf,d⟩:=I.pin p hp
  have zP:p.1∉ch:=λz=>(hch p.1 z).2.2.2 p hp rfl
  exact ⟨keep p.1 p.2 ne nf zP e n,free p.1 p.2 zP e n,ne,nf,d⟩
theorem Inv.un {t':Nat} (I:Inv X pins σ H s) (u:Un X.fs [] H H' s.heap h') (hok:fc X.prog X.w H' h'):Inv X pins σ H' { s with heap:=h',toks:=t' }:=by
 obtain ⟨m,⟨o,es,ep,ho,r⟩,_⟩:=id I.loc
 obtain ⟨sl,hL⟩:=u.any ho I.free (by simp)
 exact I.step (g':=s.gens) (d':=s.drawn) (ch:=[]) (λ_ z=>nomatch z) (λb o _ hb _ e n=>u.keep b o e n hb (by simp)) (λb o _ hb _ e n=>u.slot b o e n hb (by simp)) (λb o _ e n=>u.free b o e n (by simp)) (λb o _ e=>u.there b o e (by simp)) u.tups u.iX u.jd (λm' hm=>by
  obtain ⟨o',es',GV,ho',r'⟩:=hm
  rw [ho] at ho'; cases ho'
  exact ⟨_,es',GV,hL,r'⟩) hok I.bare
theorem Inv.call {g':Array GenState} {t':Nat} {d':Drawn} {ch:List Addr} (I:Inv X pins σ H s) (u:Un (frs X.stack) ch H H' s.heap h') (hok:fc X.prog X.w H' h') (hg:AllBare g')
  (hch:∀ b∈ch,(b∈X.ex\/X.s₀.heap.objs.size<=b)/\b≠X.env.locals/\(∀ x c,X.env.cells.lookup x=some c->c≠b)/\∀ p∈X.pn++pins,p.1≠b) :
  Inv X pins σ H' { s with heap:=h',gens:=g',drawn:=d',toks:=t' }:=by
 obtain ⟨m,⟨o,es,ep,ho,r⟩,_⟩:=id I.loc
 obtain ⟨sl,hL⟩:=u.any ho I.free λz=>(hch _ z).2.1 rfl
 exact I.step (ch:=ch) hch (λb o hL hb hc e n=>u.keep b o e n (λz=>(aM6.mp (I.j9 b z)).elim hL hb) hc) (λb o _ _ hc e n=>u.any e n hc) (λb o hc e n=>u.free b o e n hc) (λb o hc e=>u.there b o e hc) u.tups u.iX u.jd (λm' hm=>by
  obtain ⟨o',es',GV,ho',r'⟩:=hm
  rw [ho] at ho'; cases ho'
  exact ⟨_,es',GV,hL,r'⟩) hok hg
theorem Inv.turned {t':Nat} {it:Addr} (I:Inv X pins σ H s) (k:∀ b o,b≠it->s.heap.get? b=some o->h'.get? b=some o) (hn:H it=none) (hL:it≠X.env.locals)
  (h1:it∈X.ex\/X.s₀.heap.objs.size<=it) (h2:∀ x c,X.env.cells.lookup x=some c->c≠it) (h3:∀ p∈X.pn++pins,p.1≠it):Inv X pins σ H { s with heap:=h',toks:=t' }:=by
 have Lw:∀ b u,H b=some u->b≠it:=λb u e z=>by rw [z,hn] at e; cases e
 refine I.step (g':=s.gens) (d':=s.drawn) (ch:=[it]) (λb hb=>?_) (λb o _ _ hc e _=>k b o (λz=>hc (by simp [z])) e) (λb o _ _ hc e _=>⟨o.slots,k b o (λz=>hc (by simp [z])) e⟩) (λ_ _ _ _ n=>n)
  (λb o hc e=>⟨o,k b o (λz=>hc (by simp [z])) e⟩) (λ_ _ e=>e) (λ_ _ _ e=>e) (λ_ _ _ e=>e) (λm hm=>?_) (λb u e=>?_) I.bare
 .have e:b=it:=by simpa using hb
  subst e
  exact ⟨h1,hL,h2,h3⟩
 .obtain ⟨o,es,ep,ho,r⟩:=hm
  exact ⟨o,es,ep,k _ o (aFS hL) ho,r⟩
 .refine (I.hok b u e).stay (λc v hc q=>k c v ?_ q) (λ_ q=>q) λ_ _ q=>q
  rcases hc with z | z
  .rw [z]; exact Lw b u e
  .exact Lw c _ z
theorem Inv.tok (I:Inv X pins σ H s) (t:Nat):Inv X pins σ H { s with toks:=t }:=I.un (h':=s.heap) (t':=t) Un.refl I.hok
theorem Inv.kept {t':Nat} (I:Inv X pins σ H s) (k:∀ b u,s.heap.get? b=some u->h'.get? b=some u):Inv X pins σ H { s with heap:=h',toks:=t' }:=I.un (Un.kept k) (I.hok.kept k)
theorem Inv.laid {a:Addr} {o:HO} {t':Nat} (I:Inv X pins σ H s) (k:∀ b u,s.heap.get? b=some u->h'.get? b=some u) (hp:s.heap.objs.size<=a) (new:aI X.prog X.w (upd H a o) h' a o) :
  Inv X pins σ (upd H a o) { s with heap:=h',toks:=t' }:=I.un (Un.laid k hp (I.hok.fresh hp)) (I.hok.laid k hp new)
theorem Inv.write {x e:Addr} {o:HO} {t':Nat} (I:Inv X pins σ H s) (mu:BF (H x)) (he:e=x\/H e=some (.own x)) (k:∀ b u,b≠e->s.heap.get? b=some u->h'.get? b=some u) (xV:∃ u,h'.get? e=some u)
  (new:aI X.prog X.w (upd H x o) h' x o):Inv X pins σ (upd H x o) { s with heap:=h',toks:=t' }:=I.un (Un.write mu he k xV) (I.hok.write mu he k xV new)
theorem Inv.nS {cB:List (Addr×Obj)} (I:Inv X pins σ H s) (h:∀ p∈cB,s.heap.get? p.1=some p.2/\H p.1=none/\p.1≠X.env.locals/\p.1∉X.fs/\∀ v,p.2.data≠.cell v):Inv X cB σ H s :=
 ⟨I.ok,I.os,I.bare,I.base,I.loc,I.cell,I.free,I.dD,λp hp=>(aPD.mp hp).elim (λz=>I.pin p (a4h _ z)) (h p),I.hok,I.len⟩
theorem OH {N:List Str} (hN:N.Nodup) {i j:Nat} {x:Str} (a:N[i]?=some x) (b:N[j]?=some x):i=j:=by
 obtain ⟨h1,e1⟩:=a7Y.mp a
 obtain ⟨h2,e2⟩:=a7Y.mp b
 exact (List.getElem_inj hN).mp (e1.trans e2.symm)
theorem Po {M:Model} {A:Around} {E:Value->Shared->Prop} {i:Nat} {x:Str} {v:V} {u:Value} {Q:Unit->Shared->Prop} (I:Inv X pins σ H s) (hN:X.N.Nodup) (hi:X.N[i]?=some x) (hx:Loc X.env.scope x) (r:RelV v u)
  (h:∀ s',Inv X pins (σ.set i (some v)) H s'->(∃ a,Heap.SameBut a s.heap s'.heap/\(a=X.env.locals\/X.env.cells.lookup x=some a))->Q () s') (hf:X.fn x=true\/X.env.scope.names.lookup x=some .local:=by first | exact .inl rfl | exact .inr rfl | assumption):wpAny M A (storeName X.env x u) Q E s:=by
 obtain ⟨m,hn,hl⟩:=id I.loc
 have hcls:(X.env.scope.kind == .class || (X.env.scope.kind == .module && X.env.locals != X.env.globals))=false:=by rw [I.ok.kind]; rfl
 have Ao:i<σ.length:=by rw [I.len]; exact (a7Y.mp hi).1
 have rD:=I.rD
 have tracked:∀ {a:Addr} {h':Heap},(∃ o,s.heap.get? a=some o/\H a=none)->Heap.SameBut a s.heap h'->fc X.prog X.w H h':=λ{a h'} ha hs b ob e=>by
  obtain ⟨_,_,hfree⟩:=ha
  refine (I.hok b ob e).stay (λc w' hc q=>(hs.2 c ?_).trans q) (λ_ q=>q) λ_ _ q=>q
  rintro rfl
  rcases hc with rfl | hc
  .rw [hfree] at e; cases e
  .rw [hfree] at hc; cases hc
 rcases hx with hk | hk
 .refine wpAny_storeName_local hk hn (λh' hn' hs=>?_) hcls
  obtain ⟨oL,_,_,kL,_⟩:=id hn
  refine h _ ⟨I.ok,I.os,I.bare,⟨λb o e n hb hx=>?_,λb o e n hb hx=>?_,I.base.free,λb o e hx=>?_,I.base.tups,I.base.iX,I.base.jd⟩,⟨_,hn',λj y v' e1 e2 e3=>?_⟩,λy c e=>?_,I.free,I.dD,λp hp=>?_,tracked ⟨oL,kL,I.free⟩ hs,by simpa using I.len⟩ ⟨_,hs,.inl rfl⟩
  .exact (hs.2 b (a19 (a7q (aDe e) I.ok.above))).trans (I.base.keep b o e n hb hx)
  .obtain ⟨sl,e1⟩:=I.base.slot b o e n hb hx
   exact ⟨sl,(hs.2 b (a19 (a7q (aDe e) I.ok.above))).trans e1⟩
  .obtain ⟨o',e1⟩:=I.base.there b o e hx
   exact ⟨o',(hs.2 b (a19 (a7q (aDe e) I.ok.above))).trans e1⟩
  .by_cases hj:j=i
   .subst hj
    rw [hi] at e1; cases e1
    rw [ai7 Ao] at e2
    cases e2
    exact ⟨u,r,.inl ⟨hk,by simp⟩⟩
   .rw [aM1 (aFS hj)] at e2
    obtain ⟨u',r',q⟩:=hl j y v' e1 e2 e3
    refine ⟨u',r',?_⟩
    rcases q with ⟨k,e⟩ | ⟨k,c,e,z⟩
    .refine .inl ⟨k,?_⟩
     have:y≠x:=λe=>hj (OH hN e1 (e ▸ hi))
     simp [this,e]
    .exact .inr ⟨k,c,e,z.sameBut hs (rD y c e)⟩
  .obtain ⟨w',z⟩:=I.cell y c e
   exact ⟨w',z.sameBut hs (rD y c e)⟩
  .obtain ⟨e,n,ne,nf,d⟩:=I.pin p hp
   exact ⟨(hs.2 p.1 ne).trans e,n,ne,nf,d⟩
 .have hfn:X.fn x=true:=by
   rcases hf with z | z
   .exact z
   .rw [z] at hk; cases hk
  obtain ⟨c,hc⟩:=I.ok.has x (.inl hk)
  obtain ⟨w',z⟩:=I.cell x c hc
  refine wpAny_storeName_cell I.ok.kind hk hc z (λh' hc' hs=>?_)
  obtain ⟨oc,hoc,Gw⟩:=id z
  refine h { s with heap:=h' } ⟨I.ok,I.os,I.bare,⟨λb o e n hb hx=>?_,λb o e n hb hx=>?_,I.base.free,λb o e hx=>?_,I.base.tups,I.base.iX,I.base.jd⟩,⟨m,hn.sameBut hs (aFS (rD x c hc)),λj y v' e1 e2 e3=>?_⟩,λy c' e=>?_,I.free,I.dD,λp hp=>?_,tracked ⟨oc,hoc,I.dD x c hc⟩ hs,by simpa using I.len⟩ ⟨c,hs,.inr hc⟩
  .exact (hs.2 b (a19 (a7q (aDe e) (I.ok.AE x c hfn hc)))).trans (I.base.keep b o e n hb hx)
  .obtain ⟨sl,e1⟩:=I.base.slot b o e n hb hx
   exact ⟨sl,(hs.2 b (a19 (a7q (aDe e) (I.ok.AE x c hfn hc)))).trans e1⟩
  .obtain ⟨o',e1⟩:=I.base.there b o e hx
   exact ⟨o',(hs.2 b (a19 (a7q (aDe e) (I.ok.AE x c hfn hc)))).trans e1⟩
  .by_cases hj:j=i
   .subst hj
    rw [hi] at e1; cases e1
    rw [ai7 Ao] at e2
    cases e2
    exact ⟨u,r,.inr ⟨.inl hk,c,hc,hc'⟩⟩
   .rw [aM1 (aFS hj)] at e2
    obtain ⟨u',r',q⟩:=hl j y v' e1 e2 e3
    refine ⟨u',r',?_⟩
    rcases q with q | ⟨k,c',e,z'⟩
    .exact .inl q
    .refine .inr ⟨k,c',e,z'.sameBut hs ?_⟩
     rintro rfl
     exact hj (OH hN e1 (I.ok.inj _ _ _ e hc ▸ hi))
  .by_cases hcc:c'=c
   .subst hcc; exact ⟨_,hc'⟩
   .obtain ⟨w2,z2⟩:=I.cell y c' e
    exact ⟨w2,z2.sameBut hs hcc⟩
  .obtain ⟨e,n,ne,nf,d⟩:=I.pin p hp
   refine ⟨(hs.2 p.1 ?_).trans e,n,ne,nf,d⟩
   intro q
   rw [q,hoc] at e
   have q':oc=p.2:=aGB e
   exact d w' (by rw [← q']; exact Gw)
theorem Zip {M:Model} {A:Around} {E:Value->Shared->Prop} {i:Nat} {x:Str} {v:V} {u:Value} {Q:Unit->Shared->Prop} (I:Inv X pins σ H s) (hN:X.N.Nodup) (hi:X.N[i]?=some x) (hx:Loc X.env.scope x) (r:RelV v u)
  (h:∀ s',Inv X pins (σ.set i (some v)) H s'->Q () s') (hf:X.fn x=true\/X.env.scope.names.lookup x=some .local:=by first | exact .inl rfl | exact .inr rfl | assumption):wpAny M A (storeName X.env x u) Q E s :=
 Po I hN hi hx r (λs' I' _=>h s' I') hf
theorem Inv.AD {s':Shared} {ch:List Addr} (I:Inv X pins σ H s) (ho:s'.os=s.os) (u:Un (frs X.stack) ch H H' s.heap s'.heap) (hok:fc X.prog X.w H' s'.heap) (hg:AllBare s'.gens)
  (hch:∀ b∈ch,(b∈X.ex\/X.s₀.heap.objs.size<=b)/\b≠X.env.locals/\(∀ x c,X.env.cells.lookup x=some c->c≠b)/\∀ p∈X.pn++pins,p.1≠b):Inv X pins σ H' s':=by
 obtain ⟨h',g',d',t',o'⟩:=s'
 have e:o'=s.os:=ho
 subst e
 exact I.call (g':=g') (t':=t') (d':=d') u hok hg hch
end
abbrev XK:=Value->Option Addr->Hp->Prop
abbrev St:=List (Option V)
abbrev VK:=V->Hp->Prop
abbrev TE:=St->Hp->VK->Prop
abbrev TT:=St->Hp->(Bool->Hp->Prop)->Prop
abbrev TA:=St->Hp->(List V->Hp->Prop)->Prop
structure Ends where
 nx:St->Hp->Prop
 rt:VK
 bk:St->Hp->Prop:=λ_ _=>False
 ct:St->Hp->Prop:=λ_ _=>False
abbrev TS:=Ends->St->Hp->Prop
def EP (X:Cx) (pins:List (Addr×Obj)) (σ:St) (Q:VK) (u:Value) (s':Shared):Prop:=∃ v H',Inv X pins σ H' s'/\RelV v u/\Q v H'
def TP (X:Cx) (pins:List (Addr×Obj)) (σ:St) (Q:Bool->Hp->Prop) (b:Bool) (s':Shared):Prop:=∃ H',Inv X pins σ H' s'/\Q b H'
def AP (X:Cx) (pins:List (Addr×Obj)) (σ:St) (Q:List V->Hp->Prop) (us:List Value) (s':Shared):Prop:=∃ vs H',Inv X pins σ H' s'/\Vals vs us/\Q vs H'
def SP (X:Cx) (pins:List (Addr×Obj)) (D:Ends) (f:Flow) (s':Shared):Prop :=
 match f with
 | .next=>∃ σ' H',Inv X pins σ' H' s'/\D.nx σ' H'
 | .brk=>∃ σ' H',Inv X pins σ' H' s'/\D.bk σ' H'
 | .cont=>∃ σ' H',Inv X pins σ' H' s'/\D.ct σ' H'
 | .ret u=>∃ v σ' H',Inv X pins σ' H' s'/\RelV v u/\D.rt v H'
def PE (X:Cx) (e:Expr) (t:TE):Prop :=
 ∀ (pins:List (Addr×Obj)) (s:Shared) (σ:St) (H:Hp) (Q:VK),Inv X pins σ H s->t σ H Q->wpAny (model X.prog X.w) X.A (eval e X.env) (EP X pins σ Q) X.xe s
def PT (X:Cx) (e:Expr) (t:TT):Prop :=
 ∀ (pins:List (Addr×Obj)) (s:Shared) (σ:St) (H:Hp) (Q:Bool->Hp->Prop),Inv X pins σ H s->t σ H Q->wpAny (model X.prog X.w) X.A (isTrue e X.env (eval e X.env)) (TP X pins σ Q) X.xe s
def PW (X:Cx) (e:Expr) (t:TT):Prop :=
 ∀ (whole:Sem Value) (pins:List (Addr×Obj)) (s:Shared) (σ:St) (H:Hp) (Q:Bool->Hp->Prop),Inv X pins σ H s->t σ H Q->wpAny (model X.prog X.w) X.A (isTrue e X.env whole) (TP X pins σ Q) X.xe s
theorem PW.pt {X:Cx} {e:Expr} {t:TT} (h:PW X e t):PT X e t:=h _
def PA (X:Cx) (es:List Expr) (t:TA):Prop :=
 ∀ (pos:Pos) (pins:List (Addr×Obj)) (s:Shared) (σ:St) (H:Hp) (Q:List V->Hp->Prop),Inv X pins σ H s->t σ H Q->wpAny (model X.prog X.w) X.A (spliced (backTo pos (starEach es X.env))) (AP X pins σ Q) X.xe s
def PS (X:Cx) (st:Stmt) (t:TS):Prop :=
 ∀ (pins:List (Addr×Obj)) (s:Shared) (σ:St) (H:Hp) (D:Ends),Inv X pins σ H s->t D σ H->wpAny (model X.prog X.w) X.A (exec st X.env) (SP X pins D) X.xe s
def oM (X:Cx) (st:List Stmt) (t:TS):Prop :=
 ∀ (pins:List (Addr×Obj)) (s:Shared) (σ:St) (H:Hp) (D:Ends),Inv X pins σ H s->t D σ H->wpAny (model X.prog X.w) X.A (execs st X.env) (SP X pins D) X.xe s
theorem aJ {α:Type} {t:Sem α} {Q Q':α->Shared->Prop} {M:Model} {A:Around} {E:Value->Shared->Prop} {s:Shared} (h:wpAny M A t Q E s) (hQ:∀ a s,Q a s->Q' a s):wpAny M A t Q' E s:=acp h hQ λ_ _ x=>x
section
variable {X:Cx}
def yK (i:Nat):TE:=λσ H Q=>∃ v,σ[i]?=some (some v)/\Q v H
def tC (v:V):TE:=λ_ H Q=>Q v H
theorem V3 {i:Nat} {x:Str} {pos:Pos} (hN:X.N[i]?=some x) (hv:BA X.env.scope x) (hd:(x == ("__debug__" : Str))=false:=by decide) (hcd:(x == ("__classdict__" : Str))=false:=by decide):PE X (.Name x pos) (yK i):=by
 intro pins s σ H Q I h
 obtain ⟨v,e,h⟩:=h
 obtain ⟨m,hn,hl⟩:=I.loc
 obtain ⟨u,r,l⟩:=hl i x v hN e hv
 have fin:EP X pins σ Q u s:=⟨v,H,I,r,h⟩
 rcases l with ⟨hk,hm⟩ | ⟨hk,c,hc,hcell⟩
 .exact wpAny_Name (wpAny_loadName_local I.ok.kind hk hn hm fin) hd
 .rcases hk with hk | hk
  .exact wpAny_Name (wpAny_loadName_cell I.ok.kind hk hc hcell fin) hd
  .exact wpAny_Name (wpAny_loadName_free I.ok.kind hk hc hcell fin hcd) hd
theorem Zj {i j pos}:PE X (.Constant (.int i) j pos) (tC (.int i)):=λ_ _ _ H _ I h=>wpAny_Constant_int ⟨.int i,H,I.tok _,⟨_,rfl⟩,h⟩
theorem eN {b j pos}:PE X (.Constant (.bool b) j pos) (tC (.bl b)):=λ_ _ _ H _ I h=>Constant_bool ⟨.bl b,H,I,rfl,h⟩
theorem V2 {j pos}:PE X (.Constant .none j pos) (tC .aR):=λ_ _ _ H _ I h=>Constant_none ⟨.aR,H,I,rfl,h⟩
theorem j5 {x j pos}:PE X (.Constant (.str x) j pos) (tC (.str x)):=λ_ _ _ H _ I h=>Calls.Constant_str ⟨.str x,H,I.tok _,⟨_,rfl⟩,h⟩
def Gl (X:Cx) (x:Str):Prop:=X.env.kindOf x=some .globalImplicit
theorem Iw {E:Value->Shared->Prop} {pins:List (Addr×Obj)} {s:Shared} {σ:St} {H:Hp} {x:Str} {u:Value} {pos:Pos} {Q:Value->Shared->Prop} (I:Inv X pins σ H s) (hg:Gl X x) (hm:X.mg x=some u) (h:Q u s)
  (hd:(x == ("__debug__" : Str))=false:=by decide):wpAny (model X.prog X.w) X.A (eval (.Name x pos) X.env) Q E s :=
 Calls.Name_function_global I.ok.kind hg (Calls.loadGlobal_global (by rw [I.ok.glob]; exact I.mod.glob.keeps I.bk) hm h) hd
theorem pB {E:Value->Shared->Prop} {pins:List (Addr×Obj)} {s:Shared} {σ:St} {H:Hp} {x:Str} {u:Value} {pos:Pos} {Q:Value->Shared->Prop} (I:Inv X pins σ H s) (hg:Gl X x) (hm:X.mg x=none) (hv:bootBuiltins x=some u) (h:Q u s)
  (hn:x ≠ "__name__" := by decide) (hd:(x == ("__debug__" : Str))=false:=by decide):wpAny (model X.prog X.w) X.A (eval (.Name x pos) X.env) Q E s:=by
 obtain ⟨mb,h1,h2⟩:=I.mod.blt
 exact Calls.Name_function_global I.ok.kind hg (Calls.loadGlobal_builtin (by rw [I.ok.glob]; exact I.mod.glob.keeps I.bk) hm (by rw [I.ok.blt]; exact h1.keeps I.bk) ((h2 x hn).trans hv) h) hd
theorem V5 {x:Str} {v:V} {u:Value} {pos:Pos} (hg:Gl X x) (hm:X.mg x=some u) (r:RelV v u) (hd:(x == ("__debug__" : Str))=false:=by decide):PE X (.Name x pos) (tC v) :=
 λ_ _ _ H _ I h=>Iw I hg hm ⟨v,H,I,r,h⟩ hd
theorem pC {x:Str} {v:V} {u:Value} {pos:Pos} (hg:Gl X x) (hm:X.mg x=none) (hv:bootBuiltins x=some u) (r:RelV v u) (hn:x ≠ "__name__" := by decide) (hd:(x == ("__debug__" : Str))=false:=by decide):PE X (.Name x pos) (tC v) :=
 λ_ _ _ H _ I h=>pB I hg hm hv ⟨v,H,I,r,h⟩ hn hd
variable {a b:Expr} {ta tb:TE} {pos:Pos}
def PC (X:Cx) (op:CmpOp) (a b:Expr) (t:TE):Prop :=
 ∀ (pins:List (Addr×Obj)) (s:Shared) (σ:St) (H:Hp) (Q:VK),Inv X pins σ H s->t σ H Q ->
  wpAny (model X.prog X.w) X.A (eval a X.env) (λv s₁=>wpAny (model X.prog X.w) X.A (eval b X.env) (λu s₂=>wpAny (model X.prog X.w) X.A (compareOp op v u) (EP X pins σ Q) X.xe s₂) X.xe s₁) X.xe s
theorem OG (b:Expr) {op:CmpOp} (h:op≠.In) (h2:op≠.NotIn):behindInMarks op b=false:=by
 have e1:(op == CmpOp.In)=false:=by cases op <;> first | rfl | exact absurd rfl h
 have e2:(op == CmpOp.NotIn)=false:=by cases op <;> first | rfl | exact absurd rfl h2
 cases b <;> simp [behindInMarks,e1,e2]
def E4 (ta:TE):TE:=λσ H Q=>ta σ H λx H1=>Q (.bl (decide (x=.aR))) H1
def yN (ta:TE):TE:=λσ H Q=>ta σ H λx H1=>Q (.bl (!decide (x=.aR))) H1
theorem RelV.k6 {x:V} {v:Value} (r:RelV x v):(v == Value.none)=decide (x=.aR):=by
 cases x with
 | aR=>cases r; rfl
 | bl _=>cases r; rfl
 | int _=>obtain ⟨t,rfl⟩:=r; rfl
 | str _=>obtain ⟨t,rfl⟩:=r; rfl
 | oF _=>obtain ⟨t,rfl⟩:=r; rfl
 | sO _=>obtain ⟨t,rfl⟩:=r; rfl
 | ref _=>cases r; rfl
 | ty _=>cases r; rfl
theorem Nt {j pos'} (ha:PE X a ta):PC X .Is a (.Constant .none j pos') (E4 ta):=by
 intro pins s σ H Q I h
 refine aJ (ha pins s σ H _ I h) λv s1 ⟨x,H1,I1,r1,q1⟩=>?_
 exact Constant_none (is_none_gen ⟨.bl _,H1,I1,by rw [r1.k6]; rfl,q1⟩)
theorem N2 {j pos'} (ha:PE X a ta):PC X .IsNot a (.Constant .none j pos') (yN ta):=by
 intro pins s σ H Q I h
 refine aJ (ha pins s σ H _ I h) λv s1 ⟨x,H1,I1,r1,q1⟩=>?_
 exact Constant_none (isnot_none_gen ⟨.bl _,H1,I1,by rw [r1.k6]; rfl,q1⟩)
def tB (t:TE):TT:=λσ H Q=>t σ H λx H1=>∃ c,x=.bl c/\Q c H1
theorem V1 {op:CmpOp} {t:TE} (h:PC X op a b t) (h1:behindInMarks op b=false:=by first | exact OG _ (by decide) (by decide) | rfl):PE X (.Compare a [op] [b] pos) t:=λpins s σ H Q I hw=>wpAny_Compare1 (h pins s σ H Q I hw) h1
theorem Du {op:CmpOp} {t:TE} (h:PC X op a b t) (h1:behindInMarks op b=false:=by first | exact OG _ (by decide) (by decide) | rfl):PT X (.Compare a [op] [b] pos) (tB t):=by
 intro pins s σ H Q I hw
 refine wpAny_isTrue_Compare1 (aJ (h pins s σ H _ I hw) λv s1 h1=>aJ h1 λu s2 h2=>aJ h2 λc s3 ⟨x,H1,I1,r1,q1⟩=>?_) h1
 obtain ⟨d,rfl,q⟩:=q1
 cases r1
 exact asR ⟨H1,I1,q⟩
theorem ZS {e:Expr} {t:TE} (h:PE X e t) (he:∀ whole,isTrue e X.env whole=(do let v ← whole; standAt e.pos; holding [v] (truthy v)):=by intro _; rfl):PT X e (tB t):=by
 intro pins s σ H Q I hw
 refine isTrue_plain (aJ (h pins s σ H _ I hw) λv s1 ⟨x,H1,I1,r1,q1⟩=>?_) (he _)
 obtain ⟨d,rfl,q⟩:=q1
 cases r1
 exact asR ⟨H1,I1,q⟩
variable {tA Ck:TT} {rest:List Expr}
def E8 (t u:TT):TT:=λσ H Q=>t σ H λc H1=>if c=true then u σ H1 Q else Q false H1
def Lg (t u:TT):TT:=λσ H Q=>t σ H λc H1=>if c=true then Q true H1 else u σ H1 Q
def E2 (t:TT):TT:=λσ H Q=>t σ H λc H1=>Q (!c) H1
theorem Iv (ha:PT X a tA):PW X (.BoolOp .And [a] pos) tA:=by
 intro wh pins s σ H Q I h
 refine isTrue_and (aJ (ha pins s σ H Q I h) λc s1 e=>?_)
 cases c with
 | true=>exact isTrue_and_nil e
 | false=>exact e
theorem Dt (ha:PT X a tA):PW X (.BoolOp .Or [a] pos) tA:=by
 intro wh pins s σ H Q I h
 refine isTrue_or (aJ (ha pins s σ H Q I h) λc s1 e=>?_)
 cases c with
 | false=>exact isTrue_or_nil e
 | true=>exact e
theorem HJ (ha:PT X a tA) (hb:PW X (.BoolOp .And (b :: rest) pos) Ck):PW X (.BoolOp .And (a :: b :: rest) pos) (E8 tA Ck):=by
 intro wh pins s σ H Q I h
 refine isTrue_and (aJ (ha pins s σ H _ I h) λc s1 ⟨H1,I1,q1⟩=>?_)
 cases c with
 | true=>exact hb wh pins s1 σ H1 Q I1 q1
 | false=>exact ⟨H1,I1,q1⟩
theorem pw_or (ha:PT X a tA) (hb:PW X (.BoolOp .Or (b :: rest) pos) Ck):PW X (.BoolOp .Or (a :: b :: rest) pos) (Lg tA Ck):=by
 intro wh pins s σ H Q I h
 refine isTrue_or (aJ (ha pins s σ H _ I h) λc s1 ⟨H1,I1,q1⟩=>?_)
 cases c with
 | true=>exact ⟨H1,I1,q1⟩
 | false=>exact hb wh pins s1 σ H1 Q I1 q1
theorem sV (ha:PT X a tA):PT X (.UnaryOp .Not a pos) (E2 tA):=by
 intro pins s σ H Q I h
 exact isTrue_not (ha pins s σ H (λc H1=>Q (!c) H1) I h)
def yS (ta tb:TE):TE:=λσ H Q=>ta σ H λx H1=>∃ c,x=.bl c/\if c=true then tb σ H1 Q else Q (.bl false) H1
def E1 (ta tb:TE):TE:=λσ H Q=>ta σ H λx H1=>∃ c,x=.bl c/\if c=true then Q (.bl true) H1 else tb σ H1 Q
theorem Ds {op} {t:TE} (h:PE X a t):PE X (.BoolOp op [a] pos) t:=λpins s σ H Q I hw=>BoolOp_one (h pins s σ H Q I hw)
theorem Dr (ha:PE X a ta) (hb:PE X (.BoolOp .And (b :: rest) pos) tb):PE X (.BoolOp .And (a :: b :: rest) pos) (yS ta tb):=by
 intro pins s σ H Q I h
 refine BoolOp_and (aJ (ha pins s σ H _ I h) λv s1 ⟨x,H1,I1,r1,q1⟩=>?_)
 obtain ⟨c,rfl,q1⟩:=q1
 cases r1
 refine asR ?_
 cases c with
 | true=>exact hb pins s1 σ H1 Q I1 q1
 | false=>exact ⟨.bl false,H1,I1,rfl,q1⟩
theorem zv (ha:PE X a ta) (hb:PE X (.BoolOp .Or (b :: rest) pos) tb):PE X (.BoolOp .Or (a :: b :: rest) pos) (E1 ta tb):=by
 intro pins s σ H Q I h
 refine BoolOp_or (aJ (ha pins s σ H _ I h) λv s1 ⟨x,H1,I1,r1,q1⟩=>?_)
 obtain ⟨c,rfl,q1⟩:=q1
 cases r1
 refine asR ?_
 cases c with
 | false=>exact hb pins s1 σ H1 Q I1 q1
 | true=>exact ⟨.bl true,H1,I1,rfl,q1⟩
def RG (t:TT) (ta tb:TE):TE:=λσ H Q=>t σ H λc H1=>if c=true then ta σ H1 Q else tb σ H1 Q
theorem wQ {c:Expr} (hc:PT X c tA) (ha:PE X a ta) (hb:PE X b tb):PE X (.IfExp c a b pos) (RG tA ta tb):=by
 intro pins s σ H Q I h
 refine wpAny_IfExp (aJ (hc pins s σ H _ I h) λd s1 ⟨H1,I1,q1⟩=>?_)
 cases d with
 | true=>exact ha pins s1 σ H1 Q I1 q1
 | false=>exact hb pins s1 σ H1 Q I1 q1
end
def aF (K:W.Frag) (H:Hp) (a:Addr) (xs:List V):Prop :=
 Rd H a (.lst xs) \/
  ∃ (o:Obj) (its:Array Value) (n:Nat),K.lookup a=some o/\o.cls=.type "list" /\ o.dict=none/\o.data=.seq its n/\its.size<=sizeLine/\Vals xs its.toList
def bB (K:W.Frag) (H:Hp) (a:Addr) (xs:List V):Prop :=
 Rd H a (.tup xs) \/
  ∃ (o:Obj) (its:Array Value) (n:Nat),K.lookup a=some o/\o.cls=.type "tuple" /\ o.data=.seq its n/\its.size<=sizeLine/\Vals xs its.toList
def Hr:Value->Option V
 | .none=>some .aR
 | .bool b=>some (.bl b)
 | .int i _=>some (.int i)
 | .str x _=>some (.str x)
 | .bytes b _=>some (.oF b)
 | .float b _=>some (.sO b)
 | .ref a=>some (.ref a)
 | .type n=>some (.ty n)
 | _=>none
theorem RelV.abs {x:V} {u:Value} (r:RelV x u):Hr u=some x:=by
 cases x with
 | aR=>cases r; rfl
 | bl _=>cases r; rfl
 | int _=>obtain ⟨t,rfl⟩:=r; rfl
 | str _=>obtain ⟨t,rfl⟩:=r; rfl
 | oF _=>obtain ⟨t,rfl⟩:=r; rfl
 | sO _=>obtain ⟨t,rfl⟩:=r; rfl
 | ref _=>cases r; rfl
 | ty _=>cases r; rfl
theorem RelV.inj {x y:V} {u:Value} (r:RelV x u) (q:RelV y u):x=y:=aGB (r.abs.symm.trans q.abs)
theorem Vals.inj:∀ {xs ys:List V} {us:List Value},Vals xs us->Vals ys us->xs=ys
 | _,_,_,.nil,.nil=>rfl
 | _,_,_,.cons r t,.cons r' t'=>by rw [r.inj r',Vals.inj t t']
section
variable {X:Cx} {pins:List (Addr×Obj)} {σ:St} {H:Hp} {s:Shared} {a:Addr} {xs ys:List V}
theorem aF.of {K:W.Frag} (h:H a=some (.lst xs)):aF K H a xs:=.inl (.inl h)
theorem bB.of {K:W.Frag} (h:H a=some (.tup xs)):bB K H a xs:=.inl (.inl h)
theorem Inv.list (I:Inv X pins σ H s) (h:aF X.K H a xs):∃ its:List Value,Vals xs its/\PlainL s.heap a its.toArray/\xs.length<=sizeLine:=by
 rcases h with h | ⟨o,its,n,hk,hc,hd,hs,hz,r⟩
 .obtain ⟨z,its,n,r,e⟩:=h.ok I.hok
  exact ⟨its,r,⟨_,n,e,rfl,rfl,rfl⟩,z⟩
 .refine ⟨its.toList,r,⟨o,n,I.dW a o hk,hc,hd,by simpa using hs⟩,?_⟩
  have e:=r.length
  simp only [aUD] at e
  lia
theorem Inv.tuple (I:Inv X pins σ H s) (h:bB X.K H a xs):∃ its:List Value,Vals xs its/\IsTup s.heap a its.toArray/\xs.length<=sizeLine:=by
 rcases h with h | ⟨o,its,n,hk,hc,hs,hz,r⟩
 .obtain ⟨z,its,r,p⟩:=h.ok I.hok
  exact ⟨its,r,p,z⟩
 .refine ⟨its.toList,r,⟨o,I.dW a o hk,hc,n,by simpa using hs⟩,?_⟩
  have e:=r.length
  simp only [aUD] at e
  lia
theorem Inv.gV (I:Inv X pins σ H s) (h:aF X.K H a xs) (h':aF X.K H a ys):xs=ys:=by
 obtain ⟨its,r,⟨o,n,e,_,_,d⟩,_⟩:=I.list h
 obtain ⟨its',r',⟨o',n',e',_,_,d'⟩,_⟩:=I.list h'
 rw [e] at e'; cases e'
 rw [d] at d'
 injection d' with d1 _
 have:its=its':=by simpa using aOy Array.toList d1
 subst this
 exact r.inj r'
theorem Inv.iu (I:Inv X pins σ H s) (h:bB X.K H a xs) (h':bB X.K H a ys):xs=ys:=by
 obtain ⟨its,r,⟨o,e,_,n,d⟩,_⟩:=I.tuple h
 obtain ⟨its',r',⟨o',e',_,n',d'⟩,_⟩:=I.tuple h'
 rw [e] at e'; cases e'
 rw [d] at d'
 injection d' with d1 _
 have:its=its':=by simpa using aOy Array.toList d1
 subst this
 exact r.inj r'
end
abbrev Cx.jG (X:Cx) (E:Value->Shared->Prop):Cx:={ X with xe:=E }
abbrev Cx.vv (X:Cx):Cx:=X.jG λ_ _=>False
theorem Cx.Ok.jG {X:Cx} (ok:X.Ok) (E:Value->Shared->Prop):(X.jG E).Ok :=
 ⟨ok.mod,ok.kind,ok.glob,ok.blt,ok.above,ok.inj,ok.has,ok.AE,ok.hd,ok.frames,ok.stk,ok.C6,ok.bs,ok.rE,ok.qd,ok.qD,ok.iW,ok.vY⟩
theorem Cx.Ok.fh {X:Cx} {E:Value->Shared->Prop} (ok:(X.jG E).Ok):X.Ok :=
 ⟨ok.mod,ok.kind,ok.glob,ok.blt,ok.above,ok.inj,ok.has,ok.AE,ok.hd,ok.frames,ok.stk,ok.C6,ok.bs,ok.rE,ok.qd,ok.qD,ok.iW,ok.vY⟩
section
variable {X:Cx} {pins:List (Addr×Obj)} {σ:St} {H:Hp} {s:Shared} {E:Value->Shared->Prop}
theorem Inv.jG (I:Inv X pins σ H s) (E:Value->Shared->Prop):Inv (X.jG E) pins σ H s:=⟨I.ok.jG E,I.os,I.bare,I.base,I.loc,I.cell,I.free,I.dD,I.pin,I.hok,I.len⟩
theorem Inv.fh (I:Inv (X.jG E) pins σ H s):Inv X pins σ H s:=⟨I.ok.fh,I.os,I.bare,I.base,I.loc,I.cell,I.free,I.dD,I.pin,I.hok,I.len⟩
theorem SP.fh {D:Ends} {f:Flow} {s':Shared} (h:SP (X.jG E) pins D f s'):SP X pins D f s':=by
 cases f with
 | next=>obtain ⟨σ',H',I,q⟩:=h; exact ⟨σ',H',I.fh,q⟩
 | brk=>obtain ⟨σ',H',I,q⟩:=h; exact ⟨σ',H',I.fh,q⟩
 | cont=>obtain ⟨σ',H',I,q⟩:=h; exact ⟨σ',H',I.fh,q⟩
 | ret u=>obtain ⟨v,σ',H',I,r,q⟩:=h; exact ⟨v,σ',H',I.fh,r,q⟩
theorem oM.vv {st:List Stmt} {t:TS} (h:oM X.vv st t):oM X st t:=λpins s σ H D I hw =>
 acp (h pins s σ H D (I.jG _) hw) (λ_ _ q=>q.fh) λ_ _ z=>False.elim z
end
section
variable {X:Cx} {st:Stmt} {rest:List Stmt} {t u:TS} {e:Expr} {te:TE} {pos:Pos}
def fY:TS:=λD σ H=>D.nx σ H
def pI (t u:TS):TS:=λD σ H=>t { D with nx:=u D } σ H
theorem Zu:oM X [] fY:=λ_ _ σ H _ I h=>wpAny_execs_nil ⟨σ,H,I,h⟩
theorem Zd (h1:PS X st t) (h2:oM X rest u):oM X (st :: rest) (pI t u):=by
 intro pins s σ H D I h
 refine wpAny_execs_cons (aJ (h1 pins s σ H { D with nx:=u D } I h) λf s1 q=>?_)
 cases f with
 | next =>
  obtain ⟨σ',H',I',q⟩:=q
  exact h2 pins s1 σ' H' D I' q
 | ret v=>exact q
 | brk=>exact q
 | cont=>exact q
theorem Zh (h1:PS X st t):oM X [st] t:=by
 intro pins s σ H D I h
 refine wpAny_execs_cons (aJ (h1 pins s σ H D I h) λf s1 q=>?_)
 cases f with
 | next=>exact wpAny_execs_nil q
 | ret v=>exact q
 | brk=>exact q
 | cont=>exact q
theorem Inv.quiet {pins:List (Addr×Obj)} {σ:St} {H:Hp} {s:Shared} (I:Inv X pins σ H s):interactive X.env=false:=by simp [interactive,I.ok.kind]
def yQ (te:TE):TS:=λD σ H=>te σ H λ_ H1=>D.nx σ H1
theorem Zo (he:PE X e te) (hs:swapsWith e none pos.line X.env=pure false:=by rfl):PS X (.Expr e pos) (yQ te):=by
 intro pins s σ H D I h
 exact wpAny_Expr_any (aJ (he pins s σ H _ I h) λv s1 ⟨x,H1,I1,r1,q1⟩=>⟨σ,H1,I1,q1⟩) I.quiet hs
def EZ (te:TE):TS:=λD σ H=>te σ H D.rt
theorem Zt (he:PE X e te):PS X (.Return (some e) pos) (EZ te):=by
 intro pins s σ H D I h
 exact wpAny_Return_some (aJ (he pins s σ H _ I h) λv s1 ⟨x,H1,I1,r1,q1⟩=>⟨x,σ,H1,I1,r1,q1⟩)
def yL:TS:=λD _ H=>D.rt .aR H
theorem Iu:PS X (.Return none pos) yL:=λ_ _ σ H _ I h=>wpAny_Return_none ⟨.aR,σ,H,I,rfl,h⟩
def yO (c:TT) (t u:TS):TS:=λD σ H=>c σ H λb H1=>if b=true then t D σ H1 else u D σ H1
theorem aH {c:Expr} {a b:List Stmt} {tc:TT} (hc:PT X c tc) (ha:oM X a t) (hb:oM X b u):PS X (.If c a b pos) (yO tc t u):=by
 intro pins s σ H D I h
 refine wpAny_If (aJ (hc pins s σ H _ I h) λd s1 ⟨H1,I1,q1⟩=>?_)
 cases d with
 | true=>exact ha pins s1 σ H1 D I1 q1
 | false=>exact hb pins s1 σ H1 D I1 q1
end
abbrev TG:=V->St->Hp->(St->Hp->Prop)->Prop
abbrev uY:=List V->St->Hp->(St->Hp->Prop)->Prop
def PG (X:Cx) (target:Expr) (t:TG):Prop :=
 ∀ (pins:List (Addr×Obj)) (s:Shared) (σ:St) (H:Hp) (v:V) (u:Value) (Q:St->Hp->Prop),Inv X pins σ H s->RelV v u->t v σ H Q ->
  wpAny (model X.prog X.w) X.A (assign target X.env u) (λ_ s'=>∃ σ' H',Inv X pins σ' H' s'/\Q σ' H') X.xe s
def BD (X:Cx) (ts:List Expr) (t:uY):Prop :=
 ∀ (pins:List (Addr×Obj)) (s:Shared) (σ:St) (H:Hp) (vs:List V) (us:List Value) (Q:St->Hp->Prop),Inv X pins σ H s->Vals vs us->t vs σ H Q ->
  wpAny (model X.prog X.w) X.A (assignInOrder ((assignEach ts X.env).map (·.2)) us) (λ_ s'=>∃ σ' H',Inv X pins σ' H' s'/\Q σ' H') X.xe s
abbrev wR:=V->V->V->Hp->(Hp->Prop)->Prop
def BC (X:Cx) (t:wR):Prop :=
 ∀ (pins:List (Addr×Obj)) (s:Shared) (σ:St) (H:Hp) (o i v:V) (ov iv u:Value) (Q:Hp->Prop),Inv X pins σ H s->RelV o ov->RelV i iv->RelV v u->t o i v H Q ->
  wpAny (model X.prog X.w) X.A (setItem ov iv u) (λ_ s'=>∃ H',Inv X pins σ H' s'/\Q H') X.xe s
section
variable {X:Cx} {pos:Pos}
def fH (i:Nat):TG:=λv σ H Q=>Q (σ.set i (some v)) H
theorem Wy {i:Nat} {x:Str} (hN:X.N.Nodup) (hi:X.N[i]?=some x) (hx:Loc X.env.scope x) (hf:X.fn x=true\/X.env.scope.names.lookup x=some .local:=by first | exact .inl rfl | exact .inr rfl | assumption):PG X (.Name x pos) (fH i):=by
 intro pins s σ H v u Q I r h
 exact wpAny_assign_Name (Zip I hN hi hx r (λs' I'=>⟨_,H,I',h⟩) hf)
def GO:uY:=λvs σ H Q=>vs=[]/\Q σ H
def Au (t:TG) (u:uY):uY:=λvs σ H Q=>∃ v r,vs=v :: r/\t v σ H λσ' H'=>u r σ' H' Q
theorem ZT:BD X [] GO:=by
 intro pins s σ H vs us Q I r h
 obtain ⟨e,h⟩:=h
 subst e
 cases r
 exact assignInOrder_nil ⟨σ,H,I,h⟩
theorem Zr {e:Expr} {es:List Expr} {t:TG} {u:uY} (h1:PG X e t) (h2:BD X es u)
  (hs:(assignEach (e :: es) X.env).map (·.2)=assign e X.env :: (assignEach es X.env).map (·.2):=by rfl):BD X (e :: es) (Au t u):=by
 intro pins s σ H vs us Q I r h
 obtain ⟨v,vr,e1,h⟩:=h
 subst e1
 cases r with
 | cons r rr =>
  rw [hs]
  refine assignInOrder_cons (aJ (h1 pins s σ H _ _ _ I r h) λ_ s1 ⟨σ1,H1,I1,q1⟩=>?_)
  exact h2 pins s1 σ1 H1 _ _ Q I1 rr q1
def As (K:W.Frag) (n:Nat) (t:uY):TG:=λv σ H Q=>∃ a xs,v=.ref a/\bB K H a xs/\xs.length=n/\t xs σ H Q
theorem V0 {es:List Expr} {k:Nat} {t:uY} {n:Nat} (hc:X.calm=true) (h:BD X es t)
  (hn:(assignEach es X.env).length=n:=by rfl) (hst:(assignEach es X.env).findIdx? (·.1)=none:=by rfl):PG X (.Tuple es k pos) (As X.K n t):=by
 intro pins s σ H v u Q I r hw
 obtain ⟨a,xs,e1,hq,hl,hw⟩:=hw
 subst e1
 cases r
 obtain ⟨its,rv,ht,hz⟩:=I.tuple hq
 refine assign_Tuple_tuple (I.ok.hd hc) ht (by simp [hn,← hl,rv.length]) hst λh' hx=>?_
 have I1:Inv X pins σ H { s with heap:=h' }:=I.kept (t':=s.toks) λb o e=>hx b o (a19 (aDe e)) e
 exact h pins _ σ H xs _ Q I1 (by simpa using rv) hw
def GN (to ti:TE) (t:wR):TG:=λv σ H Q=>to σ H λo H1=>ti σ H1 λi H2=>t o i v H2 λH3=>Q σ H3
theorem wD {o i:Expr} {to ti:TE} {t:wR} (ho:PE X o to) (hi:PE X i ti) (hs:BC X t)
  (ha:∀ v,assign (.Subscript o i pos) X.env v=(do
   let ov ← holding [v] (eval o X.env)
   let iv ← holding [v,ov] (eval i X.env)
   standAt pos
   holding [v,ov,iv] (setItem ov iv v)
   release [v,ov,iv] []):=by intro _; rfl):PG X (.Subscript o i pos) (GN to ti t):=by
 intro pins s σ H v u Q I r h
 rw [ha]
 refine awJ (aFl (aJ (ho pins s σ H _ I h) λov s1 ⟨x,H1,I1,r1,q1⟩=>?_))
 refine awJ (aFl (aJ (hi pins s1 σ H1 _ I1 q1) λiv s2 ⟨y,H2,I2,r2,q2⟩=>?_))
 refine awJ (wpAny_standAt (awJ (aFl (aJ (hs pins s2 σ H2 x y v ov iv u _ I2 r1 r2 r q2) λ_ s3 ⟨H3,I3,q3⟩=>?_))))
 exact wpAny_release ⟨σ,H3,I3,q3⟩
def ow (te:TE) (g:TG):TS:=λD σ H=>te σ H λx H1=>g x σ H1 D.nx
theorem lR {tg e:Expr} {te:TE} {g:TG} (he:PE X e te) (hg:PG X tg g) (hs:swapsWithSole [tg] e pos.line X.env=pure false:=by rfl) (hw:swappedStores [tg] e X.env=pure none:=by rfl)
  (h1:(assignEach [tg] X.env).map (·.2)=[assign tg X.env]:=by rfl):PS X (.Assign [tg] e pos) (ow te g):=by
 intro pins s σ H D I h
 refine wpAny_Assign_stores (aJ (he pins s σ H _ I h) λv s1 ⟨x,H1,I1,r1,q1⟩=>?_) hs hw
 rw [h1]
 exact aJ (hg pins s1 σ H1 x v _ I1 r1 q1) λ_ s2 q=>q
theorem VZ {i:Nat} {x:Str} {e:Expr} {te:TE} {pos':Pos} (hN:X.N.Nodup) (hi:X.N[i]?=some x) (hx:Loc X.env.scope x) (he:PE X e te) (hs:swapsWith e (some (.Name x pos')) pos.line X.env=pure false:=by rfl) (hf:X.fn x=true\/X.env.scope.names.lookup x=some .local:=by first | exact .inl rfl | exact .inr rfl | assumption) :
  PS X (.Assign [.Name x pos'] e pos) (ow te (fH i)):=by
 intro pins s σ H D I h
 refine wpAny_Assign_Name (aJ (he pins s σ H _ I h) λv s1 ⟨y,H1,I1,r1,q1⟩=>?_) hs
 exact Zip I1 hN hi hx r1 (λs2 I2=>⟨_,H1,I2,q1⟩) hf
end
structure It where
 go:Nat->Hp->Prop
 ni:Nat->Hp->V->Hp->Prop
 stop:Nat->Hp->Prop
def iZ (X:Cx) (pins:List (Addr×Obj)) (H:Hp) (b:Addr):Prop :=
 H b=none/\b≠X.env.locals/\b∉X.fs/\(b∈X.ex\/X.s₀.heap.objs.size<=b)/\(∀ x c,X.env.cells.lookup x=some c->c≠b)/\∀ p∈X.pn++pins,p.1≠b
theorem Inv.lD {X:Cx} {pins:List (Addr×Obj)} {σ:St} {H H':Hp} {s:Shared} {b:Addr} (I:Inv X pins σ H s) (hb:s.heap.objs.size<=b) (hn:H' b=none):iZ X pins H' b:=by
 refine ⟨hn,aL1 (a7q I.lt hb),I.zK hb,.inr (awv I.sz hb),λx c e z=>?_,λp hp z=>?_⟩
 .obtain ⟨v,q⟩:=I.cell x c e
  exact absurd (a7q q.lt (by rw [z]; exact hb)) (aNy _)
 .exact absurd (a7q (aDe (I.pin p hp).1) (by rw [z]; exact hb)) (aNy _)
structure Turn (P:Program) (w:World) (K:W.Frag) (tg:Expr) (J:It) (fp:List Addr) (it:Addr) (tn:Nat->Heap->Prop):Prop where
 mem:it∈fp
 obj:∀ i h,tn i h->∀ b∈fp,∃ o,h.get? b=some o/\∀ v,o.data≠.cell v
 keep:∀ i h h',tn i h->(∀ b∈fp,∀ o,h.get? b=some o->h'.get? b=some o)->tn i h'
 item:∀ (X:Cx),X.prog=P->X.w=w->X.K=K->X.calm=true->∀ (i:Nat) (pins:List (Addr×Obj)) (s:Shared) (σ:St) (H:Hp) (E:Value->Shared->Prop),Inv X pins σ H s->(∀ b∈fp,iZ X pins H b)->tn i s.heap->J.go i H ->
  wpAny (model P w) X.A (pyNext (.ref it)) (λr s1=>∃ u,r=some u /\
   wpAny (model P w) X.A (letOwnedTupleGo tg (.ref it) u) (λ_ s2=>∃ x H',Inv X pins σ H' s2/\RelV x u/\J.ni i H x H'/\tn (i+1) s2.heap/\∀ b∈fp,H' b=none) E s1) E s
 done:∀ (X:Cx),X.prog=P->X.w=w->X.K=K->X.calm=true->∀ (i:Nat) (pins:List (Addr×Obj)) (s:Shared) (σ:St) (H:Hp) (E:Value->Shared->Prop),Inv X pins σ H s->(∀ b∈fp,iZ X pins H b)->tn i s.heap->J.stop i H ->
  wpAny (model P w) X.A (pyNext (.ref it)) (λr s1=>r=none/\Inv X pins σ H s1) E s
 self:∀ (A:Around) (i:Nat) (s:Shared) (Q:Value->Shared->Prop) (E:Value->Shared->Prop),tn i s.heap->Q (.ref it) s->wpAny (model P w) A (pyIter (.ref it)) Q E s
abbrev TI:=St->Hp->(It->Hp->Prop)->Prop
def KZ (X:Cx) (pins:List (Addr×Obj)) (σ:St) (tg:Expr) (R:It->Hp->Prop) (itv:Value) (s2:Shared):Prop :=
 ∃ (it:Addr) (fp:List Addr) (tn:Nat->Heap->Prop) (J:It) (H':Hp),itv=.ref it/\Inv X pins σ H' s2/\Turn X.prog X.w X.K tg J fp it tn/\tn 0 s2.heap/\(∀ b∈fp,iZ X pins H' b)/\R J H'
def PI (X:Cx) (tg iter:Expr) (wi:TI):Prop :=
 ∀ (pins:List (Addr×Obj)) (s:Shared) (σ:St) (H:Hp) (R:It->Hp->Prop),Inv X pins σ H s->wi σ H R ->
  wpAny (model X.prog X.w) X.A (eval iter X.env) (λv s1=>wpAny (model X.prog X.w) X.A (pyIter v) (KZ X pins σ tg R) X.xe s1) X.xe s
theorem nW {M:Model} {A:Around} {E:Value->Shared->Prop} {s:Shared} {tg:Expr} {it:Addr} {u:Value} {o:Obj} {n:String} {vs:Array Value} {Q:Unit->Shared->Prop} (ho:s.heap.get? it=some o) (hc:o.cls=.type n) (hd:o.data=.fields vs)
  (hn:["enumerate", "zip", "dict_itemiterator", "dict_reverseitemiterator", "odict_iterator", "itertools.zip_longest", "itertools.pairwise"].contains n=false) (hQ:Q () s):wpAny M A (letOwnedTupleGo tg (.ref it) u) Q E s:=by
 unfold letOwnedTupleGo
 cases tg <;> first
  | exact aOf hQ
  | (cases u <;> first
    | exact aOf hQ
    | (refine awJ (wpAny_load ho ?_)
       rw [hc,hd]
       show wpAny M A (if (["enumerate", "zip", "dict_itemiterator", "dict_reverseitemiterator", "odict_iterator", "itertools.zip_longest", "itertools.pairwise"].contains n && vs[0]? == some (rawInt _))=true then _ else _) Q E s
       rw [aBJ (by intro h; rw [hn,Bool.false_and] at h; cases h)]
       exact aOf hQ))
def u9 (K:W.Frag) (a:Addr):It :=
 ⟨λi H=>∃ xs x,aF K H a xs/\xs[i]?=some x,λi H x H'=>H'=H/\∀ xs,aF K H a xs->xs[i]?=some x,λi H=>∃ xs,aF K H a xs/\xs.length<=i⟩
def BH (K:W.Frag) (a:Addr):It :=
 ⟨λi H=>∃ xs x,bB K H a xs/\xs[i]?=some x,λi H x H'=>H'=H/\∀ xs,bB K H a xs->xs[i]?=some x,λi H=>∃ xs,bB K H a xs/\xs.length<=i⟩
def rL (lo:Int) (n:Nat):It:=⟨λi _=>i<n,λi H x H'=>H'=H/\x=.int (lo+i),λi _=>n<=i⟩
theorem XH {P:Program} {w:World} {K:W.Frag} {tg:Expr} (a it:Addr):Turn P w K tg (u9 K a) [it] it (λi h=>h.IsListIter it a i) where
 mem:=by simp
 obj:=λi h st b hb=>by
  have e:b=it:=by simpa using hb
  subst e
  obtain ⟨o,e,c,d⟩:=st
  exact ⟨o,e,λv z=>by rw [d] at z; cases z⟩
 keep:=λi h h' st k=>st.at λo e=>k it (by simp) o e
 item:=by
  intro X hP hw hK hc i pins s σ H E I hf st hg
  subst hP hw hK
  obtain ⟨xs,x,hq,hx⟩:=hg
  obtain ⟨its,rv,p,hz⟩:=I.list hq
  obtain ⟨u,hu,ru⟩:=rv.get hx
  obtain ⟨f0,f1,f2,f3,f4,f5⟩:=hf it (by simp)
  refine wpAny_pyNext_list_item st p.isList (x:=u) (by simpa using hu) λh' st' sb=>?_
  have I1:Inv X pins σ H { s with heap:=h' }:=I.turned (t':=s.toks) (λb o hb e=>(sb.2 b hb).trans e) f0 f1 f3 f4 f5
  obtain ⟨o,e,c,d⟩:=id st'
  exact ⟨u,rfl,nW (s:={ s with heap:=h' }) e c d (by decide) ⟨x,H,I1,ru,⟨rfl,λys hy=>by rw [I.gV hy hq]; exact hx⟩,st',λb hb=>(hf b hb).1⟩⟩
 done:=by
  intro X hP hw hK hc i pins s σ H E I hf st hg
  subst hP hw hK
  obtain ⟨xs,hq,hx⟩:=hg
  obtain ⟨its,rv,p,hz⟩:=I.list hq
  obtain ⟨f0,f1,f2,f3,f4,f5⟩:=hf it (by simp)
  have hl:=rv.length
  exact wpAny_pyNext_list_end (I.ok.hd hc) st p.isList (by simp; lia) λh' eb=>⟨rfl,I.turned (t':=s.toks) (λb o hb e=>eb b o hb e) f0 f1 f3 f4 f5⟩
 self:=λ_ _ _ _ _ st h=>wpAny_pyIter_listiter st h
theorem Yv {P:Program} {w:World} {K:W.Frag} {tg:Expr} (a it:Addr):Turn P w K tg (BH K a) [it] it (λi h=>h.IsTupleIter it a i) where
 mem:=by simp
 obj:=λi h st b hb=>by
  have e:b=it:=by simpa using hb
  subst e
  obtain ⟨o,e,c,d⟩:=st
  exact ⟨o,e,λv z=>by rw [d] at z; cases z⟩
 keep:=λi h h' st k=>st.at λo e=>k it (by simp) o e
 item:=by
  intro X hP hw hK hc i pins s σ H E I hf st hg
  subst hP hw hK
  obtain ⟨xs,x,hq,hx⟩:=hg
  obtain ⟨its,rv,p,hz⟩:=I.tuple hq
  obtain ⟨u,hu,ru⟩:=rv.get hx
  obtain ⟨f0,f1,f2,f3,f4,f5⟩:=hf it (by simp)
  refine wpAny_pyNext_tuple_item st (show s.heap.IsTuple a its.toArray from p) (x:=u) (by simpa using hu) λh' st' sb=>?_
  have I1:Inv X pins σ H { s with heap:=h' }:=I.turned (t':=s.toks) (λb o hb e=>(sb.2 b hb).trans e) f0 f1 f3 f4 f5
  obtain ⟨o,e,c,d⟩:=id st'
  exact ⟨u,rfl,nW (s:={ s with heap:=h' }) e c d (by decide) ⟨x,H,I1,ru,⟨rfl,λys hy=>by rw [I.iu hy hq]; exact hx⟩,st',λb hb=>(hf b hb).1⟩⟩
 done:=by
  intro X hP hw hK hc i pins s σ H E I hf st hg
  subst hP hw hK
  obtain ⟨xs,hq,hx⟩:=hg
  obtain ⟨its,rv,p,hz⟩:=I.tuple hq
  obtain ⟨f0,f1,f2,f3,f4,f5⟩:=hf it (by simp)
  have hl:=rv.length
  exact wpAny_pyNext_tuple_end (I.ok.hd hc) st (show s.heap.IsTuple a its.toArray from p) (by simp; lia) λh' eb=>⟨rfl,I.turned (t':=s.toks) (λb o hb e=>eb b o hb e) f0 f1 f3 f4 f5⟩
 self:=λ_ _ _ _ _ st h=>wpAny_pyIter_tupleiter st h
theorem Yu {P:Program} {w:World} {K:W.Frag} {tg:Expr} (it:Addr) (lo:Int) (n:Nat):Turn P w K tg (rL lo n) [it] it (λi h=>IsRangeIter h it (lo+(i:Nat) * 1) ((n:Int) - (i:Nat)) 1) where
 mem:=by simp
 obj:=λi h st b hb=>by
  have e:b=it:=by simpa using hb
  subst e
  exact ⟨_,st,λv z=>by
   have z':Data.fields _=Data.cell v:=z
   cases z'⟩
 keep:=λi h h' st k=>k it (by simp) _ st
 item:=by
  intro X hP hw hK hc i pins s σ H E I hf st hg
  subst hP hw hK
  obtain ⟨f0,f1,f2,f3,f4,f5⟩:=hf it (by simp)
  have W:=Walks.range (prog:=X.prog) (w:=X.w) (I.ok.hd hc) it lo 1 n
  refine W.item i s _ _ hg st λv h' tk hv st' kk=>?_
  obtain ⟨t,rfl⟩:=hv
  have I1:Inv X pins σ H { s with heap:=h',toks:=tk }:=I.turned (λb o hb e=>kk b o (by simpa using hb) e) f0 f1 f3 f4 f5
  refine ⟨_,rfl,nW (s:={ s with heap:=h',toks:=tk }) (n := "range_iterator") st' rfl rfl (by decide) ⟨.int (lo+i),H,I1,⟨t,?_⟩,⟨rfl,rfl⟩,st',λb hb=>(hf b hb).1⟩⟩
  rw [Int.mul_one]
 done:=by
  intro X hP hw hK hc i pins s σ H E I hf st hg
  subst hP hw hK
  obtain ⟨f0,f1,f2,f3,f4,f5⟩:=hf it (by simp)
  exact wpAny_pyNext_range_end (I.ok.hd hc) st (by have:n<=i:=hg; lia) λh' eb=>⟨rfl,I.turned (t':=s.toks) (λb o hb e=>eb b o hb e) f0 f1 f3 f4 f5⟩
 self:=λ_ _ _ _ _ st h=>wpAny_pyIter_rangeiter st h
section
variable {X:Cx} {tg:Expr}
def uq (K:W.Frag) (tl:TE):TI:=λσ H R=>tl σ H λx H1=>∃ a,x=.ref a/\(∃ xs,aF K H1 a xs)/\R (u9 K a) H1
def Ac (K:W.Frag) (tl:TE):TI:=λσ H R=>tl σ H λx H1=>∃ a,x=.ref a/\(∃ xs,bB K H1 a xs)/\R (BH K a) H1
theorem Wx {l:Expr} {tl:TE} (hl:PE X l tl):PI X tg l (uq X.K tl):=by
 intro pins s σ H R I h
 refine aJ (hl pins s σ H _ I h) λv s1 ⟨x,H1,I1,r1,q1⟩=>?_
 obtain ⟨a,e,⟨xs,hq⟩,q⟩:=q1
 subst e
 cases r1
 obtain ⟨its,rv,p,hz⟩:=I1.list hq
 refine wpAny_pyIter_list p.isList ?_
 refine ⟨s1.heap.objs.size,[s1.heap.objs.size],_,_,H1,rfl,I1.kept (t':=s1.toks) λb o e=>aL6 _ e,XH a _,⟨_,aWh _ rfl,rfl,rfl⟩,λb hb=>?_,q⟩
 have e:b=s1.heap.objs.size:=by simpa using hb
 subst e
 exact I1.lD (a17 _) (I1.hok.fresh (a17 _))
theorem VY {l:Expr} {tl:TE} (hl:PE X l tl):PI X tg l (Ac X.K tl):=by
 intro pins s σ H R I h
 refine aJ (hl pins s σ H _ I h) λv s1 ⟨x,H1,I1,r1,q1⟩=>?_
 obtain ⟨a,e,⟨xs,hq⟩,q⟩:=q1
 subst e
 cases r1
 obtain ⟨its,rv,p,hz⟩:=I1.tuple hq
 refine wpAny_pyIter_tuple (show s1.heap.IsTuple a its.toArray from p) ?_
 refine ⟨s1.heap.objs.size,[s1.heap.objs.size],_,_,H1,rfl,I1.kept (t':=s1.toks) λb o e=>aL6 _ e,Yv a _,⟨_,aWh _ rfl,rfl,rfl⟩,λb hb=>?_,q⟩
 have e:b=s1.heap.objs.size:=by simpa using hb
 subst e
 exact I1.lD (a17 _) (I1.hok.fresh (a17 _))
theorem OF {pins:List (Addr×Obj)} {σ:St} {H:Hp} {s:Shared} {R:It->Hp->Prop} {E:Value->Shared->Prop} {lo hi:Int} {t u v:Tok} {tk:Nat} (I:Inv X pins σ H s) (h1 : -(2 ^ 62)<=lo) (h2:lo<2 ^ 62) (h3 : -(2 ^ 62)<=hi) (h4:hi<2 ^ 62)
  (q:R (rL lo (hi - lo).toNat) H):wpAny (model X.prog X.w) X.A (pyIter (.ref s.heap.objs.size)) (KZ X pins σ tg R) E { s with heap:=s.heap.push { cls:=.type "range",data:=.fields #[.int lo t,.int hi u,.int 1 v] },toks:=tk }:=by
 refine wpAny_pyIter_range (IsRange.new ..) (small_one h1 h2 h3 h4) ?_
 have I1:Inv X pins σ H { s with heap:=s.heap.push { cls:=.type "range",data:=.fields #[.int lo t,.int hi u,.int 1 v] },toks:=tk }:=I.kept λb o e=>aL6 _ e
 refine ⟨(s.heap.push { cls:=.type "range",data:=.fields #[.int lo t,.int hi u,.int 1 v] }).objs.size,[(s.heap.push { cls:=.type "range",data:=.fields #[.int lo t,.int hi u,.int 1 v] }).objs.size],_,_,H,rfl,
  I1.kept (t':=tk) λb o e=>aL6 _ e,Yu _ lo (hi - lo).toNat,?_,λb hb=>?_,q⟩
 .have e1:lo+((0:Nat):Int) * 1=lo:=by simp
  have e2:(((hi - lo).toNat:Nat):Int) - ((0:Nat):Int)=Builtin.Range.rangeSize lo hi 1:=by rw [rangeSize_one]; split <;> lia
  show IsRangeIter _ _ (lo+((0:Nat):Int) * 1) ((((hi - lo).toNat:Nat):Int) - ((0:Nat):Int)) 1
  rw [e1,e2]
  exact aWh _ rfl
 .have e:b=(s.heap.push { cls:=.type "range",data:=.fields #[.int lo t,.int hi u,.int 1 v] }).objs.size:=by simpa using hb
  subst e
  exact I1.lD (a17 _) (I1.hok.fresh (a17 _))
def Af (ta:TA):TI:=λσ H R=>ta σ H λvs H1=>∃ j:Int,vs=[.int j] /\ -(2 ^ 62)<=j/\j<2 ^ 62/\R (rL 0 j.toNat) H1
def Ae (ta:TA):TI:=λσ H R=>ta σ H λvs H1=>∃ i j:Int,vs=[.int i,.int j]/\(-(2 ^ 62)<=i/\i<2 ^ 62 /\ -(2 ^ 62)<=j/\j<2 ^ 62)/\R (rL i (j - i).toNat) H1
theorem tF {a:Expr} {ta:TA} {p pos:Pos} (hg:Gl X "range") (hm:X.mg "range" = none) (ha:PA X [a] ta) (hs:starEach [a] X.env=[(false,eval a X.env)]:=by rfl):PI X tg (.Call (.Name "range" p) [a] [] pos) (Af ta):=by
 intro pins s σ H R I h
 refine Call_ (pB I hg hm boot_range (a7f (aJ (ha pos pins s σ H _ I h) λus s1 ⟨vs,H1,I1,r1,q1⟩=>?_) hs rfl))
 obtain ⟨j,e,q1,q2,q⟩:=q1
 subst e
 cases r1 with
 | cons r rr =>
  cases rr
  obtain ⟨t,rfl⟩:=r
  exact call_range_1 (OF I1 (by lia) (by lia) q1 q2 (by simpa using q))
theorem XG {a b:Expr} {ta:TA} {p pos:Pos} (hg:Gl X "range") (hm:X.mg "range" = none) (ha:PA X [a,b] ta) (hs:starEach [a,b] X.env=[(false,eval a X.env),(false,eval b X.env)]:=by rfl) (hs2:starEach [b] X.env=[(false,eval b X.env)]:=by rfl) :
  PI X tg (.Call (.Name "range" p) [a,b] [] pos) (Ae ta):=by
 intro pins s σ H R I h
 refine Call_ (pB I hg hm boot_range (a7f (aJ (ha pos pins s σ H _ I h) λus s1 ⟨vs,H1,I1,r1,q1⟩=>?_) (by rw [hs,hs2]) (by rw [hs2]; rfl)))
 obtain ⟨i,j,e,⟨q1,q2,q3,q4⟩,q⟩:=q1
 subst e
 cases r1 with
 | cons r rr =>
  cases rr with
  | cons r' rr =>
   cases rr
   obtain ⟨t,rfl⟩:=r
   obtain ⟨t',rfl⟩:=r'
   exact call_range_2 (OF I1 q1 q2 q3 q4 q)
def E5 (wi:TI) (g:TG) (tb:TS):TS:=λD σ H=>wi σ H λJ H1=>∃ W:Nat->Nat->St->Hp->Prop,(∃ m,W 0 m σ H1)/\∀ i m σ H,W i m σ H ->
 (J.stop i H/\D.nx σ H)\/(J.go i H/\∃ N:St->Hp->Prop,(∀ σ' H',N σ' H'->∃ m',m'<m/\W (i+1) m' σ' H')/\∀ x H',J.ni i H x H'->g x σ H' λσ2 H2=>tb { D with nx:=N,ct:=N,bk:=D.nx } σ2 H2)
def AR (fp:List Addr) (h:Heap):List (Addr×Obj):=fp.filterMap λb=>(h.get? b).map λo=>(b,o)
theorem Ec {fp:List Addr} {h:Heap} {b:Addr} {o:Obj} (hb:b∈fp) (e:h.get? b=some o):(b,o)∈AR fp h:=List.mem_filterMap.mpr ⟨b,hb,by rw [e]; rfl⟩
theorem XF {fp:List Addr} {h:Heap} {p:Addr×Obj} (hp:p∈AR fp h):p.1∈fp/\h.get? p.1=some p.2:=by
 obtain ⟨b,hb,e⟩:=List.mem_filterMap.mp hp
 cases q:h.get? b with
 | none=>rw [q] at e; cases e
 | some o =>
  rw [q] at e
  have e':(b,o)=p:=aGB e
  subst e'
  exact ⟨hb,q⟩
theorem Inv.pinned {pins:List (Addr×Obj)} {σ:St} {H:Hp} {s:Shared} {fp:List Addr} (I:Inv X pins σ H s) (hf:∀ b∈fp,iZ X pins H b) (ho:∀ b∈fp,∃ o,s.heap.get? b=some o/\∀ v,o.data≠.cell v):Inv X (pins++AR fp s.heap) σ H s :=
 I.nS λp hp=>(aPD.mp hp).elim (λz=>I.pin p (af2 _ z)) λz=>by
  obtain ⟨hb,e⟩:=XF z
  obtain ⟨f0,f1,f2,_⟩:=hf p.1 hb
  obtain ⟨o,e',d⟩:=ho p.1 hb
  rw [e] at e'; cases e'
  exact ⟨e,f0,f1,f2,d⟩
theorem Inv.gI {pins pl:List (Addr×Obj)} {σ:St} {H:Hp} {s:Shared} (I:Inv X (pins++pl) σ H s):Inv X pins σ H s:=I.nS λp hp=>I.pin p (af2 _ (a4h _ hp))
theorem om {iter:Expr} {body:List Stmt} {wi:TI} {g:TG} {tb:TS} {pos:Pos} (hp:PassesOwn (model X.prog X.w) X.A X.env X.xe) (hc:X.calm=true) (hi:PI X tg iter wi) (hg:PG X tg g) (hb:oM X body tb)
  (hs:∀ x,foldedSetIterable iter X.env x=pure x:=by intro _; rfl):PS X (.For tg iter body [] pos) (E5 wi g tb):=by
 intro pins s σ H D I h
 refine wpAny_For (aJ (hi pins s σ H _ I h) λv s1 h1=>aJ h1 λitv s2 h2=>?_) hs
 obtain ⟨it,fp,tn,J,H2,e,I2,T,st2,f2,W,⟨m0,w0⟩,turn⟩:=h2
 subst e
 have mC:∀ {H':Hp},(∀ b∈fp,H' b=none)->∀ b∈fp,iZ X pins H' b:=λhn b hb=>⟨hn b hb,(f2 b hb).2⟩
 refine codeAny_forLoop_any (λn s'=>∃ i σ' H',Inv X pins σ' H' s'/\tn i s'.heap/\(∀ b∈fp,H' b=none)/\W i n σ' H') ?_ m0 ⟨0,σ,H2,I2,st2,λb hb=>(f2 b hb).1,w0⟩
 rintro n s3 ⟨i,σ3,H3,I3,st3,xY,w3⟩
 rcases turn i n σ3 H3 w3 with ⟨stop,qn⟩ | ⟨go,N,hN,step⟩
 .refine aTa hp (aJ (T.done X rfl rfl rfl hc i pins s3 σ3 H3 X.xe I3 (mC xY) st3 stop) λr s4 ⟨hr,I4⟩=>?_)
  subst hr
  exact wpAny_execs_nil ⟨σ3,H3,I4,qn⟩
 .refine aTa hp (aJ (T.item X rfl rfl rfl hc i pins s3 σ3 H3 X.xe I3 (mC xY) st3 go) λr s4 ⟨u,hr,h4⟩=>?_)
  subst hr
  refine aTa hp (aJ h4 λ_ s5 ⟨x,H5,I5,r5,y5,rS,C4⟩=>?_)
  have I5':=I5.pinned (mC C4) (T.obj _ _ rS)
  refine aTa hp (aJ (hg _ s5 σ3 H5 x u _ I5' r5 (step x H5 y5)) λ_ s6 ⟨σ6,H6,I6,q6⟩=>?_)
  refine aTa hp (aJ (hb _ s6 σ6 H6 _ I6 q6) λf s7 q7=>?_)
  have again:∀ {σ7:St} {H7:Hp},Inv X (pins++AR fp s5.heap) σ7 H7 s7->N σ7 H7->∃ m,m<n/\∃ i σ' H',Inv X pins σ' H' s7/\tn i s7.heap/\(∀ b∈fp,H' b=none)/\W i m σ' H':=λ{σ7 H7} I7 n7=>by
   obtain ⟨m',hm,w7⟩:=hN σ7 H7 n7
   refine ⟨m',hm,i+1,σ7,H7,I7.gI,T.keep _ _ _ rS λb hb o e=>(I7.pin (b,o) (af2 _ (af2 _ (Ec hb e)))).1,λb hb=>?_,w7⟩
   obtain ⟨o,e,d⟩:=T.obj _ _ rS b hb
   exact (I7.pin (b,o) (af2 _ (af2 _ (Ec hb e)))).2.1
  cases f with
  | next=>obtain ⟨σ7,H7,I7,n7⟩:=q7; exact again I7 n7
  | cont=>obtain ⟨σ7,H7,I7,n7⟩:=q7; exact again I7 n7
  | brk=>obtain ⟨σ7,H7,I7,q7⟩:=q7; exact ⟨σ7,H7,I7.gI,q7⟩
  | ret v=>obtain ⟨x7,σ7,H7,I7,r7,q7⟩:=q7; exact ⟨x7,σ7,H7,I7.gI,r7,q7⟩
end
theorem IX {K:W.Frag} {a:Addr} {xs:List V} {g:TG} {tb:TS} {D:Ends} {σ:St} {H:Hp} (Pv:Nat->St->Hp->Prop) (h0:Pv 0 σ H) (hl:∀ i σ H,i<=xs.length->Pv i σ H->aF K H a xs)
  (hs:∀ i x σ H,xs[i]?=some x->Pv i σ H->g x σ H λσ2 H2=>tb { D with nx:=Pv (i+1),ct:=Pv (i+1),bk:=D.nx } σ2 H2) (hd:∀ σ H,Pv xs.length σ H->D.nx σ H) :
  ∃ W:Nat->Nat->St->Hp->Prop,(∃ m,W 0 m σ H)/\∀ i m σ H,W i m σ H ->
   ((u9 K a).stop i H/\D.nx σ H)\/((u9 K a).go i H/\∃ N:St->Hp->Prop,(∀ σ' H',N σ' H'->∃ m',m'<m/\W (i+1) m' σ' H')/\∀ x H',(u9 K a).ni i H x H'->g x σ H' λσ2 H2=>tb { D with nx:=N,ct:=N,bk:=D.nx } σ2 H2):=by
 refine ⟨λi m σ H=>m=xs.length - i/\i<=xs.length/\Pv i σ H,⟨xs.length,by simp,avV _,h0⟩,?_⟩
 rintro i m σ H ⟨rfl,hi,p⟩
 have q:=hl i σ H hi p
 by_cases hlt:i<xs.length
 .refine .inr ⟨⟨xs,xs[i],q,by simp [hlt]⟩,Pv (i+1),λσ' H' p'=>⟨xs.length - (i+1),by lia,rfl,hlt,p'⟩,λx H' y=>?_⟩
  obtain ⟨e,y⟩:=y
  subst e
  exact hs i x σ _ (y xs q) p
 .have e:i=xs.length:=by lia
  subst e
  exact .inl ⟨⟨xs,q,a17 _⟩,hd σ H p⟩
theorem yz {lo:Int} {n:Nat} {g:TG} {tb:TS} {D:Ends} {σ:St} {H:Hp} (Pv:Nat->St->Hp->Prop) (h0:Pv 0 σ H)
  (hs:∀ i σ H,i<n->Pv i σ H->g (.int (lo+i)) σ H λσ2 H2=>tb { D with nx:=Pv (i+1),ct:=Pv (i+1),bk:=D.nx } σ2 H2) (hd:∀ σ H,Pv n σ H->D.nx σ H) :
  ∃ W:Nat->Nat->St->Hp->Prop,(∃ m,W 0 m σ H)/\∀ i m σ H,W i m σ H ->
   ((rL lo n).stop i H/\D.nx σ H)\/((rL lo n).go i H/\∃ N:St->Hp->Prop,(∀ σ' H',N σ' H'->∃ m',m'<m/\W (i+1) m' σ' H')/\∀ x H',(rL lo n).ni i H x H'->g x σ H' λσ2 H2=>tb { D with nx:=N,ct:=N,bk:=D.nx } σ2 H2):=by
 refine ⟨λi m σ H=>m=n - i/\i<=n/\Pv i σ H,⟨n,by simp,avV _,h0⟩,?_⟩
 rintro i m σ H ⟨rfl,hi,p⟩
 by_cases hlt:i<n
 .refine .inr ⟨hlt,Pv (i+1),λσ' H' p'=>⟨n - (i+1),by lia,rfl,hlt,p'⟩,λx H' y=>?_⟩
  obtain ⟨e,y⟩:=y
  subst e y
  exact hs i σ _ hlt p
 .have e:i=n:=by lia
  subst e
  exact .inl ⟨a17 _,hd σ H p⟩
abbrev R2:=V->V->Hp->VK->Prop
def jF (X:Cx) (f:Value->Value->Sem Value) (r:R2):Prop :=
 ∀ (pins:List (Addr×Obj)) (s:Shared) (σ:St) (H:Hp) (x y:V) (v u:Value) (Q:VK),Inv X pins σ H s->RelV x v->RelV y u->r x y H Q ->
  wpAny (model X.prog X.w) X.A (f v u) (EP X pins σ Q) X.xe s
def KS (X:Cx) (f:Value->Sem Value) (r:V->Hp->VK->Prop):Prop :=
 ∀ (pins:List (Addr×Obj)) (s:Shared) (σ:St) (H:Hp) (x:V) (v:Value) (Q:VK),Inv X pins σ H s->RelV x v->r x H Q ->
  wpAny (model X.prog X.w) X.A (f v) (EP X pins σ Q) X.xe s
def bH (X:Cx) (f:Value) (r:List V->Hp->VK->Prop):Prop :=
 ∀ (pins:List (Addr×Obj)) (s:Shared) (σ:St) (H:Hp) (xs:List V) (us:List Value) (Q:VK),Inv X pins σ H s->Vals xs us->r xs H Q ->
  wpAny (model X.prog X.w) X.A (call f us) (EP X pins σ Q) X.xe s
def Ci (r:R2) (ta tb:TE):TE:=λσ H Q=>ta σ H λx H1=>tb σ H1 λy H2=>r x y H2 Q
def RC (r:V->Hp->VK->Prop) (ta:TE):TE:=λσ H Q=>ta σ H λx H1=>r x H1 Q
def rI (C:Int->Int->Prop) (g:Int->Int->V):R2:=λx y H Q=>∃ i j,x=.int i/\y=.int j/\C i j/\Q (g i j) H
def t7 (g:Int->Int->V):R2:=λx y H Q=>∃ i j,x=.int i/\y=.int j/\Q (g i j) H
def rU (g:Int->V):V->Hp->VK->Prop:=λx H Q=>∃ i,x=.int i/\Q (g i) H
section
variable {X:Cx} {a b c:Expr} {ta tb tc:TE} {pos:Pos}
theorem wo (ha:PE X a ta) (hb:PE X b tb) {pins:List (Addr×Obj)} {s:Shared} {σ:St} {H:Hp} {R:V->V->Hp->Prop} (I:Inv X pins σ H s)
  (h:ta σ H λx H1=>tb σ H1 λy H2=>R x y H2) {Q:Value->Shared->Prop} {f:Value->Value->Sem Value}
  (hf:∀ v u s2 x y H2,Inv X pins σ H2 s2->RelV x v->RelV y u->R x y H2->wpAny (model X.prog X.w) X.A (f v u) Q X.xe s2) :
  wpAny (model X.prog X.w) X.A (eval a X.env) (λv s₁=>wpAny (model X.prog X.w) X.A (eval b X.env) (λu s₂=>wpAny (model X.prog X.w) X.A (f v u) Q X.xe s₂) X.xe s₁) X.xe s:=by
 refine aJ (ha pins s σ H _ I h) λv s1 ⟨x,H1,I1,r1,q1⟩=>?_
 refine aJ (hb pins s1 σ H1 _ I1 q1) λu s2 ⟨y,H2,I2,r2,q2⟩=>?_
 exact hf v u s2 x y H2 I2 r1 r2 q2
theorem ak {op:Operator} {r:R2} (ho:jF X (binaryOp op) r) (ha:PE X a ta) (hb:PE X b tb):PE X (.BinOp a op b pos) (Ci r ta tb):=by
 intro pins s σ H Q I h
 exact wpAny_BinOp (wo ha hb I h λv u s2 x y H2 I2 rx ry q=>ho pins s2 σ H2 x y v u Q I2 rx ry q)
theorem jU {op:UnaryOp} {r:V->Hp->VK->Prop} (ho:KS X (unaryOp op) r) (ha:PE X a ta):PE X (.UnaryOp op a pos) (RC r ta):=by
 intro pins s σ H Q I h
 exact UnaryOp_ (aJ (ha pins s σ H _ I h) λv s1 ⟨x,H1,I1,r1,q1⟩=>ho pins s1 σ H1 x v Q I1 r1 q1)
theorem Cq {f:Value->Value->Sem Value} {C:Int->Int->Prop} {g:Int->Int->Int}
  (rule:∀ (i j:Int) (t u:Tok) (s:Shared) (Q:Value->Shared->Prop) (E:Value->Shared->Prop),C i j->Q (.int (g i j) s.toks) { s with toks:=s.toks+1 }->wpAny (model X.prog X.w) X.A (f (.int i t) (.int j u)) Q E s) :
  jF X f (rI C λi j=>.int (g i j)):=by
 intro pins s σ H x y v u Q I rx ry h
 obtain ⟨i,j,rfl,rfl,hc,q⟩:=h
 obtain ⟨t,rfl⟩:=rx
 obtain ⟨t',rfl⟩:=ry
 exact rule i j t t' s _ _ hc ⟨.int (g i j),H,I.tok _,⟨_,rfl⟩,q⟩
theorem zF {f:Value->Value->Sem Value} {g:Int->Int->Int}
  (rule:∀ (i j:Int) (t u:Tok) (s:Shared) (Q:Value->Shared->Prop) (E:Value->Shared->Prop),Q (.int (g i j) s.toks) { s with toks:=s.toks+1 }->wpAny (model X.prog X.w) X.A (f (.int i t) (.int j u)) Q E s) :
  jF X f (t7 λi j=>.int (g i j)):=by
 intro pins s σ H x y v u Q I rx ry h
 obtain ⟨i,j,rfl,rfl,q⟩:=h
 obtain ⟨t,rfl⟩:=rx
 obtain ⟨t',rfl⟩:=ry
 exact rule i j t t' s _ _ ⟨.int (g i j),H,I.tok _,⟨_,rfl⟩,q⟩
theorem sA {f:Value->Value->Sem Value} {g:Int->Int->Bool}
  (rule:∀ (i j:Int) (t u:Tok) (s:Shared) (Q:Value->Shared->Prop) (E:Value->Shared->Prop),Q (.bool (g i j)) s->wpAny (model X.prog X.w) X.A (f (.int i t) (.int j u)) Q E s) :
  jF X f (t7 λi j=>.bl (g i j)):=by
 intro pins s σ H x y v u Q I rx ry h
 obtain ⟨i,j,rfl,rfl,q⟩:=h
 obtain ⟨t,rfl⟩:=rx
 obtain ⟨t',rfl⟩:=ry
 exact rule i j t t' s _ _ ⟨.bl (g i j),H,I,rfl,q⟩
def BL (i j:Int):Prop:=0<j/\j<1073741824
def K4 (i j:Int):Prop:=0<=j/\j<=1000000/\i.natAbs<2 ^ 64
def wW (i j:Int):Prop:=(-(2 ^ 64)<i/\i<2 ^ 64)\/(-(2 ^ 64)<j/\j<2 ^ 64)
theorem wW.ok {i j:Int} (h:wW i j):IntMulOk i j:=by
 rcases h with ⟨h1,h2⟩ | ⟨h1,h2⟩
 .exact .of_left (intBits_le_64 h1 h2)
 .exact .of_right (intBits_le_64 h1 h2)
theorem ZA:jF X (binaryOp .Add) (t7 λi j=>.int (i+j)):=zF λ_ _ _ _ _ _ _ q=>add_int q
theorem uU:jF X (binaryOp .Sub) (t7 λi j=>.int (i - j)):=zF λ_ _ _ _ _ _ _ q=>sub_int q
theorem oj:jF X (binaryOp .Mult) (rI wW λi j=>.int (i * j)):=Cq λ_ _ _ _ _ _ _ hc q=>mul_int q hc.ok
theorem yq:jF X (binaryOp .FloorDiv) (rI BL λi j=>.int (i / j)):=Cq λi j _ _ _ _ _ hc q=>by
 have h1:(0:Int)<j:=hc.1
 have h2:j<1073741824:=hc.2
 exact floordiv_int (by lia) (by rw [Int.fdiv_eq_ediv_of_nonneg i (by lia)]; exact q) (.inl (bb4 (by lia)))
theorem oJ:jF X (binaryOp .Mod) (rI (λ_ j=>0<j) λi j=>.int (i % j)):=Cq λi j _ _ _ _ _ hc q=>by
 have h1:(0:Int)<j:=hc
 exact mod_int' (by lia) (by rw [Int.fmod_eq_emod_of_nonneg i (by lia)]; exact q)
theorem HH:jF X (binaryOp .Pow) (rI K4 λi j=>.int (i ^ j.toNat)):=Cq λ_ _ _ _ _ _ _ hc q=>pow_int_small hc.1 hc.2.1 hc.2.2 q
theorem Rw {f:Value->Sem Value} {g:Int->Int}
  (rule:∀ (i:Int) (t:Tok) (s:Shared) (Q:Value->Shared->Prop) (E:Value->Shared->Prop),Q (.int (g i) s.toks) { s with toks:=s.toks+1 }->wpAny (model X.prog X.w) X.A (f (.int i t)) Q E s) :
  KS X f (rU λi=>.int (g i)):=by
 intro pins s σ H x v Q I rx h
 obtain ⟨i,rfl,q⟩:=h
 obtain ⟨t,rfl⟩:=rx
 exact rule i t s _ _ ⟨.int (g i),H,I.tok _,⟨_,rfl⟩,q⟩
theorem yc:KS X (unaryOp .USub) (rU λi=>.int (-i)):=Rw λ_ _ _ _ _ q=>neg_int q
end
def zc:V->V->Bool
 | .aR,.aR=>true | .aR,.int _=>true | .int _,.aR=>true | .aR,.bl _=>true | .bl _,.aR=>true | .aR,.str _=>true | .str _,.aR=>true
 | .int _,.int _=>true | .bl _,.bl _=>true | .str _,.str _=>true | .oF _,.oF _=>true
 | .int _,.str _=>true | .str _,.int _=>true | .bl _,.str _=>true | .str _,.bl _=>true
 | _,_=>false
def RT:R2:=λx y H Q=>zc x y=true/\Q (.bl (decide (x=y))) H
def RQ:R2:=λx y H Q=>zc x y=true/\Q (.bl (!decide (x=y))) H
theorem N1 {i j:Int}:decide (V.int i=V.int j)=(i == j):=by
 rw [aJ5]
 simp
theorem Nr {i j:Bool}:decide (V.bl i=V.bl j)=(i == j):=by
 rw [aJ5]
 simp
theorem NZ {i j:Str}:decide (V.str i=V.str j)=(i == j):=by
 rw [aJ5]
 simp
theorem NY {i j:Array UInt8}:decide (V.oF i=V.oF j)=(i.toList == j.toList):=by
 rw [aJ5]
 cases i
 cases j
 simp
section
variable {X:Cx} {a b c:Expr} {ta tb tc:TE} {pos:Pos}
theorem Zz {pins:List (Addr×Obj)} {σ:St} {H:Hp} {s:Shared} {Q:VK} {k k':Bool} (I:Inv X pins σ H s) (q:Q (.bl k) H) (e:k=k'):EP X pins σ Q (.bool k') s:=by
 subst e
 exact ⟨.bl k,H,I,rfl,q⟩
theorem aY:jF X (compareOp .Eq) RT:=by
 intro pins s σ H x y v u Q I rx ry h
 obtain ⟨hs,q⟩:=h
 cases x with
 | aR =>
  cases rx
  cases y with
  | aR=>cases ry; exact PySem.EqNone.eq_none_none (Zz I q (by simp))
  | bl j=>cases ry; exact PySem.EqNone.eq_none_bool (Zz I q (by simp))
  | int j=>obtain ⟨t',rfl⟩:=ry; exact PySem.EqNone.eq_none_int (Zz I q (by simp))
  | str j=>obtain ⟨t',rfl⟩:=ry; exact PySem.EqNone.eq_none_str (Zz I q (by simp))
  | _=>exact absurd (show false=true from hs) am8
 | bl i =>
  cases rx
  cases y with
  | aR=>cases ry; exact PySem.EqNone.eq_bool_none (Zz I q (by simp))
  | bl j=>cases ry; exact eq_bool (Zz I q Nr)
  | str j=>obtain ⟨t',rfl⟩:=ry; exact PySem.EqMixed.eq_bool_str (Zz I q (by simp))
  | _=>exact absurd (show false=true from hs) am8
 | int i =>
  obtain ⟨t,rfl⟩:=rx
  cases y with
  | aR=>cases ry; exact PySem.EqNone.eq_int_none (Zz I q (by simp))
  | int j=>obtain ⟨t',rfl⟩:=ry; exact eq_int (Zz I q N1)
  | str j=>obtain ⟨t',rfl⟩:=ry; exact PySem.EqMixed.eq_int_str (Zz I q (by simp))
  | _=>exact absurd (show false=true from hs) am8
 | str i =>
  obtain ⟨t,rfl⟩:=rx
  cases y with
  | aR=>cases ry; exact PySem.EqNone.eq_str_none (Zz I q (by simp))
  | bl j=>cases ry; exact PySem.EqMixed.eq_str_bool (Zz I q (by simp))
  | int j=>obtain ⟨t',rfl⟩:=ry; exact PySem.EqMixed.eq_str_int (Zz I q (by simp))
  | str j=>obtain ⟨t',rfl⟩:=ry; exact eq_str (Zz I q NZ)
  | _=>exact absurd (show false=true from hs) am8
 | oF i =>
  obtain ⟨t,rfl⟩:=rx
  cases y with
  | oF j=>obtain ⟨t',rfl⟩:=ry; exact W.eq_bytes (Zz I q NY)
  | _=>exact absurd (show false=true from hs) am8
 | _=>cases y <;> exact absurd (show false=true from hs) am8
theorem uf:jF X (compareOp .NotEq) RQ:=by
 intro pins s σ H x y v u Q I rx ry h
 obtain ⟨hs,q⟩:=h
 cases x with
 | aR =>
  cases rx
  cases y with
  | aR=>cases ry; exact PySem.EqNone.ne_none_none (Zz I q (by simp))
  | bl j=>cases ry; exact PySem.EqNone.ne_none_bool (Zz I q (by simp))
  | int j=>obtain ⟨t',rfl⟩:=ry; exact PySem.EqNone.ne_none_int (Zz I q (by simp))
  | str j=>obtain ⟨t',rfl⟩:=ry; exact PySem.EqNone.ne_none_str (Zz I q (by simp))
  | _=>exact absurd (show false=true from hs) am8
 | bl i =>
  cases rx
  cases y with
  | aR=>cases ry; exact PySem.EqNone.ne_bool_none (Zz I q (by simp))
  | bl j=>cases ry; exact ne_bool (Zz I q (aOy not Nr))
  | str j=>obtain ⟨t',rfl⟩:=ry; exact PySem.EqMixed.ne_bool_str (Zz I q (by simp))
  | _=>exact absurd (show false=true from hs) am8
 | int i =>
  obtain ⟨t,rfl⟩:=rx
  cases y with
  | aR=>cases ry; exact PySem.EqNone.ne_int_none (Zz I q (by simp))
  | int j=>obtain ⟨t',rfl⟩:=ry; exact ne_int (Zz I q (aOy not N1))
  | str j=>obtain ⟨t',rfl⟩:=ry; exact PySem.EqMixed.ne_int_str (Zz I q (by simp))
  | _=>exact absurd (show false=true from hs) am8
 | str i =>
  obtain ⟨t,rfl⟩:=rx
  cases y with
  | aR=>cases ry; exact PySem.EqNone.ne_str_none (Zz I q (by simp))
  | bl j=>cases ry; exact PySem.EqMixed.ne_str_bool (Zz I q (by simp))
  | int j=>obtain ⟨t',rfl⟩:=ry; exact PySem.EqMixed.ne_str_int (Zz I q (by simp))
  | str j=>obtain ⟨t',rfl⟩:=ry; exact ne_str (Zz I q (aOy not NZ))
  | _=>exact absurd (show false=true from hs) am8
 | oF i =>
  obtain ⟨t,rfl⟩:=rx
  cases y with
  | oF j=>obtain ⟨t',rfl⟩:=ry; exact W.ne_bytes (Zz I q (aOy not NY))
  | _=>exact absurd (show false=true from hs) am8
 | _=>cases y <;> exact absurd (show false=true from hs) am8
theorem jg:jF X (compareOp .Lt) (t7 λi j=>.bl (decide (i<j))):=sA λ_ _ _ _ _ _ _ q=>lt_int q
theorem zC:jF X (compareOp .LtE) (t7 λi j=>.bl (decide (i<=j))):=sA λ_ _ _ _ _ _ _ q=>le_int q
theorem zD:jF X (compareOp .Gt) (t7 λi j=>.bl (decide (j<i))):=sA λ_ _ _ _ _ _ _ q=>gt_int q
theorem zE:jF X (compareOp .GtE) (t7 λi j=>.bl (decide (j<=i))):=sA λ_ _ _ _ _ _ _ q=>ge_int q
theorem Zw (b:Expr) {op:CmpOp} (h:op≠.In:=by decide) (h2:op≠.NotIn:=by decide):behindInMarks op b=false:=by
 have e1:(op == CmpOp.In)=false:=by cases op <;> first | rfl | exact absurd rfl h
 have e2:(op == CmpOp.NotIn)=false:=by cases op <;> first | rfl | exact absurd rfl h2
 cases b <;> simp [behindInMarks,e1,e2]
theorem qO {op:CmpOp} {r:R2} (ho:jF X (compareOp op) r) (ha:PE X a ta) (hb:PE X b tb) (hm:behindInMarks op b=false):PE X (.Compare a [op] [b] pos) (Ci r ta tb):=by
 intro pins s σ H Q I h
 exact wpAny_Compare1 (wo ha hb I h λv u s2 x y H2 I2 rx ry q=>ho pins s2 σ H2 x y v u Q I2 rx ry q) hm
def tR (t:TE):TT:=λσ H Q=>t σ H λx H'=>∃ k,x=.bl k/\Q k H'
theorem Zv {op:CmpOp} {r:R2} (ho:jF X (compareOp op) r) (ha:PE X a ta) (hb:PE X b tb) (hm:behindInMarks op b=false):PT X (.Compare a [op] [b] pos) (tR (Ci r ta tb)):=by
 intro pins s σ H Q I h
 refine wpAny_isTrue_Compare1 (aJ (ha pins s σ H _ I h) λv s1 ⟨x,H1,I1,r1,q1⟩=>aJ (hb pins s1 σ H1 _ I1 q1) λu s2 ⟨y,H2,I2,r2,q2⟩ =>
  aJ (ho pins s2 σ H2 x y v u _ I2 r1 r2 q2) λc s3 ⟨z,H3,I3,r3,k,e,q3⟩=>?_) hm
 subst e
 cases r3
 exact asR ⟨H3,I3,q3⟩
def VX (r r':R2) (ta tb tc:TE):TE:=λσ H Q=>ta σ H λx H1=>tb σ H1 λy H2=>r x y H2 λz H3=>∃ k,z=.bl k /\
 (if k=true then tc σ H3 λw' H4=>r' y w' H4 Q else Q (.bl false) H3)
theorem WV {op op':CmpOp} {r r':R2} (ho:jF X (compareOp op) r) (ho':jF X (compareOp op') r') (ha:PE X a ta) (hb:PE X b tb) (hc:PE X c tc)
  (hm:lastMarks [op,op'] [b,c]=false:=by with_unfolding_all rfl):PT X (.Compare a [op,op'] [b,c] pos) (tR (VX r r' ta tb tc)):=by
 intro pins s σ H Q I h
 refine isTrue_chain (aJ (ha pins s σ H _ I h) λv s1 ⟨x,H1,I1,r1,q1⟩=>test_link (aJ (hb pins s1 σ H1 _ I1 q1) λu s2 ⟨y,H2,I2,r2,q2⟩ =>
  aJ (ho pins s2 σ H2 x y v u _ I2 r1 r2 q2) λd s3 ⟨z,H3,I3,r3,k,e,q3⟩=>?_)) hm
 subst e
 cases r3
 refine asR ?_
 cases k with
 | false =>
  obtain ⟨k',e',q'⟩:=q3
  cases e'
  exact ite_ff ⟨H3,I3,q'⟩
 | true =>
  refine ite_tt (test_last (aJ (hc pins s3 σ H3 _ I3 q3) λw' s4 ⟨z',H4,I4,r4,q4⟩=>aJ (ho' pins s4 σ H4 y z' u w' _ I4 r2 r4 q4) λd' s5 ⟨z2,H5,I5,r5,k2,e2,q5⟩=>?_))
  subst e2
  cases r5
  exact asR ⟨H5,I5,q5⟩
theorem Dq:(sizeLine:Nat)<2 ^ 63:=by rw [bav]; decide
theorem vals1 {x:V} {us:List Value} (r:Vals [x] us):∃ u,us=[u]/\RelV x u:=by
 cases r with
 | cons r1 r2=>cases r2; exact ⟨_,rfl,r1⟩
theorem vals2 {x y:V} {us:List Value} (r:Vals [x,y] us):∃ u w',us=[u,w']/\RelV x u/\RelV y w':=by
 cases r with
 | cons r1 r2 =>
  cases r2 with
  | cons r3 r4=>cases r4; exact ⟨_,_,rfl,r1,r3⟩
theorem OE:bH X (.builtin "abs") (λxs H Q=>∃ i,xs=[.int i]/\Q (.int (if i<0 then -i else i)) H):=by
 intro pins s σ H xs us Q I r h
 obtain ⟨i,rfl,q⟩:=h
 obtain ⟨u,rfl,t,rfl⟩:=vals1 r
 exact call_abs_int λu tk=>⟨.int (if i<0 then -i else i),H,I.tok _,⟨_,rfl⟩,q⟩
theorem Pn (hc:X.calm=true):bH X (.builtin "max") (λxs H Q=>∃ i j,xs=[.int i,.int j]/\Q (.int (if j > i then j else i)) H):=by
 intro pins s σ H xs us Q I r h
 obtain ⟨i,j,rfl,q⟩:=h
 obtain ⟨u,w',rfl,⟨t,rfl⟩,⟨t',rfl⟩⟩:=vals2 r
 refine max_two_ints (I.ok.hd hc) λh' tk k=>⟨_,H,I.kept k,?_,q⟩
 by_cases hj:j > i
 .rw [ajr hj,ajr hj]; exact ⟨_,rfl⟩
 .rw [aBJ hj,aBJ hj]; exact ⟨_,rfl⟩
theorem XE (hc:X.calm=true):bH X (.builtin "min") (λxs H Q=>∃ i j,xs=[.int i,.int j]/\Q (.int (if j<i then j else i)) H):=by
 intro pins s σ H xs us Q I r h
 obtain ⟨i,j,rfl,q⟩:=h
 obtain ⟨u,w',rfl,⟨t,rfl⟩,⟨t',rfl⟩⟩:=vals2 r
 refine min_two_ints (I.ok.hd hc) λh' tk k=>⟨_,H,I.kept k,?_,q⟩
 by_cases hj:j<i
 .rw [ajr hj,ajr hj]; exact ⟨_,rfl⟩
 .rw [aBJ hj,aBJ hj]; exact ⟨_,rfl⟩
theorem Ji:bH X (.type "int") (λxs H Q=>(∃ i,xs=[.int i]/\Q (.int i) H)\/∃ k,xs=[.bl k]/\Q (.int (if k then 1 else 0)) H):=by
 intro pins s σ H xs us Q I r h
 rcases h with ⟨i,rfl,q⟩ | ⟨k,rfl,q⟩
 .obtain ⟨u,rfl,t,rfl⟩:=vals1 r
  exact call_int_int ⟨.int i,H,I,⟨_,rfl⟩,q⟩
 .obtain ⟨u,rfl,r1⟩:=vals1 r
  cases r1
  exact call_int_bool ⟨.int (if k then 1 else 0),H,I.tok _,⟨_,rfl⟩,q⟩
theorem YW:bH X (.builtin "divmod") (λxs H Q=>∃ i j,xs=[.int i,.int j]/\BL i j/\∀ p,H p=none->Q (.ref p) (upd H p (.tup [.int (i / j),.int (i % j)]))):=by
 intro pins s σ H xs us Q I r h
 obtain ⟨i,j,rfl,⟨h1,h2⟩,q⟩:=h
 obtain ⟨u,w',rfl,⟨t,rfl⟩,⟨t',rfl⟩⟩:=vals2 r
 refine divmod_int (by lia) ?_ (.inl (bb4 (by lia)))
 rw [Int.fdiv_eq_ediv_of_nonneg i (by lia),Int.fmod_eq_emod_of_nonneg i (by lia)]
 have hn:H s.heap.objs.size=none:=I.hok.fresh (a17 _)
 refine ⟨.ref s.heap.objs.size,_,?_,rfl,q _ hn⟩
 refine I.laid (λb o e=>aL6 _ e) (a17 _) ⟨by simp only [am4,List.length_nil]; rw [bav]; decide,[.int (i / j) s.toks,.int (i % j) (s.toks+1)],.cons ⟨_,rfl⟩ (.cons ⟨_,rfl⟩ .nil),?_⟩
 exact ⟨_,aWh s.heap rfl,rfl,0,rfl⟩
end
structure mZ (h:Heap) (x dx C:Addr) (mA:Str->Option Value):Prop where
 obj:h.get? x=some (W.instObj C dx)
 ns:h.Ns1 dx mA
 ne:dx≠x
theorem XD {h:Heap} {dx:Addr} {mA:Str->Option Value} (n:h.Ns1 dx mA):∃ od,h.get? dx=some od/\∀ name,W.lookIn name od=some (mA name):=by
 obtain ⟨o,es,ep,ho,hd,hk,_,hm⟩:=n
 refine ⟨o,ho,λname=>?_⟩
 have e:=hm name
 unfold nsFind findBy at e
 rw [← Array.find?_toList] at e
 unfold W.lookIn
 rw [hd]
 dsimp only
 split
 .rename_i y q
  rw [q] at e
  exact aOy some e
 .rename_i q
  rw [q] at e
  have a:es.toList.any (·.refKey)=false:=by
   rw [List.any_eq_false]
   intro y hy
   obtain ⟨z,t,hkey⟩:=hk y (Array.mem_toList_iff.mp hy)
   simp [DictEntry.refKey,hkey]
  have a':¬ es.toList.any (·.refKey)=true:=by rw [a]; exact am8
  rw [aBJ a']
  exact aOy some e
theorem mZ.look {h:Heap} {x dx C:Addr} {mA:Str->Option Value} (I:mZ h x dx C mA):∃ od,W.InstAt h x (W.instObj C dx) C (some od)/\∀ name,W.lookIn name od=some (mA name) :=
 let ⟨od,ho,hl⟩:=XD I.ns
 ⟨od,⟨I.obj,rfl,rfl,ho⟩,hl⟩
section
variable {prog:Program} {w:World} {A:Around} {E:Value->Shared->Prop} {s:Shared} {K:W.Frag} {x dx C f:Addr} {mA:Str->Option Value} {name:Str} {v:Value}
theorem Ww {expr:Bool} {Q:Value->Shared->Prop} (X:K.In s.heap) (I:mZ s.heap x dx C mA) (hg:W.plainGet K C name=true) (hh:W.hasDictIn K C=true)
  (ha:W.findIn K (.ref C) name=some none) (hv:mA name=some v) (hv':W.handedIn v=true) (h:Q v { s with toks:=s.toks+1 }) :
  wpAny (model prog w) A (getAttr (.ref x) name expr) Q E s:=by
 obtain ⟨od,J,hl⟩:=I.look
 exact W.get_value X J (W.plainGet_of hg).1 (W.findObj_own hh ha rfl (by rw [hl,hv])) hv' h
theorem WU {pl:Sem Bool} {Q:Value×List Value->Shared->Prop} (X:K.In s.heap) (I:mZ s.heap x dx C mA) (hg:W.plainGet K C name=true)
  (hf:W.findIn K (.ref C) name=some (some (.ref f))) (ht:W.isFn K (.ref f)=true) (hv:mA name=none) (h:Q (.ref f,[.ref x]) s) :
  wpAny (model prog w) A (getMethod (.ref x) name pl) Q E s:=by
 obtain ⟨od,J,hl⟩:=I.look
 exact W.method_fn X J (W.plainGet_of hg).1 (W.plainGet_of hg).2 hf (aXR.mp ht) (by show (W.lookIn name od).map (·.isSome)=some false; rw [hl,hv]; rfl) h
theorem Wv {ns:List Str} {Q:Unit->Shared->Prop} (X:K.In s.heap) (I:mZ s.heap x dx C mA)
  (hs:W.findIn K (.ref C) "__setattr__" = some (some (.builtin "object.__setattr__"))) (hp:W.plainOver K C=true) (ht:W.takerIn K C name=some none) (hh:W.hasDictIn K C=true)
  (hw:PySem.Within mA ns) (hsz:ns.length<=sizeLine)
  (h:∀ h',mZ h' x dx C (λy=>if y=name then some v else mA y)->Heap.SameBut dx s.heap h'->Q () { s with heap:=h',toks:=s.toks+2 }) :
  wpAny (model prog w) A (setAttr (.ref x) name v) Q E s:=by
 obtain ⟨od,J,hl⟩:=I.look
 refine W.set_plain X J hs (W.osa_open (s:={ s with toks:=s.toks+1 }) (r:=none) X J hp ht λb=>?_)
 obtain ⟨cd,hc,hd'⟩:=W.any_some hh
 have hx:s.heap.get? x=some ⟨.ref C,some dx,.plain,#[]⟩:=I.obj
 refine awJ (aOf (awJ (awJ (wpAny_loadPart hx (awJ (W.Looks.here (s:={ s with toks:=s.toks+1 }) (W.looks_clsIn X hc) ?_))))))
 rw [hd']
 refine aOf (a:=some dx) (awJ (aOf (awJ ?_)))
 refine wpAny_nsSet1 (s:={ s with toks:=s.toks+1 }) I.ns λh' hn2 hs2=>?_
 obtain ⟨oD,esD,epD,Tq,TL,TN⟩:=hn2.count (PySem.Within.cons name v hw)
 refine awJ (wpAny_lookBehind Tq (by rw [TL]; exact pastItsLine_dict (awv TN (by rw [am4]; lia))) ?_)
 exact aOf (h _ ⟨(hs2.2 _ (aFS I.ne)).trans I.obj,hn2,I.ne⟩ hs2)
theorem WT {R:Result->Shared->Prop} {vs:List Value} {kw:List (Str×Value)} (X:K.In s.heap) (hm:W.makesIn K C=true)
  (hi:W.findIn K (.ref C) "__init__" = some (some (.ref f))) (hf:W.typeIn K (.ref f)=some (.type "function"))
  (h:codeAny (model prog w) (A.under (.builtin "type.__call__" ⟨.ref C :: vs,kw⟩)) (.call (.ref f) ⟨.ref (s.heap.objs.size+1) :: vs,kw⟩) (W.InitBack (s.heap.objs.size+1) R)
   { s with heap:=(s.heap.push W.emptyDict).push (W.instObj C s.heap.objs.size) }) :
  codeAny (model prog w) A (.call (.ref C) ⟨vs,kw⟩) R s:=by
 obtain ⟨hh,g,d,t,os⟩:=s
 exact W.make_core (W.makes_of X hm) (W.looks_findIn X hi) (λself=>W.bind_fn X self hf) (.inl rfl) h
end
def ai (f:Str) (v:V):List (Str×V)->List (Str×V)
 | []=>[(f,v)]
 | (g,x) :: r=>if g=f then (g,v) :: r else (g,x) :: ai f v r
theorem Zf (f g:Str) (v:V):∀ fs:List (Str×V),(ai f v fs).lookup g=if g=f then some v else fs.lookup g
 | []=>by
  show List.lookup g [(f,v)]=_
  by_cases h:g=f
  .have hb:(g == f)=true:=aXR.mpr h
   simp only [List.lookup,hb,ajr h]
  .have hb:(g == f)=false:=aHA.mpr h
   simp only [List.lookup,hb,aBJ h]
 | (k,x) :: r=>by
  have ih:=Zf f g v r
  rw [show ai f v ((k,x) :: r)=(if k=f then (k,v) :: r else (k,x) :: ai f v r) from rfl]
  by_cases hk:k=f
  .rw [ajr hk]
   by_cases h:g=k
   .have hb:(g == k)=true:=aXR.mpr h
    simp only [List.lookup,hb,ajr (h.trans hk)]
   .have hb:(g == k)=false:=aHA.mpr h
    simp only [List.lookup,hb,aBJ (λe:g=f=>h (e.trans hk.symm))]
  .rw [aBJ hk]
   by_cases h:g=k
   .have hb:(g == k)=true:=aXR.mpr h
    simp only [List.lookup,hb,aBJ (λe:g=f=>hk (h.symm.trans e))]
   .have hb:(g == k)=false:=aHA.mpr h
    simp only [List.lookup,hb]
    exact ih
theorem Jg (f:Str) (v:V):∀ fs:List (Str×V),f∈(ai f v fs).map (·.1)/\∀ g,g∈fs.map (·.1)->g∈(ai f v fs).map (·.1)
 | []=>⟨by simp [ai],λg h=>by simp at h⟩
 | (k,x) :: r=>by
  obtain ⟨i1,i2⟩:=Jg f v r
  rw [show ai f v ((k,x) :: r)=(if k=f then (k,v) :: r else (k,x) :: ai f v r) from rfl]
  by_cases hk:k=f
  .rw [ajr hk]
   subst hk
   exact ⟨by simp,λg h=>by simpa using h⟩
  .rw [aBJ hk]
   refine ⟨?_,λg h=>?_⟩
   .rw [asO]
    exact aZE _ i1
   .rw [asO] at h ⊢
    rcases aM6.mp h with e | e
    .exact aM6.mpr (.inl e)
    .exact aZE _ (i2 g e)
theorem P1 (f:Str) (v:V):∀ fs:List (Str×V),(ai f v fs).length<=fs.length+1
 | []=>by simp [ai]
 | (k,x) :: r=>by
  have ih:=P1 f v r
  rw [show ai f v ((k,x) :: r)=(if k=f then (k,v) :: r else (k,x) :: ai f v r) from rfl]
  by_cases hk:k=f
  .rw [ajr hk,am4,am4]; lia
  .rw [aBJ hk,am4,am4]; lia
theorem dH.some_of {v:V} {o:Option Value} (r:dH (some v) o):∃ u,o=some u/\RelV v u:=by
 cases o with
 | none=>exact (show False from r).elim
 | some u=>exact ⟨u,rfl,r⟩
theorem dH.none_of {o:Option Value} (r:dH none o):o=none:=by
 cases o with
 | none=>rfl
 | some u=>exact (show False from r).elim
theorem XC {v:V} {u:Value} (r:RelV v u):W.handedIn u=true:=by
 cases v with
 | aR=>cases (show u=Value.none from r); rfl
 | bl b=>cases (show u=Value.bool b from r); rfl
 | int i=>obtain ⟨t,e⟩:=(show ∃ t,u=Value.int i t from r); cases e; rfl
 | str x=>obtain ⟨t,e⟩:=(show ∃ t,u=Value.str x t from r); cases e; rfl
 | oF b=>obtain ⟨t,e⟩:=(show ∃ t,u=Value.bytes b t from r); cases e; rfl
 | sO b=>obtain ⟨t,e⟩:=(show ∃ t,u=Value.float b t from r); cases e; rfl
 | ref a=>cases (show u=Value.ref a from r); rfl
 | ty n=>cases (show u=Value.type n from r); rfl
section
variable {P:Program} {w:World} {H H':Hp} {h h':Heap} {a C dx:Addr} {fs fs':List (Str×V)}
theorem DN (hok:fc P w H h) (e:H a=some (.ins C dx fs)):∃ mA,mZ h a dx C mA/\(∀ f,dH (fs.lookup f) (mA f))/\PySem.Within mA (fs.map (·.1))/\fs.length<=1000/\H dx=some (.own a):=by
 obtain ⟨d,z,ne,ob,mA,n,r,q⟩:=(show aI P w H h a (.ins C dx fs) from hok a _ e)
 exact ⟨mA,⟨ob,n,ne⟩,r,q,z,d⟩
end
structure mw (K:W.Frag) (C:Addr):Prop where
 pg:W.plainGet K C Str.empty=true
 hd:W.hasDictIn K C=true
 po:W.plainOver K C=true
 sa:W.findIn K (.ref C) "__setattr__" = some (some (.builtin "object.__setattr__"))
theorem mw.get {K:W.Frag} {C:Addr} (c:mw K C) (f:Str):W.plainGet K C f=true:=c.pg
def aO (K:W.Frag) (C:Addr) (f:Str):Prop:=W.findIn K (.ref C) f=some none
theorem aO.yJ {K:W.Frag} {C:Addr} {f:Str} (n:aO K C f):W.takerIn K C f=some none:=by
 unfold W.takerIn
 rw [show W.findIn K (.ref C) f=some none from n]
 rfl
structure Meth (K:W.Frag) (C:Addr) (m:Str) (f:Addr):Prop where
 at_:W.findIn K (.ref C) m=some (some (.ref f))
 fn:W.isFn K (.ref f)=true
 kp:W.keepIn K (.ref f)=true
section
variable {X:Cx} {pins:List (Addr×Obj)} {σ:St} {H:Hp} {s:Shared} {a C dx:Addr} {fs:List (Str×V)} {f:Str} {v:V} {A:Around} {E:Value->Shared->Prop}
theorem Yt {b:Bool} {Q:Value->Shared->Prop} (I:Inv X pins σ H s) (e:H a=some (.ins C dx fs)) (c:mw X.K C) (n:aO X.K C f) (l:fs.lookup f=some v)
  (h:∀ u s',Inv X pins σ H s'->RelV v u->Q u s'):wpAny (model X.prog X.w) A (getAttr (.ref a) f b) Q E s:=by
 obtain ⟨mA,O,r,_,_,_⟩:=DN I.hok e
 obtain ⟨u,hu,ru⟩:=dH.some_of (v:=v) (o:=mA f) (by rw [← l]; exact r f)
 exact Ww I.dW O (c.get f) c.hd n hu (XC ru) (h u _ (I.tok _) ru)
theorem PR {m:Str} {g:Addr} {pl:Sem Bool} {Q:Value×List Value->Shared->Prop} (I:Inv X pins σ H s) (e:H a=some (.ins C dx fs)) (c:mw X.K C) (k:Meth X.K C m g) (l:fs.lookup m=none)
  (h:Q (.ref g,[.ref a]) s):wpAny (model X.prog X.w) A (getMethod (.ref a) m pl) Q E s:=by
 obtain ⟨mA,O,r,_,_,_⟩:=DN I.hok e
 have hn:mA m=none:=dH.none_of (by rw [← l]; exact r m)
 exact WU I.dW O (c.get m) k.at_ k.fn hn h
theorem Ys {y:V} {u:Value} {Q:Unit->Shared->Prop} (I:Inv X pins σ H s) (e:H a=some (.ins C dx fs)) (c:mw X.K C) (n:aO X.K C f) (hl:fs.length<1000) (ry:RelV y u)
  (h:∀ s',Inv X pins σ (upd H a (.ins C dx (ai f y fs))) s'->Q () s'):wpAny (model X.prog X.w) A (setAttr (.ref a) f u) Q E s:=by
 obtain ⟨mA,O,r,wi,_,ho⟩:=DN I.hok e
 have hz:(fs.map (·.1)).length<=sizeLine:=by rw [afy,bav]; lia
 refine Wv I.dW O c.sa c.po n.yJ c.hd wi hz λh' O' sb=>h _ ?_
 have hd:∃ o,h'.get? dx=some o:=let ⟨o,_,_,e',_⟩:=O'.ns; ⟨o,e'⟩
 refine I.write (x:=a) (e:=dx) (by rw [e]; exact True.intro) (.inr ho) (λb q hb z=>(sb.2 b hb).trans z) hd ?_
 refine ⟨by rw [Zc O.ne]; exact ho,?_,O.ne,O'.obj,_,O'.ns,λg=>?_,λg hg=>?_⟩
 .have:=P1 f y fs; lia
 .show dH ((ai f y fs).lookup g) (if g=f then some u else mA g)
  rw [Zf]
  by_cases q:g=f
  .rw [ajr q,ajr q]; exact ry
  .rw [aBJ q,aBJ q]; exact r g
 .by_cases q:g=f
  .rw [q]; exact (Jg f y fs).1
  .refine (Jg f y fs).2 g (wi g λz=>hg ?_)
   show (if g=f then some u else mA g)=none
   rw [aBJ q]; exact z
theorem Inv.made (I:Inv X pins σ H s):Inv X pins σ (upd (upd H s.heap.objs.size (.own (s.heap.objs.size+1))) (s.heap.objs.size+1) (.ins C s.heap.objs.size []))
  { s with heap:=(s.heap.push W.emptyDict).push (W.instObj C s.heap.objs.size) }:=by
 have e1:(s.heap.push W.emptyDict).get? s.heap.objs.size=some W.emptyDict:=aWh s.heap rfl
 have e2:((s.heap.push W.emptyDict).push (W.instObj C s.heap.objs.size)).get? (s.heap.objs.size+1)=some (W.instObj C s.heap.objs.size):=by
  have:=aWh (s.heap.push W.emptyDict) (o:=W.instObj C s.heap.objs.size) rfl
  rwa [aHg] at this
 have e3:(s.heap.push W.emptyDict).Ns s.heap.objs.size (λ_=>none):=⟨W.emptyDict,#[],_,e1,rfl,(λe he=>absurd he (by simp)),λ_=>rfl⟩
 have I1:=I.laid (a:=s.heap.objs.size) (o:=.own (s.heap.objs.size+1)) (h':=s.heap.push W.emptyDict) (t':=s.toks) (λb u q=>aL6 _ q) (a17 _) ⟨_,e1⟩
 refine I1.laid (a:=s.heap.objs.size+1) (o:=.ins C s.heap.objs.size []) (t':=s.toks) (λb u q=>aL6 _ q) (Nat.le_of_eq (aHg _ _)) ?_
 have ne:s.heap.objs.size≠s.heap.objs.size+1:=a19 (Nat.lt_succ_self _)
 refine ⟨by rw [Zc ne,Za],avV _,ne,e2,λ_=>none,(Heap.Ns1.of_empty e3).at λo q=>aL6 _ q,λ_=>True.intro,λy hy=>absurd rfl hy⟩
theorem Wu {prog:Program} {w:World} {env:Env} {e:Expr} {f:Str} {pos:Pos} {s:Shared} {Q:Value->Shared->Prop} (hb:attributeBase e f env (eval e env)=eval e env)
  (h:wpAny (model prog w) A (eval e env) (λo s₁=>wpAny (model prog w) A (getAttr o f true) Q E s₁) E s):wpAny (model prog w) A (eval (.Attribute e f pos) env) Q E s :=
 Attribute_any_ h (by rw [arm_eval_Attribute,hb])
end
def yP (K:W.Frag) (ta:TE) (f:Str):TE:=λσ H Q=>ta σ H λx H1=>∃ a C dx fs v,x=.ref a/\H1 a=some (.ins C dx fs)/\mw K C/\aO K C f/\fs.lookup f=some v/\Q v H1
def Fd (K:W.Frag) (ta tv:TE) (f:Str):TS:=λD σ H=>tv σ H λy H1=>ta σ H1 λx H2=>∃ a C dx fs,x=.ref a/\H2 a=some (.ins C dx fs)/\mw K C/\aO K C f/\fs.length<1000 /\
 D.nx σ (upd H2 a (.ins C dx (ai f y fs)))
def BJ (X:Cx) (op:Operator) (rd:V->V->Hp->VK->Prop):Prop :=
 ∀ (pins:List (Addr×Obj)) (s:Shared) (σ:St) (H:Hp) (x y:V) (u v:Value) (Q:VK),Inv X pins σ H s->RelV x u->RelV y v->rd x y H Q->wpAny (model X.prog X.w) X.A (inplaceOp op u v) (EP X pins σ Q) X.xe s
section
variable {X:Cx} {o e value:Expr} {f:Str} {pos pos' tpos:Pos} {ta tv:TE}
theorem VW (he:PE X e ta) (hb:attributeBase e f X.env (eval e X.env)=eval e X.env):PE X (.Attribute e f pos) (yP X.K ta f):=by
 intro pins s σ H Q I h
 refine Wu hb (aJ (he pins s σ H _ I h) λu s1 ⟨x,H1,I1,rx,a,C,dx,fs,v,ex,ea,c,n,l,q⟩=>?_)
 subst ex
 obtain rfl:u=Value.ref a:=rx
 exact Yt I1 ea c n l λu' s2 I2 ru=>⟨v,H1,I2,ru,q⟩
theorem kN (ha:PE X o ta) (hv:PE X value tv) (hs:swapsWith value (some (.Attribute o f pos')) pos.line X.env=pure false):PS X (.Assign [.Attribute o f pos'] value pos) (Fd X.K ta tv f):=by
 intro pins s σ H D I h
 refine plainObj_wpAny_Assign_Attribute (aJ (hv pins s σ H _ I h) λu s1 ⟨y,H1,I1,ry,q⟩=>aJ (ha pins s1 σ H1 _ I1 q) λov s2 ⟨x,H2,I2,rx,a,C,dx,fs,ex,ea,c,n,l,q2⟩=>?_) hs
 subst ex
 obtain rfl:ov=Value.ref a:=rx
 exact Ys I2 ea c n l ry λs3 I3=>⟨σ,_,I3,q2⟩
def Fj:V->V->Hp->VK->Prop:=λx y H Q=>∃ i j,x=.int i/\y=.int j/\Q (.int (i+j)) H
theorem VV:BJ X .Add Fj:=by
 rintro pins s σ H x y u v Q I rx ry ⟨i,j,rfl,rfl,q⟩
 obtain ⟨t,rfl⟩:=(show ∃ t,u=Value.int i t from rx)
 obtain ⟨t',rfl⟩:=(show ∃ t',v=Value.int j t' from ry)
 exact PyProof.Rows.iadd_int ⟨.int (i+j),H,I.tok _,⟨_,rfl⟩,q⟩
end
section
variable {X:Cx} {pins:List (Addr×Obj)} {σ:St} {H:Hp} {s:Shared} {A:Around} {E:Value->Shared->Prop} {Q:Value->Shared->Prop} {c:Value} {b:Bool}
inductive iA (K:W.Frag) (H:Hp):V->Value->Prop where
 | aR:iA K H .aR (.type "NoneType")
 | bl (x:Bool):iA K H (.bl x) (.type "bool")
 | int (i:Int):iA K H (.int i) (.type "int")
 | str (x:Str):iA K H (.str x) (.type "str")
 | sO (x:UInt64):iA K H (.sO x) (.type "float")
 | lst {a:Addr} {xs:List V} (e:H a=some (.lst xs)):iA K H (.ref a) (.type "list")
 | cS {a:Addr} {o:Obj} {xs:List V} (e:H a=some (.cS o (.lst xs))):iA K H (.ref a) (.type "list")
 | tup {a:Addr} {xs:List V} (e:H a=some (.tup xs)):iA K H (.ref a) (.type "tuple")
 | dK {a:Addr} {kvs:List (Key×V)} (e:H a=some (.dK kvs)):iA K H (.ref a) (.type "dict")
 | dT {a:Addr} {kvs:List (List Key×V)} (e:H a=some (.dT kvs)):iA K H (.ref a) (.type "dict")
 | ins {a C dx:Addr} {fs:List (Str×V)} (e:H a=some (.ins C dx fs)) (cl:mw K C) (ha:W.findIn K (.ref C) "__class__" = some (some (.builtin "object.__class__")))
   (hn:W.specialIn K (.builtin "object.__class__") "__get__" = some (some (.builtin "getset_descriptor.__get__"))) (htk:W.takesIn K (.builtin "object.__class__")=some true)
   (hm:W.mroIn K C (.type "object")=some true):iA K H (.ref a) (.ref C)
theorem XA {x:V} {u t:Value} (I:Inv X pins σ H s) (rx:RelV x u) (ty:iA X.K H x t) (e:W.kitOne X.K t c=some b) (h:∀ tk,Q (.bool b) { s with toks:=tk }) :
  wpAny (model X.prog X.w) A (call (.builtin "isinstance") [u,c]) Q E s:=by
 cases ty with
 | aR=>cases (show u=Value.none from rx); exact aBy W.kitx_none I.dW True.intro e (λz=>nomatch z) h
 | bl y=>cases (show u=Value.bool y from rx); exact aBy W.kitx_bool I.dW True.intro e (λz=>nomatch z) h
 | int i=>obtain ⟨t,q⟩:=(show ∃ t,u=Value.int i t from rx); cases q; exact aBy W.kitx_int I.dW True.intro e (λz=>nomatch z) h
 | str y=>obtain ⟨t,q⟩:=(show ∃ t,u=Value.str y t from rx); cases q; exact aBy W.kitx_str I.dW True.intro e (λz=>nomatch z) h
 | sO y=>obtain ⟨t,q⟩:=(show ∃ t,u=Value.float y t from rx); cases q; exact aBy W.kitx_float I.dW True.intro e (λz=>nomatch z) h
 | @lst a xs ea =>
  cases (show u=Value.ref a from rx)
  obtain ⟨_,_,n,_,h1⟩:=(show aI X.prog X.w H s.heap a (.lst xs) from I.hok a _ ea)
  exact aBy W.kitx_list I.dW ⟨_,h1,rfl⟩ e (λz=>nomatch z) h
 | @cS a ob xs ea =>
  cases (show u=Value.ref a from rx)
  obtain ⟨_,_,_,n,_,h1⟩:=(show aI X.prog X.w H s.heap a (.cS ob (.lst xs)) from I.hok a _ ea)
  exact aBy W.kitx_list I.dW ⟨_,h1,rfl⟩ e (λz=>nomatch z) h
 | @tup a xs ea =>
  cases (show u=Value.ref a from rx)
  obtain ⟨_,_,_,p⟩:=(show aI X.prog X.w H s.heap a (.tup xs) from I.hok a _ ea)
  obtain ⟨o,h1,h2,_⟩:=p
  exact aBy W.kitx_tuple I.dW ⟨o,h1,h2⟩ e (λz=>nomatch z) h
 | @dK a kvs ea =>
  cases (show u=Value.ref a from rx)
  obtain ⟨_,_,vs,_,p⟩:=(show aI X.prog X.w H s.heap a (.dK kvs) from I.hok a _ ea)
  obtain ⟨o,es,ep,h1,h2,_⟩:=p
  exact aBy W.kitx_dict I.dW ⟨o,h1,h2.1⟩ e (λz=>nomatch z) h
 | @dT a kvs ea =>
  cases (show u=Value.ref a from rx)
  obtain ⟨_,_,xs,_,o,es,ep,h1,h2,_⟩:=(show aI X.prog X.w H s.heap a (.dT kvs) from I.hok a _ ea)
  exact aBy W.kitx_dict I.dW ⟨o,h1,h2.1⟩ e (λz=>nomatch z) h
 | @ins a C dx fs ea cl ha hn htk hm =>
  cases (show u=Value.ref a from rx)
  obtain ⟨mA,O,_⟩:=DN I.hok ea
  obtain ⟨od,J,_⟩:=O.look
  exact aBy (W.kitx_own (cl.get _) cl.hd ha hn htk hm) I.dW J e (λz=>nomatch z) h
end
structure br (k:Nat) (A:Around):Prop where
 hd:A.handled=none
 dp:A.depth+3 * k+5<recursionLimit
 un:A.units+16 * k+200<cLine
 gd:A.guards=some []
theorem br.mono {j k:Nat} {A:Around} (r:br k A) (h:j<=k):br j A:=⟨r.hd,by have:=r.dp; lia,by have:=r.un; lia,r.gd⟩
theorem br.deeper {k:Nat} {A:Around} (r:br (k+1) A) (env:Env):br k (A.deeper env) :=
 ⟨r.hd,by have:=r.dp; show A.depth+1+3 * k+5<_; lia,by have:=r.un; show A.units+3+16 * k+200<_; lia,r.gd⟩
theorem Yr {A:Around} {C:Addr} {us:List Value} {kw:List (Str×Value)}:(A.under (.builtin "type.__call__" ⟨.ref C :: us,kw⟩)).depth=A.depth+1:=by
 first | rfl | simp [Around.under,Code.weight,Code.isCreation,Code.isGuard,Code.isCaller,Code.frames,Code.isFrame,guardIds]
theorem Yq {A:Around} {C:Addr} {us:List Value} {kw:List (Str×Value)}:(A.under (.builtin "type.__call__" ⟨.ref C :: us,kw⟩)).units=A.units+1:=by
 first | rfl | simp [Around.under,Code.cUnits,Code.frames,Code.isFrame]
theorem br.make {k:Nat} {A:Around} (r:br (k+1) A) (C:Addr) (us:List Value) (kw:List (Str×Value)):br k (A.under (.builtin "type.__call__" ⟨.ref C :: us,kw⟩)) :=
 ⟨r.hd,by have:=r.dp; rw [Yr]; lia,by have:=r.un; rw [Yq]; lia,r.gd⟩
theorem br.depth {k:Nat} {A:Around} (r:br k A):A.depth<recursionLimit:=by have:=r.dp; lia
theorem br.units {k:Nat} {A:Around} (r:br k A):A.units+64<cLine:=by have:=r.un; lia
def vd:TA:=λ_ H Q=>Q [] H
def tT (ta:TE) (tr:TA):TA:=λσ H Q=>ta σ H λx H1=>tr σ H1 λxs H2=>Q (x :: xs) H2
section
variable {X:Cx} {e:Expr} {es:List Expr} {te:TE} {t:TA} {pos:Pos}
theorem Zb:PA X [] vd:=λ_ _ _ _ H Q I h=>anp ⟨[],H,I,.nil,h⟩
theorem Wt (ha:PE X e te) (hr:PA X es t) (hs:starEach (e :: es) X.env=(false,eval e X.env) :: starEach es X.env:=by rfl):PA X (e :: es) (tT te t):=by
 intro pos pins s σ H Q I h
 rw [hs]
 show wpAny _ _ (spliced ((false,eval e X.env) :: backTo pos (starEach es X.env))) _ _ s
 refine a5K (aJ (ha pins s σ H _ I h) λu s1 ⟨x,H1,I1,r1,q1⟩=>?_)
 exact aJ (hr pos pins s1 σ H1 _ I1 q1) λus s2 ⟨xs,H2,I2,r2,q2⟩=>⟨x :: xs,H2,I2,.cons r1 r2,q2⟩
def EY (t:TA):TE:=λσ H Q=>t σ H λxs H1=>xs.length<=sizeLine/\∀ p,H1 p=none->Q (.ref p) (upd H1 p (.tup xs))
def E3 (t:TA):TE:=λσ H Q=>t σ H λxs H1=>xs.length<=sizeLine/\∀ p,H1 p=none->Q (.ref p) (upd H1 p (.lst xs))
theorem j4 {x1} (h:PA X es t):PE X (.Tuple es x1 pos) (EY t):=by
 intro pins s σ H Q I hq
 refine wpAny_Tuple_spliced (aJ (h pos pins s σ H _ I hq) λus s1 ⟨xs,H1,I1,r,z,q⟩=>⟨by rw [← r.length]; exact z,?_⟩)
 have hf:H1 s1.heap.objs.size=none:=I1.hok.fresh (a17 _)
 refine ⟨.ref s1.heap.objs.size,upd H1 s1.heap.objs.size (.tup xs),I1.laid (t':=s1.toks) (λb u e=>aL6 _ e) (a17 _) ?_,rfl,q _ hf⟩
 exact ⟨z,us,r,⟨_,aWh _ rfl,rfl,_,rfl⟩⟩
theorem mh (h:PA X es t):PE X (.List es pos) (E3 t):=by
 intro pins s σ H Q I hq
 refine wpAny_List_spliced (aJ (h pos pins s σ H _ I hq) λus s1 ⟨xs,H1,I1,r,z,q⟩=>⟨by rw [← r.length]; exact z,?_⟩)
 have hf:H1 s1.heap.objs.size=none:=I1.hok.fresh (a17 _)
 refine ⟨.ref s1.heap.objs.size,upd H1 s1.heap.objs.size (.lst xs),I1.laid (t':=s1.toks) (λb u e=>aL6 _ e) (a17 _) ?_,rfl,q _ hf⟩
 exact ⟨z,us,0,r,aWh _ rfl⟩
end
abbrev Sp:=List V->Hp->VK->XK->Prop
abbrev rN:=List Env->Hp->Shared->XK->Value->Shared->Prop
structure ng (P:Program) (w:World) (K:W.Frag) (mg:Str->Option Value) (base:Heap) (A:Around) (outer:List Env) (s:Shared) (H:Hp):Prop where
 frames:A.frames=some outer
 mod:Mod K mg base
 bs:∀ b o,base.get? b=some o->s.heap.get? b=some o/\H b=none
 rE:base.objs.size<=s.heap.objs.size
 iW:s.heap.FunFrames base outer
 vY:∀ b∈frs outer,H b=none
 hok:fc P w H s.heap
 bare:AllBare s.gens
def CE (outer:List Env) (P:Program) (w:World) (H:Hp) (s:Shared) (Q:VK) (u:Value) (s':Shared):Prop :=
 ∃ v H',s'.os=s.os/\AllBare s'.gens/\Un (frs outer) [] H H' s.heap s'.heap/\fc P w H' s'.heap/\RelV v u/\Q v H'
def CR (CX:rN) (outer:List Env) (P:Program) (w:World) (H:Hp) (s:Shared) (Q:VK) (E:XK) (r:Result) (s':Shared):Prop :=
 match r with
 | .ok (.ret u)=>CE outer P w H s Q u s'
 | .ok _=>False
 | .error e=>CX outer H s E e s'
structure au (P:Program) (w:World) (K:W.Frag) (mg:Str->Option Value) (base:Heap) (CX:rN) (k:Nat) (f:Addr) (fd:FuncData) (ps:List Str) (sp:Sp):Prop where
 len:∀ vs H Q E,sp vs H Q E->vs.length=ps.length
 run:∀ (A:Around) (outer:List Env) (s:Shared) (H:Hp) (args:Args) (us:List Value) (vs:List V) (Q:VK) (E:XK),br k A->ng P w K mg base A outer s H->BindsTo s fd args (ps.zip us)->Vals vs us->sp vs H Q E ->
  codeAny (model P w) A (.call (.ref f) args) (CR CX outer P w H s Q E) s
theorem ng.make {P:Program} {w:World} {K:W.Frag} {mg:Str->Option Value} {base:Heap} {A:Around} {outer:List Env} {s:Shared} {H:Hp} (e:ng P w K mg base A outer s H) (C:Addr) (us:List Value) (kw:List (Str×Value)) :
  ng P w K mg base (A.under (.builtin "type.__call__" ⟨.ref C :: us,kw⟩)) outer s H:=⟨by first | exact e.frames | (simpa [Around.under,Code.envs,Code.isFrame,pushEnvs] using e.frames),e.mod,e.bs,e.rE,e.iW,e.vY,e.hok,e.bare⟩
section
variable {X:Cx} {pins:List (Addr×Obj)} {σ:St} {H:Hp} {s s':Shared}
theorem Inv.Aw (I:Inv X pins σ H s):ng X.prog X.w X.K X.mg X.base X.A X.stack s H :=
 ⟨I.ok.frames,I.ok.mod,I.bs,awv I.ok.rE I.sz,I.stack,I.kg,I.hok,I.bare⟩
theorem Inv.after {Q:VK} {u:Value} (I:Inv X pins σ H s) (h:CE X.stack X.prog X.w H s Q u s'):EP X pins σ Q u s':=by
 obtain ⟨v,H',os,bare,un,hok,r,q⟩:=h
 obtain ⟨hh,g,d,t,os'⟩:=s'
 obtain rfl:os'=s.os:=os
 exact ⟨v,H',I.call (h':=hh) (g':=g) (d':=d) (t':=t) (ch:=[]) un hok bare (λb z=>absurd z (by simp)),r,q⟩
end
def nv (sp:Sp) (jP:List V) (E:XK) (t:TA):TE:=λσ H Q=>t σ H λvs H1=>sp (vs++jP) H1 Q E
def nj (C:Addr) (m:Str) (sp:Sp) (jP:List V) (E:XK) (ta:TE) (t:TA):TE:=λσ H Q=>ta σ H λx H1=>∃ a dx fs,x=.ref a/\H1 a=some (.ins C dx fs)/\fs.lookup m=none /\
 t σ H1 λvs H2=>sp (x :: (vs++jP)) H2 Q E
def tS (C:Addr) (sp:Sp) (jP:List V) (E:XK) (t:TA):TE:=λσ H Q=>t σ H λvs H1=>∀ x dx,H1 x=none->H1 dx=none->dx≠x ->
 sp (.ref x :: (vs++jP)) (upd (upd H1 dx (.own x)) x (.ins C dx [])) (λv H2=>v=.aR/\Q (.ref x) H2) E
def Binds (K:W.Frag) (fd:FuncData) (ps:List Str) (ds:List Value):Prop :=
 ∀ (s:Shared) (us:List Value),K.In s.heap->(us++ds).length=ps.length->BindsTo s fd ⟨us,[]⟩ (ps.zip (us++ds))
theorem Binds.all {K:W.Frag} {fd:FuncData} {ps:List Str} (h:∀ us:List Value,us.length=ps.length->bindArgs fd ⟨us,[]⟩=pure (ps.zip us)):Binds K fd ps []:=λs us _ hl=>by
 rw [arR] at hl ⊢
 exact .of_eq (h us hl)
def wC (CX:rN) (X:Cx) (E:XK):Prop:=∀ (pins:List (Addr×Obj)) (σ:St) (H:Hp) (s:Shared) (e:Value) (s':Shared),Inv X pins σ H s->CX X.stack H s E e s'->X.xe e s'
section
variable {X:Cx} {CX:rN} {k:Nat} {f C:Addr} {fd:FuncData} {ps:List Str} {sp:Sp} {jP:List V} {ds:List Value} {E:XK} {x m:Str} {p pos apos:Pos} {e o:Expr} {es:List Expr} {ta:TE} {t:TA}
theorem Dp {pins:List (Addr×Obj)} {σ:St} {H:Hp} {s:Shared} {Q:VK} {us:List Value} {vs:List V} (F:au X.prog X.w X.K X.mg X.base CX k f fd ps sp) (hr:br k X.A) (hb:Binds X.K fd ps ds) (hd:Vals jP ds) (hx:wC CX X E)
  (I:Inv X pins σ H s) (r:Vals vs us) (h:sp (vs++jP) H Q E):wpAny (model X.prog X.w) X.A (call (.ref f) us) (EP X pins σ Q) X.xe s:=by
 have r2:Vals (vs++jP) (us++ds):=r.append hd
 have hl:(us++ds).length=ps.length:=by rw [← r2.length]; exact F.len _ _ _ _ h
 refine wpAny_call (codeAny_mono (F.run X.A X.stack s H ⟨us,[]⟩ (us++ds) (vs++jP) Q E hr I.Aw (hb s us I.dW hl) r2 h) λr s' hq=>?_)
 cases r with
 | error e=>exact hx pins σ H s e s' I hq
 | ok fl =>
  cases fl with
  | ret u=>exact I.after hq
  | next=>exact False.elim hq
  | brk=>exact False.elim hq
  | cont=>exact False.elim hq
theorem Ws (F:au X.prog X.w X.K X.mg X.base CX k f fd ps sp) (hr:br k X.A) (hg:Gl X x) (hm:X.mg x=some (.ref f)) (hk:W.keepIn X.K (.ref f)=true) (hb:Binds X.K fd ps ds) (hd:Vals jP ds) (hx:wC CX X E)
  (ha:PA X (e :: es) t) (hdb:(x == ("__debug__" : Str))=false:=by decide) (he:starEach (e :: es) X.env=(false,eval e X.env) :: starEach es X.env:=by rfl) (hpl:(backTo pos (starEach es X.env)).any (·.1)=false:=by rfl) :
  PE X (.Call (.Name x p) (e :: es) [] pos) (nv sp jP E t):=by
 intro pins s σ H Q I h
 refine aGH (Iw I hg hm ?_ hdb)
 refine W.callWith_K (h₀:=X.base) I.ok.mod.xQ hk (aJ (ha pos pins s σ H _ I h) λus s1 ⟨vs,H1,I1,r,q⟩=>⟨I1.dW,?_⟩) he hpl
 exact Dp F hr hb hd hx I1 r q
theorem Wq {pl:Sem Bool} (he:PE X o ta) (c:mw X.K C) (hm:Meth X.K C m f) (F:au X.prog X.w X.K X.mg X.base CX k f fd ps sp) (hr:br k X.A) (hb:Binds X.K fd ps ds) (hd:Vals jP ds) (hx:wC CX X E) (ha:PA X (e :: es) t)
  (hst:starEach (e :: es) X.env=(false,eval e X.env) :: starEach es X.env:=by rfl) (hpl:(backTo pos (starEach es X.env)).any (·.1)=false:=by rfl)
  (ht:eval (.Call (.Attribute o m apos) (e :: es) [] pos) X.env=(do
   let ov ← eval o X.env
   standAt apos.atName
   let (f,first) ← holding [ov] (getMethod ov m pl)
   callWith pos f first (backTo pos (starEach (e :: es) X.env)) (backToKw pos (keywordEach [] X.env))):=by rfl) :
  PE X (.Call (.Attribute o m apos) (e :: es) [] pos) (nj C m sp jP E ta t):=by
 intro pins s σ H Q I h
 refine W.methodCall_KW (pl:=pl) (aJ (he pins s σ H _ I h) λu s1 ⟨x,H1,I1,rx,a,dx,fs,ex,ea,l,q⟩=>?_) ht
 subst ex
 obtain rfl:u=Value.ref a:=rx
 refine PR I1 ea c hm l ?_
 refine W.callWith_K (first:=[.ref a]) (h₀:=X.base) I.ok.mod.xQ hm.kp (aJ (ha pos pins s1 σ H1 _ I1 q) λus s2 ⟨vs,H2,I2,r,q2⟩=>⟨I2.dW,?_⟩) hst hpl
 exact Dp (us:=.ref a :: us) (vs:=.ref a :: vs) F hr hb hd hx I2 (.cons rfl r) q2
theorem WS {pl:Sem Bool} (he:PE X o ta) (c:mw X.K C) (hm:Meth X.K C m f) (F:au X.prog X.w X.K X.mg X.base CX k f fd ps sp) (hr:br k X.A) (hb:Binds X.K fd ps ds) (hd:Vals jP ds) (hx:wC CX X E)
  (ht:eval (.Call (.Attribute o m apos) [] [] pos) X.env=(do
   let ov ← eval o X.env
   standAt apos.atName
   let (f,first) ← holding [ov] (getMethod ov m pl)
   callWith pos f first (backTo pos (starEach [] X.env)) (backToKw pos (keywordEach [] X.env))):=by rfl) :
  PE X (.Call (.Attribute o m apos) [] [] pos) (nj C m sp jP E ta vd):=by
 intro pins s σ H Q I h
 refine W.methodCall_KW (pl:=pl) (aJ (he pins s σ H _ I h) λu s1 ⟨x,H1,I1,rx,a,dx,fs,ex,ea,l,q⟩=>?_) ht
 subst ex
 obtain rfl:u=Value.ref a:=rx
 refine PR I1 ea c hm l ?_
 exact W.callWith_K0 (first:=[.ref a]) I1.dW hm.kp (Dp (us:=[.ref a]) (vs:=[.ref a]) F hr hb hd hx I1 (.cons rfl .nil) q)
structure Mk (K:W.Frag) (C f:Addr):Prop where
 makes:W.makesIn K C=true
 init:W.findIn K (.ref C) "__init__" = some (some (.ref f))
 fn:W.isFn K (.ref f)=true
 kp:W.keepIn K (.ref C)=true
theorem WR {pins:List (Addr×Obj)} {σ:St} {H:Hp} {s:Shared} {Q:VK} {us:List Value} {vs:List V} (M:Mk X.K C f) (F:au X.prog X.w X.K X.mg X.base CX k f fd ps sp) (hr:br (k+1) X.A) (hb:Binds X.K fd ps ds) (hd:Vals jP ds)
  (hx:wC CX X E) (I:Inv X pins σ H s) (r:Vals vs us)
  (h:∀ x dx,H x=none->H dx=none->dx≠x->sp (.ref x :: (vs++jP)) (upd (upd H dx (.own x)) x (.ins C dx [])) (λv H2=>v=.aR/\Q (.ref x) H2) E) :
  wpAny (model X.prog X.w) X.A (call (.ref C) us) (EP X pins σ Q) X.xe s:=by
 have hq:=h (s.heap.objs.size+1) s.heap.objs.size (I.hok.fresh (Nat.le_succ _)) (I.hok.fresh (a17 _)) (a19 (Nat.lt_succ_self _))
 have I2:=Inv.made (C:=C) I
 have r2:Vals (V.ref (s.heap.objs.size+1) :: (vs++jP)) (Value.ref (s.heap.objs.size+1) :: (us++ds)):=.cons rfl (r.append hd)
 have hl:(Value.ref (s.heap.objs.size+1) :: us++ds).length=ps.length:=by
  have e:=r2.length
  rw [F.len _ _ _ _ hq] at e
  exact e.symm
 refine wpAny_call (WT (f:=f) I.dW M.makes M.init (aXR.mp M.fn) (codeAny_mono (F.run _ X.stack _ _ ⟨Value.ref (s.heap.objs.size+1) :: us,[]⟩ (Value.ref (s.heap.objs.size+1) :: (us++ds)) _ _ E (hr.make C us [])
  (I2.Aw.make C us []) (hb _ (Value.ref (s.heap.objs.size+1) :: us) I2.dW hl) r2 hq) λr s' hq'=>?_))
 cases r with
 | error e=>exact hx pins σ _ _ e s' I2 hq'
 | ok fl =>
  cases fl with
  | ret u =>
   obtain ⟨v,H',I3,rv,ev,q3⟩:=I2.after hq'
   subst ev
   exact ⟨rv,⟨V.ref (s.heap.objs.size+1),H',I3,rfl,q3⟩⟩
  | next=>exact False.elim hq'
  | brk=>exact False.elim hq'
  | cont=>exact False.elim hq'
theorem Wo (M:Mk X.K C f) (F:au X.prog X.w X.K X.mg X.base CX k f fd ps sp) (hr:br (k+1) X.A) (hg:Gl X x) (hm:X.mg x=some (.ref C)) (hb:Binds X.K fd ps ds) (hd:Vals jP ds) (hx:wC CX X E)
  (ha:PA X (e :: es) t) (hdb:(x == ("__debug__" : Str))=false:=by decide) (he:starEach (e :: es) X.env=(false,eval e X.env) :: starEach es X.env:=by rfl) (hpl:(backTo pos (starEach es X.env)).any (·.1)=false:=by rfl) :
  PE X (.Call (.Name x p) (e :: es) [] pos) (tS C sp jP E t):=by
 intro pins s σ H Q I h
 refine aGH (Iw I hg hm ?_ hdb)
 refine W.callWith_K (h₀:=X.base) I.ok.mod.xQ M.kp (aJ (ha pos pins s σ H _ I h) λus s1 ⟨vs,H1,I1,r,q⟩=>⟨I1.dW,?_⟩) he hpl
 exact WR M F hr hb hd hx I1 r q
end
structure ah (N P:List Str) (sc:Scope):Prop where
 kind:sc.kind=.function
 co:sc.isCoroutine=false
 gen:sc.isGenerator=false
 nd:N.Nodup
 pre:N.take P.length=P
 par:∀ x∈P,sc.names.lookup x=some .local\/sc.names.lookup x=some .cell
 vz:∀ y∈sc.names,y.2≠.free
theorem Pk {kindOf:Str->Option NameKind} {x:Str}:∀ {binds:List (Str×Value)} {m:Str->Option Value},(∀ v,(x,v)∉binds)->bindL kindOf binds m x=m x
 | [],_,_=>rfl
 | (n,v) :: r,m,h=>by
  unfold bindL
  rw [Pk λw hw=>h w (aZE _ hw)]
  split
  .have:x≠n:=by rintro rfl; exact h v abW
   simp [this]
  .rfl
theorem PK {kindOf:Str->Option NameKind} {x:Str}:∀ {binds:List (Str×Value)} {m:Str->Option Value},(∀ v,(x,v)∉binds)->bindC kindOf binds m x=m x
 | [],_,_=>rfl
 | (n,v) :: r,m,h=>by
  unfold bindC
  rw [PK λw hw=>h w (aZE _ hw)]
  split
  .rfl
  .have:x≠n:=by rintro rfl; exact h v abW
   simp [this]
theorem PJ {kindOf:Str->Option NameKind} {x:Str} {v:Value}:∀ {P:List Str} {vs:List Value} {i:Nat} {m:Str->Option Value},P.Nodup->P[i]?=some x->vs[i]?=some v->kindOf x=some .local ->
  bindL kindOf (P.zip vs) m x=some v
 | [],_,_,_,_,h,_,_=>by simp at h
 | _ :: _,[],_,_,_,_,h,_=>by simp at h
 | p :: P,w :: vs,0,m,nd,h1,h2,hk=>by
  simp at h1 h2; subst h1; subst h2
  show bindL kindOf ((p,w) :: P.zip vs) m p=_
  unfold bindL
  rw [Pk λv hv=>(aEW.mp nd).1 (List.of_mem_zip hv).1,ajr hk]
  simp
 | p :: P,w :: vs,i+1,m,nd,h1,h2,hk=>by
  show bindL kindOf ((p,w) :: P.zip vs) m x=_
  unfold bindL
  exact PJ (i:=i) (aEW.mp nd).2 (by simpa using h1) (by simpa using h2) hk
theorem PF {kindOf:Str->Option NameKind} {x:Str} {v:Value}:∀ {P:List Str} {vs:List Value} {i:Nat} {m:Str->Option Value},P.Nodup->P[i]?=some x->vs[i]?=some v->kindOf x≠some .local ->
  bindC kindOf (P.zip vs) m x=some v
 | [],_,_,_,_,h,_,_=>by simp at h
 | _ :: _,[],_,_,_,_,h,_=>by simp at h
 | p :: P,w :: vs,0,m,nd,h1,h2,hk=>by
  simp at h1 h2; subst h1; subst h2
  show bindC kindOf ((p,w) :: P.zip vs) m p=_
  unfold bindC
  rw [PK λv hv=>(aEW.mp nd).1 (List.of_mem_zip hv).1,aBJ hk]
  simp
 | p :: P,w :: vs,i+1,m,nd,h1,h2,hk=>by
  show bindC kindOf ((p,w) :: P.zip vs) m x=_
  unfold bindC
  exact PF (i:=i) (aEW.mp nd).2 (by simpa using h1) (by simpa using h2) hk
def start (N:List Str) (vs:List V):St:=vs.map some++List.replicate (N.length - vs.length) none
def lF (CX:rN) (P:Program) (w:World) (K:W.Frag) (mg:Str->Option Value) (base:Heap) (N:List Str) (qual:Str) (scope:Scope) (f:Addr) (cd:Value) (A:Around) (outer:List Env) (s:Shared) (H:Hp) (E:XK):Cx where
 prog:=P
 w:=w
 K:=K
 mg:=mg
 base:=base
 A:=A.deeper (envOfC qual scope s.heap.objs.size f cd)
 N:=N
 s₀:=s
 H₀:=H
 env:=envOfC qual scope s.heap.objs.size f cd
 outer:=outer
 stack:=envOfC qual scope s.heap.objs.size f cd :: outer
 ex:=[]
 calm:=true
 fn:=λ_=>true
 pn:=[]
 xe:=λe s'=>wpAny (model P w) (A.deeper (envOfC qual scope s.heap.objs.size f cd)) (leaving (envOfC qual scope s.heap.objs.size f cd) e) (λ_ s''=>CX outer H s E e s'') (λe' s''=>CX outer H s E e' s'') s'
theorem OD {sc:Scope} {n:Nat} {x:Str} (h:sc.names.lookup x=some .cell):∃ c,(cellsFrom n sc.names []).lookup x=some c:=by
 have q:=W.cellsFrom_some sc.names n [] (.inl h)
 exact Option.isSome_iff_exists.mp q
theorem Xz {CX:rN} {P:Program} {w:World} {K:W.Frag} {mg:Str->Option Value} {base:Heap} {N ps:List Str} {qual:Str} {scope:Scope} {f:Addr} {cd:Value} {A:Around} {outer:List Env} {s s1:Shared} {H:Hp} {E:XK} {us:List Value} {vs:List V}
  (S:ah N ps scope) (hd:A.handled=none) (e0:ng P w K mg base A outer s H) (hl:vs.length=ps.length) (r:Vals vs us)
  (x:InCallC s s.heap.objs.size (bindL (envOfC qual scope s.heap.objs.size f cd).kindOf (ps.zip us) λ_=>none) (cellsFrom (s.heap.objs.size+1) scope.names []) (bindC (envOfC qual scope s.heap.objs.size f cd).kindOf (ps.zip us) λ_=>none) s1) :
  Inv (lF CX P w K mg base N qual scope f cd A outer s H E) [] (start N vs) H s1:=by
 have hpl:ps.length<=N.length:=by have:=aOy List.length S.pre; rw [aVk] at this; lia
 obtain ⟨h1,tk,rfl,hk⟩:=x.done
 have vA:∀ b:Addr,b∉(lF CX P w K mg base N qual scope f cd A outer s H E).ex:=λb z=>absurd (show b∈([]:List Addr) from z) (by simp)
 refine ⟨⟨e0.mod,S.kind,rfl,rfl,a17 _,λy z c h1 h2=>?_,λy hy=>?_,λy c _ h=>?_,λ_=>hd,Around.frames_deeper e0.frames,.inr ⟨rfl,rfl⟩,λb z=>absurd z (vA b),e0.bs,e0.rE,λb _ _=>vA b,λb z=>absurd z (vA b),e0.iW,e0.vY⟩,
  rfl,e0.bare,Un.kept hk,⟨_,x.toInCall.ns,λi y v h1 h2 h3=>?_⟩,λy c h=>⟨_,x.cell y c h⟩,e0.hok.fresh (a17 _),λy c h=>?_,λp hp=>absurd (show p∈([]:List (Addr×Obj)) from hp) (by simp),e0.hok.kept hk,?_⟩
 .exact name_of_addr x.apart (aij h1) (aij h2)
 .have hy:scope.names.lookup y=some .cell\/scope.names.lookup y=some .free:=hy
  rcases hy with hy | hy
  .exact OD hy
  .exact absurd rfl (S.vz _ (aij hy))
 .exact aV2 (x.above y c (aij h))
 .have hi:i<vs.length:=by
   unfold start at h2
   by_cases hi:i<vs.length
   .exact hi
   .rw [aUi (by simpa using hi)] at h2
    rw [ar8] at h2
    split at h2 <;> cases h2
  have ha:vs[i]?=some v:=by
   unfold start at h2
   rw [aRC (by simpa using hi),aC3] at h2
   cases e:vs[i]? with
   | none=>rw [e] at h2; cases h2
   | some a=>rw [e] at h2; cases h2; rfl
  obtain ⟨u,hu,rv⟩:=r.get ha
  have hp:ps[i]?=some y:=by
   rw [← S.pre,List.getElem?_take_of_lt (by lia)]; exact h1
  have LA:ps.Nodup:=by rw [← S.pre]; exact S.nd.sublist (List.take_sublist _ _)
  refine ⟨u,rv,?_⟩
  rcases S.par y (a7T hp) with k | k
  .exact .inl ⟨k,PJ LA hp hu k⟩
  .obtain ⟨c,e⟩:=OD (n:=s.heap.objs.size+1) k
   refine .inr ⟨.inl k,c,e,?_⟩
   have q:=x.cell y c e
   rw [PF LA hp hu (by show scope.names.lookup y≠_; rw [k]; decide)] at q
   exact q
 .exact e0.hok.fresh (aV2 (x.above y c (aij h)))
 .unfold start
  show _=N.length
  rw [ap5,afy,aB7]
  lia
theorem uD {CX:rN} {P:Program} {w:World} {K:W.Frag} {mg:Str->Option Value} {base:Heap} {k:Nat} {f:Addr} {name qual:Str} {params:Arguments} {body:List Stmt} {scope:Scope} {dV kV doc pm cdv ct oc:Value} {an od:Option Addr}
  {osl:Array (Option Value)} {N ps:List Str} {sp:Sp} (lk:K.lookup f=some ⟨oc,od,.func (W.fnOf name qual params body scope dV kV doc pm an cdv ct),osl⟩) (hcd:W.codeIn K cdv qual=true) (S:ah N ps scope)
  (len:∀ vs H Q E,sp vs H Q E->vs.length=ps.length)
  (hbody:∀ (A:Around) (outer:List Env) (s:Shared) (H:Hp) (vs:List V) (Q:VK) (E:XK),br k (A.deeper (envOfC qual scope s.heap.objs.size f cdv))->sp vs H Q E ->
   ∃ t,oM (lF CX P w K mg base N qual scope f cdv A outer s H E) body t/\t { nx:=λ_ H'=>Q .aR H',rt:=Q } (start N vs) H) :
  au P w K mg base CX (k+1) f (W.fnOf name qual params body scope dV kV doc pm an cdv ct) ps sp:=by
 refine ⟨len,λA outer s H args us vs Q E hr e0 hb r mO=>?_⟩
 have hl:=len _ _ _ _ mO
 have KX:K.In s.heap:=e0.mod.xQ.keeps λb o e=>(e0.bs b o e).1
 have lim:s.heap.NoLimit:=e0.mod.nolimit.keeps λb o e=>(e0.bs b o e).1
 have hkind:∀ y∈ps.zip us,scope.names.lookup y.1=some .local\/(scope.names.lookup y.1=some .cell/\((cellsFrom (s.heap.objs.size+1) scope.names []).lookup y.1).isSome=true):=λ⟨n,v⟩ hy=>by
  rcases S.par n (List.of_mem_zip hy).1 with q | q
  .exact .inl q
  .exact .inr ⟨q,W.cellsFrom_some _ _ _ (.inl q)⟩
 refine codeAny_call_function hr.depth (KX _ _ lk) rfl S.co S.gen rfl (W.codeRec_of KX hcd) (hb _ _ _ _ ?_)
 refine wpAny_newFunctionEnv_cells S.kind hkind λenv he s1 x=>?_
 subst he
 refine ⟨lim.keeps x.toInCall.keep,codeAny_func ?_⟩
 obtain ⟨t,ht,hq⟩:=hbody A outer s H vs Q E (hr.deeper _) mO
 have I:Inv (lF CX P w K mg base N qual scope f cdv A outer s H E) [] (start N vs) H s1:=Xz S hr.hd e0 hl r x
 refine acp (ht [] s1 (start N vs) H _ I hq) (λfl s' hs=>?_) λe s' hs=>hs
 have fin:∀ {σ':St} {H':Hp} {v:V} {u:Value},Inv (lF CX P w K mg base N qual scope f cdv A outer s H E) [] σ' H' s'->RelV v u->Q v H'->CE outer P w H s Q u s' :=
  λ{σ' H' v u} J rv q=>⟨v,H',J.os,J.bare,J.base,J.hok,rv,q⟩
 cases fl with
 | ret u =>
  obtain ⟨v,σ',H',J,rv,q⟩:=hs
  exact fin J rv q
 | next =>
  obtain ⟨σ',H',J,q⟩:=hs
  exact fin (v:=V.aR) (u:=Value.none) J rfl q
 | brk =>
  obtain ⟨_,_,_,q⟩:=hs
  exact False.elim q
 | cont =>
  obtain ⟨_,_,_,q⟩:=hs
  exact False.elim q
section
variable {X:Cx} {x:Str} {p pos:Pos} {e:Expr} {es:List Expr} {t:TA} {id T:String} {r:List V->Hp->VK->Prop}
def Cj (r:List V->Hp->VK->Prop) (t:TA):TE:=λσ H Q=>t σ H λvs H1=>r vs H1 Q
theorem WQ (hc:bH X (.builtin id) r) (hg:Gl X x) (hm:X.mg x=none) (hv:bootBuiltins x=some (.builtin id)) (ha:PA X (e :: es) t) (hn:x ≠ "__name__" := by decide) (hdb:(x == ("__debug__" : Str))=false:=by decide)
  (he:starEach (e :: es) X.env=(false,eval e X.env) :: starEach es X.env:=by rfl) (hpl:(backTo pos (starEach es X.env)).any (·.1)=false:=by rfl):PE X (.Call (.Name x p) (e :: es) [] pos) (Cj r t):=by
 intro pins s σ H Q I h
 refine aGH (pB I hg hm hv ?_ hn hdb)
 exact PyProof.Rows.callWith_builtin1 (aJ (ha pos pins s σ H _ I h) λus s1 ⟨vs,H1,I1,r1,q1⟩=>hc pins s1 σ H1 vs us Q I1 r1 q1) he hpl
theorem Xy (hc:bH X (.type T) r) (hg:Gl X x) (hm:X.mg x=none) (hv:bootBuiltins x=some (.type T)) (ha:PA X (e :: es) t) (hn:x ≠ "__name__" := by decide) (hdb:(x == ("__debug__" : Str))=false:=by decide)
  (he:starEach (e :: es) X.env=(false,eval e X.env) :: starEach es X.env:=by rfl) (hpl:(backTo pos (starEach es X.env)).any (·.1)=false:=by rfl):PE X (.Call (.Name x p) (e :: es) [] pos) (Cj r t):=by
 intro pins s σ H Q I h
 refine aGH (pB I hg hm hv ?_ hn hdb)
 exact a7f (aJ (ha pos pins s σ H _ I h) λus s1 ⟨vs,H1,I1,r1,q1⟩=>hc pins s1 σ H1 vs us Q I1 r1 q1) he hpl
end
end L2
namespace HT
open PySem PyProof.Rows
theorem lE (A:Around) (s:Shared) (a:Int) (t:Tok) (c:Int) (u:Tok):∃ e,SeqAt.EqAt A s (.int a t) (.int c u) e/\(e=true↔a=c) :=
 ⟨(a == c),SeqAt.EqAt.int_int a t c u,by simp⟩
section
open PySem.SeqAt
open PySem.AutoSeq1 (wpAny_loadPart')
open PySem.MeetsSeq PySem.MeetsSeq2 PySem.MeetsSeq3
end
section
variable {prog:Program} {w:World} {A:Around} {E:Value->Shared->Prop} {s:Shared}
def iK (n d:Nat):Option Int->Nat
 | none=>d
 | some v=>if v<0 then (v+(n:Int)).toNat else min v.toNat n
theorem pR (n d:Nat):iK n d none=d:=rfl
theorem nQ (n d k:Nat):iK n d (some (k:Int))=min k n:=by
 show (if (k:Int)<0 then ((k:Int)+(n:Int)).toNat else min (k:Int).toNat n)=min k n
 rw [aBJ (by lia),Int.toNat_natCast]
end
end HT
namespace L2
open PySem PySem.Spec PyProof.Rows
abbrev TO:=St->Hp->(Option Int->Hp->Prop)->Prop
def PO (X:Cx) (e:Option Expr) (t:TO):Prop :=
 ∀ (pins:List (Addr×Obj)) (s:Shared) (σ:St) (H:Hp) (Q:Option Int->Hp->Prop),Inv X pins σ H s->t σ H Q ->
  wpAny (model X.prog X.w) X.A (evalPart e X.env) (λu s'=>∃ o H',Inv X pins σ H' s'/\IsPart u o/\Q o H') X.xe s
def Wn:TO:=λ_ H Q=>Q none H
def yM (t:TE):TO:=λσ H Q=>t σ H λx H1=>∃ i,x=.int i/\Q (some i) H1
theorem Jx {ns:List Int}:∀ {us:List Value},Vals (ns.map V.int) us->IntsAre us ns:=by
 induction ns with
 | nil=>intro us r; rw [map_nil] at r; cases r; exact .nil
 | cons n ns ih =>
  intro us r
  rw [asO] at r
  cases r with
  | cons r1 r2 =>
   obtain ⟨t,e⟩:=r1
   subst e
   exact .cons n t (ih r2)
section
variable {X:Cx} {e:Expr} {te:TE} {lo hi:Option Expr} {tl th:TO} {pos p2:Pos}
theorem Wm:PO X none Wn:=by
 intro pins s σ H Q I h
 rw [evalPart_none]
 exact aOf ⟨none,H,I,.none,h⟩
theorem Ir (h:PE X e te):PO X (some e) (yM te):=by
 intro pins s σ H Q I hw
 rw [evalPart_some]
 refine aJ (h pins s σ H _ I hw) λu s1 ⟨x,H1,I1,r1,q1⟩=>?_
 obtain ⟨i,rfl,q⟩:=q1
 obtain ⟨t,rfl⟩:=r1
 exact ⟨some i,H1,I1,.int i t,q⟩
def KY (X:Cx) (r:V->Option Int->Option Int->Hp->VK->Prop):Prop :=
 ∀ (pins:List (Addr×Obj)) (s:Shared) (σ:St) (H:Hp) (x:V) (v vl vu:Value) (lo hi:Option Int) (sl:Addr) (Q:VK),Inv X pins σ H s->RelV x v->s.heap.IsSliceOf sl vl vu .none->IsPart vl lo->IsPart vu hi->r x lo hi H Q ->
  ∃ T id,typeLookup (.type T) "__getitem__" = pure (some (.builtin id))/\s.TypeIs v T/\wpAny (model X.prog X.w) X.A (getItem v (.ref sl)) (EP X pins σ Q) X.xe s
def RD (r:V->Option Int->Option Int->Hp->VK->Prop) (te:TE) (tl th:TO):TE:=λσ H Q=>te σ H λx H1=>tl σ H1 λl H2=>th σ H2 λu H3=>r x l u H3 Q
theorem O8 {r:V->Option Int->Option Int->Hp->VK->Prop} (hr:KY X r) (he:PE X e te) (hl:PO X lo tl) (hu:PO X hi th):PE X (.Subscript e (.Slice lo hi none p2) pos) (RD r te tl th):=by
 intro pins s σ H Q I h
 refine Subscript_ (aJ (he pins s σ H _ I h) λv s1 ⟨x,H1,I1,r1,q1⟩=>?_)
 refine wpAny_Slice (aJ (hl pins s1 σ H1 _ I1 q1) λvl s2 ⟨l,H2,I2,pl,q2⟩=>aJ (hu pins s2 σ H2 _ I2 q2) λvu s3 ⟨u,H3,I3,pu,q3⟩=>?_)
 rw [evalPart_none]
 refine aOf ?_
 have I4:Inv X pins σ H3 { s3 with heap:=s3.heap.push { cls:=.type "slice",data:=.fields #[vl,vu,.none] } }:=I3.kept (t':=s3.toks) λb ob q=>aL6 _ q
 obtain ⟨T,id,hT,ht,hg⟩:=hr pins { s3 with heap:=s3.heap.push { cls:=.type "slice",data:=.fields #[vl,vu,.none] } } σ H3 x v vl vu l u s3.heap.objs.size Q I4 r1 (Heap.IsSliceOf.new ..) pl pu q3
 show wpAny (model X.prog X.w) X.A (subscriptTail e (.Slice lo hi none p2) v (.ref s3.heap.objs.size)) (EP X pins σ Q) X.xe { s3 with heap:=s3.heap.push { cls:=.type "slice",data:=.fields #[vl,vu,.none] } }
 exact tail_any (ops:=[.ref s3.heap.objs.size,v]) ht hT hg (by with_unfolding_all rfl)
def lG (xs:List V) (lo hi:Option Int):List V:=(xs.drop (HT.iK xs.length 0 lo)).take (HT.iK xs.length xs.length hi - HT.iK xs.length 0 lo)
theorem YV (xs:List V) (lo hi:Option Int):(lG xs lo hi).length<=xs.length:=by
 unfold lG
 rw [aVk,aYp]
 lia
end
def pq (n:Nat) (i:Int):Option Nat:=if 0<=i then (if i<n then some i.toNat else none) else if -(n:Int)<=i then some (i+n).toNat else none
def fX {α:Type} (xs:List α) (i:Int):Option α:=(pq xs.length i).bind λj=>xs[j]?
theorem NX {n:Nat} {i:Int} {j:Nat} (h:pq n i=some j):seqIndex? i n=some j/\j<n /\ -(n:Int)<=i/\i<n:=by
 unfold pq at h
 by_cases h0:0<=i
 .rw [ajr h0] at h
  by_cases h1:i<n
  .rw [ajr h1] at h
   have e:i.toNat=j:=aGB h
   exact ⟨by rw [seqIndex_of h0 h1,e],by lia,by lia,h1⟩
  .rw [aBJ h1] at h; cases h
 .rw [aBJ h0] at h
  by_cases h1 : -(n:Int)<=i
  .rw [ajr h1] at h
   have e:(i+n).toNat=j:=aGB h
   exact ⟨by rw [seqIndex_neg (by lia) h1,e],by lia,h1,by lia⟩
  .rw [aBJ h1] at h; cases h
theorem NW {α:Type} {xs:List α} {i:Int} {v:α} (h:fX xs i=some v):∃ j,seqIndex? i xs.length=some j/\xs[j]?=some v/\j<xs.length /\ -(xs.length:Int)<=i/\i<xs.length:=by
 unfold fX at h
 cases e:pq xs.length i with
 | none=>rw [e] at h; cases h
 | some j =>
  rw [e] at h
  obtain ⟨h1,h2,h3,h4⟩:=NX e
  exact ⟨j,h1,h,h2,h3,h4⟩
theorem qN {α:Type} {xs:List α} {j:Nat} {v:α} (h:xs[j]?=some v):fX xs (j:Int)=some v:=by
 have hj:j<xs.length:=(a7Y.mp h).1
 have e:pq xs.length (j:Int)=some j:=by
  unfold pq
  rw [ajr (by lia),ajr (by lia)]; simp
 unfold fX; rw [e]; exact h
def Wl (b:Expr):Prop:=∀ o i,subscripted b false o i=operate [o,i] (getItem o i)
def BG (X:Cx) (r:R2):Prop :=
 ∀ (value slice:Expr) (pins:List (Addr×Obj)) (s:Shared) (σ:St) (H:Hp) (x y:V) (v u:Value) (Q:VK),Inv X pins σ H s->RelV x v->RelV y u->r x y H Q ->
  subscripted slice false v u=operate [v,u] (getItem v u)->wpAny (model X.prog X.w) X.A (subscriptTail value slice v u) (EP X pins σ Q) X.xe s
def MtR (X:Cx) (id:String) (r:V->List V->Hp->VK->Prop):Prop :=
 ∀ (pins:List (Addr×Obj)) (s:Shared) (σ:St) (H:Hp) (x:V) (xs:List V) (v:Value) (us:List Value) (Q:VK),Inv X pins σ H s->RelV x v->Vals xs us->r x xs H Q ->
  wpAny (model X.prog X.w) X.A (call (.builtin id) (v :: us)) (EP X pins σ Q) X.xe s
section
variable {X:Cx} {a b:Expr} {ta tb:TE} {pos:Pos}
theorem az {r:R2} (hr:BG X r) (ha:PE X a ta) (hb:PE X b tb) (hs:Wl b):PE X (.Subscript a b pos) (Ci r ta tb):=by
 intro pins s σ H Q I h
 exact Subscript_ (wo ha hb I h λv u s2 x y H2 I2 rx ry q=>hr a b pins s2 σ H2 x y v u Q I2 rx ry q (hs _ _))
def zj (K:W.Frag):R2:=λx y H Q=>∃ p xs i v,x=.ref p/\y=.int i/\aF K H p xs/\fX xs i=some v/\Q v H
def zh (K:W.Frag):R2:=λx y H Q=>∃ p xs i v,x=.ref p/\y=.int i/\bB K H p xs/\fX xs i=some v/\Q v H
theorem Wk:BG X (zj X.K):=by
 intro value slice pins s σ H x y v u Q I rx ry h hs
 obtain ⟨p,xs,i,z,rfl,rfl,hq,he,q⟩:=h
 cases rx
 obtain ⟨t,rfl⟩:=ry
 obtain ⟨its,r,pl,hz⟩:=I.list hq
 obtain ⟨j,h1,h2,h3,h4,h5⟩:=NW he
 obtain ⟨w,ew,rw'⟩:=r.get h2
 have hl:=r.length
 have hn:=Dq
 have fin:EP X pins σ Q w s:=⟨z,H,I,rw',q⟩
 by_cases h0:0<=i
 .have hj:i.toNat=j:=by
   rw [seqIndex_of h0 h5] at h1
   exact aGB h1
  exact item_listR pl.isList h0 (by lia) (by rw [hj]; simpa using ew) fin hs
 .have hj:(i+(its.toArray.size:Int)).toNat=j:=by
   rw [seqIndex_neg (by lia) h4] at h1
   rw [aHG,← hl]
   exact aGB h1
  exact subscriptTail_builtinR (x:=w) pl.isList.typeIs slot_list_getitem.lookup
   (wpAny_getItem_list_neg (Q:=λr s'=>r=w/\EP X pins σ Q r s') pl.isList (by lia) (by rw [aHG] <;> lia) (by lia) (by rw [hj]; simpa using ew) ⟨rfl,fin⟩) hs
theorem VU:BG X (zh X.K):=by
 intro value slice pins s σ H x y v u Q I rx ry h hs
 obtain ⟨p,xs,i,z,rfl,rfl,hq,he,q⟩:=h
 cases rx
 obtain ⟨t,rfl⟩:=ry
 obtain ⟨its,r,pl,hz⟩:=I.tuple hq
 obtain ⟨j,h1,h2,h3,h4,h5⟩:=NW he
 obtain ⟨w,ew,rw'⟩:=r.get h2
 have hl:=r.length
 have hn:=Dq
 have fin:EP X pins σ Q w s:=⟨z,H,I,rw',q⟩
 exact subscriptTail_builtinR (x:=w) pl.typeIs slot_tuple_getitem.lookup
  (getItem_tuple (j:=j) (Q:=λr s'=>r=w/\EP X pins σ Q r s') pl (by lia) (by lia) (by rw [aHG,← hl]; exact h1) (by simpa using ew) ⟨rfl,fin⟩) hs
theorem Yp (its:List Value) (n j:Nat) (u:Value):Obj.mapSeq (·.setIfInBounds j u) { cls:=.type "list",data:=.seq its.toArray n }={ cls:=.type "list",data:=.seq (its.set j u).toArray n }:=by
 simp [Obj.mapSeq]
theorem Inv.lst {pins:List (Addr×Obj)} {σ:St} {H:Hp} {s:Shared} {p:Addr} {xs:List V} (I:Inv X pins σ H s) (h:H p=some (.lst xs)) :
  ∃ (its:List Value) (n:Nat),Vals xs its/\s.heap.get? p=some { cls:=.type "list",data:=.seq its.toArray n }/\xs.length<=sizeLine:=by
 obtain ⟨z,its,n,r,e⟩:=I.hok p _ h
 exact ⟨its,n,r,e,z⟩
theorem Inv.vH {pins:List (Addr×Obj)} {σ:St} {H:Hp} {s:Shared} {p:Addr} {xs ys:List V} {its its':List Value} {n n':Nat} {f:Obj->Obj} (I:Inv X pins σ H s) (h:H p=some (.lst xs))
  (ho:s.heap.get? p=some { cls:=.type "list",data:=.seq its.toArray n }) (hf:f { cls:=.type "list",data:=.seq its.toArray n }={ cls:=.type "list",data:=.seq its'.toArray n' }) (r:Vals ys its') (hz:ys.length<=sizeLine) (t:Nat) :
  Inv X pins σ (upd H p (.lst ys)) { s with heap:=s.heap.update p f,toks:=t }:=by
 have e:(s.heap.update p f).get? p=some { cls:=.type "list",data:=.seq its'.toArray n' }:=by
  rw [Heap.get?_update_self f ho (by rw [hf] <;> rfl),hf]
 refine I.write (x:=p) (e:=p) (by rw [h]; trivial) (.inl rfl) (λb u hb q=>(Heap.get?_update_other _ _ (aFS hb)).trans q) ⟨_,e⟩ ?_
 exact ⟨hz,its',n',r,e⟩
def zg:V->V->V->Hp->(Hp->Prop)->Prop:=λo i v H Q=>∃ p xs k j,o=.ref p/\i=.int k/\H p=some (.lst xs)/\pq xs.length k=some j/\Q (upd H p (.lst (xs.set j v)))
theorem wO:BC X zg:=by
 intro pins s σ H o i v ov iv u Q I ro ri rv h
 obtain ⟨p,xs,k,j,rfl,rfl,hp,hj,q⟩:=h
 cases ro
 obtain ⟨t,rfl⟩:=ri
 obtain ⟨its,n,r,ho,hz⟩:=I.lst hp
 obtain ⟨h1,h2,h3,h4⟩:=NX hj
 have hl:=r.length
 have hn:=Dq
 have I':Inv X pins σ (upd H p (.lst (xs.set j v))) { s with heap:=s.heap.update p (Obj.mapSeq (·.setIfInBounds j u)) } :=
  I.vH hp ho (Yp its n j u) (r.set rv j) (by rw [akS]; exact hz) s.toks
 by_cases h0:0<=k
 .have hk:k.toNat=j:=by
   rw [seqIndex_of h0 h4] at h1
   exact aGB h1
  exact W.ki_setAt ho h0 (by lia) (by rw [aHG,← hl]; exact h4) (by rw [hk]; exact ⟨_,I',q⟩)
 .have hk:(k+(its.toArray.size:Int)).toNat=j:=by
   rw [seqIndex_neg (by lia) h3] at h1
   rw [aHG,← hl]
   exact aGB h1
  exact W.ki_setBack ho (by lia) (by rw [aHG,← hl]; exact h3) (by lia) (by rw [hk]; exact ⟨_,I',q⟩)
theorem Z7 (lo hi:Option Int) (n:Nat):(sliceBounds lo hi none n).1=((HT.iK n 0 lo:Nat):Int)/\(sliceBounds lo hi none n).2.1=((HT.iK n n hi:Nat):Int)/\(sliceBounds lo hi none n).2.2=1:=by
 refine ⟨?_,?_,rfl⟩
 .cases lo with
  | none=>simp [sliceBounds,HT.iK]
  | some i =>
   simp only [sliceBounds,HT.iK,Option.getD_none,show (1:Int) > 0 by decide,aSf]
   by_cases h:i<0
   .simp only [h,aSf] <;> lia
   .simp only [h,aE9] <;> lia
 .cases hi with
  | none=>simp [sliceBounds,HT.iK]
  | some i =>
   simp only [sliceBounds,HT.iK,Option.getD_none,show (1:Int) > 0 by decide,aSf]
   by_cases h:i<0
   .simp only [h,aSf] <;> lia
   .simp only [h,aE9] <;> lia
theorem ZfJ (its:List Value) (lo hi:Option Int):slicePick its.toArray lo hi none=((its.drop (HT.iK its.length 0 lo)).take (HT.iK its.length its.length hi - HT.iK its.length 0 lo)).toArray:=by
 obtain ⟨h1,h2,h3⟩:=Z7 lo hi its.toArray.size
 unfold slicePick
 rw [h1,h2,h3]
 simp only [sliceRange_one,pick_run,aHG] <;> rfl
def zf (K:W.Frag):V->Option Int->Option Int->Hp->VK->Prop:=λx lo hi H Q=>∃ a xs,x=.ref a/\aF K H a xs/\∀ p,H p=none->Q (.ref p) (upd H p (.lst (lG xs lo hi)))
theorem Wj:KY X (zf X.K):=by
 intro pins s σ H x v vl vu lo hi sl Q I rx hs pl pu h
 obtain ⟨a,xs,rfl,hx,q⟩:=h
 cases rx
 obtain ⟨its,r,ht,hz⟩:=I.list hx
 have hlen:=r.length
 refine ⟨"list",_,slot_list_getitem.lookup,ht.isList.typeIs,?_⟩
 refine wpAny_getItem_list_slice ht.isList hs pl pu .none (by simp) ?_ (by rw [aHG] <;> lia)
 rw [ZfJ,← hlen]
 refine ⟨.ref s.heap.objs.size,_,I.laid (t':=s.toks) (o:=.lst (lG xs lo hi)) (λb ob q=>aL6 _ q) (a17 _) ?_,rfl,q _ (I.hok.fresh (a17 _))⟩
 exact ⟨awv (YV xs lo hi) hz,_,0,(r.drop (HT.iK xs.length 0 lo)).take (HT.iK xs.length xs.length hi - HT.iK xs.length 0 lo),aWh _ rfl⟩
def gY:V->Bool
 | .aR=>true
 | .bl _=>true
 | .int _=>true
 | .str _=>true
 | _=>false
def uH:V->V->Bool
 | .aR,.aR=>true
 | .bl a,.bl b=>a == b
 | .bl a,.int b=>(if a then 1 else 0) == b
 | .int a,.bl b=>a == (if b then 1 else 0)
 | .int a,.int b=>a == b
 | .str a,.str b=>a == b
 | _,_=>false
theorem VT {A:Around} {s:Shared} {y x:V} {u v:Value} (ry:RelV y u) (rx:RelV x v) (fy:gY y=true) (fx:gY x=true):SeqAt.EqAt A s u v (uH y x):=by
 cases y with
 | aR =>
  cases ry
  cases x with
  | aR=>cases rx; exact SeqAt.EqAt.same _
  | bl b=>cases rx; exact SeqAt.EqAt.none_bool b
  | int b=>obtain ⟨t,rfl⟩:=rx; exact SeqAt.EqAt.none_int b t
  | str b=>obtain ⟨t,rfl⟩:=rx; exact SeqAt.EqAt.none_str b t
  | _=>exact absurd (show false=true from fx) am8
 | bl a =>
  cases ry
  cases x with
  | aR=>cases rx; exact SeqAt.EqAt.bool_none a
  | bl b=>cases rx; exact SeqAt.EqAt.bool_bool a b
  | int b=>obtain ⟨t,rfl⟩:=rx; exact SeqAt.EqAt.bool_int a b t
  | str b=>obtain ⟨t,rfl⟩:=rx; exact SeqAt.EqAt.bool_str a b t
  | _=>exact absurd (show false=true from fx) am8
 | int a =>
  obtain ⟨t',rfl⟩:=ry
  cases x with
  | aR=>cases rx; exact SeqAt.EqAt.int_none a t'
  | bl b=>cases rx; exact SeqAt.EqAt.int_bool a t' b
  | int b=>obtain ⟨t,rfl⟩:=rx; exact SeqAt.EqAt.int_int a t' b t
  | str b=>obtain ⟨t,rfl⟩:=rx; exact SeqAt.EqAt.int_str a t' b t
  | _=>exact absurd (show false=true from fx) am8
 | str a =>
  obtain ⟨t',rfl⟩:=ry
  cases x with
  | aR=>cases rx; exact SeqAt.EqAt.str_none a t'
  | bl b=>cases rx; exact SeqAt.EqAt.str_bool a t' b
  | int b=>obtain ⟨t,rfl⟩:=rx; exact SeqAt.EqAt.str_int a t' b t
  | str b=>obtain ⟨t,rfl⟩:=rx; exact SeqAt.EqAt.str_str a t' b t
  | _=>exact absurd (show false=true from fx) am8
 | _=>exact absurd (show false=true from fy) am8
def sQ (x:V) (u:Value):Bool:=match u with
 | .none=>uH .aR x
 | .bool b=>uH (.bl b) x
 | .int i _=>uH (.int i) x
 | .str z _=>uH (.str z) x
 | _=>false
theorem Nq {x y:V} {u:Value} (r:RelV y u) (f:gY y=true):sQ x u=uH y x:=by
 cases y with
 | aR=>cases r; rfl
 | bl b=>cases r; rfl
 | int i=>obtain ⟨t,rfl⟩:=r; rfl
 | str z=>obtain ⟨t,rfl⟩:=r; rfl
 | _=>exact absurd (show false=true from f) am8
theorem Iq {x:V}:∀ {xs:List V} {us:List Value},Vals xs us->xs.all gY=true->us.any (sQ x)=xs.any λy=>uH y x
 | _,_,.nil,_=>rfl
 | y :: xs,u :: us,.cons r t,f=>by
  rw [all_cons,aAw] at f
  rw [any_cons,any_cons,Nq r f.1,Iq t f.2]
theorem IW {A:Around} {s:Shared} {x:V} {v:Value} (rx:RelV x v) (fx:gY x=true):∀ {xs:List V} {us:List Value},Vals xs us->xs.all gY=true->∀ u∈us,SeqAt.EqAt A s u v (sQ x u)
 | _,_,.nil,_=>λu hu=>by cases hu
 | y :: xs,u :: us,.cons r t,f=>λu' hu=>by
  rw [all_cons,aAw] at f
  rcases aM6.mp hu with rfl | hu
  .rw [Nq r f.1]; exact VT r rx f.1 fx
  .exact IW rx fx t f.2 u' hu
def LP (x:V) (xs:List V):Bool:=xs.any λy=>uH y x
def Ll (K:W.Frag) (neg:Bool):R2:=λx y H Q=>∃ p xs,y=.ref p/\(aF K H p xs\/bB K H p xs)/\gY x=true/\xs.all gY=true/\Q (.bl (if neg then !LP x xs else LP x xs)) H
theorem Z6:jF X (compareOp .NotIn) (Ll X.K true):=by
 intro pins s σ H x y v u Q I rx ry h
 obtain ⟨p,xs,rfl,hq,fx,fs,q⟩:=h
 cases ry
 rcases hq with hq | hq
 .obtain ⟨its,r,pl,hz⟩:=I.list hq
  refine SeqAt.notIn_listAt (sQ x) pl.isList (λw hw=>IW rx fx r fs w (by simpa using hw)) ⟨.bl _,H,I,rfl,?_⟩
  rw [show its.toArray.any (sQ x)=its.any (sQ x) by simp,Iq r fs]
  exact q
 .obtain ⟨its,r,pl,hz⟩:=I.tuple hq
  refine SeqAt.notIn_tupleAt (sQ x) pl (λw hw=>IW rx fx r fs w (by simpa using hw)) ⟨.bl _,H,I,rfl,?_⟩
  rw [show its.toArray.any (sQ x)=its.any (sQ x) by simp,Iq r fs]
  exact q
theorem Z5:bH X (.builtin "len") (λxs H Q=>∃ p ys,xs=[.ref p]/\(aF X.K H p ys\/bB X.K H p ys)/\Q (.int ys.length) H):=by
 intro pins s σ H xs us Q I r h
 obtain ⟨p,ys,rfl,hq,q⟩:=h
 obtain ⟨u,rfl,rx⟩:=vals1 r
 cases rx
 have hn:=Dq
 rcases hq with hq | hq
 .obtain ⟨its,r',pl,hz⟩:=I.list hq
  have hlen:=r'.length
  exact Calls.call_len_list pl.isList (by simp only [aHG] <;> lia) ⟨.int ys.length,H,I.tok _,⟨s.toks+1,by rw [aHG,hlen]⟩,q⟩
 .obtain ⟨its,r',pl,hz⟩:=I.tuple hq
  have hlen:=r'.length
  exact len_tuple pl (by simp only [aHG] <;> lia) ⟨.int ys.length,H,I.tok _,⟨s.toks+1,by rw [aHG,hlen]⟩,q⟩
theorem Z4:bH X (.type "list") (λxs H Q=>∃ p ys,xs=[.ref p]/\(aF X.K H p ys\/bB X.K H p ys)/\∀ l,H l=none->Q (.ref l) (upd H l (.lst ys))):=by
 intro pins s σ H xs us Q I r h
 obtain ⟨p,ys,rfl,hq,q⟩:=h
 obtain ⟨u,rfl,rx⟩:=vals1 r
 cases rx
 have fin:∀ (its:List Value),Vals ys its->ys.length<=sizeLine->∀ (h':Heap) (c':Nat),(∀ b o',s.heap.get? b=some o'->h'.get? b=some o') ->
   h'.get? s.heap.objs.size=some { cls:=.type "list",dict:=none,data:=.seq its.toArray c',slots:=#[] }->EP X pins σ Q (.ref s.heap.objs.size) { s with heap:=h' }:=λits r' hz h' c' kp e =>
  ⟨.ref s.heap.objs.size,_,I.laid (t':=s.toks) kp (a17 _) (show aI X.prog X.w _ h' _ (.lst ys) from ⟨hz,its,c',r',e⟩),rfl,q _ (I.hok.fresh (a17 _))⟩
 rcases hq with hq | hq
 .obtain ⟨its,r',pl,hz⟩:=I.list hq
  have hlen:=r'.length
  obtain ⟨o,ho,hc,n,hd⟩:=pl.isList
  exact call_list_seq p (.inl rfl) ho hc hd (λh' c' kp e=>fin its r' hz h' c' kp e) (by simp only [aHG] <;> lia)
 .obtain ⟨its,r',pl,hz⟩:=I.tuple hq
  have hlen:=r'.length
  obtain ⟨o,ho,hc,n,hd⟩:=pl
  exact call_list_seq p (.inr rfl) ho hc hd (λh' c' kp e=>fin its r' hz h' c' kp e) (by simp only [aHG] <;> lia)
theorem ZfL:bH X (.type "tuple") (λxs H Q=>∃ p ys,xs=[.ref p]/\((aF X.K H p ys/\∀ l,H l=none->Q (.ref l) (upd H l (.tup ys)))\/(bB X.K H p ys/\Q (.ref p) H))):=by
 intro pins s σ H xs us Q I r h
 obtain ⟨p,ys,rfl,h⟩:=h
 obtain ⟨u,rfl,rx⟩:=vals1 r
 cases rx
 rcases h with ⟨hq,q⟩ | ⟨hq,q⟩
 .obtain ⟨its,r',pl,hz⟩:=I.list hq
  have hlen:=r'.length
  refine call_tuple_list pl.isList (λh' kp=>?_) (by simp only [aHG] <;> lia)
  have I1:Inv X pins σ H { s with heap:=h' }:=I.kept (t':=s.toks) kp
  have I2:Inv X pins σ (upd H h'.objs.size (.tup ys)) { s with heap:=h'.push { cls:=.type "tuple",data:=.seq its.toArray } } :=
   I1.laid (t':=s.toks) (λb o e=>aL6 _ e) (a17 _) (show aI X.prog X.w _ _ _ (.tup ys) from ⟨hz,its,r',IsTup.new _ _⟩)
  exact ⟨.ref h'.objs.size,_,I2,rfl,q _ (I1.hok.fresh (a17 _))⟩
 .obtain ⟨its,r',pl,hz⟩:=I.tuple hq
  exact call_tuple_same pl ⟨.ref p,H,I,rfl,q⟩
def Lb (K:W.Frag) (T:String) (x:V) (H:Hp):Prop:=match x with
 | .str _=>T = "str"
 | .int _=>T = "int"
 | .ref p=>(T = "list" /\ ∃ xs,aF K H p xs)\/(T = "tuple" /\ ∃ o,K.lookup p=some o/\o.cls=.type "tuple" /\ o.dict=none) \/
   (T = "dict" /\ ((∃ kvs,H p=some (.dK kvs))\/∃ kvs,H p=some (.dT kvs)))\/(T = "set" /\ ∃ S n,H p=some (.set S n))
 | _=>False
theorem VS {pins:List (Addr×Obj)} {σ:St} {H:Hp} {s:Shared} {T:String} {x:V} {v:Value} (I:Inv X pins σ H s) (r:RelV x v) (ty:Lb X.K T x H) :
  s.TypeIs v T/\∀ a,v=.ref a->∃ ob,s.heap.get? a=some ob/\ob.dict=none:=by
 cases x with
 | str z =>
  obtain ⟨t,rfl⟩:=r
  cases (show T = "str" from ty)
  exact ⟨typeIs_str s z t,λ_ e=>nomatch e⟩
 | int i =>
  obtain ⟨t,rfl⟩:=r
  cases (show T = "int" from ty)
  exact ⟨typeIs_int s i t,λ_ e=>nomatch e⟩
 | ref p =>
  cases r
  rcases ty with ⟨rfl,xs,hq⟩ | ⟨rfl,o,hk,hc,hd⟩ | ⟨rfl,hk⟩ | ⟨rfl,S,n,hk⟩
  .obtain ⟨its,_,pl,_⟩:=I.list hq
   refine ⟨pl.isList.typeIs,λa e=>?_⟩
   cases e
   obtain ⟨o,n,e,c,hd,_⟩:=pl
   exact ⟨o,e,hd⟩
  .refine ⟨⟨o,I.dW p o hk,hc⟩,λa e=>?_⟩
   cases e
   exact ⟨o,I.dW _ o hk,hd⟩
  .have z:∃ o,s.heap.get? p=some o/\o.ExactDict:=by
    rcases hk with ⟨kvs,hk⟩ | ⟨kvs,hk⟩
    .obtain ⟨_,_,_,_,o,_,_,e,ex,_⟩:=I.hok p _ hk
     exact ⟨o,e,ex⟩
    .obtain ⟨_,_,_,_,o,_,_,e,ex,_⟩:=I.hok p _ hk
     exact ⟨o,e,ex⟩
   obtain ⟨o,e,ex⟩:=z
   refine ⟨⟨o,e,ex.1⟩,λa e2=>?_⟩
   cases e2
   exact ⟨o,e,ex.2.1⟩
  .obtain ⟨o,_,_,_,e,ex,_⟩:=I.hok p _ hk
   refine ⟨⟨o,e,ex.1⟩,λa e2=>?_⟩
   cases e2
   exact ⟨o,e,ex.2.1⟩
 | _=>exact False.elim ty
def E7 (K:W.Frag) (T:String) (r:V->List V->Hp->VK->Prop) (to:TE) (t:TA):TE:=λσ H Q=>to σ H λx H1=>Lb K T x H1/\t σ H1 λxs H2=>r x xs H2 Q
variable {o e:Expr} {es:List Expr} {to:TE} {t:TA} {name:Str} {apos cpos:Pos} {T id:String} {r:V->List V->Hp->VK->Prop}
theorem iM (pa:PlainAttrs T) (slot:Slot T name id) (hty:typeOf (.builtin id)=pure (.type "method_descriptor")) (hm:MtR X id r) (ho:PE X o to) (ha:PA X (e :: es) t)
  (hbase:attributeBase o name X.env (eval o X.env)=eval o X.env:=by rfl)
  (hfew:((backTo cpos (starEach (e :: es) X.env)).all (λx=>!x.1) && (backToKw cpos (keywordEach [] X.env)).all (λx=>x.1.isSome)
   && decide ((e :: es).length+([]:List Keyword).length+(if ([]:List Keyword).isEmpty then 0 else 1)<30))=true:=by rfl)
  (hline:(apos.endLine == cpos.line)=true:=by rfl) (hs:starEach (e :: es) X.env=(false,eval e X.env) :: starEach es X.env:=by rfl) (hplain:(backTo cpos (starEach es X.env)).any (·.1)=false:=by rfl) :
  PE X (.Call (.Attribute o name apos) (e :: es) [] cpos) (E7 X.K T r to t):=by
 intro pins s σ H Q I h
 refine wpAny_Call_method_late hbase hfew hline rfl (aJ (ho pins s σ H _ I h) λv s1 ⟨x,H1,I1,r1,ty,q1⟩=>?_)
 obtain ⟨h1,h2⟩:=VS I1 r1 ty
 refine ⟨T,id,pa,slot,hty,h1,h2,?_⟩
 have hA:=ha cpos pins s1 σ H1 _ I1 q1
 rw [hs] at hA ⊢
 refine asT (by show (false || (backTo cpos (starEach es X.env)).any (·.1))=false; rw [hplain] <;> rfl) (aa5 ?_)
 exact aJ hA λus s2 ⟨vs,H2,I2,r2,q2⟩=>hm pins s2 σ H2 x vs v us Q I2 r1 r2 q2
/- xs.append(e),list.index on a module's tuple .. are MtR facts of 06m -/
end
def Qd (X:Cx) (id:String) (r:V->List V->Hp->VK->Prop):Prop :=
 ∀ (pins:List (Addr×Obj)) (s:Shared) (σ:St) (H:Hp) (x:V) (xs:List V) (v:Value) (us:List Value) (Q:VK),Inv X pins σ H s->RelV x v->Vals xs us->r x xs H Q ->
  wpAny (model X.prog X.w) X.A (call (.builtin id) (v :: us)) (EP X pins σ Q) X.xe s
theorem Vals.one:∀ {x:V} {us:List Value},Vals [x] us->∃ u,us=[u]/\RelV x u
 | _,_,.cons r .nil=>⟨_,rfl,r⟩
section
variable {X:Cx} {pins:List (Addr×Obj)} {σ:St} {H:Hp} {s:Shared} {l b:Addr} {xs ys zs:List V}
theorem Inv.ql {its its':List Value} {n:Nat} {f:Array Value->Array Value} {t':Nat} (I:Inv X pins σ H s) (hH:H l=some (.lst xs))
  (e:s.heap.get? l=some { cls:=.type "list",data:=.seq its.toArray n }) (hf:f its.toArray=its'.toArray) (hv:Vals ys its') (hz:ys.length<=sizeLine) :
  Inv X pins σ (upd H l (.lst ys)) { s with heap:=s.heap.update l (Obj.mapSeq f),toks:=t' }:=by
 have q:=PySem.IsL.update e f
 rw [hf] at q
 refine I.write (x:=l) (e:=l) (by rw [hH]; exact trivial) (.inl rfl) (λb' u hb hu=>(Heap.get?_update_other s.heap (Obj.mapSeq f) (aFS hb)).trans hu) ⟨_,q⟩ ?_
 exact ⟨hz,its',_,hv,q⟩
theorem Inv.FP {its:List Value} {t':Nat} (I:Inv X pins σ H s) (hv:Vals ys its) (hz:ys.length<=sizeLine) :
  Inv X pins σ (upd H s.heap.objs.size (.lst ys)) { s with heap:=s.heap.push { cls:=.type "list",data:=.seq its.toArray },toks:=t' } :=
 I.laid (λ_ _ q=>aL6 _ q) (a17 _) ⟨hz,its,0,hv,aWh _ rfl⟩
theorem Inv.fresh (I:Inv X pins σ H s):H s.heap.objs.size=none:=I.hok.fresh (a17 _)
theorem Inv.qk (I:Inv X pins σ H s) (hH:H l=some (.lst xs)):xs.length<=sizeLine/\∃ (its:List Value) (n:Nat),Vals xs its/\xs.length=its.length/\s.heap.get? l=some { cls:=.type "list",data:=.seq its.toArray n }:=by
 obtain ⟨z,its,n,r,e⟩:=I.hok l _ hH
 exact ⟨z,its,n,r,r.length,e⟩
end
section
variable {X:Cx}
def Wi:V->List V->Hp->VK->Prop:=λx vs H Q=>∃ l xs y,x=.ref l/\vs=[y]/\H l=some (.lst xs)/\xs.length<sizeLine/\Q .aR (upd H l (.lst (xs++[y])))
theorem wM:Qd X "list.append" Wi:=by
 intro pins s σ H x vs v us Q I rx rv h
 obtain ⟨l,xs,y,rfl,rfl,hH,hz,q⟩:=h
 cases rx
 obtain ⟨u,rfl,ru⟩:=rv.one
 obtain ⟨z,its,n,r,hl,e⟩:=I.qk hH
 refine call_meets F.slot_list_append ⟨_,e,rfl⟩ F.entry_list_append (F.args_list_append_2 _ _) (PySem.list_append l its.toArray n u (by rw [aHG]; lia)) ⟨e,?_⟩
 refine ⟨.aR,_,I.ql (its':=its++[u]) hH e (by simp) (r.append (.cons ru .nil)) ?_,rfl,q⟩
 rw [ap5,aay]
 lia
end
end L2
namespace Qp
open PySem PySem.W PySem.Calls PyProof.Rows
theorem ZeG {P:Params} {h:Heap}:∀ (ns:List Int) (vs:List Value),WellAll P h vs (ns.map WData.int)->IntsAre vs ns:=by
 intro ns
 induction ns with
 | nil =>
  intro vs w
  rw [map_nil] at w
  cases w
  exact .nil
 | cons n ns ih =>
  intro vs w
  rw [asO] at w
  cases w with
  | cons a b =>
   cases a
   exact .cons _ _ (ih _ b)
theorem Xx {l:OpenLaw} {n:Nat} (hn:l.most=some n) {P:Params} {h:Heap} {args:List WData} {vals:List Value}
  (hpre:l.row.toRowW.claim.pre args=true) (hwl:WellAll P h vals args) :
  ∃ a vs ns,vals=[Value.ref a]/\args=[WData.list (ns.map WData.int)]/\h.get? a=some { cls:=.type "list",data:=.seq vs.toArray }/\IntsAre vs ns/\ns.length<=n:=by
 have hsh:WShape.hasAll [] args [.list .int]=true:=(pre_splitW hpre).1
 have hc:l.pre.holds [] { args:=args }=true:=(pre_splitW hpre).2
 obtain ⟨d,r,rfl,h1,h2⟩:=hasAllW_cons hsh
 obtain rfl:=hasAllW_nil h2
 obtain ⟨xs,rfl,h3⟩:=hasW_list h1
 obtain ⟨ns,rfl⟩:=items_int h3
 have hlen:ns.length<=n:=by
  unfold OpenLaw.pre at hc
  have h4:(WTm.not (.lt (.lit (.int (n:Int))) (.len (.arg 0)))).holds [] { args:=[.list (ns.map .int)] }=true:=by
   have h4:=(holds_andW hc).1
   rw [hn] at h4
   exact h4
  have h5:=condW_of h4 (w_not (w_lt w_lit (w_len_list (w_arg rfl))))
  rw [afy] at h5
  refine Nat.le_of_not_lt λq=>?_
  have q':(n:Int)<((ns.length:Nat):Int):=by lia
  first
   | (rw [an3 q'] at h5; exact absurd h5 (by decide))
   | (simp at h5; lia)
 cases hwl with
 | cons w1 w2 =>
  cases w2
  cases w1 with
  | list ho hall=>exact ⟨_,_,ns,rfl,rfl,ho,ZeG ns _ hall,hlen⟩
theorem Xw (l:OpenLaw) (args:List WData):l.row.toRowW.claim.post args (.bool true) args=true :=
 postW_of (r:=l.row.toRowW) (X:=(true == true))
  (show WShape.has [] (.bool true) .bool=true by first | rfl | decide | simp [WShape.has,WShape.arms,WShape.armsAll])
  (show (WTm.eq .res (.lit (.bool true))).value [] { args:=args,res:=some (.bool true),after:=args }=some (.bool (true == true)) from w_eq_bool (w_res rfl) w_lit) rfl
theorem lN {l:OpenLaw} {n:Nat} {q:Program} {loose:List Str} {XP:(Str->Option Value)->Heap->Prop} {YP:World->Heap->Prop} {d:DefRec}
  (hn:l.most=some n) (hdf:d.params.defaults=[])
  (call:∀ (w:World) (s₀ s₁:Shared) (mg mb:Str->Option Value) (fa:Addr) (o:Obj) (pm cd doc:Value) (a:Addr) (vs:List Value) (ns:List Int),
   Ground q loose [] XP w s₀ mg mb s₁.heap->YP w s₁.heap ->
   s₁.heap.get? fa=some o->o.data=.func (docDef d.name d.params d.body d.scope pm cd doc)->s₁.heap.CodeRec cd d.name->mg d.name=some (.ref fa) ->
   s₁.heap.get? a=some { cls:=.type "list",data:=.seq vs.toArray }->IntsAre vs ns->ns.length<=n->s₁.gens=#[] ->
   codeAny (model l.prog w) callerA (.call (.ref fa) ⟨[.ref a],[]⟩) (λr s'=>r=.ok (.ret (.bool true))/\OldK s₁.heap s'.heap/\s'.os=s₁.os/\AllBare s'.gens) s₁) :
  WalkO q loose XP YP l.row.toRowW d [] (λf vs=>PySem.call f vs):=by
 intro w s₀ s₁ mg mb G Y fa o pm cd doc dV kV ho hd hcd hD hmg hg args vals as hpre hlay hrd hwl hlo
 obtain rfl:dV=.none:=Dflts.none hD hdf
 obtain rfl:kV=.none:=Dflts.noKw hD
 obtain ⟨a,vs,ns,rfl,rfl,hobj,hints,hlen⟩:=Xx hn hpre hwl
 refine enter_call (codeAny_mono (call w s₀ s₁ mg mb fa o pm cd doc a vs ns G Y ho (fd_plain hd) hcd hmg hobj hints hlen hg) λr s' hq=>?_)
 obtain ⟨rfl,h2,h3,h4⟩:=hq
 exact ⟨.inl ⟨.bool true,.bool true,[],rfl,λ_=>rfl,.bool true,Xw l _,λ_=>⟨List.Pairwise.nil,λ_ hm=>(nomatch hm)⟩⟩,h2,h3,h4⟩
end Qp
namespace L2
open PySem PySem.Spec PyProof.Rows
theorem D6:∀ {vs:List Value} {ns:List Int},IntsAre vs ns->Vals (ns.map V.int) vs
 | _,_,.nil=>.nil
 | _,_,.cons n t h=>.cons ⟨t,rfl⟩ (D6 h)
def Zp (s:Stmt) (j:Nat):Stmt:=match s with
 | .ClassDef _ _ _ body _ _ _ _ _ _ _=>body.getD j (.Pass ⟨0,0,0,0⟩)
 | _=>.Pass ⟨0,0,0,0⟩
def ZU (s:Stmt):Arguments:=match s with
 | .FunctionDef _ a _ _ _ _ _ _ _ _=>a
 | _=>{ posonlyargs:=[],args:=[],vararg:=none,kwonlyargs:=[],kw_defaults:=[],kwarg:=none,defaults:=[] }
def ZF (s:Stmt):List Stmt:=match s with
 | .FunctionDef _ _ b _ _ _ _ _ _ _=>b
 | _=>[]
def Zi (s:Stmt):Scope:=match s with
 | .FunctionDef _ _ _ _ _ _ sc _ _ _=>sc
 | _=>{ kind:=.function,names:=[],isGenerator:=false,isCoroutine:=false }
abbrev aW:rN:=λ_ _ _ _ _ _=>False
abbrev E0:XK:=λ_ _ _=>False
theorem nT {X:Cx}:wC aW X E0:=λ_ _ _ _ _ _ _ h=>h.elim
structure aZ (K:W.Frag) (x qual:Str) (st:Stmt) (f:Addr) (fd:FuncData):Prop where
 ex:∃ (oc:Value) (od:Option Addr) (kV doc pm:Value) (an:Option Addr) (cdv ct:Value) (osl:Array (Option Value)),
  fd=W.fnOf x qual (ZU st) (ZF st) (Zi st) .none kV doc pm an cdv ct/\K.lookup f=some ⟨oc,od,.func fd,osl⟩/\W.codeIn K cdv qual=true
 kp:W.keepIn K (.ref f)=true
section
variable {P:Program} {w:World} {K:W.Frag} {mg:Str->Option Value} {base:Heap}
theorem aZ.ok {x qual:Str} {st:Stmt} {f:Addr} {fd:FuncData} {N ps:List Str} {k:Nat} {sp:Sp} (F:aZ K x qual st f fd) (S:ah N ps (Zi st)) (len:∀ vs H Q E,sp vs H Q E->vs.length=ps.length)
  (hbody:∀ (cdv:Value) (A:Around) (outer:List Env) (s:Shared) (H:Hp) (vs:List V) (Q:VK) (E:XK),br k (A.deeper (envOfC qual (Zi st) s.heap.objs.size f cdv))->sp vs H Q E ->
   ∃ t,oM (lF aW P w K mg base N qual (Zi st) f cdv A outer s H E).vv (ZF st) t/\t { nx:=λ_ H'=>Q .aR H',rt:=Q } (start N vs) H):au P w K mg base aW (k+1) f fd ps sp:=by
 obtain ⟨oc,od,kV,doc,pm,an,cdv,ct,osl,rfl,lk,hcd⟩:=F.ex
 refine uD lk hcd S len λA outer s H vs Q E hr mO=>?_
 obtain ⟨t,h,q⟩:=hbody cdv A outer s H vs Q E hr mO
 exact ⟨t,h.vv,q⟩
theorem aZ.binds {x qual:Str} {st:Stmt} {f:Addr} {fd:FuncData} {ps:List Str} (F:aZ K x qual st f fd)
  (h:∀ (kV doc pm:Value) (an:Option Addr) (cdv ct:Value) (us:List Value),us.length=ps.length->bindArgs (W.fnOf x qual (ZU st) (ZF st) (Zi st) .none kV doc pm an cdv ct) ⟨us,[]⟩=pure (ps.zip us)):Binds K fd ps []:=by
 obtain ⟨oc,od,kV,doc,pm,an,cdv,ct,osl,rfl,lk,hcd⟩:=F.ex
 exact .all (h kV doc pm an cdv ct)
theorem uT {x qual:Str} {st:Stmt} {f:Addr} {oc:Value} {od an:Option Addr} {osl:Array (Option Value)} {kV doc pm cdv ct:Value} (l:K.lookup f=some ⟨oc,od,.func (W.fnOf x qual (ZU st) (ZF st) (Zi st) .none kV doc pm an cdv ct),osl⟩)
  (c:W.codeIn K cdv qual=true) (k:W.keepIn K (.ref f)=true):aZ K x qual st f (W.fnOf x qual (ZU st) (ZF st) (Zi st) .none kV doc pm an cdv ct):=⟨⟨oc,od,kV,doc,pm,an,cdv,ct,osl,rfl,l,c⟩,k⟩
end
theorem b9 {A:Around} {k:Nat} (hr:br k A):A.units+1<cLine:=axD (Nat.add_le_add_left (by decide:1<=64) _) hr.units
theorem ZG {n:Nat} (h:n<=1000):n<sizeLine:=axD h (by decide)
section
variable {X:Cx}
theorem pv (i:Nat) {x:Str} {pos:Pos} (hN:X.N[i]?=some x:=by rfl) (hv:BA X.env.scope x:=by first | exact Or.inl rfl | exact Or.inr (Or.inl rfl) | exact Or.inr (Or.inr rfl)) (hd:(x == ("__debug__" : Str))=false:=by decide)
  (hcd:(x == ("__classdict__" : Str))=false:=by decide):PE X (.Name x pos) (yK i):=V3 hN hv hd hcd
end
def aB (H H':Hp):Prop:=∀ b o,H b=some o->H' b=some o
theorem aB.refl (H:Hp):aB H H:=λ_ _ h=>h
theorem aB.trans {H H1 H2:Hp} (a:aB H H1) (b:aB H1 H2):aB H H2:=λc o h=>b c o (a c o h)
theorem aB.free {H H':Hp} (e:aB H H') {l:Addr} (h:H' l=Option.none):H l=Option.none:=by
 cases q:H l with
 | none=>rfl
 | some o =>
  rw [e l o q] at h
  cases h
theorem aB.seq {K:W.Frag} {H H':Hp} {a:Addr} {xs:List V} (e:aB H H') (h:aF K H a xs):aF K H' a xs:=by
 rcases h with (h | ⟨o,h⟩) | h
 .exact .inl (.inl (e _ _ h))
 .exact .inl (.inr ⟨o,e _ _ h⟩)
 .exact .inr h
end L2
set_option maxHeartbeats 4000000
namespace L2
open PySem PySem.Spec PyProof.Rows
def bK (X:Cx) (N:List Str) (scope:Scope) (cl:List (Str×Addr)) (C:Addr) (s0:Shared) (H0:Hp) (fp:List Addr) (pins:List (Addr×Obj)):Cx :=
 { X with N:=N,s₀:=s0,H₀:=H0,env:=compEnvC scope cl C X.env,outer:=X.stack,stack:=X.stack,ex:=fp,fn:=λx=>scope.names.lookup x == some .cell,pn:=X.pn++pins,xe:=λ_ _=>False }
theorem Bq {env:Env}:∀ (names:List (Str×NameKind)) (acc:List (Str×Addr)),(∀ p∈names,p.2=.free->∃ c,env.cells.lookup p.1=some c)->(∀ x c,acc.lookup x=some c->env.cells.lookup x=some c) ->
  ∃ cl,(forIn names acc λ(x:Str×NameKind) cs=>(match x with | (name,kind)=>if (kind == NameKind.free)=true then do let a ← cellOf env name; pure (ForInStep.yield ((name,a) :: cs)) else pure (ForInStep.yield cs):Sem (ForInStep (List (Str×Addr)))))=(pure cl:Sem (List (Str×Addr))) /\
   (∀ x c,cl.lookup x=some c->env.cells.lookup x=some c)/\(∀ x c,acc.lookup x=some c->cl.lookup x=some c)/\∀ p∈names,p.2=.free->∃ c,cl.lookup p.1=some c
 | [],acc,_,h=>⟨acc,rfl,h,λ_ _ e=>e,λ_ z=>nomatch z⟩
 | (n,k) :: r,acc,h,ha=>by
  by_cases hk:k=.free
  .subst hk
   obtain ⟨c,hc⟩:=h (n,.free) abW rfl
   have ha':∀ x d,((n,c) :: acc).lookup x=some d->env.cells.lookup x=some d:=λx d e=>by
    rw [akY] at e
    cases q:x == n with
    | true =>
     rw [q] at e
     have hxn:x=n:=by simpa using q
     subst hxn
     cases e
     exact hc
    | false =>
     rw [q] at e
     exact ha x d e
   obtain ⟨cl,e1,e2,e3,e4⟩:=Bq r ((n,c) :: acc) (λp hp=>h p (aZE _ hp)) ha'
   have top:∃ d,cl.lookup n=some d:=⟨c,e3 n c (by rw [akY]; simp)⟩
   refine ⟨cl,?_,e2,λx d e=>?_,λp hp hf=>?_⟩
   .rw [aU9]
    simp only [cellOf,hc,beq_self_eq_true,aSf]
    exact e1
   .cases q:x == n with
    | true =>
     have hxn:x=n:=by simpa using q
     subst hxn
     have z:=ha x d e
     rw [hc] at z; cases z
     exact e3 x c (by rw [akY]; simp)
    | false=>exact e3 x d (by rw [akY,q]; exact e)
   .rcases aM6.mp hp with rfl | hp
    .exact top
    .exact e4 p hp hf
  .obtain ⟨cl,e1,e2,e3,e4⟩:=Bq r acc (λp hp=>h p (aZE _ hp)) ha
   have hb:(k == NameKind.free)=false:=by simpa using hk
   refine ⟨cl,?_,e2,e3,λp hp hf=>?_⟩
   .rw [aU9]
    simp only [hb,aXZ,aE9]
    exact e1
   .rcases aM6.mp hp with rfl | hp
    .exact absurd hf hk
    .exact e4 p hp hf
theorem PZ {α:Type} (f:Str->α->α) (x:Str):∀ l:List (Str×α),(l.map λp=>(p.1,f p.1 p.2)).lookup x=(l.lookup x).map (f x)
 | []=>rfl
 | (n,k) :: r=>by
  have ih:=PZ f x r
  rw [asO,akY,akY]
  cases q:x == n with
  | true =>
   have e:x=n:=by simpa using q
   subst e
   rfl
  | false=>exact ih
def wB (env:Env) (n:Str) (k:NameKind):NameKind:=if (k == NameKind.free && env.scope.kind == .function && env.kindOf n == some .cell)=true then .cell else k
theorem PY (scope:Scope) (env:Env) (x:Str):(relabel scope env).names.lookup x=(scope.names.lookup x).map (wB env x):=by
 rw [← PZ (wB env) x scope.names]
 show (scope.names.map _).lookup x=_
 congr 1
 refine al9 λp _=>?_
 show (if _ then _ else _)=_
 unfold wB
 split <;> rfl
theorem PX (env:Env) (n:Str) (k:NameKind):wB env n k=k\/(k=.free/\wB env n k=.cell):=by
 unfold wB
 by_cases h:(k == NameKind.free && env.scope.kind == .function && env.kindOf n == some .cell)=true
 .refine .inr ⟨?_,ajr h⟩
  rw [aAw,aAw] at h
  exact aXR.mp h.1.1
 .exact .inl (aBJ h)
theorem ZcR {scope:Scope} {env:Env} {x:Str} {k:NameKind} (h:scope.names.lookup x=some k) :
  (relabel scope env).names.lookup x=some k\/(k=.free/\(relabel scope env).names.lookup x=some .cell):=by
 rw [PY,h]
 rcases PX env x k with q | ⟨q,q'⟩
 .exact .inl (aOy some q)
 .exact .inr ⟨q,aOy some q'⟩
theorem Z3 {scope:Scope} {env:Env} {x:Str} {k:NameKind} (h:(relabel scope env).names.lookup x=some k):∃ k',scope.names.lookup x=some k'/\(k'=k\/k'=.free):=by
 rw [PY] at h
 cases q:scope.names.lookup x with
 | none=>rw [q] at h; cases h
 | some k' =>
  rw [q] at h
  have h':wB env x k'=k:=aGB h
  rcases PX env x k' with z | ⟨z,_⟩
  .exact ⟨k',rfl,.inl (z.symm.trans h')⟩
  .exact ⟨k',rfl,.inr z⟩
theorem ZX {α:Type} {x:Str}:∀ {l:List (Str×α)} {k:α},l.lookup x=some k->(x,k)∈l
 | [],_,h=>by simp at h
 | (n,k) :: r,k',h=>by
  rw [akY] at h
  cases hx:x == n with
  | true =>
   rw [hx] at h; cases h
   have:x=n:=by simpa using hx
   subst this
   exact abW
  | false =>
   rw [hx] at h
   exact aZE _ (ZX h)
theorem Yc {prog:Program} {w:World} {A:Around} {s:Shared} {elt target iter:PySem.Expr} {ifs:List PySem.Expr} {scope:Scope} {pos:Pos} {it acc:Value} {env:Env} {R:Result->Shared->Prop} (I:Nat->Shared->Prop)
  (turn:∀ n s,I n s->wpAny (model prog w) A (pyNext it) (λr s1=>match r with
   | none=>R (.ok .next) s1
   | some v=>wpAny (model prog w) A (letOwnedTupleGo target it v) (λ_ s0=>wpAny (model prog w) A (assign target env v) (λ_ s2 =>
     wpAny (model prog w) A (forIn ifs true λc r=>if r=true then do let ok ← isTrue c env (eval c env); pure (ForInStep.yield ok) else pure (ForInStep.yield r)) (λok s3 =>
      if ok=true then wpAny (model prog w) A (eval elt env) (λx s4 =>
       wpAny (model prog w) A (call (.builtin "list.append") [acc,x]) (λ_ s5=>∃ m,m<n/\I m s5) (λ_ _=>False) s4) (λ_ _=>False) s3
      else ∃ m,m<n/\I m s3) (λ_ _=>False) s2) (λ_ _=>False) s0) (λ_ _=>False) s1) (λ_ _=>False) s)
  (n:Nat) (h:I n s):codeAny (model prog w) A (.compLoop (.ListComp elt [⟨target,iter,ifs,0⟩] scope pos) 0 it acc env) R s:=by
 have body:∀ n s,I n s->wpAny (model prog w) A (compTurn (.ListComp elt [⟨target,iter,ifs,0⟩] scope pos) 0 it acc env)
   (λfin s'=>match fin with | .done f=>R (.ok f) s' | .again c=>c=.compLoop (.ListComp elt [⟨target,iter,ifs,0⟩] scope pos) 0 it acc env/\∃ m,m<n/\I m s') (λ_ _=>False) s:=λn s hI=>by
  rw [compTurn_list]
  refine awJ (wpAny_standAt (awJ (aJ (turn n s hI) λr s1 h1=>?_)))
  cases r with
  | none=>exact aOf h1
  | some v =>
   refine awJ (aJ h1 λ_ s0 h0=>awJ (aJ h0 λ_ s2 h2=>awJ (aJ h2 λok s3 h3=>?_)))
   cases ok with
   | true=>exact awJ (awJ (aJ h3 λx s4 h4=>awJ (aJ h4 λ_ s5 h5=>aOf (aOf ⟨rfl,h5⟩))))
   | false=>exact aOf ⟨rfl,h3⟩
 exact codeAny_loop rfl I (λn s hI=>wpAny_noted (acp (body n s hI) (λ_ _ q=>q) λ_ _ q=>q.elim)) n h
def kU (own:Nat) (js:List Nat) (wi:TI) (g:TG) (tc:TT) (te:TE):TE:=λσ H Q=>wi σ H λJ H1=>∀ l,H1 l=none ->
 ∃ W:Nat->Nat->List V->St->Hp->Prop,(∃ m,W 0 m [] (List.replicate own none++js.map λj=>(σ[j]?).join) (upd H1 l (.lst [])))/\∀ i m ys σ' H',W i m ys σ' H' ->
  (J.stop i H'/\Q (.ref l) H')\/(J.go i H'/\∀ x H2,J.ni i H' x H2->g x σ' H2 λσ2 H3=>tc σ2 H3 λb H4 =>
   if b=true then te σ2 H4 λy H5=>H5 l=some (.lst ys)/\ys.length<sizeLine/\∃ m',m'<m/\W (i+1) m' (ys++[y]) σ2 (upd H5 l (.lst (ys++[y])))
   else ∃ m',m'<m/\W (i+1) m' ys σ2 H4)
def tQ:TT:=λ_ H Q=>Q true H
structure dZ (X:Cx) (scope:Scope) (N:List Str) (own:Nat) (js:List Nat):Prop where
 kind:scope.kind=.function
 cell:∀ y∈scope.names,y.2=.cell->scope.names.lookup y.1=some .cell
 names:∀ y∈scope.names,y.2=.local->scope.names.lookup y.1=some .local
 free:∀ y∈scope.names,y.2=.free->X.env.kindOf y.1=some .cell\/X.env.kindOf y.1=some .free
 len:N.length=own+js.length
 js:∀ k j,js[k]?=some j->N[own+k]?=X.N[j]?
 jf:∀ k x,N[own+k]?=some x->scope.names.lookup x=some .free
theorem Un.but {fs ex:List Addr} {H H':Hp} {h h1 h2:Heap} {C:Addr} (u:Un fs ex H H' h h1) (hc:h.objs.size<=C) (sb:∀ b o,b≠C->h1.get? b=some o->h2.get? b=some o):Un fs ex H H' h h2:=by
 have ne:∀ b o,h.get? b=some o->b≠C:=λb o e=>a19 (a7q (aDe e) hc)
 refine ⟨λb o q n hb hx=>sb b o (ne b o q) (u.keep b o q n hb hx),λb o q n hb hx=>?_,u.free,λb o q hx=>?_,u.tups,u.iX,u.jd⟩
 .obtain ⟨sl,e⟩:=u.slot b o q n hb hx
  exact ⟨sl,sb b _ (ne b o q) e⟩
 .obtain ⟨o',e⟩:=u.there b o q hx
  exact ⟨o',sb b o' (ne b o q) e⟩
theorem wA:∀ (names:List (Str×NameKind)) (n:Nat) (acc:List (Str×Addr)),cellsFrom n names acc=cellsFrom n names []++acc
 | [],_,_=>rfl
 | (x,k) :: r,n,acc=>by
  unfold cellsFrom
  by_cases hk:(k == NameKind.cell)=true
  .rw [ajr hk,ajr hk,wA r (n+1) ((x,n) :: acc),wA r (n+1) [(x,n)],a8E]
   rfl
  .rw [aBJ hk,aBJ hk]
   exact wA r n acc
theorem Ip:∀ (names:List (Str×NameKind)) (n:Nat) (x:Str) (c:Addr),(x,c)∈cellsFrom n names []->(x,NameKind.cell)∈names
 | [],_,_,_,h=>nomatch h
 | (y,k) :: r,n,x,c,h=>by
  unfold cellsFrom at h
  by_cases hk:(k == NameKind.cell)=true
  .rw [ajr hk,wA] at h
   rcases aPD.mp h with q | q
   .exact aZE _ (Ip r _ x c q)
   .have e:(x,c)=(y,n):=by simpa using q
    cases e
    have hk':k=.cell:=by simpa using hk
    subst hk'
    exact abW
  .rw [aBJ hk] at h
   exact aZE _ (Ip r _ x c h)
theorem P5 {α:Type}:∀ {l:List (Str×α)} {x:Str} {c:α},(x,c)∈l->∃ d,l.lookup x=some d
 | (y,v) :: r,x,c,h=>by
  rw [akY]
  cases q:x == y with
  | true=>exact ⟨v,rfl⟩
  | false =>
   rcases aM6.mp h with e | e
   .cases e; simp at q
   .exact P5 e
theorem HN:∀ (names:List (Str×NameKind)) (n:Nat) (x:Str),(x,NameKind.cell)∈names->∃ c,(x,c)∈cellsFrom n names []
 | [],_,_,h=>nomatch h
 | (y,k) :: r,n,x,h=>by
  unfold cellsFrom
  rcases aM6.mp h with e | e
  .cases e
   rw [ajr (show (NameKind.cell == NameKind.cell)=true from rfl),wA]
   exact ⟨n,af2 _ (by simp)⟩
  .by_cases hk:(k == NameKind.cell)=true
   .rw [ajr hk,wA]
    obtain ⟨c,q⟩:=HN r (n+1) x e
    exact ⟨c,a4h _ q⟩
   .rw [aBJ hk]
    exact HN r n x e
theorem PN {α:Type}:∀ (l m:List (Str×α)) (x:Str),(l++m).lookup x=match l.lookup x with | some c=>some c | none=>m.lookup x
 | [],m,x=>rfl
 | (y,v) :: r,m,x=>by
  rw [List.cons_append,akY,akY]
  cases x == y with
  | true=>rfl
  | false=>exact PN r m x
theorem Z2 {M:Model} {A:Around} {E:Value->Shared->Prop} {s:Shared} {scope:Scope} {globals:Addr} {cl:List (Str×Addr)} {qual:Str} {env:Env} {Q:Env->Shared->Prop}
  (h:Q (newEnv scope s.heap.objs.size globals (cellsFrom (s.heap.objs.size+1) scope.names cl) qual none .none (some env) builtinsNs) { s with heap:=pushCells (s.heap.push { cls:=.type "dict",data:=.dict #[] }) scope.names }) :
  wpAny M A (newFunctionEnv scope globals cl [] qual none .none (some env)) Q E s:=by
 simp only [newFunctionEnv,Option.isSome_some,aSf]
 refine awJ (wpAny_alloc (awJ (wpAny_layCells _ (λname kind cells=>by cases hkc:kind == NameKind.cell <;> simp [hkc]) _ _ _ _ ?_)))
 rw [show ({ s with heap:=s.heap.push { cls:=.type "dict",data:=.dict #[] } }:Shared).heap.objs.size=s.heap.objs.size+1 from aHg ..]
 rw [List.forIn_nil]
 exact awJ (aOf (aOf h))
structure ou (X:Cx) (scope:Scope) (lH:List (Str×Addr)) (n:Nat) (h':Heap):Prop where
 k1:∀ x c,lH.lookup x=some c->X.env.cells.lookup x=some c\/(n<c/\h'.IsCell c none/\(x,NameKind.cell)∈scope.names)
 k2:∀ x,scope.names.lookup x=some .free->∃ c,lH.lookup x=some c/\X.env.cells.lookup x=some c
 k3:∀ p∈scope.names,p.2=.cell\/p.2=.free->∃ c,lH.lookup p.1=some c
 k4:∀ x y c,lH.lookup x=some c->lH.lookup y=some c->x=y
 k5:∀ x c,scope.names.lookup x=some .cell->lH.lookup x=some c->n<c
section
variable {X:Cx} {scope:Scope} {N:List Str} {own:Nat} {js:List Nat}
theorem Yo {cl:List (Str×Addr)} {n:Nat} {h0:Heap} (c:dZ X scope N own js) (iY:∀ x c,cl.lookup x=some c->X.env.cells.lookup x=some c) (kM:∀ p∈scope.names,p.2=.free->∃ c,cl.lookup p.1=some c)
  (inj:∀ x y c,X.env.cells.lookup x=some c->X.env.cells.lookup y=some c->x=y) (lt:∀ x c,X.env.cells.lookup x=some c->c<n) (hn:h0.objs.size=n+1):ou X scope (cellsFrom (n+1) scope.names cl) n (pushCells h0 scope.names):=by
 have ok:=cellsFrom_ok scope.names h0 (n+1) [] ⟨λ_ _ hm=>(nomatch hm),List.Pairwise.nil⟩ (by rw [hn]; exact a17 _)
 rw [hn] at ok
 have two:∀ x,(cellsFrom (n+1) scope.names cl).lookup x=match (cellsFrom (n+1) scope.names []).lookup x with | some c=>some c | none=>cl.lookup x:=λx=>by
  rw [wA,PN]
  cases (cellsFrom (n+1) scope.names []).lookup x <;> rfl
 have own':∀ x d,(cellsFrom (n+1) scope.names []).lookup x=some d->(pushCells h0 scope.names).IsCell d none/\n<d/\(x,NameKind.cell)∈scope.names:=λx d e =>
  ⟨(ok.empty x d (mem_of_lookup e)).1,(ok.empty x d (mem_of_lookup e)).2,Ip _ _ x d (mem_of_lookup e)⟩
 have part:∀ x d,(cellsFrom (n+1) scope.names cl).lookup x=some d->(cellsFrom (n+1) scope.names []).lookup x=some d\/((cellsFrom (n+1) scope.names []).lookup x=none/\cl.lookup x=some d):=λx d e=>by
  rw [two] at e
  cases q:(cellsFrom (n+1) scope.names []).lookup x with
  | some d'=>rw [q] at e; exact .inl e
  | none=>rw [q] at e; exact .inr ⟨rfl,e⟩
 have has:∀ x,(x,NameKind.cell)∈scope.names->∃ d,(cellsFrom (n+1) scope.names []).lookup x=some d:=λx m=>by
  obtain ⟨d,q⟩:=HN scope.names (n+1) x m
  exact P5 q
 refine ⟨λx d e=>?_,λx e=>?_,λp hp hk=>?_,λx y d e1 e2=>?_,λx d e1 e2=>?_⟩
 .rcases part x d e with q | ⟨_,q⟩
  .exact .inr ⟨(own' x d q).2.1,(own' x d q).1,(own' x d q).2.2⟩
  .exact .inl (iY x d q)
 .obtain ⟨d,q⟩:=kM _ (ZX e) rfl
  have no:(cellsFrom (n+1) scope.names []).lookup x=none:=by
   cases z:(cellsFrom (n+1) scope.names []).lookup x with
   | none=>rfl
   | some d' =>
    have y:=c.cell _ (own' x d' z).2.2 rfl
    rw [show scope.names.lookup x=_ from e] at y
    cases y
  exact ⟨d,by rw [two,no]; exact q,iY x d q⟩
 .rw [two]
  cases z:(cellsFrom (n+1) scope.names []).lookup p.1 with
  | some d'=>exact ⟨d',rfl⟩
  | none =>
   rcases hk with hk | hk
   .obtain ⟨d,q⟩:=has p.1 (by rw [← hk]; exact hp)
    rw [z] at q; cases q
   .exact kM p hp hk
 .rcases part x d e1 with q1 | ⟨_,q1⟩
  .rcases part y d e2 with q2 | ⟨_,q2⟩
   .exact name_of_addr ok.apart (mem_of_lookup q1) (mem_of_lookup q2)
   .exact absurd (aPz (own' x d q1).2.1 (lt y d (iY y d q2))) (aNy _)
  .rcases part y d e2 with q2 | ⟨_,q2⟩
   .exact absurd (aPz (own' y d q2).2.1 (lt x d (iY x d q1))) (aNy _)
   .exact inj x y d (iY x d q1) (iY y d q2)
 .obtain ⟨d',q⟩:=has x (ZX e1)
  rw [two,q] at e2
  cases e2
  exact (own' x d q).2.1
theorem Yn {pins:List (Addr×Obj)} {σ:St} {H:Hp} {s:Shared} {cl:List (Str×Addr)} {fp:List Addr} {h':Heap} {t':Nat} (c:dZ X scope N own js) (I:Inv X pins σ H s) (hf:∀ b∈fp,iZ X pins H b)
  (fo:∀ b∈fp,b<s.heap.objs.size)
  (ci:ou X scope cl s.heap.objs.size h')
  (hn:h'.Ns s.heap.objs.size (λ_=>none)) (hk:∀ b o,s.heap.get? b=some o->h'.get? b=some o) :
  Inv (bK X N scope cl s.heap.objs.size s H fp pins) [] (List.replicate own none++js.map λj=>(σ[j]?).join) H { s with heap:=h',toks:=t' }:=by
 have rD:∀ x c,cl.lookup x=some c->c≠s.heap.objs.size:=λx c e=>by
  rcases ci.k1 x c e with q | ⟨q,_⟩
  .obtain ⟨v,q⟩:=I.cell x c q
   exact a19 q.lt
  .exact aL1 q
 have ok:(bK X N scope cl s.heap.objs.size s H fp pins).Ok:=by
  refine ⟨I.ok.mod,c.kind,I.ok.glob,I.ok.blt,a17 _,ci.k4,λx hx=>?_,λx d z e=>aV2 (ci.k5 x d (aXR.mp (show (scope.names.lookup x == some .cell)=true from z)) e),I.ok.hd,I.ok.frames,.inl rfl,λb hb=>⟨a19 (fo b hb),λx d e=>(ci.k1 x d e).elim (λq=>(hf b hb).2.2.2.2.1 x d q) λq=>aL1 (aPz (fo b hb) q.1)⟩,I.bs,
   awv I.ok.rE I.sz,λb o e hb=>?_,λb hb z=>?_,I.stack,I.kg⟩
  .have back:∀ k,(relabel scope X.env).names.lookup x=some k->k=.cell\/k=.free->∃ k',(x,k')∈scope.names/\(k'=NameKind.cell\/k'=NameKind.free):=λk e hk=>by
    obtain ⟨k',e',z⟩:=Z3 e
    refine ⟨k',ZX e',?_⟩
    rcases z with z | z
    .subst z; exact hk
    .exact .inr z
   obtain ⟨k',m,hk'⟩:∃ k',(x,k')∈scope.names/\(k'=NameKind.cell\/k'=NameKind.free):=by
    rcases hx with hx | hx
    .exact back _ hx (.inl rfl)
    .exact back _ hx (.inr rfl)
   exact ci.k3 _ m hk'
  .rcases (hf b hb).2.2.2.1 with z | z
   .exact I.ok.qd b o e z
   .exact absurd (a7q (a7q (aDe e) I.ok.rE) z) (aNy _)
  .rcases aM6.mp (I.j9 b z) with q | q
   .exact (hf b hb).2.1 q
   .exact (hf b hb).2.2.1 q
 refine ⟨ok,rfl,I.bare,Un.kept hk,⟨_,hn,λi x v e1 e2 e3=>?_⟩,λx d e=>?_,I.hok.fresh (a17 _),λx d e=>(ci.k1 x d e).elim (λq=>I.dD x d q) λq=>I.hok.fresh (aV2 q.1),λp hp=>?_,I.hok.kept hk,?_⟩
 .-- a name with a value is one that the block closes over
  have hi:own<=i:=by
   by_cases hi:i<own
   .rw [aRC (by simpa using hi),ar8] at e2
    split at e2 <;> cases e2
   .lia
  obtain ⟨k,rfl⟩:∃ k,i=own+k:=⟨i - own,by lia⟩
  rw [aUi (by simp),aB7,Nat.add_sub_cancel_left,aC3] at e2
  cases q:js[k]? with
  | none=>rw [q] at e2; cases e2
  | some j =>
   rw [q] at e2
   have qE:(σ[j]?).join=some v:=by simpa using e2
   have e4:σ[j]?=some (some v):=by
    cases z:σ[j]? with
    | none=>rw [z] at qE; cases qE
    | some o=>rw [z] at qE; rw [show o=some v from qE]
   have nZ:N[own+k]?=some x:=e1
   have GJ:X.N[j]?=some x:=(c.js k j q).symm.trans nZ
   have hfr:=c.jf k x nZ
   have hmem:=ZX hfr
   have hk2:=c.free _ hmem rfl
   have vis:BA X.env.scope x:=by
    rcases hk2 with z | z
    .exact .inr (.inl z)
    .exact .inr (.inr z)
   obtain ⟨m,_,hl⟩:=I.loc
   obtain ⟨u,r,l⟩:=hl j x v GJ e4 vis
   refine ⟨u,r,?_⟩
   rcases l with ⟨z,_⟩ | ⟨_,d,e,⟨od,ho,hd⟩⟩
   .rcases hk2 with y | y
    .rw [show X.env.kindOf x=_ from z] at y; cases y
    .rw [show X.env.kindOf x=_ from z] at y; cases y
   .obtain ⟨d',e',z'⟩:=ci.k2 x hfr
    have:d'=d:=by have z:=z'; rw [e] at z; exact (aGB z).symm
    subst this
    refine .inr ⟨?_,d',e',⟨od,hk _ _ ho,hd⟩⟩
    rcases ZcR (scope:=scope) (env:=X.env) hfr with z | ⟨_,z⟩
    .exact .inr z
    .exact .inl z
 .rcases ci.k1 x d e with q | ⟨_,q,_⟩
  .obtain ⟨v,⟨o,ho,hd⟩⟩:=I.cell x d q
   exact ⟨v,o,hk _ _ ho,hd⟩
  .exact ⟨none,q⟩
 .have vO:p∈X.pn++pins:=by
   have z:p∈(X.pn++pins)++[]:=hp
   rwa [arR] at z
  obtain ⟨a1,a2,a3,a4,a5⟩:=I.pin p vO
  refine ⟨hk _ _ a1,a2,a19 (aDe a1),λz=>?_,a5⟩
  rcases aM6.mp (I.j9 p.1 z) with q | q
  .exact a3 q
  .exact a4 q
 .show _=N.length
  rw [c.len]; simp
theorem PM {pins:List (Addr×Obj)} {σ:St} {H:Hp} {s:Shared} {elt target iter:PySem.Expr} {ifs:List PySem.Expr} {pos:Pos} {it:Addr} {fp:List Addr} {tn:Nat->Heap->Prop} {J:It} {cl:List (Str×Addr)} {g:TG} {tc:TT} {te:TE} {E:Value->Shared->Prop} {Q:VK}
  {RR:Value->Addr->Result->Shared->Prop}
  (c:dZ X scope N own js) (hc:X.calm=true) (I:Inv X pins σ H s) (T:Turn X.prog X.w X.K target J fp it tn) (st:tn 0 s.heap) (hf:∀ b∈fp,iZ X pins H b)
  (iY:∀ x c,cl.lookup x=some c->X.env.cells.lookup x=some c) (kM:∀ p∈scope.names,p.2=.free->∃ c,cl.lookup p.1=some c)
  (hg:∀ cl C s0 H0 fp pins,PG (bK X N scope cl C s0 H0 fp pins) target g)
  (ht:∀ cl C s0 H0 fp pins cB s σ H Q,Inv (bK X N scope cl C s0 H0 fp pins) cB σ H s->tc σ H Q->wpAny (model X.prog X.w) X.A (forIn ifs true λc r=>if r=true then do let ok ← isTrue c (compEnvC scope cl C X.env) (eval c (compEnvC scope cl C X.env)); pure (ForInStep.yield ok) else pure (ForInStep.yield r))
   (TP (bK X N scope cl C s0 H0 fp pins) cB σ Q) (λ_ _=>False) s)
  (he:∀ cl C s0 H0 fp pins,PE (bK X N scope cl C s0 H0 fp pins) elt te)
  (h:∀ l,H l=none->∃ W:Nat->Nat->List V->St->Hp->Prop,(∃ m,W 0 m [] (List.replicate own none++js.map λj=>(σ[j]?).join) (upd H l (.lst [])))/\∀ i m ys σ' H',W i m ys σ' H' ->
   (J.stop i H'/\Q (.ref l) H')\/(J.go i H'/\∀ x H2,J.ni i H' x H2->g x σ' H2 λσ2 H3=>tc σ2 H3 λb H4 =>
    if b=true then te σ2 H4 λy H5=>H5 l=some (.lst ys)/\ys.length<sizeLine/\∃ m',m'<m/\W (i+1) m' (ys++[y]) σ2 (upd H5 l (.lst (ys++[y])))
    else ∃ m',m'<m/\W (i+1) m' ys σ2 H4))
  (hRR:∀ l C H' s' m',s.heap.objs.size<=C->s'.heap.Ns C m'->H' C=none->C≠X.env.locals->C∉X.fs->(∀ h2,Heap.SameBut C s'.heap h2->Inv X pins σ H' { s' with heap:=h2 })->Q (.ref l) H'->RR (.ref l) C (.ok .next) s') :
  wpAny (model X.prog X.w) X.A (newList []) (λacc s3=>wpAny (model X.prog X.w) X.A (newFunctionEnv scope X.env.globals cl [] X.env.qual none .none (some X.env)) (λcenv s4 =>
   codeAny (model X.prog X.w) X.A (.compStart (.ListComp elt [⟨target,iter,ifs,0⟩] scope pos) 0 (.ref it) acc { cenv with scope:=relabel scope X.env }) (RR acc cenv.locals) s4) E s3) E s:=by
 have I2:Inv X pins σ (upd H s.heap.objs.size (.lst [])) { s with heap:=s.heap.push { cls:=.type "list",dict:=none,data:=.seq ([]:List Value).toArray },toks:=s.toks }:=I.FP (ys:=[]) .nil (avV _)
 obtain ⟨W,⟨m0,w0⟩,turn⟩:=h s.heap.objs.size I.fresh
 refine aZW (Z2 ?_)
 dsimp only
 generalize hS:({ s with heap:=s.heap.push { cls:=.type "list",dict:=none,data:=.seq ([]:List Value).toArray },toks:=s.toks }:Shared)=s2 at I2
 have e2:s2.heap=s.heap.push { cls:=.type "list",dict:=none,data:=.seq ([]:List Value).toArray }:=by rw [← hS]
 have Lh:s2.heap.objs.size=s.heap.objs.size+1:=by rw [e2,aHg]
 rw [← e2]
 have ci:=Yo (h0:=s2.heap.push { cls:=.type "dict",data:=.dict #[] }) (n:=s2.heap.objs.size) c iY kM I2.ok.inj (λx d e=>by obtain ⟨v,q⟩:=I2.cell x d e; exact q.lt) (aHg ..)
 have uv:(pushCells (s2.heap.push { cls:=.type "dict",data:=.dict #[] }) scope.names).Ns s2.heap.objs.size (λ_=>none):=(Heap.Ns.new s2.heap (.type "dict")).keeps (pushCells_keeps _ _)
 have old:∀ b o,s2.heap.get? b=some o->(pushCells (s2.heap.push { cls:=.type "dict",data:=.dict #[] }) scope.names).get? b=some o:=λb o e=>pushCells_keeps _ _ b o (aL6 _ e)
 generalize pushCells (s2.heap.push { cls:=.type "dict",data:=.dict #[] }) scope.names=h1 at ci uv old ⊢
 generalize hcl:cellsFrom (s2.heap.objs.size+1) scope.names cl=lH at ci ⊢
 have qj:∀ b,b∈fp->b<s.heap.objs.size:=λb hb=>by
  obtain ⟨o,e,_⟩:=T.obj 0 _ st b hb
  exact aDe e
 have hf2:∀ b∈fp,iZ X pins (upd H s.heap.objs.size (.lst [])) b:=λb hb=>⟨by rw [Zc (a19 (qj b hb))]; exact (hf b hb).1,(hf b hb).2⟩
 have vG:∀ b∈fp,b<s2.heap.objs.size:=λb hb=>by rw [Lh]; exact aWL (qj b hb)
 have st2:tn 0 s2.heap:=T.keep 0 _ _ st λb _ o e=>by rw [e2]; exact aL6 _ e
 have I4:=Yn (t':=s.toks) c I2 hf2 vG ci uv old
 have cU:tn 0 h1:=T.keep 0 _ _ st2 λb _ o e=>old b o e
 have es:({ s2 with heap:=h1,toks:=s.toks }:Shared)={ s with heap:=h1,toks:=s.toks }:=by rw [← hS]
 rw [es] at I4
 generalize Tj:({ s with heap:=h1,toks:=s.toks }:Shared)=s4 at I4
 have yT:tn 0 s4.heap:=by rw [← Tj]; exact cU
 have loop:codeAny (model X.prog X.w) X.A (.compLoop (.ListComp elt [⟨target,iter,ifs,0⟩] scope pos) 0 (.ref it) (.ref s.heap.objs.size) (compEnvC scope lH s2.heap.objs.size X.env)) (RR (.ref s.heap.objs.size) s2.heap.objs.size) s4:=by
  refine Yc (λn s'=>∃ i ys σ' H',Inv (bK X N scope lH s2.heap.objs.size s2 (upd H s.heap.objs.size (.lst [])) fp pins) [] σ' H' s'/\tn i s'.heap/\(∀ b∈fp,H' b=none)/\W i n ys σ' H') ?_ m0
   ⟨0,[],_,_,I4,yT,λb hb=>(hf2 b hb).1,w0⟩
  rintro n s5 ⟨i,ys,σ5,H5,I5,rS,C4,w5⟩
  have mC:∀ {H':Hp} {s':Shared} {σ':St},Inv (bK X N scope lH s2.heap.objs.size s2 (upd H s.heap.objs.size (.lst [])) fp pins) [] σ' H' s'->(∀ b∈fp,H' b=none)->∀ b∈fp,iZ (bK X N scope lH s2.heap.objs.size s2 (upd H s.heap.objs.size (.lst [])) fp pins) [] H' b:=λJ' hn b hb =>
   ⟨hn b hb,(J'.ok.C6 b hb).1,J'.ok.qD b hb,.inl hb,(J'.ok.C6 b hb).2,λp hp z=>by
    have vO:p∈X.pn++pins:=by
     have q:p∈(X.pn++pins)++[]:=hp
     rwa [arR] at q
    exact (hf b hb).2.2.2.2.2 p vO z⟩
  rcases turn i n ys σ5 H5 w5 with ⟨stop,q⟩ | ⟨go,step⟩
  .refine acp (T.done (bK X N scope lH s2.heap.objs.size s2 (upd H s.heap.objs.size (.lst [])) fp pins) rfl rfl rfl hc i [] s5 σ5 H5 (λ_ _=>False) I5 (mC I5 C4) rS stop) (λr s6 ⟨hr,I6⟩=>?_) λ_ _ z=>z
   subst hr
   obtain ⟨m',hn',_⟩:=I6.loc
   have hC:s.heap.objs.size<=s2.heap.objs.size:=by rw [Lh]; exact Nat.le_succ _
   refine hRR _ _ H5 s6 m' hC hn' I6.free ?_ ?_ (λh2 sb=>?_) q
   .exact aL1 I2.lt
   .exact I2.zK (a17 _)
   .have u:Un (frs X.stack) fp (upd H s.heap.objs.size (.lst [])) H5 s2.heap h2:=I6.base.but (a17 _) sb.extBut
    have z6:H5 s2.heap.objs.size=none:=I6.free
    have hok:fc X.prog X.w H5 h2:=λb ob e=>(I6.hok b ob e).stay (λd w' hd z=>sb.extBut d w' (by
     rintro rfl
     rcases hd with rfl | hd
     .rw [z6] at e; cases e
     .rw [z6] at hd; cases hd) z) (λ_ z=>z) λ_ _ z=>z
    have J:=I2.AD (s':={ s6 with heap:=h2 }) (ch:=fp) (by show s6.os=s2.os; exact I6.os) u hok I6.bare λb hb=>⟨(hf b hb).2.2.2.1,(hf b hb).2.1,(hf b hb).2.2.2.2.1,(hf b hb).2.2.2.2.2⟩
    exact J
  .refine acp (T.item (bK X N scope lH s2.heap.objs.size s2 (upd H s.heap.objs.size (.lst [])) fp pins) rfl rfl rfl hc i [] s5 σ5 H5 (λ_ _=>False) I5 (mC I5 C4) rS go) (λr s6 ⟨u,hr,h6⟩=>?_) λ_ _ z=>z
   subst hr
   refine acp h6 (λ_ s7 ⟨x,H7,I7,r7,y7,E9,T7⟩=>?_) λ_ _ z=>z
   have I7':=I7.pinned (mC I7 T7) (T.obj _ _ E9)
   refine acp (hg _ _ _ _ _ _ _ s7 σ5 H7 x u _ I7' r7 (step x H7 y7)) (λ_ s8 ⟨σ8,H8,I8,q8⟩=>?_) λ_ _ z=>z
   refine acp (ht _ _ _ _ _ _ _ s8 σ8 H8 _ I8 q8) (λb s9 ⟨H9,I9,q9⟩=>?_) λ_ _ z=>z
   have fin:∀ {s':Shared} {H':Hp} {m':Nat} {ys':List V},Inv (bK X N scope lH s2.heap.objs.size s2 (upd H s.heap.objs.size (.lst [])) fp pins) ([]++AR fp s7.heap) σ8 H' s'->m'<n->W (i+1) m' ys' σ8 H' ->
     ∃ m,m<n/\∃ i ys σ' H',Inv (bK X N scope lH s2.heap.objs.size s2 (upd H s.heap.objs.size (.lst [])) fp pins) [] σ' H' s'/\tn i s'.heap/\(∀ b∈fp,H' b=none)/\W i m ys σ' H':=λ{s' H' m' ys'} J' hm w'=>by
    refine ⟨m',hm,i+1,ys',σ8,H',J'.gI,T.keep _ _ _ E9 λb hb o e=>(J'.pin (b,o) (af2 _ (af2 _ (Ec hb e)))).1,λb hb=>?_,w'⟩
    obtain ⟨o,e,d⟩:=T.obj _ _ E9 b hb
    exact (J'.pin (b,o) (af2 _ (af2 _ (Ec hb e)))).2.1
   cases b with
   | false =>
    rw [aBJ am8] at q9 ⊢
    obtain ⟨m',hm,w'⟩:=q9
    exact fin I9 hm w'
   | true =>
    rw [ajr rfl] at q9 ⊢
    refine acp (he _ _ _ _ _ _ _ s9 σ8 H9 _ I9 q9) (λy vf ⟨z,pF,I10,ua,el,ez,m',hm,w'⟩=>?_) λ_ _ z=>z
    refine acp (wM (X:=bK X N scope lH s2.heap.objs.size s2 (upd H s.heap.objs.size (.lst [])) fp pins) _ vf σ8 pF (.ref s.heap.objs.size) [z] _ [y] (λ_ H'=>H'=upd pF s.heap.objs.size (.lst (ys++[z]))) I10 rfl (.cons ua .nil) ⟨_,_,_,rfl,rfl,el,ez,rfl⟩) (λ_ s11 ⟨_,H11,I11,_,Uo⟩=>?_) λ_ _ z=>z
    subst Uo
    exact fin I11 hm w'
 have fin:codeAny (model X.prog X.w) X.A (.compStart (.ListComp elt [⟨target,iter,ifs,0⟩] scope pos) 0 (.ref it) (.ref s.heap.objs.size) (compEnvC scope lH s2.heap.objs.size X.env)) (RR (.ref s.heap.objs.size) s2.heap.objs.size) s4 :=
  codeAny_compStart_list loop (T.self X.A 0 s4 _ _ yT loop)
 exact fin
theorem O7 {elt target iter:PySem.Expr} {ifs:List PySem.Expr} {pos:Pos} {wi:TI} {g:TG} {tc:TT} {te:TE} (c:dZ X scope N own js) (hc:X.calm=true) (hi:PI X target iter wi)
  (hg:∀ cl C s0 H0 fp pins,PG (bK X N scope cl C s0 H0 fp pins) target g)
  (ht:∀ cl C s0 H0 fp pins cB s σ H Q,Inv (bK X N scope cl C s0 H0 fp pins) cB σ H s->tc σ H Q->wpAny (model X.prog X.w) X.A (forIn ifs true λc r=>if r=true then do let ok ← isTrue c (compEnvC scope cl C X.env) (eval c (compEnvC scope cl C X.env)); pure (ForInStep.yield ok) else pure (ForInStep.yield r))
   (TP (bK X N scope cl C s0 H0 fp pins) cB σ Q) (λ_ _=>False) s)
  (he:∀ cl C s0 H0 fp pins,PE (bK X N scope cl C s0 H0 fp pins) elt te)
  (hs:∀ x,foldedSetIterable iter X.env x=pure x:=by intro _; rfl):PE X (.ListComp elt [⟨target,iter,ifs,0⟩] scope pos) (kU own js wi g tc te):=by
 intro pins s σ H Q I h
 obtain ⟨cl,e1,iY,_,kM⟩:=Bq (env:=X.env) scope.names [] (λp hp hf=>I.ok.has _ (c.free p hp hf)) (λx d e=>by simp at e)
 have hclos:closureFor scope X.env=pure cl:=by
  unfold closureFor
  refine (aOy (λz=>z >>= λcs=>pure cs) e1).trans ?_
  rfl
 rw [eval_ListComp]
 refine wpAny_comprehension_free (use:=none) rfl hs hclos c.kind c.names (acp (hi pins s σ H _ I h) (λx s1 h1=>acp h1 (λitv s2 h2=>?_) λ_ _ e=>e) λ_ _ e=>e)
 obtain ⟨it,fp,tn,J,H2,e,I2,T,st2,f2,q⟩:=h2
 subst e
 refine PM (Q:=Q) (RR:=λacc C=>compPost (model X.prog X.w) X.A X.xe none (EP X pins σ Q) acc C) c hc I2 T st2 f2 iY kM hg ht he q ?_
 intro l C H' s' m' hC hn hf hL hfs hI hq
 exact ⟨m',hn,λh2 sb=>⟨.ref l,H',hI h2 sb,rfl,hq⟩⟩
theorem WO {elt target iter:PySem.Expr} {ifs:List PySem.Expr} {pos pos' spos:Pos} {y:Str} {k:Nat} {wi:TI} {g:TG} {tc:TT} {te:TE} (c:dZ X scope N own js) (hc:X.calm=true) (hN:X.N.Nodup) (hk:X.N[k]?=some y) (hy:X.env.scope.names.lookup y=some .local) (hi:PI X target iter wi)
  (hg:∀ cl C s0 H0 fp pins,PG (bK X N scope cl C s0 H0 fp pins) target g)
  (ht:∀ cl C s0 H0 fp pins cB s σ H Q,Inv (bK X N scope cl C s0 H0 fp pins) cB σ H s->tc σ H Q->wpAny (model X.prog X.w) X.A (forIn ifs true λc r=>if r=true then do let ok ← isTrue c (compEnvC scope cl C X.env) (eval c (compEnvC scope cl C X.env)); pure (ForInStep.yield ok) else pure (ForInStep.yield r))
   (TP (bK X N scope cl C s0 H0 fp pins) cB σ Q) (λ_ _=>False) s)
  (he:∀ cl C s0 H0 fp pins,PE (bK X N scope cl C s0 H0 fp pins) elt te)
  (hs:∀ x,foldedSetIterable iter X.env x=pure x:=by intro _; rfl)
  (hsw:swapsWith (.ListComp elt [⟨target,iter,ifs,0⟩] scope pos) (some (.Name y pos')) spos.line X.env=pure true:=by rfl):PS X (.Assign [.Name y pos'] (.ListComp elt [⟨target,iter,ifs,0⟩] scope pos) spos) (ow (kU own js wi g tc te) (fH k)):=by
 intro pins s σ H D I h
 obtain ⟨cl,e1,iY,_,kM⟩:=Bq (env:=X.env) scope.names [] (λp hp hf=>I.ok.has _ (c.free p hp hf)) (λx d e=>by simp at e)
 have hclos:closureFor scope X.env=pure cl:=by
  unfold closureFor
  refine (aOy (λz=>z >>= λcs=>pure cs) e1).trans ?_
  rfl
 rw [exec_Assign_Name_used _ _ _ _ hsw]
 refine awJ (wpAny_standAt (awJ ?_))
 show wpAny _ X.A (do let _ ← comprehension (.ListComp elt [⟨target,iter,ifs,0⟩] scope pos) scope X.env _ (newList []) false (eval iter X.env) (some (assign (.Name y pos') X.env))) _ _ s
 refine awJ (acp (wpAny_comprehension_free (use:=some (assign (.Name y pos') X.env)) (Q:=λ_ s'=>SP X pins D .next s') rfl hs hclos c.kind c.names
  (acp (hi pins s σ H _ I h) (λxv s1 h1=>acp h1 (λit s2 h2=>?_) λ_ _ e=>e) λ_ _ e=>e)) (λ_ s' hq=>aOf (aOf hq)) λ_ _ e=>e)
 obtain ⟨it,fp,tn,J,H2,e,I2,T,st2,f2,q⟩:=h2
 subst e
 refine PM (Q:=λx H1=>fH k x σ H1 D.nx) (RR:=λacc C=>compPost (model X.prog X.w) X.A X.xe (some (assign (.Name y pos') X.env)) (λ_ s'=>SP X pins D .next s') acc C) c hc I2 T st2 f2 iY kM hg ht he q ?_
 intro l C H' s' m' hC hn hf hL hfs hI hq
 have J0:=hI s'.heap (Heap.SameBut.refl ..)
 show wpAny _ X.A (assign (.Name y pos') X.env (.ref l)) _ _ _
 have J1:Inv X pins σ H' s':=J0
 refine wpAny_assign_Name (Po (v:=.ref l) J1 hN hk (.inl hy) rfl (λs'' Qg jC=>?_) (.inr hy))
 obtain ⟨a,sb,ha⟩:=jC
 have hne:C≠a:=by
  rcases ha with rfl | ha
  .exact hL
  .rintro rfl
   obtain ⟨v,⟨o,ho,hd⟩⟩:=J1.cell y C ha
   obtain ⟨o',es,ep,ho',hd',_⟩:=hn
   rw [ho] at ho'; cases ho'
   rw [hd] at hd'; cases hd'
 refine ⟨m',hn.sameBut sb hne,λh2 xq=>?_⟩
 have hok:fc X.prog X.w H' h2:=λb ob e=>(Qg.hok b ob e).stay (λd w' hd z=>xq.extBut d w' (by
  rintro rfl
  rcases hd with rfl | hd
  .rw [hf] at e; cases e
  .rw [hf] at hd; cases hd) z) (λ_ z=>z) λ_ _ z=>z
 have rD:∀ x d,X.env.cells.lookup x=some d->d≠C:=λx d e z=>by
  subst z
  obtain ⟨v,⟨o,ho,hd⟩⟩:=J1.cell x d e
  obtain ⟨o',es,ep,ho',hd',_⟩:=hn
  rw [ho] at ho'; cases ho'
  rw [hd] at hd'; cases hd'
 have xT:∀ p∈X.pn++pins,p.1≠C:=λp hp z=>by
  have a1:=(I2.pin p hp).1
  exact absurd (a7q (aDe a1) (by rw [z]; exact hC)) (aNy _)
 have fin:Inv X pins (σ.set k (some (.ref l))) H' { s'' with heap:=h2 }:=Qg.turned (t':=s''.toks) (it:=C) (λb o hb e=>xq.extBut b o hb e) hf hL (.inr (awv I2.sz hC)) rD xT
 exact ⟨_,H',fin,hq⟩
theorem wN {elt target iter:PySem.Expr} {pos:Pos} {wi:TI} {g:TG} {te:TE} (c:dZ X scope N own js) (hc:X.calm=true) (hi:PI X target iter wi)
  (hg:∀ cl C s0 H0 fp pins,PG (bK X N scope cl C s0 H0 fp pins) target g) (he:∀ cl C s0 H0 fp pins,PE (bK X N scope cl C s0 H0 fp pins) elt te)
  (hs:∀ x,foldedSetIterable iter X.env x=pure x:=by intro _; rfl):PE X (.ListComp elt [⟨target,iter,[],0⟩] scope pos) (kU own js wi g tQ te) :=
 O7 c hc hi hg (λcl C s0 H0 fp pins cB s σ H Q I h=>wpAny_tests_nil ⟨H,I,h⟩) he hs
theorem WN {elt target iter Lc:PySem.Expr} {pos:Pos} {wi:TI} {g:TG} {tc:TT} {te:TE} (c:dZ X scope N own js) (hc:X.calm=true) (hi:PI X target iter wi)
  (hg:∀ cl C s0 H0 fp pins,PG (bK X N scope cl C s0 H0 fp pins) target g) (ht:∀ cl C s0 H0 fp pins,PT (bK X N scope cl C s0 H0 fp pins) Lc tc) (he:∀ cl C s0 H0 fp pins,PE (bK X N scope cl C s0 H0 fp pins) elt te)
  (hs:∀ x,foldedSetIterable iter X.env x=pure x:=by intro _; rfl):PE X (.ListComp elt [⟨target,iter,[Lc],0⟩] scope pos) (kU own js wi g tc te) :=
 O7 c hc hi hg (λcl C s0 H0 fp pins cB s σ H Q I h=>wpAny_tests_one (ht cl C s0 H0 fp pins cB s σ H Q I h)) he hs
theorem WM {elt target iter:PySem.Expr} {pos pos' spos:Pos} {y:Str} (k:Nat) {wi:TI} {g:TG} {te:TE} (c:dZ X scope N own js) (hc:X.calm=true) (hN:X.N.Nodup) (hk:X.N[k]?=some y) (hy:X.env.scope.names.lookup y=some .local) (hi:PI X target iter wi)
  (hg:∀ cl C s0 H0 fp pins,PG (bK X N scope cl C s0 H0 fp pins) target g) (he:∀ cl C s0 H0 fp pins,PE (bK X N scope cl C s0 H0 fp pins) elt te)
  (hs:∀ x,foldedSetIterable iter X.env x=pure x:=by intro _; rfl)
  (hsw:swapsWith (.ListComp elt [⟨target,iter,[],0⟩] scope pos) (some (.Name y pos')) spos.line X.env=pure true:=by rfl):PS X (.Assign [.Name y pos'] (.ListComp elt [⟨target,iter,[],0⟩] scope pos) spos) (ow (kU own js wi g tQ te) (fH k)) :=
 WO c hc hN hk hy hi hg (λcl C s0 H0 fp pins cB s σ H Q I h=>wpAny_tests_nil ⟨H,I,h⟩) he hs hsw
end
section
variable {X:Cx} {pins:List (Addr×Obj)} {σ:St} {H:Hp} {s:Shared}
theorem fc.zG {P:Program} {w:World} {h h':Heap} {ch:List Addr} (hok:fc P w H h) (hn:∀ b∈ch,H b=none) (k:∀ b o,b∉ch->h.get? b=some o->h'.get? b=some o):fc P w H h':=λb ob e =>
 (hok b ob e).stay (λd u hd z=>k d u (λm=>by
  rcases hd with rfl | hd
  .rw [hn _ m] at e; cases e
  .rw [hn _ m] at hd; cases hd) z) (λ_ z=>z) λ_ _ z=>z
theorem Inv.jc {ch:List Addr} {h':Heap} {t':Nat} (I:Inv X pins σ H s) (hch:∀ b∈ch,iZ X pins H b) (k:∀ b o,b∉ch->s.heap.get? b=some o->h'.get? b=some o) :
  Inv X pins σ H { s with heap:=h',toks:=t' }:=by
 have u:Un (frs X.stack) ch H H s.heap h':=⟨λb o q _ _ hx=>k b o hx q,λb o q _ _ hx=>⟨o.slots,k b o hx q⟩,λ_ _ _ n _=>n,λb o q hx=>⟨o,k b o hx q⟩,λ_ _ q=>q,λ_ _ _ q=>q,λ_ _ _ q=>q⟩
 exact I.call (g':=s.gens) (d':=s.drawn) (t':=t') u (I.hok.zG (λb hb=>(hch b hb).1) k) I.bare λb hb=>⟨(hch b hb).2.2.2.1,(hch b hb).2.1,(hch b hb).2.2.2.2.1,(hch b hb).2.2.2.2.2⟩
theorem Inv.mL {ch:List Addr} {h':Heap} {t':Nat} {o:HO} (I:Inv X pins σ H s) (hch:∀ b∈ch,iZ X pins H b) (k:∀ b o,b∉ch->s.heap.get? b=some o->h'.get? b=some o)
  (new:aI X.prog X.w (upd H s.heap.objs.size o) h' s.heap.objs.size o):Inv X pins σ (upd H s.heap.objs.size o) { s with heap:=h',toks:=t' }:=by
 have fr:H s.heap.objs.size=none:=I.hok.fresh (a17 _)
 have ne:∀ b ob,s.heap.get? b=some ob->b≠s.heap.objs.size:=λb ob e=>a19 (aDe e)
 have nt:∀ b ob,H b=some ob->b≠s.heap.objs.size:=λb ob e=>Ze e fr
 have u:Un (frs X.stack) ch H (upd H s.heap.objs.size o) s.heap h':=⟨λb o q _ _ hx=>k b o hx q,λb o q _ _ hx=>⟨o.slots,k b o hx q⟩,λb ob q n _=>by rw [Zc (ne b ob q)]; exact n,λb o q hx=>⟨o,k b o hx q⟩,
  λb xs q=>by rw [Zc (nt b _ q)]; exact q,λb ob xs q=>by rw [Zc (nt b _ q)]; exact q,λb _ _ q=>by rw [Zc (nt b _ q)]; exact q⟩
 have hok:fc X.prog X.w (upd H s.heap.objs.size o) h':=λb ob e=>by
  by_cases hb:b=s.heap.objs.size
  .subst hb
   rw [Za] at e; cases e
   exact new
  .rw [Zc hb] at e
   refine (I.hok b ob e).stay (λd u hd z=>k d u (λm=>?_) z) (λd z=>by rw [Zc (nt d _ z)]; exact z) (λd xs z=>by rw [Zc (nt d _ z)]; exact z) λd oz z=>by rw [Zc (nt d _ z)]; exact z
   have hn:=(hch d m).1
   rcases hd with rfl | hd
   .rw [hn] at e; cases e
   .rw [hn] at hd; cases hd
 exact I.call (g':=s.gens) (d':=s.drawn) (t':=t') u hok I.bare λb hb=>⟨(hch b hb).2.2.2.1,(hch b hb).2.1,(hch b hb).2.2.2.2.1,(hch b hb).2.2.2.2.2⟩
end
theorem kh {a b:Nat} (h:a<b\/b<a):@Ne Addr a b:=λe=>by
 have e':a=b:=e
 lia
theorem Jf (n l1 l2:Nat) (h1:l1<n) (h2:l2<n):ZipApart (n+4) (n+2) (n+3) n (n+1) l1 l2 :=
 ⟨kh (by lia),kh (by lia),kh (by lia),kh (by lia),kh (by lia),kh (by lia),kh (by lia),kh (by lia),kh (by lia),kh (by lia),kh (by lia),kh (by lia),kh (by lia),kh (by lia),kh (by lia),kh (by lia),kh (by lia),kh (by lia)⟩
def tN (K:W.Frag) (a b:Addr):It :=
 ⟨λi H=>∃ xs ys x y,aF K H a xs/\aF K H b ys/\xs[i]?=some x/\ys[i]?=some y,
 λi H v H'=>∃ t x y,H t=none/\v=.ref t/\H'=upd H t (.tup [x,y])/\(∀ xs,aF K H a xs->xs[i]?=some x)/\∀ ys,aF K H b ys->ys[i]?=some y,
 λi H=>∃ xs ys,aF K H a xs/\aF K H b ys/\(xs.length<=i\/ys.length<=i)⟩
theorem DY {h:Heap} {it l:Addr} {i:Nat} (x:h.IsListIter it l i):∃ o,h.get? it=some o/\∀ v,o.data≠.cell v:=by
 obtain ⟨o,e,c,d⟩:=x
 exact ⟨o,e,λv z=>by rw [d] at z; cases z⟩
theorem O6 {P:Program} {w:World} {K:W.Frag} {elts:List PySem.Expr} {x1} {pos:Pos} (z TI TO i1 i2 a b:Addr) (D:ZipApart z TI TO i1 i2 a b) :
  Turn P w K (.Tuple elts x1 pos) (tN K a b) [z,TI,TO,i1,i2] z (λi h=>IsZip h z TI TO .none/\IsPair h TI (.ref i1) (.ref i2)/\(∃ u v,IsPair h TO u v)/\h.IsListIter i1 a i/\h.IsListIter i2 b i) where
 mem:=by simp
 obj:=λi h st c hc=>by
  obtain ⟨hz,hTI,⟨u,v,hTO⟩,h1,h2⟩:=st
  simp only [aOs,azX,avK] at hc
  rcases hc with rfl | rfl | rfl | rfl | rfl
  .exact ⟨_,hz,λv e=>by cases e⟩
  .exact ⟨_,hTI,λv e=>by cases e⟩
  .exact ⟨_,hTO,λv e=>by cases e⟩
  .exact DY h1
  .exact DY h2
 keep:=λi h h' st k=>by
  obtain ⟨hz,hTI,⟨u,v,hTO⟩,h1,h2⟩:=st
  exact ⟨k z (by simp) _ hz,k TI (by simp) _ hTI,⟨u,v,k TO (by simp) _ hTO⟩,h1.at λo e=>k i1 (by simp) o e,h2.at λo e=>k i2 (by simp) o e⟩
 item:=by
  intro X hP hw hK hc i pins s σ H E I hf st hg
  subst hP hw hK
  obtain ⟨xs,ys,x,y,mQ,mP,hx,hy⟩:=hg
  obtain ⟨hz,hTI,⟨u0,v0,hTO⟩,h1,h2⟩:=st
  obtain ⟨jq,ra,pa,za⟩:=I.list mQ
  obtain ⟨jM,rb,pb,zb⟩:=I.list mP
  obtain ⟨ux,hux,Ff⟩:=ra.get hx
  obtain ⟨uy,Gr,Fe⟩:=rb.get hy
  refine wpAny_pyNext_zip_item D hz hTI hTO h1 h2 pa.isList pb.isList (x:=ux) (y:=uy) (by simpa using hux) (by simpa using Gr) λh' a1 a2 a3 a4 a5 a6 a7=>?_
  refine ⟨.ref s.heap.objs.size,rfl,?_⟩
  refine wpAny_letOwnedTupleGo_zip a1 λh2' hz' hs'=>?_
  have qv:z<s.heap.objs.size:=aDe hz
  have kk:∀ c o,c∉[z,TI,TO,i1,i2]->s.heap.get? c=some o->h2'.get? c=some o:=λc o hc e=>by
   simp only [aOs,azX,avK,not_or] at hc
   exact hs'.extBut c o hc.1 (a7 c o hc.1 hc.2.2.1 hc.2.2.2.1 hc.2.2.2.2 e)
  have tp:h2'.get? s.heap.objs.size=some { cls:=.type "tuple",data:=.seq #[ux,uy] }:=hs'.extBut _ _ (aL1 qv) a5
  have I1:Inv X pins σ (upd H s.heap.objs.size (.tup [x,y])) { s with heap:=h2',toks:=s.toks } :=
   I.mL hf kk ⟨by show 2<=sizeLine; decide,[ux,uy],.cons Ff (.cons Fe .nil),⟨_,tp,rfl,_,rfl⟩⟩
  have KW:h2'.get? TI=s.heap.get? TI:=by
   rw [hTI]
   exact hs'.extBut _ _ D.TIz (a7 _ _ D.TIz D.TITO D.TIi1 D.TIi2 hTI)
  refine ⟨.ref s.heap.objs.size,_,I1,rfl,⟨s.heap.objs.size,x,y,I.hok.fresh (a17 _),rfl,rfl,λxs' h=>by rw [I.gV h mQ]; exact hx,λys' h=>by rw [I.gV h mP]; exact hy⟩,⟨hz',?_,⟨ux,uy,hs'.extBut _ _ D.TOz a2⟩,a3.at λo e=>hs'.extBut _ o D.i1z e,a4.at λo e=>hs'.extBut _ o D.i2z e⟩,λc hc=>?_⟩
  .show h2'.get? TI=_
   rw [KW]; exact hTI
  .have hc':=hc
   have hlt:c<s.heap.objs.size:=by
    simp only [aOs,azX,avK] at hc'
    rcases hc' with rfl | rfl | rfl | rfl | rfl
    .exact qv
    .exact aDe hTI
    .exact aDe hTO
    .obtain ⟨o,e,_⟩:=DY h1; exact aDe e
    .obtain ⟨o,e,_⟩:=DY h2; exact aDe e
   rw [Zc (a19 hlt)]
   exact (hf c hc).1
 done:=by
  intro X hP hw hK hc i pins s σ H E I hf st hg
  subst hP hw hK
  obtain ⟨xs,ys,mQ,mP,hend⟩:=hg
  obtain ⟨hz,hTI,⟨u0,v0,hTO⟩,h1,h2⟩:=st
  obtain ⟨jq,ra,pa,za⟩:=I.list mQ
  obtain ⟨jM,rb,pb,zb⟩:=I.list mP
  have la:=ra.length
  have lb:=rb.length
  refine wpAny_pyNext_zip_end (I.ok.hd hc) D hz hTI hTO h1 h2 pa.isList pb.isList ?_ λh' hk=>⟨rfl,?_⟩
  .rcases hend with q | q
   .exact .inl (by simp; lia)
   .exact .inr (by simp; lia)
  .refine I.jc (t':=s.toks) hf λc o hc e=>?_
   simp only [aOs,azX,avK,not_or] at hc
   exact hk c o hc.1 hc.2.2.1 hc.2.2.2.1 hc.2.2.2.2 e
 self:=λ_ _ _ _ _ st h=>ak8 st.1 h
def Gk (K:W.Frag) (ta:TA):TI:=λσ H R=>ta σ H λvs H1=>∃ a b,vs=[.ref a,.ref b]/\(∃ xs,aF K H1 a xs)/\(∃ ys,aF K H1 b ys)/\R (tN K a b) H1
section
variable {X:Cx}
theorem O4:bootBuiltins "zip" = some (.type "zip"):=by first | rfl | decide +kernel | kernel_rfl
theorem Zfl:bootBuiltins "enumerate" = some (.type "enumerate"):=by first | rfl | decide +kernel | kernel_rfl
theorem VR {elts:List PySem.Expr} {x1} {tpos:Pos} {a b:PySem.Expr} {ta:TA} {p pos:Pos} (hg:Gl X "zip") (hm:X.mg "zip" = none) (ha:PA X [a,b] ta) (hs:starEach [a,b] X.env=[(false,eval a X.env),(false,eval b X.env)]:=by rfl) (hs2:starEach [b] X.env=[(false,eval b X.env)]:=by rfl) :
  PI X (.Tuple elts x1 tpos) (.Call (.Name "zip" p) [a,b] [] pos) (Gk X.K ta):=by
 intro pins s σ H R I h
 refine Call_ (pB I hg hm O4 (a7f (aJ (ha pos pins s σ H _ I h) λus s1 ⟨vs,H1,I1,r1,q1⟩=>?_) (by rw [hs,hs2]) (by rw [hs2]; rfl)))
 obtain ⟨l1,l2,e,⟨xs,mQ⟩,⟨ys,mP⟩,q⟩:=q1
 subst e
 obtain ⟨v1,v2,rfl,r,r'⟩:=vals2 r1
 cases r
 cases r'
 obtain ⟨jq,ra,pa,za⟩:=I1.list mQ
 obtain ⟨jM,rb,pb,zb⟩:=I1.list mP
 have qj:l1<s1.heap.objs.size:=by obtain ⟨o,e,_⟩:=pa.isList; exact aDe e
 have vG:l2<s1.heap.objs.size:=by obtain ⟨o,e,_⟩:=pb.isList; exact aDe e
 refine call_zip_2 pa.isList pb.isList λh' g5 g3 g4 g1 g2 hsz kp=>ak8 g5 ?_
 refine ⟨_,[_,_,_,_,_],_,_,H1,rfl,I1.kept (t':=s1.toks) kp,O6 _ _ _ _ _ l1 l2 (Jf s1.heap.objs.size l1 l2 qj vG),⟨g5,g3,⟨_,_,g4⟩,g1,g2⟩,λc hc=>?_,q⟩
 have hc':s1.heap.objs.size<=c:=by
  simp only [aOs,azX,avK] at hc
  rcases hc with rfl | rfl | rfl | rfl | rfl <;> first | exact a17 _ | exact Nat.le_add_right _ _
 exact I1.lD hc' (I1.hok.fresh hc')
def BI (K:W.Frag) (a:Addr):It :=
 ⟨λi H=>∃ xs x,aF K H a xs/\xs[i]?=some x,
 λi H v H'=>∃ t x,H t=none/\v=.ref t/\H'=upd H t (.tup [.int i,x])/\∀ xs,aF K H a xs->xs[i]?=some x,
 λi H=>∃ xs,aF K H a xs/\xs.length=i⟩
theorem Yb {P:Program} {w:World} {K:W.Frag} {elts:List PySem.Expr} {x1} {pos:Pos} (e it a:Addr) (hei:e≠it) (TX:a≠e) (hai:a≠it) :
  Turn P w K (.Tuple elts x1 pos) (BI K a) [e,it] e (λi h=>(∃ old,IsEnum h e it i old)/\h.IsListIter it a i) where
 mem:=by simp
 obj:=λi h st c hc=>by
  obtain ⟨⟨old,he⟩,h1⟩:=st
  simp only [aOs,azX,avK] at hc
  rcases hc with rfl | rfl
  .exact ⟨_,he,λv z=>by cases z⟩
  .obtain ⟨o,q,c,d⟩:=h1; exact ⟨o,q,λv z=>by rw [d] at z; cases z⟩
 keep:=λi h h' st k=>by
  obtain ⟨⟨old,he⟩,h1⟩:=st
  exact ⟨⟨old,k e (by simp) _ he⟩,h1.at λo q=>k it (by simp) o q⟩
 item:=by
  intro X hP hw hK hc i pins s σ H E I hf st hg
  subst hP hw hK
  obtain ⟨xs,x,hq,hx⟩:=hg
  obtain ⟨⟨old,he⟩,h1⟩:=st
  obtain ⟨its,rv,p,hz⟩:=I.list hq
  obtain ⟨u,hu,ru⟩:=rv.get hx
  have hlt:i<its.toArray.size:=by
   have:=(a7Y.mp hu).1
   simpa using this
  refine wpAny_pyNext_enum_itemD (Draws.list (A:=X.A.in1) (show X.A.in1.handled=none from I.ok.hd hc) it a hai its.toArray) he ⟨h1,p.isList⟩ hlt hei (by simp [hei,aFS TX]) λv h' tk hP ho hs' hT hsz hk=>?_
  have vW:v=u:=by
   have z:its[i]?=some v:=by simpa using hP
   rw [hu] at z; exact (aGB z).symm
  subst vW
  refine ⟨.ref s.heap.objs.size,rfl,?_⟩
  refine wpAny_letOwnedTupleGo_enum ho λh2 TJ xq=>?_
  have helt:e<s.heap.objs.size:=aDe he
  have kk:∀ c o,c∉[e,it]->s.heap.get? c=some o->h2.get? c=some o:=λc o hc q=>by
   simp only [aOs,azX,avK,not_or] at hc
   exact (xq.2 c hc.1).trans (hk c o hc.1 hc.2 q)
  have tp:h2.get? s.heap.objs.size=some { cls:=.type "tuple",data:=.seq #[.int i tk,v] }:=(xq.2 _ (aL1 helt)).trans hT
  have I1:Inv X pins σ (upd H s.heap.objs.size (.tup [.int i,x])) { s with heap:=h2,toks:=tk+1 } :=
   I.mL hf kk ⟨by show 2<=sizeLine; decide,[.int i tk,v],.cons ⟨tk,rfl⟩ (.cons ru .nil),⟨_,tp,rfl,_,rfl⟩⟩
  refine ⟨.ref s.heap.objs.size,_,I1,rfl,⟨s.heap.objs.size,x,I.hok.fresh (a17 _),rfl,rfl,λys hy=>by rw [I.gV hy hq]; exact hx⟩,⟨⟨v,by simpa using TJ⟩,hs'.1.at λo q=>(xq.2 _ (aFS hei)).trans q⟩,λc hc=>?_⟩
  have hlt':c<s.heap.objs.size:=by
   simp only [aOs,azX,avK] at hc
   rcases hc with rfl | rfl
   .exact helt
   .obtain ⟨o,q,_⟩:=h1; exact aDe q
  rw [Zc (a19 hlt')]
  exact (hf c hc).1
 done:=by
  intro X hP hw hK hc i pins s σ H E I hf st hg
  subst hP hw hK
  obtain ⟨xs,hq,hx⟩:=hg
  obtain ⟨⟨old,he⟩,h1⟩:=st
  obtain ⟨its,rv,p,hz⟩:=I.list hq
  have hl:=rv.length
  have ei:i=its.toArray.size:=by simp; lia
  subst ei
  refine wpAny_pyNext_enum_endD (Draws.list (A:=X.A.in1) (show X.A.in1.handled=none from I.ok.hd hc) it a hai its.toArray) he ⟨h1,p.isList⟩ λh' hx'=>⟨rfl,?_⟩
  refine I.jc (t':=s.toks) hf λc o hc q=>?_
  simp only [aOs,azX,avK,not_or] at hc
  exact hx' c o hc.2 q
 self:=λ_ _ _ _ _ st h=>by
  obtain ⟨⟨old,he⟩,_⟩:=st
  exact wpAny_pyIter_enum he h
def Ag (K:W.Frag) (ta:TA):TI:=λσ H R=>ta σ H λvs H1=>∃ a,vs=[.ref a]/\(∃ xs,aF K H1 a xs)/\R (BI K a) H1
theorem N8 {elts:List PySem.Expr} {x1} {tpos:Pos} {a:PySem.Expr} {ta:TA} {p pos:Pos} (hg:Gl X "enumerate") (hm:X.mg "enumerate" = none) (ha:PA X [a] ta) (hs:starEach [a] X.env=[(false,eval a X.env)]:=by rfl) :
  PI X (.Tuple elts x1 tpos) (.Call (.Name "enumerate" p) [a] [] pos) (Ag X.K ta):=by
 intro pins s σ H R I h
 refine Call_ (pB I hg hm Zfl (a7f (aJ (ha pos pins s σ H _ I h) λus s1 ⟨vs,H1,I1,r1,q1⟩=>?_) hs rfl))
 obtain ⟨l,e,⟨xs,hq⟩,q⟩:=q1
 subst e
 cases r1 with
 | cons r rr =>
  cases rr
  cases r
  obtain ⟨its,rv,pl,hz⟩:=I1.list hq
  have qj:l<s1.heap.objs.size:=by obtain ⟨o,e,_⟩:=pl.isList; exact aDe e
  refine call_enumerate_list pl.isList λh' he hi hsz hk=>?_
  refine wpAny_pyIter_enum he ?_
  refine ⟨s1.heap.objs.size+1,[s1.heap.objs.size+1,s1.heap.objs.size],_,_,H1,rfl,I1.kept (t':=s1.toks) hk,Yb (s1.heap.objs.size+1) s1.heap.objs.size l (Nat.succ_ne_self _) (kh (.inl (aWL qj))) (a19 qj),⟨⟨_,he⟩,hi⟩,λc hc=>?_,q⟩
  have hc':s1.heap.objs.size<=c:=by
   simp only [aOs,azX,avK] at hc
   rcases hc with rfl | rfl <;> lia
  exact I1.lD hc' (I1.hok.fresh hc')
end
def qZ (H:Hp):V->Option String
 | .aR=>some "NoneType"
 | .bl _=>some "bool"
 | .int _=>some "int"
 | .str _=>some "str"
 | .ref a=>match H a with
  | some (.lst _)=>some "list"
  | some (.cS _ (.lst _))=>some "list"
  | some (.tup _)=>some "tuple"
  | some (.dK _)=>some "dict"
  | some (.dT _)=>some "dict"
  | _=>none
 | _=>none
theorem Np {K:W.Frag} {H:Hp} {x:V} {t:String} (h:qZ H x=some t):iA K H x (.type t):=by
 cases x with
 | aR=>cases h; exact .aR
 | bl b=>cases h; exact .bl b
 | int i=>cases h; exact .int i
 | str z=>cases h; exact .str z
 | ref a =>
  simp only [qZ] at h
  split at h
  .rename_i e; cases h; exact .lst e
  .rename_i e; cases h; exact .cS e
  .rename_i e; cases h; exact .tup e
  .rename_i e; cases h; exact .dK e
  .rename_i e; cases h; exact .dT e
  .cases h
 | _=>cases h
def je (t c:String):Bool:=t == c || (t == "bool" && c == "int")
def DA:List String:=["NoneType", "bool", "int", "str", "list", "tuple", "dict"]
def wz:List String:=["bool", "int", "str", "list", "tuple", "dict"]
theorem Je (K:W.Frag):∀ t∈DA,∀ c∈wz,W.kitOne K (.type t) (.type c)=some (je t c):=by
 intro t ht c hc
 simp only [DA,aOs,azX,avK] at ht
 simp only [wz,aOs,azX,avK] at hc
 rcases ht with rfl | rfl | rfl | rfl | rfl | rfl | rfl <;> rcases hc with rfl | rfl | rfl | rfl | rfl | rfl <;> rfl
theorem PD {H:Hp} {x:V} {t:String} (h:qZ H x=some t):t∈DA:=by
 cases x with
 | aR=>cases h; decide
 | bl b=>cases h; decide
 | int i=>cases h; decide
 | str z=>cases h; decide
 | ref a =>
  simp only [qZ] at h
  split at h <;> first | (cases h; decide) | cases h
 | _=>cases h
section
variable {X:Cx}
def Fi:List V->Hp->VK->Prop:=λxs H Q=>∃ x t c,xs=[x,.ty c]/\qZ H x=some t/\c∈wz/\Q (.bl (je t c)) H
theorem uW:bH X (.builtin "isinstance") Fi:=by
 intro pins s σ H xs us Q I r h
 obtain ⟨x,t,c,rfl,ht,hc,q⟩:=h
 obtain ⟨u,w',rfl,rx,rc⟩:=vals2 r
 cases rc
 exact XA I rx (Np ht) (Je X.K t (PD ht) c hc) λtk=>⟨.bl _,H,I.tok tk,rfl,q⟩
def zk:List V->Hp->VK->Prop:=λxs H Q=>∃ x t c d p,xs=[x,.ref p]/\H p=some (.tup [.ty c,.ty d])/\qZ H x=some t/\c∈wz/\d∈wz/\Q (.bl (je t c || je t d)) H
theorem WL (K:W.Frag) {t c d:String} (ht:t∈DA) (hc:c∈wz) (hd:d∈wz):W.kitAny K (.type t) [.type c,.type d]=some (je t c || je t d):=by
 unfold W.kitAny
 rw [Je K t ht c hc]
 cases je t c with
 | true=>rfl
 | false =>
  show W.kitAny K (.type t) [.type d]=some (je t d)
  unfold W.kitAny
  rw [Je K t ht d hd]
  cases je t d <;> rfl
theorem PB:bH X (.builtin "isinstance") zk:=by
 intro pins s σ H xs us Q I r h
 obtain ⟨x,t,c,d,p,rfl,hp,ht,hc,hd,q⟩:=h
 obtain ⟨u,w',rfl,rx,rc⟩:=vals2 r
 cases rc
 obtain ⟨_,its,rv,⟨o,ho,hcl,n,hdt⟩⟩:=(show aI X.prog X.w H s.heap p (.tup [.ty c,.ty d]) from I.hok p _ hp)
 obtain ⟨u1,u2,rfl,r1,r2⟩:=vals2 rv
 cases r1
 cases r2
 have e:=WL X.K (PD ht) hc hd
 have fin:∀ tk,EP X pins σ Q (.bool (je t c || je t d)) { s with toks:=tk }:=λtk=>⟨.bl _,H,I.tok tk,rfl,q⟩
 have htp:s.heap.get? p=some ⟨.type "tuple",o.dict,.seq [Value.type c,Value.type d].toArray n,o.slots⟩:=by
  rw [ho]
  obtain ⟨oc,od,odt,osl⟩:=o
  cases hcl; cases hdt
  rfl
 have ty:=Np (K:=X.K) ht
 generalize hT:Value.type t=T at ty e
 cases ty with
 | aR=>cases (show u=Value.none from rx); exact aqS W.kitx_none I.dW True.intro htp e (λz=>nomatch z) fin
 | bl y=>cases (show u=Value.bool y from rx); exact aqS W.kitx_bool I.dW True.intro htp e (λz=>nomatch z) fin
 | int i=>obtain ⟨t,q⟩:=(show ∃ t,u=Value.int i t from rx); cases q; exact aqS W.kitx_int I.dW True.intro htp e (λz=>nomatch z) fin
 | str y=>obtain ⟨t,q⟩:=(show ∃ t,u=Value.str y t from rx); cases q; exact aqS W.kitx_str I.dW True.intro htp e (λz=>nomatch z) fin
 | sO y=>obtain ⟨t,q⟩:=(show ∃ t,u=Value.float y t from rx); cases q; exact aqS W.kitx_float I.dW True.intro htp e (λz=>nomatch z) fin
 | @lst a xs ea =>
  cases (show u=Value.ref a from rx)
  obtain ⟨_,_,n,_,h1⟩:=(show aI X.prog X.w H s.heap a (.lst xs) from I.hok a _ ea)
  exact aqS W.kitx_list I.dW ⟨_,h1,rfl⟩ htp e (λz=>nomatch z) fin
 | @cS a ob xs ea =>
  cases (show u=Value.ref a from rx)
  obtain ⟨_,_,_,n,_,h1⟩:=(show aI X.prog X.w H s.heap a (.cS ob (.lst xs)) from I.hok a _ ea)
  exact aqS W.kitx_list I.dW ⟨_,h1,rfl⟩ htp e (λz=>nomatch z) fin
 | @tup a xs ea =>
  cases (show u=Value.ref a from rx)
  obtain ⟨_,_,_,p⟩:=(show aI X.prog X.w H s.heap a (.tup xs) from I.hok a _ ea)
  obtain ⟨o,h1,h2,_⟩:=p
  exact aqS W.kitx_tuple I.dW ⟨o,h1,h2⟩ htp e (λz=>nomatch z) fin
 | @dK a kvs ea =>
  cases (show u=Value.ref a from rx)
  obtain ⟨_,_,vs,_,p⟩:=(show aI X.prog X.w H s.heap a (.dK kvs) from I.hok a _ ea)
  obtain ⟨o,es,ep,h1,h2,_⟩:=p
  exact aqS W.kitx_dict I.dW ⟨o,h1,h2.1⟩ htp e (λz=>nomatch z) fin
 | @dT a kvs ea =>
  cases (show u=Value.ref a from rx)
  obtain ⟨_,_,xs,_,o,es,ep,h1,h2,_⟩:=(show aI X.prog X.w H s.heap a (.dT kvs) from I.hok a _ ea)
  exact aqS W.kitx_dict I.dW ⟨o,h1,h2.1⟩ htp e (λz=>nomatch z) fin
 | ins e'=>cases hT
theorem rJ:bootBuiltins "isinstance" = some (.builtin "isinstance"):=by first | rfl | decide +kernel | kernel_rfl
theorem IV:bootBuiltins "all" = some (.builtin "all"):=by first | rfl | decide +kernel | kernel_rfl
theorem O3:bootBuiltins "max" = some (.builtin "max"):=by first | rfl | decide +kernel | kernel_rfl
theorem WK:bootBuiltins "min" = some (.builtin "min"):=by first | rfl | decide +kernel | kernel_rfl
theorem O0:bootBuiltins "abs" = some (.builtin "abs"):=by first | rfl | decide +kernel | kernel_rfl
theorem YU:bootBuiltins "divmod" = some (.builtin "divmod"):=by first | rfl | decide +kernel | kernel_rfl
theorem D5:bootBuiltins "int" = some (.type "int"):=by first | rfl | decide +kernel | kernel_rfl
theorem PL:bootBuiltins "bool" = some (.type "bool"):=by first | rfl | decide +kernel | kernel_rfl
theorem Jd:bootBuiltins "str" = some (.type "str"):=by first | rfl | decide +kernel | kernel_rfl
theorem ZY:bootBuiltins "list" = some (.type "list"):=by first | rfl | decide +kernel | kernel_rfl
theorem JX:bootBuiltins "tuple" = some (.type "tuple"):=by first | rfl | decide +kernel | kernel_rfl
theorem Pz:∀ {bs:List Bool} {its:List Value},Vals (bs.map V.bl) its->its=bs.map Value.bool
 | [],_,.nil=>rfl
 | b :: bs,_,.cons r t=>by rw [Pz t]; cases r; rfl
theorem Ym {bs:List Bool} (f:Nat->Bool) (hf:∀ i b,bs[i]?=some b->f i=b):(List.range bs.length).map f=bs:=by
 apply aTT
 intro i
 rw [aC3]
 by_cases h:i<bs.length
 .rw [aA5 h,adk h]
  simp only [a2j]
  rw [hf i _ (adk h)]
 .rw [awj (by simpa using h),awj (by lia)]; rfl
theorem Jc (hc:X.calm=true):bH X (.builtin "all") (λxs H Q=>∃ (p:Addr) (bs:List Bool),xs=[.ref p]/\aF X.K H p (bs.map V.bl)/\Q (.bl (bs.all id)) H):=by
 intro pins s σ H xs us Q I r h
 obtain ⟨p,bs,rfl,hq,q⟩:=h
 obtain ⟨u,rfl,rx⟩:=vals1 r
 cases rx
 obtain ⟨its,rv,pl,hz⟩:=I.list hq
 have e:=Pz rv
 subst e
 refine call_all_walk (wpAny_pyIter_list pl.isList ?_)
 refine ⟨s.heap.objs.size,_,[s.heap.objs.size],_,_,_,λi=>bs.getD i true,rfl,Walks.list (A:=X.A.in1) (show X.A.in1.handled=none from I.ok.hd hc) s.heap.objs.size p ?_ (bs.map Value.bool).toArray,⟨⟨_,aWh _ rfl,rfl,rfl⟩,pl.isList.at λo e=>aL6 _ e⟩,?_,?_⟩
 .obtain ⟨o,e,_⟩:=pl.isList; exact a19 (aDe e)
 .intro i v s' Q' E' hP hQ
  have vW:(bs.map Value.bool)[i]?=some v:=by simpa using hP
  rw [aC3] at vW
  cases z:bs[i]? with
  | none=>rw [z] at vW; cases vW
  | some b =>
   rw [z] at vW
   cases vW
   have:bs.getD i true=b:=by rw [aXu,z]; rfl
   have Mh:Q' (bs.getD i true) s':=hQ
   rw [this] at Mh
   exact asR Mh
 .intro h' tk hk
  refine ⟨.bl (bs.all id),H,I.kept (t':=tk) (λb o e=>hk b o (by simpa using a19 (aDe e)) (aL6 _ e)),?_,q⟩
  have z:(List.range bs.length).map (λi=>bs.getD i true)=bs:=Ym _ λi b e=>by rw [aXu,e]; rfl
  have z2:(List.range bs.length).all (λi=>bs.getD i true)=bs.all id:=by
   conv=>rhs; rw [← z]
   rw [List.all_map]; rfl
  show Value.bool _=Value.bool _
  have z3:(bs.map Value.bool).toArray.size=bs.length:=by simp
  rw [z3,z2]
theorem VQ (lo:Int) (n:Nat):∀ {acc:Array Value},ItemsOf (λi v=>∃ t,v=.int (lo+i * 1) t) acc n->Vals ((List.range n).map λi=>V.int (lo+(i:Nat))) acc.toList:=by
 intro acc h
 obtain ⟨hs,hi⟩:=h
 have gen:∀ (l:List Value) (k:Nat) (xs:List V),xs.length=l.length->(∀ (j:Nat) (v:Value) (x:V),l[j]?=some v->xs[j]?=some x->RelV x v)->Vals xs l:=by
  intro l
  induction l with
  | nil=>intro k xs hl _; cases xs with | nil=>exact .nil | cons _ _=>simp at hl
  | cons u l ih =>
   intro k xs hl hr
   cases xs with
   | nil=>simp at hl
   | cons x xs=>exact .cons (hr 0 u x rfl rfl) (ih k xs (by simpa using hl) λj v y e1 e2=>hr (j+1) v y (by simpa using e1) (by simpa using e2))
 refine gen _ 0 _ (by simp [hs]) λj v x e1 e2=>?_
 have nZ:acc[j]?=some v:=by simpa using e1
 obtain ⟨t,rfl⟩:=hi j v nZ
 have hj:j<n:=by rw [← hs]; exact (Array.getElem?_eq_some_iff.mp nZ).1
 rw [aC3,aA5 hj] at e2
 cases e2
 exact ⟨t,by simp⟩
def Yl (ta:TA):TE:=λσ H Q=>ta σ H λvs H1=>∃ i j:Int,vs=[.int i,.int j]/\(-(2 ^ 62)<=i/\i<2 ^ 62 /\ -(2 ^ 62)<=j/\j<2 ^ 62)/\(j - i).toNat<=sizeLine /\
 ∀ p,H1 p=none->Q (.ref p) (upd H1 p (.lst ((List.range (j - i).toNat).map λk=>V.int (i+(k:Nat)))))
theorem Z1 {a b:PySem.Expr} {ta:TA} {p q pos pos2:Pos} (hc:X.calm=true) (TF:Gl X "list") (hm1:X.mg "list" = none) (hg:Gl X "range") (hm:X.mg "range" = none) (ha:PA X [a,b] ta)
  (hs:starEach [a,b] X.env=[(false,eval a X.env),(false,eval b X.env)]:=by rfl) (hs2:starEach [b] X.env=[(false,eval b X.env)]:=by rfl)
  (CT:starEach [PySem.Expr.Call (.Name "range" p) [a,b] [] pos] X.env=[(false,eval (PySem.Expr.Call (.Name "range" p) [a,b] [] pos) X.env)]:=by rfl) :
  PE X (.Call (.Name "list" q) [.Call (.Name "range" p) [a,b] [] pos] [] pos2) (Yl ta):=by
 intro pins s σ H Q I h
 refine Call_ (pB I TF hm1 ZY (a7f (Q:=EP X pins σ Q) ?_ CT rfl))
 rw [CT]
 refine a5K (Call_ (pB I hg hm boot_range (a7f (aJ (ha pos pins s σ H _ I h) λus s1 ⟨vs,H1,I1,r1,q1⟩=>?_) (by rw [hs,hs2]) (by rw [hs2]; rfl))))
 obtain ⟨i,j,e,⟨q1,q2,q3,q4⟩,hz,q⟩:=q1
 subst e
 cases r1 with
 | cons r rr =>
  cases rr with
  | cons r' rr =>
   cases rr
   obtain ⟨t,rfl⟩:=r
   obtain ⟨t',rfl⟩:=r'
   refine call_range_2 (anp ?_)
   have I2:Inv X pins σ H1 { s1 with heap:=s1.heap.push { cls:=.type "range",data:=.fields #[.int i t,.int j t',.int 1 s1.toks] },toks:=s1.toks+1 }:=I1.kept λb o e=>aL6 _ e
   have hsz:sizeLine=16777216:=bav
   refine call_list_range (n:=(j - i).toNat) (I.ok.hd hc) (IsRange.new ..) (small_one q1 q2 q3 q4) (by rw [rangeSize_one]; split <;> lia) (by lia) λh' tk acc' c' hk hS hit=>?_
   refine ⟨.ref _,_,I2.laid (o:=.lst ((List.range (j - i).toNat).map λk=>V.int (i+(k:Nat)))) hk (a17 _) ⟨by simpa using hz,acc'.toList,c',VQ i _ hit,by simpa using hS⟩,rfl,q _ (I2.hok.fresh (a17 _))⟩
end
structure Def (P:Program) (w:World) (K:W.Frag) (mg:Str->Option Value) (base:Heap) (x:Str) (k:Nat) (ps:List Str) (sp:Sp):Prop where
 ex:∃ (f:Addr) (fd:FuncData),au P w K mg base aW k f fd ps sp/\mg x=some (.ref f)/\W.keepIn K (.ref f)=true/\Binds K fd ps []
section
variable {X:Cx} {x:Str} {p pos:Pos} {e:PySem.Expr} {es:List PySem.Expr} {t:TA} {k:Nat} {ps:List Str} {sp:Sp}
theorem VP (D:Def X.prog X.w X.K X.mg X.base x k ps sp) (hr:br k X.A) (hg:Gl X x) (ha:PA X (e :: es) t)
  (he:starEach (e :: es) X.env=(false,eval e X.env) :: starEach es X.env:=by rfl) (hpl:(backTo pos (starEach es X.env)).any (·.1)=false:=by rfl) (hd:(x == ("__debug__" : Str))=false:=by decide) :
  PE X (.Call (.Name x p) (e :: es) [] pos) (nv sp [] E0 t):=by
 obtain ⟨f,fd,F,hm,hk,hb⟩:=D.ex
 exact Ws F hr hg hm hk hb .nil nT ha (hdb:=hd) (he:=he) (hpl:=hpl)
end
theorem ZV {X:Cx} {K:W.Frag} {es:List PySem.Expr} {k:Nat} {t:uY} {n:Nat} {pos:Pos} (hK:X.K=K) (hc:X.calm=true) (h:BD X es t)
  (hn:(assignEach es X.env).length=n:=by rfl) (hst:(assignEach es X.env).findIdx? (·.1)=none:=by rfl):PG X (.Tuple es k pos) (As K n t):=by
 subst hK
 exact V0 hc h hn hst
def uK (jJ:Scope) (oN:List Str) (scope:Scope) (N:List Str) (own:Nat) (js:List Nat):Bool :=
 scope.kind == .function && scope.names.all (λy=>y.2 != .cell || scope.names.lookup y.1 == some .cell) && scope.names.all (λy=>y.2 != .local || scope.names.lookup y.1 == some .local) &&
 scope.names.all (λy=>y.2 != .free || (jJ.names.lookup y.1 == some .cell || jJ.names.lookup y.1 == some .free)) && N.length == own+js.length &&
 (js.map λj=>oN[j]?) == (N.drop own).map some && (N.drop own).all λx=>scope.names.lookup x == some .free
theorem tE {X:Cx} {jJ:Scope} {oN:List Str} {scope:Scope} {N:List Str} {own:Nat} {js:List Nat} (h:uK jJ oN scope N own js=true) (hs:X.env.scope=jJ) (hN:X.N=oN):dZ X scope N own js:=by
 unfold uK at h
 simp only [aAw,aaC,Bool.or_eq_true,aXR,bne_iff_ne,ne_eq] at h
 obtain ⟨⟨⟨⟨⟨⟨h1,h2⟩,h3⟩,h4⟩,h5⟩,h6⟩,h7⟩:=h
 refine ⟨h1,λy hy hl=>?_,λy hy hl=>?_,λy hy hf=>?_,h5,λk j e=>?_,λk x e=>?_⟩
 .rcases h2 y hy with q | q
  .exact absurd hl q
  .exact q
 .rcases h3 y hy with q | q
  .exact absurd hl q
  .exact q
 .rcases h4 y hy with q | q
  .exact absurd hf q
  .show X.env.scope.names.lookup y.1=_\/X.env.scope.names.lookup y.1=_
   rw [hs]; exact q
 .rw [hN]
  have z:=aOy (λl=>l[k]?) h6
  simp only [aC3,e,a2j,getElem?_drop] at z
  cases q:N[own+k]? with
  | none=>rw [q] at z; cases z
  | some y=>rw [q] at z; exact (aGB z).symm
 .refine h7 x ?_
  exact a7T (i:=k) (by rw [getElem?_drop]; exact e)
def SB (b:Addr) (H H':Hp):Prop:=∀ a o,a≠b->H a=some o->H' a=some o
theorem SB.trans {b:Addr} {H H1 H2:Hp} (x:SB b H H1) (y:SB b H1 H2):SB b H H2:=λa o n h=>y a o n (x a o n h)
theorem aB.sb {H H':Hp} (x:aB H H') (b:Addr):SB b H H':=λa o _ h=>x a o h
theorem ya (b:Addr) (H:Hp) (o:HO):SB b H (upd H b o):=λa u n h=>by rw [Zc n]; exact h
theorem Zg {H:Hp} {p:Addr} (h:H p=none) (o:HO):aB H (upd H p o):=λb u q=>by rw [Zc (Ze q h)]; exact q
def kP (n:Nat) (l:Addr) (Pv:Nat->List V->St->Hp->Prop) (i:Nat) (ys:List V) (σ:St) (y:V) (H:Hp):Prop :=
 H l=some (.lst ys)/\ys.length<sizeLine/\∃ m',m'<n - i/\(m'=n - (i+1)/\i+1<=n/\(ys++[y]).length<=i+1/\Pv (i+1) (ys++[y]) σ (upd H l (.lst (ys++[y]))))
def vc (n:Nat) (Pv:Nat->List V->St->Hp->Prop) (i:Nat) (ys:List V) (σ:St) (H:Hp):Prop:=∃ m',m'<n - i/\(m'=n - (i+1)/\i+1<=n/\ys.length<=i+1/\Pv (i+1) ys σ H)
theorem kP.of {n:Nat} {l:Addr} {Pv:Nat->List V->St->Hp->Prop} {i:Nat} {ys:List V} {σ:St} {y:V} {H:Hp} (hn:n<=sizeLine) (hi:i<n) (hy:ys.length<=i) (h1:H l=some (.lst ys)) (h2:Pv (i+1) (ys++[y]) σ (upd H l (.lst (ys++[y])))):kP n l Pv i ys σ y H :=
 ⟨h1,by lia,n - (i+1),by lia,rfl,hi,by rw [ap5,aay]; lia,h2⟩
theorem vc.of {n:Nat} {Pv:Nat->List V->St->Hp->Prop} {i:Nat} {ys:List V} {σ:St} {H:Hp} (hi:i<n) (hy:ys.length<=i) (h2:Pv (i+1) ys σ H):vc n Pv i ys σ H :=
 ⟨n - (i+1),by lia,rfl,hi,by lia,h2⟩
theorem Eb {lo:Int} {n:Nat} {l:Addr} {g:TG} {tc:TT} {te:TE} {σ0:St} {H0:Hp} {Qf:Hp->Prop} (Pv:Nat->List V->St->Hp->Prop) (h0:Pv 0 [] σ0 H0)
  (hs:∀ i ys σ' H',i<n->ys.length<=i->Pv i ys σ' H'->g (.int (lo+i)) σ' H' λσ2 H3=>tc σ2 H3 λb H4=>if b=true then te σ2 H4 λy H5=>kP n l Pv i ys σ2 y H5 else vc n Pv i ys σ2 H4)
  (hd:∀ ys σ' H',ys.length<=n->Pv n ys σ' H'->Qf H') :
  ∃ W:Nat->Nat->List V->St->Hp->Prop,(∃ m,W 0 m [] σ0 H0)/\∀ i m ys σ' H',W i m ys σ' H' ->
  ((rL lo n).stop i H'/\Qf H')\/((rL lo n).go i H'/\∀ x H2,(rL lo n).ni i H' x H2->g x σ' H2 λσ2 H3=>tc σ2 H3 λb H4 =>
    if b=true then te σ2 H4 λy H5=>H5 l=some (.lst ys)/\ys.length<sizeLine/\∃ m',m'<m/\W (i+1) m' (ys++[y]) σ2 (upd H5 l (.lst (ys++[y])))
    else ∃ m',m'<m/\W (i+1) m' ys σ2 H4):=by
 refine ⟨λi m ys σ' H'=>m=n - i/\i<=n/\ys.length<=i/\Pv i ys σ' H',⟨n,rfl,avV _,a17 _,h0⟩,?_⟩
 rintro i m ys σ' H' ⟨rfl,hi,hy,p⟩
 by_cases hlt:i<n
 .refine .inr ⟨hlt,λx H2 q=>?_⟩
  obtain ⟨rfl,rfl⟩:=q
  exact hs i ys σ' _ hlt hy p
 .have e:i=n:=by lia
  subst e
  exact .inl ⟨a17 _,hd ys σ' H' hy p⟩
theorem Jb {K:W.Frag} {a:Addr} {xs:List V} {l:Addr} {g:TG} {tc:TT} {te:TE} {σ0:St} {H0:Hp} {Qf:Hp->Prop} (Pv:Nat->List V->St->Hp->Prop) (h0:Pv 0 [] σ0 H0)
  (hl:∀ i ys σ' H',i<=xs.length->Pv i ys σ' H'->aF K H' a xs)
  (hs:∀ i x ys σ' H',i<xs.length->xs[i]?=some x->ys.length<=i->Pv i ys σ' H'->g x σ' H' λσ2 H3=>tc σ2 H3 λb H4=>if b=true then te σ2 H4 λy H5=>kP xs.length l Pv i ys σ2 y H5 else vc xs.length Pv i ys σ2 H4)
  (hd:∀ ys σ' H',ys.length<=xs.length->Pv xs.length ys σ' H'->Qf H') :
  ∃ W:Nat->Nat->List V->St->Hp->Prop,(∃ m,W 0 m [] σ0 H0)/\∀ i m ys σ' H',W i m ys σ' H' ->
  ((u9 K a).stop i H'/\Qf H')\/((u9 K a).go i H'/\∀ x H2,(u9 K a).ni i H' x H2->g x σ' H2 λσ2 H3=>tc σ2 H3 λb H4 =>
    if b=true then te σ2 H4 λy H5=>H5 l=some (.lst ys)/\ys.length<sizeLine/\∃ m',m'<m/\W (i+1) m' (ys++[y]) σ2 (upd H5 l (.lst (ys++[y])))
    else ∃ m',m'<m/\W (i+1) m' ys σ2 H4):=by
 refine ⟨λi m ys σ' H'=>m=xs.length - i/\i<=xs.length/\ys.length<=i/\Pv i ys σ' H',⟨xs.length,rfl,avV _,a17 _,h0⟩,?_⟩
 rintro i m ys σ' H' ⟨rfl,hi,hy,p⟩
 have q:=hl i ys σ' H' hi p
 by_cases hlt:i<xs.length
 .refine .inr ⟨⟨xs,xs[i],q,by simp [hlt]⟩,λx H2 z=>?_⟩
  obtain ⟨rfl,z⟩:=z
  exact hs i x ys σ' _ hlt (z xs q) hy p
 .have e:i=xs.length:=by lia
  subst e
  exact .inl ⟨⟨xs,q,a17 _⟩,hd ys σ' H' hy p⟩
theorem WJ {K:W.Frag} {a b:Addr} {xs zs:List V} {l:Addr} {g:TG} {tc:TT} {te:TE} {σ0:St} {H0:Hp} {Qf:Hp->Prop} (hlen:xs.length=zs.length) (Pv:Nat->List V->St->Hp->Prop) (h0:Pv 0 [] σ0 H0)
  (hl:∀ i ys σ' H',i<=xs.length->Pv i ys σ' H'->aF K H' a xs/\aF K H' b zs)
  (hs:∀ i x z t ys σ' H',i<xs.length->xs[i]?=some x->zs[i]?=some z->ys.length<=i->Pv i ys σ' H'->H' t=none->g (.ref t) σ' (upd H' t (.tup [x,z])) λσ2 H3=>tc σ2 H3 λb H4=>if b=true then te σ2 H4 λy H5=>kP xs.length l Pv i ys σ2 y H5 else vc xs.length Pv i ys σ2 H4)
  (hd:∀ ys σ' H',ys.length<=xs.length->Pv xs.length ys σ' H'->Qf H') :
  ∃ W:Nat->Nat->List V->St->Hp->Prop,(∃ m,W 0 m [] σ0 H0)/\∀ i m ys σ' H',W i m ys σ' H' ->
  ((tN K a b).stop i H'/\Qf H')\/((tN K a b).go i H'/\∀ x H2,(tN K a b).ni i H' x H2->g x σ' H2 λσ2 H3=>tc σ2 H3 λb H4 =>
    if b=true then te σ2 H4 λy H5=>H5 l=some (.lst ys)/\ys.length<sizeLine/\∃ m',m'<m/\W (i+1) m' (ys++[y]) σ2 (upd H5 l (.lst (ys++[y])))
    else ∃ m',m'<m/\W (i+1) m' ys σ2 H4):=by
 refine ⟨λi m ys σ' H'=>m=xs.length - i/\i<=xs.length/\ys.length<=i/\Pv i ys σ' H',⟨xs.length,rfl,avV _,a17 _,h0⟩,?_⟩
 rintro i m ys σ' H' ⟨rfl,hi,hy,p⟩
 have q:=hl i ys σ' H' hi p
 by_cases hlt:i<xs.length
 .have hz:i<zs.length:=by lia
  refine .inr ⟨⟨xs,zs,xs[i],zs[i],q.1,q.2,by simp [hlt],by simp [hz]⟩,λx H2 z=>?_⟩
  obtain ⟨t,u,v,ht,rfl,rfl,z1,z2⟩:=z
  exact hs i u v t ys σ' _ hlt (z1 xs q.1) (z2 zs q.2) hy p ht
 .have e:i=xs.length:=by lia
  subst e
  exact .inl ⟨⟨xs,zs,q.1,q.2,.inl (a17 _)⟩,hd ys σ' H' hy p⟩
theorem OZ {K:W.Frag} {a:Addr} {xs:List V} {g:TG} {tb:TS} {D:Ends} {σ:St} {H:Hp} (Pv:Nat->St->Hp->Prop) (h0:Pv 0 σ H) (hl:∀ i σ H,i<=xs.length->Pv i σ H->aF K H a xs)
  (hs:∀ i x t σ H,xs[i]?=some x->Pv i σ H->H t=none->g (.ref t) σ (upd H t (.tup [.int i,x])) λσ2 H2=>tb { D with nx:=Pv (i+1),ct:=Pv (i+1),bk:=D.nx } σ2 H2) (hd:∀ σ H,Pv xs.length σ H->D.nx σ H) :
  ∃ W:Nat->Nat->St->Hp->Prop,(∃ m,W 0 m σ H)/\∀ i m σ H,W i m σ H ->
   ((BI K a).stop i H/\D.nx σ H)\/((BI K a).go i H/\∃ N:St->Hp->Prop,(∀ σ' H',N σ' H'->∃ m',m'<m/\W (i+1) m' σ' H')/\∀ x H',(BI K a).ni i H x H'->g x σ H' λσ2 H2=>tb { D with nx:=N,ct:=N,bk:=D.nx } σ2 H2):=by
 refine ⟨λi m σ H=>m=xs.length - i/\i<=xs.length/\Pv i σ H,⟨xs.length,by simp,avV _,h0⟩,?_⟩
 rintro i m σ H ⟨rfl,hi,p⟩
 have q:=hl i σ H hi p
 by_cases hlt:i<xs.length
 .refine .inr ⟨⟨xs,xs[i],q,by simp [hlt]⟩,Pv (i+1),λσ' H' p'=>⟨xs.length - (i+1),by lia,rfl,hlt,p'⟩,λx H' y=>?_⟩
  obtain ⟨t,u,ht,rfl,rfl,y⟩:=y
  exact hs i u t σ _ (y xs q) p ht
 .have e:i=xs.length:=by lia
  subst e
  exact .inl ⟨⟨xs,q,rfl⟩,hd σ H p⟩
theorem gF {α:Type} {x:α} {xs:List α}:fX (x :: xs) 0=some x:=qN (j:=0) rfl
theorem iz {α:Type} {x y:α} {xs:List α}:fX (x :: y :: xs) 1=some y:=qN (j:=1) rfl
theorem ju {α:Type} {x y z:α} {xs:List α}:fX (x :: y :: z :: xs) 2=some z:=qN (j:=2) rfl
theorem mW {p A B:Prop} [Decidable p] (h1:p->A) (h2:¬ p->B):if decide p=true then A else B:=by
 by_cases h:p
 .rw [ajr (an3 h)]; exact h1 h
 .rw [aBJ (by rw [ba7 h]; exact am8)]; exact h2 h
def NS:PySem.Expr->Prop
 | .Starred _ _=>False
 | _=>True
theorem rH {e:PySem.Expr} {es:List PySem.Expr} {env:Env} (h:NS e):starEach (e :: es) env=(false,eval e env) :: starEach es env:=by
 cases e <;> first | rfl | exact h.elim
def tL:List PySem.Expr->Prop
 | []=>True
 | e :: es=>NS e/\tL es
theorem wL {pos:Pos} {env:Env}:∀ {es:List PySem.Expr},tL es->(backTo pos (starEach es env)).any (·.1)=false
 | [],_=>rfl
 | e :: es,h=>by
  rw [rH h.1]
  have ih:=wL (pos:=pos) (env:=env) h.2
  simp only [backTo] at ih ⊢
  simpa using ih
section
variable {X:Cx} {x:Str} {p pos:Pos} {e:PySem.Expr} {es:List PySem.Expr} {te:TE} {t:TA} {k:Nat} {ps:List Str} {sp:Sp} {id T:String} {r:List V->Hp->VK->Prop}
theorem pc (ha:PE X e te) (hr:PA X es t) (hn:NS e:=by exact True.intro):PA X (e :: es) (tT te t):=Wt ha hr (rH hn)
theorem Zm (D:Def X.prog X.w X.K X.mg X.base x k ps sp) (hr:br k X.A) (hg:Gl X x) (ha:PA X (e :: es) t) (hn:tL (e :: es):=by repeat' (first | exact True.intro | refine ⟨?_,?_⟩)) (hd:(x == ("__debug__" : Str))=false:=by decide) :
  PE X (.Call (.Name x p) (e :: es) [] pos) (nv sp [] E0 t):=VP D hr hg ha (rH hn.1) (wL hn.2) hd
theorem Zs (hc:bH X (.builtin id) r) (hg:Gl X x) (hm:X.mg x=none) (hv:bootBuiltins x=some (.builtin id)) (ha:PA X (e :: es) t) (hnn:tL (e :: es):=by repeat' (first | exact True.intro | refine ⟨?_,?_⟩)) (hn:x ≠ "__name__" := by decide) (hdb:(x == ("__debug__" : Str))=false:=by decide) :
  PE X (.Call (.Name x p) (e :: es) [] pos) (Cj r t):=WQ hc hg hm hv ha hn hdb (rH hnn.1) (wL hnn.2)
theorem uX (hc:bH X (.type T) r) (hg:Gl X x) (hm:X.mg x=none) (hv:bootBuiltins x=some (.type T)) (ha:PA X (e :: es) t) (hnn:tL (e :: es):=by repeat' (first | exact True.intro | refine ⟨?_,?_⟩)) (hn:x ≠ "__name__" := by decide) (hdb:(x == ("__debug__" : Str))=false:=by decide) :
  PE X (.Call (.Name x p) (e :: es) [] pos) (Cj r t):=Xy hc hg hm hv ha hn hdb (rH hnn.1) (wL hnn.2)
end
theorem WI {K:W.Frag} {a:Addr} {xs:List V} {l:Addr} {g:TG} {tc:TT} {te:TE} {σ0:St} {H0:Hp} {Qf:Hp->Prop} (Pv:Nat->List V->St->Hp->Prop) (h0:Pv 0 [] σ0 H0)
  (hl:∀ i ys σ' H',i<=xs.length->Pv i ys σ' H'->bB K H' a xs)
  (hs:∀ i x ys σ' H',i<xs.length->xs[i]?=some x->ys.length<=i->Pv i ys σ' H'->g x σ' H' λσ2 H3=>tc σ2 H3 λb H4=>if b=true then te σ2 H4 λy H5=>kP xs.length l Pv i ys σ2 y H5 else vc xs.length Pv i ys σ2 H4)
  (hd:∀ ys σ' H',ys.length<=xs.length->Pv xs.length ys σ' H'->Qf H') :
  ∃ W:Nat->Nat->List V->St->Hp->Prop,(∃ m,W 0 m [] σ0 H0)/\∀ i m ys σ' H',W i m ys σ' H' ->
  ((BH K a).stop i H'/\Qf H')\/((BH K a).go i H'/\∀ x H2,(BH K a).ni i H' x H2->g x σ' H2 λσ2 H3=>tc σ2 H3 λb H4 =>
    if b=true then te σ2 H4 λy H5=>H5 l=some (.lst ys)/\ys.length<sizeLine/\∃ m',m'<m/\W (i+1) m' (ys++[y]) σ2 (upd H5 l (.lst (ys++[y])))
    else ∃ m',m'<m/\W (i+1) m' ys σ2 H4):=by
 refine ⟨λi m ys σ' H'=>m=xs.length - i/\i<=xs.length/\ys.length<=i/\Pv i ys σ' H',⟨xs.length,rfl,avV _,a17 _,h0⟩,?_⟩
 rintro i m ys σ' H' ⟨rfl,hi,hy,p⟩
 have q:=hl i ys σ' H' hi p
 by_cases hlt:i<xs.length
 .refine .inr ⟨⟨xs,xs[i],q,by simp [hlt]⟩,λx H2 z=>?_⟩
  obtain ⟨rfl,z⟩:=z
  exact hs i x ys σ' _ hlt (z xs q) hy p
 .have e:i=xs.length:=by lia
  subst e
  exact .inl ⟨⟨xs,q,a17 _⟩,hd ys σ' H' hy p⟩
section
variable {X:Cx} {K:W.Frag}
theorem Zq (hK:X.K=K):BG X (zj K):=hK ▸ Wk
theorem qM (hK:X.K=K):BG X (zh K):=hK ▸ VU
theorem OY (hK:X.K=K):KY X (zf K):=hK ▸ Wj
theorem P4 (hK:X.K=K):jF X (compareOp .NotIn) (Ll K true):=hK ▸ Z6
theorem ZH (hK:X.K=K):bH X (.builtin "len") (λxs H Q=>∃ p ys,xs=[.ref p]/\(aF K H p ys\/bB K H p ys)/\Q (.int ys.length) H):=hK ▸ Z5
theorem Ei (hK:X.K=K):bH X (.type "list") (λxs H Q=>∃ p ys,xs=[.ref p]/\(aF K H p ys\/bB K H p ys)/\∀ l,H l=none->Q (.ref l) (upd H l (.lst ys))):=hK ▸ Z4
theorem Zfm (hK:X.K=K):bH X (.type "tuple") (λxs H Q=>∃ p ys,xs=[.ref p]/\((aF K H p ys/\∀ l,H l=none->Q (.ref l) (upd H l (.tup ys)))\/(bB K H p ys/\Q (.ref p) H))):=hK ▸ ZfL
end
end L2
namespace HT
open PySem PyProof.Rows
section
open PySem.SeqAt
open PySem.AutoSeq1 (wpAny_loadPart')
open PySem.MeetsSeq PySem.MeetsSeq2 PySem.MeetsSeq3
end
end HT
namespace L2
open PySem PySem.Spec PyProof.Rows
theorem Nn {h:Heap} {a:Addr} {us:Array Value} (x:IsTup h a us):a<h.objs.size:=by
 obtain ⟨o,ho,_⟩:=x
 exact aDe ho
section
variable {X:Cx}
def Wh:V->List V->Hp->VK->Prop:=λx vs H Q=>∃ (l:Addr) (ns:List Int) (k:Int),x=.ref l/\vs=[.int k]/\H l=some (.lst (ns.map V.int))/\k∈ns/\Q .aR (upd H l (.lst ((ns.erase k).map V.int)))
theorem OX (k:Int):∀ (ns:List Int),k∈ns->∃ j,ns[j]?=some k/\(∀ m z,m<j->ns[m]?=some z->z≠k)/\ns.erase k=ns.eraseIdx j
 | [],h=>nomatch h
 | x :: ns,h=>by
  by_cases hx:x=k
  .subst hx
   exact ⟨0,rfl,λm z hm=>absurd hm (ahY _),by rw [erase_cons_head,List.eraseIdx_cons_zero]⟩
  .have hm:k∈ns:=by
    rcases aM6.mp h with e | e
    .exact absurd e.symm hx
    .exact e
   obtain ⟨j,h1,h2,h3⟩:=OX k ns hm
   refine ⟨j+1,by simpa using h1,λm z hm hz=>?_,?_⟩
   .cases m with
    | zero =>
     have e:x=z:=by simpa using hz
     rw [← e]; exact hx
    | succ m=>exact h2 m z (by lia) (by simpa using hz)
   .rw [List.erase_cons_tail (by simpa using hx),h3,apw]
theorem Yk {xs:List V} {us:List Value}:∀ (j:Nat),Vals xs us->Vals (xs.eraseIdx j) (us.eraseIdx j):=by
 intro j r
 induction r generalizing j with
 | nil=>exact .nil
 | cons h t ih =>
  cases j with
  | zero=>exact t
  | succ j=>exact .cons h (ih j)
theorem Py:Qd X "list.remove" Wh:=by
 intro pins s σ H x vs v us Q I rx rv h
 obtain ⟨l,ns,k,rfl,rfl,hH,hk,q⟩:=h
 cases rx
 obtain ⟨u,rfl,ru⟩:=rv.one
 obtain ⟨tk,rfl⟩:=ru
 obtain ⟨z,its,n,r,hl,e⟩:=I.qk hH
 rw [afy] at hl z
 obtain ⟨j,h1,h2,h3⟩:=OX k ns hk
 have get:∀ (m:Nat) (hm:m<its.toArray.size),∃ (i:Int) (t:Tok),ns[m]?=some i/\its.toArray[m]=.int i t:=λm hm=>by
  have hm':m<ns.length:=by rw [hl]; simpa using hm
  obtain ⟨w,hw,rw'⟩:=r.get (i:=m) (x:=.int ns[m]) (by rw [aC3,adk hm']; rfl)
  obtain ⟨t,rfl⟩:=rw'
  refine ⟨ns[m],t,adk hm',?_⟩
  have:its[m]?=some its[m]:=adk (by simpa using hm)
  rw [hw] at this
  simpa using (aGB this).symm
 have hj:j<its.toArray.size:=by
  have:=(a7Y.mp h1).1
  rw [hl] at this; simpa using this
 refine call_meets F.slot_list_remove ⟨_,e,rfl⟩ F.entry_list_remove (F.args_list_remove_2 _ _) (MeetsSeq.list_remove l its.toArray n (.int k tk) (λy=>match y with | .int i _=>i == k | _=>false) (λy hy=>?_) j hj ?_ (λm hm Tu=>?_) (by rw [aHG,← hl]; exact z)) ⟨e,?_⟩
 .obtain ⟨m,hm,rfl⟩:=Array.getElem_of_mem hy
  obtain ⟨i,t,_,e2⟩:=get m hm
  rw [e2]
  exact MeetsSeq.EqGives.int i k t tk
 .obtain ⟨i,t,e1,e2⟩:=get j hj
  rw [h1] at e1; cases e1
  rw [e2]
  simp
 .obtain ⟨i,t,e1,e2⟩:=get m hm
  rw [e2]
  simpa using h2 m i Tu e1
 .refine ⟨.aR,_,I.ql (its':=its.eraseIdx j) (ys:=(ns.erase k).map V.int) hH e ?_ ?_ ?_,rfl,q⟩
  .rw [List.eraseIdxIfInBounds_toArray]
  .rw [h3]
   have em:∀ (xs:List Int) (i:Nat),(xs.eraseIdx i).map V.int=(xs.map V.int).eraseIdx i:=λxs=>by
    induction xs with
    | nil=>intro i; rfl
    | cons y xs ih=>intro i; cases i with
     | zero=>rfl
     | succ i=>rw [apw,asO,asO,apw,ih]
   rw [em]
   exact Yk j r
  .rw [afy]
   exact awv List.length_erase_le z
end
section
variable {κ:Type} [DecidableEq κ]
def aM (kvs:List (κ×V)) (k:κ):Option V:=(kvs.find? λkv=>decide (kv.1=k)).map (·.2)
def putK (kvs:List (κ×V)) (k:κ) (v:V):List (κ×V) :=
 if (kvs.any λkv=>decide (kv.1=k))=true then kvs.map (λkv=>if kv.1=k then (kv.1,v) else kv) else kvs++[(k,v)]
def aU (kvs:List (κ×V)) (k:κ):List (κ×V):=kvs.filter λkv=>decide (kv.1≠k)
theorem ZR {p:κ×V} {r:List (κ×V)} {k:κ} (e:p.1=k):aM (p :: r) k=some p.2:=by simp [aM,anW,e]
theorem ZI {p:κ×V} {r:List (κ×V)} {k:κ} (e:¬ p.1=k):aM (p :: r) k=aM r k:=by simp [aM,anW,e]
theorem Bf (k:κ):∀ kvs:List (κ×V),(kvs.any λkv=>decide (kv.1=k))=(aM kvs k).isSome
 | []=>rfl
 | p :: r=>by
  rw [any_cons]
  by_cases e:p.1=k
  .simp only [ZR e,an3 e,Bool.true_or,Option.isSome_some]
  .rw [ZI e,ba7 e,Bool.false_or]; exact Bf k r
theorem OV (k j:κ) (y:V):∀ kvs:List (κ×V),aM (kvs.map λkv=>if kv.1=k then (kv.1,y) else kv) j=(aM kvs j).map λx=>if j=k then y else x
 | []=>rfl
 | p :: r=>by
  have ih:=OV k j y r
  rw [asO]
  by_cases h:p.1=k
  .rw [ajr h]
   by_cases e:p.1=j
   .rw [ZR (p:=(p.1,y)) e,ZR e,a2j,ajr (e.symm.trans h)]
   .rw [ZI (p:=(p.1,y)) e,ZI e,ih]
  .rw [aBJ h]
   by_cases e:p.1=j
   .rw [ZR (p:=p) e,ZR e,a2j,aBJ (λz=>h (e.trans z))]
   .rw [ZI (p:=p) e,ZI e,ih]
theorem Px (k j:κ) (y:V):∀ kvs:List (κ×V),aM kvs k=none->aM (kvs++[(k,y)]) j=if j=k then some y else aM kvs j
 | [],_=>by
  by_cases e:k=j
  .rw [ajr e.symm]; exact ZR (p:=(k,y)) e
  .rw [aBJ (λz=>e z.symm)]; exact ZI (p:=(k,y)) e
 | p :: r,hn=>by
  rw [List.cons_append]
  have hk:¬ p.1=k:=λz=>by rw [ZR z] at hn; cases hn
  rw [ZI hk] at hn
  have ih:=Px k j y r hn
  by_cases e:p.1=j
  .rw [ZR e,ZR e,aBJ (λz=>hk (e.trans z))]
  .rw [ZI e,ZI e,ih]
theorem yv (kvs:List (κ×V)) (k j:κ) (y:V):aM (putK kvs k y) j=if j=k then some y else aM kvs j:=by
 unfold putK
 by_cases a:(kvs.any λkv=>decide (kv.1=k))=true
 .rw [ajr a,OV]
  rw [Bf] at a
  by_cases e:j=k
  .obtain ⟨x,hx⟩:=Option.isSome_iff_exists.mp a
   rw [ajr e,e,hx,a2j,ajr rfl]
  .rw [aBJ e]
   cases aM kvs j with
   | none=>rfl
   | some x=>rw [a2j,aBJ e]
 .rw [aBJ a]
  refine Px k j y kvs ?_
  rw [Bf] at a
  cases q:aM kvs k with
  | none=>rfl
  | some x=>rw [q] at a; exact (a rfl).elim
theorem Bp (kvs:List (κ×V)) (k:κ) (v:V):(putK kvs k v).length<=kvs.length+1:=by
 unfold putK
 split
 .rw [afy]; lia
 .rw [ap5,am4,List.length_nil]; lia
theorem dH.iw {o:Option V} {u:Option Value} (r:dH o u):o.isSome=u.isSome:=by
 cases o with
 | none=>cases u with
  | none=>rfl
  | some _=>exact (show False from r).elim
 | some _=>cases u with
  | none=>exact (show False from r).elim
  | some _=>rfl
theorem dH.getD {o:Option V} {u:Option Value} {d:V} {d':Value} (r:dH o u) (rd:RelV d d'):RelV (o.getD d) (u.getD d'):=by
 cases o with
 | none=>cases u with
  | none=>exact rd
  | some _=>exact (show False from r).elim
 | some _=>cases u with
  | none=>exact (show False from r).elim
  | some _=>exact r
theorem KV.val {kvs:List (κ×V)} {vs:List (κ×Value)} (r:KV kvs vs) (k:κ):dH (aM kvs k) (valueAt vs k):=by
 unfold KV at r
 induction r with
 | nil=>exact True.intro
 | @cons p q ps qs h t ih =>
  obtain ⟨h1,h2⟩:=h
  by_cases e:p.1=k
  .have e':q.1=k:=h1.symm.trans e
   have b:valueAt (q :: qs) k=some q.2:=by simp [valueAt,anW,e']
   rw [ZR e,b]; exact h2
  .have e':¬ q.1=k:=λz=>e (h1.trans z)
   have b:valueAt (q :: qs) k=valueAt qs k:=by simp [valueAt,anW,e']
   rw [ZI e,b]; exact ih
theorem KV.any {kvs:List (κ×V)} {vs:List (κ×Value)} (r:KV kvs vs) (k:κ):(kvs.any λkv=>decide (kv.1=k))=vs.any λkv=>decide (kv.1=k):=by
 unfold KV at r
 induction r with
 | nil=>rfl
 | cons h t ih=>rw [any_cons,any_cons,ih,h.1]
theorem KV.repl {kvs:List (κ×V)} {vs:List (κ×Value)} (r:KV kvs vs) (k:κ) {y:V} {u:Value} (ry:RelV y u) :
  KV (kvs.map λkv=>if kv.1=k then (kv.1,y) else kv) (vs.map λkv=>if kv.1=k then (kv.1,u) else kv):=by
 unfold KV at r ⊢
 induction r with
 | nil=>exact .nil
 | @cons p q ps qs h t ih =>
  rw [asO,asO]
  refine .cons ?_ ih
  obtain ⟨h1,h2⟩:=h
  by_cases e:p.1=k
  .rw [ajr e,ajr (h1.symm.trans e)]; exact ⟨h1,ry⟩
  .rw [aBJ e,aBJ (λz=>e (h1.trans z))]; exact ⟨h1,h2⟩
theorem KV.put {kvs:List (κ×V)} {vs:List (κ×Value)} (r:KV kvs vs) (k:κ) {y:V} {u:Value} (ry:RelV y u):KV (putK kvs k y) (stored vs k u):=by
 unfold putK stored
 rw [r.any k]
 by_cases e:(vs.any λkv=>decide (kv.1=k))=true
 .rw [ajr e,ajr e]; exact r.repl k ry
 .rw [aBJ e,aBJ e]; exact Paired.snoc r ⟨rfl,ry⟩
theorem KV.drop {kvs:List (κ×V)} {vs:List (κ×Value)} (r:KV kvs vs) (k:κ):KV (aU kvs k) (without vs k):=by
 unfold KV at r ⊢
 unfold aU without
 induction r with
 | nil=>exact .nil
 | @cons p q ps qs h t ih =>
  obtain ⟨h1,h2⟩:=h
  rw [ba1,ba1]
  by_cases e:p.1=k
  .have a:¬ decide (p.1≠k)=true:=by simp [e]
   have b:¬ decide (q.1≠k)=true:=by simp [h1.symm.trans e]
   rw [aBJ a,aBJ b]; exact ih
  .have e':¬ q.1=k:=λz=>e (h1.trans z)
   have a:decide (p.1≠k)=true:=by simp [e]
   have b:decide (q.1≠k)=true:=by simp [e']
   rw [ajr a,ajr b]; exact .cons ⟨h1,h2⟩ ih
theorem KV.length {kvs:List (κ×V)} {vs:List (κ×Value)} (r:KV kvs vs):kvs.length=vs.length:=a9d r
theorem WH (kvs:List (κ×V)) (k:κ):(aU kvs k).length<=kvs.length:=ane _ _
end
theorem jo {P:Program} {w:World} {k:Key} {u:Value} (r:RelV (kV k) u):(Zx P w).is k u=true:=by
 cases k with
 | inl i=>obtain ⟨t,e⟩:=(show ∃ t,u=Value.int i t from r); subst e; exact YA P w i t
 | inr x=>obtain ⟨t,e⟩:=(show ∃ t,u=Value.str x t from r); subst e; exact Yz P w x t
theorem Pw {P:Program} {w:World}:∀ {ks:List Key} {us:List Value},Vals (ks.map kV) us->ItemsAre (Zx P w) ks us
 | [],_,r=>by rw [map_nil] at r; cases r; exact .nil
 | k :: ks,_,r=>by
  rw [asO] at r
  cases r with
  | cons h t=>exact .cons (jo h) (Pw t)
abbrev KT (H:Hp):List (List Key×V)->List (List Key×Addr×Value)->Prop:=Paired λp q=>p.1=q.1/\H q.2.1=some (.tup (p.1.map kV))/\RelV p.2 q.2.2
theorem KT.val {H:Hp} {kvs:List (List Key×V)} {xs:List (List Key×Addr×Value)} (r:KT H kvs xs) (k:List Key):dH (aM kvs k) ((atKey xs k).map (·.2)):=by
 induction r with
 | nil=>exact True.intro
 | @cons p q ps qs h t ih =>
  obtain ⟨h1,_,h2⟩:=h
  by_cases e:p.1=k
  .have e':q.1=k:=h1.symm.trans e
   have b:atKey (q :: qs) k=some q.2:=by simp [atKey,anW,e']
   rw [ZR e,b]; exact h2
  .have e':¬ q.1=k:=λz=>e (h1.trans z)
   have b:atKey (q :: qs) k=atKey qs k:=by simp [atKey,anW,e']
   rw [ZI e,b]; exact ih
theorem KT.repl {H:Hp} {kvs:List (List Key×V)} {xs:List (List Key×Addr×Value)} (r:KT H kvs xs) (k:List Key) {y:V} {u:Value} (ry:RelV y u) :
  KT H (kvs.map λkv=>if kv.1=k then (kv.1,y) else kv) (xs.map (putAt k u)):=by
 induction r with
 | nil=>exact .nil
 | @cons p q ps qs h t ih =>
  rw [asO,asO]
  refine .cons ?_ ih
  obtain ⟨h1,h2,h3⟩:=h
  unfold putAt
  by_cases e:p.1=k
  .rw [ajr e,ajr (h1.symm.trans e)]; exact ⟨h1,h2,ry⟩
  .rw [aBJ e,aBJ (λz=>e (h1.trans z))]; exact ⟨h1,h2,h3⟩
theorem KT.put {H:Hp} {kvs:List (List Key×V)} {xs:List (List Key×Addr×Value)} (r:KT H kvs xs) (k:List Key) {b:Addr} {y:V} {u:Value} (hb:H b=some (.tup (k.map kV))) (ry:RelV y u) :
  KT H (putK kvs k y) (storedH xs k b u):=by
 have e:(kvs.any λkv=>decide (kv.1=k))=(atKey xs k).isSome:=by
  rw [Bf,(r.val k).iw,Option.isSome_map]
 unfold putK storedH
 rw [e]
 by_cases q:(atKey xs k).isSome=true
 .rw [ajr q,ajr q]; exact r.repl k ry
 .rw [aBJ q,aBJ q]; exact Paired.snoc r ⟨rfl,hb,ry⟩
theorem KT.keeps {H H':Hp} {kvs:List (List Key×V)} {xs:List (List Key×Addr×Value)} (r:KT H kvs xs) (ht:∀ b ys,H b=some (.tup ys)->H' b=some (.tup ys)):KT H' kvs xs :=
 Paired.vF r λ_ _ z=>⟨z.1,ht _ _ z.2.1,z.2.2⟩
section
variable {P:Program} {w:World} {H:Hp} {h:Heap} {a:Addr}
theorem tZ {u:HO} (ok:fc P w H h) (e:Rd H a u):aI P w H h a u:=e.ok ok
theorem jX {kvs:List (Key×V)} (ok:fc P w H h) (e:Rd H a (.dK kvs)):kvs.length<=sizeLine/\(a == sysModules)=false/\∃ vs,KV kvs vs/\h.DictOf (Zx P w) a vs :=
 show aI P w H h a (.dK kvs) from tZ ok e
theorem qF {kvs:List (Key×V)} (ok:fc P w H h) (e:H a=some (.dK kvs)):kvs.length<=sizeLine/\(a == sysModules)=false/\∃ vs,KV kvs vs/\h.DictOf (Zx P w) a vs:=jX ok (.inl e)
theorem AU {ks:List Key} (ok:fc P w H h) (e:H a=some (.tup (ks.map kV))):(tupleKind (Zx P w)).is h ks a:=by
 obtain ⟨_,its,r,o,h1,h2,n,h3⟩:=(show aI P w H h a (.tup (ks.map kV)) from ok a _ e)
 exact ⟨o,its.toArray,n,h1,h2,h3,by simpa using Pw r⟩
theorem jW {kvs:List (List Key×V)} (ok:fc P w H h) (e:Rd H a (.dT kvs)):kvs.length<=sizeLine/\(a == sysModules)=false /\
  ∃ xs,KT H kvs xs/\h.DictOfH (tupleKind (Zx P w)) a xs:=by
 obtain ⟨z,y,xs,r,o,es,ep,h1,h2,h3,h4,h5⟩:=(show aI P w H h a (.dT kvs) from tZ ok e)
 refine ⟨z,y,xs,r,o,es,ep,h1,h2,h3,h4,λx hx=>?_,h5⟩
 have all:∀ {l:List (List Key×V)} {m:List (List Key×Addr×Value)},KT H l m->∀ x∈m,(tupleKind (Zx P w)).is h x.1 x.2.1:=by
  intro l m q
  induction q with
  | nil=>intro x hx; exact nomatch hx
  | @cons p q ps qs hq t ih =>
   intro x hx
   rcases aM6.mp hx with e | hx
   .subst e
    exact AU ok (by rw [← hq.1]; exact hq.2.1)
   .exact ih x hx
 exact all r x hx
theorem Ay {kvs:List (List Key×V)} (ok:fc P w H h) (e:H a=some (.dT kvs)):kvs.length<=sizeLine/\(a == sysModules)=false /\
  ∃ xs,KT H kvs xs/\h.DictOfH (tupleKind (Zx P w)) a xs:=jW ok (.inl e)
end
def dS (H:Hp) (a:Addr) (y:V) (r:Option V):Prop :=
 (∃ kvs k,Rd H a (.dK kvs)/\y=kV k/\r=aM kvs k)\/∃ kvs k b,Rd H a (.dT kvs)/\y=.ref b/\H b=some (.tup (k.map kV))/\r=aM kvs k
def jB (H:Hp) (a:Addr) (y v:V) (H':Hp):Prop :=
 (∃ kvs k,H a=some (.dK kvs)/\y=kV k/\kvs.length<sizeLine/\H'=upd H a (.dK (putK kvs k v))) \/
 ∃ kvs k b,H a=some (.dT kvs)/\y=.ref b/\H b=some (.tup (k.map kV))/\kvs.length<sizeLine/\H'=upd H a (.dT (putK kvs k v))
theorem dS.k {H:Hp} {a:Addr} {kvs:List (Key×V)} {k:Key} (e:H a=some (.dK kvs)):dS H a (kV k) (aM kvs k):=.inl ⟨kvs,k,.inl e,rfl,rfl⟩
theorem jB.k {H:Hp} {a:Addr} {kvs:List (Key×V)} {k:Key} {v:V} (e:H a=some (.dK kvs)) (hl:kvs.length<sizeLine):jB H a (kV k) v (upd H a (.dK (putK kvs k v))):=.inl ⟨kvs,k,e,rfl,hl,rfl⟩
section
variable {X:Cx} {pins:List (Addr×Obj)} {σ:St} {H:Hp} {s:Shared} {a:Addr} {y v:V} {u r:Value} {o:Option V} {A:Around} {E:Value->Shared->Prop}
theorem Inv.big (I:Inv X pins σ H s):sysModules<s.heap.objs.size:=by
 have h:mainGlobals<s.heap.objs.size:=(I.mod.glob.keeps I.bk).lt
 exact aPz (by decide) h
theorem Pu {Q:Value->Shared->Prop} (hu:A.units+1<cLine) (I:Inv X pins σ H s) (g:dS H a y (some v)) (ry:RelV y u) (h:∀ w' s',Inv X pins σ H s'->RelV v w'->Q w' s') :
  wpAny (model X.prog X.w) A (getItem (.ref a) u) Q E s:=by
 rcases g with ⟨kvs,k,e,ey,l⟩ | ⟨kvs,k,b,e,ey,eb,l⟩
 .subst ey
  obtain ⟨z,hd,vs,rel,dd⟩:=jX I.hok e
  obtain ⟨w',hw,rw'⟩:=dH.some_of (v:=v) (o:=valueAt vs k) (by rw [l]; exact rel.val k)
  exact wpAny_getItem_of (jo ry) dd.mapOf hw (h w' _ (I.tok _) rw')
 .subst ey
  cases (show u=Value.ref b from ry)
  obtain ⟨z,hd,xs,rel,dd⟩:=jW I.hok e
  obtain ⟨w',hw,rw'⟩:=dH.some_of (v:=v) (o:=(atKey xs k).map (·.2)) (by rw [l]; exact rel.val k)
  obtain ⟨p,hp,hp2⟩:=Option.map_eq_some_iff.mp hw
  refine wpAny_getItem_heap (aYP hu) (AU I.hok eb) dd hp ?_
  rw [hp2]
  exact h w' _ (I.tok _) rw'
theorem G0 {Q:Value->Shared->Prop} (hu:A.units+1<cLine) (I:Inv X pins σ H s) (g:dS H a y o) (ry:RelV y u) (h:∀ s',Inv X pins σ H s'->Q (.bool o.isSome) s') :
  wpAny (model X.prog X.w) A (compareOp .In u (.ref a)) Q E s:=by
 rcases g with ⟨kvs,k,e,ey,l⟩ | ⟨kvs,k,b,e,ey,eb,l⟩
 .subst ey
  obtain ⟨z,hd,vs,rel,dd⟩:=jX I.hok e
  refine wpAny_in_of (jo ry) hd dd.mapOf ?_
  rw [← (rel.val k).iw,← l]
  exact h _ (I.tok _)
 .subst ey
  cases (show u=Value.ref b from ry)
  obtain ⟨z,hd,xs,rel,dd⟩:=jW I.hok e
  refine wpAny_in_heap (aYP hu) (AU I.hok eb) hd dd ?_
  have q:=(rel.val k).iw
  rw [Option.isSome_map] at q
  rw [← q,← l]
  exact h _ (I.tok _)
theorem Io {h':Heap} {t':Nat} {ob:HO} (I:Inv X pins σ H s) (mu:BF (H a)) (hs:Heap.SameBut a s.heap h') (he:∃ q,h'.get? a=some q) (new:aI X.prog X.w (upd H a ob) h' a ob) :
  Inv X pins σ (upd H a ob) { s with heap:=h',toks:=t' } :=
 I.write (x:=a) (e:=a) mu (.inl rfl) (λb q hb z=>(hs.2 b hb).trans z) he new
theorem Nm {P:Program} {w:World} {H':Hp} {h':Heap} {kvs:List (Key×V)} {vs:List (Key×Value)} (z:kvs.length<=sizeLine) (hd:(a == sysModules)=false) (rel:KV kvs vs) (dd:h'.DictOf (Zx P w) a vs) :
  aI P w H' h' a (.dK kvs):=⟨z,hd,vs,rel,dd⟩
theorem Pr {H':Hp} {Q:Unit->Shared->Prop} (hu:A.units+1<cLine) (I:Inv X pins σ H s) (g:jB H a y v H') (ry:RelV y u) (rv:RelV v r) (h:∀ s',Inv X pins σ H' s'->Q () s') :
  wpAny (model X.prog X.w) A (setItem (.ref a) u r) Q E s:=by
 rcases g with ⟨kvs,k,e,ey,l,eH⟩ | ⟨kvs,k,b,e,ey,eb,l,eH⟩
 .subst ey eH
  obtain ⟨z,hd,vs,rel,dd⟩:=qF I.hok e
  have hz:vs.length<=sizeLine:=by rw [← rel.length]; exact z
  have hl:(putK kvs k v).length<=sizeLine:=by have:=Bp kvs k v; lia
  refine wpAny_setItem_pairs (hsz:=hz) (jo ry) dd λh' wk hs=>h _ ?_
  have he:∃ q,h'.get? a=some q:=let ⟨q,_,_,hq,_⟩:=wk; ⟨q,hq⟩
  exact Io I (by rw [e]; exact True.intro) hs he (Nm hl hd (rel.put k rv) wk)
 .subst ey eH
  cases (show u=Value.ref b from ry)
  obtain ⟨z,hd,xs,rel,dd⟩:=Ay I.hok e
  have hz:xs.length<=sizeLine:=by rw [← a9d rel]; exact z
  have hl:(putK kvs k v).length<=sizeLine:=by have:=Bp kvs k v; lia
  refine wpAny_setItem_heap (hsz:=hz) (aYP hu) (AU I.hok eb) dd λh' wk hs=>h _ ?_
  obtain ⟨q,es,ep,hq,h2,h3,h4,_,h5⟩:=wk
  refine Io I (by rw [e]; exact True.intro) hs ⟨q,hq⟩ ⟨hl,hd,_,(rel.put k eb rv).keeps λc ys ec=>?_,q,es,ep,hq,h2,h3,h4,h5⟩
  rw [Zc (uh ec e (λz=>nomatch z))]
  exact ec
end
section
variable {X:Cx} {pins:List (Addr×Obj)} {σ:St} {H:Hp} {s:Shared} {a:Addr} {kvs:List (Key×V)} {k:Key} {u:Value} {A:Around} {E:Value->Shared->Prop}
theorem uI {v:V} {more:List Value} {Q:Value->Shared->Prop} (I:Inv X pins σ H s) (e:H a=some (.dK kvs)) (ry:RelV (kV k) u) (l:aM kvs k=some v) (hm:more=[]\/∃ x,more=[x])
  (h:∀ w' s',Inv X pins σ (upd H a (.dK (aU kvs k))) s'->RelV v w'->Q w' s'):wpAny (model X.prog X.w) A (call (.builtin "dict.pop") (.ref a :: u :: more)) Q E s:=by
 obtain ⟨z,hd,vs,rel,dd⟩:=qF I.hok e
 obtain ⟨w',hw,rw'⟩:=dH.some_of (v:=v) (o:=valueAt vs k) (by rw [← l]; exact rel.val k)
 have hp:(keyPart u).isSome=true:=by
  cases k with
  | inl i=>obtain ⟨t,q⟩:=(show ∃ t,u=Value.int i t from ry); subst q; rfl
  | inr x=>obtain ⟨t,q⟩:=(show ∃ t,u=Value.str x t from ry); subst q; rfl
 have ha:argsOk "dict.pop" ⟨.ref a :: u :: more,[]⟩:=by
  rcases hm with q | ⟨x,q⟩
  .subst q; exact PySem.F.args_dict_pop_2 _ _
  .subst q; exact PySem.F.args_dict_pop_3 _ _ _
 refine call_meetsIn aut dd.typeIs PySem.F.entry_dict_pop ha (meets_dict_pop_there (Zx X.prog X.w) a (jo ry) more hm hp)
  ⟨vs,w',dd,by rw [← rel.length]; exact z,hw,λh' wk hs=>h w' _ ?_ rw'⟩
 have he:∃ q,h'.get? a=some q:=let ⟨q,_,_,hq,_⟩:=wk; ⟨q,hq⟩
 exact Io I (by rw [e]; exact True.intro) hs he (Nm (awv (WH kvs k) z) hd (rel.drop k) wk)
theorem VO {r:Value} {Q:Value->Shared->Prop} (I:Inv X pins σ H s) (e:H a=some (.dK kvs)) (ry:RelV (kV k) u) (l:aM kvs k=none) (h:∀ s',Inv X pins σ H s'->Q r s') :
  wpAny (model X.prog X.w) A (call (.builtin "dict.pop") [.ref a,u,r]) Q E s:=by
 obtain ⟨z,hd,vs,rel,dd⟩:=qF I.hok e
 have hn:valueAt vs k=none:=dH.none_of (by rw [← l]; exact rel.val k)
 have hp:(keyPart u).isSome=true:=by
  cases k with
  | inl i=>obtain ⟨t,q⟩:=(show ∃ t,u=Value.int i t from ry); subst q; rfl
  | inr x=>obtain ⟨t,q⟩:=(show ∃ t,u=Value.str x t from ry); subst q; rfl
 exact call_meetsIn aut dd.typeIs PySem.F.entry_dict_pop (PySem.F.args_dict_pop_3 _ _ _) (meets_dict_pop_default (Zx X.prog X.w) a (jo ry) hd hp r) ⟨vs,dd,hn,h _ (I.tok _)⟩
end
def BE (i:Expr):Prop:=∀ ov iv,subscripted i false ov iv=operate [ov,iv] (getItem ov iv)
theorem Wg {prog:Program} {w:World} {A:Around} {E:Value->Shared->Prop} {s:Shared} {env:Env} {value slice:Expr} {pos:Pos} {T id:String} {Q:Value->Shared->Prop}
  (hl:typeLookup (.type T) "__getitem__" = pure (some (.builtin id))) (hs:BE slice)
  (h:wpAny (model prog w) A (eval value env) (λo s₁=>wpAny (model prog w) A (eval slice env) (λi s₂=>s₂.TypeIs o T/\wpAny (model prog w) A (getItem o i) Q E s₂) E s₁) E s) :
  wpAny (model prog w) A (eval (.Subscript value slice pos) env) Q E s:=by
 refine Subscript_ (acp h (λo s₁ h₁=>acp h₁ (λi s₂ h₂=>?_) λ_ _ x=>x) λ_ _ x=>x)
 obtain ⟨hT,h₂⟩:=h₂
 unfold subscriptTail
 refine awJ ?_
 rw [getitemInPython_of_ne hT.not_modules]
 refine awJ (wpAny_specialOf hT hl ?_)
 have fin:wpAny (model prog w) A (subscripted slice false o i) (λr s₃=>wpAny (model prog w) A (letTemporaryGo value o r >>= λ_=>pure r) Q E s₃) E s₂:=by
  rw [hs o i]
  exact wpAny_operating (acp h₂ (λr s₃ h₃=>awJ (wpAny_letTemporaryGo (aOf h₃))) λ_ _ x=>x)
 first
  | exact aOf (awJ fin)
  | exact awJ (aOf (awJ fin))
  | exact awJ fin
theorem YT {X:Cx} {pins:List (Addr×Obj)} {σ:St} {H:Hp} {s:Shared} {a:Addr} {y:V} {o:Option V} (I:Inv X pins σ H s) (g:dS H a y o):s.TypeIs (.ref a) "dict" := by
 rcases g with ⟨kvs,k,e,_,_⟩ | ⟨kvs,k,b,e,_,_,_⟩
 .obtain ⟨_,_,vs,_,dd⟩:=jX I.hok e
  exact dd.typeIs
 .obtain ⟨_,_,xs,_,dd⟩:=jW I.hok e
  exact dd.typeIs
def yR (td ty:TE):TE:=λσ H Q=>td σ H λx H1=>ty σ H1 λy H2=>∃ a v,x=.ref a/\dS H2 a y (some v)/\Q v H2
def E6 (ty td:TE):TE:=λσ H Q=>ty σ H λy H1=>td σ H1 λx H2=>∃ a o,x=.ref a/\dS H2 a y o/\Q (.bl o.isSome) H2
def zd (td ty tv:TE):TS:=λD σ H=>tv σ H λv H1=>td σ H1 λx H2=>ty σ H2 λy H3=>∃ a H4,x=.ref a/\jB H3 a y v H4/\D.nx σ H4
def ze (td ty tv:TE) (rd:V->V->Hp->VK->Prop):TS:=λD σ H=>td σ H λx H1=>ty σ H1 λy H2=>∃ a v,x=.ref a/\dS H2 a y (some v) /\
 tv σ H2 λy2 H3=>rd v y2 H3 λz H4=>∃ H5,jB H4 a y z H5/\D.nx σ H5
section
variable {X:Cx} {o i e value:Expr} {pos pos' tpos:Pos} {td ty tv:TE}
theorem A6 (hu:X.A.units+1<cLine) (ho:PE X o td) (hi:PE X i ty) (hs:BE i):PE X (.Subscript o i pos) (yR td ty):=by
 intro pins s σ H Q I h
 refine Wg PySem.F.slot_dict_getitem.lookup hs (aJ (ho pins s σ H _ I h) λu s1 ⟨x,H1,I1,rx,q1⟩=>aJ (hi pins s1 σ H1 _ I1 q1) λiv s2 ⟨y,H2,I2,ry,a,v,ex,g,q2⟩=>?_)
 subst ex
 obtain rfl:u=Value.ref a:=rx
 exact ⟨YT I2 g,Pu hu I2 g ry λw' s3 I3 rw'=>⟨v,H2,I3,rw',q2⟩⟩
theorem VN (hu:X.A.units+1<cLine) (hi:PE X i ty) (ho:PE X o td):PC X .In i o (E6 ty td):=by
 intro pins s σ H Q I h
 refine aJ (hi pins s σ H _ I h) λiv s1 ⟨y,H1,I1,ry,q1⟩=>aJ (ho pins s1 σ H1 _ I1 q1) λu s2 ⟨x,H2,I2,rx,a,ov,ex,g,q2⟩=>?_
 subst ex
 obtain rfl:u=Value.ref a:=rx
 exact G0 hu I2 g ry λs3 I3=>⟨.bl ov.isSome,H2,I3,rfl,q2⟩
theorem A5 (hu:X.A.units+1<cLine) (ho:PE X o td) (hi:PE X i ty) (hv:PE X value tv) (hs:swapsWith value (some (.Subscript o i pos')) pos.line X.env=pure false) :
  PS X (.Assign [.Subscript o i pos'] value pos) (zd td ty tv):=by
 intro pins s σ H D I h
 refine wpAny_Assign_Subscript (aJ (hv pins s σ H _ I h) λr s1 ⟨v,H1,I1,rv,q1⟩=>aJ (ho pins s1 σ H1 _ I1 q1) λu s2 ⟨x,H2,I2,rx,q2⟩=>aJ (hi pins s2 σ H2 _ I2 q2) λiv s3 ⟨y,H3,I3,ry,a,H4,ex,g,q3⟩=>?_) hs
 subst ex
 obtain rfl:u=Value.ref a:=rx
 exact Pr hu I3 g ry rv λs4 I4=>⟨σ,H4,I4,q3⟩
theorem Wf {op:Operator} {rd:V->V->Hp->VK->Prop} (hu:X.A.units+1<cLine) (ho:PE X o td) (hi:PE X i ty) (hv:PE X value tv) (hop:BJ X op rd)
  (ha:∀ ov iv new,augStore i ov iv new=(do holding [new,ov,iv] (setItem ov iv new); release [new,ov,iv] []; pure .next)):PS X (.AugAssign (.Subscript o i tpos) op value pos) (ze td ty tv rd):=by
 intro pins s σ H D I h
 refine wpAny_AugAssign_SubscriptAny (aJ (ho pins s σ H _ I h) λu s1 ⟨x,H1,I1,rx,q1⟩=>aJ (hi pins s1 σ H1 _ I1 q1) λiv s2 ⟨y,H2,I2,ry,a,v,ex,g,q2⟩=>?_) ha
 subst ex
 obtain rfl:u=Value.ref a:=rx
 refine Pu hu I2 g ry λw' s3 I3 rw'=>aJ (hv pins s3 σ H2 _ I3 q2) λw2 s4 ⟨y2,H3,I4,RP,q3⟩=>aJ (hop pins s4 σ H3 v y2 w' w2 _ I4 rw' RP q3) λw3 s5 ⟨z,H4,I5,rz,H5,g5,q4⟩=>?_
 exact Pr hu I5 g5 ry rz λs6 I6=>⟨σ,H5,I6,q4⟩
end
theorem WG {P:Program} {w:World} {H:Hp} (h:Heap) (hb:sysModules<h.objs.size):aI P w H (h.push { cls:=.type "dict",data:=.dict #[] }) h.objs.size (.dK []) :=
 ⟨avV _,aHA.mpr (aFS (a19 hb)),[],.nil,Heap.DictOf.new h⟩
def VM:TE:=λ_ H Q=>∀ p,H p=none->Q (.ref p) (upd H p (.dK []))
section
variable {X:Cx} {pos:Pos}
theorem Be:PE X (.Dict [] [] pos) VM:=λpins s σ H Q I h =>
 wpAny_Dict_empty ⟨.ref s.heap.objs.size,_,I.laid (a:=s.heap.objs.size) (o:=.dK []) (t':=s.toks) (λ_ _ q=>aL6 _ q) (a17 _) (WG s.heap I.big),rfl,h _ (I.hok.fresh (a17 _))⟩
end
structure M1 (X:Cx) (o:Expr) (m:Str) (apos:Pos) (e:Expr) (cpos:Pos):Prop where
 base:attributeBase o m X.env (eval o X.env)=eval o X.env
 few:((backTo cpos (starEach [e] X.env)).all (λx=>!x.1) && (backToKw cpos (keywordEach [] X.env)).all (λx=>x.1.isSome)
  && decide (([e]:List Expr).length+([]:List Keyword).length+(if ([]:List Keyword).isEmpty then 0 else 1)<30))=true
 line:(apos.endLine == cpos.line)=true
 trees:backTo cpos (starEach [e] X.env)=[(false,eval e X.env)]
structure M2 (X:Cx) (o:Expr) (m:Str) (apos:Pos) (e f:Expr) (cpos:Pos):Prop where
 base:attributeBase o m X.env (eval o X.env)=eval o X.env
 few:((backTo cpos (starEach [e,f] X.env)).all (λx=>!x.1) && (backToKw cpos (keywordEach [] X.env)).all (λx=>x.1.isSome)
  && decide (([e,f]:List Expr).length+([]:List Keyword).length+(if ([]:List Keyword).isEmpty then 0 else 1)<30))=true
 line:(apos.endLine == cpos.line)=true
 trees:backTo cpos (starEach [e,f] X.env)=[(false,eval e X.env),(false,eval f X.env)]
def Et (H:Hp) (a:Addr):Prop:=(∃ kvs,Rd H a (.dK kvs))\/∃ kvs,Rd H a (.dT kvs)
theorem Dz {X:Cx} {pins:List (Addr×Obj)} {σ:St} {H:Hp} {s:Shared} {a:Addr} (I:Inv X pins σ H s) (d:Et H a) :
  s.TypeIs (.ref a) "dict" /\ (∀ b,Value.ref a=.ref b->∃ ob,s.heap.get? b=some ob/\ob.dict=none)/\(a == sysModules)=false:=by
 rcases d with ⟨kvs,e⟩ | ⟨kvs,e⟩
 .obtain ⟨_,hd,vs,_,dd⟩:=jX I.hok e
  refine ⟨dd.typeIs,λb q=>?_,hd⟩
  cases q
  obtain ⟨ob,_,_,h1,h2,_⟩:=dd
  exact ⟨ob,h1,h2.2.1⟩
 .obtain ⟨_,hd,xs,_,dd⟩:=jW I.hok e
  refine ⟨dd.typeIs,λb q=>?_,hd⟩
  cases q
  obtain ⟨ob,_,_,h1,h2,_⟩:=dd
  exact ⟨ob,h1,h2.2.1⟩
section
variable {X:Cx} {pins:List (Addr×Obj)} {σ:St} {H:Hp} {s:Shared} {a:Addr} {y d:V} {u r:Value} {o:Option V} {A:Around} {E:Value->Shared->Prop}
theorem VL {Q:Value->Shared->Prop} (hu:A.units+1<cLine) (I:Inv X pins σ H s) (g:dS H a y o) (ry:RelV y u) (rd:RelV d r) (h:∀ w' s',Inv X pins σ H s'->RelV (o.getD d) w'->Q w' s') :
  wpAny (model X.prog X.w) A (call (.builtin "dict.get") [.ref a,u,r]) Q E s:=by
 rcases g with ⟨kvs,k,e,ey,l⟩ | ⟨kvs,k,b,e,ey,eb,l⟩
 .subst ey
  obtain ⟨z,hd,vs,rel,dd⟩:=jX I.hok e
  refine call_meetsIn aPx dd.typeIs PySem.F.entry_dict_get (PySem.F.args_dict_get_3 _ _ _) (meets_dict_get_default (Zx X.prog X.w) a (jo ry) hd r) ⟨_,dd.mapOf,h _ _ (I.tok _) ?_⟩
  rw [l]
  exact (rel.val k).getD rd
 .subst ey
  cases (show u=Value.ref b from ry)
  obtain ⟨z,hd,xs,rel,dd⟩:=jW I.hok e
  refine call_meetsIn aPx dd.typeIs PySem.F.entry_dict_get (PySem.F.args_dict_get_3 _ _ _) (meetsH_dict_get_default (tupleKind (Zx X.prog X.w)) a b hd r) ⟨aYP hu,k,xs,AU I.hok eb,dd,h _ _ (I.tok _) ?_⟩
  rw [l]
  exact (rel.val k).getD rd
end
def VJ (td ty tx:TE):TE:=λσ H Q=>td σ H λx H1=>∃ a,x=.ref a/\Et H1 a/\ty σ H1 λy H2=>tx σ H2 λz H3=>∃ o,dS H3 a y o/\Q (o.getD z) H3
def VI (td ty:TE):TE:=λσ H Q=>td σ H λx H1=>∃ a,x=.ref a/\Et H1 a/\ty σ H1 λy H2=>∃ kvs k v,H2 a=some (.dK kvs)/\y=kV k/\aM kvs k=some v/\Q v (upd H2 a (.dK (aU kvs k)))
def VH (td ty tx:TE):TE:=λσ H Q=>td σ H λx H1=>∃ a,x=.ref a/\Et H1 a/\ty σ H1 λy H2=>tx σ H2 λz H3=>∃ kvs k,H3 a=some (.dK kvs)/\y=kV k /\
 (∀ v,aM kvs k=some v->Q v (upd H3 a (.dK (aU kvs k))))/\(aM kvs k=none->Q z H3)
section
variable {X:Cx} {o e f:Expr} {apos cpos:Pos} {td ty tx:TE}
theorem IU (hu:X.A.units+1<cLine) (ho:PE X o td) (he:PE X e ty) (hf:PE X f tx) (m:M2 X o "get" apos e f cpos):PE X (.Call (.Attribute o "get" apos) [e,f] [] cpos) (VJ td ty tx):=by
 intro pins s σ H Q I h
 refine wpAny_Call_method m.base m.few m.line auI aPx PySem.F.type_dict_get (aJ (ho pins s σ H _ I h) λu s1 ⟨x,H1,I1,rx,a,ex,d,q1⟩=>?_)
 subst ex
 obtain rfl:u=Value.ref a:=rx
 obtain ⟨t1,t2,_⟩:=Dz I1 d
 refine ⟨t1,t2,?_⟩
 rw [m.trees]
 refine asT rfl (aa5 (a5K (aJ (he pins s1 σ H1 _ I1 q1) λiv s2 ⟨y,H2,I2,ry,q2⟩ =>
  a5K (aJ (hf pins s2 σ H2 _ I2 q2) λfv s3 ⟨z,H3,I3,rz,ov,g,q3⟩=>anp ?_))))
 exact VL hu I3 g ry rz λw' s4 I4 rw'=>⟨_,H3,I4,rw',q3⟩
theorem OU (ho:PE X o td) (he:PE X e ty) (m:M1 X o "pop" apos e cpos):PE X (.Call (.Attribute o "pop" apos) [e] [] cpos) (VI td ty):=by
 intro pins s σ H Q I h
 refine wpAny_Call_method m.base m.few m.line auI aut PySem.F.type_dict_pop (aJ (ho pins s σ H _ I h) λu s1 ⟨x,H1,I1,rx,a,ex,d,q1⟩=>?_)
 subst ex
 obtain rfl:u=Value.ref a:=rx
 obtain ⟨t1,t2,_⟩:=Dz I1 d
 refine ⟨t1,t2,?_⟩
 rw [m.trees]
 refine asT rfl (aa5 (a5K (aJ (he pins s1 σ H1 _ I1 q1) λiv s2 ⟨y,H2,I2,ry,kvs,k,v,ea,ey,l,q2⟩=>anp ?_)))
 subst ey
 exact uI I2 ea ry l (.inl rfl) λw' s3 I3 rw'=>⟨v,_,I3,rw',q2⟩
theorem OT (ho:PE X o td) (he:PE X e ty) (hf:PE X f tx) (m:M2 X o "pop" apos e f cpos):PE X (.Call (.Attribute o "pop" apos) [e,f] [] cpos) (VH td ty tx):=by
 intro pins s σ H Q I h
 refine wpAny_Call_method m.base m.few m.line auI aut PySem.F.type_dict_pop (aJ (ho pins s σ H _ I h) λu s1 ⟨x,H1,I1,rx,a,ex,d,q1⟩=>?_)
 subst ex
 obtain rfl:u=Value.ref a:=rx
 obtain ⟨t1,t2,_⟩:=Dz I1 d
 refine ⟨t1,t2,?_⟩
 rw [m.trees]
 refine asT rfl (aa5 (a5K (aJ (he pins s1 σ H1 _ I1 q1) λiv s2 ⟨y,H2,I2,ry,q2⟩ =>
  a5K (aJ (hf pins s2 σ H2 _ I2 q2) λfv s3 ⟨z,H3,I3,rz,kvs,k,ea,ey,q3,q4⟩=>anp ?_))))
 subst ey
 cases l:aM kvs k with
 | some v=>exact uI I3 ea ry l (.inr ⟨fv,rfl⟩) λw' s4 I4 rw'=>⟨v,_,I4,rw',q3 v l⟩
 | none=>exact VO I3 ea ry l λs4 I4=>⟨z,H3,I4,rz,q4 l⟩
end
section
variable {κ:Type} [DecidableEq κ]
theorem A4:∀ {l:List κ} {k:κ},l.Nodup->¬ k∈l->(l++[k]).Nodup
 | [],k,_,_=>by simp
 | a :: r,k,h,hk=>by
  obtain ⟨h1,h2⟩:=aEW.mp h
  show (a :: (r++[k])).Nodup
  refine aEW.mpr ⟨λm=>?_,A4 h2 λm=>hk (aM6.mpr (Or.inr m))⟩
  rcases aPD.mp m with q | q
  .exact h1 q
  .exact hk (aM6.mpr (Or.inl (ai5.mp q).symm))
theorem X8 {p:κ×V} {r:List (κ×V)} {k:κ} (e:p.1=k):aU (p :: r) k=aU r k:=by
 unfold aU
 rw [ba1,aBJ (by simp [e])]
theorem X7 {p:κ×V} {r:List (κ×V)} {k:κ} (e:¬ p.1=k):aU (p :: r) k=p :: aU r k:=by
 unfold aU
 rw [ba1,ajr (by simp [e])]
end
theorem OR {P:Program} {w:World} {k:Key} {u:Value} (h:(Zx P w).is k u=true):RelV (kV k) u:=by
 rw [Yw] at h
 rcases ZD h with ⟨i,t,rfl,rfl⟩ | ⟨x,t,rfl,rfl⟩
 .exact ⟨t,rfl⟩
 .exact ⟨t,rfl⟩
structure Src (P0:Program) (w0:World) (it l:Addr) (its:Array Value) (pos:Nat->Heap->Prop) (sq:Heap->Prop):Prop where
 item:∀ {A0:Around} {E0:Value->Shared->Prop} {t:Shared} {i:Nat} {x:Value} {Q0:Value->Shared->Prop},pos i t.heap->sq t.heap->its[i]?=some x->(∀ g,pos (i+1) g->Heap.SameBut it t.heap g->Q0 x { t with heap:=g })->wpAny (model P0 w0) A0 (Builtin.SmallTypes.nextOf (.ref it)) Q0 E0 t
 stop:∀ {A0:Around} {E0:Value->Shared->Prop} {t:Shared} {i:Nat} {Q0:Value->Shared->Prop},A0.handled=none->pos i t.heap->sq t.heap->its[i]?=none->(∀ g e,Heap.ExtBut it t.heap g->(∃ o,g.get? e=some o/\o.cls=.type "StopIteration")->E0 (.ref e) { t with heap:=g })->wpAny (model P0 w0) A0 (Builtin.SmallTypes.nextOf (.ref it)) Q0 E0 t
 iL:∀ {i:Nat} {g g':Heap},pos i g->(∀ o,g.get? it=some o->g'.get? it=some o)->pos i g'
 nC:∀ {g g':Heap},sq g->(∀ o,g.get? l=some o->g'.get? l=some o)->sq g'
 obj:∀ {i:Nat} {g:Heap},pos i g->∃ o,g.get? it=some o/\∀ v,o.data≠.cell v
section
variable {P0:Program} {w0:World} {A0:Around} {E0:Value->Shared->Prop} {t:Shared}
theorem Z0 {it a:Addr} {i:Nat} {its:Array Value} {x:Value} {Q0:Value->Shared->Prop} (st:t.heap.IsTupleIter it a i) (tp:t.heap.IsTuple a its) (hx:its[i]?=some x)
  (k:∀ g,g.IsTupleIter it a (i+1)->Heap.SameBut it t.heap g->Q0 x { t with heap:=g }):wpAny (model P0 w0) A0 (Builtin.SmallTypes.nextOf (.ref it)) Q0 E0 t:=by
 obtain ⟨oi,gi,ci,di⟩:=id st
 obtain ⟨oa,ga,_,n,da⟩:=tp
 unfold Builtin.SmallTypes.nextOf
 refine awJ (a7K (name:=Str.ofString "__next__") st.typeIs aAn (ba8 aAn st.typeIs F.entry_tuple_iterator_next ?_ (F.args_tuple_iterator_next_1 _)))
 show wpAny _ _ (field (.ref it) 0 >>= _) _ _ t
 refine awJ (aDI gi di (x:=.ref a) rfl ?_)
 show wpAny _ _ (if (Value.ref a == Value.none)=true then _ else _) _ _ t
 rw [aBJ (show ¬ ((Value.ref a == Value.none)=true) from am8)]
 show wpAny _ _ (field (.ref it) 1 >>= _) _ _ t
 refine awJ (aDI gi di (x:=.int i 0) rfl ?_)
 show wpAny _ _ (seqItems? (.ref a) >>= _) _ _ t
 refine awJ (alb ga da ?_)
 simp only [hx,Int.toNat_natCast]
 refine awJ (wpAny_setField gi di (by simp) (aOf ⟨x,rfl,aOf (k _ ⟨_,Heap.get?_update_self _ gi (Obj.isFreed_of_fields (Obj.data_mapFields di _)),(Obj.cls_mapFields ..).trans ci,?_⟩ (Heap.SameBut.update ..))⟩))
 rw [Obj.data_mapFields di]
 simp [rawInt]
theorem Y9 {it a:Addr} {i:Nat} {its:Array Value} {Q0:Value->Shared->Prop} (hA:A0.handled=none) (st:t.heap.IsTupleIter it a i) (tp:t.heap.IsTuple a its) (hx:its[i]?=none)
  (k:∀ g e,Heap.ExtBut it t.heap g->(∃ o,g.get? e=some o/\o.cls=.type "StopIteration")->E0 (.ref e) { t with heap:=g }):wpAny (model P0 w0) A0 (Builtin.SmallTypes.nextOf (.ref it)) Q0 E0 t:=by
 obtain ⟨oi,gi,ci,di⟩:=id st
 obtain ⟨oa,ga,_,n,da⟩:=tp
 unfold Builtin.SmallTypes.nextOf
 refine awJ (a7K (name:=Str.ofString "__next__") st.typeIs aAn (ba8 aAn st.typeIs F.entry_tuple_iterator_next ?_ (F.args_tuple_iterator_next_1 _)))
 show wpAny _ _ (field (.ref it) 0 >>= _) _ _ t
 refine awJ (aDI gi di (x:=.ref a) rfl ?_)
 show wpAny _ _ (if (Value.ref a == Value.none)=true then _ else _) _ _ t
 rw [aBJ (show ¬ ((Value.ref a == Value.none)=true) from am8)]
 show wpAny _ _ (field (.ref it) 1 >>= _) _ _ t
 refine awJ (aDI gi di (x:=.int i 0) rfl ?_)
 show wpAny _ _ (seqItems? (.ref a) >>= _) _ _ t
 refine awJ (alb ga da ?_)
 simp only [hx,Int.toNat_natCast]
 refine awJ (ag2 (awJ (wpAny_setField gi di (by simp) ?_)))
 show wpAny _ _ (newExc (.type "StopIteration") [] >>= _) _ _ _
 refine awJ ?_
 simp only [newTuple,newExc]
 refine awJ (aZW (awJ (m:=firstArgMember _ _) (wpAny_of_eq (a:=Value.none) (by first | rfl | (simp only [firstArgMember]; rfl)) (aZW ?_ (by size_fits)))) (by size_fits))
 simp only [raiseNew]
 refine awJ (wpAny_handled ?_)
 first | rw [show A0.in1.handled=none from hA] | rw [hA]
 exact awJ (aOf (wpAny_throw (k _ _ (((Heap.SameBut.update ..).extBut.push _).push _) ⟨_,aWh _ rfl,rfl⟩)))
end
theorem Bo {h:Heap} {it l:Addr} {i:Nat} (x:h.IsTupleIter it l i):∃ o,h.get? it=some o/\∀ v,o.data≠.cell v:=by
 obtain ⟨o,e,c,d⟩:=x
 exact ⟨o,e,λv z=>by rw [d] at z; cases z⟩
theorem DM {P0:Program} {w0:World} (it l:Addr) (its:Array Value):Src P0 w0 it l its (λi h=>h.IsTupleIter it l i) (λh=>h.IsTuple l its) where
 item:=λa b c d=>Z0 a b c d
 stop:=λa b c d e=>Y9 a b c d e
 iL:=λa b=>a.at b
 nC:=λa b=>by obtain ⟨o,e,r⟩:=a; exact ⟨o,b o e,r⟩
 obj:=λa=>Bo a
section
variable {P0:Program} {w0:World} {A0:Around} {E0:Value->Shared->Prop} {t:Shared} {z TI TO ia ib la lb:Addr} {p1 p2:Nat->Heap->Prop} {q1 q2:Heap->Prop} {xs ys:Array Value}
theorem X6 {k:Nat} {x y u v:Value} {Q0:Value->Shared->Prop} (S1:Src P0 w0 ia la xs p1 q1) (S2:Src P0 w0 ib lb ys p2 q2) (D:ZipApart z TI TO ia ib la lb)
  (zz:IsZip t.heap z TI TO .none) (zI:IsPair t.heap TI (.ref ia) (.ref ib)) (zO:IsPair t.heap TO u v) (a1:p1 k t.heap) (a2:p2 k t.heap) (b1:q1 t.heap) (b2:q2 t.heap) (hx:xs[k]?=some x) (hy:ys[k]?=some y)
  (fin:∀ g,IsZip g z TI TO (rawInt t.heap.objs.size)->IsPair g TO x y->p1 (k+1) g->p2 (k+1) g->IsPair g t.heap.objs.size x y->g.objs.size=t.heap.objs.size+1 ->
   (∀ c o,c≠z->c≠TO->c≠ia->c≠ib->t.heap.get? c=some o->g.get? c=some o)->Q0 (.ref t.heap.objs.size) { t with heap:=g }) :
  wpAny (model P0 w0) A0 (Builtin.«zip.__next__» ⟨[.ref z],[]⟩) (λf s'=>∃ v,f=.done (.ret v)/\Q0 v s') E0 t:=by
 show wpAny _ _ (field (.ref z) 2 >>= _) _ _ _
 refine awJ (aDI zz rfl (x:=.bool false) rfl ?_)
 show wpAny _ _ (field (.ref z) 3 >>= _) _ _ _
 refine awJ (aDI zz rfl (x:=.ref TI) rfl (awJ (alb zI rfl ?_)))
 show wpAny _ _ (Builtin.SmallTypes.ownedTupleIsFree (.ref z) >>= _) _ _ _
 refine awJ ?_
 unfold Builtin.SmallTypes.ownedTupleIsFree
 refine awJ (aDI zz rfl (x:=.none) rfl (aOf ?_))
 simp only [aSf]
 refine awJ (ag2 (awJ (aDI zz rfl (x:=.ref TO) rfl (awJ (aHJ zz (by simp) λg1 z1 c1=>?_)))))
 replace z1:IsZip g1 z TI TO .ellipsis:=z1
 refine awJ ?_
 simp only [aU9,List.forIn_nil,List.zipIdx_cons,List.zipIdx_nil]
 refine awJ (awJ (wpAny_onRaise ?_))
 show wpAny _ _ (Builtin.SmallTypes.nextOf (.ref ia) >>= _) _ _ _
 refine awJ (S1.item (S1.iL a1 λo e=>c1.extBut _ o D.i1z e) (S1.nC b1 λo e=>c1.extBut _ o D.l1z e) hx λg2 UK c2=>aOf ?_)
 have o2:IsPair g2 TO u v:=c2.extBut _ _ D.TOi1 (c1.extBut _ _ D.TOz zO)
 refine awJ (alb o2 rfl (awJ (wpAny_updateSeq_pair o2 λg3 o3 c3=>?_)))
 replace o3:IsPair g3 TO x v:=o3
 refine awJ (wpAny_letGo (aOf ?_))
 refine awJ (awJ (wpAny_onRaise ?_))
 show wpAny _ _ (Builtin.SmallTypes.nextOf (.ref ib) >>= _) _ _ _
 have m3:∀ c o,c≠z->c≠ia->c≠TO->t.heap.get? c=some o->g3.get? c=some o:=λc o n1 n2 n3 e=>c3.extBut _ _ n3 (c2.extBut _ _ n2 (c1.extBut _ _ n1 e))
 refine awJ (S2.item (S2.iL a2 λo e=>m3 _ o D.i2z D.i12.symm D.TOi2.symm e) (S2.nC b2 λo e=>m3 _ o D.l2z D.l2i1 D.l2TO e) hy λg4 UI c4=>aOf ?_)
 have o4:IsPair g4 TO x v:=c4.extBut _ _ D.TOi2 o3
 refine awJ (alb o4 rfl (awJ (wpAny_updateSeq_pair o4 λg5 o5 c5=>?_)))
 replace o5:IsPair g5 TO x y:=o5
 refine awJ (wpAny_letGo (aOf (aOf ?_)))
 refine awJ (alb o5 rfl (awJ (wpAny_newTuple ?_)))
 have sz:g5.objs.size=t.heap.objs.size:=by rw [c5.1,c4.1,c3.1,c2.1,c1.1]
 have m5:∀ c o,c≠z->c≠TO->c≠ia->c≠ib->t.heap.get? c=some o->g5.get? c=some o:=λc o n1 n2 n3 n4 e=>c5.extBut _ _ n2 (c4.extBut _ _ n4 (m3 c o n1 n3 n2 e))
 have z5:IsZip g5 z TI TO .ellipsis:=c5.extBut _ _ D.TOz.symm (c4.extBut _ _ D.i2z.symm (c3.extBut _ _ D.TOz.symm (c2.extBut _ _ D.i1z.symm z1)))
 have UJ:p1 (k+1) g5:=S1.iL UK λo e=>c5.extBut _ o D.TOi1.symm (c4.extBut _ o D.i12 (c3.extBut _ o D.TOi1.symm e))
 have UH:p2 (k+1) g5:=S2.iL UI λo e=>c5.extBut _ o D.TOi2.symm e
 have K8:z<g5.objs.size:=aDe z5
 show wpAny _ _ (Builtin.SmallTypes.ownedTupleHandOut (.ref z) (.ref g5.objs.size) >>= _) _ _ _
 refine awJ ?_
 unfold Builtin.SmallTypes.ownedTupleHandOut
 have z6:IsZip (g5.push { cls:=.type "tuple",data:=.seq #[x,y] }) z TI TO .ellipsis:=aL6 _ z5
 refine awJ (aHJ z6 (by simp) λg7 z7 c7=>?_)
 replace z7:IsZip g7 z TI TO (rawInt g5.objs.size):=z7
 refine aHJ z7 (by simp) λg8 z8 c8=>?_
 replace z8:IsZip g8 z TI TO (rawInt g5.objs.size):=z8
 have m8:∀ c o,c≠z->g5.get? c=some o->g8.get? c=some o:=λc o n1 e=>c8.extBut _ _ n1 (c7.extBut _ _ n1 (aL6 _ e))
 have t8:IsPair g8 g5.objs.size x y:=c8.extBut _ _ (aL1 K8) (c7.extBut _ _ (aL1 K8) (aWh _ rfl))
 have s8:g8.objs.size=g5.objs.size+1:=by rw [c8.1,c7.1,aHg]
 rw [sz] at z8 t8 s8
 refine aOf ⟨_,rfl,?_⟩
 show Q0 (.ref g5.objs.size) _
 rw [sz]
 exact fin g8 z8 (m8 _ _ D.TOz o5) (S1.iL UJ λo e=>m8 _ o D.i1z e) (S2.iL UH λo e=>m8 _ o D.i2z e) t8 s8 λc o n1 n2 n3 n4 e=>m8 c o n1 (m5 c o n1 n2 n3 n4 e)
theorem X5 {k:Nat} {u v:Value} {Q0:Fin->Shared->Prop} (hA:A0.handled=none) (S1:Src P0 w0 ia la xs p1 q1) (S2:Src P0 w0 ib lb ys p2 q2) (D:ZipApart z TI TO ia ib la lb)
  (zz:IsZip t.heap z TI TO .none) (zI:IsPair t.heap TI (.ref ia) (.ref ib)) (zO:IsPair t.heap TO u v) (a1:p1 k t.heap) (b1:q1 t.heap) (hx:xs[k]?=none)
  (fin:∀ g e,(∀ c o,c≠z->c≠TO->c≠ia->c≠ib->t.heap.get? c=some o->g.get? c=some o)->(∃ o,g.get? e=some o/\o.cls=.type "StopIteration")->E0 (.ref e) { t with heap:=g }) :
  wpAny (model P0 w0) A0 (Builtin.«zip.__next__» ⟨[.ref z],[]⟩) Q0 E0 t:=by
 show wpAny _ _ (field (.ref z) 2 >>= _) _ _ _
 refine awJ (aDI zz rfl (x:=.bool false) rfl ?_)
 show wpAny _ _ (field (.ref z) 3 >>= _) _ _ _
 refine awJ (aDI zz rfl (x:=.ref TI) rfl (awJ (alb zI rfl ?_)))
 show wpAny _ _ (Builtin.SmallTypes.ownedTupleIsFree (.ref z) >>= _) _ _ _
 refine awJ ?_
 unfold Builtin.SmallTypes.ownedTupleIsFree
 refine awJ (aDI zz rfl (x:=.none) rfl (aOf ?_))
 simp only [aSf]
 refine awJ (ag2 (awJ (aDI zz rfl (x:=.ref TO) rfl (awJ (aHJ zz (by simp) λg1 z1 c1=>?_)))))
 replace z1:IsZip g1 z TI TO .ellipsis:=z1
 refine awJ ?_
 simp only [aU9,List.forIn_nil,List.zipIdx_cons,List.zipIdx_nil]
 refine awJ (awJ (wpAny_onRaise ?_))
 show wpAny _ _ (Builtin.SmallTypes.nextOf (.ref ia) >>= _) _ _ _
 refine awJ (S1.stop hA (S1.iL a1 λo e=>c1.extBut _ o D.i1z e) (S1.nC b1 λo e=>c1.extBut _ o D.l1z e) hx λg2 e c2 he=>?_)
 obtain ⟨oe,GQ,ce⟩:=he
 have z2:IsZip g2 z TI TO .ellipsis:=c2 _ _ D.i1z.symm z1
 have ne:e≠z:=λq=>by rw [q,z2] at GQ; cases GQ; simp at ce
 exact aHJ z2 (by simp) λg3 _ c3=>fin g3 e (λc o n1 _ n3 _ q=>c3.extBut _ _ n1 (c2 _ _ n3 (c1.extBut _ _ n1 q))) ⟨oe,c3.extBut _ _ ne GQ,ce⟩
theorem Y8 {k:Nat} {x y u v:Value} {Q0:Option Value->Shared->Prop} (S1:Src P0 w0 ia la xs p1 q1) (S2:Src P0 w0 ib lb ys p2 q2) (D:ZipApart z TI TO ia ib la lb)
  (zz:IsZip t.heap z TI TO .none) (zI:IsPair t.heap TI (.ref ia) (.ref ib)) (zO:IsPair t.heap TO u v) (a1:p1 k t.heap) (a2:p2 k t.heap) (b1:q1 t.heap) (b2:q2 t.heap) (hx:xs[k]?=some x) (hy:ys[k]?=some y)
  (fin:∀ g,IsZip g z TI TO (rawInt t.heap.objs.size)->IsPair g TO x y->p1 (k+1) g->p2 (k+1) g->IsPair g t.heap.objs.size x y->g.objs.size=t.heap.objs.size+1 ->
   (∀ c o,c≠z->c≠TO->c≠ia->c≠ib->t.heap.get? c=some o->g.get? c=some o)->Q0 (some (.ref t.heap.objs.size)) { t with heap:=g }):wpAny (model P0 w0) A0 (pyNext (.ref z)) Q0 E0 t:=by
 have ty:t.TypeIs (.ref z) "zip" := ⟨_,zz,rfl⟩
 unfold pyNext
 exact awJ (wpAny_attempt (a7K (name:=Str.ofString "__next__") ty F.slot_zip_next (ba8 F.slot_zip_next ty F.entry_zip_next (X6 S1 S2 D zz zI zO a1 a2 b1 b2 hx hy λg r1 r2 r3 r4 r5 r6 r7=>aOf (fin g r1 r2 r3 r4 r5 r6 r7)) (F.args_zip_next_1 _))))
theorem Y7 {k:Nat} {u v:Value} {Q0:Option Value->Shared->Prop} (hA:A0.handled=none) (S1:Src P0 w0 ia la xs p1 q1) (S2:Src P0 w0 ib lb ys p2 q2) (D:ZipApart z TI TO ia ib la lb)
  (zz:IsZip t.heap z TI TO .none) (zI:IsPair t.heap TI (.ref ia) (.ref ib)) (zO:IsPair t.heap TO u v) (a1:p1 k t.heap) (b1:q1 t.heap) (hx:xs[k]?=none)
  (fin:∀ g,(∀ c o,c≠z->c≠TO->c≠ia->c≠ib->t.heap.get? c=some o->g.get? c=some o)->Q0 none { t with heap:=g }):wpAny (model P0 w0) A0 (pyNext (.ref z)) Q0 E0 t:=by
 have ty:t.TypeIs (.ref z) "zip" := ⟨_,zz,rfl⟩
 unfold pyNext
 refine awJ (wpAny_attempt (a7K (name:=Str.ofString "__next__") ty F.slot_zip_next (ba8 F.slot_zip_next ty F.entry_zip_next (X5 hA S1 S2 D zz zI zO a1 b1 hx λg e kp he=>?_) (F.args_zip_next_1 _))))
 obtain ⟨oe,ge,ce⟩:=he
 exact awJ (wpAny_isInstance (T := "StopIteration") (b:=true) ⟨oe,ge,ce⟩ isSubtype_stop (aOf (fin _ kp)))
end
abbrev BS (h:Heap) (a:Addr):Heap:=h.push { cls:=.type "tuple_iterator",data:=.fields #[.ref a,.int 0 0] }
abbrev BR (h:Heap) (a b:Addr):Heap:=(BS h a).push { cls:=.type "tuple_iterator",data:=.fields #[.ref b,.int 0 0] }
abbrev BQ (h:Heap) (a b:Addr):Heap:=(BR h a b).push { cls:=.type "tuple",data:=.seq #[.ref h.objs.size,.ref (BS h a).objs.size] }
abbrev BP (h:Heap) (a b:Addr):Heap:=(BQ h a b).push { cls:=.type "tuple",data:=.seq #[.none,.none] }
abbrev wY (h:Heap) (a b:Addr):Heap:=(BP h a b).push { cls:=.type "zip",data:=.fields #[.none,.bool false,.bool false,.ref (BR h a b).objs.size,.ref (BQ h a b).objs.size] }
theorem Yj (a b:Addr) (xs ys:Array Value) :
  Meets (Builtin.«zip.__new__» ⟨[.type "zip",.ref a,.ref b],[]⟩) (λ_ R s=>s.heap.IsTuple a xs/\s.heap.IsTuple b ys/\R (.ok (.ret (.ref (BP s.heap a b).objs.size))) { s with heap:=wY s.heap a b }) :=
 .of_wp λP0 w0 A0 R t h=>by
  obtain ⟨hp,gn,dr,tk,os⟩:=t
  obtain ⟨ta,tb,h⟩:=h
  have sub:=sub_zip
  have qa:Heap.IsTuple (Shared.heap ⟨hp,gn,dr,tk,os⟩) a xs:=ta
  have qb:Heap.IsTuple (Shared.heap ⟨hp.push { cls:=.type "tuple_iterator",data:=.fields #[.ref a,.int 0 0] },gn,dr,tk,os⟩) b ys:=Heap.IsTuple.push tb _
  wp_walk using wpAny_pyIter_tuple qa,wpAny_pyIter_tuple qb
  exact ⟨_,rfl,h⟩
theorem X4 {P0:Program} {w0:World} {A0:Around} {E0:Value->Shared->Prop} {t:Shared} {a b:Addr} {xs ys:Array Value} {Q0:Value->Shared->Prop} (ta:t.heap.IsTuple a xs) (tb:t.heap.IsTuple b ys)
  (h:∀ g,IsZip g (t.heap.objs.size+4) (t.heap.objs.size+2) (t.heap.objs.size+3) .none->IsPair g (t.heap.objs.size+2) (.ref t.heap.objs.size) (.ref (t.heap.objs.size+1))->IsPair g (t.heap.objs.size+3) .none .none ->
   g.IsTupleIter t.heap.objs.size a 0->g.IsTupleIter (t.heap.objs.size+1) b 0->(∀ c o,t.heap.get? c=some o->g.get? c=some o)->Q0 (.ref (t.heap.objs.size+4)) { t with heap:=g }) :
  wpAny (model P0 w0) A0 (call (.type "zip") [.ref a,.ref b]) Q0 E0 t:=by
 refine callType_new F.called_zip (by decide) (F.typeCall_zip_2 _ _) (F.newCall_zip_2 _ _) (λobj=>F.args_object_init_3 obj _ _) F.entry_zip_new (Yj a b xs ys) ⟨ta,tb,?_⟩
 have n1:(BS t.heap a).objs.size=t.heap.objs.size+1:=aHg ..
 have n2:(BR t.heap a b).objs.size=t.heap.objs.size+2:=by rw [aHg,n1]
 have n3:(BQ t.heap a b).objs.size=t.heap.objs.size+3:=by rw [aHg,n2]
 have n4:(BP t.heap a b).objs.size=t.heap.objs.size+4:=by rw [aHg,n3]
 have r5:(wY t.heap a b).get? (BP t.heap a b).objs.size=some _:=aWh _ rfl
 have r4:(wY t.heap a b).get? (BQ t.heap a b).objs.size=some _:=aL6 _ (aWh _ rfl)
 have r3:(wY t.heap a b).get? (BR t.heap a b).objs.size=some _:=aL6 _ (aL6 _ (aWh _ rfl))
 have r2:(wY t.heap a b).get? (BS t.heap a).objs.size=some _:=aL6 _ (aL6 _ (aL6 _ (aWh _ rfl)))
 have r1:(wY t.heap a b).get? t.heap.objs.size=some _:=aL6 _ (aL6 _ (aL6 _ (aL6 _ (aWh _ rfl))))
 show _/\_
 rw [n2,n3,n4] at r5
 rw [n1,n2] at r3
 rw [n3] at r4
 rw [n1] at r2
 rw [n4]
 refine ⟨⟨_,r5,rfl⟩,h _ r5 r3 r4 ⟨_,r1,rfl,rfl⟩ ⟨_,r2,rfl,rfl⟩ λc o q=>?_⟩
 iterate 5 refine aL6 _ ?_
 exact q
def qX (K:W.Frag) (a b:Addr):It :=
 ⟨λi H=>∃ xs ys x y,bB K H a xs/\bB K H b ys/\xs[i]?=some x/\ys[i]?=some y,
 λi H v H'=>∃ t x y,H t=none/\v=.ref t/\H'=upd H t (.tup [x,y])/\(∀ xs,bB K H a xs->xs[i]?=some x)/\∀ ys,bB K H b ys->ys[i]?=some y,
 λi H=>∃ xs,bB K H a xs/\(∃ ys,bB K H b ys)/\xs.length<=i⟩
theorem X3 {P:Program} {w:World} {K:W.Frag} {elts:List PySem.Expr} {x1} {pos:Pos} (z TI TO i1 i2 a b:Addr) (D:ZipApart z TI TO i1 i2 a b) :
  Turn P w K (.Tuple elts x1 pos) (qX K a b) [z,TI,TO,i1,i2] z (λi h=>IsZip h z TI TO .none/\IsPair h TI (.ref i1) (.ref i2)/\(∃ u v,IsPair h TO u v)/\h.IsTupleIter i1 a i/\h.IsTupleIter i2 b i) where
 mem:=by simp
 obj:=λi h st c hc=>by
  obtain ⟨hz,hTI,⟨u,v,hTO⟩,h1,h2⟩:=st
  simp only [aOs,azX,avK] at hc
  rcases hc with rfl | rfl | rfl | rfl | rfl
  .exact ⟨_,hz,λv e=>by cases e⟩
  .exact ⟨_,hTI,λv e=>by cases e⟩
  .exact ⟨_,hTO,λv e=>by cases e⟩
  .exact Bo h1
  .exact Bo h2
 keep:=λi h h' st k=>by
  obtain ⟨hz,hTI,⟨u,v,hTO⟩,h1,h2⟩:=st
  exact ⟨k z (by simp) _ hz,k TI (by simp) _ hTI,⟨u,v,k TO (by simp) _ hTO⟩,h1.at λo e=>k i1 (by simp) o e,h2.at λo e=>k i2 (by simp) o e⟩
 item:=by
  intro X hP hw hK hc i pins s σ H E I hf st hg
  subst hP hw hK
  obtain ⟨xs,ys,x,y,mQ,mP,hx,hy⟩:=hg
  obtain ⟨hz,hTI,⟨u0,v0,hTO⟩,h1,h2⟩:=st
  obtain ⟨jq,ra,pa,za⟩:=I.tuple mQ
  obtain ⟨jM,rb,pb,zb⟩:=I.tuple mP
  obtain ⟨ux,hux,Ff⟩:=ra.get hx
  obtain ⟨uy,Gr,Fe⟩:=rb.get hy
  refine Y8 (DM i1 a jq.toArray) (DM i2 b jM.toArray) D hz hTI hTO h1 h2 (show s.heap.IsTuple a jq.toArray from pa) (show s.heap.IsTuple b jM.toArray from pb) (x:=ux) (y:=uy) (by simpa using hux) (by simpa using Gr) λh' a1 a2 a3 a4 a5 a6 a7=>?_
  refine ⟨.ref s.heap.objs.size,rfl,?_⟩
  refine wpAny_letOwnedTupleGo_zip a1 λh2' hz' hs'=>?_
  have qv:z<s.heap.objs.size:=aDe hz
  have kk:∀ c o,c∉[z,TI,TO,i1,i2]->s.heap.get? c=some o->h2'.get? c=some o:=λc o hc e=>by
   simp only [aOs,azX,avK,not_or] at hc
   exact hs'.extBut c o hc.1 (a7 c o hc.1 hc.2.2.1 hc.2.2.2.1 hc.2.2.2.2 e)
  have tp:h2'.get? s.heap.objs.size=some { cls:=.type "tuple",data:=.seq #[ux,uy] }:=hs'.extBut _ _ (aL1 qv) a5
  have I1:Inv X pins σ (upd H s.heap.objs.size (.tup [x,y])) { s with heap:=h2',toks:=s.toks } :=
   I.mL hf kk ⟨by show 2<=sizeLine; decide,[ux,uy],.cons Ff (.cons Fe .nil),⟨_,tp,rfl,_,rfl⟩⟩
  have KW:h2'.get? TI=s.heap.get? TI:=by
   rw [hTI]
   exact hs'.extBut _ _ D.TIz (a7 _ _ D.TIz D.TITO D.TIi1 D.TIi2 hTI)
  refine ⟨.ref s.heap.objs.size,_,I1,rfl,⟨s.heap.objs.size,x,y,I.hok.fresh (a17 _),rfl,rfl,λxs' h=>by rw [I.iu h mQ]; exact hx,λys' h=>by rw [I.iu h mP]; exact hy⟩,⟨hz',?_,⟨ux,uy,hs'.extBut _ _ D.TOz a2⟩,a3.at λo e=>hs'.extBut _ o D.i1z e,a4.at λo e=>hs'.extBut _ o D.i2z e⟩,λc hc=>?_⟩
  .show h2'.get? TI=_
   rw [KW]; exact hTI
  .have hc':=hc
   have hlt:c<s.heap.objs.size:=by
    simp only [aOs,azX,avK] at hc'
    rcases hc' with rfl | rfl | rfl | rfl | rfl
    .exact qv
    .exact aDe hTI
    .exact aDe hTO
    .obtain ⟨o,e,_⟩:=Bo h1; exact aDe e
    .obtain ⟨o,e,_⟩:=Bo h2; exact aDe e
   rw [Zc (a19 hlt)]
   exact (hf c hc).1
 done:=by
  intro X hP hw hK hc i pins s σ H E I hf st hg
  subst hP hw hK
  obtain ⟨xs,mQ,⟨ys,mP⟩,hend⟩:=hg
  obtain ⟨hz,hTI,⟨u0,v0,hTO⟩,h1,h2⟩:=st
  obtain ⟨jq,ra,pa,za⟩:=I.tuple mQ
  obtain ⟨jM,rb,pb,zb⟩:=I.tuple mP
  have la:=ra.length
  refine Y7 (I.ok.hd hc) (DM i1 a jq.toArray) (DM i2 b jM.toArray) D hz hTI hTO h1 (show s.heap.IsTuple a jq.toArray from pa) (by simp; lia) λh' hk=>⟨rfl,?_⟩
  refine I.jc (t':=s.toks) hf λc o hc e=>?_
  simp only [aOs,azX,avK,not_or] at hc
  exact hk c o hc.1 hc.2.2.1 hc.2.2.2.1 hc.2.2.2.2 e
 self:=λ_ _ _ _ _ st h=>ak8 st.1 h
def Ab (K:W.Frag) (ta:TA):TI:=λσ H R=>ta σ H λvs H1=>∃ a b,vs=[.ref a,.ref b]/\((∃ xs ys,aF K H1 a xs/\aF K H1 b ys/\R (tN K a b) H1)\/∃ xs ys,bB K H1 a xs/\bB K H1 b ys/\R (qX K a b) H1)
section
variable {X:Cx}
theorem We {elts:List PySem.Expr} {x1} {tpos:Pos} {a b:PySem.Expr} {ta:TA} {p pos:Pos} (hg:Gl X "zip") (hm:X.mg "zip" = none) (ha:PA X [a,b] ta) (hs:starEach [a,b] X.env=[(false,eval a X.env),(false,eval b X.env)]:=by rfl) (hs2:starEach [b] X.env=[(false,eval b X.env)]:=by rfl) :
  PI X (.Tuple elts x1 tpos) (.Call (.Name "zip" p) [a,b] [] pos) (Ab X.K ta):=by
 intro pins s σ H R I h
 refine Call_ (pB I hg hm O4 (a7f (aJ (ha pos pins s σ H _ I h) λus s1 ⟨vs,H1,I1,r1,q1⟩=>?_) (by rw [hs,hs2]) (by rw [hs2]; rfl)))
 obtain ⟨l1,l2,e,q⟩:=q1
 subst e
 obtain ⟨v1,v2,rfl,r,r'⟩:=vals2 r1
 cases r
 cases r'
 have big:∀ c,c∈[s1.heap.objs.size+4,s1.heap.objs.size+2,s1.heap.objs.size+3,s1.heap.objs.size,s1.heap.objs.size+1]->s1.heap.objs.size<=c:=λc hc=>by
  simp only [aOs,azX,avK] at hc
  rcases hc with rfl | rfl | rfl | rfl | rfl <;> first | exact a17 _ | exact Nat.le_add_right _ _
 rcases q with ⟨xs,ys,mQ,mP,q⟩ | ⟨xs,ys,mQ,mP,q⟩
 .obtain ⟨jq,ra,pa,za⟩:=I1.list mQ
  obtain ⟨jM,rb,pb,zb⟩:=I1.list mP
  have qj:l1<s1.heap.objs.size:=by obtain ⟨o,e,_⟩:=pa.isList; exact aDe e
  have vG:l2<s1.heap.objs.size:=by obtain ⟨o,e,_⟩:=pb.isList; exact aDe e
  refine call_zip_2 pa.isList pb.isList λh' g5 g3 g4 g1 g2 hsz kp=>ak8 g5 ?_
  exact ⟨_,[_,_,_,_,_],_,_,H1,rfl,I1.kept (t':=s1.toks) kp,O6 _ _ _ _ _ l1 l2 (Jf s1.heap.objs.size l1 l2 qj vG),⟨g5,g3,⟨_,_,g4⟩,g1,g2⟩,λc hc=>I1.lD (big c hc) (I1.hok.fresh (big c hc)),q⟩
 .obtain ⟨jq,ra,pa,za⟩:=I1.tuple mQ
  obtain ⟨jM,rb,pb,zb⟩:=I1.tuple mP
  have qj:l1<s1.heap.objs.size:=Nn pa
  have vG:l2<s1.heap.objs.size:=Nn pb
  refine X4 (show s1.heap.IsTuple l1 jq.toArray from pa) (show s1.heap.IsTuple l2 jM.toArray from pb) λh' g5 g3 g4 g1 g2 kp=>ak8 g5 ?_
  exact ⟨_,[_,_,_,_,_],_,_,H1,rfl,I1.kept (t':=s1.toks) kp,X3 _ _ _ _ _ l1 l2 (Jf s1.heap.objs.size l1 l2 qj vG),⟨g5,g3,⟨_,_,g4⟩,g1,g2⟩,λc hc=>I1.lD (big c hc) (I1.hok.fresh (big c hc)),q⟩
end
theorem X0 {K:W.Frag} {a b:Addr} {xs zs:List V} {l:Addr} {g:TG} {tc:TT} {te:TE} {σ0:St} {H0:Hp} {Qf:Hp->Prop} (hlen:xs.length=zs.length) (Pv:Nat->List V->St->Hp->Prop) (h0:Pv 0 [] σ0 H0)
  (hl:∀ i ys σ' H',i<=xs.length->Pv i ys σ' H'->bB K H' a xs/\bB K H' b zs)
  (hs:∀ i x z t ys σ' H',i<xs.length->xs[i]?=some x->zs[i]?=some z->ys.length<=i->Pv i ys σ' H'->H' t=none->g (.ref t) σ' (upd H' t (.tup [x,z])) λσ2 H3=>tc σ2 H3 λb H4=>if b=true then te σ2 H4 λy H5=>kP xs.length l Pv i ys σ2 y H5 else vc xs.length Pv i ys σ2 H4)
  (hd:∀ ys σ' H',ys.length<=xs.length->Pv xs.length ys σ' H'->Qf H') :
  ∃ W:Nat->Nat->List V->St->Hp->Prop,(∃ m,W 0 m [] σ0 H0)/\∀ i m ys σ' H',W i m ys σ' H' ->
  ((qX K a b).stop i H'/\Qf H')\/((qX K a b).go i H'/\∀ x H2,(qX K a b).ni i H' x H2->g x σ' H2 λσ2 H3=>tc σ2 H3 λb H4 =>
    if b=true then te σ2 H4 λy H5=>H5 l=some (.lst ys)/\ys.length<sizeLine/\∃ m',m'<m/\W (i+1) m' (ys++[y]) σ2 (upd H5 l (.lst (ys++[y])))
    else ∃ m',m'<m/\W (i+1) m' ys σ2 H4):=by
 refine ⟨λi m ys σ' H'=>m=xs.length - i/\i<=xs.length/\ys.length<=i/\Pv i ys σ' H',⟨xs.length,rfl,avV _,a17 _,h0⟩,?_⟩
 rintro i m ys σ' H' ⟨rfl,hi,hy,p⟩
 obtain ⟨qa,qb⟩:=hl i ys σ' H' hi p
 by_cases hlt:i<xs.length
 .have hlt':i<zs.length:=by lia
  refine .inr ⟨⟨xs,zs,xs[i],zs[i],qa,qb,by simp [hlt],by simp [hlt']⟩,λx H2 zq=>?_⟩
  obtain ⟨t,u,v,ht,rfl,rfl,z1,z2⟩:=zq
  exact hs i u v t ys σ' H' hlt (z1 xs qa) (z2 zs qb) hy p ht
 .have e:i=xs.length:=by lia
  subst e
  exact .inl ⟨⟨xs,qa,⟨zs,qb⟩,a17 _⟩,hd ys σ' H' hy p⟩
section
variable {X:Cx} {K:W.Frag} {tg:PySem.Expr}
theorem yu (hK:X.K=K) {l:PySem.Expr} {tl:TE} (hl:PE X l tl):PI X tg l (uq K tl):=hK ▸ Wx hl
theorem Wd (hK:X.K=K) {l:PySem.Expr} {tl:TE} (hl:PE X l tl):PI X tg l (Ac K tl):=hK ▸ VY hl
end
def oR (hi:Int) (n:Nat):It:=⟨λi _=>i<n,λi H x H'=>H'=H/\x=.int (hi - i),λi _=>n<=i⟩
theorem XZ {P:Program} {w:World} {K:W.Frag} {tg:PySem.Expr} (it:Addr) (lo:Int) (n:Nat):Turn P w K tg (oR lo n) [it] it (λi h=>IsRangeIter h it (lo+(i:Nat) * (-1)) ((n:Int) - (i:Nat)) (-1)) where
 mem:=by simp
 obj:=λi h st b hb=>by
  have e:b=it:=by simpa using hb
  subst e
  exact ⟨_,st,λv z=>by
   have z':Data.fields _=Data.cell v:=z
   cases z'⟩
 keep:=λi h h' st k=>k it (by simp) _ st
 item:=by
  intro X hP hw hK hc i pins s σ H E I hf st hg
  subst hP hw hK
  obtain ⟨f0,f1,f2,f3,f4,f5⟩:=hf it (by simp)
  have W:=Walks.range (prog:=X.prog) (w:=X.w) (I.ok.hd hc) it lo (-1) n
  refine W.item i s _ _ hg st λv h' tk hv st' kk=>?_
  obtain ⟨t,rfl⟩:=hv
  have I1:Inv X pins σ H { s with heap:=h',toks:=tk }:=I.turned (λb o hb e=>kk b o (by simpa using hb) e) f0 f1 f3 f4 f5
  refine ⟨_,rfl,nW (s:={ s with heap:=h',toks:=tk }) (n := "range_iterator") st' rfl rfl (by decide) ⟨.int (lo - i),H,I1,⟨t,?_⟩,⟨rfl,rfl⟩,st',λb hb=>(hf b hb).1⟩⟩
  rw [show lo+(i:Int) * (-1)=lo - i by lia]
 done:=by
  intro X hP hw hK hc i pins s σ H E I hf st hg
  subst hP hw hK
  obtain ⟨f0,f1,f2,f3,f4,f5⟩:=hf it (by simp)
  exact wpAny_pyNext_range_end (I.ok.hd hc) st (by have:n<=i:=hg; lia) λh' eb=>⟨rfl,I.turned (t':=s.toks) (λb o hb e=>eb b o hb e) f0 f1 f3 f4 f5⟩
 self:=λ_ _ _ _ _ st h=>wpAny_pyIter_rangeiter st h
section
variable {X:Cx} {tg:PySem.Expr}
theorem XY {pins:List (Addr×Obj)} {σ:St} {H:Hp} {s:Shared} {R:It->Hp->Prop} {E:Value->Shared->Prop} {lo hi:Int} {t u v:Tok} {tk:Nat} (I:Inv X pins σ H s) (h1 : -(2 ^ 62)<=lo) (h2:lo<2 ^ 62) (h3 : -(2 ^ 62)<=hi) (h4:hi<2 ^ 62)
  (q:R (oR lo (lo - hi).toNat) H):wpAny (model X.prog X.w) X.A (pyIter (.ref s.heap.objs.size)) (KZ X pins σ tg R) E { s with heap:=s.heap.push { cls:=.type "range",data:=.fields #[.int lo t,.int hi u,.int (-1) v] },toks:=tk }:=by
 refine wpAny_pyIter_range (IsRange.new ..) (W.small_down h1 h2 h3 h4) ?_
 have I1:Inv X pins σ H { s with heap:=s.heap.push { cls:=.type "range",data:=.fields #[.int lo t,.int hi u,.int (-1) v] },toks:=tk }:=I.kept λb o e=>aL6 _ e
 refine ⟨(s.heap.push { cls:=.type "range",data:=.fields #[.int lo t,.int hi u,.int (-1) v] }).objs.size,[(s.heap.push { cls:=.type "range",data:=.fields #[.int lo t,.int hi u,.int (-1) v] }).objs.size],_,_,H,rfl,
  I1.kept (t':=tk) λb o e=>aL6 _ e,XZ _ lo (lo - hi).toNat,?_,λb hb=>?_,q⟩
 .have e1:lo+((0:Nat):Int) * (-1)=lo:=by simp
  have e2:(((lo - hi).toNat:Nat):Int) - ((0:Nat):Int)=Builtin.Range.rangeSize lo hi (-1):=by rw [W.rangeSize_downNat]; lia
  show IsRangeIter _ _ (lo+((0:Nat):Int) * (-1)) ((((lo - hi).toNat:Nat):Int) - ((0:Nat):Int)) (-1)
  rw [e1,e2]
  exact aWh _ rfl
 .have e:b=(s.heap.push { cls:=.type "range",data:=.fields #[.int lo t,.int hi u,.int (-1) v] }).objs.size:=by simpa using hb
  subst e
  exact I1.lD (a17 _) (I1.hok.fresh (a17 _))
def Ad (ta:TA):TI:=λσ H R=>ta σ H λvs H1=>∃ i j:Int,vs=[.int i,.int j,.int (-1)]/\(-(2 ^ 61)<=i/\i<2 ^ 61 /\ -(2 ^ 61)<=j/\j<2 ^ 61)/\R (oR i (i - j).toNat) H1
theorem Pq {a b c:PySem.Expr} {ta:TA} {p pos:Pos} (hg:Gl X "range") (hm:X.mg "range" = none) (ha:PA X [a,b,c] ta) (hs:starEach [a,b,c] X.env=(false,eval a X.env) :: starEach [b,c] X.env:=by rfl) (hpl:(backTo pos (starEach [b,c] X.env)).any (·.1)=false:=by rfl) :
  PI X tg (.Call (.Name "range" p) [a,b,c] [] pos) (Ad ta):=by
 intro pins s σ H R I h
 refine Call_ (pB I hg hm boot_range (a7f (aJ (ha pos pins s σ H _ I h) λus s1 ⟨vs,H1,I1,r1,q1⟩=>?_) hs hpl))
 obtain ⟨i,j,e,⟨q1,q2,q3,q4⟩,q⟩:=q1
 subst e
 cases r1 with
 | cons r rr =>
  cases rr with
  | cons r' rr =>
   cases rr with
   | cons r'' rr =>
    cases rr
    obtain ⟨t,rfl⟩:=r
    obtain ⟨t',rfl⟩:=r'
    obtain ⟨t'',rfl⟩:=r''
    exact call_range_3 (by decide) (XY I1 (by lia) (by lia) (by lia) (by lia) q) (.inl (bb4 (by lia)))
end
theorem OQ {hi:Int} {n:Nat} {g:TG} {tb:TS} {D:Ends} {σ:St} {H:Hp} (Pv:Nat->St->Hp->Prop) (h0:Pv 0 σ H)
  (hs:∀ i σ H,i<n->Pv i σ H->g (.int (hi - i)) σ H λσ2 H2=>tb { D with nx:=Pv (i+1),ct:=Pv (i+1),bk:=D.nx } σ2 H2) (hd:∀ σ H,Pv n σ H->D.nx σ H) :
  ∃ W:Nat->Nat->St->Hp->Prop,(∃ m,W 0 m σ H)/\∀ i m σ H,W i m σ H ->
   ((oR hi n).stop i H/\D.nx σ H)\/((oR hi n).go i H/\∃ N:St->Hp->Prop,(∀ σ' H',N σ' H'->∃ m',m'<m/\W (i+1) m' σ' H')/\∀ x H',(oR hi n).ni i H x H'->g x σ H' λσ2 H2=>tb { D with nx:=N,ct:=N,bk:=D.nx } σ2 H2):=by
 refine ⟨λi m σ H=>m=n - i/\i<=n/\Pv i σ H,⟨n,by simp,avV _,h0⟩,?_⟩
 rintro i m σ H ⟨rfl,hi,p⟩
 by_cases hlt:i<n
 .refine .inr ⟨hlt,Pv (i+1),λσ' H' p'=>⟨n - (i+1),by lia,rfl,hlt,p'⟩,λx H' y=>?_⟩
  obtain ⟨e,y⟩:=y
  subst e y
  exact hs i σ _ hlt p
 .have e:i=n:=by lia
  subst e
  exact .inl ⟨a17 _,hd σ H p⟩
theorem Wc {K:W.Frag} {a b:Addr} {xs ys:List V} {g:TG} {tb:TS} {D:Ends} {σ:St} {H:Hp} (Pv:Nat->St->Hp->Prop) (hlen:xs.length=ys.length) (h0:Pv 0 σ H) (hl:∀ i σ H,i<=xs.length->Pv i σ H->aF K H a xs/\aF K H b ys)
  (hs:∀ i x y t σ H,xs[i]?=some x->ys[i]?=some y->Pv i σ H->H t=none->g (.ref t) σ (upd H t (.tup [x,y])) λσ2 H2=>tb { D with nx:=Pv (i+1),ct:=Pv (i+1),bk:=D.nx } σ2 H2) (hd:∀ σ H,Pv xs.length σ H->D.nx σ H) :
  ∃ W:Nat->Nat->St->Hp->Prop,(∃ m,W 0 m σ H)/\∀ i m σ H,W i m σ H ->
   ((tN K a b).stop i H/\D.nx σ H)\/((tN K a b).go i H/\∃ N:St->Hp->Prop,(∀ σ' H',N σ' H'->∃ m',m'<m/\W (i+1) m' σ' H')/\∀ x H',(tN K a b).ni i H x H'->g x σ H' λσ2 H2=>tb { D with nx:=N,ct:=N,bk:=D.nx } σ2 H2):=by
 refine ⟨λi m σ H=>m=xs.length - i/\i<=xs.length/\Pv i σ H,⟨xs.length,by simp,avV _,h0⟩,?_⟩
 rintro i m σ H ⟨rfl,hi,p⟩
 obtain ⟨q1,q2⟩:=hl i σ H hi p
 by_cases hlt:i<xs.length
 .have Gy:i<ys.length:=hlen ▸ hlt
  refine .inr ⟨⟨xs,ys,xs[i],ys[i],q1,q2,by simp [hlt],by simp [Gy]⟩,Pv (i+1),λσ' H' p'=>⟨xs.length - (i+1),by lia,rfl,hlt,p'⟩,λx H' y=>?_⟩
  obtain ⟨t,x1,y1,ht,rfl,rfl,hx,hy⟩:=y
  exact hs i x1 y1 t σ _ (hx xs q1) (hy ys q2) p ht
 .have e:i=xs.length:=by lia
  subst e
  exact .inl ⟨⟨xs,ys,q1,q2,.inl (a17 _)⟩,hd σ H p⟩
end L2
namespace L2.P9
open PySem PySem.Spec PyProof.Rows
def Rk (ρ:Keyed->Nat) (xs:Array Keyed) (i:Nat):Nat:=(xs[i]?).elim 0 ρ
theorem Bc {ρ:Keyed->Nat} {xs ys:Array Keyed} {i j:Nat} (h:xs[i]?=ys[j]?):Rk ρ xs i=Rk ρ ys j:=by unfold Rk; rw [h]
def gH (ρ:Keyed->Nat) (xs:Array Keyed) (i j:Nat):Prop:=K xs i<K xs j\/(K xs i=K xs j/\Rk ρ xs i<Rk ρ xs j)
theorem gH.trans {ρ:Keyed->Nat} {xs:Array Keyed} {i j k:Nat} (h1:gH ρ xs i j) (h2:gH ρ xs j k):gH ρ xs i k:=by
 unfold gH at *
 lia
def mj (ρ:Keyed->Nat) (xs:Array Keyed) (n:Nat):Prop:=∀ i j,i<j->j<n->gH ρ xs i j
def Dec (ρ:Keyed->Nat) (xs:Array Keyed) (n:Nat):Prop:=∀ i j,i<j->j<n->gH ρ xs j i
def iC (ρ:Keyed->Nat) (xs:Array Keyed) (n:Nat):Prop:=∀ i,n<=i->i<xs.size->Rk ρ xs i=i
theorem iC.mono {ρ:Keyed->Nat} {xs:Array Keyed} {m n:Nat} (h:iC ρ xs m) (l:m<=n):iC ρ xs n:=λi hi hs=>h i (awv l hi) hs
theorem Dy {ρ:Keyed->Nat} {xs:Array Keyed} {i:Nat} (h:i<xs.size):(xs.toList.map ρ)[i]?=some (Rk ρ xs i):=by
 unfold Rk
 rw [aC3,apT,axz h]
 rfl
structure Inj (ρ:Keyed->Nat) (xs:Array Keyed):Prop where
 inj:∀ i j,i<xs.size->j<xs.size->Rk ρ xs i=Rk ρ xs j->i=j
 lt:∀ i,i<xs.size->Rk ρ xs i<xs.size
theorem VG {ρ:Keyed->Nat} {xs a₀:Array Keyed} (p:xs.Perm a₀) (h0:iC ρ a₀ 0):Inj ρ xs:=by
 have e0:a₀.toList.map ρ=List.range a₀.size:=by
  apply aTT
  intro i
  by_cases h:i<a₀.size
  .rw [Dy h,aA5 h,h0 i (avV _) h]
  .rw [awj (by simpa using h),awj (by simpa using h)]
 have pm:(xs.toList.map ρ).Perm (List.range a₀.size):=by rw [← e0]; exact (aGk.mp p).map ρ
 have nd:(xs.toList.map ρ).Nodup:=pm.nodup_iff.mpr List.nodup_range
 refine ⟨λi j hi hj e=>?_,λi hi=>?_⟩
 .refine (List.getElem?_inj (by rw [afy,aUD]; exact hi) nd).mp ?_
  rw [Dy hi,Dy hj,e]
 .have m:Rk ρ xs i∈xs.toList.map ρ:=a7T (Dy hi)
  have:=aTe.mp (pm.mem_iff.mp m)
  rw [p.size_eq]
  exact this
theorem Inj.below {ρ:Keyed->Nat} {xs:Array Keyed} (I:Inj ρ xs) {n:Nat} (h:iC ρ xs n) {i:Nat} (hi:i<n) (hs:i<xs.size):Rk ρ xs i<n:=by
 by_cases c:Rk ρ xs i<n
 .exact c
 .have l:=I.lt i hs
  have e:=h (Rk ρ xs i) (by lia) l
  have:=I.inj _ _ l hs e
  lia
theorem Ja {ρ:Keyed->Nat} {xs:Array Keyed} {src d:Nat} (hs:src<xs.size) (hd:d<=src) (k:Nat) :
  Rk ρ (bubble xs src d) k=if k=src - d then Rk ρ xs src else if src - d<k/\k<=src then Rk ρ xs (k - 1) else Rk ρ xs k:=by
 have e:=getElem?_bubble hs d hd k
 by_cases h1:k=src - d
 .rw [ajr h1] at e ⊢
  exact Bc e
 .rw [aBJ h1] at e ⊢
  by_cases h2:src - d<k/\k<=src
  .rw [ajr h2] at e ⊢
   exact Bc e
  .rw [aBJ h2] at e ⊢
   exact Bc e
theorem tD {ρ:Keyed->Nat} {xs:Array Keyed} {i j:Nat} (hj:j<=xs.size) (k:Nat) :
  Rk ρ (mirror xs i j ((j - i) / 2)) k=if i<=k/\k<j then Rk ρ xs (i+j - 1 - k) else Rk ρ xs k:=by
 have e:=getElem?_mirror_all (i:=i) hj k
 by_cases h1:i<=k/\k<j
 .rw [ajr h1] at e ⊢
  exact Bc e
 .rw [aBJ h1] at e ⊢
  exact Bc e
section
variable {prog:Program} {w:World} {A:Around} {E:Value->Shared->Prop} {s:Shared} {a₀:Array Keyed} {ρ:Keyed->Nat}
theorem SB.inj {st:SortSt} (h:SBase a₀ st) (hr:iC ρ a₀ 0):Inj ρ (arrOf st):=VG h.perm hr
theorem VF {st:SortSt} {n ok:Nat} {Q:Bool->SortSt->Prop} (h0:IntKeys a₀) (hr:iC ρ a₀ 0) (hn:n<=a₀.size) (hok:ok<=n) (T4:1<=ok) (hB:SBase a₀ st) (hs:mj ρ (arrOf st) ok) (hI:iC ρ (arrOf st) ok)
  (h:∀ st',SBase a₀ st'->mj ρ (arrOf st') n->Q true st'):wpS (model prog w) A E s (binarySort' 0 n ok) Q st:=by
 rw [binarySort'_eq]
 simp only [bcx]
 refine a5h (axG (aAz (I:=λk c st1=>c=(none,())/\SBase a₀ st1/\mj ρ (arrOf st1) (min k n)/\iC ρ (arrOf st1) (min k n))
  (Q:=λc st1=>c=(none,())/\SBase a₀ st1/\mj ρ (arrOf st1) n) ?turn ?last ?first) ?after)
 case after =>
  rintro c st1 ⟨rfl,b1,i1⟩
  exact aod (h st1 b1 i1)
 case first =>
  rw [show min (max ok 1) n=ok by lia]
  exact ⟨rfl,hB,hs,hI⟩
 case last =>
  rintro c st1 ⟨hc,b1,i1,_⟩
  rw [show min (max (max ok 1) n) n=n by lia] at i1
  exact ⟨hc,b1,i1⟩
 case turn =>
  rintro k c st1 TV hkn ⟨rfl,b1,i1,d1⟩
  rw [show min k n=k by lia] at i1 d1
  have hk:k<a₀.size:=by lia
  have sz:=b1.size
  have J:=SB.inj b1 hr
  have rk:Rk ρ (arrOf st1) k=k:=d1 k (a17 _) (by lia)
  have lo:∀ m,m<k->¬ K (arrOf st1) k<K (arrOf st1) m->gH ρ (arrOf st1) m k:=λm hm c=>by
   have:=J.below d1 hm (by lia)
   unfold gH
   lia
  refine a5h (axG (aAz (I:=λx c st2=>st2=st1/\∃ l r,c=(none,l,r)/\l<=r/\r<=k/\r - l<=k - x/\(∀ i,i<l->gH ρ (arrOf st1) i k)/\(∀ i,r<=i->i<k->gH ρ (arrOf st1) k i))
   (Q:=λc st2=>st2=st1/\∃ l r,c=(none,l,r)/\l<=k/\(∀ i,i<l->gH ρ (arrOf st1) i k)/\(∀ i,l<=i->i<k->gH ρ (arrOf st1) k i)) ?iturn ?ilast ?ifirst) ?iafter)
  case ifirst=>exact ⟨rfl,0,k,rfl,by lia,by lia,by lia,λi hi=>absurd hi (by lia),λi p q=>absurd q (by lia)⟩
  case ilast =>
   rintro c st2 ⟨rfl,l,r,rfl,hlr,hrk,hm,u1,u2⟩
   have e:l=r:=by lia
   subst e
   exact ⟨rfl,l,l,rfl,hrk,u1,u2⟩
  case iturn =>
   rintro x c st2 _ hxk ⟨rfl,l,r,rfl,hlr,hrk,hm,u1,u2⟩
   dsimp only
   by_cases hge:l ≥ r
   .rw [ajr hge]
    have e:l=r:=by lia
    subst e
    exact aod ⟨rfl,l,l,rfl,hrk,u1,u2⟩
   .rw [aBJ hge]
    refine a5h (wpS_ltK b1 h0 hk (by lia) ?_)
    by_cases c:K (arrOf st2) k<K (arrOf st2) ((l+r) / 2)
    .simp only [c,avW,aSf]
     refine aod ⟨rfl,l,(l+r) / 2,rfl,by lia,by lia,by lia,u1,λi p q=>?_⟩
     by_cases e:i=(l+r) / 2
     .subst e; exact .inl c
     .exact gH.trans (.inl c) (i1 _ _ (by lia) q)
    .simp only [c,aLy,aXZ,aE9]
     refine aod ⟨rfl,(l+r) / 2+1,r,rfl,by lia,by lia,by lia,λi p=>?_,u2⟩
     have v:=lo _ (by lia) c
     by_cases e:i=(l+r) / 2
     .subst e; exact v
     .exact gH.trans (i1 _ _ (by lia) (by lia)) v
  case iafter =>
   rintro c st2 ⟨rfl,l,r,rfl,hlk,u1,u2⟩
   show wpS _ _ _ _ (do moveDown' k l; pure (ForInStep.yield (none,()))) _ _
   rw [moveDown'_eq]
   refine a5h (aCh (aod ⟨rfl,b1.setArr (bubble_perm _ _ _),?_,?_⟩))
   .rw [show min (k+1) n=k+1 by lia]
    have hks:k<(arrOf st2).size:=by lia
    intro i j hij hj
    show gH ρ (bubble (arrOf st2) k (k - l)) i j
    unfold gH
    rw [K_bubble hks (by lia),K_bubble hks (by lia),Ja hks (by lia),Ja hks (by lia),show k - (k - l)=l by lia]
    by_cases a1:i=l
    .have uM:¬ j=l:=by lia
     have ML:l<j/\j<=k:=by lia
     rw [ajr a1,ajr a1,aBJ uM,aBJ uM,ajr ML,ajr ML]
     exact u2 _ (by lia) (by lia)
    .rw [aBJ a1,aBJ a1]
     by_cases a2:j=l
     .have uM:¬ (l<i/\i<=k):=by lia
      rw [ajr a2,ajr a2,aBJ uM,aBJ uM]
      exact u1 _ (by lia)
     .rw [aBJ a2,aBJ a2]
      by_cases a3:l<i/\i<=k
      .have uM:l<j/\j<=k:=by lia
       rw [ajr a3,ajr a3,ajr uM,ajr uM]
       exact i1 _ _ (by lia) (by lia)
      .rw [aBJ a3,aBJ a3]
       by_cases a4:l<j/\j<=k
       .rw [ajr a4,ajr a4]
        by_cases a5:i<j - 1
        .exact i1 _ _ a5 (by lia)
        .exfalso; lia
       .rw [aBJ a4,aBJ a4]
        exact i1 _ _ (by lia) (by lia)
   .rw [show min (k+1) n=k+1 by lia]
    intro i hi hs'
    have hs2:i<(arrOf st2).size:=by
     have:(arrOf (setArr st2 (bubble (arrOf st2) k (k - l)))).size=(arrOf st2).size:=bubble_size _ _ _
     lia
    show Rk ρ (bubble (arrOf st2) k (k - l)) i=i
    rw [Ja (by lia) (by lia),aBJ (by lia),aBJ (by lia)]
    exact d1 i (by lia) hs2
theorem Nl {st:SortSt} {a nrem:Nat} {Q:AscSt->SortSt->Prop} (h0:IntKeys a₀) (hr:iC ρ a₀ 0) (hn:nrem<=a₀.size) (ha:1<=a) (han:a<=nrem) (hB:SBase a₀ st) (hs:mj ρ (arrOf st) a) (hI:iC ρ (arrOf st) a)
  (h:∀ n,a<=n->n<=nrem->mj ρ (arrOf st) n->(n=nrem\/K (arrOf st) n<K (arrOf st) (n - 1))->Q (none,n) st):wpS (model prog w) A E s (ascLoop a nrem) Q st:=by
 unfold ascLoop
 have sz:=hB.size
 have J:=SB.inj hB hr
 refine aAz (I:=λx c st1=>st1=st/\c=(none,x)/\mj ρ (arrOf st) x) ?turn ?last ⟨rfl,rfl,hs⟩
 case last =>
  rintro c st1 ⟨rfl,rfl,i1⟩
  rw [show max a nrem=nrem by lia] at i1 ⊢
  exact h nrem han (a17 _) i1 (.inl rfl)
 case turn =>
  rintro x c st1 hax hxn ⟨rfl,rfl,i1⟩
  dsimp only
  refine a5h (wpS_ltK hB h0 (by lia) (by lia) ?_)
  by_cases c:K (arrOf st1) x<K (arrOf st1) (x - 1)
  .simp only [c,avW,aSf]
   exact aod (h x hax (by lia) i1 (.inr c))
  .simp only [c,aLy,aXZ,aE9]
   refine aod ⟨rfl,rfl,λi j hij hj=>?_⟩
   by_cases hjx:j<x
   .exact i1 i j hij hjx
   .have ej:j=x:=by lia
    subst ej
    have dx:=hI.mono hax
    have r1:=J.below dx (i:=j - 1) (by lia) (by lia)
    have r2:=dx j (a17 _) (by lia)
    have v:gH ρ (arrOf st1) (j - 1) j:=by unfold gH; lia
    by_cases e:i=j - 1
    .subst e; exact v
    .exact gH.trans (i1 i (j - 1) (by lia) (by lia)) v
theorem N7 {st:SortSt} {n nrem:Nat} {Q:Option Nat->SortSt->Prop} (h0:IntKeys a₀) (hr:iC ρ a₀ 0) (hn:nrem<=a₀.size) (h1:1<=n) (hnn:n<=nrem) (hB:SBase a₀ st) (hs:Dec ρ (arrOf st) n) (hI:iC ρ (arrOf st) n)
  (h:∀ m st',SBase a₀ st'->1<=m->m<=nrem->mj ρ (arrOf st') m->iC ρ (arrOf st') m->Q (some m) st'):wpS (model prog w) A E s (tail3 n nrem) Q st:=by
 unfold tail3
 have sz:=hB.size
 refine a5h (baF ?_)
 have b1:SBase a₀ (setArr st (mirror (arrOf st) 0 n ((n - 0) / 2))):=hB.setArr (aCy _ _ _ _)
 have d1:iC ρ (mirror (arrOf st) 0 n ((n - 0) / 2)) n:=λi hi hs'=>by
  rw [mirror_size] at hs'
  rw [tD (by lia),aBJ (by lia)]
  exact hI i hi hs'
 refine a5h (Nl h0 hr hn h1 hnn b1 ?_ d1 λm m1 m2 i2 _=>aod (h m _ b1 (by lia) m2 i2 (d1.mono m1)))
 intro i j hij hj
 show gH ρ (mirror (arrOf st) 0 n ((n - 0) / 2)) i j
 unfold gH
 rw [K_mirror (by lia),K_mirror (by lia),tD (by lia),tD (by lia),ajr (by lia),ajr (by lia),ajr (by lia),ajr (by lia)]
 exact hs _ _ (by lia) (by lia)
structure DI (ρ:Keyed->Nat) (xs:Array Keyed) (x q:Nat):Prop where
 l:q+1<=x
 sz:x<=xs.size
 d:Dec ρ xs (x - (q+1))
 u:∀ i j,i<x - (q+1)->x - (q+1)<=j->j<x->K xs j<K xs i
 e:∀ i,x - (q+1)<=i->i<x->K xs i=K xs (x - 1)
 f:iC ρ xs (x - (q+1))
theorem DI.Az {xs:Array Keyed} {x:Nat} (h:DI ρ xs x 0):Dec ρ xs x:=λi j hij hj=>by
 by_cases c:j<x - (0+1)
 .exact h.d i j hij c
 .exact .inl (h.u i j (by lia) (by lia) hj)
theorem DI.rev {xs:Array Keyed} {x q:Nat} (h:DI ρ xs x q):Dec ρ (mirror xs (x - (q+1)) x ((x - (x - (q+1))) / 2)) x/\iC ρ (mirror xs (x - (q+1)) x ((x - (x - (q+1))) / 2)) x:=by
 have hl:=h.l
 have hz:=h.sz
 refine ⟨λi j hij hj=>?_,λi hi hs=>?_⟩
 .have ke:=K_mirror_equal (i:=x - (q+1)) hz h.e
  unfold gH
  rw [ke,ke,tD hz,tD hz]
  by_cases c1:j<x - (q+1)
  .rw [aBJ (by lia),aBJ (by lia)]
   exact h.d i j hij c1
  .by_cases c2:i<x - (q+1)
   .exact .inl (h.u i j c2 (by lia) hj)
   .rw [ajr (by lia),ajr (by lia)]
    refine .inr ⟨(h.e j (by lia) hj).trans (h.e i (by lia) (by lia)).symm,?_⟩
    rw [h.f _ (by lia) (by lia),h.f _ (by lia) (by lia)]
    lia
 .rw [mirror_size] at hs
  rw [tD hz,aBJ (by lia)]
  exact h.f i (by lia) hs
theorem DI.of {xs:Array Keyed} {x:Nat} (hx:1<=x) (hz:x<xs.size) (hd:Dec ρ xs x) (hf:iC ρ xs x) (hk:K xs x<K xs (x - 1)):DI ρ xs (x+1) 0:=by
 refine ⟨by lia,by lia,hd,λi j hi hj hj'=>?_,λi hi hi'=>?_,hf⟩
 .have ej:j=x:=by lia
  subst ej
  by_cases e:i=j - 1
  .subst e; exact hk
  .have v:=hd i (j - 1) (by lia) (by lia)
   unfold gH at v
   lia
 .have ei:i=x:=by lia
  subst ei
  rfl
theorem DI.more {xs:Array Keyed} {x q:Nat} (h:DI ρ xs x q) (hz:x<xs.size) (hk:K xs x=K xs (x - 1)):DI ρ xs (x+1) (q+1):=by
 have hl:=h.l
 have e0:x+1 - (q+1+1)=x - (q+1):=by lia
 refine ⟨by lia,by lia,by rw [e0]; exact h.d,λi j hi hj hj'=>?_,λi hi hi'=>?_,by rw [e0]; exact h.f⟩
 .rw [e0] at hi hj
  by_cases c:j<x
  .exact h.u i j hi hj c
  .have ej:j=x:=by lia
   subst ej
   rw [hk]
   exact h.u i (j - 1) hi (by lia) (by lia)
 .rw [show x+1 - 1=x by lia]
  by_cases c:i<x
  .rw [hk]; exact h.e i (by lia) c
  .have ei:i=x:=by lia
   subst ei
   rfl
theorem Wb {st:SortSt} {n nrem:Nat} {Q:DescSt->SortSt->Prop} (h0:IntKeys a₀) (hn:nrem<=a₀.size) (hnn:n<=nrem) (hB:SBase a₀ st) (hs:DI ρ (arrOf st) n 0)
  (h:∀ m q st',SBase a₀ st'->m<=nrem->DI ρ (arrOf st') m q->Q (none,m,q) st'):wpS (model prog w) A E s (descLoop n nrem) Q st:=by
 unfold descLoop
 refine aAz (I:=λx c st1=>∃ q,c=(none,x,q)/\SBase a₀ st1/\DI ρ (arrOf st1) x q) ?turn ?last ⟨0,rfl,hB,hs⟩
 case last =>
  rintro c st1 ⟨q,rfl,b1,d1⟩
  rw [show max n nrem=nrem by lia] at d1 ⊢
  exact h nrem q st1 b1 (a17 _) d1
 case turn =>
  rintro x c st1 hax hxn ⟨q,rfl,b1,d1⟩
  dsimp only
  have sz:=b1.size
  have hl:=d1.l
  refine a5h (wpS_ltK b1 h0 (by lia) (by lia) ?_)
  by_cases c:K (arrOf st1) x<K (arrOf st1) (x - 1)
  .simp only [c,avW,aSf]
   by_cases hq:q > 0
   .rw [ajr hq]
    obtain ⟨r1,r2⟩:=d1.rev
    refine a5h (baF (aod ⟨0,rfl,b1.setArr (aCy _ _ _ _),DI.of (by lia) (by show x<(mirror _ _ _ _).size; rw [mirror_size]; lia) r1 r2 ?_⟩))
    show K (mirror _ _ _ _) x<K (mirror _ _ _ _) (x - 1)
    rw [K_mirror_equal d1.sz d1.e,K_mirror_equal d1.sz d1.e]
    exact c
   .rw [aBJ hq]
    have e:q=0:=by lia
    subst e
    exact aod ⟨0,rfl,b1,DI.of (by lia) (by lia) d1.Az (d1.f.mono (by lia)) c⟩
  .simp only [c,aLy,aXZ,aE9]
   refine a5h (wpS_ltK b1 h0 (by lia) (by lia) ?_)
   by_cases c2:K (arrOf st1) (x - 1)<K (arrOf st1) x
   .simp only [c2,avW,aSf]
    exact aod (h x q st1 b1 (by lia) d1)
   .simp only [c2,aLy,aXZ,aE9]
    exact aod ⟨q+1,rfl,b1,d1.more (by lia) (by lia)⟩
theorem N6 {st:SortSt} {n nrem:Nat} {Q:Option Nat->SortSt->Prop} (h0:IntKeys a₀) (hr:iC ρ a₀ 0) (hn:nrem<=a₀.size) (hnn:n+1<=nrem) (hB:SBase a₀ st) (hs:DI ρ (arrOf st) (n+1) 0)
  (h:∀ m st',SBase a₀ st'->1<=m->m<=nrem->mj ρ (arrOf st') m->iC ρ (arrOf st') m->Q (some m) st'):wpS (model prog w) A E s (descPart n nrem) Q st:=by
 unfold descPart
 refine a5h (wpS_lift (ag2 ⟨rfl,?_⟩))
 refine a5h (Wb h0 hn hnn hB hs λm q st1 b1 m2 d1=>?_)
 dsimp only
 have hl:=d1.l
 by_cases hq:q > 0
 .rw [ajr hq]
  obtain ⟨r1,r2⟩:=d1.rev
  exact a5h (baF (N7 h0 hr hn (by lia) m2 (b1.setArr (aCy _ _ _ _)) r1 r2 h))
 .rw [aBJ hq]
  have e:q=0:=by lia
  subst e
  exact N7 h0 hr hn (by lia) m2 b1 d1.Az (d1.f.mono (by lia)) h
theorem WE {st:SortSt} {nrem:Nat} {Q:Option Nat->SortSt->Prop} (h0:IntKeys a₀) (hr:iC ρ a₀ 0) (hn:nrem<=a₀.size) (h1:1<=nrem) (hB:SBase a₀ st) (hI:iC ρ (arrOf st) 0)
  (h:∀ m st',SBase a₀ st'->1<=m->m<=nrem->mj ρ (arrOf st') m->iC ρ (arrOf st') m->Q (some m) st'):wpS (model prog w) A E s (countRun' 0 nrem) Q st:=by
 rw [countRun0_eq]
 have sz:=hB.size
 refine a5h (Nl h0 hr hn (a17 1) h1 hB (λi j hij hj=>absurd hj (by lia)) (hI.mono (avV _)) λn n1 n2 i1 hor=>?_)
 dsimp only
 by_cases e:n=nrem
 .rw [ajr (by simpa using e)]
  exact aod (h n st hB n1 n2 i1 (hI.mono (avV _)))
 .rw [aBJ (by simpa using e)]
  have lt:K (arrOf st) n<K (arrOf st) (n - 1):=hor.resolve_left e
  by_cases g:n > 1
  .rw [ajr g]
   refine a5h (wpS_ltK hB h0 (by lia) (by lia) ?_)
   by_cases c:K (arrOf st) 0<K (arrOf st) (n - 1)
   .simp only [c,avW,aSf]
    exact aod (h n st hB n1 n2 i1 (hI.mono (avV _)))
   .simp only [c,aLy,aXZ,aE9]
    have all:∀ k,0<=k->k<n->K (arrOf st) k=K (arrOf st) (n - 1):=by
     intro k _ hk
     have a1:k=0\/gH ρ (arrOf st) 0 k:=by
      by_cases z:k=0
      .exact .inl z
      .exact .inr (i1 0 k (by lia) hk)
     have a2:k=n - 1\/gH ρ (arrOf st) k (n - 1):=by
      by_cases z:k=n - 1
      .exact .inl z
      .exact .inr (i1 k (n - 1) (by lia) (by lia))
     have a3:=i1 0 (n - 1) (by lia) (by lia)
     unfold gH at a1 a2 a3
     rcases a1 with a1 | a1
     .subst a1; lia
     .rcases a2 with a2 | a2
      .subst a2; rfl
      .lia
    have ke:=K_mirror_equal (xs:=arrOf st) (i:=0) (j:=n) (by lia) all
    refine a5h (baF (N6 h0 hr hn (by lia) (hB.setArr (aCy _ _ _ _)) (DI.of (by lia) (by show n<(mirror _ _ _ _).size; rw [mirror_size]; lia) (λi j hij hj=>?_) (λi hi hs=>?_) ?_) h))
    .show gH ρ (mirror (arrOf st) 0 n ((n - 0) / 2)) j i
     unfold gH
     rw [ke,ke,all i (by lia) (by lia),all j (by lia) hj,tD (by lia),tD (by lia),ajr (by lia),ajr (by lia),hI _ (by lia) (by lia),hI _ (by lia) (by lia)]
     lia
    .have hs':i<(mirror (arrOf st) 0 n ((n - 0) / 2)).size:=hs
     rw [mirror_size] at hs'
     show Rk ρ (mirror (arrOf st) 0 n ((n - 0) / 2)) i=i
     rw [tD (by lia),aBJ (by lia)]
     exact hI i (by lia) hs'
    .show K (mirror (arrOf st) 0 n ((n - 0) / 2)) n<K (mirror (arrOf st) 0 n ((n - 0) / 2)) (n - 1)
     rw [ke,ke]
     exact lt
  .rw [aBJ g]
   have en:n=1:=by lia
   subst en
   exact N6 h0 hr hn (by lia) hB (DI.of (by lia) (by lia) (λi j hij hj=>absurd hj (by lia)) (hI.mono (avV _)) lt) h
def oK (ρ:Keyed->Nat) (a₀:Array Keyed) (st:SortSt):Prop:=(arrOf st).Perm a₀/\failedOf st=none/\pendingOf st=#[(0,a₀.size,0)]/\mj ρ (arrOf st) a₀.size
theorem oK.of {st:SortSt} (hB:SBase a₀ st) (hs:mj ρ (arrOf st) a₀.size):oK ρ a₀ (setPending st ((pendingOf st).push (0,a₀.size,0))) :=
 ⟨hB.perm,hB.failed,by show (pendingOf st).push _=_; rw [hB.pend]; rfl,hs⟩
theorem Wa {st:SortSt} {Q:Unit->SortSt->Prop} (h0:IntKeys a₀) (hr:iC ρ a₀ 0) (hB:SBase a₀ st) (hI:iC ρ (arrOf st) 0) (h2:2<=a₀.size) (h64:a₀.size<64)
  (h:∀ st',(arrOf st').Perm a₀->failedOf st'=none->mj ρ (arrOf st') a₀.size->Q () st'):wpS (model prog w) A E s sortRuns' Q st:=by
 rw [sortRuns'_eq]
 refine a5h (baX ?_)
 dsimp only
 have mr:minRun' a₀.size a₀.size 0=a₀.size:=by
  obtain ⟨f,hf⟩:∃ f,a₀.size=f+1:=⟨a₀.size - 1,by lia⟩
  have e:minRun' (f+1) a₀.size 0=a₀.size:=by
   rw [minRun'_succ,ajr h64]
   rfl
  rwa [← hf] at e
 simp only [hB.size,mr]
 refine a5h (axG (aAz
  (I:=λx c st1=>(x=0/\c=(none,0)/\SBase a₀ st1/\iC ρ (arrOf st1) 0)\/(1<=x/\c=(none,a₀.size)/\oK ρ a₀ st1))
  (Q:=λc st1=>c=(none,a₀.size)/\oK ρ a₀ st1) ?turn ?last (.inl ⟨rfl,rfl,hB,hI⟩)) ?after)
 case last =>
  rintro c st1 (⟨hx,_⟩ | ⟨_,hc,hD⟩)
  .lia
  .exact ⟨hc,hD⟩
 case turn =>
  rintro x c st1 _ hx (⟨rfl,rfl,b1,i1⟩ | ⟨LU,rfl,hD⟩)
  .dsimp only
   rw [aBJ (by lia)]
   simp only [Nat.sub_zero,Nat.min_self,bcx]
   refine a5h (WE h0 hr (a17 _) (by lia) b1 i1 λm st2 b2 m1 m2 s2 d2=>?_)
   dsimp only
   by_cases lt:m<a₀.size
   .rw [ajr lt]
    refine a5h (wpS_lift (ag2 ⟨rfl,?_⟩))
    refine a5h (VF h0 hr (a17 _) m2 m1 b2 s2 d2 λst3 b3 s3=>?_)
    simp only [aWJ,aXZ,aE9]
    refine a5h (baX ?_)
    have hb:(pendingOf st3).back?=none:=by
     rw [b3.pend]
     rfl
    rw [hb]
    dsimp only
    exact a5h (aCh (aod (.inr ⟨by lia,rfl,oK.of b3 s3⟩)))
   .rw [aBJ lt]
    have em:m=a₀.size:=by lia
    subst em
    refine a5h (baX ?_)
    have hb:(pendingOf st2).back?=none:=by
     rw [b2.pend]
     rfl
    rw [hb]
    dsimp only
    exact a5h (aCh (aod (.inr ⟨by lia,rfl,oK.of b2 s2⟩)))
  .dsimp only
   rw [ajr (a17 _)]
   exact aod ⟨rfl,hD⟩
 case after =>
  rintro c st1 ⟨rfl,hD⟩
  dsimp only
  refine a5h (axG (aAz (I:=λ_ c st2=>st2=st1/\c=(none,())) (Q:=λc st2=>st2=st1/\c=(none,())) ?_ (λ_ _ hh=>hh) ⟨rfl,rfl⟩) ?_)
  .rintro x c st2 _ _ ⟨rfl,rfl⟩
   refine a5h (baX ?_)
   rw [ajr (by rw [hD.2.2.1]; exact a17 1)]
   exact aod ⟨rfl,rfl⟩
  .rintro c st2 ⟨rfl,rfl⟩
   exact aod (h _ hD.1 hD.2.1 hD.2.2.2)
end
end L2.P9
namespace L2
open PySem PySem.Spec PyProof.Rows
def BMod (base:Heap) (mg:Str->Option Value):Prop:=∃ bm o,mg "__builtins__" = some (.ref bm)/\bm≠builtinsNs/\bm≠mainGlobals/\base.get? bm=some o/\o.cls=.type "module" /\ o.dict=some builtinsNs/\o.data=.plain
section
variable {X:Cx} {pins:List (Addr×Obj)} {σ:St} {H:Hp} {s:Shared}
theorem Inv.grown {P c':Addr} {pos:Pos} {qual:Str} {ps:Array Value} {h':Heap} {tk:Nat} (I:Inv X pins σ H s) (hP:H P=some (.j8 pos qual)) (hx:Heap.ExtBut P s.heap h') (hge:s.heap.objs.size<=c') (hrec:h'.CodeRec (.ref c') qual)
  (htr:TriplesOk ps.toList) (hnf:codeAmong pos ps.toList=none) (htb:h'.get? P=some { cls:=.none,data:=.fields (ps++#[rawInt pos.line,rawInt pos.col,.ref c']) }) :
  ∃ oc vs t,h'.get? c'=some oc/\oc.data=.fields vs/\vs[1]?=some (.str qual t)/\Inv X pins σ (upd H c' (.cS oc (.own P))) { s with heap:=h',toks:=tk }:=by
 obtain ⟨c,oc,vs,t,z,hoc,hd,hv⟩:=hrec
 cases z
 have fr:H c'=none:=I.hok.fresh hge
 have nP:∀ b,H b=none->b≠P:=λb n z=>by rw [z,hP] at n; cases n
 have nc:∀ b u,H b=some u->b≠c':=λb u e=>Ze e fr
 have nh:∀ b o,s.heap.get? b=some o->b≠c':=λb o e=>a19 (a7q (aDe e) hge)
 have cP:c'≠P:=λz=>by rw [z,hP] at fr; cases fr
 refine ⟨oc,vs,t,hoc,hd,hv,I.step (g':=s.gens) (d':=s.drawn) (t':=tk) (ch:=[]) (h':=h') (H':=upd H c' (.cS oc (.own P))) (λ_ z=>nomatch z) (λb o _ _ _ e n=>hx b o (nP b n) e) (λb o _ _ _ e n=>⟨o.slots,hx b o (nP b n) e⟩)
  (λb o _ e n=>by rw [Zc (nh b o e)]; exact n) (λb o _ e=>?_) (λb xs e=>by rw [Zc (nc b _ e)]; exact e) (λb o u e=>by rw [Zc (nc b _ e)]; exact e) (λb p q e=>by rw [Zc (nc b _ e)]; exact e) (λm hm=>?_) (λb u e=>?_) I.bare⟩
 .by_cases hb:b=P
  .subst hb; exact ⟨_,htb⟩
  .exact ⟨o,hx b o hb e⟩
 .obtain ⟨o,es,ep,ho,r⟩:=hm
  exact ⟨o,es,ep,hx _ o (nP _ I.free) ho,r⟩
 .by_cases hb:b=c'
  .subst hb
   rw [Za] at e
   cases e
   exact ⟨hoc,_,hoc⟩
  .rw [Zc hb] at e
   by_cases Mf:b=P
   .subst Mf
    rw [hP] at e
    cases e
    have e1:(ps++#[rawInt pos.line,rawInt pos.col,Value.ref c']).toList=ps.toList++[rawInt pos.line,rawInt pos.col,.ref c']:=by simp
    refine ⟨_,htb,?_,λcv hc=>?_⟩
    .rw [e1]; exact TriplesOk_snoc _ _ _ _ htr
    .rw [e1,codeAmong_snoc _ htr hnf] at hc
     cases hc
     exact ⟨c',oc,vs,t,rfl,Za,hd,hv⟩
   .refine (I.hok b u e).stay (λd v hd' q=>hx d v ?_ q) (λd q=>by rw [Zc (nc d _ q)]; exact q) (λd xs q=>by rw [Zc (nc d _ q)]; exact q) λd oz q=>by rw [Zc (nc d _ q)]; exact q
    rcases hd' with rfl | hd'
    .exact Mf
    .intro z; rw [z,hP] at hd'; cases hd'
structure lZ (X:Cx) (scope:Scope) (x:Str) (fr:List Str) (js:List Nat):Prop where
 kind:scope.kind=.function
 co:scope.isCoroutine=false
 gen:scope.isGenerator=false
 qe:∀ y∈scope.names,y.2≠.cell
 par:scope.names.lookup x=some .local
 free:∀ y∈scope.names,y.2=.free->X.env.kindOf y.1=some .cell\/X.env.kindOf y.1=some .free
 len:fr.length=js.length
 js:∀ (k j:Nat),js[k]?=some j->fr[k]?=X.N[j]?
 jf:∀ (k:Nat) (y:Str),fr[k]?=some y->scope.names.lookup y=some .free
def iO (X:Cx) (A:Around) (N:List Str) (qual:Str) (scope:Scope) (f:Addr) (cd:Value) (cl:List (Str×Addr)) (s:Shared) (H:Hp):Cx where
 prog:=X.prog
 w:=X.w
 K:=X.K
 mg:=X.mg
 base:=X.base
 A:=A.deeper (W.envX qual scope s.heap.objs.size f cd cl)
 N:=N
 s₀:=s
 H₀:=H
 env:=W.envX qual scope s.heap.objs.size f cd cl
 outer:=X.stack
 stack:=W.envX qual scope s.heap.objs.size f cd cl :: X.stack
 ex:=[]
 calm:=true
 fn:=λ_=>false
 pn:=[]
 xe:=λ_ _=>False
theorem V9 {A:Around} {x:Str} {fr:List Str} {js:List Nat} {qual:Str} {scope:Scope} {f:Addr} {cd:Value} {cl:List (Str×Addr)} {s1:Shared} {u:Value} {v:V} (c:lZ X scope x fr js) (I:Inv X pins σ H s) (hA:A.frames=some X.stack) (hh:A.handled=none)
  (iY:∀ x c,cl.lookup x=some c->X.env.cells.lookup x=some c) (kM:∀ p∈scope.names,p.2=.free->∃ c,cl.lookup p.1=some c) (r:RelV v u)
  (hn:s1.heap.Ns s.heap.objs.size λy=>[(x,u)].reverse.lookup y) (hk:∀ b o,s.heap.get? b=some o->s1.heap.get? b=some o) (hos:s1.os=s.os) (hg:s1.gens=s.gens) :
  Inv (iO X A (x :: fr) qual scope f cd cl s H) [] (some v :: js.map λj=>(σ[j]?).join) H s1:=by
 have vA:∀ b:Addr,b∉(iO X A (x :: fr) qual scope f cd cl s H).ex:=λb z=>absurd (show b∈([]:List Addr) from z) (by simp)
 have ok:(iO X A (x :: fr) qual scope f cd cl s H).Ok:=by
  refine ⟨I.ok.mod,c.kind,rfl,rfl,a17 _,λy z d e1 e2=>I.ok.inj y z d (iY _ _ e1) (iY _ _ e2),λy hy=>?_,λy d z _=>absurd z (by simp [iO]),λ_=>hh,Around.frames_deeper hA,.inr ⟨rfl,rfl⟩,λb z=>absurd z (vA b),I.bs,awv I.ok.rE I.sz,λb _ _=>vA b,λb z=>absurd z (vA b),I.stack,I.kg⟩
  have hy:scope.names.lookup y=some .cell\/scope.names.lookup y=some .free:=hy
  rcases hy with hy | hy
  .exact absurd rfl (c.qe _ (ZX hy))
  .exact kM _ (ZX hy) rfl
 refine ⟨ok,hos,by rw [hg]; exact I.bare,Un.kept hk,⟨_,hn,λi y v' e1 e2 e3=>?_⟩,λy d e=>?_,I.hok.fresh (a17 _),λy d e=>I.dD y d (iY y d e),λp hp=>absurd (show p∈([]:List (Addr×Obj)) from hp) (by simp),I.hok.kept hk,?_⟩
 .cases i with
  | zero =>
   have nZ:x=y:=by simpa [iO] using e1
   have qE:v=v':=by simpa using e2
   subst nZ
   subst qE
   refine ⟨u,r,.inl ⟨c.par,?_⟩⟩
   show ([(x,u)]:List (Str×Value)).reverse.lookup x=some u
   simp
  | succ k =>
   have nZ:fr[k]?=some y:=by simpa [iO] using e1
   rw [aFs,aC3] at e2
   cases q:js[k]? with
   | none=>rw [q] at e2; cases e2
   | some j =>
    rw [q] at e2
    have qE:(σ[j]?).join=some v':=by simpa using e2
    have e4:σ[j]?=some (some v'):=by
     cases z:σ[j]? with
     | none=>rw [z] at qE; cases qE
     | some o=>rw [z] at qE; rw [show o=some v' from qE]
    have GJ:X.N[j]?=some y:=(c.js k j q).symm.trans nZ
    have hfr:=c.jf k y nZ
    have hk2:=c.free _ (ZX hfr) rfl
    have vis:BA X.env.scope y:=by
     rcases hk2 with z | z
     .exact .inr (.inl z)
     .exact .inr (.inr z)
    obtain ⟨m,_,hl⟩:=I.loc
    obtain ⟨u',r',l⟩:=hl j y v' GJ e4 vis
    refine ⟨u',r',?_⟩
    rcases l with ⟨z,_⟩ | ⟨_,d,e,⟨od,ho,hd⟩⟩
    .rcases hk2 with y' | y'
     .rw [show X.env.kindOf y=_ from z] at y'; cases y'
     .rw [show X.env.kindOf y=_ from z] at y'; cases y'
    .obtain ⟨d',e'⟩:=kM _ (ZX hfr) rfl
     have z':=iY _ _ e'
     have:d'=d:=by rw [e] at z'; exact (aGB z').symm
     subst this
     exact .inr ⟨.inr hfr,d',e',⟨od,hk _ _ ho,hd⟩⟩
 .obtain ⟨v',⟨o,ho,hd⟩⟩:=I.cell y d (iY y d e)
  exact ⟨v',o,hk _ _ ho,hd⟩
 .show (some v :: _:List (Option V)).length=(x :: fr).length
  rw [am4,am4,afy,c.len]
theorem WD {A:Around} {x:Str} {fr:List Str} {js:List Nat} {name qual:Str} {params:Arguments} {body:PySem.Expr} {scope:Scope} {f:Addr} {pm cd ct:Value} {cl:List (Str×Addr)} {u:Value} {v:V} {te:TE} {Q:VK} {E:Value->Shared->Prop} {of:Obj} (c:lZ X scope x fr js) (I:Inv X pins σ H s)
  (hA:A.frames=some X.stack) (hh:A.handled=none) (GH:A.depth<recursionLimit)
  (iY:∀ x c,cl.lookup x=some c->X.env.cells.lookup x=some c) (kM:∀ p∈scope.names,p.2=.free->∃ c,cl.lookup p.1=some c)
  (ho:s.heap.get? f=some of) (hof:of.data=.func (W.kla_fn name qual params body scope cl pm cd ct)) (hcd:s.heap.CodeRec cd qual)
  (hb:∀ u,bindArgs (W.kla_fn name qual params body scope cl pm cd ct) ⟨[u],[]⟩=pure [(x,u)]) (r:RelV v u)
  (he:∀ s,PE (iO X A (x :: fr) qual scope f cd cl s H) body te) (h:te (some v :: js.map λj=>(σ[j]?).join) H Q) :
  wpAny (model X.prog X.w) A (call (.ref f) [u]) (EP X pins σ Q) E s:=by
 refine wpAny_call (codeAny_mono (R:=λr s'=>∃ u',r=.ok (.ret u')/\CE X.stack X.prog X.w H s Q u' s') (W.kla_callFunE GH ho hof c.co c.gen rfl hcd (by
  rw [hb u]
  refine aOf ?_
  refine wpAny_newFunctionEnv c.qe (λy hy=>by rw [ai5.mp hy]; exact c.par) (λh₁ hns jC=>?_) c.kind
  have hk₁:∀ b o,s.heap.get? b=some o->h₁.get? b=some o:=λb o e=>jC.extBut b o (a19 (aDe e)) (aL6 _ e)
  refine ⟨I.nolimit.keeps hk₁,?_⟩
  have J:=V9 (qual:=qual) (f:=f) (cd:=cd) (s1:={ s with heap:=h₁,toks:=s.toks+[(x,u)].length }) c I hA hh iY kM r hns hk₁ rfl rfl
  refine W.kla_codeExpr (acp (he s [] _ _ H Q J h) (λu' s' hq=>?_) λ_ _ z=>z.elim)
  obtain ⟨v',H',J',rv,q⟩:=hq
  exact ⟨u',rfl,v',H',J'.os,J'.bare,J'.base,J'.hok,rv,q⟩)) λr s' hq=>?_)
 obtain ⟨u',rfl,hq⟩:=hq
 exact I.after hq
theorem WC {P c0:Addr} {x:Str} {fr:List Str} {js:List Nat} {params:Arguments} {body:PySem.Expr} {scope:Scope} {pos:Pos} {R:Value->Shared->Prop} (c:lZ X scope x fr js) (I:Inv X pins σ H s) (hc0:X.env.code=.ref c0) (hcd:W.codeHdIn X.K c0 P=true)
  (bm:BMod X.base X.mg) (hP:H P=some (.j8 pos (X.env.qual ++ "<lambda>"))) (hd0:params.defaults=[]) (hk0:params.kw_defaults=[])
  (h:∀ f cl cd pm ct of H' s',Inv X pins σ H' s'->aB H H'->(∀ x c,cl.lookup x=some c->X.env.cells.lookup x=some c)->(∀ p∈scope.names,p.2=.free->∃ c,cl.lookup p.1=some c) -> 
   H' f=some (.cS of (.own 0))->of.data=.func (W.kla_fn "<lambda>" (X.env.qual ++ "<lambda>") params body scope cl pm cd ct)->(∃ c' oc vs t,cd=.ref c'/\H' c'=some (.cS oc (.own P))/\oc.data=.fields vs/\vs[1]?=some (.str (X.env.qual ++ "<lambda>") t))->R (.ref f) s') :
  wpAny (model X.prog X.w) X.A (eval (.Lambda params body scope pos) X.env) R X.xe s:=by
 obtain ⟨cl,e1,iY,_,kM⟩:=Bq (env:=X.env) scope.names [] (λp hp hf=>I.ok.has _ (c.free p hp hf)) (λx d e=>by simp at e)
 have hclos:closureFor scope X.env=pure cl:=by
  unfold closureFor
  refine (aOy (λz=>z >>= λcs=>pure cs) e1).trans ?_
  rfl
 have CH:=W.codeHd_of_K I.dW hcd
 obtain ⟨ps,hps,htr,hcode⟩:=(show aI X.prog X.w H s.heap P (.j8 pos (X.env.qual ++ "<lambda>")) from I.hok P _ hP)
 have hg:=I.ok.mod.glob.keeps I.bk
 have hgP:mainGlobals≠P:=λq=>by
  obtain ⟨o,es,ep,e,hd,_⟩:=hg
  rw [q,hps] at e; cases e; cases hd
 have hb:s.heap.BuiltinsAt X.mg P:=by
  obtain ⟨b,o,a1,a2,a3,a4,a5,a6,a7⟩:=bm
  have e:=I.bk _ _ a4
  exact ⟨b,o,a1,a2,a3,(λz=>by rw [z,hps] at e; cases e; cases a5),e,a5,a6,a7⟩
 rw [arm_eval_Lambda,defaultsOf_eq,hd0,hk0]
 show wpAny _ _ (do let dv ← evalAll (evalEach [] X.env); let S5 ← holding dv (evalAllOpt []); makeFunction "<lambda>" (X.env.qual ++ "<lambda>") params (.expr body) scope X.env dv S5 [] pos pos.line) _ _ s
 refine awJ (evalAll_nil ?_)
 refine awJ (aFl (aOf ?_))
 cases hf:codeAmong pos ps.toList with
 | some cv =>
  obtain ⟨c',oc,vs,t,rfl,hH,hd,hv⟩:=hcode cv hf
  refine W.kla_makeFunctionHit hclos I.ok.glob hg hc0 CH hps htr hf hb λctv h' tk hk hsz=>?_
  have I1:=I.laid (a:=h'.objs.size) (t':=tk) (o:=.cS { cls:=.type "function",data:=.func (W.kla_fn "<lambda>" (X.env.qual ++ "<lambda>") params body scope cl ((X.mg "__name__").getD .none) (.ref c') ctv) } (.own 0)) (h':=h'.push { cls:=.type "function",data:=.func (W.kla_fn "<lambda>" (X.env.qual ++ "<lambda>") params body scope cl ((X.mg "__name__").getD .none) (.ref c') ctv) }) (λb o e=>aL6 _ (hk b o e)) hsz ⟨aWh _ rfl,_,aWh _ rfl⟩
  have fr:=I.hok.fresh hsz
  exact h _ cl _ _ _ _ _ _ I1 (Zg fr _) iY kM Za rfl ⟨c',oc,vs,t,rfl,by rw [Zc (Ze hH fr)]; exact hH,hd,hv⟩
 | none =>
  refine W.kla_makeFunction hclos I.ok.glob hg hc0 CH hps htr hf hgP hb λc' ctv h' tk hx hge hlt hrec htb=>?_
  obtain ⟨oc,vs,t,hoc,hd,hv,I1⟩:=I.grown (tk:=tk) hP hx hge hrec htr hf htb
  have fr:H c'=none:=I.hok.fresh hge
  have uC:upd H c' (.cS oc (.own P)) h'.objs.size=none:=I1.hok.fresh (a17 _)
  have I2:=I1.laid (a:=h'.objs.size) (t':=tk) (o:=.cS (W.kla_obj "<lambda>" (X.env.qual ++ "<lambda>") params body scope cl ((X.mg "__name__").getD .none) c' ctv) (.own 0)) (h':=h'.push (W.kla_obj "<lambda>" (X.env.qual ++ "<lambda>") params body scope cl ((X.mg "__name__").getD .none) c' ctv)) (λb o e=>aL6 _ e) (a17 _) ⟨aWh _ rfl,_,aWh _ rfl⟩
  exact h _ cl _ _ _ _ _ _ I2 ((Zg fr _).trans (Zg uC _)) iY kM Za rfl ⟨c',oc,vs,t,rfl,by rw [Zc (Ze Za uC)]; exact Za,hd,hv⟩
end
end L2
namespace L2
open PySem PySem.Spec PyProof.Rows L2.P9
def tM (key:Int->Int) (ns:List Int) (a b:Int):Prop:=key a<key b\/(key a=key b/\ns.idxOf a<ns.idxOf b)
theorem WB {l:List Keyed} (h:∀ p∈l,∃ t,p.2=.int (numOf p.2) t):Vals ((l.map λp=>numOf p.2).map V.int) (l.map (·.2)):=by
 induction l with
 | nil=>exact .nil
 | cons p r ih =>
  obtain ⟨t,e⟩:=h p abW
  exact .cons ⟨t,e⟩ (ih λq hq=>h q (aZE _ hq))
theorem IT {vs:List Value} {ns:List Int} (h:IntsAre vs ns):∀ {i:Nat} {v:Value},vs[i]?=some v->∃ n t,ns[i]?=some n/\v=.int n t:=by
 induction h with
 | nil=>intro i v e; simp at e
 | cons n t _ ih =>
  intro i v e
  cases i with
  | zero=>exact ⟨n,t,rfl,by simpa using e.symm⟩
  | succ i=>exact ih (by simpa using e)
theorem Nk:∀ {ns:List Int},ns.Nodup->∀ {i:Nat} {n:Int},ns[i]?=some n->ns.idxOf n=i
 | [],_,_,_,e=>by simp at e
 | x :: r,nd,0,n,e=>by
  have e':x=n:=by simpa using e
  subst e'
  simp
 | x :: r,nd,i+1,n,e=>by
  obtain ⟨h1,h2⟩:=aEW.mp nd
  have e':r[i]?=some n:=by simpa using e
  have ne:x≠n:=λz=>h1 (z ▸ a7T e')
  rw [List.idxOf_cons,show (x == n)=false by simpa using ne]
  show r.idxOf n+1=i+1
  rw [Nk h2 e']
theorem OP {keys:Array Value} {vs:List Value} {ns:List Int} {key:Int->Int} (hk:IntsAre keys.toList (ns.map key)) (hv:IntsAre vs ns) (nd:ns.Nodup) :
  iC (λp=>ns.idxOf (numOf p.2)) (keys.zip vs.toArray) 0/\∀ xs:Array Keyed,xs.Perm (keys.zip vs.toArray)->mj (λp=>ns.idxOf (numOf p.2)) xs xs.size ->
   ∃ os:List Int,Vals (os.map V.int) (xs.map (·.2)).toList/\os.Perm ns/\os.Pairwise (tM key ns):=by
 have lk:keys.size=ns.length:=by have:=hk.length; rw [aUD,afy] at this; lia
 have lv:vs.length=ns.length:=by have:=hv.length; lia
 have Ho:∀ (i:Nat) (p:Keyed),(keys.zip vs.toArray)[i]?=some p->∃ n t t',ns[i]?=some n/\p=(Value.int (key n) t,Value.int n t'):=λi p e=>by
  have e':(keys.toList.zip vs)[i]?=some p:=by rw [← ksk_zip,apT]; exact e
  rw [List.getElem?_zip_eq_some] at e'
  obtain ⟨n1,t1,q1,r1⟩:=IT hk e'.1
  obtain ⟨n2,t2,q2,r2⟩:=IT hv e'.2
  rw [aC3,q2] at q1
  have zm:key n2=n1:=by simpa using q1
  exact ⟨n2,t1,t2,q2,Prod.ext (by rw [r1,zm]) r2⟩
 have vE:∀ p∈(keys.zip vs.toArray).toList,∃ n t t',n∈ns/\p=(Value.int (key n) t,Value.int n t'):=λp hp=>by
  obtain ⟨i,e⟩:=aQ3 hp
  rw [apT] at e
  obtain ⟨n,t,t',q,r⟩:=Ho i p e
  exact ⟨n,t,t',a7T q,r⟩
 refine ⟨λi _ hi=>?_,λxs hp hi=>?_⟩
 .obtain ⟨n,t,t',q,r⟩:=Ho i _ (axz hi)
  unfold Rk
  rw [axz hi,r]
  show ns.idxOf n=i
  exact Nk nd q
 .have pm:=aGk.mp hp
  have vD:∀ p∈xs.toList,∃ n t t',n∈ns/\p=(Value.int (key n) t,Value.int n t'):=λp vO=>vE p (pm.mem_iff.mp vO)
  refine ⟨xs.toList.map λp=>numOf p.2,?_,?_,?_⟩
  .rw [Array.toList_map]
   refine WB λp vO=>?_
   obtain ⟨n,t,t',_,rfl⟩:=vD p vO
   exact ⟨t',rfl⟩
  .have e:(keys.zip vs.toArray).toList.map (λp=>numOf p.2)=ns:=by
    apply aTT
    intro i
    rw [aC3,apT]
    by_cases hlt:i<(keys.zip vs.toArray).size
    .obtain ⟨n,t,t',q,r⟩:=Ho i _ (axz hlt)
     rw [axz hlt,r,q]
     rfl
    .have lz:(keys.zip vs.toArray).size=ns.length:=by rw [Array.size_zip,lk,aHG,lv,Nat.min_self]
     rw [Array.getElem?_eq_none (by lia),awj (by lia)]
     rfl
   rw [← e]
   exact pm.map _
  .rw [pairwise_iff_getElem]
   intro i j hi' hj' hij
   have hi2:i<xs.size:=by simpa using hi'
   have hj2:j<xs.size:=by simpa using hj'
   have v:=hi i j hij hj2
   obtain ⟨n1,t1,t1',_,r1⟩:=vD xs[i] (by simp)
   obtain ⟨n2,t2,t2',_,r2⟩:=vD xs[j] (by simp)
   have k1:K xs i=key n1:=by rw [K_eq hi2,r1]; rfl
   have k2:K xs j=key n2:=by rw [K_eq hj2,r2]; rfl
   have q1:Rk (λp=>ns.idxOf (numOf p.2)) xs i=ns.idxOf n1:=by unfold Rk; rw [axz hi2,r1]; rfl
   have q2:Rk (λp=>ns.idxOf (numOf p.2)) xs j=ns.idxOf n2:=by unfold Rk; rw [axz hj2,r2]; rfl
   have g1:(xs.toList.map λp=>numOf p.2)[i]=n1:=by simp [r1,numOf]
   have g2:(xs.toList.map λp=>numOf p.2)[j]=n2:=by simp [r2,numOf]
   rw [g1,g2]
   unfold gH at v
   rw [k1,k2,q1,q2] at v
   exact v
section
variable {X:Cx} {pins:List (Addr×Obj)} {σ:St} {H:Hp} {s:Shared} {d:Addr} {xs:List V} {o:Obj}
theorem Inv.rQ (I:Inv X pins σ H s) (h:H d=some (.cS o (.lst xs))) (h0:∀ o' u,X.H₀ d≠some (.cS o' u)):Inv X pins σ (upd H d (.lst xs)) s:=by
 have ne:∀ b u,H b=some u->u≠.cS o (.lst xs)->b≠d:=λb u e n z=>by rw [z,h] at e; exact n (aGB e).symm
 have nn:∀ b,H b=none->b≠d:=λb e z=>by rw [z,h] at e; cases e
 refine ⟨I.ok,I.os,I.bare,⟨I.base.keep,I.base.slot,λb o' e n hx=>?_,I.base.there,λb ys e=>?_,λb o' u e=>?_,λb p r e=>?_⟩,I.loc,I.cell,?_,λx c e=>?_,λp hp=>?_,λb u e=>?_,I.len⟩
 .have q:=I.base.free b o' e n hx
  rw [Zc (nn b q)]
  exact q
 .have q:=I.base.tups b ys e
  rw [Zc (ne b _ q (by intro z; cases z))]
  exact q
 .have q:=I.base.iX b o' u e
  rw [Zc (λz=>h0 o' u (by rw [← z]; exact e))]
  exact q
 .have q:=I.base.jd b p r e
  rw [Zc (ne b _ q (by intro z; cases z))]
  exact q
 .rw [Zc (nn _ I.free)]
  exact I.free
 .rw [Zc (nn _ (I.dD x c e))]
  exact I.dD x c e
 .obtain ⟨a1,a2,a3⟩:=I.pin p hp
  exact ⟨a1,by rw [Zc (nn _ a2)]; exact a2,a3⟩
 .by_cases hb:b=d
  .subst hb
   rw [Za] at e
   cases e
   exact (I.hok b _ h).2
  .rw [Zc hb] at e
   exact (I.hok b u e).stay (λ_ _ _ z=>z) (λc z=>by rw [Zc (ne c _ z (by intro y; cases y))]; exact z) (λc ys z=>by rw [Zc (ne c _ z (by intro y; cases y))]; exact z) λc oz z=>by rw [Zc (ne c _ z (by intro y; cases y))]; exact z
theorem OO {a kS:Addr} {st:SortSt} {e1:Nat} {H1:Hp} {ns:List Int} {key:Int->Int} {keys:Array Value} {its:List Value} {ks:List V} {A:Around} {E:Value->Shared->Prop} {R:PySem.Fin->Shared->Prop} (I:Inv X pins σ H1 s) (hk:IntsAre keys.toList (ns.map key)) (hv:IntsAre its ns) (nd:ns.Nodup) (h64:ns.length<64)
  (ha:H1 a=some (.cS (seqObj "list" #[] e1) (.lst []))) (h0:∀ o' u,X.H₀ a≠some (.cS o' u)) (xU:H1 kS=some (.lst ks)) (hlk:ks.length<=64) (hp:(arrOf st).Perm (keys.zip its.toArray)) (hi:mj (λp=>ns.idxOf (numOf p.2)) (arrOf st) (arrOf st).size) (hf:failedOf st=none)
  (h:∀ (H':Hp) (s':Shared) (os:List Int),Inv X pins σ H' s'->(∀ b,b≠a->b≠kS->H' b=H1 b)->H' a=some (.lst (os.map V.int))->os.Perm ns->os.Pairwise (tM key ns)->R (.done (.ret .none)) s') :
  wpAny (model X.prog X.w) A (ksk_tail a false e1 (.ref kS) st) R E s:=by
 have CC:a≠kS:=λz=>by rw [z,xU] at ha; cases ha
 obtain ⟨os,vo,po,so⟩:=(OP hk hv nd).2 _ hp hi
 have lo:=po.length_eq
 unfold ksk_tail
 try dsimp only
 obtain ⟨_,qt,n,rK,L5,eK⟩:=I.qk xU
 have lK:qt.length<=64:=by have:=rK.length; lia
 refine awJ (aUa eK rfl ?_ (by rw [aHG,bav]; lia) (avV _))
 have I6:=I.ql (t':=s.toks) (f:=λ_=>#[]) (its':=[]) (ys:=[]) xU eK rfl .nil (avV _)
 have Mg:upd H1 kS (.lst []) a=some (.cS (seqObj "list" #[] e1) (.lst [])):=by rw [Zc CC]; exact ha
 have oa:=(I6.hok a _ Mg).1
 refine awJ (wpAny_letGo ?_)
 refine awJ (seqEpoch_at oa rfl ?_)
 have lo2:((arrOf st).map (·.2)).size=ns.length:=by
  have e:=vo.length
  rw [afy] at e
  have e2:((arrOf st).map (·.2)).toList.length=((arrOf st).map (·.2)).size:=aUD
  lia
 refine awJ (aUa oa rfl ?_ (avV _) (by simp only [aXZ,aE9]; rw [lo2,bav]; lia))
 rw [hf]
 simp only [bne_self_eq_false,aXZ,aE9]
 have I7:=I6.rQ Mg h0
 have I8:=I7.ql (t':=s.toks) (f:=λ_=>(arrOf st).map (·.2)) (its:=[]) (its':=((arrOf st).map (·.2)).toList) (ys:=os.map V.int) Za oa (by exact (Array.toArray_toList).symm) vo (by rw [afy,bav]; lia)
 refine aOf (h _ _ os I8 (λb n1 n2=>?_) Za po so)
 rw [Zc n1,Zc n1,Zc n2]
theorem V8 {a kS:Addr} {e1:Nat} {H1:Hp} {ns:List Int} {key:Int->Int} {keys:Array Value} {its:List Value} {ks:List V} {A:Around} {E:Value->Shared->Prop} {R:PySem.Fin->Shared->Prop} (I:Inv X pins σ H1 s) (hk:IntsAre keys.toList (ns.map key)) (hv:IntsAre its ns) (nd:ns.Nodup) (h64:ns.length<64)
  (ha:H1 a=some (.cS (seqObj "list" #[] e1) (.lst []))) (h0:∀ o' u,X.H₀ a≠some (.cS o' u)) (xU:H1 kS=some (.lst ks)) (hlk:ks.length<=64)
  (h:∀ (H':Hp) (s':Shared) (os:List Int),Inv X pins σ H' s'->(∀ b,b≠a->b≠kS->H' b=H1 b)->H' a=some (.lst (os.map V.int))->os.Perm ns->os.Pairwise (tM key ns)->R (.done (.ret .none)) s') :
  wpAny (model X.prog X.w) A (ksk_end a false its.toArray e1 (.ref kS) keys) R E s:=by
 have lk:keys.size=ns.length:=by have:=hk.length; rw [aUD,afy] at this; lia
 have lv:its.length=ns.length:=by have:=hv.length; lia
 have hzs:(keys.zip its.toArray).size=ns.length:=by rw [Array.size_zip,lk,aHG,lv,Nat.min_self]
 obtain ⟨LS,_⟩:=OP hk hv nd
 unfold ksk_end
 simp only [aXZ,aE9]
 by_cases h2:its.toArray.size<2
 .rw [ajr h2,ajr h2]
  refine awJ (aOf ?_)
  rw [StateT.run_pure]
  refine awJ (aOf ?_)
  try dsimp only
  refine OO (st:=SortSt.mk' general' (keys.zip its.toArray) #[] 7 none) I hk hv nd h64 ha h0 xU hlk (asx _) (λi j hij hj=>?_) rfl h
  have hj2:j<(keys.zip its.toArray).size:=hj
  rw [aHG] at h2
  lia
 .rw [aBJ h2,aBJ h2]
  rw [aHG] at h2
  rw [ksk_kind hk (by rw [lk]; lia)]
  refine awJ (aOf ?_)
  refine awJ (acp (Wa (ρ:=λp=>ns.idxOf (numOf p.2)) (a₀:=keys.zip its.toArray) (st:=SortSt.mk' oneType' (keys.zip its.toArray) #[] 7 none)
   (Q:=λ_ st1=>(arrOf st1).Perm (keys.zip its.toArray)/\failedOf st1=none/\mj (λp=>ns.idxOf (numOf p.2)) (arrOf st1) (keys.zip its.toArray).size)
   (ksk_intKeys hk) LS ⟨asx _,rfl,rfl,rfl⟩ LS (by rw [hzs]; lia) (by rw [hzs]; exact h64) λst1 a1 a2 a3=>⟨a1,a2,a3⟩) ?_ λ_ _ e=>e)
  rintro ⟨⟨⟩,st1⟩ s1 ⟨rfl,hp,hf,hs⟩
  try dsimp only
  exact OO I hk hv nd h64 ha h0 xU hlk hp (by rw [hp.size_eq]; exact hs) hf h
theorem WA {l f:Addr} {ns:List Int} {key:Int->Int} {Q:VK} {E:Value->Shared->Prop} (I:Inv X pins σ H s) (hq:aF X.K H l (ns.map V.int)) (h64:ns.length<64) (nd:ns.Nodup)
  (turn:∀ z∈ns,∀ H1 s1 u,aB H H1->Inv X pins σ H1 s1->RelV (.int z) u->wpAny (model X.prog X.w) X.A.in1.in1 (call (.ref f) [u]) (EP X pins σ λv H'=>v=.int (key z)/\H'=H1) (λ_ _=>False) s1)
  (q:∀ (D:Addr) (H':Hp) (os:List Int),H D=none->aB H H'->H' D=some (.lst (os.map V.int))->os.Perm ns->os.Pairwise (tM key ns)->Q (.ref D) H') :
  wpAny (model X.prog X.w) X.A (call (.builtin "sorted") [.ref l] [(Str.ofString "key",.ref f)]) (EP X pins σ Q) E s:=by
 obtain ⟨its,rv,pl,hz⟩:=I.list hq
 have hv:=Jx rv
 have lv:its.length=ns.length:=by have:=rv.length; rw [afy] at this; exact this.symm
 refine call_function_entry_kw kind_sorted plain_sorted entry_sorted (ksk_s1 _ _) ?_
 unfold Builtin.«sorted»
 refine awJ (m:=checkCount "sorted" 1 1 _) (aOf ?_)
 refine awJ (collect_list pl.isList ?_ (by rw [bav]; lia))
 refine awJ (a31 ?_ (by rw [bav]; lia))
 have hsz:((s.heap.push (seqObj "list" #[] 0)).update s.heap.objs.size (Obj.mapSeq (·++its.toArray))).objs.size=s.heap.objs.size+1:=by
  rw [Heap.size_update,size_push']
 have kL:(((s.heap.push (seqObj "list" #[] 0)).update s.heap.objs.size (Obj.mapSeq (·++its.toArray))).push (seqObj "list" its.toArray 0)).get? (s.heap.objs.size+1)=some (seqObj "list" its.toArray 0):=by
  rw [← hsz]
  exact aWh _ rfl
 have keep:∀ b o,s.heap.get? b=some o->(((s.heap.push (seqObj "list" #[] 0)).update s.heap.objs.size (Obj.mapSeq (·++its.toArray))).push (seqObj "list" its.toArray 0)).get? b=some o:=λb o e=>by
  have lt:b<s.heap.objs.size:=aDe e
  rw [aGu _ _ _ (by rw [hsz]; exact a19 (aWL lt)),Heap.get?_update_ne _ _ _ _ (a19 lt),aGu _ _ _ (a19 lt)]
  exact e
 show wpAny _ _ _ _ _ { s with heap:=((s.heap.push (seqObj "list" #[] 0)).update s.heap.objs.size (Obj.mapSeq (·++its.toArray))).push (seqObj "list" its.toArray 0) }
 rw [hsz]
 have hsz1:(((s.heap.push (seqObj "list" #[] 0)).update s.heap.objs.size (Obj.mapSeq (·++its.toArray))).push (seqObj "list" its.toArray 0)).objs.size=s.heap.objs.size+2:=by rw [size_push',hsz]
 generalize ((s.heap.push (seqObj "list" #[] 0)).update s.heap.objs.size (Obj.mapSeq (·++its.toArray))).push (seqObj "list" its.toArray 0)=h1 at *
 refine awJ (aFl (wpAny_call_entry_kw slot_list_sort ⟨_,kL,rfl⟩ entry_list_sort ?body (ksk_l1 _ _)))
 case body =>
  show wpAny (model X.prog X.w) X.A.in1.in1 (Builtin.«list.sort» ⟨[.ref (s.heap.objs.size+1)],[(Str.ofString "key",.ref f)]⟩) _ _ _
  rw [ksk_t1]
  unfold ksk_tree
  refine awJ (listItems_at kL rfl ?_)
  refine awJ (aUa kL rfl ?_ (by rw [aHG,bav]; lia) (avV _))
  obtain ⟨e1,L1⟩:∃ e1,(h1.update (s.heap.objs.size+1) (Obj.mapSeq λ_=>(#[]:Array Value))).get? (s.heap.objs.size+1)=some (seqObj "list" #[] e1):=⟨_,get?_update_seq kL λ_=>#[]⟩
  have zV:∀ b o,s.heap.get? b=some o->(h1.update (s.heap.objs.size+1) (Obj.mapSeq λ_=>(#[]:Array Value))).get? b=some o:=λb o e=>by
   have lt:b<s.heap.objs.size:=aDe e
   rw [Heap.get?_update_ne _ _ _ _ (a19 (aWL lt))]
   exact keep b o e
  generalize h1.update (s.heap.objs.size+1) (Obj.mapSeq λ_=>(#[]:Array Value))=h2 at *
  refine awJ (seqEpoch_at L1 rfl ?_)
  refine awJ (wpAny_newTuple ?_ (by show its.length<=_; rw [bav]; lia))
  refine awJ (a31 ?_ (avV _))
  refine aFl ?_
  have fr:H (s.heap.objs.size+1)=none:=I.hok.fresh (Nat.le_succ _)
  have h0:∀ o' u,X.H₀ (s.heap.objs.size+1)≠some (.cS o' u):=λo' u e=>by rw [I.base.iX _ _ _ e] at fr; cases fr
  have ho2:(h2.push (seqObj "tuple" its.toArray 0)).get? (s.heap.objs.size+1)=some (seqObj "list" #[] e1):=aL6 _ L1
  have I3:=I.laid (a:=s.heap.objs.size+1) (t':=s.toks) (o:=.cS (seqObj "list" #[] e1) (.lst [])) (h':=h2.push (seqObj "tuple" its.toArray 0)) (λb o e=>aL6 _ (zV b o e)) (Nat.le_succ _) ⟨ho2,avV _,[],e1,.nil,ho2⟩
  have xY:=I3.hok.fresh (a17 _)
  have I4:=I3.laid (t':=s.toks) (o:=.lst []) (h':=(h2.push (seqObj "tuple" its.toArray 0)).push (seqObj "list" #[] 0)) (λb o e=>aL6 _ e) (a17 _) ⟨avV _,[],0,.nil,aWh _ rfl⟩
  have CC:s.heap.objs.size+1≠(h2.push (seqObj "tuple" its.toArray 0)).objs.size:=Ze Za xY
  have sm:aB H (upd (upd H (s.heap.objs.size+1) (.cS (seqObj "list" #[] e1) (.lst []))) (h2.push (seqObj "tuple" its.toArray 0)).objs.size (.lst [])):=(Zg fr _).trans (Zg xY _)
  have Mr:H (h2.push (seqObj "tuple" its.toArray 0)).objs.size=none:=(Zg fr _).free xY
  have GB:upd (upd H (s.heap.objs.size+1) (.cS (seqObj "list" #[] e1) (.lst []))) (h2.push (seqObj "tuple" its.toArray 0)).objs.size (.lst []) (h2.push (seqObj "tuple" its.toArray 0)).objs.size=some (.lst []):=Za
  have ha0:upd (upd H (s.heap.objs.size+1) (.cS (seqObj "list" #[] e1) (.lst []))) (h2.push (seqObj "tuple" its.toArray 0)).objs.size (.lst []) (s.heap.objs.size+1)=some (.cS (seqObj "list" #[] e1) (.lst [])):=by rw [Zc CC]; exact Za
  generalize upd (upd H (s.heap.objs.size+1) (.cS (seqObj "list" #[] e1) (.lst []))) (h2.push (seqObj "tuple" its.toArray 0)).objs.size (.lst [])=H4 at *
  show wpAny (model X.prog X.w) X.A.in1.in1 (ksk_rest (s.heap.objs.size+1) (.ref f) false its.toArray e1 (.ref (h2.push (seqObj "tuple" its.toArray 0)).objs.size)) _ _ { s with heap:=(h2.push (seqObj "tuple" its.toArray 0)).push (seqObj "list" #[] 0) }
  generalize (h2.push (seqObj "tuple" its.toArray 0)).objs.size=kS at *
  generalize (h2.push (seqObj "tuple" its.toArray 0)).push (seqObj "list" #[] 0)=h4 at *
  unfold ksk_rest
  refine awJ (ag2 ?_)
  rw [List.forIn_toArray]
  refine awJ (ksk_fold (λi s1=>∃ H1:Hp,Inv X pins σ H1 s1/\aB H H1/\H1 (s.heap.objs.size+1)=some (.cS (seqObj "list" #[] e1) (.lst []))/\H1 kS=some (.lst (((ns.take i).map key).map V.int))) its 0 _
   ⟨H4,I4,sm,ha0,GB⟩ ?step ?done)
  case step =>
   rintro j x s1 hx ⟨H1,I1,s1',a1,k1⟩
   simp only [bcx] at k1 ⊢
   obtain ⟨z,t,hz',rfl⟩:=IT hv hx
   have hj:j<ns.length:=(a7Y.mp hz').1
   refine awJ (wpAny_attempt (acp (turn z (a7T hz') H1 s1 _ s1' I1 ⟨t,rfl⟩) (λv s2 he=>?_) λ_ _ hF=>hF.elim))
   obtain ⟨v',H',I2,r2,rfl,rfl⟩:=he
   try dsimp only
   obtain ⟨_,qt,n,rK,L5,eK⟩:=I2.qk k1
   have lK:qt.length<=ns.length:=by
    have:=rK.length
    rw [afy,afy,aVk] at this
    lia
   refine awJ (aUa eK rfl ?_ (by rw [aHG,bav]; lia) (by rw [Array.size_push,aHG,bav]; lia))
   have ek:ns.take (j+1)=ns.take j++[z]:=by rw [List.take_succ,hz']; rfl
   have I5:=I2.ql (t':=s2.toks) (f:=(·.push v)) (its':=qt++[v]) (ys:=((ns.take (j+1)).map key).map V.int) k1 eK (by simp) (by rw [ek,aAZ,aAZ]; exact rK.append (.cons r2 .nil)) (by rw [afy,afy,aVk,bav]; lia)
   refine aOf ⟨rfl,_,I5,λb o y=>?_,?_,Za⟩
   .rw [Zc (Ze y Mr)]
    exact s1' _ _ y
   .rw [Zc CC]
    exact a1
  case done =>
   rintro s1 ⟨H1,I1,s1',a1,k1⟩
   rw [bcx,lv,List.take_length] at k1
   obtain ⟨_,qt,n,rK,L5,eK⟩:=I1.qk k1
   try dsimp only
   refine awJ (listItems_at eK rfl ?_)
   refine V8 (ns:=ns) (key:=key) I1 (by simpa using Jx rK) hv nd h64 a1 h0 k1 (by rw [afy,afy]; lia) λH' s2 os I2 RZ hD po so=>⟨_,rfl,?_⟩
   refine aOf ⟨_,rfl,.ref (s.heap.objs.size+1),H',I2,rfl,q _ H' os fr (λb o y=>?_) hD po so⟩
   rw [RZ b (Ze y fr) (Ze y Mr)]
   exact s1' _ _ y
end
end L2
namespace L2
open PySem PySem.Spec PyProof.Rows
structure av (P:Program) (w:World) (K:W.Frag) (mg:Str->Option Value) (base:Heap) (C:Addr) (m:Str) (k:Nat) (ps:List Str) (sp:Sp):Prop where
 ex:∃ (f:Addr) (fd:FuncData),au P w K mg base aW k f fd ps sp/\Meth K C m f/\Binds K fd ps []
structure oQ (P:Program) (w:World) (K:W.Frag) (mg:Str->Option Value) (base:Heap) (C:Addr) (x:Str) (k:Nat) (ps:List Str) (sp:Sp):Prop where
 ex:∃ (f:Addr) (fd:FuncData),au P w K mg base aW k f fd ps sp/\Mk K C f/\mg x=some (.ref C)/\Binds K fd ps []
section
variable {X:Cx} {x m:Str} {p pos apos:Pos} {e o:PySem.Expr} {es:List PySem.Expr} {ta:TE} {t:TA} {k:Nat} {ps:List Str} {sp:Sp} {C:Addr}
theorem Zk {pl:Sem Bool} (M:av X.prog X.w X.K X.mg X.base C m k ps sp) (hr:br k X.A) (c:mw X.K C) (he:PE X o ta) (ha:PA X (e :: es) t) (hn:tL (e :: es):=by repeat' (first | exact True.intro | refine ⟨?_,?_⟩))
  (ht:eval (.Call (.Attribute o m apos) (e :: es) [] pos) X.env=(do
   let ov ← eval o X.env
   standAt apos.atName
   let (f,first) ← holding [ov] (getMethod ov m pl)
   callWith pos f first (backTo pos (starEach (e :: es) X.env)) (backToKw pos (keywordEach [] X.env))):=by rfl) :
  PE X (.Call (.Attribute o m apos) (e :: es) [] pos) (nj C m sp [] E0 ta t):=by
 obtain ⟨f,fd,F,hm,hb⟩:=M.ex
 exact Wq he c hm F hr hb .nil nT ha (rH hn.1) (wL hn.2) ht
theorem Bb (M:oQ X.prog X.w X.K X.mg X.base C x k ps sp) (hr:br (k+1) X.A) (hg:Gl X x) (ha:PA X (e :: es) t) (hn:tL (e :: es):=by repeat' (first | exact True.intro | refine ⟨?_,?_⟩)) (hd:(x == ("__debug__" : Str))=false:=by decide) :
  PE X (.Call (.Name x p) (e :: es) [] pos) (tS C sp [] E0 t):=by
 obtain ⟨f,fd,F,M',hm,hb⟩:=M.ex
 exact Wo M' F hr hg hm hb .nil nT ha (hdb:=hd) (he:=rH hn.1) (hpl:=wL hn.2)
def RE:TS:=λ_ _ _=>False
theorem pW {st:Stmt}:PS X st RE:=λ_ _ _ _ _ _ h=>False.elim h
end
theorem aZ.R6 {P:Program} {w:World} {K:W.Frag} {mg:Str->Option Value} {base:Heap} {x qual:Str} {st:Stmt} {f:Addr} {fd:FuncData} {N ps:List Str} {k:Nat} {sp:Sp} (F:aZ K x qual st f fd) (S:ah N ps (Zi st)) (len:∀ vs H Q E,sp vs H Q E->vs.length=ps.length)
  (hbody:∀ (cdv:Value) (A:Around) (outer:List Env) (s:Shared) (H:Hp) (vs:List V) (Q:VK) (E:XK),fd.code=cdv->br k (A.deeper (envOfC qual (Zi st) s.heap.objs.size f cdv))->sp vs H Q E ->
   ∃ t,oM (lF aW P w K mg base N qual (Zi st) f cdv A outer s H E).vv (ZF st) t/\t { nx:=λ_ H'=>Q .aR H',rt:=Q } (start N vs) H):au P w K mg base aW (k+1) f fd ps sp:=by
 obtain ⟨oc,od,kV,doc,pm,an,cdv,ct,osl,rfl,lk,hcd⟩:=F.ex
 refine uD lk hcd S len λA outer s H vs Q E hr mO=>?_
 obtain ⟨t,h,q⟩:=hbody cdv A outer s H vs Q E rfl hr mO
 exact ⟨t,h.vv,q⟩
theorem Zl {X:Cx} {K:W.Frag} {e:PySem.Expr} {f:Str} {pos:Pos} {ta:TE} (hK:X.K=K) (he:PE X e ta) (hb:attributeBase e f X.env (eval e X.env)=eval e X.env):PE X (.Attribute e f pos) (yP K ta f):=by
 subst hK
 exact VW he hb
def zS (jJ:Scope) (oN:List Str) (scope:Scope) (x:Str) (fr:List Str) (js:List Nat):Bool :=
 scope.kind == .function && !scope.isCoroutine && !scope.isGenerator && scope.names.all (λy=>y.2 != .cell) && scope.names.lookup x == some .local &&
 scope.names.all (λy=>y.2 != .free || (jJ.names.lookup y.1 == some .cell || jJ.names.lookup y.1 == some .free)) && fr.length == js.length &&
 (js.map λj=>oN[j]?) == fr.map some && fr.all λy=>scope.names.lookup y == some .free
theorem Wz {X:Cx} {jJ:Scope} {oN:List Str} {scope:Scope} {x:Str} {fr:List Str} {js:List Nat} (h:zS jJ oN scope x fr js=true) (hs:X.env.scope=jJ) (hN:X.N=oN):lZ X scope x fr js:=by
 unfold zS at h
 simp only [aAw,aaC,Bool.or_eq_true,aXR,bne_iff_ne,ne_eq,aoH] at h
 obtain ⟨⟨⟨⟨⟨⟨⟨⟨h1,h2⟩,h3⟩,h4⟩,h5⟩,h6⟩,h7⟩,h8⟩,h9⟩:=h
 refine ⟨h1,h2,h3,h4,h5,λy hy hf=>?_,h7,λk j e=>?_,λk y e=>h9 y (a7T e)⟩
 .rcases h6 y hy with q | q
  .exact absurd hf q
  .show X.env.scope.names.lookup y.1=_\/X.env.scope.names.lookup y.1=_
   rw [hs]; exact q
 .rw [hN]
  have z:=aOy (λl=>l[k]?) h8
  simp only [aC3,e,a2j] at z
  cases q:fr[k]? with
  | none=>rw [q] at z; cases z
  | some y=>rw [q] at z; exact (aGB z).symm
theorem VE {A:Around} {k:Nat} {env:Env} (hr:br k A):(A.in1.in1.deeper env).units+1<cLine:=by
 have:=hr.un
 show A.units+1+1+3+1<cLine
 lia
def Nf (K:W.Frag) (P:Addr) (ly:Pos) (qual:Str) (js:List Nat) (te:TE) (σ:St) (Q:VK) (x:V) (H1:Hp):Prop:=∃ (l:Addr) (ns:List Int) (key:Int->Int),x=.ref l/\aF K H1 l (ns.map V.int)/\ns.length<64/\ns.Nodup/\H1 P=some (.j8 ly qual) /\
 (∀ z∈ns,∀ H2,aB H1 H2->te (some (.int z) :: js.map λj=>(σ[j]?).join) H2 λv H'=>v=.int (key z)/\H'=H2) /\
 ∀ (D:Addr) (H':Hp) (os:List Int),H1 D=none->aB H1 H'->H' D=some (.lst (os.map V.int))->os.Perm ns->os.Pairwise (tM key ns)->Q (.ref D) H'
def Vc (K:W.Frag) (P:Addr) (ly:Pos) (qual:Str) (js:List Nat) (Cd te:TE):TE:=λσ H Q=>Cd σ H λx H1=>Nf K P ly qual js te σ Q x H1
section
variable {X:Cx}
theorem Xg {K:W.Frag} {P c0:Addr} {k:Nat} {y:Str} {fr:List Str} {js:List Nat} {qual:Str} {params:Arguments} {body xs:PySem.Expr} {scope:Scope} {p pos ly kpos:Pos} {Cd te:TE} (hK:X.K=K) (hr:br k X.A) (hcl:X.calm=true) (hg:Gl X "sorted") (hm:X.mg "sorted" = none)
  (c:lZ X scope y fr js) (hc0:X.env.code=.ref c0) (hcd:W.codeHdIn X.K c0 P=true) (bm:BMod X.base X.mg) (hq:X.env.qual ++ "<lambda>" = qual) (hd0:params.defaults=[]) (hk0:params.kw_defaults=[])
  (hb:∀ cl pm cd ct u,bindArgs (W.kla_fn "<lambda>" qual params body scope cl pm cd ct) ⟨[u],[]⟩=pure [(y,u)]) (ha:PE X xs Cd)
  (he:∀ f cd cl s H,PE (iO X X.A.in1.in1 (y :: fr) qual scope f cd cl s H) body te) (hn:tL [xs]:=by repeat' (first | exact True.intro | refine ⟨?_,?_⟩)) :
  PE X (.Call (.Name "sorted" p) [xs] [⟨some "key",.Lambda params body scope ly,kpos⟩] pos) (Vc K P ly qual js Cd te):=by
 subst hK
 subst hq
 intro pins s σ H Q I h
 refine aGH (pB I hg hm boot_sorted ?_ (by decide) (by decide))
 refine callWith_kw (aJ ((pc ha Zb hn.1) pos pins s σ H (λvs H1=>match vs with | [x]=>Nf X.K P ly (X.env.qual ++ "<lambda>") js te σ Q x H1 | _=>False) I h) λus s1 ⟨vs,H1,I1,r1,q1⟩=>?_) (by rw [rH hn.1]; rfl) (by rw [rH hn.1]; rfl) rfl rfl
 match vs,r1,q1 with
 | [],_,z=>exact z.elim
 | _ :: _ :: _,_,z=>exact z.elim
 | [x],r1,q1 =>
  obtain ⟨l,ns,key,rfl,hS,h64,nd,hP,ht,q⟩:=q1
  obtain ⟨u,rfl,ru⟩:=vals1 r1
  cases ru
  show wpAny _ _ (evalAll [(do let v ← eval (.Lambda params body scope ly) X.env; standAt pos; pure v)]) _ _ s1
  refine wpAny_evalAll_cons (awJ (WC c I1 hc0 hcd bm hP hd0 hk0 λf cl cd pm ct of H2 s2 I2 sm iY kM hf hof hcode=>awJ (wpAny_standAt (aOf (wpAny_evalAll_nil ?_)))))
  show wpAny _ _ (call (.builtin "sorted") [.ref l] [(Str.ofString "key",.ref f)]) _ _ s2
  refine WA I2 (sm.seq hS) h64 nd (λz hz H3 s3 u Fc I3 ru=>?_) λD H' os hD RJ hl po so=>q D H' os (sm.free hD) (sm.trans RJ) hl po so
  have R7:=(I3.hok f _ (Fc _ _ hf)).1
  obtain ⟨c',oc,vs',t',rfl,hc',hd',hv'⟩:=hcode
  have Sg:=(I3.hok c' _ (Fc _ _ hc')).1
  exact WD (A:=X.A.in1.in1) c I3 I3.ok.frames (I3.ok.hd hcl) hr.depth iY kM R7 hof ⟨c',oc,vs',t',rfl,Sg,hd',hv'⟩ (hb cl pm _ ct) ru (λs=>he f _ cl s H3) (ht z hz H3 (sm.trans Fc))
end
theorem XX {P:Program} {w:World} {K:W.Frag} {mg mb:Str->Option Value} {CX:rN} {k:Nat} {fa a tp c0:Addr} {pos:Pos} {qual:Str} {fd:FuncData} {x:Str} {sp:Sp} {s₁:Shared} {vs:List Value} {ns:List Int}
  (KX:K.In s₁.heap) (hns:s₁.heap.Ns mainGlobals mg) (hb:s₁.heap.Ns builtinsNs mb) (TR:∀ x:Str,x ≠ "__name__" -> mb x=bootBuiltins x) (hlim:s₁.heap.NoLimit) (hg:s₁.gens=#[])
  (ha:s₁.heap.get? a=some { cls:=.type "list",data:=.seq vs.toArray }) (hi:IntsAre vs ns) (hl:ns.length<=sizeLine) (hr:br k callerA)
  (htp:s₁.heap.get? tp=some { cls:=.none,data:=.fields #[] }) (hch:W.codeHdIn K c0 tp=true) (TZ:K.lookup tp=none)
  (hbm:BMod s₁.heap mg) (F:∀ base:Heap,K.In base->base.Ns mainGlobals mg->BMod base mg->au P w K mg base CX k fa fd [x] sp) (hbind:∀ (s:Shared) (u:Value),BindsTo s fd ⟨[u],[]⟩ [(x,u)])
  (mO:∀ H:Hp,H tp=some (.j8 pos qual)->aF K H a (ns.map V.int)->sp [.ref a] H (λv _=>v=.bl true) λ_ _ _=>False)
  (GL:∀ H e s',CX [] H s₁ (λ_ _ _=>False) e s'->False) :
  codeAny (model P w) callerA (.call (.ref fa) ⟨[.ref a],[]⟩) (λr s'=>r=.ok (.ret (.bool true))/\OldK s₁.heap s'.heap/\s'.os=s₁.os/\AllBare s'.gens) s₁:=by
 have rv:=D6 hi
 have FQ:=hi.length
 have nat:a≠tp:=λz=>by rw [z,htp] at ha; cases ha
 have core:∀ H:Hp,H tp=some (.j8 pos qual)->aF K H a (ns.map V.int)->fc P w H s₁.heap->(∀ b,H b≠none->b=tp\/(b=a/\∃ o xs,H b=some (.cS o (.lst xs))))->(H a≠none->K.lookup a=none) ->
   codeAny (model P w) callerA (.call (.ref fa) ⟨[.ref a],[]⟩) (λr s'=>r=.ok (.ret (.bool true))/\OldK s₁.heap s'.heap/\s'.os=s₁.os/\AllBare s'.gens) s₁:=by
  intro H hT hS hok hA hK
  have Sv:∀ {b:Addr} {o:Obj} {es:Array DictEntry} {ep:Nat},s₁.heap.get? b=some o->o.data=.dict es ep->H b=none:=λ{b o es ep} e d=>by
   cases q:H b with
   | none=>rfl
   | some u =>
    rcases hA b (by rw [q]; simp) with z | ⟨z,_⟩
    .rw [z,htp] at e
     cases e
     cases d
    .rw [z,ha] at e
     cases e
     cases d
  have Cu:∀ {b:Addr} {m:Str->Option Value},s₁.heap.Ns b m->(kG s₁.heap H).Ns b m:=λ{b m} ⟨o,es,ep,e,d,r⟩=>⟨o,es,ep,IY e (Sv e d),d,r⟩
  have Mi:K.In (kG s₁.heap H):=λb o e=>IY (KX b o e) (by
   cases q:H b with
   | none=>rfl
   | some u =>
    rcases hA b (by rw [q]; simp) with z | ⟨z,_⟩
    .rw [z,TZ] at e
     cases e
    .have n:H a≠none:=by rw [← z,q]; simp
     rw [z,hK n] at e
     cases e)
  have hM:Mod K mg (kG s₁.heap H):=⟨Mi,Cu hns,⟨mb,Cu hb,TR⟩,let ⟨mc,h1,h2⟩:=hlim; ⟨mc,Cu h1,h2⟩⟩
  have e0:ng P w K mg (kG s₁.heap H) callerA [] s₁ H:=⟨rfl,hM,λb o e=>V6 e,Nat.le_of_eq (XI _ _),trivial,λb hb=>absurd (show b∈([]:List Addr) from hb) (by simp),hok,.of_eq hg⟩
  have hB:BMod (kG s₁.heap H) mg:=by
   obtain ⟨b,o,a1,a2,a3,a4,a5,a6,a7⟩:=hbm
   refine ⟨b,o,a1,a2,a3,IY a4 ?_,a5,a6,a7⟩
   cases q:H b with
   | none=>rfl
   | some u =>
    rcases hA b (by rw [q]; simp) with z | ⟨z,_⟩
    .rw [z,htp] at a4
     cases a4
     cases a5
    .rw [z,ha] at a4
     cases a4
     have a8:Value.type "list" = Value.type "module" := a5
     injection a8 with a8
     exact absurd a8 (by decide)
  refine codeAny_mono ((F _ Mi (Cu hns) hB).run callerA [] s₁ H ⟨[.ref a],[]⟩ [.ref a] [.ref a] _ _ hr e0 (hbind s₁ (.ref a)) (.cons rfl .nil) (mO H hT hS)) λr s' h=>?_
  cases r with
  | error e=>exact (GL H e s' h).elim
  | ok fl =>
   cases fl with
   | next=>exact False.elim h
   | brk=>exact False.elim h
   | cont=>exact False.elim h
   | ret u =>
    obtain ⟨v,H',os,bare,un,Al,r',q⟩:=h
    have q':v=.bl true:=q
    subst q'
    obtain rfl:u=Value.bool true:=r'
    have tab:=(W.codeHd_of_K KX hch).tab htp
    have t2:=Al tp _ (un.jd _ _ _ hT)
    obtain ⟨ps,hps,_⟩:=t2
    have old:∀ b o,s₁.heap.get? b=some o->b≠tp->s'.heap.get? b=some o:=λb o e nb=>by
     cases q:H b with
     | none=>exact un.keep b o e q (by intro z; exact absurd (show b∈([]:List Addr) from z) (by simp)) (by simp)
     | some u =>
      rcases hA b (by rw [q]; simp) with z | ⟨_,ob,xs,z⟩
      .exact absurd z nb
      .have z2:=un.iX b ob _ z
       obtain ⟨e1,_⟩:=hok b _ z
       obtain ⟨e2,_⟩:=Al b _ z2
       rw [e] at e1
       cases e1
       exact e2
    refine ⟨rfl,⟨λb o e=>?_,λb o e=>?_⟩,os,bare⟩
    .by_cases nb:b=tp
     .subst nb
      rw [htp] at e
      cases e
      exact .inr (.inl ⟨tab.isCodeTable,rfl,#[],ps,rfl,by rw [hps]; simp⟩)
     .exact .inl (old b o e nb)
    .by_cases nb:b=tp
     .subst nb
      exact ⟨_,hps⟩
     .exact ⟨o,old b o e nb⟩
 have tb:∀ H:Hp,aI P w H s₁.heap tp (.j8 pos qual):=λH=>⟨#[],htp,True.intro,λcv e=>by cases e⟩
 cases hk:K.lookup a with
 | some o =>
  have e:=KX a o hk
  rw [ha] at e
  cases e
  refine core (λb=>if b=tp then some (.j8 pos qual) else none) (ajr rfl) (.inr ⟨_,vs.toArray,_,hk,rfl,rfl,rfl,by rw [aHG,FQ]; exact hl,by simpa using rv⟩) (λb u z=>?_) (λb z=>?_) λz=>absurd (aBJ nat) z
  .by_cases hb:b=tp
   .have z':=(ajr hb).symm.trans z
    cases z'
    subst hb
    exact tb _
   .have z':=(aBJ hb).symm.trans z
    cases z'
  .by_cases hb:b=tp
   .exact .inl hb
   .exact absurd (aBJ hb) z
 | none =>
  refine core (λb=>if b=tp then some (.j8 pos qual) else if b=a then some (.cS { cls:=.type "list",data:=.seq vs.toArray } (.lst (ns.map V.int))) else none) (ajr rfl) (.inl (.inr ⟨{ cls:=.type "list",data:=.seq vs.toArray },(aBJ nat).trans (ajr rfl)⟩)) (λb u z=>?_) (λb z=>?_) λ_=>hk
  .by_cases hb:b=tp
   .have z':=(ajr hb).symm.trans z
    cases z'
    subst hb
    exact tb _
   .have z':=(aBJ hb).symm.trans z
    by_cases hb2:b=a
    .have z2:=(ajr hb2).symm.trans z'
     cases z2
     subst hb2
     exact ⟨ha,by rw [afy]; exact hl,vs,_,rv,ha⟩
    .have z2:=(aBJ hb2).symm.trans z'
     cases z2
  .by_cases hb:b=tp
   .exact .inl hb
   .by_cases hb2:b=a
    .exact .inr ⟨hb2,_,_,(aBJ hb).trans (ajr hb2)⟩
    .exact absurd (by show (if b=tp then _ else if b=a then _ else none)=none; rw [aBJ hb,aBJ hb2]) z
theorem Xf {l:W.OpenLaw} {n k:Nat} {q:Program} {loose:List Str} {XP:(Str->Option Value)->Heap->Prop} {YP:World->Heap->Prop} {d:DefRec} {K:Params->W.Frag} {CX:World->rN} {sp:World->Sp} {x:Str} {tp:Addr} {pos:Pos} {qual:Str} {G:World->Prop}
  (hn:l.most=some n) (hn2:n<=sizeLine) (hdf:d.params.defaults=[]) (hr:br k callerA)
  (hY:∀ (w:World) (h:Heap),YP w h->(K w.params).In h/\h.get? tp=some { cls:=.none,data:=.fields #[] })
  (F:∀ (w:World) (mg:Str->Option Value) (fa:Addr) (h:Heap),(K w.params).In h->h.Ns mainGlobals mg->mg d.name=some (.ref fa) ->
   G w/\(∃ c0,W.codeHdIn (K w.params) c0 tp=true)/\(K w.params).lookup tp=none/\∃ fd:FuncData,(∀ (s:Shared) (u:Value),BindsTo s fd ⟨[u],[]⟩ [(x,u)]) /\
    ∀ base:Heap,(K w.params).In base->base.Ns mainGlobals mg->BMod base mg->au l.prog w (K w.params) mg base (CX w) k fa fd [x] (sp w))
  (mO:∀ (w:World) (H:Hp) (a:Addr) (ns:List Int),G w->ns.length<=n->H tp=some (.j8 pos qual)->aF (K w.params) H a (ns.map V.int)->sp w [.ref a] H (λv _=>v=.bl true) λ_ _ _=>False)
  (GL:∀ (w:World) (H:Hp) (s:Shared) (e:Value) (s':Shared),CX w [] H s (λ_ _ _=>False) e s'->False) :
  W.WalkO q loose XP YP l.row.toRowW d [] (λf vs=>PySem.call f vs):=by
 refine Qp.lN hn hdf λw s₀ s₁ mg mb fa o pm cd doc a vs ns G' Y ho hd hcd hmg hobj hints hlen hg=>?_
 obtain ⟨KX,htp⟩:=hY w _ Y
 obtain ⟨g,⟨c0,hc⟩,hk,fd,hb,hF⟩:=F w mg fa _ KX G'.T.g hmg
 have hbm:BMod s₁.heap mg:=by
  obtain ⟨bm,ob,b1,b2,b3,b4,b5,b6⟩:=G'.T.bmain
  refine ⟨bm,ob,b1,b2,λz=>?_,b3,b4,b5,b6⟩
  obtain ⟨o,es,ep,e,hd',_⟩:=G'.T.g
  rw [z,e] at b3
  cases b3
  rw [hd'] at b6
  cases b6
 exact XX KX G'.T.g G'.T.b G'.T.builtins G'.T.nolimit hg hobj hints (awv hlen hn2) hr htp hc hk hbm hF hb (λH hT hS=>mO w H a ns g hlen hT hS) λH e s'=>GL w H s₁ e s'
def aa (K:W.Frag) (x:Str):Addr:=match W.nsIn K mainGlobals x with
 | some (some (.ref C))=>C
 | _=>0
def tabOf (K:W.Frag) (x m:Str):Addr:=match W.findIn K (.ref (aa K x)) m with
 | some (some (.ref f))=>(match K.lookup f with
  | some ⟨_,_,.func fd,_⟩=>(match fd.code with
   | .ref c=>(match K.lookup c with
    | some ⟨_,_,.fields vs,_⟩=>(match (vs[11]?:Option Value) with
     | some (.ref P)=>P
     | _=>0)
    | _=>0)
   | _=>0)
  | _=>0)
 | _=>0
theorem Ba {K:W.Frag} {x:Str} {C:Addr} (h:W.nsIn K mainGlobals x=some (some (.ref C))):aa K x=C:=by
 unfold aa
 rw [h]
theorem Xe {K:W.Frag} {x m:Str} {f c P:Addr} {oc:Value} {od:Option Addr} {fd:FuncData} {sl:Array (Option Value)} (h1:W.findIn K (.ref (aa K x)) m=some (some (.ref f))) (h2:K.lookup f=some ⟨oc,od,.func fd,sl⟩) (h3:fd.code=.ref c)
  (h4:W.codeHdIn K c P=true):tabOf K x m=P:=by
 unfold W.codeHdIn at h4
 split at h4
 .rename_i vs _ hk
  simp only [aAw] at h4
  obtain ⟨⟨⟨⟨⟨e1,_⟩,_⟩,_⟩,_⟩,_⟩:=h4
  split at e1
  .rename_i P' h11
   have hP:P'=P:=aXR.mp e1
   subst hP
   unfold tabOf
   simp only [h1,h2,h3,hk,h11]
  .cases e1
 .cases h4
end L2
namespace L2
open PySem PySem.F PyProof.Rows PySem.MeetsSeq
variable {K:W.Frag} {X:Cx} {pins:List Pin} {σ:St} {H:Hp} {s:Shared}
theorem uS {e:PySem.Expr} {T:String} {r:V->List V->Hp->VK->Prop} {to:TE} {t:TA} (hK:X.K=K) (h:PE X e (E7 X.K T r to t)):PE X e (E7 K T r to t):=by
 subst hK; exact h
end L2
namespace L2
open PySem PySem.Calls PyProof.Rows PySem.MeetsSeq PySem.W
variable {K:W.Frag} {X:Cx} {pins:List Pin} {σ:St} {H:Hp} {s:Shared}
def Xd:List V->Hp->VK->Prop:=λxs H Q=>∃ (d:Addr) (kvs:List (Key×V)) (ns:List Int),xs=[.ref d]/\H d=some (.dK kvs)/\kvs.map Prod.fst=ns.map Sum.inl/\ns.length<64 /\
 ∀ (D:Addr) (os:List Int),H D=none->os.Perm ns->os.Pairwise (·<=·)->Q (.ref D) (upd H D (.lst (os.map V.int)))
theorem N5:∀ {xs:List V} {us:List Value},xs.length=us.length->(∀ (i:Nat) x u,xs[i]?=some x->us[i]?=some u->RelV x u)->Vals xs us
 | [],[],_,_=>.nil
 | [],_ :: _,h,_=>nomatch h
 | _ :: _,[],h,_=>nomatch h
 | x :: xs,u :: us,h,k=>.cons (k 0 x u rfl rfl) (N5 (by simpa using h) λi x' u' h1 h2=>k (i+1) x' u' (by simpa using h1) (by simpa using h2))
theorem Nd:∀ {kvs:List (Key×V)} {vs:List (Key×Value)},KV kvs vs->∀ {i:Nat} {p:Key×V} {q:Key×Value},kvs[i]?=some p->vs[i]?=some q->p.1=q.1
 | _,_,.nil,_,_,_,h,_=>nomatch h
 | _,_,.cons r t,0,_,_,h1,h2=>by cases h1; cases h2; exact r.1
 | _,_,.cons r t,i+1,_,_,h1,h2=>Nd (i:=i) t (by simpa using h1) (by simpa using h2)
theorem Pp {P:Program} {w:World} {kvs:List (Key×V)} {vs:List (Key×Value)} {ns:List Int} {acc:Array Value} (r:KV kvs vs) (e:kvs.map Prod.fst=ns.map Sum.inl) (h:ItemsOf (λi v=>∃ k x,vs[i]?=some (k,x)/\(Zx P w).is k v=true) acc vs.length):IntsAre acc.toList ns:=by
 have lv:kvs.length=vs.length:=a9d r
 have ln:kvs.length=ns.length:=by have:=aOy List.length e; simpa using this
 refine Jx (N5 (by have l3:acc.toList.length=acc.size:=aUD; have l4:=h.1; rw [afy]; lia) λi x u hx hu=>?_)
 rw [apT] at hu
 obtain ⟨k,y,h1,h2⟩:=h.2 i u hu
 have hi:i<kvs.length:=by rw [lv]; exact (a7Y.mp h1).1
 have e1:=Nd r (adk hi) h1
 have e2:(kvs.map Prod.fst)[i]?=some k:=by rw [aC3,adk hi]; exact aOy some e1
 rw [e,aC3] at e2
 rw [aC3] at hx
 cases g:ns[i]? with
 | none=>rw [g] at hx; cases hx
 | some z =>
  rw [g] at hx e2
  cases hx; cases e2
  exact OR h2
theorem Y6 (hc:X.calm=true):bH X (.builtin "sorted") Xd:=by
 intro pins s σ H xs us Q I r h
 obtain ⟨d,kvs,ns,rfl,hd,hk,h64,q⟩:=h
 obtain ⟨u,rfl,rx⟩:=vals1 r
 cases rx
 obtain ⟨hz,hs,vs,rv,hD⟩:=I.hok d _ hd
 obtain ⟨ep,hat⟩:=hD.dictAt
 have hl:vs.length=ns.length:=by have l1:kvs.length=vs.length:=a9d rv; have l2:=aOy List.length hk; simp at l2; lia
 refine call_function_entry kind_sorted plain_sorted entry_sorted (args_sorted1 _) ?_
 unfold Builtin.«sorted»
 refine awJ (m:=checkCount "sorted" 1 1 _) (aOf ?_)
 refine awJ (kdu_collect (A:=X.A.in1) (kdl_dict (knd:=Zx X.prog X.w) (kvs:=vs) (ep:=ep) hs) (show X.A.in1.handled=none from I.ok.hd hc) hat (by rw [bav]; lia) λh' tk acc hk' hacc=>?_)
 have hI:=Pp rv hk hacc
 have la:acc.toList.length=ns.length:=by rw [aUD,hacc.1,hl]
 refine awJ (a31 ?_ (by rw [la,bav]; lia))
 have kL:(h'.push (seqObj "list" acc.toList.toArray 0)).get? h'.objs.size=some (seqObj "list" acc.toList.toArray 0):=aWh _ rfl
 have I1:=I.kept (t':=tk) hk'
 show wpAny _ _ _ _ _ { s with heap:=h'.push (seqObj "list" acc.toList.toArray 0),toks:=tk }
 refine awJ (aFl (ba8 slot_list_sort ⟨_,kL,rfl⟩ entry_list_sort (list_sort_tree kL hI (by lia) λout ns' a1 a2 a3=>⟨_,rfl,?_⟩) (args_list_sort _)))
 refine aOf ⟨_,rfl,?_⟩
 obtain ⟨e,he⟩:=sortedHeap_at (out:=out) kL
 have fr:H h'.objs.size=none:=I1.hok.fresh (a17 _)
 have lo:=a2.length_eq
 refine ⟨.ref h'.objs.size,_,I1.laid (a:=h'.objs.size) (t':=tk) (o:=.lst (ns'.map V.int)) (λb o z=>?_) (a17 _) ⟨by rw [afy,lo,bav]; lia,out.toList,e,D6 a1,he⟩,rfl,q _ ns' fr a2 a3⟩
 have z':h'.get? b=some o:=z
 have lt:=aDe z'
 rw [sortedHeap_old (a19 lt) (by rw [size_push']; exact aWL lt),aGu _ _ _ (a19 lt)]
 exact z'
theorem tu {C:Addr} {m:Str} {k:Nat} {ps:List Str} {sp:Sp} {o:PySem.Expr} {ta:TE} {apos pos:Pos} {pl:Sem Bool} (M:av X.prog X.w X.K X.mg X.base C m k ps sp) (hr:br k X.A) (c:mw X.K C) (he:PE X o ta)
  (ht:eval (.Call (.Attribute o m apos) [] [] pos) X.env=(do
   let ov ← eval o X.env
   standAt apos.atName
   let (f,first) ← holding [ov] (getMethod ov m pl)
   callWith pos f first (backTo pos (starEach [] X.env)) (backToKw pos (keywordEach [] X.env))):=by rfl) :
  PE X (.Call (.Attribute o m apos) [] [] pos) (nj C m sp [] E0 ta vd):=by
 obtain ⟨f,fd,F,hm,hb⟩:=M
 exact WS he c hm F hr hb .nil (λ_ _ _ _ _ _ _ z=>z.elim) ht
end L2
namespace L2
open PySem PySem.Calls PySem.Spec PyProof.Rows PySem.W
structure BK (K:W.Frag) (C:Addr) (m:Str) (f:Addr):Prop where
 ga:W.specialIn K (.ref C) "__getattribute__" = some (some (.builtin "type.__getattribute__"))
 rd:∃ mc,W.readsIn K C mc=true/\W.findCls K (.ref C) mc m=some (.val (.ref f))
 kp:W.keepIn K (.ref f)=true
structure wX (P:Program) (w:World) (K:W.Frag) (mg:Str->Option Value) (base:Heap) (x m:Str) (k:Nat) (ps:List Str) (sp:Sp):Prop where
 ex:∃ (C f:Addr) (fd:FuncData),au P w K mg base aW k f fd ps sp/\BK K C m f/\mg x=some (.ref C)/\Binds K fd ps []
section
variable {X:Cx} {x m:Str} {p pos apos:Pos} {e o:PySem.Expr} {es:List PySem.Expr} {ta:TE} {t:TA} {k:Nat} {ps:List Str} {sp:Sp} {C:Addr}
theorem V7 {pl:Sem Bool} (M:wX X.prog X.w X.K X.mg X.base x m k ps sp) (hr:br k X.A) (hg:Gl X x) (ha:PA X (e :: es) t) (hn:tL (e :: es):=by repeat' (first | exact True.intro | refine ⟨?_,?_⟩)) (hd:(x == ("__debug__" : Str))=false:=by decide)
  (ht:eval (.Call (.Attribute (.Name x p) m apos) (e :: es) [] pos) X.env=(do
   let ov ← eval (.Name x p) X.env
   standAt apos.atName
   let (f,first) ← holding [ov] (getMethod ov m pl)
   callWith pos f first (backTo pos (starEach (e :: es) X.env)) (backToKw pos (keywordEach [] X.env))):=by rfl) :
  PE X (.Call (.Attribute (.Name x p) m apos) (e :: es) [] pos) (nv sp [] E0 t):=by
 obtain ⟨C,f,fd,F,c,hm,hb⟩:=M.ex
 obtain ⟨mc,hr1,hr2⟩:=c.rd
 intro pins s σ H Q I h
 have he:PE X (.Name x p) (tC (.ref C)):=V5 (v:=.ref C) hg hm rfl hd
 refine W.methodCall_KW (pl:=pl) (aJ (he pins s σ H (λv H1=>v=.ref C/\H1=H) I ⟨rfl,rfl⟩) λu s1 ⟨x,H1,I1,rx,e1,e2⟩=>?_) ht
 subst e1 e2
 obtain rfl:u=Value.ref C:=rx
 have I2:Inv X pins σ H1 { s1 with toks:=s1.toks+1 }:=I1.kept (t':=s1.toks+1) λb o e=>e
 refine W.method_cls I1.dW c.ga (W.cls_value I1.dW hr1 hr2 rfl ?_)
 refine W.callWith_K (first:=[]) (h₀:=X.base) I.ok.mod.xQ c.kp (aJ (ha pos pins _ σ H1 _ I2 h) λus s2 ⟨vs,H2,I3,r,q2⟩=>⟨I3.dW,?_⟩) (rH hn.1) (wL hn.2)
 exact Dp (us:=us) (vs:=vs) F hr hb .nil nT I3 r q2
end
theorem br.m {j k:Nat} {A:Around} (r:br k A) (h:j<=k:=by first | decide | lia):br j A:=r.mono h
section
variable {X:Cx} {pos:Pos}
theorem bQ (i:Nat) {x:Str} (hN:X.N.Nodup) (hi:X.N[i]?=some x:=by rfl) (hx:Loc X.env.scope x:=by first | exact Or.inl rfl | exact Or.inr rfl) (hf:X.fn x=true\/X.env.scope.names.lookup x=some .local:=by first | exact .inl rfl | exact .inr rfl | assumption):PG X (.Name x pos) (fH i):=Wy hN hi hx hf
theorem cF (i:Nat) {x:Str} {e:PySem.Expr} {te:TE} {pos':Pos} (hN:X.N.Nodup) (he:PE X e te) (hi:X.N[i]?=some x:=by rfl) (hx:Loc X.env.scope x:=by first | exact Or.inl rfl | exact Or.inr rfl) (hs:swapsWith e (some (.Name x pos')) pos.line X.env=pure false:=by rfl) (hf:X.fn x=true\/X.env.scope.names.lookup x=some .local:=by first | exact .inl rfl | exact .inr rfl | assumption):PS X (.Assign [.Name x pos'] e pos) (ow te (fH i)):=VZ hN hi hx he hs hf
end
end L2
namespace L2
open PySem PySem.F PyProof.Rows
variable {K:W.Frag} {X:Cx} {pins:List (Addr×Obj)} {σ:St} {H H':Hp} {s:Shared}
end L2
namespace L2
open PySem PySem.F PyProof.Rows PySem.MeetsSeq
variable {K:W.Frag} {X:Cx}
end L2
namespace L2.aG
open PySem PySem.Spec PyProof.Rows
structure RR where
 r:Keyed->Nat
 g:Keyed->Int
def Kg (ρ:RR) (xs:Array Keyed) (i:Nat):Int:=(xs[i]?).elim 0 ρ.g
theorem cE {ρ:RR} {xs ys:Array Keyed} {i j:Nat} (h:xs[i]?=ys[j]?):Kg ρ xs i=Kg ρ ys j:=by unfold Kg; rw [h]
theorem j6 {ρ:RR} {xs:Array Keyed} {src d:Nat} (hs:src<xs.size) (hd:d<=src) (k:Nat) :
  Kg ρ (bubble xs src d) k=if k=src - d then Kg ρ xs src else if src - d<k/\k<=src then Kg ρ xs (k - 1) else Kg ρ xs k:=by
 have e:=getElem?_bubble hs d hd k
 by_cases c:k=src - d
 .rw [ajr c] at e ⊢; exact cE e
 .by_cases c2:src - d<k/\k<=src
  .rw [aBJ c,ajr c2] at e ⊢; exact cE e
  .rw [aBJ c,aBJ c2] at e ⊢; exact cE e
theorem iB {ρ:RR} {xs:Array Keyed} {i j:Nat} (hj:j<=xs.size) (k:Nat) :
  Kg ρ (mirror xs i j ((j - i) / 2)) k=if i<=k/\k<j then Kg ρ xs (i+j - 1 - k) else Kg ρ xs k:=by
 have e:=getElem?_mirror_all (i:=i) hj k
 by_cases c:i<=k/\k<j
 .rw [ajr c] at e ⊢; exact cE e
 .rw [aBJ c] at e ⊢; exact cE e
theorem bX {ρ:RR} {xs:Array Keyed} {i j:Nat} (hj:j<=xs.size) (al:∀ k,i<=k->k<j->Kg ρ xs k=Kg ρ xs (j - 1)) (k:Nat):Kg ρ (mirror xs i j ((j - i) / 2)) k=Kg ρ xs k:=by
 rw [iB hj]
 by_cases c:i<=k/\k<j
 .rw [ajr c,al _ (by lia) (by lia),al k c.1 c.2]
 .rw [aBJ c]
def i7 (prog:Program) (w:World) (A:Around) (s:Shared) (κ:SortKind) (ρ:RR) (a₀:Array Keyed):Prop :=
 ∀ p,p∈a₀.toList->∀ q,q∈a₀.toList->∀ (E:Value->Shared->Prop) (Q:Bool->Shared->Prop),Q (decide (ρ.g p<ρ.g q)) s->wpAny (model prog w) A (keyLt' κ p.1 q.1) Q E s
end L2.aG
namespace L2
open PySem PySem.Spec PyProof.Rows
section
open PySem.SeqAt
open PySem.AutoSeq1 (wpAny_loadPart')
open PySem.MeetsSeq PySem.MeetsSeq2 PySem.MeetsSeq3
end
section
variable {prog:Program} {w:World} {A:Around} {E:Value->Shared->Prop} {s:Shared}
def mD (h:Heap) (a:Addr) (us:List Value):Heap:=((h.update a (Obj.mapSeq λ_=>#[])).push (seqObj "tuple" us.toArray 0)).push (seqObj "list" #[] 0)
theorem Xc {h:Heap} {a b:Addr} {us:List Value} {o:Obj} (n:b≠a) (e:h.get? b=some o):(mD h a us).get? b=some o :=
 aL6 _ (aL6 _ (by rw [Heap.get?_update_ne _ _ _ _ n]; exact e))
end
def rV:Value->Addr
 | .ref a=>a
 | _=>0
theorem ON {α:Type}:∀ l:List α,l.zip l=l.map λv=>(v,v)
 | []=>rfl
 | x :: r=>by rw [List.zip_cons_cons,ON r]; rfl
theorem PV (us:List Value):(pairsOf us).toList=us.map λv=>(v,v):=by
 unfold pairsOf
 rw [Array.toList_zip]
 exact ON us
variable {K:W.Frag} {X:Cx}
end L2
namespace L2.tG
open PySem PySem.Spec PyProof.Rows
def yp:Bool->Keyed->Array Keyed->Nat->Nat->Nat->StateT SortSt Sem (Option Nat):=sortPriv% PySem.Builtin.gallop
def ZZ:Nat->StateT SortSt Sem Unit:=sortPriv% PySem.Builtin.setMinGallop
def IS:Array Keyed->Array Keyed->StateT SortSt Sem (Array Keyed):=sortPriv% PySem.Builtin.mergeLo
def IQ:Array Keyed->Array Keyed->StateT SortSt Sem (Array Keyed):=sortPriv% PySem.Builtin.mergeHi
def uL (left:Bool) (key:Keyed) (arr:Array Keyed) (base i:Nat):StateT SortSt Sem (Option Bool):=do
 let x ← elem' arr (base+i)
 if left then lt' x key else return (← lt' key x).map (!·)
def sN (left:Bool) (key:Keyed) (arr:Array Keyed) (base n SQ hi0:Nat):StateT SortSt Sem (Option Nat):=do
 let mut lo:=SQ
 let mut hi:=hi0
 for _ in [0:n] do
  if lo ≥ hi then break
  let m:=lo+(hi - lo) / 2
  let some more ← uL left key arr base m | return none
  if more then lo:=m+1 else hi:=m
 return some hi
def Mp (left:Bool) (key:Keyed) (arr:Array Keyed) (base n hint:Nat):StateT SortSt Sem (Option Nat):=do
 let mut gW:=0
 let mut oA:=1
 for _ in [0:n] do
  if oA ≥ n - hint then break
  let some more ← uL left key arr base (hint+oA) | return none
  if !more then break
  gW:=oA
  oA:=2 * oA+1
 sN left key arr base n (hint+gW+1) (hint+min oA (n - hint))
def Mq (left:Bool) (key:Keyed) (arr:Array Keyed) (base n hint:Nat):StateT SortSt Sem (Option Nat):=do
 let mut gW:=0
 let mut oA:=1
 for _ in [0:n] do
  if oA ≥ hint+1 then break
  let some found ← uL left key arr base (hint - oA) | return none
  if found then break
  gW:=oA
  oA:=2 * oA+1
 sN left key arr base n (hint+1 - min oA (hint+1)) (hint - gW)
theorem Yi (left:Bool) (key:Keyed) (arr:Array Keyed) (base n hint:Nat):yp left key arr base n hint=(do
 let some right ← uL left key arr base hint | return none
 if right then Mp left key arr base n hint else Mq left key arr base n hint):=rfl
theorem Zel (g:Nat):ZZ g=modify (λs=>SortSt.mk' (kindOf s) (arrOf s) (pendingOf s) g (failedOf s)):=rfl
theorem qH {σ α:Type} {M:Model} {A:Around} {E:Value->Shared->Prop} {s:Shared} {m m':StateT σ Sem α} {Q:α->σ->Prop} {st:σ} (e:m=m') (h:wpS M A E s m' Q st):wpAny M A (m st) (λr s'=>s'=s/\Q r.1 r.2) E s:=by subst e; exact h
section
variable {prog:Program} {w:World} {A:Around} {E:Value->Shared->Prop} {s:Shared} {a₀:Array Keyed} {κ:SortKind} {ρ:aG.RR}
theorem lu {st:SortSt} {p q:Keyed} {Q:Option Bool->SortSt->Prop} (hk:kindOf st=κ) (h0:aG.i7 prog w A s κ ρ a₀) (mp:p∈a₀.toList) (mq:q∈a₀.toList) (h:Q (some (decide (ρ.g p<ρ.g q))) st):wpS (model prog w) A E s (lt' p q) Q st:=by
 rw [lt'_eq]
 refine a5h (baX ?_)
 rw [hk]
 exact a5h (wpS_lift (wpAny_attempt (h0 p mp q mq _ _ ⟨rfl,aod h⟩)))
theorem Zy {st:SortSt} {arr:Array Keyed} {i:Nat} {Q:Keyed->SortSt->Prop} (hi:i<arr.size) (h:Q arr[i] st):wpS (model prog w) A E s (elem' arr i) Q st:=by
 rw [elem'_eq,getElem?_pos arr i hi]
 exact aod h
theorem bC {arr:Array Keyed} {i:Nat} (hi:i<arr.size):aG.Kg ρ arr i=ρ.g arr[i]:=by
 unfold aG.Kg
 rw [getElem?_pos arr i hi]
 rfl
def Bd (ρ:aG.RR) (left:Bool) (kv:Int) (arr:Array Keyed) (base i:Nat):Bool:=if left then decide (aG.Kg ρ arr (base+i)<kv) else !decide (kv<aG.Kg ρ arr (base+i))
theorem Vb {st:SortSt} {left:Bool} {key:Keyed} {arr:Array Keyed} {base i:Nat} {Q:Option Bool->SortSt->Prop} (hk:kindOf st=κ) (h0:aG.i7 prog w A s κ ρ a₀) (ha:∀ p∈arr.toList,p∈a₀.toList) (mk:key∈a₀.toList) (hi:base+i<arr.size) (h:Q (some (Bd ρ left (ρ.g key) arr base i)) st):wpS (model prog w) A E s (uL left key arr base i) Q st:=by
 unfold uL
 refine a5h (Zy hi ?_)
 have m:arr[base+i]∈a₀.toList:=ha _ (by simp)
 unfold Bd at h
 rw [bC hi] at h
 cases left with
 | true =>
  simp only [aSf] at h ⊢
  exact lu hk h0 m mk h
 | false =>
  simp only [aXZ,aE9] at h ⊢
  exact a5h (lu hk h0 mk m (aod h))
structure Cut (ρ:aG.RR) (left:Bool) (kv:Int) (arr:Array Keyed) (base n k:Nat):Prop where
 le:k<=n
 lo:∀ i,i<k->Bd ρ left kv arr base i=true
 hi:∀ i,k<=i->i<n->Bd ρ left kv arr base i=false
def e8 (ρ:aG.RR) (arr:Array Keyed) (a b:Nat):Prop:=∀ i j,a<=i->i<=j->j<b->aG.Kg ρ arr i<=aG.Kg ρ arr j
theorem VD {left:Bool} {kv:Int} {arr:Array Keyed} {base n i j:Nat} (hs:e8 ρ arr base (base+n)) (hij:i<=j) (hj:j<n) (h:Bd ρ left kv arr base j=true):Bd ρ left kv arr base i=true:=by
 have q:=hs (base+i) (base+j) (by lia) (by lia) (by lia)
 unfold Bd at h ⊢
 cases left with
 | true =>
  simp only [aSf,aDC] at h ⊢
  lia
 | false =>
  simp only [aXZ,aE9,aoH,a8L] at h ⊢
  lia
section
variable {st:SortSt} {left:Bool} {key:Keyed} {arr:Array Keyed} {base n:Nat} {Q:Option Nat->SortSt->Prop} {P:Nat->Bool}
theorem N4 {lo hi:Nat} (B:∀ {i:Nat} {Q:Option Bool->SortSt->Prop},i<n->Q (some (P i)) st->wpS (model prog w) A E s (uL left key arr base i) Q st)
  (up:∀ {i j:Nat},i<=j->j<n->P j=true->P i=true) (dn:∀ {i j:Nat},i<=j->j<n->P i=false->P j=false)
  (h:∀ k,k<=n->(∀ i,i<k->P i=true)->(∀ i,k<=i->i<n->P i=false)->Q (some k) st)
  (Tv:lo<=hi) (Tz:hi<=n) (u1:∀ i,i<lo->P i=true) (u2:∀ i,hi<=i->i<n->P i=false):wpS (model prog w) A E s (sN left key arr base n lo hi) Q st:=by
 unfold sN
 refine a5h (axG (aAz (I:=λx c st2=>st2=st/\∃ l r,c=(none,l,r)/\l<=r/\r<=n/\r - l<=n - x/\(∀ i,i<l->P i=true)/\(∀ i,r<=i->i<n->P i=false))
  (Q:=λc st2=>st2=st/\∃ r,c=(none,r,r)/\r<=n/\(∀ i,i<r->P i=true)/\(∀ i,r<=i->i<n->P i=false)) ?iturn ?ilast ?ifirst) ?iafter)
 case ifirst=>exact ⟨rfl,lo,hi,rfl,Tv,Tz,by lia,u1,u2⟩
 case ilast =>
  rintro c st2 ⟨rfl,l,r,rfl,hlr,hrk,hm,u1,u2⟩
  have e:l=r:=by lia
  subst e
  exact ⟨rfl,l,rfl,hrk,u1,u2⟩
 case iturn =>
  rintro x c st2 _ hxk ⟨rfl,l,r,rfl,hlr,hrk,hm,u1,u2⟩
  dsimp only
  by_cases hge:l ≥ r
  .rw [ajr hge]
   have e:l=r:=by lia
   subst e
   exact aod ⟨rfl,l,rfl,hrk,u1,u2⟩
  .rw [aBJ hge]
   refine a5h (B (by lia) ?_)
   dsimp only
   cases c:P (l+(r - l) / 2) with
   | true =>
    rw [ajr rfl]
    exact aod ⟨rfl,l+(r - l) / 2+1,r,rfl,by lia,by lia,by lia,λi p=>up (j:=l+(r - l) / 2) (by lia) (by lia) c,u2⟩
   | false =>
    rw [aBJ (by simp)]
    exact aod ⟨rfl,l,l+(r - l) / 2,rfl,by lia,by lia,by lia,u1,λi p q=>dn p q c⟩
 case iafter =>
  rintro c st2 ⟨rfl,r,rfl,To,u1,u2⟩
  exact aod (h r To u1 u2)
end
theorem yy {st:SortSt} {left:Bool} {key:Keyed} {arr:Array Keyed} {base n hint:Nat} {Q:Option Nat->SortSt->Prop} (hk:kindOf st=κ) (h0:aG.i7 prog w A s κ ρ a₀) (ha:∀ p∈arr.toList,p∈a₀.toList) (mk:key∈a₀.toList) (hb:base+n<=arr.size) (hh:hint<n) (hs:e8 ρ arr base (base+n))
  (h:∀ k,Cut ρ left (ρ.g key) arr base n k->Q (some k) st):wpS (model prog w) A E s (yp left key arr base n hint) Q st:=by
 rw [Yi]
 have B:∀ {i:Nat} {Q:Option Bool->SortSt->Prop},i<n->Q (some (Bd ρ left (ρ.g key) arr base i)) st->wpS (model prog w) A E s (uL left key arr base i) Q st:=λ{i Q} hi hq=>Vb hk h0 ha mk (by lia) hq
 have up:∀ {i j:Nat},i<=j->j<n->Bd ρ left (ρ.g key) arr base j=true->Bd ρ left (ρ.g key) arr base i=true:=λhij hj hq=>VD hs hij hj hq
 have h:=λk c1 c2 c3=>h k ⟨c1,c2,c3⟩
 generalize Bd ρ left (ρ.g key) arr base=P at *
 have dn:∀ {i j:Nat},i<=j->j<n->P i=false->P j=false:=λ{i j} hij hj hq=>by
  cases e:P j with
  | false=>rfl
  | true=>rw [up hij hj e] at hq; exact hq
 refine a5h (B hh ?_)
 dsimp only
 cases e:P hint with
 | true =>
  rw [ajr rfl]
  unfold Mp
  refine a5h (axG (aAz (I:=λx c st2=>st2=st/\∃ l o,c=(none,l,o)/\l<o/\x+1<=o/\hint+l<n/\P (hint+l)=true)
   (Q:=λc st2=>st2=st/\∃ l o,c=(none,l,o)/\l<o/\hint+l<n/\P (hint+l)=true/\(n - hint<=o\/hint+o<n/\P (hint+o)=false)) ?jturn ?jlast ?jfirst) ?jafter)
  case jfirst=>exact ⟨rfl,0,1,rfl,by lia,by lia,by lia,e⟩
  case jlast =>
   rintro c st2 ⟨rfl,l,o,rfl,hlo,Gp,jN,hp⟩
   exact ⟨rfl,l,o,rfl,hlo,jN,hp,.inl (by lia)⟩
  case jturn =>
   rintro x c st2 _ hxk ⟨rfl,l,o,rfl,hlo,Gp,jN,hp⟩
   dsimp only
   by_cases hge:o ≥ n - hint
   .rw [ajr hge]
    exact aod ⟨rfl,l,o,rfl,hlo,jN,hp,.inl hge⟩
   .rw [aBJ hge]
    refine a5h (B (by lia) ?_)
    dsimp only
    cases c:P (hint+o) with
    | true =>
     rw [aBJ (by simp)]
     exact aod ⟨rfl,o,2 * o+1,rfl,by lia,by lia,by lia,c⟩
    | false =>
     rw [ajr (by simp)]
     exact aod ⟨rfl,l,o,rfl,hlo,jN,hp,.inr ⟨by lia,c⟩⟩
  case jafter =>
   rintro c st2 ⟨rfl,l,o,rfl,hlo,jN,hp,ho⟩
   refine N4 B up dn h (by dsimp only; lia) (by dsimp only; lia) (λi hi=>up (j:=hint+l) (by dsimp only at hi; lia) jN hp) (λi p q=>?_)
   dsimp only at p
   rcases ho with ho | ⟨ho,c⟩
   .lia
   .exact dn (i:=hint+o) (by lia) q c
 | false =>
  rw [aBJ (by simp)]
  unfold Mq
  refine a5h (axG (aAz (I:=λx c st2=>st2=st/\∃ l o,c=(none,l,o)/\l<o/\x+1<=o/\l<=hint/\P (hint - l)=false)
   (Q:=λc st2=>st2=st/\∃ l o,c=(none,l,o)/\l<o/\l<=hint/\P (hint - l)=false/\(hint+1<=o\/o<=hint/\P (hint - o)=true)) ?kturn ?klast ?kfirst) ?kafter)
  case kfirst=>exact ⟨rfl,0,1,rfl,by lia,by lia,by lia,e⟩
  case klast =>
   rintro c st2 ⟨rfl,l,o,rfl,hlo,Gp,jN,hp⟩
   exact ⟨rfl,l,o,rfl,hlo,jN,hp,.inl (by lia)⟩
  case kturn =>
   rintro x c st2 _ hxk ⟨rfl,l,o,rfl,hlo,Gp,jN,hp⟩
   dsimp only
   by_cases hge:o ≥ hint+1
   .rw [ajr hge]
    exact aod ⟨rfl,l,o,rfl,hlo,jN,hp,.inl hge⟩
   .rw [aBJ hge]
    refine a5h (B (by lia) ?_)
    dsimp only
    cases c:P (hint - o) with
    | true =>
     rw [ajr rfl]
     exact aod ⟨rfl,l,o,rfl,hlo,jN,hp,.inr ⟨by lia,c⟩⟩
    | false =>
     rw [aBJ (by simp)]
     exact aod ⟨rfl,o,2 * o+1,rfl,by lia,by lia,by lia,c⟩
  case kafter =>
   rintro c st2 ⟨rfl,l,o,rfl,hlo,jN,hp,ho⟩
   refine N4 B up dn h (by dsimp only; lia) (by dsimp only; lia) (λi hi=>?_) (λi p q=>dn (i:=hint - l) (by dsimp only at p; lia) q hp)
   dsimp only at hi
   rcases ho with ho | ⟨ho,c⟩
   .lia
   .exact up (j:=hint - o) (by lia) (by lia) c
end
def Lk (ρ:aG.RR) (x y:Keyed):Prop:=ρ.g x<=ρ.g y
structure MI (ρ:aG.RR) (A B out:List Keyed) (ia ib:Nat):Prop where
 perm:(out++A.drop ia++B.drop ib).Perm (A++B)
 sa:(out++A.drop ia).Pairwise (Lk ρ)
 sb:(out++B.drop ib).Pairwise (Lk ρ)
section
variable {ρ:aG.RR} {A B out:List Keyed} {ia ib:Nat}
theorem MI.iD (h:MI ρ A B out ia ib) (k:Nat) (hk:∀ t∈(B.drop ib).take k,∀ x∈A.drop ia,ρ.g t<=ρ.g x):MI ρ A B (out++(B.drop ib).take k) ia (ib+k):=by
 have e:B.drop (ib+k)=(B.drop ib).drop k:=by rw [drop_drop]
 have s:=h.sb
 have p:=h.perm
 rw [← awL k (B.drop ib)] at s p
 refine ⟨?_,?_,?_⟩
 .rw [e]
  refine List.Perm.trans ?_ p
  rw [a8E out,a8E out,a8E out,← a8E (A.drop ia)]
  exact (List.Perm.append_right _ ace).append_left _
 .have s1:(out++(B.drop ib).take k).Pairwise (Lk ρ):=by
   rw [← a8E] at s
   exact (aUZ.1 s).1
  have a1:=aUZ.1 h.sa
  refine aUZ.2 ⟨s1,a1.2.1,λx hx y hy=>?_⟩
  rcases aPD.1 hx with hx | hx
  .exact a1.2.2 x hx y hy
  .exact hk x hx y hy
 .rw [e,a8E]
  exact s
theorem MI.jQ (h:MI ρ A B out ia ib) (k:Nat) (hk:∀ t∈(A.drop ia).take k,∀ x∈B.drop ib,ρ.g t<=ρ.g x):MI ρ A B (out++(A.drop ia).take k) (ia+k) ib:=by
 have h2:MI ρ B A out ib ia:=⟨by
  refine List.Perm.trans ?_ (List.Perm.trans h.perm ace)
  rw [a8E,a8E]
  exact ace.append_left _,h.sb,h.sa⟩
 have h3:=h2.iD k hk
 refine ⟨?_,h3.sb,h3.sa⟩
 refine List.Perm.trans ?_ (List.Perm.trans h3.perm ace)
 rw [a8E _ (A.drop _),a8E _ (B.drop _)]
 exact ace.append_left _
def Res (ρ:aG.RR) (A B:List Keyed) (r:Array Keyed):Prop:=r.toList.Perm (A++B)/\r.toList.Pairwise (Lk ρ)
theorem Dw (a:Array Keyed) (i:Nat):(a.extract i a.size).toList=a.toList.drop i:=by
 rw [aBI,List.extract_eq_drop_take]
 exact bbt (by simp)
theorem Im (a:Array Keyed) (i k:Nat):(a.extract i (i+k)).toList=(a.toList.drop i).take k:=by
 rw [aBI,List.extract_eq_drop_take]
 congr 1
 lia
theorem MI.res {a b out:Array Keyed} (h:MI ρ a.toList b.toList out.toList ia ib) (he:a.toList.drop ia=[]\/b.toList.drop ib=[]):Res ρ a.toList b.toList (out++a.extract ia a.size++b.extract ib b.size):=by
 unfold Res
 rw [aDG,aDG,Dw,Dw]
 refine ⟨h.perm,?_⟩
 rcases he with he | he
 .rw [he,arR]; exact h.sb
 .rw [he,arR]; exact h.sa
theorem MI.last {a b out:Array Keyed} (h:MI ρ a.toList b.toList out.toList ia ib) (hl:∀ y∈b.toList,∀ x∈a.toList.drop (a.size - 1),ρ.g y<=ρ.g x) (he:ia+1=a.size):Res ρ a.toList b.toList (out++b.extract ib b.size++a.extract ia a.size):=by
 have e:ia=a.size - 1:=by lia
 have h2:=h.iD (b.toList.length) (λt ht x hx=>hl t (List.mem_of_mem_drop (List.mem_of_mem_take ht)) x (by rw [← e]; exact hx))
 have e2:(b.toList.drop ib).take b.toList.length=b.toList.drop ib:=bbt (by simp)
 have e3:b.toList.drop (ib+b.toList.length)=[]:=aPj (by lia)
 rw [e2] at h2
 unfold Res
 rw [aDG,aDG,Dw,Dw]
 refine ⟨?_,h2.sa⟩
 have:=h2.perm
 rw [e3,arR] at this
 exact this
end
abbrev oO:=Option (Array Keyed)×Array Keyed×Nat×Nat×Nat×Nat×Nat
def CJ (a b out:Array Keyed) (ia ib g k k1:Nat):StateT SortSt Sem (ForInStep oO):=do
 let x ← elem' a ia
 if ia+1+1 == a.size then pure (.done (some (out.push x++b.extract ib b.size++a.extract (ia+1) a.size),out.push x,ia+1,ib,g,k,k1))
 else if k<7 && k1<7 then pure (.done (none,out.push x,ia+1,ib,g,k,k1)) else pure (.yield (none,out.push x,ia+1,ib,g,k,k1))
def lo2 (a b out:Array Keyed) (ia ib g k bc:Nat):StateT SortSt Sem (ForInStep oO):=do
 let x ← elem' b ib
 if ib+1 == b.size then pure (.done (some (out.push x++a.extract ia a.size++b.extract (ib+1) b.size),out.push x,ia,ib+1,g,k,bc))
 else do
  let y ← elem' a ia
  let r ← yp true y b (ib+1) (b.size - (ib+1)) 0
  match r with
  | some k1 =>
   if k1 > 0 then
    if ib+1+k1 == b.size then pure (.done (some (out.push x++b.extract (ib+1) (ib+1+k1)++a.extract ia a.size++b.extract (ib+1+k1) b.size),out.push x++b.extract (ib+1) (ib+1+k1),ia,ib+1+k1,g,k,k1))
    else CJ a b (out.push x++b.extract (ib+1) (ib+1+k1)) ia (ib+1+k1) g k k1
   else CJ a b (out.push x) ia (ib+1) g k k1
  | none=>pure (.done (some (out.push x++a.extract ia a.size++b.extract (ib+1) b.size),out.push x,ia,ib+1,g,k,bc))
def lo1 (a b out:Array Keyed) (ia ib g ac bc:Nat):StateT SortSt Sem (ForInStep oO):=do
 ZZ g
 let y ← elem' b ib
 let r ← yp false y a ia (a.size - ia) 0
 match r with
 | some k =>
  if k > 0 then
   if ia+k+1 == a.size then pure (.done (some (out++a.extract ia (ia+k)++b.extract ib b.size++a.extract (ia+k) a.size),out++a.extract ia (ia+k),ia+k,ib,g,k,bc))
   else if ia+k == a.size then pure (.done (some (out++a.extract ia (ia+k)++a.extract (ia+k) a.size++b.extract ib b.size),out++a.extract ia (ia+k),ia+k,ib,g,k,bc))
   else lo2 a b (out++a.extract ia (ia+k)) (ia+k) ib g k bc
  else lo2 a b out ia ib g k bc
 | none=>pure (.done (some (out++a.extract ia a.size++b.extract ib b.size),out,ia,ib,g,ac,bc))
abbrev tP:=Option (Array Keyed)×Array Keyed×Nat×Nat×Nat×Nat
def CI (a b:Array Keyed) (mg:Nat) (c:tP):StateT SortSt Sem (ForInStep tP):=do
 let y ← elem' b c.2.2.2.1
 let x ← elem' a c.2.2.1
 let r ← lt' y x
 match r with
 | some w =>
  if w then do
   let y ← elem' b c.2.2.2.1
   if c.2.2.2.1+1 == b.size then pure (.done (some (c.2.1.push y++a.extract c.2.2.1 a.size++b.extract (c.2.2.2.1+1) b.size),c.2.1.push y,c.2.2.1,c.2.2.2.1+1,0,c.2.2.2.2.2+1))
   else if c.2.2.2.2.2+1 ≥ mg then pure (.done (none,c.2.1.push y,c.2.2.1,c.2.2.2.1+1,0,c.2.2.2.2.2+1))
   else pure (.yield (none,c.2.1.push y,c.2.2.1,c.2.2.2.1+1,0,c.2.2.2.2.2+1))
  else do
   let x ← elem' a c.2.2.1
   if c.2.2.1+1+1 == a.size then pure (.done (some (c.2.1.push x++b.extract c.2.2.2.1 b.size++a.extract (c.2.2.1+1) a.size),c.2.1.push x,c.2.2.1+1,c.2.2.2.1,c.2.2.2.2.1+1,0))
   else if c.2.2.2.2.1+1 ≥ mg then pure (.done (none,c.2.1.push x,c.2.2.1+1,c.2.2.2.1,c.2.2.2.2.1+1,0))
   else pure (.yield (none,c.2.1.push x,c.2.2.1+1,c.2.2.2.1,c.2.2.2.2.1+1,0))
 | none=>pure (.done (some (c.2.1++a.extract c.2.2.1 a.size++b.extract c.2.2.2.1 b.size),c.2.1,c.2.2.1,c.2.2.2.1,c.2.2.2.2.1,c.2.2.2.2.2))
abbrev wU:=Option (Array Keyed)×Array Keyed×Nat×Nat×Nat
def CG (a b:Array Keyed) (c:wU):StateT SortSt Sem (ForInStep wU):=do
 let d ← forIn [0:a.size+b.size] ((none,c.2.1,c.2.2.1,c.2.2.2.1,0,0):tP) (λ_ d=>CI a b c.2.2.2.2 d)
 match d.1 with
 | some r=>pure (.done (some r,d.2.1,d.2.2.1,d.2.2.2.1,c.2.2.2.2))
 | none=>do
  rule "list.sort.gallop"
  let e ← forIn [0:a.size+b.size] ((none,d.2.1,d.2.2.1,d.2.2.2.1,c.2.2.2.2+1,d.2.2.2.2.1,d.2.2.2.2.2):oO) (λ_ e=>if e.2.2.2.2.1 > 1 then lo1 a b e.2.1 e.2.2.1 e.2.2.2.1 (e.2.2.2.2.1 - 1) e.2.2.2.2.2.1 e.2.2.2.2.2.2 else lo1 a b e.2.1 e.2.2.1 e.2.2.2.1 e.2.2.2.2.1 e.2.2.2.2.2.1 e.2.2.2.2.2.2)
  match e.1 with
  | some r=>pure (.done (some r,e.2.1,e.2.2.1,e.2.2.2.1,e.2.2.2.2.1))
  | none=>do
   ZZ (e.2.2.2.2.1+1)
   pure (.yield (none,e.2.1,e.2.2.1,e.2.2.2.1,e.2.2.2.2.1+1))
theorem Yh {M:Model} {A:Around} {E:Value->Shared->Prop} {s:Shared} {Q:Array Keyed->SortSt->Prop} {st:SortSt} (a b:Array Keyed) (h:wpS M A E s (do
 rule "list.sort.merge-lo"
 let x ← elem' b 0
 if 1 == b.size then pure (#[x]++a.extract 0 a.size++b.extract 1 b.size)
 else if 0+1 == a.size then pure (#[x]++b.extract 1 b.size++a.extract 0 a.size)
 else do
  let st ← get
  let c ← forIn [0:a.size+b.size] ((none,#[x],0,1,gallopOf st):wU) (λ_ c=>CG a b c)
  match c.1 with
  | some r=>pure r
  | none=>unsupported "internal:list.sort.merge-bound") Q st):wpS M A E s (IS a b) Q st:=by
 show wpAny M A (IS a b st) _ E s
 wp_delta
 wp_delta
 refine qH ?_ h
 dsimp only
 refine agn λ_=>agn λx=>?_
 congr 1
 congr 1
 refine agn λst=>?_
 congr 1
 .congr 1
  funext _ c
  unfold CG
  congr 1
  .congr 1
   funext _ d
   unfold CI
   refine agn λy=>agn λx=>agn λr=>?_
   cases r with
   | some w =>
    cases w with
    | true=>rfl
    | false=>rfl
   | none=>rfl
  .funext d
   cases d.1 with
   | some r=>rfl
   | none =>
    dsimp only
    refine agn λ_=>?_
    congr 1
    .congr 1
     funext _ e
     congr 1
     all_goals
      unfold lo1
      refine agn λ_=>agn λy=>agn λr=>?_
      cases r with
      | none=>rfl
      | some k =>
       dsimp only
       congr 1
       .congr 1
        congr 1
        unfold lo2
        refine agn λx=>?_
        congr 1
        refine agn λy=>agn λr=>?_
        cases r with
        | none=>rfl
        | some k1=>rfl
       .unfold lo2
        refine agn λx=>?_
        congr 1
        refine agn λy=>agn λr=>?_
        cases r with
        | none=>rfl
        | some k1=>rfl
    .funext e
     cases e.1 with
     | some r=>rfl
     | none=>rfl
 .funext c
  cases c.1 with
  | some r=>rfl
  | none=>rfl
def Sm (st st':SortSt):Prop:=kindOf st'=kindOf st/\arrOf st'=arrOf st/\pendingOf st'=pendingOf st/\failedOf st'=failedOf st
theorem Sm.refl (st:SortSt):Sm st st:=⟨rfl,rfl,rfl,rfl⟩
theorem Sm.trans {a b c:SortSt} (h:Sm a b) (h':Sm b c):Sm a c:=⟨h'.1.trans h.1,h'.2.1.trans h.2.1,h'.2.2.1.trans h.2.2.1,h'.2.2.2.trans h.2.2.2⟩
section
variable {prog:Program} {w:World} {A:Around} {E:Value->Shared->Prop} {s:Shared} {a₀:Array Keyed} {κ:SortKind} {ρ:aG.RR} {a b:Array Keyed}
theorem Dv {st:SortSt} {g:Nat} {Q:Unit->SortSt->Prop} (h:∀ st',Sm st st'->Q () st'):wpS (model prog w) A E s (ZZ g) Q st:=by
 rw [Zel]
 exact aCh (h _ ⟨rfl,rfl,rfl,rfl⟩)
theorem Nc (h:a.toList.Pairwise (Lk ρ)) (i j:Nat):e8 ρ a i (i+(a.size - i)):=by
 intro x y hx hxy hy
 have hy':y<a.size:=by lia
 rw [bC (show x<a.size by lia),bC hy']
 by_cases e:x=y
 .subst e; lia
 .exact aiN.1 h x y (by simpa using (show x<a.size by lia)) (by simpa using hy') (by lia)
theorem YS {i:Nat} {x:Keyed} (h:x∈a.toList.drop i):∃ j,∃ hj:i+j<a.size,x=a[i+j]:=by
 obtain ⟨j,hj,e⟩:=aMO.1 h
 rw [aYp,aUD] at hj
 refine ⟨j,by lia,?_⟩
 rw [← e,getElem_drop,aVA]
theorem YR {i k:Nat} {x:Keyed} (h:x∈(a.toList.drop i).take k):∃ j,j<k/\∃ hj:i+j<a.size,x=a[i+j]:=by
 obtain ⟨j,hj,e⟩:=aMO.1 h
 rw [aVk,aYp,aUD] at hj
 refine ⟨j,by lia,by lia,?_⟩
 rw [← e,getElem_take,getElem_drop,aVA]
theorem Cut.low {left:Bool} {kv:Int} {i k:Nat} (h:Cut ρ left kv a i (a.size - i) k) {x:Keyed} (hx:x∈(a.toList.drop i).take k):ρ.g x<=kv:=by
 obtain ⟨j,hj,hs,rfl⟩:=YR hx
 have:=h.lo j hj
 unfold Bd at this
 rw [bC hs] at this
 cases left with
 | true=>simp only [aSf,aDC] at this; lia
 | false=>simp only [aXZ,aE9,aoH,a8L] at this; lia
theorem Cut.high {left:Bool} {kv:Int} {i k:Nat} (h:Cut ρ left kv a i (a.size - i) k) {x:Keyed} (hx:x∈a.toList.drop (i+k)):kv<=ρ.g x:=by
 obtain ⟨j,hs,rfl⟩:=YS hx
 have:=h.hi (k+j) (by lia) (by lia)
 unfold Bd at this
 rw [show i+(k+j)=i+k+j by lia,bC hs] at this
 cases left with
 | true=>simp only [aSf,a8L] at this; lia
 | false=>simp only [aXZ,aE9,Bool.not_eq_false',aDC] at this; lia
theorem A8 {i:Nat} (hi:i<a.size):(a.toList.drop i).take 1=[a[i]]:=by
 rw [a9T (by simpa using hi)]
 rfl
theorem DW {i:Nat} (hi:i<a.size) (h:(a.toList.drop i).Pairwise (Lk ρ)) {x:Keyed} (hx:x∈a.toList.drop i):ρ.g a[i]<=ρ.g x:=by
 rw [a9T (by simpa using hi)] at h hx
 rcases aM6.1 hx with rfl | hx
 .exact aKB _
 .exact (aM2.1 h).1 x hx
structure yD (ρ:aG.RR) (a₀ a b:Array Keyed):Prop where
 ma:∀ p∈a.toList,p∈a₀.toList
 mb:∀ p∈b.toList,p∈a₀.toList
 sa:a.toList.Pairwise (Lk ρ)
 sb:b.toList.Pairwise (Lk ρ)
 last:∀ y∈b.toList,∀ x∈a.toList.drop (a.size - 1),ρ.g y<=ρ.g x
def Jm (ρ:aG.RR) (a b:Array Keyed) (m:Nat) (out:Array Keyed) (ia ib:Nat):Prop:=MI ρ a.toList b.toList out.toList ia ib/\m<=ia+ib/\ia+1<a.size/\ib<b.size
def Qe (ρ:aG.RR) (a b:Array Keyed) (m:Nat) (c:oO):Prop:=(∃ r q,c=(some r,q)/\Res ρ a.toList b.toList r)\/∃ out ia ib g k k1,c=(none,out,ia,ib,g,k,k1)/\Jm ρ a b m out ia ib
def K1 (ρ:aG.RR) (a b:Array Keyed) (m:Nat) (st:SortSt) (r:ForInStep oO) (st':SortSt):Prop:=Sm st st'/\match r with
 | .done c=>Qe ρ a b m c
 | .yield c=>∃ out ia ib g k k1,c=(none,out,ia,ib,g,k,k1)/\Jm ρ a b m out ia ib
theorem MI.jT {out:Array Keyed} {ia ib:Nat} (h:MI ρ a.toList b.toList out.toList ia ib) (hi:ia<a.size) (hk:∀ x∈b.toList.drop ib,ρ.g a[ia]<=ρ.g x):MI ρ a.toList b.toList (out.push a[ia]).toList (ia+1) ib:=by
 have:=h.jQ 1 (by rw [A8 hi]; intro t ht x hx; rw [ai5.1 ht]; exact hk x hx)
 rw [A8 hi] at this
 rw [aEt]
 exact this
theorem MI.jS {out:Array Keyed} {ia ib:Nat} (h:MI ρ a.toList b.toList out.toList ia ib) (hi:ib<b.size) (hk:∀ x∈a.toList.drop ia,ρ.g b[ib]<=ρ.g x):MI ρ a.toList b.toList (out.push b[ib]).toList ia (ib+1):=by
 have:=h.iD 1 (by rw [A8 hi]; intro t ht x hx; rw [ai5.1 ht]; exact hk x hx)
 rw [A8 hi] at this
 rw [aEt]
 exact this
theorem Nb {bD st:SortSt} {out:Array Keyed} {ia ib g k k1 m:Nat} (T:yD ρ a₀ a b) (hS:Sm bD st) (h:Jm ρ a b m out ia ib) (hk:∀ x∈b.toList.drop ib,ρ.g (a[ia]'(by have:=h.2.2.1; lia))<=ρ.g x):wpS (model prog w) A E s (CJ a b out ia ib g k k1) (K1 ρ a b (m+1) bD) st:=by
 obtain ⟨M,hm,ha,hb⟩:=h
 have qu:ia<a.size:=by lia
 unfold CJ
 refine a5h (Zy qu ?_)
 have M2:=M.jT qu hk
 by_cases e:ia+1+1=a.size
 .rw [ajr (by simpa using e)]
  exact aod ⟨hS,.inl ⟨_,_,rfl,M2.last T.last e⟩⟩
 .rw [aBJ (by simpa using e)]
  have J:Jm ρ a b (m+1) (out.push a[ia]) (ia+1) ib:=⟨M2,by lia,by lia,hb⟩
  by_cases c:(decide (k<7) && decide (k1<7))=true
  .rw [ajr c]
   exact aod ⟨hS,.inr ⟨_,_,_,_,_,_,rfl,J⟩⟩
  .rw [aBJ c]
   exact aod ⟨hS,_,_,_,_,_,_,rfl,J⟩
theorem Na {bD st:SortSt} {out:Array Keyed} {ia ib g k bc m:Nat} (h0:aG.i7 prog w A s κ ρ a₀) (hk:kindOf st=κ) (T:yD ρ a₀ a b) (hS:Sm bD st) (h:Jm ρ a b m out ia ib) (hq:∀ x∈a.toList.drop ia,ρ.g (b[ib]'(h.2.2.2))<=ρ.g x):wpS (model prog w) A E s (lo2 a b out ia ib g k bc) (K1 ρ a b (m+1) bD) st:=by
 obtain ⟨M,hm,ha,hb⟩:=h
 have qu:ia<a.size:=by lia
 unfold lo2
 refine a5h (Zy hb ?_)
 have M2:=M.jS hb hq
 by_cases e:ib+1=b.size
 .rw [ajr (by simpa using e)]
  exact aod ⟨hS,.inl ⟨_,_,rfl,M2.res (.inr (aPj (by simp; lia)))⟩⟩
 .rw [aBJ (by simpa using e)]
  refine a5h (Zy qu ?_)
  refine a5h (yy hk h0 T.mb (T.ma _ (by simp)) (by lia) (by lia) (Nc T.sb _ 0) (λk1 C=>?_))
  dsimp only
  have fa:∀ x∈a.toList.drop ia,ρ.g a[ia]<=ρ.g x:=λx hx=>DW qu (aBu (drop_sublist _ _) T.sa) hx
  have M3:=M2.iD k1 (λt ht x hx=>a8o (C.low ht) (fa x hx))
  rw [← Im,← aDG] at M3
  have hi:∀ x∈b.toList.drop (ib+1+k1),ρ.g a[ia]<=ρ.g x:=λx hx=>C.high hx
  by_cases c:k1 > 0
  .rw [ajr c]
   by_cases e2:ib+1+k1=b.size
   .rw [ajr (by simpa using e2)]
    exact aod ⟨hS,.inl ⟨_,_,rfl,M3.res (.inr (aPj (by simp; lia)))⟩⟩
   .rw [aBJ (by simpa using e2)]
    have:=C.le
    exact Nb T hS ⟨M3,by lia,ha,by lia⟩ hi
  .rw [aBJ c]
   have e3:k1=0:=by lia
   subst e3
   exact Nb T hS ⟨M2,by lia,ha,by lia⟩ hi
theorem Va {bD st:SortSt} {out:Array Keyed} {ia ib g ac bc m:Nat} (h0:aG.i7 prog w A s κ ρ a₀) (hk:kindOf st=κ) (T:yD ρ a₀ a b) (hS:Sm bD st) (h:Jm ρ a b m out ia ib):wpS (model prog w) A E s (lo1 a b out ia ib g ac bc) (K1 ρ a b (m+1) bD) st:=by
 obtain ⟨M,hm,ha,hb⟩:=h
 have qu:ia<a.size:=by lia
 unfold lo1
 refine a5h (Dv λst1 vV=>?_)
 have hk1:kindOf st1=κ:=vV.1.trans hk
 have pA:=hS.trans vV
 refine a5h (Zy hb ?_)
 refine a5h (yy hk1 h0 T.ma (T.mb _ (by simp)) (by lia) (by lia) (Nc T.sa _ 0) (λk C=>?_))
 dsimp only
 have fb:∀ x∈b.toList.drop ib,ρ.g b[ib]<=ρ.g x:=λx hx=>DW hb (aBu (drop_sublist _ _) T.sb) hx
 have M3:=M.jQ k (λt ht x hx=>a8o (C.low ht) (fb x hx))
 rw [← Im,← aDG] at M3
 have hi:∀ x∈a.toList.drop (ia+k),ρ.g b[ib]<=ρ.g x:=λx hx=>C.high hx
 have:=C.le
 by_cases c:k > 0
 .rw [ajr c]
  by_cases e2:ia+k+1=a.size
  .rw [ajr (by simpa using e2)]
   exact aod ⟨pA,.inl ⟨_,_,rfl,M3.last T.last e2⟩⟩
  .rw [aBJ (by simpa using e2)]
   by_cases e3:ia+k=a.size
   .rw [ajr (by simpa using e3)]
    exact aod ⟨pA,.inl ⟨_,_,rfl,M3.res (.inl (aPj (by simp; lia)))⟩⟩
   .rw [aBJ (by simpa using e3)]
    exact Na h0 hk1 T pA ⟨M3,by lia,by lia,hb⟩ hi
 .rw [aBJ c]
  have e3:k=0:=by lia
  subst e3
  exact Na h0 hk1 T pA ⟨M,by lia,ha,hb⟩ hi
def Qn (ρ:aG.RR) (a b:Array Keyed) (m:Nat) (c:tP):Prop:=(∃ r q,c=(some r,q)/\Res ρ a.toList b.toList r)\/∃ out ia ib k k1,c=(none,out,ia,ib,k,k1)/\Jm ρ a b m out ia ib
theorem U9 {st:SortSt} {out:Array Keyed} {mg ia ib ac bc m:Nat} (h0:aG.i7 prog w A s κ ρ a₀) (hk:kindOf st=κ) (T:yD ρ a₀ a b) (h:Jm ρ a b m out ia ib):wpS (model prog w) A E s (CI a b mg (none,out,ia,ib,ac,bc)) (λr st'=>st'=st/\match r with
  | .done c=>Qn ρ a b (m+1) c
  | .yield c=>∃ out ia ib k k1,c=(none,out,ia,ib,k,k1)/\Jm ρ a b (m+1) out ia ib) st:=by
 obtain ⟨M,hm,ha,hb⟩:=h
 have qu:ia<a.size:=by lia
 have fa:∀ x∈a.toList.drop ia,ρ.g a[ia]<=ρ.g x:=λx hx=>DW qu (aBu (drop_sublist _ _) T.sa) hx
 have fb:∀ x∈b.toList.drop ib,ρ.g b[ib]<=ρ.g x:=λx hx=>DW hb (aBu (drop_sublist _ _) T.sb) hx
 unfold CI
 dsimp only
 refine a5h (Zy hb (a5h (Zy qu (a5h (lu hk h0 (T.mb _ (by simp)) (T.ma _ (by simp)) ?_)))))
 dsimp only
 by_cases c:ρ.g b[ib]<ρ.g a[ia]
 .rw [an3 c,ajr rfl]
  refine a5h (Zy hb ?_)
  have M2:=M.jS hb (λx hx=>by have:=fa x hx; lia)
  by_cases e:ib+1=b.size
  .rw [ajr (by simpa using e)]
   exact aod ⟨rfl,.inl ⟨_,_,rfl,M2.res (.inr (aPj (by simp; lia)))⟩⟩
  .rw [aBJ (by simpa using e)]
   have J:Jm ρ a b (m+1) (out.push b[ib]) ia (ib+1):=⟨M2,by lia,ha,by lia⟩
   by_cases c2:bc+1 ≥ mg
   .rw [ajr c2]
    exact aod ⟨rfl,.inr ⟨_,_,_,_,_,rfl,J⟩⟩
   .rw [aBJ c2]
    exact aod ⟨rfl,_,_,_,_,_,rfl,J⟩
 .rw [ba7 c,aBJ (by simp)]
  refine a5h (Zy qu ?_)
  have M2:=M.jT qu (λx hx=>by have:=fb x hx; lia)
  by_cases e:ia+1+1=a.size
  .rw [ajr (by simpa using e)]
   exact aod ⟨rfl,.inl ⟨_,_,rfl,M2.last T.last e⟩⟩
  .rw [aBJ (by simpa using e)]
   have J:Jm ρ a b (m+1) (out.push a[ia]) (ia+1) ib:=⟨M2,by lia,by lia,hb⟩
   by_cases c2:ac+1 ≥ mg
   .rw [ajr c2]
    exact aod ⟨rfl,.inr ⟨_,_,_,_,_,rfl,J⟩⟩
   .rw [aBJ c2]
    exact aod ⟨rfl,_,_,_,_,_,rfl,J⟩
theorem Jm.weak {m m':Nat} {out:Array Keyed} {ia ib:Nat} (h:Jm ρ a b m out ia ib) (hm:m'<=m):Jm ρ a b m' out ia ib:=⟨h.1,by have:=h.2.1; lia,h.2.2.1,h.2.2.2⟩
theorem U8 {st:SortSt} {out:Array Keyed} {ia ib g m:Nat} (h0:aG.i7 prog w A s κ ρ a₀) (hk:kindOf st=κ) (T:yD ρ a₀ a b) (h:Jm ρ a b m out ia ib):wpS (model prog w) A E s (CG a b (none,out,ia,ib,g)) (λr st'=>Sm st st'/\match r with
  | .done c=>∃ r q,c=(some r,q)/\Res ρ a.toList b.toList r
  | .yield c=>∃ out ia ib g,c=(none,out,ia,ib,g)/\Jm ρ a b (m+1) out ia ib) st:=by
 have pos:0<a.size+b.size:=by have:=h.2.2.1; lia
 unfold CG
 dsimp only
 refine a5h (axG (aAz (I:=λx c st2=>st2=st/\∃ out ia ib k k1,c=(none,out,ia,ib,k,k1)/\Jm ρ a b (m+x) out ia ib) (Q:=λc st2=>st2=st/\Qn ρ a b (m+1) c) ?turn ?last ?first) ?after)
 case first=>exact ⟨rfl,_,_,_,_,_,rfl,h⟩
 case last =>
  rintro c st2 ⟨rfl,out,ia,ib,k,k1,rfl,J⟩
  exact ⟨rfl,.inr ⟨_,_,_,_,_,rfl,J.weak (by lia)⟩⟩
 case turn =>
  rintro x c st2 _ hx ⟨rfl,out,ia,ib,k,k1,rfl,J⟩
  refine axG (U9 h0 hk T J) ?_
  rintro r st3 ⟨rfl,hr⟩
  cases r with
  | done c =>
   refine ⟨rfl,?_⟩
   rcases hr with hr | ⟨out,ia,ib,k,k1,rfl,J⟩
   .exact .inl hr
   .exact .inr ⟨_,_,_,_,_,rfl,J.weak (by lia)⟩
  | yield c=>exact ⟨rfl,hr⟩
 case after =>
  rintro c st2 ⟨rfl,hc⟩
  rcases hc with ⟨r,q,rfl,R⟩ | ⟨out,ia,ib,k,k1,rfl,J⟩
  .exact aod ⟨Sm.refl _,_,_,rfl,R⟩
  .dsimp only
   refine a5h (wpS_lift (ag2 ⟨rfl,?_⟩))
   refine a5h (axG (aAz (I:=λx c st3=>Sm st2 st3/\∃ out ia ib g k k1,c=(none,out,ia,ib,g,k,k1)/\Jm ρ a b (m+x) out ia ib) (Q:=λc st3=>Sm st2 st3/\Qe ρ a b (m+1) c) ?jturn ?jlast ?jfirst) ?jafter)
   case jfirst=>exact ⟨Sm.refl _,_,_,_,_,_,_,rfl,J.weak (by lia)⟩
   case jlast =>
    rintro c st3 ⟨hS,out,ia,ib,g,k,k1,rfl,J⟩
    exact ⟨hS,.inr ⟨_,_,_,_,_,_,rfl,J.weak (by lia)⟩⟩
   case jturn =>
    rintro x c st3 _ hx ⟨hS,out,ia,ib,g,k,k1,rfl,J⟩
    have GC:kindOf st3=κ:=hS.1.trans hk
    dsimp only
    rw [show (if g > 1 then lo1 a b out ia ib (g - 1) k k1 else lo1 a b out ia ib g k k1)=lo1 a b out ia ib (if g > 1 then g - 1 else g) k k1 by split <;> rfl]
    refine axG (Va h0 GC T hS J) ?_
    rintro r cU ⟨qz,hr⟩
    cases r with
    | done c =>
     refine ⟨qz,?_⟩
     rcases hr with hr | ⟨out,ia,ib,g,k,k1,rfl,J⟩
     .exact .inl hr
     .exact .inr ⟨_,_,_,_,_,_,rfl,J.weak (by lia)⟩
    | yield c=>exact ⟨qz,hr⟩
   case jafter =>
    rintro c st3 ⟨hS,hc⟩
    rcases hc with ⟨r,q,rfl,R⟩ | ⟨out,ia,ib,g,k,k1,rfl,J⟩
    .exact aod ⟨hS,_,_,rfl,R⟩
    .refine a5h (Dv λcU qz=>aod ⟨hS.trans qz,_,_,_,_,rfl,J⟩)
theorem Yg {st:SortSt} {Q:Array Keyed->SortSt->Prop} (h0:aG.i7 prog w A s κ ρ a₀) (hk:kindOf st=κ) (T:yD ρ a₀ a b) (ha:0<a.size) (hb:0<b.size) (hf:∀ x∈a.toList,ρ.g b[0]<=ρ.g x)
  (h:∀ r st',Sm st st'->Res ρ a.toList b.toList r->Q r st'):wpS (model prog w) A E s (IS a b) Q st:=by
 refine Yh _ _ ?_
 refine a5h (wpS_lift (ag2 ⟨rfl,?_⟩))
 refine a5h (Zy hb ?_)
 have M0:MI ρ a.toList b.toList (#[]:Array Keyed).toList 0 0:=⟨by simp,by simpa using T.sa,by simpa using T.sb⟩
 have M1:MI ρ a.toList b.toList (#[b[0]]:Array Keyed).toList 0 1:=M0.jS hb (λx hx=>hf x (by simpa using hx))
 by_cases e1:1=b.size
 .rw [ajr (by simpa using e1)]
  exact aod (h _ _ (Sm.refl _) (M1.res (.inr (aPj (by simp; lia)))))
 .rw [aBJ (by simpa using e1)]
  by_cases e2:0+1=a.size
  .rw [ajr (by simpa using e2)]
   exact aod (h _ _ (Sm.refl _) (M1.last T.last e2))
  .rw [aBJ (by simpa using e2)]
   refine a5h (baX ?_)
   refine a5h (axG (aAz (I:=λx c st2=>Sm st st2/\∃ out ia ib g,c=(none,out,ia,ib,g)/\Jm ρ a b (x+1) out ia ib) (Q:=λc st2=>Sm st st2/\∃ r q,c=(some r,q)/\Res ρ a.toList b.toList r) ?turn ?last ?first) ?after)
   case first=>exact ⟨Sm.refl _,_,_,_,_,rfl,M1,by lia,by lia,by lia⟩
   case last =>
    rintro c st2 ⟨_,out,ia,ib,g,rfl,J⟩
    have:=J.2.1
    have:=J.2.2.1
    have:=J.2.2.2
    lia
   case turn =>
    rintro x c st2 _ hx ⟨hS,out,ia,ib,g,rfl,J⟩
    refine axG (U8 h0 (hS.1.trans hk) T J) ?_
    rintro r st3 ⟨vU,hr⟩
    cases r with
    | done c=>exact ⟨hS.trans vU,hr⟩
    | yield c=>exact ⟨hS.trans vU,hr⟩
   case after =>
    rintro c st2 ⟨hS,r,q,rfl,R⟩
    exact aod (h r st2 hS R)
end
structure MH (ρ:aG.RR) (A B O:List Keyed) (na nb:Nat):Prop where
 perm:(A.take na++B.take nb++O).Perm (A++B)
 sa:(A.take na++O).Pairwise (Lk ρ)
 sb:(B.take nb++O).Pairwise (Lk ρ)
section
variable {ρ:aG.RR} {A B O:List Keyed} {na nb:Nat}
theorem MH.iD (h:MH ρ A B O na nb) (k:Nat) (hkn:k<=nb) (hk:∀ t∈(B.take nb).drop k,∀ x∈A.take na,ρ.g x<=ρ.g t):MH ρ A B ((B.take nb).drop k++O) na k:=by
 have e:B.take k=(B.take nb).take k:=by rw [List.take_take,Nat.min_eq_left hkn]
 have s:=h.sb
 have p:=h.perm
 rw [← awL k (B.take nb),a8E] at s
 rw [← awL k (B.take nb)] at p
 refine ⟨?_,?_,?_⟩
 .rw [e]
  refine List.Perm.trans ?_ p
  simp only [a8E]
  exact List.Perm.refl _
 .have s1:=(aUZ.1 s).2.1
  have a1:=aUZ.1 h.sa
  refine aUZ.2 ⟨a1.1,s1,λx hx y hy=>?_⟩
  rcases aPD.1 hy with hy | hy
  .exact hk y hy x hx
  .exact a1.2.2 x hx y hy
 .rw [e]
  exact s
theorem MH.jQ (h:MH ρ A B O na nb) (k:Nat) (hkn:k<=na) (hk:∀ t∈(A.take na).drop k,∀ x∈B.take nb,ρ.g x<=ρ.g t):MH ρ A B ((A.take na).drop k++O) k nb:=by
 have h2:MH ρ B A O nb na:=⟨List.Perm.trans (ace.append_right _) (List.Perm.trans h.perm ace),h.sb,h.sa⟩
 have h3:=h2.iD k hkn hk
 exact ⟨List.Perm.trans (ace.append_right _) (List.Perm.trans h3.perm ace),h3.sb,h3.sa⟩
theorem nX (a:Array Keyed) (k:Nat):(a.extract 0 k).toList=a.toList.take k:=by
 rw [aBI,List.extract_eq_drop_take,List.drop_zero,Nat.sub_zero]
theorem yg (a:Array Keyed) (i k:Nat):(a.extract i k).toList=(a.toList.take k).drop i:=by
 rw [aBI,List.extract_eq_drop_take,drop_take]
theorem MH.res {a b out:Array Keyed} (h:MH ρ a.toList b.toList out.toList.reverse na nb) (he:na=0\/nb=0):Res ρ a.toList b.toList (a.extract 0 na++b.extract 0 nb++out.reverse):=by
 unfold Res
 rw [aDG,aDG,nX,nX,adP]
 refine ⟨h.perm,?_⟩
 rcases he with rfl | rfl
 .rw [take_zero,List.nil_append]; exact h.sb
 .rw [take_zero,arR]; exact h.sa
theorem MH.first {a b out:Array Keyed} (h:MH ρ a.toList b.toList out.toList.reverse na 1) (hl:∀ y∈b.toList.take 1,∀ x∈a.toList,ρ.g y<=ρ.g x):Res ρ a.toList b.toList (b.extract 0 1++a.extract 0 na++out.reverse):=by
 have h2:=h.jQ 0 (avV _) (λt ht x hx=>hl x hx t (List.mem_of_mem_take (List.mem_of_mem_drop ht)))
 rw [List.drop_zero] at h2
 unfold Res
 rw [aDG,aDG,nX,nX,adP]
 have p:=h2.perm
 have s:=h2.sb
 rw [take_zero,List.nil_append,← a8E] at p
 rw [← a8E] at s
 exact ⟨p,s⟩
end
abbrev oS:=Option (Array Keyed)×Nat×Nat×Array Keyed×Nat×Nat×Nat
def CW (a b:Array Keyed) (na nb:Nat) (out:Array Keyed) (g k k1:Nat):StateT SortSt Sem (ForInStep oS):=do
 let x ← elem' a (na - 1)
 if na - 1 == 0 then pure (.done (some (a.extract 0 (na - 1)++b.extract 0 nb++(out.push x).reverse),na - 1,nb,out.push x,g,k,k1))
 else if k<7 && k1<7 then pure (.done (none,na - 1,nb,out.push x,g,k,k1)) else pure (.yield (none,na - 1,nb,out.push x,g,k,k1))
def hi2 (a b:Array Keyed) (na nb:Nat) (out:Array Keyed) (g k bc:Nat):StateT SortSt Sem (ForInStep oS):=do
 let x ← elem' b (nb - 1)
 if nb - 1 == 1 then pure (.done (some (b.extract 0 (nb - 1)++a.extract 0 na++(out.push x).reverse),na,nb - 1,out.push x,g,k,bc))
 else do
  let y ← elem' a (na - 1)
  let r ← yp true y b 0 (nb - 1) (nb - 1 - 1)
  match r with
  | some i =>
   if nb - 1 - i > 0 then
    if i == 1 then pure (.done (some (b.extract 0 i++a.extract 0 na++(out.push x++(b.extract i (nb - 1)).reverse).reverse),na,i,out.push x++(b.extract i (nb - 1)).reverse,g,k,nb - 1 - i))
    else if i == 0 then pure (.done (some (a.extract 0 na++b.extract 0 i++(out.push x++(b.extract i (nb - 1)).reverse).reverse),na,i,out.push x++(b.extract i (nb - 1)).reverse,g,k,nb - 1 - i))
    else CW a b na i (out.push x++(b.extract i (nb - 1)).reverse) g k (nb - 1 - i)
   else CW a b na (nb - 1) (out.push x) g k (nb - 1 - i)
  | none=>pure (.done (some (a.extract 0 na++b.extract 0 (nb - 1)++(out.push x).reverse),na,nb - 1,out.push x,g,k,bc))
def hi1 (a b:Array Keyed) (na nb:Nat) (out:Array Keyed) (g ac bc:Nat):StateT SortSt Sem (ForInStep oS):=do
 ZZ g
 let y ← elem' b (nb - 1)
 let r ← yp false y a 0 na (na - 1)
 match r with
 | some i =>
  if na - i > 0 then
   if i == 0 then pure (.done (some (a.extract 0 i++b.extract 0 nb++(out++(a.extract i na).reverse).reverse),i,nb,out++(a.extract i na).reverse,g,na - i,bc))
   else hi2 a b i nb (out++(a.extract i na).reverse) g (na - i) bc
  else hi2 a b na nb out g (na - i) bc
 | none=>pure (.done (some (a.extract 0 na++b.extract 0 nb++out.reverse),na,nb,out,g,ac,bc))
abbrev tO:=Option (Array Keyed)×Nat×Nat×Array Keyed×Nat×Nat
def CV (a b:Array Keyed) (mg:Nat) (c:tO):StateT SortSt Sem (ForInStep tO):=do
 let y ← elem' b (c.2.2.1 - 1)
 let x ← elem' a (c.2.1 - 1)
 let r ← lt' y x
 match r with
 | some w =>
  if w then do
   let x ← elem' a (c.2.1 - 1)
   if c.2.1 - 1 == 0 then pure (.done (some (a.extract 0 (c.2.1 - 1)++b.extract 0 c.2.2.1++(c.2.2.2.1.push x).reverse),c.2.1 - 1,c.2.2.1,c.2.2.2.1.push x,c.2.2.2.2.1+1,0))
   else if c.2.2.2.2.1+1 ≥ mg then pure (.done (none,c.2.1 - 1,c.2.2.1,c.2.2.2.1.push x,c.2.2.2.2.1+1,0))
   else pure (.yield (none,c.2.1 - 1,c.2.2.1,c.2.2.2.1.push x,c.2.2.2.2.1+1,0))
  else do
   let y ← elem' b (c.2.2.1 - 1)
   if c.2.2.1 - 1 == 1 then pure (.done (some (b.extract 0 (c.2.2.1 - 1)++a.extract 0 c.2.1++(c.2.2.2.1.push y).reverse),c.2.1,c.2.2.1 - 1,c.2.2.2.1.push y,0,c.2.2.2.2.2+1))
   else if c.2.2.2.2.2+1 ≥ mg then pure (.done (none,c.2.1,c.2.2.1 - 1,c.2.2.2.1.push y,0,c.2.2.2.2.2+1))
   else pure (.yield (none,c.2.1,c.2.2.1 - 1,c.2.2.2.1.push y,0,c.2.2.2.2.2+1))
 | none=>pure (.done (some (a.extract 0 c.2.1++b.extract 0 c.2.2.1++c.2.2.2.1.reverse),c.2.1,c.2.2.1,c.2.2.2.1,c.2.2.2.2.1,c.2.2.2.2.2))
abbrev wV:=Option (Array Keyed)×Nat×Nat×Array Keyed×Nat
def CU (a b:Array Keyed) (c:wV):StateT SortSt Sem (ForInStep wV):=do
 let d ← forIn [0:a.size+b.size] ((none,c.2.1,c.2.2.1,c.2.2.2.1,0,0):tO) (λ_ d=>CV a b c.2.2.2.2 d)
 match d.1 with
 | some r=>pure (.done (some r,d.2.1,d.2.2.1,d.2.2.2.1,c.2.2.2.2))
 | none=>do
  rule "list.sort.gallop"
  let e ← forIn [0:a.size+b.size] ((none,d.2.1,d.2.2.1,d.2.2.2.1,c.2.2.2.2+1,d.2.2.2.2.1,d.2.2.2.2.2):oS) (λ_ e=>if e.2.2.2.2.1 > 1 then hi1 a b e.2.1 e.2.2.1 e.2.2.2.1 (e.2.2.2.2.1 - 1) e.2.2.2.2.2.1 e.2.2.2.2.2.2 else hi1 a b e.2.1 e.2.2.1 e.2.2.2.1 e.2.2.2.2.1 e.2.2.2.2.2.1 e.2.2.2.2.2.2)
  match e.1 with
  | some r=>pure (.done (some r,e.2.1,e.2.2.1,e.2.2.2.1,e.2.2.2.2.1))
  | none=>do
   ZZ (e.2.2.2.2.1+1)
   pure (.yield (none,e.2.1,e.2.2.1,e.2.2.2.1,e.2.2.2.2.1+1))
theorem Ye {M:Model} {A:Around} {E:Value->Shared->Prop} {s:Shared} {Q:Array Keyed->SortSt->Prop} {st:SortSt} (a b:Array Keyed) (h:wpS M A E s (do
 rule "list.sort.merge-hi"
 let x ← elem' a (a.size - 1)
 if a.size - 1 == 0 then pure (a.extract 0 (a.size - 1)++b.extract 0 b.size++#[x].reverse)
 else if b.size == 1 then pure (b.extract 0 b.size++a.extract 0 (a.size - 1)++#[x].reverse)
 else do
  let st ← get
  let c ← forIn [0:a.size+b.size] ((none,a.size - 1,b.size,#[x],gallopOf st):wV) (λ_ c=>CU a b c)
  match c.1 with
  | some r=>pure r
  | none=>unsupported "internal:list.sort.merge-bound") Q st):wpS M A E s (IQ a b) Q st:=by
 show wpAny M A (IQ a b st) _ E s
 wp_delta
 wp_delta
 refine qH ?_ h
 dsimp only
 refine agn λ_=>agn λx=>?_
 congr 1
 congr 1
 refine agn λst=>?_
 congr 1
 .congr 1
  funext _ c
  unfold CU
  congr 1
  .congr 1
   funext _ d
   unfold CV
   refine agn λy=>agn λx=>agn λr=>?_
   cases r with
   | some w =>
    cases w with
    | true=>rfl
    | false=>rfl
   | none=>rfl
  .funext d
   cases d.1 with
   | some r=>rfl
   | none =>
    dsimp only
    refine agn λ_=>?_
    congr 1
    .congr 1
     funext _ e
     congr 1
     all_goals
      unfold hi1
      refine agn λ_=>agn λy=>agn λr=>?_
      cases r with
      | none=>rfl
      | some k =>
       dsimp only
       congr 1
       .congr 1
        unfold hi2
        refine agn λx=>?_
        congr 1
        refine agn λy=>agn λr=>?_
        cases r with
        | none=>rfl
        | some k1=>rfl
       .unfold hi2
        refine agn λx=>?_
        congr 1
        refine agn λy=>agn λr=>?_
        cases r with
        | none=>rfl
        | some k1=>rfl
    .funext e
     cases e.1 with
     | some r=>rfl
     | none=>rfl
 .funext c
  cases c.1 with
  | some r=>rfl
  | none=>rfl
section
variable {prog:Program} {w:World} {A:Around} {E:Value->Shared->Prop} {s:Shared} {a₀:Array Keyed} {κ:SortKind} {ρ:aG.RR} {a b:Array Keyed}
theorem HM (h:a.toList.Pairwise (Lk ρ)) {n:Nat} (hn:n<=a.size):e8 ρ a 0 (0+n):=by
 intro x y hx hxy hy
 have hy':y<a.size:=by lia
 rw [bC (show x<a.size by lia),bC hy']
 by_cases e:x=y
 .subst e; lia
 .exact aiN.1 h x y (by simpa using (show x<a.size by lia)) (by simpa using hy') (by lia)
theorem HL {n:Nat} {x:Keyed} (h:x∈a.toList.take n):∃ j,j<n/\∃ hj:j<a.size,x=a[j]:=by
 obtain ⟨j,hj,e⟩:=aMO.1 h
 rw [aVk,aUD] at hj
 refine ⟨j,by lia,by lia,?_⟩
 rw [← e,getElem_take,aVA]
theorem Il {i n:Nat} {x:Keyed} (h:x∈(a.toList.take n).drop i):∃ j,i<=j/\j<n/\∃ hj:j<a.size,x=a[j]:=by
 obtain ⟨j,hj,e⟩:=aMO.1 h
 rw [aYp,aVk,aUD] at hj
 refine ⟨i+j,by lia,by lia,by lia,?_⟩
 rw [← e,getElem_drop,getElem_take,aVA]
theorem Cut.zR {left:Bool} {kv:Int} {n k:Nat} (h:Cut ρ left kv a 0 n k) {x:Keyed} (hx:x∈a.toList.take k):ρ.g x<=kv:=by
 obtain ⟨j,hj,hs,rfl⟩:=HL hx
 have:=h.lo j hj
 unfold Bd at this
 simp only [bcx] at this
 rw [bC hs] at this
 cases left with
 | true=>simp only [aSf,aDC] at this; lia
 | false=>simp only [aXZ,aE9,aoH,a8L] at this; lia
theorem Cut.uw {left:Bool} {kv:Int} {n k:Nat} (h:Cut ρ left kv a 0 n k) {x:Keyed} (hx:x∈(a.toList.take n).drop k):kv<=ρ.g x:=by
 obtain ⟨j,hk,hj,hs,rfl⟩:=Il hx
 have:=h.hi j hk hj
 unfold Bd at this
 simp only [bcx] at this
 rw [bC hs] at this
 cases left with
 | true=>simp only [aSf,a8L] at this; lia
 | false=>simp only [aXZ,aE9,Bool.not_eq_false',aDC] at this; lia
theorem DV {n:Nat} (hn:0<n) (hs:n<=a.size):(a.toList.take n).drop (n - 1)=[a[n - 1]]:=by
 rw [drop_take,show n - (n - 1)=1 by lia]
 exact A8 (by lia)
theorem DL {n:Nat} (hn:0<n) (hs:n<=a.size) (h:a.toList.Pairwise (Lk ρ)) {x:Keyed} (hx:x∈a.toList.take n):ρ.g x<=ρ.g a[n - 1]:=by
 obtain ⟨j,hj,hs2,rfl⟩:=HL hx
 have:=HM h hs j (n - 1) (by lia) (by lia) (by lia)
 rw [bC hs2,bC (show n - 1<a.size by lia)] at this
 exact this
theorem MH.first' {out:Array Keyed} {na nb:Nat} (h:MH ρ a.toList b.toList out.toList.reverse na nb) (hl:∀ y∈b.toList.take 1,∀ x∈a.toList,ρ.g y<=ρ.g x) (e:nb=1):Res ρ a.toList b.toList (b.extract 0 nb++a.extract 0 na++out.reverse):=by
 subst e
 exact h.first hl
structure yE (ρ:aG.RR) (a₀ a b:Array Keyed):Prop where
 ma:∀ p∈a.toList,p∈a₀.toList
 mb:∀ p∈b.toList,p∈a₀.toList
 sa:a.toList.Pairwise (Lk ρ)
 sb:b.toList.Pairwise (Lk ρ)
 first:∀ y∈b.toList.take 1,∀ x∈a.toList,ρ.g y<=ρ.g x
structure Jh (ρ:aG.RR) (a b:Array Keyed) (m na nb:Nat) (out:Array Keyed):Prop where
 M:MH ρ a.toList b.toList out.toList.reverse na nb
 bd:na+nb+m<=a.size+b.size
 la:na<=a.size
 lb:nb<=b.size
 pa:1<=na
 pb:2<=nb
theorem Jh.weak {m m' na nb:Nat} {out:Array Keyed} (h:Jh ρ a b m na nb out) (hm:m'<=m):Jh ρ a b m' na nb out:=⟨h.M,by have:=h.bd; lia,h.la,h.lb,h.pa,h.pb⟩
def Qh (ρ:aG.RR) (a b:Array Keyed) (m:Nat) (c:oS):Prop:=(∃ r q,c=(some r,q)/\Res ρ a.toList b.toList r)\/∃ na nb out g k k1,c=(none,na,nb,out,g,k,k1)/\Jh ρ a b m na nb out
def K3 (ρ:aG.RR) (a b:Array Keyed) (m:Nat) (st:SortSt) (r:ForInStep oS) (st':SortSt):Prop:=Sm st st'/\match r with
 | .done c=>Qh ρ a b m c
 | .yield c=>∃ na nb out g k k1,c=(none,na,nb,out,g,k,k1)/\Jh ρ a b m na nb out
theorem MH.jT {out:Array Keyed} {na nb:Nat} (h:MH ρ a.toList b.toList out.toList.reverse na nb) (hn:0<na) (hs:na<=a.size) (hk:∀ x∈b.toList.take nb,ρ.g x<=ρ.g a[na - 1]):MH ρ a.toList b.toList (out.push a[na - 1]).toList.reverse (na - 1) nb:=by
 have:=h.jQ (na - 1) (by lia) (by rw [DV hn hs]; intro t ht x hx; rw [ai5.1 ht]; exact hk x hx)
 rw [DV hn hs] at this
 rw [aEt,List.reverse_append]
 exact this
theorem MH.jS {out:Array Keyed} {na nb:Nat} (h:MH ρ a.toList b.toList out.toList.reverse na nb) (hn:0<nb) (hs:nb<=b.size) (hk:∀ x∈a.toList.take na,ρ.g x<=ρ.g b[nb - 1]):MH ρ a.toList b.toList (out.push b[nb - 1]).toList.reverse na (nb - 1):=by
 have:=h.iD (nb - 1) (by lia) (by rw [DV hn hs]; intro t ht x hx; rw [ai5.1 ht]; exact hk x hx)
 rw [DV hn hs] at this
 rw [aEt,List.reverse_append]
 exact this
theorem M9 (out:Array Keyed) (i n:Nat):(out++(a.extract i n).reverse).toList.reverse=(a.toList.take n).drop i++out.toList.reverse:=by
 rw [aDG,List.reverse_append,adP,List.reverse_reverse,yg]
theorem M8 {bD st:SortSt} {out:Array Keyed} {na nb g k k1 m:Nat} (T:yE ρ a₀ a b) (hS:Sm bD st) (h:Jh ρ a b m na nb out) (hk:∀ x∈b.toList.take nb,ρ.g x<=ρ.g (a[na - 1]'(by have:=h.pa; have:=h.la; lia))):wpS (model prog w) A E s (CW a b na nb out g k k1) (K3 ρ a b (m+1) bD) st:=by
 obtain ⟨M,bd,la,lb,pa,pb⟩:=h
 unfold CW
 refine a5h (Zy (show na - 1<a.size by lia) ?_)
 have M2:=M.jT (by lia) la hk
 by_cases e:na - 1=0
 .rw [ajr (by simpa using e)]
  exact aod ⟨hS,.inl ⟨_,_,rfl,M2.res (.inl e)⟩⟩
 .rw [aBJ (by simpa using e)]
  have J:Jh ρ a b (m+1) (na - 1) nb (out.push a[na - 1]):=⟨M2,by lia,by lia,lb,by lia,pb⟩
  by_cases c:(decide (k<7) && decide (k1<7))=true
  .rw [ajr c]
   exact aod ⟨hS,.inr ⟨_,_,_,_,_,_,rfl,J⟩⟩
  .rw [aBJ c]
   exact aod ⟨hS,_,_,_,_,_,_,rfl,J⟩
theorem M7 {bD st:SortSt} {out:Array Keyed} {na nb g k bc m:Nat} (h0:aG.i7 prog w A s κ ρ a₀) (hk:kindOf st=κ) (T:yE ρ a₀ a b) (hS:Sm bD st) (h:Jh ρ a b m na nb out) (hq:∀ x∈a.toList.take na,ρ.g x<=ρ.g (b[nb - 1]'(by have:=h.pb; have:=h.lb; lia))):wpS (model prog w) A E s (hi2 a b na nb out g k bc) (K3 ρ a b (m+1) bD) st:=by
 obtain ⟨M,bd,la,lb,pa,pb⟩:=h
 unfold hi2
 refine a5h (Zy (show nb - 1<b.size by lia) ?_)
 have M2:=M.jS (by lia) lb hq
 by_cases e:nb - 1=1
 .rw [ajr (by simpa using e)]
  exact aod ⟨hS,.inl ⟨_,_,rfl,M2.first' T.first e⟩⟩
 .rw [aBJ (by simpa using e)]
  refine a5h (Zy (show na - 1<a.size by lia) ?_)
  refine a5h (yy hk h0 T.mb (T.ma _ (by simp)) (by lia) (by lia) (HM T.sb (by lia)) (λi C=>?_))
  dsimp only
  have fa:∀ x∈a.toList.take na,ρ.g x<=ρ.g a[na - 1]:=λx hx=>DL (by lia) la T.sa hx
  have ci:=C.le
  have M3:=M2.iD i (by lia) (λt ht x hx=>a8o (fa x hx) (C.uw ht))
  rw [← M9] at M3
  have hi:∀ x∈b.toList.take i,ρ.g x<=ρ.g a[na - 1]:=λx hx=>C.zR hx
  by_cases c:nb - 1 - i > 0
  .rw [ajr c]
   by_cases e2:i=1
   .rw [ajr (by simpa using e2)]
    exact aod ⟨hS,.inl ⟨_,_,rfl,M3.first' T.first e2⟩⟩
   .rw [aBJ (by simpa using e2)]
    by_cases e3:i=0
    .rw [ajr (by simpa using e3)]
     exact aod ⟨hS,.inl ⟨_,_,rfl,M3.res (.inr e3)⟩⟩
    .rw [aBJ (by simpa using e3)]
     exact M8 T hS ⟨M3,by lia,la,by lia,pa,by lia⟩ hi
  .rw [aBJ c]
   have e3:i=nb - 1:=by lia
   subst e3
   exact M8 T hS ⟨M2,by lia,la,by lia,pa,by lia⟩ hi
theorem U7 {bD st:SortSt} {out:Array Keyed} {na nb g ac bc m:Nat} (h0:aG.i7 prog w A s κ ρ a₀) (hk:kindOf st=κ) (T:yE ρ a₀ a b) (hS:Sm bD st) (h:Jh ρ a b m na nb out):wpS (model prog w) A E s (hi1 a b na nb out g ac bc) (K3 ρ a b (m+1) bD) st:=by
 obtain ⟨M,bd,la,lb,pa,pb⟩:=h
 unfold hi1
 refine a5h (Dv λst1 vV=>?_)
 have hk1:kindOf st1=κ:=vV.1.trans hk
 have pA:=hS.trans vV
 refine a5h (Zy (show nb - 1<b.size by lia) ?_)
 refine a5h (yy hk1 h0 T.ma (T.mb _ (by simp)) (by lia) (by lia) (HM T.sa la) (λi C=>?_))
 dsimp only
 have fb:∀ x∈b.toList.take nb,ρ.g x<=ρ.g b[nb - 1]:=λx hx=>DL (by lia) lb T.sb hx
 have ci:=C.le
 have M3:=M.jQ i ci (λt ht x hx=>a8o (fb x hx) (C.uw ht))
 rw [← M9] at M3
 have hi:∀ x∈a.toList.take i,ρ.g x<=ρ.g b[nb - 1]:=λx hx=>C.zR hx
 by_cases c:na - i > 0
 .rw [ajr c]
  by_cases e2:i=0
  .rw [ajr (by simpa using e2)]
   exact aod ⟨pA,.inl ⟨_,_,rfl,M3.res (.inl e2)⟩⟩
  .rw [aBJ (by simpa using e2)]
   exact M7 h0 hk1 T pA ⟨M3,by lia,by lia,lb,by lia,pb⟩ hi
 .rw [aBJ c]
  have e3:i=na:=by lia
  subst e3
  exact M7 h0 hk1 T pA ⟨M,by lia,la,lb,pa,pb⟩ hi
def Qi (ρ:aG.RR) (a b:Array Keyed) (m:Nat) (c:tO):Prop:=(∃ r q,c=(some r,q)/\Res ρ a.toList b.toList r)\/∃ na nb out k k1,c=(none,na,nb,out,k,k1)/\Jh ρ a b m na nb out
theorem U6 {st:SortSt} {out:Array Keyed} {mg na nb ac bc m:Nat} (h0:aG.i7 prog w A s κ ρ a₀) (hk:kindOf st=κ) (T:yE ρ a₀ a b) (h:Jh ρ a b m na nb out):wpS (model prog w) A E s (CV a b mg (none,na,nb,out,ac,bc)) (λr st'=>st'=st/\match r with
  | .done c=>Qi ρ a b (m+1) c
  | .yield c=>∃ na nb out k k1,c=(none,na,nb,out,k,k1)/\Jh ρ a b (m+1) na nb out) st:=by
 obtain ⟨M,bd,la,lb,pa,pb⟩:=h
 have fa:∀ x∈a.toList.take na,ρ.g x<=ρ.g a[na - 1]:=λx hx=>DL (by lia) la T.sa hx
 have fb:∀ x∈b.toList.take nb,ρ.g x<=ρ.g b[nb - 1]:=λx hx=>DL (by lia) lb T.sb hx
 have ha:na - 1<a.size:=by lia
 have hb:nb - 1<b.size:=by lia
 unfold CV
 dsimp only
 refine a5h (Zy hb (a5h (Zy ha (a5h (lu hk h0 (T.mb _ (by simp)) (T.ma _ (by simp)) ?_)))))
 dsimp only
 by_cases c:ρ.g b[nb - 1]<ρ.g a[na - 1]
 .rw [an3 c,ajr rfl]
  refine a5h (Zy ha ?_)
  have M2:=M.jT (by lia) la (λx hx=>by have:=fb x hx; lia)
  by_cases e:na - 1=0
  .rw [ajr (by simpa using e)]
   exact aod ⟨rfl,.inl ⟨_,_,rfl,M2.res (.inl e)⟩⟩
  .rw [aBJ (by simpa using e)]
   have J:Jh ρ a b (m+1) (na - 1) nb (out.push a[na - 1]):=⟨M2,by lia,by lia,lb,by lia,pb⟩
   by_cases c2:ac+1 ≥ mg
   .rw [ajr c2]
    exact aod ⟨rfl,.inr ⟨_,_,_,_,_,rfl,J⟩⟩
   .rw [aBJ c2]
    exact aod ⟨rfl,_,_,_,_,_,rfl,J⟩
 .rw [ba7 c,aBJ (by simp)]
  refine a5h (Zy hb ?_)
  have M2:=M.jS (by lia) lb (λx hx=>by have:=fa x hx; lia)
  by_cases e:nb - 1=1
  .rw [ajr (by simpa using e)]
   exact aod ⟨rfl,.inl ⟨_,_,rfl,M2.first' T.first e⟩⟩
  .rw [aBJ (by simpa using e)]
   have J:Jh ρ a b (m+1) na (nb - 1) (out.push b[nb - 1]):=⟨M2,by lia,la,by lia,pa,by lia⟩
   by_cases c2:bc+1 ≥ mg
   .rw [ajr c2]
    exact aod ⟨rfl,.inr ⟨_,_,_,_,_,rfl,J⟩⟩
   .rw [aBJ c2]
    exact aod ⟨rfl,_,_,_,_,_,rfl,J⟩
theorem U5 {st:SortSt} {out:Array Keyed} {na nb g m:Nat} (h0:aG.i7 prog w A s κ ρ a₀) (hk:kindOf st=κ) (T:yE ρ a₀ a b) (h:Jh ρ a b m na nb out):wpS (model prog w) A E s (CU a b (none,na,nb,out,g)) (λr st'=>Sm st st'/\match r with
  | .done c=>∃ r q,c=(some r,q)/\Res ρ a.toList b.toList r
  | .yield c=>∃ na nb out g,c=(none,na,nb,out,g)/\Jh ρ a b (m+1) na nb out) st:=by
 have pos:0<a.size+b.size:=by have:=h.la; have:=h.pa; lia
 unfold CU
 dsimp only
 refine a5h (axG (aAz (I:=λx c st2=>st2=st/\∃ na nb out k k1,c=(none,na,nb,out,k,k1)/\Jh ρ a b (m+x) na nb out) (Q:=λc st2=>st2=st/\Qi ρ a b (m+1) c) ?turn ?last ?first) ?after)
 case first=>exact ⟨rfl,_,_,_,_,_,rfl,h⟩
 case last =>
  rintro c st2 ⟨rfl,na,nb,out,k,k1,rfl,J⟩
  exact ⟨rfl,.inr ⟨_,_,_,_,_,rfl,J.weak (by lia)⟩⟩
 case turn =>
  rintro x c st2 _ hx ⟨rfl,na,nb,out,k,k1,rfl,J⟩
  refine axG (U6 h0 hk T J) ?_
  rintro r st3 ⟨rfl,hr⟩
  cases r with
  | done c =>
   refine ⟨rfl,?_⟩
   rcases hr with hr | ⟨na,nb,out,k,k1,rfl,J⟩
   .exact .inl hr
   .exact .inr ⟨_,_,_,_,_,rfl,J.weak (by lia)⟩
  | yield c=>exact ⟨rfl,hr⟩
 case after =>
  rintro c st2 ⟨rfl,hc⟩
  rcases hc with ⟨r,q,rfl,R⟩ | ⟨na,nb,out,k,k1,rfl,J⟩
  .exact aod ⟨Sm.refl _,_,_,rfl,R⟩
  .dsimp only
   refine a5h (wpS_lift (ag2 ⟨rfl,?_⟩))
   refine a5h (axG (aAz (I:=λx c st3=>Sm st2 st3/\∃ na nb out g k k1,c=(none,na,nb,out,g,k,k1)/\Jh ρ a b (m+x) na nb out) (Q:=λc st3=>Sm st2 st3/\Qh ρ a b (m+1) c) ?jturn ?jlast ?jfirst) ?jafter)
   case jfirst=>exact ⟨Sm.refl _,_,_,_,_,_,_,rfl,J.weak (by lia)⟩
   case jlast =>
    rintro c st3 ⟨hS,na,nb,out,g,k,k1,rfl,J⟩
    exact ⟨hS,.inr ⟨_,_,_,_,_,_,rfl,J.weak (by lia)⟩⟩
   case jturn =>
    rintro x c st3 _ hx ⟨hS,na,nb,out,g,k,k1,rfl,J⟩
    have GC:kindOf st3=κ:=hS.1.trans hk
    dsimp only
    rw [show (if g > 1 then hi1 a b na nb out (g - 1) k k1 else hi1 a b na nb out g k k1)=hi1 a b na nb out (if g > 1 then g - 1 else g) k k1 by split <;> rfl]
    refine axG (U7 h0 GC T hS J) ?_
    rintro r cU ⟨qz,hr⟩
    cases r with
    | done c =>
     refine ⟨qz,?_⟩
     rcases hr with hr | ⟨na,nb,out,g,k,k1,rfl,J⟩
     .exact .inl hr
     .exact .inr ⟨_,_,_,_,_,_,rfl,J.weak (by lia)⟩
    | yield c=>exact ⟨qz,hr⟩
   case jafter =>
    rintro c st3 ⟨hS,hc⟩
    rcases hc with ⟨r,q,rfl,R⟩ | ⟨na,nb,out,g,k,k1,rfl,J⟩
    .exact aod ⟨hS,_,_,rfl,R⟩
    .refine a5h (Dv λcU qz=>aod ⟨hS.trans qz,_,_,_,_,rfl,J⟩)
theorem Yd {st:SortSt} {Q:Array Keyed->SortSt->Prop} (h0:aG.i7 prog w A s κ ρ a₀) (hk:kindOf st=κ) (T:yE ρ a₀ a b) (ha:0<a.size) (hb:0<b.size) (hf:∀ x∈b.toList,ρ.g x<=ρ.g a[a.size - 1])
  (h:∀ r st',Sm st st'->Res ρ a.toList b.toList r->Q r st'):wpS (model prog w) A E s (IQ a b) Q st:=by
 refine Ye _ _ ?_
 refine a5h (wpS_lift (ag2 ⟨rfl,?_⟩))
 refine a5h (Zy (show a.size - 1<a.size by lia) ?_)
 have ta:a.toList.take a.size=a.toList:=bbt (by simp)
 have tb:b.toList.take b.size=b.toList:=bbt (by simp)
 have M0:MH ρ a.toList b.toList (#[]:Array Keyed).toList.reverse a.size b.size:=⟨by rw [ta,tb]; simp,by rw [ta]; simpa using T.sa,by rw [tb]; simpa using T.sb⟩
 have M1:MH ρ a.toList b.toList (#[a[a.size - 1]]:Array Keyed).toList.reverse (a.size - 1) b.size:=M0.jT ha (a17 _) (λx hx=>hf x (by rw [tb] at hx; exact hx))
 by_cases e1:a.size - 1=0
 .rw [ajr (by simpa using e1)]
  exact aod (h _ _ (Sm.refl _) (M1.res (.inl e1)))
 .rw [aBJ (by simpa using e1)]
  by_cases e2:b.size=1
  .rw [ajr (by simpa using e2)]
   exact aod (h _ _ (Sm.refl _) (M1.first' T.first e2))
  .rw [aBJ (by simpa using e2)]
   refine a5h (baX ?_)
   refine a5h (axG (aAz (I:=λx c st2=>Sm st st2/\∃ na nb out g,c=(none,na,nb,out,g)/\Jh ρ a b (x+1) na nb out) (Q:=λc st2=>Sm st st2/\∃ r q,c=(some r,q)/\Res ρ a.toList b.toList r) ?turn ?last ?first) ?after)
   case first=>exact ⟨Sm.refl _,_,_,_,_,rfl,M1,by lia,by lia,by lia,by lia,by lia⟩
   case last =>
    rintro c st2 ⟨_,na,nb,out,g,rfl,J⟩
    have:=J.bd
    have:=J.pa
    lia
   case turn =>
    rintro x c st2 _ hx ⟨hS,na,nb,out,g,rfl,J⟩
    refine axG (U5 h0 (hS.1.trans hk) T J) ?_
    rintro r st3 ⟨vU,hr⟩
    cases r with
    | done c=>exact ⟨hS.trans vU,hr⟩
    | yield c=>exact ⟨hS.trans vU,hr⟩
   case after =>
    rintro c st2 ⟨hS,r,q,rfl,R⟩
    exact aod (h r st2 hS R)
end
end L2.tG
set_option maxHeartbeats 400000
namespace L2.tG
open PySem PySem.Spec PyProof.Rows
def IP:Nat->StateT SortSt Sem Bool:=sortPriv% PySem.Builtin.mergeAt
def layAt (arr:Array Keyed) (at_:Nat) (l:List Keyed) (k:Nat):Array Keyed:=(l.zipIdx k).foldl (λa (p,j)=>a.setIfInBounds (at_+j) p) arr
theorem D4 (arr:Array Keyed) (at_:Nat) (l:List Keyed) (k i:Nat) (h:at_+k+l.length<=arr.size):(layAt arr at_ l k)[i]?=if at_+k<=i/\i<at_+k+l.length then l[i - (at_+k)]? else arr[i]?:=by
 induction l generalizing arr k with
 | nil=>rw [aBJ (by simp)]; rfl
 | cons x l ih =>
  have e:layAt arr at_ (x :: l) k=layAt (arr.setIfInBounds (at_+k) x) at_ l (k+1):=by
   unfold layAt
   rw [List.zipIdx_cons,List.foldl_cons]
  simp only [am4] at h ⊢
  rw [e,ih (arr.setIfInBounds (at_+k) x) (k+1) (by simp; lia)]
  by_cases c:at_+k=i
  .subst c
   rw [aBJ (by lia),ajr (by lia),a1l,Array.getElem?_setIfInBounds_self_of_lt (by lia)]
   rfl
  .by_cases c2:at_+(k+1)<=i/\i<at_+(k+1)+l.length
   .rw [ajr c2,ajr (by lia),show i - (at_+k)=(i - (at_+(k+1)))+1 by lia,aFs]
   .rw [aBJ c2,aBJ (by lia),Array.getElem?_setIfInBounds_ne c]
theorem YK (arr:Array Keyed) (at_:Nat) (l:List Keyed) (h:at_+l.length<=arr.size):(layAt arr at_ l 0).toList=arr.toList.take at_++(l++arr.toList.drop (at_+l.length)):=by
 refine aTT λi=>?_
 rw [apT,D4 arr at_ l 0 i (by lia),Nat.add_zero]
 have hl:(arr.toList.take at_).length=at_:=by rw [aVk,aUD]; lia
 by_cases c1:i<at_
 .rw [aBJ (by lia),aRC (by lia),List.getElem?_take_of_lt c1,apT]
 .rw [aUi (by lia),hl]
  by_cases c2:i<at_+l.length
  .rw [ajr (by lia),aRC (by lia)]
  .rw [aBJ (by lia),aUi (by lia),getElem?_drop,apT]
   congr 1
   lia
theorem XR {arr:Array Keyed} {at_ n:Nat} {l:List Keyed} (h:at_+n<=arr.size) (p:l.Perm (arr.extract at_ (at_+n)).toList):(layAt arr at_ l 0).Perm arr:=by
 rw [Im] at p
 have e:l.length=n:=by rw [p.length_eq,aVk,aYp,aUD]; lia
 refine aGk.2 ?_
 rw [YK arr at_ l (by lia),e]
 have d:arr.toList=arr.toList.take at_++((arr.toList.drop at_).take n++arr.toList.drop (at_+n)):=by
  rw [← drop_drop,awL,awL]
 conv=>rhs; rw [d]
 exact (p.append_right _).append_left _
section
variable {prog:Program} {w:World} {A:Around} {E:Value->Shared->Prop} {s:Shared} {a₀:Array Keyed} {κ:SortKind} {ρ:aG.RR}
theorem pw_ex {arr:Array Keyed} {i j:Nat} (hj:j<=arr.size) (h:e8 ρ arr i j):(arr.extract i j).toList.Pairwise (Lk ρ):=by
 refine aiN.2 λx y hx hy hxy=>?_
 simp only [aUD,Array.size_extract] at hx hy
 have:=h (i+x) (i+y) (by lia) (by lia) (by lia)
 rw [bC (show i+x<arr.size by lia),bC (show i+y<arr.size by lia)] at this
 simpa [Lk] using this
theorem M6 {arr:Array Keyed} {i j:Nat} {x:Keyed} (h:x∈(arr.extract i j).toList):∃ k,i<=k/\k<j/\k<arr.size/\ρ.g x=aG.Kg ρ arr k/\x∈arr.toList:=by
 rw [yg] at h
 obtain ⟨k,h1,h2,h3,rfl⟩:=Il h
 exact ⟨k,h1,h2,h3,(bC h3).symm,by simp⟩
theorem HK {arr:Array Keyed} {at_:Nat} {l:List Keyed} (h:at_+l.length<=arr.size) {i:Nat} (h1:at_<=i) (h2:i<at_+l.length):aG.Kg ρ (layAt arr at_ l 0) i=ρ.g (l[i - at_]'(by lia)):=by
 have:=D4 arr at_ l 0 i (by lia)
 rw [ajr (by lia),Nat.add_zero,adk (by lia)] at this
 unfold aG.Kg
 rw [this]
 rfl
theorem yf {arr:Array Keyed} {at_:Nat} {l:List Keyed} (h:at_+l.length<=arr.size) {i:Nat} (h1:i<at_\/at_+l.length<=i):aG.Kg ρ (layAt arr at_ l 0) i=aG.Kg ρ arr i:=by
 have:=D4 arr at_ l 0 i (by lia)
 rw [aBJ (by lia)] at this
 unfold aG.Kg
 rw [this]
end
end L2.tG
set_option maxHeartbeats 1000000
namespace L2.tG
open PySem PySem.Spec PyProof.Rows
section
variable {prog:Program} {w:World} {A:Around} {E:Value->Shared->Prop} {s:Shared} {a₀:Array Keyed} {κ:SortKind} {ρ:aG.RR}
theorem VC {arr:Array Keyed} {u lo hi:Nat} {r:List Keyed} (h:u+r.length<=arr.size) (hr:r.Pairwise (Lk ρ)) (hne:0<r.length) (hl:e8 ρ arr lo u) (hh:e8 ρ arr (u+r.length) hi)
  (bl:∀ i,lo<=i->i<u->∀ x∈r,aG.Kg ρ arr i<=ρ.g x) (bh:∀ i,u+r.length<=i->i<hi->∀ x∈r,ρ.g x<=aG.Kg ρ arr i):e8 ρ (layAt arr u r 0) lo hi:=by
 intro i j hi1 hij hj
 by_cases a1:i<u
 .rw [yf h (.inl a1)]
  by_cases b1:j<u
  .rw [yf h (.inl b1)]
   exact hl i j hi1 hij b1
  .by_cases b2:j<u+r.length
   .rw [HK h (by lia) b2]
    exact bl i hi1 a1 _ (a3i _)
   .rw [yf h (.inr (by lia))]
    exact a8o (bl i hi1 a1 (r[0]'hne) (a3i _)) (bh j (by lia) hj _ (a3i _))
 .by_cases a2:i<u+r.length
  .rw [HK h (by lia) a2]
   by_cases b2:j<u+r.length
   .rw [HK h (by lia) b2]
    by_cases e:i=j
    .subst e; exact aKB _
    .exact aiN.1 hr (i - u) (j - u) (by lia) (by lia) (by lia)
   .rw [yf h (.inr (by lia))]
    exact bh j (by lia) hj _ (a3i _)
  .rw [yf h (.inr (by lia)),yf h (.inr (by lia))]
   exact hh i j (by lia) hij hj
theorem Cut.vI {left:Bool} {kv:Int} {arr:Array Keyed} {base n k:Nat} (h:Cut ρ left kv arr base n k) {i:Nat} (h1:base<=i) (h2:i<base+k):aG.Kg ρ arr i<=kv:=by
 have:=h.lo (i - base) (by lia)
 unfold Bd at this
 rw [show base+(i - base)=i by lia] at this
 cases left with
 | true=>simp only [aSf,aDC] at this; lia
 | false=>simp only [aXZ,aE9,aoH,a8L] at this; lia
theorem Cut.qw {left:Bool} {kv:Int} {arr:Array Keyed} {base n k:Nat} (h:Cut ρ left kv arr base n k) {i:Nat} (h1:base+k<=i) (h2:i<base+n):kv<=aG.Kg ρ arr i:=by
 have:=h.hi (i - base) (by lia) (by lia)
 unfold Bd at this
 rw [show base+(i - base)=i by lia] at this
 cases left with
 | true=>simp only [aSf,a8L] at this; lia
 | false=>simp only [aXZ,aE9,Bool.not_eq_false',aDC] at this; lia
theorem VB {st st':SortSt} {Q:PUnit->SortSt->Prop} (h:Q ⟨⟩ st'):wpS (model prog w) A E s (set st') Q st:=aCh (f:=λ_=>st') h
theorem XQ {st:SortSt} {i sa na p sb nb q:Nat} {Q:Bool->SortSt->Prop} (h0:aG.i7 prog w A s κ ρ a₀) (hk:kindOf st=κ) (ha:∀ x∈(arrOf st).toList,x∈a₀.toList) (hfl:failedOf st=none)
  (e1:(pendingOf st)[i]?=some (sa,na,p)) (e2:(pendingOf st)[i+1]?=some (sb,nb,q)) (jC:sb=sa+na) (pa:0<na) (pb:0<nb) (hsz:sb+nb<=(arrOf st).size) (s1:e8 ρ (arrOf st) sa (sa+na)) (s2:e8 ρ (arrOf st) sb (sb+nb))
  (h:∀ st',kindOf st'=κ->failedOf st'=none->(arrOf st').Perm (arrOf st)->pendingOf st'=((pendingOf st).setIfInBounds i (sa,na+nb,p)).eraseIdxIfInBounds (i+1)->e8 ρ (arrOf st') sa (sb+nb) ->
   (∀ j,j<sa\/sb+nb<=j->(arrOf st')[j]?=(arrOf st)[j]?)->Q true st'):wpS (model prog w) A E s (IP i) Q st:=by
 show wpAny (model prog w) A (IP i st) _ E s
 wp_delta
 wp_delta
 refine qH rfl ?_
 refine a5h (baX ?_)
 rw [e1,e2]
 refine a5h (VB (st':=SortSt.mk' (kindOf st) (arrOf st) (((pendingOf st).setIfInBounds i (sa,na+nb,p)).eraseIdxIfInBounds (i+1)) (gallopOf st) (failedOf st)) ?_)
 generalize sH:SortSt.mk' (kindOf st) (arrOf st) (((pendingOf st).setIfInBounds i (sa,na+nb,p)).eraseIdxIfInBounds (i+1)) (gallopOf st) (failedOf st)=st1
 have k1:kindOf st1=κ:=by rw [← sH]; exact hk
 have f1:failedOf st1=none:=by rw [← sH]; exact hfl
 have a1:arrOf st1=arrOf st:=by rw [← sH]
 have p1:pendingOf st1=((pendingOf st).setIfInBounds i (sa,na+nb,p)).eraseIdxIfInBounds (i+1):=by rw [← sH]
 have hb0:sb<(arrOf st).size:=by lia
 refine a5h (Zy hb0 ?_)
 refine a5h (yy k1 h0 ha (ha _ (by simp)) (show sa+na<=(arrOf st).size by lia) pa s1 (λk C1=>?_))
 have c1:=C1.le
 rw [← bC hb0] at C1
 dsimp only
 have whole:(∀ x y,sa<=x->x<sb->sb<=y->y<sb+nb->aG.Kg ρ (arrOf st) x<=aG.Kg ρ (arrOf st) y)->e8 ρ (arrOf st) sa (sb+nb):=λhc x y hx hxy hy=>by
  by_cases u:y<sb
  .exact s1 x y hx hxy (by lia)
  .by_cases v:x<sb
   .exact hc x y hx v (by lia) hy
   .exact s2 x y (by lia) hxy hy
 by_cases z:na - k=0
 .rw [ajr (by simpa using z)]
  refine aod (h st1 k1 f1 (by rw [a1]) p1 ?_ (λj _=>by rw [a1]))
  rw [a1]
  refine whole λx y hx Gq hy Gn=>?_
  exact a8o (C1.vI hx (by lia)) (s2 sb y (a17 _) hy Gn)
 .rw [aBJ (by simpa using z)]
  have L6:sa+k+(na - k) - 1<(arrOf st).size:=by lia
  refine a5h (Zy L6 ?_)
  refine a5h (yy k1 h0 ha (ha _ (by simp)) (show sb+nb<=(arrOf st).size by lia) (by lia) s2 (λn2 C2=>?_))
  have c2:=C2.le
  rw [← bC L6,show sa+k+(na - k) - 1=sb - 1 by lia] at C2
  dsimp only
  by_cases z2:n2=0
  .rw [ajr (by simpa using z2)]
   refine aod (h st1 k1 f1 (by rw [a1]) p1 ?_ (λj _=>by rw [a1]))
   rw [a1]
   refine whole λx y hx Gq hy Gn=>?_
   exact a8o (s1 x (sb - 1) hx (by lia) (by lia)) (C2.qw (by lia) Gn)
  .rw [aBJ (by simpa using z2)]
   have c3:=Nat.pos_of_ne_zero z2
   have mX:∀ x∈((arrOf st).extract (sa+k) sb).toList,∃ j,sa+k<=j/\j<sb/\j<(arrOf st).size/\ρ.g x=aG.Kg ρ (arrOf st) j/\x∈(arrOf st).toList:=λx hx=>M6 hx
   have mY:∀ x∈((arrOf st).extract sb (sb+n2)).toList,∃ j,sb<=j/\j<sb+n2/\j<(arrOf st).size/\ρ.g x=aG.Kg ρ (arrOf st) j/\x∈(arrOf st).toList:=λx hx=>M6 hx
   have sX:((arrOf st).extract (sa+k) sb).toList.Pairwise (Lk ρ):=pw_ex (by lia) (λx y p q r=>s1 x y (by lia) q (by lia))
   have sY:((arrOf st).extract sb (sb+n2)).toList.Pairwise (Lk ρ):=pw_ex (by lia) (λx y p q r=>s2 x y (by lia) q (by lia))
   have zX:((arrOf st).extract (sa+k) sb).size=na - k:=by rw [Array.size_extract]; lia
   have zY:((arrOf st).extract sb (sb+n2)).size=n2:=by rw [Array.size_extract]; lia
   have low:∀ x∈((arrOf st).extract (sa+k) sb).toList,aG.Kg ρ (arrOf st) sb<=ρ.g x:=λx hx=>by
    obtain ⟨j,j1,j2,j3,e,_⟩:=mX x hx
    rw [e]
    exact C1.qw j1 (by lia)
   have high:∀ x∈((arrOf st).extract sb (sb+n2)).toList,ρ.g x<=aG.Kg ρ (arrOf st) (sb - 1):=λx hx=>by
    obtain ⟨j,j1,j2,j3,e,_⟩:=mY x hx
    rw [e]
    exact C2.vI j1 j2
   have fin:∀ r st',Sm st1 st'->Res ρ ((arrOf st).extract (sa+k) sb).toList ((arrOf st).extract sb (sb+n2)).toList r->wpS (model prog w) A E s (do
     modify λs=>SortSt.mk' (kindOf s) (layAt (arrOf s) (sa+k) r.toList 0) (pendingOf s) (gallopOf s) (failedOf s)
     return (failedOf (← get)).isNone) Q st':=by
    rintro r st' ⟨vV,pA,vU,qz⟩ ⟨rp,rs⟩
    refine a5h (aCh (a5h (baX (aod ?_))))
    have ex:((arrOf st).extract (sa+k) sb).toList++((arrOf st).extract sb (sb+n2)).toList=((arrOf st).extract (sa+k) (sa+k+(na - k+n2))).toList:=by
     rw [yg,yg,yg,drop_take,drop_take,drop_take]
     rw [show sb - (sa+k)=na - k by lia,show sb+n2 - sb=n2 by lia,show sa+k+(na - k+n2) - (sa+k)=(na - k)+n2 by lia,List.take_add,drop_drop,show sa+k+(na - k)=sb by lia]
    have len:r.toList.length=na - k+n2:=by rw [rp.length_eq,ap5,aUD,aUD,zX,zY]
    have Aa:∀ x∈r.toList,aG.Kg ρ (arrOf st) sb<=ρ.g x/\ρ.g x<=aG.Kg ρ (arrOf st) (sb - 1):=λx hx=>by
     rcases aPD.1 (rp.mem_iff.1 hx) with hx | hx
     .obtain ⟨j,j1,j2,j3,e,_⟩:=mX x hx
      exact ⟨low x hx,by rw [e]; exact s1 j (sb - 1) (by lia) (by lia) (by lia)⟩
     .obtain ⟨j,j1,j2,j3,e,_⟩:=mY x hx
      exact ⟨by rw [e]; exact s2 sb j (a17 _) j1 (by lia),high x hx⟩
    have CT:failedOf st'=none:=qz.trans f1
    show Q (failedOf st').isNone _
    rw [CT]
    refine h _ (vV.trans k1) rfl ?_ (vU.trans p1) ?_ ?_
    .show (layAt (arrOf st') (sa+k) r.toList 0).Perm (arrOf st)
     rw [pA,a1]
     exact XR (n:=na - k+n2) (by lia) (by rw [← ex]; exact rp)
    .show e8 ρ (layAt (arrOf st') (sa+k) r.toList 0) sa (sb+nb)
     rw [pA,a1]
     refine VC (by lia) rs (by lia) (λx y p q r=>s1 x y p q (by lia)) (λx y p q r=>s2 x y (by lia) q r) (λi i1 i2 x hx=>?_) (λi i1 i2 x hx=>?_)
     .exact a8o (C1.vI i1 (by lia)) (Aa x hx).1
     .exact a8o (Aa x hx).2 (C2.qw (by lia) i2)
    .intro j hj
     show (layAt (arrOf st') (sa+k) r.toList 0)[j]?=_
     rw [pA,a1,D4 _ _ _ _ _ (by lia),aBJ (by lia)]
   by_cases c:na - k<=n2
   .rw [ajr c]
    refine a5h (Yg h0 k1 ⟨λx hx=>?_,λx hx=>?_,sX,sY,λy hy x hx=>?_⟩ (show 0<((arrOf st).extract (sa+k) sb).size by lia) (show 0<((arrOf st).extract sb (sb+n2)).size by lia) (λx hx=>?_) (λr st' hS R=>fin r st' hS R))
    .obtain ⟨_,_,_,_,_,m⟩:=mX x hx; exact ha x m
    .obtain ⟨_,_,_,_,_,m⟩:=mY x hx; exact ha x m
    .rw [zX,yg,drop_drop] at hx
     obtain ⟨j,j1,j2,j3,rfl⟩:=Il hx
     have ej:j=sb - 1:=by lia
     subst ej
     rw [← bC j3]
     exact high y hy
    .rw [ar9,← bC]
     exact low x hx
   .rw [aBJ c]
    refine a5h (Yd h0 k1 ⟨λx hx=>?_,λx hx=>?_,sX,sY,λy hy x hx=>?_⟩ (show 0<((arrOf st).extract (sa+k) sb).size by lia) (show 0<((arrOf st).extract sb (sb+n2)).size by lia) (λx hx=>?_) (λr st' hS R=>fin r st' hS R))
    .obtain ⟨_,_,_,_,_,m⟩:=mX x hx; exact ha x m
    .obtain ⟨_,_,_,_,_,m⟩:=mY x hx; exact ha x m
    .obtain ⟨j,j1,j2,rfl⟩:=HL hy
     rw [ar9,← bC,show sb+j=sb by lia]
     exact low x hx
    .rw [ar9,← bC]
     have:=high x hx
     rw [show sa+k+(((arrOf st).extract (sa+k) sb).size - 1)=sb - 1 by lia]
     exact this
end
structure GP (κ:SortKind) (a₀:Array Keyed) (P:Array (Nat×Nat×Nat)) (st:SortSt):Prop where
 perm:(arrOf st).Perm a₀
 kn:kindOf st=κ
 failed:failedOf st=none
 pend:pendingOf st=P
section
variable {prog:Program} {w:World} {A:Around} {E:Value->Shared->Prop} {s:Shared} {a₀:Array Keyed} {κ:SortKind} {ρ:aG.RR} {P:Array (Nat×Nat×Nat)}
theorem GP.size {st:SortSt} (h:GP κ a₀ P st):(arrOf st).size=a₀.size:=h.perm.size_eq
theorem GP.setArr {st:SortSt} {xs:Array Keyed} (h:GP κ a₀ P st) (hp:xs.Perm (arrOf st)):GP κ a₀ P (setArr st xs):=⟨hp.trans h.perm,h.kn,h.failed,h.pend⟩
theorem GP.mem {st:SortSt} (h:GP κ a₀ P st):∀ x∈(arrOf st).toList,x∈a₀.toList:=λx hx=>(aGk.mp h.perm).mem_iff.mp hx
theorem AZ {st:SortSt} {i j:Nat} {Q:Option Bool->SortSt->Prop} (hB:GP κ a₀ P st) (h0:aG.i7 prog w A s κ ρ a₀) (hi:i<a₀.size) (hj:j<a₀.size)
  (h:Q (some (decide (aG.Kg ρ (arrOf st) i<aG.Kg ρ (arrOf st) j))) st):wpS (model prog w) A E s (ltAt' i j) Q st:=by
 have hi':i<(arrOf st).size:=by rw [hB.size]; exact hi
 have hj':j<(arrOf st).size:=by rw [hB.size]; exact hj
 rw [bC hi',bC hj'] at h
 rw [ltAt'_eq]
 refine a5h (baX ?_)
 refine a5h (Zy hi' (a5h (Zy hj' ?_)))
 exact lu hB.kn h0 (hB.mem _ (by simp)) (hB.mem _ (by simp)) h
theorem VA {st:SortSt} {lo n ok:Nat} {Q:Bool->SortSt->Prop} (h0:aG.i7 prog w A s κ ρ a₀) (hn:lo+n<=a₀.size) (hok:ok<=n) (T4:1<=ok) (hB:GP κ a₀ P st) (hs:e8 ρ (arrOf st) lo (lo+ok))
  (h:∀ st',GP κ a₀ P st'->e8 ρ (arrOf st') lo (lo+n)->(∀ j,j<lo\/lo+n<=j->(arrOf st')[j]?=(arrOf st)[j]?)->Q true st'):wpS (model prog w) A E s (binarySort' lo n ok) Q st:=by
 rw [binarySort'_eq]
 refine a5h (axG (aAz (I:=λk c st1=>c=(none,())/\GP κ a₀ P st1/\e8 ρ (arrOf st1) lo (lo+min k n)/\∀ j,j<lo\/lo+n<=j->(arrOf st1)[j]?=(arrOf st)[j]?)
  (Q:=λc st1=>c=(none,())/\GP κ a₀ P st1/\e8 ρ (arrOf st1) lo (lo+n)/\∀ j,j<lo\/lo+n<=j->(arrOf st1)[j]?=(arrOf st)[j]?) ?turn ?last ?first) ?after)
 case after =>
  rintro c st1 ⟨rfl,b1,i1,o1⟩
  exact aod (h st1 b1 i1 o1)
 case first =>
  rw [show min (max ok 1) n=ok by lia]
  exact ⟨rfl,hB,hs,λ_ _=>rfl⟩
 case last =>
  rintro c st1 ⟨hc,b1,i1,o1⟩
  rw [show min (max (max ok 1) n) n=n by lia] at i1
  exact ⟨hc,b1,i1,o1⟩
 case turn =>
  rintro k c st1 TV hkn ⟨rfl,b1,i1,o1⟩
  rw [show min k n=k by lia] at i1
  have hk:lo+k<a₀.size:=by lia
  have sz:=b1.size
  refine a5h (axG (aAz (I:=λx c st2=>st2=st1/\∃ l r,c=(none,l,r)/\l<=r/\r<=k/\r - l<=k - x/\(∀ i,i<l->aG.Kg ρ (arrOf st1) (lo+i)<=aG.Kg ρ (arrOf st1) (lo+k))/\(∀ i,r<=i->i<k->aG.Kg ρ (arrOf st1) (lo+k)<=aG.Kg ρ (arrOf st1) (lo+i)))
   (Q:=λc st2=>st2=st1/\∃ l r,c=(none,l,r)/\l<=k/\(∀ i,i<l->aG.Kg ρ (arrOf st1) (lo+i)<=aG.Kg ρ (arrOf st1) (lo+k))/\(∀ i,l<=i->i<k->aG.Kg ρ (arrOf st1) (lo+k)<=aG.Kg ρ (arrOf st1) (lo+i))) ?iturn ?ilast ?ifirst) ?iafter)
  case ifirst=>exact ⟨rfl,0,k,rfl,by lia,by lia,by lia,λi hi=>absurd hi (by lia),λi p q=>absurd q (by lia)⟩
  case ilast =>
   rintro c st2 ⟨rfl,l,r,rfl,hlr,hrk,hm,u1,u2⟩
   have e:l=r:=by lia
   subst e
   exact ⟨rfl,l,l,rfl,hrk,u1,u2⟩
  case iturn =>
   rintro x c st2 _ hxk ⟨rfl,l,r,rfl,hlr,hrk,hm,u1,u2⟩
   dsimp only
   by_cases hge:l ≥ r
   .rw [ajr hge]
    have e:l=r:=by lia
    subst e
    exact aod ⟨rfl,l,l,rfl,hrk,u1,u2⟩
   .rw [aBJ hge]
    refine a5h (AZ b1 h0 hk (by lia) ?_)
    by_cases c:aG.Kg ρ (arrOf st2) (lo+k)<aG.Kg ρ (arrOf st2) (lo+(l+r) / 2)
    .simp only [c,avW,aSf]
     refine aod ⟨rfl,l,(l+r) / 2,rfl,by lia,by lia,by lia,u1,λi p q=>?_⟩
     have:=i1 (lo+(l+r) / 2) (lo+i) (by lia) (by lia) (by lia)
     lia
    .simp only [c,aLy,aXZ,aE9]
     refine aod ⟨rfl,(l+r) / 2+1,r,rfl,by lia,by lia,by lia,λi p=>?_,u2⟩
     have:=i1 (lo+i) (lo+(l+r) / 2) (by lia) (by lia) (by lia)
     lia
  case iafter =>
   rintro c st2 ⟨rfl,l,r,rfl,hlk,u1,u2⟩
   show wpS _ _ _ _ (do moveDown' (lo+k) (lo+l); pure (ForInStep.yield (none,()))) _ _
   rw [moveDown'_eq]
   have hks:lo+k<(arrOf st2).size:=by lia
   refine a5h (aCh (aod ⟨rfl,b1.setArr (bubble_perm _ _ _),?_,?_⟩))
   .rw [show min (k+1) n=k+1 by lia]
    intro i j hi hij hj
    show aG.Kg ρ (bubble (arrOf st2) (lo+k) (lo+k - (lo+l))) i<=aG.Kg ρ (bubble (arrOf st2) (lo+k) (lo+k - (lo+l))) j
    rw [aG.j6 hks (by lia),aG.j6 hks (by lia),show lo+k - (lo+k - (lo+l))=lo+l by lia]
    have U1:∀ i,lo<=i->i<lo+l->aG.Kg ρ (arrOf st2) i<=aG.Kg ρ (arrOf st2) (lo+k):=λi p q=>by
     have:=u1 (i - lo) (by lia)
     rw [show lo+(i - lo)=i by lia] at this
     exact this
    have U2:∀ i,lo+l<=i->i<lo+k->aG.Kg ρ (arrOf st2) (lo+k)<=aG.Kg ρ (arrOf st2) i:=λi p q=>by
     have:=u2 (i - lo) (by lia) (by lia)
     rw [show lo+(i - lo)=i by lia] at this
     exact this
    by_cases a1:i=lo+l
    .rw [ajr a1]
     by_cases b2:j=lo+l
     .rw [ajr b2]; exact aKB _
     .rw [aBJ b2,ajr (by lia)]
      exact U2 _ (by lia) (by lia)
    .rw [aBJ a1]
     by_cases a2:j=lo+l
     .rw [ajr a2,aBJ (by lia)]
      exact U1 _ (by lia) (by lia)
     .rw [aBJ a2]
      by_cases a3:lo+l<i/\i<=lo+k
      .rw [ajr a3,ajr (by lia)]
       exact i1 _ _ (by lia) (by lia) (by lia)
      .rw [aBJ a3]
       by_cases a4:lo+l<j/\j<=lo+k
       .rw [ajr a4]
        exact i1 _ _ (by lia) (by lia) (by lia)
       .rw [aBJ a4]
        exact i1 _ _ (by lia) (by lia) (by lia)
   .intro j hj
    show (bubble (arrOf st2) (lo+k) (lo+k - (lo+l)))[j]?=_
    rw [getElem?_bubble hks _ (by lia),aBJ (by lia),aBJ (by lia)]
    exact o1 j hj
end
abbrev AS:=Option (Option Nat)×Nat
abbrev DS:=Option (Option Nat)×Nat×Nat
def qI (lo a nrem:Nat):StateT SortSt Sem AS:=forIn [a:nrem] ((none,a):AS) λ_ c=>do
 let x ← ltAt' (lo+c.2) (lo+c.2 - 1)
 match x with
 | some y=>if y=true then pure (.done (none,c.2)) else pure (.yield (none,c.2+1))
 | _=>pure (.done (some none,c.2))
def kT (lo n nrem:Nat):StateT SortSt Sem (Option Nat):=do
 reverseSlice' lo (lo+n)
 let c ← qI lo n nrem
 match c.1 with
 | some r=>pure r
 | none=>pure (some c.2)
def n6 (lo n nrem:Nat):StateT SortSt Sem DS:=forIn [n:nrem] ((none,n,0):DS) λ_ c=>do
 let x ← ltAt' (lo+c.2.1) (lo+c.2.1 - 1)
 match x with
 | some y=>if y=true then (if c.2.2 > 0 then (do
    reverseSlice' (lo+c.2.1 - (c.2.2+1)) (lo+c.2.1)
    pure (.yield (none,c.2.1+1,0))) else pure (.yield (none,c.2.1+1,0))) else (do
   let x ← ltAt' (lo+c.2.1 - 1) (lo+c.2.1)
   match x with
   | some z=>if z=true then pure (.done (none,c.2.1,c.2.2)) else pure (.yield (none,c.2.1+1,c.2.2+1))
   | _=>pure (.done (some none,c.2.1,c.2.2)))
 | _=>pure (.done (some none,c.2.1,c.2.2))
def kZ (lo n nrem:Nat):StateT SortSt Sem (Option Nat):=do
 liftM (rule "list.sort.descending-run")
 let c ← n6 lo (n+1) nrem
 match c.1 with
 | some r=>pure r
 | none=>if c.2.2 > 0 then (do
   reverseSlice' (lo+c.2.1 - (c.2.2+1)) (lo+c.2.1)
   kT lo c.2.1 nrem) else kT lo c.2.1 nrem
theorem XW (lo nrem:Nat):countRun' lo nrem=(do
  let c ← qI lo 1 nrem
  match c.1 with
  | some r=>pure r
  | none=>if (c.2 == nrem)=true then pure (some c.2) else if c.2 > 1 then (do
    let x ← ltAt' lo (lo+c.2 - 1)
    match x with
    | some y=>if y=true then pure (some c.2) else (do
      reverseSlice' lo (lo+c.2)
      kZ lo c.2 nrem)
    | _=>pure none) else kZ lo c.2 nrem):=by
 rw [countRun'_eq]
 unfold kZ kT n6 qI
 have tl:∀ {f g:AS->StateT SortSt Sem (Option Nat)} {m:StateT SortSt Sem AS},(∀ r n,f (r,n)=g (r,n))->(m >>= f)=(m >>= g):=λh=>aOy _ (funext λ⟨r,n⟩=>h r n)
 have td:∀ {f g:DS->StateT SortSt Sem (Option Nat)} {m:StateT SortSt Sem DS},(∀ r n q,f (r,n,q)=g (r,n,q))->(m >>= f)=(m >>= g):=λh=>aOy _ (funext λ⟨r,n,q⟩=>h r n q)
 have bc:∀ {α:Type} {f g:α->StateT SortSt Sem (Option Nat)} {m:StateT SortSt Sem α},(∀ x,f x=g x)->(m >>= f)=(m >>= g):=λh=>aOy _ (funext h)
 refine tl λr n=>?_
 cases r with
 | some r=>rfl
 | none =>
  dsimp only
  split
  .rfl
  .split
   .refine bc λx=>?_
    cases x with
    | none=>rfl
    | some y =>
     dsimp only
     split
     .rfl
     .refine bc λ_=>bc λ_=>td λr n q=>?_
      cases r with
      | some r=>rfl
      | none =>
       dsimp only
       split
       .exact bc λ_=>bc λ_=>tl λr n=>by cases r <;> rfl
       .exact bc λ_=>tl λr n=>by cases r <;> rfl
   .refine bc λ_=>td λr n q=>?_
    cases r with
    | some r=>rfl
    | none =>
     dsimp only
     split
     .exact bc λ_=>bc λ_=>tl λr n=>by cases r <;> rfl
     .exact bc λ_=>tl λr n=>by cases r <;> rfl
section
variable {prog:Program} {w:World} {A:Around} {E:Value->Shared->Prop} {s:Shared} {a₀:Array Keyed} {κ:SortKind} {ρ:aG.RR} {P:Array (Nat×Nat×Nat)}
def Out (lo n:Nat) (xs ys:Array Keyed):Prop:=∀ j,j<lo\/lo+n<=j->ys[j]?=xs[j]?
theorem Ea {xs:Array Keyed} {lo n i j:Nat} (hj:j<=xs.size) (h1:lo<=i) (h2:j<=lo+n):Out lo n xs (mirror xs i j ((j - i) / 2)):=λk hk=>by
 rw [getElem?_mirror_all hj,aBJ (by lia)]
theorem N3 {st:SortSt} {lo a nrem:Nat} {Q:AS->SortSt->Prop} (h0:aG.i7 prog w A s κ ρ a₀) (hn:lo+nrem<=a₀.size) (ha:1<=a) (han:a<=nrem) (hB:GP κ a₀ P st) (hs:e8 ρ (arrOf st) lo (lo+a))
  (h:∀ n,a<=n->n<=nrem->e8 ρ (arrOf st) lo (lo+n)->(n=nrem\/aG.Kg ρ (arrOf st) (lo+n)<aG.Kg ρ (arrOf st) (lo+n - 1))->Q (none,n) st):wpS (model prog w) A E s (qI lo a nrem) Q st:=by
 unfold qI
 refine aAz (I:=λx c st1=>st1=st/\c=(none,x)/\e8 ρ (arrOf st) lo (lo+x)) ?turn ?last ⟨rfl,rfl,hs⟩
 case last =>
  rintro c st1 ⟨rfl,rfl,i1⟩
  rw [show max a nrem=nrem by lia] at i1 ⊢
  exact h nrem han (a17 _) i1 (.inl rfl)
 case turn =>
  rintro x c st1 hax hxn ⟨rfl,rfl,i1⟩
  dsimp only
  refine a5h (AZ hB h0 (by lia) (by lia) ?_)
  by_cases c:aG.Kg ρ (arrOf st1) (lo+x)<aG.Kg ρ (arrOf st1) (lo+x - 1)
  .simp only [c,avW,aSf]
   exact aod (h x hax (by lia) i1 (.inr c))
  .simp only [c,aLy,aXZ,aE9]
   refine aod ⟨rfl,rfl,λi j hi hij hj=>?_⟩
   by_cases hjx:j<lo+x
   .exact i1 i j hi hij hjx
   .have ej:j=lo+x:=by lia
    subst ej
    by_cases e:i=lo+x
    .subst e; exact aKB _
    .have:=i1 i (lo+x - 1) hi (by lia) (by lia)
     lia
structure DX (ρ:aG.RR) (xs:Array Keyed) (lo x q:Nat):Prop where
 l:q+1<=x
 d:∀ i j,lo<=i->i<=j->j<lo+x->aG.Kg ρ xs j<=aG.Kg ρ xs i
 e:∀ i,lo+x - (q+1)<=i->i<lo+x->aG.Kg ρ xs i=aG.Kg ρ xs (lo+x - 1)
theorem DX.rev {xs:Array Keyed} {lo x q:Nat} (h:DX ρ xs lo x q) (hz:lo+x<=xs.size):DX ρ (mirror xs (lo+x - (q+1)) (lo+x) ((lo+x - (lo+x - (q+1))) / 2)) lo x 0:=by
 have ke:=aG.bX (ρ:=ρ) (i:=lo+x - (q+1)) hz h.e
 have:=h.l
 refine ⟨by lia,λi j h1 h2 h3=>?_,λi h1 h2=>?_⟩
 .rw [ke,ke]; exact h.d i j h1 h2 h3
 .have e:i=lo+x - 1:=by lia
  rw [e]
theorem DX.zero {xs:Array Keyed} {lo x q:Nat} (h:DX ρ xs lo x q):DX ρ xs lo x 0:=⟨by have:=h.l; lia,h.d,λi h1 h2=>by rw [show i=lo+x - 1 by have:=h.l; lia]⟩
theorem DX.less {xs:Array Keyed} {lo x:Nat} (h:DX ρ xs lo x 0) (k:aG.Kg ρ xs (lo+x)<aG.Kg ρ xs (lo+x - 1)):DX ρ xs lo (x+1) 0:=by
 have:=h.l
 refine ⟨by lia,λi j h1 h2 h3=>?_,λi h1 h2=>by rw [show i=lo+(x+1) - 1 by lia]⟩
 by_cases c:j<lo+x
 .exact h.d i j h1 h2 c
 .have ej:j=lo+x:=by lia
  subst ej
  by_cases e:i=lo+x
  .subst e; exact aKB _
  .have:=h.d i (lo+x - 1) h1 (by lia) (by lia)
   lia
theorem DX.more {xs:Array Keyed} {lo x q:Nat} (h:DX ρ xs lo x q) (k:aG.Kg ρ xs (lo+x)=aG.Kg ρ xs (lo+x - 1)):DX ρ xs lo (x+1) (q+1):=by
 have:=h.l
 refine ⟨by lia,λi j h1 h2 h3=>?_,λi h1 h2=>?_⟩
 .by_cases c:j<lo+x
  .exact h.d i j h1 h2 c
  .have ej:j=lo+x:=by lia
   subst ej
   by_cases e:i=lo+x
   .subst e; exact aKB _
   .have:=h.d i (lo+x - 1) h1 (by lia) (by lia)
    lia
 .rw [show lo+(x+1) - 1=lo+x by lia]
  by_cases c:i<lo+x
  .rw [k]; exact h.e i (by lia) c
  .rw [show i=lo+x by lia]
theorem Xb {st:SortSt} {lo n nrem:Nat} {Q:DS->SortSt->Prop} (h0:aG.i7 prog w A s κ ρ a₀) (hn:lo+nrem<=a₀.size) (hnn:n<=nrem) (hB:GP κ a₀ P st) (hs:DX ρ (arrOf st) lo n 0)
  (h:∀ m q st',GP κ a₀ P st'->m<=nrem->DX ρ (arrOf st') lo m q->Out lo nrem (arrOf st) (arrOf st')->Q (none,m,q) st'):wpS (model prog w) A E s (n6 lo n nrem) Q st:=by
 unfold n6
 refine aAz (I:=λx c st1=>∃ q,c=(none,x,q)/\GP κ a₀ P st1/\DX ρ (arrOf st1) lo x q/\Out lo nrem (arrOf st) (arrOf st1)) ?turn ?last ⟨0,rfl,hB,hs,λ_ _=>rfl⟩
 case last =>
  rintro c st1 ⟨q,rfl,b1,d1,o1⟩
  rw [show max n nrem=nrem by lia] at d1 ⊢
  exact h nrem q st1 b1 (a17 _) d1 o1
 case turn =>
  rintro x c st1 hax hxn ⟨q,rfl,b1,d1,o1⟩
  dsimp only
  have sz:=b1.size
  have hl:=d1.l
  refine a5h (AZ b1 h0 (by lia) (by lia) ?_)
  by_cases c:aG.Kg ρ (arrOf st1) (lo+x)<aG.Kg ρ (arrOf st1) (lo+x - 1)
  .simp only [c,avW,aSf]
   by_cases hq:q > 0
   .rw [ajr hq]
    have ke:=aG.bX (ρ:=ρ) (i:=lo+x - (q+1)) (by lia:lo+x<=(arrOf st1).size) d1.e
    refine a5h (baF (aod ⟨0,rfl,b1.setArr (aCy _ _ _ _),(d1.rev (by lia)).less ?_,λk hk=>(Ea (by lia) (by lia) (by lia) k hk).trans (o1 k hk)⟩))
    rw [ke,ke]; exact c
   .rw [aBJ hq]
    have e:q=0:=by lia
    subst e
    exact aod ⟨0,rfl,b1,d1.less c,o1⟩
  .simp only [c,aLy,aXZ,aE9]
   refine a5h (AZ b1 h0 (by lia) (by lia) ?_)
   by_cases c2:aG.Kg ρ (arrOf st1) (lo+x - 1)<aG.Kg ρ (arrOf st1) (lo+x)
   .simp only [c2,avW,aSf]
    exact aod (h x q st1 b1 (by lia) d1 o1)
   .simp only [c2,aLy,aXZ,aE9]
    exact aod ⟨q+1,rfl,b1,d1.more (by lia),o1⟩
theorem OM {st bD:SortSt} {lo n nrem:Nat} {Q:Option Nat->SortSt->Prop} (h0:aG.i7 prog w A s κ ρ a₀) (hn:lo+nrem<=a₀.size) (h1:1<=n) (hnn:n<=nrem) (hB:GP κ a₀ P st) (hs:DX ρ (arrOf st) lo n 0) (ho:Out lo nrem (arrOf bD) (arrOf st))
  (h:∀ m st',GP κ a₀ P st'->1<=m->m<=nrem->e8 ρ (arrOf st') lo (lo+m)->Out lo nrem (arrOf bD) (arrOf st')->Q (some m) st'):wpS (model prog w) A E s (kT lo n nrem) Q st:=by
 unfold kT
 have sz:=hB.size
 refine a5h (baF ?_)
 have b1:GP κ a₀ P (setArr st (mirror (arrOf st) lo (lo+n) ((lo+n - lo) / 2))):=hB.setArr (aCy _ _ _ _)
 refine a5h (N3 h0 hn h1 hnn b1 ?_ λm m1 m2 i2 _=>aod (h m _ b1 (by lia) m2 i2 λk hk=>(Ea (by lia) (by lia) (by lia) k hk).trans (ho k hk)))
 intro i j hi hij hj
 show aG.Kg ρ (mirror (arrOf st) lo (lo+n) ((lo+n - lo) / 2)) i<=aG.Kg ρ (mirror (arrOf st) lo (lo+n) ((lo+n - lo) / 2)) j
 rw [aG.iB (by lia),aG.iB (by lia),ajr (by lia),ajr (by lia)]
 exact hs.d _ _ (by lia) (by lia) (by lia)
theorem OL {st bD:SortSt} {lo n nrem:Nat} {Q:Option Nat->SortSt->Prop} (h0:aG.i7 prog w A s κ ρ a₀) (hn:lo+nrem<=a₀.size) (hnn:n+1<=nrem) (hB:GP κ a₀ P st) (hs:DX ρ (arrOf st) lo (n+1) 0) (ho:Out lo nrem (arrOf bD) (arrOf st))
  (h:∀ m st',GP κ a₀ P st'->1<=m->m<=nrem->e8 ρ (arrOf st') lo (lo+m)->Out lo nrem (arrOf bD) (arrOf st')->Q (some m) st'):wpS (model prog w) A E s (kZ lo n nrem) Q st:=by
 unfold kZ
 refine a5h (wpS_lift (ag2 ⟨rfl,?_⟩))
 refine a5h (Xb h0 hn hnn hB hs λm q st1 b1 m2 d1 o1=>?_)
 dsimp only
 have hl:=d1.l
 have sz:=b1.size
 by_cases hq:q > 0
 .rw [ajr hq]
  exact a5h (baF (OM h0 hn (by lia) m2 (b1.setArr (aCy _ _ _ _)) (d1.rev (by lia)) (λk hk=>((Ea (by lia) (by lia) (by lia) k hk).trans (o1 k hk)).trans (ho k hk)) h))
 .rw [aBJ hq]
  exact OM h0 hn (by lia) m2 b1 d1.zero (λk hk=>(o1 k hk).trans (ho k hk)) h
theorem XU {st:SortSt} {lo nrem:Nat} {Q:Option Nat->SortSt->Prop} (h0:aG.i7 prog w A s κ ρ a₀) (hn:lo+nrem<=a₀.size) (h1:1<=nrem) (hB:GP κ a₀ P st)
  (h:∀ m st',GP κ a₀ P st'->1<=m->m<=nrem->e8 ρ (arrOf st') lo (lo+m)->Out lo nrem (arrOf st) (arrOf st')->Q (some m) st'):wpS (model prog w) A E s (countRun' lo nrem) Q st:=by
 rw [XW]
 have sz:=hB.size
 refine a5h (N3 h0 hn (a17 1) h1 hB (λi j hi hij hj=>by rw [show i=j by lia]; exact aKB _) λn n1 n2 i1 hor=>?_)
 dsimp only
 by_cases e:n=nrem
 .rw [ajr (by simpa using e)]
  exact aod (h n st hB n1 n2 i1 λ_ _=>rfl)
 .rw [aBJ (by simpa using e)]
  have lt:aG.Kg ρ (arrOf st) (lo+n)<aG.Kg ρ (arrOf st) (lo+n - 1):=hor.resolve_left e
  by_cases g:n > 1
  .rw [ajr g]
   refine a5h (AZ hB h0 (by lia) (by lia) ?_)
   by_cases c:aG.Kg ρ (arrOf st) lo<aG.Kg ρ (arrOf st) (lo+n - 1)
   .simp only [c,avW,aSf]
    exact aod (h n st hB n1 n2 i1 λ_ _=>rfl)
   .simp only [c,aLy,aXZ,aE9]
    have all:∀ k,lo<=k->k<lo+n->aG.Kg ρ (arrOf st) k=aG.Kg ρ (arrOf st) (lo+n - 1):=λk h1 h2=>by
     have a1:=i1 lo k (a17 _) h1 h2
     have a2:=i1 k (lo+n - 1) h1 (by lia) (by lia)
     lia
    have ke:=aG.bX (ρ:=ρ) (xs:=arrOf st) (i:=lo) (j:=lo+n) (by lia) all
    have dx:DX ρ (mirror (arrOf st) lo (lo+n) ((lo+n - lo) / 2)) lo n 0:=⟨by lia,λi j h1 h2 h3=>by rw [ke,ke,all i h1 (by lia),all j (by lia) h3]; exact aKB _,λi h1 h2=>by rw [show i=lo+n - 1 by lia]⟩
    exact a5h (baF (OL (bD:=st) h0 hn (by lia) (hB.setArr (aCy _ _ _ _)) (dx.less (by rw [ke,ke]; exact lt)) (Ea (by lia) (by lia) (by lia)) h))
  .rw [aBJ g]
   have en:n=1:=by lia
   subst en
   exact OL (bD:=st) h0 hn (by lia) hB (DX.less ⟨by lia,λi j h1 h2 h3=>by rw [show i=j by lia]; exact aKB _,λi h1 h2=>by rw [show i=lo+1 - 1 by lia]⟩ lt) (λ_ _=>rfl) h
end
abbrev Rn:=Nat×Nat×Nat
def g6:List Rn->Nat->Nat->Prop
 | [],a,b=>a=b
 | t :: r,a,b=>t.1=a/\0<t.2.1/\g6 r (a+t.2.1) b
theorem fj:∀ {l m:List Rn} {a b:Nat},g6 (l++m) a b↔∃ c,g6 l a c/\g6 m c b
 | [],m,a,b=>⟨λh=>⟨a,rfl,h⟩,λ⟨c,h1,h2⟩=>by rw [show a=c from h1]; exact h2⟩
 | t :: r,m,a,b=>by
  constructor
  .rintro ⟨h1,h2,h3⟩
   obtain ⟨c,h4,h5⟩:=fj.mp h3
   exact ⟨c,⟨h1,h2,h4⟩,h5⟩
  .rintro ⟨c,⟨h1,h2,h4⟩,h5⟩
   exact ⟨h1,h2,fj.mpr ⟨c,h4,h5⟩⟩
theorem DU:∀ {l:List Rn} {a b:Nat},g6 l a b->l.length+a<=b
 | [],a,b,h=>by rw [show a=b from h]; show 0+b<=b; lia
 | t :: r,a,b,⟨_,h2,h3⟩=>by
  have:=DU h3
  rw [am4]
  lia
theorem DK:∀ {l:List Rn} {a b:Nat},g6 l a b->∀ t∈l,a<=t.1/\t.1+t.2.1<=b
 | [],a,b,h,t,ht=>nomatch ht
 | u :: r,a,b,⟨h1,h2,h3⟩,t,ht=>by
  have l:=DU h3
  rcases aM6.mp ht with e | ht
  .subst e; lia
  .have:=DK h3 t ht
   lia
theorem M5:∀ {l:List Rn} {i:Nat} {x y:Rn},l[i]?=some x->l[i+1]?=some y->l=l.take i++x :: y :: l.drop (i+2)
 | [],i,x,y,h,_=>by simp at h
 | [a],0,x,y,h,h2=>by simp at h2
 | a :: b :: r,0,x,y,h,h2=>by
  simp only [List.getElem?_cons_zero,aFs,Option.some.injEq] at h h2
  subst h h2; rfl
 | a :: r,i+1,x,y,h,h2=>by
  have:=M5 (l:=r) (i:=i) (x:=x) (y:=y) (by simpa using h) (by simpa using h2)
  show a :: r=a :: (r.take i++x :: y :: r.drop (i+2))
  rw [← this]
theorem XT (l m:List Rn) (x y v:Rn):((l++x :: y :: m).set l.length v).eraseIdx (l.length+1)=l++v :: m:=by
 induction l with
 | nil=>rfl
 | cons a r ih=>show a :: ((r++x :: y :: m).set r.length v).eraseIdx (r.length+1)=a :: (r++v :: m); rw [ih]
section
variable {prog:Program} {w:World} {A:Around} {E:Value->Shared->Prop} {s:Shared} {a₀:Array Keyed} {κ:SortKind} {ρ:aG.RR} {P:Array Rn}
theorem AQ {xs ys:Array Keyed} {a b:Nat} (h:e8 ρ xs a b) (e:∀ j,a<=j->j<b->ys[j]?=xs[j]?):e8 ρ ys a b:=λi j h1 h2 h3=>by
 rw [aG.cE (e i h1 (by lia)),aG.cE (e j (by lia) h3)]
 exact h i j h1 h2 h3
structure RI (κ:SortKind) (a₀:Array Keyed) (ρ:aG.RR) (lo:Nat) (st:SortSt):Prop where
 perm:(arrOf st).Perm a₀
 kn:kindOf st=κ
 failed:failedOf st=none
 tile:g6 (pendingOf st).toList 0 lo
 xo:∀ t∈(pendingOf st).toList,e8 ρ (arrOf st) t.1 (t.1+t.2.1)
theorem RI.gp {lo:Nat} {st:SortSt} (h:RI κ a₀ ρ lo st):GP κ a₀ (pendingOf st) st:=⟨h.perm,h.kn,h.failed,rfl⟩
theorem RI.out {lo n:Nat} {st st':SortSt} (h:RI κ a₀ ρ lo st) (g:GP κ a₀ (pendingOf st) st') (o:Out lo n (arrOf st) (arrOf st')):RI κ a₀ ρ lo st' :=
 ⟨g.perm,g.kn,g.failed,by rw [g.pend]; exact h.tile,λt ht=>by
  rw [g.pend] at ht
  have:=DK h.tile t ht
  exact AQ (h.xo t ht) λj h1 h2=>o j (.inl (by lia))⟩
theorem RI.merge {lo i:Nat} {x y:Rn} {st:SortSt} {Q:Bool->SortSt->Prop} (h0:aG.i7 prog w A s κ ρ a₀) (h:RI κ a₀ ρ lo st) (hlo:lo<=a₀.size) (e1:(pendingOf st)[i]?=some x) (e2:(pendingOf st)[i+1]?=some y)
  (k:∀ st',RI κ a₀ ρ lo st'->(pendingOf st').size+1=(pendingOf st).size->(∀ j,lo<=j->(arrOf st')[j]?=(arrOf st)[j]?)->Q true st'):wpS (model prog w) A E s (IP i) Q st:=by
 obtain ⟨sa,na,p⟩:=x
 obtain ⟨sb,nb,q⟩:=y
 have el:=M5 (l:=(pendingOf st).toList) (i:=i) (by rw [apT]; exact e1) (by rw [apT]; exact e2)
 have hi:i<(pendingOf st).toList.length:=by
  rw [aUD]
  exact (Array.getElem?_eq_some_iff.mp e1).1
 have hti:((pendingOf st).toList.take i).length=i:=by rw [aVk]; lia
 have ht:=h.tile
 have hs:=h.xo
 have hsz:(pendingOf st).size=(pendingOf st).toList.length:=aUD.symm
 have hnew:(((pendingOf st).setIfInBounds i (sa,na+nb,p)).eraseIdxIfInBounds (i+1)).toList=(pendingOf st).toList.take i++(sa,na+nb,p) :: (pendingOf st).toList.drop (i+2):=by
  rw [Array.toList_eraseIdxIfInBounds,Array.toList_setIfInBounds]
  conv=>lhs; rw [el]
  have:=XT ((pendingOf st).toList.take i) ((pendingOf st).toList.drop (i+2)) (sa,na,p) (sb,nb,q) (sa,na+nb,p)
  rw [hti] at this
  exact this
 generalize (pendingOf st).toList.take i=l at *
 generalize (pendingOf st).toList.drop (i+2)=m at *
 rw [el] at ht hs hsz
 obtain ⟨c,t1,t2,t3,t4,t5,t6⟩:=fj.mp ht
 have t2:sa=c:=t2
 have t3:0<na:=t3
 have t4:sb=c+na:=t4
 have t5:0<nb:=t5
 have t6:g6 m (c+na+nb) lo:=t6
 have l6:=DU t6
 refine XQ h0 h.kn h.gp.mem h.failed e1 e2 (by lia) t3 t5 (by rw [h.gp.size]; lia) (hs (sa,na,p) (by simp)) (hs (sb,nb,q) (by simp)) λst' k1 f1 p1 pe s1 o1=>?_
 refine k st' ⟨p1.trans h.perm,k1,f1,?_,?_⟩ ?_ λj hj=>o1 j (.inr (by lia))
 .rw [pe,hnew]
  exact fj.mpr ⟨c,t1,t2,by show 0<na+nb; lia,by show g6 m (c+(na+nb)) lo; rw [← Nat.add_assoc]; exact t6⟩
 .rw [pe,hnew]
  intro t ht
  rcases aPD.mp ht with ht | ht
  .have:=DK t1 t ht
   exact AQ (hs t (a4h _ ht)) λj h1 h2=>o1 j (.inl (by lia))
  .rcases aM6.mp ht with ht | ht
   .subst ht
    show e8 ρ (arrOf st') sa (sa+(na+nb))
    rw [show sa+(na+nb)=sb+nb by lia]
    exact s1
   .have:=DK t6 t ht
    exact AQ (hs t (af2 _ (aZE _ (aZE _ ht)))) λj h1 h2=>o1 j (.inr (by lia))
 .have z:(pendingOf st').size=(pendingOf st').toList.length:=aUD.symm
  rw [z,pe,hnew,hsz,ap5,ap5]
  rfl
theorem RI.push {lo n:Nat} {st:SortSt} (h:RI κ a₀ ρ lo st) (hn:0<n) (hs:e8 ρ (arrOf st) lo (lo+n)):RI κ a₀ ρ (lo+n) (setPending st ((pendingOf st).push (lo,n,0))):=by
 refine ⟨h.perm,h.kn,h.failed,?_,?_⟩
 .show g6 ((pendingOf st).push (lo,n,0)).toList 0 (lo+n)
  rw [aEt]
  exact fj.mpr ⟨lo,h.tile,rfl,hn,rfl⟩
 .show ∀ t∈((pendingOf st).push (lo,n,0)).toList,_
  rw [aEt]
  intro t ht
  rcases aPD.mp ht with ht | ht
  .exact h.xo t ht
  .rw [ai5.mp ht]; exact hs
theorem OJ {f:Rn->Rn} (hf:∀ t,(f t).1=t.1/\(f t).2.1=t.2.1):∀ {l:List Rn} {i a b:Nat},g6 l a b->g6 (l.modify i f) a b
 | [],i,a,b,h=>by cases i <;> exact h
 | t :: r,0,a,b,⟨h1,h2,h3⟩=>by
  show g6 (f t :: r) a b
  exact ⟨(hf t).1.trans h1,by rw [(hf t).2]; exact h2,by rw [(hf t).2]; exact h3⟩
 | t :: r,i+1,a,b,⟨h1,h2,h3⟩=>⟨h1,h2,OJ hf h3⟩
theorem PU {f:Rn->Rn}:∀ {l:List Rn} {i:Nat} {t:Rn},t∈l.modify i f->t∈l\/∃ u∈l,t=f u
 | [],i,t,h=>by cases i <;> exact nomatch h
 | u :: r,0,t,h=>by
  rcases aM6.mp (show t∈f u :: r from h) with e | h
  .exact .inr ⟨u,abW,e⟩
  .exact .inl (aZE _ h)
 | u :: r,i+1,t,h=>by
  rcases aM6.mp (show t∈u :: r.modify i f from h) with e | h
  .exact .inl (e ▸ abW)
  .rcases PU h with h | ⟨v,hv,e⟩
   .exact .inl (aZE _ h)
   .exact .inr ⟨v,aZE _ hv,e⟩
theorem RI.pow {lo i:Nat} {st:SortSt} {f:Rn->Rn} (hf:∀ t,(f t).1=t.1/\(f t).2.1=t.2.1) (h:RI κ a₀ ρ lo st):RI κ a₀ ρ lo (setPending st ((pendingOf st).modify i f)):=by
 refine ⟨h.perm,h.kn,h.failed,?_,?_⟩
 .show g6 ((pendingOf st).modify i f).toList 0 lo
  rw [Array.toList_modify]
  exact OJ hf h.tile
 .show ∀ t∈((pendingOf st).modify i f).toList,_
  rw [Array.toList_modify]
  intro t ht
  rcases PU ht with ht | ⟨u,hu,e⟩
  .exact h.xo t ht
  .rw [e,(hf u).1,(hf u).2]; exact h.xo u hu
theorem pS {st:SortSt} {Q:Unit->SortSt->Prop} (h0:aG.i7 prog w A s κ ρ a₀) (hP:(arrOf st).Perm a₀) (hk:kindOf st=κ) (hf:failedOf st=none) (hp:pendingOf st=#[])
  (h:∀ st',(arrOf st').Perm a₀->failedOf st'=none->e8 ρ (arrOf st') 0 a₀.size->Q () st'):wpS (model prog w) A E s sortRuns' Q st:=by
 rw [sortRuns'_eq]
 refine a5h (baX ?_)
 dsimp only
 have Ug:(arrOf st).size=a₀.size:=hP.size_eq
 simp only [Ug]
 generalize minRun' a₀.size a₀.size 0=mr
 have r0:RI κ a₀ ρ 0 st:=⟨hP,hk,hf,by rw [hp]; rfl,by rw [hp]; exact λt ht=>nomatch ht⟩
 refine a5h (axG (aAz (I:=λx c st1=>∃ lo,c=(none,lo)/\lo<=a₀.size/\(x<=lo\/lo=a₀.size)/\RI κ a₀ ρ lo st1) (Q:=λc st1=>c=(none,a₀.size)/\RI κ a₀ ρ a₀.size st1) ?turn ?last ⟨0,rfl,avV _,.inl (a17 _),r0⟩) ?after)
 case last =>
  rintro c st1 ⟨lo,rfl,hlo,hx,r1⟩
  have e:lo=a₀.size:=by lia
  subst e
  exact ⟨rfl,r1⟩
 case turn =>
  rintro x c st1 _ hx ⟨lo,rfl,hlo,hxl,r1⟩
  dsimp only
  by_cases g:lo ≥ a₀.size
  .rw [ajr g]
   have e:lo=a₀.size:=by lia
   subst e
   exact aod ⟨rfl,r1⟩
  .rw [aBJ g]
   refine a5h (XU h0 (by lia) (by lia) r1.gp λm st2 b2 m1 m2 s2 o2=>?_)
   dsimp only
   have r2:=r1.out b2 o2
   have fin:∀ {n:Nat} {st3:SortSt},0<n->lo+n<=a₀.size->RI κ a₀ ρ lo st3->e8 ρ (arrOf st3) lo (lo+n)->∃ lo',(none,lo+n)=((none,lo'):Option Unit×Nat)/\lo'<=a₀.size/\(x+1<=lo'\/lo'=a₀.size)/\RI κ a₀ ρ lo' (setPending st3 ((pendingOf st3).push (lo,n,0))):=λ{n st3} h1 h2 h3 h4=>⟨lo+n,rfl,h2,by lia,h3.push h1 h4⟩
   by_cases lt:m<mr
   .rw [ajr lt]
    refine a5h (wpS_lift (ag2 ⟨rfl,?_⟩))
    refine a5h (VA h0 (by lia) (by lia) m1 b2 s2 λst3 b3 s3 o3=>?_)
    simp only [aWJ,aXZ,aE9]
    have r3:=r1.out (n:=a₀.size - lo) b3 λj hj=>(o3 j (by lia)).trans (o2 j hj)
    have hn:0<min (a₀.size - lo) mr:=by lia
    have jN:lo+min (a₀.size - lo) mr<=a₀.size:=by lia
    clear b3 o3 b2 s2 o2 r2 m1 m2 lt
    generalize min (a₀.size - lo) mr=n at *
    refine a5h (baX ?_)
    cases eb:(pendingOf st3).back? with
    | none =>
     dsimp only
     exact a5h (aCh (aod (fin hn jN r3 s3)))
    | some t =>
     obtain ⟨s1,n1,z⟩:=t
     dsimp only
     generalize power' a₀.size (2 * s1+n1) (2 * s1+n1+n1+n) a₀.size=pw
     refine a5h (axG (aAz (I:=λ_ c cU=>c=(none,())/\RI κ a₀ ρ lo cU/\e8 ρ (arrOf cU) lo (lo+n)) (Q:=λc cU=>c=(none,())/\RI κ a₀ ρ lo cU/\e8 ρ (arrOf cU) lo (lo+n)) ?_ (λ_ _ hh=>hh) ⟨rfl,r3,s3⟩) ?_)
     .rintro y c cU _ _ ⟨rfl,r4,h4⟩
      refine a5h (baX ?_)
      by_cases c2:(pendingOf cU).size > 1
      .have e1:(pendingOf cU)[(pendingOf cU).size - 2]?=some (pendingOf cU)[(pendingOf cU).size - 2]:=axz (by lia)
       have e2:(pendingOf cU)[(pendingOf cU).size - 2+1]?=some (pendingOf cU)[(pendingOf cU).size - 2+1]:=axz (by lia)
       simp only [ajr c2]
       rw [e1]
       dsimp only
       by_cases c3:(pendingOf cU)[(pendingOf cU).size - 2].2.2<=pw
       .rw [ajr c3]
        exact aod ⟨rfl,r4,h4⟩
       .rw [aBJ c3]
        refine a5h (RI.merge h0 r4 hlo e1 e2 λrS r5 _ o5=>?_)
        simp only [aWJ,aXZ,aE9]
        exact aod ⟨rfl,r5,AQ h4 λj h1 _=>o5 j h1⟩
      .simp only [aBJ c2]
       exact aod ⟨rfl,r4,h4⟩
     .rintro c cU ⟨rfl,r4,h4⟩
      dsimp only
      exact a5h (aCh (a5h (aCh (aod (fin hn jN (r4.pow λ_=>⟨rfl,rfl⟩) h4)))))
   .rw [aBJ lt]
    have hn:0<m:=by lia
    have jN:lo+m<=a₀.size:=by lia
    have r3:=r2
    have s3:=s2
    clear b2 s2 o2 r2 m1 m2 lt
    generalize m=n at *
    generalize st2=st3 at *
    refine a5h (baX ?_)
    cases eb:(pendingOf st3).back? with
    | none =>
     dsimp only
     exact a5h (aCh (aod (fin hn jN r3 s3)))
    | some t =>
     obtain ⟨s1,n1,z⟩:=t
     dsimp only
     generalize power' a₀.size (2 * s1+n1) (2 * s1+n1+n1+n) a₀.size=pw
     refine a5h (axG (aAz (I:=λ_ c cU=>c=(none,())/\RI κ a₀ ρ lo cU/\e8 ρ (arrOf cU) lo (lo+n)) (Q:=λc cU=>c=(none,())/\RI κ a₀ ρ lo cU/\e8 ρ (arrOf cU) lo (lo+n)) ?_ (λ_ _ hh=>hh) ⟨rfl,r3,s3⟩) ?_)
     .rintro y c cU _ _ ⟨rfl,r4,h4⟩
      refine a5h (baX ?_)
      by_cases c2:(pendingOf cU).size > 1
      .have e1:(pendingOf cU)[(pendingOf cU).size - 2]?=some (pendingOf cU)[(pendingOf cU).size - 2]:=axz (by lia)
       have e2:(pendingOf cU)[(pendingOf cU).size - 2+1]?=some (pendingOf cU)[(pendingOf cU).size - 2+1]:=axz (by lia)
       simp only [ajr c2]
       rw [e1]
       dsimp only
       by_cases c3:(pendingOf cU)[(pendingOf cU).size - 2].2.2<=pw
       .rw [ajr c3]
        exact aod ⟨rfl,r4,h4⟩
       .rw [aBJ c3]
        refine a5h (RI.merge h0 r4 hlo e1 e2 λrS r5 _ o5=>?_)
        simp only [aWJ,aXZ,aE9]
        exact aod ⟨rfl,r5,AQ h4 λj h1 _=>o5 j h1⟩
      .simp only [aBJ c2]
       exact aod ⟨rfl,r4,h4⟩
     .rintro c cU ⟨rfl,r4,h4⟩
      dsimp only
      exact a5h (aCh (a5h (aCh (aod (fin hn jN (r4.pow λ_=>⟨rfl,rfl⟩) h4)))))
 case after =>
  rintro c st1 ⟨rfl,r1⟩
  dsimp only
  have l1:=DU r1.tile
  rw [aUD] at l1
  refine a5h (axG (aAz (I:=λx c st2=>c=(none,())/\RI κ a₀ ρ a₀.size st2/\(pendingOf st2).size+x<=a₀.size+1) (Q:=λc st2=>c=(none,())/\RI κ a₀ ρ a₀.size st2/\(pendingOf st2).size<=1) ?_ ?_ ⟨rfl,r1,by lia⟩) ?_)
  .rintro y c st2 _ _ ⟨rfl,r2,h2⟩
   refine a5h (baX ?_)
   by_cases c1:(pendingOf st2).size<=1
   .rw [ajr c1]
    exact aod ⟨rfl,r2,c1⟩
   .rw [aBJ c1]
    obtain ⟨i,hi,hlt⟩:∃ i,(if Option.any (λx=>decide (x<(pendingOf st2)[(pendingOf st2).size - 2+1]?.elim 0 λx=>x.snd.fst)) (if (pendingOf st2).size - 2 > 0 then Option.map (λx=>x.snd.fst) (pendingOf st2)[(pendingOf st2).size - 2 - 1]? else none)=true then (pendingOf st2).size - 2 - 1 else (pendingOf st2).size - 2)=i/\i+1<(pendingOf st2).size:=⟨_,rfl,by generalize Option.any _ _=bb; cases bb <;> simp <;> lia⟩
    rw [hi]
    refine a5h (RI.merge h0 r2 (a17 _) (axz (by lia)) (axz hlt) λrS r5 z5 _=>?_)
    simp only [aWJ,aXZ,aE9]
    exact aod ⟨rfl,r5,by lia⟩
  .rintro c st2 ⟨rfl,r2,h2⟩
   exact ⟨rfl,r2,by lia⟩
  .rintro c st2 ⟨rfl,r2,h2⟩
   dsimp only
   refine aod (h st2 r2.perm r2.failed ?_)
   have ht:=r2.tile
   have hs:=r2.xo
   have z:(pendingOf st2).size=(pendingOf st2).toList.length:=aUD.symm
   rw [z] at h2
   generalize (pendingOf st2).toList=l at *
   match l,h2,ht,hs with
   | [],_,ht,_ =>
    have e:0=a₀.size:=ht
    intro i j _ _ hj
    lia
   | [t],_,⟨t1,t2,t3⟩,hs =>
    have e:0+t.2.1=a₀.size:=t3
    have q:=hs t (by simp)
    rw [t1,e] at q
    exact q
   | _ :: _ :: _,h2,_,_=>simp at h2
end
end L2.tG
set_option maxHeartbeats 4000000
namespace L2
open PySem PySem.Spec PyProof.Rows
section
variable {prog:Program} {w:World} {A:Around} {E:Value->Shared->Prop} {s:Shared}
theorem M4 {a:Addr} {us:List Value} {m:Nat} {P:PySem.Fin->Shared->Prop} {κ:SortKind} {ρ:aG.RR} (ho:s.heap.get? a=some (seqObj "list" us.toArray m)) (z:us.length<=1000000)
  (hk:2<=us.length->(∀ (E:Value->Shared->Prop) (Q:SortKind->Shared->Prop),Q κ { s with heap:=mD s.heap a us }->wpAny (model prog w) A (keyKind' us.toArray) Q E { s with heap:=mD s.heap a us })/\aG.i7 prog w A { s with heap:=mD s.heap a us } κ ρ (pairsOf us))
  (g:∀ q:SortSt,(arrOf q).Perm (pairsOf us)->tG.e8 ρ (arrOf q) 0 (pairsOf us).size->P (.done (.ret .none)) { s with heap:=sortedHeap s.heap a us ((arrOf q).map (·.2)) }):wpAny (model prog w) A (Builtin.«list.sort» ⟨[.ref a],[]⟩) P E s:=by
 rw [list_sort_plain]
 have al:a<s.heap.objs.size:=aDe ho
 obtain ⟨c,oc⟩:∃ c,(s.heap.update a (Obj.mapSeq λ_=>#[])).get? a=some (seqObj "list" #[] c):=⟨_,get?_update_seq ho (λ_=>#[])⟩
 have Cr:(mD s.heap a us).get? a=some (seqObj "list" #[] c):=aL6 _ (aL6 _ oc)
 refine awJ (listItems_at ho rfl (awJ (aUa ho rfl (awJ (seqEpoch_at oc rfl (awJ (wpAny_newTuple (awJ (a31 (aFl ?_)))))))))) <;> try (rw [bav]; first | (rw [aHG]; lia) | lia)
 show wpAny (model prog w) A _ P E { s with heap:=mD s.heap a us }
 dsimp only
 have us2:us.toArray.size=us.length:=aHG ..
 by_cases few:us.toArray.size<2
 .rw [ajr few,ajr few]
  refine awJ (aOf ?_)
  rw [StateT.run_pure]
  refine awJ (aOf (awJ (seqEpoch_at Cr rfl (awJ (aUa Cr rfl ?_ (hsz2:=by rw [Array.size_map]; show (pairsOf us).size<=_; rw [pairsOf_size,bav]; lia))))))
  simp only [bne_self_eq_false,aXZ,aE9]
  refine aOf (g (SortSt.mk' general' (us.toArray.zip us.toArray) #[] 7 none) (asx _) λi j _ hij hj=>?_)
  rw [pairsOf_size] at hj
  rw [show i=j by lia]
  exact aKB _
 .rw [aBJ few,aBJ few]
  have two:2<=us.length:=by lia
  obtain ⟨k1,k2⟩:=hk two
  refine awJ (k1 _ _ (awJ (acp (tG.pS (a₀:=pairsOf us) (st:=SortSt.mk' κ (us.toArray.zip us.toArray) #[] 7 none) (Q:=λ_ q=>(arrOf q).Perm (pairsOf us)/\failedOf q=none/\tG.e8 ρ (arrOf q) 0 (pairsOf us).size) k2 (asx _) rfl rfl rfl λq a1 a2 a3=>⟨a1,a2,a3⟩) ?_ λ_ _ e=>e)))
  rintro ⟨⟨⟩,q⟩ t ⟨rfl,hp,hf,hs⟩
  refine awJ (seqEpoch_at Cr rfl (awJ (aUa Cr rfl ?_ (hsz2:=by rw [Array.size_map,hp.size_eq,pairsOf_size,bav]; lia))))
  dsimp only
  rw [hf]
  simp only [bne_self_eq_false,aXZ,aE9]
  exact aOf (g q hp hs)
end
theorem U4 {α:Type}:∀ {l:List α},2<=l.length->∃ a b r,l=a :: b :: r
 | [],h=>absurd h (Nat.not_succ_le_zero 1)
 | [_],h=>absurd h (aNy 1)
 | a :: b :: r,_=>⟨a,b,r,rfl⟩
def xr:aG.RR:=⟨λ_=>0,λp=>match p.1 with | .int n _=>n | _=>0⟩
theorem MZ {xs:Array Keyed} {i:Nat}:aG.Kg xr xs i=PyProof.Rows.K xs i:=by
 unfold aG.Kg PyProof.Rows.K
 cases xs[i]? with
 | none=>rfl
 | some p=>obtain ⟨v,u⟩:=p; cases v <;> rfl
variable {K:W.Frag} {X:Cx}
end L2
set_option maxHeartbeats 1000000
namespace L2
open PySem PySem.Spec PySem.Calls PyProof.Rows PySem.MeetsSeq PySem.W
abbrev kO:=Addr×Int×Int
def rq (es:List kO) (a:Addr):kO:=(es.find? λe=>e.1 == a).getD (0,0,0)
theorem yo:∀ {es:List kO},(es.map (·.1)).Nodup->∀ {e:kO},e∈es->rq es e.1=e
 | [],_,_,h=>by cases h
 | x :: r,nd,e,h=>by
  rw [asO] at nd
  obtain ⟨n1,n2⟩:=aEW.mp nd
  unfold rq
  rw [anW]
  rcases aM6.mp h with rfl | h
  .rw [beq_self_eq_true]; rfl
  .have ne:(x.1 == e.1)=false:=by
    rw [aHA]
    exact λz=>n1 (by rw [z]; exact ali h)
   rw [ne]
   exact yo n2 h
def gP (e:kO):Value:=.ref e.1
def Cm (es:List kO):aG.RR:=⟨λ_=>0,λp=>(rq es (rV p.2)).2.1⟩
def BB (h:Heap) (e:kO):Prop:=∃ t t',h.get? e.1=some { cls:=.type "tuple",data:=.seq #[.int e.2.1 t,.int e.2.2 t'] }
section
variable {prog:Program} {w:World} {A:Around} {E:Value->Shared->Prop} {s:Shared}
theorem Hh {a b:kO} {Q:Bool->Shared->Prop} (h1:BB s.heap a) (h2:BB s.heap b) (hab:a.2.1=b.2.1->a.2.2=b.2.2) (h:Q (decide (a.2.1<b.2.1)) s):wpAny (model prog w) A (keyLt' (tuples' true) (gP a) (gP b)) Q E s:=by
 obtain ⟨t,t',ho⟩:=h1
 obtain ⟨u,u',ho'⟩:=h2
 refine W.kat_lt ho rfl ho' rfl (W.kat_cons ?_)
 obtain ⟨c,e,hc⟩:=HT.lE A s a.2.1 t b.2.1 u
 refine e prog w _ _ ?_
 cases c with
 | true =>
  have z:=hc.mp rfl
  refine W.kat_yes (W.kat_cons ?_)
  obtain ⟨c2,e2,hc2⟩:=HT.lE A s a.2.2 t' b.2.2 u'
  refine e2 prog w _ _ ?_
  cases c2 with
  | true =>
   rw [ba7 (by lia)] at h
   exact W.kat_yes (W.kat_nil h)
  | false=>exact absurd (hc2.mpr (hab z)) am8
 | false=>exact W.kat_no (oneLt_int h)
theorem MY {h:Heap}:∀ {es:List kO},(∀ e∈es,BB h e)->∃ fs:List Value,W.KatTups h (es.map gP) fs/\fs.length=es.length/\∀ v∈fs,∃ (n:Int) (t:Tok),v=.int n t
 | [],_=>⟨[],W.KatTups.nil,rfl,λ_ h=>by cases h⟩
 | e :: es,hh=>by
  obtain ⟨fs,t,lf,hf⟩:=MY (es:=es) λx m=>hh x (aZE _ m)
  obtain ⟨a,b,ho⟩:=hh e abW
  rw [asO]
  refine ⟨.int e.2.1 a :: fs,W.KatTups.cons ho rfl rfl rfl t,by rw [am4,lf]; rfl,λv m=>?_⟩
  rcases aM6.mp m with rfl | m
  .exact ⟨_,_,rfl⟩
  .exact hf v m
end
theorem zA {es:List kO} (nd:(es.map (·.1)).Nodup) {xs:Array Keyed} (hp:xs.Perm (pairsOf (es.map gP))) (hi:tG.e8 (Cm es) xs 0 (pairsOf (es.map gP)).size) :
  ∃ os:List kO,(xs.map (·.2)).toList=os.map gP/\os.Perm es/\os.Pairwise λx y=>x.2.1<=y.2.1:=by
 have pm:=aGk.mp hp
 rw [PV,map_map] at pm
 have mx:∀ p∈xs.toList,∃ e∈es,p=(gP e,gP e):=λp h=>by
  obtain ⟨e,m,q⟩:=au8.mp (pm.mem_iff.mp h)
  exact ⟨e,m,q.symm⟩
 refine ⟨xs.toList.map λp=>rq es (rV p.2),?_,?_,?_⟩
 .rw [Array.toList_map,map_map]
  refine al9 λp h=>?_
  obtain ⟨e,m,rfl⟩:=mx p h
  show gP e=gP (rq es e.1)
  rw [yo nd m]
 .have q:=pm.map λp=>rq es (rV p.2)
  rw [map_map] at q
  refine q.trans (List.Perm.of_eq ?_)
  have:es.map ((λp:Keyed=>rq es (rV p.2)) ∘ ((λv=>(v,v)) ∘ gP))=es.map id:=al9 λe m=>yo nd m
  rw [this,map_id]
 .rw [pairwise_iff_getElem]
  intro i j h1 h2 hij
  have hi2:i<xs.size:=by simpa using h1
  have hj2:j<xs.size:=by simpa using h2
  have v:=hi i j (avV _) (aV2 hij) (by rw [← hp.size_eq]; exact hj2)
  unfold aG.Kg at v
  rw [axz hi2,axz hj2] at v
  rw [List.getElem_map,List.getElem_map,aVA,aVA]
  exact v
def mK (H:Hp) (es:List kO):Hp:=λa=>match es.find? λe=>e.1 == a with
 | some e=>some (.tup [.int e.2.1,.int e.2.2])
 | none=>H a
theorem OI {H:Hp} {es:List kO} {a:Addr} (h:∀ e∈es,e.1≠a):mK H es a=H a:=by
 unfold mK
 rw [List.find?_eq_none.mpr λe m=>by simpa using h e m]
theorem Xa {H:Hp} {es:List kO} (nd:(es.map (·.1)).Nodup) {e:kO} (m:e∈es):mK H es e.1=some (.tup [.int e.2.1,.int e.2.2]):=by
 have q:=yo nd m
 unfold rq at q
 unfold mK
 cases z:es.find? λx=>x.1 == e.1 with
 | none=>exact absurd (List.find?_eq_none.mp z e m) (by simp)
 | some x=>rw [z] at q; have q:x=e:=q; rw [q]
theorem Pj {α β:Type} {F:α->β->Prop}:∀ {l₁:List α} {l₂:List β},Paired F l₁ l₂->∀ {i:Nat} {a:α} {b:β},l₁[i]?=some a->l₂[i]?=some b->F a b
 | _,_,.nil,_,_,_,h,_=>by simp at h
 | _,_,.cons r t,0,_,_,h,g=>by
  simp only [List.getElem?_cons_zero,Option.some.injEq] at h g
  subst h g; exact r
 | _,_,.cons r t,i+1,_,_,h,g=>Pj t (i:=i) (by simpa using h) (by simpa using g)
theorem MX {α β:Type} {f:α->β}:∀ {l:List α},(l.map f).Nodup->∀ {a b:α},a∈l->b∈l->f a=f b->a=b
 | [],_,_,_,h,_,_=>nomatch h
 | x :: r,nd,a,b,ha,hb,e=>by
  obtain ⟨n1,n2⟩:=aEW.mp nd
  rcases aM6.mp ha with h1 | h1 <;> rcases aM6.mp hb with h2 | h2
  .rw [h1,h2]
  .exact absurd (by rw [← h1,e]; exact ali h2) n1
  .exact absurd (by rw [← h2,← e]; exact ali h1) n1
  .exact MX n2 h1 h2 e
theorem Vz (os:List kO):Vals (os.map λe=>V.ref e.1) (os.map gP):=by
 induction os with
 | nil=>exact .nil
 | cons e r ih=>exact .cons rfl ih
section
variable {X:Cx} {pins:List (Addr×Obj)} {σ:St} {H H':Hp} {s:Shared} {h':Heap}
theorem Inv.more {t':Nat} (I:Inv X pins σ H s) (k:∀ b u,s.heap.get? b=some u->h'.get? b=some u) (on:∀ b o,H b=some o->H' b=some o) (fr:∀ b u,s.heap.get? b=some u->H b=none->H' b=none) (new:∀ b o,H b=none->H' b=some o->aI X.prog X.w H' h' b o) :
  Inv X pins σ H' { s with heap:=h',toks:=t' }:=by
 refine I.un ⟨λb u q _ _ _=>k b u q,λb u q _ _ _=>⟨u.slots,k b u q⟩,λb u q n _=>fr b u q n,λb u q _=>⟨u,k b u q⟩,λb xs q=>on _ _ q,λb o u q=>on _ _ q,λb p z q=>on _ _ q⟩ λb u e=>?_
 cases c:H b with
 | some o =>
  have e2:=aGB ((on b o c).symm.trans e)
  subst e2
  exact (I.hok b o c).stay (λc v _ q=>k c v q) (λc q=>on _ _ q) (λc xs q=>on _ _ q) λc oz q=>on _ _ q
 | none=>exact new b u c e
end
theorem YJ {P:Program} {w:World} (d:Addr) (hd:(d == sysModules)=false) :
  MeetsIn P w (Builtin.«dict.items» ⟨[.ref d],[]⟩) (λ_ R s=>s.TypeIs (.ref d) "dict" /\ R (.ok (.ret (.ref s.heap.objs.size))) { s with heap:=s.heap.push { cls:=.type "dict_items",data:=.fields #[.ref d] } }) :=
 .of_wp λA R s ⟨ty,h⟩=>by
  unfold Builtin.«dict.items»; refine awJ ?_; unfold Builtin.Dict.noArgs; refine awJ (wpAny_notOrdered_dict ty ?_); show wpAny _ _ (pure d) _ _ s
  refine aOf ?_; show wpAny _ _ (Builtin.Dict.showsAll d >>= _) _ _ s; unfold Builtin.Dict.showsAll; rw [aBJ (by rw [hd]; exact am8)]
  exact awJ (aOf (awJ (aZW (aOf ⟨_,rfl,h⟩))))
section
variable {X:Cx}
def K2 (H:Hp) (v d:Addr):Prop:=H v=some (.ext λh=>h.IsItemsView v d)
def Vy (tl:TE):TE:=λσ H Q=>tl σ H λx H1=>∃ d kvs,x=.ref d/\H1 d=some (.dK kvs)/\∀ v,H1 v=none->Q (.ref v) (upd H1 v (.ext λh=>h.IsItemsView v d))
theorem XS {l:Expr} {tl:TE} {apos cpos:Pos} (hl:PE X l tl) (hbase:attributeBase l "items" X.env (eval l X.env)=eval l X.env:=by rfl) (hline:(apos.endLine == cpos.line)=true:=by rfl):PE X (.Call (.Attribute l "items" apos) [] [] cpos) (Vy tl):=by
 intro pins s σ H Q I h
 refine wpAny_Call_method0_late hbase hline (aJ (hl pins s σ H _ I h) λv s1 ⟨x,H1,I1,r1,q1⟩=>?_)
 obtain ⟨d,kvs,e,hd,q⟩:=q1
 subst e
 cases r1
 obtain ⟨t1,t2,hs⟩:=Dz I1 (.inl ⟨kvs,.inl hd⟩)
 refine ⟨"dict", "dict.items",auI,PySem.F.slot_dict_items,PySem.F.type_dict_items,t1,t2,asT rfl (PySem.evalArgs_none ?_)⟩
 refine call_meetsIn PySem.F.slot_dict_items t1 PySem.F.entry_dict_items (PySem.F.args_dict_items_1 _) (YJ d hs) ⟨t1,?_⟩
 refine ⟨.ref s1.heap.objs.size,_,I1.laid (a:=s1.heap.objs.size) (t':=s1.toks) (o:=.ext λh=>h.IsItemsView s1.heap.objs.size d) (λb o z=>aL6 _ z) (a17 _) ⟨⟨_,aWh _ rfl,rfl,rfl⟩,⟨_,aWh _ rfl⟩,λh1 h2 ⟨o,ho,x⟩ up=>⟨o,up o ho,x⟩⟩,rfl,q _ (I1.hok.fresh (a17 _))⟩
def W9:List V->Hp->VK->Prop:=λxs H Q=>∃ (v d:Addr) (ps:List (Int×Int)),xs=[.ref v]/\K2 H v d/\H d=some (.dK (ps.map λp=>(Sum.inl p.1,V.int p.2)))/\(ps.map (·.1)).Nodup/\ps.length<=1000000 /\
 ∀ (D:Addr) (os:List kO) (H':Hp),H D=none->aB H H'->H' D=some (.lst (os.map λe=>V.ref e.1))->(∀ e∈os,H e.1=none/\H' e.1=some (.tup [.int e.2.1,.int e.2.2]))->(os.map (·.2)).Perm ps->(os.Pairwise λx y=>x.2.1<y.2.1)->Q (.ref D) H'
theorem YI (hc:X.calm=true):bH X (.builtin "sorted") W9:=by
 intro pins s σ H xs us Q I r h
 obtain ⟨v,d,ps,rfl,hv,hd,nd,hz,q⟩:=h
 obtain ⟨u,rfl,rx⟩:=vals1 r
 cases rx
 obtain ⟨hvw,_⟩:=I.hok v _ hv
 obtain ⟨_,hs,vs,rv,hD⟩:=I.hok d _ hd
 obtain ⟨ep,hat⟩:=hD.dictAt
 have hl:vs.length=ps.length:=by have:=a9d rv; rw [afy] at this; exact this.symm
 refine call_function_entry kind_sorted plain_sorted entry_sorted (args_sorted1 _) ?_
 unfold Builtin.«sorted»
 refine awJ (m:=checkCount "sorted" 1 1 _) (aOf ?_)
 refine awJ (W.kdx_collect (A:=X.A.in1) (knd:=Zx X.prog X.w) (kvs:=vs) (ep:=ep) (show X.A.in1.handled=none from I.ok.hd hc) hvw hat (by rw [bav]; lia) λh' tk as hk' la hG=>?_)
 obtain ⟨es,ea,ev,pk⟩:∃ es:List kO,es.map (·.1)=as/\es.map (·.2)=ps/\∀ e∈es,BB h' e:=by
  refine ⟨as.zip ps,List.map_fst_zip (by lia),List.map_snd_zip (by lia),λe m=>?_⟩
  obtain ⟨j,hj⟩:=List.mem_iff_getElem?.mp m
  rw [List.getElem?_zip_eq_some] at hj
  obtain ⟨ja,jp⟩:=hj
  obtain ⟨key,k,x,e1,e2,e3⟩:=hG.pairs j _ ja
  obtain ⟨f1,f2⟩:=Pj rv (i:=j) (by rw [aC3,jp]; rfl) e1
  dsimp only at f1 f2
  subst f1
  obtain ⟨t,rfl⟩:=OR e2
  obtain ⟨t',rfl⟩:=f2
  exact ⟨t,t',e3⟩
 have zN:(es.map (·.1)).Nodup:=by rw [ea]; exact hG.rise.imp λh=>a19 h
 have LB:(es.map λe=>e.2.1).Nodup:=by
  rw [← ev,map_map] at nd
  exact nd
 have le:es.length=ps.length:=by rw [← ev,afy]
 have er:as.map Value.ref=es.map gP:=by rw [← ea,map_map]; rfl
 have ab:∀ e∈es,s.heap.objs.size<e.1:=λe m=>hG.above _ (by rw [← ea]; exact ali m)
 rw [er]
 refine awJ (a31 ?_ (by rw [afy,le,bav]; lia))
 have kL:(h'.push (seqObj "list" (es.map gP).toArray 0)).get? h'.objs.size=some (seqObj "list" (es.map gP).toArray 0):=aWh _ rfl
 show wpAny _ _ _ _ _ { s with heap:=h'.push (seqObj "list" (es.map gP).toArray 0),toks:=tk }
 have up1:∀ b o,h'.get? b=some o->(h'.push (seqObj "list" (es.map gP).toArray 0)).get? b=some o:=λb o e=>aL6 _ e
 have LG:∀ e∈es,e.1<h'.objs.size:=λe m=>by obtain ⟨_,_,z⟩:=pk e m; exact aDe z
 refine awJ (aFl (ba8 slot_list_sort ⟨_,kL,rfl⟩ entry_list_sort (M4 (s:={ s with heap:=h'.push (seqObj "list" (es.map gP).toArray 0),toks:=tk }) (κ:=tuples' true) (ρ:=Cm es) kL (by rw [afy,le]; exact hz) (λtwo=>?_) λst a1 a2=>⟨_,rfl,?_⟩) (args_list_sort _)))
 .have Fv:∀ e∈es,BB (mD (h'.push (seqObj "list" (es.map gP).toArray 0)) h'.objs.size (es.map gP)) e:=λe m=>by
   obtain ⟨t,t',z⟩:=pk e m
   exact ⟨t,t',Xc (a19 (LG e m)) (up1 _ _ z)⟩
  refine ⟨λE Q hQ=>?_,λx mx y my E Q hQ=>?_⟩
  .obtain ⟨fs,t,lf,hf⟩:=MY Fv
   refine W.kat_kind (T:=Value.type "int") t (by rw [afy] at two; lia) (λv m=>?_) rfl hQ
   obtain ⟨n,t,rfl⟩:=hf v m
   exact .now
  .rw [PV,map_map] at mx my
   obtain ⟨a,ma,rfl⟩:=au8.mp mx
   obtain ⟨b,mb,rfl⟩:=au8.mp my
   refine Hh (Fv a ma) (Fv b mb) (λz=>by rw [MX LB ma mb z]) ?_
   have e1:(Cm es).g (gP a,gP a)=a.2.1:=by show (rq es a.1).2.1=_; rw [yo zN ma]
   have e2:(Cm es).g (gP b,gP b)=b.2.1:=by show (rq es b.1).2.1=_; rw [yo zN mb]
   rw [← e1,← e2]
   exact hQ
 refine aOf ⟨_,rfl,?_⟩
 obtain ⟨os,eo,po,so⟩:=zA zN a1 a2
 obtain ⟨e,he⟩:=sortedHeap_at (out:=(arrOf st).map (·.2)) kL
 have lo:=po.length_eq
 have D0:H h'.objs.size=none:=(I.kept (t':=tk) hk').hok.fresh (a17 _)
 have ndO:(os.map (·.1)).Nodup:=(po.map _).nodup_iff.mpr zN
 have nE:∀ {b o},H b=some o->∀ e∈es,e.1≠b:=λ{b o} z e m=>aL1 (aPz (I.hok.lt z) (ab e m))
 have on:∀ b o,H b=some o->upd (mK H es) h'.objs.size (.lst (os.map λe=>V.ref e.1)) b=some o:=λb o z=>by rw [Zc (Ze z D0),OI (nE z)]; exact z
 have La:∀ b o,h'.get? b=some o->(sortedHeap (h'.push (seqObj "list" (es.map gP).toArray 0)) h'.objs.size (es.map gP) ((arrOf st).map (·.2))).get? b=some o:=λb o z=>by
  have lt:=aDe z
  rw [sortedHeap_old (a19 lt) (by rw [size_push']; exact aWL lt),aGu _ _ _ (a19 lt)]
  exact z
 have I2:Inv X pins σ (upd (mK H es) h'.objs.size (.lst (os.map λe=>V.ref e.1))) { s with heap:=sortedHeap (h'.push (seqObj "list" (es.map gP).toArray 0)) h'.objs.size (es.map gP) ((arrOf st).map (·.2)),toks:=tk }:=by
  generalize sortedHeap (h'.push (seqObj "list" (es.map gP).toArray 0)) h'.objs.size (es.map gP) ((arrOf st).map (·.2))=hF at *
  refine I.more (λb u z=>La _ _ (hk' _ _ z)) on (λb u z n=>?_) λb o n z=>?_
  .rw [Zc (a19 (aDe (hk' _ _ z))),OI λe m=>aL1 (aPz (aDe z) (ab e m))]
   exact n
  by_cases c:b=h'.objs.size
  .subst c
   rw [Za] at z
   cases z
   exact ⟨by rw [afy,lo,le,bav]; lia,os.map gP,e,Vz os,by rw [← eo]; exact he⟩
  .rw [Zc c] at z
   unfold mK at z
   cases y:es.find? λe=>e.1 == b with
   | none=>rw [y] at z; rw [show H b=some o from z] at n; cases n
   | some x =>
    rw [y] at z
    have mx:=List.mem_of_find?_eq_some y
    have ex:x.1=b:=by simpa using List.find?_some y
    cases z
    obtain ⟨t,t',g⟩:=pk x mx
    rw [← ex]
    exact ⟨by show 2<=sizeLine; decide,[.int x.2.1 t,.int x.2.2 t'],.cons ⟨t,rfl⟩ (.cons ⟨t',rfl⟩ .nil),_,La _ _ g,rfl,_,rfl⟩
 refine ⟨.ref h'.objs.size,_,I2,rfl,q _ os _ D0 on Za (λx m=>?_) (by rw [← ev]; exact po.map _) ?_⟩
 .have mE:=po.mem_iff.mp m
  refine ⟨?_,by rw [Zc (a19 (LG x mE))]; exact Xa zN mE⟩
  cases c:H x.1 with
  | none=>rfl
  | some o=>exact absurd rfl (nE c x mE)
 .have zM:(os.map λe=>e.2.1).Nodup:=(po.map _).nodup_iff.mpr LB
  have:=List.pairwise_map.mp zM
  exact (so.and this).imp λh=>by obtain ⟨h1,h2⟩:=h; lia
end
def Xl:List V->Hp->VK->Prop:=λxs H Q=>∃ (d:Addr) (kvs:List (Key×V)) (ns:List Int),xs=[.ref d]/\H d=some (.dK kvs)/\kvs.map Prod.fst=ns.map Sum.inl/\ns.length<=1000000 /\
 ∀ (D:Addr) (os:List Int),H D=none->os.Perm ns->os.Pairwise (·<=·)->Q (.ref D) (upd H D (.lst (os.map V.int)))
section
variable {X:Cx}
theorem ZfV (hc:X.calm=true):bH X (.builtin "sorted") Xl:=by
 intro pins s σ H xs us Q I r h
 obtain ⟨d,kvs,ns,rfl,hd,hk,hz0,q⟩:=h
 obtain ⟨u,rfl,rx⟩:=vals1 r
 cases rx
 obtain ⟨hz,hs,vs,rv,hD⟩:=I.hok d _ hd
 obtain ⟨ep,hat⟩:=hD.dictAt
 have hl:vs.length=ns.length:=by have l1:kvs.length=vs.length:=a9d rv; have l2:=aOy List.length hk; simp at l2; lia
 refine call_function_entry kind_sorted plain_sorted entry_sorted (args_sorted1 _) ?_
 unfold Builtin.«sorted»
 refine awJ (m:=checkCount "sorted" 1 1 _) (aOf ?_)
 refine awJ (kdu_collect (A:=X.A.in1) (kdl_dict (knd:=Zx X.prog X.w) (kvs:=vs) (ep:=ep) hs) (show X.A.in1.handled=none from I.ok.hd hc) hat (by rw [bav]; lia) λh' tk acc hk' hacc=>?_)
 have hv:=Pp rv hk hacc
 have la:acc.toList.length=ns.length:=by rw [aUD,hacc.1,hl]
 generalize acc.toList=its at *
 refine awJ (a31 ?_ (by rw [la,bav]; lia))
 have kL:(h'.push (seqObj "list" its.toArray 0)).get? h'.objs.size=some (seqObj "list" its.toArray 0):=aWh _ rfl
 have I1:=I.kept (t':=tk) hk'
 show wpAny _ _ _ _ _ { s with heap:=h'.push (seqObj "list" its.toArray 0),toks:=tk }
 refine awJ (aFl (ba8 slot_list_sort ⟨_,kL,rfl⟩ entry_list_sort (M4 (s:={ s with heap:=h'.push (seqObj "list" its.toArray 0),toks:=tk }) (κ:=oneType') (ρ:=xr) kL (by lia) (λtwo=>⟨λE Q hQ=>?_,λx mx y my E Q hQ=>?_⟩) λst hp hs=>⟨_,rfl,?_⟩) (args_list_sort _)))
 .have hkk:keyKind' its.toArray=pure oneType':=by
   obtain ⟨v1,v2,rest,e⟩:=U4 two
   rw [e] at hv ⊢
   exact keyKind_ints hv
  rw [hkk]
  exact aOf hQ
 .obtain ⟨a,t,ea⟩:=hv.intKeys x mx
  obtain ⟨b,t',eb⟩:=hv.intKeys y my
  rw [ea,eb]
  refine W.kat_lt_int ?_
  have e1:xr.g x=a:=by unfold xr; dsimp only; rw [ea]
  have e2:xr.g y=b:=by unfold xr; dsimp only; rw [eb]
  rw [e1,e2] at hQ
  exact hQ
 refine aOf ⟨_,rfl,?_⟩
 obtain ⟨ns',h1,h2,h3⟩:=sorted_out hv hp (λi j hij hj=>by rw [← MZ,← MZ]; exact hs i j (avV _) hij hj)
 generalize (arrOf st).map (·.2)=out at *
 obtain ⟨e,he⟩:=sortedHeap_at (out:=out) kL
 have fr:H h'.objs.size=none:=I1.hok.fresh (a17 _)
 have lo:=h2.length_eq
 refine ⟨.ref h'.objs.size,_,I1.laid (a:=h'.objs.size) (t':=tk) (o:=.lst (ns'.map V.int)) (λb o z=>?_) (a17 _) ⟨by rw [afy,lo,bav]; lia,out.toList,e,D6 h1,he⟩,rfl,q _ ns' fr h2 h3⟩
 have z':h'.get? b=some o:=z
 have lt:=aDe z'
 rw [sortedHeap_old (a19 lt) (by rw [size_push']; exact aWL lt),aGu _ _ _ (a19 lt)]
 exact z'
end
end L2
set_option maxHeartbeats 4000000

namespace m9
open PySem L2
theorem scm {N P:List Str} {s:Scope} (a:s.kind=.function:=by rfl) (b:s.isCoroutine=false:=by rfl) (c:s.isGenerator=false:=by rfl) (d:N.Nodup:=by decide +kernel) (e:N.take P.length=P:=by rfl) (f:∀ x ∈ P,s.names.lookup x=some .local\/s.names.lookup x=some .cell:=by decide +kernel) (g:∀ y ∈ s.names,y.2 ≠ .free:=by decide +kernel):ah N P s:=⟨a,b,c,d,e,f,g⟩
theorem sl (n:Nat) (h:n ≤ 99:=by decide):n ≤ sizeLine:=awv h (by rw [bav]; decide)
variable {P:Program} {w:World} {K:W.Frag} {mg:Str->Option Value} {base:Heap}
def top (i:Nat):Stmt:=PySem.Challenge.pw_nearstairs_k60_whole_the_last_word_told.main.body.getD i (.Pass ⟨0,0,0,0⟩)
theorem bE {N P:List Str} {sc:Scope} (a:sc.kind=.function:=by rfl) (b:sc.isCoroutine=false:=by rfl) (c:sc.isGenerator=false:=by rfl) (d:N.Nodup:=by decide +kernel) (e:N.take P.length=P:=by rfl) (f:∀ x∈P,sc.names.lookup x=some .local\/sc.names.lookup x=some .cell:=by decide +kernel) (g:∀ y∈sc.names,y.2≠.free:=by decide +kernel):ah N P sc:=⟨a,b,c,d,e,f,g⟩
abbrev Jw:Stmt:=top 2
abbrev jx:List Str:=["size", "spot"]
abbrev yw:List Str:=jx.take 2
theorem iG:ah jx yw (Zi Jw):=bE
abbrev Jv:Stmt:=top 3
abbrev jv:List Str:=["size", "board", "first"]
abbrev D9:List Str:=jv.take 2
theorem iE:ah jv D9 (Zi Jv):=bE
abbrev Ju:Stmt:=top 4
abbrev jw:List Str:=["shelves", "board"]
abbrev Jt:List Str:=jw.take 2
theorem iF:ah jw Jt (Zi Ju):=bE
abbrev Ek:Stmt:=Zp (top 12) 0
abbrev fQ:List Str:=["self", "shelves", "places", "rule"]
abbrev JW:List Str:=fQ.take 4
theorem gS:ah fQ JW (Zi Ek):=bE
abbrev Js:Stmt:=Zp (top 12) 1
abbrev jA:List Str:=["self", "board"]
abbrev Bt:List Str:=jA.take 2
theorem iJ:ah jA Bt (Zi Js):=bE
abbrev JG:Stmt:=Zp (top 12) 2
abbrev ig:List Str:=["self", "board", "out"]
abbrev JF:List Str:=ig.take 2
theorem gg:ah ig JF (Zi JG):=bE
abbrev Jr:Stmt:=Zp (top 12) 3
abbrev jz:List Str:=["self", "board", "mates"]
abbrev Jq:List Str:=jz.take 2
theorem iI:ah jz Jq (Zi Jr):=bE
abbrev JV:Stmt:=Zp (top 12) 4
abbrev iV:List Str:=["self", "board"]
abbrev Ej:List Str:=iV.take 2
theorem gT:ah iV Ej (Zi JV):=bE
abbrev JQ:Stmt:=Zp (top 12) 5
abbrev gB:List Str:=["self"]
abbrev JP:List Str:=gB.take 1
theorem fE:ah gB JP (Zi JQ):=bE
abbrev JU:Stmt:=Zp (top 12) 7
abbrev iT:List Str:=["self", "board"]
abbrev Bm:List Str:=iT.take 2
theorem gR:ah iT Bm (Zi JU):=bE
abbrev JE:Stmt:=Zp (top 12) 8
abbrev ie:List Str:=["self", "board"]
abbrev yC:List Str:=ie.take 2
theorem gc:ah ie yC (Zi JE):=bE
abbrev KP:Stmt:=Zp (top 12) 9
abbrev cT:List Str:=["self", "board", "mates"]
abbrev Ep:List Str:=cT.take 2
theorem cz:ah cT Ep (Zi KP):=bE
abbrev ZB:Stmt:=Zp (top 12) 10
abbrev cy:List Str:=["self", "mates"]
abbrev By:List Str:=cy.take 2
theorem gf:ah cy By (Zi ZB):=bE
abbrev JD:Stmt:=Zp (top 14) 0
abbrev g9:List Str:=["self", "room_plan", "shelves", "places", "rule", "writing"]
abbrev JC:List Str:=g9.take 2
theorem fZ:ah g9 JC (Zi JD):=bE
abbrev JT:Stmt:=Zp (top 14) 1
abbrev iR:List Str:=["self", "board"]
abbrev Bl:List Str:=iR.take 2
theorem gO:ah iR Bl (Zi JT):=bE
abbrev J6:Stmt:=Zp (top 14) 2
abbrev eT:List Str:=["self", "board", "words"]
abbrev J5:List Str:=eT.take 3
theorem cY:ah eT J5 (Zi J6):=bE
abbrev KN:Stmt:=Zp (top 14) 3
abbrev dM:List Str:=["self", "board"]
abbrev KL:List Str:=dM.take 2
theorem cJ:ah dM KL (Zi KN):=bE
abbrev KJ:Stmt:=Zp (top 14) 4
abbrev dI:List Str:=["self", "board"]
abbrev ZM:List Str:=dI.take 2
theorem cH:ah dI ZM (Zi KJ):=bE
abbrev JS:Stmt:=Zp (top 14) 5
abbrev iQ:List Str:=["self", "board", "words"]
abbrev D7:List Str:=iQ.take 3
theorem gM:ah iQ D7 (Zi JS):=bE
abbrev KH:Stmt:=Zp (top 14) 6
abbrev dJ:List Str:=["self", "board", "at", "word"]
abbrev KG:List Str:=dJ.take 4
theorem cI:ah dJ KG (Zi KH):=bE
abbrev J4:Stmt:=Zp (top 14) 8
abbrev eU:List Str:=["self", "board"]
abbrev En:List Str:=eU.take 2
theorem cZ:ah eU En (Zi J4):=bE
abbrev JO:Stmt:=Zp (top 15) 0
abbrev gC:List Str:=["self", "size"]
abbrev JN:List Str:=gC.take 2
theorem fF:ah gC JN (Zi JO):=bE
abbrev Eo:Stmt:=Zp (top 15) 2
abbrev bL:List Str:=["self", "board"]
abbrev KO:List Str:=bL.take 2
theorem cA:ah bL KO (Zi Eo):=bE
abbrev JB:Stmt:=Zp (top 15) 3
abbrev ir:List Str:=["self", "board", "words", "spot", "word"]
abbrev JA:List Str:=ir.take 3
theorem gh:ah ir JA (Zi JB):=bE
abbrev Km:Stmt:=Zp (top 15) 4
abbrev fR:List Str:=["self"]
abbrev Kl:List Str:=fR.take 1
theorem eL:ah fR Kl (Zi Km):=bE
abbrev ZW:Stmt:=Zp (top 17) 0
abbrev dY:List Str:=["self", "size", "room_plans"]
abbrev Bx:List Str:=dY.take 3
theorem gb:ah dY Bx (Zi ZW):=bE
abbrev Jz:Stmt:=Zp (top 17) 1
abbrev ic:List Str:=["self", "k"]
abbrev Jy:List Str:=ic.take 2
theorem f7:ah ic Jy (Zi Jz):=bE
abbrev JM:Stmt:=Zp (top 17) 3
abbrev gu:List Str:=["self", "k", "board"]
abbrev Eh:List Str:=gu.take 3
theorem fq:ah gu Eh (Zi JM):=bE
abbrev Kh:Stmt:=Zp (top 17) 4
abbrev fK:List Str:=["self"]
abbrev Kf:List Str:=fK.take 1
theorem d8:ah fK Kf (Zi Kh):=bE
abbrev JL:Stmt:=Zp (top 17) 5
abbrev gw:List Str:=["self", "k"]
abbrev Eg:List Str:=gw.take 2
theorem fz:ah gw Eg (Zi JL):=bE
abbrev KD:Stmt:=Zp (top 17) 6
abbrev dO:List Str:=["self", "events"]
abbrev ZN:List Str:=dO.take 1
theorem cL:ah dO ZN (Zi KD):=bE
abbrev Ke:Stmt:=Zp (top 17) 7
abbrev fL:List Str:=["self", "k", "board"]
abbrev Bv:List Str:=fL.take 3
theorem d9:ah fL Bv (Zi Ke):=bE
abbrev Ko:Stmt:=Zp (top 17) 8
abbrev cC:List Str:=["self", "k"]
abbrev Kn:List Str:=cC.take 2
theorem bZ:ah cC Kn (Zi Ko):=bE
abbrev Kd:Stmt:=Zp (top 17) 9
abbrev fJ:List Str:=["self", "k", "board"]
abbrev Es:List Str:=fJ.take 3
theorem d7:ah fJ Es (Zi Kd):=bE
abbrev J3:Stmt:=Zp (top 17) 10
abbrev eX:List Str:=["self", "k", "board", "words"]
abbrev Em:List Str:=eX.take 4
theorem dw:ah eX Em (Zi J3):=bE
abbrev Kc:Stmt:=Zp (top 17) 11
abbrev fM:List Str:=["self", "k", "board"]
abbrev ZE:List Str:=fM.take 3
theorem ef:ah fM ZE (Zi Kc):=bE
abbrev JR:Stmt:=Zp (top 17) 12
abbrev iS:List Str:=["self", "k", "board", "words"]
abbrev Bk:List Str:=iS.take 4
theorem gQ:ah iS Bk (Zi JR):=bE
abbrev J2:Stmt:=Zp (top 17) 13
abbrev eV:List Str:=["self", "k", "spot"]
abbrev JZ:List Str:=eV.take 3
theorem dg:ah eV JZ (Zi J2):=bE
abbrev KC:Stmt:=Zp (top 17) 14
abbrev dN:List Str:=["self", "k", "spot", "word"]
abbrev KA:List Str:=dN.take 4
theorem cK:ah dN KA (Zi KC):=bE
abbrev JK:Stmt:=Zp (top 19) 0
abbrev gA:List Str:=["self", "plan", "size", "kind", "room_plans"]
abbrev JJ:List Str:=gA.take 2
theorem fD:ah gA JJ (Zi JK):=bE
abbrev JI:Stmt:=Zp (top 19) 1
abbrev gx:List Str:=["self", "spot", "board"]
abbrev Ef:List Str:=gx.take 2
theorem fB:ah gx Ef (Zi JI):=bE
abbrev Ka:Stmt:=Zp (top 19) 2
abbrev fN:List Str:=["self", "spot", "word", "board"]
abbrev J9:List Str:=fN.take 3
theorem eB:ah fN J9 (Zi Ka):=bE
abbrev Kz:Stmt:=Zp (top 19) 3
abbrev dQ:List Str:=["self", "k", "board", "words", "fresh"]
abbrev Ky:List Str:=dQ.take 1
theorem cN:ah dQ Ky (Zi Kz):=bE
abbrev J8:Stmt:=Zp (top 19) 5
abbrev fP:List Str:=["self", "board", "k"]
abbrev Er:List Str:=fP.take 2
theorem eG:ah fP Er (Zi J8):=bE
abbrev Kw:Stmt:=Zp (top 19) 6
abbrev dP:List Str:=["self", "board", "k", "store"]
abbrev Kv:List Str:=dP.take 2
theorem cM:ah dP Kv (Zi Kw):=bE
abbrev JY:Stmt:=Zp (top 19) 7
abbrev eY:List Str:=["self", "k", "board", "store"]
abbrev El:List Str:=eY.take 3
theorem dz:ah eY El (Zi JY):=bE
abbrev J7:Stmt:=Zp (top 19) 8
abbrev fO:List Str:=["self", "k", "board", "words", "far", "store"]
abbrev Bu:List Str:=fO.take 4
theorem eE:ah fO Bu (Zi J7):=bE
abbrev Kr:Stmt:=Zp (top 19) 9
abbrev ck:List Str:=["self", "k", "board", "words", "near", "out"]
abbrev Kq:List Str:=ck.take 3
theorem bS:ah ck Kq (Zi Kr):=bE
abbrev KR:Stmt:=Zp (top 19) 10
abbrev cD:List Str:=["self", "k", "board", "words", "fresh", "near", "fresh_near"]
abbrev KQ:List Str:=cD.take 3
theorem b7:ah cD KQ (Zi KR):=bE
abbrev Ku:Stmt:=Zp (top 19) 11
abbrev bV:List Str:=["self", "k", "board", "words", "fresh"]
abbrev Ks:List Str:=bV.take 3
theorem bN:ah bV Ks (Zi Ku):=bE
abbrev ZJ:Stmt:=Zp (top 19) 12
abbrev gy:List Str:=["self", "k", "board", "words", "fresh", "out", "out_words", "out_fresh"]
abbrev ZC:List Str:=gy.take 5
theorem fC:ah gy ZC (Zi ZJ):=bE
abbrev Kp:Stmt:=Zp (top 19) 13
abbrev cu:List Str:=["self", "k", "board", "words", "fresh"]
abbrev ZK:List Str:=cu.take 5
theorem bT:ah cu ZK (Zi Kp):=bE
abbrev pQ:Stmt:=top 21
abbrev uZ:List Str:=["_law_script", "_law_k", "_law_cell"]
abbrev qQ:List Str:=uZ.take 2
theorem pN:ah uZ qQ (Zi pQ):=bE
abbrev HE:Stmt:=top 22
abbrev qT:List Str:=["_law_box_here", "_law_size", "_law_found", "_law_step", "_law_once", "_law_twice"]
abbrev sU:List Str:=qT.take 2
theorem nI:ah qT sU (Zi HE):=bE
abbrev IM:Stmt:=top 23
abbrev lY:List Str:=["_law_script", "_law_size", "_law_cells", "_law_k", "_law_cell"]
abbrev IL:List Str:=lY.take 2
theorem jR:ah lY IL (Zi IM):=bE
abbrev uR:Stmt:=top 24
abbrev m6:List Str:=["_law_found", "_law_due"]
abbrev rG:List Str:=m6.take 2
theorem nJ:ah m6 rG (Zi uR):=bE
abbrev Jk:Stmt:=top 25
abbrev iP:List Str:=["_law_box_here", "_law_far", "_law_shelves", "_law_places", "_law_rule"]
abbrev Jj:List Str:=iP.take 1
theorem gK:ah iP Jj (Zi Jk):=bE
abbrev Dn:Stmt:=top 26
abbrev m7:List Str:=["_law_box_here", "_law_kind", "_law_size"]
abbrev HD:List Str:=m7.take 1
theorem nK:ah m7 HD (Zi Dn):=bE
abbrev Ed:Stmt:=top 27
abbrev cV:List Str:=["_law_box_here", "_law_size", "_law_many_here", "_law_way", "_law_begin", "_law_first", "_law_found", "_law_far", "_law_k", "_law_at"]
abbrev JH:List Str:=cV.take 2
theorem fm:ah cV JH (Zi Ed):=bE
abbrev HC:Stmt:=top 28
abbrev qR:List Str:=["_law_box_here", "_law_way", "_law_number", "_law_turn"]
abbrev HB:List Str:=qR.take 1
theorem nF:ah qR HB (Zi HC):=bE
abbrev HA:Stmt:=top 29
abbrev qW:List Str:=["_law_box_here", "_law_size", "_law_some", "_law_write", "_law_spot"]
abbrev Hz:List Str:=qW.take 3
theorem nM:ah qW Hz (Zi HA):=bE
abbrev Hy:Stmt:=top 30
abbrev qU:List Str:=["_law_box_here", "_law_few", "_law_most", "_law_great"]
abbrev Hx:List Str:=qU.take 3
theorem nL:ah qU Hx (Zi Hy):=bE
abbrev Hw:Stmt:=top 31
abbrev qS:List Str:=["_law_stairs", "_law_deed_here", "_law_book", "_law_word_here", "_law_events"]
abbrev Hv:List Str:=qS.take 3
theorem nG:ah qS Hv (Zi Hw):=bE
abbrev Jp:Stmt:=top 32
abbrev jy:List Str:=["_law_stairs", "_law_size", "_law_some", "_law_book", "_law_board", "_law_k", "_law_spot"]
abbrev Jo:List Str:=jy.take 4
theorem iH:ah jy Jo (Zi Jp):=bE
abbrev DJ:Stmt:=top 33
abbrev kK:List Str:=["_law_book"]
abbrev Ik:List Str:=kK.take 1
theorem kX:ah kK Ik (Zi DJ):=bE
abbrev DH:Stmt:=top 34
abbrev kJ:List Str:=["_law_box_here", "_law_size", "_law_kind", "_law_rooms", "_law_other", "_law_some", "_law_book", "_law_both", "_law_turn", "_law_deed_here", "_law_stairs"]
abbrev Ij:List Str:=kJ.take 1
theorem kW:ah kJ Ij (Zi DH):=bE
abbrev gj:Stmt:=top 35
abbrev qV:List Str:=["_law_script", "_law_cells"]
abbrev lW:List Str:=qV.take 1
theorem pM:ah qV lW (Zi gj):=bE
structure Txt (K:W.Frag) (mg:Str->Option Value):Prop where
 CM:mg "abs" = none
 zZ:mg "all" = none
 CO:mg "bool" = none
 F3:mg "divmod" = none
 BV:mg "enumerate" = none
 xR:mg "int" = none
 oY:mg "isinstance" = none
 rO:mg "len" = none
 pG:mg "list" = none
 CL:mg "max" = none
 Gd:mg "min" = none
 mF:mg "range" = none
 wZ:mg "sorted" = none
 zW:mg "str" = none
 z9:mg "tuple" = none
 CK:mg "zip" = none
 fS:mw K (aa K "Room")
 LM:aO K (aa K "Room") "places"
 F8:aO K (aa K "Room") "rule"
 LN:aO K (aa K "Room") "shelves"
 LO:aO K (aa K "Room") "standing"
 vj:aO K (aa K "Room") "uses"
 gk:mw K (aa K "Store")
 Ey:aO K (aa K "Store") "fresh"
 yG:aO K (aa K "Store") "held"
 ER:aO K (aa K "Store") "late"
 uc:aO K (aa K "Store") "room"
 pU:mw K (aa K "Memory")
 yH:aO K (aa K "Memory") "kept"
 Ex:aO K (aa K "Memory") "size"
 aN:mw K (aa K "Stairs")
 BX:aO K (aa K "Stairs") "bottom"
 vh:aO K (aa K "Stairs") "events"
 EU:aO K (aa K "Stairs") "kind"
 oZ:aO K (aa K "Stairs") "last"
 vm:aO K (aa K "Stairs") "size"
 nR:aO K (aa K "Stairs") "stores"
structure aE (H:Hp) (b:Addr) (a q c:Int):Prop where
 at':H b=some (.lst [.int a,.int q,.int c])
 a0:0<=a
 q0:0<=q
 q1:q<2147483647
 c0:0<=c
theorem aE.sb {H H':Hp} {b x:Addr} {a q c:Int} (B:aE H b a q c) (s:SB x H H') (n:b≠x):aE H' b a q c:=⟨s _ _ n B.at',B.a0,B.q0,B.q1,B.c0⟩
theorem aE.same {H H':Hp} {b:Addr} {a q c:Int} (B:aE H b a q c) (s:aB H H'):aE H' b a q c:=⟨s _ _ B.at',B.a0,B.q0,B.q1,B.c0⟩
def uQ:Sp:=λvs H Q _=>∃ (b:Addr) (a q c n:Int),vs=[.ref b,.int n]/\aE H b a q c/\c<1099511627776/\0<n/\n<1073741824 /\
 ∀ (r a' c':Int) (H':Hp),0<=r->r<n->aE H' b a' q c'->c'<=c+1->SB b H H'->Q (.int r) H'
section
theorem wc (a:Int) {b:Int} (h:0<b):0<=a % b:=a4n a (by lia)
theorem v7 (a:Int) {b:Int} (h:0<b):a % b<b:=aUj a h
theorem Vx (F:aZ K "_law_take" "_law_take" HE f fd) (T:Txt K mg):au P w K mg base aW 1 f fd sU uQ:=by
 refine F.ok nI (λvs H Q E h=>?_) (λcdv A outer s H vs Q E hr h=>?_)
 .obtain ⟨b,a,q,c,n,rfl,_⟩:=h
  rfl
 obtain ⟨b,a,q,c,n,rfl,B,hc,hn0,hn1,k⟩:=h
 have nd:=nI.nd
 refine ⟨_,(Zd (aH (Zv zD (az (Zq (K:=K) rfl) (pv 0) Zj (λ_ _=>rfl)) Zj (Zw _)) (Zd (lR (Zs YW rfl T.F3 YU (pc (az (Zq (K:=K) rfl) (pv 0) Zj (λ_ _=>rfl)) (pc (pv 1) Zb))) (ZV (K:=K) (n:=2) rfl rfl (Zr (wD (pv 0) Zj wO) (Zr (bQ 2 nd) ZT))))
   (Zh (Zt (pv 2)))) Zu)
   (Zd (lR (ak ZA (az (Zq (K:=K) rfl) (pv 0) Zj (λ_ _=>rfl)) Zj) (wD (pv 0) Zj wO))
   (Zd (cF 3 nd (ak ZA Zj (ak oj (az (Zq (K:=K) rfl) (pv 0) Zj (λ_ _=>rfl)) (az (Zq (K:=K) rfl) (pv 0) Zj (λ_ _=>rfl)))))
   (Zd (cF 4 nd (ak oJ (ak oj (ak ZA (az (Zq (K:=K) rfl) (pv 0) Zj (λ_ _=>rfl)) (ak oj Zj (az (Zq (K:=K) rfl) (pv 0) Zj (λ_ _=>rfl)))) (pv 3)) Zj))
   (Zd (cF 5 nd (ak oJ (ak ZA (ak oj (pv 4) (ak ZA (ak oJ (pv 4) Zj) Zj)) (az (Zq (K:=K) rfl) (pv 0) Zj (λ_ _=>rfl))) Zj))
   (Zh (Zt (ak oJ (ak yq (ak oJ (ak oj (pv 5) (ak ZA (ak oJ (pv 5) Zj) Zj)) Zj) Zj) (pv 1))))))))),?_⟩
 have hb:=B.at'
 have hc0:=B.c0
 have LY:=B.q0
 have hq1:=B.q1
 refine ⟨_,rfl,b,_,_,_,rfl,rfl,aF.of hb,gF,_,_,rfl,rfl,_,rfl,?_⟩
 refine mW (λha=>?_) (λha=>?_)
 .refine ⟨_,rfl,b,_,_,_,rfl,rfl,aF.of hb,gF,_,rfl,_,_,rfl,⟨hn0,hn1⟩,λp hp=>?_⟩
  have TQ:upd H p (.tup [.int (a / n),.int (a % n)]) b=some (.lst [.int a,.int q,.int c]):=by rw [Zc (Ze hb hp)]; exact hb
  refine ⟨p,_,rfl,bB.of Za,rfl,_,_,rfl,⟨_,rfl,b,_,_,0,rfl,rfl,TQ,rfl,?_⟩⟩
  refine ⟨_,_,rfl,rfl,_,rfl,?_⟩
  exact k _ (a / n) c _ (wc _ hn0) (v7 _ hn0) ⟨Za,Int.ediv_nonneg B.a0 (by lia),LY,hq1,hc0⟩ (by lia) ((Zg hp _).sb b |>.trans (ya b _ _))
 .refine ⟨_,rfl,b,_,_,_,rfl,rfl,aF.of hb,ju,_,_,rfl,rfl,_,rfl,b,_,_,2,rfl,rfl,hb,rfl,?_⟩
  have hb1:upd H b (.lst [.int a,.int q,.int (c+1)]) b=some (.lst [.int a,.int q,.int (c+1)]):=Za
  have i0:aF K (upd H b (.lst [.int a,.int q,.int (c+1)])) b [.int a,.int q,.int (c+1)]:=aF.of hb1
  refine ⟨_,rfl,b,_,_,_,rfl,rfl,i0,ju,_,rfl,b,_,_,_,rfl,rfl,i0,ju,_,_,rfl,rfl,.inl ⟨by lia,by lia⟩,_,_,rfl,rfl,?_⟩
  refine ⟨_,rfl,b,_,_,_,rfl,rfl,i0,iz,_,rfl,b,_,_,_,rfl,rfl,i0,ju,_,_,rfl,rfl,.inl ⟨by decide,by decide⟩,_,_,rfl,rfl,_,rfl,_,_,rfl,rfl,.inl ⟨by lia,by lia⟩,_,_,rfl,rfl,(by show (0:Int)<_; decide),?_⟩
  generalize L0:(q+39373 * (c+1)) * (69621+(c+1) * (c+1)) % 2147483587=on
  have on0:0<=on:=by rw [← L0]; exact wc _ (by decide)
  have on1:on<2147483587:=by rw [← L0]; exact v7 _ (by decide)
  refine ⟨_,rfl,_,rfl,_,_,rfl,rfl,(by show (0:Int)<_; decide),_,_,rfl,rfl,_,_,rfl,rfl,.inl ⟨by lia,by lia⟩,_,rfl,b,_,_,_,rfl,rfl,i0,ju,_,_,rfl,rfl,_,_,rfl,rfl,(by show (0:Int)<_; decide),?_⟩
  generalize htw:(on * (on % 30011+5)+(c+1)) % 2147483563=tw
  have tw0:0<=tw:=by rw [← htw]; exact wc _ (by decide)
  have tw1:tw<2147483563:=by rw [← htw]; exact v7 _ (by decide)
  refine ⟨_,rfl,_,rfl,_,_,rfl,rfl,(by show (0:Int)<_; decide),_,_,rfl,rfl,_,_,rfl,rfl,.inl ⟨by lia,by lia⟩,_,_,rfl,rfl,(by show (0:Int)<_; decide),_,_,rfl,rfl,⟨by decide,by decide⟩,_,rfl,_,_,rfl,rfl,hn0,?_⟩
  exact k _ a (c+1) _ (wc _ hn0) (v7 _ hn0) ⟨hb1,B.a0,LY,hq1,by lia⟩ (by lia) (ya b _ _)
end
section
def tX (K:W.Frag):Sp:=λvs H Q _=>∃ (l:Addr) (ns:List Int) (k:Int),vs=[.ref l,.int k]/\aF K H l (ns.map V.int)/\0<=k/\k<1000000 /\
 ∀ (r:Addr) (a q:Int) (H':Hp),H r=none->aB H H'->aE H' r a q 0->Q (.ref r) H'
theorem uo (b:Bool) : -(2 ^ 64)<(if b then 1 else 0:Int)/\(if b then 1 else 0:Int)<2 ^ 64:=by cases b <;> decide
theorem Ou {ns:List Int} {k:Int} (h0:0<=k) (h:k<(ns.length:Int)):∃ v:Int,fX (ns.map V.int) k=some (.int v):=by
 have hk:k.toNat<ns.length:=by lia
 have q:fX (ns.map V.int) ((k.toNat:Nat):Int)=some (.int ns[k.toNat]):=qN (by rw [aC3,adk hk] <;> rfl)
 rw [show ((k.toNat:Nat):Int)=k by lia] at q
 exact ⟨_,q⟩
theorem U3 (i:Int):0<=(if i<0 then -i else i):=by split <;> lia
theorem ND (i:Int) (b:Bool):0<=(if i<0 then -i else i) * (if b then 1 else 0:Int):=Int.mul_nonneg (U3 i) (by cases b <;> decide)
theorem U0 (F:aZ K "_law_box" "_law_box" pQ f fd) (T:Txt K mg):au P w K mg base aW 1 f fd qQ (tX K):=by
 refine F.ok pN (λvs H Q E h=>?_) (λcdv A outer s H vs Q E hr h=>?_)
 .obtain ⟨l,ns,k,rfl,_⟩:=h
  rfl
 obtain ⟨l,ns,k,rfl,hS,hk0,hk1,kk⟩:=h
 have nd:=pN.nd
 refine ⟨_,(Zd (cF 2 nd (wQ (Zv jg (pv 1) (Zs (ZH (K:=K) rfl) rfl T.rO aYI (pc (pv 0) Zb)) (Zw _)) (az (Zq (K:=K) rfl) (pv 0) (pv 1) (λ_ _=>rfl)) Zj))
   (Zh (Zt (mh (pc (ak oj (Zs OE rfl T.CM O0 (pc (pv 2) Zb)) (uX Ji rfl T.xR D5 (pc (qO zE (Zs OE rfl T.CM O0 (pc (pv 2) Zb)) (ak HH Zj Zj) (Zw _)) Zb))) (pc (ak oJ (ak oj (ak ZA (ak ZA (ak oJ (pv 2) Zj) (ak oj Zj (pv 1))) Zj) Zj) Zj) (pc Zj Zb))))))),?_⟩
 refine ⟨_,rfl,_,rfl,l,_,rfl,.inl hS,_,_,rfl,rfl,_,rfl,?_⟩
 refine mW (λc=>?_) (λc=>?_)
 .rw [afy] at c
  obtain ⟨v,hv⟩:=Ou hk0 c
  refine ⟨_,rfl,_,rfl,l,_,_,_,rfl,rfl,hS,hv,?_⟩
  refine ⟨_,rfl,_,rfl,_,rfl,_,rfl,_,_,rfl,rfl,⟨by decide,by decide,by decide⟩,_,_,rfl,rfl,.inr ⟨_,rfl,_,_,rfl,rfl,.inr (uo _),?_⟩⟩
  refine ⟨_,rfl,_,_,rfl,rfl,(by show (0:Int)<_; decide),_,rfl,_,_,rfl,rfl,.inl ⟨by decide,by decide⟩,_,_,rfl,rfl,_,_,rfl,rfl,_,_,rfl,rfl,.inr ⟨by decide,by decide⟩,_,_,rfl,rfl,(by show (0:Int)<_; decide),(sl 3),λr hr=>?_⟩
  exact kk r _ _ _ hr (Zg hr _) ⟨Za,ND _ _,wc _ (by decide),v7 _ (by decide),aKB _⟩
 .refine ⟨_,rfl,_,rfl,_,rfl,_,rfl,_,_,rfl,rfl,⟨by decide,by decide,by decide⟩,_,_,rfl,rfl,.inr ⟨_,rfl,_,_,rfl,rfl,.inr (uo _),?_⟩⟩
  refine ⟨_,rfl,_,_,rfl,rfl,(by show (0:Int)<_; decide),_,rfl,_,_,rfl,rfl,.inl ⟨by decide,by decide⟩,_,_,rfl,rfl,_,_,rfl,rfl,_,_,rfl,rfl,.inr ⟨by decide,by decide⟩,_,_,rfl,rfl,(by show (0:Int)<_; decide),(sl 3),λr hr=>?_⟩
  exact kk r _ _ _ hr (Zg hr _) ⟨Za,ND _ _,wc _ (by decide),v7 _ (by decide),aKB _⟩
def Ot (K:W.Frag):Sp:=λvs H Q _=>∃ (a:Addr) (ns:List Int) (n:Nat),vs=[.ref a,.int (n:Int)]/\aF K H a (ns.map V.int)/\ns.length<=63/\0<n/\n<=63 /\
 ∀ (r:Addr) (ms:List Int) (H':Hp),H r=none->aB H H'->H' r=some (.lst (ms.map V.int))->ms.length=min n ns.length->Q (.ref r) H'
theorem NC (ns:List Int) (lo hi:Option Int):lG (ns.map V.int) lo hi=((ns.drop (HT.iK ns.length 0 lo)).take (HT.iK ns.length ns.length hi - HT.iK ns.length 0 lo)).map V.int:=by
 unfold lG
 rw [afy,← List.map_drop,← List.map_take]
theorem DT (ms:List Int) (j:Nat) (v:Int):(ms.map V.int).set j (.int v)=(ms.set j v).map V.int:=by rw [map_set]
theorem Hu {n:Nat} {i:Int} (h0:0<=i) (h:i<n):pq n i=some i.toNat:=by unfold pq; rw [ajr h0,ajr h]
theorem UZ {ms:List Int} {i:Nat} {x:V} (h:(ms.map V.int)[i]?=some x):∃ z,x=V.int z/\i<ms.length:=by
 rw [aC3] at h
 cases e:ms[i]? with
 | none=>rw [e] at h; cases h
 | some z=>rw [e] at h; exact ⟨z,(aGB h).symm,(a7Y.mp e).1⟩
theorem Xk (F:aZ K "_law_folded" "_law_folded" IM f fd) (T:Txt K mg):au P w K mg base aW 1 f fd IL (Ot K):=by
 refine F.ok jR (λvs H Q E h=>?_) (λcdv A outer s H vs Q E hr h=>?_)
 .obtain ⟨a,ns,n,rfl,_⟩:=h
  rfl
 obtain ⟨a,ns,n,rfl,hS,h63,hn0,hn1,k⟩:=h
 have nd:=jR.nd
 refine ⟨_,(Zd (cF 2 nd (uX (Ei (K:=K) rfl) rfl T.pG ZY (pc (O8 (OY (K:=K) rfl) (pv 0) Wm (Ir (pv 1))) Zb)))
   (Zd (om akt rfl (N8 rfl T.BV (pc (O8 (OY (K:=K) rfl) (pv 0) (Ir (pv 1)) (Ir Zj)) Zb)) (ZV (K:=K) (n:=2) rfl rfl (Zr (bQ 3 nd) (Zr (bQ 4 nd) ZT))) (Zh (lR (ak ZA (az (Zq (K:=K) rfl) (pv 2) (ak oJ (pv 3) (pv 1)) (λ_ _=>rfl)) (ak oj (pv 4) (ak ZA (pv 3) Zj))) (wD (pv 2) (ak oJ (pv 3) (pv 1)) wO))))
   (Zh (Zt (pv 2))))),?_⟩
 refine ⟨_,rfl,_,rfl,_,rfl,a,_,rfl,hS,λp hp=>?_⟩
 have s1:=Zg hp (.lst (lG (ns.map V.int) none (some (n:Int))))
 refine ⟨p,_,rfl,.inl (aF.of Za),λr hr1=>?_⟩
 have s2:=s1.trans (Zg hr1 (.lst (lG (ns.map V.int) none (some (n:Int)))))
 have LX:H r=none:=s1.free hr1
 rw [NC] at *
 generalize hms:(ns.drop (HT.iK ns.length 0 none)).take (HT.iK ns.length ns.length (some (n:Int)) - HT.iK ns.length 0 none)=ms at *
 have SV:ms.length=min n ns.length:=by
  rw [← hms,HT.pR,HT.nQ,aVk,aYp]; lia
 generalize T3:upd (upd H p (.lst (ms.map V.int))) r (.lst (ms.map V.int))=H2 at *
 have Mj:H2 r=some (.lst (ms.map V.int)):=by rw [← T3]; exact Za
 refine ⟨_,rfl,_,rfl,_,rfl,_,rfl,a,_,rfl,s2.seq hS,λt ht=>?_⟩
 rw [NC]
 generalize hws:(ns.drop (HT.iK ns.length 0 (some (n:Int)))).take (HT.iK ns.length ns.length (some 63) - HT.iK ns.length 0 (some (n:Int)))=ws
 have kE:0<ws.length->n<ns.length:=λh=>by
  rw [← hws,aVk,aYp,HT.nQ] at h; lia
 have SN:ws.length<=63:=by rw [← hws,aVk,aYp]; lia
 have s3:=s2.trans (Zg ht (.lst (ws.map V.int)))
 have Lu:r≠t:=Ze Mj ht
 refine ⟨t,rfl,⟨_,aF.of Za⟩,OZ (K:=K) (a:=t) (xs:=ws.map V.int) (λi σ H'=>∃ (ms':List Int) (v3 v4:Option V),σ=[some (.ref a),some (.int n),some (.ref r),v3,v4]/\ms'.length=min n ns.length/\H' r=some (.lst (ms'.map V.int))/\H' t=some (.lst (ws.map V.int))/\aB H H')
  ⟨ms,none,none,rfl,SV,by rw [Zc Lu]; exact Mj,Za,s3⟩ (λi σ H' _ ⟨_,_,_,_,_,_,q,_⟩=>aF.of q) ?_ ?_⟩
 .rintro i x u σ H' hi ⟨ms',v3,v4,rfl,lm,h1,h2,s4⟩ hu
  obtain ⟨z,rfl,hlt⟩:=UZ hi
  have hnl:=kE (by lia)
  have s5:=Zg hu (.tup [.int (i:Int),.int z])
  refine ⟨u,_,rfl,bB.of Za,rfl,_,_,rfl,_,_,rfl,rfl,?_⟩
  have m0:0<=(i:Int) % (n:Int):=wc _ (by lia)
  have m1:(i:Int) % (n:Int)<(n:Int):=v7 _ (by lia)
  obtain ⟨v,hv⟩:=Ou (ns:=ms') m0 (by lia)
  refine ⟨_,rfl,_,rfl,_,rfl,_,_,rfl,rfl,(by show (0:Int)<_; lia),r,_,_,_,rfl,rfl,aF.of (s5 _ _ h1),hv,?_⟩
  refine ⟨_,rfl,_,rfl,_,_,rfl,rfl,_,_,rfl,rfl,.inr ⟨by lia,by lia⟩,_,_,rfl,rfl,?_⟩
  refine ⟨_,rfl,_,rfl,_,rfl,_,_,rfl,rfl,(by show (0:Int)<_; lia),r,_,_,((i:Int) % (n:Int)).toNat,rfl,rfl,s5 _ _ h1,Hu m0 (by rw [afy]; lia),?_⟩
  refine ⟨ms'.set ((i:Int) % (n:Int)).toNat (v+z * ((i:Int)+2)),_,_,rfl,by rw [akS]; exact lm,by rw [Za,DT],?_,?_⟩
  .rw [Zc (aFS Lu)]; exact s5 _ _ h2
  .intro b o e
   rw [Zc (Ze e LX)]
   exact s5 _ _ (s4 _ _ e)
 .rintro σ H' ⟨ms',v3,v4,rfl,lm,h1,h2,s4⟩
  exact ⟨_,rfl,k r ms' H' LX s4 h1 lm⟩
end
theorem hide {t u:TS} {D:Ends} {σ:St} {H:Hp} (h:∀ u',u'=u->pI t u' D σ H):pI t u D σ H:=h u rfl
theorem De {te:TE} {g:TG} {u:TS} {D:Ends} {σ:St} {H:Hp} (Post:V->Hp->Prop) (h1:∀ Q':VK,(∀ v H1,Post v H1->Q' v H1)->te σ H Q') (h2:∀ v H1,Post v H1->g v σ H1 (u D)):pI (ow te g) u D σ H:=h1 _ h2
theorem x9 {ts u:TS} {D:Ends} {σ:St} {H:Hp} (Post:St->Hp->Prop) (h1:∀ D':Ends,D'.rt=D.rt->(∀ σ1 H1,Post σ1 H1->D'.nx σ1 H1)->ts D' σ H) (h2:∀ σ1 H1,Post σ1 H1->u D σ1 H1):pI ts u D σ H:=h1 _ rfl h2
theorem uJ {tt:TT} {ta tb:TS} {D:Ends} {σ:St} {H:Hp} (Post:Bool->Hp->Prop) (h1:∀ Q':Bool->Hp->Prop,(∀ v H1,Post v H1->Q' v H1)->tt σ H Q') (h2:∀ c H1,Post c H1->if c=true then ta D σ H1 else tb D σ H1):yO tt ta tb D σ H:=h1 _ h2
theorem Hg {t u:TT} {σ:St} {H:Hp} {Q:Bool->Hp->Prop} (Post:Bool->Hp->Prop) (h1:∀ Q':Bool->Hp->Prop,(∀ v H1,Post v H1->Q' v H1)->t σ H Q') (h2:∀ c H1,Post c H1->if c=true then Q true H1 else u σ H1 Q):Lg t u σ H Q:=h1 _ h2
theorem yt {b l:Addr} {H G:Hp} {xs:List V} (s:SB b H G) (hb:G b=some (.lst xs)) (hl:G l=none):H l=none:=by
 cases e:H l with
 | none=>rfl
 | some o =>
  by_cases h:l=b
  .rw [h,hb] at hl; cases hl
  .rw [s _ _ h e] at hl; cases hl
theorem UY {ns:List Int} {k:Int} (h0:0<=k) (h:k<(ns.length:Int)):∃ v:Int,fX (ns.map V.int) k=some (.int v)/\v∈ns:=by
 have hk:k.toNat<ns.length:=by lia
 have q:fX (ns.map V.int) ((k.toNat:Nat):Int)=some (.int ns[k.toNat]):=qN (by rw [aC3,adk hk] <;> rfl)
 rw [show ((k.toNat:Nat):Int)=k by lia] at q
 exact ⟨_,q,a3i hk⟩
theorem Ph (ns:List Int):(ns.map V.int).all gY=true:=by
 rw [aaC]
 intro x hx
 obtain ⟨n,_,rfl⟩:=au8.mp hx
 rfl
theorem W7 {n:Nat} (h:0<n):pq n (-1)=some (n - 1):=by
 unfold pq
 rw [aBJ (by decide),ajr (by lia)]
 congr 1
 lia
theorem Ii {ns:List Int} {j:Nat} {v x:Int} (h:x∈ns.set j v):x∈ns\/x=v:=by
 rcases al0 h with h | h
 .exact .inl h
 .exact .inr h
theorem ym {i j:Int} {A B:Prop} (h1:i=j->A) (h2:¬ i=j->B):if decide (V.int i=V.int j)=true then A else B :=
 mW (λe=>h1 (by injection e)) (λe=>h2 λz=>e (by rw [z]))
theorem cW {b:Bool} {A B:Prop} (h:b=false) (hB:B):if b=true then A else B:=by subst h; rw [aBJ am8]; exact hB
theorem fT {b:Bool} {A B:Prop} (h:b=true) (hA:A):if b=true then A else B:=by subst h; rw [ajr rfl]; exact hA
theorem IJ {α:Type} {xs:List α} {i:Int} (h0:0<=i) (h1:i<(xs.length:Int)):∃ v,fX xs i=some v/\v∈xs:=by
 have hk:i.toNat<xs.length:=by lia
 have q:fX xs ((i.toNat:Nat):Int)=some xs[i.toNat]:=qN (adk hk)
 rw [show ((i.toNat:Nat):Int)=i by lia] at q
 exact ⟨_,q,a3i hk⟩
theorem MW (x y:Int) (k:Bool):∃ n:Int,fX [V.int x,V.int y] (if k=true then 1 else 0)=some (.int n)/\(n=x\/n=y):=by
 cases k with
 | true=>exact ⟨y,iz,.inr rfl⟩
 | false=>exact ⟨x,gF,.inl rfl⟩
theorem zu (x y r:Int) (h0:0<=r) (h1:r<2):∃ n:Int,fX [V.int x,V.int y] r=some (.int n)/\(n=x\/n=y):=by
 have h:r=0\/r=1:=by lia
 rcases h with rfl | rfl
 .exact ⟨x,gF,.inl rfl⟩
 .exact ⟨y,iz,.inr rfl⟩
theorem UX (r:Int) (h0:0<=r) (h1:r<4):∃ n:Int,fX [V.int 1,V.int 1,V.int 12,V.int 24] r=some (.int n)/\(n=1\/n=12\/n=24):=by
 obtain ⟨x,hx,m⟩:=IJ (xs:=[V.int 1,V.int 1,V.int 12,V.int 24]) h0 (by show r<((4:Nat):Int); lia)
 simp only [aOs,azX,avK] at m
 rcases m with rfl | rfl | rfl | rfl
 .exact ⟨_,hx,.inl rfl⟩
 .exact ⟨_,hx,.inl rfl⟩
 .exact ⟨_,hx,.inr (.inl rfl)⟩
 .exact ⟨_,hx,.inr (.inr rfl)⟩
theorem zp (r:Int) (h0:0<=r) (h1:r<5):∃ v,fX [V.int 1,V.int 1,V.int 2,V.int 3,V.int 4] r=some (.int v)/\1<=v/\v<=64:=by
 obtain ⟨x,hx,m⟩:=IJ (xs:=[V.int 1,V.int 1,V.int 2,V.int 3,V.int 4]) h0 (by show r<((5:Nat):Int); lia)
 simp only [aOs,azX,avK] at m
 rcases m with rfl | rfl | rfl | rfl | rfl <;> exact ⟨_,hx,by decide,by decide⟩
def tH (z:Str):Prop:=z = "old" \/ z = "come" \/ z = "few"
theorem zo (r:Int) (h0:0<=r) (h1:r<3):∃ z:Str,fX [V.str "old",V.str "come",V.str "few"] r=some (.str z)/\tH z:=by
 obtain ⟨x,hx,m⟩:=IJ (xs:=[V.str "old",V.str "come",V.str "few"]) h0 (by show r<((3:Nat):Int); lia)
 simp only [aOs,azX,avK] at m
 rcases m with rfl | rfl | rfl
 .exact ⟨_,hx,.inl rfl⟩
 .exact ⟨_,hx,.inr (.inl rfl)⟩
 .exact ⟨_,hx,.inr (.inr rfl)⟩
theorem Xj {s:Int} (h0:1<=s) (h1:s<=16):555<=9999 / s/\9999 / s<=9999/\1<=(if 10000 / s - 480 > 1 then 10000 / s - 480 else 1)/\(if 10000 / s - 480 > 1 then 10000 / s - 480 else 1)+455<=9999 / s:=by
 have key:∀ n:Fin 17,1<=(n.val:Int)->(555<=9999 / (n.val:Int)/\9999 / (n.val:Int)<=9999/\1<=(if 10000 / (n.val:Int) - 480 > 1 then 10000 / (n.val:Int) - 480 else 1)/\(if 10000 / (n.val:Int) - 480 > 1 then 10000 / (n.val:Int) - 480 else 1)+455<=9999 / (n.val:Int)):=by decide +kernel
 have e:((⟨s.toNat,by lia⟩:Fin 17).val:Int)=s:=by show ((s.toNat:Nat):Int)=s; lia
 have q:=key ⟨s.toNat,by lia⟩ (by rw [e]; exact h0)
 rw [e] at q
 exact q
def Eu (t:Int) (ns:List Int):Prop:=∀ n∈ns,0<=n/\n<=t
def K0 (t:Int) (ns:List Int):Prop:=∃ x∈ns,x+1<=t
theorem MV {ns:List Int} {k:Int} (h0:0<=k) (h:k<(ns.length:Int)):∃ v:Int,fX (ns.map V.int) k=some (.int v)/\ns[k.toNat]?=some v:=by
 have hk:k.toNat<ns.length:=by lia
 have q:fX (ns.map V.int) ((k.toNat:Nat):Int)=some (.int ns[k.toNat]):=qN (by rw [aC3,adk hk] <;> rfl)
 rw [show ((k.toNat:Nat):Int)=k by lia] at q
 exact ⟨_,q,adk hk⟩
theorem W6 {ns:List Int} {i j:Nat} {x1 x2 x:Int} (h1:ns[j]?=some x1) (h2:ns[i]?=some x2) (h:x∈ns):x∈(ns.set i x1).set j x2:=by
 obtain ⟨p,hp⟩:=aQ3 h
 have li:=(a7Y.mp h2).1
 have lj:=(a7Y.mp h1).1
 by_cases e:p=i
 .subst e
  rw [h2] at hp; cases hp
  exact a7T (ai7 (i:=j) (by rw [akS]; exact lj))
 .by_cases e':p=j
  .subst e'
   rw [h1] at hp; cases hp
   refine a7T (i:=i) ?_
   rw [aM1 e,ai7 li]
  .refine a7T (i:=p) ?_
   rw [aM1 (λz=>e' z.symm),aM1 (λz=>e z.symm)]
   exact hp
section
def Oq:Sp:=λvs H Q _=>∃ (b:Addr) (a q c s:Int),vs=[.ref b,.int s]/\aE H b a q c/\c<500000000/\1<=s/\s<=16 /\
 ∀ (l:Addr) (ns:List Int) (a' c':Int) (H':Hp),H l=none->H' l=some (.lst (ns.map V.int))->3<=ns.length->ns.length<=20->Eu (9999 / s) ns->K0 (9999 / s) ns->aE H' b a' q c'->c'<=c+40->SB b H H'->Q (.ref l) H'
theorem Zfn (F:aZ K "_law_some_boards" "_law_some_boards" Ed f fd) (T:Txt K mg) (cO:Def P w K mg base "_law_take" 1 sU uQ):au P w K mg base aW 2 f fd JH Oq:=by
 refine F.ok fm (λvs H Q E h=>?_) (λcdv A outer st H vs Q E hr h=>?_)
 .obtain ⟨b,a,q,c,s,rfl,_⟩:=h
  rfl
 obtain ⟨b,a,q,c,s,rfl,B,hc,hs0,hs1,k⟩:=h
 have nd:=fm.nd
 obtain ⟨RA,Rz,m0,m1⟩:=Xj hs0 hs1
 refine ⟨_,(Zd (cF 2 nd (ak ZA Zj (Zm cO hr.m rfl (pc (pv 0) (pc (az (Zq (K:=K) rfl) (mh (pc Zj (pc Zj Zb))) (uX Ji rfl T.xR D5 (pc (qO aY (Zm cO hr.m rfl (pc (pv 0) (pc Zj Zb))) Zj (Zw _)) Zb)) (λ_ _=>rfl)) Zb)))))
   (Zd (lR (j4 (pc (Zm cO hr.m rfl (pc (pv 0) (pc Zj Zb))) (pc (Zm cO hr.m rfl (pc (pv 0) (pc Zj Zb))) Zb))) (ZV (K:=K) (n:=2) rfl rfl (Zr (bQ 3 nd) (Zr (bQ 4 nd) ZT))))
   (Zd (cF 5 nd (wQ (Zv jg (pv 4) Zj (Zw _)) (pv 4) (Zm cO hr.m rfl (pc (pv 0) (pc (az (Zq (K:=K) rfl) (mh (pc Zj (pc (Zs (Pn rfl) rfl T.CL O3 (pc Zj (pc (ak uU (ak yq Zj (pv 1)) Zj) Zb))) Zb))) (ak uU (pv 4) Zj) (λ_ _=>rfl)) Zb)))))
   (Zd (WM 6 (tE (jJ:=(Zi Ed)) (oN:=cV) (N:=["_law_k", "_law_first", "_law_way"]) (own:=1) (js:=[5,3]) (by decide +kernel) rfl rfl) rfl nd rfl rfl (tF rfl T.mF (pc (pv 2) Zb)) (λ_ _ _ _ _ _=>(bQ 0 (show List.Nodup (["_law_k", "_law_first", "_law_way"]:List Str) by decide +kernel))) (λ_ _ _ _ _ _=>(ak ZA (pv 1) (ak oj (az (Zq (K:=K) rfl) (mh (pc Zj (pc Zj (pc Zj (pc Zj Zb))))) (pv 2) (λ_ _=>rfl)) (pv 0)))))
   (Zd (cF 7 nd (wQ (Zv aY (Zm cO hr.m rfl (pc (pv 0) (pc Zj Zb))) Zj (Zw _)) (ak yq Zj (pv 1)) (Zm cO hr.m rfl (pc (pv 0) (pc (ak ZA Zj (ak yq Zj (pv 1))) Zb)))))
   (Zd (aH (PW.pt (pw_or (PW.pt (HJ (Zv aY (pv 3) Zj (Zw _)) (Iv (Zv (P4 (K:=K) rfl) (pv 7) (pv 6) rfl)))) (Dt (PW.pt (HJ (Zv aY (pv 7) (ak yq Zj (pv 1)) (Zw _)) (Iv (Zv (P4 (K:=K) rfl) (pv 7) (pv 6) rfl))))))) (Zh (lR (pv 7) (wD (pv 6) (jU yc Zj) wO))) Zu)
   (Zd (om akt rfl (tF rfl T.mF (pc (ak uU (pv 2) Zj) Zb)) (bQ 8 nd) (Zd (cF 9 nd (ak ZA (pv 8) (Zm cO hr.m rfl (pc (pv 0) (pc (ak uU (pv 2) (pv 8)) Zb)))))
   (Zh (lR (j4 (pc (az (Zq (K:=K) rfl) (pv 6) (pv 9) (λ_ _=>rfl)) (pc (az (Zq (K:=K) rfl) (pv 6) (pv 8) (λ_ _=>rfl)) Zb))) (ZV (K:=K) (n:=2) rfl rfl (Zr (wD (pv 6) (pv 8) wO) (Zr (wD (pv 6) (pv 9) wO) ZT)))))))
   (Zh (Zt (pv 6)))))))))),?_⟩
 generalize hm:(if 10000 / s - 480 > 1 then 10000 / s - 480 else 1)=m at m0 m1
 generalize ht:(9999:Int) / s=top at *
 refine hide λuu ee=>?_
 refine ⟨_,rfl,(sl 2),λp1 hp1=>⟨_,rfl,b,a,q,c,6,rfl,B.same (Zg hp1 _),by lia,by decide,by decide,λr1 a1 c1 H1 ua xw B1 hc1 s1=>⟨rfl,.inr ⟨_,rfl,?_⟩⟩⟩⟩
 have q1:b≠p1:=Ze B.at' hp1
 obtain ⟨n,hn,hn'⟩:=MW 5 18 (decide (V.int r1=V.int 0))
 refine ⟨p1,_,_,_,rfl,rfl,aF.of (s1 _ _ (aFS q1) Za),hn,b,a1,q,c1,n,rfl,B1,by lia,by lia,by lia,λr2 a2 c2 H2 pT oV B2 hc2 s2=>⟨_,_,rfl,rfl,?_⟩⟩
 have mn0:3<=3+r2:=by lia
 have mn1:3+r2<=20:=by lia
 have u2:SB b H H2:=(((Zg hp1 _).sb b).trans s1).trans s2
 dsimp only [fH]
 subst ee
 try dsimp only
 refine hide λuu ee=>?_
 refine ⟨_,rfl,b,a2,q,c2,4,rfl,B2,by lia,by decide,by decide,λr3 a3 c3 H3 vg t9 B3 hc3 s3=>?_⟩
 refine ⟨_,rfl,b,a3,q,c3,4,rfl,B3,by lia,by decide,by decide,λr4 a4 c4 Qj zl Cn B4' hc4 s4=>⟨(sl 2),λp4 LZ=>⟨p4,_,rfl,bB.of Za,rfl,_,_,rfl,_,_,rfl,rfl,?_⟩⟩⟩
 have B4:=B4'.same (Zg LZ (.tup [.int r3,.int r4]))
 have u4:SB b H (upd Qj p4 (.tup [.int r3,.int r4])):=((u2.trans s3).trans s4).trans ((Zg LZ _).sb b)
 generalize upd Qj p4 (.tup [.int r3,.int r4])=H4 at *
 subst ee
 try dsimp only
 refine De (λv G=>∃ z a' c',v=.int z/\0<=z/\z+456<=top/\aE G b a' q c'/\c'<=c4+1/\SB b H G) (λQ' k'=>?_) ?_
 .refine ⟨_,rfl,_,_,rfl,rfl,_,rfl,mW (λUx=>⟨_,rfl,k' _ _ ⟨_,a4,c4,rfl,zl,by lia,B4,by lia,u4⟩⟩) (λUx=>?_)⟩
  refine ⟨_,rfl,_,rfl,_,_,rfl,rfl,⟨by lia,by lia⟩,_,_,rfl,rfl,_,_,rfl,(sl 2),λp2 hp2=>?_⟩
  have q2:b≠p2:=Ze B4.at' hp2
  rw [hm]
  obtain ⟨n2,hn2,Tt⟩:=zu 100 m (r4 - 2) (by lia) (by lia)
  refine ⟨_,rfl,_,_,rfl,rfl,p2,_,_,_,rfl,rfl,aF.of Za,hn2,b,a4,q,c4,n2,rfl,B4.same (Zg hp2 _),by lia,by lia,by lia,λr5 a5 c5 H5 Fl Lm B5 hc5 s5=>?_⟩
  exact k' _ _ ⟨r5,a5,c5,rfl,Fl,by lia,B5,by lia,u4.trans (((Zg hp2 _).sb b).trans s5)⟩
 rintro _ H5 ⟨z,a5,c5,rfl,z0,z1,B5,hc5,u5⟩
 dsimp only [fH]
 refine hide λuu ee=>?_
 refine ⟨_,rfl,_,rfl,by lia,by lia,λl hl=>?_⟩
 have vQ:H l=none:=yt u5 B5.at' hl
 have k7:l≠b:=aFS (Ze B5.at' hl)
 have hmn:(3+r2).toNat<=20:=by lia
 refine Eb (lo:=0) (n:=(3+r2).toNat) (l:=l) (λj ys σ G=>∃ (v0:Option V) (ns:List Int),σ=[v0,some (.int z),some (.int r3)]/\ys=ns.map V.int/\ns.length=j/\(Eu top ns/\(0<j->ns[0]?=some z))/\G l=some (.lst ys)/\aB H5 G)
  ⟨none,[],rfl,rfl,rfl,⟨λn hn=>(nomatch hn),λz=>absurd z (aNy 0)⟩,Za,Zg hl _⟩ ?_ ?_
 .rintro j ys σ G hj hy ⟨v0,ns,rfl,rfl,hj',⟨hb',hz'⟩,h1,h2⟩
  refine ⟨_,rfl,(sl 4),λp hp=>?_⟩
  obtain ⟨n4,Tr,Gx⟩:=UX r3 vg t9
  have np:l≠p:=Ze h1 hp
  have Tc:(j:Int)<=19:=by lia
  refine ⟨_,rfl,p,_,_,_,rfl,rfl,aF.of Za,Tr,_,rfl,_,_,rfl,rfl,.inl ⟨by lia,by lia⟩,_,_,rfl,rfl,kP.of (awv hmn (by decide)) hj hy (by rw [Zc np]; exact h1) ⟨_,ns++[z+n4 * (0+(j:Int))],rfl,by rw [aAZ]; rfl,by rw [ap5,hj']; rfl,⟨λx hx=>?_,λ_=>?_⟩,Za,λe o y=>?_⟩⟩
  .rcases aPD.mp hx with h | h
   .exact hb' x h
   .have ex:x=z+n4 * (0+(j:Int)):=by simpa using h
    subst ex
    rcases Gx with rfl | rfl | rfl
    .exact ⟨by lia,by lia⟩
    .exact ⟨by lia,by lia⟩
    .exact ⟨by lia,by lia⟩
  .by_cases j0:j=0
   .have:ns=[]:=List.eq_nil_of_length_eq_zero (by lia)
    rw [this,j0]
    show some (z+n4 * (0+((0:Nat):Int)))=some z
    rw [show (0:Int)+((0:Nat):Int)=0 by lia,Int.mul_zero,Int.add_zero]
   .rw [aRC (by lia)]
    exact hz' (by lia)
  .rw [Zc (Ze y hl)]
   exact Zg hp _ _ _ (h2 _ _ y)
 rintro ys σ G hy ⟨v0,ns,rfl,rfl,hj',⟨hb',hz'⟩,h1,h2⟩
 have B6:=B5.same h2
 have u6:SB b H G:=u5.trans (h2.sb b)
 have kF:3<=ns.length:=by lia
 have SS:ns.length<=20:=by lia
 have hz0:ns[0]?=some z:=hz' (by lia)
 dsimp only [fH]
 subst ee
 try dsimp only
 refine De (λv G'=>∃ z a' c',v=.int z/\0<=z/\z<=top/\aE G' b a' q c'/\c'<=c5+2/\SB b G G') (λQ' k'=>?_) ?_
 .refine ⟨_,rfl,b,a5,q,c5,5,rfl,B6,by lia,by decide,by decide,λr7 a7 c7 H7 r70 r71 B7 L8 s7=>⟨rfl,_,rfl,mW (λ_=>?_) (λ_=>?_)⟩⟩
  .refine ⟨_,rfl,_,_,rfl,rfl,⟨by lia,by lia⟩,?_⟩
   exact k' _ _ ⟨_,a7,c7,rfl,by rw [ht]; lia,by rw [ht]; lia,B7,by lia,s7⟩
  .refine ⟨_,rfl,_,rfl,_,_,rfl,rfl,⟨by lia,by lia⟩,_,_,rfl,rfl,b,a7,q,c7,_,rfl,B7,by lia,by rw [ht]; lia,by rw [ht]; lia,λr8 a8 c8 H8 RV RU B8 hc8 s8=>?_⟩
   exact k' _ _ ⟨_,a8,c8,rfl,RV,by rw [ht] at RU; lia,B8,by lia,s7.trans s8⟩
 rintro _ H7 ⟨fr,a7,c7,rfl,T8,C5,B7,L8,s7⟩
 have h7:=s7 _ _ k7 h1
 have u7:SB b H H7:=u6.trans s7
 refine x9 (λσ G'=>∃ ns':List Int,σ=[some (.ref b),some (.int s),some (.int (3+r2)),some (.int r3),some (.int r4),some (.int z),some (.ref l),some (.int fr),none,none]/\G' l=some (.lst (ns'.map V.int))/\ns'.length=ns.length/\(Eu top ns'/\K0 top ns')/\aE G' b a7 q c7/\SB b H G') (λD' _ k'=>?_) ?_
 .refine uJ (λ_ G'=>G'=H7) (λQ' k''=>?_) ?_
  .refine Hg (λ_ G'=>G'=H7) (λQ'' k3=>?_) ?_
   .exact ⟨_,rfl,rfl,_,rfl,mW (λ_=>⟨_,rfl,_,rfl,l,_,rfl,.inl (aF.of h7),rfl,Ph _,_,rfl,k3 _ _ rfl⟩) (λ_=>k3 _ _ rfl)⟩
   .rintro cb _ rfl
    cases cb with
    | true=>exact fT rfl (k'' _ _ rfl)
    | false=>exact cW rfl ⟨_,rfl,_,rfl,_,_,rfl,rfl,⟨by lia,by lia⟩,rfl,_,rfl,mW (λ_=>⟨_,rfl,_,rfl,l,_,rfl,.inl (aF.of h7),rfl,Ph _,_,rfl,k'' _ _ rfl⟩) (λ_=>k'' _ _ rfl)⟩
  .rintro cb _ rfl
   cases cb with
   | false=>exact cW rfl (k' _ _ ⟨ns,rfl,h7,rfl,⟨hb',z,a7T hz0,by lia⟩,B7,u7⟩)
   | true =>
    refine fT rfl ⟨_,rfl,_,rfl,_,rfl,l,_,_,_,rfl,rfl,h7,W7 (by rw [afy]; lia),k' _ _ ⟨ns.set (ns.length - 1) fr,rfl,?_,akS,⟨λx hx=>?_,z,?_,by lia⟩,B7.sb (ya l _ _) (aFS k7),λe o n' y=>?_⟩⟩
    .rw [Za,afy,DT]
    .rcases Ii hx with h | h
     .exact hb' x h
     .subst h; exact ⟨T8,C5⟩
    .refine a7T (i:=0) ?_
     rw [aM1 (by lia)]
     exact hz0
    .rw [Zc (Ze y vQ)]; exact u7 _ _ n' y
 rintro _ H8 ⟨Sl,rfl,h8,l8,b8,B8,u8⟩
 refine ⟨_,rfl,_,_,rfl,rfl,_,rfl,by lia,by lia,yz (lo:=0) (n:=(3+r2 - 1).toNat) (λj σ G'=>∃ (ns':List Int) (v8 v9:Option V) (a' c':Int),σ=[some (.ref b),some (.int s),some (.int (3+r2)),some (.int r3),some (.int r4),some (.int z),some (.ref l),some (.int fr),v8,v9]/\G' l=some (.lst (ns'.map V.int))/\ns'.length=ns.length/\(Eu top ns'/\K0 top ns')/\aE G' b a' q c'/\c'<=c7+(j:Int)/\SB b H G')
  ⟨Sl,_,_,a7,c7,rfl,h8,l8,b8,B8,by lia,u8⟩ ?_ ?_⟩
 .rintro j σ G' hj ⟨ns',v8,v9,a',c',rfl,rC,l',⟨b',lo'⟩,B',hc',u'⟩
  have Tc:(j:Int)<=18:=by lia
  have jl:(j:Int)+1<3+r2:=by lia
  refine ⟨_,rfl,_,rfl,_,rfl,_,rfl,_,_,rfl,rfl,b,a',q,c',_,rfl,B',by lia,by lia,by lia,λr9 a9 c9 H9 r90 r91 B9 hc9 s9=>⟨_,_,rfl,rfl,?_⟩⟩
  have h9:=s9 _ _ k7 rC
  obtain ⟨x1,LU,Mm⟩:=MV (ns:=ns') (k:=0+(j:Int)+r9) (by lia) (by lia)
  have SM:=a7T Mm
  obtain ⟨x2,Gq,Ml⟩:=MV (ns:=ns') (k:=0+(j:Int)) (by lia) (by lia)
  have SK:=a7T Ml
  refine ⟨_,rfl,_,rfl,l,_,_,_,rfl,rfl,aF.of h9,LU,_,rfl,_,rfl,l,_,_,_,rfl,rfl,aF.of h9,Gq,(sl 2),λt ht'=>?_⟩
  have sD:l≠t:=Ze h9 ht'
  refine ⟨t,_,rfl,bB.of Za,rfl,_,_,rfl,_,rfl,_,rfl,l,_,_,_,rfl,rfl,(by rw [Zc sD]; exact h9),Hu (by lia) (by rw [afy]; lia),?_⟩
  refine ⟨_,_,rfl,_,rfl,_,rfl,l,_,_,_,rfl,rfl,Za,Hu (by lia) (by rw [akS,afy]; lia),rfl,?_⟩
  refine ⟨(ns'.set (0+(j:Int)).toNat x1).set (0+(j:Int)+r9).toNat x2,_,_,a9,c9,rfl,by rw [Za,DT,DT],by rw [akS,akS]; exact l',⟨λx hx=>?_,(by obtain ⟨x,m,q⟩:=lo'; exact ⟨x,W6 Mm Ml m,q⟩)⟩,?_,by lia,λe o n' y=>?_⟩
  .rcases Ii hx with h | h
   .rcases Ii h with h | h
    .exact b' x h
    .subst h; exact b' _ SM
   .subst h; exact b' _ SK
  .exact ((B9.same (Zg ht' _)).sb (ya l _ _) (aFS k7)).sb (ya l _ _) (aFS k7)
  .have ne:e≠l:=Ze y vQ
   rw [Zc ne,Zc ne]
   exact Zg ht' _ _ _ (s9 _ _ n' (u' _ _ n' y))
 .rintro σ G' ⟨ns',v8,v9,a',c',rfl,rC,l',⟨b',lo'⟩,B',hc',u'⟩
  exact ⟨_,rfl,k l ns' a' c' G' vQ rC (by lia) (by lia) b' lo' B' (by lia) u'⟩
end
def Sc:V->Prop
 | .int _=>True
 | .bl _=>True
 | .aR=>True
 | .str _=>True
 | _=>False
def Eqv:Nat->Hp->V->V->Prop
 | 0,_,x,y=>x=y/\Sc x
 | n+1,H,x,y=>(x=y/\Sc x)\/∃ (a b:Addr) (xs ys:List V),x=.ref a/\y=.ref b/\((H a=some (.lst xs)/\H b=some (.lst ys))\/(H a=some (.tup xs)/\H b=some (.tup ys)))/\xs.length=ys.length/\xs.length<=1000/\∀ (i:Nat) (u v:V),xs[i]?=some u->ys[i]?=some v->Eqv n H u v
theorem Eqv.same:∀ {n:Nat} {H H':Hp} {x y:V},Eqv n H x y->aB H H'->Eqv n H' x y
 | 0,_,_,_,_,h,_=>h
 | n+1,H,H',x,y,h,s=>by
  rcases h with h | ⟨a,b,xs,ys,h1,h2,h3,h5,h6,h7⟩
  .exact .inl h
  .refine .inr ⟨a,b,xs,ys,h1,h2,?_,h5,h6,λi u v e1 e2=>(h7 i u v e1 e2).same s⟩
   rcases h3 with ⟨h3,h4⟩ | ⟨h3,h4⟩
   .exact .inl ⟨s _ _ h3,s _ _ h4⟩
   .exact .inr ⟨s _ _ h3,s _ _ h4⟩
def yl (n:Nat):Sp:=λvs H Q _=>∃ x y,vs=[x,y]/\Eqv n H x y/\∀ H',aB H H'->Q (.bl true) H'
theorem Eqv.Av {H:Hp} {a b:Addr} {xs:List V} (ha:H a=some (.tup xs)) (hb:H b=some (.tup xs)) (hl:xs.length<=1000) (hs:∀ x∈xs,Sc x):Eqv 1 H (.ref a) (.ref b) :=
 .inr ⟨a,b,xs,xs,rfl,rfl,.inr ⟨ha,hb⟩,rfl,hl,λi u v e1 e2=>by rw [e1] at e2; cases e2; exact ⟨rfl,hs u (a7T e1)⟩⟩
theorem Cb {H:Hp} {a:Addr} {xs:List V} (h:H a=some (.tup xs)):qZ H (.ref a)=some "tuple" := by simp only [qZ,h]
theorem Cc {H:Hp} {a:Addr} {xs:List V} (h:H a=some (.lst xs)):qZ H (.ref a)=some "list" := by simp only [qZ,h]
section
theorem NB {n:Nat} {yW:Sp} (mO:∀ m,n=m+1->yW=yl m) (F:aZ K "_law_same" "_law_same" uR f fd) (T:Txt K mg) (oU:Def P w K mg base "_law_same" n rG yW):au P w K mg base aW (n+1) f fd rG (yl n):=by
 refine F.ok nJ (λvs H Q E h=>?_) (λcdv A outer st H vs Q E hr h=>?_)
 .obtain ⟨x,y,rfl,_⟩:=h
  rfl
 obtain ⟨x,y,rfl,h,k⟩:=h
 have nd:=nJ.nd
 refine ⟨_,(Zd (aH (ZS (Zs PB rfl T.oY rJ (pc (pv 1) (pc (j4 (pc (pC (v:=.ty "list") rfl T.pG ZY rfl) (pc (pC (v:=.ty "tuple") rfl T.z9 JX rfl) Zb))) Zb)))) (Zd (aH (PW.pt (pw_or (sV (ZS (Zs PB rfl T.oY rJ (pc (pv 0) (pc (j4 (pc (pC (v:=.ty "list") rfl T.pG ZY rfl) (pc (pC (v:=.ty "tuple") rfl T.z9 JX rfl) Zb))) Zb))))) (Dt (Zv uf (Zs uW rfl T.oY rJ (pc (pv 0) (pc (pC (v:=.ty "list") rfl T.pG ZY rfl) Zb))) (Zs uW rfl T.oY rJ (pc (pv 1) (pc (pC (v:=.ty "list") rfl T.pG ZY rfl) Zb))) (Zw _))))) (Zh (Zt eN)) Zu)
   (Zh (Zt (Dr (qO aY (Zs (ZH (K:=K) rfl) rfl T.rO aYI (pc (pv 0) Zb)) (Zs (ZH (K:=K) rfl) rfl T.rO aYI (pc (pv 1) Zb)) (Zw _)) (Ds (Zs (Jc rfl) rfl T.zZ IV (pc (wN (tE (jJ:=(Zi uR)) (oN:=m6) (N:=["_law_one", "_law_other"]) (own:=2) (js:=[]) (by decide +kernel) rfl rfl) rfl (We rfl T.CK (pc (pv 0) (pc (pv 1) Zb))) (λ_ _ _ _ _ _=>(ZV (K:=K) (n:=2) rfl rfl (Zr (bQ 0 (show List.Nodup (["_law_one", "_law_other"]:List Str) by decide +kernel)) (Zr (bQ 1 (show List.Nodup (["_law_one", "_law_other"]:List Str) by decide +kernel)) ZT)))) (λ_ _ _ _ _ _=>(Zm oU hr.m rfl (pc (pv 0) (pc (pv 1) Zb))))) Zb))))))) Zu)
   (Zd (aH (PW.pt (pw_or (Du (Nt (pv 1))) (Dt (ZS (Zs uW rfl T.oY rJ (pc (pv 1) (pc (pC (v:=.ty "str") rfl T.zW Jd rfl) Zb))))))) (Zh (Zt (Dr (qO aY (pv 0) (pv 1) (Zw _)) (Ds (qO aY (Zs uW rfl T.oY rJ (pc (pv 0) (pc (pC (v:=.ty "str") rfl T.zW Jd rfl) Zb))) (Zs uW rfl T.oY rJ (pc (pv 1) (pc (pC (v:=.ty "str") rfl T.zW Jd rfl) Zb))) (Zw _)))))) Zu)
   (Zh (Zt (Dr (Zs uW rfl T.oY rJ (pc (pv 0) (pc (pC (v:=.ty "int") rfl T.xR D5 rfl) Zb))) (Dr (qO aY (Zs uW rfl T.oY rJ (pc (pv 0) (pc (pC (v:=.ty "bool") rfl T.CO PL rfl) Zb))) (Zs uW rfl T.oY rJ (pc (pv 1) (pc (pC (v:=.ty "bool") rfl T.CO PL rfl) Zb))) (Zw _)) (Ds (qO aY (pv 0) (pv 1) (Zw _))))))))),?_⟩
 have split:(x=y/\Sc x)\/∃ (m:Nat) (a b:Addr) (xs ys:List V),n=m+1/\x=.ref a/\y=.ref b/\((H a=some (.lst xs)/\H b=some (.lst ys))\/(H a=some (.tup xs)/\H b=some (.tup ys)))/\xs.length=ys.length/\xs.length<=1000/\∀ (i:Nat) (u v:V),xs[i]?=some u->ys[i]?=some v->Eqv m H u v:=by
  cases n with
  | zero=>exact .inl h
  | succ m =>
   rcases h with h | ⟨a,b,xs,ys,h1,h2,h3,h5,h6,h7⟩
   .exact .inl h
   .exact .inr ⟨m,a,b,xs,ys,rfl,h1,h2,h3,h5,h6,h7⟩
 rcases split with ⟨rfl,hs⟩ | ⟨m,a,b,xs,ys,rfl,rfl,rfl,⟨ha,hb⟩ | ⟨ha,hb⟩,hl,hlen,hi⟩
 .have key:∀ p,H p=none->∀ o,aB H (upd H p o):=λp hp o=>Zg hp o
  cases x with
  | int j =>
   refine ⟨_,rfl,(sl 2),λp hp=>⟨_,_,_,_,p,rfl,Za,rfl,by decide,by decide,_,rfl,cW (by decide) ?_⟩⟩
   refine ⟨_,rfl,_,rfl,cW (by simp) ⟨_,rfl,_,_,_,rfl,rfl,by decide,_,rfl,cW (by decide) ?_⟩⟩
   refine ⟨_,rfl,_,_,_,rfl,rfl,by decide,_,rfl,fT (by decide) ⟨_,rfl,_,_,_,rfl,rfl,by decide,_,rfl,_,_,_,rfl,rfl,by decide,rfl,_,rfl,fT (by decide) ⟨_,rfl,_,rfl,rfl,?_⟩⟩⟩
   rw [an3 rfl]
   exact k _ (key p hp _)
  | bl j =>
   refine ⟨_,rfl,(sl 2),λp hp=>⟨_,_,_,_,p,rfl,Za,rfl,by decide,by decide,_,rfl,cW (by decide) ?_⟩⟩
   refine ⟨_,rfl,_,rfl,cW (by simp) ⟨_,rfl,_,_,_,rfl,rfl,by decide,_,rfl,cW (by decide) ?_⟩⟩
   refine ⟨_,rfl,_,_,_,rfl,rfl,by decide,_,rfl,fT (by decide) ⟨_,rfl,_,_,_,rfl,rfl,by decide,_,rfl,_,_,_,rfl,rfl,by decide,rfl,_,rfl,fT (by decide) ⟨_,rfl,_,rfl,rfl,?_⟩⟩⟩
   rw [an3 rfl]
   exact k _ (key p hp _)
  | aR =>
   refine ⟨_,rfl,(sl 2),λp hp=>⟨_,_,_,_,p,rfl,Za,rfl,by decide,by decide,_,rfl,cW (by decide) ?_⟩⟩
   refine ⟨_,rfl,_,rfl,fT (by simp) (fT rfl ⟨_,rfl,_,rfl,rfl,_,rfl,fT (by decide) ⟨_,rfl,_,_,_,rfl,rfl,by decide,_,rfl,_,_,_,rfl,rfl,by decide,rfl,?_⟩⟩)⟩
   rw [an3 rfl]
   exact k _ (key p hp _)
  | str z =>
   refine ⟨_,rfl,(sl 2),λp hp=>⟨_,_,_,_,p,rfl,Za,rfl,by decide,by decide,_,rfl,cW (by decide) ?_⟩⟩
   refine ⟨_,rfl,_,rfl,cW (by simp) ⟨_,rfl,_,_,_,rfl,rfl,by decide,_,rfl,fT (by decide) ⟨_,rfl,_,rfl,rfl,_,rfl,fT (by simp) ⟨_,rfl,_,_,_,rfl,rfl,by decide,_,rfl,_,_,_,rfl,rfl,by decide,rfl,?_⟩⟩⟩⟩
   rw [an3 rfl]
   exact k _ (key p hp _)
  | _=>exact hs.elim
 .have he:=mO m rfl
  subst he
  refine ⟨_,rfl,(sl 2),λp hp=>?_⟩
  have s1:=Zg hp (.tup [.ty "list",.ty "tuple"])
  refine ⟨_,_,_,_,p,rfl,Za,Cc (s1 _ _ hb),by decide,by decide,_,rfl,fT (by decide) ?_⟩
  refine ⟨_,rfl,(sl 2),λp2 hp2=>?_⟩
  have s2:=s1.trans (Zg hp2 (.tup [.ty "list",.ty "tuple"]))
  refine ⟨_,_,_,_,p2,rfl,Za,Cc (s2 _ _ ha),by decide,by decide,_,rfl,cW (by decide) ?_⟩
  refine ⟨_,rfl,_,_,_,rfl,Cc (s2 _ _ ha),by decide,_,rfl,_,_,_,rfl,Cc (s2 _ _ hb),by decide,rfl,_,rfl,cW (by decide) ?_⟩
  refine ⟨_,rfl,a,_,rfl,.inl (aF.of (s2 _ _ ha)),_,rfl,b,_,rfl,.inl (aF.of (s2 _ _ hb)),rfl,_,rfl,?_⟩
  generalize upd (upd H p (.tup [.ty "list",.ty "tuple"])) p2 (.tup [.ty "list",.ty "tuple"])=H2 at *
  refine fT (by rw [hl]; simp) ?_
  refine ⟨_,rfl,_,rfl,a,b,rfl,.inl ⟨_,_,aF.of (s2 _ _ ha),aF.of (s2 _ _ hb),λl hl'=>?_⟩⟩
  have vQ:H l=none:=s2.free hl'
  refine WJ (K:=K) (a:=a) (b:=b) (xs:=xs) (zs:=ys) (l:=l) hl (λi zs σ H'=>∃ v0 v1:Option V,σ=[v0,v1]/\zs=(List.replicate i true).map V.bl/\H' l=some (.lst zs)/\aB H H')
   ⟨none,none,rfl,by simp,Za,s2.trans (Zg hl' _)⟩ (λi zs σ H' _ ⟨_,_,_,_,_,q⟩=>⟨aF.of (q _ _ ha),aF.of (q _ _ hb)⟩) ?_ ?_
  .rintro i x z t zs σ H' GD hxi Gm Ah ⟨v0,v1,rfl,rfl,h1,s3⟩ ht
   have s4:=s3.trans (Zg ht (.tup [x,z]))
   have xM:l≠t:=Ze h1 ht
   refine ⟨t,_,rfl,bB.of Za,rfl,_,_,rfl,_,_,rfl,rfl,?_⟩
   refine ⟨_,rfl,_,rfl,x,z,rfl,(hi i x z hxi Gm).same s4,λH5 s5=>?_⟩
   refine kP.of (aV2 (ZG hlen)) GD Ah (s5 _ _ (by rw [Zc xM]; exact h1)) ⟨_,_,rfl,by rw [akN,aAZ]; rfl,Za,?_⟩
   intro c o e
   rw [Zc (Ze e vQ)]
   exact s5 _ _ (s4 _ _ e)
  .rintro zs σ H' Ah ⟨v0,v1,rfl,rfl,h1,s3⟩
   refine ⟨l,_,rfl,aF.of h1,?_⟩
   rw [show (List.replicate xs.length true).all id=true by rw [aaC]; intro z hz; rw [(aeK.mp hz).2]; rfl]
   exact k H' s3
 .have he:=mO m rfl
  subst he
  refine ⟨_,rfl,(sl 2),λp hp=>?_⟩
  have s1:=Zg hp (.tup [.ty "list",.ty "tuple"])
  refine ⟨_,_,_,_,p,rfl,Za,Cb (s1 _ _ hb),by decide,by decide,_,rfl,fT (by decide) ?_⟩
  refine ⟨_,rfl,(sl 2),λp2 hp2=>?_⟩
  have s2:=s1.trans (Zg hp2 (.tup [.ty "list",.ty "tuple"]))
  refine ⟨_,_,_,_,p2,rfl,Za,Cb (s2 _ _ ha),by decide,by decide,_,rfl,cW (by decide) ?_⟩
  refine ⟨_,rfl,_,_,_,rfl,Cb (s2 _ _ ha),by decide,_,rfl,_,_,_,rfl,Cb (s2 _ _ hb),by decide,rfl,_,rfl,cW (by decide) ?_⟩
  refine ⟨_,rfl,a,_,rfl,.inr (bB.of (s2 _ _ ha)),_,rfl,b,_,rfl,.inr (bB.of (s2 _ _ hb)),rfl,_,rfl,?_⟩
  generalize upd (upd H p (.tup [.ty "list",.ty "tuple"])) p2 (.tup [.ty "list",.ty "tuple"])=H2 at *
  refine fT (by rw [hl]; simp) ?_
  refine ⟨_,rfl,_,rfl,a,b,rfl,.inr ⟨_,_,bB.of (s2 _ _ ha),bB.of (s2 _ _ hb),λl hl'=>?_⟩⟩
  have vQ:H l=none:=s2.free hl'
  refine X0 (K:=K) (a:=a) (b:=b) (xs:=xs) (zs:=ys) (l:=l) hl (λi zs σ H'=>∃ v0 v1:Option V,σ=[v0,v1]/\zs=(List.replicate i true).map V.bl/\H' l=some (.lst zs)/\aB H H')
   ⟨none,none,rfl,by simp,Za,s2.trans (Zg hl' _)⟩ (λi zs σ H' _ ⟨_,_,_,_,_,q⟩=>⟨bB.of (q _ _ ha),bB.of (q _ _ hb)⟩) ?_ ?_
  .rintro i x z t zs σ H' GD hxi Gm Ah ⟨v0,v1,rfl,rfl,h1,s3⟩ ht
   have s4:=s3.trans (Zg ht (.tup [x,z]))
   have xM:l≠t:=Ze h1 ht
   refine ⟨t,_,rfl,bB.of Za,rfl,_,_,rfl,_,_,rfl,rfl,?_⟩
   refine ⟨_,rfl,_,rfl,x,z,rfl,(hi i x z hxi Gm).same s4,λH5 s5=>?_⟩
   refine kP.of (aV2 (ZG hlen)) GD Ah (s5 _ _ (by rw [Zc xM]; exact h1)) ⟨_,_,rfl,by rw [akN,aAZ]; rfl,Za,?_⟩
   intro c o e
   rw [Zc (Ze e vQ)]
   exact s5 _ _ (s4 _ _ e)
  .rintro zs σ H' Ah ⟨v0,v1,rfl,rfl,h1,s3⟩
   refine ⟨l,_,rfl,aF.of h1,?_⟩
   rw [show (List.replicate xs.length true).all id=true by rw [aaC]; intro z hz; rw [(aeK.mp hz).2]; rfl]
   exact k H' s3
def Fb:Sp:=λ_ _ _ _=>False
theorem Oo (F:aZ K "_law_same" "_law_same" uR f fd) (bi:Binds K fd rG []) (m:mg "_law_same" = some (.ref f)) (T:Txt K mg):∀ n,Def P w K mg base "_law_same" (n+1) rG (yl n)
 | 0=>by
  have D0:Def P w K mg base "_law_same" 0 rG Fb:=⟨f,fd,⟨λ_ _ _ _ h=>h.elim,λ_ _ _ _ _ _ _ _ _ _ _ _ _ h=>h.elim⟩,m,F.kp,bi⟩
  exact ⟨f,fd,NB (n:=0) (λ_ h=>by lia) F T D0,m,F.kp,bi⟩
 | n+1=>⟨f,fd,NB (n:=n+1) (λj h=>by cases (show j=n by lia); rfl) F T (Oo F bi m T n),m,F.kp,bi⟩
end
def qc:Option Int->V
 | none=>.aR
 | some g=>.int g
theorem gN {i:Nat} {v:V} {σ:St} {H:Hp} {Q:St->Hp->Prop} (h:Q (σ.set i (some v)) H):fH i v σ H Q:=h
theorem II {b:Bool} {A B:Prop} (h1:b=true->A) (h2:¬ b=true->B):if b=true then A else B:=by
 by_cases h:b=true
 .rw [ajr h]; exact h1 h
 .rw [aBJ h]; exact h2 h
theorem Ih {ns:List Int} {i:Nat} {x:V} (h:(ns.map V.int)[i]?=some x):∃ z,ns[i]?=some z/\x=V.int z:=by
 rw [aC3] at h
 cases e:ns[i]? with
 | none=>rw [e] at h; cases h
 | some z=>rw [e] at h; exact ⟨z,rfl,(aGB h).symm⟩
def tpos:Pos:=(match (ZF ZB).head? with
 | some (.If _ (.Return (some (.Call _ _ (⟨_,.Lambda _ _ _ pos,_⟩ :: _) _)) _ :: _) _ _)=>pos
 | _=>⟨0,0,0,0⟩)
abbrev pH:Str := "Room.going" ++ ".<locals>." ++ "<lambda>"
def Tb (K:W.Frag) (H:Hp):Prop:=H (tabOf K "Room" "going")=some (.j8 tpos pH)
theorem Tb.same {K:W.Frag} {H H':Hp} (t:Tb K H) (s:aB H H'):Tb K H':=s _ _ t
def Zn (sh s:Int) (there:List Int):List Int:=there.filter λo=>decide (o % sh=s)
theorem Br (sh s b:Int) (there:List Int):Zn sh s (there++[b])=if b % sh=s then Zn sh s there++[b] else Zn sh s there:=by
 unfold Zn
 rw [List.filter_append]
 by_cases h:b % sh=s
 .rw [ajr h,ba1,ajr (by simpa using h),List.filter_nil]
 .rw [aBJ h,ba1,aBJ (by simpa using h),List.filter_nil,arR]
theorem Bw (sh s g:Int) (there:List Int):Zn sh s (there.erase g)=(Zn sh s there).erase g:=by
 unfold Zn
 rw [List.erase_filter]
theorem bz {sh s b:Int} {there:List Int}:b∈Zn sh s there↔b∈there/\b % sh=s:=by
 unfold Zn
 rw [mem_filter,aDC]
structure oq (H:Hp) (ls:Addr) (aq:List Addr) (sh:Int) (there:List Int):Prop where
 top:H ls=some (.lst (aq.map V.ref))
 len:aq.length=sh.toNat
 nd:aq.Nodup
 off:ls∉aq
 at_:∀ (s:Nat) (ad:Addr),aq[s]?=some ad->H ad=some (.lst ((Zn sh s there).map V.int))
theorem oq.other {H:Hp} {ls:Addr} {aq:List Addr} {sh:Int} {there:List Int} (h:oq H ls aq sh there) {a:Addr} (o:HO) (h1:a≠ls) (h2:a∉aq):oq (upd H a o) ls aq sh there :=
 ⟨by rw [Zc (aFS h1)]; exact h.top,h.len,h.nd,h.off,λi ad e=>by rw [Zc (λz:ad=a=>h2 (z ▸ a7T e))]; exact h.at_ i ad e⟩
theorem oq.put {H:Hp} {ls:Addr} {aq:List Addr} {sh:Int} {there mz:List Int} (h:oq H ls aq sh there) {s0:Nat} {ad:Addr} {ns:List Int} (e0:aq[s0]?=some ad) (hn:Zn sh s0 mz=ns) (ho:∀ s:Nat,s≠s0->Zn sh s mz=Zn sh s there):oq (upd H ad (.lst (ns.map V.int))) ls aq sh mz:=by
 refine ⟨by rw [Zc (λz:ls=ad=>h.off (z ▸ a7T e0))]; exact h.top,h.len,h.nd,h.off,λs a e=>?_⟩
 by_cases hs:s=s0
 .subst hs
  rw [e0] at e
  cases e
  rw [Za,hn]
 .have ne:a≠ad:=λz=>by
   subst z
   exact hs ((List.getElem?_inj (a7Y.mp e).1 h.nd).mp (e.trans e0.symm))
  rw [Zc ne,ho s hs]
  exact h.at_ s a e
theorem oq.get {H:Hp} {ls:Addr} {aq:List Addr} {sh:Int} {there:List Int} (h:oq H ls aq sh there) {k:Int} (h0:0<=k) (h1:k<sh):∃ (s:Nat) (ad:Addr),(s:Int)=k/\aq[s]?=some ad/\fX (aq.map V.ref) k=some (.ref ad)/\H ad=some (.lst ((Zn sh k there).map V.int)):=by
 have hk:k.toNat<aq.length:=by rw [h.len]; lia
 have e:aq[k.toNat]?=some aq[k.toNat]:=adk hk
 have ek:((k.toNat:Nat):Int)=k:=by lia
 have q:fX (aq.map V.ref) ((k.toNat:Nat):Int)=some (.ref aq[k.toNat]):=qN (by rw [aC3,e]; rfl)
 have q2:=h.at_ _ _ e
 rw [ek] at q q2
 exact ⟨k.toNat,_,ek,e,q,q2⟩
theorem oq.one {H:Hp} {ls:Addr} {aq:List Addr} {sh:Int} {there:List Int} (h:oq H ls aq sh there) {ad:Addr} (m:ad∈aq):∃ xs,H ad=some (.lst xs):=by
 obtain ⟨s,e⟩:=aQ3 m
 exact ⟨_,h.at_ s ad e⟩
def gE (sh pl:Int) (ru:Str) (ls du:Addr):List (Str×V):=ai "uses" (.ref du) (ai "standing" (.ref ls) (ai "rule" (.str ru) (ai "places" (.int pl) (ai "shelves" (.int sh) []))))
theorem yk (sh pl:Int) (ru:Str) (ls du:Addr):(gE sh pl ru ls du).lookup ("uses" : Str)=some (.ref du):=by
 unfold gE
 rw [Zf,ajr rfl]
theorem YQ (sh pl:Int) (ru:Str) (ls du:Addr):(gE sh pl ru ls du).lookup ("standing" : Str)=some (.ref ls):=by
 unfold gE
 rw [Zf,aBJ (by decide +kernel),Zf,ajr rfl]
theorem Nz (sh pl:Int) (ru:Str) (ls du:Addr):(gE sh pl ru ls du).lookup ("rule" : Str)=some (.str ru):=by
 unfold gE
 rw [Zf,aBJ (by decide +kernel),Zf,aBJ (by decide +kernel),Zf,ajr rfl]
theorem Xi (sh pl:Int) (ru:Str) (ls du:Addr):(gE sh pl ru ls du).lookup ("places" : Str)=some (.int pl):=by
 unfold gE
 rw [Zf,aBJ (by decide +kernel),Zf,aBJ (by decide +kernel),Zf,aBJ (by decide +kernel),Zf,ajr rfl]
theorem XO (sh pl:Int) (ru:Str) (ls du:Addr):(gE sh pl ru ls du).lookup ("shelves" : Str)=some (.int sh):=by
 unfold gE
 rw [Zf,aBJ (by decide +kernel),Zf,aBJ (by decide +kernel),Zf,aBJ (by decide +kernel),Zf,aBJ (by decide +kernel),Zf,ajr rfl]
theorem bO (sh pl:Int) (ru:Str) (ls du:Addr) {m:Str} (h1:¬ m = "uses" := by decide +kernel) (h2:¬ m = "standing" := by decide +kernel) (h3:¬ m = "rule" := by decide +kernel) (h4:¬ m = "places" := by decide +kernel) (h5:¬ m = "shelves" := by decide +kernel):(gE sh pl ru ls du).lookup m=none:=by
 unfold gE
 rw [Zf,aBJ h1,Zf,aBJ h2,Zf,aBJ h3,Zf,aBJ h4,Zf,aBJ h5]
 rfl
def KI (kvs:List (Key×V)):Prop:=∃ ks:List Int,kvs.map Prod.fst=ks.map Sum.inl/\ks.Nodup
theorem KI.nil:KI []:=⟨[],rfl,nodup_nil⟩
theorem KI.put {kvs:List (Key×V)} (h:KI kvs) (b:Int) (v:V):KI (putK kvs (Sum.inl b) v):=by
 obtain ⟨ks,e,nd⟩:=h
 unfold putK
 split
 .refine ⟨ks,?_,nd⟩
  rw [← e,map_map]
  exact al9 λq _=>by
   show (if q.1=Sum.inl b then (q.1,v) else q).1=q.1
   split <;> rfl
 .rename_i c
  refine ⟨ks++[b],by rw [aAZ,aAZ,e]; rfl,?_⟩
  rw [List.nodup_append]
  refine ⟨nd,by simp,λx hx y hy z=>c ?_⟩
  rw [ai5.mp hy] at z
  subst z
  have m:(Sum.inl x:Key)∈kvs.map Prod.fst:=by rw [e]; exact ali hx
  obtain ⟨q,hq,eq⟩:=au8.mp m
  exact List.any_eq_true.mpr ⟨q,hq,by simpa using eq⟩
theorem KI.drop {kvs:List (Key×V)} (h:KI kvs) (b:Int):KI (aU kvs (Sum.inl b)):=by
 obtain ⟨ks,e,nd⟩:=h
 unfold aU
 refine ⟨ks.filter λx=>decide (x≠b),?_,nd.sublist List.filter_sublist⟩
 have l:(kvs.filter λkv=>decide (kv.1≠Sum.inl b)).map Prod.fst=(kvs.map Prod.fst).filter λk=>decide (k≠Sum.inl b):=by
  rw [List.filter_map]; rfl
 rw [l,e,List.filter_map]
 congr 1
 refine List.filter_congr λx _=>?_
 show decide ((Sum.inl x:Key)≠Sum.inl b)=decide (x≠b)
 rw [decide_eq_decide]
 exact ⟨λz y=>z (by rw [y]),λz y=>z (aXH y)⟩
theorem uV {kvs:List (Key×V)} (k:Key):(aM kvs k).isSome=true↔k∈kvs.map Prod.fst:=by
 rw [← Bf,List.any_eq_true,mem_map]
 exact ⟨λ⟨q,h1,h2⟩=>⟨q,h1,by simpa using h2⟩,λ⟨q,h1,h2⟩=>⟨q,h1,by simpa using h2⟩⟩
structure aD (K:W.Frag) (H:Hp) (p:Addr) (sh pl:Int) (ru:Str) (ls:Addr) (aq:List Addr) (du:Addr) (seq:List Int) (us:Int->Int) (n:Nat):Prop where
 ob:∃ dx,H p=some (.ins (aa K "Room") dx (gE sh pl ru ls du))
 st:oq H ls aq sh seq
 dc:∃ kvs,H du=some (.dK kvs)/\(kvs.length<=n/\KI kvs)/\∀ b,aM kvs (Sum.inl b:Key)=if b∈seq then some (.int (us b)) else none
 nd:seq.Nodup
 s0:1<=sh
 s1:sh<=64
def SR (aq:List Addr) (du:Addr) (H H':Hp):Prop:=∀ b o,H b=some o->b≠du->b∉aq->H' b=some o
theorem SR.of {aq:List Addr} {du:Addr} {H H':Hp} (s:aB H H'):SR aq du H H':=λb o h _ _=>s b o h
theorem SR.trans {aq:List Addr} {du:Addr} {H H1 H2:Hp} (a:SR aq du H H1) (b:SR aq du H1 H2):SR aq du H H2:=λc o h n1 n2=>b c o (a c o h n1 n2) n1 n2
section
variable {K:W.Frag} {H H':Hp} {p:Addr} {sh pl:Int} {ru:Str} {ls:Addr} {aq:List Addr} {du:Addr} {seq:List Int} {us:Int->Int} {n:Nat}
theorem aD.off (R:aD K H p sh pl ru ls aq du seq us n):p≠du/\p∉aq/\ls≠du/\ls∉aq/\du∉aq/\p≠ls:=by
 obtain ⟨dx,h1⟩:=R.ob
 obtain ⟨kvs,h2,_⟩:=R.dc
 refine ⟨λz=>?_,λz=>?_,λz=>?_,R.st.off,λz=>?_,λz=>?_⟩
 .rw [z,h2] at h1; cases h1
 .obtain ⟨xs,e⟩:=R.st.one z
  rw [e] at h1; cases h1
 .have e:=R.st.top
  rw [z,h2] at e; cases e
 .obtain ⟨xs,e⟩:=R.st.one z
  rw [e] at h2; cases h2
 .have e:=R.st.top
  rw [← z,h1] at e; cases e
theorem aD.same (R:aD K H p sh pl ru ls aq du seq us n) (s:aB H H'):aD K H' p sh pl ru ls aq du seq us n:=by
 obtain ⟨dx,h1⟩:=R.ob
 obtain ⟨kvs,h2,h3⟩:=R.dc
 exact ⟨⟨dx,s _ _ h1⟩,⟨s _ _ R.st.top,R.st.len,R.st.nd,R.st.off,λi ad e=>s _ _ (R.st.at_ i ad e)⟩,⟨kvs,s _ _ h2,h3⟩,R.nd,R.s0,R.s1⟩
theorem SR.keep {o:HO} {b:Addr} (s:SR aq du H H') (R:aD K H p sh pl ru ls aq du seq us n) (h:H b=some o) (n1:∀ kvs,o≠.dK kvs) (n2:∀ xs,o≠.lst xs):H' b=some o:=by
 refine s _ _ h (λz=>?_) λz=>?_
 .obtain ⟨kvs,e,_⟩:=R.dc
  rw [z,e] at h
  exact n1 kvs (aGB h).symm
 .obtain ⟨xs,e⟩:=R.st.one z
  rw [e] at h
  exact n2 xs (aGB h).symm
theorem aD.yX (R:aD K H p sh pl ru ls aq du seq us n) (b:Int):∃ (s:Nat) (ad:Addr),(s:Int)=b % sh/\aq[s]?=some ad/\fX (aq.map V.ref) (b % sh)=some (.ref ad)/\H ad=some (.lst ((Zn sh (b % sh) seq).map V.int)):=by
 have h0:=R.s0
 exact R.st.get (a4n _ (by lia)) (aUj _ (by lia))
end
section
def Ny:Sp:=λvs H Q _=>∃ sh b:Int,vs=[.int sh,.int b]/\1<=sh/\Q (.int (b % sh)) H
theorem YO (F:aZ K "shelf_of" "shelf_of" Ju f fd) (T:Txt K mg):au P w K mg base aW 1 f fd Jt Ny:=by
 refine F.ok iF (λvs H Q E h=>?_) (λcdv A outer st H vs Q E hr h=>?_)
 .obtain ⟨sh,b,rfl,_⟩:=h
  rfl
 obtain ⟨sh,b,rfl,h0,k⟩:=h
 have nd:=iF.nd
 refine ⟨_,(Zh (Zt (ak oJ (pv 1) (pv 0)))),?_⟩
 exact ⟨_,rfl,_,rfl,_,_,rfl,rfl,(by show 0<sh; lia),k⟩
def nB (K:W.Frag):Sp:=λvs H Q _=>∃ (p:Addr) (b sh pl:Int) (ru:Str) (ls:Addr) (aq:List Addr) (du:Addr) (seq:List Int) (us:Int->Int) (n:Nat),vs=[.ref p,.int b]/\aD K H p sh pl ru ls aq du seq us n/\Q (.bl (decide (b∈seq))) H
theorem YN (F:aZ K "has" "Room.has" Js f fd) (T:Txt K mg):au P w K mg base aW 1 f fd Bt (nB K):=by
 refine F.ok iJ (λvs H Q E h=>?_) (λcdv A outer st H vs Q E hr h=>?_)
 .obtain ⟨p,b,sh,pl,ru,ls,aq,du,seq,us,n,rfl,_⟩:=h
  rfl
 obtain ⟨p,b,sh,pl,ru,ls,aq,du,seq,us,n,rfl,R,k⟩:=h
 have nd:=iJ.nd
 have hu:=b9 hr
 refine ⟨_,(Zh (Zt (V1 (VN hu (pv 1) (Zl (K:=K) rfl (pv 0) rfl))))),?_⟩
 obtain ⟨dx,h1⟩:=R.ob
 obtain ⟨kvs,h2,h3,h4⟩:=R.dc
 refine ⟨_,rfl,_,rfl,p,_,dx,_,_,rfl,h1,T.fS,T.vj,yk ..,du,_,rfl,dS.k (k:=Sum.inl b) h2,?_⟩
 rw [h4 b]
 by_cases c:b∈seq
 .rw [ajr c]
  rw [an3 c] at k
  exact k
 .rw [aBJ c]
  rw [ba7 c] at k
  exact k
def AY (K:W.Frag):Sp:=λvs H Q _=>∃ (p:Addr) (b sh pl:Int) (ru:Str) (ls:Addr) (aq:List Addr) (du:Addr) (seq:List Int) (us:Int->Int) (n:Nat),vs=[.ref p,.int b]/\aD K H p sh pl ru ls aq du seq us n /\
 ∀ (s:Nat) (ad:Addr),(s:Int)=b % sh->aq[s]?=some ad->H ad=some (.lst ((Zn sh (b % sh) seq).map V.int))->Q (.ref ad) H
theorem Y5 (F:aZ K "mates" "Room.mates" JE f fd) (T:Txt K mg) (F6:Def P w K mg base "shelf_of" 1 Jt Ny):au P w K mg base aW 2 f fd yC (AY K):=by
 refine F.ok gc (λvs H Q E h=>?_) (λcdv A outer st H vs Q E hr h=>?_)
 .obtain ⟨p,b,sh,pl,ru,ls,aq,du,seq,us,n,rfl,_⟩:=h
  rfl
 obtain ⟨p,b,sh,pl,ru,ls,aq,du,seq,us,n,rfl,R,k⟩:=h
 have nd:=gc.nd
 refine ⟨_,(Zh (Zt (az (Zq (K:=K) rfl) (Zl (K:=K) rfl (pv 0) rfl) (Zm F6 hr.m rfl (pc (Zl (K:=K) rfl (pv 0) rfl) (pc (pv 1) Zb))) (λ_ _=>rfl)))),?_⟩
 obtain ⟨dx,h1⟩:=R.ob
 obtain ⟨s,ad,e1,e2,e3,e4⟩:=R.yX b
 exact ⟨_,rfl,p,_,dx,_,_,rfl,h1,T.fS,T.LO,YQ ..,_,rfl,p,_,dx,_,_,rfl,h1,T.fS,T.LN,XO ..,_,rfl,sh,b,rfl,R.s0,ls,_,_,_,rfl,rfl,aF.of R.st.top,e3,k s ad e1 e2 e4⟩
def Dm (K:W.Frag):Sp:=λvs H Q _=>∃ (p:Addr) (b sh pl:Int) (ru:Str) (ls:Addr) (aq:List Addr) (du:Addr) (seq:List Int) (us:Int->Int) (n:Nat),vs=[.ref p,.int b]/\aD K H p sh pl ru ls aq du seq us n/\b∈seq/\Q .aR H
theorem YH (F:aZ K "need" "Room.need" JU f fd) (T:Txt K mg) (sf:av P w K mg base (aa K "Room") "has" 1 Bt (nB K)):au P w K mg base aW 2 f fd Bm (Dm K):=by
 refine F.ok gR (λvs H Q E h=>?_) (λcdv A outer st H vs Q E hr h=>?_)
 .obtain ⟨p,b,sh,pl,ru,ls,aq,du,seq,us,n,rfl,_⟩:=h
  rfl
 obtain ⟨p,b,sh,pl,ru,ls,aq,du,seq,us,n,rfl,R,hb,k⟩:=h
 have nd:=gR.nd
 refine ⟨_,(Zh (aH (sV (ZS (Zk sf hr.m T.fS (pv 0) (pc (pv 1) Zb)))) (Zh pW) Zu)),?_⟩
 obtain ⟨dx,h1⟩:=R.ob
 refine ⟨_,rfl,p,dx,_,rfl,h1,bO ..,_,rfl,p,b,sh,pl,ru,ls,aq,du,seq,us,n,rfl,R,?_⟩
 rw [an3 hb]
 exact ⟨_,rfl,cW rfl k⟩
end
section
def Ig (K:W.Frag):Sp:=λvs H Q _=>∃ (p m:Addr) (ms:List Int) (sh pl:Int) (ru:Str) (ls:Addr) (aq:List Addr) (du:Addr) (seq:List Int) (us:Int->Int) (n:Nat),vs=[.ref p,.ref m]/\aD K H p sh pl ru ls aq du seq us n/\Tb K H/\H m=some (.lst (ms.map V.int))/\ms.length<64/\ms.Nodup/\(∀ b∈ms,b∈seq) /\
 ∀ (D:Addr) (H':Hp) (os:List Int),H D=none->aB H H'->H' D=some (.lst (os.map V.int))->os.Perm ms->(ru = "few" -> os.Pairwise (tM us ms))->(ru ≠ "few" -> os=ms)->Q (.ref D) H'
theorem Y4 {f tp cg:Addr} {fd:FuncData} (F:aZ K "going" "Room.going" ZB f fd) (hfc:fd.code=.ref cg) (htp:tabOf K "Room" "going" = tp) (hch:W.codeHdIn K cg tp=true) (bm:BMod base mg) (T:Txt K mg):au P w K mg base aW 2 f fd By (Ig K):=by
 refine F.R6 gf (λvs H Q E h=>?_) (λcdv A outer st H vs Q E TM hr h=>?_)
 .obtain ⟨p,m,ms,sh,pl,ru,ls,aq,du,seq,us,n,rfl,_⟩:=h
  rfl
 obtain ⟨p,m,ms,sh,pl,ru,ls,aq,du,seq,us,n,rfl,R,tb,hm,h64,hnd,hin,k⟩:=h
 have nd:=gf.nd
 have hu:=b9 hr
 have hc0:cdv=.ref cg:=TM.symm.trans hfc
 refine ⟨_,(Zd (aH (Zv aY (Zl (K:=K) rfl (pv 0) rfl) j5 (Zw _)) (Zh (Zt (Xg (X:=(lF aW P w K mg base cy "Room.going" (Zi ZB) f cdv A outer st H E).vv) (K:=K) (P:=tp) (c0:=cg) rfl hr rfl rfl T.wZ (Wz (jJ:=(Zi ZB)) (oN:=cy) (x := "board") (fr:=["self"]) (js:=[0]) (by decide +kernel) rfl rfl) hc0 hch bm rfl rfl rfl (λ_ _ _ _ _=>rfl) (pv 1) (λ_ _ _ _ _=>(A6 (VE hr) (Zl (K:=K) rfl (pv 1) rfl) (pv 0) (λ_ _=>rfl)))))) Zu)
   (Zh (Zt (uX (Ei (K:=K) rfl) rfl T.pG ZY (pc (pv 1) Zb))))),?_⟩
 obtain ⟨dx,h1⟩:=R.ob
 obtain ⟨kvs,h2,h3,h4⟩:=R.dc
 refine ⟨_,rfl,p,_,dx,_,_,rfl,h1,T.fS,T.F8,Nz ..,rfl,_,rfl,?_⟩
 refine mW (λc=>?_) (λc=>?_)
 .have c':ru = "few" := by injection c
  have tb':H tp=some (.j8 tpos pH):=by
   have t:=tb
   unfold Tb at t
   rw [htp] at t
   exact t
  refine ⟨_,rfl,m,ms,us,rfl,aF.of hm,h64,hnd,tb',λz hz H2 sm=>?_,λD H' os hD sm hl po so=>k D H' os hD sm hl po (λ_=>so) λz=>absurd c' z⟩
  have v:=h4 z
  rw [ajr (hin z hz)] at v
  exact ⟨_,rfl,p,_,dx,_,_,rfl,sm _ _ h1,T.fS,T.vj,yk ..,_,rfl,du,_,rfl,(by have q:=dS.k (k:=Sum.inl z) (sm _ _ h2); rw [v] at q; exact q),rfl,rfl⟩
 .have c':¬ ru = "few" := λz=>c (by rw [z])
  exact ⟨_,rfl,m,_,rfl,.inl (aF.of hm),λD hD=>k D _ ms hD (Zg hD _) Za (List.Perm.refl _) (λz=>absurd z c') λ_=>rfl⟩
theorem DR {kvs:List (Key×V)} {k:Key} (j:Key):aM (aU kvs k) j=if j=k then none else aM kvs j:=by
 induction kvs with
 | nil=>by_cases e:j=k <;> simp [aU,aM,e]
 | cons q r ih =>
  by_cases e:q.1=k
  .rw [X8 e,ih]
   by_cases c:j=k
   .rw [ajr c,ajr c]
   .rw [aBJ c,aBJ c,ZI (λz=>c (z.symm.trans e))]
  .rw [X7 e]
   by_cases c:q.1=j
   .rw [ZR c,aBJ (λz=>e (c.trans z)),ZR c]
   .rw [ZI c,ih,ZI c]
theorem Xh (kvs:List (Key×V)) (k:Key):(aU kvs k).length<=kvs.length:=ane ..
def Ht (K:W.Frag):Sp:=λvs H Q _=>∃ (p:Addr) (b sh pl:Int) (ru:Str) (ls:Addr) (aq:List Addr) (du:Addr) (seq:List Int) (us:Int->Int) (n:Nat),vs=[.ref p,.int b]/\aD K H p sh pl ru ls aq du seq us n/\b∈seq /\
 ∀ H',aD K H' p sh pl ru ls aq du (seq.erase b) us n->SR aq du H H'->Q .aR H'
theorem YG (F:aZ K "drop" "Room.drop" JV f fd) (T:Txt K mg) (rX:av P w K mg base (aa K "Room") "need" 2 Bm (Dm K)) (oX:av P w K mg base (aa K "Room") "mates" 2 yC (AY K)):au P w K mg base aW 3 f fd Ej (Ht K):=by
 refine F.ok gT (λvs H Q E h=>?_) (λcdv A outer st H vs Q E hr h=>?_)
 .obtain ⟨p,b,sh,pl,ru,ls,aq,du,seq,us,n,rfl,_⟩:=h
  rfl
 obtain ⟨p,b,sh,pl,ru,ls,aq,du,seq,us,n,rfl,R,hb,k⟩:=h
 have nd:=gT.nd
 refine ⟨_,(Zd (Zo (Zk rX hr.m T.fS (pv 0) (pc (pv 1) Zb)))
   (Zd (Zo (uS (K:=K) rfl (iM aA6 PySem.F.slot_list_remove PySem.F.type_list_remove Py (Zk oX hr.m T.fS (pv 0) (pc (pv 1) Zb)) (pc (pv 1) Zb))))
   (Zh (Zo (OU (Zl (K:=K) rfl (pv 0) rfl) (pv 1) ⟨rfl,rfl,rfl,rfl⟩))))),?_⟩
 obtain ⟨dx,h1⟩:=R.ob
 obtain ⟨kvs,h2,h3,h4⟩:=R.dc
 obtain ⟨o1,o2,o3,o4,o5,o6⟩:=R.off
 refine ⟨_,rfl,p,dx,_,rfl,h1,bO ..,_,rfl,p,b,sh,pl,ru,ls,aq,du,seq,us,n,rfl,R,hb,?_⟩
 refine ⟨_,rfl,p,dx,_,rfl,h1,bO ..,_,rfl,p,b,sh,pl,ru,ls,aq,du,seq,us,n,rfl,R,λs ad es hs had=>?_⟩
 have qi:ad∈aq:=a7T hs
 have hmem:b∈Zn sh (b % sh) seq:=bz.mpr ⟨hb,rfl⟩
 refine ⟨.inl ⟨rfl,_,aF.of had⟩,_,rfl,ad,_,b,rfl,rfl,had,hmem,?_⟩
 have S1:oq (upd H ad (.lst (((Zn sh (b % sh) seq).erase b).map V.int))) ls aq sh (seq.erase b):=by
  refine R.st.put hs ?_ λs' hs'=>?_
  .rw [Bw,es]
  .rw [Bw]
   exact a5f λm=>hs' (by have:=(bz.mp m).2; lia)
 have np:p≠ad:=λz=>o2 (z ▸ qi)
 have CB:du≠ad:=λz=>o5 (z ▸ qi)
 have rC:upd H ad (.lst (((Zn sh (b % sh) seq).erase b).map V.int)) p=some (.ins (aa K "Room") dx (gE sh pl ru ls du)):=by rw [Zc np]; exact h1
 have h2':upd H ad (.lst (((Zn sh (b % sh) seq).erase b).map V.int)) du=some (.dK kvs):=by rw [Zc CB]; exact h2
 refine ⟨_,rfl,p,_,dx,_,_,rfl,rC,T.fS,T.vj,yk ..,du,rfl,.inl ⟨_,.inl h2'⟩,_,rfl,kvs,Sum.inl b,_,h2',rfl,(by rw [h4 b,ajr hb]),?_⟩
 refine k _ ⟨⟨dx,by rw [Zc o1]; exact rC⟩,S1.other _ (aFS o3) o5,⟨_,Za,⟨awv (Xh _ _) h3.1,h3.2.drop b⟩,λx=>?_⟩,R.nd.erase b,R.s0,R.s1⟩ λx o e n1 n2=>?_
 .rw [DR,h4 x]
  by_cases c:x=b
  .subst c
   rw [ajr rfl,aBJ (λm=>((a9K R.nd).mp m).1 rfl)]
  .rw [aBJ (λz=>c (aXH z))]
   by_cases m:x∈seq
   .rw [ajr m,ajr ((a9K R.nd).mpr ⟨c,m⟩)]
   .rw [aBJ m,aBJ (λz=>m (ak3 z))]
 .rw [Zc n1,Zc (λz:x=ad=>n2 (z ▸ qi))]
  exact e
def bump (us:Int->Int) (b:Int):Int->Int:=λx=>if x=b then us b+1 else us x
def tU (K:W.Frag):Sp:=λvs H Q _=>∃ (p:Addr) (b sh pl:Int) (ru:Str) (ls:Addr) (aq:List Addr) (du:Addr) (seq:List Int) (us:Int->Int) (n:Nat),vs=[.ref p,.int b]/\aD K H p sh pl ru ls aq du seq us n/\n<=900/\b∈seq/\seq.length<=900 /\
 ∀ H',aD K H' p sh pl ru ls aq du (if ru = "old" then seq.erase b++[b] else seq) (bump us b) (n+1)->SR aq du H H'->Q .aR H'
theorem YM (F:aZ K "use" "Room.use" Jr f fd) (T:Txt K mg) (rX:av P w K mg base (aa K "Room") "need" 2 Bm (Dm K)) (oX:av P w K mg base (aa K "Room") "mates" 2 yC (AY K)):au P w K mg base aW 3 f fd Jq (tU K):=by
 refine F.ok iI (λvs H Q E h=>?_) (λcdv A outer st H vs Q E hr h=>?_)
 .obtain ⟨p,b,sh,pl,ru,ls,aq,du,seq,us,n,rfl,_⟩:=h
  rfl
 obtain ⟨p,b,sh,pl,ru,ls,aq,du,seq,us,n,rfl,R,hn,hb,hsl,k⟩:=h
 have nd:=iI.nd
 have hu:=b9 hr
 refine ⟨_,(Zd (Zo (Zk rX hr.m T.fS (pv 0) (pc (pv 1) Zb)))
   (Zd (Wf hu (Zl (K:=K) rfl (pv 0) rfl) (pv 1) Zj VV (λ_ _ _=>rfl))
   (Zh (aH (Zv aY (Zl (K:=K) rfl (pv 0) rfl) j5 (Zw _)) (Zd (cF 2 nd (Zk oX hr.m T.fS (pv 0) (pc (pv 1) Zb)))
   (Zd (Zo (uS (K:=K) rfl (iM aA6 PySem.F.slot_list_remove PySem.F.type_list_remove Py (pv 2) (pc (pv 1) Zb))))
   (Zh (Zo (uS (K:=K) rfl (iM aA6 a3u aDM wM (pv 2) (pc (pv 1) Zb))))))) Zu)))),?_⟩
 obtain ⟨dx,h1⟩:=R.ob
 obtain ⟨kvs,h2,h3,h4⟩:=R.dc
 obtain ⟨o1,o2,o3,o4,o5,o6⟩:=R.off
 refine ⟨_,rfl,p,dx,_,rfl,h1,bO ..,_,rfl,p,b,sh,pl,ru,ls,aq,du,seq,us,n,rfl,R,hb,?_⟩
 refine ⟨_,rfl,p,_,dx,_,_,rfl,h1,T.fS,T.vj,yk ..,_,rfl,du,_,rfl,(by have q:=dS.k (k:=Sum.inl b) h2; rw [h4 b,ajr hb] at q; exact q),_,_,rfl,rfl,_,jB.k (k:=Sum.inl b) h2 (ZG (by lia)),?_⟩
 have R1:aD K (upd H du (.dK (putK kvs (Sum.inl b) (.int (us b+1))))) p sh pl ru ls aq du seq (bump us b) (n+1):=by
  refine ⟨⟨dx,by rw [Zc o1]; exact h1⟩,R.st.other _ (aFS o3) o5,⟨_,Za,⟨awv (Bp ..) (by have:=h3.1; lia),h3.2.put b _⟩,λx=>?_⟩,R.nd,R.s0,R.s1⟩
  rw [yv]
  unfold bump
  by_cases c:x=b
  .subst c
   rw [ajr rfl,ajr hb,ajr rfl]
  .rw [aBJ (λz=>c (aXH z)),h4 x,aBJ c]
 have s1:SR aq du H (upd H du (.dK (putK kvs (Sum.inl b) (.int (us b+1))))):=λx o e n1 n2=>by rw [Zc n1]; exact e
 generalize upd H du (.dK (putK kvs (Sum.inl b) (.int (us b+1))))=H1 at *
 obtain ⟨dU,g1⟩:=R1.ob
 refine ⟨_,rfl,p,_,dU,_,_,rfl,g1,T.fS,T.F8,Nz ..,rfl,_,rfl,?_⟩
 refine mW (λc=>?_) (λc=>?_)
 .have c':ru = "old" := by injection c
  rw [ajr c'] at k
  refine ⟨_,rfl,p,dU,_,rfl,g1,bO ..,_,rfl,p,b,sh,pl,ru,ls,aq,du,seq,_,_,rfl,R1,λs ad es hs had=>?_⟩
  have qi:ad∈aq:=a7T hs
  have hmem:b∈Zn sh (b % sh) seq:=bz.mpr ⟨hb,rfl⟩
  refine ⟨_,rfl,.inl ⟨rfl,_,aF.of had⟩,_,rfl,ad,_,b,rfl,rfl,had,hmem,?_⟩
  have ll:((Zn sh (b % sh) seq).erase b).length<=900:=awv List.length_erase_le (awv (ane ..) hsl)
  refine ⟨_,rfl,.inl ⟨rfl,_,aF.of Za⟩,_,rfl,ad,_,_,rfl,rfl,Za,ZG (by rw [afy]; lia),?_⟩
  rw [Ic]
  have e1:(((Zn sh (b % sh) seq).erase b).map V.int++[V.int b])=((Zn sh (b % sh) seq).erase b++[b]).map V.int:=by rw [aAZ]; rfl
  have S2:oq (upd H1 ad (.lst (((Zn sh (b % sh) seq).erase b++[b]).map V.int))) ls aq sh (seq.erase b++[b]):=by
   refine R1.st.put hs ?_ λs' hs'=>?_
   .rw [Br,ajr es.symm,Bw,es]
   .rw [Br,aBJ (by lia),Bw]
    exact a5f λm=>hs' (by have:=(bz.mp m).2; lia)
  have np:p≠ad:=λz=>o2 (z ▸ qi)
  have FI:du≠ad:=λz=>o5 (z ▸ qi)
  obtain ⟨FU,g2,g3,g4⟩:=R1.dc
  have L4:∀ x,x∈seq.erase b++[b]↔x∈seq:=λx=>by
   rw [mem_append,mem_singleton,a9K R.nd]
   constructor
   .rintro (⟨_,m⟩ | rfl)
    .exact m
    .exact hb
   .intro m
    by_cases z:x=b
    .exact .inr z
    .exact .inl ⟨z,m⟩
  rw [e1]
  refine k _ ⟨⟨dU,by rw [Zc np]; exact g1⟩,S2,⟨FU,by rw [Zc FI]; exact g2,g3,λx=>?_⟩,?_,R.s0,R.s1⟩ λx o e n1 n2=>?_
  .rw [g4 x]
   by_cases m:x∈seq
   .rw [ajr m,ajr ((L4 x).mpr m)]
   .rw [aBJ m,aBJ (λz=>m ((L4 x).mp z))]
  .refine A4 (R.nd.erase b) λm=>((a9K R.nd).mp m).1 rfl
  .rw [Zc (λz:x=ad=>n2 (z ▸ qi))]
   exact s1 _ _ e n1 n2
 .have c':¬ ru = "old" := λz=>c (by rw [z])
  rw [aBJ c'] at k
  exact k _ R1 s1
end
def cQ (seq:List Int):Option Int->List Int
 | none=>seq
 | some g=>seq.erase g
def gm (ru:Str) (us:Int->Int) (pl:Int) (ms:List Int) (gone:Option Int):Prop :=
 ((ms.length:Int)<pl->gone=none)/\(¬ (ms.length:Int)<pl->∃ (g:Int) (rest:List Int),gone=some g/\(g :: rest).Perm ms/\(ru = "few" -> (g :: rest).Pairwise (tM us ms))/\(ru ≠ "few" -> g :: rest=ms))
theorem lA {seq:List Int} {g:Option Int}:(cQ seq g).Sublist seq:=by
 cases g with
 | none=>exact List.Sublist.refl _
 | some g=>exact List.erase_sublist
section
def MU (K:W.Frag):Sp:=λvs H Q _=>∃ (p dx:Addr) (sh pl:Int) (ru:Str),vs=[.ref p,.int sh,.int pl,.str ru]/\H p=some (.ins (aa K "Room") dx [])/\1<=sh/\sh<=64 /\
 ∀ (ls:Addr) (aq:List Addr) (du:Addr) (H':Hp),aD K H' p sh pl ru ls aq du [] (λ_=>0) 0->H ls=none->H du=none->(∀ ad∈aq,H ad=none)->(∀ b o,H b=some o->b≠p->H' b=some o)->Q .aR H'
theorem YF (F:aZ K "__init__" "Room.__init__" Ek f fd) (T:Txt K mg):au P w K mg base aW 1 f fd JW (MU K):=by
 refine F.ok gS (λvs H Q E h=>?_) (λcdv A outer st H vs Q E hr h=>?_)
 .obtain ⟨p,dx,sh,pl,ru,rfl,_⟩:=h
  rfl
 obtain ⟨p,dx,sh,pl,ru,rfl,hp,hs0,hs1,k⟩:=h
 have nd:=gS.nd
 refine ⟨_,(Zd (kN (pv 0) (pv 1) rfl)
   (Zd (kN (pv 0) (pv 2) rfl)
   (Zd (kN (pv 0) (pv 3) rfl)
   (Zd (kN (pv 0) (wN (tE (jJ:=(Zi Ek)) (oN:=fQ) (N:=["number"]) (own:=1) (js:=[]) (by decide +kernel) rfl rfl) rfl (tF rfl T.mF (pc (pv 1) Zb)) (λ_ _ _ _ _ _=>(bQ 0 (show List.Nodup (["number"]:List Str) by decide +kernel))) (λ_ _ _ _ _ _=>(mh Zb))) rfl)
   (Zh (kN (pv 0) Be rfl)))))),?_⟩
 refine ⟨_,rfl,_,rfl,p,_,dx,_,rfl,hp,T.fS,T.LN,(by show 0<1000; decide),?_⟩
 refine ⟨_,rfl,_,rfl,p,_,dx,_,rfl,Za,T.fS,T.LM,(by show 1<1000; decide),?_⟩
 refine ⟨_,rfl,_,rfl,p,_,dx,_,rfl,Za,T.fS,T.F8,(by show 2<1000; decide),?_⟩
 have e3:upd (upd (upd H p (.ins (aa K "Room") dx (ai "shelves" (.int sh) []))) p (.ins (aa K "Room") dx (ai "places" (.int pl) (ai "shelves" (.int sh) [])))) p (.ins (aa K "Room") dx (ai "rule" (.str ru) (ai "places" (.int pl) (ai "shelves" (.int sh) [])))) p=some (.ins (aa K "Room") dx (ai "rule" (.str ru) (ai "places" (.int pl) (ai "shelves" (.int sh) [])))):=Za
 have o3:∀ b o,H b=some o->b≠p->upd (upd (upd H p (.ins (aa K "Room") dx (ai "shelves" (.int sh) []))) p (.ins (aa K "Room") dx (ai "places" (.int pl) (ai "shelves" (.int sh) [])))) p (.ins (aa K "Room") dx (ai "rule" (.str ru) (ai "places" (.int pl) (ai "shelves" (.int sh) [])))) b=some o:=λb o e n=>by rw [Zc n,Zc n,Zc n]; exact e
 generalize upd (upd (upd H p (.ins (aa K "Room") dx (ai "shelves" (.int sh) []))) p (.ins (aa K "Room") dx (ai "places" (.int pl) (ai "shelves" (.int sh) [])))) p (.ins (aa K "Room") dx (ai "rule" (.str ru) (ai "places" (.int pl) (ai "shelves" (.int sh) []))))=H3 at *
 have f3:∀ b,H3 b=none->H b=none:=λb e=>by
  cases q:H b with
  | none=>rfl
  | some o =>
   by_cases z:b=p
   .rw [z,e3] at e; cases e
   .rw [o3 b o q z] at e; cases e
 refine ⟨_,rfl,sh,rfl,by lia,by lia,λls hls=>?_⟩
 refine Eb (lo:=0) (n:=sh.toNat) (l:=ls) (λj ys σ G=>∃ (v0:Option V) (aq:List Addr),σ=[v0]/\ys=aq.map V.ref/\aq.length=j/\aq.Nodup/\ls∉aq/\G ls=some (.lst ys)/\(∀ ad∈aq,H3 ad=none/\G ad=some (.lst []))/\aB H3 G)
  ⟨none,[],rfl,rfl,rfl,nodup_nil,by simp,Za,by simp,Zg hls _⟩ ?_ ?_
 .rintro j ys σ G hj hy ⟨v0,aq,rfl,rfl,hlen,hnd,hoff,g1,g2,s1⟩
  refine ⟨(sl 0),λq hq=>?_⟩
  have nq:ls≠q:=Ze g1 hq
  have Lx:q∉aq:=λm=>by rw [(g2 q m).2] at hq; cases hq
  refine kP.of (awv (by lia:sh.toNat<=64) (by decide)) hj hy (by rw [Zc nq]; exact g1) ⟨_,aq++[q],rfl,by rw [aAZ]; rfl,by rw [ap5,hlen]; rfl,A4 hnd Lx,?_,Za,λad m=>?_,?_⟩
  .intro m
   rcases aPD.mp m with m | m
   .exact hoff m
   .exact nq (by simpa using m)
  .rcases aPD.mp m with m | m
   .rw [Zc (λz:ad=ls=>hoff (z ▸ m)),Zc (λz:ad=q=>Lx (z ▸ m))]
    exact g2 ad m
   .have e:ad=q:=by simpa using m
    subst e
    rw [Zc (aFS nq)]
    exact ⟨s1.free hq,Za⟩
  .intro e o y
   rw [Zc (Ze y hls),Zc (Ze (s1 _ _ y) hq)]
   exact s1 _ _ y
 rintro ys σ G hy ⟨v0,aq,rfl,rfl,hlen,hnd,hoff,g1,g2,s1⟩
 have gp:=s1 _ _ e3
 refine ⟨_,rfl,p,_,dx,_,rfl,gp,T.fS,T.LO,(by show 3<1000; decide),?_⟩
 intro du sI
 have FG:ls≠p:=λz=>by rw [z,e3] at hls; cases hls
 have LC:∀ ad∈aq,ad≠p:=λad m z=>by have q:=(g2 ad m).1; rw [z,e3] at q; cases q
 have Cw:p≠du:=Ze (Za (H:=G) (a:=p) (o:=.ins (aa K "Room") dx (ai "standing" (.ref ls) (ai "rule" (.str ru) (ai "places" (.int pl) (ai "shelves" (.int sh) [])))))) sI
 have gl:ls≠du:=λz=>by rw [← z,Zc FG,g1] at sI; cases sI
 have ga:du∉aq:=λm=>by rw [Zc (aFS Cw),(g2 du m).2] at sI; cases sI
 refine ⟨_,rfl,p,_,dx,_,rfl,(by rw [Zc Cw]; exact Za),T.fS,T.vj,(by show 4<1000; decide),?_⟩
 have Aq:H3 du=none:=by
  rw [Zc (aFS Cw)] at sI
  exact s1.free sI
 refine k ls aq du _ ⟨⟨dx,Za⟩,⟨?_,hlen,hnd,hoff,λi ad e=>?_⟩,⟨[],?_,⟨a17 _,KI.nil⟩,λb=>by simp [aM]⟩,nodup_nil,hs0,hs1⟩ (f3 _ hls) (f3 _ Aq) (λad m=>f3 _ (g2 ad m).1) λb o e n=>?_
 .rw [Zc FG,Zc gl,Zc FG]
  exact g1
 .have m:=a7T e
  rw [Zc (LC ad m),Zc (λz:ad=du=>ga (z ▸ m)),Zc (LC ad m)]
  exact (g2 ad m).2
 .rw [Zc (aFS Cw)]
  exact Za
 .have q:=s1 _ _ (o3 b o e n)
  have nb:b≠du:=λz=>by
   rw [← z,Zc n,q] at sI
   cases sI
  rw [Zc n,Zc nb,Zc n]
  exact q
def zero (us:Int->Int) (b:Int):Int->Int:=λx=>if x=b then 0 else us x
def Nx (K:W.Frag):Sp:=λvs H Q _=>∃ (p:Addr) (b sh pl:Int) (ru:Str) (ls:Addr) (aq:List Addr) (du:Addr) (seq:List Int) (us:Int->Int) (n:Nat),vs=[.ref p,.int b]/\aD K H p sh pl ru ls aq du seq us n/\Tb K H/\n<=900/\b∉seq/\1<=pl/\(Zn sh (b % sh) seq).length<64 /\
 ∀ (gone:Option Int) (H':Hp),gm ru us pl (Zn sh (b % sh) seq) gone->aD K H' p sh pl ru ls aq du (cQ seq gone++[b]) (zero us b) (n+1)->SR aq du H H'->Q (qc gone) H'
def IG (K:W.Frag):Sp:=λvs H Q _=>∃ (p:Addr) (b sh pl:Int) (ru:Str) (ls:Addr) (aq:List Addr) (du:Addr) (seq:List Int) (us:Int->Int) (n:Nat),vs=[.ref p,.int b]/\aD K H p sh pl ru ls aq du seq us n/\Tb K H/\1<=pl/\(Zn sh (b % sh) seq).length<64 /\
 ∀ (gone:Option Int) (H':Hp),gm ru us pl (Zn sh (b % sh) seq) gone->aB H H'->Q (qc gone) H'
theorem Zdw (F:aZ K "leaver_for" "Room.leaver_for" KP f fd) (T:Txt K mg) (oX:av P w K mg base (aa K "Room") "mates" 2 yC (AY K)) (EO:av P w K mg base (aa K "Room") "going" 2 By (Ig K)):au P w K mg base aW 3 f fd Ep (IG K):=by
 refine F.ok cz (λvs H Q E h=>?_) (λcdv A outer st H vs Q E hr h=>?_)
 .obtain ⟨p,b,sh,pl,ru,ls,aq,du,seq,us,n,rfl,_⟩:=h
  rfl
 obtain ⟨p,b,sh,pl,ru,ls,aq,du,seq,us,n,rfl,R,tb,hpl,h64,k⟩:=h
 have nd:=cz.nd
 have hu:=b9 hr
 refine ⟨_,(Zd (cF 2 nd (Zk oX hr.m T.fS (pv 0) (pc (pv 1) Zb)))
   (Zd (aH (Zv jg (Zs (ZH (K:=K) rfl) rfl T.rO aYI (pc (pv 2) Zb)) (Zl (K:=K) rfl (pv 0) rfl) (Zw _)) (Zh (Zt V2)) Zu)
   (Zh (Zt (az (Zq (K:=K) rfl) (Zk EO hr.m T.fS (pv 0) (pc (pv 2) Zb)) Zj (λ_ _=>rfl)))))),?_⟩
 obtain ⟨dx,h1⟩:=R.ob
 refine ⟨_,rfl,p,dx,_,rfl,h1,bO ..,_,rfl,p,b,sh,pl,ru,ls,aq,du,seq,us,n,rfl,R,λs ad es hs had=>?_⟩
 have hnd:(Zn sh (b % sh) seq).Nodup:=R.nd.sublist List.filter_sublist
 refine ⟨_,rfl,ad,_,rfl,.inl (aF.of had),_,rfl,p,_,dx,_,_,rfl,h1,T.fS,T.LM,Xi ..,_,_,rfl,rfl,_,rfl,?_⟩
 rw [afy]
 refine mW (λc=>?_) (λc=>?_)
 .exact k none H ⟨λ_=>rfl,λz=>absurd z (by lia)⟩ (aB.refl _)
 .refine ⟨_,rfl,p,dx,_,rfl,h1,bO ..,_,rfl,p,ad,Zn sh (b % sh) seq,sh,pl,ru,ls,aq,du,seq,us,n,rfl,R,tb,had,h64,hnd,(λx m=>(bz.mp m).1),λD H' os hD sm hl po s1 s2=>?_⟩
  have lo:=po.length_eq
  match os,hl,po,s1,s2,lo with
  | [],_,_,_,_,lo=>exact absurd lo (by simp; lia)
  | g :: rest,hl,po,s1,s2,lo =>
   refine ⟨D,_,_,_,rfl,rfl,aF.of hl,gF,?_⟩
   exact k (some g) H' ⟨λz=>absurd c (by lia),λ_=>⟨g,rest,rfl,po,s1,s2⟩⟩ sm
theorem Y3 (F:aZ K "bring" "Room.bring" JG f fd) (T:Txt K mg) (sf:av P w K mg base (aa K "Room") "has" 1 Bt (nB K)) (xC:av P w K mg base (aa K "Room") "leaver_for" 3 Ep (IG K)) (oX:av P w K mg base (aa K "Room") "mates" 2 yC (AY K)) (xj:av P w K mg base (aa K "Room") "drop" 3 Ej (Ht K)):au P w K mg base aW 4 f fd JF (Nx K):=by
 refine F.ok gg (λvs H Q E h=>?_) (λcdv A outer st H vs Q E hr h=>?_)
 .obtain ⟨p,b,sh,pl,ru,ls,aq,du,seq,us,n,rfl,_⟩:=h
  rfl
 obtain ⟨p,b,sh,pl,ru,ls,aq,du,seq,us,n,rfl,R,tb,hn,hb,hpl,h64,k⟩:=h
 have nd:=gg.nd
 have hu:=b9 hr
 refine ⟨_,(Zd (aH (ZS (Zk sf hr.m T.fS (pv 0) (pc (pv 1) Zb))) (Zh pW) Zu)
   (Zd (cF 2 nd (Zk xC hr.m T.fS (pv 0) (pc (pv 1) Zb)))
   (Zd (aH (Du (N2 (pv 2))) (Zh (Zo (Zk xj hr.m T.fS (pv 0) (pc (pv 2) Zb)))) Zu)
   (Zd (Zo (uS (K:=K) rfl (iM aA6 a3u aDM wM (Zk oX hr.m T.fS (pv 0) (pc (pv 1) Zb)) (pc (pv 1) Zb))))
   (Zd (A5 hu (Zl (K:=K) rfl (pv 0) rfl) (pv 1) Zj rfl)
   (Zh (Zt (pv 2)))))))),?_⟩
 obtain ⟨dx,h1⟩:=R.ob
 refine ⟨_,rfl,p,dx,_,rfl,h1,bO ..,_,rfl,p,b,sh,pl,ru,ls,aq,du,seq,us,n,rfl,R,?_⟩
 rw [ba7 hb]
 refine ⟨_,rfl,cW rfl ?_⟩
 refine ⟨_,rfl,p,dx,_,rfl,h1,bO ..,_,rfl,p,b,sh,pl,ru,ls,aq,du,seq,us,n,rfl,R,tb,hpl,h64,λgone H1 gp sm=>?_⟩
 refine gN ?_
 dsimp only
 have R0:=R.same sm
 have hnd:(Zn sh (b % sh) seq).Nodup:=R.nd.sublist List.filter_sublist
 refine x9 (λσ G=>σ=[some (.ref p),some (.int b),some (qc gone)]/\aD K G p sh pl ru ls aq du (cQ seq gone) us n/\SR aq du H G) (λD' _ k'=>?_) ?_
 .match gone,gp with
  | none,gp=>exact ⟨_,rfl,_,rfl,cW rfl (k' _ _ ⟨rfl,R0,SR.of sm⟩)⟩
  | some g,gp =>
   have hg:g∈Zn sh (b % sh) seq:=by
    by_cases c:((Zn sh (b % sh) seq).length:Int)<pl
    .exact absurd (gp.1 c) (by simp)
    .obtain ⟨g',rest,e,po,_⟩:=gp.2 c
     injection e with e
     subst e
     exact po.mem_iff.mp abW
   obtain ⟨wg,rC⟩:=R0.ob
   exact ⟨_,rfl,_,rfl,fT rfl ⟨_,rfl,p,wg,_,rfl,rC,bO ..,_,rfl,p,g,sh,pl,ru,ls,aq,du,seq,us,n,rfl,R0,(bz.mp hg).1,λH2 R2 s3=>k' _ _ ⟨rfl,R2,(SR.of sm).trans s3⟩⟩⟩
 rintro _ G ⟨rfl,R1,s1⟩
 obtain ⟨dU,g1⟩:=R1.ob
 obtain ⟨kvs,g2,g3,g4⟩:=R1.dc
 obtain ⟨o1,o2,o3,o4,o5,o6⟩:=R1.off
 refine ⟨_,rfl,p,dU,_,rfl,g1,bO ..,_,rfl,p,b,sh,pl,ru,ls,aq,du,cQ seq gone,us,n,rfl,R1,λs ad es hs TY=>?_⟩
 have qi:ad∈aq:=a7T hs
 have Ar:=R1.st.at_ s ad hs
 have ll:(Zn sh s (cQ seq gone)).length<=64:=by
  have q:(Zn sh s (cQ seq gone)).Sublist (Zn sh s seq):=List.Sublist.filter _ (lA (g:=gone))
  have q2:=q.length_le
  rw [es] at q2 ⊢
  lia
 refine ⟨.inl ⟨rfl,_,aF.of Ar⟩,_,rfl,ad,_,_,rfl,rfl,Ar,ZG (by rw [afy]; lia),?_⟩
 have nb:b∉cQ seq gone:=λm=>hb (lA.subset m)
 have e1:((Zn sh s (cQ seq gone)).map V.int++[V.int b])=(Zn sh s (cQ seq gone)++[b]).map V.int:=by rw [aAZ]; rfl
 rw [e1]
 have S2:oq (upd G ad (.lst ((Zn sh s (cQ seq gone)++[b]).map V.int))) ls aq sh (cQ seq gone++[b]):=by
  refine R1.st.put hs ?_ λs' hs'=>?_
  .rw [Br,ajr es.symm]
  .rw [Br,aBJ (by lia)]
 have np:p≠ad:=λz=>o2 (z ▸ qi)
 have FI:du≠ad:=λz=>o5 (z ▸ qi)
 have C3:upd G ad (.lst ((Zn sh s (cQ seq gone)++[b]).map V.int)) p=some (.ins (aa K "Room") dU (gE sh pl ru ls du)):=by rw [Zc np]; exact g1
 have T6:upd G ad (.lst ((Zn sh s (cQ seq gone)++[b]).map V.int)) du=some (.dK kvs):=by rw [Zc FI]; exact g2
 refine ⟨_,rfl,p,_,dU,_,_,rfl,C3,T.fS,T.vj,yk ..,_,rfl,du,_,rfl,jB.k (k:=Sum.inl b) T6 (ZG (by lia)),?_⟩
 refine ⟨_,rfl,k gone _ gp ⟨⟨dU,by rw [Zc o1]; exact C3⟩,S2.other _ (aFS o3) o5,⟨_,Za,⟨awv (Bp ..) (by have:=g3.1; lia),g3.2.put b _⟩,λx=>?_⟩,A4 R1.nd nb,R.s0,R.s1⟩ λx o e n1 n2=>?_⟩
 .rw [yv]
  unfold zero
  by_cases c:x=b
  .subst c
   rw [ajr rfl,ajr (af2 _ (ai5.mpr rfl)),ajr rfl]
  .rw [aBJ (λz=>c (aXH z)),g4 x,aBJ c]
   by_cases m:x∈cQ seq gone
   .rw [ajr m,ajr (a4h _ m)]
   .rw [aBJ m,aBJ (λz=>(aPD.mp z).elim m λq=>c (ai5.mp q))]
 .rw [Zc n1,Zc (λz:x=ad=>n2 (z ▸ qi))]
  exact s1 _ _ e n1 n2
end
theorem AO:∀ {a b:List Int},a.Nodup->(∀ x∈a,x∈b)->a.length<=b.length
 | [],_,_,_=>avV _
 | x :: a,b,nd,h=>by
  have CB:=aEW.mp nd
  have mx:=h x abW
  have q:=AO (b:=b.erase x) CB.2 λy hy=>(mem_erase_of_ne (λz:y=x=>CB.1 (by rw [← z]; exact hy))).mpr (h y (aZE _ hy))
  rw [List.length_erase_of_mem mx] at q
  have:=List.length_pos_of_mem mx
  show a.length+1<=b.length
  lia
theorem Nv {kvs:List (Key×V)} {seq:List Int} (h:KI kvs) (nd:seq.Nodup) (e:∀ b,(aM kvs (Sum.inl b:Key)).isSome=true↔b∈seq):kvs.length=seq.length:=by
 obtain ⟨ks,h4,h5⟩:=h
 have per:ks.Perm seq:=by
  refine (ar6 h5 nd).mpr λb=>?_
  rw [← e b,uV,h4,mem_map]
  constructor
  .intro m
   exact ⟨b,m,rfl⟩
  .rintro ⟨x,hx,q⟩
   rw [← aXH q]; exact hx
 have l:=aOy List.length h4
 rw [afy,afy] at l
 rw [l,per.length_eq]
theorem aD.norm {K:W.Frag} {H:Hp} {p:Addr} {sh pl:Int} {ru:Str} {ls:Addr} {aq:List Addr} {du:Addr} {seq:List Int} {us:Int->Int} {n:Nat} (R:aD K H p sh pl ru ls aq du seq us n):aD K H p sh pl ru ls aq du seq us seq.length:=by
 obtain ⟨kvs,h2,⟨h3,h5⟩,h4⟩:=R.dc
 refine ⟨R.ob,R.st,⟨kvs,h2,⟨Nat.le_of_eq (Nv h5 R.nd λb=>?_),h5⟩,h4⟩,R.nd,R.s0,R.s1⟩
 rw [h4 b]
 by_cases c:b∈seq
 .simp [c]
 .simp [c]
structure SA where
 sp:Addr
 rp:Addr
 ls:Addr
 aq:List Addr
 du:Addr
 dh:Addr
 df:Addr
structure Cf where
 sh:Int
 pl:Int
 ru:Str
 late:Bool
def bF (rp:Addr) (late:Bool) (dh df:Addr):List (Str×V):=ai "fresh" (.ref df) (ai "held" (.ref dh) (ai "late" (.bl late) (ai "room" (.ref rp) [])))
theorem Om (rp:Addr) (late:Bool) (dh df:Addr):(bF rp late dh df).lookup ("fresh" : Str)=some (.ref df):=by
 unfold bF; rw [Zf,ajr rfl]
theorem DG (rp:Addr) (late:Bool) (dh df:Addr):(bF rp late dh df).lookup ("held" : Str)=some (.ref dh):=by
 unfold bF; rw [Zf,aBJ (by decide +kernel),Zf,ajr rfl]
theorem Nu (rp:Addr) (late:Bool) (dh df:Addr):(bF rp late dh df).lookup ("late" : Str)=some (.bl late):=by
 unfold bF; rw [Zf,aBJ (by decide +kernel),Zf,aBJ (by decide +kernel),Zf,ajr rfl]
theorem wJ (rp:Addr) (late:Bool) (dh df:Addr):(bF rp late dh df).lookup ("room" : Str)=some (.ref rp):=by
 unfold bF; rw [Zf,aBJ (by decide +kernel),Zf,aBJ (by decide +kernel),Zf,aBJ (by decide +kernel),Zf,ajr rfl]
theorem cX (rp:Addr) (late:Bool) (dh df:Addr) {m:Str} (h1:¬ m = "fresh" := by decide +kernel) (h2:¬ m = "held" := by decide +kernel) (h3:¬ m = "late" := by decide +kernel) (h4:¬ m = "room" := by decide +kernel):(bF rp late dh df).lookup m=none:=by
 unfold bF
 rw [Zf,aBJ h1,Zf,aBJ h2,Zf,aBJ h3,Zf,aBJ h4]
 rfl
structure Rm where
 seq:List Int
 us:Int->Int
 wd:Int->List Int
 fr:Int->Bool
def Mt:HO->Prop
 | .lst _=>True
 | .dK _=>True
 | .ins _ _ _=>True
 | _=>False
structure bI (O:Addr->Prop) (H H':Hp) (O':Addr->Prop):Prop where
 kp:∀ x o,H x=some o->(O x->¬ Mt o)->H' x=some o
 fr:∀ x,O' x->O x\/H x=none
theorem bI.trans {O O1 O2:Addr->Prop} {H H1 H2:Hp} (a:bI O H H1 O1) (b:bI O1 H1 H2 O2):bI O H H2 O2:=by
 refine ⟨λx o e n=>b.kp x o (a.kp x o e n) λh=>(a.fr x h).elim n (λz=>by rw [e] at z; cases z),λx h=>(b.fr x h).elim (a.fr x) λz=>?_⟩
 by_cases c:O x
 .exact .inl c
 .cases q:H x with
  | none=>exact .inr rfl
  | some o=>rw [a.kp x o q λh=>absurd h c] at z; cases z
theorem bI.same {O:Addr->Prop} {H H':Hp} (s:aB H H'):bI O H H' O:=⟨λx o e _=>s x o e,λ_ h=>.inl h⟩
theorem aD.frame {K:W.Frag} {H H':Hp} {p:Addr} {sh pl:Int} {ru:Str} {ls:Addr} {aq:List Addr} {du:Addr} {seq:List Int} {us:Int->Int} {n:Nat} (R:aD K H p sh pl ru ls aq du seq us n) (h:∀ x o,x=p\/x=ls\/x∈aq\/x=du->H x=some o->H' x=some o):aD K H' p sh pl ru ls aq du seq us n:=by
 obtain ⟨dx,h1⟩:=R.ob
 obtain ⟨kvs,h2,h3⟩:=R.dc
 exact ⟨⟨dx,h _ _ (.inl rfl) h1⟩,⟨h _ _ (.inr (.inl rfl)) R.st.top,R.st.len,R.st.nd,R.st.off,λi ad e=>h _ _ (.inr (.inr (.inl (a7T e)))) (R.st.at_ i ad e)⟩,⟨kvs,h _ _ (.inr (.inr (.inr rfl))) h2,h3⟩,R.nd,R.s0,R.s1⟩
structure bM (H:Hp) (dh ls:Addr) (aq:List Addr) (O:Addr->Prop) (seq:List Int) (wd:Int->List Int) (kvs:List (Key×V)) (wl:Int->Addr):Prop where
 dc:H dh=some (.dK kvs)
 ki:KI kvs
 v:∀ b,aM kvs (Sum.inl b:Key)=if b∈seq then some (.ref (wl b)) else none
 at_:∀ b∈seq,H (wl b)=some (.lst ((wd b).map V.int))/\O (wl b)/\wl b∉aq/\wl b≠ls
 inj:∀ b∈seq,∀ c∈seq,wl b=wl c->b=c
structure gr (K:W.Frag) (H:Hp) (a:SA) (c:Cf) (seq:List Int) (us:Int->Int) (O:Addr->Prop):Prop where
 ob:∃ dx,H a.sp=some (.ins (aa K "Store") dx (bF a.rp c.late a.dh a.df))
 room:aD K H a.rp c.sh c.pl c.ru a.ls a.aq a.du seq us seq.length
 d1:∃ kvs,H a.dh=some (.dK kvs)
 d2:∃ kvs,H a.df=some (.dK kvs)
 n1:a.du≠a.dh
 n2:a.df≠a.dh
 n3:a.df≠a.du
 own:∀ x,x=a.sp\/x=a.rp\/x=a.ls\/x∈a.aq\/x=a.du\/x=a.dh\/x=a.df->O x
 ex:∀ x,O x->H x≠none
structure ay (K:W.Frag) (H:Hp) (a:SA) (c:Cf) (s:Rm) (O:Addr->Prop):Prop where
 bf:gr K H a c s.seq s.us O
 held:∃ kvs wl,bM H a.dh a.ls a.aq O s.seq s.wd kvs wl
 fresh:∃ kvs,H a.df=some (.dK kvs)/\KI kvs/\∀ b,aM kvs (Sum.inl b:Key)=if s.fr b=true then some (.bl true) else none
 uE:∀ b,s.fr b=true->b∈s.seq
section
variable {K:W.Frag} {H H':Hp} {a:SA} {c:Cf} {s:Rm} {O O':Addr->Prop} {kvs:List (Key×V)} {wl:Int->Addr} {seq:List Int} {us:Int->Int}
theorem bM.frame {dh ls:Addr} {aq:List Addr} {wd:Int->List Int} (h:bM H dh ls aq O seq wd kvs wl) (hO:O dh) (f:∀ x o,O x->H x=some o->H' x=some o):bM H' dh ls aq O seq wd kvs wl :=
 ⟨f _ _ hO h.dc,h.ki,h.v,λb m=>⟨f _ _ (h.at_ b m).2.1 (h.at_ b m).1,(h.at_ b m).2⟩,h.inj⟩
theorem uF {x:Addr} (h:H x≠none) (f:∀ o,H x=some o->H' x=some o):H' x≠none:=λz=>by
 cases q:H x with
 | none=>exact h q
 | some o=>rw [f o q] at z; cases z
theorem Hs {x y:Addr} {o:HO} (h:H x≠none):upd H y o x≠none:=by
 by_cases z:x=y
 .rw [z,Za]; simp
 .rw [Zc z]; exact h
theorem gr.frame (S:gr K H a c seq us O) (f:∀ x o,O x->H x=some o->H' x=some o):gr K H' a c seq us O:=by
 obtain ⟨dx,h1⟩:=S.ob
 obtain ⟨k1,h2⟩:=S.d1
 obtain ⟨k2,h3⟩:=S.d2
 exact ⟨⟨dx,f _ _ (S.own _ (by simp)) h1⟩,S.room.frame λx o m e=>f x o (S.own x (by rcases m with m | m | m | m <;> simp [m])) e,⟨k1,f _ _ (S.own _ (by simp)) h2⟩,⟨k2,f _ _ (S.own _ (by simp)) h3⟩,S.n1,S.n2,S.n3,S.own,λx h=>uF (S.ex x h) λo=>f x o h⟩
theorem ay.frame (S:ay K H a c s O) (f:∀ x o,O x->H x=some o->H' x=some o):ay K H' a c s O:=by
 obtain ⟨kvs,wl,h2⟩:=S.held
 obtain ⟨kf,h3,h4⟩:=S.fresh
 exact ⟨S.bf.frame f,⟨kvs,wl,h2.frame (S.bf.own _ (by simp)) f⟩,⟨kf,f _ _ (S.bf.own _ (by simp)) h3,h4⟩,S.uE⟩
theorem ay.same (S:ay K H a c s O) (h:aB H H'):ay K H' a c s O:=S.frame λx o _ e=>h x o e
theorem gr.same (S:gr K H a c seq us O) (h:aB H H'):gr K H' a c seq us O:=S.frame λx o _ e=>h x o e
theorem gr.kinds (S:gr K H a c seq us O) {x:Addr} {kvs:List (Key×V)} (h:H x=some (.dK kvs)):x≠a.sp/\x≠a.rp/\x≠a.ls/\x∉a.aq:=by
 obtain ⟨dx,h1⟩:=S.ob
 obtain ⟨dr,h2⟩:=S.room.ob
 refine ⟨λz=>?_,λz=>?_,λz=>?_,λm=>?_⟩
 .rw [← z,h] at h1; cases h1
 .rw [← z,h] at h2; cases h2
 .have q:=S.room.st.top; rw [← z,h] at q; cases q
 .obtain ⟨xs,e⟩:=S.room.st.one m; rw [h] at e; cases e
theorem gr.put (S:gr K H a c seq us O) {x:Addr} (hx:x=a.dh\/x=a.df) (kvs:List (Key×V)):gr K (upd H x (.dK kvs)) a c seq us O:=by
 obtain ⟨kx,ex⟩:∃ kx,H x=some (.dK kx):=hx.elim (λz=>z ▸ S.d1) λz=>z ▸ S.d2
 obtain ⟨q1,q2,q3,q4⟩:=S.kinds ex
 have nu:x≠a.du:=hx.elim (λz=>z ▸ aFS S.n1) λz=>z ▸ S.n3
 obtain ⟨dx,h1⟩:=S.ob
 have dd:∀ {y},(∃ k,H y=some (.dK k))->∃ k,upd H x (.dK kvs) y=some (.dK k):=λ{y} h=>by
  by_cases z:y=x
  .rw [z,Za]; exact ⟨_,rfl⟩
  .rw [Zc z]; exact h
 exact ⟨⟨dx,by rw [Zc (aFS q1)]; exact h1⟩,S.room.frame λy o m e=>by
  rw [Zc (λz:y=x=>by subst z; exact m.elim q2 λm=>m.elim q3 λm=>m.elim q4 nu)]; exact e,dd S.d1,dd S.d2,S.n1,S.n2,S.n3,S.own,λy h=>Hs (S.ex y h)⟩
theorem gr.mono (S:gr K H a c seq us O) (h1:∀ x,x=a.sp\/x=a.rp\/x=a.ls\/x∈a.aq\/x=a.du\/x=a.dh\/x=a.df->O' x) (h2:∀ x,O' x->H x≠none):gr K H a c seq us O':=⟨S.ob,S.room,S.d1,S.d2,S.n1,S.n2,S.n3,h1,h2⟩
theorem gr.iy {seq':List Int} {us':Int->Int} {n:Nat} (S:gr K H a c seq us O) (R:aD K H' a.rp c.sh c.pl c.ru a.ls a.aq a.du seq' us' n) (r:SR a.aq a.du H H'):gr K H' a c seq' us' O:=by
 obtain ⟨dx,h1⟩:=S.ob
 obtain ⟨k1,h2⟩:=S.d1
 obtain ⟨k2,h3⟩:=S.d2
 refine ⟨⟨dx,r.keep S.room h1 (λ_ z=>by cases z) (λ_ z=>by cases z)⟩,R.norm,⟨k1,r _ _ h2 (aFS S.n1) (S.kinds h2).2.2.2⟩,⟨k2,r _ _ h3 S.n3 (S.kinds h3).2.2.2⟩,S.n1,S.n2,S.n3,S.own,λx h=>?_⟩
 by_cases z:x=a.du
 .obtain ⟨kv,e,_⟩:=R.dc
  rw [z,e]; simp
 .by_cases m:x∈a.aq
  .obtain ⟨xs,e⟩:=R.st.one m
   rw [e]; simp
  .exact uF (S.ex x h) λo e=>r x o e z m
theorem gr.cF (S:gr K H a c seq us O) (r:SR a.aq a.du H H'):bI O H H' O:=by
 refine ⟨λx o e n=>r x o e (λz=>?_) λm=>?_,λ_ h=>.inl h⟩
 .obtain ⟨kv,q,_⟩:=S.room.dc
  rw [z,q] at e
  cases e
  exact n (S.own x (by simp [z])) trivial
 .obtain ⟨xs,q⟩:=S.room.st.one m
  rw [q] at e
  cases e
  exact n (S.own x (by simp [m])) trivial
theorem gr.GA {wd:Int->List Int} {seq':List Int} (S:gr K H a c seq us O) (h:bM H a.dh a.ls a.aq O seq' wd kvs wl) (r:SR a.aq a.du H H'):bM H' a.dh a.ls a.aq O seq' wd kvs wl:=by
 obtain ⟨kr,g,_⟩:=S.room.dc
 exact ⟨r _ _ h.dc (aFS S.n1) (S.kinds h.dc).2.2.2,h.ki,h.v,λx m=>⟨r _ _ (h.at_ x m).1 (λz=>by have e:=(h.at_ x m).1; rw [z,g] at e; cases e) (h.at_ x m).2.2.1,(h.at_ x m).2⟩,h.inj⟩
theorem bM.seqs {dh ls:Addr} {aq:List Addr} {seq':List Int} {wd:Int->List Int} (h:bM H dh ls aq O seq wd kvs wl) (hs:∀ b,b∈seq'↔b∈seq):bM H dh ls aq O seq' wd kvs wl :=
 ⟨h.dc,h.ki,λb=>by rw [h.v b]; exact ite_congr (propext (hs b).symm) (λ_=>rfl) λ_=>rfl,λb m=>h.at_ b ((hs b).mp m),λb m c m'=>h.inj b ((hs b).mp m) c ((hs c).mp m')⟩
theorem ay.iy {seq':List Int} {us':Int->Int} {n:Nat} (S:ay K H a c s O) (R:aD K H' a.rp c.sh c.pl c.ru a.ls a.aq a.du seq' us' n) (r:SR a.aq a.du H H') (hs:∀ b,b∈seq'↔b∈s.seq):ay K H' a c ⟨seq',us',s.wd,s.fr⟩ O:=by
 obtain ⟨kvs,wl,h2⟩:=S.held
 obtain ⟨kf,h3,h4⟩:=S.fresh
 exact ⟨S.bf.iy R r,⟨kvs,wl,(S.bf.GA h2 r).seqs hs⟩,⟨kf,r _ _ h3 S.bf.n3 (S.bf.kinds h3).2.2.2,h4⟩,λb h=>(hs b).mpr (S.uE b h)⟩
theorem gr.sj (S:gr K H a c seq us O) {x:Addr} (hx:x=a.dh\/x=a.df) (kvs:List (Key×V)):bI O H (upd H x (.dK kvs)) O:=by
 refine ⟨λy o e n=>?_,λ_ h=>.inl h⟩
 rw [Zc (λz=>?_)]
 .exact e
 obtain ⟨kx,ex⟩:∃ kx,H x=some (.dK kx):=hx.elim (λz=>z ▸ S.d1) λz=>z ▸ S.d2
 rw [z,ex] at e
 cases e
 exact n (S.own y (by rw [z]; rcases hx with h | h <;> simp [h])) trivial
theorem bM.put {dh ls:Addr} {aq:List Addr} {seq':List Int} {wd:Int->List Int} (h:bM H dh ls aq O seq wd kvs wl) {b:Int} {l:Addr} (ws:List Int) (hl:H l=none) (ex:∀ x,O x->H x≠none) (na:∀ x∈aq,H x≠none) (nl:H ls≠none) (hs:∀ x,x∈seq'↔x=b\/x∈seq) :
  bM (upd (upd H l (.lst (ws.map V.int))) dh (.dK (putK kvs (Sum.inl b) (.ref l)))) dh ls aq (λx=>O x\/x=l) seq' (λx=>if x=b then ws else wd x) (putK kvs (Sum.inl b) (.ref l)) (λx=>if x=b then l else wl x):=by
 have nd:l≠dh:=λz=>by rw [z,h.dc] at hl; cases hl
 have nw:∀ x∈seq,wl x≠l:=λx m z=>by have q:=(h.at_ x m).1; rw [z,hl] at q; cases q
 have md:∀ x,x∈seq'->x≠b->x∈seq:=λx m n=>((hs x).mp m).resolve_left n
 refine ⟨Za,h.ki.put b _,λx=>?_,λx m=>?_,λx m y m' e=>?_⟩
 .rw [yv]
  by_cases z:x=b
  .rw [ajr (by rw [z]),ajr ((hs x).mpr (.inl z)),ajr z]
  .rw [aBJ (λq=>z (aXH q)),h.v x,aBJ z]
   exact ite_congr (propext ⟨λm=>(hs x).mpr (.inr m),λm=>md x m z⟩) (λ_=>rfl) λ_=>rfl
 .by_cases z:x=b
  .rw [ajr z,ajr z,Zc nd,Za]
   exact ⟨rfl,.inr rfl,λm=>na l m hl,λq=>nl (q ▸ hl)⟩
  .rw [aBJ z,aBJ z]
   obtain ⟨e1,e2,e3,e4⟩:=h.at_ x (md x m z)
   exact ⟨by rw [Zc (λq=>by rw [q,h.dc] at e1; cases e1),Zc (nw x (md x m z))]; exact e1,.inl e2,e3,e4⟩
 .by_cases z:x=b
  .by_cases z':y=b
   .rw [z,z']
   .rw [ajr z,aBJ z'] at e
    exact absurd e.symm (nw y (md y m' z'))
  .by_cases z':y=b
   .rw [aBJ z,ajr z'] at e
    exact absurd e (nw x (md x m z))
   .rw [aBJ z,aBJ z'] at e
    exact h.inj x (md x m z) y (md y m' z') e
theorem ay.jN (S:ay K H a c s O) (h:bM H a.dh a.ls a.aq O s.seq s.wd kvs wl):kvs.length=s.seq.length:=by
 refine Nv h.ki S.bf.room.nd λb=>?_
 rw [h.v b]
 by_cases m:b∈s.seq
 .simp [m]
 .simp [m]
theorem ay.T9 {kf:List (Key×V)} (S:ay K H a c s O) (h:KI kf) (v:∀ b,aM kf (Sum.inl b:Key)=if s.fr b=true then some (.bl true) else none):kf.length<=s.seq.length:=by
 obtain ⟨ks,e,nd⟩:=h
 have l:=aOy List.length e
 rw [afy,afy] at l
 rw [l]
 refine AO nd λb m=>S.uE b ?_
 have q:=uV (kvs:=kf) (Sum.inl b)
 rw [v b,e] at q
 have:=q.mpr (ali m)
 by_cases z:s.fr b=true
 .exact z
 .rw [aBJ z] at this; cases this
end
section
variable {K:W.Frag} {H H':Hp} {a:SA} {c:Cf} {s:Rm} {O O':Addr->Prop} {kvs:List (Key×V)} {wl:Int->Addr} {seq:List Int} {us:Int->Int}
theorem gr.laid {wd:Int->List Int} {y9 seq':List Int} {b:Int} {l:Addr} (S:gr K H a c seq us O) (h:bM H a.dh a.ls a.aq O y9 wd kvs wl) (ws:List Int) (hl:H l=none) (hs:∀ x,x∈seq'↔x=b\/x∈y9) :
  (gr K (upd (upd H l (.lst (ws.map V.int))) a.dh (.dK (putK kvs (Sum.inl b) (.ref l)))) a c seq us (λx=>O x\/x=l)/\bM (upd (upd H l (.lst (ws.map V.int))) a.dh (.dK (putK kvs (Sum.inl b) (.ref l)))) a.dh a.ls a.aq (λx=>O x\/x=l) seq' (λx=>if x=b then ws else wd x) (putK kvs (Sum.inl b) (.ref l)) (λx=>if x=b then l else wl x)) /\
   bI O H (upd (upd H l (.lst (ws.map V.int))) a.dh (.dK (putK kvs (Sum.inl b) (.ref l)))) (λx=>O x\/x=l):=by
 have sm:=Zg hl (.lst (ws.map V.int))
 have S1:=S.same sm
 refine ⟨⟨((S1.put (x:=a.dh) (.inl rfl) _).mono (λx m=>.inl (S.own x m)) λx m=>Hs ?_),h.put ws hl S.ex (λx m=>S.ex x (S.own x (by simp [m]))) (S.ex _ (S.own _ (by simp))) hs⟩,?_⟩
 .rcases m with m | m
  .exact S1.ex x m
  .rw [m,Za]; simp
 .have p:=(bI.same sm).trans (S1.sj (x:=a.dh) (.inl rfl) (putK kvs (Sum.inl b) (.ref l)))
  exact ⟨p.kp,λx m=>m.elim .inl λz=>.inr (by rw [z]; exact hl)⟩
theorem bM.pop {wd:Int->List Int} {b:Int} (h:bM H a.dh a.ls a.aq O seq wd kvs wl) (nn:seq.Nodup) (hb:b∈seq) (S:gr K H a c (seq.erase b) us O):bM (upd H a.dh (.dK (aU kvs (Sum.inl b)))) a.dh a.ls a.aq (λx=>O x/\x≠wl b) (seq.erase b) wd (aU kvs (Sum.inl b)) wl:=by
 have mm:∀ {x},x∈seq.erase b->x≠b/\x∈seq:=λ{x} m=>(a9K nn).mp m
 refine ⟨Za,h.ki.drop b,λx=>?_,λx m=>?_,λx m y m'=>h.inj x (mm m).2 y (mm m').2⟩
 .rw [DR]
  by_cases z:x=b
  .rw [ajr (by rw [z]),aBJ (λm=>(mm m).1 z)]
  .rw [aBJ (λq=>z (aXH q)),h.v x]
   exact ite_congr (propext ⟨λm=>(a9K nn).mpr ⟨z,m⟩,λm=>(mm m).2⟩) (λ_=>rfl) λ_=>rfl
 .obtain ⟨e1,e2,e3,e4⟩:=h.at_ x (mm m).2
  exact ⟨by rw [Zc (λz=>by rw [z,h.dc] at e1; cases e1)]; exact e1,⟨e2,λz=>(mm m).1 (h.inj x (mm m).2 b hb z)⟩,e3,e4⟩
end
section
def lT:Rm:=⟨[],λ_=>0,λ_=>[],λ_=>false⟩
def NV (K:W.Frag):Sp:=λvs H Q _=>∃ (p dx tp:Addr) (sh pl:Int) (ru wr:Str),vs=[.ref p,.ref tp]/\H p=some (.ins (aa K "Store") dx [])/\bB K H tp [.int sh,.int pl,.str ru,.str wr]/\1<=sh/\sh<=64 /\
 ∀ (a:SA) (H':Hp),a.sp=p->ay K H' a ⟨sh,pl,ru,decide (wr = "late")⟩ lT (λx=>x=p\/(H x=none/\H' x≠none))->(∀ b o,H b=some o->b≠p->H' b=some o)->Q .aR H'
theorem Y0 (F:aZ K "__init__" "Store.__init__" JD f fd) (T:Txt K mg) (Gi:oQ P w K mg base (aa K "Room") "Room" 1 JW (MU K)):au P w K mg base aW 3 f fd JC (NV K):=by
 refine F.ok fZ (λvs H Q E h=>?_) (λcdv A outer st H vs Q E hr h=>?_)
 .obtain ⟨p,dx,tp,sh,pl,ru,wr,rfl,_⟩:=h
  rfl
 obtain ⟨p,dx,tp,sh,pl,ru,wr,rfl,hp,htp,s0,s1,k⟩:=h
 have nd:=fZ.nd
 refine ⟨_,(Zd (lR (pv 1) (ZV (K:=K) (n:=4) rfl rfl (Zr (bQ 2 nd) (Zr (bQ 3 nd) (Zr (bQ 4 nd) (Zr (bQ 5 nd) ZT))))))
   (Zd (kN (pv 0) (Bb Gi hr.m rfl (pc (pv 2) (pc (pv 3) (pc (pv 4) Zb)))) rfl)
   (Zd (kN (pv 0) (qO aY (pv 5) j5 (Zw _)) rfl)
   (Zd (kN (pv 0) Be rfl)
   (Zh (kN (pv 0) Be rfl)))))),?_⟩
 refine ⟨_,rfl,tp,_,rfl,htp,rfl,_,_,rfl,gN ⟨_,_,rfl,gN ⟨_,_,rfl,gN ⟨_,_,rfl,gN ⟨rfl,?_⟩⟩⟩⟩⟩
 try dsimp only
 refine ⟨_,rfl,_,rfl,_,rfl,λrp rx Ai LW nrx=>⟨rp,rx,sh,pl,ru,rfl,Za,s0,s1,λls aq du H1 R1 f1 f2 f3 k1=>⟨rfl,?_⟩⟩⟩
 have Sq:p≠rp:=Ze hp Ai
 have LL:∀ x o,H x=some o->H1 x=some o:=λx o e=>k1 x o (by rw [Zc (Ze e Ai),Zc (Ze e LW)]; exact e) (Ze e Ai)
 have fr:∀ x,upd (upd H rx (.own rp)) rp (.ins (aa K "Room") rx []) x=none->H x=none:=λx e=>by
  cases q:H x with
  | none=>rfl
  | some o=>rw [Zc (Ze q Ai),Zc (Ze q LW),q] at e; cases e
 have f1:=fr _ f1
 have f2:=fr _ f2
 have f3:∀ ad∈aq,H ad=none:=λad m=>fr _ (f3 ad m)
 have h1:=LL _ _ hp
 refine ⟨_,rfl,p,_,dx,_,rfl,h1,T.gk,T.uc,(by show 0<1000; decide),?_⟩
 obtain ⟨o1,o2,o3,o4,o5,o6⟩:=R1.off
 have q1:p≠ls:=λz=>by rw [z,R1.st.top] at h1; cases h1
 have q2:p≠du:=λz=>by obtain ⟨kv,g,_⟩:=R1.dc; rw [z,g] at h1; cases h1
 have q3:p∉aq:=λz=>by obtain ⟨xs,g⟩:=R1.st.one z; rw [g] at h1; cases h1
 have put:∀ {G:Hp} {o:HO},aD K G rp sh pl ru ls aq du [] (λ_=>0) 0->aD K (upd G p o) rp sh pl ru ls aq du [] (λ_=>0) 0:=λ{G o} R=>by
  obtain ⟨wg,e1⟩:=R.ob
  obtain ⟨kv,e2,e3⟩:=R.dc
  exact ⟨⟨wg,by rw [Zc (aFS Sq)]; exact e1⟩,R.st.other o q1 q3,⟨kv,by rw [Zc (aFS q2)]; exact e2,e3⟩,R.nd,R.s0,R.s1⟩
 have R2:=put (o:=.ins (aa K "Store") dx (ai "room" (.ref rp) [])) R1
 have e2:upd H1 p (.ins (aa K "Store") dx (ai "room" (.ref rp) [])) p=some (.ins (aa K "Store") dx (ai "room" (.ref rp) [])):=Za
 have k2:∀ x o,H x=some o->x≠p->upd H1 p (.ins (aa K "Store") dx (ai "room" (.ref rp) [])) x=some o:=λx o e n=>by rw [Zc n]; exact LL x o e
 generalize upd H1 p (.ins (aa K "Store") dx (ai "room" (.ref rp) []))=H2 at *
 refine ⟨_,rfl,rfl,_,rfl,p,_,dx,_,rfl,e2,T.gk,T.ER,(by show 1<1000; decide),?_⟩
 have el:decide (V.str wr=V.str "late")=decide (wr = "late"):=decide_eq_decide.mpr ⟨λe=>by injection e,λe=>by rw [e]⟩
 rw [el]
 have R3:=put (o:=.ins (aa K "Store") dx (ai "late" (.bl (decide (wr = "late"))) (ai "room" (.ref rp) []))) R2
 have e3:upd H2 p (.ins (aa K "Store") dx (ai "late" (.bl (decide (wr = "late"))) (ai "room" (.ref rp) []))) p=some (.ins (aa K "Store") dx (ai "late" (.bl (decide (wr = "late"))) (ai "room" (.ref rp) []))):=Za
 have k3:∀ x o,H x=some o->x≠p->upd H2 p (.ins (aa K "Store") dx (ai "late" (.bl (decide (wr = "late"))) (ai "room" (.ref rp) []))) x=some o:=λx o e n=>by rw [Zc n]; exact k2 x o e n
 generalize upd H2 p (.ins (aa K "Store") dx (ai "late" (.bl (decide (wr = "late"))) (ai "room" (.ref rp) [])))=H3 at *
 refine λdh xW=>?_
 have nh:p≠dh:=Ze e3 xW
 refine ⟨_,rfl,p,_,dx,_,rfl,(by rw [Zc nh]; exact e3),T.gk,T.yG,(by show 2<1000; decide),?_⟩
 have R4:=put (o:=.ins (aa K "Store") dx (ai "held" (.ref dh) (ai "late" (.bl (decide (wr = "late"))) (ai "room" (.ref rp) [])))) (R3.same (Zg xW (.dK [])))
 have e4:upd (upd H3 dh (.dK [])) p (.ins (aa K "Store") dx (ai "held" (.ref dh) (ai "late" (.bl (decide (wr = "late"))) (ai "room" (.ref rp) [])))) p=some (.ins (aa K "Store") dx (ai "held" (.ref dh) (ai "late" (.bl (decide (wr = "late"))) (ai "room" (.ref rp) [])))):=Za
 have d4:upd (upd H3 dh (.dK [])) p (.ins (aa K "Store") dx (ai "held" (.ref dh) (ai "late" (.bl (decide (wr = "late"))) (ai "room" (.ref rp) [])))) dh=some (.dK []):=by rw [Zc (aFS nh)]; exact Za
 have Mv:H dh=none:=by
  cases q:H dh with
  | none=>rfl
  | some o=>rw [k3 dh o q (aFS nh)] at xW; cases xW
 have k4:∀ x o,H x=some o->x≠p->upd (upd H3 dh (.dK [])) p (.ins (aa K "Store") dx (ai "held" (.ref dh) (ai "late" (.bl (decide (wr = "late"))) (ai "room" (.ref rp) [])))) x=some o:=λx o e n=>by rw [Zc n,Zc (λz:x=dh=>by rw [z,Mv] at e; cases e)]; exact k3 x o e n
 generalize upd (upd H3 dh (.dK [])) p (.ins (aa K "Store") dx (ai "held" (.ref dh) (ai "late" (.bl (decide (wr = "late"))) (ai "room" (.ref rp) []))))=H4 at *
 refine λdf hdf=>?_
 have nf:p≠df:=Ze e4 hdf
 refine ⟨_,rfl,p,_,dx,_,rfl,(by rw [Zc nf]; exact e4),T.gk,T.Ey,(by show 3<1000; decide),?_⟩
 have Mw:H df=none:=by
  cases q:H df with
  | none=>rfl
  | some o=>rw [k4 df o q (aFS nf)] at hdf; cases hdf
 have Ly:dh≠df:=λz=>by rw [← z,d4] at hdf; cases hdf
 obtain ⟨kv,g,_⟩:=R3.dc
 obtain ⟨kv4,g4,_⟩:=R4.dc
 have R5:=put (o:=.ins (aa K "Store") dx (bF rp (decide (wr = "late")) dh df)) (R4.same (Zg hdf (.dK [])))
 have e5:upd (upd H4 df (.dK [])) p (.ins (aa K "Store") dx (bF rp (decide (wr = "late")) dh df)) p=some (.ins (aa K "Store") dx (bF rp (decide (wr = "late")) dh df)):=Za
 have d5:upd (upd H4 df (.dK [])) p (.ins (aa K "Store") dx (bF rp (decide (wr = "late")) dh df)) dh=some (.dK []):=by rw [Zc (aFS nh),Zc Ly]; exact d4
 have f5:upd (upd H4 df (.dK [])) p (.ins (aa K "Store") dx (bF rp (decide (wr = "late")) dh df)) df=some (.dK []):=by rw [Zc (aFS nf)]; exact Za
 have k5:∀ x o,H x=some o->x≠p->upd (upd H4 df (.dK [])) p (.ins (aa K "Store") dx (bF rp (decide (wr = "late")) dh df)) x=some o:=λx o e n=>by rw [Zc n,Zc (λz:x=df=>by rw [z,Mw] at e; cases e)]; exact k4 x o e n
 change Q .aR (upd (upd H4 df (.dK [])) p (.ins (aa K "Store") dx (bF rp (decide (wr = "late")) dh df)))
 generalize upd (upd H4 df (.dK [])) p (.ins (aa K "Store") dx (bF rp (decide (wr = "late")) dh df))=H5 at *
 refine k ⟨p,rp,ls,aq,du,dh,df⟩ _ rfl ⟨⟨⟨dx,e5⟩,R5,⟨_,d5⟩,⟨_,f5⟩,λz=>?_,aFS Ly,λz=>?_,λx hx=>?_,λx hx=>?_⟩,⟨[],λ_=>p,d5,KI.nil,λ_=>rfl,(λb m=>absurd m (by simp [lT])),λb m=>absurd m (by simp [lT])⟩,⟨[],f5,KI.nil,λ_=>rfl⟩,λb h=>by cases h⟩ k5
 .have z:du=dh:=z
  rw [← z,g] at xW; cases xW
 .have z:df=du:=z
  rw [z,g4] at hdf; cases hdf
 .obtain ⟨dr5,r5⟩:=R5.ob
  obtain ⟨ku5,u5,_⟩:=R5.dc
  rcases hx with rfl | rfl | rfl | hx | rfl | rfl | rfl
  .exact .inl rfl
  .exact .inr ⟨Ai,by rw [r5]; simp⟩
  .exact .inr ⟨f1,by rw [R5.st.top]; simp⟩
  .obtain ⟨xs,q⟩:=R5.st.one hx
   exact .inr ⟨f3 x hx,by rw [q]; simp⟩
  .exact .inr ⟨f2,by rw [u5]; simp⟩
  .exact .inr ⟨Mv,by rw [d5]; simp⟩
  .exact .inr ⟨Mw,by rw [f5]; simp⟩
 .rcases hx with rfl | hx
  .rw [e5]; simp
  .exact hx.2
end
section
def Dl (K:W.Frag):Sp:=λvs H Q _=>∃ (a:SA) (c:Cf) (s:Rm) (O:Addr->Prop) (b:Int),vs=[.ref a.sp,.int b]/\ay K H a c s O/\Q (.bl (decide (b∈s.seq))) H
theorem YE (F:aZ K "has" "Store.has" JT f fd) (T:Txt K mg) (sf:av P w K mg base (aa K "Room") "has" 1 Bt (nB K)):au P w K mg base aW 2 f fd Bl (Dl K):=by
 refine F.ok gO (λvs H Q E h=>?_) (λcdv A outer st H vs Q E hr h=>?_)
 .obtain ⟨a,c,s,O,b,rfl,_⟩:=h
  rfl
 obtain ⟨a,c,s,O,b,rfl,S,k⟩:=h
 have nd:=gO.nd
 refine ⟨_,(Zh (Zt (Zk sf hr.m T.fS (Zl (K:=K) rfl (pv 0) rfl) (pc (pv 1) Zb)))),?_⟩
 obtain ⟨dx,h1⟩:=S.bf.ob
 obtain ⟨dr,h2⟩:=S.bf.room.ob
 exact ⟨_,rfl,a.sp,_,dx,_,_,rfl,h1,T.gk,T.uc,wJ ..,a.rp,dr,_,rfl,h2,bO ..,_,rfl,a.rp,b,c.sh,c.pl,c.ru,a.ls,a.aq,a.du,s.seq,s.us,_,rfl,S.bf.room,k⟩
def pK (K:W.Frag):Sp:=λvs H Q _=>∃ (p dx rp dh df:Addr) (late:Bool) (kvs:List (Key×V)) (b:Int) (lw:Addr) (zs:List V),vs=[.ref p,.int b,.ref lw]/\H p=some (.ins (aa K "Store") dx (bF rp late dh df))/\H dh=some (.dK kvs)/\kvs.length<=900/\H lw=some (.lst zs) /\
 ∀ l,H l=none->Q .aR (upd (upd H l (.lst zs)) dh (.dK (putK kvs (Sum.inl b) (.ref l))))
theorem YD (F:aZ K "lay" "Store.lay" JS f fd) (T:Txt K mg):au P w K mg base aW 1 f fd D7 (pK K):=by
 refine F.ok gM (λvs H Q E h=>?_) (λcdv A outer st H vs Q E hr h=>?_)
 .obtain ⟨p,dx,rp,dh,df,late,kvs,b,lw,zs,rfl,_⟩:=h
  rfl
 obtain ⟨p,dx,rp,dh,df,late,kvs,b,lw,zs,rfl,hp,hd,hl,hw,k⟩:=h
 have nd:=gM.nd
 have hu:=b9 hr
 refine ⟨_,(Zh (A5 hu (Zl (K:=K) rfl (pv 0) rfl) (pv 1) (uX (Ei (K:=K) rfl) rfl T.pG ZY (pc (pv 2) Zb)) rfl)),?_⟩
 refine ⟨_,rfl,lw,_,rfl,.inl (aF.of hw),λl hl'=>?_⟩
 have s1:=Zg hl' (.lst zs)
 exact ⟨_,rfl,p,_,dx,_,_,rfl,s1 _ _ hp,T.gk,T.yG,DG ..,_,rfl,dh,_,rfl,jB.k (k:=Sum.inl b) (s1 _ _ hd) (ZG (by lia)),k l hl'⟩
def xS (s:Rm) (b:Int) (ws:List Int):Rm:=⟨s.seq++[b],zero s.us b,λx=>if x=b then ws else s.wd x,s.fr⟩
def jI (s:Rm) (b:Int):Rm:=⟨s.seq.erase b,s.us,s.wd,λx=>if x=b then false else s.fr x⟩
def fW (s:Rm) (b:Int) (ws:List Int):Rm:=⟨s.seq,s.us,λx=>if x=b then ws else s.wd x,s.fr⟩
def xX (s:Rm) (b:Int):Rm:=⟨s.seq,s.us,s.wd,λx=>if x=b then true else s.fr x⟩
def Ol (K:W.Frag):Sp:=λvs H Q _=>∃ (a:SA) (c:Cf) (s:Rm) (O:Addr->Prop) (b:Int) (lw:Addr) (ws:List Int),vs=[.ref a.sp,.int b,.ref lw]/\ay K H a c s O/\Tb K H/\H lw=some (.lst (ws.map V.int))/\¬ O lw/\b∉s.seq/\s.seq.length<=800/\1<=c.pl/\c.pl<=16/\((Zn c.sh (b % c.sh) s.seq).length:Int)<c.pl /\
 ∀ H' O',ay K H' a c (xS s b ws) O'->bI O H H' O'->Q .aR H'
theorem Zem (F:aZ K "take_in" "Store.take_in" J6 f fd) (T:Txt K mg) (EN:av P w K mg base (aa K "Room") "bring" 4 JF (Nx K)) (xh:av P w K mg base (aa K "Store") "lay" 1 D7 (pK K)):au P w K mg base aW 5 f fd J5 (Ol K):=by
 refine F.ok cY (λvs H Q E h=>?_) (λcdv A outer st H vs Q E hr h=>?_)
 .obtain ⟨a,c,s,O,b,lw,ws,rfl,_⟩:=h
  rfl
 obtain ⟨a,c,s,O,b,lw,ws,rfl,S,tb,jD,hO,hb,hsl,hpl,Tp,hsh,k⟩:=h
 have nd:=cY.nd
 refine ⟨_,(Zd (Zo (Zk EN hr.m T.fS (Zl (K:=K) rfl (pv 0) rfl) (pc (pv 1) Zb)))
   (Zh (Zo (Zk xh hr.m T.gk (pv 0) (pc (pv 1) (pc (pv 2) Zb)))))),?_⟩
 obtain ⟨dx,h1⟩:=S.bf.ob
 obtain ⟨dr,h2⟩:=S.bf.room.ob
 refine ⟨_,rfl,a.sp,_,dx,_,_,rfl,h1,T.gk,T.uc,wJ ..,a.rp,dr,_,rfl,h2,bO ..,_,rfl,a.rp,b,c.sh,c.pl,c.ru,a.ls,a.aq,a.du,s.seq,s.us,_,rfl,S.bf.room,tb,by lia,hb,hpl,by lia,λgone G gp R1 r1=>?_⟩
 obtain rfl:gone=none:=gp.1 hsh
 obtain ⟨kvs,wl,h3⟩:=S.held
 obtain ⟨kf,h4,h5⟩:=S.fresh
 have kl:=S.jN h3
 have p1:=S.bf.cF r1
 have h3:=S.bf.GA h3 r1
 have h4:=r1 _ _ h4 S.bf.n3 (S.bf.kinds h4).2.2.2
 have S1:=S.bf.iy R1 r1
 obtain ⟨dx,h1⟩:=S1.ob
 refine ⟨_,rfl,a.sp,dx,_,rfl,h1,cX ..,_,rfl,_,rfl,a.sp,dx,a.rp,a.dh,a.df,c.late,kvs,b,lw,_,rfl,h1,h3.dc,by lia,p1.kp _ _ jD (λh=>absurd h hO),λl hl=>?_⟩
 obtain ⟨S2,p2⟩:=S1.laid h3 ws hl (seq':=s.seq++[b]) (b:=b) (λx=>by rw [mem_append,mem_singleton]; exact Or.comm)
 exact k _ _ ⟨S2.1,⟨_,_,S2.2⟩,⟨kf,by rw [Zc S.bf.n2]; exact Zg hl _ _ _ h4,h5⟩,λx h=>a4h _ (S.uE x h)⟩ (p1.trans p2)
def Pg (K:W.Frag):Sp:=λvs H Q _=>∃ (a:SA) (c:Cf) (s:Rm) (O:Addr->Prop) (b:Int),vs=[.ref a.sp,.int b]/\ay K H a c s O/\b∈s.seq /\
 ∀ (t l:Addr) (H':Hp) (O':Addr->Prop),H' t=some (.tup [.ref l,.bl (s.fr b)])->H' l=some (.lst ((s.wd b).map V.int))->¬ O' l->ay K H' a c (jI s b) O'->bI O H H' O'->(O l\/H l=none)->Q (.ref t) H'
theorem ZdQ (F:aZ K "give_out" "Store.give_out" KN f fd) (T:Txt K mg) (xj:av P w K mg base (aa K "Room") "drop" 3 Ej (Ht K)):au P w K mg base aW 4 f fd KL (Pg K):=by
 refine F.ok cJ (λvs H Q E h=>?_) (λcdv A outer st H vs Q E hr h=>?_)
 .obtain ⟨a,c,s,O,b,rfl,_⟩:=h
  rfl
 obtain ⟨a,c,s,O,b,rfl,S,hb,k⟩:=h
 have nd:=cJ.nd
 refine ⟨_,(Zd (Zo (Zk xj hr.m T.fS (Zl (K:=K) rfl (pv 0) rfl) (pc (pv 1) Zb)))
   (Zh (Zt (j4 (pc (OU (Zl (K:=K) rfl (pv 0) rfl) (pv 1) ⟨rfl,rfl,rfl,rfl⟩) (pc (OT (Zl (K:=K) rfl (pv 0) rfl) (pv 1) eN ⟨rfl,rfl,rfl,rfl⟩) Zb)))))),?_⟩
 obtain ⟨dx,h1⟩:=S.bf.ob
 obtain ⟨dr,h2⟩:=S.bf.room.ob
 refine ⟨_,rfl,a.sp,_,dx,_,_,rfl,h1,T.gk,T.uc,wJ ..,a.rp,dr,_,rfl,h2,bO ..,_,rfl,a.rp,b,c.sh,c.pl,c.ru,a.ls,a.aq,a.du,s.seq,s.us,_,rfl,S.bf.room,hb,λG R1 r1=>?_⟩
 obtain ⟨kvs,wl,h3⟩:=S.held
 obtain ⟨kf,h4,h5,h6⟩:=S.fresh
 have p1:=S.bf.cF r1
 have h3:=S.bf.GA h3 r1
 have h4:=r1 _ _ h4 S.bf.n3 (S.bf.kinds h4).2.2.2
 have S1:=S.bf.iy R1 r1
 obtain ⟨dx,h1⟩:=S1.ob
 have vb:=h3.v b
 rw [ajr hb] at vb
 obtain ⟨w1,w2,w3,w4⟩:=h3.at_ b hb
 refine ⟨_,rfl,a.sp,_,dx,_,_,rfl,h1,T.gk,T.yG,DG ..,a.dh,rfl,.inl ⟨_,.inl h3.dc⟩,_,rfl,kvs,Sum.inl b,_,h3.dc,rfl,vb,?_⟩
 have nn:s.seq.Nodup:=S.bf.room.nd
 have H3:=h3.pop nn hb S1
 have S2:=S1.put (x:=a.dh) (.inl rfl) (aU kvs (Sum.inl b))
 have p2:=p1.trans (S1.sj (x:=a.dh) (.inl rfl) (aU kvs (Sum.inl b)))
 have h4:upd G a.dh (.dK (aU kvs (Sum.inl b))) a.df=some (.dK kf):=by rw [Zc S.bf.n2]; exact h4
 have w1:upd G a.dh (.dK (aU kvs (Sum.inl b))) (wl b)=some (.lst ((s.wd b).map V.int)):=by rw [Zc (λz=>by rw [z,h3.dc] at w1; cases w1)]; exact w1
 generalize upd G a.dh (.dK (aU kvs (Sum.inl b)))=G2 at *
 obtain ⟨dx,h1⟩:=S2.ob
 have fin:∀ (G3:Hp) (zU:List (Key×V)),gr K G3 a c (s.seq.erase b) s.us O->bI O H G3 O->bM G3 a.dh a.ls a.aq (λx=>O x/\x≠wl b) (s.seq.erase b) s.wd (aU kvs (Sum.inl b)) wl->G3 a.df=some (.dK zU)->KI zU->(∀ x,aM zU (Sum.inl x:Key)=if (jI s b).fr x=true then some (.bl true) else none)->G3 (wl b)=some (.lst ((s.wd b).map V.int)) ->
   2<=sizeLine/\∀ t,G3 t=none->Q (.ref t) (upd G3 t (.tup [.ref (wl b),.bl (s.fr b)])):=λG3 zU S3 p3 h3' e1 e2 e3 e4=>by
  refine ⟨by decide,λt ht=>?_⟩
  have sm:=Zg ht (.tup [.ref (wl b),.bl (s.fr b)])
  have core:∀ x,x=a.sp\/x=a.rp\/x=a.ls\/x∈a.aq\/x=a.du\/x=a.dh\/x=a.df->O x/\x≠wl b:=λx m=>⟨S3.own x m,λz=>by
   subst z
   rcases m with m | m | m | m | m | m | m
   .obtain ⟨d,q⟩:=S3.ob; rw [← m,e4] at q; cases q
   .obtain ⟨d,q⟩:=S3.room.ob; rw [← m,e4] at q; cases q
   .exact w4 m
   .exact w3 m
   .obtain ⟨d,q,_⟩:=S3.room.dc; rw [← m,e4] at q; cases q
   .obtain ⟨d,q⟩:=S3.d1; rw [← m,e4] at q; cases q
   .rw [← m,e4] at e1; cases e1⟩
  have S4:=(S3.mono core λx h=>S3.ex x h.1).same sm
  refine k t (wl b) _ (λx=>O x/\x≠wl b) Za (sm _ _ e4) (λh=>h.2 rfl) ⟨S4,⟨_,_,h3'.frame (core _ (by simp)) λx o _ e=>sm x o e⟩,⟨zU,sm _ _ e1,e2,e3⟩,λx h=>?_⟩ ⟨λx o e n=>sm _ _ (p3.kp x o e n),λx h=>.inl h.1⟩ (.inl w2)
  have h:(if x=b then false else s.fr x)=true:=h
  by_cases z:x=b
  .rw [ajr z] at h; cases h
  .rw [aBJ z] at h
   exact (a9K nn).mpr ⟨z,S.uE x h⟩
 refine ⟨_,rfl,a.sp,_,dx,_,_,rfl,h1,T.gk,T.Ey,Om ..,a.df,rfl,.inl ⟨_,.inl h4⟩,_,rfl,kf,Sum.inl b,h4,rfl,λv hv=>?_,λhv=>?_⟩
 .have hf:s.fr b=true:=by
   by_cases z:s.fr b=true
   .exact z
   .rw [h6 b,aBJ z] at hv; cases hv
  rw [h6 b,ajr hf] at hv
  cases hv
  have S3:=S2.put (x:=a.df) (.inr rfl) (aU kf (Sum.inl b))
  have fin:=fin _ (aU kf (Sum.inl b)) S3 (p2.trans (S2.sj (x:=a.df) (.inr rfl) _)) ⟨by rw [Zc (aFS S.bf.n2)]; exact H3.dc,H3.ki,H3.v,λx m=>⟨by rw [Zc (λz=>by have q:=(H3.at_ x m).1; rw [z,h4] at q; cases q)]; exact (H3.at_ x m).1,(H3.at_ x m).2⟩,H3.inj⟩ Za (h5.drop b) (λx=>?_) (by rw [Zc (λz=>by rw [z,h4] at w1; cases w1)]; exact w1)
  .rw [hf] at fin
   exact fin
  .rw [DR]
   by_cases z:x=b
   .rw [ajr (by rw [z])]
    unfold jI
    simp [z]
   .rw [aBJ (λq=>z (aXH q)),h6 x]
    unfold jI
    simp [z]
 .have hf:s.fr b=false:=by
   cases z:s.fr b with
   | false=>rfl
   | true=>rw [h6 b,ajr z] at hv; cases hv
  have fin:=fin _ kf S2 p2 H3 h4 h5 (λx=>?_) w1
  .rw [hf] at fin
   exact fin
  .rw [h6 x]
   unfold jI
   by_cases z:x=b
   .simp [z,hf]
   .simp [z]
end
section
def D3 (K:W.Frag):Sp:=λvs H Q _=>∃ (a:SA) (c:Cf) (s:Rm) (O:Addr->Prop) (b:Int),vs=[.ref a.sp,.int b]/\ay K H a c s O/\b∈s.seq/\∀ l,H l=none->Q (.ref l) (upd H l (.lst ((s.wd b).map V.int)))
theorem ZdR (F:aZ K "words_of" "Store.words_of" KJ f fd) (T:Txt K mg) (rX:av P w K mg base (aa K "Room") "need" 2 Bm (Dm K)):au P w K mg base aW 3 f fd ZM (D3 K):=by
 refine F.ok cH (λvs H Q E h=>?_) (λcdv A outer st H vs Q E hr h=>?_)
 .obtain ⟨a,c,s,O,b,rfl,_⟩:=h
  rfl
 obtain ⟨a,c,s,O,b,rfl,S,hb,k⟩:=h
 have nd:=cH.nd
 have hu:=b9 hr
 refine ⟨_,(Zd (Zo (Zk rX hr.m T.fS (Zl (K:=K) rfl (pv 0) rfl) (pc (pv 1) Zb)))
   (Zh (Zt (uX (Ei (K:=K) rfl) rfl T.pG ZY (pc (A6 hu (Zl (K:=K) rfl (pv 0) rfl) (pv 1) (λ_ _=>rfl)) Zb))))),?_⟩
 obtain ⟨dx,h1⟩:=S.bf.ob
 obtain ⟨dr,h2⟩:=S.bf.room.ob
 obtain ⟨kvs,wl,h3⟩:=S.held
 have vb:=h3.v b
 rw [ajr hb] at vb
 refine ⟨_,rfl,a.sp,_,dx,_,_,rfl,h1,T.gk,T.uc,wJ ..,a.rp,dr,_,rfl,h2,bO ..,_,rfl,a.rp,b,c.sh,c.pl,c.ru,a.ls,a.aq,a.du,s.seq,s.us,_,rfl,S.bf.room,hb,?_⟩
 exact ⟨_,rfl,a.sp,_,dx,_,_,rfl,h1,T.gk,T.yG,DG ..,_,rfl,a.dh,_,rfl,(by have q:=dS.k (k:=Sum.inl b) h3.dc; rw [vb] at q; exact q),wl b,_,rfl,.inl (aF.of (h3.at_ b hb).1),k⟩
theorem ay.lay {H:Hp} {a:SA} {c:Cf} {s:Rm} {O:Addr->Prop} (S:ay K H a c s O) {b:Int} (hb:b∈s.seq) (ws:List Int) {Q:Hp->Prop} (k:∀ H' O',ay K H' a c (fW s b ws) O'->bI O H H' O'->Q H') :
  ∃ dx kvs,H a.sp=some (.ins (aa K "Store") dx (bF a.rp c.late a.dh a.df))/\H a.dh=some (.dK kvs)/\kvs.length=s.seq.length/\∀ l,H l=none->Q (upd (upd H l (.lst (ws.map V.int))) a.dh (.dK (putK kvs (Sum.inl b) (.ref l)))):=by
 obtain ⟨dx,h1⟩:=S.bf.ob
 obtain ⟨kvs,wl,h3⟩:=S.held
 obtain ⟨kf,h4,h5⟩:=S.fresh
 refine ⟨dx,kvs,h1,h3.dc,S.jN h3,λl hl=>?_⟩
 obtain ⟨S2,p2⟩:=S.bf.laid h3 ws hl (seq':=s.seq) (b:=b) (λx=>⟨.inr,λm=>m.elim (λz=>z ▸ hb) id⟩)
 exact k _ _ ⟨S2.1,⟨_,_,S2.2⟩,⟨kf,by rw [Zc S.bf.n2]; exact Zg hl _ _ _ h4,h5⟩,S.uE⟩ p2
theorem gr.lst {H:Hp} {a:SA} {c:Cf} {seq:List Int} {us:Int->Int} {O:Addr->Prop} (S:gr K H a c seq us O) {l:Addr} {xs:List V} (hl:H l=some (.lst xs)) (n1:l≠a.ls) (n2:l∉a.aq) (u:List V):gr K (upd H l (.lst u)) a c seq us O:=by
 obtain ⟨dx,h1⟩:=S.ob
 obtain ⟨dr,h2⟩:=S.room.ob
 obtain ⟨kr,h3,_⟩:=S.room.dc
 obtain ⟨k1,h4⟩:=S.d1
 obtain ⟨k2,h5⟩:=S.d2
 have ne:∀ {y o},H y=some o->(∀ xs,o≠.lst xs)->upd H l (.lst u) y=some o:=λ{y o} e n=>by rw [Zc (λz=>by rw [z,hl] at e; exact n xs (aGB e).symm)]; exact e
 have R:aD K (upd H l (.lst u)) a.rp c.sh c.pl c.ru a.ls a.aq a.du seq us seq.length:=S.room.frame λy o m e=>by
  rw [Zc (λz:y=l=>by
   subst z
   rcases m with m | m | m | m
   .rw [m,h2] at hl; cases hl
   .exact n1 m
   .exact n2 m
   .rw [m,h3] at hl; cases hl)]
  exact e
 exact ⟨⟨dx,ne h1 (λ_ z=>by cases z)⟩,R,⟨k1,ne h4 (λ_ z=>by cases z)⟩,⟨k2,ne h5 (λ_ z=>by cases z)⟩,S.n1,S.n2,S.n3,S.own,λy h=>Hs (S.ex y h)⟩
def Pf (K:W.Frag):Sp:=λvs H Q _=>∃ (a:SA) (c:Cf) (s:Rm) (O:Addr->Prop) (b i x:Int),vs=[.ref a.sp,.int b,.int i,.int x]/\ay K H a c s O/\b∈s.seq/\0<=i/\i<(s.wd b).length/\∀ H',ay K H' a c (fW s b ((s.wd b).set i.toNat x)) O->bI O H H' O->Q .aR H'
theorem ZdS (F:aZ K "lay_word" "Store.lay_word" KH f fd) (T:Txt K mg):au P w K mg base aW 1 f fd KG (Pf K):=by
 refine F.ok cI (λvs H Q E h=>?_) (λcdv A outer st H vs Q E hr h=>?_)
 .obtain ⟨a,c,s,O,b,i,x,rfl,_⟩:=h
  rfl
 obtain ⟨a,c,s,O,b,i,x,rfl,S,hb,i0,i1,k⟩:=h
 have nd:=cI.nd
 have hu:=b9 hr
 refine ⟨_,(Zh (lR (pv 3) (wD (A6 hu (Zl (K:=K) rfl (pv 0) rfl) (pv 1) (λ_ _=>rfl)) (pv 2) wO))),?_⟩
 obtain ⟨dx,h1⟩:=S.bf.ob
 obtain ⟨kvs,wl,h3⟩:=S.held
 obtain ⟨kf,h4,h5⟩:=S.fresh
 have vb:=h3.v b
 rw [ajr hb] at vb
 obtain ⟨w1,w2,w3,w4⟩:=h3.at_ b hb
 refine ⟨_,rfl,_,rfl,a.sp,_,dx,_,_,rfl,h1,T.gk,T.yG,DG ..,_,rfl,a.dh,_,rfl,(by have q:=dS.k (k:=Sum.inl b) h3.dc; rw [vb] at q; exact q),_,rfl,wl b,_,i,i.toNat,rfl,rfl,w1,?_,?_⟩
 .unfold pq
  rw [ajr i0,ajr (by rw [afy]; exact i1)]
 .rw [← map_set]
  refine k _ ⟨S.bf.lst w1 w4 w3 _,⟨kvs,wl,by rw [Zc (λz=>by rw [← z,h3.dc] at w1; cases w1)]; exact h3.dc,h3.ki,h3.v,λy m=>?_,h3.inj⟩,⟨kf,by rw [Zc (λz=>by rw [← z,h4] at w1; cases w1)]; exact h4,h5⟩,S.uE⟩ ⟨λy o e n=>?_,λ_ h=>.inl h⟩
  .show _=some (HO.lst ((if y=b then (s.wd b).set i.toNat x else s.wd y).map V.int))/\_
   by_cases z:y=b
   .rw [ajr z,z,Za]
    exact ⟨rfl,w2,w3,w4⟩
   .obtain ⟨e1,e2⟩:=h3.at_ y m
    rw [aBJ z,Zc (λq=>z (h3.inj y m b hb q))]
    exact ⟨e1,e2⟩
  .rw [Zc (λz=>?_)]
   .exact e
   .rw [z,w1] at e
    cases e
    exact n (z ▸ w2) trivial
def I0 (K:W.Frag):Sp:=λvs H Q _=>∃ (a:SA) (c:Cf) (s:Rm) (O:Addr->Prop) (b:Int),vs=[.ref a.sp,.int b]/\ay K H a c s O/\b∈s.seq/\s.seq.length<=800/\∀ H',ay K H' a c (xX s b) O->bI O H H' O->Q .aR H'
theorem Zen (F:aZ K "freshen" "Store.freshen" J4 f fd) (T:Txt K mg):au P w K mg base aW 1 f fd En (I0 K):=by
 refine F.ok cZ (λvs H Q E h=>?_) (λcdv A outer st H vs Q E hr h=>?_)
 .obtain ⟨a,c,s,O,b,rfl,_⟩:=h
  rfl
 obtain ⟨a,c,s,O,b,rfl,S,hb,hl,k⟩:=h
 have nd:=cZ.nd
 have hu:=b9 hr
 refine ⟨_,(Zh (A5 hu (Zl (K:=K) rfl (pv 0) rfl) (pv 1) eN rfl)),?_⟩
 obtain ⟨dx,h1⟩:=S.bf.ob
 obtain ⟨kvs,wl,h3⟩:=S.held
 obtain ⟨kf,h4,h5,h6⟩:=S.fresh
 have fl:=S.T9 h5 h6
 refine ⟨_,rfl,a.sp,_,dx,_,_,rfl,h1,T.gk,T.Ey,Om ..,_,rfl,a.df,_,rfl,jB.k (k:=Sum.inl b) h4 (ZG (by lia)),?_⟩
 have S2:=S.bf.put (x:=a.df) (.inr rfl) (putK kf (Sum.inl b) (.bl true))
 refine k _ ⟨S2,⟨kvs,wl,by rw [Zc (aFS S.bf.n2)]; exact h3.dc,h3.ki,h3.v,λx m=>⟨by rw [Zc (λz=>by have q:=(h3.at_ x m).1; rw [z,h4] at q; cases q)]; exact (h3.at_ x m).1,(h3.at_ x m).2⟩,h3.inj⟩,⟨_,Za,h5.put b _,λx=>?_⟩,λx h=>?_⟩ (S.bf.sj (x:=a.df) (.inr rfl) _)
 .rw [yv]
  show _=if (if x=b then true else s.fr x)=true then _ else _
  by_cases z:x=b
  .rw [ajr (by rw [z]),ajr z,ajr rfl]
  .rw [aBJ (λq=>z (aXH q)),h6 x,aBJ z]
 .by_cases z:x=b
  .exact z ▸ hb
  .exact S.uE x ((aBJ z:(if x=b then true else s.fr x)=s.fr x).symm.trans h)
end
section
def AX:Sp:=λvs H Q _=>∃ s p:Int,vs=[.int s,.int p]/\0<s/\s<1073741824/\Q (.int (p / s)) H
theorem YL (F:aZ K "board_of" "board_of" Jw f fd) (T:Txt K mg):au P w K mg base aW 1 f fd yw AX:=by
 refine F.ok iG (λvs H Q E h=>?_) (λcdv A outer s H vs Q E hr h=>?_)
 .obtain ⟨s,p,rfl,_⟩:=h
  rfl
 obtain ⟨s,p,rfl,h0,h1,k⟩:=h
 have nd:=iG.nd
 refine ⟨_,(Zh (Zt (ak yq (pv 1) (pv 0)))),?_⟩
 exact ⟨_,rfl,_,rfl,_,_,rfl,rfl,⟨h0,h1⟩,k⟩
def gJ (s b:Int):List V:=(List.range s.toNat).map λk=>V.int (b * s+(k:Nat))
def Ie:Sp:=λvs H Q _=>∃ s b:Int,vs=[.int s,.int b]/\0<s/\s<=1000/\0<=b/\b<=1000000/\∀ (r:Addr) (H':Hp),H r=none->aB H H'->H' r=some (.lst (gJ s b))->Q (.ref r) H'
theorem UW {b s:Int} (h0:0<=b) (h1:b<=1000000) (s0:0<s) (s1:s<=1000):0<=b * s/\b * s<=1000000000:=by
 refine ⟨Int.mul_nonneg h0 (by lia),?_⟩
 exact a8o (Int.mul_le_mul_of_nonneg_right h1 (by lia)) (Int.mul_le_mul_of_nonneg_left s1 (by decide))
theorem Yy (F:aZ K "spots_of" "spots_of" Jv f fd) (T:Txt K mg):au P w K mg base aW 1 f fd D9 Ie:=by
 refine F.ok iE (λvs H Q E h=>?_) (λcdv A outer s H vs Q E hr h=>?_)
 .obtain ⟨s,p,rfl,_⟩:=h
  rfl
 obtain ⟨s,b,rfl,s0,s1,b0,b1,k⟩:=h
 have nd:=iE.nd
 refine ⟨_,(Zd (cF 2 nd (ak oj (pv 1) (pv 0)))
   (Zh (Zt (Z1 rfl rfl T.pG rfl T.mF (pc (pv 2) (pc (ak ZA (pv 2) (pv 0)) Zb)))))),?_⟩
 obtain ⟨m0,m1⟩:=UW b0 b1 s0 s1
 have e:(b * s+s - b * s).toNat=s.toNat:=by lia
 refine ⟨_,rfl,_,rfl,_,_,rfl,rfl,.inl ⟨by lia,by lia⟩,?_⟩
 refine ⟨_,rfl,_,rfl,_,rfl,_,_,rfl,rfl,_,_,rfl,⟨by lia,by lia,by lia,by lia⟩,?_⟩
 rw [e]
 refine ⟨aV2 (ZG (by lia)),λp hp=>?_⟩
 exact k p _ hp (Zg hp _) Za
def jm (size:Int) (dk:Addr):List (Str×V):=ai "kept" (.ref dk) (ai "size" (.int size) [])
theorem DF (size:Int) (dk:Addr):(jm size dk).lookup ("kept" : Str)=some (.ref dk):=by
 unfold jm; rw [Zf,ajr rfl]
theorem NU (size:Int) (dk:Addr):(jm size dk).lookup ("size" : Str)=some (.int size):=by
 unfold jm; rw [Zf,aBJ (by decide +kernel),Zf,ajr rfl]
theorem qh (size:Int) (dk:Addr) {m:Str} (h1:¬ m = "kept" := by decide +kernel) (h2:¬ m = "size" := by decide +kernel):(jm size dk).lookup m=none:=by
 unfold jm
 rw [Zf,aBJ h1,Zf,aBJ h2]
 rfl
structure dR (K:W.Frag) (H:Hp) (bm dk:Addr) (size:Int) (mem:Int->Int) (U:List Int):Prop where
 ob:∃ dx,H bm=some (.ins (aa K "Memory") dx (jm size dk))
 kept:∃ kvs,H dk=some (.dK kvs)/\KI kvs/\∀ s,aM kvs (Sum.inl s:Key)=if mem s=0 then none else some (.int (mem s))
 sup:∀ s,mem s≠0->s / size∈U
theorem dR.frame {H H':Hp} {bm dk:Addr} {size:Int} {mem:Int->Int} {U:List Int} (m:dR K H bm dk size mem U) (f:∀ x o,x=bm\/x=dk->H x=some o->H' x=some o):dR K H' bm dk size mem U:=by
 obtain ⟨dx,e⟩:=m.ob
 obtain ⟨kvs,e2,r⟩:=m.kept
 exact ⟨⟨dx,f _ _ (.inl rfl) e⟩,⟨kvs,f _ _ (.inr rfl) e2,r⟩,m.sup⟩
theorem NT {size:Int} {mem:Int->Int} {U:List Int} {kvs:List (Key×V)} (z0:0<size) (h:KI kvs) (v:∀ s,aM kvs (Sum.inl s:Key)=if mem s=0 then none else some (.int (mem s))) (sup:∀ s,mem s≠0->s / size∈U):kvs.length<=U.length * size.toNat:=by
 obtain ⟨ks,e,nd⟩:=h
 have l:=aOy List.length e
 rw [afy,afy] at l
 rw [l]
 have q:=AO nd (b:=U.flatMap λb=>(List.range size.toNat).map λk=>b * size+(k:Nat)) λs m=>?_
 .refine awv q (Nat.le_of_eq ?_)
  clear q sup
  induction U with
  | nil=>simp
  | cons x U ih=>rw [List.flatMap_cons,ap5,ih,afy,at7,am4,Nat.succ_mul,Nat.add_comm]
 .have q:=uV (kvs:=kvs) (Sum.inl s)
  rw [v s,e] at q
  have hs:=q.mpr (ali m)
  have nz:mem s≠0:=λz=>by rw [ajr z] at hs; cases hs
  rw [List.mem_flatMap]
  have m0:0<=s % size:=a4n _ (by lia)
  have m1:s % size<size:=aUj _ (by lia)
  refine ⟨s / size,sup s nz,au8.mpr ⟨(s % size).toNat,aTe.mpr (by lia),?_⟩⟩
  have:=bb3 s size
  rw [Int.toNat_of_nonneg m0,Int.mul_comm]
  exact this
def tV (K:W.Frag):Sp:=λvs H Q _=>∃ (p dx:Addr) (size:Int),vs=[.ref p,.int size]/\H p=some (.ins (aa K "Memory") dx []) /\
 ∀ (dk:Addr) (H':Hp),(∀ U,dR K H' p dk size (λ_=>0) U)->H dk=none->(∀ b o,H b=some o->b≠p->H' b=some o)->Q .aR H'
theorem Zfo (F:aZ K "__init__" "Memory.__init__" JO f fd) (T:Txt K mg):au P w K mg base aW 1 f fd JN (tV K):=by
 refine F.ok fF (λvs H Q E h=>?_) (λcdv A outer st H vs Q E hr h=>?_)
 .obtain ⟨p,dx,size,rfl,_⟩:=h
  rfl
 obtain ⟨p,dx,size,rfl,hp,k⟩:=h
 have nd:=fF.nd
 refine ⟨_,(Zd (kN (pv 0) (pv 1) rfl)
   (Zh (kN (pv 0) Be rfl))),?_⟩
 refine ⟨_,rfl,_,rfl,p,_,dx,_,rfl,hp,T.pU,T.Ex,(by show 0<1000; decide),λdk CY=>?_⟩
 have np:p≠dk:=Ze (Za (H:=H) (a:=p) (o:=.ins (aa K "Memory") dx (ai "size" (.int size) []))) CY
 refine ⟨_,rfl,p,_,dx,_,rfl,(by rw [Zc np]; exact Za),T.pU,T.yH,(by show 1<1000; decide),?_⟩
 rw [Zc (aFS np)] at CY
 refine k dk _ (λU=>⟨⟨dx,Za⟩,⟨[],by rw [Zc (aFS np)]; exact Za,KI.nil,λ_=>rfl⟩,λs h=>absurd rfl h⟩) CY λx o e n=>?_
 rw [Zc n,Zc (Ze e CY),Zc n]
 exact e
def bg (size:Int) (mem:Int->Int) (b:Int):List Int:=(List.range size.toNat).map λk=>mem (b * size+(k:Nat))
def gD (size:Int) (mem:Int->Int) (b:Int) (ws:List Int) (i:Nat):Int->Int:=λs=>if b * size<=s/\s<b * size+i then ws.getD (s - b * size).toNat 0 else mem s
def lB (size:Int) (mem:Int->Int) (b:Int) (ws:List Int):Int->Int:=gD size mem b ws size.toNat
theorem Oj {s b:Int} {i:Nat} {x:V} (h:(gJ s b)[i]?=some x):x=.int (b * s+(i:Nat))/\i<s.toNat:=by
 unfold gJ at h
 rw [aC3] at h
 by_cases c:i<s.toNat
 .rw [aA5 c] at h
  exact ⟨(aGB h).symm,c⟩
 .rw [awj (by rw [at7]; lia)] at h
  cases h
def Oi (K:W.Frag):Sp:=λvs H Q _=>∃ (bm dk:Addr) (size b:Int) (mem:Int->Int) (U:List Int),vs=[.ref bm,.int b]/\dR K H bm dk size mem U/\0<size/\size<=1000/\0<=b/\b<=1000000/\∀ l H',H l=none->aB H H'->H' l=some (.lst ((bg size mem b).map V.int))->Q (.ref l) H'
theorem Zdy (F:aZ K "words_of" "Memory.words_of" Eo f fd) (T:Txt K mg) (xg:Def P w K mg base "spots_of" 1 D9 Ie):au P w K mg base aW 2 f fd KO (Oi K):=by
 refine F.ok cA (λvs H Q E h=>?_) (λcdv A outer st H vs Q E hr h=>?_)
 .obtain ⟨bm,dk,size,b,mem,U,rfl,_⟩:=h
  rfl
 obtain ⟨bm,dk,size,b,mem,U,rfl,M,z0,z1,b0,b1,k⟩:=h
 have nd:=cA.nd
 have hu:=b9 hr
 refine ⟨_,(Zh (Zt (wN (tE (jJ:=(Zi Eo)) (oN:=bL) (N:=["spot", "self"]) (own:=1) (js:=[0]) (by decide +kernel) rfl rfl) rfl (yu (K:=K) rfl (Zm xg hr.m rfl (pc (Zl (K:=K) rfl (pv 0) rfl) (pc (pv 1) Zb)))) (λ_ _ _ _ _ _=>(bQ 0 (show List.Nodup (["spot", "self"]:List Str) by decide +kernel))) (λ_ _ _ _ _ _=>(IU hu (Zl (K:=K) rfl (pv 1) rfl) (pv 0) Zj ⟨rfl,rfl,rfl,rfl⟩))))),?_⟩
 obtain ⟨dx,h1⟩:=M.ob
 obtain ⟨kvs,h2,h3,h4⟩:=M.kept
 refine ⟨_,rfl,bm,_,dx,_,_,rfl,h1,T.pU,T.Ex,NU ..,_,rfl,size,b,rfl,z0,z1,b0,b1,λr H1 hr1 s1 e1=>⟨r,rfl,⟨_,aF.of e1⟩,λl hl=>?_⟩⟩
 have rC:=s1 _ _ h1
 have hk:=s1 _ _ h2
 have CF:(gJ size b).length=size.toNat:=by unfold gJ; rw [afy,at7]
 refine Jb (K:=K) (a:=r) (xs:=gJ size b) (l:=l) (λi ys σ' G'=>∃ v0:Option V,σ'=[v0,some (.ref bm)]/\ys=((List.range i).map λk=>mem (b * size+(k:Nat))).map V.int/\G'=upd H1 l (.lst ys)) ⟨none,rfl,rfl,rfl⟩ (λi ys σ' G' _ ⟨_,_,_,q⟩=>aF.of (by rw [q,Zc (Ze e1 hl)]; exact e1)) ?_ ?_
 .rintro i x ys σ' G' hi hxi hys ⟨v0,rfl,rfl,rfl⟩
  obtain ⟨rfl,_⟩:=Oj hxi
  have sl:=Zg hl (.lst (((List.range i).map λk=>mem (b * size+(k:Nat))).map V.int))
  have q:=dS.k (k:=Sum.inl (b * size+(i:Nat))) (sl _ _ hk)
  rw [h4] at q
  refine ⟨_,rfl,bm,_,dx,_,_,rfl,sl _ _ rC,T.pU,T.yH,DF ..,dk,rfl,.inl ⟨_,.inl (sl _ _ hk)⟩,_,rfl,_,q,?_⟩
  have eg:(if mem (b * size+(i:Nat))=0 then none else some (V.int (mem (b * size+(i:Nat))))).getD (V.int 0)=V.int (mem (b * size+(i:Nat))):=by
   by_cases c:mem (b * size+(i:Nat))=0
   .rw [ajr c,c]; rfl
   .rw [aBJ c]; rfl
  rw [eg]
  exact kP.of (aV2 (ZG (by lia))) hi hys Za ⟨_,rfl,by rw [List.range_succ,aAZ,aAZ]; rfl,Ic⟩
 .rintro ys σ' G' _ ⟨v0,rfl,rfl,rfl⟩
  rw [CF]
  exact k l _ (s1.free hl) (s1.trans (Zg hl _)) Za
def MT (K:W.Frag):Sp:=λvs H Q _=>∃ (bm dk:Addr) (size b:Int) (mem:Int->Int) (U:List Int) (lw:Addr) (ws:List Int),vs=[.ref bm,.int b,.ref lw]/\dR K H bm dk size mem U/\0<size/\size<=1000/\0<=b/\b<=1000000/\b∈U/\U.length<=800/\H lw=some (.lst (ws.map V.int))/\ws.length=size.toNat/\∀ H',dR K H' bm dk size (lB size mem b ws) U->(∀ x o,H x=some o->x≠dk->H' x=some o)->Q .aR H'
theorem Xv {size:Int} {mem:Int->Int} {b:Int} {ws:List Int} {i:Nat} {x:Int} (h:ws[i]?=some x) (s:Int):gD size mem b ws (i+1) s=if s=b * size+(i:Nat) then x else gD size mem b ws i s:=by
 unfold gD
 have gd:ws.getD i 0=x:=by rw [aXu,h]; rfl
 by_cases c:s=b * size+(i:Nat)
 .rw [ajr c,ajr (by lia)]
  have:(s - b * size).toNat=i:=by lia
  rw [this,gd]
 .rw [aBJ c]
  by_cases d:b * size<=s/\s<b * size+(i:Nat)
  .rw [ajr d,ajr (by lia)]
  .rw [aBJ d,aBJ (by lia)]
theorem XN {size b:Int} {i:Nat} (z0:0<size) (hi:i<size.toNat):(b * size+(i:Nat)) / size=b:=by
 rw [Int.add_comm,aIf _ _ (by lia),aPs (by lia) (by lia)]
 lia
theorem YZ (F:aZ K "lay" "Memory.lay" JB f fd) (T:Txt K mg) (xg:Def P w K mg base "spots_of" 1 D9 Ie):au P w K mg base aW 2 f fd JA (MT K):=by
 refine F.ok gh (λvs H Q E h=>?_) (λcdv A outer st H vs Q E hr h=>?_)
 .obtain ⟨bm,dk,size,b,mem,U,lw,ws,rfl,_⟩:=h
  rfl
 obtain ⟨bm,dk,size,b,mem,U,lw,ws,rfl,M,z0,z1,b0,b1,bU,lU,jD,kE,k⟩:=h
 have nd:=gh.nd
 have hu:=b9 hr
 refine ⟨_,(Zh (om akt rfl (VR rfl T.CK (pc (Zm xg hr.m rfl (pc (Zl (K:=K) rfl (pv 0) rfl) (pc (pv 1) Zb))) (pc (pv 2) Zb))) (ZV (K:=K) (n:=2) rfl rfl (Zr (bQ 3 nd) (Zr (bQ 4 nd) ZT))) (Zh (aH (Zv aY (pv 4) Zj (Zw _)) (Zh (Zo (OT (Zl (K:=K) rfl (pv 0) rfl) (pv 3) Zj ⟨rfl,rfl,rfl,rfl⟩))) (Zh (A5 hu (Zl (K:=K) rfl (pv 0) rfl) (pv 3) (pv 4) rfl)))))),?_⟩
 obtain ⟨dx,h1⟩:=M.ob
 obtain ⟨kv0,h2,_⟩:=M.kept
 refine ⟨_,rfl,bm,_,dx,_,_,rfl,h1,T.pU,T.Ex,NU ..,_,rfl,size,b,rfl,z0,z1,b0,b1,λr H1 hr1 s1 e1=>?_⟩
 have CF:(gJ size b).length=size.toNat:=by unfold gJ; rw [afy,at7]
 have Sn:r≠dk:=λz=>by rw [z,h2] at hr1; cases hr1
 have Sx:lw≠dk:=λz=>by rw [z,h2] at jD; cases jD
 refine ⟨_,rfl,r,lw,rfl,⟨_,aF.of e1⟩,⟨_,aF.of (s1 _ _ jD)⟩,Wc (K:=K) (a:=r) (b:=lw) (xs:=gJ size b) (ys:=ws.map V.int) (λi σ G=>∃ v3 v4:Option V,σ=[some (.ref bm),some (.int b),some (.ref lw),v3,v4]/\dR K G bm dk size (gD size mem b ws i) U/\∀ x o,H1 x=some o->x≠dk->G x=some o) (by rw [CF,afy,kE])
  ⟨none,none,rfl,?_,λ_ _ e _=>e⟩ (λi σ G _ ⟨_,_,_,_,q⟩=>⟨aF.of (q _ _ e1 Sn),aF.of (q _ _ (s1 _ _ jD) Sx)⟩) ?_ ?_⟩
 .have e0:gD size mem b ws 0=mem:=by
   funext s
   unfold gD
   rw [aBJ (by lia)]
  rw [e0]
  exact M.frame λx o _ e=>s1 x o e
 .rintro i x y t σ G hx hy ⟨v3,v4,rfl,M',fr⟩ ht
  obtain ⟨rfl,hi⟩:=Oj hx
  obtain ⟨z,hz,rfl⟩:∃ z,ws[i]?=some z/\y=V.int z:=by
   rw [aC3] at hy
   cases e:ws[i]? with
   | none=>rw [e] at hy; cases hy
   | some z=>rw [e] at hy; exact ⟨z,rfl,(aGB hy).symm⟩
  have s2:=Zg ht (.tup [V.int (b * size+(i:Nat)),V.int z])
  refine ⟨t,_,rfl,bB.of Za,rfl,_,_,rfl,gN ⟨_,_,rfl,gN ⟨rfl,?_⟩⟩⟩
  have M2:dR K (upd G t (.tup [V.int (b * size+(i:Nat)),V.int z])) bm dk size (gD size mem b ws i) U:=M'.frame λx o _ e=>s2 x o e
  have uC:∀ x o,H1 x=some o->x≠dk->upd G t (.tup [V.int (b * size+(i:Nat)),V.int z]) x=some o:=λx o e n=>s2 _ _ (fr x o e n)
  generalize upd G t (.tup [V.int (b * size+(i:Nat)),V.int z])=G2 at *
  obtain ⟨i6,g1⟩:=M2.ob
  obtain ⟨kvs,g2,g3,g4⟩:=M2.kept
  have o8:bm≠dk:=λq=>by rw [q,g2] at g1; cases g1
  have sp:=XN (b:=b) z0 hi
  have es:=Xv (size:=size) (mem:=mem) (b:=b) hz
  have fin:∀ kvs',KI kvs'->(∀ s,aM kvs' (Sum.inl s:Key)=if s=b * size+(i:Nat) then (if z=0 then none else some (.int z)) else aM kvs (Sum.inl s:Key))->dR K (upd G2 dk (.dK kvs')) bm dk size (gD size mem b ws (i+1)) U/\∀ x o,H1 x=some o->x≠dk->upd G2 dk (.dK kvs') x=some o:=λkvs' ki hv=>by
   refine ⟨⟨⟨i6,by rw [Zc o8]; exact g1⟩,⟨kvs',Za,ki,λs=>?_⟩,λs hs=>?_⟩,λx o e n=>by rw [Zc n]; exact uC x o e n⟩
   .by_cases c:s=b * size+(i:Nat)
    .rw [hv s,(es s).trans (ajr c),ajr c]
    .rw [hv s,(es s).trans (aBJ c),aBJ c,g4 s]
   .rw [es s] at hs
    by_cases c:s=b * size+(i:Nat)
    .rw [c,sp]; exact bU
    .rw [aBJ c] at hs
     exact M2.sup s hs
  refine ⟨_,rfl,rfl,_,rfl,II (λc=>?_) (λc=>?_)⟩
  .have c:z=0:=by simpa using c
   refine ⟨_,rfl,bm,_,i6,_,_,rfl,g1,T.pU,T.yH,DF ..,dk,rfl,.inl ⟨_,.inl g2⟩,_,rfl,kvs,Sum.inl (b * size+(i:Nat)),g2,rfl,λv hv=>?_,λhv=>?_⟩
   .obtain ⟨f1,f2⟩:=fin _ (g3.drop (b * size+(i:Nat))) (λs=>by
     rw [DR,ajr c]
     by_cases q:s=b * size+(i:Nat)
     .rw [ajr (by rw [q]),ajr q]
     .rw [aBJ (λy=>q (aXH y)),aBJ q])
    exact ⟨_,_,rfl,f1,f2⟩
   .rw [g4] at hv
    have e0:gD size mem b ws i (b * size+(i:Nat))=0:=by
     by_cases q:gD size mem b ws i (b * size+(i:Nat))=0
     .exact q
     .rw [aBJ q] at hv; cases hv
    have e:gD size mem b ws (i+1)=gD size mem b ws i:=by
     funext s
     rw [es s]
     by_cases q:s=b * size+(i:Nat)
     .rw [ajr q,q,e0,c]
     .rw [aBJ q]
    exact ⟨_,_,rfl,by rw [e]; exact M2,uC⟩
  .have c:z≠0:=λq=>c (by rw [q]; simp)
   have kl:=NT z0 g3 g4 M2.sup
   have kb:kvs.length<sizeLine:=axD (awv kl (Nat.mul_le_mul lU (by lia:size.toNat<=1000))) (by decide)
   refine ⟨_,rfl,_,rfl,bm,_,i6,_,_,rfl,g1,T.pU,T.yH,DF ..,_,rfl,dk,_,rfl,jB.k (k:=Sum.inl (b * size+(i:Nat))) g2 kb,?_⟩
   obtain ⟨f1,f2⟩:=fin _ (g3.put (b * size+(i:Nat)) (.int z)) (λs=>by
     rw [yv,aBJ c]
     by_cases q:s=b * size+(i:Nat)
     .rw [ajr (by rw [q]),ajr q]
     .rw [aBJ (λy=>q (aXH y)),aBJ q])
   exact ⟨_,_,rfl,f1,f2⟩
 .rintro σ G ⟨v3,v4,rfl,M',fr⟩
  rw [CF] at M'
  exact k G M' λx o e n=>fr x o (s1 _ _ e) n
end
structure aK where
 size:Int
 kind:Str
 aT:List Cf
 U:List Int
structure WF (g:aK):Prop where
 cf:∀ c∈g.aT,1<=c.pl/\c.pl<=16
 z0:1<=g.size
 z1:g.size<=1000
 lU:g.U.length<=800
 ub:∀ b∈g.U,0<=b/\b<=1000000
 l4:g.aT.length<=4
 l1:1<=g.aT.length
structure ao where
 rm:List Rm
 mem:Int->Int
 ev:List (List V)
def ao.at_ (st:ao) (k:Nat):Rm:=st.rm.getD k lT
def ao.set (st:ao) (k:Nat) (s:Rm):ao:={ st with rm:=st.rm.set k s }
def ao.tell (st:ao) (e:List V):ao:={ st with ev:=st.ev++[e] }
structure TA where
 p:Addr
 ss:Addr
 bm:Addr
 dk:Addr
 ev:Addr
 as:List SA
abbrev OS:=Nat->Addr->Prop
def OS.set (os:OS) (k:Nat) (O:Addr->Prop):OS:=λj=>if j=k then O else os j
def Bs (A:TA) (x:Addr):Prop:=x=A.p\/x=A.ss\/x=A.bm\/x=A.dk\/x=A.ev
def OW (A:TA) (os:OS) (x:Addr):Prop:=Bs A x\/∃ k,k<A.as.length/\os k x
def Ev (n:Nat) (e:List V):Prop:=(∃ k:Nat,k<=n/\e=[.str "found",.int (k:Int)])\/(∃ (k:Nat) (b:Int),(k<n/\0<=b/\b<=1000000)/\(e=[.str "in",.int (k:Int),.int b]\/e=[.str "out",.int (k:Int),.int b]))\/∃ (k:Nat) (b:Int),(k<=n/\0<=b/\b<=1000000)/\e=[.str "words",.int (k:Int),.int b]
def qY (n:Nat) (H:Hp) (l:Addr) (es:List (List V)):Prop:=(∀ e∈es,Ev n e)/\∃ ts:List Addr,H l=some (.lst (ts.map V.ref))/\ts.length=es.length/\∀ (i:Nat) (t:Addr) (e:List V),ts[i]?=some t->es[i]?=some e->H t=some (.tup e)
def bu (size:Int) (ss bm:Addr) (last:Nat) (ev:Addr) (kind:Str):List (Str×V):=ai "kind" (.str kind) (ai "events" (.ref ev) (ai "last" (.int last) (ai "bottom" (.ref bm) (ai "stores" (.ref ss) (ai "size" (.int size) [])))))
section
variable (size:Int) (ss bm:Addr) (last:Nat) (ev:Addr) (kind:Str)
theorem NR:(bu size ss bm last ev kind).lookup ("kind" : Str)=some (.str kind):=by
 unfold bu; rw [Zf,ajr rfl]
theorem Bg:(bu size ss bm last ev kind).lookup ("events" : Str)=some (.ref ev):=by
 unfold bu; rw [Zf,aBJ (by decide +kernel),Zf,ajr rfl]
theorem qL:(bu size ss bm last ev kind).lookup ("last" : Str)=some (.int last):=by
 unfold bu; rw [Zf,aBJ (by decide +kernel),Zf,aBJ (by decide +kernel),Zf,ajr rfl]
theorem IZ:(bu size ss bm last ev kind).lookup ("bottom" : Str)=some (.ref bm):=by
 unfold bu; rw [Zf,aBJ (by decide +kernel),Zf,aBJ (by decide +kernel),Zf,aBJ (by decide +kernel),Zf,ajr rfl]
theorem ZO:(bu size ss bm last ev kind).lookup ("stores" : Str)=some (.ref ss):=by
 unfold bu; rw [Zf,aBJ (by decide +kernel),Zf,aBJ (by decide +kernel),Zf,aBJ (by decide +kernel),Zf,aBJ (by decide +kernel),Zf,ajr rfl]
theorem yj:(bu size ss bm last ev kind).lookup ("size" : Str)=some (.int size):=by
 unfold bu; rw [Zf,aBJ (by decide +kernel),Zf,aBJ (by decide +kernel),Zf,aBJ (by decide +kernel),Zf,aBJ (by decide +kernel),Zf,aBJ (by decide +kernel),Zf,ajr rfl]
theorem aA {m:Str} (h1:¬ m = "kind" := by decide +kernel) (h2:¬ m = "events" := by decide +kernel) (h3:¬ m = "last" := by decide +kernel) (h4:¬ m = "bottom" := by decide +kernel) (h5:¬ m = "stores" := by decide +kernel) (h6:¬ m = "size" := by decide +kernel):(bu size ss bm last ev kind).lookup m=none:=by
 unfold bu
 rw [Zf,aBJ h1,Zf,aBJ h2,Zf,aBJ h3,Zf,aBJ h4,Zf,aBJ h5,Zf,aBJ h6]
 rfl
theorem ZL {f g:Str} {v x:V} {r:List (Str×V)} (h:¬ g=f):ai f v ((g,x) :: r)=(g,x) :: ai f v r:=by
 show (if g=f then _ else _)=_; rw [aBJ h]
theorem Vv {f:Str} {v x:V} {r:List (Str×V)}:ai f v ((f,x) :: r)=(f,v) :: r:=by
 show (if f=f then _ else _)=_; rw [ajr rfl]
theorem yr {f:Str} {v:V}:ai f v []=[(f,v)]:=rfl
theorem Jl:bu size ss bm last ev kind=([(("size" : Str),V.int size),(("stores" : Str),V.ref ss),(("bottom" : Str),V.ref bm),(("last" : Str),V.int last),(("events" : Str),V.ref ev),(("kind" : Str),V.str kind)]:List (Str×V)):=by
 unfold bu
 have a1:¬ ("size" : Str) = "stores" := by decide +kernel
 have a2:¬ ("size" : Str) = "bottom" := by decide +kernel
 have a3:¬ ("size" : Str) = "last" := by decide +kernel
 have a4:¬ ("size" : Str) = "events" := by decide +kernel
 have a5:¬ ("size" : Str) = "kind" := by decide +kernel
 have b2:¬ ("stores" : Str) = "bottom" := by decide +kernel
 have b3:¬ ("stores" : Str) = "last" := by decide +kernel
 have b4:¬ ("stores" : Str) = "events" := by decide +kernel
 have b5:¬ ("stores" : Str) = "kind" := by decide +kernel
 have c3:¬ ("bottom" : Str) = "last" := by decide +kernel
 have c4:¬ ("bottom" : Str) = "events" := by decide +kernel
 have c5:¬ ("bottom" : Str) = "kind" := by decide +kernel
 have d4:¬ ("last" : Str) = "events" := by decide +kernel
 have d5:¬ ("last" : Str) = "kind" := by decide +kernel
 have e5:¬ ("events" : Str) = "kind" := by decide +kernel
 rw [yr,ZL a1,yr,ZL a2,ZL b2,yr,ZL a3,ZL b3,ZL c3,yr,ZL a4,ZL b4,ZL c4,ZL d4,yr,ZL a5,ZL b5,ZL c5,ZL d5,ZL e5,yr]
theorem UU (ev':Addr):ai "events" (.ref ev') (bu size ss bm last ev kind)=bu size ss bm last ev' kind:=by
 rw [Jl,Jl]
 have a4:¬ ("size" : Str) = "events" := by decide +kernel
 have b4:¬ ("stores" : Str) = "events" := by decide +kernel
 have c4:¬ ("bottom" : Str) = "events" := by decide +kernel
 have d4:¬ ("last" : Str) = "events" := by decide +kernel
 rw [ZL a4,ZL b4,ZL c4,ZL d4,Vv]
end
structure af (K:W.Frag) (H:Hp) (A:TA) (g:aK) (st:ao) (os:OS) (n:Nat):Prop where
 ob:∃ dx,H A.p=some (.ins (aa K "Stairs") dx (bu g.size A.ss A.bm A.as.length A.ev g.kind))
 ss:H A.ss=some (.lst (A.as.map λa=>V.ref a.sp))
 mem:dR K H A.bm A.dk g.size st.mem g.U
 ev:qY g.aT.length H A.ev st.ev
 sP:st.ev.length<=n
 lc:g.aT.length=A.as.length
 lS:st.rm.length=A.as.length
 bf:∀ (k:Nat) (a:SA) (c:Cf) (s:Rm),A.as[k]?=some a->g.aT[k]?=some c->st.rm[k]?=some s->ay K H a c s (os k)
 off:∀ k,k<A.as.length->∀ x,os k x->¬ Bs A x
 n5:∀ i j,i<A.as.length->j<A.as.length->i≠j->∀ x,os i x->¬ os j x
 vt:A.ss≠A.ev
 nV:A.p≠A.bm
 rP:∀ s∈st.rm,∀ b∈s.seq,b∈g.U
 full:∀ (k:Nat) (c:Cf) (s:Rm),g.aT[k]?=some c->st.rm[k]?=some s->∀ t,((Zn c.sh t s.seq).length:Int)<=c.pl
 wl:∀ s∈st.rm,∀ b∈s.seq,(s.wd b).length=g.size.toNat
 wf:WF g
 tb:Tb K H
section
variable {K:W.Frag} {H H':Hp} {A:TA} {g:aK} {st:ao} {os:OS} {n:Nat} {a:SA} {c:Cf} {s:Rm}
theorem qY.frame {m:Nat} {l:Addr} {es:List (List V)} (h:qY m H l es) (f1:∀ o,H l=some o->H' l=some o) (f2:∀ x ys,H x=some (.tup ys)->H' x=some (.tup ys)):qY m H' l es:=by
 obtain ⟨h0,ts,h1,h2,h3⟩:=h
 exact ⟨h0,ts,f1 _ h1,h2,λi t e a b=>f2 _ _ (h3 i t e a b)⟩
theorem af.frame (T:af K H A g st os n) (f:∀ x o,H x=some o->(OW A os x\/¬ Mt o)->H' x=some o):af K H' A g st os n:=by
 obtain ⟨dx,h1⟩:=T.ob
 have fb:∀ {x o},Bs A x->H x=some o->H' x=some o:=λ{x o} h e=>f x o e (.inl (.inl h))
 have ft:∀ x ys,H x=some (.tup ys)->H' x=some (.tup ys):=λx ys e=>f x _ e (.inr id)
 refine ⟨⟨dx,fb (.inl rfl) h1⟩,fb (by simp [Bs]) T.ss,T.mem.frame λx o m e=>fb (by rcases m with m | m <;> simp [Bs,m]) e,T.ev.frame (λo e=>fb (by simp [Bs]) e) ft,T.sP,T.lc,T.lS,λk a c s h1 h2 h3=>(T.bf k a c s h1 h2 h3).frame λx o h e=>f x o e (.inl (.inr ⟨k,(a7Y.mp h1).1,h⟩)),T.off,T.n5,T.vt,T.nV,T.rP,T.full,T.wl,T.wf,f _ _ T.tb (.inr id)⟩
theorem af.same (T:af K H A g st os n) (h:aB H H'):af K H' A g st os n:=T.frame λx o e _=>h x o e
theorem af.le {m:Nat} (T:af K H A g st os n) (h:n<=m):af K H A g st os m:=⟨T.ob,T.ss,T.mem,T.ev,awv T.sP h,T.lc,T.lS,T.bf,T.off,T.n5,T.vt,T.nV,T.rP,T.full,T.wl,T.wf,T.tb⟩
theorem af.ex (T:af K H A g st os n):∀ x,OW A os x->H x≠none:=λx h=>by
 rcases h with h | ⟨k,hk,h⟩
 .obtain ⟨dx,h1⟩:=T.ob
  obtain ⟨dm,h2⟩:=T.mem.ob
  obtain ⟨kv,h3,_⟩:=T.mem.kept
  obtain ⟨_,ts,h4,_⟩:=T.ev
  rcases h with rfl | rfl | rfl | rfl | rfl
  .rw [h1]; simp
  .rw [T.ss]; simp
  .rw [h2]; simp
  .rw [h3]; simp
  .rw [h4]; simp
 .have h1:A.as[k]?=some A.as[k]:=adk hk
  have h2:g.aT[k]?=some (g.aT[k]'(by rw [T.lc]; exact hk)):=adk _
  have h3:st.rm[k]?=some (st.rm[k]'(by rw [T.lS]; exact hk)):=adk _
  exact (T.bf _ _ _ _ h1 h2 h3).bf.ex x h
theorem ao.at_of {k:Nat} (h:k<st.rm.length):st.rm[k]?=some (st.at_ k):=by
 unfold ao.at_
 rw [aXu,adk h]
 rfl
theorem ao.jt {k j:Nat} {s:Rm} (h:k<st.rm.length):(st.set k s).at_ j=if j=k then s else st.at_ j:=by
 unfold ao.at_ ao.set
 rw [aXu,aXu]
 by_cases z:j=k
 .rw [ajr z,z,ai7 h]; rfl
 .rw [aBJ z,aM1 (aFS z)]
def aK.cf (g:aK) (k:Nat):Cf:=g.aT.getD k ⟨1,1, "old",true⟩
theorem af.at_ (T:af K H A g st os n) {k:Nat} (hk:k<A.as.length):∃ a,A.as[k]?=some a/\g.aT[k]?=some (g.cf k)/\st.rm[k]?=some (st.at_ k)/\ay K H a (g.cf k) (st.at_ k) (os k):=by
 have h1:A.as[k]?=some A.as[k]:=adk hk
 have h2:g.aT[k]?=some (g.cf k):=by
  unfold aK.cf
  rw [aXu,adk (by rw [T.lc]; exact hk)]
  rfl
 have h3:=ao.at_of (st:=st) (k:=k) (by rw [T.lS]; exact hk)
 exact ⟨_,h1,h2,h3,T.bf _ _ _ _ h1 h2 h3⟩
theorem af.lM (T:af K H A g st os n) {k:Nat} (hk:k<A.as.length):(st.at_ k).seq.length<=800/\(∀ b∈(st.at_ k).seq,b∈g.U/\((st.at_ k).wd b).length=g.size.toNat)/\(∀ t,((Zn (g.cf k).sh t (st.at_ k).seq).length:Int)<=(g.cf k).pl)/\1<=(g.cf k).pl/\(g.cf k).pl<=16/\(st.at_ k).seq.Nodup:=by
 obtain ⟨a,h1,h2,h3,S⟩:=T.at_ hk
 have m:=a7T h3
 obtain ⟨c1,c2⟩:=T.wf.cf _ (a7T h2)
 exact ⟨awv (AO S.bf.room.nd (T.rP _ m)) T.wf.lU,λb h=>⟨T.rP _ m b h,T.wl _ m b h⟩,T.full _ _ _ h2 h3,c1,c2,S.bf.room.nd⟩
theorem UT {k:Nat} {O':Addr->Prop} (T:af K H A g st os n) (hk:k<A.as.length) (p:bI (os k) H H' O'):bI (OW A os) H H' (OW A (os.set k O')):=by
 refine ⟨λx o e nn=>p.kp x o e λh=>nn (.inr ⟨k,hk,h⟩),λx h=>?_⟩
 rcases h with h | ⟨j,hj,h⟩
 .exact .inl (.inl h)
 .unfold OS.set at h
  by_cases z:j=k
  .rw [ajr z] at h
   exact (p.fr x h).elim (λq=>.inl (.inr ⟨k,hk,q⟩)) .inr
  .rw [aBJ z] at h
   exact .inl (.inr ⟨j,hj,h⟩)
theorem af.iy {k:Nat} {s':Rm} {O':Addr->Prop} (T:af K H A g st os n) (ha:A.as[k]?=some a) (hc:g.aT[k]?=some c) (S:ay K H' a c s' O') (p:bI (os k) H H' O') (hu:∀ b∈s'.seq,b∈g.U/\(s'.wd b).length=g.size.toNat) (hf:∀ t,((Zn c.sh t s'.seq).length:Int)<=c.pl) :
  af K H' A g (st.set k s') (os.set k O') n/\bI (OW A os) H H' (OW A (os.set k O')):=by
 have hk:k<A.as.length:=(a7Y.mp ha).1
 refine ⟨?_,UT T hk p⟩
 have nb:∀ {x o},Bs A x->H x=some o->H' x=some o:=λ{x o} h e=>p.kp x o e λq=>absurd h (T.off k hk x q)
 have nt:∀ x ys,H x=some (.tup ys)->H' x=some (.tup ys):=λx ys e=>p.kp x _ e λ_=>id
 obtain ⟨dx,h1⟩:=T.ob
 refine ⟨⟨dx,nb (.inl rfl) h1⟩,nb (by simp [Bs]) T.ss,T.mem.frame λx o m e=>nb (by rcases m with m | m <;> simp [Bs,m]) e,T.ev.frame (λo e=>nb (by simp [Bs]) e) nt,T.sP,T.lc,by show (st.rm.set k s').length=_; rw [akS]; exact T.lS,λj b cb sb hb hcb jC=>?_,λj hj x h=>?_,λi j hi hj hij x h1 h2=>?_,T.vt,T.nV,λq hq b hb=>?_,λj cb sb hcb jC=>?_,λq hq b hb=>?_,T.wf,p.kp _ _ T.tb λ_=>id⟩
 .have hj:=(a7Y.mp hb).1
  unfold OS.set
  by_cases e:j=k
  .subst e
   rw [ha] at hb; cases hb
   rw [hc] at hcb; cases hcb
   have jC:(st.rm.set j s')[j]?=some sb:=jC
   rw [ai7 (by rw [T.lS]; exact hk)] at jC
   cases jC
   rw [ajr rfl]
   exact S
  .have jC:(st.rm.set k s')[j]?=some sb:=jC
   rw [aM1 (aFS e)] at jC
   rw [aBJ e]
   exact (T.bf j b cb sb hb hcb jC).frame λx o h q=>p.kp x o q λz=>absurd z (T.n5 j k hj hk e x h)
 .unfold OS.set at h
  by_cases e:j=k
  .rw [ajr e] at h
   rcases p.fr x h with q | q
   .exact T.off k hk x q
   .exact λz=>T.ex x (.inl z) q
  .rw [aBJ e] at h
   exact T.off j hj x h
 .unfold OS.set at h1 h2
  by_cases e1:i=k
  .rw [ajr e1] at h1
   rw [aBJ (λz=>hij (e1.trans z.symm))] at h2
   rcases p.fr x h1 with q | q
   .exact T.n5 k j hk hj (λz=>hij (e1.trans z)) x q h2
   .exact T.ex x (.inr ⟨j,hj,h2⟩) q
  .rw [aBJ e1] at h1
   by_cases e2:j=k
   .rw [ajr e2] at h2
    rcases p.fr x h2 with q | q
    .exact T.n5 i k hi hk e1 x h1 q
    .exact T.ex x (.inr ⟨i,hi,h1⟩) q
   .rw [aBJ e2] at h2
    exact T.n5 i j hi hj hij x h1 h2
 .rcases al0 hq with hq | rfl
  .exact T.rP q hq b hb
  .exact (hu b hb).1
 .by_cases e:j=k
  .subst e
   rw [hc] at hcb; cases hcb
   have jC:(st.rm.set j s')[j]?=some sb:=jC
   rw [ai7 (by rw [T.lS]; exact hk)] at jC
   cases jC
   exact hf
  .have jC:(st.rm.set k s')[j]?=some sb:=jC
   rw [aM1 (aFS e)] at jC
   exact T.full j cb sb hcb jC
 .rcases al0 hq with hq | rfl
  .exact T.wl q hq b hb
  .exact (hu b hb).2
theorem af.event (T:af K H A g st os n) {t:Addr} (e:List V) (he:Ev g.aT.length e) (ht:H t=none):∃ ts:List Addr,H A.ev=some (.lst (ts.map V.ref))/\ts.length<=n/\af K (upd (upd H t (.tup e)) A.ev (.lst (ts.map V.ref++[.ref t]))) A g (st.tell e) os (n+1)/\bI (OW A os) H (upd (upd H t (.tup e)) A.ev (.lst (ts.map V.ref++[.ref t]))) (OW A os):=by
 obtain ⟨h0,ts,h1,h2,h3⟩:=T.ev
 have s1:=Zg ht (.tup e)
 have T1:=T.same s1
 have Sk:t≠A.ev:=λz=>by rw [z,h1] at ht; cases ht
 have off:∀ {x o},H x=some o->x≠A.ev->upd (upd H t (.tup e)) A.ev (.lst (ts.map V.ref++[.ref t])) x=some o:=λ{x o} q z=>by rw [Zc z]; exact s1 _ _ q
 have nk:∀ {x o},H x=some o->(∀ xs,o≠.lst xs)->x≠A.ev:=λ{x o} q m z=>by rw [z,h1] at q; exact m _ (aGB q).symm
 have sP:=T.sP
 refine ⟨ts,h1,by lia,?_,⟨λx o q m=>off q λz=>?_,λx h=>.inl h⟩⟩
 .obtain ⟨dx,g1⟩:=T.ob
  obtain ⟨dm,g2⟩:=T.mem.ob
  obtain ⟨kv,g3,g4⟩:=T.mem.kept
  refine ⟨⟨dx,off g1 (nk g1 (λ_ z=>by cases z))⟩,off T.ss T.vt,⟨⟨dm,off g2 (nk g2 (λ_ z=>by cases z))⟩,⟨kv,off g3 (nk g3 (λ_ z=>by cases z)),g4⟩,T.mem.sup⟩,⟨λe' m=>(aPD.mp m).elim (h0 e') λm=>by rw [ai5.mp m]; exact he,ts++[t],by rw [Za,aAZ]; rfl,by rw [ap5]; show _=(st.ev++[e]).length; rw [ap5,h2]; rfl,λi t' e' q1 q2=>?_⟩,by show (st.ev++[e]).length<=n+1; rw [ap5]; show st.ev.length+1<=n+1; lia,T.lc,T.lS,λk a c s q1 q2 q3=>(T.bf k a c s q1 q2 q3).frame λx o h q=>off q λz=>T.off k (a7Y.mp q1).1 x h (by simp [Bs,z]),T.off,T.n5,T.vt,T.nV,T.rP,T.full,T.wl,T.wf,off T.tb (nk T.tb (λ_ z=>by cases z))⟩
  have q2:(st.ev++[e])[i]?=some e':=q2
  by_cases hi:i<ts.length
  .rw [aRC hi] at q1
   rw [aRC (by lia)] at q2
   have q:=h3 i t' e' q1 q2
   exact off q (nk q (λ_ z=>by cases z))
  .have hl:=(a7Y.mp q1).1
   rw [ap5,aay] at hl
   have:i=ts.length:=by lia
   rw [aUi (by lia),this,a1l] at q1
   rw [aUi (by lia),show i - st.ev.length=0 by lia] at q2
   cases q1
   cases q2
   rw [Zc Sk]
   exact Za
 .rw [z,h1] at q
  cases q
  exact m (.inl (by simp [Bs,z])) trivial
end
theorem NQ {R:Int->Int->Prop} (anti:∀ a b,R a b->R b a->a=b):∀ {l1 l2:List Int},l1.Perm l2->l1.Pairwise R->l2.Pairwise R->l1=l2
 | [],l2,p,_,_=>(List.nil_perm.mp p).symm
 | a :: l1,l2,p,h1,h2=>by
  match l2,p,h2 with
  | [],p,_=>exact absurd p.length_eq (by simp)
  | b :: l2,p,h2 =>
   have e:a=b:=by
    by_cases c:a=b
    .exact c
    .have ma:a∈l2:=(aM6.mp (p.mem_iff.mp abW)).resolve_left c
     have mb:b∈l1:=(aM6.mp (p.mem_iff.mpr abW)).resolve_left (λz=>c z.symm)
     exact anti a b ((aM2.mp h1).1 b mb) ((aM2.mp h2).1 a ma)
   subst e
   rw [NQ anti (List.Perm.cons_inv p) (aM2.mp h1).2 (aM2.mp h2).2]
theorem W5 {us:Int->Int} {ms:List Int} (a b:Int) (h1:tM us ms a b) (h2:tM us ms b a):a=b:=by
 rcases h1 with h1 | ⟨h1,h3⟩ <;> rcases h2 with h2 | ⟨h2,h4⟩ <;> lia
theorem Xu {ru:Str} {us:Int->Int} {pl:Int} {ms:List Int} {g g':Option Int} (h:gm ru us pl ms g) (h':gm ru us pl ms g'):g=g':=by
 by_cases c:(ms.length:Int)<pl
 .rw [h.1 c,h'.1 c]
 .obtain ⟨x,r,rfl,p,f,n⟩:=h.2 c
  obtain ⟨x',r',rfl,p',f',n'⟩:=h'.2 c
  have e:x :: r=x' :: r':=by
   by_cases q:ru = "few"
   .exact NQ W5 (p.trans p'.symm) (f q) (f' q)
   .rw [n q,n' q]
  injection e with e1 _
  rw [e1]
open Classical in
noncomputable def eS (c:Cf) (s:Rm) (b:Int):Option Int:=if h:∃ g,gm c.ru s.us c.pl (Zn c.sh (b % c.sh) s.seq) g then Classical.choose h else none
theorem W4 {c:Cf} {s:Rm} {b:Int} {g:Option Int} (h:gm c.ru s.us c.pl (Zn c.sh (b % c.sh) s.seq) g):eS c s b=g:=by
 unfold eS
 have e:∃ g,gm c.ru s.us c.pl (Zn c.sh (b % c.sh) s.seq) g:=⟨g,h⟩
 rw [dif_pos e]
 exact Xu (Classical.choose_spec e) h
theorem Xs {sh pl:Int} {seq seq':List Int} (h:∀ s,((Zn sh s seq).length:Int)<=pl) (hs:seq'.Sublist seq):∀ s,((Zn sh s seq').length:Int)<=pl:=λs=>by
 have q:(Zn sh s seq').Sublist (Zn sh s seq):=List.Sublist.filter _ hs
 have:=q.length_le
 have:=h s
 lia
theorem Xr {sh pl:Int} {seq seq':List Int} (h:∀ s,((Zn sh s seq).length:Int)<=pl) (hs:seq'.Perm seq):∀ s,((Zn sh s seq').length:Int)<=pl:=λs=>by
 have q:(Zn sh s seq').Perm (Zn sh s seq):=List.Perm.filter _ hs
 rw [q.length_eq]
 exact h s
theorem Vu {sh pl b:Int} {seq:List Int} (h:∀ s,((Zn sh s seq).length:Int)<=pl) (hb:((Zn sh (b % sh) seq).length:Int)<pl):∀ s,((Zn sh s (seq++[b])).length:Int)<=pl:=λs=>by
 rw [Br]
 split
 .rename_i e
  rw [← e,ap5]
  show ((_+1:Nat):Int)<=pl
  lia
 .exact h s
def kR (c:Cf) (s:Rm) (b:Int):Rm:=⟨if c.ru = "old" then s.seq.erase b++[b] else s.seq,bump s.us b,s.wd,s.fr⟩
theorem wK {c:Cf} {s:Rm} {b:Int} (hb:b∈s.seq):(kR c s b).seq.Perm s.seq:=by
 unfold kR
 by_cases e:c.ru = "old"
 .rw [ajr e]; exact (ace).trans (List.perm_cons_erase hb).symm
 .rw [aBJ e]
def eW (k:Nat) (b:Int):List V:=[.str "words",.int (k:Int),.int b]
def eI (k:Nat) (b:Int):List V:=[.str "in",.int (k:Int),.int b]
def eO (k:Nat) (b:Int):List V:=[.str "out",.int (k:Int),.int b]
def eF (k:Nat):List V:=[.str "found",.int (k:Int)]
def aK.n (g:aK):Nat:=g.aT.length
def dB (g:aK) (k:Nat) (b:Int) (ws:List Int) (st:ao):ao:=if k=g.n then ao.tell { st with mem:=lB g.size st.mem b ws } (eW k b) else (st.set k (fW (st.at_ k) b ws)).tell (eW k b)
def bJ (k:Nat) (b:Int) (ws:List Int) (st:ao):ao:=(st.set k (xS (st.at_ k) b ws)).tell (eI k b)
def cR (k:Nat) (b:Int) (st:ao):ao:=(st.tell (eO k b)).set k (jI (st.at_ k) b)
def mT (st:ao):ao:={ st with ev:=[] }
def TA.re (A:TA) (e:Addr):TA:={ A with ev:=e }
def Res (K:W.Frag) (H:Hp) (A:TA) (g:aK) (os:OS) (st':ao) (m:Nat) (Q:Hp->Prop):Prop:=∀ H' os',af K H' A g st' os' m->bI (OW A os) H H' (OW A os')->Q H'
theorem tups {O O':Addr->Prop} {H H':Hp} (p:bI O H H' O') {x:Addr} {ys:List V} (h:H x=some (.tup ys)):H' x=some (.tup ys):=p.kp x _ h λ_=>id
section
variable {K:W.Frag} {H H':Hp} {A:TA} {g:aK} {st:ao} {os:OS} {n:Nat}
theorem af.ix {k:Nat} {a:SA} (ha:A.as[k]?=some a):fX (A.as.map λa=>V.ref a.sp) (k:Int)=some (.ref a.sp):=qN (by rw [aC3,ha]; rfl)
theorem af.ln (T:af K H A g st os n):g.n=A.as.length:=T.lc
theorem bI.out {O O':Addr->Prop} (p:bI O H H' O') {x:Addr} {o:HO} (h:H x=some o) (n:¬ O x):H' x=some o/\¬ O' x:=⟨p.kp x o h λz=>absurd z n,λz=>(p.fr x z).elim n λq=>by rw [h] at q; cases q⟩
theorem af.fresh (T:af K H A g st os n) {x:Addr} (h:H x=none):¬ OW A os x:=λz=>T.ex x z h
theorem af.told (T:af K H A g st os n) {e' dx:Addr} (he:H e'=none):af K (upd (upd H e' (.lst [])) A.p (.ins (aa K "Stairs") dx (bu g.size A.ss A.bm A.as.length e' g.kind))) (A.re e') g (mT st) os 0:=by
 obtain ⟨d0,h1⟩:=T.ob
 obtain ⟨dm,h2⟩:=T.mem.ob
 obtain ⟨kv,h3,h4⟩:=T.mem.kept
 have s:=Zg he (.lst ([]:List V))
 have Su:A.p≠e':=Ze h1 he
 have off:∀ {x o},H x=some o->x≠A.p->upd (upd H e' (.lst [])) A.p (.ins (aa K "Stairs") dx (bu g.size A.ss A.bm A.as.length e' g.kind)) x=some o:=λ{x o} q z=>by rw [Zc z]; exact s _ _ q
 have nk:∀ {x o},H x=some o->(∀ C d f,o≠.ins C d f)->x≠A.p:=λ{x o} q m z=>by rw [z,h1] at q; exact m _ _ _ (aGB q).symm
 have nb:∀ x,(∃ k,k<A.as.length/\os k x)->¬ Bs (A.re e') x:=λx ⟨k,hk,h⟩ z=>by
  rcases z with z | z | z | z | z
  .exact T.off k hk x h (.inl z)
  .exact T.off k hk x h (.inr (.inl z))
  .exact T.off k hk x h (.inr (.inr (.inl z)))
  .exact T.off k hk x h (.inr (.inr (.inr (.inl z))))
  .have z:x=e':=z
   exact T.ex x (.inr ⟨k,hk,h⟩) (z ▸ he)
 refine ⟨⟨dx,Za⟩,off T.ss (nk T.ss (λ_ _ _ z=>by cases z)),⟨⟨dm,off h2 (aFS T.nV)⟩,⟨kv,off h3 (nk h3 (λ_ _ _ z=>by cases z)),h4⟩,T.mem.sup⟩,⟨(λe m=>by cases m),[],by show _=some (HO.lst []); rw [show (A.re e').ev=e' from rfl,Zc (aFS Su)]; exact Za,rfl,λi t e q _=>by simp at q⟩,a17 _,T.lc,T.lS,λk a c s' q1 q2 q3=>(T.bf k a c s' q1 q2 q3).frame λx o h q=>off q λz=>T.off k (a7Y.mp q1).1 x h (.inl z),λk hk x h=>nb x ⟨k,hk,h⟩,T.n5,λz=>?_,T.nV,T.rP,T.full,T.wl,T.wf,off T.tb (nk T.tb (λ_ _ _ z=>by cases z))⟩
 have z:A.ss=e':=z
 have q:=T.ss
 rw [z,he] at q; cases q
end
section
def IF (K:W.Frag):Sp:=λvs H Q _=>∃ (A:TA) (g:aK) (st:ao) (os:OS) (n k:Nat) (a:SA),vs=[.ref A.p,.int (k:Int)]/\af K H A g st os n/\A.as[k]?=some a/\Q (.ref a.sp) H
theorem Zfp (F:aZ K "store" "Steps.store" JL f fd) (T:Txt K mg):au P w K mg base aW 1 f fd Eg (IF K):=by
 refine F.ok fz (λvs H Q E h=>?_) (λcdv A outer s0 H vs Q E hr h=>?_)
 .obtain ⟨A,g,st,os,n,k,a,rfl,_⟩:=h
  rfl
 obtain ⟨A,g,st,os,n,k,a,rfl,R,ha,q⟩:=h
 have nd:=fz.nd
 refine ⟨_,(Zd (aH (sV (WV zC jg Zj (pv 1) (Zl (K:=K) rfl (pv 0) rfl))) (Zh pW) Zu)
   (Zh (Zt (az (Zq (K:=K) rfl) (Zl (K:=K) rfl (pv 0) rfl) (pv 1) (λ_ _=>rfl))))),?_⟩
 obtain ⟨dx,h1⟩:=R.ob
 have hk:k<A.as.length:=(a7Y.mp ha).1
 refine ⟨_,rfl,_,_,rfl,rfl,_,rfl,fT (an3 (by lia)) ⟨_,rfl,A.p,_,dx,_,_,rfl,h1,T.aN,T.oZ,qL ..,_,_,rfl,rfl,_,rfl,cW (by rw [an3 (by lia)]; rfl) ?_⟩⟩
 exact ⟨_,rfl,A.p,_,dx,_,_,rfl,h1,T.aN,T.nR,ZO ..,_,rfl,A.ss,_,_,_,rfl,rfl,aF.of R.ss,af.ix ha,q⟩
def jZ (g:aK) (st:ao) (k:Nat) (b:Int):List Int:=if k=g.n then bg g.size st.mem b else (st.at_ k).wd b
def IE (K:W.Frag):Sp:=λvs H Q _=>∃ (A:TA) (g:aK) (st:ao) (os:OS) (n k:Nat) (b:Int),vs=[.ref A.p,.int (k:Int),.int b]/\af K H A g st os n/\k<=g.n/\(k<g.n->b∈(st.at_ k).seq)/\0<=b/\b<=1000000/\∀ l H',H l=none->aB H H'->H' l=some (.lst ((jZ g st k b).map V.int))->Q (.ref l) H'
theorem Zfq (F:aZ K "words" "Steps.words" JM f fd) (T:Txt K mg) (EH:av P w K mg base (aa K "Memory") "words_of" 2 KO (Oi K)) (xG:av P w K mg base (aa K "Stairs") "store" 1 Eg (IF K)) (se:av P w K mg base (aa K "Store") "words_of" 3 ZM (D3 K)):au P w K mg base aW 4 f fd Eh (IE K):=by
 refine F.ok fq (λvs H Q E h=>?_) (λcdv A outer s0 H vs Q E hr h=>?_)
 .obtain ⟨A,g,st,os,n,k,b,rfl,_⟩:=h
  rfl
 obtain ⟨A,g,st,os,n,k,b,rfl,R,hk,hb,b0,b1,q⟩:=h
 have nd:=fq.nd
 refine ⟨_,(Zd (aH (Zv aY (pv 1) (Zl (K:=K) rfl (pv 0) rfl) (Zw _)) (Zh (Zt (Zk EH hr.m T.pU (Zl (K:=K) rfl (pv 0) rfl) (pc (pv 2) Zb)))) Zu)
   (Zh (Zt (Zk se hr.m T.gk (Zk xG hr.m T.aN (pv 0) (pc (pv 1) Zb)) (pc (pv 2) Zb))))),?_⟩
 obtain ⟨dx,h1⟩:=R.ob
 obtain ⟨dm,h2⟩:=R.mem.ob
 have ln:=R.ln
 unfold jZ at q
 refine ⟨_,rfl,_,rfl,A.p,_,dx,_,_,rfl,h1,T.aN,T.oZ,qL ..,rfl,_,rfl,ym (λe=>?_) (λe=>?_)⟩
 .rw [ajr (by lia)] at q
  exact ⟨_,rfl,A.p,_,dx,_,_,rfl,h1,T.aN,T.BX,IZ ..,A.bm,dm,_,rfl,h2,qh ..,_,rfl,A.bm,A.dk,g.size,b,st.mem,g.U,rfl,R.mem,by have:=R.wf.z0; lia,R.wf.z1,b0,b1,q⟩
 .rw [aBJ (by lia)] at q
  obtain ⟨a,e1,e2,e3,B⟩:=R.at_ (k:=k) (by lia)
  obtain ⟨ds,h3⟩:=B.bf.ob
  exact ⟨_,rfl,A.p,dx,_,rfl,h1,aA ..,_,rfl,A,g,st,os,n,k,a,rfl,R,e1,a.sp,ds,_,rfl,h3,cX ..,_,rfl,a,_,_,_,b,rfl,B,hb (by lia),λl hl=>q l _ hl (Zg hl _) Za⟩
def D8 (K:W.Frag):Sp:=λvs H Q _=>∃ (A:TA) (g:aK) (st:ao) (os:OS) (n:Nat),vs=[.ref A.p]/\af K H A g st os n/\∀ e' H',af K H' (A.re e') g (mT st) os 0->qY g.n H' A.ev st.ev->¬ OW (A.re e') os A.ev->bI (OW A os) H H' (OW (A.re e') os)->Q (.ref A.ev) H'
theorem ZdV (F:aZ K "happened" "Steps.happened" KD f fd) (T:Txt K mg):au P w K mg base aW 1 f fd ZN (D8 K):=by
 refine F.ok cL (λvs H Q E h=>?_) (λcdv A outer s0 H vs Q E hr h=>?_)
 .obtain ⟨A,g,st,os,n,rfl,_⟩:=h
  rfl
 obtain ⟨A,g,st,os,n,rfl,R,q⟩:=h
 have nd:=cL.nd
 refine ⟨_,(Zd (cF 1 nd (Zl (K:=K) rfl (pv 0) rfl))
   (Zd (kN (pv 0) (mh Zb) rfl)
   (Zh (Zt (pv 1))))),?_⟩
 obtain ⟨dx,h1⟩:=R.ob
 refine ⟨_,rfl,A.p,_,dx,_,_,rfl,h1,T.aN,T.vh,Bg ..,gN ?_⟩
 try dsimp only
 refine ⟨(sl 0),λe' he=>⟨_,rfl,A.p,_,dx,_,rfl,Zg he _ _ _ h1,T.aN,T.vh,(by rw [Jl]; show 6<1000; decide),?_⟩⟩
 rw [UU]
 have off:∀ {x o},H x=some o->x≠A.p->upd (upd H e' (.lst [])) A.p (.ins (aa K "Stairs") dx (bu g.size A.ss A.bm A.as.length e' g.kind)) x=some o:=λ{x o} q z=>by rw [Zc z]; exact Zg he _ _ _ q
 have np:∀ {x o},H x=some o->(∀ C d f,o≠.ins C d f)->x≠A.p:=λ{x o} q m z=>by rw [z,h1] at q; exact m _ _ _ (aGB q).symm
 obtain ⟨v0,ts,v1,v2,v3⟩:=R.ev
 have Sj:A.ev≠e':=Ze v1 he
 refine ⟨_,rfl,q e' _ (R.told he) ⟨v0,ts,off v1 (np v1 (λ_ _ _ z=>by cases z)),v2,λi t e a b=>off (v3 i t e a b) (np (v3 i t e a b) (λ_ _ _ z=>by cases z))⟩ (λz=>?_) ⟨λx o e m=>off e λz=>?_,λx h=>?_⟩⟩
 .rcases z with z | ⟨k,hk,z⟩
  .obtain ⟨dm,h2⟩:=R.mem.ob
   obtain ⟨kv,h3,_⟩:=R.mem.kept
   rcases z with z | z | z | z | z
   .exact np v1 (λ_ _ _ z=>by cases z) z
   .exact R.vt z.symm
   .rw [show (A.re e').bm=A.bm from rfl] at z
    rw [z,h2] at v1; cases v1
   .rw [show (A.re e').dk=A.dk from rfl] at z
    rw [z,h3] at v1; cases v1
   .exact Sj z
  .exact R.off k hk _ z (by simp [Bs])
 .rw [z,h1] at e
  cases e
  exact m (.inl (.inl z)) trivial
 .rcases h with h | h
  .rcases h with h | h | h | h | h
   .exact .inl (.inl (.inl h))
   .exact .inl (.inl (.inr (.inl h)))
   .exact .inl (.inl (.inr (.inr (.inl h))))
   .exact .inl (.inl (.inr (.inr (.inr (.inl h)))))
   .exact .inr (by rw [h]; exact he)
  .exact .inl (.inr h)
def Dk (K:W.Frag):Sp:=λvs H Q _=>∃ (A:TA) (g:aK) (st:ao) (os:OS) (n k:Nat) (b:Int),vs=[.ref A.p,.int (k:Int),.int b]/\af K H A g st os n/\k<g.n/\∀ H',aB H H'->gm (g.cf k).ru (st.at_ k).us (g.cf k).pl (Zn (g.cf k).sh (b % (g.cf k).sh) (st.at_ k).seq) (eS (g.cf k) (st.at_ k) b)->Q (qc (eS (g.cf k) (st.at_ k) b)) H'
theorem ZeZ (F:aZ K "leaver" "Steps.leaver" Ke f fd) (T:Txt K mg) (xC:av P w K mg base (aa K "Room") "leaver_for" 3 Ep (IG K)):au P w K mg base aW 4 f fd Bv (Dk K):=by
 refine F.ok d9 (λvs H Q E h=>?_) (λcdv A outer s0 H vs Q E hr h=>?_)
 .obtain ⟨A,g,st,os,n,k,b,rfl,_⟩:=h
  rfl
 obtain ⟨A,g,st,os,n,k,b,rfl,R,hk,q⟩:=h
 have nd:=d9.nd
 refine ⟨_,(Zh (Zt (Zk xC hr.m T.fS (Zl (K:=K) rfl (az (Zq (K:=K) rfl) (Zl (K:=K) rfl (pv 0) rfl) (pv 1) (λ_ _=>rfl)) rfl) (pc (pv 2) Zb)))),?_⟩
 obtain ⟨dx,h1⟩:=R.ob
 have ln:=R.ln
 obtain ⟨a,e1,e2,e3,B⟩:=R.at_ (k:=k) (by lia)
 obtain ⟨u1,u2,u3,u4,u5,u6⟩:=R.lM (k:=k) (by lia)
 obtain ⟨ds,h3⟩:=B.bf.ob
 obtain ⟨dr,h4⟩:=B.bf.room.ob
 have fl:=u3 (b % (g.cf k).sh)
 refine ⟨_,rfl,A.p,_,dx,_,_,rfl,h1,T.aN,T.nR,ZO ..,_,rfl,A.ss,_,_,_,rfl,rfl,aF.of R.ss,af.ix e1,a.sp,_,ds,_,_,rfl,h3,T.gk,T.uc,wJ ..,a.rp,dr,_,rfl,h4,bO ..,_,rfl,a.rp,b,(g.cf k).sh,(g.cf k).pl,(g.cf k).ru,a.ls,a.aq,a.du,(st.at_ k).seq,(st.at_ k).us,_,rfl,B.bf.room,R.tb,u4,by lia,λgone H' gp sm=>?_⟩
 have e:=W4 (s:=st.at_ k) gp
 have q':=q H' sm (by rw [e]; exact gp)
 rw [e] at q'
 exact q'
def MS (K:W.Frag):Sp:=λvs H Q _=>∃ (A:TA) (g:aK) (st:ao) (os:OS) (n k:Nat),vs=[.ref A.p,.int (k:Int)]/\af K H A g st os n/\k<=g.n/\n<=900000/\Res K H A g os (st.tell (eF k)) (n+1) (Q .aR)
theorem big {n m:Nat} (h:n<=m) (hm:m<=900000):n<sizeLine:=axD (awv h hm) (by decide)
theorem Zdd (F:aZ K "tell_found" "Steps.tell_found" Ko f fd) (T:Txt K mg):au P w K mg base aW 1 f fd Kn (MS K):=by
 refine F.ok bZ (λvs H Q E h=>?_) (λcdv A outer s0 H vs Q E hr h=>?_)
 .obtain ⟨A,g,st,os,n,k,rfl,_⟩:=h
  rfl
 obtain ⟨A,g,st,os,n,k,rfl,R,Tw,hl,q⟩:=h
 have nd:=bZ.nd
 refine ⟨_,(Zh (Zo (uS (K:=K) rfl (iM aA6 a3u aDM wM (Zl (K:=K) rfl (pv 0) rfl) (pc (j4 (pc j5 (pc (pv 1) Zb))) Zb))))),?_⟩
 obtain ⟨dx,h1⟩:=R.ob
 obtain ⟨_,EW,v1,_⟩:=R.ev
 refine ⟨_,rfl,A.p,_,dx,_,_,rfl,h1,T.aN,T.vh,Bg ..,.inl ⟨rfl,_,aF.of v1⟩,_,rfl,(sl 2),λt ht=>?_⟩
 obtain ⟨ts,w1,w2,R2,p2⟩:=R.event (eF k) (.inl ⟨k,Tw,rfl⟩) ht
 exact ⟨A.ev,_,_,rfl,rfl,Zg ht _ _ _ w1,big (by rw [afy]; exact w2) hl,q _ _ R2 p2⟩
def Ib (K:W.Frag):Sp:=λvs H Q _=>∃ (A:TA) (g:aK) (st:ao) (os:OS) (n k:Nat) (b:Int),vs=[.ref A.p,.int (k:Int),.int b]/\af K H A g st os n/\k<g.n/\b∈(st.at_ k).seq/\Res K H A g os (st.set k (kR (g.cf k) (st.at_ k) b)) n (Q .aR)
theorem Zfa (F:aZ K "use_in" "Steps.use_in" Kd f fd) (T:Txt K mg) (F5:av P w K mg base (aa K "Room") "use" 3 Jq (tU K)):au P w K mg base aW 4 f fd Es (Ib K):=by
 refine F.ok d7 (λvs H Q E h=>?_) (λcdv A outer s0 H vs Q E hr h=>?_)
 .obtain ⟨A,g,st,os,n,k,b,rfl,_⟩:=h
  rfl
 obtain ⟨A,g,st,os,n,k,b,rfl,R,hk,hb,q⟩:=h
 have nd:=d7.nd
 refine ⟨_,(Zh (Zo (Zk F5 hr.m T.fS (Zl (K:=K) rfl (az (Zq (K:=K) rfl) (Zl (K:=K) rfl (pv 0) rfl) (pv 1) (λ_ _=>rfl)) rfl) (pc (pv 2) Zb)))),?_⟩
 obtain ⟨dx,h1⟩:=R.ob
 have ln:=R.ln
 obtain ⟨a,e1,e2,e3,B⟩:=R.at_ (k:=k) (by lia)
 obtain ⟨u1,u2,u3,u4,u5,u6⟩:=R.lM (k:=k) (by lia)
 obtain ⟨ds,h3⟩:=B.bf.ob
 obtain ⟨dr,h4⟩:=B.bf.room.ob
 refine ⟨_,rfl,A.p,_,dx,_,_,rfl,h1,T.aN,T.nR,ZO ..,_,rfl,A.ss,_,_,_,rfl,rfl,aF.of R.ss,af.ix e1,a.sp,_,ds,_,_,rfl,h3,T.gk,T.uc,wJ ..,a.rp,dr,_,rfl,h4,bO ..,_,rfl,a.rp,b,(g.cf k).sh,(g.cf k).pl,(g.cf k).ru,a.ls,a.aq,a.du,(st.at_ k).seq,(st.at_ k).us,_,rfl,B.bf.room,by lia,hb,by lia,λH' R1 r1=>?_⟩
 have um:=λx=>(wK (c:=g.cf k) hb).mem_iff (a:=x)
 obtain ⟨R2,p2⟩:=R.iy e1 e2 (B.iy R1 r1 um) (B.bf.cF r1) (λx hx=>u2 x ((um x).mp hx)) (Xr u3 (wK (c:=g.cf k) hb))
 exact q H' _ R2 p2
def ID (K:W.Frag):Sp:=λvs H Q _=>∃ (A:TA) (g:aK) (st:ao) (os:OS) (n k:Nat) (b:Int) (lw:Addr) (ws:List Int),vs=[.ref A.p,.int (k:Int),.int b,.ref lw]/\af K H A g st os n/\k<g.n/\b∉(st.at_ k).seq/\b∈g.U/\((Zn (g.cf k).sh (b % (g.cf k).sh) (st.at_ k).seq).length:Int)<(g.cf k).pl/\H lw=some (.lst (ws.map V.int))/\¬ OW A os lw/\ws.length=g.size.toNat/\n<=900000/\Res K H A g os (bJ k b ws st) (n+1) (Q .aR)
theorem Zeo (F:aZ K "come_in" "Steps.come_in" J3 f fd) (T:Txt K mg) (EC:av P w K mg base (aa K "Store") "take_in" 5 J5 (Ol K)):au P w K mg base aW 6 f fd Em (ID K):=by
 refine F.ok dw (λvs H Q E h=>?_) (λcdv A outer s0 H vs Q E hr h=>?_)
 .obtain ⟨A,g,st,os,n,k,b,lw,ws,rfl,_⟩:=h
  rfl
 obtain ⟨A,g,st,os,n,k,b,lw,ws,rfl,R,hk,hb,Me,hsh,jD,nO,kE,hl,q⟩:=h
 have nd:=dw.nd
 refine ⟨_,(Zd (Zo (Zk EC hr.m T.gk (az (Zq (K:=K) rfl) (Zl (K:=K) rfl (pv 0) rfl) (pv 1) (λ_ _=>rfl)) (pc (pv 2) (pc (pv 3) Zb))))
   (Zh (Zo (uS (K:=K) rfl (iM aA6 a3u aDM wM (Zl (K:=K) rfl (pv 0) rfl) (pc (j4 (pc j5 (pc (pv 1) (pc (pv 2) Zb)))) Zb)))))),?_⟩
 obtain ⟨dx,h1⟩:=R.ob
 have ln:=R.ln
 obtain ⟨a,e1,e2,e3,B⟩:=R.at_ (k:=k) (by lia)
 obtain ⟨u1,u2,u3,u4,u5,u6⟩:=R.lM (k:=k) (by lia)
 obtain ⟨ds,h3⟩:=B.bf.ob
 refine ⟨_,rfl,A.p,_,dx,_,_,rfl,h1,T.aN,T.nR,ZO ..,_,rfl,A.ss,_,_,_,rfl,rfl,aF.of R.ss,af.ix e1,a.sp,ds,_,rfl,h3,cX ..,_,rfl,_,rfl,a,_,_,_,b,lw,ws,rfl,B,R.tb,jD,(λz=>nO (.inr ⟨k,by lia,z⟩)),hb,u1,u4,u5,hsh,λH1 O1 B1 p1=>?_⟩
 obtain ⟨R2,p2⟩:=R.iy e1 e2 B1 p1 (λx hx=>by
  show x∈g.U/\(if x=b then ws else (st.at_ k).wd x).length=_
  by_cases z:x=b
  .rw [ajr z,z]; exact ⟨Me,kE⟩
  .rw [aBJ z]
   exact u2 x ((aPD.mp hx).resolve_right λm=>z (ai5.mp m))) (Vu u3 hsh)
 obtain ⟨i6,g2⟩:=R2.ob
 obtain ⟨_,EW,v1,_⟩:=R2.ev
 refine ⟨_,rfl,A.p,_,i6,_,_,rfl,g2,T.aN,T.vh,Bg ..,.inl ⟨rfl,_,aF.of v1⟩,_,rfl,_,rfl,(sl 3),λt ht=>?_⟩
 obtain ⟨ts,w1,w2,R4,p4⟩:=R2.event (eI k b) (.inr (.inl ⟨k,b,⟨hk,R.wf.ub b Me⟩,.inl rfl⟩)) ht
 exact ⟨A.ev,_,_,rfl,rfl,Zg ht _ _ _ w1,big (by rw [afy]; exact w2) hl,q _ _ R4 (p2.trans p4)⟩
def yi (K:W.Frag):Sp:=λvs H Q _=>∃ (A:TA) (g:aK) (st:ao) (os:OS) (n k:Nat) (b:Int),vs=[.ref A.p,.int (k:Int),.int b]/\af K H A g st os n/\k<g.n/\b∈(st.at_ k).seq/\n<=900000 /\
 ∀ H' os' t l,H' t=some (.tup [.ref l,.bl ((st.at_ k).fr b)])->H' l=some (.lst (((st.at_ k).wd b).map V.int))->¬ OW A os' l->af K H' A g (cR k b st) os' (n+1)->bI (OW A os) H H' (OW A os')->Q (.ref t) H'
theorem Zfb (F:aZ K "go_out" "Steps.go_out" Kc f fd) (T:Txt K mg) (EG:av P w K mg base (aa K "Store") "give_out" 4 KL (Pg K)):au P w K mg base aW 5 f fd ZE (yi K):=by
 refine F.ok ef (λvs H Q E h=>?_) (λcdv A outer s0 H vs Q E hr h=>?_)
 .obtain ⟨A,g,st,os,n,k,b,rfl,_⟩:=h
  rfl
 obtain ⟨A,g,st,os,n,k,b,rfl,R,hk,hb,hl,q⟩:=h
 have nd:=ef.nd
 refine ⟨_,(Zd (Zo (uS (K:=K) rfl (iM aA6 a3u aDM wM (Zl (K:=K) rfl (pv 0) rfl) (pc (j4 (pc j5 (pc (pv 1) (pc (pv 2) Zb)))) Zb))))
   (Zh (Zt (Zk EG hr.m T.gk (az (Zq (K:=K) rfl) (Zl (K:=K) rfl (pv 0) rfl) (pv 1) (λ_ _=>rfl)) (pc (pv 2) Zb))))),?_⟩
 obtain ⟨dx,h1⟩:=R.ob
 obtain ⟨_,EW,v1,_⟩:=R.ev
 have ln:=R.ln
 refine ⟨_,rfl,A.p,_,dx,_,_,rfl,h1,T.aN,T.vh,Bg ..,.inl ⟨rfl,_,aF.of v1⟩,_,rfl,_,rfl,(sl 3),λt ht=>?_⟩
 obtain ⟨ts,w1,w2,R4,p4⟩:=R.event [.str "out",.int (k:Int),.int b] (.inr (.inl ⟨k,b,⟨hk,R.wf.ub b ((R.lM (k:=k) (by lia)).2.1 b hb).1⟩,.inr rfl⟩)) ht
 refine ⟨A.ev,_,_,rfl,rfl,Zg ht _ _ _ w1,big (by rw [afy]; exact w2) hl,?_⟩
 generalize upd (upd H t (.tup [.str "out",.int (k:Int),.int b])) A.ev (.lst (ts.map V.ref++[.ref t]))=H4 at *
 obtain ⟨Ax,g4⟩:=R4.ob
 obtain ⟨a,e1,e2,e3,B⟩:=R4.at_ (k:=k) (by lia)
 obtain ⟨u1,u2,u3,u4,u5,u6⟩:=R4.lM (k:=k) (by lia)
 obtain ⟨ds,h3⟩:=B.bf.ob
 refine ⟨_,rfl,A.p,_,Ax,_,_,rfl,g4,T.aN,T.nR,ZO ..,_,rfl,A.ss,_,_,_,rfl,rfl,aF.of R4.ss,af.ix e1,a.sp,ds,_,rfl,h3,cX ..,_,rfl,a,_,_,_,b,rfl,B,hb,λt2 l H5 O5 et el nl B' p5 own=>?_⟩
 obtain ⟨R5,p6⟩:=R4.iy e1 e2 B' p5 (λx hx=>u2 x (ak3 hx)) (Xs u3 List.erase_sublist)
 refine q H5 _ t2 l et el (λz=>?_) R5 (p4.trans p6)
 rcases z with z | ⟨j,hj,z⟩
 .rcases own with o | o
  .exact R4.off k (by lia) l o z
  .exact R4.ex l (.inl z) o
 .unfold OS.set at z
  by_cases e:j=k
  .rw [ajr e] at z; exact nl z
  .rw [aBJ e] at z
   rcases own with o | o
   .exact R4.n5 j k hj (by lia) e l z o
   .exact R4.ex l (.inr ⟨j,hj,z⟩) o
end
section
variable {K:W.Frag} {H H':Hp} {A:TA} {g:aK} {st:ao} {os:OS} {n:Nat}
theorem af.FN {mem':Int->Int} (T:af K H A g st os n) (M:dR K H' A.bm A.dk g.size mem' g.U) (f:∀ x o,H x=some o->x≠A.dk->H' x=some o):af K H' A g { st with mem:=mem' } os n/\bI (OW A os) H H' (OW A os):=by
 obtain ⟨dx,h1⟩:=T.ob
 obtain ⟨kv,h2,_⟩:=T.mem.kept
 have nk:∀ {x o},H x=some o->(∀ k,o≠.dK k)->H' x=some o:=λ{x o} q m=>f x o q λz=>by rw [z,h2] at q; exact m _ (aGB q).symm
 refine ⟨⟨⟨dx,nk h1 (λ_ z=>by cases z)⟩,nk T.ss (λ_ z=>by cases z),M,T.ev.frame (λo e=>?_) (λx ys e=>nk e (λ_ z=>by cases z)),T.sP,T.lc,T.lS,λk a c s q1 q2 q3=>(T.bf k a c s q1 q2 q3).frame λx o h q=>f x o q λz=>T.off k (a7Y.mp q1).1 x h (by simp [Bs,z]),T.off,T.n5,T.vt,T.nV,T.rP,T.full,T.wl,T.wf,nk T.tb (λ_ z=>by cases z)⟩,⟨λx o e m=>f x o e λz=>?_,λx h=>.inl h⟩⟩
 .obtain ⟨_,ts,v,_⟩:=T.ev
  rw [v] at e; cases e
  exact nk v (λ_ z=>by cases z)
 .rw [z,h2] at e
  cases e
  exact m (.inl (by simp [Bs,z])) trivial
end
section
def ny (K:W.Frag):Sp:=λvs H Q _=>∃ (A:TA) (g:aK) (st:ao) (os:OS) (n k:Nat) (b:Int) (lw:Addr) (ws:List Int),vs=[.ref A.p,.int (k:Int),.int b,.ref lw]/\af K H A g st os n/\k<=g.n/\(k<g.n->b∈(st.at_ k).seq)/\b∈g.U/\H lw=some (.lst (ws.map V.int))/\¬ OW A os lw/\ws.length=g.size.toNat/\n<=900000/\Res K H A g os (dB g k b ws st) (n+1) (Q .aR)
theorem YC (F:aZ K "put" "Steps.put" JR f fd) (T:Txt K mg) (EM:av P w K mg base (aa K "Memory") "lay" 2 JA (MT K)) (xh:av P w K mg base (aa K "Store") "lay" 1 D7 (pK K)):au P w K mg base aW 3 f fd Bk (ny K):=by
 refine F.ok gQ (λvs H Q E h=>?_) (λcdv A outer s0 H vs Q E hr h=>?_)
 .obtain ⟨A,g,st,os,n,k,b,lw,ws,rfl,_⟩:=h
  rfl
 obtain ⟨A,g,st,os,n,k,b,lw,ws,rfl,R,hk,hb,bU,jD,nO,kE,hl,q⟩:=h
 have nd:=gQ.nd
 refine ⟨_,(Zd (aH (Zv aY (pv 1) (Zl (K:=K) rfl (pv 0) rfl) (Zw _)) (Zh (Zo (Zk EM hr.m T.pU (Zl (K:=K) rfl (pv 0) rfl) (pc (pv 2) (pc (pv 3) Zb))))) (Zh (Zo (Zk xh hr.m T.gk (az (Zq (K:=K) rfl) (Zl (K:=K) rfl (pv 0) rfl) (pv 1) (λ_ _=>rfl)) (pc (pv 2) (pc (pv 3) Zb))))))
   (Zh (Zo (uS (K:=K) rfl (iM aA6 a3u aDM wM (Zl (K:=K) rfl (pv 0) rfl) (pc (j4 (pc j5 (pc (pv 1) (pc (pv 2) Zb)))) Zb)))))),?_⟩
 obtain ⟨dx,h1⟩:=R.ob
 have ln:=R.ln
 refine x9 (λσ G=>σ=[some (.ref A.p),some (.int (k:Int)),some (.int b),some (.ref lw)]/\∃ os',af K G A g (if k=g.n then { st with mem:=lB g.size st.mem b ws } else st.set k (fW (st.at_ k) b ws)) os' n/\bI (OW A os) H G (OW A os')) (λD' _ k'=>?_) ?_
 .refine ⟨_,rfl,_,rfl,A.p,_,dx,_,_,rfl,h1,T.aN,T.oZ,qL ..,rfl,_,rfl,ym (λe=>?_) (λe=>?_)⟩
  .obtain ⟨dm,h2⟩:=R.mem.ob
   have z0:=R.wf.z0
   obtain ⟨b0,b1⟩:=R.wf.ub b bU
   refine ⟨_,rfl,A.p,_,dx,_,_,rfl,h1,T.aN,T.BX,IZ ..,A.bm,dm,_,rfl,h2,qh ..,_,rfl,_,rfl,A.bm,A.dk,g.size,b,st.mem,g.U,lw,ws,rfl,R.mem,by lia,R.wf.z1,b0,b1,bU,R.wf.lU,jD,kE,λH1 M1 f1=>?_⟩
   obtain ⟨R1,p1⟩:=R.FN M1 f1
   rw [ajr (by lia)] at k'
   exact k' _ _ ⟨rfl,_,R1,p1⟩
  .obtain ⟨a,e1,e2,e3,B⟩:=R.at_ (k:=k) (by lia)
   obtain ⟨u1,u2,u3,u4,u5,u6⟩:=R.lM (k:=k) (by lia)
   obtain ⟨ds,kvs,h3,h4,h5,h6⟩:=B.lay (hb (by lia)) ws (Q:=D'.nx [some (.ref A.p),some (.int (k:Int)),some (.int b),some (.ref lw)]) (λH' O' B' p'=>by
    obtain ⟨R1,p1⟩:=R.iy e1 e2 B' p' (λx hx=>by
     show x∈g.U/\(if x=b then ws else (st.at_ k).wd x).length=_
     by_cases z:x=b
     .rw [ajr z,z]; exact ⟨bU,kE⟩
     .rw [aBJ z]; exact u2 x hx) u3
    rw [aBJ (by lia)] at k'
    exact k' _ _ ⟨rfl,_,R1,p1⟩)
   exact ⟨_,rfl,A.p,_,dx,_,_,rfl,h1,T.aN,T.nR,ZO ..,_,rfl,A.ss,_,_,_,rfl,rfl,aF.of R.ss,af.ix e1,a.sp,ds,_,rfl,h3,cX ..,_,rfl,_,rfl,a.sp,ds,a.rp,a.dh,a.df,(g.cf k).late,kvs,b,lw,_,rfl,h3,h4,by lia,jD,h6⟩
 rintro _ G ⟨rfl,aX,R2,p2⟩
 obtain ⟨i6,g2⟩:=R2.ob
 obtain ⟨_,EW,v1,_⟩:=R2.ev
 refine ⟨_,rfl,A.p,_,i6,_,_,rfl,g2,T.aN,T.vh,Bg ..,.inl ⟨rfl,_,aF.of v1⟩,_,rfl,_,rfl,(sl 3),λt ht=>?_⟩
 obtain ⟨ts,w1,w2,R4,p4⟩:=R2.event (eW k b) (.inr (.inr ⟨k,b,⟨hk,R.wf.ub b bU⟩,rfl⟩)) ht
 refine ⟨A.ev,_,_,rfl,rfl,Zg ht _ _ _ w1,big (by rw [afy]; exact w2) hl,q _ _ ?_ (p2.trans p4)⟩
 unfold dB
 by_cases c:k=g.n
 .rw [ajr c] at R4 ⊢; exact R4
 .rw [aBJ c] at R4 ⊢; exact R4
def kQ (g:aK) (s:Rm) (sp:Int):Int:=(s.wd (sp / g.size)).getD (sp % g.size).toNat 0
def Oh (K:W.Frag):Sp:=λvs H Q _=>∃ (A:TA) (g:aK) (st:ao) (os:OS) (n k:Nat) (sp:Int),vs=[.ref A.p,.int (k:Int),.int sp]/\af K H A g st os n/\k<g.n/\sp / g.size∈(st.at_ k).seq/\∀ H',aB H H'->Q (.int (kQ g (st.at_ k) sp)) H'
theorem AM {ws:List Int} {m:Nat} {i:Int} (l:ws.length=m) (h0:0<=i) (h1:i<m):fX (ws.map V.int) i=some (.int (ws.getD i.toNat 0)):=by
 have e:(i.toNat:Int)=i:=by lia
 have hi:i.toNat<ws.length:=by lia
 have q:fX (ws.map V.int) (i.toNat:Int)=some (.int (ws.getD i.toNat 0)):=qN (by
  rw [aC3,aXu,adk hi]; rfl)
 rw [e] at q
 exact q
theorem Zep (F:aZ K "word_in" "Steps.word_in" J2 f fd) (T:Txt K mg) (se:av P w K mg base (aa K "Store") "words_of" 3 ZM (D3 K)) (oW:Def P w K mg base "board_of" 1 yw AX):au P w K mg base aW 4 f fd JZ (Oh K):=by
 refine F.ok dg (λvs H Q E h=>?_) (λcdv A outer s0 H vs Q E hr h=>?_)
 .obtain ⟨A,g,st,os,n,k,sp,rfl,_⟩:=h
  rfl
 obtain ⟨A,g,st,os,n,k,sp,rfl,R,hk,hb,q⟩:=h
 have nd:=dg.nd
 refine ⟨_,(Zh (Zt (az (Zq (K:=K) rfl) (Zk se hr.m T.gk (az (Zq (K:=K) rfl) (Zl (K:=K) rfl (pv 0) rfl) (pv 1) (λ_ _=>rfl)) (pc (Zm oW hr.m rfl (pc (Zl (K:=K) rfl (pv 0) rfl) (pc (pv 2) Zb))) Zb)) (ak oJ (pv 2) (Zl (K:=K) rfl (pv 0) rfl)) (λ_ _=>rfl)))),?_⟩
 obtain ⟨dx,h1⟩:=R.ob
 have ln:=R.ln
 obtain ⟨a,e1,e2,e3,B⟩:=R.at_ (k:=k) (by lia)
 obtain ⟨u1,u2,u3,u4,u5,u6⟩:=R.lM (k:=k) (by lia)
 obtain ⟨ds,h3⟩:=B.bf.ob
 have z0:=R.wf.z0
 have z1:=R.wf.z1
 refine ⟨_,rfl,A.p,_,dx,_,_,rfl,h1,T.aN,T.nR,ZO ..,_,rfl,A.ss,_,_,_,rfl,rfl,aF.of R.ss,af.ix e1,a.sp,ds,_,rfl,h3,cX ..,_,rfl,A.p,_,dx,_,_,rfl,h1,T.aN,T.vm,yj ..,_,rfl,g.size,sp,rfl,by lia,by lia,a,_,_,_,_,rfl,B,hb,λl hl=>?_⟩
 have s1:=Zg hl (.lst (((st.at_ k).wd (sp / g.size)).map V.int))
 have m0:0<=sp % g.size:=a4n _ (by lia)
 have m1:sp % g.size<g.size:=aUj _ (by lia)
 exact ⟨_,rfl,_,rfl,A.p,_,dx,_,_,rfl,s1 _ _ h1,T.aN,T.vm,yj ..,_,_,rfl,rfl,(by show 0<g.size; lia),l,_,_,_,rfl,rfl,aF.of Za,AM (u2 _ hb).2 m0 (by lia),q _ s1⟩
def o7 (g:aK) (s:Rm) (sp x:Int):Rm:=fW s (sp / g.size) ((s.wd (sp / g.size)).set (sp % g.size).toNat x)
def Pe (K:W.Frag):Sp:=λvs H Q _=>∃ (A:TA) (g:aK) (st:ao) (os:OS) (n k:Nat) (sp x:Int),vs=[.ref A.p,.int (k:Int),.int sp,.int x]/\af K H A g st os n/\k<g.n/\sp / g.size∈(st.at_ k).seq/\Res K H A g os (st.set k (o7 g (st.at_ k) sp x)) n (Q .aR)
theorem ZdX (F:aZ K "put_word" "Steps.put_word" KC f fd) (T:Txt K mg) (EF:av P w K mg base (aa K "Store") "lay_word" 1 KG (Pf K)) (oW:Def P w K mg base "board_of" 1 yw AX):au P w K mg base aW 2 f fd KA (Pe K):=by
 refine F.ok cK (λvs H Q E h=>?_) (λcdv A outer s0 H vs Q E hr h=>?_)
 .obtain ⟨A,g,st,os,n,k,sp,x,rfl,_⟩:=h
  rfl
 obtain ⟨A,g,st,os,n,k,sp,x,rfl,R,hk,hb,q⟩:=h
 have nd:=cK.nd
 refine ⟨_,(Zh (Zo (Zk EF hr.m T.gk (az (Zq (K:=K) rfl) (Zl (K:=K) rfl (pv 0) rfl) (pv 1) (λ_ _=>rfl)) (pc (Zm oW hr.m rfl (pc (Zl (K:=K) rfl (pv 0) rfl) (pc (pv 2) Zb))) (pc (ak oJ (pv 2) (Zl (K:=K) rfl (pv 0) rfl)) (pc (pv 3) Zb)))))),?_⟩
 obtain ⟨dx,h1⟩:=R.ob
 have ln:=R.ln
 obtain ⟨a,e1,e2,e3,B⟩:=R.at_ (k:=k) (by lia)
 obtain ⟨u1,u2,u3,u4,u5,u6⟩:=R.lM (k:=k) (by lia)
 obtain ⟨ds,h3⟩:=B.bf.ob
 have z0:=R.wf.z0
 have z1:=R.wf.z1
 have m0:0<=sp % g.size:=a4n _ (by lia)
 have m1:sp % g.size<g.size:=aUj _ (by lia)
 have lw:=(u2 _ hb).2
 refine ⟨_,rfl,A.p,_,dx,_,_,rfl,h1,T.aN,T.nR,ZO ..,_,rfl,A.ss,_,_,_,rfl,rfl,aF.of R.ss,af.ix e1,a.sp,ds,_,rfl,h3,cX ..,_,rfl,A.p,_,dx,_,_,rfl,h1,T.aN,T.vm,yj ..,_,rfl,g.size,sp,rfl,by lia,by lia,_,rfl,_,rfl,A.p,_,dx,_,_,rfl,h1,T.aN,T.vm,yj ..,_,_,rfl,rfl,(by show 0<g.size; lia),_,rfl,a,_,_,_,_,_,x,rfl,B,hb,m0,by lia,λH1 B1 p1=>?_⟩
 obtain ⟨R1,p2⟩:=R.iy e1 e2 B1 p1 (λy hy=>by
  show y∈g.U/\(if y=sp / g.size then _ else (st.at_ k).wd y).length=_
  by_cases z:y=sp / g.size
  .rw [ajr z,akS,z]; exact u2 _ hb
  .rw [aBJ z]; exact u2 y hy) u3
 exact q _ _ R1 p2
end
def Wr (s:Str):Prop:=s = "late" \/ s = "through"
structure dX (K:W.Frag) (H:Hp) (tp:Addr) (ts:List Addr) (aT:List Cf):Prop where
 top:H tp=some (.tup (ts.map V.ref))
 len:ts.length=aT.length
 at_:∀ (i:Nat) (t:Addr) (c:Cf),ts[i]?=some t->aT[i]?=some c->∃ wr:Str,H t=some (.tup [.int c.sh,.int c.pl,.str c.ru,.str wr])/\c.late=decide (wr = "late")/\Wr wr
 cf:∀ c∈aT,1<=c.sh/\c.sh<=64/\1<=c.pl/\c.pl<=16/\tH c.ru
theorem dX.frame {K:W.Frag} {H H':Hp} {tp:Addr} {ts:List Addr} {aT:List Cf} (p:dX K H tp ts aT) (s:∀ x ys,H x=some (.tup ys)->H' x=some (.tup ys)):dX K H' tp ts aT :=
 ⟨s _ _ p.top,p.len,λi t c h1 h2=>by obtain ⟨wr,e1,e2⟩:=p.at_ i t c h1 h2; exact ⟨wr,s _ _ e1,e2⟩,p.cf⟩
theorem dX.same {K:W.Frag} {H H':Hp} {tp:Addr} {ts:List Addr} {aT:List Cf} (p:dX K H tp ts aT) (s:aB H H'):dX K H' tp ts aT :=
 ⟨s _ _ p.top,p.len,λi t c h1 h2=>by obtain ⟨wr,e1,e2⟩:=p.at_ i t c h1 h2; exact ⟨wr,s _ _ e1,e2⟩,p.cf⟩
def RB (size:Int) (ss bm:Addr) (last:Nat) (ev:Addr):List (Str×V):=ai "events" (.ref ev) (ai "last" (.int last) (ai "bottom" (.ref bm) (ai "stores" (.ref ss) (ai "size" (.int size) []))))
structure yF (K:W.Frag) (H G:Hp) (as:List SA) (aT:List Cf) (os:OS):Prop where
 at_:∀ (i:Nat) (a:SA) (c:Cf),as[i]?=some a->aT[i]?=some c->ay K G a c lT (os i)
 fr:∀ i,i<as.length->∀ x,os i x->H x=none
 n5:∀ i j,i<as.length->j<as.length->i≠j->∀ x,os i x->¬ os j x
theorem yF.frame {K:W.Frag} {H G G':Hp} {as:List SA} {aT:List Cf} {os:OS} {p:Addr} (m:yF K H G as aT os) (hp:H p≠none) (f:∀ x o,G x=some o->x≠p->G' x=some o):yF K H G' as aT os :=
 ⟨λi a c h1 h2=>(m.at_ i a c h1 h2).frame λx o h e=>f x o e λz=>hp (z ▸ m.fr i (a7Y.mp h1).1 x h),m.fr,m.n5⟩
theorem yF.ex {K:W.Frag} {H G:Hp} {as:List SA} {aT:List Cf} {os:OS} (m:yF K H G as aT os) (l:as.length<=aT.length) {i:Nat} (hi:i<as.length) {x:Addr} (h:os i x):G x≠none :=
 (m.at_ i _ _ (adk hi) (adk (a7q hi l))).bf.ex x h
def qP (n:Nat):ao:=⟨List.replicate n lT,λ_=>0,[]⟩
section
def Ia (K:W.Frag):Sp:=λvs H Q _=>∃ (p dx tp:Addr) (size:Int) (ts:List Addr) (aT:List Cf),vs=[.ref p,.int size,.ref tp]/\H p=some (.ins (aa K "Stairs") dx [])/\dX K H tp ts aT/\aT.length<=4/\Tb K H /\
 ∀ (A:TA) (os:OS) (H':Hp),A.p=p->H' p=some (.ins (aa K "Stairs") dx (RB size A.ss A.bm A.as.length A.ev))->(∀ kind U,WF ⟨size,kind,aT,U⟩->af K (upd H' p (.ins (aa K "Stairs") dx (bu size A.ss A.bm A.as.length A.ev kind))) A ⟨size,kind,aT,U⟩ (qP aT.length) os 0) ->
  (∀ x,OW A os x->x≠p->H x=none)->(∀ b o,H b=some o->b≠p->H' b=some o)->Q .aR H'
theorem YY (F:aZ K "__init__" "Steps.__init__" ZW f fd) (T:Txt K mg) (F0:oQ P w K mg base (aa K "Store") "Store" 3 JC (NV K)) (F2:oQ P w K mg base (aa K "Memory") "Memory" 1 JN (tV K)):au P w K mg base aW 5 f fd Bx (Ia K):=by
 refine F.ok gb (λvs H Q E h=>?_) (λcdv A outer s0 H vs Q E hr h=>?_)
 .obtain ⟨p,dx,tp,size,ts,aT,rfl,_⟩:=h
  rfl
 obtain ⟨p,dx,tp,size,ts,aT,rfl,hp,pa,l4,tb,k⟩:=h
 have nd:=gb.nd
 refine ⟨_,(Zd (kN (pv 0) (pv 1) rfl)
   (Zd (kN (pv 0) (wN (tE (jJ:=(Zi ZW)) (oN:=dY) (N:=["room_plan"]) (own:=1) (js:=[]) (by decide +kernel) rfl rfl) rfl (Wd (K:=K) rfl (pv 2)) (λ_ _ _ _ _ _=>(bQ 0 (show List.Nodup (["room_plan"]:List Str) by decide +kernel))) (λ_ _ _ _ _ _=>(Bb F0 hr.m rfl (pc (pv 0) Zb)))) rfl)
   (Zd (kN (pv 0) (Bb F2 hr.m rfl (pc (pv 1) Zb)) rfl)
   (Zd (kN (pv 0) (Zs (ZH (K:=K) rfl) rfl T.rO aYI (pc (Zl (K:=K) rfl (pv 0) rfl) Zb)) rfl)
   (Zh (kN (pv 0) (mh Zb) rfl)))))),?_⟩
 refine ⟨_,rfl,_,rfl,p,_,dx,_,rfl,hp,T.aN,T.vm,(by show 0<1000; decide),?_⟩
 have fu:∀ {G:Hp} {o':HO} x o,G x=some o->x≠p->upd G p o' x=some o:=λx o e n=>by rw [Zc n]; exact e
 have xT:H p≠none:=by rw [hp]; simp
 have nk:∀ {x o},H x=some o->(∀ C d f,o≠.ins C d f)->x≠p:=λ{x o} q m z=>by rw [z,hp] at q; exact m _ _ _ (aGB q).symm
 have e1:upd H p (.ins (aa K "Stairs") dx (ai "size" (.int size) [])) p=some (.ins (aa K "Stairs") dx (ai "size" (.int size) [])):=Za
 have f1:∀ x o,H x=some o->x≠p->upd H p (.ins (aa K "Stairs") dx (ai "size" (.int size) [])) x=some o:=fu
 have n1:∀ x,upd H p (.ins (aa K "Stairs") dx (ai "size" (.int size) [])) x=none->H x=none:=λx e=>by
  by_cases z:x=p
  .rw [z,Za] at e; cases e
  .rw [Zc z] at e; exact e
 generalize upd H p (.ins (aa K "Stairs") dx (ai "size" (.int size) []))=H1 at *
 have Fw:=pa.frame (H':=H1) λx ys e=>f1 x _ e (nk e (λ_ _ _ z=>by cases z))
 refine ⟨_,rfl,tp,rfl,⟨_,bB.of Fw.top⟩,λss hss=>?_⟩
 refine WI (K:=K) (a:=tp) (xs:=ts.map V.ref) (l:=ss) (λj ys σ G=>∃ (v0:Option V) (as:List SA) (os:OS),σ=[v0]/\ys=as.map (λa=>V.ref a.sp)/\as.length=j/\G ss=some (.lst ys)/\aB H1 G/\yF K H G as aT os/\∀ i,i<as.length->¬ os i ss)
  ⟨none,[],λ_ _=>False,rfl,rfl,rfl,Za,Zg hss _,⟨λi a c h=>by simp at h,λi h=>by simp at h,λi j h=>by simp at h⟩,λi h=>by simp at h⟩ (λj ys σ G _ ⟨_,_,_,_,_,_,_,s,_⟩=>bB.of (s _ _ Fw.top)) ?_ ?_
 .rintro j x ys σ G hj ur hys ⟨v0,as,os,rfl,rfl,hlen,g1,s1,mk,ns⟩
  rw [afy] at hj
  rw [aC3] at ur
  obtain ⟨t,et,rfl⟩:∃ t,ts[j]?=some t/\V.ref t=x:=by
   cases e:ts[j]? with
   | none=>rw [e] at ur; cases ur
   | some t=>rw [e] at ur; exact ⟨t,rfl,aGB ur⟩
  have L7:j<aT.length:=by rw [← pa.len]; exact hj
  have ec:aT[j]?=some aT[j]:=adk L7
  obtain ⟨wr,q1,q2,_⟩:=Fw.at_ j t _ et ec
  have cb:=pa.cf _ (a3i L7)
  have zm:=s1 _ _ q1
  refine ⟨_,rfl,λx wg hx hdx ne=>⟨x,wg,t,aT[j].sh,aT[j].pl,aT[j].ru,wr,rfl,Za,bB.of ?_,cb.1,cb.2.1,λa G1 ea S1 k2=>⟨rfl,?_⟩⟩⟩
  .rw [Zc (Ze zm hx),Zc (Ze zm hdx)]; exact zm
  have sG:aB G G1:=λy o e=>k2 y o (by rw [Zc (Ze e hx),Zc (Ze e hdx)]; exact e) (Ze e hx)
  have oB:∀ y,(y=x\/(upd (upd G wg (.own x)) x (.ins (aa K "Store") wg []) y=none/\G1 y≠none))->G y=none:=λy h=>by
   rcases h with h | h
   .rw [h]; exact hx
   .cases q:G y with
    | none=>rfl
    | some o=>have e:=h.1; rw [Zc (Ze q hx),Zc (Ze q hdx),q] at e; cases e
  rw [show (⟨aT[j].sh,aT[j].pl,aT[j].ru,decide (wr = "late")⟩:Cf)=aT[j] by rw [← q2]] at S1
  rw [show V.ref x=V.ref a.sp by rw [ea]]
  have C3:=sG _ _ g1
  have xP:as.length<=aT.length:=by lia
  obtain ⟨N,S1,oB⟩:∃ N:Addr->Prop,ay K G1 a aT[j] lT N/\∀ y,N y->G y=none:=⟨_,S1,oB⟩
  have nN:¬ N ss:=λh=>by have q:=oB ss h; rw [g1] at q; cases q
  have la:∀ {i:Nat} {b:SA},(as++[a])[i]?=some b->(i<as.length/\as[i]?=some b)\/(i=as.length/\b=a):=λ{i b} hb=>by
   by_cases hi:i<as.length
   .rw [aRC hi] at hb; exact .inl ⟨hi,hb⟩
   .have:=(a7Y.mp hb).1
    rw [ap5,aay] at this
    have hi2:i=as.length:=by lia
    subst hi2
    rw [aUi (a17 _),a1l] at hb
    cases hb
    exact .inr ⟨rfl,rfl⟩
  have os':∀ {i},i<as.length->(os.set as.length N) i=os i:=λ{i} h=>aBJ (by lia)
  have zB:(os.set as.length N) as.length=N:=ajr rfl
  have cs:∀ {i},i<(as++[a]).length->i<as.length\/i=as.length:=λ{i} h=>by rw [ap5,aay] at h; lia
  refine kP.of (aV2 (ZG (by rw [afy,pa.len]; lia))) (by rw [afy]; exact hj) hys C3 ⟨_,as++[a],os.set as.length N,rfl,by rw [aAZ]; rfl,by rw [ap5,hlen]; rfl,Za,λy o e=>?_,⟨λi b c hb hc=>?_,λi hi y hy=>?_,λi i' hi hi' nn y h1 h2=>?_⟩,λi hi=>?_⟩
  .rw [Zc (Ze e hss)]; exact sG _ _ (s1 _ _ e)
  .rcases la hb with ⟨hi,hb⟩ | ⟨hi,rfl⟩
   .rw [os' hi]
    exact (mk.at_ i b c hb hc).frame λy o h e=>by rw [Zc (λz:y=ss=>ns i hi (z ▸ h))]; exact sG _ _ e
   .subst hi
    rw [zB]
    rw [hlen,ec] at hc; cases hc
    exact S1.frame λy o h e=>by rw [Zc (λz:y=ss=>nN (z ▸ h))]; exact e
  .rcases cs hi with h | h
   .rw [os' h] at hy; exact mk.fr i h y hy
   .rw [h,zB] at hy; exact n1 _ (s1.free (oB y hy))
  .rcases cs hi with a1 | a1
   .rw [os' a1] at h1
    rcases cs hi' with a2 | a2
    .rw [os' a2] at h2; exact mk.n5 i i' a1 a2 nn y h1 h2
    .rw [a2,zB] at h2; exact mk.ex xP a1 h1 (oB y h2)
   .rw [a1,zB] at h1
    rcases cs hi' with a2 | a2
    .rw [os' a2] at h2; exact mk.ex xP a2 h2 (oB y h1)
    .exact nn (a1.trans a2.symm)
  .rcases cs hi with h | h
   .rw [os' h]; exact ns i h
   .rw [h,zB]; exact nN
 rintro ys σ G hys ⟨v0,as,os,rfl,rfl,hlen,g1,s1,mk,ns⟩
 rw [afy,pa.len] at hlen
 have hp2:=s1 _ _ e1
 have fG:∀ x o,H x=some o->x≠p->G x=some o:=λx o e n=>s1 _ _ (f1 x o e n)
 refine ⟨_,rfl,p,_,dx,_,rfl,hp2,T.aN,T.nR,(by show 1<1000; decide),?_⟩
 have Ct:ss≠p:=λz=>by rw [z,hp2] at g1; cases g1
 have e2:upd G p (.ins (aa K "Stairs") dx (ai "stores" (.ref ss) (ai "size" (.int size) []))) p=some (.ins (aa K "Stairs") dx (ai "stores" (.ref ss) (ai "size" (.int size) []))):=Za
 have f2:∀ x o,G x=some o->x≠p->upd G p (.ins (aa K "Stairs") dx (ai "stores" (.ref ss) (ai "size" (.int size) []))) x=some o:=fu
 generalize upd G p (.ins (aa K "Stairs") dx (ai "stores" (.ref ss) (ai "size" (.int size) [])))=H2 at *
 have mk2:=mk.frame xT f2
 refine ⟨_,rfl,λbm bx hbm Ma nbx=>⟨bm,bx,size,rfl,Za,λdk H3 M3 Mu k3=>⟨rfl,?_⟩⟩⟩
 have s3:aB H2 H3:=λy o e=>k3 y o (by rw [Zc (Ze e hbm),Zc (Ze e Ma)]; exact e) (Ze e hbm)
 have zM:H2 dk=none:=by
  cases q:H2 dk with
  | none=>rfl
  | some o=>rw [Zc (Ze q hbm),Zc (Ze q Ma),q] at Mu; cases Mu
 have e3:=s3 _ _ e2
 have nV:p≠bm:=Ze e2 hbm
 have FE:p≠dk:=Ze e2 zM
 refine ⟨_,rfl,p,_,dx,_,rfl,e3,T.aN,T.BX,(by show 2<1000; decide),?_⟩
 have e4:upd H3 p (.ins (aa K "Stairs") dx (ai "bottom" (.ref bm) (ai "stores" (.ref ss) (ai "size" (.int size) [])))) p=some (.ins (aa K "Stairs") dx (ai "bottom" (.ref bm) (ai "stores" (.ref ss) (ai "size" (.int size) [])))):=Za
 have f4:∀ x o,H3 x=some o->x≠p->upd H3 p (.ins (aa K "Stairs") dx (ai "bottom" (.ref bm) (ai "stores" (.ref ss) (ai "size" (.int size) [])))) x=some o:=fu
 generalize upd H3 p (.ins (aa K "Stairs") dx (ai "bottom" (.ref bm) (ai "stores" (.ref ss) (ai "size" (.int size) []))))=H4 at *
 have g4:=f4 _ _ (s3 _ _ (f2 _ _ g1 Ct)) Ct
 have SW:(ai "bottom" (.ref bm) (ai "stores" (.ref ss) (ai "size" (.int size) [])):List (Str×V)).lookup ("stores" : Str)=some (.ref ss):=by rw [Zf,aBJ (by decide +kernel),Zf,ajr rfl]
 refine ⟨_,rfl,p,_,dx,_,_,rfl,e4,T.aN,T.nR,SW,ss,_,rfl,.inl (aF.of g4),_,rfl,p,_,dx,_,rfl,e4,T.aN,T.oZ,(by show 3<1000; decide),?_⟩
 rw [afy]
 have e5:upd H4 p (.ins (aa K "Stairs") dx (ai "last" (.int (as.length:Int)) (ai "bottom" (.ref bm) (ai "stores" (.ref ss) (ai "size" (.int size) []))))) p=some (.ins (aa K "Stairs") dx (ai "last" (.int (as.length:Int)) (ai "bottom" (.ref bm) (ai "stores" (.ref ss) (ai "size" (.int size) []))))):=Za
 have f5:∀ x o,H4 x=some o->x≠p->upd H4 p (.ins (aa K "Stairs") dx (ai "last" (.int (as.length:Int)) (ai "bottom" (.ref bm) (ai "stores" (.ref ss) (ai "size" (.int size) []))))) x=some o:=fu
 generalize upd H4 p (.ins (aa K "Stairs") dx (ai "last" (.int (as.length:Int)) (ai "bottom" (.ref bm) (ai "stores" (.ref ss) (ai "size" (.int size) [])))))=H5 at *
 have MA:∀ x o,H3 x=some o->x≠p->H5 x=some o:=λx o e n=>f5 _ _ (f4 _ _ e n) n
 have MB:∀ x o,H2 x=some o->x≠p->H5 x=some o:=λx o e n=>MA _ _ (s3 _ _ e) n
 have FL:=mk2.frame xT MB
 have GS:∀ x o,H x=some o->x≠p->H5 x=some o:=λx o e n=>MB _ _ (f2 _ _ (fG x o e n) n) n
 refine ⟨(sl 0),λev hev=>⟨_,rfl,p,_,dx,_,rfl,Zg hev _ _ _ e5,T.aN,T.vh,(by show 4<1000; decide),?_⟩⟩
 have s6:=Zg hev (.lst ([]:List V))
 have Cz:ev≠p:=λz=>by rw [z,e5] at hev; cases hev
 have xP:as.length<=aT.length:=by lia
 have nH:∀ {x},H5 x=none->x≠p->H x=none:=λ{x} h n=>by
  cases q:H x with
  | none=>rfl
  | some o=>rw [GS x o q n] at h; cases h
 have LF:∀ {x},H2 x=none->x≠p->H x=none:=λ{x} h n=>by
  cases q:H x with
  | none=>rfl
  | some o=>rw [f2 _ _ (fG x o q n) n] at h; cases h
 refine k ⟨p,ss,bm,dk,ev,as⟩ os _ rfl Za (λkind U wf=>?_) (λx hx n=>?_) λx o e n=>?_
 .rw [Ic]
  have ff:∀ x o,H5 x=some o->x≠p->upd (upd H5 ev (.lst [])) p (.ins (aa K "Stairs") dx (bu size ss bm as.length ev kind)) x=some o:=λx o e n=>fu x o (s6 _ _ e) n
  have FJ:=FL.frame xT ff
  have g5:=f5 _ _ g4 Ct
  have rp:∀ {s:Rm},s∈List.replicate aT.length lT->s=lT:=λh=>(aeK.mp h).2
  refine ⟨⟨dx,Za⟩,ff _ _ g5 Ct,(M3 U).frame λx o m e=>ff x o (MA x o e ?_) ?_,⟨(λe m=>by cases m),[],by show upd _ p _ ev=_; rw [Zc Cz]; exact Za,rfl,λi t e q _=>by simp at q⟩,a17 _,hlen.symm,by show (List.replicate _ _).length=_; rw [aB7]; exact hlen.symm,λj b c s hb hc hs=>?_,λj hj x h z=>?_,FJ.n5,Ze g5 hev,nV,λs hs b hb=>?_,λj c s hc hs t=>?_,λs hs b hb=>?_,wf,ff _ _ (GS _ _ tb (nk tb (λ_ _ _ z=>by cases z))) (nk tb (λ_ _ _ z=>by cases z))⟩
  .rcases m with rfl | rfl; exact aFS nV; exact aFS FE
  .rcases m with rfl | rfl; exact aFS nV; exact aFS FE
  .have hs:(List.replicate aT.length lT)[j]?=some s:=hs
   rw [rp (a7T hs)]
   exact FJ.at_ j b c hb hc
  .rcases z with z | z | z | z | z
   .exact xT ((show x=p from z) ▸ FJ.fr j hj x h)
   .exact ns j hj ((show x=ss from z) ▸ h)
   .exact mk2.ex xP hj h (by rw [z]; exact hbm)
   .exact mk2.ex xP hj h (by rw [z]; exact zM)
   .exact FL.ex xP hj h (by rw [z]; exact hev)
  .rw [rp hs] at hb; exact absurd hb (by simp [lT])
  .have hs:(List.replicate aT.length lT)[j]?=some s:=hs
   rw [rp (a7T hs)]
   show ((0:Nat):Int)<=c.pl
   have:=(wf.cf c (a7T hc)).1
   lia
  .rw [rp hs] at hb; exact absurd hb (by simp [lT])
 .rcases hx with hx | ⟨j,hj,hx⟩
  .rcases hx with z | z | z | z | z
   .exact absurd z n
   .rw [z]; exact n1 _ hss
   .rw [z]; exact LF hbm (aFS nV)
   .rw [z]; exact LF zM (aFS FE)
   .rw [z]; exact nH hev Cz
  .exact FL.fr j hj x hx
 .rw [Zc n]
  exact s6 _ _ (GS x o e n)
def Og (K:W.Frag):Sp:=λvs H Q _=>∃ (p dx pp tp:Addr) (size:Int) (kind:Str) (ts:List Addr) (aT:List Cf),vs=[.ref p,.ref pp]/\H p=some (.ins (aa K "Stairs") dx [])/\H pp=some (.tup [.int size,.str kind,.ref tp])/\dX K H tp ts aT/\aT.length<=4/\Tb K H /\
 ∀ (A:TA) (os:OS) (H':Hp),A.p=p->(∀ U,WF ⟨size,kind,aT,U⟩->af K H' A ⟨size,kind,aT,U⟩ (qP aT.length) os 0)->(∀ x,OW A os x->x≠p->H x=none)->(∀ b o,H b=some o->b≠p->H' b=some o)->Q .aR H'
theorem Zfr (F:aZ K "__init__" "Stairs.__init__" JK f fd) (T:Txt K mg) (EL:wX P w K mg base "Steps" "__init__" 5 Bx (Ia K)):au P w K mg base aW 6 f fd JJ (Og K):=by
 refine F.ok fD (λvs H Q E h=>?_) (λcdv A outer s0 H vs Q E hr h=>?_)
 .obtain ⟨p,dx,pp,tp,size,kind,ts,aT,rfl,_⟩:=h
  rfl
 obtain ⟨p,dx,pp,tp,size,kind,ts,aT,rfl,hp,hpp,pa,l4,tb,q⟩:=h
 have nd:=fD.nd
 refine ⟨_,(Zd (lR (pv 1) (ZV (K:=K) (n:=3) rfl rfl (Zr (bQ 2 nd) (Zr (bQ 3 nd) (Zr (bQ 4 nd) ZT)))))
   (Zd (Zo (V7 EL hr.m rfl (pc (pv 0) (pc (pv 2) (pc (pv 4) Zb)))))
   (Zh (kN (pv 0) (pv 3) rfl)))),?_⟩
 refine ⟨_,rfl,pp,_,rfl,bB.of hpp,rfl,_,_,rfl,gN ⟨_,_,rfl,gN ⟨_,_,rfl,gN ⟨rfl,?_⟩⟩⟩⟩
 try dsimp only
 refine ⟨_,rfl,_,rfl,_,rfl,p,dx,tp,size,ts,aT,rfl,hp,pa,l4,tb,λA os H1 ep h1 RS f1 k1=>?_⟩
 refine ⟨_,rfl,_,rfl,p,_,dx,_,rfl,h1,T.aN,T.EU,(by show 5<1000; decide),?_⟩
 exact q A os _ ep (λU wf=>RS kind U wf) f1 λx o e n=>by rw [Zc n]; exact k1 x o e n
end
def nearF (st:ao) (b:Int):Nat:=st.rm.findIdx λs=>decide (b∈s.seq)
def qK (k:Nat) (b:Int) (st:ao):ao:=st.set k (xX (st.at_ k) b)
def bG (g:aK) (b:Int) (ws:List Int):Nat->Nat->ao->ao
 | 0,k,st=>dB g k b ws st
 | r+1,k,st=>if b∈(st.at_ k).seq then (if (g.cf k).late=true then qK k b (dB g k b ws st) else bG g b ws r (k+1) (dB g k b ws st)) else bG g b ws r (k+1) st
def ZQ (g:aK) (k:Nat) (b:Int) (st:ao):ao:=if (g.cf k).late=true then qK k b st else bG g b ((st.at_ k).wd b) (g.n - (k+1)) (k+1) st
def aS (b:Int):Nat->ao->List Int->Bool->ao×List Int×Bool
 | 0,st,ws,fr=>(st,ws,fr)
 | j+1,st,ws,fr=>if b∈(st.at_ j).seq then aS b j (cR j b st) ((st.at_ j).wd b) (fr || (st.at_ j).fr b) else aS b j st ws fr
def dG (g:aK) (k:Nat) (b:Int) (st:ao):ao×List Int×Bool:=if g.kind = "within" then aS b k (cR k b st) ((st.at_ k).wd b) ((st.at_ k).fr b) else (cR k b st,(st.at_ k).wd b,(st.at_ k).fr b)
def mU (g:aK) (k:Nat) (b:Int) (st:ao):ao:=if (dG g k b st).2.2=true then bG g b (dG g k b st).2.1 (g.n - (k+1)) (k+1) (dG g k b st).1 else (dG g k b st).1
noncomputable def jE (g:aK) (j:Nat) (b:Int) (st:ao):ao:=match eS (g.cf j) (st.at_ j) b with
 | none=>st
 | some o=>mU g j o st
noncomputable def gZ (g:aK) (b:Int) (ws:List Int):Nat->ao->ao
 | 0,st=>st
 | j+1,st=>gZ g b ws j (bJ j b ws (jE g j b st))
def bR (g:aK) (k:Nat) (b:Int) (st:ao):ao:=if k<g.n then st.set k (kR (g.cf k) (st.at_ k) b) else st
noncomputable def AN (g:aK) (k:Nat) (b:Int) (st:ao):ao:=gZ g b (jZ g (bR g k b st) k b) k (bR g k b st)
def bP (g:aK) (k:Nat) (b:Int) (ws:List Int) (fr:Bool) (st:ao):ao:=if fr=true then ZQ g k b (bJ k b ws st) else bJ k b ws st
noncomputable def pushS (g:aK):Nat->Nat->Int->List Int->Bool->ao->ao
 | 0,k,b,ws,fr,st=>if fr=true then dB g k b ws st else st
 | r+1,k,b,ws,fr,st=>match eS (g.cf k) (st.at_ k) b with
  | none=>bP g k b ws fr st
  | some o=>pushS g r (k+1) o ((st.at_ k).wd o) ((st.at_ k).fr o) (bP g k b ws fr (cR k o st))
noncomputable def ye (g:aK) (k:Nat) (b:Int) (st:ao):ao:=if k=0 then bR g 0 b st else if k=g.n then pushS g g.n 0 b (bg g.size st.mem b) false st else pushS g g.n 0 b ((st.at_ k).wd b) ((st.at_ k).fr b) (cR k b st)
noncomputable def ZP (g:aK) (b:Int) (st:ao):ao:=if g.kind = "apart" then ye g (nearF st b) b (st.tell (eF (nearF st b))) else AN g (nearF st b) b (st.tell (eF (nearF st b)))
noncomputable def uP (g:aK) (sp x:Int) (st:ao):ao:=(λs1:ao=>ZQ g 0 (sp / g.size) (s1.set 0 (o7 g (s1.at_ 0) sp x))) (ZP g (sp / g.size) st)
theorem wI {st:ao} {k j:Nat} {s:Rm}:(st.set k s).at_ j=if j=k/\k<st.rm.length then s else st.at_ j:=by
 by_cases h:k<st.rm.length
 .rw [ao.jt h]
  by_cases z:j=k
  .rw [ajr z,ajr ⟨z,h⟩]
  .rw [aBJ z,aBJ (λq=>z q.1)]
 .rw [aBJ (λq=>h q.2)]
  unfold ao.at_ ao.set
  rw [List.set_eq_of_length_le (by lia)]
theorem sZ {st:ao} {e:List V} {j:Nat}:(st.tell e).at_ j=st.at_ j:=rfl
theorem Dj {st:ao} {k j:Nat} {s:Rm} (h:s.seq=(st.at_ k).seq):((st.set k s).at_ j).seq=(st.at_ j).seq:=by
 rw [wI]
 split
 .rename_i q; rw [h,q.1]
 .rfl
theorem bw {st:ao} {k:Nat} {s:Rm}:(st.set k s).rm.length=st.rm.length:=akS ..
theorem uO {g:aK} {k:Nat} {b:Int} {ws:List Int} {st:ao} {j:Nat}:((dB g k b ws st).at_ j).seq=(st.at_ j).seq:=by
 unfold dB
 split
 .rfl
 .exact Dj rfl
theorem wH {g:aK} {k:Nat} {b:Int} {ws:List Int} {st:ao}:(dB g k b ws st).rm.length=st.rm.length:=by
 unfold dB
 split
 .rfl
 .exact bw
theorem Of {k j:Nat} {b:Int} {st:ao}:((qK k b st).at_ j).seq=(st.at_ j).seq:=Dj rfl
theorem gX {g:aK} {b:Int} {ws:List Int} {j:Nat}:∀ {r k:Nat} {st:ao},((bG g b ws r k st).at_ j).seq=(st.at_ j).seq
 | 0,k,st=>uO
 | r+1,k,st=>by
  rw [bG]
  split
  .split
   .rw [Of,uO]
   .exact gX.trans uO
  .exact gX
theorem jY {g:aK} {k:Nat} {b:Int} {st:ao} {j:Nat}:((ZQ g k b st).at_ j).seq=(st.at_ j).seq:=by
 unfold ZQ
 split
 .exact Of
 .exact gX
theorem iN {k j:Nat} {b:Int} {st:ao} (h:k<st.rm.length):((cR k b st).at_ j).seq=if j=k then (st.at_ j).seq.erase b else (st.at_ j).seq:=by
 unfold cR
 rw [ao.jt (by exact h)]
 by_cases z:j=k
 .rw [ajr z,ajr z,z]; rfl
 .rw [aBJ z,aBJ z]; rfl
theorem bA {k:Nat} {b:Int} {st:ao}:(cR k b st).rm.length=st.rm.length:=bw
theorem HZ {b:Int} {j:Nat}:∀ {k:Nat} {st:ao} {ws:List Int} {fr:Bool},k<=st.rm.length->((aS b k st ws fr).1.at_ j).seq=if j<k then (st.at_ j).seq.erase b else (st.at_ j).seq
 | 0,st,ws,fr,_=>by rw [aS,aBJ (by lia)]
 | k+1,st,ws,fr,h=>by
  rw [aS]
  split
  .rw [HZ (by rw [bA]; lia),iN (by lia)]
   by_cases z:j=k
   .rw [aBJ (by lia),ajr z,ajr (by lia)]
   .rw [aBJ z]
    by_cases y:j<k
    .rw [ajr y,ajr (by lia)]
    .rw [aBJ y,aBJ (by lia)]
  .rename_i m
   rw [HZ (by lia)]
   by_cases z:j=k
   .rw [aBJ (by lia),ajr (by lia),z,a5f m]
   .by_cases y:j<k
    .rw [ajr y,ajr (by lia)]
    .rw [aBJ y,aBJ (by lia)]
theorem NP {g:aK} {k:Nat} {b:Int} {st:ao} {j:Nat} (h:k<st.rm.length):((dG g k b st).1.at_ j).seq=if j=k\/(g.kind = "within" /\ j<k) then (st.at_ j).seq.erase b else (st.at_ j).seq:=by
 unfold dG
 split
 .rename_i w
  rw [HZ (by rw [bA]; lia),iN h]
  by_cases z:j=k
  .rw [aBJ (by lia),ajr z,ajr (.inl z)]
  .rw [aBJ z]
   by_cases y:j<k
   .rw [ajr y,ajr (.inr ⟨w,y⟩)]
   .rw [aBJ y,aBJ (by lia)]
 .rename_i w
  show ((cR k b st).at_ j).seq=_
  rw [iN h]
  by_cases z:j=k
  .rw [ajr z,ajr (.inl z)]
  .rw [aBJ z,aBJ (λq=>q.elim z λq=>w q.1)]
theorem Oe {g:aK} {k:Nat} {b:Int} {st:ao} {j:Nat} (h:k<st.rm.length):((mU g k b st).at_ j).seq=if j=k\/(g.kind = "within" /\ j<k) then (st.at_ j).seq.erase b else (st.at_ j).seq:=by
 unfold mU
 split
 .rw [gX]; exact NP h
 .exact NP h
theorem yh {k j:Nat} {b:Int} {ws:List Int} {st:ao} (h:k<st.rm.length):((bJ k b ws st).at_ j).seq=if j=k then (st.at_ j).seq++[b] else (st.at_ j).seq:=by
 unfold bJ
 rw [sZ,ao.jt h]
 by_cases z:j=k
 .rw [ajr z,ajr z,z]; rfl
 .rw [aBJ z,aBJ z]
theorem IC {g:aK} {k j:Nat} {b:Int} {ws:List Int} {fr:Bool} {st:ao} (h:k<st.rm.length):((bP g k b ws fr st).at_ j).seq=if j=k then (st.at_ j).seq++[b] else (st.at_ j).seq:=by
 unfold bP
 split
 .rw [jY]; exact yh h
 .exact yh h
theorem DE {st:ao} {b:Int} (h:nearF st b<st.rm.length):b∈(st.at_ (nearF st b)).seq:=by
 have e:=ao.at_of h
 rw [adk h] at e
 have:=List.findIdx_getElem (w:=h)
 rw [aDC] at this
 rw [← aGB e]
 exact this
theorem DQ {st:ao} {b:Int} {j:Nat} (h:j<nearF st b) (hl:j<st.rm.length):b∉(st.at_ j).seq:=by
 have e:=ao.at_of hl
 rw [adk hl] at e
 rw [← aGB e]
 have:=List.not_of_lt_findIdx h
 simpa using this
theorem AW (st:ao) (b:Int):nearF st b<=st.rm.length:=List.findIdx_le_length
theorem yx {c:Cf} {s:Rm} {b g:Int} (h:eS c s b=some g):g∈s.seq/\g % c.sh=b % c.sh/\gm c.ru s.us c.pl (Zn c.sh (b % c.sh) s.seq) (some g):=by
 unfold eS at h
 split at h
 .rename_i e
  have q:=Classical.choose_spec e
  rw [h] at q
  by_cases l:((Zn c.sh (b % c.sh) s.seq).length:Int)<c.pl
  .exact absurd (q.1 l) (by simp)
  .obtain ⟨g',r,e',p,_⟩:=q.2 l
   cases e'
   have m:=bz.mp (p.mem_iff.mp abW)
   exact ⟨m.1,m.2,q⟩
 .cases h
theorem NO {c:Cf} {s:Rm} {b:Int} (h:gm c.ru s.us c.pl (Zn c.sh (b % c.sh) s.seq) none):((Zn c.sh (b % c.sh) s.seq).length:Int)<c.pl:=by
 by_cases l:((Zn c.sh (b % c.sh) s.seq).length:Int)<c.pl
 .exact l
 .obtain ⟨_,_,z,_⟩:=h.2 l
  cases z
theorem Od {c:Cf} {seq:List Int} {b g:Int} (hf:∀ t,((Zn c.sh t seq).length:Int)<=c.pl) (h:g∈seq) (e:g % c.sh=b % c.sh):((Zn c.sh (b % c.sh) (seq.erase g)).length:Int)<c.pl:=by
 have m:g∈Zn c.sh (b % c.sh) seq:=bz.mpr ⟨h,e⟩
 rw [Bw,List.length_erase_of_mem m]
 have:=List.length_pos_of_mem m
 have:=hf (b % c.sh)
 lia
section
def Pd (K:W.Frag):Sp:=λvs H Q _=>∃ (A:TA) (g:aK) (st:ao) (os:OS) (n:Nat) (b:Int),vs=[.ref A.p,.int b]/\af K H A g st os n/\∀ H',aB H H'->Q (.int (nearF st b:Nat)) H'
theorem ZdZ (F:aZ K "nearest" "Stairs.nearest" Kw f fd) (T:Txt K mg) (rW:av P w K mg base (aa K "Store") "has" 2 Bl (Dl K)):au P w K mg base aW 3 f fd Kv (Pd K):=by
 refine F.ok cM (λvs H Q E h=>?_) (λcdv A outer s0 H vs Q E hr h=>?_)
 .obtain ⟨A,g,st,os,n,b,rfl,_⟩:=h
  rfl
 obtain ⟨A,g,st,os,n,b,rfl,R,q⟩:=h
 have nd:=cM.nd
 refine ⟨_,(Zd (om akt rfl (N8 rfl T.BV (pc (Zl (K:=K) rfl (pv 0) rfl) Zb)) (ZV (K:=K) (n:=2) rfl rfl (Zr (bQ 2 nd) (Zr (bQ 3 nd) ZT))) (Zh (aH (ZS (Zk rW hr.m T.gk (pv 3) (pc (pv 1) Zb))) (Zh (Zt (pv 2))) Zu)))
   (Zh (Zt (Zl (K:=K) rfl (pv 0) rfl)))),?_⟩
 obtain ⟨dx,h1⟩:=R.ob
 have lS:=R.lS
 refine ⟨_,rfl,A.p,_,dx,_,_,rfl,h1,T.aN,T.nR,ZO ..,A.ss,rfl,⟨_,aF.of R.ss⟩,OZ (K:=K) (a:=A.ss) (xs:=A.as.map λa=>V.ref a.sp) (λi σ G=>∃ v2 v3:Option V,σ=[some (.ref A.p),some (.int b),v2,v3]/\aB H G/\i<=nearF st b) ⟨_,_,rfl,aB.refl _,avV _⟩ (λi σ G _ ⟨_,_,_,s,_⟩=>aF.of (s _ _ R.ss)) ?_ ?_⟩
 .rintro i x t σ G hi ⟨v2,v3,rfl,s,hle⟩ ht
  rw [aC3] at hi
  obtain ⟨a,ea,rfl⟩:∃ a,A.as[i]?=some a/\V.ref a.sp=x:=by
   cases e:A.as[i]? with
   | none=>rw [e] at hi; cases hi
   | some a=>rw [e] at hi; exact ⟨a,rfl,aGB hi⟩
  have hil:=(a7Y.mp ea).1
  obtain ⟨a',e1,e2,e3,B⟩:=R.at_ hil
  rw [ea] at e1; cases e1
  refine ⟨t,_,rfl,bB.of Za,rfl,_,_,rfl,gN ⟨_,_,rfl,gN ⟨rfl,?_⟩⟩⟩
  try dsimp only
  have s2:=s.trans (Zg ht (.tup [.int (i:Int),.ref a.sp]))
  have B':=B.same s2
  obtain ⟨ds,h3⟩:=B'.bf.ob
  refine ⟨_,rfl,a.sp,ds,_,rfl,h3,cX ..,_,rfl,a,_,_,_,b,rfl,B',_,rfl,?_⟩
  by_cases m:b∈(st.at_ i).seq
  .refine fT (an3 m) ⟨_,rfl,?_⟩
   have e:nearF st b=i:=by
    by_cases z:i<nearF st b
    .exact absurd m (DQ z (by lia))
    .lia
   have q':=q _ s2
   rw [e] at q'
   exact q'
  .refine cW (ba7 m) ⟨_,_,rfl,s2,?_⟩
   by_cases z:i=nearF st b
   .exact absurd (z ▸ DE (st:=st) (b:=b) (by lia)) m
   .lia
 .rintro σ G ⟨v2,v3,rfl,s,hle⟩
  rw [afy] at hle
  have e:nearF st b=A.as.length:=by have:=AW st b; lia
  have q':=q _ s
  rw [e] at q'
  exact ⟨_,rfl,A.p,_,dx,_,_,rfl,s _ _ h1,T.aN,T.oZ,qL ..,q'⟩
def Di (K:W.Frag):Sp:=λvs H Q _=>∃ (A:TA) (g:aK) (st:ao) (os:OS) (n k:Nat) (b:Int) (lw:Addr) (ws:List Int),vs=[.ref A.p,.int (k:Int),.int b,.ref lw]/\af K H A g st os n/\k<=g.n/\b∈g.U/\H lw=some (.lst (ws.map V.int))/\¬ OW A os lw/\ws.length=g.size.toNat/\n<=800000/\Res K H A g os (bG g b ws (g.n - k) k st) (n+5) (Q .aR)
theorem Zfd (F:aZ K "go_on" "Stairs.go_on" J7 f fd) (T:Txt K mg) (rW:av P w K mg base (aa K "Store") "has" 2 Bl (Dl K)) (pV:av P w K mg base (aa K "Stairs") "put" 3 Bk (ny K)) (xB:av P w K mg base (aa K "Store") "freshen" 1 En (I0 K)):au P w K mg base aW 4 f fd Bu (Di K):=by
 refine F.ok eE (λvs H Q E h=>?_) (λcdv A outer s0 H vs Q E hr h=>?_)
 .obtain ⟨A,g,st,os,n,k,b,lw,ws,rfl,_⟩:=h
  rfl
 obtain ⟨A,g,st,os,n,k,b,lw,ws,rfl,R,hk,bU,jD,nO,kE,hn,q⟩:=h
 have nd:=eE.nd
 refine ⟨_,(Zd (om akt rfl (XG rfl T.mF (pc (pv 1) (pc (Zl (K:=K) rfl (pv 0) rfl) Zb))) (bQ 4 nd) (Zd (cF 5 nd (az (Zq (K:=K) rfl) (Zl (K:=K) rfl (pv 0) rfl) (pv 4) (λ_ _=>rfl)))
   (Zh (aH (ZS (Zk rW hr.m T.gk (pv 5) (pc (pv 2) Zb))) (Zd (Zo (Zk pV hr.m T.aN (pv 0) (pc (pv 4) (pc (pv 2) (pc (pv 3) Zb)))))
   (Zh (aH (ZS (Zl (K:=K) rfl (pv 5) rfl)) (Zd (Zo (Zk xB hr.m T.gk (pv 5) (pc (pv 2) Zb)))
   (Zh Iu)) Zu))) Zu))))
   (Zh (Zo (Zk pV hr.m T.aN (pv 0) (pc (Zl (K:=K) rfl (pv 0) rfl) (pc (pv 2) (pc (pv 3) Zb))))))),?_⟩
 obtain ⟨dx,h1⟩:=R.ob
 have ln:=R.ln
 have l4:g.n<=4:=R.wf.l4
 refine ⟨_,rfl,_,rfl,A.p,_,dx,_,_,rfl,h1,T.aN,T.oZ,qL ..,_,_,rfl,⟨by lia,by lia,by lia,by lia⟩,yz (lo:=(k:Int)) (n:=((A.as.length:Int) - (k:Int)).toNat) (λi σ G=>∃ (v4 v5:Option V) (st':ao) (os':OS),σ=[some (.ref A.p),some (.int (k:Int)),some (.int b),some (.ref lw),v4,v5]/\k+i<=g.n/\af K G A g st' os' (n+i)/\bI (OW A os) H G (OW A os')/\bG g b ws (g.n - (k+i)) (k+i) st'=bG g b ws (g.n - k) k st/\G lw=some (.lst (ws.map V.int))/\¬ OW A os' lw)
  ⟨_,_,st,os,rfl,hk,R,bI.same (aB.refl _),rfl,jD,nO⟩ ?_ ?_⟩
 .rintro i σ G hi ⟨v4,v5,st',os',rfl,hki,R1,p1,eg,lC,zQ⟩
  have en:((k:Int)+(i:Int))=((k+i:Nat):Int):=by lia
  rw [en]
  refine gN ?_
  try dsimp only
  obtain ⟨dU,g1⟩:=R1.ob
  obtain ⟨a,e1,e2,e3,B⟩:=R1.at_ (k:=k+i) (by lia)
  obtain ⟨ds,h3⟩:=B.bf.ob
  have er:g.n - (k+i)=(g.n - (k+(i+1)))+1:=by lia
  rw [er,bG] at eg
  refine ⟨_,rfl,A.p,_,dU,_,_,rfl,g1,T.aN,T.nR,ZO ..,_,rfl,A.ss,_,_,_,rfl,rfl,aF.of R1.ss,af.ix e1,gN ?_⟩
  try dsimp only
  refine ⟨_,rfl,a.sp,ds,_,rfl,h3,cX ..,_,rfl,a,_,_,_,b,rfl,B,_,rfl,?_⟩
  by_cases m:b∈(st'.at_ (k+i)).seq
  .rw [ajr m] at eg
   refine fT (an3 m) ⟨_,rfl,A.p,dU,_,rfl,g1,aA ..,_,rfl,_,rfl,_,rfl,A,g,st',os',n+i,k+i,b,lw,ws,rfl,R1,hki,λ_=>m,bU,lC,zQ,kE,by lia,λG2 fV R2 p2=>?_⟩
   obtain ⟨a2,e4,e5,e6,B2⟩:=R2.at_ (k:=k+i) (by lia)
   rw [e1] at e4; cases e4
   obtain ⟨d2,h4⟩:=B2.bf.ob
   obtain ⟨vP,xO⟩:=p2.out lC zQ
   refine ⟨_,rfl,a.sp,_,d2,_,_,rfl,h4,T.gk,T.ER,Nu ..,_,rfl,?_⟩
   by_cases c:(g.cf (k+i)).late=true
   .rw [ajr c] at eg
    refine fT c ?_
    have m2:b∈((dB g (k+i) b ws st').at_ (k+i)).seq:=by rw [uO]; exact m
    obtain ⟨u1,u2,u3,u4,u5,u6⟩:=R2.lM (k:=k+i) (by lia)
    refine ⟨_,rfl,a.sp,d2,_,rfl,h4,cX ..,_,rfl,a,_,_,_,b,rfl,B2,m2,u1,λG3 B3 p3=>?_⟩
    obtain ⟨R3,p4⟩:=R2.iy e1 e2 B3 p3 u2 u3
    have R3:af K G3 A g (bG g b ws (g.n - k) k st) (fV.set (k+i) (fV (k+i))) (n+i+1):=by rw [← eg]; exact R3
    exact q _ _ (R3.le (by lia)) ((p1.trans p2).trans p4)
   .rw [aBJ c] at eg
    exact cW (by simpa using c) ⟨_,_,_,fV,rfl,by lia,R2,p1.trans p2,eg,vP,xO⟩
  .rw [aBJ m] at eg
   exact cW (ba7 m) ⟨_,_,st',os',rfl,by lia,R1.le (by lia),p1,eg,lC,zQ⟩
 .rintro σ G ⟨v4,v5,st',os',rfl,hki,R1,p1,eg,lC,zQ⟩
  have en:((A.as.length:Int) - (k:Int)).toNat=g.n - k:=by lia
  rw [en] at eg hki R1
  have ek:k+(g.n - k)=g.n:=by lia
  rw [ek,a1l,bG] at eg
  obtain ⟨dU,g1⟩:=R1.ob
  refine ⟨_,rfl,A.p,dU,_,rfl,g1,aA ..,_,rfl,A.p,_,dU,_,_,rfl,g1,T.aN,T.oZ,qL ..,_,rfl,_,rfl,A,g,st',os',_,g.n,b,lw,ws,by rw [ln]; rfl,R1,a17 _,λh=>absurd h (aNy _),bU,lC,zQ,kE,by lia,λG2 fV R2 p2=>?_⟩
  rw [eg] at R2
  exact q _ _ (R2.le (by lia)) (p1.trans p2)
def IB (K:W.Frag):Sp:=λvs H Q _=>∃ (A:TA) (g:aK) (st:ao) (os:OS) (n k:Nat) (b:Int),vs=[.ref A.p,.int (k:Int),.int b]/\af K H A g st os n/\k<g.n/\b∈(st.at_ k).seq/\n<=800000/\Res K H A g os (ZQ g k b st) (n+5) (Q .aR)
theorem Zeq (F:aZ K "change" "Stairs.change" JY f fd) (T:Txt K mg) (xB:av P w K mg base (aa K "Store") "freshen" 1 En (I0 K)) (rY:av P w K mg base (aa K "Stairs") "go_on" 4 Bu (Di K)) (se:av P w K mg base (aa K "Store") "words_of" 3 ZM (D3 K)):au P w K mg base aW 5 f fd El (IB K):=by
 refine F.ok dz (λvs H Q E h=>?_) (λcdv A outer s0 H vs Q E hr h=>?_)
 .obtain ⟨A,g,st,os,n,k,b,rfl,_⟩:=h
  rfl
 obtain ⟨A,g,st,os,n,k,b,rfl,R,hk,hb,hn,q⟩:=h
 have nd:=dz.nd
 refine ⟨_,(Zd (cF 3 nd (az (Zq (K:=K) rfl) (Zl (K:=K) rfl (pv 0) rfl) (pv 1) (λ_ _=>rfl)))
   (Zh (aH (ZS (Zl (K:=K) rfl (pv 3) rfl)) (Zh (Zo (Zk xB hr.m T.gk (pv 3) (pc (pv 2) Zb)))) (Zh (Zo (Zk rY hr.m T.aN (pv 0) (pc (ak ZA (pv 1) Zj) (pc (pv 2) (pc (Zk se hr.m T.gk (pv 3) (pc (pv 2) Zb)) Zb))))))))),?_⟩
 obtain ⟨dx,h1⟩:=R.ob
 have ln:=R.ln
 obtain ⟨a,e1,e2,e3,B⟩:=R.at_ (k:=k) (by lia)
 obtain ⟨u1,u2,u3,u4,u5,u6⟩:=R.lM (k:=k) (by lia)
 obtain ⟨ds,h3⟩:=B.bf.ob
 unfold ZQ at q
 refine ⟨_,rfl,A.p,_,dx,_,_,rfl,h1,T.aN,T.nR,ZO ..,_,rfl,A.ss,_,_,_,rfl,rfl,aF.of R.ss,af.ix e1,gN ?_⟩
 try dsimp only
 refine ⟨_,rfl,a.sp,_,ds,_,_,rfl,h3,T.gk,T.ER,Nu ..,_,rfl,?_⟩
 by_cases c:(g.cf k).late=true
 .rw [ajr c] at q
  refine fT c ⟨_,rfl,a.sp,ds,_,rfl,h3,cX ..,_,rfl,a,_,_,_,b,rfl,B,hb,u1,λG3 B3 p3=>?_⟩
  obtain ⟨R3,p4⟩:=R.iy e1 e2 B3 p3 u2 u3
  exact q _ _ (R3.le (by lia)) p4
 .rw [aBJ c] at q
  refine cW (by simpa using c) ⟨_,rfl,A.p,dx,_,rfl,h1,aA ..,_,rfl,_,_,rfl,rfl,_,rfl,_,rfl,a.sp,ds,_,rfl,h3,cX ..,_,rfl,a,_,_,_,b,rfl,B,hb,λl hl=>?_⟩
  have sm:=Zg hl (.lst (((st.at_ k).wd b).map V.int))
  exact ⟨A,g,st,os,n,k+1,b,l,_,rfl,R.same sm,hk,(u2 b hb).1,Za,R.fresh hl,(u2 b hb).2,hn,λG2 fV R2 p2=>q _ _ R2 ((bI.same sm).trans p2)⟩
end
section
def NN (K:W.Frag):Sp:=λvs H Q _=>∃ (A:TA) (g:aK) (st:ao) (os:OS) (n k:Nat) (b:Int),vs=[.ref A.p,.int (k:Int),.int b]/\af K H A g st os n/\k<g.n/\b∈(st.at_ k).seq/\n<=700000/\Res K H A g os (mU g k b st) (n+10) (Q .aR)
theorem Zdg (F:aZ K "drive_out" "Stairs.drive_out" KR f fd) (T:Txt K mg) (kY:av P w K mg base (aa K "Stairs") "go_out" 5 ZE (yi K)) (rW:av P w K mg base (aa K "Store") "has" 2 Bl (Dl K)) (rY:av P w K mg base (aa K "Stairs") "go_on" 4 Bu (Di K)):au P w K mg base aW 6 f fd KQ (NN K):=by
 refine F.ok b7 (λvs H Q E h=>?_) (λcdv A outer s0 H vs Q E hr h=>?_)
 .obtain ⟨A,g,st,os,n,k,b,rfl,_⟩:=h
  rfl
 obtain ⟨A,g,st,os,n,k,b,rfl,R,hk,hb,hn,q⟩:=h
 have nd:=b7.nd
 refine ⟨_,(Zd (lR (Zk kY hr.m T.aN (pv 0) (pc (pv 1) (pc (pv 2) Zb))) (ZV (K:=K) (n:=2) rfl rfl (Zr (bQ 3 nd) (Zr (bQ 4 nd) ZT))))
   (Zd (aH (Zv aY (Zl (K:=K) rfl (pv 0) rfl) j5 (Zw _)) (Zh (om akt rfl (Pq rfl T.mF (pc (ak uU (pv 1) Zj) (pc (jU yc Zj) (pc (jU yc Zj) Zb)))) (bQ 5 nd) (Zh (aH (ZS (Zk rW hr.m T.gk (az (Zq (K:=K) rfl) (Zl (K:=K) rfl (pv 0) rfl) (pv 5) (λ_ _=>rfl)) (pc (pv 2) Zb))) (Zd (lR (Zk kY hr.m T.aN (pv 0) (pc (pv 5) (pc (pv 2) Zb))) (ZV (K:=K) (n:=2) rfl rfl (Zr (bQ 3 nd) (Zr (bQ 6 nd) ZT))))
   (Zh (cF 4 nd (zv (pv 4) (Ds (pv 6)))))) Zu)))) Zu)
   (Zh (aH (ZS (pv 4)) (Zh (Zo (Zk rY hr.m T.aN (pv 0) (pc (ak ZA (pv 1) Zj) (pc (pv 2) (pc (pv 3) Zb)))))) Zu)))),?_⟩
 obtain ⟨dx,h1⟩:=R.ob
 have ln:=R.ln
 have lS:=R.lS
 have l4:g.n<=4:=R.wf.l4
 obtain ⟨u1,u2,u3,u4,u5,u6⟩:=R.lM (k:=k) (by lia)
 obtain ⟨bU,bl⟩:=u2 b hb
 refine hide λu1 e1=>?_
 refine ⟨_,rfl,A.p,dx,_,rfl,h1,aA ..,_,rfl,_,rfl,A,g,st,os,n,k,b,rfl,R,hk,hb,by lia,λH1 aX t l et el nl R1 p1=>⟨t,_,rfl,bB.of et,rfl,_,_,rfl,gN ⟨_,_,rfl,gN ⟨rfl,?_⟩⟩⟩⟩
 subst e1
 try dsimp only
 refine x9 (λσ G=>∃ (v5 v6:Option V) (l:Addr) (os':OS),σ=[some (.ref A.p),some (.int (k:Int)),some (.int b),some (.ref l),some (.bl (dG g k b st).2.2),v5,v6]/\af K G A g (dG g k b st).1 os' (n+5)/\bI (OW A os) H G (OW A os')/\G l=some (.lst ((dG g k b st).2.1.map V.int))/\¬ OW A os' l/\(dG g k b st).2.1.length=g.size.toNat) (λD' _ k'=>?_) ?_
 .obtain ⟨dU,g1⟩:=R1.ob
  refine ⟨_,rfl,A.p,_,dU,_,_,rfl,g1,T.aN,T.EU,NR ..,rfl,_,rfl,mW (λc=>?_) (λc=>?_)⟩
  .have c':g.kind = "within" := by injection c
   have ed:dG g k b st=aS b k (cR k b st) ((st.at_ k).wd b) ((st.at_ k).fr b):=ajr c'
   rw [ed] at k'
   refine ⟨_,rfl,_,_,rfl,rfl,_,rfl,_,rfl,_,_,rfl,⟨by lia,by lia,by lia,by lia⟩,OQ (hi:=(k:Int) - 1) (n:=((k:Int) - 1 - -1).toNat) (λi σ G=>∃ (v5 v6:Option V) (l:Addr) (st':ao) (os':OS) (ws:List Int) (fr:Bool),σ=[some (.ref A.p),some (.int (k:Int)),some (.int b),some (.ref l),some (.bl fr),v5,v6]/\i<=k/\af K G A g st' os' (n+1+i)/\bI (OW A os) H G (OW A os')/\G l=some (.lst (ws.map V.int))/\¬ OW A os' l/\ws.length=g.size.toNat/\aS b (k - i) st' ws fr=aS b k (cR k b st) ((st.at_ k).wd b) ((st.at_ k).fr b))
    ⟨_,_,l,_,aX,_,_,rfl,avV _,R1,p1,el,nl,bl,rfl⟩ ?_ ?_⟩
   .rintro i σ G hi ⟨v5,v6,l,st',os',ws,fr,rfl,hik,R2,p2,el,nl,lw,eo⟩
    have hi':i<k:=by lia
    have en:((k:Int) - 1 - (i:Int))=((k - 1 - i:Nat):Int):=by lia
    rw [en]
    refine gN ?_
    try dsimp only
    obtain ⟨a,e1,e2,e3,B⟩:=R2.at_ (k:=k - 1 - i) (by lia)
    obtain ⟨w1,w2,w3,w4,w5,w6⟩:=R2.lM (k:=k - 1 - i) (by lia)
    obtain ⟨ds,h3⟩:=B.bf.ob
    obtain ⟨i6,g2⟩:=R2.ob
    have ek:k - i=(k - 1 - i)+1:=by lia
    rw [ek,aS] at eo
    refine ⟨_,rfl,A.p,_,i6,_,_,rfl,g2,T.aN,T.nR,ZO ..,_,rfl,A.ss,_,_,_,rfl,rfl,aF.of R2.ss,af.ix e1,a.sp,ds,_,rfl,h3,cX ..,_,rfl,a,_,_,_,b,rfl,B,_,rfl,?_⟩
    by_cases m:b∈(st'.at_ (k - 1 - i)).seq
    .rw [ajr m] at eo
     refine fT (an3 m) ⟨_,rfl,A.p,i6,_,rfl,g2,aA ..,_,rfl,_,rfl,A,g,st',os',_,k - 1 - i,b,rfl,R2,by lia,m,by lia,λH3 jK t3 l3 Ue GX FH R3 p3=>⟨t3,_,rfl,bB.of Ue,rfl,_,_,rfl,gN ⟨_,_,rfl,gN ⟨rfl,?_⟩⟩⟩⟩
     try dsimp only
     have fin:∃ (v5 v6:Option V) (l:Addr) (st'':ao) (os':OS) (ws:List Int) (Ms:Bool),[some (.ref A.p),some (.int (k:Int)),some (.int b),some (.ref l3),some (.bl (fr || (st'.at_ (k - 1 - i)).fr b)),some (.int ((k - 1 - i:Nat):Int)),some (.bl ((st'.at_ (k - 1 - i)).fr b))]=[some (V.ref A.p),some (.int (k:Int)),some (.int b),some (.ref l),some (.bl Ms),v5,v6]/\i+1<=k/\af K H3 A g st'' os' (n+1+(i+1))/\bI (OW A os) H H3 (OW A os')/\H3 l=some (.lst (ws.map V.int))/\¬ OW A os' l/\ws.length=g.size.toNat/\aS b (k - (i+1)) st'' ws Ms=aS b k (cR k b st) ((st.at_ k).wd b) ((st.at_ k).fr b) :=
      ⟨_,_,l3,_,jK,_,_,rfl,by lia,R3,p2.trans p3,GX,FH,(w2 b m).2,by rw [show k - (i+1)=k - 1 - i by lia]; exact eo⟩
     cases fr with
     | true=>exact ⟨_,rfl,_,rfl,fT rfl (gN fin)⟩
     | false=>exact ⟨_,rfl,_,rfl,cW rfl ⟨_,rfl,gN fin⟩⟩
    .rw [aBJ m] at eo
     exact cW (ba7 m) ⟨_,_,l,st',os',ws,fr,rfl,by lia,R2.le (by lia),p2,el,nl,lw,by rw [show k - (i+1)=k - 1 - i by lia]; exact eo⟩
   .rintro σ G ⟨v5,v6,l,st',os',ws,fr,rfl,hik,R2,p2,el,nl,lw,eo⟩
    have en:((k:Int) - 1 - -1).toNat=k:=by lia
    rw [en,a1l,aS] at eo
    rw [en] at R2
    rw [← eo] at k'
    exact k' _ _ ⟨_,_,l,os',rfl,R2.le (by lia),p2,el,nl,lw⟩
  .have c':¬ g.kind = "within" := λz=>c (by rw [z])
   have ed:dG g k b st=(cR k b st,(st.at_ k).wd b,(st.at_ k).fr b):=aBJ c'
   rw [ed] at k'
   exact k' _ _ ⟨_,_,l,aX,rfl,R1.le (by lia),p1,el,nl,bl⟩
 rintro _ G ⟨v5,v6,l2,fV,rfl,R2,p2,Uk,Sy,SO⟩
 unfold mU at q
 generalize dG g k b st=dq at *
 obtain ⟨st2,ws,fr⟩:=dq
 dsimp only at *
 cases fr with
 | true =>
  rw [ajr rfl] at q
  obtain ⟨i6,g2⟩:=R2.ob
  exact ⟨_,rfl,_,rfl,fT rfl ⟨_,rfl,A.p,i6,_,rfl,g2,aA ..,_,rfl,_,_,rfl,rfl,_,rfl,_,rfl,A,g,st2,fV,_,k+1,b,l2,ws,rfl,R2,hk,bU,Uk,Sy,SO,by lia,λG3 jK R3 p3=>q _ _ R3 (p2.trans p3)⟩⟩
 | false =>
  rw [aBJ (by decide)] at q
  exact ⟨_,rfl,_,rfl,cW rfl (q _ _ (R2.le (by lia)) p2)⟩
def MR (K:W.Frag):Sp:=λvs H Q _=>∃ (A:TA) (g:aK) (st:ao) (os:OS) (n k:Nat) (b:Int),vs=[.ref A.p,.int (k:Int),.int b]/\af K H A g st os n/\k=nearF st b/\b∈g.U/\n<=600000/\(b∈((AN g k b st).at_ 0).seq->Res K H A g os (AN g k b st) (n+50) (Q .aR))
theorem ZcN (F:aZ K "fetch_down" "Stairs.fetch_down" Kr f fd) (T:Txt K mg) (xJ:av P w K mg base (aa K "Stairs") "use_in" 4 Es (Ib K)) (xF:av P w K mg base (aa K "Stairs") "words" 4 Eh (IE K)) (rj:av P w K mg base (aa K "Stairs") "leaver" 4 Bv (Dk K)) (EJ:av P w K mg base (aa K "Stairs") "drive_out" 6 KQ (NN K)) (xA:av P w K mg base (aa K "Stairs") "come_in" 6 Em (ID K)):au P w K mg base aW 7 f fd Kq (MR K):=by
 refine F.ok bS (λvs H Q E h=>?_) (λcdv A outer s0 H vs Q E hr h=>?_)
 .obtain ⟨A,g,st,os,n,k,b,rfl,_⟩:=h
  rfl
 obtain ⟨A,g,st,os,n,k,b,rfl,R,hk,bU,hn,q⟩:=h
 have nd:=bS.nd
 refine ⟨_,(Zd (aH (Zv jg (pv 1) (Zl (K:=K) rfl (pv 0) rfl) (Zw _)) (Zh (Zo (Zk xJ hr.m T.aN (pv 0) (pc (pv 1) (pc (pv 2) Zb))))) Zu)
   (Zd (cF 3 nd (Zk xF hr.m T.aN (pv 0) (pc (pv 1) (pc (pv 2) Zb))))
   (Zh (om akt rfl (Pq rfl T.mF (pc (ak uU (pv 1) Zj) (pc (jU yc Zj) (pc (jU yc Zj) Zb)))) (bQ 4 nd) (Zd (cF 5 nd (Zk rj hr.m T.aN (pv 0) (pc (pv 4) (pc (pv 2) Zb))))
   (Zd (aH (Du (N2 (pv 5))) (Zh (Zo (Zk EJ hr.m T.aN (pv 0) (pc (pv 4) (pc (pv 5) Zb))))) Zu)
   (Zh (Zo (Zk xA hr.m T.aN (pv 0) (pc (pv 4) (pc (pv 2) (pc (pv 3) Zb)))))))))))),?_⟩
 have ln:=R.ln
 have lS:=R.lS
 have l4:g.n<=4:=R.wf.l4
 obtain ⟨b0,b1⟩:=R.wf.ub b bU
 have fU:k<=g.n:=by rw [hk]; have:=AW st b; lia
 have Gj:k<g.n->b∈(st.at_ k).seq:=λh=>by rw [hk]; exact DE (by lia)
 refine x9 (λσ G=>σ=[some (.ref A.p),some (.int (k:Int)),some (.int b),none,none,none]/\∃ os',af K G A g (bR g k b st) os' n/\bI (OW A os) H G (OW A os')) (λD' _ k'=>?_) ?_
 .obtain ⟨dx,h1⟩:=R.ob
  refine ⟨_,rfl,_,rfl,A.p,_,dx,_,_,rfl,h1,T.aN,T.oZ,qL ..,_,_,rfl,rfl,_,rfl,?_⟩
  by_cases c:k<g.n
  .have eu:bR g k b st=st.set k (kR (g.cf k) (st.at_ k) b):=ajr c
   rw [eu] at k'
   exact fT (an3 (by lia)) ⟨_,rfl,A.p,dx,_,rfl,h1,aA ..,_,rfl,_,rfl,A,g,st,os,n,k,b,rfl,R,c,Gj c,λH1 aX R1 p1=>k' _ _ ⟨rfl,aX,R1,p1⟩⟩
  .have eu:bR g k b st=st:=aBJ c
   rw [eu] at k'
   exact cW (ba7 (by lia)) (k' _ _ ⟨rfl,os,R,bI.same (aB.refl _)⟩)
 rintro _ G ⟨rfl,bW,R0,p0⟩
 have RH:∀ j,j≠k->((bR g k b st).at_ j).seq=(st.at_ j).seq:=λj hj=>by
  unfold bR
  split
  .rw [wI,aBJ (λz=>hj z.1)]
  .rfl
 have vM:k<g.n->b∈((bR g k b st).at_ k).seq:=λh=>by
  have e:bR g k b st=st.set k (kR (g.cf k) (st.at_ k) b):=ajr h
  rw [e,ao.jt (by lia),ajr rfl]
  exact (wK (Gj h)).mem_iff.mpr (Gj h)
 have nb:∀ j,j<k->b∉((bR g k b st).at_ j).seq:=λj hj=>by
  rw [RH j (by lia)]
  exact DQ (by lia) (by lia)
 unfold AN at q
 generalize bR g k b st=bD at *
 obtain ⟨dx,h1⟩:=R0.ob
 refine hide λu1 e1=>?_
 refine ⟨_,rfl,A.p,dx,_,rfl,h1,aA ..,_,rfl,_,rfl,A,g,bD,bW,n,k,b,rfl,R0,fU,vM,b0,b1,λlw H1 jD s1 ew=>gN ?_⟩
 subst e1
 try dsimp only
 have nO:=R0.fresh jD
 have kE:(jZ g bD k b).length=g.size.toNat:=by
  unfold jZ
  split
  .unfold bg; rw [afy,at7]
  .exact ((R0.lM (k:=k) (by lia)).2.1 b (vM (by lia))).2
 generalize jZ g bD k b=ws at *
 have R1:=R0.same s1
 refine ⟨_,rfl,_,_,rfl,rfl,_,rfl,_,rfl,_,_,rfl,⟨by lia,by lia,by lia,by lia⟩,OQ (hi:=(k:Int) - 1) (n:=((k:Int) - 1 - -1).toNat) (λi σ G'=>∃ (v4 v5:Option V) (st':ao) (os':OS),σ=[some (.ref A.p),some (.int (k:Int)),some (.int b),some (.ref lw),v4,v5]/\i<=k/\af K G' A g st' os' (n+11 * i)/\bI (OW A os) H G' (OW A os')/\gZ g b ws (k - i) st'=gZ g b ws k bD/\(∀ j,j<k - i->b∉(st'.at_ j).seq)/\(k - i<g.n->b∈(st'.at_ (k - i)).seq)/\G' lw=some (.lst (ws.map V.int))/\¬ OW A os' lw)
  ⟨_,_,bD,bW,rfl,avV _,R1,p0.trans (bI.same s1),rfl,nb,vM,ew,nO⟩ ?_ ?_⟩
 .rintro i σ G' hi ⟨v4,v5,st',os',rfl,hik,R2,p2,ed,vB,vL,MD,xO⟩
  have hi':i<k:=by lia
  have en:((k:Int) - 1 - (i:Int))=((k - 1 - i:Nat):Int):=by lia
  rw [en]
  refine gN ?_
  try dsimp only
  have hlt:k - 1 - i<g.n:=by lia
  have lS2:=R2.lS
  have hbn:b∉(st'.at_ (k - 1 - i)).seq:=vB (k - 1 - i) (by lia)
  obtain ⟨w1,w2,w3,w4,w5,w6⟩:=R2.lM (k:=k - 1 - i) (by lia)
  obtain ⟨i6,g2⟩:=R2.ob
  have Ul:k - i=(k - 1 - i)+1:=by lia
  rw [Ul,gZ] at ed
  refine hide λu1 e1=>?_
  refine ⟨_,rfl,A.p,i6,_,rfl,g2,aA ..,_,rfl,_,rfl,A,g,st',os',_,k - 1 - i,b,rfl,R2,hlt,λH3 s3 gp=>gN ?_⟩
  subst e1
  try dsimp only
  have R3:=R2.same s3
  have Ub:=s3 _ _ MD
  obtain ⟨we,g3⟩:=R3.ob
  refine x9 (λσ' G3=>σ'=[some (.ref A.p),some (.int (k:Int)),some (.int b),some (.ref lw),some (.int ((k - 1 - i:Nat):Int)),some (qc (eS (g.cf (k - 1 - i)) (st'.at_ (k - 1 - i)) b))]/\∃ aX,af K G3 A g (jE g (k - 1 - i) b st') aX (n+11 * i+10)/\bI (OW A os') H3 G3 (OW A aX)/\b∉((jE g (k - 1 - i) b st').at_ (k - 1 - i)).seq/\((Zn (g.cf (k - 1 - i)).sh (b % (g.cf (k - 1 - i)).sh) ((jE g (k - 1 - i) b st').at_ (k - 1 - i)).seq).length:Int)<(g.cf (k - 1 - i)).pl/\∀ j,j<k - 1 - i->b∉((jE g (k - 1 - i) b st').at_ j).seq) (λD' _ k'=>?_) ?_
  .cases eg:eS (g.cf (k - 1 - i)) (st'.at_ (k - 1 - i)) b with
   | none =>
    have el:jE g (k - 1 - i) b st'=st':=by unfold jE; rw [eg]
    rw [eg] at gp k'
    rw [el] at k'
    exact ⟨_,rfl,_,rfl,cW rfl (k' _ _ ⟨rfl,os',R3.le (by lia),bI.same (aB.refl _),hbn,NO gp,λj hj=>vB j (by lia)⟩)⟩
   | some go =>
    have el:jE g (k - 1 - i) b st'=mU g (k - 1 - i) go st':=by unfold jE; rw [eg]
    rw [eg] at gp k'
    rw [el] at k'
    obtain ⟨m1,m2,m3⟩:=yx eg
    have sq:=λj=>Oe (g:=g) (k:=k - 1 - i) (b:=go) (st:=st') (j:=j) (by lia)
    refine ⟨_,rfl,_,rfl,fT rfl ⟨_,rfl,A.p,we,_,rfl,g3,aA ..,_,rfl,_,rfl,A,g,st',os',_,k - 1 - i,go,rfl,R3,hlt,m1,by lia,λH4 vq R4 p4=>k' _ _ ⟨rfl,vq,R4,p4,?_,?_,λj hj=>?_⟩⟩⟩
    .rw [sq,ajr (.inl rfl)]
     exact λm=>hbn (ak3 m)
    .rw [sq,ajr (.inl rfl)]
     exact Od w3 m1 m2
    .rw [sq]
     have:=vB j (by lia)
     split
     .exact λm=>this (ak3 m)
     .exact this
  rintro _ G3 ⟨rfl,vq,R4,p4,TU,hsh,SD⟩
  obtain ⟨MC,LD⟩:=p4.out Ub xO
  obtain ⟨Ax,g4⟩:=R4.ob
  have lS4:=R4.lS
  refine ⟨_,rfl,A.p,Ax,_,rfl,g4,aA ..,_,rfl,_,rfl,_,rfl,A,g,_,vq,_,k - 1 - i,b,lw,ws,rfl,R4,hlt,TU,bU,hsh,MC,LD,kE,by lia,λH5 rA R5 p5=>?_⟩
  obtain ⟨Ua,SE⟩:=p5.out MC LD
  have sq:=λj=>yh (k:=k - 1 - i) (b:=b) (ws:=ws) (st:=jE g (k - 1 - i) b st') (j:=j) (by lia)
  refine ⟨_,_,_,rA,rfl,by lia,R5.le (by lia),((p2.trans (bI.same s3)).trans p4).trans p5,?_,λj hj=>?_,λ_=>?_,Ua,SE⟩
  .rw [show k - (i+1)=k - 1 - i by lia]
   exact ed
  .rw [sq,aBJ (by lia)]
   exact SD j (by lia)
  .rw [show k - (i+1)=k - 1 - i by lia,sq,ajr rfl]
   exact af2 _ (ai5.mpr rfl)
 .rintro σ G' ⟨v4,v5,st',os',rfl,hik,R2,p2,ed,vB,vL,MD,xO⟩
  have en:((k:Int) - 1 - -1).toNat=k:=by lia
  have l1:1<=g.n:=R.wf.l1
  rw [en,a1l] at ed vL
  rw [en] at R2
  have ed:st'=gZ g b ws k bD:=ed
  rw [← ed] at q
  exact q (vL (by lia)) _ _ (R2.le (by lia)) p2
end
def cG (st:ao):Prop:=∀ i j,i<st.rm.length->j<st.rm.length->i≠j->∀ x∈(st.at_ i).seq,x∉(st.at_ j).seq
def lX (st:ao) (b:Int):Prop:=∀ j,j<st.rm.length->b∉(st.at_ j).seq
theorem Bh {g:aK} {k:Nat} {b:Int} {ws:List Int} {fr:Bool} {st:ao}:(bP g k b ws fr st).rm.length=st.rm.length:=by
 have go:∀ {r k:Nat} {st:ao} {ws:List Int},(bG g b ws r k st).rm.length=st.rm.length:=λ{r}=>by
  induction r with
  | zero=>intro k st ws; exact wH
  | succ r ih =>
   intro k st ws
   rw [bG]
   split
   .split
    .exact bw.trans wH
    .exact ih.trans wH
   .exact ih
 unfold bP ZQ
 split
 .split
  .exact bw.trans bw
  .exact go.trans bw
 .exact bw
theorem HY {st st':ao} {k:Nat} {b:Int} (d:cG st) (h:lX st b) (l:st'.rm.length=st.rm.length) (sq:∀ j,(st'.at_ j).seq=if j=k then (st.at_ j).seq++[b] else (st.at_ j).seq):cG st':=λi j hi hj hij x hx hx'=>by
 rw [l] at hi hj
 rw [sq] at hx hx'
 by_cases z:i=k
 .rw [ajr z] at hx
  rw [aBJ (by lia)] at hx'
  rcases aPD.mp hx with m | m
  .exact d i j hi hj hij x m hx'
  .exact h j hj (ai5.mp m ▸ hx')
 .rw [aBJ z] at hx
  by_cases y:j=k
  .rw [ajr y] at hx'
   rcases aPD.mp hx' with m | m
   .exact d i j hi hj hij x hx m
   .exact h i hi (ai5.mp m ▸ hx)
  .rw [aBJ y] at hx'
   exact d i j hi hj hij x hx hx'
theorem DP {st:ao} {k:Nat} {b:Int} (d:cG st) (hk:k<st.rm.length) (nn:(st.at_ k).seq.Nodup) (hb:b∈(st.at_ k).seq):cG (cR k b st)/\lX (cR k b st) b:=by
 have sq:=λj=>iN (b:=b) (j:=j) hk
 refine ⟨λi j hi hj hij x hx hx'=>?_,λj hj m=>?_⟩
 .rw [bA] at hi hj
  rw [sq] at hx hx'
  refine d i j hi hj hij x ?_ ?_
  .split at hx
   .exact ak3 hx
   .exact hx
  .split at hx'
   .exact ak3 hx'
   .exact hx'
 .rw [bA] at hj
  rw [sq] at m
  split at m
  .rename_i z
   rw [z] at m
   exact ((a9K nn).mp m).1 rfl
  .rename_i z
   exact d k j hk hj (λy=>z y.symm) b hb m
section
def HX (K:W.Frag):Sp:=λvs H Q _=>∃ (A:TA) (g:aK) (st:ao) (os:OS) (n k:Nat) (b:Int) (lw:Addr) (ws:List Int) (fr:Bool),vs=[.ref A.p,.int (k:Int),.int b,.ref lw,.bl fr]/\af K H A g st os n/\k<g.n/\b∉(st.at_ k).seq/\b∈g.U/\((Zn (g.cf k).sh (b % (g.cf k).sh) (st.at_ k).seq).length:Int)<(g.cf k).pl/\H lw=some (.lst (ws.map V.int))/\¬ OW A os lw/\ws.length=g.size.toNat/\n<=700000/\Res K H A g os (bP g k b ws fr st) (n+6) (Q .aR)
theorem ZcO (F:aZ K "come_apart" "Stairs.come_apart" Kp f fd) (T:Txt K mg) (xA:av P w K mg base (aa K "Stairs") "come_in" 6 Em (ID K)) (xx:av P w K mg base (aa K "Stairs") "change" 5 El (IB K)):au P w K mg base aW 7 f fd ZK (HX K):=by
 refine F.ok bT (λvs H Q E h=>?_) (λcdv A outer s0 H vs Q E hr h=>?_)
 .obtain ⟨A,g,st,os,n,k,b,lw,ws,fr,rfl,_⟩:=h
  rfl
 obtain ⟨A,g,st,os,n,k,b,lw,ws,fr,rfl,R,hk,hb,bU,hsh,jD,nO,kE,hn,q⟩:=h
 have nd:=bT.nd
 refine ⟨_,(Zd (Zo (Zk xA hr.m T.aN (pv 0) (pc (pv 1) (pc (pv 2) (pc (pv 3) Zb)))))
   (Zh (aH (ZS (pv 4)) (Zh (Zo (Zk xx hr.m T.aN (pv 0) (pc (pv 1) (pc (pv 2) Zb))))) Zu))),?_⟩
 obtain ⟨dx,h1⟩:=R.ob
 have ln:=R.ln
 have lS:=R.lS
 refine ⟨_,rfl,A.p,dx,_,rfl,h1,aA ..,_,rfl,_,rfl,_,rfl,A,g,st,os,n,k,b,lw,ws,rfl,R,hk,hb,bU,hsh,jD,nO,kE,by lia,λH1 aX R1 p1=>?_⟩
 unfold bP at q
 cases fr with
 | true =>
  rw [ajr rfl] at q
  obtain ⟨dU,g1⟩:=R1.ob
  exact ⟨_,rfl,_,rfl,fT rfl ⟨_,rfl,A.p,dU,_,rfl,g1,aA ..,_,rfl,_,rfl,A,g,_,aX,_,k,b,rfl,R1,hk,by rw [yh (by lia),ajr rfl]; exact af2 _ (ai5.mpr rfl),by lia,λH2 fV R2 p2=>q _ _ R2 (p1.trans p2)⟩⟩
 | false =>
  rw [aBJ (by decide)] at q
  exact ⟨_,rfl,_,rfl,cW rfl (q _ _ (R1.le (by lia)) p1)⟩
def Dh (K:W.Frag) (r:Nat):Sp:=λvs H Q _=>∃ (A:TA) (g:aK) (st:ao) (os:OS) (n k:Nat) (b:Int) (lw:Addr) (ws:List Int) (fr:Bool),vs=[.ref A.p,.int (k:Int),.int b,.ref lw,.bl fr]/\af K H A g st os n/\k+r=g.n/\lX st b/\cG st/\b∈g.U/\H lw=some (.lst (ws.map V.int))/\¬ OW A os lw/\ws.length=g.size.toNat/\n+7 * r<=600000/\(cG (pushS g r k b ws fr st)->(0<r->b∈((pushS g r k b ws fr st).at_ k).seq)->(∀ j,j<k->((pushS g r k b ws fr st).at_ j).seq=(st.at_ j).seq)->Res K H A g os (pushS g r k b ws fr st) (n+7 * r+1) (Q .aR))
def Vt:Sp:=λ_ _ _ _=>False
theorem P6 {r:Nat} {yW:Sp} (mO:∀ m,r=m+1->yW=Dh K m) (F:aZ K "push" "Stairs.push" ZJ f fd) (T:Txt K mg) (pV:av P w K mg base (aa K "Stairs") "put" 3 Bk (ny K)) (rj:av P w K mg base (aa K "Stairs") "leaver" 4 Bv (Dk K)) (ud:av P w K mg base (aa K "Stairs") "come_apart" 7 ZK (HX K)) (kY:av P w K mg base (aa K "Stairs") "go_out" 5 ZE (yi K)) (xE:av P w K mg base (aa K "Stairs") "push" (r+7) ZC yW):au P w K mg base aW (r+8) f fd ZC (Dh K r):=by
 refine F.ok fC (λvs H Q E h=>?_) (λcdv A outer s0 H vs Q E hr h=>?_)
 .obtain ⟨A,g,st,os,n,k,b,lw,ws,fr,rfl,_⟩:=h
  rfl
 obtain ⟨A,g,st,os,n,k,b,lw,ws,fr,rfl,R,hk,hb,dj,bU,jD,nO,kE,hn,q⟩:=h
 have nd:=fC.nd
 refine ⟨_,(Zd (aH (Zv aY (pv 1) (Zl (K:=K) rfl (pv 0) rfl) (Zw _)) (Zd (aH (ZS (pv 4)) (Zh (Zo (Zk pV hr.m T.aN (pv 0) (pc (pv 1) (pc (pv 2) (pc (pv 3) Zb)))))) Zu)
   (Zh Iu)) Zu)
   (Zd (cF 5 nd (Zk rj hr.m T.aN (pv 0) (pc (pv 1) (pc (pv 2) Zb))))
   (Zd (aH (Du (Nt (pv 5))) (Zd (Zo (Zk ud hr.m T.aN (pv 0) (pc (pv 1) (pc (pv 2) (pc (pv 3) (pc (pv 4) Zb))))))
   (Zh Iu)) Zu)
   (Zd (lR (Zk kY hr.m T.aN (pv 0) (pc (pv 1) (pc (pv 5) Zb))) (ZV (K:=K) (n:=2) rfl rfl (Zr (bQ 6 nd) (Zr (bQ 7 nd) ZT))))
   (Zd (Zo (Zk ud hr.m T.aN (pv 0) (pc (pv 1) (pc (pv 2) (pc (pv 3) (pc (pv 4) Zb))))))
   (Zh (Zo (Zk xE hr.m T.aN (pv 0) (pc (ak ZA (pv 1) Zj) (pc (pv 5) (pc (pv 6) (pc (pv 7) Zb)))))))))))),?_⟩
 obtain ⟨dx,h1⟩:=R.ob
 have ln:=R.ln
 have lS:=R.lS
 cases r with
 | zero =>
  have ek:k=g.n:=by lia
  refine ⟨_,rfl,_,rfl,A.p,_,dx,_,_,rfl,h1,T.aN,T.oZ,qL ..,rfl,_,rfl,ym (λe=>?_) (λe=>absurd (show (k:Int)=(A.as.length:Int) by lia) e)⟩
  rw [pushS] at q
  cases fr with
  | true =>
   rw [ajr rfl] at q
   refine ⟨_,rfl,_,rfl,fT rfl ⟨_,rfl,A.p,dx,_,rfl,h1,aA ..,_,rfl,_,rfl,_,rfl,A,g,st,os,n,k,b,lw,ws,rfl,R,by lia,(λh=>absurd h (by lia)),bU,jD,nO,kE,by lia,λH2 fV R2 p2=>q (λi j hi hj hij x=>?_) (λh=>absurd h (aNy _)) (λj _=>uO) _ _ (R2.le (by lia)) p2⟩⟩
   rw [uO,uO]
   rw [wH] at hi hj
   exact dj i j hi hj hij x
  | false =>
   rw [aBJ (by decide)] at q
   exact ⟨_,rfl,_,rfl,cW rfl (q dj (λh=>absurd h (aNy _)) (λ_ _=>rfl) _ _ (R.le (by lia)) (bI.same (aB.refl _)))⟩
 | succ r =>
  have fU:k<g.n:=by lia
  obtain ⟨u1,u2,u3,u4,u5,u6⟩:=R.lM (k:=k) (by lia)
  refine ⟨_,rfl,_,rfl,A.p,_,dx,_,_,rfl,h1,T.aN,T.oZ,qL ..,rfl,_,rfl,ym (λe=>absurd e (by lia)) (λe=>?_)⟩
  dsimp only [fY]
  refine hide λu1 eu=>?_
  refine ⟨_,rfl,A.p,dx,_,rfl,h1,aA ..,_,rfl,_,rfl,A,g,st,os,n,k,b,rfl,R,fU,λH1 s1 gp=>gN ?_⟩
  subst eu
  try dsimp only
  have R1:=R.same s1
  have lC:=s1 _ _ jD
  obtain ⟨dU,h2⟩:=R1.ob
  have Mb:=hb k (by lia)
  rw [pushS] at q
  cases eg:eS (g.cf k) (st.at_ k) b with
  | none =>
   rw [eg] at gp q
   dsimp only at q
   have sq:=λj=>IC (g:=g) (k:=k) (b:=b) (ws:=ws) (fr:=fr) (st:=st) (j:=j) (by lia)
   refine ⟨_,rfl,_,rfl,fT rfl ⟨_,rfl,A.p,dU,_,rfl,h2,aA ..,_,rfl,_,rfl,_,rfl,_,rfl,A,g,st,os,n,k,b,lw,ws,fr,rfl,R1,fU,Mb,bU,NO gp,lC,nO,kE,by lia,λH2 fV R2 p2=>?_⟩⟩
   exact q (HY dj hb Bh sq) (λ_=>by rw [sq,ajr rfl]; exact af2 _ (ai5.mpr rfl)) (λj hj=>by rw [sq,aBJ (by lia)]) _ _ (R2.le (by lia)) ((bI.same s1).trans p2)
  | some go =>
   rw [eg] at gp q
   dsimp only at q
   obtain ⟨m1,m2,m3⟩:=yx eg
   refine ⟨_,rfl,_,rfl,cW rfl ?_⟩
   dsimp only [fY]
   refine hide λu1 eu=>?_
   refine ⟨_,rfl,A.p,dU,_,rfl,h2,aA ..,_,rfl,_,rfl,A,g,st,os,n,k,go,rfl,R1,fU,m1,by lia,λH2 fV t l et el nl R2 p2=>⟨t,_,rfl,bB.of et,rfl,_,_,rfl,gN ⟨_,_,rfl,gN ⟨rfl,?_⟩⟩⟩⟩
   subst eu
   try dsimp only
   obtain ⟨vP,xO⟩:=p2.out lC nO
   obtain ⟨i6,h3⟩:=R2.ob
   obtain ⟨d2,xK⟩:=DP dj (by lia) u6 m1
   have sg:=λj=>iN (b:=go) (j:=j) (st:=st) (k:=k) (by lia)
   have RO:((cR k go st).at_ k).seq=(st.at_ k).seq.erase go:=by rw [sg,ajr rfl]
   have vB:lX (cR k go st) b:=λj hj m=>by
    rw [bA] at hj
    rw [sg] at m
    split at m
    .exact hb j hj (ak3 m)
    .exact hb j hj m
   refine ⟨_,rfl,A.p,i6,_,rfl,h3,aA ..,_,rfl,_,rfl,_,rfl,_,rfl,A,g,_,fV,_,k,b,lw,ws,fr,rfl,R2,fU,vB k (by rw [bA]; lia),bU,by rw [RO]; exact Od u3 m1 m2,vP,xO,kE,by lia,λH3 jK R3 p3=>?_⟩
   obtain ⟨GX,FH⟩:=p3.out el nl
   obtain ⟨we,h4⟩:=R3.ob
   have sq:=λj=>IC (g:=g) (k:=k) (b:=b) (ws:=ws) (fr:=fr) (st:=cR k go st) (j:=j) (by rw [bA]; lia)
   have ne:go≠b:=λz=>Mb (z ▸ m1)
   have d3:=HY d2 vB (Bh (g:=g) (k:=k) (b:=b) (ws:=ws) (fr:=fr)) sq
   have Si:lX (bP g k b ws fr (cR k go st)) go:=λj hj m=>by
    rw [Bh] at hj
    rw [sq] at m
    split at m
    .rcases aPD.mp m with m | m
     .exact xK j hj m
     .exact ne (ai5.mp m)
    .exact xK j hj m
   have e0:=mO r rfl
   subst e0
   refine ⟨_,rfl,A.p,we,_,rfl,h4,aA ..,_,rfl,_,_,rfl,rfl,_,rfl,_,rfl,_,rfl,A,g,_,jK,_,k+1,go,l,_,_,rfl,R3,by lia,Si,d3,(u2 go m1).1,GX,FH,(u2 go m1).2,by lia,λz1 z2 z3 H4 vq R4 p4=>?_⟩
   refine q z1 (λ_=>?_) (λj hj=>?_) _ _ (R4.le (by lia)) ((((bI.same s1).trans p2).trans p3).trans p4)
   .rw [z3 k (by lia),sq,ajr rfl]
    exact af2 _ (ai5.mpr rfl)
   .rw [z3 j (by lia),sq,aBJ (by lia),sg,aBJ (by lia)]
theorem P7 (F:aZ K "push" "Stairs.push" ZJ f fd) (bi:Binds K fd ZC []) (m:Meth K (aa K "Stairs") "push" f) (T:Txt K mg) (pV:av P w K mg base (aa K "Stairs") "put" 3 Bk (ny K)) (rj:av P w K mg base (aa K "Stairs") "leaver" 4 Bv (Dk K)) (ud:av P w K mg base (aa K "Stairs") "come_apart" 7 ZK (HX K)) (kY:av P w K mg base (aa K "Stairs") "go_out" 5 ZE (yi K)):∀ n,av P w K mg base (aa K "Stairs") "push" (n+8) ZC (Dh K n)
 | 0=>by
  have M0:av P w K mg base (aa K "Stairs") "push" 7 ZC Vt:=⟨f,fd,⟨λ_ _ _ _ h=>h.elim,λ_ _ _ _ _ _ _ _ _ _ _ _ _ h=>h.elim⟩,m,bi⟩
  exact ⟨f,fd,P6 (r:=0) (λ_ h=>by lia) F T pV rj ud kY M0,m,bi⟩
 | n+1=>⟨f,fd,P6 (r:=n+1) (λj h=>by cases (show j=n by lia); rfl) F T pV rj ud kY (P7 F bi m T pV rj ud kY n),m,bi⟩
end
section
def NL (K:W.Frag):Sp:=λvs H Q _=>∃ (A:TA) (g:aK) (st:ao) (os:OS) (n:Nat) (b:Int),vs=[.ref A.p,.int (nearF st b:Nat),.int b]/\af K H A g st os n/\cG st/\b∈g.U/\n<=500000/\(cG (ye g (nearF st b) b st)->b∈((ye g (nearF st b) b st).at_ 0).seq->Res K H A g os (ye g (nearF st b) b st) (n+50) (Q .aR))
theorem ZcD (F:aZ K "fetch_apart" "Stairs.fetch_apart" Ku f fd) (T:Txt K mg) (xJ:av P w K mg base (aa K "Stairs") "use_in" 4 Es (Ib K)) (xF:av P w K mg base (aa K "Stairs") "words" 4 Eh (IE K)) (kY:av P w K mg base (aa K "Stairs") "go_out" 5 ZE (yi K)) (S9:∀ n,av P w K mg base (aa K "Stairs") "push" (n+8) ZC (Dh K n)):au P w K mg base aW 13 f fd Ks (NL K):=by
 refine F.ok bN (λvs H Q E h=>?_) (λcdv A outer s0 H vs Q E hr h=>?_)
 .obtain ⟨A,g,st,os,n,b,rfl,_⟩:=h
  rfl
 obtain ⟨A,g,st,os,n,b,rfl,R,dj,bU,hn,q⟩:=h
 have nd:=bN.nd
 have l4:g.n<=4:=R.wf.l4
 have l1:1<=g.n:=R.wf.l1
 have xE:=S9 g.n
 refine ⟨_,(Zh (aH (Zv aY (pv 1) Zj (Zw _)) (Zh (Zo (Zk xJ hr.m T.aN (pv 0) (pc (pv 1) (pc (pv 2) Zb))))) (Zh (aH (Zv aY (pv 1) (Zl (K:=K) rfl (pv 0) rfl) (Zw _)) (Zh (Zo (Zk xE hr.m T.aN (pv 0) (pc Zj (pc (pv 2) (pc (Zk xF hr.m T.aN (pv 0) (pc (pv 1) (pc (pv 2) Zb))) (pc eN Zb))))))) (Zd (lR (Zk kY hr.m T.aN (pv 0) (pc (pv 1) (pc (pv 2) Zb))) (ZV (K:=K) (n:=2) rfl rfl (Zr (bQ 3 nd) (Zr (bQ 4 nd) ZT))))
   (Zh (Zo (Zk xE hr.m T.aN (pv 0) (pc Zj (pc (pv 2) (pc (pv 3) (pc (pv 4) Zb)))))))))))),?_⟩
 obtain ⟨dx,h1⟩:=R.ob
 have ln:=R.ln
 have lS:=R.lS
 obtain ⟨b0,b1⟩:=R.wf.ub b bU
 have Sw:=AW st b
 have sD:=DE (st:=st) (b:=b)
 have zL:=λj=>DQ (st:=st) (b:=b) (j:=j)
 generalize nearF st b=k at *
 unfold ye at q
 refine ⟨_,rfl,rfl,_,rfl,ym (λe=>?_) (λe=>?_)⟩
 .have e0:k=0:=by lia
  subst e0
  rw [ajr rfl] at q
  have hb:=sD (by lia)
  have eu:bR g 0 b st=st.set 0 (kR (g.cf 0) (st.at_ 0) b):=ajr (by lia)
  rw [eu] at q
  have sq:∀ j,((st.set 0 (kR (g.cf 0) (st.at_ 0) b)).at_ j).seq.Perm (st.at_ j).seq:=λj=>by
   rw [wI]
   split
   .rename_i z; rw [z.1]; exact wK hb
   .exact List.Perm.refl _
  refine ⟨_,rfl,A.p,dx,_,rfl,h1,aA ..,_,rfl,_,rfl,A,g,st,os,n,0,b,rfl,R,by lia,hb,λH1 aX R1 p1=>q (λi j hi hj hij x hx hx'=>?_) ((sq 0).mem_iff.mpr hb) _ _ (R1.le (by lia)) p1⟩
  rw [bw] at hi hj
  exact dj i j hi hj hij x ((sq i).mem_iff.mp hx) ((sq j).mem_iff.mp hx')
 .have n0:k≠0:=by lia
  rw [aBJ n0] at q
  refine ⟨_,rfl,_,rfl,A.p,_,dx,_,_,rfl,h1,T.aN,T.oZ,qL ..,rfl,_,rfl,ym (λe'=>?_) (λe'=>?_)⟩
  .have ek:k=g.n:=by lia
   rw [ajr ek] at q
   refine ⟨_,rfl,A.p,dx,_,rfl,h1,aA ..,_,rfl,_,rfl,A.p,dx,_,rfl,h1,aA ..,_,rfl,_,rfl,A,g,st,os,n,k,b,rfl,R,by lia,(λh=>absurd h (by lia)),b0,b1,λlw H1 jD s1 ew=>?_⟩
   have ew:H1 lw=some (.lst ((bg g.size st.mem b).map V.int)):=by rw [ew]; unfold jZ; rw [ajr ek]
   exact ⟨A,g,st,os,n,0,b,lw,_,false,rfl,R.same s1,by lia,λj hj=>zL j (by lia) hj,dj,bU,ew,R.fresh jD,by unfold bg; rw [afy,at7],by lia,λz1 z2 _ H2 fV R2 p2=>q z1 (z2 (by lia)) _ _ (R2.le (by lia)) ((bI.same s1).trans p2)⟩
  .have fU:k<g.n:=by lia
   rw [aBJ (by lia)] at q
   have hb:=sD (by lia)
   obtain ⟨u1,u2,u3,u4,u5,u6⟩:=R.lM (k:=k) (by lia)
   obtain ⟨d2,xK⟩:=DP dj (by lia) u6 hb
   refine ⟨_,rfl,A.p,dx,_,rfl,h1,aA ..,_,rfl,_,rfl,A,g,st,os,n,k,b,rfl,R,fU,hb,by lia,λH2 fV t l et el nl R2 p2=>⟨t,_,rfl,bB.of et,rfl,_,_,rfl,gN ⟨_,_,rfl,gN ⟨rfl,?_⟩⟩⟩⟩
   try dsimp only
   obtain ⟨i6,h2⟩:=R2.ob
   exact ⟨_,rfl,A.p,i6,_,rfl,h2,aA ..,_,rfl,_,rfl,_,rfl,A,g,_,fV,_,0,b,l,_,_,rfl,R2,by lia,xK,d2,bU,el,nl,(u2 b hb).2,by lia,λz1 z2 _ H3 jK R3 p3=>q z1 (z2 (by lia)) _ _ (R3.le (by lia)) (p2.trans p3)⟩
def HW (K:W.Frag):Sp:=λvs H Q _=>∃ (A:TA) (g:aK) (st:ao) (os:OS) (n:Nat) (b:Int),vs=[.ref A.p,.int b]/\af K H A g st os n/\(g.kind = "apart" -> cG st)/\b∈g.U/\n<=400000/\((g.kind = "apart" -> cG (ZP g b st))->b∈((ZP g b st).at_ 0).seq->Res K H A g os (ZP g b st) (n+60) (Q .aR))
theorem Zfe (F:aZ K "fetch" "Stairs.fetch" J8 f fd) (T:Txt K mg) (EE:av P w K mg base (aa K "Stairs") "nearest" 3 Kv (Pd K)) (EI:av P w K mg base (aa K "Stairs") "tell_found" 1 Kn (MS K)) (Fo:av P w K mg base (aa K "Stairs") "fetch_apart" 13 Ks (NL K)) (EK:av P w K mg base (aa K "Stairs") "fetch_down" 7 Kq (MR K)):au P w K mg base aW 14 f fd Er (HW K):=by
 refine F.ok eG (λvs H Q E h=>?_) (λcdv A outer s0 H vs Q E hr h=>?_)
 .obtain ⟨A,g,st,os,n,b,rfl,_⟩:=h
  rfl
 obtain ⟨A,g,st,os,n,b,rfl,R,dj,bU,hn,q⟩:=h
 have nd:=eG.nd
 refine ⟨_,(Zd (cF 2 nd (Zk EE hr.m T.aN (pv 0) (pc (pv 1) Zb)))
   (Zd (Zo (Zk EI hr.m T.aN (pv 0) (pc (pv 2) Zb)))
   (Zh (aH (Zv aY (Zl (K:=K) rfl (pv 0) rfl) j5 (Zw _)) (Zh (Zo (Zk Fo hr.m T.aN (pv 0) (pc (pv 2) (pc (pv 1) Zb))))) (Zh (Zo (Zk EK hr.m T.aN (pv 0) (pc (pv 2) (pc (pv 1) Zb))))))))),?_⟩
 obtain ⟨dx,h1⟩:=R.ob
 refine ⟨_,rfl,A.p,dx,_,rfl,h1,aA ..,_,rfl,A,g,st,os,n,b,rfl,R,λH1 s1=>gN ?_⟩
 try dsimp only
 have R1:=R.same s1
 refine ⟨_,rfl,A.p,dx,_,rfl,s1 _ _ h1,aA ..,_,rfl,A,g,st,os,n,nearF st b,rfl,R1,(by have:=AW st b; have:=R.lS; have:=R.ln; lia),by lia,λH2 fV R2 p2=>?_⟩
 obtain ⟨i6,h2⟩:=R2.ob
 unfold ZP at q
 refine ⟨_,rfl,A.p,_,i6,_,_,rfl,h2,T.aN,T.EU,NR ..,rfl,_,rfl,mW (λc=>?_) (λc=>?_)⟩
 .have c':g.kind = "apart" := by injection c
  rw [ajr c'] at q
  exact ⟨_,rfl,A.p,i6,_,rfl,h2,aA ..,_,rfl,_,rfl,A,g,st.tell (eF (nearF st b)),fV,_,b,rfl,R2,dj c',bU,by lia,λz1 z2 H3 jK R3 p3=>q (λ_=>z1) z2 _ _ (R3.le (by lia)) (((bI.same s1).trans p2).trans p3)⟩
 .have c':¬ g.kind = "apart" := λz=>c (by rw [z])
  rw [aBJ c'] at q
  exact ⟨_,rfl,A.p,i6,_,rfl,h2,aA ..,_,rfl,_,rfl,A,g,st.tell (eF (nearF st b)),fV,_,nearF st b,b,rfl,R2,rfl,bU,by lia,λz2 H3 jK R3 p3=>q (λz=>absurd z c') z2 _ _ (R3.le (by lia)) (((bI.same s1).trans p2).trans p3)⟩
def HG (K:W.Frag):Sp:=λvs H Q _=>∃ (A:TA) (g:aK) (st:ao) (os:OS) (sp:Int),vs=[.ref A.p,.int sp]/\af K H A g st os 0/\(g.kind = "apart" -> cG st)/\sp / g.size∈g.U /\
 ∀ H' e' os' tp,H' tp=some (.tup [.int (kQ g ((ZP g (sp / g.size) st).at_ 0) sp),.ref A.ev])->af K H' (A.re e') g (mT (ZP g (sp / g.size) st)) os' 0->qY g.n H' A.ev (ZP g (sp / g.size) st).ev->(ZP g (sp / g.size) st).ev.length<=100->¬ OW (A.re e') os' A.ev->bI (OW A os) H H' (OW (A.re e') os')->(g.kind = "apart" -> cG (ZP g (sp / g.size) st))->sp / g.size∈((ZP g (sp / g.size) st).at_ 0).seq->Q (.ref tp) H'
theorem Z9 (F:aZ K "read" "Stairs.read" JI f fd) (T:Txt K mg) (oW:Def P w K mg base "board_of" 1 yw AX) (xH:av P w K mg base (aa K "Stairs") "fetch" 14 Er (HW K)) (EB:av P w K mg base (aa K "Stairs") "word_in" 4 JZ (Oh K)) (rZ:av P w K mg base (aa K "Stairs") "happened" 1 ZN (D8 K)):au P w K mg base aW 15 f fd Ef (HG K):=by
 refine F.ok fB (λvs H Q E h=>?_) (λcdv A outer s0 H vs Q E hr h=>?_)
 .obtain ⟨A,g,st,os,sp,rfl,_⟩:=h
  rfl
 obtain ⟨A,g,st,os,sp,rfl,R,dj,bU,q⟩:=h
 have nd:=fB.nd
 refine ⟨_,(Zd (cF 2 nd (Zm oW hr.m rfl (pc (Zl (K:=K) rfl (pv 0) rfl) (pc (pv 1) Zb))))
   (Zd (Zo (Zk xH hr.m T.aN (pv 0) (pc (pv 2) Zb)))
   (Zh (Zt (j4 (pc (Zk EB hr.m T.aN (pv 0) (pc Zj (pc (pv 1) Zb))) (pc (tu rZ hr.m T.aN (pv 0)) Zb))))))),?_⟩
 obtain ⟨dx,h1⟩:=R.ob
 have z0:=R.wf.z0
 have z1:=R.wf.z1
 have l1:1<=g.n:=R.wf.l1
 refine ⟨_,rfl,A.p,_,dx,_,_,rfl,h1,T.aN,T.vm,yj ..,_,rfl,g.size,sp,rfl,by lia,by lia,gN ?_⟩
 try dsimp only
 refine ⟨_,rfl,A.p,dx,_,rfl,h1,aA ..,_,rfl,A,g,st,os,0,_,rfl,R,dj,bU,by decide,λy1 y2 H1 aX R1 p1=>?_⟩
 obtain ⟨dU,h2⟩:=R1.ob
 refine ⟨_,rfl,A.p,dU,_,rfl,h2,aA ..,_,rfl,A,g,_,aX,_,0,sp,rfl,R1,l1,y2,λH2 s2=>?_⟩
 have R2:=R1.same s2
 refine ⟨_,rfl,A.p,dU,_,rfl,s2 _ _ h2,aA ..,A,g,_,aX,_,rfl,R2,λe' H3 R3 GU ne3 p3=>⟨(sl 2),λtp htp=>?_⟩⟩
 have s4:=Zg htp (.tup [.int (kQ g ((ZP g (sp / g.size) st).at_ 0) sp),.ref A.ev])
 exact q _ e' aX tp Za (R3.same s4) (GU.frame (λo e=>s4 _ _ e) λx ys e=>s4 _ _ e) (awv R1.sP (by decide)) ne3 (((p1.trans (bI.same s2)).trans p3).trans (bI.same s4)) y1 y2
def NK (K:W.Frag):Sp:=λvs H Q _=>∃ (A:TA) (g:aK) (st:ao) (os:OS) (sp x:Int),vs=[.ref A.p,.int sp,.int x]/\af K H A g st os 0/\(g.kind = "apart" -> cG st)/\sp / g.size∈g.U /\
 ∀ H' e' os',af K H' (A.re e') g (mT (uP g sp x st)) os' 0->qY g.n H' A.ev (uP g sp x st).ev->(uP g sp x st).ev.length<=100->¬ OW (A.re e') os' A.ev->bI (OW A os) H H' (OW (A.re e') os')->(g.kind = "apart" -> cG (uP g sp x st))->sp / g.size∈((uP g sp x st).at_ 0).seq->Q (.ref A.ev) H'
theorem Vs {st st':ao} (d:cG st) (l:st'.rm.length=st.rm.length) (sq:∀ j,(st'.at_ j).seq=(st.at_ j).seq):cG st':=λi j hi hj hij x hx hx'=>by
 rw [l] at hi hj
 rw [sq] at hx hx'
 exact d i j hi hj hij x hx hx'
theorem Zff (F:aZ K "write" "Stairs.write" Ka f fd) (T:Txt K mg) (oW:Def P w K mg base "board_of" 1 yw AX) (xH:av P w K mg base (aa K "Stairs") "fetch" 14 Er (HW K)) (ED:av P w K mg base (aa K "Stairs") "put_word" 2 KA (Pe K)) (xx:av P w K mg base (aa K "Stairs") "change" 5 El (IB K)) (rZ:av P w K mg base (aa K "Stairs") "happened" 1 ZN (D8 K)):au P w K mg base aW 15 f fd J9 (NK K):=by
 refine F.ok eB (λvs H Q E h=>?_) (λcdv A outer s0 H vs Q E hr h=>?_)
 .obtain ⟨A,g,st,os,sp,x,rfl,_⟩:=h
  rfl
 obtain ⟨A,g,st,os,sp,x,rfl,R,dj,bU,q⟩:=h
 have nd:=eB.nd
 refine ⟨_,(Zd (cF 3 nd (Zm oW hr.m rfl (pc (Zl (K:=K) rfl (pv 0) rfl) (pc (pv 1) Zb))))
   (Zd (Zo (Zk xH hr.m T.aN (pv 0) (pc (pv 3) Zb)))
   (Zd (Zo (Zk ED hr.m T.aN (pv 0) (pc Zj (pc (pv 1) (pc (pv 2) Zb)))))
   (Zd (Zo (Zk xx hr.m T.aN (pv 0) (pc Zj (pc (pv 3) Zb))))
   (Zh (Zt (tu rZ hr.m T.aN (pv 0)))))))),?_⟩
 obtain ⟨dx,h1⟩:=R.ob
 have z0:=R.wf.z0
 have z1:=R.wf.z1
 have l1:1<=g.n:=R.wf.l1
 refine ⟨_,rfl,A.p,_,dx,_,_,rfl,h1,T.aN,T.vm,yj ..,_,rfl,g.size,sp,rfl,by lia,by lia,gN ?_⟩
 try dsimp only
 refine ⟨_,rfl,A.p,dx,_,rfl,h1,aA ..,_,rfl,A,g,st,os,0,_,rfl,R,dj,bU,by decide,λy1 y2 H1 aX R1 p1=>?_⟩
 obtain ⟨dU,h2⟩:=R1.ob
 refine ⟨_,rfl,A.p,dU,_,rfl,h2,aA ..,_,rfl,_,rfl,A,g,_,aX,_,0,sp,x,rfl,R1,l1,y2,λH2 fV R2 p2=>?_⟩
 obtain ⟨i6,h3⟩:=R2.ob
 have yV:∀ j,(((ZP g (sp / g.size) st).set 0 (o7 g ((ZP g (sp / g.size) st).at_ 0) sp x)).at_ j).seq=((ZP g (sp / g.size) st).at_ j).seq:=λj=>Dj rfl
 refine ⟨_,rfl,A.p,i6,_,rfl,h3,aA ..,_,rfl,A,g,_,fV,_,0,_,rfl,R2,l1,by rw [yV]; exact y2,by decide,λH3 jK R3 p3=>?_⟩
 obtain ⟨we,h4⟩:=R3.ob
 have Li:∀ j,((uP g sp x st).at_ j).seq=((ZP g (sp / g.size) st).at_ j).seq:=λj=>jY.trans (yV j)
 refine ⟨_,rfl,A.p,we,_,rfl,h4,aA ..,A,g,_,jK,_,rfl,R3,λe' H4 R4 Ud ne4 p4=>?_⟩
 exact q _ e' jK R4 Ud (awv R3.sP (by decide)) ne4 (((p1.trans p2).trans p3).trans p4) (λc=>Vs (y1 c) (by have a1:=R3.lS; have a2:=R1.lS; show (uP g sp x st).rm.length=_; rw [a2]; exact a1) Li) (by rw [Li]; exact y2)
end
section
theorem US (x y:Str) (r:Int) (h0:0<=r) (h1:r<2):∃ z:Str,fX [V.str x,V.str y] r=some (.str z)/\(z=x\/z=y):=by
 have h:r=0\/r=1:=by lia
 rcases h with rfl | rfl
 .exact ⟨x,gF,.inl rfl⟩
 .exact ⟨y,iz,.inr rfl⟩
def MQ:Sp:=λvs H Q _=>∃ (b:Addr) (a q c:Int),vs=[.ref b]/\aE H b a q c/\c<400000000 /\
 ∀ (p:Addr) (sh pl:Int) (r wr:Str) (a' c':Int) (H':Hp),H' p=some (.tup [.int sh,.int pl,.str r,.str wr])->1<=sh->sh<=64->1<=pl->pl<=16->tH r->Wr wr->aE H' b a' q c'->c'<=c+6->SB b H H'->Q (.ref p) H'
theorem YB (F:aZ K "_law_room_plan" "_law_room_plan" Jk f fd) (T:Txt K mg) (cO:Def P w K mg base "_law_take" 1 sU uQ):au P w K mg base aW 2 f fd Jj MQ:=by
 refine F.ok gK (λvs H Q E h=>?_) (λcdv A outer st H vs Q E hr h=>?_)
 .obtain ⟨b,a,q,c,rfl,_⟩:=h
  rfl
 obtain ⟨b,a,q,c,rfl,B,hc,k⟩:=h
 have nd:=gK.nd
 refine ⟨_,(Zd (cF 1 nd (qO aY (Zm cO hr.m rfl (pc (pv 0) (pc Zj Zb))) Zj (Zw _)))
   (Zd (cF 2 nd (wQ (ZS (pv 1)) (ak ZA Zj (Zm cO hr.m rfl (pc (pv 0) (pc Zj Zb)))) (az (Zq (K:=K) rfl) (mh (pc Zj (pc Zj (pc Zj (pc Zj (pc Zj Zb)))))) (Zm cO hr.m rfl (pc (pv 0) (pc Zj Zb))) (λ_ _=>rfl))))
   (Zd (cF 3 nd (ak ZA Zj (Zm cO hr.m rfl (pc (pv 0) (pc (wQ (ZS (pv 1)) Zj Zj) Zb)))))
   (Zd (cF 4 nd (az (Zq (K:=K) rfl) (mh (pc j5 (pc j5 (pc j5 Zb)))) (Zm cO hr.m rfl (pc (pv 0) (pc Zj Zb))) (λ_ _=>rfl)))
   (Zh (Zt (j4 (pc (pv 2) (pc (pv 3) (pc (pv 4) (pc (az (Zq (K:=K) rfl) (mh (pc j5 (pc j5 Zb))) (Zm cO hr.m rfl (pc (pv 0) (pc Zj Zb))) (λ_ _=>rfl)) Zb))))))))))),?_⟩
 refine ⟨_,rfl,b,a,q,c,6,rfl,B,by lia,by decide,by decide,λr1 a1 c1 H1 ua xw B1 hc1 s1=>⟨rfl,?_⟩⟩
 generalize decide (V.int r1=V.int 0)=Mx
 try dsimp only
 refine De (λv G=>∃ z a' c',v=.int z/\1<=z/\z<=64/\aE G b a' q c'/\c'<=c1+1/\SB b H G) (λQ' k'=>?_) ?_
 .refine ⟨_,rfl,_,rfl,?_⟩
  cases Mx with
  | true=>exact fT rfl ⟨_,rfl,b,a1,q,c1,64,rfl,B1,by lia,by decide,by decide,λr2 a2 c2 H2 pT oV B2 hc2 s2=>⟨_,_,rfl,rfl,k' _ _ ⟨_,a2,c2,rfl,by lia,by lia,B2,by lia,s1.trans s2⟩⟩⟩
  | false =>
   refine cW rfl ⟨(sl 5),λp0 hp0=>⟨_,rfl,b,a1,q,c1,5,rfl,B1.same (Zg hp0 _),by lia,by decide,by decide,λr2 a2 c2 H2 pT oV B2 hc2 s2=>?_⟩⟩
   have q0:b≠p0:=Ze B1.at' hp0
   obtain ⟨sh,hsh,yZ,yY⟩:=zp r2 pT oV
   exact ⟨p0,_,_,_,rfl,rfl,aF.of (s2 _ _ (aFS q0) Za),hsh,k' _ _ ⟨_,a2,c2,rfl,yZ,yY,B2,by lia,s1.trans (((Zg hp0 _).sb b).trans s2)⟩⟩
 rintro _ H2 ⟨sh,a2,c2,rfl,yZ,yY,B2,hc2,u2⟩
 refine gN ?_
 try dsimp only
 refine De (λv G=>∃ z a' c',v=.int z/\1<=z/\z<=16/\aE G b a' q c'/\c'<=c2+1/\SB b H G) (λQ' k'=>?_) ?_
 .refine ⟨_,rfl,_,rfl,_,rfl,?_⟩
  cases Mx with
  | true=>exact fT rfl ⟨b,a2,q,c2,16,rfl,B2,by lia,by decide,by decide,λr3 a3 c3 H3 vg t9 B3 hc3 s3=>⟨_,_,rfl,rfl,k' _ _ ⟨_,a3,c3,rfl,by lia,by lia,B3,by lia,u2.trans s3⟩⟩⟩
  | false=>exact cW rfl ⟨b,a2,q,c2,4,rfl,B2,by lia,by decide,by decide,λr3 a3 c3 H3 vg t9 B3 hc3 s3=>⟨_,_,rfl,rfl,k' _ _ ⟨_,a3,c3,rfl,by lia,by lia,B3,by lia,u2.trans s3⟩⟩⟩
 rintro _ H3 ⟨pl,a3,c3,rfl,Ft,Fq,B3,hc3,u3⟩
 refine gN ?_
 try dsimp only
 refine ⟨(sl 3),λp3 hp3=>⟨_,rfl,b,a3,q,c3,3,rfl,B3.same (Zg hp3 _),by lia,by decide,by decide,λr4 a4 c4 H4 zl Cn B4 hc4 s4=>?_⟩⟩
 have q3:b≠p3:=Ze B3.at' hp3
 obtain ⟨ru,Tn,Te⟩:=zo r4 zl Cn
 refine ⟨p3,_,_,_,rfl,rfl,aF.of (s4 _ _ (aFS q3) Za),Tn,?_⟩
 have u4:SB b H H4:=u3.trans (((Zg hp3 _).sb b).trans s4)
 refine ⟨_,rfl,_,rfl,_,rfl,(sl 2),λp5 Gv=>⟨_,rfl,b,a4,q,c4,2,rfl,B4.same (Zg Gv _),by lia,by decide,by decide,λr5 a5 c5 H5 Fl Lm B5 hc5 s5=>?_⟩⟩
 have q5:b≠p5:=Ze B4.at' Gv
 obtain ⟨wr,hwr,Td⟩:=US "late" "through" r5 Fl Lm
 refine ⟨p5,_,_,_,rfl,rfl,aF.of (s5 _ _ (aFS q5) Za),hwr,(sl 4),λpp hpp=>?_⟩
 exact k pp sh pl ru wr a5 c5 _ Za yZ yY Ft Fq Te Td (B5.same (Zg hpp _)) (by lia)
  ((u4.trans (((Zg Gv _).sb b).trans s5)).trans ((Zg hpp _).sb b))
end
theorem UR (r:Int) (h0:0<=r) (h1:r<3):∃ z:Str,fX [V.str "within",V.str "apart",V.str "free"] r=some (.str z)/\(z = "within" \/ z = "apart" \/ z = "free"):=by
 have h:r=0\/r=1\/r=2:=by lia
 rcases h with rfl | rfl | rfl
 .exact ⟨_,gF,.inl rfl⟩
 .exact ⟨_,iz,.inr (.inl rfl)⟩
 .exact ⟨_,ju,.inr (.inr rfl)⟩
section
def NJ (K:W.Frag):Sp:=λvs H Q _=>∃ (b:Addr) (a q c:Int),vs=[.ref b]/\aE H b a q c/\c<300000000 /\
 ∀ (pp tp:Addr) (ts:List Addr) (size:Int) (kind:Str) (aT:List Cf) (a' c':Int) (H':Hp),H' pp=some (.tup [.int size,.str kind,.ref tp])->dX K H' tp ts aT->(kind = "within" \/ kind = "apart" \/ kind = "free")->1<=size->size<=16->1<=aT.length->aT.length<=4->aE H' b a' q c'->c'<=c+40->SB b H H'->Q (.ref pp) H'
theorem Vr (F:aZ K "_law_plan" "_law_plan" Dn f fd) (T:Txt K mg) (cO:Def P w K mg base "_law_take" 1 sU uQ) (F7:Def P w K mg base "_law_room_plan" 2 Jj MQ):au P w K mg base aW 3 f fd HD (NJ K):=by
 refine F.ok nK (λvs H Q E h=>?_) (λcdv A outer st H vs Q E hr h=>?_)
 .obtain ⟨b,a,q,c,rfl,_⟩:=h
  rfl
 obtain ⟨b,a,q,c,rfl,B,hc,k⟩:=h
 have nd:=nK.nd
 refine ⟨_,(Zd (cF 1 nd (az (Zq (K:=K) rfl) (mh (pc j5 (pc j5 (pc j5 Zb)))) (Zm cO hr.m rfl (pc (pv 0) (pc Zj Zb))) (λ_ _=>rfl)))
   (Zd (cF 2 nd (ak ZA Zj (Zm cO hr.m rfl (pc (pv 0) (pc (az (Zq (K:=K) rfl) (mh (pc Zj (pc Zj Zb))) (uX Ji rfl T.xR D5 (pc (qO aY (Zm cO hr.m rfl (pc (pv 0) (pc Zj Zb))) Zj (Zw _)) Zb)) (λ_ _=>rfl)) Zb)))))
   (Zh (Zt (j4 (pc (pv 2) (pc (pv 1) (pc (uX (Zfm (K:=K) rfl) rfl T.z9 JX (pc (wN (tE (jJ:=(Zi Dn)) (oN:=m7) (N:=["_law_k", "_law_box_here"]) (own:=1) (js:=[0]) (by decide +kernel) rfl rfl) rfl (tF rfl T.mF (pc (ak ZA Zj (Zm cO hr.m rfl (pc (pv 0) (pc Zj Zb)))) Zb)) (λ_ _ _ _ _ _=>(bQ 0 (show List.Nodup (["_law_k", "_law_box_here"]:List Str) by decide +kernel))) (λ_ _ _ _ _ _=>(Zm F7 hr.m rfl (pc (pv 1) Zb)))) Zb)) Zb)))))))),?_⟩
 refine ⟨(sl 3),λp1 hp1=>⟨_,rfl,b,a,q,c,3,rfl,B.same (Zg hp1 _),by lia,by decide,by decide,λr1 a1 c1 H1 ua xw B1 hc1 s1=>?_⟩⟩
 have q1:b≠p1:=Ze B.at' hp1
 obtain ⟨kd,hkd,LR⟩:=UR r1 ua xw
 refine ⟨p1,_,_,_,rfl,rfl,aF.of (s1 _ _ (aFS q1) Za),hkd,gN ?_⟩
 try dsimp only
 have u1:SB b H H1:=((Zg hp1 _).sb b).trans s1
 refine ⟨_,rfl,(sl 2),λp2 hp2=>⟨_,rfl,b,a1,q,c1,8,rfl,B1.same (Zg hp2 _),by lia,by decide,by decide,λr2 a2 c2 H2 pT oV B2 hc2 s2=>⟨rfl,.inr ⟨_,rfl,?_⟩⟩⟩⟩
 have q2:b≠p2:=Ze B1.at' hp2
 obtain ⟨n,hn,hn'⟩:=MW 4 16 (decide (V.int r2=V.int 0))
 refine ⟨p2,_,_,_,rfl,rfl,aF.of (s2 _ _ (aFS q2) Za),hn,b,a2,q,c2,n,rfl,B2,by lia,by lia,by lia,λr3 a3 c3 H3 vg t9 B3 hc3 s3=>⟨_,_,rfl,rfl,gN ?_⟩⟩
 try dsimp only
 have u3:SB b H H3:=(((u1.trans ((Zg hp2 _).sb b)).trans s2)).trans s3
 refine ⟨_,rfl,_,rfl,_,rfl,b,a3,q,c3,4,rfl,B3,by lia,by decide,by decide,λr4 a4 c4 H4 zl Cn B4 hc4 s4=>⟨_,_,rfl,rfl,_,rfl,by lia,by lia,λl hl=>?_⟩⟩
 have k7:l≠b:=aFS (Ze B4.at' hl)
 have u4:=u3.trans s4
 refine Eb (lo:=0) (n:=(1+r4).toNat) (l:=l) (λj ys σ G=>∃ (v0:Option V) (ts:List Addr) (aT:List Cf) (a' c':Int),σ=[v0,some (.ref b)]/\ys=ts.map V.ref/\ts.length=j/\aT.length=j/\(∀ (i:Nat) (t:Addr) (c:Cf),ts[i]?=some t->aT[i]?=some c->∃ wr:Str,G t=some (.tup [.int c.sh,.int c.pl,.str c.ru,.str wr])/\c.late=decide (wr = "late")/\Wr wr)/\(∀ c∈aT,1<=c.sh/\c.sh<=64/\1<=c.pl/\c.pl<=16/\tH c.ru)/\G l=some (.lst ys)/\aE G b a' q c'/\c'<=c4+6 * (j:Int)/\SB b H G)
  ⟨none,[],[],a4,c4,rfl,rfl,rfl,rfl,(λi t c h=>by simp at h),(λc h=>by simp at h),Za,B4.same (Zg hl _),by lia,u4.trans ((Zg hl _).sb b)⟩ ?_ ?_
 .rintro j ys σ G hj hys ⟨v0,ts,aT,a',c',rfl,rfl,hl1,hl2,hat,hcf,g1,B',hc',u'⟩
  refine ⟨_,rfl,b,a',q,c',rfl,B',by lia,λp sh pl r wr a5 c5 G5 ep yZ yY Ft Fq hr hw B5 hc5 s5=>?_⟩
  have g5:=s5 _ _ k7 g1
  have Ss:p≠l:=λz=>by rw [z,g5] at ep; cases ep
  refine kP.of (awv (by lia:(1+r4).toNat<=4) (by decide)) hj hys g5 ⟨_,ts++[p],aT++[⟨sh,pl,r,decide (wr = "late")⟩],a5,c5,rfl,by rw [aAZ]; rfl,by rw [ap5,hl1]; rfl,by rw [ap5,hl2]; rfl,λi t c h1 h2=>?_,λc hc=>?_,Za,B5.sb (ya l _ _) (aFS k7),by lia,λx o nx e=>?_⟩
  .by_cases hi:i<j
   .rw [aRC (by lia)] at h1 h2
    obtain ⟨wr',e1,e2⟩:=hat i t c h1 h2
    refine ⟨wr',?_,e2⟩
    have xN:t≠b:=λz=>by rw [z,B'.at'] at e1; cases e1
    have nZ:=s5 _ _ xN e1
    rw [Zc (λz=>by rw [z,g5] at nZ; cases nZ)]
    exact nZ
   .have hi2:i=j:=by have:=(a7Y.mp h1).1; rw [ap5,aay] at this; lia
    subst hi2
    rw [aUi (by lia),show i - ts.length=0 by lia] at h1
    rw [aUi (by lia),show i - aT.length=0 by lia] at h2
    cases h1; cases h2
    exact ⟨wr,by rw [Zc Ss]; exact ep,rfl,hw⟩
  .rcases aPD.mp hc with hc | hc
   .exact hcf c hc
   .rw [ai5.mp hc]; exact ⟨yZ,yY,Ft,Fq,hr⟩
  .have Sh:x≠l:=λz=>by
    rw [z] at e
    have:=u4 _ _ k7 e
    rw [this] at hl; cases hl
   rw [Zc Sh]
   exact s5 _ _ nx (u' _ _ nx e)
 rintro ys σ G _ ⟨v0,ts,aT,a',c',rfl,rfl,hl1,hl2,hat,hcf,g1,B',hc',u'⟩
 refine ⟨l,_,rfl,.inl ⟨aF.of g1,λtp htp=>⟨(sl 3),λpp hpp=>?_⟩⟩⟩
 have s5:=Zg htp (.tup (ts.map V.ref))
 have s6:=s5.trans (Zg hpp (.tup [.int (1+r3),.str kd,.ref tp]))
 refine k pp tp ts (1+r3) kd aT a' c' _ Za ⟨Zg hpp _ _ _ Za,by show ts.length=aT.length; lia,λi t c h1 h2=>by obtain ⟨wr,e1,e2⟩:=hat i t c h1 h2; exact ⟨wr,s6 _ _ e1,e2⟩,hcf⟩ LR (by show 1<=1+r3; lia) (by show 1+r3<=16; lia) (by show 1<=aT.length; lia) (by show aT.length<=4; lia) (B'.same s6) (by lia) (u'.trans (s6.sb b))
end
section
def MP:Sp:=λvs H Q _=>∃ (b:Addr) (a q c x y:Int),vs=[.ref b,.int x,.int y]/\aE H b a q c/\c<1099511627770/\0<x/\x<=y/\y<1073741824 /\
 ∀ (r a' c':Int) (H':Hp),1<=r->r<=y->aE H' b a' q c'->c'<=c+2->SB b H H'->Q (.int r) H'
theorem Vq (F:aZ K "_law_many" "_law_many" Hy f fd) (T:Txt K mg) (cO:Def P w K mg base "_law_take" 1 sU uQ):au P w K mg base aW 2 f fd Hx MP:=by
 refine F.ok nL (λvs H Q E h=>?_) (λcdv A outer st H vs Q E hr h=>?_)
 .obtain ⟨b,a,q,c,x,y,rfl,_⟩:=h
  rfl
 obtain ⟨b,a,q,c,x,y,rfl,B,hc,x0,xy,y1,k⟩:=h
 have nd:=nL.nd
 refine ⟨_,(Zd (cF 3 nd (qO aY (Zm cO hr.m rfl (pc (pv 0) (pc Zj Zb))) Zj (Zw _)))
   (Zh (Zt (ak ZA Zj (Zm cO hr.m rfl (pc (pv 0) (pc (wQ (ZS (pv 3)) (pv 2) (pv 1)) Zb))))))),?_⟩
 refine ⟨_,rfl,b,a,q,c,8,rfl,B,by lia,by decide,by decide,λr a1 c1 G1 r0 r1 B1 hc1 t1=>?_⟩
 refine ⟨rfl,gN ?_⟩
 refine ⟨_,rfl,_,rfl,_,rfl,II (λz=>?_) (λz=>?_)⟩
 .refine ⟨_,rfl,b,a1,q,c1,y,rfl,B1,by lia,by lia,by lia,λr2 a2 c2 G2 pT oV B2 hc2 t2=>?_⟩
  exact ⟨_,_,rfl,rfl,k (1+r2) a2 c2 G2 (by lia) (by lia) B2 (by lia) (t1.trans t2)⟩
 .refine ⟨_,rfl,b,a1,q,c1,x,rfl,B1,by lia,by lia,by lia,λr2 a2 c2 G2 pT oV B2 hc2 t2=>?_⟩
  exact ⟨_,_,rfl,rfl,k (1+r2) a2 c2 G2 (by lia) (by lia) B2 (by lia) (t1.trans t2)⟩
end
inductive Dd where
 | rd (sp:Int)
 | wt (sp x:Int)
def Dd.sp:Dd->Int
 | .rd sp=>sp
 | .wt sp _=>sp
def Dd.vs:Dd->List V
 | .rd sp=>[.str "read",.int sp]
 | .wt sp x=>[.str "write",.int sp,.int x]
def Dd.ok:Dd->Prop
 | .rd sp=>0<=sp/\sp<=9999
 | .wt sp x=>(0<=sp/\sp<=9999)/\x.natAbs<10 ^ 40
section
def NI:Sp:=λvs H Q _=>∃ (b:Addr) (a q c:Int),vs=[.ref b]/\aE H b a q c/\c<400000000/\∀ (x a' c':Int) (H':Hp),x.natAbs<10 ^ 40->aE H' b a' q c'->c'<=c+8->SB b H H'->Q (.int x) H'
theorem Vp (F:aZ K "_law_word" "_law_word" HC f fd) (T:Txt K mg) (cO:Def P w K mg base "_law_take" 1 sU uQ):au P w K mg base aW 2 f fd HB NI:=by
 refine F.ok nF (λvs H Q E h=>?_) (λcdv A outer s0 H vs Q E hr h=>?_)
 .obtain ⟨b,a,q,c,rfl,_⟩:=h
  rfl
 obtain ⟨b,a,q,c,rfl,B,hc,k⟩:=h
 have nd:=nF.nd
 refine ⟨_,(Zd (cF 1 nd (Zm cO hr.m rfl (pc (pv 0) (pc Zj Zb))))
   (Zd (aH (Zv jg (pv 1) Zj (Zw _)) (Zd (cF 2 nd (Zm cO hr.m rfl (pc (pv 0) (pc (az (Zq (K:=K) rfl) (mh (pc Zj (pc Zj (pc Zj Zb)))) (pv 1) (λ_ _=>rfl)) Zb))))
   (Zh (Zt (az (Zq (K:=K) rfl) (mh (pc (pv 2) (pc (ak ZA Zj (pv 2)) (pc (ak uU (jU yc Zj) (pv 2)) Zb)))) (pv 1) (λ_ _=>rfl))))) Zu)
   (Zd (cF 2 nd Zj)
   (Zd (om akt rfl (tF rfl T.mF (pc (ak ZA Zj (Zm cO hr.m rfl (pc (pv 0) (pc Zj Zb)))) Zb)) (bQ 3 nd) (Zh (cF 2 nd (ak ZA (ak oj (pv 2) (ak HH Zj Zj)) (Zm cO hr.m rfl (pc (pv 0) (pc (ak HH Zj Zj) Zb)))))))
   (Zh (Zt (az (Zq (K:=K) rfl) (mh (pc (pv 2) (pc (ak uU Zj (pv 2)) Zb))) (Zm cO hr.m rfl (pc (pv 0) (pc Zj Zb))) (λ_ _=>rfl)))))))),?_⟩
 refine ⟨_,rfl,b,a,q,c,4,rfl,B,by lia,by decide,by decide,λr1 a1 c1 H1 ua xw B1 hc1 s1=>gN ?_⟩
 try dsimp only
 refine ⟨_,rfl,_,_,rfl,rfl,_,rfl,mW (λz=>?_) (λz=>?_)⟩
 .obtain ⟨n,hn,n0,n1⟩:∃ n:Int,fX [V.int 9,V.int 99,V.int 99] r1=some (.int n)/\1<=n/\n<=99:=by
   have h:r1=0\/r1=1\/r1=2:=by lia
   rcases h with rfl | rfl | rfl
   .exact ⟨9,gF,by decide,by decide⟩
   .exact ⟨99,iz,by decide,by decide⟩
   .exact ⟨99,ju,by decide,by decide⟩
  refine ⟨_,rfl,(sl 3),λp1 hp1=>⟨_,rfl,p1,_,_,_,rfl,rfl,aF.of Za,hn,b,a1,q,c1,n,rfl,B1.same (Zg hp1 _),by lia,by lia,by lia,λr2 a2 c2 H2 pT oV B2 hc2 s2=>gN ?_⟩⟩
  try dsimp only
  refine ⟨_,rfl,_,rfl,_,_,rfl,rfl,_,rfl,_,rfl,_,_,rfl,rfl,(sl 3),λp2 hp2=>⟨_,rfl,p2,?_⟩⟩
  obtain ⟨x,hx,x1⟩:∃ x:Int,fX [V.int r2,V.int (1+r2),V.int (-1 - r2)] r1=some (.int x)/\x.natAbs<10 ^ 40:=by
   have h:r1=0\/r1=1\/r1=2:=by lia
   have UA:1000<=10 ^ 40:=by decide
   rcases h with rfl | rfl | rfl
   .exact ⟨_,gF,by lia⟩
   .exact ⟨_,iz,by lia⟩
   .exact ⟨_,ju,by lia⟩
  exact ⟨_,_,_,rfl,rfl,aF.of Za,hx,k x a2 c2 _ x1 (B2.same (Zg hp2 _)) (by lia) (((s1.trans ((Zg hp1 _).sb b)).trans s2).trans ((Zg hp2 _).sb b))⟩
 .dsimp only [fY]
  refine gN ?_
  try dsimp only
  refine ⟨_,rfl,b,a1,q,c1,4,rfl,B1,by lia,by decide,by decide,λr2 a2 c2 H2 pT oV B2 hc2 s2=>⟨_,_,rfl,rfl,_,rfl,by lia,by lia,?_⟩⟩
  have e7:(10:Int) ^ (7:Int).toNat=10000000:=by decide
  refine yz (lo:=0) (n:=(1+r2).toNat) (λi σ G=>∃ (v3:Option V) (z a' c':Int),σ=[some (.ref b),some (.int r1),some (.int z),v3]/\0<=z/\z<10000000 ^ i/\aE G b a' q c'/\c'<=c2+(i:Int)/\SB b H G)
   ⟨none,0,a2,c2,rfl,by decide,by decide,B2,by lia,s1.trans s2⟩ ?_ ?_
  .rintro i σ G hi ⟨v3,z,a',c',rfl,z0,z1,B',hc',s'⟩
   refine gN ?_
   try dsimp only
   refine ⟨_,rfl,_,_,rfl,rfl,⟨by decide,by decide,by decide⟩,_,_,rfl,rfl,.inr (by rw [e7]; decide),_,rfl,_,_,rfl,rfl,⟨by decide,by decide,by decide⟩,b,a',q,c',_,rfl,B',by lia,by rw [e7]; decide,by rw [e7]; decide,λr3 a3 c3 H3 vg t9 B3 hc3 s3=>⟨_,_,rfl,rfl,gN ⟨_,_,a3,c3,rfl,?_,?_,B3,by lia,s'.trans s3⟩⟩⟩
   .rw [e7]
    lia
   .rw [e7] at t9 ⊢
    rw [Int.pow_succ]
    generalize (10000000:Int) ^ i=X at *
    lia
  .rintro σ G ⟨v3,z,a',c',rfl,z0,z1,B',hc',s'⟩
   have zb:z<10000000000000000000000000000:=by
    have h:(1+r2).toNat=1\/(1+r2).toNat=2\/(1+r2).toNat=3\/(1+r2).toNat=4:=by lia
    have p1:(10000000:Int) ^ 1=10000000:=by decide
    have p2:(10000000:Int) ^ 2=100000000000000:=by decide
    have p3:(10000000:Int) ^ 3=1000000000000000000000:=by decide
    have p4:(10000000:Int) ^ 4=10000000000000000000000000000:=by decide
    rcases h with e | e | e | e <;> rw [e] at z1 <;> lia
   have UA:10000000000000000000000000000<=10 ^ 40:=by decide
   refine ⟨_,rfl,_,rfl,_,_,rfl,rfl,(sl 2),λp2 hp2=>⟨_,rfl,b,a',q,c',2,rfl,B'.same (Zg hp2 _),by lia,by decide,by decide,λr4 a4 c4 H4 zl Cn B4 hc4 s4=>?_⟩⟩
   have np:b≠p2:=Ze B'.at' hp2
   obtain ⟨x,hx,x1⟩:∃ x:Int,fX [V.int z,V.int (0 - z)] r4=some (.int x)/\x.natAbs<10 ^ 40:=by
    have h:r4=0\/r4=1:=by lia
    rcases h with rfl | rfl
    .exact ⟨_,gF,by lia⟩
    .exact ⟨_,iz,by lia⟩
   exact ⟨p2,_,_,_,rfl,rfl,aF.of (s4 _ _ (aFS np) Za),hx,k x a4 c4 _ x1 B4 (by lia) ((s'.trans ((Zg hp2 _).sb b)).trans s4)⟩
def NH:Sp:=λvs H Q _=>∃ (b l:Addr) (a q c size:Int) (ns:List Int),vs=[.ref b,.int size,.ref l]/\aE H b a q c/\l≠b/\c<350000000/\1<=size/\size<=16/\H l=some (.lst (ns.map V.int))/\1<=ns.length/\ns.length<=20/\(∀ x∈ns,0<=x/\x<=100000)/\∀ (t:Addr) (d:Dd) (a' c':Int) (H':Hp),H' t=some (.tup d.vs)->d.ok->d.sp / size∈(9999 / size) :: ns->aE H' b a' q c'->c'<=c+12->SB b H H'->Q (.ref t) H'
theorem Vo (F:aZ K "_law_deed" "_law_deed" HA f fd) (T:Txt K mg) (cO:Def P w K mg base "_law_take" 1 sU uQ) (Gh:Def P w K mg base "_law_word" 2 HB NI):au P w K mg base aW 3 f fd Hz NH:=by
 refine F.ok nM (λvs H Q E h=>?_) (λcdv A outer s0 H vs Q E hr h=>?_)
 .obtain ⟨b,l,a,q,c,size,ns,rfl,_⟩:=h
  rfl
 obtain ⟨b,l,a,q,c,size,ns,rfl,B,k7,hc,z0,z1,hl,l0,l1,Cv,k⟩:=h
 have nd:=nM.nd
 refine ⟨_,(Zd (cF 3 nd (Zm cO hr.m rfl (pc (pv 0) (pc Zj Zb))))
   (Zd (cF 4 nd (Zs (XE rfl) rfl T.Gd WK (pc Zj (pc (ak ZA (ak oj (az (Zq (K:=K) rfl) (pv 2) (Zm cO hr.m rfl (pc (pv 0) (pc (Zs (ZH (K:=K) rfl) rfl T.rO aYI (pc (pv 2) Zb)) Zb))) (λ_ _=>rfl)) (pv 1)) (Zm cO hr.m rfl (pc (pv 0) (pc (pv 1) Zb)))) Zb))))
   (Zh (Zt (wQ (Zv aY (pv 3) Zj (Zw _)) (j4 (pc j5 (pc (pv 4) (pc (Zm Gh hr.m rfl (pc (pv 0) Zb)) Zb)))) (j4 (pc j5 (pc (pv 4) Zb)))))))),?_⟩
 refine ⟨_,rfl,b,a,q,c,2,rfl,B,by lia,by decide,by decide,λr1 a1 c1 H1 ua xw B1 hc1 s1=>gN ?_⟩
 try dsimp only
 have hl1:=s1 _ _ k7 hl
 refine ⟨_,rfl,_,rfl,_,rfl,l,_,rfl,.inl (aF.of hl1),b,a1,q,c1,_,rfl,B1,by lia,by rw [afy]; lia,by rw [afy]; lia,λr2 a2 c2 H2 pT oV B2 hc2 s2=>?_⟩
 rw [afy] at oV
 obtain ⟨x,hx,xm⟩:=UY pT oV
 have xb:=Cv x xm
 refine ⟨l,_,_,_,rfl,rfl,aF.of (s2 _ _ k7 hl1),hx,_,rfl,_,_,rfl,rfl,.inl ⟨by lia,by lia⟩,_,rfl,_,rfl,b,a2,q,c2,size,rfl,B2,by lia,by lia,by lia,λr3 a3 c3 H3 vg t9 B3 hc3 s3=>⟨_,_,rfl,rfl,_,_,rfl,gN ?_⟩⟩
 have m0:0<=x * size:=Int.mul_nonneg xb.1 (by lia)
 have ok:0<=(if x * size+r3<9999 then x * size+r3 else 9999)/\(if x * size+r3<9999 then x * size+r3 else 9999)<=9999:=by split <;> lia
 have LQ:(if x * size+r3<9999 then x * size+r3 else 9999) / size∈(9999 / size) :: ns:=by
  split
  .have e:(x * size+r3) / size=x:=by
    rw [Int.add_comm,aIf _ _ (by lia),aPs vg t9,Int.zero_add]
   rw [e]
   exact aZE _ xm
  .exact abW
 generalize (if x * size+r3<9999 then x * size+r3 else 9999)=sp at *
 try dsimp only
 have u3:=(s1.trans s2).trans s3
 refine ⟨_,rfl,rfl,_,rfl,II (λz=>?_) (λz=>?_)⟩
 .exact ⟨_,rfl,_,rfl,b,a3,q,c3,rfl,B3,by lia,λy a4 c4 H4 yb B4 hc4 s4=>⟨(sl 3),λt ht=>k t (.wt sp y) a4 c4 _ Za ⟨ok,yb⟩ LQ (B4.same (Zg ht _)) (by lia) ((u3.trans s4).trans ((Zg ht _).sb b))⟩⟩
 .exact ⟨_,rfl,(sl 2),λt ht=>k t (.rd sp) a3 c3 _ Za ok LQ (B3.same (Zg ht _)) (by lia) (u3.trans ((Zg ht _).sb b))⟩
end
noncomputable def fk (g:aK) (d:Dd) (st:ao):ao:=match d with
 | .rd sp=>ZP g (sp / g.size) st
 | .wt sp x=>uP g sp x st
section
structure lV (K:W.Frag) (H:Hp) (A:TA) (g:aK) (st:ao) (os:OS):Prop where
 at_:af K H A g st os 0
 dj:g.kind = "apart" -> cG st
theorem lV.frame {H H':Hp} {A:TA} {g:aK} {st:ao} {os:OS} (r:lV K H A g st os) (f:∀ x o,H x=some o->(OW A os x\/¬ Mt o)->H' x=some o):lV K H' A g st os:=⟨r.at_.frame f,r.dj⟩
theorem af.few {H:Hp} {A:TA} {g:aK} {st:ao} {os:OS} {n:Nat} (T:af K H A g st os n) {k:Nat} (hk:k<g.n) (hU:g.U.length<64):(st.at_ k).seq.length<64:=by
 have ln:=T.ln
 obtain ⟨a,e1,e2,e3,B⟩:=T.at_ (k:=k) (by lia)
 have nd:(st.at_ k).seq.Nodup:=B.bf.room.nd
 exact axD (AO nd λx hx=>T.rP _ (a7T e3) x hx) hU
end
structure Lk (a b:ao):Prop where
 len:b.rm.length=a.rm.length
 sq:∀ j,(b.at_ j).seq=(a.at_ j).seq
 us:∀ j,(b.at_ j).us=(a.at_ j).us
theorem Lk.refl (a:ao):Lk a a:=⟨rfl,λ_=>rfl,λ_=>rfl⟩
theorem Lk.trans {a b c:ao} (x:Lk a b) (y:Lk b c):Lk a c:=⟨y.len.trans x.len,λj=>(y.sq j).trans (x.sq j),λj=>(y.us j).trans (x.us j)⟩
theorem Dg {st:ao} {k:Nat} {s:Rm} (h1:s.seq=(st.at_ k).seq) (h2:s.us=(st.at_ k).us):Lk st (st.set k s):=by
 refine ⟨bw,λj=>Dj h1,λj=>?_⟩
 rw [wI]
 split
 .rename_i q; rw [h2,q.1]
 .rfl
theorem mJ {g:aK} {k:Nat} {b:Int} {ws:List Int} {st:ao}:Lk st (dB g k b ws st):=by
 unfold dB
 split
 .exact ⟨rfl,λ_=>rfl,λ_=>rfl⟩
 .have q:=Dg (st:=st) (k:=k) (s:=fW (st.at_ k) b ws) rfl rfl
  exact ⟨q.len,q.sq,q.us⟩
theorem DC {g:aK} {b:Int} {ws:List Int}:∀ {r k:Nat} {st:ao},Lk st (bG g b ws r k st)
 | 0,k,st=>mJ
 | r+1,k,st=>by
  rw [bG]
  split
  .split
   .exact mJ.trans (Dg rfl rfl)
   .exact mJ.trans DC
  .exact DC
theorem Xq {g:aK} {k:Nat} {b:Int} {st:ao}:Lk st (ZQ g k b st):=by
 unfold ZQ
 split
 .exact Dg rfl rfl
 .exact DC
theorem qo {g:aK} {k:Nat} {x:Int} {a:ao}:Lk (dG g k x a).1 (mU g k x a):=by
 unfold mU
 split
 .exact DC
 .exact Lk.refl _
theorem Vn {g:aK} {d:Dd} {st:ao}:Lk (ZP g (d.sp / g.size) st) (fk g d st):=by
 cases d with
 | rd sp=>exact Lk.refl _
 | wt sp x=>exact (Dg (s:=o7 g ((ZP g (sp / g.size) st).at_ 0) sp x) rfl rfl).trans Xq
theorem W3 {g:aK} {k j:Nat} {b:Int} {st:ao} (hk:k<st.rm.length):(((jE g k b st).at_ j).seq=(st.at_ j).seq)\/∃ o,o∈(st.at_ k).seq/\o % (g.cf k).sh=b % (g.cf k).sh/\eS (g.cf k) (st.at_ k) b=some o/\((jE g k b st).at_ j).seq=if j=k\/(g.kind = "within" /\ j<k) then (st.at_ j).seq.erase o else (st.at_ j).seq:=by
 unfold jE
 split
 .exact .inl rfl
 .rename_i o e
  exact .inr ⟨o,(yx e).1,(yx e).2.1,e,Oe hk⟩
theorem Xp {g:aK} {k:Nat} {b:Int} {st:ao}:(jE g k b st).rm.length=st.rm.length:=by
 unfold jE
 split
 .rfl
 .rw [qo.len]
  unfold dG
  split
  .have:∀ {k:Nat} {st:ao} {x:Int} {ws:List Int} {fr:Bool},(aS x k st ws fr).1.rm.length=st.rm.length:=λ{k}=>by
    induction k with
    | zero=>intro st x ws fr; rfl
    | succ k ih =>
     intro st x ws fr
     rw [aS]
     split
     .rw [ih,bA]
     .exact ih
   rw [this,bA]
  .exact bA
theorem Xo {g:aK} {k j:Nat} {b:Int} {st:ao} (hk:k<st.rm.length) (hb:b∉(st.at_ k).seq):b∈((jE g k b st).at_ j).seq↔b∈(st.at_ j).seq:=by
 rcases W3 (g:=g) (j:=j) (b:=b) hk with e | ⟨o,ho,_,_,e⟩
 .rw [e]
 .rw [e]
  split
  .exact mem_erase_of_ne λz=>hb (z ▸ ho)
  .exact Iff.rfl
theorem qG {k:Nat} {b:Int} {ws:List Int} {st:ao}:(bJ k b ws st).rm.length=st.rm.length:=bw
theorem UQ {a b s k:Int} (hs:0<s) (k0:0<=k) (k1:k<s) (h1:b * s<=a * s+k) (h2:a * s+k<b * s+s):a=b:=by
 have e1:∀ x y:Int,x+1<=y->x * s+s<=y * s:=λx y h=>by
  have q:=Int.mul_le_mul_of_nonneg_right h (Int.le_of_lt hs)
  rw [Int.add_mul,Int.one_mul] at q
  exact q
 by_cases c:a<b
 .have:=e1 a b c; lia
 .by_cases d:b<a
  .have:=e1 b a d; lia
  .lia
theorem Vm {s:Int} {mem:Int->Int} {b y:Int} {ws:List Int} (hs:0<s) (h:y≠b):bg s (lB s mem b ws) y=bg s mem y:=by
 unfold bg
 refine al9 λk hk=>?_
 have hk:=aTe.mp hk
 unfold lB gD
 rw [aBJ]
 rintro ⟨h1,h2⟩
 exact h (UQ hs (Int.natCast_nonneg k) (by lia) h1 (by lia))
theorem A7 {s:Int} {mem:Int->Int} {b:Int}:(bg s mem b).length=s.toNat:=by unfold bg; rw [afy,at7]
theorem DO {s:Int} {mem:Int->Int} {b:Int} {k:Nat} (h:k<s.toNat):(bg s mem b)[k]?=some (mem (b * s+(k:Nat))):=by
 unfold bg
 rw [aC3,aA5 h]
 rfl
theorem Vl {s:Int} {mem:Int->Int} {b:Int} {ws:List Int} (h:ws.length=s.toNat):bg s (lB s mem b ws) b=ws:=by
 apply aTT
 intro k
 by_cases c:k<s.toNat
 .rw [DO c]
  unfold lB gD
  rw [ajr (by lia),show (b * s+(k:Nat) - b * s).toNat=k by lia,aXu,adk (by lia)]
  rfl
 .rw [awj (by rw [A7]; lia),awj (by lia)]
def Cl (g:aK) (bk:Int->Int) (x:Int) (st:ao) (k:Nat):Prop:=(k<g.n->x∈(st.at_ k).seq)->(∀ j,j<k->(st.at_ j).fr x=false)->jZ g st k x=bg g.size bk x
def Fx (g:aK) (bk:Int->Int) (x:Int) (st:ao):Prop:=∀ k,k<=g.n->Cl g bk x st k
structure aQ (g:aK) (st:ao):Prop where
 len:st.rm.length=g.n
 nd:∀ k,(st.at_ k).seq.Nodup
 ff:∀ k x,(st.at_ k).fr x=true->x∈(st.at_ k).seq
theorem aQ.no {g:aK} {st:ao} (h:aQ g st) {k:Nat} {x:Int} (n:x∉(st.at_ k).seq):(st.at_ k).fr x=false:=by
 cases e:(st.at_ k).fr x with
 | false=>rfl
 | true=>exact absurd (h.ff k x e) n
structure Vw (g:aK) (x:Int) (a b:ao):Prop where
 m:∀ j,x∈(b.at_ j).seq↔x∈(a.at_ j).seq
 w:∀ j,(b.at_ j).wd x=(a.at_ j).wd x
 f:∀ j,(b.at_ j).fr x=(a.at_ j).fr x
 mem:bg g.size b.mem x=bg g.size a.mem x
section
variable {g:aK} {bk:Int->Int} {x y b:Int} {st a c:ao} {k:Nat} {ws:List Int}
theorem Vw.refl:Vw g x st st:=⟨λ_=>Iff.rfl,λ_=>rfl,λ_=>rfl,rfl⟩
theorem Vw.trans {a b c:ao} (p:Vw g x a b) (q:Vw g x b c):Vw g x a c:=⟨λj=>(q.m j).trans (p.m j),λj=>(q.w j).trans (p.w j),λj=>(q.f j).trans (p.f j),q.mem.trans p.mem⟩
theorem Vw.cl {a b:ao} (v:Vw g x a b) (h:Cl g bk x a k):Cl g bk x b k:=λh1 h2=>by
 have q:=h (λhk=>(v.m k).mp (h1 hk)) λj hj=>(v.f j).symm.trans (h2 j hj)
 rw [← q]
 unfold jZ
 split
 .exact v.mem
 .exact v.w k
theorem Vw.fx {a b:ao} (v:Vw g x a b) (h:Fx g bk x a):Fx g bk x b:=λk hk=>v.cl (h k hk)
theorem yd {s:Rm} (hm:x∈s.seq↔x∈(st.at_ k).seq) (hw:s.wd x=(st.at_ k).wd x) (hf:s.fr x=(st.at_ k).fr x):Vw g x st (st.set k s):=by
 refine ⟨λj=>?_,λj=>?_,λj=>?_,rfl⟩ <;> rw [wI] <;> split
 .rename_i z; rw [z.1]; exact hm
 .exact Iff.rfl
 .rename_i z; rw [z.1]; exact hw
 .rfl
 .rename_i z; rw [z.1]; exact hf
 .rfl
theorem Vw.tell {a b:ao} {e:List V} (v:Vw g x a b):Vw g x a (b.tell e):=⟨v.m,v.w,v.f,v.mem⟩
theorem Df (hs:0<g.size) (h:x≠b):Vw g x st (dB g k b ws st):=by
 unfold dB
 split
 .exact ⟨λ_=>Iff.rfl,λ_=>rfl,λ_=>rfl,Vm hs h⟩
 .exact (yd (s:=fW (st.at_ k) b ws) Iff.rfl (by show (if x=b then ws else _)=_; rw [aBJ h]) rfl).tell
theorem Oc (h:x≠b):Vw g x st (qK k b st):=yd (s:=xX (st.at_ k) b) Iff.rfl rfl (by show (if x=b then true else _)=_; rw [aBJ h])
theorem AV (hs:0<g.size) (h:x≠b):∀ {r k:Nat} {st:ao},Vw g x st (bG g b ws r k st)
 | 0,k,st=>Df hs h
 | r+1,k,st=>by
  rw [bG]
  split
  .split
   .exact (Df hs h).trans (Oc h)
   .exact (Df hs h).trans (AV hs h)
  .exact AV hs h
theorem Pc (hs:0<g.size) (h:x≠b):Vw g x st (ZQ g k b st):=by
 unfold ZQ
 split
 .exact Oc h
 .exact AV hs h
theorem HV (h:x≠b):Vw g x st (bJ k b ws st) :=
 (yd (s:=xS (st.at_ k) b ws) (by show x∈_++[b]↔_; rw [mem_append,mem_singleton]; exact ⟨λq=>q.resolve_right h,.inl⟩) (by show (if x=b then ws else _)=_; rw [aBJ h]) rfl).tell
theorem jb (h:x≠b):Vw g x st (cR k b st) :=
 ((Vw.refl (st:=st)).tell (e:=eO k b)).trans (yd (st:=st.tell (eO k b)) (s:=jI (st.at_ k) b) (mem_erase_of_ne h) rfl (by show (if x=b then false else _)=_; rw [aBJ h]; rfl))
theorem HU (h:x≠b):∀ {k:Nat} {st:ao} {ws:List Int} {fr:Bool},Vw g x st (aS b k st ws fr).1
 | 0,st,ws,fr=>Vw.refl
 | k+1,st,ws,fr=>by
  rw [aS]
  split
  .exact (jb h).trans (HU h)
  .exact HU h
theorem W2 (hs:0<g.size) (h:x≠b):Vw g x st (mU g k b st):=by
 have k1:Vw g x st (dG g k b st).1:=by
  unfold dG
  split
  .exact (jb h).trans (HU h)
  .exact jb h
 unfold mU
 split
 .exact k1.trans (AV hs h)
 .exact k1
theorem NG (h:k<g.n->b∈(st.at_ k).seq):Vw g x st (bR g k b st):=by
 unfold bR
 split
 .rename_i hk
  exact yd (wK (h hk)).mem_iff rfl rfl
 .exact Vw.refl
theorem IA {fr:Bool} (hs:0<g.size) (h:x≠b):Vw g x st (bP g k b ws fr st):=by
 unfold bP
 split
 .exact (HV h).trans (Pc hs h)
 .exact HV h
theorem aQ.tell {e:List V} (h:aQ g st):aQ g (st.tell e):=⟨h.len,h.nd,h.ff⟩
theorem aQ.set {s:Rm} (h:aQ g st) (n:s.seq.Nodup) (f:∀ x,s.fr x=true->x∈s.seq):aQ g (st.set k s):=by
 refine ⟨bw.trans h.len,λj=>?_,λj x=>?_⟩ <;> rw [wI] <;> split
 .exact n
 .exact h.nd j
 .exact f x
 .exact h.ff j x
theorem aQ.put (h:aQ g st):aQ g (dB g k b ws st):=by
 unfold dB
 split
 .exact ⟨h.len,h.nd,h.ff⟩
 .exact (h.set (s:=fW (st.at_ k) b ws) (h.nd k) (h.ff k)).tell
theorem aQ.fresh (h:aQ g st) (hb:b∈(st.at_ k).seq):aQ g (qK k b st):=h.set (s:=xX (st.at_ k) b) (h.nd k) λz hz=>by
 have hz:(if z=b then true else (st.at_ k).fr z)=true:=hz
 by_cases e:z=b
 .rw [e]; exact hb
 .rw [aBJ e] at hz; exact h.ff k z hz
theorem aQ.bG:∀ {r k:Nat} {st:ao},aQ g st->aQ g (bG g b ws r k st)
 | 0,k,st,h=>h.put
 | r+1,k,st,h=>by
  rw [m9.bG]
  split
  .rename_i m
   split
   .exact h.put.fresh (by rw [uO]; exact m)
   .exact aQ.bG h.put
  .exact aQ.bG h
theorem aQ.change (h:aQ g st) (hb:b∈(st.at_ k).seq):aQ g (ZQ g k b st):=by
 unfold ZQ
 split
 .exact h.fresh hb
 .exact h.bG
theorem aQ.wm (h:aQ g st) (hb:b∉(st.at_ k).seq):aQ g (bJ k b ws st):=(h.set (s:=xS (st.at_ k) b ws) (A4 (h.nd k) hb) λz hz=>a4h _ (h.ff k z hz)).tell
theorem aQ.go (h:aQ g st):aQ g (cR k b st):=(h.tell (e:=eO k b)).set (s:=jI (st.at_ k) b) ((h.nd k).erase _) λz hz=>by
 have hz:(if z=b then false else (st.at_ k).fr z)=true:=hz
 by_cases e:z=b
 .rw [ajr e] at hz; cases hz
 .rw [aBJ e] at hz
  exact (mem_erase_of_ne e).mpr (h.ff k z hz)
theorem aQ.outs:∀ {k:Nat} {st:ao} {ws:List Int} {fr:Bool},aQ g st->aQ g (aS b k st ws fr).1
 | 0,st,ws,fr,h=>h
 | k+1,st,ws,fr,h=>by
  rw [aS]
  split
  .exact aQ.outs h.go
  .exact aQ.outs h
theorem aQ.MJ (h:aQ g st):aQ g (dG g k b st).1:=by
 unfold dG
 split
 .exact h.go.outs
 .exact h.go
theorem aQ.drive (h:aQ g st):aQ g (mU g k b st):=by
 unfold mU
 split
 .exact h.MJ.bG
 .exact h.MJ
theorem aQ.leave (h:aQ g st):aQ g (jE g k b st):=by
 unfold jE
 split
 .exact h
 .exact h.drive
theorem aQ.used (h:aQ g st) (hb:k<g.n->b∈(st.at_ k).seq):aQ g (bR g k b st):=by
 unfold bR
 split
 .rename_i hk
  exact h.set ((wK (hb hk)).nodup_iff.mpr (h.nd k)) λz hz=>(wK (hb hk)).mem_iff.mpr (h.ff k z hz)
 .exact h
theorem aQ.bP {fr:Bool} (h:aQ g st) (hk:k<g.n) (hb:b∉(st.at_ k).seq):aQ g (bP g k b ws fr st):=by
 unfold m9.bP
 split
 .exact (h.wm hb).change (by rw [yh (by rw [h.len]; exact hk),ajr rfl]; simp)
 .exact h.wm hb
theorem wu {a b:ao} (h:∀ j,j<=k->b.at_ j=a.at_ j) (hm:k=g.n->b.mem=a.mem) (c:Cl g bk x a k):Cl g bk x b k:=λh1 h2=>by
 have q:=c (λhk=>by rw [← h k (a17 _)]; exact h1 hk) λj hj=>by rw [← h j (aV2 hj)]; exact h2 j hj
 rw [← q]
 unfold jZ
 split
 .rename_i z; rw [hm z]
 .rw [h k (a17 _)]
theorem mV (h:k<g.n):jZ g st k x=(st.at_ k).wd x:=by unfold jZ; rw [aBJ (by lia)]
theorem sW:jZ g st g.n x=bg g.size st.mem x:=by unfold jZ; rw [ajr rfl]
theorem uN {s:Rm} (h:k<st.rm.length):(st.set k s).at_ k=s:=by rw [ao.jt h,ajr rfl]
theorem wG {s:Rm} {j:Nat} (h:j≠k):(st.set k s).at_ j=st.at_ j:=by rw [wI,aBJ (λq=>h q.1)]
theorem UP (hk:k<g.n):dB g k b ws st=(st.set k (fW (st.at_ k) b ws)).tell (eW k b):=by unfold dB; rw [aBJ (by lia)]
theorem wF:∀ {r k:Nat} {st:ao},k+r=g.n->st.rm.length=g.n->(∀ j,j<k->Cl g bk x st j)->((∀ i,i<k->(st.at_ i).fr x=false)->ws=bg g.size bk x)->Fx g bk x (bG g x ws r k st)
 | 0,k,st,e,hl,hc,hw=>λj hj=>by
  rw [bG]
  have e:k=g.n:=by lia
  subst e
  unfold dB
  rw [ajr rfl]
  by_cases c:j=g.n
  .subst c
   intro _ h2
   have q:=hw λi hi=>h2 i hi
   rw [sW]
   show bg g.size (lB g.size st.mem x ws) x=_
   rw [Vl (by rw [q]; exact A7)]
   exact q
  .exact wu (a:=st) (λi _=>rfl) (λz=>absurd z c) (hc j (by lia))
 | r+1,k,st,e,hl,hc,hw=>by
  have hk:k<g.n:=by lia
  have fU:k<st.rm.length:=by lia
  rw [bG]
  split
  .rename_i m
   rw [UP hk]
   split
   .intro j hj
    have a1:∀ i,i≠k->(qK k x ((st.set k (fW (st.at_ k) x ws)).tell (eW k x))).at_ i=st.at_ i:=λi hi=>by
     unfold qK
     rw [wG hi,sZ,wG hi]
    have a2:(qK k x ((st.set k (fW (st.at_ k) x ws)).tell (eW k x))).at_ k=xX (fW (st.at_ k) x ws) x:=by
     unfold qK
     rw [uN (by show k<(st.set k _).rm.length; rw [bw]; exact fU),sZ,uN fU]
    by_cases c:j<k
    .exact wu (a:=st) (λi hi=>a1 i (by lia)) (λz=>by lia) (hc j c)
    .by_cases d:j=k
     .subst d
      intro _ h2
      rw [mV hk,a2]
      show (if x=x then ws else _)=_
      rw [ajr rfl]
      exact hw λi hi=>by rw [← a1 i (by lia)]; exact h2 i hi
     .intro _ h2
      have q:=h2 k (by lia)
      rw [a2] at q
      have q:(if x=x then true else _)=false:=q
      rw [ajr rfl] at q
      cases q
   .have a1:∀ i,i≠k->((st.set k (fW (st.at_ k) x ws)).tell (eW k x)).at_ i=st.at_ i:=λi hi=>by rw [sZ,wG hi]
    have a2:((st.set k (fW (st.at_ k) x ws)).tell (eW k x)).at_ k=fW (st.at_ k) x ws:=by rw [sZ,uN fU]
    have f1:∀ i,(((st.set k (fW (st.at_ k) x ws)).tell (eW k x)).at_ i).fr x=(st.at_ i).fr x:=λi=>by
     by_cases c:i=k
     .rw [c,a2]; rfl
     .rw [a1 i c]
    refine wF (by lia) (bw.trans hl) (λj hj=>?_) λh=>hw λi hi=>by rw [← f1]; exact h i (by lia)
    by_cases c:j<k
    .exact wu (a:=st) (λi hi=>a1 i (by lia)) (λz=>by lia) (hc j c)
    .have d:j=k:=by lia
     subst d
     intro _ h2
     rw [mV hk,a2]
     show (if x=x then ws else _)=_
     rw [ajr rfl]
     exact hw λi hi=>by rw [← f1]; exact h2 i hi
  .rename_i m
   refine wF (by lia) hl (λj hj=>?_) λh=>hw λi hi=>h i (by lia)
   by_cases c:j<k
   .exact hc j c
   .have d:j=k:=by lia
    subst d
    exact λh1=>absurd (h1 hk) m
theorem Pb (hl:st.rm.length=g.n) (hk:k<g.n) (hx:x∈(st.at_ k).seq) (hc:∀ j,j<=k->Cl g bk x st j):Fx g bk x (ZQ g k x st):=by
 unfold ZQ
 split
 .intro j hj
  have a1:∀ i,i≠k->(qK k x st).at_ i=st.at_ i:=λi hi=>wG hi
  have a2:(qK k x st).at_ k=xX (st.at_ k) x:=uN (by lia)
  by_cases c:j<k
  .exact wu (a:=st) (λi hi=>a1 i (by lia)) (λz=>by lia) (hc j (by lia))
  .by_cases d:j=k
   .subst d
    intro h1 h2
    have q:=hc j (a17 _) (λ_=>hx) λi hi=>by rw [← a1 i (by lia)]; exact h2 i hi
    rw [mV hk] at q ⊢
    rw [a2]
    exact q
   .intro _ h2
    have q:=h2 k (by lia)
    rw [a2] at q
    have q:(if x=x then true else _)=false:=q
    rw [ajr rfl] at q
    cases q
 .refine wF (by lia) hl (λj hj=>hc j (by lia)) λh=>?_
  have q:=hc k (a17 _) (λ_=>hx) λi hi=>h i (by lia)
  rw [mV hk] at q
  exact q
theorem qC (h:k<st.rm.length):(cR k b st).at_ k=jI (st.at_ k) b:=uN (st:=st.tell (eO k b)) h
theorem lQ {j:Nat} (h:j≠k):(cR k b st).at_ j=st.at_ j:=wG (st:=st.tell (eO k b)) h
theorem HF {s:Rm} (h:s.seq.Nodup):x∉(jI s x).seq:=λm=>((a9K h).mp m).1 rfl
theorem HS:∀ {k:Nat} {st:ao} {ws:List Int} {fr:Bool},k<=st.rm.length->aQ g st ->
  (∀ i,k<=i->(aS x k st ws fr).1.at_ i=st.at_ i)/\(∀ i,i<k->x∉((aS x k st ws fr).1.at_ i).seq)/\(aS x k st ws fr).1.mem=st.mem/\((aS x k st ws fr).2.2=false->fr=false/\∀ i,i<k->(st.at_ i).fr x=false)/\(k<=g.n->(∀ i,i<k->Cl g bk x st i)->((∀ i,i<k->x∉(st.at_ i).seq)->ws=bg g.size bk x)->(aS x k st ws fr).2.1=bg g.size bk x)
 | 0,st,ws,fr,_,_=>⟨λ_ _=>rfl,λi h=>absurd h (ahY _),rfl,λh=>⟨h,λi q=>absurd q (ahY _)⟩,λ_ _ h=>h λi q=>absurd q (ahY _)⟩
 | k+1,st,ws,fr,hk,ok=>by
  rw [aS]
  split
  .rename_i m
   obtain ⟨b1,b2,b3,b4,b5⟩:=HS (k:=k) (st:=cR k x st) (ws:=(st.at_ k).wd x) (fr:=fr || (st.at_ k).fr x) (by rw [bA]; lia) ok.go
   refine ⟨λi hi=>?_,λi hi=>?_,b3,λh=>?_,λhn hc hw=>b5 (by lia) (λi hi=>?_) λh=>?_⟩
   .rw [b1 i (by lia),lQ (by lia)]
   .by_cases c:i<k
    .exact b2 i c
    .have e:i=k:=by lia
     rw [e,b1 k (a17 _),qC (by lia)]
     exact HF (ok.nd k)
   .obtain ⟨c1,c2⟩:=b4 h
    rw [Bool.or_eq_false_iff] at c1
    refine ⟨c1.1,λi hi=>?_⟩
    by_cases c:i<k
    .have q:=c2 i c
     rw [lQ (by lia)] at q
     exact q
    .have e:i=k:=by lia
     rw [e]; exact c1.2
   .exact wu (a:=st) (λj hj=>lQ (by lia)) (λz=>by lia) (hc i (by lia))
   .have q:=hc k (by lia) (λ_=>m) λi hi=>ok.no (by
     have q:=h i hi
     rw [lQ (by lia)] at q
     exact q)
    rw [mV (by lia)] at q
    exact q
  .rename_i m
   obtain ⟨b1,b2,b3,b4,b5⟩:=HS (k:=k) (st:=st) (ws:=ws) (fr:=fr) (by lia) ok
   refine ⟨λi hi=>b1 i (by lia),λi hi=>?_,b3,λh=>⟨(b4 h).1,λi hi=>?_⟩,λhn hc hw=>b5 (by lia) (λi hi=>hc i (by lia)) λh=>hw λi hi=>?_⟩
   .by_cases c:i<k
    .exact b2 i c
    .have e:i=k:=by lia
     rw [e,b1 k (a17 _)]
     exact m
   .by_cases c:i<k
    .exact (b4 h).2 i c
    .have e:i=k:=by lia
     rw [e]; exact ok.no m
   .by_cases c:i<k
    .exact h i c
    .have e:i=k:=by lia
     rw [e]; exact m
theorem W0 (ok:aQ g st) (hk:k<g.n) (hx:x∈(st.at_ k).seq) (h:Fx g bk x st):Fx g bk x (mU g k x st):=by
 have fU:k<st.rm.length:=by rw [ok.len]; exact hk
 have n1:x∉((cR k x st).at_ k).seq:=by rw [qC fU]; exact HF (ok.nd k)
 have l1:(cR k x st).rm.length=g.n:=bA.trans ok.len
 have c1:∀ j,j<k->Cl g bk x (cR k x st) j:=λj hj=>wu (a:=st) (λi hi=>lQ (by lia)) (λz=>by lia) (h j (by lia))
 unfold mU dG
 by_cases w:g.kind = "within"
 .rw [ajr w]
  obtain ⟨b1,b2,b3,b4,b5⟩:=HS (g:=g) (bk:=bk) (x:=x) (k:=k) (st:=cR k x st) (ws:=(st.at_ k).wd x) (fr:=(st.at_ k).fr x) (by lia) ok.go
  have hw:=b5 (by lia) c1 λq=>by
   have e:=h k (by lia) (λ_=>hx) λi hi=>ok.no (by
    have q:=q i hi
    rw [lQ (by lia)] at q
    exact q)
   rw [mV hk] at e
   exact e
  have no:∀ j,j<=k->x∉((aS x k (cR k x st) ((st.at_ k).wd x) ((st.at_ k).fr x)).1.at_ j).seq:=λj hj=>by
   by_cases c:j<k
   .exact b2 j c
   .have e:j=k:=by lia
    rw [e,b1 k (a17 _)]; exact n1
  split
  .exact wF (by lia) (ok.go.outs.len) (λj hj h1=>absurd (h1 (by lia)) (no j (by lia))) λ_=>hw
  .rename_i f
   have f:(aS x k (cR k x st) ((st.at_ k).wd x) ((st.at_ k).fr x)).2.2=false:=by simpa using f
   obtain ⟨d1,d2⟩:=b4 f
   intro j hj h1 h2
   by_cases c:j<=k
   .exact absurd (h1 (by lia)) (no j c)
   .have a1:∀ i,k<i->(aS x k (cR k x st) ((st.at_ k).wd x) ((st.at_ k).fr x)).1.at_ i=st.at_ i:=λi hi=>by rw [b1 i (by lia),lQ (by lia)]
    have q:=h j hj (λz=>by rw [← a1 j (by lia)]; exact h1 z) λi hi=>by
     by_cases c1:i<k
     .have q:=d2 i c1
      rw [lQ (by lia)] at q
      exact q
     .by_cases c2:i=k
      .rw [c2]; exact d1
      .rw [← a1 i (by lia)]; exact h2 i hi
    rw [← q]
    unfold jZ
    rw [a1 j (by lia),b3]
    rfl
 .rw [aBJ w]
  split
  .refine wF (by lia) l1 (λj hj=>?_) λq=>?_
   .by_cases c:j<k
    .exact c1 j c
    .have e:j=k:=by lia
     rw [e]; exact λh1=>absurd (h1 hk) n1
   .have e:=h k (by lia) (λ_=>hx) λi hi=>by
     have q:=q i (by lia)
     rw [lQ (by lia)] at q
     exact q
    rw [mV hk] at e
    exact e
  .rename_i f
   have f:(st.at_ k).fr x=false:=by simpa using f
   intro j hj h1 h2
   by_cases c:j=k
   .rw [c] at h1; exact absurd (h1 hk) n1
   .have q:=h j hj (λz=>by have q:=h1 z; rw [show (cR k x st).at_ j=st.at_ j from lQ c] at q; exact q) λi hi=>by
     by_cases d:i=k
     .rw [d]; exact f
     .have q:=h2 i hi
      rw [show (cR k x st).at_ i=st.at_ i from lQ d] at q
      exact q
    rw [← q]
    unfold jZ
    rw [show ((cR k x st,(st.at_ k).wd x,(st.at_ k).fr x):ao×List Int×Bool).1.at_ j=st.at_ j from lQ c]
    rfl
theorem Xn (hs:0<g.size) (ok:aQ g st) (hk:k<g.n) (hb:b∈(st.at_ k).seq) (h:∀ x,Fx g bk x st):∀ x,Fx g bk x (mU g k b st):=λx=>by
 by_cases e:x=b
 .rw [e]; exact W0 ok hk hb (h b)
 .exact (W2 hs e).fx (h x)
theorem Pa (hs:0<g.size) (ok:aQ g st) (hk:k<g.n) (h:∀ x,Fx g bk x st):∀ x,Fx g bk x (jE g k b st):=by
 unfold jE
 split
 .exact h
 .rename_i e
  exact Xn hs ok hk (yx e).1 h
theorem Vk (ok:aQ g st) (hk:k<g.n) (hb:x∉(st.at_ k).seq) (hw:ws=bg g.size bk x) (h:Fx g bk x st):Fx g bk x (bJ k x ws st):=by
 have fU:k<st.rm.length:=by rw [ok.len]; exact hk
 have a1:∀ i,i≠k->(bJ k x ws st).at_ i=st.at_ i:=λi hi=>by unfold bJ; rw [sZ,wG hi]
 have a2:(bJ k x ws st).at_ k=xS (st.at_ k) x ws:=by unfold bJ; rw [sZ,uN fU]
 have f1:∀ i,((bJ k x ws st).at_ i).fr x=(st.at_ i).fr x:=λi=>by
  by_cases c:i=k
  .rw [c,a2]; rfl
  .rw [a1 i c]
 intro j hj h1 h2
 by_cases c:j=k
 .subst c
  rw [mV hk,a2]
  show (if x=x then ws else _)=_
  rw [ajr rfl]
  exact hw
 .have q:=h j hj (λz=>by rw [← a1 j c]; exact h1 z) λi hi=>by rw [← f1]; exact h2 i hi
  rw [← q]
  unfold jZ
  rw [a1 j c]
  rfl
theorem Ob (hs:0<g.size) (hw:ws=bg g.size bk b):∀ {k:Nat} {st:ao},k<=g.n->aQ g st->(∀ x,Fx g bk x st)->(∀ j,j<k->b∉(st.at_ j).seq)->aQ g (gZ g b ws k st)/\∀ x,Fx g bk x (gZ g b ws k st)
 | 0,st,_,ok,h,_=>⟨ok,h⟩
 | k+1,st,hk,ok,h,hn=>by
  have fU:k<st.rm.length:=by rw [ok.len]; lia
  have m:=λj=>Xo (g:=g) (j:=j) fU (hn k (by lia))
  have l1:k<(jE g k b st).rm.length:=by rw [Xp]; exact fU
  have nk:b∉((jE g k b st).at_ k).seq:=λz=>hn k (by lia) ((m k).mp z)
  rw [gZ]
  refine Ob hs hw (by lia) (ok.leave.wm nk) (λx=>?_) λj hj=>?_
  .by_cases e:x=b
   .rw [e]; exact Vk ok.leave (by lia) nk hw (Pa hs ok (by lia) h b)
   .exact (HV e).fx (Pa hs ok (by lia) h x)
  .rw [yh l1,aBJ (by lia),m]
   exact hn j (by lia)
theorem Oa {fr:Bool} (ok:aQ g st) (hk:k<g.n) (hb:lX st x) (hw:ws=bg g.size bk x) (hm:fr=false->bg g.size st.mem x=bg g.size bk x):Fx g bk x (bP g k x ws fr st):=by
 have fU:k<st.rm.length:=by rw [ok.len]; exact hk
 have a1:∀ i,i≠k->(bJ k x ws st).at_ i=st.at_ i:=λi hi=>by unfold bJ; rw [sZ,wG hi]
 have a2:(bJ k x ws st).at_ k=xS (st.at_ k) x ws:=by unfold bJ; rw [sZ,uN fU]
 have cl:∀ j,j<g.n->Cl g bk x (bJ k x ws st) j:=λj hj h1 _=>by
  by_cases c:j=k
  .subst c
   rw [mV hk,a2]
   show (if x=x then ws else _)=_
   rw [ajr rfl]
   exact hw
  .have q:=h1 hj
   rw [a1 j c] at q
   exact absurd q (hb j (by rw [ok.len]; exact hj))
 unfold bP
 split
 .exact Pb (qG.trans ok.len) hk (by rw [a2]; exact af2 _ abW) λj hj=>cl j (by lia)
 .rename_i f
  have f:fr=false:=by simpa using f
  intro j hj
  by_cases c:j=g.n
  .subst c
   intro _ _
   rw [sW]
   exact hm f
  .exact cl j (by lia)
theorem Iz (hs:0<g.size):∀ {r k:Nat} {b:Int} {ws:List Int} {fr:Bool} {st:ao},k+r=g.n->aQ g st->cG st->lX st b->(∀ x,x≠b->Fx g bk x st)->ws=bg g.size bk b->(fr=false->bg g.size st.mem b=bg g.size bk b)->aQ g (pushS g r k b ws fr st)/\∀ x,Fx g bk x (pushS g r k b ws fr st)
 | 0,k,b,ws,fr,st,e,ok,dj,nw,h,hw,hm=>by
  have e:k=g.n:=by lia
  subst e
  rw [pushS]
  have K9:∀ j,j<g.n->Cl g bk b st j:=λj hj h1=>absurd (h1 hj) (nw j (by rw [ok.len]; exact hj))
  split
  .refine ⟨ok.put,λx=>?_⟩
   by_cases c:x=b
   .rw [c]
    exact wF (r:=0) (k:=g.n) (by lia) ok.len K9 λ_=>hw
   .exact (Df hs c).fx (h x c)
  .rename_i f
   have f:fr=false:=by simpa using f
   refine ⟨ok,λx=>?_⟩
   by_cases c:x=b
   .rw [c]
    intro j hj
    by_cases d:j=g.n
    .subst d
     intro _ _
     rw [sW]
     exact hm f
    .exact K9 j (by lia)
   .exact h x c
 | r+1,k,b,ws,fr,st,e,ok,dj,nw,h,hw,hm=>by
  have hk:k<g.n:=by lia
  have fU:k<st.rm.length:=by rw [ok.len]; exact hk
  rw [pushS]
  split
  .refine ⟨ok.bP hk (nw k fU),λx=>?_⟩
   by_cases c:x=b
   .rw [c]; exact Oa ok hk nw hw hm
   .exact (IA hs c).fx (h x c)
  .rename_i o eo
   have ho:=(yx eo).1
   have Cy:o≠b:=λz=>nw k fU (z ▸ ho)
   obtain ⟨d0,n0⟩:=DP dj fU (ok.nd k) ho
   have FA:lX (cR k o st) b:=λj hj m=>by
    rw [bA] at hj
    rw [iN fU] at m
    split at m
    .exact nw j hj (ak3 m)
    .exact nw j hj m
   have Lr:aQ g (cR k o st):=ok.go
   have An:k<(cR k o st).rm.length:=by rw [bA]; exact fU
   have fo:∀ j,j≠k->(st.at_ j).fr o=false:=λj hj=>by
    by_cases c:j<st.rm.length
    .exact ok.no (dj k j fU c (aFS hj) o ho)
    .refine ok.no λm=>?_
     have e:st.at_ j=lT:=by
      unfold ao.at_
      rw [aXu,awj (by lia)]
      rfl
     rw [e] at m; cases m
   have c0:=h o Cy k (by lia) (λ_=>ho) λj hj=>fo j (by lia)
   rw [mV hk] at c0
   have vo:=IA (g:=g) (x:=o) (b:=b) (st:=cR k o st) (k:=k) (ws:=ws) (fr:=fr) hs Cy
   have yV:=λj=>IC (g:=g) (k:=k) (j:=j) (b:=b) (ws:=ws) (fr:=fr) An
   refine Iz hs (by lia) (Lr.bP hk (FA k An)) (HY d0 FA Bh yV) (λj hj m=>?_) (λx hx=>?_) c0 λf=>?_
   .rw [Bh] at hj
    rw [yV] at m
    split at m
    .rcases aPD.mp m with m | m
     .exact n0 j hj m
     .exact Cy (ai5.mp m)
    .exact n0 j hj m
   .by_cases c:x=b
    .rw [c]; exact Oa Lr hk FA hw hm
    .exact ((jb hx).trans (IA hs c)).fx (h x c)
   .rw [vo.mem]
    have q:=h o Cy g.n (a17 _) (λz=>absurd z (aNy _)) λj hj=>by
     by_cases c:j=k
     .rw [c]; exact f
     .exact fo j c
    rw [sW] at q
    exact q
theorem IK (hs:0<g.size) (l1:1<=g.n) (ok:aQ g st) (dj:g.kind = "apart" -> cG st) (h:∀ x,Fx g bk x st):aQ g (ZP g b st)/\∀ x,Fx g bk x (ZP g b st):=by
 have Sw:=AW st b
 have hlen:=ok.len
 have zL:=λj=>DQ (st:=st) (b:=b) (j:=j)
 have sD:=DE (st:=st) (b:=b)
 have vis:jZ g st (nearF st b) b=bg g.size bk b:=h b _ (by lia) (λz=>sD (by lia)) λj hj=>ok.no (zL j hj (by lia))
 have l7:aQ g (st.tell (eF (nearF st b))):=ok.tell
 have h1:∀ x,Fx g bk x (st.tell (eF (nearF st b))):=λx=>(Vw.refl (st:=st)).tell.fx (h x)
 generalize hn:nearF st b=k at *
 unfold ZP
 rw [hn]
 split
 .rename_i ka
  unfold ye
  split
  .rename_i z
   subst z
   have hb:0<g.n->b∈((st.tell (eF 0)).at_ 0).seq:=λ_=>sD (by lia)
   exact ⟨l7.used hb,λx=>(NG hb).fx (h1 x)⟩
  .split
   .rename_i z
    refine Iz hs (by lia) l7 (dj ka) (λj hj=>zL j (by have:j<st.rm.length:=hj; lia) hj) (λx _=>h1 x) ?_ λ_=>?_
    .rw [z,sW] at vis; exact vis
    .rw [z,sW] at vis; exact vis
   .rename_i z1 z2
    have fU:k<st.rm.length:=by lia
    have hb:=sD fU
    obtain ⟨d2,xK⟩:=DP (st:=st.tell (eF k)) (dj ka) fU (ok.nd k) hb
    refine Iz hs (by lia) l7.go d2 xK (λx hx=>(jb hx).fx (h1 x)) ?_ λf=>?_
    .rw [mV (by lia)] at vis; exact vis
    .have q:=h b g.n (a17 _) (λz=>absurd z (aNy _)) λj hj=>by
      by_cases c:j=k
      .rw [c]; exact f
      .exact ok.no (dj ka k j fU (by lia) (aFS c) b hb)
     rw [sW] at q
     exact q
 .unfold AN
  have hb:k<g.n->b∈((st.tell (eF k)).at_ k).seq:=λz=>sD (by lia)
  have v:=λx=>NG (g:=g) (x:=x) (st:=st.tell (eF k)) hb
  refine Ob hs ?_ (by lia) (l7.used hb) (λx=>(v x).fx (h1 x)) λj hj m=>zL j hj (by lia) (((v b).m j).mp m)
  rw [← vis]
  unfold jZ
  split
  .exact (v b).mem
  .exact (v b).w k
def oG (bk:Int->Int) (sp v:Int):Int->Int:=λs=>if s=sp then v else bk s
theorem AF {sp v:Int} (hs:0<g.size) (h:y≠sp / g.size):bg g.size (oG bk sp v) y=bg g.size bk y:=by
 unfold bg
 refine al9 λk hk=>?_
 have hk:=aTe.mp hk
 unfold oG
 rw [aBJ]
 intro z
 apply h
 rw [← z,Int.add_comm,aIf _ _ (by lia),aPs (Int.natCast_nonneg k) (by lia),Int.zero_add]
theorem AG {sp v:Int} (hs:0<g.size):bg g.size (oG bk sp v) (sp / g.size)=(bg g.size bk (sp / g.size)).set (sp % g.size).toNat v:=by
 have m0:0<=sp % g.size:=a4n _ (by lia)
 have m1:sp % g.size<g.size:=aUj _ hs
 have dm:=bb3 sp g.size
 rw [Int.mul_comm] at dm
 apply aTT
 intro k
 by_cases c:k<g.size.toNat
 .rw [DO c]
  by_cases d:k=(sp % g.size).toNat
  .rw [← d,ai7 (by rw [A7]; exact c)]
   unfold oG
   rw [ajr (by lia)]
  .rw [aM1 (aFS d),DO c]
   unfold oG
   rw [aBJ (by lia)]
 .rw [awj (by rw [A7]; lia),awj (by rw [akS,A7]; lia)]
theorem HR {sp:Int} (hs:0<g.size):(bg g.size bk (sp / g.size)).getD (sp % g.size).toNat 0=bk sp:=by
 have m0:0<=sp % g.size:=a4n _ (by lia)
 have m1:sp % g.size<g.size:=aUj _ hs
 have dm:=bb3 sp g.size
 rw [Int.mul_comm] at dm
 rw [aXu,DO (by lia)]
 show bk _=_
 congr 1
 lia
theorem Xm {sp v:Int} (hs:0<g.size) (l1:1<=g.n) (ok:aQ g st) (hb:sp / g.size∈(st.at_ 0).seq) (h:∀ x,Fx g bk x st):aQ g (ZQ g 0 (sp / g.size) (st.set 0 (o7 g (st.at_ 0) sp v)))/\∀ x,Fx g (oG bk sp v) x (ZQ g 0 (sp / g.size) (st.set 0 (o7 g (st.at_ 0) sp v))):=by
 have l7:aQ g (st.set 0 (o7 g (st.at_ 0) sp v)):=ok.set (ok.nd 0) (ok.ff 0)
 have a2:(st.set 0 (o7 g (st.at_ 0) sp v)).at_ 0=o7 g (st.at_ 0) sp v:=uN (by rw [ok.len]; exact l1)
 have hb1:sp / g.size∈((st.set 0 (o7 g (st.at_ 0) sp v)).at_ 0).seq:=by rw [a2]; exact hb
 refine ⟨l7.change hb1,λx=>?_⟩
 by_cases c:x=sp / g.size
 .subst c
  refine Pb l7.len l1 hb1 λj hj=>?_
  have e:j=0:=by lia
  subst e
  intro _ _
  rw [mV l1,a2,AG hs]
  show (if sp / g.size=sp / g.size then _ else _)=_
  rw [ajr rfl]
  have q:=h (sp / g.size) 0 (avV _) (λ_=>hb) λj hj=>absurd hj (ahY _)
  rw [mV l1] at q
  rw [q]
 .have v:Vw g x st (ZQ g 0 (sp / g.size) (st.set 0 (o7 g (st.at_ 0) sp v))):=(yd (s:=o7 g (st.at_ 0) sp v) (k:=0) Iff.rfl (by show (if x=sp / g.size then _ else _)=_; rw [aBJ c]) rfl).trans (Pc hs c)
  intro k hk h1 h2
  rw [AF hs c]
  exact v.fx (h x) k hk h1 h2
def oH (bk:Int->Int):Dd->Int->Int
 | .rd _=>bk
 | .wt sp v=>oG bk sp v
theorem N9 {d:Dd} (hs:0<g.size) (l1:1<=g.n) (ok:aQ g st) (dj:g.kind = "apart" -> cG st) (hb:d.sp / g.size∈((ZP g (d.sp / g.size) st).at_ 0).seq) (h:∀ x,Fx g bk x st):aQ g (mT (fk g d st))/\∀ x,Fx g (oH bk d) x (mT (fk g d st)):=by
 obtain ⟨o1,f1⟩:=IK (b:=d.sp / g.size) hs l1 ok dj h
 cases d with
 | rd sp=>exact ⟨⟨o1.len,o1.nd,o1.ff⟩,f1⟩
 | wt sp v =>
  obtain ⟨o2,f2⟩:=Xm (v:=v) hs l1 o1 hb f1
  exact ⟨⟨o2.len,o2.nd,o2.ff⟩,f2⟩
theorem kH:aQ g (qP g.n)/\∀ x,Fx g (λ_=>0) x (qP g.n):=by
 have e:∀ j,(qP g.n).at_ j=lT:=λj=>by
  unfold qP ao.at_
  rw [aXu,ar8]
  split <;> rfl
 refine ⟨⟨aB7 ..,λj=>by rw [e]; exact nodup_nil,λj x h=>by rw [e] at h; cases h⟩,λx k hk h1 _=>?_⟩
 by_cases c:k=g.n
 .rw [c,sW]; rfl
 .have q:=h1 (by lia)
  rw [e] at q; cases q
theorem O9 {sp:Int} (hs:0<g.size) (l1:1<=g.n) (hb:sp / g.size∈(st.at_ 0).seq) (h:∀ x,Fx g bk x st):kQ g (st.at_ 0) sp=bk sp:=by
 have q:=h (sp / g.size) 0 (avV _) (λ_=>hb) λj hj=>absurd hj (ahY _)
 rw [mV l1] at q
 unfold kQ
 rw [q,HR hs]
end
section
def tY (K:W.Frag):Sp:=λvs H Q _=>∃ (p:Addr) (sh pl:Int) (ru:Str) (ls:Addr) (aq:List Addr) (du:Addr) (seq:List Int) (us:Int->Int) (n:Nat),vs=[.ref p]/\aD K H p sh pl ru ls aq du seq us n/\seq.length<64 /\
 ∀ (D:Addr) (os:List Int),H D=none->os.Perm seq->os.Pairwise (·<=·)->Q (.ref D) (upd H D (.lst (os.map V.int)))
theorem Z8 (F:aZ K "boards" "Room.boards" JQ f fd) (T:Txt K mg):au P w K mg base aW 1 f fd JP (tY K):=by
 refine F.ok fE (λvs H Q E h=>?_) (λcdv A outer st H vs Q E hr h=>?_)
 .obtain ⟨p,sh,pl,ru,ls,aq,du,seq,us,n,rfl,_⟩:=h
  rfl
 obtain ⟨p,sh,pl,ru,ls,aq,du,seq,us,n,rfl,R,h64,k⟩:=h
 have nd:=fE.nd
 refine ⟨_,(Zh (Zt (Zs (Y6 rfl) rfl T.wZ aPf (pc (Zl (K:=K) rfl (pv 0) rfl) Zb)))),?_⟩
 obtain ⟨dx,h1⟩:=R.ob
 obtain ⟨kvs,h2,⟨h3,ks,h4,h5⟩,h6⟩:=R.dc
 have per:ks.Perm seq:=by
  refine (ar6 h5 R.nd).mpr λb=>?_
  have q:=uV (kvs:=kvs) (Sum.inl b)
  rw [h6 b,h4] at q
  constructor
  .intro m
   have:=q.mpr (ali m)
   by_cases c:b∈seq
   .exact c
   .rw [aBJ c] at this; cases this
  .intro m
   rw [ajr m] at q
   obtain ⟨x,hx,e⟩:=au8.mp (q.mp rfl)
   rw [← aXH e]; exact hx
 exact ⟨_,rfl,p,_,dx,_,_,rfl,h1,T.fS,T.vj,yk ..,du,kvs,ks,rfl,h2,h4,by rw [per.length_eq]; exact h64,λD os hD po pw=>k D os hD (po.trans per) pw⟩
end
section
def MO (K:W.Frag):Sp:=λvs H Q _=>∃ (A:TA) (g:aK) (st:ao) (os:OS) (n k:Nat),vs=[.ref A.p,.int (k:Int)]/\af K H A g st os n/\k<g.n/\(st.at_ k).seq.length<64/\∀ (D:Addr) (bs:List Int),H D=none->bs.Perm (st.at_ k).seq->bs.Pairwise (·<=·)->Q (.ref D) (upd H D (.lst (bs.map V.int)))
theorem YX (F:aZ K "lies" "Steps.lies" Jz f fd) (T:Txt K mg) (xG:av P w K mg base (aa K "Stairs") "store" 1 Eg (IF K)) (ET:av P w K mg base (aa K "Room") "boards" 1 JP (tY K)):au P w K mg base aW 2 f fd Jy (MO K):=by
 refine F.ok f7 (λvs H Q E h=>?_) (λcdv A outer s0 H vs Q E hr h=>?_)
 .obtain ⟨A,g,st,os,n,k,rfl,_⟩:=h
  rfl
 obtain ⟨A,g,st,os,n,k,rfl,R,hk,h64,q⟩:=h
 have nd:=f7.nd
 refine ⟨_,(Zh (Zt (tu ET hr.m T.fS (Zl (K:=K) rfl (Zk xG hr.m T.aN (pv 0) (pc (pv 1) Zb)) rfl)))),?_⟩
 obtain ⟨dx,h1⟩:=R.ob
 have ln:=R.ln
 obtain ⟨a,e1,e2,e3,B⟩:=R.at_ (k:=k) (by lia)
 obtain ⟨ds,h3⟩:=B.bf.ob
 obtain ⟨dr,h4⟩:=B.bf.room.ob
 exact ⟨_,rfl,A.p,dx,_,rfl,h1,aA ..,_,rfl,A,g,st,os,n,k,a,rfl,R,e1,a.sp,_,ds,_,_,rfl,h3,T.gk,T.uc,wJ ..,a.rp,dr,_,rfl,h4,bO ..,a.rp,(g.cf k).sh,(g.cf k).pl,(g.cf k).ru,a.ls,a.aq,a.du,(st.at_ k).seq,(st.at_ k).us,_,rfl,B.bf.room,h64,q⟩
end
section
variable {g:aK} {st:ao} {x b:Int} {k:Nat} {ws:List Int} {bk:Int->Int}
theorem jr:∀ {r k:Nat} {st:ao},(bG g b ws r k st).rm.length=st.rm.length
 | 0,k,st=>wH
 | r+1,k,st=>by
  unfold bG
  split
  .split
   .exact bw.trans wH
   .exact jr.trans wH
  .exact jr
def eZ (g:aK) (k:Nat) (b:Int) (st:ao):ao:=if (st.at_ k).fr b=true then bG g b ((st.at_ k).wd b) (g.n - (k+1)) (k+1) (cR k b st) else cR k b st
def jO (g:aK) (k:Nat):List Int->ao->ao
 | [],st=>st
 | b :: bs,st=>jO g k bs (eZ g k b st)
theorem Vj (ok:aQ g st):aQ g (eZ g k b st):=by
 unfold eZ
 split
 .exact ok.go.bG
 .exact ok.go
theorem Vi (ok:aQ g st) (hk:k<g.n) (hx:x∈(st.at_ k).seq) (h:Fx g bk x st):Fx g bk x (eZ g k x st):=by
 have fU:k<st.rm.length:=by rw [ok.len]; exact hk
 have n1:x∉((cR k x st).at_ k).seq:=by rw [qC fU]; exact HF (ok.nd k)
 have l1:(cR k x st).rm.length=g.n:=bA.trans ok.len
 unfold eZ
 split
 .refine wF (by lia) l1 (λj hj=>?_) λq=>?_
  .by_cases c:j<k
   .exact wu (a:=st) (λi hi=>lQ (by lia)) (λz=>by lia) (h j (by lia))
   .have e:j=k:=by lia
    rw [e]; exact λh1=>absurd (h1 hk) n1
  .have e:=h k (by lia) (λ_=>hx) λi hi=>by
    have q:=q i (by lia)
    rw [lQ (by lia)] at q
    exact q
   rw [mV hk] at e
   exact e
 .rename_i f
  have f:(st.at_ k).fr x=false:=by simpa using f
  intro j hj h1 h2
  by_cases c:j=k
  .rw [c] at h1; exact absurd (h1 hk) n1
  .have q:=h j hj (λz=>by have q:=h1 z; rw [lQ c] at q; exact q) λi hi=>by
    by_cases d:i=k
    .rw [d]; exact f
    .have q:=h2 i hi
     rw [lQ d] at q
     exact q
   rw [← q]
   unfold jZ
   rw [lQ c]
   rfl
theorem WZ (hs:0<g.size) (ok:aQ g st) (hk:k<g.n) (hb:b∈(st.at_ k).seq) (h:∀ x,Fx g bk x st) (x:Int):Fx g bk x (eZ g k b st):=by
 by_cases e:x=b
 .rw [e]; exact Vi ok hk hb (h b)
 .unfold eZ
  split
  .exact ((jb e).trans (AV hs e)).fx (h x)
  .exact (jb e).fx (h x)
end
section
variable {g:aK} {st:ao} {b:Int} {k:Nat}
def pJ (l:List Int):List Int:=l.mergeSort λa b=>decide (a<=b)
theorem UO {bs l:List Int} (p:bs.Perm l) (w:bs.Pairwise (·<=·)):bs=pJ l:=by
 have w':(pJ l).Pairwise (·<=·):=(List.pairwise_mergeSort (le:=λa b:Int=>decide (a<=b)) (λa b c h1 h2=>an3 (a8o (of_decide_eq_true h1) (of_decide_eq_true h2))) (λa b=>by rcases Int.le_total a b with h | h <;> simp [h]) l).imp λh=>of_decide_eq_true h
 exact List.Perm.eq_of_pairwise (λa b _ _ h1 h2=>Int.le_antisymm h1 h2) w w' (p.trans (List.mergeSort_perm _ _).symm)
def dF (g:aK) (st:ao):Nat->ao
 | 0=>st
 | k+1=>jO g k (pJ ((dF g st k).at_ k).seq) (dF g st k)
theorem DB {j:Nat} (hk:k<st.rm.length):((eZ g k b st).at_ j).seq=if j=k then (st.at_ j).seq.erase b else (st.at_ j).seq:=by
 unfold eZ
 split
 .rw [gX,iN hk]
 .exact iN hk
theorem OC:(eZ g k b st).rm.length=st.rm.length:=by
 unfold eZ
 split
 .exact jr.trans bA
 .exact bA
theorem NF {j:Nat}:∀ {bs:List Int} {st:ao},k<st.rm.length->bs.Perm (st.at_ k).seq->(jO g k bs st).rm.length=st.rm.length/\((jO g k bs st).at_ j).seq=if j=k then [] else (st.at_ j).seq
 | [],st,_,p=>⟨rfl,by
  split
  .rename_i e
   rw [e]
   exact p.symm.eq_nil
  .rfl⟩
 | b :: bs,st,hk,p=>by
  have hk':k<(eZ g k b st).rm.length:=by rw [OC]; exact hk
  have q:bs.Perm ((eZ g k b st).at_ k).seq:=by
   rw [DB hk,ajr rfl]
   have:=p.erase b
   rwa [erase_cons_head] at this
  obtain ⟨h1,h2⟩:=NF (j:=j) (bs:=bs) hk' q
  refine ⟨h1.trans OC,h2.trans ?_⟩
  rw [DB hk]
  by_cases c:j=k
  .rw [ajr c,ajr c]
  .rw [aBJ c,aBJ c,aBJ c]
theorem OB {l:List Int}:(pJ l).Perm l:=List.mergeSort_perm _ _
theorem HQ {j:Nat}:∀ {k:Nat},k<=st.rm.length->(dF g st k).rm.length=st.rm.length/\((dF g st k).at_ j).seq=if j<k then [] else (st.at_ j).seq
 | 0,_=>⟨rfl,by rw [aBJ (ahY _)]; rfl⟩
 | k+1,hk=>by
  obtain ⟨h1,h2⟩:=HQ (j:=j) (k:=k) (by lia)
  obtain ⟨h3,h4⟩:=NF (g:=g) (j:=j) (k:=k) (st:=dF g st k) (by rw [h1]; lia) OB
  refine ⟨h3.trans h1,h4.trans ?_⟩
  by_cases c:j=k
  .rw [ajr c,ajr (by lia)]
  .rw [aBJ c,h2]
   by_cases c2:j<k
   .rw [ajr c2,ajr (by lia)]
   .rw [aBJ c2,aBJ (by lia)]
theorem OA (hl:st.rm.length=g.n):cG (dF g st g.n):=λi j hi hj hij x hx=>by
 have q:=HQ (g:=g) (st:=st) (j:=i) (k:=g.n) (by lia)
 rw [q.1] at hi
 rw [q.2,ajr (by lia)] at hx
 exact absurd hx (by simp)
end
section
def tW (K:W.Frag):Sp:=λvs H Q _=>∃ (A:TA) (g:aK) (st:ao) (os:OS),vs=[.ref A.p]/\af K H A g st os 0/\g.U.length<64 /\
 ∀ H' e' os',af K H' (A.re e') g (mT (dF g st g.n)) os' 0->qY g.n H' A.ev (dF g st g.n).ev->(dF g st g.n).ev.length<=2000->¬ OW (A.re e') os' A.ev->bI (OW A os) H H' (OW (A.re e') os')->Q (.ref A.ev) H'
theorem Zea (F:aZ K "emptied" "Stairs.emptied" Kz f fd) (T:Txt K mg) (Ga:av P w K mg base (aa K "Stairs") "lies" 2 Jy (MO K)) (kY:av P w K mg base (aa K "Stairs") "go_out" 5 ZE (yi K)) (rY:av P w K mg base (aa K "Stairs") "go_on" 4 Bu (Di K)) (rZ:av P w K mg base (aa K "Stairs") "happened" 1 ZN (D8 K)):au P w K mg base aW 6 f fd Ky (tW K):=by
 refine F.ok cN (λvs H Q E h=>?_) (λcdv A outer s0 H vs Q E hr h=>?_)
 .obtain ⟨A,g,st,os,rfl,_⟩:=h
  rfl
 obtain ⟨A,g,st,os,rfl,R,hU,q⟩:=h
 have nd:=cN.nd
 refine ⟨_,(Zd (om akt rfl (tF rfl T.mF (pc (Zl (K:=K) rfl (pv 0) rfl) Zb)) (bQ 1 nd) (Zh (om akt rfl (yu (K:=K) rfl (Zk Ga hr.m T.aN (pv 0) (pc (pv 1) Zb))) (bQ 2 nd) (Zd (lR (Zk kY hr.m T.aN (pv 0) (pc (pv 1) (pc (pv 2) Zb))) (ZV (K:=K) (n:=2) rfl rfl (Zr (bQ 3 nd) (Zr (bQ 4 nd) ZT))))
   (Zh (aH (ZS (pv 4)) (Zh (Zo (Zk rY hr.m T.aN (pv 0) (pc (ak ZA (pv 1) Zj) (pc (pv 2) (pc (pv 3) Zb)))))) Zu))))))
   (Zh (Zt (tu rZ hr.m T.aN (pv 0))))),?_⟩
 obtain ⟨dx,h1⟩:=R.ob
 have ln:=R.ln
 have lS:=R.lS
 have l4:g.n<=4:=R.wf.l4
 have hsl:st.rm.length=g.n:=by lia
 refine hide λu1 e1=>?_
 refine ⟨_,rfl,A.p,_,dx,_,_,rfl,h1,T.aN,T.oZ,qL ..,_,rfl,by lia,by lia,yz (lo:=0) (n:=(A.as.length:Int).toNat) (λi σ G=>∃ (v1 v2 v3 v4:Option V) (os':OS),σ=[some (.ref A.p),v1,v2,v3,v4]/\af K G A g (dF g st i) os' (400 * i)/\bI (OW A os) H G (OW A os')) ⟨_,_,_,_,os,rfl,R,bI.same (aB.refl _)⟩ ?_ ?_⟩
 .rintro i σ G hi ⟨v1,v2,v3,v4,aX,rfl,R1,p1⟩
  have e0:(0:Int)+(i:Int)=(i:Int):=by lia
  have hi':i<g.n:=by lia
  rw [e0]
  refine gN ?_
  try dsimp only
  obtain ⟨dU,g1⟩:=R1.ob
  refine ⟨_,rfl,A.p,dU,_,rfl,g1,aA ..,_,rfl,A,g,dF g st i,aX,_,i,rfl,R1,hi',R1.few hi' hU,λD bs hD pb pw=>⟨D,rfl,⟨_,aF.of Za⟩,?_⟩⟩
  have n64:bs.length<64:=by rw [pb.length_eq]; exact R1.few hi' hU
  have eb:=UO pb pw
  have s2:=Zg hD (.lst (bs.map V.int))
  have eD:=Za (H:=G) (a:=D) (o:=.lst (bs.map V.int))
  have R2:=R1.same s2
  have p2:=p1.trans (bI.same s2)
  have nD:=R1.fresh hD
  have eK:jO g i bs (dF g st i)=dF g st (i+1):=by show _=jO g i (pJ _) _; rw [← eb]
  generalize upd G D (.lst (bs.map V.int))=G2 at *
  refine IX (K:=K) (a:=D) (xs:=bs.map V.int) (λj σ G'=>∃ (v2 v3 v4:Option V) (os':OS) (s':ao),σ=[some (.ref A.p),some (.int (i:Int)),v2,v3,v4]/\af K G' A g s' os' (400 * i+6 * j)/\jO g i (bs.drop j) s'=dF g st (i+1)/\(bs.drop j).Perm (s'.at_ i).seq/\bI (OW A os) H G' (OW A os')/\G' D=some (.lst (bs.map V.int))/\¬ OW A os' D)
   ⟨_,_,_,aX,dF g st i,rfl,R2,eK,pb,p2,eD,nD⟩ (λj σ G' _ h=>by obtain ⟨_,_,_,_,_,_,_,_,_,_,e,_⟩:=h; exact aF.of e) ?_ ?_
  .rintro j x σ G3 hx ⟨v2,v3,v4,jK,s',rfl,R3,e3,Co,p3,Um,SG⟩
   obtain ⟨b,MF,rfl⟩:=Ih hx
   have hj:j<bs.length:=(a7Y.mp MF).1
   have ed:bs.drop j=b :: bs.drop (j+1):=by
    rw [a9T hj]
    congr 1
    exact (a7Y.mp MF).2
   rw [ed] at e3 Co
   have hb:b∈(s'.at_ i).seq:=Co.mem_iff.mp abW
   have lS3:=R3.lS
   have kF:=R3.ln
   obtain ⟨_,u2,_,_,_,_⟩:=R3.lM (k:=i) (by lia)
   obtain ⟨bU,bl⟩:=u2 b hb
   obtain ⟨we,g3⟩:=R3.ob
   refine gN ?_
   try dsimp only
   refine hide λu2 e2=>?_
   refine ⟨_,rfl,A.p,we,_,rfl,g3,aA ..,_,rfl,_,rfl,A,g,s',jK,_,i,b,rfl,R3,hi',hb,by lia,λH4 vq t l et el nl R4 p4=>⟨t,_,rfl,bB.of et,rfl,_,_,rfl,gN ⟨_,_,rfl,gN ⟨rfl,?_⟩⟩⟩⟩
   subst e2
   try dsimp only
   have ue:(bs.drop (j+1)).Perm ((eZ g i b s').at_ i).seq:=by
    rw [DB (by lia),ajr rfl]
    have:=Co.erase b
    rwa [erase_cons_head] at this
   have Dc:=p4.out Um SG
   have Lq:=p3.trans p4
   have e4:jO g i (bs.drop (j+1)) (eZ g i b s')=dF g st (i+1):=e3
   unfold eZ at e4 ue
   cases fr:(s'.at_ i).fr b with
   | true =>
    rw [fr] at e4 ue
    rw [ajr rfl] at e4 ue
    obtain ⟨Ax,g4⟩:=R4.ob
    refine ⟨_,rfl,_,rfl,fT rfl ⟨_,rfl,A.p,Ax,_,rfl,g4,aA ..,_,rfl,_,_,rfl,rfl,_,rfl,_,rfl,A,g,cR i b s',vq,_,i+1,b,l,_,rfl,R4,hi',bU,el,nl,bl,by lia,λG5 rA R5 p5=>?_⟩⟩
    have MG:=p5.out Dc.1 Dc.2
    exact ⟨_,_,_,rA,_,rfl,R5.le (by lia),e4,ue,Lq.trans p5,MG.1,MG.2⟩
   | false =>
    rw [fr] at e4 ue
    rw [aBJ am8] at e4 ue
    exact ⟨_,rfl,_,rfl,cW rfl ⟨_,_,_,vq,_,rfl,R4.le (by lia),e4,ue,Lq,Dc.1,Dc.2⟩⟩
  .rintro σ G3 ⟨v2,v3,v4,jK,s',rfl,R3,e3,Co,p3,_⟩
   rw [afy,List.drop_length] at e3
   have e3:s'=dF g st (i+1):=e3
   subst e3
   rw [afy] at R3
   exact ⟨_,_,_,_,jK,rfl,R3.le (by lia),p3⟩
 rintro σ G ⟨v1,v2,v3,v4,aX,rfl,R1,p1⟩
 subst e1
 try dsimp only
 have en:(A.as.length:Int).toNat=g.n:=by lia
 rw [en] at R1
 obtain ⟨dU,g1⟩:=R1.ob
 exact ⟨_,rfl,A.p,dU,_,rfl,g1,aA ..,A,g,_,aX,_,rfl,R1,λe' H3 R3 GU ne3 p3=>q _ e' aX R3 GU (awv R1.sP (by lia)) ne3 (p1.trans p3)⟩
end
section
variable {g:aK} {st:ao} {x b:Int} {k:Nat} {bk:Int->Int}
theorem Oz (hs:0<g.size) (hk:k<g.n):∀ {bs:List Int} {st:ao},aQ g st->bs.Perm (st.at_ k).seq->(∀ x,Fx g bk x st)->aQ g (jO g k bs st)/\∀ x,Fx g bk x (jO g k bs st)
 | [],st,ok,_,h=>⟨ok,h⟩
 | b :: bs,st,ok,p,h=>by
  have hb:b∈(st.at_ k).seq:=p.mem_iff.mp abW
  have q:bs.Perm ((eZ g k b st).at_ k).seq:=by
   rw [DB (by rw [ok.len]; exact hk),ajr rfl]
   have:=p.erase b
   rwa [erase_cons_head] at this
  exact Oz hs hk (bs:=bs) (st:=eZ g k b st) (Vj ok) q (WZ hs ok hk hb h)
theorem DZ (hs:0<g.size) (ok:aQ g st) (h:∀ x,Fx g bk x st):∀ {k:Nat},k<=g.n->aQ g (dF g st k)/\∀ x,Fx g bk x (dF g st k)
 | 0,_=>⟨ok,h⟩
 | k+1,hk=>by
  obtain ⟨h1,h2⟩:=DZ hs ok h (k:=k) (by lia)
  exact Oz hs (by lia) h1 OB h2
theorem Nj (hs:0<g.size) (ok:aQ g st) (h:∀ x,Fx g bk x st) (sp:Int):(dF g st g.n).mem sp=bk sp:=by
 obtain ⟨o1,h1⟩:=DZ hs ok h (a17 _)
 have e:=h1 (sp / g.size) g.n (a17 _) (λz=>absurd z (aNy _)) λj hj=>o1.no (by
  rw [(HQ (g:=g) (st:=st) (j:=j) (k:=g.n) (by rw [ok.len]; exact a17 _)).2,ajr hj]
  simp)
 rw [sW] at e
 rw [← HR (g:=g) (bk:=bk) (sp:=sp) hs,← e,HR hs]
theorem HP (ok:aQ g st) (h:∀ x,Fx g bk x st):aQ g (mT st)/\∀ x,Fx g bk x (mT st):=⟨⟨ok.len,ok.nd,ok.ff⟩,h⟩
end
structure tK (mem:Int->Int) (ps:List (Int×Int)):Prop where
 up:ps.Pairwise λa b=>a.1<b.1
 mm:∀ s v,(s,v)∈ps↔mem s=v/\v≠0
theorem tK.uniq {mem:Int->Int} {ps qs:List (Int×Int)} (h1:tK mem ps) (h2:tK mem qs):ps=qs:=by
 have nd:∀ {l:List (Int×Int)},(l.Pairwise λa b=>a.1<b.1)->l.Nodup:=λh=>h.imp λ{a b} z e=>by rw [e] at z; lia
 have pm:ps.Perm qs:=(ar6 (nd h1.up) (nd h2.up)).mpr λq=>by
  obtain ⟨s,v⟩:=q
  rw [h1.mm,h2.mm]
 exact List.Perm.eq_of_pairwise (le:=λa b=>a.1<b.1) (λa b _ _ z1 z2=>by lia) h1.up h2.up pm
theorem tK.congr {mem mem':Int->Int} {ps:List (Int×Int)} (h:tK mem ps) (e:∀ s,mem s=mem' s):tK mem' ps:=⟨h.up,λs v=>by rw [h.mm,e]⟩
def kI (H:Hp) (l:Addr) (ps:List (Int×Int)):Prop:=∃ as:List Addr,H l=some (.lst (as.map V.ref))/\as.length=ps.length/\∀ (i:Nat) (a:Addr) (p:Int×Int),as[i]?=some a->ps[i]?=some p->H a=some (.tup [.int p.1,.int p.2])
theorem kI.same {H H':Hp} {l:Addr} {ps:List (Int×Int)} (h:kI H l ps) (s:aB H H'):kI H' l ps:=by
 obtain ⟨as,h1,h2,h3⟩:=h
 exact ⟨as,s _ _ h1,h2,λi a p e1 e2=>s _ _ (h3 i a p e1 e2)⟩
theorem kI.eqv {H:Hp} {l m:Addr} {ps:List (Int×Int)} (h1:kI H l ps) (h2:kI H m ps) (hl:ps.length<=1000):Eqv 2 H (.ref l) (.ref m):=by
 obtain ⟨as,a1,a2,a3⟩:=h1
 obtain ⟨bs,b1,b2,b3⟩:=h2
 refine .inr ⟨l,m,_,_,rfl,rfl,.inl ⟨a1,b1⟩,by rw [afy,afy,a2,b2],by rw [afy,a2]; exact hl,λi u v e1 e2=>?_⟩
 rw [aC3] at e1 e2
 cases ha:as[i]? with
 | none=>rw [ha] at e1; cases e1
 | some a =>
  cases hb:bs[i]? with
  | none=>rw [hb] at e2; cases e2
  | some b =>
   rw [ha] at e1
   rw [hb] at e2
   cases e1
   cases e2
   have hi:i<ps.length:=by rw [← a2]; exact (a7Y.mp ha).1
   have hp:ps[i]?=some ps[i]:=adk hi
   exact Eqv.Av (a3 i a _ ha hp) (b3 i b _ hb hp) (by show 2<=1000; decide) λx hx=>by
    rcases aM6.mp hx with rfl | hx
    .trivial
    .rw [ai5.mp hx]; trivial
theorem zT {kvs:List (Key×V)} {ks:List Int} {mem:Int->Int} (h:kvs.map Prod.fst=ks.map Sum.inl) (nd:ks.Nodup) (hv:∀ s,aM kvs (Sum.inl s:Key)=if mem s=0 then none else some (.int (mem s))):kvs=(ks.map λk=>(k,mem k)).map λp=>(Sum.inl p.1,V.int p.2):=by
 have key:∀ {kvs:List (Key×V)} {ks:List Int},kvs.map Prod.fst=ks.map Sum.inl->ks.Nodup->(∀ k∈ks,aM kvs (Sum.inl k:Key)=some (.int (mem k)))->kvs=(ks.map λk=>(k,mem k)).map λp=>(Sum.inl p.1,V.int p.2):=by
  intro kvs
  induction kvs with
  | nil =>
   intro ks h _ _
   cases ks with
   | nil=>rfl
   | cons k r=>cases h
  | cons p r ih =>
   intro ks h nd hv
   cases ks with
   | nil=>cases h
   | cons k ks =>
    rw [asO,asO] at h
    injection h with h1 h2
    obtain ⟨n1,n2⟩:=aEW.mp nd
    have v0:=hv k abW
    rw [ZR h1] at v0
    rw [asO,asO,← ih h2 n2 λk' m=>by
     have v:=hv k' (aZE _ m)
     rw [ZI λz=>n1 (by rw [aXH (h1.symm.trans z)]; exact m)] at v
     exact v]
    rw [← h1,← aGB v0]
 refine key h nd λk m=>?_
 have z:=(uV (kvs:=kvs) (Sum.inl k)).mpr (by rw [h]; exact ali m)
 have v:=hv k
 by_cases c:mem k=0
 .rw [ajr c] at v; rw [v] at z; cases z
 .rw [aBJ c] at v; exact v
section
def Ni (K:W.Frag):Sp:=λvs H Q _=>∃ (bm dk:Addr) (size:Int) (mem:Int->Int) (U:List Int),vs=[.ref bm]/\dR K H bm dk size mem U/\0<size/\size<=1000/\U.length<=800 /\
 ∀ (D:Addr) (ps:List (Int×Int)) (H':Hp),H D=none->aB H H'->kI H' D ps->tK mem ps->Q (.ref D) H'
theorem Zfj (F:aZ K "pairs" "Memory.pairs" Km f fd) (T:Txt K mg):au P w K mg base aW 1 f fd Kl (Ni K):=by
 refine F.ok eL (λvs H Q E h=>?_) (λcdv A outer s0 H vs Q E hr h=>?_)
 .obtain ⟨bm,dk,size,mem,U,rfl,_⟩:=h
  rfl
 obtain ⟨bm,dk,size,mem,U,rfl,M,z0,z1,lU,q⟩:=h
 have nd:=eL.nd
 refine ⟨_,(Zh (Zt (Zs (YI rfl) rfl T.wZ aPf (pc (XS (Zl (K:=K) rfl (pv 0) rfl)) Zb)))),?_⟩
 obtain ⟨dx,h1⟩:=M.ob
 obtain ⟨kvs,h2,hk,h4⟩:=M.kept
 have kl:=NT z0 hk h4 M.sup
 obtain ⟨ks,h5,h6⟩:=hk
 have ek:=zT h5 h6 h4
 rw [ek] at h2
 have mk:∀ k,k∈ks↔mem k≠0:=λk=>by
  have z:=uV (kvs:=kvs) (Sum.inl k)
  rw [h4 k,h5] at z
  constructor
  .intro m c
   rw [ajr c] at z
   exact absurd (z.mpr (ali m)) am8
  .intro c
   rw [aBJ c] at z
   obtain ⟨x,hx,e⟩:=au8.mp (z.mp rfl)
   rw [← aXH e]; exact hx
 have lk:ks.length<=1000000:=by
  have l:=aOy List.length h5
  rw [afy,afy] at l
  rw [← l]
  exact awv kl (awv (Nat.mul_le_mul lU (by lia:size.toNat<=1000)) (by decide))
 refine ⟨_,rfl,bm,_,dx,_,_,rfl,h1,T.pU,T.yH,DF ..,dk,_,rfl,h2,λv hv=>?_⟩
 have s1:=Zg hv (.ext λh=>h.IsItemsView v dk)
 refine ⟨v,dk,ks.map λk=>(k,mem k),rfl,Za,s1 _ _ h2,by rw [map_map]; exact (map_id ks).symm ▸ h6,by rw [afy]; exact lk,λD os H' hD s2 eD et pm pw=>?_⟩
 refine q D (os.map λe=>e.2) H' (s1.free hD) (s1.trans s2) ⟨os.map λe=>e.1,by rw [map_map]; exact eD,by rw [afy,afy],λi a p e1 e2=>?_⟩ ⟨List.pairwise_map.mpr pw,λs v=>?_⟩
 .rw [aC3] at e1 e2
  cases e:os[i]? with
  | none=>rw [e] at e1; cases e1
  | some x =>
   rw [e] at e1 e2
   cases e1
   cases e2
   exact (et x (a7T e)).2
 .rw [pm.mem_iff,mem_map]
  constructor
  .rintro ⟨k,hk,e⟩
   cases e
   exact ⟨rfl,(mk _).mp hk⟩
  .rintro ⟨e1,e2⟩
   exact ⟨s,(mk s).mpr (by rw [e1]; exact e2),by rw [e1]⟩
def Ox (K:W.Frag):Sp:=λvs H Q _=>∃ (A:TA) (g:aK) (st:ao) (os:OS) (n:Nat),vs=[.ref A.p]/\af K H A g st os n /\
 ∀ (D:Addr) (ps:List (Int×Int)) (H':Hp),H D=none->aB H H'->kI H' D ps->tK st.mem ps->Q (.ref D) H'
theorem Zfk (F:aZ K "memory" "Steps.memory" Kh f fd) (T:Txt K mg) (EA:av P w K mg base (aa K "Memory") "pairs" 1 Kl (Ni K)):au P w K mg base aW 2 f fd Kf (Ox K):=by
 refine F.ok d8 (λvs H Q E h=>?_) (λcdv A outer s0 H vs Q E hr h=>?_)
 .obtain ⟨A,g,st,os,n,rfl,_⟩:=h
  rfl
 obtain ⟨A,g,st,os,n,rfl,R,q⟩:=h
 have nd:=d8.nd
 refine ⟨_,(Zh (Zt (tu EA hr.m T.pU (Zl (K:=K) rfl (pv 0) rfl)))),?_⟩
 obtain ⟨dx,h1⟩:=R.ob
 obtain ⟨dm,h2⟩:=R.mem.ob
 have z0:=R.wf.z0
 exact ⟨_,rfl,A.p,_,dx,_,_,rfl,h1,T.aN,T.BX,IZ ..,A.bm,dm,_,rfl,h2,qh ..,A.bm,A.dk,g.size,st.mem,g.U,rfl,R.mem,by lia,R.wf.z1,R.wf.lU,q⟩
end
def gG (H:Hp) (bd:Addr) (bk:Int->Int) (n:Nat):Prop:=∃ kvs,H bd=some (.dK kvs)/\(kvs.length<=n/\KI kvs)/\∀ s,(aM kvs (Sum.inl s:Key)).getD (V.int 0)=V.int (bk s)
theorem gG.frame {H H':Hp} {bd:Addr} {bk:Int->Int} {n:Nat} (h:gG H bd bk n) (f:∀ o,H bd=some o->H' bd=some o):gG H' bd bk n:=by
 obtain ⟨kvs,h1,h2⟩:=h
 exact ⟨kvs,f _ h1,h2⟩
theorem gG.put {H:Hp} {bd:Addr} {bk:Int->Int} {n:Nat} {kvs:List (Key×V)} (h2:kvs.length<=n/\KI kvs) (h3:∀ s,(aM kvs (Sum.inl s:Key)).getD (V.int 0)=V.int (bk s)) (sp v:Int):gG (upd H bd (.dK (putK kvs (Sum.inl sp) (V.int v)))) bd (oG bk sp v) (n+1):=by
 refine ⟨_,Za,⟨awv (Bp ..) (by lia),h2.2.put ..⟩,λs=>?_⟩
 rw [yv]
 unfold oG
 by_cases c:s=sp
 .rw [ajr (by rw [c]),ajr c]
  rfl
 .rw [aBJ (λz=>c (aXH z)),aBJ c]
  exact h3 s
theorem gG.congr {H:Hp} {bd:Addr} {bk rF:Int->Int} {n:Nat} (h:gG H bd bk n) (e:∀ s,bk s=rF s):gG H bd rF n:=by
 obtain ⟨kvs,h1,h2,h3⟩:=h
 exact ⟨kvs,h1,h2,λs=>by rw [h3,e]⟩
section
structure P8 (H H':Hp) (A A':TA) (os os':OS) (bd:Addr):Prop where
 kp:∀ x o,H x=some o->(OW A os x->¬ Mt o)->x≠bd->H' x=some o
 fr:∀ x,OW A' os' x->OW A os x\/H x=none
def Nh (K:W.Frag):Sp:=λvs H Q _=>∃ (A:TA) (g:aK) (st:ao) (os:OS) (t bd:Addr) (d:Dd) (bk rF:Int->Int) (n:Nat),vs=[.ref A.p,.ref t,.ref bd]/\lV K H A g st os/\H t=some (.tup d.vs)/\d.sp / g.size∈g.U/\aQ g st/\(∀ x,Fx g bk x st)/\gG H bd rF n/\(∀ s,oH rF d s=oH bk d s)/\n<=900/\¬ OW A os bd /\
 ∀ H' e' os' tp,H' tp=some (.tup [.bl true,.ref A.ev])->lV K H' (A.re e') g (mT (fk g d st)) os'->qY g.n H' A.ev (fk g d st).ev->(fk g d st).ev.length<=100->¬ OW (A.re e') os' A.ev->gG H' bd (oH bk d) (n+1)->aQ g (mT (fk g d st))->(∀ x,Fx g (oH bk d) x (mT (fk g d st)))->P8 H H' A (A.re e') os os' bd->d.sp / g.size∈((fk g d st).at_ 0).seq->Q (.ref tp) H'
theorem Vh (F:aZ K "_law_told" "_law_told" Hw f fd) (T:Txt K mg) (xD:av P w K mg base (aa K "Stairs") "read" 15 Ef (HG K)) (Ez:av P w K mg base (aa K "Stairs") "write" 15 J9 (NK K)) (z4:∀ n,Def P w K mg base "_law_same" (n+1) rG (yl n)):au P w K mg base aW 16 f fd Hv (Nh K):=by
 refine F.ok nG (λvs H Q E h=>?_) (λcdv A outer s0 H vs Q E hr h=>?_)
 .obtain ⟨A,g,st,os,t,bd,d,bk,rF,n,rfl,_⟩:=h
  rfl
 obtain ⟨A,g,st,os,t,bd,d,bk,rF,n,rfl,R,ht,bU,ok,fx,⟨kvs,h2,h3,h4⟩,Mc,n9,o8,q⟩:=h
 have nd:=nG.nd
 have hu:=b9 hr
 have oU:=z4 0
 refine ⟨_,(Zd (aH (Zv aY (az (qM (K:=K) rfl) (pv 1) Zj (λ_ _=>rfl)) j5 (Zw _)) (Zd (A5 hu (pv 2) (az (qM (K:=K) rfl) (pv 1) Zj (λ_ _=>rfl)) (az (qM (K:=K) rfl) (pv 1) Zj (λ_ _=>rfl)) rfl)
   (Zh (Zt (j4 (pc eN (pc (Zk Ez hr.m T.aN (pv 0) (pc (az (qM (K:=K) rfl) (pv 1) Zj (λ_ _=>rfl)) (pc (az (qM (K:=K) rfl) (pv 1) Zj (λ_ _=>rfl)) Zb))) Zb)))))) Zu)
   (Zd (lR (Zk xD hr.m T.aN (pv 0) (pc (az (qM (K:=K) rfl) (pv 1) Zj (λ_ _=>rfl)) Zb)) (ZV (K:=K) (n:=2) rfl rfl (Zr (bQ 3 nd) (Zr (bQ 4 nd) ZT))))
   (Zh (Zt (j4 (pc (Zm oU hr.m rfl (pc (pv 3) (pc (IU hu (pv 2) (az (qM (K:=K) rfl) (pv 1) Zj (λ_ _=>rfl)) Zj ⟨rfl,rfl,rfl,rfl⟩) Zb))) (pc (pv 4) Zb))))))),?_⟩
 obtain ⟨dx,h1⟩:=R.at_.ob
 have hs:0<g.size:=by have:=R.at_.wf.z0; lia
 have l1:1<=g.n:=R.at_.wf.l1
 have nt:t≠bd:=λz=>by rw [z,h2] at ht; cases ht
 have nV:A.p≠bd:=λz=>by rw [z,h2] at h1; cases h1
 cases d with
 | wt sp v =>
  have off:∀ {x o},H x=some o->x≠bd->upd H bd (.dK (putK kvs (Sum.inl sp) (V.int v))) x=some o:=λ{x o} e n=>by rw [Zc n]; exact e
  have R1:lV K (upd H bd (.dK (putK kvs (Sum.inl sp) (V.int v)))) A g st os:=R.frame λx o e z=>off e λy=>by
   subst y
   rcases z with z | z
   .exact o8 z
   .rw [h2] at e; cases e; exact z trivial
  have ht1:=off ht nt
  refine ⟨_,rfl,t,_,_,_,rfl,rfl,bB.of ht,gF,rfl,_,rfl,fT (an3 rfl) ?_⟩
  refine ⟨_,rfl,t,_,_,_,rfl,rfl,bB.of ht,ju,_,rfl,_,rfl,t,_,_,_,rfl,rfl,bB.of ht,iz,bd,_,rfl,jB.k (k:=Sum.inl sp) h2 (ZG (by have:=h3.1; lia)),?_⟩
  refine ⟨_,rfl,A.p,dx,_,rfl,off h1 nV,aA ..,_,rfl,t,_,_,_,rfl,rfl,bB.of ht1,iz,_,rfl,t,_,_,_,rfl,rfl,bB.of ht1,ju,A,g,st,os,sp,v,rfl,R1.at_,R1.dj,bU,λH2 e' aX r1 r2 r3 r4 r5 r6 r7=>⟨(sl 2),λtp htp=>?_⟩⟩
  have s3:=Zg htp (.tup [.bl true,.ref A.ev])
  have hb:(Dd.wt sp v).sp / g.size∈((ZP g ((Dd.wt sp v).sp / g.size) st).at_ 0).seq:=by rw [← (Vn (g:=g) (d:=.wt sp v) (st:=st)).sq 0]; exact r7
  obtain ⟨o2,f2⟩:=N9 (d:=.wt sp v) hs l1 ok R.dj hb fx
  have R2:lV K H2 (A.re e') g (mT (fk g (.wt sp v) st)) aX:=⟨r1,r6⟩
  refine q _ e' aX tp Za (R2.frame λx o e _=>s3 _ _ e) (qY.frame r2 (λo e=>s3 _ _ e) λx ys e=>s3 _ _ e) r3 r4 (((gG.put h3 h4 sp v).frame λo e=>s3 _ _ (r5.out e o8).1).congr Mc) o2 f2 ⟨λx o e n nb=>s3 _ _ (r5.kp x o (off e nb) n),λx z=>(r5.fr x z).imp id λz=>?_⟩ r7
  by_cases c:x=bd
  .rw [c,Za] at z; cases z
  .rw [Zc c] at z; exact z
 | rd sp =>
  have h4:∀ s,(aM kvs (Sum.inl s:Key)).getD (V.int 0)=V.int (bk s):=λs=>(h4 s).trans (aOy V.int (Mc s))
  refine ⟨_,rfl,t,_,_,_,rfl,rfl,bB.of ht,gF,rfl,_,rfl,cW (by decide +kernel) ?_⟩
  dsimp only [fY]
  refine ⟨_,rfl,A.p,dx,_,rfl,h1,aA ..,_,rfl,t,_,_,_,rfl,rfl,bB.of ht,iz,A,g,st,os,sp,rfl,R.at_,R.dj,bU,λH1 e' aX tp vZ r1 r2 r3 r4 r5 r6 r7=>⟨tp,_,rfl,bB.of vZ,rfl,_,_,rfl,gN ⟨_,_,rfl,gN ⟨rfl,?_⟩⟩⟩⟩
  try dsimp only
  obtain ⟨o1,f1⟩:=IK (b:=sp / g.size) hs l1 ok R.dj fx
  have wl:=O9 hs l1 r7 f1
  rw [wl]
  obtain ⟨hb1,nb1⟩:=r5.out h2 o8
  have ht1:=tups r5 ht
  have gq:=dS.k (k:=Sum.inl sp) hb1
  refine ⟨_,rfl,_,rfl,bd,rfl,.inl ⟨_,.inl hb1⟩,_,rfl,t,_,_,_,rfl,rfl,bB.of ht1,iz,_,gq,?_⟩
  rw [h4]
  refine ⟨_,_,rfl,⟨rfl,trivial⟩,λG s2=>⟨_,rfl,(sl 2),λRy Gs=>?_⟩⟩
  have s3:=s2.trans (Zg Gs (.tup [.bl true,.ref A.ev]))
  have R2:lV K H1 (A.re e') g (mT (fk g (.rd sp) st)) aX:=⟨r1,r6⟩
  obtain ⟨o2,f2⟩:=N9 (d:=.rd sp) hs l1 ok R.dj r7 fx
  refine q _ e' aX Ry Za (R2.frame λx o e _=>s3 _ _ e) (qY.frame r2 (λo e=>s3 _ _ e) λx ys e=>s3 _ _ e) r3 r4 ⟨kvs,s3 _ _ hb1,⟨by have:=h3.1; lia,h3.2⟩,h4⟩ o2 f2 ⟨λx o e n nb=>s3 _ _ (r5.kp x o e n),λx z=>r5.fr x z⟩ r7
end
section
def jH (bk:Int->Int) (os:List Int):List (Int×Int):=(os.filter λs=>!decide (bk s=0)).map λs=>(s,bk s)
theorem WW {bk:Int->Int} {os:List Int} {i:Nat} {s:Int} (h:os[i]?=some s):jH bk (os.take (i+1))=jH bk (os.take i)++if bk s=0 then [] else [(s,bk s)]:=by
 unfold jH
 rw [List.take_succ,h,List.filter_append,aAZ]
 congr 1
 show (List.filter _ [s]).map _=_
 by_cases c:bk s=0
 .rw [ajr c,ba1,aBJ (by simp [c])]; rfl
 .rw [aBJ c,ba1,ajr (by simp [c])]; rfl
def Ow (K:W.Frag):Sp:=λvs H Q _=>∃ (bd:Addr) (bk:Int->Int) (n:Nat),vs=[.ref bd]/\gG H bd bk n/\n<=900/\∀ (D:Addr) (ps:List (Int×Int)) (H':Hp),aB H H'->kI H' D ps->tK bk ps->ps.length<=1000->Q (.ref D) H'
theorem WY (F:aZ K "_law_pairs" "_law_pairs" DJ f fd) (T:Txt K mg):au P w K mg base aW 1 f fd Ik (Ow K):=by
 refine F.ok kX (λvs H Q E h=>?_) (λcdv A outer s0 H vs Q E hr h=>?_)
 .obtain ⟨bd,bk,n,rfl,_⟩:=h
  rfl
 obtain ⟨bd,bk,n,rfl,⟨kvs,h1,⟨h2,ks,h5,h6⟩,h3⟩,n9,q⟩:=h
 have nd:=kX.nd
 have hu:=b9 hr
 refine ⟨_,(Zh (Zt (WN (tE (jJ:=(Zi DJ)) (oN:=kK) (N:=["_law_spot", "_law_book"]) (own:=1) (js:=[0]) (by decide +kernel) rfl rfl) rfl (yu (K:=K) rfl (Zs (ZfV rfl) rfl T.wZ aPf (pc (pv 0) Zb))) (λ_ _ _ _ _ _=>(bQ 0 (show List.Nodup (["_law_spot", "_law_book"]:List Str) by decide +kernel))) (λ_ _ _ _ _ _=>(Zv uf (A6 hu (pv 1) (pv 0) (λ_ _=>rfl)) Zj (Zw _))) (λ_ _ _ _ _ _=>(j4 (pc (pv 0) (pc (A6 hu (pv 1) (pv 0) (λ_ _=>rfl)) Zb))))))),?_⟩
 have lk:ks.length<=900:=by
  have l:=aOy List.length h5
  rw [afy,afy] at l
  lia
 refine ⟨_,rfl,bd,kvs,ks,rfl,h1,h5,by lia,λD os hD po pw=>⟨D,rfl,⟨_,aF.of Za⟩,λlz oE=>?_⟩⟩
 have s1:=Zg hD (.lst (os.map V.int))
 have eD:=Za (H:=H) (a:=D) (o:=.lst (os.map V.int))
 generalize upd H D (.lst (os.map V.int))=G1 at *
 have lo:os.length<=900:=by rw [po.length_eq]; exact lk
 refine Jb (K:=K) (a:=D) (xs:=os.map V.int) (l:=lz) (λi ys σ G=>∃ (v0:Option V) (as:List Addr),σ=[v0,some (.ref bd)]/\ys=as.map V.ref/\as.length=(jH bk (os.take i)).length/\(∀ (j:Nat) (a:Addr) (p:Int×Int),as[j]?=some a->(jH bk (os.take i))[j]?=some p->G a=some (.tup [.int p.1,.int p.2]))/\G lz=some (.lst ys)/\aB G1 G)
  ⟨none,[],rfl,rfl,rfl,λj a p e=>by simp at e,Za,Zg oE _⟩ (λi ys σ G _ h=>by obtain ⟨_,_,_,_,_,_,_,s⟩:=h; exact aF.of (s _ _ eD)) ?_ ?_
 .rintro i x ys σ G hi hx hys ⟨v0,as,rfl,rfl,hl,hat,gl,s2⟩
  obtain ⟨s,es,rfl⟩:=Ih hx
  have e1:=s2 _ _ (s1 _ _ h1)
  have sn:=WW (bk:=bk) es
  have hs:∃ v,dS G bd (.int s) (some (.int v))/\v=bk s:=by
   have m:s∈ks:=po.mem_iff.mp (a7T es)
   have z:=(uV (kvs:=kvs) (Sum.inl s)).mpr (by rw [h5]; exact ali m)
   have v:=h3 s
   have g:=dS.k (k:=Sum.inl s) e1
   cases c:aM kvs (Sum.inl s:Key) with
   | none=>rw [c] at z; cases z
   | some y =>
    rw [c] at v g
    have v:y=V.int (bk s):=v
    rw [v] at g
    exact ⟨_,g,rfl⟩
  obtain ⟨v,gv,rfl⟩:=hs
  refine ⟨_,rfl,_,rfl,bd,_,rfl,gv,rfl,_,rfl,?_⟩
  by_cases c:bk s=0
  .rw [ajr c,arR] at sn
   refine cW (by simp [c]) (vc.of hi hys ⟨_,as,rfl,rfl,by rw [sn]; exact hl,λj a p e1 e2=>hat j a p e1 (by rw [sn] at e2; exact e2),gl,s2⟩)
  .rw [aBJ c] at sn
   refine fT (by simp [c]) ⟨_,rfl,_,rfl,_,rfl,bd,_,rfl,gv,(sl 2),λt ht=>?_⟩
   have s3:=Zg ht (.tup [.int s,.int (bk s)])
   have et:=Za (H:=G) (a:=t) (o:=.tup [.int s,.int (bk s)])
   generalize upd G t (.tup [.int s,.int (bk s)])=G3 at *
   have Mn:=s3 _ _ gl
   have nl:∀ {u:Addr} {zs:List V},G3 u=some (.tup zs)->u≠lz:=λe=>uh e Mn (by intro z; cases z)
   refine kP.of (aV2 (ZG (by rw [afy]; lia))) hi hys Mn ⟨_,as++[t],rfl,by rw [aAZ]; rfl,by rw [sn,ap5,ap5,hl]; rfl,λj a p e1 e2=>?_,Za,λx o e=>by rw [Zc (Ze e oE)]; exact s3 _ _ (s2 _ _ e)⟩
   rw [sn] at e2
   by_cases cj:j<as.length
   .rw [aRC cj] at e1
    rw [aRC (by rw [← hl]; exact cj)] at e2
    have h1:=s3 _ _ (hat j a p e1 e2)
    rw [Zc (nl h1)]
    exact h1
   .rw [aUi (by lia)] at e1
    rw [aUi (by lia),← hl] at e2
    have ej:j - as.length=0:=by
     cases h0:j - as.length with
     | zero=>rfl
     | succ m=>rw [h0] at e1; simp at e1
    rw [ej] at e1 e2
    cases e1
    cases e2
    rw [Zc (nl et)]
    exact et
 .rintro ys σ G _ ⟨v0,as,rfl,rfl,hl,hat,gl,s2⟩
  rw [afy,List.take_length] at hl hat
  have Sz:os.Nodup:=po.nodup_iff.mpr h6
  have lp:(jH bk os).length<=1000:=by
   unfold jH
   rw [afy]
   exact awv (ane ..) (by lia)
  refine q lz (jH bk os) G (s1.trans s2) ⟨as,gl,hl,hat⟩ ⟨?_,λs v=>?_⟩ lp
  .unfold jH
   rw [pairwise_map]
   exact ((pw.and Sz).imp λh=>by obtain ⟨h1,h2⟩:=h; lia:os.Pairwise λa b=>a<b).filter _
  .unfold jH
   rw [mem_map]
   constructor
   .rintro ⟨k,hk,e⟩
    cases e
    have:=(aCE.mp hk).2
    exact ⟨rfl,by simpa using this⟩
   .rintro ⟨e1,e2⟩
    refine ⟨s,aCE.mpr ⟨po.mem_iff.mpr ?_,by simp [e1,e2]⟩,by rw [e1]⟩
    have v3:=h3 s
    have z:=uV (kvs:=kvs) (Sum.inl s)
    cases c:aM kvs (Sum.inl s:Key) with
    | none =>
     rw [c] at v3
     have v3:V.int 0=V.int (bk s):=v3
     injection v3 with v3
     exact absurd (by rw [← e1,← v3]) e2
    | some y =>
     rw [c,h5] at z
     obtain ⟨x,hx,e⟩:=au8.mp (z.mp rfl)
     rw [← aXH e]; exact hx
end
section
def MN (K:W.Frag):Sp:=λvs H Q _=>∃ (A:TA) (g:aK) (st:ao) (os:OS) (lo bd:Addr) (ns:List Int) (bk:Int->Int) (n:Nat),vs=[.ref A.p,.int g.size,.ref lo,.ref bd]/\lV K H A g st os/\aQ g st/\(∀ x,Fx g bk x st)/\H lo=some (.lst (ns.map V.int))/\(∀ x∈ns,x∈g.U)/\gG H bd bk n/\¬ OW A os lo/\¬ OW A os bd/\g.size<=16 /\
 ∀ (H':Hp) (A':TA) (os':OS) (st':ao),A'.p=A.p->lV K H' A' g st' os'->aQ g st'->(∀ x,Fx g bk x st')->bI (OW A os) H H' (OW A' os')->Q (.bl true) H'
theorem Yx (F:aZ K "_law_all_told" "_law_all_told" Jp f fd) (T:Txt K mg) (xD:av P w K mg base (aa K "Stairs") "read" 15 Ef (HG K)) (z4:∀ n,Def P w K mg base "_law_same" (n+1) rG (yl n)):au P w K mg base aW 16 f fd Jo (MN K):=by
 refine F.ok iH (λvs H Q E h=>?_) (λcdv A outer s0 H vs Q E hr h=>?_)
 .obtain ⟨A,g,st,os,lo,bd,ns,bk,n,rfl,_⟩:=h
  rfl
 obtain ⟨A,g,st,os,lo,bd,ns,bk,n,rfl,R,ok,fx,mR,nU,⟨kvs,h1,h2,h3⟩,nlo,o8,z16,q⟩:=h
 have nd:=iH.nd
 have hu:=b9 hr
 have oU:=z4 0
 refine ⟨_,(Zd (om akt rfl (yu (K:=K) rfl (pv 2)) (bQ 4 nd) (Zh (om akt rfl (tF rfl T.mF (pc (pv 1) Zb)) (bQ 5 nd) (Zd (cF 6 nd (ak ZA (ak oj (pv 4) (pv 1)) (pv 5)))
   (Zh (aH (PW.pt (HJ (Zv jg (pv 6) Zj (Zw _)) (Iv (sV (ZS (Zm oU hr.m rfl (pc (az (qM (K:=K) rfl) (Zk xD hr.m T.aN (pv 0) (pc (pv 6) Zb)) Zj (λ_ _=>rfl)) (pc (IU hu (pv 3) (pv 6) Zj ⟨rfl,rfl,rfl,rfl⟩) Zb)))))))) (Zh (Zt eN)) Zu))))))
   (Zh (Zt eN))),?_⟩
 have hs:0<g.size:=by have:=R.at_.wf.z0; lia
 have l1:1<=g.n:=R.at_.wf.l1
 have wf:=R.at_.wf
 refine ⟨_,rfl,lo,rfl,⟨_,aF.of mR⟩,IX (K:=K) (a:=lo) (xs:=ns.map V.int) (λi σ G=>∃ (v4 v5 v6:Option V) (A':TA) (os':OS) (st':ao),σ=[some (.ref A.p),some (.int g.size),some (.ref lo),some (.ref bd),v4,v5,v6]/\A'.p=A.p/\lV K G A' g st' os'/\aQ g st'/\(∀ x,Fx g bk x st')/\bI (OW A os) H G (OW A' os')) ⟨_,_,_,A,os,st,rfl,rfl,R,ok,fx,bI.same (aB.refl _)⟩ (λi σ G _ h=>by obtain ⟨_,_,_,_,_,_,_,_,_,_,_,p⟩:=h; exact aF.of (p.out mR nlo).1) ?_ ?_⟩
 .rintro i x σ G hx ⟨v4,v5,v6,A1,aX,st1,rfl,eA,R1,l7,uB,p1⟩
  obtain ⟨y,ey,rfl⟩:=Ih hx
  have yU:=nU y (a7T ey)
  obtain ⟨y0,y1⟩:=wf.ub y yU
  refine gN ?_
  try dsimp only
  refine ⟨_,rfl,_,rfl,by lia,by lia,yz (lo:=0) (n:=g.size.toNat) (λj σ G=>∃ (v5 v6:Option V) (A':TA) (os':OS) (st':ao),σ=[some (.ref A.p),some (.int g.size),some (.ref lo),some (.ref bd),some (.int y),v5,v6]/\A'.p=A.p/\lV K G A' g st' os'/\aQ g st'/\(∀ x,Fx g bk x st')/\bI (OW A os) H G (OW A' os')) ⟨_,_,A1,aX,st1,rfl,eA,R1,l7,uB,p1⟩ ?_ ?_⟩
  .rintro j σ G2 hj ⟨v5,v6,A2,fV,st2,rfl,xZ,R2,ug,uA,p2⟩
   refine gN ?_
   try dsimp only
   refine hide λu1 e1=>?_
   refine ⟨_,rfl,_,rfl,_,_,rfl,rfl,.inr ⟨by lia,by lia⟩,_,rfl,_,_,rfl,rfl,gN ?_⟩
   subst e1
   try dsimp only
   have Uh:(y * g.size+(0+(j:Int))) / g.size=y:=by
    rw [Int.add_comm,aIf _ _ (by lia),aPs (by lia) (by lia)]
    lia
   generalize y * g.size+(0+(j:Int))=sp at *
   refine ⟨_,rfl,_,_,rfl,rfl,_,rfl,mW (λc=>?_) (λc=>⟨_,_,A2,fV,st2,rfl,xZ,R2,ug,uA,p2⟩)⟩
   obtain ⟨dx,ob⟩:=R2.at_.ob
   rw [xZ] at ob
   refine ⟨_,rfl,A.p,dx,_,rfl,ob,aA ..,_,rfl,A2,g,st2,fV,sp,by rw [xZ]; rfl,R2.at_,R2.dj,by rw [Uh]; exact yU,λG3 e' jK tp vZ r1 r2 r3 r4 r5 r6 r7=>⟨tp,_,_,_,rfl,rfl,bB.of vZ,gF,?_⟩⟩
   obtain ⟨o3,f3⟩:=IK (b:=sp / g.size) hs l1 ug R2.dj uA
   rw [O9 hs l1 r7 f3]
   obtain ⟨o4,f4⟩:=HP o3 f3
   have p3:=p2.trans r5
   have hb:=(p3.out h1 o8).1
   refine ⟨_,rfl,bd,rfl,.inl ⟨_,.inl hb⟩,_,rfl,_,dS.k (k:=Sum.inl sp) hb,?_⟩
   rw [h3]
   refine ⟨_,_,rfl,⟨rfl,trivial⟩,λG4 s4=>⟨_,rfl,cW rfl ?_⟩⟩
   have R3:lV K G3 (A2.re e') g (mT (ZP g (sp / g.size) st2)) jK:=⟨r1,r6⟩
   exact ⟨_,_,A2.re e',jK,_,rfl,xZ,R3.frame λx o e _=>s4 _ _ e,o4,f4,p3.trans (bI.same s4)⟩
  .rintro σ G2 ⟨v5,v6,A2,fV,st2,rfl,xZ,R2,ug,uA,p2⟩
   exact ⟨_,_,_,A2,fV,st2,rfl,xZ,R2,ug,uA,p2⟩
 .rintro σ G ⟨v4,v5,v6,A1,aX,st1,rfl,eA,R1,l7,uB,p1⟩
  exact q G A1 aX st1 eA R1 l7 uB p1
end
theorem uz {t:TS} {D:Ends} {σ:St} {H:Hp} (h:∀ D':Ends,(∀ σ G,D.nx σ G->D'.nx σ G)->t D' σ H):t D σ H:=h D λ_ _ x=>x
theorem Vg {bk:Int->Int} {d:Dd} (s:Int):oH (oH bk d) d s=oH bk d s:=by
 cases d with
 | rd sp=>rfl
 | wt sp v =>
  show oG (oG bk sp v) sp v s=oG bk sp v s
  unfold oG
  split <;> rfl
structure W8 (K:W.Frag) (H G:Hp) (b lo bd lb:Addr) (L:List V) (ns:List Int) (bk:Int->Int) (m:Nat) (g0:aK) (A0:TA) (bW:OS) (bD:ao) (lJ:Int->Int) (g1:aK) (A1:TA) (aX:OS) (st1:ao) (lI:Int->Int):Prop where
 rd:lV K G A0 g0 bD bW
 xu:lV K G A1 g1 st1 aX
 ok:aQ g0 bD
 l7:aQ g1 st1
 fx:∀ x,Fx g0 lJ x bD
 uB:∀ x,Fx g1 lI x st1
 mS:gG G bd bk m
 mR:G lo=some (.lst (ns.map V.int))
 nY:G lb=some (.lst L)
 kp:SB b H G
 nw:∀ x,OW A0 bW x\/OW A1 aX x\/x=lo\/x=bd\/x=lb->H x=none
 of:¬ OW A0 bW b/\¬ OW A0 bW lo/\¬ OW A0 bW bd/\¬ OW A0 bW lb
 rB:¬ OW A1 aX b/\¬ OW A1 aX lo/\¬ OW A1 aX bd/\¬ OW A1 aX lb
 sep:∀ x,OW A0 bW x->¬ OW A1 aX x
 nb:lo≠b/\lb≠b
section
variable {K:W.Frag} {H G G1:Hp} {b lo bd lb:Addr} {L:List V} {ns:List Int} {bk:Int->Int} {m:Nat} {g0:aK} {A0:TA} {bW:OS} {bD:ao} {lJ:Int->Int} {g1:aK} {A1:TA} {aX:OS} {st1:ao} {lI:Int->Int} {a q c:Int}
theorem W8.swap (w:W8 K H G b lo bd lb L ns bk m g0 A0 bW bD lJ g1 A1 aX st1 lI):W8 K H G b lo bd lb L ns bk m g1 A1 aX st1 lI g0 A0 bW bD lJ :=
 ⟨w.xu,w.rd,w.l7,w.ok,w.uB,w.fx,w.mS,w.mR,w.nY,w.kp,λx h=>w.nw x (by rcases h with h | h | h <;> simp [h]),w.rB,w.of,λx h1 h0=>w.sep x h0 h1,w.nb⟩
theorem W8.o8 (w:W8 K H G b lo bd lb L ns bk m g0 A0 bW bD lJ g1 A1 aX st1 lI) (B:aE G b a q c):b≠bd/\lo≠bd/\lb≠bd:=by
 obtain ⟨kvs,h,_⟩:=w.mS
 refine ⟨λz=>?_,λz=>?_,λz=>?_⟩
 .have e:=B.at'; rw [z,h] at e; cases e
 .have e:=w.mR; rw [z,h] at e; cases e
 .have e:=w.nY; rw [z,h] at e; cases e
theorem W8.sb (w:W8 K H G b lo bd lb L ns bk m g0 A0 bW bD lJ g1 A1 aX st1 lI) (B:aE G b a q c) (s:SB b G G1):W8 K H G1 b lo bd lb L ns bk m g0 A0 bW bD lJ g1 A1 aX st1 lI:=by
 have nb:=w.o8 B
 have fr:∀ {A:TA} {os:OS},¬ OW A os b->∀ x o,G x=some o->(OW A os x\/¬ Mt o)->G1 x=some o:=λ{A os} n x o e z=>s x o (λy=>by
  subst y
  rcases z with z | z
  .exact n z
  .rw [B.at'] at e; cases e; exact z trivial) e
 exact ⟨w.rd.frame (fr w.of.1),w.xu.frame (fr w.rB.1),w.ok,w.l7,w.fx,w.uB,w.mS.frame λo e=>s _ _ (aFS nb.1) e,s _ _ w.nb.1 w.mR,s _ _ w.nb.2 w.nY,w.kp.trans s,w.nw,w.of,w.rB,w.sep,w.nb⟩
theorem W8.same (w:W8 K H G b lo bd lb L ns bk m g0 A0 bW bD lJ g1 A1 aX st1 lI) (B:aE G b a q c) (s:aB G G1):W8 K H G1 b lo bd lb L ns bk m g0 A0 bW bD lJ g1 A1 aX st1 lI:=w.sb B (s.sb b)
theorem W8.new (w:W8 K H G b lo bd lb L ns bk m g0 A0 bW bD lJ g1 A1 aX st1 lI) (B:aE G b a q c) {x:Addr} (h:G x=none):H x=none:=by
 cases e:H x with
 | none=>rfl
 | some o =>
  by_cases z:x=b
  .rw [z,B.at'] at h; cases h
  .rw [w.kp x o z e] at h; cases h
theorem W8.mv (w:W8 K H G b lo bd lb L ns bk m g0 A0 bW bD lJ g1 A1 aX st1 lI) (B:aE G b a q c) {A':TA} {os':OS} {st':ao} {rF AH:Int->Int} {m':Nat} (R:lV K G1 A' g0 st' os') (ok:aQ g0 st') (fx:∀ x,Fx g0 AH x st') (h:gG G1 bd rF m') (t:P8 G G1 A0 A' bW os' bd):W8 K H G1 b lo bd lb L ns rF m' g0 A' os' st' AH g1 A1 aX st1 lI/\aE G1 b a q c:=by
 have nb:=w.o8 B
 obtain ⟨kvs,hb,_⟩:=w.mS
 have off:∀ {x o},G x=some o->¬ OW A0 bW x->x≠bd->G1 x=some o/\¬ OW A' os' x:=λ{x o} e n1 n2=>⟨t.kp x o e (λz=>absurd z n1) n2,λz=>(t.fr x z).elim n1 λz=>by rw [e] at z; cases z⟩
 have e1:=off w.mR w.of.2.1 nb.2.1
 have e2:=off w.nY w.of.2.2.2 nb.2.2
 have e3:=off B.at' w.of.1 nb.1
 refine ⟨⟨R,w.xu.frame λx o e z=>?_,ok,w.l7,fx,w.uB,h,e1.1,e2.1,λx o n e=>t.kp x o (w.kp x o n e) (λz=>?_) (λz=>?_),λx z=>?_,⟨e3.2,e1.2,λz=>?_,e2.2⟩,w.rB,λx z=>?_,w.nb⟩,⟨e3.1,B.a0,B.q0,B.q1,B.c0⟩⟩
 .refine t.kp x o e (λz0=>?_) λy=>?_
  .rcases z with z | z
   .exact absurd z (w.sep x z0)
   .exact z
  .subst y
   rcases z with z | z
   .exact w.rB.2.2.1 z
   .rw [hb] at e; cases e; exact z trivial
 .have z:=w.nw x (.inl z)
  rw [z] at e; cases e
 .have z:=w.nw x (.inr (.inr (.inr (.inl z))))
  rw [z] at e; cases e
 .rcases z with z | z
  .exact (t.fr x z).elim (λz=>w.nw x (.inl z)) λz=>w.new B z
  .exact w.nw x (.inr z)
 .exact (t.fr bd z).elim w.of.2.2.1 λz=>by rw [hb] at z; cases z
 .exact (t.fr x z).elim (w.sep x) λz=>w.xu.at_.fresh z
theorem W8.CD (w:W8 K H G b lo bd lb L ns bk m g0 A0 bW bD lJ g1 A1 aX st1 lI) (B:aE G b a q c) {A':TA} {os':OS} {st':ao} (R:lV K G1 A' g0 st' os') (ok:aQ g0 st') (fx:∀ x,Fx g0 lJ x st') (p:bI (OW A0 bW) G G1 (OW A' os')):W8 K H G1 b lo bd lb L ns bk m g0 A' os' st' lJ g1 A1 aX st1 lI/\aE G1 b a q c :=
 w.mv B R ok fx (w.mS.frame λo e=>(p.out e w.of.2.2.1).1) ⟨λx o e n _=>p.kp x o e n,λx z=>p.fr x z⟩
end
section
variable {K:W.Frag} {H G:Hp} {b lo bd lb lz:Addr} {L ys zs:List V} {ns:List Int} {bk:Int->Int} {m:Nat} {g0:aK} {A0:TA} {bW:OS} {bD:ao} {lJ:Int->Int} {g1:aK} {A1:TA} {aX:OS} {st1:ao} {lI:Int->Int} {a q c:Int}
theorem W8.lst (w:W8 K H G b lo bd lb L ns bk m g0 A0 bW bD lJ g1 A1 aX st1 lI) (B:aE G b a q c) (e:G lz=some (.lst ys)) (n0:¬ OW A0 bW lz) (n1:¬ OW A1 aX lz) (hn:H lz=none) (nl:lz≠lo/\lz≠lb/\lz≠b):W8 K H (upd G lz (.lst zs)) b lo bd lb L ns bk m g0 A0 bW bD lJ g1 A1 aX st1 lI/\aE (upd G lz (.lst zs)) b a q c:=by
 have off:∀ {x o},x≠lz->G x=some o->upd G lz (.lst zs) x=some o:=λ{x o} n e=>by rw [Zc n]; exact e
 have fr:∀ {A:TA} {os:OS},¬ OW A os lz->∀ x o,G x=some o->(OW A os x\/¬ Mt o)->upd G lz (.lst zs) x=some o:=λ{A os} n x o e' z=>off (λy=>by
  subst y
  rcases z with z | z
  .exact n z
  .rw [e] at e'; cases e'; exact z trivial) e'
 have o8:bd≠lz:=λz=>by obtain ⟨kvs,h,_⟩:=w.mS; rw [z,e] at h; cases h
 exact ⟨⟨w.rd.frame (fr n0),w.xu.frame (fr n1),w.ok,w.l7,w.fx,w.uB,w.mS.frame λo e=>off o8 e,off (aFS nl.1) w.mR,off (aFS nl.2.1) w.nY,λx o n e'=>off (λz=>by rw [z,hn] at e'; cases e') (w.kp x o n e'),w.nw,w.of,w.rB,w.sep,w.nb⟩,⟨off (aFS nl.2.2) B.at',B.a0,B.q0,B.q1,B.c0⟩⟩
end
def rM (K:W.Frag) (H:Hp) (b lo bd lb p0 p1:Addr) (ns:List Int) (bk:Int->Int) (m:Nat) (g0 g1:aK) (G:Hp):Prop:=∃ A0 bW bD A1 aX st1,A0.p=p0/\A1.p=p1/\W8 K H G b lo bd lb [.ref p0,.ref p1] ns bk m g0 A0 bW bD bk g1 A1 aX st1 bk
theorem rM.pick {K:W.Frag} {H G:Hp} {b lo bd lb p0 p1:Addr} {ns:List Int} {bk:Int->Int} {m:Nat} {g0 g1:aK} (h:rM K H b lo bd lb p0 p1 ns bk m g0 g1 G) {i:Nat} {x:V} (hx:[V.ref p0,V.ref p1][i]?=some x) :
  ∃ g A os st g' A' os' st',x=.ref A.p/\(g=g0\/g=g1)/\W8 K H G b lo bd lb [.ref p0,.ref p1] ns bk m g A os st bk g' A' os' st' bk/\∀ G2 A2 fV st2,A2.p=A.p->W8 K H G2 b lo bd lb [.ref p0,.ref p1] ns bk m g A2 fV st2 bk g' A' os' st' bk->rM K H b lo bd lb p0 p1 ns bk m g0 g1 G2:=by
 obtain ⟨A0,bW,bD,A1,aX,st1,e0,e1,w⟩:=h
 match i,hx with
 | 0,hx =>
  have hx:V.ref p0=x:=by simpa using hx
  exact ⟨g0,A0,bW,bD,g1,A1,aX,st1,by rw [e0,hx],.inl rfl,w,λG2 A2 fV st2 e w2=>⟨A2,fV,st2,A1,aX,st1,e.trans e0,e1,w2⟩⟩
 | 1,hx =>
  have hx:V.ref p1=x:=by simpa using hx
  exact ⟨g1,A1,aX,st1,g0,A0,bW,bD,by rw [e1,hx],.inr rfl,w.swap,λG2 A2 fV st2 e w2=>⟨A0,bW,bD,A2,fV,st2,e0,e.trans e1,w2.swap⟩⟩
 | i+2,hx=>simp at hx
def MK (bk:Int->Int) (d:Dd):Nat->Int->Int
 | 0=>bk
 | _+1=>oH bk d
def Uz (bk:Int->Int) (d:Dd):Nat->Int->Int
 | 0=>bk
 | 1=>bk
 | _+2=>oH bk d
theorem rM.sb {K:W.Frag} {H G G1:Hp} {b lo bd lb p0 p1:Addr} {ns:List Int} {bk:Int->Int} {m:Nat} {g0 g1:aK} {a q c:Int} (h:rM K H b lo bd lb p0 p1 ns bk m g0 g1 G) (B:aE G b a q c) (s:SB b G G1):rM K H b lo bd lb p0 p1 ns bk m g0 g1 G1:=by
 obtain ⟨A0,bW,bD,A1,aX,st1,e0,e1,w⟩:=h
 exact ⟨A0,bW,bD,A1,aX,st1,e0,e1,w.sb B s⟩
theorem UN {n:Nat} (i:Nat):(qP n).at_ i=lT:=by
 unfold qP ao.at_
 rw [aXu,ar8]
 split <;> rfl
theorem Ov {n:Nat}:cG (qP n):=λi j hi hj hij x hx=>by
 rw [UN] at hx
 exact absurd hx (by simp [lT])
section
def Ng (K:W.Frag):Sp:=λvs H Q _=>∃ (b:Addr) (a q:Int),vs=[.ref b]/\aE H b a q 0/\Tb K H/\∀ H',SB b H H'->Q (.bl true) H'
theorem WX (F:aZ K "_law_right" "_law_right" DH f fd) (T:Txt K mg) (CN:Def P w K mg base "_law_plan" 3 HD (NJ K)) (ES:Def P w K mg base "_law_some_boards" 2 JH Oq) (Gg:Def P w K mg base "_law_deed" 3 Hz NH) (Gf:Def P w K mg base "_law_many" 2 Hx MP) (cO:Def P w K mg base "_law_take" 1 sU uQ) (CQ:oQ P w K mg base (aa K "Stairs") "Stairs" 6 JJ (Og K)) (Ge:Def P w K mg base "_law_told" 16 Hv (Nh K)) (BZ:Def P w K mg base "_law_all_told" 16 Jo (MN K)) (CP:Def P w K mg base "_law_pairs" 1 Ik (Ow K)) (BY:av P w K mg base (aa K "Stairs") "emptied" 6 Ky (tW K)) (BW:av P w K mg base (aa K "Stairs") "memory" 2 Kf (Ox K)) (z4:∀ n,Def P w K mg base "_law_same" (n+1) rG (yl n)):au P w K mg base aW 18 f fd Ij (Ng K):=by
 refine F.ok kW (λvs H Q E h=>?_) (λcdv A outer s0 H vs Q E hr h=>?_)
 .obtain ⟨b,a,q,rfl,_⟩:=h
  rfl
 obtain ⟨b,a,q,rfl,B,tb,k⟩:=h
 have nd:=kW.nd
 have hu:=b9 hr
 have oU:=z4 2
 refine ⟨_,(Zd (lR (Zm CN hr.m rfl (pc (pv 0) Zb)) (ZV (K:=K) (n:=3) rfl rfl (Zr (bQ 1 nd) (Zr (bQ 2 nd) (Zr (bQ 3 nd) ZT)))))
   (Zd (cF 4 nd (Zm CN hr.m rfl (pc (pv 0) Zb)))
   (Zd (lR (j4 (pc (Zm ES hr.m rfl (pc (pv 0) (pc (pv 1) Zb))) (pc Be Zb))) (ZV (K:=K) (n:=2) rfl rfl (Zr (bQ 5 nd) (Zr (bQ 6 nd) ZT))))
   (Zd (cF 7 nd (mh (pc (Bb CQ hr.m rfl (pc (j4 (pc (pv 1) (pc (pv 2) (pc (pv 3) Zb)))) Zb)) (pc (Bb CQ hr.m rfl (pc (j4 (pc (pv 1) (pc (az (qM (K:=K) rfl) (pv 4) Zj (λ_ _=>rfl)) (pc (az (qM (K:=K) rfl) (pv 4) Zj (λ_ _=>rfl)) Zb)))) Zb)) Zb))))
   (Zd (om akt rfl (tF rfl T.mF (pc (Zm Gf hr.m rfl (pc (pv 0) (pc Zj (pc Zj Zb)))) Zb)) (bQ 8 nd) (Zd (cF 9 nd (Zm Gg hr.m rfl (pc (pv 0) (pc (pv 1) (pc (pv 5) Zb)))))
   (Zd (aH (sV (ZS (Zs (Jc rfl) rfl T.zZ IV (pc (wN (tE (jJ:=(Zi DH)) (oN:=kJ) (N:=["_law_stairs", "_law_deed_here", "_law_book"]) (own:=1) (js:=[9,6]) (by decide +kernel) rfl rfl) rfl (yu (K:=K) rfl (pv 7)) (λ_ _ _ _ _ _=>(bQ 0 (show List.Nodup (["_law_stairs", "_law_deed_here", "_law_book"]:List Str) by decide +kernel))) (λ_ _ _ _ _ _=>(az (qM (K:=K) rfl) (Zm Ge hr.m rfl (pc (pv 0) (pc (pv 1) (pc (pv 2) Zb)))) Zj (λ_ _=>rfl)))) Zb)))) (Zh (Zt eN)) Zu)
   (Zh (aH (Zv aY (Zm cO hr.m rfl (pc (pv 0) (pc Zj Zb))) Zj (Zw _)) (Zd (cF 10 nd (az (Zq (K:=K) rfl) (pv 7) (Zm cO hr.m rfl (pc (pv 0) (pc Zj Zb))) (λ_ _=>rfl)))
   (Zd (Zo (tu BY hr.m T.aN (pv 10)))
   (Zh (aH (sV (ZS (Zm oU hr.m rfl (pc (tu BW hr.m T.aN (pv 10)) (pc (Zm CP hr.m rfl (pc (pv 6) Zb)) Zb))))) (Zh (Zt eN)) Zu)))) Zu)))))
   (Zd (om akt rfl (yu (K:=K) rfl (pv 7)) (bQ 10 nd) (Zd (aH (sV (ZS (Zm BZ hr.m rfl (pc (pv 10) (pc (pv 1) (pc (pv 5) (pc (pv 6) Zb))))))) (Zh (Zt eN)) Zu)
   (Zd (Zo (tu BY hr.m T.aN (pv 10)))
   (Zh (aH (PW.pt (pw_or (sV (ZS (Zm oU hr.m rfl (pc (tu BW hr.m T.aN (pv 10)) (pc (Zm CP hr.m rfl (pc (pv 6) Zb)) Zb))))) (Dt (sV (ZS (Zm BZ hr.m rfl (pc (pv 10) (pc (pv 1) (pc (pv 5) (pc (pv 6) Zb)))))))))) (Zh (Zt eN)) Zu)))))
   (Zh (Zt eN)))))))),?_⟩
 refine hide λu1 e1=>?_
 refine ⟨_,rfl,b,a,q,0,rfl,B,by decide,λpp tp Rx size kind aT a1 c1 H1 hpp pa LR z0 z1 l1 l4 B1 hc1 s1=>⟨pp,_,rfl,bB.of hpp,rfl,_,_,rfl,gN ⟨_,_,rfl,gN ⟨_,_,rfl,gN ⟨rfl,?_⟩⟩⟩⟩⟩
 subst e1
 try dsimp only
 refine hide λu1 e1=>?_
 refine ⟨_,rfl,b,a1,q,c1,rfl,B1,by lia,λpo Cg EV Lj jV AA a2 c2 H2 Gu Ln Th zo0 zo1 lo1 LH B2 hc2 s2=>gN ?_⟩
 subst e1
 try dsimp only
 have zH:∀ {x ys},H1 x=some (.tup ys)->x≠b:=λ{x ys} e z=>by rw [z,B1.at'] at e; cases e
 have sC:∀ {x ys},H2 x=some (.tup ys)->x≠b:=λ{x ys} e z=>by rw [z,B2.at'] at e; cases e
 have u2:SB b H H2:=s1.trans s2
 have Lp:=pa.frame (H':=H2) λx ys e=>s2 _ _ (zH e) e
 refine hide λu1 e1=>?_
 refine ⟨_,rfl,_,rfl,b,a2,q,c2,size,rfl,B2,by lia,z0,z1,λlo ns a3 c3 H3 hlo mR n3 SI Uy _ B3 hc3 t3 bd hbd=>⟨(sl 2),λtt LV=>⟨tt,_,rfl,bB.of Za,rfl,_,_,rfl,gN ⟨_,_,rfl,gN ⟨rfl,?_⟩⟩⟩⟩⟩
 have Ak:=t3 _ _ (sC Gu) Gu
 have Cp:=Lp.frame (H':=H3) λx ys e=>t3 _ _ (sC e) e
 have sy:=Ln.frame (H':=H3) λx ys e=>t3 _ _ (sC e) e
 have u3:SB b H H3:=u2.trans t3
 have k7:lo≠b:=λz=>by rw [z,B2.at'] at hlo; cases hlo
 have Gz:H lo=none:=yt u2 B2.at' hlo
 have GI:H bd=none:=yt u3 B3.at' hbd
 have Le:Tb K H3:=u3 _ _ (λz=>by have t:=tb; unfold Tb at t; rw [z,B.at'] at t; cases t) tb
 have Cv:∀ x∈ns,0<=x/\x<=100000:=λx hx=>by
  have:=Uy x hx
  have s9:9999 / size<=9999:=Int.ediv_le_self _ (by decide)
  lia
 have sd:=(Zg hbd (.dK [])).trans (Zg LV (.tup [.ref lo,.ref bd]))
 have C9:=Zg LV (.tup [.ref lo,.ref bd]) _ _ (Za (H:=H3) (a:=bd) (o:=.dK []))
 subst e1
 try dsimp only
 generalize upd (upd H3 bd (.dK [])) tt (.tup [.ref lo,.ref bd])=H4 at *
 have Ew:∀ {kd:Str} {cs:List Cf},(∀ c∈cs,1<=c.pl/\c.pl<=16)->cs.length<=4->1<=cs.length->WF ⟨size,kd,cs,(9999 / size) :: ns⟩:=λ{kd cs} hc h4 h1=>by
  refine ⟨hc,z0,by show size<=1000; lia,by show _+1<=800; lia,λb hb=>?_,h4,h1⟩
  have s9:9999 / size<=9999:=Int.ediv_le_self _ (by decide)
  have s0:0<=9999 / size:=Int.ediv_nonneg (by decide) (by lia)
  rcases aM6.mp hb with rfl | hb
  .lia
  .have:=Cv b hb; lia
 have Rv:=Ew (kd:=kind) (λc hc=>⟨(Cp.cf c hc).2.2.1,(Cp.cf c hc).2.2.2.1⟩) l4 l1
 have Ru:=Ew (kd:=jV) (λc hc=>⟨(sy.cf c hc).2.2.1,(sy.cf c hc).2.2.2.1⟩) LH lo1
 have Lo:=Cp.same sd
 have zw:=sy.same sd
 have Aj:=sd _ _ Ak
 have EX:=Le.same sd
 have sR:=sd _ _ mR
 have B4:=B3.same sd
 have u4:SB b H H4:=u3.trans (sd.sb b)
 clear sd mR Ak Cp sy Le u3 Lp Ln Gu pa hpp t3 s1 s2 u2 zH sC
 refine hide λu1 e1=>?_
 refine ⟨_,rfl,_,rfl,_,rfl,(sl 3),λt0 ht0 p0 sS hp0 GG np0=>?_⟩
 have v1:=Zg ht0 (.tup [.int size,.str kind,.ref tp])
 have ME:=Za (H:=H4) (a:=t0) (o:=.tup [.int size,.str kind,.ref tp])
 generalize upd H4 t0 (.tup [.int size,.str kind,.ref tp])=H5 at *
 have m1:aB H5 (upd (upd H5 sS (.own p0)) p0 (.ins (aa K "Stairs") sS [])):=λx o e=>by rw [Zc (Ze e hp0),Zc (Ze e GG)]; exact e
 have hp1:=Za (H:=upd H5 sS (.own p0)) (a:=p0) (o:=.ins (aa K "Stairs") sS [])
 have C5:∀ x,upd (upd H5 sS (.own p0)) p0 (.ins (aa K "Stairs") sS []) x=none->H5 x=none:=λx e=>m1.free e
 generalize upd (upd H5 sS (.own p0)) p0 (.ins (aa K "Stairs") sS [])=H6 at *
 refine ⟨p0,sS,t0,tp,size,kind,Rx,aT,rfl,hp1,m1 _ _ ME,(Lo.same v1).same m1,l4,(EX.same v1).same m1,λA0 bW H7 Uj Qc zy k0=>⟨rfl,?_⟩⟩
 have m2:aB H5 H7:=λx o e=>k0 x o (m1 _ _ e) (Ze e hp0)
 have GK:∀ x,OW A0 bW x->H5 x=none:=λx h=>by
  by_cases z:x=p0
  .rw [z]; exact hp0
  .exact C5 x (zy x h z)
 have R0:=Qc ((9999 / size) :: ns) Rv
 have v2:=v1.trans m2
 clear Qc zy k0 C5 hp1 m1
 have vN:=v2 _ _ Aj
 refine ⟨_,rfl,_,rfl,po,_,_,_,rfl,rfl,bB.of vN,iz,_,rfl,po,_,_,_,rfl,rfl,bB.of vN,ju,(sl 3),λt1 ht1 p1 dU hp1 GF np1=>?_⟩
 have v3:=Zg ht1 (.tup [.int size,.str jV,.ref Cg])
 have uG:=Za (H:=H7) (a:=t1) (o:=.tup [.int size,.str jV,.ref Cg])
 generalize upd H7 t1 (.tup [.int size,.str jV,.ref Cg])=H8 at *
 have m3:aB H8 (upd (upd H8 dU (.own p1)) p1 (.ins (aa K "Stairs") dU [])):=λx o e=>by rw [Zc (Ze e hp1),Zc (Ze e GF)]; exact e
 have hp2:=Za (H:=upd H8 dU (.own p1)) (a:=p1) (o:=.ins (aa K "Stairs") dU [])
 have uC:∀ x,upd (upd H8 dU (.own p1)) p1 (.ins (aa K "Stairs") dU []) x=none->H8 x=none:=λx e=>m3.free e
 generalize upd (upd H8 dU (.own p1)) p1 (.ins (aa K "Stairs") dU [])=H9 at *
 have B0:=v2.trans v3
 refine ⟨p1,dU,t1,Cg,size,jV,EV,AA,rfl,hp2,m3 _ _ uG,(zw.same B0).same m3,LH,(EX.same B0).same m3,λA1 aX pF Ui Qa zx k1=>⟨rfl,(sl 2),λlb hlb=>gN ?_⟩⟩
 have m4:aB H8 pF:=λx o e=>k1 x o (m3 _ _ e) (Ze e hp1)
 have CZ:∀ x,OW A1 aX x->H8 x=none:=λx h=>by
  by_cases z:x=p1
  .rw [z]; exact hp1
  .exact uC x (zx x h z)
 have R1:=Qa ((9999 / size) :: ns) Ru
 have m5:=Zg hlb (.lst [.ref p0,.ref p1])
 have nY:=Za (H:=pF) (a:=lb) (o:=.lst [.ref p0,.ref p1])
 have v4:aB H7 pF:=v3.trans m4
 clear Qa zx k1 uC hp2 m3
 subst e1
 try dsimp only
 obtain ⟨g0,C8⟩:∃ g:aK,g=⟨size,kind,aT,(9999 / size) :: ns⟩:=⟨_,rfl⟩
 obtain ⟨g1,C7⟩:∃ g:aK,g=⟨size,jV,AA,(9999 / size) :: ns⟩:=⟨_,rfl⟩
 have w0:W8 K H (upd pF lb (.lst [.ref p0,.ref p1])) b lo bd lb [.ref p0,.ref p1] ns (λ_=>0) 0 g0 A0 bW (qP g0.n) (λ_=>0) g1 A1 aX (qP g1.n) (λ_=>0):=by
  have yI:aB H4 pF:=v2.trans v4
  have SJ:∀ {x},pF x=none->H x=none:=λ{x} e=>yt u4 B4.at' (yI.free e)
  have n0:∀ {x},OW A0 bW x->H x=none:=λ{x} z=>yt u4 B4.at' (v1.free (GK x z))
  have n1:∀ {x},OW A1 aX x->H x=none:=λ{x} z=>yt u4 B4.at' (B0.free (CZ x z))
  have of0:∀ {x o},H4 x=some o->¬ OW A0 bW x:=λ{x o} e z=>by
   have z:=v1.free (GK x z)
   rw [e] at z; cases z
  have rB:∀ {x o},H7 x=some o->¬ OW A1 aX x:=λ{x o} e z=>by
   have z:=v3.free (CZ x z)
   rw [e] at z; cases z
  rw [C8,C7]
  refine ⟨⟨(R0.same v4).same m5,λ_=>Ov⟩,⟨R1.same m5,λ_=>Ov⟩,kH.1,kH.1,kH.2,kH.2,⟨[],m5 _ _ (yI _ _ C9),⟨a17 _,KI.nil⟩,λs=>rfl⟩,m5 _ _ (yI _ _ sR),nY,u4.trans ((yI.trans m5).sb b),λx z=>?_,⟨of0 B4.at',of0 sR,of0 C9,(R0.same v4).fresh hlb⟩,⟨rB (v2 _ _ B4.at'),rB (v2 _ _ sR),rB (v2 _ _ C9),R1.fresh hlb⟩,λx z0 z1=>?_,k7,?_⟩
  .rcases z with z | z | z | z | z
   .exact n0 z
   .exact n1 z
   .rw [z]; exact Gz
   .rw [z]; exact GI
   .rw [z]; exact SJ hlb
  .exact R0.ex x z0 (v3.free (CZ x z1))
  .exact aFS (Ze (yI _ _ B4.at') hlb)
 have Qo:aE (upd pF lb (.lst [.ref p0,.ref p1])) b a3 q c3:=((B4.same v2).same v4).same m5
 have BU:g0.size=size/\g1.size=size:=by rw [C8,C7]; exact ⟨rfl,rfl⟩
 have gU:g0.U=(9999 / size) :: ns/\g1.U=(9999 / size) :: ns:=by rw [C8,C7]; exact ⟨rfl,rfl⟩
 have Tg:rM K H b lo bd lb p0 p1 ns (λ_=>0) 0 g0 g1 (upd pF lb (.lst [.ref p0,.ref p1])):=⟨A0,bW,_,A1,aX,_,Uj,Ui,w0⟩
 generalize upd pF lb (.lst [.ref p0,.ref p1])=H11 at *
 have KU:∀ {g:aK},g=g0\/g=g1->g.U.length<64/\g.size=size/\∀ x∈ns,x∈g.U:=λ{g} h=>by
  rcases h with rfl | rfl
  .rw [gU.1]; exact ⟨by show ns.length+1<64; lia,BU.1,λx hx=>aZE _ hx⟩
  .rw [gU.2]; exact ⟨by show ns.length+1<64; lia,BU.2,λx hx=>aZE _ hx⟩
 clear w0 C8 C7 R0 R1 m5 v4 m4 B0 v2 v3 v1 m2 GK CZ nY C9 Lo zw Aj EX sR B4 u4 vN ME uG Ew
 refine hide λu1 e1=>?_
 refine ⟨_,rfl,b,a3,q,c3,60,300,rfl,Qo,by lia,by decide,by decide,by decide,λmn a4 c4 H12 m0 m1' B12 hc4 t4=>⟨_,rfl,by lia,by lia,yz (lo:=0) (n:=mn.toNat) (λi σ G=>∃ (v8 v9 v10:Option V) (bk:Int->Int) (a' c':Int),σ=[some (.ref b),some (.int size),some (.str kind),some (.ref tp),some (.ref po),some (.ref lo),some (.ref bd),some (.ref lb),v8,v9,v10]/\rM K H b lo bd lb p0 p1 ns bk (2 * i) g0 g1 G/\aE G b a' q c'/\c'<=c4+14 * (i:Int))
  ⟨_,_,_,_,a4,c4,rfl,(by obtain ⟨A0,bW,bD,A1,aX,st1,e0,e1,w⟩:=Tg; exact ⟨A0,bW,bD,A1,aX,st1,e0,e1,w.sb Qo t4⟩),B12,by lia⟩ ?_ ?_⟩⟩
 .rintro i σ G hi ⟨v8,v9,v10,bk,a',c',rfl,in1,B',hc'⟩
  refine gN ?_
  refine uz λD' C0=>?_
  try dsimp only
  obtain ⟨A2,fV,st2,A3,jK,st3,e2,e3,w⟩:=in1
  refine hide λu1 e1=>?_
  refine ⟨_,rfl,_,rfl,_,rfl,b,lo,a',q,c',size,ns,rfl,B',k7,by lia,z0,z1,w.mR,by lia,SI,Cv,λt d a5 c5 G1 et ok5 iU B5 hc5 s5=>gN ?_⟩
  subst e1
  try dsimp only
  have w:=w.sb B' s5
  refine hide λu1 e1=>?_
  refine uJ (λc G=>c=false/\rM K H b lo bd lb p0 p1 ns (oH bk d) (2 * (i+1)) g0 g1 G/\aE G b a5 q c5) (λQ' k'=>?_) ?_
  .refine ⟨_,rfl,lb,rfl,⟨_,aF.of w.nY⟩,λlz oE=>?_⟩
   have Am:H lz=none:=w.new B5 oE
   have nl:lz≠lo/\lz≠lb/\lz≠b:=⟨aFS (Ze w.mR oE),aFS (Ze w.nY oE),aFS (Ze B5.at' oE)⟩
   have Ld:t≠lz:=Ze et oE
   have xN:t≠bd:=λz=>by obtain ⟨kvs,h,_⟩:=w.mS; rw [z,h] at et; cases et
   have Ls:lz≠bd:=λz=>by obtain ⟨kvs,h,_⟩:=w.mS; rw [z,h] at oE; cases oE
   have sz:=Zg oE (.lst [])
   have bU:d.sp / g0.size∈g0.U/\d.sp / g1.size∈g1.U:=by rw [BU.1,BU.2,gU.1,gU.2]; exact ⟨iU,iU⟩
   refine Jb (K:=K) (a:=lb) (xs:=[V.ref p0,V.ref p1]) (l:=lz) (λj ys σ G=>∃ (v0:Option V) (A0:TA) (bW:OS) (bD:ao) (A1:TA) (aX:OS) (st1:ao),σ=[v0,some (.ref t),some (.ref bd)]/\ys=(List.replicate j true).map V.bl/\G lz=some (.lst ys)/\G t=some (.tup d.vs)/\A0.p=p0/\A1.p=p1/\¬ OW A0 bW lz/\¬ OW A1 aX lz/\W8 K H G b lo bd lb [.ref p0,.ref p1] ns (MK bk d j) (2 * i+j) g0 A0 bW bD (MK bk d j) g1 A1 aX st1 (Uz bk d j)/\aE G b a5 q c5)
    ⟨none,A2,fV,st2,A3,jK,st3,rfl,rfl,Za,sz _ _ et,e2,e3,w.rd.at_.fresh oE,w.xu.at_.fresh oE,w.same B5 sz,B5.same sz⟩ (λj ys σ G _ h=>by obtain ⟨_,_,_,_,_,_,_,_,_,_,_,_,_,_,_,w,_⟩:=h; exact aF.of w.nY) ?_ ?_
   .rintro j x ys σ G hj ur hys ⟨v0,A0,bW,bD,A1,aX,st1,rfl,rfl,gl,uG,f0,f1,y0,y1,wj,Bj⟩
    have hj2:j<2:=hj
    have sm:([V.ref p0,V.ref p1]:List V).length<=sizeLine:=by show 2<=sizeLine; decide
    rcases (show j=0\/j=1 by lia) with rfl | rfl
    .have hx:V.ref p0=x:=by simpa using ur
     subst hx
     refine ⟨_,rfl,_,rfl,_,rfl,A0,g0,bD,bW,t,bd,d,bk,bk,2 * i+0,by rw [f0]; rfl,wj.rd,uG,bU.1,wj.ok,wj.fx,wj.mS,λs=>rfl,by lia,wj.of.2.2.1,λG2 e' p8 tp' vZ R2 ev FT Cz Hl ug uA rR vE=>⟨tp',_,_,_,rfl,rfl,bB.of vZ,gF,?_⟩⟩
     obtain ⟨w2,K6⟩:=wj.mv Bj R2 ug uA Hl rR
     have gz:=rR.kp lz _ gl (λz=>absurd z y0) Ls
     have nz:¬ OW (A0.re e') p8 lz:=λz=>(rR.fr lz z).elim y0 λz=>by rw [gl] at z; cases z
     obtain ⟨w3,K5⟩:=w2.lst (zs:=(List.replicate 0 true).map V.bl++[V.bl true]) K6 gz nz y1 Am nl
     exact kP.of sm hj hys gz ⟨_,A0.re e',p8,_,A1,aX,st1,rfl,rfl,Za,by rw [Zc Ld]; exact rR.kp t _ uG (λ_=>id) xN,f0,f1,nz,y1,w3,K5⟩
    .have hx:V.ref p1=x:=by simpa using ur
     subst hx
     have ws:=wj.swap
     refine ⟨_,rfl,_,rfl,_,rfl,A1,g1,st1,aX,t,bd,d,bk,oH bk d,2 * i+1,by rw [f1]; rfl,ws.rd,uG,bU.2,ws.ok,ws.fx,ws.mS,λs=>Vg s,by lia,ws.of.2.2.1,λG2 e' p8 tp' vZ R2 ev FT Cz Hl ug uA rR vE=>⟨tp',_,_,_,rfl,rfl,bB.of vZ,gF,?_⟩⟩
     obtain ⟨w2,K6⟩:=ws.mv Bj R2 ug uA Hl rR
     have gz:=rR.kp lz _ gl (λz=>absurd z y1) Ls
     have nz:¬ OW (A1.re e') p8 lz:=λz=>(rR.fr lz z).elim y1 λz=>by rw [gl] at z; cases z
     obtain ⟨w3,K5⟩:=w2.swap.lst (zs:=(List.replicate 1 true).map V.bl++[V.bl true]) K6 gz y0 nz Am nl
     exact kP.of sm hj hys gz ⟨_,A0,bW,bD,A1.re e',p8,_,rfl,rfl,Za,by rw [Zc Ld]; exact rR.kp t _ uG (λ_=>id) xN,f0,f1,y0,nz,w3,K5⟩
   rintro ys σ G2 _ ⟨v0,A0,bW,bD,A1,aX,st1,rfl,rfl,gl,uG,f0,f1,y0,y1,wj,Bj⟩
   exact ⟨lz,_,rfl,aF.of gl,_,rfl,k' _ _ ⟨rfl,⟨A0,bW,bD,A1,aX,st1,f0,f1,wj⟩,Bj⟩⟩
  rintro c G2 ⟨rfl,CS,B6⟩
  refine cW rfl ?_
  subst e1
  try dsimp only
  dsimp only [fY]
  refine ⟨_,rfl,b,a5,q,c5,16,rfl,B6,by lia,by decide,by decide,λr1 a6 c6 G3 ua xw B7 hc6 s6=>⟨rfl,_,rfl,mW (λz=>?_) (λz=>?_)⟩⟩
  .have Tf:=CS.sb B6 s6
   refine hide λu1 e1=>?_
   refine ⟨_,rfl,_,rfl,b,a6,q,c6,2,rfl,B7,by lia,by decide,by decide,λr2 a7 c7 G4 pT oV B8 L8 s7=>?_⟩
   obtain ⟨j,ej,j2⟩:∃ j:Nat,r2=(j:Int)/\j<2:=⟨r2.toNat,by lia,by lia⟩
   obtain ⟨x,hx⟩:∃ x,[V.ref p0,V.ref p1][j]?=some x:=⟨_,adk (by show j<2; exact j2)⟩
   obtain ⟨g,A,os,st,g',A',os',st',rfl,hg,w4,back⟩:=(Tf.sb B7 s7).pick hx
   refine ⟨lb,_,_,_,rfl,rfl,aF.of w4.nY,by rw [ej]; exact qN hx,gN ?_⟩
   subst e1
   try dsimp only
   have hs:0<g.size:=by rw [(KU hg).2.1]; lia
   obtain ⟨dx,ob⟩:=w4.rd.at_.ob
   refine hide λu1 e1=>?_
   refine ⟨_,rfl,A.p,dx,_,rfl,ob,aA ..,A,g,st,os,rfl,w4.rd.at_,(KU hg).1,λG5 e' rA R5 Uc l5 ne5 p5=>?_⟩
   subst e1
   try dsimp only
   obtain ⟨o5,f5⟩:=DZ hs w4.ok w4.fx (a17 _)
   obtain ⟨o6,f6⟩:=HP o5 f5
   obtain ⟨w5,B9⟩:=w4.CD B8 (A':=A.re e') (os':=rA) ⟨R5,λ_=>OA w4.ok.len⟩ o6 f6 p5
   obtain ⟨GY,Cs⟩:=w5.rd.at_.ob
   refine ⟨_,rfl,A.p,GY,_,rfl,Cs,aA ..,A.re e',g,_,rA,0,rfl,w5.rd.at_,λD ps G6 hD s8 pD pL=>?_⟩
   have w6:=w5.same B9 s8
   refine ⟨_,rfl,bd,oH bk d,_,rfl,w6.mS,by lia,λD2 ps2 G7 s9 Fz Fy lp=>?_⟩
   have ep:ps=ps2:=(pL.congr λs=>Nj hs w4.ok w4.fx s).uniq Fy
   subst ep
   refine ⟨_,_,rfl,(pD.same s9).eqv Fz lp,λG8 vf=>⟨_,rfl,cW rfl ?_⟩⟩
   dsimp only [fY]
   have BO:=(B9.same s8).same s9
   exact C0 _ _ ⟨_,_,_,_,a7,c7,rfl,back _ (A.re e') _ _ rfl ((w6.same (B9.same s8) s9).same BO vf),BO.same vf,by lia⟩
  .dsimp only [fY]
   exact C0 _ _ ⟨_,_,_,_,a6,c6,rfl,CS.sb B6 s6,B7,by lia⟩
 .rintro σ G ⟨v8,v9,v10,bk,a',c',rfl,in1,B',hc'⟩
  subst e1
  try dsimp only
  have GW:G lb=some (.lst [V.ref p0,V.ref p1]):=by obtain ⟨_,_,_,_,_,_,_,_,w⟩:=in1; exact w.nY
  have FO:2 * mn.toNat<=900:=by lia
  generalize 2 * mn.toNat=m at *
  refine hide λu1 e1=>?_
  refine ⟨_,rfl,lb,rfl,⟨_,aF.of GW⟩,IX (K:=K) (a:=lb) (xs:=[V.ref p0,V.ref p1]) (λi σ G=>∃ v10:Option V,σ=[some (.ref b),some (.int size),some (.str kind),some (.ref tp),some (.ref po),some (.ref lo),some (.ref bd),some (.ref lb),v8,v9,v10]/\rM K H b lo bd lb p0 p1 ns bk m g0 g1 G/\aE G b a' q c') ⟨_,rfl,in1,B'⟩ (λi σ G _ h=>by obtain ⟨_,_,⟨_,_,_,_,_,_,_,_,w⟩,_⟩:=h; exact aF.of w.nY) ?_ ?_⟩
  .rintro i x σ G2 hx ⟨v10,rfl,CS,B2⟩
   obtain ⟨g,A,os,st,g',A',os',st',rfl,hg,w4,back⟩:=CS.pick hx
   refine gN ?_
   refine uz λD' C0=>?_
   try dsimp only
   obtain ⟨h64,hsz,L3⟩:=KU hg
   have hs:0<g.size:=by rw [hsz]; lia
   refine hide λu1 e1=>?_
   refine ⟨_,rfl,_,rfl,_,rfl,_,rfl,A,g,st,os,lo,bd,ns,bk,m,by rw [hsz]; rfl,w4.rd,w4.ok,w4.fx,w4.mR,L3,w4.mS,w4.of.2.1,w4.of.2.2.1,by lia,λG3 A3 jK st3 e3 R3 o3 f3 p3=>⟨_,rfl,cW rfl ?_⟩⟩
   subst e1
   try dsimp only
   dsimp only [fY]
   obtain ⟨w5,B3⟩:=w4.CD B2 R3 o3 f3 p3
   obtain ⟨dx,ob⟩:=w5.rd.at_.ob
   rw [e3] at ob
   refine hide λu1 e1=>?_
   refine ⟨_,rfl,A.p,dx,_,rfl,ob,aA ..,A3,g,st3,jK,by rw [e3]; rfl,w5.rd.at_,h64,λG5 e' rA R5 Uc l5 ne5 p5=>?_⟩
   subst e1
   try dsimp only
   obtain ⟨o5,f5⟩:=DZ hs w5.ok w5.fx (a17 _)
   obtain ⟨o6,f6⟩:=HP o5 f5
   obtain ⟨w6,B9⟩:=w5.CD B3 (A':=A3.re e') (os':=rA) ⟨R5,λ_=>OA w5.ok.len⟩ o6 f6 p5
   obtain ⟨GY,Cs⟩:=w6.rd.at_.ob
   have e5:(A3.re e').p=A.p:=e3
   rw [e5] at Cs
   refine ⟨_,rfl,A.p,GY,_,rfl,Cs,aA ..,A3.re e',g,_,rA,0,by rw [e5]; rfl,w6.rd.at_,λD ps G6 hD s8 pD pL=>?_⟩
   have w7:=w6.same B9 s8
   refine ⟨_,rfl,bd,bk,_,rfl,w7.mS,FO,λD2 ps2 G7 s9 Fz Fy lp=>?_⟩
   have ep:ps=ps2:=(pL.congr λs=>Nj hs w5.ok w5.fx s).uniq Fy
   subst ep
   refine ⟨_,_,rfl,(pD.same s9).eqv Fz lp,λG8 vf=>⟨_,rfl,cW rfl ?_⟩⟩
   have BO:=(B9.same s8).same s9
   have w8:=(w7.same (B9.same s8) s9).same BO vf
   refine ⟨_,rfl,_,rfl,_,rfl,_,rfl,A3.re e',g,_,rA,lo,bd,ns,bk,m,by rw [hsz,e5]; rfl,w8.rd,w8.ok,w8.fx,w8.mR,L3,w8.mS,w8.of.2.1,w8.of.2.2.1,by lia,λG9 A9 os9 st9 e9 R9 o9 f9 p9=>⟨_,rfl,cW rfl ?_⟩⟩
   dsimp only [fY]
   obtain ⟨w9,K7⟩:=w8.CD (BO.same vf) R9 o9 f9 p9
   exact C0 _ _ ⟨_,rfl,back _ _ _ _ (e9.trans e5) w9,K7⟩
  .rintro σ G2 ⟨v10,rfl,⟨_,_,_,_,_,_,_,_,w⟩,_⟩
   subst e1
   exact k G2 w.kp
end
section
def nA (K:W.Frag):Sp:=λvs H Q _=>∃ (a:Addr) (ns:List Int),vs=[.ref a]/\aF K H a (ns.map V.int)/\ns.length<=63/\Tb K H/\∀ H',Q (.bl true) H'
theorem UM (F:aZ K "law" "law" gj f fd) (T:Txt K mg) (Gb:Def P w K mg base "_law_box" 1 qQ (tX K)) (F1:Def P w K mg base "_law_folded" 1 IL (Ot K)) (FZ:Def P w K mg base "_law_right" 18 Ij (Ng K)):au P w K mg base aW 19 f fd lW (nA K):=by
 refine F.ok pM (λvs H Q E h=>?_) (λcdv A outer st H vs Q E hr h=>?_)
 .obtain ⟨a,ns,rfl,_⟩:=h
  rfl
 obtain ⟨a,ns,rfl,hS,h63,tb,k⟩:=h
 have nd:=pM.nd
 have hu:=b9 hr
 refine ⟨_,(Zd (cF 1 nd (Zm F1 hr.m rfl (pc (pv 0) (pc Zj Zb))))
   (Zh (Zt (Zs (Jc rfl) rfl T.zZ IV (pc (wN (tE (jJ:=(Zi gj)) (oN:=qV) (N:=["_law_k", "_law_cells"]) (own:=1) (js:=[1]) (by decide +kernel) rfl rfl) rfl (tF rfl T.mF (pc (Zs (Pn rfl) rfl T.CL O3 (pc Zj (pc (Zs (ZH (K:=K) rfl) rfl T.rO aYI (pc (pv 1) Zb)) Zb))) Zb)) (λ_ _ _ _ _ _=>(bQ 0 (show List.Nodup (["_law_k", "_law_cells"]:List Str) by decide +kernel))) (λ_ _ _ _ _ _=>(Zm FZ hr.m rfl (pc (Zm Gb hr.m rfl (pc (pv 1) (pc (pv 0) Zb))) Zb)))) Zb))))),?_⟩
 refine ⟨_,rfl,a,ns,2,rfl,hS,h63,by decide,by decide,λr ms H1 hr' s1 e1 lm=>?_⟩
 have lc:(if ((ms.map V.int).length:Int) > 1 then ((ms.map V.int).length:Int) else 1)<=63:=by rw [afy]; split <;> lia
 refine ⟨_,rfl,r,_,rfl,.inl (aF.of e1),_,_,rfl,_,rfl,?_,?_,λl hl'=>?_⟩
 .split <;> lia
 .lia
 generalize (if ((ms.map V.int).length:Int) > 1 then ((ms.map V.int).length:Int) else 1)=n at *
 have SH:n.toNat<=63:=by lia
 have Lv:r≠l:=Ze e1 hl'
 have Lf:=tb.same s1
 have xM:tabOf K "Room" "going" ≠ l:=Ze Lf hl'
 refine Eb (lo:=0) (n:=n.toNat) (l:=l) (λj ys σ G=>∃ v0:Option V,σ=[v0,some (.ref r)]/\ys=(List.replicate j true).map V.bl/\G l=some (.lst ys)/\G r=some (.lst (ms.map V.int))/\Tb K G)
  ⟨none,rfl,rfl,Za,by rw [Zc Lv]; exact e1,by unfold Tb; rw [Zc xM]; exact Lf⟩ ?_ ?_
 .rintro j ys σ G hj hy ⟨v0,rfl,rfl,g1,g2,g3⟩
  refine ⟨_,rfl,_,rfl,r,ms,_,rfl,aF.of g2,by lia,by lia,λb ba bq G1 hb t1 B1=>?_⟩
  refine ⟨b,ba,bq,rfl,B1,g3.same t1,λG2 t2=>?_⟩
  have k7:l≠b:=Ze g1 hb
  have So:r≠b:=Ze g2 hb
  have xN:tabOf K "Room" "going" ≠ b:=Ze g3 hb
  refine kP.of (awv SH (by decide)) hj hy (t2 _ _ k7 (t1 _ _ g1)) ⟨_,rfl,by rw [akN,aAZ]; rfl,Za,?_,?_⟩
  .rw [Zc Lv]
   exact t2 _ _ So (t1 _ _ g2)
  .unfold Tb
   rw [Zc xM]
   exact t2 _ _ xN (t1 _ _ g3)
 .rintro ys σ G hy ⟨v0,rfl,rfl,g1,g2,g3⟩
  refine ⟨l,_,rfl,aF.of g1,?_⟩
  rw [show (List.replicate n.toNat true).all id=true by rw [aaC]; intro z hz; rw [(aeK.mp hz).2]; rfl]
  exact k G
end
theorem qm {fn:Value->Value->Value->Option Addr->Value->Value->FuncData} {ps:List Str} (h:∀ a b c d e f v0,bindArgs (fn a b c d e f) ⟨[v0],[]⟩=pure (ps.zip [v0])) (hp:ps.length=1:=by rfl) (a b c:Value) (d:Option Addr) (e f:Value) (us:List Value) (hl:us.length=ps.length):bindArgs (fn a b c d e f) ⟨us,[]⟩=pure (ps.zip us):=match us,hl.trans hp with | [v0],_=>h a b c d e f v0
theorem ln2 {fn:Value->Value->Value->Option Addr->Value->Value->FuncData} {ps:List Str} (h:∀ a b c d e f v0 v1,bindArgs (fn a b c d e f) ⟨[v0,v1],[]⟩=pure (ps.zip [v0,v1])) (hp:ps.length=2:=by rfl) (a b c:Value) (d:Option Addr) (e f:Value) (us:List Value) (hl:us.length=ps.length):bindArgs (fn a b c d e f) ⟨us,[]⟩=pure (ps.zip us):=match us,hl.trans hp with | [v0,v1],_=>h a b c d e f v0 v1
theorem kF {fn:Value->Value->Value->Option Addr->Value->Value->FuncData} {ps:List Str} (h:∀ a b c d e f v0 v1 v2,bindArgs (fn a b c d e f) ⟨[v0,v1,v2],[]⟩=pure (ps.zip [v0,v1,v2])) (hp:ps.length=3:=by rfl) (a b c:Value) (d:Option Addr) (e f:Value) (us:List Value) (hl:us.length=ps.length):bindArgs (fn a b c d e f) ⟨us,[]⟩=pure (ps.zip us):=match us,hl.trans hp with | [v0,v1,v2],_=>h a b c d e f v0 v1 v2
theorem vJ {fn:Value->Value->Value->Option Addr->Value->Value->FuncData} {ps:List Str} (h:∀ a b c d e f v0 v1 v2 v3,bindArgs (fn a b c d e f) ⟨[v0,v1,v2,v3],[]⟩=pure (ps.zip [v0,v1,v2,v3])) (hp:ps.length=4:=by rfl) (a b c:Value) (d:Option Addr) (e f:Value) (us:List Value) (hl:us.length=ps.length):bindArgs (fn a b c d e f) ⟨us,[]⟩=pure (ps.zip us):=match us,hl.trans hp with | [v0,v1,v2,v3],_=>h a b c d e f v0 v1 v2 v3
theorem LI {fn:Value->Value->Value->Option Addr->Value->Value->FuncData} {ps:List Str} (h:∀ a b c d e f v0 v1 v2 v3 v4,bindArgs (fn a b c d e f) ⟨[v0,v1,v2,v3,v4],[]⟩=pure (ps.zip [v0,v1,v2,v3,v4])) (hp:ps.length=5:=by rfl) (a b c:Value) (d:Option Addr) (e f:Value) (us:List Value) (hl:us.length=ps.length):bindArgs (fn a b c d e f) ⟨us,[]⟩=pure (ps.zip us):=match us,hl.trans hp with | [v0,v1,v2,v3,v4],_=>h a b c d e f v0 v1 v2 v3 v4
def j7 (K:W.Frag) (nm:Str) (st:Stmt):Prop:=∃ (f:Addr) (od an:Option Addr) (sl:Array (Option Value)) (oc kV dc pm cd ct:Value),W.nsIn K mainGlobals nm=some (some (.ref f))/\K.lookup f=some ⟨oc,od,.func (W.fnOf nm nm (ZU st) (ZF st) (Zi st) .none kV dc pm an cd ct),sl⟩/\W.codeIn K cd nm=true/\W.keepIn K (.ref f)=true
def bY (K:W.Frag) (Ca:Addr) (nm q:Str) (st:Stmt):Prop:=∃ (f:Addr) (od an:Option Addr) (sl:Array (Option Value)) (oc kV dc pm cd ct:Value),W.findIn K (.ref Ca) nm=some (some (.ref f))/\W.isFn K (.ref f)=true/\K.lookup f=some ⟨oc,od,.func (W.fnOf nm q (ZU st) (ZF st) (Zi st) .none kV dc pm an cd ct),sl⟩/\W.codeIn K cd q=true/\W.keepIn K (.ref f)=true
theorem j7.mk {K:W.Frag} {nm:Str} {st:Stmt} {f:Addr} {od an:Option Addr} {sl:Array (Option Value)} {oc kV dc pm cd ct:Value} (a:W.nsIn K mainGlobals nm=some (some (.ref f))) (l:K.lookup f=some ⟨oc,od,.func (W.fnOf nm nm (ZU st) (ZF st) (Zi st) .none kV dc pm an cd ct),sl⟩) (c:W.codeIn K cd nm=true) (k:W.keepIn K (.ref f)=true):j7 K nm st:=⟨_,_,_,_,_,_,_,_,_,_,a,l,c,k⟩
theorem bY.mk {K:W.Frag} {Ca:Addr} {nm q:Str} {st:Stmt} {f:Addr} {od an:Option Addr} {sl:Array (Option Value)} {oc kV dc pm cd ct:Value} (a:W.findIn K (.ref Ca) nm=some (some (.ref f))) (i:W.isFn K (.ref f)=true) (l:K.lookup f=some ⟨oc,od,.func (W.fnOf nm q (ZU st) (ZF st) (Zi st) .none kV dc pm an cd ct),sl⟩) (c:W.codeIn K cd q=true) (k:W.keepIn K (.ref f)=true):bY K Ca nm q st:=⟨_,_,_,_,_,_,_,_,_,_,a,i,l,c,k⟩
def BN (P:Program) (w:World) (K:W.Frag) (mg:Str->Option Value) (base:Heap):Prop:=∃ h,K.In h/\h.Ns mainGlobals mg
section
variable {P:Program} {w:World} {K:W.Frag} {mg:Str->Option Value} {base:Heap} {Ca:Addr} {nm q:Str} {st:Stmt} {n:Nat} {ps:List Str} {sp:Sp} (B:BN P w K mg base)
include B
theorem BN.df (x:j7 K nm st) (ok:∀ {f fd},aZ K nm nm st f fd->au P w K mg base aW n f fd ps sp) (hb:∀ (kV dc pm:Value) (an:Option Addr) (cd ct:Value) (us:List Value),us.length=ps.length->bindArgs (W.fnOf nm nm (ZU st) (ZF st) (Zi st) .none kV dc pm an cd ct) ⟨us,[]⟩=pure (ps.zip us)):Def P w K mg base nm n ps sp:=by
 obtain ⟨f,od,an,sl,oc,kV,dc,pm,cd,ct,a,l,c,k⟩:=x
 obtain ⟨h,X,G⟩:=B
 have F:=uT l c k
 exact ⟨_,_,ok F,W.mg_of X G a,F.kp,F.binds hb⟩
theorem BN.md (x:bY K Ca nm q st) (ok:∀ {f fd},aZ K nm q st f fd->au P w K mg base aW n f fd ps sp) (hb:∀ (kV dc pm:Value) (an:Option Addr) (cd ct:Value) (us:List Value),us.length=ps.length->bindArgs (W.fnOf nm q (ZU st) (ZF st) (Zi st) .none kV dc pm an cd ct) ⟨us,[]⟩=pure (ps.zip us)):av P w K mg base Ca nm n ps sp:=by
 obtain ⟨f,od,an,sl,oc,kV,dc,pm,cd,ct,a,i,l,c,k⟩:=x
 have F:=uT l c k
 exact ⟨_,_,ok F,⟨a,i,k⟩,F.binds hb⟩
theorem BN.kd {y:Str} (x:bY K Ca "__init__" q st) (mk:W.makesIn K Ca=true) (kc:W.keepIn K (.ref Ca)=true) (aC:W.nsIn K mainGlobals y=some (some (.ref Ca))) (ok:∀ {f fd},aZ K "__init__" q st f fd->au P w K mg base aW n f fd ps sp) (hb:∀ (kV dc pm:Value) (an:Option Addr) (cd ct:Value) (us:List Value),us.length=ps.length->bindArgs (W.fnOf "__init__" q (ZU st) (ZF st) (Zi st) .none kV dc pm an cd ct) ⟨us,[]⟩=pure (ps.zip us)):oQ P w K mg base Ca y n ps sp:=by
 obtain ⟨f,od,an,sl,oc,kV,dc,pm,cd,ct,a,i,l,c,k⟩:=x
 obtain ⟨h,X,G⟩:=B
 have F:=uT l c k
 exact ⟨_,_,ok F,⟨mk,a,i,kc⟩,W.mg_of X G aC,F.binds hb⟩
end
theorem UL {l:W.OpenLaw} {w:World} {K:W.Frag} {h:Heap} {mg:Str->Option Value} {fa:Addr} {tp cg:Addr} (X:K.In h) (G:h.Ns mainGlobals mg) (TH:mg "law" = some (.ref fa))
  {aP:Addr} (qJ:W.nsIn K mainGlobals "Room" = some (some (.ref aP)))
  {aL:Addr} (n8:W.nsIn K mainGlobals "Store" = some (some (.ref aL)))
  {aV:Addr} (lP:W.nsIn K mainGlobals "Memory" = some (some (.ref aV)))
  {aj:Addr} (lO:W.nsIn K mainGlobals "Stairs" = some (some (.ref aj)))
  {i8:Addr} (oh:W.nsIn K mainGlobals "Steps" = some (some (.ref i8)))
  (x0:j7 K "_law_take" HE)
  (x1:j7 K "_law_box" pQ)
  (x2:j7 K "_law_folded" IM)
  (x3:j7 K "_law_some_boards" Ed)
  (a4:W.nsIn K mainGlobals "_law_same" = some (some (.ref f4))) (l4:K.lookup f4=some ⟨oc4,od4,.func (W.fnOf "_law_same" "_law_same" (ZU uR) (ZF uR) (Zi uR) .none kV4 dc4 ue an4 Ut ct4),sl4⟩) (c4:W.codeIn K Ut "_law_same" = true) (k4:W.keepIn K (.ref f4)=true)
  (x5:j7 K "shelf_of" Ju)
  (x6:bY K aP "has" "Room.has" Js)
  (x7:bY K aP "mates" "Room.mates" JE)
  (x8:bY K aP "need" "Room.need" JU)
  (a9:W.findIn K (.ref aP) "going" = some (some (.ref f9))) (i9:W.isFn K (.ref f9)=true) (l9:K.lookup f9=some ⟨oc9,od9,.func (W.fnOf "going" "Room.going" (ZU ZB) (ZF ZB) (Zi ZB) .none kV9 dc9 pm9 an9 (.ref cg) ct9),sl9⟩) (c9:W.codeIn K (.ref cg) "Room.going" = true) (k9:W.keepIn K (.ref f9)=true)
  (Rt:bY K aP "drop" "Room.drop" JV)
  (Rr:bY K aP "use" "Room.use" Jr)
  (Rq:bY K aP "__init__" "Room.__init__" Ek)
  (Rp:bY K aP "leaver_for" "Room.leaver_for" KP)
  (Ro:bY K aP "bring" "Room.bring" JG)
  (Rl:bY K aL "__init__" "Store.__init__" JD)
  (Rj:bY K aL "has" "Store.has" JT)
  (Ri:bY K aL "lay" "Store.lay" JS)
  (Rh:bY K aL "take_in" "Store.take_in" J6)
  (Rg:bY K aL "give_out" "Store.give_out" KN)
  (Rf:bY K aL "words_of" "Store.words_of" KJ)
  (Rc:bY K aL "lay_word" "Store.lay_word" KH)
  (Rb:bY K aL "freshen" "Store.freshen" J4)
  (Ra:j7 K "board_of" Jw)
  (Q9:j7 K "spots_of" Jv)
  (Q8:bY K aV "__init__" "Memory.__init__" JO)
  (Q7:bY K aV "words_of" "Memory.words_of" Eo)
  (Q6:bY K aV "lay" "Memory.lay" JB)
  (Q5:bY K aj "store" "Steps.store" JL)
  (Q4:bY K aj "words" "Steps.words" JM)
  (Q3:bY K aj "happened" "Steps.happened" KD)
  (Q2:bY K aj "leaver" "Steps.leaver" Ke)
  (QZ:bY K aj "tell_found" "Steps.tell_found" Ko)
  (QY:bY K aj "use_in" "Steps.use_in" Kd)
  (QX:bY K aj "come_in" "Steps.come_in" J3)
  (QW:bY K aj "go_out" "Steps.go_out" Kc)
  (QV:bY K aj "put" "Steps.put" JR)
  (QU:bY K aj "word_in" "Steps.word_in" J2)
  (QT:bY K aj "put_word" "Steps.put_word" KC)
  (T5:W.specialIn K (.ref i8) "__getattribute__" = some (some (.builtin "type.__getattribute__"))) (RW:W.readsIn K i8 (.type "type")=true) (UG:W.findCls K (.ref i8) (.type "type") "__init__" = some (.val (.ref Mz))) (S0:K.lookup Mz=some ⟨Sf,Sb,.func (W.fnOf "__init__" "Steps.__init__" (ZU ZW) (ZF ZW) (Zi ZW) .none S7 Uq RY UC Hj Us),RM⟩) (Uw:W.codeIn K Hj "Steps.__init__" = true) (LK:W.keepIn K (.ref Mz)=true)
  (QS:bY K aj "__init__" "Stairs.__init__" JK)
  (QO:bY K aj "nearest" "Stairs.nearest" Kw)
  (QN:bY K aj "go_on" "Stairs.go_on" J7)
  (QM:bY K aj "change" "Stairs.change" JY)
  (QL:bY K aj "drive_out" "Stairs.drive_out" KR)
  (QK:bY K aj "fetch_down" "Stairs.fetch_down" Kr)
  (QJ:bY K aj "come_apart" "Stairs.come_apart" Kp)
  (UE:W.findIn K (.ref aj) "push" = some (some (.ref GR))) (Ti:W.isFn K (.ref GR)=true) (SY:K.lookup GR=some ⟨Se,Sa,.func (W.fnOf "push" "Stairs.push" (ZU ZJ) (ZF ZJ) (Zi ZJ) .none S6 Up RX UB Hi Ur),RL⟩) (Uv:W.codeIn K Hi "Stairs.push" = true) (LJ:W.keepIn K (.ref GR)=true)
  (QI:bY K aj "fetch_apart" "Stairs.fetch_apart" Ku)
  (QH:bY K aj "fetch" "Stairs.fetch" J8)
  (QG:bY K aj "read" "Stairs.read" JI)
  (QF:bY K aj "write" "Stairs.write" Ka)
  (QE:j7 K "_law_room_plan" Jk)
  (QD:j7 K "_law_plan" Dn)
  (QC:j7 K "_law_many" Hy)
  (QB:j7 K "_law_word" HC)
  (QA:j7 K "_law_deed" HA)
  (Qz:bY K aP "boards" "Room.boards" JQ)
  (Qy:bY K aj "lies" "Steps.lies" Jz)
  (Qx:bY K aj "emptied" "Stairs.emptied" Kz)
  (Qw:bY K aV "pairs" "Memory.pairs" Km)
  (Qv:bY K aj "memory" "Steps.memory" Kh)
  (Qu:j7 K "_law_told" Hw)
  (Qt:j7 K "_law_pairs" DJ)
  (Qs:j7 K "_law_all_told" Jp)
  (Qq:j7 K "_law_right" DH)
  (UD:W.nsIn K mainGlobals "law" = some (some (.ref My))) (SX:K.lookup My=some ⟨Sd,R8,.func (W.fnOf "law" "law" (ZU gj) (ZF gj) (Zi gj) .none FY GZ Fp Hq AB Hf),RK⟩) (Uu:W.codeIn K AB "law" = true) (S8:W.keepIn K (.ref My)=true)
  (CM:W.nsIn K mainGlobals "abs" = some none)
  (zZ:W.nsIn K mainGlobals "all" = some none)
  (CO:W.nsIn K mainGlobals "bool" = some none)
  (F3:W.nsIn K mainGlobals "divmod" = some none)
  (BV:W.nsIn K mainGlobals "enumerate" = some none)
  (xR:W.nsIn K mainGlobals "int" = some none)
  (oY:W.nsIn K mainGlobals "isinstance" = some none)
  (rO:W.nsIn K mainGlobals "len" = some none)
  (pG:W.nsIn K mainGlobals "list" = some none)
  (CL:W.nsIn K mainGlobals "max" = some none)
  (Gd:W.nsIn K mainGlobals "min" = some none)
  (mF:W.nsIn K mainGlobals "range" = some none)
  (wZ:W.nsIn K mainGlobals "sorted" = some none)
  (zW:W.nsIn K mainGlobals "str" = some none)
  (z9:W.nsIn K mainGlobals "tuple" = some none)
  (CK:W.nsIn K mainGlobals "zip" = some none)
  (vp:W.plainGet K aP Str.empty=true) (vR:W.hasDictIn K aP=true) (vn:W.plainOver K aP=true) (ve:W.findIn K (.ref aP) "__setattr__" = some (some (.builtin "object.__setattr__"))) (vC:W.makesIn K aP=true) (vK:W.keepIn K (.ref aP)=true)
  (kB:W.findIn K (.ref aP) "places" = some none)
  (mH:W.findIn K (.ref aP) "rule" = some none)
  (jL:W.findIn K (.ref aP) "shelves" = some none)
  (jk:W.findIn K (.ref aP) "standing" = some none)
  (mG:W.findIn K (.ref aP) "uses" = some none)
  (su:W.plainGet K aL Str.empty=true) (sJ:W.hasDictIn K aL=true) (sr:W.plainOver K aL=true) (rT:W.findIn K (.ref aL) "__setattr__" = some (some (.builtin "object.__setattr__"))) (sE:W.makesIn K aL=true) (sF:W.keepIn K (.ref aL)=true)
  (kj:W.findIn K (.ref aL) "fresh" = some none)
  (lq:W.findIn K (.ref aL) "held" = some none)
  (lg:W.findIn K (.ref aL) "late" = some none)
  (k8:W.findIn K (.ref aL) "room" = some none)
  (p7:W.plainGet K aV Str.empty=true) (qy:W.hasDictIn K aV=true) (pY:W.plainOver K aV=true) (pP:W.findIn K (.ref aV) "__setattr__" = some (some (.builtin "object.__setattr__"))) (qg:W.makesIn K aV=true) (qq:W.keepIn K (.ref aV)=true)
  (kD:W.findIn K (.ref aV) "kept" = some none)
  (kC:W.findIn K (.ref aV) "size" = some none)
  (pZ:W.plainGet K aj Str.empty=true) (qx:W.hasDictIn K aj=true) (pX:W.plainOver K aj=true) (pO:W.findIn K (.ref aj) "__setattr__" = some (some (.builtin "object.__setattr__"))) (qf:W.makesIn K aj=true) (qp:W.keepIn K (.ref aj)=true)
  (jj:W.findIn K (.ref aj) "bottom" = some none)
  (ji:W.findIn K (.ref aj) "events" = some none)
  (ku:W.findIn K (.ref aj) "kind" = some none)
  (kq:W.findIn K (.ref aj) "last" = some none)
  (ko:W.findIn K (.ref aj) "size" = some none)
  (jh:W.findIn K (.ref aj) "stores" = some none)
  (ch:W.codeHdIn K cg tp=true) (kt:K.lookup tp=none)
  : tabOf K "Room" "going" = tp/\(∃ c0,W.codeHdIn K c0 tp=true)/\K.lookup tp=none/\∃ fd:FuncData,(∀ (s:Shared) (v:Value),BindsTo s fd ⟨[v],[]⟩ [("_law_script",v)])/\∀ base:Heap,K.In base->base.Ns mainGlobals mg->BMod base mg->au l.prog w K mg base aW 19 fa fd lW (nA K):=by
 have e:=TH.symm.trans (W.mg_of X G UD)
 cases e
 have vX:=Ba qJ
 subst vX
 have sL:=Ba n8
 subst sL
 have qB:=Ba lP
 subst qB
 have qA:=Ba lO
 subst qA
 have sM:=Ba oh
 subst sM
 have T:Txt K mg:=⟨a6c X G CM,a6c X G zZ,a6c X G CO,a6c X G F3,a6c X G BV,a6c X G xR,a6c X G oY,a6c X G rO,a6c X G pG,a6c X G CL,a6c X G Gd,a6c X G mF,a6c X G wZ,a6c X G zW,a6c X G z9,a6c X G CK,⟨vp,vR,vn,ve⟩,kB,mH,jL,jk,mG,⟨su,sJ,sr,rT⟩,kj,lq,lg,k8,⟨p7,qy,pY,pP⟩,kD,kC,⟨pZ,qx,pX,pO⟩,jj,ji,ku,kq,ko,jh⟩
 have F4:=uT (st:=uR) l4 c4 k4
 have AL:=F4.binds (ps:=rG) (ln2 λ_ _ _ _ _ _ _ _=>rfl)
 have F9:=uT (st:=ZB) l9 c9 k9
 have AK:=F9.binds (ps:=By) (ln2 λ_ _ _ _ _ _ _ _=>rfl)
 have Qm:=uT (st:=ZW) S0 Uw LK
 have AJ:=Qm.binds (ps:=Bx) (kF λ_ _ _ _ _ _ _ _ _=>rfl)
 have Ql:=uT (st:=ZJ) SY Uv LJ
 have AI:=Ql.binds (ps:=ZC) (LI λ_ _ _ _ _ _ _ _ _ _ _=>rfl)
 have Qk:=uT (st:=gj) SX Uu S8
 have MM:=Qk.binds (ps:=lW) (qm λ_ _ _ _ _ _ _=>rfl)
 have tq:=Xe a9 l9 rfl ch
 refine ⟨tq,⟨_,ch⟩,kt,?_⟩
 refine ⟨W.fnOf "law" "law" (ZU gj) (ZF gj) (Zi gj) .none FY GZ Fp Hq AB Hf,λs v=>.of_eq rfl,λbase _ _ bm=>?_⟩
 have B:BN l.prog w K mg base:=⟨_,X,G⟩
 have cO:=B.df x0 (λF=>Vx F T ) (ln2 λ_ _ _ _ _ _ _ _=>rfl)
 have Gb:=B.df x1 (λF=>U0 F T ) (ln2 λ_ _ _ _ _ _ _ _=>rfl)
 have F1:=B.df x2 (λF=>Xk F T ) (ln2 λ_ _ _ _ _ _ _ _=>rfl)
 have ES:=B.df x3 (λF=>Zfn F T cO) (ln2 λ_ _ _ _ _ _ _ _=>rfl)
 have oU:=Oo (P:=l.prog) (w:=w) (base:=base) F4 AL (W.mg_of X G a4) T 
 have F6:=B.df x5 (λF=>YO F T ) (ln2 λ_ _ _ _ _ _ _ _=>rfl)
 have sf:=B.md x6 (λF=>YN F T ) (ln2 λ_ _ _ _ _ _ _ _=>rfl)
 have oX:=B.md x7 (λF=>Y5 F T F6) (ln2 λ_ _ _ _ _ _ _ _=>rfl)
 have rX:=B.md x8 (λF=>YH F T sf) (ln2 λ_ _ _ _ _ _ _ _=>rfl)
 have EO:av l.prog w K mg base (aa K "Room") "going" 2 By (Ig K):=⟨_,_,Y4 F9 rfl tq ch bm T ,⟨a9,i9,k9⟩,AK⟩
 have xj:=B.md Rt (λF=>YG F T rX oX) (ln2 λ_ _ _ _ _ _ _ _=>rfl)
 have F5:=B.md Rr (λF=>YM F T rX oX) (ln2 λ_ _ _ _ _ _ _ _=>rfl)
 have Gi:=B.kd Rq vC vK qJ (λF=>YF F T ) (vJ λ_ _ _ _ _ _ _ _ _ _=>rfl)
 have xC:=B.md Rp (λF=>Zdw F T oX EO) (ln2 λ_ _ _ _ _ _ _ _=>rfl)
 have EN:=B.md Ro (λF=>Y3 F T sf xC oX xj) (ln2 λ_ _ _ _ _ _ _ _=>rfl)
 have F0:=B.kd Rl sE sF n8 (λF=>Y0 F T Gi) (ln2 λ_ _ _ _ _ _ _ _=>rfl)
 have rW:=B.md Rj (λF=>YE F T sf) (ln2 λ_ _ _ _ _ _ _ _=>rfl)
 have xh:=B.md Ri (λF=>YD F T ) (kF λ_ _ _ _ _ _ _ _ _=>rfl)
 have EC:=B.md Rh (λF=>Zem F T EN xh) (kF λ_ _ _ _ _ _ _ _ _=>rfl)
 have EG:=B.md Rg (λF=>ZdQ F T xj) (ln2 λ_ _ _ _ _ _ _ _=>rfl)
 have se:=B.md Rf (λF=>ZdR F T rX) (ln2 λ_ _ _ _ _ _ _ _=>rfl)
 have EF:=B.md Rc (λF=>ZdS F T ) (vJ λ_ _ _ _ _ _ _ _ _ _=>rfl)
 have xB:=B.md Rb (λF=>Zen F T ) (ln2 λ_ _ _ _ _ _ _ _=>rfl)
 have oW:=B.df Ra (λF=>YL F T ) (ln2 λ_ _ _ _ _ _ _ _=>rfl)
 have xg:=B.df Q9 (λF=>Yy F T ) (ln2 λ_ _ _ _ _ _ _ _=>rfl)
 have F2:=B.kd Q8 qg qq lP (λF=>Zfo F T ) (ln2 λ_ _ _ _ _ _ _ _=>rfl)
 have EH:=B.md Q7 (λF=>Zdy F T xg) (ln2 λ_ _ _ _ _ _ _ _=>rfl)
 have EM:=B.md Q6 (λF=>YZ F T xg) (kF λ_ _ _ _ _ _ _ _ _=>rfl)
 have xG:=B.md Q5 (λF=>Zfp F T ) (ln2 λ_ _ _ _ _ _ _ _=>rfl)
 have xF:=B.md Q4 (λF=>Zfq F T EH xG se) (kF λ_ _ _ _ _ _ _ _ _=>rfl)
 have rZ:=B.md Q3 (λF=>ZdV F T ) (qm λ_ _ _ _ _ _ _=>rfl)
 have rj:=B.md Q2 (λF=>ZeZ F T xC) (kF λ_ _ _ _ _ _ _ _ _=>rfl)
 have EI:=B.md QZ (λF=>Zdd F T ) (ln2 λ_ _ _ _ _ _ _ _=>rfl)
 have xJ:=B.md QY (λF=>Zfa F T F5) (kF λ_ _ _ _ _ _ _ _ _=>rfl)
 have xA:=B.md QX (λF=>Zeo F T EC) (vJ λ_ _ _ _ _ _ _ _ _ _=>rfl)
 have kY:=B.md QW (λF=>Zfb F T EG) (kF λ_ _ _ _ _ _ _ _ _=>rfl)
 have pV:=B.md QV (λF=>YC F T EM xh) (vJ λ_ _ _ _ _ _ _ _ _ _=>rfl)
 have EB:=B.md QU (λF=>Zep F T se oW) (kF λ_ _ _ _ _ _ _ _ _=>rfl)
 have ED:=B.md QT (λF=>ZdX F T EF oW) (vJ λ_ _ _ _ _ _ _ _ _ _=>rfl)
 have EL:wX l.prog w K mg base "Steps" "__init__" 5 Bx (Ia K):=⟨_,_,_,YY Qm T F0 F2,⟨T5,⟨_,RW,UG⟩,LK⟩,W.mg_of X G oh,AJ⟩
 have CQ:=B.kd QS qf qp lO (λF=>Zfr F T EL) (ln2 λ_ _ _ _ _ _ _ _=>rfl)
 have EE:=B.md QO (λF=>ZdZ F T rW) (ln2 λ_ _ _ _ _ _ _ _=>rfl)
 have rY:=B.md QN (λF=>Zfd F T rW pV xB) (vJ λ_ _ _ _ _ _ _ _ _ _=>rfl)
 have xx:=B.md QM (λF=>Zeq F T xB rY se) (kF λ_ _ _ _ _ _ _ _ _=>rfl)
 have EJ:=B.md QL (λF=>Zdg F T kY rW rY) (kF λ_ _ _ _ _ _ _ _ _=>rfl)
 have EK:=B.md QK (λF=>ZcN F T xJ xF rj EJ xA) (kF λ_ _ _ _ _ _ _ _ _=>rfl)
 have ud:=B.md QJ (λF=>ZcO F T xA xx) (LI λ_ _ _ _ _ _ _ _ _ _ _=>rfl)
 have xE:=P7 (P:=l.prog) (w:=w) (base:=base) Ql AI ⟨UE,Ti,LJ⟩ T pV rj ud kY
 have Fo:=B.md QI (λF=>ZcD F T xJ xF kY xE) (kF λ_ _ _ _ _ _ _ _ _=>rfl)
 have xH:=B.md QH (λF=>Zfe F T EE EI Fo EK) (ln2 λ_ _ _ _ _ _ _ _=>rfl)
 have xD:=B.md QG (λF=>Z9 F T oW xH EB rZ) (ln2 λ_ _ _ _ _ _ _ _=>rfl)
 have Ez:=B.md QF (λF=>Zff F T oW xH ED xx rZ) (kF λ_ _ _ _ _ _ _ _ _=>rfl)
 have F7:=B.df QE (λF=>YB F T cO) (qm λ_ _ _ _ _ _ _=>rfl)
 have CN:=B.df QD (λF=>Vr F T cO F7) (qm λ_ _ _ _ _ _ _=>rfl)
 have Gf:=B.df QC (λF=>Vq F T cO) (kF λ_ _ _ _ _ _ _ _ _=>rfl)
 have Gh:=B.df QB (λF=>Vp F T cO) (qm λ_ _ _ _ _ _ _=>rfl)
 have Gg:=B.df QA (λF=>Vo F T cO Gh) (kF λ_ _ _ _ _ _ _ _ _=>rfl)
 have ET:=B.md Qz (λF=>Z8 F T ) (qm λ_ _ _ _ _ _ _=>rfl)
 have Ga:=B.md Qy (λF=>YX F T xG ET) (ln2 λ_ _ _ _ _ _ _ _=>rfl)
 have BY:=B.md Qx (λF=>Zea F T Ga kY rY rZ) (qm λ_ _ _ _ _ _ _=>rfl)
 have EA:=B.md Qw (λF=>Zfj F T ) (qm λ_ _ _ _ _ _ _=>rfl)
 have BW:=B.md Qv (λF=>Zfk F T EA) (qm λ_ _ _ _ _ _ _=>rfl)
 have Ge:=B.df Qu (λF=>Vh F T xD Ez oU) (kF λ_ _ _ _ _ _ _ _ _=>rfl)
 have CP:=B.df Qt (λF=>WY F T ) (qm λ_ _ _ _ _ _ _=>rfl)
 have BZ:=B.df Qs (λF=>Yx F T xD oU) (vJ λ_ _ _ _ _ _ _ _ _ _=>rfl)
 have FZ:=B.df Qq (λF=>WX F T CN ES Gg Gf cO CQ Ge BZ CP BY BW oU) (qm λ_ _ _ _ _ _ _=>rfl)
 exact UM Qk T Gb F1 FZ
theorem walk {l:W.OpenLaw} {q:Program} {loose:List Str} {XP:(Str->Option Value)->Heap->Prop} {YP:World->Heap->Prop} {d:DefRec} {K:Params->W.Frag} {tp:Addr} (hn:l.most=some 63) (hdf:d.params.defaults=[])
  (hY:∀ (w:World) (h:Heap),YP w h->(K w.params).In h/\h.get? tp=some { cls:=.none,data:=.fields #[] })
  (F:∀ (w:World) (mg:Str->Option Value) (fa:Addr) (h:Heap),(K w.params).In h->h.Ns mainGlobals mg->mg d.name=some (.ref fa) ->
   tabOf (K w.params) "Room" "going" = tp/\(∃ c0,W.codeHdIn (K w.params) c0 tp=true)/\(K w.params).lookup tp=none/\∃ fd:FuncData,(∀ (s:Shared) (u:Value),BindsTo s fd ⟨[u],[]⟩ [("_law_script",u)])/\∀ base:Heap,(K w.params).In base->base.Ns mainGlobals mg->BMod base mg->au l.prog w (K w.params) mg base aW 19 fa fd lW (nA (K w.params))) :
  W.WalkO q loose XP YP l.row.toRowW d [] (λf vs=>PySem.call f vs) :=
 L2.Xf (tp:=tp) (pos:=tpos) (qual:=pH) (G:=λw=>tabOf (K w.params) "Room" "going" = tp) (n:=63) (k:=19) (x := "_law_script") (CX:=λ_=>aW) (sp:=λw=>nA (K w.params)) hn (by decide) hdf ⟨rfl,by decide,by decide,rfl⟩ hY F (λ_ _ a ns g hl hT hS=>⟨a,ns,rfl,hS,hl,(by unfold Tb; rw [g]; exact hT),λ_=>rfl⟩) λ_ _ _ _ _ z=>z
end m9
namespace PySem.W.Fast
abbrev Q:=Nat
def tw10001220577837680741:=Q
def tw10012463267205403548:=Q
def tw10022786576981413861:=Q
def tw10035725440775960358:=Q
def tw10067530623747569681:=Q
def tw10088970945517288938:=Q
def tw10121868562629792163:=Q
def tw10187644437212783094:=Q
def tw1020102429584245581:=Q
def tw1023240703354895468:=Q
def tw1023309132615052944:=Q
def tw10255717739279988208:=Q
def tw10263408180967188808:=Q
def tw10275837275586900551:=Q
def tw10278587633061812756:=Q
def tw10318386405031092406:=Q
def tw10381276029271509580:=Q
def tw10391338329719931618:=Q
def tw10399272262265648342:=Q
def tw10399338176917007384:=Q
def tw10439482511287397804:=Q
def tw10439582735578448287:=Q
def tw10456434259406304366:=Q
def tw10461507789402583913:=Q
def tw10490136622933764578:=Q
def tw10534814355618832663:=Q
def tw10541562140502345642:=Q
def tw10552236437157535800:=Q
def tw10559091934246096855:=Q
def tw10622589800180417496:=Q
def tw10713811357285853861:=Q
def tw10718110394693990965:=Q
def tw10720897054191553444:=Q
def tw107231062998404826:=Q
def tw1072640485924619691:=Q
def tw10730367460335102055:=Q
def tw10763558097335937901:=Q
def tw10807331019416480134:=Q
def tw10820228482031572688:=Q
def tw10825272346130376903:=Q
def tw10829336322376200289:=Q
def tw10873041502003950583:=Q
def tw10899334935926480359:=Q
def tw10903984178903258053:=Q
def tw10917523663081592837:=Q
def tw10934666290607424862:=Q
def tw10977283644964023795:=Q
def tw10992087663682665082:=Q
def tw11009489640184631563:=Q
def tw11012524876957701442:=Q
def tw11015239101920519235:=Q
def tw11031102136716625300:=Q
def tw11100614488692300223:=Q
def tw11103110893167072802:=Q
def tw11141656560994231384:=Q
def tw11144631195851453770:=Q
def tw11162108945066029584:=Q
def tw11171573518491260107:=Q
def tw11187177455132325346:=Q
def tw11211092503862239463:=Q
def tw1124932962584672928:=Q
def tw11254957235729905885:=Q
def tw11289213614061058173:=Q
def tw11307026622093247828:=Q
def tw11315504642434164925:=Q
def tw11318491610991318730:=Q
def tw11326574957460981486:=Q
def tw11326666140580992872:=Q
def tw11327548837103412554:=Q
def tw11358937320075876010:=Q
def tw11389916545608045010:=Q
def tw11399381437017022427:=Q
def tw11415711216664957537:=Q
def tw11418739541333609276:=Q
def tw11434340458816648861:=Q
def tw1144030380032820626:=Q
def tw11441110805183349067:=Q
def tw11444548617919066479:=Q
def tw11453267432812109818:=Q
def tw1145683602305461884:=Q
def tw11476647745975005446:=Q
def tw11521542614264164024:=Q
def tw11530654904262694256:=Q
def tw11536208456551108546:=Q
def tw11602209390131883401:=Q
def tw11607102266931308598:=Q
def tw1162555983356115753:=Q
def tw1168525478226287753:=Q
def tw11700394791701941550:=Q
def tw11724081470149237550:=Q
def tw11732065068339853488:=Q
def tw11800689547091276356:=Q
def tw11826906809480546935:=Q
def tw1189297921411072451:=Q
def tw11903728348899045275:=Q
def tw11927823334422318841:=Q
def tw11972561313634291672:=Q
def tw12002028229248318738:=Q
def tw12005417145214634739:=Q
def tw12023739689765590355:=Q
def tw12031538889273981113:=Q
def tw12032699994547675436:=Q
def tw12035731505751577277:=Q
def tw12048652859599151734:=Q
def tw1207678778079144020:=Q
def tw12105550930523467134:=Q
def tw12123741052253039859:=Q
def tw12144391308863829447:=Q
def tw1215103353957343340:=Q
def tw12160083923714070385:=Q
def tw12219650447331562593:=Q
def tw12237056516621816413:=Q
def tw12243679293965870751:=Q
def tw12286192601551476651:=Q
def tw12301382894887694000:=Q
def tw12403528665030412439:=Q
def tw12419492139426915480:=Q
def tw12419782138435202320:=Q
def tw12457477337020285561:=Q
def tw1249028383700185433:=Q
def tw12521370992838995176:=Q
def tw1253179538184106481:=Q
def tw12531852974606979138:=Q
def tw12537829330959020971:=Q
def tw12559129621157605066:=Q
def tw1258785915100772523:=Q
def tw12594712927497082467:=Q
def tw12612160292382359396:=Q
def tw12614764727317063498:=Q
def tw12675932931303608154:=Q
def tw12699756039919737967:=Q
def tw12748085557389434829:=Q
def tw12748128783560846315:=Q
def tw12758407489807757998:=Q
def tw12773768169204265228:=Q
def tw12799815295559933525:=Q
def tw12813371709767989575:=Q
def tw12876245831112128245:=Q
def tw12878454044063299212:=Q
def tw12887677520891024299:=Q
def tw12913237397749856963:=Q
def tw12914777930414940266:=Q
def tw12942195992198034787:=Q
def tw12943940950441908875:=Q
def tw12980206206151218858:=Q
def tw13000697716484216762:=Q
def tw13005434661117682065:=Q
def tw1300826436031265638:=Q
def tw1301457056609835710:=Q
def tw13016956463934437862:=Q
def tw13039218721955949131:=Q
def tw13045541773396912481:=Q
def tw13046181105271583900:=Q
def tw13056041113085952009:=Q
def tw13059109155826267572:=Q
def tw1306684050969750855:=Q
def tw13086043082519442040:=Q
def tw13088529515374353377:=Q
def tw13120283891864394903:=Q
def tw1313111765639251308:=Q
def tw13170063966973530161:=Q
def tw13180422769839620364:=Q
def tw13183962771729977160:=Q
def tw13184199757138987943:=Q
def tw13202258831794798168:=Q
def tw13238105329904294932:=Q
def tw13245709342767161310:=Q
def tw1331856812923613905:=Q
def tw13321316116322116286:=Q
def tw13323418523948338803:=Q
def tw13351205188799104756:=Q
def tw13357200916109118627:=Q
def tw13373233344175290747:=Q
def tw13380281776327927745:=Q
def tw13401413960646203402:=Q
def tw1341439943139504934:=Q
def tw13416990911158807465:=Q
def tw13424855500105655561:=Q
def tw13457151561641599711:=Q
def tw13462387967428360195:=Q
def tw13492270354639722501:=Q
def tw13503355210682211824:=Q
def tw13523561120122686472:=Q
def tw13535361766818383971:=Q
def tw13543792680564434635:=Q
def tw13543857728149251496:=Q
def tw13584339123498452553:=Q
def tw13614877142545494246:=Q
def tw13626722560387781270:=Q
def tw13642333065691853610:=Q
def tw13673119392258022208:=Q
def tw13680088803664179592:=Q
def tw13733342432317715592:=Q
def tw13739667906730400700:=Q
def tw13748615111770789150:=Q
def tw13771844847852751358:=Q
def tw1377697614751651102:=Q
def tw13835848242281062028:=Q
def tw13843346092887600457:=Q
def tw13855100367293031519:=Q
def tw13856894858455166008:=Q
def tw13873121805154399782:=Q
def tw13886613741341398930:=Q
def tw13891507799640410904:=Q
def tw1394315451507927292:=Q
def tw13958845188232594126:=Q
def tw14027484143669481905:=Q
def tw1405943930274696671:=Q
def tw14096958112727233859:=Q
def tw14128432259118479296:=Q
def tw14153360858728790945:=Q
def tw14196269184206330485:=Q
def tw14203072249767376264:=Q
def tw14225158411749580162:=Q
def tw14232681017828823349:=Q
def tw14242538099988791493:=Q
def tw14259376307980033921:=Q
def tw14261843713731172031:=Q
def tw14267491222015409638:=Q
def tw14310587905606716498:=Q
def tw14334427911173602125:=Q
def tw14336356882789162579:=Q
def tw14361094545510758468:=Q
def tw14409947183212039362:=Q
def tw14419377829139552764:=Q
def tw14424165889190665230:=Q
def tw14473778004852088224:=Q
def tw14485983639315199365:=Q
def tw14487810735819283521:=Q
def tw14506318759856702082:=Q
def tw14532977200026085523:=Q
def tw14561487055841034612:=Q
def tw14598625792624537821:=Q
def tw14608653037589827236:=Q
def tw14613587978595509483:=Q
def tw14670927741170659059:=Q
def tw14682928382520498839:=Q
def tw14694910325845265134:=Q
def tw14707321364557053692:=Q
def tw1471458342509856781:=Q
def tw14746077947962337218:=Q
def tw14776147746272065058:=Q
def tw1478340286374881295:=Q
def tw14809178822394123462:=Q
def tw14810582378413671694:=Q
def tw14817438339636276366:=Q
def tw14836282885589900457:=Q
def tw14854576165452683277:=Q
def tw14858836488095621698:=Q
def tw14888276404024052530:=Q
def tw14893654916518273143:=Q
def tw1490265775738956995:=Q
def tw14944734830067592278:=Q
def tw14958840434332713840:=Q
def tw14967927505441239650:=Q
def tw14980856206088532850:=Q
def tw1499581005004960679:=Q
def tw15003544525497166038:=Q
def tw15014318322011832683:=Q
def tw15047018727302524977:=Q
def tw150580048999862660:=Q
def tw15066919471527415030:=Q
def tw15069336289926210151:=Q
def tw15095523985263471223:=Q
def tw15113449782465435660:=Q
def tw15142166157530895637:=Q
def tw15153457401605086162:=Q
def tw1515599933662467450:=Q
def tw15167356144597126318:=Q
def tw15171340848356693553:=Q
def tw15194029506048429750:=Q
def tw15276087934999959093:=Q
def tw1528070761103835838:=Q
def tw15283791495748812818:=Q
def tw15290347859138615057:=Q
def tw1529400838457496178:=Q
def tw15305183335514307161:=Q
def tw15331371554658462002:=Q
def tw15359304914971791923:=Q
def tw15368143602755302890:=Q
def tw15412056247386768623:=Q
def tw15437677881592650385:=Q
def tw15442861022695037974:=Q
def tw1544348015046694017:=Q
def tw15447502009597468999:=Q
def tw15499357507614946517:=Q
def tw15518802341401999454:=Q
def tw15520450217622628346:=Q
def tw15526263505255655609:=Q
def tw1556618042171294411:=Q
def tw15569067501378016023:=Q
def tw15593894656857841880:=Q
def tw15645355119618359369:=Q
def tw15650904293710670189:=Q
def tw1565111727139945354:=Q
def tw15662865355064501587:=Q
def tw15678470674720931552:=Q
def tw1569545165901852006:=Q
def tw15781696699129855313:=Q
def tw1579655077502665092:=Q
def tw15844199753141409150:=Q
def tw1587410214155709079:=Q
def tw15887017535579599599:=Q
def tw15888607525227483953:=Q
def tw15894666926733925947:=Q
def tw15909875745979703595:=Q
def tw15922038286891897509:=Q
def tw15937611196498784224:=Q
def tw15945214666062427874:=Q
def tw15952946499988787938:=Q
def tw1595888727226424910:=Q
def tw15990760351182863157:=Q
def tw159930396906690886:=Q
def tw16000329927480001935:=Q
def tw16008537432052162657:=Q
def tw16021720882929251946:=Q
def tw16069488850381929858:=Q
def tw16074042233209521296:=Q
def tw16078824480072657594:=Q
def tw16086816221520580733:=Q
def tw16135015584574773845:=Q
def tw16141395922876285233:=Q
def tw16166349778377631915:=Q
def tw16171876172938280893:=Q
def tw16189943465607213484:=Q
def tw16245102244522696810:=Q
def tw16268771256673131520:=Q
def tw1627836930718861343:=Q
def tw16290565374491773478:=Q
def tw16341803020377893055:=Q
def tw16348687273744532211:=Q
def tw16378239788148809812:=Q
def tw16387412426432146786:=Q
def tw16388680546174420551:=Q
def tw16400979054280220258:=Q
def tw16449029727270871527:=Q
def tw1645560810104206914:=Q
def tw16457070476370268795:=Q
def tw16515600347461393410:=Q
def tw16518670290388055118:=Q
def tw16536163485157561317:=Q
def tw16538355245955546352:=Q
def tw16551067658210549403:=Q
def tw16566434867637768314:=Q
def tw16582192999751844154:=Q
def tw16593235378462582482:=Q
def tw16603542979156094371:=Q
def tw16643113347795365921:=Q
def tw16693090688553372243:=Q
def tw16705239911487959307:=Q
def tw16708865193130639385:=Q
def tw16787850616335080660:=Q
def tw16815248461952906559:=Q
def tw16829908411008174249:=Q
def tw16879715072345582659:=Q
def tw16890924753679043093:=Q
def tw16913482486211827958:=Q
def tw16935347100280559121:=Q
def tw17021296304249747959:=Q
def tw17025437369036598459:=Q
def tw17027204265622955527:=Q
def tw17033045267775436555:=Q
def tw17068846449939033396:=Q
def tw17123748085291880314:=Q
def tw17160919477616208373:=Q
def tw17176214729507630252:=Q
def tw17194741702995408533:=Q
def tw17196802297001019168:=Q
def tw17253080150007140861:=Q
def tw17262742382423803525:=Q
def tw17270361882503935482:=Q
def tw17272082808916918670:=Q
def tw17273632215043727721:=Q
def tw17291401286100251768:=Q
def tw17293701236181439232:=Q
def tw17295327901596073932:=Q
def tw17307290902170010760:=Q
def tw17325860149404462343:=Q
def tw1732720634811160785:=Q
def tw17336802881801594345:=Q
def tw17378654730131288992:=Q
def tw17398081623899776994:=Q
def tw17404481770968999520:=Q
def tw17490558080267832334:=Q
def tw17497141287410881647:=Q
def tw17500500812825720847:=Q
def tw17507828876204364015:=Q
def tw17555987711127078932:=Q
def tw17574344180669450914:=Q
def tw17587594930251044021:=Q
def tw1760018122718452221:=Q
def tw17650303704168631229:=Q
def tw17672663378700645691:=Q
def tw17683049715348982034:=Q
def tw17703780371745439267:=Q
def tw17728746296257813022:=Q
def tw17741354017255836311:=Q
def tw1774640439865385762:=Q
def tw17763149959924227138:=Q
def tw17794100473764006564:=Q
def tw17801924695176629760:=Q
def tw17862038414233862518:=Q
def tw17871753966901439190:=Q
def tw17884241085155645454:=Q
def tw17887430522058244826:=Q
def tw17891652357850948865:=Q
def tw17902357914389924625:=Q
def tw17903892372140521754:=Q
def tw17936045577029957391:=Q
def tw17952411262535887751:=Q
def tw17988217380994845608:=Q
def tw18032918487064274788:=Q
def tw18037997609957828236:=Q
def tw18056941666395608111:=Q
def tw180727701251372165:=Q
def tw18088528763017907089:=Q
def tw18146391741525531390:=Q
def tw18186746643931080451:=Q
def tw18216838053284237860:=Q
def tw18225023173021707498:=Q
def tw18227640130647174490:=Q
def tw1824262018699765664:=Q
def tw18248364802804070793:=Q
def tw18262688658456145173:=Q
def tw18275121485548418799:=Q
def tw18286814210243899536:=Q
def tw18334504891586110459:=Q
def tw18344036580087630720:=Q
def tw18350376289543098360:=Q
def tw18384367388166964975:=Q
def tw18384530834338236378:=Q
def tw18386768087617083531:=Q
def tw18422152329240806432:=Q
def tw1847882132507297297:=Q
def tw1876365602130760737:=Q
def tw1895051824916600982:=Q
def tw1938742976164063347:=Q
def tw1950929842633181175:=Q
def tw1955527669513737640:=Q
def tw1974255758888788011:=Q
def tw1987896055597796593:=Q
def tw1989785917298296571:=Q
def tw1994969865852494030:=Q
def tw2010339090843115778:=Q
def tw2019567468329633756:=Q
def tw2046310443100411602:=Q
def tw2053312772130240852:=Q
def tw2068404671329502602:=Q
def tw2089000993821247431:=Q
def tw2108163706208746557:=Q
def tw2137761021308273306:=Q
def tw2170309977562516532:=Q
def tw2237879474138820632:=Q
def tw2275995410452894138:=Q
def tw2309139687369144278:=Q
def tw2322277425705672333:=Q
def tw2332856925654407669:=Q
def tw2345595687207429561:=Q
def tw2360807192837423614:=Q
def tw2364902525521267311:=Q
def tw237883132507676388:=Q
def tw2400580242291244738:=Q
def tw2401285676783859649:=Q
def tw2407038702708427340:=Q
def tw2410214372651423594:=Q
def tw2421460673201063651:=Q
def tw2460998741303913489:=Q
def tw2478103895172044216:=Q
def tw2488812260892320742:=Q
def tw2494340755505455009:=Q
def tw2499787260941130084:=Q
def tw2520771956601749218:=Q
def tw2523152460819965048:=Q
def tw2586678472405805118:=Q
def tw2617274294126121595:=Q
def tw2618591059429110556:=Q
def tw266194494931842121:=Q
def tw2683313544124002664:=Q
def tw2684352513451830456:=Q
def tw2704040570056733984:=Q
def tw2716700884245887849:=Q
def tw2740866198768923004:=Q
def tw2835958863099151963:=Q
def tw2849219105224669358:=Q
def tw2880248173024457833:=Q
def tw2901573757334664978:=Q
def tw2905271175425006484:=Q
def tw2912918488241797535:=Q
def tw2931536840467052128:=Q
def tw297286575773364172:=Q
def tw2984019811744999268:=Q
def tw3012906320681321091:=Q
def tw3033229760052818967:=Q
def tw3064612131640256989:=Q
def tw3077387483952033538:=Q
def tw3133038424899969065:=Q
def tw316234460414622981:=Q
def tw317331078149954534:=Q
def tw3240149749173078562:=Q
def tw3264703197865867486:=Q
def tw3293894175214125310:=Q
def tw3310496454931975165:=Q
def tw3317153431780450565:=Q
def tw3324216866731789567:=Q
def tw3332399236753833387:=Q
def tw334197475138933730:=Q
def tw3343805360802872411:=Q
def tw3345766432785468563:=Q
def tw3359797789003929639:=Q
def tw3373133242141245400:=Q
def tw3374086683116600933:=Q
def tw3383437823838036571:=Q
def tw3436784539988365729:=Q
def tw3463278122739737701:=Q
def tw3513308553397858131:=Q
def tw35146269462378071:=Q
def tw353183539673634589:=Q
def tw3540625066287614276:=Q
def tw3602957954884364820:=Q
def tw3613046134743443387:=Q
def tw3639861736668626857:=Q
def tw3645566319610368939:=Q
def tw36533840189353517:=Q
def tw3666120951926031253:=Q
def tw3671693376548990890:=Q
def tw3671998587821781725:=Q
def tw369726825718272546:=Q
def tw3719455669022239593:=Q
def tw3719745767144724275:=Q
def tw3734575108842130561:=Q
def tw3741487787130972095:=Q
def tw3742245936232341832:=Q
def tw3742560679160608533:=Q
def tw3743393888439209391:=Q
def tw3744995263058975885:=Q
def tw3769317288124447602:=Q
def tw379354783271853520:=Q
def tw3911362725044845116:=Q
def tw3915467659704221278:=Q
def tw3922998208794329915:=Q
def tw3927405991664023174:=Q
def tw3938207203268482293:=Q
def tw3950749544612779900:=Q
def tw3962981398130319652:=Q
def tw398634735228630021:=Q
def tw3994790891365946295:=Q
def tw4015724939715635488:=Q
def tw4018462261757089425:=Q
def tw4069080290779657687:=Q
def tw4103308277051176938:=Q
def tw416164846904661124:=Q
def tw4184610170842853111:=Q
def tw4186259163939753266:=Q
def tw4210704194066798442:=Q
def tw428552307406544157:=Q
def tw43178217948153590:=Q
def tw4355245023247639648:=Q
def tw4356039413583219330:=Q
def tw4372608989860203048:=Q
def tw4427785792594902849:=Q
def tw4431280024791154221:=Q
def tw4439132385316564424:=Q
def tw4473818723362666747:=Q
def tw4482608186711936410:=Q
def tw449057276321359863:=Q
def tw4497902478455823068:=Q
def tw452311171020308126:=Q
def tw4533605519580176183:=Q
def tw454710034376042594:=Q
def tw4561706162033717090:=Q
def tw4567847514528289761:=Q
def tw4578051144629015395:=Q
def tw4578277846577625635:=Q
def tw4619922416147438121:=Q
def tw4625996652777347819:=Q
def tw4638234428288794348:=Q
def tw4645827163427659260:=Q
def tw4661132749421641574:=Q
def tw4750170571924888229:=Q
def tw4755760068477501299:=Q
def tw4761993012829454864:=Q
def tw4768963843365215842:=Q
def tw4779300609992172028:=Q
def tw4804634879220727844:=Q
def tw4814897089741457407:=Q
def tw4825145627010287399:=Q
def tw4898296081578372120:=Q
def tw4902373937539299613:=Q
def tw4926999409447150108:=Q
def tw4988156164775962057:=Q
def tw4992616300673981822:=Q
def tw5009332174136207707:=Q
def tw5017508141721828111:=Q
def tw5018702312012605016:=Q
def tw5072348902626343617:=Q
def tw5107716383510674109:=Q
def tw5133394334466602526:=Q
def tw5138546828576959122:=Q
def tw5159863144778623387:=Q
def tw5176929278521285384:=Q
def tw5176958177840552059:=Q
def tw5203044127686786101:=Q
def tw5248554851106178176:=Q
def tw5256068995046243133:=Q
def tw526524921777901587:=Q
def tw5268495753896432173:=Q
def tw5281902071451410519:=Q
def tw5304406039043129927:=Q
def tw532067661829557633:=Q
def tw5328561745580719338:=Q
def tw5343294769035031660:=Q
def tw5346731743892404110:=Q
def tw5361262671956553402:=Q
def tw536515965749229475:=Q
def tw5394425947400517309:=Q
def tw5406635569163942523:=Q
def tw5424042258314649453:=Q
def tw5424828547735635190:=Q
def tw5455992036269146572:=Q
def tw5481558174517915405:=Q
def tw5483527365881202388:=Q
def tw5486188320215816119:=Q
def tw5533291221346270915:=Q
def tw5533649761599225476:=Q
def tw5577090923833928149:=Q
def tw5577458158968526896:=Q
def tw5596011774679249509:=Q
def tw5598513933685234895:=Q
def tw5685040365808337561:=Q
def tw5693010157650852041:=Q
def tw5696584126989219996:=Q
def tw5717537964359002869:=Q
def tw5719720563021536088:=Q
def tw5760237694784726259:=Q
def tw5776240478688473142:=Q
def tw5777646337209965949:=Q
def tw5844841733212917264:=Q
def tw5875277474719502226:=Q
def tw5895232133369797585:=Q
def tw5896582525699492660:=Q
def tw5909767350269586660:=Q
def tw5926203403583276539:=Q
def tw595149258976093974:=Q
def tw5952320109436802551:=Q
def tw598342768417001047:=Q
def tw6003109201125296400:=Q
def tw6027329708332201590:=Q
def tw6066906175258757405:=Q
def tw6073874768124702209:=Q
def tw6092594182468973964:=Q
def tw6096260527540844632:=Q
def tw6104420837371494677:=Q
def tw6139398140104415479:=Q
def tw6160331180634716864:=Q
def tw6160952615977139991:=Q
def tw6162815057362932273:=Q
def tw6176832422395149781:=Q
def tw6188900424222761880:=Q
def tw6231174246701785207:=Q
def tw6239726620806103041:=Q
def tw6258788319722751229:=Q
def tw6277915594502565707:=Q
def tw6278256413582486747:=Q
def tw62817071159141657:=Q
def tw6284666945549711819:=Q
def tw6286701003063397412:=Q
def tw6301303159368692901:=Q
def tw6319057919173968987:=Q
def tw6319443426530033330:=Q
def tw6321397673506942666:=Q
def tw6343962569255237192:=Q
def tw6357125031604570304:=Q
def tw6359834150135568381:=Q
def tw6384707115523354469:=Q
def tw6388762488662963738:=Q
def tw6406683413358832519:=Q
def tw6407280330767231599:=Q
def tw6411074561163235973:=Q
def tw6415863683594284384:=Q
def tw6431547055148718903:=Q
def tw6438993312422334959:=Q
def tw6458583991018140482:=Q
def tw6470059701906093001:=Q
def tw6472736625771238816:=Q
def tw6527895368519164153:=Q
def tw6598834571561056504:=Q
def tw6667336134390923175:=Q
def tw6687593696540064702:=Q
def tw669529775720211927:=Q
def tw6700525133437956381:=Q
def tw6706298053578965042:=Q
def tw6710043764947789317:=Q
def tw6716037605005881556:=Q
def tw6735186974231292468:=Q
def tw6743399150914354004:=Q
def tw6743454986314417570:=Q
def tw6780023351652848794:=Q
def tw678695639785464025:=Q
def tw6801584791048208206:=Q
def tw6827529841904784383:=Q
def tw6855935738240851535:=Q
def tw6883319126385854807:=Q
def tw6902022528559851388:=Q
def tw694107240305924003:=Q
def tw6948070691057673242:=Q
def tw6950829837221153173:=Q
def tw6962158623987039047:=Q
def tw6969929256727505342:=Q
def tw7000638441602501565:=Q
def tw7041192302875878088:=Q
def tw7053112709510930298:=Q
def tw707394881003384763:=Q
def tw709401734811267292:=Q
def tw7102749517898943135:=Q
def tw711045562872897100:=Q
def tw7124082276749447778:=Q
def tw7129993455267811833:=Q
def tw7148498673370069514:=Q
def tw7171813769893889935:=Q
def tw71871016703032207:=Q
def tw7187453996259704057:=Q
def tw7191300588032112012:=Q
def tw720048985117092683:=Q
def tw7202661767309036498:=Q
def tw722909796453391426:=Q
def tw723775184970258311:=Q
def tw7239486088361724816:=Q
def tw7251077067990134899:=Q
def tw7252375970282122276:=Q
def tw72548040235858195:=Q
def tw7277503720903039091:=Q
def tw7315342287209318681:=Q
def tw7332696319691463813:=Q
def tw7367891464070397816:=Q
def tw7448311478167472349:=Q
def tw7480441037227292694:=Q
def tw7519447165164918644:=Q
def tw7561162060807728757:=Q
def tw7589022974466796653:=Q
def tw7653747521597606905:=Q
def tw76557273343860646:=Q
def tw7677445951903687501:=Q
def tw7683072495178072309:=Q
def tw7717858597969648192:=Q
def tw774537111314507708:=Q
def tw7753454696570792342:=Q
def tw7755925031637043711:=Q
def tw7782231609309554840:=Q
def tw7814219604701259448:=Q
def tw7824945534568233705:=Q
def tw7877473251731046517:=Q
def tw7904848892121921071:=Q
def tw7906619150344989868:=Q
def tw7916098514135016658:=Q
def tw7979195361876754073:=Q
def tw7981859588351337538:=Q
def tw7982105721930333985:=Q
def tw8002860558682555532:=Q
def tw8026909438602337248:=Q
def tw802999989945751409:=Q
def tw8031461676494975175:=Q
def tw8042444663650691378:=Q
def tw8046639462629548756:=Q
def tw8061874800655060087:=Q
def tw8093666860658330333:=Q
def tw813152742740357381:=Q
def tw8133279128370603766:=Q
def tw8162119830537715982:=Q
def tw8194276747784903359:=Q
def tw825024214400203442:=Q
def tw8262981096865556139:=Q
def tw8278427306814019440:=Q
def tw828233163653750051:=Q
def tw8283387772662672060:=Q
def tw828481501315016700:=Q
def tw8286192612813182433:=Q
def tw8317839676071136574:=Q
def tw833534041095428469:=Q
def tw8377698048805319663:=Q
def tw8417957817947600083:=Q
def tw8435580972342188296:=Q
def tw8447951681297822780:=Q
def tw8450903000208305430:=Q
def tw8479265121820013314:=Q
def tw8488857300889912139:=Q
def tw8505703917921185100:=Q
def tw853050173206123699:=Q
def tw8558451131310851633:=Q
def tw8588712707981000077:=Q
def tw8611570217358432285:=Q
def tw8626847466067200444:=Q
def tw8642229566171844987:=Q
def tw8655677561995267948:=Q
def tw8663841304813870718:=Q
def tw8673780351617150652:=Q
def tw8674451068945905796:=Q
def tw8707521844947415011:=Q
def tw875845439965214148:=Q
def tw8770422484431891525:=Q
def tw8803928513448147707:=Q
def tw8831129271536280355:=Q
def tw8835286162183134080:=Q
def tw8848732435028643751:=Q
def tw8911945441514992451:=Q
def tw8923780469472415307:=Q
def tw8952989045089720965:=Q
def tw8963674003954696428:=Q
def tw8993549730508511049:=Q
def tw899524153872216980:=Q
def tw904872943832563006:=Q
def tw9050385031256696474:=Q
def tw9060986964490993594:=Q
def tw9101613543888325878:=Q
def tw9125032318281840227:=Q
def tw9145868934407436204:=Q
def tw9193578243204914896:=Q
def tw9208739791758875958:=Q
def tw9210088055348652485:=Q
def tw9235468821291284273:=Q
def tw926149559177713628:=Q
def tw9298369826480006421:=Q
def tw933174572902032351:=Q
def tw9335429533694032524:=Q
def tw938598003726883367:=Q
def tw9389726134826730865:=Q
def tw9400822136677100314:=Q
def tw9405006897456675018:=Q
def tw9412261130676878295:=Q
def tw9414069875668273975:=Q
def tw9425834649680916530:=Q
def tw9488166406229059484:=Q
def tw9501533586654442085:=Q
def tw9516166812533166184:=Q
def tw9518473192203466474:=Q
def tw9519175709443633179:=Q
def tw9537343504583849017:=Q
def tw9541762816185238653:=Q
def tw9548612293107500160:=Q
def tw9569490288653891628:=Q
def tw9577656444336256182:=Q
def tw9580761342146247351:=Q
def tw9588727503463883307:=Q
def tw9606793866737139092:=Q
def tw9632300024471291153:=Q
def tw9648451722997450358:=Q
def tw9684358406454099968:=Q
def tw9693971970359761975:=Q
def tw9706730075299152519:=Q
def tw9714124365566783902:=Q
def tw9717350693334031687:=Q
def tw9723932453474266254:=Q
def tw9749647428077760151:=Q
def tw9752281259333451916:=Q
def tw9765901214358304226:=Q
def tw9770628165066842978:=Q
def tw9783479421825847778:=Q
def tw9808618840127174647:=Q
def tw9832437990376892271:=Q
def tw9855946101960511173:=Q
def tw9858901932344555765:=Q
def tw9872915125486910119:=Q
def tw9908433901013953137:=Q
def tw9933635008966668784:=Q
def tw9936073241332653823:=Q
end PySem.W.Fast
open PySem PySem.W PyProof.Rows
set_option maxRecDepth 100000 in
set_option maxHeartbeats 0 in
theorem PySem.Challenge.cw_nearstairs_k60_whole_the_last_word_told_holds : PySem.Challenge.rw_nearstairs_k60_whole_the_last_word_told.Holds := by
 w_on; o_law; k_head; (case hw=>w_witness2)
 k_fill
 refine m9.walk (l:=PySem.Challenge.rw_nearstairs_k60_whole_the_last_word_told) rfl rfl (λw h Y=>⟨PySem.W.km_in_of Y,PySem.W.km_tabs_of Y _ mem_cons_self⟩) ?F
 case F =>
  intro w mg fa h KX G hmg
  refine' m9.UL KX G hmg ?_ ?_ ?_ ?_ ?_ ?_ ?_ ?_ ?_ ?_ ?_ ?_ ?_ ?_ ?_ ?_ ?_ ?_ ?_ ?_ ?_ ?_ ?_ ?_ ?_ ?_ ?_ ?_ ?_ ?_ ?_ ?_ ?_ ?_ ?_ ?_ ?_ ?_ ?_ ?_ ?_ ?_ ?_ ?_ ?_ ?_ ?_ ?_ ?_ ?_ ?_ ?_ ?_ ?_ ?_ ?_ ?_ ?_ ?_ ?_ ?_ ?_ ?_ ?_ ?_ ?_ ?_ ?_ ?_ ?_ ?_ ?_ ?_ ?_ ?_ ?_ ?_ ?_ ?_ ?_ ?_ ?_ ?_ ?_ ?_ ?_ ?_ ?_ ?_ ?_ ?_ ?_ ?_ ?_ ?_ ?_ ?_ ?_ ?_ ?_ ?_ ?_ ?_ ?_ ?_ ?_ ?_ ?_ ?_ ?_ ?_ ?_ ?_ ?_ ?_ ?_ ?_ ?_ ?_ ?_ ?_ ?_ ?_ ?_ ?_ ?_ ?_ ?_ ?_ ?_ ?_ ?_ ?_ ?_ ?_ ?_ ?_ ?_ ?_ ?_ ?_ ?_ ?_ ?_ ?_ ?_ ?_ ?_ ?_ ?_
  all_goals try refine' m9.j7.mk ?_ ?_ ?_ ?_
  all_goals try refine' m9.bY.mk ?_ ?_ ?_ ?_ ?_
  all_goals try k_is
  all_goals kernel_rfl
