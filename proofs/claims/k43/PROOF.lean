import PyProof.Rows.All
import Wide.All
import OpenK.AllK
import Wide.FinOn
import Lean
import PyProof.EqAt
import PyProof.EqKinds
import PyProof.TupleCall
import KE.KDictSum
import KE.KTryDeep
import KE.KTryMore
import PyProof.NsDelKeeps
import PyProof.FString
import PyProof.Rows.SetFrom
import KE.KItemsList
import PySem.Challenge.RW_nearstairs_k43_beside_begun_anew
open List (all_cons all_eq_true any_cons append_assoc append_nil drop_drop drop_of_length_le drop_sublist drop_take erase_cons_head filter_cons find?_cons getD_eq_getElem?_getD getElem?_append_left getElem?_append_right getElem?_drop getElem?_eq_getElem getElem?_eq_none getElem?_eq_some_iff getElem?_map getElem?_range getElem?_replicate getElem?_set_ne getElem?_set_self getElem_drop getElem_mem getElem_take length_append length_cons length_drop length_filter_le length_map length_range length_replicate length_set length_singleton length_take map_append map_congr_left map_cons map_id map_map map_nil map_set mem_append mem_append_left mem_append_right mem_cons mem_cons_of_mem mem_cons_self mem_erase_of_ne mem_filter mem_iff_getElem mem_map mem_map_of_mem mem_of_getElem? mem_of_mem_erase mem_range mem_replicate mem_singleton nodup_cons nodup_nil not_mem_nil pairwise_append pairwise_cons pairwise_iff_getElem pairwise_map take_append_drop take_of_length_le take_zero)
set_option Elab.async false
set_option compiler.extract_closed false
set_option linter.all false
set_option maxRecDepth 100000
abbrev aYW:=@if_neg
abbrev bb9:=@if_pos
abbrev aHI:=@PySem.wpAny_bind
abbrev aDN:=@Nat.le_refl
abbrev aIi:=@PySem.Heap.get?_push_of_some
abbrev aRj:=@PyProof.Rows.wpS_bind
abbrev aUH:=@List.length_map
abbrev aK1:=@List.getElem?_eq_some_iff
abbrev aVv:=@PyProof.Rows.wpS_pure
abbrev aSe:=@PySem.Heap.lt_size
abbrev aJu:=@List.getElem?_eq_getElem
abbrev aXI:=@Bool.false_ne_true
abbrev ag7:=@PySem.wpAny_pure
abbrev a6S:=@Option.some.inj
abbrev a3a:=@PySem.Heap.get?_push_size
abbrev axK:=@List.mem_of_getElem?
abbrev a7V:=@Bool.false_eq_true
abbrev auj:=@Nat.le_trans
abbrev ahz:=@List.size_toArray
abbrev anq:=@Nat.ne_of_lt
abbrev aAe:=@List.length_append
abbrev aI4:=@Ne.symm
abbrev aLz:=@Array.length_toList
abbrev aJm:=@List.getElem?_map
abbrev akH:=@Array.getElem?_eq_getElem
abbrev awk:=@List.mem_cons
abbrev a6M:=@Nat.lt_of_lt_of_le
abbrev a9k:=@Nat.zero_le
abbrev a60:=@List.mem_singleton
abbrev a8M:=@bind_congr
abbrev asq:=@List.mem_cons_of_mem
abbrev ahk:=@PySem.sizeLine_eq
abbrev aRD:=@List.getElem?_append_right
abbrev a6t:=@decide_eq_true
abbrev aq5:=@List.mem_cons_self
abbrev aOW:=@List.getElem?_append_left
abbrev aNA:=@PyProof.Rows.wpS_forRange
abbrev agd:=@List.getD_eq_getElem?_getD
abbrev ais:=@List.mem_append
abbrev aha:=@List.not_mem_nil
abbrev ayO:=@PySem.wpAny_mono
abbrev azU:=@if_false
abbrev a5c:=@decide_eq_false
abbrev baP:=@List.mem_append_right
abbrev a5E:=@congrArg
abbrev aXl:=@Nat.lt_irrefl
abbrev aIO:=@List.map_append
abbrev acr:=@Array.getElem?_toList
abbrev aLv:=@List.perm_append_comm
abbrev akX:=@Sum.inl.inj
abbrev aIT:=@Array.toList_append
abbrev apc:=@PyProof.Rows.wpS_mono
abbrev atw:=@List.mem_cons
abbrev aqQ:=@or_false
abbrev a6H:=@PySem.W.mg_none_of
abbrev awR:=@PyProof.Rows.callWith_type1
abbrev aoN:=@PySem.F.plainAttrs_list
abbrev aEp:=@if_true
abbrev aP5:=@List.append_assoc
abbrev aav:=@List.getElem?_eq_none
abbrev ar1:=@List.mem_map_of_mem
abbrev afM:=@List.Nodup.mem_erase_iff
abbrev a23:=@List.length_cons
abbrev a6A:=@List.nodup_cons
abbrev aX0:=@decide_eq_false_iff_not
abbrev acI:=@List.lookup_cons
abbrev aSD:=@List.map_cons
abbrev aP2:=@List.getElem?_set_ne
abbrev aaO:=@PySem.PassesOwn.never
abbrev aC1:=@List.eq_nil_of_length_eq_zero
abbrev aS5:=@Nat.le_of_lt
abbrev aGd:=@PySem.F.slot_list_append
abbrev adS:=@PySem.F.type_list_append
abbrev aoM:=@List.length_take
abbrev aGu:=@PySem.wpAny_rule
abbrev a2Z:=@PySem.Heap.size_push
abbrev bb6:=@List.getElem?_set_self
abbrev aOv:=@PySem.wpAny_truthy_bool
abbrev aAa:=@decide_eq_true_eq
abbrev ahE:=@List.mem_append_left
abbrev aHs:=@Nat.ne_of_gt
abbrev aJW:=@PySem.wpAny_field
abbrev aZP:=@Int.le_refl
abbrev agt:=@Int.le_trans
abbrev auF:=@List.mem_map
abbrev aOb:=@PySem.wpAny_holding
abbrev a0l:=@Array.perm_iff_toList_perm
abbrev aEo:=@PyProof.Rows.wpS_modify
abbrev aOg:=@List.length_singleton
abbrev a4Y:=@PySem.Calls.spliced_cons
abbrev aUu:=@Int.emod_lt_of_pos
abbrev aI1:=@decide_false
abbrev aNM:=@List.pairwise_append
abbrev aqY:=@Array.getElem_toList
abbrev aK0:=@Nat.lt_succ_of_lt
abbrev aAb:=@beq_eq_false_iff_ne
abbrev aeR:=@Bool.and_eq_true
abbrev aM9:=@PySem.wpAny_call_entry
abbrev aqU:=@PyProof.Rows.wpS_get
abbrev aZE:=@List.length_set
abbrev aim:=@PySem.Calls.callWith_builtin
abbrev alo:=@decide_true
abbrev a3C:=@PyProof.Rows.assignInOrder_cons
abbrev aOj:=@Nat.lt_of_le_of_lt
abbrev a8y:=@Option.map_some
abbrev a7i:=@List.erase_cons_head
abbrev aA2:=@Int.emod_nonneg
abbrev axw:=@PySem.F.slot_tuple_iterator_next
abbrev aoa:=@List.perm_ext_iff_of_nodup
abbrev aV5:=@PySem.wpAny_newObj_type
abbrev a4b:=@List.ext_getElem?
abbrev azI:=@List.drop_of_length_le
abbrev a6T:=@Array.toList_push
abbrev arV:=@beq_iff_eq
abbrev aLG:=@List.pairwise_iff_getElem
abbrev a12:=@List.drop_eq_getElem_cons
abbrev a66:=@PySem.W.kia_one
abbrev ae9:=@PySem.wpAny_seqItems
abbrev a5u:=@PySem.boot_len
abbrev afd:=@List.mem_of_mem_erase
abbrev agm:=@PyProof.Rows.boot_sorted
abbrev aq7:=@PySem.mem_of_lookup
abbrev abh:=@PySem.F.plainAttrs_dict
abbrev aLB:=@PySem.wpAny_callSpecial?_slot
abbrev aMl:=@PySem.Paired.length
abbrev aAq:=@PyProof.Rows.listUpdate_at
abbrev aKQ:=@List.append_nil
abbrev agp:=@PySem.wpAny_Call_Name_kw
abbrev a0C:=@PySem.W.kia_tup
abbrev aPC:=@PySem.wpAny_setField_rec
abbrev a38:=@List.pairwise_cons
abbrev a8K:=@List.length_drop
abbrev aTy:=@List.filter_cons
abbrev asa:=@PyProof.Rows.wpS_reverse
abbrev aIm:=@PyProof.Rows.mirror_perm
abbrev ai0:=@List.getElem_mem
abbrev a4X:=@PySem.Calls.spliced_nil
abbrev aj9:=@PySem.Heap.get?_push_ne
abbrev aB5:=@Bool.not_eq_true'
abbrev aoo:=@List.map_congr_left
abbrev awE:=@PySem.F.slot_dict_pop
abbrev aur:=@List.Pairwise.sublist
abbrev asY:=@List.length_replicate
abbrev ahG:=@PySem.Calls.evalArgs_plain
abbrev ah2:=@PySem.wpAny_pyIter_zip
abbrev aaL:=@List.take_append_drop
abbrev aza:=@Array.toList_extract
abbrev aoU:=@List.mem_iff_getElem
abbrev aSN:=@PySem.wpAny_standAt
abbrev bd9:=@PySem.wpAny_newList
abbrev aKK:=@PySem.wpAny_passesOwn
abbrev a26:=@List.mem_or_eq_of_mem_set
abbrev aV2:=@List.getElem?_replicate
abbrev aEc:=@Nat.lt_trans
abbrev aV9:=@PySem.tupleKind_room_in1
abbrev ajJ:=@Nat.zero_add
abbrev aTX:=@List.mem_replicate
abbrev arL:=@List.length_range
abbrev alC:=@List.mem_range
abbrev ah4:=@PySem.wpAny_bindName
abbrev aWR:=@List.getElem?_range
abbrev a5w:=@List.find?_cons
abbrev aRC:=@List.eraseIdx_cons_succ
abbrev aM6:=@List.getElem?_cons_succ
abbrev aAh:=@List.take_of_length_le
abbrev aQO:=@List.all_eq_true
abbrev aC0:=@Int.add_mul_ediv_right
abbrev aKc:=@Int.ediv_eq_zero_of_lt
abbrev ayk:=@Bool.not_true
abbrev aaN:=@List.length_filter_le
abbrev al3:=@PySem.F.slot_dict_get
abbrev bbs:=@Array.getElem_extract
abbrev aiU:=@List.erase_of_not_mem
abbrev am9:=@Int.mul_ediv_add_emod
abbrev aEE:=@Nat.le_of_ble_eq_true
abbrev a68:=@List.mem_filter
abbrev apj:=@Bool.eq_iff_iff
abbrev ad7:=@List.forIn_cons
abbrev aks:=@List.getElem?_of_mem
abbrev aE8:=@Array.Perm.refl
abbrev apg:=@Array.toList_reverse
abbrev amh:=@Nat.sub_self
abbrev aUK:=@List.replicate_succ'
namespace L2
open PySem PySem.Spec PyProof.Rows
abbrev Key:=Sum Int Str
def jF:Key->Value->Bool
 | .inl k,v=>Value.isInt k v
 | .inr x,v=>Value.isStrOf x v
def Gp (w:World):Key->Int
 | .inl k=>hashInt k
 | .inr x=>hashStr w x
theorem ZC:∀ {k:Key} {v:Value},jF k v=true->(∃ i t,k=Sum.inl i/\v=Value.int i t)\/(∃ x t,k=Sum.inr x/\v=Value.str x t)
 | .inl i,v,h=>by
  obtain ⟨t,e⟩:=Value.isInt_shape (k:=i) (v:=v) h
  exact .inl ⟨i,t,rfl,e⟩
 | .inr x,v,h=>by
  obtain ⟨t,e⟩:=Value.isStrOf_shape (x:=x) (v:=v) h
  exact .inr ⟨x,t,rfl,e⟩
theorem Z9 (i:Int) (t:Tok):jF (.inl i) (.int i t)=true:=by simp [jF,Value.isInt]
theorem Z8 (x:Str) (t:Tok):jF (.inr x) (.str x t)=true:=by simp [jF,Value.isStrOf]
theorem WZ (a b:Int):decide ((Sum.inl a:Key)=Sum.inl b)=(a == b):=by
 by_cases e:a=b
 .subst e; simp
 .have h:¬ (Sum.inl a:Key)=Sum.inl b:=λq=>e (akX q)
  rw [a5c h]
  exact (aAb.mpr e).symm
theorem WY (a b:Str):decide ((Sum.inr a:Key)=Sum.inr b)=decide (a=b):=by
 by_cases e:a=b
 .subst e; simp
 .have h:¬ (Sum.inr a:Key)=Sum.inr b:=λq=>e (Sum.inr.inj q)
  rw [a5c h,a5c e]
theorem WX (a:Int) (b:Str):decide ((Sum.inl a:Key)=Sum.inr b)=false:=a5c (λq=>nomatch q)
theorem WW (a:Str) (b:Int):decide ((Sum.inr a:Key)=Sum.inl b)=false:=a5c (λq=>nomatch q)
def Zv (prog:Program) (w:World):PySem.KeyKind prog w Key where
 is:=jF
 hash:=Gp w
 inj:=λv a b ha hb=>by
  rcases ZC ha with ⟨i,t,rfl,rfl⟩ | ⟨x,t,rfl,rfl⟩
  .rcases ZC hb with ⟨j,u,rfl,e⟩ | ⟨y,u,rfl,e⟩
   .injection e with e1 _; rw [e1]
   .exact nomatch e
  .rcases ZC hb with ⟨j,u,rfl,e⟩ | ⟨y,u,rfl,e⟩
   .exact nomatch e
   .injection e with e1 _; rw [e1]
 byValue:=λk v h=>by
  rcases ZC h with ⟨i,t,rfl,rfl⟩ | ⟨x,t,rfl,rfl⟩ <;> rfl
 pyHash:=λhv h=>by
  rcases ZC hv with ⟨i,t,rfl,rfl⟩ | ⟨x,t,rfl,rfl⟩
  .exact wpAny_pyHash_int h
  .exact wpAny_pyHash_str h
 eqBool:=λhu hv h=>by
  rcases ZC hu with ⟨i,t,rfl,rfl⟩ | ⟨x,t,rfl,rfl⟩
  .rcases ZC hv with ⟨j,u,rfl,rfl⟩ | ⟨y,u,rfl,rfl⟩
   .rw [WZ] at h; exact wpAny_eqBool_int h
   .rw [WX] at h; exact SeqAt.EqAt.int_str i t y u _ _ _ _ h
  .rcases ZC hv with ⟨j,u,rfl,rfl⟩ | ⟨y,u,rfl,rfl⟩
   .rw [WW] at h; exact SeqAt.EqAt.str_int x t j u _ _ _ _ h
   .rw [WY] at h; exact wpAny_eqBool_str h
 «strs»:=λk x t v h=>by
  rcases ZC h with ⟨i,u,rfl,e⟩ | ⟨y,u,rfl,e⟩
  .exact nomatch e
  .injection e with e1 _
   subst e1
   cases v <;> rfl
theorem Z4 (prog:Program) (w:World) (k:Key) (v:Value):(Zv prog w).is k v=jF k v:=rfl
theorem Zhn (prog:Program) (w:World) (i:Int) (t:Tok):(Zv prog w).is (.inl i) (.int i t)=true:=Z9 i t
theorem Zho (prog:Program) (w:World) (x:Str) (t:Tok):(Zv prog w).is (.inr x) (.str x t)=true:=Z8 x t
inductive V where
 | aR | bl (b:Bool) | int (i:Int) | str (x:Str) | oZ (b:Array UInt8) | tN (b:UInt64) | ref (a:Addr) | ty (n:String)
 deriving DecidableEq
def RelV:V->Value->Prop
 | .aR,u=>u=Value.none
 | .bl b,u=>u=Value.bool b
 | .int i,u=>∃ t,u=Value.int i t
 | .str x,u=>∃ t,u=Value.str x t
 | .oZ b,u=>∃ t,u=Value.bytes b t
 | .tN b,u=>∃ t,u=Value.float b t
 | .ref a,u=>u=Value.ref a
 | .ty n,u=>u=Value.type n
abbrev Vals:List V->List Value->Prop:=Paired RelV
theorem Vals.length {xs:List V} {us:List Value} (r:Vals xs us):xs.length=us.length:=aMl r
theorem Vals.get:∀ {xs:List V} {us:List Value} {i:Nat} {x:V},Vals xs us->xs[i]?=some x->∃ u,us[i]?=some u/\RelV x u
 | _,_,_,_,.nil,e=>by simp at e
 | _,_,0,_,.cons r _,e=>by simp at e; subst e; exact ⟨_,rfl,r⟩
 | _,_,i+1,x,.cons _ t,e=>by
  obtain ⟨u,h1,h2⟩:=Vals.get (i:=i) (x:=x) t (by simpa using e)
  exact ⟨u,by simpa using h1,h2⟩
theorem Vals.set {x:V} {u:Value} (r:RelV x u):∀ {xs:List V} {us:List Value} (i:Nat),Vals xs us->Vals (xs.set i x) (us.set i u)
 | _,_,_,.nil=>.nil
 | _,_,0,.cons _ t=>.cons r t
 | _,_,i+1,.cons q t=>.cons q (Vals.set r i t)
theorem Vals.append:∀ {xs ys:List V} {us ws:List Value},Vals xs us->Vals ys ws->Vals (xs++ys) (us++ws)
 | _,_,_,_,.nil,s=>s
 | _,_,_,_,.cons r t,s=>.cons r (Vals.append t s)
theorem Vals.take:∀ {xs:List V} {us:List Value} (n:Nat),Vals xs us->Vals (xs.take n) (us.take n)
 | _,_,0,_=>.nil
 | _,_,_+1,.nil=>.nil
 | _,_,n+1,.cons r t=>.cons r (Vals.take n t)
theorem Vals.drop:∀ {xs:List V} {us:List Value} (n:Nat),Vals xs us->Vals (xs.drop n) (us.drop n)
 | _,_,0,r=>r
 | _,_,_+1,.nil=>.nil
 | _,_,n+1,.cons _ t=>Vals.drop n t
def dS:Option V->Option Value->Prop
 | some v,some u=>RelV v u
 | none,none=>True
 | _,_=>False
def KV {κ:Type}:List (κ×V)->List (κ×Value)->Prop:=Paired λ(p:κ×V) (q:κ×Value)=>p.1=q.1/\RelV p.2 q.2
def kV:Key->V
 | .inl i=>.int i
 | .inr x=>.str x
inductive HO where
  | lst (xs:List V)
  | tup (xs:List V)
  | dK (kvs:List (Key×V)) | dT (kvs:List (List Key×V))
  | set (S:Int->Bool) (n:Nat)
  | ins (C dx:Addr) (fs:List (Str×V))
  | own (x:Addr)
  | xd (fs:List (Str×V))
  | met (f x:Addr)
  | FD (lo hi:Int)
  | dz (o:Obj) (u:HO)
  | kD (pos:Pos) (qual:Str)
  | ext (φ:Heap->Prop)
abbrev Hp:=Addr->Option HO
def upd (H:Hp) (a:Addr) (o:HO):Hp:=λb=>if b=a then some o else H b
theorem Za {H:Hp} {a:Addr} {o:HO}:upd H a o a=some o:=by unfold upd; rw [bb9 rfl]
theorem Zc {H:Hp} {a b:Addr} {o:HO} (h:b≠a):upd H a o b=H b:=by unfold upd; rw [aYW h]
theorem IJ {H:Hp} {a:Addr} {o u:HO}:upd (upd H a o) a u=upd H a u:=by
 funext b; unfold upd; split <;> rfl
theorem uJ {H:Hp} {a b:Addr} {o u:HO} (h:H a=some o) (h':H b=some u) (d:o≠u):a≠b:=by
 intro e; subst e; rw [h] at h'; exact d (a6S h')
theorem Zd {H:Hp} {a b:Addr} {o:HO} (h:H a=some o) (h':H b=none):a≠b:=by
 intro e; subst e; rw [h] at h'; cases h'
section
variable (P:Program) (w:World)
def aH (H:Hp) (h:Heap) (a:Addr):HO->Prop
 | .lst xs=>xs.length<=sizeLine/\∃ (its:List Value) (n:Nat),Vals xs its/\h.get? a=some { cls:=.type "list",data:=.seq its.toArray n }
 | .tup xs=>xs.length<=sizeLine/\∃ its:List Value,Vals xs its/\IsTup h a its.toArray
 | .dK kvs=>kvs.length<=sizeLine/\(a == sysModules)=false/\∃ vs,KV kvs vs/\h.DictOf (Zv P w) a vs
 | .dT kvs=>kvs.length<=sizeLine/\(a == sysModules)=false/\∃ xs:List (List Key×Addr×Value),
   Paired (λ(p:List Key×V) (q:List Key×Addr×Value)=>p.1=q.1/\H q.2.1=some (.tup (p.1.map kV))/\RelV p.2 q.2.2) kvs xs /\
   ∃ o es ep,h.get? a=some o/\o.ExactDict/\o.data=.dict es ep/\es.toList=xs.map (entryOfKey (tupleKind (Zv P w)))/\(xs.map (·.1)).Nodup
 | .set S n=>h.SetOf (intKind P w) a S n
 | .ins C dx fs=>H dx=some (.own a)/\fs.length<=1000/\dx≠a/\h.get? a=some (W.instObj C dx) /\
   ∃ mA,h.Ns1 dx mA/\(∀ f,dS (fs.lookup f) (mA f))/\PySem.Within mA (fs.map (·.1))
 | .own _=>∃ o,h.get? a=some o
 | .xd fs=>∃ mA,h.Ns1 a mA/\∀ f,dS (fs.lookup f) (mA f)
 | .FD lo hi=>∃ t u v,h.get? a=some { cls:=.type "range",data:=.fields #[.int lo t,.int hi u,.int 1 v] }
 | .dz o u=>h.get? a=some o/\aH H h a u
 | .kD pos qual=>∃ ps,h.get? a=some { cls:=.none,data:=.fields ps }/\TriplesOk ps.toList/\∀ cv,codeAmong pos ps.toList=some cv->∃ c oc vs t,cv=.ref c/\H c=some (.dz oc (.own a))/\oc.data=.fields vs/\vs[1]?=some (.str qual t)
 | .met f x=>h.get? a=some (W.methodObj (.ref f) (.ref x))
 | .ext φ=>φ h/\(∃ o,h.get? a=some o)/\∀ h1 h2:Heap,φ h1->(∀ o,h1.get? a=some o->h2.get? a=some o)->φ h2
def fC (H:Hp) (h:Heap):Prop:=∀ a o,H a=some o->aH P w H h a o
end
section
variable {P:Program} {w:World} {H H':Hp} {h h':Heap} {a:Addr} {o:HO}
theorem aH.lt (x:aH P w H h a o):a<h.objs.size:=by
 cases o with
 | lst xs=>obtain ⟨_,_,_,_,e⟩:=x; exact aSe e
 | tup xs=>obtain ⟨_,_,_,p⟩:=x; exact p.lt
 | dK kvs=>obtain ⟨_,_,_,_,o,_,_,e,_⟩:=x; exact aSe e
 | dT kvs=>obtain ⟨_,_,_,_,o,_,_,e,_⟩:=x; exact aSe e
 | set S n=>obtain ⟨o,_,_,_,e,_⟩:=x; exact aSe e
 | ins C dx fs=>obtain ⟨_,_,_,e,_⟩:=x; exact aSe e
 | own y=>obtain ⟨_,e⟩:=x; exact aSe e
 | xd fs=>obtain ⟨_,⟨_,_,_,e,_⟩,_⟩:=x; exact aSe e
 | FD lo hi=>obtain ⟨_,_,_,e⟩:=x; exact aSe e
 | dz ob u=>obtain ⟨e,_⟩:=x; exact aSe e
 | kD p q=>obtain ⟨_,e,_⟩:=x; exact aSe e
 | met f y=>exact aSe (show h.get? a=some _ from x)
 | ext φ=>obtain ⟨_,⟨_,e⟩,_⟩:=x; exact aSe e
theorem Paired.wc {α β:Type} {F G:α->β->Prop}:∀ {l₁:List α} {l₂:List β},Paired F l₁ l₂->(∀ a b,F a b->G a b)->Paired G l₁ l₂
 | _,_,.nil,_=>.nil
 | _,_,.cons r t,f=>.cons (f _ _ r) (Paired.wc t f)
theorem aH.stay (x:aH P w H h a o) (k:∀ b u,(b=a\/H b=some (.own a))->h.get? b=some u->h'.get? b=some u)
  (ho:∀ b,H b=some (.own a)->H' b=some (.own a)) (ht:∀ b xs,H b=some (.tup xs)->H' b=some (.tup xs))
  (hz:∀ b oz,H b=some (.dz oz (.own a))->H' b=some (.dz oz (.own a)):=by exact λ_ _ q=>q):aH P w H' h' a o:=by
 induction o with
 | lst xs=>obtain ⟨z,its,n,r,e⟩:=x; exact ⟨z,its,n,r,k _ _ (.inl rfl) e⟩
 | tup xs=>obtain ⟨z,its,r,ob,e,c⟩:=x; exact ⟨z,its,r,ob,k _ _ (.inl rfl) e,c⟩
 | dK kvs=>obtain ⟨z,y,vs,r,ob,es,ep,e,c⟩:=x; exact ⟨z,y,vs,r,ob,es,ep,k _ _ (.inl rfl) e,c⟩
 | dT kvs =>
  obtain ⟨z,y,xs,r,ob,es,ep,e,c⟩:=x
  exact ⟨z,y,xs,Paired.wc r λp q z=>⟨z.1,ht _ _ z.2.1,z.2.2⟩,ob,es,ep,k _ _ (.inl rfl) e,c⟩
 | set S n=>obtain ⟨ob,es,ep,t,e,c⟩:=x; exact ⟨ob,es,ep,t,k _ _ (.inl rfl) e,c⟩
 | ins C dx fs =>
  obtain ⟨d,z,ne,e,mA,⟨od,es,ep,e2,c⟩,r⟩:=x
  exact ⟨ho _ d,z,ne,k _ _ (.inl rfl) e,mA,⟨od,es,ep,k _ _ (.inr d) e2,c⟩,r⟩
 | own y=>obtain ⟨ob,e⟩:=x; exact ⟨ob,k _ _ (.inl rfl) e⟩
 | xd fs=>obtain ⟨mA,⟨od,es,ep,e,c⟩,r⟩:=x; exact ⟨mA,⟨od,es,ep,k _ _ (.inl rfl) e,c⟩,r⟩
 | FD lo hi=>obtain ⟨t,u,v,e⟩:=x; exact ⟨t,u,v,k _ _ (.inl rfl) e⟩
 | dz ob u ih=>obtain ⟨e,q⟩:=x; exact ⟨k _ _ (.inl rfl) e,ih q⟩
 | kD p q =>
  obtain ⟨ps,e,tr,hc⟩:=x
  refine ⟨ps,k a _ (.inl rfl) e,tr,λcv e1=>?_⟩
  obtain ⟨c,oc,vs,tt,z,e2,r⟩:=hc cv e1
  exact ⟨c,oc,vs,tt,z,hz _ _ e2,r⟩
 | met f y =>
  have e:h.get? a=some (W.methodObj (.ref f) (.ref y)):=x
  show h'.get? a=some (W.methodObj (.ref f) (.ref y))
  exact k a _ (.inl rfl) e
 | ext φ=>obtain ⟨p,⟨o,e⟩,st⟩:=x; exact ⟨st _ _ p λo q=>k _ _ (.inl rfl) q,⟨o,k _ _ (.inl rfl) e⟩,st⟩
theorem fC.lt (x:fC P w H h) (e:H a=some o):a<h.objs.size:=(x a o e).lt
theorem fC.fresh (x:fC P w H h) (e:h.objs.size<=a):H a=none:=by
 cases q:H a with
 | none=>rfl
 | some u=>exact absurd (a6M (x.lt q) e) (aXl _)
theorem fC.kept (x:fC P w H h) (k:∀ b u,h.get? b=some u->h'.get? b=some u):fC P w H h':=λa o e =>
 (x a o e).stay (λb u _ q=>k b u q) (λ_ q=>q) λ_ _ q=>q
theorem fC.laid (x:fC P w H h) (k:∀ b u,h.get? b=some u->h'.get? b=some u) (hp:h.objs.size<=a) (new:aH P w (upd H a o) h' a o):fC P w (upd H a o) h':=λb u e=>by
 have hn:=x.fresh hp
 by_cases hb:b=a
 .subst hb; rw [Za] at e; cases e; exact new
 .rw [Zc hb] at e
  exact (x b u e).stay (λc v _ q=>k c v q) (λc q=>by rw [Zc (Zd q hn)]; exact q) (λc xs q=>by rw [Zc (Zd q hn)]; exact q) λc oz q=>by rw [Zc (Zd q hn)]; exact q
end
def Rd (H:Hp) (a:Addr) (u:HO):Prop:=H a=some u\/∃ o,H a=some (.dz o u)
theorem Rd.ok {P:Program} {w:World} {H:Hp} {h:Heap} {a:Addr} {u:HO} (r:Rd H a u) (x:fC P w H h):aH P w H h a u:=by
 rcases r with r | ⟨o,r⟩
 .exact x a u r
 .obtain ⟨_,q⟩:=x a _ r
  exact q
def Cg:Option HO->Prop
 | some (.lst _)=>True
 | some (.dK _)=>True
 | some (.dT _)=>True
 | some (.set _ _)=>True
 | some (.ins _ _ _)=>True
 | some (.ext _)=>True
 | _=>False
section
variable {P:Program} {w:World} {H:Hp} {h h':Heap} {x e:Addr} {o':HO}
theorem fC.write (ok:fC P w H h) (mu:Cg (H x)) (he:e=x\/H e=some (.own x)) (k:∀ b u,b≠e->h.get? b=some u->h'.get? b=some u) (yj:∃ u,h'.get? e=some u)
  (new:aH P w (upd H x o') h' x o'):fC P w (upd H x o') h':=λb u q=>by
 have zV:∀ c y,H c=some (.own y)->c≠x:=λc y r z=>by subst z; rw [r] at mu; exact mu
 have FW:∀ c xs,H c=some (.tup xs)->c≠x:=λc xs r z=>by subst z; rw [r] at mu; exact mu
 by_cases hb:b=x
 .subst hb; rw [Za] at q; cases q; exact new
 .rw [Zc hb] at q
  by_cases wB:b=e
  .have q':H b=some (.own x):=by
    rcases he with z | z
    .exact absurd (wB.trans z) hb
    .rw [wB]; exact z
   rw [q] at q'; cases q'
   obtain ⟨v,hv⟩:=yj
   exact ⟨v,by rw [wB]; exact hv⟩
  .refine (ok b u q).stay (λc v hc r=>k c v ?_ r) (λc r=>by rw [Zc (zV c b r)]; exact r) (λc xs r=>by rw [Zc (FW c xs r)]; exact r) λc oz r=>by rw [Zc (λz=>by subst z; rw [r] at mu; exact mu)]; exact r
   rcases hc with rfl | hc
   .exact wB
   .rintro rfl
    rcases he with z | z
    .exact zV c b hc z
    .rw [hc] at z; cases z; exact hb rfl
end
structure Un (fs ex:List Addr) (H H':Hp) (h h':Heap):Prop where
 keep:∀ b o,h.get? b=some o->H b=none->b∉fs->b∉ex->h'.get? b=some o
 slot:∀ b o,h.get? b=some o->H b=none->b∈fs->b∉ex->∃ sl,h'.get? b=some { o with slots:=sl }
 free:∀ b o,h.get? b=some o->H b=none->b∉ex->H' b=none
 there:∀ b o,h.get? b=some o->b∉ex->∃ o',h'.get? b=some o'
 tups:∀ b xs,H b=some (.tup xs)->H' b=some (.tup xs)
 jm:∀ b o u,H b=some (.dz o u)->H' b=some (.dz o u)
 jw:∀ b p q,H b=some (.kD p q)->H' b=some (.kD p q)
section
variable {fs fs' ex ex':List Addr} {H H1 H2:Hp} {h h1 h2 h':Heap} {a x e:Addr} {o:HO}
theorem Un.any (u:Un fs ex H H1 h h1) {b:Addr} {ob:Obj} (q:h.get? b=some ob) (n:H b=none) (hx:b∉ex):∃ sl,h1.get? b=some { ob with slots:=sl }:=by
 by_cases hb:b∈fs
 .exact u.slot b ob q n hb hx
 .exact ⟨ob.slots,u.keep b ob q n hb hx⟩
theorem Un.kept (k:∀ b u,h.get? b=some u->h'.get? b=some u):Un fs ex H H h h' :=
 ⟨λb ob q _ _ _=>k b ob q,λb ob q _ _ _=>⟨ob.slots,k b ob q⟩,λ_ _ _ n _=>n,λb ob q _=>⟨ob,k b ob q⟩,λ_ _ q=>q,λ_ _ _ q=>q,λ_ _ _ q=>q⟩
theorem Un.refl:Un fs ex H H h h:=Un.kept λ_ _ q=>q
theorem Un.laid (k:∀ b u,h.get? b=some u->h'.get? b=some u) (hp:h.objs.size<=a) (hn:H a=none):Un fs ex H (upd H a o) h h' where
 keep:=λb u q _ _ _=>k b u q
 slot:=λb u q _ _ _=>⟨u.slots,k b u q⟩
 free:=λb u q n _=>by rw [Zc (anq (a6M (aSe q) hp))]; exact n
 there:=λb u q _=>⟨u,k b u q⟩
 tups:=λb xs q=>by rw [Zc (Zd q hn)]; exact q
 jm:=λb u xs q=>by rw [Zc (Zd q hn)]; exact q
 jw:=λb _ _ q=>by rw [Zc (Zd q hn)]; exact q
theorem Un.write (mu:Cg (H x)) (he:e=x\/H e=some (.own x)) (k:∀ b u,b≠e->h.get? b=some u->h'.get? b=some u) (yj:∃ u,h'.get? e=some u):Un fs ex H (upd H x o) h h':=by
 have hx:∀ b,H b=none->b≠x:=λb n z=>by subst z; rw [n] at mu; exact mu
 have hb:∀ b,H b=none->b≠e:=λb n z=>by
  subst z
  rcases he with r | r
  .exact hx b n r
  .rw [n] at r; cases r
 have hm:∀ b u,H b=some u->¬ Cg (some u)->b≠x:=λb u q nm z=>by subst z; rw [q] at mu; exact nm mu
 refine ⟨λb u q n _ _=>k b u (hb b n) q,λb u q n _ _=>⟨u.slots,k b u (hb b n) q⟩,λb u q n _=>by rw [Zc (hx b n)]; exact n,λb u q _=>?_,
  λb xs q=>by rw [Zc (hm b _ q λz=>z)]; exact q,λb u xs q=>by rw [Zc (hm b _ q λz=>z)]; exact q,λb _ _ q=>by rw [Zc (hm b _ q λz=>z)]; exact q⟩
 by_cases wB:b=e
 .subst wB; exact yj
 .exact ⟨u,k b u wB q⟩
end
def Cz (h:Heap) (H:Hp):List Addr:=(List.range h.objs.size).filter λa=>(H a).isSome
def kP (h:Heap) (H:Hp):Heap:=W.hideAll h (Cz h H)
theorem Z7 (h:Heap) (H:Hp):(kP h H).objs.size=h.objs.size:=W.hideAll_size _ _
theorem Jj {h:Heap} {H:Hp} {b:Addr} {o:Obj} (e:h.get? b=some o) (n:H b=none):(kP h H).get? b=some o :=
 W.hideAll_get _ e λhm=>by
  have q:(H b).isSome=true:=(a68.mp hm).2
  rw [n] at q; simp at q
theorem Xz {h:Heap} {H:Hp} {b:Addr} {o:Obj} (e:(kP h H).get? b=some o):h.get? b=some o/\H b=none:=by
 have e':h.get? b=some o:=W.of_hideAll (Cz h H) e
 refine ⟨e',?_⟩
 cases q:H b with
 | none=>rfl
 | some x =>
  have hm:b∈Cz h H:=a68.mpr ⟨alC.mpr (aSe e'),by simp [q]⟩
  have z:(kP h H).get? b=none:=W.hideAll_none (Cz h H) hm
  rw [z] at e; cases e
structure Mod (K:W.Frag) (mg:Str->Option Value) (base:Heap):Prop where
 yf:K.In base
 glob:base.Ns mainGlobals mg
 blt:∃ mb,base.Ns builtinsNs mb/\∀ x:Str,x ≠ "__name__" -> mb x=bootBuiltins x
 nolimit:base.NoLimit
structure Cx where
 prog:Program
 w:World
 K:W.Frag
 mg:Str->Option Value
 base:Heap
 A:Around
 N:List Str
 s₀:Shared
 H₀:Hp
 env:Env
 outer:List Env
 stack:List Env
 ex:List Addr
 fn:Str->Bool
 calm:Bool
 pn:List (Addr×Obj)
 xe:Value->Shared->Prop
def frs (l:List Env):List Addr:=l.filterMap (·.frame)
abbrev Cx.fs (X:Cx):List Addr:=frs X.outer
def BZ (sc:Scope) (x:Str):Prop:=sc.names.lookup x=some .local\/sc.names.lookup x=some .cell\/sc.names.lookup x=some .free
def Loc (sc:Scope) (x:Str):Prop:=sc.names.lookup x=some .local\/sc.names.lookup x=some .cell
def Look (env:Env) (h:Heap) (m:Str->Option Value) (x:Str) (u:Value):Prop :=
 (env.kindOf x=some .local/\m x=some u)\/((env.kindOf x=some .cell\/env.kindOf x=some .free)/\∃ c,env.cells.lookup x=some c/\h.IsCell c (some u))
structure Cx.Ok (X:Cx):Prop where
 mod:Mod X.K X.mg X.base
 kind:X.env.scope.kind=.function
 glob:X.env.globals=mainGlobals
 blt:X.env.builtins=builtinsNs
 above:X.s₀.heap.objs.size<=X.env.locals
 inj:∀ x y c,X.env.cells.lookup x=some c->X.env.cells.lookup y=some c->x=y
 has:∀ x,(X.env.kindOf x=some .cell\/X.env.kindOf x=some .free)->∃ c,X.env.cells.lookup x=some c
 Ba:∀ x c,X.fn x=true->X.env.cells.lookup x=some c->X.s₀.heap.objs.size<=c
 hd:X.calm=true->X.A.handled=none
 frames:X.A.frames=some X.stack
 stk:X.stack=X.outer\/(X.stack=X.env :: X.outer/\X.env.frame=some X.env.locals)
 Dr:∀ b∈X.ex,b≠X.env.locals/\∀ x c,X.env.cells.lookup x=some c->c≠b
 bs:∀ b o,X.base.get? b=some o->X.s₀.heap.get? b=some o/\X.H₀ b=none
 rX:X.base.objs.size<=X.s₀.heap.objs.size
 qt:∀ b o,X.base.get? b=some o->b∉X.ex
 qR:∀ b∈X.ex,b∉X.fs
 jk:X.s₀.heap.FunFrames X.base X.outer
 wH:∀ b∈X.fs,X.H₀ b=none
structure Inv (X:Cx) (pins:List (Addr×Obj)) (σ:List (Option V)) (H:Hp) (s:Shared):Prop where
 ok:X.Ok
 os:s.os=X.s₀.os
 bare:AllBare s.gens
 base:Un X.fs X.ex X.H₀ H X.s₀.heap s.heap
 loc:∃ m,s.heap.Ns X.env.locals m/\∀ (i:Nat) (x:Str) (v:V),X.N[i]?=some x->σ[i]?=some (some v)->BZ X.env.scope x->∃ u,RelV v u/\Look X.env s.heap m x u
 cell:∀ x c,X.env.cells.lookup x=some c->∃ v,s.heap.IsCell c v
 free:H X.env.locals=none
 dR:∀ x c,X.env.cells.lookup x=some c->H c=none
 pin:∀ p∈X.pn++pins,s.heap.get? p.1=some p.2/\H p.1=none/\p.1≠X.env.locals/\p.1∉X.fs/\∀ v,p.2.data≠.cell v
 hok:fC X.prog X.w H s.heap
 len:σ.length=X.N.length
section
variable {X:Cx} {pins:List (Addr×Obj)} {σ:List (Option V)} {H H':Hp} {s:Shared} {h':Heap}
theorem Cx.Ok.F3 (ok:X.Ok) {b:Addr} {o:Obj} (e:X.base.get? b=some o):b∉X.fs:=λhb=>by
 have:=(ok.jk.mem hb).1
 rw [e] at this; cases this
theorem Inv.bs (I:Inv X pins σ H s):∀ b o,X.base.get? b=some o->s.heap.get? b=some o/\H b=none:=λb o e =>
 ⟨I.base.keep b o (I.ok.bs b o e).1 (I.ok.bs b o e).2 (I.ok.F3 e) (I.ok.qt b o e),I.base.free b o (I.ok.bs b o e).1 (I.ok.bs b o e).2 (I.ok.qt b o e)⟩
theorem Inv.bk (I:Inv X pins σ H s):∀ b o,X.base.get? b=some o->s.heap.get? b=some o:=λb o e=>(I.bs b o e).1
theorem Inv.mod (I:Inv X pins σ H s):Mod X.K X.mg X.base:=I.ok.mod
theorem Inv.eL (I:Inv X pins σ H s):X.K.In s.heap:=I.ok.mod.yf.keeps I.bk
theorem Inv.nolimit (I:Inv X pins σ H s):s.heap.NoLimit:=I.ok.mod.nolimit.keeps I.bk
theorem Inv.lt (I:Inv X pins σ H s):X.env.locals<s.heap.objs.size:=let ⟨_,hn,_⟩:=I.loc; hn.lt
theorem Inv.sz (I:Inv X pins σ H s):X.s₀.heap.objs.size<=s.heap.objs.size:=auj I.ok.above (aS5 I.lt)
theorem Inv.zW (I:Inv X pins σ H s) {a:Addr} (h:s.heap.objs.size<=a):a∉X.fs:=λhb=>by
 obtain ⟨_,o,ho,_⟩:=I.ok.jk.mem hb
 exact absurd (a6M (aSe ho) (auj I.sz h)) (aXl _)
theorem Inv.rW (I:Inv X pins σ H s):∀ x c,X.env.cells.lookup x=some c->c≠X.env.locals:=λx c e z=>by
 obtain ⟨v,o,ho,hd⟩:=I.cell x c e
 obtain ⟨m,⟨o',es,ep,ho',hd',_⟩,_⟩:=I.loc
 rw [z,ho'] at ho; cases ho; rw [hd'] at hd; cases hd
theorem Inv.jk (I:Inv X pins σ H s):s.heap.FunFrames X.base X.outer:=by
 have all:∀ (l:List Env),(∀ b∈frs l,b∈X.fs)->X.s₀.heap.FunFrames X.base l->s.heap.FunFrames X.base l:=by
  intro l
  induction l with
  | nil=>intro _ _; trivial
  | cons env r ih =>
   intro hs hl
   obtain ⟨hk,⟨L,o,hf,hn,ho,hd⟩,hr⟩:=hl
   have hL:L∈X.fs:=hs L (by unfold frs; rw [List.filterMap_cons,hf]; exact aq5)
   obtain ⟨sl,e⟩:=I.base.slot L o ho (I.ok.wH L hL) hL λz=>I.ok.qR L z hL
   exact ⟨hk,⟨L,_,hf,hn,e,hd⟩,ih (λb hb=>hs b (by unfold frs; rw [List.filterMap_cons,hf]; exact asq _ hb)) hr⟩
 exact all X.outer (λ_ hb=>hb) I.ok.jk
theorem Inv.stack (I:Inv X pins σ H s):s.heap.FunFrames X.base X.stack:=by
 rcases I.ok.stk with e | ⟨e,hf⟩
 .rw [e]; exact I.jk
 .rw [e]
  obtain ⟨m,hn,_⟩:=I.loc
  refine .cons (by rw [I.ok.kind]; decide) hf hn ?_ I.jk
  exact Heap.get?_none_of_le (auj I.ok.rX I.ok.above)
theorem Inv.kE (I:Inv X pins σ H s):∀ b∈frs X.stack,b∈X.env.locals :: X.fs:=λb hb=>by
 rcases I.ok.stk with e | ⟨e,hf⟩
 .rw [e] at hb; exact asq _ hb
 .rw [e] at hb
  unfold frs at hb
  rw [List.filterMap_cons,hf] at hb
  exact hb
theorem Inv.kF (I:Inv X pins σ H s):∀ b∈frs X.stack,H b=none:=λb hb=>by
 rcases awk.mp (I.kE b hb) with e | hb
 .rw [e]; exact I.free
 .obtain ⟨_,o,ho,_⟩:=I.ok.jk.mem hb
  exact I.base.free b o ho (I.ok.wH b hb) λz=>I.ok.qR b z hb
theorem Inv.step {g':Array GenState} {t':Nat} {d':Drawn} {ch:List Addr} (I:Inv X pins σ H s)
  (hch:∀ b∈ch,(b∈X.ex\/X.s₀.heap.objs.size<=b)/\b≠X.env.locals/\(∀ x c,X.env.cells.lookup x=some c->c≠b)/\∀ p∈X.pn++pins,p.1≠b)
  (keep:∀ b o,b≠X.env.locals->b∉X.fs->b∉ch->s.heap.get? b=some o->H b=none->h'.get? b=some o)
  (slot:∀ b o,b≠X.env.locals->b∈X.fs->b∉ch->s.heap.get? b=some o->H b=none->∃ sl,h'.get? b=some { o with slots:=sl }) (free:∀ b o,b∉ch->s.heap.get? b=some o->H b=none->H' b=none)
  (there:∀ b o,b∉ch->s.heap.get? b=some o->∃ o',h'.get? b=some o')
  (tups:∀ b xs,H b=some (.tup xs)->H' b=some (.tup xs)) (jm:∀ b o u,H b=some (.dz o u)->H' b=some (.dz o u)) (jw:∀ b p q,H b=some (.kD p q)->H' b=some (.kD p q))
  (ns:∀ m,s.heap.Ns X.env.locals m->h'.Ns X.env.locals m) (hok:fC X.prog X.w H' h') (hg:AllBare g') :
  Inv X pins σ H' { s with heap:=h',gens:=g',drawn:=d',toks:=t' }:=by
 have LZ:∀ b o,X.s₀.heap.get? b=some o->b≠X.env.locals:=λb o e=>anq (a6M (aSe e) I.ok.above)
 have CU:∀ b o,X.s₀.heap.get? b=some o->b∉X.ex->b∉ch:=λb o e hx hb=>by
  rcases (hch b hb).1 with z | z
  .exact hx z
  .exact absurd (a6M (aSe e) z) (aXl _)
 have cellK:∀ x c,X.env.cells.lookup x=some c->∀ v,s.heap.IsCell c v->h'.IsCell c v:=λx c e v ⟨o,ho,hd⟩=>by
  have z9:c∉ch:=λz=>(hch c z).2.2.1 x c e rfl
  by_cases hc:c∈X.fs
  .obtain ⟨sl,q⟩:=slot c o (I.rW x c e) hc z9 ho (I.dR x c e)
   exact ⟨_,q,hd⟩
  .exact ⟨o,keep c o (I.rW x c e) hc z9 ho (I.dR x c e),hd⟩
 refine ⟨I.ok,I.os,hg,⟨λb o e n hb hx=>?_,λb o e n hb hx=>?_,λb o e n hx=>?_,λb o e hx=>?_,λb xs e=>tups b xs (I.base.tups b xs e),λb o xs e=>jm b o xs (I.base.jm b o xs e),λb p r e=>jw b p r (I.base.jw b p r e)⟩,?_,λx c e=>?_,?_,λx c e=>?_,λp hp=>?_,hok,I.len⟩
 .exact keep b o (LZ b o e) hb (CU b o e hx) (I.base.keep b o e n hb hx) (I.base.free b o e n hx)
 .obtain ⟨sl,e1⟩:=I.base.slot b o e n hb hx
  obtain ⟨S7,e2⟩:=slot b _ (LZ b o e) hb (CU b o e hx) e1 (I.base.free b o e n hx)
  exact ⟨S7,e2⟩
 .obtain ⟨o',e1⟩:=I.base.there b o e hx
  exact free b o' (CU b o e hx) e1 (I.base.free b o e n hx)
 .obtain ⟨o',e1⟩:=I.base.there b o e hx
  exact there b o' (CU b o e hx) e1
 .obtain ⟨m,hn,hl⟩:=I.loc
  refine ⟨m,ns m hn,λi x v e1 e2 e3=>?_⟩
  obtain ⟨u,r,l⟩:=hl i x v e1 e2 e3
  refine ⟨u,r,?_⟩
  rcases l with l | ⟨k,c,e,z⟩
  .exact .inl l
  .exact .inr ⟨k,c,e,cellK x c e _ z⟩
 .obtain ⟨v,z⟩:=I.cell x c e
  exact ⟨v,cellK x c e v z⟩
 .obtain ⟨m,⟨o,_,_,ho,_⟩,_⟩:=I.loc
  exact free _ o (λz=>(hch _ z).2.1 rfl) ho I.free
 .obtain ⟨v,o,ho,hd⟩:=I.cell x c e
  exact free c o (λz=>(hch c z).2.2.1 x c e rfl) ho (I.dR x c e)
 .obtain ⟨e,n,ne,nf,d⟩:=I.pin p hp
  have z9:p.1∉ch:=λz=>(hch p.1 z).2.2.2 p hp rfl
  exact ⟨keep p.1 p.2 ne nf z9 e n,free p.1 p.2 z9 e n,ne,nf,d⟩
theorem Inv.un {t':Nat} (I:Inv X pins σ H s) (u:Un X.fs [] H H' s.heap h') (hok:fC X.prog X.w H' h'):Inv X pins σ H' { s with heap:=h',toks:=t' }:=by
 obtain ⟨m,⟨o,es,ep,ho,r⟩,_⟩:=id I.loc
 obtain ⟨sl,hL⟩:=u.any ho I.free (by simp)
 exact I.step (g':=s.gens) (d':=s.drawn) (ch:=[]) (λ_ z=>nomatch z) (λb o _ hb _ e n=>u.keep b o e n hb (by simp)) (λb o _ hb _ e n=>u.slot b o e n hb (by simp)) (λb o _ e n=>u.free b o e n (by simp)) (λb o _ e=>u.there b o e (by simp)) u.tups u.jm u.jw (λm' hm=>by
  obtain ⟨o',es',Hx,ho',r'⟩:=hm
  rw [ho] at ho'; cases ho'
  exact ⟨_,es',Hx,hL,r'⟩) hok I.bare
theorem Inv.call {g':Array GenState} {t':Nat} {d':Drawn} {ch:List Addr} (I:Inv X pins σ H s) (u:Un (frs X.stack) ch H H' s.heap h') (hok:fC X.prog X.w H' h') (hg:AllBare g')
  (hch:∀ b∈ch,(b∈X.ex\/X.s₀.heap.objs.size<=b)/\b≠X.env.locals/\(∀ x c,X.env.cells.lookup x=some c->c≠b)/\∀ p∈X.pn++pins,p.1≠b) :
  Inv X pins σ H' { s with heap:=h',gens:=g',drawn:=d',toks:=t' }:=by
 obtain ⟨m,⟨o,es,ep,ho,r⟩,_⟩:=id I.loc
 obtain ⟨sl,hL⟩:=u.any ho I.free λz=>(hch _ z).2.1 rfl
 exact I.step (ch:=ch) hch (λb o hL hb hc e n=>u.keep b o e n (λz=>(awk.mp (I.kE b z)).elim hL hb) hc) (λb o _ _ hc e n=>u.any e n hc) (λb o hc e n=>u.free b o e n hc) (λb o hc e=>u.there b o e hc) u.tups u.jm u.jw (λm' hm=>by
  obtain ⟨o',es',Hx,ho',r'⟩:=hm
  rw [ho] at ho'; cases ho'
  exact ⟨_,es',Hx,hL,r'⟩) hok hg
theorem Inv.turned {t':Nat} {it:Addr} (I:Inv X pins σ H s) (k:∀ b o,b≠it->s.heap.get? b=some o->h'.get? b=some o) (hn:H it=none) (hL:it≠X.env.locals)
  (h1:it∈X.ex\/X.s₀.heap.objs.size<=it) (h2:∀ x c,X.env.cells.lookup x=some c->c≠it) (h3:∀ p∈X.pn++pins,p.1≠it):Inv X pins σ H { s with heap:=h',toks:=t' }:=by
 have LW:∀ b u,H b=some u->b≠it:=λb u e z=>by rw [z,hn] at e; cases e
 refine I.step (g':=s.gens) (d':=s.drawn) (ch:=[it]) (λb hb=>?_) (λb o _ _ hc e _=>k b o (λz=>hc (by simp [z])) e) (λb o _ _ hc e _=>⟨o.slots,k b o (λz=>hc (by simp [z])) e⟩) (λ_ _ _ _ n=>n)
  (λb o hc e=>⟨o,k b o (λz=>hc (by simp [z])) e⟩) (λ_ _ e=>e) (λ_ _ _ e=>e) (λ_ _ _ e=>e) (λm hm=>?_) (λb u e=>?_) I.bare
 .have e:b=it:=by simpa using hb
  subst e
  exact ⟨h1,hL,h2,h3⟩
 .obtain ⟨o,es,ep,ho,r⟩:=hm
  exact ⟨o,es,ep,k _ o (aI4 hL) ho,r⟩
 .refine (I.hok b u e).stay (λc v hc q=>k c v ?_ q) (λ_ q=>q) λ_ _ q=>q
  rcases hc with z | z
  .rw [z]; exact LW b u e
  .exact LW c _ z
theorem Inv.tok (I:Inv X pins σ H s) (t:Nat):Inv X pins σ H { s with toks:=t }:=I.un (h':=s.heap) (t':=t) Un.refl I.hok
theorem Inv.kept {t':Nat} (I:Inv X pins σ H s) (k:∀ b u,s.heap.get? b=some u->h'.get? b=some u):Inv X pins σ H { s with heap:=h',toks:=t' }:=I.un (Un.kept k) (I.hok.kept k)
theorem Inv.laid {a:Addr} {o:HO} {t':Nat} (I:Inv X pins σ H s) (k:∀ b u,s.heap.get? b=some u->h'.get? b=some u) (hp:s.heap.objs.size<=a) (new:aH X.prog X.w (upd H a o) h' a o) :
  Inv X pins σ (upd H a o) { s with heap:=h',toks:=t' }:=I.un (Un.laid k hp (I.hok.fresh hp)) (I.hok.laid k hp new)
theorem Inv.write {x e:Addr} {o:HO} {t':Nat} (I:Inv X pins σ H s) (mu:Cg (H x)) (he:e=x\/H e=some (.own x)) (k:∀ b u,b≠e->s.heap.get? b=some u->h'.get? b=some u) (yj:∃ u,h'.get? e=some u)
  (new:aH X.prog X.w (upd H x o) h' x o):Inv X pins σ (upd H x o) { s with heap:=h',toks:=t' }:=I.un (Un.write mu he k yj) (I.hok.write mu he k yj new)
theorem Inv.nZ {cL:List (Addr×Obj)} (I:Inv X pins σ H s) (h:∀ p∈cL,s.heap.get? p.1=some p.2/\H p.1=none/\p.1≠X.env.locals/\p.1∉X.fs/\∀ v,p.2.data≠.cell v):Inv X cL σ H s :=
 ⟨I.ok,I.os,I.bare,I.base,I.loc,I.cell,I.free,I.dR,λp hp=>(ais.mp hp).elim (λz=>I.pin p (ahE _ z)) (h p),I.hok,I.len⟩
theorem PK {N:List Str} (hN:N.Nodup) {i j:Nat} {x:Str} (a:N[i]?=some x) (b:N[j]?=some x):i=j:=by
 obtain ⟨h1,e1⟩:=aK1.mp a
 obtain ⟨h2,e2⟩:=aK1.mp b
 exact (List.getElem_inj hN).mp (e1.trans e2.symm)
theorem Qz {M:Model} {A:Around} {E:Value->Shared->Prop} {i:Nat} {x:Str} {v:V} {u:Value} {Q:Unit->Shared->Prop} (I:Inv X pins σ H s) (hN:X.N.Nodup) (hi:X.N[i]?=some x) (hx:Loc X.env.scope x) (r:RelV v u)
  (h:∀ s',Inv X pins (σ.set i (some v)) H s'->(∃ a,Heap.SameBut a s.heap s'.heap/\(a=X.env.locals\/X.env.cells.lookup x=some a))->Q () s') (hf:X.fn x=true\/X.env.scope.names.lookup x=some .local:=by first | exact .inl rfl | exact .inr rfl | assumption):wpAny M A (storeName X.env x u) Q E s:=by
 obtain ⟨m,hn,hl⟩:=id I.loc
 have hcls:(X.env.scope.kind == .class || (X.env.scope.kind == .module && X.env.locals != X.env.globals))=false:=by rw [I.ok.kind]; rfl
 have AF:i<σ.length:=by rw [I.len]; exact (aK1.mp hi).1
 have rW:=I.rW
 have tracked:∀ {a:Addr} {h':Heap},(∃ o,s.heap.get? a=some o/\H a=none)->Heap.SameBut a s.heap h'->fC X.prog X.w H h':=λ{a h'} ha hs b ob e=>by
  obtain ⟨_,_,hfree⟩:=ha
  refine (I.hok b ob e).stay (λc w' hc q=>(hs.2 c ?_).trans q) (λ_ q=>q) λ_ _ q=>q
  rintro rfl
  rcases hc with rfl | hc
  .rw [hfree] at e; cases e
  .rw [hfree] at hc; cases hc
 rcases hx with hk | hk
 .refine wpAny_storeName_local hk hn (λh' hn' hs=>?_) hcls
  obtain ⟨oL,_,_,kX,_⟩:=id hn
  refine h _ ⟨I.ok,I.os,I.bare,⟨λb o e n hb hx=>?_,λb o e n hb hx=>?_,I.base.free,λb o e hx=>?_,I.base.tups,I.base.jm,I.base.jw⟩,⟨_,hn',λj y v' e1 e2 e3=>?_⟩,λy c e=>?_,I.free,I.dR,λp hp=>?_,tracked ⟨oL,kX,I.free⟩ hs,by simpa using I.len⟩ ⟨_,hs,.inl rfl⟩
  .exact (hs.2 b (anq (a6M (aSe e) I.ok.above))).trans (I.base.keep b o e n hb hx)
  .obtain ⟨sl,e1⟩:=I.base.slot b o e n hb hx
   exact ⟨sl,(hs.2 b (anq (a6M (aSe e) I.ok.above))).trans e1⟩
  .obtain ⟨o',e1⟩:=I.base.there b o e hx
   exact ⟨o',(hs.2 b (anq (a6M (aSe e) I.ok.above))).trans e1⟩
  .by_cases hj:j=i
   .subst hj
    rw [hi] at e1; cases e1
    rw [bb6 AF] at e2
    cases e2
    exact ⟨u,r,.inl ⟨hk,by simp⟩⟩
   .rw [aP2 (aI4 hj)] at e2
    obtain ⟨u',r',q⟩:=hl j y v' e1 e2 e3
    refine ⟨u',r',?_⟩
    rcases q with ⟨k,e⟩ | ⟨k,c,e,z⟩
    .refine .inl ⟨k,?_⟩
     have:y≠x:=λe=>hj (PK hN e1 (e ▸ hi))
     simp [this,e]
    .exact .inr ⟨k,c,e,z.sameBut hs (rW y c e)⟩
  .obtain ⟨w',z⟩:=I.cell y c e
   exact ⟨w',z.sameBut hs (rW y c e)⟩
  .obtain ⟨e,n,ne,nf,d⟩:=I.pin p hp
   exact ⟨(hs.2 p.1 ne).trans e,n,ne,nf,d⟩
 .have hfn:X.fn x=true:=by
   rcases hf with z | z
   .exact z
   .rw [z] at hk; cases hk
  obtain ⟨c,hc⟩:=I.ok.has x (.inl hk)
  obtain ⟨w',z⟩:=I.cell x c hc
  refine wpAny_storeName_cell I.ok.kind hk hc z (λh' hc' hs=>?_)
  obtain ⟨oc,hoc,GW⟩:=id z
  refine h { s with heap:=h' } ⟨I.ok,I.os,I.bare,⟨λb o e n hb hx=>?_,λb o e n hb hx=>?_,I.base.free,λb o e hx=>?_,I.base.tups,I.base.jm,I.base.jw⟩,⟨m,hn.sameBut hs (aI4 (rW x c hc)),λj y v' e1 e2 e3=>?_⟩,λy c' e=>?_,I.free,I.dR,λp hp=>?_,tracked ⟨oc,hoc,I.dR x c hc⟩ hs,by simpa using I.len⟩ ⟨c,hs,.inr hc⟩
  .exact (hs.2 b (anq (a6M (aSe e) (I.ok.Ba x c hfn hc)))).trans (I.base.keep b o e n hb hx)
  .obtain ⟨sl,e1⟩:=I.base.slot b o e n hb hx
   exact ⟨sl,(hs.2 b (anq (a6M (aSe e) (I.ok.Ba x c hfn hc)))).trans e1⟩
  .obtain ⟨o',e1⟩:=I.base.there b o e hx
   exact ⟨o',(hs.2 b (anq (a6M (aSe e) (I.ok.Ba x c hfn hc)))).trans e1⟩
  .by_cases hj:j=i
   .subst hj
    rw [hi] at e1; cases e1
    rw [bb6 AF] at e2
    cases e2
    exact ⟨u,r,.inr ⟨.inl hk,c,hc,hc'⟩⟩
   .rw [aP2 (aI4 hj)] at e2
    obtain ⟨u',r',q⟩:=hl j y v' e1 e2 e3
    refine ⟨u',r',?_⟩
    rcases q with q | ⟨k,c',e,z'⟩
    .exact .inl q
    .refine .inr ⟨k,c',e,z'.sameBut hs ?_⟩
     rintro rfl
     exact hj (PK hN e1 (I.ok.inj _ _ _ e hc ▸ hi))
  .by_cases hcc:c'=c
   .subst hcc; exact ⟨_,hc'⟩
   .obtain ⟨w2,z2⟩:=I.cell y c' e
    exact ⟨w2,z2.sameBut hs hcc⟩
  .obtain ⟨e,n,ne,nf,d⟩:=I.pin p hp
   refine ⟨(hs.2 p.1 ?_).trans e,n,ne,nf,d⟩
   intro q
   rw [q,hoc] at e
   have q':oc=p.2:=a6S e
   exact d w' (by rw [← q']; exact GW)
theorem xx {M:Model} {A:Around} {E:Value->Shared->Prop} {i:Nat} {x:Str} {v:V} {u:Value} {Q:Unit->Shared->Prop} (I:Inv X pins σ H s) (hN:X.N.Nodup) (hi:X.N[i]?=some x) (hx:Loc X.env.scope x) (r:RelV v u)
  (h:∀ s',Inv X pins (σ.set i (some v)) H s'->Q () s') (hf:X.fn x=true\/X.env.scope.names.lookup x=some .local:=by first | exact .inl rfl | exact .inr rfl | assumption):wpAny M A (storeName X.env x u) Q E s :=
 Qz I hN hi hx r (λs' I' _=>h s' I') hf
theorem Inv.A9 {s':Shared} {ch:List Addr} (I:Inv X pins σ H s) (ho:s'.os=s.os) (u:Un (frs X.stack) ch H H' s.heap s'.heap) (hok:fC X.prog X.w H' s'.heap) (hg:AllBare s'.gens)
  (hch:∀ b∈ch,(b∈X.ex\/X.s₀.heap.objs.size<=b)/\b≠X.env.locals/\(∀ x c,X.env.cells.lookup x=some c->c≠b)/\∀ p∈X.pn++pins,p.1≠b):Inv X pins σ H' s':=by
 obtain ⟨h',g',d',t',o'⟩:=s'
 have e:o'=s.os:=ho
 subst e
 exact I.call (g':=g') (t':=t') (d':=d') u hok hg hch
end
abbrev XK:=Value->Option Addr->Hp->Prop
abbrev St:=List (Option V)
abbrev VK:=V->Hp->Prop
abbrev TE:=St->Hp->VK->Prop
abbrev TT:=St->Hp->(Bool->Hp->Prop)->Prop
abbrev TA:=St->Hp->(List V->Hp->Prop)->Prop
structure Ends where
 nx:St->Hp->Prop
 rt:VK
 bk:St->Hp->Prop:=λ_ _=>False
 ct:St->Hp->Prop:=λ_ _=>False
abbrev TS:=Ends->St->Hp->Prop
def EP (X:Cx) (pins:List (Addr×Obj)) (σ:St) (Q:VK) (u:Value) (s':Shared):Prop:=∃ v H',Inv X pins σ H' s'/\RelV v u/\Q v H'
def TP (X:Cx) (pins:List (Addr×Obj)) (σ:St) (Q:Bool->Hp->Prop) (b:Bool) (s':Shared):Prop:=∃ H',Inv X pins σ H' s'/\Q b H'
def AP (X:Cx) (pins:List (Addr×Obj)) (σ:St) (Q:List V->Hp->Prop) (us:List Value) (s':Shared):Prop:=∃ vs H',Inv X pins σ H' s'/\Vals vs us/\Q vs H'
def SP (X:Cx) (pins:List (Addr×Obj)) (D:Ends) (f:Flow) (s':Shared):Prop :=
 match f with
 | .next=>∃ σ' H',Inv X pins σ' H' s'/\D.nx σ' H'
 | .brk=>∃ σ' H',Inv X pins σ' H' s'/\D.bk σ' H'
 | .cont=>∃ σ' H',Inv X pins σ' H' s'/\D.ct σ' H'
 | .ret u=>∃ v σ' H',Inv X pins σ' H' s'/\RelV v u/\D.rt v H'
def PE (X:Cx) (e:Expr) (t:TE):Prop :=
 ∀ (pins:List (Addr×Obj)) (s:Shared) (σ:St) (H:Hp) (Q:VK),Inv X pins σ H s->t σ H Q->wpAny (model X.prog X.w) X.A (eval e X.env) (EP X pins σ Q) X.xe s
def PT (X:Cx) (e:Expr) (t:TT):Prop :=
 ∀ (pins:List (Addr×Obj)) (s:Shared) (σ:St) (H:Hp) (Q:Bool->Hp->Prop),Inv X pins σ H s->t σ H Q->wpAny (model X.prog X.w) X.A (isTrue e X.env (eval e X.env)) (TP X pins σ Q) X.xe s
def PW (X:Cx) (e:Expr) (t:TT):Prop :=
 ∀ (whole:Sem Value) (pins:List (Addr×Obj)) (s:Shared) (σ:St) (H:Hp) (Q:Bool->Hp->Prop),Inv X pins σ H s->t σ H Q->wpAny (model X.prog X.w) X.A (isTrue e X.env whole) (TP X pins σ Q) X.xe s
theorem PW.pt {X:Cx} {e:Expr} {t:TT} (h:PW X e t):PT X e t:=h _
def PA (X:Cx) (es:List Expr) (t:TA):Prop :=
 ∀ (pos:Pos) (pins:List (Addr×Obj)) (s:Shared) (σ:St) (H:Hp) (Q:List V->Hp->Prop),Inv X pins σ H s->t σ H Q->wpAny (model X.prog X.w) X.A (spliced (backTo pos (starEach es X.env))) (AP X pins σ Q) X.xe s
def PS (X:Cx) (st:Stmt) (t:TS):Prop :=
 ∀ (pins:List (Addr×Obj)) (s:Shared) (σ:St) (H:Hp) (D:Ends),Inv X pins σ H s->t D σ H->wpAny (model X.prog X.w) X.A (exec st X.env) (SP X pins D) X.xe s
def pF (X:Cx) (st:List Stmt) (t:TS):Prop :=
 ∀ (pins:List (Addr×Obj)) (s:Shared) (σ:St) (H:Hp) (D:Ends),Inv X pins σ H s->t D σ H->wpAny (model X.prog X.w) X.A (execs st X.env) (SP X pins D) X.xe s
theorem b7 {α:Type} {t:Sem α} {Q Q':α->Shared->Prop} {M:Model} {A:Around} {E:Value->Shared->Prop} {s:Shared} (h:wpAny M A t Q E s) (hQ:∀ a s,Q a s->Q' a s):wpAny M A t Q' E s:=ayO h hQ λ_ _ x=>x
theorem fY {t : Sem Value} {Q : VK} {Q' : Value -> Shared -> Prop} {M : Model} {A : Around} {E : Value -> Shared -> Prop} {s : Shared} {X : Cx} {pins : List (Addr × Obj)} {σ : St} (h : wpAny M A t (EP X pins σ Q) E s) (k : ∀ v s x H, Inv X pins σ H s -> RelV x v -> Q x H -> Q' v s) : wpAny M A t Q' E s := ayO h (λv s z => by obtain ⟨x, H, i, r, q⟩ := z; exact k v s x H i r q) λ_ _ x => x
theorem mG {t : Sem (List Value)} {Q : List V -> Hp -> Prop} {Q' : List Value -> Shared -> Prop} {M : Model} {A : Around} {E : Value -> Shared -> Prop} {s : Shared} {X : Cx} {pins : List (Addr × Obj)} {σ : St} (h : wpAny M A t (AP X pins σ Q) E s) (k : ∀ v s x H, Inv X pins σ H s -> Vals x v -> Q x H -> Q' v s) : wpAny M A t Q' E s := ayO h (λv s z => by obtain ⟨x, H, i, r, q⟩ := z; exact k v s x H i r q) λ_ _ x => x
section
variable {X:Cx}
def yW (i:Nat):TE:=λσ H Q=>∃ v,σ[i]?=some (some v)/\Q v H
def tC (v:V):TE:=λ_ H Q=>Q v H
theorem WV {i:Nat} {x:Str} {pos:Pos} (hN:X.N[i]?=some x) (hv:BZ X.env.scope x) (hd:(x == ("__debug__" : Str))=false:=by decide) (hcd:(x == ("__classdict__" : Str))=false:=by decide):PE X (.Name x pos) (yW i):=by
 intro pins s σ H Q I h
 obtain ⟨v,e,h⟩:=h
 obtain ⟨m,hn,hl⟩:=I.loc
 obtain ⟨u,r,l⟩:=hl i x v hN e hv
 have fin:EP X pins σ Q u s:=⟨v,H,I,r,h⟩
 rcases l with ⟨hk,hm⟩ | ⟨hk,c,hc,hcell⟩
 .exact wpAny_Name (wpAny_loadName_local I.ok.kind hk hn hm fin) hd
 .rcases hk with hk | hk
  .exact wpAny_Name (wpAny_loadName_cell I.ok.kind hk hc hcell fin) hd
  .exact wpAny_Name (wpAny_loadName_free I.ok.kind hk hc hcell fin hcd) hd
theorem Zj {i j pos}:PE X (.Constant (.int i) j pos) (tC (.int i)):=λ_ _ _ H _ I h=>wpAny_Constant_int ⟨.int i,H,I.tok _,⟨_,rfl⟩,h⟩
theorem i7 {b j pos}:PE X (.Constant (.bool b) j pos) (tC (.bl b)):=λ_ _ _ H _ I h=>Constant_bool ⟨.bl b,H,I,rfl,h⟩
theorem N8 {j pos}:PE X (.Constant .none j pos) (tC .aR):=λ_ _ _ H _ I h=>Constant_none ⟨.aR,H,I,rfl,h⟩
theorem kB {x j pos}:PE X (.Constant (.str x) j pos) (tC (.str x)):=λ_ _ _ H _ I h=>Calls.Constant_str ⟨.str x,H,I.tok _,⟨_,rfl⟩,h⟩
def Gl (X:Cx) (x:Str):Prop:=X.env.kindOf x=some .globalImplicit
theorem DV {E:Value->Shared->Prop} {pins:List (Addr×Obj)} {s:Shared} {σ:St} {H:Hp} {x:Str} {u:Value} {pos:Pos} {Q:Value->Shared->Prop} (I:Inv X pins σ H s) (hg:Gl X x) (hm:X.mg x=some u) (h:Q u s)
  (hd:(x == ("__debug__" : Str))=false:=by decide):wpAny (model X.prog X.w) X.A (eval (.Name x pos) X.env) Q E s :=
 Calls.Name_function_global I.ok.kind hg (Calls.loadGlobal_global (by rw [I.ok.glob]; exact I.mod.glob.keeps I.bk) hm h) hd
theorem se {E:Value->Shared->Prop} {pins:List (Addr×Obj)} {s:Shared} {σ:St} {H:Hp} {x:Str} {u:Value} {pos:Pos} {Q:Value->Shared->Prop} (I:Inv X pins σ H s) (hg:Gl X x) (hm:X.mg x=none) (hv:bootBuiltins x=some u) (h:Q u s)
  (hn:x ≠ "__name__" := by decide) (hd:(x == ("__debug__" : Str))=false:=by decide):wpAny (model X.prog X.w) X.A (eval (.Name x pos) X.env) Q E s:=by
 obtain ⟨mb,h1,h2⟩:=I.mod.blt
 exact Calls.Name_function_global I.ok.kind hg (Calls.loadGlobal_builtin (by rw [I.ok.glob]; exact I.mod.glob.keeps I.bk) hm (by rw [I.ok.blt]; exact h1.keeps I.bk) ((h2 x hn).trans hv) h) hd
theorem Pg {x:Str} {v:V} {u:Value} {pos:Pos} (hg:Gl X x) (hm:X.mg x=some u) (r:RelV v u) (hd:(x == ("__debug__" : Str))=false:=by decide):PE X (.Name x pos) (tC v) :=
 λ_ _ _ H _ I h=>DV I hg hm ⟨v,H,I,r,h⟩ hd
theorem pW {x:Str} {v:V} {u:Value} {pos:Pos} (hg:Gl X x) (hm:X.mg x=none) (hv:bootBuiltins x=some u) (r:RelV v u) (hn:x ≠ "__name__" := by decide) (hd:(x == ("__debug__" : Str))=false:=by decide):PE X (.Name x pos) (tC v) :=
 λ_ _ _ H _ I h=>se I hg hm hv ⟨v,H,I,r,h⟩ hn hd
variable {a b:Expr} {ta tb:TE} {pos:Pos}
def PC (X:Cx) (op:CmpOp) (a b:Expr) (t:TE):Prop :=
 ∀ (pins:List (Addr×Obj)) (s:Shared) (σ:St) (H:Hp) (Q:VK),Inv X pins σ H s->t σ H Q ->
  wpAny (model X.prog X.w) X.A (eval a X.env) (λv s₁=>wpAny (model X.prog X.w) X.A (eval b X.env) (λu s₂=>wpAny (model X.prog X.w) X.A (compareOp op v u) (EP X pins σ Q) X.xe s₂) X.xe s₁) X.xe s
theorem PJ (b:Expr) {op:CmpOp} (h:op≠.In) (h2:op≠.NotIn):behindInMarks op b=false:=by
 have e1:(op == CmpOp.In)=false:=by cases op <;> first | rfl | exact absurd rfl h
 have e2:(op == CmpOp.NotIn)=false:=by cases op <;> first | rfl | exact absurd rfl h2
 cases b <;> simp [behindInMarks,e1,e2]
def Fe (ta:TE):TE:=λσ H Q=>ta σ H λx H1=>Q (.bl (decide (x=.aR))) H1
def y9 (ta:TE):TE:=λσ H Q=>ta σ H λx H1=>Q (.bl (!decide (x=.aR))) H1
theorem RelV.lD {x:V} {v:Value} (r:RelV x v):(v == Value.none)=decide (x=.aR):=by
 cases x with
 | aR=>cases r; rfl
 | bl _=>cases r; rfl
 | int _=>obtain ⟨t,rfl⟩:=r; rfl
 | str _=>obtain ⟨t,rfl⟩:=r; rfl
 | oZ _=>obtain ⟨t,rfl⟩:=r; rfl
 | tN _=>obtain ⟨t,rfl⟩:=r; rfl
 | ref _=>cases r; rfl
 | ty _=>cases r; rfl
theorem WU {j pos'} (ha:PE X a ta):PC X .Is a (.Constant .none j pos') (Fe ta):=by
 intro pins s σ H Q I h
 refine fY (ha pins s σ H _ I h) λv s1 x H1 I1 r1 q1=>?_
 exact Constant_none (is_none_gen ⟨.bl _,H1,I1,by rw [r1.lD]; rfl,q1⟩)
theorem II {j pos'} (ha:PE X a ta):PC X .IsNot a (.Constant .none j pos') (y9 ta):=by
 intro pins s σ H Q I h
 refine fY (ha pins s σ H _ I h) λv s1 x H1 I1 r1 q1=>?_
 exact Constant_none (isnot_none_gen ⟨.bl _,H1,I1,by rw [r1.lD]; rfl,q1⟩)
def tB (t:TE):TT:=λσ H Q=>t σ H λx H1=>∃ c,x=.bl c/\Q c H1
theorem N7 {op:CmpOp} {t:TE} (h:PC X op a b t) (h1:behindInMarks op b=false:=by first | exact PJ _ (by decide) (by decide) | rfl):PE X (.Compare a [op] [b] pos) t:=λpins s σ H Q I hw=>wpAny_Compare1 (h pins s σ H Q I hw) h1
theorem DE {op:CmpOp} {t:TE} (h:PC X op a b t) (h1:behindInMarks op b=false:=by first | exact PJ _ (by decide) (by decide) | rfl):PT X (.Compare a [op] [b] pos) (tB t):=by
 intro pins s σ H Q I hw
 refine wpAny_isTrue_Compare1 (b7 (h pins s σ H _ I hw) λv s1 h1=>b7 h1 λu s2 h2=>b7 h2 λc s3 ⟨x,H1,I1,r1,q1⟩=>?_) h1
 obtain ⟨d,rfl,q⟩:=q1
 cases r1
 exact aOv ⟨H1,I1,q⟩
theorem ZG {e:Expr} {t:TE} (h:PE X e t) (he:∀ whole,isTrue e X.env whole=(do let v ← whole; standAt e.pos; holding [v] (truthy v)):=by intro _; rfl):PT X e (tB t):=by
 intro pins s σ H Q I hw
 refine isTrue_plain (fY (h pins s σ H _ I hw) λv s1 x H1 I1 r1 q1=>?_) (he _)
 obtain ⟨d,rfl,q⟩:=q1
 cases r1
 exact aOv ⟨H1,I1,q⟩
variable {tA CC:TT} {rest:List Expr}
def Fj (t u:TT):TT:=λσ H Q=>t σ H λc H1=>if c=true then u σ H1 Q else Q false H1
def LG (t u:TT):TT:=λσ H Q=>t σ H λc H1=>if c=true then Q true H1 else u σ H1 Q
def Fc (t:TT):TT:=λσ H Q=>t σ H λc H1=>Q (!c) H1
theorem Pf (ha:PT X a tA):PW X (.BoolOp .And [a] pos) tA:=by
 intro wh pins s σ H Q I h
 refine isTrue_and (b7 (ha pins s σ H Q I h) λc s1 e=>?_)
 cases c with
 | true=>exact isTrue_and_nil e
 | false=>exact e
theorem DC (ha:PT X a tA):PW X (.BoolOp .Or [a] pos) tA:=by
 intro wh pins s σ H Q I h
 refine isTrue_or (b7 (ha pins s σ H Q I h) λc s1 e=>?_)
 cases c with
 | false=>exact isTrue_or_nil e
 | true=>exact e
theorem N6 (ha:PT X a tA) (hb:PW X (.BoolOp .And (b :: rest) pos) CC):PW X (.BoolOp .And (a :: b :: rest) pos) (Fj tA CC):=by
 intro wh pins s σ H Q I h
 refine isTrue_and (b7 (ha pins s σ H _ I h) λc s1 ⟨H1,I1,q1⟩=>?_)
 cases c with
 | true=>exact hb wh pins s1 σ H1 Q I1 q1
 | false=>exact ⟨H1,I1,q1⟩
theorem pw_or (ha:PT X a tA) (hb:PW X (.BoolOp .Or (b :: rest) pos) CC):PW X (.BoolOp .Or (a :: b :: rest) pos) (LG tA CC):=by
 intro wh pins s σ H Q I h
 refine isTrue_or (b7 (ha pins s σ H _ I h) λc s1 ⟨H1,I1,q1⟩=>?_)
 cases c with
 | true=>exact ⟨H1,I1,q1⟩
 | false=>exact hb wh pins s1 σ H1 Q I1 q1
theorem sd (ha:PT X a tA):PT X (.UnaryOp .Not a pos) (Fc tA):=by
 intro pins s σ H Q I h
 exact isTrue_not (ha pins s σ H (λc H1=>Q (!c) H1) I h)
def zg (ta tb:TE):TE:=λσ H Q=>ta σ H λx H1=>∃ c,x=.bl c/\if c=true then tb σ H1 Q else Q (.bl false) H1
def Fb (ta tb:TE):TE:=λσ H Q=>ta σ H λx H1=>∃ c,x=.bl c/\if c=true then Q (.bl true) H1 else tb σ H1 Q
theorem Bo {op} {t:TE} (h:PE X a t):PE X (.BoolOp op [a] pos) t:=λpins s σ H Q I hw=>BoolOp_one (h pins s σ H Q I hw)
theorem Bm (ha:PE X a ta) (hb:PE X (.BoolOp .And (b :: rest) pos) tb):PE X (.BoolOp .And (a :: b :: rest) pos) (zg ta tb):=by
 intro pins s σ H Q I h
 refine BoolOp_and (fY (ha pins s σ H _ I h) λv s1 x H1 I1 r1 q1=>?_)
 obtain ⟨c,rfl,q1⟩:=q1
 cases r1
 refine aOv ?_
 cases c with
 | true=>exact hb pins s1 σ H1 Q I1 q1
 | false=>exact ⟨.bl false,H1,I1,rfl,q1⟩
theorem zJ (ha:PE X a ta) (hb:PE X (.BoolOp .Or (b :: rest) pos) tb):PE X (.BoolOp .Or (a :: b :: rest) pos) (Fb ta tb):=by
 intro pins s σ H Q I h
 refine BoolOp_or (fY (ha pins s σ H _ I h) λv s1 x H1 I1 r1 q1=>?_)
 obtain ⟨c,rfl,q1⟩:=q1
 cases r1
 refine aOv ?_
 cases c with
 | false=>exact hb pins s1 σ H1 Q I1 q1
 | true=>exact ⟨.bl true,H1,I1,rfl,q1⟩
def SV (t:TT) (ta tb:TE):TE:=λσ H Q=>t σ H λc H1=>if c=true then ta σ H1 Q else tb σ H1 Q
theorem xw {c:Expr} (hc:PT X c tA) (ha:PE X a ta) (hb:PE X b tb):PE X (.IfExp c a b pos) (SV tA ta tb):=by
 intro pins s σ H Q I h
 refine wpAny_IfExp (b7 (hc pins s σ H _ I h) λd s1 ⟨H1,I1,q1⟩=>?_)
 cases d with
 | true=>exact ha pins s1 σ H1 Q I1 q1
 | false=>exact hb pins s1 σ H1 Q I1 q1
end
def aG (K:W.Frag) (H:Hp) (a:Addr) (xs:List V):Prop :=
 Rd H a (.lst xs) \/
  ∃ (o:Obj) (its:Array Value) (n:Nat),K.lookup a=some o/\o.cls=.type "list" /\ o.dict=none/\o.data=.seq its n/\its.size<=sizeLine/\Vals xs its.toList
def aZ (K:W.Frag) (H:Hp) (a:Addr) (xs:List V):Prop :=
 Rd H a (.tup xs) \/
  ∃ (o:Obj) (its:Array Value) (n:Nat),K.lookup a=some o/\o.cls=.type "tuple" /\ o.data=.seq its n/\its.size<=sizeLine/\Vals xs its.toList
def HM:Value->Option V
 | .none=>some .aR
 | .bool b=>some (.bl b)
 | .int i _=>some (.int i)
 | .str x _=>some (.str x)
 | .bytes b _=>some (.oZ b)
 | .float b _=>some (.tN b)
 | .ref a=>some (.ref a)
 | .type n=>some (.ty n)
 | _=>none
theorem RelV.abs {x:V} {u:Value} (r:RelV x u):HM u=some x:=by
 cases x with
 | aR=>cases r; rfl
 | bl _=>cases r; rfl
 | int _=>obtain ⟨t,rfl⟩:=r; rfl
 | str _=>obtain ⟨t,rfl⟩:=r; rfl
 | oZ _=>obtain ⟨t,rfl⟩:=r; rfl
 | tN _=>obtain ⟨t,rfl⟩:=r; rfl
 | ref _=>cases r; rfl
 | ty _=>cases r; rfl
theorem RelV.inj {x y:V} {u:Value} (r:RelV x u) (q:RelV y u):x=y:=a6S (r.abs.symm.trans q.abs)
theorem Vals.inj:∀ {xs ys:List V} {us:List Value},Vals xs us->Vals ys us->xs=ys
 | _,_,_,.nil,.nil=>rfl
 | _,_,_,.cons r t,.cons r' t'=>by rw [r.inj r',Vals.inj t t']
section
variable {X:Cx} {pins:List (Addr×Obj)} {σ:St} {H:Hp} {s:Shared} {a:Addr} {xs ys:List V}
theorem aG.of {K:W.Frag} (h:H a=some (.lst xs)):aG K H a xs:=.inl (.inl h)
theorem aZ.of {K:W.Frag} (h:H a=some (.tup xs)):aZ K H a xs:=.inl (.inl h)
theorem Inv.list (I:Inv X pins σ H s) (h:aG X.K H a xs):∃ its:List Value,Vals xs its/\PlainL s.heap a its.toArray/\xs.length<=sizeLine:=by
 rcases h with h | ⟨o,its,n,hk,hc,hd,hs,hz,r⟩
 .obtain ⟨z,its,n,r,e⟩:=h.ok I.hok
  exact ⟨its,r,⟨_,n,e,rfl,rfl,rfl⟩,z⟩
 .refine ⟨its.toList,r,⟨o,n,I.eL a o hk,hc,hd,by simpa using hs⟩,?_⟩
  have e:=r.length
  simp only [aLz] at e
  lia
theorem Inv.tuple (I:Inv X pins σ H s) (h:aZ X.K H a xs):∃ its:List Value,Vals xs its/\IsTup s.heap a its.toArray/\xs.length<=sizeLine:=by
 rcases h with h | ⟨o,its,n,hk,hc,hs,hz,r⟩
 .obtain ⟨z,its,r,p⟩:=h.ok I.hok
  exact ⟨its,r,p,z⟩
 .refine ⟨its.toList,r,⟨o,I.eL a o hk,hc,n,by simpa using hs⟩,?_⟩
  have e:=r.length
  simp only [aLz] at e
  lia
theorem Inv.ie (I:Inv X pins σ H s) (h:aG X.K H a xs) (h':aG X.K H a ys):xs=ys:=by
 obtain ⟨its,r,⟨o,n,e,_,_,d⟩,_⟩:=I.list h
 obtain ⟨its',r',⟨o',n',e',_,_,d'⟩,_⟩:=I.list h'
 rw [e] at e'; cases e'
 rw [d] at d'
 injection d' with d1 _
 have:its=its':=by simpa using a5E Array.toList d1
 subst this
 exact r.inj r'
theorem Inv.iI (I:Inv X pins σ H s) (h:aZ X.K H a xs) (h':aZ X.K H a ys):xs=ys:=by
 obtain ⟨its,r,⟨o,e,_,n,d⟩,_⟩:=I.tuple h
 obtain ⟨its',r',⟨o',e',_,n',d'⟩,_⟩:=I.tuple h'
 rw [e] at e'; cases e'
 rw [d] at d'
 injection d' with d1 _
 have:its=its':=by simpa using a5E Array.toList d1
 subst this
 exact r.inj r'
end
abbrev Cx.jT (X:Cx) (E:Value->Shared->Prop):Cx:={ X with xe:=E }
abbrev Cx.vU (X:Cx):Cx:=X.jT λ_ _=>False
theorem Cx.Ok.jT {X:Cx} (ok:X.Ok) (E:Value->Shared->Prop):(X.jT E).Ok :=
 ⟨ok.mod,ok.kind,ok.glob,ok.blt,ok.above,ok.inj,ok.has,ok.Ba,ok.hd,ok.frames,ok.stk,ok.Dr,ok.bs,ok.rX,ok.qt,ok.qR,ok.jk,ok.wH⟩
theorem Cx.Ok.fD {X:Cx} {E:Value->Shared->Prop} (ok:(X.jT E).Ok):X.Ok :=
 ⟨ok.mod,ok.kind,ok.glob,ok.blt,ok.above,ok.inj,ok.has,ok.Ba,ok.hd,ok.frames,ok.stk,ok.Dr,ok.bs,ok.rX,ok.qt,ok.qR,ok.jk,ok.wH⟩
section
variable {X:Cx} {pins:List (Addr×Obj)} {σ:St} {H:Hp} {s:Shared} {E:Value->Shared->Prop}
theorem Inv.jT (I:Inv X pins σ H s) (E:Value->Shared->Prop):Inv (X.jT E) pins σ H s:=⟨I.ok.jT E,I.os,I.bare,I.base,I.loc,I.cell,I.free,I.dR,I.pin,I.hok,I.len⟩
theorem Inv.fD (I:Inv (X.jT E) pins σ H s):Inv X pins σ H s:=⟨I.ok.fD,I.os,I.bare,I.base,I.loc,I.cell,I.free,I.dR,I.pin,I.hok,I.len⟩
theorem SP.fD {D:Ends} {f:Flow} {s':Shared} (h:SP (X.jT E) pins D f s'):SP X pins D f s':=by
 cases f with
 | next=>obtain ⟨σ',H',I,q⟩:=h; exact ⟨σ',H',I.fD,q⟩
 | brk=>obtain ⟨σ',H',I,q⟩:=h; exact ⟨σ',H',I.fD,q⟩
 | cont=>obtain ⟨σ',H',I,q⟩:=h; exact ⟨σ',H',I.fD,q⟩
 | ret u=>obtain ⟨v,σ',H',I,r,q⟩:=h; exact ⟨v,σ',H',I.fD,r,q⟩
theorem pF.vU {st:List Stmt} {t:TS} (h:pF X.vU st t):pF X st t:=λpins s σ H D I hw =>
 ayO (h pins s σ H D (I.jT _) hw) (λ_ _ q=>q.fD) λ_ _ z=>False.elim z
end
section
variable {X:Cx} {st:Stmt} {rest:List Stmt} {t u:TS} {e:Expr} {te:TE} {pos:Pos}
def gg:TS:=λD σ H=>D.nx σ H
def p7 (t u:TS):TS:=λD σ H=>t { D with nx:=u D } σ H
theorem Zu:pF X [] gg:=λ_ _ σ H _ I h=>wpAny_execs_nil ⟨σ,H,I,h⟩
theorem Ze (h1:PS X st t) (h2:pF X rest u):pF X (st :: rest) (p7 t u):=by
 intro pins s σ H D I h
 refine wpAny_execs_cons (b7 (h1 pins s σ H { D with nx:=u D } I h) λf s1 q=>?_)
 cases f with
 | next =>
  obtain ⟨σ',H',I',q⟩:=q
  exact h2 pins s1 σ' H' D I' q
 | ret v=>exact q
 | brk=>exact q
 | cont=>exact q
theorem Zi (h1:PS X st t):pF X [st] t:=by
 intro pins s σ H D I h
 refine wpAny_execs_cons (b7 (h1 pins s σ H D I h) λf s1 q=>?_)
 cases f with
 | next=>exact wpAny_execs_nil q
 | ret v=>exact q
 | brk=>exact q
 | cont=>exact q
theorem Inv.quiet {pins:List (Addr×Obj)} {σ:St} {H:Hp} {s:Shared} (I:Inv X pins σ H s):interactive X.env=false:=by simp [interactive,I.ok.kind]
def ze (te:TE):TS:=λD σ H=>te σ H λ_ H1=>D.nx σ H1
theorem Zp (he:PE X e te) (hs:swapsWith e none pos.line X.env=pure false:=by rfl):PS X (.Expr e pos) (ze te):=by
 intro pins s σ H D I h
 exact wpAny_Expr_any (fY (he pins s σ H _ I h) λv s1 x H1 I1 r1 q1=>⟨σ,H1,I1,q1⟩) I.quiet hs
def E8 (te:TE):TS:=λD σ H=>te σ H D.rt
theorem Zt (he:PE X e te):PS X (.Return (some e) pos) (E8 te):=by
 intro pins s σ H D I h
 exact wpAny_Return_some (fY (he pins s σ H _ I h) λv s1 x H1 I1 r1 q1=>⟨x,σ,H1,I1,r1,q1⟩)
def yX:TS:=λD _ H=>D.rt .aR H
theorem Pe:PS X (.Return none pos) yX:=λ_ _ σ H _ I h=>wpAny_Return_none ⟨.aR,σ,H,I,rfl,h⟩
def zc (c:TT) (t u:TS):TS:=λD σ H=>c σ H λb H1=>if b=true then t D σ H1 else u D σ H1
theorem aJ {c:Expr} {a b:List Stmt} {tc:TT} (hc:PT X c tc) (ha:pF X a t) (hb:pF X b u):PS X (.If c a b pos) (zc tc t u):=by
 intro pins s σ H D I h
 refine wpAny_If (b7 (hc pins s σ H _ I h) λd s1 ⟨H1,I1,q1⟩=>?_)
 cases d with
 | true=>exact ha pins s1 σ H1 D I1 q1
 | false=>exact hb pins s1 σ H1 D I1 q1
end
abbrev TG:=V->St->Hp->(St->Hp->Prop)->Prop
abbrev vn:=List V->St->Hp->(St->Hp->Prop)->Prop
def PG (X:Cx) (target:Expr) (t:TG):Prop :=
 ∀ (pins:List (Addr×Obj)) (s:Shared) (σ:St) (H:Hp) (v:V) (u:Value) (Q:St->Hp->Prop),Inv X pins σ H s->RelV v u->t v σ H Q ->
  wpAny (model X.prog X.w) X.A (assign target X.env u) (λ_ s'=>∃ σ' H',Inv X pins σ' H' s'/\Q σ' H') X.xe s
def Cd (X:Cx) (ts:List Expr) (t:vn):Prop :=
 ∀ (pins:List (Addr×Obj)) (s:Shared) (σ:St) (H:Hp) (vs:List V) (us:List Value) (Q:St->Hp->Prop),Inv X pins σ H s->Vals vs us->t vs σ H Q ->
  wpAny (model X.prog X.w) X.A (assignInOrder ((assignEach ts X.env).map (·.2)) us) (λ_ s'=>∃ σ' H',Inv X pins σ' H' s'/\Q σ' H') X.xe s
abbrev xA:=V->V->V->Hp->(Hp->Prop)->Prop
def Cc (X:Cx) (t:xA):Prop :=
 ∀ (pins:List (Addr×Obj)) (s:Shared) (σ:St) (H:Hp) (o i v:V) (ov iv u:Value) (Q:Hp->Prop),Inv X pins σ H s->RelV o ov->RelV i iv->RelV v u->t o i v H Q ->
  wpAny (model X.prog X.w) X.A (setItem ov iv u) (λ_ s'=>∃ H',Inv X pins σ H' s'/\Q H') X.xe s
section
variable {X:Cx} {pos:Pos}
def fP (i:Nat):TG:=λv σ H Q=>Q (σ.set i (some v)) H
theorem Xy {i:Nat} {x:Str} (hN:X.N.Nodup) (hi:X.N[i]?=some x) (hx:Loc X.env.scope x) (hf:X.fn x=true\/X.env.scope.names.lookup x=some .local:=by first | exact .inl rfl | exact .inr rfl | assumption):PG X (.Name x pos) (fP i):=by
 intro pins s σ H v u Q I r h
 exact wpAny_assign_Name (xx I hN hi hx r (λs' I'=>⟨_,H,I',h⟩) hf)
def Hs:vn:=λvs σ H Q=>vs=[]/\Q σ H
def AM (t:TG) (u:vn):vn:=λvs σ H Q=>∃ v r,vs=v :: r/\t v σ H λσ' H'=>u r σ' H' Q
theorem ZY:Cd X [] Hs:=by
 intro pins s σ H vs us Q I r h
 obtain ⟨e,h⟩:=h
 subst e
 cases r
 exact assignInOrder_nil ⟨σ,H,I,h⟩
theorem Zr {e:Expr} {es:List Expr} {t:TG} {u:vn} (h1:PG X e t) (h2:Cd X es u)
  (hs:(assignEach (e :: es) X.env).map (·.2)=assign e X.env :: (assignEach es X.env).map (·.2):=by rfl):Cd X (e :: es) (AM t u):=by
 intro pins s σ H vs us Q I r h
 obtain ⟨v,vr,e1,h⟩:=h
 subst e1
 cases r with
 | cons r rr =>
  rw [hs]
  refine a3C (b7 (h1 pins s σ H _ _ _ I r h) λ_ s1 ⟨σ1,H1,I1,q1⟩=>?_)
  exact h2 pins s1 σ1 H1 _ _ Q I1 rr q1
def AL (K:W.Frag) (n:Nat) (t:vn):TG:=λv σ H Q=>∃ a xs,v=.ref a/\aZ K H a xs/\xs.length=n/\t xs σ H Q
theorem WT {es:List Expr} {k:Nat} {t:vn} {n:Nat} (hc:X.calm=true) (h:Cd X es t)
  (hn:(assignEach es X.env).length=n:=by rfl) (hst:(assignEach es X.env).findIdx? (·.1)=none:=by rfl):PG X (.Tuple es k pos) (AL X.K n t):=by
 intro pins s σ H v u Q I r hw
 obtain ⟨a,xs,e1,hq,hl,hw⟩:=hw
 subst e1
 cases r
 obtain ⟨its,rv,ht,hz⟩:=I.tuple hq
 refine assign_Tuple_tuple (I.ok.hd hc) ht (by simp [hn,← hl,rv.length]) hst λh' hx=>?_
 have I1:Inv X pins σ H { s with heap:=h' }:=I.kept (t':=s.toks) λb o e=>hx b o (anq (aSe e)) e
 exact h pins _ σ H xs _ Q I1 (by simpa using rv) hw
def Hr (to ti:TE) (t:xA):TG:=λv σ H Q=>to σ H λo H1=>ti σ H1 λi H2=>t o i v H2 λH3=>Q σ H3
theorem wZ {o i:Expr} {to ti:TE} {t:xA} (ho:PE X o to) (hi:PE X i ti) (hs:Cc X t)
  (ha:∀ v,assign (.Subscript o i pos) X.env v=(do
   let ov ← holding [v] (eval o X.env)
   let iv ← holding [v,ov] (eval i X.env)
   standAt pos
   holding [v,ov,iv] (setItem ov iv v)
   release [v,ov,iv] []):=by intro _; rfl):PG X (.Subscript o i pos) (Hr to ti t):=by
 intro pins s σ H v u Q I r h
 rw [ha]
 refine aHI (aOb (fY (ho pins s σ H _ I h) λov s1 x H1 I1 r1 q1=>?_))
 refine aHI (aOb (fY (hi pins s1 σ H1 _ I1 q1) λiv s2 y H2 I2 r2 q2=>?_))
 refine aHI (aSN (aHI (aOb (b7 (hs pins s2 σ H2 x y v ov iv u _ I2 r1 r2 r q2) λ_ s3 ⟨H3,I3,q3⟩=>?_))))
 exact wpAny_release ⟨σ,H3,I3,q3⟩
def oO (te:TE) (g:TG):TS:=λD σ H=>te σ H λx H1=>g x σ H1 D.nx
theorem lY {tg e:Expr} {te:TE} {g:TG} (he:PE X e te) (hg:PG X tg g) (hs:swapsWithSole [tg] e pos.line X.env=pure false:=by rfl) (hw:swappedStores [tg] e X.env=pure none:=by rfl)
  (h1:(assignEach [tg] X.env).map (·.2)=[assign tg X.env]:=by rfl):PS X (.Assign [tg] e pos) (oO te g):=by
 intro pins s σ H D I h
 refine wpAny_Assign_stores (fY (he pins s σ H _ I h) λv s1 x H1 I1 r1 q1=>?_) hs hw
 rw [h1]
 exact b7 (hg pins s1 σ H1 x v _ I1 r1 q1) λ_ s2 q=>q
theorem V3 {i:Nat} {x:Str} {e:Expr} {te:TE} {pos':Pos} (hN:X.N.Nodup) (hi:X.N[i]?=some x) (hx:Loc X.env.scope x) (he:PE X e te) (hs:swapsWith e (some (.Name x pos')) pos.line X.env=pure false:=by rfl) (hf:X.fn x=true\/X.env.scope.names.lookup x=some .local:=by first | exact .inl rfl | exact .inr rfl | assumption) :
  PS X (.Assign [.Name x pos'] e pos) (oO te (fP i)):=by
 intro pins s σ H D I h
 refine wpAny_Assign_Name (fY (he pins s σ H _ I h) λv s1 y H1 I1 r1 q1=>?_) hs
 exact xx I1 hN hi hx r1 (λs2 I2=>⟨_,H1,I2,q1⟩) hf
def E9 (i j:Nat) (ta:TA):TS:=λD σ H=>ta σ H λvs H1=>∃ v w,vs=[v,w]/\D.nx ((σ.set i (some v)).set j (some w)) H1
theorem Iz {i j:Nat} {x y:Str} {a b:Expr} {ta:TA} {px py pt:Pos} {kt k2 vM} (hc:X.calm=true) (hN:X.N.Nodup) (hi:X.N[i]?=some x) (hj:X.N[j]?=some y) (hij:i≠j)
  (hx:X.env.scope.names.lookup x=some .local) (hy:X.env.scope.names.lookup y=some .local) (ha:PA X [a,b] ta)
  (hw:swappedStores [.Tuple [.Name x px,.Name y py] kt pt] (.Tuple [a,b] k2 vM) X.env=pure (some [x,y]))
  (hs:swapsWithSole [.Tuple [.Name x px,.Name y py] kt pt] (.Tuple [a,b] k2 vM) pos.line X.env=pure false:=by rfl) :
  PS X (.Assign [.Tuple [.Name x px,.Name y py] kt pt] (.Tuple [a,b] k2 vM) pos) (E9 i j ta):=by
 intro pins s σ H D I h
 rw [exec_Assign_arm]
 refine aHI (aSN ?_)
 rw [hs]
 refine aHI (ag7 ?_)
 rw [aYW (by decide)]
 refine aHI (Tuple_ (mG (ha _ pins s σ H _ I h) λus s1 vs H1 I1 r1 q1=>?_))
 obtain ⟨v,w,e1,q1⟩:=q1
 subst e1
 obtain ⟨u1,u2,rfl,rv,rw'⟩:∃ u1 u2,us=[u1,u2]/\RelV v u1/\RelV w u2:=by
  cases r1 with
  | cons p q =>
   cases q with
   | cons p' q' =>
    cases q'
    exact ⟨_,_,rfl,p,p'⟩
 refine aV5 ?_ (by show 2<=sizeLine; decide)
 have I2:Inv X pins σ H1 { s1 with heap:=s1.heap.push { cls:=.type "tuple",data:=.seq [u1,u2].toArray } }:=I1.kept (t':=s1.toks) λb o e=>aIi _ e
 rw [hw]
 refine aHI (ag7 ?_)
 show wpAny (model X.prog X.w) X.A (do rule "assign.swapped-stores"; let items ← unpackItems (.ref s1.heap.objs.size) 2 none; assignInOrder [λv=>bindName X.env y v,λv=>bindName X.env x v] items.reverse; pure Flow.next) _ _ _
 refine aHI (aGu (aHI (unpackItems_tuple (items:=#[u1,u2]) (I.ok.hd hc) (IsTup.new s1.heap _) λh' hx'=>?_)))
 have I3:=I2.kept (h':=h') (t':=s1.toks) λb o e=>hx' b o (anq (aSe e)) e
 show wpAny _ _ (assignInOrder [λv=>bindName X.env y v,λv=>bindName X.env x v] [u2,u1] >>= λ_=>pure Flow.next) _ _ _
 refine aHI (a3C (ah4 (xx I3 hN hj (.inl hy) rw' (λs2 I4=>?_) (.inr hy))))
 refine a3C (ah4 (xx I4 hN hi (.inl hx) rv (λs3 I5=>assignInOrder_nil (ag7 ?_)) (.inr hx)))
 rw [List.set_comm _ _ (aI4 hij)] at I5
 exact ⟨_,H1,I5,q1⟩
end
structure It where
 go:Nat->Hp->Prop
 nA:Nat->Hp->V->Hp->Prop
 stop:Nat->Hp->Prop
def jq (X:Cx) (pins:List (Addr×Obj)) (H:Hp) (b:Addr):Prop :=
 H b=none/\b≠X.env.locals/\b∉X.fs/\(b∈X.ex\/X.s₀.heap.objs.size<=b)/\(∀ x c,X.env.cells.lookup x=some c->c≠b)/\∀ p∈X.pn++pins,p.1≠b
theorem Inv.mW {X:Cx} {pins:List (Addr×Obj)} {σ:St} {H H':Hp} {s:Shared} {b:Addr} (I:Inv X pins σ H s) (hb:s.heap.objs.size<=b) (hn:H' b=none):jq X pins H' b:=by
 refine ⟨hn,aHs (a6M I.lt hb),I.zW hb,.inr (auj I.sz hb),λx c e z=>?_,λp hp z=>?_⟩
 .obtain ⟨v,q⟩:=I.cell x c e
  exact absurd (a6M q.lt (by rw [z]; exact hb)) (aXl _)
 .exact absurd (a6M (aSe (I.pin p hp).1) (by rw [z]; exact hb)) (aXl _)
structure Turn (P:Program) (w:World) (K:W.Frag) (tg:Expr) (J:It) (fp:List Addr) (it:Addr) (tn:Nat->Heap->Prop):Prop where
 mem:it∈fp
 obj:∀ i h,tn i h->∀ b∈fp,∃ o,h.get? b=some o/\∀ v,o.data≠.cell v
 keep:∀ i h h',tn i h->(∀ b∈fp,∀ o,h.get? b=some o->h'.get? b=some o)->tn i h'
 item:∀ (X:Cx),X.prog=P->X.w=w->X.K=K->X.calm=true->∀ (i:Nat) (pins:List (Addr×Obj)) (s:Shared) (σ:St) (H:Hp) (E:Value->Shared->Prop),Inv X pins σ H s->(∀ b∈fp,jq X pins H b)->tn i s.heap->J.go i H ->
  wpAny (model P w) X.A (pyNext (.ref it)) (λr s1=>∃ u,r=some u /\
   wpAny (model P w) X.A (letOwnedTupleGo tg (.ref it) u) (λ_ s2=>∃ x H',Inv X pins σ H' s2/\RelV x u/\J.nA i H x H'/\tn (i+1) s2.heap/\∀ b∈fp,H' b=none) E s1) E s
 done:∀ (X:Cx),X.prog=P->X.w=w->X.K=K->X.calm=true->∀ (i:Nat) (pins:List (Addr×Obj)) (s:Shared) (σ:St) (H:Hp) (E:Value->Shared->Prop),Inv X pins σ H s->(∀ b∈fp,jq X pins H b)->tn i s.heap->J.stop i H ->
  wpAny (model P w) X.A (pyNext (.ref it)) (λr s1=>r=none/\Inv X pins σ H s1) E s
 self:∀ (A:Around) (i:Nat) (s:Shared) (Q:Value->Shared->Prop) (E:Value->Shared->Prop),tn i s.heap->Q (.ref it) s->wpAny (model P w) A (pyIter (.ref it)) Q E s
abbrev TI:=St->Hp->(It->Hp->Prop)->Prop
def Q5 (X:Cx) (pins:List (Addr×Obj)) (σ:St) (tg:Expr) (R:It->Hp->Prop) (itv:Value) (s2:Shared):Prop :=
 ∃ (it:Addr) (fp:List Addr) (tn:Nat->Heap->Prop) (J:It) (H':Hp),itv=.ref it/\Inv X pins σ H' s2/\Turn X.prog X.w X.K tg J fp it tn/\tn 0 s2.heap/\(∀ b∈fp,jq X pins H' b)/\R J H'
def PI (X:Cx) (tg iter:Expr) (wi:TI):Prop :=
 ∀ (pins:List (Addr×Obj)) (s:Shared) (σ:St) (H:Hp) (R:It->Hp->Prop),Inv X pins σ H s->wi σ H R ->
  wpAny (model X.prog X.w) X.A (eval iter X.env) (λv s1=>wpAny (model X.prog X.w) X.A (pyIter v) (Q5 X pins σ tg R) X.xe s1) X.xe s
theorem qO {M:Model} {A:Around} {E:Value->Shared->Prop} {s:Shared} {tg:Expr} {it:Addr} {u:Value} {o:Obj} {n:String} {vs:Array Value} {Q:Unit->Shared->Prop} (ho:s.heap.get? it=some o) (hc:o.cls=.type n) (hd:o.data=.fields vs)
  (hn:["enumerate", "zip", "dict_itemiterator", "dict_reverseitemiterator", "odict_iterator", "itertools.zip_longest", "itertools.pairwise"].contains n=false) (hQ:Q () s):wpAny M A (letOwnedTupleGo tg (.ref it) u) Q E s:=by
 unfold letOwnedTupleGo
 cases tg <;> first
  | exact ag7 hQ
  | (cases u <;> first
    | exact ag7 hQ
    | (refine aHI (wpAny_load ho ?_)
       rw [hc,hd]
       show wpAny M A (if (["enumerate", "zip", "dict_itemiterator", "dict_reverseitemiterator", "odict_iterator", "itertools.zip_longest", "itertools.pairwise"].contains n && vs[0]? == some (rawInt _))=true then _ else _) Q E s
       rw [aYW (by intro h; rw [hn,Bool.false_and] at h; cases h)]
       exact ag7 hQ))
def vt (K:W.Frag) (a:Addr):It :=
 ⟨λi H=>∃ xs x,aG K H a xs/\xs[i]?=some x,λi H x H'=>H'=H/\∀ xs,aG K H a xs->xs[i]?=some x,λi H=>∃ xs,aG K H a xs/\xs.length<=i⟩
def vq (K:W.Frag) (a:Addr):It :=
 ⟨λi H=>∃ xs x,aZ K H a xs/\xs[i]?=some x,λi H x H'=>H'=H/\∀ xs,aZ K H a xs->xs[i]?=some x,λi H=>∃ xs,aZ K H a xs/\xs.length<=i⟩
def ua (lo:Int) (n:Nat):It:=⟨λi _=>i<n,λi H x H'=>H'=H/\x=.int (lo+i),λi _=>n<=i⟩
theorem Z6 {P:Program} {w:World} {K:W.Frag} {tg:Expr} (a it:Addr):Turn P w K tg (vt K a) [it] it (λi h=>h.IsListIter it a i) where
 mem:=by simp
 obj:=λi h st b hb=>by
  have e:b=it:=by simpa using hb
  subst e
  obtain ⟨o,e,c,d⟩:=st
  exact ⟨o,e,λv z=>by rw [d] at z; cases z⟩
 keep:=λi h h' st k=>st.at λo e=>k it (by simp) o e
 item:=by
  intro X hP hw hK hc i pins s σ H E I hf st hg
  subst hP hw hK
  obtain ⟨xs,x,hq,hx⟩:=hg
  obtain ⟨its,rv,p,hz⟩:=I.list hq
  obtain ⟨u,hu,ru⟩:=rv.get hx
  obtain ⟨f0,f1,f2,f3,f4,f5⟩:=hf it (by simp)
  refine wpAny_pyNext_list_item st p.isList (x:=u) (by simpa using hu) λh' st' sb=>?_
  have I1:Inv X pins σ H { s with heap:=h' }:=I.turned (t':=s.toks) (λb o hb e=>(sb.2 b hb).trans e) f0 f1 f3 f4 f5
  obtain ⟨o,e,c,d⟩:=id st'
  exact ⟨u,rfl,qO (s:={ s with heap:=h' }) e c d (by decide) ⟨x,H,I1,ru,⟨rfl,λys hy=>by rw [I.ie hy hq]; exact hx⟩,st',λb hb=>(hf b hb).1⟩⟩
 done:=by
  intro X hP hw hK hc i pins s σ H E I hf st hg
  subst hP hw hK
  obtain ⟨xs,hq,hx⟩:=hg
  obtain ⟨its,rv,p,hz⟩:=I.list hq
  obtain ⟨f0,f1,f2,f3,f4,f5⟩:=hf it (by simp)
  have hl:=rv.length
  exact wpAny_pyNext_list_end (I.ok.hd hc) st p.isList (by simp; lia) λh' eb=>⟨rfl,I.turned (t':=s.toks) (λb o hb e=>eb b o hb e) f0 f1 f3 f4 f5⟩
 self:=λ_ _ _ _ _ st h=>wpAny_pyIter_listiter st h
theorem Z3 {P:Program} {w:World} {K:W.Frag} {tg:Expr} (a it:Addr):Turn P w K tg (vq K a) [it] it (λi h=>h.IsTupleIter it a i) where
 mem:=by simp
 obj:=λi h st b hb=>by
  have e:b=it:=by simpa using hb
  subst e
  obtain ⟨o,e,c,d⟩:=st
  exact ⟨o,e,λv z=>by rw [d] at z; cases z⟩
 keep:=λi h h' st k=>st.at λo e=>k it (by simp) o e
 item:=by
  intro X hP hw hK hc i pins s σ H E I hf st hg
  subst hP hw hK
  obtain ⟨xs,x,hq,hx⟩:=hg
  obtain ⟨its,rv,p,hz⟩:=I.tuple hq
  obtain ⟨u,hu,ru⟩:=rv.get hx
  obtain ⟨f0,f1,f2,f3,f4,f5⟩:=hf it (by simp)
  refine wpAny_pyNext_tuple_item st (show s.heap.IsTuple a its.toArray from p) (x:=u) (by simpa using hu) λh' st' sb=>?_
  have I1:Inv X pins σ H { s with heap:=h' }:=I.turned (t':=s.toks) (λb o hb e=>(sb.2 b hb).trans e) f0 f1 f3 f4 f5
  obtain ⟨o,e,c,d⟩:=id st'
  exact ⟨u,rfl,qO (s:={ s with heap:=h' }) e c d (by decide) ⟨x,H,I1,ru,⟨rfl,λys hy=>by rw [I.iI hy hq]; exact hx⟩,st',λb hb=>(hf b hb).1⟩⟩
 done:=by
  intro X hP hw hK hc i pins s σ H E I hf st hg
  subst hP hw hK
  obtain ⟨xs,hq,hx⟩:=hg
  obtain ⟨its,rv,p,hz⟩:=I.tuple hq
  obtain ⟨f0,f1,f2,f3,f4,f5⟩:=hf it (by simp)
  have hl:=rv.length
  exact wpAny_pyNext_tuple_end (I.ok.hd hc) st (show s.heap.IsTuple a its.toArray from p) (by simp; lia) λh' eb=>⟨rfl,I.turned (t':=s.toks) (λb o hb e=>eb b o hb e) f0 f1 f3 f4 f5⟩
 self:=λ_ _ _ _ _ st h=>wpAny_pyIter_tupleiter st h
theorem Z2 {P:Program} {w:World} {K:W.Frag} {tg:Expr} (it:Addr) (lo:Int) (n:Nat):Turn P w K tg (ua lo n) [it] it (λi h=>IsRangeIter h it (lo+(i:Nat) * 1) ((n:Int) - (i:Nat)) 1) where
 mem:=by simp
 obj:=λi h st b hb=>by
  have e:b=it:=by simpa using hb
  subst e
  exact ⟨_,st,λv z=>by
   have z':Data.fields _=Data.cell v:=z
   cases z'⟩
 keep:=λi h h' st k=>k it (by simp) _ st
 item:=by
  intro X hP hw hK hc i pins s σ H E I hf st hg
  subst hP hw hK
  obtain ⟨f0,f1,f2,f3,f4,f5⟩:=hf it (by simp)
  have W:=Walks.range (prog:=X.prog) (w:=X.w) (I.ok.hd hc) it lo 1 n
  refine W.item i s _ _ hg st λv h' tk hv st' kk=>?_
  obtain ⟨t,rfl⟩:=hv
  have I1:Inv X pins σ H { s with heap:=h',toks:=tk }:=I.turned (λb o hb e=>kk b o (by simpa using hb) e) f0 f1 f3 f4 f5
  refine ⟨_,rfl,qO (s:={ s with heap:=h',toks:=tk }) (n := "range_iterator") st' rfl rfl (by decide) ⟨.int (lo+i),H,I1,⟨t,?_⟩,⟨rfl,rfl⟩,st',λb hb=>(hf b hb).1⟩⟩
  rw [Int.mul_one]
 done:=by
  intro X hP hw hK hc i pins s σ H E I hf st hg
  subst hP hw hK
  obtain ⟨f0,f1,f2,f3,f4,f5⟩:=hf it (by simp)
  exact wpAny_pyNext_range_end (I.ok.hd hc) st (by have:n<=i:=hg; lia) λh' eb=>⟨rfl,I.turned (t':=s.toks) (λb o hb e=>eb b o hb e) f0 f1 f3 f4 f5⟩
 self:=λ_ _ _ _ _ st h=>wpAny_pyIter_rangeiter st h
section
variable {X:Cx} {tg:Expr}
def uN (K:W.Frag) (tl:TE):TI:=λσ H R=>tl σ H λx H1=>∃ a,x=.ref a/\(∃ xs,aG K H1 a xs)/\R (vt K a) H1
def Aw (K:W.Frag) (tl:TE):TI:=λσ H R=>tl σ H λx H1=>∃ a,x=.ref a/\(∃ xs,aZ K H1 a xs)/\R (vq K a) H1
theorem Xx {l:Expr} {tl:TE} (hl:PE X l tl):PI X tg l (uN X.K tl):=by
 intro pins s σ H R I h
 refine fY (hl pins s σ H _ I h) λv s1 x H1 I1 r1 q1=>?_
 obtain ⟨a,e,⟨xs,hq⟩,q⟩:=q1
 subst e
 cases r1
 obtain ⟨its,rv,p,hz⟩:=I1.list hq
 refine wpAny_pyIter_list p.isList ?_
 refine ⟨s1.heap.objs.size,[s1.heap.objs.size],_,_,H1,rfl,I1.kept (t':=s1.toks) λb o e=>aIi _ e,Z6 a _,⟨_,a3a _ rfl,rfl,rfl⟩,λb hb=>?_,q⟩
 have e:b=s1.heap.objs.size:=by simpa using hb
 subst e
 exact I1.mW (aDN _) (I1.hok.fresh (aDN _))
theorem V2 {l:Expr} {tl:TE} (hl:PE X l tl):PI X tg l (Aw X.K tl):=by
 intro pins s σ H R I h
 refine fY (hl pins s σ H _ I h) λv s1 x H1 I1 r1 q1=>?_
 obtain ⟨a,e,⟨xs,hq⟩,q⟩:=q1
 subst e
 cases r1
 obtain ⟨its,rv,p,hz⟩:=I1.tuple hq
 refine wpAny_pyIter_tuple (show s1.heap.IsTuple a its.toArray from p) ?_
 refine ⟨s1.heap.objs.size,[s1.heap.objs.size],_,_,H1,rfl,I1.kept (t':=s1.toks) λb o e=>aIi _ e,Z3 a _,⟨_,a3a _ rfl,rfl,rfl⟩,λb hb=>?_,q⟩
 have e:b=s1.heap.objs.size:=by simpa using hb
 subst e
 exact I1.mW (aDN _) (I1.hok.fresh (aDN _))
theorem XX {pins:List (Addr×Obj)} {σ:St} {H:Hp} {s:Shared} {R:It->Hp->Prop} {E:Value->Shared->Prop} {lo hi:Int} {t u v:Tok} {tk:Nat} (I:Inv X pins σ H s) (h1 : -(2 ^ 62)<=lo) (h2:lo<2 ^ 62) (h3 : -(2 ^ 62)<=hi) (h4:hi<2 ^ 62)
  (q:R (ua lo (hi - lo).toNat) H):wpAny (model X.prog X.w) X.A (pyIter (.ref s.heap.objs.size)) (Q5 X pins σ tg R) E { s with heap:=s.heap.push { cls:=.type "range",data:=.fields #[.int lo t,.int hi u,.int 1 v] },toks:=tk }:=by
 refine wpAny_pyIter_range (IsRange.new ..) (small_one h1 h2 h3 h4) ?_
 have I1:Inv X pins σ H { s with heap:=s.heap.push { cls:=.type "range",data:=.fields #[.int lo t,.int hi u,.int 1 v] },toks:=tk }:=I.kept λb o e=>aIi _ e
 refine ⟨(s.heap.push { cls:=.type "range",data:=.fields #[.int lo t,.int hi u,.int 1 v] }).objs.size,[(s.heap.push { cls:=.type "range",data:=.fields #[.int lo t,.int hi u,.int 1 v] }).objs.size],_,_,H,rfl,
  I1.kept (t':=tk) λb o e=>aIi _ e,Z2 _ lo (hi - lo).toNat,?_,λb hb=>?_,q⟩
 .have e1:lo+((0:Nat):Int) * 1=lo:=by simp
  have e2:(((hi - lo).toNat:Nat):Int) - ((0:Nat):Int)=Builtin.Range.rangeSize lo hi 1:=by rw [rangeSize_one]; split <;> lia
  show IsRangeIter _ _ (lo+((0:Nat):Int) * 1) ((((hi - lo).toNat:Nat):Int) - ((0:Nat):Int)) 1
  rw [e1,e2]
  exact a3a _ rfl
 .have e:b=(s.heap.push { cls:=.type "range",data:=.fields #[.int lo t,.int hi u,.int 1 v] }).objs.size:=by simpa using hb
  subst e
  exact I1.mW (aDN _) (I1.hok.fresh (aDN _))
def Ax (ta:TA):TI:=λσ H R=>ta σ H λvs H1=>∃ j:Int,vs=[.int j] /\ -(2 ^ 62)<=j/\j<2 ^ 62/\R (ua 0 j.toNat) H1
theorem sr {a:Expr} {ta:TA} {p pos:Pos} (hg:Gl X "range") (hm:X.mg "range" = none) (ha:PA X [a] ta) (hs:starEach [a] X.env=[(false,eval a X.env)]:=by rfl):PI X tg (.Call (.Name "range" p) [a] [] pos) (Ax ta):=by
 intro pins s σ H R I h
 refine Call_ (se I hg hm boot_range (awR (mG (ha pos pins s σ H _ I h) λus s1 vs H1 I1 r1 q1=>?_) hs rfl))
 obtain ⟨j,e,q1,q2,q⟩:=q1
 subst e
 cases r1 with
 | cons r rr =>
  cases rr
  obtain ⟨t,rfl⟩:=r
  exact call_range_1 (XX I1 (by lia) (by lia) q1 q2 (by simpa using q))
def Ff (wi:TI) (g:TG) (tb:TS):TS:=λD σ H=>wi σ H λJ H1=>∃ W:Nat->Nat->St->Hp->Prop,(∃ m,W 0 m σ H1)/\∀ i m σ H,W i m σ H ->
 (J.stop i H/\D.nx σ H)\/(J.go i H/\∃ N:St->Hp->Prop,(∀ σ' H',N σ' H'->∃ m',m'<m/\W (i+1) m' σ' H')/\∀ x H',J.nA i H x H'->g x σ H' λσ2 H2=>tb { D with nx:=N,ct:=N,bk:=D.nx } σ2 H2)
def Bl (fp:List Addr) (h:Heap):List (Addr×Obj):=fp.filterMap λb=>(h.get? b).map λo=>(b,o)
theorem El {fp:List Addr} {h:Heap} {b:Addr} {o:Obj} (hb:b∈fp) (e:h.get? b=some o):(b,o)∈Bl fp h:=List.mem_filterMap.mpr ⟨b,hb,by rw [e]; rfl⟩
theorem Z5 {fp:List Addr} {h:Heap} {p:Addr×Obj} (hp:p∈Bl fp h):p.1∈fp/\h.get? p.1=some p.2:=by
 obtain ⟨b,hb,e⟩:=List.mem_filterMap.mp hp
 cases q:h.get? b with
 | none=>rw [q] at e; cases e
 | some o =>
  rw [q] at e
  have e':(b,o)=p:=a6S e
  subst e'
  exact ⟨hb,q⟩
theorem Inv.pinned {pins:List (Addr×Obj)} {σ:St} {H:Hp} {s:Shared} {fp:List Addr} (I:Inv X pins σ H s) (hf:∀ b∈fp,jq X pins H b) (ho:∀ b∈fp,∃ o,s.heap.get? b=some o/\∀ v,o.data≠.cell v):Inv X (pins++Bl fp s.heap) σ H s :=
 I.nZ λp hp=>(ais.mp hp).elim (λz=>I.pin p (baP _ z)) λz=>by
  obtain ⟨hb,e⟩:=Z5 z
  obtain ⟨f0,f1,f2,_⟩:=hf p.1 hb
  obtain ⟨o,e',d⟩:=ho p.1 hb
  rw [e] at e'; cases e'
  exact ⟨e,f0,f1,f2,d⟩
theorem Inv.gR {pins pl:List (Addr×Obj)} {σ:St} {H:Hp} {s:Shared} (I:Inv X (pins++pl) σ H s):Inv X pins σ H s:=I.nZ λp hp=>I.pin p (baP _ (ahE _ hp))
theorem rZ {iter:Expr} {body:List Stmt} {wi:TI} {g:TG} {tb:TS} {pos:Pos} (hp:PassesOwn (model X.prog X.w) X.A X.env X.xe) (hc:X.calm=true) (hi:PI X tg iter wi) (hg:PG X tg g) (hb:pF X body tb)
  (hs:∀ x,foldedSetIterable iter X.env x=pure x:=by intro _; rfl):PS X (.For tg iter body [] pos) (Ff wi g tb):=by
 intro pins s σ H D I h
 refine wpAny_For (b7 (hi pins s σ H _ I h) λv s1 h1=>b7 h1 λitv s2 h2=>?_) hs
 obtain ⟨it,fp,tn,J,H2,e,I2,T,st2,f2,W,⟨m0,w0⟩,turn⟩:=h2
 subst e
 have mH:∀ {H':Hp},(∀ b∈fp,H' b=none)->∀ b∈fp,jq X pins H' b:=λhn b hb=>⟨hn b hb,(f2 b hb).2⟩
 refine codeAny_forLoop_any (λn s'=>∃ i σ' H',Inv X pins σ' H' s'/\tn i s'.heap/\(∀ b∈fp,H' b=none)/\W i n σ' H') ?_ m0 ⟨0,σ,H2,I2,st2,λb hb=>(f2 b hb).1,w0⟩
 rintro n s3 ⟨i,σ3,H3,I3,st3,yo,w3⟩
 rcases turn i n σ3 H3 w3 with ⟨stop,qn⟩ | ⟨go,N,hN,step⟩
 .refine aKK hp (b7 (T.done X rfl rfl rfl hc i pins s3 σ3 H3 X.xe I3 (mH yo) st3 stop) λr s4 ⟨hr,I4⟩=>?_)
  subst hr
  exact wpAny_execs_nil ⟨σ3,H3,I4,qn⟩
 .refine aKK hp (b7 (T.item X rfl rfl rfl hc i pins s3 σ3 H3 X.xe I3 (mH yo) st3 go) λr s4 ⟨u,hr,h4⟩=>?_)
  subst hr
  refine aKK hp (b7 h4 λ_ s5 ⟨x,H5,I5,r5,y5,sE,Dq⟩=>?_)
  have I5':=I5.pinned (mH Dq) (T.obj _ _ sE)
  refine aKK hp (b7 (hg _ s5 σ3 H5 x u _ I5' r5 (step x H5 y5)) λ_ s6 ⟨σ6,H6,I6,q6⟩=>?_)
  refine aKK hp (b7 (hb _ s6 σ6 H6 _ I6 q6) λf s7 q7=>?_)
  have again:∀ {σ7:St} {H7:Hp},Inv X (pins++Bl fp s5.heap) σ7 H7 s7->N σ7 H7->∃ m,m<n/\∃ i σ' H',Inv X pins σ' H' s7/\tn i s7.heap/\(∀ b∈fp,H' b=none)/\W i m σ' H':=λ{σ7 H7} I7 n7=>by
   obtain ⟨m',hm,w7⟩:=hN σ7 H7 n7
   refine ⟨m',hm,i+1,σ7,H7,I7.gR,T.keep _ _ _ sE λb hb o e=>(I7.pin (b,o) (baP _ (baP _ (El hb e)))).1,λb hb=>?_,w7⟩
   obtain ⟨o,e,d⟩:=T.obj _ _ sE b hb
   exact (I7.pin (b,o) (baP _ (baP _ (El hb e)))).2.1
  cases f with
  | next=>obtain ⟨σ7,H7,I7,n7⟩:=q7; exact again I7 n7
  | cont=>obtain ⟨σ7,H7,I7,n7⟩:=q7; exact again I7 n7
  | brk=>obtain ⟨σ7,H7,I7,q7⟩:=q7; exact ⟨σ7,H7,I7.gR,q7⟩
  | ret v=>obtain ⟨x7,σ7,H7,I7,r7,q7⟩:=q7; exact ⟨x7,σ7,H7,I7.gR,r7,q7⟩
end
theorem PF {K:W.Frag} {a:Addr} {xs:List V} {g:TG} {tb:TS} {D:Ends} {σ:St} {H:Hp} (Pv:Nat->St->Hp->Prop) (h0:Pv 0 σ H) (hl:∀ i σ H,i<=xs.length->Pv i σ H->aG K H a xs)
  (hs:∀ i x σ H,xs[i]?=some x->Pv i σ H->g x σ H λσ2 H2=>tb { D with nx:=Pv (i+1),ct:=Pv (i+1),bk:=D.nx } σ2 H2) (hd:∀ σ H,Pv xs.length σ H->D.nx σ H) :
  ∃ W:Nat->Nat->St->Hp->Prop,(∃ m,W 0 m σ H)/\∀ i m σ H,W i m σ H ->
   ((vt K a).stop i H/\D.nx σ H)\/((vt K a).go i H/\∃ N:St->Hp->Prop,(∀ σ' H',N σ' H'->∃ m',m'<m/\W (i+1) m' σ' H')/\∀ x H',(vt K a).nA i H x H'->g x σ H' λσ2 H2=>tb { D with nx:=N,ct:=N,bk:=D.nx } σ2 H2):=by
 refine ⟨λi m σ H=>m=xs.length - i/\i<=xs.length/\Pv i σ H,⟨xs.length,by simp,a9k _,h0⟩,?_⟩
 rintro i m σ H ⟨rfl,hi,p⟩
 have q:=hl i σ H hi p
 by_cases hlt:i<xs.length
 .refine .inr ⟨⟨xs,xs[i],q,by simp [hlt]⟩,Pv (i+1),λσ' H' p'=>⟨xs.length - (i+1),by lia,rfl,hlt,p'⟩,λx H' y=>?_⟩
  obtain ⟨e,y⟩:=y
  subst e
  exact hs i x σ _ (y xs q) p
 .have e:i=xs.length:=by lia
  subst e
  exact .inl ⟨⟨xs,q,aDN _⟩,hd σ H p⟩
theorem Pd {K:W.Frag} {a:Addr} {xs:List V} {g:TG} {tb:TS} {D:Ends} {σ:St} {H:Hp} (Pv:Nat->St->Hp->Prop) (h0:Pv 0 σ H) (hl:∀ i σ H,i<=xs.length->Pv i σ H->aZ K H a xs)
  (hs:∀ i x σ H,xs[i]?=some x->Pv i σ H->g x σ H λσ2 H2=>tb { D with nx:=Pv (i+1),ct:=Pv (i+1),bk:=D.nx } σ2 H2) (hd:∀ σ H,Pv xs.length σ H->D.nx σ H) :
  ∃ W:Nat->Nat->St->Hp->Prop,(∃ m,W 0 m σ H)/\∀ i m σ H,W i m σ H ->
   ((vq K a).stop i H/\D.nx σ H)\/((vq K a).go i H/\∃ N:St->Hp->Prop,(∀ σ' H',N σ' H'->∃ m',m'<m/\W (i+1) m' σ' H')/\∀ x H',(vq K a).nA i H x H'->g x σ H' λσ2 H2=>tb { D with nx:=N,ct:=N,bk:=D.nx } σ2 H2):=by
 refine ⟨λi m σ H=>m=xs.length - i/\i<=xs.length/\Pv i σ H,⟨xs.length,by simp,a9k _,h0⟩,?_⟩
 rintro i m σ H ⟨rfl,hi,p⟩
 have q:=hl i σ H hi p
 by_cases hlt:i<xs.length
 .refine .inr ⟨⟨xs,xs[i],q,by simp [hlt]⟩,Pv (i+1),λσ' H' p'=>⟨xs.length - (i+1),by lia,rfl,hlt,p'⟩,λx H' y=>?_⟩
  obtain ⟨e,y⟩:=y
  subst e
  exact hs i x σ _ (y xs q) p
 .have e:i=xs.length:=by lia
  subst e
  exact .inl ⟨⟨xs,q,aDN _⟩,hd σ H p⟩
theorem Ek {lo:Int} {n:Nat} {g:TG} {tb:TS} {D:Ends} {σ:St} {H:Hp} (Pv:Nat->St->Hp->Prop) (h0:Pv 0 σ H)
  (hs:∀ i σ H,i<n->Pv i σ H->g (.int (lo+i)) σ H λσ2 H2=>tb { D with nx:=Pv (i+1),ct:=Pv (i+1),bk:=D.nx } σ2 H2) (hd:∀ σ H,Pv n σ H->D.nx σ H) :
  ∃ W:Nat->Nat->St->Hp->Prop,(∃ m,W 0 m σ H)/\∀ i m σ H,W i m σ H ->
   ((ua lo n).stop i H/\D.nx σ H)\/((ua lo n).go i H/\∃ N:St->Hp->Prop,(∀ σ' H',N σ' H'->∃ m',m'<m/\W (i+1) m' σ' H')/\∀ x H',(ua lo n).nA i H x H'->g x σ H' λσ2 H2=>tb { D with nx:=N,ct:=N,bk:=D.nx } σ2 H2):=by
 refine ⟨λi m σ H=>m=n - i/\i<=n/\Pv i σ H,⟨n,by simp,a9k _,h0⟩,?_⟩
 rintro i m σ H ⟨rfl,hi,p⟩
 by_cases hlt:i<n
 .refine .inr ⟨hlt,Pv (i+1),λσ' H' p'=>⟨n - (i+1),by lia,rfl,hlt,p'⟩,λx H' y=>?_⟩
  obtain ⟨e,y⟩:=y
  subst e y
  exact hs i σ _ hlt p
 .have e:i=n:=by lia
  subst e
  exact .inl ⟨aDN _,hd σ H p⟩
abbrev R2:=V->V->Hp->VK->Prop
def jI (X:Cx) (f:Value->Value->Sem Value) (r:R2):Prop :=
 ∀ (pins:List (Addr×Obj)) (s:Shared) (σ:St) (H:Hp) (x y:V) (v u:Value) (Q:VK),Inv X pins σ H s->RelV x v->RelV y u->r x y H Q ->
  wpAny (model X.prog X.w) X.A (f v u) (EP X pins σ Q) X.xe s
def Lj (X:Cx) (f:Value->Sem Value) (r:V->Hp->VK->Prop):Prop :=
 ∀ (pins:List (Addr×Obj)) (s:Shared) (σ:St) (H:Hp) (x:V) (v:Value) (Q:VK),Inv X pins σ H s->RelV x v->r x H Q ->
  wpAny (model X.prog X.w) X.A (f v) (EP X pins σ Q) X.xe s
def bF (X:Cx) (f:Value) (r:List V->Hp->VK->Prop):Prop :=
 ∀ (pins:List (Addr×Obj)) (s:Shared) (σ:St) (H:Hp) (xs:List V) (us:List Value) (Q:VK),Inv X pins σ H s->Vals xs us->r xs H Q ->
  wpAny (model X.prog X.w) X.A (call f us) (EP X pins σ Q) X.xe s
def CA (r:R2) (ta tb:TE):TE:=λσ H Q=>ta σ H λx H1=>tb σ H1 λy H2=>r x y H2 Q
def SO (r:V->Hp->VK->Prop) (ta:TE):TE:=λσ H Q=>ta σ H λx H1=>r x H1 Q
def rI (C:Int->Int->Prop) (g:Int->Int->V):R2:=λx y H Q=>∃ i j,x=.int i/\y=.int j/\C i j/\Q (g i j) H
def uA (g:Int->Int->V):R2:=λx y H Q=>∃ i j,x=.int i/\y=.int j/\Q (g i j) H
def rU (g:Int->V):V->Hp->VK->Prop:=λx H Q=>∃ i,x=.int i/\Q (g i) H
section
variable {X:Cx} {a b c:Expr} {ta tb tc:TE} {pos:Pos}
theorem wR (ha:PE X a ta) (hb:PE X b tb) {pins:List (Addr×Obj)} {s:Shared} {σ:St} {H:Hp} {R:V->V->Hp->Prop} (I:Inv X pins σ H s)
  (h:ta σ H λx H1=>tb σ H1 λy H2=>R x y H2) {Q:Value->Shared->Prop} {f:Value->Value->Sem Value}
  (hf:∀ v u s2 x y H2,Inv X pins σ H2 s2->RelV x v->RelV y u->R x y H2->wpAny (model X.prog X.w) X.A (f v u) Q X.xe s2) :
  wpAny (model X.prog X.w) X.A (eval a X.env) (λv s₁=>wpAny (model X.prog X.w) X.A (eval b X.env) (λu s₂=>wpAny (model X.prog X.w) X.A (f v u) Q X.xe s₂) X.xe s₁) X.xe s:=by
 refine fY (ha pins s σ H _ I h) λv s1 x H1 I1 r1 q1=>?_
 refine fY (hb pins s1 σ H1 _ I1 q1) λu s2 y H2 I2 r2 q2=>?_
 exact hf v u s2 x y H2 I2 r1 r2 q2
theorem ak {op:Operator} {r:R2} (ho:jI X (binaryOp op) r) (ha:PE X a ta) (hb:PE X b tb):PE X (.BinOp a op b pos) (CA r ta tb):=by
 intro pins s σ H Q I h
 exact wpAny_BinOp (wR ha hb I h λv u s2 x y H2 I2 rx ry q=>ho pins s2 σ H2 x y v u Q I2 rx ry q)
theorem uG {op:UnaryOp} {r:V->Hp->VK->Prop} (ho:Lj X (unaryOp op) r) (ha:PE X a ta):PE X (.UnaryOp op a pos) (SO r ta):=by
 intro pins s σ H Q I h
 exact UnaryOp_ (fY (ha pins s σ H _ I h) λv s1 x H1 I1 r1 q1=>ho pins s1 σ H1 x v Q I1 r1 q1)
theorem CN {f:Value->Value->Sem Value} {C:Int->Int->Prop} {g:Int->Int->Int}
  (rule:∀ (i j:Int) (t u:Tok) (s:Shared) (Q:Value->Shared->Prop) (E:Value->Shared->Prop),C i j->Q (.int (g i j) s.toks) { s with toks:=s.toks+1 }->wpAny (model X.prog X.w) X.A (f (.int i t) (.int j u)) Q E s) :
  jI X f (rI C λi j=>.int (g i j)):=by
 intro pins s σ H x y v u Q I rx ry h
 obtain ⟨i,j,rfl,rfl,hc,q⟩:=h
 obtain ⟨t,rfl⟩:=rx
 obtain ⟨t',rfl⟩:=ry
 exact rule i j t t' s _ _ hc ⟨.int (g i j),H,I.tok _,⟨_,rfl⟩,q⟩
theorem zR {f:Value->Value->Sem Value} {g:Int->Int->Int}
  (rule:∀ (i j:Int) (t u:Tok) (s:Shared) (Q:Value->Shared->Prop) (E:Value->Shared->Prop),Q (.int (g i j) s.toks) { s with toks:=s.toks+1 }->wpAny (model X.prog X.w) X.A (f (.int i t) (.int j u)) Q E s) :
  jI X f (uA λi j=>.int (g i j)):=by
 intro pins s σ H x y v u Q I rx ry h
 obtain ⟨i,j,rfl,rfl,q⟩:=h
 obtain ⟨t,rfl⟩:=rx
 obtain ⟨t',rfl⟩:=ry
 exact rule i j t t' s _ _ ⟨.int (g i j),H,I.tok _,⟨_,rfl⟩,q⟩
theorem sU {f:Value->Value->Sem Value} {g:Int->Int->Bool}
  (rule:∀ (i j:Int) (t u:Tok) (s:Shared) (Q:Value->Shared->Prop) (E:Value->Shared->Prop),Q (.bool (g i j)) s->wpAny (model X.prog X.w) X.A (f (.int i t) (.int j u)) Q E s) :
  jI X f (uA λi j=>.bl (g i j)):=by
 intro pins s σ H x y v u Q I rx ry h
 obtain ⟨i,j,rfl,rfl,q⟩:=h
 obtain ⟨t,rfl⟩:=rx
 obtain ⟨t',rfl⟩:=ry
 exact rule i j t t' s _ _ ⟨.bl (g i j),H,I,rfl,q⟩
def Cn (i j:Int):Prop:=0<j/\j<1073741824
def Lr (i j:Int):Prop:=0<=j/\j<=1000000/\i.natAbs<2 ^ 64
def xD (i j:Int):Prop:=(-(2 ^ 64)<i/\i<2 ^ 64)\/(-(2 ^ 64)<j/\j<2 ^ 64)
theorem xD.ok {i j:Int} (h:xD i j):IntMulOk i j:=by
 rcases h with ⟨h1,h2⟩ | ⟨h1,h2⟩
 .exact .of_left (intBits_le_64 h1 h2)
 .exact .of_right (intBits_le_64 h1 h2)
theorem ZO:jI X (binaryOp .Add) (uA λi j=>.int (i+j)):=zR λ_ _ _ _ _ _ _ q=>add_int q
theorem ve:jI X (binaryOp .Sub) (uA λi j=>.int (i - j)):=zR λ_ _ _ _ _ _ _ q=>sub_int q
theorem o9:jI X (binaryOp .Mult) (rI xD λi j=>.int (i * j)):=CN λ_ _ _ _ _ _ _ hc q=>mul_int q hc.ok
theorem yz:jI X (binaryOp .FloorDiv) (rI Cn λi j=>.int (i / j)):=CN λi j _ _ _ _ _ hc q=>by
 have h1:(0:Int)<j:=hc.1
 have h2:j<1073741824:=hc.2
 exact floordiv_int (by lia) (by rw [Int.fdiv_eq_ediv_of_nonneg i (by lia)]; exact q) (.inl (PyProof.noPylong_small (by lia)))
theorem o8:jI X (binaryOp .Mod) (rI (λ_ j=>0<j) λi j=>.int (i % j)):=CN λi j _ _ _ _ _ hc q=>by
 have h1:(0:Int)<j:=hc
 exact mod_int' (by lia) (by rw [Int.fmod_eq_emod_of_nonneg i (by lia)]; exact q)
theorem Iw:jI X (binaryOp .Pow) (rI Lr λi j=>.int (i ^ j.toNat)):=CN λ_ _ _ _ _ _ _ hc q=>pow_int_small hc.1 hc.2.1 hc.2.2 q
theorem SI {f:Value->Sem Value} {g:Int->Int}
  (rule:∀ (i:Int) (t:Tok) (s:Shared) (Q:Value->Shared->Prop) (E:Value->Shared->Prop),Q (.int (g i) s.toks) { s with toks:=s.toks+1 }->wpAny (model X.prog X.w) X.A (f (.int i t)) Q E s) :
  Lj X f (rU λi=>.int (g i)):=by
 intro pins s σ H x v Q I rx h
 obtain ⟨i,rfl,q⟩:=h
 obtain ⟨t,rfl⟩:=rx
 exact rule i t s _ _ ⟨.int (g i),H,I.tok _,⟨_,rfl⟩,q⟩
theorem NK:Lj X (unaryOp .USub) (rU λi=>.int (-i)):=SI λ_ _ _ _ _ q=>neg_int q
end
def zo:V->V->Bool
 | .aR,.aR=>true | .aR,.int _=>true | .int _,.aR=>true | .aR,.bl _=>true | .bl _,.aR=>true | .aR,.str _=>true | .str _,.aR=>true
 | .int _,.int _=>true | .bl _,.bl _=>true | .str _,.str _=>true | .oZ _,.oZ _=>true
 | .int _,.str _=>true | .str _,.int _=>true | .bl _,.str _=>true | .str _,.bl _=>true
 | _,_=>false
def Tc:R2:=λx y H Q=>zo x y=true/\Q (.bl (decide (x=y))) H
def S9:R2:=λx y H Q=>zo x y=true/\Q (.bl (!decide (x=y))) H
theorem OT {i j:Int}:decide (V.int i=V.int j)=(i == j):=by
 rw [apj]
 simp
theorem NJ {i j:Bool}:decide (V.bl i=V.bl j)=(i == j):=by
 rw [apj]
 simp
theorem OR {i j:Str}:decide (V.str i=V.str j)=(i == j):=by
 rw [apj]
 simp
theorem OQ {i j:Array UInt8}:decide (V.oZ i=V.oZ j)=(i.toList == j.toList):=by
 rw [apj]
 cases i
 cases j
 simp
section
variable {X:Cx} {a b c:Expr} {ta tb tc:TE} {pos:Pos}
theorem Zy {pins:List (Addr×Obj)} {σ:St} {H:Hp} {s:Shared} {Q:VK} {k k':Bool} (I:Inv X pins σ H s) (q:Q (.bl k) H) (e:k=k'):EP X pins σ Q (.bool k') s:=by
 subst e
 exact ⟨.bl k,H,I,rfl,q⟩
theorem bB:jI X (compareOp .Eq) Tc:=by
 intro pins s σ H x y v u Q I rx ry h
 obtain ⟨hs,q⟩:=h
 cases x with
 | aR =>
  cases rx
  cases y with
  | aR=>cases ry; exact PySem.EqNone.eq_none_none (Zy I q (by simp))
  | bl j=>cases ry; exact PySem.EqNone.eq_none_bool (Zy I q (by simp))
  | int j=>obtain ⟨t',rfl⟩:=ry; exact PySem.EqNone.eq_none_int (Zy I q (by simp))
  | str j=>obtain ⟨t',rfl⟩:=ry; exact PySem.EqNone.eq_none_str (Zy I q (by simp))
  | _=>exact absurd (show false=true from hs) aXI
 | bl i =>
  cases rx
  cases y with
  | aR=>cases ry; exact PySem.EqNone.eq_bool_none (Zy I q (by simp))
  | bl j=>cases ry; exact eq_bool (Zy I q NJ)
  | str j=>obtain ⟨t',rfl⟩:=ry; exact PySem.EqMixed.eq_bool_str (Zy I q (by simp))
  | _=>exact absurd (show false=true from hs) aXI
 | int i =>
  obtain ⟨t,rfl⟩:=rx
  cases y with
  | aR=>cases ry; exact PySem.EqNone.eq_int_none (Zy I q (by simp))
  | int j=>obtain ⟨t',rfl⟩:=ry; exact eq_int (Zy I q OT)
  | str j=>obtain ⟨t',rfl⟩:=ry; exact PySem.EqMixed.eq_int_str (Zy I q (by simp))
  | _=>exact absurd (show false=true from hs) aXI
 | str i =>
  obtain ⟨t,rfl⟩:=rx
  cases y with
  | aR=>cases ry; exact PySem.EqNone.eq_str_none (Zy I q (by simp))
  | bl j=>cases ry; exact PySem.EqMixed.eq_str_bool (Zy I q (by simp))
  | int j=>obtain ⟨t',rfl⟩:=ry; exact PySem.EqMixed.eq_str_int (Zy I q (by simp))
  | str j=>obtain ⟨t',rfl⟩:=ry; exact eq_str (Zy I q OR)
  | _=>exact absurd (show false=true from hs) aXI
 | oZ i =>
  obtain ⟨t,rfl⟩:=rx
  cases y with
  | oZ j=>obtain ⟨t',rfl⟩:=ry; exact W.eq_bytes (Zy I q OQ)
  | _=>exact absurd (show false=true from hs) aXI
 | _=>cases y <;> exact absurd (show false=true from hs) aXI
theorem uH:jI X (compareOp .NotEq) S9:=by
 intro pins s σ H x y v u Q I rx ry h
 obtain ⟨hs,q⟩:=h
 cases x with
 | aR =>
  cases rx
  cases y with
  | aR=>cases ry; exact PySem.EqNone.ne_none_none (Zy I q (by simp))
  | bl j=>cases ry; exact PySem.EqNone.ne_none_bool (Zy I q (by simp))
  | int j=>obtain ⟨t',rfl⟩:=ry; exact PySem.EqNone.ne_none_int (Zy I q (by simp))
  | str j=>obtain ⟨t',rfl⟩:=ry; exact PySem.EqNone.ne_none_str (Zy I q (by simp))
  | _=>exact absurd (show false=true from hs) aXI
 | bl i =>
  cases rx
  cases y with
  | aR=>cases ry; exact PySem.EqNone.ne_bool_none (Zy I q (by simp))
  | bl j=>cases ry; exact ne_bool (Zy I q (a5E not NJ))
  | str j=>obtain ⟨t',rfl⟩:=ry; exact PySem.EqMixed.ne_bool_str (Zy I q (by simp))
  | _=>exact absurd (show false=true from hs) aXI
 | int i =>
  obtain ⟨t,rfl⟩:=rx
  cases y with
  | aR=>cases ry; exact PySem.EqNone.ne_int_none (Zy I q (by simp))
  | int j=>obtain ⟨t',rfl⟩:=ry; exact ne_int (Zy I q (a5E not OT))
  | str j=>obtain ⟨t',rfl⟩:=ry; exact PySem.EqMixed.ne_int_str (Zy I q (by simp))
  | _=>exact absurd (show false=true from hs) aXI
 | str i =>
  obtain ⟨t,rfl⟩:=rx
  cases y with
  | aR=>cases ry; exact PySem.EqNone.ne_str_none (Zy I q (by simp))
  | bl j=>cases ry; exact PySem.EqMixed.ne_str_bool (Zy I q (by simp))
  | int j=>obtain ⟨t',rfl⟩:=ry; exact PySem.EqMixed.ne_str_int (Zy I q (by simp))
  | str j=>obtain ⟨t',rfl⟩:=ry; exact ne_str (Zy I q (a5E not OR))
  | _=>exact absurd (show false=true from hs) aXI
 | oZ i =>
  obtain ⟨t,rfl⟩:=rx
  cases y with
  | oZ j=>obtain ⟨t',rfl⟩:=ry; exact W.ne_bytes (Zy I q (a5E not OQ))
  | _=>exact absurd (show false=true from hs) aXI
 | _=>cases y <;> exact absurd (show false=true from hs) aXI
theorem lC:jI X (compareOp .Lt) (uA λi j=>.bl (decide (i<j))):=sU λ_ _ _ _ _ _ _ q=>lt_int q
theorem zN:jI X (compareOp .LtE) (uA λi j=>.bl (decide (i<=j))):=sU λ_ _ _ _ _ _ _ q=>le_int q
theorem zP:jI X (compareOp .Gt) (uA λi j=>.bl (decide (j<i))):=sU λ_ _ _ _ _ _ _ q=>gt_int q
theorem zQ:jI X (compareOp .GtE) (uA λi j=>.bl (decide (j<=i))):=sU λ_ _ _ _ _ _ _ q=>ge_int q
theorem Zz (b:Expr) {op:CmpOp} (h:op≠.In:=by decide) (h2:op≠.NotIn:=by decide):behindInMarks op b=false:=by
 have e1:(op == CmpOp.In)=false:=by cases op <;> first | rfl | exact absurd rfl h
 have e2:(op == CmpOp.NotIn)=false:=by cases op <;> first | rfl | exact absurd rfl h2
 cases b <;> simp [behindInMarks,e1,e2]
theorem pV {op:CmpOp} {r:R2} (ho:jI X (compareOp op) r) (ha:PE X a ta) (hb:PE X b tb) (hm:behindInMarks op b=false):PE X (.Compare a [op] [b] pos) (CA r ta tb):=by
 intro pins s σ H Q I h
 exact wpAny_Compare1 (wR ha hb I h λv u s2 x y H2 I2 rx ry q=>ho pins s2 σ H2 x y v u Q I2 rx ry q) hm
def uf (t:TE):TT:=λσ H Q=>t σ H λx H'=>∃ k,x=.bl k/\Q k H'
theorem ZD {op:CmpOp} {r:R2} (ho:jI X (compareOp op) r) (ha:PE X a ta) (hb:PE X b tb) (hm:behindInMarks op b=false):PT X (.Compare a [op] [b] pos) (uf (CA r ta tb)):=by
 intro pins s σ H Q I h
 refine wpAny_isTrue_Compare1 (fY (ha pins s σ H _ I h) λv s1 x H1 I1 r1 q1=>fY (hb pins s1 σ H1 _ I1 q1) λu s2 y H2 I2 r2 q2 =>
  b7 (ho pins s2 σ H2 x y v u _ I2 r1 r2 q2) λc s3 ⟨z,H3,I3,r3,k,e,q3⟩=>?_) hm
 subst e
 cases r3
 exact aOv ⟨H3,I3,q3⟩
def V1 (r r':R2) (ta tb tc:TE):TE:=λσ H Q=>ta σ H λx H1=>tb σ H1 λy H2=>r x y H2 λz H3=>∃ k,z=.bl k /\
 (if k=true then tc σ H3 λw' H4=>r' y w' H4 Q else Q (.bl false) H3)
theorem XW {op op':CmpOp} {r r':R2} (ho:jI X (compareOp op) r) (ho':jI X (compareOp op') r') (ha:PE X a ta) (hb:PE X b tb) (hc:PE X c tc)
  (hm:lastMarks [op,op'] [b,c]=false:=by with_unfolding_all rfl):PT X (.Compare a [op,op'] [b,c] pos) (uf (V1 r r' ta tb tc)):=by
 intro pins s σ H Q I h
 refine isTrue_chain (fY (ha pins s σ H _ I h) λv s1 x H1 I1 r1 q1=>test_link (fY (hb pins s1 σ H1 _ I1 q1) λu s2 y H2 I2 r2 q2 =>
  b7 (ho pins s2 σ H2 x y v u _ I2 r1 r2 q2) λd s3 ⟨z,H3,I3,r3,k,e,q3⟩=>?_)) hm
 subst e
 cases r3
 refine aOv ?_
 cases k with
 | false =>
  obtain ⟨k',e',q'⟩:=q3
  cases e'
  exact ite_ff ⟨H3,I3,q'⟩
 | true =>
  refine ite_tt (test_last (fY (hc pins s3 σ H3 _ I3 q3) λw' s4 z' H4 I4 r4 q4=>b7 (ho' pins s4 σ H4 y z' u w' _ I4 r2 r4 q4) λd' s5 ⟨z2,H5,I5,r5,k2,e2,q5⟩=>?_))
  subst e2
  cases r5
  exact aOv ⟨H5,I5,q5⟩
theorem DB:(sizeLine:Nat)<2 ^ 63:=by rw [ahk]; decide
theorem vals1 {x:V} {us:List Value} (r:Vals [x] us):∃ u,us=[u]/\RelV x u:=by
 cases r with
 | cons r1 r2=>cases r2; exact ⟨_,rfl,r1⟩
theorem vals2 {x y:V} {us:List Value} (r:Vals [x,y] us):∃ u w',us=[u,w']/\RelV x u/\RelV y w':=by
 cases r with
 | cons r1 r2 =>
  cases r2 with
  | cons r3 r4=>cases r4; exact ⟨_,_,rfl,r1,r3⟩
theorem PD:bF X (.builtin "abs") (λxs H Q=>∃ i,xs=[.int i]/\Q (.int (if i<0 then -i else i)) H):=by
 intro pins s σ H xs us Q I r h
 obtain ⟨i,rfl,q⟩:=h
 obtain ⟨u,rfl,t,rfl⟩:=vals1 r
 exact call_abs_int λu tk=>⟨.int (if i<0 then -i else i),H,I.tok _,⟨_,rfl⟩,q⟩
theorem Qy (hc:X.calm=true):bF X (.builtin "max") (λxs H Q=>∃ i j,xs=[.int i,.int j]/\Q (.int (if j > i then j else i)) H):=by
 intro pins s σ H xs us Q I r h
 obtain ⟨i,j,rfl,q⟩:=h
 obtain ⟨u,w',rfl,⟨t,rfl⟩,⟨t',rfl⟩⟩:=vals2 r
 refine max_two_ints (I.ok.hd hc) λh' tk k=>⟨_,H,I.kept k,?_,q⟩
 by_cases hj:j > i
 .rw [bb9 hj,bb9 hj]; exact ⟨_,rfl⟩
 .rw [aYW hj,aYW hj]; exact ⟨_,rfl⟩
theorem YV (hc:X.calm=true):bF X (.builtin "min") (λxs H Q=>∃ i j,xs=[.int i,.int j]/\Q (.int (if j<i then j else i)) H):=by
 intro pins s σ H xs us Q I r h
 obtain ⟨i,j,rfl,q⟩:=h
 obtain ⟨u,w',rfl,⟨t,rfl⟩,⟨t',rfl⟩⟩:=vals2 r
 refine min_two_ints (I.ok.hd hc) λh' tk k=>⟨_,H,I.kept k,?_,q⟩
 by_cases hj:j<i
 .rw [bb9 hj,bb9 hj]; exact ⟨_,rfl⟩
 .rw [aYW hj,aYW hj]; exact ⟨_,rfl⟩
theorem JA:bF X (.type "int") (λxs H Q=>(∃ i,xs=[.int i]/\Q (.int i) H)\/∃ k,xs=[.bl k]/\Q (.int (if k then 1 else 0)) H):=by
 intro pins s σ H xs us Q I r h
 rcases h with ⟨i,rfl,q⟩ | ⟨k,rfl,q⟩
 .obtain ⟨u,rfl,t,rfl⟩:=vals1 r
  exact call_int_int ⟨.int i,H,I,⟨_,rfl⟩,q⟩
 .obtain ⟨u,rfl,r1⟩:=vals1 r
  cases r1
  exact call_int_bool ⟨.int (if k then 1 else 0),H,I.tok _,⟨_,rfl⟩,q⟩
theorem Zhr:bF X (.builtin "divmod") (λxs H Q=>∃ i j,xs=[.int i,.int j]/\Cn i j/\∀ p,H p=none->Q (.ref p) (upd H p (.tup [.int (i / j),.int (i % j)]))):=by
 intro pins s σ H xs us Q I r h
 obtain ⟨i,j,rfl,⟨h1,h2⟩,q⟩:=h
 obtain ⟨u,w',rfl,⟨t,rfl⟩,⟨t',rfl⟩⟩:=vals2 r
 refine divmod_int (by lia) ?_ (.inl (PyProof.noPylong_small (by lia)))
 rw [Int.fdiv_eq_ediv_of_nonneg i (by lia),Int.fmod_eq_emod_of_nonneg i (by lia)]
 have hn:H s.heap.objs.size=none:=I.hok.fresh (aDN _)
 refine ⟨.ref s.heap.objs.size,_,?_,rfl,q _ hn⟩
 refine I.laid (λb o e=>aIi _ e) (aDN _) ⟨by simp only [a23,List.length_nil]; rw [ahk]; decide,[.int (i / j) s.toks,.int (i % j) (s.toks+1)],.cons ⟨_,rfl⟩ (.cons ⟨_,rfl⟩ .nil),?_⟩
 exact ⟨_,a3a s.heap rfl,rfl,0,rfl⟩
end
structure ng (h:Heap) (x dx C:Addr) (mA:Str->Option Value):Prop where
 obj:h.get? x=some (W.instObj C dx)
 ns:h.Ns1 dx mA
 ne:dx≠x
theorem YU {h:Heap} {dx:Addr} {mA:Str->Option Value} (n:h.Ns1 dx mA):∃ od,h.get? dx=some od/\∀ name,W.lookIn name od=some (mA name):=by
 obtain ⟨o,es,ep,ho,hd,hk,_,hm⟩:=n
 refine ⟨o,ho,λname=>?_⟩
 have e:=hm name
 unfold nsFind findBy at e
 rw [← Array.find?_toList] at e
 unfold W.lookIn
 rw [hd]
 dsimp only
 split
 .rename_i y q
  rw [q] at e
  exact a5E some e
 .rename_i q
  rw [q] at e
  have a:es.toList.any (·.refKey)=false:=by
   rw [List.any_eq_false]
   intro y hy
   obtain ⟨z,t,hkey⟩:=hk y (Array.mem_toList_iff.mp hy)
   simp [DictEntry.refKey,hkey]
  have a':¬ es.toList.any (·.refKey)=true:=by rw [a]; exact aXI
  rw [aYW a']
  exact a5E some e
theorem ng.look {h:Heap} {x dx C:Addr} {mA:Str->Option Value} (I:ng h x dx C mA):∃ od,W.InstAt h x (W.instObj C dx) C (some od)/\∀ name,W.lookIn name od=some (mA name) :=
 let ⟨od,ho,hl⟩:=YU I.ns
 ⟨od,⟨I.obj,rfl,rfl,ho⟩,hl⟩
section
variable {prog:Program} {w:World} {A:Around} {E:Value->Shared->Prop} {s:Shared} {K:W.Frag} {x dx C f:Addr} {mA:Str->Option Value} {name:Str} {v:Value}
theorem Xw {expr:Bool} {Q:Value->Shared->Prop} (X:K.In s.heap) (I:ng s.heap x dx C mA) (hg:W.plainGet K C name=true) (hh:W.hasDictIn K C=true)
  (ha:W.findIn K (.ref C) name=some none) (hv:mA name=some v) (hv':W.handedIn v=true) (h:Q v { s with toks:=s.toks+1 }) :
  wpAny (model prog w) A (getAttr (.ref x) name expr) Q E s:=by
 obtain ⟨od,J,hl⟩:=I.look
 exact W.get_value X J (W.plainGet_of hg).1 (W.findObj_own hh ha rfl (by rw [hl,hv])) hv' h
theorem XU {pl:Sem Bool} {Q:Value×List Value->Shared->Prop} (X:K.In s.heap) (I:ng s.heap x dx C mA) (hg:W.plainGet K C name=true)
  (hf:W.findIn K (.ref C) name=some (some (.ref f))) (ht:W.isFn K (.ref f)=true) (hv:mA name=none) (h:Q (.ref f,[.ref x]) s) :
  wpAny (model prog w) A (getMethod (.ref x) name pl) Q E s:=by
 obtain ⟨od,J,hl⟩:=I.look
 exact W.method_fn X J (W.plainGet_of hg).1 (W.plainGet_of hg).2 hf (arV.mp ht) (by show (W.lookIn name od).map (·.isSome)=some false; rw [hl,hv]; rfl) h
theorem Xv {ns:List Str} {Q:Unit->Shared->Prop} (X:K.In s.heap) (I:ng s.heap x dx C mA)
  (hs:W.findIn K (.ref C) "__setattr__" = some (some (.builtin "object.__setattr__"))) (hp:W.plainOver K C=true) (ht:W.takerIn K C name=some none) (hh:W.hasDictIn K C=true)
  (hw:PySem.Within mA ns) (hsz:ns.length<=sizeLine)
  (h:∀ h',ng h' x dx C (λy=>if y=name then some v else mA y)->Heap.SameBut dx s.heap h'->Q () { s with heap:=h',toks:=s.toks+2 }) :
  wpAny (model prog w) A (setAttr (.ref x) name v) Q E s:=by
 obtain ⟨od,J,hl⟩:=I.look
 refine W.set_plain X J hs (W.osa_open (s:={ s with toks:=s.toks+1 }) (r:=none) X J hp ht λb=>?_)
 obtain ⟨cd,hc,hd'⟩:=W.any_some hh
 have hx:s.heap.get? x=some ⟨.ref C,some dx,.plain,#[]⟩:=I.obj
 refine aHI (ag7 (aHI (aHI (wpAny_loadPart hx (aHI (W.Looks.here (s:={ s with toks:=s.toks+1 }) (W.looks_clsIn X hc) ?_))))))
 rw [hd']
 refine ag7 (a:=some dx) (aHI (ag7 (aHI ?_)))
 refine wpAny_nsSet1 (s:={ s with toks:=s.toks+1 }) I.ns λh' hn2 hs2=>?_
 obtain ⟨oD,esD,epD,UH,UR,UT⟩:=hn2.count (PySem.Within.cons name v hw)
 refine aHI (wpAny_lookBehind UH (by rw [UR]; exact pastItsLine_dict (auj UT (by rw [a23]; lia))) ?_)
 exact ag7 (h _ ⟨(hs2.2 _ (aI4 I.ne)).trans I.obj,hn2,I.ne⟩ hs2)
theorem XT {R:Result->Shared->Prop} {vs:List Value} {kw:List (Str×Value)} (X:K.In s.heap) (hm:W.makesIn K C=true)
  (hi:W.findIn K (.ref C) "__init__" = some (some (.ref f))) (hf:W.typeIn K (.ref f)=some (.type "function"))
  (h:codeAny (model prog w) (A.under (.builtin "type.__call__" ⟨.ref C :: vs,kw⟩)) (.call (.ref f) ⟨.ref (s.heap.objs.size+1) :: vs,kw⟩) (W.InitBack (s.heap.objs.size+1) R)
   { s with heap:=(s.heap.push W.emptyDict).push (W.instObj C s.heap.objs.size) }) :
  codeAny (model prog w) A (.call (.ref C) ⟨vs,kw⟩) R s:=by
 obtain ⟨hh,g,d,t,os⟩:=s
 exact W.make_core (W.makes_of X hm) (W.looks_findIn X hi) (λself=>W.bind_fn X self hf) (.inl rfl) h
end
def ai (f:Str) (v:V):List (Str×V)->List (Str×V)
 | []=>[(f,v)]
 | (g,x) :: r=>if g=f then (g,v) :: r else (g,x) :: ai f v r
theorem Zh (f g:Str) (v:V):∀ fs:List (Str×V),(ai f v fs).lookup g=if g=f then some v else fs.lookup g
 | []=>by
  show List.lookup g [(f,v)]=_
  by_cases h:g=f
  .have hb:(g == f)=true:=arV.mpr h
   simp only [List.lookup,hb,bb9 h]
  .have hb:(g == f)=false:=aAb.mpr h
   simp only [List.lookup,hb,aYW h]
 | (k,x) :: r=>by
  have ih:=Zh f g v r
  rw [show ai f v ((k,x) :: r)=(if k=f then (k,v) :: r else (k,x) :: ai f v r) from rfl]
  by_cases hk:k=f
  .rw [bb9 hk]
   by_cases h:g=k
   .have hb:(g == k)=true:=arV.mpr h
    simp only [List.lookup,hb,bb9 (h.trans hk)]
   .have hb:(g == k)=false:=aAb.mpr h
    simp only [List.lookup,hb,aYW (λe:g=f=>h (e.trans hk.symm))]
  .rw [aYW hk]
   by_cases h:g=k
   .have hb:(g == k)=true:=arV.mpr h
    simp only [List.lookup,hb,aYW (λe:g=f=>hk (h.symm.trans e))]
   .have hb:(g == k)=false:=aAb.mpr h
    simp only [List.lookup,hb]
    exact ih
theorem Jz (f:Str) (v:V):∀ fs:List (Str×V),f∈(ai f v fs).map (·.1)/\∀ g,g∈fs.map (·.1)->g∈(ai f v fs).map (·.1)
 | []=>⟨by simp [ai],λg h=>by simp at h⟩
 | (k,x) :: r=>by
  obtain ⟨i1,i2⟩:=Jz f v r
  rw [show ai f v ((k,x) :: r)=(if k=f then (k,v) :: r else (k,x) :: ai f v r) from rfl]
  by_cases hk:k=f
  .rw [bb9 hk]
   subst hk
   exact ⟨by simp,λg h=>by simpa using h⟩
  .rw [aYW hk]
   refine ⟨?_,λg h=>?_⟩
   .rw [aSD]
    exact asq _ i1
   .rw [aSD] at h ⊢
    rcases awk.mp h with e | e
    .exact awk.mpr (.inl e)
    .exact asq _ (i2 g e)
theorem QU (f:Str) (v:V):∀ fs:List (Str×V),(ai f v fs).length<=fs.length+1
 | []=>by simp [ai]
 | (k,x) :: r=>by
  have ih:=QU f v r
  rw [show ai f v ((k,x) :: r)=(if k=f then (k,v) :: r else (k,x) :: ai f v r) from rfl]
  by_cases hk:k=f
  .rw [bb9 hk,a23,a23]; lia
  .rw [aYW hk,a23,a23]; lia
theorem dS.some_of {v:V} {o:Option Value} (r:dS (some v) o):∃ u,o=some u/\RelV v u:=by
 cases o with
 | none=>exact (show False from r).elim
 | some u=>exact ⟨u,rfl,r⟩
theorem dS.none_of {o:Option Value} (r:dS none o):o=none:=by
 cases o with
 | none=>rfl
 | some u=>exact (show False from r).elim
theorem YT {v:V} {u:Value} (r:RelV v u):W.handedIn u=true:=by
 cases v with
 | aR=>cases (show u=Value.none from r); rfl
 | bl b=>cases (show u=Value.bool b from r); rfl
 | int i=>obtain ⟨t,e⟩:=(show ∃ t,u=Value.int i t from r); cases e; rfl
 | str x=>obtain ⟨t,e⟩:=(show ∃ t,u=Value.str x t from r); cases e; rfl
 | oZ b=>obtain ⟨t,e⟩:=(show ∃ t,u=Value.bytes b t from r); cases e; rfl
 | tN b=>obtain ⟨t,e⟩:=(show ∃ t,u=Value.float b t from r); cases e; rfl
 | ref a=>cases (show u=Value.ref a from r); rfl
 | ty n=>cases (show u=Value.type n from r); rfl
section
variable {P:Program} {w:World} {H H':Hp} {h h':Heap} {a C dx:Addr} {fs fs':List (Str×V)}
theorem DU (hok:fC P w H h) (e:H a=some (.ins C dx fs)):∃ mA,ng h a dx C mA/\(∀ f,dS (fs.lookup f) (mA f))/\PySem.Within mA (fs.map (·.1))/\fs.length<=1000/\H dx=some (.own a):=by
 obtain ⟨d,z,ne,ob,mA,n,r,q⟩:=(show aH P w H h a (.ins C dx fs) from hok a _ e)
 exact ⟨mA,⟨ob,n,ne⟩,r,q,z,d⟩
end
structure mD (K:W.Frag) (C:Addr):Prop where
 pg:W.plainGet K C Str.empty=true
 hd:W.hasDictIn K C=true
 po:W.plainOver K C=true
 sa:W.findIn K (.ref C) "__setattr__" = some (some (.builtin "object.__setattr__"))
theorem mD.get {K:W.Frag} {C:Addr} (c:mD K C) (f:Str):W.plainGet K C f=true:=c.pg
def aP (K:W.Frag) (C:Addr) (f:Str):Prop:=W.findIn K (.ref C) f=some none
theorem aP.yU {K:W.Frag} {C:Addr} {f:Str} (n:aP K C f):W.takerIn K C f=some none:=by
 unfold W.takerIn
 rw [show W.findIn K (.ref C) f=some none from n]
 rfl
structure Meth (K:W.Frag) (C:Addr) (m:Str) (f:Addr):Prop where
 at_:W.findIn K (.ref C) m=some (some (.ref f))
 fn:W.isFn K (.ref f)=true
 kp:W.keepIn K (.ref f)=true
section
variable {X:Cx} {pins:List (Addr×Obj)} {σ:St} {H:Hp} {s:Shared} {a C dx:Addr} {fs:List (Str×V)} {f:Str} {v:V} {A:Around} {E:Value->Shared->Prop}
theorem Z1 {b:Bool} {Q:Value->Shared->Prop} (I:Inv X pins σ H s) (e:H a=some (.ins C dx fs)) (c:mD X.K C) (n:aP X.K C f) (l:fs.lookup f=some v)
  (h:∀ u s',Inv X pins σ H s'->RelV v u->Q u s'):wpAny (model X.prog X.w) A (getAttr (.ref a) f b) Q E s:=by
 obtain ⟨mA,O,r,_,_,_⟩:=DU I.hok e
 obtain ⟨u,hu,ru⟩:=dS.some_of (v:=v) (o:=mA f) (by rw [← l]; exact r f)
 exact Xw I.eL O (c.get f) c.hd n hu (YT ru) (h u _ (I.tok _) ru)
theorem QS {m:Str} {g:Addr} {pl:Sem Bool} {Q:Value×List Value->Shared->Prop} (I:Inv X pins σ H s) (e:H a=some (.ins C dx fs)) (c:mD X.K C) (k:Meth X.K C m g) (l:fs.lookup m=none)
  (h:Q (.ref g,[.ref a]) s):wpAny (model X.prog X.w) A (getMethod (.ref a) m pl) Q E s:=by
 obtain ⟨mA,O,r,_,_,_⟩:=DU I.hok e
 have hn:mA m=none:=dS.none_of (by rw [← l]; exact r m)
 exact XU I.eL O (c.get m) k.at_ k.fn hn h
theorem Z0 {y:V} {u:Value} {Q:Unit->Shared->Prop} (I:Inv X pins σ H s) (e:H a=some (.ins C dx fs)) (c:mD X.K C) (n:aP X.K C f) (hl:fs.length<1000) (ry:RelV y u)
  (h:∀ s',Inv X pins σ (upd H a (.ins C dx (ai f y fs))) s'->Q () s'):wpAny (model X.prog X.w) A (setAttr (.ref a) f u) Q E s:=by
 obtain ⟨mA,O,r,wi,_,ho⟩:=DU I.hok e
 have hz:(fs.map (·.1)).length<=sizeLine:=by rw [aUH,ahk]; lia
 refine Xv I.eL O c.sa c.po n.yU c.hd wi hz λh' O' sb=>h _ ?_
 have hd:∃ o,h'.get? dx=some o:=let ⟨o,_,_,e',_⟩:=O'.ns; ⟨o,e'⟩
 refine I.write (x:=a) (e:=dx) (by rw [e]; exact True.intro) (.inr ho) (λb q hb z=>(sb.2 b hb).trans z) hd ?_
 refine ⟨by rw [Zc O.ne]; exact ho,?_,O.ne,O'.obj,_,O'.ns,λg=>?_,λg hg=>?_⟩
 .have:=QU f y fs; lia
 .show dS ((ai f y fs).lookup g) (if g=f then some u else mA g)
  rw [Zh]
  by_cases q:g=f
  .rw [bb9 q,bb9 q]; exact ry
  .rw [aYW q,aYW q]; exact r g
 .by_cases q:g=f
  .rw [q]; exact (Jz f y fs).1
  .refine (Jz f y fs).2 g (wi g λz=>hg ?_)
   show (if g=f then some u else mA g)=none
   rw [aYW q]; exact z
theorem Inv.made (I:Inv X pins σ H s):Inv X pins σ (upd (upd H s.heap.objs.size (.own (s.heap.objs.size+1))) (s.heap.objs.size+1) (.ins C s.heap.objs.size []))
  { s with heap:=(s.heap.push W.emptyDict).push (W.instObj C s.heap.objs.size) }:=by
 have e1:(s.heap.push W.emptyDict).get? s.heap.objs.size=some W.emptyDict:=a3a s.heap rfl
 have e2:((s.heap.push W.emptyDict).push (W.instObj C s.heap.objs.size)).get? (s.heap.objs.size+1)=some (W.instObj C s.heap.objs.size):=by
  have:=a3a (s.heap.push W.emptyDict) (o:=W.instObj C s.heap.objs.size) rfl
  rwa [a2Z] at this
 have e3:(s.heap.push W.emptyDict).Ns s.heap.objs.size (λ_=>none):=⟨W.emptyDict,#[],_,e1,rfl,(λe he=>absurd he (by simp)),λ_=>rfl⟩
 have I1:=I.laid (a:=s.heap.objs.size) (o:=.own (s.heap.objs.size+1)) (h':=s.heap.push W.emptyDict) (t':=s.toks) (λb u q=>aIi _ q) (aDN _) ⟨_,e1⟩
 refine I1.laid (a:=s.heap.objs.size+1) (o:=.ins C s.heap.objs.size []) (t':=s.toks) (λb u q=>aIi _ q) (Nat.le_of_eq (a2Z _ _)) ?_
 have ne:s.heap.objs.size≠s.heap.objs.size+1:=anq (Nat.lt_succ_self _)
 refine ⟨by rw [Zc ne,Za],a9k _,ne,e2,λ_=>none,(Heap.Ns1.of_empty e3).at λo q=>aIi _ q,λ_=>True.intro,λy hy=>absurd rfl hy⟩
theorem Xu {prog:Program} {w:World} {env:Env} {e:Expr} {f:Str} {pos:Pos} {s:Shared} {Q:Value->Shared->Prop} (hb:attributeBase e f env (eval e env)=eval e env)
  (h:wpAny (model prog w) A (eval e env) (λo s₁=>wpAny (model prog w) A (getAttr o f true) Q E s₁) E s):wpAny (model prog w) A (eval (.Attribute e f pos) env) Q E s :=
 Attribute_any_ h (by rw [arm_eval_Attribute,hb])
end
def zd (K:W.Frag) (ta:TE) (f:Str):TE:=λσ H Q=>ta σ H λx H1=>∃ a C dx fs v,x=.ref a/\H1 a=some (.ins C dx fs)/\mD K C/\aP K C f/\fs.lookup f=some v/\Q v H1
def Fw (K:W.Frag) (ta tv:TE) (f:Str):TS:=λD σ H=>tv σ H λy H1=>ta σ H1 λx H2=>∃ a C dx fs,x=.ref a/\H2 a=some (.ins C dx fs)/\mD K C/\aP K C f/\fs.length<1000 /\
 D.nx σ (upd H2 a (.ins C dx (ai f y fs)))
def Ck (X:Cx) (op:Operator) (rd:V->V->Hp->VK->Prop):Prop :=
 ∀ (pins:List (Addr×Obj)) (s:Shared) (σ:St) (H:Hp) (x y:V) (u v:Value) (Q:VK),Inv X pins σ H s->RelV x u->RelV y v->rd x y H Q->wpAny (model X.prog X.w) X.A (inplaceOp op u v) (EP X pins σ Q) X.xe s
section
variable {X:Cx} {o e value:Expr} {f:Str} {pos pos' tpos:Pos} {ta tv:TE}
theorem V0 (he:PE X e ta) (hb:attributeBase e f X.env (eval e X.env)=eval e X.env):PE X (.Attribute e f pos) (zd X.K ta f):=by
 intro pins s σ H Q I h
 refine Xu hb (b7 (he pins s σ H _ I h) λu s1 ⟨x,H1,I1,rx,a,C,dx,fs,v,ex,ea,c,n,l,q⟩=>?_)
 subst ex
 obtain rfl:u=Value.ref a:=rx
 exact Z1 I1 ea c n l λu' s2 I2 ru=>⟨v,H1,I2,ru,q⟩
theorem lX (ha:PE X o ta) (hv:PE X value tv) (hs:swapsWith value (some (.Attribute o f pos')) pos.line X.env=pure false):PS X (.Assign [.Attribute o f pos'] value pos) (Fw X.K ta tv f):=by
 intro pins s σ H D I h
 refine plainObj_wpAny_Assign_Attribute (fY (hv pins s σ H _ I h) λu s1 y H1 I1 ry q=>b7 (ha pins s1 σ H1 _ I1 q) λov s2 ⟨x,H2,I2,rx,a,C,dx,fs,ex,ea,c,n,l,q2⟩=>?_) hs
 subst ex
 obtain rfl:ov=Value.ref a:=rx
 exact Z0 I2 ea c n l ry λs3 I3=>⟨σ,_,I3,q2⟩
def FG:V->V->Hp->VK->Prop:=λx y H Q=>∃ i j,x=.int i/\y=.int j/\Q (.int (i+j)) H
theorem VZ:Ck X .Add FG:=by
 rintro pins s σ H x y u v Q I rx ry ⟨i,j,rfl,rfl,q⟩
 obtain ⟨t,rfl⟩:=(show ∃ t,u=Value.int i t from rx)
 obtain ⟨t',rfl⟩:=(show ∃ t',v=Value.int j t' from ry)
 exact PyProof.Rows.iadd_int ⟨.int (i+j),H,I.tok _,⟨_,rfl⟩,q⟩
end
section
variable {X:Cx} {pins:List (Addr×Obj)} {σ:St} {H:Hp} {s:Shared} {A:Around} {E:Value->Shared->Prop} {Q:Value->Shared->Prop} {c:Value} {b:Bool}
inductive iM (K:W.Frag) (H:Hp):V->Value->Prop where
 | aR:iM K H .aR (.type "NoneType")
 | bl (x:Bool):iM K H (.bl x) (.type "bool")
 | int (i:Int):iM K H (.int i) (.type "int")
 | str (x:Str):iM K H (.str x) (.type "str")
 | tN (x:UInt64):iM K H (.tN x) (.type "float")
 | lst {a:Addr} {xs:List V} (e:H a=some (.lst xs)):iM K H (.ref a) (.type "list")
 | dz {a:Addr} {o:Obj} {xs:List V} (e:H a=some (.dz o (.lst xs))):iM K H (.ref a) (.type "list")
 | tup {a:Addr} {xs:List V} (e:H a=some (.tup xs)):iM K H (.ref a) (.type "tuple")
 | dK {a:Addr} {kvs:List (Key×V)} (e:H a=some (.dK kvs)):iM K H (.ref a) (.type "dict")
 | dT {a:Addr} {kvs:List (List Key×V)} (e:H a=some (.dT kvs)):iM K H (.ref a) (.type "dict")
 | ins {a C dx:Addr} {fs:List (Str×V)} (e:H a=some (.ins C dx fs)) (cl:mD K C) (ha:W.findIn K (.ref C) "__class__" = some (some (.builtin "object.__class__")))
   (hn:W.specialIn K (.builtin "object.__class__") "__get__" = some (some (.builtin "getset_descriptor.__get__"))) (htk:W.takesIn K (.builtin "object.__class__")=some true)
   (hm:W.mroIn K C (.type "object")=some true):iM K H (.ref a) (.ref C)
theorem YS {x:V} {u t:Value} (I:Inv X pins σ H s) (rx:RelV x u) (ty:iM X.K H x t) (e:W.kitOne X.K t c=some b) (h:∀ tk,Q (.bool b) { s with toks:=tk }) :
  wpAny (model X.prog X.w) A (call (.builtin "isinstance") [u,c]) Q E s:=by
 cases ty with
 | aR=>cases (show u=Value.none from rx); exact a66 W.kitx_none I.eL True.intro e (λz=>nomatch z) h
 | bl y=>cases (show u=Value.bool y from rx); exact a66 W.kitx_bool I.eL True.intro e (λz=>nomatch z) h
 | int i=>obtain ⟨t,q⟩:=(show ∃ t,u=Value.int i t from rx); cases q; exact a66 W.kitx_int I.eL True.intro e (λz=>nomatch z) h
 | str y=>obtain ⟨t,q⟩:=(show ∃ t,u=Value.str y t from rx); cases q; exact a66 W.kitx_str I.eL True.intro e (λz=>nomatch z) h
 | tN y=>obtain ⟨t,q⟩:=(show ∃ t,u=Value.float y t from rx); cases q; exact a66 W.kitx_float I.eL True.intro e (λz=>nomatch z) h
 | @lst a xs ea =>
  cases (show u=Value.ref a from rx)
  obtain ⟨_,_,n,_,h1⟩:=(show aH X.prog X.w H s.heap a (.lst xs) from I.hok a _ ea)
  exact a66 W.kitx_list I.eL ⟨_,h1,rfl⟩ e (λz=>nomatch z) h
 | @dz a ob xs ea =>
  cases (show u=Value.ref a from rx)
  obtain ⟨_,_,_,n,_,h1⟩:=(show aH X.prog X.w H s.heap a (.dz ob (.lst xs)) from I.hok a _ ea)
  exact a66 W.kitx_list I.eL ⟨_,h1,rfl⟩ e (λz=>nomatch z) h
 | @tup a xs ea =>
  cases (show u=Value.ref a from rx)
  obtain ⟨_,_,_,p⟩:=(show aH X.prog X.w H s.heap a (.tup xs) from I.hok a _ ea)
  obtain ⟨o,h1,h2,_⟩:=p
  exact a66 W.kitx_tuple I.eL ⟨o,h1,h2⟩ e (λz=>nomatch z) h
 | @dK a kvs ea =>
  cases (show u=Value.ref a from rx)
  obtain ⟨_,_,vs,_,p⟩:=(show aH X.prog X.w H s.heap a (.dK kvs) from I.hok a _ ea)
  obtain ⟨o,es,ep,h1,h2,_⟩:=p
  exact a66 W.kitx_dict I.eL ⟨o,h1,h2.1⟩ e (λz=>nomatch z) h
 | @dT a kvs ea =>
  cases (show u=Value.ref a from rx)
  obtain ⟨_,_,xs,_,o,es,ep,h1,h2,_⟩:=(show aH X.prog X.w H s.heap a (.dT kvs) from I.hok a _ ea)
  exact a66 W.kitx_dict I.eL ⟨o,h1,h2.1⟩ e (λz=>nomatch z) h
 | @ins a C dx fs ea cl ha hn htk hm =>
  cases (show u=Value.ref a from rx)
  obtain ⟨mA,O,_⟩:=DU I.hok ea
  obtain ⟨od,J,_⟩:=O.look
  exact a66 (W.kitx_own (cl.get _) cl.hd ha hn htk hm) I.eL J e (λz=>nomatch z) h
end
structure br (k:Nat) (A:Around):Prop where
 hd:A.handled=none
 dp:A.depth+3 * k+5<recursionLimit
 un:A.units+16 * k+200<cLine
 gd:A.guards=some []
theorem br.mono {j k:Nat} {A:Around} (r:br k A) (h:j<=k):br j A:=⟨r.hd,by have:=r.dp; lia,by have:=r.un; lia,r.gd⟩
theorem br.deeper {k:Nat} {A:Around} (r:br (k+1) A) (env:Env):br k (A.deeper env) :=
 ⟨r.hd,by have:=r.dp; show A.depth+1+3 * k+5<_; lia,by have:=r.un; show A.units+3+16 * k+200<_; lia,r.gd⟩
theorem Y9 {A:Around} {C:Addr} {us:List Value} {kw:List (Str×Value)}:(A.under (.builtin "type.__call__" ⟨.ref C :: us,kw⟩)).depth=A.depth+1:=by
 first | rfl | simp [Around.under,Code.weight,Code.isCreation,Code.isGuard,Code.isCaller,Code.frames,Code.isFrame,guardIds]
theorem Y8 {A:Around} {C:Addr} {us:List Value} {kw:List (Str×Value)}:(A.under (.builtin "type.__call__" ⟨.ref C :: us,kw⟩)).units=A.units+1:=by
 first | rfl | simp [Around.under,Code.cUnits,Code.frames,Code.isFrame]
theorem br.make {k:Nat} {A:Around} (r:br (k+1) A) (C:Addr) (us:List Value) (kw:List (Str×Value)):br k (A.under (.builtin "type.__call__" ⟨.ref C :: us,kw⟩)) :=
 ⟨r.hd,by have:=r.dp; rw [Y9]; lia,by have:=r.un; rw [Y8]; lia,r.gd⟩
theorem br.depth {k:Nat} {A:Around} (r:br k A):A.depth<recursionLimit:=by have:=r.dp; lia
theorem br.units {k:Nat} {A:Around} (r:br k A):A.units+64<cLine:=by have:=r.un; lia
def vE:TA:=λ_ H Q=>Q [] H
def uh (ta:TE) (tr:TA):TA:=λσ H Q=>ta σ H λx H1=>tr σ H1 λxs H2=>Q (x :: xs) H2
section
variable {X:Cx} {e:Expr} {es:List Expr} {te:TE} {t:TA} {pos:Pos}
theorem Zb:PA X [] vE:=λ_ _ _ _ H Q I h=>a4X ⟨[],H,I,.nil,h⟩
theorem Xs (ha:PE X e te) (hr:PA X es t) (hs:starEach (e :: es) X.env=(false,eval e X.env) :: starEach es X.env:=by rfl):PA X (e :: es) (uh te t):=by
 intro pos pins s σ H Q I h
 rw [hs]
 show wpAny _ _ (spliced ((false,eval e X.env) :: backTo pos (starEach es X.env))) _ _ s
 refine a4Y (fY (ha pins s σ H _ I h) λu s1 x H1 I1 r1 q1=>?_)
 exact mG (hr pos pins s1 σ H1 _ I1 q1) λus s2 xs H2 I2 r2 q2=>⟨x :: xs,H2,I2,.cons r1 r2,q2⟩
def E7 (t:TA):TE:=λσ H Q=>t σ H λxs H1=>xs.length<=sizeLine/\∀ p,H1 p=none->Q (.ref p) (upd H1 p (.tup xs))
def Fd (t:TA):TE:=λσ H Q=>t σ H λxs H1=>xs.length<=sizeLine/\∀ p,H1 p=none->Q (.ref p) (upd H1 p (.lst xs))
theorem j6 {x1} (h:PA X es t):PE X (.Tuple es x1 pos) (E7 t):=by
 intro pins s σ H Q I hq
 refine wpAny_Tuple_spliced (b7 (h pos pins s σ H _ I hq) λus s1 ⟨xs,H1,I1,r,z,q⟩=>⟨by rw [← r.length]; exact z,?_⟩)
 have hf:H1 s1.heap.objs.size=none:=I1.hok.fresh (aDN _)
 refine ⟨.ref s1.heap.objs.size,upd H1 s1.heap.objs.size (.tup xs),I1.laid (t':=s1.toks) (λb u e=>aIi _ e) (aDN _) ?_,rfl,q _ hf⟩
 exact ⟨z,us,r,⟨_,a3a _ rfl,rfl,_,rfl⟩⟩
theorem m6 (h:PA X es t):PE X (.List es pos) (Fd t):=by
 intro pins s σ H Q I hq
 refine wpAny_List_spliced (b7 (h pos pins s σ H _ I hq) λus s1 ⟨xs,H1,I1,r,z,q⟩=>⟨by rw [← r.length]; exact z,?_⟩)
 have hf:H1 s1.heap.objs.size=none:=I1.hok.fresh (aDN _)
 refine ⟨.ref s1.heap.objs.size,upd H1 s1.heap.objs.size (.lst xs),I1.laid (t':=s1.toks) (λb u e=>aIi _ e) (aDN _) ?_,rfl,q _ hf⟩
 exact ⟨z,us,0,r,a3a _ rfl⟩
end
abbrev Sp:=List V->Hp->VK->XK->Prop
abbrev sA:=List Env->Hp->Shared->XK->Value->Shared->Prop
structure ny (P:Program) (w:World) (K:W.Frag) (mg:Str->Option Value) (base:Heap) (A:Around) (outer:List Env) (s:Shared) (H:Hp):Prop where
 frames:A.frames=some outer
 mod:Mod K mg base
 bs:∀ b o,base.get? b=some o->s.heap.get? b=some o/\H b=none
 rX:base.objs.size<=s.heap.objs.size
 jk:s.heap.FunFrames base outer
 wH:∀ b∈frs outer,H b=none
 hok:fC P w H s.heap
 bare:AllBare s.gens
def CE (outer:List Env) (P:Program) (w:World) (H:Hp) (s:Shared) (Q:VK) (u:Value) (s':Shared):Prop :=
 ∃ v H',s'.os=s.os/\AllBare s'.gens/\Un (frs outer) [] H H' s.heap s'.heap/\fC P w H' s'.heap/\RelV v u/\Q v H'
def CR (CX:sA) (outer:List Env) (P:Program) (w:World) (H:Hp) (s:Shared) (Q:VK) (E:XK) (r:Result) (s':Shared):Prop :=
 match r with
 | .ok (.ret u)=>CE outer P w H s Q u s'
 | .ok _=>False
 | .error e=>CX outer H s E e s'
structure au (P:Program) (w:World) (K:W.Frag) (mg:Str->Option Value) (base:Heap) (CX:sA) (k:Nat) (f:Addr) (fd:FuncData) (ps:List Str) (sp:Sp):Prop where
 len:∀ vs H Q E,sp vs H Q E->vs.length=ps.length
 run:∀ (A:Around) (outer:List Env) (s:Shared) (H:Hp) (args:Args) (us:List Value) (vs:List V) (Q:VK) (E:XK),br k A->ny P w K mg base A outer s H->BindsTo s fd args (ps.zip us)->Vals vs us->sp vs H Q E ->
  codeAny (model P w) A (.call (.ref f) args) (CR CX outer P w H s Q E) s
theorem ny.make {P:Program} {w:World} {K:W.Frag} {mg:Str->Option Value} {base:Heap} {A:Around} {outer:List Env} {s:Shared} {H:Hp} (e:ny P w K mg base A outer s H) (C:Addr) (us:List Value) (kw:List (Str×Value)) :
  ny P w K mg base (A.under (.builtin "type.__call__" ⟨.ref C :: us,kw⟩)) outer s H:=⟨by first | exact e.frames | (simpa [Around.under,Code.envs,Code.isFrame,pushEnvs] using e.frames),e.mod,e.bs,e.rX,e.jk,e.wH,e.hok,e.bare⟩
section
variable {X:Cx} {pins:List (Addr×Obj)} {σ:St} {H:Hp} {s s':Shared}
theorem Inv.qS (I:Inv X pins σ H s):ny X.prog X.w X.K X.mg X.base X.A X.stack s H :=
 ⟨I.ok.frames,I.ok.mod,I.bs,auj I.ok.rX I.sz,I.stack,I.kF,I.hok,I.bare⟩
theorem Inv.after {Q:VK} {u:Value} (I:Inv X pins σ H s) (h:CE X.stack X.prog X.w H s Q u s'):EP X pins σ Q u s':=by
 obtain ⟨v,H',os,bare,un,hok,r,q⟩:=h
 obtain ⟨hh,g,d,t,os'⟩:=s'
 obtain rfl:os'=s.os:=os
 exact ⟨v,H',I.call (h':=hh) (g':=g) (d':=d) (t':=t) (ch:=[]) un hok bare (λb z=>absurd z (by simp)),r,q⟩
end
def nC (sp:Sp) (j4:List V) (E:XK) (t:TA):TE:=λσ H Q=>t σ H λvs H1=>sp (vs++j4) H1 Q E
def nB (C:Addr) (m:Str) (sp:Sp) (j4:List V) (E:XK) (ta:TE) (t:TA):TE:=λσ H Q=>ta σ H λx H1=>∃ a dx fs,x=.ref a/\H1 a=some (.ins C dx fs)/\fs.lookup m=none /\
 t σ H1 λvs H2=>sp (x :: (vs++j4)) H2 Q E
def ug (C:Addr) (sp:Sp) (j4:List V) (E:XK) (t:TA):TE:=λσ H Q=>t σ H λvs H1=>∀ x dx,H1 x=none->H1 dx=none->dx≠x ->
 sp (.ref x :: (vs++j4)) (upd (upd H1 dx (.own x)) x (.ins C dx [])) (λv H2=>v=.aR/\Q (.ref x) H2) E
def Binds (K:W.Frag) (fd:FuncData) (ps:List Str) (ds:List Value):Prop :=
 ∀ (s:Shared) (us:List Value),K.In s.heap->(us++ds).length=ps.length->BindsTo s fd ⟨us,[]⟩ (ps.zip (us++ds))
theorem Binds.all {K:W.Frag} {fd:FuncData} {ps:List Str} (h:∀ us:List Value,us.length=ps.length->bindArgs fd ⟨us,[]⟩=pure (ps.zip us)):Binds K fd ps []:=λs us _ hl=>by
 rw [aKQ] at hl ⊢
 exact .of_eq (h us hl)
def wY (CX:sA) (X:Cx) (E:XK):Prop:=∀ (pins:List (Addr×Obj)) (σ:St) (H:Hp) (s:Shared) (e:Value) (s':Shared),Inv X pins σ H s->CX X.stack H s E e s'->X.xe e s'
section
variable {X:Cx} {CX:sA} {k:Nat} {f C:Addr} {fd:FuncData} {ps:List Str} {sp:Sp} {j4:List V} {ds:List Value} {E:XK} {x m:Str} {p pos apos:Pos} {e o:Expr} {es:List Expr} {ta:TE} {t:TA}
theorem DA {pins:List (Addr×Obj)} {σ:St} {H:Hp} {s:Shared} {Q:VK} {us:List Value} {vs:List V} (F:au X.prog X.w X.K X.mg X.base CX k f fd ps sp) (hr:br k X.A) (hb:Binds X.K fd ps ds) (hd:Vals j4 ds) (hx:wY CX X E)
  (I:Inv X pins σ H s) (r:Vals vs us) (h:sp (vs++j4) H Q E):wpAny (model X.prog X.w) X.A (call (.ref f) us) (EP X pins σ Q) X.xe s:=by
 have r2:Vals (vs++j4) (us++ds):=r.append hd
 have hl:(us++ds).length=ps.length:=by rw [← r2.length]; exact F.len _ _ _ _ h
 refine wpAny_call (codeAny_mono (F.run X.A X.stack s H ⟨us,[]⟩ (us++ds) (vs++j4) Q E hr I.qS (hb s us I.eL hl) r2 h) λr s' hq=>?_)
 cases r with
 | error e=>exact hx pins σ H s e s' I hq
 | ok fl =>
  cases fl with
  | ret u=>exact I.after hq
  | next=>exact False.elim hq
  | brk=>exact False.elim hq
  | cont=>exact False.elim hq
theorem Xr (F:au X.prog X.w X.K X.mg X.base CX k f fd ps sp) (hr:br k X.A) (hg:Gl X x) (hm:X.mg x=some (.ref f)) (hk:W.keepIn X.K (.ref f)=true) (hb:Binds X.K fd ps ds) (hd:Vals j4 ds) (hx:wY CX X E)
  (ha:PA X (e :: es) t) (hdb:(x == ("__debug__" : Str))=false:=by decide) (he:starEach (e :: es) X.env=(false,eval e X.env) :: starEach es X.env:=by rfl) (hpl:(backTo pos (starEach es X.env)).any (·.1)=false:=by rfl) :
  PE X (.Call (.Name x p) (e :: es) [] pos) (nC sp j4 E t):=by
 intro pins s σ H Q I h
 refine agp (DV I hg hm ?_ hdb)
 refine W.callWith_K (h₀:=X.base) I.ok.mod.yf hk (mG (ha pos pins s σ H _ I h) λus s1 vs H1 I1 r q=>⟨I1.eL,?_⟩) he hpl
 exact DA F hr hb hd hx I1 r q
theorem Xq {pl:Sem Bool} (he:PE X o ta) (c:mD X.K C) (hm:Meth X.K C m f) (F:au X.prog X.w X.K X.mg X.base CX k f fd ps sp) (hr:br k X.A) (hb:Binds X.K fd ps ds) (hd:Vals j4 ds) (hx:wY CX X E) (ha:PA X (e :: es) t)
  (hst:starEach (e :: es) X.env=(false,eval e X.env) :: starEach es X.env:=by rfl) (hpl:(backTo pos (starEach es X.env)).any (·.1)=false:=by rfl)
  (ht:eval (.Call (.Attribute o m apos) (e :: es) [] pos) X.env=(do
   let ov ← eval o X.env
   standAt apos.atName
   let (f,first) ← holding [ov] (getMethod ov m pl)
   callWith pos f first (backTo pos (starEach (e :: es) X.env)) (backToKw pos (keywordEach [] X.env))):=by rfl) :
  PE X (.Call (.Attribute o m apos) (e :: es) [] pos) (nB C m sp j4 E ta t):=by
 intro pins s σ H Q I h
 refine W.methodCall_KW (pl:=pl) (b7 (he pins s σ H _ I h) λu s1 ⟨x,H1,I1,rx,a,dx,fs,ex,ea,l,q⟩=>?_) ht
 subst ex
 obtain rfl:u=Value.ref a:=rx
 refine QS I1 ea c hm l ?_
 refine W.callWith_K (first:=[.ref a]) (h₀:=X.base) I.ok.mod.yf hm.kp (mG (ha pos pins s1 σ H1 _ I1 q) λus s2 vs H2 I2 r q2=>⟨I2.eL,?_⟩) hst hpl
 exact DA (us:=.ref a :: us) (vs:=.ref a :: vs) F hr hb hd hx I2 (.cons rfl r) q2
theorem XS {pl:Sem Bool} (he:PE X o ta) (c:mD X.K C) (hm:Meth X.K C m f) (F:au X.prog X.w X.K X.mg X.base CX k f fd ps sp) (hr:br k X.A) (hb:Binds X.K fd ps ds) (hd:Vals j4 ds) (hx:wY CX X E)
  (ht:eval (.Call (.Attribute o m apos) [] [] pos) X.env=(do
   let ov ← eval o X.env
   standAt apos.atName
   let (f,first) ← holding [ov] (getMethod ov m pl)
   callWith pos f first (backTo pos (starEach [] X.env)) (backToKw pos (keywordEach [] X.env))):=by rfl) :
  PE X (.Call (.Attribute o m apos) [] [] pos) (nB C m sp j4 E ta vE):=by
 intro pins s σ H Q I h
 refine W.methodCall_KW (pl:=pl) (b7 (he pins s σ H _ I h) λu s1 ⟨x,H1,I1,rx,a,dx,fs,ex,ea,l,q⟩=>?_) ht
 subst ex
 obtain rfl:u=Value.ref a:=rx
 refine QS I1 ea c hm l ?_
 exact W.callWith_K0 (first:=[.ref a]) I1.eL hm.kp (DA (us:=[.ref a]) (vs:=[.ref a]) F hr hb hd hx I1 (.cons rfl .nil) q)
structure Mk (K:W.Frag) (C f:Addr):Prop where
 makes:W.makesIn K C=true
 init:W.findIn K (.ref C) "__init__" = some (some (.ref f))
 fn:W.isFn K (.ref f)=true
 kp:W.keepIn K (.ref C)=true
theorem XR {pins:List (Addr×Obj)} {σ:St} {H:Hp} {s:Shared} {Q:VK} {us:List Value} {vs:List V} (M:Mk X.K C f) (F:au X.prog X.w X.K X.mg X.base CX k f fd ps sp) (hr:br (k+1) X.A) (hb:Binds X.K fd ps ds) (hd:Vals j4 ds)
  (hx:wY CX X E) (I:Inv X pins σ H s) (r:Vals vs us)
  (h:∀ x dx,H x=none->H dx=none->dx≠x->sp (.ref x :: (vs++j4)) (upd (upd H dx (.own x)) x (.ins C dx [])) (λv H2=>v=.aR/\Q (.ref x) H2) E) :
  wpAny (model X.prog X.w) X.A (call (.ref C) us) (EP X pins σ Q) X.xe s:=by
 have hq:=h (s.heap.objs.size+1) s.heap.objs.size (I.hok.fresh (Nat.le_succ _)) (I.hok.fresh (aDN _)) (anq (Nat.lt_succ_self _))
 have I2:=Inv.made (C:=C) I
 have r2:Vals (V.ref (s.heap.objs.size+1) :: (vs++j4)) (Value.ref (s.heap.objs.size+1) :: (us++ds)):=.cons rfl (r.append hd)
 have hl:(Value.ref (s.heap.objs.size+1) :: us++ds).length=ps.length:=by
  have e:=r2.length
  rw [F.len _ _ _ _ hq] at e
  exact e.symm
 refine wpAny_call (XT (f:=f) I.eL M.makes M.init (arV.mp M.fn) (codeAny_mono (F.run _ X.stack _ _ ⟨Value.ref (s.heap.objs.size+1) :: us,[]⟩ (Value.ref (s.heap.objs.size+1) :: (us++ds)) _ _ E (hr.make C us [])
  (I2.qS.make C us []) (hb _ (Value.ref (s.heap.objs.size+1) :: us) I2.eL hl) r2 hq) λr s' hq'=>?_))
 cases r with
 | error e=>exact hx pins σ _ _ e s' I2 hq'
 | ok fl =>
  cases fl with
  | ret u =>
   obtain ⟨v,H',I3,rv,ev,q3⟩:=I2.after hq'
   subst ev
   exact ⟨rv,⟨V.ref (s.heap.objs.size+1),H',I3,rfl,q3⟩⟩
  | next=>exact False.elim hq'
  | brk=>exact False.elim hq'
  | cont=>exact False.elim hq'
theorem Xp (M:Mk X.K C f) (F:au X.prog X.w X.K X.mg X.base CX k f fd ps sp) (hr:br (k+1) X.A) (hg:Gl X x) (hm:X.mg x=some (.ref C)) (hb:Binds X.K fd ps ds) (hd:Vals j4 ds) (hx:wY CX X E)
  (ha:PA X (e :: es) t) (hdb:(x == ("__debug__" : Str))=false:=by decide) (he:starEach (e :: es) X.env=(false,eval e X.env) :: starEach es X.env:=by rfl) (hpl:(backTo pos (starEach es X.env)).any (·.1)=false:=by rfl) :
  PE X (.Call (.Name x p) (e :: es) [] pos) (ug C sp j4 E t):=by
 intro pins s σ H Q I h
 refine agp (DV I hg hm ?_ hdb)
 refine W.callWith_K (h₀:=X.base) I.ok.mod.yf M.kp (mG (ha pos pins s σ H _ I h) λus s1 vs H1 I1 r q=>⟨I1.eL,?_⟩) he hpl
 exact XR M F hr hb hd hx I1 r q
end
structure ah (N P:List Str) (sc:Scope):Prop where
 kind:sc.kind=.function
 co:sc.isCoroutine=false
 gen:sc.isGenerator=false
 nd:N.Nodup
 pre:N.take P.length=P
 par:∀ x∈P,sc.names.lookup x=some .local\/sc.names.lookup x=some .cell
 vV:∀ y∈sc.names,y.2≠.free
theorem Qx {kindOf:Str->Option NameKind} {x:Str}:∀ {binds:List (Str×Value)} {m:Str->Option Value},(∀ v,(x,v)∉binds)->bindL kindOf binds m x=m x
 | [],_,_=>rfl
 | (n,v) :: r,m,h=>by
  unfold bindL
  rw [Qx λw hw=>h w (asq _ hw)]
  split
  .have:x≠n:=by rintro rfl; exact h v aq5
   simp [this]
  .rfl
theorem Qw {kindOf:Str->Option NameKind} {x:Str}:∀ {binds:List (Str×Value)} {m:Str->Option Value},(∀ v,(x,v)∉binds)->bindC kindOf binds m x=m x
 | [],_,_=>rfl
 | (n,v) :: r,m,h=>by
  unfold bindC
  rw [Qw λw hw=>h w (asq _ hw)]
  split
  .rfl
  .have:x≠n:=by rintro rfl; exact h v aq5
   simp [this]
theorem Qv {kindOf:Str->Option NameKind} {x:Str} {v:Value}:∀ {P:List Str} {vs:List Value} {i:Nat} {m:Str->Option Value},P.Nodup->P[i]?=some x->vs[i]?=some v->kindOf x=some .local ->
  bindL kindOf (P.zip vs) m x=some v
 | [],_,_,_,_,h,_,_=>by simp at h
 | _ :: _,[],_,_,_,_,h,_=>by simp at h
 | p :: P,w :: vs,0,m,nd,h1,h2,hk=>by
  simp at h1 h2; subst h1; subst h2
  show bindL kindOf ((p,w) :: P.zip vs) m p=_
  unfold bindL
  rw [Qx λv hv=>(a6A.mp nd).1 (List.of_mem_zip hv).1,bb9 hk]
  simp
 | p :: P,w :: vs,i+1,m,nd,h1,h2,hk=>by
  show bindL kindOf ((p,w) :: P.zip vs) m x=_
  unfold bindL
  exact Qv (i:=i) (a6A.mp nd).2 (by simpa using h1) (by simpa using h2) hk
theorem Qu {kindOf:Str->Option NameKind} {x:Str} {v:Value}:∀ {P:List Str} {vs:List Value} {i:Nat} {m:Str->Option Value},P.Nodup->P[i]?=some x->vs[i]?=some v->kindOf x≠some .local ->
  bindC kindOf (P.zip vs) m x=some v
 | [],_,_,_,_,h,_,_=>by simp at h
 | _ :: _,[],_,_,_,_,h,_=>by simp at h
 | p :: P,w :: vs,0,m,nd,h1,h2,hk=>by
  simp at h1 h2; subst h1; subst h2
  show bindC kindOf ((p,w) :: P.zip vs) m p=_
  unfold bindC
  rw [Qw λv hv=>(a6A.mp nd).1 (List.of_mem_zip hv).1,aYW hk]
  simp
 | p :: P,w :: vs,i+1,m,nd,h1,h2,hk=>by
  show bindC kindOf ((p,w) :: P.zip vs) m x=_
  unfold bindC
  exact Qu (i:=i) (a6A.mp nd).2 (by simpa using h1) (by simpa using h2) hk
def start (N:List Str) (vs:List V):St:=vs.map some++List.replicate (N.length - vs.length) none
def lO (CX:sA) (P:Program) (w:World) (K:W.Frag) (mg:Str->Option Value) (base:Heap) (N:List Str) (qual:Str) (scope:Scope) (f:Addr) (cd:Value) (A:Around) (outer:List Env) (s:Shared) (H:Hp) (E:XK):Cx where
 prog:=P
 w:=w
 K:=K
 mg:=mg
 base:=base
 A:=A.deeper (envOfC qual scope s.heap.objs.size f cd)
 N:=N
 s₀:=s
 H₀:=H
 env:=envOfC qual scope s.heap.objs.size f cd
 outer:=outer
 stack:=envOfC qual scope s.heap.objs.size f cd :: outer
 ex:=[]
 calm:=true
 fn:=λ_=>true
 pn:=[]
 xe:=λe s'=>wpAny (model P w) (A.deeper (envOfC qual scope s.heap.objs.size f cd)) (leaving (envOfC qual scope s.heap.objs.size f cd) e) (λ_ s''=>CX outer H s E e s'') (λe' s''=>CX outer H s E e' s'') s'
theorem PB {sc:Scope} {n:Nat} {x:Str} (h:sc.names.lookup x=some .cell):∃ c,(cellsFrom n sc.names []).lookup x=some c:=by
 have q:=W.cellsFrom_some sc.names n [] (.inl h)
 exact Option.isSome_iff_exists.mp q
theorem YR {CX:sA} {P:Program} {w:World} {K:W.Frag} {mg:Str->Option Value} {base:Heap} {N ps:List Str} {qual:Str} {scope:Scope} {f:Addr} {cd:Value} {A:Around} {outer:List Env} {s s1:Shared} {H:Hp} {E:XK} {us:List Value} {vs:List V}
  (S:ah N ps scope) (hd:A.handled=none) (e0:ny P w K mg base A outer s H) (hl:vs.length=ps.length) (r:Vals vs us)
  (x:InCallC s s.heap.objs.size (bindL (envOfC qual scope s.heap.objs.size f cd).kindOf (ps.zip us) λ_=>none) (cellsFrom (s.heap.objs.size+1) scope.names []) (bindC (envOfC qual scope s.heap.objs.size f cd).kindOf (ps.zip us) λ_=>none) s1) :
  Inv (lO CX P w K mg base N qual scope f cd A outer s H E) [] (start N vs) H s1:=by
 have hpl:ps.length<=N.length:=by have:=a5E List.length S.pre; rw [aoM] at this; lia
 obtain ⟨h1,tk,rfl,hk⟩:=x.done
 have vW:∀ b:Addr,b∉(lO CX P w K mg base N qual scope f cd A outer s H E).ex:=λb z=>absurd (show b∈([]:List Addr) from z) (by simp)
 refine ⟨⟨e0.mod,S.kind,rfl,rfl,aDN _,λy z c h1 h2=>?_,λy hy=>?_,λy c _ h=>?_,λ_=>hd,Around.frames_deeper e0.frames,.inr ⟨rfl,rfl⟩,λb z=>absurd z (vW b),e0.bs,e0.rX,λb _ _=>vW b,λb z=>absurd z (vW b),e0.jk,e0.wH⟩,
  rfl,e0.bare,Un.kept hk,⟨_,x.toInCall.ns,λi y v h1 h2 h3=>?_⟩,λy c h=>⟨_,x.cell y c h⟩,e0.hok.fresh (aDN _),λy c h=>?_,λp hp=>absurd (show p∈([]:List (Addr×Obj)) from hp) (by simp),e0.hok.kept hk,?_⟩
 .exact name_of_addr x.apart (aq7 h1) (aq7 h2)
 .have hy:scope.names.lookup y=some .cell\/scope.names.lookup y=some .free:=hy
  rcases hy with hy | hy
  .exact PB hy
  .exact absurd rfl (S.vV _ (aq7 hy))
 .exact aS5 (x.above y c (aq7 h))
 .have hi:i<vs.length:=by
   unfold start at h2
   by_cases hi:i<vs.length
   .exact hi
   .rw [aRD (by simpa using hi)] at h2
    rw [aV2] at h2
    split at h2 <;> cases h2
  have ha:vs[i]?=some v:=by
   unfold start at h2
   rw [aOW (by simpa using hi),aJm] at h2
   cases e:vs[i]? with
   | none=>rw [e] at h2; cases h2
   | some a=>rw [e] at h2; cases h2; rfl
  obtain ⟨u,hu,rv⟩:=r.get ha
  have hp:ps[i]?=some y:=by
   rw [← S.pre,List.getElem?_take_of_lt (by lia)]; exact h1
  have L0:ps.Nodup:=by rw [← S.pre]; exact S.nd.sublist (List.take_sublist _ _)
  refine ⟨u,rv,?_⟩
  rcases S.par y (axK hp) with k | k
  .exact .inl ⟨k,Qv L0 hp hu k⟩
  .obtain ⟨c,e⟩:=PB (n:=s.heap.objs.size+1) k
   refine .inr ⟨.inl k,c,e,?_⟩
   have q:=x.cell y c e
   rw [Qu L0 hp hu (by show scope.names.lookup y≠_; rw [k]; decide)] at q
   exact q
 .exact e0.hok.fresh (aS5 (x.above y c (aq7 h)))
 .unfold start
  show _=N.length
  rw [aAe,aUH,asY]
  lia
theorem uT {CX:sA} {P:Program} {w:World} {K:W.Frag} {mg:Str->Option Value} {base:Heap} {k:Nat} {f:Addr} {name qual:Str} {params:Arguments} {body:List Stmt} {scope:Scope} {dV kV doc pm cdv ct oc:Value} {an od:Option Addr}
  {osl:Array (Option Value)} {N ps:List Str} {sp:Sp} (lk:K.lookup f=some ⟨oc,od,.func (W.fnOf name qual params body scope dV kV doc pm an cdv ct),osl⟩) (hcd:W.codeIn K cdv qual=true) (S:ah N ps scope)
  (len:∀ vs H Q E,sp vs H Q E->vs.length=ps.length)
  (hbody:∀ (A:Around) (outer:List Env) (s:Shared) (H:Hp) (vs:List V) (Q:VK) (E:XK),br k (A.deeper (envOfC qual scope s.heap.objs.size f cdv))->sp vs H Q E ->
   ∃ t,pF (lO CX P w K mg base N qual scope f cdv A outer s H E) body t/\t { nx:=λ_ H'=>Q .aR H',rt:=Q } (start N vs) H) :
  au P w K mg base CX (k+1) f (W.fnOf name qual params body scope dV kV doc pm an cdv ct) ps sp:=by
 refine ⟨len,λA outer s H args us vs Q E hr e0 hb r oX=>?_⟩
 have hl:=len _ _ _ _ oX
 have KX:K.In s.heap:=e0.mod.yf.keeps λb o e=>(e0.bs b o e).1
 have lim:s.heap.NoLimit:=e0.mod.nolimit.keeps λb o e=>(e0.bs b o e).1
 have hkind:∀ y∈ps.zip us,scope.names.lookup y.1=some .local\/(scope.names.lookup y.1=some .cell/\((cellsFrom (s.heap.objs.size+1) scope.names []).lookup y.1).isSome=true):=λ⟨n,v⟩ hy=>by
  rcases S.par n (List.of_mem_zip hy).1 with q | q
  .exact .inl q
  .exact .inr ⟨q,W.cellsFrom_some _ _ _ (.inl q)⟩
 refine codeAny_call_function hr.depth (KX _ _ lk) rfl S.co S.gen rfl (W.codeRec_of KX hcd) (hb _ _ _ _ ?_)
 refine wpAny_newFunctionEnv_cells S.kind hkind λenv he s1 x=>?_
 subst he
 refine ⟨lim.keeps x.toInCall.keep,codeAny_func ?_⟩
 obtain ⟨t,ht,hq⟩:=hbody A outer s H vs Q E (hr.deeper _) oX
 have I:Inv (lO CX P w K mg base N qual scope f cdv A outer s H E) [] (start N vs) H s1:=YR S hr.hd e0 hl r x
 refine ayO (ht [] s1 (start N vs) H _ I hq) (λfl s' hs=>?_) λe s' hs=>hs
 have fin:∀ {σ':St} {H':Hp} {v:V} {u:Value},Inv (lO CX P w K mg base N qual scope f cdv A outer s H E) [] σ' H' s'->RelV v u->Q v H'->CE outer P w H s Q u s' :=
  λ{σ' H' v u} J rv q=>⟨v,H',J.os,J.bare,J.base,J.hok,rv,q⟩
 cases fl with
 | ret u =>
  obtain ⟨v,σ',H',J,rv,q⟩:=hs
  exact fin J rv q
 | next =>
  obtain ⟨σ',H',J,q⟩:=hs
  exact fin (v:=V.aR) (u:=Value.none) J rfl q
 | brk =>
  obtain ⟨_,_,_,q⟩:=hs
  exact False.elim q
 | cont =>
  obtain ⟨_,_,_,q⟩:=hs
  exact False.elim q
section
variable {X:Cx} {x:Str} {p pos:Pos} {e:Expr} {es:List Expr} {t:TA} {id T:String} {r:List V->Hp->VK->Prop}
def CB (r:List V->Hp->VK->Prop) (t:TA):TE:=λσ H Q=>t σ H λvs H1=>r vs H1 Q
theorem XQ (hc:bF X (.builtin id) r) (hg:Gl X x) (hm:X.mg x=none) (hv:bootBuiltins x=some (.builtin id)) (ha:PA X (e :: es) t) (hn:x ≠ "__name__" := by decide) (hdb:(x == ("__debug__" : Str))=false:=by decide)
  (he:starEach (e :: es) X.env=(false,eval e X.env) :: starEach es X.env:=by rfl) (hpl:(backTo pos (starEach es X.env)).any (·.1)=false:=by rfl):PE X (.Call (.Name x p) (e :: es) [] pos) (CB r t):=by
 intro pins s σ H Q I h
 refine agp (se I hg hm hv ?_ hn hdb)
 exact PyProof.Rows.callWith_builtin1 (mG (ha pos pins s σ H _ I h) λus s1 vs H1 I1 r1 q1=>hc pins s1 σ H1 vs us Q I1 r1 q1) he hpl
theorem YQ (hc:bF X (.type T) r) (hg:Gl X x) (hm:X.mg x=none) (hv:bootBuiltins x=some (.type T)) (ha:PA X (e :: es) t) (hn:x ≠ "__name__" := by decide) (hdb:(x == ("__debug__" : Str))=false:=by decide)
  (he:starEach (e :: es) X.env=(false,eval e X.env) :: starEach es X.env:=by rfl) (hpl:(backTo pos (starEach es X.env)).any (·.1)=false:=by rfl):PE X (.Call (.Name x p) (e :: es) [] pos) (CB r t):=by
 intro pins s σ H Q I h
 refine agp (se I hg hm hv ?_ hn hdb)
 exact awR (mG (ha pos pins s σ H _ I h) λus s1 vs H1 I1 r1 q1=>hc pins s1 σ H1 vs us Q I1 r1 q1) he hpl
end
end L2
namespace HT
open PySem PyProof.Rows
theorem lN (A:Around) (s:Shared) (a:Int) (t:Tok) (c:Int) (u:Tok):∃ e,SeqAt.EqAt A s (.int a t) (.int c u) e/\(e=true↔a=c) :=
 ⟨(a == c),SeqAt.EqAt.int_int a t c u,by simp⟩
section
open PySem.SeqAt
open PySem.AutoSeq1 (wpAny_loadPart')
open PySem.MeetsSeq PySem.MeetsSeq2 PySem.MeetsSeq3
end
section
variable {prog:Program} {w:World} {A:Around} {E:Value->Shared->Prop} {s:Shared}
def iY (n d:Nat):Option Int->Nat
 | none=>d
 | some v=>if v<0 then (v+(n:Int)).toNat else min v.toNat n
theorem qg (n d:Nat):iY n d none=d:=rfl
theorem nX (n d k:Nat):iY n d (some (k:Int))=min k n:=by
 show (if (k:Int)<0 then ((k:Int)+(n:Int)).toNat else min (k:Int).toNat n)=min k n
 rw [aYW (by lia),Int.toNat_natCast]
end
end HT
namespace L2
open PySem PySem.Spec PyProof.Rows
abbrev TO:=St->Hp->(Option Int->Hp->Prop)->Prop
def PO (X:Cx) (e:Option Expr) (t:TO):Prop :=
 ∀ (pins:List (Addr×Obj)) (s:Shared) (σ:St) (H:Hp) (Q:Option Int->Hp->Prop),Inv X pins σ H s->t σ H Q ->
  wpAny (model X.prog X.w) X.A (evalPart e X.env) (λu s'=>∃ o H',Inv X pins σ H' s'/\IsPart u o/\Q o H') X.xe s
def Xo:TO:=λ_ H Q=>Q none H
def yY (t:TE):TO:=λσ H Q=>t σ H λx H1=>∃ i,x=.int i/\Q (some i) H1
theorem JH {ns:List Int}:∀ {us:List Value},Vals (ns.map V.int) us->IntsAre us ns:=by
 induction ns with
 | nil=>intro us r; rw [map_nil] at r; cases r; exact .nil
 | cons n ns ih =>
  intro us r
  rw [aSD] at r
  cases r with
  | cons r1 r2 =>
   obtain ⟨t,e⟩:=r1
   subst e
   exact .cons n t (ih r2)
section
variable {X:Cx} {e:Expr} {te:TE} {lo hi:Option Expr} {tl th:TO} {pos p2:Pos}
theorem Xn:PO X none Xo:=by
 intro pins s σ H Q I h
 rw [evalPart_none]
 exact ag7 ⟨none,H,I,.none,h⟩
theorem IG (h:PE X e te):PO X (some e) (yY te):=by
 intro pins s σ H Q I hw
 rw [evalPart_some]
 refine fY (h pins s σ H _ I hw) λu s1 x H1 I1 r1 q1=>?_
 obtain ⟨i,rfl,q⟩:=q1
 obtain ⟨t,rfl⟩:=r1
 exact ⟨some i,H1,I1,.int i t,q⟩
def Lm (X:Cx) (r:V->Option Int->Option Int->Hp->VK->Prop):Prop :=
 ∀ (pins:List (Addr×Obj)) (s:Shared) (σ:St) (H:Hp) (x:V) (v vl vu:Value) (lo hi:Option Int) (sl:Addr) (Q:VK),Inv X pins σ H s->RelV x v->s.heap.IsSliceOf sl vl vu .none->IsPart vl lo->IsPart vu hi->r x lo hi H Q ->
  ∃ T id,typeLookup (.type T) "__getitem__" = pure (some (.builtin id))/\s.TypeIs v T/\wpAny (model X.prog X.w) X.A (getItem v (.ref sl)) (EP X pins σ Q) X.xe s
def SQ (r:V->Option Int->Option Int->Hp->VK->Prop) (te:TE) (tl th:TO):TE:=λσ H Q=>te σ H λx H1=>tl σ H1 λl H2=>th σ H2 λu H3=>r x l u H3 Q
theorem Pz {r:V->Option Int->Option Int->Hp->VK->Prop} (hr:Lm X r) (he:PE X e te) (hl:PO X lo tl) (hu:PO X hi th):PE X (.Subscript e (.Slice lo hi none p2) pos) (SQ r te tl th):=by
 intro pins s σ H Q I h
 refine Subscript_ (fY (he pins s σ H _ I h) λv s1 x H1 I1 r1 q1=>?_)
 refine wpAny_Slice (b7 (hl pins s1 σ H1 _ I1 q1) λvl s2 ⟨l,H2,I2,pl,q2⟩=>b7 (hu pins s2 σ H2 _ I2 q2) λvu s3 ⟨u,H3,I3,pu,q3⟩=>?_)
 rw [evalPart_none]
 refine ag7 ?_
 have I4:Inv X pins σ H3 { s3 with heap:=s3.heap.push { cls:=.type "slice",data:=.fields #[vl,vu,.none] } }:=I3.kept (t':=s3.toks) λb ob q=>aIi _ q
 obtain ⟨T,id,hT,ht,hg⟩:=hr pins { s3 with heap:=s3.heap.push { cls:=.type "slice",data:=.fields #[vl,vu,.none] } } σ H3 x v vl vu l u s3.heap.objs.size Q I4 r1 (Heap.IsSliceOf.new ..) pl pu q3
 show wpAny (model X.prog X.w) X.A (subscriptTail e (.Slice lo hi none p2) v (.ref s3.heap.objs.size)) (EP X pins σ Q) X.xe { s3 with heap:=s3.heap.push { cls:=.type "slice",data:=.fields #[vl,vu,.none] } }
 exact tail_any (ops:=[.ref s3.heap.objs.size,v]) ht hT hg (by with_unfolding_all rfl)
def lP (xs:List V) (lo hi:Option Int):List V:=(xs.drop (HT.iY xs.length 0 lo)).take (HT.iY xs.length xs.length hi - HT.iY xs.length 0 lo)
theorem Zht (xs:List V) (lo hi:Option Int):(lP xs lo hi).length<=xs.length:=by
 unfold lP
 rw [aoM,a8K]
 lia
end
def pS (n:Nat) (i:Int):Option Nat:=if 0<=i then (if i<n then some i.toNat else none) else if -(n:Int)<=i then some (i+n).toNat else none
def gc {α:Type} (xs:List α) (i:Int):Option α:=(pS xs.length i).bind λj=>xs[j]?
theorem OP {n:Nat} {i:Int} {j:Nat} (h:pS n i=some j):seqIndex? i n=some j/\j<n /\ -(n:Int)<=i/\i<n:=by
 unfold pS at h
 by_cases h0:0<=i
 .rw [bb9 h0] at h
  by_cases h1:i<n
  .rw [bb9 h1] at h
   have e:i.toNat=j:=a6S h
   exact ⟨by rw [seqIndex_of h0 h1,e],by lia,by lia,h1⟩
  .rw [aYW h1] at h; cases h
 .rw [aYW h0] at h
  by_cases h1 : -(n:Int)<=i
  .rw [bb9 h1] at h
   have e:(i+n).toNat=j:=a6S h
   exact ⟨by rw [seqIndex_neg (by lia) h1,e],by lia,h1,by lia⟩
  .rw [aYW h1] at h; cases h
theorem OO {α:Type} {xs:List α} {i:Int} {v:α} (h:gc xs i=some v):∃ j,seqIndex? i xs.length=some j/\xs[j]?=some v/\j<xs.length /\ -(xs.length:Int)<=i/\i<xs.length:=by
 unfold gc at h
 cases e:pS xs.length i with
 | none=>rw [e] at h; cases h
 | some j =>
  rw [e] at h
  obtain ⟨h1,h2,h3,h4⟩:=OP e
  exact ⟨j,h1,h,h2,h3,h4⟩
theorem pq {α:Type} {xs:List α} {j:Nat} {v:α} (h:xs[j]?=some v):gc xs (j:Int)=some v:=by
 have hj:j<xs.length:=(aK1.mp h).1
 have e:pS xs.length (j:Int)=some j:=by
  unfold pS
  rw [bb9 (by lia),bb9 (by lia)]; simp
 unfold gc; rw [e]; exact h
def Xm (b:Expr):Prop:=∀ o i,subscripted b false o i=operate [o,i] (getItem o i)
def Ci (X:Cx) (r:R2):Prop :=
 ∀ (value slice:Expr) (pins:List (Addr×Obj)) (s:Shared) (σ:St) (H:Hp) (x y:V) (v u:Value) (Q:VK),Inv X pins σ H s->RelV x v->RelV y u->r x y H Q ->
  subscripted slice false v u=operate [v,u] (getItem v u)->wpAny (model X.prog X.w) X.A (subscriptTail value slice v u) (EP X pins σ Q) X.xe s
def MtR (X:Cx) (id:String) (r:V->List V->Hp->VK->Prop):Prop :=
 ∀ (pins:List (Addr×Obj)) (s:Shared) (σ:St) (H:Hp) (x:V) (xs:List V) (v:Value) (us:List Value) (Q:VK),Inv X pins σ H s->RelV x v->Vals xs us->r x xs H Q ->
  wpAny (model X.prog X.w) X.A (call (.builtin id) (v :: us)) (EP X pins σ Q) X.xe s
section
variable {X:Cx} {a b:Expr} {ta tb:TE} {pos:Pos}
theorem av {r:R2} (hr:Ci X r) (ha:PE X a ta) (hb:PE X b tb) (hs:Xm b):PE X (.Subscript a b pos) (CA r ta tb):=by
 intro pins s σ H Q I h
 exact Subscript_ (wR ha hb I h λv u s2 x y H2 I2 rx ry q=>hr a b pins s2 σ H2 x y v u Q I2 rx ry q (hs _ _))
def zA (K:W.Frag):R2:=λx y H Q=>∃ p xs i v,x=.ref p/\y=.int i/\aG K H p xs/\gc xs i=some v/\Q v H
def zy (K:W.Frag):R2:=λx y H Q=>∃ p xs i v,x=.ref p/\y=.int i/\aZ K H p xs/\gc xs i=some v/\Q v H
theorem Xl:Ci X (zA X.K):=by
 intro value slice pins s σ H x y v u Q I rx ry h hs
 obtain ⟨p,xs,i,z,rfl,rfl,hq,he,q⟩:=h
 cases rx
 obtain ⟨t,rfl⟩:=ry
 obtain ⟨its,r,pl,hz⟩:=I.list hq
 obtain ⟨j,h1,h2,h3,h4,h5⟩:=OO he
 obtain ⟨w,ew,rw'⟩:=r.get h2
 have hl:=r.length
 have hn:=DB
 have fin:EP X pins σ Q w s:=⟨z,H,I,rw',q⟩
 by_cases h0:0<=i
 .have hj:i.toNat=j:=by
   rw [seqIndex_of h0 h5] at h1
   exact a6S h1
  exact item_listR pl.isList h0 (by lia) (by rw [hj]; simpa using ew) fin hs
 .have hj:(i+(its.toArray.size:Int)).toNat=j:=by
   rw [seqIndex_neg (by lia) h4] at h1
   rw [ahz,← hl]
   exact a6S h1
  exact subscriptTail_builtinR (x:=w) pl.isList.typeIs slot_list_getitem.lookup
   (wpAny_getItem_list_neg (Q:=λr s'=>r=w/\EP X pins σ Q r s') pl.isList (by lia) (by rw [ahz] <;> lia) (by lia) (by rw [hj]; simpa using ew) ⟨rfl,fin⟩) hs
theorem VY:Ci X (zy X.K):=by
 intro value slice pins s σ H x y v u Q I rx ry h hs
 obtain ⟨p,xs,i,z,rfl,rfl,hq,he,q⟩:=h
 cases rx
 obtain ⟨t,rfl⟩:=ry
 obtain ⟨its,r,pl,hz⟩:=I.tuple hq
 obtain ⟨j,h1,h2,h3,h4,h5⟩:=OO he
 obtain ⟨w,ew,rw'⟩:=r.get h2
 have hl:=r.length
 have hn:=DB
 have fin:EP X pins σ Q w s:=⟨z,H,I,rw',q⟩
 exact subscriptTail_builtinR (x:=w) pl.typeIs slot_tuple_getitem.lookup
  (getItem_tuple (j:=j) (Q:=λr s'=>r=w/\EP X pins σ Q r s') pl (by lia) (by lia) (by rw [ahz,← hl]; exact h1) (by simpa using ew) ⟨rfl,fin⟩) hs
theorem Y7 (its:List Value) (n j:Nat) (u:Value):Obj.mapSeq (·.setIfInBounds j u) { cls:=.type "list",data:=.seq its.toArray n }={ cls:=.type "list",data:=.seq (its.set j u).toArray n }:=by
 simp [Obj.mapSeq]
theorem Inv.lst {pins:List (Addr×Obj)} {σ:St} {H:Hp} {s:Shared} {p:Addr} {xs:List V} (I:Inv X pins σ H s) (h:H p=some (.lst xs)) :
  ∃ (its:List Value) (n:Nat),Vals xs its/\s.heap.get? p=some { cls:=.type "list",data:=.seq its.toArray n }/\xs.length<=sizeLine:=by
 obtain ⟨z,its,n,r,e⟩:=I.hok p _ h
 exact ⟨its,n,r,e,z⟩
theorem Inv.wg {pins:List (Addr×Obj)} {σ:St} {H:Hp} {s:Shared} {p:Addr} {xs ys:List V} {its its':List Value} {n n':Nat} {f:Obj->Obj} (I:Inv X pins σ H s) (h:H p=some (.lst xs))
  (ho:s.heap.get? p=some { cls:=.type "list",data:=.seq its.toArray n }) (hf:f { cls:=.type "list",data:=.seq its.toArray n }={ cls:=.type "list",data:=.seq its'.toArray n' }) (r:Vals ys its') (hz:ys.length<=sizeLine) (t:Nat) :
  Inv X pins σ (upd H p (.lst ys)) { s with heap:=s.heap.update p f,toks:=t }:=by
 have e:(s.heap.update p f).get? p=some { cls:=.type "list",data:=.seq its'.toArray n' }:=by
  rw [Heap.get?_update_self f ho (by rw [hf] <;> rfl),hf]
 refine I.write (x:=p) (e:=p) (by rw [h]; trivial) (.inl rfl) (λb u hb q=>(Heap.get?_update_other _ _ (aI4 hb)).trans q) ⟨_,e⟩ ?_
 exact ⟨hz,its',n',r,e⟩
def zx:V->V->V->Hp->(Hp->Prop)->Prop:=λo i v H Q=>∃ p xs k j,o=.ref p/\i=.int k/\H p=some (.lst xs)/\pS xs.length k=some j/\Q (upd H p (.lst (xs.set j v)))
theorem xu:Cc X zx:=by
 intro pins s σ H o i v ov iv u Q I ro ri rv h
 obtain ⟨p,xs,k,j,rfl,rfl,hp,hj,q⟩:=h
 cases ro
 obtain ⟨t,rfl⟩:=ri
 obtain ⟨its,n,r,ho,hz⟩:=I.lst hp
 obtain ⟨h1,h2,h3,h4⟩:=OP hj
 have hl:=r.length
 have hn:=DB
 have I':Inv X pins σ (upd H p (.lst (xs.set j v))) { s with heap:=s.heap.update p (Obj.mapSeq (·.setIfInBounds j u)) } :=
  I.wg hp ho (Y7 its n j u) (r.set rv j) (by rw [aZE]; exact hz) s.toks
 by_cases h0:0<=k
 .have hk:k.toNat=j:=by
   rw [seqIndex_of h0 h4] at h1
   exact a6S h1
  exact W.ki_setAt ho h0 (by lia) (by rw [ahz,← hl]; exact h4) (by rw [hk]; exact ⟨_,I',q⟩)
 .have hk:(k+(its.toArray.size:Int)).toNat=j:=by
   rw [seqIndex_neg (by lia) h3] at h1
   rw [ahz,← hl]
   exact a6S h1
  exact W.ki_setBack ho (by lia) (by rw [ahz,← hl]; exact h3) (by lia) (by rw [hk]; exact ⟨_,I',q⟩)
theorem Zgq (lo hi:Option Int) (n:Nat):(sliceBounds lo hi none n).1=((HT.iY n 0 lo:Nat):Int)/\(sliceBounds lo hi none n).2.1=((HT.iY n n hi:Nat):Int)/\(sliceBounds lo hi none n).2.2=1:=by
 refine ⟨?_,?_,rfl⟩
 .cases lo with
  | none=>simp [sliceBounds,HT.iY]
  | some i =>
   simp only [sliceBounds,HT.iY,Option.getD_none,show (1:Int) > 0 by decide,aEp]
   by_cases h:i<0
   .simp only [h,aEp] <;> lia
   .simp only [h,azU] <;> lia
 .cases hi with
  | none=>simp [sliceBounds,HT.iY]
  | some i =>
   simp only [sliceBounds,HT.iY,Option.getD_none,show (1:Int) > 0 by decide,aEp]
   by_cases h:i<0
   .simp only [h,aEp] <;> lia
   .simp only [h,azU] <;> lia
theorem Zft (its:List Value) (lo hi:Option Int):slicePick its.toArray lo hi none=((its.drop (HT.iY its.length 0 lo)).take (HT.iY its.length its.length hi - HT.iY its.length 0 lo)).toArray:=by
 obtain ⟨h1,h2,h3⟩:=Zgq lo hi its.toArray.size
 unfold slicePick
 rw [h1,h2,h3]
 simp only [sliceRange_one,pick_run,ahz] <;> rfl
def zw (K:W.Frag):V->Option Int->Option Int->Hp->VK->Prop:=λx lo hi H Q=>∃ a xs,x=.ref a/\aG K H a xs/\∀ p,H p=none->Q (.ref p) (upd H p (.lst (lP xs lo hi)))
theorem WS:Lm X (zw X.K):=by
 intro pins s σ H x v vl vu lo hi sl Q I rx hs pl pu h
 obtain ⟨a,xs,rfl,hx,q⟩:=h
 cases rx
 obtain ⟨its,r,ht,hz⟩:=I.list hx
 have hlen:=r.length
 refine ⟨"list",_,slot_list_getitem.lookup,ht.isList.typeIs,?_⟩
 refine wpAny_getItem_list_slice ht.isList hs pl pu .none (by simp) ?_ (by rw [ahz] <;> lia)
 rw [Zft,← hlen]
 refine ⟨.ref s.heap.objs.size,_,I.laid (t':=s.toks) (o:=.lst (lP xs lo hi)) (λb ob q=>aIi _ q) (aDN _) ?_,rfl,q _ (I.hok.fresh (aDN _))⟩
 exact ⟨auj (Zht xs lo hi) hz,_,0,(r.drop (HT.iY xs.length 0 lo)).take (HT.iY xs.length xs.length hi - HT.iY xs.length 0 lo),a3a _ rfl⟩
def iw:V->Bool
 | .aR=>true
 | .bl _=>true
 | .int _=>true
 | .str _=>true
 | _=>false
def uW:V->V->Bool
 | .aR,.aR=>true
 | .bl a,.bl b=>a == b
 | .bl a,.int b=>(if a then 1 else 0) == b
 | .int a,.bl b=>a == (if b then 1 else 0)
 | .int a,.int b=>a == b
 | .str a,.str b=>a == b
 | _,_=>false
theorem VX {A:Around} {s:Shared} {y x:V} {u v:Value} (ry:RelV y u) (rx:RelV x v) (fy:iw y=true) (fx:iw x=true):SeqAt.EqAt A s u v (uW y x):=by
 cases y with
 | aR =>
  cases ry
  cases x with
  | aR=>cases rx; exact SeqAt.EqAt.same _
  | bl b=>cases rx; exact SeqAt.EqAt.none_bool b
  | int b=>obtain ⟨t,rfl⟩:=rx; exact SeqAt.EqAt.none_int b t
  | str b=>obtain ⟨t,rfl⟩:=rx; exact SeqAt.EqAt.none_str b t
  | _=>exact absurd (show false=true from fx) aXI
 | bl a =>
  cases ry
  cases x with
  | aR=>cases rx; exact SeqAt.EqAt.bool_none a
  | bl b=>cases rx; exact SeqAt.EqAt.bool_bool a b
  | int b=>obtain ⟨t,rfl⟩:=rx; exact SeqAt.EqAt.bool_int a b t
  | str b=>obtain ⟨t,rfl⟩:=rx; exact SeqAt.EqAt.bool_str a b t
  | _=>exact absurd (show false=true from fx) aXI
 | int a =>
  obtain ⟨t',rfl⟩:=ry
  cases x with
  | aR=>cases rx; exact SeqAt.EqAt.int_none a t'
  | bl b=>cases rx; exact SeqAt.EqAt.int_bool a t' b
  | int b=>obtain ⟨t,rfl⟩:=rx; exact SeqAt.EqAt.int_int a t' b t
  | str b=>obtain ⟨t,rfl⟩:=rx; exact SeqAt.EqAt.int_str a t' b t
  | _=>exact absurd (show false=true from fx) aXI
 | str a =>
  obtain ⟨t',rfl⟩:=ry
  cases x with
  | aR=>cases rx; exact SeqAt.EqAt.str_none a t'
  | bl b=>cases rx; exact SeqAt.EqAt.str_bool a t' b
  | int b=>obtain ⟨t,rfl⟩:=rx; exact SeqAt.EqAt.str_int a t' b t
  | str b=>obtain ⟨t,rfl⟩:=rx; exact SeqAt.EqAt.str_str a t' b t
  | _=>exact absurd (show false=true from fx) aXI
 | _=>exact absurd (show false=true from fy) aXI
def tP (x:V) (u:Value):Bool:=match u with
 | .none=>uW .aR x
 | .bool b=>uW (.bl b) x
 | .int i _=>uW (.int i) x
 | .str z _=>uW (.str z) x
 | _=>false
theorem NI {x y:V} {u:Value} (r:RelV y u) (f:iw y=true):tP x u=uW y x:=by
 cases y with
 | aR=>cases r; rfl
 | bl b=>cases r; rfl
 | int i=>obtain ⟨t,rfl⟩:=r; rfl
 | str z=>obtain ⟨t,rfl⟩:=r; rfl
 | _=>exact absurd (show false=true from f) aXI
theorem IF {x:V}:∀ {xs:List V} {us:List Value},Vals xs us->xs.all iw=true->us.any (tP x)=xs.any λy=>uW y x
 | _,_,.nil,_=>rfl
 | y :: xs,u :: us,.cons r t,f=>by
  rw [all_cons,aeR] at f
  rw [any_cons,any_cons,NI r f.1,IF t f.2]
theorem Ji {A:Around} {s:Shared} {x:V} {v:Value} (rx:RelV x v) (fx:iw x=true):∀ {xs:List V} {us:List Value},Vals xs us->xs.all iw=true->∀ u∈us,SeqAt.EqAt A s u v (tP x u)
 | _,_,.nil,_=>λu hu=>by cases hu
 | y :: xs,u :: us,.cons r t,f=>λu' hu=>by
  rw [all_cons,aeR] at f
  rcases awk.mp hu with rfl | hu
  .rw [NI r f.1]; exact VX r rx f.1 fx
  .exact Ji rx fx t f.2 u' hu
def Mi (x:V) (xs:List V):Bool:=xs.any λy=>uW y x
def LK (K:W.Frag) (neg:Bool):R2:=λx y H Q=>∃ p xs,y=.ref p/\(aG K H p xs\/aZ K H p xs)/\iw x=true/\xs.all iw=true/\Q (.bl (if neg then !Mi x xs else Mi x xs)) H
theorem Zgr:jI X (compareOp .NotIn) (LK X.K true):=by
 intro pins s σ H x y v u Q I rx ry h
 obtain ⟨p,xs,rfl,hq,fx,fs,q⟩:=h
 cases ry
 rcases hq with hq | hq
 .obtain ⟨its,r,pl,hz⟩:=I.list hq
  refine SeqAt.notIn_listAt (tP x) pl.isList (λw hw=>Ji rx fx r fs w (by simpa using hw)) ⟨.bl _,H,I,rfl,?_⟩
  rw [show its.toArray.any (tP x)=its.any (tP x) by simp,IF r fs]
  exact q
 .obtain ⟨its,r,pl,hz⟩:=I.tuple hq
  refine SeqAt.notIn_tupleAt (tP x) pl (λw hw=>Ji rx fx r fs w (by simpa using hw)) ⟨.bl _,H,I,rfl,?_⟩
  rw [show its.toArray.any (tP x)=its.any (tP x) by simp,IF r fs]
  exact q
theorem Zgs:bF X (.builtin "len") (λxs H Q=>∃ p ys,xs=[.ref p]/\(aG X.K H p ys\/aZ X.K H p ys)/\Q (.int ys.length) H):=by
 intro pins s σ H xs us Q I r h
 obtain ⟨p,ys,rfl,hq,q⟩:=h
 obtain ⟨u,rfl,rx⟩:=vals1 r
 cases rx
 have hn:=DB
 rcases hq with hq | hq
 .obtain ⟨its,r',pl,hz⟩:=I.list hq
  have hlen:=r'.length
  exact Calls.call_len_list pl.isList (by simp only [ahz] <;> lia) ⟨.int ys.length,H,I.tok _,⟨s.toks+1,by rw [ahz,hlen]⟩,q⟩
 .obtain ⟨its,r',pl,hz⟩:=I.tuple hq
  have hlen:=r'.length
  exact len_tuple pl (by simp only [ahz] <;> lia) ⟨.int ys.length,H,I.tok _,⟨s.toks+1,by rw [ahz,hlen]⟩,q⟩
theorem Zgt:bF X (.type "list") (λxs H Q=>∃ p ys,xs=[.ref p]/\(aG X.K H p ys\/aZ X.K H p ys)/\∀ l,H l=none->Q (.ref l) (upd H l (.lst ys))):=by
 intro pins s σ H xs us Q I r h
 obtain ⟨p,ys,rfl,hq,q⟩:=h
 obtain ⟨u,rfl,rx⟩:=vals1 r
 cases rx
 have fin:∀ (its:List Value),Vals ys its->ys.length<=sizeLine->∀ (h':Heap) (c':Nat),(∀ b o',s.heap.get? b=some o'->h'.get? b=some o') ->
   h'.get? s.heap.objs.size=some { cls:=.type "list",dict:=none,data:=.seq its.toArray c',slots:=#[] }->EP X pins σ Q (.ref s.heap.objs.size) { s with heap:=h' }:=λits r' hz h' c' kp e =>
  ⟨.ref s.heap.objs.size,_,I.laid (t':=s.toks) kp (aDN _) (show aH X.prog X.w _ h' _ (.lst ys) from ⟨hz,its,c',r',e⟩),rfl,q _ (I.hok.fresh (aDN _))⟩
 rcases hq with hq | hq
 .obtain ⟨its,r',pl,hz⟩:=I.list hq
  have hlen:=r'.length
  obtain ⟨o,ho,hc,n,hd⟩:=pl.isList
  exact call_list_seq p (.inl rfl) ho hc hd (λh' c' kp e=>fin its r' hz h' c' kp e) (by simp only [ahz] <;> lia)
 .obtain ⟨its,r',pl,hz⟩:=I.tuple hq
  have hlen:=r'.length
  obtain ⟨o,ho,hc,n,hd⟩:=pl
  exact call_list_seq p (.inr rfl) ho hc hd (λh' c' kp e=>fin its r' hz h' c' kp e) (by simp only [ahz] <;> lia)
theorem Zfv:bF X (.type "tuple") (λxs H Q=>∃ p ys,xs=[.ref p]/\((aG X.K H p ys/\∀ l,H l=none->Q (.ref l) (upd H l (.tup ys)))\/(aZ X.K H p ys/\Q (.ref p) H))):=by
 intro pins s σ H xs us Q I r h
 obtain ⟨p,ys,rfl,h⟩:=h
 obtain ⟨u,rfl,rx⟩:=vals1 r
 cases rx
 rcases h with ⟨hq,q⟩ | ⟨hq,q⟩
 .obtain ⟨its,r',pl,hz⟩:=I.list hq
  have hlen:=r'.length
  refine call_tuple_list pl.isList (λh' kp=>?_) (by simp only [ahz] <;> lia)
  have I1:Inv X pins σ H { s with heap:=h' }:=I.kept (t':=s.toks) kp
  have I2:Inv X pins σ (upd H h'.objs.size (.tup ys)) { s with heap:=h'.push { cls:=.type "tuple",data:=.seq its.toArray } } :=
   I1.laid (t':=s.toks) (λb o e=>aIi _ e) (aDN _) (show aH X.prog X.w _ _ _ (.tup ys) from ⟨hz,its,r',IsTup.new _ _⟩)
  exact ⟨.ref h'.objs.size,_,I2,rfl,q _ (I1.hok.fresh (aDN _))⟩
 .obtain ⟨its,r',pl,hz⟩:=I.tuple hq
  exact call_tuple_same pl ⟨.ref p,H,I,rfl,q⟩
def LA (K:W.Frag) (T:String) (x:V) (H:Hp):Prop:=match x with
 | .str _=>T = "str"
 | .int _=>T = "int"
 | .ref p=>(T = "list" /\ ∃ xs,aG K H p xs)\/(T = "tuple" /\ ∃ o,K.lookup p=some o/\o.cls=.type "tuple" /\ o.dict=none) \/
   (T = "dict" /\ ((∃ kvs,H p=some (.dK kvs))\/∃ kvs,H p=some (.dT kvs)))\/(T = "set" /\ ∃ S n,H p=some (.set S n))
 | _=>False
theorem VW {pins:List (Addr×Obj)} {σ:St} {H:Hp} {s:Shared} {T:String} {x:V} {v:Value} (I:Inv X pins σ H s) (r:RelV x v) (ty:LA X.K T x H) :
  s.TypeIs v T/\∀ a,v=.ref a->∃ ob,s.heap.get? a=some ob/\ob.dict=none:=by
 cases x with
 | str z =>
  obtain ⟨t,rfl⟩:=r
  cases (show T = "str" from ty)
  exact ⟨typeIs_str s z t,λ_ e=>nomatch e⟩
 | int i =>
  obtain ⟨t,rfl⟩:=r
  cases (show T = "int" from ty)
  exact ⟨typeIs_int s i t,λ_ e=>nomatch e⟩
 | ref p =>
  cases r
  rcases ty with ⟨rfl,xs,hq⟩ | ⟨rfl,o,hk,hc,hd⟩ | ⟨rfl,hk⟩ | ⟨rfl,S,n,hk⟩
  .obtain ⟨its,_,pl,_⟩:=I.list hq
   refine ⟨pl.isList.typeIs,λa e=>?_⟩
   cases e
   obtain ⟨o,n,e,c,hd,_⟩:=pl
   exact ⟨o,e,hd⟩
  .refine ⟨⟨o,I.eL p o hk,hc⟩,λa e=>?_⟩
   cases e
   exact ⟨o,I.eL _ o hk,hd⟩
  .have z:∃ o,s.heap.get? p=some o/\o.ExactDict:=by
    rcases hk with ⟨kvs,hk⟩ | ⟨kvs,hk⟩
    .obtain ⟨_,_,_,_,o,_,_,e,ex,_⟩:=I.hok p _ hk
     exact ⟨o,e,ex⟩
    .obtain ⟨_,_,_,_,o,_,_,e,ex,_⟩:=I.hok p _ hk
     exact ⟨o,e,ex⟩
   obtain ⟨o,e,ex⟩:=z
   refine ⟨⟨o,e,ex.1⟩,λa e2=>?_⟩
   cases e2
   exact ⟨o,e,ex.2.1⟩
  .obtain ⟨o,_,_,_,e,ex,_⟩:=I.hok p _ hk
   refine ⟨⟨o,e,ex.1⟩,λa e2=>?_⟩
   cases e2
   exact ⟨o,e,ex.2.1⟩
 | _=>exact False.elim ty
def Fi (K:W.Frag) (T:String) (r:V->List V->Hp->VK->Prop) (to:TE) (t:TA):TE:=λσ H Q=>to σ H λx H1=>LA K T x H1/\t σ H1 λxs H2=>r x xs H2 Q
variable {o e:Expr} {es:List Expr} {to:TE} {t:TA} {name:Str} {apos cpos:Pos} {T id:String} {r:V->List V->Hp->VK->Prop}
theorem i6 (pa:PlainAttrs T) (slot:Slot T name id) (hty:typeOf (.builtin id)=pure (.type "method_descriptor")) (hm:MtR X id r) (ho:PE X o to) (ha:PA X (e :: es) t)
  (hbase:attributeBase o name X.env (eval o X.env)=eval o X.env:=by rfl)
  (hfew:((backTo cpos (starEach (e :: es) X.env)).all (λx=>!x.1) && (backToKw cpos (keywordEach [] X.env)).all (λx=>x.1.isSome)
   && decide ((e :: es).length+([]:List Keyword).length+(if ([]:List Keyword).isEmpty then 0 else 1)<30))=true:=by rfl)
  (hline:(apos.endLine == cpos.line)=true:=by rfl) (hs:starEach (e :: es) X.env=(false,eval e X.env) :: starEach es X.env:=by rfl) (hplain:(backTo cpos (starEach es X.env)).any (·.1)=false:=by rfl) :
  PE X (.Call (.Attribute o name apos) (e :: es) [] cpos) (Fi X.K T r to t):=by
 intro pins s σ H Q I h
 refine wpAny_Call_method_late hbase hfew hline rfl (b7 (ho pins s σ H _ I h) λv s1 ⟨x,H1,I1,r1,ty,q1⟩=>?_)
 obtain ⟨h1,h2⟩:=VW I1 r1 ty
 refine ⟨T,id,pa,slot,hty,h1,h2,?_⟩
 have hA:=ha cpos pins s1 σ H1 _ I1 q1
 rw [hs] at hA ⊢
 refine aim (by show (false || (backTo cpos (starEach es X.env)).any (·.1))=false; rw [hplain] <;> rfl) (ahG ?_)
 exact b7 hA λus s2 ⟨vs,H2,I2,r2,q2⟩=>hm pins s2 σ H2 x vs v us Q I2 r1 r2 q2
/- xs.append(e),list.index on a module's tuple .. are MtR facts of 06m -/
end
def Q6 (X:Cx) (id:String) (r:V->List V->Hp->VK->Prop):Prop :=
 ∀ (pins:List (Addr×Obj)) (s:Shared) (σ:St) (H:Hp) (x:V) (xs:List V) (v:Value) (us:List Value) (Q:VK),Inv X pins σ H s->RelV x v->Vals xs us->r x xs H Q ->
  wpAny (model X.prog X.w) X.A (call (.builtin id) (v :: us)) (EP X pins σ Q) X.xe s
theorem Vals.one:∀ {x:V} {us:List Value},Vals [x] us->∃ u,us=[u]/\RelV x u
 | _,_,.cons r .nil=>⟨_,rfl,r⟩
section
variable {X:Cx} {pins:List (Addr×Obj)} {σ:St} {H:Hp} {s:Shared} {l b:Addr} {xs ys zs:List V}
theorem Inv.qC {its its':List Value} {n:Nat} {f:Array Value->Array Value} {t':Nat} (I:Inv X pins σ H s) (hH:H l=some (.lst xs))
  (e:s.heap.get? l=some { cls:=.type "list",data:=.seq its.toArray n }) (hf:f its.toArray=its'.toArray) (hv:Vals ys its') (hz:ys.length<=sizeLine) :
  Inv X pins σ (upd H l (.lst ys)) { s with heap:=s.heap.update l (Obj.mapSeq f),toks:=t' }:=by
 have q:=PySem.IsL.update e f
 rw [hf] at q
 refine I.write (x:=l) (e:=l) (by rw [hH]; exact trivial) (.inl rfl) (λb' u hb hu=>(Heap.get?_update_other s.heap (Obj.mapSeq f) (aI4 hb)).trans hu) ⟨_,q⟩ ?_
 exact ⟨hz,its',_,hv,q⟩
theorem Inv.Af {its:List Value} {t':Nat} (I:Inv X pins σ H s) (hv:Vals ys its) (hz:ys.length<=sizeLine) :
  Inv X pins σ (upd H s.heap.objs.size (.lst ys)) { s with heap:=s.heap.push { cls:=.type "list",data:=.seq its.toArray },toks:=t' } :=
 I.laid (λ_ _ q=>aIi _ q) (aDN _) ⟨hz,its,0,hv,a3a _ rfl⟩
theorem Inv.fresh (I:Inv X pins σ H s):H s.heap.objs.size=none:=I.hok.fresh (aDN _)
theorem Inv.mR (I:Inv X pins σ H s) (hH:H l=some (.lst xs)):xs.length<=sizeLine/\∃ (its:List Value) (n:Nat),Vals xs its/\xs.length=its.length/\s.heap.get? l=some { cls:=.type "list",data:=.seq its.toArray n }:=by
 obtain ⟨z,its,n,r,e⟩:=I.hok l _ hH
 exact ⟨z,its,n,r,r.length,e⟩
end
section
variable {X:Cx}
def WR:V->List V->Hp->VK->Prop:=λx vs H Q=>∃ l xs y,x=.ref l/\vs=[y]/\H l=some (.lst xs)/\xs.length<sizeLine/\Q .aR (upd H l (.lst (xs++[y])))
theorem xr:Q6 X "list.append" WR:=by
 intro pins s σ H x vs v us Q I rx rv h
 obtain ⟨l,xs,y,rfl,rfl,hH,hz,q⟩:=h
 cases rx
 obtain ⟨u,rfl,ru⟩:=rv.one
 obtain ⟨z,its,n,r,hl,e⟩:=I.mR hH
 refine call_meets F.slot_list_append ⟨_,e,rfl⟩ F.entry_list_append (F.args_list_append_2 _ _) (PySem.list_append l its.toArray n u (by rw [ahz]; lia)) ⟨e,?_⟩
 refine ⟨.aR,_,I.qC (its':=its++[u]) hH e (by simp) (r.append (.cons ru .nil)) ?_,rfl,q⟩
 rw [aAe,aOg]
 lia
def FF:R2:=λx y H Q=>∃ l b xs zs,x=.ref l/\y=.ref b/\H l=some (.lst xs)/\H b=some (.lst zs)/\xs.length+zs.length<=sizeLine/\∀ p,H p=none->Q (.ref p) (upd H p (.lst (xs++zs)))
theorem VV:jI X (binaryOp .Add) FF:=by
 intro pins s σ H x y v u Q I rx ry h
 obtain ⟨l,b,xs,zs,rfl,rfl,hH,hB,hz,q⟩:=h
 cases rx
 cases ry
 obtain ⟨z,its,n,r,hl,e⟩:=I.mR hH
 obtain ⟨z2,its2,n2,r2,hl2,e2⟩:=I.mR hB
 refine PySem.P.add_list e e2 ?_ (by rw [ahz,ahz]; lia)
 have ea:its.toArray++its2.toArray=(its++its2).toArray:=by simp
 rw [ea]
 exact ⟨.ref _,_,I.Af (t':=s.toks) (r.append r2) (by rw [aAe]; lia),rfl,q _ I.fresh⟩
end
end L2
namespace Ri
open PySem PySem.W PySem.Calls PyProof.Rows
theorem Zet {P:Params} {h:Heap}:∀ (ns:List Int) (vs:List Value),WellAll P h vs (ns.map WData.int)->IntsAre vs ns:=by
 intro ns
 induction ns with
 | nil =>
  intro vs w
  rw [map_nil] at w
  cases w
  exact .nil
 | cons n ns ih =>
  intro vs w
  rw [aSD] at w
  cases w with
  | cons a b =>
   cases a
   exact .cons _ _ (ih _ b)
theorem YO {l:OpenLaw} {n:Nat} (hn:l.most=some n) {P:Params} {h:Heap} {args:List WData} {vals:List Value}
  (hpre:l.row.toRowW.claim.pre args=true) (hwl:WellAll P h vals args) :
  ∃ a vs ns,vals=[Value.ref a]/\args=[WData.list (ns.map WData.int)]/\h.get? a=some { cls:=.type "list",data:=.seq vs.toArray }/\IntsAre vs ns/\ns.length<=n:=by
 have hsh:WShape.hasAll [] args [.list .int]=true:=(pre_splitW hpre).1
 have hc:l.pre.holds [] { args:=args }=true:=(pre_splitW hpre).2
 obtain ⟨d,r,rfl,h1,h2⟩:=hasAllW_cons hsh
 obtain rfl:=hasAllW_nil h2
 obtain ⟨xs,rfl,h3⟩:=hasW_list h1
 obtain ⟨ns,rfl⟩:=items_int h3
 have hlen:ns.length<=n:=by
  unfold OpenLaw.pre at hc
  have h4:(WTm.not (.lt (.lit (.int (n:Int))) (.len (.arg 0)))).holds [] { args:=[.list (ns.map .int)] }=true:=by
   have h4:=(holds_andW hc).1
   rw [hn] at h4
   exact h4
  have h5:=condW_of h4 (w_not (w_lt w_lit (w_len_list (w_arg rfl))))
  rw [aUH] at h5
  refine Nat.le_of_not_lt λq=>?_
  have q':(n:Int)<((ns.length:Nat):Int):=by lia
  first
   | (rw [a6t q'] at h5; exact absurd h5 (by decide))
   | (simp at h5; lia)
 cases hwl with
 | cons w1 w2 =>
  cases w2
  cases w1 with
  | list ho hall=>exact ⟨_,_,ns,rfl,rfl,ho,Zet ns _ hall,hlen⟩
theorem YN (l:OpenLaw) (args:List WData):l.row.toRowW.claim.post args (.bool true) args=true :=
 postW_of (r:=l.row.toRowW) (X:=(true == true))
  (show WShape.has [] (.bool true) .bool=true by first | rfl | decide | simp [WShape.has,WShape.arms,WShape.armsAll])
  (show (WTm.eq .res (.lit (.bool true))).value [] { args:=args,res:=some (.bool true),after:=args }=some (.bool (true == true)) from w_eq_bool (w_res rfl) w_lit) rfl
theorem lT {l:OpenLaw} {n:Nat} {q:Program} {loose:List Str} {XP:(Str->Option Value)->Heap->Prop} {YP:World->Heap->Prop} {d:DefRec}
  (hn:l.most=some n) (hdf:d.params.defaults=[])
  (call:∀ (w:World) (s₀ s₁:Shared) (mg mb:Str->Option Value) (fa:Addr) (o:Obj) (pm cd doc:Value) (a:Addr) (vs:List Value) (ns:List Int),
   Ground q loose [] XP w s₀ mg mb s₁.heap->YP w s₁.heap ->
   s₁.heap.get? fa=some o->o.data=.func (docDef d.name d.params d.body d.scope pm cd doc)->s₁.heap.CodeRec cd d.name->mg d.name=some (.ref fa) ->
   s₁.heap.get? a=some { cls:=.type "list",data:=.seq vs.toArray }->IntsAre vs ns->ns.length<=n->s₁.gens=#[] ->
   codeAny (model l.prog w) callerA (.call (.ref fa) ⟨[.ref a],[]⟩) (λr s'=>r=.ok (.ret (.bool true))/\OldK s₁.heap s'.heap/\s'.os=s₁.os/\AllBare s'.gens) s₁) :
  WalkO q loose XP YP l.row.toRowW d [] (λf vs=>PySem.call f vs):=by
 intro w s₀ s₁ mg mb G Y fa o pm cd doc dV kV ho hd hcd hD hmg hg args vals as hpre hlay hrd hwl hlo
 obtain rfl:dV=.none:=Dflts.none hD hdf
 obtain rfl:kV=.none:=Dflts.noKw hD
 obtain ⟨a,vs,ns,rfl,rfl,hobj,hints,hlen⟩:=YO hn hpre hwl
 refine enter_call (codeAny_mono (call w s₀ s₁ mg mb fa o pm cd doc a vs ns G Y ho (fd_plain hd) hcd hmg hobj hints hlen hg) λr s' hq=>?_)
 obtain ⟨rfl,h2,h3,h4⟩:=hq
 exact ⟨.inl ⟨.bool true,.bool true,[],rfl,λ_=>rfl,.bool true,YN l _,λ_=>⟨List.Pairwise.nil,λ_ hm=>(nomatch hm)⟩⟩,h2,h3,h4⟩
end Ri
namespace L2
open PySem PySem.Spec PyProof.Rows
theorem Ej:∀ {vs:List Value} {ns:List Int},IntsAre vs ns->Vals (ns.map V.int) vs
 | _,_,.nil=>.nil
 | _,_,.cons n t h=>.cons ⟨t,rfl⟩ (Ej h)
def Zq (s:Stmt) (j:Nat):Stmt:=match s with
 | .ClassDef _ _ _ body _ _ _ _ _ _ _=>body.getD j (.Pass ⟨0,0,0,0⟩)
 | _=>.Pass ⟨0,0,0,0⟩
def ZZ (s:Stmt):Arguments:=match s with
 | .FunctionDef _ a _ _ _ _ _ _ _ _=>a
 | _=>{ posonlyargs:=[],args:=[],vararg:=none,kwonlyargs:=[],kw_defaults:=[],kwarg:=none,defaults:=[] }
def ZH (s:Stmt):List Stmt:=match s with
 | .FunctionDef _ _ b _ _ _ _ _ _ _=>b
 | _=>[]
def Zg (s:Stmt):Scope:=match s with
 | .FunctionDef _ _ _ _ _ _ sc _ _ _=>sc
 | _=>{ kind:=.function,names:=[],isGenerator:=false,isCoroutine:=false }
abbrev aW:sA:=λ_ _ _ _ _ _=>False
abbrev E0:XK:=λ_ _ _=>False
theorem n8 {X:Cx}:wY aW X E0:=λ_ _ _ _ _ _ _ h=>h.elim
structure aY (K:W.Frag) (x qual:Str) (st:Stmt) (f:Addr) (fd:FuncData):Prop where
 ex:∃ (oc:Value) (od:Option Addr) (kV doc pm:Value) (an:Option Addr) (cdv ct:Value) (osl:Array (Option Value)),
  fd=W.fnOf x qual (ZZ st) (ZH st) (Zg st) .none kV doc pm an cdv ct/\K.lookup f=some ⟨oc,od,.func fd,osl⟩/\W.codeIn K cdv qual=true
 kp:W.keepIn K (.ref f)=true
section
variable {P:Program} {w:World} {K:W.Frag} {mg:Str->Option Value} {base:Heap}
theorem aY.ok {x qual:Str} {st:Stmt} {f:Addr} {fd:FuncData} {N ps:List Str} {k:Nat} {sp:Sp} (F:aY K x qual st f fd) (S:ah N ps (Zg st)) (len:∀ vs H Q E,sp vs H Q E->vs.length=ps.length)
  (hbody:∀ (cdv:Value) (A:Around) (outer:List Env) (s:Shared) (H:Hp) (vs:List V) (Q:VK) (E:XK),br k (A.deeper (envOfC qual (Zg st) s.heap.objs.size f cdv))->sp vs H Q E ->
   ∃ t,pF (lO aW P w K mg base N qual (Zg st) f cdv A outer s H E).vU (ZH st) t/\t { nx:=λ_ H'=>Q .aR H',rt:=Q } (start N vs) H):au P w K mg base aW (k+1) f fd ps sp:=by
 obtain ⟨oc,od,kV,doc,pm,an,cdv,ct,osl,rfl,lk,hcd⟩:=F.ex
 refine uT lk hcd S len λA outer s H vs Q E hr oX=>?_
 obtain ⟨t,h,q⟩:=hbody cdv A outer s H vs Q E hr oX
 exact ⟨t,h.vU,q⟩
theorem aY.binds {x qual:Str} {st:Stmt} {f:Addr} {fd:FuncData} {ps:List Str} (F:aY K x qual st f fd)
  (h:∀ (kV doc pm:Value) (an:Option Addr) (cdv ct:Value) (us:List Value),us.length=ps.length->bindArgs (W.fnOf x qual (ZZ st) (ZH st) (Zg st) .none kV doc pm an cdv ct) ⟨us,[]⟩=pure (ps.zip us)):Binds K fd ps []:=by
 obtain ⟨oc,od,kV,doc,pm,an,cdv,ct,osl,rfl,lk,hcd⟩:=F.ex
 exact .all (h kV doc pm an cdv ct)
theorem wX {x qual:Str} {st:Stmt} {f:Addr} {oc:Value} {od an:Option Addr} {osl:Array (Option Value)} {kV doc pm cdv ct:Value} (l:K.lookup f=some ⟨oc,od,.func (W.fnOf x qual (ZZ st) (ZH st) (Zg st) .none kV doc pm an cdv ct),osl⟩)
  (c:W.codeIn K cdv qual=true) (k:W.keepIn K (.ref f)=true):aY K x qual st f (W.fnOf x qual (ZZ st) (ZH st) (Zg st) .none kV doc pm an cdv ct):=⟨⟨oc,od,kV,doc,pm,an,cdv,ct,osl,rfl,l,c⟩,k⟩
end
theorem bJ {A:Around} {k:Nat} (hr:br k A):A.units+1<cLine:=aOj (Nat.add_le_add_left (by decide:1<=64) _) hr.units
theorem ZE {n:Nat} (h:n<=1000):n<sizeLine:=aOj h (by decide)
section
variable {X:Cx}
theorem pv (i:Nat) {x:Str} {pos:Pos} (hN:X.N[i]?=some x:=by rfl) (hv:BZ X.env.scope x:=by first | exact Or.inl rfl | exact Or.inr (Or.inl rfl) | exact Or.inr (Or.inr rfl)) (hd:(x == ("__debug__" : Str))=false:=by decide)
  (hcd:(x == ("__classdict__" : Str))=false:=by decide):PE X (.Name x pos) (yW i):=WV hN hv hd hcd
end
def aB (H H':Hp):Prop:=∀ b o,H b=some o->H' b=some o
theorem aB.refl (H:Hp):aB H H:=λ_ _ h=>h
theorem aB.trans {H H1 H2:Hp} (a:aB H H1) (b:aB H1 H2):aB H H2:=λc o h=>b c o (a c o h)
theorem aB.free {H H':Hp} (e:aB H H') {l:Addr} (h:H' l=Option.none):H l=Option.none:=by
 cases q:H l with
 | none=>rfl
 | some o =>
  rw [e l o q] at h
  cases h
theorem aB.seq {K:W.Frag} {H H':Hp} {a:Addr} {xs:List V} (e:aB H H') (h:aG K H a xs):aG K H' a xs:=by
 rcases h with (h | ⟨o,h⟩) | h
 .exact .inl (.inl (e _ _ h))
 .exact .inl (.inr ⟨o,e _ _ h⟩)
 .exact .inr h
end L2
set_option maxHeartbeats 4000000
namespace L2
open PySem PySem.Spec PyProof.Rows
def bK (X:Cx) (N:List Str) (scope:Scope) (cl:List (Str×Addr)) (C:Addr) (s0:Shared) (H0:Hp) (fp:List Addr) (pins:List (Addr×Obj)):Cx :=
 { X with N:=N,s₀:=s0,H₀:=H0,env:=compEnvC scope cl C X.env,outer:=X.stack,stack:=X.stack,ex:=fp,fn:=λx=>scope.names.lookup x == some .cell,pn:=X.pn++pins,xe:=λ_ _=>False }
theorem BR {env:Env}:∀ (names:List (Str×NameKind)) (acc:List (Str×Addr)),(∀ p∈names,p.2=.free->∃ c,env.cells.lookup p.1=some c)->(∀ x c,acc.lookup x=some c->env.cells.lookup x=some c) ->
  ∃ cl,(forIn names acc λ(x:Str×NameKind) cs=>(match x with | (name,kind)=>if (kind == NameKind.free)=true then do let a ← cellOf env name; pure (ForInStep.yield ((name,a) :: cs)) else pure (ForInStep.yield cs):Sem (ForInStep (List (Str×Addr)))))=(pure cl:Sem (List (Str×Addr))) /\
   (∀ x c,cl.lookup x=some c->env.cells.lookup x=some c)/\(∀ x c,acc.lookup x=some c->cl.lookup x=some c)/\∀ p∈names,p.2=.free->∃ c,cl.lookup p.1=some c
 | [],acc,_,h=>⟨acc,rfl,h,λ_ _ e=>e,λ_ z=>nomatch z⟩
 | (n,k) :: r,acc,h,ha=>by
  by_cases hk:k=.free
  .subst hk
   obtain ⟨c,hc⟩:=h (n,.free) aq5 rfl
   have ha':∀ x d,((n,c) :: acc).lookup x=some d->env.cells.lookup x=some d:=λx d e=>by
    rw [acI] at e
    cases q:x == n with
    | true =>
     rw [q] at e
     have hxn:x=n:=by simpa using q
     subst hxn
     cases e
     exact hc
    | false =>
     rw [q] at e
     exact ha x d e
   obtain ⟨cl,e1,e2,e3,e4⟩:=BR r ((n,c) :: acc) (λp hp=>h p (asq _ hp)) ha'
   have top:∃ d,cl.lookup n=some d:=⟨c,e3 n c (by rw [acI]; simp)⟩
   refine ⟨cl,?_,e2,λx d e=>?_,λp hp hf=>?_⟩
   .rw [ad7]
    simp only [cellOf,hc,beq_self_eq_true,aEp]
    exact e1
   .cases q:x == n with
    | true =>
     have hxn:x=n:=by simpa using q
     subst hxn
     have z:=ha x d e
     rw [hc] at z; cases z
     exact e3 x c (by rw [acI]; simp)
    | false=>exact e3 x d (by rw [acI,q]; exact e)
   .rcases awk.mp hp with rfl | hp
    .exact top
    .exact e4 p hp hf
  .obtain ⟨cl,e1,e2,e3,e4⟩:=BR r acc (λp hp=>h p (asq _ hp)) ha
   have hb:(k == NameKind.free)=false:=by simpa using hk
   refine ⟨cl,?_,e2,e3,λp hp hf=>?_⟩
   .rw [ad7]
    simp only [hb,a7V,azU]
    exact e1
   .rcases awk.mp hp with rfl | hp
    .exact absurd hf hk
    .exact e4 p hp hf
theorem QT {α:Type} (f:Str->α->α) (x:Str):∀ l:List (Str×α),(l.map λp=>(p.1,f p.1 p.2)).lookup x=(l.lookup x).map (f x)
 | []=>rfl
 | (n,k) :: r=>by
  have ih:=QT f x r
  rw [aSD,acI,acI]
  cases q:x == n with
  | true =>
   have e:x=n:=by simpa using q
   subst e
   rfl
  | false=>exact ih
def wW (env:Env) (n:Str) (k:NameKind):NameKind:=if (k == NameKind.free && env.scope.kind == .function && env.kindOf n == some .cell)=true then .cell else k
theorem QZ (scope:Scope) (env:Env) (x:Str):(relabel scope env).names.lookup x=(scope.names.lookup x).map (wW env x):=by
 rw [← QT (wW env) x scope.names]
 show (scope.names.map _).lookup x=_
 congr 1
 refine aoo λp _=>?_
 show (if _ then _ else _)=_
 unfold wW
 split <;> rfl
theorem QY (env:Env) (n:Str) (k:NameKind):wW env n k=k\/(k=.free/\wW env n k=.cell):=by
 unfold wW
 by_cases h:(k == NameKind.free && env.scope.kind == .function && env.kindOf n == some .cell)=true
 .refine .inr ⟨?_,bb9 h⟩
  rw [aeR,aeR] at h
  exact arV.mp h.1.1
 .exact .inl (aYW h)
theorem ZcL {scope:Scope} {env:Env} {x:Str} {k:NameKind} (h:scope.names.lookup x=some k) :
  (relabel scope env).names.lookup x=some k\/(k=.free/\(relabel scope env).names.lookup x=some .cell):=by
 rw [QZ,h]
 rcases QY env x k with q | ⟨q,q'⟩
 .exact .inl (a5E some q)
 .exact .inr ⟨q,a5E some q'⟩
theorem Zgu {scope:Scope} {env:Env} {x:Str} {k:NameKind} (h:(relabel scope env).names.lookup x=some k):∃ k',scope.names.lookup x=some k'/\(k'=k\/k'=.free):=by
 rw [QZ] at h
 cases q:scope.names.lookup x with
 | none=>rw [q] at h; cases h
 | some k' =>
  rw [q] at h
  have h':wW env x k'=k:=a6S h
  rcases QY env x k' with z | ⟨z,_⟩
  .exact ⟨k',rfl,.inl (z.symm.trans h')⟩
  .exact ⟨k',rfl,.inr z⟩
theorem ZT {α:Type} {x:Str}:∀ {l:List (Str×α)} {k:α},l.lookup x=some k->(x,k)∈l
 | [],_,h=>by simp at h
 | (n,k) :: r,k',h=>by
  rw [acI] at h
  cases hx:x == n with
  | true =>
   rw [hx] at h; cases h
   have:x=n:=by simpa using hx
   subst this
   exact aq5
  | false =>
   rw [hx] at h
   exact asq _ (ZT h)
theorem YM {prog:Program} {w:World} {A:Around} {s:Shared} {elt target iter:PySem.Expr} {ifs:List PySem.Expr} {scope:Scope} {pos:Pos} {it acc:Value} {env:Env} {R:Result->Shared->Prop} (I:Nat->Shared->Prop)
  (turn:∀ n s,I n s->wpAny (model prog w) A (pyNext it) (λr s1=>match r with
   | none=>R (.ok .next) s1
   | some v=>wpAny (model prog w) A (letOwnedTupleGo target it v) (λ_ s0=>wpAny (model prog w) A (assign target env v) (λ_ s2 =>
     wpAny (model prog w) A (forIn ifs true λc r=>if r=true then do let ok ← isTrue c env (eval c env); pure (ForInStep.yield ok) else pure (ForInStep.yield r)) (λok s3 =>
      if ok=true then wpAny (model prog w) A (eval elt env) (λx s4 =>
       wpAny (model prog w) A (call (.builtin "list.append") [acc,x]) (λ_ s5=>∃ m,m<n/\I m s5) (λ_ _=>False) s4) (λ_ _=>False) s3
      else ∃ m,m<n/\I m s3) (λ_ _=>False) s2) (λ_ _=>False) s0) (λ_ _=>False) s1) (λ_ _=>False) s)
  (n:Nat) (h:I n s):codeAny (model prog w) A (.compLoop (.ListComp elt [⟨target,iter,ifs,0⟩] scope pos) 0 it acc env) R s:=by
 have body:∀ n s,I n s->wpAny (model prog w) A (compTurn (.ListComp elt [⟨target,iter,ifs,0⟩] scope pos) 0 it acc env)
   (λfin s'=>match fin with | .done f=>R (.ok f) s' | .again c=>c=.compLoop (.ListComp elt [⟨target,iter,ifs,0⟩] scope pos) 0 it acc env/\∃ m,m<n/\I m s') (λ_ _=>False) s:=λn s hI=>by
  rw [compTurn_list]
  refine aHI (aSN (aHI (b7 (turn n s hI) λr s1 h1=>?_)))
  cases r with
  | none=>exact ag7 h1
  | some v =>
   refine aHI (b7 h1 λ_ s0 h0=>aHI (b7 h0 λ_ s2 h2=>aHI (b7 h2 λok s3 h3=>?_)))
   cases ok with
   | true=>exact aHI (aHI (b7 h3 λx s4 h4=>aHI (b7 h4 λ_ s5 h5=>ag7 (ag7 ⟨rfl,h5⟩))))
   | false=>exact ag7 ⟨rfl,h3⟩
 exact codeAny_loop rfl I (λn s hI=>wpAny_noted (ayO (body n s hI) (λ_ _ q=>q) λ_ _ q=>q.elim)) n h
def lq (own:Nat) (js:List Nat) (wi:TI) (g:TG) (tc:TT) (te:TE):TE:=λσ H Q=>wi σ H λJ H1=>∀ l,H1 l=none ->
 ∃ W:Nat->Nat->List V->St->Hp->Prop,(∃ m,W 0 m [] (List.replicate own none++js.map λj=>(σ[j]?).join) (upd H1 l (.lst [])))/\∀ i m ys σ' H',W i m ys σ' H' ->
  (J.stop i H'/\Q (.ref l) H')\/(J.go i H'/\∀ x H2,J.nA i H' x H2->g x σ' H2 λσ2 H3=>tc σ2 H3 λb H4 =>
   if b=true then te σ2 H4 λy H5=>H5 l=some (.lst ys)/\ys.length<sizeLine/\∃ m',m'<m/\W (i+1) m' (ys++[y]) σ2 (upd H5 l (.lst (ys++[y])))
   else ∃ m',m'<m/\W (i+1) m' ys σ2 H4)
def ue:TT:=λ_ H Q=>Q true H
structure dI (X:Cx) (scope:Scope) (N:List Str) (own:Nat) (js:List Nat):Prop where
 kind:scope.kind=.function
 cell:∀ y∈scope.names,y.2=.cell->scope.names.lookup y.1=some .cell
 names:∀ y∈scope.names,y.2=.local->scope.names.lookup y.1=some .local
 free:∀ y∈scope.names,y.2=.free->X.env.kindOf y.1=some .cell\/X.env.kindOf y.1=some .free
 len:N.length=own+js.length
 js:∀ k j,js[k]?=some j->N[own+k]?=X.N[j]?
 jf:∀ k x,N[own+k]?=some x->scope.names.lookup x=some .free
theorem Un.but {fs ex:List Addr} {H H':Hp} {h h1 h2:Heap} {C:Addr} (u:Un fs ex H H' h h1) (hc:h.objs.size<=C) (sb:∀ b o,b≠C->h1.get? b=some o->h2.get? b=some o):Un fs ex H H' h h2:=by
 have ne:∀ b o,h.get? b=some o->b≠C:=λb o e=>anq (a6M (aSe e) hc)
 refine ⟨λb o q n hb hx=>sb b o (ne b o q) (u.keep b o q n hb hx),λb o q n hb hx=>?_,u.free,λb o q hx=>?_,u.tups,u.jm,u.jw⟩
 .obtain ⟨sl,e⟩:=u.slot b o q n hb hx
  exact ⟨sl,sb b _ (ne b o q) e⟩
 .obtain ⟨o',e⟩:=u.there b o q hx
  exact ⟨o',sb b o' (ne b o q) e⟩
theorem wV:∀ (names:List (Str×NameKind)) (n:Nat) (acc:List (Str×Addr)),cellsFrom n names acc=cellsFrom n names []++acc
 | [],_,_=>rfl
 | (x,k) :: r,n,acc=>by
  unfold cellsFrom
  by_cases hk:(k == NameKind.cell)=true
  .rw [bb9 hk,bb9 hk,wV r (n+1) ((x,n) :: acc),wV r (n+1) [(x,n)],aP5]
   rfl
  .rw [aYW hk,aYW hk]
   exact wV r n acc
theorem IE:∀ (names:List (Str×NameKind)) (n:Nat) (x:Str) (c:Addr),(x,c)∈cellsFrom n names []->(x,NameKind.cell)∈names
 | [],_,_,_,h=>nomatch h
 | (y,k) :: r,n,x,c,h=>by
  unfold cellsFrom at h
  by_cases hk:(k == NameKind.cell)=true
  .rw [bb9 hk,wV] at h
   rcases ais.mp h with q | q
   .exact asq _ (IE r _ x c q)
   .have e:(x,c)=(y,n):=by simpa using q
    cases e
    have hk':k=.cell:=by simpa using hk
    subst hk'
    exact aq5
  .rw [aYW hk] at h
   exact asq _ (IE r _ x c h)
theorem QW {α:Type}:∀ {l:List (Str×α)} {x:Str} {c:α},(x,c)∈l->∃ d,l.lookup x=some d
 | (y,v) :: r,x,c,h=>by
  rw [acI]
  cases q:x == y with
  | true=>exact ⟨v,rfl⟩
  | false =>
   rcases awk.mp h with e | e
   .cases e; simp at q
   .exact QW e
theorem HY:∀ (names:List (Str×NameKind)) (n:Nat) (x:Str),(x,NameKind.cell)∈names->∃ c,(x,c)∈cellsFrom n names []
 | [],_,_,h=>nomatch h
 | (y,k) :: r,n,x,h=>by
  unfold cellsFrom
  rcases awk.mp h with e | e
  .cases e
   rw [bb9 (show (NameKind.cell == NameKind.cell)=true from rfl),wV]
   exact ⟨n,baP _ (by simp)⟩
  .by_cases hk:(k == NameKind.cell)=true
   .rw [bb9 hk,wV]
    obtain ⟨c,q⟩:=HY r (n+1) x e
    exact ⟨c,ahE _ q⟩
   .rw [aYW hk]
    exact HY r n x e
theorem QO {α:Type}:∀ (l m:List (Str×α)) (x:Str),(l++m).lookup x=match l.lookup x with | some c=>some c | none=>m.lookup x
 | [],m,x=>rfl
 | (y,v) :: r,m,x=>by
  rw [List.cons_append,acI,acI]
  cases x == y with
  | true=>rfl
  | false=>exact QO r m x
theorem Zgv {M:Model} {A:Around} {E:Value->Shared->Prop} {s:Shared} {scope:Scope} {globals:Addr} {cl:List (Str×Addr)} {qual:Str} {env:Env} {Q:Env->Shared->Prop}
  (h:Q (newEnv scope s.heap.objs.size globals (cellsFrom (s.heap.objs.size+1) scope.names cl) qual none .none (some env) builtinsNs) { s with heap:=pushCells (s.heap.push { cls:=.type "dict",data:=.dict #[] }) scope.names }) :
  wpAny M A (newFunctionEnv scope globals cl [] qual none .none (some env)) Q E s:=by
 simp only [newFunctionEnv,Option.isSome_some,aEp]
 refine aHI (wpAny_alloc (aHI (wpAny_layCells _ (λname kind cells=>by cases hkc:kind == NameKind.cell <;> simp [hkc]) _ _ _ _ ?_)))
 rw [show ({ s with heap:=s.heap.push { cls:=.type "dict",data:=.dict #[] } }:Shared).heap.objs.size=s.heap.objs.size+1 from a2Z ..]
 rw [List.forIn_nil]
 exact aHI (ag7 (ag7 h))
structure oH (X:Cx) (scope:Scope) (lR:List (Str×Addr)) (n:Nat) (h':Heap):Prop where
 k1:∀ x c,lR.lookup x=some c->X.env.cells.lookup x=some c\/(n<c/\h'.IsCell c none/\(x,NameKind.cell)∈scope.names)
 k2:∀ x,scope.names.lookup x=some .free->∃ c,lR.lookup x=some c/\X.env.cells.lookup x=some c
 k3:∀ p∈scope.names,p.2=.cell\/p.2=.free->∃ c,lR.lookup p.1=some c
 k4:∀ x y c,lR.lookup x=some c->lR.lookup y=some c->x=y
 k5:∀ x c,scope.names.lookup x=some .cell->lR.lookup x=some c->n<c
section
variable {X:Cx} {scope:Scope} {N:List Str} {own:Nat} {js:List Nat}
theorem Y6 {cl:List (Str×Addr)} {n:Nat} {h0:Heap} (c:dI X scope N own js) (jn:∀ x c,cl.lookup x=some c->X.env.cells.lookup x=some c) (kZ:∀ p∈scope.names,p.2=.free->∃ c,cl.lookup p.1=some c)
  (inj:∀ x y c,X.env.cells.lookup x=some c->X.env.cells.lookup y=some c->x=y) (lt:∀ x c,X.env.cells.lookup x=some c->c<n) (hn:h0.objs.size=n+1):oH X scope (cellsFrom (n+1) scope.names cl) n (pushCells h0 scope.names):=by
 have ok:=cellsFrom_ok scope.names h0 (n+1) [] ⟨λ_ _ hm=>(nomatch hm),List.Pairwise.nil⟩ (by rw [hn]; exact aDN _)
 rw [hn] at ok
 have two:∀ x,(cellsFrom (n+1) scope.names cl).lookup x=match (cellsFrom (n+1) scope.names []).lookup x with | some c=>some c | none=>cl.lookup x:=λx=>by
  rw [wV,QO]
  cases (cellsFrom (n+1) scope.names []).lookup x <;> rfl
 have own':∀ x d,(cellsFrom (n+1) scope.names []).lookup x=some d->(pushCells h0 scope.names).IsCell d none/\n<d/\(x,NameKind.cell)∈scope.names:=λx d e =>
  ⟨(ok.empty x d (mem_of_lookup e)).1,(ok.empty x d (mem_of_lookup e)).2,IE _ _ x d (mem_of_lookup e)⟩
 have part:∀ x d,(cellsFrom (n+1) scope.names cl).lookup x=some d->(cellsFrom (n+1) scope.names []).lookup x=some d\/((cellsFrom (n+1) scope.names []).lookup x=none/\cl.lookup x=some d):=λx d e=>by
  rw [two] at e
  cases q:(cellsFrom (n+1) scope.names []).lookup x with
  | some d'=>rw [q] at e; exact .inl e
  | none=>rw [q] at e; exact .inr ⟨rfl,e⟩
 have has:∀ x,(x,NameKind.cell)∈scope.names->∃ d,(cellsFrom (n+1) scope.names []).lookup x=some d:=λx m=>by
  obtain ⟨d,q⟩:=HY scope.names (n+1) x m
  exact QW q
 refine ⟨λx d e=>?_,λx e=>?_,λp hp hk=>?_,λx y d e1 e2=>?_,λx d e1 e2=>?_⟩
 .rcases part x d e with q | ⟨_,q⟩
  .exact .inr ⟨(own' x d q).2.1,(own' x d q).1,(own' x d q).2.2⟩
  .exact .inl (jn x d q)
 .obtain ⟨d,q⟩:=kZ _ (ZT e) rfl
  have no:(cellsFrom (n+1) scope.names []).lookup x=none:=by
   cases z:(cellsFrom (n+1) scope.names []).lookup x with
   | none=>rfl
   | some d' =>
    have y:=c.cell _ (own' x d' z).2.2 rfl
    rw [show scope.names.lookup x=_ from e] at y
    cases y
  exact ⟨d,by rw [two,no]; exact q,jn x d q⟩
 .rw [two]
  cases z:(cellsFrom (n+1) scope.names []).lookup p.1 with
  | some d'=>exact ⟨d',rfl⟩
  | none =>
   rcases hk with hk | hk
   .obtain ⟨d,q⟩:=has p.1 (by rw [← hk]; exact hp)
    rw [z] at q; cases q
   .exact kZ p hp hk
 .rcases part x d e1 with q1 | ⟨_,q1⟩
  .rcases part y d e2 with q2 | ⟨_,q2⟩
   .exact name_of_addr ok.apart (mem_of_lookup q1) (mem_of_lookup q2)
   .exact absurd (aEc (own' x d q1).2.1 (lt y d (jn y d q2))) (aXl _)
  .rcases part y d e2 with q2 | ⟨_,q2⟩
   .exact absurd (aEc (own' y d q2).2.1 (lt x d (jn x d q1))) (aXl _)
   .exact inj x y d (jn x d q1) (jn y d q2)
 .obtain ⟨d',q⟩:=has x (ZT e1)
  rw [two,q] at e2
  cases e2
  exact (own' x d q).2.1
theorem Y5 {pins:List (Addr×Obj)} {σ:St} {H:Hp} {s:Shared} {cl:List (Str×Addr)} {fp:List Addr} {h':Heap} {t':Nat} (c:dI X scope N own js) (I:Inv X pins σ H s) (hf:∀ b∈fp,jq X pins H b)
  (fo:∀ b∈fp,b<s.heap.objs.size)
  (ci:oH X scope cl s.heap.objs.size h')
  (hn:h'.Ns s.heap.objs.size (λ_=>none)) (hk:∀ b o,s.heap.get? b=some o->h'.get? b=some o) :
  Inv (bK X N scope cl s.heap.objs.size s H fp pins) [] (List.replicate own none++js.map λj=>(σ[j]?).join) H { s with heap:=h',toks:=t' }:=by
 have rW:∀ x c,cl.lookup x=some c->c≠s.heap.objs.size:=λx c e=>by
  rcases ci.k1 x c e with q | ⟨q,_⟩
  .obtain ⟨v,q⟩:=I.cell x c q
   exact anq q.lt
  .exact aHs q
 have ok:(bK X N scope cl s.heap.objs.size s H fp pins).Ok:=by
  refine ⟨I.ok.mod,c.kind,I.ok.glob,I.ok.blt,aDN _,ci.k4,λx hx=>?_,λx d z e=>aS5 (ci.k5 x d (arV.mp (show (scope.names.lookup x == some .cell)=true from z)) e),I.ok.hd,I.ok.frames,.inl rfl,λb hb=>⟨anq (fo b hb),λx d e=>(ci.k1 x d e).elim (λq=>(hf b hb).2.2.2.2.1 x d q) λq=>aHs (aEc (fo b hb) q.1)⟩,I.bs,
   auj I.ok.rX I.sz,λb o e hb=>?_,λb hb z=>?_,I.stack,I.kF⟩
  .have back:∀ k,(relabel scope X.env).names.lookup x=some k->k=.cell\/k=.free->∃ k',(x,k')∈scope.names/\(k'=NameKind.cell\/k'=NameKind.free):=λk e hk=>by
    obtain ⟨k',e',z⟩:=Zgu e
    refine ⟨k',ZT e',?_⟩
    rcases z with z | z
    .subst z; exact hk
    .exact .inr z
   obtain ⟨k',m,hk'⟩:∃ k',(x,k')∈scope.names/\(k'=NameKind.cell\/k'=NameKind.free):=by
    rcases hx with hx | hx
    .exact back _ hx (.inl rfl)
    .exact back _ hx (.inr rfl)
   exact ci.k3 _ m hk'
  .rcases (hf b hb).2.2.2.1 with z | z
   .exact I.ok.qt b o e z
   .exact absurd (a6M (a6M (aSe e) I.ok.rX) z) (aXl _)
  .rcases awk.mp (I.kE b z) with q | q
   .exact (hf b hb).2.1 q
   .exact (hf b hb).2.2.1 q
 refine ⟨ok,rfl,I.bare,Un.kept hk,⟨_,hn,λi x v e1 e2 e3=>?_⟩,λx d e=>?_,I.hok.fresh (aDN _),λx d e=>(ci.k1 x d e).elim (λq=>I.dR x d q) λq=>I.hok.fresh (aS5 q.1),λp hp=>?_,I.hok.kept hk,?_⟩
 .-- a name with a value is one that the block closes over
  have hi:own<=i:=by
   by_cases hi:i<own
   .rw [aOW (by simpa using hi),aV2] at e2
    split at e2 <;> cases e2
   .lia
  obtain ⟨k,rfl⟩:∃ k,i=own+k:=⟨i - own,by lia⟩
  rw [aRD (by simp),asY,Nat.add_sub_cancel_left,aJm] at e2
  cases q:js[k]? with
  | none=>rw [q] at e2; cases e2
  | some j =>
   rw [q] at e2
   have oY:(σ[j]?).join=some v:=by simpa using e2
   have e4:σ[j]?=some (some v):=by
    cases z:σ[j]? with
    | none=>rw [z] at oY; cases oY
    | some o=>rw [z] at oY; rw [show o=some v from oY]
   have kQ:N[own+k]?=some x:=e1
   have Ho:X.N[j]?=some x:=(c.js k j q).symm.trans kQ
   have hfr:=c.jf k x kQ
   have hmem:=ZT hfr
   have hk2:=c.free _ hmem rfl
   have vis:BZ X.env.scope x:=by
    rcases hk2 with z | z
    .exact .inr (.inl z)
    .exact .inr (.inr z)
   obtain ⟨m,_,hl⟩:=I.loc
   obtain ⟨u,r,l⟩:=hl j x v Ho e4 vis
   refine ⟨u,r,?_⟩
   rcases l with ⟨z,_⟩ | ⟨_,d,e,⟨od,ho,hd⟩⟩
   .rcases hk2 with y | y
    .rw [show X.env.kindOf x=_ from z] at y; cases y
    .rw [show X.env.kindOf x=_ from z] at y; cases y
   .obtain ⟨d',e',z'⟩:=ci.k2 x hfr
    have:d'=d:=by have z:=z'; rw [e] at z; exact (a6S z).symm
    subst this
    refine .inr ⟨?_,d',e',⟨od,hk _ _ ho,hd⟩⟩
    rcases ZcL (scope:=scope) (env:=X.env) hfr with z | ⟨_,z⟩
    .exact .inr z
    .exact .inl z
 .rcases ci.k1 x d e with q | ⟨_,q,_⟩
  .obtain ⟨v,⟨o,ho,hd⟩⟩:=I.cell x d q
   exact ⟨v,o,hk _ _ ho,hd⟩
  .exact ⟨none,q⟩
 .have wu:p∈X.pn++pins:=by
   have z:p∈(X.pn++pins)++[]:=hp
   rwa [aKQ] at z
  obtain ⟨a1,a2,a3,a4,a5⟩:=I.pin p wu
  refine ⟨hk _ _ a1,a2,anq (aSe a1),λz=>?_,a5⟩
  rcases awk.mp (I.kE p.1 z) with q | q
  .exact a3 q
  .exact a4 q
 .show _=N.length
  rw [c.len]; simp
theorem QN {pins:List (Addr×Obj)} {σ:St} {H:Hp} {s:Shared} {elt target iter:PySem.Expr} {ifs:List PySem.Expr} {pos:Pos} {it:Addr} {fp:List Addr} {tn:Nat->Heap->Prop} {J:It} {cl:List (Str×Addr)} {g:TG} {tc:TT} {te:TE} {E:Value->Shared->Prop} {Q:VK}
  {RR:Value->Addr->Result->Shared->Prop}
  (c:dI X scope N own js) (hc:X.calm=true) (I:Inv X pins σ H s) (T:Turn X.prog X.w X.K target J fp it tn) (st:tn 0 s.heap) (hf:∀ b∈fp,jq X pins H b)
  (jn:∀ x c,cl.lookup x=some c->X.env.cells.lookup x=some c) (kZ:∀ p∈scope.names,p.2=.free->∃ c,cl.lookup p.1=some c)
  (hg:∀ cl C s0 H0 fp pins,PG (bK X N scope cl C s0 H0 fp pins) target g)
  (ht:∀ cl C s0 H0 fp pins cL s σ H Q,Inv (bK X N scope cl C s0 H0 fp pins) cL σ H s->tc σ H Q->wpAny (model X.prog X.w) X.A (forIn ifs true λc r=>if r=true then do let ok ← isTrue c (compEnvC scope cl C X.env) (eval c (compEnvC scope cl C X.env)); pure (ForInStep.yield ok) else pure (ForInStep.yield r))
   (TP (bK X N scope cl C s0 H0 fp pins) cL σ Q) (λ_ _=>False) s)
  (he:∀ cl C s0 H0 fp pins,PE (bK X N scope cl C s0 H0 fp pins) elt te)
  (h:∀ l,H l=none->∃ W:Nat->Nat->List V->St->Hp->Prop,(∃ m,W 0 m [] (List.replicate own none++js.map λj=>(σ[j]?).join) (upd H l (.lst [])))/\∀ i m ys σ' H',W i m ys σ' H' ->
   (J.stop i H'/\Q (.ref l) H')\/(J.go i H'/\∀ x H2,J.nA i H' x H2->g x σ' H2 λσ2 H3=>tc σ2 H3 λb H4 =>
    if b=true then te σ2 H4 λy H5=>H5 l=some (.lst ys)/\ys.length<sizeLine/\∃ m',m'<m/\W (i+1) m' (ys++[y]) σ2 (upd H5 l (.lst (ys++[y])))
    else ∃ m',m'<m/\W (i+1) m' ys σ2 H4))
  (hRR:∀ l C H' s' m',s.heap.objs.size<=C->s'.heap.Ns C m'->H' C=none->C≠X.env.locals->C∉X.fs->(∀ h2,Heap.SameBut C s'.heap h2->Inv X pins σ H' { s' with heap:=h2 })->Q (.ref l) H'->RR (.ref l) C (.ok .next) s') :
  wpAny (model X.prog X.w) X.A (newList []) (λacc s3=>wpAny (model X.prog X.w) X.A (newFunctionEnv scope X.env.globals cl [] X.env.qual none .none (some X.env)) (λcenv s4 =>
   codeAny (model X.prog X.w) X.A (.compStart (.ListComp elt [⟨target,iter,ifs,0⟩] scope pos) 0 (.ref it) acc { cenv with scope:=relabel scope X.env }) (RR acc cenv.locals) s4) E s3) E s:=by
 have I2:Inv X pins σ (upd H s.heap.objs.size (.lst [])) { s with heap:=s.heap.push { cls:=.type "list",dict:=none,data:=.seq ([]:List Value).toArray },toks:=s.toks }:=I.Af (ys:=[]) .nil (a9k _)
 obtain ⟨W,⟨m0,w0⟩,turn⟩:=h s.heap.objs.size I.fresh
 refine aV5 (Zgv ?_)
 dsimp only
 generalize hS:({ s with heap:=s.heap.push { cls:=.type "list",dict:=none,data:=.seq ([]:List Value).toArray },toks:=s.toks }:Shared)=s2 at I2
 have e2:s2.heap=s.heap.push { cls:=.type "list",dict:=none,data:=.seq ([]:List Value).toArray }:=by rw [← hS]
 have LH:s2.heap.objs.size=s.heap.objs.size+1:=by rw [e2,a2Z]
 rw [← e2]
 have ci:=Y6 (h0:=s2.heap.push { cls:=.type "dict",data:=.dict #[] }) (n:=s2.heap.objs.size) c jn kZ I2.ok.inj (λx d e=>by obtain ⟨v,q⟩:=I2.cell x d e; exact q.lt) (a2Z ..)
 have uP:(pushCells (s2.heap.push { cls:=.type "dict",data:=.dict #[] }) scope.names).Ns s2.heap.objs.size (λ_=>none):=(Heap.Ns.new s2.heap (.type "dict")).keeps (pushCells_keeps _ _)
 have old:∀ b o,s2.heap.get? b=some o->(pushCells (s2.heap.push { cls:=.type "dict",data:=.dict #[] }) scope.names).get? b=some o:=λb o e=>pushCells_keeps _ _ b o (aIi _ e)
 generalize pushCells (s2.heap.push { cls:=.type "dict",data:=.dict #[] }) scope.names=h1 at ci uP old ⊢
 generalize hcl:cellsFrom (s2.heap.objs.size+1) scope.names cl=lR at ci ⊢
 have qB:∀ b,b∈fp->b<s.heap.objs.size:=λb hb=>by
  obtain ⟨o,e,_⟩:=T.obj 0 _ st b hb
  exact aSe e
 have hf2:∀ b∈fp,jq X pins (upd H s.heap.objs.size (.lst [])) b:=λb hb=>⟨by rw [Zc (anq (qB b hb))]; exact (hf b hb).1,(hf b hb).2⟩
 have we:∀ b∈fp,b<s2.heap.objs.size:=λb hb=>by rw [LH]; exact aK0 (qB b hb)
 have st2:tn 0 s2.heap:=T.keep 0 _ _ st λb _ o e=>by rw [e2]; exact aIi _ e
 have I4:=Y5 (t':=s.toks) c I2 hf2 we ci uP old
 have dF:tn 0 h1:=T.keep 0 _ _ st2 λb _ o e=>old b o e
 have es:({ s2 with heap:=h1,toks:=s.toks }:Shared)={ s with heap:=h1,toks:=s.toks }:=by rw [← hS]
 rw [es] at I4
 generalize UC:({ s with heap:=h1,toks:=s.toks }:Shared)=s4 at I4
 have zh:tn 0 s4.heap:=by rw [← UC]; exact dF
 have loop:codeAny (model X.prog X.w) X.A (.compLoop (.ListComp elt [⟨target,iter,ifs,0⟩] scope pos) 0 (.ref it) (.ref s.heap.objs.size) (compEnvC scope lR s2.heap.objs.size X.env)) (RR (.ref s.heap.objs.size) s2.heap.objs.size) s4:=by
  refine YM (λn s'=>∃ i ys σ' H',Inv (bK X N scope lR s2.heap.objs.size s2 (upd H s.heap.objs.size (.lst [])) fp pins) [] σ' H' s'/\tn i s'.heap/\(∀ b∈fp,H' b=none)/\W i n ys σ' H') ?_ m0
   ⟨0,[],_,_,I4,zh,λb hb=>(hf2 b hb).1,w0⟩
  rintro n s5 ⟨i,ys,σ5,H5,I5,sE,Dq,w5⟩
  have mH:∀ {H':Hp} {s':Shared} {σ':St},Inv (bK X N scope lR s2.heap.objs.size s2 (upd H s.heap.objs.size (.lst [])) fp pins) [] σ' H' s'->(∀ b∈fp,H' b=none)->∀ b∈fp,jq (bK X N scope lR s2.heap.objs.size s2 (upd H s.heap.objs.size (.lst [])) fp pins) [] H' b:=λJ' hn b hb =>
   ⟨hn b hb,(J'.ok.Dr b hb).1,J'.ok.qR b hb,.inl hb,(J'.ok.Dr b hb).2,λp hp z=>by
    have wu:p∈X.pn++pins:=by
     have q:p∈(X.pn++pins)++[]:=hp
     rwa [aKQ] at q
    exact (hf b hb).2.2.2.2.2 p wu z⟩
  rcases turn i n ys σ5 H5 w5 with ⟨stop,q⟩ | ⟨go,step⟩
  .refine ayO (T.done (bK X N scope lR s2.heap.objs.size s2 (upd H s.heap.objs.size (.lst [])) fp pins) rfl rfl rfl hc i [] s5 σ5 H5 (λ_ _=>False) I5 (mH I5 Dq) sE stop) (λr s6 ⟨hr,I6⟩=>?_) λ_ _ z=>z
   subst hr
   obtain ⟨m',hn',_⟩:=I6.loc
   have hC:s.heap.objs.size<=s2.heap.objs.size:=by rw [LH]; exact Nat.le_succ _
   refine hRR _ _ H5 s6 m' hC hn' I6.free ?_ ?_ (λh2 sb=>?_) q
   .exact aHs I2.lt
   .exact I2.zW (aDN _)
   .have u:Un (frs X.stack) fp (upd H s.heap.objs.size (.lst [])) H5 s2.heap h2:=I6.base.but (aDN _) sb.extBut
    have z6:H5 s2.heap.objs.size=none:=I6.free
    have hok:fC X.prog X.w H5 h2:=λb ob e=>(I6.hok b ob e).stay (λd w' hd z=>sb.extBut d w' (by
     rintro rfl
     rcases hd with rfl | hd
     .rw [z6] at e; cases e
     .rw [z6] at hd; cases hd) z) (λ_ z=>z) λ_ _ z=>z
    have J:=I2.A9 (s':={ s6 with heap:=h2 }) (ch:=fp) (by show s6.os=s2.os; exact I6.os) u hok I6.bare λb hb=>⟨(hf b hb).2.2.2.1,(hf b hb).2.1,(hf b hb).2.2.2.2.1,(hf b hb).2.2.2.2.2⟩
    exact J
  .refine ayO (T.item (bK X N scope lR s2.heap.objs.size s2 (upd H s.heap.objs.size (.lst [])) fp pins) rfl rfl rfl hc i [] s5 σ5 H5 (λ_ _=>False) I5 (mH I5 Dq) sE go) (λr s6 ⟨u,hr,h6⟩=>?_) λ_ _ z=>z
   subst hr
   refine ayO h6 (λ_ s7 ⟨x,H7,I7,r7,y7,Fl,U9⟩=>?_) λ_ _ z=>z
   have I7':=I7.pinned (mH I7 U9) (T.obj _ _ Fl)
   refine ayO (hg _ _ _ _ _ _ _ s7 σ5 H7 x u _ I7' r7 (step x H7 y7)) (λ_ s8 ⟨σ8,H8,I8,q8⟩=>?_) λ_ _ z=>z
   refine ayO (ht _ _ _ _ _ _ _ s8 σ8 H8 _ I8 q8) (λb s9 ⟨H9,I9,q9⟩=>?_) λ_ _ z=>z
   have fin:∀ {s':Shared} {H':Hp} {m':Nat} {ys':List V},Inv (bK X N scope lR s2.heap.objs.size s2 (upd H s.heap.objs.size (.lst [])) fp pins) ([]++Bl fp s7.heap) σ8 H' s'->m'<n->W (i+1) m' ys' σ8 H' ->
     ∃ m,m<n/\∃ i ys σ' H',Inv (bK X N scope lR s2.heap.objs.size s2 (upd H s.heap.objs.size (.lst [])) fp pins) [] σ' H' s'/\tn i s'.heap/\(∀ b∈fp,H' b=none)/\W i m ys σ' H':=λ{s' H' m' ys'} J' hm w'=>by
    refine ⟨m',hm,i+1,ys',σ8,H',J'.gR,T.keep _ _ _ Fl λb hb o e=>(J'.pin (b,o) (baP _ (baP _ (El hb e)))).1,λb hb=>?_,w'⟩
    obtain ⟨o,e,d⟩:=T.obj _ _ Fl b hb
    exact (J'.pin (b,o) (baP _ (baP _ (El hb e)))).2.1
   cases b with
   | false =>
    rw [aYW aXI] at q9 ⊢
    obtain ⟨m',hm,w'⟩:=q9
    exact fin I9 hm w'
   | true =>
    rw [bb9 rfl] at q9 ⊢
    refine ayO (he _ _ _ _ _ _ _ s9 σ8 H9 _ I9 q9) (λy Fx ⟨z,Rc,I10,uC,el,ez,m',hm,w'⟩=>?_) λ_ _ z=>z
    refine ayO (xr (X:=bK X N scope lR s2.heap.objs.size s2 (upd H s.heap.objs.size (.lst [])) fp pins) _ Fx σ8 Rc (.ref s.heap.objs.size) [z] _ [y] (λ_ H'=>H'=upd Rc s.heap.objs.size (.lst (ys++[z]))) I10 rfl (.cons uC .nil) ⟨_,_,_,rfl,rfl,el,ez,rfl⟩) (λ_ s11 ⟨_,H11,I11,_,Vk⟩=>?_) λ_ _ z=>z
    subst Vk
    exact fin I11 hm w'
 have fin:codeAny (model X.prog X.w) X.A (.compStart (.ListComp elt [⟨target,iter,ifs,0⟩] scope pos) 0 (.ref it) (.ref s.heap.objs.size) (compEnvC scope lR s2.heap.objs.size X.env)) (RR (.ref s.heap.objs.size) s2.heap.objs.size) s4 :=
  codeAny_compStart_list loop (T.self X.A 0 s4 _ _ zh loop)
 exact fin
theorem Py {elt target iter:PySem.Expr} {ifs:List PySem.Expr} {pos:Pos} {wi:TI} {g:TG} {tc:TT} {te:TE} (c:dI X scope N own js) (hc:X.calm=true) (hi:PI X target iter wi)
  (hg:∀ cl C s0 H0 fp pins,PG (bK X N scope cl C s0 H0 fp pins) target g)
  (ht:∀ cl C s0 H0 fp pins cL s σ H Q,Inv (bK X N scope cl C s0 H0 fp pins) cL σ H s->tc σ H Q->wpAny (model X.prog X.w) X.A (forIn ifs true λc r=>if r=true then do let ok ← isTrue c (compEnvC scope cl C X.env) (eval c (compEnvC scope cl C X.env)); pure (ForInStep.yield ok) else pure (ForInStep.yield r))
   (TP (bK X N scope cl C s0 H0 fp pins) cL σ Q) (λ_ _=>False) s)
  (he:∀ cl C s0 H0 fp pins,PE (bK X N scope cl C s0 H0 fp pins) elt te)
  (hs:∀ x,foldedSetIterable iter X.env x=pure x:=by intro _; rfl):PE X (.ListComp elt [⟨target,iter,ifs,0⟩] scope pos) (lq own js wi g tc te):=by
 intro pins s σ H Q I h
 obtain ⟨cl,e1,jn,_,kZ⟩:=BR (env:=X.env) scope.names [] (λp hp hf=>I.ok.has _ (c.free p hp hf)) (λx d e=>by simp at e)
 have hclos:closureFor scope X.env=pure cl:=by
  unfold closureFor
  refine (a5E (λz=>z >>= λcs=>pure cs) e1).trans ?_
  rfl
 rw [eval_ListComp]
 refine wpAny_comprehension_free (use:=none) rfl hs hclos c.kind c.names (ayO (hi pins s σ H _ I h) (λx s1 h1=>ayO h1 (λitv s2 h2=>?_) λ_ _ e=>e) λ_ _ e=>e)
 obtain ⟨it,fp,tn,J,H2,e,I2,T,st2,f2,q⟩:=h2
 subst e
 refine QN (Q:=Q) (RR:=λacc C=>compPost (model X.prog X.w) X.A X.xe none (EP X pins σ Q) acc C) c hc I2 T st2 f2 jn kZ hg ht he q ?_
 intro l C H' s' m' hC hn hf hL hfs hI hq
 exact ⟨m',hn,λh2 sb=>⟨.ref l,H',hI h2 sb,rfl,hq⟩⟩
theorem XO {elt target iter:PySem.Expr} {ifs:List PySem.Expr} {pos pos' spos:Pos} {y:Str} {k:Nat} {wi:TI} {g:TG} {tc:TT} {te:TE} (c:dI X scope N own js) (hc:X.calm=true) (hN:X.N.Nodup) (hk:X.N[k]?=some y) (hy:X.env.scope.names.lookup y=some .local) (hi:PI X target iter wi)
  (hg:∀ cl C s0 H0 fp pins,PG (bK X N scope cl C s0 H0 fp pins) target g)
  (ht:∀ cl C s0 H0 fp pins cL s σ H Q,Inv (bK X N scope cl C s0 H0 fp pins) cL σ H s->tc σ H Q->wpAny (model X.prog X.w) X.A (forIn ifs true λc r=>if r=true then do let ok ← isTrue c (compEnvC scope cl C X.env) (eval c (compEnvC scope cl C X.env)); pure (ForInStep.yield ok) else pure (ForInStep.yield r))
   (TP (bK X N scope cl C s0 H0 fp pins) cL σ Q) (λ_ _=>False) s)
  (he:∀ cl C s0 H0 fp pins,PE (bK X N scope cl C s0 H0 fp pins) elt te)
  (hs:∀ x,foldedSetIterable iter X.env x=pure x:=by intro _; rfl)
  (hsw:swapsWith (.ListComp elt [⟨target,iter,ifs,0⟩] scope pos) (some (.Name y pos')) spos.line X.env=pure true:=by rfl):PS X (.Assign [.Name y pos'] (.ListComp elt [⟨target,iter,ifs,0⟩] scope pos) spos) (oO (lq own js wi g tc te) (fP k)):=by
 intro pins s σ H D I h
 obtain ⟨cl,e1,jn,_,kZ⟩:=BR (env:=X.env) scope.names [] (λp hp hf=>I.ok.has _ (c.free p hp hf)) (λx d e=>by simp at e)
 have hclos:closureFor scope X.env=pure cl:=by
  unfold closureFor
  refine (a5E (λz=>z >>= λcs=>pure cs) e1).trans ?_
  rfl
 rw [exec_Assign_Name_used _ _ _ _ hsw]
 refine aHI (aSN (aHI ?_))
 show wpAny _ X.A (do let _ ← comprehension (.ListComp elt [⟨target,iter,ifs,0⟩] scope pos) scope X.env _ (newList []) false (eval iter X.env) (some (assign (.Name y pos') X.env))) _ _ s
 refine aHI (ayO (wpAny_comprehension_free (use:=some (assign (.Name y pos') X.env)) (Q:=λ_ s'=>SP X pins D .next s') rfl hs hclos c.kind c.names
  (ayO (hi pins s σ H _ I h) (λxv s1 h1=>ayO h1 (λit s2 h2=>?_) λ_ _ e=>e) λ_ _ e=>e)) (λ_ s' hq=>ag7 (ag7 hq)) λ_ _ e=>e)
 obtain ⟨it,fp,tn,J,H2,e,I2,T,st2,f2,q⟩:=h2
 subst e
 refine QN (Q:=λx H1=>fP k x σ H1 D.nx) (RR:=λacc C=>compPost (model X.prog X.w) X.A X.xe (some (assign (.Name y pos') X.env)) (λ_ s'=>SP X pins D .next s') acc C) c hc I2 T st2 f2 jn kZ hg ht he q ?_
 intro l C H' s' m' hC hn hf hL hfs hI hq
 have J0:=hI s'.heap (Heap.SameBut.refl ..)
 show wpAny _ X.A (assign (.Name y pos') X.env (.ref l)) _ _ _
 have J1:Inv X pins σ H' s':=J0
 refine wpAny_assign_Name (Qz (v:=.ref l) J1 hN hk (.inl hy) rfl (λs'' Q8 jR=>?_) (.inr hy))
 obtain ⟨a,sb,ha⟩:=jR
 have hne:C≠a:=by
  rcases ha with rfl | ha
  .exact hL
  .rintro rfl
   obtain ⟨v,⟨o,ho,hd⟩⟩:=J1.cell y C ha
   obtain ⟨o',es,ep,ho',hd',_⟩:=hn
   rw [ho] at ho'; cases ho'
   rw [hd] at hd'; cases hd'
 refine ⟨m',hn.sameBut sb hne,λh2 xP=>?_⟩
 have hok:fC X.prog X.w H' h2:=λb ob e=>(Q8.hok b ob e).stay (λd w' hd z=>xP.extBut d w' (by
  rintro rfl
  rcases hd with rfl | hd
  .rw [hf] at e; cases e
  .rw [hf] at hd; cases hd) z) (λ_ z=>z) λ_ _ z=>z
 have rW:∀ x d,X.env.cells.lookup x=some d->d≠C:=λx d e z=>by
  subst z
  obtain ⟨v,⟨o,ho,hd⟩⟩:=J1.cell x d e
  obtain ⟨o',es,ep,ho',hd',_⟩:=hn
  rw [ho] at ho'; cases ho'
  rw [hd] at hd'; cases hd'
 have yh:∀ p∈X.pn++pins,p.1≠C:=λp hp z=>by
  have a1:=(I2.pin p hp).1
  exact absurd (a6M (aSe a1) (by rw [z]; exact hC)) (aXl _)
 have fin:Inv X pins (σ.set k (some (.ref l))) H' { s'' with heap:=h2 }:=Q8.turned (t':=s''.toks) (it:=C) (λb o hb e=>xP.extBut b o hb e) hf hL (.inr (auj I2.sz hC)) rW yh
 exact ⟨_,H',fin,hq⟩
theorem vh {elt target iter:PySem.Expr} {pos:Pos} {wi:TI} {g:TG} {te:TE} (c:dI X scope N own js) (hc:X.calm=true) (hi:PI X target iter wi)
  (hg:∀ cl C s0 H0 fp pins,PG (bK X N scope cl C s0 H0 fp pins) target g) (he:∀ cl C s0 H0 fp pins,PE (bK X N scope cl C s0 H0 fp pins) elt te)
  (hs:∀ x,foldedSetIterable iter X.env x=pure x:=by intro _; rfl):PE X (.ListComp elt [⟨target,iter,[],0⟩] scope pos) (lq own js wi g ue te) :=
 Py c hc hi hg (λcl C s0 H0 fp pins cL s σ H Q I h=>wpAny_tests_nil ⟨H,I,h⟩) he hs
theorem XN {elt target iter LB:PySem.Expr} {pos:Pos} {wi:TI} {g:TG} {tc:TT} {te:TE} (c:dI X scope N own js) (hc:X.calm=true) (hi:PI X target iter wi)
  (hg:∀ cl C s0 H0 fp pins,PG (bK X N scope cl C s0 H0 fp pins) target g) (ht:∀ cl C s0 H0 fp pins,PT (bK X N scope cl C s0 H0 fp pins) LB tc) (he:∀ cl C s0 H0 fp pins,PE (bK X N scope cl C s0 H0 fp pins) elt te)
  (hs:∀ x,foldedSetIterable iter X.env x=pure x:=by intro _; rfl):PE X (.ListComp elt [⟨target,iter,[LB],0⟩] scope pos) (lq own js wi g tc te) :=
 Py c hc hi hg (λcl C s0 H0 fp pins cL s σ H Q I h=>wpAny_tests_one (ht cl C s0 H0 fp pins cL s σ H Q I h)) he hs
theorem Px {elt target iter:PySem.Expr} {pos pos' spos:Pos} {y:Str} (k:Nat) {wi:TI} {g:TG} {te:TE} (c:dI X scope N own js) (hc:X.calm=true) (hN:X.N.Nodup) (hk:X.N[k]?=some y) (hy:X.env.scope.names.lookup y=some .local) (hi:PI X target iter wi)
  (hg:∀ cl C s0 H0 fp pins,PG (bK X N scope cl C s0 H0 fp pins) target g) (he:∀ cl C s0 H0 fp pins,PE (bK X N scope cl C s0 H0 fp pins) elt te)
  (hs:∀ x,foldedSetIterable iter X.env x=pure x:=by intro _; rfl)
  (hsw:swapsWith (.ListComp elt [⟨target,iter,[],0⟩] scope pos) (some (.Name y pos')) spos.line X.env=pure true:=by rfl):PS X (.Assign [.Name y pos'] (.ListComp elt [⟨target,iter,[],0⟩] scope pos) spos) (oO (lq own js wi g ue te) (fP k)) :=
 XO c hc hN hk hy hi hg (λcl C s0 H0 fp pins cL s σ H Q I h=>wpAny_tests_nil ⟨H,I,h⟩) he hs hsw
end
section
variable {X:Cx} {pins:List (Addr×Obj)} {σ:St} {H:Hp} {s:Shared}
theorem fC.zT {P:Program} {w:World} {h h':Heap} {ch:List Addr} (hok:fC P w H h) (hn:∀ b∈ch,H b=none) (k:∀ b o,b∉ch->h.get? b=some o->h'.get? b=some o):fC P w H h':=λb ob e =>
 (hok b ob e).stay (λd u hd z=>k d u (λm=>by
  rcases hd with rfl | hd
  .rw [hn _ m] at e; cases e
  .rw [hn _ m] at hd; cases hd) z) (λ_ z=>z) λ_ _ z=>z
theorem Inv.jv {ch:List Addr} {h':Heap} {t':Nat} (I:Inv X pins σ H s) (hch:∀ b∈ch,jq X pins H b) (k:∀ b o,b∉ch->s.heap.get? b=some o->h'.get? b=some o) :
  Inv X pins σ H { s with heap:=h',toks:=t' }:=by
 have u:Un (frs X.stack) ch H H s.heap h':=⟨λb o q _ _ hx=>k b o hx q,λb o q _ _ hx=>⟨o.slots,k b o hx q⟩,λ_ _ _ n _=>n,λb o q hx=>⟨o,k b o hx q⟩,λ_ _ q=>q,λ_ _ _ q=>q,λ_ _ _ q=>q⟩
 exact I.call (g':=s.gens) (d':=s.drawn) (t':=t') u (I.hok.zT (λb hb=>(hch b hb).1) k) I.bare λb hb=>⟨(hch b hb).2.2.2.1,(hch b hb).2.1,(hch b hb).2.2.2.2.1,(hch b hb).2.2.2.2.2⟩
theorem Inv.mT {ch:List Addr} {h':Heap} {t':Nat} {o:HO} (I:Inv X pins σ H s) (hch:∀ b∈ch,jq X pins H b) (k:∀ b o,b∉ch->s.heap.get? b=some o->h'.get? b=some o)
  (new:aH X.prog X.w (upd H s.heap.objs.size o) h' s.heap.objs.size o):Inv X pins σ (upd H s.heap.objs.size o) { s with heap:=h',toks:=t' }:=by
 have fr:H s.heap.objs.size=none:=I.hok.fresh (aDN _)
 have ne:∀ b ob,s.heap.get? b=some ob->b≠s.heap.objs.size:=λb ob e=>anq (aSe e)
 have nt:∀ b ob,H b=some ob->b≠s.heap.objs.size:=λb ob e=>Zd e fr
 have u:Un (frs X.stack) ch H (upd H s.heap.objs.size o) s.heap h':=⟨λb o q _ _ hx=>k b o hx q,λb o q _ _ hx=>⟨o.slots,k b o hx q⟩,λb ob q n _=>by rw [Zc (ne b ob q)]; exact n,λb o q hx=>⟨o,k b o hx q⟩,
  λb xs q=>by rw [Zc (nt b _ q)]; exact q,λb ob xs q=>by rw [Zc (nt b _ q)]; exact q,λb _ _ q=>by rw [Zc (nt b _ q)]; exact q⟩
 have hok:fC X.prog X.w (upd H s.heap.objs.size o) h':=λb ob e=>by
  by_cases hb:b=s.heap.objs.size
  .subst hb
   rw [Za] at e; cases e
   exact new
  .rw [Zc hb] at e
   refine (I.hok b ob e).stay (λd u hd z=>k d u (λm=>?_) z) (λd z=>by rw [Zc (nt d _ z)]; exact z) (λd xs z=>by rw [Zc (nt d _ z)]; exact z) λd oz z=>by rw [Zc (nt d _ z)]; exact z
   have hn:=(hch d m).1
   rcases hd with rfl | hd
   .rw [hn] at e; cases e
   .rw [hn] at hd; cases hd
 exact I.call (g':=s.gens) (d':=s.drawn) (t':=t') u hok I.bare λb hb=>⟨(hch b hb).2.2.2.1,(hch b hb).2.1,(hch b hb).2.2.2.2.1,(hch b hb).2.2.2.2.2⟩
end
theorem kH {a b:Nat} (h:a<b\/b<a):@Ne Addr a b:=λe=>by
 have e':a=b:=e
 lia
theorem Jy (n l1 l2:Nat) (h1:l1<n) (h2:l2<n):ZipApart (n+4) (n+2) (n+3) n (n+1) l1 l2 :=
 ⟨kH (by lia),kH (by lia),kH (by lia),kH (by lia),kH (by lia),kH (by lia),kH (by lia),kH (by lia),kH (by lia),kH (by lia),kH (by lia),kH (by lia),kH (by lia),kH (by lia),kH (by lia),kH (by lia),kH (by lia),kH (by lia)⟩
def t9 (K:W.Frag) (a b:Addr):It :=
 ⟨λi H=>∃ xs ys x y,aG K H a xs/\aG K H b ys/\xs[i]?=some x/\ys[i]?=some y,
 λi H v H'=>∃ t x y,H t=none/\v=.ref t/\H'=upd H t (.tup [x,y])/\(∀ xs,aG K H a xs->xs[i]?=some x)/\∀ ys,aG K H b ys->ys[i]?=some y,
 λi H=>∃ xs ys,aG K H a xs/\aG K H b ys/\(xs.length<=i\/ys.length<=i)⟩
theorem Eg {h:Heap} {it l:Addr} {i:Nat} (x:h.IsListIter it l i):∃ o,h.get? it=some o/\∀ v,o.data≠.cell v:=by
 obtain ⟨o,e,c,d⟩:=x
 exact ⟨o,e,λv z=>by rw [d] at z; cases z⟩
theorem Pw {P:Program} {w:World} {K:W.Frag} {elts:List PySem.Expr} {x1} {pos:Pos} (z TI TO i1 i2 a b:Addr) (D:ZipApart z TI TO i1 i2 a b) :
  Turn P w K (.Tuple elts x1 pos) (t9 K a b) [z,TI,TO,i1,i2] z (λi h=>IsZip h z TI TO .none/\IsPair h TI (.ref i1) (.ref i2)/\(∃ u v,IsPair h TO u v)/\h.IsListIter i1 a i/\h.IsListIter i2 b i) where
 mem:=by simp
 obj:=λi h st c hc=>by
  obtain ⟨hz,hTI,⟨u,v,hTO⟩,h1,h2⟩:=st
  simp only [atw,aha,aqQ] at hc
  rcases hc with rfl | rfl | rfl | rfl | rfl
  .exact ⟨_,hz,λv e=>by cases e⟩
  .exact ⟨_,hTI,λv e=>by cases e⟩
  .exact ⟨_,hTO,λv e=>by cases e⟩
  .exact Eg h1
  .exact Eg h2
 keep:=λi h h' st k=>by
  obtain ⟨hz,hTI,⟨u,v,hTO⟩,h1,h2⟩:=st
  exact ⟨k z (by simp) _ hz,k TI (by simp) _ hTI,⟨u,v,k TO (by simp) _ hTO⟩,h1.at λo e=>k i1 (by simp) o e,h2.at λo e=>k i2 (by simp) o e⟩
 item:=by
  intro X hP hw hK hc i pins s σ H E I hf st hg
  subst hP hw hK
  obtain ⟨xs,ys,x,y,mV,mU,hx,hy⟩:=hg
  obtain ⟨hz,hTI,⟨u0,v0,hTO⟩,h1,h2⟩:=st
  obtain ⟨jH,ra,pa,za⟩:=I.list mV
  obtain ⟨jX,rb,pb,zb⟩:=I.list mU
  obtain ⟨ux,hux,Fz⟩:=ra.get hx
  obtain ⟨uy,GU,Fy⟩:=rb.get hy
  refine wpAny_pyNext_zip_item D hz hTI hTO h1 h2 pa.isList pb.isList (x:=ux) (y:=uy) (by simpa using hux) (by simpa using GU) λh' a1 a2 a3 a4 a5 a6 a7=>?_
  refine ⟨.ref s.heap.objs.size,rfl,?_⟩
  refine wpAny_letOwnedTupleGo_zip a1 λh2' hz' hs'=>?_
  have qH:z<s.heap.objs.size:=aSe hz
  have kk:∀ c o,c∉[z,TI,TO,i1,i2]->s.heap.get? c=some o->h2'.get? c=some o:=λc o hc e=>by
   simp only [atw,aha,aqQ,not_or] at hc
   exact hs'.extBut c o hc.1 (a7 c o hc.1 hc.2.2.1 hc.2.2.2.1 hc.2.2.2.2 e)
  have tp:h2'.get? s.heap.objs.size=some { cls:=.type "tuple",data:=.seq #[ux,uy] }:=hs'.extBut _ _ (aHs qH) a5
  have I1:Inv X pins σ (upd H s.heap.objs.size (.tup [x,y])) { s with heap:=h2',toks:=s.toks } :=
   I.mT hf kk ⟨by show 2<=sizeLine; decide,[ux,uy],.cons Fz (.cons Fy .nil),⟨_,tp,rfl,_,rfl⟩⟩
  have Ll:h2'.get? TI=s.heap.get? TI:=by
   rw [hTI]
   exact hs'.extBut _ _ D.TIz (a7 _ _ D.TIz D.TITO D.TIi1 D.TIi2 hTI)
  refine ⟨.ref s.heap.objs.size,_,I1,rfl,⟨s.heap.objs.size,x,y,I.hok.fresh (aDN _),rfl,rfl,λxs' h=>by rw [I.ie h mV]; exact hx,λys' h=>by rw [I.ie h mU]; exact hy⟩,⟨hz',?_,⟨ux,uy,hs'.extBut _ _ D.TOz a2⟩,a3.at λo e=>hs'.extBut _ o D.i1z e,a4.at λo e=>hs'.extBut _ o D.i2z e⟩,λc hc=>?_⟩
  .show h2'.get? TI=_
   rw [Ll]; exact hTI
  .have hc':=hc
   have hlt:c<s.heap.objs.size:=by
    simp only [atw,aha,aqQ] at hc'
    rcases hc' with rfl | rfl | rfl | rfl | rfl
    .exact qH
    .exact aSe hTI
    .exact aSe hTO
    .obtain ⟨o,e,_⟩:=Eg h1; exact aSe e
    .obtain ⟨o,e,_⟩:=Eg h2; exact aSe e
   rw [Zc (anq hlt)]
   exact (hf c hc).1
 done:=by
  intro X hP hw hK hc i pins s σ H E I hf st hg
  subst hP hw hK
  obtain ⟨xs,ys,mV,mU,hend⟩:=hg
  obtain ⟨hz,hTI,⟨u0,v0,hTO⟩,h1,h2⟩:=st
  obtain ⟨jH,ra,pa,za⟩:=I.list mV
  obtain ⟨jX,rb,pb,zb⟩:=I.list mU
  have la:=ra.length
  have lb:=rb.length
  refine wpAny_pyNext_zip_end (I.ok.hd hc) D hz hTI hTO h1 h2 pa.isList pb.isList ?_ λh' hk=>⟨rfl,?_⟩
  .rcases hend with q | q
   .exact .inl (by simp; lia)
   .exact .inr (by simp; lia)
  .refine I.jv (t':=s.toks) hf λc o hc e=>?_
   simp only [atw,aha,aqQ,not_or] at hc
   exact hk c o hc.1 hc.2.2.1 hc.2.2.2.1 hc.2.2.2.2 e
 self:=λ_ _ _ _ _ st h=>ah2 st.1 h
def GN (K:W.Frag) (ta:TA):TI:=λσ H R=>ta σ H λvs H1=>∃ a b,vs=[.ref a,.ref b]/\(∃ xs,aG K H1 a xs)/\(∃ ys,aG K H1 b ys)/\R (t9 K a b) H1
section
variable {X:Cx}
theorem Zip:bootBuiltins "zip" = some (.type "zip"):=by first | rfl | decide +kernel | kernel_rfl
theorem ZeW:bootBuiltins "enumerate" = some (.type "enumerate"):=by first | rfl | decide +kernel | kernel_rfl
theorem VU {elts:List PySem.Expr} {x1} {tpos:Pos} {a b:PySem.Expr} {ta:TA} {p pos:Pos} (hg:Gl X "zip") (hm:X.mg "zip" = none) (ha:PA X [a,b] ta) (hs:starEach [a,b] X.env=[(false,eval a X.env),(false,eval b X.env)]:=by rfl) (hs2:starEach [b] X.env=[(false,eval b X.env)]:=by rfl) :
  PI X (.Tuple elts x1 tpos) (.Call (.Name "zip" p) [a,b] [] pos) (GN X.K ta):=by
 intro pins s σ H R I h
 refine Call_ (se I hg hm Zip (awR (mG (ha pos pins s σ H _ I h) λus s1 vs H1 I1 r1 q1=>?_) (by rw [hs,hs2]) (by rw [hs2]; rfl)))
 obtain ⟨l1,l2,e,⟨xs,mV⟩,⟨ys,mU⟩,q⟩:=q1
 subst e
 obtain ⟨v1,v2,rfl,r,r'⟩:=vals2 r1
 cases r
 cases r'
 obtain ⟨jH,ra,pa,za⟩:=I1.list mV
 obtain ⟨jX,rb,pb,zb⟩:=I1.list mU
 have qB:l1<s1.heap.objs.size:=by obtain ⟨o,e,_⟩:=pa.isList; exact aSe e
 have we:l2<s1.heap.objs.size:=by obtain ⟨o,e,_⟩:=pb.isList; exact aSe e
 refine call_zip_2 pa.isList pb.isList λh' g5 g3 g4 g1 g2 hsz kp=>ah2 g5 ?_
 refine ⟨_,[_,_,_,_,_],_,_,H1,rfl,I1.kept (t':=s1.toks) kp,Pw _ _ _ _ _ l1 l2 (Jy s1.heap.objs.size l1 l2 qB we),⟨g5,g3,⟨_,_,g4⟩,g1,g2⟩,λc hc=>?_,q⟩
 have hc':s1.heap.objs.size<=c:=by
  simp only [atw,aha,aqQ] at hc
  rcases hc with rfl | rfl | rfl | rfl | rfl <;> first | exact aDN _ | exact Nat.le_add_right _ _
 exact I1.mW hc' (I1.hok.fresh hc')
def Cj (K:W.Frag) (a:Addr):It :=
 ⟨λi H=>∃ xs x,aG K H a xs/\xs[i]?=some x,
 λi H v H'=>∃ t x,H t=none/\v=.ref t/\H'=upd H t (.tup [.int i,x])/\∀ xs,aG K H a xs->xs[i]?=some x,
 λi H=>∃ xs,aG K H a xs/\xs.length=i⟩
theorem YL {P:Program} {w:World} {K:W.Frag} {elts:List PySem.Expr} {x1} {pos:Pos} (e it a:Addr) (hei:e≠it) (UZ:a≠e) (hai:a≠it) :
  Turn P w K (.Tuple elts x1 pos) (Cj K a) [e,it] e (λi h=>(∃ old,IsEnum h e it i old)/\h.IsListIter it a i) where
 mem:=by simp
 obj:=λi h st c hc=>by
  obtain ⟨⟨old,he⟩,h1⟩:=st
  simp only [atw,aha,aqQ] at hc
  rcases hc with rfl | rfl
  .exact ⟨_,he,λv z=>by cases z⟩
  .obtain ⟨o,q,c,d⟩:=h1; exact ⟨o,q,λv z=>by rw [d] at z; cases z⟩
 keep:=λi h h' st k=>by
  obtain ⟨⟨old,he⟩,h1⟩:=st
  exact ⟨⟨old,k e (by simp) _ he⟩,h1.at λo q=>k it (by simp) o q⟩
 item:=by
  intro X hP hw hK hc i pins s σ H E I hf st hg
  subst hP hw hK
  obtain ⟨xs,x,hq,hx⟩:=hg
  obtain ⟨⟨old,he⟩,h1⟩:=st
  obtain ⟨its,rv,p,hz⟩:=I.list hq
  obtain ⟨u,hu,ru⟩:=rv.get hx
  have hlt:i<its.toArray.size:=by
   have:=(aK1.mp hu).1
   simpa using this
  refine wpAny_pyNext_enum_itemD (Draws.list (A:=X.A.in1) (show X.A.in1.handled=none from I.ok.hd hc) it a hai its.toArray) he ⟨h1,p.isList⟩ hlt hei (by simp [hei,aI4 UZ]) λv h' tk hP ho hs' hT hsz hk=>?_
  have wF:v=u:=by
   have z:its[i]?=some v:=by simpa using hP
   rw [hu] at z; exact (a6S z).symm
  subst wF
  refine ⟨.ref s.heap.objs.size,rfl,?_⟩
  refine wpAny_letOwnedTupleGo_enum ho λh2 UQ xP=>?_
  have helt:e<s.heap.objs.size:=aSe he
  have kk:∀ c o,c∉[e,it]->s.heap.get? c=some o->h2.get? c=some o:=λc o hc q=>by
   simp only [atw,aha,aqQ,not_or] at hc
   exact (xP.2 c hc.1).trans (hk c o hc.1 hc.2 q)
  have tp:h2.get? s.heap.objs.size=some { cls:=.type "tuple",data:=.seq #[.int i tk,v] }:=(xP.2 _ (aHs helt)).trans hT
  have I1:Inv X pins σ (upd H s.heap.objs.size (.tup [.int i,x])) { s with heap:=h2,toks:=tk+1 } :=
   I.mT hf kk ⟨by show 2<=sizeLine; decide,[.int i tk,v],.cons ⟨tk,rfl⟩ (.cons ru .nil),⟨_,tp,rfl,_,rfl⟩⟩
  refine ⟨.ref s.heap.objs.size,_,I1,rfl,⟨s.heap.objs.size,x,I.hok.fresh (aDN _),rfl,rfl,λys hy=>by rw [I.ie hy hq]; exact hx⟩,⟨⟨v,by simpa using UQ⟩,hs'.1.at λo q=>(xP.2 _ (aI4 hei)).trans q⟩,λc hc=>?_⟩
  have hlt':c<s.heap.objs.size:=by
   simp only [atw,aha,aqQ] at hc
   rcases hc with rfl | rfl
   .exact helt
   .obtain ⟨o,q,_⟩:=h1; exact aSe q
  rw [Zc (anq hlt')]
  exact (hf c hc).1
 done:=by
  intro X hP hw hK hc i pins s σ H E I hf st hg
  subst hP hw hK
  obtain ⟨xs,hq,hx⟩:=hg
  obtain ⟨⟨old,he⟩,h1⟩:=st
  obtain ⟨its,rv,p,hz⟩:=I.list hq
  have hl:=rv.length
  have ei:i=its.toArray.size:=by simp; lia
  subst ei
  refine wpAny_pyNext_enum_endD (Draws.list (A:=X.A.in1) (show X.A.in1.handled=none from I.ok.hd hc) it a hai its.toArray) he ⟨h1,p.isList⟩ λh' hx'=>⟨rfl,?_⟩
  refine I.jv (t':=s.toks) hf λc o hc q=>?_
  simp only [atw,aha,aqQ,not_or] at hc
  exact hx' c o hc.2 q
 self:=λ_ _ _ _ _ st h=>by
  obtain ⟨⟨old,he⟩,_⟩:=st
  exact wpAny_pyIter_enum he h
def Ay (K:W.Frag) (ta:TA):TI:=λσ H R=>ta σ H λvs H1=>∃ a,vs=[.ref a]/\(∃ xs,aG K H1 a xs)/\R (Cj K a) H1
theorem WQ {elts:List PySem.Expr} {x1} {tpos:Pos} {a:PySem.Expr} {ta:TA} {p pos:Pos} (hg:Gl X "enumerate") (hm:X.mg "enumerate" = none) (ha:PA X [a] ta) (hs:starEach [a] X.env=[(false,eval a X.env)]:=by rfl) :
  PI X (.Tuple elts x1 tpos) (.Call (.Name "enumerate" p) [a] [] pos) (Ay X.K ta):=by
 intro pins s σ H R I h
 refine Call_ (se I hg hm ZeW (awR (mG (ha pos pins s σ H _ I h) λus s1 vs H1 I1 r1 q1=>?_) hs rfl))
 obtain ⟨l,e,⟨xs,hq⟩,q⟩:=q1
 subst e
 cases r1 with
 | cons r rr =>
  cases rr
  cases r
  obtain ⟨its,rv,pl,hz⟩:=I1.list hq
  have qB:l<s1.heap.objs.size:=by obtain ⟨o,e,_⟩:=pl.isList; exact aSe e
  refine call_enumerate_list pl.isList λh' he hi hsz hk=>?_
  refine wpAny_pyIter_enum he ?_
  refine ⟨s1.heap.objs.size+1,[s1.heap.objs.size+1,s1.heap.objs.size],_,_,H1,rfl,I1.kept (t':=s1.toks) hk,YL (s1.heap.objs.size+1) s1.heap.objs.size l (Nat.succ_ne_self _) (kH (.inl (aK0 qB))) (anq qB),⟨⟨_,he⟩,hi⟩,λc hc=>?_,q⟩
  have hc':s1.heap.objs.size<=c:=by
   simp only [atw,aha,aqQ] at hc
   rcases hc with rfl | rfl <;> lia
  exact I1.mW hc' (I1.hok.fresh hc')
end
def rN (H:Hp):V->Option String
 | .aR=>some "NoneType"
 | .bl _=>some "bool"
 | .int _=>some "int"
 | .str _=>some "str"
 | .ref a=>match H a with
  | some (.lst _)=>some "list"
  | some (.dz _ (.lst _))=>some "list"
  | some (.tup _)=>some "tuple"
  | some (.dK _)=>some "dict"
  | some (.dT _)=>some "dict"
  | _=>none
 | _=>none
theorem NH {K:W.Frag} {H:Hp} {x:V} {t:String} (h:rN H x=some t):iM K H x (.type t):=by
 cases x with
 | aR=>cases h; exact .aR
 | bl b=>cases h; exact .bl b
 | int i=>cases h; exact .int i
 | str z=>cases h; exact .str z
 | ref a =>
  simp only [rN] at h
  split at h
  .rename_i e; cases h; exact .lst e
  .rename_i e; cases h; exact .dz e
  .rename_i e; cases h; exact .tup e
  .rename_i e; cases h; exact .dK e
  .rename_i e; cases h; exact .dT e
  .cases h
 | _=>cases h
def jx (t c:String):Bool:=t == c || (t == "bool" && c == "int")
def Dz:List String:=["NoneType", "bool", "int", "str", "list", "tuple", "dict"]
def wU:List String:=["bool", "int", "str", "list", "tuple", "dict"]
theorem JG (K:W.Frag):∀ t∈Dz,∀ c∈wU,W.kitOne K (.type t) (.type c)=some (jx t c):=by
 intro t ht c hc
 simp only [Dz,atw,aha,aqQ] at ht
 simp only [wU,atw,aha,aqQ] at hc
 rcases ht with rfl | rfl | rfl | rfl | rfl | rfl | rfl <;> rcases hc with rfl | rfl | rfl | rfl | rfl | rfl <;> rfl
theorem Qt {H:Hp} {x:V} {t:String} (h:rN H x=some t):t∈Dz:=by
 cases x with
 | aR=>cases h; decide
 | bl b=>cases h; decide
 | int i=>cases h; decide
 | str z=>cases h; decide
 | ref a =>
  simp only [rN] at h
  split at h <;> first | (cases h; decide) | cases h
 | _=>cases h
section
variable {X:Cx}
def FE:List V->Hp->VK->Prop:=λxs H Q=>∃ x t c,xs=[x,.ty c]/\rN H x=some t/\c∈wU/\Q (.bl (jx t c)) H
theorem vg:bF X (.builtin "isinstance") FE:=by
 intro pins s σ H xs us Q I r h
 obtain ⟨x,t,c,rfl,ht,hc,q⟩:=h
 obtain ⟨u,w',rfl,rx,rc⟩:=vals2 r
 cases rc
 exact YS I rx (NH ht) (JG X.K t (Qt ht) c hc) λtk=>⟨.bl _,H,I.tok tk,rfl,q⟩
def zB:List V->Hp->VK->Prop:=λxs H Q=>∃ x t c d p,xs=[x,.ref p]/\H p=some (.tup [.ty c,.ty d])/\rN H x=some t/\c∈wU/\d∈wU/\Q (.bl (jx t c || jx t d)) H
theorem XM (K:W.Frag) {t c d:String} (ht:t∈Dz) (hc:c∈wU) (hd:d∈wU):W.kitAny K (.type t) [.type c,.type d]=some (jx t c || jx t d):=by
 unfold W.kitAny
 rw [JG K t ht c hc]
 cases jx t c with
 | true=>rfl
 | false =>
  show W.kitAny K (.type t) [.type d]=some (jx t d)
  unfold W.kitAny
  rw [JG K t ht d hd]
  cases jx t d <;> rfl
theorem Qs:bF X (.builtin "isinstance") zB:=by
 intro pins s σ H xs us Q I r h
 obtain ⟨x,t,c,d,p,rfl,hp,ht,hc,hd,q⟩:=h
 obtain ⟨u,w',rfl,rx,rc⟩:=vals2 r
 cases rc
 obtain ⟨_,its,rv,⟨o,ho,hcl,n,hdt⟩⟩:=(show aH X.prog X.w H s.heap p (.tup [.ty c,.ty d]) from I.hok p _ hp)
 obtain ⟨u1,u2,rfl,r1,r2⟩:=vals2 rv
 cases r1
 cases r2
 have e:=XM X.K (Qt ht) hc hd
 have fin:∀ tk,EP X pins σ Q (.bool (jx t c || jx t d)) { s with toks:=tk }:=λtk=>⟨.bl _,H,I.tok tk,rfl,q⟩
 have htp:s.heap.get? p=some ⟨.type "tuple",o.dict,.seq [Value.type c,Value.type d].toArray n,o.slots⟩:=by
  rw [ho]
  obtain ⟨oc,od,odt,osl⟩:=o
  cases hcl; cases hdt
  rfl
 have ty:=NH (K:=X.K) ht
 generalize hT:Value.type t=T at ty e
 cases ty with
 | aR=>cases (show u=Value.none from rx); exact a0C W.kitx_none I.eL True.intro htp e (λz=>nomatch z) fin
 | bl y=>cases (show u=Value.bool y from rx); exact a0C W.kitx_bool I.eL True.intro htp e (λz=>nomatch z) fin
 | int i=>obtain ⟨t,q⟩:=(show ∃ t,u=Value.int i t from rx); cases q; exact a0C W.kitx_int I.eL True.intro htp e (λz=>nomatch z) fin
 | str y=>obtain ⟨t,q⟩:=(show ∃ t,u=Value.str y t from rx); cases q; exact a0C W.kitx_str I.eL True.intro htp e (λz=>nomatch z) fin
 | tN y=>obtain ⟨t,q⟩:=(show ∃ t,u=Value.float y t from rx); cases q; exact a0C W.kitx_float I.eL True.intro htp e (λz=>nomatch z) fin
 | @lst a xs ea =>
  cases (show u=Value.ref a from rx)
  obtain ⟨_,_,n,_,h1⟩:=(show aH X.prog X.w H s.heap a (.lst xs) from I.hok a _ ea)
  exact a0C W.kitx_list I.eL ⟨_,h1,rfl⟩ htp e (λz=>nomatch z) fin
 | @dz a ob xs ea =>
  cases (show u=Value.ref a from rx)
  obtain ⟨_,_,_,n,_,h1⟩:=(show aH X.prog X.w H s.heap a (.dz ob (.lst xs)) from I.hok a _ ea)
  exact a0C W.kitx_list I.eL ⟨_,h1,rfl⟩ htp e (λz=>nomatch z) fin
 | @tup a xs ea =>
  cases (show u=Value.ref a from rx)
  obtain ⟨_,_,_,p⟩:=(show aH X.prog X.w H s.heap a (.tup xs) from I.hok a _ ea)
  obtain ⟨o,h1,h2,_⟩:=p
  exact a0C W.kitx_tuple I.eL ⟨o,h1,h2⟩ htp e (λz=>nomatch z) fin
 | @dK a kvs ea =>
  cases (show u=Value.ref a from rx)
  obtain ⟨_,_,vs,_,p⟩:=(show aH X.prog X.w H s.heap a (.dK kvs) from I.hok a _ ea)
  obtain ⟨o,es,ep,h1,h2,_⟩:=p
  exact a0C W.kitx_dict I.eL ⟨o,h1,h2.1⟩ htp e (λz=>nomatch z) fin
 | @dT a kvs ea =>
  cases (show u=Value.ref a from rx)
  obtain ⟨_,_,xs,_,o,es,ep,h1,h2,_⟩:=(show aH X.prog X.w H s.heap a (.dT kvs) from I.hok a _ ea)
  exact a0C W.kitx_dict I.eL ⟨o,h1,h2.1⟩ htp e (λz=>nomatch z) fin
 | ins e'=>cases hT
theorem su:bootBuiltins "isinstance" = some (.builtin "isinstance"):=by first | rfl | decide +kernel | kernel_rfl
theorem Pu:bootBuiltins "all" = some (.builtin "all"):=by first | rfl | decide +kernel | kernel_rfl
theorem Pq:bootBuiltins "max" = some (.builtin "max"):=by first | rfl | decide +kernel | kernel_rfl
theorem XJ:bootBuiltins "min" = some (.builtin "min"):=by first | rfl | decide +kernel | kernel_rfl
theorem Pp:bootBuiltins "abs" = some (.builtin "abs"):=by first | rfl | decide +kernel | kernel_rfl
theorem Zhw:bootBuiltins "divmod" = some (.builtin "divmod"):=by first | rfl | decide +kernel | kernel_rfl
theorem Ei:bootBuiltins "int" = some (.type "int"):=by first | rfl | decide +kernel | kernel_rfl
theorem QM:bootBuiltins "bool" = some (.type "bool"):=by first | rfl | decide +kernel | kernel_rfl
theorem JF:bootBuiltins "str" = some (.type "str"):=by first | rfl | decide +kernel | kernel_rfl
theorem ZU:bootBuiltins "list" = some (.type "list"):=by first | rfl | decide +kernel | kernel_rfl
theorem Kn:bootBuiltins "tuple" = some (.type "tuple"):=by first | rfl | decide +kernel | kernel_rfl
theorem Qq:∀ {bs:List Bool} {its:List Value},Vals (bs.map V.bl) its->its=bs.map Value.bool
 | [],_,.nil=>rfl
 | b :: bs,_,.cons r t=>by rw [Qq t]; cases r; rfl
theorem Y4 {bs:List Bool} (f:Nat->Bool) (hf:∀ i b,bs[i]?=some b->f i=b):(List.range bs.length).map f=bs:=by
 apply a4b
 intro i
 rw [aJm]
 by_cases h:i<bs.length
 .rw [aWR h,aJu h]
  simp only [a8y]
  rw [hf i _ (aJu h)]
 .rw [aav (by simpa using h),aav (by lia)]; rfl
theorem Qp (hc:X.calm=true):bF X (.builtin "all") (λxs H Q=>∃ (p:Addr) (bs:List Bool),xs=[.ref p]/\aG X.K H p (bs.map V.bl)/\Q (.bl (bs.all id)) H):=by
 intro pins s σ H xs us Q I r h
 obtain ⟨p,bs,rfl,hq,q⟩:=h
 obtain ⟨u,rfl,rx⟩:=vals1 r
 cases rx
 obtain ⟨its,rv,pl,hz⟩:=I.list hq
 have e:=Qq rv
 subst e
 refine call_all_walk (wpAny_pyIter_list pl.isList ?_)
 refine ⟨s.heap.objs.size,_,[s.heap.objs.size],_,_,_,λi=>bs.getD i true,rfl,Walks.list (A:=X.A.in1) (show X.A.in1.handled=none from I.ok.hd hc) s.heap.objs.size p ?_ (bs.map Value.bool).toArray,⟨⟨_,a3a _ rfl,rfl,rfl⟩,pl.isList.at λo e=>aIi _ e⟩,?_,?_⟩
 .obtain ⟨o,e,_⟩:=pl.isList; exact anq (aSe e)
 .intro i v s' Q' E' hP hQ
  have wF:(bs.map Value.bool)[i]?=some v:=by simpa using hP
  rw [aJm] at wF
  cases z:bs[i]? with
  | none=>rw [z] at wF; cases wF
  | some b =>
   rw [z] at wF
   cases wF
   have:bs.getD i true=b:=by rw [agd,z]; rfl
   have ME:Q' (bs.getD i true) s':=hQ
   rw [this] at ME
   exact aOv ME
 .intro h' tk hk
  refine ⟨.bl (bs.all id),H,I.kept (t':=tk) (λb o e=>hk b o (by simpa using anq (aSe e)) (aIi _ e)),?_,q⟩
  have z:(List.range bs.length).map (λi=>bs.getD i true)=bs:=Y4 _ λi b e=>by rw [agd,e]; rfl
  have z2:(List.range bs.length).all (λi=>bs.getD i true)=bs.all id:=by
   conv=>rhs; rw [← z]
   rw [List.all_map]; rfl
  show Value.bool _=Value.bool _
  have z3:(bs.map Value.bool).toArray.size=bs.length:=by simp
  rw [z3,z2]
theorem VT (lo:Int) (n:Nat):∀ {acc:Array Value},ItemsOf (λi v=>∃ t,v=.int (lo+i * 1) t) acc n->Vals ((List.range n).map λi=>V.int (lo+(i:Nat))) acc.toList:=by
 intro acc h
 obtain ⟨hs,hi⟩:=h
 have gen:∀ (l:List Value) (k:Nat) (xs:List V),xs.length=l.length->(∀ (j:Nat) (v:Value) (x:V),l[j]?=some v->xs[j]?=some x->RelV x v)->Vals xs l:=by
  intro l
  induction l with
  | nil=>intro k xs hl _; cases xs with | nil=>exact .nil | cons _ _=>simp at hl
  | cons u l ih =>
   intro k xs hl hr
   cases xs with
   | nil=>simp at hl
   | cons x xs=>exact .cons (hr 0 u x rfl rfl) (ih k xs (by simpa using hl) λj v y e1 e2=>hr (j+1) v y (by simpa using e1) (by simpa using e2))
 refine gen _ 0 _ (by simp [hs]) λj v x e1 e2=>?_
 have kQ:acc[j]?=some v:=by simpa using e1
 obtain ⟨t,rfl⟩:=hi j v kQ
 have hj:j<n:=by rw [← hs]; exact (Array.getElem?_eq_some_iff.mp kQ).1
 rw [aJm,aWR hj] at e2
 cases e2
 exact ⟨t,by simp⟩
def Y3 (ta:TA):TE:=λσ H Q=>ta σ H λvs H1=>∃ i j:Int,vs=[.int i,.int j]/\(-(2 ^ 62)<=i/\i<2 ^ 62 /\ -(2 ^ 62)<=j/\j<2 ^ 62)/\(j - i).toNat<=sizeLine /\
 ∀ p,H1 p=none->Q (.ref p) (upd H1 p (.lst ((List.range (j - i).toNat).map λk=>V.int (i+(k:Nat)))))
theorem ZgA {a b:PySem.Expr} {ta:TA} {p q pos pos2:Pos} (hc:X.calm=true) (UO:Gl X "list") (hm1:X.mg "list" = none) (hg:Gl X "range") (hm:X.mg "range" = none) (ha:PA X [a,b] ta)
  (hs:starEach [a,b] X.env=[(false,eval a X.env),(false,eval b X.env)]:=by rfl) (hs2:starEach [b] X.env=[(false,eval b X.env)]:=by rfl)
  (Di:starEach [PySem.Expr.Call (.Name "range" p) [a,b] [] pos] X.env=[(false,eval (PySem.Expr.Call (.Name "range" p) [a,b] [] pos) X.env)]:=by rfl) :
  PE X (.Call (.Name "list" q) [.Call (.Name "range" p) [a,b] [] pos] [] pos2) (Y3 ta):=by
 intro pins s σ H Q I h
 refine Call_ (se I UO hm1 ZU (awR (Q:=EP X pins σ Q) ?_ Di rfl))
 rw [Di]
 refine a4Y (Call_ (se I hg hm boot_range (awR (mG (ha pos pins s σ H _ I h) λus s1 vs H1 I1 r1 q1=>?_) (by rw [hs,hs2]) (by rw [hs2]; rfl))))
 obtain ⟨i,j,e,⟨q1,q2,q3,q4⟩,hz,q⟩:=q1
 subst e
 cases r1 with
 | cons r rr =>
  cases rr with
  | cons r' rr =>
   cases rr
   obtain ⟨t,rfl⟩:=r
   obtain ⟨t',rfl⟩:=r'
   refine call_range_2 (a4X ?_)
   have I2:Inv X pins σ H1 { s1 with heap:=s1.heap.push { cls:=.type "range",data:=.fields #[.int i t,.int j t',.int 1 s1.toks] },toks:=s1.toks+1 }:=I1.kept λb o e=>aIi _ e
   have hsz:sizeLine=16777216:=ahk
   refine call_list_range (n:=(j - i).toNat) (I.ok.hd hc) (IsRange.new ..) (small_one q1 q2 q3 q4) (by rw [rangeSize_one]; split <;> lia) (by lia) λh' tk acc' c' hk hS hit=>?_
   refine ⟨.ref _,_,I2.laid (o:=.lst ((List.range (j - i).toNat).map λk=>V.int (i+(k:Nat)))) hk (aDN _) ⟨by simpa using hz,acc'.toList,c',VT i _ hit,by simpa using hS⟩,rfl,q _ (I2.hok.fresh (aDN _))⟩
end
structure Def (P:Program) (w:World) (K:W.Frag) (mg:Str->Option Value) (base:Heap) (x:Str) (k:Nat) (ps:List Str) (sp:Sp):Prop where
 ex:∃ (f:Addr) (fd:FuncData),au P w K mg base aW k f fd ps sp/\mg x=some (.ref f)/\W.keepIn K (.ref f)=true/\Binds K fd ps []
section
variable {X:Cx} {x:Str} {p pos:Pos} {e:PySem.Expr} {es:List PySem.Expr} {t:TA} {k:Nat} {ps:List Str} {sp:Sp}
theorem VS (D:Def X.prog X.w X.K X.mg X.base x k ps sp) (hr:br k X.A) (hg:Gl X x) (ha:PA X (e :: es) t)
  (he:starEach (e :: es) X.env=(false,eval e X.env) :: starEach es X.env:=by rfl) (hpl:(backTo pos (starEach es X.env)).any (·.1)=false:=by rfl) (hd:(x == ("__debug__" : Str))=false:=by decide) :
  PE X (.Call (.Name x p) (e :: es) [] pos) (nC sp [] E0 t):=by
 obtain ⟨f,fd,F,hm,hk,hb⟩:=D.ex
 exact Xr F hr hg hm hk hb .nil n8 ha (hdb:=hd) (he:=he) (hpl:=hpl)
end
theorem mz {X:Cx} {K:W.Frag} {es:List PySem.Expr} {k:Nat} {t:vn} {n:Nat} {pos:Pos} (hK:X.K=K) (hc:X.calm=true) (h:Cd X es t)
  (hn:(assignEach es X.env).length=n:=by rfl) (hst:(assignEach es X.env).findIdx? (·.1)=none:=by rfl):PG X (.Tuple es k pos) (AL K n t):=by
 subst hK
 exact WT hc h hn hst
def qV (gy:Scope) (oN:List Str) (scope:Scope) (N:List Str) (own:Nat) (js:List Nat):Bool :=
 scope.kind == .function && scope.names.all (λy=>y.2 != .cell || scope.names.lookup y.1 == some .cell) && scope.names.all (λy=>y.2 != .local || scope.names.lookup y.1 == some .local) &&
 scope.names.all (λy=>y.2 != .free || (gy.names.lookup y.1 == some .cell || gy.names.lookup y.1 == some .free)) && N.length == own+js.length &&
 (js.map λj=>oN[j]?) == (N.drop own).map some && (N.drop own).all λx=>scope.names.lookup x == some .free
theorem sj {X:Cx} {gy:Scope} {oN:List Str} {scope:Scope} {N:List Str} {own:Nat} {js:List Nat} (h:qV gy oN scope N own js=true) (hs:X.env.scope=gy) (hN:X.N=oN):dI X scope N own js:=by
 unfold qV at h
 simp only [aeR,aQO,Bool.or_eq_true,arV,bne_iff_ne,ne_eq] at h
 obtain ⟨⟨⟨⟨⟨⟨h1,h2⟩,h3⟩,h4⟩,h5⟩,h6⟩,h7⟩:=h
 refine ⟨h1,λy hy hl=>?_,λy hy hl=>?_,λy hy hf=>?_,h5,λk j e=>?_,λk x e=>?_⟩
 .rcases h2 y hy with q | q
  .exact absurd hl q
  .exact q
 .rcases h3 y hy with q | q
  .exact absurd hl q
  .exact q
 .rcases h4 y hy with q | q
  .exact absurd hf q
  .show X.env.scope.names.lookup y.1=_\/X.env.scope.names.lookup y.1=_
   rw [hs]; exact q
 .rw [hN]
  have z:=a5E (λl=>l[k]?) h6
  simp only [aJm,e,a8y,getElem?_drop] at z
  cases q:N[own+k]? with
  | none=>rw [q] at z; cases z
  | some y=>rw [q] at z; exact (a6S z).symm
 .refine h7 x ?_
  exact axK (i:=k) (by rw [getElem?_drop]; exact e)
def SB (b:Addr) (H H':Hp):Prop:=∀ a o,a≠b->H a=some o->H' a=some o
theorem SB.trans {b:Addr} {H H1 H2:Hp} (x:SB b H H1) (y:SB b H1 H2):SB b H H2:=λa o n h=>y a o n (x a o n h)
theorem aB.sb {H H':Hp} (x:aB H H') (b:Addr):SB b H H':=λa o _ h=>x a o h
theorem yv (b:Addr) (H:Hp) (o:HO):SB b H (upd H b o):=λa u n h=>by rw [Zc n]; exact h
theorem Zf {H:Hp} {p:Addr} (h:H p=none) (o:HO):aB H (upd H p o):=λb u q=>by rw [Zc (Zd q h)]; exact q
def kW (n:Nat) (l:Addr) (Pv:Nat->List V->St->Hp->Prop) (i:Nat) (ys:List V) (σ:St) (y:V) (H:Hp):Prop :=
 H l=some (.lst ys)/\ys.length<sizeLine/\∃ m',m'<n - i/\(m'=n - (i+1)/\i+1<=n/\(ys++[y]).length<=i+1/\Pv (i+1) (ys++[y]) σ (upd H l (.lst (ys++[y]))))
def vz (n:Nat) (Pv:Nat->List V->St->Hp->Prop) (i:Nat) (ys:List V) (σ:St) (H:Hp):Prop:=∃ m',m'<n - i/\(m'=n - (i+1)/\i+1<=n/\ys.length<=i+1/\Pv (i+1) ys σ H)
theorem kW.of {n:Nat} {l:Addr} {Pv:Nat->List V->St->Hp->Prop} {i:Nat} {ys:List V} {σ:St} {y:V} {H:Hp} (hn:n<=sizeLine) (hi:i<n) (hy:ys.length<=i) (h1:H l=some (.lst ys)) (h2:Pv (i+1) (ys++[y]) σ (upd H l (.lst (ys++[y])))):kW n l Pv i ys σ y H :=
 ⟨h1,by lia,n - (i+1),by lia,rfl,hi,by rw [aAe,aOg]; lia,h2⟩
theorem vz.of {n:Nat} {Pv:Nat->List V->St->Hp->Prop} {i:Nat} {ys:List V} {σ:St} {H:Hp} (hi:i<n) (hy:ys.length<=i) (h2:Pv (i+1) ys σ H):vz n Pv i ys σ H :=
 ⟨n - (i+1),by lia,rfl,hi,by lia,h2⟩
theorem yI {lo:Int} {n:Nat} {l:Addr} {g:TG} {tc:TT} {te:TE} {σ0:St} {H0:Hp} {Qf:Hp->Prop} (Pv:Nat->List V->St->Hp->Prop) (h0:Pv 0 [] σ0 H0)
  (hs:∀ i ys σ' H',i<n->ys.length<=i->Pv i ys σ' H'->g (.int (lo+i)) σ' H' λσ2 H3=>tc σ2 H3 λb H4=>if b=true then te σ2 H4 λy H5=>kW n l Pv i ys σ2 y H5 else vz n Pv i ys σ2 H4)
  (hd:∀ ys σ' H',ys.length<=n->Pv n ys σ' H'->Qf H') :
  ∃ W:Nat->Nat->List V->St->Hp->Prop,(∃ m,W 0 m [] σ0 H0)/\∀ i m ys σ' H',W i m ys σ' H' ->
  ((ua lo n).stop i H'/\Qf H')\/((ua lo n).go i H'/\∀ x H2,(ua lo n).nA i H' x H2->g x σ' H2 λσ2 H3=>tc σ2 H3 λb H4 =>
    if b=true then te σ2 H4 λy H5=>H5 l=some (.lst ys)/\ys.length<sizeLine/\∃ m',m'<m/\W (i+1) m' (ys++[y]) σ2 (upd H5 l (.lst (ys++[y])))
    else ∃ m',m'<m/\W (i+1) m' ys σ2 H4):=by
 refine ⟨λi m ys σ' H'=>m=n - i/\i<=n/\ys.length<=i/\Pv i ys σ' H',⟨n,rfl,a9k _,aDN _,h0⟩,?_⟩
 rintro i m ys σ' H' ⟨rfl,hi,hy,p⟩
 by_cases hlt:i<n
 .refine .inr ⟨hlt,λx H2 q=>?_⟩
  obtain ⟨rfl,rfl⟩:=q
  exact hs i ys σ' _ hlt hy p
 .have e:i=n:=by lia
  subst e
  exact .inl ⟨aDN _,hd ys σ' H' hy p⟩
theorem QJ {K:W.Frag} {a:Addr} {xs:List V} {l:Addr} {g:TG} {tc:TT} {te:TE} {σ0:St} {H0:Hp} {Qf:Hp->Prop} (Pv:Nat->List V->St->Hp->Prop) (h0:Pv 0 [] σ0 H0)
  (hl:∀ i ys σ' H',i<=xs.length->Pv i ys σ' H'->aG K H' a xs)
  (hs:∀ i x ys σ' H',i<xs.length->xs[i]?=some x->ys.length<=i->Pv i ys σ' H'->g x σ' H' λσ2 H3=>tc σ2 H3 λb H4=>if b=true then te σ2 H4 λy H5=>kW xs.length l Pv i ys σ2 y H5 else vz xs.length Pv i ys σ2 H4)
  (hd:∀ ys σ' H',ys.length<=xs.length->Pv xs.length ys σ' H'->Qf H') :
  ∃ W:Nat->Nat->List V->St->Hp->Prop,(∃ m,W 0 m [] σ0 H0)/\∀ i m ys σ' H',W i m ys σ' H' ->
  ((vt K a).stop i H'/\Qf H')\/((vt K a).go i H'/\∀ x H2,(vt K a).nA i H' x H2->g x σ' H2 λσ2 H3=>tc σ2 H3 λb H4 =>
    if b=true then te σ2 H4 λy H5=>H5 l=some (.lst ys)/\ys.length<sizeLine/\∃ m',m'<m/\W (i+1) m' (ys++[y]) σ2 (upd H5 l (.lst (ys++[y])))
    else ∃ m',m'<m/\W (i+1) m' ys σ2 H4):=by
 refine ⟨λi m ys σ' H'=>m=xs.length - i/\i<=xs.length/\ys.length<=i/\Pv i ys σ' H',⟨xs.length,rfl,a9k _,aDN _,h0⟩,?_⟩
 rintro i m ys σ' H' ⟨rfl,hi,hy,p⟩
 have q:=hl i ys σ' H' hi p
 by_cases hlt:i<xs.length
 .refine .inr ⟨⟨xs,xs[i],q,by simp [hlt]⟩,λx H2 z=>?_⟩
  obtain ⟨rfl,z⟩:=z
  exact hs i x ys σ' _ hlt (z xs q) hy p
 .have e:i=xs.length:=by lia
  subst e
  exact .inl ⟨⟨xs,q,aDN _⟩,hd ys σ' H' hy p⟩
theorem XI {K:W.Frag} {a b:Addr} {xs zs:List V} {l:Addr} {g:TG} {tc:TT} {te:TE} {σ0:St} {H0:Hp} {Qf:Hp->Prop} (hlen:xs.length=zs.length) (Pv:Nat->List V->St->Hp->Prop) (h0:Pv 0 [] σ0 H0)
  (hl:∀ i ys σ' H',i<=xs.length->Pv i ys σ' H'->aG K H' a xs/\aG K H' b zs)
  (hs:∀ i x z t ys σ' H',i<xs.length->xs[i]?=some x->zs[i]?=some z->ys.length<=i->Pv i ys σ' H'->H' t=none->g (.ref t) σ' (upd H' t (.tup [x,z])) λσ2 H3=>tc σ2 H3 λb H4=>if b=true then te σ2 H4 λy H5=>kW xs.length l Pv i ys σ2 y H5 else vz xs.length Pv i ys σ2 H4)
  (hd:∀ ys σ' H',ys.length<=xs.length->Pv xs.length ys σ' H'->Qf H') :
  ∃ W:Nat->Nat->List V->St->Hp->Prop,(∃ m,W 0 m [] σ0 H0)/\∀ i m ys σ' H',W i m ys σ' H' ->
  ((t9 K a b).stop i H'/\Qf H')\/((t9 K a b).go i H'/\∀ x H2,(t9 K a b).nA i H' x H2->g x σ' H2 λσ2 H3=>tc σ2 H3 λb H4 =>
    if b=true then te σ2 H4 λy H5=>H5 l=some (.lst ys)/\ys.length<sizeLine/\∃ m',m'<m/\W (i+1) m' (ys++[y]) σ2 (upd H5 l (.lst (ys++[y])))
    else ∃ m',m'<m/\W (i+1) m' ys σ2 H4):=by
 refine ⟨λi m ys σ' H'=>m=xs.length - i/\i<=xs.length/\ys.length<=i/\Pv i ys σ' H',⟨xs.length,rfl,a9k _,aDN _,h0⟩,?_⟩
 rintro i m ys σ' H' ⟨rfl,hi,hy,p⟩
 have q:=hl i ys σ' H' hi p
 by_cases hlt:i<xs.length
 .have hz:i<zs.length:=by lia
  refine .inr ⟨⟨xs,zs,xs[i],zs[i],q.1,q.2,by simp [hlt],by simp [hz]⟩,λx H2 z=>?_⟩
  obtain ⟨t,u,v,ht,rfl,rfl,z1,z2⟩:=z
  exact hs i u v t ys σ' _ hlt (z1 xs q.1) (z2 zs q.2) hy p ht
 .have e:i=xs.length:=by lia
  subst e
  exact .inl ⟨⟨xs,zs,q.1,q.2,.inl (aDN _)⟩,hd ys σ' H' hy p⟩
theorem XH {K:W.Frag} {a:Addr} {xs:List V} {g:TG} {tb:TS} {D:Ends} {σ:St} {H:Hp} (Pv:Nat->St->Hp->Prop) (h0:Pv 0 σ H) (hl:∀ i σ H,i<=xs.length->Pv i σ H->aG K H a xs)
  (hs:∀ i x t σ H,xs[i]?=some x->Pv i σ H->H t=none->g (.ref t) σ (upd H t (.tup [.int i,x])) λσ2 H2=>tb { D with nx:=Pv (i+1),ct:=Pv (i+1),bk:=D.nx } σ2 H2) (hd:∀ σ H,Pv xs.length σ H->D.nx σ H) :
  ∃ W:Nat->Nat->St->Hp->Prop,(∃ m,W 0 m σ H)/\∀ i m σ H,W i m σ H ->
   ((Cj K a).stop i H/\D.nx σ H)\/((Cj K a).go i H/\∃ N:St->Hp->Prop,(∀ σ' H',N σ' H'->∃ m',m'<m/\W (i+1) m' σ' H')/\∀ x H',(Cj K a).nA i H x H'->g x σ H' λσ2 H2=>tb { D with nx:=N,ct:=N,bk:=D.nx } σ2 H2):=by
 refine ⟨λi m σ H=>m=xs.length - i/\i<=xs.length/\Pv i σ H,⟨xs.length,by simp,a9k _,h0⟩,?_⟩
 rintro i m σ H ⟨rfl,hi,p⟩
 have q:=hl i σ H hi p
 by_cases hlt:i<xs.length
 .refine .inr ⟨⟨xs,xs[i],q,by simp [hlt]⟩,Pv (i+1),λσ' H' p'=>⟨xs.length - (i+1),by lia,rfl,hlt,p'⟩,λx H' y=>?_⟩
  obtain ⟨t,u,ht,rfl,rfl,y⟩:=y
  exact hs i u t σ _ (y xs q) p ht
 .have e:i=xs.length:=by lia
  subst e
  exact .inl ⟨⟨xs,q,rfl⟩,hd σ H p⟩
theorem eS {α:Type} {x:α} {xs:List α}:gc (x :: xs) 0=some x:=pq (j:=0) rfl
theorem iz {α:Type} {x y:α} {xs:List α}:gc (x :: y :: xs) 1=some y:=pq (j:=1) rfl
theorem j5 {α:Type} {x y z:α} {xs:List α}:gc (x :: y :: z :: xs) 2=some z:=pq (j:=2) rfl
theorem rj {p A B:Prop} [Decidable p] (h1:p->A) (h2:¬ p->B):if decide p=true then A else B:=by
 by_cases h:p
 .rw [bb9 (a6t h)]; exact h1 h
 .rw [aYW (by rw [a5c h]; exact aXI)]; exact h2 h
section
variable {X:Cx}
theorem rq {x:Str} {i:Int} {pos:Pos} (h:∃ t,X.mg x=some (.int i t)) (hg:Gl X x) (hd:(x == ("__debug__" : Str))=false:=by decide):PE X (.Name x pos) (tC (.int i)):=by
 obtain ⟨t,e⟩:=h
 exact Pg hg e ⟨t,rfl⟩ hd
end
def NS:PySem.Expr->Prop
 | .Starred _ _=>False
 | _=>True
theorem sf {e:PySem.Expr} {es:List PySem.Expr} {env:Env} (h:NS e):starEach (e :: es) env=(false,eval e env) :: starEach es env:=by
 cases e <;> first | rfl | exact h.elim
def tZ:List PySem.Expr->Prop
 | []=>True
 | e :: es=>NS e/\tZ es
theorem xq {pos:Pos} {env:Env}:∀ {es:List PySem.Expr},tZ es->(backTo pos (starEach es env)).any (·.1)=false
 | [],_=>rfl
 | e :: es,h=>by
  rw [sf h.1]
  have ih:=xq (pos:=pos) (env:=env) h.2
  simp only [backTo] at ih ⊢
  simpa using ih
section
variable {X:Cx} {x:Str} {p pos:Pos} {e:PySem.Expr} {es:List PySem.Expr} {te:TE} {t:TA} {k:Nat} {ps:List Str} {sp:Sp} {id T:String} {r:List V->Hp->VK->Prop}
theorem pc (ha:PE X e te) (hr:PA X es t) (hn:NS e:=by exact True.intro):PA X (e :: es) (uh te t):=Xs ha hr (sf hn)
theorem Zm (D:Def X.prog X.w X.K X.mg X.base x k ps sp) (hr:br k X.A) (hg:Gl X x) (ha:PA X (e :: es) t) (hn:tZ (e :: es):=by repeat' (first | exact True.intro | refine ⟨?_,?_⟩)) (hd:(x == ("__debug__" : Str))=false:=by decide) :
  PE X (.Call (.Name x p) (e :: es) [] pos) (nC sp [] E0 t):=VS D hr hg ha (sf hn.1) (xq hn.2) hd
theorem Zs (hc:bF X (.builtin id) r) (hg:Gl X x) (hm:X.mg x=none) (hv:bootBuiltins x=some (.builtin id)) (ha:PA X (e :: es) t) (hnn:tZ (e :: es):=by repeat' (first | exact True.intro | refine ⟨?_,?_⟩)) (hn:x ≠ "__name__" := by decide) (hdb:(x == ("__debug__" : Str))=false:=by decide) :
  PE X (.Call (.Name x p) (e :: es) [] pos) (CB r t):=XQ hc hg hm hv ha hn hdb (sf hnn.1) (xq hnn.2)
theorem vj (hc:bF X (.type T) r) (hg:Gl X x) (hm:X.mg x=none) (hv:bootBuiltins x=some (.type T)) (ha:PA X (e :: es) t) (hnn:tZ (e :: es):=by repeat' (first | exact True.intro | refine ⟨?_,?_⟩)) (hn:x ≠ "__name__" := by decide) (hdb:(x == ("__debug__" : Str))=false:=by decide) :
  PE X (.Call (.Name x p) (e :: es) [] pos) (CB r t):=YQ hc hg hm hv ha hn hdb (sf hnn.1) (xq hnn.2)
end
theorem Po {K:W.Frag} {a:Addr} {xs:List V} {l:Addr} {g:TG} {tc:TT} {te:TE} {σ0:St} {H0:Hp} {Qf:Hp->Prop} (Pv:Nat->List V->St->Hp->Prop) (h0:Pv 0 [] σ0 H0)
  (hl:∀ i ys σ' H',i<=xs.length->Pv i ys σ' H'->aZ K H' a xs)
  (hs:∀ i x ys σ' H',i<xs.length->xs[i]?=some x->ys.length<=i->Pv i ys σ' H'->g x σ' H' λσ2 H3=>tc σ2 H3 λb H4=>if b=true then te σ2 H4 λy H5=>kW xs.length l Pv i ys σ2 y H5 else vz xs.length Pv i ys σ2 H4)
  (hd:∀ ys σ' H',ys.length<=xs.length->Pv xs.length ys σ' H'->Qf H') :
  ∃ W:Nat->Nat->List V->St->Hp->Prop,(∃ m,W 0 m [] σ0 H0)/\∀ i m ys σ' H',W i m ys σ' H' ->
  ((vq K a).stop i H'/\Qf H')\/((vq K a).go i H'/\∀ x H2,(vq K a).nA i H' x H2->g x σ' H2 λσ2 H3=>tc σ2 H3 λb H4 =>
    if b=true then te σ2 H4 λy H5=>H5 l=some (.lst ys)/\ys.length<sizeLine/\∃ m',m'<m/\W (i+1) m' (ys++[y]) σ2 (upd H5 l (.lst (ys++[y])))
    else ∃ m',m'<m/\W (i+1) m' ys σ2 H4):=by
 refine ⟨λi m ys σ' H'=>m=xs.length - i/\i<=xs.length/\ys.length<=i/\Pv i ys σ' H',⟨xs.length,rfl,a9k _,aDN _,h0⟩,?_⟩
 rintro i m ys σ' H' ⟨rfl,hi,hy,p⟩
 have q:=hl i ys σ' H' hi p
 by_cases hlt:i<xs.length
 .refine .inr ⟨⟨xs,xs[i],q,by simp [hlt]⟩,λx H2 z=>?_⟩
  obtain ⟨rfl,z⟩:=z
  exact hs i x ys σ' _ hlt (z xs q) hy p
 .have e:i=xs.length:=by lia
  subst e
  exact .inl ⟨⟨xs,q,aDN _⟩,hd ys σ' H' hy p⟩
section
variable {X:Cx} {K:W.Frag}
theorem Zo (hK:X.K=K):Ci X (zA K):=hK ▸ Xl
theorem m7 (hK:X.K=K):Ci X (zy K):=hK ▸ VY
theorem Pn (hK:X.K=K):Lm X (zw K):=hK ▸ WS
theorem QV (hK:X.K=K):jI X (compareOp .NotIn) (LK K true):=hK ▸ Zgr
theorem ZI (hK:X.K=K):bF X (.builtin "len") (λxs H Q=>∃ p ys,xs=[.ref p]/\(aG K H p ys\/aZ K H p ys)/\Q (.int ys.length) H):=hK ▸ Zgs
theorem Eu (hK:X.K=K):bF X (.type "list") (λxs H Q=>∃ p ys,xs=[.ref p]/\(aG K H p ys\/aZ K H p ys)/\∀ l,H l=none->Q (.ref l) (upd H l (.lst ys))):=hK ▸ Zgt
theorem ZeX (hK:X.K=K):bF X (.type "tuple") (λxs H Q=>∃ p ys,xs=[.ref p]/\((aG K H p ys/\∀ l,H l=none->Q (.ref l) (upd H l (.tup ys)))\/(aZ K H p ys/\Q (.ref p) H))):=hK ▸ Zfv
end
end L2
namespace HT
open PySem PyProof.Rows
section
open PySem.SeqAt
open PySem.AutoSeq1 (wpAny_loadPart')
open PySem.MeetsSeq PySem.MeetsSeq2 PySem.MeetsSeq3
end
end HT
namespace L2
open PySem PySem.Spec PyProof.Rows
theorem NG {h:Heap} {a:Addr} {us:Array Value} (x:IsTup h a us):a<h.objs.size:=by
 obtain ⟨o,ho,_⟩:=x
 exact aSe ho
section
variable {X:Cx}
def WO:V->List V->Hp->VK->Prop:=λx vs H Q=>∃ (l:Addr) (ns:List Int) (k:Int),x=.ref l/\vs=[.int k]/\H l=some (.lst (ns.map V.int))/\k∈ns/\Q .aR (upd H l (.lst ((ns.erase k).map V.int)))
theorem Pk (k:Int):∀ (ns:List Int),k∈ns->∃ j,ns[j]?=some k/\(∀ m z,m<j->ns[m]?=some z->z≠k)/\ns.erase k=ns.eraseIdx j
 | [],h=>nomatch h
 | x :: ns,h=>by
  by_cases hx:x=k
  .subst hx
   exact ⟨0,rfl,λm z hm=>absurd hm (Nat.not_lt_zero _),by rw [a7i,List.eraseIdx_cons_zero]⟩
  .have hm:k∈ns:=by
    rcases awk.mp h with e | e
    .exact absurd e.symm hx
    .exact e
   obtain ⟨j,h1,h2,h3⟩:=Pk k ns hm
   refine ⟨j+1,by simpa using h1,λm z hm hz=>?_,?_⟩
   .cases m with
    | zero =>
     have e:x=z:=by simpa using hz
     rw [← e]; exact hx
    | succ m=>exact h2 m z (by lia) (by simpa using hz)
   .rw [List.erase_cons_tail (by simpa using hx),h3,aRC]
theorem ZjA {xs:List V} {us:List Value}:∀ (j:Nat),Vals xs us->Vals (xs.eraseIdx j) (us.eraseIdx j):=by
 intro j r
 induction r generalizing j with
 | nil=>exact .nil
 | cons h t ih =>
  cases j with
  | zero=>exact t
  | succ j=>exact .cons h (ih j)
theorem QI:Q6 X "list.remove" WO:=by
 intro pins s σ H x vs v us Q I rx rv h
 obtain ⟨l,ns,k,rfl,rfl,hH,hk,q⟩:=h
 cases rx
 obtain ⟨u,rfl,ru⟩:=rv.one
 obtain ⟨tk,rfl⟩:=ru
 obtain ⟨z,its,n,r,hl,e⟩:=I.mR hH
 rw [aUH] at hl z
 obtain ⟨j,h1,h2,h3⟩:=Pk k ns hk
 have get:∀ (m:Nat) (hm:m<its.toArray.size),∃ (i:Int) (t:Tok),ns[m]?=some i/\its.toArray[m]=.int i t:=λm hm=>by
  have hm':m<ns.length:=by rw [hl]; simpa using hm
  obtain ⟨w,hw,rw'⟩:=r.get (i:=m) (x:=.int ns[m]) (by rw [aJm,aJu hm']; rfl)
  obtain ⟨t,rfl⟩:=rw'
  refine ⟨ns[m],t,aJu hm',?_⟩
  have:its[m]?=some its[m]:=aJu (by simpa using hm)
  rw [hw] at this
  simpa using (a6S this).symm
 have hj:j<its.toArray.size:=by
  have:=(aK1.mp h1).1
  rw [hl] at this; simpa using this
 refine call_meets F.slot_list_remove ⟨_,e,rfl⟩ F.entry_list_remove (F.args_list_remove_2 _ _) (MeetsSeq.list_remove l its.toArray n (.int k tk) (λy=>match y with | .int i _=>i == k | _=>false) (λy hy=>?_) j hj ?_ (λm hm UK=>?_) (by rw [ahz,← hl]; exact z)) ⟨e,?_⟩
 .obtain ⟨m,hm,rfl⟩:=Array.getElem_of_mem hy
  obtain ⟨i,t,_,e2⟩:=get m hm
  rw [e2]
  exact MeetsSeq.EqGives.int i k t tk
 .obtain ⟨i,t,e1,e2⟩:=get j hj
  rw [h1] at e1; cases e1
  rw [e2]
  simp
 .obtain ⟨i,t,e1,e2⟩:=get m hm
  rw [e2]
  simpa using h2 m i UK e1
 .refine ⟨.aR,_,I.qC (its':=its.eraseIdx j) (ys:=(ns.erase k).map V.int) hH e ?_ ?_ ?_,rfl,q⟩
  .rw [List.eraseIdxIfInBounds_toArray]
  .rw [h3]
   have em:∀ (xs:List Int) (i:Nat),(xs.eraseIdx i).map V.int=(xs.map V.int).eraseIdx i:=λxs=>by
    induction xs with
    | nil=>intro i; rfl
    | cons y xs ih=>intro i; cases i with
     | zero=>rfl
     | succ i=>rw [aRC,aSD,aSD,aRC,ih]
   rw [em]
   exact ZjA j r
  .rw [aUH]
   exact auj List.length_erase_le z
end
section
variable {κ:Type} [DecidableEq κ]
def aN (kvs:List (κ×V)) (k:κ):Option V:=(kvs.find? λkv=>decide (kv.1=k)).map (·.2)
def putK (kvs:List (κ×V)) (k:κ) (v:V):List (κ×V) :=
 if (kvs.any λkv=>decide (kv.1=k))=true then kvs.map (λkv=>if kv.1=k then (kv.1,v) else kv) else kvs++[(k,v)]
def aV (kvs:List (κ×V)) (k:κ):List (κ×V):=kvs.filter λkv=>decide (kv.1≠k)
theorem ZP {p:κ×V} {r:List (κ×V)} {k:κ} (e:p.1=k):aN (p :: r) k=some p.2:=by simp [aN,a5w,e]
theorem ZJ {p:κ×V} {r:List (κ×V)} {k:κ} (e:¬ p.1=k):aN (p :: r) k=aN r k:=by simp [aN,a5w,e]
theorem BJ (k:κ):∀ kvs:List (κ×V),(kvs.any λkv=>decide (kv.1=k))=(aN kvs k).isSome
 | []=>rfl
 | p :: r=>by
  rw [any_cons]
  by_cases e:p.1=k
  .simp only [ZP e,a6t e,Bool.true_or,Option.isSome_some]
  .rw [ZJ e,a5c e,Bool.false_or]; exact BJ k r
theorem Pj (k j:κ) (y:V):∀ kvs:List (κ×V),aN (kvs.map λkv=>if kv.1=k then (kv.1,y) else kv) j=(aN kvs j).map λx=>if j=k then y else x
 | []=>rfl
 | p :: r=>by
  have ih:=Pj k j y r
  rw [aSD]
  by_cases h:p.1=k
  .rw [bb9 h]
   by_cases e:p.1=j
   .rw [ZP (p:=(p.1,y)) e,ZP e,a8y,bb9 (e.symm.trans h)]
   .rw [ZJ (p:=(p.1,y)) e,ZJ e,ih]
  .rw [aYW h]
   by_cases e:p.1=j
   .rw [ZP (p:=p) e,ZP e,a8y,aYW (λz=>h (e.trans z))]
   .rw [ZJ (p:=p) e,ZJ e,ih]
theorem QH (k j:κ) (y:V):∀ kvs:List (κ×V),aN kvs k=none->aN (kvs++[(k,y)]) j=if j=k then some y else aN kvs j
 | [],_=>by
  by_cases e:k=j
  .rw [bb9 e.symm]; exact ZP (p:=(k,y)) e
  .rw [aYW (λz=>e z.symm)]; exact ZJ (p:=(k,y)) e
 | p :: r,hn=>by
  rw [List.cons_append]
  have hk:¬ p.1=k:=λz=>by rw [ZP z] at hn; cases hn
  rw [ZJ hk] at hn
  have ih:=QH k j y r hn
  by_cases e:p.1=j
  .rw [ZP e,ZP e,aYW (λz=>hk (e.trans z))]
  .rw [ZJ e,ZJ e,ih]
theorem yG (kvs:List (κ×V)) (k j:κ) (y:V):aN (putK kvs k y) j=if j=k then some y else aN kvs j:=by
 unfold putK
 by_cases a:(kvs.any λkv=>decide (kv.1=k))=true
 .rw [bb9 a,Pj]
  rw [BJ] at a
  by_cases e:j=k
  .obtain ⟨x,hx⟩:=Option.isSome_iff_exists.mp a
   rw [bb9 e,e,hx,a8y,bb9 rfl]
  .rw [aYW e]
   cases aN kvs j with
   | none=>rfl
   | some x=>rw [a8y,aYW e]
 .rw [aYW a]
  refine QH k j y kvs ?_
  rw [BJ] at a
  cases q:aN kvs k with
  | none=>rfl
  | some x=>rw [q] at a; exact (a rfl).elim
theorem BQ (kvs:List (κ×V)) (k:κ) (v:V):(putK kvs k v).length<=kvs.length+1:=by
 unfold putK
 split
 .rw [aUH]; lia
 .rw [aAe,a23,List.length_nil]; lia
theorem dS.iL {o:Option V} {u:Option Value} (r:dS o u):o.isSome=u.isSome:=by
 cases o with
 | none=>cases u with
  | none=>rfl
  | some _=>exact (show False from r).elim
 | some _=>cases u with
  | none=>exact (show False from r).elim
  | some _=>rfl
theorem dS.getD {o:Option V} {u:Option Value} {d:V} {d':Value} (r:dS o u) (rd:RelV d d'):RelV (o.getD d) (u.getD d'):=by
 cases o with
 | none=>cases u with
  | none=>exact rd
  | some _=>exact (show False from r).elim
 | some _=>cases u with
  | none=>exact (show False from r).elim
  | some _=>exact r
theorem KV.val {kvs:List (κ×V)} {vs:List (κ×Value)} (r:KV kvs vs) (k:κ):dS (aN kvs k) (valueAt vs k):=by
 unfold KV at r
 induction r with
 | nil=>exact True.intro
 | @cons p q ps qs h t ih =>
  obtain ⟨h1,h2⟩:=h
  by_cases e:p.1=k
  .have e':q.1=k:=h1.symm.trans e
   have b:valueAt (q :: qs) k=some q.2:=by simp [valueAt,a5w,e']
   rw [ZP e,b]; exact h2
  .have e':¬ q.1=k:=λz=>e (h1.trans z)
   have b:valueAt (q :: qs) k=valueAt qs k:=by simp [valueAt,a5w,e']
   rw [ZJ e,b]; exact ih
theorem KV.any {kvs:List (κ×V)} {vs:List (κ×Value)} (r:KV kvs vs) (k:κ):(kvs.any λkv=>decide (kv.1=k))=vs.any λkv=>decide (kv.1=k):=by
 unfold KV at r
 induction r with
 | nil=>rfl
 | cons h t ih=>rw [any_cons,any_cons,ih,h.1]
theorem KV.repl {kvs:List (κ×V)} {vs:List (κ×Value)} (r:KV kvs vs) (k:κ) {y:V} {u:Value} (ry:RelV y u) :
  KV (kvs.map λkv=>if kv.1=k then (kv.1,y) else kv) (vs.map λkv=>if kv.1=k then (kv.1,u) else kv):=by
 unfold KV at r ⊢
 induction r with
 | nil=>exact .nil
 | @cons p q ps qs h t ih =>
  rw [aSD,aSD]
  refine .cons ?_ ih
  obtain ⟨h1,h2⟩:=h
  by_cases e:p.1=k
  .rw [bb9 e,bb9 (h1.symm.trans e)]; exact ⟨h1,ry⟩
  .rw [aYW e,aYW (λz=>e (h1.trans z))]; exact ⟨h1,h2⟩
theorem KV.put {kvs:List (κ×V)} {vs:List (κ×Value)} (r:KV kvs vs) (k:κ) {y:V} {u:Value} (ry:RelV y u):KV (putK kvs k y) (stored vs k u):=by
 unfold putK stored
 rw [r.any k]
 by_cases e:(vs.any λkv=>decide (kv.1=k))=true
 .rw [bb9 e,bb9 e]; exact r.repl k ry
 .rw [aYW e,aYW e]; exact Paired.snoc r ⟨rfl,ry⟩
theorem KV.drop {kvs:List (κ×V)} {vs:List (κ×Value)} (r:KV kvs vs) (k:κ):KV (aV kvs k) (without vs k):=by
 unfold KV at r ⊢
 unfold aV without
 induction r with
 | nil=>exact .nil
 | @cons p q ps qs h t ih =>
  obtain ⟨h1,h2⟩:=h
  rw [aTy,aTy]
  by_cases e:p.1=k
  .have a:¬ decide (p.1≠k)=true:=by simp [e]
   have b:¬ decide (q.1≠k)=true:=by simp [h1.symm.trans e]
   rw [aYW a,aYW b]; exact ih
  .have e':¬ q.1=k:=λz=>e (h1.trans z)
   have a:decide (p.1≠k)=true:=by simp [e]
   have b:decide (q.1≠k)=true:=by simp [e']
   rw [bb9 a,bb9 b]; exact .cons ⟨h1,h2⟩ ih
theorem KV.length {kvs:List (κ×V)} {vs:List (κ×Value)} (r:KV kvs vs):kvs.length=vs.length:=aMl r
theorem XG (kvs:List (κ×V)) (k:κ):(aV kvs k).length<=kvs.length:=aaN _ _
end
theorem jG {P:Program} {w:World} {k:Key} {u:Value} (r:RelV (kV k) u):(Zv P w).is k u=true:=by
 cases k with
 | inl i=>obtain ⟨t,e⟩:=(show ∃ t,u=Value.int i t from r); subst e; exact Zhn P w i t
 | inr x=>obtain ⟨t,e⟩:=(show ∃ t,u=Value.str x t from r); subst e; exact Zho P w x t
theorem QG {P:Program} {w:World}:∀ {ks:List Key} {us:List Value},Vals (ks.map kV) us->ItemsAre (Zv P w) ks us
 | [],_,r=>by rw [map_nil] at r; cases r; exact .nil
 | k :: ks,_,r=>by
  rw [aSD] at r
  cases r with
  | cons h t=>exact .cons (jG h) (QG t)
abbrev KT (H:Hp):List (List Key×V)->List (List Key×Addr×Value)->Prop:=Paired λp q=>p.1=q.1/\H q.2.1=some (.tup (p.1.map kV))/\RelV p.2 q.2.2
theorem KT.val {H:Hp} {kvs:List (List Key×V)} {xs:List (List Key×Addr×Value)} (r:KT H kvs xs) (k:List Key):dS (aN kvs k) ((atKey xs k).map (·.2)):=by
 induction r with
 | nil=>exact True.intro
 | @cons p q ps qs h t ih =>
  obtain ⟨h1,_,h2⟩:=h
  by_cases e:p.1=k
  .have e':q.1=k:=h1.symm.trans e
   have b:atKey (q :: qs) k=some q.2:=by simp [atKey,a5w,e']
   rw [ZP e,b]; exact h2
  .have e':¬ q.1=k:=λz=>e (h1.trans z)
   have b:atKey (q :: qs) k=atKey qs k:=by simp [atKey,a5w,e']
   rw [ZJ e,b]; exact ih
theorem KT.repl {H:Hp} {kvs:List (List Key×V)} {xs:List (List Key×Addr×Value)} (r:KT H kvs xs) (k:List Key) {y:V} {u:Value} (ry:RelV y u) :
  KT H (kvs.map λkv=>if kv.1=k then (kv.1,y) else kv) (xs.map (putAt k u)):=by
 induction r with
 | nil=>exact .nil
 | @cons p q ps qs h t ih =>
  rw [aSD,aSD]
  refine .cons ?_ ih
  obtain ⟨h1,h2,h3⟩:=h
  unfold putAt
  by_cases e:p.1=k
  .rw [bb9 e,bb9 (h1.symm.trans e)]; exact ⟨h1,h2,ry⟩
  .rw [aYW e,aYW (λz=>e (h1.trans z))]; exact ⟨h1,h2,h3⟩
theorem KT.put {H:Hp} {kvs:List (List Key×V)} {xs:List (List Key×Addr×Value)} (r:KT H kvs xs) (k:List Key) {b:Addr} {y:V} {u:Value} (hb:H b=some (.tup (k.map kV))) (ry:RelV y u) :
  KT H (putK kvs k y) (storedH xs k b u):=by
 have e:(kvs.any λkv=>decide (kv.1=k))=(atKey xs k).isSome:=by
  rw [BJ,(r.val k).iL,Option.isSome_map]
 unfold putK storedH
 rw [e]
 by_cases q:(atKey xs k).isSome=true
 .rw [bb9 q,bb9 q]; exact r.repl k ry
 .rw [aYW q,aYW q]; exact Paired.snoc r ⟨rfl,hb,ry⟩
theorem KT.keeps {H H':Hp} {kvs:List (List Key×V)} {xs:List (List Key×Addr×Value)} (r:KT H kvs xs) (ht:∀ b ys,H b=some (.tup ys)->H' b=some (.tup ys)):KT H' kvs xs :=
 Paired.wc r λ_ _ z=>⟨z.1,ht _ _ z.2.1,z.2.2⟩
section
variable {P:Program} {w:World} {H:Hp} {h:Heap} {a:Addr}
theorem uz {u:HO} (ok:fC P w H h) (e:Rd H a u):aH P w H h a u:=e.ok ok
theorem ko {kvs:List (Key×V)} (ok:fC P w H h) (e:Rd H a (.dK kvs)):kvs.length<=sizeLine/\(a == sysModules)=false/\∃ vs,KV kvs vs/\h.DictOf (Zv P w) a vs :=
 show aH P w H h a (.dK kvs) from uz ok e
theorem qU {kvs:List (Key×V)} (ok:fC P w H h) (e:H a=some (.dK kvs)):kvs.length<=sizeLine/\(a == sysModules)=false/\∃ vs,KV kvs vs/\h.DictOf (Zv P w) a vs:=ko ok (.inl e)
theorem Br {ks:List Key} (ok:fC P w H h) (e:H a=some (.tup (ks.map kV))):(tupleKind (Zv P w)).is h ks a:=by
 obtain ⟨_,its,r,o,h1,h2,n,h3⟩:=(show aH P w H h a (.tup (ks.map kV)) from ok a _ e)
 exact ⟨o,its.toArray,n,h1,h2,h3,by simpa using QG r⟩
theorem kj {kvs:List (List Key×V)} (ok:fC P w H h) (e:Rd H a (.dT kvs)):kvs.length<=sizeLine/\(a == sysModules)=false /\
  ∃ xs,KT H kvs xs/\h.DictOfH (tupleKind (Zv P w)) a xs:=by
 obtain ⟨z,y,xs,r,o,es,ep,h1,h2,h3,h4,h5⟩:=(show aH P w H h a (.dT kvs) from uz ok e)
 refine ⟨z,y,xs,r,o,es,ep,h1,h2,h3,h4,λx hx=>?_,h5⟩
 have all:∀ {l:List (List Key×V)} {m:List (List Key×Addr×Value)},KT H l m->∀ x∈m,(tupleKind (Zv P w)).is h x.1 x.2.1:=by
  intro l m q
  induction q with
  | nil=>intro x hx; exact nomatch hx
  | @cons p q ps qs hq t ih =>
   intro x hx
   rcases awk.mp hx with e | hx
   .subst e
    exact Br ok (by rw [← hq.1]; exact hq.2.1)
   .exact ih x hx
 exact all r x hx
theorem A3 {kvs:List (List Key×V)} (ok:fC P w H h) (e:H a=some (.dT kvs)):kvs.length<=sizeLine/\(a == sysModules)=false /\
  ∃ xs,KT H kvs xs/\h.DictOfH (tupleKind (Zv P w)) a xs:=kj ok (.inl e)
end
def eu (H:Hp) (a:Addr) (y:V) (r:Option V):Prop :=
 (∃ kvs k,Rd H a (.dK kvs)/\y=kV k/\r=aN kvs k)\/∃ kvs k b,Rd H a (.dT kvs)/\y=.ref b/\H b=some (.tup (k.map kV))/\r=aN kvs k
def jO (H:Hp) (a:Addr) (y v:V) (H':Hp):Prop :=
 (∃ kvs k,H a=some (.dK kvs)/\y=kV k/\kvs.length<sizeLine/\H'=upd H a (.dK (putK kvs k v))) \/
 ∃ kvs k b,H a=some (.dT kvs)/\y=.ref b/\H b=some (.tup (k.map kV))/\kvs.length<sizeLine/\H'=upd H a (.dT (putK kvs k v))
theorem eu.k {H:Hp} {a:Addr} {kvs:List (Key×V)} {k:Key} (e:H a=some (.dK kvs)):eu H a (kV k) (aN kvs k):=.inl ⟨kvs,k,.inl e,rfl,rfl⟩
theorem jO.k {H:Hp} {a:Addr} {kvs:List (Key×V)} {k:Key} {v:V} (e:H a=some (.dK kvs)) (hl:kvs.length<sizeLine):jO H a (kV k) v (upd H a (.dK (putK kvs k v))):=.inl ⟨kvs,k,e,rfl,hl,rfl⟩
section
variable {X:Cx} {pins:List (Addr×Obj)} {σ:St} {H:Hp} {s:Shared} {a:Addr} {y v:V} {u r:Value} {o:Option V} {A:Around} {E:Value->Shared->Prop}
theorem Inv.big (I:Inv X pins σ H s):sysModules<s.heap.objs.size:=by
 have h:mainGlobals<s.heap.objs.size:=(I.mod.glob.keeps I.bk).lt
 exact aEc (by decide) h
theorem QF {Q:Value->Shared->Prop} (hu:A.units+1<cLine) (I:Inv X pins σ H s) (g:eu H a y (some v)) (ry:RelV y u) (h:∀ w' s',Inv X pins σ H s'->RelV v w'->Q w' s') :
  wpAny (model X.prog X.w) A (getItem (.ref a) u) Q E s:=by
 rcases g with ⟨kvs,k,e,ey,l⟩ | ⟨kvs,k,b,e,ey,eb,l⟩
 .subst ey
  obtain ⟨z,hd,vs,rel,dd⟩:=ko I.hok e
  obtain ⟨w',hw,rw'⟩:=dS.some_of (v:=v) (o:=valueAt vs k) (by rw [l]; exact rel.val k)
  exact wpAny_getItem_of (jG ry) dd.mapOf hw (h w' _ (I.tok _) rw')
 .subst ey
  cases (show u=Value.ref b from ry)
  obtain ⟨z,hd,xs,rel,dd⟩:=kj I.hok e
  obtain ⟨w',hw,rw'⟩:=dS.some_of (v:=v) (o:=(atKey xs k).map (·.2)) (by rw [l]; exact rel.val k)
  obtain ⟨p,hp,hp2⟩:=Option.map_eq_some_iff.mp hw
  refine wpAny_getItem_heap (aV9 hu) (Br I.hok eb) dd hp ?_
  rw [hp2]
  exact h w' _ (I.tok _) rw'
theorem HB {Q:Value->Shared->Prop} (hu:A.units+1<cLine) (I:Inv X pins σ H s) (g:eu H a y o) (ry:RelV y u) (h:∀ s',Inv X pins σ H s'->Q (.bool o.isSome) s') :
  wpAny (model X.prog X.w) A (compareOp .In u (.ref a)) Q E s:=by
 rcases g with ⟨kvs,k,e,ey,l⟩ | ⟨kvs,k,b,e,ey,eb,l⟩
 .subst ey
  obtain ⟨z,hd,vs,rel,dd⟩:=ko I.hok e
  refine wpAny_in_of (jG ry) hd dd.mapOf ?_
  rw [← (rel.val k).iL,← l]
  exact h _ (I.tok _)
 .subst ey
  cases (show u=Value.ref b from ry)
  obtain ⟨z,hd,xs,rel,dd⟩:=kj I.hok e
  refine wpAny_in_heap (aV9 hu) (Br I.hok eb) hd dd ?_
  have q:=(rel.val k).iL
  rw [Option.isSome_map] at q
  rw [← q,← l]
  exact h _ (I.tok _)
theorem ID {h':Heap} {t':Nat} {ob:HO} (I:Inv X pins σ H s) (mu:Cg (H a)) (hs:Heap.SameBut a s.heap h') (he:∃ q,h'.get? a=some q) (new:aH X.prog X.w (upd H a ob) h' a ob) :
  Inv X pins σ (upd H a ob) { s with heap:=h',toks:=t' } :=
 I.write (x:=a) (e:=a) mu (.inl rfl) (λb q hb z=>(hs.2 b hb).trans z) he new
theorem NF {P:Program} {w:World} {H':Hp} {h':Heap} {kvs:List (Key×V)} {vs:List (Key×Value)} (z:kvs.length<=sizeLine) (hd:(a == sysModules)=false) (rel:KV kvs vs) (dd:h'.DictOf (Zv P w) a vs) :
  aH P w H' h' a (.dK kvs):=⟨z,hd,vs,rel,dd⟩
theorem QE {H':Hp} {Q:Unit->Shared->Prop} (hu:A.units+1<cLine) (I:Inv X pins σ H s) (g:jO H a y v H') (ry:RelV y u) (rv:RelV v r) (h:∀ s',Inv X pins σ H' s'->Q () s') :
  wpAny (model X.prog X.w) A (setItem (.ref a) u r) Q E s:=by
 rcases g with ⟨kvs,k,e,ey,l,eH⟩ | ⟨kvs,k,b,e,ey,eb,l,eH⟩
 .subst ey eH
  obtain ⟨z,hd,vs,rel,dd⟩:=qU I.hok e
  have hz:vs.length<=sizeLine:=by rw [← rel.length]; exact z
  have hl:(putK kvs k v).length<=sizeLine:=by have:=BQ kvs k v; lia
  refine wpAny_setItem_pairs (hsz:=hz) (jG ry) dd λh' wO hs=>h _ ?_
  have he:∃ q,h'.get? a=some q:=let ⟨q,_,_,hq,_⟩:=wO; ⟨q,hq⟩
  exact ID I (by rw [e]; exact True.intro) hs he (NF hl hd (rel.put k rv) wO)
 .subst ey eH
  cases (show u=Value.ref b from ry)
  obtain ⟨z,hd,xs,rel,dd⟩:=A3 I.hok e
  have hz:xs.length<=sizeLine:=by rw [← aMl rel]; exact z
  have hl:(putK kvs k v).length<=sizeLine:=by have:=BQ kvs k v; lia
  refine wpAny_setItem_heap (hsz:=hz) (aV9 hu) (Br I.hok eb) dd λh' wO hs=>h _ ?_
  obtain ⟨q,es,ep,hq,h2,h3,h4,_,h5⟩:=wO
  refine ID I (by rw [e]; exact True.intro) hs ⟨q,hq⟩ ⟨hl,hd,_,(rel.put k eb rv).keeps λc ys ec=>?_,q,es,ep,hq,h2,h3,h4,h5⟩
  rw [Zc (uJ ec e (λz=>nomatch z))]
  exact ec
end
section
variable {X:Cx} {pins:List (Addr×Obj)} {σ:St} {H:Hp} {s:Shared} {a:Addr} {kvs:List (Key×V)} {k:Key} {u:Value} {A:Around} {E:Value->Shared->Prop}
theorem uX {v:V} {more:List Value} {Q:Value->Shared->Prop} (I:Inv X pins σ H s) (e:H a=some (.dK kvs)) (ry:RelV (kV k) u) (l:aN kvs k=some v) (hm:more=[]\/∃ x,more=[x])
  (h:∀ w' s',Inv X pins σ (upd H a (.dK (aV kvs k))) s'->RelV v w'->Q w' s'):wpAny (model X.prog X.w) A (call (.builtin "dict.pop") (.ref a :: u :: more)) Q E s:=by
 obtain ⟨z,hd,vs,rel,dd⟩:=qU I.hok e
 obtain ⟨w',hw,rw'⟩:=dS.some_of (v:=v) (o:=valueAt vs k) (by rw [← l]; exact rel.val k)
 have hp:(keyPart u).isSome=true:=by
  cases k with
  | inl i=>obtain ⟨t,q⟩:=(show ∃ t,u=Value.int i t from ry); subst q; rfl
  | inr x=>obtain ⟨t,q⟩:=(show ∃ t,u=Value.str x t from ry); subst q; rfl
 have ha:argsOk "dict.pop" ⟨.ref a :: u :: more,[]⟩:=by
  rcases hm with q | ⟨x,q⟩
  .subst q; exact PySem.F.args_dict_pop_2 _ _
  .subst q; exact PySem.F.args_dict_pop_3 _ _ _
 refine call_meetsIn awE dd.typeIs PySem.F.entry_dict_pop ha (meets_dict_pop_there (Zv X.prog X.w) a (jG ry) more hm hp)
  ⟨vs,w',dd,by rw [← rel.length]; exact z,hw,λh' wO hs=>h w' _ ?_ rw'⟩
 have he:∃ q,h'.get? a=some q:=let ⟨q,_,_,hq,_⟩:=wO; ⟨q,hq⟩
 exact ID I (by rw [e]; exact True.intro) hs he (NF (auj (XG kvs k) z) hd (rel.drop k) wO)
theorem VR {r:Value} {Q:Value->Shared->Prop} (I:Inv X pins σ H s) (e:H a=some (.dK kvs)) (ry:RelV (kV k) u) (l:aN kvs k=none) (h:∀ s',Inv X pins σ H s'->Q r s') :
  wpAny (model X.prog X.w) A (call (.builtin "dict.pop") [.ref a,u,r]) Q E s:=by
 obtain ⟨z,hd,vs,rel,dd⟩:=qU I.hok e
 have hn:valueAt vs k=none:=dS.none_of (by rw [← l]; exact rel.val k)
 have hp:(keyPart u).isSome=true:=by
  cases k with
  | inl i=>obtain ⟨t,q⟩:=(show ∃ t,u=Value.int i t from ry); subst q; rfl
  | inr x=>obtain ⟨t,q⟩:=(show ∃ t,u=Value.str x t from ry); subst q; rfl
 exact call_meetsIn awE dd.typeIs PySem.F.entry_dict_pop (PySem.F.args_dict_pop_3 _ _ _) (meets_dict_pop_default (Zv X.prog X.w) a (jG ry) hd hp r) ⟨vs,dd,hn,h _ (I.tok _)⟩
end
def Ce (i:Expr):Prop:=∀ ov iv,subscripted i false ov iv=operate [ov,iv] (getItem ov iv)
theorem WN {prog:Program} {w:World} {A:Around} {E:Value->Shared->Prop} {s:Shared} {env:Env} {value slice:Expr} {pos:Pos} {T id:String} {Q:Value->Shared->Prop}
  (hl:typeLookup (.type T) "__getitem__" = pure (some (.builtin id))) (hs:Ce slice)
  (h:wpAny (model prog w) A (eval value env) (λo s₁=>wpAny (model prog w) A (eval slice env) (λi s₂=>s₂.TypeIs o T/\wpAny (model prog w) A (getItem o i) Q E s₂) E s₁) E s) :
  wpAny (model prog w) A (eval (.Subscript value slice pos) env) Q E s:=by
 refine Subscript_ (ayO h (λo s₁ h₁=>ayO h₁ (λi s₂ h₂=>?_) λ_ _ x=>x) λ_ _ x=>x)
 obtain ⟨hT,h₂⟩:=h₂
 unfold subscriptTail
 refine aHI ?_
 rw [getitemInPython_of_ne hT.not_modules]
 refine aHI (wpAny_specialOf hT hl ?_)
 have fin:wpAny (model prog w) A (subscripted slice false o i) (λr s₃=>wpAny (model prog w) A (letTemporaryGo value o r >>= λ_=>pure r) Q E s₃) E s₂:=by
  rw [hs o i]
  exact wpAny_operating (ayO h₂ (λr s₃ h₃=>aHI (wpAny_letTemporaryGo (ag7 h₃))) λ_ _ x=>x)
 first
  | exact ag7 (aHI fin)
  | exact aHI (ag7 (aHI fin))
  | exact aHI fin
theorem Zhy {X:Cx} {pins:List (Addr×Obj)} {σ:St} {H:Hp} {s:Shared} {a:Addr} {y:V} {o:Option V} (I:Inv X pins σ H s) (g:eu H a y o):s.TypeIs (.ref a) "dict" := by
 rcases g with ⟨kvs,k,e,_,_⟩ | ⟨kvs,k,b,e,_,_,_⟩
 .obtain ⟨_,_,vs,_,dd⟩:=ko I.hok e
  exact dd.typeIs
 .obtain ⟨_,_,xs,_,dd⟩:=kj I.hok e
  exact dd.typeIs
def zf (td ty:TE):TE:=λσ H Q=>td σ H λx H1=>ty σ H1 λy H2=>∃ a v,x=.ref a/\eu H2 a y (some v)/\Q v H2
def Fg (ty td:TE):TE:=λσ H Q=>ty σ H λy H1=>td σ H1 λx H2=>∃ a o,x=.ref a/\eu H2 a y o/\Q (.bl o.isSome) H2
def zp (td ty tv:TE):TS:=λD σ H=>tv σ H λv H1=>td σ H1 λx H2=>ty σ H2 λy H3=>∃ a H4,x=.ref a/\jO H3 a y v H4/\D.nx σ H4
def zu (td ty tv:TE) (rd:V->V->Hp->VK->Prop):TS:=λD σ H=>td σ H λx H1=>ty σ H1 λy H2=>∃ a v,x=.ref a/\eu H2 a y (some v) /\
 tv σ H2 λy2 H3=>rd v y2 H3 λz H4=>∃ H5,jO H4 a y z H5/\D.nx σ H5
section
variable {X:Cx} {o i e value:Expr} {pos pos' tpos:Pos} {td ty tv:TE}
theorem BA (hu:X.A.units+1<cLine) (ho:PE X o td) (hi:PE X i ty) (hs:Ce i):PE X (.Subscript o i pos) (zf td ty):=by
 intro pins s σ H Q I h
 refine WN PySem.F.slot_dict_getitem.lookup hs (fY (ho pins s σ H _ I h) λu s1 x H1 I1 rx q1=>b7 (hi pins s1 σ H1 _ I1 q1) λiv s2 ⟨y,H2,I2,ry,a,v,ex,g,q2⟩=>?_)
 subst ex
 obtain rfl:u=Value.ref a:=rx
 exact ⟨Zhy I2 g,QF hu I2 g ry λw' s3 I3 rw'=>⟨v,H2,I3,rw',q2⟩⟩
theorem ND (hu:X.A.units+1<cLine) (hi:PE X i ty) (ho:PE X o td):PC X .In i o (Fg ty td):=by
 intro pins s σ H Q I h
 refine fY (hi pins s σ H _ I h) λiv s1 y H1 I1 ry q1=>b7 (ho pins s1 σ H1 _ I1 q1) λu s2 ⟨x,H2,I2,rx,a,ov,ex,g,q2⟩=>?_
 subst ex
 obtain rfl:u=Value.ref a:=rx
 exact HB hu I2 g ry λs3 I3=>⟨.bl ov.isSome,H2,I3,rfl,q2⟩
theorem By (hu:X.A.units+1<cLine) (ho:PE X o td) (hi:PE X i ty) (hv:PE X value tv) (hs:swapsWith value (some (.Subscript o i pos')) pos.line X.env=pure false) :
  PS X (.Assign [.Subscript o i pos'] value pos) (zp td ty tv):=by
 intro pins s σ H D I h
 refine wpAny_Assign_Subscript (fY (hv pins s σ H _ I h) λr s1 v H1 I1 rv q1=>fY (ho pins s1 σ H1 _ I1 q1) λu s2 x H2 I2 rx q2=>b7 (hi pins s2 σ H2 _ I2 q2) λiv s3 ⟨y,H3,I3,ry,a,H4,ex,g,q3⟩=>?_) hs
 subst ex
 obtain rfl:u=Value.ref a:=rx
 exact QE hu I3 g ry rv λs4 I4=>⟨σ,H4,I4,q3⟩
theorem WM {op:Operator} {rd:V->V->Hp->VK->Prop} (hu:X.A.units+1<cLine) (ho:PE X o td) (hi:PE X i ty) (hv:PE X value tv) (hop:Ck X op rd)
  (ha:∀ ov iv new,augStore i ov iv new=(do holding [new,ov,iv] (setItem ov iv new); release [new,ov,iv] []; pure .next)):PS X (.AugAssign (.Subscript o i tpos) op value pos) (zu td ty tv rd):=by
 intro pins s σ H D I h
 refine wpAny_AugAssign_SubscriptAny (fY (ho pins s σ H _ I h) λu s1 x H1 I1 rx q1=>b7 (hi pins s1 σ H1 _ I1 q1) λiv s2 ⟨y,H2,I2,ry,a,v,ex,g,q2⟩=>?_) ha
 subst ex
 obtain rfl:u=Value.ref a:=rx
 refine QF hu I2 g ry λw' s3 I3 rw'=>fY (hv pins s3 σ H2 _ I3 q2) λw2 s4 y2 H3 I4 S8 q3=>b7 (hop pins s4 σ H3 v y2 w' w2 _ I4 rw' S8 q3) λw3 s5 ⟨z,H4,I5,rz,H5,g5,q4⟩=>?_
 exact QE hu I5 g5 ry rz λs6 I6=>⟨σ,H5,I6,q4⟩
end
theorem XF {P:Program} {w:World} {H:Hp} (h:Heap) (hb:sysModules<h.objs.size):aH P w H (h.push { cls:=.type "dict",data:=.dict #[] }) h.objs.size (.dK []) :=
 ⟨a9k _,aAb.mpr (aI4 (anq hb)),[],.nil,Heap.DictOf.new h⟩
def VQ:TE:=λ_ H Q=>∀ p,H p=none->Q (.ref p) (upd H p (.dK []))
section
variable {X:Cx} {pos:Pos}
theorem yF:PE X (.Dict [] [] pos) VQ:=λpins s σ H Q I h =>
 wpAny_Dict_empty ⟨.ref s.heap.objs.size,_,I.laid (a:=s.heap.objs.size) (o:=.dK []) (t':=s.toks) (λ_ _ q=>aIi _ q) (aDN _) (XF s.heap I.big),rfl,h _ (I.hok.fresh (aDN _))⟩
end
structure M1 (X:Cx) (o:Expr) (m:Str) (apos:Pos) (e:Expr) (cpos:Pos):Prop where
 base:attributeBase o m X.env (eval o X.env)=eval o X.env
 few:((backTo cpos (starEach [e] X.env)).all (λx=>!x.1) && (backToKw cpos (keywordEach [] X.env)).all (λx=>x.1.isSome)
  && decide (([e]:List Expr).length+([]:List Keyword).length+(if ([]:List Keyword).isEmpty then 0 else 1)<30))=true
 line:(apos.endLine == cpos.line)=true
 trees:backTo cpos (starEach [e] X.env)=[(false,eval e X.env)]
structure M2 (X:Cx) (o:Expr) (m:Str) (apos:Pos) (e f:Expr) (cpos:Pos):Prop where
 base:attributeBase o m X.env (eval o X.env)=eval o X.env
 few:((backTo cpos (starEach [e,f] X.env)).all (λx=>!x.1) && (backToKw cpos (keywordEach [] X.env)).all (λx=>x.1.isSome)
  && decide (([e,f]:List Expr).length+([]:List Keyword).length+(if ([]:List Keyword).isEmpty then 0 else 1)<30))=true
 line:(apos.endLine == cpos.line)=true
 trees:backTo cpos (starEach [e,f] X.env)=[(false,eval e X.env),(false,eval f X.env)]
def EE (H:Hp) (a:Addr):Prop:=(∃ kvs,Rd H a (.dK kvs))\/∃ kvs,Rd H a (.dT kvs)
theorem Dy {X:Cx} {pins:List (Addr×Obj)} {σ:St} {H:Hp} {s:Shared} {a:Addr} (I:Inv X pins σ H s) (d:EE H a) :
  s.TypeIs (.ref a) "dict" /\ (∀ b,Value.ref a=.ref b->∃ ob,s.heap.get? b=some ob/\ob.dict=none)/\(a == sysModules)=false:=by
 rcases d with ⟨kvs,e⟩ | ⟨kvs,e⟩
 .obtain ⟨_,hd,vs,_,dd⟩:=ko I.hok e
  refine ⟨dd.typeIs,λb q=>?_,hd⟩
  cases q
  obtain ⟨ob,_,_,h1,h2,_⟩:=dd
  exact ⟨ob,h1,h2.2.1⟩
 .obtain ⟨_,hd,xs,_,dd⟩:=kj I.hok e
  refine ⟨dd.typeIs,λb q=>?_,hd⟩
  cases q
  obtain ⟨ob,_,_,h1,h2,_⟩:=dd
  exact ⟨ob,h1,h2.2.1⟩
section
variable {X:Cx} {pins:List (Addr×Obj)} {σ:St} {H:Hp} {s:Shared} {a:Addr} {y d:V} {u r:Value} {o:Option V} {A:Around} {E:Value->Shared->Prop}
theorem VP {Q:Value->Shared->Prop} (hu:A.units+1<cLine) (I:Inv X pins σ H s) (g:eu H a y o) (ry:RelV y u) (rd:RelV d r) (h:∀ w' s',Inv X pins σ H s'->RelV (o.getD d) w'->Q w' s') :
  wpAny (model X.prog X.w) A (call (.builtin "dict.get") [.ref a,u,r]) Q E s:=by
 rcases g with ⟨kvs,k,e,ey,l⟩ | ⟨kvs,k,b,e,ey,eb,l⟩
 .subst ey
  obtain ⟨z,hd,vs,rel,dd⟩:=ko I.hok e
  refine call_meetsIn al3 dd.typeIs PySem.F.entry_dict_get (PySem.F.args_dict_get_3 _ _ _) (meets_dict_get_default (Zv X.prog X.w) a (jG ry) hd r) ⟨_,dd.mapOf,h _ _ (I.tok _) ?_⟩
  rw [l]
  exact (rel.val k).getD rd
 .subst ey
  cases (show u=Value.ref b from ry)
  obtain ⟨z,hd,xs,rel,dd⟩:=kj I.hok e
  refine call_meetsIn al3 dd.typeIs PySem.F.entry_dict_get (PySem.F.args_dict_get_3 _ _ _) (meetsH_dict_get_default (tupleKind (Zv X.prog X.w)) a b hd r) ⟨aV9 hu,k,xs,Br I.hok eb,dd,h _ _ (I.tok _) ?_⟩
  rw [l]
  exact (rel.val k).getD rd
end
def VO (td ty tx:TE):TE:=λσ H Q=>td σ H λx H1=>∃ a,x=.ref a/\EE H1 a/\ty σ H1 λy H2=>tx σ H2 λz H3=>∃ o,eu H3 a y o/\Q (o.getD z) H3
def VN (td ty:TE):TE:=λσ H Q=>td σ H λx H1=>∃ a,x=.ref a/\EE H1 a/\ty σ H1 λy H2=>∃ kvs k v,H2 a=some (.dK kvs)/\y=kV k/\aN kvs k=some v/\Q v (upd H2 a (.dK (aV kvs k)))
def VM (td ty tx:TE):TE:=λσ H Q=>td σ H λx H1=>∃ a,x=.ref a/\EE H1 a/\ty σ H1 λy H2=>tx σ H2 λz H3=>∃ kvs k,H3 a=some (.dK kvs)/\y=kV k /\
 (∀ v,aN kvs k=some v->Q v (upd H3 a (.dK (aV kvs k))))/\(aN kvs k=none->Q z H3)
section
variable {X:Cx} {o e f:Expr} {apos cpos:Pos} {td ty tx:TE}
theorem Ph (hu:X.A.units+1<cLine) (ho:PE X o td) (he:PE X e ty) (hf:PE X f tx) (m:M2 X o "get" apos e f cpos):PE X (.Call (.Attribute o "get" apos) [e,f] [] cpos) (VO td ty tx):=by
 intro pins s σ H Q I h
 refine wpAny_Call_method m.base m.few m.line abh al3 PySem.F.type_dict_get (b7 (ho pins s σ H _ I h) λu s1 ⟨x,H1,I1,rx,a,ex,d,q1⟩=>?_)
 subst ex
 obtain rfl:u=Value.ref a:=rx
 obtain ⟨t1,t2,_⟩:=Dy I1 d
 refine ⟨t1,t2,?_⟩
 rw [m.trees]
 refine aim rfl (ahG (a4Y (fY (he pins s1 σ H1 _ I1 q1) λiv s2 y H2 I2 ry q2 =>
  a4Y (b7 (hf pins s2 σ H2 _ I2 q2) λfv s3 ⟨z,H3,I3,rz,ov,g,q3⟩=>a4X ?_))))
 exact VP hu I3 g ry rz λw' s4 I4 rw'=>⟨_,H3,I4,rw',q3⟩
theorem Jg (ho:PE X o td) (he:PE X e ty) (m:M1 X o "pop" apos e cpos):PE X (.Call (.Attribute o "pop" apos) [e] [] cpos) (VN td ty):=by
 intro pins s σ H Q I h
 refine wpAny_Call_method m.base m.few m.line abh awE PySem.F.type_dict_pop (b7 (ho pins s σ H _ I h) λu s1 ⟨x,H1,I1,rx,a,ex,d,q1⟩=>?_)
 subst ex
 obtain rfl:u=Value.ref a:=rx
 obtain ⟨t1,t2,_⟩:=Dy I1 d
 refine ⟨t1,t2,?_⟩
 rw [m.trees]
 refine aim rfl (ahG (a4Y (b7 (he pins s1 σ H1 _ I1 q1) λiv s2 ⟨y,H2,I2,ry,kvs,k,v,ea,ey,l,q2⟩=>a4X ?_)))
 subst ey
 exact uX I2 ea ry l (.inl rfl) λw' s3 I3 rw'=>⟨v,_,I3,rw',q2⟩
theorem Qg (ho:PE X o td) (he:PE X e ty) (hf:PE X f tx) (m:M2 X o "pop" apos e f cpos):PE X (.Call (.Attribute o "pop" apos) [e,f] [] cpos) (VM td ty tx):=by
 intro pins s σ H Q I h
 refine wpAny_Call_method m.base m.few m.line abh awE PySem.F.type_dict_pop (b7 (ho pins s σ H _ I h) λu s1 ⟨x,H1,I1,rx,a,ex,d,q1⟩=>?_)
 subst ex
 obtain rfl:u=Value.ref a:=rx
 obtain ⟨t1,t2,_⟩:=Dy I1 d
 refine ⟨t1,t2,?_⟩
 rw [m.trees]
 refine aim rfl (ahG (a4Y (fY (he pins s1 σ H1 _ I1 q1) λiv s2 y H2 I2 ry q2 =>
  a4Y (b7 (hf pins s2 σ H2 _ I2 q2) λfv s3 ⟨z,H3,I3,rz,kvs,k,ea,ey,q3,q4⟩=>a4X ?_))))
 subst ey
 cases l:aN kvs k with
 | some v=>exact uX I3 ea ry l (.inr ⟨fv,rfl⟩) λw' s4 I4 rw'=>⟨v,_,I4,rw',q3 v l⟩
 | none=>exact VR I3 ea ry l λs4 I4=>⟨z,H3,I4,rz,q4 l⟩
end
section
variable {κ:Type} [DecidableEq κ]
theorem yy:∀ {l:List κ} {k:κ},l.Nodup->¬ k∈l->(l++[k]).Nodup
 | [],k,_,_=>by simp
 | a :: r,k,h,hk=>by
  obtain ⟨h1,h2⟩:=a6A.mp h
  show (a :: (r++[k])).Nodup
  refine a6A.mpr ⟨λm=>?_,yy h2 λm=>hk (awk.mpr (Or.inr m))⟩
  rcases ais.mp m with q | q
  .exact h1 q
  .exact hk (awk.mpr (Or.inl (a60.mp q).symm))
theorem YK {p:κ×V} {r:List (κ×V)} {k:κ} (e:p.1=k):aV (p :: r) k=aV r k:=by
 unfold aV
 rw [aTy,aYW (by simp [e])]
theorem YJ {p:κ×V} {r:List (κ×V)} {k:κ} (e:¬ p.1=k):aV (p :: r) k=p :: aV r k:=by
 unfold aV
 rw [aTy,bb9 (by simp [e])]
end
theorem Qe {P:Program} {w:World} {k:Key} {u:Value} (h:(Zv P w).is k u=true):RelV (kV k) u:=by
 rw [Z4] at h
 rcases ZC h with ⟨i,t,rfl,rfl⟩ | ⟨x,t,rfl,rfl⟩
 .exact ⟨t,rfl⟩
 .exact ⟨t,rfl⟩
structure Src (P0:Program) (w0:World) (it l:Addr) (its:Array Value) (pos:Nat->Heap->Prop) (sq:Heap->Prop):Prop where
 item:∀ {A0:Around} {E0:Value->Shared->Prop} {t:Shared} {i:Nat} {x:Value} {Q0:Value->Shared->Prop},pos i t.heap->sq t.heap->its[i]?=some x->(∀ g,pos (i+1) g->Heap.SameBut it t.heap g->Q0 x { t with heap:=g })->wpAny (model P0 w0) A0 (Builtin.SmallTypes.nextOf (.ref it)) Q0 E0 t
 stop:∀ {A0:Around} {E0:Value->Shared->Prop} {t:Shared} {i:Nat} {Q0:Value->Shared->Prop},A0.handled=none->pos i t.heap->sq t.heap->its[i]?=none->(∀ g e,Heap.ExtBut it t.heap g->(∃ o,g.get? e=some o/\o.cls=.type "StopIteration")->E0 (.ref e) { t with heap:=g })->wpAny (model P0 w0) A0 (Builtin.SmallTypes.nextOf (.ref it)) Q0 E0 t
 iZ:∀ {i:Nat} {g g':Heap},pos i g->(∀ o,g.get? it=some o->g'.get? it=some o)->pos i g'
 nJ:∀ {g g':Heap},sq g->(∀ o,g.get? l=some o->g'.get? l=some o)->sq g'
 obj:∀ {i:Nat} {g:Heap},pos i g->∃ o,g.get? it=some o/\∀ v,o.data≠.cell v
section
variable {P0:Program} {w0:World} {A0:Around} {E0:Value->Shared->Prop} {t:Shared}
theorem ZgI {it a:Addr} {i:Nat} {its:Array Value} {x:Value} {Q0:Value->Shared->Prop} (st:t.heap.IsTupleIter it a i) (tp:t.heap.IsTuple a its) (hx:its[i]?=some x)
  (k:∀ g,g.IsTupleIter it a (i+1)->Heap.SameBut it t.heap g->Q0 x { t with heap:=g }):wpAny (model P0 w0) A0 (Builtin.SmallTypes.nextOf (.ref it)) Q0 E0 t:=by
 obtain ⟨oi,gi,ci,di⟩:=id st
 obtain ⟨oa,ga,_,n,da⟩:=tp
 unfold Builtin.SmallTypes.nextOf
 refine aHI (aLB (name:=Str.ofString "__next__") st.typeIs axw (aM9 axw st.typeIs F.entry_tuple_iterator_next ?_ (F.args_tuple_iterator_next_1 _)))
 show wpAny _ _ (field (.ref it) 0 >>= _) _ _ t
 refine aHI (aJW gi di (x:=.ref a) rfl ?_)
 show wpAny _ _ (if (Value.ref a == Value.none)=true then _ else _) _ _ t
 rw [aYW (show ¬ ((Value.ref a == Value.none)=true) from aXI)]
 show wpAny _ _ (field (.ref it) 1 >>= _) _ _ t
 refine aHI (aJW gi di (x:=.int i 0) rfl ?_)
 show wpAny _ _ (seqItems? (.ref a) >>= _) _ _ t
 refine aHI (ae9 ga da ?_)
 simp only [hx,Int.toNat_natCast]
 refine aHI (wpAny_setField gi di (by simp) (ag7 ⟨x,rfl,ag7 (k _ ⟨_,Heap.get?_update_self _ gi (Obj.isFreed_of_fields (Obj.data_mapFields di _)),(Obj.cls_mapFields ..).trans ci,?_⟩ (Heap.SameBut.update ..))⟩))
 rw [Obj.data_mapFields di]
 simp [rawInt]
theorem ZgJ {it a:Addr} {i:Nat} {its:Array Value} {Q0:Value->Shared->Prop} (hA:A0.handled=none) (st:t.heap.IsTupleIter it a i) (tp:t.heap.IsTuple a its) (hx:its[i]?=none)
  (k:∀ g e,Heap.ExtBut it t.heap g->(∃ o,g.get? e=some o/\o.cls=.type "StopIteration")->E0 (.ref e) { t with heap:=g }):wpAny (model P0 w0) A0 (Builtin.SmallTypes.nextOf (.ref it)) Q0 E0 t:=by
 obtain ⟨oi,gi,ci,di⟩:=id st
 obtain ⟨oa,ga,_,n,da⟩:=tp
 unfold Builtin.SmallTypes.nextOf
 refine aHI (aLB (name:=Str.ofString "__next__") st.typeIs axw (aM9 axw st.typeIs F.entry_tuple_iterator_next ?_ (F.args_tuple_iterator_next_1 _)))
 show wpAny _ _ (field (.ref it) 0 >>= _) _ _ t
 refine aHI (aJW gi di (x:=.ref a) rfl ?_)
 show wpAny _ _ (if (Value.ref a == Value.none)=true then _ else _) _ _ t
 rw [aYW (show ¬ ((Value.ref a == Value.none)=true) from aXI)]
 show wpAny _ _ (field (.ref it) 1 >>= _) _ _ t
 refine aHI (aJW gi di (x:=.int i 0) rfl ?_)
 show wpAny _ _ (seqItems? (.ref a) >>= _) _ _ t
 refine aHI (ae9 ga da ?_)
 simp only [hx,Int.toNat_natCast]
 refine aHI (aGu (aHI (wpAny_setField gi di (by simp) ?_)))
 show wpAny _ _ (newExc (.type "StopIteration") [] >>= _) _ _ _
 refine aHI ?_
 simp only [newTuple,newExc]
 refine aHI (aV5 (aHI (m:=firstArgMember _ _) (wpAny_of_eq (a:=Value.none) (by first | rfl | (simp only [firstArgMember]; rfl)) (aV5 ?_ (by size_fits)))) (by size_fits))
 simp only [raiseNew]
 refine aHI (wpAny_handled ?_)
 first | rw [show A0.in1.handled=none from hA] | rw [hA]
 exact aHI (ag7 (wpAny_throw (k _ _ (((Heap.SameBut.update ..).extBut.push _).push _) ⟨_,a3a _ rfl,rfl⟩)))
end
theorem BP {h:Heap} {it l:Addr} {i:Nat} (x:h.IsTupleIter it l i):∃ o,h.get? it=some o/\∀ v,o.data≠.cell v:=by
 obtain ⟨o,e,c,d⟩:=x
 exact ⟨o,e,λv z=>by rw [d] at z; cases z⟩
theorem DT {P0:Program} {w0:World} (it l:Addr) (its:Array Value):Src P0 w0 it l its (λi h=>h.IsTupleIter it l i) (λh=>h.IsTuple l its) where
 item:=λa b c d=>ZgI a b c d
 stop:=λa b c d e=>ZgJ a b c d e
 iZ:=λa b=>a.at b
 nJ:=λa b=>by obtain ⟨o,e,r⟩:=a; exact ⟨o,b o e,r⟩
 obj:=λa=>BP a
section
variable {P0:Program} {w0:World} {A0:Around} {E0:Value->Shared->Prop} {t:Shared} {z TI TO ia ib la lb:Addr} {p1 p2:Nat->Heap->Prop} {q1 q2:Heap->Prop} {xs ys:Array Value}
theorem YI {k:Nat} {x y u v:Value} {Q0:Value->Shared->Prop} (S1:Src P0 w0 ia la xs p1 q1) (S2:Src P0 w0 ib lb ys p2 q2) (D:ZipApart z TI TO ia ib la lb)
  (zz:IsZip t.heap z TI TO .none) (zI:IsPair t.heap TI (.ref ia) (.ref ib)) (zO:IsPair t.heap TO u v) (a1:p1 k t.heap) (a2:p2 k t.heap) (b1:q1 t.heap) (b2:q2 t.heap) (hx:xs[k]?=some x) (hy:ys[k]?=some y)
  (fin:∀ g,IsZip g z TI TO (rawInt t.heap.objs.size)->IsPair g TO x y->p1 (k+1) g->p2 (k+1) g->IsPair g t.heap.objs.size x y->g.objs.size=t.heap.objs.size+1 ->
   (∀ c o,c≠z->c≠TO->c≠ia->c≠ib->t.heap.get? c=some o->g.get? c=some o)->Q0 (.ref t.heap.objs.size) { t with heap:=g }) :
  wpAny (model P0 w0) A0 (Builtin.«zip.__next__» ⟨[.ref z],[]⟩) (λf s'=>∃ v,f=.done (.ret v)/\Q0 v s') E0 t:=by
 show wpAny _ _ (field (.ref z) 2 >>= _) _ _ _
 refine aHI (aJW zz rfl (x:=.bool false) rfl ?_)
 show wpAny _ _ (field (.ref z) 3 >>= _) _ _ _
 refine aHI (aJW zz rfl (x:=.ref TI) rfl (aHI (ae9 zI rfl ?_)))
 show wpAny _ _ (Builtin.SmallTypes.ownedTupleIsFree (.ref z) >>= _) _ _ _
 refine aHI ?_
 unfold Builtin.SmallTypes.ownedTupleIsFree
 refine aHI (aJW zz rfl (x:=.none) rfl (ag7 ?_))
 simp only [aEp]
 refine aHI (aGu (aHI (aJW zz rfl (x:=.ref TO) rfl (aHI (aPC zz (by simp) λg1 z1 c1=>?_)))))
 replace z1:IsZip g1 z TI TO .ellipsis:=z1
 refine aHI ?_
 simp only [ad7,List.forIn_nil,List.zipIdx_cons,List.zipIdx_nil]
 refine aHI (aHI (wpAny_onRaise ?_))
 show wpAny _ _ (Builtin.SmallTypes.nextOf (.ref ia) >>= _) _ _ _
 refine aHI (S1.item (S1.iZ a1 λo e=>c1.extBut _ o D.i1z e) (S1.nJ b1 λo e=>c1.extBut _ o D.l1z e) hx λg2 VC c2=>ag7 ?_)
 have o2:IsPair g2 TO u v:=c2.extBut _ _ D.TOi1 (c1.extBut _ _ D.TOz zO)
 refine aHI (ae9 o2 rfl (aHI (wpAny_updateSeq_pair o2 λg3 o3 c3=>?_)))
 replace o3:IsPair g3 TO x v:=o3
 refine aHI (wpAny_letGo (ag7 ?_))
 refine aHI (aHI (wpAny_onRaise ?_))
 show wpAny _ _ (Builtin.SmallTypes.nextOf (.ref ib) >>= _) _ _ _
 have m3:∀ c o,c≠z->c≠ia->c≠TO->t.heap.get? c=some o->g3.get? c=some o:=λc o n1 n2 n3 e=>c3.extBut _ _ n3 (c2.extBut _ _ n2 (c1.extBut _ _ n1 e))
 refine aHI (S2.item (S2.iZ a2 λo e=>m3 _ o D.i2z D.i12.symm D.TOi2.symm e) (S2.nJ b2 λo e=>m3 _ o D.l2z D.l2i1 D.l2TO e) hy λg4 VA c4=>ag7 ?_)
 have o4:IsPair g4 TO x v:=c4.extBut _ _ D.TOi2 o3
 refine aHI (ae9 o4 rfl (aHI (wpAny_updateSeq_pair o4 λg5 o5 c5=>?_)))
 replace o5:IsPair g5 TO x y:=o5
 refine aHI (wpAny_letGo (ag7 (ag7 ?_)))
 refine aHI (ae9 o5 rfl (aHI (wpAny_newTuple ?_)))
 have sz:g5.objs.size=t.heap.objs.size:=by rw [c5.1,c4.1,c3.1,c2.1,c1.1]
 have m5:∀ c o,c≠z->c≠TO->c≠ia->c≠ib->t.heap.get? c=some o->g5.get? c=some o:=λc o n1 n2 n3 n4 e=>c5.extBut _ _ n2 (c4.extBut _ _ n4 (m3 c o n1 n3 n2 e))
 have z5:IsZip g5 z TI TO .ellipsis:=c5.extBut _ _ D.TOz.symm (c4.extBut _ _ D.i2z.symm (c3.extBut _ _ D.TOz.symm (c2.extBut _ _ D.i1z.symm z1)))
 have VB:p1 (k+1) g5:=S1.iZ VC λo e=>c5.extBut _ o D.TOi1.symm (c4.extBut _ o D.i12 (c3.extBut _ o D.TOi1.symm e))
 have Vz:p2 (k+1) g5:=S2.iZ VA λo e=>c5.extBut _ o D.TOi2.symm e
 have Ls:z<g5.objs.size:=aSe z5
 show wpAny _ _ (Builtin.SmallTypes.ownedTupleHandOut (.ref z) (.ref g5.objs.size) >>= _) _ _ _
 refine aHI ?_
 unfold Builtin.SmallTypes.ownedTupleHandOut
 have z6:IsZip (g5.push { cls:=.type "tuple",data:=.seq #[x,y] }) z TI TO .ellipsis:=aIi _ z5
 refine aHI (aPC z6 (by simp) λg7 z7 c7=>?_)
 replace z7:IsZip g7 z TI TO (rawInt g5.objs.size):=z7
 refine aPC z7 (by simp) λg8 z8 c8=>?_
 replace z8:IsZip g8 z TI TO (rawInt g5.objs.size):=z8
 have m8:∀ c o,c≠z->g5.get? c=some o->g8.get? c=some o:=λc o n1 e=>c8.extBut _ _ n1 (c7.extBut _ _ n1 (aIi _ e))
 have t8:IsPair g8 g5.objs.size x y:=c8.extBut _ _ (aHs Ls) (c7.extBut _ _ (aHs Ls) (a3a _ rfl))
 have s8:g8.objs.size=g5.objs.size+1:=by rw [c8.1,c7.1,a2Z]
 rw [sz] at z8 t8 s8
 refine ag7 ⟨_,rfl,?_⟩
 show Q0 (.ref g5.objs.size) _
 rw [sz]
 exact fin g8 z8 (m8 _ _ D.TOz o5) (S1.iZ VB λo e=>m8 _ o D.i1z e) (S2.iZ Vz λo e=>m8 _ o D.i2z e) t8 s8 λc o n1 n2 n3 n4 e=>m8 c o n1 (m5 c o n1 n2 n3 n4 e)
theorem YH {k:Nat} {u v:Value} {Q0:Fin->Shared->Prop} (hA:A0.handled=none) (S1:Src P0 w0 ia la xs p1 q1) (S2:Src P0 w0 ib lb ys p2 q2) (D:ZipApart z TI TO ia ib la lb)
  (zz:IsZip t.heap z TI TO .none) (zI:IsPair t.heap TI (.ref ia) (.ref ib)) (zO:IsPair t.heap TO u v) (a1:p1 k t.heap) (b1:q1 t.heap) (hx:xs[k]?=none)
  (fin:∀ g e,(∀ c o,c≠z->c≠TO->c≠ia->c≠ib->t.heap.get? c=some o->g.get? c=some o)->(∃ o,g.get? e=some o/\o.cls=.type "StopIteration")->E0 (.ref e) { t with heap:=g }) :
  wpAny (model P0 w0) A0 (Builtin.«zip.__next__» ⟨[.ref z],[]⟩) Q0 E0 t:=by
 show wpAny _ _ (field (.ref z) 2 >>= _) _ _ _
 refine aHI (aJW zz rfl (x:=.bool false) rfl ?_)
 show wpAny _ _ (field (.ref z) 3 >>= _) _ _ _
 refine aHI (aJW zz rfl (x:=.ref TI) rfl (aHI (ae9 zI rfl ?_)))
 show wpAny _ _ (Builtin.SmallTypes.ownedTupleIsFree (.ref z) >>= _) _ _ _
 refine aHI ?_
 unfold Builtin.SmallTypes.ownedTupleIsFree
 refine aHI (aJW zz rfl (x:=.none) rfl (ag7 ?_))
 simp only [aEp]
 refine aHI (aGu (aHI (aJW zz rfl (x:=.ref TO) rfl (aHI (aPC zz (by simp) λg1 z1 c1=>?_)))))
 replace z1:IsZip g1 z TI TO .ellipsis:=z1
 refine aHI ?_
 simp only [ad7,List.forIn_nil,List.zipIdx_cons,List.zipIdx_nil]
 refine aHI (aHI (wpAny_onRaise ?_))
 show wpAny _ _ (Builtin.SmallTypes.nextOf (.ref ia) >>= _) _ _ _
 refine aHI (S1.stop hA (S1.iZ a1 λo e=>c1.extBut _ o D.i1z e) (S1.nJ b1 λo e=>c1.extBut _ o D.l1z e) hx λg2 e c2 he=>?_)
 obtain ⟨oe,Ht,ce⟩:=he
 have z2:IsZip g2 z TI TO .ellipsis:=c2 _ _ D.i1z.symm z1
 have ne:e≠z:=λq=>by rw [q,z2] at Ht; cases Ht; simp at ce
 exact aPC z2 (by simp) λg3 _ c3=>fin g3 e (λc o n1 _ n3 _ q=>c3.extBut _ _ n1 (c2 _ _ n3 (c1.extBut _ _ n1 q))) ⟨oe,c3.extBut _ _ ne Ht,ce⟩
theorem ZgK {k:Nat} {x y u v:Value} {Q0:Option Value->Shared->Prop} (S1:Src P0 w0 ia la xs p1 q1) (S2:Src P0 w0 ib lb ys p2 q2) (D:ZipApart z TI TO ia ib la lb)
  (zz:IsZip t.heap z TI TO .none) (zI:IsPair t.heap TI (.ref ia) (.ref ib)) (zO:IsPair t.heap TO u v) (a1:p1 k t.heap) (a2:p2 k t.heap) (b1:q1 t.heap) (b2:q2 t.heap) (hx:xs[k]?=some x) (hy:ys[k]?=some y)
  (fin:∀ g,IsZip g z TI TO (rawInt t.heap.objs.size)->IsPair g TO x y->p1 (k+1) g->p2 (k+1) g->IsPair g t.heap.objs.size x y->g.objs.size=t.heap.objs.size+1 ->
   (∀ c o,c≠z->c≠TO->c≠ia->c≠ib->t.heap.get? c=some o->g.get? c=some o)->Q0 (some (.ref t.heap.objs.size)) { t with heap:=g }):wpAny (model P0 w0) A0 (pyNext (.ref z)) Q0 E0 t:=by
 have ty:t.TypeIs (.ref z) "zip" := ⟨_,zz,rfl⟩
 unfold pyNext
 exact aHI (wpAny_attempt (aLB (name:=Str.ofString "__next__") ty F.slot_zip_next (aM9 F.slot_zip_next ty F.entry_zip_next (YI S1 S2 D zz zI zO a1 a2 b1 b2 hx hy λg r1 r2 r3 r4 r5 r6 r7=>ag7 (fin g r1 r2 r3 r4 r5 r6 r7)) (F.args_zip_next_1 _))))
theorem ZgL {k:Nat} {u v:Value} {Q0:Option Value->Shared->Prop} (hA:A0.handled=none) (S1:Src P0 w0 ia la xs p1 q1) (S2:Src P0 w0 ib lb ys p2 q2) (D:ZipApart z TI TO ia ib la lb)
  (zz:IsZip t.heap z TI TO .none) (zI:IsPair t.heap TI (.ref ia) (.ref ib)) (zO:IsPair t.heap TO u v) (a1:p1 k t.heap) (b1:q1 t.heap) (hx:xs[k]?=none)
  (fin:∀ g,(∀ c o,c≠z->c≠TO->c≠ia->c≠ib->t.heap.get? c=some o->g.get? c=some o)->Q0 none { t with heap:=g }):wpAny (model P0 w0) A0 (pyNext (.ref z)) Q0 E0 t:=by
 have ty:t.TypeIs (.ref z) "zip" := ⟨_,zz,rfl⟩
 unfold pyNext
 refine aHI (wpAny_attempt (aLB (name:=Str.ofString "__next__") ty F.slot_zip_next (aM9 F.slot_zip_next ty F.entry_zip_next (YH hA S1 S2 D zz zI zO a1 b1 hx λg e kp he=>?_) (F.args_zip_next_1 _))))
 obtain ⟨oe,ge,ce⟩:=he
 exact aHI (wpAny_isInstance (T := "StopIteration") (b:=true) ⟨oe,ge,ce⟩ isSubtype_stop (ag7 (fin _ kp)))
end
abbrev Cs (h:Heap) (a:Addr):Heap:=h.push { cls:=.type "tuple_iterator",data:=.fields #[.ref a,.int 0 0] }
abbrev Cr (h:Heap) (a b:Addr):Heap:=(Cs h a).push { cls:=.type "tuple_iterator",data:=.fields #[.ref b,.int 0 0] }
abbrev Cq (h:Heap) (a b:Addr):Heap:=(Cr h a b).push { cls:=.type "tuple",data:=.seq #[.ref h.objs.size,.ref (Cs h a).objs.size] }
abbrev Cp (h:Heap) (a b:Addr):Heap:=(Cq h a b).push { cls:=.type "tuple",data:=.seq #[.none,.none] }
abbrev xF (h:Heap) (a b:Addr):Heap:=(Cp h a b).push { cls:=.type "zip",data:=.fields #[.none,.bool false,.bool false,.ref (Cr h a b).objs.size,.ref (Cq h a b).objs.size] }
theorem ZjB (a b:Addr) (xs ys:Array Value) :
  Meets (Builtin.«zip.__new__» ⟨[.type "zip",.ref a,.ref b],[]⟩) (λ_ R s=>s.heap.IsTuple a xs/\s.heap.IsTuple b ys/\R (.ok (.ret (.ref (Cp s.heap a b).objs.size))) { s with heap:=xF s.heap a b }) :=
 .of_wp λP0 w0 A0 R t h=>by
  obtain ⟨hp,gn,dr,tk,os⟩:=t
  obtain ⟨ta,tb,h⟩:=h
  have sub:=sub_zip
  have qa:Heap.IsTuple (Shared.heap ⟨hp,gn,dr,tk,os⟩) a xs:=ta
  have qb:Heap.IsTuple (Shared.heap ⟨hp.push { cls:=.type "tuple_iterator",data:=.fields #[.ref a,.int 0 0] },gn,dr,tk,os⟩) b ys:=Heap.IsTuple.push tb _
  wp_walk using wpAny_pyIter_tuple qa,wpAny_pyIter_tuple qb
  exact ⟨_,rfl,h⟩
theorem YG {P0:Program} {w0:World} {A0:Around} {E0:Value->Shared->Prop} {t:Shared} {a b:Addr} {xs ys:Array Value} {Q0:Value->Shared->Prop} (ta:t.heap.IsTuple a xs) (tb:t.heap.IsTuple b ys)
  (h:∀ g,IsZip g (t.heap.objs.size+4) (t.heap.objs.size+2) (t.heap.objs.size+3) .none->IsPair g (t.heap.objs.size+2) (.ref t.heap.objs.size) (.ref (t.heap.objs.size+1))->IsPair g (t.heap.objs.size+3) .none .none ->
   g.IsTupleIter t.heap.objs.size a 0->g.IsTupleIter (t.heap.objs.size+1) b 0->(∀ c o,t.heap.get? c=some o->g.get? c=some o)->Q0 (.ref (t.heap.objs.size+4)) { t with heap:=g }) :
  wpAny (model P0 w0) A0 (call (.type "zip") [.ref a,.ref b]) Q0 E0 t:=by
 refine callType_new F.called_zip (by decide) (F.typeCall_zip_2 _ _) (F.newCall_zip_2 _ _) (λobj=>F.args_object_init_3 obj _ _) F.entry_zip_new (ZjB a b xs ys) ⟨ta,tb,?_⟩
 have n1:(Cs t.heap a).objs.size=t.heap.objs.size+1:=a2Z ..
 have n2:(Cr t.heap a b).objs.size=t.heap.objs.size+2:=by rw [a2Z,n1]
 have n3:(Cq t.heap a b).objs.size=t.heap.objs.size+3:=by rw [a2Z,n2]
 have n4:(Cp t.heap a b).objs.size=t.heap.objs.size+4:=by rw [a2Z,n3]
 have r5:(xF t.heap a b).get? (Cp t.heap a b).objs.size=some _:=a3a _ rfl
 have r4:(xF t.heap a b).get? (Cq t.heap a b).objs.size=some _:=aIi _ (a3a _ rfl)
 have r3:(xF t.heap a b).get? (Cr t.heap a b).objs.size=some _:=aIi _ (aIi _ (a3a _ rfl))
 have r2:(xF t.heap a b).get? (Cs t.heap a).objs.size=some _:=aIi _ (aIi _ (aIi _ (a3a _ rfl)))
 have r1:(xF t.heap a b).get? t.heap.objs.size=some _:=aIi _ (aIi _ (aIi _ (aIi _ (a3a _ rfl))))
 show _/\_
 rw [n2,n3,n4] at r5
 rw [n1,n2] at r3
 rw [n3] at r4
 rw [n1] at r2
 rw [n4]
 refine ⟨⟨_,r5,rfl⟩,h _ r5 r3 r4 ⟨_,r1,rfl,rfl⟩ ⟨_,r2,rfl,rfl⟩ λc o q=>?_⟩
 iterate 5 refine aIi _ ?_
 exact q
def rM (K:W.Frag) (a b:Addr):It :=
 ⟨λi H=>∃ xs ys x y,aZ K H a xs/\aZ K H b ys/\xs[i]?=some x/\ys[i]?=some y,
 λi H v H'=>∃ t x y,H t=none/\v=.ref t/\H'=upd H t (.tup [x,y])/\(∀ xs,aZ K H a xs->xs[i]?=some x)/\∀ ys,aZ K H b ys->ys[i]?=some y,
 λi H=>∃ xs,aZ K H a xs/\(∃ ys,aZ K H b ys)/\xs.length<=i⟩
theorem YF {P:Program} {w:World} {K:W.Frag} {elts:List PySem.Expr} {x1} {pos:Pos} (z TI TO i1 i2 a b:Addr) (D:ZipApart z TI TO i1 i2 a b) :
  Turn P w K (.Tuple elts x1 pos) (rM K a b) [z,TI,TO,i1,i2] z (λi h=>IsZip h z TI TO .none/\IsPair h TI (.ref i1) (.ref i2)/\(∃ u v,IsPair h TO u v)/\h.IsTupleIter i1 a i/\h.IsTupleIter i2 b i) where
 mem:=by simp
 obj:=λi h st c hc=>by
  obtain ⟨hz,hTI,⟨u,v,hTO⟩,h1,h2⟩:=st
  simp only [atw,aha,aqQ] at hc
  rcases hc with rfl | rfl | rfl | rfl | rfl
  .exact ⟨_,hz,λv e=>by cases e⟩
  .exact ⟨_,hTI,λv e=>by cases e⟩
  .exact ⟨_,hTO,λv e=>by cases e⟩
  .exact BP h1
  .exact BP h2
 keep:=λi h h' st k=>by
  obtain ⟨hz,hTI,⟨u,v,hTO⟩,h1,h2⟩:=st
  exact ⟨k z (by simp) _ hz,k TI (by simp) _ hTI,⟨u,v,k TO (by simp) _ hTO⟩,h1.at λo e=>k i1 (by simp) o e,h2.at λo e=>k i2 (by simp) o e⟩
 item:=by
  intro X hP hw hK hc i pins s σ H E I hf st hg
  subst hP hw hK
  obtain ⟨xs,ys,x,y,mV,mU,hx,hy⟩:=hg
  obtain ⟨hz,hTI,⟨u0,v0,hTO⟩,h1,h2⟩:=st
  obtain ⟨jH,ra,pa,za⟩:=I.tuple mV
  obtain ⟨jX,rb,pb,zb⟩:=I.tuple mU
  obtain ⟨ux,hux,Fz⟩:=ra.get hx
  obtain ⟨uy,GU,Fy⟩:=rb.get hy
  refine ZgK (DT i1 a jH.toArray) (DT i2 b jX.toArray) D hz hTI hTO h1 h2 (show s.heap.IsTuple a jH.toArray from pa) (show s.heap.IsTuple b jX.toArray from pb) (x:=ux) (y:=uy) (by simpa using hux) (by simpa using GU) λh' a1 a2 a3 a4 a5 a6 a7=>?_
  refine ⟨.ref s.heap.objs.size,rfl,?_⟩
  refine wpAny_letOwnedTupleGo_zip a1 λh2' hz' hs'=>?_
  have qH:z<s.heap.objs.size:=aSe hz
  have kk:∀ c o,c∉[z,TI,TO,i1,i2]->s.heap.get? c=some o->h2'.get? c=some o:=λc o hc e=>by
   simp only [atw,aha,aqQ,not_or] at hc
   exact hs'.extBut c o hc.1 (a7 c o hc.1 hc.2.2.1 hc.2.2.2.1 hc.2.2.2.2 e)
  have tp:h2'.get? s.heap.objs.size=some { cls:=.type "tuple",data:=.seq #[ux,uy] }:=hs'.extBut _ _ (aHs qH) a5
  have I1:Inv X pins σ (upd H s.heap.objs.size (.tup [x,y])) { s with heap:=h2',toks:=s.toks } :=
   I.mT hf kk ⟨by show 2<=sizeLine; decide,[ux,uy],.cons Fz (.cons Fy .nil),⟨_,tp,rfl,_,rfl⟩⟩
  have Ll:h2'.get? TI=s.heap.get? TI:=by
   rw [hTI]
   exact hs'.extBut _ _ D.TIz (a7 _ _ D.TIz D.TITO D.TIi1 D.TIi2 hTI)
  refine ⟨.ref s.heap.objs.size,_,I1,rfl,⟨s.heap.objs.size,x,y,I.hok.fresh (aDN _),rfl,rfl,λxs' h=>by rw [I.iI h mV]; exact hx,λys' h=>by rw [I.iI h mU]; exact hy⟩,⟨hz',?_,⟨ux,uy,hs'.extBut _ _ D.TOz a2⟩,a3.at λo e=>hs'.extBut _ o D.i1z e,a4.at λo e=>hs'.extBut _ o D.i2z e⟩,λc hc=>?_⟩
  .show h2'.get? TI=_
   rw [Ll]; exact hTI
  .have hc':=hc
   have hlt:c<s.heap.objs.size:=by
    simp only [atw,aha,aqQ] at hc'
    rcases hc' with rfl | rfl | rfl | rfl | rfl
    .exact qH
    .exact aSe hTI
    .exact aSe hTO
    .obtain ⟨o,e,_⟩:=BP h1; exact aSe e
    .obtain ⟨o,e,_⟩:=BP h2; exact aSe e
   rw [Zc (anq hlt)]
   exact (hf c hc).1
 done:=by
  intro X hP hw hK hc i pins s σ H E I hf st hg
  subst hP hw hK
  obtain ⟨xs,mV,⟨ys,mU⟩,hend⟩:=hg
  obtain ⟨hz,hTI,⟨u0,v0,hTO⟩,h1,h2⟩:=st
  obtain ⟨jH,ra,pa,za⟩:=I.tuple mV
  obtain ⟨jX,rb,pb,zb⟩:=I.tuple mU
  have la:=ra.length
  refine ZgL (I.ok.hd hc) (DT i1 a jH.toArray) (DT i2 b jX.toArray) D hz hTI hTO h1 (show s.heap.IsTuple a jH.toArray from pa) (by simp; lia) λh' hk=>⟨rfl,?_⟩
  refine I.jv (t':=s.toks) hf λc o hc e=>?_
  simp only [atw,aha,aqQ,not_or] at hc
  exact hk c o hc.1 hc.2.2.1 hc.2.2.2.1 hc.2.2.2.2 e
 self:=λ_ _ _ _ _ st h=>ah2 st.1 h
def Av (K:W.Frag) (ta:TA):TI:=λσ H R=>ta σ H λvs H1=>∃ a b,vs=[.ref a,.ref b]/\((∃ xs ys,aG K H1 a xs/\aG K H1 b ys/\R (t9 K a b) H1)\/∃ xs ys,aZ K H1 a xs/\aZ K H1 b ys/\R (rM K a b) H1)
section
variable {X:Cx}
theorem WL {elts:List PySem.Expr} {x1} {tpos:Pos} {a b:PySem.Expr} {ta:TA} {p pos:Pos} (hg:Gl X "zip") (hm:X.mg "zip" = none) (ha:PA X [a,b] ta) (hs:starEach [a,b] X.env=[(false,eval a X.env),(false,eval b X.env)]:=by rfl) (hs2:starEach [b] X.env=[(false,eval b X.env)]:=by rfl) :
  PI X (.Tuple elts x1 tpos) (.Call (.Name "zip" p) [a,b] [] pos) (Av X.K ta):=by
 intro pins s σ H R I h
 refine Call_ (se I hg hm Zip (awR (mG (ha pos pins s σ H _ I h) λus s1 vs H1 I1 r1 q1=>?_) (by rw [hs,hs2]) (by rw [hs2]; rfl)))
 obtain ⟨l1,l2,e,q⟩:=q1
 subst e
 obtain ⟨v1,v2,rfl,r,r'⟩:=vals2 r1
 cases r
 cases r'
 have big:∀ c,c∈[s1.heap.objs.size+4,s1.heap.objs.size+2,s1.heap.objs.size+3,s1.heap.objs.size,s1.heap.objs.size+1]->s1.heap.objs.size<=c:=λc hc=>by
  simp only [atw,aha,aqQ] at hc
  rcases hc with rfl | rfl | rfl | rfl | rfl <;> first | exact aDN _ | exact Nat.le_add_right _ _
 rcases q with ⟨xs,ys,mV,mU,q⟩ | ⟨xs,ys,mV,mU,q⟩
 .obtain ⟨jH,ra,pa,za⟩:=I1.list mV
  obtain ⟨jX,rb,pb,zb⟩:=I1.list mU
  have qB:l1<s1.heap.objs.size:=by obtain ⟨o,e,_⟩:=pa.isList; exact aSe e
  have we:l2<s1.heap.objs.size:=by obtain ⟨o,e,_⟩:=pb.isList; exact aSe e
  refine call_zip_2 pa.isList pb.isList λh' g5 g3 g4 g1 g2 hsz kp=>ah2 g5 ?_
  exact ⟨_,[_,_,_,_,_],_,_,H1,rfl,I1.kept (t':=s1.toks) kp,Pw _ _ _ _ _ l1 l2 (Jy s1.heap.objs.size l1 l2 qB we),⟨g5,g3,⟨_,_,g4⟩,g1,g2⟩,λc hc=>I1.mW (big c hc) (I1.hok.fresh (big c hc)),q⟩
 .obtain ⟨jH,ra,pa,za⟩:=I1.tuple mV
  obtain ⟨jX,rb,pb,zb⟩:=I1.tuple mU
  have qB:l1<s1.heap.objs.size:=NG pa
  have we:l2<s1.heap.objs.size:=NG pb
  refine YG (show s1.heap.IsTuple l1 jH.toArray from pa) (show s1.heap.IsTuple l2 jX.toArray from pb) λh' g5 g3 g4 g1 g2 kp=>ah2 g5 ?_
  exact ⟨_,[_,_,_,_,_],_,_,H1,rfl,I1.kept (t':=s1.toks) kp,YF _ _ _ _ _ l1 l2 (Jy s1.heap.objs.size l1 l2 qB we),⟨g5,g3,⟨_,_,g4⟩,g1,g2⟩,λc hc=>I1.mW (big c hc) (I1.hok.fresh (big c hc)),q⟩
end
theorem YE {K:W.Frag} {a b:Addr} {xs zs:List V} {l:Addr} {g:TG} {tc:TT} {te:TE} {σ0:St} {H0:Hp} {Qf:Hp->Prop} (hlen:xs.length=zs.length) (Pv:Nat->List V->St->Hp->Prop) (h0:Pv 0 [] σ0 H0)
  (hl:∀ i ys σ' H',i<=xs.length->Pv i ys σ' H'->aZ K H' a xs/\aZ K H' b zs)
  (hs:∀ i x z t ys σ' H',i<xs.length->xs[i]?=some x->zs[i]?=some z->ys.length<=i->Pv i ys σ' H'->H' t=none->g (.ref t) σ' (upd H' t (.tup [x,z])) λσ2 H3=>tc σ2 H3 λb H4=>if b=true then te σ2 H4 λy H5=>kW xs.length l Pv i ys σ2 y H5 else vz xs.length Pv i ys σ2 H4)
  (hd:∀ ys σ' H',ys.length<=xs.length->Pv xs.length ys σ' H'->Qf H') :
  ∃ W:Nat->Nat->List V->St->Hp->Prop,(∃ m,W 0 m [] σ0 H0)/\∀ i m ys σ' H',W i m ys σ' H' ->
  ((rM K a b).stop i H'/\Qf H')\/((rM K a b).go i H'/\∀ x H2,(rM K a b).nA i H' x H2->g x σ' H2 λσ2 H3=>tc σ2 H3 λb H4 =>
    if b=true then te σ2 H4 λy H5=>H5 l=some (.lst ys)/\ys.length<sizeLine/\∃ m',m'<m/\W (i+1) m' (ys++[y]) σ2 (upd H5 l (.lst (ys++[y])))
    else ∃ m',m'<m/\W (i+1) m' ys σ2 H4):=by
 refine ⟨λi m ys σ' H'=>m=xs.length - i/\i<=xs.length/\ys.length<=i/\Pv i ys σ' H',⟨xs.length,rfl,a9k _,aDN _,h0⟩,?_⟩
 rintro i m ys σ' H' ⟨rfl,hi,hy,p⟩
 obtain ⟨qa,qb⟩:=hl i ys σ' H' hi p
 by_cases hlt:i<xs.length
 .have hlt':i<zs.length:=by lia
  refine .inr ⟨⟨xs,zs,xs[i],zs[i],qa,qb,by simp [hlt],by simp [hlt']⟩,λx H2 zq=>?_⟩
  obtain ⟨t,u,v,ht,rfl,rfl,z1,z2⟩:=zq
  exact hs i u v t ys σ' H' hlt (z1 xs qa) (z2 zs qb) hy p ht
 .have e:i=xs.length:=by lia
  subst e
  exact .inl ⟨⟨xs,qa,⟨zs,qb⟩,aDN _⟩,hd ys σ' H' hy p⟩
def zv (scope gy:Scope):Scope:={ scope with names:=scope.names.map λ(n,k)=>if (k == .free && gy.kind == .function && gy.names.lookup n == some .cell) then (n,.cell) else (n,k) }
theorem ZjC {scope:Scope} {env:Env} {gy:Scope} (h:env.scope=gy):relabel scope env=zv scope gy:=by subst h; rfl
theorem QD {X:Cx} {LJ gy:Scope} {qS:Env} {oN:List Str} {scope:Scope} {N:List Str} {own:Nat} {js:List Nat} (hs:X.env.scope=relabel LJ qS) (he:qS.scope=gy) (hN:X.N=oN) (h:qV (zv LJ gy) oN scope N own js=true):dI X scope N own js :=
 sj h (hs.trans (ZjC he)) hN
section
variable {X:Cx} {K:W.Frag} {tg:PySem.Expr}
theorem Ef (hK:X.K=K) {l:PySem.Expr} {tl:TE} (hl:PE X l tl):PI X tg l (uN K tl):=hK ▸ Xx hl
theorem DR (hK:X.K=K) {l:PySem.Expr} {tl:TE} (hl:PE X l tl):PI X tg l (Aw K tl):=hK ▸ V2 hl
end
theorem WK {K:W.Frag} {a b:Addr} {xs ys:List V} {g:TG} {tb:TS} {D:Ends} {σ:St} {H:Hp} (Pv:Nat->St->Hp->Prop) (hlen:xs.length=ys.length) (h0:Pv 0 σ H) (hl:∀ i σ H,i<=xs.length->Pv i σ H->aG K H a xs/\aG K H b ys)
  (hs:∀ i x y t σ H,xs[i]?=some x->ys[i]?=some y->Pv i σ H->H t=none->g (.ref t) σ (upd H t (.tup [x,y])) λσ2 H2=>tb { D with nx:=Pv (i+1),ct:=Pv (i+1),bk:=D.nx } σ2 H2) (hd:∀ σ H,Pv xs.length σ H->D.nx σ H) :
  ∃ W:Nat->Nat->St->Hp->Prop,(∃ m,W 0 m σ H)/\∀ i m σ H,W i m σ H ->
   ((t9 K a b).stop i H/\D.nx σ H)\/((t9 K a b).go i H/\∃ N:St->Hp->Prop,(∀ σ' H',N σ' H'->∃ m',m'<m/\W (i+1) m' σ' H')/\∀ x H',(t9 K a b).nA i H x H'->g x σ H' λσ2 H2=>tb { D with nx:=N,ct:=N,bk:=D.nx } σ2 H2):=by
 refine ⟨λi m σ H=>m=xs.length - i/\i<=xs.length/\Pv i σ H,⟨xs.length,by simp,a9k _,h0⟩,?_⟩
 rintro i m σ H ⟨rfl,hi,p⟩
 obtain ⟨q1,q2⟩:=hl i σ H hi p
 by_cases hlt:i<xs.length
 .have GZ:i<ys.length:=hlen ▸ hlt
  refine .inr ⟨⟨xs,ys,xs[i],ys[i],q1,q2,by simp [hlt],by simp [GZ]⟩,Pv (i+1),λσ' H' p'=>⟨xs.length - (i+1),by lia,rfl,hlt,p'⟩,λx H' y=>?_⟩
  obtain ⟨t,x1,y1,ht,rfl,rfl,hx,hy⟩:=y
  exact hs i x1 y1 t σ _ (hx xs q1) (hy ys q2) p ht
 .have e:i=xs.length:=by lia
  subst e
  exact .inl ⟨⟨xs,ys,q1,q2,.inl (aDN _)⟩,hd σ H p⟩
end L2
namespace L2.Q3
open PySem PySem.Spec PyProof.Rows
def Rk (ρ:Keyed->Nat) (xs:Array Keyed) (i:Nat):Nat:=(xs[i]?).elim 0 ρ
theorem BI {ρ:Keyed->Nat} {xs ys:Array Keyed} {i j:Nat} (h:xs[i]?=ys[j]?):Rk ρ xs i=Rk ρ ys j:=by unfold Rk; rw [h]
def gO (ρ:Keyed->Nat) (xs:Array Keyed) (i j:Nat):Prop:=K xs i<K xs j\/(K xs i=K xs j/\Rk ρ xs i<Rk ρ xs j)
theorem gO.trans {ρ:Keyed->Nat} {xs:Array Keyed} {i j k:Nat} (h1:gO ρ xs i j) (h2:gO ρ xs j k):gO ρ xs i k:=by
 unfold gO at *
 lia
def mC (ρ:Keyed->Nat) (xs:Array Keyed) (n:Nat):Prop:=∀ i j,i<j->j<n->gO ρ xs i j
def Dec (ρ:Keyed->Nat) (xs:Array Keyed) (n:Nat):Prop:=∀ i j,i<j->j<n->gO ρ xs j i
def iP (ρ:Keyed->Nat) (xs:Array Keyed) (n:Nat):Prop:=∀ i,n<=i->i<xs.size->Rk ρ xs i=i
theorem iP.mono {ρ:Keyed->Nat} {xs:Array Keyed} {m n:Nat} (h:iP ρ xs m) (l:m<=n):iP ρ xs n:=λi hi hs=>h i (auj l hi) hs
theorem DL {ρ:Keyed->Nat} {xs:Array Keyed} {i:Nat} (h:i<xs.size):(xs.toList.map ρ)[i]?=some (Rk ρ xs i):=by
 unfold Rk
 rw [aJm,acr,akH h]
 rfl
structure Inj (ρ:Keyed->Nat) (xs:Array Keyed):Prop where
 inj:∀ i j,i<xs.size->j<xs.size->Rk ρ xs i=Rk ρ xs j->i=j
 lt:∀ i,i<xs.size->Rk ρ xs i<xs.size
theorem VL {ρ:Keyed->Nat} {xs a₀:Array Keyed} (p:xs.Perm a₀) (h0:iP ρ a₀ 0):Inj ρ xs:=by
 have e0:a₀.toList.map ρ=List.range a₀.size:=by
  apply a4b
  intro i
  by_cases h:i<a₀.size
  .rw [DL h,aWR h,h0 i (a9k _) h]
  .rw [aav (by simpa using h),aav (by simpa using h)]
 have pm:(xs.toList.map ρ).Perm (List.range a₀.size):=by rw [← e0]; exact (a0l.mp p).map ρ
 have nd:(xs.toList.map ρ).Nodup:=pm.nodup_iff.mpr List.nodup_range
 refine ⟨λi j hi hj e=>?_,λi hi=>?_⟩
 .refine (List.getElem?_inj (by rw [aUH,aLz]; exact hi) nd).mp ?_
  rw [DL hi,DL hj,e]
 .have m:Rk ρ xs i∈xs.toList.map ρ:=axK (DL hi)
  have:=alC.mp (pm.mem_iff.mp m)
  rw [p.size_eq]
  exact this
theorem Inj.below {ρ:Keyed->Nat} {xs:Array Keyed} (I:Inj ρ xs) {n:Nat} (h:iP ρ xs n) {i:Nat} (hi:i<n) (hs:i<xs.size):Rk ρ xs i<n:=by
 by_cases c:Rk ρ xs i<n
 .exact c
 .have l:=I.lt i hs
  have e:=h (Rk ρ xs i) (by lia) l
  have:=I.inj _ _ l hs e
  lia
theorem JE {ρ:Keyed->Nat} {xs:Array Keyed} {src d:Nat} (hs:src<xs.size) (hd:d<=src) (k:Nat) :
  Rk ρ (bubble xs src d) k=if k=src - d then Rk ρ xs src else if src - d<k/\k<=src then Rk ρ xs (k - 1) else Rk ρ xs k:=by
 have e:=getElem?_bubble hs d hd k
 by_cases h1:k=src - d
 .rw [bb9 h1] at e ⊢
  exact BI e
 .rw [aYW h1] at e ⊢
  by_cases h2:src - d<k/\k<=src
  .rw [bb9 h2] at e ⊢
   exact BI e
  .rw [aYW h2] at e ⊢
   exact BI e
theorem tV {ρ:Keyed->Nat} {xs:Array Keyed} {i j:Nat} (hj:j<=xs.size) (k:Nat) :
  Rk ρ (mirror xs i j ((j - i) / 2)) k=if i<=k/\k<j then Rk ρ xs (i+j - 1 - k) else Rk ρ xs k:=by
 have e:=getElem?_mirror_all (i:=i) hj k
 by_cases h1:i<=k/\k<j
 .rw [bb9 h1] at e ⊢
  exact BI e
 .rw [aYW h1] at e ⊢
  exact BI e
section
variable {prog:Program} {w:World} {A:Around} {E:Value->Shared->Prop} {s:Shared} {a₀:Array Keyed} {ρ:Keyed->Nat}
theorem SB.inj {st:SortSt} (h:SBase a₀ st) (hr:iP ρ a₀ 0):Inj ρ (arrOf st):=VL h.perm hr
theorem VJ {st:SortSt} {n ok:Nat} {Q:Bool->SortSt->Prop} (h0:IntKeys a₀) (hr:iP ρ a₀ 0) (hn:n<=a₀.size) (hok:ok<=n) (U5:1<=ok) (hB:SBase a₀ st) (hs:mC ρ (arrOf st) ok) (hI:iP ρ (arrOf st) ok)
  (h:∀ st',SBase a₀ st'->mC ρ (arrOf st') n->Q true st'):wpS (model prog w) A E s (binarySort' 0 n ok) Q st:=by
 rw [binarySort'_eq]
 simp only [ajJ]
 refine aRj (apc (aNA (I:=λk c st1=>c=(none,())/\SBase a₀ st1/\mC ρ (arrOf st1) (min k n)/\iP ρ (arrOf st1) (min k n))
  (Q:=λc st1=>c=(none,())/\SBase a₀ st1/\mC ρ (arrOf st1) n) ?turn ?last ?first) ?after)
 case after =>
  rintro c st1 ⟨rfl,b1,i1⟩
  exact aVv (h st1 b1 i1)
 case first =>
  rw [show min (max ok 1) n=ok by lia]
  exact ⟨rfl,hB,hs,hI⟩
 case last =>
  rintro c st1 ⟨hc,b1,i1,_⟩
  rw [show min (max (max ok 1) n) n=n by lia] at i1
  exact ⟨hc,b1,i1⟩
 case turn =>
  rintro k c st1 UY hkn ⟨rfl,b1,i1,d1⟩
  rw [show min k n=k by lia] at i1 d1
  have hk:k<a₀.size:=by lia
  have sz:=b1.size
  have J:=SB.inj b1 hr
  have rk:Rk ρ (arrOf st1) k=k:=d1 k (aDN _) (by lia)
  have lo:∀ m,m<k->¬ K (arrOf st1) k<K (arrOf st1) m->gO ρ (arrOf st1) m k:=λm hm c=>by
   have:=J.below d1 hm (by lia)
   unfold gO
   lia
  refine aRj (apc (aNA (I:=λx c st2=>st2=st1/\∃ l r,c=(none,l,r)/\l<=r/\r<=k/\r - l<=k - x/\(∀ i,i<l->gO ρ (arrOf st1) i k)/\(∀ i,r<=i->i<k->gO ρ (arrOf st1) k i))
   (Q:=λc st2=>st2=st1/\∃ l r,c=(none,l,r)/\l<=k/\(∀ i,i<l->gO ρ (arrOf st1) i k)/\(∀ i,l<=i->i<k->gO ρ (arrOf st1) k i)) ?iturn ?ilast ?ifirst) ?iafter)
  case ifirst=>exact ⟨rfl,0,k,rfl,by lia,by lia,by lia,λi hi=>absurd hi (by lia),λi p q=>absurd q (by lia)⟩
  case ilast =>
   rintro c st2 ⟨rfl,l,r,rfl,hlr,hrk,hm,u1,u2⟩
   have e:l=r:=by lia
   subst e
   exact ⟨rfl,l,l,rfl,hrk,u1,u2⟩
  case iturn =>
   rintro x c st2 _ hxk ⟨rfl,l,r,rfl,hlr,hrk,hm,u1,u2⟩
   dsimp only
   by_cases hge:l ≥ r
   .rw [bb9 hge]
    have e:l=r:=by lia
    subst e
    exact aVv ⟨rfl,l,l,rfl,hrk,u1,u2⟩
   .rw [aYW hge]
    refine aRj (wpS_ltK b1 h0 hk (by lia) ?_)
    by_cases c:K (arrOf st2) k<K (arrOf st2) ((l+r) / 2)
    .simp only [c,alo,aEp]
     refine aVv ⟨rfl,l,(l+r) / 2,rfl,by lia,by lia,by lia,u1,λi p q=>?_⟩
     by_cases e:i=(l+r) / 2
     .subst e; exact .inl c
     .exact gO.trans (.inl c) (i1 _ _ (by lia) q)
    .simp only [c,aI1,a7V,azU]
     refine aVv ⟨rfl,(l+r) / 2+1,r,rfl,by lia,by lia,by lia,λi p=>?_,u2⟩
     have v:=lo _ (by lia) c
     by_cases e:i=(l+r) / 2
     .subst e; exact v
     .exact gO.trans (i1 _ _ (by lia) (by lia)) v
  case iafter =>
   rintro c st2 ⟨rfl,l,r,rfl,hlk,u1,u2⟩
   show wpS _ _ _ _ (do moveDown' k l; pure (ForInStep.yield (none,()))) _ _
   rw [moveDown'_eq]
   refine aRj (aEo (aVv ⟨rfl,b1.setArr (bubble_perm _ _ _),?_,?_⟩))
   .rw [show min (k+1) n=k+1 by lia]
    have hks:k<(arrOf st2).size:=by lia
    intro i j hij hj
    show gO ρ (bubble (arrOf st2) k (k - l)) i j
    unfold gO
    rw [K_bubble hks (by lia),K_bubble hks (by lia),JE hks (by lia),JE hks (by lia),show k - (k - l)=l by lia]
    by_cases a1:i=l
    .have uZ:¬ j=l:=by lia
     have Nc:l<j/\j<=k:=by lia
     rw [bb9 a1,bb9 a1,aYW uZ,aYW uZ,bb9 Nc,bb9 Nc]
     exact u2 _ (by lia) (by lia)
    .rw [aYW a1,aYW a1]
     by_cases a2:j=l
     .have uZ:¬ (l<i/\i<=k):=by lia
      rw [bb9 a2,bb9 a2,aYW uZ,aYW uZ]
      exact u1 _ (by lia)
     .rw [aYW a2,aYW a2]
      by_cases a3:l<i/\i<=k
      .have uZ:l<j/\j<=k:=by lia
       rw [bb9 a3,bb9 a3,bb9 uZ,bb9 uZ]
       exact i1 _ _ (by lia) (by lia)
      .rw [aYW a3,aYW a3]
       by_cases a4:l<j/\j<=k
       .rw [bb9 a4,bb9 a4]
        by_cases a5:i<j - 1
        .exact i1 _ _ a5 (by lia)
        .exfalso; lia
       .rw [aYW a4,aYW a4]
        exact i1 _ _ (by lia) (by lia)
   .rw [show min (k+1) n=k+1 by lia]
    intro i hi hs'
    have hs2:i<(arrOf st2).size:=by
     have:(arrOf (setArr st2 (bubble (arrOf st2) k (k - l)))).size=(arrOf st2).size:=bubble_size _ _ _
     lia
    show Rk ρ (bubble (arrOf st2) k (k - l)) i=i
    rw [JE (by lia) (by lia),aYW (by lia),aYW (by lia)]
    exact d1 i (by lia) hs2
theorem NC {st:SortSt} {a nrem:Nat} {Q:AscSt->SortSt->Prop} (h0:IntKeys a₀) (hr:iP ρ a₀ 0) (hn:nrem<=a₀.size) (ha:1<=a) (han:a<=nrem) (hB:SBase a₀ st) (hs:mC ρ (arrOf st) a) (hI:iP ρ (arrOf st) a)
  (h:∀ n,a<=n->n<=nrem->mC ρ (arrOf st) n->(n=nrem\/K (arrOf st) n<K (arrOf st) (n - 1))->Q (none,n) st):wpS (model prog w) A E s (ascLoop a nrem) Q st:=by
 unfold ascLoop
 have sz:=hB.size
 have J:=SB.inj hB hr
 refine aNA (I:=λx c st1=>st1=st/\c=(none,x)/\mC ρ (arrOf st) x) ?turn ?last ⟨rfl,rfl,hs⟩
 case last =>
  rintro c st1 ⟨rfl,rfl,i1⟩
  rw [show max a nrem=nrem by lia] at i1 ⊢
  exact h nrem han (aDN _) i1 (.inl rfl)
 case turn =>
  rintro x c st1 hax hxn ⟨rfl,rfl,i1⟩
  dsimp only
  refine aRj (wpS_ltK hB h0 (by lia) (by lia) ?_)
  by_cases c:K (arrOf st1) x<K (arrOf st1) (x - 1)
  .simp only [c,alo,aEp]
   exact aVv (h x hax (by lia) i1 (.inr c))
  .simp only [c,aI1,a7V,azU]
   refine aVv ⟨rfl,rfl,λi j hij hj=>?_⟩
   by_cases hjx:j<x
   .exact i1 i j hij hjx
   .have ej:j=x:=by lia
    subst ej
    have dx:=hI.mono hax
    have r1:=J.below dx (i:=j - 1) (by lia) (by lia)
    have r2:=dx j (aDN _) (by lia)
    have v:gO ρ (arrOf st1) (j - 1) j:=by unfold gO; lia
    by_cases e:i=j - 1
    .subst e; exact v
    .exact gO.trans (i1 i (j - 1) (by lia) (by lia)) v
theorem ON {st:SortSt} {n nrem:Nat} {Q:Option Nat->SortSt->Prop} (h0:IntKeys a₀) (hr:iP ρ a₀ 0) (hn:nrem<=a₀.size) (h1:1<=n) (hnn:n<=nrem) (hB:SBase a₀ st) (hs:Dec ρ (arrOf st) n) (hI:iP ρ (arrOf st) n)
  (h:∀ m st',SBase a₀ st'->1<=m->m<=nrem->mC ρ (arrOf st') m->iP ρ (arrOf st') m->Q (some m) st'):wpS (model prog w) A E s (tail3 n nrem) Q st:=by
 unfold tail3
 have sz:=hB.size
 refine aRj (asa ?_)
 have b1:SBase a₀ (setArr st (mirror (arrOf st) 0 n ((n - 0) / 2))):=hB.setArr (aIm _ _ _ _)
 have d1:iP ρ (mirror (arrOf st) 0 n ((n - 0) / 2)) n:=λi hi hs'=>by
  rw [mirror_size] at hs'
  rw [tV (by lia),aYW (by lia)]
  exact hI i hi hs'
 refine aRj (NC h0 hr hn h1 hnn b1 ?_ d1 λm m1 m2 i2 _=>aVv (h m _ b1 (by lia) m2 i2 (d1.mono m1)))
 intro i j hij hj
 show gO ρ (mirror (arrOf st) 0 n ((n - 0) / 2)) i j
 unfold gO
 rw [K_mirror (by lia),K_mirror (by lia),tV (by lia),tV (by lia),bb9 (by lia),bb9 (by lia),bb9 (by lia),bb9 (by lia)]
 exact hs _ _ (by lia) (by lia)
structure DI (ρ:Keyed->Nat) (xs:Array Keyed) (x q:Nat):Prop where
 l:q+1<=x
 sz:x<=xs.size
 d:Dec ρ xs (x - (q+1))
 u:∀ i j,i<x - (q+1)->x - (q+1)<=j->j<x->K xs j<K xs i
 e:∀ i,x - (q+1)<=i->i<x->K xs i=K xs (x - 1)
 f:iP ρ xs (x - (q+1))
theorem DI.A4 {xs:Array Keyed} {x:Nat} (h:DI ρ xs x 0):Dec ρ xs x:=λi j hij hj=>by
 by_cases c:j<x - (0+1)
 .exact h.d i j hij c
 .exact .inl (h.u i j (by lia) (by lia) hj)
theorem DI.rev {xs:Array Keyed} {x q:Nat} (h:DI ρ xs x q):Dec ρ (mirror xs (x - (q+1)) x ((x - (x - (q+1))) / 2)) x/\iP ρ (mirror xs (x - (q+1)) x ((x - (x - (q+1))) / 2)) x:=by
 have hl:=h.l
 have hz:=h.sz
 refine ⟨λi j hij hj=>?_,λi hi hs=>?_⟩
 .have ke:=K_mirror_equal (i:=x - (q+1)) hz h.e
  unfold gO
  rw [ke,ke,tV hz,tV hz]
  by_cases c1:j<x - (q+1)
  .rw [aYW (by lia),aYW (by lia)]
   exact h.d i j hij c1
  .by_cases c2:i<x - (q+1)
   .exact .inl (h.u i j c2 (by lia) hj)
   .rw [bb9 (by lia),bb9 (by lia)]
    refine .inr ⟨(h.e j (by lia) hj).trans (h.e i (by lia) (by lia)).symm,?_⟩
    rw [h.f _ (by lia) (by lia),h.f _ (by lia) (by lia)]
    lia
 .rw [mirror_size] at hs
  rw [tV hz,aYW (by lia)]
  exact h.f i (by lia) hs
theorem DI.of {xs:Array Keyed} {x:Nat} (hx:1<=x) (hz:x<xs.size) (hd:Dec ρ xs x) (hf:iP ρ xs x) (hk:K xs x<K xs (x - 1)):DI ρ xs (x+1) 0:=by
 refine ⟨by lia,by lia,hd,λi j hi hj hj'=>?_,λi hi hi'=>?_,hf⟩
 .have ej:j=x:=by lia
  subst ej
  by_cases e:i=j - 1
  .subst e; exact hk
  .have v:=hd i (j - 1) (by lia) (by lia)
   unfold gO at v
   lia
 .have ei:i=x:=by lia
  subst ei
  rfl
theorem DI.more {xs:Array Keyed} {x q:Nat} (h:DI ρ xs x q) (hz:x<xs.size) (hk:K xs x=K xs (x - 1)):DI ρ xs (x+1) (q+1):=by
 have hl:=h.l
 have e0:x+1 - (q+1+1)=x - (q+1):=by lia
 refine ⟨by lia,by lia,by rw [e0]; exact h.d,λi j hi hj hj'=>?_,λi hi hi'=>?_,by rw [e0]; exact h.f⟩
 .rw [e0] at hi hj
  by_cases c:j<x
  .exact h.u i j hi hj c
  .have ej:j=x:=by lia
   subst ej
   rw [hk]
   exact h.u i (j - 1) hi (by lia) (by lia)
 .rw [show x+1 - 1=x by lia]
  by_cases c:i<x
  .rw [hk]; exact h.e i (by lia) c
  .have ei:i=x:=by lia
   subst ei
   rfl
theorem WJ {st:SortSt} {n nrem:Nat} {Q:DescSt->SortSt->Prop} (h0:IntKeys a₀) (hn:nrem<=a₀.size) (hnn:n<=nrem) (hB:SBase a₀ st) (hs:DI ρ (arrOf st) n 0)
  (h:∀ m q st',SBase a₀ st'->m<=nrem->DI ρ (arrOf st') m q->Q (none,m,q) st'):wpS (model prog w) A E s (descLoop n nrem) Q st:=by
 unfold descLoop
 refine aNA (I:=λx c st1=>∃ q,c=(none,x,q)/\SBase a₀ st1/\DI ρ (arrOf st1) x q) ?turn ?last ⟨0,rfl,hB,hs⟩
 case last =>
  rintro c st1 ⟨q,rfl,b1,d1⟩
  rw [show max n nrem=nrem by lia] at d1 ⊢
  exact h nrem q st1 b1 (aDN _) d1
 case turn =>
  rintro x c st1 hax hxn ⟨q,rfl,b1,d1⟩
  dsimp only
  have sz:=b1.size
  have hl:=d1.l
  refine aRj (wpS_ltK b1 h0 (by lia) (by lia) ?_)
  by_cases c:K (arrOf st1) x<K (arrOf st1) (x - 1)
  .simp only [c,alo,aEp]
   by_cases hq:q > 0
   .rw [bb9 hq]
    obtain ⟨r1,r2⟩:=d1.rev
    refine aRj (asa (aVv ⟨0,rfl,b1.setArr (aIm _ _ _ _),DI.of (by lia) (by show x<(mirror _ _ _ _).size; rw [mirror_size]; lia) r1 r2 ?_⟩))
    show K (mirror _ _ _ _) x<K (mirror _ _ _ _) (x - 1)
    rw [K_mirror_equal d1.sz d1.e,K_mirror_equal d1.sz d1.e]
    exact c
   .rw [aYW hq]
    have e:q=0:=by lia
    subst e
    exact aVv ⟨0,rfl,b1,DI.of (by lia) (by lia) d1.A4 (d1.f.mono (by lia)) c⟩
  .simp only [c,aI1,a7V,azU]
   refine aRj (wpS_ltK b1 h0 (by lia) (by lia) ?_)
   by_cases c2:K (arrOf st1) (x - 1)<K (arrOf st1) x
   .simp only [c2,alo,aEp]
    exact aVv (h x q st1 b1 (by lia) d1)
   .simp only [c2,aI1,a7V,azU]
    exact aVv ⟨q+1,rfl,b1,d1.more (by lia) (by lia)⟩
theorem OM {st:SortSt} {n nrem:Nat} {Q:Option Nat->SortSt->Prop} (h0:IntKeys a₀) (hr:iP ρ a₀ 0) (hn:nrem<=a₀.size) (hnn:n+1<=nrem) (hB:SBase a₀ st) (hs:DI ρ (arrOf st) (n+1) 0)
  (h:∀ m st',SBase a₀ st'->1<=m->m<=nrem->mC ρ (arrOf st') m->iP ρ (arrOf st') m->Q (some m) st'):wpS (model prog w) A E s (descPart n nrem) Q st:=by
 unfold descPart
 refine aRj (wpS_lift (aGu ⟨rfl,?_⟩))
 refine aRj (WJ h0 hn hnn hB hs λm q st1 b1 m2 d1=>?_)
 dsimp only
 have hl:=d1.l
 by_cases hq:q > 0
 .rw [bb9 hq]
  obtain ⟨r1,r2⟩:=d1.rev
  exact aRj (asa (ON h0 hr hn (by lia) m2 (b1.setArr (aIm _ _ _ _)) r1 r2 h))
 .rw [aYW hq]
  have e:q=0:=by lia
  subst e
  exact ON h0 hr hn (by lia) m2 b1 d1.A4 (d1.f.mono (by lia)) h
theorem XE {st:SortSt} {nrem:Nat} {Q:Option Nat->SortSt->Prop} (h0:IntKeys a₀) (hr:iP ρ a₀ 0) (hn:nrem<=a₀.size) (h1:1<=nrem) (hB:SBase a₀ st) (hI:iP ρ (arrOf st) 0)
  (h:∀ m st',SBase a₀ st'->1<=m->m<=nrem->mC ρ (arrOf st') m->iP ρ (arrOf st') m->Q (some m) st'):wpS (model prog w) A E s (countRun' 0 nrem) Q st:=by
 rw [countRun0_eq]
 have sz:=hB.size
 refine aRj (NC h0 hr hn (aDN 1) h1 hB (λi j hij hj=>absurd hj (by lia)) (hI.mono (a9k _)) λn n1 n2 i1 hor=>?_)
 dsimp only
 by_cases e:n=nrem
 .rw [bb9 (by simpa using e)]
  exact aVv (h n st hB n1 n2 i1 (hI.mono (a9k _)))
 .rw [aYW (by simpa using e)]
  have lt:K (arrOf st) n<K (arrOf st) (n - 1):=hor.resolve_left e
  by_cases g:n > 1
  .rw [bb9 g]
   refine aRj (wpS_ltK hB h0 (by lia) (by lia) ?_)
   by_cases c:K (arrOf st) 0<K (arrOf st) (n - 1)
   .simp only [c,alo,aEp]
    exact aVv (h n st hB n1 n2 i1 (hI.mono (a9k _)))
   .simp only [c,aI1,a7V,azU]
    have all:∀ k,0<=k->k<n->K (arrOf st) k=K (arrOf st) (n - 1):=by
     intro k _ hk
     have a1:k=0\/gO ρ (arrOf st) 0 k:=by
      by_cases z:k=0
      .exact .inl z
      .exact .inr (i1 0 k (by lia) hk)
     have a2:k=n - 1\/gO ρ (arrOf st) k (n - 1):=by
      by_cases z:k=n - 1
      .exact .inl z
      .exact .inr (i1 k (n - 1) (by lia) (by lia))
     have a3:=i1 0 (n - 1) (by lia) (by lia)
     unfold gO at a1 a2 a3
     rcases a1 with a1 | a1
     .subst a1; lia
     .rcases a2 with a2 | a2
      .subst a2; rfl
      .lia
    have ke:=K_mirror_equal (xs:=arrOf st) (i:=0) (j:=n) (by lia) all
    refine aRj (asa (OM h0 hr hn (by lia) (hB.setArr (aIm _ _ _ _)) (DI.of (by lia) (by show n<(mirror _ _ _ _).size; rw [mirror_size]; lia) (λi j hij hj=>?_) (λi hi hs=>?_) ?_) h))
    .show gO ρ (mirror (arrOf st) 0 n ((n - 0) / 2)) j i
     unfold gO
     rw [ke,ke,all i (by lia) (by lia),all j (by lia) hj,tV (by lia),tV (by lia),bb9 (by lia),bb9 (by lia),hI _ (by lia) (by lia),hI _ (by lia) (by lia)]
     lia
    .have hs':i<(mirror (arrOf st) 0 n ((n - 0) / 2)).size:=hs
     rw [mirror_size] at hs'
     show Rk ρ (mirror (arrOf st) 0 n ((n - 0) / 2)) i=i
     rw [tV (by lia),aYW (by lia)]
     exact hI i (by lia) hs'
    .show K (mirror (arrOf st) 0 n ((n - 0) / 2)) n<K (mirror (arrOf st) 0 n ((n - 0) / 2)) (n - 1)
     rw [ke,ke]
     exact lt
  .rw [aYW g]
   have en:n=1:=by lia
   subst en
   exact OM h0 hr hn (by lia) hB (DI.of (by lia) (by lia) (λi j hij hj=>absurd hj (by lia)) (hI.mono (a9k _)) lt) h
def pC (ρ:Keyed->Nat) (a₀:Array Keyed) (st:SortSt):Prop:=(arrOf st).Perm a₀/\failedOf st=none/\pendingOf st=#[(0,a₀.size,0)]/\mC ρ (arrOf st) a₀.size
theorem pC.of {st:SortSt} (hB:SBase a₀ st) (hs:mC ρ (arrOf st) a₀.size):pC ρ a₀ (setPending st ((pendingOf st).push (0,a₀.size,0))) :=
 ⟨hB.perm,hB.failed,by show (pendingOf st).push _=_; rw [hB.pend]; rfl,hs⟩
theorem WI {st:SortSt} {Q:Unit->SortSt->Prop} (h0:IntKeys a₀) (hr:iP ρ a₀ 0) (hB:SBase a₀ st) (hI:iP ρ (arrOf st) 0) (h2:2<=a₀.size) (h64:a₀.size<64)
  (h:∀ st',(arrOf st').Perm a₀->failedOf st'=none->mC ρ (arrOf st') a₀.size->Q () st'):wpS (model prog w) A E s sortRuns' Q st:=by
 rw [sortRuns'_eq]
 refine aRj (aqU ?_)
 dsimp only
 have mr:minRun' a₀.size a₀.size 0=a₀.size:=by
  obtain ⟨f,hf⟩:∃ f,a₀.size=f+1:=⟨a₀.size - 1,by lia⟩
  have e:minRun' (f+1) a₀.size 0=a₀.size:=by
   rw [minRun'_succ,bb9 h64]
   rfl
  rwa [← hf] at e
 simp only [hB.size,mr]
 refine aRj (apc (aNA
  (I:=λx c st1=>(x=0/\c=(none,0)/\SBase a₀ st1/\iP ρ (arrOf st1) 0)\/(1<=x/\c=(none,a₀.size)/\pC ρ a₀ st1))
  (Q:=λc st1=>c=(none,a₀.size)/\pC ρ a₀ st1) ?turn ?last (.inl ⟨rfl,rfl,hB,hI⟩)) ?after)
 case last =>
  rintro c st1 (⟨hx,_⟩ | ⟨_,hc,hD⟩)
  .lia
  .exact ⟨hc,hD⟩
 case turn =>
  rintro x c st1 _ hx (⟨rfl,rfl,b1,i1⟩ | ⟨Mn,rfl,hD⟩)
  .dsimp only
   rw [aYW (by lia)]
   simp only [Nat.sub_zero,Nat.min_self,ajJ]
   refine aRj (XE h0 hr (aDN _) (by lia) b1 i1 λm st2 b2 m1 m2 s2 d2=>?_)
   dsimp only
   by_cases lt:m<a₀.size
   .rw [bb9 lt]
    refine aRj (wpS_lift (aGu ⟨rfl,?_⟩))
    refine aRj (VJ h0 hr (aDN _) m2 m1 b2 s2 d2 λst3 b3 s3=>?_)
    simp only [ayk,a7V,azU]
    refine aRj (aqU ?_)
    have hb:(pendingOf st3).back?=none:=by
     rw [b3.pend]
     rfl
    rw [hb]
    dsimp only
    exact aRj (aEo (aVv (.inr ⟨by lia,rfl,pC.of b3 s3⟩)))
   .rw [aYW lt]
    have em:m=a₀.size:=by lia
    subst em
    refine aRj (aqU ?_)
    have hb:(pendingOf st2).back?=none:=by
     rw [b2.pend]
     rfl
    rw [hb]
    dsimp only
    exact aRj (aEo (aVv (.inr ⟨by lia,rfl,pC.of b2 s2⟩)))
  .dsimp only
   rw [bb9 (aDN _)]
   exact aVv ⟨rfl,hD⟩
 case after =>
  rintro c st1 ⟨rfl,hD⟩
  dsimp only
  refine aRj (apc (aNA (I:=λ_ c st2=>st2=st1/\c=(none,())) (Q:=λc st2=>st2=st1/\c=(none,())) ?_ (λ_ _ hh=>hh) ⟨rfl,rfl⟩) ?_)
  .rintro x c st2 _ _ ⟨rfl,rfl⟩
   refine aRj (aqU ?_)
   rw [bb9 (by rw [hD.2.2.1]; exact aDN 1)]
   exact aVv ⟨rfl,rfl⟩
  .rintro c st2 ⟨rfl,rfl⟩
   exact aVv (h _ hD.1 hD.2.1 hD.2.2.2)
end
end L2.Q3
namespace L2
open PySem PySem.Spec PyProof.Rows
def BMod (base:Heap) (mg:Str->Option Value):Prop:=∃ bm o,mg "__builtins__" = some (.ref bm)/\bm≠builtinsNs/\bm≠mainGlobals/\base.get? bm=some o/\o.cls=.type "module" /\ o.dict=some builtinsNs/\o.data=.plain
section
variable {X:Cx} {pins:List (Addr×Obj)} {σ:St} {H:Hp} {s:Shared}
theorem Inv.grown {P c':Addr} {pos:Pos} {qual:Str} {ps:Array Value} {h':Heap} {tk:Nat} (I:Inv X pins σ H s) (hP:H P=some (.kD pos qual)) (hx:Heap.ExtBut P s.heap h') (hge:s.heap.objs.size<=c') (hrec:h'.CodeRec (.ref c') qual)
  (htr:TriplesOk ps.toList) (hnf:codeAmong pos ps.toList=none) (htb:h'.get? P=some { cls:=.none,data:=.fields (ps++#[rawInt pos.line,rawInt pos.col,.ref c']) }) :
  ∃ oc vs t,h'.get? c'=some oc/\oc.data=.fields vs/\vs[1]?=some (.str qual t)/\Inv X pins σ (upd H c' (.dz oc (.own P))) { s with heap:=h',toks:=tk }:=by
 obtain ⟨c,oc,vs,t,z,hoc,hd,hv⟩:=hrec
 cases z
 have fr:H c'=none:=I.hok.fresh hge
 have nP:∀ b,H b=none->b≠P:=λb n z=>by rw [z,hP] at n; cases n
 have nc:∀ b u,H b=some u->b≠c':=λb u e=>Zd e fr
 have nh:∀ b o,s.heap.get? b=some o->b≠c':=λb o e=>anq (a6M (aSe e) hge)
 have cP:c'≠P:=λz=>by rw [z,hP] at fr; cases fr
 refine ⟨oc,vs,t,hoc,hd,hv,I.step (g':=s.gens) (d':=s.drawn) (t':=tk) (ch:=[]) (h':=h') (H':=upd H c' (.dz oc (.own P))) (λ_ z=>nomatch z) (λb o _ _ _ e n=>hx b o (nP b n) e) (λb o _ _ _ e n=>⟨o.slots,hx b o (nP b n) e⟩)
  (λb o _ e n=>by rw [Zc (nh b o e)]; exact n) (λb o _ e=>?_) (λb xs e=>by rw [Zc (nc b _ e)]; exact e) (λb o u e=>by rw [Zc (nc b _ e)]; exact e) (λb p q e=>by rw [Zc (nc b _ e)]; exact e) (λm hm=>?_) (λb u e=>?_) I.bare⟩
 .by_cases hb:b=P
  .subst hb; exact ⟨_,htb⟩
  .exact ⟨o,hx b o hb e⟩
 .obtain ⟨o,es,ep,ho,r⟩:=hm
  exact ⟨o,es,ep,hx _ o (nP _ I.free) ho,r⟩
 .by_cases hb:b=c'
  .subst hb
   rw [Za] at e
   cases e
   exact ⟨hoc,_,hoc⟩
  .rw [Zc hb] at e
   by_cases MC:b=P
   .subst MC
    rw [hP] at e
    cases e
    have e1:(ps++#[rawInt pos.line,rawInt pos.col,Value.ref c']).toList=ps.toList++[rawInt pos.line,rawInt pos.col,.ref c']:=by simp
    refine ⟨_,htb,?_,λcv hc=>?_⟩
    .rw [e1]; exact TriplesOk_snoc _ _ _ _ htr
    .rw [e1,codeAmong_snoc _ htr hnf] at hc
     cases hc
     exact ⟨c',oc,vs,t,rfl,Za,hd,hv⟩
   .refine (I.hok b u e).stay (λd v hd' q=>hx d v ?_ q) (λd q=>by rw [Zc (nc d _ q)]; exact q) (λd xs q=>by rw [Zc (nc d _ q)]; exact q) λd oz q=>by rw [Zc (nc d _ q)]; exact q
    rcases hd' with rfl | hd'
    .exact MC
    .intro z; rw [z,hP] at hd'; cases hd'
structure l7 (X:Cx) (scope:Scope) (x:Str) (fr:List Str) (js:List Nat):Prop where
 kind:scope.kind=.function
 co:scope.isCoroutine=false
 gen:scope.isGenerator=false
 qu:∀ y∈scope.names,y.2≠.cell
 par:scope.names.lookup x=some .local
 free:∀ y∈scope.names,y.2=.free->X.env.kindOf y.1=some .cell\/X.env.kindOf y.1=some .free
 len:fr.length=js.length
 js:∀ (k j:Nat),js[k]?=some j->fr[k]?=X.N[j]?
 jf:∀ (k:Nat) (y:Str),fr[k]?=some y->scope.names.lookup y=some .free
def i8 (X:Cx) (A:Around) (N:List Str) (qual:Str) (scope:Scope) (f:Addr) (cd:Value) (cl:List (Str×Addr)) (s:Shared) (H:Hp):Cx where
 prog:=X.prog
 w:=X.w
 K:=X.K
 mg:=X.mg
 base:=X.base
 A:=A.deeper (W.envX qual scope s.heap.objs.size f cd cl)
 N:=N
 s₀:=s
 H₀:=H
 env:=W.envX qual scope s.heap.objs.size f cd cl
 outer:=X.stack
 stack:=W.envX qual scope s.heap.objs.size f cd cl :: X.stack
 ex:=[]
 calm:=true
 fn:=λ_=>false
 pn:=[]
 xe:=λ_ _=>False
theorem WH {A:Around} {x:Str} {fr:List Str} {js:List Nat} {qual:Str} {scope:Scope} {f:Addr} {cd:Value} {cl:List (Str×Addr)} {s1:Shared} {u:Value} {v:V} (c:l7 X scope x fr js) (I:Inv X pins σ H s) (hA:A.frames=some X.stack) (hh:A.handled=none)
  (jn:∀ x c,cl.lookup x=some c->X.env.cells.lookup x=some c) (kZ:∀ p∈scope.names,p.2=.free->∃ c,cl.lookup p.1=some c) (r:RelV v u)
  (hn:s1.heap.Ns s.heap.objs.size λy=>[(x,u)].reverse.lookup y) (hk:∀ b o,s.heap.get? b=some o->s1.heap.get? b=some o) (hos:s1.os=s.os) (hg:s1.gens=s.gens) :
  Inv (i8 X A (x :: fr) qual scope f cd cl s H) [] (some v :: js.map λj=>(σ[j]?).join) H s1:=by
 have vW:∀ b:Addr,b∉(i8 X A (x :: fr) qual scope f cd cl s H).ex:=λb z=>absurd (show b∈([]:List Addr) from z) (by simp)
 have ok:(i8 X A (x :: fr) qual scope f cd cl s H).Ok:=by
  refine ⟨I.ok.mod,c.kind,rfl,rfl,aDN _,λy z d e1 e2=>I.ok.inj y z d (jn _ _ e1) (jn _ _ e2),λy hy=>?_,λy d z _=>absurd z (by simp [i8]),λ_=>hh,Around.frames_deeper hA,.inr ⟨rfl,rfl⟩,λb z=>absurd z (vW b),I.bs,auj I.ok.rX I.sz,λb _ _=>vW b,λb z=>absurd z (vW b),I.stack,I.kF⟩
  have hy:scope.names.lookup y=some .cell\/scope.names.lookup y=some .free:=hy
  rcases hy with hy | hy
  .exact absurd rfl (c.qu _ (ZT hy))
  .exact kZ _ (ZT hy) rfl
 refine ⟨ok,hos,by rw [hg]; exact I.bare,Un.kept hk,⟨_,hn,λi y v' e1 e2 e3=>?_⟩,λy d e=>?_,I.hok.fresh (aDN _),λy d e=>I.dR y d (jn y d e),λp hp=>absurd (show p∈([]:List (Addr×Obj)) from hp) (by simp),I.hok.kept hk,?_⟩
 .cases i with
  | zero =>
   have kQ:x=y:=by simpa [i8] using e1
   have oY:v=v':=by simpa using e2
   subst kQ
   subst oY
   refine ⟨u,r,.inl ⟨c.par,?_⟩⟩
   show ([(x,u)]:List (Str×Value)).reverse.lookup x=some u
   simp
  | succ k =>
   have kQ:fr[k]?=some y:=by simpa [i8] using e1
   rw [aM6,aJm] at e2
   cases q:js[k]? with
   | none=>rw [q] at e2; cases e2
   | some j =>
    rw [q] at e2
    have oY:(σ[j]?).join=some v':=by simpa using e2
    have e4:σ[j]?=some (some v'):=by
     cases z:σ[j]? with
     | none=>rw [z] at oY; cases oY
     | some o=>rw [z] at oY; rw [show o=some v' from oY]
    have Ho:X.N[j]?=some y:=(c.js k j q).symm.trans kQ
    have hfr:=c.jf k y kQ
    have hk2:=c.free _ (ZT hfr) rfl
    have vis:BZ X.env.scope y:=by
     rcases hk2 with z | z
     .exact .inr (.inl z)
     .exact .inr (.inr z)
    obtain ⟨m,_,hl⟩:=I.loc
    obtain ⟨u',r',l⟩:=hl j y v' Ho e4 vis
    refine ⟨u',r',?_⟩
    rcases l with ⟨z,_⟩ | ⟨_,d,e,⟨od,ho,hd⟩⟩
    .rcases hk2 with y' | y'
     .rw [show X.env.kindOf y=_ from z] at y'; cases y'
     .rw [show X.env.kindOf y=_ from z] at y'; cases y'
    .obtain ⟨d',e'⟩:=kZ _ (ZT hfr) rfl
     have z':=jn _ _ e'
     have:d'=d:=by rw [e] at z'; exact (a6S z').symm
     subst this
     exact .inr ⟨.inr hfr,d',e',⟨od,hk _ _ ho,hd⟩⟩
 .obtain ⟨v',⟨o,ho,hd⟩⟩:=I.cell y d (jn y d e)
  exact ⟨v',o,hk _ _ ho,hd⟩
 .show (some v :: _:List (Option V)).length=(x :: fr).length
  rw [a23,a23,aUH,c.len]
theorem XD {A:Around} {x:Str} {fr:List Str} {js:List Nat} {name qual:Str} {params:Arguments} {body:PySem.Expr} {scope:Scope} {f:Addr} {pm cd ct:Value} {cl:List (Str×Addr)} {u:Value} {v:V} {te:TE} {Q:VK} {E:Value->Shared->Prop} {of:Obj} (c:l7 X scope x fr js) (I:Inv X pins σ H s)
  (hA:A.frames=some X.stack) (hh:A.handled=none) (Hl:A.depth<recursionLimit)
  (jn:∀ x c,cl.lookup x=some c->X.env.cells.lookup x=some c) (kZ:∀ p∈scope.names,p.2=.free->∃ c,cl.lookup p.1=some c)
  (ho:s.heap.get? f=some of) (hof:of.data=.func (W.kla_fn name qual params body scope cl pm cd ct)) (hcd:s.heap.CodeRec cd qual)
  (hb:∀ u,bindArgs (W.kla_fn name qual params body scope cl pm cd ct) ⟨[u],[]⟩=pure [(x,u)]) (r:RelV v u)
  (he:∀ s,PE (i8 X A (x :: fr) qual scope f cd cl s H) body te) (h:te (some v :: js.map λj=>(σ[j]?).join) H Q) :
  wpAny (model X.prog X.w) A (call (.ref f) [u]) (EP X pins σ Q) E s:=by
 refine wpAny_call (codeAny_mono (R:=λr s'=>∃ u',r=.ok (.ret u')/\CE X.stack X.prog X.w H s Q u' s') (W.kla_callFunE Hl ho hof c.co c.gen rfl hcd (by
  rw [hb u]
  refine ag7 ?_
  refine wpAny_newFunctionEnv c.qu (λy hy=>by rw [a60.mp hy]; exact c.par) (λh₁ hns jR=>?_) c.kind
  have hk₁:∀ b o,s.heap.get? b=some o->h₁.get? b=some o:=λb o e=>jR.extBut b o (anq (aSe e)) (aIi _ e)
  refine ⟨I.nolimit.keeps hk₁,?_⟩
  have J:=WH (qual:=qual) (f:=f) (cd:=cd) (s1:={ s with heap:=h₁,toks:=s.toks+[(x,u)].length }) c I hA hh jn kZ r hns hk₁ rfl rfl
  refine W.kla_codeExpr (ayO (he s [] _ _ H Q J h) (λu' s' hq=>?_) λ_ _ z=>z.elim)
  obtain ⟨v',H',J',rv,q⟩:=hq
  exact ⟨u',rfl,v',H',J'.os,J'.bare,J'.base,J'.hok,rv,q⟩)) λr s' hq=>?_)
 obtain ⟨u',rfl,hq⟩:=hq
 exact I.after hq
theorem XC {P c0:Addr} {x:Str} {fr:List Str} {js:List Nat} {params:Arguments} {body:PySem.Expr} {scope:Scope} {pos:Pos} {R:Value->Shared->Prop} (c:l7 X scope x fr js) (I:Inv X pins σ H s) (hc0:X.env.code=.ref c0) (hcd:W.codeHdIn X.K c0 P=true)
  (bm:BMod X.base X.mg) (hP:H P=some (.kD pos (X.env.qual ++ "<lambda>"))) (hd0:params.defaults=[]) (hk0:params.kw_defaults=[])
  (h:∀ f cl cd pm ct of H' s',Inv X pins σ H' s'->aB H H'->(∀ x c,cl.lookup x=some c->X.env.cells.lookup x=some c)->(∀ p∈scope.names,p.2=.free->∃ c,cl.lookup p.1=some c) -> 
   H' f=some (.dz of (.own 0))->of.data=.func (W.kla_fn "<lambda>" (X.env.qual ++ "<lambda>") params body scope cl pm cd ct)->(∃ c' oc vs t,cd=.ref c'/\H' c'=some (.dz oc (.own P))/\oc.data=.fields vs/\vs[1]?=some (.str (X.env.qual ++ "<lambda>") t))->R (.ref f) s') :
  wpAny (model X.prog X.w) X.A (eval (.Lambda params body scope pos) X.env) R X.xe s:=by
 obtain ⟨cl,e1,jn,_,kZ⟩:=BR (env:=X.env) scope.names [] (λp hp hf=>I.ok.has _ (c.free p hp hf)) (λx d e=>by simp at e)
 have hclos:closureFor scope X.env=pure cl:=by
  unfold closureFor
  refine (a5E (λz=>z >>= λcs=>pure cs) e1).trans ?_
  rfl
 have CH:=W.codeHd_of_K I.eL hcd
 obtain ⟨ps,hps,htr,hcode⟩:=(show aH X.prog X.w H s.heap P (.kD pos (X.env.qual ++ "<lambda>")) from I.hok P _ hP)
 have hg:=I.ok.mod.glob.keeps I.bk
 have hgP:mainGlobals≠P:=λq=>by
  obtain ⟨o,es,ep,e,hd,_⟩:=hg
  rw [q,hps] at e; cases e; cases hd
 have hb:s.heap.BuiltinsAt X.mg P:=by
  obtain ⟨b,o,a1,a2,a3,a4,a5,a6,a7⟩:=bm
  have e:=I.bk _ _ a4
  exact ⟨b,o,a1,a2,a3,(λz=>by rw [z,hps] at e; cases e; cases a5),e,a5,a6,a7⟩
 rw [arm_eval_Lambda,defaultsOf_eq,hd0,hk0]
 show wpAny _ _ (do let dv ← evalAll (evalEach [] X.env); let Uu ← holding dv (evalAllOpt []); makeFunction "<lambda>" (X.env.qual ++ "<lambda>") params (.expr body) scope X.env dv Uu [] pos pos.line) _ _ s
 refine aHI (evalAll_nil ?_)
 refine aHI (aOb (ag7 ?_))
 cases hf:codeAmong pos ps.toList with
 | some cv =>
  obtain ⟨c',oc,vs,t,rfl,hH,hd,hv⟩:=hcode cv hf
  refine W.kla_makeFunctionHit hclos I.ok.glob hg hc0 CH hps htr hf hb λctv h' tk hk hsz=>?_
  have I1:=I.laid (a:=h'.objs.size) (t':=tk) (o:=.dz { cls:=.type "function",data:=.func (W.kla_fn "<lambda>" (X.env.qual ++ "<lambda>") params body scope cl ((X.mg "__name__").getD .none) (.ref c') ctv) } (.own 0)) (h':=h'.push { cls:=.type "function",data:=.func (W.kla_fn "<lambda>" (X.env.qual ++ "<lambda>") params body scope cl ((X.mg "__name__").getD .none) (.ref c') ctv) }) (λb o e=>aIi _ (hk b o e)) hsz ⟨a3a _ rfl,_,a3a _ rfl⟩
  have fr:=I.hok.fresh hsz
  exact h _ cl _ _ _ _ _ _ I1 (Zf fr _) jn kZ Za rfl ⟨c',oc,vs,t,rfl,by rw [Zc (Zd hH fr)]; exact hH,hd,hv⟩
 | none =>
  refine W.kla_makeFunction hclos I.ok.glob hg hc0 CH hps htr hf hgP hb λc' ctv h' tk hx hge hlt hrec htb=>?_
  obtain ⟨oc,vs,t,hoc,hd,hv,I1⟩:=I.grown (tk:=tk) hP hx hge hrec htr hf htb
  have fr:H c'=none:=I.hok.fresh hge
  have AO:upd H c' (.dz oc (.own P)) h'.objs.size=none:=I1.hok.fresh (aDN _)
  have I2:=I1.laid (a:=h'.objs.size) (t':=tk) (o:=.dz (W.kla_obj "<lambda>" (X.env.qual ++ "<lambda>") params body scope cl ((X.mg "__name__").getD .none) c' ctv) (.own 0)) (h':=h'.push (W.kla_obj "<lambda>" (X.env.qual ++ "<lambda>") params body scope cl ((X.mg "__name__").getD .none) c' ctv)) (λb o e=>aIi _ e) (aDN _) ⟨a3a _ rfl,_,a3a _ rfl⟩
  exact h _ cl _ _ _ _ _ _ I2 ((Zf fr _).trans (Zf AO _)) jn kZ Za rfl ⟨c',oc,vs,t,rfl,by rw [Zc (Zd Za AO)]; exact Za,hd,hv⟩
end
end L2
namespace L2
open PySem PySem.Spec PyProof.Rows L2.Q3
def sy (key:Int->Int) (ns:List Int) (a b:Int):Prop:=key a<key b\/(key a=key b/\ns.idxOf a<ns.idxOf b)
theorem XA {l:List Keyed} (h:∀ p∈l,∃ t,p.2=.int (numOf p.2) t):Vals ((l.map λp=>numOf p.2).map V.int) (l.map (·.2)):=by
 induction l with
 | nil=>exact .nil
 | cons p r ih =>
  obtain ⟨t,e⟩:=h p aq5
  exact .cons ⟨t,e⟩ (ih λq hq=>h q (asq _ hq))
theorem Jf {vs:List Value} {ns:List Int} (h:IntsAre vs ns):∀ {i:Nat} {v:Value},vs[i]?=some v->∃ n t,ns[i]?=some n/\v=.int n t:=by
 induction h with
 | nil=>intro i v e; simp at e
 | cons n t _ ih =>
  intro i v e
  cases i with
  | zero=>exact ⟨n,t,rfl,by simpa using e.symm⟩
  | succ i=>exact ih (by simpa using e)
theorem NB:∀ {ns:List Int},ns.Nodup->∀ {i:Nat} {n:Int},ns[i]?=some n->ns.idxOf n=i
 | [],_,_,_,e=>by simp at e
 | x :: r,nd,0,n,e=>by
  have e':x=n:=by simpa using e
  subst e'
  simp
 | x :: r,nd,i+1,n,e=>by
  obtain ⟨h1,h2⟩:=a6A.mp nd
  have e':r[i]?=some n:=by simpa using e
  have ne:x≠n:=λz=>h1 (z ▸ axK e')
  rw [List.idxOf_cons,show (x == n)=false by simpa using ne]
  show r.idxOf n+1=i+1
  rw [NB h2 e']
theorem Qd {keys:Array Value} {vs:List Value} {ns:List Int} {key:Int->Int} (hk:IntsAre keys.toList (ns.map key)) (hv:IntsAre vs ns) (nd:ns.Nodup) :
  iP (λp=>ns.idxOf (numOf p.2)) (keys.zip vs.toArray) 0/\∀ xs:Array Keyed,xs.Perm (keys.zip vs.toArray)->mC (λp=>ns.idxOf (numOf p.2)) xs xs.size ->
   ∃ os:List Int,Vals (os.map V.int) (xs.map (·.2)).toList/\os.Perm ns/\os.Pairwise (sy key ns):=by
 have lk:keys.size=ns.length:=by have:=hk.length; rw [aLz,aUH] at this; lia
 have lv:vs.length=ns.length:=by have:=hv.length; lia
 have HK:∀ (i:Nat) (p:Keyed),(keys.zip vs.toArray)[i]?=some p->∃ n t t',ns[i]?=some n/\p=(Value.int (key n) t,Value.int n t'):=λi p e=>by
  have e':(keys.toList.zip vs)[i]?=some p:=by rw [← ksk_zip,acr]; exact e
  rw [List.getElem?_zip_eq_some] at e'
  obtain ⟨n1,t1,q1,r1⟩:=Jf hk e'.1
  obtain ⟨n2,t2,q2,r2⟩:=Jf hv e'.2
  rw [aJm,q2] at q1
  have zE:key n2=n1:=by simpa using q1
  exact ⟨n2,t1,t2,q2,Prod.ext (by rw [r1,zE]) r2⟩
 have Gh:∀ p∈(keys.zip vs.toArray).toList,∃ n t t',n∈ns/\p=(Value.int (key n) t,Value.int n t'):=λp hp=>by
  obtain ⟨i,e⟩:=aks hp
  rw [acr] at e
  obtain ⟨n,t,t',q,r⟩:=HK i p e
  exact ⟨n,t,t',axK q,r⟩
 refine ⟨λi _ hi=>?_,λxs hp hi=>?_⟩
 .obtain ⟨n,t,t',q,r⟩:=HK i _ (akH hi)
  unfold Rk
  rw [akH hi,r]
  show ns.idxOf n=i
  exact NB nd q
 .have pm:=a0l.mp hp
  have vZ:∀ p∈xs.toList,∃ n t t',n∈ns/\p=(Value.int (key n) t,Value.int n t'):=λp wu=>Gh p (pm.mem_iff.mp wu)
  refine ⟨xs.toList.map λp=>numOf p.2,?_,?_,?_⟩
  .rw [Array.toList_map]
   refine XA λp wu=>?_
   obtain ⟨n,t,t',_,rfl⟩:=vZ p wu
   exact ⟨t',rfl⟩
  .have e:(keys.zip vs.toArray).toList.map (λp=>numOf p.2)=ns:=by
    apply a4b
    intro i
    rw [aJm,acr]
    by_cases hlt:i<(keys.zip vs.toArray).size
    .obtain ⟨n,t,t',q,r⟩:=HK i _ (akH hlt)
     rw [akH hlt,r,q]
     rfl
    .have lz:(keys.zip vs.toArray).size=ns.length:=by rw [Array.size_zip,lk,ahz,lv,Nat.min_self]
     rw [Array.getElem?_eq_none (by lia),aav (by lia)]
     rfl
   rw [← e]
   exact pm.map _
  .rw [pairwise_iff_getElem]
   intro i j hi' hj' hij
   have hi2:i<xs.size:=by simpa using hi'
   have hj2:j<xs.size:=by simpa using hj'
   have v:=hi i j hij hj2
   obtain ⟨n1,t1,t1',_,r1⟩:=vZ xs[i] (by simp)
   obtain ⟨n2,t2,t2',_,r2⟩:=vZ xs[j] (by simp)
   have k1:K xs i=key n1:=by rw [K_eq hi2,r1]; rfl
   have k2:K xs j=key n2:=by rw [K_eq hj2,r2]; rfl
   have q1:Rk (λp=>ns.idxOf (numOf p.2)) xs i=ns.idxOf n1:=by unfold Rk; rw [akH hi2,r1]; rfl
   have q2:Rk (λp=>ns.idxOf (numOf p.2)) xs j=ns.idxOf n2:=by unfold Rk; rw [akH hj2,r2]; rfl
   have g1:(xs.toList.map λp=>numOf p.2)[i]=n1:=by simp [r1,numOf]
   have g2:(xs.toList.map λp=>numOf p.2)[j]=n2:=by simp [r2,numOf]
   rw [g1,g2]
   unfold gO at v
   rw [k1,k2,q1,q2] at v
   exact v
section
variable {X:Cx} {pins:List (Addr×Obj)} {σ:St} {H:Hp} {s:Shared} {d:Addr} {xs:List V} {o:Obj}
theorem Inv.sD (I:Inv X pins σ H s) (h:H d=some (.dz o (.lst xs))) (h0:∀ o' u,X.H₀ d≠some (.dz o' u)):Inv X pins σ (upd H d (.lst xs)) s:=by
 have ne:∀ b u,H b=some u->u≠.dz o (.lst xs)->b≠d:=λb u e n z=>by rw [z,h] at e; exact n (a6S e).symm
 have nn:∀ b,H b=none->b≠d:=λb e z=>by rw [z,h] at e; cases e
 refine ⟨I.ok,I.os,I.bare,⟨I.base.keep,I.base.slot,λb o' e n hx=>?_,I.base.there,λb ys e=>?_,λb o' u e=>?_,λb p r e=>?_⟩,I.loc,I.cell,?_,λx c e=>?_,λp hp=>?_,λb u e=>?_,I.len⟩
 .have q:=I.base.free b o' e n hx
  rw [Zc (nn b q)]
  exact q
 .have q:=I.base.tups b ys e
  rw [Zc (ne b _ q (by intro z; cases z))]
  exact q
 .have q:=I.base.jm b o' u e
  rw [Zc (λz=>h0 o' u (by rw [← z]; exact e))]
  exact q
 .have q:=I.base.jw b p r e
  rw [Zc (ne b _ q (by intro z; cases z))]
  exact q
 .rw [Zc (nn _ I.free)]
  exact I.free
 .rw [Zc (nn _ (I.dR x c e))]
  exact I.dR x c e
 .obtain ⟨a1,a2,a3⟩:=I.pin p hp
  exact ⟨a1,by rw [Zc (nn _ a2)]; exact a2,a3⟩
 .by_cases hb:b=d
  .subst hb
   rw [Za] at e
   cases e
   exact (I.hok b _ h).2
  .rw [Zc hb] at e
   exact (I.hok b u e).stay (λ_ _ _ z=>z) (λc z=>by rw [Zc (ne c _ z (by intro y; cases y))]; exact z) (λc ys z=>by rw [Zc (ne c _ z (by intro y; cases y))]; exact z) λc oz z=>by rw [Zc (ne c _ z (by intro y; cases y))]; exact z
theorem Qc {a kS:Addr} {st:SortSt} {e1:Nat} {H1:Hp} {ns:List Int} {key:Int->Int} {keys:Array Value} {its:List Value} {ks:List V} {A:Around} {E:Value->Shared->Prop} {R:PySem.Fin->Shared->Prop} (I:Inv X pins σ H1 s) (hk:IntsAre keys.toList (ns.map key)) (hv:IntsAre its ns) (nd:ns.Nodup) (h64:ns.length<64)
  (ha:H1 a=some (.dz (seqObj "list" #[] e1) (.lst []))) (h0:∀ o' u,X.H₀ a≠some (.dz o' u)) (yi:H1 kS=some (.lst ks)) (hlk:ks.length<=64) (hp:(arrOf st).Perm (keys.zip its.toArray)) (hi:mC (λp=>ns.idxOf (numOf p.2)) (arrOf st) (arrOf st).size) (hf:failedOf st=none)
  (h:∀ (H':Hp) (s':Shared) (os:List Int),Inv X pins σ H' s'->(∀ b,b≠a->b≠kS->H' b=H1 b)->H' a=some (.lst (os.map V.int))->os.Perm ns->os.Pairwise (sy key ns)->R (.done (.ret .none)) s') :
  wpAny (model X.prog X.w) A (ksk_tail a false e1 (.ref kS) st) R E s:=by
 have CW:a≠kS:=λz=>by rw [z,yi] at ha; cases ha
 obtain ⟨os,vo,po,so⟩:=(Qd hk hv nd).2 _ hp hi
 have lo:=po.length_eq
 unfold ksk_tail
 try dsimp only
 obtain ⟨_,qF,n,rK,Mx,eK⟩:=I.mR yi
 have lK:qF.length<=64:=by have:=rK.length; lia
 refine aHI (aAq eK rfl ?_ (by rw [ahz,ahk]; lia) (a9k _))
 have I6:=I.qC (t':=s.toks) (f:=λ_=>#[]) (its':=[]) (ys:=[]) yi eK rfl .nil (a9k _)
 have MD:upd H1 kS (.lst []) a=some (.dz (seqObj "list" #[] e1) (.lst [])):=by rw [Zc CW]; exact ha
 have oa:=(I6.hok a _ MD).1
 refine aHI (wpAny_letGo ?_)
 refine aHI (seqEpoch_at oa rfl ?_)
 have lo2:((arrOf st).map (·.2)).size=ns.length:=by
  have e:=vo.length
  rw [aUH] at e
  have e2:((arrOf st).map (·.2)).toList.length=((arrOf st).map (·.2)).size:=aLz
  lia
 refine aHI (aAq oa rfl ?_ (a9k _) (by simp only [a7V,azU]; rw [lo2,ahk]; lia))
 rw [hf]
 simp only [bne_self_eq_false,a7V,azU]
 have I7:=I6.sD MD h0
 have I8:=I7.qC (t':=s.toks) (f:=λ_=>(arrOf st).map (·.2)) (its:=[]) (its':=((arrOf st).map (·.2)).toList) (ys:=os.map V.int) Za oa (by exact (Array.toArray_toList).symm) vo (by rw [aUH,ahk]; lia)
 refine ag7 (h _ _ os I8 (λb n1 n2=>?_) Za po so)
 rw [Zc n1,Zc n1,Zc n2]
theorem WG {a kS:Addr} {e1:Nat} {H1:Hp} {ns:List Int} {key:Int->Int} {keys:Array Value} {its:List Value} {ks:List V} {A:Around} {E:Value->Shared->Prop} {R:PySem.Fin->Shared->Prop} (I:Inv X pins σ H1 s) (hk:IntsAre keys.toList (ns.map key)) (hv:IntsAre its ns) (nd:ns.Nodup) (h64:ns.length<64)
  (ha:H1 a=some (.dz (seqObj "list" #[] e1) (.lst []))) (h0:∀ o' u,X.H₀ a≠some (.dz o' u)) (yi:H1 kS=some (.lst ks)) (hlk:ks.length<=64)
  (h:∀ (H':Hp) (s':Shared) (os:List Int),Inv X pins σ H' s'->(∀ b,b≠a->b≠kS->H' b=H1 b)->H' a=some (.lst (os.map V.int))->os.Perm ns->os.Pairwise (sy key ns)->R (.done (.ret .none)) s') :
  wpAny (model X.prog X.w) A (ksk_end a false its.toArray e1 (.ref kS) keys) R E s:=by
 have lk:keys.size=ns.length:=by have:=hk.length; rw [aLz,aUH] at this; lia
 have lv:its.length=ns.length:=by have:=hv.length; lia
 have hzs:(keys.zip its.toArray).size=ns.length:=by rw [Array.size_zip,lk,ahz,lv,Nat.min_self]
 obtain ⟨Mm,_⟩:=Qd hk hv nd
 unfold ksk_end
 simp only [a7V,azU]
 by_cases h2:its.toArray.size<2
 .rw [bb9 h2,bb9 h2]
  refine aHI (ag7 ?_)
  rw [StateT.run_pure]
  refine aHI (ag7 ?_)
  try dsimp only
  refine Qc (st:=SortSt.mk' general' (keys.zip its.toArray) #[] 7 none) I hk hv nd h64 ha h0 yi hlk (aE8 _) (λi j hij hj=>?_) rfl h
  have hj2:j<(keys.zip its.toArray).size:=hj
  rw [ahz] at h2
  lia
 .rw [aYW h2,aYW h2]
  rw [ahz] at h2
  rw [ksk_kind hk (by rw [lk]; lia)]
  refine aHI (ag7 ?_)
  refine aHI (ayO (WI (ρ:=λp=>ns.idxOf (numOf p.2)) (a₀:=keys.zip its.toArray) (st:=SortSt.mk' oneType' (keys.zip its.toArray) #[] 7 none)
   (Q:=λ_ st1=>(arrOf st1).Perm (keys.zip its.toArray)/\failedOf st1=none/\mC (λp=>ns.idxOf (numOf p.2)) (arrOf st1) (keys.zip its.toArray).size)
   (ksk_intKeys hk) Mm ⟨aE8 _,rfl,rfl,rfl⟩ Mm (by rw [hzs]; lia) (by rw [hzs]; exact h64) λst1 a1 a2 a3=>⟨a1,a2,a3⟩) ?_ λ_ _ e=>e)
  rintro ⟨⟨⟩,st1⟩ s1 ⟨rfl,hp,hf,hs⟩
  try dsimp only
  exact Qc I hk hv nd h64 ha h0 yi hlk hp (by rw [hp.size_eq]; exact hs) hf h
theorem Yq {l f:Addr} {ns:List Int} {key:Int->Int} {Q:VK} {E:Value->Shared->Prop} (I:Inv X pins σ H s) (hq:aG X.K H l (ns.map V.int)) (h64:ns.length<64) (nd:ns.Nodup)
  (turn:∀ z∈ns,∀ H1 s1 u,aB H H1->Inv X pins σ H1 s1->RelV (.int z) u->wpAny (model X.prog X.w) X.A.in1.in1 (call (.ref f) [u]) (EP X pins σ λv H'=>v=.int (key z)/\H'=H1) (λ_ _=>False) s1)
  (q:∀ (D:Addr) (H':Hp) (os:List Int),H D=none->aB H H'->H' D=some (.lst (os.map V.int))->os.Perm ns->os.Pairwise (sy key ns)->Q (.ref D) H') :
  wpAny (model X.prog X.w) X.A (call (.builtin "sorted") [.ref l] [(Str.ofString "key",.ref f)]) (EP X pins σ Q) E s:=by
 obtain ⟨its,rv,pl,hz⟩:=I.list hq
 have hv:=JH rv
 have lv:its.length=ns.length:=by have:=rv.length; rw [aUH] at this; exact this.symm
 refine call_function_entry_kw kind_sorted plain_sorted entry_sorted (ksk_s1 _ _) ?_
 unfold Builtin.«sorted»
 refine aHI (m:=checkCount "sorted" 1 1 _) (ag7 ?_)
 refine aHI (collect_list pl.isList ?_ (by rw [ahk]; lia))
 refine aHI (bd9 ?_ (by rw [ahk]; lia))
 have hsz:((s.heap.push (seqObj "list" #[] 0)).update s.heap.objs.size (Obj.mapSeq (·++its.toArray))).objs.size=s.heap.objs.size+1:=by
  rw [Heap.size_update,size_push']
 have kX:(((s.heap.push (seqObj "list" #[] 0)).update s.heap.objs.size (Obj.mapSeq (·++its.toArray))).push (seqObj "list" its.toArray 0)).get? (s.heap.objs.size+1)=some (seqObj "list" its.toArray 0):=by
  rw [← hsz]
  exact a3a _ rfl
 have keep:∀ b o,s.heap.get? b=some o->(((s.heap.push (seqObj "list" #[] 0)).update s.heap.objs.size (Obj.mapSeq (·++its.toArray))).push (seqObj "list" its.toArray 0)).get? b=some o:=λb o e=>by
  have lt:b<s.heap.objs.size:=aSe e
  rw [aj9 _ _ _ (by rw [hsz]; exact anq (aK0 lt)),Heap.get?_update_ne _ _ _ _ (anq lt),aj9 _ _ _ (anq lt)]
  exact e
 show wpAny _ _ _ _ _ { s with heap:=((s.heap.push (seqObj "list" #[] 0)).update s.heap.objs.size (Obj.mapSeq (·++its.toArray))).push (seqObj "list" its.toArray 0) }
 rw [hsz]
 have hsz1:(((s.heap.push (seqObj "list" #[] 0)).update s.heap.objs.size (Obj.mapSeq (·++its.toArray))).push (seqObj "list" its.toArray 0)).objs.size=s.heap.objs.size+2:=by rw [size_push',hsz]
 generalize ((s.heap.push (seqObj "list" #[] 0)).update s.heap.objs.size (Obj.mapSeq (·++its.toArray))).push (seqObj "list" its.toArray 0)=h1 at *
 refine aHI (aOb (wpAny_call_entry_kw slot_list_sort ⟨_,kX,rfl⟩ entry_list_sort ?body (ksk_l1 _ _)))
 case body =>
  show wpAny (model X.prog X.w) X.A.in1.in1 (Builtin.«list.sort» ⟨[.ref (s.heap.objs.size+1)],[(Str.ofString "key",.ref f)]⟩) _ _ _
  rw [ksk_t1]
  unfold ksk_tree
  refine aHI (listItems_at kX rfl ?_)
  refine aHI (aAq kX rfl ?_ (by rw [ahz,ahk]; lia) (a9k _))
  obtain ⟨e1,Mv⟩:∃ e1,(h1.update (s.heap.objs.size+1) (Obj.mapSeq λ_=>(#[]:Array Value))).get? (s.heap.objs.size+1)=some (seqObj "list" #[] e1):=⟨_,get?_update_seq kX λ_=>#[]⟩
  have Al:∀ b o,s.heap.get? b=some o->(h1.update (s.heap.objs.size+1) (Obj.mapSeq λ_=>(#[]:Array Value))).get? b=some o:=λb o e=>by
   have lt:b<s.heap.objs.size:=aSe e
   rw [Heap.get?_update_ne _ _ _ _ (anq (aK0 lt))]
   exact keep b o e
  generalize h1.update (s.heap.objs.size+1) (Obj.mapSeq λ_=>(#[]:Array Value))=h2 at *
  refine aHI (seqEpoch_at Mv rfl ?_)
  refine aHI (wpAny_newTuple ?_ (by show its.length<=_; rw [ahk]; lia))
  refine aHI (bd9 ?_ (a9k _))
  refine aOb ?_
  have fr:H (s.heap.objs.size+1)=none:=I.hok.fresh (Nat.le_succ _)
  have h0:∀ o' u,X.H₀ (s.heap.objs.size+1)≠some (.dz o' u):=λo' u e=>by rw [I.base.jm _ _ _ e] at fr; cases fr
  have ho2:(h2.push (seqObj "tuple" its.toArray 0)).get? (s.heap.objs.size+1)=some (seqObj "list" #[] e1):=aIi _ Mv
  have I3:=I.laid (a:=s.heap.objs.size+1) (t':=s.toks) (o:=.dz (seqObj "list" #[] e1) (.lst [])) (h':=h2.push (seqObj "tuple" its.toArray 0)) (λb o e=>aIi _ (Al b o e)) (Nat.le_succ _) ⟨ho2,a9k _,[],e1,.nil,ho2⟩
  have yo:=I3.hok.fresh (aDN _)
  have I4:=I3.laid (t':=s.toks) (o:=.lst []) (h':=(h2.push (seqObj "tuple" its.toArray 0)).push (seqObj "list" #[] 0)) (λb o e=>aIi _ e) (aDN _) ⟨a9k _,[],0,.nil,a3a _ rfl⟩
  have CW:s.heap.objs.size+1≠(h2.push (seqObj "tuple" its.toArray 0)).objs.size:=Zd Za yo
  have sm:aB H (upd (upd H (s.heap.objs.size+1) (.dz (seqObj "list" #[] e1) (.lst []))) (h2.push (seqObj "tuple" its.toArray 0)).objs.size (.lst [])):=(Zf fr _).trans (Zf yo _)
  have MO:H (h2.push (seqObj "tuple" its.toArray 0)).objs.size=none:=(Zf fr _).free yo
  have Hh:upd (upd H (s.heap.objs.size+1) (.dz (seqObj "list" #[] e1) (.lst []))) (h2.push (seqObj "tuple" its.toArray 0)).objs.size (.lst []) (h2.push (seqObj "tuple" its.toArray 0)).objs.size=some (.lst []):=Za
  have ha0:upd (upd H (s.heap.objs.size+1) (.dz (seqObj "list" #[] e1) (.lst []))) (h2.push (seqObj "tuple" its.toArray 0)).objs.size (.lst []) (s.heap.objs.size+1)=some (.dz (seqObj "list" #[] e1) (.lst [])):=by rw [Zc CW]; exact Za
  generalize upd (upd H (s.heap.objs.size+1) (.dz (seqObj "list" #[] e1) (.lst []))) (h2.push (seqObj "tuple" its.toArray 0)).objs.size (.lst [])=H4 at *
  show wpAny (model X.prog X.w) X.A.in1.in1 (ksk_rest (s.heap.objs.size+1) (.ref f) false its.toArray e1 (.ref (h2.push (seqObj "tuple" its.toArray 0)).objs.size)) _ _ { s with heap:=(h2.push (seqObj "tuple" its.toArray 0)).push (seqObj "list" #[] 0) }
  generalize (h2.push (seqObj "tuple" its.toArray 0)).objs.size=kS at *
  generalize (h2.push (seqObj "tuple" its.toArray 0)).push (seqObj "list" #[] 0)=h4 at *
  unfold ksk_rest
  refine aHI (aGu ?_)
  rw [List.forIn_toArray]
  refine aHI (ksk_fold (λi s1=>∃ H1:Hp,Inv X pins σ H1 s1/\aB H H1/\H1 (s.heap.objs.size+1)=some (.dz (seqObj "list" #[] e1) (.lst []))/\H1 kS=some (.lst (((ns.take i).map key).map V.int))) its 0 _
   ⟨H4,I4,sm,ha0,Hh⟩ ?step ?done)
  case step =>
   rintro j x s1 hx ⟨H1,I1,s1',a1,k1⟩
   simp only [ajJ] at k1 ⊢
   obtain ⟨z,t,hz',rfl⟩:=Jf hv hx
   have hj:j<ns.length:=(aK1.mp hz').1
   refine aHI (wpAny_attempt (ayO (turn z (axK hz') H1 s1 _ s1' I1 ⟨t,rfl⟩) (λv s2 he=>?_) λ_ _ hF=>hF.elim))
   obtain ⟨v',H',I2,r2,rfl,rfl⟩:=he
   try dsimp only
   obtain ⟨_,qF,n,rK,Mx,eK⟩:=I2.mR k1
   have lK:qF.length<=ns.length:=by
    have:=rK.length
    rw [aUH,aUH,aoM] at this
    lia
   refine aHI (aAq eK rfl ?_ (by rw [ahz,ahk]; lia) (by rw [Array.size_push,ahz,ahk]; lia))
   have ek:ns.take (j+1)=ns.take j++[z]:=by rw [List.take_succ,hz']; rfl
   have I5:=I2.qC (t':=s2.toks) (f:=(·.push v)) (its':=qF++[v]) (ys:=((ns.take (j+1)).map key).map V.int) k1 eK (by simp) (by rw [ek,aIO,aIO]; exact rK.append (.cons r2 .nil)) (by rw [aUH,aUH,aoM,ahk]; lia)
   refine ag7 ⟨rfl,_,I5,λb o y=>?_,?_,Za⟩
   .rw [Zc (Zd y MO)]
    exact s1' _ _ y
   .rw [Zc CW]
    exact a1
  case done =>
   rintro s1 ⟨H1,I1,s1',a1,k1⟩
   rw [ajJ,lv,List.take_length] at k1
   obtain ⟨_,qF,n,rK,Mx,eK⟩:=I1.mR k1
   try dsimp only
   refine aHI (listItems_at eK rfl ?_)
   refine WG (ns:=ns) (key:=key) I1 (by simpa using JH rK) hv nd h64 a1 h0 k1 (by rw [aUH,aUH]; lia) λH' s2 os I2 LP hD po so=>⟨_,rfl,?_⟩
   refine ag7 ⟨_,rfl,.ref (s.heap.objs.size+1),H',I2,rfl,q _ H' os fr (λb o y=>?_) hD po so⟩
   rw [LP b (Zd y fr) (Zd y MO)]
   exact s1' _ _ y
end
end L2
namespace L2
open PySem PySem.Spec PyProof.Rows
structure ay (P:Program) (w:World) (K:W.Frag) (mg:Str->Option Value) (base:Heap) (C:Addr) (m:Str) (k:Nat) (ps:List Str) (sp:Sp):Prop where
 ex:∃ (f:Addr) (fd:FuncData),au P w K mg base aW k f fd ps sp/\Meth K C m f/\Binds K fd ps []
structure pH (P:Program) (w:World) (K:W.Frag) (mg:Str->Option Value) (base:Heap) (C:Addr) (x:Str) (k:Nat) (ps:List Str) (sp:Sp):Prop where
 ex:∃ (f:Addr) (fd:FuncData),au P w K mg base aW k f fd ps sp/\Mk K C f/\mg x=some (.ref C)/\Binds K fd ps []
section
variable {X:Cx} {x m:Str} {p pos apos:Pos} {e o:PySem.Expr} {es:List PySem.Expr} {ta:TE} {t:TA} {k:Nat} {ps:List Str} {sp:Sp} {C:Addr}
theorem Zk {pl:Sem Bool} (M:ay X.prog X.w X.K X.mg X.base C m k ps sp) (hr:br k X.A) (c:mD X.K C) (he:PE X o ta) (ha:PA X (e :: es) t) (hn:tZ (e :: es):=by repeat' (first | exact True.intro | refine ⟨?_,?_⟩))
  (ht:eval (.Call (.Attribute o m apos) (e :: es) [] pos) X.env=(do
   let ov ← eval o X.env
   standAt apos.atName
   let (f,first) ← holding [ov] (getMethod ov m pl)
   callWith pos f first (backTo pos (starEach (e :: es) X.env)) (backToKw pos (keywordEach [] X.env))):=by rfl) :
  PE X (.Call (.Attribute o m apos) (e :: es) [] pos) (nB C m sp [] E0 ta t):=by
 obtain ⟨f,fd,F,hm,hb⟩:=M.ex
 exact Xq he c hm F hr hb .nil n8 ha (sf hn.1) (xq hn.2) ht
theorem BH (M:pH X.prog X.w X.K X.mg X.base C x k ps sp) (hr:br (k+1) X.A) (hg:Gl X x) (ha:PA X (e :: es) t) (hn:tZ (e :: es):=by repeat' (first | exact True.intro | refine ⟨?_,?_⟩)) (hd:(x == ("__debug__" : Str))=false:=by decide) :
  PE X (.Call (.Name x p) (e :: es) [] pos) (ug C sp [] E0 t):=by
 obtain ⟨f,fd,F,M',hm,hb⟩:=M.ex
 exact Xp M' F hr hg hm hb .nil n8 ha (hdb:=hd) (he:=sf hn.1) (hpl:=xq hn.2)
def SS:TS:=λ_ _ _=>False
theorem qk {st:Stmt}:PS X st SS:=λ_ _ _ _ _ _ h=>False.elim h
end
theorem aY.Tp {P:Program} {w:World} {K:W.Frag} {mg:Str->Option Value} {base:Heap} {x qual:Str} {st:Stmt} {f:Addr} {fd:FuncData} {N ps:List Str} {k:Nat} {sp:Sp} (F:aY K x qual st f fd) (S:ah N ps (Zg st)) (len:∀ vs H Q E,sp vs H Q E->vs.length=ps.length)
  (hbody:∀ (cdv:Value) (A:Around) (outer:List Env) (s:Shared) (H:Hp) (vs:List V) (Q:VK) (E:XK),fd.code=cdv->br k (A.deeper (envOfC qual (Zg st) s.heap.objs.size f cdv))->sp vs H Q E ->
   ∃ t,pF (lO aW P w K mg base N qual (Zg st) f cdv A outer s H E).vU (ZH st) t/\t { nx:=λ_ H'=>Q .aR H',rt:=Q } (start N vs) H):au P w K mg base aW (k+1) f fd ps sp:=by
 obtain ⟨oc,od,kV,doc,pm,an,cdv,ct,osl,rfl,lk,hcd⟩:=F.ex
 refine uT lk hcd S len λA outer s H vs Q E hr oX=>?_
 obtain ⟨t,h,q⟩:=hbody cdv A outer s H vs Q E rfl hr oX
 exact ⟨t,h.vU,q⟩
theorem Zl {X:Cx} {K:W.Frag} {e:PySem.Expr} {f:Str} {pos:Pos} {ta:TE} (hK:X.K=K) (he:PE X e ta) (hb:attributeBase e f X.env (eval e X.env)=eval e X.env):PE X (.Attribute e f pos) (zd K ta f):=by
 subst hK
 exact V0 he hb
def Ag (gy:Scope) (oN:List Str) (scope:Scope) (x:Str) (fr:List Str) (js:List Nat):Bool :=
 scope.kind == .function && !scope.isCoroutine && !scope.isGenerator && scope.names.all (λy=>y.2 != .cell) && scope.names.lookup x == some .local &&
 scope.names.all (λy=>y.2 != .free || (gy.names.lookup y.1 == some .cell || gy.names.lookup y.1 == some .free)) && fr.length == js.length &&
 (js.map λj=>oN[j]?) == fr.map some && fr.all λy=>scope.names.lookup y == some .free
theorem Yp {X:Cx} {gy:Scope} {oN:List Str} {scope:Scope} {x:Str} {fr:List Str} {js:List Nat} (h:Ag gy oN scope x fr js=true) (hs:X.env.scope=gy) (hN:X.N=oN):l7 X scope x fr js:=by
 unfold Ag at h
 simp only [aeR,aQO,Bool.or_eq_true,arV,bne_iff_ne,ne_eq,aB5] at h
 obtain ⟨⟨⟨⟨⟨⟨⟨⟨h1,h2⟩,h3⟩,h4⟩,h5⟩,h6⟩,h7⟩,h8⟩,h9⟩:=h
 refine ⟨h1,h2,h3,h4,h5,λy hy hf=>?_,h7,λk j e=>?_,λk y e=>h9 y (axK e)⟩
 .rcases h6 y hy with q | q
  .exact absurd hf q
  .show X.env.scope.names.lookup y.1=_\/X.env.scope.names.lookup y.1=_
   rw [hs]; exact q
 .rw [hN]
  have z:=a5E (λl=>l[k]?) h8
  simp only [aJm,e,a8y] at z
  cases q:fr[k]? with
  | none=>rw [q] at z; cases z
  | some y=>rw [q] at z; exact (a6S z).symm
theorem VI {A:Around} {k:Nat} {env:Env} (hr:br k A):(A.in1.in1.deeper env).units+1<cLine:=by
 have:=hr.un
 show A.units+1+1+3+1<cLine
 lia
def Nz (K:W.Frag) (P:Addr) (lI:Pos) (qual:Str) (js:List Nat) (te:TE) (σ:St) (Q:VK) (x:V) (H1:Hp):Prop:=∃ (l:Addr) (ns:List Int) (key:Int->Int),x=.ref l/\aG K H1 l (ns.map V.int)/\ns.length<64/\ns.Nodup/\H1 P=some (.kD lI qual) /\
 (∀ z∈ns,∀ H2,aB H1 H2->te (some (.int z) :: js.map λj=>(σ[j]?).join) H2 λv H'=>v=.int (key z)/\H'=H2) /\
 ∀ (D:Addr) (H':Hp) (os:List Int),H1 D=none->aB H1 H'->H' D=some (.lst (os.map V.int))->os.Perm ns->os.Pairwise (sy key ns)->Q (.ref D) H'
def VH (K:W.Frag) (P:Addr) (lI:Pos) (qual:Str) (js:List Nat) (Cy te:TE):TE:=λσ H Q=>Cy σ H λx H1=>Nz K P lI qual js te σ Q x H1
section
variable {X:Cx}
theorem Yo {K:W.Frag} {P c0:Addr} {k:Nat} {y:Str} {fr:List Str} {js:List Nat} {qual:Str} {params:Arguments} {body xs:PySem.Expr} {scope:Scope} {p pos lI kpos:Pos} {Cy te:TE} (hK:X.K=K) (hr:br k X.A) (hcl:X.calm=true) (hg:Gl X "sorted") (hm:X.mg "sorted" = none)
  (c:l7 X scope y fr js) (hc0:X.env.code=.ref c0) (hcd:W.codeHdIn X.K c0 P=true) (bm:BMod X.base X.mg) (hq:X.env.qual ++ "<lambda>" = qual) (hd0:params.defaults=[]) (hk0:params.kw_defaults=[])
  (hb:∀ cl pm cd ct u,bindArgs (W.kla_fn "<lambda>" qual params body scope cl pm cd ct) ⟨[u],[]⟩=pure [(y,u)]) (ha:PE X xs Cy)
  (he:∀ f cd cl s H,PE (i8 X X.A.in1.in1 (y :: fr) qual scope f cd cl s H) body te) (hn:tZ [xs]:=by repeat' (first | exact True.intro | refine ⟨?_,?_⟩)) :
  PE X (.Call (.Name "sorted" p) [xs] [⟨some "key",.Lambda params body scope lI,kpos⟩] pos) (VH K P lI qual js Cy te):=by
 subst hK
 subst hq
 intro pins s σ H Q I h
 refine agp (se I hg hm boot_sorted ?_ (by decide) (by decide))
 refine callWith_kw (mG ((pc ha Zb hn.1) pos pins s σ H (λvs H1=>match vs with | [x]=>Nz X.K P lI (X.env.qual ++ "<lambda>") js te σ Q x H1 | _=>False) I h) λus s1 vs H1 I1 r1 q1=>?_) (by rw [sf hn.1]; rfl) (by rw [sf hn.1]; rfl) rfl rfl
 match vs,r1,q1 with
 | [],_,z=>exact z.elim
 | _ :: _ :: _,_,z=>exact z.elim
 | [x],r1,q1 =>
  obtain ⟨l,ns,key,rfl,hS,h64,nd,hP,ht,q⟩:=q1
  obtain ⟨u,rfl,ru⟩:=vals1 r1
  cases ru
  show wpAny _ _ (evalAll [(do let v ← eval (.Lambda params body scope lI) X.env; standAt pos; pure v)]) _ _ s1
  refine wpAny_evalAll_cons (aHI (XC c I1 hc0 hcd bm hP hd0 hk0 λf cl cd pm ct of H2 s2 I2 sm jn kZ hf hof hcode=>aHI (aSN (ag7 (wpAny_evalAll_nil ?_)))))
  show wpAny _ _ (call (.builtin "sorted") [.ref l] [(Str.ofString "key",.ref f)]) _ _ s2
  refine Yq I2 (sm.seq hS) h64 nd (λz hz H3 s3 u Ft I3 ru=>?_) λD H' os hD S0 hl po so=>q D H' os (sm.free hD) (sm.trans S0) hl po so
  have Tr:=(I3.hok f _ (Ft _ _ hf)).1
  obtain ⟨c',oc,vs',t',rfl,hc',hd',hv'⟩:=hcode
  have Tz:=(I3.hok c' _ (Ft _ _ hc')).1
  exact XD (A:=X.A.in1.in1) c I3 I3.ok.frames (I3.ok.hd hcl) hr.depth jn kZ Tr hof ⟨c',oc,vs',t',rfl,Tz,hd',hv'⟩ (hb cl pm _ ct) ru (λs=>he f _ cl s H3) (ht z hz H3 (sm.trans Ft))
end
theorem YD {P:Program} {w:World} {K:W.Frag} {mg mb:Str->Option Value} {CX:sA} {k:Nat} {fa a tp c0:Addr} {pos:Pos} {qual:Str} {fd:FuncData} {x:Str} {sp:Sp} {s₁:Shared} {vs:List Value} {ns:List Int}
  (KX:K.In s₁.heap) (hns:s₁.heap.Ns mainGlobals mg) (hb:s₁.heap.Ns builtinsNs mb) (UX:∀ x:Str,x ≠ "__name__" -> mb x=bootBuiltins x) (hlim:s₁.heap.NoLimit) (hg:s₁.gens=#[])
  (ha:s₁.heap.get? a=some { cls:=.type "list",data:=.seq vs.toArray }) (hi:IntsAre vs ns) (hl:ns.length<=sizeLine) (hr:br k callerA)
  (htp:s₁.heap.get? tp=some { cls:=.none,data:=.fields #[] }) (hch:W.codeHdIn K c0 tp=true) (U3:K.lookup tp=none)
  (hbm:BMod s₁.heap mg) (F:∀ base:Heap,K.In base->base.Ns mainGlobals mg->BMod base mg->au P w K mg base CX k fa fd [x] sp) (hbind:∀ (s:Shared) (u:Value),BindsTo s fd ⟨[u],[]⟩ [(x,u)])
  (oX:∀ H:Hp,H tp=some (.kD pos qual)->aG K H a (ns.map V.int)->sp [.ref a] H (λv _=>v=.bl true) λ_ _ _=>False)
  (Hq:∀ H e s',CX [] H s₁ (λ_ _ _=>False) e s'->False) :
  codeAny (model P w) callerA (.call (.ref fa) ⟨[.ref a],[]⟩) (λr s'=>r=.ok (.ret (.bool true))/\OldK s₁.heap s'.heap/\s'.os=s₁.os/\AllBare s'.gens) s₁:=by
 have rv:=Ej hi
 have Gj:=hi.length
 have nat:a≠tp:=λz=>by rw [z,htp] at ha; cases ha
 have core:∀ H:Hp,H tp=some (.kD pos qual)->aG K H a (ns.map V.int)->fC P w H s₁.heap->(∀ b,H b≠none->b=tp\/(b=a/\∃ o xs,H b=some (.dz o (.lst xs))))->(H a≠none->K.lookup a=none) ->
   codeAny (model P w) callerA (.call (.ref fa) ⟨[.ref a],[]⟩) (λr s'=>r=.ok (.ret (.bool true))/\OldK s₁.heap s'.heap/\s'.os=s₁.os/\AllBare s'.gens) s₁:=by
  intro H hT hS hok hA hK
  have TZ:∀ {b:Addr} {o:Obj} {es:Array DictEntry} {ep:Nat},s₁.heap.get? b=some o->o.data=.dict es ep->H b=none:=λ{b o es ep} e d=>by
   cases q:H b with
   | none=>rfl
   | some u =>
    rcases hA b (by rw [q]; simp) with z | ⟨z,_⟩
    .rw [z,htp] at e
     cases e
     cases d
    .rw [z,ha] at e
     cases e
     cases d
  have CS:∀ {b:Addr} {m:Str->Option Value},s₁.heap.Ns b m->(kP s₁.heap H).Ns b m:=λ{b m} ⟨o,es,ep,e,d,r⟩=>⟨o,es,ep,Jj e (TZ e d),d,r⟩
  have MG:K.In (kP s₁.heap H):=λb o e=>Jj (KX b o e) (by
   cases q:H b with
   | none=>rfl
   | some u =>
    rcases hA b (by rw [q]; simp) with z | ⟨z,_⟩
    .rw [z,U3] at e
     cases e
    .have n:H a≠none:=by rw [← z,q]; simp
     rw [z,hK n] at e
     cases e)
  have hM:Mod K mg (kP s₁.heap H):=⟨MG,CS hns,⟨mb,CS hb,UX⟩,let ⟨mc,h1,h2⟩:=hlim; ⟨mc,CS h1,h2⟩⟩
  have e0:ny P w K mg (kP s₁.heap H) callerA [] s₁ H:=⟨rfl,hM,λb o e=>Xz e,Nat.le_of_eq (Z7 _ _),trivial,λb hb=>absurd (show b∈([]:List Addr) from hb) (by simp),hok,.of_eq hg⟩
  have hB:BMod (kP s₁.heap H) mg:=by
   obtain ⟨b,o,a1,a2,a3,a4,a5,a6,a7⟩:=hbm
   refine ⟨b,o,a1,a2,a3,Jj a4 ?_,a5,a6,a7⟩
   cases q:H b with
   | none=>rfl
   | some u =>
    rcases hA b (by rw [q]; simp) with z | ⟨z,_⟩
    .rw [z,htp] at a4
     cases a4
     cases a5
    .rw [z,ha] at a4
     cases a4
     have a8:Value.type "list" = Value.type "module" := a5
     injection a8 with a8
     exact absurd a8 (by decide)
  refine codeAny_mono ((F _ MG (CS hns) hB).run callerA [] s₁ H ⟨[.ref a],[]⟩ [.ref a] [.ref a] _ _ hr e0 (hbind s₁ (.ref a)) (.cons rfl .nil) (oX H hT hS)) λr s' h=>?_
  cases r with
  | error e=>exact (Hq H e s' h).elim
  | ok fl =>
   cases fl with
   | next=>exact False.elim h
   | brk=>exact False.elim h
   | cont=>exact False.elim h
   | ret u =>
    obtain ⟨v,H',os,bare,un,AD,r',q⟩:=h
    have q':v=.bl true:=q
    subst q'
    obtain rfl:u=Value.bool true:=r'
    have tab:=(W.codeHd_of_K KX hch).tab htp
    have t2:=AD tp _ (un.jw _ _ _ hT)
    obtain ⟨ps,hps,_⟩:=t2
    have old:∀ b o,s₁.heap.get? b=some o->b≠tp->s'.heap.get? b=some o:=λb o e nb=>by
     cases q:H b with
     | none=>exact un.keep b o e q (by intro z; exact absurd (show b∈([]:List Addr) from z) (by simp)) (by simp)
     | some u =>
      rcases hA b (by rw [q]; simp) with z | ⟨_,ob,xs,z⟩
      .exact absurd z nb
      .have z2:=un.jm b ob _ z
       obtain ⟨e1,_⟩:=hok b _ z
       obtain ⟨e2,_⟩:=AD b _ z2
       rw [e] at e1
       cases e1
       exact e2
    refine ⟨rfl,⟨λb o e=>?_,λb o e=>?_⟩,os,bare⟩
    .by_cases nb:b=tp
     .subst nb
      rw [htp] at e
      cases e
      exact .inr (.inl ⟨tab.isCodeTable,rfl,#[],ps,rfl,by rw [hps]; simp⟩)
     .exact .inl (old b o e nb)
    .by_cases nb:b=tp
     .subst nb
      exact ⟨_,hps⟩
     .exact ⟨o,old b o e nb⟩
 have tb:∀ H:Hp,aH P w H s₁.heap tp (.kD pos qual):=λH=>⟨#[],htp,True.intro,λcv e=>by cases e⟩
 cases hk:K.lookup a with
 | some o =>
  have e:=KX a o hk
  rw [ha] at e
  cases e
  refine core (λb=>if b=tp then some (.kD pos qual) else none) (bb9 rfl) (.inr ⟨_,vs.toArray,_,hk,rfl,rfl,rfl,by rw [ahz,Gj]; exact hl,by simpa using rv⟩) (λb u z=>?_) (λb z=>?_) λz=>absurd (aYW nat) z
  .by_cases hb:b=tp
   .have z':=(bb9 hb).symm.trans z
    cases z'
    subst hb
    exact tb _
   .have z':=(aYW hb).symm.trans z
    cases z'
  .by_cases hb:b=tp
   .exact .inl hb
   .exact absurd (aYW hb) z
 | none =>
  refine core (λb=>if b=tp then some (.kD pos qual) else if b=a then some (.dz { cls:=.type "list",data:=.seq vs.toArray } (.lst (ns.map V.int))) else none) (bb9 rfl) (.inl (.inr ⟨{ cls:=.type "list",data:=.seq vs.toArray },(aYW nat).trans (bb9 rfl)⟩)) (λb u z=>?_) (λb z=>?_) λ_=>hk
  .by_cases hb:b=tp
   .have z':=(bb9 hb).symm.trans z
    cases z'
    subst hb
    exact tb _
   .have z':=(aYW hb).symm.trans z
    by_cases hb2:b=a
    .have z2:=(bb9 hb2).symm.trans z'
     cases z2
     subst hb2
     exact ⟨ha,by rw [aUH]; exact hl,vs,_,rv,ha⟩
    .have z2:=(aYW hb2).symm.trans z'
     cases z2
  .by_cases hb:b=tp
   .exact .inl hb
   .by_cases hb2:b=a
    .exact .inr ⟨hb2,_,_,(aYW hb).trans (bb9 hb2)⟩
    .exact absurd (by show (if b=tp then _ else if b=a then _ else none)=none; rw [aYW hb,aYW hb2]) z
theorem Yn {l:W.OpenLaw} {n k:Nat} {q:Program} {loose:List Str} {XP:(Str->Option Value)->Heap->Prop} {YP:World->Heap->Prop} {d:DefRec} {K:Params->W.Frag} {CX:World->sA} {sp:World->Sp} {x:Str} {tp:Addr} {pos:Pos} {qual:Str} {G:World->Prop}
  (hn:l.most=some n) (hn2:n<=sizeLine) (hdf:d.params.defaults=[]) (hr:br k callerA)
  (hY:∀ (w:World) (h:Heap),YP w h->(K w.params).In h/\h.get? tp=some { cls:=.none,data:=.fields #[] })
  (F:∀ (w:World) (mg:Str->Option Value) (fa:Addr) (h:Heap),(K w.params).In h->h.Ns mainGlobals mg->mg d.name=some (.ref fa) ->
   G w/\(∃ c0,W.codeHdIn (K w.params) c0 tp=true)/\(K w.params).lookup tp=none/\∃ fd:FuncData,(∀ (s:Shared) (u:Value),BindsTo s fd ⟨[u],[]⟩ [(x,u)]) /\
    ∀ base:Heap,(K w.params).In base->base.Ns mainGlobals mg->BMod base mg->au l.prog w (K w.params) mg base (CX w) k fa fd [x] (sp w))
  (oX:∀ (w:World) (H:Hp) (a:Addr) (ns:List Int),G w->ns.length<=n->H tp=some (.kD pos qual)->aG (K w.params) H a (ns.map V.int)->sp w [.ref a] H (λv _=>v=.bl true) λ_ _ _=>False)
  (Hq:∀ (w:World) (H:Hp) (s:Shared) (e:Value) (s':Shared),CX w [] H s (λ_ _ _=>False) e s'->False) :
  W.WalkO q loose XP YP l.row.toRowW d [] (λf vs=>PySem.call f vs):=by
 refine Ri.lT hn hdf λw s₀ s₁ mg mb fa o pm cd doc a vs ns G' Y ho hd hcd hmg hobj hints hlen hg=>?_
 obtain ⟨KX,htp⟩:=hY w _ Y
 obtain ⟨g,⟨c0,hc⟩,hk,fd,hb,hF⟩:=F w mg fa _ KX G'.T.g hmg
 have hbm:BMod s₁.heap mg:=by
  obtain ⟨bm,ob,b1,b2,b3,b4,b5,b6⟩:=G'.T.bmain
  refine ⟨bm,ob,b1,b2,λz=>?_,b3,b4,b5,b6⟩
  obtain ⟨o,es,ep,e,hd',_⟩:=G'.T.g
  rw [z,e] at b3
  cases b3
  rw [hd'] at b6
  cases b6
 exact YD KX G'.T.g G'.T.b G'.T.builtins G'.T.nolimit hg hobj hints (auj hlen hn2) hr htp hc hk hbm hF hb (λH hT hS=>oX w H a ns g hlen hT hS) λH e s'=>Hq w H s₁ e s'
def aa (K:W.Frag) (x:Str):Addr:=match W.nsIn K mainGlobals x with
 | some (some (.ref C))=>C
 | _=>0
def tabOf (K:W.Frag) (x m:Str):Addr:=match W.findIn K (.ref (aa K x)) m with
 | some (some (.ref f))=>(match K.lookup f with
  | some ⟨_,_,.func fd,_⟩=>(match fd.code with
   | .ref c=>(match K.lookup c with
    | some ⟨_,_,.fields vs,_⟩=>(match (vs[11]?:Option Value) with
     | some (.ref P)=>P
     | _=>0)
    | _=>0)
   | _=>0)
  | _=>0)
 | _=>0
theorem BG {K:W.Frag} {x:Str} {C:Addr} (h:W.nsIn K mainGlobals x=some (some (.ref C))):aa K x=C:=by
 unfold aa
 rw [h]
theorem Ym {K:W.Frag} {x m:Str} {f c P:Addr} {oc:Value} {od:Option Addr} {fd:FuncData} {sl:Array (Option Value)} (h1:W.findIn K (.ref (aa K x)) m=some (some (.ref f))) (h2:K.lookup f=some ⟨oc,od,.func fd,sl⟩) (h3:fd.code=.ref c)
  (h4:W.codeHdIn K c P=true):tabOf K x m=P:=by
 unfold W.codeHdIn at h4
 split at h4
 .rename_i vs _ hk
  simp only [aeR] at h4
  obtain ⟨⟨⟨⟨⟨e1,_⟩,_⟩,_⟩,_⟩,_⟩:=h4
  split at e1
  .rename_i P' h11
   have hP:P'=P:=arV.mp e1
   subst hP
   unfold tabOf
   simp only [h1,h2,h3,hk,h11]
  .cases e1
 .cases h4
end L2
namespace L2
open PySem PySem.F PyProof.Rows PySem.MeetsSeq
variable {K:W.Frag} {X:Cx} {pins:List Pin} {σ:St} {H:Hp} {s:Shared}
theorem vd {e:PySem.Expr} {T:String} {r:V->List V->Hp->VK->Prop} {to:TE} {t:TA} (hK:X.K=K) (h:PE X e (Fi X.K T r to t)):PE X e (Fi K T r to t):=by
 subst hK; exact h
end L2
namespace L2
open PySem PySem.Calls PyProof.Rows PySem.MeetsSeq PySem.W
variable {K:W.Frag} {X:Cx} {pins:List Pin} {σ:St} {H:Hp} {s:Shared}
def Yl:List V->Hp->VK->Prop:=λxs H Q=>∃ (d:Addr) (kvs:List (Key×V)) (ns:List Int),xs=[.ref d]/\H d=some (.dK kvs)/\kvs.map Prod.fst=ns.map Sum.inl/\ns.length<64 /\
 ∀ (D:Addr) (os:List Int),H D=none->os.Perm ns->os.Pairwise (·<=·)->Q (.ref D) (upd H D (.lst (os.map V.int)))
theorem OX:∀ {xs:List V} {us:List Value},xs.length=us.length->(∀ (i:Nat) x u,xs[i]?=some x->us[i]?=some u->RelV x u)->Vals xs us
 | [],[],_,_=>.nil
 | [],_ :: _,h,_=>nomatch h
 | _ :: _,[],h,_=>nomatch h
 | x :: xs,u :: us,h,k=>.cons (k 0 x u rfl rfl) (OX (by simpa using h) λi x' u' h1 h2=>k (i+1) x' u' (by simpa using h1) (by simpa using h2))
theorem Ny:∀ {kvs:List (Key×V)} {vs:List (Key×Value)},KV kvs vs->∀ {i:Nat} {p:Key×V} {q:Key×Value},kvs[i]?=some p->vs[i]?=some q->p.1=q.1
 | _,_,.nil,_,_,_,h,_=>nomatch h
 | _,_,.cons r t,0,_,_,h1,h2=>by cases h1; cases h2; exact r.1
 | _,_,.cons r t,i+1,_,_,h1,h2=>Ny (i:=i) t (by simpa using h1) (by simpa using h2)
theorem QC {P:Program} {w:World} {kvs:List (Key×V)} {vs:List (Key×Value)} {ns:List Int} {acc:Array Value} (r:KV kvs vs) (e:kvs.map Prod.fst=ns.map Sum.inl) (h:ItemsOf (λi v=>∃ k x,vs[i]?=some (k,x)/\(Zv P w).is k v=true) acc vs.length):IntsAre acc.toList ns:=by
 have lv:kvs.length=vs.length:=aMl r
 have ln:kvs.length=ns.length:=by have:=a5E List.length e; simpa using this
 refine JH (OX (by have l3:acc.toList.length=acc.size:=aLz; have l4:=h.1; rw [aUH]; lia) λi x u hx hu=>?_)
 rw [acr] at hu
 obtain ⟨k,y,h1,h2⟩:=h.2 i u hu
 have hi:i<kvs.length:=by rw [lv]; exact (aK1.mp h1).1
 have e1:=Ny r (aJu hi) h1
 have e2:(kvs.map Prod.fst)[i]?=some k:=by rw [aJm,aJu hi]; exact a5E some e1
 rw [e,aJm] at e2
 rw [aJm] at hx
 cases g:ns[i]? with
 | none=>rw [g] at hx; cases hx
 | some z =>
  rw [g] at hx e2
  cases hx; cases e2
  exact Qe h2
theorem QX (hc:X.calm=true):bF X (.builtin "sorted") Yl:=by
 intro pins s σ H xs us Q I r h
 obtain ⟨d,kvs,ns,rfl,hd,hk,h64,q⟩:=h
 obtain ⟨u,rfl,rx⟩:=vals1 r
 cases rx
 obtain ⟨hz,hs,vs,rv,hD⟩:=I.hok d _ hd
 obtain ⟨ep,hat⟩:=hD.dictAt
 have hl:vs.length=ns.length:=by have l1:kvs.length=vs.length:=aMl rv; have l2:=a5E List.length hk; simp at l2; lia
 refine call_function_entry kind_sorted plain_sorted entry_sorted (args_sorted1 _) ?_
 unfold Builtin.«sorted»
 refine aHI (m:=checkCount "sorted" 1 1 _) (ag7 ?_)
 refine aHI (kdu_collect (A:=X.A.in1) (kdl_dict (knd:=Zv X.prog X.w) (kvs:=vs) (ep:=ep) hs) (show X.A.in1.handled=none from I.ok.hd hc) hat (by rw [ahk]; lia) λh' tk acc hk' hacc=>?_)
 have hI:=QC rv hk hacc
 have la:acc.toList.length=ns.length:=by rw [aLz,hacc.1,hl]
 refine aHI (bd9 ?_ (by rw [la,ahk]; lia))
 have kX:(h'.push (seqObj "list" acc.toList.toArray 0)).get? h'.objs.size=some (seqObj "list" acc.toList.toArray 0):=a3a _ rfl
 have I1:=I.kept (t':=tk) hk'
 show wpAny _ _ _ _ _ { s with heap:=h'.push (seqObj "list" acc.toList.toArray 0),toks:=tk }
 refine aHI (aOb (aM9 slot_list_sort ⟨_,kX,rfl⟩ entry_list_sort (list_sort_tree kX hI (by lia) λout ns' a1 a2 a3=>⟨_,rfl,?_⟩) (args_list_sort _)))
 refine ag7 ⟨_,rfl,?_⟩
 obtain ⟨e,he⟩:=sortedHeap_at (out:=out) kX
 have fr:H h'.objs.size=none:=I1.hok.fresh (aDN _)
 have lo:=a2.length_eq
 refine ⟨.ref h'.objs.size,_,I1.laid (a:=h'.objs.size) (t':=tk) (o:=.lst (ns'.map V.int)) (λb o z=>?_) (aDN _) ⟨by rw [aUH,lo,ahk]; lia,out.toList,e,Ej a1,he⟩,rfl,q _ ns' fr a2 a3⟩
 have z':h'.get? b=some o:=z
 have lt:=aSe z'
 rw [sortedHeap_old (anq lt) (by rw [size_push']; exact aK0 lt),aj9 _ _ _ (anq lt)]
 exact z'
theorem ZR {C:Addr} {m:Str} {k:Nat} {ps:List Str} {sp:Sp} {o:PySem.Expr} {ta:TE} {apos pos:Pos} {pl:Sem Bool} (M:ay X.prog X.w X.K X.mg X.base C m k ps sp) (hr:br k X.A) (c:mD X.K C) (he:PE X o ta)
  (ht:eval (.Call (.Attribute o m apos) [] [] pos) X.env=(do
   let ov ← eval o X.env
   standAt apos.atName
   let (f,first) ← holding [ov] (getMethod ov m pl)
   callWith pos f first (backTo pos (starEach [] X.env)) (backToKw pos (keywordEach [] X.env))):=by rfl) :
  PE X (.Call (.Attribute o m apos) [] [] pos) (nB C m sp [] E0 ta vE):=by
 obtain ⟨f,fd,F,hm,hb⟩:=M
 exact XS he c hm F hr hb .nil (λ_ _ _ _ _ _ _ z=>z.elim) ht
end L2
namespace L2
open PySem PySem.Calls PySem.Spec PyProof.Rows PySem.W
structure Cm (K:W.Frag) (C:Addr) (m:Str) (f:Addr):Prop where
 ga:W.specialIn K (.ref C) "__getattribute__" = some (some (.builtin "type.__getattribute__"))
 rd:∃ mc,W.readsIn K C mc=true/\W.findCls K (.ref C) mc m=some (.val (.ref f))
 kp:W.keepIn K (.ref f)=true
structure xE (P:Program) (w:World) (K:W.Frag) (mg:Str->Option Value) (base:Heap) (x m:Str) (k:Nat) (ps:List Str) (sp:Sp):Prop where
 ex:∃ (C f:Addr) (fd:FuncData),au P w K mg base aW k f fd ps sp/\Cm K C m f/\mg x=some (.ref C)/\Binds K fd ps []
section
variable {X:Cx} {x m:Str} {p pos apos:Pos} {e o:PySem.Expr} {es:List PySem.Expr} {ta:TE} {t:TA} {k:Nat} {ps:List Str} {sp:Sp} {C:Addr}
theorem WE {pl:Sem Bool} (M:xE X.prog X.w X.K X.mg X.base x m k ps sp) (hr:br k X.A) (hg:Gl X x) (ha:PA X (e :: es) t) (hn:tZ (e :: es):=by repeat' (first | exact True.intro | refine ⟨?_,?_⟩)) (hd:(x == ("__debug__" : Str))=false:=by decide)
  (ht:eval (.Call (.Attribute (.Name x p) m apos) (e :: es) [] pos) X.env=(do
   let ov ← eval (.Name x p) X.env
   standAt apos.atName
   let (f,first) ← holding [ov] (getMethod ov m pl)
   callWith pos f first (backTo pos (starEach (e :: es) X.env)) (backToKw pos (keywordEach [] X.env))):=by rfl) :
  PE X (.Call (.Attribute (.Name x p) m apos) (e :: es) [] pos) (nC sp [] E0 t):=by
 obtain ⟨C,f,fd,F,c,hm,hb⟩:=M.ex
 obtain ⟨mc,hr1,hr2⟩:=c.rd
 intro pins s σ H Q I h
 have he:PE X (.Name x p) (tC (.ref C)):=Pg (v:=.ref C) hg hm rfl hd
 refine W.methodCall_KW (pl:=pl) (b7 (he pins s σ H (λv H1=>v=.ref C/\H1=H) I ⟨rfl,rfl⟩) λu s1 ⟨x,H1,I1,rx,e1,e2⟩=>?_) ht
 subst e1 e2
 obtain rfl:u=Value.ref C:=rx
 have I2:Inv X pins σ H1 { s1 with toks:=s1.toks+1 }:=I1.kept (t':=s1.toks+1) λb o e=>e
 refine W.method_cls I1.eL c.ga (W.cls_value I1.eL hr1 hr2 rfl ?_)
 refine W.callWith_K (first:=[]) (h₀:=X.base) I.ok.mod.yf c.kp (mG (ha pos pins _ σ H1 _ I2 h) λus s2 vs H2 I3 r q2=>⟨I3.eL,?_⟩) (sf hn.1) (xq hn.2)
 exact DA (us:=us) (vs:=vs) F hr hb .nil n8 I3 r q2
end
theorem br.m {j k:Nat} {A:Around} (r:br k A) (h:j<=k:=by first | decide | lia):br j A:=r.mono h
section
variable {X:Cx} {pos:Pos}
theorem ck (i:Nat) {x:Str} (hN:X.N.Nodup) (hi:X.N[i]?=some x:=by rfl) (hx:Loc X.env.scope x:=by first | exact Or.inl rfl | exact Or.inr rfl) (hf:X.fn x=true\/X.env.scope.names.lookup x=some .local:=by first | exact .inl rfl | exact .inr rfl | assumption):PG X (.Name x pos) (fP i):=Xy hN hi hx hf
theorem eB (i:Nat) {x:Str} {e:PySem.Expr} {te:TE} {pos':Pos} (hN:X.N.Nodup) (he:PE X e te) (hi:X.N[i]?=some x:=by rfl) (hx:Loc X.env.scope x:=by first | exact Or.inl rfl | exact Or.inr rfl) (hs:swapsWith e (some (.Name x pos')) pos.line X.env=pure false:=by rfl) (hf:X.fn x=true\/X.env.scope.names.lookup x=some .local:=by first | exact .inl rfl | exact .inr rfl | assumption):PS X (.Assign [.Name x pos'] e pos) (oO te (fP i)):=V3 hN hi hx he hs hf
end
end L2
namespace L2
open PySem PySem.F PyProof.Rows
variable {K:W.Frag} {X:Cx} {pins:List (Addr×Obj)} {σ:St} {H H':Hp} {s:Shared}
end L2
namespace L2
open PySem PySem.F PyProof.Rows PySem.MeetsSeq
variable {K:W.Frag} {X:Cx}
end L2
namespace L2.aF
open PySem PySem.Spec PyProof.Rows
structure RR where
 r:Keyed->Nat
 g:Keyed->Int
def Kg (ρ:RR) (xs:Array Keyed) (i:Nat):Int:=(xs[i]?).elim 0 ρ.g
theorem cQ {ρ:RR} {xs ys:Array Keyed} {i j:Nat} (h:xs[i]?=ys[j]?):Kg ρ xs i=Kg ρ ys j:=by unfold Kg; rw [h]
theorem kC {ρ:RR} {xs:Array Keyed} {src d:Nat} (hs:src<xs.size) (hd:d<=src) (k:Nat) :
  Kg ρ (bubble xs src d) k=if k=src - d then Kg ρ xs src else if src - d<k/\k<=src then Kg ρ xs (k - 1) else Kg ρ xs k:=by
 have e:=getElem?_bubble hs d hd k
 by_cases c:k=src - d
 .rw [bb9 c] at e ⊢; exact cQ e
 .by_cases c2:src - d<k/\k<=src
  .rw [aYW c,bb9 c2] at e ⊢; exact cQ e
  .rw [aYW c,aYW c2] at e ⊢; exact cQ e
theorem iO {ρ:RR} {xs:Array Keyed} {i j:Nat} (hj:j<=xs.size) (k:Nat) :
  Kg ρ (mirror xs i j ((j - i) / 2)) k=if i<=k/\k<j then Kg ρ xs (i+j - 1 - k) else Kg ρ xs k:=by
 have e:=getElem?_mirror_all (i:=i) hj k
 by_cases c:i<=k/\k<j
 .rw [bb9 c] at e ⊢; exact cQ e
 .rw [aYW c] at e ⊢; exact cQ e
theorem cy {ρ:RR} {xs:Array Keyed} {i j:Nat} (hj:j<=xs.size) (al:∀ k,i<=k->k<j->Kg ρ xs k=Kg ρ xs (j - 1)) (k:Nat):Kg ρ (mirror xs i j ((j - i) / 2)) k=Kg ρ xs k:=by
 rw [iO hj]
 by_cases c:i<=k/\k<j
 .rw [bb9 c,al _ (by lia) (by lia),al k c.1 c.2]
 .rw [aYW c]
def jr (prog:Program) (w:World) (A:Around) (s:Shared) (κ:SortKind) (ρ:RR) (a₀:Array Keyed):Prop :=
 ∀ p,p∈a₀.toList->∀ q,q∈a₀.toList->∀ (E:Value->Shared->Prop) (Q:Bool->Shared->Prop),Q (decide (ρ.g p<ρ.g q)) s->wpAny (model prog w) A (keyLt' κ p.1 q.1) Q E s
end L2.aF
namespace L2
open PySem PySem.Spec PyProof.Rows
section
open PySem.SeqAt
open PySem.AutoSeq1 (wpAny_loadPart')
open PySem.MeetsSeq PySem.MeetsSeq2 PySem.MeetsSeq3
end
section
variable {prog:Program} {w:World} {A:Around} {E:Value->Shared->Prop} {s:Shared}
def mJ (h:Heap) (a:Addr) (us:List Value):Heap:=((h.update a (Obj.mapSeq λ_=>#[])).push (seqObj "tuple" us.toArray 0)).push (seqObj "list" #[] 0)
theorem Yk {h:Heap} {a b:Addr} {us:List Value} {o:Obj} (n:b≠a) (e:h.get? b=some o):(mJ h a us).get? b=some o :=
 aIi _ (aIi _ (by rw [Heap.get?_update_ne _ _ _ _ n]; exact e))
end
def sI:Value->Addr
 | .ref a=>a
 | _=>0
theorem Qa {α:Type}:∀ l:List α,l.zip l=l.map λv=>(v,v)
 | []=>rfl
 | x :: r=>by rw [List.zip_cons_cons,Qa r]; rfl
theorem QL (us:List Value):(pairsOf us).toList=us.map λv=>(v,v):=by
 unfold pairsOf
 rw [Array.toList_zip]
 exact Qa us
variable {K:W.Frag} {X:Cx}
end L2
namespace L2
open PySem PySem.Spec PyProof.Rows
section
variable {X:Cx} {pos:Pos}
def yZ (i j l:Nat) (ta:TA):TS:=λD σ H=>ta σ H λvs H1=>∃ v w x,vs=[v,w,x]/\D.nx (((σ.set i (some v)).set j (some w)).set l (some x)) H1
theorem WD {i j l:Nat} {x y z:Str} {a b c:PySem.Expr} {ta:TA} {px py pz pt:Pos} {kt k2 vM} (hc:X.calm=true) (hN:X.N.Nodup) (hi:X.N[i]?=some x) (hj:X.N[j]?=some y) (hl:X.N[l]?=some z) (hij:i≠j/\i≠l/\j≠l)
  (hx:X.env.scope.names.lookup x=some .local) (hy:X.env.scope.names.lookup y=some .local) (hz:X.env.scope.names.lookup z=some .local) (ha:PA X [a,b,c] ta)
  (hw:swappedStores [.Tuple [.Name x px,.Name y py,.Name z pz] kt pt] (.Tuple [a,b,c] k2 vM) X.env=pure (some [x,y,z]))
  (hs:swapsWithSole [.Tuple [.Name x px,.Name y py,.Name z pz] kt pt] (.Tuple [a,b,c] k2 vM) pos.line X.env=pure false:=by rfl) :
  PS X (.Assign [.Tuple [.Name x px,.Name y py,.Name z pz] kt pt] (.Tuple [a,b,c] k2 vM) pos) (yZ i j l ta):=by
 intro pins s σ H D I h
 rw [exec_Assign_arm]; refine aHI (aSN ?_)
 rw [hs]; refine aHI (ag7 ?_); rw [aYW (by decide)]
 refine aHI (Tuple_ (mG (ha _ pins s σ H _ I h) λus s1 vs H1 I1 r1 q1=>?_))
 obtain ⟨v,w,t,e1,q1⟩:=q1
 subst e1
 obtain ⟨u1,u2,u3,rfl,rv,rw',rt⟩:∃ u1 u2 u3,us=[u1,u2,u3]/\RelV v u1/\RelV w u2/\RelV t u3:=by
  cases r1 with
  | cons p q =>
   cases q with
   | cons p' q' =>
    cases q' with
    | cons p'' Tg =>
     cases Tg
     exact ⟨_,_,_,rfl,p,p',p''⟩
 refine aV5 ?_ (by show 3<=sizeLine; decide)
 have I2:Inv X pins σ H1 { s1 with heap:=s1.heap.push { cls:=.type "tuple",data:=.seq [u1,u2,u3].toArray } }:=I1.kept (t':=s1.toks) λb o e=>aIi _ e
 rw [hw]; refine aHI (ag7 ?_)
 show wpAny (model X.prog X.w) X.A (do rule "assign.swapped-stores"; let items ← unpackItems (.ref s1.heap.objs.size) 3 none; assignInOrder [λv=>bindName X.env z v,λv=>bindName X.env y v,λv=>bindName X.env x v] items.reverse; pure Flow.next) _ _ _
 refine aHI (aGu (aHI (unpackItems_tuple (items:=#[u1,u2,u3]) (I.ok.hd hc) (IsTup.new s1.heap _) λh' hx'=>?_)))
 have I3:=I2.kept (h':=h') (t':=s1.toks) λb o e=>hx' b o (anq (aSe e)) e
 show wpAny _ _ (assignInOrder [λv=>bindName X.env z v,λv=>bindName X.env y v,λv=>bindName X.env x v] [u3,u2,u1] >>= λ_=>pure Flow.next) _ _ _
 refine aHI (a3C (ah4 (xx I3 hN hl (.inl hz) rt (λs2 I4=>?_) (.inr hz))))
 refine a3C (ah4 (xx I4 hN hj (.inl hy) rw' (λs3 I5=>?_) (.inr hy)))
 refine a3C (ah4 (xx I5 hN hi (.inl hx) rv (λs4 I6=>assignInOrder_nil (ag7 ?_)) (.inr hx)))
 have e:((σ.set l (some t)).set j (some w)).set i (some v)=((σ.set i (some v)).set j (some w)).set l (some t):=by
  rw [List.set_comm (some w) (some v) (aI4 hij.1),List.set_comm (some t) (some v) (aI4 hij.2.1),List.set_comm (some t) (some w) (aI4 hij.2.2)]
 rw [e] at I6
 exact ⟨_,H1,I6,q1⟩
end
end L2
namespace L2.tW
open PySem PySem.Spec PyProof.Rows
def yx:Bool->Keyed->Array Keyed->Nat->Nat->Nat->StateT SortSt Sem (Option Nat):=sortPriv% PySem.Builtin.gallop
def ZV:Nat->StateT SortSt Sem Unit:=sortPriv% PySem.Builtin.setMinGallop
def Jx:Array Keyed->Array Keyed->StateT SortSt Sem (Array Keyed):=sortPriv% PySem.Builtin.mergeLo
def Jw:Array Keyed->Array Keyed->StateT SortSt Sem (Array Keyed):=sortPriv% PySem.Builtin.mergeHi
def uY (left:Bool) (key:Keyed) (arr:Array Keyed) (base i:Nat):StateT SortSt Sem (Option Bool):=do
 let x ← elem' arr (base+i)
 if left then lt' x key else return (← lt' key x).map (!·)
def tM (left:Bool) (key:Keyed) (arr:Array Keyed) (base n Uk hi0:Nat):StateT SortSt Sem (Option Nat):=do
 let mut lo:=Uk
 let mut hi:=hi0
 for _ in [0:n] do
  if lo ≥ hi then break
  let m:=lo+(hi - lo) / 2
  let some more ← uY left key arr base m | return none
  if more then lo:=m+1 else hi:=m
 return some hi
def MM (left:Bool) (key:Keyed) (arr:Array Keyed) (base n hint:Nat):StateT SortSt Sem (Option Nat):=do
 let mut ig:=0
 let mut oV:=1
 for _ in [0:n] do
  if oV ≥ n - hint then break
  let some more ← uY left key arr base (hint+oV) | return none
  if !more then break
  ig:=oV
  oV:=2 * oV+1
 tM left key arr base n (hint+ig+1) (hint+min oV (n - hint))
def MN (left:Bool) (key:Keyed) (arr:Array Keyed) (base n hint:Nat):StateT SortSt Sem (Option Nat):=do
 let mut ig:=0
 let mut oV:=1
 for _ in [0:n] do
  if oV ≥ hint+1 then break
  let some found ← uY left key arr base (hint - oV) | return none
  if found then break
  ig:=oV
  oV:=2 * oV+1
 tM left key arr base n (hint+1 - min oV (hint+1)) (hint - ig)
theorem ZjD (left:Bool) (key:Keyed) (arr:Array Keyed) (base n hint:Nat):yx left key arr base n hint=(do
 let some right ← uY left key arr base hint | return none
 if right then MM left key arr base n hint else MN left key arr base n hint):=rfl
theorem ZdZ (g:Nat):ZV g=modify (λs=>SortSt.mk' (kindOf s) (arrOf s) (pendingOf s) g (failedOf s)):=rfl
theorem qW {σ α:Type} {M:Model} {A:Around} {E:Value->Shared->Prop} {s:Shared} {m m':StateT σ Sem α} {Q:α->σ->Prop} {st:σ} (e:m=m') (h:wpS M A E s m' Q st):wpAny M A (m st) (λr s'=>s'=s/\Q r.1 r.2) E s:=by subst e; exact h
section
variable {prog:Program} {w:World} {A:Around} {E:Value->Shared->Prop} {s:Shared} {a₀:Array Keyed} {κ:SortKind} {ρ:aF.RR}
theorem lH {st:SortSt} {p q:Keyed} {Q:Option Bool->SortSt->Prop} (hk:kindOf st=κ) (h0:aF.jr prog w A s κ ρ a₀) (mp:p∈a₀.toList) (mq:q∈a₀.toList) (h:Q (some (decide (ρ.g p<ρ.g q))) st):wpS (model prog w) A E s (lt' p q) Q st:=by
 rw [lt'_eq]
 refine aRj (aqU ?_)
 rw [hk]
 exact aRj (wpS_lift (wpAny_attempt (h0 p mp q mq _ _ ⟨rfl,aVv h⟩)))
theorem Zw {st:SortSt} {arr:Array Keyed} {i:Nat} {Q:Keyed->SortSt->Prop} (hi:i<arr.size) (h:Q arr[i] st):wpS (model prog w) A E s (elem' arr i) Q st:=by
 rw [elem'_eq,getElem?_pos arr i hi]
 exact aVv h
theorem bC {arr:Array Keyed} {i:Nat} (hi:i<arr.size):aF.Kg ρ arr i=ρ.g arr[i]:=by
 unfold aF.Kg
 rw [getElem?_pos arr i hi]
 rfl
def Bd (ρ:aF.RR) (left:Bool) (kv:Int) (arr:Array Keyed) (base i:Nat):Bool:=if left then decide (aF.Kg ρ arr (base+i)<kv) else !decide (kv<aF.Kg ρ arr (base+i))
theorem VG {st:SortSt} {left:Bool} {key:Keyed} {arr:Array Keyed} {base i:Nat} {Q:Option Bool->SortSt->Prop} (hk:kindOf st=κ) (h0:aF.jr prog w A s κ ρ a₀) (ha:∀ p∈arr.toList,p∈a₀.toList) (mk:key∈a₀.toList) (hi:base+i<arr.size) (h:Q (some (Bd ρ left (ρ.g key) arr base i)) st):wpS (model prog w) A E s (uY left key arr base i) Q st:=by
 unfold uY
 refine aRj (Zw hi ?_)
 have m:arr[base+i]∈a₀.toList:=ha _ (by simp)
 unfold Bd at h
 rw [bC hi] at h
 cases left with
 | true =>
  simp only [aEp] at h ⊢
  exact lH hk h0 m mk h
 | false =>
  simp only [a7V,azU] at h ⊢
  exact aRj (lH hk h0 mk m (aVv h))
structure Cut (ρ:aF.RR) (left:Bool) (kv:Int) (arr:Array Keyed) (base n k:Nat):Prop where
 le:k<=n
 lo:∀ i,i<k->Bd ρ left kv arr base i=true
 hi:∀ i,k<=i->i<n->Bd ρ left kv arr base i=false
def fB (ρ:aF.RR) (arr:Array Keyed) (a b:Nat):Prop:=∀ i j,a<=i->i<=j->j<b->aF.Kg ρ arr i<=aF.Kg ρ arr j
theorem WC {left:Bool} {kv:Int} {arr:Array Keyed} {base n i j:Nat} (hs:fB ρ arr base (base+n)) (hij:i<=j) (hj:j<n) (h:Bd ρ left kv arr base j=true):Bd ρ left kv arr base i=true:=by
 have q:=hs (base+i) (base+j) (by lia) (by lia) (by lia)
 unfold Bd at h ⊢
 cases left with
 | true =>
  simp only [aEp,aAa] at h ⊢
  lia
 | false =>
  simp only [a7V,azU,aB5,aX0] at h ⊢
  lia
section
variable {st:SortSt} {left:Bool} {key:Keyed} {arr:Array Keyed} {base n:Nat} {Q:Option Nat->SortSt->Prop} {P:Nat->Bool}
theorem OV {lo hi:Nat} (B:∀ {i:Nat} {Q:Option Bool->SortSt->Prop},i<n->Q (some (P i)) st->wpS (model prog w) A E s (uY left key arr base i) Q st)
  (up:∀ {i j:Nat},i<=j->j<n->P j=true->P i=true) (dn:∀ {i j:Nat},i<=j->j<n->P i=false->P j=false)
  (h:∀ k,k<=n->(∀ i,i<k->P i=true)->(∀ i,k<=i->i<n->P i=false)->Q (some k) st)
  (UL:lo<=hi) (UN:hi<=n) (u1:∀ i,i<lo->P i=true) (u2:∀ i,hi<=i->i<n->P i=false):wpS (model prog w) A E s (tM left key arr base n lo hi) Q st:=by
 unfold tM
 refine aRj (apc (aNA (I:=λx c st2=>st2=st/\∃ l r,c=(none,l,r)/\l<=r/\r<=n/\r - l<=n - x/\(∀ i,i<l->P i=true)/\(∀ i,r<=i->i<n->P i=false))
  (Q:=λc st2=>st2=st/\∃ r,c=(none,r,r)/\r<=n/\(∀ i,i<r->P i=true)/\(∀ i,r<=i->i<n->P i=false)) ?iturn ?ilast ?ifirst) ?iafter)
 case ifirst=>exact ⟨rfl,lo,hi,rfl,UL,UN,by lia,u1,u2⟩
 case ilast =>
  rintro c st2 ⟨rfl,l,r,rfl,hlr,hrk,hm,u1,u2⟩
  have e:l=r:=by lia
  subst e
  exact ⟨rfl,l,rfl,hrk,u1,u2⟩
 case iturn =>
  rintro x c st2 _ hxk ⟨rfl,l,r,rfl,hlr,hrk,hm,u1,u2⟩
  dsimp only
  by_cases hge:l ≥ r
  .rw [bb9 hge]
   have e:l=r:=by lia
   subst e
   exact aVv ⟨rfl,l,rfl,hrk,u1,u2⟩
  .rw [aYW hge]
   refine aRj (B (by lia) ?_)
   dsimp only
   cases c:P (l+(r - l) / 2) with
   | true =>
    rw [bb9 rfl]
    exact aVv ⟨rfl,l+(r - l) / 2+1,r,rfl,by lia,by lia,by lia,λi p=>up (j:=l+(r - l) / 2) (by lia) (by lia) c,u2⟩
   | false =>
    rw [aYW (by simp)]
    exact aVv ⟨rfl,l,l+(r - l) / 2,rfl,by lia,by lia,by lia,u1,λi p q=>dn p q c⟩
 case iafter =>
  rintro c st2 ⟨rfl,r,rfl,UE,u1,u2⟩
  exact aVv (h r UE u1 u2)
end
theorem yJ {st:SortSt} {left:Bool} {key:Keyed} {arr:Array Keyed} {base n hint:Nat} {Q:Option Nat->SortSt->Prop} (hk:kindOf st=κ) (h0:aF.jr prog w A s κ ρ a₀) (ha:∀ p∈arr.toList,p∈a₀.toList) (mk:key∈a₀.toList) (hb:base+n<=arr.size) (hh:hint<n) (hs:fB ρ arr base (base+n))
  (h:∀ k,Cut ρ left (ρ.g key) arr base n k->Q (some k) st):wpS (model prog w) A E s (yx left key arr base n hint) Q st:=by
 rw [ZjD]
 have B:∀ {i:Nat} {Q:Option Bool->SortSt->Prop},i<n->Q (some (Bd ρ left (ρ.g key) arr base i)) st->wpS (model prog w) A E s (uY left key arr base i) Q st:=λ{i Q} hi hq=>VG hk h0 ha mk (by lia) hq
 have up:∀ {i j:Nat},i<=j->j<n->Bd ρ left (ρ.g key) arr base j=true->Bd ρ left (ρ.g key) arr base i=true:=λhij hj hq=>WC hs hij hj hq
 have h:=λk c1 c2 c3=>h k ⟨c1,c2,c3⟩
 generalize Bd ρ left (ρ.g key) arr base=P at *
 have dn:∀ {i j:Nat},i<=j->j<n->P i=false->P j=false:=λ{i j} hij hj hq=>by
  cases e:P j with
  | false=>rfl
  | true=>rw [up hij hj e] at hq; exact hq
 refine aRj (B hh ?_)
 dsimp only
 cases e:P hint with
 | true =>
  rw [bb9 rfl]
  unfold MM
  refine aRj (apc (aNA (I:=λx c st2=>st2=st/\∃ l o,c=(none,l,o)/\l<o/\x+1<=o/\hint+l<n/\P (hint+l)=true)
   (Q:=λc st2=>st2=st/\∃ l o,c=(none,l,o)/\l<o/\hint+l<n/\P (hint+l)=true/\(n - hint<=o\/hint+o<n/\P (hint+o)=false)) ?jturn ?jlast ?jfirst) ?jafter)
  case jfirst=>exact ⟨rfl,0,1,rfl,by lia,by lia,by lia,e⟩
  case jlast =>
   rintro c st2 ⟨rfl,l,o,rfl,hlo,GR,jY,hp⟩
   exact ⟨rfl,l,o,rfl,hlo,jY,hp,.inl (by lia)⟩
  case jturn =>
   rintro x c st2 _ hxk ⟨rfl,l,o,rfl,hlo,GR,jY,hp⟩
   dsimp only
   by_cases hge:o ≥ n - hint
   .rw [bb9 hge]
    exact aVv ⟨rfl,l,o,rfl,hlo,jY,hp,.inl hge⟩
   .rw [aYW hge]
    refine aRj (B (by lia) ?_)
    dsimp only
    cases c:P (hint+o) with
    | true =>
     rw [aYW (by simp)]
     exact aVv ⟨rfl,o,2 * o+1,rfl,by lia,by lia,by lia,c⟩
    | false =>
     rw [bb9 (by simp)]
     exact aVv ⟨rfl,l,o,rfl,hlo,jY,hp,.inr ⟨by lia,c⟩⟩
  case jafter =>
   rintro c st2 ⟨rfl,l,o,rfl,hlo,jY,hp,ho⟩
   refine OV B up dn h (by dsimp only; lia) (by dsimp only; lia) (λi hi=>up (j:=hint+l) (by dsimp only at hi; lia) jY hp) (λi p q=>?_)
   dsimp only at p
   rcases ho with ho | ⟨ho,c⟩
   .lia
   .exact dn (i:=hint+o) (by lia) q c
 | false =>
  rw [aYW (by simp)]
  unfold MN
  refine aRj (apc (aNA (I:=λx c st2=>st2=st/\∃ l o,c=(none,l,o)/\l<o/\x+1<=o/\l<=hint/\P (hint - l)=false)
   (Q:=λc st2=>st2=st/\∃ l o,c=(none,l,o)/\l<o/\l<=hint/\P (hint - l)=false/\(hint+1<=o\/o<=hint/\P (hint - o)=true)) ?kturn ?klast ?kfirst) ?kafter)
  case kfirst=>exact ⟨rfl,0,1,rfl,by lia,by lia,by lia,e⟩
  case klast =>
   rintro c st2 ⟨rfl,l,o,rfl,hlo,GR,jY,hp⟩
   exact ⟨rfl,l,o,rfl,hlo,jY,hp,.inl (by lia)⟩
  case kturn =>
   rintro x c st2 _ hxk ⟨rfl,l,o,rfl,hlo,GR,jY,hp⟩
   dsimp only
   by_cases hge:o ≥ hint+1
   .rw [bb9 hge]
    exact aVv ⟨rfl,l,o,rfl,hlo,jY,hp,.inl hge⟩
   .rw [aYW hge]
    refine aRj (B (by lia) ?_)
    dsimp only
    cases c:P (hint - o) with
    | true =>
     rw [bb9 rfl]
     exact aVv ⟨rfl,l,o,rfl,hlo,jY,hp,.inr ⟨by lia,c⟩⟩
    | false =>
     rw [aYW (by simp)]
     exact aVv ⟨rfl,o,2 * o+1,rfl,by lia,by lia,by lia,c⟩
  case kafter =>
   rintro c st2 ⟨rfl,l,o,rfl,hlo,jY,hp,ho⟩
   refine OV B up dn h (by dsimp only; lia) (by dsimp only; lia) (λi hi=>?_) (λi p q=>dn (i:=hint - l) (by dsimp only at p; lia) q hp)
   dsimp only at hi
   rcases ho with ho | ⟨ho,c⟩
   .lia
   .exact up (j:=hint - o) (by lia) (by lia) c
end
def Lk (ρ:aF.RR) (x y:Keyed):Prop:=ρ.g x<=ρ.g y
structure MI (ρ:aF.RR) (A B out:List Keyed) (ia ib:Nat):Prop where
 perm:(out++A.drop ia++B.drop ib).Perm (A++B)
 sa:(out++A.drop ia).Pairwise (Lk ρ)
 sb:(out++B.drop ib).Pairwise (Lk ρ)
section
variable {ρ:aF.RR} {A B out:List Keyed} {ia ib:Nat}
theorem MI.iQ (h:MI ρ A B out ia ib) (k:Nat) (hk:∀ t∈(B.drop ib).take k,∀ x∈A.drop ia,ρ.g t<=ρ.g x):MI ρ A B (out++(B.drop ib).take k) ia (ib+k):=by
 have e:B.drop (ib+k)=(B.drop ib).drop k:=by rw [drop_drop]
 have s:=h.sb
 have p:=h.perm
 rw [← aaL k (B.drop ib)] at s p
 refine ⟨?_,?_,?_⟩
 .rw [e]
  refine List.Perm.trans ?_ p
  rw [aP5 out,aP5 out,aP5 out,← aP5 (A.drop ia)]
  exact (List.Perm.append_right _ aLv).append_left _
 .have s1:(out++(B.drop ib).take k).Pairwise (Lk ρ):=by
   rw [← aP5] at s
   exact (aNM.1 s).1
  have a1:=aNM.1 h.sa
  refine aNM.2 ⟨s1,a1.2.1,λx hx y hy=>?_⟩
  rcases ais.1 hx with hx | hx
  .exact a1.2.2 x hx y hy
  .exact hk x hx y hy
 .rw [e,aP5]
  exact s
theorem MI.j8 (h:MI ρ A B out ia ib) (k:Nat) (hk:∀ t∈(A.drop ia).take k,∀ x∈B.drop ib,ρ.g t<=ρ.g x):MI ρ A B (out++(A.drop ia).take k) (ia+k) ib:=by
 have h2:MI ρ B A out ib ia:=⟨by
  refine List.Perm.trans ?_ (List.Perm.trans h.perm aLv)
  rw [aP5,aP5]
  exact aLv.append_left _,h.sb,h.sa⟩
 have h3:=h2.iQ k hk
 refine ⟨?_,h3.sb,h3.sa⟩
 refine List.Perm.trans ?_ (List.Perm.trans h3.perm aLv)
 rw [aP5 _ (A.drop _),aP5 _ (B.drop _)]
 exact aLv.append_left _
def Res (ρ:aF.RR) (A B:List Keyed) (r:Array Keyed):Prop:=r.toList.Perm (A++B)/\r.toList.Pairwise (Lk ρ)
theorem DK (a:Array Keyed) (i:Nat):(a.extract i a.size).toList=a.toList.drop i:=by
 rw [aza,List.extract_eq_drop_take]
 exact aAh (by simp)
theorem IC (a:Array Keyed) (i k:Nat):(a.extract i (i+k)).toList=(a.toList.drop i).take k:=by
 rw [aza,List.extract_eq_drop_take]
 congr 1
 lia
theorem MI.res {a b out:Array Keyed} (h:MI ρ a.toList b.toList out.toList ia ib) (he:a.toList.drop ia=[]\/b.toList.drop ib=[]):Res ρ a.toList b.toList (out++a.extract ia a.size++b.extract ib b.size):=by
 unfold Res
 rw [aIT,aIT,DK,DK]
 refine ⟨h.perm,?_⟩
 rcases he with he | he
 .rw [he,aKQ]; exact h.sb
 .rw [he,aKQ]; exact h.sa
theorem MI.last {a b out:Array Keyed} (h:MI ρ a.toList b.toList out.toList ia ib) (hl:∀ y∈b.toList,∀ x∈a.toList.drop (a.size - 1),ρ.g y<=ρ.g x) (he:ia+1=a.size):Res ρ a.toList b.toList (out++b.extract ib b.size++a.extract ia a.size):=by
 have e:ia=a.size - 1:=by lia
 have h2:=h.iQ (b.toList.length) (λt ht x hx=>hl t (List.mem_of_mem_drop (List.mem_of_mem_take ht)) x (by rw [← e]; exact hx))
 have e2:(b.toList.drop ib).take b.toList.length=b.toList.drop ib:=aAh (by simp)
 have e3:b.toList.drop (ib+b.toList.length)=[]:=azI (by lia)
 rw [e2] at h2
 unfold Res
 rw [aIT,aIT,DK,DK]
 refine ⟨?_,h2.sa⟩
 have:=h2.perm
 rw [e3,aKQ] at this
 exact this
end
abbrev pG:=Option (Array Keyed)×Array Keyed×Nat×Nat×Nat×Nat×Nat
def C4 (a b out:Array Keyed) (ia ib g k k1:Nat):StateT SortSt Sem (ForInStep pG):=do
 let x ← elem' a ia
 if ia+1+1 == a.size then pure (.done (some (out.push x++b.extract ib b.size++a.extract (ia+1) a.size),out.push x,ia+1,ib,g,k,k1))
 else if k<7 && k1<7 then pure (.done (none,out.push x,ia+1,ib,g,k,k1)) else pure (.yield (none,out.push x,ia+1,ib,g,k,k1))
def lo2 (a b out:Array Keyed) (ia ib g k bc:Nat):StateT SortSt Sem (ForInStep pG):=do
 let x ← elem' b ib
 if ib+1 == b.size then pure (.done (some (out.push x++a.extract ia a.size++b.extract (ib+1) b.size),out.push x,ia,ib+1,g,k,bc))
 else do
  let y ← elem' a ia
  let r ← yx true y b (ib+1) (b.size - (ib+1)) 0
  match r with
  | some k1 =>
   if k1 > 0 then
    if ib+1+k1 == b.size then pure (.done (some (out.push x++b.extract (ib+1) (ib+1+k1)++a.extract ia a.size++b.extract (ib+1+k1) b.size),out.push x++b.extract (ib+1) (ib+1+k1),ia,ib+1+k1,g,k,k1))
    else C4 a b (out.push x++b.extract (ib+1) (ib+1+k1)) ia (ib+1+k1) g k k1
   else C4 a b (out.push x) ia (ib+1) g k k1
  | none=>pure (.done (some (out.push x++a.extract ia a.size++b.extract (ib+1) b.size),out.push x,ia,ib+1,g,k,bc))
def lo1 (a b out:Array Keyed) (ia ib g ac bc:Nat):StateT SortSt Sem (ForInStep pG):=do
 ZV g
 let y ← elem' b ib
 let r ← yx false y a ia (a.size - ia) 0
 match r with
 | some k =>
  if k > 0 then
   if ia+k+1 == a.size then pure (.done (some (out++a.extract ia (ia+k)++b.extract ib b.size++a.extract (ia+k) a.size),out++a.extract ia (ia+k),ia+k,ib,g,k,bc))
   else if ia+k == a.size then pure (.done (some (out++a.extract ia (ia+k)++a.extract (ia+k) a.size++b.extract ib b.size),out++a.extract ia (ia+k),ia+k,ib,g,k,bc))
   else lo2 a b (out++a.extract ia (ia+k)) (ia+k) ib g k bc
  else lo2 a b out ia ib g k bc
 | none=>pure (.done (some (out++a.extract ia a.size++b.extract ib b.size),out,ia,ib,g,ac,bc))
abbrev ud:=Option (Array Keyed)×Array Keyed×Nat×Nat×Nat×Nat
def C3 (a b:Array Keyed) (mg:Nat) (c:ud):StateT SortSt Sem (ForInStep ud):=do
 let y ← elem' b c.2.2.2.1
 let x ← elem' a c.2.2.1
 let r ← lt' y x
 match r with
 | some w =>
  if w then do
   let y ← elem' b c.2.2.2.1
   if c.2.2.2.1+1 == b.size then pure (.done (some (c.2.1.push y++a.extract c.2.2.1 a.size++b.extract (c.2.2.2.1+1) b.size),c.2.1.push y,c.2.2.1,c.2.2.2.1+1,0,c.2.2.2.2.2+1))
   else if c.2.2.2.2.2+1 ≥ mg then pure (.done (none,c.2.1.push y,c.2.2.1,c.2.2.2.1+1,0,c.2.2.2.2.2+1))
   else pure (.yield (none,c.2.1.push y,c.2.2.1,c.2.2.2.1+1,0,c.2.2.2.2.2+1))
  else do
   let x ← elem' a c.2.2.1
   if c.2.2.1+1+1 == a.size then pure (.done (some (c.2.1.push x++b.extract c.2.2.2.1 b.size++a.extract (c.2.2.1+1) a.size),c.2.1.push x,c.2.2.1+1,c.2.2.2.1,c.2.2.2.2.1+1,0))
   else if c.2.2.2.2.1+1 ≥ mg then pure (.done (none,c.2.1.push x,c.2.2.1+1,c.2.2.2.1,c.2.2.2.2.1+1,0))
   else pure (.yield (none,c.2.1.push x,c.2.2.1+1,c.2.2.2.1,c.2.2.2.2.1+1,0))
 | none=>pure (.done (some (c.2.1++a.extract c.2.2.1 a.size++b.extract c.2.2.2.1 b.size),c.2.1,c.2.2.1,c.2.2.2.1,c.2.2.2.2.1,c.2.2.2.2.2))
abbrev xB:=Option (Array Keyed)×Array Keyed×Nat×Nat×Nat
def C0 (a b:Array Keyed) (c:xB):StateT SortSt Sem (ForInStep xB):=do
 let d ← forIn [0:a.size+b.size] ((none,c.2.1,c.2.2.1,c.2.2.2.1,0,0):ud) (λ_ d=>C3 a b c.2.2.2.2 d)
 match d.1 with
 | some r=>pure (.done (some r,d.2.1,d.2.2.1,d.2.2.2.1,c.2.2.2.2))
 | none=>do
  rule "list.sort.gallop"
  let e ← forIn [0:a.size+b.size] ((none,d.2.1,d.2.2.1,d.2.2.2.1,c.2.2.2.2+1,d.2.2.2.2.1,d.2.2.2.2.2):pG) (λ_ e=>if e.2.2.2.2.1 > 1 then lo1 a b e.2.1 e.2.2.1 e.2.2.2.1 (e.2.2.2.2.1 - 1) e.2.2.2.2.2.1 e.2.2.2.2.2.2 else lo1 a b e.2.1 e.2.2.1 e.2.2.2.1 e.2.2.2.2.1 e.2.2.2.2.2.1 e.2.2.2.2.2.2)
  match e.1 with
  | some r=>pure (.done (some r,e.2.1,e.2.2.1,e.2.2.2.1,e.2.2.2.2.1))
  | none=>do
   ZV (e.2.2.2.2.1+1)
   pure (.yield (none,e.2.1,e.2.2.1,e.2.2.2.1,e.2.2.2.2.1+1))
theorem ZjE {M:Model} {A:Around} {E:Value->Shared->Prop} {s:Shared} {Q:Array Keyed->SortSt->Prop} {st:SortSt} (a b:Array Keyed) (h:wpS M A E s (do
 rule "list.sort.merge-lo"
 let x ← elem' b 0
 if 1 == b.size then pure (#[x]++a.extract 0 a.size++b.extract 1 b.size)
 else if 0+1 == a.size then pure (#[x]++b.extract 1 b.size++a.extract 0 a.size)
 else do
  let st ← get
  let c ← forIn [0:a.size+b.size] ((none,#[x],0,1,gallopOf st):xB) (λ_ c=>C0 a b c)
  match c.1 with
  | some r=>pure r
  | none=>unsupported "internal:list.sort.merge-bound") Q st):wpS M A E s (Jx a b) Q st:=by
 show wpAny M A (Jx a b st) _ E s
 wp_delta
 wp_delta
 refine qW ?_ h
 dsimp only
 refine a8M λ_=>a8M λx=>?_
 congr 1
 congr 1
 refine a8M λst=>?_
 congr 1
 .congr 1
  funext _ c
  unfold C0
  congr 1
  .congr 1
   funext _ d
   unfold C3
   refine a8M λy=>a8M λx=>a8M λr=>?_
   cases r with
   | some w =>
    cases w with
    | true=>rfl
    | false=>rfl
   | none=>rfl
  .funext d
   cases d.1 with
   | some r=>rfl
   | none =>
    dsimp only
    refine a8M λ_=>?_
    congr 1
    .congr 1
     funext _ e
     congr 1
     all_goals
      unfold lo1
      refine a8M λ_=>a8M λy=>a8M λr=>?_
      cases r with
      | none=>rfl
      | some k =>
       dsimp only
       congr 1
       .congr 1
        congr 1
        unfold lo2
        refine a8M λx=>?_
        congr 1
        refine a8M λy=>a8M λr=>?_
        cases r with
        | none=>rfl
        | some k1=>rfl
       .unfold lo2
        refine a8M λx=>?_
        congr 1
        refine a8M λy=>a8M λr=>?_
        cases r with
        | none=>rfl
        | some k1=>rfl
    .funext e
     cases e.1 with
     | some r=>rfl
     | none=>rfl
 .funext c
  cases c.1 with
  | some r=>rfl
  | none=>rfl
def Sm (st st':SortSt):Prop:=kindOf st'=kindOf st/\arrOf st'=arrOf st/\pendingOf st'=pendingOf st/\failedOf st'=failedOf st
theorem Sm.refl (st:SortSt):Sm st st:=⟨rfl,rfl,rfl,rfl⟩
theorem Sm.trans {a b c:SortSt} (h:Sm a b) (h':Sm b c):Sm a c:=⟨h'.1.trans h.1,h'.2.1.trans h.2.1,h'.2.2.1.trans h.2.2.1,h'.2.2.2.trans h.2.2.2⟩
section
variable {prog:Program} {w:World} {A:Around} {E:Value->Shared->Prop} {s:Shared} {a₀:Array Keyed} {κ:SortKind} {ρ:aF.RR} {a b:Array Keyed}
theorem DJ {st:SortSt} {g:Nat} {Q:Unit->SortSt->Prop} (h:∀ st',Sm st st'->Q () st'):wpS (model prog w) A E s (ZV g) Q st:=by
 rw [ZdZ]
 exact aEo (h _ ⟨rfl,rfl,rfl,rfl⟩)
theorem Nx (h:a.toList.Pairwise (Lk ρ)) (i j:Nat):fB ρ a i (i+(a.size - i)):=by
 intro x y hx hxy hy
 have hy':y<a.size:=by lia
 rw [bC (show x<a.size by lia),bC hy']
 by_cases e:x=y
 .subst e; lia
 .exact aLG.1 h x y (by simpa using (show x<a.size by lia)) (by simpa using hy') (by lia)
theorem ZhA {i:Nat} {x:Keyed} (h:x∈a.toList.drop i):∃ j,∃ hj:i+j<a.size,x=a[i+j]:=by
 obtain ⟨j,hj,e⟩:=aoU.1 h
 rw [a8K,aLz] at hj
 refine ⟨j,by lia,?_⟩
 rw [← e,getElem_drop,aqY]
theorem ZhB {i k:Nat} {x:Keyed} (h:x∈(a.toList.drop i).take k):∃ j,j<k/\∃ hj:i+j<a.size,x=a[i+j]:=by
 obtain ⟨j,hj,e⟩:=aoU.1 h
 rw [aoM,a8K,aLz] at hj
 refine ⟨j,by lia,by lia,?_⟩
 rw [← e,getElem_take,getElem_drop,aqY]
theorem Cut.low {left:Bool} {kv:Int} {i k:Nat} (h:Cut ρ left kv a i (a.size - i) k) {x:Keyed} (hx:x∈(a.toList.drop i).take k):ρ.g x<=kv:=by
 obtain ⟨j,hj,hs,rfl⟩:=ZhB hx
 have:=h.lo j hj
 unfold Bd at this
 rw [bC hs] at this
 cases left with
 | true=>simp only [aEp,aAa] at this; lia
 | false=>simp only [a7V,azU,aB5,aX0] at this; lia
theorem Cut.high {left:Bool} {kv:Int} {i k:Nat} (h:Cut ρ left kv a i (a.size - i) k) {x:Keyed} (hx:x∈a.toList.drop (i+k)):kv<=ρ.g x:=by
 obtain ⟨j,hs,rfl⟩:=ZhA hx
 have:=h.hi (k+j) (by lia) (by lia)
 unfold Bd at this
 rw [show i+(k+j)=i+k+j by lia,bC hs] at this
 cases left with
 | true=>simp only [aEp,aX0] at this; lia
 | false=>simp only [a7V,azU,Bool.not_eq_false',aAa] at this; lia
theorem BF {i:Nat} (hi:i<a.size):(a.toList.drop i).take 1=[a[i]]:=by
 rw [a12 (by simpa using hi)]
 rfl
theorem Ed {i:Nat} (hi:i<a.size) (h:(a.toList.drop i).Pairwise (Lk ρ)) {x:Keyed} (hx:x∈a.toList.drop i):ρ.g a[i]<=ρ.g x:=by
 rw [a12 (by simpa using hi)] at h hx
 rcases awk.1 hx with rfl | hx
 .exact aZP _
 .exact (a38.1 h).1 x hx
structure yM (ρ:aF.RR) (a₀ a b:Array Keyed):Prop where
 ma:∀ p∈a.toList,p∈a₀.toList
 mb:∀ p∈b.toList,p∈a₀.toList
 sa:a.toList.Pairwise (Lk ρ)
 sb:b.toList.Pairwise (Lk ρ)
 last:∀ y∈b.toList,∀ x∈a.toList.drop (a.size - 1),ρ.g y<=ρ.g x
def Jm (ρ:aF.RR) (a b:Array Keyed) (m:Nat) (out:Array Keyed) (ia ib:Nat):Prop:=MI ρ a.toList b.toList out.toList ia ib/\m<=ia+ib/\ia+1<a.size/\ib<b.size
def Q7 (ρ:aF.RR) (a b:Array Keyed) (m:Nat) (c:pG):Prop:=(∃ r q,c=(some r,q)/\Res ρ a.toList b.toList r)\/∃ out ia ib g k k1,c=(none,out,ia,ib,g,k,k1)/\Jm ρ a b m out ia ib
def Lo (ρ:aF.RR) (a b:Array Keyed) (m:Nat) (st:SortSt) (r:ForInStep pG) (st':SortSt):Prop:=Sm st st'/\match r with
 | .done c=>Q7 ρ a b m c
 | .yield c=>∃ out ia ib g k k1,c=(none,out,ia,ib,g,k,k1)/\Jm ρ a b m out ia ib
theorem MI.kh {out:Array Keyed} {ia ib:Nat} (h:MI ρ a.toList b.toList out.toList ia ib) (hi:ia<a.size) (hk:∀ x∈b.toList.drop ib,ρ.g a[ia]<=ρ.g x):MI ρ a.toList b.toList (out.push a[ia]).toList (ia+1) ib:=by
 have:=h.j8 1 (by rw [BF hi]; intro t ht x hx; rw [a60.1 ht]; exact hk x hx)
 rw [BF hi] at this
 rw [a6T]
 exact this
theorem MI.kg {out:Array Keyed} {ia ib:Nat} (h:MI ρ a.toList b.toList out.toList ia ib) (hi:ib<b.size) (hk:∀ x∈a.toList.drop ia,ρ.g b[ib]<=ρ.g x):MI ρ a.toList b.toList (out.push b[ib]).toList ia (ib+1):=by
 have:=h.iQ 1 (by rw [BF hi]; intro t ht x hx; rw [a60.1 ht]; exact hk x hx)
 rw [BF hi] at this
 rw [a6T]
 exact this
theorem Nv {fF st:SortSt} {out:Array Keyed} {ia ib g k k1 m:Nat} (T:yM ρ a₀ a b) (hS:Sm fF st) (h:Jm ρ a b m out ia ib) (hk:∀ x∈b.toList.drop ib,ρ.g (a[ia]'(by have:=h.2.2.1; lia))<=ρ.g x):wpS (model prog w) A E s (C4 a b out ia ib g k k1) (Lo ρ a b (m+1) fF) st:=by
 obtain ⟨M,hm,ha,hb⟩:=h
 have qG:ia<a.size:=by lia
 unfold C4
 refine aRj (Zw qG ?_)
 have M2:=M.kh qG hk
 by_cases e:ia+1+1=a.size
 .rw [bb9 (by simpa using e)]
  exact aVv ⟨hS,.inl ⟨_,_,rfl,M2.last T.last e⟩⟩
 .rw [aYW (by simpa using e)]
  have J:Jm ρ a b (m+1) (out.push a[ia]) (ia+1) ib:=⟨M2,by lia,by lia,hb⟩
  by_cases c:(decide (k<7) && decide (k1<7))=true
  .rw [bb9 c]
   exact aVv ⟨hS,.inr ⟨_,_,_,_,_,_,rfl,J⟩⟩
  .rw [aYW c]
   exact aVv ⟨hS,_,_,_,_,_,_,rfl,J⟩
theorem Nu {fF st:SortSt} {out:Array Keyed} {ia ib g k bc m:Nat} (h0:aF.jr prog w A s κ ρ a₀) (hk:kindOf st=κ) (T:yM ρ a₀ a b) (hS:Sm fF st) (h:Jm ρ a b m out ia ib) (hq:∀ x∈a.toList.drop ia,ρ.g (b[ib]'(h.2.2.2))<=ρ.g x):wpS (model prog w) A E s (lo2 a b out ia ib g k bc) (Lo ρ a b (m+1) fF) st:=by
 obtain ⟨M,hm,ha,hb⟩:=h
 have qG:ia<a.size:=by lia
 unfold lo2
 refine aRj (Zw hb ?_)
 have M2:=M.kg hb hq
 by_cases e:ib+1=b.size
 .rw [bb9 (by simpa using e)]
  exact aVv ⟨hS,.inl ⟨_,_,rfl,M2.res (.inr (azI (by simp; lia)))⟩⟩
 .rw [aYW (by simpa using e)]
  refine aRj (Zw qG ?_)
  refine aRj (yJ hk h0 T.mb (T.ma _ (by simp)) (by lia) (by lia) (Nx T.sb _ 0) (λk1 C=>?_))
  dsimp only
  have fa:∀ x∈a.toList.drop ia,ρ.g a[ia]<=ρ.g x:=λx hx=>Ed qG (aur (drop_sublist _ _) T.sa) hx
  have M3:=M2.iQ k1 (λt ht x hx=>agt (C.low ht) (fa x hx))
  rw [← IC,← aIT] at M3
  have hi:∀ x∈b.toList.drop (ib+1+k1),ρ.g a[ia]<=ρ.g x:=λx hx=>C.high hx
  by_cases c:k1 > 0
  .rw [bb9 c]
   by_cases e2:ib+1+k1=b.size
   .rw [bb9 (by simpa using e2)]
    exact aVv ⟨hS,.inl ⟨_,_,rfl,M3.res (.inr (azI (by simp; lia)))⟩⟩
   .rw [aYW (by simpa using e2)]
    have:=C.le
    exact Nv T hS ⟨M3,by lia,ha,by lia⟩ hi
  .rw [aYW c]
   have e3:k1=0:=by lia
   subst e3
   exact Nv T hS ⟨M2,by lia,ha,by lia⟩ hi
theorem VF {fF st:SortSt} {out:Array Keyed} {ia ib g ac bc m:Nat} (h0:aF.jr prog w A s κ ρ a₀) (hk:kindOf st=κ) (T:yM ρ a₀ a b) (hS:Sm fF st) (h:Jm ρ a b m out ia ib):wpS (model prog w) A E s (lo1 a b out ia ib g ac bc) (Lo ρ a b (m+1) fF) st:=by
 obtain ⟨M,hm,ha,hb⟩:=h
 have qG:ia<a.size:=by lia
 unfold lo1
 refine aRj (DJ λst1 wD=>?_)
 have hk1:kindOf st1=κ:=wD.1.trans hk
 have pT:=hS.trans wD
 refine aRj (Zw hb ?_)
 refine aRj (yJ hk1 h0 T.ma (T.mb _ (by simp)) (by lia) (by lia) (Nx T.sa _ 0) (λk C=>?_))
 dsimp only
 have fb:∀ x∈b.toList.drop ib,ρ.g b[ib]<=ρ.g x:=λx hx=>Ed hb (aur (drop_sublist _ _) T.sb) hx
 have M3:=M.j8 k (λt ht x hx=>agt (C.low ht) (fb x hx))
 rw [← IC,← aIT] at M3
 have hi:∀ x∈a.toList.drop (ia+k),ρ.g b[ib]<=ρ.g x:=λx hx=>C.high hx
 have:=C.le
 by_cases c:k > 0
 .rw [bb9 c]
  by_cases e2:ia+k+1=a.size
  .rw [bb9 (by simpa using e2)]
   exact aVv ⟨pT,.inl ⟨_,_,rfl,M3.last T.last e2⟩⟩
  .rw [aYW (by simpa using e2)]
   by_cases e3:ia+k=a.size
   .rw [bb9 (by simpa using e3)]
    exact aVv ⟨pT,.inl ⟨_,_,rfl,M3.res (.inl (azI (by simp; lia)))⟩⟩
   .rw [aYW (by simpa using e3)]
    exact Nu h0 hk1 T pT ⟨M3,by lia,by lia,hb⟩ hi
 .rw [aYW c]
  have e3:k=0:=by lia
  subst e3
  exact Nu h0 hk1 T pT ⟨M,by lia,ha,hb⟩ hi
def Rh (ρ:aF.RR) (a b:Array Keyed) (m:Nat) (c:ud):Prop:=(∃ r q,c=(some r,q)/\Res ρ a.toList b.toList r)\/∃ out ia ib k k1,c=(none,out,ia,ib,k,k1)/\Jm ρ a b m out ia ib
theorem VE {st:SortSt} {out:Array Keyed} {mg ia ib ac bc m:Nat} (h0:aF.jr prog w A s κ ρ a₀) (hk:kindOf st=κ) (T:yM ρ a₀ a b) (h:Jm ρ a b m out ia ib):wpS (model prog w) A E s (C3 a b mg (none,out,ia,ib,ac,bc)) (λr st'=>st'=st/\match r with
  | .done c=>Rh ρ a b (m+1) c
  | .yield c=>∃ out ia ib k k1,c=(none,out,ia,ib,k,k1)/\Jm ρ a b (m+1) out ia ib) st:=by
 obtain ⟨M,hm,ha,hb⟩:=h
 have qG:ia<a.size:=by lia
 have fa:∀ x∈a.toList.drop ia,ρ.g a[ia]<=ρ.g x:=λx hx=>Ed qG (aur (drop_sublist _ _) T.sa) hx
 have fb:∀ x∈b.toList.drop ib,ρ.g b[ib]<=ρ.g x:=λx hx=>Ed hb (aur (drop_sublist _ _) T.sb) hx
 unfold C3
 dsimp only
 refine aRj (Zw hb (aRj (Zw qG (aRj (lH hk h0 (T.mb _ (by simp)) (T.ma _ (by simp)) ?_)))))
 dsimp only
 by_cases c:ρ.g b[ib]<ρ.g a[ia]
 .rw [a6t c,bb9 rfl]
  refine aRj (Zw hb ?_)
  have M2:=M.kg hb (λx hx=>by have:=fa x hx; lia)
  by_cases e:ib+1=b.size
  .rw [bb9 (by simpa using e)]
   exact aVv ⟨rfl,.inl ⟨_,_,rfl,M2.res (.inr (azI (by simp; lia)))⟩⟩
  .rw [aYW (by simpa using e)]
   have J:Jm ρ a b (m+1) (out.push b[ib]) ia (ib+1):=⟨M2,by lia,ha,by lia⟩
   by_cases c2:bc+1 ≥ mg
   .rw [bb9 c2]
    exact aVv ⟨rfl,.inr ⟨_,_,_,_,_,rfl,J⟩⟩
   .rw [aYW c2]
    exact aVv ⟨rfl,_,_,_,_,_,rfl,J⟩
 .rw [a5c c,aYW (by simp)]
  refine aRj (Zw qG ?_)
  have M2:=M.kh qG (λx hx=>by have:=fb x hx; lia)
  by_cases e:ia+1+1=a.size
  .rw [bb9 (by simpa using e)]
   exact aVv ⟨rfl,.inl ⟨_,_,rfl,M2.last T.last e⟩⟩
  .rw [aYW (by simpa using e)]
   have J:Jm ρ a b (m+1) (out.push a[ia]) (ia+1) ib:=⟨M2,by lia,by lia,hb⟩
   by_cases c2:ac+1 ≥ mg
   .rw [bb9 c2]
    exact aVv ⟨rfl,.inr ⟨_,_,_,_,_,rfl,J⟩⟩
   .rw [aYW c2]
    exact aVv ⟨rfl,_,_,_,_,_,rfl,J⟩
theorem Jm.weak {m m':Nat} {out:Array Keyed} {ia ib:Nat} (h:Jm ρ a b m out ia ib) (hm:m'<=m):Jm ρ a b m' out ia ib:=⟨h.1,by have:=h.2.1; lia,h.2.2.1,h.2.2.2⟩
theorem VD {st:SortSt} {out:Array Keyed} {ia ib g m:Nat} (h0:aF.jr prog w A s κ ρ a₀) (hk:kindOf st=κ) (T:yM ρ a₀ a b) (h:Jm ρ a b m out ia ib):wpS (model prog w) A E s (C0 a b (none,out,ia,ib,g)) (λr st'=>Sm st st'/\match r with
  | .done c=>∃ r q,c=(some r,q)/\Res ρ a.toList b.toList r
  | .yield c=>∃ out ia ib g,c=(none,out,ia,ib,g)/\Jm ρ a b (m+1) out ia ib) st:=by
 have pos:0<a.size+b.size:=by have:=h.2.2.1; lia
 unfold C0
 dsimp only
 refine aRj (apc (aNA (I:=λx c st2=>st2=st/\∃ out ia ib k k1,c=(none,out,ia,ib,k,k1)/\Jm ρ a b (m+x) out ia ib) (Q:=λc st2=>st2=st/\Rh ρ a b (m+1) c) ?turn ?last ?first) ?after)
 case first=>exact ⟨rfl,_,_,_,_,_,rfl,h⟩
 case last =>
  rintro c st2 ⟨rfl,out,ia,ib,k,k1,rfl,J⟩
  exact ⟨rfl,.inr ⟨_,_,_,_,_,rfl,J.weak (by lia)⟩⟩
 case turn =>
  rintro x c st2 _ hx ⟨rfl,out,ia,ib,k,k1,rfl,J⟩
  refine apc (VE h0 hk T J) ?_
  rintro r st3 ⟨rfl,hr⟩
  cases r with
  | done c =>
   refine ⟨rfl,?_⟩
   rcases hr with hr | ⟨out,ia,ib,k,k1,rfl,J⟩
   .exact .inl hr
   .exact .inr ⟨_,_,_,_,_,rfl,J.weak (by lia)⟩
  | yield c=>exact ⟨rfl,hr⟩
 case after =>
  rintro c st2 ⟨rfl,hc⟩
  rcases hc with ⟨r,q,rfl,R⟩ | ⟨out,ia,ib,k,k1,rfl,J⟩
  .exact aVv ⟨Sm.refl _,_,_,rfl,R⟩
  .dsimp only
   refine aRj (wpS_lift (aGu ⟨rfl,?_⟩))
   refine aRj (apc (aNA (I:=λx c st3=>Sm st2 st3/\∃ out ia ib g k k1,c=(none,out,ia,ib,g,k,k1)/\Jm ρ a b (m+x) out ia ib) (Q:=λc st3=>Sm st2 st3/\Q7 ρ a b (m+1) c) ?jturn ?jlast ?jfirst) ?jafter)
   case jfirst=>exact ⟨Sm.refl _,_,_,_,_,_,_,rfl,J.weak (by lia)⟩
   case jlast =>
    rintro c st3 ⟨hS,out,ia,ib,g,k,k1,rfl,J⟩
    exact ⟨hS,.inr ⟨_,_,_,_,_,_,rfl,J.weak (by lia)⟩⟩
   case jturn =>
    rintro x c st3 _ hx ⟨hS,out,ia,ib,g,k,k1,rfl,J⟩
    have Hi:kindOf st3=κ:=hS.1.trans hk
    dsimp only
    rw [show (if g > 1 then lo1 a b out ia ib (g - 1) k k1 else lo1 a b out ia ib g k k1)=lo1 a b out ia ib (if g > 1 then g - 1 else g) k k1 by split <;> rfl]
    refine apc (VF h0 Hi T hS J) ?_
    rintro r dF ⟨qL,hr⟩
    cases r with
    | done c =>
     refine ⟨qL,?_⟩
     rcases hr with hr | ⟨out,ia,ib,g,k,k1,rfl,J⟩
     .exact .inl hr
     .exact .inr ⟨_,_,_,_,_,_,rfl,J.weak (by lia)⟩
    | yield c=>exact ⟨qL,hr⟩
   case jafter =>
    rintro c st3 ⟨hS,hc⟩
    rcases hc with ⟨r,q,rfl,R⟩ | ⟨out,ia,ib,g,k,k1,rfl,J⟩
    .exact aVv ⟨hS,_,_,rfl,R⟩
    .refine aRj (DJ λdF qL=>aVv ⟨hS.trans qL,_,_,_,_,rfl,J⟩)
theorem ZjF {st:SortSt} {Q:Array Keyed->SortSt->Prop} (h0:aF.jr prog w A s κ ρ a₀) (hk:kindOf st=κ) (T:yM ρ a₀ a b) (ha:0<a.size) (hb:0<b.size) (hf:∀ x∈a.toList,ρ.g b[0]<=ρ.g x)
  (h:∀ r st',Sm st st'->Res ρ a.toList b.toList r->Q r st'):wpS (model prog w) A E s (Jx a b) Q st:=by
 refine ZjE _ _ ?_
 refine aRj (wpS_lift (aGu ⟨rfl,?_⟩))
 refine aRj (Zw hb ?_)
 have M0:MI ρ a.toList b.toList (#[]:Array Keyed).toList 0 0:=⟨by simp,by simpa using T.sa,by simpa using T.sb⟩
 have M1:MI ρ a.toList b.toList (#[b[0]]:Array Keyed).toList 0 1:=M0.kg hb (λx hx=>hf x (by simpa using hx))
 by_cases e1:1=b.size
 .rw [bb9 (by simpa using e1)]
  exact aVv (h _ _ (Sm.refl _) (M1.res (.inr (azI (by simp; lia)))))
 .rw [aYW (by simpa using e1)]
  by_cases e2:0+1=a.size
  .rw [bb9 (by simpa using e2)]
   exact aVv (h _ _ (Sm.refl _) (M1.last T.last e2))
  .rw [aYW (by simpa using e2)]
   refine aRj (aqU ?_)
   refine aRj (apc (aNA (I:=λx c st2=>Sm st st2/\∃ out ia ib g,c=(none,out,ia,ib,g)/\Jm ρ a b (x+1) out ia ib) (Q:=λc st2=>Sm st st2/\∃ r q,c=(some r,q)/\Res ρ a.toList b.toList r) ?turn ?last ?first) ?after)
   case first=>exact ⟨Sm.refl _,_,_,_,_,rfl,M1,by lia,by lia,by lia⟩
   case last =>
    rintro c st2 ⟨_,out,ia,ib,g,rfl,J⟩
    have:=J.2.1
    have:=J.2.2.1
    have:=J.2.2.2
    lia
   case turn =>
    rintro x c st2 _ hx ⟨hS,out,ia,ib,g,rfl,J⟩
    refine apc (VD h0 (hS.1.trans hk) T J) ?_
    rintro r st3 ⟨wC,hr⟩
    cases r with
    | done c=>exact ⟨hS.trans wC,hr⟩
    | yield c=>exact ⟨hS.trans wC,hr⟩
   case after =>
    rintro c st2 ⟨hS,r,q,rfl,R⟩
    exact aVv (h r st2 hS R)
end
structure MH (ρ:aF.RR) (A B O:List Keyed) (na nb:Nat):Prop where
 perm:(A.take na++B.take nb++O).Perm (A++B)
 sa:(A.take na++O).Pairwise (Lk ρ)
 sb:(B.take nb++O).Pairwise (Lk ρ)
section
variable {ρ:aF.RR} {A B O:List Keyed} {na nb:Nat}
theorem MH.iQ (h:MH ρ A B O na nb) (k:Nat) (hkn:k<=nb) (hk:∀ t∈(B.take nb).drop k,∀ x∈A.take na,ρ.g x<=ρ.g t):MH ρ A B ((B.take nb).drop k++O) na k:=by
 have e:B.take k=(B.take nb).take k:=by rw [List.take_take,Nat.min_eq_left hkn]
 have s:=h.sb
 have p:=h.perm
 rw [← aaL k (B.take nb),aP5] at s
 rw [← aaL k (B.take nb)] at p
 refine ⟨?_,?_,?_⟩
 .rw [e]
  refine List.Perm.trans ?_ p
  simp only [aP5]
  exact List.Perm.refl _
 .have s1:=(aNM.1 s).2.1
  have a1:=aNM.1 h.sa
  refine aNM.2 ⟨a1.1,s1,λx hx y hy=>?_⟩
  rcases ais.1 hy with hy | hy
  .exact hk y hy x hx
  .exact a1.2.2 x hx y hy
 .rw [e]
  exact s
theorem MH.j8 (h:MH ρ A B O na nb) (k:Nat) (hkn:k<=na) (hk:∀ t∈(A.take na).drop k,∀ x∈B.take nb,ρ.g x<=ρ.g t):MH ρ A B ((A.take na).drop k++O) k nb:=by
 have h2:MH ρ B A O nb na:=⟨List.Perm.trans (aLv.append_right _) (List.Perm.trans h.perm aLv),h.sb,h.sa⟩
 have h3:=h2.iQ k hkn hk
 exact ⟨List.Perm.trans (aLv.append_right _) (List.Perm.trans h3.perm aLv),h3.sb,h3.sa⟩
theorem oj (a:Array Keyed) (k:Nat):(a.extract 0 k).toList=a.toList.take k:=by
 rw [aza,List.extract_eq_drop_take,List.drop_zero,Nat.sub_zero]
theorem yu (a:Array Keyed) (i k:Nat):(a.extract i k).toList=(a.toList.take k).drop i:=by
 rw [aza,List.extract_eq_drop_take,drop_take]
theorem MH.res {a b out:Array Keyed} (h:MH ρ a.toList b.toList out.toList.reverse na nb) (he:na=0\/nb=0):Res ρ a.toList b.toList (a.extract 0 na++b.extract 0 nb++out.reverse):=by
 unfold Res
 rw [aIT,aIT,oj,oj,apg]
 refine ⟨h.perm,?_⟩
 rcases he with rfl | rfl
 .rw [take_zero,List.nil_append]; exact h.sb
 .rw [take_zero,aKQ]; exact h.sa
theorem MH.first {a b out:Array Keyed} (h:MH ρ a.toList b.toList out.toList.reverse na 1) (hl:∀ y∈b.toList.take 1,∀ x∈a.toList,ρ.g y<=ρ.g x):Res ρ a.toList b.toList (b.extract 0 1++a.extract 0 na++out.reverse):=by
 have h2:=h.j8 0 (a9k _) (λt ht x hx=>hl x hx t (List.mem_of_mem_take (List.mem_of_mem_drop ht)))
 rw [List.drop_zero] at h2
 unfold Res
 rw [aIT,aIT,oj,oj,apg]
 have p:=h2.perm
 have s:=h2.sb
 rw [take_zero,List.nil_append,← aP5] at p
 rw [← aP5] at s
 exact ⟨p,s⟩
end
abbrev pI:=Option (Array Keyed)×Nat×Nat×Array Keyed×Nat×Nat×Nat
def uS (a b:Array Keyed) (na nb:Nat) (out:Array Keyed) (g k k1:Nat):StateT SortSt Sem (ForInStep pI):=do
 let x ← elem' a (na - 1)
 if na - 1 == 0 then pure (.done (some (a.extract 0 (na - 1)++b.extract 0 nb++(out.push x).reverse),na - 1,nb,out.push x,g,k,k1))
 else if k<7 && k1<7 then pure (.done (none,na - 1,nb,out.push x,g,k,k1)) else pure (.yield (none,na - 1,nb,out.push x,g,k,k1))
def hi2 (a b:Array Keyed) (na nb:Nat) (out:Array Keyed) (g k bc:Nat):StateT SortSt Sem (ForInStep pI):=do
 let x ← elem' b (nb - 1)
 if nb - 1 == 1 then pure (.done (some (b.extract 0 (nb - 1)++a.extract 0 na++(out.push x).reverse),na,nb - 1,out.push x,g,k,bc))
 else do
  let y ← elem' a (na - 1)
  let r ← yx true y b 0 (nb - 1) (nb - 1 - 1)
  match r with
  | some i =>
   if nb - 1 - i > 0 then
    if i == 1 then pure (.done (some (b.extract 0 i++a.extract 0 na++(out.push x++(b.extract i (nb - 1)).reverse).reverse),na,i,out.push x++(b.extract i (nb - 1)).reverse,g,k,nb - 1 - i))
    else if i == 0 then pure (.done (some (a.extract 0 na++b.extract 0 i++(out.push x++(b.extract i (nb - 1)).reverse).reverse),na,i,out.push x++(b.extract i (nb - 1)).reverse,g,k,nb - 1 - i))
    else uS a b na i (out.push x++(b.extract i (nb - 1)).reverse) g k (nb - 1 - i)
   else uS a b na (nb - 1) (out.push x) g k (nb - 1 - i)
  | none=>pure (.done (some (a.extract 0 na++b.extract 0 (nb - 1)++(out.push x).reverse),na,nb - 1,out.push x,g,k,bc))
def hi1 (a b:Array Keyed) (na nb:Nat) (out:Array Keyed) (g ac bc:Nat):StateT SortSt Sem (ForInStep pI):=do
 ZV g
 let y ← elem' b (nb - 1)
 let r ← yx false y a 0 na (na - 1)
 match r with
 | some i =>
  if na - i > 0 then
   if i == 0 then pure (.done (some (a.extract 0 i++b.extract 0 nb++(out++(a.extract i na).reverse).reverse),i,nb,out++(a.extract i na).reverse,g,na - i,bc))
   else hi2 a b i nb (out++(a.extract i na).reverse) g (na - i) bc
  else hi2 a b na nb out g (na - i) bc
 | none=>pure (.done (some (a.extract 0 na++b.extract 0 nb++out.reverse),na,nb,out,g,ac,bc))
abbrev uc:=Option (Array Keyed)×Nat×Nat×Array Keyed×Nat×Nat
def Dk (a b:Array Keyed) (mg:Nat) (c:uc):StateT SortSt Sem (ForInStep uc):=do
 let y ← elem' b (c.2.2.1 - 1)
 let x ← elem' a (c.2.1 - 1)
 let r ← lt' y x
 match r with
 | some w =>
  if w then do
   let x ← elem' a (c.2.1 - 1)
   if c.2.1 - 1 == 0 then pure (.done (some (a.extract 0 (c.2.1 - 1)++b.extract 0 c.2.2.1++(c.2.2.2.1.push x).reverse),c.2.1 - 1,c.2.2.1,c.2.2.2.1.push x,c.2.2.2.2.1+1,0))
   else if c.2.2.2.2.1+1 ≥ mg then pure (.done (none,c.2.1 - 1,c.2.2.1,c.2.2.2.1.push x,c.2.2.2.2.1+1,0))
   else pure (.yield (none,c.2.1 - 1,c.2.2.1,c.2.2.2.1.push x,c.2.2.2.2.1+1,0))
  else do
   let y ← elem' b (c.2.2.1 - 1)
   if c.2.2.1 - 1 == 1 then pure (.done (some (b.extract 0 (c.2.2.1 - 1)++a.extract 0 c.2.1++(c.2.2.2.1.push y).reverse),c.2.1,c.2.2.1 - 1,c.2.2.2.1.push y,0,c.2.2.2.2.2+1))
   else if c.2.2.2.2.2+1 ≥ mg then pure (.done (none,c.2.1,c.2.2.1 - 1,c.2.2.2.1.push y,0,c.2.2.2.2.2+1))
   else pure (.yield (none,c.2.1,c.2.2.1 - 1,c.2.2.2.1.push y,0,c.2.2.2.2.2+1))
 | none=>pure (.done (some (a.extract 0 c.2.1++b.extract 0 c.2.2.1++c.2.2.2.1.reverse),c.2.1,c.2.2.1,c.2.2.2.1,c.2.2.2.2.1,c.2.2.2.2.2))
abbrev xC:=Option (Array Keyed)×Nat×Nat×Array Keyed×Nat
def Dj (a b:Array Keyed) (c:xC):StateT SortSt Sem (ForInStep xC):=do
 let d ← forIn [0:a.size+b.size] ((none,c.2.1,c.2.2.1,c.2.2.2.1,0,0):uc) (λ_ d=>Dk a b c.2.2.2.2 d)
 match d.1 with
 | some r=>pure (.done (some r,d.2.1,d.2.2.1,d.2.2.2.1,c.2.2.2.2))
 | none=>do
  rule "list.sort.gallop"
  let e ← forIn [0:a.size+b.size] ((none,d.2.1,d.2.2.1,d.2.2.2.1,c.2.2.2.2+1,d.2.2.2.2.1,d.2.2.2.2.2):pI) (λ_ e=>if e.2.2.2.2.1 > 1 then hi1 a b e.2.1 e.2.2.1 e.2.2.2.1 (e.2.2.2.2.1 - 1) e.2.2.2.2.2.1 e.2.2.2.2.2.2 else hi1 a b e.2.1 e.2.2.1 e.2.2.2.1 e.2.2.2.2.1 e.2.2.2.2.2.1 e.2.2.2.2.2.2)
  match e.1 with
  | some r=>pure (.done (some r,e.2.1,e.2.2.1,e.2.2.2.1,e.2.2.2.2.1))
  | none=>do
   ZV (e.2.2.2.2.1+1)
   pure (.yield (none,e.2.1,e.2.2.1,e.2.2.2.1,e.2.2.2.2.1+1))
theorem ZjG {M:Model} {A:Around} {E:Value->Shared->Prop} {s:Shared} {Q:Array Keyed->SortSt->Prop} {st:SortSt} (a b:Array Keyed) (h:wpS M A E s (do
 rule "list.sort.merge-hi"
 let x ← elem' a (a.size - 1)
 if a.size - 1 == 0 then pure (a.extract 0 (a.size - 1)++b.extract 0 b.size++#[x].reverse)
 else if b.size == 1 then pure (b.extract 0 b.size++a.extract 0 (a.size - 1)++#[x].reverse)
 else do
  let st ← get
  let c ← forIn [0:a.size+b.size] ((none,a.size - 1,b.size,#[x],gallopOf st):xC) (λ_ c=>Dj a b c)
  match c.1 with
  | some r=>pure r
  | none=>unsupported "internal:list.sort.merge-bound") Q st):wpS M A E s (Jw a b) Q st:=by
 show wpAny M A (Jw a b st) _ E s
 wp_delta
 wp_delta
 refine qW ?_ h
 dsimp only
 refine a8M λ_=>a8M λx=>?_
 congr 1
 congr 1
 refine a8M λst=>?_
 congr 1
 .congr 1
  funext _ c
  unfold Dj
  congr 1
  .congr 1
   funext _ d
   unfold Dk
   refine a8M λy=>a8M λx=>a8M λr=>?_
   cases r with
   | some w =>
    cases w with
    | true=>rfl
    | false=>rfl
   | none=>rfl
  .funext d
   cases d.1 with
   | some r=>rfl
   | none =>
    dsimp only
    refine a8M λ_=>?_
    congr 1
    .congr 1
     funext _ e
     congr 1
     all_goals
      unfold hi1
      refine a8M λ_=>a8M λy=>a8M λr=>?_
      cases r with
      | none=>rfl
      | some k =>
       dsimp only
       congr 1
       .congr 1
        unfold hi2
        refine a8M λx=>?_
        congr 1
        refine a8M λy=>a8M λr=>?_
        cases r with
        | none=>rfl
        | some k1=>rfl
       .unfold hi2
        refine a8M λx=>?_
        congr 1
        refine a8M λy=>a8M λr=>?_
        cases r with
        | none=>rfl
        | some k1=>rfl
    .funext e
     cases e.1 with
     | some r=>rfl
     | none=>rfl
 .funext c
  cases c.1 with
  | some r=>rfl
  | none=>rfl
section
variable {prog:Program} {w:World} {A:Around} {E:Value->Shared->Prop} {s:Shared} {a₀:Array Keyed} {κ:SortKind} {ρ:aF.RR} {a b:Array Keyed}
theorem Iv (h:a.toList.Pairwise (Lk ρ)) {n:Nat} (hn:n<=a.size):fB ρ a 0 (0+n):=by
 intro x y hx hxy hy
 have hy':y<a.size:=by lia
 rw [bC (show x<a.size by lia),bC hy']
 by_cases e:x=y
 .subst e; lia
 .exact aLG.1 h x y (by simpa using (show x<a.size by lia)) (by simpa using hy') (by lia)
theorem Iu {n:Nat} {x:Keyed} (h:x∈a.toList.take n):∃ j,j<n/\∃ hj:j<a.size,x=a[j]:=by
 obtain ⟨j,hj,e⟩:=aoU.1 h
 rw [aoM,aLz] at hj
 refine ⟨j,by lia,by lia,?_⟩
 rw [← e,getElem_take,aqY]
theorem Jd {i n:Nat} {x:Keyed} (h:x∈(a.toList.take n).drop i):∃ j,i<=j/\j<n/\∃ hj:j<a.size,x=a[j]:=by
 obtain ⟨j,hj,e⟩:=aoU.1 h
 rw [a8K,aoM,aLz] at hj
 refine ⟨i+j,by lia,by lia,by lia,?_⟩
 rw [← e,getElem_drop,getElem_take,aqY]
theorem Cut.Ae {left:Bool} {kv:Int} {n k:Nat} (h:Cut ρ left kv a 0 n k) {x:Keyed} (hx:x∈a.toList.take k):ρ.g x<=kv:=by
 obtain ⟨j,hj,hs,rfl⟩:=Iu hx
 have:=h.lo j hj
 unfold Bd at this
 simp only [ajJ] at this
 rw [bC hs] at this
 cases left with
 | true=>simp only [aEp,aAa] at this; lia
 | false=>simp only [a7V,azU,aB5,aX0] at this; lia
theorem Cut.uQ {left:Bool} {kv:Int} {n k:Nat} (h:Cut ρ left kv a 0 n k) {x:Keyed} (hx:x∈(a.toList.take n).drop k):kv<=ρ.g x:=by
 obtain ⟨j,hk,hj,hs,rfl⟩:=Jd hx
 have:=h.hi j hk hj
 unfold Bd at this
 simp only [ajJ] at this
 rw [bC hs] at this
 cases left with
 | true=>simp only [aEp,aX0] at this; lia
 | false=>simp only [a7V,azU,Bool.not_eq_false',aAa] at this; lia
theorem Ec {n:Nat} (hn:0<n) (hs:n<=a.size):(a.toList.take n).drop (n - 1)=[a[n - 1]]:=by
 rw [drop_take,show n - (n - 1)=1 by lia]
 exact BF (by lia)
theorem D6 {n:Nat} (hn:0<n) (hs:n<=a.size) (h:a.toList.Pairwise (Lk ρ)) {x:Keyed} (hx:x∈a.toList.take n):ρ.g x<=ρ.g a[n - 1]:=by
 obtain ⟨j,hj,hs2,rfl⟩:=Iu hx
 have:=Iv h hs j (n - 1) (by lia) (by lia) (by lia)
 rw [bC hs2,bC (show n - 1<a.size by lia)] at this
 exact this
theorem MH.first' {out:Array Keyed} {na nb:Nat} (h:MH ρ a.toList b.toList out.toList.reverse na nb) (hl:∀ y∈b.toList.take 1,∀ x∈a.toList,ρ.g y<=ρ.g x) (e:nb=1):Res ρ a.toList b.toList (b.extract 0 nb++a.extract 0 na++out.reverse):=by
 subst e
 exact h.first hl
structure yN (ρ:aF.RR) (a₀ a b:Array Keyed):Prop where
 ma:∀ p∈a.toList,p∈a₀.toList
 mb:∀ p∈b.toList,p∈a₀.toList
 sa:a.toList.Pairwise (Lk ρ)
 sb:b.toList.Pairwise (Lk ρ)
 first:∀ y∈b.toList.take 1,∀ x∈a.toList,ρ.g y<=ρ.g x
structure Jh (ρ:aF.RR) (a b:Array Keyed) (m na nb:Nat) (out:Array Keyed):Prop where
 M:MH ρ a.toList b.toList out.toList.reverse na nb
 bd:na+nb+m<=a.size+b.size
 la:na<=a.size
 lb:nb<=b.size
 pa:1<=na
 pb:2<=nb
theorem Jh.weak {m m' na nb:Nat} {out:Array Keyed} (h:Jh ρ a b m na nb out) (hm:m'<=m):Jh ρ a b m' na nb out:=⟨h.M,by have:=h.bd; lia,h.la,h.lb,h.pa,h.pb⟩
def Q9 (ρ:aF.RR) (a b:Array Keyed) (m:Nat) (c:pI):Prop:=(∃ r q,c=(some r,q)/\Res ρ a.toList b.toList r)\/∃ na nb out g k k1,c=(none,na,nb,out,g,k,k1)/\Jh ρ a b m na nb out
def Lq (ρ:aF.RR) (a b:Array Keyed) (m:Nat) (st:SortSt) (r:ForInStep pI) (st':SortSt):Prop:=Sm st st'/\match r with
 | .done c=>Q9 ρ a b m c
 | .yield c=>∃ na nb out g k k1,c=(none,na,nb,out,g,k,k1)/\Jh ρ a b m na nb out
theorem MH.kh {out:Array Keyed} {na nb:Nat} (h:MH ρ a.toList b.toList out.toList.reverse na nb) (hn:0<na) (hs:na<=a.size) (hk:∀ x∈b.toList.take nb,ρ.g x<=ρ.g a[na - 1]):MH ρ a.toList b.toList (out.push a[na - 1]).toList.reverse (na - 1) nb:=by
 have:=h.j8 (na - 1) (by lia) (by rw [Ec hn hs]; intro t ht x hx; rw [a60.1 ht]; exact hk x hx)
 rw [Ec hn hs] at this
 rw [a6T,List.reverse_append]
 exact this
theorem MH.kg {out:Array Keyed} {na nb:Nat} (h:MH ρ a.toList b.toList out.toList.reverse na nb) (hn:0<nb) (hs:nb<=b.size) (hk:∀ x∈a.toList.take na,ρ.g x<=ρ.g b[nb - 1]):MH ρ a.toList b.toList (out.push b[nb - 1]).toList.reverse na (nb - 1):=by
 have:=h.iQ (nb - 1) (by lia) (by rw [Ec hn hs]; intro t ht x hx; rw [a60.1 ht]; exact hk x hx)
 rw [Ec hn hs] at this
 rw [a6T,List.reverse_append]
 exact this
theorem Nt (out:Array Keyed) (i n:Nat):(out++(a.extract i n).reverse).toList.reverse=(a.toList.take n).drop i++out.toList.reverse:=by
 rw [aIT,List.reverse_append,apg,List.reverse_reverse,yu]
theorem Nr {fF st:SortSt} {out:Array Keyed} {na nb g k k1 m:Nat} (T:yN ρ a₀ a b) (hS:Sm fF st) (h:Jh ρ a b m na nb out) (hk:∀ x∈b.toList.take nb,ρ.g x<=ρ.g (a[na - 1]'(by have:=h.pa; have:=h.la; lia))):wpS (model prog w) A E s (uS a b na nb out g k k1) (Lq ρ a b (m+1) fF) st:=by
 obtain ⟨M,bd,la,lb,pa,pb⟩:=h
 unfold uS
 refine aRj (Zw (show na - 1<a.size by lia) ?_)
 have M2:=M.kh (by lia) la hk
 by_cases e:na - 1=0
 .rw [bb9 (by simpa using e)]
  exact aVv ⟨hS,.inl ⟨_,_,rfl,M2.res (.inl e)⟩⟩
 .rw [aYW (by simpa using e)]
  have J:Jh ρ a b (m+1) (na - 1) nb (out.push a[na - 1]):=⟨M2,by lia,by lia,lb,by lia,pb⟩
  by_cases c:(decide (k<7) && decide (k1<7))=true
  .rw [bb9 c]
   exact aVv ⟨hS,.inr ⟨_,_,_,_,_,_,rfl,J⟩⟩
  .rw [aYW c]
   exact aVv ⟨hS,_,_,_,_,_,_,rfl,J⟩
theorem Nq {fF st:SortSt} {out:Array Keyed} {na nb g k bc m:Nat} (h0:aF.jr prog w A s κ ρ a₀) (hk:kindOf st=κ) (T:yN ρ a₀ a b) (hS:Sm fF st) (h:Jh ρ a b m na nb out) (hq:∀ x∈a.toList.take na,ρ.g x<=ρ.g (b[nb - 1]'(by have:=h.pb; have:=h.lb; lia))):wpS (model prog w) A E s (hi2 a b na nb out g k bc) (Lq ρ a b (m+1) fF) st:=by
 obtain ⟨M,bd,la,lb,pa,pb⟩:=h
 unfold hi2
 refine aRj (Zw (show nb - 1<b.size by lia) ?_)
 have M2:=M.kg (by lia) lb hq
 by_cases e:nb - 1=1
 .rw [bb9 (by simpa using e)]
  exact aVv ⟨hS,.inl ⟨_,_,rfl,M2.first' T.first e⟩⟩
 .rw [aYW (by simpa using e)]
  refine aRj (Zw (show na - 1<a.size by lia) ?_)
  refine aRj (yJ hk h0 T.mb (T.ma _ (by simp)) (by lia) (by lia) (Iv T.sb (by lia)) (λi C=>?_))
  dsimp only
  have fa:∀ x∈a.toList.take na,ρ.g x<=ρ.g a[na - 1]:=λx hx=>D6 (by lia) la T.sa hx
  have ci:=C.le
  have M3:=M2.iQ i (by lia) (λt ht x hx=>agt (fa x hx) (C.uQ ht))
  rw [← Nt] at M3
  have hi:∀ x∈b.toList.take i,ρ.g x<=ρ.g a[na - 1]:=λx hx=>C.Ae hx
  by_cases c:nb - 1 - i > 0
  .rw [bb9 c]
   by_cases e2:i=1
   .rw [bb9 (by simpa using e2)]
    exact aVv ⟨hS,.inl ⟨_,_,rfl,M3.first' T.first e2⟩⟩
   .rw [aYW (by simpa using e2)]
    by_cases e3:i=0
    .rw [bb9 (by simpa using e3)]
     exact aVv ⟨hS,.inl ⟨_,_,rfl,M3.res (.inr e3)⟩⟩
    .rw [aYW (by simpa using e3)]
     exact Nr T hS ⟨M3,by lia,la,by lia,pa,by lia⟩ hi
  .rw [aYW c]
   have e3:i=nb - 1:=by lia
   subst e3
   exact Nr T hS ⟨M2,by lia,la,by lia,pa,by lia⟩ hi
theorem Wo {fF st:SortSt} {out:Array Keyed} {na nb g ac bc m:Nat} (h0:aF.jr prog w A s κ ρ a₀) (hk:kindOf st=κ) (T:yN ρ a₀ a b) (hS:Sm fF st) (h:Jh ρ a b m na nb out):wpS (model prog w) A E s (hi1 a b na nb out g ac bc) (Lq ρ a b (m+1) fF) st:=by
 obtain ⟨M,bd,la,lb,pa,pb⟩:=h
 unfold hi1
 refine aRj (DJ λst1 wD=>?_)
 have hk1:kindOf st1=κ:=wD.1.trans hk
 have pT:=hS.trans wD
 refine aRj (Zw (show nb - 1<b.size by lia) ?_)
 refine aRj (yJ hk1 h0 T.ma (T.mb _ (by simp)) (by lia) (by lia) (Iv T.sa la) (λi C=>?_))
 dsimp only
 have fb:∀ x∈b.toList.take nb,ρ.g x<=ρ.g b[nb - 1]:=λx hx=>D6 (by lia) lb T.sb hx
 have ci:=C.le
 have M3:=M.j8 i ci (λt ht x hx=>agt (fb x hx) (C.uQ ht))
 rw [← Nt] at M3
 have hi:∀ x∈a.toList.take i,ρ.g x<=ρ.g b[nb - 1]:=λx hx=>C.Ae hx
 by_cases c:na - i > 0
 .rw [bb9 c]
  by_cases e2:i=0
  .rw [bb9 (by simpa using e2)]
   exact aVv ⟨pT,.inl ⟨_,_,rfl,M3.res (.inl e2)⟩⟩
  .rw [aYW (by simpa using e2)]
   exact Nq h0 hk1 T pT ⟨M3,by lia,by lia,lb,by lia,pb⟩ hi
 .rw [aYW c]
  have e3:i=na:=by lia
  subst e3
  exact Nq h0 hk1 T pT ⟨M,by lia,la,lb,pa,pb⟩ hi
def Ra (ρ:aF.RR) (a b:Array Keyed) (m:Nat) (c:uc):Prop:=(∃ r q,c=(some r,q)/\Res ρ a.toList b.toList r)\/∃ na nb out k k1,c=(none,na,nb,out,k,k1)/\Jh ρ a b m na nb out
theorem Wn {st:SortSt} {out:Array Keyed} {mg na nb ac bc m:Nat} (h0:aF.jr prog w A s κ ρ a₀) (hk:kindOf st=κ) (T:yN ρ a₀ a b) (h:Jh ρ a b m na nb out):wpS (model prog w) A E s (Dk a b mg (none,na,nb,out,ac,bc)) (λr st'=>st'=st/\match r with
  | .done c=>Ra ρ a b (m+1) c
  | .yield c=>∃ na nb out k k1,c=(none,na,nb,out,k,k1)/\Jh ρ a b (m+1) na nb out) st:=by
 obtain ⟨M,bd,la,lb,pa,pb⟩:=h
 have fa:∀ x∈a.toList.take na,ρ.g x<=ρ.g a[na - 1]:=λx hx=>D6 (by lia) la T.sa hx
 have fb:∀ x∈b.toList.take nb,ρ.g x<=ρ.g b[nb - 1]:=λx hx=>D6 (by lia) lb T.sb hx
 have ha:na - 1<a.size:=by lia
 have hb:nb - 1<b.size:=by lia
 unfold Dk
 dsimp only
 refine aRj (Zw hb (aRj (Zw ha (aRj (lH hk h0 (T.mb _ (by simp)) (T.ma _ (by simp)) ?_)))))
 dsimp only
 by_cases c:ρ.g b[nb - 1]<ρ.g a[na - 1]
 .rw [a6t c,bb9 rfl]
  refine aRj (Zw ha ?_)
  have M2:=M.kh (by lia) la (λx hx=>by have:=fb x hx; lia)
  by_cases e:na - 1=0
  .rw [bb9 (by simpa using e)]
   exact aVv ⟨rfl,.inl ⟨_,_,rfl,M2.res (.inl e)⟩⟩
  .rw [aYW (by simpa using e)]
   have J:Jh ρ a b (m+1) (na - 1) nb (out.push a[na - 1]):=⟨M2,by lia,by lia,lb,by lia,pb⟩
   by_cases c2:ac+1 ≥ mg
   .rw [bb9 c2]
    exact aVv ⟨rfl,.inr ⟨_,_,_,_,_,rfl,J⟩⟩
   .rw [aYW c2]
    exact aVv ⟨rfl,_,_,_,_,_,rfl,J⟩
 .rw [a5c c,aYW (by simp)]
  refine aRj (Zw hb ?_)
  have M2:=M.kg (by lia) lb (λx hx=>by have:=fa x hx; lia)
  by_cases e:nb - 1=1
  .rw [bb9 (by simpa using e)]
   exact aVv ⟨rfl,.inl ⟨_,_,rfl,M2.first' T.first e⟩⟩
  .rw [aYW (by simpa using e)]
   have J:Jh ρ a b (m+1) na (nb - 1) (out.push b[nb - 1]):=⟨M2,by lia,la,by lia,pa,by lia⟩
   by_cases c2:bc+1 ≥ mg
   .rw [bb9 c2]
    exact aVv ⟨rfl,.inr ⟨_,_,_,_,_,rfl,J⟩⟩
   .rw [aYW c2]
    exact aVv ⟨rfl,_,_,_,_,_,rfl,J⟩
theorem Wm {st:SortSt} {out:Array Keyed} {na nb g m:Nat} (h0:aF.jr prog w A s κ ρ a₀) (hk:kindOf st=κ) (T:yN ρ a₀ a b) (h:Jh ρ a b m na nb out):wpS (model prog w) A E s (Dj a b (none,na,nb,out,g)) (λr st'=>Sm st st'/\match r with
  | .done c=>∃ r q,c=(some r,q)/\Res ρ a.toList b.toList r
  | .yield c=>∃ na nb out g,c=(none,na,nb,out,g)/\Jh ρ a b (m+1) na nb out) st:=by
 have pos:0<a.size+b.size:=by have:=h.la; have:=h.pa; lia
 unfold Dj
 dsimp only
 refine aRj (apc (aNA (I:=λx c st2=>st2=st/\∃ na nb out k k1,c=(none,na,nb,out,k,k1)/\Jh ρ a b (m+x) na nb out) (Q:=λc st2=>st2=st/\Ra ρ a b (m+1) c) ?turn ?last ?first) ?after)
 case first=>exact ⟨rfl,_,_,_,_,_,rfl,h⟩
 case last =>
  rintro c st2 ⟨rfl,na,nb,out,k,k1,rfl,J⟩
  exact ⟨rfl,.inr ⟨_,_,_,_,_,rfl,J.weak (by lia)⟩⟩
 case turn =>
  rintro x c st2 _ hx ⟨rfl,na,nb,out,k,k1,rfl,J⟩
  refine apc (Wn h0 hk T J) ?_
  rintro r st3 ⟨rfl,hr⟩
  cases r with
  | done c =>
   refine ⟨rfl,?_⟩
   rcases hr with hr | ⟨na,nb,out,k,k1,rfl,J⟩
   .exact .inl hr
   .exact .inr ⟨_,_,_,_,_,rfl,J.weak (by lia)⟩
  | yield c=>exact ⟨rfl,hr⟩
 case after =>
  rintro c st2 ⟨rfl,hc⟩
  rcases hc with ⟨r,q,rfl,R⟩ | ⟨na,nb,out,k,k1,rfl,J⟩
  .exact aVv ⟨Sm.refl _,_,_,rfl,R⟩
  .dsimp only
   refine aRj (wpS_lift (aGu ⟨rfl,?_⟩))
   refine aRj (apc (aNA (I:=λx c st3=>Sm st2 st3/\∃ na nb out g k k1,c=(none,na,nb,out,g,k,k1)/\Jh ρ a b (m+x) na nb out) (Q:=λc st3=>Sm st2 st3/\Q9 ρ a b (m+1) c) ?jturn ?jlast ?jfirst) ?jafter)
   case jfirst=>exact ⟨Sm.refl _,_,_,_,_,_,_,rfl,J.weak (by lia)⟩
   case jlast =>
    rintro c st3 ⟨hS,na,nb,out,g,k,k1,rfl,J⟩
    exact ⟨hS,.inr ⟨_,_,_,_,_,_,rfl,J.weak (by lia)⟩⟩
   case jturn =>
    rintro x c st3 _ hx ⟨hS,na,nb,out,g,k,k1,rfl,J⟩
    have Hi:kindOf st3=κ:=hS.1.trans hk
    dsimp only
    rw [show (if g > 1 then hi1 a b na nb out (g - 1) k k1 else hi1 a b na nb out g k k1)=hi1 a b na nb out (if g > 1 then g - 1 else g) k k1 by split <;> rfl]
    refine apc (Wo h0 Hi T hS J) ?_
    rintro r dF ⟨qL,hr⟩
    cases r with
    | done c =>
     refine ⟨qL,?_⟩
     rcases hr with hr | ⟨na,nb,out,g,k,k1,rfl,J⟩
     .exact .inl hr
     .exact .inr ⟨_,_,_,_,_,_,rfl,J.weak (by lia)⟩
    | yield c=>exact ⟨qL,hr⟩
   case jafter =>
    rintro c st3 ⟨hS,hc⟩
    rcases hc with ⟨r,q,rfl,R⟩ | ⟨na,nb,out,g,k,k1,rfl,J⟩
    .exact aVv ⟨hS,_,_,rfl,R⟩
    .refine aRj (DJ λdF qL=>aVv ⟨hS.trans qL,_,_,_,_,rfl,J⟩)
theorem ZjH {st:SortSt} {Q:Array Keyed->SortSt->Prop} (h0:aF.jr prog w A s κ ρ a₀) (hk:kindOf st=κ) (T:yN ρ a₀ a b) (ha:0<a.size) (hb:0<b.size) (hf:∀ x∈b.toList,ρ.g x<=ρ.g a[a.size - 1])
  (h:∀ r st',Sm st st'->Res ρ a.toList b.toList r->Q r st'):wpS (model prog w) A E s (Jw a b) Q st:=by
 refine ZjG _ _ ?_
 refine aRj (wpS_lift (aGu ⟨rfl,?_⟩))
 refine aRj (Zw (show a.size - 1<a.size by lia) ?_)
 have ta:a.toList.take a.size=a.toList:=aAh (by simp)
 have tb:b.toList.take b.size=b.toList:=aAh (by simp)
 have M0:MH ρ a.toList b.toList (#[]:Array Keyed).toList.reverse a.size b.size:=⟨by rw [ta,tb]; simp,by rw [ta]; simpa using T.sa,by rw [tb]; simpa using T.sb⟩
 have M1:MH ρ a.toList b.toList (#[a[a.size - 1]]:Array Keyed).toList.reverse (a.size - 1) b.size:=M0.kh ha (aDN _) (λx hx=>hf x (by rw [tb] at hx; exact hx))
 by_cases e1:a.size - 1=0
 .rw [bb9 (by simpa using e1)]
  exact aVv (h _ _ (Sm.refl _) (M1.res (.inl e1)))
 .rw [aYW (by simpa using e1)]
  by_cases e2:b.size=1
  .rw [bb9 (by simpa using e2)]
   exact aVv (h _ _ (Sm.refl _) (M1.first' T.first e2))
  .rw [aYW (by simpa using e2)]
   refine aRj (aqU ?_)
   refine aRj (apc (aNA (I:=λx c st2=>Sm st st2/\∃ na nb out g,c=(none,na,nb,out,g)/\Jh ρ a b (x+1) na nb out) (Q:=λc st2=>Sm st st2/\∃ r q,c=(some r,q)/\Res ρ a.toList b.toList r) ?turn ?last ?first) ?after)
   case first=>exact ⟨Sm.refl _,_,_,_,_,rfl,M1,by lia,by lia,by lia,by lia,by lia⟩
   case last =>
    rintro c st2 ⟨_,na,nb,out,g,rfl,J⟩
    have:=J.bd
    have:=J.pa
    lia
   case turn =>
    rintro x c st2 _ hx ⟨hS,na,nb,out,g,rfl,J⟩
    refine apc (Wm h0 (hS.1.trans hk) T J) ?_
    rintro r st3 ⟨wC,hr⟩
    cases r with
    | done c=>exact ⟨hS.trans wC,hr⟩
    | yield c=>exact ⟨hS.trans wC,hr⟩
   case after =>
    rintro c st2 ⟨hS,r,q,rfl,R⟩
    exact aVv (h r st2 hS R)
end
end L2.tW
set_option maxHeartbeats 400000
namespace L2.tW
open PySem PySem.Spec PyProof.Rows
def Jv:Nat->StateT SortSt Sem Bool:=sortPriv% PySem.Builtin.mergeAt
def layAt (arr:Array Keyed) (at_:Nat) (l:List Keyed) (k:Nat):Array Keyed:=(l.zipIdx k).foldl (λa (p,j)=>a.setIfInBounds (at_+j) p) arr
theorem Eh (arr:Array Keyed) (at_:Nat) (l:List Keyed) (k i:Nat) (h:at_+k+l.length<=arr.size):(layAt arr at_ l k)[i]?=if at_+k<=i/\i<at_+k+l.length then l[i - (at_+k)]? else arr[i]?:=by
 induction l generalizing arr k with
 | nil=>rw [aYW (by simp)]; rfl
 | cons x l ih =>
  have e:layAt arr at_ (x :: l) k=layAt (arr.setIfInBounds (at_+k) x) at_ l (k+1):=by
   unfold layAt
   rw [List.zipIdx_cons,List.foldl_cons]
  simp only [a23] at h ⊢
  rw [e,ih (arr.setIfInBounds (at_+k) x) (k+1) (by simp; lia)]
  by_cases c:at_+k=i
  .subst c
   rw [aYW (by lia),bb9 (by lia),amh,Array.getElem?_setIfInBounds_self_of_lt (by lia)]
   rfl
  .by_cases c2:at_+(k+1)<=i/\i<at_+(k+1)+l.length
   .rw [bb9 c2,bb9 (by lia),show i - (at_+k)=(i - (at_+(k+1)))+1 by lia,aM6]
   .rw [aYW c2,aYW (by lia),Array.getElem?_setIfInBounds_ne c]
theorem ZgO (arr:Array Keyed) (at_:Nat) (l:List Keyed) (h:at_+l.length<=arr.size):(layAt arr at_ l 0).toList=arr.toList.take at_++(l++arr.toList.drop (at_+l.length)):=by
 refine a4b λi=>?_
 rw [acr,Eh arr at_ l 0 i (by lia),Nat.add_zero]
 have hl:(arr.toList.take at_).length=at_:=by rw [aoM,aLz]; lia
 by_cases c1:i<at_
 .rw [aYW (by lia),aOW (by lia),List.getElem?_take_of_lt c1,acr]
 .rw [aRD (by lia),hl]
  by_cases c2:i<at_+l.length
  .rw [bb9 (by lia),aOW (by lia)]
  .rw [aYW (by lia),aRD (by lia),getElem?_drop,acr]
   congr 1
   lia
theorem ZjI {arr:Array Keyed} {at_ n:Nat} {l:List Keyed} (h:at_+n<=arr.size) (p:l.Perm (arr.extract at_ (at_+n)).toList):(layAt arr at_ l 0).Perm arr:=by
 rw [IC] at p
 have e:l.length=n:=by rw [p.length_eq,aoM,a8K,aLz]; lia
 refine a0l.2 ?_
 rw [ZgO arr at_ l (by lia),e]
 have d:arr.toList=arr.toList.take at_++((arr.toList.drop at_).take n++arr.toList.drop (at_+n)):=by
  rw [← drop_drop,aaL,aaL]
 conv=>rhs; rw [d]
 exact (p.append_right _).append_left _
section
variable {prog:Program} {w:World} {A:Around} {E:Value->Shared->Prop} {s:Shared} {a₀:Array Keyed} {κ:SortKind} {ρ:aF.RR}
theorem pw_ex {arr:Array Keyed} {i j:Nat} (hj:j<=arr.size) (h:fB ρ arr i j):(arr.extract i j).toList.Pairwise (Lk ρ):=by
 refine aLG.2 λx y hx hy hxy=>?_
 simp only [aLz,Array.size_extract] at hx hy
 have:=h (i+x) (i+y) (by lia) (by lia) (by lia)
 rw [bC (show i+x<arr.size by lia),bC (show i+y<arr.size by lia)] at this
 simpa [Lk] using this
theorem Np {arr:Array Keyed} {i j:Nat} {x:Keyed} (h:x∈(arr.extract i j).toList):∃ k,i<=k/\k<j/\k<arr.size/\ρ.g x=aF.Kg ρ arr k/\x∈arr.toList:=by
 rw [yu] at h
 obtain ⟨k,h1,h2,h3,rfl⟩:=Jd h
 exact ⟨k,h1,h2,h3,(bC h3).symm,by simp⟩
theorem Ir {arr:Array Keyed} {at_:Nat} {l:List Keyed} (h:at_+l.length<=arr.size) {i:Nat} (h1:at_<=i) (h2:i<at_+l.length):aF.Kg ρ (layAt arr at_ l 0) i=ρ.g (l[i - at_]'(by lia)):=by
 have:=Eh arr at_ l 0 i (by lia)
 rw [bb9 (by lia),Nat.add_zero,aJu (by lia)] at this
 unfold aF.Kg
 rw [this]
 rfl
theorem yt {arr:Array Keyed} {at_:Nat} {l:List Keyed} (h:at_+l.length<=arr.size) {i:Nat} (h1:i<at_\/at_+l.length<=i):aF.Kg ρ (layAt arr at_ l 0) i=aF.Kg ρ arr i:=by
 have:=Eh arr at_ l 0 i (by lia)
 rw [aYW (by lia)] at this
 unfold aF.Kg
 rw [this]
end
end L2.tW
set_option maxHeartbeats 1000000
namespace L2.tW
open PySem PySem.Spec PyProof.Rows
section
variable {prog:Program} {w:World} {A:Around} {E:Value->Shared->Prop} {s:Shared} {a₀:Array Keyed} {κ:SortKind} {ρ:aF.RR}
theorem WB {arr:Array Keyed} {u lo hi:Nat} {r:List Keyed} (h:u+r.length<=arr.size) (hr:r.Pairwise (Lk ρ)) (hne:0<r.length) (hl:fB ρ arr lo u) (hh:fB ρ arr (u+r.length) hi)
  (bl:∀ i,lo<=i->i<u->∀ x∈r,aF.Kg ρ arr i<=ρ.g x) (bh:∀ i,u+r.length<=i->i<hi->∀ x∈r,ρ.g x<=aF.Kg ρ arr i):fB ρ (layAt arr u r 0) lo hi:=by
 intro i j hi1 hij hj
 by_cases a1:i<u
 .rw [yt h (.inl a1)]
  by_cases b1:j<u
  .rw [yt h (.inl b1)]
   exact hl i j hi1 hij b1
  .by_cases b2:j<u+r.length
   .rw [Ir h (by lia) b2]
    exact bl i hi1 a1 _ (ai0 _)
   .rw [yt h (.inr (by lia))]
    exact agt (bl i hi1 a1 (r[0]'hne) (ai0 _)) (bh j (by lia) hj _ (ai0 _))
 .by_cases a2:i<u+r.length
  .rw [Ir h (by lia) a2]
   by_cases b2:j<u+r.length
   .rw [Ir h (by lia) b2]
    by_cases e:i=j
    .subst e; exact aZP _
    .exact aLG.1 hr (i - u) (j - u) (by lia) (by lia) (by lia)
   .rw [yt h (.inr (by lia))]
    exact bh j (by lia) hj _ (ai0 _)
  .rw [yt h (.inr (by lia)),yt h (.inr (by lia))]
   exact hh i j (by lia) hij hj
theorem Cut.wj {left:Bool} {kv:Int} {arr:Array Keyed} {base n k:Nat} (h:Cut ρ left kv arr base n k) {i:Nat} (h1:base<=i) (h2:i<base+k):aF.Kg ρ arr i<=kv:=by
 have:=h.lo (i - base) (by lia)
 unfold Bd at this
 rw [show base+(i - base)=i by lia] at this
 cases left with
 | true=>simp only [aEp,aAa] at this; lia
 | false=>simp only [a7V,azU,aB5,aX0] at this; lia
theorem Cut.qI {left:Bool} {kv:Int} {arr:Array Keyed} {base n k:Nat} (h:Cut ρ left kv arr base n k) {i:Nat} (h1:base+k<=i) (h2:i<base+n):kv<=aF.Kg ρ arr i:=by
 have:=h.hi (i - base) (by lia) (by lia)
 unfold Bd at this
 rw [show base+(i - base)=i by lia] at this
 cases left with
 | true=>simp only [aEp,aX0] at this; lia
 | false=>simp only [a7V,azU,Bool.not_eq_false',aAa] at this; lia
theorem WA {st st':SortSt} {Q:PUnit->SortSt->Prop} (h:Q ⟨⟩ st'):wpS (model prog w) A E s (set st') Q st:=aEo (f:=λ_=>st') h
theorem ZjJ {st:SortSt} {i sa na p sb nb q:Nat} {Q:Bool->SortSt->Prop} (h0:aF.jr prog w A s κ ρ a₀) (hk:kindOf st=κ) (ha:∀ x∈(arrOf st).toList,x∈a₀.toList) (hfl:failedOf st=none)
  (e1:(pendingOf st)[i]?=some (sa,na,p)) (e2:(pendingOf st)[i+1]?=some (sb,nb,q)) (jR:sb=sa+na) (pa:0<na) (pb:0<nb) (hsz:sb+nb<=(arrOf st).size) (s1:fB ρ (arrOf st) sa (sa+na)) (s2:fB ρ (arrOf st) sb (sb+nb))
  (h:∀ st',kindOf st'=κ->failedOf st'=none->(arrOf st').Perm (arrOf st)->pendingOf st'=((pendingOf st).setIfInBounds i (sa,na+nb,p)).eraseIdxIfInBounds (i+1)->fB ρ (arrOf st') sa (sb+nb) ->
   (∀ j,j<sa\/sb+nb<=j->(arrOf st')[j]?=(arrOf st)[j]?)->Q true st'):wpS (model prog w) A E s (Jv i) Q st:=by
 show wpAny (model prog w) A (Jv i st) _ E s
 wp_delta
 wp_delta
 refine qW rfl ?_
 refine aRj (aqU ?_)
 rw [e1,e2]
 refine aRj (WA (st':=SortSt.mk' (kindOf st) (arrOf st) (((pendingOf st).setIfInBounds i (sa,na+nb,p)).eraseIdxIfInBounds (i+1)) (gallopOf st) (failedOf st)) ?_)
 generalize tD:SortSt.mk' (kindOf st) (arrOf st) (((pendingOf st).setIfInBounds i (sa,na+nb,p)).eraseIdxIfInBounds (i+1)) (gallopOf st) (failedOf st)=st1
 have k1:kindOf st1=κ:=by rw [← tD]; exact hk
 have f1:failedOf st1=none:=by rw [← tD]; exact hfl
 have a1:arrOf st1=arrOf st:=by rw [← tD]
 have p1:pendingOf st1=((pendingOf st).setIfInBounds i (sa,na+nb,p)).eraseIdxIfInBounds (i+1):=by rw [← tD]
 have hb0:sb<(arrOf st).size:=by lia
 refine aRj (Zw hb0 ?_)
 refine aRj (yJ k1 h0 ha (ha _ (by simp)) (show sa+na<=(arrOf st).size by lia) pa s1 (λk C1=>?_))
 have c1:=C1.le
 rw [← bC hb0] at C1
 dsimp only
 have whole:(∀ x y,sa<=x->x<sb->sb<=y->y<sb+nb->aF.Kg ρ (arrOf st) x<=aF.Kg ρ (arrOf st) y)->fB ρ (arrOf st) sa (sb+nb):=λhc x y hx hxy hy=>by
  by_cases u:y<sb
  .exact s1 x y hx hxy (by lia)
  .by_cases v:x<sb
   .exact hc x y hx v (by lia) hy
   .exact s2 x y (by lia) hxy hy
 by_cases z:na - k=0
 .rw [bb9 (by simpa using z)]
  refine aVv (h st1 k1 f1 (by rw [a1]) p1 ?_ (λj _=>by rw [a1]))
  rw [a1]
  refine whole λx y hx GS hy GQ=>?_
  exact agt (C1.wj hx (by lia)) (s2 sb y (aDN _) hy GQ)
 .rw [aYW (by simpa using z)]
  have My:sa+k+(na - k) - 1<(arrOf st).size:=by lia
  refine aRj (Zw My ?_)
  refine aRj (yJ k1 h0 ha (ha _ (by simp)) (show sb+nb<=(arrOf st).size by lia) (by lia) s2 (λn2 C2=>?_))
  have c2:=C2.le
  rw [← bC My,show sa+k+(na - k) - 1=sb - 1 by lia] at C2
  dsimp only
  by_cases z2:n2=0
  .rw [bb9 (by simpa using z2)]
   refine aVv (h st1 k1 f1 (by rw [a1]) p1 ?_ (λj _=>by rw [a1]))
   rw [a1]
   refine whole λx y hx GS hy GQ=>?_
   exact agt (s1 x (sb - 1) hx (by lia) (by lia)) (C2.qI (by lia) GQ)
  .rw [aYW (by simpa using z2)]
   have c3:=Nat.pos_of_ne_zero z2
   have mX:∀ x∈((arrOf st).extract (sa+k) sb).toList,∃ j,sa+k<=j/\j<sb/\j<(arrOf st).size/\ρ.g x=aF.Kg ρ (arrOf st) j/\x∈(arrOf st).toList:=λx hx=>Np hx
   have mY:∀ x∈((arrOf st).extract sb (sb+n2)).toList,∃ j,sb<=j/\j<sb+n2/\j<(arrOf st).size/\ρ.g x=aF.Kg ρ (arrOf st) j/\x∈(arrOf st).toList:=λx hx=>Np hx
   have sX:((arrOf st).extract (sa+k) sb).toList.Pairwise (Lk ρ):=pw_ex (by lia) (λx y p q r=>s1 x y (by lia) q (by lia))
   have sY:((arrOf st).extract sb (sb+n2)).toList.Pairwise (Lk ρ):=pw_ex (by lia) (λx y p q r=>s2 x y (by lia) q (by lia))
   have zX:((arrOf st).extract (sa+k) sb).size=na - k:=by rw [Array.size_extract]; lia
   have zY:((arrOf st).extract sb (sb+n2)).size=n2:=by rw [Array.size_extract]; lia
   have low:∀ x∈((arrOf st).extract (sa+k) sb).toList,aF.Kg ρ (arrOf st) sb<=ρ.g x:=λx hx=>by
    obtain ⟨j,j1,j2,j3,e,_⟩:=mX x hx
    rw [e]
    exact C1.qI j1 (by lia)
   have high:∀ x∈((arrOf st).extract sb (sb+n2)).toList,ρ.g x<=aF.Kg ρ (arrOf st) (sb - 1):=λx hx=>by
    obtain ⟨j,j1,j2,j3,e,_⟩:=mY x hx
    rw [e]
    exact C2.wj j1 j2
   have fin:∀ r st',Sm st1 st'->Res ρ ((arrOf st).extract (sa+k) sb).toList ((arrOf st).extract sb (sb+n2)).toList r->wpS (model prog w) A E s (do
     modify λs=>SortSt.mk' (kindOf s) (layAt (arrOf s) (sa+k) r.toList 0) (pendingOf s) (gallopOf s) (failedOf s)
     return (failedOf (← get)).isNone) Q st':=by
    rintro r st' ⟨wD,pT,wC,qL⟩ ⟨rp,rs⟩
    refine aRj (aEo (aRj (aqU (aVv ?_))))
    have ex:((arrOf st).extract (sa+k) sb).toList++((arrOf st).extract sb (sb+n2)).toList=((arrOf st).extract (sa+k) (sa+k+(na - k+n2))).toList:=by
     rw [yu,yu,yu,drop_take,drop_take,drop_take]
     rw [show sb - (sa+k)=na - k by lia,show sb+n2 - sb=n2 by lia,show sa+k+(na - k+n2) - (sa+k)=(na - k)+n2 by lia,List.take_add,drop_drop,show sa+k+(na - k)=sb by lia]
    have len:r.toList.length=na - k+n2:=by rw [rp.length_eq,aAe,aLz,aLz,zX,zY]
    have As:∀ x∈r.toList,aF.Kg ρ (arrOf st) sb<=ρ.g x/\ρ.g x<=aF.Kg ρ (arrOf st) (sb - 1):=λx hx=>by
     rcases ais.1 (rp.mem_iff.1 hx) with hx | hx
     .obtain ⟨j,j1,j2,j3,e,_⟩:=mX x hx
      exact ⟨low x hx,by rw [e]; exact s1 j (sb - 1) (by lia) (by lia) (by lia)⟩
     .obtain ⟨j,j1,j2,j3,e,_⟩:=mY x hx
      exact ⟨by rw [e]; exact s2 sb j (aDN _) j1 (by lia),high x hx⟩
    have Di:failedOf st'=none:=qL.trans f1
    show Q (failedOf st').isNone _
    rw [Di]
    refine h _ (wD.trans k1) rfl ?_ (wC.trans p1) ?_ ?_
    .show (layAt (arrOf st') (sa+k) r.toList 0).Perm (arrOf st)
     rw [pT,a1]
     exact ZjI (n:=na - k+n2) (by lia) (by rw [← ex]; exact rp)
    .show fB ρ (layAt (arrOf st') (sa+k) r.toList 0) sa (sb+nb)
     rw [pT,a1]
     refine WB (by lia) rs (by lia) (λx y p q r=>s1 x y p q (by lia)) (λx y p q r=>s2 x y (by lia) q r) (λi i1 i2 x hx=>?_) (λi i1 i2 x hx=>?_)
     .exact agt (C1.wj i1 (by lia)) (As x hx).1
     .exact agt (As x hx).2 (C2.qI (by lia) i2)
    .intro j hj
     show (layAt (arrOf st') (sa+k) r.toList 0)[j]?=_
     rw [pT,a1,Eh _ _ _ _ _ (by lia),aYW (by lia)]
   by_cases c:na - k<=n2
   .rw [bb9 c]
    refine aRj (ZjF h0 k1 ⟨λx hx=>?_,λx hx=>?_,sX,sY,λy hy x hx=>?_⟩ (show 0<((arrOf st).extract (sa+k) sb).size by lia) (show 0<((arrOf st).extract sb (sb+n2)).size by lia) (λx hx=>?_) (λr st' hS R=>fin r st' hS R))
    .obtain ⟨_,_,_,_,_,m⟩:=mX x hx; exact ha x m
    .obtain ⟨_,_,_,_,_,m⟩:=mY x hx; exact ha x m
    .rw [zX,yu,drop_drop] at hx
     obtain ⟨j,j1,j2,j3,rfl⟩:=Jd hx
     have ej:j=sb - 1:=by lia
     subst ej
     rw [← bC j3]
     exact high y hy
    .rw [bbs,← bC]
     exact low x hx
   .rw [aYW c]
    refine aRj (ZjH h0 k1 ⟨λx hx=>?_,λx hx=>?_,sX,sY,λy hy x hx=>?_⟩ (show 0<((arrOf st).extract (sa+k) sb).size by lia) (show 0<((arrOf st).extract sb (sb+n2)).size by lia) (λx hx=>?_) (λr st' hS R=>fin r st' hS R))
    .obtain ⟨_,_,_,_,_,m⟩:=mX x hx; exact ha x m
    .obtain ⟨_,_,_,_,_,m⟩:=mY x hx; exact ha x m
    .obtain ⟨j,j1,j2,rfl⟩:=Iu hy
     rw [bbs,← bC,show sb+j=sb by lia]
     exact low x hx
    .rw [bbs,← bC]
     have:=high x hx
     rw [show sa+k+(((arrOf st).extract (sa+k) sb).size - 1)=sb - 1 by lia]
     exact this
end
structure GP (κ:SortKind) (a₀:Array Keyed) (P:Array (Nat×Nat×Nat)) (st:SortSt):Prop where
 perm:(arrOf st).Perm a₀
 kn:kindOf st=κ
 failed:failedOf st=none
 pend:pendingOf st=P
section
variable {prog:Program} {w:World} {A:Around} {E:Value->Shared->Prop} {s:Shared} {a₀:Array Keyed} {κ:SortKind} {ρ:aF.RR} {P:Array (Nat×Nat×Nat)}
theorem GP.size {st:SortSt} (h:GP κ a₀ P st):(arrOf st).size=a₀.size:=h.perm.size_eq
theorem GP.setArr {st:SortSt} {xs:Array Keyed} (h:GP κ a₀ P st) (hp:xs.Perm (arrOf st)):GP κ a₀ P (setArr st xs):=⟨hp.trans h.perm,h.kn,h.failed,h.pend⟩
theorem GP.mem {st:SortSt} (h:GP κ a₀ P st):∀ x∈(arrOf st).toList,x∈a₀.toList:=λx hx=>(a0l.mp h.perm).mem_iff.mp hx
theorem Bx {st:SortSt} {i j:Nat} {Q:Option Bool->SortSt->Prop} (hB:GP κ a₀ P st) (h0:aF.jr prog w A s κ ρ a₀) (hi:i<a₀.size) (hj:j<a₀.size)
  (h:Q (some (decide (aF.Kg ρ (arrOf st) i<aF.Kg ρ (arrOf st) j))) st):wpS (model prog w) A E s (ltAt' i j) Q st:=by
 have hi':i<(arrOf st).size:=by rw [hB.size]; exact hi
 have hj':j<(arrOf st).size:=by rw [hB.size]; exact hj
 rw [bC hi',bC hj'] at h
 rw [ltAt'_eq]
 refine aRj (aqU ?_)
 refine aRj (Zw hi' (aRj (Zw hj' ?_)))
 exact lH hB.kn h0 (hB.mem _ (by simp)) (hB.mem _ (by simp)) h
theorem Wz {st:SortSt} {lo n ok:Nat} {Q:Bool->SortSt->Prop} (h0:aF.jr prog w A s κ ρ a₀) (hn:lo+n<=a₀.size) (hok:ok<=n) (U5:1<=ok) (hB:GP κ a₀ P st) (hs:fB ρ (arrOf st) lo (lo+ok))
  (h:∀ st',GP κ a₀ P st'->fB ρ (arrOf st') lo (lo+n)->(∀ j,j<lo\/lo+n<=j->(arrOf st')[j]?=(arrOf st)[j]?)->Q true st'):wpS (model prog w) A E s (binarySort' lo n ok) Q st:=by
 rw [binarySort'_eq]
 refine aRj (apc (aNA (I:=λk c st1=>c=(none,())/\GP κ a₀ P st1/\fB ρ (arrOf st1) lo (lo+min k n)/\∀ j,j<lo\/lo+n<=j->(arrOf st1)[j]?=(arrOf st)[j]?)
  (Q:=λc st1=>c=(none,())/\GP κ a₀ P st1/\fB ρ (arrOf st1) lo (lo+n)/\∀ j,j<lo\/lo+n<=j->(arrOf st1)[j]?=(arrOf st)[j]?) ?turn ?last ?first) ?after)
 case after =>
  rintro c st1 ⟨rfl,b1,i1,o1⟩
  exact aVv (h st1 b1 i1 o1)
 case first =>
  rw [show min (max ok 1) n=ok by lia]
  exact ⟨rfl,hB,hs,λ_ _=>rfl⟩
 case last =>
  rintro c st1 ⟨hc,b1,i1,o1⟩
  rw [show min (max (max ok 1) n) n=n by lia] at i1
  exact ⟨hc,b1,i1,o1⟩
 case turn =>
  rintro k c st1 UY hkn ⟨rfl,b1,i1,o1⟩
  rw [show min k n=k by lia] at i1
  have hk:lo+k<a₀.size:=by lia
  have sz:=b1.size
  refine aRj (apc (aNA (I:=λx c st2=>st2=st1/\∃ l r,c=(none,l,r)/\l<=r/\r<=k/\r - l<=k - x/\(∀ i,i<l->aF.Kg ρ (arrOf st1) (lo+i)<=aF.Kg ρ (arrOf st1) (lo+k))/\(∀ i,r<=i->i<k->aF.Kg ρ (arrOf st1) (lo+k)<=aF.Kg ρ (arrOf st1) (lo+i)))
   (Q:=λc st2=>st2=st1/\∃ l r,c=(none,l,r)/\l<=k/\(∀ i,i<l->aF.Kg ρ (arrOf st1) (lo+i)<=aF.Kg ρ (arrOf st1) (lo+k))/\(∀ i,l<=i->i<k->aF.Kg ρ (arrOf st1) (lo+k)<=aF.Kg ρ (arrOf st1) (lo+i))) ?iturn ?ilast ?ifirst) ?iafter)
  case ifirst=>exact ⟨rfl,0,k,rfl,by lia,by lia,by lia,λi hi=>absurd hi (by lia),λi p q=>absurd q (by lia)⟩
  case ilast =>
   rintro c st2 ⟨rfl,l,r,rfl,hlr,hrk,hm,u1,u2⟩
   have e:l=r:=by lia
   subst e
   exact ⟨rfl,l,l,rfl,hrk,u1,u2⟩
  case iturn =>
   rintro x c st2 _ hxk ⟨rfl,l,r,rfl,hlr,hrk,hm,u1,u2⟩
   dsimp only
   by_cases hge:l ≥ r
   .rw [bb9 hge]
    have e:l=r:=by lia
    subst e
    exact aVv ⟨rfl,l,l,rfl,hrk,u1,u2⟩
   .rw [aYW hge]
    refine aRj (Bx b1 h0 hk (by lia) ?_)
    by_cases c:aF.Kg ρ (arrOf st2) (lo+k)<aF.Kg ρ (arrOf st2) (lo+(l+r) / 2)
    .simp only [c,alo,aEp]
     refine aVv ⟨rfl,l,(l+r) / 2,rfl,by lia,by lia,by lia,u1,λi p q=>?_⟩
     have:=i1 (lo+(l+r) / 2) (lo+i) (by lia) (by lia) (by lia)
     lia
    .simp only [c,aI1,a7V,azU]
     refine aVv ⟨rfl,(l+r) / 2+1,r,rfl,by lia,by lia,by lia,λi p=>?_,u2⟩
     have:=i1 (lo+i) (lo+(l+r) / 2) (by lia) (by lia) (by lia)
     lia
  case iafter =>
   rintro c st2 ⟨rfl,l,r,rfl,hlk,u1,u2⟩
   show wpS _ _ _ _ (do moveDown' (lo+k) (lo+l); pure (ForInStep.yield (none,()))) _ _
   rw [moveDown'_eq]
   have hks:lo+k<(arrOf st2).size:=by lia
   refine aRj (aEo (aVv ⟨rfl,b1.setArr (bubble_perm _ _ _),?_,?_⟩))
   .rw [show min (k+1) n=k+1 by lia]
    intro i j hi hij hj
    show aF.Kg ρ (bubble (arrOf st2) (lo+k) (lo+k - (lo+l))) i<=aF.Kg ρ (bubble (arrOf st2) (lo+k) (lo+k - (lo+l))) j
    rw [aF.kC hks (by lia),aF.kC hks (by lia),show lo+k - (lo+k - (lo+l))=lo+l by lia]
    have U1:∀ i,lo<=i->i<lo+l->aF.Kg ρ (arrOf st2) i<=aF.Kg ρ (arrOf st2) (lo+k):=λi p q=>by
     have:=u1 (i - lo) (by lia)
     rw [show lo+(i - lo)=i by lia] at this
     exact this
    have U2:∀ i,lo+l<=i->i<lo+k->aF.Kg ρ (arrOf st2) (lo+k)<=aF.Kg ρ (arrOf st2) i:=λi p q=>by
     have:=u2 (i - lo) (by lia) (by lia)
     rw [show lo+(i - lo)=i by lia] at this
     exact this
    by_cases a1:i=lo+l
    .rw [bb9 a1]
     by_cases b2:j=lo+l
     .rw [bb9 b2]; exact aZP _
     .rw [aYW b2,bb9 (by lia)]
      exact U2 _ (by lia) (by lia)
    .rw [aYW a1]
     by_cases a2:j=lo+l
     .rw [bb9 a2,aYW (by lia)]
      exact U1 _ (by lia) (by lia)
     .rw [aYW a2]
      by_cases a3:lo+l<i/\i<=lo+k
      .rw [bb9 a3,bb9 (by lia)]
       exact i1 _ _ (by lia) (by lia) (by lia)
      .rw [aYW a3]
       by_cases a4:lo+l<j/\j<=lo+k
       .rw [bb9 a4]
        exact i1 _ _ (by lia) (by lia) (by lia)
       .rw [aYW a4]
        exact i1 _ _ (by lia) (by lia) (by lia)
   .intro j hj
    show (bubble (arrOf st2) (lo+k) (lo+k - (lo+l)))[j]?=_
    rw [getElem?_bubble hks _ (by lia),aYW (by lia),aYW (by lia)]
    exact o1 j hj
end
abbrev AS:=Option (Option Nat)×Nat
abbrev DS:=Option (Option Nat)×Nat×Nat
def qY (lo a nrem:Nat):StateT SortSt Sem AS:=forIn [a:nrem] ((none,a):AS) λ_ c=>do
 let x ← ltAt' (lo+c.2) (lo+c.2 - 1)
 match x with
 | some y=>if y=true then pure (.done (none,c.2)) else pure (.yield (none,c.2+1))
 | _=>pure (.done (some none,c.2))
def lg (lo n nrem:Nat):StateT SortSt Sem (Option Nat):=do
 reverseSlice' lo (lo+n)
 let c ← qY lo n nrem
 match c.1 with
 | some r=>pure r
 | none=>pure (some c.2)
def oq (lo n nrem:Nat):StateT SortSt Sem DS:=forIn [n:nrem] ((none,n,0):DS) λ_ c=>do
 let x ← ltAt' (lo+c.2.1) (lo+c.2.1 - 1)
 match x with
 | some y=>if y=true then (if c.2.2 > 0 then (do
    reverseSlice' (lo+c.2.1 - (c.2.2+1)) (lo+c.2.1)
    pure (.yield (none,c.2.1+1,0))) else pure (.yield (none,c.2.1+1,0))) else (do
   let x ← ltAt' (lo+c.2.1 - 1) (lo+c.2.1)
   match x with
   | some z=>if z=true then pure (.done (none,c.2.1,c.2.2)) else pure (.yield (none,c.2.1+1,c.2.2+1))
   | _=>pure (.done (some none,c.2.1,c.2.2)))
 | _=>pure (.done (some none,c.2.1,c.2.2))
def lB (lo n nrem:Nat):StateT SortSt Sem (Option Nat):=do
 liftM (rule "list.sort.descending-run")
 let c ← oq lo (n+1) nrem
 match c.1 with
 | some r=>pure r
 | none=>if c.2.2 > 0 then (do
   reverseSlice' (lo+c.2.1 - (c.2.2+1)) (lo+c.2.1)
   lg lo c.2.1 nrem) else lg lo c.2.1 nrem
theorem Y0 (lo nrem:Nat):countRun' lo nrem=(do
  let c ← qY lo 1 nrem
  match c.1 with
  | some r=>pure r
  | none=>if (c.2 == nrem)=true then pure (some c.2) else if c.2 > 1 then (do
    let x ← ltAt' lo (lo+c.2 - 1)
    match x with
    | some y=>if y=true then pure (some c.2) else (do
      reverseSlice' lo (lo+c.2)
      lB lo c.2 nrem)
    | _=>pure none) else lB lo c.2 nrem):=by
 rw [countRun'_eq]
 unfold lB lg oq qY
 have tl:∀ {f g:AS->StateT SortSt Sem (Option Nat)} {m:StateT SortSt Sem AS},(∀ r n,f (r,n)=g (r,n))->(m >>= f)=(m >>= g):=λh=>a5E _ (funext λ⟨r,n⟩=>h r n)
 have td:∀ {f g:DS->StateT SortSt Sem (Option Nat)} {m:StateT SortSt Sem DS},(∀ r n q,f (r,n,q)=g (r,n,q))->(m >>= f)=(m >>= g):=λh=>a5E _ (funext λ⟨r,n,q⟩=>h r n q)
 have bc:∀ {α:Type} {f g:α->StateT SortSt Sem (Option Nat)} {m:StateT SortSt Sem α},(∀ x,f x=g x)->(m >>= f)=(m >>= g):=λh=>a5E _ (funext h)
 refine tl λr n=>?_
 cases r with
 | some r=>rfl
 | none =>
  dsimp only
  split
  .rfl
  .split
   .refine bc λx=>?_
    cases x with
    | none=>rfl
    | some y =>
     dsimp only
     split
     .rfl
     .refine bc λ_=>bc λ_=>td λr n q=>?_
      cases r with
      | some r=>rfl
      | none =>
       dsimp only
       split
       .exact bc λ_=>bc λ_=>tl λr n=>by cases r <;> rfl
       .exact bc λ_=>tl λr n=>by cases r <;> rfl
   .refine bc λ_=>td λr n q=>?_
    cases r with
    | some r=>rfl
    | none =>
     dsimp only
     split
     .exact bc λ_=>bc λ_=>tl λr n=>by cases r <;> rfl
     .exact bc λ_=>tl λr n=>by cases r <;> rfl
section
variable {prog:Program} {w:World} {A:Around} {E:Value->Shared->Prop} {s:Shared} {a₀:Array Keyed} {κ:SortKind} {ρ:aF.RR} {P:Array (Nat×Nat×Nat)}
def Out (lo n:Nat) (xs ys:Array Keyed):Prop:=∀ j,j<lo\/lo+n<=j->ys[j]?=xs[j]?
theorem Er {xs:Array Keyed} {lo n i j:Nat} (hj:j<=xs.size) (h1:lo<=i) (h2:j<=lo+n):Out lo n xs (mirror xs i j ((j - i) / 2)):=λk hk=>by
 rw [getElem?_mirror_all hj,aYW (by lia)]
theorem OU {st:SortSt} {lo a nrem:Nat} {Q:AS->SortSt->Prop} (h0:aF.jr prog w A s κ ρ a₀) (hn:lo+nrem<=a₀.size) (ha:1<=a) (han:a<=nrem) (hB:GP κ a₀ P st) (hs:fB ρ (arrOf st) lo (lo+a))
  (h:∀ n,a<=n->n<=nrem->fB ρ (arrOf st) lo (lo+n)->(n=nrem\/aF.Kg ρ (arrOf st) (lo+n)<aF.Kg ρ (arrOf st) (lo+n - 1))->Q (none,n) st):wpS (model prog w) A E s (qY lo a nrem) Q st:=by
 unfold qY
 refine aNA (I:=λx c st1=>st1=st/\c=(none,x)/\fB ρ (arrOf st) lo (lo+x)) ?turn ?last ⟨rfl,rfl,hs⟩
 case last =>
  rintro c st1 ⟨rfl,rfl,i1⟩
  rw [show max a nrem=nrem by lia] at i1 ⊢
  exact h nrem han (aDN _) i1 (.inl rfl)
 case turn =>
  rintro x c st1 hax hxn ⟨rfl,rfl,i1⟩
  dsimp only
  refine aRj (Bx hB h0 (by lia) (by lia) ?_)
  by_cases c:aF.Kg ρ (arrOf st1) (lo+x)<aF.Kg ρ (arrOf st1) (lo+x - 1)
  .simp only [c,alo,aEp]
   exact aVv (h x hax (by lia) i1 (.inr c))
  .simp only [c,aI1,a7V,azU]
   refine aVv ⟨rfl,rfl,λi j hi hij hj=>?_⟩
   by_cases hjx:j<lo+x
   .exact i1 i j hi hij hjx
   .have ej:j=lo+x:=by lia
    subst ej
    by_cases e:i=lo+x
    .subst e; exact aZP _
    .have:=i1 i (lo+x - 1) hi (by lia) (by lia)
     lia
structure DX (ρ:aF.RR) (xs:Array Keyed) (lo x q:Nat):Prop where
 l:q+1<=x
 d:∀ i j,lo<=i->i<=j->j<lo+x->aF.Kg ρ xs j<=aF.Kg ρ xs i
 e:∀ i,lo+x - (q+1)<=i->i<lo+x->aF.Kg ρ xs i=aF.Kg ρ xs (lo+x - 1)
theorem DX.rev {xs:Array Keyed} {lo x q:Nat} (h:DX ρ xs lo x q) (hz:lo+x<=xs.size):DX ρ (mirror xs (lo+x - (q+1)) (lo+x) ((lo+x - (lo+x - (q+1))) / 2)) lo x 0:=by
 have ke:=aF.cy (ρ:=ρ) (i:=lo+x - (q+1)) hz h.e
 have:=h.l
 refine ⟨by lia,λi j h1 h2 h3=>?_,λi h1 h2=>?_⟩
 .rw [ke,ke]; exact h.d i j h1 h2 h3
 .have e:i=lo+x - 1:=by lia
  rw [e]
theorem DX.zero {xs:Array Keyed} {lo x q:Nat} (h:DX ρ xs lo x q):DX ρ xs lo x 0:=⟨by have:=h.l; lia,h.d,λi h1 h2=>by rw [show i=lo+x - 1 by have:=h.l; lia]⟩
theorem DX.less {xs:Array Keyed} {lo x:Nat} (h:DX ρ xs lo x 0) (k:aF.Kg ρ xs (lo+x)<aF.Kg ρ xs (lo+x - 1)):DX ρ xs lo (x+1) 0:=by
 have:=h.l
 refine ⟨by lia,λi j h1 h2 h3=>?_,λi h1 h2=>by rw [show i=lo+(x+1) - 1 by lia]⟩
 by_cases c:j<lo+x
 .exact h.d i j h1 h2 c
 .have ej:j=lo+x:=by lia
  subst ej
  by_cases e:i=lo+x
  .subst e; exact aZP _
  .have:=h.d i (lo+x - 1) h1 (by lia) (by lia)
   lia
theorem DX.more {xs:Array Keyed} {lo x q:Nat} (h:DX ρ xs lo x q) (k:aF.Kg ρ xs (lo+x)=aF.Kg ρ xs (lo+x - 1)):DX ρ xs lo (x+1) (q+1):=by
 have:=h.l
 refine ⟨by lia,λi j h1 h2 h3=>?_,λi h1 h2=>?_⟩
 .by_cases c:j<lo+x
  .exact h.d i j h1 h2 c
  .have ej:j=lo+x:=by lia
   subst ej
   by_cases e:i=lo+x
   .subst e; exact aZP _
   .have:=h.d i (lo+x - 1) h1 (by lia) (by lia)
    lia
 .rw [show lo+(x+1) - 1=lo+x by lia]
  by_cases c:i<lo+x
  .rw [k]; exact h.e i (by lia) c
  .rw [show i=lo+x by lia]
theorem Yj {st:SortSt} {lo n nrem:Nat} {Q:DS->SortSt->Prop} (h0:aF.jr prog w A s κ ρ a₀) (hn:lo+nrem<=a₀.size) (hnn:n<=nrem) (hB:GP κ a₀ P st) (hs:DX ρ (arrOf st) lo n 0)
  (h:∀ m q st',GP κ a₀ P st'->m<=nrem->DX ρ (arrOf st') lo m q->Out lo nrem (arrOf st) (arrOf st')->Q (none,m,q) st'):wpS (model prog w) A E s (oq lo n nrem) Q st:=by
 unfold oq
 refine aNA (I:=λx c st1=>∃ q,c=(none,x,q)/\GP κ a₀ P st1/\DX ρ (arrOf st1) lo x q/\Out lo nrem (arrOf st) (arrOf st1)) ?turn ?last ⟨0,rfl,hB,hs,λ_ _=>rfl⟩
 case last =>
  rintro c st1 ⟨q,rfl,b1,d1,o1⟩
  rw [show max n nrem=nrem by lia] at d1 ⊢
  exact h nrem q st1 b1 (aDN _) d1 o1
 case turn =>
  rintro x c st1 hax hxn ⟨q,rfl,b1,d1,o1⟩
  dsimp only
  have sz:=b1.size
  have hl:=d1.l
  refine aRj (Bx b1 h0 (by lia) (by lia) ?_)
  by_cases c:aF.Kg ρ (arrOf st1) (lo+x)<aF.Kg ρ (arrOf st1) (lo+x - 1)
  .simp only [c,alo,aEp]
   by_cases hq:q > 0
   .rw [bb9 hq]
    have ke:=aF.cy (ρ:=ρ) (i:=lo+x - (q+1)) (by lia:lo+x<=(arrOf st1).size) d1.e
    refine aRj (asa (aVv ⟨0,rfl,b1.setArr (aIm _ _ _ _),(d1.rev (by lia)).less ?_,λk hk=>(Er (by lia) (by lia) (by lia) k hk).trans (o1 k hk)⟩))
    rw [ke,ke]; exact c
   .rw [aYW hq]
    have e:q=0:=by lia
    subst e
    exact aVv ⟨0,rfl,b1,d1.less c,o1⟩
  .simp only [c,aI1,a7V,azU]
   refine aRj (Bx b1 h0 (by lia) (by lia) ?_)
   by_cases c2:aF.Kg ρ (arrOf st1) (lo+x - 1)<aF.Kg ρ (arrOf st1) (lo+x)
   .simp only [c2,alo,aEp]
    exact aVv (h x q st1 b1 (by lia) d1 o1)
   .simp only [c2,aI1,a7V,azU]
    exact aVv ⟨q+1,rfl,b1,d1.more (by lia),o1⟩
theorem P9 {st fF:SortSt} {lo n nrem:Nat} {Q:Option Nat->SortSt->Prop} (h0:aF.jr prog w A s κ ρ a₀) (hn:lo+nrem<=a₀.size) (h1:1<=n) (hnn:n<=nrem) (hB:GP κ a₀ P st) (hs:DX ρ (arrOf st) lo n 0) (ho:Out lo nrem (arrOf fF) (arrOf st))
  (h:∀ m st',GP κ a₀ P st'->1<=m->m<=nrem->fB ρ (arrOf st') lo (lo+m)->Out lo nrem (arrOf fF) (arrOf st')->Q (some m) st'):wpS (model prog w) A E s (lg lo n nrem) Q st:=by
 unfold lg
 have sz:=hB.size
 refine aRj (asa ?_)
 have b1:GP κ a₀ P (setArr st (mirror (arrOf st) lo (lo+n) ((lo+n - lo) / 2))):=hB.setArr (aIm _ _ _ _)
 refine aRj (OU h0 hn h1 hnn b1 ?_ λm m1 m2 i2 _=>aVv (h m _ b1 (by lia) m2 i2 λk hk=>(Er (by lia) (by lia) (by lia) k hk).trans (ho k hk)))
 intro i j hi hij hj
 show aF.Kg ρ (mirror (arrOf st) lo (lo+n) ((lo+n - lo) / 2)) i<=aF.Kg ρ (mirror (arrOf st) lo (lo+n) ((lo+n - lo) / 2)) j
 rw [aF.iO (by lia),aF.iO (by lia),bb9 (by lia),bb9 (by lia)]
 exact hs.d _ _ (by lia) (by lia) (by lia)
theorem P8 {st fF:SortSt} {lo n nrem:Nat} {Q:Option Nat->SortSt->Prop} (h0:aF.jr prog w A s κ ρ a₀) (hn:lo+nrem<=a₀.size) (hnn:n+1<=nrem) (hB:GP κ a₀ P st) (hs:DX ρ (arrOf st) lo (n+1) 0) (ho:Out lo nrem (arrOf fF) (arrOf st))
  (h:∀ m st',GP κ a₀ P st'->1<=m->m<=nrem->fB ρ (arrOf st') lo (lo+m)->Out lo nrem (arrOf fF) (arrOf st')->Q (some m) st'):wpS (model prog w) A E s (lB lo n nrem) Q st:=by
 unfold lB
 refine aRj (wpS_lift (aGu ⟨rfl,?_⟩))
 refine aRj (Yj h0 hn hnn hB hs λm q st1 b1 m2 d1 o1=>?_)
 dsimp only
 have hl:=d1.l
 have sz:=b1.size
 by_cases hq:q > 0
 .rw [bb9 hq]
  exact aRj (asa (P9 h0 hn (by lia) m2 (b1.setArr (aIm _ _ _ _)) (d1.rev (by lia)) (λk hk=>((Er (by lia) (by lia) (by lia) k hk).trans (o1 k hk)).trans (ho k hk)) h))
 .rw [aYW hq]
  exact P9 h0 hn (by lia) m2 b1 d1.zero (λk hk=>(o1 k hk).trans (ho k hk)) h
theorem YZ {st:SortSt} {lo nrem:Nat} {Q:Option Nat->SortSt->Prop} (h0:aF.jr prog w A s κ ρ a₀) (hn:lo+nrem<=a₀.size) (h1:1<=nrem) (hB:GP κ a₀ P st)
  (h:∀ m st',GP κ a₀ P st'->1<=m->m<=nrem->fB ρ (arrOf st') lo (lo+m)->Out lo nrem (arrOf st) (arrOf st')->Q (some m) st'):wpS (model prog w) A E s (countRun' lo nrem) Q st:=by
 rw [Y0]
 have sz:=hB.size
 refine aRj (OU h0 hn (aDN 1) h1 hB (λi j hi hij hj=>by rw [show i=j by lia]; exact aZP _) λn n1 n2 i1 hor=>?_)
 dsimp only
 by_cases e:n=nrem
 .rw [bb9 (by simpa using e)]
  exact aVv (h n st hB n1 n2 i1 λ_ _=>rfl)
 .rw [aYW (by simpa using e)]
  have lt:aF.Kg ρ (arrOf st) (lo+n)<aF.Kg ρ (arrOf st) (lo+n - 1):=hor.resolve_left e
  by_cases g:n > 1
  .rw [bb9 g]
   refine aRj (Bx hB h0 (by lia) (by lia) ?_)
   by_cases c:aF.Kg ρ (arrOf st) lo<aF.Kg ρ (arrOf st) (lo+n - 1)
   .simp only [c,alo,aEp]
    exact aVv (h n st hB n1 n2 i1 λ_ _=>rfl)
   .simp only [c,aI1,a7V,azU]
    have all:∀ k,lo<=k->k<lo+n->aF.Kg ρ (arrOf st) k=aF.Kg ρ (arrOf st) (lo+n - 1):=λk h1 h2=>by
     have a1:=i1 lo k (aDN _) h1 h2
     have a2:=i1 k (lo+n - 1) h1 (by lia) (by lia)
     lia
    have ke:=aF.cy (ρ:=ρ) (xs:=arrOf st) (i:=lo) (j:=lo+n) (by lia) all
    have dx:DX ρ (mirror (arrOf st) lo (lo+n) ((lo+n - lo) / 2)) lo n 0:=⟨by lia,λi j h1 h2 h3=>by rw [ke,ke,all i h1 (by lia),all j (by lia) h3]; exact aZP _,λi h1 h2=>by rw [show i=lo+n - 1 by lia]⟩
    exact aRj (asa (P8 (fF:=st) h0 hn (by lia) (hB.setArr (aIm _ _ _ _)) (dx.less (by rw [ke,ke]; exact lt)) (Er (by lia) (by lia) (by lia)) h))
  .rw [aYW g]
   have en:n=1:=by lia
   subst en
   exact P8 (fF:=st) h0 hn (by lia) hB (DX.less ⟨by lia,λi j h1 h2 h3=>by rw [show i=j by lia]; exact aZP _,λi h1 h2=>by rw [show i=lo+1 - 1 by lia]⟩ lt) (λ_ _=>rfl) h
end
abbrev Rn:=Nat×Nat×Nat
def iA:List Rn->Nat->Nat->Prop
 | [],a,b=>a=b
 | t :: r,a,b=>t.1=a/\0<t.2.1/\iA r (a+t.2.1) b
theorem fE:∀ {l m:List Rn} {a b:Nat},iA (l++m) a b↔∃ c,iA l a c/\iA m c b
 | [],m,a,b=>⟨λh=>⟨a,rfl,h⟩,λ⟨c,h1,h2⟩=>by rw [show a=c from h1]; exact h2⟩
 | t :: r,m,a,b=>by
  constructor
  .rintro ⟨h1,h2,h3⟩
   obtain ⟨c,h4,h5⟩:=fE.mp h3
   exact ⟨c,⟨h1,h2,h4⟩,h5⟩
  .rintro ⟨c,⟨h1,h2,h4⟩,h5⟩
   exact ⟨h1,h2,fE.mpr ⟨c,h4,h5⟩⟩
theorem Eb:∀ {l:List Rn} {a b:Nat},iA l a b->l.length+a<=b
 | [],a,b,h=>by rw [show a=b from h]; show 0+b<=b; lia
 | t :: r,a,b,⟨_,h2,h3⟩=>by
  have:=Eb h3
  rw [a23]
  lia
theorem D5:∀ {l:List Rn} {a b:Nat},iA l a b->∀ t∈l,a<=t.1/\t.1+t.2.1<=b
 | [],a,b,h,t,ht=>nomatch ht
 | u :: r,a,b,⟨h1,h2,h3⟩,t,ht=>by
  have l:=Eb h3
  rcases awk.mp ht with e | ht
  .subst e; lia
  .have:=D5 h3 t ht
   lia
theorem Nn:∀ {l:List Rn} {i:Nat} {x y:Rn},l[i]?=some x->l[i+1]?=some y->l=l.take i++x :: y :: l.drop (i+2)
 | [],i,x,y,h,_=>by simp at h
 | [a],0,x,y,h,h2=>by simp at h2
 | a :: b :: r,0,x,y,h,h2=>by
  simp only [List.getElem?_cons_zero,aM6,Option.some.injEq] at h h2
  subst h h2; rfl
 | a :: r,i+1,x,y,h,h2=>by
  have:=Nn (l:=r) (i:=i) (x:=x) (y:=y) (by simpa using h) (by simpa using h2)
  show a :: r=a :: (r.take i++x :: y :: r.drop (i+2))
  rw [← this]
theorem YY (l m:List Rn) (x y v:Rn):((l++x :: y :: m).set l.length v).eraseIdx (l.length+1)=l++v :: m:=by
 induction l with
 | nil=>rfl
 | cons a r ih=>show a :: ((r++x :: y :: m).set r.length v).eraseIdx (r.length+1)=a :: (r++v :: m); rw [ih]
section
variable {prog:Program} {w:World} {A:Around} {E:Value->Shared->Prop} {s:Shared} {a₀:Array Keyed} {κ:SortKind} {ρ:aF.RR} {P:Array Rn}
theorem Bq {xs ys:Array Keyed} {a b:Nat} (h:fB ρ xs a b) (e:∀ j,a<=j->j<b->ys[j]?=xs[j]?):fB ρ ys a b:=λi j h1 h2 h3=>by
 rw [aF.cQ (e i h1 (by lia)),aF.cQ (e j (by lia) h3)]
 exact h i j h1 h2 h3
structure RI (κ:SortKind) (a₀:Array Keyed) (ρ:aF.RR) (lo:Nat) (st:SortSt):Prop where
 perm:(arrOf st).Perm a₀
 kn:kindOf st=κ
 failed:failedOf st=none
 tile:iA (pendingOf st).toList 0 lo
 xO:∀ t∈(pendingOf st).toList,fB ρ (arrOf st) t.1 (t.1+t.2.1)
theorem RI.gp {lo:Nat} {st:SortSt} (h:RI κ a₀ ρ lo st):GP κ a₀ (pendingOf st) st:=⟨h.perm,h.kn,h.failed,rfl⟩
theorem RI.out {lo n:Nat} {st st':SortSt} (h:RI κ a₀ ρ lo st) (g:GP κ a₀ (pendingOf st) st') (o:Out lo n (arrOf st) (arrOf st')):RI κ a₀ ρ lo st' :=
 ⟨g.perm,g.kn,g.failed,by rw [g.pend]; exact h.tile,λt ht=>by
  rw [g.pend] at ht
  have:=D5 h.tile t ht
  exact Bq (h.xO t ht) λj h1 h2=>o j (.inl (by lia))⟩
theorem RI.merge {lo i:Nat} {x y:Rn} {st:SortSt} {Q:Bool->SortSt->Prop} (h0:aF.jr prog w A s κ ρ a₀) (h:RI κ a₀ ρ lo st) (hlo:lo<=a₀.size) (e1:(pendingOf st)[i]?=some x) (e2:(pendingOf st)[i+1]?=some y)
  (k:∀ st',RI κ a₀ ρ lo st'->(pendingOf st').size+1=(pendingOf st).size->(∀ j,lo<=j->(arrOf st')[j]?=(arrOf st)[j]?)->Q true st'):wpS (model prog w) A E s (Jv i) Q st:=by
 obtain ⟨sa,na,p⟩:=x
 obtain ⟨sb,nb,q⟩:=y
 have el:=Nn (l:=(pendingOf st).toList) (i:=i) (by rw [acr]; exact e1) (by rw [acr]; exact e2)
 have hi:i<(pendingOf st).toList.length:=by
  rw [aLz]
  exact (Array.getElem?_eq_some_iff.mp e1).1
 have hti:((pendingOf st).toList.take i).length=i:=by rw [aoM]; lia
 have ht:=h.tile
 have hs:=h.xO
 have hsz:(pendingOf st).size=(pendingOf st).toList.length:=aLz.symm
 have hnew:(((pendingOf st).setIfInBounds i (sa,na+nb,p)).eraseIdxIfInBounds (i+1)).toList=(pendingOf st).toList.take i++(sa,na+nb,p) :: (pendingOf st).toList.drop (i+2):=by
  rw [Array.toList_eraseIdxIfInBounds,Array.toList_setIfInBounds]
  conv=>lhs; rw [el]
  have:=YY ((pendingOf st).toList.take i) ((pendingOf st).toList.drop (i+2)) (sa,na,p) (sb,nb,q) (sa,na+nb,p)
  rw [hti] at this
  exact this
 generalize (pendingOf st).toList.take i=l at *
 generalize (pendingOf st).toList.drop (i+2)=m at *
 rw [el] at ht hs hsz
 obtain ⟨c,t1,t2,t3,t4,t5,t6⟩:=fE.mp ht
 have t2:sa=c:=t2
 have t3:0<na:=t3
 have t4:sb=c+na:=t4
 have t5:0<nb:=t5
 have t6:iA m (c+na+nb) lo:=t6
 have l6:=Eb t6
 refine ZjJ h0 h.kn h.gp.mem h.failed e1 e2 (by lia) t3 t5 (by rw [h.gp.size]; lia) (hs (sa,na,p) (by simp)) (hs (sb,nb,q) (by simp)) λst' k1 f1 p1 pe s1 o1=>?_
 refine k st' ⟨p1.trans h.perm,k1,f1,?_,?_⟩ ?_ λj hj=>o1 j (.inr (by lia))
 .rw [pe,hnew]
  exact fE.mpr ⟨c,t1,t2,by show 0<na+nb; lia,by show iA m (c+(na+nb)) lo; rw [← Nat.add_assoc]; exact t6⟩
 .rw [pe,hnew]
  intro t ht
  rcases ais.mp ht with ht | ht
  .have:=D5 t1 t ht
   exact Bq (hs t (ahE _ ht)) λj h1 h2=>o1 j (.inl (by lia))
  .rcases awk.mp ht with ht | ht
   .subst ht
    show fB ρ (arrOf st') sa (sa+(na+nb))
    rw [show sa+(na+nb)=sb+nb by lia]
    exact s1
   .have:=D5 t6 t ht
    exact Bq (hs t (baP _ (asq _ (asq _ ht)))) λj h1 h2=>o1 j (.inr (by lia))
 .have z:(pendingOf st').size=(pendingOf st').toList.length:=aLz.symm
  rw [z,pe,hnew,hsz,aAe,aAe]
  rfl
theorem RI.push {lo n:Nat} {st:SortSt} (h:RI κ a₀ ρ lo st) (hn:0<n) (hs:fB ρ (arrOf st) lo (lo+n)):RI κ a₀ ρ (lo+n) (setPending st ((pendingOf st).push (lo,n,0))):=by
 refine ⟨h.perm,h.kn,h.failed,?_,?_⟩
 .show iA ((pendingOf st).push (lo,n,0)).toList 0 (lo+n)
  rw [a6T]
  exact fE.mpr ⟨lo,h.tile,rfl,hn,rfl⟩
 .show ∀ t∈((pendingOf st).push (lo,n,0)).toList,_
  rw [a6T]
  intro t ht
  rcases ais.mp ht with ht | ht
  .exact h.xO t ht
  .rw [a60.mp ht]; exact hs
theorem P7 {f:Rn->Rn} (hf:∀ t,(f t).1=t.1/\(f t).2.1=t.2.1):∀ {l:List Rn} {i a b:Nat},iA l a b->iA (l.modify i f) a b
 | [],i,a,b,h=>by cases i <;> exact h
 | t :: r,0,a,b,⟨h1,h2,h3⟩=>by
  show iA (f t :: r) a b
  exact ⟨(hf t).1.trans h1,by rw [(hf t).2]; exact h2,by rw [(hf t).2]; exact h3⟩
 | t :: r,i+1,a,b,⟨h1,h2,h3⟩=>⟨h1,h2,P7 hf h3⟩
theorem QK {f:Rn->Rn}:∀ {l:List Rn} {i:Nat} {t:Rn},t∈l.modify i f->t∈l\/∃ u∈l,t=f u
 | [],i,t,h=>by cases i <;> exact nomatch h
 | u :: r,0,t,h=>by
  rcases awk.mp (show t∈f u :: r from h) with e | h
  .exact .inr ⟨u,aq5,e⟩
  .exact .inl (asq _ h)
 | u :: r,i+1,t,h=>by
  rcases awk.mp (show t∈u :: r.modify i f from h) with e | h
  .exact .inl (e ▸ aq5)
  .rcases QK h with h | ⟨v,hv,e⟩
   .exact .inl (asq _ h)
   .exact .inr ⟨v,asq _ hv,e⟩
theorem RI.pow {lo i:Nat} {st:SortSt} {f:Rn->Rn} (hf:∀ t,(f t).1=t.1/\(f t).2.1=t.2.1) (h:RI κ a₀ ρ lo st):RI κ a₀ ρ lo (setPending st ((pendingOf st).modify i f)):=by
 refine ⟨h.perm,h.kn,h.failed,?_,?_⟩
 .show iA ((pendingOf st).modify i f).toList 0 lo
  rw [Array.toList_modify]
  exact P7 hf h.tile
 .show ∀ t∈((pendingOf st).modify i f).toList,_
  rw [Array.toList_modify]
  intro t ht
  rcases QK ht with ht | ⟨u,hu,e⟩
  .exact h.xO t ht
  .rw [e,(hf u).1,(hf u).2]; exact h.xO u hu
theorem qh {st:SortSt} {Q:Unit->SortSt->Prop} (h0:aF.jr prog w A s κ ρ a₀) (hP:(arrOf st).Perm a₀) (hk:kindOf st=κ) (hf:failedOf st=none) (hp:pendingOf st=#[])
  (h:∀ st',(arrOf st').Perm a₀->failedOf st'=none->fB ρ (arrOf st') 0 a₀.size->Q () st'):wpS (model prog w) A E s sortRuns' Q st:=by
 rw [sortRuns'_eq]
 refine aRj (aqU ?_)
 dsimp only
 have Vh:(arrOf st).size=a₀.size:=hP.size_eq
 simp only [Vh]
 generalize minRun' a₀.size a₀.size 0=mr
 have r0:RI κ a₀ ρ 0 st:=⟨hP,hk,hf,by rw [hp]; rfl,by rw [hp]; exact λt ht=>nomatch ht⟩
 refine aRj (apc (aNA (I:=λx c st1=>∃ lo,c=(none,lo)/\lo<=a₀.size/\(x<=lo\/lo=a₀.size)/\RI κ a₀ ρ lo st1) (Q:=λc st1=>c=(none,a₀.size)/\RI κ a₀ ρ a₀.size st1) ?turn ?last ⟨0,rfl,a9k _,.inl (aDN _),r0⟩) ?after)
 case last =>
  rintro c st1 ⟨lo,rfl,hlo,hx,r1⟩
  have e:lo=a₀.size:=by lia
  subst e
  exact ⟨rfl,r1⟩
 case turn =>
  rintro x c st1 _ hx ⟨lo,rfl,hlo,hxl,r1⟩
  dsimp only
  by_cases g:lo ≥ a₀.size
  .rw [bb9 g]
   have e:lo=a₀.size:=by lia
   subst e
   exact aVv ⟨rfl,r1⟩
  .rw [aYW g]
   refine aRj (YZ h0 (by lia) (by lia) r1.gp λm st2 b2 m1 m2 s2 o2=>?_)
   dsimp only
   have r2:=r1.out b2 o2
   have fin:∀ {n:Nat} {st3:SortSt},0<n->lo+n<=a₀.size->RI κ a₀ ρ lo st3->fB ρ (arrOf st3) lo (lo+n)->∃ lo',(none,lo+n)=((none,lo'):Option Unit×Nat)/\lo'<=a₀.size/\(x+1<=lo'\/lo'=a₀.size)/\RI κ a₀ ρ lo' (setPending st3 ((pendingOf st3).push (lo,n,0))):=λ{n st3} h1 h2 h3 h4=>⟨lo+n,rfl,h2,by lia,h3.push h1 h4⟩
   by_cases lt:m<mr
   .rw [bb9 lt]
    refine aRj (wpS_lift (aGu ⟨rfl,?_⟩))
    refine aRj (Wz h0 (by lia) (by lia) m1 b2 s2 λst3 b3 s3 o3=>?_)
    simp only [ayk,a7V,azU]
    have r3:=r1.out (n:=a₀.size - lo) b3 λj hj=>(o3 j (by lia)).trans (o2 j hj)
    have hn:0<min (a₀.size - lo) mr:=by lia
    have jY:lo+min (a₀.size - lo) mr<=a₀.size:=by lia
    clear b3 o3 b2 s2 o2 r2 m1 m2 lt
    generalize min (a₀.size - lo) mr=n at *
    refine aRj (aqU ?_)
    cases eb:(pendingOf st3).back? with
    | none =>
     dsimp only
     exact aRj (aEo (aVv (fin hn jY r3 s3)))
    | some t =>
     obtain ⟨s1,n1,z⟩:=t
     dsimp only
     generalize power' a₀.size (2 * s1+n1) (2 * s1+n1+n1+n) a₀.size=pw
     refine aRj (apc (aNA (I:=λ_ c dF=>c=(none,())/\RI κ a₀ ρ lo dF/\fB ρ (arrOf dF) lo (lo+n)) (Q:=λc dF=>c=(none,())/\RI κ a₀ ρ lo dF/\fB ρ (arrOf dF) lo (lo+n)) ?_ (λ_ _ hh=>hh) ⟨rfl,r3,s3⟩) ?_)
     .rintro y c dF _ _ ⟨rfl,r4,h4⟩
      refine aRj (aqU ?_)
      by_cases c2:(pendingOf dF).size > 1
      .have e1:(pendingOf dF)[(pendingOf dF).size - 2]?=some (pendingOf dF)[(pendingOf dF).size - 2]:=akH (by lia)
       have e2:(pendingOf dF)[(pendingOf dF).size - 2+1]?=some (pendingOf dF)[(pendingOf dF).size - 2+1]:=akH (by lia)
       simp only [bb9 c2]
       rw [e1]
       dsimp only
       by_cases c3:(pendingOf dF)[(pendingOf dF).size - 2].2.2<=pw
       .rw [bb9 c3]
        exact aVv ⟨rfl,r4,h4⟩
       .rw [aYW c3]
        refine aRj (RI.merge h0 r4 hlo e1 e2 λsE r5 _ o5=>?_)
        simp only [ayk,a7V,azU]
        exact aVv ⟨rfl,r5,Bq h4 λj h1 _=>o5 j h1⟩
      .simp only [aYW c2]
       exact aVv ⟨rfl,r4,h4⟩
     .rintro c dF ⟨rfl,r4,h4⟩
      dsimp only
      exact aRj (aEo (aRj (aEo (aVv (fin hn jY (r4.pow λ_=>⟨rfl,rfl⟩) h4)))))
   .rw [aYW lt]
    have hn:0<m:=by lia
    have jY:lo+m<=a₀.size:=by lia
    have r3:=r2
    have s3:=s2
    clear b2 s2 o2 r2 m1 m2 lt
    generalize m=n at *
    generalize st2=st3 at *
    refine aRj (aqU ?_)
    cases eb:(pendingOf st3).back? with
    | none =>
     dsimp only
     exact aRj (aEo (aVv (fin hn jY r3 s3)))
    | some t =>
     obtain ⟨s1,n1,z⟩:=t
     dsimp only
     generalize power' a₀.size (2 * s1+n1) (2 * s1+n1+n1+n) a₀.size=pw
     refine aRj (apc (aNA (I:=λ_ c dF=>c=(none,())/\RI κ a₀ ρ lo dF/\fB ρ (arrOf dF) lo (lo+n)) (Q:=λc dF=>c=(none,())/\RI κ a₀ ρ lo dF/\fB ρ (arrOf dF) lo (lo+n)) ?_ (λ_ _ hh=>hh) ⟨rfl,r3,s3⟩) ?_)
     .rintro y c dF _ _ ⟨rfl,r4,h4⟩
      refine aRj (aqU ?_)
      by_cases c2:(pendingOf dF).size > 1
      .have e1:(pendingOf dF)[(pendingOf dF).size - 2]?=some (pendingOf dF)[(pendingOf dF).size - 2]:=akH (by lia)
       have e2:(pendingOf dF)[(pendingOf dF).size - 2+1]?=some (pendingOf dF)[(pendingOf dF).size - 2+1]:=akH (by lia)
       simp only [bb9 c2]
       rw [e1]
       dsimp only
       by_cases c3:(pendingOf dF)[(pendingOf dF).size - 2].2.2<=pw
       .rw [bb9 c3]
        exact aVv ⟨rfl,r4,h4⟩
       .rw [aYW c3]
        refine aRj (RI.merge h0 r4 hlo e1 e2 λsE r5 _ o5=>?_)
        simp only [ayk,a7V,azU]
        exact aVv ⟨rfl,r5,Bq h4 λj h1 _=>o5 j h1⟩
      .simp only [aYW c2]
       exact aVv ⟨rfl,r4,h4⟩
     .rintro c dF ⟨rfl,r4,h4⟩
      dsimp only
      exact aRj (aEo (aRj (aEo (aVv (fin hn jY (r4.pow λ_=>⟨rfl,rfl⟩) h4)))))
 case after =>
  rintro c st1 ⟨rfl,r1⟩
  dsimp only
  have l1:=Eb r1.tile
  rw [aLz] at l1
  refine aRj (apc (aNA (I:=λx c st2=>c=(none,())/\RI κ a₀ ρ a₀.size st2/\(pendingOf st2).size+x<=a₀.size+1) (Q:=λc st2=>c=(none,())/\RI κ a₀ ρ a₀.size st2/\(pendingOf st2).size<=1) ?_ ?_ ⟨rfl,r1,by lia⟩) ?_)
  .rintro y c st2 _ _ ⟨rfl,r2,h2⟩
   refine aRj (aqU ?_)
   by_cases c1:(pendingOf st2).size<=1
   .rw [bb9 c1]
    exact aVv ⟨rfl,r2,c1⟩
   .rw [aYW c1]
    obtain ⟨i,hi,hlt⟩:∃ i,(if Option.any (λx=>decide (x<(pendingOf st2)[(pendingOf st2).size - 2+1]?.elim 0 λx=>x.snd.fst)) (if (pendingOf st2).size - 2 > 0 then Option.map (λx=>x.snd.fst) (pendingOf st2)[(pendingOf st2).size - 2 - 1]? else none)=true then (pendingOf st2).size - 2 - 1 else (pendingOf st2).size - 2)=i/\i+1<(pendingOf st2).size:=⟨_,rfl,by generalize Option.any _ _=bb; cases bb <;> simp <;> lia⟩
    rw [hi]
    refine aRj (RI.merge h0 r2 (aDN _) (akH (by lia)) (akH hlt) λsE r5 z5 _=>?_)
    simp only [ayk,a7V,azU]
    exact aVv ⟨rfl,r5,by lia⟩
  .rintro c st2 ⟨rfl,r2,h2⟩
   exact ⟨rfl,r2,by lia⟩
  .rintro c st2 ⟨rfl,r2,h2⟩
   dsimp only
   refine aVv (h st2 r2.perm r2.failed ?_)
   have ht:=r2.tile
   have hs:=r2.xO
   have z:(pendingOf st2).size=(pendingOf st2).toList.length:=aLz.symm
   rw [z] at h2
   generalize (pendingOf st2).toList=l at *
   match l,h2,ht,hs with
   | [],_,ht,_ =>
    have e:0=a₀.size:=ht
    intro i j _ _ hj
    lia
   | [t],_,⟨t1,t2,t3⟩,hs =>
    have e:0+t.2.1=a₀.size:=t3
    have q:=hs t (by simp)
    rw [t1,e] at q
    exact q
   | _ :: _ :: _,h2,_,_=>simp at h2
end
end L2.tW
set_option maxHeartbeats 4000000
namespace L2
open PySem PySem.Spec PyProof.Rows
section
variable {prog:Program} {w:World} {A:Around} {E:Value->Shared->Prop} {s:Shared}
theorem Nm {a:Addr} {us:List Value} {m:Nat} {P:PySem.Fin->Shared->Prop} {κ:SortKind} {ρ:aF.RR} (ho:s.heap.get? a=some (seqObj "list" us.toArray m)) (z:us.length<=1000000)
  (hk:2<=us.length->(∀ (E:Value->Shared->Prop) (Q:SortKind->Shared->Prop),Q κ { s with heap:=mJ s.heap a us }->wpAny (model prog w) A (keyKind' us.toArray) Q E { s with heap:=mJ s.heap a us })/\aF.jr prog w A { s with heap:=mJ s.heap a us } κ ρ (pairsOf us))
  (g:∀ q:SortSt,(arrOf q).Perm (pairsOf us)->tW.fB ρ (arrOf q) 0 (pairsOf us).size->P (.done (.ret .none)) { s with heap:=sortedHeap s.heap a us ((arrOf q).map (·.2)) }):wpAny (model prog w) A (Builtin.«list.sort» ⟨[.ref a],[]⟩) P E s:=by
 rw [list_sort_plain]
 have al:a<s.heap.objs.size:=aSe ho
 obtain ⟨c,oc⟩:∃ c,(s.heap.update a (Obj.mapSeq λ_=>#[])).get? a=some (seqObj "list" #[] c):=⟨_,get?_update_seq ho (λ_=>#[])⟩
 have CO:(mJ s.heap a us).get? a=some (seqObj "list" #[] c):=aIi _ (aIi _ oc)
 refine aHI (listItems_at ho rfl (aHI (aAq ho rfl (aHI (seqEpoch_at oc rfl (aHI (wpAny_newTuple (aHI (bd9 (aOb ?_)))))))))) <;> try (rw [ahk]; first | (rw [ahz]; lia) | lia)
 show wpAny (model prog w) A _ P E { s with heap:=mJ s.heap a us }
 dsimp only
 have us2:us.toArray.size=us.length:=ahz ..
 by_cases few:us.toArray.size<2
 .rw [bb9 few,bb9 few]
  refine aHI (ag7 ?_)
  rw [StateT.run_pure]
  refine aHI (ag7 (aHI (seqEpoch_at CO rfl (aHI (aAq CO rfl ?_ (hsz2:=by rw [Array.size_map]; show (pairsOf us).size<=_; rw [pairsOf_size,ahk]; lia))))))
  simp only [bne_self_eq_false,a7V,azU]
  refine ag7 (g (SortSt.mk' general' (us.toArray.zip us.toArray) #[] 7 none) (aE8 _) λi j _ hij hj=>?_)
  rw [pairsOf_size] at hj
  rw [show i=j by lia]
  exact aZP _
 .rw [aYW few,aYW few]
  have two:2<=us.length:=by lia
  obtain ⟨k1,k2⟩:=hk two
  refine aHI (k1 _ _ (aHI (ayO (tW.qh (a₀:=pairsOf us) (st:=SortSt.mk' κ (us.toArray.zip us.toArray) #[] 7 none) (Q:=λ_ q=>(arrOf q).Perm (pairsOf us)/\failedOf q=none/\tW.fB ρ (arrOf q) 0 (pairsOf us).size) k2 (aE8 _) rfl rfl rfl λq a1 a2 a3=>⟨a1,a2,a3⟩) ?_ λ_ _ e=>e)))
  rintro ⟨⟨⟩,q⟩ t ⟨rfl,hp,hf,hs⟩
  refine aHI (seqEpoch_at CO rfl (aHI (aAq CO rfl ?_ (hsz2:=by rw [Array.size_map,hp.size_eq,pairsOf_size,ahk]; lia))))
  dsimp only
  rw [hf]
  simp only [bne_self_eq_false,a7V,azU]
  exact ag7 (g q hp hs)
end
theorem Wl {α:Type}:∀ {l:List α},2<=l.length->∃ a b r,l=a :: b :: r
 | [],h=>absurd h (Nat.not_succ_le_zero 1)
 | [_],h=>absurd h (aXl 1)
 | a :: b :: r,_=>⟨a,b,r,rfl⟩
def xQ:aF.RR:=⟨λ_=>0,λp=>match p.1 with | .int n _=>n | _=>0⟩
theorem Nl {xs:Array Keyed} {i:Nat}:aF.Kg xQ xs i=PyProof.Rows.K xs i:=by
 unfold aF.Kg PyProof.Rows.K
 cases xs[i]? with
 | none=>rfl
 | some p=>obtain ⟨v,u⟩:=p; cases v <;> rfl
variable {K:W.Frag} {X:Cx}
end L2
set_option maxHeartbeats 1000000
namespace L2
open PySem PySem.Spec PySem.Calls PyProof.Rows PySem.MeetsSeq PySem.W
abbrev k7:=Addr×Int×Int
def rQ (es:List k7) (a:Addr):k7:=(es.find? λe=>e.1 == a).getD (0,0,0)
theorem yw:∀ {es:List k7},(es.map (·.1)).Nodup->∀ {e:k7},e∈es->rQ es e.1=e
 | [],_,_,h=>by cases h
 | x :: r,nd,e,h=>by
  rw [aSD] at nd
  obtain ⟨n1,n2⟩:=a6A.mp nd
  unfold rQ
  rw [a5w]
  rcases awk.mp h with rfl | h
  .rw [beq_self_eq_true]; rfl
  .have ne:(x.1 == e.1)=false:=by
    rw [aAb]
    exact λz=>n1 (by rw [z]; exact ar1 h)
   rw [ne]
   exact yw n2 h
def gP (e:k7):Value:=.ref e.1
def CG (es:List k7):aF.RR:=⟨λ_=>0,λp=>(rQ es (sI p.2)).2.1⟩
def Cb (h:Heap) (e:k7):Prop:=∃ t t',h.get? e.1=some { cls:=.type "tuple",data:=.seq #[.int e.2.1 t,.int e.2.2 t'] }
section
variable {prog:Program} {w:World} {A:Around} {E:Value->Shared->Prop} {s:Shared}
theorem HE {a b:k7} {Q:Bool->Shared->Prop} (h1:Cb s.heap a) (h2:Cb s.heap b) (hab:a.2.1=b.2.1->a.2.2=b.2.2) (h:Q (decide (a.2.1<b.2.1)) s):wpAny (model prog w) A (keyLt' (tuples' true) (gP a) (gP b)) Q E s:=by
 obtain ⟨t,t',ho⟩:=h1
 obtain ⟨u,u',ho'⟩:=h2
 refine W.kat_lt ho rfl ho' rfl (W.kat_cons ?_)
 obtain ⟨c,e,hc⟩:=HT.lN A s a.2.1 t b.2.1 u
 refine e prog w _ _ ?_
 cases c with
 | true =>
  have z:=hc.mp rfl
  refine W.kat_yes (W.kat_cons ?_)
  obtain ⟨c2,e2,hc2⟩:=HT.lN A s a.2.2 t' b.2.2 u'
  refine e2 prog w _ _ ?_
  cases c2 with
  | true =>
   rw [a5c (by lia)] at h
   exact W.kat_yes (W.kat_nil h)
  | false=>exact absurd (hc2.mpr (hab z)) aXI
 | false=>exact W.kat_no (oneLt_int h)
theorem Nk {h:Heap}:∀ {es:List k7},(∀ e∈es,Cb h e)->∃ fs:List Value,W.KatTups h (es.map gP) fs/\fs.length=es.length/\∀ v∈fs,∃ (n:Int) (t:Tok),v=.int n t
 | [],_=>⟨[],W.KatTups.nil,rfl,λ_ h=>by cases h⟩
 | e :: es,hh=>by
  obtain ⟨fs,t,lf,hf⟩:=Nk (es:=es) λx m=>hh x (asq _ m)
  obtain ⟨a,b,ho⟩:=hh e aq5
  rw [aSD]
  refine ⟨.int e.2.1 a :: fs,W.KatTups.cons ho rfl rfl rfl t,by rw [a23,lf]; rfl,λv m=>?_⟩
  rcases awk.mp m with rfl | m
  .exact ⟨_,_,rfl⟩
  .exact hf v m
end
theorem zL {es:List k7} (nd:(es.map (·.1)).Nodup) {xs:Array Keyed} (hp:xs.Perm (pairsOf (es.map gP))) (hi:tW.fB (CG es) xs 0 (pairsOf (es.map gP)).size) :
  ∃ os:List k7,(xs.map (·.2)).toList=os.map gP/\os.Perm es/\os.Pairwise λx y=>x.2.1<=y.2.1:=by
 have pm:=a0l.mp hp
 rw [QL,map_map] at pm
 have mx:∀ p∈xs.toList,∃ e∈es,p=(gP e,gP e):=λp h=>by
  obtain ⟨e,m,q⟩:=auF.mp (pm.mem_iff.mp h)
  exact ⟨e,m,q.symm⟩
 refine ⟨xs.toList.map λp=>rQ es (sI p.2),?_,?_,?_⟩
 .rw [Array.toList_map,map_map]
  refine aoo λp h=>?_
  obtain ⟨e,m,rfl⟩:=mx p h
  show gP e=gP (rQ es e.1)
  rw [yw nd m]
 .have q:=pm.map λp=>rQ es (sI p.2)
  rw [map_map] at q
  refine q.trans (List.Perm.of_eq ?_)
  have:es.map ((λp:Keyed=>rQ es (sI p.2)) ∘ ((λv=>(v,v)) ∘ gP))=es.map id:=aoo λe m=>yw nd m
  rw [this,map_id]
 .rw [pairwise_iff_getElem]
  intro i j h1 h2 hij
  have hi2:i<xs.size:=by simpa using h1
  have hj2:j<xs.size:=by simpa using h2
  have v:=hi i j (a9k _) (aS5 hij) (by rw [← hp.size_eq]; exact hj2)
  unfold aF.Kg at v
  rw [akH hi2,akH hj2] at v
  rw [List.getElem_map,List.getElem_map,aqY,aqY]
  exact v
def mS (H:Hp) (es:List k7):Hp:=λa=>match es.find? λe=>e.1 == a with
 | some e=>some (.tup [.int e.2.1,.int e.2.2])
 | none=>H a
theorem P6 {H:Hp} {es:List k7} {a:Addr} (h:∀ e∈es,e.1≠a):mS H es a=H a:=by
 unfold mS
 rw [List.find?_eq_none.mpr λe m=>by simpa using h e m]
theorem Yi {H:Hp} {es:List k7} (nd:(es.map (·.1)).Nodup) {e:k7} (m:e∈es):mS H es e.1=some (.tup [.int e.2.1,.int e.2.2]):=by
 have q:=yw nd m
 unfold rQ at q
 unfold mS
 cases z:es.find? λx=>x.1 == e.1 with
 | none=>exact absurd (List.find?_eq_none.mp z e m) (by simp)
 | some x=>rw [z] at q; have q:x=e:=q; rw [q]
theorem QB {α β:Type} {F:α->β->Prop}:∀ {l₁:List α} {l₂:List β},Paired F l₁ l₂->∀ {i:Nat} {a:α} {b:β},l₁[i]?=some a->l₂[i]?=some b->F a b
 | _,_,.nil,_,_,_,h,_=>by simp at h
 | _,_,.cons r t,0,_,_,h,g=>by
  simp only [List.getElem?_cons_zero,Option.some.injEq] at h g
  subst h g; exact r
 | _,_,.cons r t,i+1,_,_,h,g=>QB t (i:=i) (by simpa using h) (by simpa using g)
theorem Nj {α β:Type} {f:α->β}:∀ {l:List α},(l.map f).Nodup->∀ {a b:α},a∈l->b∈l->f a=f b->a=b
 | [],_,_,_,h,_,_=>nomatch h
 | x :: r,nd,a,b,ha,hb,e=>by
  obtain ⟨n1,n2⟩:=a6A.mp nd
  rcases awk.mp ha with h1 | h1 <;> rcases awk.mp hb with h2 | h2
  .rw [h1,h2]
  .exact absurd (by rw [← h1,e]; exact ar1 h2) n1
  .exact absurd (by rw [← h2,← e]; exact ar1 h1) n1
  .exact Nj n2 h1 h2 e
theorem Wy (os:List k7):Vals (os.map λe=>V.ref e.1) (os.map gP):=by
 induction os with
 | nil=>exact .nil
 | cons e r ih=>exact .cons rfl ih
section
variable {X:Cx} {pins:List (Addr×Obj)} {σ:St} {H H':Hp} {s:Shared} {h':Heap}
theorem Inv.more {t':Nat} (I:Inv X pins σ H s) (k:∀ b u,s.heap.get? b=some u->h'.get? b=some u) (on:∀ b o,H b=some o->H' b=some o) (fr:∀ b u,s.heap.get? b=some u->H b=none->H' b=none) (new:∀ b o,H b=none->H' b=some o->aH X.prog X.w H' h' b o) :
  Inv X pins σ H' { s with heap:=h',toks:=t' }:=by
 refine I.un ⟨λb u q _ _ _=>k b u q,λb u q _ _ _=>⟨u.slots,k b u q⟩,λb u q n _=>fr b u q n,λb u q _=>⟨u,k b u q⟩,λb xs q=>on _ _ q,λb o u q=>on _ _ q,λb p z q=>on _ _ q⟩ λb u e=>?_
 cases c:H b with
 | some o =>
  have e2:=a6S ((on b o c).symm.trans e)
  subst e2
  exact (I.hok b o c).stay (λc v _ q=>k c v q) (λc q=>on _ _ q) (λc xs q=>on _ _ q) λc oz q=>on _ _ q
 | none=>exact new b u c e
end
theorem ZgR {P:Program} {w:World} (d:Addr) (hd:(d == sysModules)=false) :
  MeetsIn P w (Builtin.«dict.items» ⟨[.ref d],[]⟩) (λ_ R s=>s.TypeIs (.ref d) "dict" /\ R (.ok (.ret (.ref s.heap.objs.size))) { s with heap:=s.heap.push { cls:=.type "dict_items",data:=.fields #[.ref d] } }) :=
 .of_wp λA R s ⟨ty,h⟩=>by
  unfold Builtin.«dict.items»; refine aHI ?_; unfold Builtin.Dict.noArgs; refine aHI (wpAny_notOrdered_dict ty ?_); show wpAny _ _ (pure d) _ _ s
  refine ag7 ?_; show wpAny _ _ (Builtin.Dict.showsAll d >>= _) _ _ s; unfold Builtin.Dict.showsAll; rw [aYW (by rw [hd]; exact aXI)]
  exact aHI (ag7 (aHI (aV5 (ag7 ⟨_,rfl,h⟩))))
section
variable {X:Cx}
def Lp (H:Hp) (v d:Addr):Prop:=H v=some (.ext λh=>h.IsItemsView v d)
def Wx (tl:TE):TE:=λσ H Q=>tl σ H λx H1=>∃ d kvs,x=.ref d/\H1 d=some (.dK kvs)/\∀ v,H1 v=none->Q (.ref v) (upd H1 v (.ext λh=>h.IsItemsView v d))
theorem YX {l:Expr} {tl:TE} {apos cpos:Pos} (hl:PE X l tl) (hbase:attributeBase l "items" X.env (eval l X.env)=eval l X.env:=by rfl) (hline:(apos.endLine == cpos.line)=true:=by rfl):PE X (.Call (.Attribute l "items" apos) [] [] cpos) (Wx tl):=by
 intro pins s σ H Q I h
 refine wpAny_Call_method0_late hbase hline (fY (hl pins s σ H _ I h) λv s1 x H1 I1 r1 q1=>?_)
 obtain ⟨d,kvs,e,hd,q⟩:=q1
 subst e
 cases r1
 obtain ⟨t1,t2,hs⟩:=Dy I1 (.inl ⟨kvs,.inl hd⟩)
 refine ⟨"dict", "dict.items",abh,PySem.F.slot_dict_items,PySem.F.type_dict_items,t1,t2,aim rfl (PySem.evalArgs_none ?_)⟩
 refine call_meetsIn PySem.F.slot_dict_items t1 PySem.F.entry_dict_items (PySem.F.args_dict_items_1 _) (ZgR d hs) ⟨t1,?_⟩
 refine ⟨.ref s1.heap.objs.size,_,I1.laid (a:=s1.heap.objs.size) (t':=s1.toks) (o:=.ext λh=>h.IsItemsView s1.heap.objs.size d) (λb o z=>aIi _ z) (aDN _) ⟨⟨_,a3a _ rfl,rfl,rfl⟩,⟨_,a3a _ rfl⟩,λh1 h2 ⟨o,ho,x⟩ up=>⟨o,up o ho,x⟩⟩,rfl,q _ (I1.hok.fresh (aDN _))⟩
def Yh:List V->Hp->VK->Prop:=λxs H Q=>∃ (v d:Addr) (ps:List (Int×Int)),xs=[.ref v]/\Lp H v d/\H d=some (.dK (ps.map λp=>(Sum.inl p.1,V.int p.2)))/\(ps.map (·.1)).Nodup/\ps.length<=1000000 /\
 ∀ (D:Addr) (os:List k7) (H':Hp),H D=none->aB H H'->H' D=some (.lst (os.map λe=>V.ref e.1))->(∀ e∈os,H e.1=none/\H' e.1=some (.tup [.int e.2.1,.int e.2.2]))->(os.map (·.2)).Perm ps->(os.Pairwise λx y=>x.2.1<y.2.1)->Q (.ref D) H'
theorem ZgS (hc:X.calm=true):bF X (.builtin "sorted") Yh:=by
 intro pins s σ H xs us Q I r h
 obtain ⟨v,d,ps,rfl,hv,hd,nd,hz,q⟩:=h
 obtain ⟨u,rfl,rx⟩:=vals1 r
 cases rx
 obtain ⟨hvw,_⟩:=I.hok v _ hv
 obtain ⟨_,hs,vs,rv,hD⟩:=I.hok d _ hd
 obtain ⟨ep,hat⟩:=hD.dictAt
 have hl:vs.length=ps.length:=by have:=aMl rv; rw [aUH] at this; exact this.symm
 refine call_function_entry kind_sorted plain_sorted entry_sorted (args_sorted1 _) ?_
 unfold Builtin.«sorted»
 refine aHI (m:=checkCount "sorted" 1 1 _) (ag7 ?_)
 refine aHI (W.kdx_collect (A:=X.A.in1) (knd:=Zv X.prog X.w) (kvs:=vs) (ep:=ep) (show X.A.in1.handled=none from I.ok.hd hc) hvw hat (by rw [ahk]; lia) λh' tk as hk' la hG=>?_)
 obtain ⟨es,ea,ev,pk⟩:∃ es:List k7,es.map (·.1)=as/\es.map (·.2)=ps/\∀ e∈es,Cb h' e:=by
  refine ⟨as.zip ps,List.map_fst_zip (by lia),List.map_snd_zip (by lia),λe m=>?_⟩
  obtain ⟨j,hj⟩:=List.mem_iff_getElem?.mp m
  rw [List.getElem?_zip_eq_some] at hj
  obtain ⟨ja,jp⟩:=hj
  obtain ⟨key,k,x,e1,e2,e3⟩:=hG.pairs j _ ja
  obtain ⟨f1,f2⟩:=QB rv (i:=j) (by rw [aJm,jp]; rfl) e1
  dsimp only at f1 f2
  subst f1
  obtain ⟨t,rfl⟩:=Qe e2
  obtain ⟨t',rfl⟩:=f2
  exact ⟨t,t',e3⟩
 have z4:(es.map (·.1)).Nodup:=by rw [ea]; exact hG.rise.imp λh=>anq h
 have L1:(es.map λe=>e.2.1).Nodup:=by
  rw [← ev,map_map] at nd
  exact nd
 have le:es.length=ps.length:=by rw [← ev,aUH]
 have er:as.map Value.ref=es.map gP:=by rw [← ea,map_map]; rfl
 have ab:∀ e∈es,s.heap.objs.size<e.1:=λe m=>hG.above _ (by rw [← ea]; exact ar1 m)
 rw [er]
 refine aHI (bd9 ?_ (by rw [aUH,le,ahk]; lia))
 have kX:(h'.push (seqObj "list" (es.map gP).toArray 0)).get? h'.objs.size=some (seqObj "list" (es.map gP).toArray 0):=a3a _ rfl
 show wpAny _ _ _ _ _ { s with heap:=h'.push (seqObj "list" (es.map gP).toArray 0),toks:=tk }
 have up1:∀ b o,h'.get? b=some o->(h'.push (seqObj "list" (es.map gP).toArray 0)).get? b=some o:=λb o e=>aIi _ e
 have L6:∀ e∈es,e.1<h'.objs.size:=λe m=>by obtain ⟨_,_,z⟩:=pk e m; exact aSe z
 refine aHI (aOb (aM9 slot_list_sort ⟨_,kX,rfl⟩ entry_list_sort (Nm (s:={ s with heap:=h'.push (seqObj "list" (es.map gP).toArray 0),toks:=tk }) (κ:=tuples' true) (ρ:=CG es) kX (by rw [aUH,le]; exact hz) (λtwo=>?_) λst a1 a2=>⟨_,rfl,?_⟩) (args_list_sort _)))
 .have FL:∀ e∈es,Cb (mJ (h'.push (seqObj "list" (es.map gP).toArray 0)) h'.objs.size (es.map gP)) e:=λe m=>by
   obtain ⟨t,t',z⟩:=pk e m
   exact ⟨t,t',Yk (anq (L6 e m)) (up1 _ _ z)⟩
  refine ⟨λE Q hQ=>?_,λx mx y my E Q hQ=>?_⟩
  .obtain ⟨fs,t,lf,hf⟩:=Nk FL
   refine W.kat_kind (T:=Value.type "int") t (by rw [aUH] at two; lia) (λv m=>?_) rfl hQ
   obtain ⟨n,t,rfl⟩:=hf v m
   exact .now
  .rw [QL,map_map] at mx my
   obtain ⟨a,ma,rfl⟩:=auF.mp mx
   obtain ⟨b,mb,rfl⟩:=auF.mp my
   refine HE (FL a ma) (FL b mb) (λz=>by rw [Nj L1 ma mb z]) ?_
   have e1:(CG es).g (gP a,gP a)=a.2.1:=by show (rQ es a.1).2.1=_; rw [yw z4 ma]
   have e2:(CG es).g (gP b,gP b)=b.2.1:=by show (rQ es b.1).2.1=_; rw [yw z4 mb]
   rw [← e1,← e2]
   exact hQ
 refine ag7 ⟨_,rfl,?_⟩
 obtain ⟨os,eo,po,so⟩:=zL z4 a1 a2
 obtain ⟨e,he⟩:=sortedHeap_at (out:=(arrOf st).map (·.2)) kX
 have lo:=po.length_eq
 have D0:H h'.objs.size=none:=(I.kept (t':=tk) hk').hok.fresh (aDN _)
 have ndO:(os.map (·.1)).Nodup:=(po.map _).nodup_iff.mpr z4
 have nE:∀ {b o},H b=some o->∀ e∈es,e.1≠b:=λ{b o} z e m=>aHs (aEc (I.hok.lt z) (ab e m))
 have on:∀ b o,H b=some o->upd (mS H es) h'.objs.size (.lst (os.map λe=>V.ref e.1)) b=some o:=λb o z=>by rw [Zc (Zd z D0),P6 (nE z)]; exact z
 have Lz:∀ b o,h'.get? b=some o->(sortedHeap (h'.push (seqObj "list" (es.map gP).toArray 0)) h'.objs.size (es.map gP) ((arrOf st).map (·.2))).get? b=some o:=λb o z=>by
  have lt:=aSe z
  rw [sortedHeap_old (anq lt) (by rw [size_push']; exact aK0 lt),aj9 _ _ _ (anq lt)]
  exact z
 have I2:Inv X pins σ (upd (mS H es) h'.objs.size (.lst (os.map λe=>V.ref e.1))) { s with heap:=sortedHeap (h'.push (seqObj "list" (es.map gP).toArray 0)) h'.objs.size (es.map gP) ((arrOf st).map (·.2)),toks:=tk }:=by
  generalize sortedHeap (h'.push (seqObj "list" (es.map gP).toArray 0)) h'.objs.size (es.map gP) ((arrOf st).map (·.2))=hF at *
  refine I.more (λb u z=>Lz _ _ (hk' _ _ z)) on (λb u z n=>?_) λb o n z=>?_
  .rw [Zc (anq (aSe (hk' _ _ z))),P6 λe m=>aHs (aEc (aSe z) (ab e m))]
   exact n
  by_cases c:b=h'.objs.size
  .subst c
   rw [Za] at z
   cases z
   exact ⟨by rw [aUH,lo,le,ahk]; lia,os.map gP,e,Wy os,by rw [← eo]; exact he⟩
  .rw [Zc c] at z
   unfold mS at z
   cases y:es.find? λe=>e.1 == b with
   | none=>rw [y] at z; rw [show H b=some o from z] at n; cases n
   | some x =>
    rw [y] at z
    have mx:=List.mem_of_find?_eq_some y
    have ex:x.1=b:=by simpa using List.find?_some y
    cases z
    obtain ⟨t,t',g⟩:=pk x mx
    rw [← ex]
    exact ⟨by show 2<=sizeLine; decide,[.int x.2.1 t,.int x.2.2 t'],.cons ⟨t,rfl⟩ (.cons ⟨t',rfl⟩ .nil),_,Lz _ _ g,rfl,_,rfl⟩
 refine ⟨.ref h'.objs.size,_,I2,rfl,q _ os _ D0 on Za (λx m=>?_) (by rw [← ev]; exact po.map _) ?_⟩
 .have mE:=po.mem_iff.mp m
  refine ⟨?_,by rw [Zc (anq (L6 x mE))]; exact Yi z4 mE⟩
  cases c:H x.1 with
  | none=>rfl
  | some o=>exact absurd rfl (nE c x mE)
 .have zZ:(os.map λe=>e.2.1).Nodup:=(po.map _).nodup_iff.mpr L1
  have:=List.pairwise_map.mp zZ
  exact (so.and this).imp λh=>by obtain ⟨h1,h2⟩:=h; lia
end
def YW:List V->Hp->VK->Prop:=λxs H Q=>∃ (d:Addr) (kvs:List (Key×V)) (ns:List Int),xs=[.ref d]/\H d=some (.dK kvs)/\kvs.map Prod.fst=ns.map Sum.inl/\ns.length<=1000000 /\
 ∀ (D:Addr) (os:List Int),H D=none->os.Perm ns->os.Pairwise (·<=·)->Q (.ref D) (upd H D (.lst (os.map V.int)))
section
variable {X:Cx}
theorem ZfF (hc:X.calm=true):bF X (.builtin "sorted") YW:=by
 intro pins s σ H xs us Q I r h
 obtain ⟨d,kvs,ns,rfl,hd,hk,hz0,q⟩:=h
 obtain ⟨u,rfl,rx⟩:=vals1 r
 cases rx
 obtain ⟨hz,hs,vs,rv,hD⟩:=I.hok d _ hd
 obtain ⟨ep,hat⟩:=hD.dictAt
 have hl:vs.length=ns.length:=by have l1:kvs.length=vs.length:=aMl rv; have l2:=a5E List.length hk; simp at l2; lia
 refine call_function_entry kind_sorted plain_sorted entry_sorted (args_sorted1 _) ?_
 unfold Builtin.«sorted»
 refine aHI (m:=checkCount "sorted" 1 1 _) (ag7 ?_)
 refine aHI (kdu_collect (A:=X.A.in1) (kdl_dict (knd:=Zv X.prog X.w) (kvs:=vs) (ep:=ep) hs) (show X.A.in1.handled=none from I.ok.hd hc) hat (by rw [ahk]; lia) λh' tk acc hk' hacc=>?_)
 have hv:=QC rv hk hacc
 have la:acc.toList.length=ns.length:=by rw [aLz,hacc.1,hl]
 generalize acc.toList=its at *
 refine aHI (bd9 ?_ (by rw [la,ahk]; lia))
 have kX:(h'.push (seqObj "list" its.toArray 0)).get? h'.objs.size=some (seqObj "list" its.toArray 0):=a3a _ rfl
 have I1:=I.kept (t':=tk) hk'
 show wpAny _ _ _ _ _ { s with heap:=h'.push (seqObj "list" its.toArray 0),toks:=tk }
 refine aHI (aOb (aM9 slot_list_sort ⟨_,kX,rfl⟩ entry_list_sort (Nm (s:={ s with heap:=h'.push (seqObj "list" its.toArray 0),toks:=tk }) (κ:=oneType') (ρ:=xQ) kX (by lia) (λtwo=>⟨λE Q hQ=>?_,λx mx y my E Q hQ=>?_⟩) λst hp hs=>⟨_,rfl,?_⟩) (args_list_sort _)))
 .have hkk:keyKind' its.toArray=pure oneType':=by
   obtain ⟨v1,v2,rest,e⟩:=Wl two
   rw [e] at hv ⊢
   exact keyKind_ints hv
  rw [hkk]
  exact ag7 hQ
 .obtain ⟨a,t,ea⟩:=hv.intKeys x mx
  obtain ⟨b,t',eb⟩:=hv.intKeys y my
  rw [ea,eb]
  refine W.kat_lt_int ?_
  have e1:xQ.g x=a:=by unfold xQ; dsimp only; rw [ea]
  have e2:xQ.g y=b:=by unfold xQ; dsimp only; rw [eb]
  rw [e1,e2] at hQ
  exact hQ
 refine ag7 ⟨_,rfl,?_⟩
 obtain ⟨ns',h1,h2,h3⟩:=sorted_out hv hp (λi j hij hj=>by rw [← Nl,← Nl]; exact hs i j (a9k _) hij hj)
 generalize (arrOf st).map (·.2)=out at *
 obtain ⟨e,he⟩:=sortedHeap_at (out:=out) kX
 have fr:H h'.objs.size=none:=I1.hok.fresh (aDN _)
 have lo:=h2.length_eq
 refine ⟨.ref h'.objs.size,_,I1.laid (a:=h'.objs.size) (t':=tk) (o:=.lst (ns'.map V.int)) (λb o z=>?_) (aDN _) ⟨by rw [aUH,lo,ahk]; lia,out.toList,e,Ej h1,he⟩,rfl,q _ ns' fr h2 h3⟩
 have z':h'.get? b=some o:=z
 have lt:=aSe z'
 rw [sortedHeap_old (anq lt) (by rw [size_push']; exact aK0 lt),aj9 _ _ _ (anq lt)]
 exact z'
end
end L2
set_option maxHeartbeats 4000000
namespace L2
open PySem PySem.Spec PyProof.Rows
section
variable {X:Cx}
def SW (K:W.Frag) (zs:List Int):TE:=λ_ H Q=>∀ a,(∀ H,aZ K H a (zs.map V.int))->Q (.ref a) H
theorem P5 {K:W.Frag} {x:Str} {zs:List Int} {pos:Pos} (hK:X.K=K) (h:∃ a,X.mg x=some (.ref a)/\∀ H,aZ K H a (zs.map V.int)) (hg:Gl X x) (hd:(x == ("__debug__" : Str))=false:=by decide):PE X (.Name x pos) (SW K zs):=by
 obtain ⟨a,e,q⟩:=h
 intro pins s σ H Q I hw
 exact DV I hg e ⟨.ref a,H,I,rfl,hw a q⟩ hd
end
end L2
namespace bI
open PySem L2
theorem scm {N P:List Str} {s:Scope} (a:s.kind=.function:=by rfl) (b:s.isCoroutine=false:=by rfl) (c:s.isGenerator=false:=by rfl) (d:N.Nodup:=by decide +kernel) (e:N.take P.length=P:=by rfl) (f:∀ x ∈ P,s.names.lookup x=some .local\/s.names.lookup x=some .cell:=by decide +kernel) (g:∀ y ∈ s.names,y.2 ≠ .free:=by decide +kernel):ah N P s:=⟨a,b,c,d,e,f,g⟩
theorem sl (n:Nat) (h:n ≤ 99:=by decide):n ≤ sizeLine:=auj h (by rw [ahk]; decide)
variable {P:Program} {w:World} {K:W.Frag} {mg:Str->Option Value} {base:Heap}
def top (i:Nat):Stmt:=PySem.Challenge.pw_nearstairs_k43_beside_begun_anew.main.body.getD i (.Pass ⟨0,0,0,0⟩)
theorem bA {N P:List Str} {sc:Scope} (a:sc.kind=.function:=by rfl) (b:sc.isCoroutine=false:=by rfl) (c:sc.isGenerator=false:=by rfl) (d:N.Nodup:=by decide +kernel) (e:N.take P.length=P:=by rfl) (f:∀ x∈P,sc.names.lookup x=some .local\/sc.names.lookup x=some .cell:=by decide +kernel) (g:∀ y∈sc.names,y.2≠.free:=by decide +kernel):ah N P sc:=⟨a,b,c,d,e,f,g⟩
abbrev JP:Stmt:=top 1
abbrev jL:List Str:=["size", "spot"]
abbrev yH:List Str:=jL.take 2
theorem iV:ah jL yH (Zg JP):=bA
abbrev JO:Stmt:=top 2
abbrev jJ:List Str:=["size", "board", "first"]
abbrev Ep:List Str:=jJ.take 2
theorem iS:ah jJ Ep (Zg JO):=bA
abbrev JN:Stmt:=top 3
abbrev jK:List Str:=["shelves", "board"]
abbrev JM:List Str:=jK.take 2
theorem iT:ah jK JM (Zg JN):=bA
abbrev Ex:Stmt:=Zq (top 11) 0
abbrev fV:List Str:=["self", "shelves", "places", "rule"]
abbrev Km:List Str:=fV.take 4
theorem g6:ah fV Km (Zg Ex):=bA
abbrev JL:Stmt:=Zq (top 11) 1
abbrev jN:List Str:=["self", "board"]
abbrev BU:List Str:=jN.take 2
theorem iX:ah jN BU (Zg JL):=bA
abbrev JX:Stmt:=Zq (top 11) 2
abbrev iE:List Str:=["self", "board", "out"]
abbrev JW:List Str:=iE.take 2
theorem gu:ah iE JW (Zg JX):=bA
abbrev JK:Stmt:=Zq (top 11) 3
abbrev jM:List Str:=["self", "board", "mates"]
abbrev JJ:List Str:=jM.take 2
theorem iW:ah jM JJ (Zg JK):=bA
abbrev Kl:Stmt:=Zq (top 11) 4
abbrev ji:List Str:=["self", "board"]
abbrev Ew:List Str:=ji.take 2
theorem g9:ah ji Ew (Zg Kl):=bA
abbrev KD:Stmt:=Zq (top 11) 5
abbrev gC:List Str:=["self"]
abbrev KC:List Str:=gC.take 1
theorem fL:ah gC KC (Zg KD):=bA
abbrev Kh:Stmt:=Zq (top 11) 7
abbrev jh:List Str:=["self", "board"]
abbrev BO:List Str:=jh.take 2
theorem gZ:ah jh BO (Zg Kh):=bA
abbrev JV:Stmt:=Zq (top 11) 8
abbrev iD:List Str:=["self", "board"]
abbrev yK:List Str:=iD.take 2
theorem gm:ah iD yK (Zg JV):=bA
abbrev Li:Stmt:=Zq (top 11) 9
abbrev dB:List Str:=["self", "board", "mates"]
abbrev ZW:List Str:=dB.take 2
theorem cI:ah dB ZW (Zg Li):=bA
abbrev ZB:Stmt:=Zq (top 11) 10
abbrev cF:List Str:=["self", "mates"]
abbrev BY:List Str:=cF.take 2
theorem gr:ah cF BY (Zg ZB):=bA
abbrev JU:Stmt:=Zq (top 13) 0
abbrev iB:List Str:=["self", "room_plan", "shelves", "places", "rule", "writing"]
abbrev JT:List Str:=iB.take 2
theorem gh:ah iB JT (Zg JU):=bA
abbrev Kf:Stmt:=Zq (top 13) 1
abbrev je:List Str:=["self", "board"]
abbrev yL:List Str:=je.take 2
theorem gX:ah je yL (Zg Kf):=bA
abbrev Ky:Stmt:=Zq (top 13) 2
abbrev fc:List Str:=["self", "board", "words"]
abbrev Kw:List Str:=fc.take 3
theorem dM:ah fc Kw (Zg Ky):=bA
abbrev Lf:Stmt:=Zq (top 13) 3
abbrev dY:List Str:=["self", "board"]
abbrev Le:List Str:=dY.take 2
theorem cZ:ah dY Le (Zg Lf):=bA
abbrev Ld:Stmt:=Zq (top 13) 4
abbrev dU:List Str:=["self", "board"]
abbrev ZA:List Str:=dU.take 2
theorem cW:ah dU ZA (Zg Ld):=bA
abbrev Ke:Stmt:=Zq (top 13) 5
abbrev jd:List Str:=["self", "board", "words"]
abbrev En:List Str:=jd.take 3
theorem gW:ah jd En (Zg Ke):=bA
abbrev Lc:Stmt:=Zq (top 13) 6
abbrev dW:List Str:=["self", "board", "at", "word"]
abbrev Lb:List Str:=dW.take 4
theorem cX:ah dW Lb (Zg Lc):=bA
abbrev La:Stmt:=Zq (top 13) 7
abbrev dX:List Str:=["self", "board"]
abbrev K9:List Str:=dX.take 2
theorem cY:ah dX K9 (Zg La):=bA
abbrev Kv:Stmt:=Zq (top 13) 8
abbrev fh:List Str:=["self", "board"]
abbrev EA:List Str:=fh.take 2
theorem dN:ah fh EA (Zg Kv):=bA
abbrev KU:Stmt:=Zq (top 13) 9
abbrev fQ:List Str:=["self", "board"]
abbrev KS:List Str:=fQ.take 2
theorem eU:ah fQ KS (Zg KU):=bA
abbrev J8:Stmt:=Zq (top 14) 0
abbrev gD:List Str:=["self", "size"]
abbrev J7:List Str:=gD.take 2
theorem fM:ah gD J7 (Zg J8):=bA
abbrev ZX:Stmt:=Zq (top 14) 2
abbrev bN:List Str:=["self", "board"]
abbrev Lh:List Str:=bN.take 2
theorem cJ:ah bN Lh (Zg ZX):=bA
abbrev JS:Stmt:=Zq (top 14) 3
abbrev iF:List Str:=["self", "board", "words", "spot", "word"]
abbrev JR:List Str:=iF.take 3
theorem gw:ah iF JR (Zg JS):=bA
abbrev KR:Stmt:=Zq (top 14) 4
abbrev fW:List Str:=["self"]
abbrev KQ:List Str:=fW.take 1
theorem e8:ah fW KQ (Zg KR):=bA
abbrev ZS:Stmt:=Zq (top 16) 0
abbrev eT:List Str:=["self", "size", "room_plans"]
abbrev BX:List Str:=eT.take 3
theorem gk:ah eT BX (Zg ZS):=bA
abbrev JQ:Stmt:=Zq (top 16) 1
abbrev iC:List Str:=["self", "k"]
abbrev Ey:List Str:=iC.take 2
theorem gj:ah iC Ey (Zg JQ):=bA
abbrev Ku:Stmt:=Zq (top 16) 2
abbrev fm:List Str:=["self", "k"]
abbrev Ks:List Str:=fm.take 2
theorem dQ:ah fm Ks (Zg Ku):=bA
abbrev J6:Stmt:=Zq (top 16) 3
abbrev gA:List Str:=["self", "k", "board"]
abbrev Et:List Str:=gA.take 3
theorem fJ:ah gA Et (Zg J6):=bA
abbrev KP:Stmt:=Zq (top 16) 4
abbrev fS:List Str:=["self"]
abbrev KO:List Str:=fS.take 1
theorem eX:ah fS KO (Zg KP):=bA
abbrev J5:Stmt:=Zq (top 16) 5
abbrev gB:List Str:=["self", "k"]
abbrev BV:List Str:=gB.take 2
theorem fK:ah gB BV (Zg J5):=bA
abbrev K8:Stmt:=Zq (top 16) 6
abbrev d7:List Str:=["self", "events"]
abbrev ZM:List Str:=d7.take 1
theorem dg:ah d7 ZM (Zg K8):=bA
abbrev KN:Stmt:=Zq (top 16) 7
abbrev fT:List Str:=["self", "k", "board"]
abbrev EC:List Str:=fT.take 3
theorem eY:ah fT EC (Zg KN):=bA
abbrev K1:Stmt:=Zq (top 16) 8
abbrev cM:List Str:=["self", "k"]
abbrev ZQ:List Str:=cM.take 2
theorem cz:ah cM ZQ (Zg K1):=bA
abbrev KL:Stmt:=Zq (top 16) 9
abbrev fR:List Str:=["self", "k", "board"]
abbrev EB:List Str:=fR.take 3
theorem eV:ah fR EB (Zg KL):=bA
abbrev Kr:Stmt:=Zq (top 16) 10
abbrev fk:List Str:=["self", "k", "board", "words"]
abbrev Ez:List Str:=fk.take 4
theorem dP:ah fk Ez (Zg Kr):=bA
abbrev KJ:Stmt:=Zq (top 16) 11
abbrev fU:List Str:=["self", "k", "board"]
abbrev ZN:List Str:=fU.take 3
theorem eZ:ah fU ZN (Zg KJ):=bA
abbrev Kd:Stmt:=Zq (top 16) 12
abbrev jg:List Str:=["self", "k", "board", "words"]
abbrev BN:List Str:=jg.take 4
theorem gY:ah jg BN (Zg Kd):=bA
abbrev Kq:Stmt:=Zq (top 16) 13
abbrev fj:List Str:=["self", "k", "spot"]
abbrev Ko:List Str:=fj.take 3
theorem dO:ah fj Ko (Zg Kq):=bA
abbrev K7:Stmt:=Zq (top 16) 14
abbrev dZ:List Str:=["self", "k", "spot", "word"]
abbrev K6:List Str:=dZ.take 4
theorem c6:ah dZ K6 (Zg K7):=bA
abbrev J4:Stmt:=Zq (top 20) 0
abbrev gF:List Str:=["self", "size", "near", "far"]
abbrev J3:List Str:=gF.take 4
theorem fO:ah gF J3 (Zg J4):=bA
abbrev J2:Stmt:=Zq (top 20) 1
abbrev gE:List Str:=["self", "hand", "spot"]
abbrev JZ:List Str:=gE.take 3
theorem fN:ah gE JZ (Zg J2):=bA
abbrev KH:Stmt:=Zq (top 20) 2
abbrev fX:List Str:=["self", "hand", "spot", "word", "board", "other", "near"]
abbrev KG:List Str:=fX.take 4
theorem e9:ah fX KG (Zg KH):=bA
abbrev KA:Stmt:=Zq (top 20) 3
abbrev d8:List Str:=["self", "hand", "board", "words", "fresh"]
abbrev Kz:List Str:=d8.take 1
theorem dj:ah d8 Kz (Zg KA):=bA
abbrev K3:Stmt:=Zq (top 20) 4
abbrev cE:List Str:=["self", "hand", "board", "out"]
abbrev ZK:List Str:=cE.take 3
theorem bW:ah cE ZK (Zg K3):=bA
abbrev K0:Stmt:=Zq (top 20) 5
abbrev cO:List Str:=["self", "board", "out"]
abbrev KZ:List Str:=cO.take 2
theorem cB:ah cO KZ (Zg K0):=bA
abbrev K5:Stmt:=Zq (top 20) 6
abbrev bZ:List Str:=["self", "hand", "board", "near"]
abbrev K4:List Str:=bZ.take 3
theorem bR:ah bZ K4 (Zg K5):=bA
abbrev K2:Stmt:=Zq (top 20) 7
abbrev cD:List Str:=["self", "hand", "board", "words", "fresh"]
abbrev ZL:List Str:=cD.take 3
theorem bV:ah cD ZL (Zg K2):=bA
abbrev KY:Stmt:=Zq (top 20) 8
abbrev cN:List Str:=["self", "board", "words", "fresh", "hand", "words_near", "fresh_near"]
abbrev KW:List Str:=cN.take 2
theorem cA:ah cN KW (Zg KY):=bA
abbrev Lg:Stmt:=Zq (top 20) 9
abbrev dD:List Str:=["self", "board", "words", "far"]
abbrev ZF:List Str:=dD.take 3
theorem cK:ah dD ZF (Zg Lg):=bA
abbrev qf:Stmt:=top 22
abbrev vp:List Str:=["_law_script", "_law_k", "_law_cell"]
abbrev rB:List Str:=vp.take 2
theorem qc:ah vp rB (Zg qf):=bA
abbrev Iq:Stmt:=top 23
abbrev rE:List Str:=["_law_box_here", "_law_size", "_law_found", "_law_step", "_law_once", "_law_twice"]
abbrev tS:List Str:=rE.take 2
theorem nM:ah rE tS (Zg Iq):=bA
abbrev Ju:Stmt:=top 24
abbrev l5:List Str:=["_law_script", "_law_size", "_law_cells", "_law_k", "_law_cell"]
abbrev Jt:List Str:=l5.take 2
theorem j9:ah l5 Jt (Zg Ju):=bA
abbrev vc:Stmt:=top 25
abbrev ni:List Str:=["_law_found", "_law_due"]
abbrev rY:List Str:=ni.take 2
theorem nQ:ah ni rY (Zg vc):=bA
abbrev Kc:Stmt:=top 26
abbrev jb:List Str:=["_law_box_here", "_law_far", "_law_shelves", "_law_places", "_law_rule"]
abbrev Em:List Str:=jb.take 1
theorem gT:ah jb Em (Zg Kc):=bA
abbrev DH:Stmt:=top 27
abbrev nj:List Str:=["_law_box_here", "_law_kind", "_law_size"]
abbrev Ip:List Str:=nj.take 1
theorem nR:ah nj Ip (Zg DH):=bA
abbrev Es:Stmt:=top 28
abbrev dH:List Str:=["_law_box_here", "_law_size", "_law_many_here", "_law_way", "_law_begin", "_law_first", "_law_found", "_law_far", "_law_k", "_law_at"]
abbrev JY:List Str:=dH.take 2
theorem fH:ah dH JY (Zg Es):=bA
abbrev Io:Stmt:=top 29
abbrev rC:List Str:=["_law_box_here", "_law_way", "_law_number", "_law_turn"]
abbrev Im:List Str:=rC.take 1
theorem nK:ah rC Im (Zg Io):=bA
abbrev Il:Stmt:=top 30
abbrev rL:List Str:=["_law_box_here", "_law_size", "_law_some", "_law_write", "_law_spot"]
abbrev Ik:List Str:=rL.take 3
theorem nW:ah rL Ik (Zg Il):=bA
abbrev Ij:Stmt:=top 31
abbrev rG:List Str:=["_law_box_here", "_law_few", "_law_most", "_law_great"]
abbrev Ii:List Str:=rG.take 3
theorem nT:ah rG Ii (Zg Ij):=bA
abbrev Ih:Stmt:=top 32
abbrev rF:List Str:=["_law_box_here", "_law_size", "_law_kind", "_law_rooms"]
abbrev Ig:List Str:=rF.take 1
theorem nS:ah rF Ig (Zg Ih):=bA
abbrev Ka:Stmt:=top 33
abbrev jc:List Str:=["_law_box_here", "_law_size", "_law_some", "_law_hand"]
abbrev J9:List Str:=jc.take 3
theorem gV:ah jc J9 (Zg Ka):=bA
abbrev Ie:Stmt:=top 34
abbrev rJ:List Str:=["_law_pair_here", "_law_hand", "_law_deed_here"]
abbrev Ic:List Str:=rJ.take 3
theorem nV:ah rJ Ic (Zg Ie):=bA
abbrev Ib:Stmt:=top 35
abbrev rD:List Str:=["_law_pair_here", "_law_hand", "_law_deed_here", "_law_book", "_law_word_here", "_law_events"]
abbrev Ia:List Str:=rD.take 4
theorem nL:ah rD Ia (Zg Ib):=bA
abbrev yr:Stmt:=top 36
abbrev nv:List Str:=["_law_one", "_law_other", "_law_found"]
abbrev HZ:List Str:=nv.take 2
theorem nU:ah nv HZ (Zg yr):=bA
abbrev D4:Stmt:=top 37
abbrev kU:List Str:=["_law_book"]
abbrev Jc:List Str:=kU.take 1
theorem ly:ah kU Jc (Zg D4):=bA
abbrev Jb:Stmt:=top 38
abbrev oG:List Str:=["_law_box_here", "_law_size", "_law_near", "_law_far", "_law_some", "_law_one", "_law_book", "_law_turn", "_law_hand", "_law_deed_here", "_law_other", "_law_news", "_law_found", "_law_due"]
abbrev Ja:List Str:=oG.take 1
theorem lu:ah oG Ja (Zg Jb):=bA
abbrev gx:Stmt:=top 39
abbrev rH:List Str:=["_law_script", "_law_cells"]
abbrev lZ:List Str:=rH.take 1
theorem p9:ah rH lZ (Zg gx):=bA
structure Txt (K:W.Frag) (mg:Str->Option Value):Prop where
 C9:mg "abs" = none
 C8:mg "all" = none
 De:mg "bool" = none
 Gw:mg "divmod" = none
 GA:mg "enumerate" = none
 yg:mg "int" = none
 pN:mg "isinstance" = none
 sC:mg "len" = none
 pX:mg "list" = none
 C7:mg "max" = none
 GD:mg "min" = none
 oR:mg "range" = none
 vA:mg "sorted" = none
 Am:mg "str" = none
 Ar:mg "tuple" = none
 Dh:mg "zip" = none
 oJ:∃ t,mg "FAR" = some (.int 2 t)
 Df:∃ a,mg "HANDS" = some (.ref a)/\∀ H,aZ K H a (([0,1]:List Int).map V.int)
 fZ:mD K (aa K "Room")
 Mf:aP K (aa K "Room") "places"
 Gz:aP K (aa K "Room") "rule"
 Mg:aP K (aa K "Room") "shelves"
 Mh:aP K (aa K "Room") "standing"
 vB:aP K (aa K "Room") "uses"
 eG:mD K (aa K "Store")
 xY:aP K (aa K "Store") "fresh"
 yP:aP K (aa K "Store") "held"
 E1:aP K (aa K "Store") "late"
 uD:aP K (aa K "Store") "room"
 qj:mD K (aa K "Memory")
 yQ:aP K (aa K "Memory") "kept"
 E5:aP K (aa K "Memory") "size"
 aO:mD K (aa K "Beside")
 Ct:aP K (aa K "Beside") "bottom"
 vI:aP K (aa K "Beside") "events"
 sM:aP K (aa K "Beside") "last"
 vL:aP K (aa K "Beside") "size"
 lA:aP K (aa K "Beside") "stores"
structure aE (H:Hp) (b:Addr) (a q c:Int):Prop where
 at':H b=some (.lst [.int a,.int q,.int c])
 a0:0<=a
 q0:0<=q
 q1:q<2147483647
 c0:0<=c
theorem aE.sb {H H':Hp} {b x:Addr} {a q c:Int} (B:aE H b a q c) (s:SB x H H') (n:b≠x):aE H' b a q c:=⟨s _ _ n B.at',B.a0,B.q0,B.q1,B.c0⟩
theorem aE.same {H H':Hp} {b:Addr} {a q c:Int} (B:aE H b a q c) (s:aB H H'):aE H' b a q c:=⟨s _ _ B.at',B.a0,B.q0,B.q1,B.c0⟩
def u9:Sp:=λvs H Q _=>∃ (b:Addr) (a q c n:Int),vs=[.ref b,.int n]/\aE H b a q c/\c<1099511627776/\0<n/\n<1073741824 /\
 ∀ (r a' c':Int) (H':Hp),0<=r->r<n->aE H' b a' q c'->c'<=c+1->SB b H H'->Q (.int r) H'
section
theorem wL (a:Int) {b:Int} (h:0<b):0<=a % b:=aA2 a (by lia)
theorem rV (a:Int) {b:Int} (h:0<b):a % b<b:=aUu a h
theorem Ww (F:aY K "_law_take" "_law_take" Iq f fd) (T:Txt K mg):au P w K mg base aW 1 f fd tS u9:=by
 refine F.ok nM (λvs H Q E h=>?_) (λcdv A outer s H vs Q E hr h=>?_)
 .obtain ⟨b,a,q,c,n,rfl,_⟩:=h
  rfl
 obtain ⟨b,a,q,c,n,rfl,B,hc,hn0,hn1,k⟩:=h
 have nd:=nM.nd
 refine ⟨_,(Ze (aJ (ZD zP (av (Zo (K:=K) rfl) (pv 0) Zj (λ_ _=>rfl)) Zj (Zz _)) (Ze (lY (Zs Zhr rfl T.Gw Zhw (pc (av (Zo (K:=K) rfl) (pv 0) Zj (λ_ _=>rfl)) (pc (pv 1) Zb))) (mz (K:=K) (n:=2) rfl rfl (Zr (wZ (pv 0) Zj xu) (Zr (ck 2 nd) ZY))))
   (Zi (Zt (pv 2)))) Zu)
   (Ze (lY (ak ZO (av (Zo (K:=K) rfl) (pv 0) Zj (λ_ _=>rfl)) Zj) (wZ (pv 0) Zj xu))
   (Ze (eB 3 nd (ak ZO Zj (ak o9 (av (Zo (K:=K) rfl) (pv 0) Zj (λ_ _=>rfl)) (av (Zo (K:=K) rfl) (pv 0) Zj (λ_ _=>rfl)))))
   (Ze (eB 4 nd (ak o8 (ak o9 (ak ZO (av (Zo (K:=K) rfl) (pv 0) Zj (λ_ _=>rfl)) (ak o9 Zj (av (Zo (K:=K) rfl) (pv 0) Zj (λ_ _=>rfl)))) (pv 3)) Zj))
   (Ze (eB 5 nd (ak o8 (ak ZO (ak o9 (pv 4) (ak ZO (ak o8 (pv 4) Zj) Zj)) (av (Zo (K:=K) rfl) (pv 0) Zj (λ_ _=>rfl))) Zj))
   (Zi (Zt (ak o8 (ak yz (ak o8 (ak o9 (pv 5) (ak ZO (ak o8 (pv 5) Zj) Zj)) Zj) Zj) (pv 1))))))))),?_⟩
 have hb:=B.at'
 have hc0:=B.c0
 have Mr:=B.q0
 have hq1:=B.q1
 refine ⟨_,rfl,b,_,_,_,rfl,rfl,aG.of hb,eS,_,_,rfl,rfl,_,rfl,?_⟩
 refine rj (λha=>?_) (λha=>?_)
 .refine ⟨_,rfl,b,_,_,_,rfl,rfl,aG.of hb,eS,_,rfl,_,_,rfl,⟨hn0,hn1⟩,λp hp=>?_⟩
  have UW:upd H p (.tup [.int (a / n),.int (a % n)]) b=some (.lst [.int a,.int q,.int c]):=by rw [Zc (Zd hb hp)]; exact hb
  refine ⟨p,_,rfl,aZ.of Za,rfl,_,_,rfl,⟨_,rfl,b,_,_,0,rfl,rfl,UW,rfl,?_⟩⟩
  refine ⟨_,_,rfl,rfl,_,rfl,?_⟩
  exact k _ (a / n) c _ (wL _ hn0) (rV _ hn0) ⟨Za,Int.ediv_nonneg B.a0 (by lia),Mr,hq1,hc0⟩ (by lia) ((Zf hp _).sb b |>.trans (yv b _ _))
 .refine ⟨_,rfl,b,_,_,_,rfl,rfl,aG.of hb,j5,_,_,rfl,rfl,_,rfl,b,_,_,2,rfl,rfl,hb,rfl,?_⟩
  have hb1:upd H b (.lst [.int a,.int q,.int (c+1)]) b=some (.lst [.int a,.int q,.int (c+1)]):=Za
  have i0:aG K (upd H b (.lst [.int a,.int q,.int (c+1)])) b [.int a,.int q,.int (c+1)]:=aG.of hb1
  refine ⟨_,rfl,b,_,_,_,rfl,rfl,i0,j5,_,rfl,b,_,_,_,rfl,rfl,i0,j5,_,_,rfl,rfl,.inl ⟨by lia,by lia⟩,_,_,rfl,rfl,?_⟩
  refine ⟨_,rfl,b,_,_,_,rfl,rfl,i0,iz,_,rfl,b,_,_,_,rfl,rfl,i0,j5,_,_,rfl,rfl,.inl ⟨by decide,by decide⟩,_,_,rfl,rfl,_,rfl,_,_,rfl,rfl,.inl ⟨by lia,by lia⟩,_,_,rfl,rfl,(by show (0:Int)<_; decide),?_⟩
  generalize Mu:(q+39373 * (c+1)) * (69621+(c+1) * (c+1)) % 2147483587=on
  have on0:0<=on:=by rw [← Mu]; exact wL _ (by decide)
  have on1:on<2147483587:=by rw [← Mu]; exact rV _ (by decide)
  refine ⟨_,rfl,_,rfl,_,_,rfl,rfl,(by show (0:Int)<_; decide),_,_,rfl,rfl,_,_,rfl,rfl,.inl ⟨by lia,by lia⟩,_,rfl,b,_,_,_,rfl,rfl,i0,j5,_,_,rfl,rfl,_,_,rfl,rfl,(by show (0:Int)<_; decide),?_⟩
  generalize htw:(on * (on % 30011+5)+(c+1)) % 2147483563=tw
  have tw0:0<=tw:=by rw [← htw]; exact wL _ (by decide)
  have tw1:tw<2147483563:=by rw [← htw]; exact rV _ (by decide)
  refine ⟨_,rfl,_,rfl,_,_,rfl,rfl,(by show (0:Int)<_; decide),_,_,rfl,rfl,_,_,rfl,rfl,.inl ⟨by lia,by lia⟩,_,_,rfl,rfl,(by show (0:Int)<_; decide),_,_,rfl,rfl,⟨by decide,by decide⟩,_,rfl,_,_,rfl,rfl,hn0,?_⟩
  exact k _ a (c+1) _ (wL _ hn0) (rV _ hn0) ⟨hb1,B.a0,Mr,hq1,by lia⟩ (by lia) (yv b _ _)
end
section
def uv (K:W.Frag):Sp:=λvs H Q _=>∃ (l:Addr) (ns:List Int) (k:Int),vs=[.ref l,.int k]/\aG K H l (ns.map V.int)/\0<=k/\k<1000000 /\
 ∀ (r:Addr) (a q:Int) (H':Hp),H r=none->aB H H'->aE H' r a q 0->Q (.ref r) H'
theorem uM (b:Bool) : -(2 ^ 64)<(if b then 1 else 0:Int)/\(if b then 1 else 0:Int)<2 ^ 64:=by cases b <;> decide
theorem P4 {ns:List Int} {k:Int} (h0:0<=k) (h:k<(ns.length:Int)):∃ v:Int,gc (ns.map V.int) k=some (.int v):=by
 have hk:k.toNat<ns.length:=by lia
 have q:gc (ns.map V.int) ((k.toNat:Nat):Int)=some (.int ns[k.toNat]):=pq (by rw [aJm,aJu hk] <;> rfl)
 rw [show ((k.toNat:Nat):Int)=k by lia] at q
 exact ⟨_,q⟩
theorem Wk (i:Int):0<=(if i<0 then -i else i):=by split <;> lia
theorem Ol (i:Int) (b:Bool):0<=(if i<0 then -i else i) * (if b then 1 else 0:Int):=Int.mul_nonneg (Wk i) (by cases b <;> decide)
theorem Wj (F:aY K "_law_box" "_law_box" qf f fd) (T:Txt K mg):au P w K mg base aW 1 f fd rB (uv K):=by
 refine F.ok qc (λvs H Q E h=>?_) (λcdv A outer s H vs Q E hr h=>?_)
 .obtain ⟨l,ns,k,rfl,_⟩:=h
  rfl
 obtain ⟨l,ns,k,rfl,hS,hk0,hk1,kk⟩:=h
 have nd:=qc.nd
 refine ⟨_,(Ze (eB 2 nd (xw (ZD lC (pv 1) (Zs (ZI (K:=K) rfl) rfl T.sC a5u (pc (pv 0) Zb)) (Zz _)) (av (Zo (K:=K) rfl) (pv 0) (pv 1) (λ_ _=>rfl)) Zj))
   (Zi (Zt (m6 (pc (ak o9 (Zs PD rfl T.C9 Pp (pc (pv 2) Zb)) (vj JA rfl T.yg Ei (pc (pV zQ (Zs PD rfl T.C9 Pp (pc (pv 2) Zb)) (ak Iw Zj Zj) (Zz _)) Zb))) (pc (ak o8 (ak o9 (ak ZO (ak ZO (ak o8 (pv 2) Zj) (ak o9 Zj (pv 1))) Zj) Zj) Zj) (pc Zj Zb))))))),?_⟩
 refine ⟨_,rfl,_,rfl,l,_,rfl,.inl hS,_,_,rfl,rfl,_,rfl,?_⟩
 refine rj (λc=>?_) (λc=>?_)
 .rw [aUH] at c
  obtain ⟨v,hv⟩:=P4 hk0 c
  refine ⟨_,rfl,_,rfl,l,_,_,_,rfl,rfl,hS,hv,?_⟩
  refine ⟨_,rfl,_,rfl,_,rfl,_,rfl,_,_,rfl,rfl,⟨by decide,by decide,by decide⟩,_,_,rfl,rfl,.inr ⟨_,rfl,_,_,rfl,rfl,.inr (uM _),?_⟩⟩
  refine ⟨_,rfl,_,_,rfl,rfl,(by show (0:Int)<_; decide),_,rfl,_,_,rfl,rfl,.inl ⟨by decide,by decide⟩,_,_,rfl,rfl,_,_,rfl,rfl,_,_,rfl,rfl,.inr ⟨by decide,by decide⟩,_,_,rfl,rfl,(by show (0:Int)<_; decide),(sl 3),λr hr=>?_⟩
  exact kk r _ _ _ hr (Zf hr _) ⟨Za,Ol _ _,wL _ (by decide),rV _ (by decide),aZP _⟩
 .refine ⟨_,rfl,_,rfl,_,rfl,_,rfl,_,_,rfl,rfl,⟨by decide,by decide,by decide⟩,_,_,rfl,rfl,.inr ⟨_,rfl,_,_,rfl,rfl,.inr (uM _),?_⟩⟩
  refine ⟨_,rfl,_,_,rfl,rfl,(by show (0:Int)<_; decide),_,rfl,_,_,rfl,rfl,.inl ⟨by decide,by decide⟩,_,_,rfl,rfl,_,_,rfl,rfl,_,_,rfl,rfl,.inr ⟨by decide,by decide⟩,_,_,rfl,rfl,(by show (0:Int)<_; decide),(sl 3),λr hr=>?_⟩
  exact kk r _ _ _ hr (Zf hr _) ⟨Za,Ol _ _,wL _ (by decide),rV _ (by decide),aZP _⟩
def PZ (K:W.Frag):Sp:=λvs H Q _=>∃ (a:Addr) (ns:List Int) (n:Nat),vs=[.ref a,.int (n:Int)]/\aG K H a (ns.map V.int)/\ns.length<=63/\0<n/\n<=63 /\
 ∀ (r:Addr) (ms:List Int) (H':Hp),H r=none->aB H H'->H' r=some (.lst (ms.map V.int))->ms.length=min n ns.length->Q (.ref r) H'
theorem Oj (ns:List Int) (lo hi:Option Int):lP (ns.map V.int) lo hi=((ns.drop (HT.iY ns.length 0 lo)).take (HT.iY ns.length ns.length hi - HT.iY ns.length 0 lo)).map V.int:=by
 unfold lP
 rw [aUH,← List.map_drop,← List.map_take]
theorem Ea (ms:List Int) (j:Nat) (v:Int):(ms.map V.int).set j (.int v)=(ms.set j v).map V.int:=by rw [map_set]
theorem HU {n:Nat} {i:Int} (h0:0<=i) (h:i<n):pS n i=some i.toNat:=by unfold pS; rw [bb9 h0,bb9 h]
theorem Wi {ms:List Int} {i:Nat} {x:V} (h:(ms.map V.int)[i]?=some x):∃ z,x=V.int z/\i<ms.length:=by
 rw [aJm] at h
 cases e:ms[i]? with
 | none=>rw [e] at h; cases h
 | some z=>rw [e] at h; exact ⟨z,(a6S h).symm,(aK1.mp e).1⟩
theorem Yy (F:aY K "_law_folded" "_law_folded" Ju f fd) (T:Txt K mg):au P w K mg base aW 1 f fd Jt (PZ K):=by
 refine F.ok j9 (λvs H Q E h=>?_) (λcdv A outer s H vs Q E hr h=>?_)
 .obtain ⟨a,ns,n,rfl,_⟩:=h
  rfl
 obtain ⟨a,ns,n,rfl,hS,h63,hn0,hn1,k⟩:=h
 have nd:=j9.nd
 refine ⟨_,(Ze (eB 2 nd (vj (Eu (K:=K) rfl) rfl T.pX ZU (pc (Pz (Pn (K:=K) rfl) (pv 0) Xn (IG (pv 1))) Zb)))
   (Ze (rZ aaO rfl (WQ rfl T.GA (pc (Pz (Pn (K:=K) rfl) (pv 0) (IG (pv 1)) (IG Zj)) Zb)) (mz (K:=K) (n:=2) rfl rfl (Zr (ck 3 nd) (Zr (ck 4 nd) ZY))) (Zi (lY (ak ZO (av (Zo (K:=K) rfl) (pv 2) (ak o8 (pv 3) (pv 1)) (λ_ _=>rfl)) (ak o9 (pv 4) (ak ZO (pv 3) Zj))) (wZ (pv 2) (ak o8 (pv 3) (pv 1)) xu))))
   (Zi (Zt (pv 2))))),?_⟩
 refine ⟨_,rfl,_,rfl,_,rfl,a,_,rfl,hS,λp hp=>?_⟩
 have s1:=Zf hp (.lst (lP (ns.map V.int) none (some (n:Int))))
 refine ⟨p,_,rfl,.inl (aG.of Za),λr hr1=>?_⟩
 have s2:=s1.trans (Zf hr1 (.lst (lP (ns.map V.int) none (some (n:Int)))))
 have Mq:H r=none:=s1.free hr1
 rw [Oj] at *
 generalize hms:(ns.drop (HT.iY ns.length 0 none)).take (HT.iY ns.length ns.length (some (n:Int)) - HT.iY ns.length 0 none)=ms at *
 have Um:ms.length=min n ns.length:=by
  rw [← hms,HT.qg,HT.nX,aoM,a8K]; lia
 generalize U4:upd (upd H p (.lst (ms.map V.int))) r (.lst (ms.map V.int))=H2 at *
 have MJ:H2 r=some (.lst (ms.map V.int)):=by rw [← U4]; exact Za
 refine ⟨_,rfl,_,rfl,_,rfl,_,rfl,a,_,rfl,s2.seq hS,λt ht=>?_⟩
 rw [Oj]
 generalize hws:(ns.drop (HT.iY ns.length 0 (some (n:Int)))).take (HT.iY ns.length ns.length (some 63) - HT.iY ns.length 0 (some (n:Int)))=ws
 have qA:0<ws.length->n<ns.length:=λh=>by
  rw [← hws,aoM,a8K,HT.nX] at h; lia
 have Uj:ws.length<=63:=by rw [← hws,aoM,a8K]; lia
 have s3:=s2.trans (Zf ht (.lst (ws.map V.int)))
 have LU:r≠t:=Zd MJ ht
 refine ⟨t,rfl,⟨_,aG.of Za⟩,XH (K:=K) (a:=t) (xs:=ws.map V.int) (λi σ H'=>∃ (ms':List Int) (v3 v4:Option V),σ=[some (.ref a),some (.int n),some (.ref r),v3,v4]/\ms'.length=min n ns.length/\H' r=some (.lst (ms'.map V.int))/\H' t=some (.lst (ws.map V.int))/\aB H H')
  ⟨ms,none,none,rfl,Um,by rw [Zc LU]; exact MJ,Za,s3⟩ (λi σ H' _ ⟨_,_,_,_,_,_,q,_⟩=>aG.of q) ?_ ?_⟩
 .rintro i x u σ H' hi ⟨ms',v3,v4,rfl,lm,h1,h2,s4⟩ hu
  obtain ⟨z,rfl,hlt⟩:=Wi hi
  have hnl:=qA (by lia)
  have s5:=Zf hu (.tup [.int (i:Int),.int z])
  refine ⟨u,_,rfl,aZ.of Za,rfl,_,_,rfl,_,_,rfl,rfl,?_⟩
  have m0:0<=(i:Int) % (n:Int):=wL _ (by lia)
  have m1:(i:Int) % (n:Int)<(n:Int):=rV _ (by lia)
  obtain ⟨v,hv⟩:=P4 (ns:=ms') m0 (by lia)
  refine ⟨_,rfl,_,rfl,_,rfl,_,_,rfl,rfl,(by show (0:Int)<_; lia),r,_,_,_,rfl,rfl,aG.of (s5 _ _ h1),hv,?_⟩
  refine ⟨_,rfl,_,rfl,_,_,rfl,rfl,_,_,rfl,rfl,.inr ⟨by lia,by lia⟩,_,_,rfl,rfl,?_⟩
  refine ⟨_,rfl,_,rfl,_,rfl,_,_,rfl,rfl,(by show (0:Int)<_; lia),r,_,_,((i:Int) % (n:Int)).toNat,rfl,rfl,s5 _ _ h1,HU m0 (by rw [aUH]; lia),?_⟩
  refine ⟨ms'.set ((i:Int) % (n:Int)).toNat (v+z * ((i:Int)+2)),_,_,rfl,by rw [aZE]; exact lm,by rw [Za,Ea],?_,?_⟩
  .rw [Zc (aI4 LU)]; exact s5 _ _ h2
  .intro b o e
   rw [Zc (Zd e Mq)]
   exact s5 _ _ (s4 _ _ e)
 .rintro σ H' ⟨ms',v3,v4,rfl,lm,h1,h2,s4⟩
  exact ⟨_,rfl,k r ms' H' Mq s4 h1 lm⟩
end
theorem hide {t u:TS} {D:Ends} {σ:St} {H:Hp} (h:∀ u',u'=u->p7 t u' D σ H):p7 t u D σ H:=h u rfl
theorem Du {te:TE} {g:TG} {u:TS} {D:Ends} {σ:St} {H:Hp} (Post:V->Hp->Prop) (h1:∀ Q':VK,(∀ v H1,Post v H1->Q' v H1)->te σ H Q') (h2:∀ v H1,Post v H1->g v σ H1 (u D)):p7 (oO te g) u D σ H:=h1 _ h2
theorem wQ {ts u:TS} {D:Ends} {σ:St} {H:Hp} (Post:St->Hp->Prop) (h1:∀ D':Ends,D'.rt=D.rt->(∀ σ1 H1,Post σ1 H1->D'.nx σ1 H1)->ts D' σ H) (h2:∀ σ1 H1,Post σ1 H1->u D σ1 H1):p7 ts u D σ H:=h1 _ rfl h2
theorem A5 {tt:TT} {ta tb:TS} {D:Ends} {σ:St} {H:Hp} (Post:Bool->Hp->Prop) (h1:∀ Q':Bool->Hp->Prop,(∀ v H1,Post v H1->Q' v H1)->tt σ H Q') (h2:∀ c H1,Post c H1->if c=true then ta D σ H1 else tb D σ H1):zc tt ta tb D σ H:=h1 _ h2
theorem HD {t u:TT} {σ:St} {H:Hp} {Q:Bool->Hp->Prop} (Post:Bool->Hp->Prop) (h1:∀ Q':Bool->Hp->Prop,(∀ v H1,Post v H1->Q' v H1)->t σ H Q') (h2:∀ c H1,Post c H1->if c=true then Q true H1 else u σ H1 Q):LG t u σ H Q:=h1 _ h2
theorem D9 {b l:Addr} {H G:Hp} {xs:List V} (s:SB b H G) (hb:G b=some (.lst xs)) (hl:G l=none):H l=none:=by
 cases e:H l with
 | none=>rfl
 | some o =>
  by_cases h:l=b
  .rw [h,hb] at hl; cases hl
  .rw [s _ _ h e] at hl; cases hl
theorem Wh {ns:List Int} {k:Int} (h0:0<=k) (h:k<(ns.length:Int)):∃ v:Int,gc (ns.map V.int) k=some (.int v)/\v∈ns:=by
 have hk:k.toNat<ns.length:=by lia
 have q:gc (ns.map V.int) ((k.toNat:Nat):Int)=some (.int ns[k.toNat]):=pq (by rw [aJm,aJu hk] <;> rfl)
 rw [show ((k.toNat:Nat):Int)=k by lia] at q
 exact ⟨_,q,ai0 hk⟩
theorem QA (ns:List Int):(ns.map V.int).all iw=true:=by
 rw [aQO]
 intro x hx
 obtain ⟨n,_,rfl⟩:=auF.mp hx
 rfl
theorem Yg {n:Nat} (h:0<n):pS n (-1)=some (n - 1):=by
 unfold pS
 rw [aYW (by decide),bb9 (by lia)]
 congr 1
 lia
theorem I0 {ns:List Int} {j:Nat} {v x:Int} (h:x∈ns.set j v):x∈ns\/x=v:=by
 rcases a26 h with h | h
 .exact .inl h
 .exact .inr h
theorem Oi {i j:Int} {A B:Prop} (h1:i=j->A) (h2:¬ i=j->B):if decide (V.int i=V.int j)=true then A else B :=
 rj (λe=>h1 (by injection e)) (λe=>h2 λz=>e (by rw [z]))
theorem cT {b:Bool} {A B:Prop} (h:b=false) (hB:B):if b=true then A else B:=by subst h; rw [aYW aXI]; exact hB
theorem fq {b:Bool} {A B:Prop} (h:b=true) (hA:A):if b=true then A else B:=by subst h; rw [bb9 rfl]; exact hA
theorem Js {α:Type} {xs:List α} {i:Int} (h0:0<=i) (h1:i<(xs.length:Int)):∃ v,gc xs i=some v/\v∈xs:=by
 have hk:i.toNat<xs.length:=by lia
 have q:gc xs ((i.toNat:Nat):Int)=some xs[i.toNat]:=pq (aJu hk)
 rw [show ((i.toNat:Nat):Int)=i by lia] at q
 exact ⟨_,q,ai0 hk⟩
theorem Ni (x y:Int) (k:Bool):∃ n:Int,gc [V.int x,V.int y] (if k=true then 1 else 0)=some (.int n)/\(n=x\/n=y):=by
 cases k with
 | true=>exact ⟨y,iz,.inr rfl⟩
 | false=>exact ⟨x,eS,.inl rfl⟩
theorem zH (x y r:Int) (h0:0<=r) (h1:r<2):∃ n:Int,gc [V.int x,V.int y] r=some (.int n)/\(n=x\/n=y):=by
 have h:r=0\/r=1:=by lia
 rcases h with rfl | rfl
 .exact ⟨x,eS,.inl rfl⟩
 .exact ⟨y,iz,.inr rfl⟩
theorem Wg (r:Int) (h0:0<=r) (h1:r<4):∃ n:Int,gc [V.int 1,V.int 1,V.int 12,V.int 24] r=some (.int n)/\(n=1\/n=12\/n=24):=by
 obtain ⟨x,hx,m⟩:=Js (xs:=[V.int 1,V.int 1,V.int 12,V.int 24]) h0 (by show r<((4:Nat):Int); lia)
 simp only [atw,aha,aqQ] at m
 rcases m with rfl | rfl | rfl | rfl
 .exact ⟨_,hx,.inl rfl⟩
 .exact ⟨_,hx,.inl rfl⟩
 .exact ⟨_,hx,.inr (.inl rfl)⟩
 .exact ⟨_,hx,.inr (.inr rfl)⟩
theorem zG (r:Int) (h0:0<=r) (h1:r<5):∃ v,gc [V.int 1,V.int 1,V.int 2,V.int 3,V.int 4] r=some (.int v)/\1<=v/\v<=64:=by
 obtain ⟨x,hx,m⟩:=Js (xs:=[V.int 1,V.int 1,V.int 2,V.int 3,V.int 4]) h0 (by show r<((5:Nat):Int); lia)
 simp only [atw,aha,aqQ] at m
 rcases m with rfl | rfl | rfl | rfl | rfl <;> exact ⟨_,hx,by decide,by decide⟩
def rA (z:Str):Prop:=z = "old" \/ z = "come" \/ z = "few"
theorem zF (r:Int) (h0:0<=r) (h1:r<3):∃ z:Str,gc [V.str "old",V.str "come",V.str "few"] r=some (.str z)/\rA z:=by
 obtain ⟨x,hx,m⟩:=Js (xs:=[V.str "old",V.str "come",V.str "few"]) h0 (by show r<((3:Nat):Int); lia)
 simp only [atw,aha,aqQ] at m
 rcases m with rfl | rfl | rfl
 .exact ⟨_,hx,.inl rfl⟩
 .exact ⟨_,hx,.inr (.inl rfl)⟩
 .exact ⟨_,hx,.inr (.inr rfl)⟩
theorem Yx {s:Int} (h0:1<=s) (h1:s<=16):555<=9999 / s/\9999 / s<=9999/\1<=(if 10000 / s - 480 > 1 then 10000 / s - 480 else 1)/\(if 10000 / s - 480 > 1 then 10000 / s - 480 else 1)+455<=9999 / s:=by
 have key:∀ n:Fin 17,1<=(n.val:Int)->(555<=9999 / (n.val:Int)/\9999 / (n.val:Int)<=9999/\1<=(if 10000 / (n.val:Int) - 480 > 1 then 10000 / (n.val:Int) - 480 else 1)/\(if 10000 / (n.val:Int) - 480 > 1 then 10000 / (n.val:Int) - 480 else 1)+455<=9999 / (n.val:Int)):=by decide +kernel
 have e:((⟨s.toNat,by lia⟩:Fin 17).val:Int)=s:=by show ((s.toNat:Nat):Int)=s; lia
 have q:=key ⟨s.toNat,by lia⟩ (by rw [e]; exact h0)
 rw [e] at q
 exact q
def EF (t:Int) (ns:List Int):Prop:=∀ n∈ns,0<=n/\n<=t
def Ln (t:Int) (ns:List Int):Prop:=∃ x∈ns,x+1<=t
theorem Nh {ns:List Int} {k:Int} (h0:0<=k) (h:k<(ns.length:Int)):∃ v:Int,gc (ns.map V.int) k=some (.int v)/\ns[k.toNat]?=some v:=by
 have hk:k.toNat<ns.length:=by lia
 have q:gc (ns.map V.int) ((k.toNat:Nat):Int)=some (.int ns[k.toNat]):=pq (by rw [aJm,aJu hk] <;> rfl)
 rw [show ((k.toNat:Nat):Int)=k by lia] at q
 exact ⟨_,q,aJu hk⟩
theorem Ye {ns:List Int} {i j:Nat} {x1 x2 x:Int} (h1:ns[j]?=some x1) (h2:ns[i]?=some x2) (h:x∈ns):x∈(ns.set i x1).set j x2:=by
 obtain ⟨p,hp⟩:=aks h
 have li:=(aK1.mp h2).1
 have lj:=(aK1.mp h1).1
 by_cases e:p=i
 .subst e
  rw [h2] at hp; cases hp
  exact axK (bb6 (i:=j) (by rw [aZE]; exact lj))
 .by_cases e':p=j
  .subst e'
   rw [h1] at hp; cases hp
   refine axK (i:=i) ?_
   rw [aP2 e,bb6 li]
  .refine axK (i:=p) ?_
   rw [aP2 (λz=>e' z.symm),aP2 (λz=>e z.symm)]
   exact hp
section
def PY:Sp:=λvs H Q _=>∃ (b:Addr) (a q c s:Int),vs=[.ref b,.int s]/\aE H b a q c/\c<500000000/\1<=s/\s<=16 /\
 ∀ (l:Addr) (ns:List Int) (a' c':Int) (H':Hp),H l=none->H' l=some (.lst (ns.map V.int))->3<=ns.length->ns.length<=20->EF (9999 / s) ns->Ln (9999 / s) ns->aE H' b a' q c'->c'<=c+40->SB b H H'->Q (.ref l) H'
theorem ZeY (F:aY K "_law_some_boards" "_law_some_boards" Es f fd) (T:Txt K mg) (dG:Def P w K mg base "_law_take" 1 tS u9):au P w K mg base aW 2 f fd JY PY:=by
 refine F.ok fH (λvs H Q E h=>?_) (λcdv A outer st H vs Q E hr h=>?_)
 .obtain ⟨b,a,q,c,s,rfl,_⟩:=h
  rfl
 obtain ⟨b,a,q,c,s,rfl,B,hc,hs0,hs1,k⟩:=h
 have nd:=fH.nd
 obtain ⟨SM,SK,m0,m1⟩:=Yx hs0 hs1
 refine ⟨_,(Ze (eB 2 nd (ak ZO Zj (Zm dG hr.m rfl (pc (pv 0) (pc (av (Zo (K:=K) rfl) (m6 (pc Zj (pc Zj Zb))) (vj JA rfl T.yg Ei (pc (pV bB (Zm dG hr.m rfl (pc (pv 0) (pc Zj Zb))) Zj (Zz _)) Zb)) (λ_ _=>rfl)) Zb)))))
   (Ze (lY (j6 (pc (Zm dG hr.m rfl (pc (pv 0) (pc Zj Zb))) (pc (Zm dG hr.m rfl (pc (pv 0) (pc Zj Zb))) Zb))) (mz (K:=K) (n:=2) rfl rfl (Zr (ck 3 nd) (Zr (ck 4 nd) ZY))))
   (Ze (eB 5 nd (xw (ZD lC (pv 4) Zj (Zz _)) (pv 4) (Zm dG hr.m rfl (pc (pv 0) (pc (av (Zo (K:=K) rfl) (m6 (pc Zj (pc (Zs (Qy rfl) rfl T.C7 Pq (pc Zj (pc (ak ve (ak yz Zj (pv 1)) Zj) Zb))) Zb))) (ak ve (pv 4) Zj) (λ_ _=>rfl)) Zb)))))
   (Ze (Px 6 (sj (gy:=(Zg Es)) (oN:=dH) (N:=["_law_k", "_law_first", "_law_way"]) (own:=1) (js:=[5,3]) (by decide +kernel) rfl rfl) rfl nd rfl rfl (sr rfl T.oR (pc (pv 2) Zb)) (λ_ _ _ _ _ _=>(ck 0 (show List.Nodup (["_law_k", "_law_first", "_law_way"]:List Str) by decide +kernel))) (λ_ _ _ _ _ _=>(ak ZO (pv 1) (ak o9 (av (Zo (K:=K) rfl) (m6 (pc Zj (pc Zj (pc Zj (pc Zj Zb))))) (pv 2) (λ_ _=>rfl)) (pv 0)))))
   (Ze (eB 7 nd (xw (ZD bB (Zm dG hr.m rfl (pc (pv 0) (pc Zj Zb))) Zj (Zz _)) (ak yz Zj (pv 1)) (Zm dG hr.m rfl (pc (pv 0) (pc (ak ZO Zj (ak yz Zj (pv 1))) Zb)))))
   (Ze (aJ (PW.pt (pw_or (PW.pt (N6 (ZD bB (pv 3) Zj (Zz _)) (Pf (ZD (QV (K:=K) rfl) (pv 7) (pv 6) rfl)))) (DC (PW.pt (N6 (ZD bB (pv 7) (ak yz Zj (pv 1)) (Zz _)) (Pf (ZD (QV (K:=K) rfl) (pv 7) (pv 6) rfl))))))) (Zi (lY (pv 7) (wZ (pv 6) (uG NK Zj) xu))) Zu)
   (Ze (rZ aaO rfl (sr rfl T.oR (pc (ak ve (pv 2) Zj) Zb)) (ck 8 nd) (Ze (eB 9 nd (ak ZO (pv 8) (Zm dG hr.m rfl (pc (pv 0) (pc (ak ve (pv 2) (pv 8)) Zb)))))
   (Zi (lY (j6 (pc (av (Zo (K:=K) rfl) (pv 6) (pv 9) (λ_ _=>rfl)) (pc (av (Zo (K:=K) rfl) (pv 6) (pv 8) (λ_ _=>rfl)) Zb))) (mz (K:=K) (n:=2) rfl rfl (Zr (wZ (pv 6) (pv 8) xu) (Zr (wZ (pv 6) (pv 9) xu) ZY)))))))
   (Zi (Zt (pv 6)))))))))),?_⟩
 generalize hm:(if 10000 / s - 480 > 1 then 10000 / s - 480 else 1)=m at m0 m1
 generalize ht:(9999:Int) / s=top at *
 refine hide λuu ee=>?_
 refine ⟨_,rfl,(sl 2),λp1 hp1=>⟨_,rfl,b,a,q,c,6,rfl,B.same (Zf hp1 _),by lia,by decide,by decide,λr1 a1 c1 H1 uC xR B1 hc1 s1=>⟨rfl,.inr ⟨_,rfl,?_⟩⟩⟩⟩
 have q1:b≠p1:=Zd B.at' hp1
 obtain ⟨n,hn,hn'⟩:=Ni 5 18 (decide (V.int r1=V.int 0))
 refine ⟨p1,_,_,_,rfl,rfl,aG.of (s1 _ _ (aI4 q1) Za),hn,b,a1,q,c1,n,rfl,B1,by lia,by lia,by lia,λr2 a2 c2 H2 rO qi B2 hc2 s2=>⟨_,_,rfl,rfl,?_⟩⟩
 have Uh:3<=3+r2:=by lia
 have Ug:3+r2<=20:=by lia
 have u2:SB b H H2:=(((Zf hp1 _).sb b).trans s1).trans s2
 dsimp only [fP]
 subst ee
 try dsimp only
 refine hide λuu ee=>?_
 refine ⟨_,rfl,b,a2,q,c2,4,rfl,B2,by lia,by decide,by decide,λr3 a3 c3 H3 vH uB B3 hc3 s3=>?_⟩
 refine ⟨_,rfl,b,a3,q,c3,4,rfl,B3,by lia,by decide,by decide,λr4 a4 c4 Rb zC CJ B4' hc4 s4=>⟨(sl 2),λp4 Ms=>⟨p4,_,rfl,aZ.of Za,rfl,_,_,rfl,_,_,rfl,rfl,?_⟩⟩⟩
 have B4:=B4'.same (Zf Ms (.tup [.int r3,.int r4]))
 have u4:SB b H (upd Rb p4 (.tup [.int r3,.int r4])):=((u2.trans s3).trans s4).trans ((Zf Ms _).sb b)
 generalize upd Rb p4 (.tup [.int r3,.int r4])=H4 at *
 subst ee
 try dsimp only
 refine Du (λv G=>∃ z a' c',v=.int z/\0<=z/\z+456<=top/\aE G b a' q c'/\c'<=c4+1/\SB b H G) (λQ' k'=>?_) ?_
 .refine ⟨_,rfl,_,_,rfl,rfl,_,rfl,rj (λVr=>⟨_,rfl,k' _ _ ⟨_,a4,c4,rfl,zC,by lia,B4,by lia,u4⟩⟩) (λVr=>?_)⟩
  refine ⟨_,rfl,_,rfl,_,_,rfl,rfl,⟨by lia,by lia⟩,_,_,rfl,rfl,_,_,rfl,(sl 2),λp2 hp2=>?_⟩
  have q2:b≠p2:=Zd B4.at' hp2
  rw [hm]
  obtain ⟨n2,hn2,UJ⟩:=zH 100 m (r4 - 2) (by lia) (by lia)
  refine ⟨_,rfl,_,_,rfl,rfl,p2,_,_,_,rfl,rfl,aG.of Za,hn2,b,a4,q,c4,n2,rfl,B4.same (Zf hp2 _),by lia,by lia,by lia,λr5 a5 c5 H5 FH LL B5 hc5 s5=>?_⟩
  exact k' _ _ ⟨r5,a5,c5,rfl,FH,by lia,B5,by lia,u4.trans (((Zf hp2 _).sb b).trans s5)⟩
 rintro _ H5 ⟨z,a5,c5,rfl,z0,z1,B5,hc5,u5⟩
 dsimp only [fP]
 refine hide λuu ee=>?_
 refine ⟨_,rfl,_,rfl,by lia,by lia,λl hl=>?_⟩
 have wz:H l=none:=D9 u5 B5.at' hl
 have jQ:l≠b:=aI4 (Zd B5.at' hl)
 have hmn:(3+r2).toNat<=20:=by lia
 refine yI (lo:=0) (n:=(3+r2).toNat) (l:=l) (λj ys σ G=>∃ (v0:Option V) (ns:List Int),σ=[v0,some (.int z),some (.int r3)]/\ys=ns.map V.int/\ns.length=j/\(EF top ns/\(0<j->ns[0]?=some z))/\G l=some (.lst ys)/\aB H5 G)
  ⟨none,[],rfl,rfl,rfl,⟨λn hn=>(nomatch hn),λz=>absurd z (aXl 0)⟩,Za,Zf hl _⟩ ?_ ?_
 .rintro j ys σ G hj hy ⟨v0,ns,rfl,rfl,hj',⟨hb',hz'⟩,h1,h2⟩
  refine ⟨_,rfl,(sl 4),λp hp=>?_⟩
  obtain ⟨n4,UI,GX⟩:=Wg r3 vH uB
  have np:l≠p:=Zd h1 hp
  have Ux:(j:Int)<=19:=by lia
  refine ⟨_,rfl,p,_,_,_,rfl,rfl,aG.of Za,UI,_,rfl,_,_,rfl,rfl,.inl ⟨by lia,by lia⟩,_,_,rfl,rfl,kW.of (auj hmn (by decide)) hj hy (by rw [Zc np]; exact h1) ⟨_,ns++[z+n4 * (0+(j:Int))],rfl,by rw [aIO]; rfl,by rw [aAe,hj']; rfl,⟨λx hx=>?_,λ_=>?_⟩,Za,λe o y=>?_⟩⟩
  .rcases ais.mp hx with h | h
   .exact hb' x h
   .have ex:x=z+n4 * (0+(j:Int)):=by simpa using h
    subst ex
    rcases GX with rfl | rfl | rfl
    .exact ⟨by lia,by lia⟩
    .exact ⟨by lia,by lia⟩
    .exact ⟨by lia,by lia⟩
  .by_cases j0:j=0
   .have:ns=[]:=aC1 (by lia)
    rw [this,j0]
    show some (z+n4 * (0+((0:Nat):Int)))=some z
    rw [show (0:Int)+((0:Nat):Int)=0 by lia,Int.mul_zero,Int.add_zero]
   .rw [aOW (by lia)]
    exact hz' (by lia)
  .rw [Zc (Zd y hl)]
   exact Zf hp _ _ _ (h2 _ _ y)
 rintro ys σ G hy ⟨v0,ns,rfl,rfl,hj',⟨hb',hz'⟩,h1,h2⟩
 have B6:=B5.same h2
 have u6:SB b H G:=u5.trans (h2.sb b)
 have kO:3<=ns.length:=by lia
 have Ul:ns.length<=20:=by lia
 have hz0:ns[0]?=some z:=hz' (by lia)
 dsimp only [fP]
 subst ee
 try dsimp only
 refine Du (λv G'=>∃ z a' c',v=.int z/\0<=z/\z<=top/\aE G' b a' q c'/\c'<=c5+2/\SB b G G') (λQ' k'=>?_) ?_
 .refine ⟨_,rfl,b,a5,q,c5,5,rfl,B6,by lia,by decide,by decide,λr7 a7 c7 H7 r70 r71 B7 UU s7=>⟨rfl,_,rfl,rj (λ_=>?_) (λ_=>?_)⟩⟩
  .refine ⟨_,rfl,_,_,rfl,rfl,⟨by lia,by lia⟩,?_⟩
   exact k' _ _ ⟨_,a7,c7,rfl,by rw [ht]; lia,by rw [ht]; lia,B7,by lia,s7⟩
  .refine ⟨_,rfl,_,rfl,_,_,rfl,rfl,⟨by lia,by lia⟩,_,_,rfl,rfl,b,a7,q,c7,_,rfl,B7,by lia,by rw [ht]; lia,by rw [ht]; lia,λr8 a8 c8 H8 Te Td B8 hc8 s8=>?_⟩
   exact k' _ _ ⟨_,a8,c8,rfl,Te,by rw [ht] at Td; lia,B8,by lia,s7.trans s8⟩
 rintro _ H7 ⟨fr,a7,c7,rfl,Va,wI,B7,UU,s7⟩
 have h7:=s7 _ _ jQ h1
 have u7:SB b H H7:=u6.trans s7
 refine wQ (λσ G'=>∃ ns':List Int,σ=[some (.ref b),some (.int s),some (.int (3+r2)),some (.int r3),some (.int r4),some (.int z),some (.ref l),some (.int fr),none,none]/\G' l=some (.lst (ns'.map V.int))/\ns'.length=ns.length/\(EF top ns'/\Ln top ns')/\aE G' b a7 q c7/\SB b H G') (λD' _ k'=>?_) ?_
 .refine A5 (λ_ G'=>G'=H7) (λQ' k''=>?_) ?_
  .refine HD (λ_ G'=>G'=H7) (λQ'' k3=>?_) ?_
   .exact ⟨_,rfl,rfl,_,rfl,rj (λ_=>⟨_,rfl,_,rfl,l,_,rfl,.inl (aG.of h7),rfl,QA _,_,rfl,k3 _ _ rfl⟩) (λ_=>k3 _ _ rfl)⟩
   .rintro cb _ rfl
    cases cb with
    | true=>exact fq rfl (k'' _ _ rfl)
    | false=>exact cT rfl ⟨_,rfl,_,rfl,_,_,rfl,rfl,⟨by lia,by lia⟩,rfl,_,rfl,rj (λ_=>⟨_,rfl,_,rfl,l,_,rfl,.inl (aG.of h7),rfl,QA _,_,rfl,k'' _ _ rfl⟩) (λ_=>k'' _ _ rfl)⟩
  .rintro cb _ rfl
   cases cb with
   | false=>exact cT rfl (k' _ _ ⟨ns,rfl,h7,rfl,⟨hb',z,axK hz0,by lia⟩,B7,u7⟩)
   | true =>
    refine fq rfl ⟨_,rfl,_,rfl,_,rfl,l,_,_,_,rfl,rfl,h7,Yg (by rw [aUH]; lia),k' _ _ ⟨ns.set (ns.length - 1) fr,rfl,?_,aZE,⟨λx hx=>?_,z,?_,by lia⟩,B7.sb (yv l _ _) (aI4 jQ),λe o n' y=>?_⟩⟩
    .rw [Za,aUH,Ea]
    .rcases I0 hx with h | h
     .exact hb' x h
     .subst h; exact ⟨Va,wI⟩
    .refine axK (i:=0) ?_
     rw [aP2 (by lia)]
     exact hz0
    .rw [Zc (Zd y wz)]; exact u7 _ _ n' y
 rintro _ H8 ⟨TN,rfl,h8,l8,b8,B8,u8⟩
 refine ⟨_,rfl,_,_,rfl,rfl,_,rfl,by lia,by lia,Ek (lo:=0) (n:=(3+r2 - 1).toNat) (λj σ G'=>∃ (ns':List Int) (v8 v9:Option V) (a' c':Int),σ=[some (.ref b),some (.int s),some (.int (3+r2)),some (.int r3),some (.int r4),some (.int z),some (.ref l),some (.int fr),v8,v9]/\G' l=some (.lst (ns'.map V.int))/\ns'.length=ns.length/\(EF top ns'/\Ln top ns')/\aE G' b a' q c'/\c'<=c7+(j:Int)/\SB b H G')
  ⟨TN,_,_,a7,c7,rfl,h8,l8,b8,B8,by lia,u8⟩ ?_ ?_⟩
 .rintro j σ G' hj ⟨ns',v8,v9,a',c',rfl,rS,l',⟨b',lo'⟩,B',hc',u'⟩
  have Ux:(j:Int)<=18:=by lia
  have jl:(j:Int)+1<3+r2:=by lia
  refine ⟨_,rfl,_,rfl,_,rfl,_,rfl,_,_,rfl,rfl,b,a',q,c',_,rfl,B',by lia,by lia,by lia,λr9 a9 c9 H9 r90 r91 B9 hc9 s9=>⟨_,_,rfl,rfl,?_⟩⟩
  have h9:=s9 _ _ jQ rS
  obtain ⟨x1,Mn,ML⟩:=Nh (ns:=ns') (k:=0+(j:Int)+r9) (by lia) (by lia)
  have Ue:=axK ML
  obtain ⟨x2,GS,MK⟩:=Nh (ns:=ns') (k:=0+(j:Int)) (by lia) (by lia)
  have Ud:=axK MK
  refine ⟨_,rfl,_,rfl,l,_,_,_,rfl,rfl,aG.of h9,Mn,_,rfl,_,rfl,l,_,_,_,rfl,rfl,aG.of h9,GS,(sl 2),λt ht'=>?_⟩
  have T4:l≠t:=Zd h9 ht'
  refine ⟨t,_,rfl,aZ.of Za,rfl,_,_,rfl,_,rfl,_,rfl,l,_,_,_,rfl,rfl,(by rw [Zc T4]; exact h9),HU (by lia) (by rw [aUH]; lia),?_⟩
  refine ⟨_,_,rfl,_,rfl,_,rfl,l,_,_,_,rfl,rfl,Za,HU (by lia) (by rw [aZE,aUH]; lia),rfl,?_⟩
  refine ⟨(ns'.set (0+(j:Int)).toNat x1).set (0+(j:Int)+r9).toNat x2,_,_,a9,c9,rfl,by rw [Za,Ea,Ea],by rw [aZE,aZE]; exact l',⟨λx hx=>?_,(by obtain ⟨x,m,q⟩:=lo'; exact ⟨x,Ye ML MK m,q⟩)⟩,?_,by lia,λe o n' y=>?_⟩
  .rcases I0 hx with h | h
   .rcases I0 h with h | h
    .exact b' x h
    .subst h; exact b' _ Ue
   .subst h; exact b' _ Ud
  .exact ((B9.same (Zf ht' _)).sb (yv l _ _) (aI4 jQ)).sb (yv l _ _) (aI4 jQ)
  .have ne:e≠l:=Zd y wz
   rw [Zc ne,Zc ne]
   exact Zf ht' _ _ _ (s9 _ _ n' (u' _ _ n' y))
 .rintro σ G' ⟨ns',v8,v9,a',c',rfl,rS,l',⟨b',lo'⟩,B',hc',u'⟩
  exact ⟨_,rfl,k l ns' a' c' G' wz rS (by lia) (by lia) b' lo' B' (by lia) u'⟩
end
def Sc:V->Prop
 | .int _=>True
 | .bl _=>True
 | .aR=>True
 | .str _=>True
 | _=>False
def Eqv:Nat->Hp->V->V->Prop
 | 0,_,x,y=>x=y/\Sc x
 | n+1,H,x,y=>(x=y/\Sc x)\/∃ (a b:Addr) (xs ys:List V),x=.ref a/\y=.ref b/\((H a=some (.lst xs)/\H b=some (.lst ys))\/(H a=some (.tup xs)/\H b=some (.tup ys)))/\xs.length=ys.length/\xs.length<=1000/\∀ (i:Nat) (u v:V),xs[i]?=some u->ys[i]?=some v->Eqv n H u v
theorem Eqv.same:∀ {n:Nat} {H H':Hp} {x y:V},Eqv n H x y->aB H H'->Eqv n H' x y
 | 0,_,_,_,_,h,_=>h
 | n+1,H,H',x,y,h,s=>by
  rcases h with h | ⟨a,b,xs,ys,h1,h2,h3,h5,h6,h7⟩
  .exact .inl h
  .refine .inr ⟨a,b,xs,ys,h1,h2,?_,h5,h6,λi u v e1 e2=>(h7 i u v e1 e2).same s⟩
   rcases h3 with ⟨h3,h4⟩ | ⟨h3,h4⟩
   .exact .inl ⟨s _ _ h3,s _ _ h4⟩
   .exact .inr ⟨s _ _ h3,s _ _ h4⟩
theorem Eqv.flat {H:Hp} {a b:Addr} {xs:List V} (ha:H a=some (.lst xs)) (hb:H b=some (.lst xs)) (hl:xs.length<=1000) (hs:∀ x∈xs,Sc x):Eqv 1 H (.ref a) (.ref b) :=
 .inr ⟨a,b,xs,xs,rfl,rfl,.inl ⟨ha,hb⟩,rfl,hl,λi u v e1 e2=>by rw [e1] at e2; cases e2; exact ⟨rfl,hs u (axK e1)⟩⟩
def yE (n:Nat):Sp:=λvs H Q _=>∃ x y,vs=[x,y]/\Eqv n H x y/\∀ H',aB H H'->Q (.bl true) H'
theorem Eqv.sc {H:Hp} {x:V} (h:Sc x):∀ n,Eqv n H x x
 | 0=>⟨rfl,h⟩
 | _+1=>.inl ⟨rfl,h⟩
theorem Eqv.wJ {H:Hp} {a b:Addr} {xs:List V} (n:Nat) (ha:H a=some (.tup xs)) (hb:H b=some (.tup xs)) (hl:xs.length<=1000) (hs:∀ x∈xs,Sc x):Eqv (n+1) H (.ref a) (.ref b) :=
 .inr ⟨a,b,xs,xs,rfl,rfl,.inr ⟨ha,hb⟩,rfl,hl,λi u v e1 e2=>by rw [e1] at e2; cases e2; exact Eqv.sc (hs u (axK e1)) n⟩
theorem Eqv.AQ {H:Hp} {a b:Addr} {xs:List V} (ha:H a=some (.tup xs)) (hb:H b=some (.tup xs)) (hl:xs.length<=1000) (hs:∀ x∈xs,Sc x):Eqv 1 H (.ref a) (.ref b) :=
 .inr ⟨a,b,xs,xs,rfl,rfl,.inr ⟨ha,hb⟩,rfl,hl,λi u v e1 e2=>by rw [e1] at e2; cases e2; exact ⟨rfl,hs u (axK e1)⟩⟩
theorem Cv {H:Hp} {a:Addr} {xs:List V} (h:H a=some (.tup xs)):rN H (.ref a)=some "tuple" := by simp only [rN,h]
theorem Cw {H:Hp} {a:Addr} {xs:List V} (h:H a=some (.lst xs)):rN H (.ref a)=some "list" := by simp only [rN,h]
section
theorem Oh {n:Nat} {LI:Sp} (oX:∀ m,n=m+1->LI=yE m) (F:aY K "_law_same" "_law_same" vc f fd) (T:Txt K mg) (mK:Def P w K mg base "_law_same" n rY LI):au P w K mg base aW (n+1) f fd rY (yE n):=by
 refine F.ok nQ (λvs H Q E h=>?_) (λcdv A outer st H vs Q E hr h=>?_)
 .obtain ⟨x,y,rfl,_⟩:=h
  rfl
 obtain ⟨x,y,rfl,h,k⟩:=h
 have nd:=nQ.nd
 refine ⟨_,(Ze (aJ (ZG (Zs Qs rfl T.pN su (pc (pv 1) (pc (j6 (pc (pW (v:=.ty "list") rfl T.pX ZU rfl) (pc (pW (v:=.ty "tuple") rfl T.Ar Kn rfl) Zb))) Zb)))) (Ze (aJ (PW.pt (pw_or (sd (ZG (Zs Qs rfl T.pN su (pc (pv 0) (pc (j6 (pc (pW (v:=.ty "list") rfl T.pX ZU rfl) (pc (pW (v:=.ty "tuple") rfl T.Ar Kn rfl) Zb))) Zb))))) (DC (ZD uH (Zs vg rfl T.pN su (pc (pv 0) (pc (pW (v:=.ty "list") rfl T.pX ZU rfl) Zb))) (Zs vg rfl T.pN su (pc (pv 1) (pc (pW (v:=.ty "list") rfl T.pX ZU rfl) Zb))) (Zz _))))) (Zi (Zt i7)) Zu)
   (Zi (Zt (Bm (pV bB (Zs (ZI (K:=K) rfl) rfl T.sC a5u (pc (pv 0) Zb)) (Zs (ZI (K:=K) rfl) rfl T.sC a5u (pc (pv 1) Zb)) (Zz _)) (Bo (Zs (Qp rfl) rfl T.C8 Pu (pc (vh (sj (gy:=(Zg vc)) (oN:=ni) (N:=["_law_one", "_law_other"]) (own:=2) (js:=[]) (by decide +kernel) rfl rfl) rfl (WL rfl T.Dh (pc (pv 0) (pc (pv 1) Zb))) (λ_ _ _ _ _ _=>(mz (K:=K) (n:=2) rfl rfl (Zr (ck 0 (show List.Nodup (["_law_one", "_law_other"]:List Str) by decide +kernel)) (Zr (ck 1 (show List.Nodup (["_law_one", "_law_other"]:List Str) by decide +kernel)) ZY)))) (λ_ _ _ _ _ _=>(Zm mK hr.m rfl (pc (pv 0) (pc (pv 1) Zb))))) Zb))))))) Zu)
   (Ze (aJ (PW.pt (pw_or (DE (WU (pv 1))) (DC (ZG (Zs vg rfl T.pN su (pc (pv 1) (pc (pW (v:=.ty "str") rfl T.Am JF rfl) Zb))))))) (Zi (Zt (Bm (pV bB (pv 0) (pv 1) (Zz _)) (Bo (pV bB (Zs vg rfl T.pN su (pc (pv 0) (pc (pW (v:=.ty "str") rfl T.Am JF rfl) Zb))) (Zs vg rfl T.pN su (pc (pv 1) (pc (pW (v:=.ty "str") rfl T.Am JF rfl) Zb))) (Zz _)))))) Zu)
   (Zi (Zt (Bm (Zs vg rfl T.pN su (pc (pv 0) (pc (pW (v:=.ty "int") rfl T.yg Ei rfl) Zb))) (Bm (pV bB (Zs vg rfl T.pN su (pc (pv 0) (pc (pW (v:=.ty "bool") rfl T.De QM rfl) Zb))) (Zs vg rfl T.pN su (pc (pv 1) (pc (pW (v:=.ty "bool") rfl T.De QM rfl) Zb))) (Zz _)) (Bo (pV bB (pv 0) (pv 1) (Zz _))))))))),?_⟩
 have split:(x=y/\Sc x)\/∃ (m:Nat) (a b:Addr) (xs ys:List V),n=m+1/\x=.ref a/\y=.ref b/\((H a=some (.lst xs)/\H b=some (.lst ys))\/(H a=some (.tup xs)/\H b=some (.tup ys)))/\xs.length=ys.length/\xs.length<=1000/\∀ (i:Nat) (u v:V),xs[i]?=some u->ys[i]?=some v->Eqv m H u v:=by
  cases n with
  | zero=>exact .inl h
  | succ m =>
   rcases h with h | ⟨a,b,xs,ys,h1,h2,h3,h5,h6,h7⟩
   .exact .inl h
   .exact .inr ⟨m,a,b,xs,ys,rfl,h1,h2,h3,h5,h6,h7⟩
 rcases split with ⟨rfl,hs⟩ | ⟨m,a,b,xs,ys,rfl,rfl,rfl,⟨ha,hb⟩ | ⟨ha,hb⟩,hl,hlen,hi⟩
 .have key:∀ p,H p=none->∀ o,aB H (upd H p o):=λp hp o=>Zf hp o
  cases x with
  | int j =>
   refine ⟨_,rfl,(sl 2),λp hp=>⟨_,_,_,_,p,rfl,Za,rfl,by decide,by decide,_,rfl,cT (by decide) ?_⟩⟩
   refine ⟨_,rfl,_,rfl,cT (by simp) ⟨_,rfl,_,_,_,rfl,rfl,by decide,_,rfl,cT (by decide) ?_⟩⟩
   refine ⟨_,rfl,_,_,_,rfl,rfl,by decide,_,rfl,fq (by decide) ⟨_,rfl,_,_,_,rfl,rfl,by decide,_,rfl,_,_,_,rfl,rfl,by decide,rfl,_,rfl,fq (by decide) ⟨_,rfl,_,rfl,rfl,?_⟩⟩⟩
   rw [a6t rfl]
   exact k _ (key p hp _)
  | bl j =>
   refine ⟨_,rfl,(sl 2),λp hp=>⟨_,_,_,_,p,rfl,Za,rfl,by decide,by decide,_,rfl,cT (by decide) ?_⟩⟩
   refine ⟨_,rfl,_,rfl,cT (by simp) ⟨_,rfl,_,_,_,rfl,rfl,by decide,_,rfl,cT (by decide) ?_⟩⟩
   refine ⟨_,rfl,_,_,_,rfl,rfl,by decide,_,rfl,fq (by decide) ⟨_,rfl,_,_,_,rfl,rfl,by decide,_,rfl,_,_,_,rfl,rfl,by decide,rfl,_,rfl,fq (by decide) ⟨_,rfl,_,rfl,rfl,?_⟩⟩⟩
   rw [a6t rfl]
   exact k _ (key p hp _)
  | aR =>
   refine ⟨_,rfl,(sl 2),λp hp=>⟨_,_,_,_,p,rfl,Za,rfl,by decide,by decide,_,rfl,cT (by decide) ?_⟩⟩
   refine ⟨_,rfl,_,rfl,fq (by simp) (fq rfl ⟨_,rfl,_,rfl,rfl,_,rfl,fq (by decide) ⟨_,rfl,_,_,_,rfl,rfl,by decide,_,rfl,_,_,_,rfl,rfl,by decide,rfl,?_⟩⟩)⟩
   rw [a6t rfl]
   exact k _ (key p hp _)
  | str z =>
   refine ⟨_,rfl,(sl 2),λp hp=>⟨_,_,_,_,p,rfl,Za,rfl,by decide,by decide,_,rfl,cT (by decide) ?_⟩⟩
   refine ⟨_,rfl,_,rfl,cT (by simp) ⟨_,rfl,_,_,_,rfl,rfl,by decide,_,rfl,fq (by decide) ⟨_,rfl,_,rfl,rfl,_,rfl,fq (by simp) ⟨_,rfl,_,_,_,rfl,rfl,by decide,_,rfl,_,_,_,rfl,rfl,by decide,rfl,?_⟩⟩⟩⟩
   rw [a6t rfl]
   exact k _ (key p hp _)
  | _=>exact hs.elim
 .have he:=oX m rfl
  subst he
  refine ⟨_,rfl,(sl 2),λp hp=>?_⟩
  have s1:=Zf hp (.tup [.ty "list",.ty "tuple"])
  refine ⟨_,_,_,_,p,rfl,Za,Cw (s1 _ _ hb),by decide,by decide,_,rfl,fq (by decide) ?_⟩
  refine ⟨_,rfl,(sl 2),λp2 hp2=>?_⟩
  have s2:=s1.trans (Zf hp2 (.tup [.ty "list",.ty "tuple"]))
  refine ⟨_,_,_,_,p2,rfl,Za,Cw (s2 _ _ ha),by decide,by decide,_,rfl,cT (by decide) ?_⟩
  refine ⟨_,rfl,_,_,_,rfl,Cw (s2 _ _ ha),by decide,_,rfl,_,_,_,rfl,Cw (s2 _ _ hb),by decide,rfl,_,rfl,cT (by decide) ?_⟩
  refine ⟨_,rfl,a,_,rfl,.inl (aG.of (s2 _ _ ha)),_,rfl,b,_,rfl,.inl (aG.of (s2 _ _ hb)),rfl,_,rfl,?_⟩
  generalize upd (upd H p (.tup [.ty "list",.ty "tuple"])) p2 (.tup [.ty "list",.ty "tuple"])=H2 at *
  refine fq (by rw [hl]; simp) ?_
  refine ⟨_,rfl,_,rfl,a,b,rfl,.inl ⟨_,_,aG.of (s2 _ _ ha),aG.of (s2 _ _ hb),λl hl'=>?_⟩⟩
  have wz:H l=none:=s2.free hl'
  refine XI (K:=K) (a:=a) (b:=b) (xs:=xs) (zs:=ys) (l:=l) hl (λi zs σ H'=>∃ v0 v1:Option V,σ=[v0,v1]/\zs=(List.replicate i true).map V.bl/\H' l=some (.lst zs)/\aB H H')
   ⟨none,none,rfl,by simp,Za,s2.trans (Zf hl' _)⟩ (λi zs σ H' _ ⟨_,_,_,_,_,q⟩=>⟨aG.of (q _ _ ha),aG.of (q _ _ hb)⟩) ?_ ?_
  .rintro i x z t zs σ H' Hj hxi GO Az ⟨v0,v1,rfl,rfl,h1,s3⟩ ht
   have s4:=s3.trans (Zf ht (.tup [x,z]))
   have yd:l≠t:=Zd h1 ht
   refine ⟨t,_,rfl,aZ.of Za,rfl,_,_,rfl,_,_,rfl,rfl,?_⟩
   refine ⟨_,rfl,_,rfl,x,z,rfl,(hi i x z hxi GO).same s4,λH5 s5=>?_⟩
   refine kW.of (aS5 (ZE hlen)) Hj Az (s5 _ _ (by rw [Zc yd]; exact h1)) ⟨_,_,rfl,by rw [aUK,aIO]; rfl,Za,?_⟩
   intro c o e
   rw [Zc (Zd e wz)]
   exact s5 _ _ (s4 _ _ e)
  .rintro zs σ H' Az ⟨v0,v1,rfl,rfl,h1,s3⟩
   refine ⟨l,_,rfl,aG.of h1,?_⟩
   rw [show (List.replicate xs.length true).all id=true by rw [aQO]; intro z hz; rw [(aTX.mp hz).2]; rfl]
   exact k H' s3
 .have he:=oX m rfl
  subst he
  refine ⟨_,rfl,(sl 2),λp hp=>?_⟩
  have s1:=Zf hp (.tup [.ty "list",.ty "tuple"])
  refine ⟨_,_,_,_,p,rfl,Za,Cv (s1 _ _ hb),by decide,by decide,_,rfl,fq (by decide) ?_⟩
  refine ⟨_,rfl,(sl 2),λp2 hp2=>?_⟩
  have s2:=s1.trans (Zf hp2 (.tup [.ty "list",.ty "tuple"]))
  refine ⟨_,_,_,_,p2,rfl,Za,Cv (s2 _ _ ha),by decide,by decide,_,rfl,cT (by decide) ?_⟩
  refine ⟨_,rfl,_,_,_,rfl,Cv (s2 _ _ ha),by decide,_,rfl,_,_,_,rfl,Cv (s2 _ _ hb),by decide,rfl,_,rfl,cT (by decide) ?_⟩
  refine ⟨_,rfl,a,_,rfl,.inr (aZ.of (s2 _ _ ha)),_,rfl,b,_,rfl,.inr (aZ.of (s2 _ _ hb)),rfl,_,rfl,?_⟩
  generalize upd (upd H p (.tup [.ty "list",.ty "tuple"])) p2 (.tup [.ty "list",.ty "tuple"])=H2 at *
  refine fq (by rw [hl]; simp) ?_
  refine ⟨_,rfl,_,rfl,a,b,rfl,.inr ⟨_,_,aZ.of (s2 _ _ ha),aZ.of (s2 _ _ hb),λl hl'=>?_⟩⟩
  have wz:H l=none:=s2.free hl'
  refine YE (K:=K) (a:=a) (b:=b) (xs:=xs) (zs:=ys) (l:=l) hl (λi zs σ H'=>∃ v0 v1:Option V,σ=[v0,v1]/\zs=(List.replicate i true).map V.bl/\H' l=some (.lst zs)/\aB H H')
   ⟨none,none,rfl,by simp,Za,s2.trans (Zf hl' _)⟩ (λi zs σ H' _ ⟨_,_,_,_,_,q⟩=>⟨aZ.of (q _ _ ha),aZ.of (q _ _ hb)⟩) ?_ ?_
  .rintro i x z t zs σ H' Hj hxi GO Az ⟨v0,v1,rfl,rfl,h1,s3⟩ ht
   have s4:=s3.trans (Zf ht (.tup [x,z]))
   have yd:l≠t:=Zd h1 ht
   refine ⟨t,_,rfl,aZ.of Za,rfl,_,_,rfl,_,_,rfl,rfl,?_⟩
   refine ⟨_,rfl,_,rfl,x,z,rfl,(hi i x z hxi GO).same s4,λH5 s5=>?_⟩
   refine kW.of (aS5 (ZE hlen)) Hj Az (s5 _ _ (by rw [Zc yd]; exact h1)) ⟨_,_,rfl,by rw [aUK,aIO]; rfl,Za,?_⟩
   intro c o e
   rw [Zc (Zd e wz)]
   exact s5 _ _ (s4 _ _ e)
  .rintro zs σ H' Az ⟨v0,v1,rfl,rfl,h1,s3⟩
   refine ⟨l,_,rfl,aG.of h1,?_⟩
   rw [show (List.replicate xs.length true).all id=true by rw [aQO]; intro z hz; rw [(aTX.mp hz).2]; rfl]
   exact k H' s3
def Fp:Sp:=λ_ _ _ _=>False
theorem PX (F:aY K "_law_same" "_law_same" vc f fd) (bi:Binds K fd rY []) (m:mg "_law_same" = some (.ref f)) (T:Txt K mg):∀ n,Def P w K mg base "_law_same" (n+1) rY (yE n)
 | 0=>by
  have D0:Def P w K mg base "_law_same" 0 rY Fp:=⟨f,fd,⟨λ_ _ _ _ h=>h.elim,λ_ _ _ _ _ _ _ _ _ _ _ _ _ h=>h.elim⟩,m,F.kp,bi⟩
  exact ⟨f,fd,Oh (n:=0) (λ_ h=>by lia) F T D0,m,F.kp,bi⟩
 | n+1=>⟨f,fd,Oh (n:=n+1) (λj h=>by cases (show j=n by lia); rfl) F T (PX F bi m T n),m,F.kp,bi⟩
end
def oS:Option Int->V
 | none=>.aR
 | some g=>.int g
theorem gN {i:Nat} {v:V} {σ:St} {H:Hp} {Q:St->Hp->Prop} (h:Q (σ.set i (some v)) H):fP i v σ H Q:=h
theorem Jr {b:Bool} {A B:Prop} (h1:b=true->A) (h2:¬ b=true->B):if b=true then A else B:=by
 by_cases h:b=true
 .rw [bb9 h]; exact h1 h
 .rw [aYW h]; exact h2 h
theorem IZ {ns:List Int} {i:Nat} {x:V} (h:(ns.map V.int)[i]?=some x):∃ z,ns[i]?=some z/\x=V.int z:=by
 rw [aJm] at h
 cases e:ns[i]? with
 | none=>rw [e] at h; cases h
 | some z=>rw [e] at h; exact ⟨z,rfl,(a6S h).symm⟩
def tpos:Pos:=(match (ZH ZB).head? with
 | some (.If _ (.Return (some (.Call _ _ (⟨_,.Lambda _ _ _ pos,_⟩ :: _) _)) _ :: _) _ _)=>pos
 | _=>⟨0,0,0,0⟩)
abbrev pZ:Str := "Room.going" ++ ".<locals>." ++ "<lambda>"
def Tb (K:W.Frag) (H:Hp):Prop:=H (tabOf K "Room" "going")=some (.kD tpos pZ)
theorem Tb.same {K:W.Frag} {H H':Hp} (t:Tb K H) (s:aB H H'):Tb K H':=s _ _ t
def Zn (sh s:Int) (there:List Int):List Int:=there.filter λo=>decide (o % sh=s)
theorem BS (sh s b:Int) (there:List Int):Zn sh s (there++[b])=if b % sh=s then Zn sh s there++[b] else Zn sh s there:=by
 unfold Zn
 rw [List.filter_append]
 by_cases h:b % sh=s
 .rw [bb9 h,aTy,bb9 (by simpa using h),List.filter_nil]
 .rw [aYW h,aTy,aYW (by simpa using h),List.filter_nil,aKQ]
theorem BW (sh s g:Int) (there:List Int):Zn sh s (there.erase g)=(Zn sh s there).erase g:=by
 unfold Zn
 rw [List.erase_filter]
theorem bf {sh s b:Int} {there:List Int}:b∈Zn sh s there↔b∈there/\b % sh=s:=by
 unfold Zn
 rw [mem_filter,aAa]
structure oF (H:Hp) (ls:Addr) (aq:List Addr) (sh:Int) (there:List Int):Prop where
 top:H ls=some (.lst (aq.map V.ref))
 len:aq.length=sh.toNat
 nd:aq.Nodup
 off:ls∉aq
 at_:∀ (s:Nat) (ad:Addr),aq[s]?=some ad->H ad=some (.lst ((Zn sh s there).map V.int))
theorem oF.other {H:Hp} {ls:Addr} {aq:List Addr} {sh:Int} {there:List Int} (h:oF H ls aq sh there) {a:Addr} (o:HO) (h1:a≠ls) (h2:a∉aq):oF (upd H a o) ls aq sh there :=
 ⟨by rw [Zc (aI4 h1)]; exact h.top,h.len,h.nd,h.off,λi ad e=>by rw [Zc (λz:ad=a=>h2 (z ▸ axK e))]; exact h.at_ i ad e⟩
theorem oF.put {H:Hp} {ls:Addr} {aq:List Addr} {sh:Int} {there mF:List Int} (h:oF H ls aq sh there) {s0:Nat} {ad:Addr} {ns:List Int} (e0:aq[s0]?=some ad) (hn:Zn sh s0 mF=ns) (ho:∀ s:Nat,s≠s0->Zn sh s mF=Zn sh s there):oF (upd H ad (.lst (ns.map V.int))) ls aq sh mF:=by
 refine ⟨by rw [Zc (λz:ls=ad=>h.off (z ▸ axK e0))]; exact h.top,h.len,h.nd,h.off,λs a e=>?_⟩
 by_cases hs:s=s0
 .subst hs
  rw [e0] at e
  cases e
  rw [Za,hn]
 .have ne:a≠ad:=λz=>by
   subst z
   exact hs ((List.getElem?_inj (aK1.mp e).1 h.nd).mp (e.trans e0.symm))
  rw [Zc ne,ho s hs]
  exact h.at_ s a e
theorem oF.get {H:Hp} {ls:Addr} {aq:List Addr} {sh:Int} {there:List Int} (h:oF H ls aq sh there) {k:Int} (h0:0<=k) (h1:k<sh):∃ (s:Nat) (ad:Addr),(s:Int)=k/\aq[s]?=some ad/\gc (aq.map V.ref) k=some (.ref ad)/\H ad=some (.lst ((Zn sh k there).map V.int)):=by
 have hk:k.toNat<aq.length:=by rw [h.len]; lia
 have e:aq[k.toNat]?=some aq[k.toNat]:=aJu hk
 have ek:((k.toNat:Nat):Int)=k:=by lia
 have q:gc (aq.map V.ref) ((k.toNat:Nat):Int)=some (.ref aq[k.toNat]):=pq (by rw [aJm,e]; rfl)
 have q2:=h.at_ _ _ e
 rw [ek] at q q2
 exact ⟨k.toNat,_,ek,e,q,q2⟩
theorem oF.one {H:Hp} {ls:Addr} {aq:List Addr} {sh:Int} {there:List Int} (h:oF H ls aq sh there) {ad:Addr} (m:ad∈aq):∃ xs,H ad=some (.lst xs):=by
 obtain ⟨s,e⟩:=aks m
 exact ⟨_,h.at_ s ad e⟩
def gI (sh pl:Int) (ru:Str) (ls du:Addr):List (Str×V):=ai "uses" (.ref du) (ai "standing" (.ref ls) (ai "rule" (.str ru) (ai "places" (.int pl) (ai "shelves" (.int sh) []))))
theorem yD (sh pl:Int) (ru:Str) (ls du:Addr):(gI sh pl ru ls du).lookup ("uses" : Str)=some (.ref du):=by
 unfold gI
 rw [Zh,bb9 rfl]
theorem ZhI (sh pl:Int) (ru:Str) (ls du:Addr):(gI sh pl ru ls du).lookup ("standing" : Str)=some (.ref ls):=by
 unfold gI
 rw [Zh,aYW (by decide +kernel),Zh,bb9 rfl]
theorem Og (sh pl:Int) (ru:Str) (ls du:Addr):(gI sh pl ru ls du).lookup ("rule" : Str)=some (.str ru):=by
 unfold gI
 rw [Zh,aYW (by decide +kernel),Zh,aYW (by decide +kernel),Zh,bb9 rfl]
theorem Yw (sh pl:Int) (ru:Str) (ls du:Addr):(gI sh pl ru ls du).lookup ("places" : Str)=some (.int pl):=by
 unfold gI
 rw [Zh,aYW (by decide +kernel),Zh,aYW (by decide +kernel),Zh,aYW (by decide +kernel),Zh,bb9 rfl]
theorem ZjK (sh pl:Int) (ru:Str) (ls du:Addr):(gI sh pl ru ls du).lookup ("shelves" : Str)=some (.int sh):=by
 unfold gI
 rw [Zh,aYW (by decide +kernel),Zh,aYW (by decide +kernel),Zh,aYW (by decide +kernel),Zh,aYW (by decide +kernel),Zh,bb9 rfl]
theorem bS (sh pl:Int) (ru:Str) (ls du:Addr) {m:Str} (h1:¬ m = "uses" := by decide +kernel) (h2:¬ m = "standing" := by decide +kernel) (h3:¬ m = "rule" := by decide +kernel) (h4:¬ m = "places" := by decide +kernel) (h5:¬ m = "shelves" := by decide +kernel):(gI sh pl ru ls du).lookup m=none:=by
 unfold gI
 rw [Zh,aYW h1,Zh,aYW h2,Zh,aYW h3,Zh,aYW h4,Zh,aYW h5]
 rfl
def KI (kvs:List (Key×V)):Prop:=∃ ks:List Int,kvs.map Prod.fst=ks.map Sum.inl/\ks.Nodup
theorem KI.nil:KI []:=⟨[],rfl,nodup_nil⟩
theorem KI.put {kvs:List (Key×V)} (h:KI kvs) (b:Int) (v:V):KI (putK kvs (Sum.inl b) v):=by
 obtain ⟨ks,e,nd⟩:=h
 unfold putK
 split
 .refine ⟨ks,?_,nd⟩
  rw [← e,map_map]
  exact aoo λq _=>by
   show (if q.1=Sum.inl b then (q.1,v) else q).1=q.1
   split <;> rfl
 .rename_i c
  refine ⟨ks++[b],by rw [aIO,aIO,e]; rfl,?_⟩
  rw [List.nodup_append]
  refine ⟨nd,by simp,λx hx y hy z=>c ?_⟩
  rw [a60.mp hy] at z
  subst z
  have m:(Sum.inl x:Key)∈kvs.map Prod.fst:=by rw [e]; exact ar1 hx
  obtain ⟨q,hq,eq⟩:=auF.mp m
  exact List.any_eq_true.mpr ⟨q,hq,by simpa using eq⟩
theorem KI.drop {kvs:List (Key×V)} (h:KI kvs) (b:Int):KI (aV kvs (Sum.inl b)):=by
 obtain ⟨ks,e,nd⟩:=h
 unfold aV
 refine ⟨ks.filter λx=>decide (x≠b),?_,nd.sublist List.filter_sublist⟩
 have l:(kvs.filter λkv=>decide (kv.1≠Sum.inl b)).map Prod.fst=(kvs.map Prod.fst).filter λk=>decide (k≠Sum.inl b):=by
  rw [List.filter_map]; rfl
 rw [l,e,List.filter_map]
 congr 1
 refine List.filter_congr λx _=>?_
 show decide ((Sum.inl x:Key)≠Sum.inl b)=decide (x≠b)
 rw [decide_eq_decide]
 exact ⟨λz y=>z (by rw [y]),λz y=>z (akX y)⟩
theorem tT {kvs:List (Key×V)} (k:Key):(aN kvs k).isSome=true↔k∈kvs.map Prod.fst:=by
 rw [← BJ,List.any_eq_true,mem_map]
 exact ⟨λ⟨q,h1,h2⟩=>⟨q,h1,by simpa using h2⟩,λ⟨q,h1,h2⟩=>⟨q,h1,by simpa using h2⟩⟩
structure aD (K:W.Frag) (H:Hp) (p:Addr) (sh pl:Int) (ru:Str) (ls:Addr) (aq:List Addr) (du:Addr) (seq:List Int) (us:Int->Int) (n:Nat):Prop where
 ob:∃ dx,H p=some (.ins (aa K "Room") dx (gI sh pl ru ls du))
 st:oF H ls aq sh seq
 dc:∃ kvs,H du=some (.dK kvs)/\(kvs.length<=n/\KI kvs)/\∀ b,aN kvs (Sum.inl b:Key)=if b∈seq then some (.int (us b)) else none
 nd:seq.Nodup
 s0:1<=sh
 s1:sh<=64
def SR (aq:List Addr) (du:Addr) (H H':Hp):Prop:=∀ b o,H b=some o->b≠du->b∉aq->H' b=some o
theorem SR.of {aq:List Addr} {du:Addr} {H H':Hp} (s:aB H H'):SR aq du H H':=λb o h _ _=>s b o h
theorem SR.trans {aq:List Addr} {du:Addr} {H H1 H2:Hp} (a:SR aq du H H1) (b:SR aq du H1 H2):SR aq du H H2:=λc o h n1 n2=>b c o (a c o h n1 n2) n1 n2
section
variable {K:W.Frag} {H H':Hp} {p:Addr} {sh pl:Int} {ru:Str} {ls:Addr} {aq:List Addr} {du:Addr} {seq:List Int} {us:Int->Int} {n:Nat}
theorem aD.off (R:aD K H p sh pl ru ls aq du seq us n):p≠du/\p∉aq/\ls≠du/\ls∉aq/\du∉aq/\p≠ls:=by
 obtain ⟨dx,h1⟩:=R.ob
 obtain ⟨kvs,h2,_⟩:=R.dc
 refine ⟨λz=>?_,λz=>?_,λz=>?_,R.st.off,λz=>?_,λz=>?_⟩
 .rw [z,h2] at h1; cases h1
 .obtain ⟨xs,e⟩:=R.st.one z
  rw [e] at h1; cases h1
 .have e:=R.st.top
  rw [z,h2] at e; cases e
 .obtain ⟨xs,e⟩:=R.st.one z
  rw [e] at h2; cases h2
 .have e:=R.st.top
  rw [← z,h1] at e; cases e
theorem aD.same (R:aD K H p sh pl ru ls aq du seq us n) (s:aB H H'):aD K H' p sh pl ru ls aq du seq us n:=by
 obtain ⟨dx,h1⟩:=R.ob
 obtain ⟨kvs,h2,h3⟩:=R.dc
 exact ⟨⟨dx,s _ _ h1⟩,⟨s _ _ R.st.top,R.st.len,R.st.nd,R.st.off,λi ad e=>s _ _ (R.st.at_ i ad e)⟩,⟨kvs,s _ _ h2,h3⟩,R.nd,R.s0,R.s1⟩
theorem SR.keep {o:HO} {b:Addr} (s:SR aq du H H') (R:aD K H p sh pl ru ls aq du seq us n) (h:H b=some o) (n1:∀ kvs,o≠.dK kvs) (n2:∀ xs,o≠.lst xs):H' b=some o:=by
 refine s _ _ h (λz=>?_) λz=>?_
 .obtain ⟨kvs,e,_⟩:=R.dc
  rw [z,e] at h
  exact n1 kvs (a6S h).symm
 .obtain ⟨xs,e⟩:=R.st.one z
  rw [e] at h
  exact n2 xs (a6S h).symm
theorem aD.zj (R:aD K H p sh pl ru ls aq du seq us n) (b:Int):∃ (s:Nat) (ad:Addr),(s:Int)=b % sh/\aq[s]?=some ad/\gc (aq.map V.ref) (b % sh)=some (.ref ad)/\H ad=some (.lst ((Zn sh (b % sh) seq).map V.int)):=by
 have h0:=R.s0
 exact R.st.get (aA2 _ (by lia)) (aUu _ (by lia))
end
section
def Of:Sp:=λvs H Q _=>∃ sh b:Int,vs=[.int sh,.int b]/\1<=sh/\Q (.int (b % sh)) H
theorem ZhJ (F:aY K "shelf_of" "shelf_of" JN f fd) (T:Txt K mg):au P w K mg base aW 1 f fd JM Of:=by
 refine F.ok iT (λvs H Q E h=>?_) (λcdv A outer st H vs Q E hr h=>?_)
 .obtain ⟨sh,b,rfl,_⟩:=h
  rfl
 obtain ⟨sh,b,rfl,h0,k⟩:=h
 have nd:=iT.nd
 refine ⟨_,(Zi (Zt (ak o8 (pv 1) (pv 0)))),?_⟩
 exact ⟨_,rfl,_,rfl,_,_,rfl,rfl,(by show 0<sh; lia),k⟩
def nI (K:W.Frag):Sp:=λvs H Q _=>∃ (p:Addr) (b sh pl:Int) (ru:Str) (ls:Addr) (aq:List Addr) (du:Addr) (seq:List Int) (us:Int->Int) (n:Nat),vs=[.ref p,.int b]/\aD K H p sh pl ru ls aq du seq us n/\Q (.bl (decide (b∈seq))) H
theorem ZhK (F:aY K "has" "Room.has" JL f fd) (T:Txt K mg):au P w K mg base aW 1 f fd BU (nI K):=by
 refine F.ok iX (λvs H Q E h=>?_) (λcdv A outer st H vs Q E hr h=>?_)
 .obtain ⟨p,b,sh,pl,ru,ls,aq,du,seq,us,n,rfl,_⟩:=h
  rfl
 obtain ⟨p,b,sh,pl,ru,ls,aq,du,seq,us,n,rfl,R,k⟩:=h
 have nd:=iX.nd
 have hu:=bJ hr
 refine ⟨_,(Zi (Zt (N7 (ND hu (pv 1) (Zl (K:=K) rfl (pv 0) rfl))))),?_⟩
 obtain ⟨dx,h1⟩:=R.ob
 obtain ⟨kvs,h2,h3,h4⟩:=R.dc
 refine ⟨_,rfl,_,rfl,p,_,dx,_,_,rfl,h1,T.fZ,T.vB,yD ..,du,_,rfl,eu.k (k:=Sum.inl b) h2,?_⟩
 rw [h4 b]
 by_cases c:b∈seq
 .rw [bb9 c]
  rw [a6t c] at k
  exact k
 .rw [aYW c]
  rw [a5c c] at k
  exact k
def Bw (K:W.Frag):Sp:=λvs H Q _=>∃ (p:Addr) (b sh pl:Int) (ru:Str) (ls:Addr) (aq:List Addr) (du:Addr) (seq:List Int) (us:Int->Int) (n:Nat),vs=[.ref p,.int b]/\aD K H p sh pl ru ls aq du seq us n /\
 ∀ (s:Nat) (ad:Addr),(s:Int)=b % sh->aq[s]?=some ad->H ad=some (.lst ((Zn sh (b % sh) seq).map V.int))->Q (.ref ad) H
theorem ZfL (F:aY K "mates" "Room.mates" JV f fd) (T:Txt K mg) (Gy:Def P w K mg base "shelf_of" 1 JM Of):au P w K mg base aW 2 f fd yK (Bw K):=by
 refine F.ok gm (λvs H Q E h=>?_) (λcdv A outer st H vs Q E hr h=>?_)
 .obtain ⟨p,b,sh,pl,ru,ls,aq,du,seq,us,n,rfl,_⟩:=h
  rfl
 obtain ⟨p,b,sh,pl,ru,ls,aq,du,seq,us,n,rfl,R,k⟩:=h
 have nd:=gm.nd
 refine ⟨_,(Zi (Zt (av (Zo (K:=K) rfl) (Zl (K:=K) rfl (pv 0) rfl) (Zm Gy hr.m rfl (pc (Zl (K:=K) rfl (pv 0) rfl) (pc (pv 1) Zb))) (λ_ _=>rfl)))),?_⟩
 obtain ⟨dx,h1⟩:=R.ob
 obtain ⟨s,ad,e1,e2,e3,e4⟩:=R.zj b
 exact ⟨_,rfl,p,_,dx,_,_,rfl,h1,T.fZ,T.Mh,ZhI ..,_,rfl,p,_,dx,_,_,rfl,h1,T.fZ,T.Mg,ZjK ..,_,rfl,sh,b,rfl,R.s0,ls,_,_,_,rfl,rfl,aG.of R.st.top,e3,k s ad e1 e2 e4⟩
def DG (K:W.Frag):Sp:=λvs H Q _=>∃ (p:Addr) (b sh pl:Int) (ru:Str) (ls:Addr) (aq:List Addr) (du:Addr) (seq:List Int) (us:Int->Int) (n:Nat),vs=[.ref p,.int b]/\aD K H p sh pl ru ls aq du seq us n/\b∈seq/\Q .aR H
theorem ZgU (F:aY K "need" "Room.need" Kh f fd) (T:Txt K mg) (sP:ay P w K mg base (aa K "Room") "has" 1 BU (nI K)):au P w K mg base aW 2 f fd BO (DG K):=by
 refine F.ok gZ (λvs H Q E h=>?_) (λcdv A outer st H vs Q E hr h=>?_)
 .obtain ⟨p,b,sh,pl,ru,ls,aq,du,seq,us,n,rfl,_⟩:=h
  rfl
 obtain ⟨p,b,sh,pl,ru,ls,aq,du,seq,us,n,rfl,R,hb,k⟩:=h
 have nd:=gZ.nd
 refine ⟨_,(Zi (aJ (sd (ZG (Zk sP hr.m T.fZ (pv 0) (pc (pv 1) Zb)))) (Zi qk) Zu)),?_⟩
 obtain ⟨dx,h1⟩:=R.ob
 refine ⟨_,rfl,p,dx,_,rfl,h1,bS ..,_,rfl,p,b,sh,pl,ru,ls,aq,du,seq,us,n,rfl,R,?_⟩
 rw [a6t hb]
 exact ⟨_,rfl,cT rfl k⟩
end
section
def IY (K:W.Frag):Sp:=λvs H Q _=>∃ (p m:Addr) (ms:List Int) (sh pl:Int) (ru:Str) (ls:Addr) (aq:List Addr) (du:Addr) (seq:List Int) (us:Int->Int) (n:Nat),vs=[.ref p,.ref m]/\aD K H p sh pl ru ls aq du seq us n/\Tb K H/\H m=some (.lst (ms.map V.int))/\ms.length<64/\ms.Nodup/\(∀ b∈ms,b∈seq) /\
 ∀ (D:Addr) (H':Hp) (os:List Int),H D=none->aB H H'->H' D=some (.lst (os.map V.int))->os.Perm ms->(ru = "few" -> os.Pairwise (sy us ms))->(ru ≠ "few" -> os=ms)->Q (.ref D) H'
theorem ZfM {f tp cg:Addr} {fd:FuncData} (F:aY K "going" "Room.going" ZB f fd) (hfc:fd.code=.ref cg) (htp:tabOf K "Room" "going" = tp) (hch:W.codeHdIn K cg tp=true) (bm:BMod base mg) (T:Txt K mg):au P w K mg base aW 2 f fd BY (IY K):=by
 refine F.Tp gr (λvs H Q E h=>?_) (λcdv A outer st H vs Q E US hr h=>?_)
 .obtain ⟨p,m,ms,sh,pl,ru,ls,aq,du,seq,us,n,rfl,_⟩:=h
  rfl
 obtain ⟨p,m,ms,sh,pl,ru,ls,aq,du,seq,us,n,rfl,R,tb,hm,h64,hnd,hin,k⟩:=h
 have nd:=gr.nd
 have hu:=bJ hr
 have hc0:cdv=.ref cg:=US.symm.trans hfc
 refine ⟨_,(Ze (aJ (ZD bB (Zl (K:=K) rfl (pv 0) rfl) kB (Zz _)) (Zi (Zt (Yo (X:=(lO aW P w K mg base cF "Room.going" (Zg ZB) f cdv A outer st H E).vU) (K:=K) (P:=tp) (c0:=cg) rfl hr rfl rfl T.vA (Yp (gy:=(Zg ZB)) (oN:=cF) (x := "board") (fr:=["self"]) (js:=[0]) (by decide +kernel) rfl rfl) hc0 hch bm rfl rfl rfl (λ_ _ _ _ _=>rfl) (pv 1) (λ_ _ _ _ _=>(BA (VI hr) (Zl (K:=K) rfl (pv 1) rfl) (pv 0) (λ_ _=>rfl)))))) Zu)
   (Zi (Zt (vj (Eu (K:=K) rfl) rfl T.pX ZU (pc (pv 1) Zb))))),?_⟩
 obtain ⟨dx,h1⟩:=R.ob
 obtain ⟨kvs,h2,h3,h4⟩:=R.dc
 refine ⟨_,rfl,p,_,dx,_,_,rfl,h1,T.fZ,T.Gz,Og ..,rfl,_,rfl,?_⟩
 refine rj (λc=>?_) (λc=>?_)
 .have c':ru = "few" := by injection c
  have tb':H tp=some (.kD tpos pZ):=by
   have t:=tb
   unfold Tb at t
   rw [htp] at t
   exact t
  refine ⟨_,rfl,m,ms,us,rfl,aG.of hm,h64,hnd,tb',λz hz H2 sm=>?_,λD H' os hD sm hl po so=>k D H' os hD sm hl po (λ_=>so) λz=>absurd c' z⟩
  have v:=h4 z
  rw [bb9 (hin z hz)] at v
  exact ⟨_,rfl,p,_,dx,_,_,rfl,sm _ _ h1,T.fZ,T.vB,yD ..,_,rfl,du,_,rfl,(by have q:=eu.k (k:=Sum.inl z) (sm _ _ h2); rw [v] at q; exact q),rfl,rfl⟩
 .have c':¬ ru = "few" := λz=>c (by rw [z])
  exact ⟨_,rfl,m,_,rfl,.inl (aG.of hm),λD hD=>k D _ ms hD (Zf hD _) Za (List.Perm.refl _) (λz=>absurd z c') λ_=>rfl⟩
theorem BE {kvs:List (Key×V)} {k:Key} (j:Key):aN (aV kvs k) j=if j=k then none else aN kvs j:=by
 induction kvs with
 | nil=>by_cases e:j=k <;> simp [aV,aN,e]
 | cons q r ih =>
  by_cases e:q.1=k
  .rw [YK e,ih]
   by_cases c:j=k
   .rw [bb9 c,bb9 c]
   .rw [aYW c,aYW c,ZJ (λz=>c (z.symm.trans e))]
  .rw [YJ e]
   by_cases c:q.1=j
   .rw [ZP c,aYW (λz=>e (c.trans z)),ZP c]
   .rw [ZJ c,ih,ZJ c]
theorem Yv (kvs:List (Key×V)) (k:Key):(aV kvs k).length<=kvs.length:=aaN ..
def HS (K:W.Frag):Sp:=λvs H Q _=>∃ (p:Addr) (b sh pl:Int) (ru:Str) (ls:Addr) (aq:List Addr) (du:Addr) (seq:List Int) (us:Int->Int) (n:Nat),vs=[.ref p,.int b]/\aD K H p sh pl ru ls aq du seq us n/\b∈seq /\
 ∀ H',aD K H' p sh pl ru ls aq du (seq.erase b) us n->SR aq du H H'->Q .aR H'
theorem ZgV (F:aY K "drop" "Room.drop" Kl f fd) (T:Txt K mg) (sJ:ay P w K mg base (aa K "Room") "need" 2 BO (DG K)) (pM:ay P w K mg base (aa K "Room") "mates" 2 yK (Bw K)):au P w K mg base aW 3 f fd Ew (HS K):=by
 refine F.ok g9 (λvs H Q E h=>?_) (λcdv A outer st H vs Q E hr h=>?_)
 .obtain ⟨p,b,sh,pl,ru,ls,aq,du,seq,us,n,rfl,_⟩:=h
  rfl
 obtain ⟨p,b,sh,pl,ru,ls,aq,du,seq,us,n,rfl,R,hb,k⟩:=h
 have nd:=g9.nd
 refine ⟨_,(Ze (Zp (Zk sJ hr.m T.fZ (pv 0) (pc (pv 1) Zb)))
   (Ze (Zp (vd (K:=K) rfl (i6 aoN PySem.F.slot_list_remove PySem.F.type_list_remove QI (Zk pM hr.m T.fZ (pv 0) (pc (pv 1) Zb)) (pc (pv 1) Zb))))
   (Zi (Zp (Jg (Zl (K:=K) rfl (pv 0) rfl) (pv 1) ⟨rfl,rfl,rfl,rfl⟩))))),?_⟩
 obtain ⟨dx,h1⟩:=R.ob
 obtain ⟨kvs,h2,h3,h4⟩:=R.dc
 obtain ⟨o1,o2,o3,o4,o5,o6⟩:=R.off
 refine ⟨_,rfl,p,dx,_,rfl,h1,bS ..,_,rfl,p,b,sh,pl,ru,ls,aq,du,seq,us,n,rfl,R,hb,?_⟩
 refine ⟨_,rfl,p,dx,_,rfl,h1,bS ..,_,rfl,p,b,sh,pl,ru,ls,aq,du,seq,us,n,rfl,R,λs ad es hs had=>?_⟩
 have qz:ad∈aq:=axK hs
 have hmem:b∈Zn sh (b % sh) seq:=bf.mpr ⟨hb,rfl⟩
 refine ⟨.inl ⟨rfl,_,aG.of had⟩,_,rfl,ad,_,b,rfl,rfl,had,hmem,?_⟩
 have S1:oF (upd H ad (.lst (((Zn sh (b % sh) seq).erase b).map V.int))) ls aq sh (seq.erase b):=by
  refine R.st.put hs ?_ λs' hs'=>?_
  .rw [BW,es]
  .rw [BW]
   exact aiU λm=>hs' (by have:=(bf.mp m).2; lia)
 have np:p≠ad:=λz=>o2 (z ▸ qz)
 have CV:du≠ad:=λz=>o5 (z ▸ qz)
 have rS:upd H ad (.lst (((Zn sh (b % sh) seq).erase b).map V.int)) p=some (.ins (aa K "Room") dx (gI sh pl ru ls du)):=by rw [Zc np]; exact h1
 have h2':upd H ad (.lst (((Zn sh (b % sh) seq).erase b).map V.int)) du=some (.dK kvs):=by rw [Zc CV]; exact h2
 refine ⟨_,rfl,p,_,dx,_,_,rfl,rS,T.fZ,T.vB,yD ..,du,rfl,.inl ⟨_,.inl h2'⟩,_,rfl,kvs,Sum.inl b,_,h2',rfl,(by rw [h4 b,bb9 hb]),?_⟩
 refine k _ ⟨⟨dx,by rw [Zc o1]; exact rS⟩,S1.other _ (aI4 o3) o5,⟨_,Za,⟨auj (Yv _ _) h3.1,h3.2.drop b⟩,λx=>?_⟩,R.nd.erase b,R.s0,R.s1⟩ λx o e n1 n2=>?_
 .rw [BE,h4 x]
  by_cases c:x=b
  .subst c
   rw [bb9 rfl,aYW (λm=>((afM R.nd).mp m).1 rfl)]
  .rw [aYW (λz=>c (akX z))]
   by_cases m:x∈seq
   .rw [bb9 m,bb9 ((afM R.nd).mpr ⟨c,m⟩)]
   .rw [aYW m,aYW (λz=>m (afd z))]
 .rw [Zc n1,Zc (λz:x=ad=>n2 (z ▸ qz))]
  exact e
def bump (us:Int->Int) (b:Int):Int->Int:=λx=>if x=b then us b+1 else us x
def uq (K:W.Frag):Sp:=λvs H Q _=>∃ (p:Addr) (b sh pl:Int) (ru:Str) (ls:Addr) (aq:List Addr) (du:Addr) (seq:List Int) (us:Int->Int) (n:Nat),vs=[.ref p,.int b]/\aD K H p sh pl ru ls aq du seq us n/\n<=900/\b∈seq/\seq.length<=900 /\
 ∀ H',aD K H' p sh pl ru ls aq du (if ru = "old" then seq.erase b++[b] else seq) (bump us b) (n+1)->SR aq du H H'->Q .aR H'
theorem ZhM (F:aY K "use" "Room.use" JK f fd) (T:Txt K mg) (sJ:ay P w K mg base (aa K "Room") "need" 2 BO (DG K)) (pM:ay P w K mg base (aa K "Room") "mates" 2 yK (Bw K)):au P w K mg base aW 3 f fd JJ (uq K):=by
 refine F.ok iW (λvs H Q E h=>?_) (λcdv A outer st H vs Q E hr h=>?_)
 .obtain ⟨p,b,sh,pl,ru,ls,aq,du,seq,us,n,rfl,_⟩:=h
  rfl
 obtain ⟨p,b,sh,pl,ru,ls,aq,du,seq,us,n,rfl,R,hn,hb,hsl,k⟩:=h
 have nd:=iW.nd
 have hu:=bJ hr
 refine ⟨_,(Ze (Zp (Zk sJ hr.m T.fZ (pv 0) (pc (pv 1) Zb)))
   (Ze (WM hu (Zl (K:=K) rfl (pv 0) rfl) (pv 1) Zj VZ (λ_ _ _=>rfl))
   (Zi (aJ (ZD bB (Zl (K:=K) rfl (pv 0) rfl) kB (Zz _)) (Ze (eB 2 nd (Zk pM hr.m T.fZ (pv 0) (pc (pv 1) Zb)))
   (Ze (Zp (vd (K:=K) rfl (i6 aoN PySem.F.slot_list_remove PySem.F.type_list_remove QI (pv 2) (pc (pv 1) Zb))))
   (Zi (Zp (vd (K:=K) rfl (i6 aoN aGd adS xr (pv 2) (pc (pv 1) Zb))))))) Zu)))),?_⟩
 obtain ⟨dx,h1⟩:=R.ob
 obtain ⟨kvs,h2,h3,h4⟩:=R.dc
 obtain ⟨o1,o2,o3,o4,o5,o6⟩:=R.off
 refine ⟨_,rfl,p,dx,_,rfl,h1,bS ..,_,rfl,p,b,sh,pl,ru,ls,aq,du,seq,us,n,rfl,R,hb,?_⟩
 refine ⟨_,rfl,p,_,dx,_,_,rfl,h1,T.fZ,T.vB,yD ..,_,rfl,du,_,rfl,(by have q:=eu.k (k:=Sum.inl b) h2; rw [h4 b,bb9 hb] at q; exact q),_,_,rfl,rfl,_,jO.k (k:=Sum.inl b) h2 (ZE (by lia)),?_⟩
 have R1:aD K (upd H du (.dK (putK kvs (Sum.inl b) (.int (us b+1))))) p sh pl ru ls aq du seq (bump us b) (n+1):=by
  refine ⟨⟨dx,by rw [Zc o1]; exact h1⟩,R.st.other _ (aI4 o3) o5,⟨_,Za,⟨auj (BQ ..) (by have:=h3.1; lia),h3.2.put b _⟩,λx=>?_⟩,R.nd,R.s0,R.s1⟩
  rw [yG]
  unfold bump
  by_cases c:x=b
  .subst c
   rw [bb9 rfl,bb9 hb,bb9 rfl]
  .rw [aYW (λz=>c (akX z)),h4 x,aYW c]
 have s1:SR aq du H (upd H du (.dK (putK kvs (Sum.inl b) (.int (us b+1))))):=λx o e n1 n2=>by rw [Zc n1]; exact e
 generalize upd H du (.dK (putK kvs (Sum.inl b) (.int (us b+1))))=H1 at *
 obtain ⟨cS,g1⟩:=R1.ob
 refine ⟨_,rfl,p,_,cS,_,_,rfl,g1,T.fZ,T.Gz,Og ..,rfl,_,rfl,?_⟩
 refine rj (λc=>?_) (λc=>?_)
 .have c':ru = "old" := by injection c
  rw [bb9 c'] at k
  refine ⟨_,rfl,p,cS,_,rfl,g1,bS ..,_,rfl,p,b,sh,pl,ru,ls,aq,du,seq,_,_,rfl,R1,λs ad es hs had=>?_⟩
  have qz:ad∈aq:=axK hs
  have hmem:b∈Zn sh (b % sh) seq:=bf.mpr ⟨hb,rfl⟩
  refine ⟨_,rfl,.inl ⟨rfl,_,aG.of had⟩,_,rfl,ad,_,b,rfl,rfl,had,hmem,?_⟩
  have ll:((Zn sh (b % sh) seq).erase b).length<=900:=auj List.length_erase_le (auj (aaN ..) hsl)
  refine ⟨_,rfl,.inl ⟨rfl,_,aG.of Za⟩,_,rfl,ad,_,_,rfl,rfl,Za,ZE (by rw [aUH]; lia),?_⟩
  rw [IJ]
  have e1:(((Zn sh (b % sh) seq).erase b).map V.int++[V.int b])=((Zn sh (b % sh) seq).erase b++[b]).map V.int:=by rw [aIO]; rfl
  have S2:oF (upd H1 ad (.lst (((Zn sh (b % sh) seq).erase b++[b]).map V.int))) ls aq sh (seq.erase b++[b]):=by
   refine R1.st.put hs ?_ λs' hs'=>?_
   .rw [BS,bb9 es.symm,BW,es]
   .rw [BS,aYW (by lia),BW]
    exact aiU λm=>hs' (by have:=(bf.mp m).2; lia)
  have np:p≠ad:=λz=>o2 (z ▸ qz)
  have F6:du≠ad:=λz=>o5 (z ▸ qz)
  obtain ⟨Gk,g2,g3,g4⟩:=R1.dc
  have Mw:∀ x,x∈seq.erase b++[b]↔x∈seq:=λx=>by
   rw [mem_append,mem_singleton,afM R.nd]
   constructor
   .rintro (⟨_,m⟩ | rfl)
    .exact m
    .exact hb
   .intro m
    by_cases z:x=b
    .exact .inr z
    .exact .inl ⟨z,m⟩
  rw [e1]
  refine k _ ⟨⟨cS,by rw [Zc np]; exact g1⟩,S2,⟨Gk,by rw [Zc F6]; exact g2,g3,λx=>?_⟩,?_,R.s0,R.s1⟩ λx o e n1 n2=>?_
  .rw [g4 x]
   by_cases m:x∈seq
   .rw [bb9 m,bb9 ((Mw x).mpr m)]
   .rw [aYW m,aYW (λz=>m ((Mw x).mp z))]
  .refine yy (R.nd.erase b) λm=>((afM R.nd).mp m).1 rfl
  .rw [Zc (λz:x=ad=>n2 (z ▸ qz))]
   exact s1 _ _ e n1 n2
 .have c':¬ ru = "old" := λz=>c (by rw [z])
  rw [aYW c'] at k
  exact k _ R1 s1
end
def dw (seq:List Int):Option Int->List Int
 | none=>seq
 | some g=>seq.erase g
def cC (ru:Str) (us:Int->Int) (pl:Int) (ms:List Int) (gone:Option Int):Prop :=
 ((ms.length:Int)<pl->gone=none)/\(¬ (ms.length:Int)<pl->∃ (g:Int) (rest:List Int),gone=some g/\(g :: rest).Perm ms/\(ru = "few" -> (g :: rest).Pairwise (sy us ms))/\(ru ≠ "few" -> g :: rest=ms))
theorem lJ {seq:List Int} {g:Option Int}:(dw seq g).Sublist seq:=by
 cases g with
 | none=>exact List.Sublist.refl _
 | some g=>exact List.erase_sublist
section
def Ng (K:W.Frag):Sp:=λvs H Q _=>∃ (p dx:Addr) (sh pl:Int) (ru:Str),vs=[.ref p,.int sh,.int pl,.str ru]/\H p=some (.ins (aa K "Room") dx [])/\1<=sh/\sh<=64 /\
 ∀ (ls:Addr) (aq:List Addr) (du:Addr) (H':Hp),aD K H' p sh pl ru ls aq du [] (λ_=>0) 0->H ls=none->H du=none->(∀ ad∈aq,H ad=none)->(∀ b o,H b=some o->b≠p->H' b=some o)->Q .aR H'
theorem ZgW (F:aY K "__init__" "Room.__init__" Ex f fd) (T:Txt K mg):au P w K mg base aW 1 f fd Km (Ng K):=by
 refine F.ok g6 (λvs H Q E h=>?_) (λcdv A outer st H vs Q E hr h=>?_)
 .obtain ⟨p,dx,sh,pl,ru,rfl,_⟩:=h
  rfl
 obtain ⟨p,dx,sh,pl,ru,rfl,hp,hs0,hs1,k⟩:=h
 have nd:=g6.nd
 refine ⟨_,(Ze (lX (pv 0) (pv 1) rfl)
   (Ze (lX (pv 0) (pv 2) rfl)
   (Ze (lX (pv 0) (pv 3) rfl)
   (Ze (lX (pv 0) (vh (sj (gy:=(Zg Ex)) (oN:=fV) (N:=["number"]) (own:=1) (js:=[]) (by decide +kernel) rfl rfl) rfl (sr rfl T.oR (pc (pv 1) Zb)) (λ_ _ _ _ _ _=>(ck 0 (show List.Nodup (["number"]:List Str) by decide +kernel))) (λ_ _ _ _ _ _=>(m6 Zb))) rfl)
   (Zi (lX (pv 0) yF rfl)))))),?_⟩
 refine ⟨_,rfl,_,rfl,p,_,dx,_,rfl,hp,T.fZ,T.Mg,(by show 0<1000; decide),?_⟩
 refine ⟨_,rfl,_,rfl,p,_,dx,_,rfl,Za,T.fZ,T.Mf,(by show 1<1000; decide),?_⟩
 refine ⟨_,rfl,_,rfl,p,_,dx,_,rfl,Za,T.fZ,T.Gz,(by show 2<1000; decide),?_⟩
 have e3:upd (upd (upd H p (.ins (aa K "Room") dx (ai "shelves" (.int sh) []))) p (.ins (aa K "Room") dx (ai "places" (.int pl) (ai "shelves" (.int sh) [])))) p (.ins (aa K "Room") dx (ai "rule" (.str ru) (ai "places" (.int pl) (ai "shelves" (.int sh) [])))) p=some (.ins (aa K "Room") dx (ai "rule" (.str ru) (ai "places" (.int pl) (ai "shelves" (.int sh) [])))):=Za
 have o3:∀ b o,H b=some o->b≠p->upd (upd (upd H p (.ins (aa K "Room") dx (ai "shelves" (.int sh) []))) p (.ins (aa K "Room") dx (ai "places" (.int pl) (ai "shelves" (.int sh) [])))) p (.ins (aa K "Room") dx (ai "rule" (.str ru) (ai "places" (.int pl) (ai "shelves" (.int sh) [])))) b=some o:=λb o e n=>by rw [Zc n,Zc n,Zc n]; exact e
 generalize upd (upd (upd H p (.ins (aa K "Room") dx (ai "shelves" (.int sh) []))) p (.ins (aa K "Room") dx (ai "places" (.int pl) (ai "shelves" (.int sh) [])))) p (.ins (aa K "Room") dx (ai "rule" (.str ru) (ai "places" (.int pl) (ai "shelves" (.int sh) []))))=H3 at *
 have f3:∀ b,H3 b=none->H b=none:=λb e=>by
  cases q:H b with
  | none=>rfl
  | some o =>
   by_cases z:b=p
   .rw [z,e3] at e; cases e
   .rw [o3 b o q z] at e; cases e
 refine ⟨_,rfl,sh,rfl,by lia,by lia,λls hls=>?_⟩
 refine yI (lo:=0) (n:=sh.toNat) (l:=ls) (λj ys σ G=>∃ (v0:Option V) (aq:List Addr),σ=[v0]/\ys=aq.map V.ref/\aq.length=j/\aq.Nodup/\ls∉aq/\G ls=some (.lst ys)/\(∀ ad∈aq,H3 ad=none/\G ad=some (.lst []))/\aB H3 G)
  ⟨none,[],rfl,rfl,rfl,nodup_nil,by simp,Za,by simp,Zf hls _⟩ ?_ ?_
 .rintro j ys σ G hj hy ⟨v0,aq,rfl,rfl,hlen,hnd,hoff,g1,g2,s1⟩
  refine ⟨(sl 0),λq hq=>?_⟩
  have nq:ls≠q:=Zd g1 hq
  have LX:q∉aq:=λm=>by rw [(g2 q m).2] at hq; cases hq
  refine kW.of (auj (by lia:sh.toNat<=64) (by decide)) hj hy (by rw [Zc nq]; exact g1) ⟨_,aq++[q],rfl,by rw [aIO]; rfl,by rw [aAe,hlen]; rfl,yy hnd LX,?_,Za,λad m=>?_,?_⟩
  .intro m
   rcases ais.mp m with m | m
   .exact hoff m
   .exact nq (by simpa using m)
  .rcases ais.mp m with m | m
   .rw [Zc (λz:ad=ls=>hoff (z ▸ m)),Zc (λz:ad=q=>LX (z ▸ m))]
    exact g2 ad m
   .have e:ad=q:=by simpa using m
    subst e
    rw [Zc (aI4 nq)]
    exact ⟨s1.free hq,Za⟩
  .intro e o y
   rw [Zc (Zd y hls),Zc (Zd (s1 _ _ y) hq)]
   exact s1 _ _ y
 rintro ys σ G hy ⟨v0,aq,rfl,rfl,hlen,hnd,hoff,g1,g2,s1⟩
 have gp:=s1 _ _ e3
 refine ⟨_,rfl,p,_,dx,_,rfl,gp,T.fZ,T.Mh,(by show 3<1000; decide),?_⟩
 intro du tE
 have F5:ls≠p:=λz=>by rw [z,e3] at hls; cases hls
 have L3:∀ ad∈aq,ad≠p:=λad m z=>by have q:=(g2 ad m).1; rw [z,e3] at q; cases q
 have zU:p≠du:=Zd (Za (H:=G) (a:=p) (o:=.ins (aa K "Room") dx (ai "standing" (.ref ls) (ai "rule" (.str ru) (ai "places" (.int pl) (ai "shelves" (.int sh) [])))))) tE
 have gl:ls≠du:=λz=>by rw [← z,Zc F5,g1] at tE; cases tE
 have ga:du∉aq:=λm=>by rw [Zc (aI4 zU),(g2 du m).2] at tE; cases tE
 refine ⟨_,rfl,p,_,dx,_,rfl,(by rw [Zc zU]; exact Za),T.fZ,T.vB,(by show 4<1000; decide),?_⟩
 have AH:H3 du=none:=by
  rw [Zc (aI4 zU)] at tE
  exact s1.free tE
 refine k ls aq du _ ⟨⟨dx,Za⟩,⟨?_,hlen,hnd,hoff,λi ad e=>?_⟩,⟨[],?_,⟨aDN _,KI.nil⟩,λb=>by simp [aN]⟩,nodup_nil,hs0,hs1⟩ (f3 _ hls) (f3 _ AH) (λad m=>f3 _ (g2 ad m).1) λb o e n=>?_
 .rw [Zc F5,Zc gl,Zc F5]
  exact g1
 .have m:=axK e
  rw [Zc (L3 ad m),Zc (λz:ad=du=>ga (z ▸ m)),Zc (L3 ad m)]
  exact (g2 ad m).2
 .rw [Zc (aI4 zU)]
  exact Za
 .have q:=s1 _ _ (o3 b o e n)
  have nb:b≠du:=λz=>by
   rw [← z,Zc n,q] at tE
   cases tE
  rw [Zc n,Zc nb,Zc n]
  exact q
def zero (us:Int->Int) (b:Int):Int->Int:=λx=>if x=b then 0 else us x
def Oe (K:W.Frag):Sp:=λvs H Q _=>∃ (p:Addr) (b sh pl:Int) (ru:Str) (ls:Addr) (aq:List Addr) (du:Addr) (seq:List Int) (us:Int->Int) (n:Nat),vs=[.ref p,.int b]/\aD K H p sh pl ru ls aq du seq us n/\Tb K H/\n<=900/\b∉seq/\1<=pl/\(Zn sh (b % sh) seq).length<64 /\
 ∀ (gone:Option Int) (H':Hp),cC ru us pl (Zn sh (b % sh) seq) gone->aD K H' p sh pl ru ls aq du (dw seq gone++[b]) (zero us b) (n+1)->SR aq du H H'->Q (oS gone) H'
def Jq (K:W.Frag):Sp:=λvs H Q _=>∃ (p:Addr) (b sh pl:Int) (ru:Str) (ls:Addr) (aq:List Addr) (du:Addr) (seq:List Int) (us:Int->Int) (n:Nat),vs=[.ref p,.int b]/\aD K H p sh pl ru ls aq du seq us n/\Tb K H/\1<=pl/\(Zn sh (b % sh) seq).length<64 /\
 ∀ (gone:Option Int) (H':Hp),cC ru us pl (Zn sh (b % sh) seq) gone->aB H H'->Q (oS gone) H'
theorem Zdp (F:aY K "leaver_for" "Room.leaver_for" Li f fd) (T:Txt K mg) (pM:ay P w K mg base (aa K "Room") "mates" 2 yK (Bw K)) (EZ:ay P w K mg base (aa K "Room") "going" 2 BY (IY K)):au P w K mg base aW 3 f fd ZW (Jq K):=by
 refine F.ok cI (λvs H Q E h=>?_) (λcdv A outer st H vs Q E hr h=>?_)
 .obtain ⟨p,b,sh,pl,ru,ls,aq,du,seq,us,n,rfl,_⟩:=h
  rfl
 obtain ⟨p,b,sh,pl,ru,ls,aq,du,seq,us,n,rfl,R,tb,hpl,h64,k⟩:=h
 have nd:=cI.nd
 have hu:=bJ hr
 refine ⟨_,(Ze (eB 2 nd (Zk pM hr.m T.fZ (pv 0) (pc (pv 1) Zb)))
   (Ze (aJ (ZD lC (Zs (ZI (K:=K) rfl) rfl T.sC a5u (pc (pv 2) Zb)) (Zl (K:=K) rfl (pv 0) rfl) (Zz _)) (Zi (Zt N8)) Zu)
   (Zi (Zt (av (Zo (K:=K) rfl) (Zk EZ hr.m T.fZ (pv 0) (pc (pv 2) Zb)) Zj (λ_ _=>rfl)))))),?_⟩
 obtain ⟨dx,h1⟩:=R.ob
 refine ⟨_,rfl,p,dx,_,rfl,h1,bS ..,_,rfl,p,b,sh,pl,ru,ls,aq,du,seq,us,n,rfl,R,λs ad es hs had=>?_⟩
 have hnd:(Zn sh (b % sh) seq).Nodup:=R.nd.sublist List.filter_sublist
 refine ⟨_,rfl,ad,_,rfl,.inl (aG.of had),_,rfl,p,_,dx,_,_,rfl,h1,T.fZ,T.Mf,Yw ..,_,_,rfl,rfl,_,rfl,?_⟩
 rw [aUH]
 refine rj (λc=>?_) (λc=>?_)
 .exact k none H ⟨λ_=>rfl,λz=>absurd z (by lia)⟩ (aB.refl _)
 .refine ⟨_,rfl,p,dx,_,rfl,h1,bS ..,_,rfl,p,ad,Zn sh (b % sh) seq,sh,pl,ru,ls,aq,du,seq,us,n,rfl,R,tb,had,h64,hnd,(λx m=>(bf.mp m).1),λD H' os hD sm hl po s1 s2=>?_⟩
  have lo:=po.length_eq
  match os,hl,po,s1,s2,lo with
  | [],_,_,_,_,lo=>exact absurd lo (by simp; lia)
  | g :: rest,hl,po,s1,s2,lo =>
   refine ⟨D,_,_,_,rfl,rfl,aG.of hl,eS,?_⟩
   exact k (some g) H' ⟨λz=>absurd c (by lia),λ_=>⟨g,rest,rfl,po,s1,s2⟩⟩ sm
theorem ZfO (F:aY K "bring" "Room.bring" JX f fd) (T:Txt K mg) (sP:ay P w K mg base (aa K "Room") "has" 1 BU (nI K)) (xU:ay P w K mg base (aa K "Room") "leaver_for" 3 ZW (Jq K)) (pM:ay P w K mg base (aa K "Room") "mates" 2 yK (Bw K)) (xM:ay P w K mg base (aa K "Room") "drop" 3 Ew (HS K)):au P w K mg base aW 4 f fd JW (Oe K):=by
 refine F.ok gu (λvs H Q E h=>?_) (λcdv A outer st H vs Q E hr h=>?_)
 .obtain ⟨p,b,sh,pl,ru,ls,aq,du,seq,us,n,rfl,_⟩:=h
  rfl
 obtain ⟨p,b,sh,pl,ru,ls,aq,du,seq,us,n,rfl,R,tb,hn,hb,hpl,h64,k⟩:=h
 have nd:=gu.nd
 have hu:=bJ hr
 refine ⟨_,(Ze (aJ (ZG (Zk sP hr.m T.fZ (pv 0) (pc (pv 1) Zb))) (Zi qk) Zu)
   (Ze (eB 2 nd (Zk xU hr.m T.fZ (pv 0) (pc (pv 1) Zb)))
   (Ze (aJ (DE (II (pv 2))) (Zi (Zp (Zk xM hr.m T.fZ (pv 0) (pc (pv 2) Zb)))) Zu)
   (Ze (Zp (vd (K:=K) rfl (i6 aoN aGd adS xr (Zk pM hr.m T.fZ (pv 0) (pc (pv 1) Zb)) (pc (pv 1) Zb))))
   (Ze (By hu (Zl (K:=K) rfl (pv 0) rfl) (pv 1) Zj rfl)
   (Zi (Zt (pv 2)))))))),?_⟩
 obtain ⟨dx,h1⟩:=R.ob
 refine ⟨_,rfl,p,dx,_,rfl,h1,bS ..,_,rfl,p,b,sh,pl,ru,ls,aq,du,seq,us,n,rfl,R,?_⟩
 rw [a5c hb]
 refine ⟨_,rfl,cT rfl ?_⟩
 refine ⟨_,rfl,p,dx,_,rfl,h1,bS ..,_,rfl,p,b,sh,pl,ru,ls,aq,du,seq,us,n,rfl,R,tb,hpl,h64,λgone H1 gp sm=>?_⟩
 refine gN ?_
 dsimp only
 have R0:=R.same sm
 have hnd:(Zn sh (b % sh) seq).Nodup:=R.nd.sublist List.filter_sublist
 refine wQ (λσ G=>σ=[some (.ref p),some (.int b),some (oS gone)]/\aD K G p sh pl ru ls aq du (dw seq gone) us n/\SR aq du H G) (λD' _ k'=>?_) ?_
 .match gone,gp with
  | none,gp=>exact ⟨_,rfl,_,rfl,cT rfl (k' _ _ ⟨rfl,R0,SR.of sm⟩)⟩
  | some g,gp =>
   have hg:g∈Zn sh (b % sh) seq:=by
    by_cases c:((Zn sh (b % sh) seq).length:Int)<pl
    .exact absurd (gp.1 c) (by simp)
    .obtain ⟨g',rest,e,po,_⟩:=gp.2 c
     injection e with e
     subst e
     exact po.mem_iff.mp aq5
   obtain ⟨wN,rS⟩:=R0.ob
   exact ⟨_,rfl,_,rfl,fq rfl ⟨_,rfl,p,wN,_,rfl,rS,bS ..,_,rfl,p,g,sh,pl,ru,ls,aq,du,seq,us,n,rfl,R0,(bf.mp hg).1,λH2 R2 s3=>k' _ _ ⟨rfl,R2,(SR.of sm).trans s3⟩⟩⟩
 rintro _ G ⟨rfl,R1,s1⟩
 obtain ⟨cS,g1⟩:=R1.ob
 obtain ⟨kvs,g2,g3,g4⟩:=R1.dc
 obtain ⟨o1,o2,o3,o4,o5,o6⟩:=R1.off
 refine ⟨_,rfl,p,cS,_,rfl,g1,bS ..,_,rfl,p,b,sh,pl,ru,ls,aq,du,dw seq gone,us,n,rfl,R1,λs ad es hs U0=>?_⟩
 have qz:ad∈aq:=axK hs
 have AI:=R1.st.at_ s ad hs
 have ll:(Zn sh s (dw seq gone)).length<=64:=by
  have q:(Zn sh s (dw seq gone)).Sublist (Zn sh s seq):=List.Sublist.filter _ (lJ (g:=gone))
  have q2:=q.length_le
  rw [es] at q2 ⊢
  lia
 refine ⟨.inl ⟨rfl,_,aG.of AI⟩,_,rfl,ad,_,_,rfl,rfl,AI,ZE (by rw [aUH]; lia),?_⟩
 have nb:b∉dw seq gone:=λm=>hb (lJ.subset m)
 have e1:((Zn sh s (dw seq gone)).map V.int++[V.int b])=(Zn sh s (dw seq gone)++[b]).map V.int:=by rw [aIO]; rfl
 rw [e1]
 have S2:oF (upd G ad (.lst ((Zn sh s (dw seq gone)++[b]).map V.int))) ls aq sh (dw seq gone++[b]):=by
  refine R1.st.put hs ?_ λs' hs'=>?_
  .rw [BS,bb9 es.symm]
  .rw [BS,aYW (by lia)]
 have np:p≠ad:=λz=>o2 (z ▸ qz)
 have F6:du≠ad:=λz=>o5 (z ▸ qz)
 have Dp:upd G ad (.lst ((Zn sh s (dw seq gone)++[b]).map V.int)) p=some (.ins (aa K "Room") cS (gI sh pl ru ls du)):=by rw [Zc np]; exact g1
 have U8:upd G ad (.lst ((Zn sh s (dw seq gone)++[b]).map V.int)) du=some (.dK kvs):=by rw [Zc F6]; exact g2
 refine ⟨_,rfl,p,_,cS,_,_,rfl,Dp,T.fZ,T.vB,yD ..,_,rfl,du,_,rfl,jO.k (k:=Sum.inl b) U8 (ZE (by lia)),?_⟩
 refine ⟨_,rfl,k gone _ gp ⟨⟨cS,by rw [Zc o1]; exact Dp⟩,S2.other _ (aI4 o3) o5,⟨_,Za,⟨auj (BQ ..) (by have:=g3.1; lia),g3.2.put b _⟩,λx=>?_⟩,yy R1.nd nb,R.s0,R.s1⟩ λx o e n1 n2=>?_⟩
 .rw [yG]
  unfold zero
  by_cases c:x=b
  .subst c
   rw [bb9 rfl,bb9 (baP _ (a60.mpr rfl)),bb9 rfl]
  .rw [aYW (λz=>c (akX z)),g4 x,aYW c]
   by_cases m:x∈dw seq gone
   .rw [bb9 m,bb9 (ahE _ m)]
   .rw [aYW m,aYW (λz=>(ais.mp z).elim m λq=>c (a60.mp q))]
 .rw [Zc n1,Zc (λz:x=ad=>n2 (z ▸ qz))]
  exact s1 _ _ e n1 n2
end
theorem xg:∀ {a b:List Int},a.Nodup->(∀ x∈a,x∈b)->a.length<=b.length
 | [],_,_,_=>a9k _
 | x :: a,b,nd,h=>by
  have CV:=a6A.mp nd
  have mx:=h x aq5
  have q:=xg (b:=b.erase x) CV.2 λy hy=>(mem_erase_of_ne (λz:y=x=>CV.1 (by rw [← z]; exact hy))).mpr (h y (asq _ hy))
  rw [List.length_erase_of_mem mx] at q
  have:=List.length_pos_of_mem mx
  show a.length+1<=b.length
  lia
theorem Od {kvs:List (Key×V)} {seq:List Int} (h:KI kvs) (nd:seq.Nodup) (e:∀ b,(aN kvs (Sum.inl b:Key)).isSome=true↔b∈seq):kvs.length=seq.length:=by
 obtain ⟨ks,h4,h5⟩:=h
 have per:ks.Perm seq:=by
  refine (aoa h5 nd).mpr λb=>?_
  rw [← e b,tT,h4,mem_map]
  constructor
  .intro m
   exact ⟨b,m,rfl⟩
  .rintro ⟨x,hx,q⟩
   rw [← akX q]; exact hx
 have l:=a5E List.length h4
 rw [aUH,aUH] at l
 rw [l,per.length_eq]
theorem aD.norm {K:W.Frag} {H:Hp} {p:Addr} {sh pl:Int} {ru:Str} {ls:Addr} {aq:List Addr} {du:Addr} {seq:List Int} {us:Int->Int} {n:Nat} (R:aD K H p sh pl ru ls aq du seq us n):aD K H p sh pl ru ls aq du seq us seq.length:=by
 obtain ⟨kvs,h2,⟨h3,h5⟩,h4⟩:=R.dc
 refine ⟨R.ob,R.st,⟨kvs,h2,⟨Nat.le_of_eq (Od h5 R.nd λb=>?_),h5⟩,h4⟩,R.nd,R.s0,R.s1⟩
 rw [h4 b]
 by_cases c:b∈seq
 .simp [c]
 .simp [c]
structure SA where
 sp:Addr
 rp:Addr
 ls:Addr
 aq:List Addr
 du:Addr
 dh:Addr
 df:Addr
structure Cf where
 sh:Int
 pl:Int
 ru:Str
 late:Bool
def bE (rp:Addr) (late:Bool) (dh df:Addr):List (Str×V):=ai "fresh" (.ref df) (ai "held" (.ref dh) (ai "late" (.bl late) (ai "room" (.ref rp) [])))
theorem BD (rp:Addr) (late:Bool) (dh df:Addr):(bE rp late dh df).lookup ("fresh" : Str)=some (.ref df):=by
 unfold bE; rw [Zh,bb9 rfl]
theorem D3 (rp:Addr) (late:Bool) (dh df:Addr):(bE rp late dh df).lookup ("held" : Str)=some (.ref dh):=by
 unfold bE; rw [Zh,aYW (by decide +kernel),Zh,bb9 rfl]
theorem Oc (rp:Addr) (late:Bool) (dh df:Addr):(bE rp late dh df).lookup ("late" : Str)=some (.bl late):=by
 unfold bE; rw [Zh,aYW (by decide +kernel),Zh,aYW (by decide +kernel),Zh,bb9 rfl]
theorem xo (rp:Addr) (late:Bool) (dh df:Addr):(bE rp late dh df).lookup ("room" : Str)=some (.ref rp):=by
 unfold bE; rw [Zh,aYW (by decide +kernel),Zh,aYW (by decide +kernel),Zh,aYW (by decide +kernel),Zh,bb9 rfl]
theorem bT (rp:Addr) (late:Bool) (dh df:Addr) {m:Str} (h1:¬ m = "fresh" := by decide +kernel) (h2:¬ m = "held" := by decide +kernel) (h3:¬ m = "late" := by decide +kernel) (h4:¬ m = "room" := by decide +kernel):(bE rp late dh df).lookup m=none:=by
 unfold bE
 rw [Zh,aYW h1,Zh,aYW h2,Zh,aYW h3,Zh,aYW h4]
 rfl
structure Rm where
 seq:List Int
 us:Int->Int
 wd:Int->List Int
 fr:Int->Bool
def Mt:HO->Prop
 | .lst _=>True
 | .dK _=>True
 | .ins _ _ _=>True
 | _=>False
structure bM (O:Addr->Prop) (H H':Hp) (O':Addr->Prop):Prop where
 kp:∀ x o,H x=some o->(O x->¬ Mt o)->H' x=some o
 fr:∀ x,O' x->O x\/H x=none
theorem bM.trans {O O1 O2:Addr->Prop} {H H1 H2:Hp} (a:bM O H H1 O1) (b:bM O1 H1 H2 O2):bM O H H2 O2:=by
 refine ⟨λx o e n=>b.kp x o (a.kp x o e n) λh=>(a.fr x h).elim n (λz=>by rw [e] at z; cases z),λx h=>(b.fr x h).elim (a.fr x) λz=>?_⟩
 by_cases c:O x
 .exact .inl c
 .cases q:H x with
  | none=>exact .inr rfl
  | some o=>rw [a.kp x o q λh=>absurd h c] at z; cases z
theorem bM.same {O:Addr->Prop} {H H':Hp} (s:aB H H'):bM O H H' O:=⟨λx o e _=>s x o e,λ_ h=>.inl h⟩
theorem aD.frame {K:W.Frag} {H H':Hp} {p:Addr} {sh pl:Int} {ru:Str} {ls:Addr} {aq:List Addr} {du:Addr} {seq:List Int} {us:Int->Int} {n:Nat} (R:aD K H p sh pl ru ls aq du seq us n) (h:∀ x o,x=p\/x=ls\/x∈aq\/x=du->H x=some o->H' x=some o):aD K H' p sh pl ru ls aq du seq us n:=by
 obtain ⟨dx,h1⟩:=R.ob
 obtain ⟨kvs,h2,h3⟩:=R.dc
 exact ⟨⟨dx,h _ _ (.inl rfl) h1⟩,⟨h _ _ (.inr (.inl rfl)) R.st.top,R.st.len,R.st.nd,R.st.off,λi ad e=>h _ _ (.inr (.inr (.inl (axK e)))) (R.st.at_ i ad e)⟩,⟨kvs,h _ _ (.inr (.inr (.inr rfl))) h2,h3⟩,R.nd,R.s0,R.s1⟩
structure bO (H:Hp) (dh ls:Addr) (aq:List Addr) (O:Addr->Prop) (seq:List Int) (wd:Int->List Int) (kvs:List (Key×V)) (wl:Int->Addr):Prop where
 dc:H dh=some (.dK kvs)
 ki:KI kvs
 v:∀ b,aN kvs (Sum.inl b:Key)=if b∈seq then some (.ref (wl b)) else none
 at_:∀ b∈seq,H (wl b)=some (.lst ((wd b).map V.int))/\O (wl b)/\wl b∉aq/\wl b≠ls
 inj:∀ b∈seq,∀ c∈seq,wl b=wl c->b=c
structure gz (K:W.Frag) (H:Hp) (a:SA) (c:Cf) (seq:List Int) (us:Int->Int) (O:Addr->Prop):Prop where
 ob:∃ dx,H a.sp=some (.ins (aa K "Store") dx (bE a.rp c.late a.dh a.df))
 room:aD K H a.rp c.sh c.pl c.ru a.ls a.aq a.du seq us seq.length
 d1:∃ kvs,H a.dh=some (.dK kvs)
 d2:∃ kvs,H a.df=some (.dK kvs)
 n1:a.du≠a.dh
 n2:a.df≠a.dh
 n3:a.df≠a.du
 own:∀ x,x=a.sp\/x=a.rp\/x=a.ls\/x∈a.aq\/x=a.du\/x=a.dh\/x=a.df->O x
 ex:∀ x,O x->H x≠none
structure az (K:W.Frag) (H:Hp) (a:SA) (c:Cf) (s:Rm) (O:Addr->Prop):Prop where
 aT:gz K H a c s.seq s.us O
 held:∃ kvs wl,bO H a.dh a.ls a.aq O s.seq s.wd kvs wl
 fresh:∃ kvs,H a.df=some (.dK kvs)/\KI kvs/\∀ b,aN kvs (Sum.inl b:Key)=if s.fr b=true then some (.bl true) else none
 qQ:∀ b,s.fr b=true->b∈s.seq
section
variable {K:W.Frag} {H H':Hp} {a:SA} {c:Cf} {s:Rm} {O O':Addr->Prop} {kvs:List (Key×V)} {wl:Int->Addr} {seq:List Int} {us:Int->Int}
theorem bO.frame {dh ls:Addr} {aq:List Addr} {wd:Int->List Int} (h:bO H dh ls aq O seq wd kvs wl) (hO:O dh) (f:∀ x o,O x->H x=some o->H' x=some o):bO H' dh ls aq O seq wd kvs wl :=
 ⟨f _ _ hO h.dc,h.ki,h.v,λb m=>⟨f _ _ (h.at_ b m).2.1 (h.at_ b m).1,(h.at_ b m).2⟩,h.inj⟩
theorem uU {x:Addr} (h:H x≠none) (f:∀ o,H x=some o->H' x=some o):H' x≠none:=λz=>by
 cases q:H x with
 | none=>exact h q
 | some o=>rw [f o q] at z; cases z
theorem HR {x y:Addr} {o:HO} (h:H x≠none):upd H y o x≠none:=by
 by_cases z:x=y
 .rw [z,Za]; simp
 .rw [Zc z]; exact h
theorem gz.frame (S:gz K H a c seq us O) (f:∀ x o,O x->H x=some o->H' x=some o):gz K H' a c seq us O:=by
 obtain ⟨dx,h1⟩:=S.ob
 obtain ⟨k1,h2⟩:=S.d1
 obtain ⟨k2,h3⟩:=S.d2
 exact ⟨⟨dx,f _ _ (S.own _ (by simp)) h1⟩,S.room.frame λx o m e=>f x o (S.own x (by rcases m with m | m | m | m <;> simp [m])) e,⟨k1,f _ _ (S.own _ (by simp)) h2⟩,⟨k2,f _ _ (S.own _ (by simp)) h3⟩,S.n1,S.n2,S.n3,S.own,λx h=>uU (S.ex x h) λo=>f x o h⟩
theorem az.frame (S:az K H a c s O) (f:∀ x o,O x->H x=some o->H' x=some o):az K H' a c s O:=by
 obtain ⟨kvs,wl,h2⟩:=S.held
 obtain ⟨kf,h3,h4⟩:=S.fresh
 exact ⟨S.aT.frame f,⟨kvs,wl,h2.frame (S.aT.own _ (by simp)) f⟩,⟨kf,f _ _ (S.aT.own _ (by simp)) h3,h4⟩,S.qQ⟩
theorem gz.same (S:gz K H a c seq us O) (h:aB H H'):gz K H' a c seq us O:=S.frame λx o _ e=>h x o e
theorem gz.kinds (S:gz K H a c seq us O) {x:Addr} {kvs:List (Key×V)} (h:H x=some (.dK kvs)):x≠a.sp/\x≠a.rp/\x≠a.ls/\x∉a.aq:=by
 obtain ⟨dx,h1⟩:=S.ob
 obtain ⟨dr,h2⟩:=S.room.ob
 refine ⟨λz=>?_,λz=>?_,λz=>?_,λm=>?_⟩
 .rw [← z,h] at h1; cases h1
 .rw [← z,h] at h2; cases h2
 .have q:=S.room.st.top; rw [← z,h] at q; cases q
 .obtain ⟨xs,e⟩:=S.room.st.one m; rw [h] at e; cases e
theorem gz.put (S:gz K H a c seq us O) {x:Addr} (hx:x=a.dh\/x=a.df) (kvs:List (Key×V)):gz K (upd H x (.dK kvs)) a c seq us O:=by
 obtain ⟨kx,ex⟩:∃ kx,H x=some (.dK kx):=hx.elim (λz=>z ▸ S.d1) λz=>z ▸ S.d2
 obtain ⟨q1,q2,q3,q4⟩:=S.kinds ex
 have nu:x≠a.du:=hx.elim (λz=>z ▸ aI4 S.n1) λz=>z ▸ S.n3
 obtain ⟨dx,h1⟩:=S.ob
 have dd:∀ {y},(∃ k,H y=some (.dK k))->∃ k,upd H x (.dK kvs) y=some (.dK k):=λ{y} h=>by
  by_cases z:y=x
  .rw [z,Za]; exact ⟨_,rfl⟩
  .rw [Zc z]; exact h
 exact ⟨⟨dx,by rw [Zc (aI4 q1)]; exact h1⟩,S.room.frame λy o m e=>by
  rw [Zc (λz:y=x=>by subst z; exact m.elim q2 λm=>m.elim q3 λm=>m.elim q4 nu)]; exact e,dd S.d1,dd S.d2,S.n1,S.n2,S.n3,S.own,λy h=>HR (S.ex y h)⟩
theorem gz.mono (S:gz K H a c seq us O) (h1:∀ x,x=a.sp\/x=a.rp\/x=a.ls\/x∈a.aq\/x=a.du\/x=a.dh\/x=a.df->O' x) (h2:∀ x,O' x->H x≠none):gz K H a c seq us O':=⟨S.ob,S.room,S.d1,S.d2,S.n1,S.n2,S.n3,h1,h2⟩
theorem gz.iy {seq':List Int} {us':Int->Int} {n:Nat} (S:gz K H a c seq us O) (R:aD K H' a.rp c.sh c.pl c.ru a.ls a.aq a.du seq' us' n) (r:SR a.aq a.du H H'):gz K H' a c seq' us' O:=by
 obtain ⟨dx,h1⟩:=S.ob
 obtain ⟨k1,h2⟩:=S.d1
 obtain ⟨k2,h3⟩:=S.d2
 refine ⟨⟨dx,r.keep S.room h1 (λ_ z=>by cases z) (λ_ z=>by cases z)⟩,R.norm,⟨k1,r _ _ h2 (aI4 S.n1) (S.kinds h2).2.2.2⟩,⟨k2,r _ _ h3 S.n3 (S.kinds h3).2.2.2⟩,S.n1,S.n2,S.n3,S.own,λx h=>?_⟩
 by_cases z:x=a.du
 .obtain ⟨kv,e,_⟩:=R.dc
  rw [z,e]; simp
 .by_cases m:x∈a.aq
  .obtain ⟨xs,e⟩:=R.st.one m
   rw [e]; simp
  .exact uU (S.ex x h) λo e=>r x o e z m
theorem gz.eB (S:gz K H a c seq us O) (r:SR a.aq a.du H H'):bM O H H' O:=by
 refine ⟨λx o e n=>r x o e (λz=>?_) λm=>?_,λ_ h=>.inl h⟩
 .obtain ⟨kv,q,_⟩:=S.room.dc
  rw [z,q] at e
  cases e
  exact n (S.own x (by simp [z])) trivial
 .obtain ⟨xs,q⟩:=S.room.st.one m
  rw [q] at e
  cases e
  exact n (S.own x (by simp [m])) trivial
theorem gz.Hg {wd:Int->List Int} {seq':List Int} (S:gz K H a c seq us O) (h:bO H a.dh a.ls a.aq O seq' wd kvs wl) (r:SR a.aq a.du H H'):bO H' a.dh a.ls a.aq O seq' wd kvs wl:=by
 obtain ⟨kr,g,_⟩:=S.room.dc
 exact ⟨r _ _ h.dc (aI4 S.n1) (S.kinds h.dc).2.2.2,h.ki,h.v,λx m=>⟨r _ _ (h.at_ x m).1 (λz=>by have e:=(h.at_ x m).1; rw [z,g] at e; cases e) (h.at_ x m).2.2.1,(h.at_ x m).2⟩,h.inj⟩
theorem bO.seqs {dh ls:Addr} {aq:List Addr} {seq':List Int} {wd:Int->List Int} (h:bO H dh ls aq O seq wd kvs wl) (hs:∀ b,b∈seq'↔b∈seq):bO H dh ls aq O seq' wd kvs wl :=
 ⟨h.dc,h.ki,λb=>by rw [h.v b]; exact ite_congr (propext (hs b).symm) (λ_=>rfl) λ_=>rfl,λb m=>h.at_ b ((hs b).mp m),λb m c m'=>h.inj b ((hs b).mp m) c ((hs c).mp m')⟩
theorem az.iy {seq':List Int} {us':Int->Int} {n:Nat} (S:az K H a c s O) (R:aD K H' a.rp c.sh c.pl c.ru a.ls a.aq a.du seq' us' n) (r:SR a.aq a.du H H') (hs:∀ b,b∈seq'↔b∈s.seq):az K H' a c ⟨seq',us',s.wd,s.fr⟩ O:=by
 obtain ⟨kvs,wl,h2⟩:=S.held
 obtain ⟨kf,h3,h4⟩:=S.fresh
 exact ⟨S.aT.iy R r,⟨kvs,wl,(S.aT.Hg h2 r).seqs hs⟩,⟨kf,r _ _ h3 S.aT.n3 (S.aT.kinds h3).2.2.2,h4⟩,λb h=>(hs b).mpr (S.qQ b h)⟩
theorem gz.ql (S:gz K H a c seq us O) {x:Addr} (hx:x=a.dh\/x=a.df) (kvs:List (Key×V)):bM O H (upd H x (.dK kvs)) O:=by
 refine ⟨λy o e n=>?_,λ_ h=>.inl h⟩
 rw [Zc (λz=>?_)]
 .exact e
 obtain ⟨kx,ex⟩:∃ kx,H x=some (.dK kx):=hx.elim (λz=>z ▸ S.d1) λz=>z ▸ S.d2
 rw [z,ex] at e
 cases e
 exact n (S.own y (by rw [z]; rcases hx with h | h <;> simp [h])) trivial
theorem bO.put {dh ls:Addr} {aq:List Addr} {seq':List Int} {wd:Int->List Int} (h:bO H dh ls aq O seq wd kvs wl) {b:Int} {l:Addr} (ws:List Int) (hl:H l=none) (ex:∀ x,O x->H x≠none) (na:∀ x∈aq,H x≠none) (nl:H ls≠none) (hs:∀ x,x∈seq'↔x=b\/x∈seq) :
  bO (upd (upd H l (.lst (ws.map V.int))) dh (.dK (putK kvs (Sum.inl b) (.ref l)))) dh ls aq (λx=>O x\/x=l) seq' (λx=>if x=b then ws else wd x) (putK kvs (Sum.inl b) (.ref l)) (λx=>if x=b then l else wl x):=by
 have nd:l≠dh:=λz=>by rw [z,h.dc] at hl; cases hl
 have nw:∀ x∈seq,wl x≠l:=λx m z=>by have q:=(h.at_ x m).1; rw [z,hl] at q; cases q
 have md:∀ x,x∈seq'->x≠b->x∈seq:=λx m n=>((hs x).mp m).resolve_left n
 refine ⟨Za,h.ki.put b _,λx=>?_,λx m=>?_,λx m y m' e=>?_⟩
 .rw [yG]
  by_cases z:x=b
  .rw [bb9 (by rw [z]),bb9 ((hs x).mpr (.inl z)),bb9 z]
  .rw [aYW (λq=>z (akX q)),h.v x,aYW z]
   exact ite_congr (propext ⟨λm=>(hs x).mpr (.inr m),λm=>md x m z⟩) (λ_=>rfl) λ_=>rfl
 .by_cases z:x=b
  .rw [bb9 z,bb9 z,Zc nd,Za]
   exact ⟨rfl,.inr rfl,λm=>na l m hl,λq=>nl (q ▸ hl)⟩
  .rw [aYW z,aYW z]
   obtain ⟨e1,e2,e3,e4⟩:=h.at_ x (md x m z)
   exact ⟨by rw [Zc (λq=>by rw [q,h.dc] at e1; cases e1),Zc (nw x (md x m z))]; exact e1,.inl e2,e3,e4⟩
 .by_cases z:x=b
  .by_cases z':y=b
   .rw [z,z']
   .rw [bb9 z,aYW z'] at e
    exact absurd e.symm (nw y (md y m' z'))
  .by_cases z':y=b
   .rw [aYW z,bb9 z'] at e
    exact absurd e (nw x (md x m z))
   .rw [aYW z,aYW z'] at e
    exact h.inj x (md x m z) y (md y m' z') e
theorem az.jY (S:az K H a c s O) (h:bO H a.dh a.ls a.aq O s.seq s.wd kvs wl):kvs.length=s.seq.length:=by
 refine Od h.ki S.aT.room.nd λb=>?_
 rw [h.v b]
 by_cases m:b∈s.seq
 .simp [m]
 .simp [m]
theorem az.Vb {kf:List (Key×V)} (S:az K H a c s O) (h:KI kf) (v:∀ b,aN kf (Sum.inl b:Key)=if s.fr b=true then some (.bl true) else none):kf.length<=s.seq.length:=by
 obtain ⟨ks,e,nd⟩:=h
 have l:=a5E List.length e
 rw [aUH,aUH] at l
 rw [l]
 refine xg nd λb m=>S.qQ b ?_
 have q:=tT (kvs:=kf) (Sum.inl b)
 rw [v b,e] at q
 have:=q.mpr (ar1 m)
 by_cases z:s.fr b=true
 .exact z
 .rw [aYW z] at this; cases this
end
section
variable {K:W.Frag} {H H':Hp} {a:SA} {c:Cf} {s:Rm} {O O':Addr->Prop} {kvs:List (Key×V)} {wl:Int->Addr} {seq:List Int} {us:Int->Int}
theorem gz.laid {wd:Int->List Int} {zm seq':List Int} {b:Int} {l:Addr} (S:gz K H a c seq us O) (h:bO H a.dh a.ls a.aq O zm wd kvs wl) (ws:List Int) (hl:H l=none) (hs:∀ x,x∈seq'↔x=b\/x∈zm) :
  (gz K (upd (upd H l (.lst (ws.map V.int))) a.dh (.dK (putK kvs (Sum.inl b) (.ref l)))) a c seq us (λx=>O x\/x=l)/\bO (upd (upd H l (.lst (ws.map V.int))) a.dh (.dK (putK kvs (Sum.inl b) (.ref l)))) a.dh a.ls a.aq (λx=>O x\/x=l) seq' (λx=>if x=b then ws else wd x) (putK kvs (Sum.inl b) (.ref l)) (λx=>if x=b then l else wl x)) /\
   bM O H (upd (upd H l (.lst (ws.map V.int))) a.dh (.dK (putK kvs (Sum.inl b) (.ref l)))) (λx=>O x\/x=l):=by
 have sm:=Zf hl (.lst (ws.map V.int))
 have S1:=S.same sm
 refine ⟨⟨((S1.put (x:=a.dh) (.inl rfl) _).mono (λx m=>.inl (S.own x m)) λx m=>HR ?_),h.put ws hl S.ex (λx m=>S.ex x (S.own x (by simp [m]))) (S.ex _ (S.own _ (by simp))) hs⟩,?_⟩
 .rcases m with m | m
  .exact S1.ex x m
  .rw [m,Za]; simp
 .have p:=(bM.same sm).trans (S1.ql (x:=a.dh) (.inl rfl) (putK kvs (Sum.inl b) (.ref l)))
  exact ⟨p.kp,λx m=>m.elim .inl λz=>.inr (by rw [z]; exact hl)⟩
theorem bO.pop {wd:Int->List Int} {b:Int} (h:bO H a.dh a.ls a.aq O seq wd kvs wl) (nn:seq.Nodup) (hb:b∈seq) (S:gz K H a c (seq.erase b) us O):bO (upd H a.dh (.dK (aV kvs (Sum.inl b)))) a.dh a.ls a.aq (λx=>O x/\x≠wl b) (seq.erase b) wd (aV kvs (Sum.inl b)) wl:=by
 have mm:∀ {x},x∈seq.erase b->x≠b/\x∈seq:=λ{x} m=>(afM nn).mp m
 refine ⟨Za,h.ki.drop b,λx=>?_,λx m=>?_,λx m y m'=>h.inj x (mm m).2 y (mm m').2⟩
 .rw [BE]
  by_cases z:x=b
  .rw [bb9 (by rw [z]),aYW (λm=>(mm m).1 z)]
  .rw [aYW (λq=>z (akX q)),h.v x]
   exact ite_congr (propext ⟨λm=>(afM nn).mpr ⟨z,m⟩,λm=>(mm m).2⟩) (λ_=>rfl) λ_=>rfl
 .obtain ⟨e1,e2,e3,e4⟩:=h.at_ x (mm m).2
  exact ⟨by rw [Zc (λz=>by rw [z,h.dc] at e1; cases e1)]; exact e1,⟨e2,λz=>(mm m).1 (h.inj x (mm m).2 b hb z)⟩,e3,e4⟩
end
section
def m9:Rm:=⟨[],λ_=>0,λ_=>[],λ_=>false⟩
def Ob (K:W.Frag):Sp:=λvs H Q _=>∃ (p dx tp:Addr) (sh pl:Int) (ru wr:Str),vs=[.ref p,.ref tp]/\H p=some (.ins (aa K "Store") dx [])/\aZ K H tp [.int sh,.int pl,.str ru,.str wr]/\1<=sh/\sh<=64 /\
 ∀ (a:SA) (H':Hp),a.sp=p->az K H' a ⟨sh,pl,ru,decide (wr = "late")⟩ m9 (λx=>x=p\/(H x=none/\H' x≠none))->(∀ b o,H b=some o->b≠p->H' b=some o)->Q .aR H'
theorem ZfQ (F:aY K "__init__" "Store.__init__" JU f fd) (T:Txt K mg) (GL:pH P w K mg base (aa K "Room") "Room" 1 Km (Ng K)):au P w K mg base aW 3 f fd JT (Ob K):=by
 refine F.ok gh (λvs H Q E h=>?_) (λcdv A outer st H vs Q E hr h=>?_)
 .obtain ⟨p,dx,tp,sh,pl,ru,wr,rfl,_⟩:=h
  rfl
 obtain ⟨p,dx,tp,sh,pl,ru,wr,rfl,hp,htp,s0,s1,k⟩:=h
 have nd:=gh.nd
 refine ⟨_,(Ze (lY (pv 1) (mz (K:=K) (n:=4) rfl rfl (Zr (ck 2 nd) (Zr (ck 3 nd) (Zr (ck 4 nd) (Zr (ck 5 nd) ZY))))))
   (Ze (lX (pv 0) (BH GL hr.m rfl (pc (pv 2) (pc (pv 3) (pc (pv 4) Zb)))) rfl)
   (Ze (lX (pv 0) (pV bB (pv 5) kB (Zz _)) rfl)
   (Ze (lX (pv 0) yF rfl)
   (Zi (lX (pv 0) yF rfl)))))),?_⟩
 refine ⟨_,rfl,tp,_,rfl,htp,rfl,_,_,rfl,gN ⟨_,_,rfl,gN ⟨_,_,rfl,gN ⟨_,_,rfl,gN ⟨rfl,?_⟩⟩⟩⟩⟩
 try dsimp only
 refine ⟨_,rfl,_,rfl,_,rfl,λrp rx AB Mp nrx=>⟨rp,rx,sh,pl,ru,rfl,Za,s0,s1,λls aq du H1 R1 f1 f2 f3 k1=>⟨rfl,?_⟩⟩⟩
 have TU:p≠rp:=Zd hp AB
 have Me:∀ x o,H x=some o->H1 x=some o:=λx o e=>k1 x o (by rw [Zc (Zd e AB),Zc (Zd e Mp)]; exact e) (Zd e AB)
 have fr:∀ x,upd (upd H rx (.own rp)) rp (.ins (aa K "Room") rx []) x=none->H x=none:=λx e=>by
  cases q:H x with
  | none=>rfl
  | some o=>rw [Zc (Zd q AB),Zc (Zd q Mp),q] at e; cases e
 have f1:=fr _ f1
 have f2:=fr _ f2
 have f3:∀ ad∈aq,H ad=none:=λad m=>fr _ (f3 ad m)
 have h1:=Me _ _ hp
 refine ⟨_,rfl,p,_,dx,_,rfl,h1,T.eG,T.uD,(by show 0<1000; decide),?_⟩
 obtain ⟨o1,o2,o3,o4,o5,o6⟩:=R1.off
 have q1:p≠ls:=λz=>by rw [z,R1.st.top] at h1; cases h1
 have q2:p≠du:=λz=>by obtain ⟨kv,g,_⟩:=R1.dc; rw [z,g] at h1; cases h1
 have q3:p∉aq:=λz=>by obtain ⟨xs,g⟩:=R1.st.one z; rw [g] at h1; cases h1
 have put:∀ {G:Hp} {o:HO},aD K G rp sh pl ru ls aq du [] (λ_=>0) 0->aD K (upd G p o) rp sh pl ru ls aq du [] (λ_=>0) 0:=λ{G o} R=>by
  obtain ⟨wN,e1⟩:=R.ob
  obtain ⟨kv,e2,e3⟩:=R.dc
  exact ⟨⟨wN,by rw [Zc (aI4 TU)]; exact e1⟩,R.st.other o q1 q3,⟨kv,by rw [Zc (aI4 q2)]; exact e2,e3⟩,R.nd,R.s0,R.s1⟩
 have R2:=put (o:=.ins (aa K "Store") dx (ai "room" (.ref rp) [])) R1
 have e2:upd H1 p (.ins (aa K "Store") dx (ai "room" (.ref rp) [])) p=some (.ins (aa K "Store") dx (ai "room" (.ref rp) [])):=Za
 have k2:∀ x o,H x=some o->x≠p->upd H1 p (.ins (aa K "Store") dx (ai "room" (.ref rp) [])) x=some o:=λx o e n=>by rw [Zc n]; exact Me x o e
 generalize upd H1 p (.ins (aa K "Store") dx (ai "room" (.ref rp) []))=H2 at *
 refine ⟨_,rfl,rfl,_,rfl,p,_,dx,_,rfl,e2,T.eG,T.E1,(by show 1<1000; decide),?_⟩
 have el:decide (V.str wr=V.str "late")=decide (wr = "late"):=decide_eq_decide.mpr ⟨λe=>by injection e,λe=>by rw [e]⟩
 rw [el]
 have R3:=put (o:=.ins (aa K "Store") dx (ai "late" (.bl (decide (wr = "late"))) (ai "room" (.ref rp) []))) R2
 have e3:upd H2 p (.ins (aa K "Store") dx (ai "late" (.bl (decide (wr = "late"))) (ai "room" (.ref rp) []))) p=some (.ins (aa K "Store") dx (ai "late" (.bl (decide (wr = "late"))) (ai "room" (.ref rp) []))):=Za
 have k3:∀ x o,H x=some o->x≠p->upd H2 p (.ins (aa K "Store") dx (ai "late" (.bl (decide (wr = "late"))) (ai "room" (.ref rp) []))) x=some o:=λx o e n=>by rw [Zc n]; exact k2 x o e n
 generalize upd H2 p (.ins (aa K "Store") dx (ai "late" (.bl (decide (wr = "late"))) (ai "room" (.ref rp) [])))=H3 at *
 refine λdh yk=>?_
 have nh:p≠dh:=Zd e3 yk
 refine ⟨_,rfl,p,_,dx,_,rfl,(by rw [Zc nh]; exact e3),T.eG,T.yP,(by show 2<1000; decide),?_⟩
 have R4:=put (o:=.ins (aa K "Store") dx (ai "held" (.ref dh) (ai "late" (.bl (decide (wr = "late"))) (ai "room" (.ref rp) [])))) (R3.same (Zf yk (.dK [])))
 have e4:upd (upd H3 dh (.dK [])) p (.ins (aa K "Store") dx (ai "held" (.ref dh) (ai "late" (.bl (decide (wr = "late"))) (ai "room" (.ref rp) [])))) p=some (.ins (aa K "Store") dx (ai "held" (.ref dh) (ai "late" (.bl (decide (wr = "late"))) (ai "room" (.ref rp) [])))):=Za
 have d4:upd (upd H3 dh (.dK [])) p (.ins (aa K "Store") dx (ai "held" (.ref dh) (ai "late" (.bl (decide (wr = "late"))) (ai "room" (.ref rp) [])))) dh=some (.dK []):=by rw [Zc (aI4 nh)]; exact Za
 have MQ:H dh=none:=by
  cases q:H dh with
  | none=>rfl
  | some o=>rw [k3 dh o q (aI4 nh)] at yk; cases yk
 have k4:∀ x o,H x=some o->x≠p->upd (upd H3 dh (.dK [])) p (.ins (aa K "Store") dx (ai "held" (.ref dh) (ai "late" (.bl (decide (wr = "late"))) (ai "room" (.ref rp) [])))) x=some o:=λx o e n=>by rw [Zc n,Zc (λz:x=dh=>by rw [z,MQ] at e; cases e)]; exact k3 x o e n
 generalize upd (upd H3 dh (.dK [])) p (.ins (aa K "Store") dx (ai "held" (.ref dh) (ai "late" (.bl (decide (wr = "late"))) (ai "room" (.ref rp) []))))=H4 at *
 refine λdf hdf=>?_
 have nf:p≠df:=Zd e4 hdf
 refine ⟨_,rfl,p,_,dx,_,rfl,(by rw [Zc nf]; exact e4),T.eG,T.xY,(by show 3<1000; decide),?_⟩
 have MR:H df=none:=by
  cases q:H df with
  | none=>rfl
  | some o=>rw [k4 df o q (aI4 nf)] at hdf; cases hdf
 have LY:dh≠df:=λz=>by rw [← z,d4] at hdf; cases hdf
 obtain ⟨kv,g,_⟩:=R3.dc
 obtain ⟨kv4,g4,_⟩:=R4.dc
 have R5:=put (o:=.ins (aa K "Store") dx (bE rp (decide (wr = "late")) dh df)) (R4.same (Zf hdf (.dK [])))
 have e5:upd (upd H4 df (.dK [])) p (.ins (aa K "Store") dx (bE rp (decide (wr = "late")) dh df)) p=some (.ins (aa K "Store") dx (bE rp (decide (wr = "late")) dh df)):=Za
 have d5:upd (upd H4 df (.dK [])) p (.ins (aa K "Store") dx (bE rp (decide (wr = "late")) dh df)) dh=some (.dK []):=by rw [Zc (aI4 nh),Zc LY]; exact d4
 have f5:upd (upd H4 df (.dK [])) p (.ins (aa K "Store") dx (bE rp (decide (wr = "late")) dh df)) df=some (.dK []):=by rw [Zc (aI4 nf)]; exact Za
 have k5:∀ x o,H x=some o->x≠p->upd (upd H4 df (.dK [])) p (.ins (aa K "Store") dx (bE rp (decide (wr = "late")) dh df)) x=some o:=λx o e n=>by rw [Zc n,Zc (λz:x=df=>by rw [z,MR] at e; cases e)]; exact k4 x o e n
 change Q .aR (upd (upd H4 df (.dK [])) p (.ins (aa K "Store") dx (bE rp (decide (wr = "late")) dh df)))
 generalize upd (upd H4 df (.dK [])) p (.ins (aa K "Store") dx (bE rp (decide (wr = "late")) dh df))=H5 at *
 refine k ⟨p,rp,ls,aq,du,dh,df⟩ _ rfl ⟨⟨⟨dx,e5⟩,R5,⟨_,d5⟩,⟨_,f5⟩,λz=>?_,aI4 LY,λz=>?_,λx hx=>?_,λx hx=>?_⟩,⟨[],λ_=>p,d5,KI.nil,λ_=>rfl,(λb m=>absurd m (by simp [m9])),λb m=>absurd m (by simp [m9])⟩,⟨[],f5,KI.nil,λ_=>rfl⟩,λb h=>by cases h⟩ k5
 .have z:du=dh:=z
  rw [← z,g] at yk; cases yk
 .have z:df=du:=z
  rw [z,g4] at hdf; cases hdf
 .obtain ⟨dr5,r5⟩:=R5.ob
  obtain ⟨ku5,u5,_⟩:=R5.dc
  rcases hx with rfl | rfl | rfl | hx | rfl | rfl | rfl
  .exact .inl rfl
  .exact .inr ⟨AB,by rw [r5]; simp⟩
  .exact .inr ⟨f1,by rw [R5.st.top]; simp⟩
  .obtain ⟨xs,q⟩:=R5.st.one hx
   exact .inr ⟨f3 x hx,by rw [q]; simp⟩
  .exact .inr ⟨f2,by rw [u5]; simp⟩
  .exact .inr ⟨MQ,by rw [d5]; simp⟩
  .exact .inr ⟨MR,by rw [f5]; simp⟩
 .rcases hx with rfl | hx
  .rw [e5]; simp
  .exact hx.2
end
section
def Bp (K:W.Frag):Sp:=λvs H Q _=>∃ (a:SA) (c:Cf) (s:Rm) (O:Addr->Prop) (b:Int),vs=[.ref a.sp,.int b]/\az K H a c s O/\Q (.bl (decide (b∈s.seq))) H
theorem ZgY (F:aY K "has" "Store.has" Kf f fd) (T:Txt K mg) (sP:ay P w K mg base (aa K "Room") "has" 1 BU (nI K)):au P w K mg base aW 2 f fd yL (Bp K):=by
 refine F.ok gX (λvs H Q E h=>?_) (λcdv A outer st H vs Q E hr h=>?_)
 .obtain ⟨a,c,s,O,b,rfl,_⟩:=h
  rfl
 obtain ⟨a,c,s,O,b,rfl,S,k⟩:=h
 have nd:=gX.nd
 refine ⟨_,(Zi (Zt (Zk sP hr.m T.fZ (Zl (K:=K) rfl (pv 0) rfl) (pc (pv 1) Zb)))),?_⟩
 obtain ⟨dx,h1⟩:=S.aT.ob
 obtain ⟨dr,h2⟩:=S.aT.room.ob
 exact ⟨_,rfl,a.sp,_,dx,_,_,rfl,h1,T.eG,T.uD,xo ..,a.rp,dr,_,rfl,h2,bS ..,_,rfl,a.rp,b,c.sh,c.pl,c.ru,a.ls,a.aq,a.du,s.seq,s.us,_,rfl,S.aT.room,k⟩
def p8 (K:W.Frag):Sp:=λvs H Q _=>∃ (p dx rp dh df:Addr) (late:Bool) (kvs:List (Key×V)) (b:Int) (lw:Addr) (zs:List V),vs=[.ref p,.int b,.ref lw]/\H p=some (.ins (aa K "Store") dx (bE rp late dh df))/\H dh=some (.dK kvs)/\kvs.length<=900/\H lw=some (.lst zs) /\
 ∀ l,H l=none->Q .aR (upd (upd H l (.lst zs)) dh (.dK (putK kvs (Sum.inl b) (.ref l))))
theorem ZgZ (F:aY K "lay" "Store.lay" Ke f fd) (T:Txt K mg):au P w K mg base aW 1 f fd En (p8 K):=by
 refine F.ok gW (λvs H Q E h=>?_) (λcdv A outer st H vs Q E hr h=>?_)
 .obtain ⟨p,dx,rp,dh,df,late,kvs,b,lw,zs,rfl,_⟩:=h
  rfl
 obtain ⟨p,dx,rp,dh,df,late,kvs,b,lw,zs,rfl,hp,hd,hl,hw,k⟩:=h
 have nd:=gW.nd
 have hu:=bJ hr
 refine ⟨_,(Zi (By hu (Zl (K:=K) rfl (pv 0) rfl) (pv 1) (vj (Eu (K:=K) rfl) rfl T.pX ZU (pc (pv 2) Zb)) rfl)),?_⟩
 refine ⟨_,rfl,lw,_,rfl,.inl (aG.of hw),λl hl'=>?_⟩
 have s1:=Zf hl' (.lst zs)
 exact ⟨_,rfl,p,_,dx,_,_,rfl,s1 _ _ hp,T.eG,T.yP,D3 ..,_,rfl,dh,_,rfl,jO.k (k:=Sum.inl b) (s1 _ _ hd) (ZE (by lia)),k l hl'⟩
def Au (s:Rm) (b:Int) (ws:List Int):Rm:=⟨s.seq++[b],zero s.us b,λx=>if x=b then ws else s.wd x,s.fr⟩
def jV (s:Rm) (b:Int):Rm:=⟨s.seq.erase b,s.us,s.wd,λx=>if x=b then false else s.fr x⟩
def jE (s:Rm) (b:Int) (ws:List Int):Rm:=⟨s.seq,s.us,λx=>if x=b then ws else s.wd x,s.fr⟩
def ym (s:Rm) (b:Int):Rm:=⟨s.seq,s.us,s.wd,λx=>if x=b then true else s.fr x⟩
def PV (K:W.Frag):Sp:=λvs H Q _=>∃ (a:SA) (c:Cf) (s:Rm) (O:Addr->Prop) (b:Int) (lw:Addr) (ws:List Int),vs=[.ref a.sp,.int b,.ref lw]/\az K H a c s O/\Tb K H/\H lw=some (.lst (ws.map V.int))/\¬ O lw/\b∉s.seq/\s.seq.length<=800/\1<=c.pl/\c.pl<=16/\((Zn c.sh (b % c.sh) s.seq).length:Int)<c.pl /\
 ∀ H' O',az K H' a c (Au s b ws) O'->bM O H H' O'->Q .aR H'
theorem Zea (F:aY K "take_in" "Store.take_in" Ky f fd) (T:Txt K mg) (EY:ay P w K mg base (aa K "Room") "bring" 4 JW (Oe K)) (xK:ay P w K mg base (aa K "Store") "lay" 1 En (p8 K)):au P w K mg base aW 5 f fd Kw (PV K):=by
 refine F.ok dM (λvs H Q E h=>?_) (λcdv A outer st H vs Q E hr h=>?_)
 .obtain ⟨a,c,s,O,b,lw,ws,rfl,_⟩:=h
  rfl
 obtain ⟨a,c,s,O,b,lw,ws,rfl,S,tb,kY,hO,hb,hsl,hpl,UG,hsh,k⟩:=h
 have nd:=dM.nd
 refine ⟨_,(Ze (Zp (Zk EY hr.m T.fZ (Zl (K:=K) rfl (pv 0) rfl) (pc (pv 1) Zb)))
   (Zi (Zp (Zk xK hr.m T.eG (pv 0) (pc (pv 1) (pc (pv 2) Zb)))))),?_⟩
 obtain ⟨dx,h1⟩:=S.aT.ob
 obtain ⟨dr,h2⟩:=S.aT.room.ob
 refine ⟨_,rfl,a.sp,_,dx,_,_,rfl,h1,T.eG,T.uD,xo ..,a.rp,dr,_,rfl,h2,bS ..,_,rfl,a.rp,b,c.sh,c.pl,c.ru,a.ls,a.aq,a.du,s.seq,s.us,_,rfl,S.aT.room,tb,by lia,hb,hpl,by lia,λgone G gp R1 r1=>?_⟩
 obtain rfl:gone=none:=gp.1 hsh
 obtain ⟨kvs,wl,h3⟩:=S.held
 obtain ⟨kf,h4,h5⟩:=S.fresh
 have kl:=S.jY h3
 have p1:=S.aT.eB r1
 have h3:=S.aT.Hg h3 r1
 have h4:=r1 _ _ h4 S.aT.n3 (S.aT.kinds h4).2.2.2
 have S1:=S.aT.iy R1 r1
 obtain ⟨dx,h1⟩:=S1.ob
 refine ⟨_,rfl,a.sp,dx,_,rfl,h1,bT ..,_,rfl,_,rfl,a.sp,dx,a.rp,a.dh,a.df,c.late,kvs,b,lw,_,rfl,h1,h3.dc,by lia,p1.kp _ _ kY (λh=>absurd h hO),λl hl=>?_⟩
 obtain ⟨S2,p2⟩:=S1.laid h3 ws hl (seq':=s.seq++[b]) (b:=b) (λx=>by rw [mem_append,mem_singleton]; exact Or.comm)
 exact k _ _ ⟨S2.1,⟨_,_,S2.2⟩,⟨kf,by rw [Zc S.aT.n2]; exact Zf hl _ _ _ h4,h5⟩,λx h=>ahE _ (S.qQ x h)⟩ (p1.trans p2)
def Qo (K:W.Frag):Sp:=λvs H Q _=>∃ (a:SA) (c:Cf) (s:Rm) (O:Addr->Prop) (b:Int),vs=[.ref a.sp,.int b]/\az K H a c s O/\b∈s.seq /\
 ∀ (t l:Addr) (H':Hp) (O':Addr->Prop),H' t=some (.tup [.ref l,.bl (s.fr b)])->H' l=some (.lst ((s.wd b).map V.int))->¬ O' l->az K H' a c (jV s b) O'->bM O H H' O'->(O l\/H l=none)->Q (.ref t) H'
theorem ZdJ (F:aY K "give_out" "Store.give_out" Lf f fd) (T:Txt K mg) (xM:ay P w K mg base (aa K "Room") "drop" 3 Ew (HS K)):au P w K mg base aW 4 f fd Le (Qo K):=by
 refine F.ok cZ (λvs H Q E h=>?_) (λcdv A outer st H vs Q E hr h=>?_)
 .obtain ⟨a,c,s,O,b,rfl,_⟩:=h
  rfl
 obtain ⟨a,c,s,O,b,rfl,S,hb,k⟩:=h
 have nd:=cZ.nd
 refine ⟨_,(Ze (Zp (Zk xM hr.m T.fZ (Zl (K:=K) rfl (pv 0) rfl) (pc (pv 1) Zb)))
   (Zi (Zt (j6 (pc (Jg (Zl (K:=K) rfl (pv 0) rfl) (pv 1) ⟨rfl,rfl,rfl,rfl⟩) (pc (Qg (Zl (K:=K) rfl (pv 0) rfl) (pv 1) i7 ⟨rfl,rfl,rfl,rfl⟩) Zb)))))),?_⟩
 obtain ⟨dx,h1⟩:=S.aT.ob
 obtain ⟨dr,h2⟩:=S.aT.room.ob
 refine ⟨_,rfl,a.sp,_,dx,_,_,rfl,h1,T.eG,T.uD,xo ..,a.rp,dr,_,rfl,h2,bS ..,_,rfl,a.rp,b,c.sh,c.pl,c.ru,a.ls,a.aq,a.du,s.seq,s.us,_,rfl,S.aT.room,hb,λG R1 r1=>?_⟩
 obtain ⟨kvs,wl,h3⟩:=S.held
 obtain ⟨kf,h4,h5,h6⟩:=S.fresh
 have p1:=S.aT.eB r1
 have h3:=S.aT.Hg h3 r1
 have h4:=r1 _ _ h4 S.aT.n3 (S.aT.kinds h4).2.2.2
 have S1:=S.aT.iy R1 r1
 obtain ⟨dx,h1⟩:=S1.ob
 have vb:=h3.v b
 rw [bb9 hb] at vb
 obtain ⟨w1,w2,w3,w4⟩:=h3.at_ b hb
 refine ⟨_,rfl,a.sp,_,dx,_,_,rfl,h1,T.eG,T.yP,D3 ..,a.dh,rfl,.inl ⟨_,.inl h3.dc⟩,_,rfl,kvs,Sum.inl b,_,h3.dc,rfl,vb,?_⟩
 have nn:s.seq.Nodup:=S.aT.room.nd
 have H3:=h3.pop nn hb S1
 have S2:=S1.put (x:=a.dh) (.inl rfl) (aV kvs (Sum.inl b))
 have p2:=p1.trans (S1.ql (x:=a.dh) (.inl rfl) (aV kvs (Sum.inl b)))
 have h4:upd G a.dh (.dK (aV kvs (Sum.inl b))) a.df=some (.dK kf):=by rw [Zc S.aT.n2]; exact h4
 have w1:upd G a.dh (.dK (aV kvs (Sum.inl b))) (wl b)=some (.lst ((s.wd b).map V.int)):=by rw [Zc (λz=>by rw [z,h3.dc] at w1; cases w1)]; exact w1
 generalize upd G a.dh (.dK (aV kvs (Sum.inl b)))=G2 at *
 obtain ⟨dx,h1⟩:=S2.ob
 have fin:∀ (G3:Hp) (Ak:List (Key×V)),gz K G3 a c (s.seq.erase b) s.us O->bM O H G3 O->bO G3 a.dh a.ls a.aq (λx=>O x/\x≠wl b) (s.seq.erase b) s.wd (aV kvs (Sum.inl b)) wl->G3 a.df=some (.dK Ak)->KI Ak->(∀ x,aN Ak (Sum.inl x:Key)=if (jV s b).fr x=true then some (.bl true) else none)->G3 (wl b)=some (.lst ((s.wd b).map V.int)) ->
   2<=sizeLine/\∀ t,G3 t=none->Q (.ref t) (upd G3 t (.tup [.ref (wl b),.bl (s.fr b)])):=λG3 Ak S3 p3 h3' e1 e2 e3 e4=>by
  refine ⟨by decide,λt ht=>?_⟩
  have sm:=Zf ht (.tup [.ref (wl b),.bl (s.fr b)])
  have core:∀ x,x=a.sp\/x=a.rp\/x=a.ls\/x∈a.aq\/x=a.du\/x=a.dh\/x=a.df->O x/\x≠wl b:=λx m=>⟨S3.own x m,λz=>by
   subst z
   rcases m with m | m | m | m | m | m | m
   .obtain ⟨d,q⟩:=S3.ob; rw [← m,e4] at q; cases q
   .obtain ⟨d,q⟩:=S3.room.ob; rw [← m,e4] at q; cases q
   .exact w4 m
   .exact w3 m
   .obtain ⟨d,q,_⟩:=S3.room.dc; rw [← m,e4] at q; cases q
   .obtain ⟨d,q⟩:=S3.d1; rw [← m,e4] at q; cases q
   .rw [← m,e4] at e1; cases e1⟩
  have S4:=(S3.mono core λx h=>S3.ex x h.1).same sm
  refine k t (wl b) _ (λx=>O x/\x≠wl b) Za (sm _ _ e4) (λh=>h.2 rfl) ⟨S4,⟨_,_,h3'.frame (core _ (by simp)) λx o _ e=>sm x o e⟩,⟨Ak,sm _ _ e1,e2,e3⟩,λx h=>?_⟩ ⟨λx o e n=>sm _ _ (p3.kp x o e n),λx h=>.inl h.1⟩ (.inl w2)
  have h:(if x=b then false else s.fr x)=true:=h
  by_cases z:x=b
  .rw [bb9 z] at h; cases h
  .rw [aYW z] at h
   exact (afM nn).mpr ⟨z,S.qQ x h⟩
 refine ⟨_,rfl,a.sp,_,dx,_,_,rfl,h1,T.eG,T.xY,BD ..,a.df,rfl,.inl ⟨_,.inl h4⟩,_,rfl,kf,Sum.inl b,h4,rfl,λv hv=>?_,λhv=>?_⟩
 .have hf:s.fr b=true:=by
   by_cases z:s.fr b=true
   .exact z
   .rw [h6 b,aYW z] at hv; cases hv
  rw [h6 b,bb9 hf] at hv
  cases hv
  have S3:=S2.put (x:=a.df) (.inr rfl) (aV kf (Sum.inl b))
  have fin:=fin _ (aV kf (Sum.inl b)) S3 (p2.trans (S2.ql (x:=a.df) (.inr rfl) _)) ⟨by rw [Zc (aI4 S.aT.n2)]; exact H3.dc,H3.ki,H3.v,λx m=>⟨by rw [Zc (λz=>by have q:=(H3.at_ x m).1; rw [z,h4] at q; cases q)]; exact (H3.at_ x m).1,(H3.at_ x m).2⟩,H3.inj⟩ Za (h5.drop b) (λx=>?_) (by rw [Zc (λz=>by rw [z,h4] at w1; cases w1)]; exact w1)
  .rw [hf] at fin
   exact fin
  .rw [BE]
   by_cases z:x=b
   .rw [bb9 (by rw [z])]
    unfold jV
    simp [z]
   .rw [aYW (λq=>z (akX q)),h6 x]
    unfold jV
    simp [z]
 .have hf:s.fr b=false:=by
   cases z:s.fr b with
   | false=>rfl
   | true=>rw [h6 b,bb9 z] at hv; cases hv
  have fin:=fin _ kf S2 p2 H3 h4 h5 (λx=>?_) w1
  .rw [hf] at fin
   exact fin
  .rw [h6 x]
   unfold jV
   by_cases z:x=b
   .simp [z,hf]
   .simp [z]
end
section
def BL (K:W.Frag):Sp:=λvs H Q _=>∃ (a:SA) (c:Cf) (s:Rm) (O:Addr->Prop) (b:Int),vs=[.ref a.sp,.int b]/\az K H a c s O/\b∈s.seq/\∀ l,H l=none->Q (.ref l) (upd H l (.lst ((s.wd b).map V.int)))
theorem ZdK (F:aY K "words_of" "Store.words_of" Ld f fd) (T:Txt K mg) (sJ:ay P w K mg base (aa K "Room") "need" 2 BO (DG K)):au P w K mg base aW 3 f fd ZA (BL K):=by
 refine F.ok cW (λvs H Q E h=>?_) (λcdv A outer st H vs Q E hr h=>?_)
 .obtain ⟨a,c,s,O,b,rfl,_⟩:=h
  rfl
 obtain ⟨a,c,s,O,b,rfl,S,hb,k⟩:=h
 have nd:=cW.nd
 have hu:=bJ hr
 refine ⟨_,(Ze (Zp (Zk sJ hr.m T.fZ (Zl (K:=K) rfl (pv 0) rfl) (pc (pv 1) Zb)))
   (Zi (Zt (vj (Eu (K:=K) rfl) rfl T.pX ZU (pc (BA hu (Zl (K:=K) rfl (pv 0) rfl) (pv 1) (λ_ _=>rfl)) Zb))))),?_⟩
 obtain ⟨dx,h1⟩:=S.aT.ob
 obtain ⟨dr,h2⟩:=S.aT.room.ob
 obtain ⟨kvs,wl,h3⟩:=S.held
 have vb:=h3.v b
 rw [bb9 hb] at vb
 refine ⟨_,rfl,a.sp,_,dx,_,_,rfl,h1,T.eG,T.uD,xo ..,a.rp,dr,_,rfl,h2,bS ..,_,rfl,a.rp,b,c.sh,c.pl,c.ru,a.ls,a.aq,a.du,s.seq,s.us,_,rfl,S.aT.room,hb,?_⟩
 exact ⟨_,rfl,a.sp,_,dx,_,_,rfl,h1,T.eG,T.yP,D3 ..,_,rfl,a.dh,_,rfl,(by have q:=eu.k (k:=Sum.inl b) h3.dc; rw [vb] at q; exact q),wl b,_,rfl,.inl (aG.of (h3.at_ b hb).1),k⟩
theorem az.lay {H:Hp} {a:SA} {c:Cf} {s:Rm} {O:Addr->Prop} (S:az K H a c s O) {b:Int} (hb:b∈s.seq) (ws:List Int) {Q:Hp->Prop} (k:∀ H' O',az K H' a c (jE s b ws) O'->bM O H H' O'->Q H') :
  ∃ dx kvs,H a.sp=some (.ins (aa K "Store") dx (bE a.rp c.late a.dh a.df))/\H a.dh=some (.dK kvs)/\kvs.length=s.seq.length/\∀ l,H l=none->Q (upd (upd H l (.lst (ws.map V.int))) a.dh (.dK (putK kvs (Sum.inl b) (.ref l)))):=by
 obtain ⟨dx,h1⟩:=S.aT.ob
 obtain ⟨kvs,wl,h3⟩:=S.held
 obtain ⟨kf,h4,h5⟩:=S.fresh
 refine ⟨dx,kvs,h1,h3.dc,S.jY h3,λl hl=>?_⟩
 obtain ⟨S2,p2⟩:=S.aT.laid h3 ws hl (seq':=s.seq) (b:=b) (λx=>⟨.inr,λm=>m.elim (λz=>z ▸ hb) id⟩)
 exact k _ _ ⟨S2.1,⟨_,_,S2.2⟩,⟨kf,by rw [Zc S.aT.n2]; exact Zf hl _ _ _ h4,h5⟩,S.qQ⟩ p2
theorem gz.lst {H:Hp} {a:SA} {c:Cf} {seq:List Int} {us:Int->Int} {O:Addr->Prop} (S:gz K H a c seq us O) {l:Addr} {xs:List V} (hl:H l=some (.lst xs)) (n1:l≠a.ls) (n2:l∉a.aq) (u:List V):gz K (upd H l (.lst u)) a c seq us O:=by
 obtain ⟨dx,h1⟩:=S.ob
 obtain ⟨dr,h2⟩:=S.room.ob
 obtain ⟨kr,h3,_⟩:=S.room.dc
 obtain ⟨k1,h4⟩:=S.d1
 obtain ⟨k2,h5⟩:=S.d2
 have ne:∀ {y o},H y=some o->(∀ xs,o≠.lst xs)->upd H l (.lst u) y=some o:=λ{y o} e n=>by rw [Zc (λz=>by rw [z,hl] at e; exact n xs (a6S e).symm)]; exact e
 have R:aD K (upd H l (.lst u)) a.rp c.sh c.pl c.ru a.ls a.aq a.du seq us seq.length:=S.room.frame λy o m e=>by
  rw [Zc (λz:y=l=>by
   subst z
   rcases m with m | m | m | m
   .rw [m,h2] at hl; cases hl
   .exact n1 m
   .exact n2 m
   .rw [m,h3] at hl; cases hl)]
  exact e
 exact ⟨⟨dx,ne h1 (λ_ z=>by cases z)⟩,R,⟨k1,ne h4 (λ_ z=>by cases z)⟩,⟨k2,ne h5 (λ_ z=>by cases z)⟩,S.n1,S.n2,S.n3,S.own,λy h=>HR (S.ex y h)⟩
def Qn (K:W.Frag):Sp:=λvs H Q _=>∃ (a:SA) (c:Cf) (s:Rm) (O:Addr->Prop) (b i x:Int),vs=[.ref a.sp,.int b,.int i,.int x]/\az K H a c s O/\b∈s.seq/\0<=i/\i<(s.wd b).length/\∀ H',az K H' a c (jE s b ((s.wd b).set i.toNat x)) O->bM O H H' O->Q .aR H'
theorem ZdL (F:aY K "lay_word" "Store.lay_word" Lc f fd) (T:Txt K mg):au P w K mg base aW 1 f fd Lb (Qn K):=by
 refine F.ok cX (λvs H Q E h=>?_) (λcdv A outer st H vs Q E hr h=>?_)
 .obtain ⟨a,c,s,O,b,i,x,rfl,_⟩:=h
  rfl
 obtain ⟨a,c,s,O,b,i,x,rfl,S,hb,i0,i1,k⟩:=h
 have nd:=cX.nd
 have hu:=bJ hr
 refine ⟨_,(Zi (lY (pv 3) (wZ (BA hu (Zl (K:=K) rfl (pv 0) rfl) (pv 1) (λ_ _=>rfl)) (pv 2) xu))),?_⟩
 obtain ⟨dx,h1⟩:=S.aT.ob
 obtain ⟨kvs,wl,h3⟩:=S.held
 obtain ⟨kf,h4,h5⟩:=S.fresh
 have vb:=h3.v b
 rw [bb9 hb] at vb
 obtain ⟨w1,w2,w3,w4⟩:=h3.at_ b hb
 refine ⟨_,rfl,_,rfl,a.sp,_,dx,_,_,rfl,h1,T.eG,T.yP,D3 ..,_,rfl,a.dh,_,rfl,(by have q:=eu.k (k:=Sum.inl b) h3.dc; rw [vb] at q; exact q),_,rfl,wl b,_,i,i.toNat,rfl,rfl,w1,?_,?_⟩
 .unfold pS
  rw [bb9 i0,bb9 (by rw [aUH]; exact i1)]
 .rw [← map_set]
  refine k _ ⟨S.aT.lst w1 w4 w3 _,⟨kvs,wl,by rw [Zc (λz=>by rw [← z,h3.dc] at w1; cases w1)]; exact h3.dc,h3.ki,h3.v,λy m=>?_,h3.inj⟩,⟨kf,by rw [Zc (λz=>by rw [← z,h4] at w1; cases w1)]; exact h4,h5⟩,S.qQ⟩ ⟨λy o e n=>?_,λ_ h=>.inl h⟩
  .show _=some (HO.lst ((if y=b then (s.wd b).set i.toNat x else s.wd y).map V.int))/\_
   by_cases z:y=b
   .rw [bb9 z,z,Za]
    exact ⟨rfl,w2,w3,w4⟩
   .obtain ⟨e1,e2⟩:=h3.at_ y m
    rw [aYW z,Zc (λq=>z (h3.inj y m b hb q))]
    exact ⟨e1,e2⟩
  .rw [Zc (λz=>?_)]
   .exact e
   .rw [z,w1] at e
    cases e
    exact n (z ▸ w2) trivial
def JD (K:W.Frag):Sp:=λvs H Q _=>∃ (a:SA) (c:Cf) (s:Rm) (O:Addr->Prop) (b:Int),vs=[.ref a.sp,.int b]/\az K H a c s O/\b∈s.seq/\s.seq.length<=800/\∀ H',az K H' a c (ym s b) O->bM O H H' O->Q .aR H'
theorem Zeb (F:aY K "freshen" "Store.freshen" Kv f fd) (T:Txt K mg):au P w K mg base aW 1 f fd EA (JD K):=by
 refine F.ok dN (λvs H Q E h=>?_) (λcdv A outer st H vs Q E hr h=>?_)
 .obtain ⟨a,c,s,O,b,rfl,_⟩:=h
  rfl
 obtain ⟨a,c,s,O,b,rfl,S,hb,hl,k⟩:=h
 have nd:=dN.nd
 have hu:=bJ hr
 refine ⟨_,(Zi (By hu (Zl (K:=K) rfl (pv 0) rfl) (pv 1) i7 rfl)),?_⟩
 obtain ⟨dx,h1⟩:=S.aT.ob
 obtain ⟨kvs,wl,h3⟩:=S.held
 obtain ⟨kf,h4,h5,h6⟩:=S.fresh
 have fl:=S.Vb h5 h6
 refine ⟨_,rfl,a.sp,_,dx,_,_,rfl,h1,T.eG,T.xY,BD ..,_,rfl,a.df,_,rfl,jO.k (k:=Sum.inl b) h4 (ZE (by lia)),?_⟩
 have S2:=S.aT.put (x:=a.df) (.inr rfl) (putK kf (Sum.inl b) (.bl true))
 refine k _ ⟨S2,⟨kvs,wl,by rw [Zc (aI4 S.aT.n2)]; exact h3.dc,h3.ki,h3.v,λx m=>⟨by rw [Zc (λz=>by have q:=(h3.at_ x m).1; rw [z,h4] at q; cases q)]; exact (h3.at_ x m).1,(h3.at_ x m).2⟩,h3.inj⟩,⟨_,Za,h5.put b _,λx=>?_⟩,λx h=>?_⟩ (S.aT.ql (x:=a.df) (.inr rfl) _)
 .rw [yG]
  show _=if (if x=b then true else s.fr x)=true then _ else _
  by_cases z:x=b
  .rw [bb9 (by rw [z]),bb9 z,bb9 rfl]
  .rw [aYW (λq=>z (akX q)),h6 x,aYW z]
 .by_cases z:x=b
  .exact z ▸ hb
  .exact S.qQ x ((aYW z:(if x=b then true else s.fr x)=s.fr x).symm.trans h)
end
section
def Bv:Sp:=λvs H Q _=>∃ s p:Int,vs=[.int s,.int p]/\0<s/\s<1073741824/\Q (.int (p / s)) H
theorem ZhN (F:aY K "board_of" "board_of" JP f fd) (T:Txt K mg):au P w K mg base aW 1 f fd yH Bv:=by
 refine F.ok iV (λvs H Q E h=>?_) (λcdv A outer s H vs Q E hr h=>?_)
 .obtain ⟨s,p,rfl,_⟩:=h
  rfl
 obtain ⟨s,p,rfl,h0,h1,k⟩:=h
 have nd:=iV.nd
 refine ⟨_,(Zi (Zt (ak yz (pv 1) (pv 0)))),?_⟩
 exact ⟨_,rfl,_,rfl,_,_,rfl,rfl,⟨h0,h1⟩,k⟩
def gS (s b:Int):List V:=(List.range s.toNat).map λk=>V.int (b * s+(k:Nat))
def IX:Sp:=λvs H Q _=>∃ s b:Int,vs=[.int s,.int b]/\0<s/\s<=1000/\0<=b/\b<=1000000/\∀ (r:Addr) (H':Hp),H r=none->aB H H'->H' r=some (.lst (gS s b))->Q (.ref r) H'
theorem Wf {b s:Int} (h0:0<=b) (h1:b<=1000000) (s0:0<s) (s1:s<=1000):0<=b * s/\b * s<=1000000000:=by
 refine ⟨Int.mul_nonneg h0 (by lia),?_⟩
 exact agt (Int.mul_le_mul_of_nonneg_right h1 (by lia)) (Int.mul_le_mul_of_nonneg_left s1 (by decide))
theorem ZhP (F:aY K "spots_of" "spots_of" JO f fd) (T:Txt K mg):au P w K mg base aW 1 f fd Ep IX:=by
 refine F.ok iS (λvs H Q E h=>?_) (λcdv A outer s H vs Q E hr h=>?_)
 .obtain ⟨s,p,rfl,_⟩:=h
  rfl
 obtain ⟨s,b,rfl,s0,s1,b0,b1,k⟩:=h
 have nd:=iS.nd
 refine ⟨_,(Ze (eB 2 nd (ak o9 (pv 1) (pv 0)))
   (Zi (Zt (ZgA rfl rfl T.pX rfl T.oR (pc (pv 2) (pc (ak ZO (pv 2) (pv 0)) Zb)))))),?_⟩
 obtain ⟨m0,m1⟩:=Wf b0 b1 s0 s1
 have e:(b * s+s - b * s).toNat=s.toNat:=by lia
 refine ⟨_,rfl,_,rfl,_,_,rfl,rfl,.inl ⟨by lia,by lia⟩,?_⟩
 refine ⟨_,rfl,_,rfl,_,rfl,_,_,rfl,rfl,_,_,rfl,⟨by lia,by lia,by lia,by lia⟩,?_⟩
 rw [e]
 refine ⟨aS5 (ZE (by lia)),λp hp=>?_⟩
 exact k p _ hp (Zf hp _) Za
def jD (size:Int) (dk:Addr):List (Str×V):=ai "kept" (.ref dk) (ai "size" (.int size) [])
theorem DZ (size:Int) (dk:Addr):(jD size dk).lookup ("kept" : Str)=some (.ref dk):=by
 unfold jD; rw [Zh,bb9 rfl]
theorem Oa (size:Int) (dk:Addr):(jD size dk).lookup ("size" : Str)=some (.int size):=by
 unfold jD; rw [Zh,aYW (by decide +kernel),Zh,bb9 rfl]
theorem qx (size:Int) (dk:Addr) {m:Str} (h1:¬ m = "kept" := by decide +kernel) (h2:¬ m = "size" := by decide +kernel):(jD size dk).lookup m=none:=by
 unfold jD
 rw [Zh,aYW h1,Zh,aYW h2]
 rfl
structure d9 (K:W.Frag) (H:Hp) (bm dk:Addr) (size:Int) (mem:Int->Int) (U:List Int):Prop where
 ob:∃ dx,H bm=some (.ins (aa K "Memory") dx (jD size dk))
 kept:∃ kvs,H dk=some (.dK kvs)/\KI kvs/\∀ s,aN kvs (Sum.inl s:Key)=if mem s=0 then none else some (.int (mem s))
 sup:∀ s,mem s≠0->s / size∈U
theorem d9.frame {H H':Hp} {bm dk:Addr} {size:Int} {mem:Int->Int} {U:List Int} (m:d9 K H bm dk size mem U) (f:∀ x o,x=bm\/x=dk->H x=some o->H' x=some o):d9 K H' bm dk size mem U:=by
 obtain ⟨dx,e⟩:=m.ob
 obtain ⟨kvs,e2,r⟩:=m.kept
 exact ⟨⟨dx,f _ _ (.inl rfl) e⟩,⟨kvs,f _ _ (.inr rfl) e2,r⟩,m.sup⟩
theorem N9 {size:Int} {mem:Int->Int} {U:List Int} {kvs:List (Key×V)} (z0:0<size) (h:KI kvs) (v:∀ s,aN kvs (Sum.inl s:Key)=if mem s=0 then none else some (.int (mem s))) (sup:∀ s,mem s≠0->s / size∈U):kvs.length<=U.length * size.toNat:=by
 obtain ⟨ks,e,nd⟩:=h
 have l:=a5E List.length e
 rw [aUH,aUH] at l
 rw [l]
 have q:=xg nd (b:=U.flatMap λb=>(List.range size.toNat).map λk=>b * size+(k:Nat)) λs m=>?_
 .refine auj q (Nat.le_of_eq ?_)
  clear q sup
  induction U with
  | nil=>simp
  | cons x U ih=>rw [List.flatMap_cons,aAe,ih,aUH,arL,a23,Nat.succ_mul,Nat.add_comm]
 .have q:=tT (kvs:=kvs) (Sum.inl s)
  rw [v s,e] at q
  have hs:=q.mpr (ar1 m)
  have nz:mem s≠0:=λz=>by rw [bb9 z] at hs; cases hs
  rw [List.mem_flatMap]
  have m0:0<=s % size:=aA2 _ (by lia)
  have m1:s % size<size:=aUu _ (by lia)
  refine ⟨s / size,sup s nz,auF.mpr ⟨(s % size).toNat,alC.mpr (by lia),?_⟩⟩
  have:=am9 s size
  rw [Int.toNat_of_nonneg m0,Int.mul_comm]
  exact this
def ur (K:W.Frag):Sp:=λvs H Q _=>∃ (p dx:Addr) (size:Int),vs=[.ref p,.int size]/\H p=some (.ins (aa K "Memory") dx []) /\
 ∀ (dk:Addr) (H':Hp),(∀ U,d9 K H' p dk size (λ_=>0) U)->H dk=none->(∀ b o,H b=some o->b≠p->H' b=some o)->Q .aR H'
theorem ZeZ (F:aY K "__init__" "Memory.__init__" J8 f fd) (T:Txt K mg):au P w K mg base aW 1 f fd J7 (ur K):=by
 refine F.ok fM (λvs H Q E h=>?_) (λcdv A outer st H vs Q E hr h=>?_)
 .obtain ⟨p,dx,size,rfl,_⟩:=h
  rfl
 obtain ⟨p,dx,size,rfl,hp,k⟩:=h
 have nd:=fM.nd
 refine ⟨_,(Ze (lX (pv 0) (pv 1) rfl)
   (Zi (lX (pv 0) yF rfl))),?_⟩
 refine ⟨_,rfl,_,rfl,p,_,dx,_,rfl,hp,T.qj,T.E5,(by show 0<1000; decide),λdk Dm=>?_⟩
 have np:p≠dk:=Zd (Za (H:=H) (a:=p) (o:=.ins (aa K "Memory") dx (ai "size" (.int size) []))) Dm
 refine ⟨_,rfl,p,_,dx,_,rfl,(by rw [Zc np]; exact Za),T.qj,T.yQ,(by show 1<1000; decide),?_⟩
 rw [Zc (aI4 np)] at Dm
 refine k dk _ (λU=>⟨⟨dx,Za⟩,⟨[],by rw [Zc (aI4 np)]; exact Za,KI.nil,λ_=>rfl⟩,λs h=>absurd rfl h⟩) Dm λx o e n=>?_
 rw [Zc n,Zc (Zd e Dm),Zc n]
 exact e
def aS (size:Int) (mem:Int->Int) (b:Int):List Int:=(List.range size.toNat).map λk=>mem (b * size+(k:Nat))
def gG (size:Int) (mem:Int->Int) (b:Int) (ws:List Int) (i:Nat):Int->Int:=λs=>if b * size<=s/\s<b * size+i then ws.getD (s - b * size).toNat 0 else mem s
def lM (size:Int) (mem:Int->Int) (b:Int) (ws:List Int):Int->Int:=gG size mem b ws size.toNat
theorem PU {s b:Int} {i:Nat} {x:V} (h:(gS s b)[i]?=some x):x=.int (b * s+(i:Nat))/\i<s.toNat:=by
 unfold gS at h
 rw [aJm] at h
 by_cases c:i<s.toNat
 .rw [aWR c] at h
  exact ⟨(a6S h).symm,c⟩
 .rw [aav (by rw [arL]; lia)] at h
  cases h
def PR (K:W.Frag):Sp:=λvs H Q _=>∃ (bm dk:Addr) (size b:Int) (mem:Int->Int) (U:List Int),vs=[.ref bm,.int b]/\d9 K H bm dk size mem U/\0<size/\size<=1000/\0<=b/\b<=1000000/\∀ l H',H l=none->aB H H'->H' l=some (.lst ((aS size mem b).map V.int))->Q (.ref l) H'
theorem Zdr (F:aY K "words_of" "Memory.words_of" ZX f fd) (T:Txt K mg) (xH:Def P w K mg base "spots_of" 1 Ep IX):au P w K mg base aW 2 f fd Lh (PR K):=by
 refine F.ok cJ (λvs H Q E h=>?_) (λcdv A outer st H vs Q E hr h=>?_)
 .obtain ⟨bm,dk,size,b,mem,U,rfl,_⟩:=h
  rfl
 obtain ⟨bm,dk,size,b,mem,U,rfl,M,z0,z1,b0,b1,k⟩:=h
 have nd:=cJ.nd
 have hu:=bJ hr
 refine ⟨_,(Zi (Zt (vh (sj (gy:=(Zg ZX)) (oN:=bN) (N:=["spot", "self"]) (own:=1) (js:=[0]) (by decide +kernel) rfl rfl) rfl (Ef (K:=K) rfl (Zm xH hr.m rfl (pc (Zl (K:=K) rfl (pv 0) rfl) (pc (pv 1) Zb)))) (λ_ _ _ _ _ _=>(ck 0 (show List.Nodup (["spot", "self"]:List Str) by decide +kernel))) (λ_ _ _ _ _ _=>(Ph hu (Zl (K:=K) rfl (pv 1) rfl) (pv 0) Zj ⟨rfl,rfl,rfl,rfl⟩))))),?_⟩
 obtain ⟨dx,h1⟩:=M.ob
 obtain ⟨kvs,h2,h3,h4⟩:=M.kept
 refine ⟨_,rfl,bm,_,dx,_,_,rfl,h1,T.qj,T.E5,Oa ..,_,rfl,size,b,rfl,z0,z1,b0,b1,λr H1 hr1 s1 e1=>⟨r,rfl,⟨_,aG.of e1⟩,λl hl=>?_⟩⟩
 have rS:=s1 _ _ h1
 have hk:=s1 _ _ h2
 have CZ:(gS size b).length=size.toNat:=by unfold gS; rw [aUH,arL]
 refine QJ (K:=K) (a:=r) (xs:=gS size b) (l:=l) (λi ys σ' G'=>∃ v0:Option V,σ'=[v0,some (.ref bm)]/\ys=((List.range i).map λk=>mem (b * size+(k:Nat))).map V.int/\G'=upd H1 l (.lst ys)) ⟨none,rfl,rfl,rfl⟩ (λi ys σ' G' _ ⟨_,_,_,q⟩=>aG.of (by rw [q,Zc (Zd e1 hl)]; exact e1)) ?_ ?_
 .rintro i x ys σ' G' hi hxi hys ⟨v0,rfl,rfl,rfl⟩
  obtain ⟨rfl,_⟩:=PU hxi
  have sl:=Zf hl (.lst (((List.range i).map λk=>mem (b * size+(k:Nat))).map V.int))
  have q:=eu.k (k:=Sum.inl (b * size+(i:Nat))) (sl _ _ hk)
  rw [h4] at q
  refine ⟨_,rfl,bm,_,dx,_,_,rfl,sl _ _ rS,T.qj,T.yQ,DZ ..,dk,rfl,.inl ⟨_,.inl (sl _ _ hk)⟩,_,rfl,_,q,?_⟩
  have eg:(if mem (b * size+(i:Nat))=0 then none else some (V.int (mem (b * size+(i:Nat))))).getD (V.int 0)=V.int (mem (b * size+(i:Nat))):=by
   by_cases c:mem (b * size+(i:Nat))=0
   .rw [bb9 c,c]; rfl
   .rw [aYW c]; rfl
  rw [eg]
  exact kW.of (aS5 (ZE (by lia))) hi hys Za ⟨_,rfl,by rw [List.range_succ,aIO,aIO]; rfl,IJ⟩
 .rintro ys σ' G' _ ⟨v0,rfl,rfl,rfl⟩
  rw [CZ]
  exact k l _ (s1.free hl) (s1.trans (Zf hl _)) Za
def NY (K:W.Frag):Sp:=λvs H Q _=>∃ (bm dk:Addr) (size b:Int) (mem:Int->Int) (U:List Int) (lw:Addr) (ws:List Int),vs=[.ref bm,.int b,.ref lw]/\d9 K H bm dk size mem U/\0<size/\size<=1000/\0<=b/\b<=1000000/\b∈U/\U.length<=800/\H lw=some (.lst (ws.map V.int))/\ws.length=size.toNat/\∀ H',d9 K H' bm dk size (lM size mem b ws) U->(∀ x o,H x=some o->x≠dk->H' x=some o)->Q .aR H'
theorem Yu {size:Int} {mem:Int->Int} {b:Int} {ws:List Int} {i:Nat} {x:Int} (h:ws[i]?=some x) (s:Int):gG size mem b ws (i+1) s=if s=b * size+(i:Nat) then x else gG size mem b ws i s:=by
 unfold gG
 have gd:ws.getD i 0=x:=by rw [agd,h]; rfl
 by_cases c:s=b * size+(i:Nat)
 .rw [bb9 c,bb9 (by lia)]
  have:(s - b * size).toNat=i:=by lia
  rw [this,gd]
 .rw [aYW c]
  by_cases d:b * size<=s/\s<b * size+(i:Nat)
  .rw [bb9 d,bb9 (by lia)]
  .rw [aYW d,aYW (by lia)]
theorem ZjL {size b:Int} {i:Nat} (z0:0<size) (hi:i<size.toNat):(b * size+(i:Nat)) / size=b:=by
 rw [Int.add_comm,aC0 _ _ (by lia),aKc (by lia) (by lia)]
 lia
theorem ZfS (F:aY K "lay" "Memory.lay" JS f fd) (T:Txt K mg) (xH:Def P w K mg base "spots_of" 1 Ep IX):au P w K mg base aW 2 f fd JR (NY K):=by
 refine F.ok gw (λvs H Q E h=>?_) (λcdv A outer st H vs Q E hr h=>?_)
 .obtain ⟨bm,dk,size,b,mem,U,lw,ws,rfl,_⟩:=h
  rfl
 obtain ⟨bm,dk,size,b,mem,U,lw,ws,rfl,M,z0,z1,b0,b1,bU,lU,kY,qA,k⟩:=h
 have nd:=gw.nd
 have hu:=bJ hr
 refine ⟨_,(Zi (rZ aaO rfl (VU rfl T.Dh (pc (Zm xH hr.m rfl (pc (Zl (K:=K) rfl (pv 0) rfl) (pc (pv 1) Zb))) (pc (pv 2) Zb))) (mz (K:=K) (n:=2) rfl rfl (Zr (ck 3 nd) (Zr (ck 4 nd) ZY))) (Zi (aJ (ZD bB (pv 4) Zj (Zz _)) (Zi (Zp (Qg (Zl (K:=K) rfl (pv 0) rfl) (pv 3) Zj ⟨rfl,rfl,rfl,rfl⟩))) (Zi (By hu (Zl (K:=K) rfl (pv 0) rfl) (pv 3) (pv 4) rfl)))))),?_⟩
 obtain ⟨dx,h1⟩:=M.ob
 obtain ⟨kv0,h2,_⟩:=M.kept
 refine ⟨_,rfl,bm,_,dx,_,_,rfl,h1,T.qj,T.E5,Oa ..,_,rfl,size,b,rfl,z0,z1,b0,b1,λr H1 hr1 s1 e1=>?_⟩
 have CZ:(gS size b).length=size.toNat:=by unfold gS; rw [aUH,arL]
 have TQ:r≠dk:=λz=>by rw [z,h2] at hr1; cases hr1
 have T5:lw≠dk:=λz=>by rw [z,h2] at kY; cases kY
 refine ⟨_,rfl,r,lw,rfl,⟨_,aG.of e1⟩,⟨_,aG.of (s1 _ _ kY)⟩,WK (K:=K) (a:=r) (b:=lw) (xs:=gS size b) (ys:=ws.map V.int) (λi σ G=>∃ v3 v4:Option V,σ=[some (.ref bm),some (.int b),some (.ref lw),v3,v4]/\d9 K G bm dk size (gG size mem b ws i) U/\∀ x o,H1 x=some o->x≠dk->G x=some o) (by rw [CZ,aUH,qA])
  ⟨none,none,rfl,?_,λ_ _ e _=>e⟩ (λi σ G _ ⟨_,_,_,_,q⟩=>⟨aG.of (q _ _ e1 TQ),aG.of (q _ _ (s1 _ _ kY) T5)⟩) ?_ ?_⟩
 .have e0:gG size mem b ws 0=mem:=by
   funext s
   unfold gG
   rw [aYW (by lia)]
  rw [e0]
  exact M.frame λx o _ e=>s1 x o e
 .rintro i x y t σ G hx hy ⟨v3,v4,rfl,M',fr⟩ ht
  obtain ⟨rfl,hi⟩:=PU hx
  obtain ⟨z,hz,rfl⟩:∃ z,ws[i]?=some z/\y=V.int z:=by
   rw [aJm] at hy
   cases e:ws[i]? with
   | none=>rw [e] at hy; cases hy
   | some z=>rw [e] at hy; exact ⟨z,rfl,(a6S hy).symm⟩
  have s2:=Zf ht (.tup [V.int (b * size+(i:Nat)),V.int z])
  refine ⟨t,_,rfl,aZ.of Za,rfl,_,_,rfl,gN ⟨_,_,rfl,gN ⟨rfl,?_⟩⟩⟩
  have M2:d9 K (upd G t (.tup [V.int (b * size+(i:Nat)),V.int z])) bm dk size (gG size mem b ws i) U:=M'.frame λx o _ e=>s2 x o e
  have AO:∀ x o,H1 x=some o->x≠dk->upd G t (.tup [V.int (b * size+(i:Nat)),V.int z]) x=some o:=λx o e n=>s2 _ _ (fr x o e n)
  generalize upd G t (.tup [V.int (b * size+(i:Nat)),V.int z])=G2 at *
  obtain ⟨jZ,g1⟩:=M2.ob
  obtain ⟨kvs,g2,g3,g4⟩:=M2.kept
  have Aa:bm≠dk:=λq=>by rw [q,g2] at g1; cases g1
  have sp:=ZjL (b:=b) z0 hi
  have es:=Yu (size:=size) (mem:=mem) (b:=b) hz
  have fin:∀ kvs',KI kvs'->(∀ s,aN kvs' (Sum.inl s:Key)=if s=b * size+(i:Nat) then (if z=0 then none else some (.int z)) else aN kvs (Sum.inl s:Key))->d9 K (upd G2 dk (.dK kvs')) bm dk size (gG size mem b ws (i+1)) U/\∀ x o,H1 x=some o->x≠dk->upd G2 dk (.dK kvs') x=some o:=λkvs' ki hv=>by
   refine ⟨⟨⟨jZ,by rw [Zc Aa]; exact g1⟩,⟨kvs',Za,ki,λs=>?_⟩,λs hs=>?_⟩,λx o e n=>by rw [Zc n]; exact AO x o e n⟩
   .by_cases c:s=b * size+(i:Nat)
    .rw [hv s,(es s).trans (bb9 c),bb9 c]
    .rw [hv s,(es s).trans (aYW c),aYW c,g4 s]
   .rw [es s] at hs
    by_cases c:s=b * size+(i:Nat)
    .rw [c,sp]; exact bU
    .rw [aYW c] at hs
     exact M2.sup s hs
  refine ⟨_,rfl,rfl,_,rfl,Jr (λc=>?_) (λc=>?_)⟩
  .have c:z=0:=by simpa using c
   refine ⟨_,rfl,bm,_,jZ,_,_,rfl,g1,T.qj,T.yQ,DZ ..,dk,rfl,.inl ⟨_,.inl g2⟩,_,rfl,kvs,Sum.inl (b * size+(i:Nat)),g2,rfl,λv hv=>?_,λhv=>?_⟩
   .obtain ⟨f1,f2⟩:=fin _ (g3.drop (b * size+(i:Nat))) (λs=>by
     rw [BE,bb9 c]
     by_cases q:s=b * size+(i:Nat)
     .rw [bb9 (by rw [q]),bb9 q]
     .rw [aYW (λy=>q (akX y)),aYW q])
    exact ⟨_,_,rfl,f1,f2⟩
   .rw [g4] at hv
    have e0:gG size mem b ws i (b * size+(i:Nat))=0:=by
     by_cases q:gG size mem b ws i (b * size+(i:Nat))=0
     .exact q
     .rw [aYW q] at hv; cases hv
    have e:gG size mem b ws (i+1)=gG size mem b ws i:=by
     funext s
     rw [es s]
     by_cases q:s=b * size+(i:Nat)
     .rw [bb9 q,q,e0,c]
     .rw [aYW q]
    exact ⟨_,_,rfl,by rw [e]; exact M2,AO⟩
  .have c:z≠0:=λq=>c (by rw [q]; simp)
   have kl:=N9 z0 g3 g4 M2.sup
   have kb:kvs.length<sizeLine:=aOj (auj kl (Nat.mul_le_mul lU (by lia:size.toNat<=1000))) (by decide)
   refine ⟨_,rfl,_,rfl,bm,_,jZ,_,_,rfl,g1,T.qj,T.yQ,DZ ..,_,rfl,dk,_,rfl,jO.k (k:=Sum.inl (b * size+(i:Nat))) g2 kb,?_⟩
   obtain ⟨f1,f2⟩:=fin _ (g3.put (b * size+(i:Nat)) (.int z)) (λs=>by
     rw [yG,aYW c]
     by_cases q:s=b * size+(i:Nat)
     .rw [bb9 (by rw [q]),bb9 q]
     .rw [aYW (λy=>q (akX y)),aYW q])
   exact ⟨_,_,rfl,f1,f2⟩
 .rintro σ G ⟨v3,v4,rfl,M',fr⟩
  rw [CZ] at M'
  exact k G M' λx o e n=>fr x o (s1 _ _ e) n
end
structure aU where
 size:Int
 kind:Str
 bu:List Cf
 U:List Int
structure WF (g:aU):Prop where
 cf:∀ c∈g.bu,1<=c.pl/\c.pl<=16
 z0:1<=g.size
 z1:g.size<=1000
 lU:g.U.length<=800
 ub:∀ b∈g.U,0<=b/\b<=1000000
 l4:g.bu.length<=4
 l1:1<=g.bu.length
structure ao where
 rm:List Rm
 mem:Int->Int
 ev:List (List V)
def ao.at_ (st:ao) (k:Nat):Rm:=st.rm.getD k m9
def ao.set (st:ao) (k:Nat) (s:Rm):ao:={ st with rm:=st.rm.set k s }
def ao.tell (st:ao) (e:List V):ao:={ st with ev:=st.ev++[e] }
structure TA where
 p:Addr
 ss:Addr
 bm:Addr
 dk:Addr
 ev:Addr
 as:List SA
abbrev OS:=Nat->Addr->Prop
def OS.set (os:OS) (k:Nat) (O:Addr->Prop):OS:=λj=>if j=k then O else os j
def Bs (A:TA) (x:Addr):Prop:=x=A.p\/x=A.ss\/x=A.bm\/x=A.dk\/x=A.ev
def OW (A:TA) (os:OS) (x:Addr):Prop:=Bs A x\/∃ k,k<A.as.length/\os k x
def Ev (n:Nat) (e:List V):Prop:=(∃ k:Nat,k<=n/\e=[.str "found",.int (k:Int)])\/(∃ (k:Nat) (b:Int),(k<n/\0<=b/\b<=1000000)/\(e=[.str "in",.int (k:Int),.int b]\/e=[.str "out",.int (k:Int),.int b]))\/∃ (k:Nat) (b:Int),(k<=n/\0<=b/\b<=1000000)/\e=[.str "words",.int (k:Int),.int b]
def k8 (n:Nat) (H:Hp) (l:Addr) (es:List (List V)):Prop:=(∀ e∈es,Ev n e)/\∃ ts:List Addr,H l=some (.lst (ts.map V.ref))/\ts.length=es.length/\∀ (i:Nat) (t:Addr) (e:List V),ts[i]?=some t->es[i]?=some e->H t=some (.tup e)
def bw (size:Int) (ss bm:Addr) (last:Nat) (ev:Addr) (kind:Str):List (Str×V):=(ai "events" (.ref ev) (ai "last" (.int last) (ai "bottom" (.ref bm) (ai "stores" (.ref ss) (ai "size" (.int size) [])))))
section
variable (size:Int) (ss bm:Addr) (last:Nat) (ev:Addr) (kind:Str)
theorem BK:(bw size ss bm last ev kind).lookup ("events" : Str)=some (.ref ev):=by
 unfold bw; rw [Zh,bb9 rfl]
theorem vf:(bw size ss bm last ev kind).lookup ("last" : Str)=some (.int last):=by
 unfold bw; rw [Zh,aYW (by decide +kernel),Zh,bb9 rfl]
theorem JC:(bw size ss bm last ev kind).lookup ("bottom" : Str)=some (.ref bm):=by
 unfold bw; rw [Zh,aYW (by decide +kernel),Zh,aYW (by decide +kernel),Zh,bb9 rfl]
theorem Zx:(bw size ss bm last ev kind).lookup ("stores" : Str)=some (.ref ss):=by
 unfold bw; rw [Zh,aYW (by decide +kernel),Zh,aYW (by decide +kernel),Zh,aYW (by decide +kernel),Zh,bb9 rfl]
theorem yC:(bw size ss bm last ev kind).lookup ("size" : Str)=some (.int size):=by
 unfold bw; rw [Zh,aYW (by decide +kernel),Zh,aYW (by decide +kernel),Zh,aYW (by decide +kernel),Zh,aYW (by decide +kernel),Zh,bb9 rfl]
theorem aA {m:Str} (h2:¬ m = "events" := by decide +kernel) (h3:¬ m = "last" := by decide +kernel) (h4:¬ m = "bottom" := by decide +kernel) (h5:¬ m = "stores" := by decide +kernel) (h6:¬ m = "size" := by decide +kernel):(bw size ss bm last ev kind).lookup m=none:=by
 unfold bw
 rw [Zh,aYW h2,Zh,aYW h3,Zh,aYW h4,Zh,aYW h5,Zh,aYW h6]
 rfl
theorem oE {f g:Str} {v x:V} {r:List (Str×V)} (h:¬ g=f):ai f v ((g,x) :: r)=(g,x) :: ai f v r:=by
 show (if g=f then _ else _)=_; rw [aYW h]
theorem Wv {f:Str} {v x:V} {r:List (Str×V)}:ai f v ((f,x) :: r)=(f,v) :: r:=by
 show (if f=f then _ else _)=_; rw [bb9 rfl]
theorem BC {f:Str} {v:V}:ai f v []=[(f,v)]:=rfl
theorem JI:bw size ss bm last ev kind=([(("size" : Str),V.int size),(("stores" : Str),V.ref ss),(("bottom" : Str),V.ref bm),(("last" : Str),V.int last),(("events" : Str),V.ref ev)]:List (Str×V)):=by
 unfold bw
 have a1:¬ ("size" : Str) = "stores" := by decide +kernel
 have a2:¬ ("size" : Str) = "bottom" := by decide +kernel
 have a3:¬ ("size" : Str) = "last" := by decide +kernel
 have a4:¬ ("size" : Str) = "events" := by decide +kernel
 have b2:¬ ("stores" : Str) = "bottom" := by decide +kernel
 have b3:¬ ("stores" : Str) = "last" := by decide +kernel
 have b4:¬ ("stores" : Str) = "events" := by decide +kernel
 have c3:¬ ("bottom" : Str) = "last" := by decide +kernel
 have c4:¬ ("bottom" : Str) = "events" := by decide +kernel
 have d4:¬ ("last" : Str) = "events" := by decide +kernel
 rw [BC,oE a1,BC,oE a2,oE b2,BC,oE a3,oE b3,oE c3,BC,oE a4,oE b4,oE c4,oE d4,BC]
theorem We (ev':Addr):ai "events" (.ref ev') (bw size ss bm last ev kind)=bw size ss bm last ev' kind:=by
 rw [JI,JI]
 have a4:¬ ("size" : Str) = "events" := by decide +kernel
 have b4:¬ ("stores" : Str) = "events" := by decide +kernel
 have c4:¬ ("bottom" : Str) = "events" := by decide +kernel
 have d4:¬ ("last" : Str) = "events" := by decide +kernel
 rw [oE a4,oE b4,oE c4,oE d4,Wv]
end
structure af (K:W.Frag) (H:Hp) (A:TA) (g:aU) (st:ao) (os:OS) (n:Nat):Prop where
 ob:∃ dx,H A.p=some (.ins (aa K "Beside") dx (bw g.size A.ss A.bm A.as.length A.ev g.kind))
 ss:H A.ss=some (.lst (A.as.map λa=>V.ref a.sp))
 mem:d9 K H A.bm A.dk g.size st.mem g.U
 ev:k8 g.bu.length H A.ev st.ev
 rT:st.ev.length<=n
 lc:g.bu.length=A.as.length
 lS:st.rm.length=A.as.length
 aT:∀ (k:Nat) (a:SA) (c:Cf) (s:Rm),A.as[k]?=some a->g.bu[k]?=some c->st.rm[k]?=some s->az K H a c s (os k)
 off:∀ k,k<A.as.length->∀ x,os k x->¬ Bs A x
 om:∀ i j,i<A.as.length->j<A.as.length->i≠j->∀ x,os i x->¬ os j x
 vQ:A.ss≠A.ev
 pP:A.p≠A.bm
 pY:∀ s∈st.rm,∀ b∈s.seq,b∈g.U
 full:∀ (k:Nat) (c:Cf) (s:Rm),g.bu[k]?=some c->st.rm[k]?=some s->∀ t,((Zn c.sh t s.seq).length:Int)<=c.pl
 wl:∀ s∈st.rm,∀ b∈s.seq,(s.wd b).length=g.size.toNat
 wf:WF g
 tb:Tb K H
section
variable {K:W.Frag} {H H':Hp} {A:TA} {g:aU} {st:ao} {os:OS} {n:Nat} {a:SA} {c:Cf} {s:Rm}
theorem k8.frame {m:Nat} {l:Addr} {es:List (List V)} (h:k8 m H l es) (f1:∀ o,H l=some o->H' l=some o) (f2:∀ x ys,H x=some (.tup ys)->H' x=some (.tup ys)):k8 m H' l es:=by
 obtain ⟨h0,ts,h1,h2,h3⟩:=h
 exact ⟨h0,ts,f1 _ h1,h2,λi t e a b=>f2 _ _ (h3 i t e a b)⟩
theorem af.frame (T:af K H A g st os n) (f:∀ x o,H x=some o->(OW A os x\/¬ Mt o)->H' x=some o):af K H' A g st os n:=by
 obtain ⟨dx,h1⟩:=T.ob
 have fb:∀ {x o},Bs A x->H x=some o->H' x=some o:=λ{x o} h e=>f x o e (.inl (.inl h))
 have ft:∀ x ys,H x=some (.tup ys)->H' x=some (.tup ys):=λx ys e=>f x _ e (.inr id)
 refine ⟨⟨dx,fb (.inl rfl) h1⟩,fb (by simp [Bs]) T.ss,T.mem.frame λx o m e=>fb (by rcases m with m | m <;> simp [Bs,m]) e,T.ev.frame (λo e=>fb (by simp [Bs]) e) ft,T.rT,T.lc,T.lS,λk a c s h1 h2 h3=>(T.aT k a c s h1 h2 h3).frame λx o h e=>f x o e (.inl (.inr ⟨k,(aK1.mp h1).1,h⟩)),T.off,T.om,T.vQ,T.pP,T.pY,T.full,T.wl,T.wf,f _ _ T.tb (.inr id)⟩
theorem af.same (T:af K H A g st os n) (h:aB H H'):af K H' A g st os n:=T.frame λx o e _=>h x o e
theorem af.le {m:Nat} (T:af K H A g st os n) (h:n<=m):af K H A g st os m:=⟨T.ob,T.ss,T.mem,T.ev,auj T.rT h,T.lc,T.lS,T.aT,T.off,T.om,T.vQ,T.pP,T.pY,T.full,T.wl,T.wf,T.tb⟩
theorem af.ex (T:af K H A g st os n):∀ x,OW A os x->H x≠none:=λx h=>by
 rcases h with h | ⟨k,hk,h⟩
 .obtain ⟨dx,h1⟩:=T.ob
  obtain ⟨dm,h2⟩:=T.mem.ob
  obtain ⟨kv,h3,_⟩:=T.mem.kept
  obtain ⟨_,ts,h4,_⟩:=T.ev
  rcases h with rfl | rfl | rfl | rfl | rfl
  .rw [h1]; simp
  .rw [T.ss]; simp
  .rw [h2]; simp
  .rw [h3]; simp
  .rw [h4]; simp
 .have h1:A.as[k]?=some A.as[k]:=aJu hk
  have h2:g.bu[k]?=some (g.bu[k]'(by rw [T.lc]; exact hk)):=aJu _
  have h3:st.rm[k]?=some (st.rm[k]'(by rw [T.lS]; exact hk)):=aJu _
  exact (T.aT _ _ _ _ h1 h2 h3).aT.ex x h
theorem ao.at_of {k:Nat} (h:k<st.rm.length):st.rm[k]?=some (st.at_ k):=by
 unfold ao.at_
 rw [agd,aJu h]
 rfl
theorem ao.bL {k j:Nat} {s:Rm} (h:k<st.rm.length):(st.set k s).at_ j=if j=k then s else st.at_ j:=by
 unfold ao.at_ ao.set
 rw [agd,agd]
 by_cases z:j=k
 .rw [bb9 z,z,bb6 h]; rfl
 .rw [aYW z,aP2 (aI4 z)]
def aU.cf (g:aU) (k:Nat):Cf:=g.bu.getD k ⟨1,1, "old",true⟩
theorem af.at_ (T:af K H A g st os n) {k:Nat} (hk:k<A.as.length):∃ a,A.as[k]?=some a/\g.bu[k]?=some (g.cf k)/\st.rm[k]?=some (st.at_ k)/\az K H a (g.cf k) (st.at_ k) (os k):=by
 have h1:A.as[k]?=some A.as[k]:=aJu hk
 have h2:g.bu[k]?=some (g.cf k):=by
  unfold aU.cf
  rw [agd,aJu (by rw [T.lc]; exact hk)]
  rfl
 have h3:=ao.at_of (st:=st) (k:=k) (by rw [T.lS]; exact hk)
 exact ⟨_,h1,h2,h3,T.aT _ _ _ _ h1 h2 h3⟩
theorem af.kq (T:af K H A g st os n) {k:Nat} (hk:k<A.as.length):(st.at_ k).seq.length<=800/\(∀ b∈(st.at_ k).seq,b∈g.U/\((st.at_ k).wd b).length=g.size.toNat)/\(∀ t,((Zn (g.cf k).sh t (st.at_ k).seq).length:Int)<=(g.cf k).pl)/\1<=(g.cf k).pl/\(g.cf k).pl<=16/\(st.at_ k).seq.Nodup:=by
 obtain ⟨a,h1,h2,h3,S⟩:=T.at_ hk
 have m:=axK h3
 obtain ⟨c1,c2⟩:=T.wf.cf _ (axK h2)
 exact ⟨auj (xg S.aT.room.nd (T.pY _ m)) T.wf.lU,λb h=>⟨T.pY _ m b h,T.wl _ m b h⟩,T.full _ _ _ h2 h3,c1,c2,S.aT.room.nd⟩
theorem Wd {k:Nat} {O':Addr->Prop} (T:af K H A g st os n) (hk:k<A.as.length) (p:bM (os k) H H' O'):bM (OW A os) H H' (OW A (os.set k O')):=by
 refine ⟨λx o e nn=>p.kp x o e λh=>nn (.inr ⟨k,hk,h⟩),λx h=>?_⟩
 rcases h with h | ⟨j,hj,h⟩
 .exact .inl (.inl h)
 .unfold OS.set at h
  by_cases z:j=k
  .rw [bb9 z] at h
   exact (p.fr x h).elim (λq=>.inl (.inr ⟨k,hk,q⟩)) .inr
  .rw [aYW z] at h
   exact .inl (.inr ⟨j,hj,h⟩)
theorem af.iy {k:Nat} {s':Rm} {O':Addr->Prop} (T:af K H A g st os n) (ha:A.as[k]?=some a) (hc:g.bu[k]?=some c) (S:az K H' a c s' O') (p:bM (os k) H H' O') (hu:∀ b∈s'.seq,b∈g.U/\(s'.wd b).length=g.size.toNat) (hf:∀ t,((Zn c.sh t s'.seq).length:Int)<=c.pl) :
  af K H' A g (st.set k s') (os.set k O') n/\bM (OW A os) H H' (OW A (os.set k O')):=by
 have hk:k<A.as.length:=(aK1.mp ha).1
 refine ⟨?_,Wd T hk p⟩
 have nb:∀ {x o},Bs A x->H x=some o->H' x=some o:=λ{x o} h e=>p.kp x o e λq=>absurd h (T.off k hk x q)
 have nt:∀ x ys,H x=some (.tup ys)->H' x=some (.tup ys):=λx ys e=>p.kp x _ e λ_=>id
 obtain ⟨dx,h1⟩:=T.ob
 refine ⟨⟨dx,nb (.inl rfl) h1⟩,nb (by simp [Bs]) T.ss,T.mem.frame λx o m e=>nb (by rcases m with m | m <;> simp [Bs,m]) e,T.ev.frame (λo e=>nb (by simp [Bs]) e) nt,T.rT,T.lc,by show (st.rm.set k s').length=_; rw [aZE]; exact T.lS,λj b cb sb hb hcb jR=>?_,λj hj x h=>?_,λi j hi hj hij x h1 h2=>?_,T.vQ,T.pP,λq hq b hb=>?_,λj cb sb hcb jR=>?_,λq hq b hb=>?_,T.wf,p.kp _ _ T.tb λ_=>id⟩
 .have hj:=(aK1.mp hb).1
  unfold OS.set
  by_cases e:j=k
  .subst e
   rw [ha] at hb; cases hb
   rw [hc] at hcb; cases hcb
   have jR:(st.rm.set j s')[j]?=some sb:=jR
   rw [bb6 (by rw [T.lS]; exact hk)] at jR
   cases jR
   rw [bb9 rfl]
   exact S
  .have jR:(st.rm.set k s')[j]?=some sb:=jR
   rw [aP2 (aI4 e)] at jR
   rw [aYW e]
   exact (T.aT j b cb sb hb hcb jR).frame λx o h q=>p.kp x o q λz=>absurd z (T.om j k hj hk e x h)
 .unfold OS.set at h
  by_cases e:j=k
  .rw [bb9 e] at h
   rcases p.fr x h with q | q
   .exact T.off k hk x q
   .exact λz=>T.ex x (.inl z) q
  .rw [aYW e] at h
   exact T.off j hj x h
 .unfold OS.set at h1 h2
  by_cases e1:i=k
  .rw [bb9 e1] at h1
   rw [aYW (λz=>hij (e1.trans z.symm))] at h2
   rcases p.fr x h1 with q | q
   .exact T.om k j hk hj (λz=>hij (e1.trans z)) x q h2
   .exact T.ex x (.inr ⟨j,hj,h2⟩) q
  .rw [aYW e1] at h1
   by_cases e2:j=k
   .rw [bb9 e2] at h2
    rcases p.fr x h2 with q | q
    .exact T.om i k hi hk e1 x h1 q
    .exact T.ex x (.inr ⟨i,hi,h1⟩) q
   .rw [aYW e2] at h2
    exact T.om i j hi hj hij x h1 h2
 .rcases a26 hq with hq | rfl
  .exact T.pY q hq b hb
  .exact (hu b hb).1
 .by_cases e:j=k
  .subst e
   rw [hc] at hcb; cases hcb
   have jR:(st.rm.set j s')[j]?=some sb:=jR
   rw [bb6 (by rw [T.lS]; exact hk)] at jR
   cases jR
   exact hf
  .have jR:(st.rm.set k s')[j]?=some sb:=jR
   rw [aP2 (aI4 e)] at jR
   exact T.full j cb sb hcb jR
 .rcases a26 hq with hq | rfl
  .exact T.wl q hq b hb
  .exact (hu b hb).2
theorem af.event (T:af K H A g st os n) {t:Addr} (e:List V) (he:Ev g.bu.length e) (ht:H t=none):∃ ts:List Addr,H A.ev=some (.lst (ts.map V.ref))/\ts.length<=n/\af K (upd (upd H t (.tup e)) A.ev (.lst (ts.map V.ref++[.ref t]))) A g (st.tell e) os (n+1)/\bM (OW A os) H (upd (upd H t (.tup e)) A.ev (.lst (ts.map V.ref++[.ref t]))) (OW A os):=by
 obtain ⟨h0,ts,h1,h2,h3⟩:=T.ev
 have s1:=Zf ht (.tup e)
 have T1:=T.same s1
 have TM:t≠A.ev:=λz=>by rw [z,h1] at ht; cases ht
 have off:∀ {x o},H x=some o->x≠A.ev->upd (upd H t (.tup e)) A.ev (.lst (ts.map V.ref++[.ref t])) x=some o:=λ{x o} q z=>by rw [Zc z]; exact s1 _ _ q
 have nk:∀ {x o},H x=some o->(∀ xs,o≠.lst xs)->x≠A.ev:=λ{x o} q m z=>by rw [z,h1] at q; exact m _ (a6S q).symm
 have rT:=T.rT
 refine ⟨ts,h1,by lia,?_,⟨λx o q m=>off q λz=>?_,λx h=>.inl h⟩⟩
 .obtain ⟨dx,g1⟩:=T.ob
  obtain ⟨dm,g2⟩:=T.mem.ob
  obtain ⟨kv,g3,g4⟩:=T.mem.kept
  refine ⟨⟨dx,off g1 (nk g1 (λ_ z=>by cases z))⟩,off T.ss T.vQ,⟨⟨dm,off g2 (nk g2 (λ_ z=>by cases z))⟩,⟨kv,off g3 (nk g3 (λ_ z=>by cases z)),g4⟩,T.mem.sup⟩,⟨λe' m=>(ais.mp m).elim (h0 e') λm=>by rw [a60.mp m]; exact he,ts++[t],by rw [Za,aIO]; rfl,by rw [aAe]; show _=(st.ev++[e]).length; rw [aAe,h2]; rfl,λi t' e' q1 q2=>?_⟩,by show (st.ev++[e]).length<=n+1; rw [aAe]; show st.ev.length+1<=n+1; lia,T.lc,T.lS,λk a c s q1 q2 q3=>(T.aT k a c s q1 q2 q3).frame λx o h q=>off q λz=>T.off k (aK1.mp q1).1 x h (by simp [Bs,z]),T.off,T.om,T.vQ,T.pP,T.pY,T.full,T.wl,T.wf,off T.tb (nk T.tb (λ_ z=>by cases z))⟩
  have q2:(st.ev++[e])[i]?=some e':=q2
  by_cases hi:i<ts.length
  .rw [aOW hi] at q1
   rw [aOW (by lia)] at q2
   have q:=h3 i t' e' q1 q2
   exact off q (nk q (λ_ z=>by cases z))
  .have hl:=(aK1.mp q1).1
   rw [aAe,aOg] at hl
   have:i=ts.length:=by lia
   rw [aRD (by lia),this,amh] at q1
   rw [aRD (by lia),show i - st.ev.length=0 by lia] at q2
   cases q1
   cases q2
   rw [Zc TM]
   exact Za
 .rw [z,h1] at q
  cases q
  exact m (.inl (by simp [Bs,z])) trivial
end
theorem IW {R:Int->Int->Prop} (anti:∀ a b,R a b->R b a->a=b):∀ {l1 l2:List Int},l1.Perm l2->l1.Pairwise R->l2.Pairwise R->l1=l2
 | [],l2,p,_,_=>(List.nil_perm.mp p).symm
 | a :: l1,l2,p,h1,h2=>by
  match l2,p,h2 with
  | [],p,_=>exact absurd p.length_eq (by simp)
  | b :: l2,p,h2 =>
   have e:a=b:=by
    by_cases c:a=b
    .exact c
    .have ma:a∈l2:=(awk.mp (p.mem_iff.mp aq5)).resolve_left c
     have mb:b∈l1:=(awk.mp (p.mem_iff.mpr aq5)).resolve_left (λz=>c z.symm)
     exact anti a b ((a38.mp h1).1 b mb) ((a38.mp h2).1 a ma)
   subst e
   rw [IW anti (List.Perm.cons_inv p) (a38.mp h1).2 (a38.mp h2).2]
theorem Yd {us:Int->Int} {ms:List Int} (a b:Int) (h1:sy us ms a b) (h2:sy us ms b a):a=b:=by
 rcases h1 with h1 | ⟨h1,h3⟩ <;> rcases h2 with h2 | ⟨h2,h4⟩ <;> lia
theorem Yt {ru:Str} {us:Int->Int} {pl:Int} {ms:List Int} {g g':Option Int} (h:cC ru us pl ms g) (h':cC ru us pl ms g'):g=g':=by
 by_cases c:(ms.length:Int)<pl
 .rw [h.1 c,h'.1 c]
 .obtain ⟨x,r,rfl,p,f,n⟩:=h.2 c
  obtain ⟨x',r',rfl,p',f',n'⟩:=h'.2 c
  have e:x :: r=x' :: r':=by
   by_cases q:ru = "few"
   .exact IW Yd (p.trans p'.symm) (f q) (f' q)
   .rw [n q,n' q]
  injection e with e1 _
  rw [e1]
open Classical in
noncomputable def bX (c:Cf) (s:Rm) (b:Int):Option Int:=if h:∃ g,cC c.ru s.us c.pl (Zn c.sh (b % c.sh) s.seq) g then Classical.choose h else none
theorem Jp {c:Cf} {s:Rm} {b:Int} {g:Option Int} (h:cC c.ru s.us c.pl (Zn c.sh (b % c.sh) s.seq) g):bX c s b=g:=by
 unfold bX
 have e:∃ g,cC c.ru s.us c.pl (Zn c.sh (b % c.sh) s.seq) g:=⟨g,h⟩
 rw [dif_pos e]
 exact Yt (Classical.choose_spec e) h
theorem Ys {sh pl:Int} {seq seq':List Int} (h:∀ s,((Zn sh s seq).length:Int)<=pl) (hs:seq'.Sublist seq):∀ s,((Zn sh s seq').length:Int)<=pl:=λs=>by
 have q:(Zn sh s seq').Sublist (Zn sh s seq):=List.Sublist.filter _ hs
 have:=q.length_le
 have:=h s
 lia
theorem Yr {sh pl:Int} {seq seq':List Int} (h:∀ s,((Zn sh s seq).length:Int)<=pl) (hs:seq'.Perm seq):∀ s,((Zn sh s seq').length:Int)<=pl:=λs=>by
 have q:(Zn sh s seq').Perm (Zn sh s seq):=List.Perm.filter _ hs
 rw [q.length_eq]
 exact h s
theorem Wu {sh pl b:Int} {seq:List Int} (h:∀ s,((Zn sh s seq).length:Int)<=pl) (hb:((Zn sh (b % sh) seq).length:Int)<pl):∀ s,((Zn sh s (seq++[b])).length:Int)<=pl:=λs=>by
 rw [BS]
 split
 .rename_i e
  rw [← e,aAe]
  show ((_+1:Nat):Int)<=pl
  lia
 .exact h s
def gQ (c:Cf) (s:Rm) (b:Int):Rm:=⟨if c.ru = "old" then s.seq.erase b++[b] else s.seq,bump s.us b,s.wd,s.fr⟩
theorem xh {c:Cf} {s:Rm} {b:Int} (hb:b∈s.seq):(gQ c s b).seq.Perm s.seq:=by
 unfold gQ
 by_cases e:c.ru = "old"
 .rw [bb9 e]; exact (aLv).trans (List.perm_cons_erase hb).symm
 .rw [aYW e]
def eW (k:Nat) (b:Int):List V:=[.str "words",.int (k:Int),.int b]
def eI (k:Nat) (b:Int):List V:=[.str "in",.int (k:Int),.int b]
def eO (k:Nat) (b:Int):List V:=[.str "out",.int (k:Int),.int b]
def eF (k:Nat):List V:=[.str "found",.int (k:Int)]
def aU.n (g:aU):Nat:=g.bu.length
def bz (g:aU) (k:Nat) (b:Int) (ws:List Int) (st:ao):ao:=if k=g.n then ao.tell { st with mem:=lM g.size st.mem b ws } (eW k b) else (st.set k (jE (st.at_ k) b ws)).tell (eW k b)
def bY (k:Nat) (b:Int) (ws:List Int) (st:ao):ao:=(st.set k (Au (st.at_ k) b ws)).tell (eI k b)
def cR (k:Nat) (b:Int) (st:ao):ao:=(st.tell (eO k b)).set k (jV (st.at_ k) b)
def gM (st:ao):ao:={ st with ev:=[] }
def TA.re (A:TA) (e:Addr):TA:={ A with ev:=e }
def Res (K:W.Frag) (H:Hp) (A:TA) (g:aU) (os:OS) (st':ao) (m:Nat) (Q:Hp->Prop):Prop:=∀ H' os',af K H' A g st' os' m->bM (OW A os) H H' (OW A os')->Q H'
theorem tups {O O':Addr->Prop} {H H':Hp} (p:bM O H H' O') {x:Addr} {ys:List V} (h:H x=some (.tup ys)):H' x=some (.tup ys):=p.kp x _ h λ_=>id
section
variable {K:W.Frag} {H H':Hp} {A:TA} {g:aU} {st:ao} {os:OS} {n:Nat}
theorem af.ix {k:Nat} {a:SA} (ha:A.as[k]?=some a):gc (A.as.map λa=>V.ref a.sp) (k:Int)=some (.ref a.sp):=pq (by rw [aJm,ha]; rfl)
theorem af.ln (T:af K H A g st os n):g.n=A.as.length:=T.lc
theorem bM.out {O O':Addr->Prop} (p:bM O H H' O') {x:Addr} {o:HO} (h:H x=some o) (n:¬ O x):H' x=some o/\¬ O' x:=⟨p.kp x o h λz=>absurd z n,λz=>(p.fr x z).elim n λq=>by rw [h] at q; cases q⟩
theorem af.fresh (T:af K H A g st os n) {x:Addr} (h:H x=none):¬ OW A os x:=λz=>T.ex x z h
theorem af.told (T:af K H A g st os n) {e' dx:Addr} (he:H e'=none):af K (upd (upd H e' (.lst [])) A.p (.ins (aa K "Beside") dx (bw g.size A.ss A.bm A.as.length e' g.kind))) (A.re e') g (gM st) os 0:=by
 obtain ⟨d0,h1⟩:=T.ob
 obtain ⟨dm,h2⟩:=T.mem.ob
 obtain ⟨kv,h3,h4⟩:=T.mem.kept
 have s:=Zf he (.lst ([]:List V))
 have TX:A.p≠e':=Zd h1 he
 have off:∀ {x o},H x=some o->x≠A.p->upd (upd H e' (.lst [])) A.p (.ins (aa K "Beside") dx (bw g.size A.ss A.bm A.as.length e' g.kind)) x=some o:=λ{x o} q z=>by rw [Zc z]; exact s _ _ q
 have nk:∀ {x o},H x=some o->(∀ C d f,o≠.ins C d f)->x≠A.p:=λ{x o} q m z=>by rw [z,h1] at q; exact m _ _ _ (a6S q).symm
 have nb:∀ x,(∃ k,k<A.as.length/\os k x)->¬ Bs (A.re e') x:=λx ⟨k,hk,h⟩ z=>by
  rcases z with z | z | z | z | z
  .exact T.off k hk x h (.inl z)
  .exact T.off k hk x h (.inr (.inl z))
  .exact T.off k hk x h (.inr (.inr (.inl z)))
  .exact T.off k hk x h (.inr (.inr (.inr (.inl z))))
  .have z:x=e':=z
   exact T.ex x (.inr ⟨k,hk,h⟩) (z ▸ he)
 refine ⟨⟨dx,Za⟩,off T.ss (nk T.ss (λ_ _ _ z=>by cases z)),⟨⟨dm,off h2 (aI4 T.pP)⟩,⟨kv,off h3 (nk h3 (λ_ _ _ z=>by cases z)),h4⟩,T.mem.sup⟩,⟨(λe m=>by cases m),[],by show _=some (HO.lst []); rw [show (A.re e').ev=e' from rfl,Zc (aI4 TX)]; exact Za,rfl,λi t e q _=>by simp at q⟩,aDN _,T.lc,T.lS,λk a c s' q1 q2 q3=>(T.aT k a c s' q1 q2 q3).frame λx o h q=>off q λz=>T.off k (aK1.mp q1).1 x h (.inl z),λk hk x h=>nb x ⟨k,hk,h⟩,T.om,λz=>?_,T.pP,T.pY,T.full,T.wl,T.wf,off T.tb (nk T.tb (λ_ _ _ z=>by cases z))⟩
 have z:A.ss=e':=z
 have q:=T.ss
 rw [z,he] at q; cases q
end
section
def D8 (K:W.Frag):Sp:=λvs H Q _=>∃ (A:TA) (g:aU) (st:ao) (os:OS) (n k:Nat) (a:SA),vs=[.ref A.p,.int (k:Int)]/\af K H A g st os n/\A.as[k]?=some a/\Q (.ref a.sp) H
theorem Zfa (F:aY K "store" "Steps.store" J5 f fd) (T:Txt K mg):au P w K mg base aW 1 f fd BV (D8 K):=by
 refine F.ok fK (λvs H Q E h=>?_) (λcdv A outer s0 H vs Q E hr h=>?_)
 .obtain ⟨A,g,st,os,n,k,a,rfl,_⟩:=h
  rfl
 obtain ⟨A,g,st,os,n,k,a,rfl,R,ha,q⟩:=h
 have nd:=fK.nd
 refine ⟨_,(Ze (aJ (sd (XW zN lC Zj (pv 1) (Zl (K:=K) rfl (pv 0) rfl))) (Zi qk) Zu)
   (Zi (Zt (av (Zo (K:=K) rfl) (Zl (K:=K) rfl (pv 0) rfl) (pv 1) (λ_ _=>rfl))))),?_⟩
 obtain ⟨dx,h1⟩:=R.ob
 have hk:k<A.as.length:=(aK1.mp ha).1
 refine ⟨_,rfl,_,_,rfl,rfl,_,rfl,fq (a6t (by lia)) ⟨_,rfl,A.p,_,dx,_,_,rfl,h1,T.aO,T.sM,vf ..,_,_,rfl,rfl,_,rfl,cT (by rw [a6t (by lia)]; rfl) ?_⟩⟩
 exact ⟨_,rfl,A.p,_,dx,_,_,rfl,h1,T.aO,T.lA,Zx ..,_,rfl,A.ss,_,_,_,rfl,rfl,aG.of R.ss,af.ix ha,q⟩
def DF (g:aU) (st:ao) (k:Nat) (b:Int):List Int:=if k=g.n then aS g.size st.mem b else (st.at_ k).wd b
def Jo (K:W.Frag):Sp:=λvs H Q _=>∃ (A:TA) (g:aU) (st:ao) (os:OS) (n k:Nat) (b:Int),vs=[.ref A.p,.int (k:Int),.int b]/\af K H A g st os n/\k<=g.n/\(k<g.n->b∈(st.at_ k).seq)/\0<=b/\b<=1000000/\∀ l H',H l=none->aB H H'->H' l=some (.lst ((DF g st k b).map V.int))->Q (.ref l) H'
theorem Zfb (F:aY K "words" "Steps.words" J6 f fd) (T:Txt K mg) (ET:ay P w K mg base (aa K "Memory") "words_of" 2 Lh (PR K)) (sL:ay P w K mg base (aa K "Beside") "store" 1 BV (D8 K)) (pO:ay P w K mg base (aa K "Store") "words_of" 3 ZA (BL K)):au P w K mg base aW 4 f fd Et (Jo K):=by
 refine F.ok fJ (λvs H Q E h=>?_) (λcdv A outer s0 H vs Q E hr h=>?_)
 .obtain ⟨A,g,st,os,n,k,b,rfl,_⟩:=h
  rfl
 obtain ⟨A,g,st,os,n,k,b,rfl,R,hk,hb,b0,b1,q⟩:=h
 have nd:=fJ.nd
 refine ⟨_,(Ze (aJ (ZD bB (pv 1) (Zl (K:=K) rfl (pv 0) rfl) (Zz _)) (Zi (Zt (Zk ET hr.m T.qj (Zl (K:=K) rfl (pv 0) rfl) (pc (pv 2) Zb)))) Zu)
   (Zi (Zt (Zk pO hr.m T.eG (Zk sL hr.m T.aO (pv 0) (pc (pv 1) Zb)) (pc (pv 2) Zb))))),?_⟩
 obtain ⟨dx,h1⟩:=R.ob
 obtain ⟨dm,h2⟩:=R.mem.ob
 have ln:=R.ln
 unfold DF at q
 refine ⟨_,rfl,_,rfl,A.p,_,dx,_,_,rfl,h1,T.aO,T.sM,vf ..,rfl,_,rfl,Oi (λe=>?_) (λe=>?_)⟩
 .rw [bb9 (by lia)] at q
  exact ⟨_,rfl,A.p,_,dx,_,_,rfl,h1,T.aO,T.Ct,JC ..,A.bm,dm,_,rfl,h2,qx ..,_,rfl,A.bm,A.dk,g.size,b,st.mem,g.U,rfl,R.mem,by have:=R.wf.z0; lia,R.wf.z1,b0,b1,q⟩
 .rw [aYW (by lia)] at q
  obtain ⟨a,e1,e2,e3,B⟩:=R.at_ (k:=k) (by lia)
  obtain ⟨ds,h3⟩:=B.aT.ob
  exact ⟨_,rfl,A.p,dx,_,rfl,h1,aA ..,_,rfl,A,g,st,os,n,k,a,rfl,R,e1,a.sp,ds,_,rfl,h3,bT ..,_,rfl,a,_,_,_,b,rfl,B,hb (by lia),λl hl=>q l _ hl (Zf hl _) Za⟩
def Eo (K:W.Frag):Sp:=λvs H Q _=>∃ (A:TA) (g:aU) (st:ao) (os:OS) (n:Nat),vs=[.ref A.p]/\af K H A g st os n/\∀ e' H',af K H' (A.re e') g (gM st) os 0->k8 g.n H' A.ev st.ev->¬ OW (A.re e') os A.ev->bM (OW A os) H H' (OW (A.re e') os)->Q (.ref A.ev) H'
theorem ZdO (F:aY K "happened" "Steps.happened" K8 f fd) (T:Txt K mg):au P w K mg base aW 1 f fd ZM (Eo K):=by
 refine F.ok dg (λvs H Q E h=>?_) (λcdv A outer s0 H vs Q E hr h=>?_)
 .obtain ⟨A,g,st,os,n,rfl,_⟩:=h
  rfl
 obtain ⟨A,g,st,os,n,rfl,R,q⟩:=h
 have nd:=dg.nd
 refine ⟨_,(Ze (eB 1 nd (Zl (K:=K) rfl (pv 0) rfl))
   (Ze (lX (pv 0) (m6 Zb) rfl)
   (Zi (Zt (pv 1))))),?_⟩
 obtain ⟨dx,h1⟩:=R.ob
 refine ⟨_,rfl,A.p,_,dx,_,_,rfl,h1,T.aO,T.vI,BK ..,gN ?_⟩
 try dsimp only
 refine ⟨(sl 0),λe' he=>⟨_,rfl,A.p,_,dx,_,rfl,Zf he _ _ _ h1,T.aO,T.vI,(by rw [JI]; show 5<1000; decide),?_⟩⟩
 rw [We]
 have off:∀ {x o},H x=some o->x≠A.p->upd (upd H e' (.lst [])) A.p (.ins (aa K "Beside") dx (bw g.size A.ss A.bm A.as.length e' g.kind)) x=some o:=λ{x o} q z=>by rw [Zc z]; exact Zf he _ _ _ q
 have np:∀ {x o},H x=some o->(∀ C d f,o≠.ins C d f)->x≠A.p:=λ{x o} q m z=>by rw [z,h1] at q; exact m _ _ _ (a6S q).symm
 obtain ⟨v0,ts,v1,v2,v3⟩:=R.ev
 have TL:A.ev≠e':=Zd v1 he
 refine ⟨_,rfl,q e' _ (R.told he) ⟨v0,ts,off v1 (np v1 (λ_ _ _ z=>by cases z)),v2,λi t e a b=>off (v3 i t e a b) (np (v3 i t e a b) (λ_ _ _ z=>by cases z))⟩ (λz=>?_) ⟨λx o e m=>off e λz=>?_,λx h=>?_⟩⟩
 .rcases z with z | ⟨k,hk,z⟩
  .obtain ⟨dm,h2⟩:=R.mem.ob
   obtain ⟨kv,h3,_⟩:=R.mem.kept
   rcases z with z | z | z | z | z
   .exact np v1 (λ_ _ _ z=>by cases z) z
   .exact R.vQ z.symm
   .rw [show (A.re e').bm=A.bm from rfl] at z
    rw [z,h2] at v1; cases v1
   .rw [show (A.re e').dk=A.dk from rfl] at z
    rw [z,h3] at v1; cases v1
   .exact TL z
  .exact R.off k hk _ z (by simp [Bs])
 .rw [z,h1] at e
  cases e
  exact m (.inl (.inl z)) trivial
 .rcases h with h | h
  .rcases h with h | h | h | h | h
   .exact .inl (.inl (.inl h))
   .exact .inl (.inl (.inr (.inl h)))
   .exact .inl (.inl (.inr (.inr (.inl h))))
   .exact .inl (.inl (.inr (.inr (.inr (.inl h)))))
   .exact .inr (by rw [h]; exact he)
  .exact .inl (.inr h)
def HQ (K:W.Frag):Sp:=λvs H Q _=>∃ (A:TA) (g:aU) (st:ao) (os:OS) (n k:Nat) (b:Int),vs=[.ref A.p,.int (k:Int),.int b]/\af K H A g st os n/\k<g.n/\∀ H',aB H H'->cC (g.cf k).ru (st.at_ k).us (g.cf k).pl (Zn (g.cf k).sh (b % (g.cf k).sh) (st.at_ k).seq) (bX (g.cf k) (st.at_ k) b)->Q (oS (bX (g.cf k) (st.at_ k) b)) H'
theorem ZeL (F:aY K "leaver" "Steps.leaver" KN f fd) (T:Txt K mg) (xU:ay P w K mg base (aa K "Room") "leaver_for" 3 ZW (Jq K)):au P w K mg base aW 4 f fd EC (HQ K):=by
 refine F.ok eY (λvs H Q E h=>?_) (λcdv A outer s0 H vs Q E hr h=>?_)
 .obtain ⟨A,g,st,os,n,k,b,rfl,_⟩:=h
  rfl
 obtain ⟨A,g,st,os,n,k,b,rfl,R,hk,q⟩:=h
 have nd:=eY.nd
 refine ⟨_,(Zi (Zt (Zk xU hr.m T.fZ (Zl (K:=K) rfl (av (Zo (K:=K) rfl) (Zl (K:=K) rfl (pv 0) rfl) (pv 1) (λ_ _=>rfl)) rfl) (pc (pv 2) Zb)))),?_⟩
 obtain ⟨dx,h1⟩:=R.ob
 have ln:=R.ln
 obtain ⟨a,e1,e2,e3,B⟩:=R.at_ (k:=k) (by lia)
 obtain ⟨u1,u2,u3,u4,u5,u6⟩:=R.kq (k:=k) (by lia)
 obtain ⟨ds,h3⟩:=B.aT.ob
 obtain ⟨dr,h4⟩:=B.aT.room.ob
 have fl:=u3 (b % (g.cf k).sh)
 refine ⟨_,rfl,A.p,_,dx,_,_,rfl,h1,T.aO,T.lA,Zx ..,_,rfl,A.ss,_,_,_,rfl,rfl,aG.of R.ss,af.ix e1,a.sp,_,ds,_,_,rfl,h3,T.eG,T.uD,xo ..,a.rp,dr,_,rfl,h4,bS ..,_,rfl,a.rp,b,(g.cf k).sh,(g.cf k).pl,(g.cf k).ru,a.ls,a.aq,a.du,(st.at_ k).seq,(st.at_ k).us,_,rfl,B.aT.room,R.tb,u4,by lia,λgone H' gp sm=>?_⟩
 have e:=Jp (s:=st.at_ k) gp
 have q':=q H' sm (by rw [e]; exact gp)
 rw [e] at q'
 exact q'
def HP (K:W.Frag):Sp:=λvs H Q _=>∃ (A:TA) (g:aU) (st:ao) (os:OS) (n k:Nat),vs=[.ref A.p,.int (k:Int)]/\af K H A g st os n/\k<=g.n/\n<=900000/\Res K H A g os (st.tell (eF k)) (n+1) (Q .aR)
theorem big {n m:Nat} (h:n<=m) (hm:m<=900000):n<sizeLine:=aOj (auj h hm) (by decide)
theorem ZcY (F:aY K "tell_found" "Steps.tell_found" K1 f fd) (T:Txt K mg):au P w K mg base aW 1 f fd ZQ (HP K):=by
 refine F.ok cz (λvs H Q E h=>?_) (λcdv A outer s0 H vs Q E hr h=>?_)
 .obtain ⟨A,g,st,os,n,k,rfl,_⟩:=h
  rfl
 obtain ⟨A,g,st,os,n,k,rfl,R,UM,hl,q⟩:=h
 have nd:=cz.nd
 refine ⟨_,(Zi (Zp (vd (K:=K) rfl (i6 aoN aGd adS xr (Zl (K:=K) rfl (pv 0) rfl) (pc (j6 (pc kB (pc (pv 1) Zb))) Zb))))),?_⟩
 obtain ⟨dx,h1⟩:=R.ob
 obtain ⟨_,E6,v1,_⟩:=R.ev
 refine ⟨_,rfl,A.p,_,dx,_,_,rfl,h1,T.aO,T.vI,BK ..,.inl ⟨rfl,_,aG.of v1⟩,_,rfl,(sl 2),λt ht=>?_⟩
 obtain ⟨ts,w1,w2,R2,p2⟩:=R.event (eF k) (.inl ⟨k,UM,rfl⟩) ht
 exact ⟨A.ev,_,_,rfl,rfl,Zf ht _ _ _ w1,big (by rw [aUH]; exact w2) hl,q _ _ R2 p2⟩
def IV (K:W.Frag):Sp:=λvs H Q _=>∃ (A:TA) (g:aU) (st:ao) (os:OS) (n k:Nat) (b:Int),vs=[.ref A.p,.int (k:Int),.int b]/\af K H A g st os n/\k<g.n/\b∈(st.at_ k).seq/\Res K H A g os (st.set k (gQ (g.cf k) (st.at_ k) b)) n (Q .aR)
theorem ZeM (F:aY K "use_in" "Steps.use_in" KL f fd) (T:Txt K mg) (Gx:ay P w K mg base (aa K "Room") "use" 3 JJ (uq K)):au P w K mg base aW 4 f fd EB (IV K):=by
 refine F.ok eV (λvs H Q E h=>?_) (λcdv A outer s0 H vs Q E hr h=>?_)
 .obtain ⟨A,g,st,os,n,k,b,rfl,_⟩:=h
  rfl
 obtain ⟨A,g,st,os,n,k,b,rfl,R,hk,hb,q⟩:=h
 have nd:=eV.nd
 refine ⟨_,(Zi (Zp (Zk Gx hr.m T.fZ (Zl (K:=K) rfl (av (Zo (K:=K) rfl) (Zl (K:=K) rfl (pv 0) rfl) (pv 1) (λ_ _=>rfl)) rfl) (pc (pv 2) Zb)))),?_⟩
 obtain ⟨dx,h1⟩:=R.ob
 have ln:=R.ln
 obtain ⟨a,e1,e2,e3,B⟩:=R.at_ (k:=k) (by lia)
 obtain ⟨u1,u2,u3,u4,u5,u6⟩:=R.kq (k:=k) (by lia)
 obtain ⟨ds,h3⟩:=B.aT.ob
 obtain ⟨dr,h4⟩:=B.aT.room.ob
 refine ⟨_,rfl,A.p,_,dx,_,_,rfl,h1,T.aO,T.lA,Zx ..,_,rfl,A.ss,_,_,_,rfl,rfl,aG.of R.ss,af.ix e1,a.sp,_,ds,_,_,rfl,h3,T.eG,T.uD,xo ..,a.rp,dr,_,rfl,h4,bS ..,_,rfl,a.rp,b,(g.cf k).sh,(g.cf k).pl,(g.cf k).ru,a.ls,a.aq,a.du,(st.at_ k).seq,(st.at_ k).us,_,rfl,B.aT.room,by lia,hb,by lia,λH' R1 r1=>?_⟩
 have um:=λx=>(xh (c:=g.cf k) hb).mem_iff (a:=x)
 obtain ⟨R2,p2⟩:=R.iy e1 e2 (B.iy R1 r1 um) (B.aT.eB r1) (λx hx=>u2 x ((um x).mp hx)) (Yr u3 (xh (c:=g.cf k) hb))
 exact q H' _ R2 p2
def Jl (K:W.Frag):Sp:=λvs H Q _=>∃ (A:TA) (g:aU) (st:ao) (os:OS) (n k:Nat) (b:Int) (lw:Addr) (ws:List Int),vs=[.ref A.p,.int (k:Int),.int b,.ref lw]/\af K H A g st os n/\k<g.n/\b∉(st.at_ k).seq/\b∈g.U/\((Zn (g.cf k).sh (b % (g.cf k).sh) (st.at_ k).seq).length:Int)<(g.cf k).pl/\H lw=some (.lst (ws.map V.int))/\¬ OW A os lw/\ws.length=g.size.toNat/\n<=900000/\Res K H A g os (bY k b ws st) (n+1) (Q .aR)
theorem Zec (F:aY K "come_in" "Steps.come_in" Kr f fd) (T:Txt K mg) (EM:ay P w K mg base (aa K "Store") "take_in" 5 Kw (PV K)):au P w K mg base aW 6 f fd Ez (Jl K):=by
 refine F.ok dP (λvs H Q E h=>?_) (λcdv A outer s0 H vs Q E hr h=>?_)
 .obtain ⟨A,g,st,os,n,k,b,lw,ws,rfl,_⟩:=h
  rfl
 obtain ⟨A,g,st,os,n,k,b,lw,ws,rfl,R,hk,hb,MB,hsh,kY,nO,qA,hl,q⟩:=h
 have nd:=dP.nd
 refine ⟨_,(Ze (Zp (Zk EM hr.m T.eG (av (Zo (K:=K) rfl) (Zl (K:=K) rfl (pv 0) rfl) (pv 1) (λ_ _=>rfl)) (pc (pv 2) (pc (pv 3) Zb))))
   (Zi (Zp (vd (K:=K) rfl (i6 aoN aGd adS xr (Zl (K:=K) rfl (pv 0) rfl) (pc (j6 (pc kB (pc (pv 1) (pc (pv 2) Zb)))) Zb)))))),?_⟩
 obtain ⟨dx,h1⟩:=R.ob
 have ln:=R.ln
 obtain ⟨a,e1,e2,e3,B⟩:=R.at_ (k:=k) (by lia)
 obtain ⟨u1,u2,u3,u4,u5,u6⟩:=R.kq (k:=k) (by lia)
 obtain ⟨ds,h3⟩:=B.aT.ob
 refine ⟨_,rfl,A.p,_,dx,_,_,rfl,h1,T.aO,T.lA,Zx ..,_,rfl,A.ss,_,_,_,rfl,rfl,aG.of R.ss,af.ix e1,a.sp,ds,_,rfl,h3,bT ..,_,rfl,_,rfl,a,_,_,_,b,lw,ws,rfl,B,R.tb,kY,(λz=>nO (.inr ⟨k,by lia,z⟩)),hb,u1,u4,u5,hsh,λH1 O1 B1 p1=>?_⟩
 obtain ⟨R2,p2⟩:=R.iy e1 e2 B1 p1 (λx hx=>by
  show x∈g.U/\(if x=b then ws else (st.at_ k).wd x).length=_
  by_cases z:x=b
  .rw [bb9 z,z]; exact ⟨MB,qA⟩
  .rw [aYW z]
   exact u2 x ((ais.mp hx).resolve_right λm=>z (a60.mp m))) (Wu u3 hsh)
 obtain ⟨jZ,g2⟩:=R2.ob
 obtain ⟨_,E6,v1,_⟩:=R2.ev
 refine ⟨_,rfl,A.p,_,jZ,_,_,rfl,g2,T.aO,T.vI,BK ..,.inl ⟨rfl,_,aG.of v1⟩,_,rfl,_,rfl,(sl 3),λt ht=>?_⟩
 obtain ⟨ts,w1,w2,R4,p4⟩:=R2.event (eI k b) (.inr (.inl ⟨k,b,⟨hk,R.wf.ub b MB⟩,.inl rfl⟩)) ht
 exact ⟨A.ev,_,_,rfl,rfl,Zf ht _ _ _ w1,big (by rw [aUH]; exact w2) hl,q _ _ R4 (p2.trans p4)⟩
def Bu (K:W.Frag):Sp:=λvs H Q _=>∃ (A:TA) (g:aU) (st:ao) (os:OS) (n k:Nat) (b:Int),vs=[.ref A.p,.int (k:Int),.int b]/\af K H A g st os n/\k<g.n/\b∈(st.at_ k).seq/\n<=900000 /\
 ∀ H' os' t l,H' t=some (.tup [.ref l,.bl ((st.at_ k).fr b)])->H' l=some (.lst (((st.at_ k).wd b).map V.int))->¬ OW A os' l->af K H' A g (cR k b st) os' (n+1)->bM (OW A os) H H' (OW A os')->Q (.ref t) H'
theorem ZeO (F:aY K "go_out" "Steps.go_out" KJ f fd) (T:Txt K mg) (ES:ay P w K mg base (aa K "Store") "give_out" 4 Le (Qo K)):au P w K mg base aW 5 f fd ZN (Bu K):=by
 refine F.ok eZ (λvs H Q E h=>?_) (λcdv A outer s0 H vs Q E hr h=>?_)
 .obtain ⟨A,g,st,os,n,k,b,rfl,_⟩:=h
  rfl
 obtain ⟨A,g,st,os,n,k,b,rfl,R,hk,hb,hl,q⟩:=h
 have nd:=eZ.nd
 refine ⟨_,(Ze (Zp (vd (K:=K) rfl (i6 aoN aGd adS xr (Zl (K:=K) rfl (pv 0) rfl) (pc (j6 (pc kB (pc (pv 1) (pc (pv 2) Zb)))) Zb))))
   (Zi (Zt (Zk ES hr.m T.eG (av (Zo (K:=K) rfl) (Zl (K:=K) rfl (pv 0) rfl) (pv 1) (λ_ _=>rfl)) (pc (pv 2) Zb))))),?_⟩
 obtain ⟨dx,h1⟩:=R.ob
 obtain ⟨_,E6,v1,_⟩:=R.ev
 have ln:=R.ln
 refine ⟨_,rfl,A.p,_,dx,_,_,rfl,h1,T.aO,T.vI,BK ..,.inl ⟨rfl,_,aG.of v1⟩,_,rfl,_,rfl,(sl 3),λt ht=>?_⟩
 obtain ⟨ts,w1,w2,R4,p4⟩:=R.event [.str "out",.int (k:Int),.int b] (.inr (.inl ⟨k,b,⟨hk,R.wf.ub b ((R.kq (k:=k) (by lia)).2.1 b hb).1⟩,.inr rfl⟩)) ht
 refine ⟨A.ev,_,_,rfl,rfl,Zf ht _ _ _ w1,big (by rw [aUH]; exact w2) hl,?_⟩
 generalize upd (upd H t (.tup [.str "out",.int (k:Int),.int b])) A.ev (.lst (ts.map V.ref++[.ref t]))=H4 at *
 obtain ⟨qT,g4⟩:=R4.ob
 obtain ⟨a,e1,e2,e3,B⟩:=R4.at_ (k:=k) (by lia)
 obtain ⟨u1,u2,u3,u4,u5,u6⟩:=R4.kq (k:=k) (by lia)
 obtain ⟨ds,h3⟩:=B.aT.ob
 refine ⟨_,rfl,A.p,_,qT,_,_,rfl,g4,T.aO,T.lA,Zx ..,_,rfl,A.ss,_,_,_,rfl,rfl,aG.of R4.ss,af.ix e1,a.sp,ds,_,rfl,h3,bT ..,_,rfl,a,_,_,_,b,rfl,B,hb,λt2 l H5 O5 et el nl B' p5 own=>?_⟩
 obtain ⟨R5,p6⟩:=R4.iy e1 e2 B' p5 (λx hx=>u2 x (afd hx)) (Ys u3 List.erase_sublist)
 refine q H5 _ t2 l et el (λz=>?_) R5 (p4.trans p6)
 rcases z with z | ⟨j,hj,z⟩
 .rcases own with o | o
  .exact R4.off k (by lia) l o z
  .exact R4.ex l (.inl z) o
 .unfold OS.set at z
  by_cases e:j=k
  .rw [bb9 e] at z; exact nl z
  .rw [aYW e] at z
   rcases own with o | o
   .exact R4.om j k hj (by lia) e l z o
   .exact R4.ex l (.inr ⟨j,hj,z⟩) o
end
section
variable {K:W.Frag} {H H':Hp} {A:TA} {g:aU} {st:ao} {os:OS} {n:Nat}
theorem af.Gf {mem':Int->Int} (T:af K H A g st os n) (M:d9 K H' A.bm A.dk g.size mem' g.U) (f:∀ x o,H x=some o->x≠A.dk->H' x=some o):af K H' A g { st with mem:=mem' } os n/\bM (OW A os) H H' (OW A os):=by
 obtain ⟨dx,h1⟩:=T.ob
 obtain ⟨kv,h2,_⟩:=T.mem.kept
 have nk:∀ {x o},H x=some o->(∀ k,o≠.dK k)->H' x=some o:=λ{x o} q m=>f x o q λz=>by rw [z,h2] at q; exact m _ (a6S q).symm
 refine ⟨⟨⟨dx,nk h1 (λ_ z=>by cases z)⟩,nk T.ss (λ_ z=>by cases z),M,T.ev.frame (λo e=>?_) (λx ys e=>nk e (λ_ z=>by cases z)),T.rT,T.lc,T.lS,λk a c s q1 q2 q3=>(T.aT k a c s q1 q2 q3).frame λx o h q=>f x o q λz=>T.off k (aK1.mp q1).1 x h (by simp [Bs,z]),T.off,T.om,T.vQ,T.pP,T.pY,T.full,T.wl,T.wf,nk T.tb (λ_ z=>by cases z)⟩,⟨λx o e m=>f x o e λz=>?_,λx h=>.inl h⟩⟩
 .obtain ⟨_,ts,v,_⟩:=T.ev
  rw [v] at e; cases e
  exact nk v (λ_ z=>by cases z)
 .rw [z,h2] at e
  cases e
  exact m (.inl (by simp [Bs,z])) trivial
end
section
def nF (K:W.Frag):Sp:=λvs H Q _=>∃ (A:TA) (g:aU) (st:ao) (os:OS) (n k:Nat) (b:Int) (lw:Addr) (ws:List Int),vs=[.ref A.p,.int (k:Int),.int b,.ref lw]/\af K H A g st os n/\k<=g.n/\(k<g.n->b∈(st.at_ k).seq)/\b∈g.U/\H lw=some (.lst (ws.map V.int))/\¬ OW A os lw/\ws.length=g.size.toNat/\n<=900000/\Res K H A g os (bz g k b ws st) (n+1) (Q .aR)
theorem Zhc (F:aY K "put" "Steps.put" Kd f fd) (T:Txt K mg) (EX:ay P w K mg base (aa K "Memory") "lay" 2 JR (NY K)) (xK:ay P w K mg base (aa K "Store") "lay" 1 En (p8 K)):au P w K mg base aW 3 f fd BN (nF K):=by
 refine F.ok gY (λvs H Q E h=>?_) (λcdv A outer s0 H vs Q E hr h=>?_)
 .obtain ⟨A,g,st,os,n,k,b,lw,ws,rfl,_⟩:=h
  rfl
 obtain ⟨A,g,st,os,n,k,b,lw,ws,rfl,R,hk,hb,bU,kY,nO,qA,hl,q⟩:=h
 have nd:=gY.nd
 refine ⟨_,(Ze (aJ (ZD bB (pv 1) (Zl (K:=K) rfl (pv 0) rfl) (Zz _)) (Zi (Zp (Zk EX hr.m T.qj (Zl (K:=K) rfl (pv 0) rfl) (pc (pv 2) (pc (pv 3) Zb))))) (Zi (Zp (Zk xK hr.m T.eG (av (Zo (K:=K) rfl) (Zl (K:=K) rfl (pv 0) rfl) (pv 1) (λ_ _=>rfl)) (pc (pv 2) (pc (pv 3) Zb))))))
   (Zi (Zp (vd (K:=K) rfl (i6 aoN aGd adS xr (Zl (K:=K) rfl (pv 0) rfl) (pc (j6 (pc kB (pc (pv 1) (pc (pv 2) Zb)))) Zb)))))),?_⟩
 obtain ⟨dx,h1⟩:=R.ob
 have ln:=R.ln
 refine wQ (λσ G=>σ=[some (.ref A.p),some (.int (k:Int)),some (.int b),some (.ref lw)]/\∃ os',af K G A g (if k=g.n then { st with mem:=lM g.size st.mem b ws } else st.set k (jE (st.at_ k) b ws)) os' n/\bM (OW A os) H G (OW A os')) (λD' _ k'=>?_) ?_
 .refine ⟨_,rfl,_,rfl,A.p,_,dx,_,_,rfl,h1,T.aO,T.sM,vf ..,rfl,_,rfl,Oi (λe=>?_) (λe=>?_)⟩
  .obtain ⟨dm,h2⟩:=R.mem.ob
   have z0:=R.wf.z0
   obtain ⟨b0,b1⟩:=R.wf.ub b bU
   refine ⟨_,rfl,A.p,_,dx,_,_,rfl,h1,T.aO,T.Ct,JC ..,A.bm,dm,_,rfl,h2,qx ..,_,rfl,_,rfl,A.bm,A.dk,g.size,b,st.mem,g.U,lw,ws,rfl,R.mem,by lia,R.wf.z1,b0,b1,bU,R.wf.lU,kY,qA,λH1 M1 f1=>?_⟩
   obtain ⟨R1,p1⟩:=R.Gf M1 f1
   rw [bb9 (by lia)] at k'
   exact k' _ _ ⟨rfl,_,R1,p1⟩
  .obtain ⟨a,e1,e2,e3,B⟩:=R.at_ (k:=k) (by lia)
   obtain ⟨u1,u2,u3,u4,u5,u6⟩:=R.kq (k:=k) (by lia)
   obtain ⟨ds,kvs,h3,h4,h5,h6⟩:=B.lay (hb (by lia)) ws (Q:=D'.nx [some (.ref A.p),some (.int (k:Int)),some (.int b),some (.ref lw)]) (λH' O' B' p'=>by
    obtain ⟨R1,p1⟩:=R.iy e1 e2 B' p' (λx hx=>by
     show x∈g.U/\(if x=b then ws else (st.at_ k).wd x).length=_
     by_cases z:x=b
     .rw [bb9 z,z]; exact ⟨bU,qA⟩
     .rw [aYW z]; exact u2 x hx) u3
    rw [aYW (by lia)] at k'
    exact k' _ _ ⟨rfl,_,R1,p1⟩)
   exact ⟨_,rfl,A.p,_,dx,_,_,rfl,h1,T.aO,T.lA,Zx ..,_,rfl,A.ss,_,_,_,rfl,rfl,aG.of R.ss,af.ix e1,a.sp,ds,_,rfl,h3,bT ..,_,rfl,_,rfl,a.sp,ds,a.rp,a.dh,a.df,(g.cf k).late,kvs,b,lw,_,rfl,h3,h4,by lia,kY,h6⟩
 rintro _ G ⟨rfl,bG,R2,p2⟩
 obtain ⟨jZ,g2⟩:=R2.ob
 obtain ⟨_,E6,v1,_⟩:=R2.ev
 refine ⟨_,rfl,A.p,_,jZ,_,_,rfl,g2,T.aO,T.vI,BK ..,.inl ⟨rfl,_,aG.of v1⟩,_,rfl,_,rfl,(sl 3),λt ht=>?_⟩
 obtain ⟨ts,w1,w2,R4,p4⟩:=R2.event (eW k b) (.inr (.inr ⟨k,b,⟨hk,R.wf.ub b bU⟩,rfl⟩)) ht
 refine ⟨A.ev,_,_,rfl,rfl,Zf ht _ _ _ w1,big (by rw [aUH]; exact w2) hl,q _ _ ?_ (p2.trans p4)⟩
 unfold bz
 by_cases c:k=g.n
 .rw [bb9 c] at R4 ⊢; exact R4
 .rw [aYW c] at R4 ⊢; exact R4
def ju (g:aU) (s:Rm) (sp:Int):Int:=(s.wd (sp / g.size)).getD (sp % g.size).toNat 0
def PN (K:W.Frag):Sp:=λvs H Q _=>∃ (A:TA) (g:aU) (st:ao) (os:OS) (n k:Nat) (sp:Int),vs=[.ref A.p,.int (k:Int),.int sp]/\af K H A g st os n/\k<g.n/\sp / g.size∈(st.at_ k).seq/\∀ H',aB H H'->Q (.int (ju g (st.at_ k) sp)) H'
theorem Bh {ws:List Int} {m:Nat} {i:Int} (l:ws.length=m) (h0:0<=i) (h1:i<m):gc (ws.map V.int) i=some (.int (ws.getD i.toNat 0)):=by
 have e:(i.toNat:Int)=i:=by lia
 have hi:i.toNat<ws.length:=by lia
 have q:gc (ws.map V.int) (i.toNat:Int)=some (.int (ws.getD i.toNat 0)):=pq (by
  rw [aJm,agd,aJu hi]; rfl)
 rw [e] at q
 exact q
theorem Zed (F:aY K "word_in" "Steps.word_in" Kq f fd) (T:Txt K mg) (pO:ay P w K mg base (aa K "Store") "words_of" 3 ZA (BL K)) (pJ:Def P w K mg base "board_of" 1 yH Bv):au P w K mg base aW 4 f fd Ko (PN K):=by
 refine F.ok dO (λvs H Q E h=>?_) (λcdv A outer s0 H vs Q E hr h=>?_)
 .obtain ⟨A,g,st,os,n,k,sp,rfl,_⟩:=h
  rfl
 obtain ⟨A,g,st,os,n,k,sp,rfl,R,hk,hb,q⟩:=h
 have nd:=dO.nd
 refine ⟨_,(Zi (Zt (av (Zo (K:=K) rfl) (Zk pO hr.m T.eG (av (Zo (K:=K) rfl) (Zl (K:=K) rfl (pv 0) rfl) (pv 1) (λ_ _=>rfl)) (pc (Zm pJ hr.m rfl (pc (Zl (K:=K) rfl (pv 0) rfl) (pc (pv 2) Zb))) Zb)) (ak o8 (pv 2) (Zl (K:=K) rfl (pv 0) rfl)) (λ_ _=>rfl)))),?_⟩
 obtain ⟨dx,h1⟩:=R.ob
 have ln:=R.ln
 obtain ⟨a,e1,e2,e3,B⟩:=R.at_ (k:=k) (by lia)
 obtain ⟨u1,u2,u3,u4,u5,u6⟩:=R.kq (k:=k) (by lia)
 obtain ⟨ds,h3⟩:=B.aT.ob
 have z0:=R.wf.z0
 have z1:=R.wf.z1
 refine ⟨_,rfl,A.p,_,dx,_,_,rfl,h1,T.aO,T.lA,Zx ..,_,rfl,A.ss,_,_,_,rfl,rfl,aG.of R.ss,af.ix e1,a.sp,ds,_,rfl,h3,bT ..,_,rfl,A.p,_,dx,_,_,rfl,h1,T.aO,T.vL,yC ..,_,rfl,g.size,sp,rfl,by lia,by lia,a,_,_,_,_,rfl,B,hb,λl hl=>?_⟩
 have s1:=Zf hl (.lst (((st.at_ k).wd (sp / g.size)).map V.int))
 have m0:0<=sp % g.size:=aA2 _ (by lia)
 have m1:sp % g.size<g.size:=aUu _ (by lia)
 exact ⟨_,rfl,_,rfl,A.p,_,dx,_,_,rfl,s1 _ _ h1,T.aO,T.vL,yC ..,_,_,rfl,rfl,(by show 0<g.size; lia),l,_,_,_,rfl,rfl,aG.of Za,Bh (u2 _ hb).2 m0 (by lia),q _ s1⟩
def kG (g:aU) (s:Rm) (sp x:Int):Rm:=jE s (sp / g.size) ((s.wd (sp / g.size)).set (sp % g.size).toNat x)
def Qm (K:W.Frag):Sp:=λvs H Q _=>∃ (A:TA) (g:aU) (st:ao) (os:OS) (n k:Nat) (sp x:Int),vs=[.ref A.p,.int (k:Int),.int sp,.int x]/\af K H A g st os n/\k<g.n/\sp / g.size∈(st.at_ k).seq/\Res K H A g os (st.set k (kG g (st.at_ k) sp x)) n (Q .aR)
theorem ZdP (F:aY K "put_word" "Steps.put_word" K7 f fd) (T:Txt K mg) (ER:ay P w K mg base (aa K "Store") "lay_word" 1 Lb (Qn K)) (pJ:Def P w K mg base "board_of" 1 yH Bv):au P w K mg base aW 2 f fd K6 (Qm K):=by
 refine F.ok c6 (λvs H Q E h=>?_) (λcdv A outer s0 H vs Q E hr h=>?_)
 .obtain ⟨A,g,st,os,n,k,sp,x,rfl,_⟩:=h
  rfl
 obtain ⟨A,g,st,os,n,k,sp,x,rfl,R,hk,hb,q⟩:=h
 have nd:=c6.nd
 refine ⟨_,(Zi (Zp (Zk ER hr.m T.eG (av (Zo (K:=K) rfl) (Zl (K:=K) rfl (pv 0) rfl) (pv 1) (λ_ _=>rfl)) (pc (Zm pJ hr.m rfl (pc (Zl (K:=K) rfl (pv 0) rfl) (pc (pv 2) Zb))) (pc (ak o8 (pv 2) (Zl (K:=K) rfl (pv 0) rfl)) (pc (pv 3) Zb)))))),?_⟩
 obtain ⟨dx,h1⟩:=R.ob
 have ln:=R.ln
 obtain ⟨a,e1,e2,e3,B⟩:=R.at_ (k:=k) (by lia)
 obtain ⟨u1,u2,u3,u4,u5,u6⟩:=R.kq (k:=k) (by lia)
 obtain ⟨ds,h3⟩:=B.aT.ob
 have z0:=R.wf.z0
 have z1:=R.wf.z1
 have m0:0<=sp % g.size:=aA2 _ (by lia)
 have m1:sp % g.size<g.size:=aUu _ (by lia)
 have lw:=(u2 _ hb).2
 refine ⟨_,rfl,A.p,_,dx,_,_,rfl,h1,T.aO,T.lA,Zx ..,_,rfl,A.ss,_,_,_,rfl,rfl,aG.of R.ss,af.ix e1,a.sp,ds,_,rfl,h3,bT ..,_,rfl,A.p,_,dx,_,_,rfl,h1,T.aO,T.vL,yC ..,_,rfl,g.size,sp,rfl,by lia,by lia,_,rfl,_,rfl,A.p,_,dx,_,_,rfl,h1,T.aO,T.vL,yC ..,_,_,rfl,rfl,(by show 0<g.size; lia),_,rfl,a,_,_,_,_,_,x,rfl,B,hb,m0,by lia,λH1 B1 p1=>?_⟩
 obtain ⟨R1,p2⟩:=R.iy e1 e2 B1 p1 (λy hy=>by
  show y∈g.U/\(if y=sp / g.size then _ else (st.at_ k).wd y).length=_
  by_cases z:y=sp / g.size
  .rw [bb9 z,aZE,z]; exact u2 _ hb
  .rw [aYW z]; exact u2 y hy) u3
 exact q _ _ R1 p2
end
def Wr (s:Str):Prop:=s = "late" \/ s = "through"
structure iN (K:W.Frag) (H:Hp) (tp:Addr) (ts:List Addr) (bu:List Cf):Prop where
 top:H tp=some (.tup (ts.map V.ref))
 len:ts.length=bu.length
 at_:∀ (i:Nat) (t:Addr) (c:Cf),ts[i]?=some t->bu[i]?=some c->∃ wr:Str,H t=some (.tup [.int c.sh,.int c.pl,.str c.ru,.str wr])/\c.late=decide (wr = "late")/\Wr wr
 cf:∀ c∈bu,1<=c.sh/\c.sh<=64/\1<=c.pl/\c.pl<=16/\rA c.ru
theorem iN.frame {K:W.Frag} {H H':Hp} {tp:Addr} {ts:List Addr} {bu:List Cf} (p:iN K H tp ts bu) (s:∀ x ys,H x=some (.tup ys)->H' x=some (.tup ys)):iN K H' tp ts bu :=
 ⟨s _ _ p.top,p.len,λi t c h1 h2=>by obtain ⟨wr,e1,e2⟩:=p.at_ i t c h1 h2; exact ⟨wr,s _ _ e1,e2⟩,p.cf⟩
def SN (size:Int) (ss bm:Addr) (last:Nat) (ev:Addr):List (Str×V):=ai "events" (.ref ev) (ai "last" (.int last) (ai "bottom" (.ref bm) (ai "stores" (.ref ss) (ai "size" (.int size) []))))
structure yO (K:W.Frag) (H G:Hp) (as:List SA) (bu:List Cf) (os:OS):Prop where
 at_:∀ (i:Nat) (a:SA) (c:Cf),as[i]?=some a->bu[i]?=some c->az K G a c m9 (os i)
 fr:∀ i,i<as.length->∀ x,os i x->H x=none
 om:∀ i j,i<as.length->j<as.length->i≠j->∀ x,os i x->¬ os j x
theorem yO.frame {K:W.Frag} {H G G':Hp} {as:List SA} {bu:List Cf} {os:OS} {p:Addr} (m:yO K H G as bu os) (hp:H p≠none) (f:∀ x o,G x=some o->x≠p->G' x=some o):yO K H G' as bu os :=
 ⟨λi a c h1 h2=>(m.at_ i a c h1 h2).frame λx o h e=>f x o e λz=>hp (z ▸ m.fr i (aK1.mp h1).1 x h),m.fr,m.om⟩
theorem yO.ex {K:W.Frag} {H G:Hp} {as:List SA} {bu:List Cf} {os:OS} (m:yO K H G as bu os) (l:as.length<=bu.length) {i:Nat} (hi:i<as.length) {x:Addr} (h:os i x):G x≠none :=
 (m.at_ i _ _ (aJu hi) (aJu (a6M hi l))).aT.ex x h
def pB (n:Nat):ao:=⟨List.replicate n m9,λ_=>0,[]⟩
section
def IU (K:W.Frag):Sp:=λvs H Q _=>∃ (p dx tp:Addr) (size:Int) (ts:List Addr) (bu:List Cf),vs=[.ref p,.int size,.ref tp]/\H p=some (.ins (aa K "Beside") dx [])/\iN K H tp ts bu/\bu.length<=4/\Tb K H /\
 ∀ (A:TA) (os:OS) (H':Hp),A.p=p->H' p=some (.ins (aa K "Beside") dx (SN size A.ss A.bm A.as.length A.ev))->(∀ kind U,WF ⟨size,kind,bu,U⟩->af K (upd H' p (.ins (aa K "Beside") dx (bw size A.ss A.bm A.as.length A.ev kind))) A ⟨size,kind,bu,U⟩ (pB bu.length) os 0) ->
  (∀ x,OW A os x->x≠p->H x=none)->(∀ b o,H b=some o->b≠p->H' b=some o)->Q .aR H'
theorem ZfW (F:aY K "__init__" "Steps.__init__" ZS f fd) (T:Txt K mg) (Gs:pH P w K mg base (aa K "Store") "Store" 3 JT (Ob K)) (Gv:pH P w K mg base (aa K "Memory") "Memory" 1 J7 (ur K)):au P w K mg base aW 5 f fd BX (IU K):=by
 refine F.ok gk (λvs H Q E h=>?_) (λcdv A outer s0 H vs Q E hr h=>?_)
 .obtain ⟨p,dx,tp,size,ts,bu,rfl,_⟩:=h
  rfl
 obtain ⟨p,dx,tp,size,ts,bu,rfl,hp,pa,l4,tb,k⟩:=h
 have nd:=gk.nd
 refine ⟨_,(Ze (lX (pv 0) (pv 1) rfl)
   (Ze (lX (pv 0) (vh (sj (gy:=(Zg ZS)) (oN:=eT) (N:=["room_plan"]) (own:=1) (js:=[]) (by decide +kernel) rfl rfl) rfl (DR (K:=K) rfl (pv 2)) (λ_ _ _ _ _ _=>(ck 0 (show List.Nodup (["room_plan"]:List Str) by decide +kernel))) (λ_ _ _ _ _ _=>(BH Gs hr.m rfl (pc (pv 0) Zb)))) rfl)
   (Ze (lX (pv 0) (BH Gv hr.m rfl (pc (pv 1) Zb)) rfl)
   (Ze (lX (pv 0) (Zs (ZI (K:=K) rfl) rfl T.sC a5u (pc (Zl (K:=K) rfl (pv 0) rfl) Zb)) rfl)
   (Zi (lX (pv 0) (m6 Zb) rfl)))))),?_⟩
 refine ⟨_,rfl,_,rfl,p,_,dx,_,rfl,hp,T.aO,T.vL,(by show 0<1000; decide),?_⟩
 have fu:∀ {G:Hp} {o':HO} x o,G x=some o->x≠p->upd G p o' x=some o:=λx o e n=>by rw [Zc n]; exact e
 have yh:H p≠none:=by rw [hp]; simp
 have nk:∀ {x o},H x=some o->(∀ C d f,o≠.ins C d f)->x≠p:=λ{x o} q m z=>by rw [z,hp] at q; exact m _ _ _ (a6S q).symm
 have e1:upd H p (.ins (aa K "Beside") dx (ai "size" (.int size) [])) p=some (.ins (aa K "Beside") dx (ai "size" (.int size) [])):=Za
 have f1:∀ x o,H x=some o->x≠p->upd H p (.ins (aa K "Beside") dx (ai "size" (.int size) [])) x=some o:=fu
 have n1:∀ x,upd H p (.ins (aa K "Beside") dx (ai "size" (.int size) [])) x=none->H x=none:=λx e=>by
  by_cases z:x=p
  .rw [z,Za] at e; cases e
  .rw [Zc z] at e; exact e
 generalize upd H p (.ins (aa K "Beside") dx (ai "size" (.int size) []))=H1 at *
 have FN:=pa.frame (H':=H1) λx ys e=>f1 x _ e (nk e (λ_ _ _ z=>by cases z))
 refine ⟨_,rfl,tp,rfl,⟨_,aZ.of FN.top⟩,λss hss=>?_⟩
 refine Po (K:=K) (a:=tp) (xs:=ts.map V.ref) (l:=ss) (λj ys σ G=>∃ (v0:Option V) (as:List SA) (os:OS),σ=[v0]/\ys=as.map (λa=>V.ref a.sp)/\as.length=j/\G ss=some (.lst ys)/\aB H1 G/\yO K H G as bu os/\∀ i,i<as.length->¬ os i ss)
  ⟨none,[],λ_ _=>False,rfl,rfl,rfl,Za,Zf hss _,⟨λi a c h=>by simp at h,λi h=>by simp at h,λi j h=>by simp at h⟩,λi h=>by simp at h⟩ (λj ys σ G _ ⟨_,_,_,_,_,_,_,s,_⟩=>aZ.of (s _ _ FN.top)) ?_ ?_
 .rintro j x ys σ G hj uO hys ⟨v0,as,os,rfl,rfl,hlen,g1,s1,mk,ns⟩
  rw [aUH] at hj
  rw [aJm] at uO
  obtain ⟨t,et,rfl⟩:∃ t,ts[j]?=some t/\V.ref t=x:=by
   cases e:ts[j]? with
   | none=>rw [e] at uO; cases uO
   | some t=>rw [e] at uO; exact ⟨t,rfl,a6S uO⟩
  have Mz:j<bu.length:=by rw [← pa.len]; exact hj
  have ec:bu[j]?=some bu[j]:=aJu Mz
  obtain ⟨wr,q1,q2,_⟩:=FN.at_ j t _ et ec
  have cb:=pa.cf _ (ai0 Mz)
  have zE:=s1 _ _ q1
  refine ⟨_,rfl,λx wN hx hdx ne=>⟨x,wN,t,bu[j].sh,bu[j].pl,bu[j].ru,wr,rfl,Za,aZ.of ?_,cb.1,cb.2.1,λa G1 ea S1 k2=>⟨rfl,?_⟩⟩⟩
  .rw [Zc (Zd zE hx),Zc (Zd zE hdx)]; exact zE
  have sG:aB G G1:=λy o e=>k2 y o (by rw [Zc (Zd e hx),Zc (Zd e hdx)]; exact e) (Zd e hx)
  have oW:∀ y,(y=x\/(upd (upd G wN (.own x)) x (.ins (aa K "Store") wN []) y=none/\G1 y≠none))->G y=none:=λy h=>by
   rcases h with h | h
   .rw [h]; exact hx
   .cases q:G y with
    | none=>rfl
    | some o=>have e:=h.1; rw [Zc (Zd q hx),Zc (Zd q hdx),q] at e; cases e
  rw [show (⟨bu[j].sh,bu[j].pl,bu[j].ru,decide (wr = "late")⟩:Cf)=bu[j] by rw [← q2]] at S1
  rw [show V.ref x=V.ref a.sp by rw [ea]]
  have Dp:=sG _ _ g1
  have ye:as.length<=bu.length:=by lia
  obtain ⟨N,S1,oW⟩:∃ N:Addr->Prop,az K G1 a bu[j] m9 N/\∀ y,N y->G y=none:=⟨_,S1,oW⟩
  have nN:¬ N ss:=λh=>by have q:=oW ss h; rw [g1] at q; cases q
  have la:∀ {i:Nat} {b:SA},(as++[a])[i]?=some b->(i<as.length/\as[i]?=some b)\/(i=as.length/\b=a):=λ{i b} hb=>by
   by_cases hi:i<as.length
   .rw [aOW hi] at hb; exact .inl ⟨hi,hb⟩
   .have:=(aK1.mp hb).1
    rw [aAe,aOg] at this
    have hi2:i=as.length:=by lia
    subst hi2
    rw [aRD (aDN _),amh] at hb
    cases hb
    exact .inr ⟨rfl,rfl⟩
  have os':∀ {i},i<as.length->(os.set as.length N) i=os i:=λ{i} h=>aYW (by lia)
  have zM:(os.set as.length N) as.length=N:=bb9 rfl
  have cs:∀ {i},i<(as++[a]).length->i<as.length\/i=as.length:=λ{i} h=>by rw [aAe,aOg] at h; lia
  refine kW.of (aS5 (ZE (by rw [aUH,pa.len]; lia))) (by rw [aUH]; exact hj) hys Dp ⟨_,as++[a],os.set as.length N,rfl,by rw [aIO]; rfl,by rw [aAe,hlen]; rfl,Za,λy o e=>?_,⟨λi b c hb hc=>?_,λi hi y hy=>?_,λi i' hi hi' nn y h1 h2=>?_⟩,λi hi=>?_⟩
  .rw [Zc (Zd e hss)]; exact sG _ _ (s1 _ _ e)
  .rcases la hb with ⟨hi,hb⟩ | ⟨hi,rfl⟩
   .rw [os' hi]
    exact (mk.at_ i b c hb hc).frame λy o h e=>by rw [Zc (λz:y=ss=>ns i hi (z ▸ h))]; exact sG _ _ e
   .subst hi
    rw [zM]
    rw [hlen,ec] at hc; cases hc
    exact S1.frame λy o h e=>by rw [Zc (λz:y=ss=>nN (z ▸ h))]; exact e
  .rcases cs hi with h | h
   .rw [os' h] at hy; exact mk.fr i h y hy
   .rw [h,zM] at hy; exact n1 _ (s1.free (oW y hy))
  .rcases cs hi with a1 | a1
   .rw [os' a1] at h1
    rcases cs hi' with a2 | a2
    .rw [os' a2] at h2; exact mk.om i i' a1 a2 nn y h1 h2
    .rw [a2,zM] at h2; exact mk.ex ye a1 h1 (oW y h2)
   .rw [a1,zM] at h1
    rcases cs hi' with a2 | a2
    .rw [os' a2] at h2; exact mk.ex ye a2 h2 (oW y h1)
    .exact nn (a1.trans a2.symm)
  .rcases cs hi with h | h
   .rw [os' h]; exact ns i h
   .rw [h,zM]; exact nN
 rintro ys σ G hys ⟨v0,as,os,rfl,rfl,hlen,g1,s1,mk,ns⟩
 rw [aUH,pa.len] at hlen
 have hp2:=s1 _ _ e1
 have fG:∀ x o,H x=some o->x≠p->G x=some o:=λx o e n=>s1 _ _ (f1 x o e n)
 refine ⟨_,rfl,p,_,dx,_,rfl,hp2,T.aO,T.lA,(by show 1<1000; decide),?_⟩
 have CQ:ss≠p:=λz=>by rw [z,hp2] at g1; cases g1
 have e2:upd G p (.ins (aa K "Beside") dx (ai "stores" (.ref ss) (ai "size" (.int size) []))) p=some (.ins (aa K "Beside") dx (ai "stores" (.ref ss) (ai "size" (.int size) []))):=Za
 have f2:∀ x o,G x=some o->x≠p->upd G p (.ins (aa K "Beside") dx (ai "stores" (.ref ss) (ai "size" (.int size) []))) x=some o:=fu
 generalize upd G p (.ins (aa K "Beside") dx (ai "stores" (.ref ss) (ai "size" (.int size) [])))=H2 at *
 have mk2:=mk.frame yh f2
 refine ⟨_,rfl,λbm bx hbm MA nbx=>⟨bm,bx,size,rfl,Za,λdk H3 M3 MP k3=>⟨rfl,?_⟩⟩⟩
 have s3:aB H2 H3:=λy o e=>k3 y o (by rw [Zc (Zd e hbm),Zc (Zd e MA)]; exact e) (Zd e hbm)
 have zZ:H2 dk=none:=by
  cases q:H2 dk with
  | none=>rfl
  | some o=>rw [Zc (Zd q hbm),Zc (Zd q MA),q] at MP; cases MP
 have e3:=s3 _ _ e2
 have pP:p≠bm:=Zd e2 hbm
 have F2:p≠dk:=Zd e2 zZ
 refine ⟨_,rfl,p,_,dx,_,rfl,e3,T.aO,T.Ct,(by show 2<1000; decide),?_⟩
 have e4:upd H3 p (.ins (aa K "Beside") dx (ai "bottom" (.ref bm) (ai "stores" (.ref ss) (ai "size" (.int size) [])))) p=some (.ins (aa K "Beside") dx (ai "bottom" (.ref bm) (ai "stores" (.ref ss) (ai "size" (.int size) [])))):=Za
 have f4:∀ x o,H3 x=some o->x≠p->upd H3 p (.ins (aa K "Beside") dx (ai "bottom" (.ref bm) (ai "stores" (.ref ss) (ai "size" (.int size) [])))) x=some o:=fu
 generalize upd H3 p (.ins (aa K "Beside") dx (ai "bottom" (.ref bm) (ai "stores" (.ref ss) (ai "size" (.int size) []))))=H4 at *
 have g4:=f4 _ _ (s3 _ _ (f2 _ _ g1 CQ)) CQ
 have Uo:(ai "bottom" (.ref bm) (ai "stores" (.ref ss) (ai "size" (.int size) [])):List (Str×V)).lookup ("stores" : Str)=some (.ref ss):=by rw [Zh,aYW (by decide +kernel),Zh,bb9 rfl]
 refine ⟨_,rfl,p,_,dx,_,_,rfl,e4,T.aO,T.lA,Uo,ss,_,rfl,.inl (aG.of g4),_,rfl,p,_,dx,_,rfl,e4,T.aO,T.sM,(by show 3<1000; decide),?_⟩
 rw [aUH]
 have e5:upd H4 p (.ins (aa K "Beside") dx (ai "last" (.int (as.length:Int)) (ai "bottom" (.ref bm) (ai "stores" (.ref ss) (ai "size" (.int size) []))))) p=some (.ins (aa K "Beside") dx (ai "last" (.int (as.length:Int)) (ai "bottom" (.ref bm) (ai "stores" (.ref ss) (ai "size" (.int size) []))))):=Za
 have f5:∀ x o,H4 x=some o->x≠p->upd H4 p (.ins (aa K "Beside") dx (ai "last" (.int (as.length:Int)) (ai "bottom" (.ref bm) (ai "stores" (.ref ss) (ai "size" (.int size) []))))) x=some o:=fu
 generalize upd H4 p (.ins (aa K "Beside") dx (ai "last" (.int (as.length:Int)) (ai "bottom" (.ref bm) (ai "stores" (.ref ss) (ai "size" (.int size) [])))))=H5 at *
 have MV:∀ x o,H3 x=some o->x≠p->H5 x=some o:=λx o e n=>f5 _ _ (f4 _ _ e n) n
 have MW:∀ x o,H2 x=some o->x≠p->H5 x=some o:=λx o e n=>MV _ _ (s3 _ _ e) n
 have Ge:=mk2.frame yh MW
 have Hu:∀ x o,H x=some o->x≠p->H5 x=some o:=λx o e n=>MW _ _ (f2 _ _ (fG x o e n) n) n
 refine ⟨(sl 0),λev hev=>⟨_,rfl,p,_,dx,_,rfl,Zf hev _ _ _ e5,T.aO,T.vI,(by show 4<1000; decide),?_⟩⟩
 have s6:=Zf hev (.lst ([]:List V))
 have vX:ev≠p:=λz=>by rw [z,e5] at hev; cases hev
 have ye:as.length<=bu.length:=by lia
 have nH:∀ {x},H5 x=none->x≠p->H x=none:=λ{x} h n=>by
  cases q:H x with
  | none=>rfl
  | some o=>rw [Hu x o q n] at h; cases h
 have L4:∀ {x},H2 x=none->x≠p->H x=none:=λ{x} h n=>by
  cases q:H x with
  | none=>rfl
  | some o=>rw [f2 _ _ (fG x o q n) n] at h; cases h
 refine k ⟨p,ss,bm,dk,ev,as⟩ os _ rfl Za (λkind U wf=>?_) (λx hx n=>?_) λx o e n=>?_
 .rw [IJ]
  have ff:∀ x o,H5 x=some o->x≠p->upd (upd H5 ev (.lst [])) p (.ins (aa K "Beside") dx (bw size ss bm as.length ev kind)) x=some o:=λx o e n=>fu x o (s6 _ _ e) n
  have Gd:=Ge.frame yh ff
  have g5:=f5 _ _ g4 CQ
  have rp:∀ {s:Rm},s∈List.replicate bu.length m9->s=m9:=λh=>(aTX.mp h).2
  refine ⟨⟨dx,Za⟩,ff _ _ g5 CQ,(M3 U).frame λx o m e=>ff x o (MV x o e ?_) ?_,⟨(λe m=>by cases m),[],by show upd _ p _ ev=_; rw [Zc vX]; exact Za,rfl,λi t e q _=>by simp at q⟩,aDN _,hlen.symm,by show (List.replicate _ _).length=_; rw [asY]; exact hlen.symm,λj b c s hb hc hs=>?_,λj hj x h z=>?_,Gd.om,Zd g5 hev,pP,λs hs b hb=>?_,λj c s hc hs t=>?_,λs hs b hb=>?_,wf,ff _ _ (Hu _ _ tb (nk tb (λ_ _ _ z=>by cases z))) (nk tb (λ_ _ _ z=>by cases z))⟩
  .rcases m with rfl | rfl; exact aI4 pP; exact aI4 F2
  .rcases m with rfl | rfl; exact aI4 pP; exact aI4 F2
  .have hs:(List.replicate bu.length m9)[j]?=some s:=hs
   rw [rp (axK hs)]
   exact Gd.at_ j b c hb hc
  .rcases z with z | z | z | z | z
   .exact yh ((show x=p from z) ▸ Gd.fr j hj x h)
   .exact ns j hj ((show x=ss from z) ▸ h)
   .exact mk2.ex ye hj h (by rw [z]; exact hbm)
   .exact mk2.ex ye hj h (by rw [z]; exact zZ)
   .exact Ge.ex ye hj h (by rw [z]; exact hev)
  .rw [rp hs] at hb; exact absurd hb (by simp [m9])
  .have hs:(List.replicate bu.length m9)[j]?=some s:=hs
   rw [rp (axK hs)]
   show ((0:Nat):Int)<=c.pl
   have:=(wf.cf c (axK hc)).1
   lia
  .rw [rp hs] at hb; exact absurd hb (by simp [m9])
 .rcases hx with hx | ⟨j,hj,hx⟩
  .rcases hx with z | z | z | z | z
   .exact absurd z n
   .rw [z]; exact n1 _ hss
   .rw [z]; exact L4 hbm (aI4 pP)
   .rw [z]; exact L4 zZ (aI4 F2)
   .rw [z]; exact nH hev vX
  .exact Ge.fr j hj x hx
 .rw [Zc n]
  exact s6 _ _ (Hu x o e n)
end
def o7 (k:Nat) (b:Int) (st:ao):ao:=st.set k (ym (st.at_ k) b)
def jy (s:Rm) (b:Int):Rm:=⟨s.seq,s.us,s.wd,λx=>if x=b then false else s.fr x⟩
def bD (g:aU) (b:Int) (ws:List Int) (st:ao):ao:=if (g.cf 2).late=true then o7 2 b (bz g 2 b ws st) else bz g g.n b ws (bz g 2 b ws st)
def aK (g:aU) (h:Nat) (o:Int) (st:ao):ao:=if (st.at_ h).fr o=true then bD g o ((st.at_ h).wd o) (cR h o st) else cR h o st
def cu (h:Nat) (o:Int) (x:ao×List Int×Bool):ao×List Int×Bool:=if o∈(x.1.at_ h).seq then (if (x.1.at_ h).fr o=true then (cR h o x.1,(x.1.at_ h).wd o,true) else (cR h o x.1,x.2)) else x
def rR (o:Int) (st:ao):Nat->ao×List Int×Bool
 | 0=>(cR 2 o st,(st.at_ 2).wd o,(st.at_ 2).fr o)
 | i+1=>cu i o (rR o st i)
def ic (o:Int) (st:ao):ao×List Int×Bool:=cu 1 o (cu 0 o (cR 2 o st,(st.at_ 2).wd o,(st.at_ 2).fr o))
def ku (g:aU) (o:Int) (st:ao):ao:=if (ic o st).2.2=true then bz g g.n o (ic o st).2.1 (ic o st).1 else (ic o st).1
noncomputable def roomF (g:aU) (b:Int) (st:ao):ao:=match bX (g.cf 2) (st.at_ 2) b with
 | none=>st
 | some o=>ku g o st
noncomputable def fz (g:aU) (b:Int) (st:ao):ao:=if b∈(st.at_ 2).seq then (st.tell (eF 2)).set 2 (gQ (g.cf 2) (st.at_ 2) b) else bY 2 b (aS g.size (roomF g b (st.tell (eF g.n))).mem b) (roomF g b (st.tell (eF g.n)))
def cV (g:aU) (h:Nat) (b:Int) (st:ao):ao:=if (st.at_ h).fr b=true then (λs:ao=>s.set h (jy (s.at_ h) b)) (bD g b ((st.at_ h).wd b) st) else st
noncomputable def aL (g:aU) (h:Nat) (b:Int) (st:ao):ao:=match bX (g.cf h) (st.at_ h) b with
 | none=>st
 | some o=>aK g h o st
noncomputable def ir (g:aU) (h:Nat) (b:Int) (st:ao):ao:=bY h b (((aL g h b st).at_ 2).wd b) (aL g h b st)
noncomputable def bQ (g:aU) (h:Nat) (b:Int) (st:ao):ao:=if b∈(st.at_ h).seq then (st.tell (eF h)).set h (gQ (g.cf h) (st.at_ h) b) else ir g h b (cV g (1 - h) b (fz g b st))
def bP (h:Nat) (b:Int) (st:ao):ao:=if b∈(st.at_ (1 - h)).seq then cR (1 - h) b st else st
def markB (g:aU) (h:Nat) (b:Int) (st:ao):ao:=if (g.cf h).late=true then o7 h b st else bD g b ((st.at_ h).wd b) st
noncomputable def jS (g:aU) (h:Nat) (sp x:Int) (st:ao):ao:=(λs:ao=>markB g h (sp / g.size) (s.set h (kG g (s.at_ h) sp x))) (bP h (sp / g.size) (bQ g h (sp / g.size) st))
theorem oB {st:ao} {k j:Nat} {s:Rm}:(st.set k s).at_ j=if j=k/\k<st.rm.length then s else st.at_ j:=by
 by_cases h:k<st.rm.length
 .rw [ao.bL h]
  by_cases z:j=k
  .rw [bb9 z,bb9 ⟨z,h⟩]
  .rw [aYW z,aYW (λq=>z q.1)]
 .rw [aYW (λq=>h q.2)]
  unfold ao.at_ ao.set
  rw [List.set_eq_of_length_le (by lia)]
theorem xj {st:ao} {e:List V} {j:Nat}:(st.tell e).at_ j=st.at_ j:=rfl
theorem HN {st:ao} {k j:Nat} {s:Rm} (h:s.seq=(st.at_ k).seq):((st.set k s).at_ j).seq=(st.at_ j).seq:=by
 rw [oB]
 split
 .rename_i q; rw [h,q.1]
 .rfl
theorem eE {st:ao} {k:Nat} {s:Rm}:(st.set k s).rm.length=st.rm.length:=aZE ..
theorem vm {c:Cf} {s:Rm} {b g:Int} (h:bX c s b=some g):g∈s.seq/\g % c.sh=b % c.sh/\cC c.ru s.us c.pl (Zn c.sh (b % c.sh) s.seq) (some g):=by
 unfold bX at h
 split at h
 .rename_i e
  have q:=Classical.choose_spec e
  rw [h] at q
  by_cases l:((Zn c.sh (b % c.sh) s.seq).length:Int)<c.pl
  .exact absurd (q.1 l) (by simp)
  .obtain ⟨g',r,e',p,_⟩:=q.2 l
   cases e'
   have m:=bf.mp (p.mem_iff.mp aq5)
   exact ⟨m.1,m.2,q⟩
 .cases h
theorem OL {c:Cf} {s:Rm} {b:Int} (h:cC c.ru s.us c.pl (Zn c.sh (b % c.sh) s.seq) none):((Zn c.sh (b % c.sh) s.seq).length:Int)<c.pl:=by
 by_cases l:((Zn c.sh (b % c.sh) s.seq).length:Int)<c.pl
 .exact l
 .obtain ⟨_,_,z,_⟩:=h.2 l
  cases z
theorem PM {c:Cf} {seq:List Int} {b g:Int} (hf:∀ t,((Zn c.sh t seq).length:Int)<=c.pl) (h:g∈seq) (e:g % c.sh=b % c.sh):((Zn c.sh (b % c.sh) (seq.erase g)).length:Int)<c.pl:=by
 have m:g∈Zn c.sh (b % c.sh) seq:=bf.mpr ⟨h,e⟩
 rw [BW,List.length_erase_of_mem m]
 have:=List.length_pos_of_mem m
 have:=hf (b % c.sh)
 lia
structure aM (g:aU) (st:ao):Prop where
 n3:g.n=3
 len:st.rm.length=3
 nd:∀ k,(st.at_ k).seq.Nodup
 inc:∀ h x,h<2->x∈(st.at_ h).seq->x∈(st.at_ 2).seq
 ff:∀ k x,(st.at_ k).fr x=true->x∈(st.at_ k).seq
structure Sq (a b:ao):Prop where
 len:b.rm.length=a.rm.length
 sq:∀ j,(b.at_ j).seq=(a.at_ j).seq
 ff:∀ j x,(b.at_ j).fr x=true->(a.at_ j).fr x=true\/x∈(a.at_ j).seq
theorem Sq.refl {a:ao}:Sq a a:=⟨rfl,λ_=>rfl,λ_ _ h=>.inl h⟩
theorem Sq.trans {a b c:ao} (x:Sq a b) (y:Sq b c):Sq a c:=⟨y.len.trans x.len,λj=>(y.sq j).trans (x.sq j),λj z h=>(y.ff j z h).elim (x.ff j z) λq=>.inr (by rw [← x.sq]; exact q)⟩
theorem aM.sq {g:aU} {a b:ao} (o:aM g a) (x:Sq a b):aM g b:=⟨o.n3,x.len.trans o.len,λk=>by rw [x.sq]; exact o.nd k,λh y hh hy=>by rw [x.sq] at hy ⊢; exact o.inc h y hh hy,λk y hy=>by rw [x.sq]; exact (x.ff k y hy).elim (o.ff k y) id⟩
section
variable {g:aU} {st:ao} {k h j:Nat} {b o x:Int} {ws:List Int}
theorem yq {s:Rm} (e:s.seq=(st.at_ k).seq) (f:∀ x,s.fr x=true->(st.at_ k).fr x=true\/x∈(st.at_ k).seq):Sq st (st.set k s):=by
 refine ⟨eE,λj=>HN e,λj y hy=>?_⟩
 rw [oB] at hy
 split at hy
 .rename_i q; rw [q.1]; exact f y hy
 .exact .inl hy
theorem DY {e:List V}:Sq st (st.tell e):=⟨rfl,λ_=>rfl,λ_ _ h=>.inl h⟩
theorem cH:Sq st (bz g k b ws st):=by
 unfold bz
 split
 .exact ⟨rfl,λ_=>rfl,λ_ _ h=>.inl h⟩
 .exact (yq (s:=jE (st.at_ k) b ws) rfl λ_ h=>.inl h).trans DY
theorem PL (hb:b∈(st.at_ k).seq):Sq st (o7 k b st):=yq (s:=ym (st.at_ k) b) rfl λx hx=>by
 have hx:(if x=b then true else (st.at_ k).fr x)=true:=hx
 by_cases c:x=b
 .rw [c]; exact .inr hb
 .rw [aYW c] at hx; exact .inl hx
theorem OJ (n:j≠k):(bz g k b ws st).at_ j=st.at_ j:=by
 unfold bz
 split
 .rfl
 .rw [xj,oB,aYW λz=>n z.1]
theorem uE (e:k=g.n):(bz g k b ws st).at_ j=st.at_ j:=by
 unfold bz
 rw [bb9 e]
 rfl
theorem YC (n:j≠k):(o7 k b st).at_ j=st.at_ j:=by
 unfold o7
 rw [oB,aYW λz=>n z.1]
theorem Pc (n:j≠2):(bD g b ws st).at_ j=st.at_ j:=by
 unfold bD
 split
 .rw [YC n,OJ n]
 .rw [uE rfl,OJ n]
theorem IT (hb:b∈(st.at_ 2).seq):Sq st (bD g b ws st):=by
 unfold bD
 split
 .exact cH.trans (PL (by rw [cH.sq]; exact hb))
 .exact cH.trans cH
theorem IS (hb:b∈(st.at_ 2).seq):Sq st (cV g h b st):=by
 unfold cV
 split
 .refine (IT (ws:=(st.at_ h).wd b) hb).trans (yq (s:=jy _ b) rfl λx hx=>?_)
  have hx:(if x=b then false else _)=true:=hx
  by_cases c:x=b
  .rw [bb9 c] at hx; cases hx
  .rw [aYW c] at hx; exact .inl hx
 .exact Sq.refl
theorem iu (hk:k<st.rm.length):(cR k b st).at_ j=if j=k then jV (st.at_ k) b else st.at_ j:=by
 unfold cR
 rw [ao.bL (by exact hk)]
 rfl
theorem gH:(cR k b st).rm.length=st.rm.length:=eE
theorem bH (hk:k<st.rm.length):((cR k b st).at_ j).seq=if j=k then (st.at_ j).seq.erase b else (st.at_ j).seq:=by
 rw [iu hk]
 by_cases z:j=k
 .rw [bb9 z,bb9 z,z]; rfl
 .rw [aYW z,aYW z]
theorem oh (hk:k<st.rm.length) {y:Int} (hy:((cR k b st).at_ j).fr y=true):(st.at_ j).fr y=true/\(j=k->y≠b):=by
 rw [iu hk] at hy
 by_cases z:j=k
 .rw [bb9 z] at hy
  have hy:(if y=b then false else (st.at_ k).fr y)=true:=hy
  by_cases c:y=b
  .rw [bb9 c] at hy; cases hy
  .rw [aYW c] at hy; rw [z]; exact ⟨hy,λ_=>c⟩
 .rw [aYW z] at hy; exact ⟨hy,λe=>absurd e z⟩
theorem pA (hk:k<st.rm.length):((bY k b ws st).at_ j).seq=if j=k then (st.at_ j).seq++[b] else (st.at_ j).seq:=by
 unfold bY
 rw [xj,ao.bL hk]
 by_cases z:j=k
 .rw [bb9 z,bb9 z,z]; rfl
 .rw [aYW z,aYW z]
theorem IQ {y:Int}:((bY k b ws st).at_ j).fr y=(st.at_ j).fr y:=by
 unfold bY
 rw [xj,oB]
 split
 .rename_i q; rw [q.1]; rfl
 .rfl
theorem lQ:(bY k b ws st).rm.length=st.rm.length:=eE
theorem aM.go (w:aM g st) (hh:h<2):aM g (cR h o st):=by
 have hl:h<st.rm.length:=by rw [w.len]; lia
 refine ⟨w.n3,gH.trans w.len,λk=>?_,λk y hk hy=>?_,λk y hy=>?_⟩
 .rw [bH hl]
  split
  .exact (w.nd k).erase _
  .exact w.nd k
 .rw [bH hl,aYW (by lia)]
  rw [bH hl] at hy
  split at hy
  .exact w.inc k y hk (afd hy)
  .exact w.inc k y hk hy
 .obtain ⟨h1,h2⟩:=oh hl hy
  rw [bH hl]
  split
  .rename_i e; exact (mem_erase_of_ne (h2 e)).mpr (w.ff k y h1)
  .exact w.ff k y h1
theorem JB (w:aM g st) (hh:h<2) (ho:o∈(st.at_ 2).seq):Sq (cR h o st) (aK g h o st):=by
 have hl:h<st.rm.length:=by rw [w.len]; lia
 unfold aK
 split
 .exact IT (by rw [bH hl,aYW (by lia)]; exact ho)
 .exact Sq.refl
theorem OI {p:ao×List Int×Bool} (hl:h<p.1.rm.length):(cu h o p).1.rm.length=p.1.rm.length/\(∀ j,((cu h o p).1.at_ j).seq=if j=h then (p.1.at_ j).seq.erase o else (p.1.at_ j).seq)/\∀ j y,((cu h o p).1.at_ j).fr y=true->(p.1.at_ j).fr y=true/\(j=h->o∈(p.1.at_ h).seq->y≠o):=by
 unfold cu
 split
 .have e:(if (p.1.at_ h).fr o=true then (cR h o p.1,(p.1.at_ h).wd o,true) else (cR h o p.1,p.2)).1=cR h o p.1:=by split <;> rfl
  rw [e]
  exact ⟨gH,λj=>bH hl,λj y hy=>by obtain ⟨q1,q2⟩:=oh hl hy; exact ⟨q1,λe _=>q2 e⟩⟩
 .rename_i n
  refine ⟨rfl,λj=>?_,λj y hy=>⟨hy,λ_ m=>absurd m n⟩⟩
  split
  .rename_i e; rw [e,aiU n]
  .rfl
theorem Dw (l3:st.rm.length=3):(ic o st).1.rm.length=3/\(∀ j,((ic o st).1.at_ j).seq=if j<3 then (st.at_ j).seq.erase o else (st.at_ j).seq)/\∀ j y,((ic o st).1.at_ j).fr y=true->(st.at_ j).fr y=true/\(j<3->o∈(st.at_ j).seq->y≠o):=by
 obtain ⟨a1,a2,a3⟩:=OI (h:=0) (o:=o) (p:=(cR 2 o st,(st.at_ 2).wd o,(st.at_ 2).fr o)) (by show 0<(cR 2 o st).rm.length; rw [gH]; lia)
 obtain ⟨b1,b2,b3⟩:=OI (h:=1) (o:=o) (p:=cu 0 o (cR 2 o st,(st.at_ 2).wd o,(st.at_ 2).fr o)) (by rw [a1]; show 1<(cR 2 o st).rm.length; rw [gH]; lia)
 have g2:=λj=>bH (k:=2) (b:=o) (st:=st) (j:=j) (by lia)
 have c2:∀ j,((ic o st).1.at_ j).seq=if j<3 then (st.at_ j).seq.erase o else (st.at_ j).seq:=λj=>by
  unfold ic
  rw [b2,a2]
  dsimp only
  rw [g2]
  by_cases e0:j=0
  .rw [aYW (by lia),bb9 e0,aYW (by lia),bb9 (by lia)]
  .by_cases e1:j=1
   .rw [bb9 e1,aYW e0,aYW (by lia),bb9 (by lia)]
   .by_cases e2:j=2
    .rw [aYW e1,aYW e0,bb9 e2,bb9 (by lia)]
    .rw [aYW e1,aYW e0,aYW e2,aYW (by lia)]
 refine ⟨b1.trans (a1.trans (gH.trans l3)),c2,λj y hy=>?_⟩
 obtain ⟨q1,q2⟩:=b3 j y hy
 obtain ⟨q3,q4⟩:=a3 j y q1
 obtain ⟨q5,q6⟩:=oh (by lia) q3
 refine ⟨q5,λhj m=>?_⟩
 by_cases e2:j=2
 .exact q6 e2
 .have m2:o∈((cR 2 o st).at_ j).seq:=by rw [g2,aYW e2]; exact m
  by_cases e0:j=0
  .exact q4 e0 (by subst e0; exact m2)
  .have e1:j=1:=by lia
   refine q2 e1 ?_
   subst e1
   rw [a2,aYW (by lia)]
   exact m2
theorem gb:Sq (ic o st).1 (ku g o st):=by
 unfold ku
 split
 .exact cH
 .exact Sq.refl
theorem aM.ic (w:aM g st):aM g (ic o st).1:=by
 obtain ⟨h1,h2,h3⟩:=Dw (o:=o) w.len
 refine ⟨w.n3,h1,λk=>?_,λh y hh hy=>?_,λk y hy=>?_⟩
 .rw [h2]
  split
  .exact (w.nd k).erase _
  .exact w.nd k
 .rw [h2,bb9 (by lia)] at hy ⊢
  obtain ⟨n,m⟩:=(w.nd h).mem_erase_iff.mp hy
  exact (w.nd 2).mem_erase_iff.mpr ⟨n,w.inc h y hh m⟩
 .obtain ⟨q1,q2⟩:=h3 k y hy
  have m:=w.ff k y q1
  rw [h2]
  split
  .rename_i c
   refine (w.nd k).mem_erase_iff.mpr ⟨λe=>?_,m⟩
   exact q2 c (by rw [← e]; exact m) e
  .exact m
theorem aM.roomF (w:aM g st):aM g (roomF g b st)/\∀ j,∀ y∈((bI.roomF g b st).at_ j).seq,y∈(st.at_ j).seq:=by
 unfold bI.roomF
 split
 .exact ⟨w,λ_ _ h=>h⟩
 .rename_i o _
  refine ⟨w.ic.sq gb,λj y hy=>?_⟩
  rw [gb.sq,(Dw w.len).2.1] at hy
  split at hy
  .exact afd hy
  .exact hy
theorem aM.A7 (w:aM g st) (hb:b∉(st.at_ 2).seq):aM g (bY 2 b ws st):=by
 have hl:2<st.rm.length:=by rw [w.len]; lia
 refine ⟨w.n3,lQ.trans w.len,λk=>?_,λh y hh hy=>?_,λk y hy=>?_⟩
 .rw [pA hl]
  split
  .rename_i e; rw [e]; exact yy (w.nd 2) hb
  .exact w.nd k
 .rw [pA hl,aYW (by lia)] at hy
  rw [pA hl,bb9 rfl]
  exact ahE _ (w.inc h y hh hy)
 .rw [IQ] at hy
  rw [pA hl]
  split
  .exact ahE _ (w.ff k y hy)
  .exact w.ff k y hy
theorem aM.A6 (w:aM g st) (hh:h<2) (hb:b∉(st.at_ h).seq) (h2:b∈(st.at_ 2).seq):aM g (bY h b ws st):=by
 have hl:h<st.rm.length:=by rw [w.len]; lia
 refine ⟨w.n3,lQ.trans w.len,λk=>?_,λk y hk hy=>?_,λk y hy=>?_⟩
 .rw [pA hl]
  split
  .rename_i e; rw [e]; exact yy (w.nd h) hb
  .exact w.nd k
 .rw [pA hl,aYW (by lia)]
  rw [pA hl] at hy
  split at hy
  .rcases ais.mp hy with hy | hy
   .exact w.inc k y hk hy
   .rw [a60.mp hy]; exact h2
  .exact w.inc k y hk hy
 .rw [IQ] at hy
  rw [pA hl]
  split
  .exact ahE _ (w.ff k y hy)
  .exact w.ff k y hy
theorem aM.use (w:aM g st) (hb:b∈(st.at_ k).seq) {e:List V}:aM g ((st.tell e).set k (gQ (g.cf k) (st.at_ k) b)):=by
 have pm:=xh (c:=g.cf k) hb
 have at':∀ j,((st.tell e).set k (gQ (g.cf k) (st.at_ k) b)).at_ j=if j=k/\k<st.rm.length then gQ (g.cf k) (st.at_ k) b else st.at_ j:=λj=>oB
 have me:∀ j y,y∈(((st.tell e).set k (gQ (g.cf k) (st.at_ k) b)).at_ j).seq↔y∈(st.at_ j).seq:=λj y=>by
  rw [at']
  split
  .rename_i q; rw [q.1]; exact pm.mem_iff
  .rfl
 refine ⟨w.n3,eE.trans w.len,λj=>?_,λj y hj hy=>(me 2 y).mpr (w.inc j y hj ((me j y).mp hy)),λj y hy=>(me j y).mpr ?_⟩
 .rw [at']
  split
  .exact pm.nodup_iff.mpr (w.nd k)
  .exact w.nd j
 .rw [at'] at hy
  split at hy
  .rename_i q; rw [q.1]; exact w.ff k y hy
  .exact w.ff j y hy
theorem aM.fz (w:aM g st):aM g (fz g b st)/\b∈((bI.fz g b st).at_ 2).seq/\∀ j,j<2->∀ y∈((bI.fz g b st).at_ j).seq,y∈(st.at_ j).seq:=by
 unfold bI.fz
 split
 .rename_i hb
  refine ⟨w.use hb,?_,λj hj y hy=>?_⟩
  .rw [oB,bb9 ⟨rfl,by show 2<st.rm.length; rw [w.len]; lia⟩]
   exact (xh hb).mem_iff.mpr hb
  .rw [oB,aYW (by lia)] at hy
   exact hy
 .rename_i hb
  obtain ⟨h1,h2⟩:=(w.sq (DY (e:=eF g.n))).roomF (b:=b)
  have hl:2<(bI.roomF g b (st.tell (eF g.n))).rm.length:=by rw [h1.len]; lia
  refine ⟨h1.A7 λz=>hb (h2 2 b z),?_,λj hj y hy=>?_⟩
  .rw [pA hl,bb9 rfl]
   exact baP _ (a60.mpr rfl)
  .rw [pA hl,aYW (by lia)] at hy
   exact h2 j y hy
theorem aM.aL (w:aM g st) (hh:h<2):aM g (aL g h b st)/\(∀ y∈((bI.aL g h b st).at_ h).seq,y∈(st.at_ h).seq)/\∀ j,j≠h->((bI.aL g h b st).at_ j).seq=(st.at_ j).seq:=by
 have hl:h<st.rm.length:=by rw [w.len]; lia
 unfold bI.aL
 split
 .exact ⟨w,λ_ z=>z,λ_ _=>rfl⟩
 .rename_i o e
  have s:=JB (g:=g) w hh (w.inc h o hh (vm e).1)
  refine ⟨(w.go hh).sq s,λy hy=>?_,λj hj=>?_⟩
  .rw [s.sq,bH hl,bb9 rfl] at hy
   exact afd hy
  .rw [s.sq,bH hl,aYW hj]
theorem aM.ir (w:aM g st) (hh:h<2) (hb:b∉(st.at_ h).seq) (h2:b∈(st.at_ 2).seq):aM g (ir g h b st)/\b∈((bI.ir g h b st).at_ h).seq/\∀ j,j≠h->((bI.ir g h b st).at_ j).seq=(st.at_ j).seq:=by
 obtain ⟨r1,r2,r3⟩:=w.aL (b:=b) hh
 have hl:h<(bI.aL g h b st).rm.length:=by rw [r1.len]; lia
 unfold bI.ir
 refine ⟨r1.A6 hh (λz=>hb (r2 b z)) (by rw [r3 2 (by lia)]; exact h2),?_,λj hj=>?_⟩
 .rw [pA hl,bb9 rfl]
  exact baP _ (a60.mpr rfl)
 .rw [pA hl,aYW hj,r3 j hj]
theorem aM.bQ (w:aM g st) (hh:h<2):aM g (bQ g h b st)/\b∈((bI.bQ g h b st).at_ h).seq:=by
 unfold bI.bQ
 split
 .rename_i hb
  refine ⟨w.use hb,?_⟩
  rw [oB,bb9 ⟨rfl,by show h<st.rm.length; rw [w.len]; lia⟩]
  exact (xh hb).mem_iff.mpr hb
 .rename_i hb
  obtain ⟨f1,f2,f3⟩:=w.fz (b:=b)
  have s:=IS (g:=g) (h:=1 - h) f2
  obtain ⟨i1,i2,_⟩:=(f1.sq s).ir hh (λz=>hb (f3 h hh b (by rw [s.sq] at z; exact z))) (by rw [s.sq]; exact f2)
  exact ⟨i1,i2⟩
theorem aM.bP (w:aM g st) (hh:h<2):aM g (bP h b st)/\((bI.bP h b st).at_ h).seq=(st.at_ h).seq:=by
 unfold bI.bP
 split
 .exact ⟨w.go (by lia),by rw [bH (by rw [w.len]; lia),aYW (by lia)]⟩
 .exact ⟨w,rfl⟩
theorem aM.mark (w:aM g st) (hh:h<2) (hb:b∈(st.at_ h).seq):aM g (markB g h b st):=by
 unfold markB
 split
 .exact w.sq (PL hb)
 .exact w.sq (IT (w.inc h b hh hb))
theorem aM.gM (w:aM g st):aM g (gM st):=w.sq ⟨rfl,λ_=>rfl,λ_ _ h=>.inl h⟩
end
section
def Ql (K:W.Frag):Sp:=λvs H Q _=>∃ (a:SA) (c:Cf) (s:Rm) (O:Addr->Prop) (b:Int),vs=[.ref a.sp,.int b]/\az K H a c s O/\Q (.bl (s.fr b)) H
theorem ZdQ (F:aY K "is_fresh" "Store.is_fresh" La f fd) (T:Txt K mg):au P w K mg base aW 1 f fd K9 (Ql K):=by
 refine F.ok cY (λvs H Q E h=>?_) (λcdv A outer st H vs Q E hr h=>?_)
 .obtain ⟨a,c,s,O,b,rfl,_⟩:=h
  rfl
 obtain ⟨a,c,s,O,b,rfl,S,k⟩:=h
 have nd:=cY.nd
 have hu:=bJ hr
 refine ⟨_,(Zi (Zt (N7 (ND hu (pv 1) (Zl (K:=K) rfl (pv 0) rfl))))),?_⟩
 obtain ⟨dx,h1⟩:=S.aT.ob
 obtain ⟨kf,h4,h5,h6⟩:=S.fresh
 refine ⟨_,rfl,_,rfl,a.sp,_,dx,_,_,rfl,h1,T.eG,T.xY,BD ..,a.df,_,rfl,eu.k (k:=Sum.inl b) h4,?_⟩
 rw [h6 b]
 cases c:s.fr b with
 | true=>rw [c] at k; rw [bb9 rfl]; exact k
 | false=>rw [c] at k; rw [aYW aXI]; exact k
def Pb (K:W.Frag):Sp:=λvs H Q _=>∃ (a:SA) (c:Cf) (s:Rm) (O:Addr->Prop) (b:Int),vs=[.ref a.sp,.int b]/\az K H a c s O/\s.fr b=true/\∀ H',az K H' a c (jy s b) O->bM O H H' O->Q .aR H'
theorem ZeQ (F:aY K "settle" "Store.settle" KU f fd) (T:Txt K mg):au P w K mg base aW 1 f fd KS (Pb K):=by
 refine F.ok eU (λvs H Q E h=>?_) (λcdv A outer st H vs Q E hr h=>?_)
 .obtain ⟨a,c,s,O,b,rfl,_⟩:=h
  rfl
 obtain ⟨a,c,s,O,b,rfl,S,hb,k⟩:=h
 have nd:=eU.nd
 have hu:=bJ hr
 refine ⟨_,(Zi (Zp (Jg (Zl (K:=K) rfl (pv 0) rfl) (pv 1) ⟨rfl,rfl,rfl,rfl⟩))),?_⟩
 obtain ⟨dx,h1⟩:=S.aT.ob
 obtain ⟨kvs,wl,h3⟩:=S.held
 obtain ⟨kf,h4,h5,h6⟩:=S.fresh
 refine ⟨_,rfl,a.sp,_,dx,_,_,rfl,h1,T.eG,T.xY,BD ..,a.df,rfl,.inl ⟨_,.inl h4⟩,_,rfl,kf,Sum.inl b,_,h4,rfl,(by rw [h6 b,bb9 hb]),?_⟩
 have S2:=S.aT.put (x:=a.df) (.inr rfl) (aV kf (Sum.inl b))
 refine k _ ⟨S2,⟨kvs,wl,by rw [Zc (aI4 S.aT.n2)]; exact h3.dc,h3.ki,h3.v,λx m=>⟨by rw [Zc (λz=>by have q:=(h3.at_ x m).1; rw [z,h4] at q; cases q)]; exact (h3.at_ x m).1,(h3.at_ x m).2⟩,h3.inj⟩,⟨_,Za,h5.drop b,λx=>?_⟩,λx h=>?_⟩ (S.aT.ql (x:=a.df) (.inr rfl) _)
 .rw [BE]
  show _=if (if x=b then false else s.fr x)=true then _ else _
  by_cases z:x=b
  .rw [bb9 (by rw [z]),bb9 z,aYW aXI]
  .rw [aYW (λq=>z (akX q)),h6 x,aYW z]
 .have h:(if x=b then false else s.fr x)=true:=h
  by_cases z:x=b
  .rw [bb9 z] at h; cases h
  .rw [aYW z] at h; exact S.qQ x h
end
def tX (H:Hp) (t:Addr) (c:Cf):Prop:=∃ wr:Str,H t=some (.tup [.int c.sh,.int c.pl,.str c.ru,.str wr])/\c.late=decide (wr = "late")/\Wr wr/\1<=c.sh/\c.sh<=64/\1<=c.pl/\c.pl<=16/\rA c.ru
theorem tX.frame {H H':Hp} {t:Addr} {c:Cf} (r:tX H t c) (f:∀ x ys,H x=some (.tup ys)->H' x=some (.tup ys)):tX H' t c:=by
 obtain ⟨wr,e,r⟩:=r
 exact ⟨wr,f _ _ e,r⟩
section
def NX (K:W.Frag):Sp:=λvs H Q _=>∃ (p dx tn tf:Addr) (size:Int) (cn cf:Cf),vs=[.ref p,.int size,.ref tn,.ref tf]/\H p=some (.ins (aa K "Beside") dx [])/\tX H tn cn/\tX H tf cf/\Tb K H /\
 ∀ (A:TA) (os:OS) (H':Hp),A.p=p->(∀ U,WF ⟨size, "",[cn,cn,cf],U⟩->af K H' A ⟨size, "",[cn,cn,cf],U⟩ (pB 3) os 0)->(∀ x,OW A os x->x≠p->H x=none)->(∀ b o,H b=some o->b≠p->H' b=some o)->Q .aR H'
theorem Zfc (F:aY K "__init__" "Beside.__init__" J4 f fd) (T:Txt K mg) (GB:xE P w K mg base "Steps" "__init__" 5 BX (IU K)):au P w K mg base aW 6 f fd J3 (NX K):=by
 refine F.ok fO (λvs H Q E h=>?_) (λcdv A outer s0 H vs Q E hr h=>?_)
 .obtain ⟨p,dx,tn,tf,size,cn,cf,rfl,_⟩:=h
  rfl
 obtain ⟨p,dx,tn,tf,size,cn,cf,rfl,hp,pn,pf,tb,q⟩:=h
 have nd:=fO.nd
 refine ⟨_,(Zi (Zp (WE GB hr.m rfl (pc (pv 0) (pc (pv 1) (pc (j6 (pc (pv 2) (pc (pv 2) (pc (pv 3) Zb)))) Zb)))))),?_⟩
 refine ⟨_,rfl,_,rfl,_,rfl,_,rfl,_,rfl,(sl 3),λtp htp=>?_⟩
 have s1:=Zf htp (.tup [V.ref tn,V.ref tn,V.ref tf])
 have tO:=Za (H:=H) (a:=tp) (o:=.tup [V.ref tn,V.ref tn,V.ref tf])
 generalize upd H tp (.tup [V.ref tn,V.ref tn,V.ref tf])=H1 at *
 obtain ⟨wn,en,n1,n2,n3,n4,n5,n6,n7⟩:=pn.frame λx ys e=>s1 _ _ e
 obtain ⟨wf,ef,f1,f2,f3,f4,f5,f6,f7⟩:=pf.frame λx ys e=>s1 _ _ e
 have pa:iN K H1 tp [tn,tn,tf] [cn,cn,cf]:=by
  refine ⟨tO,rfl,λi t c h1 h2=>?_,λc hc=>?_⟩
  .match i,h1,h2 with
   | 0,h1,h2=>cases h1; cases h2; exact ⟨wn,en,n1,n2⟩
   | 1,h1,h2=>cases h1; cases h2; exact ⟨wn,en,n1,n2⟩
   | 2,h1,h2=>cases h1; cases h2; exact ⟨wf,ef,f1,f2⟩
   | i+3,h1,_=>cases h1
  .simp only [atw,aha,aqQ] at hc
   rcases hc with rfl | rfl | rfl
   .exact ⟨n3,n4,n5,n6,n7⟩
   .exact ⟨n3,n4,n5,n6,n7⟩
   .exact ⟨f3,f4,f5,f6,f7⟩
 refine ⟨p,dx,tp,size,_,_,rfl,s1 _ _ hp,pa,aEE rfl,tb.same s1,λA os H2 ep h1 RS f1 k1=>?_⟩
 have e:∀ kind,upd H2 p (.ins (aa K "Beside") dx (bw size A.ss A.bm A.as.length A.ev kind))=H2:=λkind=>funext λx=>by
  by_cases z:x=p
  .rw [z,Za,h1]; rfl
  .rw [Zc z]
 exact q A os _ ep (λU wf=>by have R:=RS "" U wf; rw [e] at R; exact R) (λx h n=>s1.free (f1 x h n)) λx o e n=>k1 x o (s1 _ _ e) n
end
section
def DW (K:W.Frag):Sp:=λvs H Q _=>∃ (A:TA) (g:aU) (st:ao) (os:OS) (n:Nat) (b:Int) (lw:Addr) (ws:List Int),vs=[.ref A.p,.int b,.ref lw]/\af K H A g st os n/\g.n=3/\b∈(st.at_ 2).seq/\H lw=some (.lst (ws.map V.int))/\¬ OW A os lw/\ws.length=g.size.toNat/\n<=800000/\Res K H A g os (bD g b ws st) (n+2) (Q .aR)
theorem Zdt (F:aY K "put_down" "Beside.put_down" Lg f fd) (T:Txt K mg) (rP:ay P w K mg base (aa K "Beside") "put" 3 BN (nF K)) (xT:ay P w K mg base (aa K "Store") "freshen" 1 EA (JD K)):au P w K mg base aW 4 f fd ZF (DW K):=by
 refine F.ok cK (λvs H Q E h=>?_) (λcdv A outer s0 H vs Q E hr h=>?_)
 .obtain ⟨A,g,st,os,n,b,lw,ws,rfl,_⟩:=h
  rfl
 obtain ⟨A,g,st,os,n,b,lw,ws,rfl,R,g3,hb,kY,nO,qA,hn,q⟩:=h
 have nd:=cK.nd
 refine ⟨_,(Ze (Zp (Zk rP hr.m T.aO (pv 0) (pc (rq T.oJ rfl) (pc (pv 1) (pc (pv 2) Zb)))))
   (Ze (eB 3 nd (av (Zo (K:=K) rfl) (Zl (K:=K) rfl (pv 0) rfl) (rq T.oJ rfl) (λ_ _=>rfl)))
   (Zi (aJ (ZG (Zl (K:=K) rfl (pv 3) rfl)) (Zi (Zp (Zk xT hr.m T.eG (pv 3) (pc (pv 1) Zb)))) (Zi (Zp (Zk rP hr.m T.aO (pv 0) (pc (Zl (K:=K) rfl (pv 0) rfl) (pc (pv 1) (pc (pv 2) Zb)))))))))),?_⟩
 obtain ⟨dx,h1⟩:=R.ob
 have ln:=R.ln
 have bU:b∈g.U:=((R.kq (k:=2) (by lia)).2.1 b hb).1
 unfold bD at q
 refine ⟨_,rfl,A.p,dx,_,rfl,h1,aA ..,_,rfl,_,rfl,A,g,st,os,n,2,b,lw,ws,rfl,R,by lia,λ_=>hb,bU,kY,nO,qA,by lia,λH1 bG R1 p1=>?_⟩
 have hb1:b∈((bz g 2 b ws st).at_ 2).seq:=by rw [cH.sq]; exact hb
 obtain ⟨GY,Ua⟩:=p1.out kY nO
 obtain ⟨cS,g1⟩:=R1.ob
 obtain ⟨a,e1,e2,e3,B⟩:=R1.at_ (k:=2) (by lia)
 obtain ⟨u1,u2,u3,u4,u5,u6⟩:=R1.kq (k:=2) (by lia)
 obtain ⟨ds,h3⟩:=B.aT.ob
 refine ⟨_,rfl,A.p,_,cS,_,_,rfl,g1,T.aO,T.lA,Zx ..,A.ss,_,_,_,rfl,rfl,aG.of R1.ss,af.ix e1,gN ?_⟩
 try dsimp only
 refine ⟨_,rfl,a.sp,_,ds,_,_,rfl,h3,T.eG,T.E1,Oc ..,_,rfl,?_⟩
 by_cases c:(g.cf 2).late=true
 .rw [bb9 c] at q
  refine fq c ⟨_,rfl,a.sp,ds,_,rfl,h3,bT ..,_,rfl,a,_,_,_,b,rfl,B,hb1,u1,λG3 B3 p3=>?_⟩
  obtain ⟨R3,p4⟩:=R1.iy e1 e2 B3 p3 u2 u3
  exact q _ _ (R3.le (by lia)) (p1.trans p4)
 .rw [aYW c] at q
  exact cT (by simpa using c) ⟨_,rfl,A.p,cS,_,rfl,g1,aA ..,_,rfl,A.p,_,cS,_,_,rfl,g1,T.aO,T.sM,vf ..,_,rfl,_,rfl,A,g,_,bG,_,g.n,b,lw,ws,by rw [ln]; rfl,R1,aDN _,λh=>absurd h (aXl _),bU,GY,Ua,qA,by lia,λG2 iJ R2 p2=>q _ _ (R2.le (by lia)) (p1.trans p2)⟩
def Jk (K:W.Frag):Sp:=λvs H Q _=>∃ (A:TA) (g:aU) (st:ao) (os:OS) (n h:Nat) (o:Int),vs=[.ref A.p,.int (h:Int),.int o]/\af K H A g st os n/\g.n=3/\h<2/\o∈(st.at_ h).seq/\o∈(st.at_ 2).seq/\n<=700000/\Res K H A g os (aK g h o st) (n+3) (Q .aR)
theorem ZcF (F:aY K "leave_near" "Beside.leave_near" K2 f fd) (T:Txt K mg) (oQ:ay P w K mg base (aa K "Beside") "go_out" 5 ZN (Bu K)) (sO:ay P w K mg base (aa K "Beside") "put_down" 4 ZF (DW K)):au P w K mg base aW 6 f fd ZL (Jk K):=by
 refine F.ok bV (λvs H Q E h=>?_) (λcdv A outer s0 H vs Q E hr h=>?_)
 .obtain ⟨A,g,st,os,n,h,o,rfl,_⟩:=h
  rfl
 obtain ⟨A,g,st,os,n,h,o,rfl,R,g3,hh,ho,h2,hn,q⟩:=h
 have nd:=bV.nd
 refine ⟨_,(Ze (lY (Zk oQ hr.m T.aO (pv 0) (pc (pv 1) (pc (pv 2) Zb))) (mz (K:=K) (n:=2) rfl rfl (Zr (ck 3 nd) (Zr (ck 4 nd) ZY))))
   (Zi (aJ (ZG (pv 4)) (Zi (Zp (Zk sO hr.m T.aO (pv 0) (pc (pv 2) (pc (pv 3) Zb))))) Zu))),?_⟩
 obtain ⟨dx,h1⟩:=R.ob
 have ln:=R.ln
 have lS:=R.lS
 have lw:=((R.kq (k:=h) (by lia)).2.1 o ho).2
 unfold aK at q
 refine ⟨_,rfl,A.p,dx,_,rfl,h1,aA ..,_,rfl,_,rfl,A,g,st,os,n,h,o,rfl,R,by lia,ho,by lia,λH1 bG t l et el nl R1 p1=>⟨t,_,rfl,aZ.of et,rfl,_,_,rfl,gN ⟨_,_,rfl,gN ⟨rfl,?_⟩⟩⟩⟩
 try dsimp only
 obtain ⟨cS,g1⟩:=R1.ob
 cases fr:(st.at_ h).fr o with
 | true =>
  rw [bb9 fr] at q
  exact ⟨_,rfl,_,rfl,fq rfl ⟨_,rfl,A.p,cS,_,rfl,g1,aA ..,_,rfl,_,rfl,A,g,_,bG,_,o,l,_,rfl,R1,g3,by rw [bH (by lia),aYW (by lia)]; exact h2,el,nl,lw,by lia,λH2 iJ R2 p2=>q _ _ (R2.le (by lia)) (p1.trans p2)⟩⟩
 | false =>
  rw [aYW (by rw [fr]; exact aXI)] at q
  exact ⟨_,rfl,_,rfl,cT rfl (q _ _ (R1.le (by lia)) p1)⟩
def Qk (K:W.Frag):Sp:=λvs H Q _=>∃ (A:TA) (g:aU) (st:ao) (os:OS) (n h:Nat) (b:Int),vs=[.ref A.p,.int (h:Int),.int b]/\af K H A g st os n/\g.n=3/\h<2/\b∈(st.at_ 2).seq/\n<=700000/\Res K H A g os (cV g h b st) (n+2) (Q .aR)
theorem Zcy (F:aY K "settle_near" "Beside.settle_near" K5 f fd) (T:Txt K mg) (EO:ay P w K mg base (aa K "Store") "is_fresh" 1 K9 (Ql K)) (pO:ay P w K mg base (aa K "Store") "words_of" 3 ZA (BL K)) (sO:ay P w K mg base (aa K "Beside") "put_down" 4 ZF (DW K)) (EJ:ay P w K mg base (aa K "Store") "settle" 1 KS (Pb K)):au P w K mg base aW 5 f fd K4 (Qk K):=by
 refine F.ok bR (λvs H Q E h=>?_) (λcdv A outer s0 H vs Q E hr h=>?_)
 .obtain ⟨A,g,st,os,n,h,b,rfl,_⟩:=h
  rfl
 obtain ⟨A,g,st,os,n,h,b,rfl,R,g3,hh,h2,hn,q⟩:=h
 have nd:=bR.nd
 refine ⟨_,(Ze (eB 3 nd (av (Zo (K:=K) rfl) (Zl (K:=K) rfl (pv 0) rfl) (pv 1) (λ_ _=>rfl)))
   (Zi (aJ (ZG (Zk EO hr.m T.eG (pv 3) (pc (pv 2) Zb))) (Ze (Zp (Zk sO hr.m T.aO (pv 0) (pc (pv 2) (pc (Zk pO hr.m T.eG (pv 3) (pc (pv 2) Zb)) Zb))))
   (Zi (Zp (Zk EJ hr.m T.eG (pv 3) (pc (pv 2) Zb))))) Zu))),?_⟩
 obtain ⟨dx,h1⟩:=R.ob
 have ln:=R.ln
 obtain ⟨a,e1,e2,e3,B⟩:=R.at_ (k:=h) (by lia)
 obtain ⟨u1,u2,u3,u4,u5,u6⟩:=R.kq (k:=h) (by lia)
 obtain ⟨ds,h3⟩:=B.aT.ob
 unfold cV at q
 refine ⟨_,rfl,A.p,_,dx,_,_,rfl,h1,T.aO,T.lA,Zx ..,_,rfl,A.ss,_,_,_,rfl,rfl,aG.of R.ss,af.ix e1,gN ?_⟩
 try dsimp only
 refine ⟨_,rfl,a.sp,ds,_,rfl,h3,bT ..,_,rfl,a,_,_,_,b,rfl,B,_,rfl,?_⟩
 cases fr:(st.at_ h).fr b with
 | true =>
  rw [bb9 fr] at q
  have hb:b∈(st.at_ h).seq:=B.qQ b fr
  refine fq rfl ⟨_,rfl,A.p,dx,_,rfl,h1,aA ..,_,rfl,_,rfl,a.sp,ds,_,rfl,h3,bT ..,_,rfl,a,_,_,_,b,rfl,B,hb,λl hl=>?_⟩
  have sm:=Zf hl (.lst (((st.at_ h).wd b).map V.int))
  refine ⟨A,g,st,os,n,b,l,_,rfl,R.same sm,g3,h2,Za,R.fresh hl,(u2 b hb).2,by lia,λH2 iJ R2 p2=>?_⟩
  obtain ⟨a2,f1,f2,f3,B2⟩:=R2.at_ (k:=h) (by lia)
  rw [e1] at f1
  cases f1
  obtain ⟨v1,v2,v3,v4,v5,v6⟩:=R2.kq (k:=h) (by lia)
  obtain ⟨d2,h4⟩:=B2.aT.ob
  refine ⟨_,rfl,a.sp,d2,_,rfl,h4,bT ..,_,rfl,a,_,_,_,b,rfl,B2,by rw [Pc (by lia)]; exact fr,λG3 B3 p3=>?_⟩
  obtain ⟨R3,p4⟩:=R2.iy e1 f2 B3 p3 v2 v3
  exact q _ _ (R3.le (by lia)) (((bM.same sm).trans p2).trans p4)
 | false =>
  rw [aYW (by rw [fr]; exact aXI)] at q
  exact cT rfl (q _ _ (R.le (by lia)) (bM.same (aB.refl _)))
end
section
variable {g:aU} {st:ao} {h:Nat} {b o:Int}
theorem ZjM (w:aM g st) (full:∀ t,((Zn (g.cf 2).sh t (st.at_ 2).seq).length:Int)<=(g.cf 2).pl) (gp:cC (g.cf 2).ru (st.at_ 2).us (g.cf 2).pl (Zn (g.cf 2).sh (b % (g.cf 2).sh) (st.at_ 2).seq) (bX (g.cf 2) (st.at_ 2) b)):((Zn (g.cf 2).sh (b % (g.cf 2).sh) ((roomF g b st).at_ 2).seq).length:Int)<(g.cf 2).pl:=by
 unfold roomF
 split
 .rename_i e
  rw [e] at gp
  exact OL gp
 .rename_i o e
  obtain ⟨m1,m2,_⟩:=vm e
  rw [gb.sq,(Dw w.len).2.1,bb9 (by lia)]
  exact PM full m1 m2
theorem ZjN (w:aM g st) (hh:h<2) (full:∀ t,((Zn (g.cf h).sh t (st.at_ h).seq).length:Int)<=(g.cf h).pl) (gp:cC (g.cf h).ru (st.at_ h).us (g.cf h).pl (Zn (g.cf h).sh (b % (g.cf h).sh) (st.at_ h).seq) (bX (g.cf h) (st.at_ h) b)):((Zn (g.cf h).sh (b % (g.cf h).sh) ((aL g h b st).at_ h).seq).length:Int)<(g.cf h).pl:=by
 unfold aL
 split
 .rename_i e
  rw [e] at gp
  exact OL gp
 .rename_i o e
  obtain ⟨m1,m2,_⟩:=vm e
  rw [(JB (g:=g) w hh (w.inc h o hh m1)).sq,bH (by rw [w.len]; lia),bb9 rfl]
  exact PM full m1 m2
end
section
def Pa (K:W.Frag):Sp:=λvs H Q _=>∃ (A:TA) (g:aU) (st:ao) (os:OS) (n:Nat) (o:Int),vs=[.ref A.p,.int o]/\af K H A g st os n/\g.n=3/\o∈(st.at_ 2).seq/\n<=700000/\Res K H A g os (ku g o st) (n+4) (Q .aR)
theorem Zda (F:aY K "leave_all" "Beside.leave_all" KY f fd) (T:Txt K mg) (oQ:ay P w K mg base (aa K "Beside") "go_out" 5 ZN (Bu K)) (pK:ay P w K mg base (aa K "Store") "has" 2 yL (Bp K)) (rP:ay P w K mg base (aa K "Beside") "put" 3 BN (nF K)):au P w K mg base aW 6 f fd KW (Pa K):=by
 refine F.ok cA (λvs H Q E h=>?_) (λcdv A outer s0 H vs Q E hr h=>?_)
 .obtain ⟨A,g,st,os,n,o,rfl,_⟩:=h
  rfl
 obtain ⟨A,g,st,os,n,o,rfl,R,g3,ho,hn,q⟩:=h
 have nd:=cA.nd
 refine ⟨_,(Ze (lY (Zk oQ hr.m T.aO (pv 0) (pc (rq T.oJ rfl) (pc (pv 1) Zb))) (mz (K:=K) (n:=2) rfl rfl (Zr (ck 2 nd) (Zr (ck 3 nd) ZY))))
   (Ze (rZ aaO rfl (DR (K:=K) rfl (P5 (K:=K) rfl T.Df rfl)) (ck 4 nd) (Zi (aJ (ZG (Zk pK hr.m T.eG (av (Zo (K:=K) rfl) (Zl (K:=K) rfl (pv 0) rfl) (pv 4) (λ_ _=>rfl)) (pc (pv 1) Zb))) (Ze (lY (Zk oQ hr.m T.aO (pv 0) (pc (pv 4) (pc (pv 1) Zb))) (mz (K:=K) (n:=2) rfl rfl (Zr (ck 5 nd) (Zr (ck 6 nd) ZY))))
   (Zi (aJ (ZG (pv 6)) (Zi (Iz (i:=2) (j:=3) rfl nd rfl rfl (by decide) rfl rfl (pc (pv 5) (pc i7 Zb)) rfl)) Zu))) Zu)))
   (Zi (aJ (ZG (pv 3)) (Zi (Zp (Zk rP hr.m T.aO (pv 0) (pc (Zl (K:=K) rfl (pv 0) rfl) (pc (pv 1) (pc (pv 2) Zb)))))) Zu)))),?_⟩
 obtain ⟨dx,h1⟩:=R.ob
 have ln:=R.ln
 have lS:=R.lS
 obtain ⟨oU,lw⟩:=(R.kq (k:=2) (by lia)).2.1 o ho
 refine ⟨_,rfl,A.p,dx,_,rfl,h1,aA ..,_,rfl,A,g,st,os,n,2,o,rfl,R,by lia,ho,by lia,λH1 bG t l et el nl R1 p1=>⟨t,_,rfl,aZ.of et,rfl,_,_,rfl,gN ⟨_,_,rfl,gN ⟨rfl,?_⟩⟩⟩⟩
 try dsimp only
 refine λhd tQ=>⟨hd,rfl,⟨_,tQ _⟩,Pd (K:=K) (a:=hd) (xs:=([0,1]:List Int).map V.int) (λi σ G=>∃ (v4 v5 v6:Option V) (l':Addr) (os':OS),σ=[some (.ref A.p),some (.int o),some (.ref l'),some (.bl (rR o st i).2.2),v4,v5,v6]/\af K G A g (rR o st i).1 os' (n+1+i)/\bM (OW A os) H G (OW A os')/\G l'=some (.lst ((rR o st i).2.1.map V.int))/\¬ OW A os' l'/\(rR o st i).2.1.length=g.size.toNat)
  ⟨_,_,_,l,bG,rfl,R1,p1,el,nl,lw⟩ (λi σ G _ _=>tQ _) ?_ ?_⟩
 .rintro i x σ G hi ⟨v4,v5,v6,l',os',rfl,R2,p2,AY,CT,pQ⟩
  have hi2:i<2:=(aK1.mp hi).1
  have hx:x=.int (i:Int):=by
   have h:i=0\/i=1:=by lia
   rcases h with rfl | rfl
   .exact (a6S hi).symm
   .exact (a6S hi).symm
  subst hx
  refine gN ?_
  try dsimp only
  obtain ⟨jZ,g2⟩:=R2.ob
  obtain ⟨a,e1,e2,e3,B⟩:=R2.at_ (k:=i) (by lia)
  obtain ⟨ds,h3⟩:=B.aT.ob
  refine ⟨_,rfl,A.p,_,jZ,_,_,rfl,g2,T.aO,T.lA,Zx ..,_,rfl,A.ss,_,_,_,rfl,rfl,aG.of R2.ss,af.ix e1,a.sp,ds,_,rfl,h3,bT ..,_,rfl,a,_,_,_,o,rfl,B,_,rfl,?_⟩
  have es:rR o st (i+1)=cu i o (rR o st i):=rfl
  unfold cu at es
  by_cases m:o∈((rR o st i).1.at_ i).seq
  .rw [bb9 m] at es
   have Gi:=((R2.kq (k:=i) (by lia)).2.1 o m).2
   refine fq (a6t m) ⟨_,rfl,A.p,jZ,_,rfl,g2,aA ..,_,rfl,_,rfl,A,g,_,os',_,i,o,rfl,R2,by lia,m,by lia,λH3 iG t3 l3 Vf Vj T7 R3 p3=>⟨t3,_,rfl,aZ.of Vf,rfl,_,_,rfl,gN ⟨_,_,rfl,gN ⟨rfl,?_⟩⟩⟩⟩
   try dsimp only
   obtain ⟨Vi,T6⟩:=p3.out AY CT
   cases fr:((rR o st i).1.at_ i).fr o with
   | true =>
    rw [bb9 fr] at es
    refine ⟨_,rfl,_,rfl,fq rfl ⟨_,rfl,_,_,rfl,?_⟩⟩
    refine ⟨_,_,_,l3,iG,by rw [es]; rfl,by rw [es]; exact R3.le (by lia),p2.trans p3,by rw [es]; exact Vj,T7,by rw [es]; exact Gi⟩
   | false =>
    rw [aYW (by rw [fr]; exact aXI)] at es
    refine ⟨_,rfl,_,rfl,cT rfl ?_⟩
    refine ⟨_,_,_,l',iG,by rw [es]; rfl,by rw [es]; exact R3.le (by lia),p2.trans p3,by rw [es]; exact Vi,T6,by rw [es]; exact pQ⟩
  .rw [aYW m] at es
   exact cT (a5c m) ⟨_,_,_,l',os',by rw [es]; rfl,by rw [es]; exact R2.le (by lia),p2,by rw [es]; exact AY,CT,by rw [es]; exact pQ⟩
 .rintro σ G ⟨v4,v5,v6,l',os',rfl,R2,p2,AY,CT,pQ⟩
  have e2:rR o st (([0,1]:List Int).map V.int).length=ic o st:=rfl
  rw [e2] at R2 AY pQ ⊢
  obtain ⟨jZ,g2⟩:=R2.ob
  unfold ku at q
  cases fr:(ic o st).2.2 with
  | true =>
   rw [bb9 fr] at q
   exact ⟨_,rfl,_,rfl,fq rfl ⟨_,rfl,A.p,jZ,_,rfl,g2,aA ..,_,rfl,A.p,_,jZ,_,_,rfl,g2,T.aO,T.sM,vf ..,_,rfl,_,rfl,A,g,_,os',_,g.n,o,l',_,by rw [ln]; rfl,R2,aDN _,λh=>absurd h (aXl _),oU,AY,CT,pQ,by show n+1+2<=900000; lia,λH4 mL R4 p4=>q _ _ (R4.le (by show n+1+2+1<=n+4; lia)) (p2.trans p4)⟩⟩
  | false =>
   rw [aYW (by rw [fr]; exact aXI)] at q
   exact ⟨_,rfl,_,rfl,cT rfl (q _ _ (R2.le (by show n+1+2<=n+4; lia)) p2)⟩
def NW (K:W.Frag):Sp:=λvs H Q _=>∃ (A:TA) (g:aU) (st:ao) (os:OS) (n:Nat) (b:Int),vs=[.ref A.p,.int b]/\af K H A g st os n/\aM g st/\b∈g.U/\n<=600000/\Res K H A g os (fz g b st) (n+6) (Q .aR)
theorem Zdb (F:aY K "fetch_far" "Beside.fetch_far" K0 f fd) (T:Txt K mg) (pK:ay P w K mg base (aa K "Store") "has" 2 yL (Bp K)) (vJ:ay P w K mg base (aa K "Beside") "tell_found" 1 ZQ (HP K)) (x9:ay P w K mg base (aa K "Beside") "use_in" 4 EB (IV K)) (xZ:ay P w K mg base (aa K "Beside") "leaver" 4 EC (HQ K)) (EV:ay P w K mg base (aa K "Beside") "leave_all" 6 KW (Pa K)) (xS:ay P w K mg base (aa K "Beside") "come_in" 6 Ez (Jl K)) (xX:ay P w K mg base (aa K "Beside") "words" 4 Et (Jo K)):au P w K mg base aW 7 f fd KZ (NW K):=by
 refine F.ok cB (λvs H Q E h=>?_) (λcdv A outer s0 H vs Q E hr h=>?_)
 .obtain ⟨A,g,st,os,n,b,rfl,_⟩:=h
  rfl
 obtain ⟨A,g,st,os,n,b,rfl,R,ok,bU,hn,q⟩:=h
 have nd:=cB.nd
 refine ⟨_,(Ze (aJ (ZG (Zk pK hr.m T.eG (av (Zo (K:=K) rfl) (Zl (K:=K) rfl (pv 0) rfl) (rq T.oJ rfl) (λ_ _=>rfl)) (pc (pv 1) Zb))) (Ze (Zp (Zk vJ hr.m T.aO (pv 0) (pc (rq T.oJ rfl) Zb)))
   (Ze (Zp (Zk x9 hr.m T.aO (pv 0) (pc (rq T.oJ rfl) (pc (pv 1) Zb))))
   (Zi Pe))) Zu)
   (Ze (Zp (Zk vJ hr.m T.aO (pv 0) (pc (Zl (K:=K) rfl (pv 0) rfl) Zb)))
   (Ze (eB 2 nd (Zk xZ hr.m T.aO (pv 0) (pc (rq T.oJ rfl) (pc (pv 1) Zb))))
   (Ze (aJ (DE (II (pv 2))) (Zi (Zp (Zk EV hr.m T.aO (pv 0) (pc (pv 2) Zb)))) Zu)
   (Zi (Zp (Zk xS hr.m T.aO (pv 0) (pc (rq T.oJ rfl) (pc (pv 1) (pc (Zk xX hr.m T.aO (pv 0) (pc (Zl (K:=K) rfl (pv 0) rfl) (pc (pv 1) Zb))) Zb)))))))))),?_⟩
 obtain ⟨dx,h1⟩:=R.ob
 have ln:=R.ln
 have lS:=R.lS
 have g3:=ok.n3
 obtain ⟨b0,b1⟩:=R.wf.ub b bU
 obtain ⟨a,e1,e2,e3,B⟩:=R.at_ (k:=2) (by lia)
 obtain ⟨u1,u2,u3,u4,u5,u6⟩:=R.kq (k:=2) (by lia)
 obtain ⟨ds,h3⟩:=B.aT.ob
 unfold fz at q
 refine hide λw1 x1=>?_
 refine ⟨_,rfl,A.p,_,dx,_,_,rfl,h1,T.aO,T.lA,Zx ..,A.ss,_,_,_,rfl,rfl,aG.of R.ss,af.ix e1,a.sp,ds,_,rfl,h3,bT ..,_,rfl,a,_,_,_,b,rfl,B,_,rfl,?_⟩
 by_cases m:b∈(st.at_ 2).seq
 .rw [bb9 m] at q
  refine fq (a6t m) ⟨_,rfl,A.p,dx,_,rfl,h1,aA ..,A,g,st,os,n,2,rfl,R,by lia,by lia,λH1 bG R1 p1=>?_⟩
  obtain ⟨cS,g1⟩:=R1.ob
  exact ⟨_,rfl,A.p,cS,_,rfl,g1,aA ..,_,rfl,A,g,_,bG,_,2,b,rfl,R1,by lia,m,λH2 iJ R2 p2=>q _ _ (R2.le (by lia)) (p1.trans p2)⟩
 .rw [aYW m] at q
  refine cT (a5c m) ?_
  subst x1
  try dsimp only
  dsimp only [gg]
  refine ⟨_,rfl,A.p,dx,_,rfl,h1,aA ..,_,rfl,A.p,_,dx,_,_,rfl,h1,T.aO,T.sM,vf ..,A,g,st,os,n,g.n,by rw [ln]; rfl,R,aDN _,by lia,λH1 bG R1 p1=>?_⟩
  obtain ⟨cS,g1⟩:=R1.ob
  have LR:=ok.sq (DY (e:=eF g.n))
  have AN:∀ t,((Zn (g.cf 2).sh t ((st.tell (eF g.n)).at_ 2).seq).length:Int)<=(g.cf 2).pl:=u3
  have m1:b∉((st.tell (eF g.n)).at_ 2).seq:=m
  generalize st.tell (eF g.n)=st1 at *
  try dsimp only
  refine hide λw1 x1=>?_
  refine ⟨_,rfl,A.p,cS,_,rfl,g1,aA ..,_,rfl,A,g,st1,bG,_,2,b,rfl,R1,by lia,λH2 s2 gp=>gN ?_⟩
  subst x1
  try dsimp only
  have R2:=R1.same s2
  have rf:=ZjM LR AN gp
  obtain ⟨Tn,vG⟩:=LR.roomF (b:=b)
  refine wQ (λσ G=>σ=[some (.ref A.p),some (.int b),some (oS (bX (g.cf 2) (st1.at_ 2) b))]/\∃ iJ,af K G A g (roomF g b st1) iJ (n+1+4)/\bM (OW A bG) H2 G (OW A iJ)) (λD' _ k'=>?_) ?_
  .obtain ⟨jZ,g2⟩:=R2.ob
   cases eg:bX (g.cf 2) (st1.at_ 2) b with
   | none =>
    have el:roomF g b st1=st1:=by unfold roomF; rw [eg]
    rw [eg,el] at k'
    exact ⟨_,rfl,_,rfl,cT rfl (k' _ _ ⟨rfl,bG,R2.le (by lia),bM.same (aB.refl _)⟩)⟩
   | some go =>
    have el:roomF g b st1=ku g go st1:=by unfold roomF; rw [eg]
    rw [eg,el] at k'
    exact ⟨_,rfl,_,rfl,fq rfl ⟨_,rfl,A.p,jZ,_,rfl,g2,aA ..,_,rfl,A,g,st1,bG,_,go,rfl,R2,g3,(vm eg).1,by lia,λH3 iG R3 p3=>k' _ _ ⟨rfl,iG,R3,p3⟩⟩⟩
  rintro _ G ⟨rfl,iG,R3,p3⟩
  obtain ⟨mj,qP⟩:=R3.ob
  refine ⟨_,rfl,A.p,mj,_,rfl,qP,aA ..,_,rfl,_,rfl,A.p,mj,_,rfl,qP,aA ..,_,rfl,A.p,_,mj,_,_,rfl,qP,T.aO,T.sM,vf ..,_,rfl,A,g,_,iG,_,g.n,b,by rw [ln]; rfl,R3,aDN _,λh=>absurd h (aXl _),b0,b1,λlw H4 kY s4 ew=>?_⟩
  have R4:=R3.same s4
  have Hv:DF g (roomF g b st1) g.n b=aS g.size (roomF g b st1).mem b:=bb9 rfl
  rw [Hv] at ew
  exact ⟨A,g,_,iG,_,2,b,lw,_,rfl,R4,by lia,λz=>m1 (vG 2 b z),bU,rf,ew,R3.fresh kY,by unfold aS; rw [aUH,arL],by lia,λH5 LQ R5 p5=>q _ _ (R5.le (by lia)) (((p1.trans (bM.same s2)).trans p3).trans ((bM.same s4).trans p5))⟩
def HX (K:W.Frag):Sp:=λvs H Q _=>∃ (A:TA) (g:aU) (st:ao) (os:OS) (n h:Nat) (b:Int),vs=[.ref A.p,.int (h:Int),.int b]/\af K H A g st os n/\aM g st/\h<2/\b∈g.U/\n<=500000/\Res K H A g os (bQ g h b st) (n+12) (Q .aR)
theorem ZcG (F:aY K "fetch_near" "Beside.fetch_near" K3 f fd) (T:Txt K mg) (pK:ay P w K mg base (aa K "Store") "has" 2 yL (Bp K)) (vJ:ay P w K mg base (aa K "Beside") "tell_found" 1 ZQ (HP K)) (x9:ay P w K mg base (aa K "Beside") "use_in" 4 EB (IV K)) (EU:ay P w K mg base (aa K "Beside") "fetch_far" 7 KZ (NW K)) (EW:ay P w K mg base (aa K "Beside") "settle_near" 5 K4 (Qk K)) (xZ:ay P w K mg base (aa K "Beside") "leaver" 4 EC (HQ K)) (xW:ay P w K mg base (aa K "Beside") "leave_near" 6 ZL (Jk K)) (xS:ay P w K mg base (aa K "Beside") "come_in" 6 Ez (Jl K)) (xX:ay P w K mg base (aa K "Beside") "words" 4 Et (Jo K)):au P w K mg base aW 8 f fd ZK (HX K):=by
 refine F.ok bW (λvs H Q E h=>?_) (λcdv A outer s0 H vs Q E hr h=>?_)
 .obtain ⟨A,g,st,os,n,h,b,rfl,_⟩:=h
  rfl
 obtain ⟨A,g,st,os,n,h,b,rfl,R,ok,hh,bU,hn,q⟩:=h
 have nd:=bW.nd
 refine ⟨_,(Ze (aJ (ZG (Zk pK hr.m T.eG (av (Zo (K:=K) rfl) (Zl (K:=K) rfl (pv 0) rfl) (pv 1) (λ_ _=>rfl)) (pc (pv 2) Zb))) (Ze (Zp (Zk vJ hr.m T.aO (pv 0) (pc (pv 1) Zb)))
   (Ze (Zp (Zk x9 hr.m T.aO (pv 0) (pc (pv 1) (pc (pv 2) Zb))))
   (Zi Pe))) Zu)
   (Ze (Zp (Zk EU hr.m T.aO (pv 0) (pc (pv 2) Zb)))
   (Ze (Zp (Zk EW hr.m T.aO (pv 0) (pc (ak ve Zj (pv 1)) (pc (pv 2) Zb))))
   (Ze (eB 3 nd (Zk xZ hr.m T.aO (pv 0) (pc (pv 1) (pc (pv 2) Zb))))
   (Ze (aJ (DE (II (pv 3))) (Zi (Zp (Zk xW hr.m T.aO (pv 0) (pc (pv 1) (pc (pv 3) Zb))))) Zu)
   (Zi (Zp (Zk xS hr.m T.aO (pv 0) (pc (pv 1) (pc (pv 2) (pc (Zk xX hr.m T.aO (pv 0) (pc (rq T.oJ rfl) (pc (pv 2) Zb))) Zb))))))))))),?_⟩
 obtain ⟨dx,h1⟩:=R.ob
 have ln:=R.ln
 have g3:=ok.n3
 obtain ⟨b0,b1⟩:=R.wf.ub b bU
 obtain ⟨a,e1,e2,e3,B⟩:=R.at_ (k:=h) (by lia)
 obtain ⟨ds,h3⟩:=B.aT.ob
 unfold bQ at q
 refine hide λw1 x1=>?_
 refine ⟨_,rfl,A.p,_,dx,_,_,rfl,h1,T.aO,T.lA,Zx ..,_,rfl,A.ss,_,_,_,rfl,rfl,aG.of R.ss,af.ix e1,a.sp,ds,_,rfl,h3,bT ..,_,rfl,a,_,_,_,b,rfl,B,_,rfl,?_⟩
 by_cases m:b∈(st.at_ h).seq
 .rw [bb9 m] at q
  refine fq (a6t m) ⟨_,rfl,A.p,dx,_,rfl,h1,aA ..,_,rfl,A,g,st,os,n,h,rfl,R,by lia,by lia,λH1 bG R1 p1=>?_⟩
  obtain ⟨cS,g1⟩:=R1.ob
  exact ⟨_,rfl,A.p,cS,_,rfl,g1,aA ..,_,rfl,_,rfl,A,g,_,bG,_,h,b,rfl,R1,by lia,m,λH2 iJ R2 p2=>q _ _ (R2.le (by lia)) (p1.trans p2)⟩
 .rw [aYW m] at q
  refine cT (a5c m) ?_
  subst x1
  try dsimp only
  dsimp only [gg]
  refine ⟨_,rfl,A.p,dx,_,rfl,h1,aA ..,_,rfl,A,g,st,os,n,b,rfl,R,ok,bU,by lia,λH1 bG R1 p1=>?_⟩
  obtain ⟨cS,g1⟩:=R1.ob
  obtain ⟨f1,f2,f3⟩:=ok.fz (b:=b)
  have m1:b∉((fz g b st).at_ h).seq:=λz=>m (f3 h hh b z)
  generalize fz g b st=st1 at *
  have eh:(1 - (h:Int))=((1 - h:Nat):Int):=by lia
  try dsimp only
  refine hide λw1 x1=>?_
  refine ⟨_,rfl,A.p,cS,_,rfl,g1,aA ..,_,rfl,_,_,rfl,rfl,_,rfl,A,g,st1,bG,_,1 - h,b,by rw [← eh]; rfl,R1,g3,by lia,f2,by lia,λH2 iJ R2 p2=>?_⟩
  subst x1
  try dsimp only
  have s:=IS (g:=g) (h:=1 - h) f2
  have zS:=f1.sq s
  have Vc:b∈((cV g (1 - h) b st1).at_ 2).seq:=by rw [s.sq]; exact f2
  have m2:b∉((cV g (1 - h) b st1).at_ h).seq:=by rw [s.sq]; exact m1
  clear s f1 f2 f3 m1
  generalize cV g (1 - h) b st1=st2 at *
  obtain ⟨jZ,g2⟩:=R2.ob
  obtain ⟨u1,u2,u3,u4,u5,u6⟩:=R2.kq (k:=h) (by lia)
  try dsimp only
  refine hide λw1 x1=>?_
  refine ⟨_,rfl,A.p,jZ,_,rfl,g2,aA ..,_,rfl,_,rfl,A,g,st2,iJ,_,h,b,rfl,R2,by lia,λH3 s3 gp=>gN ?_⟩
  subst x1
  try dsimp only
  have R3:=R2.same s3
  have rf:=ZjN zS hh u3 gp
  obtain ⟨Tn,vG,FA⟩:=zS.aL (b:=b) hh
  refine wQ (λσ G=>σ=[some (.ref A.p),some (.int (h:Int)),some (.int b),some (oS (bX (g.cf h) (st2.at_ h) b))]/\∃ iG,af K G A g (aL g h b st2) iG (n+6+2+3)/\bM (OW A iJ) H3 G (OW A iG)) (λD' _ k'=>?_) ?_
  .obtain ⟨mj,qP⟩:=R3.ob
   cases eg:bX (g.cf h) (st2.at_ h) b with
   | none =>
    have el:aL g h b st2=st2:=by unfold aL; rw [eg]
    rw [eg,el] at k'
    exact ⟨_,rfl,_,rfl,cT rfl (k' _ _ ⟨rfl,iJ,R3.le (by lia),bM.same (aB.refl _)⟩)⟩
   | some go =>
    have el:aL g h b st2=aK g h go st2:=by unfold aL; rw [eg]
    rw [eg,el] at k'
    obtain ⟨mg,_,_⟩:=vm eg
    exact ⟨_,rfl,_,rfl,fq rfl ⟨_,rfl,A.p,mj,_,rfl,qP,aA ..,_,rfl,_,rfl,A,g,st2,iJ,_,h,go,rfl,R3,g3,hh,mg,zS.inc h go hh mg,by lia,λH4 mL R4 p4=>k' _ _ ⟨rfl,mL,R4,p4⟩⟩⟩
  rintro _ G ⟨rfl,iG,R4,p4⟩
  obtain ⟨qT,g4⟩:=R4.ob
  have b2:b∈((aL g h b st2).at_ 2).seq:=by rw [FA 2 (by lia)]; exact Vc
  refine ⟨_,rfl,A.p,qT,_,rfl,g4,aA ..,_,rfl,_,rfl,_,rfl,A.p,qT,_,rfl,g4,aA ..,_,rfl,A,g,_,iG,_,2,b,rfl,R4,by lia,λ_=>b2,b0,b1,λlw H5 kY s5 ew=>?_⟩
  have R5:=R4.same s5
  have Hv:DF g (aL g h b st2) 2 b=((aL g h b st2).at_ 2).wd b:=aYW (by lia)
  rw [Hv] at ew
  exact ⟨A,g,_,iG,_,h,b,lw,_,rfl,R5,by lia,λz=>m2 (vG b z),bU,rf,ew,R4.fresh kY,((R4.kq (k:=2) (by lia)).2.1 b b2).2,by lia,λH6 os6 R6 p6=>q _ _ (R6.le (by lia)) ((((p1.trans p2).trans (bM.same s3)).trans p4).trans ((bM.same s5).trans p6))⟩
end
section
structure k6 (K:W.Frag) (H:Hp) (A:TA) (g:aU) (st:ao) (os:OS):Prop where
 at_:af K H A g st os 0
 ok:aM g st
theorem k6.frame {H H':Hp} {A:TA} {g:aU} {st:ao} {os:OS} (r:k6 K H A g st os) (f:∀ x o,H x=some o->(OW A os x\/¬ Mt o)->H' x=some o):k6 K H' A g st os:=⟨r.at_.frame f,r.ok⟩
theorem k6.same {H H':Hp} {A:TA} {g:aU} {st:ao} {os:OS} (r:k6 K H A g st os) (s:aB H H'):k6 K H' A g st os:=⟨r.at_.same s,r.ok⟩
def OH (K:W.Frag):Sp:=λvs H Q _=>∃ (A:TA) (g:aU) (st:ao) (os:OS) (h:Nat) (sp:Int),vs=[.ref A.p,.int (h:Int),.int sp]/\k6 K H A g st os/\h<2/\sp / g.size∈g.U /\
 ∀ H' e' os' tp,H' tp=some (.tup [.int (ju g ((bQ g h (sp / g.size) st).at_ h) sp),.ref A.ev])->k6 K H' (A.re e') g (gM (bQ g h (sp / g.size) st)) os'->k8 g.n H' A.ev (bQ g h (sp / g.size) st).ev->(bQ g h (sp / g.size) st).ev.length<=100->¬ OW (A.re e') os' A.ev->bM (OW A os) H H' (OW (A.re e') os')->Q (.ref tp) H'
theorem Zfd (F:aY K "read" "Beside.read" J2 f fd) (T:Txt K mg) (pJ:Def P w K mg base "board_of" 1 yH Bv) (xV:ay P w K mg base (aa K "Beside") "fetch_near" 8 ZK (HX K)) (EL:ay P w K mg base (aa K "Beside") "word_in" 4 Ko (PN K)) (sN:ay P w K mg base (aa K "Beside") "happened" 1 ZM (Eo K)):au P w K mg base aW 15 f fd JZ (OH K):=by
 refine F.ok fN (λvs H Q E h=>?_) (λcdv A outer s0 H vs Q E hr h=>?_)
 .obtain ⟨A,g,st,os,h,sp,rfl,_⟩:=h
  rfl
 obtain ⟨A,g,st,os,h,sp,rfl,⟨R,ok⟩,hh,bU,q⟩:=h
 have nd:=fN.nd
 refine ⟨_,(Ze (Zp (Zk xV hr.m T.aO (pv 0) (pc (pv 1) (pc (Zm pJ hr.m rfl (pc (Zl (K:=K) rfl (pv 0) rfl) (pc (pv 2) Zb))) Zb))))
   (Zi (Zt (j6 (pc (Zk EL hr.m T.aO (pv 0) (pc (pv 1) (pc (pv 2) Zb))) (pc (ZR sN hr.m T.aO (pv 0)) Zb)))))),?_⟩
 obtain ⟨dx,h1⟩:=R.ob
 have z0:=R.wf.z0
 have z1:=R.wf.z1
 have g3:=ok.n3
 obtain ⟨o1,m1⟩:=ok.bQ (b:=sp / g.size) hh
 refine ⟨_,rfl,A.p,dx,_,rfl,h1,aA ..,_,rfl,_,rfl,A.p,_,dx,_,_,rfl,h1,T.aO,T.vL,yC ..,_,rfl,g.size,sp,rfl,by lia,by lia,A,g,st,os,0,h,_,rfl,R,ok,hh,bU,by decide,λH1 bG R1 p1=>?_⟩
 obtain ⟨cS,h2⟩:=R1.ob
 refine ⟨_,rfl,A.p,cS,_,rfl,h2,aA ..,_,rfl,_,rfl,A,g,_,bG,_,h,sp,rfl,R1,by lia,m1,λH2 s2=>?_⟩
 have R2:=R1.same s2
 refine ⟨_,rfl,A.p,cS,_,rfl,s2 _ _ h2,aA ..,A,g,_,bG,_,rfl,R2,λe' H3 R3 Ds ne3 p3=>⟨(sl 2),λtp htp=>?_⟩⟩
 have s4:=Zf htp (.tup [.int (ju g ((bQ g h (sp / g.size) st).at_ h) sp),.ref A.ev])
 exact q _ e' bG tp Za ⟨R3.same s4,o1.gM⟩ (Ds.frame (λo e=>s4 _ _ e) λx ys e=>s4 _ _ e) (auj R1.rT (by decide)) ne3 (((p1.trans (bM.same s2)).trans p3).trans (bM.same s4))
theorem aM.SG {g:aU} {st:ao} {h:Nat} {sp x:Int} (ok:aM g st) (hh:h<2):aM g (jS g h sp x st):=by
 obtain ⟨o1,m1⟩:=ok.bQ (b:=sp / g.size) hh
 obtain ⟨o2,m2⟩:=o1.bP (b:=sp / g.size) hh
 have s:=yq (st:=bI.bP h (sp / g.size) (bI.bQ g h (sp / g.size) st)) (k:=h) (s:=kG g ((bI.bP h (sp / g.size) (bI.bQ g h (sp / g.size) st)).at_ h) sp x) rfl λ_ z=>.inl z
 exact (o2.sq s).mark hh (by rw [s.sq,m2]; exact m1)
def O9 (K:W.Frag):Sp:=λvs H Q _=>∃ (A:TA) (g:aU) (st:ao) (os:OS) (h:Nat) (sp x:Int),vs=[.ref A.p,.int (h:Int),.int sp,.int x]/\k6 K H A g st os/\h<2/\sp / g.size∈g.U /\
 ∀ H' e' os',k6 K H' (A.re e') g (gM (jS g h sp x st)) os'->k8 g.n H' A.ev (jS g h sp x st).ev->(jS g h sp x st).ev.length<=100->¬ OW (A.re e') os' A.ev->bM (OW A os) H H' (OW (A.re e') os')->Q (.ref A.ev) H'
theorem ZeR (F:aY K "write" "Beside.write" KH f fd) (T:Txt K mg) (pJ:Def P w K mg base "board_of" 1 yH Bv) (xV:ay P w K mg base (aa K "Beside") "fetch_near" 8 ZK (HX K)) (pK:ay P w K mg base (aa K "Store") "has" 2 yL (Bp K)) (oQ:ay P w K mg base (aa K "Beside") "go_out" 5 ZN (Bu K)) (EN:ay P w K mg base (aa K "Beside") "put_word" 2 K6 (Qm K)) (xT:ay P w K mg base (aa K "Store") "freshen" 1 EA (JD K)) (pO:ay P w K mg base (aa K "Store") "words_of" 3 ZA (BL K)) (sO:ay P w K mg base (aa K "Beside") "put_down" 4 ZF (DW K)) (sN:ay P w K mg base (aa K "Beside") "happened" 1 ZM (Eo K)):au P w K mg base aW 15 f fd KG (O9 K):=by
 refine F.ok e9 (λvs H Q E h=>?_) (λcdv A outer s0 H vs Q E hr h=>?_)
 .obtain ⟨A,g,st,os,h,sp,x,rfl,_⟩:=h
  rfl
 obtain ⟨A,g,st,os,h,sp,x,rfl,⟨R,ok⟩,hh,bU,q⟩:=h
 have nd:=e9.nd
 refine ⟨_,(Ze (eB 4 nd (Zm pJ hr.m rfl (pc (Zl (K:=K) rfl (pv 0) rfl) (pc (pv 2) Zb))))
   (Ze (eB 5 nd (ak ve Zj (pv 1)))
   (Ze (Zp (Zk xV hr.m T.aO (pv 0) (pc (pv 1) (pc (pv 4) Zb))))
   (Ze (aJ (ZG (Zk pK hr.m T.eG (av (Zo (K:=K) rfl) (Zl (K:=K) rfl (pv 0) rfl) (pv 5) (λ_ _=>rfl)) (pc (pv 4) Zb))) (Zi (Zp (Zk oQ hr.m T.aO (pv 0) (pc (pv 5) (pc (pv 4) Zb))))) Zu)
   (Ze (Zp (Zk EN hr.m T.aO (pv 0) (pc (pv 1) (pc (pv 2) (pc (pv 3) Zb)))))
   (Ze (eB 6 nd (av (Zo (K:=K) rfl) (Zl (K:=K) rfl (pv 0) rfl) (pv 1) (λ_ _=>rfl)))
   (Ze (aJ (ZG (Zl (K:=K) rfl (pv 6) rfl)) (Zi (Zp (Zk xT hr.m T.eG (pv 6) (pc (pv 4) Zb)))) (Zi (Zp (Zk sO hr.m T.aO (pv 0) (pc (pv 4) (pc (Zk pO hr.m T.eG (pv 6) (pc (pv 4) Zb)) Zb))))))
   (Zi (Zt (ZR sN hr.m T.aO (pv 0))))))))))),?_⟩
 obtain ⟨dx,h1⟩:=R.ob
 have z0:=R.wf.z0
 have z1:=R.wf.z1
 have g3:=ok.n3
 have ln:=R.ln
 have FQ:=ok.SG (sp:=sp) (x:=x) hh
 obtain ⟨o1,m1⟩:=ok.bQ (b:=sp / g.size) hh
 have eh:(1 - (h:Int))=((1 - h:Nat):Int):=by lia
 refine ⟨_,rfl,A.p,_,dx,_,_,rfl,h1,T.aO,T.vL,yC ..,_,rfl,g.size,sp,rfl,by lia,by lia,gN ?_⟩
 try dsimp only
 refine ⟨_,rfl,_,_,rfl,rfl,gN ?_⟩
 try dsimp only
 rw [eh]
 refine hide λu1 e1=>?_
 refine ⟨_,rfl,A.p,dx,_,rfl,h1,aA ..,_,rfl,_,rfl,A,g,st,os,0,h,_,rfl,R,ok,hh,bU,by decide,λH1 bG R1 p1=>?_⟩
 subst e1
 try dsimp only
 unfold jS at q FQ
 generalize bQ g h (sp / g.size) st=st1 at *
 obtain ⟨cS,g1⟩:=R1.ob
 obtain ⟨a,e1,e2,e3,B⟩:=R1.at_ (k:=1 - h) (by lia)
 obtain ⟨ds,h3⟩:=B.aT.ob
 obtain ⟨o2,m2⟩:=o1.bP (b:=sp / g.size) hh
 refine wQ (λσ G=>σ=[some (.ref A.p),some (.int (h:Int)),some (.int sp),some (.int x),some (.int (sp / g.size)),some (.int ((1 - h:Nat):Int)),none]/\∃ iJ,af K G A g (bP h (sp / g.size) st1) iJ 13/\bM (OW A bG) H1 G (OW A iJ)) (λD' _ k'=>?_) ?_
 .refine ⟨_,rfl,A.p,_,cS,_,_,rfl,g1,T.aO,T.lA,Zx ..,_,rfl,A.ss,_,_,_,rfl,rfl,aG.of R1.ss,af.ix e1,a.sp,ds,_,rfl,h3,bT ..,_,rfl,a,_,_,_,_,rfl,B,_,rfl,?_⟩
  unfold bP at k'
  by_cases m:sp / g.size∈(st1.at_ (1 - h)).seq
  .rw [bb9 m] at k'
   exact fq (a6t m) ⟨_,rfl,A.p,cS,_,rfl,g1,aA ..,_,rfl,_,rfl,A,g,_,bG,_,1 - h,_,rfl,R1,by lia,m,by decide,λH2 iJ t l et el nl R2 p2=>k' _ _ ⟨rfl,iJ,R2,p2⟩⟩
  .rw [aYW m] at k'
   exact cT (a5c m) (k' _ _ ⟨rfl,bG,R1.le (by decide),bM.same (aB.refl _)⟩)
 rintro _ G ⟨rfl,iJ,R2,p2⟩
 have mh:sp / g.size∈((bP h (sp / g.size) st1).at_ h).seq:=by rw [m2]; exact m1
 generalize bP h (sp / g.size) st1=st2 at *
 obtain ⟨jZ,g2⟩:=R2.ob
 refine ⟨_,rfl,A.p,jZ,_,rfl,g2,aA ..,_,rfl,_,rfl,_,rfl,A,g,st2,iJ,_,h,sp,x,rfl,R2,by lia,mh,λH3 iG R3 p3=>?_⟩
 have Fo:∀ j,((st2.set h (kG g (st2.at_ h) sp x)).at_ j).seq=(st2.at_ j).seq:=λj=>HN rfl
 have uI:aM g (st2.set h (kG g (st2.at_ h) sp x)):=o2.sq (yq (s:=kG g (st2.at_ h) sp x) rfl λ_ z=>.inl z)
 have CY:sp / g.size∈((st2.set h (kG g (st2.at_ h) sp x)).at_ h).seq:=by rw [Fo]; exact mh
 have Tj:=(p1.trans p2).trans p3
 dsimp only at q FQ
 generalize st2.set h (kG g (st2.at_ h) sp x)=st3 at *
 obtain ⟨mj,g4⟩:=R3.ob
 obtain ⟨a,e1,e2,e3,B⟩:=R3.at_ (k:=h) (by lia)
 obtain ⟨u1,u2,u3,u4,u5,u6⟩:=R3.kq (k:=h) (by lia)
 obtain ⟨ds,h3⟩:=B.aT.ob
 refine ⟨_,rfl,A.p,_,mj,_,_,rfl,g4,T.aO,T.lA,Zx ..,_,rfl,A.ss,_,_,_,rfl,rfl,aG.of R3.ss,af.ix e1,gN ?_⟩
 try dsimp only
 refine wQ (λσ G=>σ=[some (.ref A.p),some (.int (h:Int)),some (.int sp),some (.int x),some (.int (sp / g.size)),some (.int ((1 - h:Nat):Int)),some (.ref a.sp)]/\∃ mL,af K G A g (markB g h (sp / g.size) st3) mL 20/\bM (OW A iG) H3 G (OW A mL)) (λD' _ k'=>?_) ?_
 .refine ⟨_,rfl,a.sp,_,ds,_,_,rfl,h3,T.eG,T.E1,Oc ..,_,rfl,?_⟩
  unfold markB at k'
  by_cases c:(g.cf h).late=true
  .rw [bb9 c] at k'
   refine fq c ⟨_,rfl,a.sp,ds,_,rfl,h3,bT ..,_,rfl,a,_,_,_,_,rfl,B,CY,u1,λG3 B3 p3=>?_⟩
   obtain ⟨R4,p4⟩:=R3.iy e1 e2 B3 p3 u2 u3
   exact k' _ _ ⟨rfl,_,R4.le (by decide),p4⟩
  .rw [aYW c] at k'
   refine cT (by simpa using c) ⟨_,rfl,A.p,mj,_,rfl,g4,aA ..,_,rfl,_,rfl,a.sp,ds,_,rfl,h3,bT ..,_,rfl,a,_,_,_,_,rfl,B,CY,λl hl=>?_⟩
   have sm:=Zf hl (.lst (((st3.at_ h).wd (sp / g.size)).map V.int))
   exact ⟨A,g,st3,iG,_,_,l,_,rfl,R3.same sm,g3,uI.inc h _ hh CY,Za,R3.fresh hl,(u2 _ CY).2,by decide,λG2 mL R4 p4=>k' _ _ ⟨rfl,mL,R4.le (by decide),(bM.same sm).trans p4⟩⟩
 rintro _ G ⟨rfl,mL,R4,p4⟩
 obtain ⟨qT,g5⟩:=R4.ob
 exact ⟨_,rfl,A.p,qT,_,rfl,g5,aA ..,A,g,_,mL,_,rfl,R4,λe' H5 R5 Vd ne5 p5=>q _ e' mL ⟨R5,FQ.gM⟩ Vd (auj R4.rT (by decide)) ne5 ((Tj.trans p4).trans p5)⟩
end
section
def uw (K:W.Frag):Sp:=λvs H Q _=>∃ (p:Addr) (sh pl:Int) (ru:Str) (ls:Addr) (aq:List Addr) (du:Addr) (seq:List Int) (us:Int->Int) (n:Nat),vs=[.ref p]/\aD K H p sh pl ru ls aq du seq us n/\seq.length<64 /\
 ∀ (D:Addr) (os:List Int),H D=none->os.Perm seq->os.Pairwise (·<=·)->Q (.ref D) (upd H D (.lst (os.map V.int)))
theorem Zfe (F:aY K "boards" "Room.boards" KD f fd) (T:Txt K mg):au P w K mg base aW 1 f fd KC (uw K):=by
 refine F.ok fL (λvs H Q E h=>?_) (λcdv A outer st H vs Q E hr h=>?_)
 .obtain ⟨p,sh,pl,ru,ls,aq,du,seq,us,n,rfl,_⟩:=h
  rfl
 obtain ⟨p,sh,pl,ru,ls,aq,du,seq,us,n,rfl,R,h64,k⟩:=h
 have nd:=fL.nd
 refine ⟨_,(Zi (Zt (Zs (QX rfl) rfl T.vA agm (pc (Zl (K:=K) rfl (pv 0) rfl) Zb)))),?_⟩
 obtain ⟨dx,h1⟩:=R.ob
 obtain ⟨kvs,h2,⟨h3,ks,h4,h5⟩,h6⟩:=R.dc
 have per:ks.Perm seq:=by
  refine (aoa h5 R.nd).mpr λb=>?_
  have q:=tT (kvs:=kvs) (Sum.inl b)
  rw [h6 b,h4] at q
  constructor
  .intro m
   have:=q.mpr (ar1 m)
   by_cases c:b∈seq
   .exact c
   .rw [aYW c] at this; cases this
  .intro m
   rw [bb9 m] at q
   obtain ⟨x,hx,e⟩:=auF.mp (q.mp rfl)
   rw [← akX e]; exact hx
 exact ⟨_,rfl,p,_,dx,_,_,rfl,h1,T.fZ,T.vB,yD ..,du,kvs,ks,rfl,h2,h4,by rw [per.length_eq]; exact h64,λD os hD po pw=>k D os hD (po.trans per) pw⟩
end
section
def HW (K:W.Frag):Sp:=λvs H Q _=>∃ (A:TA) (g:aU) (st:ao) (os:OS) (n k:Nat),vs=[.ref A.p,.int (k:Int)]/\af K H A g st os n/\k<g.n/\(st.at_ k).seq.length<64/\∀ (D:Addr) (bs:List Int),H D=none->bs.Perm (st.at_ k).seq->bs.Pairwise (·<=·)->Q (.ref D) (upd H D (.lst (bs.map V.int)))
theorem Zga (F:aY K "lies" "Steps.lies" JQ f fd) (T:Txt K mg) (sL:ay P w K mg base (aa K "Beside") "store" 1 BV (D8 K)) (E4:ay P w K mg base (aa K "Room") "boards" 1 KC (uw K)):au P w K mg base aW 2 f fd Ey (HW K):=by
 refine F.ok gj (λvs H Q E h=>?_) (λcdv A outer s0 H vs Q E hr h=>?_)
 .obtain ⟨A,g,st,os,n,k,rfl,_⟩:=h
  rfl
 obtain ⟨A,g,st,os,n,k,rfl,R,hk,h64,q⟩:=h
 have nd:=gj.nd
 refine ⟨_,(Zi (Zt (ZR E4 hr.m T.fZ (Zl (K:=K) rfl (Zk sL hr.m T.aO (pv 0) (pc (pv 1) Zb)) rfl)))),?_⟩
 obtain ⟨dx,h1⟩:=R.ob
 have ln:=R.ln
 obtain ⟨a,e1,e2,e3,B⟩:=R.at_ (k:=k) (by lia)
 obtain ⟨ds,h3⟩:=B.aT.ob
 obtain ⟨dr,h4⟩:=B.aT.room.ob
 exact ⟨_,rfl,A.p,dx,_,rfl,h1,aA ..,_,rfl,A,g,st,os,n,k,a,rfl,R,e1,a.sp,_,ds,_,_,rfl,h3,T.eG,T.uD,xo ..,a.rp,dr,_,rfl,h4,bS ..,a.rp,(g.cf k).sh,(g.cf k).pl,(g.cf k).ru,a.ls,a.aq,a.du,(st.at_ k).seq,(st.at_ k).us,_,rfl,B.aT.room,h64,q⟩
end
def jj (l:List Int):List Int:=l.mergeSort λa b=>decide (a<=b)
theorem NV {bs l:List Int} (p:bs.Perm l) (w:bs.Pairwise (·<=·)):bs=jj l:=by
 have w':(jj l).Pairwise (·<=·):=(List.pairwise_mergeSort (le:=λa b:Int=>decide (a<=b)) (λa b c h1 h2=>a6t (agt (of_decide_eq_true h1) (of_decide_eq_true h2))) (λa b=>by rcases Int.le_total a b with h | h <;> simp [h]) l).imp λh=>of_decide_eq_true h
 exact List.Perm.eq_of_pairwise (λa b _ _ h1 h2=>Int.le_antisymm h1 h2) w w' (p.trans (List.mergeSort_perm _ _).symm)
theorem cG {l:List Int}:(jj l).Perm l:=List.mergeSort_perm _ _
def eN (g:aU) (o:Int) (st:ao):ao:=if (st.at_ 2).fr o=true then bz g g.n o ((st.at_ 2).wd o) (cR 2 o st) else cR 2 o st
def gK (g:aU) (h:Nat):List Int->ao->ao
 | [],st=>st
 | b :: bs,st=>gK g h bs (aK g h b st)
def gJ (g:aU):List Int->ao->ao
 | [],st=>st
 | b :: bs,st=>gJ g bs (eN g b st)
def bg (g:aU) (st:ao):Nat->ao
 | 0=>st
 | h+1=>gK g h (jj ((bg g st h).at_ h).seq) (bg g st h)
def cU (g:aU) (st:ao):ao:=gJ g (jj ((bg g st 2).at_ 2).seq) (bg g st 2)
section
variable {g:aU} {st:ao} {h j:Nat} {b o:Int}
theorem aM.aK (w:aM g st) (hh:h<2) (ho:o∈(st.at_ h).seq):aM g (aK g h o st)/\∀ j,((bI.aK g h o st).at_ j).seq=if j=h then (st.at_ j).seq.erase o else (st.at_ j).seq:=by
 have s:=JB (g:=g) w hh (w.inc h o hh ho)
 exact ⟨(w.go hh).sq s,λj=>by rw [s.sq]; exact bH (by rw [w.len]; lia)⟩
theorem aM.gK (hh:h<2):∀ {bs:List Int} {st:ao},aM g st->bs.Perm (st.at_ h).seq->aM g (gK g h bs st)/\∀ j,((bI.gK g h bs st).at_ j).seq=if j=h then [] else (st.at_ j).seq
 | [],st,w,p=>⟨w,λj=>by
  split
  .rename_i e; rw [e]; exact p.symm.eq_nil
  .rfl⟩
 | b :: bs,st,w,p=>by
  have hb:b∈(st.at_ h).seq:=p.mem_iff.mp aq5
  obtain ⟨w1,s1⟩:=w.aK hh hb
  have q:bs.Perm ((bI.aK g h b st).at_ h).seq:=by
   rw [s1,bb9 rfl]
   have:=p.erase b
   rwa [a7i] at this
  obtain ⟨w2,s2⟩:=aM.gK hh (bs:=bs) w1 q
  refine ⟨w2,λj=>(s2 j).trans ?_⟩
  rw [s1]
  by_cases c:j=h
  .rw [bb9 c,bb9 c]
  .rw [aYW c,aYW c,aYW c]
theorem aM.bg (w:aM g st):∀ {k:Nat},k<=2->aM g (bg g st k)/\∀ j,((bI.bg g st k).at_ j).seq=if j<k then [] else (st.at_ j).seq
 | 0,_=>⟨w,λj=>by rw [aYW (Nat.not_lt_zero _)]; rfl⟩
 | k+1,hk=>by
  obtain ⟨w1,s1⟩:=w.bg (k:=k) (by lia)
  obtain ⟨w2,s2⟩:=w1.gK (h:=k) (by lia) cG
  refine ⟨w2,λj=>(s2 j).trans ?_⟩
  by_cases c:j=k
  .rw [bb9 c,bb9 (by lia)]
  .rw [aYW c,s1]
   by_cases c2:j<k
   .rw [bb9 c2,bb9 (by lia)]
   .rw [aYW c2,aYW (by lia)]
theorem DQ (w:aM g st) (n0:∀ h,h<2->(st.at_ h).seq=[]):aM g (eN g o st)/\∀ j,((eN g o st).at_ j).seq=if j=2 then (st.at_ j).seq.erase o else (st.at_ j).seq:=by
 have hl:2<st.rm.length:=by rw [w.len]; lia
 have s:Sq (cR 2 o st) (eN g o st):=by
  unfold eN
  split
  .exact cH
  .exact Sq.refl
 have k:aM g (cR 2 o st):=by
  refine ⟨w.n3,gH.trans w.len,λk=>?_,λh y hh hy=>?_,λk y hy=>?_⟩
  .rw [bH hl]
   split
   .exact (w.nd k).erase _
   .exact w.nd k
  .rw [bH hl,aYW (by lia),n0 h hh] at hy
   cases hy
  .obtain ⟨h1,h2⟩:=oh hl hy
   rw [bH hl]
   split
   .rename_i e; exact (mem_erase_of_ne (h2 e)).mpr (w.ff k y h1)
   .exact w.ff k y h1
 exact ⟨k.sq s,λj=>by rw [s.sq]; exact bH hl⟩
theorem OG:∀ {bs:List Int} {st:ao},aM g st->(∀ h,h<2->(st.at_ h).seq=[])->bs.Perm (st.at_ 2).seq->aM g (gJ g bs st)/\∀ j,((gJ g bs st).at_ j).seq=if j<3 then [] else (st.at_ j).seq
 | [],st,w,n0,p=>⟨w,λj=>by
  split
  .by_cases c:j=2
   .rw [c]; exact p.symm.eq_nil
   .exact n0 j (by lia)
  .rfl⟩
 | b :: bs,st,w,n0,p=>by
  obtain ⟨w1,s1⟩:=DQ (o:=b) w n0
  have q:bs.Perm ((eN g b st).at_ 2).seq:=by
   rw [s1,bb9 rfl]
   have:=p.erase b
   rwa [a7i] at this
  obtain ⟨w2,s2⟩:=OG (bs:=bs) w1 (λh hh=>by rw [s1,aYW (by lia)]; exact n0 h hh) q
  refine ⟨w2,λj=>(s2 j).trans ?_⟩
  by_cases c:j<3
  .rw [bb9 c,bb9 c]
  .rw [aYW c,aYW c,s1,aYW (by lia)]
theorem IP (w:aM g st):aM g (cU g st)/\∀ j,j<3->((cU g st).at_ j).seq=[]:=by
 obtain ⟨w1,s1⟩:=w.bg (k:=2) (aDN _)
 obtain ⟨w2,s2⟩:=OG w1 (λh hh=>by rw [s1,bb9 hh]) cG
 exact ⟨w2,λj hj=>by show ((gJ g _ _).at_ j).seq=[]; rw [s2,bb9 hj]⟩
end
section
theorem af.few {H:Hp} {A:TA} {g:aU} {st:ao} {os:OS} {n:Nat} (T:af K H A g st os n) {k:Nat} (hk:k<g.n) (hU:g.U.length<64):(st.at_ k).seq.length<64:=by
 have ln:=T.ln
 obtain ⟨a,e1,e2,e3,B⟩:=T.at_ (k:=k) (by lia)
 have nd:(st.at_ k).seq.Nodup:=B.aT.room.nd
 exact aOj (xg nd λx hx=>T.pY _ (axK e3) x hx) hU
def NU (K:W.Frag):Sp:=λvs H Q _=>∃ (A:TA) (g:aU) (st:ao) (os:OS),vs=[.ref A.p]/\k6 K H A g st os/\g.U.length<64 /\
 ∀ H' e' os',k6 K H' (A.re e') g (gM (cU g st)) os'->k8 g.n H' A.ev (cU g st).ev->(cU g st).ev.length<=2000->¬ OW (A.re e') os' A.ev->bM (OW A os) H H' (OW (A.re e') os')->Q (.ref A.ev) H'
theorem ZdR (F:aY K "emptied" "Beside.emptied" KA f fd) (T:Txt K mg) (vK:ay P w K mg base (aa K "Beside") "lies" 2 Ey (HW K)) (xW:ay P w K mg base (aa K "Beside") "leave_near" 6 ZL (Jk K)) (oQ:ay P w K mg base (aa K "Beside") "go_out" 5 ZN (Bu K)) (rP:ay P w K mg base (aa K "Beside") "put" 3 BN (nF K)) (sN:ay P w K mg base (aa K "Beside") "happened" 1 ZM (Eo K)):au P w K mg base aW 7 f fd Kz (NU K):=by
 refine F.ok dj (λvs H Q E h=>?_) (λcdv A outer s0 H vs Q E hr h=>?_)
 .obtain ⟨A,g,st,os,rfl,_⟩:=h
  rfl
 obtain ⟨A,g,st,os,rfl,⟨R,ok⟩,hU,q⟩:=h
 have nd:=dj.nd
 refine ⟨_,(Ze (rZ aaO rfl (DR (K:=K) rfl (P5 (K:=K) rfl T.Df rfl)) (ck 1 nd) (Zi (rZ aaO rfl (Ef (K:=K) rfl (Zk vK hr.m T.aO (pv 0) (pc (pv 1) Zb))) (ck 2 nd) (Zi (Zp (Zk xW hr.m T.aO (pv 0) (pc (pv 1) (pc (pv 2) Zb))))))))
   (Ze (rZ aaO rfl (Ef (K:=K) rfl (Zk vK hr.m T.aO (pv 0) (pc (rq T.oJ rfl) Zb))) (ck 2 nd) (Ze (lY (Zk oQ hr.m T.aO (pv 0) (pc (rq T.oJ rfl) (pc (pv 2) Zb))) (mz (K:=K) (n:=2) rfl rfl (Zr (ck 3 nd) (Zr (ck 4 nd) ZY))))
   (Zi (aJ (ZG (pv 4)) (Zi (Zp (Zk rP hr.m T.aO (pv 0) (pc (Zl (K:=K) rfl (pv 0) rfl) (pc (pv 2) (pc (pv 3) Zb)))))) Zu))))
   (Zi (Zt (ZR sN hr.m T.aO (pv 0)))))),?_⟩
 have ln:=R.ln
 have g3:=ok.n3
 refine hide λu1 e1=>?_
 refine λhd tQ=>⟨hd,rfl,⟨_,tQ _⟩,Pd (K:=K) (a:=hd) (xs:=([0,1]:List Int).map V.int) (λi σ G=>∃ (v1 v2 v3 v4:Option V) (os':OS),σ=[some (.ref A.p),v1,v2,v3,v4]/\af K G A g (bg g st i) os' (300 * i)/\bM (OW A os) H G (OW A os')) ⟨_,_,_,_,os,rfl,R,bM.same (aB.refl _)⟩ (λi σ G _ _=>tQ _) ?_ ?_⟩
 .rintro i x σ G hi ⟨v1,v2,v3,v4,bG,rfl,R1,p1⟩
  have hi2:i<2:=(aK1.mp hi).1
  have hx:x=.int (i:Int):=by
   have h:i=0\/i=1:=by lia
   rcases h with rfl | rfl
   .exact (a6S hi).symm
   .exact (a6S hi).symm
  subst hx
  obtain ⟨To,_⟩:=ok.bg (k:=i) (by lia)
  refine gN ?_
  try dsimp only
  obtain ⟨cS,g1⟩:=R1.ob
  refine ⟨_,rfl,A.p,cS,_,rfl,g1,aA ..,_,rfl,A,g,bg g st i,bG,_,i,rfl,R1,by lia,R1.few (by lia) hU,λD bs hD pb pw=>⟨D,rfl,⟨_,aG.of Za⟩,?_⟩⟩
  have n64:bs.length<64:=by rw [pb.length_eq]; exact R1.few (by lia) hU
  have eb:=NV pb pw
  have s2:=Zf hD (.lst (bs.map V.int))
  have eD:=Za (H:=G) (a:=D) (o:=.lst (bs.map V.int))
  have R2:=R1.same s2
  have p2:=p1.trans (bM.same s2)
  have nD:=R1.fresh hD
  have eK:gK g i bs (bg g st i)=bg g st (i+1):=by show _=gK g i (jj _) _; rw [← eb]
  generalize upd G D (.lst (bs.map V.int))=G2 at *
  refine PF (K:=K) (a:=D) (xs:=bs.map V.int) (λj σ G'=>∃ (v2 v3 v4:Option V) (os':OS) (s':ao),σ=[some (.ref A.p),some (.int (i:Int)),v2,v3,v4]/\af K G' A g s' os' (300 * i+3 * j)/\aM g s'/\gK g i (bs.drop j) s'=bg g st (i+1)/\(bs.drop j).Perm (s'.at_ i).seq/\bM (OW A os) H G' (OW A os')/\G' D=some (.lst (bs.map V.int))/\¬ OW A os' D)
   ⟨_,_,_,bG,bg g st i,rfl,R2,To,eK,pb,p2,eD,nD⟩ (λj σ G' _ h=>by obtain ⟨_,_,_,_,_,_,_,_,_,_,_,e,_⟩:=h; exact aG.of e) ?_ ?_
  .rintro j x σ G3 hx ⟨v2,v3,v4,iG,s',rfl,R3,uI,e3,sR,p3,Hy,Ga⟩
   obtain ⟨b,AZ,rfl⟩:=IZ hx
   have hj:j<bs.length:=(aK1.mp AZ).1
   have ed:bs.drop j=b :: bs.drop (j+1):=by
    rw [a12 hj]
    congr 1
    exact (aK1.mp AZ).2
   rw [ed] at e3 sR
   have hb:b∈(s'.at_ i).seq:=sR.mem_iff.mp aq5
   obtain ⟨mj,qP⟩:=R3.ob
   obtain ⟨vP,s4⟩:=uI.aK hi2 hb
   refine gN ?_
   try dsimp only
   refine ⟨_,rfl,A.p,mj,_,rfl,qP,aA ..,_,rfl,_,rfl,A,g,s',iG,_,i,b,rfl,R3,g3,hi2,hb,uI.inc i b hi2 hb,by lia,λH4 mL R4 p4=>?_⟩
   have wM:=p4.out Hy Ga
   have uF:(bs.drop (j+1)).Perm ((aK g i b s').at_ i).seq:=by
    rw [s4,bb9 rfl]
    have:=sR.erase b
    rwa [a7i] at this
   exact ⟨_,_,_,mL,_,rfl,R4.le (by lia),vP,e3,uF,p3.trans p4,wM.1,wM.2⟩
  .rintro σ G3 ⟨v2,v3,v4,iG,s',rfl,R3,uI,e3,sR,p3,_⟩
   rw [aUH,List.drop_length] at e3
   have e3:s'=bg g st (i+1):=e3
   subst e3
   rw [aUH] at R3
   exact ⟨_,_,_,_,iG,rfl,R3.le (by lia),p3⟩
 rintro σ G ⟨v1,v2,v3,v4,bG,rfl,R1,p1⟩
 subst e1
 try dsimp only
 have R1:af K G A g (bg g st 2) bG 600:=R1
 obtain ⟨zS,SX⟩:=ok.bg (k:=2) (aDN _)
 have Uc:∀ h,h<2->((bg g st 2).at_ h).seq=[]:=λh hh=>by rw [SX,bb9 hh]
 obtain ⟨FT,_⟩:=IP ok
 unfold cU at q FT
 generalize bg g st 2=st2 at *
 obtain ⟨cS,g1⟩:=R1.ob
 refine hide λu1 e1=>?_
 refine ⟨_,rfl,A.p,cS,_,rfl,g1,aA ..,A,g,st2,bG,_,2,rfl,R1,by lia,R1.few (by lia) hU,λD bs hD pb pw=>⟨D,rfl,⟨_,aG.of Za⟩,?_⟩⟩
 have n64:bs.length<64:=by rw [pb.length_eq]; exact R1.few (by lia) hU
 have eb:=NV pb pw
 have s2:=Zf hD (.lst (bs.map V.int))
 have eD:=Za (H:=G) (a:=D) (o:=.lst (bs.map V.int))
 have R2:=R1.same s2
 have p2:=p1.trans (bM.same s2)
 have nD:=R1.fresh hD
 rw [← eb] at q FT
 generalize upd G D (.lst (bs.map V.int))=G2 at *
 refine PF (K:=K) (a:=D) (xs:=bs.map V.int) (λj σ G'=>∃ (v2 v3 v4:Option V) (os':OS) (s':ao),σ=[some (.ref A.p),v1,v2,v3,v4]/\af K G' A g s' os' (600+2 * j)/\aM g s'/\(∀ h,h<2->(s'.at_ h).seq=[])/\gJ g (bs.drop j) s'=gJ g bs st2/\(bs.drop j).Perm (s'.at_ 2).seq/\bM (OW A os) H G' (OW A os')/\G' D=some (.lst (bs.map V.int))/\¬ OW A os' D)
  ⟨_,_,_,bG,st2,rfl,R2,zS,Uc,rfl,pb,p2,eD,nD⟩ (λj σ G' _ h=>by obtain ⟨_,_,_,_,_,_,_,_,_,_,_,_,e,_⟩:=h; exact aG.of e) ?_ ?_
 .rintro j x σ G3 hx ⟨v2,v3,v4,iG,s',rfl,R3,uI,Gb,e3,sR,p3,Hy,Ga⟩
  obtain ⟨b,AZ,rfl⟩:=IZ hx
  have hj:j<bs.length:=(aK1.mp AZ).1
  have ed:bs.drop j=b :: bs.drop (j+1):=by
   rw [a12 hj]
   congr 1
   exact (aK1.mp AZ).2
  rw [ed] at e3 sR
  have hb:b∈(s'.at_ 2).seq:=sR.mem_iff.mp aq5
  have lS3:=R3.lS
  obtain ⟨_,u2,_,_,_,_⟩:=R3.kq (k:=2) (by lia)
  obtain ⟨bU,bl⟩:=u2 b hb
  obtain ⟨mj,qP⟩:=R3.ob
  obtain ⟨vP,s4⟩:=DQ (o:=b) uI Gb
  have uF:(bs.drop (j+1)).Perm ((eN g b s').at_ 2).seq:=by
   rw [s4,bb9 rfl]
   have:=sR.erase b
   rwa [a7i] at this
  have Ac:∀ h,h<2->((eN g b s').at_ h).seq=[]:=λh hh=>by rw [s4,aYW (by lia)]; exact Gb h hh
  have e4:gJ g (bs.drop (j+1)) (eN g b s')=gJ g bs st2:=e3
  refine gN ?_
  try dsimp only
  refine hide λw1 x1=>?_
  refine ⟨_,rfl,A.p,mj,_,rfl,qP,aA ..,_,rfl,A,g,s',iG,_,2,b,rfl,R3,by lia,hb,by lia,λH4 mL t l et el nl R4 p4=>⟨t,_,rfl,aZ.of et,rfl,_,_,rfl,gN ⟨_,_,rfl,gN ⟨rfl,?_⟩⟩⟩⟩
  subst x1
  try dsimp only
  have wM:=p4.out Hy Ga
  have LO:=p3.trans p4
  unfold eN at vP uF Ac e4
  cases fr:(s'.at_ 2).fr b with
  | true =>
   rw [bb9 fr] at vP uF Ac e4
   obtain ⟨qT,g4⟩:=R4.ob
   refine ⟨_,rfl,_,rfl,fq rfl ⟨_,rfl,A.p,qT,_,rfl,g4,aA ..,_,rfl,A.p,_,qT,_,_,rfl,g4,T.aO,T.sM,vf ..,_,rfl,_,rfl,A,g,_,mL,_,g.n,b,l,_,by rw [ln]; rfl,R4,aDN _,λh=>absurd h (aXl _),bU,el,nl,bl,by lia,λG5 LQ R5 p5=>?_⟩⟩
   have M7:=p5.out wM.1 wM.2
   exact ⟨_,_,_,LQ,_,rfl,R5.le (by lia),vP,Ac,e4,uF,LO.trans p5,M7.1,M7.2⟩
  | false =>
   rw [aYW (by rw [fr]; exact aXI)] at vP uF Ac e4
   exact ⟨_,rfl,_,rfl,cT rfl ⟨_,_,_,mL,_,rfl,R4.le (by lia),vP,Ac,e4,uF,LO,wM.1,wM.2⟩⟩
 .rintro σ G3 ⟨v2,v3,v4,iG,s',rfl,R3,uI,Gb,e3,sR,p3,_⟩
  rw [aUH,List.drop_length] at e3
  have e3:s'=gJ g bs st2:=e3
  subst e3
  rw [aUH] at R3
  subst e1
  try dsimp only
  obtain ⟨mj,qP⟩:=R3.ob
  exact ⟨_,rfl,A.p,mj,_,rfl,qP,aA ..,A,g,_,iG,_,rfl,R3,λe' H4 R4 Ve ne4 p4=>q _ e' iG ⟨R4,FT.gM⟩ Ve (auj R3.rT (by lia)) ne4 (p3.trans p4)⟩
end
theorem Wc {a b s k:Int} (hs:0<s) (k0:0<=k) (k1:k<s) (h1:b * s<=a * s+k) (h2:a * s+k<b * s+s):a=b:=by
 have e1:∀ x y:Int,x+1<=y->x * s+s<=y * s:=λx y h=>by
  have q:=Int.mul_le_mul_of_nonneg_right h (Int.le_of_lt hs)
  rw [Int.add_mul,Int.one_mul] at q
  exact q
 by_cases c:a<b
 .have:=e1 a b c; lia
 .by_cases d:b<a
  .have:=e1 b a d; lia
  .lia
theorem Wt {s:Int} {mem:Int->Int} {b y:Int} {ws:List Int} (hs:0<s) (h:y≠b):aS s (lM s mem b ws) y=aS s mem y:=by
 unfold aS
 refine aoo λk hk=>?_
 have hk:=alC.mp hk
 unfold lM gG
 rw [aYW]
 rintro ⟨h1,h2⟩
 exact h (Wc hs (Int.natCast_nonneg k) (by lia) h1 (by lia))
theorem tU {s:Int} {mem:Int->Int} {b:Int}:(aS s mem b).length=s.toNat:=by unfold aS; rw [aUH,arL]
theorem D7 {s:Int} {mem:Int->Int} {b:Int} {k:Nat} (h:k<s.toNat):(aS s mem b)[k]?=some (mem (b * s+(k:Nat))):=by
 unfold aS
 rw [aJm,aWR h]
 rfl
theorem Bt {s:Int} {mem:Int->Int} {b:Int} {ws:List Int} (h:ws.length=s.toNat):aS s (lM s mem b ws) b=ws:=by
 apply a4b
 intro k
 by_cases c:k<s.toNat
 .rw [D7 c]
  unfold lM gG
  rw [bb9 (by lia),show (b * s+(k:Nat) - b * s).toNat=k by lia,agd,aJu (by lia)]
  rfl
 .rw [aav (by rw [tU]; lia),aav (by lia)]
structure Vw (g:aU) (x:Int) (a b:ao):Prop where
 m:∀ j,x∈(b.at_ j).seq↔x∈(a.at_ j).seq
 w:∀ j,(b.at_ j).wd x=(a.at_ j).wd x
 f:∀ j,(b.at_ j).fr x=(a.at_ j).fr x
 mem:aS g.size b.mem x=aS g.size a.mem x
section
variable {g:aU} {bk:Int->Int} {x y b:Int} {st a c:ao} {k:Nat} {ws:List Int}
theorem Vw.refl:Vw g x st st:=⟨λ_=>Iff.rfl,λ_=>rfl,λ_=>rfl,rfl⟩
theorem Vw.trans {a b c:ao} (p:Vw g x a b) (q:Vw g x b c):Vw g x a c:=⟨λj=>(q.m j).trans (p.m j),λj=>(q.w j).trans (p.w j),λj=>(q.f j).trans (p.f j),q.mem.trans p.mem⟩
theorem w9 {s:Rm} (hm:x∈s.seq↔x∈(st.at_ k).seq) (hw:s.wd x=(st.at_ k).wd x) (hf:s.fr x=(st.at_ k).fr x):Vw g x st (st.set k s):=by
 refine ⟨λj=>?_,λj=>?_,λj=>?_,rfl⟩ <;> rw [oB] <;> split
 .rename_i z; rw [z.1]; exact hm
 .exact Iff.rfl
 .rename_i z; rw [z.1]; exact hw
 .rfl
 .rename_i z; rw [z.1]; exact hf
 .rfl
theorem Vw.tell {a b:ao} {e:List V} (v:Vw g x a b):Vw g x a (b.tell e):=⟨v.m,v.w,v.f,v.mem⟩
theorem Bk (hs:0<g.size) (h:x≠b):Vw g x st (bz g k b ws st):=by
 unfold bz
 split
 .exact ⟨λ_=>Iff.rfl,λ_=>rfl,λ_=>rfl,Wt hs h⟩
 .exact (w9 (s:=jE (st.at_ k) b ws) Iff.rfl (by show (if x=b then ws else _)=_; rw [aYW h]) rfl).tell
theorem O8 (h:x≠b):Vw g x st (o7 k b st):=w9 (s:=ym (st.at_ k) b) Iff.rfl rfl (by show (if x=b then true else _)=_; rw [aYW h])
theorem OF (h:x≠b):Vw g x st (bY k b ws st) :=
 (w9 (s:=Au (st.at_ k) b ws) (by show x∈_++[b]↔_; rw [mem_append,mem_singleton]; exact ⟨λq=>q.resolve_right h,.inl⟩) (by show (if x=b then ws else _)=_; rw [aYW h]) rfl).tell
theorem gf (h:x≠b):Vw g x st (cR k b st) :=
 ((Vw.refl (st:=st)).tell (e:=eO k b)).trans (w9 (st:=st.tell (eO k b)) (s:=jV (st.at_ k) b) (mem_erase_of_ne h) rfl (by show (if x=b then false else _)=_; rw [aYW h]; rfl))
def qX (bk:Int->Int) (sp v:Int):Int->Int:=λs=>if s=sp then v else bk s
theorem Bb {sp v:Int} (hs:0<g.size) (h:y≠sp / g.size):aS g.size (qX bk sp v) y=aS g.size bk y:=by
 unfold aS
 refine aoo λk hk=>?_
 have hk:=alC.mp hk
 unfold qX
 rw [aYW]
 intro z
 apply h
 rw [← z,Int.add_comm,aC0 _ _ (by lia),aKc (Int.natCast_nonneg k) (by lia),Int.zero_add]
theorem Bc {sp v:Int} (hs:0<g.size):aS g.size (qX bk sp v) (sp / g.size)=(aS g.size bk (sp / g.size)).set (sp % g.size).toNat v:=by
 have m0:0<=sp % g.size:=aA2 _ (by lia)
 have m1:sp % g.size<g.size:=aUu _ hs
 have dm:=am9 sp g.size
 rw [Int.mul_comm] at dm
 apply a4b
 intro k
 by_cases c:k<g.size.toNat
 .rw [D7 c]
  by_cases d:k=(sp % g.size).toNat
  .rw [← d,bb6 (by rw [tU]; exact c)]
   unfold qX
   rw [bb9 (by lia)]
  .rw [aP2 (aI4 d),D7 c]
   unfold qX
   rw [aYW (by lia)]
 .rw [aav (by rw [tU]; lia),aav (by rw [aZE,tU]; lia)]
theorem IM {sp:Int} (hs:0<g.size):(aS g.size bk (sp / g.size)).getD (sp % g.size).toNat 0=bk sp:=by
 have m0:0<=sp % g.size:=aA2 _ (by lia)
 have m1:sp % g.size<g.size:=aUu _ hs
 have dm:=am9 sp g.size
 rw [Int.mul_comm] at dm
 rw [agd,D7 (by lia)]
 show bk _=_
 congr 1
 lia
end
structure Lw (g:aU) (bk:Int->Int) (x:Int) (st:ao):Prop where
 nr:∀ h,h<2->x∈(st.at_ h).seq->(st.at_ h).wd x=aS g.size bk x
 fa:x∈(st.at_ 2).seq->(∀ h,h<2->(st.at_ h).fr x=false)->(st.at_ 2).wd x=aS g.size bk x
 me:(∀ h,h<3->(st.at_ h).fr x=false)->aS g.size st.mem x=aS g.size bk x
structure Dn (g:aU) (bk:Int->Int) (x:Int) (st:ao):Prop where
 nr:∀ h,h<2->x∈(st.at_ h).seq->(st.at_ h).wd x=aS g.size bk x
 fa:(st.at_ 2).wd x=aS g.size bk x
 me:(st.at_ 2).fr x=true\/aS g.size st.mem x=aS g.size bk x
theorem Dn.lw {g:aU} {bk:Int->Int} {x:Int} {st:ao} (d:Dn g bk x st):Lw g bk x st:=⟨d.nr,λ_ _=>d.fa,λf=>d.me.elim (λz=>by rw [f 2 (by lia)] at z; cases z) id⟩
theorem Vw.lw {g:aU} {bk:Int->Int} {x:Int} {a b:ao} (v:Vw g x a b) (l:Lw g bk x a):Lw g bk x b :=
 ⟨λh hh m=>(v.w h).trans (l.nr h hh ((v.m h).mp m)),λm f=>(v.w 2).trans (l.fa ((v.m 2).mp m) λh hh=>(v.f h).symm.trans (f h hh)),λf=>v.mem.trans (l.me λh hh=>(v.f h).symm.trans (f h hh))⟩
section
variable {g:aU} {bk:Int->Int} {x b o:Int} {st:ao} {h k:Nat} {ws:List Int}
theorem aM.nf (w:aM g st) (n:x∉(st.at_ k).seq):(st.at_ k).fr x=false:=by
 cases e:(st.at_ k).fr x with
 | false=>rfl
 | true=>exact absurd (w.ff k x e) n
theorem DP (hs:0<g.size) (n:x≠b):Vw g x st (bD g b ws st):=by
 unfold bD
 split
 .exact (Bk hs n).trans (O8 n)
 .exact (Bk hs n).trans (Bk hs n)
theorem IL (w:aM g st) (nr:∀ h,h<2->x∈(st.at_ h).seq->(st.at_ h).wd x=aS g.size bk x):Dn g bk x (bD g x (aS g.size bk x) st):=by
 have hl:2<st.rm.length:=by rw [w.len]; lia
 have g3:=w.n3
 have p2:(bz g 2 x (aS g.size bk x) st).at_ 2=jE (st.at_ 2) x (aS g.size bk x):=by
  unfold bz
  rw [aYW (by lia),xj,ao.bL hl,bb9 rfl]
 have pl:(bz g 2 x (aS g.size bk x) st).rm.length=st.rm.length:=cH.len
 have l2:(jE (st.at_ 2) x (aS g.size bk x)).wd x=aS g.size bk x:=bb9 rfl
 refine ⟨λh hh m=>?_,?_,?_⟩
 .rw [Pc (by lia)] at m ⊢
  exact nr h hh m
 .unfold bD
  split
  .unfold o7
   rw [ao.bL (by rw [pl]; exact hl),bb9 rfl,p2]
   exact l2
  .rw [uE rfl,p2]
   exact l2
 .unfold bD
  split
  .refine .inl ?_
   unfold o7
   rw [ao.bL (by rw [pl]; exact hl),bb9 rfl]
   exact bb9 rfl
  .refine .inr ?_
   have e:(bz g g.n x (aS g.size bk x) (bz g 2 x (aS g.size bk x) st)).mem=lM g.size (bz g 2 x (aS g.size bk x) st).mem x (aS g.size bk x):=by
    show (if g.n=g.n then _ else _:ao).mem=_
    rw [bb9 rfl]; rfl
   rw [e]
   exact Bt tU
theorem Ad (w:aM g st) (hh:h<2) (f:(st.at_ h).fr x=false) (l:Lw g bk x st):Lw g bk x (cR h x st):=by
 have hl:h<st.rm.length:=by rw [w.len]; lia
 have ne:∀ j,j≠h->(cR h x st).at_ j=st.at_ j:=λj n=>by rw [iu hl,aYW n]
 have hf:∀ j,(st.at_ j).fr x=((cR h x st).at_ j).fr x:=λj=>by
  by_cases c:j=h
  .rw [c,iu hl,bb9 rfl,f]; exact (bb9 rfl).symm
  .rw [ne j c]
 refine ⟨λk hk m=>?_,λm q=>?_,λq=>l.me λk hk=>(hf k).trans (q k hk)⟩
 .by_cases c:k=h
  .rw [c,bH hl,bb9 rfl] at m
   exact absurd rfl ((w.nd h).mem_erase_iff.mp m).1
  .rw [ne k c] at m ⊢
   exact l.nr k hk m
 .rw [ne 2 (by lia)] at m ⊢
  exact l.fa m λk hk=>(hf k).trans (q k hk)
theorem Qj (hs:0<g.size) (w:aM g st) (hh:h<2) (ho:o∈(st.at_ h).seq) (l:Lw g bk x st):Lw g bk x (aK g h o st):=by
 have hl:h<st.rm.length:=by rw [w.len]; lia
 by_cases c:x=o
 .subst c
  unfold aK
  split
  .rw [l.nr h hh ho]
   refine (IL (w.go hh) λk hk m=>?_).lw
   by_cases e:k=h
   .rw [e,bH hl,bb9 rfl] at m
    exact absurd rfl ((w.nd h).mem_erase_iff.mp m).1
   .rw [iu hl,aYW e] at m ⊢
    exact l.nr k hk m
  .rename_i f
   exact Ad w hh (by simpa using f) l
 .unfold aK
  split
  .exact ((gf c).trans (DP hs c)).lw l
  .exact (gf c).lw l
theorem OE (n:x≠o) {p:ao×List Int×Bool}:Vw g x p.1 (cu h o p).1:=by
 unfold cu
 split
 .split
  .exact gf n
  .exact gf n
 .exact Vw.refl
theorem O7 {p:ao×List Int×Bool} (ff:(p.1.at_ h).fr o=true->o∈(p.1.at_ h).seq):(cu h o p).2=if (p.1.at_ h).fr o=true then ((p.1.at_ h).wd o,true) else p.2:=by
 unfold cu
 by_cases c:(p.1.at_ h).fr o=true
 .rw [bb9 (ff c),bb9 c,bb9 c]
 .rw [aYW c,aYW c]
  split <;> rfl
theorem Yc {p:ao×List Int×Bool} {j:Nat} (n:j≠h) (hl:h<p.1.rm.length):(cu h o p).1.at_ j=p.1.at_ j:=by
 unfold cu
 split
 .split
  .show (cR h o p.1).at_ j=_
   rw [iu hl,aYW n]
  .show (cR h o p.1).at_ j=_
   rw [iu hl,aYW n]
 .rfl
theorem Ws (w:aM g st):(ic o st).2=if (st.at_ 1).fr o=true then ((st.at_ 1).wd o,true) else if (st.at_ 0).fr o=true then ((st.at_ 0).wd o,true) else ((st.at_ 2).wd o,(st.at_ 2).fr o):=by
 have l3:=w.len
 have g0:∀ j,j≠2->(cR 2 o st).at_ j=st.at_ j:=λj n=>by rw [iu (by lia),aYW n]
 have a0:=O7 (h:=0) (o:=o) (p:=(cR 2 o st,(st.at_ 2).wd o,(st.at_ 2).fr o)) (λz=>by
  have z:((cR 2 o st).at_ 0).fr o=true:=z
  show o∈((cR 2 o st).at_ 0).seq
  rw [g0 0 (by lia)] at z ⊢
  exact w.ff 0 o z)
 have e1:((cu 0 o (cR 2 o st,(st.at_ 2).wd o,(st.at_ 2).fr o)).1).at_ 1=st.at_ 1:=by
  rw [Yc (by lia) (by show 0<(cR 2 o st).rm.length; rw [gH]; lia)]
  exact g0 1 (by lia)
 have a1:=O7 (h:=1) (o:=o) (p:=cu 0 o (cR 2 o st,(st.at_ 2).wd o,(st.at_ 2).fr o)) (λz=>by
  rw [e1] at z ⊢
  exact w.ff 1 o z)
 unfold ic
 rw [a1,e1,a0]
 show _=_
 rw [g0 0 (by lia)]
theorem NT (n:x≠o):Vw g x st (ic o st).1:=by
 unfold ic
 exact (gf n).trans ((OE (p:=(cR 2 o st,(st.at_ 2).wd o,(st.at_ 2).fr o)) n).trans (OE n))
theorem NR {p:ao×List Int×Bool}:(cu h o p).1.mem=p.1.mem:=by
 unfold cu
 split
 .split <;> rfl
 .rfl
theorem YB (hs:0<g.size) (w:aM g st) (ho:o∈(st.at_ 2).seq) (l:Lw g bk x st):Lw g bk x (ku g o st):=by
 by_cases c:x=o
 .subst c
  have sn:=Ws (o:=x) w
  have s:=gb (g:=g) (o:=x) (st:=st)
  have no:∀ j,j<3->x∉((ku g x st).at_ j).seq:=λj hj z=>by
   rw [s.sq,(Dw w.len).2.1,bb9 hj] at z
   exact ((w.nd j).mem_erase_iff.mp z).1 rfl
  refine ⟨λh hh m=>absurd m (no h (by lia)),λm=>absurd m (no 2 (by lia)),λ_=>?_⟩
  have ml:(ic x st).1.mem=st.mem:=by unfold ic; rw [NR,NR]; rfl
  by_cases f1:(st.at_ 1).fr x=true
  .rw [bb9 f1] at sn
   have e:ku g x st=bz g g.n x ((st.at_ 1).wd x) (ic x st).1:=by unfold ku; rw [sn,bb9 rfl]
   rw [e,l.nr 1 (by lia) (w.ff 1 x f1)]
   unfold bz
   rw [bb9 rfl]
   exact Bt tU
  .rw [aYW f1] at sn
   by_cases f0:(st.at_ 0).fr x=true
   .rw [bb9 f0] at sn
    have e:ku g x st=bz g g.n x ((st.at_ 0).wd x) (ic x st).1:=by unfold ku; rw [sn,bb9 rfl]
    rw [e,l.nr 0 (by lia) (w.ff 0 x f0)]
    unfold bz
    rw [bb9 rfl]
    exact Bt tU
   .rw [aYW f0] at sn
    have nf:∀ h,h<2->(st.at_ h).fr x=false:=λh hh=>by
     rcases (show h=0\/h=1 by lia) with rfl | rfl
     .simpa using f0
     .simpa using f1
    cases f2:(st.at_ 2).fr x with
    | true =>
     have e:ku g x st=bz g g.n x ((st.at_ 2).wd x) (ic x st).1:=by unfold ku; rw [sn,bb9 f2]
     rw [e,l.fa ho nf]
     unfold bz
     rw [bb9 rfl]
     exact Bt tU
    | false =>
     have e:ku g x st=(ic x st).1:=by unfold ku; rw [sn,aYW (by show ¬ (st.at_ 2).fr x=true; rw [f2]; exact aXI)]
     rw [e,ml]
     exact l.me λh hh=>by
      by_cases q:h<2
      .exact nf h q
      .rw [show h=2 by lia]; exact f2
 .unfold ku
  split
  .exact ((NT c).trans (Bk hs c)).lw l
  .exact (NT c).lw l
theorem NQ (hb:b∈(st.at_ k).seq) {e:List V}:Vw g x st ((st.tell e).set k (gQ (g.cf k) (st.at_ k) b)) :=
 ((Vw.refl (st:=st)).tell (e:=e)).trans (w9 (st:=st.tell e) (s:=gQ (g.cf k) (st.at_ k) b) (xh hb).mem_iff rfl rfl)
theorem Yb (hs:0<g.size) (w:aM g st) (l:Lw g bk x st):Lw g bk x (roomF g b st):=by
 unfold roomF
 split
 .exact l
 .rename_i o e
  exact YB hs w (vm e).1 l
theorem X8 (hs:0<g.size) (w:aM g st) (hh:h<2) (l:Lw g bk x st):Lw g bk x (aL g h b st):=by
 unfold aL
 split
 .exact l
 .rename_i o e
  exact Qj hs w hh (vm e).1 l
theorem Wq (hs:0<g.size) (w:aM g st) (l:Lw g bk x st):Lw g bk x (fz g b st):=by
 unfold fz
 split
 .rename_i hb
  exact (NQ hb).lw l
 .rename_i hb
  have w1:=w.sq (DY (e:=eF g.n))
  have l1:Lw g bk x (roomF g b (st.tell (eF g.n))):=Yb hs w1 (((Vw.refl (st:=st)).tell (e:=eF g.n)).lw l)
  obtain ⟨w2,sub⟩:=w1.roomF (b:=b)
  have hl:2<(roomF g b (st.tell (eF g.n))).rm.length:=by rw [w2.len]; lia
  have n2:b∉((roomF g b (st.tell (eF g.n))).at_ 2).seq:=λz=>hb (sub 2 b z)
  generalize roomF g b (st.tell (eF g.n))=s at *
  by_cases c:x=b
  .subst c
   have nh:∀ h,h<3->x∉(s.at_ h).seq:=λh hh z=>by
    by_cases q:h<2
    .exact n2 (w2.inc h x q z)
    .exact n2 (by rw [show h=2 by lia] at z; exact z)
   have me:=l1.me λh hh=>w2.nf (nh h hh)
   refine ⟨λh hh m=>?_,λ_ _=>?_,λ_=>me⟩
   .rw [pA hl,aYW (by lia)] at m
    exact absurd m (nh h (by lia))
   .unfold bY
    rw [xj,ao.bL hl,bb9 rfl]
    exact (bb9 rfl:(if x=x then _ else _)=_).trans me
  .exact (OF c).lw l1
theorem Xk (hs:0<g.size) (w:aM g st) (hh:h<2) (l:Lw g bk x st):Lw g bk x (cV g h b st)/\((cV g h b st).at_ h).fr b=false:=by
 have hl:h<st.rm.length:=by rw [w.len]; lia
 unfold cV
 split
 .rename_i f
  have dl:(bD g b ((st.at_ h).wd b) st).rm.length=st.rm.length:=by
   unfold bD
   split
   .exact eE.trans cH.len
   .exact cH.len.trans cH.len
  refine ⟨?_,by rw [ao.bL (by rw [dl]; exact hl),bb9 rfl]; exact bb9 rfl⟩
  by_cases c:x=b
  .subst c
   rw [l.nr h hh (w.ff h x f)] at dl ⊢
   have d:=IL (bk:=bk) w l.nr
   generalize bD g x (aS g.size bk x) st=s at *
   have ne:∀ j,j≠h->(s.set h (jy (s.at_ h) x)).at_ j=s.at_ j:=λj n=>by rw [oB,aYW λz=>n z.1]
   refine Dn.lw ⟨λk hk m=>?_,by rw [ne 2 (by lia)]; exact d.fa,by rw [ne 2 (by lia)]; exact d.me⟩
   by_cases e:k=h
   .rw [e,ao.bL (by rw [dl]; exact hl),bb9 rfl] at m ⊢
    exact d.nr h hh m
   .rw [ne k e] at m ⊢
    exact d.nr k hk m
  .exact ((DP hs c).trans (w9 (s:=jy _ b) Iff.rfl rfl (by show (if x=b then false else _)=_; rw [aYW c]))).lw l
 .rename_i f
  exact ⟨l,by simpa using f⟩
theorem Xj (hs:0<g.size) (w:aM g st) (hh:h<2) (hb:b∉(st.at_ h).seq) (h2:b∈(st.at_ 2).seq) (fo:(st.at_ (1 - h)).fr b=false) (l:Lw g bk x st):Lw g bk x (ir g h b st):=by
 unfold ir
 have l1:=X8 (b:=b) hs w hh l
 obtain ⟨w1,sub,LP⟩:=w.aL (b:=b) hh
 have hl:h<(aL g h b st).rm.length:=by rw [w1.len]; lia
 by_cases c:x=b
 .subst c
  have v:Vw g x st (aL g h x st):=by
   unfold aL
   split
   .exact Vw.refl
   .rename_i o e
    have n:x≠o:=λz=>hb (z ▸ (vm e).1)
    unfold aK
    split
    .exact (gf n).trans (DP hs n)
    .exact gf n
  have nf:∀ k,k<2->((aL g h x st).at_ k).fr x=false:=λk hk=>by
   rw [v.f]
   by_cases e:k=h
   .rw [e]; exact w.nf hb
   .rw [show k=1 - h by lia]; exact fo
  have b2:x∈((aL g h x st).at_ 2).seq:=(v.m 2).mpr h2
  generalize aL g h x st=s at *
  have fa:=l1.fa b2 nf
  have ne:∀ j,j≠h->(bY h x ((s.at_ 2).wd x) s).at_ j=s.at_ j:=λj n=>by unfold bY; rw [xj,oB,aYW λz=>n z.1]
  refine ⟨λk hk m=>?_,λ_ _=>by rw [ne 2 (by lia)]; exact fa,λf=>l1.me λk hk=>by rw [← IQ (k:=h) (b:=x) (ws:=(s.at_ 2).wd x)]; exact f k hk⟩
  by_cases e:k=h
  .rw [e]
   unfold bY
   rw [xj,ao.bL hl,bb9 rfl]
   exact (bb9 rfl:(if x=x then _ else _)=_).trans fa
  .rw [ne k e] at m ⊢
   exact l1.nr k hk m
 .exact (OF c).lw l1
theorem IK (hs:0<g.size) (w:aM g st) (hh:h<2) (l:Lw g bk x st):Lw g bk x (bQ g h b st):=by
 unfold bQ
 split
 .rename_i hb
  exact (NQ hb).lw l
 .rename_i hb
  obtain ⟨w1,m2,sub⟩:=w.fz (b:=b)
  have s:=IS (g:=g) (h:=1 - h) m2
  obtain ⟨l2,f2⟩:=Xk (b:=b) (h:=1 - h) hs w1 (by lia) (Wq (b:=b) hs w l)
  exact Xj hs (w1.sq s) hh (λz=>hb (sub h hh b (by rw [s.sq] at z; exact z))) (by rw [s.sq]; exact m2) f2 l2
theorem YA {sp:Int} (hs:0<g.size) (w:aM g st) (hh:h<2) (l:Lw g bk (sp / g.size) st):ju g ((bQ g h (sp / g.size) st).at_ h) sp=bk sp:=by
 have q:=(IK (b:=sp / g.size) hs w hh l).nr h hh (w.bQ hh).2
 unfold ju
 rw [q,IM hs]
theorem Wa {sp v:Int} (hs:0<g.size) (w:aM g st) (hh:h<2) (l:∀ x,Lw g bk x st):Lw g (qX bk sp v) x (jS g h sp v st):=by
 unfold jS
 obtain ⟨w1,m1⟩:=w.bQ (b:=sp / g.size) hh
 have l1:=λx=>IK (x:=x) (b:=sp / g.size) hs w hh (l x)
 generalize bQ g h (sp / g.size) st=s1 at *
 obtain ⟨w2,q2⟩:=w1.bP (b:=sp / g.size) hh
 have m2:sp / g.size∈((bP h (sp / g.size) s1).at_ h).seq:=by rw [q2]; exact m1
 by_cases c:x=sp / g.size
 .have EG:((bP h (sp / g.size) s1).at_ h).wd (sp / g.size)=aS g.size bk (sp / g.size)/\sp / g.size∉((bP h (sp / g.size) s1).at_ (1 - h)).seq:=by
   unfold bP
   split
   .have hl:1 - h<s1.rm.length:=by rw [w1.len]; lia
    refine ⟨by rw [iu hl,aYW (by lia)]; exact (l1 _).nr h hh m1,λz=>?_⟩
    rw [bH hl,bb9 rfl] at z
    exact ((w1.nd _).mem_erase_iff.mp z).1 rfl
   .rename_i n
    exact ⟨(l1 _).nr h hh m1,n⟩
  generalize bP h (sp / g.size) s1=s2 at *
  obtain ⟨EG,T3⟩:=EG
  have hl:h<s2.rm.length:=by rw [w2.len]; lia
  have w3:aM g (s2.set h (kG g (s2.at_ h) sp v)):=w2.sq (yq (s:=kG g (s2.at_ h) sp v) rfl λ_ z=>.inl z)
  have Lx:((s2.set h (kG g (s2.at_ h) sp v)).at_ h).wd (sp / g.size)=aS g.size (qX bk sp v) (sp / g.size):=by
   rw [ao.bL hl,bb9 rfl,Bc hs,← EG]
   exact bb9 rfl
  have Fo:∀ j,((s2.set h (kG g (s2.at_ h) sp v)).at_ j).seq=(s2.at_ j).seq:=λj=>HN rfl
  have FZ:∀ k,k<2->sp / g.size∈((s2.set h (kG g (s2.at_ h) sp v)).at_ k).seq->((s2.set h (kG g (s2.at_ h) sp v)).at_ k).wd (sp / g.size)=aS g.size (qX bk sp v) (sp / g.size):=λk hk m=>by
   by_cases e:k=h
   .rw [e]; exact Lx
   .rw [show k=1 - h by lia,Fo] at m
    exact absurd m T3
  have hl3:h<(s2.set h (kG g (s2.at_ h) sp v)).rm.length:=by rw [w3.len]; lia
  dsimp only
  rw [c]
  generalize s2.set h (kG g (s2.at_ h) sp v)=s3 at *
  unfold markB
  split
  .have ft:((o7 h (sp / g.size) s3).at_ h).fr (sp / g.size)=true:=by
    unfold o7
    rw [ao.bL hl3,bb9 rfl]
    exact bb9 rfl
   refine ⟨λk hk m=>?_,λ_ f=>(by rw [f h hh] at ft; cases ft),λf=>(by rw [f h (by lia)] at ft; cases ft)⟩
   unfold o7 at m ⊢
   by_cases e:k=h
   .rw [e] at m ⊢
    rw [ao.bL hl3,bb9 rfl] at m ⊢
    exact FZ h hh m
   .rw [ao.bL hl3,aYW e] at m ⊢
    exact FZ k hk m
  .rw [Lx]
   exact (IL w3 FZ).lw
 .have vv:Vw g x s1 (markB g h (sp / g.size) ((bP h (sp / g.size) s1).set h (kG g ((bP h (sp / g.size) s1).at_ h) sp v))):=by
   have v1:Vw g x s1 (bP h (sp / g.size) s1):=by
    unfold bP
    split
    .exact gf c
    .exact Vw.refl
   have v2:Vw g x s1 ((bP h (sp / g.size) s1).set h (kG g ((bP h (sp / g.size) s1).at_ h) sp v)):=v1.trans (w9 (s:=kG g _ sp v) Iff.rfl (by show (if x=sp / g.size then _ else _)=_; rw [aYW c]) rfl)
   unfold markB
   split
   .exact v2.trans (O8 c)
   .exact v2.trans (DP hs c)
  have q:=vv.lw (l1 x)
  have e:=Bb (g:=g) (bk:=bk) (v:=v) hs c
  exact ⟨λk hk m=>by rw [e]; exact q.nr k hk m,λm f=>by rw [e]; exact q.fa m f,λf=>by rw [e]; exact q.me f⟩
theorem Lw.gM (l:Lw g bk x st):Lw g bk x (gM st):=⟨l.nr,l.fa,l.me⟩
theorem Xi (hs:0<g.size) (w:aM g st) (n0:∀ h,h<2->(st.at_ h).seq=[]) (ho:o∈(st.at_ 2).seq) (l:Lw g bk x st):Lw g bk x (eN g o st):=by
 have hl:2<st.rm.length:=by rw [w.len]; lia
 obtain ⟨_,s⟩:=DQ (o:=o) w n0
 by_cases c:x=o
 .subst c
  have no:∀ j,j<3->x∉((eN g x st).at_ j).seq:=λj hj z=>by
   rw [s] at z
   split at z
   .exact ((w.nd j).mem_erase_iff.mp z).1 rfl
   .rw [n0 j (by lia)] at z; cases z
  refine ⟨λh hh m=>absurd m (no h (by lia)),λm=>absurd m (no 2 (by lia)),λ_=>?_⟩
  have nf:∀ h,h<2->(st.at_ h).fr x=false:=λh hh=>w.nf (by rw [n0 h hh]; simp)
  unfold eN
  cases f2:(st.at_ 2).fr x with
  | true =>
   rw [bb9 rfl,l.fa ho nf]
   unfold bz
   rw [bb9 rfl]
   exact Bt tU
  | false =>
   rw [aYW aXI]
   exact l.me λh hh=>by
    by_cases q:h<2
    .exact nf h q
    .rw [show h=2 by lia]; exact f2
 .unfold eN
  split
  .exact ((gf c).trans (Bk hs c)).lw l
  .exact (gf c).lw l
theorem OD (hs:0<g.size) (hh:h<2):∀ {bs:List Int} {st:ao},aM g st->bs.Perm (st.at_ h).seq->Lw g bk x st->Lw g bk x (gK g h bs st)
 | [],st,_,_,l=>l
 | b :: bs,st,w,p,l=>by
  have hb:b∈(st.at_ h).seq:=p.mem_iff.mp aq5
  obtain ⟨w1,s1⟩:=w.aK hh hb
  refine OD hs hh (bs:=bs) w1 ?_ (Qj hs w hh hb l)
  rw [s1,bb9 rfl]
  have:=p.erase b
  rwa [a7i] at this
theorem OC (hs:0<g.size) (w:aM g st) (l:Lw g bk x st):∀ {k:Nat},k<=2->Lw g bk x (bg g st k)
 | 0,_=>l
 | k+1,hk=>OD hs (by lia) (w.bg (k:=k) (by lia)).1 cG (OC hs w l (k:=k) (by lia))
theorem OB (hs:0<g.size):∀ {bs:List Int} {st:ao},aM g st->(∀ h,h<2->(st.at_ h).seq=[])->bs.Perm (st.at_ 2).seq->Lw g bk x st->Lw g bk x (gJ g bs st)
 | [],st,_,_,_,l=>l
 | b :: bs,st,w,n0,p,l=>by
  have hb:b∈(st.at_ 2).seq:=p.mem_iff.mp aq5
  obtain ⟨w1,s1⟩:=DQ (o:=b) w n0
  refine OB hs (bs:=bs) w1 (λh hh=>by rw [s1,aYW (by lia)]; exact n0 h hh) ?_ (Xi hs w n0 hb l)
  rw [s1,bb9 rfl]
  have:=p.erase b
  rwa [a7i] at this
theorem DO (hs:0<g.size) (w:aM g st) (l:Lw g bk x st):Lw g bk x (cU g st):=by
 obtain ⟨w1,s1⟩:=w.bg (k:=2) (aDN _)
 exact OB hs w1 (λh hh=>by rw [s1,bb9 hh]) cG (OC hs w l (aDN _))
theorem IB (hs:0<g.size) (w:aM g st) (l:∀ x,Lw g bk x st) (sp:Int):(cU g st).mem sp=bk sp:=by
 obtain ⟨w1,s1⟩:=IP w
 have e:=(DO hs w (l (sp / g.size))).me λh hh=>w1.nf (by rw [s1 h hh]; simp)
 rw [← IM (g:=g) (bk:=bk) (sp:=sp) hs,← e,IM hs]
theorem Xh (g3:g.n=3):aM g (pB 3)/\∀ x,Lw g (λ_=>0) x (pB 3):=by
 have e:∀ j,(pB 3).at_ j=m9:=λj=>by
  unfold pB ao.at_
  rw [agd,aV2]
  split <;> rfl
 refine ⟨⟨g3,asY ..,λj=>by rw [e]; exact nodup_nil,λh x _ hx=>(by rw [e] at hx; cases hx),λj x h=>(by rw [e] at h; cases h)⟩,λx=>⟨λh _ m=>(by rw [e] at m; cases m),λm _=>(by rw [e] at m; cases m),λ_=>rfl⟩⟩
end
def jo (s t:Rm):Prop:=s.seq=t.seq/\(∀ x∈s.seq,s.us x=t.us x)/\∀ x,s.fr x=t.fr x
structure Sm (a b:ao):Prop where
 len:a.rm.length=b.rm.length
 ev:a.ev=b.ev
 at_:∀ k,jo (a.at_ k) (b.at_ k)
section
variable {g:aU} {a b:ao} {o:Int} {k h:Nat} {ws vs:List Int} {s t:Rm}
theorem Sm.set (h:Sm a b) (r:jo s t):Sm (a.set k s) (b.set k t):=by
 refine ⟨eE.trans (h.len.trans eE.symm),h.ev,λj=>?_⟩
 rw [oB,oB,h.len]
 split
 .exact r
 .exact h.at_ j
theorem Sm.tell (h:Sm a b) {e:List V}:Sm (a.tell e) (b.tell e):=⟨h.len,by show a.ev++_=b.ev++_; rw [h.ev],h.at_⟩
theorem Sm.gM (h:Sm a b):Sm (gM a) (gM b):=⟨h.len,rfl,h.at_⟩
theorem jo.lay (h:jo s t):jo (jE s o ws) (jE t o vs):=⟨h.1,h.2.1,h.2.2⟩
theorem jo.out (h:jo s t):jo (jV s o) (jV t o):=by
 refine ⟨by show s.seq.erase o=t.seq.erase o; rw [h.1],λx hx=>h.2.1 x (afd hx),λx=>?_⟩
 show (if x=o then false else s.fr x)=if x=o then false else t.fr x
 rw [h.2.2]
theorem jo.UA (h:jo s t):jo (Au s o ws) (Au t o vs):=by
 refine ⟨by show s.seq++[o]=t.seq++[o]; rw [h.1],λx hx=>?_,h.2.2⟩
 show zero s.us o x=zero t.us o x
 unfold zero
 by_cases c:x=o
 .rw [bb9 c,bb9 c]
 .rw [aYW c,aYW c]
  rcases ais.mp hx with hx | hx
  .exact h.2.1 x hx
  .exact absurd (a60.mp hx) c
theorem jo.frs (h:jo s t):jo (ym s o) (ym t o):=by
 refine ⟨h.1,h.2.1,λx=>?_⟩
 show (if x=o then true else s.fr x)=if x=o then true else t.fr x
 rw [h.2.2]
theorem jo.use {c:Cf} (h:jo s t) (ho:o∈s.seq):jo (gQ c s o) (gQ c t o):=by
 refine ⟨by unfold gQ; dsimp only; rw [h.1],λx hx=>?_,h.2.2⟩
 have hx:x∈s.seq:=(xh ho).mem_iff.mp hx
 show bump s.us o x=bump t.us o x
 unfold bump
 by_cases c:x=o
 .rw [bb9 c,bb9 c,h.2.1 o ho]
 .rw [aYW c,aYW c]
  exact h.2.1 x hx
theorem O6 {c:Cf} (h:jo s t) {x:Option Int} (q:cC c.ru s.us c.pl (Zn c.sh (o % c.sh) s.seq) x):cC c.ru t.us c.pl (Zn c.sh (o % c.sh) t.seq) x:=by
 rw [← h.1]
 refine ⟨q.1,λl=>?_⟩
 obtain ⟨y,rest,e,po,pw,ne⟩:=q.2 l
 refine ⟨y,rest,e,po,λf=>(pw f).imp_of_mem λ{a b} ha hb z=>?_,ne⟩
 have sub:∀ z∈y :: rest,z∈s.seq:=λz hz=>(bf.mp (po.mem_iff.mp hz)).1
 unfold sy at z ⊢
 rw [h.2.1 a (sub a ha),h.2.1 b (sub b hb)] at z
 exact z
theorem jo.symm (h:jo s t):jo t s:=⟨h.1.symm,λx hx=>(h.2.1 x (h.1 ▸ hx)).symm,λx=>(h.2.2 x).symm⟩
theorem OA {c:Cf} (h:jo s t):bX c s o=bX c t o:=by
 by_cases e:∃ g,cC c.ru s.us c.pl (Zn c.sh (o % c.sh) s.seq) g
 .obtain ⟨x,q⟩:=e
  rw [Jp q,Jp (O6 h q)]
 .have e2:¬ ∃ g,cC c.ru t.us c.pl (Zn c.sh (o % c.sh) t.seq) g:=λ⟨x,q⟩=>e ⟨x,O6 h.symm q⟩
  unfold bX
  rw [dif_neg e,dif_neg e2]
theorem Bj (h:Sm a b):Sm (bz g k o ws a) (bz g k o vs b):=by
 unfold bz
 split
 .exact ⟨h.len,by show a.ev++_=b.ev++_; rw [h.ev],h.at_⟩
 .exact (h.set (h.at_ k).lay).tell
theorem O4 (h:Sm a b):Sm (o7 k o a) (o7 k o b):=h.set (h.at_ k).frs
theorem iR (h:Sm a b):Sm (cR k o a) (cR k o b):=h.tell.set (h.at_ k).out
theorem Oz (h:Sm a b):Sm (bY k o ws a) (bY k o vs b):=(h.set (h.at_ k).UA).tell
theorem jo.Fv (h:jo s t):jo (jy s o) (jy t o):=by
 refine ⟨h.1,h.2.1,λx=>?_⟩
 show (if x=o then false else s.fr x)=if x=o then false else t.fr x
 rw [h.2.2]
theorem IA (h:Sm a b):Sm (bD g o ws a) (bD g o vs b):=by
 unfold bD
 split
 .exact O4 (Bj h)
 .exact Bj (Bj h)
theorem Qi (q:Sm a b):Sm (aK g h o a) (aK g h o b):=by
 unfold aK
 rw [(q.at_ h).2.2]
 split
 .exact IA (iR q)
 .exact iR q
theorem Ox {p r:ao×List Int×Bool} (q:Sm p.1 r.1) (e:p.2.2=r.2.2):Sm (cu h o p).1 (cu h o r).1/\(cu h o p).2.2=(cu h o r).2.2:=by
 unfold cu
 rw [(q.at_ h).1,(q.at_ h).2.2]
 split
 .split
  .exact ⟨iR q,rfl⟩
  .exact ⟨iR q,e⟩
 .exact ⟨q,e⟩
theorem Yz (q:Sm a b):Sm (ku g o a) (ku g o b):=by
 obtain ⟨h1,h2⟩:=Ox (h:=0) (o:=o) (p:=(cR 2 o a,(a.at_ 2).wd o,(a.at_ 2).fr o)) (r:=(cR 2 o b,(b.at_ 2).wd o,(b.at_ 2).fr o)) (iR q) ((q.at_ 2).2.2 o)
 obtain ⟨h3,h4⟩:=Ox (h:=1) (o:=o) h1 h2
 have h3:Sm (ic o a).1 (ic o b).1:=h3
 have h4:(ic o a).2.2=(ic o b).2.2:=h4
 unfold ku
 rw [h4]
 split
 .exact Bj h3
 .exact h3
theorem X7 (q:Sm a b):Sm (roomF g o a) (roomF g o b):=by
 unfold roomF
 rw [OA (q.at_ 2)]
 split
 .exact q
 .exact Yz q
theorem X6 (q:Sm a b):Sm (aL g h o a) (aL g h o b):=by
 unfold aL
 rw [OA (q.at_ h)]
 split
 .exact q
 .exact Qi q
theorem Xg (q:Sm a b):Sm (fz g o a) (fz g o b):=by
 unfold fz
 by_cases c:o∈(a.at_ 2).seq
 .rw [bb9 c,bb9 (by rw [← (q.at_ 2).1]; exact c)]
  exact (q.tell (e:=eF 2)).set ((q.at_ 2).use c)
 .rw [aYW c,aYW (by rw [← (q.at_ 2).1]; exact c)]
  exact Oz (X7 q.tell)
theorem Xf (q:Sm a b):Sm (cV g h o a) (cV g h o b):=by
 unfold cV
 rw [(q.at_ h).2.2]
 split
 .have r:=IA (g:=g) (o:=o) (ws:=(a.at_ h).wd o) (vs:=(b.at_ h).wd o) q
  exact r.set ((r.at_ h).Fv)
 .exact q
theorem Ov (q:Sm a b):Sm (bQ g h o a) (bQ g h o b):=by
 unfold bQ
 by_cases c:o∈(a.at_ h).seq
 .rw [bb9 c,bb9 (by rw [← (q.at_ h).1]; exact c)]
  exact (q.tell (e:=eF h)).set ((q.at_ h).use c)
 .rw [aYW c,aYW (by rw [← (q.at_ h).1]; exact c)]
  exact Oz (X6 (Xf (Xg q)))
theorem Xe (q:Sm a b):Sm (bP h o a) (bP h o b):=by
 unfold bP
 rw [(q.at_ (1 - h)).1]
 split
 .exact iR q
 .exact q
theorem Xd (q:Sm a b):Sm (markB g h o a) (markB g h o b):=by
 unfold markB
 split
 .exact O4 q
 .exact IA q
theorem V9 {sp x:Int} (q:Sm a b):Sm (jS g h sp x a) (jS g h sp x b):=by
 have r:=Xe (h:=h) (o:=sp / g.size) (Ov (g:=g) (h:=h) (o:=sp / g.size) q)
 exact Xd (r.set ⟨(r.at_ h).1,(r.at_ h).2.1,(r.at_ h).2.2⟩)
theorem Xc (q:Sm a b):Sm (eN g o a) (eN g o b):=by
 unfold eN
 rw [(q.at_ 2).2.2]
 split
 .exact Bj (iR q)
 .exact iR q
theorem Ou:∀ {bs:List Int} {a b:ao},Sm a b->Sm (gK g h bs a) (gK g h bs b)
 | [],_,_,q=>q
 | _ :: bs,_,_,q=>Ou (bs:=bs) (Qi q)
theorem Ot:∀ {bs:List Int} {a b:ao},Sm a b->Sm (gJ g bs a) (gJ g bs b)
 | [],_,_,q=>q
 | _ :: bs,_,_,q=>Ot (bs:=bs) (Xc q)
theorem Oq (q:Sm a b):∀ {k:Nat},Sm (bg g a k) (bg g b k)
 | 0=>q
 | k+1=>by
  have r:=Oq q (k:=k)
  unfold bg
  rw [(r.at_ k).1]
  exact Ou r
theorem Xb (q:Sm a b):Sm (cU g a) (cU g b):=by
 have r:=Oq (g:=g) q (k:=2)
 unfold cU
 rw [(r.at_ 2).1]
 exact Ot r
theorem V8 (w:aM g a):Sm (gM (cU g a)) (pB 3):=by
 obtain ⟨w1,s1⟩:=IP w
 have sq:∀ k,((cU g a).at_ k).seq=[]:=λk=>by
  by_cases c:k<3
  .exact s1 k c
  .unfold ao.at_
   rw [agd,aav (by rw [w1.len]; lia)]
   rfl
 have s0:∀ k,(pB 3).at_ k=m9:=λk=>by
  unfold pB ao.at_
  rw [agd,aV2]
  split <;> rfl
 refine ⟨w1.len.trans (asY ..).symm,rfl,λk=>?_⟩
 rw [s0]
 refine ⟨sq k,λx hx=>?_,λx=>w1.nf (by rw [sq]; simp)⟩
 have hx:x∈((cU g a).at_ k).seq:=hx
 rw [sq] at hx; cases hx
end
section
variable {g:aU} {st:ao} {b:Int} {h:Nat} {ws:List Int}
theorem DN {k:Nat}:(bz g k b ws st).ev.length=st.ev.length+1:=by
 unfold bz
 split
 .show (st.ev++_).length=_
  rw [aAe]; rfl
 .show (st.ev++_).length=_
  rw [aAe]; rfl
theorem Dv {k:Nat}:(cR k b st).ev.length=st.ev.length+1:=by
 show (st.ev++_).length=_
 rw [aAe]; rfl
theorem X5:(bD g b ws st).ev.length<=st.ev.length+2:=by
 unfold bD
 split
 .show (bz g 2 b ws st).ev.length<=_
  rw [DN]; lia
 .rw [DN,DN]; lia
theorem ZjO:(aK g h b st).ev.length<=st.ev.length+3:=by
 unfold aK
 split
 .refine auj X5 ?_
  rw [Dv]; lia
 .rw [Dv]; lia
theorem X4:(eN g b st).ev.length<=st.ev.length+3:=by
 unfold eN
 split
 .rw [DN,Dv]; lia
 .rw [Dv]; lia
theorem Je:∀ {bs:List Int} {st:ao},(gK g h bs st).ev.length<=st.ev.length+3 * bs.length
 | [],st=>aDN _
 | b :: bs,st=>by
  unfold gK
  refine auj Je ?_
  have:=ZjO (g:=g) (h:=h) (b:=b) (st:=st)
  rw [a23]
  lia
theorem O3:∀ {bs:List Int} {st:ao},(gJ g bs st).ev.length<=st.ev.length+3 * bs.length
 | [],st=>aDN _
 | b :: bs,st=>by
  unfold gJ
  refine auj O3 ?_
  have:=X4 (g:=g) (b:=b) (st:=st)
  rw [a23]
  lia
theorem X3 {m:Nat} (w:aM g st) (h:∀ k,k<3->(st.at_ k).seq.length<=m):(cU g st).ev.length<=st.ev.length+9 * m:=by
 obtain ⟨_,s1⟩:=w.bg (k:=1) (by lia)
 obtain ⟨_,s2⟩:=w.bg (k:=2) (by lia)
 have l1:(jj ((bg g st 1).at_ 1).seq).length<=m:=by
  rw [cG.length_eq,s1,aYW (aXl 1)]
  exact h 1 (by lia)
 have l2:(jj ((bg g st 2).at_ 2).seq).length<=m:=by
  rw [cG.length_eq,s2,aYW (aXl 2)]
  exact h 2 (by lia)
 have l0:(jj ((bg g st 0).at_ 0).seq).length<=m:=by
  rw [cG.length_eq]
  exact h 0 (by lia)
 have e0:(bg g st 1).ev.length<=st.ev.length+3 * (jj ((bg g st 0).at_ 0).seq).length:=Je
 have e1:(bg g st 2).ev.length<=(bg g st 1).ev.length+3 * (jj ((bg g st 1).at_ 1).seq).length:=Je
 have e2:(cU g st).ev.length<=(bg g st 2).ev.length+3 * (jj ((bg g st 2).at_ 2).seq).length:=O3
 lia
end
section
theorem V7 (x y:Str) (r:Int) (h0:0<=r) (h1:r<2):∃ z:Str,gc [V.str x,V.str y] r=some (.str z)/\(z=x\/z=y):=by
 have h:r=0\/r=1:=by lia
 rcases h with rfl | rfl
 .exact ⟨x,eS,.inl rfl⟩
 .exact ⟨y,iz,.inr rfl⟩
def HV:Sp:=λvs H Q _=>∃ (b:Addr) (a q c:Int),vs=[.ref b]/\aE H b a q c/\c<400000000 /\
 ∀ (p:Addr) (sh pl:Int) (r wr:Str) (a' c':Int) (H':Hp),H' p=some (.tup [.int sh,.int pl,.str r,.str wr])->1<=sh->sh<=64->1<=pl->pl<=16->rA r->Wr wr->aE H' b a' q c'->c'<=c+6->SB b H H'->Q (.ref p) H'
theorem Zhk (F:aY K "_law_room_plan" "_law_room_plan" Kc f fd) (T:Txt K mg) (dG:Def P w K mg base "_law_take" 1 tS u9):au P w K mg base aW 2 f fd Em HV:=by
 refine F.ok gT (λvs H Q E h=>?_) (λcdv A outer st H vs Q E hr h=>?_)
 .obtain ⟨b,a,q,c,rfl,_⟩:=h
  rfl
 obtain ⟨b,a,q,c,rfl,B,hc,k⟩:=h
 have nd:=gT.nd
 refine ⟨_,(Ze (eB 1 nd (pV bB (Zm dG hr.m rfl (pc (pv 0) (pc Zj Zb))) Zj (Zz _)))
   (Ze (eB 2 nd (xw (ZG (pv 1)) (ak ZO Zj (Zm dG hr.m rfl (pc (pv 0) (pc Zj Zb)))) (av (Zo (K:=K) rfl) (m6 (pc Zj (pc Zj (pc Zj (pc Zj (pc Zj Zb)))))) (Zm dG hr.m rfl (pc (pv 0) (pc Zj Zb))) (λ_ _=>rfl))))
   (Ze (eB 3 nd (ak ZO Zj (Zm dG hr.m rfl (pc (pv 0) (pc (xw (ZG (pv 1)) Zj Zj) Zb)))))
   (Ze (eB 4 nd (av (Zo (K:=K) rfl) (m6 (pc kB (pc kB (pc kB Zb)))) (Zm dG hr.m rfl (pc (pv 0) (pc Zj Zb))) (λ_ _=>rfl)))
   (Zi (Zt (j6 (pc (pv 2) (pc (pv 3) (pc (pv 4) (pc (av (Zo (K:=K) rfl) (m6 (pc kB (pc kB Zb))) (Zm dG hr.m rfl (pc (pv 0) (pc Zj Zb))) (λ_ _=>rfl)) Zb))))))))))),?_⟩
 refine ⟨_,rfl,b,a,q,c,6,rfl,B,by lia,by decide,by decide,λr1 a1 c1 H1 uC xR B1 hc1 s1=>⟨rfl,?_⟩⟩
 generalize decide (V.int r1=V.int 0)=MS
 try dsimp only
 refine Du (λv G=>∃ z a' c',v=.int z/\1<=z/\z<=64/\aE G b a' q c'/\c'<=c1+1/\SB b H G) (λQ' k'=>?_) ?_
 .refine ⟨_,rfl,_,rfl,?_⟩
  cases MS with
  | true=>exact fq rfl ⟨_,rfl,b,a1,q,c1,64,rfl,B1,by lia,by decide,by decide,λr2 a2 c2 H2 rO qi B2 hc2 s2=>⟨_,_,rfl,rfl,k' _ _ ⟨_,a2,c2,rfl,by lia,by lia,B2,by lia,s1.trans s2⟩⟩⟩
  | false =>
   refine cT rfl ⟨(sl 5),λp0 hp0=>⟨_,rfl,b,a1,q,c1,5,rfl,B1.same (Zf hp0 _),by lia,by decide,by decide,λr2 a2 c2 H2 rO qi B2 hc2 s2=>?_⟩⟩
   have q0:b≠p0:=Zd B1.at' hp0
   obtain ⟨sh,hsh,zl,zk⟩:=zG r2 rO qi
   exact ⟨p0,_,_,_,rfl,rfl,aG.of (s2 _ _ (aI4 q0) Za),hsh,k' _ _ ⟨_,a2,c2,rfl,zl,zk,B2,by lia,s1.trans (((Zf hp0 _).sb b).trans s2)⟩⟩
 rintro _ H2 ⟨sh,a2,c2,rfl,zl,zk,B2,hc2,u2⟩
 refine gN ?_
 try dsimp only
 refine Du (λv G=>∃ z a' c',v=.int z/\1<=z/\z<=16/\aE G b a' q c'/\c'<=c2+1/\SB b H G) (λQ' k'=>?_) ?_
 .refine ⟨_,rfl,_,rfl,_,rfl,?_⟩
  cases MS with
  | true=>exact fq rfl ⟨b,a2,q,c2,16,rfl,B2,by lia,by decide,by decide,λr3 a3 c3 H3 vH uB B3 hc3 s3=>⟨_,_,rfl,rfl,k' _ _ ⟨_,a3,c3,rfl,by lia,by lia,B3,by lia,u2.trans s3⟩⟩⟩
  | false=>exact cT rfl ⟨b,a2,q,c2,4,rfl,B2,by lia,by decide,by decide,λr3 a3 c3 H3 vH uB B3 hc3 s3=>⟨_,_,rfl,rfl,k' _ _ ⟨_,a3,c3,rfl,by lia,by lia,B3,by lia,u2.trans s3⟩⟩⟩
 rintro _ H3 ⟨pl,a3,c3,rfl,FJ,nY,B3,hc3,u3⟩
 refine gN ?_
 try dsimp only
 refine ⟨(sl 3),λp3 hp3=>⟨_,rfl,b,a3,q,c3,3,rfl,B3.same (Zf hp3 _),by lia,by decide,by decide,λr4 a4 c4 H4 zC CJ B4 hc4 s4=>?_⟩⟩
 have q3:b≠p3:=Zd B3.at' hp3
 obtain ⟨ru,UD,Uz⟩:=zF r4 zC CJ
 refine ⟨p3,_,_,_,rfl,rfl,aG.of (s4 _ _ (aI4 q3) Za),UD,?_⟩
 have u4:SB b H H4:=u3.trans (((Zf hp3 _).sb b).trans s4)
 refine ⟨_,rfl,_,rfl,_,rfl,(sl 2),λp5 GV=>⟨_,rfl,b,a4,q,c4,2,rfl,B4.same (Zf GV _),by lia,by decide,by decide,λr5 a5 c5 H5 FH LL B5 hc5 s5=>?_⟩⟩
 have q5:b≠p5:=Zd B4.at' GV
 obtain ⟨wr,hwr,Uy⟩:=V7 "late" "through" r5 FH LL
 refine ⟨p5,_,_,_,rfl,rfl,aG.of (s5 _ _ (aI4 q5) Za),hwr,(sl 4),λpp hpp=>?_⟩
 exact k pp sh pl ru wr a5 c5 _ Za zl zk FJ nY Uz Uy (B5.same (Zf hpp _)) (by lia)
  ((u4.trans (((Zf GV _).sb b).trans s5)).trans ((Zf hpp _).sb b))
end
theorem V6 (r:Int) (h0:0<=r) (h1:r<3):∃ z:Str,gc [V.str "within",V.str "apart",V.str "free"] r=some (.str z)/\(z = "within" \/ z = "apart" \/ z = "free"):=by
 have h:r=0\/r=1\/r=2:=by lia
 rcases h with rfl | rfl | rfl
 .exact ⟨_,eS,.inl rfl⟩
 .exact ⟨_,iz,.inr (.inl rfl)⟩
 .exact ⟨_,j5,.inr (.inr rfl)⟩
section
def Oo (K:W.Frag):Sp:=λvs H Q _=>∃ (b:Addr) (a q c:Int),vs=[.ref b]/\aE H b a q c/\c<300000000 /\
 ∀ (pp tp:Addr) (ts:List Addr) (size:Int) (kind:Str) (bu:List Cf) (a' c':Int) (H':Hp),H' pp=some (.tup [.int size,.str kind,.ref tp])->iN K H' tp ts bu->(kind = "within" \/ kind = "apart" \/ kind = "free")->1<=size->size<=16->1<=bu.length->bu.length<=4->aE H' b a' q c'->c'<=c+40->SB b H H'->Q (.ref pp) H'
theorem Xa (F:aY K "_law_plan" "_law_plan" DH f fd) (T:Txt K mg) (dG:Def P w K mg base "_law_take" 1 tS u9) (xJ:Def P w K mg base "_law_room_plan" 2 Em HV):au P w K mg base aW 3 f fd Ip (Oo K):=by
 refine F.ok nR (λvs H Q E h=>?_) (λcdv A outer st H vs Q E hr h=>?_)
 .obtain ⟨b,a,q,c,rfl,_⟩:=h
  rfl
 obtain ⟨b,a,q,c,rfl,B,hc,k⟩:=h
 have nd:=nR.nd
 refine ⟨_,(Ze (eB 1 nd (av (Zo (K:=K) rfl) (m6 (pc kB (pc kB (pc kB Zb)))) (Zm dG hr.m rfl (pc (pv 0) (pc Zj Zb))) (λ_ _=>rfl)))
   (Ze (eB 2 nd (ak ZO Zj (Zm dG hr.m rfl (pc (pv 0) (pc (av (Zo (K:=K) rfl) (m6 (pc Zj (pc Zj Zb))) (vj JA rfl T.yg Ei (pc (pV bB (Zm dG hr.m rfl (pc (pv 0) (pc Zj Zb))) Zj (Zz _)) Zb)) (λ_ _=>rfl)) Zb)))))
   (Zi (Zt (j6 (pc (pv 2) (pc (pv 1) (pc (vj (ZeX (K:=K) rfl) rfl T.Ar Kn (pc (vh (sj (gy:=(Zg DH)) (oN:=nj) (N:=["_law_k", "_law_box_here"]) (own:=1) (js:=[0]) (by decide +kernel) rfl rfl) rfl (sr rfl T.oR (pc (ak ZO Zj (Zm dG hr.m rfl (pc (pv 0) (pc Zj Zb)))) Zb)) (λ_ _ _ _ _ _=>(ck 0 (show List.Nodup (["_law_k", "_law_box_here"]:List Str) by decide +kernel))) (λ_ _ _ _ _ _=>(Zm xJ hr.m rfl (pc (pv 1) Zb)))) Zb)) Zb)))))))),?_⟩
 refine ⟨(sl 3),λp1 hp1=>⟨_,rfl,b,a,q,c,3,rfl,B.same (Zf hp1 _),by lia,by decide,by decide,λr1 a1 c1 H1 uC xR B1 hc1 s1=>?_⟩⟩
 have q1:b≠p1:=Zd B.at' hp1
 obtain ⟨kd,hkd,Ml⟩:=V6 r1 uC xR
 refine ⟨p1,_,_,_,rfl,rfl,aG.of (s1 _ _ (aI4 q1) Za),hkd,gN ?_⟩
 try dsimp only
 have u1:SB b H H1:=((Zf hp1 _).sb b).trans s1
 refine ⟨_,rfl,(sl 2),λp2 hp2=>⟨_,rfl,b,a1,q,c1,8,rfl,B1.same (Zf hp2 _),by lia,by decide,by decide,λr2 a2 c2 H2 rO qi B2 hc2 s2=>⟨rfl,.inr ⟨_,rfl,?_⟩⟩⟩⟩
 have q2:b≠p2:=Zd B1.at' hp2
 obtain ⟨n,hn,hn'⟩:=Ni 4 16 (decide (V.int r2=V.int 0))
 refine ⟨p2,_,_,_,rfl,rfl,aG.of (s2 _ _ (aI4 q2) Za),hn,b,a2,q,c2,n,rfl,B2,by lia,by lia,by lia,λr3 a3 c3 H3 vH uB B3 hc3 s3=>⟨_,_,rfl,rfl,gN ?_⟩⟩
 try dsimp only
 have u3:SB b H H3:=(((u1.trans ((Zf hp2 _).sb b)).trans s2)).trans s3
 refine ⟨_,rfl,_,rfl,_,rfl,b,a3,q,c3,4,rfl,B3,by lia,by decide,by decide,λr4 a4 c4 H4 zC CJ B4 hc4 s4=>⟨_,_,rfl,rfl,_,rfl,by lia,by lia,λl hl=>?_⟩⟩
 have jQ:l≠b:=aI4 (Zd B4.at' hl)
 have u4:=u3.trans s4
 refine yI (lo:=0) (n:=(1+r4).toNat) (l:=l) (λj ys σ G=>∃ (v0:Option V) (ts:List Addr) (bu:List Cf) (a' c':Int),σ=[v0,some (.ref b)]/\ys=ts.map V.ref/\ts.length=j/\bu.length=j/\(∀ (i:Nat) (t:Addr) (c:Cf),ts[i]?=some t->bu[i]?=some c->∃ wr:Str,G t=some (.tup [.int c.sh,.int c.pl,.str c.ru,.str wr])/\c.late=decide (wr = "late")/\Wr wr)/\(∀ c∈bu,1<=c.sh/\c.sh<=64/\1<=c.pl/\c.pl<=16/\rA c.ru)/\G l=some (.lst ys)/\aE G b a' q c'/\c'<=c4+6 * (j:Int)/\SB b H G)
  ⟨none,[],[],a4,c4,rfl,rfl,rfl,rfl,(λi t c h=>by simp at h),(λc h=>by simp at h),Za,B4.same (Zf hl _),by lia,u4.trans ((Zf hl _).sb b)⟩ ?_ ?_
 .rintro j ys σ G hj hys ⟨v0,ts,bu,a',c',rfl,rfl,hl1,hl2,hat,hcf,g1,B',hc',u'⟩
  refine ⟨_,rfl,b,a',q,c',rfl,B',by lia,λp sh pl r wr a5 c5 G5 ep zl zk FJ nY hr hw B5 hc5 s5=>?_⟩
  have g5:=s5 _ _ jQ g1
  have TV:p≠l:=λz=>by rw [z,g5] at ep; cases ep
  refine kW.of (auj (by lia:(1+r4).toNat<=4) (by decide)) hj hys g5 ⟨_,ts++[p],bu++[⟨sh,pl,r,decide (wr = "late")⟩],a5,c5,rfl,by rw [aIO]; rfl,by rw [aAe,hl1]; rfl,by rw [aAe,hl2]; rfl,λi t c h1 h2=>?_,λc hc=>?_,Za,B5.sb (yv l _ _) (aI4 jQ),by lia,λx o nx e=>?_⟩
  .by_cases hi:i<j
   .rw [aOW (by lia)] at h1 h2
    obtain ⟨wr',e1,e2⟩:=hat i t c h1 h2
    refine ⟨wr',?_,e2⟩
    have FY:t≠b:=λz=>by rw [z,B'.at'] at e1; cases e1
    have kQ:=s5 _ _ FY e1
    rw [Zc (λz=>by rw [z,g5] at kQ; cases kQ)]
    exact kQ
   .have hi2:i=j:=by have:=(aK1.mp h1).1; rw [aAe,aOg] at this; lia
    subst hi2
    rw [aRD (by lia),show i - ts.length=0 by lia] at h1
    rw [aRD (by lia),show i - bu.length=0 by lia] at h2
    cases h1; cases h2
    exact ⟨wr,by rw [Zc TV]; exact ep,rfl,hw⟩
  .rcases ais.mp hc with hc | hc
   .exact hcf c hc
   .rw [a60.mp hc]; exact ⟨zl,zk,FJ,nY,hr⟩
  .have TJ:x≠l:=λz=>by
    rw [z] at e
    have:=u4 _ _ jQ e
    rw [this] at hl; cases hl
   rw [Zc TJ]
   exact s5 _ _ nx (u' _ _ nx e)
 rintro ys σ G _ ⟨v0,ts,bu,a',c',rfl,rfl,hl1,hl2,hat,hcf,g1,B',hc',u'⟩
 refine ⟨l,_,rfl,.inl ⟨aG.of g1,λtp htp=>⟨(sl 3),λpp hpp=>?_⟩⟩⟩
 have s5:=Zf htp (.tup (ts.map V.ref))
 have s6:=s5.trans (Zf hpp (.tup [.int (1+r3),.str kd,.ref tp]))
 refine k pp tp ts (1+r3) kd bu a' c' _ Za ⟨Zf hpp _ _ _ Za,by show ts.length=bu.length; lia,λi t c h1 h2=>by obtain ⟨wr,e1,e2⟩:=hat i t c h1 h2; exact ⟨wr,s6 _ _ e1,e2⟩,hcf⟩ Ml (by show 1<=1+r3; lia) (by show 1+r3<=16; lia) (by show 1<=bu.length; lia) (by show bu.length<=4; lia) (B'.same s6) (by lia) (u'.trans (s6.sb b))
end
section
def NP:Sp:=λvs H Q _=>∃ (b:Addr) (a q c x y:Int),vs=[.ref b,.int x,.int y]/\aE H b a q c/\c<1099511627770/\0<x/\x<=y/\y<1073741824 /\
 ∀ (r a' c':Int) (H':Hp),1<=r->r<=y->aE H' b a' q c'->c'<=c+2->SB b H H'->Q (.int r) H'
theorem W9 (F:aY K "_law_many" "_law_many" Ij f fd) (T:Txt K mg) (dG:Def P w K mg base "_law_take" 1 tS u9):au P w K mg base aW 2 f fd Ii NP:=by
 refine F.ok nT (λvs H Q E h=>?_) (λcdv A outer st H vs Q E hr h=>?_)
 .obtain ⟨b,a,q,c,x,y,rfl,_⟩:=h
  rfl
 obtain ⟨b,a,q,c,x,y,rfl,B,hc,x0,xy,y1,k⟩:=h
 have nd:=nT.nd
 refine ⟨_,(Ze (eB 3 nd (pV bB (Zm dG hr.m rfl (pc (pv 0) (pc Zj Zb))) Zj (Zz _)))
   (Zi (Zt (ak ZO Zj (Zm dG hr.m rfl (pc (pv 0) (pc (xw (ZG (pv 3)) (pv 2) (pv 1)) Zb))))))),?_⟩
 refine ⟨_,rfl,b,a,q,c,8,rfl,B,by lia,by decide,by decide,λr a1 c1 G1 r0 r1 B1 hc1 t1=>?_⟩
 refine ⟨rfl,gN ?_⟩
 refine ⟨_,rfl,_,rfl,_,rfl,Jr (λz=>?_) (λz=>?_)⟩
 .refine ⟨_,rfl,b,a1,q,c1,y,rfl,B1,by lia,by lia,by lia,λr2 a2 c2 G2 rO qi B2 hc2 t2=>?_⟩
  exact ⟨_,_,rfl,rfl,k (1+r2) a2 c2 G2 (by lia) (by lia) B2 (by lia) (t1.trans t2)⟩
 .refine ⟨_,rfl,b,a1,q,c1,x,rfl,B1,by lia,by lia,by lia,λr2 a2 c2 G2 rO qi B2 hc2 t2=>?_⟩
  exact ⟨_,_,rfl,rfl,k (1+r2) a2 c2 G2 (by lia) (by lia) B2 (by lia) (t1.trans t2)⟩
end
inductive Dd where
 | rd (sp:Int)
 | wt (sp x:Int)
def Dd.sp:Dd->Int
 | .rd sp=>sp
 | .wt sp _=>sp
def Dd.vs:Dd->List V
 | .rd sp=>[.str "read",.int sp]
 | .wt sp x=>[.str "write",.int sp,.int x]
def Dd.ok:Dd->Prop
 | .rd sp=>0<=sp/\sp<=9999
 | .wt sp x=>(0<=sp/\sp<=9999)/\x.natAbs<10 ^ 40
section
def Om:Sp:=λvs H Q _=>∃ (b:Addr) (a q c:Int),vs=[.ref b]/\aE H b a q c/\c<400000000/\∀ (x a' c':Int) (H':Hp),x.natAbs<10 ^ 40->aE H' b a' q c'->c'<=c+8->SB b H H'->Q (.int x) H'
theorem W8 (F:aY K "_law_word" "_law_word" Io f fd) (T:Txt K mg) (dG:Def P w K mg base "_law_take" 1 tS u9):au P w K mg base aW 2 f fd Im Om:=by
 refine F.ok nK (λvs H Q E h=>?_) (λcdv A outer s0 H vs Q E hr h=>?_)
 .obtain ⟨b,a,q,c,rfl,_⟩:=h
  rfl
 obtain ⟨b,a,q,c,rfl,B,hc,k⟩:=h
 have nd:=nK.nd
 refine ⟨_,(Ze (eB 1 nd (Zm dG hr.m rfl (pc (pv 0) (pc Zj Zb))))
   (Ze (aJ (ZD lC (pv 1) Zj (Zz _)) (Ze (eB 2 nd (Zm dG hr.m rfl (pc (pv 0) (pc (av (Zo (K:=K) rfl) (m6 (pc Zj (pc Zj (pc Zj Zb)))) (pv 1) (λ_ _=>rfl)) Zb))))
   (Zi (Zt (av (Zo (K:=K) rfl) (m6 (pc (pv 2) (pc (ak ZO Zj (pv 2)) (pc (ak ve (uG NK Zj) (pv 2)) Zb)))) (pv 1) (λ_ _=>rfl))))) Zu)
   (Ze (eB 2 nd Zj)
   (Ze (rZ aaO rfl (sr rfl T.oR (pc (ak ZO Zj (Zm dG hr.m rfl (pc (pv 0) (pc Zj Zb)))) Zb)) (ck 3 nd) (Zi (eB 2 nd (ak ZO (ak o9 (pv 2) (ak Iw Zj Zj)) (Zm dG hr.m rfl (pc (pv 0) (pc (ak Iw Zj Zj) Zb)))))))
   (Zi (Zt (av (Zo (K:=K) rfl) (m6 (pc (pv 2) (pc (ak ve Zj (pv 2)) Zb))) (Zm dG hr.m rfl (pc (pv 0) (pc Zj Zb))) (λ_ _=>rfl)))))))),?_⟩
 refine ⟨_,rfl,b,a,q,c,4,rfl,B,by lia,by decide,by decide,λr1 a1 c1 H1 uC xR B1 hc1 s1=>gN ?_⟩
 try dsimp only
 refine ⟨_,rfl,_,_,rfl,rfl,_,rfl,rj (λz=>?_) (λz=>?_)⟩
 .obtain ⟨n,hn,n0,n1⟩:∃ n:Int,gc [V.int 9,V.int 99,V.int 99] r1=some (.int n)/\1<=n/\n<=99:=by
   have h:r1=0\/r1=1\/r1=2:=by lia
   rcases h with rfl | rfl | rfl
   .exact ⟨9,eS,by decide,by decide⟩
   .exact ⟨99,iz,by decide,by decide⟩
   .exact ⟨99,j5,by decide,by decide⟩
  refine ⟨_,rfl,(sl 3),λp1 hp1=>⟨_,rfl,p1,_,_,_,rfl,rfl,aG.of Za,hn,b,a1,q,c1,n,rfl,B1.same (Zf hp1 _),by lia,by lia,by lia,λr2 a2 c2 H2 rO qi B2 hc2 s2=>gN ?_⟩⟩
  try dsimp only
  refine ⟨_,rfl,_,rfl,_,_,rfl,rfl,_,rfl,_,rfl,_,_,rfl,rfl,(sl 3),λp2 hp2=>⟨_,rfl,p2,?_⟩⟩
  obtain ⟨x,hx,x1⟩:∃ x:Int,gc [V.int r2,V.int (1+r2),V.int (-1 - r2)] r1=some (.int x)/\x.natAbs<10 ^ 40:=by
   have h:r1=0\/r1=1\/r1=2:=by lia
   have Vu:1000<=10 ^ 40:=by decide
   rcases h with rfl | rfl | rfl
   .exact ⟨_,eS,by lia⟩
   .exact ⟨_,iz,by lia⟩
   .exact ⟨_,j5,by lia⟩
  exact ⟨_,_,_,rfl,rfl,aG.of Za,hx,k x a2 c2 _ x1 (B2.same (Zf hp2 _)) (by lia) (((s1.trans ((Zf hp1 _).sb b)).trans s2).trans ((Zf hp2 _).sb b))⟩
 .dsimp only [gg]
  refine gN ?_
  try dsimp only
  refine ⟨_,rfl,b,a1,q,c1,4,rfl,B1,by lia,by decide,by decide,λr2 a2 c2 H2 rO qi B2 hc2 s2=>⟨_,_,rfl,rfl,_,rfl,by lia,by lia,?_⟩⟩
  have e7:(10:Int) ^ (7:Int).toNat=10000000:=by decide
  refine Ek (lo:=0) (n:=(1+r2).toNat) (λi σ G=>∃ (v3:Option V) (z a' c':Int),σ=[some (.ref b),some (.int r1),some (.int z),v3]/\0<=z/\z<10000000 ^ i/\aE G b a' q c'/\c'<=c2+(i:Int)/\SB b H G)
   ⟨none,0,a2,c2,rfl,by decide,by decide,B2,by lia,s1.trans s2⟩ ?_ ?_
  .rintro i σ G hi ⟨v3,z,a',c',rfl,z0,z1,B',hc',s'⟩
   refine gN ?_
   try dsimp only
   refine ⟨_,rfl,_,_,rfl,rfl,⟨by decide,by decide,by decide⟩,_,_,rfl,rfl,.inr (by rw [e7]; decide),_,rfl,_,_,rfl,rfl,⟨by decide,by decide,by decide⟩,b,a',q,c',_,rfl,B',by lia,by rw [e7]; decide,by rw [e7]; decide,λr3 a3 c3 H3 vH uB B3 hc3 s3=>⟨_,_,rfl,rfl,gN ⟨_,_,a3,c3,rfl,?_,?_,B3,by lia,s'.trans s3⟩⟩⟩
   .rw [e7]
    lia
   .rw [e7] at uB ⊢
    rw [Int.pow_succ]
    generalize (10000000:Int) ^ i=X at *
    lia
  .rintro σ G ⟨v3,z,a',c',rfl,z0,z1,B',hc',s'⟩
   have zb:z<10000000000000000000000000000:=by
    have h:(1+r2).toNat=1\/(1+r2).toNat=2\/(1+r2).toNat=3\/(1+r2).toNat=4:=by lia
    have p1:(10000000:Int) ^ 1=10000000:=by decide
    have p2:(10000000:Int) ^ 2=100000000000000:=by decide
    have p3:(10000000:Int) ^ 3=1000000000000000000000:=by decide
    have p4:(10000000:Int) ^ 4=10000000000000000000000000000:=by decide
    rcases h with e | e | e | e <;> rw [e] at z1 <;> lia
   have Vu:10000000000000000000000000000<=10 ^ 40:=by decide
   refine ⟨_,rfl,_,rfl,_,_,rfl,rfl,(sl 2),λp2 hp2=>⟨_,rfl,b,a',q,c',2,rfl,B'.same (Zf hp2 _),by lia,by decide,by decide,λr4 a4 c4 H4 zC CJ B4 hc4 s4=>?_⟩⟩
   have np:b≠p2:=Zd B'.at' hp2
   obtain ⟨x,hx,x1⟩:∃ x:Int,gc [V.int z,V.int (0 - z)] r4=some (.int x)/\x.natAbs<10 ^ 40:=by
    have h:r4=0\/r4=1:=by lia
    rcases h with rfl | rfl
    .exact ⟨_,eS,by lia⟩
    .exact ⟨_,iz,by lia⟩
   exact ⟨p2,_,_,_,rfl,rfl,aG.of (s4 _ _ (aI4 np) Za),hx,k x a4 c4 _ x1 B4 (by lia) ((s'.trans ((Zf hp2 _).sb b)).trans s4)⟩
def N5:Sp:=λvs H Q _=>∃ (b l:Addr) (a q c size:Int) (ns:List Int),vs=[.ref b,.int size,.ref l]/\aE H b a q c/\l≠b/\c<350000000/\1<=size/\size<=16/\H l=some (.lst (ns.map V.int))/\1<=ns.length/\ns.length<=20/\(∀ x∈ns,0<=x/\x<=100000)/\∀ (t:Addr) (d:Dd) (a' c':Int) (H':Hp),H' t=some (.tup d.vs)->d.ok->d.sp / size∈(9999 / size) :: ns->aE H' b a' q c'->c'<=c+12->SB b H H'->Q (.ref t) H'
theorem W7 (F:aY K "_law_deed" "_law_deed" Il f fd) (T:Txt K mg) (dG:Def P w K mg base "_law_take" 1 tS u9) (GK:Def P w K mg base "_law_word" 2 Im Om):au P w K mg base aW 3 f fd Ik N5:=by
 refine F.ok nW (λvs H Q E h=>?_) (λcdv A outer s0 H vs Q E hr h=>?_)
 .obtain ⟨b,l,a,q,c,size,ns,rfl,_⟩:=h
  rfl
 obtain ⟨b,l,a,q,c,size,ns,rfl,B,jQ,hc,z0,z1,hl,l0,l1,vR,k⟩:=h
 have nd:=nW.nd
 refine ⟨_,(Ze (eB 3 nd (Zm dG hr.m rfl (pc (pv 0) (pc Zj Zb))))
   (Ze (eB 4 nd (Zs (YV rfl) rfl T.GD XJ (pc Zj (pc (ak ZO (ak o9 (av (Zo (K:=K) rfl) (pv 2) (Zm dG hr.m rfl (pc (pv 0) (pc (Zs (ZI (K:=K) rfl) rfl T.sC a5u (pc (pv 2) Zb)) Zb))) (λ_ _=>rfl)) (pv 1)) (Zm dG hr.m rfl (pc (pv 0) (pc (pv 1) Zb)))) Zb))))
   (Zi (Zt (xw (ZD bB (pv 3) Zj (Zz _)) (j6 (pc kB (pc (pv 4) (pc (Zm GK hr.m rfl (pc (pv 0) Zb)) Zb)))) (j6 (pc kB (pc (pv 4) Zb)))))))),?_⟩
 refine ⟨_,rfl,b,a,q,c,2,rfl,B,by lia,by decide,by decide,λr1 a1 c1 H1 uC xR B1 hc1 s1=>gN ?_⟩
 try dsimp only
 have hl1:=s1 _ _ jQ hl
 refine ⟨_,rfl,_,rfl,_,rfl,l,_,rfl,.inl (aG.of hl1),b,a1,q,c1,_,rfl,B1,by lia,by rw [aUH]; lia,by rw [aUH]; lia,λr2 a2 c2 H2 rO qi B2 hc2 s2=>?_⟩
 rw [aUH] at qi
 obtain ⟨x,hx,xm⟩:=Wh rO qi
 have xb:=vR x xm
 refine ⟨l,_,_,_,rfl,rfl,aG.of (s2 _ _ jQ hl1),hx,_,rfl,_,_,rfl,rfl,.inl ⟨by lia,by lia⟩,_,rfl,_,rfl,b,a2,q,c2,size,rfl,B2,by lia,by lia,by lia,λr3 a3 c3 H3 vH uB B3 hc3 s3=>⟨_,_,rfl,rfl,_,_,rfl,gN ?_⟩⟩
 have m0:0<=x * size:=Int.mul_nonneg xb.1 (by lia)
 have ok:0<=(if x * size+r3<9999 then x * size+r3 else 9999)/\(if x * size+r3<9999 then x * size+r3 else 9999)<=9999:=by split <;> lia
 have Mj:(if x * size+r3<9999 then x * size+r3 else 9999) / size∈(9999 / size) :: ns:=by
  split
  .have e:(x * size+r3) / size=x:=by
    rw [Int.add_comm,aC0 _ _ (by lia),aKc vH uB,Int.zero_add]
   rw [e]
   exact asq _ xm
  .exact aq5
 generalize (if x * size+r3<9999 then x * size+r3 else 9999)=sp at *
 try dsimp only
 have u3:=(s1.trans s2).trans s3
 refine ⟨_,rfl,rfl,_,rfl,Jr (λz=>?_) (λz=>?_)⟩
 .exact ⟨_,rfl,_,rfl,b,a3,q,c3,rfl,B3,by lia,λy a4 c4 H4 yb B4 hc4 s4=>⟨(sl 3),λt ht=>k t (.wt sp y) a4 c4 _ Za ⟨ok,yb⟩ Mj (B4.same (Zf ht _)) (by lia) ((u3.trans s4).trans ((Zf ht _).sb b))⟩⟩
 .exact ⟨_,rfl,(sl 2),λt ht=>k t (.rd sp) a3 c3 _ Za ok Mj (B3.same (Zf ht _)) (by lia) (u3.trans ((Zf ht _).sb b))⟩
end
structure tY (mem:Int->Int) (ps:List (Int×Int)):Prop where
 up:ps.Pairwise λa b=>a.1<b.1
 mm:∀ s v,(s,v)∈ps↔mem s=v/\v≠0
theorem tY.uniq {mem:Int->Int} {ps qs:List (Int×Int)} (h1:tY mem ps) (h2:tY mem qs):ps=qs:=by
 have nd:∀ {l:List (Int×Int)},(l.Pairwise λa b=>a.1<b.1)->l.Nodup:=λh=>h.imp λ{a b} z e=>by rw [e] at z; lia
 have pm:ps.Perm qs:=(aoa (nd h1.up) (nd h2.up)).mpr λq=>by
  obtain ⟨s,v⟩:=q
  rw [h1.mm,h2.mm]
 exact List.Perm.eq_of_pairwise (le:=λa b=>a.1<b.1) (λa b _ _ z1 z2=>by lia) h1.up h2.up pm
theorem tY.congr {mem mem':Int->Int} {ps:List (Int×Int)} (h:tY mem ps) (e:∀ s,mem s=mem' s):tY mem' ps:=⟨h.up,λs v=>by rw [h.mm,e]⟩
def kT (H:Hp) (l:Addr) (ps:List (Int×Int)):Prop:=∃ as:List Addr,H l=some (.lst (as.map V.ref))/\as.length=ps.length/\∀ (i:Nat) (a:Addr) (p:Int×Int),as[i]?=some a->ps[i]?=some p->H a=some (.tup [.int p.1,.int p.2])
theorem kT.same {H H':Hp} {l:Addr} {ps:List (Int×Int)} (h:kT H l ps) (s:aB H H'):kT H' l ps:=by
 obtain ⟨as,h1,h2,h3⟩:=h
 exact ⟨as,s _ _ h1,h2,λi a p e1 e2=>s _ _ (h3 i a p e1 e2)⟩
theorem kT.eqv {H:Hp} {l m:Addr} {ps:List (Int×Int)} (h1:kT H l ps) (h2:kT H m ps) (hl:ps.length<=1000):Eqv 2 H (.ref l) (.ref m):=by
 obtain ⟨as,a1,a2,a3⟩:=h1
 obtain ⟨bs,b1,b2,b3⟩:=h2
 refine .inr ⟨l,m,_,_,rfl,rfl,.inl ⟨a1,b1⟩,by rw [aUH,aUH,a2,b2],by rw [aUH,a2]; exact hl,λi u v e1 e2=>?_⟩
 rw [aJm] at e1 e2
 cases ha:as[i]? with
 | none=>rw [ha] at e1; cases e1
 | some a =>
  cases hb:bs[i]? with
  | none=>rw [hb] at e2; cases e2
  | some b =>
   rw [ha] at e1
   rw [hb] at e2
   cases e1
   cases e2
   have hi:i<ps.length:=by rw [← a2]; exact (aK1.mp ha).1
   have hp:ps[i]?=some ps[i]:=aJu hi
   exact Eqv.AQ (a3 i a _ ha hp) (b3 i b _ hb hp) (by show 2<=1000; decide) λx hx=>by
    rcases awk.mp hx with rfl | hx
    .trivial
    .rw [a60.mp hx]; trivial
def j7 (H:Hp) (bd:Addr) (bk:Int->Int) (n:Nat):Prop:=∃ kvs,H bd=some (.dK kvs)/\(kvs.length<=n/\KI kvs)/\∀ s,(aN kvs (Sum.inl s:Key)).getD (V.int 0)=V.int (bk s)
theorem j7.frame {H H':Hp} {bd:Addr} {bk:Int->Int} {n:Nat} (h:j7 H bd bk n) (f:∀ o,H bd=some o->H' bd=some o):j7 H' bd bk n:=by
 obtain ⟨kvs,h1,h2⟩:=h
 exact ⟨kvs,f _ h1,h2⟩
theorem j7.put {H:Hp} {bd:Addr} {bk:Int->Int} {n:Nat} {kvs:List (Key×V)} (h2:kvs.length<=n/\KI kvs) (h3:∀ s,(aN kvs (Sum.inl s:Key)).getD (V.int 0)=V.int (bk s)) (sp v:Int):j7 (upd H bd (.dK (putK kvs (Sum.inl sp) (V.int v)))) bd (qX bk sp v) (n+1):=by
 refine ⟨_,Za,⟨auj (BQ ..) (by lia),h2.2.put ..⟩,λs=>?_⟩
 rw [yG]
 unfold qX
 by_cases c:s=sp
 .rw [bb9 (by rw [c]),bb9 c]
  rfl
 .rw [aYW (λz=>c (akX z)),aYW c]
  exact h3 s
noncomputable def dJ (g:aU) (h:Nat) (d:Dd) (st:ao):ao:=match d with
 | .rd sp=>bQ g h (sp / g.size) st
 | .wt sp x=>jS g h sp x st
def HG (bk:Int->Int):Dd->Int->Int
 | .rd _=>bk
 | .wt sp v=>qX bk sp v
section
def NO:Sp:=λvs H Q _=>∃ (b:Addr) (a q c:Int),vs=[.ref b]/\aE H b a q c/\c<300000000 /\
 ∀ (t tn tf:Addr) (size:Int) (cn cf:Cf) (a' c':Int) (H':Hp),H' t=some (.tup [.int size,.ref tn,.ref tf])->tX H' tn cn->tX H' tf cf->1<=size->size<=16->aE H' b a' q c'->c'<=c+50->SB b H H'->Q (.ref t) H'
theorem W6 (F:aY K "_law_pair" "_law_pair" Ih f fd) (T:Txt K mg) (GJ:Def P w K mg base "_law_plan" 3 Ip (Oo K)) (xJ:Def P w K mg base "_law_room_plan" 2 Em HV):au P w K mg base aW 4 f fd Ig NO:=by
 refine F.ok nS (λvs H Q E h=>?_) (λcdv A outer s0 H vs Q E hr h=>?_)
 .obtain ⟨b,a,q,c,rfl,_⟩:=h
  rfl
 obtain ⟨b,a,q,c,rfl,B,hc,k⟩:=h
 have nd:=nS.nd
 refine ⟨_,(Ze (lY (Zm GJ hr.m rfl (pc (pv 0) Zb)) (mz (K:=K) (n:=3) rfl rfl (Zr (ck 1 nd) (Zr (ck 2 nd) (Zr (ck 3 nd) ZY)))))
   (Zi (Zt (j6 (pc (pv 1) (pc (av (m7 (K:=K) rfl) (pv 3) Zj (λ_ _=>rfl)) (pc (Zm xJ hr.m rfl (pc (pv 0) Zb)) Zb))))))),?_⟩
 refine ⟨_,rfl,b,a,q,c,rfl,B,hc,λpp tp SJ size kind bu a1 c1 H1 hpp pa Ml z0 z1 l1 l4 B1 hc1 s1=>⟨pp,_,rfl,aZ.of hpp,rfl,_,_,rfl,gN ⟨_,_,rfl,gN ⟨_,_,rfl,gN ⟨rfl,?_⟩⟩⟩⟩⟩
 try dsimp only
 have nt:∀ {x ys},H1 x=some (.tup ys)->x≠b:=λ{x ys} e z=>by rw [z,B1.at'] at e; cases e
 obtain ⟨t0,MY⟩:∃ t0,SJ[0]?=some t0:=⟨_,aJu (by rw [pa.len]; exact l1)⟩
 obtain ⟨c0,M5⟩:∃ c0,bu[0]?=some c0:=⟨_,aJu l1⟩
 obtain ⟨wr,ew,e1,e2⟩:=pa.at_ 0 t0 _ MY M5
 obtain ⟨q1,q2,q3,q4,q5⟩:=pa.cf _ (axK M5)
 refine ⟨_,rfl,_,rfl,tp,_,_,_,rfl,rfl,aZ.of pa.top,pq (j:=0) (by rw [aJm,MY]; rfl),_,rfl,b,a1,q,c1,rfl,B1,by lia,λp sh pl r Lu a2 c2 H2 e3 f1 f2 f3 f4 f5 f6 B2 hc2 s2=>⟨(sl 3),λt ht=>?_⟩⟩
 have s3:=Zf ht (.tup [V.int size,V.ref t0,V.ref p])
 refine k t t0 p size c0 ⟨sh,pl,r,decide (Lu = "late")⟩ a2 c2 _ Za ⟨wr,s3 _ _ (s2 _ _ (nt ew) ew),e1,e2,q1,q2,q3,q4,q5⟩ ⟨Lu,s3 _ _ e3,rfl,f6,f1,f2,f3,f4,f5⟩ z0 z1 (B2.same s3) (by lia) ((s1.trans s2).trans (s3.sb b))
def N4:Sp:=λvs H Q _=>∃ (b l:Addr) (a q c size:Int) (ns:List Int),vs=[.ref b,.int size,.ref l]/\aE H b a q c/\l≠b/\c<340000000/\1<=size/\size<=16/\H l=some (.lst (ns.map V.int))/\1<=ns.length/\ns.length<=20/\(∀ x∈ns,0<=x/\x<=100000)/\∀ (u t:Addr) (h:Nat) (d:Dd) (a' c':Int) (H':Hp),H' u=some (.tup [.int (h:Int),.ref t])->H' t=some (.tup d.vs)->h<2->d.ok->d.sp / size∈(9999 / size) :: ns->aE H' b a' q c'->c'<=c+13->SB b H H'->Q (.ref u) H'
theorem Zhl (F:aY K "_law_hand_deed" "_law_hand_deed" Ka f fd) (T:Txt K mg) (dG:Def P w K mg base "_law_take" 1 tS u9) (GI:Def P w K mg base "_law_deed" 3 Ik N5):au P w K mg base aW 4 f fd J9 N4:=by
 refine F.ok gV (λvs H Q E h=>?_) (λcdv A outer s0 H vs Q E hr h=>?_)
 .obtain ⟨b,l,a,q,c,size,ns,rfl,_⟩:=h
  rfl
 obtain ⟨b,l,a,q,c,size,ns,rfl,B,jQ,hc,z0,z1,hl,l0,l1,vR,k⟩:=h
 have nd:=gV.nd
 refine ⟨_,(Ze (eB 3 nd (Zm dG hr.m rfl (pc (pv 0) (pc Zj Zb))))
   (Zi (Zt (j6 (pc (pv 3) (pc (Zm GI hr.m rfl (pc (pv 0) (pc (pv 1) (pc (pv 2) Zb)))) Zb)))))),?_⟩
 refine ⟨_,rfl,b,a,q,c,2,rfl,B,by lia,by decide,by decide,λr1 a1 c1 H1 uC xR B1 hc1 s1=>gN ?_⟩
 try dsimp only
 obtain ⟨h,rfl,hh⟩:∃ h:Nat,r1=(h:Int)/\h<2:=⟨r1.toNat,by lia,by lia⟩
 refine ⟨_,rfl,_,rfl,_,rfl,_,rfl,b,l,a1,q,c1,size,ns,rfl,B1,jQ,by lia,z0,z1,s1 _ _ jQ hl,l0,l1,vR,λt d a2 c2 H2 et ok iU B2 hc2 s2=>⟨(sl 2),λu hu=>?_⟩⟩
 have s3:=Zf hu (.tup [V.int (h:Int),V.ref t])
 exact k u t h d a2 c2 _ Za (s3 _ _ et) hh ok iU (B2.same s3) (by lia) ((s1.trans s2).trans (s3.sb b))
noncomputable def Lv (g:aU) (h:Nat) (st:ao):Dd->V
 | .rd sp=>.int (ju g ((dJ g h (.rd sp) st).at_ h) sp)
 | .wt _ _=>.aR
def NN (K:W.Frag):Sp:=λvs H Q _=>∃ (A:TA) (g:aU) (st:ao) (os:OS) (t:Addr) (h:Nat) (d:Dd),vs=[.ref A.p,.int (h:Int),.ref t]/\k6 K H A g st os/\h<2/\H t=some (.tup d.vs)/\d.sp / g.size∈g.U /\
 ∀ H' e' os' tp,H' tp=some (.tup [Lv g h st d,.ref A.ev])->k6 K H' (A.re e') g (gM (dJ g h d st)) os'->k8 g.n H' A.ev (dJ g h d st).ev->(dJ g h d st).ev.length<=100->¬ OW (A.re e') os' A.ev->bM (OW A os) H H' (OW (A.re e') os')->Q (.ref tp) H'
theorem W5 (F:aY K "_law_done" "_law_done" Ie f fd) (T:Txt K mg) (E3:ay P w K mg base (aa K "Beside") "read" 15 JZ (OH K)) (EI:ay P w K mg base (aa K "Beside") "write" 15 KG (O9 K)):au P w K mg base aW 16 f fd Ic (NN K):=by
 refine F.ok nV (λvs H Q E h=>?_) (λcdv A outer s0 H vs Q E hr h=>?_)
 .obtain ⟨A,g,st,os,t,h,d,rfl,_⟩:=h
  rfl
 obtain ⟨A,g,st,os,t,h,d,rfl,R,hh,ht,bU,q⟩:=h
 have nd:=nV.nd
 have hu:=bJ hr
 refine ⟨_,(Ze (aJ (ZD bB (av (m7 (K:=K) rfl) (pv 2) Zj (λ_ _=>rfl)) kB (Zz _)) (Zi (Zt (Zk E3 hr.m T.aO (pv 0) (pc (pv 1) (pc (av (m7 (K:=K) rfl) (pv 2) Zj (λ_ _=>rfl)) Zb))))) Zu)
   (Zi (Zt (j6 (pc N8 (pc (Zk EI hr.m T.aO (pv 0) (pc (pv 1) (pc (av (m7 (K:=K) rfl) (pv 2) Zj (λ_ _=>rfl)) (pc (av (m7 (K:=K) rfl) (pv 2) Zj (λ_ _=>rfl)) Zb)))) Zb)))))),?_⟩
 obtain ⟨dx,h1⟩:=R.at_.ob
 cases d with
 | rd sp =>
  refine ⟨_,rfl,t,_,_,_,rfl,rfl,aZ.of ht,eS,rfl,_,rfl,fq (a6t rfl) ?_⟩
  exact ⟨_,rfl,A.p,dx,_,rfl,h1,aA ..,_,rfl,_,rfl,t,_,_,_,rfl,rfl,aZ.of ht,iz,A,g,st,os,h,sp,rfl,R,hh,bU,q⟩
 | wt sp x =>
  refine ⟨_,rfl,t,_,_,_,rfl,rfl,aZ.of ht,eS,rfl,_,rfl,cT (by decide +kernel) ?_⟩
  dsimp only [gg]
  refine ⟨_,rfl,A.p,dx,_,rfl,h1,aA ..,_,rfl,_,rfl,t,_,_,_,rfl,rfl,aZ.of ht,iz,_,rfl,t,_,_,_,rfl,rfl,aZ.of ht,j5,A,g,st,os,h,sp,x,rfl,R,hh,bU,λH2 e' bG r1 r2 r3 r4 r5=>⟨(sl 2),λtp htp=>?_⟩⟩
  have s3:=Zf htp (.tup [V.aR,.ref A.ev])
  exact q _ e' bG tp Za (r1.same s3) (r2.frame (λo e=>s3 _ _ e) λx ys e=>s3 _ _ e) r3 r4 (r5.trans (bM.same s3))
theorem W4 {g:aU} {st:ao} {h:Nat} {d:Dd} {bk:Int->Int} {x:Int} (hs:0<g.size) (w:aM g st) (hh:h<2) (l:∀ x,Lw g bk x st):Lw g (HG bk d) x (gM (dJ g h d st)):=by
 cases d with
 | rd sp=>exact (IK hs w hh (l x)).gM
 | wt sp v=>exact (Wa hs w hh l).gM
structure Q2 (H H':Hp) (A A':TA) (os os':OS) (bd:Addr):Prop where
 kp:∀ x o,H x=some o->(OW A os x->¬ Mt o)->x≠bd->H' x=some o
 fr:∀ x,OW A' os' x->OW A os x\/H x=none
def N3 (K:W.Frag):Sp:=λvs H Q _=>∃ (A:TA) (g:aU) (st:ao) (os:OS) (t bd:Addr) (h:Nat) (d:Dd) (bk:Int->Int) (n:Nat),vs=[.ref A.p,.int (h:Int),.ref t,.ref bd]/\k6 K H A g st os/\h<2/\H t=some (.tup d.vs)/\d.sp / g.size∈g.U/\(∀ x,Lw g bk x st)/\j7 H bd bk n/\n<=900/\¬ OW A os bd /\
 ∀ H' e' os' tp,H' tp=some (.tup [.bl true,.ref A.ev])->k6 K H' (A.re e') g (gM (dJ g h d st)) os'->k8 g.n H' A.ev (dJ g h d st).ev->(dJ g h d st).ev.length<=100->¬ OW (A.re e') os' A.ev->j7 H' bd (HG bk d) (n+1)->(∀ x,Lw g (HG bk d) x (gM (dJ g h d st)))->Q2 H H' A (A.re e') os os' bd->Q (.ref tp) H'
theorem W3 (F:aY K "_law_told" "_law_told" Ib f fd) (T:Txt K mg) (GH:Def P w K mg base "_law_done" 16 Ic (NN K)) (Aq:∀ n,Def P w K mg base "_law_same" (n+1) rY (yE n)):au P w K mg base aW 17 f fd Ia (N3 K):=by
 refine F.ok nL (λvs H Q E h=>?_) (λcdv A outer s0 H vs Q E hr h=>?_)
 .obtain ⟨A,g,st,os,t,bd,h,d,bk,n,rfl,_⟩:=h
  rfl
 obtain ⟨A,g,st,os,t,bd,h,d,bk,n,rfl,R,hh,ht,bU,lw,⟨kvs,h2,h3,h4⟩,n9,Aa,q⟩:=h
 have nd:=nL.nd
 have hu:=bJ hr
 have mK:=Aq 0
 refine ⟨_,(Ze (aJ (ZD bB (av (m7 (K:=K) rfl) (pv 2) Zj (λ_ _=>rfl)) kB (Zz _)) (Zi (By hu (pv 3) (av (m7 (K:=K) rfl) (pv 2) Zj (λ_ _=>rfl)) (av (m7 (K:=K) rfl) (pv 2) Zj (λ_ _=>rfl)) rfl)) Zu)
   (Ze (lY (Zm GH hr.m rfl (pc (pv 0) (pc (pv 1) (pc (pv 2) Zb)))) (mz (K:=K) (n:=2) rfl rfl (Zr (ck 4 nd) (Zr (ck 5 nd) ZY))))
   (Zi (Zt (j6 (pc (zJ (pV bB (av (m7 (K:=K) rfl) (pv 2) Zj (λ_ _=>rfl)) kB (Zz _)) (Bo (Zm mK hr.m rfl (pc (pv 4) (pc (Ph hu (pv 3) (av (m7 (K:=K) rfl) (pv 2) Zj (λ_ _=>rfl)) Zj ⟨rfl,rfl,rfl,rfl⟩) Zb))))) (pc (pv 5) Zb))))))),?_⟩
 have hs:0<g.size:=by have:=R.at_.wf.z0; lia
 have nt:t≠bd:=λz=>by rw [z,h2] at ht; cases ht
 have pQ:=λx=>W4 (x:=x) (d:=d) hs R.ok hh lw
 cases d with
 | wt sp v =>
  have off:∀ {x o},H x=some o->x≠bd->upd H bd (.dK (putK kvs (Sum.inl sp) (V.int v))) x=some o:=λ{x o} e n=>by rw [Zc n]; exact e
  have R1:k6 K (upd H bd (.dK (putK kvs (Sum.inl sp) (V.int v)))) A g st os:=R.frame λx o e z=>off e λy=>by
   subst y
   rcases z with z | z
   .exact Aa z
   .rw [h2] at e; cases e; exact z trivial
  have ht1:=off ht nt
  refine ⟨_,rfl,t,_,_,_,rfl,rfl,aZ.of ht,eS,rfl,_,rfl,fq (a6t rfl) ?_⟩
  refine ⟨_,rfl,t,_,_,_,rfl,rfl,aZ.of ht,j5,_,rfl,_,rfl,t,_,_,_,rfl,rfl,aZ.of ht,iz,bd,_,rfl,jO.k (k:=Sum.inl sp) h2 (ZE (by have:=h3.1; lia)),?_⟩
  refine ⟨_,rfl,_,rfl,_,rfl,A,g,st,os,t,h,.wt sp v,rfl,R1,hh,ht1,bU,λH2 e' bG tp tO r1 r2 r3 r4 r5=>⟨tp,_,rfl,aZ.of tO,rfl,_,_,rfl,gN ⟨_,_,rfl,gN ⟨rfl,?_⟩⟩⟩⟩
  try dsimp only
  have UB:=tups r5 ht1
  refine ⟨_,rfl,t,_,_,_,rfl,rfl,aZ.of UB,eS,rfl,_,rfl,fq (a6t rfl) ⟨_,rfl,(sl 2),λxN wo=>?_⟩⟩
  have s3:=Zf wo (.tup [.bl true,.ref A.ev])
  refine q _ e' bG xN Za (r1.same s3) (k8.frame r2 (λo e=>s3 _ _ e) λx ys e=>s3 _ _ e) r3 r4 ((j7.put h3 h4 sp v).frame λo e=>s3 _ _ (r5.out e Aa).1) pQ ⟨λx o e n nb=>s3 _ _ (r5.kp x o (off e nb) n),λx z=>(r5.fr x z).imp id λz=>?_⟩
  by_cases c:x=bd
  .rw [c,Za] at z; cases z
  .rw [Zc c] at z; exact z
 | rd sp =>
  refine ⟨_,rfl,t,_,_,_,rfl,rfl,aZ.of ht,eS,rfl,_,rfl,cT (by decide +kernel) ?_⟩
  dsimp only [gg]
  refine ⟨_,rfl,_,rfl,_,rfl,A,g,st,os,t,h,.rd sp,rfl,R,hh,ht,bU,λH1 e' bG tp tO r1 r2 r3 r4 r5=>⟨tp,_,rfl,aZ.of tO,rfl,_,_,rfl,gN ⟨_,_,rfl,gN ⟨rfl,?_⟩⟩⟩⟩
  try dsimp only
  have wl:ju g ((dJ g h (.rd sp) st).at_ h) sp=bk sp:=YA hs R.ok hh (lw _)
  have ew:Lv g h st (.rd sp)=.int (bk sp):=a5E V.int wl
  rw [ew]
  obtain ⟨hb1,nb1⟩:=r5.out h2 Aa
  have ht1:=tups r5 ht
  have gq:=eu.k (k:=Sum.inl sp) hb1
  refine ⟨_,rfl,t,_,_,_,rfl,rfl,aZ.of ht1,eS,rfl,_,rfl,cT (by decide +kernel) ⟨_,rfl,_,rfl,bd,rfl,.inl ⟨_,.inl hb1⟩,_,rfl,t,_,_,_,rfl,rfl,aZ.of ht1,iz,_,gq,?_⟩⟩
  rw [h4]
  refine ⟨_,_,rfl,⟨rfl,trivial⟩,λG s2=>⟨_,rfl,(sl 2),λxN wo=>?_⟩⟩
  have s3:=s2.trans (Zf wo (.tup [.bl true,.ref A.ev]))
  exact q _ e' bG xN Za (r1.same s3) (k8.frame r2 (λo e=>s3 _ _ e) λx ys e=>s3 _ _ e) r3 r4 ⟨kvs,s3 _ _ hb1,⟨by have:=h3.1; lia,h3.2⟩,h4⟩ pQ ⟨λx o e n nb=>s3 _ _ (r5.kp x o e n),λx z=>r5.fr x z⟩
end
section
def Qh (K:W.Frag):Sp:=λvs H Q _=>∃ (A:TA) (g:aU) (st:ao) (os:OS) (n k:Nat),vs=[.ref A.p,.int (k:Int)]/\af K H A g st os n/\k<g.n/\g.U.length<64/\∀ (D:Addr) (cs:List Int),H D=none->(∀ x,x∈cs↔(st.at_ k).fr x=true)->cs.length<64->cs.Pairwise (·<=·)->cs.Nodup->Q (.ref D) (upd H D (.lst (cs.map V.int)))
theorem Zee (F:aY K "changed" "Steps.changed" Ku f fd) (T:Txt K mg) (sL:ay P w K mg base (aa K "Beside") "store" 1 BV (D8 K)):au P w K mg base aW 2 f fd Ks (Qh K):=by
 refine F.ok dQ (λvs H Q E h=>?_) (λcdv A outer s0 H vs Q E hr h=>?_)
 .obtain ⟨A,g,st,os,n,k,rfl,_⟩:=h
  rfl
 obtain ⟨A,g,st,os,n,k,rfl,R,hk,hU,q⟩:=h
 have nd:=dQ.nd
 refine ⟨_,(Zi (Zt (Zs (QX rfl) rfl T.vA agm (pc (Zl (K:=K) rfl (Zk sL hr.m T.aO (pv 0) (pc (pv 1) Zb)) rfl) Zb)))),?_⟩
 obtain ⟨dx,h1⟩:=R.ob
 have ln:=R.ln
 obtain ⟨a,e1,e2,e3,B⟩:=R.at_ (k:=k) (by lia)
 obtain ⟨ds,h3⟩:=B.aT.ob
 obtain ⟨kf,h4,⟨ks,h5,h6⟩,h7⟩:=B.fresh
 have mem:∀ b,b∈ks↔(st.at_ k).fr b=true:=λb=>by
  have z:=tT (kvs:=kf) (Sum.inl b)
  rw [h7 b,h5] at z
  constructor
  .intro m
   have:=z.mpr (ar1 m)
   by_cases c:(st.at_ k).fr b=true
   .exact c
   .rw [aYW c] at this; cases this
  .intro m
   rw [bb9 m] at z
   obtain ⟨x,hx,e⟩:=auF.mp (z.mp rfl)
   rw [← akX e]; exact hx
 have Mb:ks.length<64:=aOj (xg h6 λx hx=>R.pY _ (axK e3) x (B.qQ x ((mem x).mp hx))) hU
 exact ⟨_,rfl,A.p,dx,_,rfl,h1,aA ..,_,rfl,A,g,st,os,n,k,a,rfl,R,e1,a.sp,_,ds,_,_,rfl,h3,T.eG,T.xY,BD ..,a.df,kf,ks,rfl,h4,h5,Mb,λD cs hD po pw=>q D cs hD (λx=>po.mem_iff.trans (mem x)) (by rw [po.length_eq]; exact Mb) pw (po.nodup_iff.mpr h6)⟩
end
section
theorem O0 {os os' seq:List Int} (p:os.Perm seq) (f:os.Pairwise (·<=·)) (p':os'.Perm seq) (f':os'.Pairwise (·<=·)):os=os':=IW (λa b h1 h2=>Int.le_antisymm h1 h2) (p.trans p'.symm) f f'
theorem af.L7 {H:Hp} {A:TA} {g:aU} {st:ao} {os:OS} {n:Nat} (T:af K H A g st os n) {k:Nat} (hk:k<g.n):(st.at_ k).seq.length<=g.U.length:=by
 have ln:=T.ln
 obtain ⟨a,e1,e2,e3,B⟩:=T.at_ (k:=k) (by lia)
 exact xg B.aT.room.nd λx hx=>T.pY _ (axK e3) x hx
structure RL (G:Hp) (as:List Addr) (L:List (List Int)) (Pr:Nat->List Int->Prop):Prop where
 len:as.length=L.length
 at_:∀ (t:Nat) (a:Addr) (o:List Int),as[t]?=some a->L[t]?=some o->G a=some (.lst (o.map V.int))
 pr:∀ (t:Nat) (o:List Int),L[t]?=some o->Pr t o
theorem RL.nil {G:Hp} {Pr:Nat->List Int->Prop}:RL G [] [] Pr:=⟨rfl,λt a o h=>(nomatch h),λt o h=>(nomatch h)⟩
theorem RL.keep {G G1:Hp} {as:List Addr} {L:List (List Int)} {Pr:Nat->List Int->Prop} (h:RL G as L Pr) (f:∀ a∈as,∀ o,G a=some o->G1 a=some o):RL G1 as L Pr:=⟨h.len,λt a o e1 e2=>f a (axK e1) _ (h.at_ t a o e1 e2),h.pr⟩
theorem RL.snoc {G:Hp} {as:List Addr} {L:List (List Int)} {Pr:Nat->List Int->Prop} {a:Addr} {o:List Int} (h:RL G as L Pr) (e:G a=some (.lst (o.map V.int))) (p:Pr L.length o):RL G (as++[a]) (L++[o]) Pr:=by
 have hl:=h.len
 have key:∀ {α:Type} {xs:List α} {x y:α} {t:Nat},(xs++[x])[t]?=some y->(t<xs.length/\xs[t]?=some y)\/(t=xs.length/\y=x):=λ{α xs x y t} e=>by
  by_cases c:t<xs.length
  .rw [aOW c] at e; exact .inl ⟨c,e⟩
  .have l:=(aK1.mp e).1
   rw [aAe,aOg] at l
   have ht:t=xs.length:=by lia
   subst ht
   rw [aRD (aDN _),amh] at e
   cases e
   exact .inr ⟨rfl,rfl⟩
 refine ⟨by rw [aAe,aAe,hl]; rfl,λt b u e1 e2=>?_,λt u e2=>?_⟩
 .rcases key e1 with ⟨c1,d1⟩ | ⟨c1,d1⟩
  .rcases key e2 with ⟨_,d2⟩ | ⟨c2,_⟩
   .exact h.at_ t b u d1 d2
   .lia
  .rcases key e2 with ⟨c2,_⟩ | ⟨_,d2⟩
   .lia
   .rw [d1,d2]; exact e
 .rcases key e2 with ⟨_,d2⟩ | ⟨c2,d2⟩
  .exact h.pr t u d2
  .rw [c2,d2]; exact p
def cut (l m:Addr) (G:Hp):Hp:=λx=>if x=l\/x=m then none else G x
theorem BB {l m a:Addr} {G:Hp} {o:HO} (e:G a=some o) (n1:a≠l) (n2:a≠m):cut l m G a=some o:=by
 unfold cut
 rw [aYW λz=>z.elim n1 n2]
 exact e
theorem DM {l m a:Addr} {G:Hp} {o:HO} (e:cut l m G a=some o):G a=some o/\a≠l/\a≠m:=by
 unfold cut at e
 split at e
 .cases e
 .rename_i n
  exact ⟨e,λz=>n (.inl z),λz=>n (.inr z)⟩
theorem RL.cut {l m l' m':Addr} {G G1:Hp} {as:List Addr} {L:List (List Int)} {Pr:Nat->List Int->Prop} (h:RL (cut l m G) as L Pr) (f:∀ x o,G x=some o->x≠l->x≠m->G1 x=some o/\x≠l'/\x≠m'):RL (cut l' m' G1) as L Pr:=h.keep λa _ o e=>by
 obtain ⟨e1,n1,n2⟩:=DM e
 obtain ⟨e2,n3,n4⟩:=f a o e1 n1 n2
 exact BB e2 n3 n4
def P1 (st:ao) (t:Nat) (o:List Int):Prop:=o.Perm (st.at_ t).seq/\o.Pairwise (·<=·)/\o.length<=100
def P2 (st:ao) (t:Nat) (o:List Int):Prop:=(∀ x,x∈o↔(st.at_ t).fr x=true)/\o.Pairwise (·<=·)/\o.Nodup/\o.length<=100
def t7 (G:Hp) (F:Addr) (st:ao):Prop:=∃ (as bs:List Addr) (L M:List (List Int)),G F=some (.lst ((as++bs).map V.ref))/\as.length=3/\bs.length=3/\RL G as L (P1 st)/\RL G bs M (P2 st)
theorem t7.same {G G1:Hp} {F:Addr} {st:ao} (h:t7 G F st) (s:aB G G1):t7 G1 F st:=by
 obtain ⟨as,bs,L,M,e,l1,l2,r1,r2⟩:=h
 exact ⟨as,bs,L,M,s _ _ e,l1,l2,r1.keep λa _ o e=>s _ _ e,r2.keep λa _ o e=>s _ _ e⟩
theorem t7.eqv {G:Hp} {F F':Addr} {st st':ao} (h:t7 G F st) (h':t7 G F' st') (sm:Sm st st'):Eqv 2 G (.ref F) (.ref F'):=by
 obtain ⟨as,bs,L,M,e,l1,l2,r1,r2⟩:=h
 obtain ⟨as',bs',L',M',e',Ah,Us,r1',r2'⟩:=h'
 refine .inr ⟨F,F',_,_,rfl,rfl,.inl ⟨e,e'⟩,by simp only [aUH,aAe]; lia,by simp only [aUH,aAe]; lia,λi u v q1 q2=>?_⟩
 rw [aJm] at q1 q2
 cases g1:(as++bs)[i]? with
 | none=>rw [g1] at q1; cases q1
 | some a =>
  cases g2:(as'++bs')[i]? with
  | none=>rw [g2] at q2; cases q2
  | some a' =>
   rw [g1] at q1; rw [g2] at q2
   cases q1; cases q2
   have fin:∀ {o o':List Int},G a=some (.lst (o.map V.int))->G a'=some (.lst (o'.map V.int))->o=o'->o.length<=100->Eqv 1 G (.ref a) (.ref a'):=λ{o o'} x1 x2 x3 x4=>by
    subst x3
    exact Eqv.flat x1 x2 (by rw [aUH]; lia) λx hx=>by
     obtain ⟨y,_,rfl⟩:=auF.mp hx
     trivial
   by_cases c:i<3
   .rw [aOW (by lia)] at g1 g2
    obtain ⟨o,eo⟩:∃ o,L[i]?=some o:=⟨_,aJu (by have:=r1.len; lia)⟩
    obtain ⟨o',AX⟩:∃ o,L'[i]?=some o:=⟨_,aJu (by have:=r1'.len; lia)⟩
    obtain ⟨p1,p2,p3⟩:=r1.pr i o eo
    obtain ⟨p1',p2',_⟩:=r1'.pr i o' AX
    rw [← (sm.at_ i).1] at p1'
    exact fin (r1.at_ i a o g1 eo) (r1'.at_ i a' o' g2 AX) (O0 p1 p2 p1' p2') p3
   .rw [aRD (by lia)] at g1 g2
    rw [l1] at g1
    rw [Ah] at g2
    have hi:=(aK1.mp g1).1
    obtain ⟨o,eo⟩:∃ o,M[i - 3]?=some o:=⟨_,aJu (by have:=r2.len; lia)⟩
    obtain ⟨o',AX⟩:∃ o,M'[i - 3]?=some o:=⟨_,aJu (by have:=r2'.len; lia)⟩
    obtain ⟨p1,p2,p3,p4⟩:=r2.pr (i - 3) o eo
    obtain ⟨p1',p2',Ti,_⟩:=r2'.pr (i - 3) o' AX
    have pm:o'.Perm o:=(aoa Ti p3).mpr λx=>by rw [p1,p1',(sm.at_ (i - 3)).2.2]
    exact fin (r2.at_ (i - 3) a o g1 eo) (r2'.at_ (i - 3) a' o' g2 AX) (O0 (List.Perm.refl _) p2 pm p2') p4
def NL (K:W.Frag):Sp:=λvs H Q _=>∃ (A A':TA) (g:aU) (st st':ao) (os os':OS) (n n':Nat),vs=[.ref A.p,.ref A'.p]/\af K H A g st os n/\af K H A' g st' os' n'/\g.n=3/\Sm st st'/\g.U.length<=21/\∀ H',aB H H'->Q (.bl true) H'
theorem W0 (F:aY K "_law_like" "_law_like" yr f fd) (T:Txt K mg) (vK:ay P w K mg base (aa K "Beside") "lies" 2 Ey (HW K)) (EK:ay P w K mg base (aa K "Beside") "changed" 2 Ks (Qh K)) (Aq:∀ n,Def P w K mg base "_law_same" (n+1) rY (yE n)):au P w K mg base aW 16 f fd HZ (NL K):=by
 refine F.ok nU (λvs H Q E h=>?_) (λcdv A0 outer s0 H vs Q E hr h=>?_)
 .obtain ⟨A,A',g,st,st',os,os',n,n',rfl,_⟩:=h
  rfl
 obtain ⟨A,A',g,st,st',os,os',n,n',rfl,R,R',g3,sm,ED,k⟩:=h
 have nd:=nU.nd
 have hu:=bJ hr
 have mK:=Aq 2
 refine ⟨_,(Ze (Px 2 (sj (gy:=(Zg yr)) (oN:=nv) (N:=["_law_pair_here"]) (own:=1) (js:=[]) (by decide +kernel) rfl rfl) rfl nd rfl rfl (DR (K:=K) rfl (j6 (pc (pv 0) (pc (pv 1) Zb)))) (λ_ _ _ _ _ _=>(ck 0 (show List.Nodup (["_law_pair_here"]:List Str) by decide +kernel))) (λ_ _ _ _ _ _=>(ak VV (vh (QD (gy:=(Zg yr)) (oN:=["_law_pair_here"]) (N:=["_law_k", "_law_pair_here"]) (own:=1) (js:=[0]) rfl rfl rfl (by decide +kernel)) rfl (sr rfl T.oR (pc Zj Zb)) (λ_ _ _ _ _ _=>(ck 0 (show List.Nodup (["_law_k", "_law_pair_here"]:List Str) by decide +kernel))) (λ_ _ _ _ _ _=>(Zk vK hr.m T.aO (pv 1) (pc (pv 0) Zb)))) (vh (QD (gy:=(Zg yr)) (oN:=["_law_pair_here"]) (N:=["_law_k", "_law_pair_here"]) (own:=1) (js:=[0]) rfl rfl rfl (by decide +kernel)) rfl (sr rfl T.oR (pc Zj Zb)) (λ_ _ _ _ _ _=>(ck 0 (show List.Nodup (["_law_k", "_law_pair_here"]:List Str) by decide +kernel))) (λ_ _ _ _ _ _=>(Zk EK hr.m T.aO (pv 1) (pc (pv 0) Zb)))))))
   (Zi (Zt (Zm mK hr.m rfl (pc (av (Zo (K:=K) rfl) (pv 2) Zj (λ_ _=>rfl)) (pc (av (Zo (K:=K) rfl) (pv 2) Zj (λ_ _=>rfl)) Zb)))))),?_⟩
 refine ⟨_,rfl,_,rfl,(sl 2),λtp htp=>⟨tp,rfl,⟨_,aZ.of Za⟩,λlz AE=>?_⟩⟩
 have s1:=Zf htp (.tup [V.ref A.p,V.ref A'.p])
 have tO:=Za (H:=H) (a:=tp) (o:=.tup [V.ref A.p,V.ref A'.p])
 generalize upd H tp (.tup [V.ref A.p,V.ref A'.p])=H1 at *
 refine Po (K:=K) (a:=tp) (xs:=[V.ref A.p,V.ref A'.p]) (l:=lz) (λj ys σ G=>∃ (v0:Option V) (Fs:List Addr),σ=[v0]/\ys=Fs.map V.ref/\Fs.length=j/\G lz=some (.lst ys)/\aB H1 G/\∀ i F,Fs[i]?=some F->t7 (cut lz lz G) F (if i=0 then st else st')) ⟨none,[],rfl,rfl,rfl,Za,Zf AE _,λi F h=>(nomatch h)⟩ (λj ys σ G _ ⟨_,_,_,_,_,_,s,_⟩=>aZ.of (s _ _ tO)) ?_ ?_
 .rintro j x ys σ G hj uO hys ⟨v0,Fs,rfl,rfl,hlen,gl,s2,all⟩
  have hj2:j<2:=hj
  have s12:=s1.trans s2
  obtain ⟨B,uo,CM,m,ex,RB,eb⟩:∃ (B:TA) (uo:ao) (CM:OS) (m:Nat),V.ref B.p=x/\af K G B g uo CM m/\uo=if j=0 then st else st':=by
   rcases (show j=0\/j=1 by lia) with rfl | rfl
   .exact ⟨A,st,os,n,a6S uO,R.same s12,rfl⟩
   .exact ⟨A',st',os',n',a6S uO,R'.same s12,rfl⟩
  subst ex
  obtain ⟨dx,ob⟩:=RB.ob
  have few:∀ i,i<3->(uo.at_ i).seq.length<=21:=λi hi=>auj (RB.L7 (by lia)) ED
  refine ⟨_,rfl,by lia,by lia,λl1 hl1=>?_⟩
  have n1z:l1≠lz:=λz=>by rw [z,gl] at hl1; cases hl1
  refine yI (lo:=0) (n:=(3:Int).toNat) (l:=l1) (λi ys σ G'=>∃ (v0:Option V) (as:List Addr) (L:List (List Int)),σ=[v0,some (.ref B.p)]/\ys=as.map V.ref/\as.length=i/\G' l1=some (.lst ys)/\aB G G'/\RL (cut l1 lz G') as L (P1 uo)) ⟨none,[],[],rfl,rfl,rfl,Za,Zf hl1 _,RL.nil⟩ ?_ ?_
  .rintro i ys σ G' hi wm ⟨v0,as,L,rfl,rfl,la,g1,s3,rl⟩
   have uS:i<3:=hi
   have e0:(0:Int)+(i:Int)=(i:Int):=by lia
   refine ⟨_,rfl,B.p,dx,_,rfl,s3 _ _ ob,aA ..,_,rfl,B,g,uo,CM,m,i,by rw [e0]; rfl,RB.same s3,by lia,by have:=few i uS; lia,λD bs hD pb pw=>?_⟩
   have Ab:D≠l1:=λz=>by rw [z,g1] at hD; cases hD
   have F8:D≠lz:=λz=>by rw [z,s3 _ _ gl] at hD; cases hD
   have s4:=Zf hD (.lst (bs.map V.int))
   refine kW.of (auj (by show 3<=5; decide:(3:Int).toNat<=5) (by decide)) hi wm (s4 _ _ g1) ⟨_,as++[D],L++[bs],rfl,by rw [aIO]; rfl,by rw [aAe,la]; rfl,Za,λx o e=>?_,?_⟩
   .rw [Zc (Zd e hl1)]
    exact s4 _ _ (s3 _ _ e)
   .refine (rl.cut (l':=l1) (m':=lz) λx o e n1 n2=>⟨by rw [Zc n1]; exact s4 _ _ e,n1,n2⟩).snoc (BB (by rw [Zc Ab]; exact Za) Ab F8) ?_
    have ll:=rl.len
    rw [← ll,la]
    exact ⟨pb,pw,by rw [pb.length_eq]; have:=few i uS; lia⟩
  rintro ys σ G3 _ ⟨v0',as,L,rfl,rfl,la,g1,s3,rl⟩
  have Ma:as.length=3:=la
  refine ⟨_,rfl,by lia,by lia,λl2 hl2=>?_⟩
  have n2z:l2≠lz:=λz=>by rw [z,s3 _ _ gl] at hl2; cases hl2
  have n21:l2≠l1:=λz=>by rw [z,g1] at hl2; cases hl2
  have RB3:=RB.same s3
  have FU:=s3 _ _ ob
  have yl:=s3 _ _ gl
  refine yI (lo:=0) (n:=(3:Int).toNat) (l:=l2) (λi ys σ G'=>∃ (v0:Option V) (cs:List Addr) (M:List (List Int)),σ=[v0,some (.ref B.p)]/\ys=cs.map V.ref/\cs.length=i/\G' l2=some (.lst ys)/\aB G3 G'/\RL (cut l2 lz G') cs M (P2 uo)) ⟨none,[],[],rfl,rfl,rfl,Za,Zf hl2 _,RL.nil⟩ ?_ ?_
  .rintro i ys σ G' hi wm ⟨v0,cs,M,rfl,rfl,lc,g2,s4,CI⟩
   have uS:i<3:=hi
   have e0:(0:Int)+(i:Int)=(i:Int):=by lia
   refine ⟨_,rfl,B.p,dx,_,rfl,s4 _ _ FU,aA ..,_,rfl,B,g,uo,CM,m,i,by rw [e0]; rfl,RB3.same s4,by lia,by lia,λD bs hD mb lb pw T9=>?_⟩
   have Ab:D≠l2:=λz=>by rw [z,g2] at hD; cases hD
   have F8:D≠lz:=λz=>by rw [z,s4 _ _ yl] at hD; cases hD
   have s5:=Zf hD (.lst (bs.map V.int))
   refine kW.of (auj (by show 3<=5; decide:(3:Int).toNat<=5) (by decide)) hi wm (s5 _ _ g2) ⟨_,cs++[D],M++[bs],rfl,by rw [aIO]; rfl,by rw [aAe,lc]; rfl,Za,λx o e=>?_,?_⟩
   .rw [Zc (Zd e hl2)]
    exact s5 _ _ (s4 _ _ e)
   .refine (CI.cut (l':=l2) (m':=lz) λx o e n1 n2=>⟨by rw [Zc n1]; exact s5 _ _ e,n1,n2⟩).snoc (BB (by rw [Zc Ab]; exact Za) Ab F8) ?_
    have ll:=CI.len
    rw [← ll,lc]
    exact ⟨mb,pw,T9,by lia⟩
  rintro ys σ G4 _ ⟨SH,cs,M,rfl,rfl,lc,g2,s4,CI⟩
  have L8:cs.length=3:=lc
  refine ⟨l1,l2,_,_,rfl,rfl,s4 _ _ g1,g2,(by rw [aUH,aUH,Ma,L8]; decide),λF hF=>?_⟩
  have s5:=Zf hF (.lst (as.map V.ref++cs.map V.ref))
  have U6:=s5 _ _ (s4 _ _ yl)
  have F7:F≠lz:=λz=>by rw [z,s4 _ _ yl] at hF; cases hF
  refine kW.of (sl 2) hj hys U6 ⟨_,Fs++[F],rfl,by rw [aIO]; rfl,by rw [aAe,hlen]; rfl,Za,λx o e=>?_,λi F' e=>?_⟩
  .rw [Zc (Zd e AE)]
   exact s5 _ _ (s4 _ _ (s3 _ _ (s2 _ _ e)))
  .by_cases c:i<Fs.length
   .rw [aOW c] at e
    refine (all i F' e).same λx o e=>?_
    obtain ⟨e1,n1,_⟩:=DM e
    exact BB (by rw [Zc n1]; exact s5 _ _ (s4 _ _ (s3 _ _ e1))) n1 n1
   .have l:=(aK1.mp e).1
    rw [aAe,aOg] at l
    have hi:i=Fs.length:=by lia
    rw [aRD (by lia),hi,amh] at e
    cases e
    rw [hi,hlen,← eb]
    refine ⟨as,cs,L,M,BB (by rw [Zc F7,Za,aIO]) F7 F7,Ma,L8,rl.cut λx o e n1 n2=>⟨by rw [Zc n2]; exact s5 _ _ (s4 _ _ e),n2,n2⟩,CI.cut λx o e n1 n2=>⟨by rw [Zc n2]; exact s5 _ _ e,n2,n2⟩⟩
 rintro ys σ G _ ⟨v0,Fs,rfl,rfl,hl,gl,s2,all⟩
 have hl2:Fs.length=2:=hl
 obtain ⟨F0,e0⟩:∃ F,Fs[0]?=some F:=⟨_,aJu (by lia)⟩
 obtain ⟨F1,e1⟩:∃ F,Fs[1]?=some F:=⟨_,aJu (by lia)⟩
 have k0:t7 G F0 st:=(all 0 F0 e0).same λx o e=>(DM e).1
 have k1:t7 G F1 st':=(all 1 F1 e1).same λx o e=>(DM e).1
 refine gN ?_
 try dsimp only
 exact ⟨_,rfl,lz,_,_,_,rfl,rfl,aG.of gl,pq (j:=0) (by rw [aJm,e0]; rfl),_,rfl,lz,_,_,_,rfl,rfl,aG.of gl,pq (j:=1) (by rw [aJm,e1]; rfl),_,_,rfl,k0.eqv k1 sm,λG9 s9=>k _ ((s1.trans s2).trans s9)⟩
end
theorem Ai {kvs:List (Key×V)} {ks:List Int} {mem:Int->Int} (h:kvs.map Prod.fst=ks.map Sum.inl) (nd:ks.Nodup) (hv:∀ s,aN kvs (Sum.inl s:Key)=if mem s=0 then none else some (.int (mem s))):kvs=(ks.map λk=>(k,mem k)).map λp=>(Sum.inl p.1,V.int p.2):=by
 have key:∀ {kvs:List (Key×V)} {ks:List Int},kvs.map Prod.fst=ks.map Sum.inl->ks.Nodup->(∀ k∈ks,aN kvs (Sum.inl k:Key)=some (.int (mem k)))->kvs=(ks.map λk=>(k,mem k)).map λp=>(Sum.inl p.1,V.int p.2):=by
  intro kvs
  induction kvs with
  | nil =>
   intro ks h _ _
   cases ks with
   | nil=>rfl
   | cons k r=>cases h
  | cons p r ih =>
   intro ks h nd hv
   cases ks with
   | nil=>cases h
   | cons k ks =>
    rw [aSD,aSD] at h
    injection h with h1 h2
    obtain ⟨n1,n2⟩:=a6A.mp nd
    have v0:=hv k aq5
    rw [ZP h1] at v0
    rw [aSD,aSD,← ih h2 n2 λk' m=>by
     have v:=hv k' (asq _ m)
     rw [ZJ λz=>n1 (by rw [akX (h1.symm.trans z)]; exact m)] at v
     exact v]
    rw [← h1,← a6S v0]
 refine key h nd λk m=>?_
 have z:=(tT (kvs:=kvs) (Sum.inl k)).mpr (by rw [h]; exact ar1 m)
 have v:=hv k
 by_cases c:mem k=0
 .rw [bb9 c] at v; rw [v] at z; cases z
 .rw [aYW c] at v; exact v
section
def N2 (K:W.Frag):Sp:=λvs H Q _=>∃ (bm dk:Addr) (size:Int) (mem:Int->Int) (U:List Int),vs=[.ref bm]/\d9 K H bm dk size mem U/\0<size/\size<=1000/\U.length<=800 /\
 ∀ (D:Addr) (ps:List (Int×Int)) (H':Hp),H D=none->aB H H'->kT H' D ps->tY mem ps->Q (.ref D) H'
theorem ZeU (F:aY K "pairs" "Memory.pairs" KR f fd) (T:Txt K mg):au P w K mg base aW 1 f fd KQ (N2 K):=by
 refine F.ok e8 (λvs H Q E h=>?_) (λcdv A outer s0 H vs Q E hr h=>?_)
 .obtain ⟨bm,dk,size,mem,U,rfl,_⟩:=h
  rfl
 obtain ⟨bm,dk,size,mem,U,rfl,M,z0,z1,lU,q⟩:=h
 have nd:=e8.nd
 refine ⟨_,(Zi (Zt (Zs (ZgS rfl) rfl T.vA agm (pc (YX (Zl (K:=K) rfl (pv 0) rfl)) Zb)))),?_⟩
 obtain ⟨dx,h1⟩:=M.ob
 obtain ⟨kvs,h2,hk,h4⟩:=M.kept
 have kl:=N9 z0 hk h4 M.sup
 obtain ⟨ks,h5,h6⟩:=hk
 have ek:=Ai h5 h6 h4
 rw [ek] at h2
 have mk:∀ k,k∈ks↔mem k≠0:=λk=>by
  have z:=tT (kvs:=kvs) (Sum.inl k)
  rw [h4 k,h5] at z
  constructor
  .intro m c
   rw [bb9 c] at z
   exact absurd (z.mpr (ar1 m)) aXI
  .intro c
   rw [aYW c] at z
   obtain ⟨x,hx,e⟩:=auF.mp (z.mp rfl)
   rw [← akX e]; exact hx
 have lk:ks.length<=1000000:=by
  have l:=a5E List.length h5
  rw [aUH,aUH] at l
  rw [← l]
  exact auj kl (auj (Nat.mul_le_mul lU (by lia:size.toNat<=1000)) (by decide))
 refine ⟨_,rfl,bm,_,dx,_,_,rfl,h1,T.qj,T.yQ,DZ ..,dk,_,rfl,h2,λv hv=>?_⟩
 have s1:=Zf hv (.ext λh=>h.IsItemsView v dk)
 refine ⟨v,dk,ks.map λk=>(k,mem k),rfl,Za,s1 _ _ h2,by rw [map_map]; exact (map_id ks).symm ▸ h6,by rw [aUH]; exact lk,λD os H' hD s2 eD et pm pw=>?_⟩
 refine q D (os.map λe=>e.2) H' (s1.free hD) (s1.trans s2) ⟨os.map λe=>e.1,by rw [map_map]; exact eD,by rw [aUH,aUH],λi a p e1 e2=>?_⟩ ⟨List.pairwise_map.mpr pw,λs v=>?_⟩
 .rw [aJm] at e1 e2
  cases e:os[i]? with
  | none=>rw [e] at e1; cases e1
  | some x =>
   rw [e] at e1 e2
   cases e1
   cases e2
   exact (et x (axK e)).2
 .rw [pm.mem_iff,mem_map]
  constructor
  .rintro ⟨k,hk,e⟩
   cases e
   exact ⟨rfl,(mk _).mp hk⟩
  .rintro ⟨e1,e2⟩
   exact ⟨s,(mk s).mpr (by rw [e1]; exact e2),by rw [e1]⟩
def OZ (K:W.Frag):Sp:=λvs H Q _=>∃ (A:TA) (g:aU) (st:ao) (os:OS) (n:Nat),vs=[.ref A.p]/\af K H A g st os n /\
 ∀ (D:Addr) (ps:List (Int×Int)) (H':Hp),H D=none->aB H H'->kT H' D ps->tY st.mem ps->Q (.ref D) H'
theorem ZeV (F:aY K "memory" "Steps.memory" KP f fd) (T:Txt K mg) (EH:ay P w K mg base (aa K "Memory") "pairs" 1 KQ (N2 K)):au P w K mg base aW 2 f fd KO (OZ K):=by
 refine F.ok eX (λvs H Q E h=>?_) (λcdv A outer s0 H vs Q E hr h=>?_)
 .obtain ⟨A,g,st,os,n,rfl,_⟩:=h
  rfl
 obtain ⟨A,g,st,os,n,rfl,R,q⟩:=h
 have nd:=eX.nd
 refine ⟨_,(Zi (Zt (ZR EH hr.m T.qj (Zl (K:=K) rfl (pv 0) rfl)))),?_⟩
 obtain ⟨dx,h1⟩:=R.ob
 obtain ⟨dm,h2⟩:=R.mem.ob
 have z0:=R.wf.z0
 exact ⟨_,rfl,A.p,_,dx,_,_,rfl,h1,T.aO,T.Ct,JC ..,A.bm,dm,_,rfl,h2,qx ..,A.bm,A.dk,g.size,st.mem,g.U,rfl,R.mem,by lia,R.wf.z1,R.wf.lU,q⟩
end
section
def jU (bk:Int->Int) (os:List Int):List (Int×Int):=(os.filter λs=>!decide (bk s=0)).map λs=>(s,bk s)
theorem XY {bk:Int->Int} {os:List Int} {i:Nat} {s:Int} (h:os[i]?=some s):jU bk (os.take (i+1))=jU bk (os.take i)++if bk s=0 then [] else [(s,bk s)]:=by
 unfold jU
 rw [List.take_succ,h,List.filter_append,aIO]
 congr 1
 show (List.filter _ [s]).map _=_
 by_cases c:bk s=0
 .rw [bb9 c,aTy,aYW (by simp [c])]; rfl
 .rw [aYW c,aTy,bb9 (by simp [c])]; rfl
def OY (K:W.Frag):Sp:=λvs H Q _=>∃ (bd:Addr) (bk:Int->Int) (n:Nat),vs=[.ref bd]/\j7 H bd bk n/\n<=900/\∀ (D:Addr) (ps:List (Int×Int)) (H':Hp),aB H H'->kT H' D ps->tY bk ps->ps.length<=1000->Q (.ref D) H'
theorem X0 (F:aY K "_law_pairs" "_law_pairs" D4 f fd) (T:Txt K mg):au P w K mg base aW 1 f fd Jc (OY K):=by
 refine F.ok ly (λvs H Q E h=>?_) (λcdv A outer s0 H vs Q E hr h=>?_)
 .obtain ⟨bd,bk,n,rfl,_⟩:=h
  rfl
 obtain ⟨bd,bk,n,rfl,⟨kvs,h1,⟨h2,ks,h5,h6⟩,h3⟩,n9,q⟩:=h
 have nd:=ly.nd
 have hu:=bJ hr
 refine ⟨_,(Zi (Zt (XN (sj (gy:=(Zg D4)) (oN:=kU) (N:=["_law_spot", "_law_book"]) (own:=1) (js:=[0]) (by decide +kernel) rfl rfl) rfl (Ef (K:=K) rfl (Zs (ZfF rfl) rfl T.vA agm (pc (pv 0) Zb))) (λ_ _ _ _ _ _=>(ck 0 (show List.Nodup (["_law_spot", "_law_book"]:List Str) by decide +kernel))) (λ_ _ _ _ _ _=>(ZD uH (BA hu (pv 1) (pv 0) (λ_ _=>rfl)) Zj (Zz _))) (λ_ _ _ _ _ _=>(j6 (pc (pv 0) (pc (BA hu (pv 1) (pv 0) (λ_ _=>rfl)) Zb))))))),?_⟩
 have lk:ks.length<=900:=by
  have l:=a5E List.length h5
  rw [aUH,aUH] at l
  lia
 refine ⟨_,rfl,bd,kvs,ks,rfl,h1,h5,by lia,λD os hD po pw=>⟨D,rfl,⟨_,aG.of Za⟩,λlz AE=>?_⟩⟩
 have s1:=Zf hD (.lst (os.map V.int))
 have eD:=Za (H:=H) (a:=D) (o:=.lst (os.map V.int))
 generalize upd H D (.lst (os.map V.int))=G1 at *
 have lo:os.length<=900:=by rw [po.length_eq]; exact lk
 refine QJ (K:=K) (a:=D) (xs:=os.map V.int) (l:=lz) (λi ys σ G=>∃ (v0:Option V) (as:List Addr),σ=[v0,some (.ref bd)]/\ys=as.map V.ref/\as.length=(jU bk (os.take i)).length/\(∀ (j:Nat) (a:Addr) (p:Int×Int),as[j]?=some a->(jU bk (os.take i))[j]?=some p->G a=some (.tup [.int p.1,.int p.2]))/\G lz=some (.lst ys)/\aB G1 G)
  ⟨none,[],rfl,rfl,rfl,λj a p e=>by simp at e,Za,Zf AE _⟩ (λi ys σ G _ h=>by obtain ⟨_,_,_,_,_,_,_,s⟩:=h; exact aG.of (s _ _ eD)) ?_ ?_
 .rintro i x ys σ G hi hx hys ⟨v0,as,rfl,rfl,hl,hat,gl,s2⟩
  obtain ⟨s,es,rfl⟩:=IZ hx
  have e1:=s2 _ _ (s1 _ _ h1)
  have sn:=XY (bk:=bk) es
  have hs:∃ v,eu G bd (.int s) (some (.int v))/\v=bk s:=by
   have m:s∈ks:=po.mem_iff.mp (axK es)
   have z:=(tT (kvs:=kvs) (Sum.inl s)).mpr (by rw [h5]; exact ar1 m)
   have v:=h3 s
   have g:=eu.k (k:=Sum.inl s) e1
   cases c:aN kvs (Sum.inl s:Key) with
   | none=>rw [c] at z; cases z
   | some y =>
    rw [c] at v g
    have v:y=V.int (bk s):=v
    rw [v] at g
    exact ⟨_,g,rfl⟩
  obtain ⟨v,gv,rfl⟩:=hs
  refine ⟨_,rfl,_,rfl,bd,_,rfl,gv,rfl,_,rfl,?_⟩
  by_cases c:bk s=0
  .rw [bb9 c,aKQ] at sn
   refine cT (by simp [c]) (vz.of hi hys ⟨_,as,rfl,rfl,by rw [sn]; exact hl,λj a p e1 e2=>hat j a p e1 (by rw [sn] at e2; exact e2),gl,s2⟩)
  .rw [aYW c] at sn
   refine fq (by simp [c]) ⟨_,rfl,_,rfl,_,rfl,bd,_,rfl,gv,(sl 2),λt ht=>?_⟩
   have s3:=Zf ht (.tup [.int s,.int (bk s)])
   have et:=Za (H:=G) (a:=t) (o:=.tup [.int s,.int (bk s)])
   generalize upd G t (.tup [.int s,.int (bk s)])=G3 at *
   have yl:=s3 _ _ gl
   have nl:∀ {u:Addr} {zs:List V},G3 u=some (.tup zs)->u≠lz:=λe=>uJ e yl (by intro z; cases z)
   refine kW.of (aS5 (ZE (by rw [aUH]; lia))) hi hys yl ⟨_,as++[t],rfl,by rw [aIO]; rfl,by rw [sn,aAe,aAe,hl]; rfl,λj a p e1 e2=>?_,Za,λx o e=>by rw [Zc (Zd e AE)]; exact s3 _ _ (s2 _ _ e)⟩
   rw [sn] at e2
   by_cases cj:j<as.length
   .rw [aOW cj] at e1
    rw [aOW (by rw [← hl]; exact cj)] at e2
    have h1:=s3 _ _ (hat j a p e1 e2)
    rw [Zc (nl h1)]
    exact h1
   .rw [aRD (by lia)] at e1
    rw [aRD (by lia),← hl] at e2
    have ej:j - as.length=0:=by
     cases h0:j - as.length with
     | zero=>rfl
     | succ m=>rw [h0] at e1; simp at e1
    rw [ej] at e1 e2
    cases e1
    cases e2
    rw [Zc (nl et)]
    exact et
 .rintro ys σ G _ ⟨v0,as,rfl,rfl,hl,hat,gl,s2⟩
  rw [aUH,List.take_length] at hl hat
  have T8:os.Nodup:=po.nodup_iff.mpr h6
  have lp:(jU bk os).length<=1000:=by
   unfold jU
   rw [aUH]
   exact auj (aaN ..) (by lia)
  refine q lz (jU bk os) G (s1.trans s2) ⟨as,gl,hl,hat⟩ ⟨?_,λs v=>?_⟩ lp
  .unfold jU
   rw [pairwise_map]
   exact ((pw.and T8).imp λh=>by obtain ⟨h1,h2⟩:=h; lia:os.Pairwise λa b=>a<b).filter _
  .unfold jU
   rw [mem_map]
   constructor
   .rintro ⟨k,hk,e⟩
    cases e
    have:=(a68.mp hk).2
    exact ⟨rfl,by simpa using this⟩
   .rintro ⟨e1,e2⟩
    refine ⟨s,a68.mpr ⟨po.mem_iff.mpr ?_,by simp [e1,e2]⟩,by rw [e1]⟩
    have v3:=h3 s
    have z:=tT (kvs:=kvs) (Sum.inl s)
    cases c:aN kvs (Sum.inl s:Key) with
    | none =>
     rw [c] at v3
     have v3:V.int 0=V.int (bk s):=v3
     injection v3 with v3
     exact absurd (by rw [← e1,← v3]) e2
    | some y =>
     rw [c,h5] at z
     obtain ⟨x,hx,e⟩:=auF.mp (z.mp rfl)
     rw [← akX e]; exact hx
end
theorem uR {t:TS} {D:Ends} {σ:St} {H:Hp} (h:∀ D':Ends,(∀ σ G,D.nx σ G->D'.nx σ G)->t D' σ H):t D σ H:=h D λ_ _ x=>x
theorem AR {n:Nat} {e:List V} (h:Ev n e):e.length<=3/\∀ v∈e,Sc v:=by
 rcases h with ⟨k,_,rfl⟩ | ⟨k,b,_,rfl | rfl⟩ | ⟨k,b,_,rfl⟩
 .refine ⟨aEE rfl,λv hv=>?_⟩
  simp only [atw,aha,aqQ] at hv
  rcases hv with rfl | rfl <;> trivial
 all_goals
  refine ⟨aEE rfl,λv hv=>?_⟩
  simp only [atw,aha,aqQ] at hv
  rcases hv with rfl | rfl | rfl <;> trivial
theorem N1 {n:Nat} {H:Hp} {l m:Addr} {es:List (List V)} (a:k8 n H l es) (b:k8 n H m es) (le:es.length<=1000):Eqv 2 H (.ref l) (.ref m):=by
 obtain ⟨h0,ts,h1,h2,h3⟩:=a
 obtain ⟨_,us,g1,g2,g3⟩:=b
 refine .inr ⟨l,m,_,_,rfl,rfl,.inl ⟨h1,g1⟩,by rw [aUH,aUH,h2,g2],by rw [aUH]; lia,λi u v q1 q2=>?_⟩
 rw [aJm] at q1 q2
 cases e1:ts[i]? with
 | none=>rw [e1] at q1; cases q1
 | some t =>
  cases e2:us[i]? with
  | none=>rw [e2] at q2; cases q2
  | some t' =>
   rw [e1] at q1; rw [e2] at q2
   cases q1; cases q2
   have hi:i<es.length:=by rw [← h2]; exact (aK1.mp e1).1
   have ee:es[i]?=some es[i]:=aJu hi
   obtain ⟨c1,c2⟩:=AR (h0 _ (ai0 hi))
   exact Eqv.wJ 0 (h3 i t _ e1 ee) (g3 i t' _ e2 ee) (by lia) c2
def Ow (A:TA) (os:OS) (bd:Addr) (x:Addr):Prop:=OW A os x\/x=bd
structure Hf (K:W.Frag) (G:Hp) (g:aU) (A:TA) (os:OS) (st:ao) (bd:Addr) (bk:Int->Int) (m:Nat):Prop where
 rd:k6 K G A g st os
 lw:∀ x,Lw g bk x st
 eb:j7 G bd bk m
 nb:¬ OW A os bd
def Kp (O:Addr->Prop) (G G1:Hp):Prop:=∀ x o,G x=some o->(O x->¬ Mt o)->G1 x=some o
def Nf (O O':Addr->Prop) (G:Hp):Prop:=∀ x,O' x->O x\/G x=none
section
variable {K:W.Frag} {H G G1:Hp} {g:aU} {A:TA} {os:OS} {st:ao} {bd b lo tn tf:Addr} {bk:Int->Int} {m:Nat} {O O':Addr->Prop} {cn cf:Cf} {ns:List Int} {a q c:Int}
theorem Hf.keep (h:Hf K G g A os st bd bk m) (f:∀ x o,G x=some o->(Ow A os bd x\/¬ Mt o)->G1 x=some o):Hf K G1 g A os st bd bk m :=
 ⟨h.rd.frame λx o e z=>f x o e (z.imp .inl id),h.lw,h.eb.frame λo e=>f _ _ e (.inl (.inr rfl)),h.nb⟩
theorem Hf.off (h:Hf K G g A os st bd bk m) (k:Kp O G G1) (s:∀ x,Ow A os bd x->¬ O x):Hf K G1 g A os st bd bk m :=
 h.keep λx o e z=>k x o e λy=>z.elim (λz=>absurd y (s x z)) id
theorem Hf.ex (h:Hf K G g A os st bd bk m) {x:Addr} (z:Ow A os bd x):G x≠none:=λe=>by
 rcases z with z | rfl
 .exact h.rd.at_.fresh e z
 .obtain ⟨kvs,q,_⟩:=h.eb
  rw [e] at q; cases q
theorem Hf.same (h:Hf K G g A os st bd bk m) (s:aB G G1):Hf K G1 g A os st bd bk m:=h.keep λx o e _=>s x o e
theorem Hf.C5 (h:Hf K G g A os st bd bk m) {A':TA} {os':OS} (t:Q2 G G1 A A' os os' bd):Kp (Ow A os bd) G G1/\Nf (Ow A os bd) (Ow A' os' bd) G:=by
 obtain ⟨kvs,q,_⟩:=h.eb
 refine ⟨λx o e n=>t.kp x o e (λz=>n (.inl z)) λz=>?_,λx z=>z.elim (λz=>(t.fr x z).imp .inl id) λz=>.inl (.inr z)⟩
 subst z
 rw [q] at e; cases e
 exact n (.inr rfl) trivial
theorem Hf.Gm (h:Hf K G g A os st bd bk m) {A':TA} {os':OS} (p:bM (OW A os) G G1 (OW A' os')):Kp (Ow A os bd) G G1/\Nf (Ow A os bd) (Ow A' os' bd) G :=
 h.C5 ⟨λx o e n _=>p.kp x o e n,λx z=>p.fr x z⟩
structure Wb (K:W.Frag) (H G:Hp) (b lo tn tf:Addr) (cn cf:Cf) (ns:List Int) (g:aU) (O:Addr->Prop):Prop where
 pU:G lo=some (.lst (ns.map V.int))
 pn:tX G tn cn
 pf:tX G tf cf
 kp:SB b H G
 nw:∀ x,O x\/x=lo->H x=none
 of:¬ O b/\¬ O lo
 nb:lo≠b
theorem Wb.new (w:Wb K H G b lo tn tf cn cf ns g O) (B:aE G b a q c) {x:Addr} (h:G x=none):H x=none:=by
 cases e:H x with
 | none=>rfl
 | some o =>
  by_cases z:x=b
  .rw [z,B.at'] at h; cases h
  .rw [w.kp x o z e] at h; cases h
theorem Wb.sb (w:Wb K H G b lo tn tf cn cf ns g O) (B:aE G b a q c) (s:SB b G G1):Wb K H G1 b lo tn tf cn cf ns g O:=by
 have nt:∀ {x ys},G x=some (.tup ys)->x≠b:=λ{x ys} e z=>by rw [z,B.at'] at e; cases e
 exact ⟨s _ _ w.nb w.pU,w.pn.frame λx ys e=>s _ _ (nt e) e,w.pf.frame λx ys e=>s _ _ (nt e) e,w.kp.trans s,w.nw,w.of,w.nb⟩
theorem Wb.same (w:Wb K H G b lo tn tf cn cf ns g O) (B:aE G b a q c) (s:aB G G1):Wb K H G1 b lo tn tf cn cf ns g O:=w.sb B (s.sb b)
theorem Hf.sb (h:Hf K G g A os st bd bk m) (w:Wb K H G b lo tn tf cn cf ns g O) (l:∀ x,Ow A os bd x->O x) (B:aE G b a q c) (s:SB b G G1):Hf K G1 g A os st bd bk m :=
 h.keep λx o e z=>s x o (λy=>by
  subst y
  rcases z with z | z
  .exact w.of.1 (l _ z)
  .rw [B.at'] at e; cases e; exact z trivial) e
theorem Wb.mv (w:Wb K H G b lo tn tf cn cf ns g O) (B:aE G b a q c) (k:Kp O G G1) (f:Nf O O' G):Wb K H G1 b lo tn tf cn cf ns g O'/\aE G1 b a q c:=by
 have tu:∀ {x ys},G x=some (.tup ys)->G1 x=some (.tup ys):=λ{x ys} e=>k x _ e λ_=>id
 have no:∀ {x o},G x=some o->¬ O x->G1 x=some o/\¬ O' x:=λ{x o} e n=>⟨k x o e λz=>absurd z n,λz=>(f x z).elim n λz=>by rw [e] at z; cases z⟩
 obtain ⟨l1,l2⟩:=no w.pU w.of.2
 obtain ⟨b1,b2⟩:=no B.at' w.of.1
 refine ⟨⟨l1,w.pn.frame λx ys e=>tu e,w.pf.frame λx ys e=>tu e,λx o n e=>k x o (w.kp x o n e) λz=>?_,λx z=>?_,⟨b2,l2⟩,w.nb⟩,⟨b1,B.a0,B.q0,B.q1,B.c0⟩⟩
 .have z:=w.nw x (.inl z)
  rw [z] at e; cases e
 .rcases z with z | z
  .exact (f x z).elim (λz=>w.nw x (.inl z)) λz=>w.new B z
  .exact w.nw x (.inr z)
end
def O2 (A0:TA) (iK:OS) (kR:Addr) (A1:TA) (bG:OS) (iH:Addr) (x:Addr):Prop:=Ow A0 iK kR x\/Ow A1 bG iH x
structure W2 (K:W.Frag) (H G:Hp) (b lo tn tf:Addr) (cn cf:Cf) (ns:List Int) (g:aU) (A0:TA) (iK:OS) (fF:ao) (kR:Addr) (mZ:Int->Int) (m0:Nat) (A1:TA) (bG:OS) (st1:ao) (iH:Addr) (mw:Int->Int) (m1:Nat):Prop where
 h0:Hf K G g A0 iK fF kR mZ m0
 h1:Hf K G g A1 bG st1 iH mw m1
 wb:Wb K H G b lo tn tf cn cf ns g (O2 A0 iK kR A1 bG iH)
 sep:∀ x,Ow A0 iK kR x->¬ Ow A1 bG iH x
section
variable {K:W.Frag} {H G G1:Hp} {b lo tn tf:Addr} {cn cf:Cf} {ns:List Int} {g:aU} {A0:TA} {iK:OS} {fF:ao} {kR:Addr} {mZ:Int->Int} {m0:Nat} {A1:TA} {bG:OS} {st1:ao} {iH:Addr} {mw:Int->Int} {m1:Nat} {a q c:Int}
theorem W2.swap (w:W2 K H G b lo tn tf cn cf ns g A0 iK fF kR mZ m0 A1 bG st1 iH mw m1):W2 K H G b lo tn tf cn cf ns g A1 bG st1 iH mw m1 A0 iK fF kR mZ m0 :=
 ⟨w.h1,w.h0,⟨w.wb.pU,w.wb.pn,w.wb.pf,w.wb.kp,λx z=>w.wb.nw x (z.imp Or.symm id),⟨λz=>w.wb.of.1 z.symm,λz=>w.wb.of.2 z.symm⟩,w.wb.nb⟩,λx z1 z0=>w.sep x z0 z1⟩
theorem W2.sb (w:W2 K H G b lo tn tf cn cf ns g A0 iK fF kR mZ m0 A1 bG st1 iH mw m1) (B:aE G b a q c) (s:SB b G G1):W2 K H G1 b lo tn tf cn cf ns g A0 iK fF kR mZ m0 A1 bG st1 iH mw m1 :=
 ⟨w.h0.sb w.wb (λx z=>.inl z) B s,w.h1.sb w.wb (λx z=>.inr z) B s,w.wb.sb B s,w.sep⟩
theorem W2.same (w:W2 K H G b lo tn tf cn cf ns g A0 iK fF kR mZ m0 A1 bG st1 iH mw m1) (B:aE G b a q c) (s:aB G G1):W2 K H G1 b lo tn tf cn cf ns g A0 iK fF kR mZ m0 A1 bG st1 iH mw m1:=w.sb B (s.sb b)
theorem W2.mv (w:W2 K H G b lo tn tf cn cf ns g A0 iK fF kR mZ m0 A1 bG st1 iH mw m1) (B:aE G b a q c) {A':TA} {os':OS} {st':ao} {Na:Int->Int} {m':Nat} (h:Hf K G1 g A' os' st' kR Na m') (k:Kp (Ow A0 iK kR) G G1/\Nf (Ow A0 iK kR) (Ow A' os' kR) G):W2 K H G1 b lo tn tf cn cf ns g A' os' st' kR Na m' A1 bG st1 iH mw m1/\aE G1 b a q c:=by
 obtain ⟨k,f⟩:=k
 obtain ⟨wb,B1⟩:=w.wb.mv (O':=O2 A' os' kR A1 bG iH) B (λx o e n=>k x o e λz=>n (.inl z)) λx z=>by
  rcases z with z | z
  .exact (f x z).imp .inl id
  .exact .inl (.inr z)
 exact ⟨⟨h,w.h1.off k λx z1 z0=>w.sep x z0 z1,wb,λx z0 z1=>(f x z0).elim (λz=>w.sep x z z1) λz=>w.h1.ex z1 z⟩,B1⟩
end
section
def NZ (K:W.Frag):Sp:=λvs H Q _=>∃ (b:Addr) (a q:Int),vs=[.ref b]/\aE H b a q 0/\Tb K H/\∀ H',SB b H H'->Q (.bl true) H'
theorem XZ (F:aY K "_law_right" "_law_right" Jb f fd) (T:Txt K mg) (GG:Def P w K mg base "_law_pair" 4 Ig NO) (E2:Def P w K mg base "_law_some_boards" 2 JY PY) (Cu:Def P w K mg base "_law_hand_deed" 4 J9 N4) (Dc:Def P w K mg base "_law_many" 2 Ii NP) (Dg:pH P w K mg base (aa K "Beside") "Beside" 6 J3 (NX K)) (An:Def P w K mg base "_law_told" 17 Ia (N3 K)) (GF:Def P w K mg base "_law_like" 16 HZ (NL K)) (zD:ay P w K mg base (aa K "Beside") "emptied" 7 Kz (NU K)) (yR:ay P w K mg base (aa K "Beside") "memory" 2 KO (OZ K)) (Ao:Def P w K mg base "_law_pairs" 1 Jc (OY K)) (Aq:∀ n,Def P w K mg base "_law_same" (n+1) rY (yE n)):au P w K mg base aW 18 f fd Ja (NZ K):=by
 refine F.ok lu (λvs H Q E h=>?_) (λcdv A outer s0 H vs Q E hr h=>?_)
 .obtain ⟨b,a,q,rfl,_⟩:=h
  rfl
 obtain ⟨b,a,q,rfl,B,tb,k⟩:=h
 have nd:=lu.nd
 have hu:=bJ hr
 have mK:=Aq 2
 refine ⟨_,(Ze (lY (Zm GG hr.m rfl (pc (pv 0) Zb)) (mz (K:=K) (n:=3) rfl rfl (Zr (ck 1 nd) (Zr (ck 2 nd) (Zr (ck 3 nd) ZY)))))
   (Ze (WD (i:=4) (j:=5) (l:=6) rfl nd rfl rfl rfl (by decide) rfl rfl rfl (pc (Zm E2 hr.m rfl (pc (pv 0) (pc (pv 1) Zb))) (pc (BH Dg hr.m rfl (pc (pv 1) (pc (pv 2) (pc (pv 3) Zb)))) (pc yF Zb))) rfl)
   (Ze (rZ aaO rfl (sr rfl T.oR (pc (Zm Dc hr.m rfl (pc (pv 0) (pc Zj (pc Zj Zb)))) Zb)) (ck 7 nd) (Ze (lY (Zm Cu hr.m rfl (pc (pv 0) (pc (pv 1) (pc (pv 4) Zb)))) (mz (K:=K) (n:=2) rfl rfl (Zr (ck 8 nd) (Zr (ck 9 nd) ZY))))
   (Zi (aJ (sd (ZG (av (m7 (K:=K) rfl) (Zm An hr.m rfl (pc (pv 5) (pc (pv 8) (pc (pv 9) (pc (pv 6) Zb))))) Zj (λ_ _=>rfl)))) (Zi (Zt i7)) Zu))))
   (Ze (Zp (ZR zD hr.m T.aO (pv 5)))
   (Ze (aJ (sd (ZG (Zm mK hr.m rfl (pc (ZR yR hr.m T.aO (pv 5)) (pc (Zm Ao hr.m rfl (pc (pv 6) Zb)) Zb))))) (Zi (Zt i7)) Zu)
   (Ze (Iz (i:=10) (j:=11) rfl nd rfl rfl (by decide) rfl rfl (pc (BH Dg hr.m rfl (pc (pv 1) (pc (pv 2) (pc (pv 3) Zb)))) (pc yF Zb)) rfl)
   (Ze (rZ aaO rfl (sr rfl T.oR (pc (Zm Dc hr.m rfl (pc (pv 0) (pc Zj (pc Zj Zb)))) Zb)) (ck 7 nd) (Ze (lY (Zm Cu hr.m rfl (pc (pv 0) (pc (pv 1) (pc (pv 4) Zb)))) (mz (K:=K) (n:=2) rfl rfl (Zr (ck 8 nd) (Zr (ck 9 nd) ZY))))
   (Ze (Iz (i:=12) (j:=13) rfl nd rfl rfl (by decide) rfl rfl (pc (Zm An hr.m rfl (pc (pv 5) (pc (pv 8) (pc (pv 9) (pc (pv 6) Zb))))) (pc (Zm An hr.m rfl (pc (pv 10) (pc (pv 8) (pc (pv 9) (pc (pv 11) Zb))))) Zb)) rfl)
   (Zi (aJ (PW.pt (pw_or (sd (ZG (av (m7 (K:=K) rfl) (pv 12) Zj (λ_ _=>rfl)))) (pw_or (sd (ZG (av (m7 (K:=K) rfl) (pv 13) Zj (λ_ _=>rfl)))) (pw_or (sd (ZG (Zm mK hr.m rfl (pc (av (m7 (K:=K) rfl) (pv 12) Zj (λ_ _=>rfl)) (pc (av (m7 (K:=K) rfl) (pv 13) Zj (λ_ _=>rfl)) Zb))))) (DC (sd (ZG (Zm GF hr.m rfl (pc (pv 5) (pc (pv 10) Zb)))))))))) (Zi (Zt i7)) Zu)))))
   (Ze (aJ (sd (ZG (Zm mK hr.m rfl (pc (ZR zD hr.m T.aO (pv 5)) (pc (ZR zD hr.m T.aO (pv 10)) Zb))))) (Zi (Zt i7)) Zu)
   (Zi (Zt (Bm (Zm mK hr.m rfl (pc (ZR yR hr.m T.aO (pv 5)) (pc (Zm Ao hr.m rfl (pc (pv 6) Zb)) Zb))) (Bo (Zm mK hr.m rfl (pc (ZR yR hr.m T.aO (pv 10)) (pc (Zm Ao hr.m rfl (pc (pv 11) Zb)) Zb))))))))))))))),?_⟩
 refine hide λu1 e1=>?_
 refine ⟨_,rfl,b,a,q,0,rfl,B,by decide,λt0 tn tf size cn cf a1 c1 H2 ht0 LM LN z0 z1 B2 hc1 u2=>⟨t0,_,rfl,aZ.of ht0,rfl,_,_,rfl,gN ⟨_,_,rfl,gN ⟨_,_,rfl,gN ⟨rfl,?_⟩⟩⟩⟩⟩
 subst e1
 try dsimp only
 have vS:∀ {x ys},H2 x=some (.tup ys)->x≠b:=λ{x ys} e z=>by rw [z,B2.at'] at e; cases e
 refine hide λu1 e1=>?_
 refine ⟨_,rfl,_,rfl,b,a1,q,c1,size,rfl,B2,by lia,z0,z1,λlo ns a3 c3 H3 hlo pU n3 L5 Nb _ B3 hc3 t3=>⟨_,rfl,_,rfl,_,rfl,λp dx hp hdx zU=>?_⟩⟩
 have CK:=LM.frame (H':=H3) λx ys e=>t3 _ _ (vS e) e
 have CL:=LN.frame (H':=H3) λx ys e=>t3 _ _ (vS e) e
 have u3:SB b H H3:=u2.trans t3
 have jQ:lo≠b:=λz=>by rw [z,B2.at'] at hlo; cases hlo
 have G0:H lo=none:=D9 u2 B2.at' hlo
 have yS:Tb K H3:=u3 _ _ (λz=>by have t:=tb; unfold Tb at t; rw [z,B.at'] at t; cases t) tb
 have vR:∀ x∈ns,0<=x/\x<=100000:=λx hx=>by
  have:=Nb x hx
  have s9:9999 / size<=9999:=Int.ediv_le_self _ (by decide)
  lia
 have M9:1<=cn.pl/\cn.pl<=16:=by obtain ⟨_,_,_,_,_,_,h1,h2,_⟩:=CK; exact ⟨h1,h2⟩
 have Vs:1<=cf.pl/\cf.pl<=16:=by obtain ⟨_,_,_,_,_,_,h1,h2,_⟩:=CL; exact ⟨h1,h2⟩
 obtain ⟨g,eg⟩:∃ g:aU,g=⟨size, "",[cn,cn,cf],(9999 / size) :: ns⟩:=⟨_,rfl⟩
 have wf:WF g:=by
  rw [eg]
  refine ⟨λc hc=>?_,z0,by show size<=1000; lia,by show _+1<=800; lia,λb hb=>?_,by show 3<=4; decide,by show 1<=3; decide⟩
  .simp only [atw,aha,aqQ] at hc
   rcases hc with rfl | rfl | rfl
   .exact M9
   .exact M9
   .exact Vs
  .have s9:9999 / size<=9999:=Int.ediv_le_self _ (by decide)
   have s0:0<=9999 / size:=Int.ediv_nonneg (by decide) (by lia)
   rcases awk.mp hb with rfl | hb
   .lia
   .have:=vR b hb; lia
 have ED:g.U.length<=21:=by rw [eg]; show ns.length+1<=21; lia
 have gU:g.U=(9999 / g.size) :: ns:=by rw [eg]
 have g3:g.n=3:=by rw [eg]; rfl
 have Dt:(⟨size, "",[cn,cn,cf],(9999 / size) :: ns⟩:aU)=g:=eg.symm
 have M4:size=g.size:=by rw [eg]
 have gU':(9999 / size) :: ns=g.U:=by rw [eg]
 obtain ⟨n0,n1⟩:=Xh g3
 clear eg Nb
 have m1:aB H3 (upd (upd H3 dx (.own p)) p (.ins (aa K "Beside") dx [])):=λx o e=>by rw [Zc (Zd e hp),Zc (Zd e hdx)]; exact e
 have hp1:=Za (H:=upd H3 dx (.own p)) (a:=p) (o:=.ins (aa K "Beside") dx [])
 have wI:∀ x,upd (upd H3 dx (.own p)) p (.ins (aa K "Beside") dx []) x=none->H3 x=none:=λx e=>m1.free e
 generalize upd (upd H3 dx (.own p)) p (.ins (aa K "Beside") dx [])=H4 at *
 refine ⟨p,dx,tn,tf,size,cn,cf,rfl,hp1,CK.frame λx ys e=>m1 _ _ e,CL.frame λx ys e=>m1 _ _ e,yS.same m1,λA0 iK H5 ep RS own k2=>⟨rfl,λbd hbd=>⟨_,_,_,rfl,?_⟩⟩⟩
 have m2:aB H3 H5:=λx o e=>k2 x o (m1 _ _ e) (Zd e hp)
 have hO:∀ x,OW A0 iK x->H3 x=none:=λx h=>by
  by_cases z:x=p
  .rw [z]; exact hp
  .exact wI x (own x h z)
 have R5:af K H5 A0 g (pB 3) iK 0:=by
  have R:=RS ((9999 / size) :: ns) (by rw [Dt]; exact wf)
  rw [Dt] at R
  exact R
 subst e1
 try dsimp only
 rw [show V.ref p=V.ref A0.p by rw [ep]]
 have B5:=B3.same m2
 clear m1 hp1 wI RS own k2 ep
 have s5:=Zf hbd (.dK [])
 have M6:=Za (H:=H5) (a:=bd) (o:=.dK [])
 have HJ:∀ {x o},H5 x=some o->x≠bd:=λe=>Zd e hbd
 generalize upd H5 bd (.dK [])=H6 at *
 have h0:Hf K H6 g A0 iK (pB 3) bd (λ_=>0) 0:=⟨⟨R5.same s5,n0⟩,n1,⟨[],M6,⟨aDN _,KI.nil⟩,λs=>rfl⟩,R5.fresh hbd⟩
 have w0:Wb K H H6 b lo tn tf cn cf ns g (Ow A0 iK bd):=by
  refine ⟨s5 _ _ (m2 _ _ pU),CK.frame λx ys e=>s5 _ _ (m2 _ _ e),CL.frame λx ys e=>s5 _ _ (m2 _ _ e),(u3.trans (m2.sb b)).trans (s5.sb b),λx z=>?_,⟨λz=>?_,λz=>?_⟩,jQ⟩
  .rcases z with (z | z) | z
   .exact D9 u3 B3.at' (hO x z)
   .rw [z]; exact D9 u3 B3.at' (m2.free hbd)
   .rw [z]; exact G0
  .rcases z with z | z
   .have z:=hO b z
    rw [B3.at'] at z; cases z
   .exact HJ B5.at' z
  .rcases z with z | z
   .have z:=hO lo z
    rw [pU] at z; cases z
   .exact HJ (m2 _ _ pU) z
 have B6:=B5.same s5
 clear R5 s5 M6 HJ hbd B5 hO m2 CK CL pU u3 B3 yS t3 u2 B2 LM LN ht0 vS
 have uL:g.U.length<64:=by lia
 have hs:0<g.size:=by lia
 refine hide λu1 e1=>?_
 refine ⟨_,rfl,b,a3,q,c3,30,150,rfl,B6,by lia,by decide,by decide,by decide,λmn a4 c4 H9 Uh Ug B9 hc4 t4=>⟨_,rfl,by lia,by lia,Ek (lo:=0) (n:=mn.toNat) (λi σ G=>∃ (v7 v8 v9 v10 v11 vD vC:Option V) (A:TA) (os:OS) (st:ao) (bk:Int->Int) (a' c':Int),σ=[some (.ref b),some (.int size),some (.ref tn),some (.ref tf),some (.ref lo),some (.ref A0.p),some (.ref bd),v7,v8,v9,v10,v11,vD,vC]/\A.p=A0.p/\Hf K G g A os st bd bk i/\Wb K H G b lo tn tf cn cf ns g (Ow A os bd)/\aE G b a' q c'/\c'<=c4+13 * (i:Int))
  ⟨_,_,_,_,_,_,_,A0,iK,_,_,a4,c4,rfl,rfl,h0.sb w0 (λ_ z=>z) B6 t4,w0.sb B6 t4,B9,by lia⟩ ?_ ?_⟩⟩
 .rintro i σ G hi ⟨v7,v8,v9,v10,v11,vD,vC,A,os,st,bk,a',c',rfl,eA,h,wb,B',hc'⟩
  refine gN ?_
  refine uR λD' AK=>?_
  try dsimp only
  rw [← eA] at AK ⊢
  refine hide λu1 e1=>?_
  refine ⟨_,rfl,_,rfl,_,rfl,b,lo,a',q,c',size,ns,rfl,B',jQ,by lia,z0,z1,wb.pU,by lia,L5,vR,λhd t hh d a5 c5 G1 tQ et Dl Tq iU B5 hc5 s5=>⟨hd,_,rfl,aZ.of tQ,rfl,_,_,rfl,gN ⟨_,_,rfl,gN ⟨rfl,?_⟩⟩⟩⟩
  subst e1
  try dsimp only
  have h:=h.sb wb (λ_ z=>z) B' s5
  have wb:=wb.sb B' s5
  have bU:d.sp / g.size∈g.U:=by rw [gU,← M4]; exact iU
  refine ⟨_,rfl,_,rfl,_,rfl,_,rfl,A,g,st,os,t,bd,hh,d,bk,i,rfl,h.rd,Dl,et,bU,h.lw,h.eb,by lia,h.nb,λG2 e' iJ tp' tO R2 ev Ut vX HH pQ yT=>⟨tp',_,_,_,rfl,rfl,aZ.of tO,eS,_,rfl,cT rfl ?_⟩⟩
  dsimp only [gg]
  have kp:=h.C5 yT
  obtain ⟨w2,B6⟩:=wb.mv B5 kp.1 kp.2
  exact AK _ _ ⟨_,_,_,_,_,_,_,A.re e',iJ,_,_,a5,c5,rfl,rfl,⟨R2,pQ,HH,λz=>(yT.fr bd z).elim h.nb λz=>h.ex (.inr rfl) z⟩,w2,B6,by lia⟩
 rintro σ G ⟨v7,v8,v9,v10,v11,vD,vC,A,os,st,bk,a',c',rfl,eA,h,wb,B',hc'⟩
 subst e1
 try dsimp only
 rw [← eA]
 have Ui:mn.toNat<=150:=by lia
 have hc6:c'<=10000:=by lia
 generalize mn.toNat=m at *
 clear h0 w0 B6 B9 t4 eA
 obtain ⟨cS,CP⟩:=h.rd.at_.ob
 refine hide λu1 e1=>?_
 refine ⟨_,rfl,A.p,cS,_,rfl,CP,aA ..,A,g,st,os,rfl,h.rd,uL,λG1 e' bG R1 AU Ah ne1 p1=>?_⟩
 subst e1
 try dsimp only
 have f2:=λx=>(DO hs h.rd.ok (h.lw x)).gM
 have SY:=V8 h.rd.ok
 have qy:=λs=>IB hs h.rd.ok h.lw s
 have Aj:=h.Gm p1
 obtain ⟨Ly,B1⟩:=wb.mv B' Aj.1 Aj.2
 have h1:Hf K G1 g (A.re e') bG (gM (cU g st)) bd bk m:=⟨R1,f2,h.eb.frame λo e=>(p1.out e h.nb).1,λz=>(p1.fr bd z).elim h.nb λz=>h.ex (.inr rfl) z⟩
 have rV:(gM (cU g st)).mem=(cU g st).mem:=rfl
 clear f2 Aj R1 AU Ah ne1 p1 wb h B'
 generalize gM (cU g st)=st1 at *
 rw [← rV] at qy
 clear rV
 obtain ⟨Vl,LS⟩:=h1.rd.at_.ob
 refine hide λu1 e1=>?_
 refine ⟨_,rfl,A.p,Vl,_,rfl,LS,aA ..,A.re e',g,_,bG,0,rfl,h1.rd.at_,λD ps G2 hD s2 pD pL=>?_⟩
 refine ⟨_,rfl,bd,bk,_,rfl,(h1.same s2).eb,by lia,λD2 ps2 G3 s3 yc ya lp=>?_⟩
 have AW:ps=ps2:=(pL.congr qy).uniq ya
 subst AW
 refine ⟨_,_,rfl,(pD.same s3).eqv yc lp,λG4 s4=>⟨_,rfl,cT rfl ?_⟩⟩
 subst e1
 try dsimp only
 dsimp only [gg]
 have CF:=(s2.trans s3).trans s4
 have h2:=h1.same CF
 have xG:=Ly.same B1 CF
 have B2:=B1.same CF
 clear h1 Ly B1 s2 s3 s4 CF pD yc pL ya lp hD LS CP qy
 have LD:Tb K G4:=h2.rd.at_.tb
 refine hide λu1 e1=>?_
 refine ⟨_,rfl,_,rfl,_,rfl,λp1 cS hp1 AG TY=>?_⟩
 have m1:aB G4 (upd (upd G4 cS (.own p1)) p1 (.ins (aa K "Beside") cS [])):=λx o e=>by rw [Zc (Zd e hp1),Zc (Zd e AG)]; exact e
 have hp2:=Za (H:=upd G4 cS (.own p1)) (a:=p1) (o:=.ins (aa K "Beside") cS [])
 have wI:∀ x,upd (upd G4 cS (.own p1)) p1 (.ins (aa K "Beside") cS []) x=none->G4 x=none:=λx e=>m1.free e
 generalize upd (upd G4 cS (.own p1)) p1 (.ins (aa K "Beside") cS [])=G5 at *
 refine ⟨p1,cS,tn,tf,size,cn,cf,rfl,hp2,xG.pn.frame λx ys e=>m1 _ _ e,xG.pf.frame λx ys e=>m1 _ _ e,LD.same m1,λA1 mO G6 MZ Q4 zK k1=>⟨rfl,λiH tG=>⟨_,_,rfl,?_⟩⟩⟩
 subst e1
 try dsimp only
 have m2:aB G4 G6:=λx o e=>k1 x o (m1 _ _ e) (Zd e hp1)
 have MF:∀ x,OW A1 mO x->G4 x=none:=λx h=>by
  by_cases z:x=p1
  .rw [z]; exact hp1
  .exact wI x (zK x h z)
 have R1:af K G6 A1 g (pB 3) mO 0:=by
  have R:=Q4 ((9999 / size) :: ns) (by rw [Dt]; exact wf)
  rw [Dt] at R
  exact R
 have s5:=Zf tG (.dK [])
 have A2:=Za (H:=G6) (a:=iH) (o:=.dK [])
 rw [show V.ref p1=V.ref A1.p by rw [MZ]]
 generalize upd G6 iH (.dK [])=G7 at *
 have CD:=m2.trans s5
 have AJ:∀ x,Ow A1 mO iH x->G4 x=none:=λx z=>by
  rcases z with z | z
  .exact MF x z
  .rw [z]; exact m2.free tG
 have w2:W2 K H G7 b lo tn tf cn cf ns g (A.re e') bG st1 bd bk m A1 mO (pB 3) iH (λ_=>0) 0:=by
  refine ⟨h2.same CD,⟨⟨R1.same s5,n0⟩,n1,⟨[],A2,⟨aDN _,KI.nil⟩,λs=>rfl⟩,R1.fresh tG⟩,?_,λx z0 z1=>h2.ex z0 (AJ x z1)⟩
  have w4:=xG.same B2 CD
  refine ⟨w4.pU,w4.pn,w4.pf,w4.kp,λx z=>?_,⟨λz=>?_,λz=>?_⟩,jQ⟩
  .rcases z with (z | z) | z
   .exact w4.nw x (.inl z)
   .exact xG.new B2 (AJ x z)
   .exact w4.nw x (.inr z)
  .rcases z with z | z
   .exact w4.of.1 z
   .have z:=AJ b z
    rw [B2.at'] at z; cases z
  .rcases z with z | z
   .exact w4.of.2 z
   .have z:=AJ lo z
    rw [xG.pU] at z; cases z
 have B7:=B2.same CD
 have yp:(A.re e').p=A.p:=rfl
 rw [← yp]
 clear yp h2 xG B2 LD m1 hp2 wI Q4 zK k1 m2 MF R1 s5 A2 CD AJ MZ tG hp1 AG TY
 generalize A.re e'=AA at *
 refine hide λu1 e1=>?_
 refine ⟨_,rfl,b,a',q,c',30,150,rfl,B7,by lia,by decide,by decide,by decide,λmk a4 c4 H9 mk0 mk1 B9 hc4 t4=>⟨_,rfl,by lia,by lia,Ek (lo:=0) (n:=mk.toNat) (λi σ G=>∃ (v7 v8 v9 vD vC:Option V) (B0 B1:TA) (iK bG:OS) (t0 t1:ao) (mZ mw:Int->Int) (a' c':Int),σ=[some (.ref b),some (.int size),some (.ref tn),some (.ref tf),some (.ref lo),some (.ref AA.p),some (.ref bd),v7,v8,v9,some (.ref A1.p),some (.ref iH),vD,vC]/\B0.p=AA.p/\B1.p=A1.p/\W2 K H G b lo tn tf cn cf ns g B0 iK t0 bd mZ (m+i) B1 bG t1 iH mw i/\Sm t0 t1/\aE G b a' q c'/\c'<=c4+13 * (i:Int))
  ⟨_,_,_,_,_,AA,A1,bG,mO,_,_,_,_,a4,c4,rfl,rfl,rfl,w2.sb B7 t4,SY,B9,by lia⟩ ?_ ?_⟩⟩
 .rintro i σ G hi ⟨v7,v8,v9,vD,vC,A0,A1,iK,bG,t0,t1,mZ,mw,a',c',rfl,Hz,yp,w,sm,B',hc'⟩
  refine gN ?_
  refine uR λD' AK=>?_
  try dsimp only
  rw [← Hz,← yp] at AK ⊢
  refine hide λu1 e1=>?_
  refine ⟨_,rfl,_,rfl,_,rfl,b,lo,a',q,c',size,ns,rfl,B',jQ,by lia,z0,z1,w.wb.pU,by lia,L5,vR,λhd t hh d a5 c5 G1 tQ et Dl Tq iU B5 hc5 s5=>⟨hd,_,rfl,aZ.of tQ,rfl,_,_,rfl,gN ⟨_,_,rfl,gN ⟨rfl,?_⟩⟩⟩⟩
  subst e1
  try dsimp only
  have w:=w.sb B' s5
  have bU:d.sp / g.size∈g.U:=by rw [gU,← M4]; exact iU
  refine hide λu1 e1=>?_
  refine ⟨_,rfl,_,rfl,_,rfl,_,rfl,A0,g,t0,iK,t,bd,hh,d,mZ,m+i,rfl,w.h0.rd,Dl,et,bU,w.h0.lw,w.h0.eb,by lia,w.h0.nb,λG2 kQ iJ LC Hw R2 AU Ah ne1 HH pQ yT=>?_⟩
  have kp:=w.h0.C5 yT
  obtain ⟨w2,B6⟩:=w.mv B5 ⟨R2,pQ,HH,λz=>(yT.fr bd z).elim w.h0.nb λz=>w.h0.ex (.inr rfl) z⟩ kp
  have Vg:=kp.1 t _ et λ_=>id
  refine ⟨_,rfl,_,rfl,_,rfl,_,rfl,A1,g,t1,bG,t,iH,hh,d,mw,i,rfl,w2.h1.rd,Dl,Vg,bU,w2.h1.lw,w2.h1.eb,by lia,w2.h1.nb,λG3 M8 iG xN AV R3 Ds l3' ne3 Vt Gi yS=>⟨_,_,rfl,?_⟩⟩
  have C6:=w2.h1.C5 yS
  obtain ⟨w3,B7⟩:=w2.swap.mv B6 ⟨R3,Gi,Vt,λz=>(yS.fr iH z).elim w2.h1.nb λz=>w2.h1.ex (.inr rfl) z⟩ C6
  have w3:=w3.swap
  have uV:=C6.1 _ _ Hw λ_=>id
  have vX:¬ Ow A1 bG iH A0.ev:=w.sep _ (.inl (.inl (by unfold Bs; simp)))
  have wK:k8 g.n G3 A0.ev (dJ g hh d t0).ev:=k8.frame AU (λo e=>C6.1 _ _ e λz=>absurd z vX) λx ys e=>C6.1 _ _ e λ_=>id
  have Fq:Sm (dJ g hh d t0) (dJ g hh d t1):=by
   cases d with
   | rd sp=>exact Ov sm
   | wt sp x=>exact V9 sm
  rw [← Fq.ev] at Ds
  subst e1
  try dsimp only
  refine ⟨_,rfl,LC,_,_,_,rfl,rfl,aZ.of uV,eS,_,rfl,cT rfl ⟨_,rfl,xN,_,_,_,rfl,rfl,aZ.of AV,eS,_,rfl,cT rfl ⟨_,rfl,LC,_,_,_,rfl,rfl,aZ.of uV,iz,_,rfl,xN,_,_,_,rfl,rfl,aZ.of AV,iz,_,_,rfl,N1 wK Ds (by lia),λG4 s4=>⟨_,rfl,cT rfl ?_⟩⟩⟩⟩
  have w4:=w3.same B7 s4
  have B8:=B7.same s4
  refine ⟨_,rfl,_,rfl,A0.re kQ,A1.re M8,g,_,_,iJ,iG,0,0,rfl,w4.h0.rd.at_,w4.h1.rd.at_,g3,Fq.gM,ED,λG5 s5=>⟨_,rfl,cT rfl ?_⟩⟩
  dsimp only [gg]
  exact AK _ _ ⟨_,_,_,_,_,A0.re kQ,A1.re M8,iJ,iG,_,_,_,_,a5,c5,rfl,rfl,rfl,w4.same B8 s5,Fq.gM,B8.same s5,by lia⟩
 rintro σ G ⟨v7,v8,v9,vD,vC,B0,B1,iK,iJ,t0,t1,mZ,mw,a5,c5,rfl,Hz,yp,w,sm,B',hc'⟩
 subst e1
 try dsimp only
 rw [← Hz,← yp]
 have m3:m+mk.toNat<=900/\mk.toNat<=900:=by lia
 generalize m+mk.toNat=ma at *
 generalize mk.toNat=mb at *
 obtain ⟨cS,CP⟩:=w.h0.rd.at_.ob
 refine hide λu1 e1=>?_
 refine ⟨_,rfl,B0.p,cS,_,rfl,CP,aA ..,B0,g,t0,iK,rfl,w.h0.rd,uL,λG1 kQ mO R1 AU Ah ne1 p1=>?_⟩
 have Aj:=w.h0.Gm p1
 have f2:=λx=>(DO hs w.h0.rd.ok (w.h0.lw x)).gM
 have qy:=λs=>IB hs w.h0.rd.ok w.h0.lw s
 have Up:(cU g t0).ev.length<=1000:=by
  have q:=X3 (g:=g) (st:=t0) (m:=21) w.h0.rd.ok λk hk=>auj (w.h0.rd.at_.L7 (by lia)) ED
  have e0:=w.h0.rd.at_.rT
  lia
 obtain ⟨w2,B2⟩:=w.mv B' ⟨R1,f2,w.h0.eb.frame λo e=>(p1.out e w.h0.nb).1,λz=>(p1.fr bd z).elim w.h0.nb λz=>w.h0.ex (.inr rfl) z⟩ Aj
 obtain ⟨jZ,TH⟩:=w2.h1.rd.at_.ob
 refine ⟨_,rfl,B1.p,jZ,_,rfl,TH,aA ..,B1,g,t1,iJ,rfl,w2.h1.rd,uL,λG2 oY FP R2 MX Us ne2 FO=>?_⟩
 have Gn:=w2.h1.Gm FO
 have f4:=λx=>(DO hs w2.h1.rd.ok (w2.h1.lw x)).gM
 have Gg:=λs=>IB hs w2.h1.rd.ok w2.h1.lw s
 obtain ⟨w3,B3⟩:=w2.swap.mv B2 ⟨R2,f4,w2.h1.eb.frame λo e=>(FO.out e w2.h1.nb).1,λz=>(FO.fr iH z).elim w2.h1.nb λz=>w2.h1.ex (.inr rfl) z⟩ Gn
 have w3:=w3.swap
 have vX:¬ Ow B1 iJ iH B0.ev:=w.sep _ (.inl (.inl (by unfold Bs; simp)))
 have wK:k8 g.n G2 B0.ev (cU g t0).ev:=k8.frame AU (λo e=>Gn.1 _ _ e λz=>absurd z vX) λx ys e=>Gn.1 _ _ e λ_=>id
 rw [← (Xb sm).ev] at MX
 refine ⟨_,_,rfl,N1 wK MX Up,λG3 s3=>⟨_,rfl,cT rfl ?_⟩⟩
 subst e1
 try dsimp only
 dsimp only [gg]
 have w4:=w3.same B3 s3
 have B4:=B3.same s3
 obtain ⟨mj,FU⟩:=w4.h0.rd.at_.ob
 refine ⟨_,rfl,B0.p,mj,_,rfl,FU,aA ..,B0.re kQ,g,_,mO,0,rfl,w4.h0.rd.at_,λD ps G4 hD s5 pD pL=>?_⟩
 have w5:=w4.same B4 s5
 have B5:=B4.same s5
 refine ⟨_,rfl,bd,mZ,_,rfl,w5.h0.eb,m3.1,λD2 ps2 G5 s6 yc ya lp=>?_⟩
 have AW:ps=ps2:=(pL.congr qy).uniq ya
 subst AW
 refine ⟨_,_,rfl,(pD.same s6).eqv yc lp,λG6 s7=>⟨_,rfl,fq rfl ?_⟩⟩
 have w6:=(w5.same B5 s6).same (B5.same s6) s7
 have B6:=(B5.same s6).same s7
 obtain ⟨qT,TF⟩:=w6.h1.rd.at_.ob
 refine ⟨_,rfl,B1.p,qT,_,rfl,TF,aA ..,B1.re oY,g,_,FP,0,rfl,w6.h1.rd.at_,λD ps G7 hD s8 pD pL=>?_⟩
 have w7:=w6.same B6 s8
 have B7:=B6.same s8
 refine ⟨_,rfl,iH,mw,_,rfl,w7.h1.eb,m3.2,λD2 ps2 G8 s9 yc ya lp=>?_⟩
 have AW:ps=ps2:=(pL.congr Gg).uniq ya
 subst AW
 exact ⟨_,_,rfl,(pD.same s9).eqv yc lp,λG9 Fx=>k _ ((w7.same B7 s9).same (B7.same s9) Fx).wb.kp⟩
end
section
def nG (K:W.Frag):Sp:=λvs H Q _=>∃ (a:Addr) (ns:List Int),vs=[.ref a]/\aG K H a (ns.map V.int)/\ns.length<=63/\Tb K H/\∀ H',Q (.bl true) H'
theorem V5 (F:aY K "law" "law" gx f fd) (T:Txt K mg) (GC:Def P w K mg base "_law_box" 1 rB (uv K)) (Gu:Def P w K mg base "_law_folded" 1 Jt (PZ K)) (Gr:Def P w K mg base "_law_right" 18 Ja (NZ K)):au P w K mg base aW 19 f fd lZ (nG K):=by
 refine F.ok p9 (λvs H Q E h=>?_) (λcdv A outer st H vs Q E hr h=>?_)
 .obtain ⟨a,ns,rfl,_⟩:=h
  rfl
 obtain ⟨a,ns,rfl,hS,h63,tb,k⟩:=h
 have nd:=p9.nd
 have hu:=bJ hr
 refine ⟨_,(Ze (eB 1 nd (Zm Gu hr.m rfl (pc (pv 0) (pc Zj Zb))))
   (Zi (Zt (Zs (Qp rfl) rfl T.C8 Pu (pc (vh (sj (gy:=(Zg gx)) (oN:=rH) (N:=["_law_k", "_law_cells"]) (own:=1) (js:=[1]) (by decide +kernel) rfl rfl) rfl (sr rfl T.oR (pc (Zs (Qy rfl) rfl T.C7 Pq (pc Zj (pc (Zs (ZI (K:=K) rfl) rfl T.sC a5u (pc (pv 1) Zb)) Zb))) Zb)) (λ_ _ _ _ _ _=>(ck 0 (show List.Nodup (["_law_k", "_law_cells"]:List Str) by decide +kernel))) (λ_ _ _ _ _ _=>(Zm Gr hr.m rfl (pc (Zm GC hr.m rfl (pc (pv 1) (pc (pv 0) Zb))) Zb)))) Zb))))),?_⟩
 refine ⟨_,rfl,a,ns,2,rfl,hS,h63,by decide,by decide,λr ms H1 hr' s1 e1 lm=>?_⟩
 have lc:(if ((ms.map V.int).length:Int) > 1 then ((ms.map V.int).length:Int) else 1)<=63:=by rw [aUH]; split <;> lia
 refine ⟨_,rfl,r,_,rfl,.inl (aG.of e1),_,_,rfl,_,rfl,?_,?_,λl hl'=>?_⟩
 .split <;> lia
 .lia
 generalize (if ((ms.map V.int).length:Int) > 1 then ((ms.map V.int).length:Int) else 1)=n at *
 have Ub:n.toNat<=63:=by lia
 have LV:r≠l:=Zd e1 hl'
 have LF:=tb.same s1
 have yd:tabOf K "Room" "going" ≠ l:=Zd LF hl'
 refine yI (lo:=0) (n:=n.toNat) (l:=l) (λj ys σ G=>∃ v0:Option V,σ=[v0,some (.ref r)]/\ys=(List.replicate j true).map V.bl/\G l=some (.lst ys)/\G r=some (.lst (ms.map V.int))/\Tb K G)
  ⟨none,rfl,rfl,Za,by rw [Zc LV]; exact e1,by unfold Tb; rw [Zc yd]; exact LF⟩ ?_ ?_
 .rintro j ys σ G hj hy ⟨v0,rfl,rfl,g1,g2,g3⟩
  refine ⟨_,rfl,_,rfl,r,ms,_,rfl,aG.of g2,by lia,by lia,λb ba bq G1 hb t1 B1=>?_⟩
  refine ⟨b,ba,bq,rfl,B1,g3.same t1,λG2 t2=>?_⟩
  have jQ:l≠b:=Zd g1 hb
  have TR:r≠b:=Zd g2 hb
  have FY:tabOf K "Room" "going" ≠ b:=Zd g3 hb
  refine kW.of (auj Ub (by decide)) hj hy (t2 _ _ jQ (t1 _ _ g1)) ⟨_,rfl,by rw [aUK,aIO]; rfl,Za,?_,?_⟩
  .rw [Zc LV]
   exact t2 _ _ TR (t1 _ _ g2)
  .unfold Tb
   rw [Zc yd]
   exact t2 _ _ FY (t1 _ _ g3)
 .rintro ys σ G hy ⟨v0,rfl,rfl,g1,g2,g3⟩
  refine ⟨l,_,rfl,aG.of g1,?_⟩
  rw [show (List.replicate n.toNat true).all id=true by rw [aQO]; intro z hz; rw [(aTX.mp hz).2]; rfl]
  exact k G
end
theorem nY {us:List Value} {n:Nat} (h:us.length=n+1):∃ v r,us=v :: r/\r.length=n:=by
 cases us with
 | nil=>cases h
 | cons v r=>exact ⟨v,r,rfl,Nat.succ.inj h⟩
theorem pR {fn:Value->Value->Value->Option Addr->Value->Value->FuncData} {ps:List Str} (h:∀ a b c d e f v0,bindArgs (fn a b c d e f) ⟨[v0],[]⟩=pure (ps.zip [v0])) (hp:ps.length=1:=by rfl) (a b c:Value) (d:Option Addr) (e f:Value) (us:List Value) (hl:us.length=ps.length):bindArgs (fn a b c d e f) ⟨us,[]⟩=pure (ps.zip us):=by
 rw [hp] at hl
 obtain ⟨v0,r0,rfl,q0⟩:=nY hl
 cases aC1 q0
 exact h a b c d e f v0
theorem ln2 {fn:Value->Value->Value->Option Addr->Value->Value->FuncData} {ps:List Str} (h:∀ a b c d e f v0 v1,bindArgs (fn a b c d e f) ⟨[v0,v1],[]⟩=pure (ps.zip [v0,v1])) (hp:ps.length=2:=by rfl) (a b c:Value) (d:Option Addr) (e f:Value) (us:List Value) (hl:us.length=ps.length):bindArgs (fn a b c d e f) ⟨us,[]⟩=pure (ps.zip us):=by
 rw [hp] at hl
 obtain ⟨v0,r0,rfl,q0⟩:=nY hl
 obtain ⟨v1,r1,rfl,q1⟩:=nY q0
 cases aC1 q1
 exact h a b c d e f v0 v1
theorem kO {fn:Value->Value->Value->Option Addr->Value->Value->FuncData} {ps:List Str} (h:∀ a b c d e f v0 v1 v2,bindArgs (fn a b c d e f) ⟨[v0,v1,v2],[]⟩=pure (ps.zip [v0,v1,v2])) (hp:ps.length=3:=by rfl) (a b c:Value) (d:Option Addr) (e f:Value) (us:List Value) (hl:us.length=ps.length):bindArgs (fn a b c d e f) ⟨us,[]⟩=pure (ps.zip us):=by
 rw [hp] at hl
 obtain ⟨v0,r0,rfl,q0⟩:=nY hl
 obtain ⟨v1,r1,rfl,q1⟩:=nY q0
 obtain ⟨v2,r2,rfl,q2⟩:=nY q1
 cases aC1 q2
 exact h a b c d e f v0 v1 v2
theorem uK {fn:Value->Value->Value->Option Addr->Value->Value->FuncData} {ps:List Str} (h:∀ a b c d e f v0 v1 v2 v3,bindArgs (fn a b c d e f) ⟨[v0,v1,v2,v3],[]⟩=pure (ps.zip [v0,v1,v2,v3])) (hp:ps.length=4:=by rfl) (a b c:Value) (d:Option Addr) (e f:Value) (us:List Value) (hl:us.length=ps.length):bindArgs (fn a b c d e f) ⟨us,[]⟩=pure (ps.zip us):=by
 rw [hp] at hl
 obtain ⟨v0,r0,rfl,q0⟩:=nY hl
 obtain ⟨v1,r1,rfl,q1⟩:=nY q0
 obtain ⟨v2,r2,rfl,q2⟩:=nY q1
 obtain ⟨v3,r3,rfl,q3⟩:=nY q2
 cases aC1 q3
 exact h a b c d e f v0 v1 v2 v3
def jP (K:W.Frag) (nm:Str) (st:Stmt):Prop:=∃ (f:Addr) (od an:Option Addr) (sl:Array (Option Value)) (oc kV dc pm cd ct:Value),W.nsIn K mainGlobals nm=some (some (.ref f))/\K.lookup f=some ⟨oc,od,.func (W.fnOf nm nm (ZZ st) (ZH st) (Zg st) .none kV dc pm an cd ct),sl⟩/\W.codeIn K cd nm=true/\W.keepIn K (.ref f)=true
def b9 (K:W.Frag) (Ca:Addr) (nm q:Str) (st:Stmt):Prop:=∃ (f:Addr) (od an:Option Addr) (sl:Array (Option Value)) (oc kV dc pm cd ct:Value),W.findIn K (.ref Ca) nm=some (some (.ref f))/\W.isFn K (.ref f)=true/\K.lookup f=some ⟨oc,od,.func (W.fnOf nm q (ZZ st) (ZH st) (Zg st) .none kV dc pm an cd ct),sl⟩/\W.codeIn K cd q=true/\W.keepIn K (.ref f)=true
theorem jP.mk {K:W.Frag} {nm:Str} {st:Stmt} {f:Addr} {od an:Option Addr} {sl:Array (Option Value)} {oc kV dc pm cd ct:Value} (a:W.nsIn K mainGlobals nm=some (some (.ref f))) (l:K.lookup f=some ⟨oc,od,.func (W.fnOf nm nm (ZZ st) (ZH st) (Zg st) .none kV dc pm an cd ct),sl⟩) (c:W.codeIn K cd nm=true) (k:W.keepIn K (.ref f)=true):jP K nm st:=⟨_,_,_,_,_,_,_,_,_,_,a,l,c,k⟩
theorem b9.mk {K:W.Frag} {Ca:Addr} {nm q:Str} {st:Stmt} {f:Addr} {od an:Option Addr} {sl:Array (Option Value)} {oc kV dc pm cd ct:Value} (a:W.findIn K (.ref Ca) nm=some (some (.ref f))) (i:W.isFn K (.ref f)=true) (l:K.lookup f=some ⟨oc,od,.func (W.fnOf nm q (ZZ st) (ZH st) (Zg st) .none kV dc pm an cd ct),sl⟩) (c:W.codeIn K cd q=true) (k:W.keepIn K (.ref f)=true):b9 K Ca nm q st:=⟨_,_,_,_,_,_,_,_,_,_,a,i,l,c,k⟩
def Co (P:Program) (w:World) (K:W.Frag) (mg:Str->Option Value) (base:Heap):Prop:=∃ h,K.In h/\h.Ns mainGlobals mg
section
variable {P:Program} {w:World} {K:W.Frag} {mg:Str->Option Value} {base:Heap} {Ca:Addr} {nm q:Str} {st:Stmt} {n:Nat} {ps:List Str} {sp:Sp} (B:Co P w K mg base)
include B
theorem Co.df (x:jP K nm st) (ok:∀ {f fd},aY K nm nm st f fd->au P w K mg base aW n f fd ps sp) (hb:∀ (kV dc pm:Value) (an:Option Addr) (cd ct:Value) (us:List Value),us.length=ps.length->bindArgs (W.fnOf nm nm (ZZ st) (ZH st) (Zg st) .none kV dc pm an cd ct) ⟨us,[]⟩=pure (ps.zip us)):Def P w K mg base nm n ps sp:=by
 obtain ⟨f,od,an,sl,oc,kV,dc,pm,cd,ct,a,l,c,k⟩:=x
 obtain ⟨h,X,G⟩:=B
 have F:=wX l c k
 exact ⟨_,_,ok F,W.mg_of X G a,F.kp,F.binds hb⟩
theorem Co.md (x:b9 K Ca nm q st) (ok:∀ {f fd},aY K nm q st f fd->au P w K mg base aW n f fd ps sp) (hb:∀ (kV dc pm:Value) (an:Option Addr) (cd ct:Value) (us:List Value),us.length=ps.length->bindArgs (W.fnOf nm q (ZZ st) (ZH st) (Zg st) .none kV dc pm an cd ct) ⟨us,[]⟩=pure (ps.zip us)):ay P w K mg base Ca nm n ps sp:=by
 obtain ⟨f,od,an,sl,oc,kV,dc,pm,cd,ct,a,i,l,c,k⟩:=x
 have F:=wX l c k
 exact ⟨_,_,ok F,⟨a,i,k⟩,F.binds hb⟩
theorem Co.kd {y:Str} (x:b9 K Ca "__init__" q st) (mk:W.makesIn K Ca=true) (kc:W.keepIn K (.ref Ca)=true) (aC:W.nsIn K mainGlobals y=some (some (.ref Ca))) (ok:∀ {f fd},aY K "__init__" q st f fd->au P w K mg base aW n f fd ps sp) (hb:∀ (kV dc pm:Value) (an:Option Addr) (cd ct:Value) (us:List Value),us.length=ps.length->bindArgs (W.fnOf "__init__" q (ZZ st) (ZH st) (Zg st) .none kV dc pm an cd ct) ⟨us,[]⟩=pure (ps.zip us)):pH P w K mg base Ca y n ps sp:=by
 obtain ⟨f,od,an,sl,oc,kV,dc,pm,cd,ct,a,i,l,c,k⟩:=x
 obtain ⟨h,X,G⟩:=B
 have F:=wX l c k
 exact ⟨_,_,ok F,⟨mk,a,i,kc⟩,W.mg_of X G aC,F.binds hb⟩
end
theorem V4 {l:W.OpenLaw} {w:World} {K:W.Frag} {h:Heap} {mg:Str->Option Value} {fa:Addr} {tp cg:Addr} (X:K.In h) (G:h.Ns mainGlobals mg) (UP:mg "law" = some (.ref fa))
  {aQ:Addr} (qZ:W.nsIn K mainGlobals "Room" = some (some (.ref aQ)))
  {aI:Addr} (ow:W.nsIn K mainGlobals "Store" = some (some (.ref aI)))
  {aX:Addr} (lV:W.nsIn K mainGlobals "Memory" = some (some (.ref aX)))
  {aj:Addr} (lW:W.nsIn K mainGlobals "Beside" = some (some (.ref aj)))
  {jt:Addr} (oA:W.nsIn K mainGlobals "Steps" = some (some (.ref jt)))
  (x0:jP K "_law_take" Iq)
  (x1:jP K "_law_box" qf)
  (x2:jP K "_law_folded" Ju)
  (x3:jP K "_law_some_boards" Es)
  (a4:W.nsIn K mainGlobals "_law_same" = some (some (.ref f4))) (l4:K.lookup f4=some ⟨oc4,od4,.func (W.fnOf "_law_same" "_law_same" (ZZ vc) (ZH vc) (Zg vc) .none kV4 dc4 uF an4 Vo ct4),sl4⟩) (c4:W.codeIn K Vo "_law_same" = true) (k4:W.keepIn K (.ref f4)=true)
  (x5:jP K "shelf_of" JN)
  (x6:b9 K aQ "has" "Room.has" JL)
  (x7:b9 K aQ "mates" "Room.mates" JV)
  (x8:b9 K aQ "need" "Room.need" Kh)
  (a9:W.findIn K (.ref aQ) "going" = some (some (.ref f9))) (i9:W.isFn K (.ref f9)=true) (l9:K.lookup f9=some ⟨oc9,od9,.func (W.fnOf "going" "Room.going" (ZZ ZB) (ZH ZB) (Zg ZB) .none kV9 dc9 pm9 an9 (.ref cg) ct9),sl9⟩) (c9:W.codeIn K (.ref cg) "Room.going" = true) (k9:W.keepIn K (.ref f9)=true)
  (SE:b9 K aQ "drop" "Room.drop" Kl)
  (SD:b9 K aQ "use" "Room.use" JK)
  (Sz:b9 K aQ "__init__" "Room.__init__" Ex)
  (Sy:b9 K aQ "leaver_for" "Room.leaver_for" Li)
  (Sx:b9 K aQ "bring" "Room.bring" JX)
  (Sw:b9 K aI "__init__" "Store.__init__" JU)
  (Sv:b9 K aI "has" "Store.has" Kf)
  (Su:b9 K aI "lay" "Store.lay" Ke)
  (Ss:b9 K aI "take_in" "Store.take_in" Ky)
  (So:b9 K aI "give_out" "Store.give_out" Lf)
  (Sn:b9 K aI "words_of" "Store.words_of" Ld)
  (Sl:b9 K aI "lay_word" "Store.lay_word" Lc)
  (Sk:b9 K aI "freshen" "Store.freshen" Kv)
  (Sj:jP K "board_of" JP)
  (Si:jP K "spots_of" JO)
  (Sh:b9 K aX "__init__" "Memory.__init__" J8)
  (Sg:b9 K aX "words_of" "Memory.words_of" ZX)
  (Sf:b9 K aX "lay" "Memory.lay" JS)
  (Se:b9 K aj "store" "Steps.store" J5)
  (Sd:b9 K aj "words" "Steps.words" J6)
  (Sb:b9 K aj "happened" "Steps.happened" K8)
  (Sa:b9 K aj "leaver" "Steps.leaver" KN)
  (R9:b9 K aj "tell_found" "Steps.tell_found" K1)
  (R8:b9 K aj "use_in" "Steps.use_in" KL)
  (R7:b9 K aj "come_in" "Steps.come_in" Kr)
  (RZ:b9 K aj "go_out" "Steps.go_out" KJ)
  (RY:b9 K aj "put" "Steps.put" Kd)
  (RX:b9 K aj "word_in" "Steps.word_in" Kq)
  (RW:b9 K aj "put_word" "Steps.put_word" K7)
  (U7:W.specialIn K (.ref jt) "__getattribute__" = some (some (.builtin "type.__getattribute__"))) (Tf:W.readsIn K jt (.type "type")=true) (Vy:W.findCls K (.ref jt) (.type "type") "__init__" = some (.val (.ref MU))) (Ur:K.lookup MU=some ⟨Tw,Tu,.func (W.fnOf "__init__" "Steps.__init__" (ZZ ZS) (ZH ZS) (Zg ZS) .none Uv Vm Th Vv HF Vn),S6⟩) (Vq:W.codeIn K HF "Steps.__init__" = true) (Mc:W.keepIn K (.ref MU)=true)
  (RV:b9 K aI "is_fresh" "Store.is_fresh" La)
  (RU:b9 K aI "settle" "Store.settle" KU)
  (RT:b9 K aj "__init__" "Beside.__init__" J4)
  (RQ:b9 K aj "put_down" "Beside.put_down" Lg)
  (RP:b9 K aj "leave_near" "Beside.leave_near" K2)
  (RO:b9 K aj "settle_near" "Beside.settle_near" K5)
  (RN:b9 K aj "leave_all" "Beside.leave_all" KY)
  (RM:b9 K aj "fetch_far" "Beside.fetch_far" K0)
  (RK:b9 K aj "fetch_near" "Beside.fetch_near" K3)
  (RJ:b9 K aj "read" "Beside.read" J2)
  (RH:b9 K aj "write" "Beside.write" KH)
  (RG:b9 K aQ "boards" "Room.boards" KD)
  (RE:b9 K aj "lies" "Steps.lies" JQ)
  (RD:b9 K aj "emptied" "Beside.emptied" KA)
  (RC:jP K "_law_room_plan" Kc)
  (RA:jP K "_law_plan" DH)
  (Rz:jP K "_law_many" Ij)
  (Ry:jP K "_law_word" Io)
  (Rx:jP K "_law_deed" Il)
  (Rw:jP K "_law_pair" Ih)
  (Rv:jP K "_law_hand_deed" Ka)
  (Ru:jP K "_law_done" Ie)
  (Rt:jP K "_law_told" Ib)
  (Rr:b9 K aj "changed" "Steps.changed" Ku)
  (Rq:jP K "_law_like" yr)
  (Rp:b9 K aX "pairs" "Memory.pairs" KR)
  (Ro:b9 K aj "memory" "Steps.memory" KP)
  (Rl:jP K "_law_pairs" D4)
  (Rj:jP K "_law_right" Jb)
  (Vx:W.nsIn K mainGlobals "law" = some (some (.ref MT))) (Uq:K.lookup MT=some ⟨Tv,Tt,.func (W.fnOf "law" "law" (ZZ gx) (ZH gx) (Zg gx) .none Gq HA FI HL A8 HC),S5⟩) (Vp:W.codeIn K A8 "law" = true) (Uw:W.keepIn K (.ref MT)=true)
  (C9:W.nsIn K mainGlobals "abs" = some none)
  (C8:W.nsIn K mainGlobals "all" = some none)
  (De:W.nsIn K mainGlobals "bool" = some none)
  (Gw:W.nsIn K mainGlobals "divmod" = some none)
  (GA:W.nsIn K mainGlobals "enumerate" = some none)
  (yg:W.nsIn K mainGlobals "int" = some none)
  (pN:W.nsIn K mainGlobals "isinstance" = some none)
  (sC:W.nsIn K mainGlobals "len" = some none)
  (pX:W.nsIn K mainGlobals "list" = some none)
  (C7:W.nsIn K mainGlobals "max" = some none)
  (GD:W.nsIn K mainGlobals "min" = some none)
  (oR:W.nsIn K mainGlobals "range" = some none)
  (vA:W.nsIn K mainGlobals "sorted" = some none)
  (Am:W.nsIn K mainGlobals "str" = some none)
  (Ar:W.nsIn K mainGlobals "tuple" = some none)
  (Dh:W.nsIn K mainGlobals "zip" = some none)
  {yV:Tok} (oJ:W.nsIn K mainGlobals "FAR" = some (some (.int 2 yV)))
  {ou:Addr} {tR:Option Addr} {sV:Nat} {sH:Array (Option Value)} {oM oK:Tok} (Df:W.nsIn K mainGlobals "HANDS" = some (some (.ref ou))) (tH:K.lookup ou=some ⟨.type "tuple",tR,.seq #[.int 0 oM,.int 1 oK] sV,sH⟩)
  (vO:W.plainGet K aQ Str.empty=true) (wA:W.hasDictIn K aQ=true) (vN:W.plainOver K aQ=true) (vF:W.findIn K (.ref aQ) "__setattr__" = some (some (.builtin "object.__setattr__"))) (vY:W.makesIn K aQ=true) (wk:W.keepIn K (.ref aQ)=true)
  (kJ:W.findIn K (.ref aQ) "places" = some none)
  (mQ:W.findIn K (.ref aQ) "rule" = some none)
  (jW:W.findIn K (.ref aQ) "shelves" = some none)
  (jz:W.findIn K (.ref aQ) "standing" = some none)
  (mP:W.findIn K (.ref aQ) "uses" = some none)
  (sS:W.plainGet K aI Str.empty=true) (tF:W.hasDictIn K aI=true) (sQ:W.plainOver K aI=true) (sF:W.findIn K (.ref aI) "__setattr__" = some (some (.builtin "object.__setattr__"))) (sW:W.makesIn K aI=true) (sZ:W.keepIn K (.ref aI)=true)
  (kI:W.findIn K (.ref aI) "fresh" = some none)
  (lG:W.findIn K (.ref aI) "held" = some none)
  (lF:W.findIn K (.ref aI) "late" = some none)
  (lE:W.findIn K (.ref aI) "room" = some none)
  (qp:W.plainGet K aX Str.empty=true) (qJ:W.hasDictIn K aX=true) (qm:W.plainOver K aX=true) (qd:W.findIn K (.ref aX) "__setattr__" = some (some (.builtin "object.__setattr__"))) (qv:W.makesIn K aX=true) (qD:W.keepIn K (.ref aX)=true)
  (kL:W.findIn K (.ref aX) "kept" = some none)
  (kK:W.findIn K (.ref aX) "size" = some none)
  (qq:W.plainGet K aj Str.empty=true) (qK:W.hasDictIn K aj=true) (qo:W.plainOver K aj=true) (qe:W.findIn K (.ref aj) "__setattr__" = some (some (.builtin "object.__setattr__"))) (qw:W.makesIn K aj=true) (qE:W.keepIn K (.ref aj)=true)
  (jC:W.findIn K (.ref aj) "bottom" = some none)
  (jB:W.findIn K (.ref aj) "events" = some none)
  (kN:W.findIn K (.ref aj) "last" = some none)
  (kM:W.findIn K (.ref aj) "size" = some none)
  (jA:W.findIn K (.ref aj) "stores" = some none)
  (ch:W.codeHdIn K cg tp=true) (kt:K.lookup tp=none)
  : tabOf K "Room" "going" = tp/\(∃ c0,W.codeHdIn K c0 tp=true)/\K.lookup tp=none/\∃ fd:FuncData,(∀ (s:Shared) (v:Value),BindsTo s fd ⟨[v],[]⟩ [("_law_script",v)])/\∀ base:Heap,K.In base->base.Ns mainGlobals mg->BMod base mg->au l.prog w K mg base aW 19 fa fd lZ (nG K):=by
 have e:=UP.symm.trans (W.mg_of X G Vx)
 cases e
 have wG:=BG qZ
 subst wG
 have tK:=BG ow
 subst tK
 have qM:=BG lV
 subst qM
 have qN:=BG lW
 subst qN
 have tL:=BG oA
 subst tL
 have T:Txt K mg:=⟨a6H X G C9,a6H X G C8,a6H X G De,a6H X G Gw,a6H X G GA,a6H X G yg,a6H X G pN,a6H X G sC,a6H X G pX,a6H X G C7,a6H X G GD,a6H X G oR,a6H X G vA,a6H X G Am,a6H X G Ar,a6H X G Dh,⟨_,W.mg_of X G oJ⟩,⟨_,W.mg_of X G Df,λ_=>.inr ⟨_,_,_,tH,rfl,rfl,(sl 2),.cons ⟨_,rfl⟩ (.cons ⟨_,rfl⟩ (.nil))⟩⟩,⟨vO,wA,vN,vF⟩,kJ,mQ,jW,jz,mP,⟨sS,tF,sQ,sF⟩,kI,lG,lF,lE,⟨qp,qJ,qm,qd⟩,kL,kK,⟨qq,qK,qo,qe⟩,jC,jB,kN,kM,jA⟩
 have F4:=wX (st:=vc) l4 c4 k4
 have Bg:=F4.binds (ps:=rY) (ln2 λ_ _ _ _ _ _ _ _=>rfl)
 have F9:=wX (st:=ZB) l9 c9 k9
 have Bf:=F9.binds (ps:=BY) (ln2 λ_ _ _ _ _ _ _ _=>rfl)
 have Rg:=wX (st:=ZS) Ur Vq Mc
 have Be:=Rg.binds (ps:=BX) (kO λ_ _ _ _ _ _ _ _ _=>rfl)
 have Rf:=wX (st:=gx) Uq Vp Uw
 have Nd:=Rf.binds (ps:=lZ) (pR λ_ _ _ _ _ _ _=>rfl)
 have tq:=Ym a9 l9 rfl ch
 refine ⟨tq,⟨_,ch⟩,kt,?_⟩
 refine ⟨W.fnOf "law" "law" (ZZ gx) (ZH gx) (Zg gx) .none Gq HA FI HL A8 HC,λs v=>.of_eq rfl,λbase _ _ bm=>?_⟩
 have B:Co l.prog w K mg base:=⟨_,X,G⟩
 have dG:=B.df x0 (λF=>Ww F T ) (ln2 λ_ _ _ _ _ _ _ _=>rfl)
 have GC:=B.df x1 (λF=>Wj F T ) (ln2 λ_ _ _ _ _ _ _ _=>rfl)
 have Gu:=B.df x2 (λF=>Yy F T ) (ln2 λ_ _ _ _ _ _ _ _=>rfl)
 have E2:=B.df x3 (λF=>ZeY F T dG) (ln2 λ_ _ _ _ _ _ _ _=>rfl)
 have mK:=PX (P:=l.prog) (w:=w) (base:=base) F4 Bg (W.mg_of X G a4) T 
 have Gy:=B.df x5 (λF=>ZhJ F T ) (ln2 λ_ _ _ _ _ _ _ _=>rfl)
 have sP:=B.md x6 (λF=>ZhK F T ) (ln2 λ_ _ _ _ _ _ _ _=>rfl)
 have pM:=B.md x7 (λF=>ZfL F T Gy) (ln2 λ_ _ _ _ _ _ _ _=>rfl)
 have sJ:=B.md x8 (λF=>ZgU F T sP) (ln2 λ_ _ _ _ _ _ _ _=>rfl)
 have EZ:ay l.prog w K mg base (aa K "Room") "going" 2 BY (IY K):=⟨_,_,ZfM F9 rfl tq ch bm T ,⟨a9,i9,k9⟩,Bf⟩
 have xM:=B.md SE (λF=>ZgV F T sJ pM) (ln2 λ_ _ _ _ _ _ _ _=>rfl)
 have Gx:=B.md SD (λF=>ZhM F T sJ pM) (ln2 λ_ _ _ _ _ _ _ _=>rfl)
 have GL:=B.kd Sz vY wk qZ (λF=>ZgW F T ) (uK λ_ _ _ _ _ _ _ _ _ _=>rfl)
 have xU:=B.md Sy (λF=>Zdp F T pM EZ) (ln2 λ_ _ _ _ _ _ _ _=>rfl)
 have EY:=B.md Sx (λF=>ZfO F T sP xU pM xM) (ln2 λ_ _ _ _ _ _ _ _=>rfl)
 have Gs:=B.kd Sw sW sZ ow (λF=>ZfQ F T GL) (ln2 λ_ _ _ _ _ _ _ _=>rfl)
 have pK:=B.md Sv (λF=>ZgY F T sP) (ln2 λ_ _ _ _ _ _ _ _=>rfl)
 have xK:=B.md Su (λF=>ZgZ F T ) (kO λ_ _ _ _ _ _ _ _ _=>rfl)
 have EM:=B.md Ss (λF=>Zea F T EY xK) (kO λ_ _ _ _ _ _ _ _ _=>rfl)
 have ES:=B.md So (λF=>ZdJ F T xM) (ln2 λ_ _ _ _ _ _ _ _=>rfl)
 have pO:=B.md Sn (λF=>ZdK F T sJ) (ln2 λ_ _ _ _ _ _ _ _=>rfl)
 have ER:=B.md Sl (λF=>ZdL F T ) (uK λ_ _ _ _ _ _ _ _ _ _=>rfl)
 have xT:=B.md Sk (λF=>Zeb F T ) (ln2 λ_ _ _ _ _ _ _ _=>rfl)
 have pJ:=B.df Sj (λF=>ZhN F T ) (ln2 λ_ _ _ _ _ _ _ _=>rfl)
 have xH:=B.df Si (λF=>ZhP F T ) (ln2 λ_ _ _ _ _ _ _ _=>rfl)
 have Gv:=B.kd Sh qv qD lV (λF=>ZeZ F T ) (ln2 λ_ _ _ _ _ _ _ _=>rfl)
 have ET:=B.md Sg (λF=>Zdr F T xH) (ln2 λ_ _ _ _ _ _ _ _=>rfl)
 have EX:=B.md Sf (λF=>ZfS F T xH) (kO λ_ _ _ _ _ _ _ _ _=>rfl)
 have sL:=B.md Se (λF=>Zfa F T ) (ln2 λ_ _ _ _ _ _ _ _=>rfl)
 have xX:=B.md Sd (λF=>Zfb F T ET sL pO) (kO λ_ _ _ _ _ _ _ _ _=>rfl)
 have sN:=B.md Sb (λF=>ZdO F T ) (pR λ_ _ _ _ _ _ _=>rfl)
 have xZ:=B.md Sa (λF=>ZeL F T xU) (kO λ_ _ _ _ _ _ _ _ _=>rfl)
 have vJ:=B.md R9 (λF=>ZcY F T ) (ln2 λ_ _ _ _ _ _ _ _=>rfl)
 have x9:=B.md R8 (λF=>ZeM F T Gx) (kO λ_ _ _ _ _ _ _ _ _=>rfl)
 have xS:=B.md R7 (λF=>Zec F T EM) (uK λ_ _ _ _ _ _ _ _ _ _=>rfl)
 have oQ:=B.md RZ (λF=>ZeO F T ES) (kO λ_ _ _ _ _ _ _ _ _=>rfl)
 have rP:=B.md RY (λF=>Zhc F T EX xK) (uK λ_ _ _ _ _ _ _ _ _ _=>rfl)
 have EL:=B.md RX (λF=>Zed F T pO pJ) (kO λ_ _ _ _ _ _ _ _ _=>rfl)
 have EN:=B.md RW (λF=>ZdP F T ER pJ) (uK λ_ _ _ _ _ _ _ _ _ _=>rfl)
 have GB:xE l.prog w K mg base "Steps" "__init__" 5 BX (IU K):=⟨_,_,_,ZfW Rg T Gs Gv,⟨U7,⟨_,Tf,Vy⟩,Mc⟩,W.mg_of X G oA,Be⟩
 have EO:=B.md RV (λF=>ZdQ F T ) (ln2 λ_ _ _ _ _ _ _ _=>rfl)
 have EJ:=B.md RU (λF=>ZeQ F T ) (ln2 λ_ _ _ _ _ _ _ _=>rfl)
 have Dg:=B.kd RT qw qE lW (λF=>Zfc F T GB) (uK λ_ _ _ _ _ _ _ _ _ _=>rfl)
 have sO:=B.md RQ (λF=>Zdt F T rP xT) (kO λ_ _ _ _ _ _ _ _ _=>rfl)
 have xW:=B.md RP (λF=>ZcF F T oQ sO) (kO λ_ _ _ _ _ _ _ _ _=>rfl)
 have EW:=B.md RO (λF=>Zcy F T EO pO sO EJ) (kO λ_ _ _ _ _ _ _ _ _=>rfl)
 have EV:=B.md RN (λF=>Zda F T oQ pK rP) (ln2 λ_ _ _ _ _ _ _ _=>rfl)
 have EU:=B.md RM (λF=>Zdb F T pK vJ x9 xZ EV xS xX) (ln2 λ_ _ _ _ _ _ _ _=>rfl)
 have xV:=B.md RK (λF=>ZcG F T pK vJ x9 EU EW xZ xW xS xX) (kO λ_ _ _ _ _ _ _ _ _=>rfl)
 have E3:=B.md RJ (λF=>Zfd F T pJ xV EL sN) (kO λ_ _ _ _ _ _ _ _ _=>rfl)
 have EI:=B.md RH (λF=>ZeR F T pJ xV pK oQ EN xT pO sO sN) (uK λ_ _ _ _ _ _ _ _ _ _=>rfl)
 have E4:=B.md RG (λF=>Zfe F T ) (pR λ_ _ _ _ _ _ _=>rfl)
 have vK:=B.md RE (λF=>Zga F T sL E4) (ln2 λ_ _ _ _ _ _ _ _=>rfl)
 have zD:=B.md RD (λF=>ZdR F T vK xW oQ rP sN) (pR λ_ _ _ _ _ _ _=>rfl)
 have xJ:=B.df RC (λF=>Zhk F T dG) (pR λ_ _ _ _ _ _ _=>rfl)
 have GJ:=B.df RA (λF=>Xa F T dG xJ) (pR λ_ _ _ _ _ _ _=>rfl)
 have Dc:=B.df Rz (λF=>W9 F T dG) (kO λ_ _ _ _ _ _ _ _ _=>rfl)
 have GK:=B.df Ry (λF=>W8 F T dG) (pR λ_ _ _ _ _ _ _=>rfl)
 have GI:=B.df Rx (λF=>W7 F T dG GK) (kO λ_ _ _ _ _ _ _ _ _=>rfl)
 have GG:=B.df Rw (λF=>W6 F T GJ xJ) (pR λ_ _ _ _ _ _ _=>rfl)
 have Cu:=B.df Rv (λF=>Zhl F T dG GI) (kO λ_ _ _ _ _ _ _ _ _=>rfl)
 have GH:=B.df Ru (λF=>W5 F T E3 EI) (kO λ_ _ _ _ _ _ _ _ _=>rfl)
 have An:=B.df Rt (λF=>W3 F T GH mK) (uK λ_ _ _ _ _ _ _ _ _ _=>rfl)
 have EK:=B.md Rr (λF=>Zee F T sL) (ln2 λ_ _ _ _ _ _ _ _=>rfl)
 have GF:=B.df Rq (λF=>W0 F T vK EK mK) (ln2 λ_ _ _ _ _ _ _ _=>rfl)
 have EH:=B.md Rp (λF=>ZeU F T ) (pR λ_ _ _ _ _ _ _=>rfl)
 have yR:=B.md Ro (λF=>ZeV F T EH) (pR λ_ _ _ _ _ _ _=>rfl)
 have Ao:=B.df Rl (λF=>X0 F T ) (pR λ_ _ _ _ _ _ _=>rfl)
 have Gr:=B.df Rj (λF=>XZ F T GG E2 Cu Dc Dg An GF zD yR Ao mK) (pR λ_ _ _ _ _ _ _=>rfl)
 exact V5 Rf T GC Gu Gr
theorem walk {l:W.OpenLaw} {q:Program} {loose:List Str} {XP:(Str->Option Value)->Heap->Prop} {YP:World->Heap->Prop} {d:DefRec} {K:Params->W.Frag} {tp:Addr} (hn:l.most=some 63) (hdf:d.params.defaults=[])
  (hY:∀ (w:World) (h:Heap),YP w h->(K w.params).In h/\h.get? tp=some { cls:=.none,data:=.fields #[] })
  (F:∀ (w:World) (mg:Str->Option Value) (fa:Addr) (h:Heap),(K w.params).In h->h.Ns mainGlobals mg->mg d.name=some (.ref fa) ->
   tabOf (K w.params) "Room" "going" = tp/\(∃ c0,W.codeHdIn (K w.params) c0 tp=true)/\(K w.params).lookup tp=none/\∃ fd:FuncData,(∀ (s:Shared) (u:Value),BindsTo s fd ⟨[u],[]⟩ [("_law_script",u)])/\∀ base:Heap,(K w.params).In base->base.Ns mainGlobals mg->BMod base mg->au l.prog w (K w.params) mg base aW 19 fa fd lZ (nG (K w.params))) :
  W.WalkO q loose XP YP l.row.toRowW d [] (λf vs=>PySem.call f vs) :=
 L2.Yn (tp:=tp) (pos:=tpos) (qual:=pZ) (G:=λw=>tabOf (K w.params) "Room" "going" = tp) (n:=63) (k:=19) (x := "_law_script") (CX:=λ_=>aW) (sp:=λw=>nG (K w.params)) hn (by decide) hdf ⟨rfl,by decide,by decide,rfl⟩ hY F (λ_ _ a ns g hl hT hS=>⟨a,ns,rfl,hS,hl,(by unfold Tb; rw [g]; exact hT),λ_=>rfl⟩) λ_ _ _ _ _ z=>z
end bI
namespace PySem.W.Fast
abbrev Q:=Nat
open Lean in
local macro_rules|`(command|#reduce 0)=>do
 let f:=λ(n:Name)=>`(command|def $(mkIdent (.mkSimple s!"tw{n.hash}")):ident:=Q)
 let mut r:=#[<-f `PySem.Challenge.pw_nearstairs_k43_beside_begun_anew]
 for (x,l) in [("o_",List.range' 43 740),("tree_",[47,84,99,114,129,144,235,236,323,372,491,574,579,664,744,782]),("sts_",[49,85,100,115,130,145,236,238,324,373,578,580,665,745]),("heap_",[39,46,783]),("view_",[39]),("env_",[41]),("thread_",[574])] do for i in l do r:=r.push (<-f (.str `PySem.Challenge.cw_nearstairs_k43_beside_begun_anew_holds s!"{x}{i}"))
 return mkNullNode r
#reduce 0
end PySem.W.Fast
open PySem PySem.W PyProof.Rows
set_option maxRecDepth 100000 in
set_option maxHeartbeats 0 in
theorem PySem.Challenge.cw_nearstairs_k43_beside_begun_anew_holds : PySem.Challenge.rw_nearstairs_k43_beside_begun_anew.Holds := by
 w_on; o_law; k_head; (case hw=>w_witness2)
 k_fill
 refine bI.walk (l:=PySem.Challenge.rw_nearstairs_k43_beside_begun_anew) rfl rfl (λw h Y=>⟨PySem.W.km_in_of Y,PySem.W.km_tabs_of Y _ mem_cons_self⟩) ?F
 case F =>
  intro w mg fa h KX G hmg
  refine' bI.V4 KX G hmg ?_ ?_ ?_ ?_ ?_ ?_ ?_ ?_ ?_ ?_ ?_ ?_ ?_ ?_ ?_ ?_ ?_ ?_ ?_ ?_ ?_ ?_ ?_ ?_ ?_ ?_ ?_ ?_ ?_ ?_ ?_ ?_ ?_ ?_ ?_ ?_ ?_ ?_ ?_ ?_ ?_ ?_ ?_ ?_ ?_ ?_ ?_ ?_ ?_ ?_ ?_ ?_ ?_ ?_ ?_ ?_ ?_ ?_ ?_ ?_ ?_ ?_ ?_ ?_ ?_ ?_ ?_ ?_ ?_ ?_ ?_ ?_ ?_ ?_ ?_ ?_ ?_ ?_ ?_ ?_ ?_ ?_ ?_ ?_ ?_ ?_ ?_ ?_ ?_ ?_ ?_ ?_ ?_ ?_ ?_ ?_ ?_ ?_ ?_ ?_ ?_ ?_ ?_ ?_ ?_ ?_ ?_ ?_ ?_ ?_ ?_ ?_ ?_ ?_ ?_ ?_ ?_ ?_ ?_ ?_ ?_ ?_ ?_ ?_ ?_ ?_ ?_ ?_ ?_ ?_ ?_ ?_ ?_ ?_ ?_ ?_ ?_ ?_ ?_ ?_ ?_ ?_ ?_ ?_ ?_ ?_ ?_ ?_ ?_ ?_ ?_
  all_goals try refine' bI.jP.mk ?_ ?_ ?_ ?_
  all_goals try refine' bI.b9.mk ?_ ?_ ?_ ?_ ?_
  all_goals try k_is
  all_goals kernel_rfl
