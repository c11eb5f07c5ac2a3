import PyProof.Rows.All
import Wide.All
import OpenK.AllK
import Wide.FinOn
import Lean
import PyProof.EqAt
import PyProof.EqKinds
import PyProof.TupleCall
import KE.KDictSum
import KE.KTryDeep
import KE.KTryMore
import PyProof.NsDelKeeps
import PyProof.FString
import PyProof.Rows.SetFrom
import KE.KItemsList
import PySem.Challenge.RW_nearstairs_k65_whole_begun_anew
open List (all_cons all_eq_true any_cons append_assoc append_nil drop_drop drop_eq_getElem_cons drop_of_length_le drop_sublist drop_take erase_cons_head filter_cons filter_sublist find?_cons getD_eq_getElem?_getD getElem?_append_left getElem?_append_right getElem?_drop getElem?_eq_getElem getElem?_eq_none getElem?_eq_some_iff getElem?_map getElem?_range getElem?_replicate getElem?_set_ne getElem?_set_self getElem_drop getElem_map getElem_mem getElem_take length_append length_cons length_drop length_filter_le length_map length_nil length_range length_replicate length_set length_singleton length_take map_append map_congr_left map_cons map_id map_map map_nil map_set mem_append mem_append_left mem_append_right mem_cons mem_cons_of_mem mem_cons_self mem_erase_of_ne mem_filter mem_iff_getElem mem_map mem_map_of_mem mem_of_getElem? mem_of_mem_erase mem_range mem_replicate mem_singleton nodup_cons nodup_nil not_mem_nil pairwise_append pairwise_cons pairwise_iff_getElem pairwise_map take_append_drop take_length take_of_length_le take_succ take_zero)
set_option Elab.async false
set_option compiler.extract_closed false
set_option linter.all false
set_option maxRecDepth 100000
abbrev agE:=@PySem.wpAny_bind
abbrev aoK:=@if_neg
abbrev aYH:=@if_pos
abbrev apX:=@Nat.le_refl
abbrev a8G:=@PySem.Heap.get?_push_of_some
abbrev anq:=@PySem.wpAny_pure
abbrev a9z:=@PyProof.Rows.wpS_bind
abbrev aW8:=@List.length_map
abbrev aNG:=@PySem.Heap.lt_size
abbrev ahi:=@PyProof.Rows.wpS_pure
abbrev azG:=@List.getElem?_eq_some_iff
abbrev aIn:=@PySem.Heap.get?_push_size
abbrev aTi:=@Array.length_toList
abbrev aEW:=@List.getElem?_eq_getElem
abbrev amC:=@Nat.ne_of_lt
abbrev aDb:=@Option.some.inj
abbrev abH:=@List.mem_of_getElem?
abbrev alM:=@Nat.le_trans
abbrev aLx:=@Bool.false_eq_true
abbrev aPf:=@Bool.false_ne_true
abbrev aTl:=@Array.getElem?_eq_getElem
abbrev aBb:=@List.size_toArray
abbrev avX:=@Ne.symm
abbrev abf:=@Nat.zero_le
abbrev bau:=@List.mem_singleton
abbrev aeb:=@List.getElem?_map
abbrev agc:=@List.getD_eq_getElem?_getD
abbrev aCP:=@List.mem_cons
abbrev ae8:=@Nat.lt_of_lt_of_le
abbrev auY:=@List.not_mem_nil
abbrev aE0:=@List.length_append
abbrev aO5:=@List.mem_cons_of_mem
abbrev aLP:=@bind_congr
abbrev aXy:=@PySem.sizeLine_eq
abbrev aUH:=@List.mem_append
abbrev a6R:=@Array.getElem?_toList
abbrev a5z:=@PyProof.Rows.callWith_type1
abbrev aSJ:=@decide_eq_true
abbrev aEt:=@List.mem_append_right
abbrev aOS:=@PyProof.Rows.wpS_forRange
abbrev aAX:=@List.mem_cons_self
abbrev aEC:=@PySem.wpAny_mono
abbrev aZG:=@Nat.lt_irrefl
abbrev a6r:=@List.mem_cons
abbrev a4R:=@or_false
abbrev bdb:=@if_false
abbrev bcN:=@decide_eq_false
abbrev aSc:=@congrArg
abbrev ax8:=@List.getElem?_eq_none
abbrev aiA:=@List.eq_nil_of_length_eq_zero
abbrev bbj:=@List.getElem?_append_right
abbrev aaw:=@List.getElem?_append_left
abbrev aoW:=@PySem.wpAny_setField_rec
abbrev aDB:=@List.Nodup.mem_erase_iff
abbrev aK6:=@List.map_append
abbrev amH:=@List.perm_append_comm
abbrev atQ:=@PySem.PassesOwn.never
abbrev avZ:=@Array.toList_append
abbrev ayh:=@PySem.W.mg_none_of
abbrev aAw:=@PyProof.Rows.wpS_mono
abbrev aIk:=@Sum.inl.inj
abbrev aMj:=@PySem.wpAny_holding
abbrev azO:=@List.append_assoc
abbrev aMl:=@PySem.wpAny_call_entry
abbrev aiJ:=@PySem.wpAny_newObj_type
abbrev aO1:=@Nat.lt_succ_of_lt
abbrev aRr:=@PySem.F.plainAttrs_list
abbrev aTQ:=@PySem.Heap.size_push
abbrev ban:=@if_true
abbrev aL6:=@Array.getElem_toList
abbrev aiy:=@PySem.wpAny_rule
abbrev aIf:=@Nat.le_of_lt
abbrev a34:=@List.mem_map
abbrev bax:=@List.mem_map_of_mem
abbrev aE7:=@List.nodup_cons
abbrev a1R:=@List.length_take
abbrev a9V:=@decide_eq_false_iff_not
abbrev aSM:=@List.map_cons
abbrev agO:=@List.lookup_cons
abbrev aA9:=@Nat.ne_of_gt
abbrev aXW:=@List.length_cons
abbrev aOt:=@decide_eq_true_eq
abbrev atg:=@List.getElem?_set_ne
abbrev aHp:=@PySem.Calls.spliced_cons
abbrev aIv:=@Int.emod_lt_of_pos
abbrev aF0:=@List.mem_of_mem_erase
abbrev aJi:=@PySem.F.slot_list_append
abbrev axI:=@PySem.F.type_list_append
abbrev aHz:=@List.mem_iff_getElem
abbrev aml:=@PySem.wpAny_callSpecial?_slot
abbrev aIs:=@List.getElem?_set_self
abbrev a3s:=@PySem.wpAny_truthy_bool
abbrev a2i:=@Int.toNat_natCast
abbrev bbg:=@List.ext_getElem?
abbrev a2o:=@Array.toList_push
abbrev a6X:=@PySem.wpAny_field
abbrev aHu:=@Int.le_refl
abbrev a5K:=@Int.le_trans
abbrev a6n:=@Array.perm_iff_toList_perm
abbrev baB:=@PyProof.Rows.wpS_modify
abbrev a3J:=@Nat.lt_of_le_of_lt
abbrev a4J:=@PySem.wpAny_seqItems
abbrev a5j:=@List.pairwise_iff_getElem
abbrev a1g:=@Nat.not_lt_zero
abbrev a6e:=@decide_false
abbrev apK:=@PyProof.Rows.boot_sorted
abbrev aDY:=@List.pairwise_append
abbrev aBD:=@Int.emod_nonneg
abbrev aik:=@beq_eq_false_iff_ne
abbrev aJO:=@Bool.and_eq_true
abbrev aRo:=@PyProof.Rows.wpS_get
abbrev aAI:=@List.take_append_drop
abbrev aO6:=@List.length_set
abbrev a0x:=@PySem.Calls.callWith_builtin
abbrev abe:=@decide_true
abbrev aRs:=@PyProof.Rows.assignInOrder_cons
abbrev aKU:=@List.mem_append_left
abbrev bb2:=@Option.map_some
abbrev aqI:=@PySem.F.slot_tuple_iterator_next
abbrev aOk:=@List.perm_ext_iff_of_nodup
abbrev a3w:=@PySem.Calls.spliced_nil
abbrev ahB:=@PySem.Heap.get?_push_ne
abbrev aYJ:=@PySem.wpAny_setState_of
abbrev aZA:=@List.drop_of_length_le
abbrev aqt:=@beq_iff_eq
abbrev a4t:=@Array.toList_extract
abbrev aFS:=@List.drop_eq_getElem_cons
abbrev aAg:=@PySem.Around.under_plainId
abbrev aIb:=@PySem.W.kia_one
abbrev adU:=@List.getElem_mem
abbrev aMZ:=@PySem.boot_len
abbrev aWj:=@PySem.codeAny_mono
abbrev ai8:=@List.length_singleton
abbrev aXX:=@PySem.wpAny_askSetting
abbrev aJv:=@PySem.F.called_set
abbrev aPc:=@List.length_range
abbrev bch:=@PySem.mem_of_lookup
abbrev bd4:=@PySem.F.plainAttrs_dict
abbrev avy:=@PySem.Paired.length
abbrev awK:=@PyProof.Rows.listUpdate_at
abbrev aHN:=@PySem.wpAny_newList
abbrev awE:=@PySem.wpAny_pyIter_tuple
abbrev bah:=@List.append_nil
abbrev aob:=@PySem.wpAny_Call_Name_kw
abbrev ave:=@List.getElem?_replicate
abbrev ap6:=@PySem.W.kia_tup
abbrev a1p:=@PySem.codeAny_builtin
abbrev acQ:=@List.pairwise_cons
abbrev az7:=@Nat.le_succ
abbrev aLq:=@List.length_drop
abbrev alE:=@PySem.Heap.get?_update_other
abbrev anE:=@List.filter_cons
abbrev apo:=@PyProof.Rows.wpS_reverse
abbrev ak3:=@PyProof.Rows.mirror_perm
abbrev a2I:=@Bool.not_eq_true'
abbrev aWr:=@PySem.Heap.get?_update_self
abbrev aWw:=@List.map_congr_left
abbrev aHq:=@Nat.lt_trans
abbrev aaF:=@PySem.F.slot_dict_pop
abbrev aQh:=@List.Pairwise.sublist
abbrev aqJ:=@Nat.lt_succ_self
abbrev a1S:=@List.length_replicate
abbrev adL:=@PySem.Calls.evalArgs_plain
abbrev aGC:=@PySem.wpAny_pyIter_zip
abbrev aj2:=@List.length_filter_le
abbrev aIo:=@PySem.wpAny_standAt
abbrev aDQ:=@not_or
abbrev afl:=@PySem.wpAny_attempt
abbrev a5r:=@PySem.Heap.SameBut.update
abbrev apv:=@PySem.Calls.call_function_entry
abbrev aII:=@PySem.wpAny_passesOwn
abbrev aZd:=@List.mem_or_eq_of_mem_set
abbrev avE:=@PySem.tupleKind_room_in1
abbrev aaD:=@Nat.zero_add
abbrev aOV:=@PySem.AutoSeq1.wpAny_loadPart'
abbrev alg:=@Nat.sub_self
abbrev aLs:=@List.mem_replicate
abbrev aOD:=@List.mem_range
abbrev a4h:=@PySem.wpAny_bindName
abbrev a0l:=@List.getElem?_range
abbrev ajC:=@List.find?_cons
abbrev a87:=@List.eraseIdx_cons_succ
abbrev aX8:=@List.getElem?_cons_succ
abbrev apP:=@PySem.wpAny_pyIter_enum
abbrev axK:=@PySem.fits_of_scanBound
abbrev aC0:=@List.take_of_length_le
abbrev ad0:=@PyProof.noPylong_small
abbrev aTK:=@List.all_eq_true
abbrev a3i:=@Array.getElem?_eq_none
abbrev a9F:=@List.take_length
abbrev aZv:=@Int.add_mul_ediv_right
abbrev a9l:=@Int.ediv_eq_zero_of_lt
abbrev aLE:=@Bool.not_true
abbrev awp:=@PySem.F.slot_dict_get
abbrev ahe:=@Array.getElem_extract
abbrev a76:=@List.erase_of_not_mem
abbrev aMD:=@Int.mul_ediv_add_emod
abbrev avb:=@List.mem_filter
abbrev avY:=@Bool.eq_iff_iff
abbrev aij:=@List.forIn_cons
abbrev a6o:=@List.getElem?_of_mem
abbrev aq1:=@Array.Perm.refl
abbrev aiW:=@List.Perm.of_eq
abbrev aoh:=@Array.toList_reverse
abbrev aBB:=@List.replicate_succ'
abbrev aEu:=@List.Perm.refl
namespace L2
open PySem PySem.Spec PyProof.Rows
abbrev Key:=Sum Int Str
def k8:Key->Value->Bool
 | .inl k,v=>Value.isInt k v
 | .inr x,v=>Value.isStrOf x v
def L1(w:World):Key->Int
 | .inl k=>hashInt k
 | .inr x=>hashStr w x
theorem ZA:∀{k:Key}{v:Value},k8 k v=true->(∃i t,k=Sum.inl i/\v=Value.int i t)\/(∃x t,k=Sum.inr x/\v=Value.str x t)
 | .inl i,v,h=>by
  obtain⟨t,e⟩:=Value.isInt_shape (k:=i) (v:=v) h;exact .inl ⟨i,t,rfl,e⟩
 | .inr x,v,h=>by
  obtain⟨t,e⟩:=Value.isStrOf_shape (x:=x) (v:=v) h;exact .inr ⟨x,t,rfl,e⟩
theorem ZgV(i:Int)(t:Tok):k8 (.inl i) (.int i t)=true:=by simp[k8,Value.isInt]
theorem ZgW(x:Str)(t:Tok):k8 (.inr x) (.str x t)=true:=by simp[k8,Value.isStrOf]
theorem ZkZ(a b:Int):decide ((Sum.inl a:Key)=Sum.inl b)=(a ==b):=by
 by_cases e:a=b
 .subst e;simp
 .have h:¬(Sum.inl a:Key)=Sum.inl b:=λq=>e (aIk q);rw[bcN h];exact(aik.mpr e).symm
theorem Zla(a b:Str):decide ((Sum.inr a:Key)=Sum.inr b)=decide (a=b):=by
 by_cases e:a=b
 .subst e;simp
 .have h:¬(Sum.inr a:Key)=Sum.inr b:=λq=>e (Sum.inr.inj q);rw[bcN h,bcN e]
theorem Zlb(a:Int)(b:Str):decide ((Sum.inl a:Key)=Sum.inr b)=false:=bcN (λq=>nomatch q)
theorem Zlc(a:Str)(b:Int):decide ((Sum.inr a:Key)=Sum.inl b)=false:=bcN (λq=>nomatch q)
def Zw(prog:Program)(w:World):PySem.KeyKind prog w Key where
 is:=k8
 hash:=L1 w
 inj:=λv a b ha hb=>by
  rcases ZA ha with⟨i,t,rfl,rfl⟩|⟨x,t,rfl,rfl⟩
  .rcases ZA hb with⟨j,u,rfl,e⟩|⟨y,u,rfl,e⟩
   .injection e with e1 _;rw[e1]
   .exact nomatch e
  .rcases ZA hb with⟨j,u,rfl,e⟩|⟨y,u,rfl,e⟩
   .exact nomatch e
   .injection e with e1 _;rw[e1]
 byValue:=λk v h=>by
  rcases ZA h with⟨i,t,rfl,rfl⟩|⟨x,t,rfl,rfl⟩ <;> rfl
 pyHash:=λhv h=>by
  rcases ZA hv with⟨i,t,rfl,rfl⟩|⟨x,t,rfl,rfl⟩
  .exact wpAny_pyHash_int h
  .exact wpAny_pyHash_str h
 eqBool:=λhu hv h=>by
  rcases ZA hu with⟨i,t,rfl,rfl⟩|⟨x,t,rfl,rfl⟩
  .rcases ZA hv with⟨j,u,rfl,rfl⟩|⟨y,u,rfl,rfl⟩
   .rw [ZkZ]at h;exact wpAny_eqBool_int h
   .rw [Zlb]at h;exact SeqAt.EqAt.int_str i t y u _ _ _ _ h
  .rcases ZA hv with⟨j,u,rfl,rfl⟩|⟨y,u,rfl,rfl⟩
   .rw [Zlc]at h;exact SeqAt.EqAt.str_int x t j u _ _ _ _ h
   .rw [Zla]at h;exact wpAny_eqBool_str h
 «strs»:=λk x t v h=>by
  rcases ZA h with⟨i,u,rfl,e⟩|⟨y,u,rfl,e⟩
  .exact nomatch e
  .injection e with e1 _
   subst e1;cases v <;> rfl
theorem Zgw(prog:Program)(w:World)(k:Key)(v:Value):(Zw prog w).is k v=k8 k v:=rfl
theorem ZeB(prog:Program)(w:World)(i:Int)(t:Tok):(Zw prog w).is (.inl i) (.int i t)=true:=ZgV i t
theorem ZeC(prog:Program)(w:World)(x:Str)(t:Tok):(Zw prog w).is (.inr x) (.str x t)=true:=ZgW x t
inductive V where
 |aQ|bl (b:Bool)|int (i:Int)|str (x:Str)|uO (b:Array UInt8)|zB (b:UInt64)|ref (a:Addr)|ty (n:String)
 deriving DecidableEq
def RelV:V->Value->Prop
 | .aQ,u=>u=Value.none
 | .bl b,u=>u=Value.bool b
 | .int i,u=>∃t,u=Value.int i t
 | .str x,u=>∃t,u=Value.str x t
 | .uO b,u=>∃t,u=Value.bytes b t
 | .zB b,u=>∃t,u=Value.float b t
 | .ref a,u=>u=Value.ref a
 | .ty n,u=>u=Value.type n
abbrev Vals:List V->List Value->Prop:=Paired RelV
theorem Vals.length{xs:List V}{us:List Value}(r:Vals xs us):xs.length=us.length:=avy r
theorem Vals.get:∀{xs:List V}{us:List Value}{i:Nat}{x:V},Vals xs us->xs[i]?=some x->∃u,us[i]?=some u/\RelV x u
 |_,_,_,_,.nil,e=>by simp at e
 |_,_,0,_,.cons r _,e=>by simp at e;subst e;exact⟨_,rfl,r⟩
 |_,_,i+1,x,.cons _ t,e=>by
  obtain⟨u,h1,h2⟩:=Vals.get (i:=i) (x:=x) t (by simpa using e);exact⟨u,by simpa using h1,h2⟩
theorem Vals.set{x:V}{u:Value}(r:RelV x u):∀{xs:List V}{us:List Value}(i:Nat),Vals xs us->Vals (xs.set i x) (us.set i u)
 |_,_,_,.nil=>.nil
 |_,_,0,.cons _ t=>.cons r t
 |_,_,i+1,.cons q t=>.cons q (Vals.set r i t)
theorem Vals.append:∀{xs ys:List V}{us ws:List Value},Vals xs us->Vals ys ws->Vals (xs++ys) (us++ws)
 |_,_,_,_,.nil,s=>s
 |_,_,_,_,.cons r t,s=>.cons r (Vals.append t s)
theorem Vals.take:∀{xs:List V}{us:List Value}(n:Nat),Vals xs us->Vals (xs.take n) (us.take n)
 |_,_,0,_=>.nil
 |_,_,_+1,.nil=>.nil
 |_,_,n+1,.cons r t=>.cons r (Vals.take n t)
theorem Vals.drop:∀{xs:List V}{us:List Value}(n:Nat),Vals xs us->Vals (xs.drop n) (us.drop n)
 |_,_,0,r=>r
 |_,_,_+1,.nil=>.nil
 |_,_,n+1,.cons _ t=>Vals.drop n t
def dz:Option V->Option Value->Prop
 |some v,some u=>RelV v u
 |none,none=>True
 |_,_=>False
def KV{κ:Type}:List (κ×V)->List (κ×Value)->Prop:=Paired λ(p:κ×V)(q:κ×Value)=>p.1=q.1/\RelV p.2 q.2
def kV:Key->V
 | .inl i=>.int i
 | .inr x=>.str x
inductive HO where
  |lst (xs:List V)
  |tup (xs:List V)
  |dK (kvs:List (Key×V))|dT (kvs:List (List Key×V))
  |set (S:Int->Bool) (n:Nat)
  |ins (C dx:Addr) (fs:List (Str×V))
  |own (x:Addr)
  |xd (fs:List (Str×V))
  |met (f x:Addr)
  |Lu (lo hi:Int)
  |cN (o:Obj) (u:HO)
  |nU (pos:Pos) (qual:Str)
  |ext (φ:Heap->Prop)
abbrev Hp:=Addr->Option HO
def upd(H:Hp)(a:Addr)(o:HO):Hp:=λb=>if b=a then some o else H b
theorem Za{H:Hp}{a:Addr}{o:HO}:upd H a o a=some o:=by unfold upd;rw[aYH rfl]
theorem Zc{H:Hp}{a b:Addr}{o:HO}(h:b≠a):upd H a o b=H b:=by unfold upd;rw[aoK h]
theorem KG{H:Hp}{a:Addr}{o u:HO}:upd (upd H a o) a u=upd H a u:=by
 funext b;unfold upd;split <;> rfl
theorem AQ{H:Hp}{a b:Addr}{o u:HO}(h:H a=some o)(h':H b=some u)(d:o≠u):a≠b:=by
 intro e;subst e;rw[h]at h';exact d (aDb h')
theorem Ze{H:Hp}{a b:Addr}{o:HO}(h:H a=some o)(h':H b=none):a≠b:=by
 intro e;subst e;rw[h]at h';cases h'
section
variable(P:Program)(w:World)
def aF(H:Hp)(h:Heap)(a:Addr):HO->Prop
 | .lst xs=>xs.length<=sizeLine/\∃(its:List Value)(n:Nat),Vals xs its/\h.get? a=some { cls:=.type "list",data:=.seq its.toArray n }
 | .tup xs=>xs.length<=sizeLine/\∃its:List Value,Vals xs its/\IsTup h a its.toArray
 | .dK kvs=>kvs.length<=sizeLine/\(a ==sysModules)=false/\∃vs,KV kvs vs/\h.DictOf (Zw P w) a vs
 | .dT kvs=>kvs.length<=sizeLine/\(a ==sysModules)=false/\∃xs:List (List Key×Addr×Value),
   Paired (λ(p:List Key×V)(q:List Key×Addr×Value)=>p.1=q.1/\H q.2.1=some (.tup (p.1.map kV))/\RelV p.2 q.2.2) kvs xs /\
   ∃o es ep,h.get? a=some o/\o.ExactDict/\o.data=.dict es ep/\es.toList=xs.map (entryOfKey (tupleKind (Zw P w)))/\(xs.map (·.1)).Nodup
 | .set S n=>h.SetOf (intKind P w) a S n
 | .ins C dx fs=>H dx=some (.own a)/\fs.length<=1000/\dx≠a/\h.get? a=some (W.instObj C dx) /\
   ∃mA,h.Ns1 dx mA/\(∀f,dz (fs.lookup f) (mA f))/\PySem.Within mA (fs.map (·.1))
 | .own _=>∃o,h.get? a=some o
 | .xd fs=>∃mA,h.Ns1 a mA/\∀f,dz (fs.lookup f) (mA f)
 | .Lu lo hi=>∃t u v,h.get? a=some { cls:=.type "range",data:=.fields #[.int lo t,.int hi u,.int 1 v] }
 | .cN o u=>h.get? a=some o/\aF H h a u
 | .nU pos qual=>∃ps,h.get? a=some { cls:=.none,data:=.fields ps }/\TriplesOk ps.toList/\∀cv,codeAmong pos ps.toList=some cv->∃c oc vs t,cv=.ref c/\H c=some (.cN oc (.own a))/\oc.data=.fields vs/\vs[1]?=some (.str qual t)
 | .met f x=>h.get? a=some (W.methodObj (.ref f) (.ref x))
 | .ext φ=>φ h/\(∃o,h.get? a=some o)/\∀h1 h2:Heap,φ h1->(∀o,h1.get? a=some o->h2.get? a=some o)->φ h2
def d9(H:Hp)(h:Heap):Prop:=∀a o,H a=some o->aF P w H h a o
end
section
variable{P:Program}{w:World}{H H':Hp}{h h':Heap}{a:Addr}{o:HO}
theorem aF.lt(x:aF P w H h a o):a<h.objs.size:=by
 cases o with
 |lst xs=>obtain⟨_,_,_,_,e⟩:=x;exact aNG e
 |tup xs=>obtain⟨_,_,_,p⟩:=x;exact p.lt
 |dK kvs=>obtain⟨_,_,_,_,o,_,_,e,_⟩:=x;exact aNG e
 |dT kvs=>obtain⟨_,_,_,_,o,_,_,e,_⟩:=x;exact aNG e
 |set S n=>obtain⟨o,_,_,_,e,_⟩:=x;exact aNG e
 |ins C dx fs=>obtain⟨_,_,_,e,_⟩:=x;exact aNG e
 |own y=>obtain⟨_,e⟩:=x;exact aNG e
 |xd fs=>obtain⟨_,⟨_,_,_,e,_⟩,_⟩:=x;exact aNG e
 |Lu lo hi=>obtain⟨_,_,_,e⟩:=x;exact aNG e
 |cN ob u=>obtain⟨e,_⟩:=x;exact aNG e
 |nU p q=>obtain⟨_,e,_⟩:=x;exact aNG e
 |met f y=>exact aNG (show h.get? a=some _ from x)
 |ext φ=>obtain⟨_,⟨_,e⟩,_⟩:=x;exact aNG e
theorem Paired.Ck{α β:Type}{F G:α->β->Prop}:∀{l₁:List α}{l₂:List β},Paired F l₁ l₂->(∀a b,F a b->G a b)->Paired G l₁ l₂
 |_,_,.nil,_=>.nil
 |_,_,.cons r t,f=>.cons (f _ _ r) (Paired.Ck t f)
theorem aF.stay(x:aF P w H h a o)(k:∀b u,(b=a\/H b=some (.own a))->h.get? b=some u->h'.get? b=some u)
  (ho:∀b,H b=some (.own a)->H' b=some (.own a)) (ht:∀b xs,H b=some (.tup xs)->H' b=some (.tup xs))
  (hz:∀b oz,H b=some (.cN oz (.own a))->H' b=some (.cN oz (.own a)):=by exact λ_ _ q=>q):aF P w H' h' a o:=by
 induction o with
 |lst xs=>obtain⟨z,its,n,r,e⟩:=x;exact⟨z,its,n,r,k _ _ (.inl rfl) e⟩
 |tup xs=>obtain⟨z,its,r,ob,e,c⟩:=x;exact⟨z,its,r,ob,k _ _ (.inl rfl) e,c⟩
 |dK kvs=>obtain⟨z,y,vs,r,ob,es,ep,e,c⟩:=x;exact⟨z,y,vs,r,ob,es,ep,k _ _ (.inl rfl) e,c⟩
 |dT kvs=>
  obtain⟨z,y,xs,r,ob,es,ep,e,c⟩:=x;exact⟨z,y,xs,Paired.Ck r λp q z=>⟨z.1,ht _ _ z.2.1,z.2.2⟩,ob,es,ep,k _ _ (.inl rfl) e,c⟩
 |set S n=>obtain⟨ob,es,ep,t,e,c⟩:=x;exact⟨ob,es,ep,t,k _ _ (.inl rfl) e,c⟩
 |ins C dx fs=>
  obtain⟨d,z,ne,e,mA,⟨od,es,ep,e2,c⟩,r⟩:=x;exact⟨ho _ d,z,ne,k _ _ (.inl rfl) e,mA,⟨od,es,ep,k _ _ (.inr d) e2,c⟩,r⟩
 |own y=>obtain⟨ob,e⟩:=x;exact⟨ob,k _ _ (.inl rfl) e⟩
 |xd fs=>obtain⟨mA,⟨od,es,ep,e,c⟩,r⟩:=x;exact⟨mA,⟨od,es,ep,k _ _ (.inl rfl) e,c⟩,r⟩
 |Lu lo hi=>obtain⟨t,u,v,e⟩:=x;exact⟨t,u,v,k _ _ (.inl rfl) e⟩
 |cN ob u ih=>obtain⟨e,q⟩:=x;exact⟨k _ _ (.inl rfl) e,ih q⟩
 |nU p q=>
  obtain⟨ps,e,tr,hc⟩:=x;refine⟨ps,k a _ (.inl rfl) e,tr,λcv e1=>?_⟩;obtain⟨c,oc,vs,tt,z,e2,r⟩:=hc cv e1;exact⟨c,oc,vs,tt,z,hz _ _ e2,r⟩
 |met f y=>
  have e:h.get? a=some (W.methodObj (.ref f) (.ref y)):=x;show h'.get? a=some (W.methodObj (.ref f) (.ref y));exact k a _ (.inl rfl) e
 |ext φ=>obtain⟨p,⟨o,e⟩,st⟩:=x;exact⟨st _ _ p λo q=>k _ _ (.inl rfl) q,⟨o,k _ _ (.inl rfl) e⟩,st⟩
theorem d9.lt(x:d9 P w H h)(e:H a=some o):a<h.objs.size:=(x a o e).lt
theorem d9.fresh(x:d9 P w H h)(e:h.objs.size<=a):H a=none:=by
 cases q:H a with
 |none=>rfl
 |some u=>exact absurd (ae8 (x.lt q) e) (aZG _)
theorem d9.kept(x:d9 P w H h)(k:∀b u,h.get? b=some u->h'.get? b=some u):d9 P w H h':=λa o e=>
 (x a o e).stay (λb u _ q=>k b u q) (λ_ q=>q) λ_ _ q=>q
theorem d9.laid(x:d9 P w H h)(k:∀b u,h.get? b=some u->h'.get? b=some u)(hp:h.objs.size<=a)(new:aF P w (upd H a o) h' a o):d9 P w (upd H a o) h':=λb u e=>by
 have hn:=x.fresh hp;by_cases hb:b=a
 .subst hb;rw[Za]at e;cases e;exact new
 .rw [Zc hb]at e;exact(x b u e).stay (λc v _ q=>k c v q) (λc q=>by rw[Zc (Ze q hn)];exact q) (λc xs q=>by rw[Zc (Ze q hn)];exact q) λc oz q=>by rw[Zc (Ze q hn)];exact q
end
def Rd(H:Hp)(a:Addr)(u:HO):Prop:=H a=some u\/∃o,H a=some (.cN o u)
theorem Rd.ok{P:Program}{w:World}{H:Hp}{h:Heap}{a:Addr}{u:HO}(r:Rd H a u)(x:d9 P w H h):aF P w H h a u:=by
 rcases r with r|⟨o,r⟩
 .exact x a u r
 .obtain ⟨_,q⟩:=x a _ r;exact q
def IP:Option HO->Prop
 |some (.lst _)=>True
 |some (.dK _)=>True
 |some (.dT _)=>True
 |some (.set _ _)=>True
 |some (.ins _ _ _)=>True
 |some (.ext _)=>True
 |_=>False
section
variable{P:Program}{w:World}{H:Hp}{h h':Heap}{x e:Addr}{o':HO}
theorem d9.write(ok:d9 P w H h)(mu:IP (H x))(he:e=x\/H e=some (.own x))(k:∀b u,b≠e->h.get? b=some u->h'.get? b=some u)(Ed:∃u,h'.get? e=some u)
  (new:aF P w (upd H x o') h' x o'):d9 P w (upd H x o') h':=λb u q=>by
 have Ge:∀c y,H c=some (.own y)->c≠x:=λc y r z=>by subst z;rw[r]at mu;exact mu
 have LI:∀c xs,H c=some (.tup xs)->c≠x:=λc xs r z=>by subst z;rw[r]at mu;exact mu
 by_cases hb:b=x
 .subst hb;rw[Za]at q;cases q;exact new
 .rw [Zc hb]at q;by_cases CD:b=e
  .have q':H b=some (.own x):=by
    rcases he with z|z
    .exact absurd (CD.trans z) hb
    .rw [CD];exact z
   rw[q]at q';cases q';obtain⟨v,hv⟩:=Ed;exact⟨v,by rw[CD];exact hv⟩
  .refine (ok b u q).stay (λc v hc r=>k c v ?_ r) (λc r=>by rw[Zc (Ge c b r)];exact r) (λc xs r=>by rw[Zc (LI c xs r)];exact r) λc oz r=>by rw[Zc (λz=>by subst z;rw[r]at mu;exact mu)];exact r
   rcases hc with rfl|hc
   .exact CD
   .rintro rfl;rcases he with z|z
    .exact Ge c b hc z
    .rw [hc]at z;cases z;exact hb rfl
end
structure Un(fs ex:List Addr)(H H':Hp)(h h':Heap):Prop where
 keep:∀b o,h.get? b=some o->H b=none->b∉fs->b∉ex->h'.get? b=some o
 slot:∀b o,h.get? b=some o->H b=none->b∈fs->b∉ex->∃sl,h'.get? b=some { o with slots:=sl }
 free:∀b o,h.get? b=some o->H b=none->b∉ex->H' b=none
 there:∀b o,h.get? b=some o->b∉ex->∃o',h'.get? b=some o'
 tups:∀b xs,H b=some (.tup xs)->H' b=some (.tup xs)
 jN:∀b o u,H b=some (.cN o u)->H' b=some (.cN o u)
 j9:∀b p q,H b=some (.nU p q)->H' b=some (.nU p q)
section
variable{fs fs' ex ex':List Addr}{H H1 H2:Hp}{h h1 h2 h':Heap}{a x e:Addr}{o:HO}
theorem Un.any(u:Un fs ex H H1 h h1){b:Addr}{ob:Obj}(q:h.get? b=some ob)(n:H b=none)(hx:b∉ex):∃sl,h1.get? b=some { ob with slots:=sl }:=by
 by_cases hb:b∈fs
 .exact u.slot b ob q n hb hx
 .exact ⟨ob.slots,u.keep b ob q n hb hx⟩
theorem Un.kept(k:∀b u,h.get? b=some u->h'.get? b=some u):Un fs ex H H h h':=
 ⟨λb ob q _ _ _=>k b ob q,λb ob q _ _ _=>⟨ob.slots,k b ob q⟩,λ_ _ _ n _=>n,λb ob q _=>⟨ob,k b ob q⟩,λ_ _ q=>q,λ_ _ _ q=>q,λ_ _ _ q=>q⟩
theorem Un.refl:Un fs ex H H h h:=Un.kept λ_ _ q=>q
theorem Un.laid(k:∀b u,h.get? b=some u->h'.get? b=some u)(hp:h.objs.size<=a)(hn:H a=none):Un fs ex H (upd H a o) h h' where
 keep:=λb u q _ _ _=>k b u q
 slot:=λb u q _ _ _=>⟨u.slots,k b u q⟩
 free:=λb u q n _=>by rw[Zc (amC (ae8 (aNG q) hp))];exact n
 there:=λb u q _=>⟨u,k b u q⟩
 tups:=λb xs q=>by rw[Zc (Ze q hn)];exact q
 jN:=λb u xs q=>by rw[Zc (Ze q hn)];exact q
 j9:=λb _ _ q=>by rw[Zc (Ze q hn)];exact q
theorem Un.write(mu:IP (H x))(he:e=x\/H e=some (.own x))(k:∀b u,b≠e->h.get? b=some u->h'.get? b=some u)(Ed:∃u,h'.get? e=some u):Un fs ex H (upd H x o) h h':=by
 have hx:∀b,H b=none->b≠x:=λb n z=>by subst z;rw[n]at mu;exact mu
 have hb:∀b,H b=none->b≠e:=λb n z=>by
  subst z;rcases he with r|r
  .exact hx b n r
  .rw [n]at r;cases r
 have hm:∀b u,H b=some u->¬IP (some u)->b≠x:=λb u q nm z=>by subst z;rw[q]at mu;exact nm mu
 refine⟨λb u q n _ _=>k b u (hb b n) q,λb u q n _ _=>⟨u.slots,k b u (hb b n) q⟩,λb u q n _=>by rw[Zc (hx b n)];exact n,λb u q _=>?_,
  λb xs q=>by rw[Zc (hm b _ q λz=>z)];exact q,λb u xs q=>by rw[Zc (hm b _ q λz=>z)];exact q,λb _ _ q=>by rw[Zc (hm b _ q λz=>z)];exact q⟩
 by_cases CD:b=e
 .subst CD;exact Ed
 .exact ⟨u,k b u CD q⟩
end
def Ji(h:Heap)(H:Hp):List Addr:=(List.range h.objs.size).filter λa=>(H a).isSome
def oW(h:Heap)(H:Hp):Heap:=W.hideAll h (Ji h H)
theorem ZgX(h:Heap)(H:Hp):(oW h H).objs.size=h.objs.size:=W.hideAll_size _ _
theorem Oj{h:Heap}{H:Hp}{b:Addr}{o:Obj}(e:h.get? b=some o)(n:H b=none):(oW h H).get? b=some o:=
 W.hideAll_get _ e λhm=>by
  have q:(H b).isSome=true:=(avb.mp hm).2;rw[n]at q;simp at q
theorem ZjZ{h:Heap}{H:Hp}{b:Addr}{o:Obj}(e:(oW h H).get? b=some o):h.get? b=some o/\H b=none:=by
 have e':h.get? b=some o:=W.of_hideAll (Ji h H) e;refine⟨e',?_⟩;cases q:H b with
 |none=>rfl
 |some x=>
  have hm:b∈Ji h H:=avb.mpr ⟨aOD.mpr (aNG e'),by simp[q]⟩;have z:(oW h H).get? b=none:=W.hideAll_none (Ji h H) hm;rw[z]at e;cases e
structure Mod(K:W.Frag)(mg:Str->Option Value)(base:Heap):Prop where
 D5:K.In base
 glob:base.Ns mainGlobals mg
 blt:∃mb,base.Ns builtinsNs mb/\∀x:Str,x ≠ "__name__" ->mb x=bootBuiltins x
 nolimit:base.NoLimit
structure Cx where
 prog:Program
 w:World
 K:W.Frag
 mg:Str->Option Value
 base:Heap
 A:Around
 N:List Str
 s₀:Shared
 H₀:Hp
 env:Env
 outer:List Env
 stack:List Env
 ex:List Addr
 fn:Str->Bool
 calm:Bool
 pn:List (Addr×Obj)
 xe:Value->Shared->Prop
def frs(l:List Env):List Addr:=l.filterMap (·.frame)
abbrev Cx.fs(X:Cx):List Addr:=frs X.outer
def IE(sc:Scope)(x:Str):Prop:=sc.names.lookup x=some .local\/sc.names.lookup x=some .cell\/sc.names.lookup x=some .free
def Loc(sc:Scope)(x:Str):Prop:=sc.names.lookup x=some .local\/sc.names.lookup x=some .cell
def Look(env:Env)(h:Heap)(m:Str->Option Value)(x:Str)(u:Value):Prop:=
 (env.kindOf x=some .local/\m x=some u)\/((env.kindOf x=some .cell\/env.kindOf x=some .free)/\∃c,env.cells.lookup x=some c/\h.IsCell c (some u))
structure Cx.Ok(X:Cx):Prop where
 mod:Mod X.K X.mg X.base
 kind:X.env.scope.kind=.function
 glob:X.env.globals=mainGlobals
 blt:X.env.builtins=builtinsNs
 above:X.s₀.heap.objs.size<=X.env.locals
 inj:∀x y c,X.env.cells.lookup x=some c->X.env.cells.lookup y=some c->x=y
 has:∀x,(X.env.kindOf x=some .cell\/X.env.kindOf x=some .free)->∃c,X.env.cells.lookup x=some c
 HH:∀x c,X.fn x=true->X.env.cells.lookup x=some c->X.s₀.heap.objs.size<=c
 hd:X.calm=true->X.A.handled=none
 frames:X.A.frames=some X.stack
 stk:X.stack=X.outer\/(X.stack=X.env ::X.outer/\X.env.frame=some X.env.locals)
 J2:∀b∈X.ex,b≠X.env.locals/\∀x c,X.env.cells.lookup x=some c->c≠b
 bs:∀b o,X.base.get? b=some o->X.s₀.heap.get? b=some o/\X.H₀ b=none
 yo:X.base.objs.size<=X.s₀.heap.objs.size
 wU:∀b o,X.base.get? b=some o->b∉X.ex
 xH:∀b∈X.ex,b∉X.fs
 jM:X.s₀.heap.FunFrames X.base X.outer
 CJ:∀b∈X.fs,X.H₀ b=none
structure Inv(X:Cx)(pins:List (Addr×Obj))(σ:List (Option V))(H:Hp)(s:Shared):Prop where
 ok:X.Ok
 os:s.os=X.s₀.os
 bare:AllBare s.gens
 base:Un X.fs X.ex X.H₀ H X.s₀.heap s.heap
 loc:∃m,s.heap.Ns X.env.locals m/\∀(i:Nat)(x:Str)(v:V),X.N[i]?=some x->σ[i]?=some (some v)->IE X.env.scope x->∃u,RelV v u/\Look X.env s.heap m x u
 cell:∀x c,X.env.cells.lookup x=some c->∃v,s.heap.IsCell c v
 free:H X.env.locals=none
 cO:∀x c,X.env.cells.lookup x=some c->H c=none
 pin:∀p∈X.pn++pins,s.heap.get? p.1=some p.2/\H p.1=none/\p.1≠X.env.locals/\p.1∉X.fs/\∀v,p.2.data≠.cell v
 hok:d9 X.prog X.w H s.heap
 len:σ.length=X.N.length
section
variable{X:Cx}{pins:List (Addr×Obj)}{σ:List (Option V)}{H H':Hp}{s:Shared}{h':Heap}
theorem Cx.Ok.LL(ok:X.Ok){b:Addr}{o:Obj}(e:X.base.get? b=some o):b∉X.fs:=λhb=>by
 have:=(ok.jM.mem hb).1;rw[e]at this;cases this
theorem Inv.bs(I:Inv X pins σ H s):∀b o,X.base.get? b=some o->s.heap.get? b=some o/\H b=none:=λb o e=>
 ⟨I.base.keep b o (I.ok.bs b o e).1 (I.ok.bs b o e).2 (I.ok.LL e) (I.ok.wU b o e),I.base.free b o (I.ok.bs b o e).1 (I.ok.bs b o e).2 (I.ok.wU b o e)⟩
theorem Inv.bk(I:Inv X pins σ H s):∀b o,X.base.get? b=some o->s.heap.get? b=some o:=λb o e=>(I.bs b o e).1
theorem Inv.mod(I:Inv X pins σ H s):Mod X.K X.mg X.base:=I.ok.mod
theorem Inv.dD(I:Inv X pins σ H s):X.K.In s.heap:=I.ok.mod.D5.keeps I.bk
theorem Inv.nolimit(I:Inv X pins σ H s):s.heap.NoLimit:=I.ok.mod.nolimit.keeps I.bk
theorem Inv.lt(I:Inv X pins σ H s):X.env.locals<s.heap.objs.size:=let⟨_,hn,_⟩:=I.loc;hn.lt
theorem Inv.sz(I:Inv X pins σ H s):X.s₀.heap.objs.size<=s.heap.objs.size:=alM I.ok.above (aIf I.lt)
theorem Inv.Gf(I:Inv X pins σ H s){a:Addr}(h:s.heap.objs.size<=a):a∉X.fs:=λhb=>by
 obtain⟨_,o,ho,_⟩:=I.ok.jM.mem hb;exact absurd (ae8 (aNG ho) (alM I.sz h)) (aZG _)
theorem Inv.ym(I:Inv X pins σ H s):∀x c,X.env.cells.lookup x=some c->c≠X.env.locals:=λx c e z=>by
 obtain⟨v,o,ho,hd⟩:=I.cell x c e;obtain⟨m,⟨o',es,ep,ho',hd',_⟩,_⟩:=I.loc;rw[z,ho']at ho;cases ho;rw[hd']at hd;cases hd
theorem Inv.jM(I:Inv X pins σ H s):s.heap.FunFrames X.base X.outer:=by
 have all:∀(l:List Env),(∀b∈frs l,b∈X.fs)->X.s₀.heap.FunFrames X.base l->s.heap.FunFrames X.base l:=by
  intro l
  induction l with
  |nil=>intro _ _;trivial
  |cons env r ih=>
   intro hs hl;obtain⟨hk,⟨L,o,hf,hn,ho,hd⟩,hr⟩:=hl;have hL:L∈X.fs:=hs L (by unfold frs;rw[List.filterMap_cons,hf];exact aAX);obtain⟨sl,e⟩:=I.base.slot L o ho (I.ok.CJ L hL) hL λz=>I.ok.xH L z hL;exact⟨hk,⟨L,_,hf,hn,e,hd⟩,ih (λb hb=>hs b (by unfold frs;rw[List.filterMap_cons,hf];exact aO5 _ hb)) hr⟩
 exact all X.outer (λ_ hb=>hb) I.ok.jM
theorem Inv.stack(I:Inv X pins σ H s):s.heap.FunFrames X.base X.stack:=by
 rcases I.ok.stk with e|⟨e,hf⟩
 .rw [e];exact I.jM
 .rw [e];obtain⟨m,hn,_⟩:=I.loc;refine .cons (by rw[I.ok.kind];decide) hf hn ?_ I.jM;exact Heap.get?_none_of_le (alM I.ok.yo I.ok.above)
theorem Inv.nV(I:Inv X pins σ H s):∀b∈frs X.stack,b∈X.env.locals ::X.fs:=λb hb=>by
 rcases I.ok.stk with e|⟨e,hf⟩
 .rw [e]at hb;exact aO5 _ hb
 .rw [e]at hb;unfold frs at hb;rw[List.filterMap_cons,hf]at hb;exact hb
theorem Inv.nW(I:Inv X pins σ H s):∀b∈frs X.stack,H b=none:=λb hb=>by
 rcases aCP.mp (I.nV b hb) with e|hb
 .rw [e];exact I.free
 .obtain ⟨_,o,ho,_⟩:=I.ok.jM.mem hb;exact I.base.free b o ho (I.ok.CJ b hb) λz=>I.ok.xH b z hb
theorem Inv.step{g':Array GenState}{t':Nat}{d':Drawn}{ch:List Addr}(I:Inv X pins σ H s)
  (hch:∀b∈ch,(b∈X.ex\/X.s₀.heap.objs.size<=b)/\b≠X.env.locals/\(∀x c,X.env.cells.lookup x=some c->c≠b)/\∀p∈X.pn++pins,p.1≠b)
  (keep:∀b o,b≠X.env.locals->b∉X.fs->b∉ch->s.heap.get? b=some o->H b=none->h'.get? b=some o)
  (slot:∀b o,b≠X.env.locals->b∈X.fs->b∉ch->s.heap.get? b=some o->H b=none->∃sl,h'.get? b=some { o with slots:=sl }) (free:∀b o,b∉ch->s.heap.get? b=some o->H b=none->H' b=none)
  (there:∀b o,b∉ch->s.heap.get? b=some o->∃o',h'.get? b=some o')
  (tups:∀b xs,H b=some (.tup xs)->H' b=some (.tup xs)) (jN:∀b o u,H b=some (.cN o u)->H' b=some (.cN o u)) (j9:∀b p q,H b=some (.nU p q)->H' b=some (.nU p q))
  (ns:∀m,s.heap.Ns X.env.locals m->h'.Ns X.env.locals m) (hok:d9 X.prog X.w H' h') (hg:AllBare g') :
  Inv X pins σ H' { s with heap:=h',gens:=g',drawn:=d',toks:=t' }:=by
 have Pb:∀b o,X.s₀.heap.get? b=some o->b≠X.env.locals:=λb o e=>amC (ae8 (aNG e) I.ok.above);have JE:∀b o,X.s₀.heap.get? b=some o->b∉X.ex->b∉ch:=λb o e hx hb=>by
  rcases(hch b hb).1 with z|z
  .exact hx z
  .exact absurd (ae8 (aNG e) z) (aZG _)
 have cellK:∀x c,X.env.cells.lookup x=some c->∀v,s.heap.IsCell c v->h'.IsCell c v:=λx c e v ⟨o,ho,hd⟩=>by
  have Gj:c∉ch:=λz=>(hch c z).2.2.1 x c e rfl;by_cases hc:c∈X.fs
  .obtain ⟨sl,q⟩:=slot c o (I.ym x c e) hc Gj ho (I.cO x c e);exact⟨_,q,hd⟩
  .exact ⟨o,keep c o (I.ym x c e) hc Gj ho (I.cO x c e),hd⟩
 refine⟨I.ok,I.os,hg,⟨λb o e n hb hx=>?_,λb o e n hb hx=>?_,λb o e n hx=>?_,λb o e hx=>?_,λb xs e=>tups b xs (I.base.tups b xs e),λb o xs e=>jN b o xs (I.base.jN b o xs e),λb p r e=>j9 b p r (I.base.j9 b p r e)⟩,?_,λx c e=>?_,?_,λx c e=>?_,λp hp=>?_,hok,I.len⟩
 .exact keep b o (Pb b o e) hb (JE b o e hx) (I.base.keep b o e n hb hx) (I.base.free b o e n hx)
 .obtain ⟨sl,e1⟩:=I.base.slot b o e n hb hx;obtain⟨V7,e2⟩:=slot b _ (Pb b o e) hb (JE b o e hx) e1 (I.base.free b o e n hx);exact⟨V7,e2⟩
 .obtain ⟨o',e1⟩:=I.base.there b o e hx;exact free b o' (JE b o e hx) e1 (I.base.free b o e n hx)
 .obtain ⟨o',e1⟩:=I.base.there b o e hx;exact there b o' (JE b o e hx) e1
 .obtain ⟨m,hn,hl⟩:=I.loc;refine⟨m,ns m hn,λi x v e1 e2 e3=>?_⟩;obtain⟨u,r,l⟩:=hl i x v e1 e2 e3;refine⟨u,r,?_⟩;rcases l with l|⟨k,c,e,z⟩
  .exact .inl l
  .exact .inr ⟨k,c,e,cellK x c e _ z⟩
 .obtain ⟨v,z⟩:=I.cell x c e;exact⟨v,cellK x c e v z⟩
 .obtain ⟨m,⟨o,_,_,ho,_⟩,_⟩:=I.loc;exact free _ o (λz=>(hch _ z).2.1 rfl) ho I.free
 .obtain ⟨v,o,ho,hd⟩:=I.cell x c e;exact free c o (λz=>(hch c z).2.2.1 x c e rfl) ho (I.cO x c e)
 .obtain ⟨e,n,ne,nf,d⟩:=I.pin p hp;have Gj:p.1∉ch:=λz=>(hch p.1 z).2.2.2 p hp rfl;exact⟨keep p.1 p.2 ne nf Gj e n,free p.1 p.2 Gj e n,ne,nf,d⟩
theorem Inv.un{t':Nat}(I:Inv X pins σ H s)(u:Un X.fs [] H H' s.heap h')(hok:d9 X.prog X.w H' h'):Inv X pins σ H' { s with heap:=h',toks:=t' }:=by
 obtain⟨m,⟨o,es,ep,ho,r⟩,_⟩:=id I.loc;obtain⟨sl,hL⟩:=u.any ho I.free (by simp);exact I.step (g':=s.gens) (d':=s.drawn) (ch:=[]) (λ_ z=>nomatch z) (λb o _ hb _ e n=>u.keep b o e n hb (by simp)) (λb o _ hb _ e n=>u.slot b o e n hb (by simp)) (λb o _ e n=>u.free b o e n (by simp)) (λb o _ e=>u.there b o e (by simp)) u.tups u.jN u.j9 (λm' hm=>by
  obtain⟨o',es',CN,ho',r'⟩:=hm;rw[ho]at ho';cases ho';exact⟨_,es',CN,hL,r'⟩) hok I.bare
theorem Inv.call{g':Array GenState}{t':Nat}{d':Drawn}{ch:List Addr}(I:Inv X pins σ H s)(u:Un (frs X.stack) ch H H' s.heap h')(hok:d9 X.prog X.w H' h')(hg:AllBare g')
  (hch:∀b∈ch,(b∈X.ex\/X.s₀.heap.objs.size<=b)/\b≠X.env.locals/\(∀x c,X.env.cells.lookup x=some c->c≠b)/\∀p∈X.pn++pins,p.1≠b) :
  Inv X pins σ H' { s with heap:=h',gens:=g',drawn:=d',toks:=t' }:=by
 obtain⟨m,⟨o,es,ep,ho,r⟩,_⟩:=id I.loc;obtain⟨sl,hL⟩:=u.any ho I.free λz=>(hch _ z).2.1 rfl;exact I.step (ch:=ch) hch (λb o hL hb hc e n=>u.keep b o e n (λz=>(aCP.mp (I.nV b z)).elim hL hb) hc) (λb o _ _ hc e n=>u.any e n hc) (λb o hc e n=>u.free b o e n hc) (λb o hc e=>u.there b o e hc) u.tups u.jN u.j9 (λm' hm=>by
  obtain⟨o',es',CN,ho',r'⟩:=hm;rw[ho]at ho';cases ho';exact⟨_,es',CN,hL,r'⟩) hok hg
theorem Inv.turned{t':Nat}{it:Addr}(I:Inv X pins σ H s)(k:∀b o,b≠it->s.heap.get? b=some o->h'.get? b=some o)(hn:H it=none)(hL:it≠X.env.locals)
  (h1:it∈X.ex\/X.s₀.heap.objs.size<=it) (h2:∀x c,X.env.cells.lookup x=some c->c≠it) (h3:∀p∈X.pn++pins,p.1≠it):Inv X pins σ H { s with heap:=h',toks:=t' }:=by
 have O8:∀b u,H b=some u->b≠it:=λb u e z=>by rw[z,hn]at e;cases e
 refine I.step (g':=s.gens) (d':=s.drawn) (ch:=[it]) (λb hb=>?_) (λb o _ _ hc e _=>k b o (λz=>hc (by simp[z])) e) (λb o _ _ hc e _=>⟨o.slots,k b o (λz=>hc (by simp[z])) e⟩) (λ_ _ _ _ n=>n)
  (λb o hc e=>⟨o,k b o (λz=>hc (by simp[z])) e⟩) (λ_ _ e=>e) (λ_ _ _ e=>e) (λ_ _ _ e=>e) (λm hm=>?_) (λb u e=>?_) I.bare
 .have e:b=it:=by simpa using hb
  subst e;exact⟨h1,hL,h2,h3⟩
 .obtain ⟨o,es,ep,ho,r⟩:=hm;exact⟨o,es,ep,k _ o (avX hL) ho,r⟩
 .refine (I.hok b u e).stay (λc v hc q=>k c v ?_ q) (λ_ q=>q) λ_ _ q=>q;rcases hc with z|z
  .rw [z];exact O8 b u e
  .exact O8 c _ z
theorem Inv.tok(I:Inv X pins σ H s)(t:Nat):Inv X pins σ H { s with toks:=t }:=I.un (h':=s.heap) (t':=t) Un.refl I.hok
theorem Inv.kept{t':Nat}(I:Inv X pins σ H s)(k:∀b u,s.heap.get? b=some u->h'.get? b=some u):Inv X pins σ H { s with heap:=h',toks:=t' }:=I.un (Un.kept k) (I.hok.kept k)
theorem Inv.laid{a:Addr}{o:HO}{t':Nat}(I:Inv X pins σ H s)(k:∀b u,s.heap.get? b=some u->h'.get? b=some u)(hp:s.heap.objs.size<=a)(new:aF X.prog X.w (upd H a o) h' a o) :
  Inv X pins σ (upd H a o) { s with heap:=h',toks:=t' }:=I.un (Un.laid k hp (I.hok.fresh hp)) (I.hok.laid k hp new)
theorem Inv.write{x e:Addr}{o:HO}{t':Nat}(I:Inv X pins σ H s)(mu:IP (H x))(he:e=x\/H e=some (.own x))(k:∀b u,b≠e->s.heap.get? b=some u->h'.get? b=some u)(Ed:∃u,h'.get? e=some u)
  (new:aF X.prog X.w (upd H x o) h' x o):Inv X pins σ (upd H x o) { s with heap:=h',toks:=t' }:=I.un (Un.write mu he k Ed) (I.hok.write mu he k Ed new)
theorem Inv.ua{cy:List (Addr×Obj)}(I:Inv X pins σ H s)(h:∀p∈cy,s.heap.get? p.1=some p.2/\H p.1=none/\p.1≠X.env.locals/\p.1∉X.fs/\∀v,p.2.data≠.cell v):Inv X cy σ H s:=
 ⟨I.ok,I.os,I.bare,I.base,I.loc,I.cell,I.free,I.cO,λp hp=>(aUH.mp hp).elim (λz=>I.pin p (aKU _ z)) (h p),I.hok,I.len⟩
theorem SO{N:List Str}(hN:N.Nodup){i j:Nat}{x:Str}(a:N[i]?=some x)(b:N[j]?=some x):i=j:=by
 obtain⟨h1,e1⟩:=azG.mp a;obtain⟨h2,e2⟩:=azG.mp b;exact(List.getElem_inj hN).mp (e1.trans e2.symm)
theorem T7{M:Model}{A:Around}{E:Value->Shared->Prop}{i:Nat}{x:Str}{v:V}{u:Value}{Q:Unit->Shared->Prop}(I:Inv X pins σ H s)(hN:X.N.Nodup)(hi:X.N[i]?=some x)(hx:Loc X.env.scope x)(r:RelV v u)
  (h:∀s',Inv X pins (σ.set i (some v)) H s'->(∃a,Heap.SameBut a s.heap s'.heap/\(a=X.env.locals\/X.env.cells.lookup x=some a))->Q () s') (hf:X.fn x=true\/X.env.scope.names.lookup x=some .local:=by first|exact .inl rfl|exact .inr rfl|assumption):wpAny M A (storeName X.env x u) Q E s:=by
 obtain⟨m,hn,hl⟩:=id I.loc;have hcls:(X.env.scope.kind == .class || (X.env.scope.kind == .module && X.env.locals !=X.env.globals))=false:=by rw[I.ok.kind];rfl
 have GZ:i<σ.length:=by rw[I.len];exact(azG.mp hi).1
 have ym:=I.ym;have tracked:∀{a:Addr}{h':Heap},(∃o,s.heap.get? a=some o/\H a=none)->Heap.SameBut a s.heap h'->d9 X.prog X.w H h':=λ{a h'} ha hs b ob e=>by
  obtain⟨_,_,hfree⟩:=ha;refine(I.hok b ob e).stay (λc w' hc q=>(hs.2 c ?_).trans q) (λ_ q=>q) λ_ _ q=>q;rintro rfl;rcases hc with rfl|hc
  .rw [hfree]at e;cases e
  .rw [hfree]at hc;cases hc
 rcases hx with hk|hk
 .refine wpAny_storeName_local hk hn (λh' hn' hs=>?_) hcls;obtain⟨oL,_,_,lN,_⟩:=id hn;refine h _ ⟨I.ok,I.os,I.bare,⟨λb o e n hb hx=>?_,λb o e n hb hx=>?_,I.base.free,λb o e hx=>?_,I.base.tups,I.base.jN,I.base.j9⟩,⟨_,hn',λj y v' e1 e2 e3=>?_⟩,λy c e=>?_,I.free,I.cO,λp hp=>?_,tracked ⟨oL,lN,I.free⟩ hs,by simpa using I.len⟩ ⟨_,hs,.inl rfl⟩
  .exact (hs.2 b (amC (ae8 (aNG e) I.ok.above))).trans (I.base.keep b o e n hb hx)
  .obtain ⟨sl,e1⟩:=I.base.slot b o e n hb hx;exact⟨sl,(hs.2 b (amC (ae8 (aNG e) I.ok.above))).trans e1⟩
  .obtain ⟨o',e1⟩:=I.base.there b o e hx;exact⟨o',(hs.2 b (amC (ae8 (aNG e) I.ok.above))).trans e1⟩
  .by_cases hj:j=i
   .subst hj;rw[hi]at e1;cases e1;rw[aIs GZ]at e2;cases e2;exact⟨u,r,.inl ⟨hk,by simp⟩⟩
   .rw [atg (avX hj)]at e2;obtain⟨u',r',q⟩:=hl j y v' e1 e2 e3;refine⟨u',r',?_⟩;rcases q with⟨k,e⟩|⟨k,c,e,z⟩
    .refine .inl ⟨k,?_⟩;have:y≠x:=λe=>hj (SO hN e1 (e ▸hi));simp[this,e]
    .exact .inr ⟨k,c,e,z.sameBut hs (ym y c e)⟩
  .obtain ⟨w',z⟩:=I.cell y c e;exact⟨w',z.sameBut hs (ym y c e)⟩
  .obtain ⟨e,n,ne,nf,d⟩:=I.pin p hp;exact⟨(hs.2 p.1 ne).trans e,n,ne,nf,d⟩
 .have hfn:X.fn x=true:=by
   rcases hf with z|z
   .exact z
   .rw [z]at hk;cases hk
  obtain⟨c,hc⟩:=I.ok.has x (.inl hk);obtain⟨w',z⟩:=I.cell x c hc;refine wpAny_storeName_cell I.ok.kind hk hc z (λh' hc' hs=>?_);obtain⟨oc,hoc,Ms⟩:=id z;refine h { s with heap:=h' } ⟨I.ok,I.os,I.bare,⟨λb o e n hb hx=>?_,λb o e n hb hx=>?_,I.base.free,λb o e hx=>?_,I.base.tups,I.base.jN,I.base.j9⟩,⟨m,hn.sameBut hs (avX (ym x c hc)),λj y v' e1 e2 e3=>?_⟩,λy c' e=>?_,I.free,I.cO,λp hp=>?_,tracked ⟨oc,hoc,I.cO x c hc⟩ hs,by simpa using I.len⟩ ⟨c,hs,.inr hc⟩
  .exact (hs.2 b (amC (ae8 (aNG e) (I.ok.HH x c hfn hc)))).trans (I.base.keep b o e n hb hx)
  .obtain ⟨sl,e1⟩:=I.base.slot b o e n hb hx;exact⟨sl,(hs.2 b (amC (ae8 (aNG e) (I.ok.HH x c hfn hc)))).trans e1⟩
  .obtain ⟨o',e1⟩:=I.base.there b o e hx;exact⟨o',(hs.2 b (amC (ae8 (aNG e) (I.ok.HH x c hfn hc)))).trans e1⟩
  .by_cases hj:j=i
   .subst hj;rw[hi]at e1;cases e1;rw[aIs GZ]at e2;cases e2;exact⟨u,r,.inr ⟨.inl hk,c,hc,hc'⟩⟩
   .rw [atg (avX hj)]at e2;obtain⟨u',r',q⟩:=hl j y v' e1 e2 e3;refine⟨u',r',?_⟩;rcases q with q|⟨k,c',e,z'⟩
    .exact .inl q
    .refine .inr ⟨k,c',e,z'.sameBut hs ?_⟩;rintro rfl;exact hj (SO hN e1 (I.ok.inj _ _ _ e hc ▸hi))
  .by_cases hcc:c'=c
   .subst hcc;exact⟨_,hc'⟩
   .obtain ⟨w2,z2⟩:=I.cell y c' e;exact⟨w2,z2.sameBut hs hcc⟩
  .obtain ⟨e,n,ne,nf,d⟩:=I.pin p hp;refine⟨(hs.2 p.1 ?_).trans e,n,ne,nf,d⟩;intro q;rw[q,hoc]at e;have q':oc=p.2:=aDb e;exact d w' (by rw[<-q'];exact Ms)
theorem Dg{M:Model}{A:Around}{E:Value->Shared->Prop}{i:Nat}{x:Str}{v:V}{u:Value}{Q:Unit->Shared->Prop}(I:Inv X pins σ H s)(hN:X.N.Nodup)(hi:X.N[i]?=some x)(hx:Loc X.env.scope x)(r:RelV v u)
  (h:∀s',Inv X pins (σ.set i (some v)) H s'->Q () s') (hf:X.fn x=true\/X.env.scope.names.lookup x=some .local:=by first|exact .inl rfl|exact .inr rfl|assumption):wpAny M A (storeName X.env x u) Q E s:=
 T7 I hN hi hx r (λs' I' _=>h s' I') hf
theorem Inv.HG{s':Shared}{ch:List Addr}(I:Inv X pins σ H s)(ho:s'.os=s.os)(u:Un (frs X.stack) ch H H' s.heap s'.heap)(hok:d9 X.prog X.w H' s'.heap)(hg:AllBare s'.gens)
  (hch:∀b∈ch,(b∈X.ex\/X.s₀.heap.objs.size<=b)/\b≠X.env.locals/\(∀x c,X.env.cells.lookup x=some c->c≠b)/\∀p∈X.pn++pins,p.1≠b):Inv X pins σ H' s':=by
 obtain⟨h',g',d',t',o'⟩:=s';have e:o'=s.os:=ho;subst e;exact I.call (g':=g') (t':=t') (d':=d') u hok hg hch
end
abbrev XK:=Value->Option Addr->Hp->Prop
abbrev St:=List (Option V)
abbrev VK:=V->Hp->Prop
abbrev TE:=St->Hp->VK->Prop
abbrev TT:=St->Hp->(Bool->Hp->Prop)->Prop
abbrev TA:=St->Hp->(List V->Hp->Prop)->Prop
structure Ends where
 nx:St->Hp->Prop
 rt:VK
 bk:St->Hp->Prop:=λ_ _=>False
 ct:St->Hp->Prop:=λ_ _=>False
abbrev TS:=Ends->St->Hp->Prop
def EP(X:Cx)(pins:List (Addr×Obj))(σ:St)(Q:VK)(u:Value)(s':Shared):Prop:=∃v H',Inv X pins σ H' s'/\RelV v u/\Q v H'
def TP(X:Cx)(pins:List (Addr×Obj))(σ:St)(Q:Bool->Hp->Prop)(b:Bool)(s':Shared):Prop:=∃H',Inv X pins σ H' s'/\Q b H'
def AP(X:Cx)(pins:List (Addr×Obj))(σ:St)(Q:List V->Hp->Prop)(us:List Value)(s':Shared):Prop:=∃vs H',Inv X pins σ H' s'/\Vals vs us/\Q vs H'
def SP(X:Cx)(pins:List (Addr×Obj))(D:Ends)(f:Flow)(s':Shared):Prop:=
 match f with
 | .next=>∃ σ' H',Inv X pins σ' H' s'/\D.nx σ' H'
 | .brk=>∃ σ' H',Inv X pins σ' H' s'/\D.bk σ' H'
 | .cont=>∃ σ' H',Inv X pins σ' H' s'/\D.ct σ' H'
 | .ret u=>∃v σ' H',Inv X pins σ' H' s'/\RelV v u/\D.rt v H'
def PE(X:Cx)(e:Expr)(t:TE):Prop:=
 ∀(pins:List (Addr×Obj))(s:Shared)(σ:St)(H:Hp)(Q:VK),Inv X pins σ H s->t σ H Q->wpAny (model X.prog X.w) X.A (eval e X.env) (EP X pins σ Q) X.xe s
def PT(X:Cx)(e:Expr)(t:TT):Prop:=
 ∀(pins:List (Addr×Obj))(s:Shared)(σ:St)(H:Hp)(Q:Bool->Hp->Prop),Inv X pins σ H s->t σ H Q->wpAny (model X.prog X.w) X.A (isTrue e X.env (eval e X.env)) (TP X pins σ Q) X.xe s
def PW(X:Cx)(e:Expr)(t:TT):Prop:=
 ∀(whole:Sem Value)(pins:List (Addr×Obj))(s:Shared)(σ:St)(H:Hp)(Q:Bool->Hp->Prop),Inv X pins σ H s->t σ H Q->wpAny (model X.prog X.w) X.A (isTrue e X.env whole) (TP X pins σ Q) X.xe s
theorem PW.pt{X:Cx}{e:Expr}{t:TT}(h:PW X e t):PT X e t:=h _
def PA(X:Cx)(es:List Expr)(t:TA):Prop:=
 ∀(pos:Pos)(pins:List (Addr×Obj))(s:Shared)(σ:St)(H:Hp)(Q:List V->Hp->Prop),Inv X pins σ H s->t σ H Q->wpAny (model X.prog X.w) X.A (spliced (backTo pos (starEach es X.env))) (AP X pins σ Q) X.xe s
def PS(X:Cx)(st:Stmt)(t:TS):Prop:=
 ∀(pins:List (Addr×Obj))(s:Shared)(σ:St)(H:Hp)(D:Ends),Inv X pins σ H s->t D σ H->wpAny (model X.prog X.w) X.A (exec st X.env) (SP X pins D) X.xe s
def uT(X:Cx)(st:List Stmt)(t:TS):Prop:=
 ∀(pins:List (Addr×Obj))(s:Shared)(σ:St)(H:Hp)(D:Ends),Inv X pins σ H s->t D σ H->wpAny (model X.prog X.w) X.A (execs st X.env) (SP X pins D) X.xe s
theorem bS{α:Type}{t:Sem α}{Q Q':α->Shared->Prop}{M:Model}{A:Around}{E:Value->Shared->Prop}{s:Shared}(h:wpAny M A t Q E s)(hQ:∀a s,Q a s->Q' a s):wpAny M A t Q' E s:=aEC h hQ λ_ _ x=>x
theorem eL{t:Sem Value}{Q:VK}{Q':Value ->Shared ->Prop}{M:Model}{A:Around}{E:Value ->Shared ->Prop}{s:Shared}{X:Cx}{pins:List (Addr ×Obj)}{σ:St}(h:wpAny M A t (EP X pins σ Q) E s)(k: ∀v s x H,Inv X pins σ H s ->RelV x v ->Q x H ->Q' v s):wpAny M A t Q' E s:=aEC h (λv s z=>by obtain⟨x,H,i,r,q⟩:=z;exact k v s x H i r q) λ_ _ x=>x
theorem nT{t:Sem (List Value)}{Q:List V ->Hp ->Prop}{Q':List Value ->Shared ->Prop}{M:Model}{A:Around}{E:Value ->Shared ->Prop}{s:Shared}{X:Cx}{pins:List (Addr ×Obj)}{σ:St}(h:wpAny M A t (AP X pins σ Q) E s)(k: ∀v s x H,Inv X pins σ H s ->Vals x v ->Q x H ->Q' v s):wpAny M A t Q' E s:=aEC h (λv s z=>by obtain⟨x,H,i,r,q⟩:=z;exact k v s x H i r q) λ_ _ x=>x
section
variable{X:Cx}
def Fd(i:Nat):TE:=λσ H Q=>∃v,σ[i]?=some (some v)/\Q v H
def tC(v:V):TE:=λ_ H Q=>Q v H
theorem Zld{i:Nat}{x:Str}{pos:Pos}(hN:X.N[i]?=some x)(hv:IE X.env.scope x)(hd:(x ==("__debug__":Str))=false:=by decide)(hcd:(x ==("__classdict__":Str))=false:=by decide):PE X (.Name x pos) (Fd i):=by
 intro pins s σ H Q I h;obtain⟨v,e,h⟩:=h;obtain⟨m,hn,hl⟩:=I.loc;obtain⟨u,r,l⟩:=hl i x v hN e hv;have fin:EP X pins σ Q u s:=⟨v,H,I,r,h⟩;rcases l with⟨hk,hm⟩|⟨hk,c,hc,hcell⟩
 .exact wpAny_Name (wpAny_loadName_local I.ok.kind hk hn hm fin) hd
 .rcases hk with hk|hk
  .exact wpAny_Name (wpAny_loadName_cell I.ok.kind hk hc hcell fin) hd
  .exact wpAny_Name (wpAny_loadName_free I.ok.kind hk hc hcell fin hcd) hd
theorem Zi{i j pos}:PE X (.Constant (.int i) j pos) (tC (.int i)):=λ_ _ _ H _ I h=>wpAny_Constant_int ⟨.int i,H,I.tok _,⟨_,rfl⟩,h⟩
theorem dR{b j pos}:PE X (.Constant (.bool b) j pos) (tC (.bl b)):=λ_ _ _ H _ I h=>Constant_bool ⟨.bl b,H,I,rfl,h⟩
theorem Zle{j pos}:PE X (.Constant .none j pos) (tC .aQ):=λ_ _ _ H _ I h=>Constant_none ⟨.aQ,H,I,rfl,h⟩
theorem ZV{x j pos}:PE X (.Constant (.str x) j pos) (tC (.str x)):=λ_ _ _ H _ I h=>Calls.Constant_str ⟨.str x,H,I.tok _,⟨_,rfl⟩,h⟩
def Gl(X:Cx)(x:Str):Prop:=X.env.kindOf x=some .globalImplicit
theorem NT{E:Value->Shared->Prop}{pins:List (Addr×Obj)}{s:Shared}{σ:St}{H:Hp}{x:Str}{u:Value}{pos:Pos}{Q:Value->Shared->Prop}(I:Inv X pins σ H s)(hg:Gl X x)(hm:X.mg x=some u)(h:Q u s)
  (hd:(x ==("__debug__":Str))=false:=by decide):wpAny (model X.prog X.w) X.A (eval (.Name x pos) X.env) Q E s:=
 Calls.Name_function_global I.ok.kind hg (Calls.loadGlobal_global (by rw[I.ok.glob];exact I.mod.glob.keeps I.bk) hm h) hd
theorem sf{E:Value->Shared->Prop}{pins:List (Addr×Obj)}{s:Shared}{σ:St}{H:Hp}{x:Str}{u:Value}{pos:Pos}{Q:Value->Shared->Prop}(I:Inv X pins σ H s)(hg:Gl X x)(hm:X.mg x=none)(hv:bootBuiltins x=some u)(h:Q u s)
  (hn:x ≠ "__name__":=by decide) (hd:(x ==("__debug__":Str))=false:=by decide):wpAny (model X.prog X.w) X.A (eval (.Name x pos) X.env) Q E s:=by
 obtain⟨mb,h1,h2⟩:=I.mod.blt;exact Calls.Name_function_global I.ok.kind hg (Calls.loadGlobal_builtin (by rw[I.ok.glob];exact I.mod.glob.keeps I.bk) hm (by rw[I.ok.blt];exact h1.keeps I.bk) ((h2 x hn).trans hv) h) hd
theorem Zka{x:Str}{v:V}{u:Value}{pos:Pos}(hg:Gl X x)(hm:X.mg x=some u)(r:RelV v u)(hd:(x ==("__debug__":Str))=false:=by decide):PE X (.Name x pos) (tC v):=
 λ_ _ _ H _ I h=>NT I hg hm ⟨v,H,I,r,h⟩ hd
theorem vv{x:Str}{v:V}{u:Value}{pos:Pos}(hg:Gl X x)(hm:X.mg x=none)(hv:bootBuiltins x=some u)(r:RelV v u)(hn:x ≠ "__name__":=by decide)(hd:(x ==("__debug__":Str))=false:=by decide):PE X (.Name x pos) (tC v):=
 λ_ _ _ H _ I h=>sf I hg hm hv ⟨v,H,I,r,h⟩ hn hd
variable{a b:Expr}{ta tb:TE}{pos:Pos}
def PC(X:Cx)(op:CmpOp)(a b:Expr)(t:TE):Prop:=
 ∀(pins:List (Addr×Obj))(s:Shared)(σ:St)(H:Hp)(Q:VK),Inv X pins σ H s->t σ H Q ->
  wpAny (model X.prog X.w) X.A (eval a X.env) (λv s₁=>wpAny (model X.prog X.w) X.A (eval b X.env) (λu s₂=>wpAny (model X.prog X.w) X.A (compareOp op v u) (EP X pins σ Q) X.xe s₂) X.xe s₁) X.xe s
theorem SN(b:Expr){op:CmpOp}(h:op≠.In)(h2:op≠.NotIn):behindInMarks op b=false:=by
 have e1:(op ==CmpOp.In)=false:=by cases op <;> first|rfl|exact absurd rfl h
 have e2:(op ==CmpOp.NotIn)=false:=by cases op <;> first|rfl|exact absurd rfl h2
 cases b <;> simp[behindInMarks,e1,e2]
def Lf(ta:TE):TE:=λσ H Q=>ta σ H λx H1=>Q (.bl (decide (x=.aQ))) H1
def Fj(ta:TE):TE:=λσ H Q=>ta σ H λx H1=>Q (.bl (!decide (x=.aQ))) H1
theorem RelV.qy{x:V}{v:Value}(r:RelV x v):(v ==Value.none)=decide (x=.aQ):=by
 cases x with
 |aQ=>cases r;rfl
 |bl _=>cases r;rfl
 |int _=>obtain⟨t,rfl⟩:=r;rfl
 |str _=>obtain⟨t,rfl⟩:=r;rfl
 |uO _=>obtain⟨t,rfl⟩:=r;rfl
 |zB _=>obtain⟨t,rfl⟩:=r;rfl
 |ref _=>cases r;rfl
 |ty _=>cases r;rfl
theorem QO{j pos'}(ha:PE X a ta):PC X .Is a (.Constant .none j pos') (Lf ta):=by
 intro pins s σ H Q I h;refine eL (ha pins s σ H _ I h) λv s1 x H1 I1 r1 q1=>?_;exact Constant_none (is_none_gen ⟨.bl _,H1,I1,by rw[r1.qy];rfl,q1⟩)
theorem Su{j pos'}(ha:PE X a ta):PC X .IsNot a (.Constant .none j pos') (Fj ta):=by
 intro pins s σ H Q I h;refine eL (ha pins s σ H _ I h) λv s1 x H1 I1 r1 q1=>?_;exact Constant_none (isnot_none_gen ⟨.bl _,H1,I1,by rw[r1.qy];rfl,q1⟩)
def tB(t:TE):TT:=λσ H Q=>t σ H λx H1=>∃c,x=.bl c/\Q c H1
theorem Zlf{op:CmpOp}{t:TE}(h:PC X op a b t)(h1:behindInMarks op b=false:=by first|exact SN _ (by decide) (by decide)|rfl):PE X (.Compare a [op] [b] pos) t:=λpins s σ H Q I hw=>wpAny_Compare1 (h pins s σ H Q I hw) h1
theorem Ke{op:CmpOp}{t:TE}(h:PC X op a b t)(h1:behindInMarks op b=false:=by first|exact SN _ (by decide) (by decide)|rfl):PT X (.Compare a [op] [b] pos) (tB t):=by
 intro pins s σ H Q I hw;refine wpAny_isTrue_Compare1 (bS (h pins s σ H _ I hw) λv s1 h1=>bS h1 λu s2 h2=>bS h2 λc s3 ⟨x,H1,I1,r1,q1⟩=>?_) h1;obtain⟨d,rfl,q⟩:=q1;cases r1;exact a3s ⟨H1,I1,q⟩
theorem ZD{e:Expr}{t:TE}(h:PE X e t)(he:∀whole,isTrue e X.env whole=(do let v <-whole;standAt e.pos;holding [v] (truthy v)):=by intro _;rfl):PT X e (tB t):=by
 intro pins s σ H Q I hw;refine isTrue_plain (eL (h pins s σ H _ I hw) λv s1 x H1 I1 r1 q1=>?_) (he _);obtain⟨d,rfl,q⟩:=q1;cases r1;exact a3s ⟨H1,I1,q⟩
variable{tA Jo:TT}{rest:List Expr}
def Lj(t u:TT):TT:=λσ H Q=>t σ H λc H1=>if c=true then u σ H1 Q else Q false H1
def OT(t u:TT):TT:=λσ H Q=>t σ H λc H1=>if c=true then Q true H1 else u σ H1 Q
def Ld(t:TT):TT:=λσ H Q=>t σ H λc H1=>Q (!c) H1
theorem Ss(ha:PT X a tA):PW X (.BoolOp .And [a] pos) tA:=by
 intro wh pins s σ H Q I h;refine isTrue_and (bS (ha pins s σ H Q I h) λc s1 e=>?_);cases c with
 |true=>exact isTrue_and_nil e
 |false=>exact e
theorem HY(ha:PT X a tA):PW X (.BoolOp .Or [a] pos) tA:=by
 intro wh pins s σ H Q I h;refine isTrue_or (bS (ha pins s σ H Q I h) λc s1 e=>?_);cases c with
 |false=>exact isTrue_or_nil e
 |true=>exact e
theorem QN(ha:PT X a tA)(hb:PW X (.BoolOp .And (b ::rest) pos) Jo):PW X (.BoolOp .And (a ::b ::rest) pos) (Lj tA Jo):=by
 intro wh pins s σ H Q I h;refine isTrue_and (bS (ha pins s σ H _ I h) λc s1 ⟨H1,I1,q1⟩=>?_);cases c with
 |true=>exact hb wh pins s1 σ H1 Q I1 q1
 |false=>exact⟨H1,I1,q1⟩
theorem pw_or(ha:PT X a tA)(hb:PW X (.BoolOp .Or (b ::rest) pos) Jo):PW X (.BoolOp .Or (a ::b ::rest) pos) (OT tA Jo):=by
 intro wh pins s σ H Q I h;refine isTrue_or (bS (ha pins s σ H _ I h) λc s1 ⟨H1,I1,q1⟩=>?_);cases c with
 |true=>exact⟨H1,I1,q1⟩
 |false=>exact hb wh pins s1 σ H1 Q I1 q1
theorem uz(ha:PT X a tA):PT X (.UnaryOp .Not a pos) (Ld tA):=by
 intro pins s σ H Q I h;exact isTrue_not (ha pins s σ H (λc H1=>Q (!c) H1) I h)
def Ft(ta tb:TE):TE:=λσ H Q=>ta σ H λx H1=>∃c,x=.bl c/\if c=true then tb σ H1 Q else Q (.bl false) H1
def Lc(ta tb:TE):TE:=λσ H Q=>ta σ H λx H1=>∃c,x=.bl c/\if c=true then Q (.bl true) H1 else tb σ H1 Q
theorem HX{op}{t:TE}(h:PE X a t):PE X (.BoolOp op [a] pos) t:=λpins s σ H Q I hw=>BoolOp_one (h pins s σ H Q I hw)
theorem HW(ha:PE X a ta)(hb:PE X (.BoolOp .And (b ::rest) pos) tb):PE X (.BoolOp .And (a ::b ::rest) pos) (Ft ta tb):=by
 intro pins s σ H Q I h;refine BoolOp_and (eL (ha pins s σ H _ I h) λv s1 x H1 I1 r1 q1=>?_);obtain⟨c,rfl,q1⟩:=q1;cases r1;refine a3s ?_;cases c with
 |true=>exact hb pins s1 σ H1 Q I1 q1
 |false=>exact⟨.bl false,H1,I1,rfl,q1⟩
theorem F0(ha:PE X a ta)(hb:PE X (.BoolOp .Or (b ::rest) pos) tb):PE X (.BoolOp .Or (a ::b ::rest) pos) (Lc ta tb):=by
 intro pins s σ H Q I h;refine BoolOp_or (eL (ha pins s σ H _ I h) λv s1 x H1 I1 r1 q1=>?_);obtain⟨c,rfl,q1⟩:=q1;cases r1;refine a3s ?_;cases c with
 |false=>exact hb pins s1 σ H1 Q I1 q1
 |true=>exact⟨.bl true,H1,I1,rfl,q1⟩
def V0(t:TT)(ta tb:TE):TE:=λσ H Q=>t σ H λc H1=>if c=true then ta σ H1 Q else tb σ H1 Q
theorem Df{c:Expr}(hc:PT X c tA)(ha:PE X a ta)(hb:PE X b tb):PE X (.IfExp c a b pos) (V0 tA ta tb):=by
 intro pins s σ H Q I h;refine wpAny_IfExp (bS (hc pins s σ H _ I h) λd s1 ⟨H1,I1,q1⟩=>?_);cases d with
 |true=>exact ha pins s1 σ H1 Q I1 q1
 |false=>exact hb pins s1 σ H1 Q I1 q1
end
def aB(K:W.Frag)(H:Hp)(a:Addr)(xs:List V):Prop:=
 Rd H a (.lst xs) \/
  ∃(o:Obj)(its:Array Value)(n:Nat),K.lookup a=some o/\o.cls=.type "list" /\o.dict=none/\o.data=.seq its n/\its.size<=sizeLine/\Vals xs its.toList
def aX(K:W.Frag)(H:Hp)(a:Addr)(xs:List V):Prop:=
 Rd H a (.tup xs) \/
  ∃(o:Obj)(its:Array Value)(n:Nat),K.lookup a=some o/\o.cls=.type "tuple" /\o.data=.seq its n/\its.size<=sizeLine/\Vals xs its.toList
def Ng:Value->Option V
 | .none=>some .aQ
 | .bool b=>some (.bl b)
 | .int i _=>some (.int i)
 | .str x _=>some (.str x)
 | .bytes b _=>some (.uO b)
 | .float b _=>some (.zB b)
 | .ref a=>some (.ref a)
 | .type n=>some (.ty n)
 |_=>none
theorem RelV.abs{x:V}{u:Value}(r:RelV x u):Ng u=some x:=by
 cases x with
 |aQ=>cases r;rfl
 |bl _=>cases r;rfl
 |int _=>obtain⟨t,rfl⟩:=r;rfl
 |str _=>obtain⟨t,rfl⟩:=r;rfl
 |uO _=>obtain⟨t,rfl⟩:=r;rfl
 |zB _=>obtain⟨t,rfl⟩:=r;rfl
 |ref _=>cases r;rfl
 |ty _=>cases r;rfl
theorem RelV.inj{x y:V}{u:Value}(r:RelV x u)(q:RelV y u):x=y:=aDb (r.abs.symm.trans q.abs)
theorem Vals.inj:∀{xs ys:List V}{us:List Value},Vals xs us->Vals ys us->xs=ys
 |_,_,_,.nil,.nil=>rfl
 |_,_,_,.cons r t,.cons r' t'=>by rw[r.inj r',Vals.inj t t']
section
variable{X:Cx}{pins:List (Addr×Obj)}{σ:St}{H:Hp}{s:Shared}{a:Addr}{xs ys:List V}
theorem aB.of{K:W.Frag}(h:H a=some (.lst xs)):aB K H a xs:=.inl (.inl h)
theorem aX.of{K:W.Frag}(h:H a=some (.tup xs)):aX K H a xs:=.inl (.inl h)
theorem Inv.list(I:Inv X pins σ H s)(h:aB X.K H a xs):∃its:List Value,Vals xs its/\PlainL s.heap a its.toArray/\xs.length<=sizeLine:=by
 rcases h with h|⟨o,its,n,hk,hc,hd,hs,hz,r⟩
 .obtain ⟨z,its,n,r,e⟩:=h.ok I.hok;exact⟨its,r,⟨_,n,e,rfl,rfl,rfl⟩,z⟩
 .refine ⟨its.toList,r,⟨o,n,I.dD a o hk,hc,hd,by simpa using hs⟩,?_⟩;have e:=r.length;simp only[aTi]at e;lia
theorem Inv.tuple(I:Inv X pins σ H s)(h:aX X.K H a xs):∃its:List Value,Vals xs its/\IsTup s.heap a its.toArray/\xs.length<=sizeLine:=by
 rcases h with h|⟨o,its,n,hk,hc,hs,hz,r⟩
 .obtain ⟨z,its,r,p⟩:=h.ok I.hok;exact⟨its,r,p,z⟩
 .refine ⟨its.toList,r,⟨o,I.dD a o hk,hc,n,by simpa using hs⟩,?_⟩;have e:=r.length;simp only[aTi]at e;lia
theorem Inv.gZ(I:Inv X pins σ H s)(h:aB X.K H a xs)(h':aB X.K H a ys):xs=ys:=by
 obtain⟨its,r,⟨o,n,e,_,_,d⟩,_⟩:=I.list h;obtain⟨its',r',⟨o',n',e',_,_,d'⟩,_⟩:=I.list h';rw[e]at e';cases e';rw[d]at d';injection d' with d1 _
 have:its=its':=by simpa using aSc Array.toList d1
 subst this;exact r.inj r'
theorem Inv.fF(I:Inv X pins σ H s)(h:aX X.K H a xs)(h':aX X.K H a ys):xs=ys:=by
 obtain⟨its,r,⟨o,e,_,n,d⟩,_⟩:=I.tuple h;obtain⟨its',r',⟨o',e',_,n',d'⟩,_⟩:=I.tuple h';rw[e]at e';cases e';rw[d]at d';injection d' with d1 _
 have:its=its':=by simpa using aSc Array.toList d1
 subst this;exact r.inj r'
end
abbrev Cx.lR(X:Cx)(E:Value->Shared->Prop):Cx:={ X with xe:=E }
abbrev Cx.BY(X:Cx):Cx:=X.lR λ_ _=>False
theorem Cx.Ok.lR{X:Cx}(ok:X.Ok)(E:Value->Shared->Prop):(X.lR E).Ok:=
 ⟨ok.mod,ok.kind,ok.glob,ok.blt,ok.above,ok.inj,ok.has,ok.HH,ok.hd,ok.frames,ok.stk,ok.J2,ok.bs,ok.yo,ok.wU,ok.xH,ok.jM,ok.CJ⟩
theorem Cx.Ok.eB{X:Cx}{E:Value->Shared->Prop}(ok:(X.lR E).Ok):X.Ok:=
 ⟨ok.mod,ok.kind,ok.glob,ok.blt,ok.above,ok.inj,ok.has,ok.HH,ok.hd,ok.frames,ok.stk,ok.J2,ok.bs,ok.yo,ok.wU,ok.xH,ok.jM,ok.CJ⟩
section
variable{X:Cx}{pins:List (Addr×Obj)}{σ:St}{H:Hp}{s:Shared}{E:Value->Shared->Prop}
theorem Inv.lR(I:Inv X pins σ H s)(E:Value->Shared->Prop):Inv (X.lR E) pins σ H s:=⟨I.ok.lR E,I.os,I.bare,I.base,I.loc,I.cell,I.free,I.cO,I.pin,I.hok,I.len⟩
theorem Inv.eB(I:Inv (X.lR E) pins σ H s):Inv X pins σ H s:=⟨I.ok.eB,I.os,I.bare,I.base,I.loc,I.cell,I.free,I.cO,I.pin,I.hok,I.len⟩
theorem SP.eB{D:Ends}{f:Flow}{s':Shared}(h:SP (X.lR E) pins D f s'):SP X pins D f s':=by
 cases f with
 |next=>obtain⟨σ',H',I,q⟩:=h;exact⟨σ',H',I.eB,q⟩
 |brk=>obtain⟨σ',H',I,q⟩:=h;exact⟨σ',H',I.eB,q⟩
 |cont=>obtain⟨σ',H',I,q⟩:=h;exact⟨σ',H',I.eB,q⟩
 |ret u=>obtain⟨v,σ',H',I,r,q⟩:=h;exact⟨v,σ',H',I.eB,r,q⟩
theorem uT.BY{st:List Stmt}{t:TS}(h:uT X.BY st t):uT X st t:=λpins s σ H D I hw=>
 aEC (h pins s σ H D (I.lR _) hw) (λ_ _ q=>q.eB) λ_ _ z=>False.elim z
end
section
variable{X:Cx}{st:Stmt}{rest:List Stmt}{t u:TS}{e:Expr}{te:TE}{pos:Pos}
def eN:TS:=λD σ H=>D.nx σ H
def vJ(t u:TS):TS:=λD σ H=>t { D with nx:=u D } σ H
theorem Zt:uT X [] eN:=λ_ _ σ H _ I h=>wpAny_execs_nil ⟨σ,H,I,h⟩
theorem Zd(h1:PS X st t)(h2:uT X rest u):uT X (st ::rest) (vJ t u):=by
 intro pins s σ H D I h;refine wpAny_execs_cons (bS (h1 pins s σ H { D with nx:=u D } I h) λf s1 q=>?_);cases f with
 |next=>
  obtain⟨σ',H',I',q⟩:=q;exact h2 pins s1 σ' H' D I' q
 |ret v=>exact q
 |brk=>exact q
 |cont=>exact q
theorem Zh(h1:PS X st t):uT X [st] t:=by
 intro pins s σ H D I h;refine wpAny_execs_cons (bS (h1 pins s σ H D I h) λf s1 q=>?_);cases f with
 |next=>exact wpAny_execs_nil q
 |ret v=>exact q
 |brk=>exact q
 |cont=>exact q
theorem Inv.quiet{pins:List (Addr×Obj)}{σ:St}{H:Hp}{s:Shared}(I:Inv X pins σ H s):interactive X.env=false:=by simp[interactive,I.ok.kind]
def Fp(te:TE):TS:=λD σ H=>te σ H λ_ H1=>D.nx σ H1
theorem Zn(he:PE X e te)(hs:swapsWith e none pos.line X.env=pure false:=by rfl):PS X (.Expr e pos) (Fp te):=by
 intro pins s σ H D I h;exact wpAny_Expr_any (eL (he pins s σ H _ I h) λv s1 x H1 I1 r1 q1=>⟨σ,H1,I1,q1⟩) I.quiet hs
def La(te:TE):TS:=λD σ H=>te σ H D.rt
theorem Zp(he:PE X e te):PS X (.Return (some e) pos) (La te):=by
 intro pins s σ H D I h;exact wpAny_Return_some (eL (he pins s σ H _ I h) λv s1 x H1 I1 r1 q1=>⟨x,σ,H1,I1,r1,q1⟩)
def Ff:TS:=λD _ H=>D.rt .aQ H
theorem NR:PS X (.Return none pos) Ff:=λ_ _ σ H _ I h=>wpAny_Return_none ⟨.aQ,σ,H,I,rfl,h⟩
def Fl(c:TT)(t u:TS):TS:=λD σ H=>c σ H λb H1=>if b=true then t D σ H1 else u D σ H1
theorem aE{c:Expr}{a b:List Stmt}{tc:TT}(hc:PT X c tc)(ha:uT X a t)(hb:uT X b u):PS X (.If c a b pos) (Fl tc t u):=by
 intro pins s σ H D I h;refine wpAny_If (bS (hc pins s σ H _ I h) λd s1 ⟨H1,I1,q1⟩=>?_);cases d with
 |true=>exact ha pins s1 σ H1 D I1 q1
 |false=>exact hb pins s1 σ H1 D I1 q1
end
abbrev TG:=V->St->Hp->(St->Hp->Prop)->Prop
abbrev Bo:=List V->St->Hp->(St->Hp->Prop)->Prop
def PG(X:Cx)(target:Expr)(t:TG):Prop:=
 ∀(pins:List (Addr×Obj))(s:Shared)(σ:St)(H:Hp)(v:V)(u:Value)(Q:St->Hp->Prop),Inv X pins σ H s->RelV v u->t v σ H Q ->
  wpAny (model X.prog X.w) X.A (assign target X.env u) (λ_ s'=>∃ σ' H',Inv X pins σ' H' s'/\Q σ' H') X.xe s
def IJ(X:Cx)(ts:List Expr)(t:Bo):Prop:=
 ∀(pins:List (Addr×Obj))(s:Shared)(σ:St)(H:Hp)(vs:List V)(us:List Value)(Q:St->Hp->Prop),Inv X pins σ H s->Vals vs us->t vs σ H Q ->
  wpAny (model X.prog X.w) X.A (assignInOrder ((assignEach ts X.env).map (·.2)) us) (λ_ s'=>∃ σ' H',Inv X pins σ' H' s'/\Q σ' H') X.xe s
abbrev Dh:=V->V->V->Hp->(Hp->Prop)->Prop
def II(X:Cx)(t:Dh):Prop:=
 ∀(pins:List (Addr×Obj))(s:Shared)(σ:St)(H:Hp)(o i v:V)(ov iv u:Value)(Q:Hp->Prop),Inv X pins σ H s->RelV o ov->RelV i iv->RelV v u->t o i v H Q ->
  wpAny (model X.prog X.w) X.A (setItem ov iv u) (λ_ s'=>∃H',Inv X pins σ H' s'/\Q H') X.xe s
section
variable{X:Cx}{pos:Pos}
def fC(i:Nat):TG:=λv σ H Q=>Q (σ.set i (some v)) H
theorem Zkb{i:Nat}{x:Str}(hN:X.N.Nodup)(hi:X.N[i]?=some x)(hx:Loc X.env.scope x)(hf:X.fn x=true\/X.env.scope.names.lookup x=some .local:=by first|exact .inl rfl|exact .inr rfl|assumption):PG X (.Name x pos) (fC i):=by
 intro pins s σ H v u Q I r h;exact wpAny_assign_Name (Dg I hN hi hx r (λs' I'=>⟨_,H,I',h⟩) hf)
def MM:Bo:=λvs σ H Q=>vs=[]/\Q σ H
def Hq(t:TG)(u:Bo):Bo:=λvs σ H Q=>∃v r,vs=v ::r/\t v σ H λσ' H'=>u r σ' H' Q
theorem ZS:IJ X [] MM:=by
 intro pins s σ H vs us Q I r h;obtain⟨e,h⟩:=h;subst e;cases r;exact assignInOrder_nil ⟨σ,H,I,h⟩
theorem Zq{e:Expr}{es:List Expr}{t:TG}{u:Bo}(h1:PG X e t)(h2:IJ X es u)
  (hs:(assignEach (e ::es) X.env).map (·.2)=assign e X.env ::(assignEach es X.env).map (·.2):=by rfl):IJ X (e ::es) (Hq t u):=by
 intro pins s σ H vs us Q I r h;obtain⟨v,vr,e1,h⟩:=h;subst e1;cases r with
 |cons r rr=>
  rw[hs];refine aRs (bS (h1 pins s σ H _ _ _ I r h) λ_ s1 ⟨σ1,H1,I1,q1⟩=>?_);exact h2 pins s1 σ1 H1 _ _ Q I1 rr q1
def Ho(K:W.Frag)(n:Nat)(t:Bo):TG:=λv σ H Q=>∃a xs,v=.ref a/\aX K H a xs/\xs.length=n/\t xs σ H Q
theorem Zlg{es:List Expr}{k:Nat}{t:Bo}{n:Nat}(hc:X.calm=true)(h:IJ X es t)
  (hn:(assignEach es X.env).length=n:=by rfl) (hst:(assignEach es X.env).findIdx? (·.1)=none:=by rfl):PG X (.Tuple es k pos) (Ho X.K n t):=by
 intro pins s σ H v u Q I r hw;obtain⟨a,xs,e1,hq,hl,hw⟩:=hw;subst e1;cases r;obtain⟨its,rv,ht,hz⟩:=I.tuple hq;refine assign_Tuple_tuple (I.ok.hd hc) ht (by simp[hn,<-hl,rv.length]) hst λh' hx=>?_;have I1:Inv X pins σ H { s with heap:=h' }:=I.kept (t':=s.toks) λb o e=>hx b o (amC (aNG e)) e;exact h pins _ σ H xs _ Q I1 (by simpa using rv) hw
def ML(to ti:TE)(t:Dh):TG:=λv σ H Q=>to σ H λo H1=>ti σ H1 λi H2=>t o i v H2 λH3=>Q σ H3
theorem C3{o i:Expr}{to ti:TE}{t:Dh}(ho:PE X o to)(hi:PE X i ti)(hs:II X t)
  (ha:∀v,assign (.Subscript o i pos) X.env v=(do
   let ov <-holding [v] (eval o X.env)
   let iv <-holding [v,ov] (eval i X.env)
   standAt pos
   holding [v,ov,iv] (setItem ov iv v)
   release [v,ov,iv] []):=by intro _;rfl):PG X (.Subscript o i pos) (ML to ti t):=by
 intro pins s σ H v u Q I r h;rw[ha];refine agE (aMj (eL (ho pins s σ H _ I h) λov s1 x H1 I1 r1 q1=>?_));refine agE (aMj (eL (hi pins s1 σ H1 _ I1 q1) λiv s2 y H2 I2 r2 q2=>?_));refine agE (aIo (agE (aMj (bS (hs pins s2 σ H2 x y v ov iv u _ I2 r1 r2 r q2) λ_ s3 ⟨H3,I3,q3⟩=>?_))));exact wpAny_release ⟨σ,H3,I3,q3⟩
def uF(te:TE)(g:TG):TS:=λD σ H=>te σ H λx H1=>g x σ H1 D.nx
theorem se{tg e:Expr}{te:TE}{g:TG}(he:PE X e te)(hg:PG X tg g)(hs:swapsWithSole [tg] e pos.line X.env=pure false:=by rfl)(hw:swappedStores [tg] e X.env=pure none:=by rfl)
  (h1:(assignEach [tg] X.env).map (·.2)=[assign tg X.env]:=by rfl):PS X (.Assign [tg] e pos) (uF te g):=by
 intro pins s σ H D I h;refine wpAny_Assign_stores (eL (he pins s σ H _ I h) λv s1 x H1 I1 r1 q1=>?_) hs hw;rw[h1];exact bS (hg pins s1 σ H1 x v _ I1 r1 q1) λ_ s2 q=>q
theorem Zlh{i:Nat}{x:Str}{e:Expr}{te:TE}{pos':Pos}(hN:X.N.Nodup)(hi:X.N[i]?=some x)(hx:Loc X.env.scope x)(he:PE X e te)(hs:swapsWith e (some (.Name x pos')) pos.line X.env=pure false:=by rfl)(hf:X.fn x=true\/X.env.scope.names.lookup x=some .local:=by first|exact .inl rfl|exact .inr rfl|assumption) :
  PS X (.Assign [.Name x pos'] e pos) (uF te (fC i)):=by
 intro pins s σ H D I h;refine wpAny_Assign_Name (eL (he pins s σ H _ I h) λv s1 y H1 I1 r1 q1=>?_) hs;exact Dg I1 hN hi hx r1 (λs2 I2=>⟨_,H1,I2,q1⟩) hf
def Lb(i j:Nat)(ta:TA):TS:=λD σ H=>ta σ H λvs H1=>∃v w,vs=[v,w]/\D.nx ((σ.set i (some v)).set j (some w)) H1
theorem QM{i j:Nat}{x y:Str}{a b:Expr}{ta:TA}{px py pt:Pos}{kt k2 BP}(hc:X.calm=true)(hN:X.N.Nodup)(hi:X.N[i]?=some x)(hj:X.N[j]?=some y)(hij:i≠j)
  (hx:X.env.scope.names.lookup x=some .local) (hy:X.env.scope.names.lookup y=some .local) (ha:PA X [a,b] ta)
  (hw:swappedStores [.Tuple [.Name x px,.Name y py] kt pt] (.Tuple [a,b] k2 BP) X.env=pure (some [x,y]))
  (hs:swapsWithSole [.Tuple [.Name x px,.Name y py] kt pt] (.Tuple [a,b] k2 BP) pos.line X.env=pure false:=by rfl) :
  PS X (.Assign [.Tuple [.Name x px,.Name y py] kt pt] (.Tuple [a,b] k2 BP) pos) (Lb i j ta):=by
 intro pins s σ H D I h;rw[exec_Assign_arm];refine agE (aIo ?_);rw[hs];refine agE (anq ?_);rw[aoK (by decide)];refine agE (Tuple_ (nT (ha _ pins s σ H _ I h) λus s1 vs H1 I1 r1 q1=>?_));obtain⟨v,w,e1,q1⟩:=q1;subst e1;obtain⟨u1,u2,rfl,rv,rw'⟩:∃u1 u2,us=[u1,u2]/\RelV v u1/\RelV w u2:=by
  cases r1 with
  |cons p q=>
   cases q with
   |cons p' q'=>
    cases q';exact⟨_,_,rfl,p,p'⟩
 refine aiJ ?_ (by show 2<=sizeLine;decide);have I2:Inv X pins σ H1 { s1 with heap:=s1.heap.push { cls:=.type "tuple",data:=.seq [u1,u2].toArray } }:=I1.kept (t':=s1.toks) λb o e=>a8G _ e;rw[hw];refine agE (anq ?_);show wpAny (model X.prog X.w) X.A (do rule "assign.swapped-stores";let items <-unpackItems (.ref s1.heap.objs.size) 2 none;assignInOrder [λv=>bindName X.env y v,λv=>bindName X.env x v] items.reverse;pure Flow.next) _ _ _;refine agE (aiy (agE (unpackItems_tuple (items:=#[u1,u2]) (I.ok.hd hc) (IsTup.new s1.heap _) λh' hx'=>?_)));have I3:=I2.kept (h':=h') (t':=s1.toks) λb o e=>hx' b o (amC (aNG e)) e;show wpAny _ _ (assignInOrder [λv=>bindName X.env y v,λv=>bindName X.env x v] [u2,u1] >>= λ_=>pure Flow.next) _ _ _;refine agE (aRs (a4h (Dg I3 hN hj (.inl hy) rw' (λs2 I4=>?_) (.inr hy))));refine aRs (a4h (Dg I4 hN hi (.inl hx) rv (λs3 I5=>assignInOrder_nil (anq ?_)) (.inr hx)));rw[List.set_comm _ _ (avX hij)]at I5;exact⟨_,H1,I5,q1⟩
end
structure It where
 go:Nat->Hp->Prop
 rL:Nat->Hp->V->Hp->Prop
 stop:Nat->Hp->Prop
def jV(X:Cx)(pins:List (Addr×Obj))(H:Hp)(b:Addr):Prop:=
 H b=none/\b≠X.env.locals/\b∉X.fs/\(b∈X.ex\/X.s₀.heap.objs.size<=b)/\(∀x c,X.env.cells.lookup x=some c->c≠b)/\∀p∈X.pn++pins,p.1≠b
theorem Inv.oY{X:Cx}{pins:List (Addr×Obj)}{σ:St}{H H':Hp}{s:Shared}{b:Addr}(I:Inv X pins σ H s)(hb:s.heap.objs.size<=b)(hn:H' b=none):jV X pins H' b:=by
 refine⟨hn,aA9 (ae8 I.lt hb),I.Gf hb,.inr (alM I.sz hb),λx c e z=>?_,λp hp z=>?_⟩
 .obtain ⟨v,q⟩:=I.cell x c e;exact absurd (ae8 q.lt (by rw[z];exact hb)) (aZG _)
 .exact absurd (ae8 (aNG (I.pin p hp).1) (by rw[z];exact hb)) (aZG _)
structure Turn(P:Program)(w:World)(K:W.Frag)(tg:Expr)(J:It)(fp:List Addr)(it:Addr)(tn:Nat->Heap->Prop):Prop where
 mem:it∈fp
 obj:∀i h,tn i h->∀b∈fp,∃o,h.get? b=some o/\∀v,o.data≠.cell v
 keep:∀i h h',tn i h->(∀b∈fp,∀o,h.get? b=some o->h'.get? b=some o)->tn i h'
 item:∀(X:Cx),X.prog=P->X.w=w->X.K=K->X.calm=true->∀(i:Nat)(pins:List (Addr×Obj))(s:Shared)(σ:St)(H:Hp)(E:Value->Shared->Prop),Inv X pins σ H s->(∀b∈fp,jV X pins H b)->tn i s.heap->J.go i H ->
  wpAny (model P w) X.A (pyNext (.ref it)) (λr s1=>∃u,r=some u /\
   wpAny (model P w) X.A (letOwnedTupleGo tg (.ref it) u) (λ_ s2=>∃x H',Inv X pins σ H' s2/\RelV x u/\J.rL i H x H'/\tn (i+1) s2.heap/\∀b∈fp,H' b=none) E s1) E s
 done:∀(X:Cx),X.prog=P->X.w=w->X.K=K->X.calm=true->∀(i:Nat)(pins:List (Addr×Obj))(s:Shared)(σ:St)(H:Hp)(E:Value->Shared->Prop),Inv X pins σ H s->(∀b∈fp,jV X pins H b)->tn i s.heap->J.stop i H ->
  wpAny (model P w) X.A (pyNext (.ref it)) (λr s1=>r=none/\Inv X pins σ H s1) E s
 self:∀(A:Around)(i:Nat)(s:Shared)(Q:Value->Shared->Prop)(E:Value->Shared->Prop),tn i s.heap->Q (.ref it) s->wpAny (model P w) A (pyIter (.ref it)) Q E s
abbrev TI:=St->Hp->(It->Hp->Prop)->Prop
def Ov(X:Cx)(pins:List (Addr×Obj))(σ:St)(tg:Expr)(R:It->Hp->Prop)(itv:Value)(s2:Shared):Prop:=
 ∃(it:Addr)(fp:List Addr)(tn:Nat->Heap->Prop)(J:It)(H':Hp),itv=.ref it/\Inv X pins σ H' s2/\Turn X.prog X.w X.K tg J fp it tn/\tn 0 s2.heap/\(∀b∈fp,jV X pins H' b)/\R J H'
def PI(X:Cx)(tg iter:Expr)(wi:TI):Prop:=
 ∀(pins:List (Addr×Obj))(s:Shared)(σ:St)(H:Hp)(R:It->Hp->Prop),Inv X pins σ H s->wi σ H R ->
  wpAny (model X.prog X.w) X.A (eval iter X.env) (λv s1=>wpAny (model X.prog X.w) X.A (pyIter v) (Ov X pins σ tg R) X.xe s1) X.xe s
theorem uf{M:Model}{A:Around}{E:Value->Shared->Prop}{s:Shared}{tg:Expr}{it:Addr}{u:Value}{o:Obj}{n:String}{vs:Array Value}{Q:Unit->Shared->Prop}(ho:s.heap.get? it=some o)(hc:o.cls=.type n)(hd:o.data=.fields vs)
  (hn:["enumerate","zip","dict_itemiterator","dict_reverseitemiterator","odict_iterator","itertools.zip_longest","itertools.pairwise"].contains n=false) (hQ:Q () s):wpAny M A (letOwnedTupleGo tg (.ref it) u) Q E s:=by
 unfold letOwnedTupleGo;cases tg <;> first
  |exact anq hQ
  | (cases u <;> first
    |exact anq hQ
    | (refine agE (wpAny_load ho ?_)
       rw[hc,hd];show wpAny M A (if(["enumerate","zip","dict_itemiterator","dict_reverseitemiterator","odict_iterator","itertools.zip_longest","itertools.pairwise"].contains n && vs[0]? ==some (rawInt _))=true then _ else _) Q E s;rw[aoK (by intro h;rw[hn,Bool.false_and]at h;cases h)];exact anq hQ))
def Bw(K:W.Frag)(a:Addr):It:=
 ⟨λi H=>∃xs x,aB K H a xs/\xs[i]?=some x,λi H x H'=>H'=H/\∀xs,aB K H a xs->xs[i]?=some x,λi H=>∃xs,aB K H a xs/\xs.length<=i⟩
def IS(K:W.Frag)(a:Addr):It:=
 ⟨λi H=>∃xs x,aX K H a xs/\xs[i]?=some x,λi H x H'=>H'=H/\∀xs,aX K H a xs->xs[i]?=some x,λi H=>∃xs,aX K H a xs/\xs.length<=i⟩
def yz(lo:Int)(n:Nat):It:=⟨λi _=>i<n,λi H x H'=>H'=H/\x=.int (lo+i),λi _=>n<=i⟩
theorem Zha{P:Program}{w:World}{K:W.Frag}{tg:Expr}(a it:Addr):Turn P w K tg (Bw K a) [it] it (λi h=>h.IsListIter it a i) where
 mem:=by simp
 obj:=λi h st b hb=>by
  have e:b=it:=by simpa using hb
  subst e;obtain⟨o,e,c,d⟩:=st;exact⟨o,e,λv z=>by rw[d]at z;cases z⟩
 keep:=λi h h' st k=>st.at λo e=>k it (by simp) o e
 item:=by
  intro X hP hw hK hc i pins s σ H E I hf st hg;subst hP hw hK;obtain⟨xs,x,hq,hx⟩:=hg;obtain⟨its,rv,p,hz⟩:=I.list hq;obtain⟨u,hu,ru⟩:=rv.get hx;obtain⟨f0,f1,f2,f3,f4,f5⟩:=hf it (by simp);refine wpAny_pyNext_list_item st p.isList (x:=u) (by simpa using hu) λh' st' sb=>?_;have I1:Inv X pins σ H { s with heap:=h' }:=I.turned (t':=s.toks) (λb o hb e=>(sb.2 b hb).trans e) f0 f1 f3 f4 f5;obtain⟨o,e,c,d⟩:=id st';exact⟨u,rfl,uf (s:={ s with heap:=h' }) e c d (by decide) ⟨x,H,I1,ru,⟨rfl,λys hy=>by rw[I.gZ hy hq];exact hx⟩,st',λb hb=>(hf b hb).1⟩⟩
 done:=by
  intro X hP hw hK hc i pins s σ H E I hf st hg;subst hP hw hK;obtain⟨xs,hq,hx⟩:=hg;obtain⟨its,rv,p,hz⟩:=I.list hq;obtain⟨f0,f1,f2,f3,f4,f5⟩:=hf it (by simp);have hl:=rv.length;exact wpAny_pyNext_list_end (I.ok.hd hc) st p.isList (by simp;lia) λh' eb=>⟨rfl,I.turned (t':=s.toks) (λb o hb e=>eb b o hb e) f0 f1 f3 f4 f5⟩
 self:=λ_ _ _ _ _ st h=>wpAny_pyIter_listiter st h
theorem Zgx{P:Program}{w:World}{K:W.Frag}{tg:Expr}(a it:Addr):Turn P w K tg (IS K a) [it] it (λi h=>h.IsTupleIter it a i) where
 mem:=by simp
 obj:=λi h st b hb=>by
  have e:b=it:=by simpa using hb
  subst e;obtain⟨o,e,c,d⟩:=st;exact⟨o,e,λv z=>by rw[d]at z;cases z⟩
 keep:=λi h h' st k=>st.at λo e=>k it (by simp) o e
 item:=by
  intro X hP hw hK hc i pins s σ H E I hf st hg;subst hP hw hK;obtain⟨xs,x,hq,hx⟩:=hg;obtain⟨its,rv,p,hz⟩:=I.tuple hq;obtain⟨u,hu,ru⟩:=rv.get hx;obtain⟨f0,f1,f2,f3,f4,f5⟩:=hf it (by simp);refine wpAny_pyNext_tuple_item st (show s.heap.IsTuple a its.toArray from p) (x:=u) (by simpa using hu) λh' st' sb=>?_;have I1:Inv X pins σ H { s with heap:=h' }:=I.turned (t':=s.toks) (λb o hb e=>(sb.2 b hb).trans e) f0 f1 f3 f4 f5;obtain⟨o,e,c,d⟩:=id st';exact⟨u,rfl,uf (s:={ s with heap:=h' }) e c d (by decide) ⟨x,H,I1,ru,⟨rfl,λys hy=>by rw[I.fF hy hq];exact hx⟩,st',λb hb=>(hf b hb).1⟩⟩
 done:=by
  intro X hP hw hK hc i pins s σ H E I hf st hg;subst hP hw hK;obtain⟨xs,hq,hx⟩:=hg;obtain⟨its,rv,p,hz⟩:=I.tuple hq;obtain⟨f0,f1,f2,f3,f4,f5⟩:=hf it (by simp);have hl:=rv.length;exact wpAny_pyNext_tuple_end (I.ok.hd hc) st (show s.heap.IsTuple a its.toArray from p) (by simp;lia) λh' eb=>⟨rfl,I.turned (t':=s.toks) (λb o hb e=>eb b o hb e) f0 f1 f3 f4 f5⟩
 self:=λ_ _ _ _ _ st h=>wpAny_pyIter_tupleiter st h
theorem Zgy{P:Program}{w:World}{K:W.Frag}{tg:Expr}(it:Addr)(lo:Int)(n:Nat):Turn P w K tg (yz lo n) [it] it (λi h=>IsRangeIter h it (lo+(i:Nat)*1) ((n:Int)-(i:Nat)) 1) where
 mem:=by simp
 obj:=λi h st b hb=>by
  have e:b=it:=by simpa using hb
  subst e;exact⟨_,st,λv z=>by
   have z':Data.fields _=Data.cell v:=z;cases z'⟩
 keep:=λi h h' st k=>k it (by simp) _ st
 item:=by
  intro X hP hw hK hc i pins s σ H E I hf st hg;subst hP hw hK;obtain⟨f0,f1,f2,f3,f4,f5⟩:=hf it (by simp);have W:=Walks.range (prog:=X.prog) (w:=X.w) (I.ok.hd hc) it lo 1 n;refine W.item i s _ _ hg st λv h' tk hv st' kk=>?_;obtain⟨t,rfl⟩:=hv;have I1:Inv X pins σ H { s with heap:=h',toks:=tk }:=I.turned (λb o hb e=>kk b o (by simpa using hb) e) f0 f1 f3 f4 f5;refine⟨_,rfl,uf (s:={ s with heap:=h',toks:=tk }) (n:="range_iterator") st' rfl rfl (by decide) ⟨.int (lo+i),H,I1,⟨t,?_⟩,⟨rfl,rfl⟩,st',λb hb=>(hf b hb).1⟩⟩;rw[Int.mul_one]
 done:=by
  intro X hP hw hK hc i pins s σ H E I hf st hg;subst hP hw hK;obtain⟨f0,f1,f2,f3,f4,f5⟩:=hf it (by simp);exact wpAny_pyNext_range_end (I.ok.hd hc) st (by have:n<=i:=hg;lia) λh' eb=>⟨rfl,I.turned (t':=s.toks) (λb o hb e=>eb b o hb e) f0 f1 f3 f4 f5⟩
 self:=λ_ _ _ _ _ st h=>wpAny_pyIter_rangeiter st h
section
variable{X:Cx}{tg:Expr}
def AV(K:W.Frag)(tl:TE):TI:=λσ H R=>tl σ H λx H1=>∃a,x=.ref a/\(∃xs,aB K H1 a xs)/\R (Bw K a) H1
def GO(K:W.Frag)(tl:TE):TI:=λσ H R=>tl σ H λx H1=>∃a,x=.ref a/\(∃xs,aX K H1 a xs)/\R (IS K a) H1
theorem Zkc{l:Expr}{tl:TE}(hl:PE X l tl):PI X tg l (AV X.K tl):=by
 intro pins s σ H R I h;refine eL (hl pins s σ H _ I h) λv s1 x H1 I1 r1 q1=>?_;obtain⟨a,e,⟨xs,hq⟩,q⟩:=q1;subst e;cases r1;obtain⟨its,rv,p,hz⟩:=I1.list hq;refine wpAny_pyIter_list p.isList ?_;refine⟨s1.heap.objs.size,[s1.heap.objs.size],_,_,H1,rfl,I1.kept (t':=s1.toks) λb o e=>a8G _ e,Zha a _,⟨_,aIn _ rfl,rfl,rfl⟩,λb hb=>?_,q⟩;have e:b=s1.heap.objs.size:=by simpa using hb
 subst e;exact I1.oY (apX _) (I1.hok.fresh (apX _))
theorem Zli{l:Expr}{tl:TE}(hl:PE X l tl):PI X tg l (GO X.K tl):=by
 intro pins s σ H R I h;refine eL (hl pins s σ H _ I h) λv s1 x H1 I1 r1 q1=>?_;obtain⟨a,e,⟨xs,hq⟩,q⟩:=q1;subst e;cases r1;obtain⟨its,rv,p,hz⟩:=I1.tuple hq;refine awE (show s1.heap.IsTuple a its.toArray from p) ?_;refine⟨s1.heap.objs.size,[s1.heap.objs.size],_,_,H1,rfl,I1.kept (t':=s1.toks) λb o e=>a8G _ e,Zgx a _,⟨_,aIn _ rfl,rfl,rfl⟩,λb hb=>?_,q⟩;have e:b=s1.heap.objs.size:=by simpa using hb
 subst e;exact I1.oY (apX _) (I1.hok.fresh (apX _))
theorem SM{pins:List (Addr×Obj)}{σ:St}{H:Hp}{s:Shared}{R:It->Hp->Prop}{E:Value->Shared->Prop}{lo hi:Int}{t u v:Tok}{tk:Nat}(I:Inv X pins σ H s)(h1: -(2 ^ 62)<=lo)(h2:lo<2 ^ 62)(h3: -(2 ^ 62)<=hi)(h4:hi<2 ^ 62)
  (q:R (yz lo (hi-lo).toNat) H):wpAny (model X.prog X.w) X.A (pyIter (.ref s.heap.objs.size)) (Ov X pins σ tg R) E { s with heap:=s.heap.push { cls:=.type "range",data:=.fields #[.int lo t,.int hi u,.int 1 v] },toks:=tk }:=by
 refine wpAny_pyIter_range (IsRange.new ..) (small_one h1 h2 h3 h4) ?_;have I1:Inv X pins σ H { s with heap:=s.heap.push { cls:=.type "range",data:=.fields #[.int lo t,.int hi u,.int 1 v] },toks:=tk }:=I.kept λb o e=>a8G _ e;refine⟨(s.heap.push { cls:=.type "range",data:=.fields #[.int lo t,.int hi u,.int 1 v] }).objs.size,[(s.heap.push { cls:=.type "range",data:=.fields #[.int lo t,.int hi u,.int 1 v] }).objs.size],_,_,H,rfl,
  I1.kept (t':=tk) λb o e=>a8G _ e,Zgy _ lo (hi-lo).toNat,?_,λb hb=>?_,q⟩
 .have e1:lo+((0:Nat):Int)*1=lo:=by simp
  have e2:(((hi-lo).toNat:Nat):Int)-((0:Nat):Int)=Builtin.Range.rangeSize lo hi 1:=by rw[rangeSize_one];split <;> lia
  show IsRangeIter _ _ (lo+((0:Nat):Int)*1) ((((hi-lo).toNat:Nat):Int)-((0:Nat):Int)) 1;rw[e1,e2];exact aIn _ rfl
 .have e:b=(s.heap.push { cls:=.type "range",data:=.fields #[.int lo t,.int hi u,.int 1 v] }).objs.size:=by simpa using hb
  subst e;exact I1.oY (apX _) (I1.hok.fresh (apX _))
def GS(ta:TA):TI:=λσ H R=>ta σ H λvs H1=>∃j:Int,vs=[.int j] /\ -(2 ^ 62)<=j/\j<2 ^ 62/\R (yz 0 j.toNat) H1
def GR(ta:TA):TI:=λσ H R=>ta σ H λvs H1=>∃i j:Int,vs=[.int i,.int j]/\(-(2 ^ 62)<=i/\i<2 ^ 62 /\ -(2 ^ 62)<=j/\j<2 ^ 62)/\R (yz i (j-i).toNat) H1
theorem ZY{a:Expr}{ta:TA}{p pos:Pos}(hg:Gl X "range")(hm:X.mg "range"=none)(ha:PA X [a] ta)(hs:starEach [a] X.env=[(false,eval a X.env)]:=by rfl):PI X tg (.Call (.Name "range" p) [a] [] pos) (GS ta):=by
 intro pins s σ H R I h;refine Call_ (sf I hg hm boot_range (a5z (nT (ha pos pins s σ H _ I h) λus s1 vs H1 I1 r1 q1=>?_) hs rfl));obtain⟨j,e,q1,q2,q⟩:=q1;subst e;cases r1 with
 |cons r rr=>
  cases rr;obtain⟨t,rfl⟩:=r;exact call_range_1 (SM I1 (by lia) (by lia) q1 q2 (by simpa using q))
theorem Zhb{a b:Expr}{ta:TA}{p pos:Pos}(hg:Gl X "range")(hm:X.mg "range"=none)(ha:PA X [a,b] ta)(hs:starEach [a,b] X.env=[(false,eval a X.env),(false,eval b X.env)]:=by rfl)(hs2:starEach [b] X.env=[(false,eval b X.env)]:=by rfl) :
  PI X tg (.Call (.Name "range" p) [a,b] [] pos) (GR ta):=by
 intro pins s σ H R I h;refine Call_ (sf I hg hm boot_range (a5z (nT (ha pos pins s σ H _ I h) λus s1 vs H1 I1 r1 q1=>?_) (by rw[hs,hs2]) (by rw[hs2];rfl)));obtain⟨i,j,e,⟨q1,q2,q3,q4⟩,q⟩:=q1;subst e;cases r1 with
 |cons r rr=>
  cases rr with
  |cons r' rr=>
   cases rr;obtain⟨t,rfl⟩:=r;obtain⟨t',rfl⟩:=r';exact call_range_2 (SM I1 q1 q2 q3 q4 q)
def Lg(wi:TI)(g:TG)(tb:TS):TS:=λD σ H=>wi σ H λJ H1=>∃W:Nat->Nat->St->Hp->Prop,(∃m,W 0 m σ H1)/\∀i m σ H,W i m σ H ->
 (J.stop i H/\D.nx σ H)\/(J.go i H/\∃N:St->Hp->Prop,(∀ σ' H',N σ' H'->∃m',m'<m/\W (i+1) m' σ' H')/\∀x H',J.rL i H x H'->g x σ H' λσ2 H2=>tb { D with nx:=N,ct:=N,bk:=D.nx } σ2 H2)
def HV(fp:List Addr)(h:Heap):List (Addr×Obj):=fp.filterMap λb=>(h.get? b).map λo=>(b,o)
theorem K1{fp:List Addr}{h:Heap}{b:Addr}{o:Obj}(hb:b∈fp)(e:h.get? b=some o):(b,o)∈HV fp h:=List.mem_filterMap.mpr ⟨b,hb,by rw[e];rfl⟩
theorem Zhc{fp:List Addr}{h:Heap}{p:Addr×Obj}(hp:p∈HV fp h):p.1∈fp/\h.get? p.1=some p.2:=by
 obtain⟨b,hb,e⟩:=List.mem_filterMap.mp hp;cases q:h.get? b with
 |none=>rw[q]at e;cases e
 |some o=>
  rw[q]at e;have e':(b,o)=p:=aDb e;subst e';exact⟨hb,q⟩
theorem Inv.pinned{pins:List (Addr×Obj)}{σ:St}{H:Hp}{s:Shared}{fp:List Addr}(I:Inv X pins σ H s)(hf:∀b∈fp,jV X pins H b)(ho:∀b∈fp,∃o,s.heap.get? b=some o/\∀v,o.data≠.cell v):Inv X (pins++HV fp s.heap) σ H s:=
 I.ua λp hp=>(aUH.mp hp).elim (λz=>I.pin p (aEt _ z)) λz=>by
  obtain⟨hb,e⟩:=Zhc z;obtain⟨f0,f1,f2,_⟩:=hf p.1 hb;obtain⟨o,e',d⟩:=ho p.1 hb;rw[e]at e';cases e';exact⟨e,f0,f1,f2,d⟩
theorem Inv.gm{pins pl:List (Addr×Obj)}{σ:St}{H:Hp}{s:Shared}(I:Inv X (pins++pl) σ H s):Inv X pins σ H s:=I.ua λp hp=>I.pin p (aEt _ (aKU _ hp))
theorem uw{iter:Expr}{body:List Stmt}{wi:TI}{g:TG}{tb:TS}{pos:Pos}(hp:PassesOwn (model X.prog X.w) X.A X.env X.xe)(hc:X.calm=true)(hi:PI X tg iter wi)(hg:PG X tg g)(hb:uT X body tb)
  (hs:∀x,foldedSetIterable iter X.env x=pure x:=by intro _;rfl):PS X (.For tg iter body [] pos) (Lg wi g tb):=by
 intro pins s σ H D I h;refine wpAny_For (bS (hi pins s σ H _ I h) λv s1 h1=>bS h1 λitv s2 h2=>?_) hs;obtain⟨it,fp,tn,J,H2,e,I2,T,st2,f2,W,⟨m0,w0⟩,turn⟩:=h2;subst e;have rN:∀{H':Hp},(∀b∈fp,H' b=none)->∀b∈fp,jV X pins H' b:=λhn b hb=>⟨hn b hb,(f2 b hb).2⟩;refine codeAny_forLoop_any (λn s'=>∃i σ' H',Inv X pins σ' H' s'/\tn i s'.heap/\(∀b∈fp,H' b=none)/\W i n σ' H') ?_ m0 ⟨0,σ,H2,I2,st2,λb hb=>(f2 b hb).1,w0⟩;rintro n s3 ⟨i,σ3,H3,I3,st3,Eg,w3⟩;rcases turn i n σ3 H3 w3 with⟨stop,qn⟩|⟨go,N,hN,step⟩
 .refine aII hp (bS (T.done X rfl rfl rfl hc i pins s3 σ3 H3 X.xe I3 (rN Eg) st3 stop) λr s4 ⟨hr,I4⟩=>?_);subst hr;exact wpAny_execs_nil ⟨σ3,H3,I4,qn⟩
 .refine aII hp (bS (T.item X rfl rfl rfl hc i pins s3 σ3 H3 X.xe I3 (rN Eg) st3 go) λr s4 ⟨u,hr,h4⟩=>?_);subst hr;refine aII hp (bS h4 λ_ s5 ⟨x,H5,I5,r5,y5,yE,JZ⟩=>?_);have I5':=I5.pinned (rN JZ) (T.obj _ _ yE);refine aII hp (bS (hg _ s5 σ3 H5 x u _ I5' r5 (step x H5 y5)) λ_ s6 ⟨σ6,H6,I6,q6⟩=>?_);refine aII hp (bS (hb _ s6 σ6 H6 _ I6 q6) λf s7 q7=>?_);have again:∀{σ7:St}{H7:Hp},Inv X (pins++HV fp s5.heap) σ7 H7 s7->N σ7 H7->∃m,m<n/\∃i σ' H',Inv X pins σ' H' s7/\tn i s7.heap/\(∀b∈fp,H' b=none)/\W i m σ' H':=λ{σ7 H7} I7 n7=>by
   obtain⟨m',hm,w7⟩:=hN σ7 H7 n7;refine⟨m',hm,i+1,σ7,H7,I7.gm,T.keep _ _ _ yE λb hb o e=>(I7.pin (b,o) (aEt _ (aEt _ (K1 hb e)))).1,λb hb=>?_,w7⟩;obtain⟨o,e,d⟩:=T.obj _ _ yE b hb;exact(I7.pin (b,o) (aEt _ (aEt _ (K1 hb e)))).2.1
  cases f with
  |next=>obtain⟨σ7,H7,I7,n7⟩:=q7;exact again I7 n7
  |cont=>obtain⟨σ7,H7,I7,n7⟩:=q7;exact again I7 n7
  |brk=>obtain⟨σ7,H7,I7,q7⟩:=q7;exact⟨σ7,H7,I7.gm,q7⟩
  |ret v=>obtain⟨x7,σ7,H7,I7,r7,q7⟩:=q7;exact⟨x7,σ7,H7,I7.gm,r7,q7⟩
end
theorem SK{K:W.Frag}{a:Addr}{xs:List V}{g:TG}{tb:TS}{D:Ends}{σ:St}{H:Hp}(Pv:Nat->St->Hp->Prop)(h0:Pv 0 σ H)(hl:∀i σ H,i<=xs.length->Pv i σ H->aB K H a xs)
  (hs:∀i x σ H,xs[i]?=some x->Pv i σ H->g x σ H λσ2 H2=>tb { D with nx:=Pv (i+1),ct:=Pv (i+1),bk:=D.nx } σ2 H2) (hd:∀ σ H,Pv xs.length σ H->D.nx σ H) :
  ∃W:Nat->Nat->St->Hp->Prop,(∃m,W 0 m σ H)/\∀i m σ H,W i m σ H ->
   ((Bw K a).stop i H/\D.nx σ H)\/((Bw K a).go i H/\∃N:St->Hp->Prop,(∀ σ' H',N σ' H'->∃m',m'<m/\W (i+1) m' σ' H')/\∀x H',(Bw K a).rL i H x H'->g x σ H' λσ2 H2=>tb { D with nx:=N,ct:=N,bk:=D.nx } σ2 H2):=by
 refine⟨λi m σ H=>m=xs.length-i/\i<=xs.length/\Pv i σ H,⟨xs.length,by simp,abf _,h0⟩,?_⟩;rintro i m σ H ⟨rfl,hi,p⟩;have q:=hl i σ H hi p;by_cases hlt:i<xs.length
 .refine .inr ⟨⟨xs,xs[i],q,by simp[hlt]⟩,Pv (i+1),λσ' H' p'=>⟨xs.length-(i+1),by lia,rfl,hlt,p'⟩,λx H' y=>?_⟩;obtain⟨e,y⟩:=y;subst e;exact hs i x σ _ (y xs q) p
 .have e:i=xs.length:=by lia
  subst e;exact .inl ⟨⟨xs,q,apX _⟩,hd σ H p⟩
theorem EF{lo:Int}{n:Nat}{g:TG}{tb:TS}{D:Ends}{σ:St}{H:Hp}(Pv:Nat->St->Hp->Prop)(h0:Pv 0 σ H)
  (hs:∀i σ H,i<n->Pv i σ H->g (.int (lo+i)) σ H λσ2 H2=>tb { D with nx:=Pv (i+1),ct:=Pv (i+1),bk:=D.nx } σ2 H2) (hd:∀ σ H,Pv n σ H->D.nx σ H) :
  ∃W:Nat->Nat->St->Hp->Prop,(∃m,W 0 m σ H)/\∀i m σ H,W i m σ H ->
   ((yz lo n).stop i H/\D.nx σ H)\/((yz lo n).go i H/\∃N:St->Hp->Prop,(∀ σ' H',N σ' H'->∃m',m'<m/\W (i+1) m' σ' H')/\∀x H',(yz lo n).rL i H x H'->g x σ H' λσ2 H2=>tb { D with nx:=N,ct:=N,bk:=D.nx } σ2 H2):=by
 refine⟨λi m σ H=>m=n-i/\i<=n/\Pv i σ H,⟨n,by simp,abf _,h0⟩,?_⟩;rintro i m σ H ⟨rfl,hi,p⟩;by_cases hlt:i<n
 .refine .inr ⟨hlt,Pv (i+1),λσ' H' p'=>⟨n-(i+1),by lia,rfl,hlt,p'⟩,λx H' y=>?_⟩;obtain⟨e,y⟩:=y;subst e y;exact hs i σ _ hlt p
 .have e:i=n:=by lia
  subst e;exact .inl ⟨apX _,hd σ H p⟩
abbrev R2:=V->V->Hp->VK->Prop
def lQ(X:Cx)(f:Value->Value->Sem Value)(r:R2):Prop:=
 ∀(pins:List (Addr×Obj))(s:Shared)(σ:St)(H:Hp)(x y:V)(v u:Value)(Q:VK),Inv X pins σ H s->RelV x v->RelV y u->r x y H Q ->
  wpAny (model X.prog X.w) X.A (f v u) (EP X pins σ Q) X.xe s
def Oo(X:Cx)(f:Value->Sem Value)(r:V->Hp->VK->Prop):Prop:=
 ∀(pins:List (Addr×Obj))(s:Shared)(σ:St)(H:Hp)(x:V)(v:Value)(Q:VK),Inv X pins σ H s->RelV x v->r x H Q ->
  wpAny (model X.prog X.w) X.A (f v) (EP X pins σ Q) X.xe s
def bA(X:Cx)(f:Value)(r:List V->Hp->VK->Prop):Prop:=
 ∀(pins:List (Addr×Obj))(s:Shared)(σ:St)(H:Hp)(xs:List V)(us:List Value)(Q:VK),Inv X pins σ H s->Vals xs us->r xs H Q ->
  wpAny (model X.prog X.w) X.A (call f us) (EP X pins σ Q) X.xe s
def Jk(r:R2)(ta tb:TE):TE:=λσ H Q=>ta σ H λx H1=>tb σ H1 λy H2=>r x y H2 Q
def VW(r:V->Hp->VK->Prop)(ta:TE):TE:=λσ H Q=>ta σ H λx H1=>r x H1 Q
inductive rI(C:Int->Int->Prop) (g:Int->Int->V)(x:V)(y:V)(H:Hp)(Q:VK):Prop
 |mk (i j:_):x=.int i->y=.int j->C i j->Q (g i j) H->rI C g x y H Q
inductive yP(g:Int->Int->V)(x:V)(y:V)(H:Hp)(Q:VK):Prop
 |mk (i j:_):x=.int i->y=.int j->Q (g i j) H->yP g x y H Q
inductive rU(g:Int->V)(x:V)(H:Hp)(Q:VK):Prop
 |mk (i:_):x=.int i->Q (g i) H->rU g x H Q
section
variable{X:Cx}{a b c:Expr}{ta tb tc:TE}{pos:Pos}
theorem CT(ha:PE X a ta)(hb:PE X b tb){pins:List (Addr×Obj)}{s:Shared}{σ:St}{H:Hp}{R:V->V->Hp->Prop}(I:Inv X pins σ H s)
  (h:ta σ H λx H1=>tb σ H1 λy H2=>R x y H2) {Q:Value->Shared->Prop} {f:Value->Value->Sem Value}
  (hf:∀v u s2 x y H2,Inv X pins σ H2 s2->RelV x v->RelV y u->R x y H2->wpAny (model X.prog X.w) X.A (f v u) Q X.xe s2) :
  wpAny (model X.prog X.w) X.A (eval a X.env) (λv s₁=>wpAny (model X.prog X.w) X.A (eval b X.env) (λu s₂=>wpAny (model X.prog X.w) X.A (f v u) Q X.xe s₂) X.xe s₁) X.xe s:=by
 refine eL (ha pins s σ H _ I h) λv s1 x H1 I1 r1 q1=>?_;refine eL (hb pins s1 σ H1 _ I1 q1) λu s2 y H2 I2 r2 q2=>?_;exact hf v u s2 x y H2 I2 r1 r2 q2
theorem aj{op:Operator}{r:R2}(ho:lQ X (binaryOp op) r)(ha:PE X a ta)(hb:PE X b tb):PE X (.BinOp a op b pos) (Jk r ta tb):=by
 intro pins s σ H Q I h;exact wpAny_BinOp (CT ha hb I h λv u s2 x y H2 I2 rx ry q=>ho pins s2 σ H2 x y v u Q I2 rx ry q)
theorem nF{op:UnaryOp}{r:V->Hp->VK->Prop}(ho:Oo X (unaryOp op) r)(ha:PE X a ta):PE X (.UnaryOp op a pos) (VW r ta):=by
 intro pins s σ H Q I h;exact UnaryOp_ (eL (ha pins s σ H _ I h) λv s1 x H1 I1 r1 q1=>ho pins s1 σ H1 x v Q I1 r1 q1)
theorem Jy{f:Value->Value->Sem Value}{C:Int->Int->Prop}{g:Int->Int->Int}
  (rule:∀(i j:Int)(t u:Tok)(s:Shared)(Q:Value->Shared->Prop)(E:Value->Shared->Prop),C i j->Q (.int (g i j) s.toks) { s with toks:=s.toks+1 }->wpAny (model X.prog X.w) X.A (f (.int i t) (.int j u)) Q E s) :
  lQ X f (rI C λi j=>.int (g i j)):=by
 intro pins s σ H x y v u Q I rx ry h;obtain⟨i,j,rfl,rfl,hc,q⟩:=h;obtain⟨t,rfl⟩:=rx;obtain⟨t',rfl⟩:=ry;exact rule i j t t' s _ _ hc ⟨.int (g i j),H,I.tok _,⟨_,rfl⟩,q⟩
theorem F7{f:Value->Value->Sem Value}{g:Int->Int->Int}
  (rule:∀(i j:Int)(t u:Tok)(s:Shared)(Q:Value->Shared->Prop)(E:Value->Shared->Prop),Q (.int (g i j) s.toks) { s with toks:=s.toks+1 }->wpAny (model X.prog X.w) X.A (f (.int i t) (.int j u)) Q E s) :
  lQ X f (yP λi j=>.int (g i j)):=by
 intro pins s σ H x y v u Q I rx ry h;obtain⟨i,j,rfl,rfl,q⟩:=h;obtain⟨t,rfl⟩:=rx;obtain⟨t',rfl⟩:=ry;exact rule i j t t' s _ _ ⟨.int (g i j),H,I.tok _,⟨_,rfl⟩,q⟩
theorem yV{f:Value->Value->Sem Value}{g:Int->Int->Bool}
  (rule:∀(i j:Int)(t u:Tok)(s:Shared)(Q:Value->Shared->Prop)(E:Value->Shared->Prop),Q (.bool (g i j)) s->wpAny (model X.prog X.w) X.A (f (.int i t) (.int j u)) Q E s) :
  lQ X f (yP λi j=>.bl (g i j)):=by
 intro pins s σ H x y v u Q I rx ry h;obtain⟨i,j,rfl,rfl,q⟩:=h;obtain⟨t,rfl⟩:=rx;obtain⟨t',rfl⟩:=ry;exact rule i j t t' s _ _ ⟨.bl (g i j),H,I,rfl,q⟩
def IW(i j:Int):Prop:=0<j/\j<1073741824
def OH(i j:Int):Prop:=0<=j/\j<=1000000/\i.natAbs<2 ^ 64
def DE(i j:Int):Prop:=(-(2 ^ 64)<i/\i<2 ^ 64)\/(-(2 ^ 64)<j/\j<2 ^ 64)
theorem DE.ok{i j:Int}(h:DE i j):IntMulOk i j:=by
 rcases h with⟨h1,h2⟩|⟨h1,h2⟩
 .exact .of_left (intBits_le_64 h1 h2)
 .exact .of_right (intBits_le_64 h1 h2)
theorem ZC:lQ X (binaryOp .Add) (yP λi j=>.int (i+j)):=F7 λ_ _ _ _ _ _ _ q=>add_int q
theorem Bj:lQ X (binaryOp .Sub) (yP λi j=>.int (i-j)):=F7 λ_ _ _ _ _ _ _ q=>sub_int q
theorem uR:lQ X (binaryOp .Mult) (rI DE λi j=>.int (i*j)):=Jy λ_ _ _ _ _ _ _ hc q=>mul_int q hc.ok
theorem Et:lQ X (binaryOp .FloorDiv) (rI IW λi j=>.int (i/j)):=Jy λi j _ _ _ _ _ hc q=>by
 have h1:(0:Int)<j:=hc.1;have h2:j<1073741824:=hc.2;exact floordiv_int (by lia) (by rw[Int.fdiv_eq_ediv_of_nonneg i (by lia)];exact q) (.inl (ad0 (by lia)))
theorem uv:lQ X (binaryOp .Mod) (rI (λ_ j=>0<j) λi j=>.int (i%j)):=Jy λi j _ _ _ _ _ hc q=>by
 have h1:(0:Int)<j:=hc;exact mod_int' (by lia) (by rw[Int.fmod_eq_emod_of_nonneg i (by lia)];exact q)
theorem Nl:lQ X (binaryOp .Pow) (rI OH λi j=>.int (i ^ j.toNat)):=Jy λ_ _ _ _ _ _ _ hc q=>pow_int_small hc.1 hc.2.1 hc.2.2 q
theorem VS{f:Value->Sem Value}{g:Int->Int}
  (rule:∀(i:Int)(t:Tok)(s:Shared)(Q:Value->Shared->Prop)(E:Value->Shared->Prop),Q (.int (g i) s.toks) { s with toks:=s.toks+1 }->wpAny (model X.prog X.w) X.A (f (.int i t)) Q E s) :
  Oo X f (rU λi=>.int (g i)):=by
 intro pins s σ H x v Q I rx h;obtain⟨i,rfl,q⟩:=h;obtain⟨t,rfl⟩:=rx;exact rule i t s _ _ ⟨.int (g i),H,I.tok _,⟨_,rfl⟩,q⟩
theorem Ep:Oo X (unaryOp .USub) (rU λi=>.int (-i)):=VS λ_ _ _ _ _ q=>neg_int q
end
def FF:V->V->Bool
 | .aQ,.aQ=>true| .aQ,.int _=>true| .int _,.aQ=>true| .aQ,.bl _=>true| .bl _,.aQ=>true| .aQ,.str _=>true| .str _,.aQ=>true
 | .int _,.int _=>true| .bl _,.bl _=>true| .str _,.str _=>true| .uO _,.uO _=>true
 | .int _,.str _=>true| .str _,.int _=>true| .bl _,.str _=>true| .str _,.bl _=>true
 |_,_=>false
def We:R2:=λx y H Q=>FF x y=true/\Q (.bl (decide (x=y))) H
def Wd:R2:=λx y H Q=>FF x y=true/\Q (.bl (!decide (x=y))) H
theorem RP{i j:Int}:decide (V.int i=V.int j)=(i ==j):=by
 rw[avY];simp
theorem Rl{i j:Bool}:decide (V.bl i=V.bl j)=(i ==j):=by
 rw[avY];simp
theorem RO{i j:Str}:decide (V.str i=V.str j)=(i ==j):=by
 rw[avY];simp
theorem RN{i j:Array UInt8}:decide (V.uO i=V.uO j)=(i.toList ==j.toList):=by
 rw[avY];cases i;cases j;simp
section
variable{X:Cx}{a b c:Expr}{ta tb tc:TE}{pos:Pos}
theorem Zy{pins:List (Addr×Obj)}{σ:St}{H:Hp}{s:Shared}{Q:VK}{k k':Bool}(I:Inv X pins σ H s)(q:Q (.bl k) H)(e:k=k'):EP X pins σ Q (.bool k') s:=by
 subst e;exact⟨.bl k,H,I,rfl,q⟩
theorem aY:lQ X (compareOp .Eq) We:=by
 intro pins s σ H x y v u Q I rx ry h;obtain⟨hs,q⟩:=h;cases x with
 |aQ=>
  cases rx;cases y with
  |aQ=>cases ry;exact PySem.EqNone.eq_none_none (Zy I q (by simp))
  |bl j=>cases ry;exact PySem.EqNone.eq_none_bool (Zy I q (by simp))
  |int j=>obtain⟨t',rfl⟩:=ry;exact PySem.EqNone.eq_none_int (Zy I q (by simp))
  |str j=>obtain⟨t',rfl⟩:=ry;exact PySem.EqNone.eq_none_str (Zy I q (by simp))
  |_=>exact absurd (show false=true from hs) aPf
 |bl i=>
  cases rx;cases y with
  |aQ=>cases ry;exact PySem.EqNone.eq_bool_none (Zy I q (by simp))
  |bl j=>cases ry;exact eq_bool (Zy I q Rl)
  |str j=>obtain⟨t',rfl⟩:=ry;exact PySem.EqMixed.eq_bool_str (Zy I q (by simp))
  |_=>exact absurd (show false=true from hs) aPf
 |int i=>
  obtain⟨t,rfl⟩:=rx;cases y with
  |aQ=>cases ry;exact PySem.EqNone.eq_int_none (Zy I q (by simp))
  |int j=>obtain⟨t',rfl⟩:=ry;exact eq_int (Zy I q RP)
  |str j=>obtain⟨t',rfl⟩:=ry;exact PySem.EqMixed.eq_int_str (Zy I q (by simp))
  |_=>exact absurd (show false=true from hs) aPf
 |str i=>
  obtain⟨t,rfl⟩:=rx;cases y with
  |aQ=>cases ry;exact PySem.EqNone.eq_str_none (Zy I q (by simp))
  |bl j=>cases ry;exact PySem.EqMixed.eq_str_bool (Zy I q (by simp))
  |int j=>obtain⟨t',rfl⟩:=ry;exact PySem.EqMixed.eq_str_int (Zy I q (by simp))
  |str j=>obtain⟨t',rfl⟩:=ry;exact eq_str (Zy I q RO)
  |_=>exact absurd (show false=true from hs) aPf
 |uO i=>
  obtain⟨t,rfl⟩:=rx;cases y with
  |uO j=>obtain⟨t',rfl⟩:=ry;exact W.eq_bytes (Zy I q RN)
  |_=>exact absurd (show false=true from hs) aPf
 |_=>cases y <;> exact absurd (show false=true from hs) aPf
theorem AN:lQ X (compareOp .NotEq) Wd:=by
 intro pins s σ H x y v u Q I rx ry h;obtain⟨hs,q⟩:=h;cases x with
 |aQ=>
  cases rx;cases y with
  |aQ=>cases ry;exact PySem.EqNone.ne_none_none (Zy I q (by simp))
  |bl j=>cases ry;exact PySem.EqNone.ne_none_bool (Zy I q (by simp))
  |int j=>obtain⟨t',rfl⟩:=ry;exact PySem.EqNone.ne_none_int (Zy I q (by simp))
  |str j=>obtain⟨t',rfl⟩:=ry;exact PySem.EqNone.ne_none_str (Zy I q (by simp))
  |_=>exact absurd (show false=true from hs) aPf
 |bl i=>
  cases rx;cases y with
  |aQ=>cases ry;exact PySem.EqNone.ne_bool_none (Zy I q (by simp))
  |bl j=>cases ry;exact ne_bool (Zy I q (aSc not Rl))
  |str j=>obtain⟨t',rfl⟩:=ry;exact PySem.EqMixed.ne_bool_str (Zy I q (by simp))
  |_=>exact absurd (show false=true from hs) aPf
 |int i=>
  obtain⟨t,rfl⟩:=rx;cases y with
  |aQ=>cases ry;exact PySem.EqNone.ne_int_none (Zy I q (by simp))
  |int j=>obtain⟨t',rfl⟩:=ry;exact ne_int (Zy I q (aSc not RP))
  |str j=>obtain⟨t',rfl⟩:=ry;exact PySem.EqMixed.ne_int_str (Zy I q (by simp))
  |_=>exact absurd (show false=true from hs) aPf
 |str i=>
  obtain⟨t,rfl⟩:=rx;cases y with
  |aQ=>cases ry;exact PySem.EqNone.ne_str_none (Zy I q (by simp))
  |bl j=>cases ry;exact PySem.EqMixed.ne_str_bool (Zy I q (by simp))
  |int j=>obtain⟨t',rfl⟩:=ry;exact PySem.EqMixed.ne_str_int (Zy I q (by simp))
  |str j=>obtain⟨t',rfl⟩:=ry;exact ne_str (Zy I q (aSc not RO))
  |_=>exact absurd (show false=true from hs) aPf
 |uO i=>
  obtain⟨t,rfl⟩:=rx;cases y with
  |uO j=>obtain⟨t',rfl⟩:=ry;exact W.ne_bytes (Zy I q (aSc not RN))
  |_=>exact absurd (show false=true from hs) aPf
 |_=>cases y <;> exact absurd (show false=true from hs) aPf
theorem kM:lQ X (compareOp .Lt) (yP λi j=>.bl (decide (i<j))):=yV λ_ _ _ _ _ _ _ q=>lt_int q
theorem AO:lQ X (compareOp .LtE) (yP λi j=>.bl (decide (i<=j))):=yV λ_ _ _ _ _ _ _ q=>le_int q
theorem F5:lQ X (compareOp .Gt) (yP λi j=>.bl (decide (j<i))):=yV λ_ _ _ _ _ _ _ q=>gt_int q
theorem F6:lQ X (compareOp .GtE) (yP λi j=>.bl (decide (j<=i))):=yV λ_ _ _ _ _ _ _ q=>ge_int q
theorem Zu(b:Expr){op:CmpOp}(h:op≠.In:=by decide)(h2:op≠.NotIn:=by decide):behindInMarks op b=false:=by
 have e1:(op ==CmpOp.In)=false:=by cases op <;> first|rfl|exact absurd rfl h
 have e2:(op ==CmpOp.NotIn)=false:=by cases op <;> first|rfl|exact absurd rfl h2
 cases b <;> simp[behindInMarks,e1,e2]
theorem xQ{op:CmpOp}{r:R2}(ho:lQ X (compareOp op) r)(ha:PE X a ta)(hb:PE X b tb)(hm:behindInMarks op b=false):PE X (.Compare a [op] [b] pos) (Jk r ta tb):=by
 intro pins s σ H Q I h;exact wpAny_Compare1 (CT ha hb I h λv u s2 x y H2 I2 rx ry q=>ho pins s2 σ H2 x y v u Q I2 rx ry q) hm
def Al(t:TE):TT:=λσ H Q=>t σ H λx H'=>∃k,x=.bl k/\Q k H'
theorem Zv{op:CmpOp}{r:R2}(ho:lQ X (compareOp op) r)(ha:PE X a ta)(hb:PE X b tb)(hm:behindInMarks op b=false):PT X (.Compare a [op] [b] pos) (Al (Jk r ta tb)):=by
 intro pins s σ H Q I h;refine wpAny_isTrue_Compare1 (eL (ha pins s σ H _ I h) λv s1 x H1 I1 r1 q1=>eL (hb pins s1 σ H1 _ I1 q1) λu s2 y H2 I2 r2 q2=>
  bS (ho pins s2 σ H2 x y v u _ I2 r1 r2 q2) λc s3 ⟨z,H3,I3,r3,k,e,q3⟩=>?_) hm
 subst e;cases r3;exact a3s ⟨H3,I3,q3⟩
def Z9(r r':R2)(ta tb tc:TE):TE:=λσ H Q=>ta σ H λx H1=>tb σ H1 λy H2=>r x y H2 λz H3=>∃k,z=.bl k /\
 (if k=true then tc σ H3 λw' H4=>r' y w' H4 Q else Q (.bl false) H3)
theorem SJ{op op':CmpOp}{r r':R2}(ho:lQ X (compareOp op) r)(ho':lQ X (compareOp op') r')(ha:PE X a ta)(hb:PE X b tb)(hc:PE X c tc)
  (hm:lastMarks [op,op'] [b,c]=false:=by with_unfolding_all rfl):PT X (.Compare a [op,op'] [b,c] pos) (Al (Z9 r r' ta tb tc)):=by
 intro pins s σ H Q I h;refine isTrue_chain (eL (ha pins s σ H _ I h) λv s1 x H1 I1 r1 q1=>test_link (eL (hb pins s1 σ H1 _ I1 q1) λu s2 y H2 I2 r2 q2=>
  bS (ho pins s2 σ H2 x y v u _ I2 r1 r2 q2) λd s3 ⟨z,H3,I3,r3,k,e,q3⟩=>?_)) hm
 subst e;cases r3;refine a3s ?_;cases k with
 |false=>
  obtain⟨k',e',q'⟩:=q3;cases e';exact ite_ff ⟨H3,I3,q'⟩
 |true=>
  refine ite_tt (test_last (eL (hc pins s3 σ H3 _ I3 q3) λw' s4 z' H4 I4 r4 q4=>bS (ho' pins s4 σ H4 y z' u w' _ I4 r2 r4 q4) λd' s5 ⟨z2,H5,I5,r5,k2,e2,q5⟩=>?_));subst e2;cases r5;exact a3s ⟨H5,I5,q5⟩
theorem Kd:(sizeLine:Nat)<2 ^ 63:=by rw[aXy];decide
theorem vals1{x:V}{us:List Value}(r:Vals [x] us):∃u,us=[u]/\RelV x u:=by
 cases r with
 |cons r1 r2=>cases r2;exact⟨_,rfl,r1⟩
theorem vals2{x y:V}{us:List Value}(r:Vals [x,y] us):∃u w',us=[u,w']/\RelV x u/\RelV y w':=by
 cases r with
 |cons r1 r2=>
  cases r2 with
  |cons r3 r4=>cases r4;exact⟨_,_,rfl,r1,r3⟩
theorem SI:bA X (.builtin "abs") (λxs H Q=>∃i,xs=[.int i]/\Q (.int (if i<0 then -i else i)) H):=by
 intro pins s σ H xs us Q I r h;obtain⟨i,rfl,q⟩:=h;obtain⟨u,rfl,t,rfl⟩:=vals1 r;exact call_abs_int λu tk=>⟨.int (if i<0 then -i else i),H,I.tok _,⟨_,rfl⟩,q⟩
theorem T6(hc:X.calm=true):bA X (.builtin "max") (λxs H Q=>∃i j,xs=[.int i,.int j]/\Q (.int (if j>i then j else i)) H):=by
 intro pins s σ H xs us Q I r h;obtain⟨i,j,rfl,q⟩:=h;obtain⟨u,w',rfl,⟨t,rfl⟩,⟨t',rfl⟩⟩:=vals2 r;refine max_two_ints (I.ok.hd hc) λh' tk k=>⟨_,H,I.kept k,?_,q⟩;by_cases hj:j>i
 .rw [aYH hj,aYH hj];exact⟨_,rfl⟩
 .rw [aoK hj,aoK hj];exact⟨_,rfl⟩
theorem Zhh(hc:X.calm=true):bA X (.builtin "min") (λxs H Q=>∃i j,xs=[.int i,.int j]/\Q (.int (if j<i then j else i)) H):=by
 intro pins s σ H xs us Q I r h;obtain⟨i,j,rfl,q⟩:=h;obtain⟨u,w',rfl,⟨t,rfl⟩,⟨t',rfl⟩⟩:=vals2 r;refine min_two_ints (I.ok.hd hc) λh' tk k=>⟨_,H,I.kept k,?_,q⟩;by_cases hj:j<i
 .rw [aYH hj,aYH hj];exact⟨_,rfl⟩
 .rw [aoK hj,aoK hj];exact⟨_,rfl⟩
theorem Oi:bA X (.type "int") (λxs H Q=>(∃i,xs=[.int i]/\Q (.int i) H)\/∃k,xs=[.bl k]/\Q (.int (if k then 1 else 0)) H):=by
 intro pins s σ H xs us Q I r h;rcases h with⟨i,rfl,q⟩|⟨k,rfl,q⟩
 .obtain ⟨u,rfl,t,rfl⟩:=vals1 r;exact call_int_int ⟨.int i,H,I,⟨_,rfl⟩,q⟩
 .obtain ⟨u,rfl,r1⟩:=vals1 r;cases r1;exact call_int_bool ⟨.int (if k then 1 else 0),H,I.tok _,⟨_,rfl⟩,q⟩
theorem ZeF:bA X (.builtin "divmod") (λxs H Q=>∃i j,xs=[.int i,.int j]/\IW i j/\∀p,H p=none->Q (.ref p) (upd H p (.tup [.int (i/j),.int (i%j)]))):=by
 intro pins s σ H xs us Q I r h;obtain⟨i,j,rfl,⟨h1,h2⟩,q⟩:=h;obtain⟨u,w',rfl,⟨t,rfl⟩,⟨t',rfl⟩⟩:=vals2 r;refine divmod_int (by lia) ?_ (.inl (ad0 (by lia)));rw[Int.fdiv_eq_ediv_of_nonneg i (by lia),Int.fmod_eq_emod_of_nonneg i (by lia)];have hn:H s.heap.objs.size=none:=I.hok.fresh (apX _);refine⟨.ref s.heap.objs.size,_,?_,rfl,q _ hn⟩;refine I.laid (λb o e=>a8G _ e) (apX _) ⟨by simp only[aXW,length_nil];rw[aXy];decide,[.int (i/j) s.toks,.int (i%j) (s.toks+1)],.cons ⟨_,rfl⟩ (.cons ⟨_,rfl⟩ .nil),?_⟩;exact⟨_,aIn s.heap rfl,rfl,0,rfl⟩
end
structure sE(h:Heap)(x dx C:Addr)(mA:Str->Option Value):Prop where
 obj:h.get? x=some (W.instObj C dx)
 ns:h.Ns1 dx mA
 ne:dx≠x
theorem Zhi{h:Heap}{dx:Addr}{mA:Str->Option Value}(n:h.Ns1 dx mA):∃od,h.get? dx=some od/\∀name,W.lookIn name od=some (mA name):=by
 obtain⟨o,es,ep,ho,hd,hk,_,hm⟩:=n;refine⟨o,ho,λname=>?_⟩;have e:=hm name;unfold nsFind findBy at e;rw[<-Array.find?_toList]at e;unfold W.lookIn;rw[hd];dsimp only;split
 .rename_i y q;rw[q]at e;exact aSc some e
 .rename_i q;rw[q]at e;have a:es.toList.any (·.refKey)=false:=by
   rw[List.any_eq_false];intro y hy;obtain⟨z,t,hkey⟩:=hk y (Array.mem_toList_iff.mp hy);simp[DictEntry.refKey,hkey]
  have a':¬es.toList.any (·.refKey)=true:=by rw[a];exact aPf
  rw[aoK a'];exact aSc some e
theorem sE.look{h:Heap}{x dx C:Addr}{mA:Str->Option Value}(I:sE h x dx C mA):∃od,W.InstAt h x (W.instObj C dx) C (some od)/\∀name,W.lookIn name od=some (mA name):=
 let⟨od,ho,hl⟩:=Zhi I.ns
 ⟨od,⟨I.obj,rfl,rfl,ho⟩,hl⟩
section
variable{prog:Program}{w:World}{A:Around}{E:Value->Shared->Prop}{s:Shared}{K:W.Frag}{x dx C f:Addr}{mA:Str->Option Value}{name:Str}{v:Value}
theorem Zkd{expr:Bool}{Q:Value->Shared->Prop}(X:K.In s.heap)(I:sE s.heap x dx C mA)(hg:W.plainGet K C name=true)(hh:W.hasDictIn K C=true)
  (ha:W.findIn K (.ref C) name=some none) (hv:mA name=some v) (hv':W.handedIn v=true) (h:Q v { s with toks:=s.toks+1 }) :
  wpAny (model prog w) A (getAttr (.ref x) name expr) Q E s:=by
 obtain⟨od,J,hl⟩:=I.look;exact W.get_value X J (W.plainGet_of hg).1 (W.findObj_own hh ha rfl (by rw[hl,hv])) hv' h
theorem ZiK{pl:Sem Bool}{Q:Value×List Value->Shared->Prop}(X:K.In s.heap)(I:sE s.heap x dx C mA)(hg:W.plainGet K C name=true)
  (hf:W.findIn K (.ref C) name=some (some (.ref f))) (ht:W.isFn K (.ref f)=true) (hv:mA name=none) (h:Q (.ref f,[.ref x]) s) :
  wpAny (model prog w) A (getMethod (.ref x) name pl) Q E s:=by
 obtain⟨od,J,hl⟩:=I.look;exact W.method_fn X J (W.plainGet_of hg).1 (W.plainGet_of hg).2 hf (aqt.mp ht) (by show(W.lookIn name od).map (·.isSome)=some false;rw[hl,hv];rfl) h
theorem Zke{ns:List Str}{Q:Unit->Shared->Prop}(X:K.In s.heap)(I:sE s.heap x dx C mA)
  (hs:W.findIn K (.ref C) "__setattr__"=some (some (.builtin "object.__setattr__"))) (hp:W.plainOver K C=true) (ht:W.takerIn K C name=some none) (hh:W.hasDictIn K C=true)
  (hw:PySem.Within mA ns) (hsz:ns.length<=sizeLine)
  (h:∀h',sE h' x dx C (λy=>if y=name then some v else mA y)->Heap.SameBut dx s.heap h'->Q () { s with heap:=h',toks:=s.toks+2 }) :
  wpAny (model prog w) A (setAttr (.ref x) name v) Q E s:=by
 obtain⟨od,J,hl⟩:=I.look;refine W.set_plain X J hs (W.osa_open (s:={ s with toks:=s.toks+1 }) (r:=none) X J hp ht λb=>?_);obtain⟨cd,hc,hd'⟩:=W.any_some hh;have hx:s.heap.get? x=some ⟨.ref C,some dx,.plain,#[]⟩:=I.obj;refine agE (anq (agE (agE (wpAny_loadPart hx (agE (W.Looks.here (s:={ s with toks:=s.toks+1 }) (W.looks_clsIn X hc) ?_))))));rw[hd'];refine anq (a:=some dx) (agE (anq (agE ?_)));refine wpAny_nsSet1 (s:={ s with toks:=s.toks+1 }) I.ns λh' hn2 hs2=>?_;obtain⟨oD,esD,epD,XG,XW,XY⟩:=hn2.count (PySem.Within.cons name v hw);refine agE (wpAny_lookBehind XG (by rw[XW];exact pastItsLine_dict (alM XY (by rw[aXW];lia))) ?_);exact anq (h _ ⟨(hs2.2 _ (avX I.ne)).trans I.obj,hn2,I.ne⟩ hs2)
theorem ZiL{R:Result->Shared->Prop}{vs:List Value}{kw:List (Str×Value)}(X:K.In s.heap)(hm:W.makesIn K C=true)
  (hi:W.findIn K (.ref C) "__init__"=some (some (.ref f))) (hf:W.typeIn K (.ref f)=some (.type "function"))
  (h:codeAny (model prog w) (A.under (.builtin "type.__call__" ⟨.ref C ::vs,kw⟩)) (.call (.ref f) ⟨.ref (s.heap.objs.size+1) ::vs,kw⟩) (W.InitBack (s.heap.objs.size+1) R)
   { s with heap:=(s.heap.push W.emptyDict).push (W.instObj C s.heap.objs.size) }) :
  codeAny (model prog w) A (.call (.ref C) ⟨vs,kw⟩) R s:=by
 obtain⟨hh,g,d,t,os⟩:=s;exact W.make_core (W.makes_of X hm) (W.looks_findIn X hi) (λself=>W.bind_fn X self hf) (.inl rfl) h
end
def ah(f:Str)(v:V):List (Str×V)->List (Str×V)
 | []=>[(f,v)]
 |(g,x) ::r=>if g=f then(g,v) ::r else(g,x) ::ah f v r
theorem Zf(f g:Str)(v:V):∀fs:List (Str×V),(ah f v fs).lookup g=if g=f then some v else fs.lookup g
 | []=>by
  show List.lookup g [(f,v)]=_;by_cases h:g=f
  .have hb:(g ==f)=true:=aqt.mpr h;simp only[List.lookup,hb,aYH h]
  .have hb:(g ==f)=false:=aik.mpr h;simp only[List.lookup,hb,aoK h]
 |(k,x) ::r=>by
  have ih:=Zf f g v r;rw[show ah f v ((k,x) ::r)=(if k=f then(k,v) ::r else(k,x) ::ah f v r) from rfl];by_cases hk:k=f
  .rw [aYH hk];by_cases h:g=k
   .have hb:(g ==k)=true:=aqt.mpr h;simp only[List.lookup,hb,aYH (h.trans hk)]
   .have hb:(g ==k)=false:=aik.mpr h;simp only[List.lookup,hb,aoK (λe:g=f=>h (e.trans hk.symm))]
  .rw [aoK hk];by_cases h:g=k
   .have hb:(g ==k)=true:=aqt.mpr h;simp only[List.lookup,hb,aoK (λe:g=f=>hk (h.symm.trans e))]
   .have hb:(g ==k)=false:=aik.mpr h;simp only[List.lookup,hb];exact ih
theorem Oh(f:Str)(v:V):∀fs:List (Str×V),f∈(ah f v fs).map (·.1)/\∀g,g∈fs.map (·.1)->g∈(ah f v fs).map (·.1)
 | []=>⟨by simp[ah],λg h=>by simp at h⟩
 |(k,x) ::r=>by
  obtain⟨i1,i2⟩:=Oh f v r;rw[show ah f v ((k,x) ::r)=(if k=f then(k,v) ::r else(k,x) ::ah f v r) from rfl];by_cases hk:k=f
  .rw [aYH hk];subst hk;exact⟨by simp,λg h=>by simpa using h⟩
  .rw [aoK hk];refine⟨?_,λg h=>?_⟩
   .rw [aSM];exact aO5 _ i1
   .rw [aSM]at h ⊢;rcases aCP.mp h with e|e
    .exact aCP.mpr (.inl e)
    .exact aO5 _ (i2 g e)
theorem Ua(f:Str)(v:V):∀fs:List (Str×V),(ah f v fs).length<=fs.length+1
 | []=>by simp[ah]
 |(k,x) ::r=>by
  have ih:=Ua f v r;rw[show ah f v ((k,x) ::r)=(if k=f then(k,v) ::r else(k,x) ::ah f v r) from rfl];by_cases hk:k=f
  .rw [aYH hk,aXW,aXW];lia
  .rw [aoK hk,aXW,aXW];lia
theorem dz.some_of{v:V}{o:Option Value}(r:dz (some v) o):∃u,o=some u/\RelV v u:=by
 cases o with
 |none=>exact(show False from r).elim
 |some u=>exact⟨u,rfl,r⟩
theorem dz.none_of{o:Option Value}(r:dz none o):o=none:=by
 cases o with
 |none=>rfl
 |some u=>exact(show False from r).elim
theorem Zhj{v:V}{u:Value}(r:RelV v u):W.handedIn u=true:=by
 cases v with
 |aQ=>cases(show u=Value.none from r);rfl
 |bl b=>cases(show u=Value.bool b from r);rfl
 |int i=>obtain⟨t,e⟩:=(show ∃t,u=Value.int i t from r);cases e;rfl
 |str x=>obtain⟨t,e⟩:=(show ∃t,u=Value.str x t from r);cases e;rfl
 |uO b=>obtain⟨t,e⟩:=(show ∃t,u=Value.bytes b t from r);cases e;rfl
 |zB b=>obtain⟨t,e⟩:=(show ∃t,u=Value.float b t from r);cases e;rfl
 |ref a=>cases(show u=Value.ref a from r);rfl
 |ty n=>cases(show u=Value.type n from r);rfl
section
variable{P:Program}{w:World}{H H':Hp}{h h':Heap}{a C dx:Addr}{fs fs':List (Str×V)}
theorem Kw(hok:d9 P w H h)(e:H a=some (.ins C dx fs)):∃mA,sE h a dx C mA/\(∀f,dz (fs.lookup f) (mA f))/\PySem.Within mA (fs.map (·.1))/\fs.length<=1000/\H dx=some (.own a):=by
 obtain⟨d,z,ne,ob,mA,n,r,q⟩:=(show aF P w H h a (.ins C dx fs) from hok a _ e);exact⟨mA,⟨ob,n,ne⟩,r,q,z,d⟩
end
structure rJ(K:W.Frag)(C:Addr):Prop where
 pg:W.plainGet K C Str.empty=true
 hd:W.hasDictIn K C=true
 po:W.plainOver K C=true
 sa:W.findIn K (.ref C) "__setattr__"=some (some (.builtin "object.__setattr__"))
theorem rJ.get{K:W.Frag}{C:Addr}(c:rJ K C)(f:Str):W.plainGet K C f=true:=c.pg
def aM(K:W.Frag)(C:Addr)(f:Str):Prop:=W.findIn K (.ref C) f=some none
theorem aM.Fc{K:W.Frag}{C:Addr}{f:Str}(n:aM K C f):W.takerIn K C f=some none:=by
 unfold W.takerIn;rw[show W.findIn K (.ref C) f=some none from n];rfl
structure Meth(K:W.Frag)(C:Addr)(m:Str)(f:Addr):Prop where
 at_:W.findIn K (.ref C) m=some (some (.ref f))
 fn:W.isFn K (.ref f)=true
 kp:W.keepIn K (.ref f)=true
section
variable{X:Cx}{pins:List (Addr×Obj)}{σ:St}{H:Hp}{s:Shared}{a C dx:Addr}{fs:List (Str×V)}{f:Str}{v:V}{A:Around}{E:Value->Shared->Prop}
theorem Zgz{b:Bool}{Q:Value->Shared->Prop}(I:Inv X pins σ H s)(e:H a=some (.ins C dx fs))(c:rJ X.K C)(n:aM X.K C f)(l:fs.lookup f=some v)
  (h:∀u s',Inv X pins σ H s'->RelV v u->Q u s'):wpAny (model X.prog X.w) A (getAttr (.ref a) f b) Q E s:=by
 obtain⟨mA,O,r,_,_,_⟩:=Kw I.hok e;obtain⟨u,hu,ru⟩:=dz.some_of (v:=v) (o:=mA f) (by rw[<-l];exact r f);exact Zkd I.dD O (c.get f) c.hd n hu (Zhj ru) (h u _ (I.tok _) ru)
theorem Uj{m:Str}{g:Addr}{pl:Sem Bool}{Q:Value×List Value->Shared->Prop}(I:Inv X pins σ H s)(e:H a=some (.ins C dx fs))(c:rJ X.K C)(k:Meth X.K C m g)(l:fs.lookup m=none)
  (h:Q (.ref g,[.ref a]) s):wpAny (model X.prog X.w) A (getMethod (.ref a) m pl) Q E s:=by
 obtain⟨mA,O,r,_,_,_⟩:=Kw I.hok e;have hn:mA m=none:=dz.none_of (by rw[<-l];exact r m);exact ZiK I.dD O (c.get m) k.at_ k.fn hn h
theorem ZgA{y:V}{u:Value}{Q:Unit->Shared->Prop}(I:Inv X pins σ H s)(e:H a=some (.ins C dx fs))(c:rJ X.K C)(n:aM X.K C f)(hl:fs.length<1000)(ry:RelV y u)
  (h:∀s',Inv X pins σ (upd H a (.ins C dx (ah f y fs))) s'->Q () s'):wpAny (model X.prog X.w) A (setAttr (.ref a) f u) Q E s:=by
 obtain⟨mA,O,r,wi,_,ho⟩:=Kw I.hok e;have hz:(fs.map (·.1)).length<=sizeLine:=by rw[aW8,aXy];lia
 refine Zke I.dD O c.sa c.po n.Fc c.hd wi hz λh' O' sb=>h _ ?_;have hd:∃o,h'.get? dx=some o:=let⟨o,_,_,e',_⟩:=O'.ns;⟨o,e'⟩;refine I.write (x:=a) (e:=dx) (by rw[e];exact True.intro) (.inr ho) (λb q hb z=>(sb.2 b hb).trans z) hd ?_;refine⟨by rw[Zc O.ne];exact ho,?_,O.ne,O'.obj,_,O'.ns,λg=>?_,λg hg=>?_⟩
 .have:=Ua f y fs;lia
 .show dz ((ah f y fs).lookup g) (if g=f then some u else mA g);rw[Zf];by_cases q:g=f
  .rw [aYH q,aYH q];exact ry
  .rw [aoK q,aoK q];exact r g
 .by_cases q:g=f
  .rw [q];exact(Oh f y fs).1
  .refine (Oh f y fs).2 g (wi g λz=>hg ?_);show(if g=f then some u else mA g)=none;rw[aoK q];exact z
theorem Inv.made(I:Inv X pins σ H s):Inv X pins σ (upd (upd H s.heap.objs.size (.own (s.heap.objs.size+1))) (s.heap.objs.size+1) (.ins C s.heap.objs.size []))
  { s with heap:=(s.heap.push W.emptyDict).push (W.instObj C s.heap.objs.size) }:=by
 have e1:(s.heap.push W.emptyDict).get? s.heap.objs.size=some W.emptyDict:=aIn s.heap rfl;have e2:((s.heap.push W.emptyDict).push (W.instObj C s.heap.objs.size)).get? (s.heap.objs.size+1)=some (W.instObj C s.heap.objs.size):=by
  have:=aIn (s.heap.push W.emptyDict) (o:=W.instObj C s.heap.objs.size) rfl;rwa [aTQ]at this
 have e3:(s.heap.push W.emptyDict).Ns s.heap.objs.size (λ_=>none):=⟨W.emptyDict,#[],_,e1,rfl,(λe he=>absurd he (by simp)),λ_=>rfl⟩;have I1:=I.laid (a:=s.heap.objs.size) (o:=.own (s.heap.objs.size+1)) (h':=s.heap.push W.emptyDict) (t':=s.toks) (λb u q=>a8G _ q) (apX _) ⟨_,e1⟩;refine I1.laid (a:=s.heap.objs.size+1) (o:=.ins C s.heap.objs.size []) (t':=s.toks) (λb u q=>a8G _ q) (Nat.le_of_eq (aTQ _ _)) ?_;have ne:s.heap.objs.size≠s.heap.objs.size+1:=amC (aqJ _);refine⟨by rw[Zc ne,Za],abf _,ne,e2,λ_=>none,(Heap.Ns1.of_empty e3).at λo q=>a8G _ q,λ_=>True.intro,λy hy=>absurd rfl hy⟩
theorem Zkf{prog:Program}{w:World}{env:Env}{e:Expr}{f:Str}{pos:Pos}{s:Shared}{Q:Value->Shared->Prop}(hb:attributeBase e f env (eval e env)=eval e env)
  (h:wpAny (model prog w) A (eval e env) (λo s₁=>wpAny (model prog w) A (getAttr o f true) Q E s₁) E s):wpAny (model prog w) A (eval (.Attribute e f pos) env) Q E s:=
 Attribute_any_ h (by rw[arm_eval_Attribute,hb])
end
def Fo(K:W.Frag)(ta:TE)(f:Str):TE:=λσ H Q=>ta σ H λx H1=>∃a C dx fs v,x=.ref a/\H1 a=some (.ins C dx fs)/\rJ K C/\aM K C f/\fs.lookup f=some v/\Q v H1
def Lp(K:W.Frag)(ta tv:TE)(f:Str):TS:=λD σ H=>tv σ H λy H1=>ta σ H1 λx H2=>∃a C dx fs,x=.ref a/\H2 a=some (.ins C dx fs)/\rJ K C/\aM K C f/\fs.length<1000 /\
 D.nx σ (upd H2 a (.ins C dx (ah f y fs)))
def IU(X:Cx)(op:Operator)(rd:V->V->Hp->VK->Prop):Prop:=
 ∀(pins:List (Addr×Obj))(s:Shared)(σ:St)(H:Hp)(x y:V)(u v:Value)(Q:VK),Inv X pins σ H s->RelV x u->RelV y v->rd x y H Q->wpAny (model X.prog X.w) X.A (inplaceOp op u v) (EP X pins σ Q) X.xe s
section
variable{X:Cx}{o e value:Expr}{f:Str}{pos pos' tpos:Pos}{ta tv:TE}
theorem Z8(he:PE X e ta)(hb:attributeBase e f X.env (eval e X.env)=eval e X.env):PE X (.Attribute e f pos) (Fo X.K ta f):=by
 intro pins s σ H Q I h;refine Zkf hb (bS (he pins s σ H _ I h) λu s1 ⟨x,H1,I1,rx,a,C,dx,fs,v,ex,ea,c,n,l,q⟩=>?_);subst ex;obtain rfl:u=Value.ref a:=rx;exact Zgz I1 ea c n l λu' s2 I2 ru=>⟨v,H1,I2,ru,q⟩
theorem pM(ha:PE X o ta)(hv:PE X value tv)(hs:swapsWith value (some (.Attribute o f pos')) pos.line X.env=pure false):PS X (.Assign [.Attribute o f pos'] value pos) (Lp X.K ta tv f):=by
 intro pins s σ H D I h;refine plainObj_wpAny_Assign_Attribute (eL (hv pins s σ H _ I h) λu s1 y H1 I1 ry q=>bS (ha pins s1 σ H1 _ I1 q) λov s2 ⟨x,H2,I2,rx,a,C,dx,fs,ex,ea,c,n,l,q2⟩=>?_) hs;subst ex;obtain rfl:ov=Value.ref a:=rx;exact ZgA I2 ea c n l ry λs3 I3=>⟨σ,_,I3,q2⟩
inductive FL(x:V)(y:V)(H:Hp)(Q:VK):Prop
 |mk (i j:_):x=.int i->y=.int j->Q (.int (i+j)) H->FL x y H Q
theorem Z7:IU X .Add FL:=by
 rintro pins s σ H x y u v Q I rx ry ⟨i,j,rfl,rfl,q⟩;obtain⟨t,rfl⟩:=(show ∃t,u=Value.int i t from rx);obtain⟨t',rfl⟩:=(show ∃t',v=Value.int j t' from ry);exact PyProof.Rows.iadd_int ⟨.int (i+j),H,I.tok _,⟨_,rfl⟩,q⟩
end
section
variable{X:Cx}{pins:List (Addr×Obj)}{σ:St}{H:Hp}{s:Shared}{A:Around}{E:Value->Shared->Prop}{Q:Value->Shared->Prop}{c:Value}{b:Bool}
inductive iR (K:W.Frag) (H:Hp):V->Value->Prop where
 |aQ:iR K H .aQ (.type "NoneType")
 |bl (x:Bool):iR K H (.bl x) (.type "bool")
 |int (i:Int):iR K H (.int i) (.type "int")
 |str (x:Str):iR K H (.str x) (.type "str")
 |zB (x:UInt64):iR K H (.zB x) (.type "float")
 |lst {a:Addr} {xs:List V} (e:H a=some (.lst xs)):iR K H (.ref a) (.type "list")
 |cN {a:Addr} {o:Obj} {xs:List V} (e:H a=some (.cN o (.lst xs))):iR K H (.ref a) (.type "list")
 |tup {a:Addr} {xs:List V} (e:H a=some (.tup xs)):iR K H (.ref a) (.type "tuple")
 |dK {a:Addr} {kvs:List (Key×V)} (e:H a=some (.dK kvs)):iR K H (.ref a) (.type "dict")
 |dT {a:Addr} {kvs:List (List Key×V)} (e:H a=some (.dT kvs)):iR K H (.ref a) (.type "dict")
 | ins {a C dx:Addr} {fs:List (Str×V)} (e:H a=some (.ins C dx fs)) (cl:rJ K C) (ha:W.findIn K (.ref C) "__class__"=some (some (.builtin "object.__class__")))
   (hn:W.specialIn K (.builtin "object.__class__") "__get__"=some (some (.builtin "getset_descriptor.__get__"))) (htk:W.takesIn K (.builtin "object.__class__")=some true)
   (hm:W.mroIn K C (.type "object")=some true):iR K H (.ref a) (.ref C)
theorem Zhk{x:V}{u t:Value}(I:Inv X pins σ H s)(rx:RelV x u)(ty:iR X.K H x t)(e:W.kitOne X.K t c=some b)(h:∀tk,Q (.bool b) { s with toks:=tk }) :
  wpAny (model X.prog X.w) A (call (.builtin "isinstance") [u,c]) Q E s:=by
 cases ty with
 |aQ=>cases(show u=Value.none from rx);exact aIb W.kitx_none I.dD True.intro e (λz=>nomatch z) h
 |bl y=>cases(show u=Value.bool y from rx);exact aIb W.kitx_bool I.dD True.intro e (λz=>nomatch z) h
 |int i=>obtain⟨t,q⟩:=(show ∃t,u=Value.int i t from rx);cases q;exact aIb W.kitx_int I.dD True.intro e (λz=>nomatch z) h
 |str y=>obtain⟨t,q⟩:=(show ∃t,u=Value.str y t from rx);cases q;exact aIb W.kitx_str I.dD True.intro e (λz=>nomatch z) h
 |zB y=>obtain⟨t,q⟩:=(show ∃t,u=Value.float y t from rx);cases q;exact aIb W.kitx_float I.dD True.intro e (λz=>nomatch z) h
 | @lst a xs ea=>
  cases(show u=Value.ref a from rx);obtain⟨_,_,n,_,h1⟩:=(show aF X.prog X.w H s.heap a (.lst xs) from I.hok a _ ea);exact aIb W.kitx_list I.dD ⟨_,h1,rfl⟩ e (λz=>nomatch z) h
 | @cN a ob xs ea=>
  cases(show u=Value.ref a from rx);obtain⟨_,_,_,n,_,h1⟩:=(show aF X.prog X.w H s.heap a (.cN ob (.lst xs)) from I.hok a _ ea);exact aIb W.kitx_list I.dD ⟨_,h1,rfl⟩ e (λz=>nomatch z) h
 | @tup a xs ea=>
  cases(show u=Value.ref a from rx);obtain⟨_,_,_,p⟩:=(show aF X.prog X.w H s.heap a (.tup xs) from I.hok a _ ea);obtain⟨o,h1,h2,_⟩:=p;exact aIb W.kitx_tuple I.dD ⟨o,h1,h2⟩ e (λz=>nomatch z) h
 | @dK a kvs ea=>
  cases(show u=Value.ref a from rx);obtain⟨_,_,vs,_,p⟩:=(show aF X.prog X.w H s.heap a (.dK kvs) from I.hok a _ ea);obtain⟨o,es,ep,h1,h2,_⟩:=p;exact aIb W.kitx_dict I.dD ⟨o,h1,h2.1⟩ e (λz=>nomatch z) h
 | @dT a kvs ea=>
  cases(show u=Value.ref a from rx);obtain⟨_,_,xs,_,o,es,ep,h1,h2,_⟩:=(show aF X.prog X.w H s.heap a (.dT kvs) from I.hok a _ ea);exact aIb W.kitx_dict I.dD ⟨o,h1,h2.1⟩ e (λz=>nomatch z) h
 | @ins a C dx fs ea cl ha hn htk hm=>
  cases(show u=Value.ref a from rx);obtain⟨mA,O,_⟩:=Kw I.hok ea;obtain⟨od,J,_⟩:=O.look;exact aIb (W.kitx_own (cl.get _) cl.hd ha hn htk hm) I.dD J e (λz=>nomatch z) h
end
structure bu(k:Nat)(A:Around):Prop where
 hd:A.handled=none
 dp:A.depth+3*k+5<recursionLimit
 un:A.units+16*k+200<cLine
 gd:A.guards=some []
theorem bu.mono{j k:Nat}{A:Around}(r:bu k A)(h:j<=k):bu j A:=⟨r.hd,by have:=r.dp;lia,by have:=r.un;lia,r.gd⟩
theorem bu.deeper{k:Nat}{A:Around}(r:bu (k+1) A)(env:Env):bu k (A.deeper env):=
 ⟨r.hd,by have:=r.dp;show A.depth+1+3*k+5<_;lia,by have:=r.un;show A.units+3+16*k+200<_;lia,r.gd⟩
theorem ZgB{A:Around}{C:Addr}{us:List Value}{kw:List (Str×Value)}:(A.under (.builtin "type.__call__" ⟨.ref C ::us,kw⟩)).depth=A.depth+1:=by
 first|rfl|simp[Around.under,Code.weight,Code.isCreation,Code.isGuard,Code.isCaller,Code.frames,Code.isFrame,guardIds]
theorem ZgC{A:Around}{C:Addr}{us:List Value}{kw:List (Str×Value)}:(A.under (.builtin "type.__call__" ⟨.ref C ::us,kw⟩)).units=A.units+1:=by
 first|rfl|simp[Around.under,Code.cUnits,Code.frames,Code.isFrame]
theorem bu.make{k:Nat}{A:Around}(r:bu (k+1) A)(C:Addr)(us:List Value)(kw:List (Str×Value)):bu k (A.under (.builtin "type.__call__" ⟨.ref C ::us,kw⟩)):=
 ⟨r.hd,by have:=r.dp;rw[ZgB];lia,by have:=r.un;rw[ZgC];lia,r.gd⟩
theorem bu.depth{k:Nat}{A:Around}(r:bu k A):A.depth<recursionLimit:=by have:=r.dp;lia
theorem bu.units{k:Nat}{A:Around}(r:bu k A):A.units+64<cLine:=by have:=r.un;lia
def BB:TA:=λ_ H Q=>Q [] H
def An(ta:TE)(tr:TA):TA:=λσ H Q=>ta σ H λx H1=>tr σ H1 λxs H2=>Q (x ::xs) H2
section
variable{X:Cx}{e:Expr}{es:List Expr}{te:TE}{t:TA}{pos:Pos}
theorem Zb:PA X [] BB:=λ_ _ _ _ H Q I h=>a3w ⟨[],H,I,.nil,h⟩
theorem Zkg(ha:PE X e te)(hr:PA X es t)(hs:starEach (e ::es) X.env=(false,eval e X.env) ::starEach es X.env:=by rfl):PA X (e ::es) (An te t):=by
 intro pos pins s σ H Q I h;rw[hs];show wpAny _ _ (spliced ((false,eval e X.env) ::backTo pos (starEach es X.env))) _ _ s;refine aHp (eL (ha pins s σ H _ I h) λu s1 x H1 I1 r1 q1=>?_);exact nT (hr pos pins s1 σ H1 _ I1 q1) λus s2 xs H2 I2 r2 q2=>⟨x ::xs,H2,I2,.cons r1 r2,q2⟩
def K9(t:TA):TE:=λσ H Q=>t σ H λxs H1=>xs.length<=sizeLine/\∀p,H1 p=none->Q (.ref p) (upd H1 p (.tup xs))
def Le(t:TA):TE:=λσ H Q=>t σ H λxs H1=>xs.length<=sizeLine/\∀p,H1 p=none->Q (.ref p) (upd H1 p (.lst xs))
theorem qS{x1}(h:PA X es t):PE X (.Tuple es x1 pos) (K9 t):=by
 intro pins s σ H Q I hq;refine wpAny_Tuple_spliced (bS (h pos pins s σ H _ I hq) λus s1 ⟨xs,H1,I1,r,z,q⟩=>⟨by rw[<-r.length];exact z,?_⟩);have hf:H1 s1.heap.objs.size=none:=I1.hok.fresh (apX _);refine⟨.ref s1.heap.objs.size,upd H1 s1.heap.objs.size (.tup xs),I1.laid (t':=s1.toks) (λb u e=>a8G _ e) (apX _) ?_,rfl,q _ hf⟩;exact⟨z,us,r,⟨_,aIn _ rfl,rfl,_,rfl⟩⟩
theorem sd(h:PA X es t):PE X (.List es pos) (Le t):=by
 intro pins s σ H Q I hq;refine wpAny_List_spliced (bS (h pos pins s σ H _ I hq) λus s1 ⟨xs,H1,I1,r,z,q⟩=>⟨by rw[<-r.length];exact z,?_⟩);have hf:H1 s1.heap.objs.size=none:=I1.hok.fresh (apX _);refine⟨.ref s1.heap.objs.size,upd H1 s1.heap.objs.size (.lst xs),I1.laid (t':=s1.toks) (λb u e=>a8G _ e) (apX _) ?_,rfl,q _ hf⟩;exact⟨z,us,0,r,aIn _ rfl⟩
end
abbrev Sp:=List V->Hp->VK->XK->Prop
abbrev yC:=List Env->Hp->Shared->XK->Value->Shared->Prop
structure sM(P:Program)(w:World)(K:W.Frag)(mg:Str->Option Value)(base:Heap)(A:Around)(outer:List Env)(s:Shared)(H:Hp):Prop where
 frames:A.frames=some outer
 mod:Mod K mg base
 bs:∀b o,base.get? b=some o->s.heap.get? b=some o/\H b=none
 yo:base.objs.size<=s.heap.objs.size
 jM:s.heap.FunFrames base outer
 CJ:∀b∈frs outer,H b=none
 hok:d9 P w H s.heap
 bare:AllBare s.gens
def CE(outer:List Env)(P:Program)(w:World)(H:Hp)(s:Shared)(Q:VK)(u:Value)(s':Shared):Prop:=
 ∃v H',s'.os=s.os/\AllBare s'.gens/\Un (frs outer) [] H H' s.heap s'.heap/\d9 P w H' s'.heap/\RelV v u/\Q v H'
def CR(CX:yC)(outer:List Env)(P:Program)(w:World)(H:Hp)(s:Shared)(Q:VK)(E:XK)(r:Result)(s':Shared):Prop:=
 match r with
 | .ok (.ret u)=>CE outer P w H s Q u s'
 | .ok _=>False
 | .error e=>CX outer H s E e s'
structure b9(P:Program)(w:World)(K:W.Frag)(mg:Str->Option Value)(base:Heap)(CX:yC)(k:Nat)(f:Addr)(fd:FuncData)(ps:List Str)(sp:Sp):Prop where
 len:∀vs H Q E,sp vs H Q E->vs.length=ps.length
 run:∀(A:Around)(outer:List Env)(s:Shared)(H:Hp)(args:Args)(us:List Value)(vs:List V)(Q:VK)(E:XK),bu k A->sM P w K mg base A outer s H->BindsTo s fd args (ps.zip us)->Vals vs us->sp vs H Q E ->
  codeAny (model P w) A (.call (.ref f) args) (CR CX outer P w H s Q E) s
theorem sM.make{P:Program}{w:World}{K:W.Frag}{mg:Str->Option Value}{base:Heap}{A:Around}{outer:List Env}{s:Shared}{H:Hp}(e:sM P w K mg base A outer s H)(C:Addr)(us:List Value)(kw:List (Str×Value)) :
  sM P w K mg base (A.under (.builtin "type.__call__" ⟨.ref C ::us,kw⟩)) outer s H:=⟨by first|exact e.frames|(simpa[Around.under,Code.envs,Code.isFrame,pushEnvs]using e.frames),e.mod,e.bs,e.yo,e.jM,e.CJ,e.hok,e.bare⟩
section
variable{X:Cx}{pins:List (Addr×Obj)}{σ:St}{H:Hp}{s s':Shared}
theorem Inv.Hz(I:Inv X pins σ H s):sM X.prog X.w X.K X.mg X.base X.A X.stack s H:=
 ⟨I.ok.frames,I.ok.mod,I.bs,alM I.ok.yo I.sz,I.stack,I.nW,I.hok,I.bare⟩
theorem Inv.after{Q:VK}{u:Value}(I:Inv X pins σ H s)(h:CE X.stack X.prog X.w H s Q u s'):EP X pins σ Q u s':=by
 obtain⟨v,H',os,bare,un,hok,r,q⟩:=h;obtain⟨hh,g,d,t,os'⟩:=s';obtain rfl:os'=s.os:=os;exact⟨v,H',I.call (h':=hh) (g':=g) (d':=d) (t':=t) (ch:=[]) un hok bare (λb z=>absurd z (by simp)),r,q⟩
end
def sO(sp:Sp)(mL:List V)(E:XK)(t:TA):TE:=λσ H Q=>t σ H λvs H1=>sp (vs++mL) H1 Q E
def sN(C:Addr)(m:Str)(sp:Sp)(mL:List V)(E:XK)(ta:TE)(t:TA):TE:=λσ H Q=>ta σ H λx H1=>∃a dx fs,x=.ref a/\H1 a=some (.ins C dx fs)/\fs.lookup m=none /\
 t σ H1 λvs H2=>sp (x ::(vs++mL)) H2 Q E
def Am(C:Addr)(sp:Sp)(mL:List V)(E:XK)(t:TA):TE:=λσ H Q=>t σ H λvs H1=>∀x dx,H1 x=none->H1 dx=none->dx≠x ->
 sp (.ref x ::(vs++mL)) (upd (upd H1 dx (.own x)) x (.ins C dx [])) (λv H2=>v=.aQ/\Q (.ref x) H2) E
def Binds(K:W.Frag)(fd:FuncData)(ps:List Str)(ds:List Value):Prop:=
 ∀(s:Shared)(us:List Value),K.In s.heap->(us++ds).length=ps.length->BindsTo s fd ⟨us,[]⟩ (ps.zip (us++ds))
theorem Binds.all{K:W.Frag}{fd:FuncData}{ps:List Str}(h:∀us:List Value,us.length=ps.length->bindArgs fd ⟨us,[]⟩=pure (ps.zip us)):Binds K fd ps []:=λs us _ hl=>by
 rw[bah]at hl ⊢;exact .of_eq (h us hl)
def C0(CX:yC)(X:Cx)(E:XK):Prop:=∀(pins:List (Addr×Obj))(σ:St)(H:Hp)(s:Shared)(e:Value)(s':Shared),Inv X pins σ H s->CX X.stack H s E e s'->X.xe e s'
section
variable{X:Cx}{CX:yC}{k:Nat}{f C:Addr}{fd:FuncData}{ps:List Str}{sp:Sp}{mL:List V}{ds:List Value}{E:XK}{x m:Str}{p pos apos:Pos}{e o:Expr}{es:List Expr}{ta:TE}{t:TA}
theorem Kc{pins:List (Addr×Obj)}{σ:St}{H:Hp}{s:Shared}{Q:VK}{us:List Value}{vs:List V}(F:b9 X.prog X.w X.K X.mg X.base CX k f fd ps sp)(hr:bu k X.A)(hb:Binds X.K fd ps ds)(hd:Vals mL ds)(hx:C0 CX X E)
  (I:Inv X pins σ H s) (r:Vals vs us) (h:sp (vs++mL) H Q E):wpAny (model X.prog X.w) X.A (call (.ref f) us) (EP X pins σ Q) X.xe s:=by
 have r2:Vals (vs++mL) (us++ds):=r.append hd;have hl:(us++ds).length=ps.length:=by rw[<-r2.length];exact F.len _ _ _ _ h
 refine wpAny_call (aWj (F.run X.A X.stack s H ⟨us,[]⟩ (us++ds) (vs++mL) Q E hr I.Hz (hb s us I.dD hl) r2 h) λr s' hq=>?_);cases r with
 |error e=>exact hx pins σ H s e s' I hq
 |ok fl=>
  cases fl with
  |ret u=>exact I.after hq
  |next=>exact False.elim hq
  |brk=>exact False.elim hq
  |cont=>exact False.elim hq
theorem Zkh(F:b9 X.prog X.w X.K X.mg X.base CX k f fd ps sp)(hr:bu k X.A)(hg:Gl X x)(hm:X.mg x=some (.ref f))(hk:W.keepIn X.K (.ref f)=true)(hb:Binds X.K fd ps ds)(hd:Vals mL ds)(hx:C0 CX X E)
  (ha:PA X (e ::es) t) (hdb:(x ==("__debug__":Str))=false:=by decide) (he:starEach (e ::es) X.env=(false,eval e X.env) ::starEach es X.env:=by rfl) (hpl:(backTo pos (starEach es X.env)).any (·.1)=false:=by rfl) :
  PE X (.Call (.Name x p) (e ::es) [] pos) (sO sp mL E t):=by
 intro pins s σ H Q I h;refine aob (NT I hg hm ?_ hdb);refine W.callWith_K (h₀:=X.base) I.ok.mod.D5 hk (nT (ha pos pins s σ H _ I h) λus s1 vs H1 I1 r q=>⟨I1.dD,?_⟩) he hpl;exact Kc F hr hb hd hx I1 r q
theorem Zki{pl:Sem Bool}(he:PE X o ta)(c:rJ X.K C)(hm:Meth X.K C m f)(F:b9 X.prog X.w X.K X.mg X.base CX k f fd ps sp)(hr:bu k X.A)(hb:Binds X.K fd ps ds)(hd:Vals mL ds)(hx:C0 CX X E)(ha:PA X (e ::es) t)
  (hst:starEach (e ::es) X.env=(false,eval e X.env) ::starEach es X.env:=by rfl) (hpl:(backTo pos (starEach es X.env)).any (·.1)=false:=by rfl)
  (ht:eval (.Call (.Attribute o m apos) (e ::es) [] pos) X.env=(do
   let ov <-eval o X.env
   standAt apos.atName
   let(f,first) <-holding [ov] (getMethod ov m pl)
   callWith pos f first (backTo pos (starEach (e ::es) X.env)) (backToKw pos (keywordEach [] X.env))):=by rfl) :
  PE X (.Call (.Attribute o m apos) (e ::es) [] pos) (sN C m sp mL E ta t):=by
 intro pins s σ H Q I h;refine W.methodCall_KW (pl:=pl) (bS (he pins s σ H _ I h) λu s1 ⟨x,H1,I1,rx,a,dx,fs,ex,ea,l,q⟩=>?_) ht;subst ex;obtain rfl:u=Value.ref a:=rx;refine Uj I1 ea c hm l ?_;refine W.callWith_K (first:=[.ref a]) (h₀:=X.base) I.ok.mod.D5 hm.kp (nT (ha pos pins s1 σ H1 _ I1 q) λus s2 vs H2 I2 r q2=>⟨I2.dD,?_⟩) hst hpl;exact Kc (us:=.ref a ::us) (vs:=.ref a ::vs) F hr hb hd hx I2 (.cons rfl r) q2
theorem ZiM{pl:Sem Bool}(he:PE X o ta)(c:rJ X.K C)(hm:Meth X.K C m f)(F:b9 X.prog X.w X.K X.mg X.base CX k f fd ps sp)(hr:bu k X.A)(hb:Binds X.K fd ps ds)(hd:Vals mL ds)(hx:C0 CX X E)
  (ht:eval (.Call (.Attribute o m apos) [] [] pos) X.env=(do
   let ov <-eval o X.env
   standAt apos.atName
   let(f,first) <-holding [ov] (getMethod ov m pl)
   callWith pos f first (backTo pos (starEach [] X.env)) (backToKw pos (keywordEach [] X.env))):=by rfl) :
  PE X (.Call (.Attribute o m apos) [] [] pos) (sN C m sp mL E ta BB):=by
 intro pins s σ H Q I h;refine W.methodCall_KW (pl:=pl) (bS (he pins s σ H _ I h) λu s1 ⟨x,H1,I1,rx,a,dx,fs,ex,ea,l,q⟩=>?_) ht;subst ex;obtain rfl:u=Value.ref a:=rx;refine Uj I1 ea c hm l ?_;exact W.callWith_K0 (first:=[.ref a]) I1.dD hm.kp (Kc (us:=[.ref a]) (vs:=[.ref a]) F hr hb hd hx I1 (.cons rfl .nil) q)
structure Mk(K:W.Frag)(C f:Addr):Prop where
 makes:W.makesIn K C=true
 init:W.findIn K (.ref C) "__init__"=some (some (.ref f))
 fn:W.isFn K (.ref f)=true
 kp:W.keepIn K (.ref C)=true
theorem ZiN{pins:List (Addr×Obj)}{σ:St}{H:Hp}{s:Shared}{Q:VK}{us:List Value}{vs:List V}(M:Mk X.K C f)(F:b9 X.prog X.w X.K X.mg X.base CX k f fd ps sp)(hr:bu (k+1) X.A)(hb:Binds X.K fd ps ds)(hd:Vals mL ds)
  (hx:C0 CX X E) (I:Inv X pins σ H s) (r:Vals vs us)
  (h:∀x dx,H x=none->H dx=none->dx≠x->sp (.ref x ::(vs++mL)) (upd (upd H dx (.own x)) x (.ins C dx [])) (λv H2=>v=.aQ/\Q (.ref x) H2) E) :
  wpAny (model X.prog X.w) X.A (call (.ref C) us) (EP X pins σ Q) X.xe s:=by
 have hq:=h (s.heap.objs.size+1) s.heap.objs.size (I.hok.fresh (az7 _)) (I.hok.fresh (apX _)) (amC (aqJ _));have I2:=Inv.made (C:=C) I;have r2:Vals (V.ref (s.heap.objs.size+1) ::(vs++mL)) (Value.ref (s.heap.objs.size+1) ::(us++ds)):=.cons rfl (r.append hd);have hl:(Value.ref (s.heap.objs.size+1) ::us++ds).length=ps.length:=by
  have e:=r2.length;rw[F.len _ _ _ _ hq]at e;exact e.symm
 refine wpAny_call (ZiL (f:=f) I.dD M.makes M.init (aqt.mp M.fn) (aWj (F.run _ X.stack _ _ ⟨Value.ref (s.heap.objs.size+1) ::us,[]⟩ (Value.ref (s.heap.objs.size+1) ::(us++ds)) _ _ E (hr.make C us [])
  (I2.Hz.make C us []) (hb _ (Value.ref (s.heap.objs.size+1) ::us) I2.dD hl) r2 hq) λr s' hq'=>?_))
 cases r with
 |error e=>exact hx pins σ _ _ e s' I2 hq'
 |ok fl=>
  cases fl with
  |ret u=>
   obtain⟨v,H',I3,rv,ev,q3⟩:=I2.after hq';subst ev;exact⟨rv,⟨V.ref (s.heap.objs.size+1),H',I3,rfl,q3⟩⟩
  |next=>exact False.elim hq'
  |brk=>exact False.elim hq'
  |cont=>exact False.elim hq'
theorem Zkj(M:Mk X.K C f)(F:b9 X.prog X.w X.K X.mg X.base CX k f fd ps sp)(hr:bu (k+1) X.A)(hg:Gl X x)(hm:X.mg x=some (.ref C))(hb:Binds X.K fd ps ds)(hd:Vals mL ds)(hx:C0 CX X E)
  (ha:PA X (e ::es) t) (hdb:(x ==("__debug__":Str))=false:=by decide) (he:starEach (e ::es) X.env=(false,eval e X.env) ::starEach es X.env:=by rfl) (hpl:(backTo pos (starEach es X.env)).any (·.1)=false:=by rfl) :
  PE X (.Call (.Name x p) (e ::es) [] pos) (Am C sp mL E t):=by
 intro pins s σ H Q I h;refine aob (NT I hg hm ?_ hdb);refine W.callWith_K (h₀:=X.base) I.ok.mod.D5 M.kp (nT (ha pos pins s σ H _ I h) λus s1 vs H1 I1 r q=>⟨I1.dD,?_⟩) he hpl;exact ZiN M F hr hb hd hx I1 r q
end
structure fK(N P:List Str)(sc:Scope):Prop where
 kind:sc.kind=.function
 co:sc.isCoroutine=false
 gen:sc.isGenerator=false
 nd:N.Nodup
 pre:N.take P.length=P
 par:∀x∈P,sc.names.lookup x=some .local\/sc.names.lookup x=some .cell
 BZ:∀y∈sc.names,y.2≠.free
theorem T5{kindOf:Str->Option NameKind}{x:Str}:∀{binds:List (Str×Value)}{m:Str->Option Value},(∀v,(x,v)∉binds)->bindL kindOf binds m x=m x
 | [],_,_=>rfl
 |(n,v) ::r,m,h=>by
  unfold bindL;rw[T5 λw hw=>h w (aO5 _ hw)];split
  .have:x≠n:=by rintro rfl;exact h v aAX
   simp[this]
  .rfl
theorem T4{kindOf:Str->Option NameKind}{x:Str}:∀{binds:List (Str×Value)}{m:Str->Option Value},(∀v,(x,v)∉binds)->bindC kindOf binds m x=m x
 | [],_,_=>rfl
 |(n,v) ::r,m,h=>by
  unfold bindC;rw[T4 λw hw=>h w (aO5 _ hw)];split
  .rfl
  .have:x≠n:=by rintro rfl;exact h v aAX
   simp[this]
theorem T3{kindOf:Str->Option NameKind}{x:Str}{v:Value}:∀{P:List Str}{vs:List Value}{i:Nat}{m:Str->Option Value},P.Nodup->P[i]?=some x->vs[i]?=some v->kindOf x=some .local ->
  bindL kindOf (P.zip vs) m x=some v
 | [],_,_,_,_,h,_,_=>by simp at h
 |_ ::_,[],_,_,_,_,h,_=>by simp at h
 |p ::P,w ::vs,0,m,nd,h1,h2,hk=>by
  simp at h1 h2;subst h1;subst h2;show bindL kindOf ((p,w) ::P.zip vs) m p=_;unfold bindL;rw[T5 λv hv=>(aE7.mp nd).1 (List.of_mem_zip hv).1,aYH hk];simp
 |p ::P,w ::vs,i+1,m,nd,h1,h2,hk=>by
  show bindL kindOf ((p,w) ::P.zip vs) m x=_;unfold bindL;exact T3 (i:=i) (aE7.mp nd).2 (by simpa using h1) (by simpa using h2) hk
theorem TZ{kindOf:Str->Option NameKind}{x:Str}{v:Value}:∀{P:List Str}{vs:List Value}{i:Nat}{m:Str->Option Value},P.Nodup->P[i]?=some x->vs[i]?=some v->kindOf x≠some .local ->
  bindC kindOf (P.zip vs) m x=some v
 | [],_,_,_,_,h,_,_=>by simp at h
 |_ ::_,[],_,_,_,_,h,_=>by simp at h
 |p ::P,w ::vs,0,m,nd,h1,h2,hk=>by
  simp at h1 h2;subst h1;subst h2;show bindC kindOf ((p,w) ::P.zip vs) m p=_;unfold bindC;rw[T4 λv hv=>(aE7.mp nd).1 (List.of_mem_zip hv).1,aoK hk];simp
 |p ::P,w ::vs,i+1,m,nd,h1,h2,hk=>by
  show bindC kindOf ((p,w) ::P.zip vs) m x=_;unfold bindC;exact TZ (i:=i) (aE7.mp nd).2 (by simpa using h1) (by simpa using h2) hk
def start(N:List Str)(vs:List V):St:=vs.map some++List.replicate (N.length-vs.length) none
def qK(CX:yC)(P:Program)(w:World)(K:W.Frag)(mg:Str->Option Value)(base:Heap)(N:List Str)(qual:Str)(scope:Scope)(f:Addr)(cd:Value)(A:Around)(outer:List Env)(s:Shared)(H:Hp)(E:XK):Cx where
 prog:=P
 w:=w
 K:=K
 mg:=mg
 base:=base
 A:=A.deeper (envOfC qual scope s.heap.objs.size f cd)
 N:=N
 s₀:=s
 H₀:=H
 env:=envOfC qual scope s.heap.objs.size f cd
 outer:=outer
 stack:=envOfC qual scope s.heap.objs.size f cd ::outer
 ex:=[]
 calm:=true
 fn:=λ_=>true
 pn:=[]
 xe:=λe s'=>wpAny (model P w) (A.deeper (envOfC qual scope s.heap.objs.size f cd)) (leaving (envOfC qual scope s.heap.objs.size f cd) e) (λ_ s''=>CX outer H s E e s'') (λe' s''=>CX outer H s E e' s'') s'
theorem SH{sc:Scope}{n:Nat}{x:Str}(h:sc.names.lookup x=some .cell):∃c,(cellsFrom n sc.names []).lookup x=some c:=by
 have q:=W.cellsFrom_some sc.names n [] (.inl h);exact Option.isSome_iff_exists.mp q
theorem Zhl{CX:yC}{P:Program}{w:World}{K:W.Frag}{mg:Str->Option Value}{base:Heap}{N ps:List Str}{qual:Str}{scope:Scope}{f:Addr}{cd:Value}{A:Around}{outer:List Env}{s s1:Shared}{H:Hp}{E:XK}{us:List Value}{vs:List V}
  (S:fK N ps scope) (hd:A.handled=none) (e0:sM P w K mg base A outer s H) (hl:vs.length=ps.length) (r:Vals vs us)
  (x:InCallC s s.heap.objs.size (bindL (envOfC qual scope s.heap.objs.size f cd).kindOf (ps.zip us) λ_=>none) (cellsFrom (s.heap.objs.size+1) scope.names []) (bindC (envOfC qual scope s.heap.objs.size f cd).kindOf (ps.zip us) λ_=>none) s1) :
  Inv (qK CX P w K mg base N qual scope f cd A outer s H E) [] (start N vs) H s1:=by
 have hpl:ps.length<=N.length:=by have:=aSc List.length S.pre;rw[a1R]at this;lia
 obtain⟨h1,tk,rfl,hk⟩:=x.done;have Cb:∀b:Addr,b∉(qK CX P w K mg base N qual scope f cd A outer s H E).ex:=λb z=>absurd (show b∈([]:List Addr) from z) (by simp);refine⟨⟨e0.mod,S.kind,rfl,rfl,apX _,λy z c h1 h2=>?_,λy hy=>?_,λy c _ h=>?_,λ_=>hd,Around.frames_deeper e0.frames,.inr ⟨rfl,rfl⟩,λb z=>absurd z (Cb b),e0.bs,e0.yo,λb _ _=>Cb b,λb z=>absurd z (Cb b),e0.jM,e0.CJ⟩,
  rfl,e0.bare,Un.kept hk,⟨_,x.toInCall.ns,λi y v h1 h2 h3=>?_⟩,λy c h=>⟨_,x.cell y c h⟩,e0.hok.fresh (apX _),λy c h=>?_,λp hp=>absurd (show p∈([]:List (Addr×Obj)) from hp) (by simp),e0.hok.kept hk,?_⟩
 .exact name_of_addr x.apart (bch h1) (bch h2)
 .have hy:scope.names.lookup y=some .cell\/scope.names.lookup y=some .free:=hy;rcases hy with hy|hy
  .exact SH hy
  .exact absurd rfl (S.BZ _ (bch hy))
 .exact aIf (x.above y c (bch h))
 .have hi:i<vs.length:=by
   unfold start at h2;by_cases hi:i<vs.length
   .exact hi
   .rw [bbj (by simpa using hi)]at h2;rw[ave]at h2;split at h2 <;> cases h2
  have ha:vs[i]?=some v:=by
   unfold start at h2;rw[aaw (by simpa using hi),aeb]at h2;cases e:vs[i]? with
   |none=>rw[e]at h2;cases h2
   |some a=>rw[e]at h2;cases h2;rfl
  obtain⟨u,hu,rv⟩:=r.get ha;have hp:ps[i]?=some y:=by
   rw[<-S.pre,List.getElem?_take_of_lt (by lia)];exact h1
  have Pd:ps.Nodup:=by rw[<-S.pre];exact S.nd.sublist (List.take_sublist _ _)
  refine⟨u,rv,?_⟩;rcases S.par y (abH hp) with k|k
  .exact .inl ⟨k,T3 Pd hp hu k⟩
  .obtain ⟨c,e⟩:=SH (n:=s.heap.objs.size+1) k;refine .inr ⟨.inl k,c,e,?_⟩;have q:=x.cell y c e;rw[TZ Pd hp hu (by show scope.names.lookup y≠_;rw[k];decide)]at q;exact q
 .exact e0.hok.fresh (aIf (x.above y c (bch h)))
 .unfold start;show _=N.length;rw[aE0,aW8,a1S];lia
theorem A3{CX:yC}{P:Program}{w:World}{K:W.Frag}{mg:Str->Option Value}{base:Heap}{k:Nat}{f:Addr}{name qual:Str}{params:Arguments}{body:List Stmt}{scope:Scope}{dV kV doc pm cdv ct oc:Value}{an od:Option Addr}
  {osl:Array (Option Value)} {N ps:List Str} {sp:Sp} (lk:K.lookup f=some ⟨oc,od,.func (W.fnOf name qual params body scope dV kV doc pm an cdv ct),osl⟩) (hcd:W.codeIn K cdv qual=true) (S:fK N ps scope)
  (len:∀vs H Q E,sp vs H Q E->vs.length=ps.length)
  (hbody:∀(A:Around)(outer:List Env)(s:Shared)(H:Hp)(vs:List V)(Q:VK)(E:XK),bu k (A.deeper (envOfC qual scope s.heap.objs.size f cdv))->sp vs H Q E ->
   ∃t,uT (qK CX P w K mg base N qual scope f cdv A outer s H E) body t/\t { nx:=λ_ H'=>Q .aQ H',rt:=Q } (start N vs) H) :
  b9 P w K mg base CX (k+1) f (W.fnOf name qual params body scope dV kV doc pm an cdv ct) ps sp:=by
 refine⟨len,λA outer s H args us vs Q E hr e0 hb r rX=>?_⟩;have hl:=len _ _ _ _ rX;have KX:K.In s.heap:=e0.mod.D5.keeps λb o e=>(e0.bs b o e).1;have lim:s.heap.NoLimit:=e0.mod.nolimit.keeps λb o e=>(e0.bs b o e).1;have hkind:∀y∈ps.zip us,scope.names.lookup y.1=some .local\/(scope.names.lookup y.1=some .cell/\((cellsFrom (s.heap.objs.size+1) scope.names []).lookup y.1).isSome=true):=λ⟨n,v⟩ hy=>by
  rcases S.par n (List.of_mem_zip hy).1 with q|q
  .exact .inl q
  .exact .inr ⟨q,W.cellsFrom_some _ _ _ (.inl q)⟩
 refine codeAny_call_function hr.depth (KX _ _ lk) rfl S.co S.gen rfl (W.codeRec_of KX hcd) (hb _ _ _ _ ?_);refine wpAny_newFunctionEnv_cells S.kind hkind λenv he s1 x=>?_;subst he;refine⟨lim.keeps x.toInCall.keep,codeAny_func ?_⟩;obtain⟨t,ht,hq⟩:=hbody A outer s H vs Q E (hr.deeper _) rX;have I:Inv (qK CX P w K mg base N qual scope f cdv A outer s H E) [] (start N vs) H s1:=Zhl S hr.hd e0 hl r x;refine aEC (ht [] s1 (start N vs) H _ I hq) (λfl s' hs=>?_) λe s' hs=>hs;have fin:∀{σ':St}{H':Hp}{v:V}{u:Value},Inv (qK CX P w K mg base N qual scope f cdv A outer s H E) [] σ' H' s'->RelV v u->Q v H'->CE outer P w H s Q u s':=
  λ{σ' H' v u} J rv q=>⟨v,H',J.os,J.bare,J.base,J.hok,rv,q⟩
 cases fl with
 |ret u=>
  obtain⟨v,σ',H',J,rv,q⟩:=hs;exact fin J rv q
 |next=>
  obtain⟨σ',H',J,q⟩:=hs;exact fin (v:=V.aQ) (u:=Value.none) J rfl q
 |brk=>
  obtain⟨_,_,_,q⟩:=hs;exact False.elim q
 |cont=>
  obtain⟨_,_,_,q⟩:=hs;exact False.elim q
section
variable{X:Cx}{x:Str}{p pos:Pos}{e:Expr}{es:List Expr}{t:TA}{id T:String}{r:List V->Hp->VK->Prop}
def Jl(r:List V->Hp->VK->Prop)(t:TA):TE:=λσ H Q=>t σ H λvs H1=>r vs H1 Q
theorem ZiO(hc:bA X (.builtin id) r)(hg:Gl X x)(hm:X.mg x=none)(hv:bootBuiltins x=some (.builtin id))(ha:PA X (e ::es) t)(hn:x ≠ "__name__":=by decide)(hdb:(x ==("__debug__":Str))=false:=by decide)
  (he:starEach (e ::es) X.env=(false,eval e X.env) ::starEach es X.env:=by rfl) (hpl:(backTo pos (starEach es X.env)).any (·.1)=false:=by rfl):PE X (.Call (.Name x p) (e ::es) [] pos) (Jl r t):=by
 intro pins s σ H Q I h;refine aob (sf I hg hm hv ?_ hn hdb);exact PyProof.Rows.callWith_builtin1 (nT (ha pos pins s σ H _ I h) λus s1 vs H1 I1 r1 q1=>hc pins s1 σ H1 vs us Q I1 r1 q1) he hpl
theorem Zhm(hc:bA X (.type T) r)(hg:Gl X x)(hm:X.mg x=none)(hv:bootBuiltins x=some (.type T))(ha:PA X (e ::es) t)(hn:x ≠ "__name__":=by decide)(hdb:(x ==("__debug__":Str))=false:=by decide)
  (he:starEach (e ::es) X.env=(false,eval e X.env) ::starEach es X.env:=by rfl) (hpl:(backTo pos (starEach es X.env)).any (·.1)=false:=by rfl):PE X (.Call (.Name x p) (e ::es) [] pos) (Jl r t):=by
 intro pins s σ H Q I h;refine aob (sf I hg hm hv ?_ hn hdb);exact a5z (nT (ha pos pins s σ H _ I h) λus s1 vs H1 I1 r1 q1=>hc pins s1 σ H1 vs us Q I1 r1 q1) he hpl
end
end L2
namespace HT
open PySem PyProof.Rows
theorem qJ(A:Around)(s:Shared)(a:Int)(t:Tok)(c:Int)(u:Tok):∃e,SeqAt.EqAt A s (.int a t) (.int c u) e/\(e=true↔a=c):=
 ⟨(a ==c),SeqAt.EqAt.int_int a t c u,by simp⟩
section
open PySem.SeqAt
open PySem.AutoSeq1 (wpAny_loadPart')
open PySem.MeetsSeq PySem.MeetsSeq2 PySem.MeetsSeq3
end
section
variable{prog:Program}{w:World}{A:Around}{E:Value->Shared->Prop}{s:Shared}
def jk(n d:Nat):Option Int->Nat
 |none=>d
 |some v=>if v<0 then(v+(n:Int)).toNat else min v.toNat n
theorem wA(n d:Nat):jk n d none=d:=rfl
theorem tU(n d k:Nat):jk n d (some (k:Int))=min k n:=by
 show(if(k:Int)<0 then((k:Int)+(n:Int)).toNat else min (k:Int).toNat n)=min k n;rw[aoK (by lia),a2i]
end
end HT
namespace L2
open PySem PySem.Spec PyProof.Rows
abbrev TO:=St->Hp->(Option Int->Hp->Prop)->Prop
def PO(X:Cx)(e:Option Expr)(t:TO):Prop:=
 ∀(pins:List (Addr×Obj))(s:Shared)(σ:St)(H:Hp)(Q:Option Int->Hp->Prop),Inv X pins σ H s->t σ H Q ->
  wpAny (model X.prog X.w) X.A (evalPart e X.env) (λu s'=>∃o H',Inv X pins σ H' s'/\IsPart u o/\Q o H') X.xe s
def Zkk:TO:=λ_ H Q=>Q none H
def Fg(t:TE):TO:=λσ H Q=>t σ H λx H1=>∃i,x=.int i/\Q (some i) H1
theorem K0{ns:List Int}:∀{us:List Value},Vals (ns.map V.int) us->IntsAre us ns:=by
 induction ns with
 |nil=>intro us r;rw[map_nil]at r;cases r;exact .nil
 |cons n ns ih=>
  intro us r;rw[aSM]at r;cases r with
  |cons r1 r2=>
   obtain⟨t,e⟩:=r1;subst e;exact .cons n t (ih r2)
section
variable{X:Cx}{e:Expr}{te:TE}{lo hi:Option Expr}{tl th:TO}{pos p2:Pos}
theorem Zkl:PO X none Zkk:=by
 intro pins s σ H Q I h;rw[evalPart_none];exact anq ⟨none,H,I,.none,h⟩
theorem NQ(h:PE X e te):PO X (some e) (Fg te):=by
 intro pins s σ H Q I hw;rw[evalPart_some];refine eL (h pins s σ H _ I hw) λu s1 x H1 I1 r1 q1=>?_;obtain⟨i,rfl,q⟩:=q1;obtain⟨t,rfl⟩:=r1;exact⟨some i,H1,I1,.int i t,q⟩
def Ot(X:Cx)(r:V->Option Int->Option Int->Hp->VK->Prop):Prop:=
 ∀(pins:List (Addr×Obj))(s:Shared)(σ:St)(H:Hp)(x:V)(v vl vu:Value)(lo hi:Option Int)(sl:Addr)(Q:VK),Inv X pins σ H s->RelV x v->s.heap.IsSliceOf sl vl vu .none->IsPart vl lo->IsPart vu hi->r x lo hi H Q ->
  ∃T id,typeLookup (.type T) "__getitem__"=pure (some (.builtin id))/\s.TypeIs v T/\wpAny (model X.prog X.w) X.A (getItem v (.ref sl)) (EP X pins σ Q) X.xe s
def VX(r:V->Option Int->Option Int->Hp->VK->Prop)(te:TE)(tl th:TO):TE:=λσ H Q=>te σ H λx H1=>tl σ H1 λl H2=>th σ H2 λu H3=>r x l u H3 Q
theorem SG{r:V->Option Int->Option Int->Hp->VK->Prop}(hr:Ot X r)(he:PE X e te)(hl:PO X lo tl)(hu:PO X hi th):PE X (.Subscript e (.Slice lo hi none p2) pos) (VX r te tl th):=by
 intro pins s σ H Q I h;refine Subscript_ (eL (he pins s σ H _ I h) λv s1 x H1 I1 r1 q1=>?_);refine wpAny_Slice (bS (hl pins s1 σ H1 _ I1 q1) λvl s2 ⟨l,H2,I2,pl,q2⟩=>bS (hu pins s2 σ H2 _ I2 q2) λvu s3 ⟨u,H3,I3,pu,q3⟩=>?_);rw[evalPart_none];refine anq ?_;have I4:Inv X pins σ H3 { s3 with heap:=s3.heap.push { cls:=.type "slice",data:=.fields #[vl,vu,.none] } }:=I3.kept (t':=s3.toks) λb ob q=>a8G _ q;obtain⟨T,id,hT,ht,hg⟩:=hr pins { s3 with heap:=s3.heap.push { cls:=.type "slice",data:=.fields #[vl,vu,.none] } } σ H3 x v vl vu l u s3.heap.objs.size Q I4 r1 (Heap.IsSliceOf.new ..) pl pu q3;show wpAny (model X.prog X.w) X.A (subscriptTail e (.Slice lo hi none p2) v (.ref s3.heap.objs.size)) (EP X pins σ Q) X.xe { s3 with heap:=s3.heap.push { cls:=.type "slice",data:=.fields #[vl,vu,.none] } };exact tail_any (ops:=[.ref s3.heap.objs.size,v]) ht hT hg (by with_unfolding_all rfl)
def qL(xs:List V)(lo hi:Option Int):List V:=(xs.drop (HT.jk xs.length 0 lo)).take (HT.jk xs.length xs.length hi-HT.jk xs.length 0 lo)
theorem ZeH(xs:List V)(lo hi:Option Int):(qL xs lo hi).length<=xs.length:=by
 unfold qL;rw[a1R,aLq];lia
end
def vn(n:Nat)(i:Int):Option Nat:=if 0<=i then(if i<n then some i.toNat else none) else if -(n:Int)<=i then some (i+n).toNat else none
def fP{α:Type}(xs:List α)(i:Int):Option α:=(vn xs.length i).bind λj=>xs[j]?
theorem RM{n:Nat}{i:Int}{j:Nat}(h:vn n i=some j):seqIndex? i n=some j/\j<n /\ -(n:Int)<=i/\i<n:=by
 unfold vn at h;by_cases h0:0<=i
 .rw [aYH h0]at h;by_cases h1:i<n
  .rw [aYH h1]at h;have e:i.toNat=j:=aDb h;exact⟨by rw[seqIndex_of h0 h1,e],by lia,by lia,h1⟩
  .rw [aoK h1]at h;cases h
 .rw [aoK h0]at h;by_cases h1: -(n:Int)<=i
  .rw [aYH h1]at h;have e:(i+n).toNat=j:=aDb h;exact⟨by rw[seqIndex_neg (by lia) h1,e],by lia,h1,by lia⟩
  .rw [aoK h1]at h;cases h
theorem RL{α:Type}{xs:List α}{i:Int}{v:α}(h:fP xs i=some v):∃j,seqIndex? i xs.length=some j/\xs[j]?=some v/\j<xs.length /\ -(xs.length:Int)<=i/\i<xs.length:=by
 unfold fP at h;cases e:vn xs.length i with
 |none=>rw[e]at h;cases h
 |some j=>
  rw[e]at h;obtain⟨h1,h2,h3,h4⟩:=RM e;exact⟨j,h1,h,h2,h3,h4⟩
theorem yp{α:Type}{xs:List α}{j:Nat}{v:α}(h:xs[j]?=some v):fP xs (j:Int)=some v:=by
 have hj:j<xs.length:=(azG.mp h).1;have e:vn xs.length (j:Int)=some j:=by
  unfold vn;rw[aYH (by lia),aYH (by lia)];simp
 unfold fP;rw[e];exact h
def Zkm(b:Expr):Prop:=∀o i,subscripted b false o i=operate [o,i] (getItem o i)
def IQ(X:Cx)(r:R2):Prop:=
 ∀(value slice:Expr)(pins:List (Addr×Obj))(s:Shared)(σ:St)(H:Hp)(x y:V)(v u:Value)(Q:VK),Inv X pins σ H s->RelV x v->RelV y u->r x y H Q ->
  subscripted slice false v u=operate [v,u] (getItem v u)->wpAny (model X.prog X.w) X.A (subscriptTail value slice v u) (EP X pins σ Q) X.xe s
def MtR(X:Cx)(id:String)(r:V->List V->Hp->VK->Prop):Prop:=
 ∀(pins:List (Addr×Obj))(s:Shared)(σ:St)(H:Hp)(x:V)(xs:List V)(v:Value)(us:List Value)(Q:VK),Inv X pins σ H s->RelV x v->Vals xs us->r x xs H Q ->
  wpAny (model X.prog X.w) X.A (call (.builtin id) (v ::us)) (EP X pins σ Q) X.xe s
section
variable{X:Cx}{a b:Expr}{ta tb:TE}{pos:Pos}
theorem au{r:R2}(hr:IQ X r)(ha:PE X a ta)(hb:PE X b tb)(hs:Zkm b):PE X (.Subscript a b pos) (Jk r ta tb):=by
 intro pins s σ H Q I h;exact Subscript_ (CT ha hb I h λv u s2 x y H2 I2 rx ry q=>hr a b pins s2 σ H2 x y v u Q I2 rx ry q (hs _ _))
inductive BI(K:W.Frag)(x:V)(y:V)(H:Hp)(Q:VK):Prop
 |mk (p xs i v:_):x=.ref p->y=.int i->aB K H p xs->fP xs i=some v->Q v H->BI K x y H Q
inductive BH(K:W.Frag)(x:V)(y:V)(H:Hp)(Q:VK):Prop
 |mk (p xs i v:_):x=.ref p->y=.int i->aX K H p xs->fP xs i=some v->Q v H->BH K x y H Q
theorem Zkn:IQ X (BI X.K):=by
 intro value slice pins s σ H x y v u Q I rx ry h hs;obtain⟨p,xs,i,z,rfl,rfl,hq,he,q⟩:=h;cases rx;obtain⟨t,rfl⟩:=ry;obtain⟨its,r,pl,hz⟩:=I.list hq;obtain⟨j,h1,h2,h3,h4,h5⟩:=RL he;obtain⟨w,ew,rw'⟩:=r.get h2;have hl:=r.length;have hn:=Kd;have fin:EP X pins σ Q w s:=⟨z,H,I,rw',q⟩;by_cases h0:0<=i
 .have hj:i.toNat=j:=by
   rw[seqIndex_of h0 h5]at h1;exact aDb h1
  exact item_listR pl.isList h0 (by lia) (by rw[hj];simpa using ew) fin hs
 .have hj:(i+(its.toArray.size:Int)).toNat=j:=by
   rw[seqIndex_neg (by lia) h4]at h1;rw[aBb,<-hl];exact aDb h1
  exact subscriptTail_builtinR (x:=w) pl.isList.typeIs slot_list_getitem.lookup
   (wpAny_getItem_list_neg (Q:=λr s'=>r=w/\EP X pins σ Q r s') pl.isList (by lia) (by rw[aBb] <;> lia) (by lia) (by rw[hj];simpa using ew) ⟨rfl,fin⟩) hs
theorem Z6:IQ X (BH X.K):=by
 intro value slice pins s σ H x y v u Q I rx ry h hs;obtain⟨p,xs,i,z,rfl,rfl,hq,he,q⟩:=h;cases rx;obtain⟨t,rfl⟩:=ry;obtain⟨its,r,pl,hz⟩:=I.tuple hq;obtain⟨j,h1,h2,h3,h4,h5⟩:=RL he;obtain⟨w,ew,rw'⟩:=r.get h2;have hl:=r.length;have hn:=Kd;have fin:EP X pins σ Q w s:=⟨z,H,I,rw',q⟩;exact subscriptTail_builtinR (x:=w) pl.typeIs slot_tuple_getitem.lookup
  (getItem_tuple (j:=j) (Q:=λr s'=>r=w/\EP X pins σ Q r s') pl (by lia) (by lia) (by rw[aBb,<-hl];exact h1) (by simpa using ew) ⟨rfl,fin⟩) hs
theorem ZgD(its:List Value)(n j:Nat)(u:Value):Obj.mapSeq (·.setIfInBounds j u) { cls:=.type "list",data:=.seq its.toArray n }={ cls:=.type "list",data:=.seq (its.set j u).toArray n }:=by
 simp[Obj.mapSeq]
theorem Inv.lst{pins:List (Addr×Obj)}{σ:St}{H:Hp}{s:Shared}{p:Addr}{xs:List V}(I:Inv X pins σ H s)(h:H p=some (.lst xs)) :
  ∃(its:List Value)(n:Nat),Vals xs its/\s.heap.get? p=some { cls:=.type "list",data:=.seq its.toArray n }/\xs.length<=sizeLine:=by
 obtain⟨z,its,n,r,e⟩:=I.hok p _ h;exact⟨its,n,r,e,z⟩
theorem Inv.Cn{pins:List (Addr×Obj)}{σ:St}{H:Hp}{s:Shared}{p:Addr}{xs ys:List V}{its its':List Value}{n n':Nat}{f:Obj->Obj}(I:Inv X pins σ H s)(h:H p=some (.lst xs))
  (ho:s.heap.get? p=some { cls:=.type "list",data:=.seq its.toArray n }) (hf:f { cls:=.type "list",data:=.seq its.toArray n }={ cls:=.type "list",data:=.seq its'.toArray n' }) (r:Vals ys its') (hz:ys.length<=sizeLine) (t:Nat) :
  Inv X pins σ (upd H p (.lst ys)) { s with heap:=s.heap.update p f,toks:=t }:=by
 have e:(s.heap.update p f).get? p=some { cls:=.type "list",data:=.seq its'.toArray n' }:=by
  rw[aWr f ho (by rw[hf] <;> rfl),hf]
 refine I.write (x:=p) (e:=p) (by rw[h];trivial) (.inl rfl) (λb u hb q=>(alE _ _ (avX hb)).trans q) ⟨_,e⟩ ?_;exact⟨hz,its',n',r,e⟩
def FI:V->V->V->Hp->(Hp->Prop)->Prop:=λo i v H Q=>∃p xs k j,o=.ref p/\i=.int k/\H p=some (.lst xs)/\vn xs.length k=some j/\Q (upd H p (.lst (xs.set j v)))
theorem De:II X FI:=by
 intro pins s σ H o i v ov iv u Q I ro ri rv h;obtain⟨p,xs,k,j,rfl,rfl,hp,hj,q⟩:=h;cases ro;obtain⟨t,rfl⟩:=ri;obtain⟨its,n,r,ho,hz⟩:=I.lst hp;obtain⟨h1,h2,h3,h4⟩:=RM hj;have hl:=r.length;have hn:=Kd;have I':Inv X pins σ (upd H p (.lst (xs.set j v))) { s with heap:=s.heap.update p (Obj.mapSeq (·.setIfInBounds j u)) }:=
  I.Cn hp ho (ZgD its n j u) (r.set rv j) (by rw[aO6];exact hz) s.toks
 by_cases h0:0<=k
 .have hk:k.toNat=j:=by
   rw[seqIndex_of h0 h4]at h1;exact aDb h1
  exact W.ki_setAt ho h0 (by lia) (by rw[aBb,<-hl];exact h4) (by rw[hk];exact⟨_,I',q⟩)
 .have hk:(k+(its.toArray.size:Int)).toNat=j:=by
   rw[seqIndex_neg (by lia) h3]at h1;rw[aBb,<-hl];exact aDb h1
  exact W.ki_setBack ho (by lia) (by rw[aBb,<-hl];exact h3) (by lia) (by rw[hk];exact⟨_,I',q⟩)
theorem ZdR(lo hi:Option Int)(n:Nat):(sliceBounds lo hi none n).1=((HT.jk n 0 lo:Nat):Int)/\(sliceBounds lo hi none n).2.1=((HT.jk n n hi:Nat):Int)/\(sliceBounds lo hi none n).2.2=1:=by
 refine⟨?_,?_,rfl⟩
 .cases lo with
  |none=>simp[sliceBounds,HT.jk]
  |some i=>
   simp only[sliceBounds,HT.jk,Option.getD_none,show(1:Int)>0 by decide,ban];by_cases h:i<0
   .simp only[h,ban] <;> lia
   .simp only[h,bdb] <;> lia
 .cases hi with
  |none=>simp[sliceBounds,HT.jk]
  |some i=>
   simp only[sliceBounds,HT.jk,Option.getD_none,show(1:Int)>0 by decide,ban];by_cases h:i<0
   .simp only[h,ban] <;> lia
   .simp only[h,bdb] <;> lia
theorem Zdb(its:List Value)(lo hi:Option Int):slicePick its.toArray lo hi none=((its.drop (HT.jk its.length 0 lo)).take (HT.jk its.length its.length hi-HT.jk its.length 0 lo)).toArray:=by
 obtain⟨h1,h2,h3⟩:=ZdR lo hi its.toArray.size;unfold slicePick;rw[h1,h2,h3];simp only[sliceRange_one,pick_run,aBb] <;> rfl
inductive BG(K:W.Frag)(x:V)(lo:Option Int)(hi:Option Int)(H:Hp)(Q:VK):Prop
 |mk (a xs:_):x=.ref a->aB K H a xs->(∀p,H p=none->Q (.ref p) (upd H p (.lst (qL xs lo hi))))->BG K x lo hi H Q
theorem Zko:Ot X (BG X.K):=by
 intro pins s σ H x v vl vu lo hi sl Q I rx hs pl pu h;obtain⟨a,xs,rfl,hx,q⟩:=h;cases rx;obtain⟨its,r,ht,hz⟩:=I.list hx;have hlen:=r.length;refine⟨"list",_,slot_list_getitem.lookup,ht.isList.typeIs,?_⟩;refine wpAny_getItem_list_slice ht.isList hs pl pu .none (by simp) ?_ (by rw[aBb] <;> lia);rw[Zdb,<-hlen];refine⟨.ref s.heap.objs.size,_,I.laid (t':=s.toks) (o:=.lst (qL xs lo hi)) (λb ob q=>a8G _ q) (apX _) ?_,rfl,q _ (I.hok.fresh (apX _))⟩;exact⟨alM (ZeH xs lo hi) hz,_,0,(r.drop (HT.jk xs.length 0 lo)).take (HT.jk xs.length xs.length hi-HT.jk xs.length 0 lo),aIn _ rfl⟩
def ic:V->Bool
 | .aQ=>true
 | .bl _=>true
 | .int _=>true
 | .str _=>true
 |_=>false
def A6:V->V->Bool
 | .aQ,.aQ=>true
 | .bl a,.bl b=>a ==b
 | .bl a,.int b=>(if a then 1 else 0) ==b
 | .int a,.bl b=>a ==(if b then 1 else 0)
 | .int a,.int b=>a ==b
 | .str a,.str b=>a ==b
 |_,_=>false
theorem Z5{A:Around}{s:Shared}{y x:V}{u v:Value}(ry:RelV y u)(rx:RelV x v)(fy:ic y=true)(fx:ic x=true):SeqAt.EqAt A s u v (A6 y x):=by
 cases y with
 |aQ=>
  cases ry;cases x with
  |aQ=>cases rx;exact SeqAt.EqAt.same _
  |bl b=>cases rx;exact SeqAt.EqAt.none_bool b
  |int b=>obtain⟨t,rfl⟩:=rx;exact SeqAt.EqAt.none_int b t
  |str b=>obtain⟨t,rfl⟩:=rx;exact SeqAt.EqAt.none_str b t
  |_=>exact absurd (show false=true from fx) aPf
 |bl a=>
  cases ry;cases x with
  |aQ=>cases rx;exact SeqAt.EqAt.bool_none a
  |bl b=>cases rx;exact SeqAt.EqAt.bool_bool a b
  |int b=>obtain⟨t,rfl⟩:=rx;exact SeqAt.EqAt.bool_int a b t
  |str b=>obtain⟨t,rfl⟩:=rx;exact SeqAt.EqAt.bool_str a b t
  |_=>exact absurd (show false=true from fx) aPf
 |int a=>
  obtain⟨t',rfl⟩:=ry;cases x with
  |aQ=>cases rx;exact SeqAt.EqAt.int_none a t'
  |bl b=>cases rx;exact SeqAt.EqAt.int_bool a t' b
  |int b=>obtain⟨t,rfl⟩:=rx;exact SeqAt.EqAt.int_int a t' b t
  |str b=>obtain⟨t,rfl⟩:=rx;exact SeqAt.EqAt.int_str a t' b t
  |_=>exact absurd (show false=true from fx) aPf
 |str a=>
  obtain⟨t',rfl⟩:=ry;cases x with
  |aQ=>cases rx;exact SeqAt.EqAt.str_none a t'
  |bl b=>cases rx;exact SeqAt.EqAt.str_bool a t' b
  |int b=>obtain⟨t,rfl⟩:=rx;exact SeqAt.EqAt.str_int a t' b t
  |str b=>obtain⟨t,rfl⟩:=rx;exact SeqAt.EqAt.str_str a t' b t
  |_=>exact absurd (show false=true from fx) aPf
 |_=>exact absurd (show false=true from fy) aPf
def zD(x:V)(u:Value):Bool:=match u with
 | .none=>A6 .aQ x
 | .bool b=>A6 (.bl b) x
 | .int i _=>A6 (.int i) x
 | .str z _=>A6 (.str z) x
 |_=>false
theorem Rj{x y:V}{u:Value}(r:RelV y u)(f:ic y=true):zD x u=A6 y x:=by
 cases y with
 |aQ=>cases r;rfl
 |bl b=>cases r;rfl
 |int i=>obtain⟨t,rfl⟩:=r;rfl
 |str z=>obtain⟨t,rfl⟩:=r;rfl
 |_=>exact absurd (show false=true from f) aPf
theorem NP{x:V}:∀{xs:List V}{us:List Value},Vals xs us->xs.all ic=true->us.any (zD x)=xs.any λy=>A6 y x
 |_,_,.nil,_=>rfl
 |y ::xs,u ::us,.cons r t,f=>by
  rw[all_cons,aJO]at f;rw[any_cons,any_cons,Rj r f.1,NP t f.2]
theorem N5{A:Around}{s:Shared}{x:V}{v:Value}(rx:RelV x v)(fx:ic x=true):∀{xs:List V}{us:List Value},Vals xs us->xs.all ic=true->∀u∈us,SeqAt.EqAt A s u v (zD x u)
 |_,_,.nil,_=>λu hu=>by cases hu
 |y ::xs,u ::us,.cons r t,f=>λu' hu=>by
  rw[all_cons,aJO]at f;rcases aCP.mp hu with rfl|hu
  .rw [Rj r f.1];exact Z5 r rx f.1 fx
  .exact N5 rx fx t f.2 u' hu
def Px(x:V)(xs:List V):Bool:=xs.any λy=>A6 y x
inductive Lw(K:W.Frag) (neg:Bool)(x:V)(y:V)(H:Hp)(Q:VK):Prop
 |mk (p xs:_):y=.ref p->(aB K H p xs\/aX K H p xs)->ic x=true->xs.all ic=true->Q (.bl (if neg then !Px x xs else Px x xs)) H->Lw K neg x y H Q
theorem ZdS:lQ X (compareOp .NotIn) (Lw X.K true):=by
 intro pins s σ H x y v u Q I rx ry h;obtain⟨p,xs,rfl,hq,fx,fs,q⟩:=h;cases ry;rcases hq with hq|hq
 .obtain ⟨its,r,pl,hz⟩:=I.list hq;refine SeqAt.notIn_listAt (zD x) pl.isList (λw hw=>N5 rx fx r fs w (by simpa using hw)) ⟨.bl _,H,I,rfl,?_⟩;rw[show its.toArray.any (zD x)=its.any (zD x) by simp,NP r fs];exact q
 .obtain ⟨its,r,pl,hz⟩:=I.tuple hq;refine SeqAt.notIn_tupleAt (zD x) pl (λw hw=>N5 rx fx r fs w (by simpa using hw)) ⟨.bl _,H,I,rfl,?_⟩;rw[show its.toArray.any (zD x)=its.any (zD x) by simp,NP r fs];exact q
theorem ZdT:bA X (.builtin "len") (λxs H Q=>∃p ys,xs=[.ref p]/\(aB X.K H p ys\/aX X.K H p ys)/\Q (.int ys.length) H):=by
 intro pins s σ H xs us Q I r h;obtain⟨p,ys,rfl,hq,q⟩:=h;obtain⟨u,rfl,rx⟩:=vals1 r;cases rx;have hn:=Kd;rcases hq with hq|hq
 .obtain ⟨its,r',pl,hz⟩:=I.list hq;have hlen:=r'.length;exact Calls.call_len_list pl.isList (by simp only[aBb] <;> lia) ⟨.int ys.length,H,I.tok _,⟨s.toks+1,by rw[aBb,hlen]⟩,q⟩
 .obtain ⟨its,r',pl,hz⟩:=I.tuple hq;have hlen:=r'.length;exact len_tuple pl (by simp only[aBb] <;> lia) ⟨.int ys.length,H,I.tok _,⟨s.toks+1,by rw[aBb,hlen]⟩,q⟩
theorem ZdU:bA X (.type "list") (λxs H Q=>∃p ys,xs=[.ref p]/\(aB X.K H p ys\/aX X.K H p ys)/\∀l,H l=none->Q (.ref l) (upd H l (.lst ys))):=by
 intro pins s σ H xs us Q I r h;obtain⟨p,ys,rfl,hq,q⟩:=h;obtain⟨u,rfl,rx⟩:=vals1 r;cases rx;have fin:∀(its:List Value),Vals ys its->ys.length<=sizeLine->∀(h':Heap)(c':Nat),(∀b o',s.heap.get? b=some o'->h'.get? b=some o') ->
   h'.get? s.heap.objs.size=some { cls:=.type "list",dict:=none,data:=.seq its.toArray c',slots:=#[] }->EP X pins σ Q (.ref s.heap.objs.size) { s with heap:=h' }:=λits r' hz h' c' kp e=>
  ⟨.ref s.heap.objs.size,_,I.laid (t':=s.toks) kp (apX _) (show aF X.prog X.w _ h' _ (.lst ys) from⟨hz,its,c',r',e⟩),rfl,q _ (I.hok.fresh (apX _))⟩
 rcases hq with hq|hq
 .obtain ⟨its,r',pl,hz⟩:=I.list hq;have hlen:=r'.length;obtain⟨o,ho,hc,n,hd⟩:=pl.isList;exact call_list_seq p (.inl rfl) ho hc hd (λh' c' kp e=>fin its r' hz h' c' kp e) (by simp only[aBb] <;> lia)
 .obtain ⟨its,r',pl,hz⟩:=I.tuple hq;have hlen:=r'.length;obtain⟨o,ho,hc,n,hd⟩:=pl;exact call_list_seq p (.inr rfl) ho hc hd (λh' c' kp e=>fin its r' hz h' c' kp e) (by simp only[aBb] <;> lia)
theorem Zdd:bA X (.type "tuple") (λxs H Q=>∃p ys,xs=[.ref p]/\((aB X.K H p ys/\∀l,H l=none->Q (.ref l) (upd H l (.tup ys)))\/(aX X.K H p ys/\Q (.ref p) H))):=by
 intro pins s σ H xs us Q I r h;obtain⟨p,ys,rfl,h⟩:=h;obtain⟨u,rfl,rx⟩:=vals1 r;cases rx;rcases h with⟨hq,q⟩|⟨hq,q⟩
 .obtain ⟨its,r',pl,hz⟩:=I.list hq;have hlen:=r'.length;refine call_tuple_list pl.isList (λh' kp=>?_) (by simp only[aBb] <;> lia);have I1:Inv X pins σ H { s with heap:=h' }:=I.kept (t':=s.toks) kp;have I2:Inv X pins σ (upd H h'.objs.size (.tup ys)) { s with heap:=h'.push { cls:=.type "tuple",data:=.seq its.toArray } }:=
   I1.laid (t':=s.toks) (λb o e=>a8G _ e) (apX _) (show aF X.prog X.w _ _ _ (.tup ys) from⟨hz,its,r',IsTup.new _ _⟩)
  exact⟨.ref h'.objs.size,_,I2,rfl,q _ (I1.hok.fresh (apX _))⟩
 .obtain ⟨its,r',pl,hz⟩:=I.tuple hq;exact call_tuple_same pl ⟨.ref p,H,I,rfl,q⟩
def ON(K:W.Frag)(T:String)(x:V)(H:Hp):Prop:=match x with
 | .str _=>T ="str"
 | .int _=>T ="int"
 | .ref p=>(T ="list" /\ ∃xs,aB K H p xs)\/(T ="tuple" /\ ∃o,K.lookup p=some o/\o.cls=.type "tuple" /\o.dict=none) \/
   (T ="dict" /\((∃kvs,H p=some (.dK kvs))\/∃kvs,H p=some (.dT kvs)))\/(T ="set" /\ ∃S n,H p=some (.set S n))
 |_=>False
theorem Z4{pins:List (Addr×Obj)}{σ:St}{H:Hp}{s:Shared}{T:String}{x:V}{v:Value}(I:Inv X pins σ H s)(r:RelV x v)(ty:ON X.K T x H) :
  s.TypeIs v T/\∀a,v=.ref a->∃ob,s.heap.get? a=some ob/\ob.dict=none:=by
 cases x with
 |str z=>
  obtain⟨t,rfl⟩:=r;cases(show T ="str" from ty);exact⟨typeIs_str s z t,λ_ e=>nomatch e⟩
 |int i=>
  obtain⟨t,rfl⟩:=r;cases(show T ="int" from ty);exact⟨typeIs_int s i t,λ_ e=>nomatch e⟩
 |ref p=>
  cases r;rcases ty with⟨rfl,xs,hq⟩|⟨rfl,o,hk,hc,hd⟩|⟨rfl,hk⟩|⟨rfl,S,n,hk⟩
  .obtain ⟨its,_,pl,_⟩:=I.list hq;refine⟨pl.isList.typeIs,λa e=>?_⟩;cases e;obtain⟨o,n,e,c,hd,_⟩:=pl;exact⟨o,e,hd⟩
  .refine ⟨⟨o,I.dD p o hk,hc⟩,λa e=>?_⟩;cases e;exact⟨o,I.dD _ o hk,hd⟩
  .have z:∃o,s.heap.get? p=some o/\o.ExactDict:=by
    rcases hk with⟨kvs,hk⟩|⟨kvs,hk⟩
    .obtain ⟨_,_,_,_,o,_,_,e,ex,_⟩:=I.hok p _ hk;exact⟨o,e,ex⟩
    .obtain ⟨_,_,_,_,o,_,_,e,ex,_⟩:=I.hok p _ hk;exact⟨o,e,ex⟩
   obtain⟨o,e,ex⟩:=z;refine⟨⟨o,e,ex.1⟩,λa e2=>?_⟩;cases e2;exact⟨o,e,ex.2.1⟩
  .obtain ⟨o,_,_,_,e,ex,_⟩:=I.hok p _ hk;refine⟨⟨o,e,ex.1⟩,λa e2=>?_⟩;cases e2;exact⟨o,e,ex.2.1⟩
 |_=>exact False.elim ty
def Li(K:W.Frag)(T:String)(r:V->List V->Hp->VK->Prop)(to:TE)(t:TA):TE:=λσ H Q=>to σ H λx H1=>ON K T x H1/\t σ H1 λxs H2=>r x xs H2 Q
variable{o e:Expr}{es:List Expr}{to:TE}{t:TA}{name:Str}{apos cpos:Pos}{T id:String}{r:V->List V->Hp->VK->Prop}
theorem jn(pa:PlainAttrs T)(slot:Slot T name id)(hty:typeOf (.builtin id)=pure (.type "method_descriptor"))(hm:MtR X id r)(ho:PE X o to)(ha:PA X (e ::es) t)
  (hbase:attributeBase o name X.env (eval o X.env)=eval o X.env:=by rfl)
  (hfew:((backTo cpos (starEach (e ::es) X.env)).all (λx=>!x.1) && (backToKw cpos (keywordEach [] X.env)).all (λx=>x.1.isSome)
   && decide ((e ::es).length+([]:List Keyword).length+(if([]:List Keyword).isEmpty then 0 else 1)<30))=true:=by rfl)
  (hline:(apos.endLine ==cpos.line)=true:=by rfl) (hs:starEach (e ::es) X.env=(false,eval e X.env) ::starEach es X.env:=by rfl) (hplain:(backTo cpos (starEach es X.env)).any (·.1)=false:=by rfl) :
  PE X (.Call (.Attribute o name apos) (e ::es) [] cpos) (Li X.K T r to t):=by
 intro pins s σ H Q I h;refine wpAny_Call_method_late hbase hfew hline rfl (bS (ho pins s σ H _ I h) λv s1 ⟨x,H1,I1,r1,ty,q1⟩=>?_);obtain⟨h1,h2⟩:=Z4 I1 r1 ty;refine⟨T,id,pa,slot,hty,h1,h2,?_⟩;have hA:=ha cpos pins s1 σ H1 _ I1 q1;rw[hs]at hA ⊢;refine a0x (by show(false || (backTo cpos (starEach es X.env)).any (·.1))=false;rw[hplain] <;> rfl) (adL ?_);exact bS hA λus s2 ⟨vs,H2,I2,r2,q2⟩=>hm pins s2 σ H2 x vs v us Q I2 r1 r2 q2
/- xs.append(e),list.index on a module's tuple .. are MtR facts of 06m -/
end
def UG(X:Cx)(id:String)(r:V->List V->Hp->VK->Prop):Prop:=
 ∀(pins:List (Addr×Obj))(s:Shared)(σ:St)(H:Hp)(x:V)(xs:List V)(v:Value)(us:List Value)(Q:VK),Inv X pins σ H s->RelV x v->Vals xs us->r x xs H Q ->
  wpAny (model X.prog X.w) X.A (call (.builtin id) (v ::us)) (EP X pins σ Q) X.xe s
theorem Vals.one:∀{x:V}{us:List Value},Vals [x] us->∃u,us=[u]/\RelV x u
 |_,_,.cons r .nil=>⟨_,rfl,r⟩
section
variable{X:Cx}{pins:List (Addr×Obj)}{σ:St}{H:Hp}{s:Shared}{l b:Addr}{xs ys zs:List V}
theorem Inv.xg{its its':List Value}{n:Nat}{f:Array Value->Array Value}{t':Nat}(I:Inv X pins σ H s)(hH:H l=some (.lst xs))
  (e:s.heap.get? l=some { cls:=.type "list",data:=.seq its.toArray n }) (hf:f its.toArray=its'.toArray) (hv:Vals ys its') (hz:ys.length<=sizeLine) :
  Inv X pins σ (upd H l (.lst ys)) { s with heap:=s.heap.update l (Obj.mapSeq f),toks:=t' }:=by
 have q:=PySem.IsL.update e f;rw[hf]at q;refine I.write (x:=l) (e:=l) (by rw[hH];exact trivial) (.inl rfl) (λb' u hb hu=>(alE s.heap (Obj.mapSeq f) (avX hb)).trans hu) ⟨_,q⟩ ?_;exact⟨hz,its',_,hv,q⟩
theorem Inv.LU{its:List Value}{t':Nat}(I:Inv X pins σ H s)(hv:Vals ys its)(hz:ys.length<=sizeLine) :
  Inv X pins σ (upd H s.heap.objs.size (.lst ys)) { s with heap:=s.heap.push { cls:=.type "list",data:=.seq its.toArray },toks:=t' }:=
 I.laid (λ_ _ q=>a8G _ q) (apX _) ⟨hz,its,0,hv,aIn _ rfl⟩
theorem Inv.fresh(I:Inv X pins σ H s):H s.heap.objs.size=none:=I.hok.fresh (apX _)
theorem Inv.w9(I:Inv X pins σ H s)(hH:H l=some (.lst xs)):xs.length<=sizeLine/\∃(its:List Value)(n:Nat),Vals xs its/\xs.length=its.length/\s.heap.get? l=some { cls:=.type "list",data:=.seq its.toArray n }:=by
 obtain⟨z,its,n,r,e⟩:=I.hok l _ hH;exact⟨z,its,n,r,r.length,e⟩
end
section
variable{X:Cx}
inductive tW(x:V)(vs:List V)(H:Hp)(Q:VK):Prop
 |mk (l xs y:_):x=.ref l->vs=[y]->H l=some (.lst xs)->xs.length<sizeLine->Q .aQ (upd H l (.lst (xs++[y])))->tW x vs H Q
theorem C9:UG X "list.append" tW:=by
 intro pins s σ H x vs v us Q I rx rv h;obtain⟨l,xs,y,rfl,rfl,hH,hz,q⟩:=h;cases rx;obtain⟨u,rfl,ru⟩:=rv.one;obtain⟨z,its,n,r,hl,e⟩:=I.w9 hH;refine call_meets F.slot_list_append ⟨_,e,rfl⟩ F.entry_list_append (F.args_list_append_2 _ _) (PySem.list_append l its.toArray n u (by rw[aBb];lia)) ⟨e,?_⟩;refine⟨.aQ,_,I.xg (its':=its++[u]) hH e (by simp) (r.append (.cons ru .nil)) ?_,rfl,q⟩;rw[aE0,ai8];lia
end
end L2
namespace UR
open PySem PySem.W PySem.Calls PyProof.Rows
theorem Zci{P:Params}{h:Heap}:∀(ns:List Int)(vs:List Value),WellAll P h vs (ns.map WData.int)->IntsAre vs ns:=by
 intro ns
 induction ns with
 |nil=>
  intro vs w;rw[map_nil]at w;cases w;exact .nil
 |cons n ns ih=>
  intro vs w;rw[aSM]at w;cases w with
  |cons a b=>
   cases a;exact .cons _ _ (ih _ b)
theorem Zhp{l:OpenLaw}{n:Nat}(hn:l.most=some n){P:Params}{h:Heap}{args:List WData}{vals:List Value}
  (hpre:l.row.toRowW.claim.pre args=true) (hwl:WellAll P h vals args) :
  ∃a vs ns,vals=[Value.ref a]/\args=[WData.list (ns.map WData.int)]/\h.get? a=some { cls:=.type "list",data:=.seq vs.toArray }/\IntsAre vs ns/\ns.length<=n:=by
 have hsh:WShape.hasAll [] args [.list .int]=true:=(pre_splitW hpre).1;have hc:l.pre.holds [] { args:=args }=true:=(pre_splitW hpre).2;obtain⟨d,r,rfl,h1,h2⟩:=hasAllW_cons hsh;obtain rfl:=hasAllW_nil h2;obtain⟨xs,rfl,h3⟩:=hasW_list h1;obtain⟨ns,rfl⟩:=items_int h3;have hlen:ns.length<=n:=by
  unfold OpenLaw.pre at hc;have h4:(WTm.not (.lt (.lit (.int (n:Int))) (.len (.arg 0)))).holds [] { args:=[.list (ns.map .int)] }=true:=by
   have h4:=(holds_andW hc).1;rw[hn]at h4;exact h4
  have h5:=condW_of h4 (w_not (w_lt w_lit (w_len_list (w_arg rfl))));rw[aW8]at h5;refine Nat.le_of_not_lt λq=>?_;have q':(n:Int)<((ns.length:Nat):Int):=by lia
  first
   |(rw[aSJ q']at h5;exact absurd h5 (by decide))
   |(simp at h5;lia)
 cases hwl with
 |cons w1 w2=>
  cases w2;cases w1 with
  |list ho hall=>exact⟨_,_,ns,rfl,rfl,ho,Zci ns _ hall,hlen⟩
theorem Zhq(l:OpenLaw)(args:List WData):l.row.toRowW.claim.post args (.bool true) args=true:=
 postW_of (r:=l.row.toRowW) (X:=(true ==true))
  (show WShape.has [] (.bool true) .bool=true by first|rfl|decide|simp[WShape.has,WShape.arms,WShape.armsAll])
  (show(WTm.eq .res (.lit (.bool true))).value [] { args:=args,res:=some (.bool true),after:=args }=some (.bool (true ==true)) from w_eq_bool (w_res rfl) w_lit) rfl
theorem qO{l:OpenLaw}{n:Nat}{q:Program}{loose:List Str}{XP:(Str->Option Value)->Heap->Prop}{YP:World->Heap->Prop}{d:DefRec}
  (hn:l.most=some n) (hdf:d.params.defaults=[])
  (call:∀(w:World)(s₀ s₁:Shared)(mg mb:Str->Option Value)(fa:Addr)(o:Obj)(pm cd doc:Value)(a:Addr)(vs:List Value)(ns:List Int),
   Ground q loose [] XP w s₀ mg mb s₁.heap->YP w s₁.heap ->
   s₁.heap.get? fa=some o->o.data=.func (docDef d.name d.params d.body d.scope pm cd doc)->s₁.heap.CodeRec cd d.name->mg d.name=some (.ref fa) ->
   s₁.heap.get? a=some { cls:=.type "list",data:=.seq vs.toArray }->IntsAre vs ns->ns.length<=n->s₁.gens=#[] ->
   codeAny (model l.prog w) callerA (.call (.ref fa) ⟨[.ref a],[]⟩) (λr s'=>r=.ok (.ret (.bool true))/\OldK s₁.heap s'.heap/\s'.os=s₁.os/\AllBare s'.gens) s₁) :
  WalkO q loose XP YP l.row.toRowW d [] (λf vs=>PySem.call f vs):=by
 intro w s₀ s₁ mg mb G Y fa o pm cd doc dV kV ho hd hcd hD hmg hg args vals as hpre hlay hrd hwl hlo;obtain rfl:dV=.none:=Dflts.none hD hdf;obtain rfl:kV=.none:=Dflts.noKw hD;obtain⟨a,vs,ns,rfl,rfl,hobj,hints,hlen⟩:=Zhp hn hpre hwl;refine enter_call (aWj (call w s₀ s₁ mg mb fa o pm cd doc a vs ns G Y ho (fd_plain hd) hcd hmg hobj hints hlen hg) λr s' hq=>?_);obtain⟨rfl,h2,h3,h4⟩:=hq;exact⟨.inl ⟨.bool true,.bool true,[],rfl,λ_=>rfl,.bool true,Zhq l _,λ_=>⟨List.Pairwise.nil,λ_ hm=>(nomatch hm)⟩⟩,h2,h3,h4⟩
end UR
namespace L2
open PySem PySem.Spec PyProof.Rows
theorem IC:∀{vs:List Value}{ns:List Int},IntsAre vs ns->Vals (ns.map V.int) vs
 |_,_,.nil=>.nil
 |_,_,.cons n t h=>.cons ⟨t,rfl⟩ (IC h)
def Zkp(s:Stmt)(j:Nat):Stmt:=match s with
 | .ClassDef _ _ _ body _ _ _ _ _ _ _=>body.getD j (.Pass ⟨0,0,0,0⟩)
 |_=>.Pass ⟨0,0,0,0⟩
def ZM(s:Stmt):Arguments:=match s with
 | .FunctionDef _ a _ _ _ _ _ _ _ _=>a
 |_=>{ posonlyargs:=[],args:=[],vararg:=none,kwonlyargs:=[],kw_defaults:=[],kwarg:=none,defaults:=[] }
def ZE(s:Stmt):List Stmt:=match s with
 | .FunctionDef _ _ b _ _ _ _ _ _ _=>b
 |_=>[]
def Zr(s:Stmt):Scope:=match s with
 | .FunctionDef _ _ _ _ _ _ sc _ _ _=>sc
 |_=>{ kind:=.function,names:=[],isGenerator:=false,isCoroutine:=false }
abbrev nR:yC:=λ_ _ _ _ _ _=>False
abbrev E0:XK:=λ_ _ _=>False
theorem uc{X:Cx}:C0 nR X E0:=λ_ _ _ _ _ _ _ h=>h.elim
structure rH(K:W.Frag)(x qual:Str)(st:Stmt)(f:Addr)(fd:FuncData):Prop where
 ex:∃(oc:Value)(od:Option Addr)(kV doc pm:Value)(an:Option Addr)(cdv ct:Value)(osl:Array (Option Value)),
  fd=W.fnOf x qual (ZM st) (ZE st) (Zr st) .none kV doc pm an cdv ct/\K.lookup f=some ⟨oc,od,.func fd,osl⟩/\W.codeIn K cdv qual=true
 kp:W.keepIn K (.ref f)=true
section
variable{P:Program}{w:World}{K:W.Frag}{mg:Str->Option Value}{base:Heap}
theorem rH.ok{x qual:Str}{st:Stmt}{f:Addr}{fd:FuncData}{N ps:List Str}{k:Nat}{sp:Sp}(F:rH K x qual st f fd)(S:fK N ps (Zr st))(len:∀vs H Q E,sp vs H Q E->vs.length=ps.length)
  (hbody:∀(cdv:Value)(A:Around)(outer:List Env)(s:Shared)(H:Hp)(vs:List V)(Q:VK)(E:XK),bu k (A.deeper (envOfC qual (Zr st) s.heap.objs.size f cdv))->sp vs H Q E ->
   ∃t,uT (qK nR P w K mg base N qual (Zr st) f cdv A outer s H E).BY (ZE st) t/\t { nx:=λ_ H'=>Q .aQ H',rt:=Q } (start N vs) H):b9 P w K mg base nR (k+1) f fd ps sp:=by
 obtain⟨oc,od,kV,doc,pm,an,cdv,ct,osl,rfl,lk,hcd⟩:=F.ex;refine A3 lk hcd S len λA outer s H vs Q E hr rX=>?_;obtain⟨t,h,q⟩:=hbody cdv A outer s H vs Q E hr rX;exact⟨t,h.BY,q⟩
theorem rH.binds{x qual:Str}{st:Stmt}{f:Addr}{fd:FuncData}{ps:List Str}(F:rH K x qual st f fd)
  (h:∀(kV doc pm:Value)(an:Option Addr)(cdv ct:Value)(us:List Value),us.length=ps.length->bindArgs (W.fnOf x qual (ZM st) (ZE st) (Zr st) .none kV doc pm an cdv ct) ⟨us,[]⟩=pure (ps.zip us)):Binds K fd ps []:=by
 obtain⟨oc,od,kV,doc,pm,an,cdv,ct,osl,rfl,lk,hcd⟩:=F.ex;exact .all (h kV doc pm an cdv ct)
theorem Bh{x qual:Str}{st:Stmt}{f:Addr}{oc:Value}{od an:Option Addr}{osl:Array (Option Value)}{kV doc pm cdv ct:Value}(l:K.lookup f=some ⟨oc,od,.func (W.fnOf x qual (ZM st) (ZE st) (Zr st) .none kV doc pm an cdv ct),osl⟩)
  (c:W.codeIn K cdv qual=true) (k:W.keepIn K (.ref f)=true):rH K x qual st f (W.fnOf x qual (ZM st) (ZE st) (Zr st) .none kV doc pm an cdv ct):=⟨⟨oc,od,kV,doc,pm,an,cdv,ct,osl,rfl,l,c⟩,k⟩
end
theorem AW{A:Around}{k:Nat}(hr:bu k A):A.units+1<cLine:=a3J (Nat.add_le_add_left (by decide:1<=64) _) hr.units
theorem Zz{n:Nat}(h:n<=1000):n<sizeLine:=a3J h (by decide)
section
variable{X:Cx}
theorem pv(i:Nat){x:Str}{pos:Pos}(hN:X.N[i]?=some x:=by rfl)(hv:IE X.env.scope x:=by first|exact Or.inl rfl|exact Or.inr (Or.inl rfl)|exact Or.inr (Or.inr rfl))(hd:(x ==("__debug__":Str))=false:=by decide)
  (hcd:(x ==("__classdict__":Str))=false:=by decide):PE X (.Name x pos) (Fd i):=Zld hN hv hd hcd
end
def ay(H H':Hp):Prop:=∀b o,H b=some o->H' b=some o
theorem ay.refl(H:Hp):ay H H:=λ_ _ h=>h
theorem ay.trans{H H1 H2:Hp}(a:ay H H1)(b:ay H1 H2):ay H H2:=λc o h=>b c o (a c o h)
theorem ay.free{H H':Hp}(e:ay H H'){l:Addr}(h:H' l=Option.none):H l=Option.none:=by
 cases q:H l with
 |none=>rfl
 |some o=>
  rw[e l o q]at h;cases h
theorem ay.seq{K:W.Frag}{H H':Hp}{a:Addr}{xs:List V}(e:ay H H')(h:aB K H a xs):aB K H' a xs:=by
 rcases h with(h|⟨o,h⟩)|h
 .exact .inl (.inl (e _ _ h))
 .exact .inl (.inr ⟨o,e _ _ h⟩)
 .exact .inr h
end L2
set_option maxHeartbeats 4000000
namespace L2
open PySem PySem.Spec PyProof.Rows
def bL(X:Cx)(N:List Str)(scope:Scope)(cl:List (Str×Addr))(C:Addr)(s0:Shared)(H0:Hp)(fp:List Addr)(pins:List (Addr×Obj)):Cx:=
 { X with N:=N,s₀:=s0,H₀:=H0,env:=compEnvC scope cl C X.env,outer:=X.stack,stack:=X.stack,ex:=fp,fn:=λx=>scope.names.lookup x ==some .cell,pn:=X.pn++pins,xe:=λ_ _=>False }
theorem Iw{env:Env}:∀(names:List (Str×NameKind))(acc:List (Str×Addr)),(∀p∈names,p.2=.free->∃c,env.cells.lookup p.1=some c)->(∀x c,acc.lookup x=some c->env.cells.lookup x=some c) ->
  ∃cl,(forIn names acc λ(x:Str×NameKind) cs=>(match x with|(name,kind)=>if(kind ==NameKind.free)=true then do let a <-cellOf env name;pure (ForInStep.yield ((name,a) ::cs)) else pure (ForInStep.yield cs):Sem (ForInStep (List (Str×Addr)))))=(pure cl:Sem (List (Str×Addr))) /\
   (∀x c,cl.lookup x=some c->env.cells.lookup x=some c)/\(∀x c,acc.lookup x=some c->cl.lookup x=some c)/\∀p∈names,p.2=.free->∃c,cl.lookup p.1=some c
 | [],acc,_,h=>⟨acc,rfl,h,λ_ _ e=>e,λ_ z=>nomatch z⟩
 |(n,k) ::r,acc,h,ha=>by
  by_cases hk:k=.free
  .subst hk;obtain⟨c,hc⟩:=h (n,.free) aAX rfl;have ha':∀x d,((n,c) ::acc).lookup x=some d->env.cells.lookup x=some d:=λx d e=>by
    rw[agO]at e;cases q:x ==n with
    |true=>
     rw[q]at e;have hxn:x=n:=by simpa using q
     subst hxn;cases e;exact hc
    |false=>
     rw[q]at e;exact ha x d e
   obtain⟨cl,e1,e2,e3,e4⟩:=Iw r ((n,c) ::acc) (λp hp=>h p (aO5 _ hp)) ha';have top:∃d,cl.lookup n=some d:=⟨c,e3 n c (by rw[agO];simp)⟩;refine⟨cl,?_,e2,λx d e=>?_,λp hp hf=>?_⟩
   .rw [aij];simp only[cellOf,hc,beq_self_eq_true,ban];exact e1
   .cases q:x ==n with
    |true=>
     have hxn:x=n:=by simpa using q
     subst hxn;have z:=ha x d e;rw[hc]at z;cases z;exact e3 x c (by rw[agO];simp)
    |false=>exact e3 x d (by rw[agO,q];exact e)
   .rcases aCP.mp hp with rfl|hp
    .exact top
    .exact e4 p hp hf
  .obtain ⟨cl,e1,e2,e3,e4⟩:=Iw r acc (λp hp=>h p (aO5 _ hp)) ha;have hb:(k ==NameKind.free)=false:=by simpa using hk
   refine⟨cl,?_,e2,e3,λp hp hf=>?_⟩
   .rw [aij];simp only[hb,aLx,bdb];exact e1
   .rcases aCP.mp hp with rfl|hp
    .exact absurd hf hk
    .exact e4 p hp hf
theorem T9{α:Type}(f:Str->α->α)(x:Str):∀l:List (Str×α),(l.map λp=>(p.1,f p.1 p.2)).lookup x=(l.lookup x).map (f x)
 | []=>rfl
 |(n,k) ::r=>by
  have ih:=T9 f x r;rw[aSM,agO,agO];cases q:x ==n with
  |true=>
   have e:x=n:=by simpa using q
   subst e;rfl
  |false=>exact ih
def CZ(env:Env)(n:Str)(k:NameKind):NameKind:=if(k ==NameKind.free && env.scope.kind == .function && env.kindOf n ==some .cell)=true then .cell else k
theorem Uy(scope:Scope)(env:Env)(x:Str):(relabel scope env).names.lookup x=(scope.names.lookup x).map (CZ env x):=by
 rw[<-T9 (CZ env) x scope.names];show(scope.names.map _).lookup x=_;congr 1
 refine aWw λp _=>?_;show(if _ then _ else _)=_;unfold CZ;split <;> rfl
theorem Ux(env:Env)(n:Str)(k:NameKind):CZ env n k=k\/(k=.free/\CZ env n k=.cell):=by
 unfold CZ;by_cases h:(k ==NameKind.free && env.scope.kind == .function && env.kindOf n ==some .cell)=true
 .refine .inr ⟨?_,aYH h⟩;rw[aJO,aJO]at h;exact aqt.mp h.1.1
 .exact .inl (aoK h)
theorem Zbd{scope:Scope}{env:Env}{x:Str}{k:NameKind}(h:scope.names.lookup x=some k) :
  (relabel scope env).names.lookup x=some k\/(k=.free/\(relabel scope env).names.lookup x=some .cell):=by
 rw[Uy,h];rcases Ux env x k with q|⟨q,q'⟩
 .exact .inl (aSc some q)
 .exact .inr ⟨q,aSc some q'⟩
theorem ZdV{scope:Scope}{env:Env}{x:Str}{k:NameKind}(h:(relabel scope env).names.lookup x=some k):∃k',scope.names.lookup x=some k'/\(k'=k\/k'=.free):=by
 rw[Uy]at h;cases q:scope.names.lookup x with
 |none=>rw[q]at h;cases h
 |some k'=>
  rw[q]at h;have h':CZ env x k'=k:=aDb h;rcases Ux env x k' with z|⟨z,_⟩
  .exact ⟨k',rfl,.inl (z.symm.trans h')⟩
  .exact ⟨k',rfl,.inr z⟩
theorem ZP{α:Type}{x:Str}:∀{l:List (Str×α)}{k:α},l.lookup x=some k->(x,k)∈l
 | [],_,h=>by simp at h
 |(n,k) ::r,k',h=>by
  rw[agO]at h;cases hx:x ==n with
  |true=>
   rw[hx]at h;cases h;have:x=n:=by simpa using hx
   subst this;exact aAX
  |false=>
   rw[hx]at h;exact aO5 _ (ZP h)
theorem Zhr{prog:Program}{w:World}{A:Around}{s:Shared}{elt target iter:PySem.Expr}{ifs:List PySem.Expr}{scope:Scope}{pos:Pos}{it acc:Value}{env:Env}{R:Result->Shared->Prop}(I:Nat->Shared->Prop)
  (turn:∀n s,I n s->wpAny (model prog w) A (pyNext it) (λr s1=>match r with
   |none=>R (.ok .next) s1
   | some v=>wpAny (model prog w) A (letOwnedTupleGo target it v) (λ_ s0=>wpAny (model prog w) A (assign target env v) (λ_ s2=>
     wpAny (model prog w) A (forIn ifs true λc r=>if r=true then do let ok <-isTrue c env (eval c env);pure (ForInStep.yield ok) else pure (ForInStep.yield r)) (λok s3=>
      if ok=true then wpAny (model prog w) A (eval elt env) (λx s4=>
       wpAny (model prog w) A (call (.builtin "list.append") [acc,x]) (λ_ s5=>∃m,m<n/\I m s5) (λ_ _=>False) s4) (λ_ _=>False) s3
      else ∃m,m<n/\I m s3) (λ_ _=>False) s2) (λ_ _=>False) s0) (λ_ _=>False) s1) (λ_ _=>False) s)
  (n:Nat) (h:I n s):codeAny (model prog w) A (.compLoop (.ListComp elt [⟨target,iter,ifs,0⟩] scope pos) 0 it acc env) R s:=by
 have body:∀n s,I n s->wpAny (model prog w) A (compTurn (.ListComp elt [⟨target,iter,ifs,0⟩] scope pos) 0 it acc env)
   (λfin s'=>match fin with| .done f=>R (.ok f) s'| .again c=>c=.compLoop (.ListComp elt [⟨target,iter,ifs,0⟩] scope pos) 0 it acc env/\∃m,m<n/\I m s') (λ_ _=>False) s:=λn s hI=>by
  rw[compTurn_list];refine agE (aIo (agE (bS (turn n s hI) λr s1 h1=>?_)));cases r with
  |none=>exact anq h1
  |some v=>
   refine agE (bS h1 λ_ s0 h0=>agE (bS h0 λ_ s2 h2=>agE (bS h2 λok s3 h3=>?_)));cases ok with
   |true=>exact agE (agE (bS h3 λx s4 h4=>agE (bS h4 λ_ s5 h5=>anq (anq ⟨rfl,h5⟩))))
   |false=>exact anq ⟨rfl,h3⟩
 exact codeAny_loop rfl I (λn s hI=>wpAny_noted (aEC (body n s hI) (λ_ _ q=>q) λ_ _ q=>q.elim)) n h
def pR(own:Nat)(js:List Nat)(wi:TI)(g:TG)(tc:TT)(te:TE):TE:=λσ H Q=>wi σ H λJ H1=>∀l,H1 l=none ->
 ∃W:Nat->Nat->List V->St->Hp->Prop,(∃m,W 0 m [] (List.replicate own none++js.map λj=>(σ[j]?).join) (upd H1 l (.lst [])))/\∀i m ys σ' H',W i m ys σ' H' ->
  (J.stop i H'/\Q (.ref l) H')\/(J.go i H'/\∀x H2,J.rL i H' x H2->g x σ' H2 λσ2 H3=>tc σ2 H3 λb H4=>
   if b=true then te σ2 H4 λy H5=>H5 l=some (.lst ys)/\ys.length<sizeLine/\∃m',m'<m/\W (i+1) m' (ys++[y]) σ2 (upd H5 l (.lst (ys++[y])))
   else ∃m',m'<m/\W (i+1) m' ys σ2 H4)
def Ak:TT:=λ_ H Q=>Q true H
structure dH(X:Cx)(scope:Scope)(N:List Str)(own:Nat)(js:List Nat):Prop where
 kind:scope.kind=.function
 cell:∀y∈scope.names,y.2=.cell->scope.names.lookup y.1=some .cell
 names:∀y∈scope.names,y.2=.local->scope.names.lookup y.1=some .local
 free:∀y∈scope.names,y.2=.free->X.env.kindOf y.1=some .cell\/X.env.kindOf y.1=some .free
 len:N.length=own+js.length
 js:∀k j,js[k]?=some j->N[own+k]?=X.N[j]?
 jf:∀k x,N[own+k]?=some x->scope.names.lookup x=some .free
theorem Un.but{fs ex:List Addr}{H H':Hp}{h h1 h2:Heap}{C:Addr}(u:Un fs ex H H' h h1)(hc:h.objs.size<=C)(sb:∀b o,b≠C->h1.get? b=some o->h2.get? b=some o):Un fs ex H H' h h2:=by
 have ne:∀b o,h.get? b=some o->b≠C:=λb o e=>amC (ae8 (aNG e) hc);refine⟨λb o q n hb hx=>sb b o (ne b o q) (u.keep b o q n hb hx),λb o q n hb hx=>?_,u.free,λb o q hx=>?_,u.tups,u.jN,u.j9⟩
 .obtain ⟨sl,e⟩:=u.slot b o q n hb hx;exact⟨sl,sb b _ (ne b o q) e⟩
 .obtain ⟨o',e⟩:=u.there b o q hx;exact⟨o',sb b o' (ne b o q) e⟩
theorem CY:∀(names:List (Str×NameKind))(n:Nat)(acc:List (Str×Addr)),cellsFrom n names acc=cellsFrom n names []++acc
 | [],_,_=>rfl
 |(x,k) ::r,n,acc=>by
  unfold cellsFrom;by_cases hk:(k ==NameKind.cell)=true
  .rw [aYH hk,aYH hk,CY r (n+1) ((x,n) ::acc),CY r (n+1) [(x,n)],azO];rfl
  .rw [aoK hk,aoK hk];exact CY r n acc
theorem NO:∀(names:List (Str×NameKind))(n:Nat)(x:Str)(c:Addr),(x,c)∈cellsFrom n names []->(x,NameKind.cell)∈names
 | [],_,_,_,h=>nomatch h
 |(y,k) ::r,n,x,c,h=>by
  unfold cellsFrom at h;by_cases hk:(k ==NameKind.cell)=true
  .rw [aYH hk,CY]at h;rcases aUH.mp h with q|q
   .exact aO5 _ (NO r _ x c q)
   .have e:(x,c)=(y,n):=by simpa using q
    cases e;have hk':k=.cell:=by simpa using hk
    subst hk';exact aAX
  .rw [aoK hk]at h;exact aO5 _ (NO r _ x c h)
theorem Um{α:Type}:∀{l:List (Str×α)}{x:Str}{c:α},(x,c)∈l->∃d,l.lookup x=some d
 |(y,v) ::r,x,c,h=>by
  rw[agO];cases q:x ==y with
  |true=>exact⟨v,rfl⟩
  |false=>
   rcases aCP.mp h with e|e
   .cases e;simp at q
   .exact Um e
theorem Nk:∀(names:List (Str×NameKind))(n:Nat)(x:Str),(x,NameKind.cell)∈names->∃c,(x,c)∈cellsFrom n names []
 | [],_,_,h=>nomatch h
 |(y,k) ::r,n,x,h=>by
  unfold cellsFrom;rcases aCP.mp h with e|e
  .cases e;rw[aYH (show(NameKind.cell ==NameKind.cell)=true from rfl),CY];exact⟨n,aEt _ (by simp)⟩
  .by_cases hk:(k ==NameKind.cell)=true
   .rw [aYH hk,CY];obtain⟨c,q⟩:=Nk r (n+1) x e;exact⟨c,aKU _ q⟩
   .rw [aoK hk];exact Nk r n x e
theorem Ui{α:Type}:∀(l m:List (Str×α))(x:Str),(l++m).lookup x=match l.lookup x with|some c=>some c|none=>m.lookup x
 | [],m,x=>rfl
 |(y,v) ::r,m,x=>by
  rw[List.cons_append,agO,agO];cases x ==y with
  |true=>rfl
  |false=>exact Ui r m x
theorem ZdW{M:Model}{A:Around}{E:Value->Shared->Prop}{s:Shared}{scope:Scope}{globals:Addr}{cl:List (Str×Addr)}{qual:Str}{env:Env}{Q:Env->Shared->Prop}
  (h:Q (newEnv scope s.heap.objs.size globals (cellsFrom (s.heap.objs.size+1) scope.names cl) qual none .none (some env) builtinsNs) { s with heap:=pushCells (s.heap.push { cls:=.type "dict",data:=.dict #[] }) scope.names }) :
  wpAny M A (newFunctionEnv scope globals cl [] qual none .none (some env)) Q E s:=by
 simp only[newFunctionEnv,Option.isSome_some,ban];refine agE (wpAny_alloc (agE (wpAny_layCells _ (λname kind cells=>by cases hkc:kind ==NameKind.cell <;> simp[hkc]) _ _ _ _ ?_)));rw[show({ s with heap:=s.heap.push { cls:=.type "dict",data:=.dict #[] } }:Shared).heap.objs.size=s.heap.objs.size+1 from aTQ ..];rw[List.forIn_nil];exact agE (anq (anq h))
structure uE(X:Cx)(scope:Scope)(qM:List (Str×Addr))(n:Nat)(h':Heap):Prop where
 k1:∀x c,qM.lookup x=some c->X.env.cells.lookup x=some c\/(n<c/\h'.IsCell c none/\(x,NameKind.cell)∈scope.names)
 k2:∀x,scope.names.lookup x=some .free->∃c,qM.lookup x=some c/\X.env.cells.lookup x=some c
 k3:∀p∈scope.names,p.2=.cell\/p.2=.free->∃c,qM.lookup p.1=some c
 k4:∀x y c,qM.lookup x=some c->qM.lookup y=some c->x=y
 k5:∀x c,scope.names.lookup x=some .cell->qM.lookup x=some c->n<c
section
variable{X:Cx}{scope:Scope}{N:List Str}{own:Nat}{js:List Nat}
theorem ZgE{cl:List (Str×Addr)}{n:Nat}{h0:Heap}(c:dH X scope N own js)(jO:∀x c,cl.lookup x=some c->X.env.cells.lookup x=some c)(pI:∀p∈scope.names,p.2=.free->∃c,cl.lookup p.1=some c)
  (inj:∀x y c,X.env.cells.lookup x=some c->X.env.cells.lookup y=some c->x=y) (lt:∀x c,X.env.cells.lookup x=some c->c<n) (hn:h0.objs.size=n+1):uE X scope (cellsFrom (n+1) scope.names cl) n (pushCells h0 scope.names):=by
 have ok:=cellsFrom_ok scope.names h0 (n+1) [] ⟨λ_ _ hm=>(nomatch hm),List.Pairwise.nil⟩ (by rw[hn];exact apX _);rw[hn]at ok;have two:∀x,(cellsFrom (n+1) scope.names cl).lookup x=match(cellsFrom (n+1) scope.names []).lookup x with|some c=>some c|none=>cl.lookup x:=λx=>by
  rw[CY,Ui];cases(cellsFrom (n+1) scope.names []).lookup x <;> rfl
 have own':∀x d,(cellsFrom (n+1) scope.names []).lookup x=some d->(pushCells h0 scope.names).IsCell d none/\n<d/\(x,NameKind.cell)∈scope.names:=λx d e=>
  ⟨(ok.empty x d (mem_of_lookup e)).1,(ok.empty x d (mem_of_lookup e)).2,NO _ _ x d (mem_of_lookup e)⟩
 have part:∀x d,(cellsFrom (n+1) scope.names cl).lookup x=some d->(cellsFrom (n+1) scope.names []).lookup x=some d\/((cellsFrom (n+1) scope.names []).lookup x=none/\cl.lookup x=some d):=λx d e=>by
  rw[two]at e;cases q:(cellsFrom (n+1) scope.names []).lookup x with
  |some d'=>rw[q]at e;exact .inl e
  |none=>rw[q]at e;exact .inr ⟨rfl,e⟩
 have has:∀x,(x,NameKind.cell)∈scope.names->∃d,(cellsFrom (n+1) scope.names []).lookup x=some d:=λx m=>by
  obtain⟨d,q⟩:=Nk scope.names (n+1) x m;exact Um q
 refine⟨λx d e=>?_,λx e=>?_,λp hp hk=>?_,λx y d e1 e2=>?_,λx d e1 e2=>?_⟩
 .rcases part x d e with q|⟨_,q⟩
  .exact .inr ⟨(own' x d q).2.1,(own' x d q).1,(own' x d q).2.2⟩
  .exact .inl (jO x d q)
 .obtain ⟨d,q⟩:=pI _ (ZP e) rfl;have no:(cellsFrom (n+1) scope.names []).lookup x=none:=by
   cases z:(cellsFrom (n+1) scope.names []).lookup x with
   |none=>rfl
   |some d'=>
    have y:=c.cell _ (own' x d' z).2.2 rfl;rw[show scope.names.lookup x=_ from e]at y;cases y
  exact⟨d,by rw[two,no];exact q,jO x d q⟩
 .rw [two];cases z:(cellsFrom (n+1) scope.names []).lookup p.1 with
  |some d'=>exact⟨d',rfl⟩
  |none=>
   rcases hk with hk|hk
   .obtain ⟨d,q⟩:=has p.1 (by rw[<-hk];exact hp);rw[z]at q;cases q
   .exact pI p hp hk
 .rcases part x d e1 with q1|⟨_,q1⟩
  .rcases part y d e2 with q2|⟨_,q2⟩
   .exact name_of_addr ok.apart (mem_of_lookup q1) (mem_of_lookup q2)
   .exact absurd (aHq (own' x d q1).2.1 (lt y d (jO y d q2))) (aZG _)
  .rcases part y d e2 with q2|⟨_,q2⟩
   .exact absurd (aHq (own' y d q2).2.1 (lt x d (jO x d q1))) (aZG _)
   .exact inj x y d (jO x d q1) (jO y d q2)
 .obtain ⟨d',q⟩:=has x (ZP e1);rw[two,q]at e2;cases e2;exact(own' x d q).2.1
theorem ZgF{pins:List (Addr×Obj)}{σ:St}{H:Hp}{s:Shared}{cl:List (Str×Addr)}{fp:List Addr}{h':Heap}{t':Nat}(c:dH X scope N own js)(I:Inv X pins σ H s)(hf:∀b∈fp,jV X pins H b)
  (fo:∀b∈fp,b<s.heap.objs.size)
  (ci:uE X scope cl s.heap.objs.size h')
  (hn:h'.Ns s.heap.objs.size (λ_=>none)) (hk:∀b o,s.heap.get? b=some o->h'.get? b=some o) :
  Inv (bL X N scope cl s.heap.objs.size s H fp pins) [] (List.replicate own none++js.map λj=>(σ[j]?).join) H { s with heap:=h',toks:=t' }:=by
 have ym:∀x c,cl.lookup x=some c->c≠s.heap.objs.size:=λx c e=>by
  rcases ci.k1 x c e with q|⟨q,_⟩
  .obtain ⟨v,q⟩:=I.cell x c q;exact amC q.lt
  .exact aA9 q
 have ok:(bL X N scope cl s.heap.objs.size s H fp pins).Ok:=by
  refine⟨I.ok.mod,c.kind,I.ok.glob,I.ok.blt,apX _,ci.k4,λx hx=>?_,λx d z e=>aIf (ci.k5 x d (aqt.mp (show(scope.names.lookup x ==some .cell)=true from z)) e),I.ok.hd,I.ok.frames,.inl rfl,λb hb=>⟨amC (fo b hb),λx d e=>(ci.k1 x d e).elim (λq=>(hf b hb).2.2.2.2.1 x d q) λq=>aA9 (aHq (fo b hb) q.1)⟩,I.bs,
   alM I.ok.yo I.sz,λb o e hb=>?_,λb hb z=>?_,I.stack,I.nW⟩
  .have back:∀k,(relabel scope X.env).names.lookup x=some k->k=.cell\/k=.free->∃k',(x,k')∈scope.names/\(k'=NameKind.cell\/k'=NameKind.free):=λk e hk=>by
    obtain⟨k',e',z⟩:=ZdV e;refine⟨k',ZP e',?_⟩;rcases z with z|z
    .subst z;exact hk
    .exact .inr z
   obtain⟨k',m,hk'⟩:∃k',(x,k')∈scope.names/\(k'=NameKind.cell\/k'=NameKind.free):=by
    rcases hx with hx|hx
    .exact back _ hx (.inl rfl)
    .exact back _ hx (.inr rfl)
   exact ci.k3 _ m hk'
  .rcases (hf b hb).2.2.2.1 with z|z
   .exact I.ok.wU b o e z
   .exact absurd (ae8 (ae8 (aNG e) I.ok.yo) z) (aZG _)
  .rcases aCP.mp (I.nV b z) with q|q
   .exact (hf b hb).2.1 q
   .exact (hf b hb).2.2.1 q
 refine⟨ok,rfl,I.bare,Un.kept hk,⟨_,hn,λi x v e1 e2 e3=>?_⟩,λx d e=>?_,I.hok.fresh (apX _),λx d e=>(ci.k1 x d e).elim (λq=>I.cO x d q) λq=>I.hok.fresh (aIf q.1),λp hp=>?_,I.hok.kept hk,?_⟩
 .-- a name with a value is one that the block closes over
  have hi:own<=i:=by
   by_cases hi:i<own
   .rw [aaw (by simpa using hi),ave]at e2;split at e2 <;> cases e2
   .lia
  obtain⟨k,rfl⟩:∃k,i=own+k:=⟨i-own,by lia⟩;rw[bbj (by simp),a1S,Nat.add_sub_cancel_left,aeb]at e2;cases q:js[k]? with
  |none=>rw[q]at e2;cases e2
  |some j=>
   rw[q]at e2;have uN:(σ[j]?).join=some v:=by simpa using e2
   have e4:σ[j]?=some (some v):=by
    cases z:σ[j]? with
    |none=>rw[z]at uN;cases uN
    |some o=>rw[z]at uN;rw[show o=some v from uN]
   have oZ:N[own+k]?=some x:=e1;have MG:X.N[j]?=some x:=(c.js k j q).symm.trans oZ;have hfr:=c.jf k x oZ;have hmem:=ZP hfr;have hk2:=c.free _ hmem rfl;have vis:IE X.env.scope x:=by
    rcases hk2 with z|z
    .exact .inr (.inl z)
    .exact .inr (.inr z)
   obtain⟨m,_,hl⟩:=I.loc;obtain⟨u,r,l⟩:=hl j x v MG e4 vis;refine⟨u,r,?_⟩;rcases l with⟨z,_⟩|⟨_,d,e,⟨od,ho,hd⟩⟩
   .rcases hk2 with y|y
    .rw [show X.env.kindOf x=_ from z]at y;cases y
    .rw [show X.env.kindOf x=_ from z]at y;cases y
   .obtain ⟨d',e',z'⟩:=ci.k2 x hfr;have:d'=d:=by have z:=z';rw[e]at z;exact(aDb z).symm
    subst this;refine .inr ⟨?_,d',e',⟨od,hk _ _ ho,hd⟩⟩;rcases Zbd (scope:=scope) (env:=X.env) hfr with z|⟨_,z⟩
    .exact .inr z
    .exact .inl z
 .rcases ci.k1 x d e with q|⟨_,q,_⟩
  .obtain ⟨v,⟨o,ho,hd⟩⟩:=I.cell x d q;exact⟨v,o,hk _ _ ho,hd⟩
  .exact ⟨none,q⟩
 .have Cy:p∈X.pn++pins:=by
   have z:p∈(X.pn++pins)++[]:=hp;rwa [bah]at z
  obtain⟨a1,a2,a3,a4,a5⟩:=I.pin p Cy;refine⟨hk _ _ a1,a2,amC (aNG a1),λz=>?_,a5⟩;rcases aCP.mp (I.nV p.1 z) with q|q
  .exact a3 q
  .exact a4 q
 .show _=N.length;rw[c.len];simp
theorem Uh{pins:List (Addr×Obj)}{σ:St}{H:Hp}{s:Shared}{elt target iter:PySem.Expr}{ifs:List PySem.Expr}{pos:Pos}{it:Addr}{fp:List Addr}{tn:Nat->Heap->Prop}{J:It}{cl:List (Str×Addr)}{g:TG}{tc:TT}{te:TE}{E:Value->Shared->Prop}{Q:VK}
  {RR:Value->Addr->Result->Shared->Prop}
  (c:dH X scope N own js) (hc:X.calm=true) (I:Inv X pins σ H s) (T:Turn X.prog X.w X.K target J fp it tn) (st:tn 0 s.heap) (hf:∀b∈fp,jV X pins H b)
  (jO:∀x c,cl.lookup x=some c->X.env.cells.lookup x=some c) (pI:∀p∈scope.names,p.2=.free->∃c,cl.lookup p.1=some c)
  (hg:∀cl C s0 H0 fp pins,PG (bL X N scope cl C s0 H0 fp pins) target g)
  (ht:∀cl C s0 H0 fp pins cy s σ H Q,Inv (bL X N scope cl C s0 H0 fp pins) cy σ H s->tc σ H Q->wpAny (model X.prog X.w) X.A (forIn ifs true λc r=>if r=true then do let ok <-isTrue c (compEnvC scope cl C X.env) (eval c (compEnvC scope cl C X.env));pure (ForInStep.yield ok) else pure (ForInStep.yield r))
   (TP (bL X N scope cl C s0 H0 fp pins) cy σ Q) (λ_ _=>False) s)
  (he:∀cl C s0 H0 fp pins,PE (bL X N scope cl C s0 H0 fp pins) elt te)
  (h:∀l,H l=none->∃W:Nat->Nat->List V->St->Hp->Prop,(∃m,W 0 m [] (List.replicate own none++js.map λj=>(σ[j]?).join) (upd H l (.lst [])))/\∀i m ys σ' H',W i m ys σ' H' ->
   (J.stop i H'/\Q (.ref l) H')\/(J.go i H'/\∀x H2,J.rL i H' x H2->g x σ' H2 λσ2 H3=>tc σ2 H3 λb H4=>
    if b=true then te σ2 H4 λy H5=>H5 l=some (.lst ys)/\ys.length<sizeLine/\∃m',m'<m/\W (i+1) m' (ys++[y]) σ2 (upd H5 l (.lst (ys++[y])))
    else ∃m',m'<m/\W (i+1) m' ys σ2 H4))
  (hRR:∀l C H' s' m',s.heap.objs.size<=C->s'.heap.Ns C m'->H' C=none->C≠X.env.locals->C∉X.fs->(∀h2,Heap.SameBut C s'.heap h2->Inv X pins σ H' { s' with heap:=h2 })->Q (.ref l) H'->RR (.ref l) C (.ok .next) s') :
  wpAny (model X.prog X.w) X.A (newList []) (λacc s3=>wpAny (model X.prog X.w) X.A (newFunctionEnv scope X.env.globals cl [] X.env.qual none .none (some X.env)) (λcenv s4=>
   codeAny (model X.prog X.w) X.A (.compStart (.ListComp elt [⟨target,iter,ifs,0⟩] scope pos) 0 (.ref it) acc { cenv with scope:=relabel scope X.env }) (RR acc cenv.locals) s4) E s3) E s:=by
 have I2:Inv X pins σ (upd H s.heap.objs.size (.lst [])) { s with heap:=s.heap.push { cls:=.type "list",dict:=none,data:=.seq ([]:List Value).toArray },toks:=s.toks }:=I.LU (ys:=[]) .nil (abf _);obtain⟨W,⟨m0,w0⟩,turn⟩:=h s.heap.objs.size I.fresh;refine aiJ (ZdW ?_);dsimp only;generalize hS:({ s with heap:=s.heap.push { cls:=.type "list",dict:=none,data:=.seq ([]:List Value).toArray },toks:=s.toks }:Shared)=s2 at I2;have e2:s2.heap=s.heap.push { cls:=.type "list",dict:=none,data:=.seq ([]:List Value).toArray }:=by rw[<-hS]
 have Jp:s2.heap.objs.size=s.heap.objs.size+1:=by rw[e2,aTQ]
 rw[<-e2];have ci:=ZgE (h0:=s2.heap.push { cls:=.type "dict",data:=.dict #[] }) (n:=s2.heap.objs.size) c jO pI I2.ok.inj (λx d e=>by obtain⟨v,q⟩:=I2.cell x d e;exact q.lt) (aTQ ..);have AX:(pushCells (s2.heap.push { cls:=.type "dict",data:=.dict #[] }) scope.names).Ns s2.heap.objs.size (λ_=>none):=(Heap.Ns.new s2.heap (.type "dict")).keeps (pushCells_keeps _ _);have old:∀b o,s2.heap.get? b=some o->(pushCells (s2.heap.push { cls:=.type "dict",data:=.dict #[] }) scope.names).get? b=some o:=λb o e=>pushCells_keeps _ _ b o (a8G _ e);generalize pushCells (s2.heap.push { cls:=.type "dict",data:=.dict #[] }) scope.names=h1 at ci AX old ⊢;generalize hcl:cellsFrom (s2.heap.objs.size+1) scope.names cl=qM at ci ⊢;have ue:∀b,b∈fp->b<s.heap.objs.size:=λb hb=>by
  obtain⟨o,e,_⟩:=T.obj 0 _ st b hb;exact aNG e
 have hf2:∀b∈fp,jV X pins (upd H s.heap.objs.size (.lst [])) b:=λb hb=>⟨by rw[Zc (amC (ue b hb))];exact(hf b hb).1,(hf b hb).2⟩;have Cm:∀b∈fp,b<s2.heap.objs.size:=λb hb=>by rw[Jp];exact aO1 (ue b hb)
 have st2:tn 0 s2.heap:=T.keep 0 _ _ st λb _ o e=>by rw[e2];exact a8G _ e
 have I4:=ZgF (t':=s.toks) c I2 hf2 Cm ci AX old;have cR:tn 0 h1:=T.keep 0 _ _ st2 λb _ o e=>old b o e;have es:({ s2 with heap:=h1,toks:=s.toks }:Shared)={ s with heap:=h1,toks:=s.toks }:=by rw[<-hS]
 rw[es]at I4;generalize XC:({ s with heap:=h1,toks:=s.toks }:Shared)=s4 at I4;have Fy:tn 0 s4.heap:=by rw[<-XC];exact cR
 have loop:codeAny (model X.prog X.w) X.A (.compLoop (.ListComp elt [⟨target,iter,ifs,0⟩] scope pos) 0 (.ref it) (.ref s.heap.objs.size) (compEnvC scope qM s2.heap.objs.size X.env)) (RR (.ref s.heap.objs.size) s2.heap.objs.size) s4:=by
  refine Zhr (λn s'=>∃i ys σ' H',Inv (bL X N scope qM s2.heap.objs.size s2 (upd H s.heap.objs.size (.lst [])) fp pins) [] σ' H' s'/\tn i s'.heap/\(∀b∈fp,H' b=none)/\W i n ys σ' H') ?_ m0
   ⟨0,[],_,_,I4,Fy,λb hb=>(hf2 b hb).1,w0⟩
  rintro n s5 ⟨i,ys,σ5,H5,I5,yE,JZ,w5⟩;have rN:∀{H':Hp}{s':Shared}{σ':St},Inv (bL X N scope qM s2.heap.objs.size s2 (upd H s.heap.objs.size (.lst [])) fp pins) [] σ' H' s'->(∀b∈fp,H' b=none)->∀b∈fp,jV (bL X N scope qM s2.heap.objs.size s2 (upd H s.heap.objs.size (.lst [])) fp pins) [] H' b:=λJ' hn b hb=>
   ⟨hn b hb,(J'.ok.J2 b hb).1,J'.ok.xH b hb,.inl hb,(J'.ok.J2 b hb).2,λp hp z=>by
    have Cy:p∈X.pn++pins:=by
     have q:p∈(X.pn++pins)++[]:=hp;rwa [bah]at q
    exact(hf b hb).2.2.2.2.2 p Cy z⟩
  rcases turn i n ys σ5 H5 w5 with⟨stop,q⟩|⟨go,step⟩
  .refine aEC (T.done (bL X N scope qM s2.heap.objs.size s2 (upd H s.heap.objs.size (.lst [])) fp pins) rfl rfl rfl hc i [] s5 σ5 H5 (λ_ _=>False) I5 (rN I5 JZ) yE stop) (λr s6 ⟨hr,I6⟩=>?_) λ_ _ z=>z;subst hr;obtain⟨m',hn',_⟩:=I6.loc;have hC:s.heap.objs.size<=s2.heap.objs.size:=by rw[Jp];exact az7 _
   refine hRR _ _ H5 s6 m' hC hn' I6.free ?_ ?_ (λh2 sb=>?_) q
   .exact aA9 I2.lt
   .exact I2.Gf (apX _)
   .have u:Un (frs X.stack) fp (upd H s.heap.objs.size (.lst [])) H5 s2.heap h2:=I6.base.but (apX _) sb.extBut;have z6:H5 s2.heap.objs.size=none:=I6.free;have hok:d9 X.prog X.w H5 h2:=λb ob e=>(I6.hok b ob e).stay (λd w' hd z=>sb.extBut d w' (by
     rintro rfl;rcases hd with rfl|hd
     .rw [z6]at e;cases e
     .rw [z6]at hd;cases hd) z) (λ_ z=>z) λ_ _ z=>z
    have J:=I2.HG (s':={ s6 with heap:=h2 }) (ch:=fp) (by show s6.os=s2.os;exact I6.os) u hok I6.bare λb hb=>⟨(hf b hb).2.2.2.1,(hf b hb).2.1,(hf b hb).2.2.2.2.1,(hf b hb).2.2.2.2.2⟩;exact J
  .refine aEC (T.item (bL X N scope qM s2.heap.objs.size s2 (upd H s.heap.objs.size (.lst [])) fp pins) rfl rfl rfl hc i [] s5 σ5 H5 (λ_ _=>False) I5 (rN I5 JZ) yE go) (λr s6 ⟨u,hr,h6⟩=>?_) λ_ _ z=>z;subst hr;refine aEC h6 (λ_ s7 ⟨x,H7,I7,r7,y7,Ll,Ym⟩=>?_) λ_ _ z=>z;have I7':=I7.pinned (rN I7 Ym) (T.obj _ _ Ll);refine aEC (hg _ _ _ _ _ _ _ s7 σ5 H7 x u _ I7' r7 (step x H7 y7)) (λ_ s8 ⟨σ8,H8,I8,q8⟩=>?_) λ_ _ z=>z;refine aEC (ht _ _ _ _ _ _ _ s8 σ8 H8 _ I8 q8) (λb s9 ⟨H9,I9,q9⟩=>?_) λ_ _ z=>z;have fin:∀{s':Shared}{H':Hp}{m':Nat}{ys':List V},Inv (bL X N scope qM s2.heap.objs.size s2 (upd H s.heap.objs.size (.lst [])) fp pins) ([]++HV fp s7.heap) σ8 H' s'->m'<n->W (i+1) m' ys' σ8 H' ->
     ∃m,m<n/\∃i ys σ' H',Inv (bL X N scope qM s2.heap.objs.size s2 (upd H s.heap.objs.size (.lst [])) fp pins) [] σ' H' s'/\tn i s'.heap/\(∀b∈fp,H' b=none)/\W i m ys σ' H':=λ{s' H' m' ys'} J' hm w'=>by
    refine⟨m',hm,i+1,ys',σ8,H',J'.gm,T.keep _ _ _ Ll λb hb o e=>(J'.pin (b,o) (aEt _ (aEt _ (K1 hb e)))).1,λb hb=>?_,w'⟩;obtain⟨o,e,d⟩:=T.obj _ _ Ll b hb;exact(J'.pin (b,o) (aEt _ (aEt _ (K1 hb e)))).2.1
   cases b with
   |false=>
    rw[aoK aPf]at q9 ⊢;obtain⟨m',hm,w'⟩:=q9;exact fin I9 hm w'
   |true=>
    rw[aYH rfl]at q9 ⊢;refine aEC (he _ _ _ _ _ _ _ s9 σ8 H9 _ I9 q9) (λy BF ⟨z,UM,I10,BK,el,ez,m',hm,w'⟩=>?_) λ_ _ z=>z;refine aEC (C9 (X:=bL X N scope qM s2.heap.objs.size s2 (upd H s.heap.objs.size (.lst [])) fp pins) _ BF σ8 UM (.ref s.heap.objs.size) [z] _ [y] (λ_ H'=>H'=upd UM s.heap.objs.size (.lst (ys++[z]))) I10 rfl (.cons BK .nil) ⟨_,_,_,rfl,rfl,el,ez,rfl⟩) (λ_ Lq ⟨_,H11,I11,_,YA⟩=>?_) λ_ _ z=>z;subst YA;exact fin I11 hm w'
 have fin:codeAny (model X.prog X.w) X.A (.compStart (.ListComp elt [⟨target,iter,ifs,0⟩] scope pos) 0 (.ref it) (.ref s.heap.objs.size) (compEnvC scope qM s2.heap.objs.size X.env)) (RR (.ref s.heap.objs.size) s2.heap.objs.size) s4:=
  codeAny_compStart_list loop (T.self X.A 0 s4 _ _ Fy loop)
 exact fin
theorem SE{elt target iter:PySem.Expr}{ifs:List PySem.Expr}{pos:Pos}{wi:TI}{g:TG}{tc:TT}{te:TE}(c:dH X scope N own js)(hc:X.calm=true)(hi:PI X target iter wi)
  (hg:∀cl C s0 H0 fp pins,PG (bL X N scope cl C s0 H0 fp pins) target g)
  (ht:∀cl C s0 H0 fp pins cy s σ H Q,Inv (bL X N scope cl C s0 H0 fp pins) cy σ H s->tc σ H Q->wpAny (model X.prog X.w) X.A (forIn ifs true λc r=>if r=true then do let ok <-isTrue c (compEnvC scope cl C X.env) (eval c (compEnvC scope cl C X.env));pure (ForInStep.yield ok) else pure (ForInStep.yield r))
   (TP (bL X N scope cl C s0 H0 fp pins) cy σ Q) (λ_ _=>False) s)
  (he:∀cl C s0 H0 fp pins,PE (bL X N scope cl C s0 H0 fp pins) elt te)
  (hs:∀x,foldedSetIterable iter X.env x=pure x:=by intro _;rfl):PE X (.ListComp elt [⟨target,iter,ifs,0⟩] scope pos) (pR own js wi g tc te):=by
 intro pins s σ H Q I h;obtain⟨cl,e1,jO,_,pI⟩:=Iw (env:=X.env) scope.names [] (λp hp hf=>I.ok.has _ (c.free p hp hf)) (λx d e=>by simp at e);have hclos:closureFor scope X.env=pure cl:=by
  unfold closureFor;refine(aSc (λz=>z >>= λcs=>pure cs) e1).trans ?_;rfl
 rw[eval_ListComp];refine wpAny_comprehension_free (use:=none) rfl hs hclos c.kind c.names (aEC (hi pins s σ H _ I h) (λx s1 h1=>aEC h1 (λitv s2 h2=>?_) λ_ _ e=>e) λ_ _ e=>e);obtain⟨it,fp,tn,J,H2,e,I2,T,st2,f2,q⟩:=h2;subst e;refine Uh (Q:=Q) (RR:=λacc C=>compPost (model X.prog X.w) X.A X.xe none (EP X pins σ Q) acc C) c hc I2 T st2 f2 jO pI hg ht he q ?_;intro l C H' s' m' hC hn hf hL hfs hI hq;exact⟨m',hn,λh2 sb=>⟨.ref l,H',hI h2 sb,rfl,hq⟩⟩
theorem ZiP{elt target iter:PySem.Expr}{ifs:List PySem.Expr}{pos pos' spos:Pos}{y:Str}{k:Nat}{wi:TI}{g:TG}{tc:TT}{te:TE}(c:dH X scope N own js)(hc:X.calm=true)(hN:X.N.Nodup)(hk:X.N[k]?=some y)(hy:X.env.scope.names.lookup y=some .local)(hi:PI X target iter wi)
  (hg:∀cl C s0 H0 fp pins,PG (bL X N scope cl C s0 H0 fp pins) target g)
  (ht:∀cl C s0 H0 fp pins cy s σ H Q,Inv (bL X N scope cl C s0 H0 fp pins) cy σ H s->tc σ H Q->wpAny (model X.prog X.w) X.A (forIn ifs true λc r=>if r=true then do let ok <-isTrue c (compEnvC scope cl C X.env) (eval c (compEnvC scope cl C X.env));pure (ForInStep.yield ok) else pure (ForInStep.yield r))
   (TP (bL X N scope cl C s0 H0 fp pins) cy σ Q) (λ_ _=>False) s)
  (he:∀cl C s0 H0 fp pins,PE (bL X N scope cl C s0 H0 fp pins) elt te)
  (hs:∀x,foldedSetIterable iter X.env x=pure x:=by intro _;rfl)
  (hsw:swapsWith (.ListComp elt [⟨target,iter,ifs,0⟩] scope pos) (some (.Name y pos')) spos.line X.env=pure true:=by rfl):PS X (.Assign [.Name y pos'] (.ListComp elt [⟨target,iter,ifs,0⟩] scope pos) spos) (uF (pR own js wi g tc te) (fC k)):=by
 intro pins s σ H D I h;obtain⟨cl,e1,jO,_,pI⟩:=Iw (env:=X.env) scope.names [] (λp hp hf=>I.ok.has _ (c.free p hp hf)) (λx d e=>by simp at e);have hclos:closureFor scope X.env=pure cl:=by
  unfold closureFor;refine(aSc (λz=>z >>= λcs=>pure cs) e1).trans ?_;rfl
 rw[exec_Assign_Name_used _ _ _ _ hsw];refine agE (aIo (agE ?_));show wpAny _ X.A (do let _ <-comprehension (.ListComp elt [⟨target,iter,ifs,0⟩] scope pos) scope X.env _ (newList []) false (eval iter X.env) (some (assign (.Name y pos') X.env))) _ _ s;refine agE (aEC (wpAny_comprehension_free (use:=some (assign (.Name y pos') X.env)) (Q:=λ_ s'=>SP X pins D .next s') rfl hs hclos c.kind c.names
  (aEC (hi pins s σ H _ I h) (λxv s1 h1=>aEC h1 (λit s2 h2=>?_) λ_ _ e=>e) λ_ _ e=>e)) (λ_ s' hq=>anq (anq hq)) λ_ _ e=>e)
 obtain⟨it,fp,tn,J,H2,e,I2,T,st2,f2,q⟩:=h2;subst e;refine Uh (Q:=λx H1=>fC k x σ H1 D.nx) (RR:=λacc C=>compPost (model X.prog X.w) X.A X.xe (some (assign (.Name y pos') X.env)) (λ_ s'=>SP X pins D .next s') acc C) c hc I2 T st2 f2 jO pI hg ht he q ?_;intro l C H' s' m' hC hn hf hL hfs hI hq;have J0:=hI s'.heap (Heap.SameBut.refl ..);show wpAny _ X.A (assign (.Name y pos') X.env (.ref l)) _ _ _;have J1:Inv X pins σ H' s':=J0;refine wpAny_assign_Name (T7 (v:=.ref l) J1 hN hk (.inl hy) rfl (λs'' UI lM=>?_) (.inr hy));obtain⟨a,sb,ha⟩:=lM;have hne:C≠a:=by
  rcases ha with rfl|ha
  .exact hL
  .rintro rfl;obtain⟨v,⟨o,ho,hd⟩⟩:=J1.cell y C ha;obtain⟨o',es,ep,ho',hd',_⟩:=hn;rw[ho]at ho';cases ho';rw[hd]at hd';cases hd'
 refine⟨m',hn.sameBut sb hne,λh2 tS=>?_⟩;have hok:d9 X.prog X.w H' h2:=λb ob e=>(UI.hok b ob e).stay (λd w' hd z=>tS.extBut d w' (by
  rintro rfl;rcases hd with rfl|hd
  .rw [hf]at e;cases e
  .rw [hf]at hd;cases hd) z) (λ_ z=>z) λ_ _ z=>z
 have ym:∀x d,X.env.cells.lookup x=some d->d≠C:=λx d e z=>by
  subst z;obtain⟨v,⟨o,ho,hd⟩⟩:=J1.cell x d e;obtain⟨o',es,ep,ho',hd',_⟩:=hn;rw[ho]at ho';cases ho';rw[hd]at hd';cases hd'
 have Ea:∀p∈X.pn++pins,p.1≠C:=λp hp z=>by
  have a1:=(I2.pin p hp).1;exact absurd (ae8 (aNG a1) (by rw[z];exact hC)) (aZG _)
 have fin:Inv X pins (σ.set k (some (.ref l))) H' { s'' with heap:=h2 }:=UI.turned (t':=s''.toks) (it:=C) (λb o hb e=>tS.extBut b o hb e) hf hL (.inr (alM I2.sz hC)) ym Ea;exact⟨_,H',fin,hq⟩
theorem Dc{elt target iter:PySem.Expr}{pos:Pos}{wi:TI}{g:TG}{te:TE}(c:dH X scope N own js)(hc:X.calm=true)(hi:PI X target iter wi)
  (hg:∀cl C s0 H0 fp pins,PG (bL X N scope cl C s0 H0 fp pins) target g) (he:∀cl C s0 H0 fp pins,PE (bL X N scope cl C s0 H0 fp pins) elt te)
  (hs:∀x,foldedSetIterable iter X.env x=pure x:=by intro _;rfl):PE X (.ListComp elt [⟨target,iter,[],0⟩] scope pos) (pR own js wi g Ak te):=
 SE c hc hi hg (λcl C s0 H0 fp pins cy s σ H Q I h=>wpAny_tests_nil ⟨H,I,h⟩) he hs
theorem ZiQ{elt target iter OO:PySem.Expr}{pos:Pos}{wi:TI}{g:TG}{tc:TT}{te:TE}(c:dH X scope N own js)(hc:X.calm=true)(hi:PI X target iter wi)
  (hg:∀cl C s0 H0 fp pins,PG (bL X N scope cl C s0 H0 fp pins) target g) (ht:∀cl C s0 H0 fp pins,PT (bL X N scope cl C s0 H0 fp pins) OO tc) (he:∀cl C s0 H0 fp pins,PE (bL X N scope cl C s0 H0 fp pins) elt te)
  (hs:∀x,foldedSetIterable iter X.env x=pure x:=by intro _;rfl):PE X (.ListComp elt [⟨target,iter,[OO],0⟩] scope pos) (pR own js wi g tc te):=
 SE c hc hi hg (λcl C s0 H0 fp pins cy s σ H Q I h=>wpAny_tests_one (ht cl C s0 H0 fp pins cy s σ H Q I h)) he hs
theorem ZiR{elt target iter:PySem.Expr}{pos pos' spos:Pos}{y:Str}(k:Nat){wi:TI}{g:TG}{te:TE}(c:dH X scope N own js)(hc:X.calm=true)(hN:X.N.Nodup)(hk:X.N[k]?=some y)(hy:X.env.scope.names.lookup y=some .local)(hi:PI X target iter wi)
  (hg:∀cl C s0 H0 fp pins,PG (bL X N scope cl C s0 H0 fp pins) target g) (he:∀cl C s0 H0 fp pins,PE (bL X N scope cl C s0 H0 fp pins) elt te)
  (hs:∀x,foldedSetIterable iter X.env x=pure x:=by intro _;rfl)
  (hsw:swapsWith (.ListComp elt [⟨target,iter,[],0⟩] scope pos) (some (.Name y pos')) spos.line X.env=pure true:=by rfl):PS X (.Assign [.Name y pos'] (.ListComp elt [⟨target,iter,[],0⟩] scope pos) spos) (uF (pR own js wi g Ak te) (fC k)):=
 ZiP c hc hN hk hy hi hg (λcl C s0 H0 fp pins cy s σ H Q I h=>wpAny_tests_nil ⟨H,I,h⟩) he hs hsw
end
section
variable{X:Cx}{pins:List (Addr×Obj)}{σ:St}{H:Hp}{s:Shared}
theorem d9.F8{P:Program}{w:World}{h h':Heap}{ch:List Addr}(hok:d9 P w H h)(hn:∀b∈ch,H b=none)(k:∀b o,b∉ch->h.get? b=some o->h'.get? b=some o):d9 P w H h':=λb ob e=>
 (hok b ob e).stay (λd u hd z=>k d u (λm=>by
  rcases hd with rfl|hd
  .rw [hn _ m]at e;cases e
  .rw [hn _ m]at hd;cases hd) z) (λ_ z=>z) λ_ _ z=>z
theorem Inv.gr{ch:List Addr}{h':Heap}{t':Nat}(I:Inv X pins σ H s)(hch:∀b∈ch,jV X pins H b)(k:∀b o,b∉ch->s.heap.get? b=some o->h'.get? b=some o) :
  Inv X pins σ H { s with heap:=h',toks:=t' }:=by
 have u:Un (frs X.stack) ch H H s.heap h':=⟨λb o q _ _ hx=>k b o hx q,λb o q _ _ hx=>⟨o.slots,k b o hx q⟩,λ_ _ _ n _=>n,λb o q hx=>⟨o,k b o hx q⟩,λ_ _ q=>q,λ_ _ _ q=>q,λ_ _ _ q=>q⟩;exact I.call (g':=s.gens) (d':=s.drawn) (t':=t') u (I.hok.F8 (λb hb=>(hch b hb).1) k) I.bare λb hb=>⟨(hch b hb).2.2.2.1,(hch b hb).2.1,(hch b hb).2.2.2.2.1,(hch b hb).2.2.2.2.2⟩
theorem Inv.oV{ch:List Addr}{h':Heap}{t':Nat}{o:HO}(I:Inv X pins σ H s)(hch:∀b∈ch,jV X pins H b)(k:∀b o,b∉ch->s.heap.get? b=some o->h'.get? b=some o)
  (new:aF X.prog X.w (upd H s.heap.objs.size o) h' s.heap.objs.size o):Inv X pins σ (upd H s.heap.objs.size o) { s with heap:=h',toks:=t' }:=by
 have fr:H s.heap.objs.size=none:=I.hok.fresh (apX _);have ne:∀b ob,s.heap.get? b=some ob->b≠s.heap.objs.size:=λb ob e=>amC (aNG e);have nt:∀b ob,H b=some ob->b≠s.heap.objs.size:=λb ob e=>Ze e fr;have u:Un (frs X.stack) ch H (upd H s.heap.objs.size o) s.heap h':=⟨λb o q _ _ hx=>k b o hx q,λb o q _ _ hx=>⟨o.slots,k b o hx q⟩,λb ob q n _=>by rw[Zc (ne b ob q)];exact n,λb o q hx=>⟨o,k b o hx q⟩,
  λb xs q=>by rw[Zc (nt b _ q)];exact q,λb ob xs q=>by rw[Zc (nt b _ q)];exact q,λb _ _ q=>by rw[Zc (nt b _ q)];exact q⟩
 have hok:d9 X.prog X.w (upd H s.heap.objs.size o) h':=λb ob e=>by
  by_cases hb:b=s.heap.objs.size
  .subst hb;rw[Za]at e;cases e;exact new
  .rw [Zc hb]at e;refine(I.hok b ob e).stay (λd u hd z=>k d u (λm=>?_) z) (λd z=>by rw[Zc (nt d _ z)];exact z) (λd xs z=>by rw[Zc (nt d _ z)];exact z) λd oz z=>by rw[Zc (nt d _ z)];exact z
   have hn:=(hch d m).1;rcases hd with rfl|hd
   .rw [hn]at e;cases e
   .rw [hn]at hd;cases hd
 exact I.call (g':=s.gens) (d':=s.drawn) (t':=t') u hok I.bare λb hb=>⟨(hch b hb).2.2.2.1,(hch b hb).2.1,(hch b hb).2.2.2.2.1,(hch b hb).2.2.2.2.2⟩
end
theorem nG{a b:Nat}(h:a<b\/b<a):@Ne Addr a b:=λe=>by
 have e':a=b:=e;lia
theorem Og(n l1 l2:Nat)(h1:l1<n)(h2:l2<n):ZipApart (n+4) (n+2) (n+3) n (n+1) l1 l2:=
 ⟨nG (by lia),nG (by lia),nG (by lia),nG (by lia),nG (by lia),nG (by lia),nG (by lia),nG (by lia),nG (by lia),nG (by lia),nG (by lia),nG (by lia),nG (by lia),nG (by lia),nG (by lia),nG (by lia),nG (by lia),nG (by lia)⟩
def Ac(K:W.Frag)(a b:Addr):It:=
 ⟨λi H=>∃xs ys x y,aB K H a xs/\aB K H b ys/\xs[i]?=some x/\ys[i]?=some y,
 λi H v H'=>∃t x y,H t=none/\v=.ref t/\H'=upd H t (.tup [x,y])/\(∀xs,aB K H a xs->xs[i]?=some x)/\∀ys,aB K H b ys->ys[i]?=some y,
 λi H=>∃xs ys,aB K H a xs/\aB K H b ys/\(xs.length<=i\/ys.length<=i)⟩
theorem KU{h:Heap}{it l:Addr}{i:Nat}(x:h.IsListIter it l i):∃o,h.get? it=some o/\∀v,o.data≠.cell v:=by
 obtain⟨o,e,c,d⟩:=x;exact⟨o,e,λv z=>by rw[d]at z;cases z⟩
theorem SD{P:Program}{w:World}{K:W.Frag}{elts:List PySem.Expr}{x1}{pos:Pos}(z TI TO i1 i2 a b:Addr)(D:ZipApart z TI TO i1 i2 a b) :
  Turn P w K (.Tuple elts x1 pos) (Ac K a b) [z,TI,TO,i1,i2] z (λi h=>IsZip h z TI TO .none/\IsPair h TI (.ref i1) (.ref i2)/\(∃u v,IsPair h TO u v)/\h.IsListIter i1 a i/\h.IsListIter i2 b i) where
 mem:=by simp
 obj:=λi h st c hc=>by
  obtain⟨hz,hTI,⟨u,v,hTO⟩,h1,h2⟩:=st;simp only[a6r,auY,a4R]at hc;rcases hc with rfl|rfl|rfl|rfl|rfl
  .exact ⟨_,hz,λv e=>by cases e⟩
  .exact ⟨_,hTI,λv e=>by cases e⟩
  .exact ⟨_,hTO,λv e=>by cases e⟩
  .exact KU h1
  .exact KU h2
 keep:=λi h h' st k=>by
  obtain⟨hz,hTI,⟨u,v,hTO⟩,h1,h2⟩:=st;exact⟨k z (by simp) _ hz,k TI (by simp) _ hTI,⟨u,v,k TO (by simp) _ hTO⟩,h1.at λo e=>k i1 (by simp) o e,h2.at λo e=>k i2 (by simp) o e⟩
 item:=by
  intro X hP hw hK hc i pins s σ H E I hf st hg;subst hP hw hK;obtain⟨xs,ys,x,y,rZ,rY,hx,hy⟩:=hg;obtain⟨hz,hTI,⟨u0,v0,hTO⟩,h1,h2⟩:=st;obtain⟨lq,ra,pa,za⟩:=I.list rZ;obtain⟨mJ,rb,pb,zb⟩:=I.list rY;obtain⟨ux,hux,Ls⟩:=ra.get hx;obtain⟨uy,Mn,Lr⟩:=rb.get hy;refine wpAny_pyNext_zip_item D hz hTI hTO h1 h2 pa.isList pb.isList (x:=ux) (y:=uy) (by simpa using hux) (by simpa using Mn) λh' a1 a2 a3 a4 a5 a6 a7=>?_;refine⟨.ref s.heap.objs.size,rfl,?_⟩;refine wpAny_letOwnedTupleGo_zip a1 λh2' hz' hs'=>?_;have xu:z<s.heap.objs.size:=aNG hz;have kk:∀c o,c∉[z,TI,TO,i1,i2]->s.heap.get? c=some o->h2'.get? c=some o:=λc o hc e=>by
   simp only[a6r,auY,a4R,aDQ]at hc;exact hs'.extBut c o hc.1 (a7 c o hc.1 hc.2.2.1 hc.2.2.2.1 hc.2.2.2.2 e)
  have tp:h2'.get? s.heap.objs.size=some { cls:=.type "tuple",data:=.seq #[ux,uy] }:=hs'.extBut _ _ (aA9 xu) a5;have I1:Inv X pins σ (upd H s.heap.objs.size (.tup [x,y])) { s with heap:=h2',toks:=s.toks }:=
   I.oV hf kk ⟨by show 2<=sizeLine;decide,[ux,uy],.cons Ls (.cons Lr .nil),⟨_,tp,rfl,_,rfl⟩⟩
  have Oq:h2'.get? TI=s.heap.get? TI:=by
   rw[hTI];exact hs'.extBut _ _ D.TIz (a7 _ _ D.TIz D.TITO D.TIi1 D.TIi2 hTI)
  refine⟨.ref s.heap.objs.size,_,I1,rfl,⟨s.heap.objs.size,x,y,I.hok.fresh (apX _),rfl,rfl,λxs' h=>by rw[I.gZ h rZ];exact hx,λys' h=>by rw[I.gZ h rY];exact hy⟩,⟨hz',?_,⟨ux,uy,hs'.extBut _ _ D.TOz a2⟩,a3.at λo e=>hs'.extBut _ o D.i1z e,a4.at λo e=>hs'.extBut _ o D.i2z e⟩,λc hc=>?_⟩
  .show h2'.get? TI=_;rw[Oq];exact hTI
  .have hc':=hc;have hlt:c<s.heap.objs.size:=by
    simp only[a6r,auY,a4R]at hc';rcases hc' with rfl|rfl|rfl|rfl|rfl
    .exact xu
    .exact aNG hTI
    .exact aNG hTO
    .obtain ⟨o,e,_⟩:=KU h1;exact aNG e
    .obtain ⟨o,e,_⟩:=KU h2;exact aNG e
   rw[Zc (amC hlt)];exact(hf c hc).1
 done:=by
  intro X hP hw hK hc i pins s σ H E I hf st hg;subst hP hw hK;obtain⟨xs,ys,rZ,rY,hend⟩:=hg;obtain⟨hz,hTI,⟨u0,v0,hTO⟩,h1,h2⟩:=st;obtain⟨lq,ra,pa,za⟩:=I.list rZ;obtain⟨mJ,rb,pb,zb⟩:=I.list rY;have la:=ra.length;have lb:=rb.length;refine wpAny_pyNext_zip_end (I.ok.hd hc) D hz hTI hTO h1 h2 pa.isList pb.isList ?_ λh' hk=>⟨rfl,?_⟩
  .rcases hend with q|q
   .exact .inl (by simp;lia)
   .exact .inr (by simp;lia)
  .refine I.gr (t':=s.toks) hf λc o hc e=>?_;simp only[a6r,auY,a4R,aDQ]at hc;exact hk c o hc.1 hc.2.2.1 hc.2.2.2.1 hc.2.2.2.2 e
 self:=λ_ _ _ _ _ st h=>aGC st.1 h
def Mh(K:W.Frag)(ta:TA):TI:=λσ H R=>ta σ H λvs H1=>∃a b,vs=[.ref a,.ref b]/\(∃xs,aB K H1 a xs)/\(∃ys,aB K H1 b ys)/\R (Ac K a b) H1
section
variable{X:Cx}
theorem Sz:bootBuiltins "zip"=some (.type "zip"):=by first|rfl|decide +kernel|kernel_rfl
theorem Ur:bootBuiltins "enumerate"=some (.type "enumerate"):=by first|rfl|decide +kernel|kernel_rfl
theorem Z3{elts:List PySem.Expr}{x1}{tpos:Pos}{a b:PySem.Expr}{ta:TA}{p pos:Pos}(hg:Gl X "zip")(hm:X.mg "zip"=none)(ha:PA X [a,b] ta)(hs:starEach [a,b] X.env=[(false,eval a X.env),(false,eval b X.env)]:=by rfl)(hs2:starEach [b] X.env=[(false,eval b X.env)]:=by rfl) :
  PI X (.Tuple elts x1 tpos) (.Call (.Name "zip" p) [a,b] [] pos) (Mh X.K ta):=by
 intro pins s σ H R I h;refine Call_ (sf I hg hm Sz (a5z (nT (ha pos pins s σ H _ I h) λus s1 vs H1 I1 r1 q1=>?_) (by rw[hs,hs2]) (by rw[hs2];rfl)));obtain⟨l1,l2,e,⟨xs,rZ⟩,⟨ys,rY⟩,q⟩:=q1;subst e;obtain⟨v1,v2,rfl,r,r'⟩:=vals2 r1;cases r;cases r';obtain⟨lq,ra,pa,za⟩:=I1.list rZ;obtain⟨mJ,rb,pb,zb⟩:=I1.list rY;have ue:l1<s1.heap.objs.size:=by obtain⟨o,e,_⟩:=pa.isList;exact aNG e
 have Cm:l2<s1.heap.objs.size:=by obtain⟨o,e,_⟩:=pb.isList;exact aNG e
 refine call_zip_2 pa.isList pb.isList λh' g5 g3 g4 g1 g2 hsz kp=>aGC g5 ?_;refine⟨_,[_,_,_,_,_],_,_,H1,rfl,I1.kept (t':=s1.toks) kp,SD _ _ _ _ _ l1 l2 (Og s1.heap.objs.size l1 l2 ue Cm),⟨g5,g3,⟨_,_,g4⟩,g1,g2⟩,λc hc=>?_,q⟩;have hc':s1.heap.objs.size<=c:=by
  simp only[a6r,auY,a4R]at hc;rcases hc with rfl|rfl|rfl|rfl|rfl <;> first|exact apX _|exact Nat.le_add_right _ _
 exact I1.oY hc' (I1.hok.fresh hc')
def IT(K:W.Frag)(a:Addr):It:=
 ⟨λi H=>∃xs x,aB K H a xs/\xs[i]?=some x,
 λi H v H'=>∃t x,H t=none/\v=.ref t/\H'=upd H t (.tup [.int i,x])/\∀xs,aB K H a xs->xs[i]?=some x,
 λi H=>∃xs,aB K H a xs/\xs.length=i⟩
theorem Zht{P:Program}{w:World}{K:W.Frag}{elts:List PySem.Expr}{x1}{pos:Pos}(e it a:Addr)(hei:e≠it)(MF:a≠e)(hai:a≠it) :
  Turn P w K (.Tuple elts x1 pos) (IT K a) [e,it] e (λi h=>(∃old,IsEnum h e it i old)/\h.IsListIter it a i) where
 mem:=by simp
 obj:=λi h st c hc=>by
  obtain⟨⟨old,he⟩,h1⟩:=st;simp only[a6r,auY,a4R]at hc;rcases hc with rfl|rfl
  .exact ⟨_,he,λv z=>by cases z⟩
  .obtain ⟨o,q,c,d⟩:=h1;exact⟨o,q,λv z=>by rw[d]at z;cases z⟩
 keep:=λi h h' st k=>by
  obtain⟨⟨old,he⟩,h1⟩:=st;exact⟨⟨old,k e (by simp) _ he⟩,h1.at λo q=>k it (by simp) o q⟩
 item:=by
  intro X hP hw hK hc i pins s σ H E I hf st hg;subst hP hw hK;obtain⟨xs,x,hq,hx⟩:=hg;obtain⟨⟨old,he⟩,h1⟩:=st;obtain⟨its,rv,p,hz⟩:=I.list hq;obtain⟨u,hu,ru⟩:=rv.get hx;have hlt:i<its.toArray.size:=by
   have:=(azG.mp hu).1;simpa using this
  refine wpAny_pyNext_enum_itemD (Draws.list (A:=X.A.in1) (show X.A.in1.handled=none from I.ok.hd hc) it a hai its.toArray) he ⟨h1,p.isList⟩ hlt hei (by simp[hei,avX MF]) λv h' tk hP ho hs' hT hsz hk=>?_;have zw:v=u:=by
   have z:its[i]?=some v:=by simpa using hP
   rw[hu]at z;exact(aDb z).symm
  subst zw;refine⟨.ref s.heap.objs.size,rfl,?_⟩;refine wpAny_letOwnedTupleGo_enum ho λh2 MD tS=>?_;have helt:e<s.heap.objs.size:=aNG he;have kk:∀c o,c∉[e,it]->s.heap.get? c=some o->h2.get? c=some o:=λc o hc q=>by
   simp only[a6r,auY,a4R,aDQ]at hc;exact(tS.2 c hc.1).trans (hk c o hc.1 hc.2 q)
  have tp:h2.get? s.heap.objs.size=some { cls:=.type "tuple",data:=.seq #[.int i tk,v] }:=(tS.2 _ (aA9 helt)).trans hT;have I1:Inv X pins σ (upd H s.heap.objs.size (.tup [.int i,x])) { s with heap:=h2,toks:=tk+1 }:=
   I.oV hf kk ⟨by show 2<=sizeLine;decide,[.int i tk,v],.cons ⟨tk,rfl⟩ (.cons ru .nil),⟨_,tp,rfl,_,rfl⟩⟩
  refine⟨.ref s.heap.objs.size,_,I1,rfl,⟨s.heap.objs.size,x,I.hok.fresh (apX _),rfl,rfl,λys hy=>by rw[I.gZ hy hq];exact hx⟩,⟨⟨v,by simpa using MD⟩,hs'.1.at λo q=>(tS.2 _ (avX hei)).trans q⟩,λc hc=>?_⟩;have hlt':c<s.heap.objs.size:=by
   simp only[a6r,auY,a4R]at hc;rcases hc with rfl|rfl
   .exact helt
   .obtain ⟨o,q,_⟩:=h1;exact aNG q
  rw[Zc (amC hlt')];exact(hf c hc).1
 done:=by
  intro X hP hw hK hc i pins s σ H E I hf st hg;subst hP hw hK;obtain⟨xs,hq,hx⟩:=hg;obtain⟨⟨old,he⟩,h1⟩:=st;obtain⟨its,rv,p,hz⟩:=I.list hq;have hl:=rv.length;have ei:i=its.toArray.size:=by simp;lia
  subst ei;refine wpAny_pyNext_enum_endD (Draws.list (A:=X.A.in1) (show X.A.in1.handled=none from I.ok.hd hc) it a hai its.toArray) he ⟨h1,p.isList⟩ λh' hx'=>⟨rfl,?_⟩;refine I.gr (t':=s.toks) hf λc o hc q=>?_;simp only[a6r,auY,a4R,aDQ]at hc;exact hx' c o hc.2 q
 self:=λ_ _ _ _ _ st h=>by
  obtain⟨⟨old,he⟩,_⟩:=st;exact apP he h
def GU(K:W.Frag)(ta:TA):TI:=λσ H R=>ta σ H λvs H1=>∃a,vs=[.ref a]/\(∃xs,aB K H1 a xs)/\R (IT K a) H1
theorem RK{elts:List PySem.Expr}{x1}{tpos:Pos}{a:PySem.Expr}{ta:TA}{p pos:Pos}(hg:Gl X "enumerate")(hm:X.mg "enumerate"=none)(ha:PA X [a] ta)(hs:starEach [a] X.env=[(false,eval a X.env)]:=by rfl) :
  PI X (.Tuple elts x1 tpos) (.Call (.Name "enumerate" p) [a] [] pos) (GU X.K ta):=by
 intro pins s σ H R I h;refine Call_ (sf I hg hm Ur (a5z (nT (ha pos pins s σ H _ I h) λus s1 vs H1 I1 r1 q1=>?_) hs rfl));obtain⟨l,e,⟨xs,hq⟩,q⟩:=q1;subst e;cases r1 with
 |cons r rr=>
  cases rr;cases r;obtain⟨its,rv,pl,hz⟩:=I1.list hq;have ue:l<s1.heap.objs.size:=by obtain⟨o,e,_⟩:=pl.isList;exact aNG e
  refine call_enumerate_list pl.isList λh' he hi hsz hk=>?_;refine apP he ?_;refine⟨s1.heap.objs.size+1,[s1.heap.objs.size+1,s1.heap.objs.size],_,_,H1,rfl,I1.kept (t':=s1.toks) hk,Zht (s1.heap.objs.size+1) s1.heap.objs.size l (Nat.succ_ne_self _) (nG (.inl (aO1 ue))) (amC ue),⟨⟨_,he⟩,hi⟩,λc hc=>?_,q⟩;have hc':s1.heap.objs.size<=c:=by
   simp only[a6r,auY,a4R]at hc;rcases hc with rfl|rfl <;> lia
  exact I1.oY hc' (I1.hok.fresh hc')
end
def ye(H:Hp):V->Option String
 | .aQ=>some "NoneType"
 | .bl _=>some "bool"
 | .int _=>some "int"
 | .str _=>some "str"
 | .ref a=>match H a with
  |some (.lst _)=>some "list"
  |some (.cN _ (.lst _))=>some "list"
  |some (.tup _)=>some "tuple"
  |some (.dK _)=>some "dict"
  |some (.dT _)=>some "dict"
  |_=>none
 |_=>none
theorem Ri{K:W.Frag}{H:Hp}{x:V}{t:String}(h:ye H x=some t):iR K H x (.type t):=by
 cases x with
 |aQ=>cases h;exact .aQ
 |bl b=>cases h;exact .bl b
 |int i=>cases h;exact .int i
 |str z=>cases h;exact .str z
 |ref a=>
  simp only[ye]at h;split at h
  .rename_i e;cases h;exact .lst e
  .rename_i e;cases h;exact .cN e
  .rename_i e;cases h;exact .tup e
  .rename_i e;cases h;exact .dK e
  .rename_i e;cases h;exact .dT e
  .cases h
 |_=>cases h
def kg(t c:String):Bool:=t ==c || (t =="bool" && c =="int")
def Ka:List String:=["NoneType","bool","int","str","list","tuple","dict"]
def CW:List String:=["bool","int","str","list","tuple","dict"]
theorem Of(K:W.Frag):∀t∈Ka,∀c∈CW,W.kitOne K (.type t) (.type c)=some (kg t c):=by
 intro t ht c hc;simp only[Ka,a6r,auY,a4R]at ht;simp only[CW,a6r,auY,a4R]at hc;rcases ht with rfl|rfl|rfl|rfl|rfl|rfl|rfl <;> rcases hc with rfl|rfl|rfl|rfl|rfl|rfl <;> rfl
theorem TY{H:Hp}{x:V}{t:String}(h:ye H x=some t):t∈Ka:=by
 cases x with
 |aQ=>cases h;decide
 |bl b=>cases h;decide
 |int i=>cases h;decide
 |str z=>cases h;decide
 |ref a=>
  simp only[ye]at h;split at h <;> first|(cases h;decide)|cases h
 |_=>cases h
section
variable{X:Cx}
inductive FJ(xs:List V)(H:Hp)(Q:VK):Prop
 |mk (x t c:_):xs=[x,.ty c]->ye H x=some t->c∈CW->Q (.bl (kg t c)) H->FJ xs H Q
theorem Bl:bA X (.builtin "isinstance") FJ:=by
 intro pins s σ H xs us Q I r h;obtain⟨x,t,c,rfl,ht,hc,q⟩:=h;obtain⟨u,w',rfl,rx,rc⟩:=vals2 r;cases rc;exact Zhk I rx (Ri ht) (Of X.K t (TY ht) c hc) λtk=>⟨.bl _,H,I.tok tk,rfl,q⟩
inductive AB(xs:List V)(H:Hp)(Q:VK):Prop
 |mk (x t c d p:_):xs=[x,.ref p]->H p=some (.tup [.ty c,.ty d])->ye H x=some t->c∈CW->d∈CW->Q (.bl (kg t c || kg t d)) H->AB xs H Q
theorem ZiS(K:W.Frag){t c d:String}(ht:t∈Ka)(hc:c∈CW)(hd:d∈CW):W.kitAny K (.type t) [.type c,.type d]=some (kg t c || kg t d):=by
 unfold W.kitAny;rw[Of K t ht c hc];cases kg t c with
 |true=>rfl
 |false=>
  show W.kitAny K (.type t) [.type d]=some (kg t d);unfold W.kitAny;rw[Of K t ht d hd];cases kg t d <;> rfl
theorem TX:bA X (.builtin "isinstance") AB:=by
 intro pins s σ H xs us Q I r h;obtain⟨x,t,c,d,p,rfl,hp,ht,hc,hd,q⟩:=h;obtain⟨u,w',rfl,rx,rc⟩:=vals2 r;cases rc;obtain⟨_,its,rv,⟨o,ho,hcl,n,hdt⟩⟩:=(show aF X.prog X.w H s.heap p (.tup [.ty c,.ty d]) from I.hok p _ hp);obtain⟨u1,u2,rfl,r1,r2⟩:=vals2 rv;cases r1;cases r2;have e:=ZiS X.K (TY ht) hc hd;have fin:∀tk,EP X pins σ Q (.bool (kg t c || kg t d)) { s with toks:=tk }:=λtk=>⟨.bl _,H,I.tok tk,rfl,q⟩;have htp:s.heap.get? p=some ⟨.type "tuple",o.dict,.seq [Value.type c,Value.type d].toArray n,o.slots⟩:=by
  rw[ho];obtain⟨oc,od,odt,osl⟩:=o;cases hcl;cases hdt;rfl
 have ty:=Ri (K:=X.K) ht;generalize hT:Value.type t=T at ty e;cases ty with
 |aQ=>cases(show u=Value.none from rx);exact ap6 W.kitx_none I.dD True.intro htp e (λz=>nomatch z) fin
 |bl y=>cases(show u=Value.bool y from rx);exact ap6 W.kitx_bool I.dD True.intro htp e (λz=>nomatch z) fin
 |int i=>obtain⟨t,q⟩:=(show ∃t,u=Value.int i t from rx);cases q;exact ap6 W.kitx_int I.dD True.intro htp e (λz=>nomatch z) fin
 |str y=>obtain⟨t,q⟩:=(show ∃t,u=Value.str y t from rx);cases q;exact ap6 W.kitx_str I.dD True.intro htp e (λz=>nomatch z) fin
 |zB y=>obtain⟨t,q⟩:=(show ∃t,u=Value.float y t from rx);cases q;exact ap6 W.kitx_float I.dD True.intro htp e (λz=>nomatch z) fin
 | @lst a xs ea=>
  cases(show u=Value.ref a from rx);obtain⟨_,_,n,_,h1⟩:=(show aF X.prog X.w H s.heap a (.lst xs) from I.hok a _ ea);exact ap6 W.kitx_list I.dD ⟨_,h1,rfl⟩ htp e (λz=>nomatch z) fin
 | @cN a ob xs ea=>
  cases(show u=Value.ref a from rx);obtain⟨_,_,_,n,_,h1⟩:=(show aF X.prog X.w H s.heap a (.cN ob (.lst xs)) from I.hok a _ ea);exact ap6 W.kitx_list I.dD ⟨_,h1,rfl⟩ htp e (λz=>nomatch z) fin
 | @tup a xs ea=>
  cases(show u=Value.ref a from rx);obtain⟨_,_,_,p⟩:=(show aF X.prog X.w H s.heap a (.tup xs) from I.hok a _ ea);obtain⟨o,h1,h2,_⟩:=p;exact ap6 W.kitx_tuple I.dD ⟨o,h1,h2⟩ htp e (λz=>nomatch z) fin
 | @dK a kvs ea=>
  cases(show u=Value.ref a from rx);obtain⟨_,_,vs,_,p⟩:=(show aF X.prog X.w H s.heap a (.dK kvs) from I.hok a _ ea);obtain⟨o,es,ep,h1,h2,_⟩:=p;exact ap6 W.kitx_dict I.dD ⟨o,h1,h2.1⟩ htp e (λz=>nomatch z) fin
 | @dT a kvs ea=>
  cases(show u=Value.ref a from rx);obtain⟨_,_,xs,_,o,es,ep,h1,h2,_⟩:=(show aF X.prog X.w H s.heap a (.dT kvs) from I.hok a _ ea);exact ap6 W.kitx_dict I.dD ⟨o,h1,h2.1⟩ htp e (λz=>nomatch z) fin
 |ins e'=>cases hT
theorem yq:bootBuiltins "isinstance"=some (.builtin "isinstance"):=by first|rfl|decide +kernel|kernel_rfl
theorem Sy:bootBuiltins "all"=some (.builtin "all"):=by first|rfl|decide +kernel|kernel_rfl
theorem Sx:bootBuiltins "max"=some (.builtin "max"):=by first|rfl|decide +kernel|kernel_rfl
theorem ZiT:bootBuiltins "min"=some (.builtin "min"):=by first|rfl|decide +kernel|kernel_rfl
theorem Sw:bootBuiltins "abs"=some (.builtin "abs"):=by first|rfl|decide +kernel|kernel_rfl
theorem ZeK:bootBuiltins "divmod"=some (.builtin "divmod"):=by first|rfl|decide +kernel|kernel_rfl
theorem KL:bootBuiltins "int"=some (.type "int"):=by first|rfl|decide +kernel|kernel_rfl
theorem Ug:bootBuiltins "bool"=some (.type "bool"):=by first|rfl|decide +kernel|kernel_rfl
theorem Oe:bootBuiltins "str"=some (.type "str"):=by first|rfl|decide +kernel|kernel_rfl
theorem ZQ:bootBuiltins "list"=some (.type "list"):=by first|rfl|decide +kernel|kernel_rfl
theorem Ol:bootBuiltins "tuple"=some (.type "tuple"):=by first|rfl|decide +kernel|kernel_rfl
theorem TV:∀{bs:List Bool}{its:List Value},Vals (bs.map V.bl) its->its=bs.map Value.bool
 | [],_,.nil=>rfl
 |b ::bs,_,.cons r t=>by rw[TV t];cases r;rfl
theorem ZgG{bs:List Bool}(f:Nat->Bool)(hf:∀i b,bs[i]?=some b->f i=b):(List.range bs.length).map f=bs:=by
 apply bbg;intro i;rw[aeb];by_cases h:i<bs.length
 .rw [a0l h,aEW h];simp only[bb2];rw[hf i _ (aEW h)]
 .rw [ax8 (by simpa using h),ax8 (by lia)];rfl
theorem TR(hc:X.calm=true):bA X (.builtin "all") (λxs H Q=>∃(p:Addr)(bs:List Bool),xs=[.ref p]/\aB X.K H p (bs.map V.bl)/\Q (.bl (bs.all id)) H):=by
 intro pins s σ H xs us Q I r h;obtain⟨p,bs,rfl,hq,q⟩:=h;obtain⟨u,rfl,rx⟩:=vals1 r;cases rx;obtain⟨its,rv,pl,hz⟩:=I.list hq;have e:=TV rv;subst e;refine call_all_walk (wpAny_pyIter_list pl.isList ?_);refine⟨s.heap.objs.size,_,[s.heap.objs.size],_,_,_,λi=>bs.getD i true,rfl,Walks.list (A:=X.A.in1) (show X.A.in1.handled=none from I.ok.hd hc) s.heap.objs.size p ?_ (bs.map Value.bool).toArray,⟨⟨_,aIn _ rfl,rfl,rfl⟩,pl.isList.at λo e=>a8G _ e⟩,?_,?_⟩
 .obtain ⟨o,e,_⟩:=pl.isList;exact amC (aNG e)
 .intro i v s' Q' E' hP hQ;have zw:(bs.map Value.bool)[i]?=some v:=by simpa using hP
  rw[aeb]at zw;cases z:bs[i]? with
  |none=>rw[z]at zw;cases zw
  |some b=>
   rw[z]at zw;cases zw;have:bs.getD i true=b:=by rw[agc,z];rfl
   have P6:Q' (bs.getD i true) s':=hQ;rw[this]at P6;exact a3s P6
 .intro h' tk hk;refine⟨.bl (bs.all id),H,I.kept (t':=tk) (λb o e=>hk b o (by simpa using amC (aNG e)) (a8G _ e)),?_,q⟩;have z:(List.range bs.length).map (λi=>bs.getD i true)=bs:=ZgG _ λi b e=>by rw[agc,e];rfl
  have z2:(List.range bs.length).all (λi=>bs.getD i true)=bs.all id:=by
   conv=>rhs;rw[<-z]
   rw[List.all_map];rfl
  show Value.bool _=Value.bool _;have z3:(bs.map Value.bool).toArray.size=bs.length:=by simp
  rw[z3,z2]
theorem Z2(lo:Int)(n:Nat):∀{acc:Array Value},ItemsOf (λi v=>∃t,v=.int (lo+i*1) t) acc n->Vals ((List.range n).map λi=>V.int (lo+(i:Nat))) acc.toList:=by
 intro acc h;obtain⟨hs,hi⟩:=h;have gen:∀(l:List Value)(k:Nat)(xs:List V),xs.length=l.length->(∀(j:Nat)(v:Value)(x:V),l[j]?=some v->xs[j]?=some x->RelV x v)->Vals xs l:=by
  intro l
  induction l with
  |nil=>intro k xs hl _;cases xs with|nil=>exact .nil|cons _ _=>simp at hl
  |cons u l ih=>
   intro k xs hl hr;cases xs with
   |nil=>simp at hl
   |cons x xs=>exact .cons (hr 0 u x rfl rfl) (ih k xs (by simpa using hl) λj v y e1 e2=>hr (j+1) v y (by simpa using e1) (by simpa using e2))
 refine gen _ 0 _ (by simp[hs]) λj v x e1 e2=>?_;have oZ:acc[j]?=some v:=by simpa using e1
 obtain⟨t,rfl⟩:=hi j v oZ;have hj:j<n:=by rw[<-hs];exact(Array.getElem?_eq_some_iff.mp oZ).1
 rw[aeb,a0l hj]at e2;cases e2;exact⟨t,by simp⟩
def ZgH(ta:TA):TE:=λσ H Q=>ta σ H λvs H1=>∃i j:Int,vs=[.int i,.int j]/\(-(2 ^ 62)<=i/\i<2 ^ 62 /\ -(2 ^ 62)<=j/\j<2 ^ 62)/\(j-i).toNat<=sizeLine /\
 ∀p,H1 p=none->Q (.ref p) (upd H1 p (.lst ((List.range (j-i).toNat).map λk=>V.int (i+(k:Nat)))))
theorem Zeb{a b:PySem.Expr}{ta:TA}{p q pos pos2:Pos}(hc:X.calm=true)(XS:Gl X "list")(hm1:X.mg "list"=none)(hg:Gl X "range")(hm:X.mg "range"=none)(ha:PA X [a,b] ta)
  (hs:starEach [a,b] X.env=[(false,eval a X.env),(false,eval b X.env)]:=by rfl) (hs2:starEach [b] X.env=[(false,eval b X.env)]:=by rfl)
  (Cw:starEach [PySem.Expr.Call (.Name "range" p) [a,b] [] pos] X.env=[(false,eval (PySem.Expr.Call (.Name "range" p) [a,b] [] pos) X.env)]:=by rfl) :
  PE X (.Call (.Name "list" q) [.Call (.Name "range" p) [a,b] [] pos] [] pos2) (ZgH ta):=by
 intro pins s σ H Q I h;refine Call_ (sf I XS hm1 ZQ (a5z (Q:=EP X pins σ Q) ?_ Cw rfl));rw[Cw];refine aHp (Call_ (sf I hg hm boot_range (a5z (nT (ha pos pins s σ H _ I h) λus s1 vs H1 I1 r1 q1=>?_) (by rw[hs,hs2]) (by rw[hs2];rfl))));obtain⟨i,j,e,⟨q1,q2,q3,q4⟩,hz,q⟩:=q1;subst e;cases r1 with
 |cons r rr=>
  cases rr with
  |cons r' rr=>
   cases rr;obtain⟨t,rfl⟩:=r;obtain⟨t',rfl⟩:=r';refine call_range_2 (a3w ?_);have I2:Inv X pins σ H1 { s1 with heap:=s1.heap.push { cls:=.type "range",data:=.fields #[.int i t,.int j t',.int 1 s1.toks] },toks:=s1.toks+1 }:=I1.kept λb o e=>a8G _ e;have hsz:sizeLine=16777216:=aXy;refine call_list_range (n:=(j-i).toNat) (I.ok.hd hc) (IsRange.new ..) (small_one q1 q2 q3 q4) (by rw[rangeSize_one];split <;> lia) (by lia) λh' tk acc' c' hk hS hit=>?_;refine⟨.ref _,_,I2.laid (o:=.lst ((List.range (j-i).toNat).map λk=>V.int (i+(k:Nat)))) hk (apX _) ⟨by simpa using hz,acc'.toList,c',Z2 i _ hit,by simpa using hS⟩,rfl,q _ (I2.hok.fresh (apX _))⟩
end
structure Def(P:Program)(w:World)(K:W.Frag)(mg:Str->Option Value)(base:Heap)(x:Str)(k:Nat)(ps:List Str)(sp:Sp):Prop where
 ex:∃(f:Addr)(fd:FuncData),b9 P w K mg base nR k f fd ps sp/\mg x=some (.ref f)/\W.keepIn K (.ref f)=true/\Binds K fd ps []
section
variable{X:Cx}{x:Str}{p pos:Pos}{e:PySem.Expr}{es:List PySem.Expr}{t:TA}{k:Nat}{ps:List Str}{sp:Sp}
theorem Z1(D:Def X.prog X.w X.K X.mg X.base x k ps sp)(hr:bu k X.A)(hg:Gl X x)(ha:PA X (e ::es) t)
  (he:starEach (e ::es) X.env=(false,eval e X.env) ::starEach es X.env:=by rfl) (hpl:(backTo pos (starEach es X.env)).any (·.1)=false:=by rfl) (hd:(x ==("__debug__":Str))=false:=by decide) :
  PE X (.Call (.Name x p) (e ::es) [] pos) (sO sp [] E0 t):=by
 obtain⟨f,fd,F,hm,hk,hb⟩:=D.ex;exact Zkh F hr hg hm hk hb .nil uc ha (hdb:=hd) (he:=he) (hpl:=hpl)
end
theorem ZT{X:Cx}{K:W.Frag}{es:List PySem.Expr}{k:Nat}{t:Bo}{n:Nat}{pos:Pos}(hK:X.K=K)(hc:X.calm=true)(h:IJ X es t)
  (hn:(assignEach es X.env).length=n:=by rfl) (hst:(assignEach es X.env).findIdx? (·.1)=none:=by rfl):PG X (.Tuple es k pos) (Ho K n t):=by
 subst hK;exact Zlg hc h hn hst
def A9(mh:Scope)(oN:List Str)(scope:Scope)(N:List Str)(own:Nat)(js:List Nat):Bool:=
 scope.kind == .function && scope.names.all (λy=>y.2 != .cell || scope.names.lookup y.1 ==some .cell) && scope.names.all (λy=>y.2 != .local || scope.names.lookup y.1 ==some .local) &&
 scope.names.all (λy=>y.2 != .free || (mh.names.lookup y.1 ==some .cell || mh.names.lookup y.1 ==some .free)) && N.length ==own+js.length &&
 (js.map λj=>oN[j]?) ==(N.drop own).map some && (N.drop own).all λx=>scope.names.lookup x ==some .free
theorem ZZ{X:Cx}{mh:Scope}{oN:List Str}{scope:Scope}{N:List Str}{own:Nat}{js:List Nat}(h:A9 mh oN scope N own js=true)(hs:X.env.scope=mh)(hN:X.N=oN):dH X scope N own js:=by
 unfold A9 at h;simp only[aJO,aTK,Bool.or_eq_true,aqt,bne_iff_ne,ne_eq]at h;obtain⟨⟨⟨⟨⟨⟨h1,h2⟩,h3⟩,h4⟩,h5⟩,h6⟩,h7⟩:=h;refine⟨h1,λy hy hl=>?_,λy hy hl=>?_,λy hy hf=>?_,h5,λk j e=>?_,λk x e=>?_⟩
 .rcases h2 y hy with q|q
  .exact absurd hl q
  .exact q
 .rcases h3 y hy with q|q
  .exact absurd hl q
  .exact q
 .rcases h4 y hy with q|q
  .exact absurd hf q
  .show X.env.scope.names.lookup y.1=_\/X.env.scope.names.lookup y.1=_;rw[hs];exact q
 .rw [hN];have z:=aSc (λl=>l[k]?) h6;simp only[aeb,e,bb2,getElem?_drop]at z;cases q:N[own+k]? with
  |none=>rw[q]at z;cases z
  |some y=>rw[q]at z;exact(aDb z).symm
 .refine h7 x ?_;exact abH (i:=k) (by rw[getElem?_drop];exact e)
def SB(b:Addr)(H H':Hp):Prop:=∀a o,a≠b->H a=some o->H' a=some o
theorem SB.trans{b:Addr}{H H1 H2:Hp}(x:SB b H H1)(y:SB b H1 H2):SB b H H2:=λa o n h=>y a o n (x a o n h)
theorem ay.sb{H H':Hp}(x:ay H H')(b:Addr):SB b H H':=λa o _ h=>x a o h
theorem Eo(b:Addr)(H:Hp)(o:HO):SB b H (upd H b o):=λa u n h=>by rw[Zc n];exact h
theorem Zg{H:Hp}{p:Addr}(h:H p=none)(o:HO):ay H (upd H p o):=λb u q=>by rw[Zc (Ze q h)];exact q
def rC(n:Nat)(l:Addr)(Pv:Nat->List V->St->Hp->Prop)(i:Nat)(ys:List V)(σ:St)(y:V)(H:Hp):Prop:=
 H l=some (.lst ys)/\ys.length<sizeLine/\∃m',m'<n-i/\(m'=n-(i+1)/\i+1<=n/\(ys++[y]).length<=i+1/\Pv (i+1) (ys++[y]) σ (upd H l (.lst (ys++[y]))))
def Bx(n:Nat)(Pv:Nat->List V->St->Hp->Prop)(i:Nat)(ys:List V)(σ:St)(H:Hp):Prop:=∃m',m'<n-i/\(m'=n-(i+1)/\i+1<=n/\ys.length<=i+1/\Pv (i+1) ys σ H)
theorem rC.of{n:Nat}{l:Addr}{Pv:Nat->List V->St->Hp->Prop}{i:Nat}{ys:List V}{σ:St}{y:V}{H:Hp}(hn:n<=sizeLine)(hi:i<n)(hy:ys.length<=i)(h1:H l=some (.lst ys))(h2:Pv (i+1) (ys++[y]) σ (upd H l (.lst (ys++[y])))):rC n l Pv i ys σ y H:=
 ⟨h1,by lia,n-(i+1),by lia,rfl,hi,by rw[aE0,ai8];lia,h2⟩
theorem Bx.of{n:Nat}{Pv:Nat->List V->St->Hp->Prop}{i:Nat}{ys:List V}{σ:St}{H:Hp}(hi:i<n)(hy:ys.length<=i)(h2:Pv (i+1) ys σ H):Bx n Pv i ys σ H:=
 ⟨n-(i+1),by lia,rfl,hi,by lia,h2⟩
theorem KZ{lo:Int}{n:Nat}{l:Addr}{g:TG}{tc:TT}{te:TE}{σ0:St}{H0:Hp}{Qf:Hp->Prop}(Pv:Nat->List V->St->Hp->Prop)(h0:Pv 0 [] σ0 H0)
  (hs:∀i ys σ' H',i<n->ys.length<=i->Pv i ys σ' H'->g (.int (lo+i)) σ' H' λσ2 H3=>tc σ2 H3 λb H4=>if b=true then te σ2 H4 λy H5=>rC n l Pv i ys σ2 y H5 else Bx n Pv i ys σ2 H4)
  (hd:∀ys σ' H',ys.length<=n->Pv n ys σ' H'->Qf H') :
  ∃W:Nat->Nat->List V->St->Hp->Prop,(∃m,W 0 m [] σ0 H0)/\∀i m ys σ' H',W i m ys σ' H' ->
  ((yz lo n).stop i H'/\Qf H')\/((yz lo n).go i H'/\∀x H2,(yz lo n).rL i H' x H2->g x σ' H2 λσ2 H3=>tc σ2 H3 λb H4=>
    if b=true then te σ2 H4 λy H5=>H5 l=some (.lst ys)/\ys.length<sizeLine/\∃m',m'<m/\W (i+1) m' (ys++[y]) σ2 (upd H5 l (.lst (ys++[y])))
    else ∃m',m'<m/\W (i+1) m' ys σ2 H4):=by
 refine⟨λi m ys σ' H'=>m=n-i/\i<=n/\ys.length<=i/\Pv i ys σ' H',⟨n,rfl,abf _,apX _,h0⟩,?_⟩;rintro i m ys σ' H' ⟨rfl,hi,hy,p⟩;by_cases hlt:i<n
 .refine .inr ⟨hlt,λx H2 q=>?_⟩;obtain⟨rfl,rfl⟩:=q;exact hs i ys σ' _ hlt hy p
 .have e:i=n:=by lia
  subst e;exact .inl ⟨apX _,hd ys σ' H' hy p⟩
theorem Od{K:W.Frag}{a:Addr}{xs:List V}{l:Addr}{g:TG}{tc:TT}{te:TE}{σ0:St}{H0:Hp}{Qf:Hp->Prop}(Pv:Nat->List V->St->Hp->Prop)(h0:Pv 0 [] σ0 H0)
  (hl:∀i ys σ' H',i<=xs.length->Pv i ys σ' H'->aB K H' a xs)
  (hs:∀i x ys σ' H',i<xs.length->xs[i]?=some x->ys.length<=i->Pv i ys σ' H'->g x σ' H' λσ2 H3=>tc σ2 H3 λb H4=>if b=true then te σ2 H4 λy H5=>rC xs.length l Pv i ys σ2 y H5 else Bx xs.length Pv i ys σ2 H4)
  (hd:∀ys σ' H',ys.length<=xs.length->Pv xs.length ys σ' H'->Qf H') :
  ∃W:Nat->Nat->List V->St->Hp->Prop,(∃m,W 0 m [] σ0 H0)/\∀i m ys σ' H',W i m ys σ' H' ->
  ((Bw K a).stop i H'/\Qf H')\/((Bw K a).go i H'/\∀x H2,(Bw K a).rL i H' x H2->g x σ' H2 λσ2 H3=>tc σ2 H3 λb H4=>
    if b=true then te σ2 H4 λy H5=>H5 l=some (.lst ys)/\ys.length<sizeLine/\∃m',m'<m/\W (i+1) m' (ys++[y]) σ2 (upd H5 l (.lst (ys++[y])))
    else ∃m',m'<m/\W (i+1) m' ys σ2 H4):=by
 refine⟨λi m ys σ' H'=>m=xs.length-i/\i<=xs.length/\ys.length<=i/\Pv i ys σ' H',⟨xs.length,rfl,abf _,apX _,h0⟩,?_⟩;rintro i m ys σ' H' ⟨rfl,hi,hy,p⟩;have q:=hl i ys σ' H' hi p;by_cases hlt:i<xs.length
 .refine .inr ⟨⟨xs,xs[i],q,by simp[hlt]⟩,λx H2 z=>?_⟩;obtain⟨rfl,z⟩:=z;exact hs i x ys σ' _ hlt (z xs q) hy p
 .have e:i=xs.length:=by lia
  subst e;exact .inl ⟨⟨xs,q,apX _⟩,hd ys σ' H' hy p⟩
theorem ZiU{K:W.Frag}{a b:Addr}{xs zs:List V}{l:Addr}{g:TG}{tc:TT}{te:TE}{σ0:St}{H0:Hp}{Qf:Hp->Prop}(hlen:xs.length=zs.length)(Pv:Nat->List V->St->Hp->Prop)(h0:Pv 0 [] σ0 H0)
  (hl:∀i ys σ' H',i<=xs.length->Pv i ys σ' H'->aB K H' a xs/\aB K H' b zs)
  (hs:∀i x z t ys σ' H',i<xs.length->xs[i]?=some x->zs[i]?=some z->ys.length<=i->Pv i ys σ' H'->H' t=none->g (.ref t) σ' (upd H' t (.tup [x,z])) λσ2 H3=>tc σ2 H3 λb H4=>if b=true then te σ2 H4 λy H5=>rC xs.length l Pv i ys σ2 y H5 else Bx xs.length Pv i ys σ2 H4)
  (hd:∀ys σ' H',ys.length<=xs.length->Pv xs.length ys σ' H'->Qf H') :
  ∃W:Nat->Nat->List V->St->Hp->Prop,(∃m,W 0 m [] σ0 H0)/\∀i m ys σ' H',W i m ys σ' H' ->
  ((Ac K a b).stop i H'/\Qf H')\/((Ac K a b).go i H'/\∀x H2,(Ac K a b).rL i H' x H2->g x σ' H2 λσ2 H3=>tc σ2 H3 λb H4=>
    if b=true then te σ2 H4 λy H5=>H5 l=some (.lst ys)/\ys.length<sizeLine/\∃m',m'<m/\W (i+1) m' (ys++[y]) σ2 (upd H5 l (.lst (ys++[y])))
    else ∃m',m'<m/\W (i+1) m' ys σ2 H4):=by
 refine⟨λi m ys σ' H'=>m=xs.length-i/\i<=xs.length/\ys.length<=i/\Pv i ys σ' H',⟨xs.length,rfl,abf _,apX _,h0⟩,?_⟩;rintro i m ys σ' H' ⟨rfl,hi,hy,p⟩;have q:=hl i ys σ' H' hi p;by_cases hlt:i<xs.length
 .have hz:i<zs.length:=by lia
  refine .inr ⟨⟨xs,zs,xs[i],zs[i],q.1,q.2,by simp[hlt],by simp[hz]⟩,λx H2 z=>?_⟩;obtain⟨t,u,v,ht,rfl,rfl,z1,z2⟩:=z;exact hs i u v t ys σ' _ hlt (z1 xs q.1) (z2 zs q.2) hy p ht
 .have e:i=xs.length:=by lia
  subst e;exact .inl ⟨⟨xs,zs,q.1,q.2,.inl (apX _)⟩,hd ys σ' H' hy p⟩
theorem Sv{K:W.Frag}{a:Addr}{xs:List V}{g:TG}{tb:TS}{D:Ends}{σ:St}{H:Hp}(Pv:Nat->St->Hp->Prop)(h0:Pv 0 σ H)(hl:∀i σ H,i<=xs.length->Pv i σ H->aB K H a xs)
  (hs:∀i x t σ H,xs[i]?=some x->Pv i σ H->H t=none->g (.ref t) σ (upd H t (.tup [.int i,x])) λσ2 H2=>tb { D with nx:=Pv (i+1),ct:=Pv (i+1),bk:=D.nx } σ2 H2) (hd:∀ σ H,Pv xs.length σ H->D.nx σ H) :
  ∃W:Nat->Nat->St->Hp->Prop,(∃m,W 0 m σ H)/\∀i m σ H,W i m σ H ->
   ((IT K a).stop i H/\D.nx σ H)\/((IT K a).go i H/\∃N:St->Hp->Prop,(∀ σ' H',N σ' H'->∃m',m'<m/\W (i+1) m' σ' H')/\∀x H',(IT K a).rL i H x H'->g x σ H' λσ2 H2=>tb { D with nx:=N,ct:=N,bk:=D.nx } σ2 H2):=by
 refine⟨λi m σ H=>m=xs.length-i/\i<=xs.length/\Pv i σ H,⟨xs.length,by simp,abf _,h0⟩,?_⟩;rintro i m σ H ⟨rfl,hi,p⟩;have q:=hl i σ H hi p;by_cases hlt:i<xs.length
 .refine .inr ⟨⟨xs,xs[i],q,by simp[hlt]⟩,Pv (i+1),λσ' H' p'=>⟨xs.length-(i+1),by lia,rfl,hlt,p'⟩,λx H' y=>?_⟩;obtain⟨t,u,ht,rfl,rfl,y⟩:=y;exact hs i u t σ _ (y xs q) p ht
 .have e:i=xs.length:=by lia
  subst e;exact .inl ⟨⟨xs,q,rfl⟩,hd σ H p⟩
theorem dF{α:Type}{x:α}{xs:List α}:fP (x ::xs) 0=some x:=yp (j:=0) rfl
theorem ig{α:Type}{x y:α}{xs:List α}:fP (x ::y ::xs) 1=some y:=yp (j:=1) rfl
theorem lB{α:Type}{x y z:α}{xs:List α}:fP (x ::y ::z ::xs) 2=some z:=yp (j:=2) rfl
theorem uP{p A B:Prop}[Decidable p](h1:p->A)(h2:¬p->B):if decide p=true then A else B:=by
 by_cases h:p
 .rw [aYH (aSJ h)];exact h1 h
 .rw [aoK (by rw[bcN h];exact aPf)];exact h2 h
def NS:PySem.Expr->Prop
 | .Starred _ _=>False
 |_=>True
theorem vt{e:PySem.Expr}{es:List PySem.Expr}{env:Env}(h:NS e):starEach (e ::es) env=(false,eval e env) ::starEach es env:=by
 cases e <;> first|rfl|exact h.elim
def ya:List PySem.Expr->Prop
 | []=>True
 |e ::es=>NS e/\ya es
theorem C8{pos:Pos}{env:Env}:∀{es:List PySem.Expr},ya es->(backTo pos (starEach es env)).any (·.1)=false
 | [],_=>rfl
 |e ::es,h=>by
  rw[vt h.1];have ih:=C8 (pos:=pos) (env:=env) h.2;simp only[backTo]at ih ⊢;simpa using ih
section
variable{X:Cx}{x:Str}{p pos:Pos}{e:PySem.Expr}{es:List PySem.Expr}{te:TE}{t:TA}{k:Nat}{ps:List Str}{sp:Sp}{id T:String}{r:List V->Hp->VK->Prop}
theorem pc(ha:PE X e te)(hr:PA X es t)(hn:NS e:=by exact True.intro):PA X (e ::es) (An te t):=Zkg ha hr (vt hn)
theorem Zm(D:Def X.prog X.w X.K X.mg X.base x k ps sp)(hr:bu k X.A)(hg:Gl X x)(ha:PA X (e ::es) t)(hn:ya (e ::es):=by repeat' (first|exact True.intro|refine⟨?_,?_⟩))(hd:(x ==("__debug__":Str))=false:=by decide) :
  PE X (.Call (.Name x p) (e ::es) [] pos) (sO sp [] E0 t):=Z1 D hr hg ha (vt hn.1) (C8 hn.2) hd
theorem Zs(hc:bA X (.builtin id) r)(hg:Gl X x)(hm:X.mg x=none)(hv:bootBuiltins x=some (.builtin id))(ha:PA X (e ::es) t)(hnn:ya (e ::es):=by repeat' (first|exact True.intro|refine⟨?_,?_⟩))(hn:x ≠ "__name__":=by decide)(hdb:(x ==("__debug__":Str))=false:=by decide) :
  PE X (.Call (.Name x p) (e ::es) [] pos) (Jl r t):=ZiO hc hg hm hv ha hn hdb (vt hnn.1) (C8 hnn.2)
theorem ZW(hc:bA X (.type T) r)(hg:Gl X x)(hm:X.mg x=none)(hv:bootBuiltins x=some (.type T))(ha:PA X (e ::es) t)(hnn:ya (e ::es):=by repeat' (first|exact True.intro|refine⟨?_,?_⟩))(hn:x ≠ "__name__":=by decide)(hdb:(x ==("__debug__":Str))=false:=by decide) :
  PE X (.Call (.Name x p) (e ::es) [] pos) (Jl r t):=Zhm hc hg hm hv ha hn hdb (vt hnn.1) (C8 hnn.2)
end
theorem ZiV{K:W.Frag}{a:Addr}{xs:List V}{l:Addr}{g:TG}{tc:TT}{te:TE}{σ0:St}{H0:Hp}{Qf:Hp->Prop}(Pv:Nat->List V->St->Hp->Prop)(h0:Pv 0 [] σ0 H0)
  (hl:∀i ys σ' H',i<=xs.length->Pv i ys σ' H'->aX K H' a xs)
  (hs:∀i x ys σ' H',i<xs.length->xs[i]?=some x->ys.length<=i->Pv i ys σ' H'->g x σ' H' λσ2 H3=>tc σ2 H3 λb H4=>if b=true then te σ2 H4 λy H5=>rC xs.length l Pv i ys σ2 y H5 else Bx xs.length Pv i ys σ2 H4)
  (hd:∀ys σ' H',ys.length<=xs.length->Pv xs.length ys σ' H'->Qf H') :
  ∃W:Nat->Nat->List V->St->Hp->Prop,(∃m,W 0 m [] σ0 H0)/\∀i m ys σ' H',W i m ys σ' H' ->
  ((IS K a).stop i H'/\Qf H')\/((IS K a).go i H'/\∀x H2,(IS K a).rL i H' x H2->g x σ' H2 λσ2 H3=>tc σ2 H3 λb H4=>
    if b=true then te σ2 H4 λy H5=>H5 l=some (.lst ys)/\ys.length<sizeLine/\∃m',m'<m/\W (i+1) m' (ys++[y]) σ2 (upd H5 l (.lst (ys++[y])))
    else ∃m',m'<m/\W (i+1) m' ys σ2 H4):=by
 refine⟨λi m ys σ' H'=>m=xs.length-i/\i<=xs.length/\ys.length<=i/\Pv i ys σ' H',⟨xs.length,rfl,abf _,apX _,h0⟩,?_⟩;rintro i m ys σ' H' ⟨rfl,hi,hy,p⟩;have q:=hl i ys σ' H' hi p;by_cases hlt:i<xs.length
 .refine .inr ⟨⟨xs,xs[i],q,by simp[hlt]⟩,λx H2 z=>?_⟩;obtain⟨rfl,z⟩:=z;exact hs i x ys σ' _ hlt (z xs q) hy p
 .have e:i=xs.length:=by lia
  subst e;exact .inl ⟨⟨xs,q,apX _⟩,hd ys σ' H' hy p⟩
section
variable{X:Cx}{K:W.Frag}
theorem Zo(hK:X.K=K):IQ X (BI K):=hK ▸Zkn
theorem ZN(hK:X.K=K):IQ X (BH K):=hK ▸Z6
theorem To(hK:X.K=K):Ot X (BG K):=hK ▸Zko
theorem Ul(hK:X.K=K):lQ X (compareOp .NotIn) (Lw K true):=hK ▸ZdS
theorem ZG(hK:X.K=K):bA X (.builtin "len") (λxs H Q=>∃p ys,xs=[.ref p]/\(aB K H p ys\/aX K H p ys)/\Q (.int ys.length) H):=hK ▸ZdT
theorem KW(hK:X.K=K):bA X (.type "list") (λxs H Q=>∃p ys,xs=[.ref p]/\(aB K H p ys\/aX K H p ys)/\∀l,H l=none->Q (.ref l) (upd H l (.lst ys))):=hK ▸ZdU
theorem ZcG(hK:X.K=K):bA X (.type "tuple") (λxs H Q=>∃p ys,xs=[.ref p]/\((aB K H p ys/\∀l,H l=none->Q (.ref l) (upd H l (.tup ys)))\/(aX K H p ys/\Q (.ref p) H))):=hK ▸Zdd
end
end L2
namespace HT
open PySem PyProof.Rows
section
open PySem.SeqAt
open PySem.AutoSeq1 (wpAny_loadPart')
open PySem.MeetsSeq PySem.MeetsSeq2 PySem.MeetsSeq3
end
end HT
namespace L2
open PySem PySem.Spec PyProof.Rows
theorem Rh{h:Heap}{a:Addr}{us:Array Value}(x:IsTup h a us):a<h.objs.size:=by
 obtain⟨o,ho,_⟩:=x;exact aNG ho
section
variable{X:Cx}
inductive tV(x:V)(vs:List V)(H:Hp)(Q:VK):Prop
 |mk (l:Addr) (ns:List Int) (k:Int):x=.ref l->vs=[.int k]->H l=some (.lst (ns.map V.int))->k∈ns->Q .aQ (upd H l (.lst ((ns.erase k).map V.int)))->tV x vs H Q
theorem Tn(k:Int):∀(ns:List Int),k∈ns->∃j,ns[j]?=some k/\(∀m z,m<j->ns[m]?=some z->z≠k)/\ns.erase k=ns.eraseIdx j
 | [],h=>nomatch h
 |x ::ns,h=>by
  by_cases hx:x=k
  .subst hx;exact⟨0,rfl,λm z hm=>absurd hm (a1g _),by rw[erase_cons_head,List.eraseIdx_cons_zero]⟩
  .have hm:k∈ns:=by
    rcases aCP.mp h with e|e
    .exact absurd e.symm hx
    .exact e
   obtain⟨j,h1,h2,h3⟩:=Tn k ns hm;refine⟨j+1,by simpa using h1,λm z hm hz=>?_,?_⟩
   .cases m with
    |zero=>
     have e:x=z:=by simpa using hz
     rw[<-e];exact hx
    |succ m=>exact h2 m z (by lia) (by simpa using hz)
   .rw [List.erase_cons_tail (by simpa using hx),h3,a87]
theorem ZgI{xs:List V}{us:List Value}:∀(j:Nat),Vals xs us->Vals (xs.eraseIdx j) (us.eraseIdx j):=by
 intro j r
 induction r generalizing j with
 |nil=>exact .nil
 |cons h t ih=>
  cases j with
  |zero=>exact t
  |succ j=>exact .cons h (ih j)
theorem TQ:UG X "list.remove" tV:=by
 intro pins s σ H x vs v us Q I rx rv h;obtain⟨l,ns,k,rfl,rfl,hH,hk,q⟩:=h;cases rx;obtain⟨u,rfl,ru⟩:=rv.one;obtain⟨tk,rfl⟩:=ru;obtain⟨z,its,n,r,hl,e⟩:=I.w9 hH;rw[aW8]at hl z;obtain⟨j,h1,h2,h3⟩:=Tn k ns hk;have get:∀(m:Nat)(hm:m<its.toArray.size),∃(i:Int)(t:Tok),ns[m]?=some i/\its.toArray[m]=.int i t:=λm hm=>by
  have hm':m<ns.length:=by rw[hl];simpa using hm
  obtain⟨w,hw,rw'⟩:=r.get (i:=m) (x:=.int ns[m]) (by rw[aeb,aEW hm'];rfl);obtain⟨t,rfl⟩:=rw';refine⟨ns[m],t,aEW hm',?_⟩;have:its[m]?=some its[m]:=aEW (by simpa using hm);rw[hw]at this;simpa using(aDb this).symm
 have hj:j<its.toArray.size:=by
  have:=(azG.mp h1).1;rw[hl]at this;simpa using this
 refine call_meets F.slot_list_remove ⟨_,e,rfl⟩ F.entry_list_remove (F.args_list_remove_2 _ _) (MeetsSeq.list_remove l its.toArray n (.int k tk) (λy=>match y with| .int i _=>i ==k|_=>false) (λy hy=>?_) j hj ?_ (λm hm XM=>?_) (by rw[aBb,<-hl];exact z)) ⟨e,?_⟩
 .obtain ⟨m,hm,rfl⟩:=Array.getElem_of_mem hy;obtain⟨i,t,_,e2⟩:=get m hm;rw[e2];exact MeetsSeq.EqGives.int i k t tk
 .obtain ⟨i,t,e1,e2⟩:=get j hj;rw[h1]at e1;cases e1;rw[e2];simp
 .obtain ⟨i,t,e1,e2⟩:=get m hm;rw[e2];simpa using h2 m i XM e1
 .refine ⟨.aQ,_,I.xg (its':=its.eraseIdx j) (ys:=(ns.erase k).map V.int) hH e ?_ ?_ ?_,rfl,q⟩
  .rw [List.eraseIdxIfInBounds_toArray]
  .rw [h3];have em:∀(xs:List Int)(i:Nat),(xs.eraseIdx i).map V.int=(xs.map V.int).eraseIdx i:=λxs=>by
    induction xs with
    |nil=>intro i;rfl
    |cons y xs ih=>intro i;cases i with
     |zero=>rfl
     |succ i=>rw[a87,aSM,aSM,a87,ih]
   rw[em];exact ZgI j r
  .rw [aW8];exact alM List.length_erase_le z
end
section
variable{κ:Type}[DecidableEq κ]
def aK(kvs:List (κ×V))(k:κ):Option V:=(kvs.find? λkv=>decide (kv.1=k)).map (·.2)
def putK(kvs:List (κ×V))(k:κ)(v:V):List (κ×V):=
 if(kvs.any λkv=>decide (kv.1=k))=true then kvs.map (λkv=>if kv.1=k then(kv.1,v) else kv) else kvs++[(k,v)]
def aT(kvs:List (κ×V))(k:κ):List (κ×V):=kvs.filter λkv=>decide (kv.1≠k)
theorem ZL{p:κ×V}{r:List (κ×V)}{k:κ}(e:p.1=k):aK (p ::r) k=some p.2:=by simp[aK,ajC,e]
theorem ZH{p:κ×V}{r:List (κ×V)}{k:κ}(e:¬p.1=k):aK (p ::r) k=aK r k:=by simp[aK,ajC,e]
theorem Iu(k:κ):∀kvs:List (κ×V),(kvs.any λkv=>decide (kv.1=k))=(aK kvs k).isSome
 | []=>rfl
 |p ::r=>by
  rw[any_cons];by_cases e:p.1=k
  .simp only[ZL e,aSJ e,Bool.true_or,Option.isSome_some]
  .rw [ZH e,bcN e,Bool.false_or];exact Iu k r
theorem Tj(k j:κ)(y:V):∀kvs:List (κ×V),aK (kvs.map λkv=>if kv.1=k then(kv.1,y) else kv) j=(aK kvs j).map λx=>if j=k then y else x
 | []=>rfl
 |p ::r=>by
  have ih:=Tj k j y r;rw[aSM];by_cases h:p.1=k
  .rw [aYH h];by_cases e:p.1=j
   .rw [ZL (p:=(p.1,y)) e,ZL e,bb2,aYH (e.symm.trans h)]
   .rw [ZH (p:=(p.1,y)) e,ZH e,ih]
  .rw [aoK h];by_cases e:p.1=j
   .rw [ZL (p:=p) e,ZL e,bb2,aoK (λz=>h (e.trans z))]
   .rw [ZH (p:=p) e,ZH e,ih]
theorem TN(k j:κ)(y:V):∀kvs:List (κ×V),aK kvs k=none->aK (kvs++[(k,y)]) j=if j=k then some y else aK kvs j
 | [],_=>by
  by_cases e:k=j
  .rw [aYH e.symm];exact ZL (p:=(k,y)) e
  .rw [aoK (λz=>e z.symm)];exact ZH (p:=(k,y)) e
 |p ::r,hn=>by
  rw[List.cons_append];have hk:¬p.1=k:=λz=>by rw[ZL z]at hn;cases hn
  rw[ZH hk]at hn;have ih:=TN k j y r hn;by_cases e:p.1=j
  .rw [ZL e,ZL e,aoK (λz=>hk (e.trans z))]
  .rw [ZH e,ZH e,ih]
theorem EC(kvs:List (κ×V))(k j:κ)(y:V):aK (putK kvs k y) j=if j=k then some y else aK kvs j:=by
 unfold putK;by_cases a:(kvs.any λkv=>decide (kv.1=k))=true
 .rw [aYH a,Tj];rw[Iu]at a;by_cases e:j=k
  .obtain ⟨x,hx⟩:=Option.isSome_iff_exists.mp a;rw[aYH e,e,hx,bb2,aYH rfl]
  .rw [aoK e];cases aK kvs j with
   |none=>rfl
   |some x=>rw[bb2,aoK e]
 .rw [aoK a];refine TN k j y kvs ?_;rw[Iu]at a;cases q:aK kvs k with
  |none=>rfl
  |some x=>rw[q]at a;exact(a rfl).elim
theorem Iv(kvs:List (κ×V))(k:κ)(v:V):(putK kvs k v).length<=kvs.length+1:=by
 unfold putK;split
 .rw [aW8];lia
 .rw [aE0,aXW,length_nil];lia
theorem dz.iP{o:Option V}{u:Option Value}(r:dz o u):o.isSome=u.isSome:=by
 cases o with
 |none=>cases u with
  |none=>rfl
  |some _=>exact(show False from r).elim
 |some _=>cases u with
  |none=>exact(show False from r).elim
  |some _=>rfl
theorem dz.getD{o:Option V}{u:Option Value}{d:V}{d':Value}(r:dz o u)(rd:RelV d d'):RelV (o.getD d) (u.getD d'):=by
 cases o with
 |none=>cases u with
  |none=>exact rd
  |some _=>exact(show False from r).elim
 |some _=>cases u with
  |none=>exact(show False from r).elim
  |some _=>exact r
theorem KV.val{kvs:List (κ×V)}{vs:List (κ×Value)}(r:KV kvs vs)(k:κ):dz (aK kvs k) (valueAt vs k):=by
 unfold KV at r
 induction r with
 |nil=>exact True.intro
 | @cons p q ps qs h t ih=>
  obtain⟨h1,h2⟩:=h;by_cases e:p.1=k
  .have e':q.1=k:=h1.symm.trans e;have b:valueAt (q ::qs) k=some q.2:=by simp[valueAt,ajC,e']
   rw[ZL e,b];exact h2
  .have e':¬q.1=k:=λz=>e (h1.trans z);have b:valueAt (q ::qs) k=valueAt qs k:=by simp[valueAt,ajC,e']
   rw[ZH e,b];exact ih
theorem KV.any{kvs:List (κ×V)}{vs:List (κ×Value)}(r:KV kvs vs)(k:κ):(kvs.any λkv=>decide (kv.1=k))=vs.any λkv=>decide (kv.1=k):=by
 unfold KV at r
 induction r with
 |nil=>rfl
 |cons h t ih=>rw[any_cons,any_cons,ih,h.1]
theorem KV.repl{kvs:List (κ×V)}{vs:List (κ×Value)}(r:KV kvs vs)(k:κ){y:V}{u:Value}(ry:RelV y u) :
  KV (kvs.map λkv=>if kv.1=k then(kv.1,y) else kv) (vs.map λkv=>if kv.1=k then(kv.1,u) else kv):=by
 unfold KV at r ⊢
 induction r with
 |nil=>exact .nil
 | @cons p q ps qs h t ih=>
  rw[aSM,aSM];refine .cons ?_ ih;obtain⟨h1,h2⟩:=h;by_cases e:p.1=k
  .rw [aYH e,aYH (h1.symm.trans e)];exact⟨h1,ry⟩
  .rw [aoK e,aoK (λz=>e (h1.trans z))];exact⟨h1,h2⟩
theorem KV.put{kvs:List (κ×V)}{vs:List (κ×Value)}(r:KV kvs vs)(k:κ){y:V}{u:Value}(ry:RelV y u):KV (putK kvs k y) (stored vs k u):=by
 unfold putK stored;rw[r.any k];by_cases e:(vs.any λkv=>decide (kv.1=k))=true
 .rw [aYH e,aYH e];exact r.repl k ry
 .rw [aoK e,aoK e];exact Paired.snoc r ⟨rfl,ry⟩
theorem KV.drop{kvs:List (κ×V)}{vs:List (κ×Value)}(r:KV kvs vs)(k:κ):KV (aT kvs k) (without vs k):=by
 unfold KV at r ⊢;unfold aT without
 induction r with
 |nil=>exact .nil
 | @cons p q ps qs h t ih=>
  obtain⟨h1,h2⟩:=h;rw[anE,anE];by_cases e:p.1=k
  .have a:¬decide (p.1≠k)=true:=by simp[e]
   have b:¬decide (q.1≠k)=true:=by simp[h1.symm.trans e]
   rw[aoK a,aoK b];exact ih
  .have e':¬q.1=k:=λz=>e (h1.trans z);have a:decide (p.1≠k)=true:=by simp[e]
   have b:decide (q.1≠k)=true:=by simp[e']
   rw[aYH a,aYH b];exact .cons ⟨h1,h2⟩ ih
theorem KV.length{kvs:List (κ×V)}{vs:List (κ×Value)}(r:KV kvs vs):kvs.length=vs.length:=avy r
theorem ZiW(kvs:List (κ×V))(k:κ):(aT kvs k).length<=kvs.length:=aj2 _ _
end
theorem lg{P:Program}{w:World}{k:Key}{u:Value}(r:RelV (kV k) u):(Zw P w).is k u=true:=by
 cases k with
 |inl i=>obtain⟨t,e⟩:=(show ∃t,u=Value.int i t from r);subst e;exact ZeB P w i t
 |inr x=>obtain⟨t,e⟩:=(show ∃t,u=Value.str x t from r);subst e;exact ZeC P w x t
theorem TM{P:Program}{w:World}:∀{ks:List Key}{us:List Value},Vals (ks.map kV) us->ItemsAre (Zw P w) ks us
 | [],_,r=>by rw[map_nil]at r;cases r;exact .nil
 |k ::ks,_,r=>by
  rw[aSM]at r;cases r with
  |cons h t=>exact .cons (lg h) (TM t)
abbrev KT(H:Hp):List (List Key×V)->List (List Key×Addr×Value)->Prop:=Paired λp q=>p.1=q.1/\H q.2.1=some (.tup (p.1.map kV))/\RelV p.2 q.2.2
theorem KT.val{H:Hp}{kvs:List (List Key×V)}{xs:List (List Key×Addr×Value)}(r:KT H kvs xs)(k:List Key):dz (aK kvs k) ((atKey xs k).map (·.2)):=by
 induction r with
 |nil=>exact True.intro
 | @cons p q ps qs h t ih=>
  obtain⟨h1,_,h2⟩:=h;by_cases e:p.1=k
  .have e':q.1=k:=h1.symm.trans e;have b:atKey (q ::qs) k=some q.2:=by simp[atKey,ajC,e']
   rw[ZL e,b];exact h2
  .have e':¬q.1=k:=λz=>e (h1.trans z);have b:atKey (q ::qs) k=atKey qs k:=by simp[atKey,ajC,e']
   rw[ZH e,b];exact ih
theorem KT.repl{H:Hp}{kvs:List (List Key×V)}{xs:List (List Key×Addr×Value)}(r:KT H kvs xs)(k:List Key){y:V}{u:Value}(ry:RelV y u) :
  KT H (kvs.map λkv=>if kv.1=k then(kv.1,y) else kv) (xs.map (putAt k u)):=by
 induction r with
 |nil=>exact .nil
 | @cons p q ps qs h t ih=>
  rw[aSM,aSM];refine .cons ?_ ih;obtain⟨h1,h2,h3⟩:=h;unfold putAt;by_cases e:p.1=k
  .rw [aYH e,aYH (h1.symm.trans e)];exact⟨h1,h2,ry⟩
  .rw [aoK e,aoK (λz=>e (h1.trans z))];exact⟨h1,h2,h3⟩
theorem KT.put{H:Hp}{kvs:List (List Key×V)}{xs:List (List Key×Addr×Value)}(r:KT H kvs xs)(k:List Key){b:Addr}{y:V}{u:Value}(hb:H b=some (.tup (k.map kV)))(ry:RelV y u) :
  KT H (putK kvs k y) (storedH xs k b u):=by
 have e:(kvs.any λkv=>decide (kv.1=k))=(atKey xs k).isSome:=by
  rw[Iu,(r.val k).iP,Option.isSome_map]
 unfold putK storedH;rw[e];by_cases q:(atKey xs k).isSome=true
 .rw [aYH q,aYH q];exact r.repl k ry
 .rw [aoK q,aoK q];exact Paired.snoc r ⟨rfl,hb,ry⟩
theorem KT.keeps{H H':Hp}{kvs:List (List Key×V)}{xs:List (List Key×Addr×Value)}(r:KT H kvs xs)(ht:∀b ys,H b=some (.tup ys)->H' b=some (.tup ys)):KT H' kvs xs:=
 Paired.Ck r λ_ _ z=>⟨z.1,ht _ _ z.2.1,z.2.2⟩
section
variable{P:Program}{w:World}{H:Hp}{h:Heap}{a:Addr}
theorem Ay{u:HO}(ok:d9 P w H h)(e:Rd H a u):aF P w H h a u:=e.ok ok
theorem nK{kvs:List (Key×V)}(ok:d9 P w H h)(e:Rd H a (.dK kvs)):kvs.length<=sizeLine/\(a ==sysModules)=false/\∃vs,KV kvs vs/\h.DictOf (Zw P w) a vs:=
 show aF P w H h a (.dK kvs) from Ay ok e
theorem xJ{kvs:List (Key×V)}(ok:d9 P w H h)(e:H a=some (.dK kvs)):kvs.length<=sizeLine/\(a ==sysModules)=false/\∃vs,KV kvs vs/\h.DictOf (Zw P w) a vs:=nK ok (.inl e)
theorem HU{ks:List Key}(ok:d9 P w H h)(e:H a=some (.tup (ks.map kV))):(tupleKind (Zw P w)).is h ks a:=by
 obtain⟨_,its,r,o,h1,h2,n,h3⟩:=(show aF P w H h a (.tup (ks.map kV)) from ok a _ e);exact⟨o,its.toArray,n,h1,h2,h3,by simpa using TM r⟩
theorem nJ{kvs:List (List Key×V)}(ok:d9 P w H h)(e:Rd H a (.dT kvs)):kvs.length<=sizeLine/\(a ==sysModules)=false /\
  ∃xs,KT H kvs xs/\h.DictOfH (tupleKind (Zw P w)) a xs:=by
 obtain⟨z,y,xs,r,o,es,ep,h1,h2,h3,h4,h5⟩:=(show aF P w H h a (.dT kvs) from Ay ok e);refine⟨z,y,xs,r,o,es,ep,h1,h2,h3,h4,λx hx=>?_,h5⟩;have all:∀{l:List (List Key×V)}{m:List (List Key×Addr×Value)},KT H l m->∀x∈m,(tupleKind (Zw P w)).is h x.1 x.2.1:=by
  intro l m q
  induction q with
  |nil=>intro x hx;exact nomatch hx
  | @cons p q ps qs hq t ih=>
   intro x hx;rcases aCP.mp hx with e|hx
   .subst e;exact HU ok (by rw[<-hq.1];exact hq.2.1)
   .exact ih x hx
 exact all r x hx
theorem HC{kvs:List (List Key×V)}(ok:d9 P w H h)(e:H a=some (.dT kvs)):kvs.length<=sizeLine/\(a ==sysModules)=false /\
  ∃xs,KT H kvs xs/\h.DictOfH (tupleKind (Zw P w)) a xs:=nJ ok (.inl e)
end
def dG(H:Hp)(a:Addr)(y:V)(r:Option V):Prop:=
 (∃kvs k,Rd H a (.dK kvs)/\y=kV k/\r=aK kvs k)\/∃kvs k b,Rd H a (.dT kvs)/\y=.ref b/\H b=some (.tup (k.map kV))/\r=aK kvs k
def lJ(H:Hp)(a:Addr)(y v:V)(H':Hp):Prop:=
 (∃kvs k,H a=some (.dK kvs)/\y=kV k/\kvs.length<sizeLine/\H'=upd H a (.dK (putK kvs k v))) \/
 ∃kvs k b,H a=some (.dT kvs)/\y=.ref b/\H b=some (.tup (k.map kV))/\kvs.length<sizeLine/\H'=upd H a (.dT (putK kvs k v))
theorem dG.k{H:Hp}{a:Addr}{kvs:List (Key×V)}{k:Key}(e:H a=some (.dK kvs)):dG H a (kV k) (aK kvs k):=.inl ⟨kvs,k,.inl e,rfl,rfl⟩
theorem lJ.k{H:Hp}{a:Addr}{kvs:List (Key×V)}{k:Key}{v:V}(e:H a=some (.dK kvs))(hl:kvs.length<sizeLine):lJ H a (kV k) v (upd H a (.dK (putK kvs k v))):=.inl ⟨kvs,k,e,rfl,hl,rfl⟩
section
variable{X:Cx}{pins:List (Addr×Obj)}{σ:St}{H:Hp}{s:Shared}{a:Addr}{y v:V}{u r:Value}{o:Option V}{A:Around}{E:Value->Shared->Prop}
theorem Inv.big(I:Inv X pins σ H s):sysModules<s.heap.objs.size:=by
 have h:mainGlobals<s.heap.objs.size:=(I.mod.glob.keeps I.bk).lt;exact aHq (by decide) h
theorem TL{Q:Value->Shared->Prop}(hu:A.units+1<cLine)(I:Inv X pins σ H s)(g:dG H a y (some v))(ry:RelV y u)(h:∀w' s',Inv X pins σ H s'->RelV v w'->Q w' s') :
  wpAny (model X.prog X.w) A (getItem (.ref a) u) Q E s:=by
 rcases g with⟨kvs,k,e,ey,l⟩|⟨kvs,k,b,e,ey,eb,l⟩
 .subst ey;obtain⟨z,hd,vs,rel,dd⟩:=nK I.hok e;obtain⟨w',hw,rw'⟩:=dz.some_of (v:=v) (o:=valueAt vs k) (by rw[l];exact rel.val k);exact wpAny_getItem_of (lg ry) dd.mapOf hw (h w' _ (I.tok _) rw')
 .subst ey;cases(show u=Value.ref b from ry);obtain⟨z,hd,xs,rel,dd⟩:=nJ I.hok e;obtain⟨w',hw,rw'⟩:=dz.some_of (v:=v) (o:=(atKey xs k).map (·.2)) (by rw[l];exact rel.val k);obtain⟨p,hp,hp2⟩:=Option.map_eq_some_iff.mp hw;refine wpAny_getItem_heap (avE hu) (HU I.hok eb) dd hp ?_;rw[hp2];exact h w' _ (I.tok _) rw'
theorem MZ{Q:Value->Shared->Prop}(hu:A.units+1<cLine)(I:Inv X pins σ H s)(g:dG H a y o)(ry:RelV y u)(h:∀s',Inv X pins σ H s'->Q (.bool o.isSome) s') :
  wpAny (model X.prog X.w) A (compareOp .In u (.ref a)) Q E s:=by
 rcases g with⟨kvs,k,e,ey,l⟩|⟨kvs,k,b,e,ey,eb,l⟩
 .subst ey;obtain⟨z,hd,vs,rel,dd⟩:=nK I.hok e;refine wpAny_in_of (lg ry) hd dd.mapOf ?_;rw[<-(rel.val k).iP,<-l];exact h _ (I.tok _)
 .subst ey;cases(show u=Value.ref b from ry);obtain⟨z,hd,xs,rel,dd⟩:=nJ I.hok e;refine wpAny_in_heap (avE hu) (HU I.hok eb) hd dd ?_;have q:=(rel.val k).iP;rw[Option.isSome_map]at q;rw[<-q,<-l];exact h _ (I.tok _)
theorem NN{h':Heap}{t':Nat}{ob:HO}(I:Inv X pins σ H s)(mu:IP (H a))(hs:Heap.SameBut a s.heap h')(he:∃q,h'.get? a=some q)(new:aF X.prog X.w (upd H a ob) h' a ob) :
  Inv X pins σ (upd H a ob) { s with heap:=h',toks:=t' }:=
 I.write (x:=a) (e:=a) mu (.inl rfl) (λb q hb z=>(hs.2 b hb).trans z) he new
theorem Rg{P:Program}{w:World}{H':Hp}{h':Heap}{kvs:List (Key×V)}{vs:List (Key×Value)}(z:kvs.length<=sizeLine)(hd:(a ==sysModules)=false)(rel:KV kvs vs)(dd:h'.DictOf (Zw P w) a vs) :
  aF P w H' h' a (.dK kvs):=⟨z,hd,vs,rel,dd⟩
theorem TJ{H':Hp}{Q:Unit->Shared->Prop}(hu:A.units+1<cLine)(I:Inv X pins σ H s)(g:lJ H a y v H')(ry:RelV y u)(rv:RelV v r)(h:∀s',Inv X pins σ H' s'->Q () s') :
  wpAny (model X.prog X.w) A (setItem (.ref a) u r) Q E s:=by
 rcases g with⟨kvs,k,e,ey,l,eH⟩|⟨kvs,k,b,e,ey,eb,l,eH⟩
 .subst ey eH;obtain⟨z,hd,vs,rel,dd⟩:=xJ I.hok e;have hz:vs.length<=sizeLine:=by rw[<-rel.length];exact z
  have hl:(putK kvs k v).length<=sizeLine:=by have:=Iv kvs k v;lia
  refine wpAny_setItem_pairs (hsz:=hz) (lg ry) dd λh' CQ hs=>h _ ?_;have he:∃q,h'.get? a=some q:=let⟨q,_,_,hq,_⟩:=CQ;⟨q,hq⟩;exact NN I (by rw[e];exact True.intro) hs he (Rg hl hd (rel.put k rv) CQ)
 .subst ey eH;cases(show u=Value.ref b from ry);obtain⟨z,hd,xs,rel,dd⟩:=HC I.hok e;have hz:xs.length<=sizeLine:=by rw[<-avy rel];exact z
  have hl:(putK kvs k v).length<=sizeLine:=by have:=Iv kvs k v;lia
  refine wpAny_setItem_heap (hsz:=hz) (avE hu) (HU I.hok eb) dd λh' CQ hs=>h _ ?_;obtain⟨q,es,ep,hq,h2,h3,h4,_,h5⟩:=CQ;refine NN I (by rw[e];exact True.intro) hs ⟨q,hq⟩ ⟨hl,hd,_,(rel.put k eb rv).keeps λc ys ec=>?_,q,es,ep,hq,h2,h3,h4,h5⟩;rw[Zc (AQ ec e (λz=>nomatch z))];exact ec
end
section
variable{X:Cx}{pins:List (Addr×Obj)}{σ:St}{H:Hp}{s:Shared}{a:Addr}{kvs:List (Key×V)}{k:Key}{u:Value}{A:Around}{E:Value->Shared->Prop}
theorem A7{v:V}{more:List Value}{Q:Value->Shared->Prop}(I:Inv X pins σ H s)(e:H a=some (.dK kvs))(ry:RelV (kV k) u)(l:aK kvs k=some v)(hm:more=[]\/∃x,more=[x])
  (h:∀w' s',Inv X pins σ (upd H a (.dK (aT kvs k))) s'->RelV v w'->Q w' s'):wpAny (model X.prog X.w) A (call (.builtin "dict.pop") (.ref a ::u ::more)) Q E s:=by
 obtain⟨z,hd,vs,rel,dd⟩:=xJ I.hok e;obtain⟨w',hw,rw'⟩:=dz.some_of (v:=v) (o:=valueAt vs k) (by rw[<-l];exact rel.val k);have hp:(keyPart u).isSome=true:=by
  cases k with
  |inl i=>obtain⟨t,q⟩:=(show ∃t,u=Value.int i t from ry);subst q;rfl
  |inr x=>obtain⟨t,q⟩:=(show ∃t,u=Value.str x t from ry);subst q;rfl
 have ha:argsOk "dict.pop" ⟨.ref a ::u ::more,[]⟩:=by
  rcases hm with q|⟨x,q⟩
  .subst q;exact PySem.F.args_dict_pop_2 _ _
  .subst q;exact PySem.F.args_dict_pop_3 _ _ _
 refine call_meetsIn aaF dd.typeIs PySem.F.entry_dict_pop ha (meets_dict_pop_there (Zw X.prog X.w) a (lg ry) more hm hp)
  ⟨vs,w',dd,by rw[<-rel.length];exact z,hw,λh' CQ hs=>h w' _ ?_ rw'⟩
 have he:∃q,h'.get? a=some q:=let⟨q,_,_,hq,_⟩:=CQ;⟨q,hq⟩;exact NN I (by rw[e];exact True.intro) hs he (Rg (alM (ZiW kvs k) z) hd (rel.drop k) CQ)
theorem Z0{r:Value}{Q:Value->Shared->Prop}(I:Inv X pins σ H s)(e:H a=some (.dK kvs))(ry:RelV (kV k) u)(l:aK kvs k=none)(h:∀s',Inv X pins σ H s'->Q r s') :
  wpAny (model X.prog X.w) A (call (.builtin "dict.pop") [.ref a,u,r]) Q E s:=by
 obtain⟨z,hd,vs,rel,dd⟩:=xJ I.hok e;have hn:valueAt vs k=none:=dz.none_of (by rw[<-l];exact rel.val k);have hp:(keyPart u).isSome=true:=by
  cases k with
  |inl i=>obtain⟨t,q⟩:=(show ∃t,u=Value.int i t from ry);subst q;rfl
  |inr x=>obtain⟨t,q⟩:=(show ∃t,u=Value.str x t from ry);subst q;rfl
 exact call_meetsIn aaF dd.typeIs PySem.F.entry_dict_pop (PySem.F.args_dict_pop_3 _ _ _) (meets_dict_pop_default (Zw X.prog X.w) a (lg ry) hd hp r) ⟨vs,dd,hn,h _ (I.tok _)⟩
end
def IK(i:Expr):Prop:=∀ov iv,subscripted i false ov iv=operate [ov,iv] (getItem ov iv)
theorem Zkq{prog:Program}{w:World}{A:Around}{E:Value->Shared->Prop}{s:Shared}{env:Env}{value slice:Expr}{pos:Pos}{T id:String}{Q:Value->Shared->Prop}
  (hl:typeLookup (.type T) "__getitem__"=pure (some (.builtin id))) (hs:IK slice)
  (h:wpAny (model prog w) A (eval value env) (λo s₁=>wpAny (model prog w) A (eval slice env) (λi s₂=>s₂.TypeIs o T/\wpAny (model prog w) A (getItem o i) Q E s₂) E s₁) E s) :
  wpAny (model prog w) A (eval (.Subscript value slice pos) env) Q E s:=by
 refine Subscript_ (aEC h (λo s₁ h₁=>aEC h₁ (λi s₂ h₂=>?_) λ_ _ x=>x) λ_ _ x=>x);obtain⟨hT,h₂⟩:=h₂;unfold subscriptTail;refine agE ?_;rw[getitemInPython_of_ne hT.not_modules];refine agE (wpAny_specialOf hT hl ?_);have fin:wpAny (model prog w) A (subscripted slice false o i) (λr s₃=>wpAny (model prog w) A (letTemporaryGo value o r >>= λ_=>pure r) Q E s₃) E s₂:=by
  rw[hs o i];exact wpAny_operating (aEC h₂ (λr s₃ h₃=>agE (wpAny_letTemporaryGo (anq h₃))) λ_ _ x=>x)
 first
  |exact anq (agE fin)
  |exact agE (anq (agE fin))
  |exact agE fin
theorem ZeM{X:Cx}{pins:List (Addr×Obj)}{σ:St}{H:Hp}{s:Shared}{a:Addr}{y:V}{o:Option V}(I:Inv X pins σ H s)(g:dG H a y o):s.TypeIs (.ref a) "dict":=by
 rcases g with⟨kvs,k,e,_,_⟩|⟨kvs,k,b,e,_,_,_⟩
 .obtain ⟨_,_,vs,_,dd⟩:=nK I.hok e;exact dd.typeIs
 .obtain ⟨_,_,xs,_,dd⟩:=nJ I.hok e;exact dd.typeIs
def Fq(td ty:TE):TE:=λσ H Q=>td σ H λx H1=>ty σ H1 λy H2=>∃a v,x=.ref a/\dG H2 a y (some v)/\Q v H2
def Lh(ty td:TE):TE:=λσ H Q=>ty σ H λy H1=>td σ H1 λx H2=>∃a o,x=.ref a/\dG H2 a y o/\Q (.bl o.isSome) H2
def FG(td ty tv:TE):TS:=λD σ H=>tv σ H λv H1=>td σ H1 λx H2=>ty σ H2 λy H3=>∃a H4,x=.ref a/\lJ H3 a y v H4/\D.nx σ H4
def FH(td ty tv:TE)(rd:V->V->Hp->VK->Prop):TS:=λD σ H=>td σ H λx H1=>ty σ H1 λy H2=>∃a v,x=.ref a/\dG H2 a y (some v) /\
 tv σ H2 λy2 H3=>rd v y2 H3 λz H4=>∃H5,lJ H4 a y z H5/\D.nx σ H5
section
variable{X:Cx}{o i e value:Expr}{pos pos' tpos:Pos}{td ty tv:TE}
theorem Ic(hu:X.A.units+1<cLine)(ho:PE X o td)(hi:PE X i ty)(hs:IK i):PE X (.Subscript o i pos) (Fq td ty):=by
 intro pins s σ H Q I h;refine Zkq PySem.F.slot_dict_getitem.lookup hs (eL (ho pins s σ H _ I h) λu s1 x H1 I1 rx q1=>bS (hi pins s1 σ H1 _ I1 q1) λiv s2 ⟨y,H2,I2,ry,a,v,ex,g,q2⟩=>?_);subst ex;obtain rfl:u=Value.ref a:=rx;exact⟨ZeM I2 g,TL hu I2 g ry λw' s3 I3 rw'=>⟨v,H2,I3,rw',q2⟩⟩
theorem Y9(hu:X.A.units+1<cLine)(hi:PE X i ty)(ho:PE X o td):PC X .In i o (Lh ty td):=by
 intro pins s σ H Q I h;refine eL (hi pins s σ H _ I h) λiv s1 y H1 I1 ry q1=>bS (ho pins s1 σ H1 _ I1 q1) λu s2 ⟨x,H2,I2,rx,a,ov,ex,g,q2⟩=>?_;subst ex;obtain rfl:u=Value.ref a:=rx;exact MZ hu I2 g ry λs3 I3=>⟨.bl ov.isSome,H2,I3,rfl,q2⟩
theorem Ib(hu:X.A.units+1<cLine)(ho:PE X o td)(hi:PE X i ty)(hv:PE X value tv)(hs:swapsWith value (some (.Subscript o i pos')) pos.line X.env=pure false) :
  PS X (.Assign [.Subscript o i pos'] value pos) (FG td ty tv):=by
 intro pins s σ H D I h;refine wpAny_Assign_Subscript (eL (hv pins s σ H _ I h) λr s1 v H1 I1 rv q1=>eL (ho pins s1 σ H1 _ I1 q1) λu s2 x H2 I2 rx q2=>bS (hi pins s2 σ H2 _ I2 q2) λiv s3 ⟨y,H3,I3,ry,a,H4,ex,g,q3⟩=>?_) hs;subst ex;obtain rfl:u=Value.ref a:=rx;exact TJ hu I3 g ry rv λs4 I4=>⟨σ,H4,I4,q3⟩
theorem Zkr{op:Operator}{rd:V->V->Hp->VK->Prop}(hu:X.A.units+1<cLine)(ho:PE X o td)(hi:PE X i ty)(hv:PE X value tv)(hop:IU X op rd)
  (ha:∀ov iv new,augStore i ov iv new=(do holding [new,ov,iv] (setItem ov iv new);release [new,ov,iv] [];pure .next)):PS X (.AugAssign (.Subscript o i tpos) op value pos) (FH td ty tv rd):=by
 intro pins s σ H D I h;refine wpAny_AugAssign_SubscriptAny (eL (ho pins s σ H _ I h) λu s1 x H1 I1 rx q1=>bS (hi pins s1 σ H1 _ I1 q1) λiv s2 ⟨y,H2,I2,ry,a,v,ex,g,q2⟩=>?_) ha;subst ex;obtain rfl:u=Value.ref a:=rx;refine TL hu I2 g ry λw' s3 I3 rw'=>eL (hv pins s3 σ H2 _ I3 q2) λw2 s4 y2 H3 I4 Wc q3=>bS (hop pins s4 σ H3 v y2 w' w2 _ I4 rw' Wc q3) λw3 s5 ⟨z,H4,I5,rz,H5,g5,q4⟩=>?_;exact TJ hu I5 g5 ry rz λs6 I6=>⟨σ,H5,I6,q4⟩
end
theorem ZiX{P:Program}{w:World}{H:Hp}(h:Heap)(hb:sysModules<h.objs.size):aF P w H (h.push { cls:=.type "dict",data:=.dict #[] }) h.objs.size (.dK []):=
 ⟨abf _,aik.mpr (avX (amC hb)),[],.nil,Heap.DictOf.new h⟩
def Y8:TE:=λ_ H Q=>∀p,H p=none->Q (.ref p) (upd H p (.dK []))
section
variable{X:Cx}{pos:Pos}
theorem EB:PE X (.Dict [] [] pos) Y8:=λpins s σ H Q I h=>
 wpAny_Dict_empty ⟨.ref s.heap.objs.size,_,I.laid (a:=s.heap.objs.size) (o:=.dK []) (t':=s.toks) (λ_ _ q=>a8G _ q) (apX _) (ZiX s.heap I.big),rfl,h _ (I.hok.fresh (apX _))⟩
end
structure M1(X:Cx)(o:Expr)(m:Str)(apos:Pos)(e:Expr)(cpos:Pos):Prop where
 base:attributeBase o m X.env (eval o X.env)=eval o X.env
 few:((backTo cpos (starEach [e] X.env)).all (λx=>!x.1) && (backToKw cpos (keywordEach [] X.env)).all (λx=>x.1.isSome)
  && decide (([e]:List Expr).length+([]:List Keyword).length+(if([]:List Keyword).isEmpty then 0 else 1)<30))=true
 line:(apos.endLine ==cpos.line)=true
 trees:backTo cpos (starEach [e] X.env)=[(false,eval e X.env)]
structure M2(X:Cx)(o:Expr)(m:Str)(apos:Pos)(e f:Expr)(cpos:Pos):Prop where
 base:attributeBase o m X.env (eval o X.env)=eval o X.env
 few:((backTo cpos (starEach [e,f] X.env)).all (λx=>!x.1) && (backToKw cpos (keywordEach [] X.env)).all (λx=>x.1.isSome)
  && decide (([e,f]:List Expr).length+([]:List Keyword).length+(if([]:List Keyword).isEmpty then 0 else 1)<30))=true
 line:(apos.endLine ==cpos.line)=true
 trees:backTo cpos (starEach [e,f] X.env)=[(false,eval e X.env),(false,eval f X.env)]
def K4(H:Hp)(a:Addr):Prop:=(∃kvs,Rd H a (.dK kvs))\/∃kvs,Rd H a (.dT kvs)
theorem Km{X:Cx}{pins:List (Addr×Obj)}{σ:St}{H:Hp}{s:Shared}{a:Addr}(I:Inv X pins σ H s)(d:K4 H a) :
  s.TypeIs (.ref a) "dict" /\(∀b,Value.ref a=.ref b->∃ob,s.heap.get? b=some ob/\ob.dict=none)/\(a ==sysModules)=false:=by
 rcases d with⟨kvs,e⟩|⟨kvs,e⟩
 .obtain ⟨_,hd,vs,_,dd⟩:=nK I.hok e;refine⟨dd.typeIs,λb q=>?_,hd⟩;cases q;obtain⟨ob,_,_,h1,h2,_⟩:=dd;exact⟨ob,h1,h2.2.1⟩
 .obtain ⟨_,hd,xs,_,dd⟩:=nJ I.hok e;refine⟨dd.typeIs,λb q=>?_,hd⟩;cases q;obtain⟨ob,_,_,h1,h2,_⟩:=dd;exact⟨ob,h1,h2.2.1⟩
section
variable{X:Cx}{pins:List (Addr×Obj)}{σ:St}{H:Hp}{s:Shared}{a:Addr}{y d:V}{u r:Value}{o:Option V}{A:Around}{E:Value->Shared->Prop}
theorem Y7{Q:Value->Shared->Prop}(hu:A.units+1<cLine)(I:Inv X pins σ H s)(g:dG H a y o)(ry:RelV y u)(rd:RelV d r)(h:∀w' s',Inv X pins σ H s'->RelV (o.getD d) w'->Q w' s') :
  wpAny (model X.prog X.w) A (call (.builtin "dict.get") [.ref a,u,r]) Q E s:=by
 rcases g with⟨kvs,k,e,ey,l⟩|⟨kvs,k,b,e,ey,eb,l⟩
 .subst ey;obtain⟨z,hd,vs,rel,dd⟩:=nK I.hok e;refine call_meetsIn awp dd.typeIs PySem.F.entry_dict_get (PySem.F.args_dict_get_3 _ _ _) (meets_dict_get_default (Zw X.prog X.w) a (lg ry) hd r) ⟨_,dd.mapOf,h _ _ (I.tok _) ?_⟩;rw[l];exact(rel.val k).getD rd
 .subst ey;cases(show u=Value.ref b from ry);obtain⟨z,hd,xs,rel,dd⟩:=nJ I.hok e;refine call_meetsIn awp dd.typeIs PySem.F.entry_dict_get (PySem.F.args_dict_get_3 _ _ _) (meetsH_dict_get_default (tupleKind (Zw X.prog X.w)) a b hd r) ⟨avE hu,k,xs,HU I.hok eb,dd,h _ _ (I.tok _) ?_⟩;rw[l];exact(rel.val k).getD rd
end
def Y6(td ty tx:TE):TE:=λσ H Q=>td σ H λx H1=>∃a,x=.ref a/\K4 H1 a/\ty σ H1 λy H2=>tx σ H2 λz H3=>∃o,dG H3 a y o/\Q (o.getD z) H3
def Y5(td ty:TE):TE:=λσ H Q=>td σ H λx H1=>∃a,x=.ref a/\K4 H1 a/\ty σ H1 λy H2=>∃kvs k v,H2 a=some (.dK kvs)/\y=kV k/\aK kvs k=some v/\Q v (upd H2 a (.dK (aT kvs k)))
def Y4(td ty tx:TE):TE:=λσ H Q=>td σ H λx H1=>∃a,x=.ref a/\K4 H1 a/\ty σ H1 λy H2=>tx σ H2 λz H3=>∃kvs k,H3 a=some (.dK kvs)/\y=kV k /\
 (∀v,aK kvs k=some v->Q v (upd H3 a (.dK (aT kvs k))))/\(aK kvs k=none->Q z H3)
section
variable{X:Cx}{o e f:Expr}{apos cpos:Pos}{td ty tx:TE}
theorem Ti(hu:X.A.units+1<cLine)(ho:PE X o td)(he:PE X e ty)(hf:PE X f tx)(m:M2 X o "get" apos e f cpos):PE X (.Call (.Attribute o "get" apos) [e,f] [] cpos) (Y6 td ty tx):=by
 intro pins s σ H Q I h;refine wpAny_Call_method m.base m.few m.line bd4 awp PySem.F.type_dict_get (bS (ho pins s σ H _ I h) λu s1 ⟨x,H1,I1,rx,a,ex,d,q1⟩=>?_);subst ex;obtain rfl:u=Value.ref a:=rx;obtain⟨t1,t2,_⟩:=Km I1 d;refine⟨t1,t2,?_⟩;rw[m.trees];refine a0x rfl (adL (aHp (eL (he pins s1 σ H1 _ I1 q1) λiv s2 y H2 I2 ry q2=>
  aHp (bS (hf pins s2 σ H2 _ I2 q2) λfv s3 ⟨z,H3,I3,rz,ov,g,q3⟩=>a3w ?_))))
 exact Y7 hu I3 g ry rz λw' s4 I4 rw'=>⟨_,H3,I4,rw',q3⟩
theorem Th(ho:PE X o td)(he:PE X e ty)(m:M1 X o "pop" apos e cpos):PE X (.Call (.Attribute o "pop" apos) [e] [] cpos) (Y5 td ty):=by
 intro pins s σ H Q I h;refine wpAny_Call_method m.base m.few m.line bd4 aaF PySem.F.type_dict_pop (bS (ho pins s σ H _ I h) λu s1 ⟨x,H1,I1,rx,a,ex,d,q1⟩=>?_);subst ex;obtain rfl:u=Value.ref a:=rx;obtain⟨t1,t2,_⟩:=Km I1 d;refine⟨t1,t2,?_⟩;rw[m.trees];refine a0x rfl (adL (aHp (bS (he pins s1 σ H1 _ I1 q1) λiv s2 ⟨y,H2,I2,ry,kvs,k,v,ea,ey,l,q2⟩=>a3w ?_)));subst ey;exact A7 I2 ea ry l (.inl rfl) λw' s3 I3 rw'=>⟨v,_,I3,rw',q2⟩
theorem Tg(ho:PE X o td)(he:PE X e ty)(hf:PE X f tx)(m:M2 X o "pop" apos e f cpos):PE X (.Call (.Attribute o "pop" apos) [e,f] [] cpos) (Y4 td ty tx):=by
 intro pins s σ H Q I h;refine wpAny_Call_method m.base m.few m.line bd4 aaF PySem.F.type_dict_pop (bS (ho pins s σ H _ I h) λu s1 ⟨x,H1,I1,rx,a,ex,d,q1⟩=>?_);subst ex;obtain rfl:u=Value.ref a:=rx;obtain⟨t1,t2,_⟩:=Km I1 d;refine⟨t1,t2,?_⟩;rw[m.trees];refine a0x rfl (adL (aHp (eL (he pins s1 σ H1 _ I1 q1) λiv s2 y H2 I2 ry q2=>
  aHp (bS (hf pins s2 σ H2 _ I2 q2) λfv s3 ⟨z,H3,I3,rz,kvs,k,ea,ey,q3,q4⟩=>a3w ?_))))
 subst ey;cases l:aK kvs k with
 |some v=>exact A7 I3 ea ry l (.inr ⟨fv,rfl⟩) λw' s4 I4 rw'=>⟨v,_,I4,rw',q3 v l⟩
 |none=>exact Z0 I3 ea ry l λs4 I4=>⟨z,H3,I4,rz,q4 l⟩
end
section
variable{κ:Type}[DecidableEq κ]
theorem Ia:∀{l:List κ}{k:κ},l.Nodup->¬k∈l->(l++[k]).Nodup
 | [],k,_,_=>by simp
 |a ::r,k,h,hk=>by
  obtain⟨h1,h2⟩:=aE7.mp h;show(a ::(r++[k])).Nodup;refine aE7.mpr ⟨λm=>?_,Ia h2 λm=>hk (aCP.mpr (Or.inr m))⟩;rcases aUH.mp m with q|q
  .exact h1 q
  .exact hk (aCP.mpr (Or.inl (bau.mp q).symm))
theorem Zhv{p:κ×V}{r:List (κ×V)}{k:κ}(e:p.1=k):aT (p ::r) k=aT r k:=by
 unfold aT;rw[anE,aoK (by simp[e])]
theorem Zhw{p:κ×V}{r:List (κ×V)}{k:κ}(e:¬p.1=k):aT (p ::r) k=p ::aT r k:=by
 unfold aT;rw[anE,aYH (by simp[e])]
end
theorem Tf{P:Program}{w:World}{k:Key}{u:Value}(h:(Zw P w).is k u=true):RelV (kV k) u:=by
 rw[Zgw]at h;rcases ZA h with⟨i,t,rfl,rfl⟩|⟨x,t,rfl,rfl⟩
 .exact ⟨t,rfl⟩
 .exact ⟨t,rfl⟩
structure Src(P0:Program)(w0:World)(it l:Addr)(its:Array Value)(pos:Nat->Heap->Prop)(sq:Heap->Prop):Prop where
 item:∀{A0:Around}{E0:Value->Shared->Prop}{t:Shared}{i:Nat}{x:Value}{Q0:Value->Shared->Prop},pos i t.heap->sq t.heap->its[i]?=some x->(∀g,pos (i+1) g->Heap.SameBut it t.heap g->Q0 x { t with heap:=g })->wpAny (model P0 w0) A0 (Builtin.SmallTypes.nextOf (.ref it)) Q0 E0 t
 stop:∀{A0:Around}{E0:Value->Shared->Prop}{t:Shared}{i:Nat}{Q0:Value->Shared->Prop},A0.handled=none->pos i t.heap->sq t.heap->its[i]?=none->(∀g e,Heap.ExtBut it t.heap g->(∃o,g.get? e=some o/\o.cls=.type "StopIteration")->E0 (.ref e) { t with heap:=g })->wpAny (model P0 w0) A0 (Builtin.SmallTypes.nextOf (.ref it)) Q0 E0 t
 jm:∀{i:Nat}{g g':Heap},pos i g->(∀o,g.get? it=some o->g'.get? it=some o)->pos i g'
 tQ:∀{g g':Heap},sq g->(∀o,g.get? l=some o->g'.get? l=some o)->sq g'
 obj:∀{i:Nat}{g:Heap},pos i g->∃o,g.get? it=some o/\∀v,o.data≠.cell v
section
variable{P0:Program}{w0:World}{A0:Around}{E0:Value->Shared->Prop}{t:Shared}
theorem Uw{it a:Addr}{i:Nat}{its:Array Value}{x:Value}{Q0:Value->Shared->Prop}(st:t.heap.IsTupleIter it a i)(tp:t.heap.IsTuple a its)(hx:its[i]?=some x)
  (k:∀g,g.IsTupleIter it a (i+1)->Heap.SameBut it t.heap g->Q0 x { t with heap:=g }):wpAny (model P0 w0) A0 (Builtin.SmallTypes.nextOf (.ref it)) Q0 E0 t:=by
 obtain⟨oi,gi,ci,di⟩:=id st;obtain⟨oa,ga,_,n,da⟩:=tp;unfold Builtin.SmallTypes.nextOf;refine agE (aml (name:=Str.ofString "__next__") st.typeIs aqI (aMl aqI st.typeIs F.entry_tuple_iterator_next ?_ (F.args_tuple_iterator_next_1 _)));show wpAny _ _ (field (.ref it) 0 >>=_) _ _ t;refine agE (a6X gi di (x:=.ref a) rfl ?_);show wpAny _ _ (if(Value.ref a ==Value.none)=true then _ else _) _ _ t;rw[aoK (show ¬((Value.ref a ==Value.none)=true) from aPf)];show wpAny _ _ (field (.ref it) 1 >>=_) _ _ t;refine agE (a6X gi di (x:=.int i 0) rfl ?_);show wpAny _ _ (seqItems? (.ref a) >>=_) _ _ t;refine agE (a4J ga da ?_);simp only[hx,a2i];refine agE (wpAny_setField gi di (by simp) (anq ⟨x,rfl,anq (k _ ⟨_,aWr _ gi (Obj.isFreed_of_fields (Obj.data_mapFields di _)),(Obj.cls_mapFields ..).trans ci,?_⟩ (a5r ..))⟩));rw[Obj.data_mapFields di];simp[rawInt]
theorem Uv{it a:Addr}{i:Nat}{its:Array Value}{Q0:Value->Shared->Prop}(hA:A0.handled=none)(st:t.heap.IsTupleIter it a i)(tp:t.heap.IsTuple a its)(hx:its[i]?=none)
  (k:∀g e,Heap.ExtBut it t.heap g->(∃o,g.get? e=some o/\o.cls=.type "StopIteration")->E0 (.ref e) { t with heap:=g }):wpAny (model P0 w0) A0 (Builtin.SmallTypes.nextOf (.ref it)) Q0 E0 t:=by
 obtain⟨oi,gi,ci,di⟩:=id st;obtain⟨oa,ga,_,n,da⟩:=tp;unfold Builtin.SmallTypes.nextOf;refine agE (aml (name:=Str.ofString "__next__") st.typeIs aqI (aMl aqI st.typeIs F.entry_tuple_iterator_next ?_ (F.args_tuple_iterator_next_1 _)));show wpAny _ _ (field (.ref it) 0 >>=_) _ _ t;refine agE (a6X gi di (x:=.ref a) rfl ?_);show wpAny _ _ (if(Value.ref a ==Value.none)=true then _ else _) _ _ t;rw[aoK (show ¬((Value.ref a ==Value.none)=true) from aPf)];show wpAny _ _ (field (.ref it) 1 >>=_) _ _ t;refine agE (a6X gi di (x:=.int i 0) rfl ?_);show wpAny _ _ (seqItems? (.ref a) >>=_) _ _ t;refine agE (a4J ga da ?_);simp only[hx,a2i];refine agE (aiy (agE (wpAny_setField gi di (by simp) ?_)));show wpAny _ _ (newExc (.type "StopIteration") [] >>=_) _ _ _;refine agE ?_;simp only[newTuple,newExc];refine agE (aiJ (agE (m:=firstArgMember _ _) (wpAny_of_eq (a:=Value.none) (by first|rfl|(simp only[firstArgMember];rfl)) (aiJ ?_ (by size_fits)))) (by size_fits));simp only[raiseNew];refine agE (wpAny_handled ?_)
 first|rw[show A0.in1.handled=none from hA]|rw[hA]
 exact agE (anq (wpAny_throw (k _ _ (((a5r ..).extBut.push _).push _) ⟨_,aIn _ rfl,rfl⟩)))
end
theorem Ez{h:Heap}{it l:Addr}{i:Nat}(x:h.IsTupleIter it l i):∃o,h.get? it=some o/\∀v,o.data≠.cell v:=by
 obtain⟨o,e,c,d⟩:=x;exact⟨o,e,λv z=>by rw[d]at z;cases z⟩
theorem Kv{P0:Program}{w0:World}(it l:Addr)(its:Array Value):Src P0 w0 it l its (λi h=>h.IsTupleIter it l i) (λh=>h.IsTuple l its) where
 item:=λa b c d=>Uw a b c d
 stop:=λa b c d e=>Uv a b c d e
 jm:=λa b=>a.at b
 tQ:=λa b=>by obtain⟨o,e,r⟩:=a;exact⟨o,b o e,r⟩
 obj:=λa=>Ez a
section
variable{P0:Program}{w0:World}{A0:Around}{E0:Value->Shared->Prop}{t:Shared}{z TI TO ia ib la lb:Addr}{p1 p2:Nat->Heap->Prop}{q1 q2:Heap->Prop}{xs ys:Array Value}
theorem Zhx{k:Nat}{x y u v:Value}{Q0:Value->Shared->Prop}(S1:Src P0 w0 ia la xs p1 q1)(S2:Src P0 w0 ib lb ys p2 q2)(D:ZipApart z TI TO ia ib la lb)
  (zz:IsZip t.heap z TI TO .none) (zI:IsPair t.heap TI (.ref ia) (.ref ib)) (zO:IsPair t.heap TO u v) (a1:p1 k t.heap) (a2:p2 k t.heap) (b1:q1 t.heap) (b2:q2 t.heap) (hx:xs[k]?=some x) (hy:ys[k]?=some y)
  (fin:∀g,IsZip g z TI TO (rawInt t.heap.objs.size)->IsPair g TO x y->p1 (k+1) g->p2 (k+1) g->IsPair g t.heap.objs.size x y->g.objs.size=t.heap.objs.size+1 ->
   (∀c o,c≠z->c≠TO->c≠ia->c≠ib->t.heap.get? c=some o->g.get? c=some o)->Q0 (.ref t.heap.objs.size) { t with heap:=g }) :
  wpAny (model P0 w0) A0 (Builtin.«zip.__next__» ⟨[.ref z],[]⟩) (λf s'=>∃v,f=.done (.ret v)/\Q0 v s') E0 t:=by
 show wpAny _ _ (field (.ref z) 2 >>=_) _ _ _;refine agE (a6X zz rfl (x:=.bool false) rfl ?_);show wpAny _ _ (field (.ref z) 3 >>=_) _ _ _;refine agE (a6X zz rfl (x:=.ref TI) rfl (agE (a4J zI rfl ?_)));show wpAny _ _ (Builtin.SmallTypes.ownedTupleIsFree (.ref z) >>=_) _ _ _;refine agE ?_;unfold Builtin.SmallTypes.ownedTupleIsFree;refine agE (a6X zz rfl (x:=.none) rfl (anq ?_));simp only[ban];refine agE (aiy (agE (a6X zz rfl (x:=.ref TO) rfl (agE (aoW zz (by simp) λg1 z1 c1=>?_)))))
 replace z1:IsZip g1 z TI TO .ellipsis:=z1
 refine agE ?_;simp only[aij,List.forIn_nil,List.zipIdx_cons,List.zipIdx_nil];refine agE (agE (wpAny_onRaise ?_));show wpAny _ _ (Builtin.SmallTypes.nextOf (.ref ia) >>=_) _ _ _;refine agE (S1.item (S1.jm a1 λo e=>c1.extBut _ o D.i1z e) (S1.tQ b1 λo e=>c1.extBut _ o D.l1z e) hx λg2 YY c2=>anq ?_);have o2:IsPair g2 TO u v:=c2.extBut _ _ D.TOi1 (c1.extBut _ _ D.TOz zO);refine agE (a4J o2 rfl (agE (wpAny_updateSeq_pair o2 λg3 o3 c3=>?_)))
 replace o3:IsPair g3 TO x v:=o3
 refine agE (wpAny_letGo (anq ?_));refine agE (agE (wpAny_onRaise ?_));show wpAny _ _ (Builtin.SmallTypes.nextOf (.ref ib) >>=_) _ _ _;have m3:∀c o,c≠z->c≠ia->c≠TO->t.heap.get? c=some o->g3.get? c=some o:=λc o n1 n2 n3 e=>c3.extBut _ _ n3 (c2.extBut _ _ n2 (c1.extBut _ _ n1 e));refine agE (S2.item (S2.jm a2 λo e=>m3 _ o D.i2z D.i12.symm D.TOi2.symm e) (S2.tQ b2 λo e=>m3 _ o D.l2z D.l2i1 D.l2TO e) hy λg4 YW c4=>anq ?_);have o4:IsPair g4 TO x v:=c4.extBut _ _ D.TOi2 o3;refine agE (a4J o4 rfl (agE (wpAny_updateSeq_pair o4 λg5 o5 c5=>?_)))
 replace o5:IsPair g5 TO x y:=o5
 refine agE (wpAny_letGo (anq (anq ?_)));refine agE (a4J o5 rfl (agE (wpAny_newTuple ?_)));have sz:g5.objs.size=t.heap.objs.size:=by rw[c5.1,c4.1,c3.1,c2.1,c1.1]
 have m5:∀c o,c≠z->c≠TO->c≠ia->c≠ib->t.heap.get? c=some o->g5.get? c=some o:=λc o n1 n2 n3 n4 e=>c5.extBut _ _ n2 (c4.extBut _ _ n4 (m3 c o n1 n3 n2 e));have z5:IsZip g5 z TI TO .ellipsis:=c5.extBut _ _ D.TOz.symm (c4.extBut _ _ D.i2z.symm (c3.extBut _ _ D.TOz.symm (c2.extBut _ _ D.i1z.symm z1)));have YX:p1 (k+1) g5:=S1.jm YY λo e=>c5.extBut _ o D.TOi1.symm (c4.extBut _ o D.i12 (c3.extBut _ o D.TOi1.symm e));have YV:p2 (k+1) g5:=S2.jm YW λo e=>c5.extBut _ o D.TOi2.symm e;have OI:z<g5.objs.size:=aNG z5;show wpAny _ _ (Builtin.SmallTypes.ownedTupleHandOut (.ref z) (.ref g5.objs.size) >>=_) _ _ _;refine agE ?_;unfold Builtin.SmallTypes.ownedTupleHandOut;have z6:IsZip (g5.push { cls:=.type "tuple",data:=.seq #[x,y] }) z TI TO .ellipsis:=a8G _ z5;refine agE (aoW z6 (by simp) λg7 z7 c7=>?_)
 replace z7:IsZip g7 z TI TO (rawInt g5.objs.size):=z7
 refine aoW z7 (by simp) λg8 z8 c8=>?_
 replace z8:IsZip g8 z TI TO (rawInt g5.objs.size):=z8
 have m8:∀c o,c≠z->g5.get? c=some o->g8.get? c=some o:=λc o n1 e=>c8.extBut _ _ n1 (c7.extBut _ _ n1 (a8G _ e));have t8:IsPair g8 g5.objs.size x y:=c8.extBut _ _ (aA9 OI) (c7.extBut _ _ (aA9 OI) (aIn _ rfl));have s8:g8.objs.size=g5.objs.size+1:=by rw[c8.1,c7.1,aTQ]
 rw[sz]at z8 t8 s8;refine anq ⟨_,rfl,?_⟩;show Q0 (.ref g5.objs.size) _;rw[sz];exact fin g8 z8 (m8 _ _ D.TOz o5) (S1.jm YX λo e=>m8 _ o D.i1z e) (S2.jm YV λo e=>m8 _ o D.i2z e) t8 s8 λc o n1 n2 n3 n4 e=>m8 c o n1 (m5 c o n1 n2 n3 n4 e)
theorem Zhy{k:Nat}{u v:Value}{Q0:Fin->Shared->Prop}(hA:A0.handled=none)(S1:Src P0 w0 ia la xs p1 q1)(S2:Src P0 w0 ib lb ys p2 q2)(D:ZipApart z TI TO ia ib la lb)
  (zz:IsZip t.heap z TI TO .none) (zI:IsPair t.heap TI (.ref ia) (.ref ib)) (zO:IsPair t.heap TO u v) (a1:p1 k t.heap) (b1:q1 t.heap) (hx:xs[k]?=none)
  (fin:∀g e,(∀c o,c≠z->c≠TO->c≠ia->c≠ib->t.heap.get? c=some o->g.get? c=some o)->(∃o,g.get? e=some o/\o.cls=.type "StopIteration")->E0 (.ref e) { t with heap:=g }) :
  wpAny (model P0 w0) A0 (Builtin.«zip.__next__» ⟨[.ref z],[]⟩) Q0 E0 t:=by
 show wpAny _ _ (field (.ref z) 2 >>=_) _ _ _;refine agE (a6X zz rfl (x:=.bool false) rfl ?_);show wpAny _ _ (field (.ref z) 3 >>=_) _ _ _;refine agE (a6X zz rfl (x:=.ref TI) rfl (agE (a4J zI rfl ?_)));show wpAny _ _ (Builtin.SmallTypes.ownedTupleIsFree (.ref z) >>=_) _ _ _;refine agE ?_;unfold Builtin.SmallTypes.ownedTupleIsFree;refine agE (a6X zz rfl (x:=.none) rfl (anq ?_));simp only[ban];refine agE (aiy (agE (a6X zz rfl (x:=.ref TO) rfl (agE (aoW zz (by simp) λg1 z1 c1=>?_)))))
 replace z1:IsZip g1 z TI TO .ellipsis:=z1
 refine agE ?_;simp only[aij,List.forIn_nil,List.zipIdx_cons,List.zipIdx_nil];refine agE (agE (wpAny_onRaise ?_));show wpAny _ _ (Builtin.SmallTypes.nextOf (.ref ia) >>=_) _ _ _;refine agE (S1.stop hA (S1.jm a1 λo e=>c1.extBut _ o D.i1z e) (S1.tQ b1 λo e=>c1.extBut _ o D.l1z e) hx λg2 e c2 he=>?_);obtain⟨oe,MN,ce⟩:=he;have z2:IsZip g2 z TI TO .ellipsis:=c2 _ _ D.i1z.symm z1;have ne:e≠z:=λq=>by rw[q,z2]at MN;cases MN;simp at ce
 exact aoW z2 (by simp) λg3 _ c3=>fin g3 e (λc o n1 _ n3 _ q=>c3.extBut _ _ n1 (c2 _ _ n3 (c1.extBut _ _ n1 q))) ⟨oe,c3.extBut _ _ ne MN,ce⟩
theorem Zei{k:Nat}{x y u v:Value}{Q0:Option Value->Shared->Prop}(S1:Src P0 w0 ia la xs p1 q1)(S2:Src P0 w0 ib lb ys p2 q2)(D:ZipApart z TI TO ia ib la lb)
  (zz:IsZip t.heap z TI TO .none) (zI:IsPair t.heap TI (.ref ia) (.ref ib)) (zO:IsPair t.heap TO u v) (a1:p1 k t.heap) (a2:p2 k t.heap) (b1:q1 t.heap) (b2:q2 t.heap) (hx:xs[k]?=some x) (hy:ys[k]?=some y)
  (fin:∀g,IsZip g z TI TO (rawInt t.heap.objs.size)->IsPair g TO x y->p1 (k+1) g->p2 (k+1) g->IsPair g t.heap.objs.size x y->g.objs.size=t.heap.objs.size+1 ->
   (∀c o,c≠z->c≠TO->c≠ia->c≠ib->t.heap.get? c=some o->g.get? c=some o)->Q0 (some (.ref t.heap.objs.size)) { t with heap:=g }):wpAny (model P0 w0) A0 (pyNext (.ref z)) Q0 E0 t:=by
 have ty:t.TypeIs (.ref z) "zip":=⟨_,zz,rfl⟩;unfold pyNext;exact agE (afl (aml (name:=Str.ofString "__next__") ty F.slot_zip_next (aMl F.slot_zip_next ty F.entry_zip_next (Zhx S1 S2 D zz zI zO a1 a2 b1 b2 hx hy λg r1 r2 r3 r4 r5 r6 r7=>anq (fin g r1 r2 r3 r4 r5 r6 r7)) (F.args_zip_next_1 _))))
theorem Zej{k:Nat}{u v:Value}{Q0:Option Value->Shared->Prop}(hA:A0.handled=none)(S1:Src P0 w0 ia la xs p1 q1)(S2:Src P0 w0 ib lb ys p2 q2)(D:ZipApart z TI TO ia ib la lb)
  (zz:IsZip t.heap z TI TO .none) (zI:IsPair t.heap TI (.ref ia) (.ref ib)) (zO:IsPair t.heap TO u v) (a1:p1 k t.heap) (b1:q1 t.heap) (hx:xs[k]?=none)
  (fin:∀g,(∀c o,c≠z->c≠TO->c≠ia->c≠ib->t.heap.get? c=some o->g.get? c=some o)->Q0 none { t with heap:=g }):wpAny (model P0 w0) A0 (pyNext (.ref z)) Q0 E0 t:=by
 have ty:t.TypeIs (.ref z) "zip":=⟨_,zz,rfl⟩;unfold pyNext;refine agE (afl (aml (name:=Str.ofString "__next__") ty F.slot_zip_next (aMl F.slot_zip_next ty F.entry_zip_next (Zhy hA S1 S2 D zz zI zO a1 b1 hx λg e kp he=>?_) (F.args_zip_next_1 _))));obtain⟨oe,ge,ce⟩:=he;exact agE (wpAny_isInstance (T:="StopIteration") (b:=true) ⟨oe,ge,ce⟩ isSubtype_stop (anq (fin _ kp)))
end
abbrev Jb(h:Heap)(a:Addr):Heap:=h.push { cls:=.type "tuple_iterator",data:=.fields #[.ref a,.int 0 0] }
abbrev Ja(h:Heap)(a b:Addr):Heap:=(Jb h a).push { cls:=.type "tuple_iterator",data:=.fields #[.ref b,.int 0 0] }
abbrev IZ(h:Heap)(a b:Addr):Heap:=(Ja h a b).push { cls:=.type "tuple",data:=.seq #[.ref h.objs.size,.ref (Jb h a).objs.size] }
abbrev IY(h:Heap)(a b:Addr):Heap:=(IZ h a b).push { cls:=.type "tuple",data:=.seq #[.none,.none] }
abbrev DG(h:Heap)(a b:Addr):Heap:=(IY h a b).push { cls:=.type "zip",data:=.fields #[.none,.bool false,.bool false,.ref (Ja h a b).objs.size,.ref (IZ h a b).objs.size] }
theorem ZgJ(a b:Addr)(xs ys:Array Value) :
  Meets (Builtin.«zip.__new__» ⟨[.type "zip",.ref a,.ref b],[]⟩) (λ_ R s=>s.heap.IsTuple a xs/\s.heap.IsTuple b ys/\R (.ok (.ret (.ref (IY s.heap a b).objs.size))) { s with heap:=DG s.heap a b }):=
 .of_wp λP0 w0 A0 R t h=>by
  obtain⟨hp,gn,dr,tk,os⟩:=t;obtain⟨ta,tb,h⟩:=h;have sub:=sub_zip;have qa:Heap.IsTuple (Shared.heap ⟨hp,gn,dr,tk,os⟩) a xs:=ta;have qb:Heap.IsTuple (Shared.heap ⟨hp.push { cls:=.type "tuple_iterator",data:=.fields #[.ref a,.int 0 0] },gn,dr,tk,os⟩) b ys:=Heap.IsTuple.push tb _
  wp_walk using awE qa,awE qb
  exact⟨_,rfl,h⟩
theorem Zhz{P0:Program}{w0:World}{A0:Around}{E0:Value->Shared->Prop}{t:Shared}{a b:Addr}{xs ys:Array Value}{Q0:Value->Shared->Prop}(ta:t.heap.IsTuple a xs)(tb:t.heap.IsTuple b ys)
  (h:∀g,IsZip g (t.heap.objs.size+4) (t.heap.objs.size+2) (t.heap.objs.size+3) .none->IsPair g (t.heap.objs.size+2) (.ref t.heap.objs.size) (.ref (t.heap.objs.size+1))->IsPair g (t.heap.objs.size+3) .none .none ->
   g.IsTupleIter t.heap.objs.size a 0->g.IsTupleIter (t.heap.objs.size+1) b 0->(∀c o,t.heap.get? c=some o->g.get? c=some o)->Q0 (.ref (t.heap.objs.size+4)) { t with heap:=g }) :
  wpAny (model P0 w0) A0 (call (.type "zip") [.ref a,.ref b]) Q0 E0 t:=by
 refine callType_new F.called_zip (by decide) (F.typeCall_zip_2 _ _) (F.newCall_zip_2 _ _) (λobj=>F.args_object_init_3 obj _ _) F.entry_zip_new (ZgJ a b xs ys) ⟨ta,tb,?_⟩;have n1:(Jb t.heap a).objs.size=t.heap.objs.size+1:=aTQ ..;have n2:(Ja t.heap a b).objs.size=t.heap.objs.size+2:=by rw[aTQ,n1]
 have n3:(IZ t.heap a b).objs.size=t.heap.objs.size+3:=by rw[aTQ,n2]
 have n4:(IY t.heap a b).objs.size=t.heap.objs.size+4:=by rw[aTQ,n3]
 have r5:(DG t.heap a b).get? (IY t.heap a b).objs.size=some _:=aIn _ rfl;have r4:(DG t.heap a b).get? (IZ t.heap a b).objs.size=some _:=a8G _ (aIn _ rfl);have r3:(DG t.heap a b).get? (Ja t.heap a b).objs.size=some _:=a8G _ (a8G _ (aIn _ rfl));have r2:(DG t.heap a b).get? (Jb t.heap a).objs.size=some _:=a8G _ (a8G _ (a8G _ (aIn _ rfl)));have r1:(DG t.heap a b).get? t.heap.objs.size=some _:=a8G _ (a8G _ (a8G _ (a8G _ (aIn _ rfl))));show _/\_;rw[n2,n3,n4]at r5;rw[n1,n2]at r3;rw[n3]at r4;rw[n1]at r2;rw[n4];refine⟨⟨_,r5,rfl⟩,h _ r5 r3 r4 ⟨_,r1,rfl,rfl⟩ ⟨_,r2,rfl,rfl⟩ λc o q=>?_⟩
 iterate 5 refine a8G _ ?_
 exact q
def yc(K:W.Frag)(a b:Addr):It:=
 ⟨λi H=>∃xs ys x y,aX K H a xs/\aX K H b ys/\xs[i]?=some x/\ys[i]?=some y,
 λi H v H'=>∃t x y,H t=none/\v=.ref t/\H'=upd H t (.tup [x,y])/\(∀xs,aX K H a xs->xs[i]?=some x)/\∀ys,aX K H b ys->ys[i]?=some y,
 λi H=>∃xs,aX K H a xs/\(∃ys,aX K H b ys)/\xs.length<=i⟩
theorem ZhA{P:Program}{w:World}{K:W.Frag}{elts:List PySem.Expr}{x1}{pos:Pos}(z TI TO i1 i2 a b:Addr)(D:ZipApart z TI TO i1 i2 a b) :
  Turn P w K (.Tuple elts x1 pos) (yc K a b) [z,TI,TO,i1,i2] z (λi h=>IsZip h z TI TO .none/\IsPair h TI (.ref i1) (.ref i2)/\(∃u v,IsPair h TO u v)/\h.IsTupleIter i1 a i/\h.IsTupleIter i2 b i) where
 mem:=by simp
 obj:=λi h st c hc=>by
  obtain⟨hz,hTI,⟨u,v,hTO⟩,h1,h2⟩:=st;simp only[a6r,auY,a4R]at hc;rcases hc with rfl|rfl|rfl|rfl|rfl
  .exact ⟨_,hz,λv e=>by cases e⟩
  .exact ⟨_,hTI,λv e=>by cases e⟩
  .exact ⟨_,hTO,λv e=>by cases e⟩
  .exact Ez h1
  .exact Ez h2
 keep:=λi h h' st k=>by
  obtain⟨hz,hTI,⟨u,v,hTO⟩,h1,h2⟩:=st;exact⟨k z (by simp) _ hz,k TI (by simp) _ hTI,⟨u,v,k TO (by simp) _ hTO⟩,h1.at λo e=>k i1 (by simp) o e,h2.at λo e=>k i2 (by simp) o e⟩
 item:=by
  intro X hP hw hK hc i pins s σ H E I hf st hg;subst hP hw hK;obtain⟨xs,ys,x,y,rZ,rY,hx,hy⟩:=hg;obtain⟨hz,hTI,⟨u0,v0,hTO⟩,h1,h2⟩:=st;obtain⟨lq,ra,pa,za⟩:=I.tuple rZ;obtain⟨mJ,rb,pb,zb⟩:=I.tuple rY;obtain⟨ux,hux,Ls⟩:=ra.get hx;obtain⟨uy,Mn,Lr⟩:=rb.get hy;refine Zei (Kv i1 a lq.toArray) (Kv i2 b mJ.toArray) D hz hTI hTO h1 h2 (show s.heap.IsTuple a lq.toArray from pa) (show s.heap.IsTuple b mJ.toArray from pb) (x:=ux) (y:=uy) (by simpa using hux) (by simpa using Mn) λh' a1 a2 a3 a4 a5 a6 a7=>?_;refine⟨.ref s.heap.objs.size,rfl,?_⟩;refine wpAny_letOwnedTupleGo_zip a1 λh2' hz' hs'=>?_;have xu:z<s.heap.objs.size:=aNG hz;have kk:∀c o,c∉[z,TI,TO,i1,i2]->s.heap.get? c=some o->h2'.get? c=some o:=λc o hc e=>by
   simp only[a6r,auY,a4R,aDQ]at hc;exact hs'.extBut c o hc.1 (a7 c o hc.1 hc.2.2.1 hc.2.2.2.1 hc.2.2.2.2 e)
  have tp:h2'.get? s.heap.objs.size=some { cls:=.type "tuple",data:=.seq #[ux,uy] }:=hs'.extBut _ _ (aA9 xu) a5;have I1:Inv X pins σ (upd H s.heap.objs.size (.tup [x,y])) { s with heap:=h2',toks:=s.toks }:=
   I.oV hf kk ⟨by show 2<=sizeLine;decide,[ux,uy],.cons Ls (.cons Lr .nil),⟨_,tp,rfl,_,rfl⟩⟩
  have Oq:h2'.get? TI=s.heap.get? TI:=by
   rw[hTI];exact hs'.extBut _ _ D.TIz (a7 _ _ D.TIz D.TITO D.TIi1 D.TIi2 hTI)
  refine⟨.ref s.heap.objs.size,_,I1,rfl,⟨s.heap.objs.size,x,y,I.hok.fresh (apX _),rfl,rfl,λxs' h=>by rw[I.fF h rZ];exact hx,λys' h=>by rw[I.fF h rY];exact hy⟩,⟨hz',?_,⟨ux,uy,hs'.extBut _ _ D.TOz a2⟩,a3.at λo e=>hs'.extBut _ o D.i1z e,a4.at λo e=>hs'.extBut _ o D.i2z e⟩,λc hc=>?_⟩
  .show h2'.get? TI=_;rw[Oq];exact hTI
  .have hc':=hc;have hlt:c<s.heap.objs.size:=by
    simp only[a6r,auY,a4R]at hc';rcases hc' with rfl|rfl|rfl|rfl|rfl
    .exact xu
    .exact aNG hTI
    .exact aNG hTO
    .obtain ⟨o,e,_⟩:=Ez h1;exact aNG e
    .obtain ⟨o,e,_⟩:=Ez h2;exact aNG e
   rw[Zc (amC hlt)];exact(hf c hc).1
 done:=by
  intro X hP hw hK hc i pins s σ H E I hf st hg;subst hP hw hK;obtain⟨xs,rZ,⟨ys,rY⟩,hend⟩:=hg;obtain⟨hz,hTI,⟨u0,v0,hTO⟩,h1,h2⟩:=st;obtain⟨lq,ra,pa,za⟩:=I.tuple rZ;obtain⟨mJ,rb,pb,zb⟩:=I.tuple rY;have la:=ra.length;refine Zej (I.ok.hd hc) (Kv i1 a lq.toArray) (Kv i2 b mJ.toArray) D hz hTI hTO h1 (show s.heap.IsTuple a lq.toArray from pa) (by simp;lia) λh' hk=>⟨rfl,?_⟩;refine I.gr (t':=s.toks) hf λc o hc e=>?_;simp only[a6r,auY,a4R,aDQ]at hc;exact hk c o hc.1 hc.2.2.1 hc.2.2.2.1 hc.2.2.2.2 e
 self:=λ_ _ _ _ _ st h=>aGC st.1 h
def GN(K:W.Frag)(ta:TA):TI:=λσ H R=>ta σ H λvs H1=>∃a b,vs=[.ref a,.ref b]/\((∃xs ys,aB K H1 a xs/\aB K H1 b ys/\R (Ac K a b) H1)\/∃xs ys,aX K H1 a xs/\aX K H1 b ys/\R (yc K a b) H1)
section
variable{X:Cx}
theorem Zks{elts:List PySem.Expr}{x1}{tpos:Pos}{a b:PySem.Expr}{ta:TA}{p pos:Pos}(hg:Gl X "zip")(hm:X.mg "zip"=none)(ha:PA X [a,b] ta)(hs:starEach [a,b] X.env=[(false,eval a X.env),(false,eval b X.env)]:=by rfl)(hs2:starEach [b] X.env=[(false,eval b X.env)]:=by rfl) :
  PI X (.Tuple elts x1 tpos) (.Call (.Name "zip" p) [a,b] [] pos) (GN X.K ta):=by
 intro pins s σ H R I h;refine Call_ (sf I hg hm Sz (a5z (nT (ha pos pins s σ H _ I h) λus s1 vs H1 I1 r1 q1=>?_) (by rw[hs,hs2]) (by rw[hs2];rfl)));obtain⟨l1,l2,e,q⟩:=q1;subst e;obtain⟨v1,v2,rfl,r,r'⟩:=vals2 r1;cases r;cases r';have big:∀c,c∈[s1.heap.objs.size+4,s1.heap.objs.size+2,s1.heap.objs.size+3,s1.heap.objs.size,s1.heap.objs.size+1]->s1.heap.objs.size<=c:=λc hc=>by
  simp only[a6r,auY,a4R]at hc;rcases hc with rfl|rfl|rfl|rfl|rfl <;> first|exact apX _|exact Nat.le_add_right _ _
 rcases q with⟨xs,ys,rZ,rY,q⟩|⟨xs,ys,rZ,rY,q⟩
 .obtain ⟨lq,ra,pa,za⟩:=I1.list rZ;obtain⟨mJ,rb,pb,zb⟩:=I1.list rY;have ue:l1<s1.heap.objs.size:=by obtain⟨o,e,_⟩:=pa.isList;exact aNG e
  have Cm:l2<s1.heap.objs.size:=by obtain⟨o,e,_⟩:=pb.isList;exact aNG e
  refine call_zip_2 pa.isList pb.isList λh' g5 g3 g4 g1 g2 hsz kp=>aGC g5 ?_;exact⟨_,[_,_,_,_,_],_,_,H1,rfl,I1.kept (t':=s1.toks) kp,SD _ _ _ _ _ l1 l2 (Og s1.heap.objs.size l1 l2 ue Cm),⟨g5,g3,⟨_,_,g4⟩,g1,g2⟩,λc hc=>I1.oY (big c hc) (I1.hok.fresh (big c hc)),q⟩
 .obtain ⟨lq,ra,pa,za⟩:=I1.tuple rZ;obtain⟨mJ,rb,pb,zb⟩:=I1.tuple rY;have ue:l1<s1.heap.objs.size:=Rh pa;have Cm:l2<s1.heap.objs.size:=Rh pb;refine Zhz (show s1.heap.IsTuple l1 lq.toArray from pa) (show s1.heap.IsTuple l2 mJ.toArray from pb) λh' g5 g3 g4 g1 g2 kp=>aGC g5 ?_;exact⟨_,[_,_,_,_,_],_,_,H1,rfl,I1.kept (t':=s1.toks) kp,ZhA _ _ _ _ _ l1 l2 (Og s1.heap.objs.size l1 l2 ue Cm),⟨g5,g3,⟨_,_,g4⟩,g1,g2⟩,λc hc=>I1.oY (big c hc) (I1.hok.fresh (big c hc)),q⟩
end
theorem ZhB{K:W.Frag}{a b:Addr}{xs zs:List V}{l:Addr}{g:TG}{tc:TT}{te:TE}{σ0:St}{H0:Hp}{Qf:Hp->Prop}(hlen:xs.length=zs.length)(Pv:Nat->List V->St->Hp->Prop)(h0:Pv 0 [] σ0 H0)
  (hl:∀i ys σ' H',i<=xs.length->Pv i ys σ' H'->aX K H' a xs/\aX K H' b zs)
  (hs:∀i x z t ys σ' H',i<xs.length->xs[i]?=some x->zs[i]?=some z->ys.length<=i->Pv i ys σ' H'->H' t=none->g (.ref t) σ' (upd H' t (.tup [x,z])) λσ2 H3=>tc σ2 H3 λb H4=>if b=true then te σ2 H4 λy H5=>rC xs.length l Pv i ys σ2 y H5 else Bx xs.length Pv i ys σ2 H4)
  (hd:∀ys σ' H',ys.length<=xs.length->Pv xs.length ys σ' H'->Qf H') :
  ∃W:Nat->Nat->List V->St->Hp->Prop,(∃m,W 0 m [] σ0 H0)/\∀i m ys σ' H',W i m ys σ' H' ->
  ((yc K a b).stop i H'/\Qf H')\/((yc K a b).go i H'/\∀x H2,(yc K a b).rL i H' x H2->g x σ' H2 λσ2 H3=>tc σ2 H3 λb H4=>
    if b=true then te σ2 H4 λy H5=>H5 l=some (.lst ys)/\ys.length<sizeLine/\∃m',m'<m/\W (i+1) m' (ys++[y]) σ2 (upd H5 l (.lst (ys++[y])))
    else ∃m',m'<m/\W (i+1) m' ys σ2 H4):=by
 refine⟨λi m ys σ' H'=>m=xs.length-i/\i<=xs.length/\ys.length<=i/\Pv i ys σ' H',⟨xs.length,rfl,abf _,apX _,h0⟩,?_⟩;rintro i m ys σ' H' ⟨rfl,hi,hy,p⟩;obtain⟨qa,qb⟩:=hl i ys σ' H' hi p;by_cases hlt:i<xs.length
 .have hlt':i<zs.length:=by lia
  refine .inr ⟨⟨xs,zs,xs[i],zs[i],qa,qb,by simp[hlt],by simp[hlt']⟩,λx H2 zq=>?_⟩;obtain⟨t,u,v,ht,rfl,rfl,z1,z2⟩:=zq;exact hs i u v t ys σ' H' hlt (z1 xs qa) (z2 zs qb) hy p ht
 .have e:i=xs.length:=by lia
  subst e;exact .inl ⟨⟨xs,qa,⟨zs,qb⟩,apX _⟩,hd ys σ' H' hy p⟩
section
variable{X:Cx}{K:W.Frag}{tg:PySem.Expr}
theorem Ir(hK:X.K=K){l:PySem.Expr}{tl:TE}(hl:PE X l tl):PI X tg l (AV K tl):=hK ▸Zkc hl
theorem Zkt(hK:X.K=K){l:PySem.Expr}{tl:TE}(hl:PE X l tl):PI X tg l (GO K tl):=hK ▸Zli hl
end
theorem ZhC:bootBuiltins "set"=some (.type "set"):=by first|rfl|decide +kernel|kernel_rfl
def ve(hi:Int)(n:Nat):It:=⟨λi _=>i<n,λi H x H'=>H'=H/\x=.int (hi-i),λi _=>n<=i⟩
theorem ZhD{P:Program}{w:World}{K:W.Frag}{tg:PySem.Expr}(it:Addr)(lo:Int)(n:Nat):Turn P w K tg (ve lo n) [it] it (λi h=>IsRangeIter h it (lo+(i:Nat)*(-1)) ((n:Int)-(i:Nat)) (-1)) where
 mem:=by simp
 obj:=λi h st b hb=>by
  have e:b=it:=by simpa using hb
  subst e;exact⟨_,st,λv z=>by
   have z':Data.fields _=Data.cell v:=z;cases z'⟩
 keep:=λi h h' st k=>k it (by simp) _ st
 item:=by
  intro X hP hw hK hc i pins s σ H E I hf st hg;subst hP hw hK;obtain⟨f0,f1,f2,f3,f4,f5⟩:=hf it (by simp);have W:=Walks.range (prog:=X.prog) (w:=X.w) (I.ok.hd hc) it lo (-1) n;refine W.item i s _ _ hg st λv h' tk hv st' kk=>?_;obtain⟨t,rfl⟩:=hv;have I1:Inv X pins σ H { s with heap:=h',toks:=tk }:=I.turned (λb o hb e=>kk b o (by simpa using hb) e) f0 f1 f3 f4 f5;refine⟨_,rfl,uf (s:={ s with heap:=h',toks:=tk }) (n:="range_iterator") st' rfl rfl (by decide) ⟨.int (lo-i),H,I1,⟨t,?_⟩,⟨rfl,rfl⟩,st',λb hb=>(hf b hb).1⟩⟩;rw[show lo+(i:Int)*(-1)=lo-i by lia]
 done:=by
  intro X hP hw hK hc i pins s σ H E I hf st hg;subst hP hw hK;obtain⟨f0,f1,f2,f3,f4,f5⟩:=hf it (by simp);exact wpAny_pyNext_range_end (I.ok.hd hc) st (by have:n<=i:=hg;lia) λh' eb=>⟨rfl,I.turned (t':=s.toks) (λb o hb e=>eb b o hb e) f0 f1 f3 f4 f5⟩
 self:=λ_ _ _ _ _ st h=>wpAny_pyIter_rangeiter st h
section
variable{X:Cx}{tg:PySem.Expr}
theorem ZhE{pins:List (Addr×Obj)}{σ:St}{H:Hp}{s:Shared}{R:It->Hp->Prop}{E:Value->Shared->Prop}{lo hi:Int}{t u v:Tok}{tk:Nat}(I:Inv X pins σ H s)(h1: -(2 ^ 62)<=lo)(h2:lo<2 ^ 62)(h3: -(2 ^ 62)<=hi)(h4:hi<2 ^ 62)
  (q:R (ve lo (lo-hi).toNat) H):wpAny (model X.prog X.w) X.A (pyIter (.ref s.heap.objs.size)) (Ov X pins σ tg R) E { s with heap:=s.heap.push { cls:=.type "range",data:=.fields #[.int lo t,.int hi u,.int (-1) v] },toks:=tk }:=by
 refine wpAny_pyIter_range (IsRange.new ..) (W.small_down h1 h2 h3 h4) ?_;have I1:Inv X pins σ H { s with heap:=s.heap.push { cls:=.type "range",data:=.fields #[.int lo t,.int hi u,.int (-1) v] },toks:=tk }:=I.kept λb o e=>a8G _ e;refine⟨(s.heap.push { cls:=.type "range",data:=.fields #[.int lo t,.int hi u,.int (-1) v] }).objs.size,[(s.heap.push { cls:=.type "range",data:=.fields #[.int lo t,.int hi u,.int (-1) v] }).objs.size],_,_,H,rfl,
  I1.kept (t':=tk) λb o e=>a8G _ e,ZhD _ lo (lo-hi).toNat,?_,λb hb=>?_,q⟩
 .have e1:lo+((0:Nat):Int)*(-1)=lo:=by simp
  have e2:(((lo-hi).toNat:Nat):Int)-((0:Nat):Int)=Builtin.Range.rangeSize lo hi (-1):=by rw[W.rangeSize_downNat];lia
  show IsRangeIter _ _ (lo+((0:Nat):Int)*(-1)) ((((lo-hi).toNat:Nat):Int)-((0:Nat):Int)) (-1);rw[e1,e2];exact aIn _ rfl
 .have e:b=(s.heap.push { cls:=.type "range",data:=.fields #[.int lo t,.int hi u,.int (-1) v] }).objs.size:=by simpa using hb
  subst e;exact I1.oY (apX _) (I1.hok.fresh (apX _))
def GQ(ta:TA):TI:=λσ H R=>ta σ H λvs H1=>∃i j:Int,vs=[.int i,.int j,.int (-1)]/\(-(2 ^ 61)<=i/\i<2 ^ 61 /\ -(2 ^ 61)<=j/\j<2 ^ 61)/\R (ve i (i-j).toNat) H1
theorem TH{a b c:PySem.Expr}{ta:TA}{p pos:Pos}(hg:Gl X "range")(hm:X.mg "range"=none)(ha:PA X [a,b,c] ta)(hs:starEach [a,b,c] X.env=(false,eval a X.env) ::starEach [b,c] X.env:=by rfl)(hpl:(backTo pos (starEach [b,c] X.env)).any (·.1)=false:=by rfl) :
  PI X tg (.Call (.Name "range" p) [a,b,c] [] pos) (GQ ta):=by
 intro pins s σ H R I h;refine Call_ (sf I hg hm boot_range (a5z (nT (ha pos pins s σ H _ I h) λus s1 vs H1 I1 r1 q1=>?_) hs hpl));obtain⟨i,j,e,⟨q1,q2,q3,q4⟩,q⟩:=q1;subst e;cases r1 with
 |cons r rr=>
  cases rr with
  |cons r' rr=>
   cases rr with
   |cons r'' rr=>
    cases rr;obtain⟨t,rfl⟩:=r;obtain⟨t',rfl⟩:=r';obtain⟨t'',rfl⟩:=r'';exact call_range_3 (by decide) (ZhE I1 (by lia) (by lia) (by lia) (by lia) q) (.inl (ad0 (by lia)))
end
theorem Te{hi:Int}{n:Nat}{g:TG}{tb:TS}{D:Ends}{σ:St}{H:Hp}(Pv:Nat->St->Hp->Prop)(h0:Pv 0 σ H)
  (hs:∀i σ H,i<n->Pv i σ H->g (.int (hi-i)) σ H λσ2 H2=>tb { D with nx:=Pv (i+1),ct:=Pv (i+1),bk:=D.nx } σ2 H2) (hd:∀ σ H,Pv n σ H->D.nx σ H) :
  ∃W:Nat->Nat->St->Hp->Prop,(∃m,W 0 m σ H)/\∀i m σ H,W i m σ H ->
   ((ve hi n).stop i H/\D.nx σ H)\/((ve hi n).go i H/\∃N:St->Hp->Prop,(∀ σ' H',N σ' H'->∃m',m'<m/\W (i+1) m' σ' H')/\∀x H',(ve hi n).rL i H x H'->g x σ H' λσ2 H2=>tb { D with nx:=N,ct:=N,bk:=D.nx } σ2 H2):=by
 refine⟨λi m σ H=>m=n-i/\i<=n/\Pv i σ H,⟨n,by simp,abf _,h0⟩,?_⟩;rintro i m σ H ⟨rfl,hi,p⟩;by_cases hlt:i<n
 .refine .inr ⟨hlt,Pv (i+1),λσ' H' p'=>⟨n-(i+1),by lia,rfl,hlt,p'⟩,λx H' y=>?_⟩;obtain⟨e,y⟩:=y;subst e y;exact hs i σ _ hlt p
 .have e:i=n:=by lia
  subst e;exact .inl ⟨apX _,hd σ H p⟩
theorem Zku{K:W.Frag}{a b:Addr}{xs ys:List V}{g:TG}{tb:TS}{D:Ends}{σ:St}{H:Hp}(Pv:Nat->St->Hp->Prop)(hlen:xs.length=ys.length)(h0:Pv 0 σ H)(hl:∀i σ H,i<=xs.length->Pv i σ H->aB K H a xs/\aB K H b ys)
  (hs:∀i x y t σ H,xs[i]?=some x->ys[i]?=some y->Pv i σ H->H t=none->g (.ref t) σ (upd H t (.tup [x,y])) λσ2 H2=>tb { D with nx:=Pv (i+1),ct:=Pv (i+1),bk:=D.nx } σ2 H2) (hd:∀ σ H,Pv xs.length σ H->D.nx σ H) :
  ∃W:Nat->Nat->St->Hp->Prop,(∃m,W 0 m σ H)/\∀i m σ H,W i m σ H ->
   ((Ac K a b).stop i H/\D.nx σ H)\/((Ac K a b).go i H/\∃N:St->Hp->Prop,(∀ σ' H',N σ' H'->∃m',m'<m/\W (i+1) m' σ' H')/\∀x H',(Ac K a b).rL i H x H'->g x σ H' λσ2 H2=>tb { D with nx:=N,ct:=N,bk:=D.nx } σ2 H2):=by
 refine⟨λi m σ H=>m=xs.length-i/\i<=xs.length/\Pv i σ H,⟨xs.length,by simp,abf _,h0⟩,?_⟩;rintro i m σ H ⟨rfl,hi,p⟩;obtain⟨q1,q2⟩:=hl i σ H hi p;by_cases hlt:i<xs.length
 .have Mv:i<ys.length:=hlen ▸hlt;refine .inr ⟨⟨xs,ys,xs[i],ys[i],q1,q2,by simp[hlt],by simp[Mv]⟩,Pv (i+1),λσ' H' p'=>⟨xs.length-(i+1),by lia,rfl,hlt,p'⟩,λx H' y=>?_⟩;obtain⟨t,x1,y1,ht,rfl,rfl,hx,hy⟩:=y;exact hs i x1 y1 t σ _ (hx xs q1) (hy ys q2) p ht
 .have e:i=xs.length:=by lia
  subst e;exact .inl ⟨⟨xs,ys,q1,q2,.inl (apX _)⟩,hd σ H p⟩
end L2
namespace L2.UB
open PySem PySem.Spec PyProof.Rows
def Rk(ρ:Keyed->Nat)(xs:Array Keyed)(i:Nat):Nat:=(xs[i]?).elim 0 ρ
theorem Iq{ρ:Keyed->Nat}{xs ys:Array Keyed}{i j:Nat}(h:xs[i]?=ys[j]?):Rk ρ xs i=Rk ρ ys j:=by unfold Rk;rw[h]
def gk(ρ:Keyed->Nat)(xs:Array Keyed)(i j:Nat):Prop:=K xs i<K xs j\/(K xs i=K xs j/\Rk ρ xs i<Rk ρ xs j)
theorem gk.trans{ρ:Keyed->Nat}{xs:Array Keyed}{i j k:Nat}(h1:gk ρ xs i j)(h2:gk ρ xs j k):gk ρ xs i k:=by
 unfold gk at *;lia
def rG(ρ:Keyed->Nat)(xs:Array Keyed)(n:Nat):Prop:=∀i j,i<j->j<n->gk ρ xs i j
def Dec(ρ:Keyed->Nat)(xs:Array Keyed)(n:Nat):Prop:=∀i j,i<j->j<n->gk ρ xs j i
def i7(ρ:Keyed->Nat)(xs:Array Keyed)(n:Nat):Prop:=∀i,n<=i->i<xs.size->Rk ρ xs i=i
theorem i7.mono{ρ:Keyed->Nat}{xs:Array Keyed}{m n:Nat}(h:i7 ρ xs m)(l:m<=n):i7 ρ xs n:=λi hi hs=>h i (alM l hi) hs
theorem Kl{ρ:Keyed->Nat}{xs:Array Keyed}{i:Nat}(h:i<xs.size):(xs.toList.map ρ)[i]?=some (Rk ρ xs i):=by
 unfold Rk;rw[aeb,a6R,aTl h];rfl
structure Inj(ρ:Keyed->Nat)(xs:Array Keyed):Prop where
 inj:∀i j,i<xs.size->j<xs.size->Rk ρ xs i=Rk ρ xs j->i=j
 lt:∀i,i<xs.size->Rk ρ xs i<xs.size
theorem Y3{ρ:Keyed->Nat}{xs a₀:Array Keyed}(p:xs.Perm a₀)(h0:i7 ρ a₀ 0):Inj ρ xs:=by
 have e0:a₀.toList.map ρ=List.range a₀.size:=by
  apply bbg;intro i;by_cases h:i<a₀.size
  .rw [Kl h,a0l h,h0 i (abf _) h]
  .rw [ax8 (by simpa using h),ax8 (by simpa using h)]
 have pm:(xs.toList.map ρ).Perm (List.range a₀.size):=by rw[<-e0];exact(a6n.mp p).map ρ
 have nd:(xs.toList.map ρ).Nodup:=pm.nodup_iff.mpr List.nodup_range;refine⟨λi j hi hj e=>?_,λi hi=>?_⟩
 .refine (List.getElem?_inj (by rw[aW8,aTi];exact hi) nd).mp ?_;rw[Kl hi,Kl hj,e]
 .have m:Rk ρ xs i∈xs.toList.map ρ:=abH (Kl hi);have:=aOD.mp (pm.mem_iff.mp m);rw[p.size_eq];exact this
theorem Inj.below{ρ:Keyed->Nat}{xs:Array Keyed}(I:Inj ρ xs){n:Nat}(h:i7 ρ xs n){i:Nat}(hi:i<n)(hs:i<xs.size):Rk ρ xs i<n:=by
 by_cases c:Rk ρ xs i<n
 .exact c
 .have l:=I.lt i hs;have e:=h (Rk ρ xs i) (by lia) l;have:=I.inj _ _ l hs e;lia
theorem Oc{ρ:Keyed->Nat}{xs:Array Keyed}{src d:Nat}(hs:src<xs.size)(hd:d<=src)(k:Nat) :
  Rk ρ (bubble xs src d) k=if k=src-d then Rk ρ xs src else if src-d<k/\k<=src then Rk ρ xs (k-1) else Rk ρ xs k:=by
 have e:=getElem?_bubble hs d hd k;by_cases h1:k=src-d
 .rw [aYH h1]at e ⊢;exact Iq e
 .rw [aoK h1]at e ⊢;by_cases h2:src-d<k/\k<=src
  .rw [aYH h2]at e ⊢;exact Iq e
  .rw [aoK h2]at e ⊢;exact Iq e
theorem zH{ρ:Keyed->Nat}{xs:Array Keyed}{i j:Nat}(hj:j<=xs.size)(k:Nat) :
  Rk ρ (mirror xs i j ((j-i)/2)) k=if i<=k/\k<j then Rk ρ xs (i+j-1-k) else Rk ρ xs k:=by
 have e:=getElem?_mirror_all (i:=i) hj k;by_cases h1:i<=k/\k<j
 .rw [aYH h1]at e ⊢;exact Iq e
 .rw [aoK h1]at e ⊢;exact Iq e
section
variable{prog:Program}{w:World}{A:Around}{E:Value->Shared->Prop}{s:Shared}{a₀:Array Keyed}{ρ:Keyed->Nat}
theorem SB.inj{st:SortSt}(h:SBase a₀ st)(hr:i7 ρ a₀ 0):Inj ρ (arrOf st):=Y3 h.perm hr
theorem ZlA{st:SortSt}{n ok:Nat}{Q:Bool->SortSt->Prop}(h0:IntKeys a₀)(hr:i7 ρ a₀ 0)(hn:n<=a₀.size)(hok:ok<=n)(Yd:1<=ok)(hB:SBase a₀ st)(hs:rG ρ (arrOf st) ok)(hI:i7 ρ (arrOf st) ok)
  (h:∀st',SBase a₀ st'->rG ρ (arrOf st') n->Q true st'):wpS (model prog w) A E s (binarySort' 0 n ok) Q st:=by
 rw[binarySort'_eq];simp only[aaD];refine a9z (aAw (aOS (I:=λk c st1=>c=(none,())/\SBase a₀ st1/\rG ρ (arrOf st1) (min k n)/\i7 ρ (arrOf st1) (min k n))
  (Q:=λc st1=>c=(none,())/\SBase a₀ st1/\rG ρ (arrOf st1) n) ?turn ?last ?first) ?after)
 case after=>
  rintro c st1 ⟨rfl,b1,i1⟩;exact ahi (h st1 b1 i1)
 case first=>
  rw[show min (max ok 1) n=ok by lia];exact⟨rfl,hB,hs,hI⟩
 case last=>
  rintro c st1 ⟨hc,b1,i1,_⟩;rw[show min (max (max ok 1) n) n=n by lia]at i1;exact⟨hc,b1,i1⟩
 case turn=>
  rintro k c st1 X5 hkn ⟨rfl,b1,i1,d1⟩;rw[show min k n=k by lia]at i1 d1;have hk:k<a₀.size:=by lia
  have sz:=b1.size;have J:=SB.inj b1 hr;have rk:Rk ρ (arrOf st1) k=k:=d1 k (apX _) (by lia);have lo:∀m,m<k->¬K (arrOf st1) k<K (arrOf st1) m->gk ρ (arrOf st1) m k:=λm hm c=>by
   have:=J.below d1 hm (by lia);unfold gk;lia
  refine a9z (aAw (aOS (I:=λx c st2=>st2=st1/\∃l r,c=(none,l,r)/\l<=r/\r<=k/\r-l<=k-x/\(∀i,i<l->gk ρ (arrOf st1) i k)/\(∀i,r<=i->i<k->gk ρ (arrOf st1) k i))
   (Q:=λc st2=>st2=st1/\∃l r,c=(none,l,r)/\l<=k/\(∀i,i<l->gk ρ (arrOf st1) i k)/\(∀i,l<=i->i<k->gk ρ (arrOf st1) k i)) ?iturn ?ilast ?ifirst) ?iafter)
  case ifirst=>exact⟨rfl,0,k,rfl,by lia,by lia,by lia,λi hi=>absurd hi (by lia),λi p q=>absurd q (by lia)⟩
  case ilast=>
   rintro c st2 ⟨rfl,l,r,rfl,hlr,hrk,hm,u1,u2⟩;have e:l=r:=by lia
   subst e;exact⟨rfl,l,l,rfl,hrk,u1,u2⟩
  case iturn=>
   rintro x c st2 _ hxk ⟨rfl,l,r,rfl,hlr,hrk,hm,u1,u2⟩;dsimp only;by_cases hge:l ≥ r
   .rw [aYH hge];have e:l=r:=by lia
    subst e;exact ahi ⟨rfl,l,l,rfl,hrk,u1,u2⟩
   .rw [aoK hge];refine a9z (wpS_ltK b1 h0 hk (by lia) ?_);by_cases c:K (arrOf st2) k<K (arrOf st2) ((l+r)/2)
    .simp only[c,abe,ban];refine ahi ⟨rfl,l,(l+r)/2,rfl,by lia,by lia,by lia,u1,λi p q=>?_⟩;by_cases e:i=(l+r)/2
     .subst e;exact .inl c
     .exact gk.trans (.inl c) (i1 _ _ (by lia) q)
    .simp only[c,a6e,aLx,bdb];refine ahi ⟨rfl,(l+r)/2+1,r,rfl,by lia,by lia,by lia,λi p=>?_,u2⟩;have v:=lo _ (by lia) c;by_cases e:i=(l+r)/2
     .subst e;exact v
     .exact gk.trans (i1 _ _ (by lia) (by lia)) v
  case iafter=>
   rintro c st2 ⟨rfl,l,r,rfl,hlk,u1,u2⟩;show wpS _ _ _ _ (do moveDown' k l;pure (ForInStep.yield (none,()))) _ _;rw[moveDown'_eq];refine a9z (baB (ahi ⟨rfl,b1.setArr (bubble_perm _ _ _),?_,?_⟩))
   .rw [show min (k+1) n=k+1 by lia];have hks:k<(arrOf st2).size:=by lia
    intro i j hij hj;show gk ρ (bubble (arrOf st2) k (k-l)) i j;unfold gk;rw[K_bubble hks (by lia),K_bubble hks (by lia),Oc hks (by lia),Oc hks (by lia),show k-(k-l)=l by lia];by_cases a1:i=l
    .have Bb:¬j=l:=by lia
     have QK:l<j/\j<=k:=by lia
     rw[aYH a1,aYH a1,aoK Bb,aoK Bb,aYH QK,aYH QK];exact u2 _ (by lia) (by lia)
    .rw [aoK a1,aoK a1];by_cases a2:j=l
     .have Bb:¬(l<i/\i<=k):=by lia
      rw[aYH a2,aYH a2,aoK Bb,aoK Bb];exact u1 _ (by lia)
     .rw [aoK a2,aoK a2];by_cases a3:l<i/\i<=k
      .have Bb:l<j/\j<=k:=by lia
       rw[aYH a3,aYH a3,aYH Bb,aYH Bb];exact i1 _ _ (by lia) (by lia)
      .rw [aoK a3,aoK a3];by_cases a4:l<j/\j<=k
       .rw [aYH a4,aYH a4];by_cases a5:i<j-1
        .exact i1 _ _ a5 (by lia)
        .exfalso;lia
       .rw [aoK a4,aoK a4];exact i1 _ _ (by lia) (by lia)
   .rw [show min (k+1) n=k+1 by lia];intro i hi hs';have hs2:i<(arrOf st2).size:=by
     have:(arrOf (setArr st2 (bubble (arrOf st2) k (k-l)))).size=(arrOf st2).size:=bubble_size _ _ _;lia
    show Rk ρ (bubble (arrOf st2) k (k-l)) i=i;rw[Oc (by lia) (by lia),aoK (by lia),aoK (by lia)];exact d1 i (by lia) hs2
theorem Rf{st:SortSt}{a nrem:Nat}{Q:AscSt->SortSt->Prop}(h0:IntKeys a₀)(hr:i7 ρ a₀ 0)(hn:nrem<=a₀.size)(ha:1<=a)(han:a<=nrem)(hB:SBase a₀ st)(hs:rG ρ (arrOf st) a)(hI:i7 ρ (arrOf st) a)
  (h:∀n,a<=n->n<=nrem->rG ρ (arrOf st) n->(n=nrem\/K (arrOf st) n<K (arrOf st) (n-1))->Q (none,n) st):wpS (model prog w) A E s (ascLoop a nrem) Q st:=by
 unfold ascLoop;have sz:=hB.size;have J:=SB.inj hB hr;refine aOS (I:=λx c st1=>st1=st/\c=(none,x)/\rG ρ (arrOf st) x) ?turn ?last ⟨rfl,rfl,hs⟩
 case last=>
  rintro c st1 ⟨rfl,rfl,i1⟩;rw[show max a nrem=nrem by lia]at i1 ⊢;exact h nrem han (apX _) i1 (.inl rfl)
 case turn=>
  rintro x c st1 hax hxn ⟨rfl,rfl,i1⟩;dsimp only;refine a9z (wpS_ltK hB h0 (by lia) (by lia) ?_);by_cases c:K (arrOf st1) x<K (arrOf st1) (x-1)
  .simp only[c,abe,ban];exact ahi (h x hax (by lia) i1 (.inr c))
  .simp only[c,a6e,aLx,bdb];refine ahi ⟨rfl,rfl,λi j hij hj=>?_⟩;by_cases hjx:j<x
   .exact i1 i j hij hjx
   .have ej:j=x:=by lia
    subst ej;have dx:=hI.mono hax;have r1:=J.below dx (i:=j-1) (by lia) (by lia);have r2:=dx j (apX _) (by lia);have v:gk ρ (arrOf st1) (j-1) j:=by unfold gk;lia
    by_cases e:i=j-1
    .subst e;exact v
    .exact gk.trans (i1 i (j-1) (by lia) (by lia)) v
theorem RY{st:SortSt}{n nrem:Nat}{Q:Option Nat->SortSt->Prop}(h0:IntKeys a₀)(hr:i7 ρ a₀ 0)(hn:nrem<=a₀.size)(h1:1<=n)(hnn:n<=nrem)(hB:SBase a₀ st)(hs:Dec ρ (arrOf st) n)(hI:i7 ρ (arrOf st) n)
  (h:∀m st',SBase a₀ st'->1<=m->m<=nrem->rG ρ (arrOf st') m->i7 ρ (arrOf st') m->Q (some m) st'):wpS (model prog w) A E s (tail3 n nrem) Q st:=by
 unfold tail3;have sz:=hB.size;refine a9z (apo ?_);have b1:SBase a₀ (setArr st (mirror (arrOf st) 0 n ((n-0)/2))):=hB.setArr (ak3 _ _ _ _);have d1:i7 ρ (mirror (arrOf st) 0 n ((n-0)/2)) n:=λi hi hs'=>by
  rw[mirror_size]at hs';rw[zH (by lia),aoK (by lia)];exact hI i hi hs'
 refine a9z (Rf h0 hr hn h1 hnn b1 ?_ d1 λm m1 m2 i2 _=>ahi (h m _ b1 (by lia) m2 i2 (d1.mono m1)));intro i j hij hj;show gk ρ (mirror (arrOf st) 0 n ((n-0)/2)) i j;unfold gk;rw[K_mirror (by lia),K_mirror (by lia),zH (by lia),zH (by lia),aYH (by lia),aYH (by lia),aYH (by lia),aYH (by lia)];exact hs _ _ (by lia) (by lia)
structure DI(ρ:Keyed->Nat)(xs:Array Keyed)(x q:Nat):Prop where
 l:q+1<=x
 sz:x<=xs.size
 d:Dec ρ xs (x-(q+1))
 u:∀i j,i<x-(q+1)->x-(q+1)<=j->j<x->K xs j<K xs i
 e:∀i,x-(q+1)<=i->i<x->K xs i=K xs (x-1)
 f:i7 ρ xs (x-(q+1))
theorem DI.HD{xs:Array Keyed}{x:Nat}(h:DI ρ xs x 0):Dec ρ xs x:=λi j hij hj=>by
 by_cases c:j<x-(0+1)
 .exact h.d i j hij c
 .exact .inl (h.u i j (by lia) (by lia) hj)
theorem DI.rev{xs:Array Keyed}{x q:Nat}(h:DI ρ xs x q):Dec ρ (mirror xs (x-(q+1)) x ((x-(x-(q+1)))/2)) x/\i7 ρ (mirror xs (x-(q+1)) x ((x-(x-(q+1)))/2)) x:=by
 have hl:=h.l;have hz:=h.sz;refine⟨λi j hij hj=>?_,λi hi hs=>?_⟩
 .have ke:=K_mirror_equal (i:=x-(q+1)) hz h.e;unfold gk;rw[ke,ke,zH hz,zH hz];by_cases c1:j<x-(q+1)
  .rw [aoK (by lia),aoK (by lia)];exact h.d i j hij c1
  .by_cases c2:i<x-(q+1)
   .exact .inl (h.u i j c2 (by lia) hj)
   .rw [aYH (by lia),aYH (by lia)];refine .inr ⟨(h.e j (by lia) hj).trans (h.e i (by lia) (by lia)).symm,?_⟩;rw[h.f _ (by lia) (by lia),h.f _ (by lia) (by lia)];lia
 .rw [mirror_size]at hs;rw[zH hz,aoK (by lia)];exact h.f i (by lia) hs
theorem DI.of{xs:Array Keyed}{x:Nat}(hx:1<=x)(hz:x<xs.size)(hd:Dec ρ xs x)(hf:i7 ρ xs x)(hk:K xs x<K xs (x-1)):DI ρ xs (x+1) 0:=by
 refine⟨by lia,by lia,hd,λi j hi hj hj'=>?_,λi hi hi'=>?_,hf⟩
 .have ej:j=x:=by lia
  subst ej;by_cases e:i=j-1
  .subst e;exact hk
  .have v:=hd i (j-1) (by lia) (by lia);unfold gk at v;lia
 .have ei:i=x:=by lia
  subst ei;rfl
theorem DI.more{xs:Array Keyed}{x q:Nat}(h:DI ρ xs x q)(hz:x<xs.size)(hk:K xs x=K xs (x-1)):DI ρ xs (x+1) (q+1):=by
 have hl:=h.l;have e0:x+1-(q+1+1)=x-(q+1):=by lia
 refine⟨by lia,by lia,by rw[e0];exact h.d,λi j hi hj hj'=>?_,λi hi hi'=>?_,by rw[e0];exact h.f⟩
 .rw [e0]at hi hj;by_cases c:j<x
  .exact h.u i j hi hj c
  .have ej:j=x:=by lia
   subst ej;rw[hk];exact h.u i (j-1) hi (by lia) (by lia)
 .rw [show x+1-1=x by lia];by_cases c:i<x
  .rw [hk];exact h.e i (by lia) c
  .have ei:i=x:=by lia
   subst ei;rfl
theorem Zkv{st:SortSt}{n nrem:Nat}{Q:DescSt->SortSt->Prop}(h0:IntKeys a₀)(hn:nrem<=a₀.size)(hnn:n<=nrem)(hB:SBase a₀ st)(hs:DI ρ (arrOf st) n 0)
  (h:∀m q st',SBase a₀ st'->m<=nrem->DI ρ (arrOf st') m q->Q (none,m,q) st'):wpS (model prog w) A E s (descLoop n nrem) Q st:=by
 unfold descLoop;refine aOS (I:=λx c st1=>∃q,c=(none,x,q)/\SBase a₀ st1/\DI ρ (arrOf st1) x q) ?turn ?last ⟨0,rfl,hB,hs⟩
 case last=>
  rintro c st1 ⟨q,rfl,b1,d1⟩;rw[show max n nrem=nrem by lia]at d1 ⊢;exact h nrem q st1 b1 (apX _) d1
 case turn=>
  rintro x c st1 hax hxn ⟨q,rfl,b1,d1⟩;dsimp only;have sz:=b1.size;have hl:=d1.l;refine a9z (wpS_ltK b1 h0 (by lia) (by lia) ?_);by_cases c:K (arrOf st1) x<K (arrOf st1) (x-1)
  .simp only[c,abe,ban];by_cases hq:q>0
   .rw [aYH hq];obtain⟨r1,r2⟩:=d1.rev;refine a9z (apo (ahi ⟨0,rfl,b1.setArr (ak3 _ _ _ _),DI.of (by lia) (by show x<(mirror _ _ _ _).size;rw[mirror_size];lia) r1 r2 ?_⟩));show K (mirror _ _ _ _) x<K (mirror _ _ _ _) (x-1);rw[K_mirror_equal d1.sz d1.e,K_mirror_equal d1.sz d1.e];exact c
   .rw [aoK hq];have e:q=0:=by lia
    subst e;exact ahi ⟨0,rfl,b1,DI.of (by lia) (by lia) d1.HD (d1.f.mono (by lia)) c⟩
  .simp only[c,a6e,aLx,bdb];refine a9z (wpS_ltK b1 h0 (by lia) (by lia) ?_);by_cases c2:K (arrOf st1) (x-1)<K (arrOf st1) x
   .simp only[c2,abe,ban];exact ahi (h x q st1 b1 (by lia) d1)
   .simp only[c2,a6e,aLx,bdb];exact ahi ⟨q+1,rfl,b1,d1.more (by lia) (by lia)⟩
theorem RX{st:SortSt}{n nrem:Nat}{Q:Option Nat->SortSt->Prop}(h0:IntKeys a₀)(hr:i7 ρ a₀ 0)(hn:nrem<=a₀.size)(hnn:n+1<=nrem)(hB:SBase a₀ st)(hs:DI ρ (arrOf st) (n+1) 0)
  (h:∀m st',SBase a₀ st'->1<=m->m<=nrem->rG ρ (arrOf st') m->i7 ρ (arrOf st') m->Q (some m) st'):wpS (model prog w) A E s (descPart n nrem) Q st:=by
 unfold descPart;refine a9z (wpS_lift (aiy ⟨rfl,?_⟩));refine a9z (Zkv h0 hn hnn hB hs λm q st1 b1 m2 d1=>?_);dsimp only;have hl:=d1.l;by_cases hq:q>0
 .rw [aYH hq];obtain⟨r1,r2⟩:=d1.rev;exact a9z (apo (RY h0 hr hn (by lia) m2 (b1.setArr (ak3 _ _ _ _)) r1 r2 h))
 .rw [aoK hq];have e:q=0:=by lia
  subst e;exact RY h0 hr hn (by lia) m2 b1 d1.HD (d1.f.mono (by lia)) h
theorem ZiY{st:SortSt}{nrem:Nat}{Q:Option Nat->SortSt->Prop}(h0:IntKeys a₀)(hr:i7 ρ a₀ 0)(hn:nrem<=a₀.size)(h1:1<=nrem)(hB:SBase a₀ st)(hI:i7 ρ (arrOf st) 0)
  (h:∀m st',SBase a₀ st'->1<=m->m<=nrem->rG ρ (arrOf st') m->i7 ρ (arrOf st') m->Q (some m) st'):wpS (model prog w) A E s (countRun' 0 nrem) Q st:=by
 rw[countRun0_eq];have sz:=hB.size;refine a9z (Rf h0 hr hn (apX 1) h1 hB (λi j hij hj=>absurd hj (by lia)) (hI.mono (abf _)) λn n1 n2 i1 hor=>?_);dsimp only;by_cases e:n=nrem
 .rw [aYH (by simpa using e)];exact ahi (h n st hB n1 n2 i1 (hI.mono (abf _)))
 .rw [aoK (by simpa using e)];have lt:K (arrOf st) n<K (arrOf st) (n-1):=hor.resolve_left e;by_cases g:n>1
  .rw [aYH g];refine a9z (wpS_ltK hB h0 (by lia) (by lia) ?_);by_cases c:K (arrOf st) 0<K (arrOf st) (n-1)
   .simp only[c,abe,ban];exact ahi (h n st hB n1 n2 i1 (hI.mono (abf _)))
   .simp only[c,a6e,aLx,bdb];have all:∀k,0<=k->k<n->K (arrOf st) k=K (arrOf st) (n-1):=by
     intro k _ hk;have a1:k=0\/gk ρ (arrOf st) 0 k:=by
      by_cases z:k=0
      .exact .inl z
      .exact .inr (i1 0 k (by lia) hk)
     have a2:k=n-1\/gk ρ (arrOf st) k (n-1):=by
      by_cases z:k=n-1
      .exact .inl z
      .exact .inr (i1 k (n-1) (by lia) (by lia))
     have a3:=i1 0 (n-1) (by lia) (by lia);unfold gk at a1 a2 a3;rcases a1 with a1|a1
     .subst a1;lia
     .rcases a2 with a2|a2
      .subst a2;rfl
      .lia
    have ke:=K_mirror_equal (xs:=arrOf st) (i:=0) (j:=n) (by lia) all;refine a9z (apo (RX h0 hr hn (by lia) (hB.setArr (ak3 _ _ _ _)) (DI.of (by lia) (by show n<(mirror _ _ _ _).size;rw[mirror_size];lia) (λi j hij hj=>?_) (λi hi hs=>?_) ?_) h))
    .show gk ρ (mirror (arrOf st) 0 n ((n-0)/2)) j i;unfold gk;rw[ke,ke,all i (by lia) (by lia),all j (by lia) hj,zH (by lia),zH (by lia),aYH (by lia),aYH (by lia),hI _ (by lia) (by lia),hI _ (by lia) (by lia)];lia
    .have hs':i<(mirror (arrOf st) 0 n ((n-0)/2)).size:=hs;rw[mirror_size]at hs';show Rk ρ (mirror (arrOf st) 0 n ((n-0)/2)) i=i;rw[zH (by lia),aoK (by lia)];exact hI i (by lia) hs'
    .show K (mirror (arrOf st) 0 n ((n-0)/2)) n<K (mirror (arrOf st) 0 n ((n-0)/2)) (n-1);rw[ke,ke];exact lt
  .rw [aoK g];have en:n=1:=by lia
   subst en;exact RX h0 hr hn (by lia) hB (DI.of (by lia) (by lia) (λi j hij hj=>absurd hj (by lia)) (hI.mono (abf _)) lt) h
def uS(ρ:Keyed->Nat)(a₀:Array Keyed)(st:SortSt):Prop:=(arrOf st).Perm a₀/\failedOf st=none/\pendingOf st=#[(0,a₀.size,0)]/\rG ρ (arrOf st) a₀.size
theorem uS.of{st:SortSt}(hB:SBase a₀ st)(hs:rG ρ (arrOf st) a₀.size):uS ρ a₀ (setPending st ((pendingOf st).push (0,a₀.size,0))):=
 ⟨hB.perm,hB.failed,by show(pendingOf st).push _=_;rw[hB.pend];rfl,hs⟩
theorem Zkw{st:SortSt}{Q:Unit->SortSt->Prop}(h0:IntKeys a₀)(hr:i7 ρ a₀ 0)(hB:SBase a₀ st)(hI:i7 ρ (arrOf st) 0)(h2:2<=a₀.size)(h64:a₀.size<64)
  (h:∀st',(arrOf st').Perm a₀->failedOf st'=none->rG ρ (arrOf st') a₀.size->Q () st'):wpS (model prog w) A E s sortRuns' Q st:=by
 rw[sortRuns'_eq];refine a9z (aRo ?_);dsimp only;have mr:minRun' a₀.size a₀.size 0=a₀.size:=by
  obtain⟨f,hf⟩:∃f,a₀.size=f+1:=⟨a₀.size-1,by lia⟩;have e:minRun' (f+1) a₀.size 0=a₀.size:=by
   rw[minRun'_succ,aYH h64];rfl
  rwa [<-hf]at e
 simp only[hB.size,mr];refine a9z (aAw (aOS
  (I:=λx c st1=>(x=0/\c=(none,0)/\SBase a₀ st1/\i7 ρ (arrOf st1) 0)\/(1<=x/\c=(none,a₀.size)/\uS ρ a₀ st1))
  (Q:=λc st1=>c=(none,a₀.size)/\uS ρ a₀ st1) ?turn ?last (.inl ⟨rfl,rfl,hB,hI⟩)) ?after)
 case last=>
  rintro c st1 (⟨hx,_⟩|⟨_,hc,hD⟩)
  .lia
  .exact ⟨hc,hD⟩
 case turn=>
  rintro x c st1 _ hx (⟨rfl,rfl,b1,i1⟩|⟨PB,rfl,hD⟩)
  .dsimp only;rw[aoK (by lia)];simp only[Nat.sub_zero,Nat.min_self,aaD];refine a9z (ZiY h0 hr (apX _) (by lia) b1 i1 λm st2 b2 m1 m2 s2 d2=>?_);dsimp only;by_cases lt:m<a₀.size
   .rw [aYH lt];refine a9z (wpS_lift (aiy ⟨rfl,?_⟩));refine a9z (ZlA h0 hr (apX _) m2 m1 b2 s2 d2 λst3 b3 s3=>?_);simp only[aLE,aLx,bdb];refine a9z (aRo ?_);have hb:(pendingOf st3).back?=none:=by
     rw[b3.pend];rfl
    rw[hb];dsimp only;exact a9z (baB (ahi (.inr ⟨by lia,rfl,uS.of b3 s3⟩)))
   .rw [aoK lt];have em:m=a₀.size:=by lia
    subst em;refine a9z (aRo ?_);have hb:(pendingOf st2).back?=none:=by
     rw[b2.pend];rfl
    rw[hb];dsimp only;exact a9z (baB (ahi (.inr ⟨by lia,rfl,uS.of b2 s2⟩)))
  .dsimp only;rw[aYH (apX _)];exact ahi ⟨rfl,hD⟩
 case after=>
  rintro c st1 ⟨rfl,hD⟩;dsimp only;refine a9z (aAw (aOS (I:=λ_ c st2=>st2=st1/\c=(none,())) (Q:=λc st2=>st2=st1/\c=(none,())) ?_ (λ_ _ hh=>hh) ⟨rfl,rfl⟩) ?_)
  .rintro x c st2 _ _ ⟨rfl,rfl⟩;refine a9z (aRo ?_);rw[aYH (by rw[hD.2.2.1];exact apX 1)];exact ahi ⟨rfl,rfl⟩
  .rintro c st2 ⟨rfl,rfl⟩;exact ahi (h _ hD.1 hD.2.1 hD.2.2.2)
end
end L2.UB
namespace L2
open PySem PySem.Spec PyProof.Rows
def BMod(base:Heap)(mg:Str->Option Value):Prop:=∃bm o,mg "__builtins__"=some (.ref bm)/\bm≠builtinsNs/\bm≠mainGlobals/\base.get? bm=some o/\o.cls=.type "module" /\o.dict=some builtinsNs/\o.data=.plain
section
variable{X:Cx}{pins:List (Addr×Obj)}{σ:St}{H:Hp}{s:Shared}
theorem Inv.grown{P c':Addr}{pos:Pos}{qual:Str}{ps:Array Value}{h':Heap}{tk:Nat}(I:Inv X pins σ H s)(hP:H P=some (.nU pos qual))(hx:Heap.ExtBut P s.heap h')(hge:s.heap.objs.size<=c')(hrec:h'.CodeRec (.ref c') qual)
  (htr:TriplesOk ps.toList) (hnf:codeAmong pos ps.toList=none) (htb:h'.get? P=some { cls:=.none,data:=.fields (ps++#[rawInt pos.line,rawInt pos.col,.ref c']) }) :
  ∃oc vs t,h'.get? c'=some oc/\oc.data=.fields vs/\vs[1]?=some (.str qual t)/\Inv X pins σ (upd H c' (.cN oc (.own P))) { s with heap:=h',toks:=tk }:=by
 obtain⟨c,oc,vs,t,z,hoc,hd,hv⟩:=hrec;cases z;have fr:H c'=none:=I.hok.fresh hge;have nP:∀b,H b=none->b≠P:=λb n z=>by rw[z,hP]at n;cases n
 have nc:∀b u,H b=some u->b≠c':=λb u e=>Ze e fr;have nh:∀b o,s.heap.get? b=some o->b≠c':=λb o e=>amC (ae8 (aNG e) hge);have cP:c'≠P:=λz=>by rw[z,hP]at fr;cases fr
 refine⟨oc,vs,t,hoc,hd,hv,I.step (g':=s.gens) (d':=s.drawn) (t':=tk) (ch:=[]) (h':=h') (H':=upd H c' (.cN oc (.own P))) (λ_ z=>nomatch z) (λb o _ _ _ e n=>hx b o (nP b n) e) (λb o _ _ _ e n=>⟨o.slots,hx b o (nP b n) e⟩)
  (λb o _ e n=>by rw[Zc (nh b o e)];exact n) (λb o _ e=>?_) (λb xs e=>by rw[Zc (nc b _ e)];exact e) (λb o u e=>by rw[Zc (nc b _ e)];exact e) (λb p q e=>by rw[Zc (nc b _ e)];exact e) (λm hm=>?_) (λb u e=>?_) I.bare⟩
 .by_cases hb:b=P
  .subst hb;exact⟨_,htb⟩
  .exact ⟨o,hx b o hb e⟩
 .obtain ⟨o,es,ep,ho,r⟩:=hm;exact⟨o,es,ep,hx _ o (nP _ I.free) ho,r⟩
 .by_cases hb:b=c'
  .subst hb;rw[Za]at e;cases e;exact⟨hoc,_,hoc⟩
  .rw [Zc hb]at e;by_cases P4:b=P
   .subst P4;rw[hP]at e;cases e;have e1:(ps++#[rawInt pos.line,rawInt pos.col,Value.ref c']).toList=ps.toList++[rawInt pos.line,rawInt pos.col,.ref c']:=by simp
    refine⟨_,htb,?_,λcv hc=>?_⟩
    .rw [e1];exact TriplesOk_snoc _ _ _ _ htr
    .rw [e1,codeAmong_snoc _ htr hnf]at hc;cases hc;exact⟨c',oc,vs,t,rfl,Za,hd,hv⟩
   .refine (I.hok b u e).stay (λd v hd' q=>hx d v ?_ q) (λd q=>by rw[Zc (nc d _ q)];exact q) (λd xs q=>by rw[Zc (nc d _ q)];exact q) λd oz q=>by rw[Zc (nc d _ q)];exact q
    rcases hd' with rfl|hd'
    .exact P4
    .intro z;rw[z,hP]at hd';cases hd'
structure rA(X:Cx)(scope:Scope)(x:Str)(fr:List Str)(js:List Nat):Prop where
 kind:scope.kind=.function
 co:scope.isCoroutine=false
 gen:scope.isGenerator=false
 wV:∀y∈scope.names,y.2≠.cell
 par:scope.names.lookup x=some .local
 free:∀y∈scope.names,y.2=.free->X.env.kindOf y.1=some .cell\/X.env.kindOf y.1=some .free
 len:fr.length=js.length
 js:∀(k j:Nat),js[k]?=some j->fr[k]?=X.N[j]?
 jf:∀(k:Nat)(y:Str),fr[k]?=some y->scope.names.lookup y=some .free
def jr(X:Cx)(A:Around)(N:List Str)(qual:Str)(scope:Scope)(f:Addr)(cd:Value)(cl:List (Str×Addr))(s:Shared)(H:Hp):Cx where
 prog:=X.prog
 w:=X.w
 K:=X.K
 mg:=X.mg
 base:=X.base
 A:=A.deeper (W.envX qual scope s.heap.objs.size f cd cl)
 N:=N
 s₀:=s
 H₀:=H
 env:=W.envX qual scope s.heap.objs.size f cd cl
 outer:=X.stack
 stack:=W.envX qual scope s.heap.objs.size f cd cl ::X.stack
 ex:=[]
 calm:=true
 fn:=λ_=>false
 pn:=[]
 xe:=λ_ _=>False
theorem Zkx{A:Around}{x:Str}{fr:List Str}{js:List Nat}{qual:Str}{scope:Scope}{f:Addr}{cd:Value}{cl:List (Str×Addr)}{s1:Shared}{u:Value}{v:V}(c:rA X scope x fr js)(I:Inv X pins σ H s)(hA:A.frames=some X.stack)(hh:A.handled=none)
  (jO:∀x c,cl.lookup x=some c->X.env.cells.lookup x=some c) (pI:∀p∈scope.names,p.2=.free->∃c,cl.lookup p.1=some c) (r:RelV v u)
  (hn:s1.heap.Ns s.heap.objs.size λy=>[(x,u)].reverse.lookup y) (hk:∀b o,s.heap.get? b=some o->s1.heap.get? b=some o) (hos:s1.os=s.os) (hg:s1.gens=s.gens) :
  Inv (jr X A (x ::fr) qual scope f cd cl s H) [] (some v ::js.map λj=>(σ[j]?).join) H s1:=by
 have Cb:∀b:Addr,b∉(jr X A (x ::fr) qual scope f cd cl s H).ex:=λb z=>absurd (show b∈([]:List Addr) from z) (by simp);have ok:(jr X A (x ::fr) qual scope f cd cl s H).Ok:=by
  refine⟨I.ok.mod,c.kind,rfl,rfl,apX _,λy z d e1 e2=>I.ok.inj y z d (jO _ _ e1) (jO _ _ e2),λy hy=>?_,λy d z _=>absurd z (by simp[jr]),λ_=>hh,Around.frames_deeper hA,.inr ⟨rfl,rfl⟩,λb z=>absurd z (Cb b),I.bs,alM I.ok.yo I.sz,λb _ _=>Cb b,λb z=>absurd z (Cb b),I.stack,I.nW⟩;have hy:scope.names.lookup y=some .cell\/scope.names.lookup y=some .free:=hy;rcases hy with hy|hy
  .exact absurd rfl (c.wV _ (ZP hy))
  .exact pI _ (ZP hy) rfl
 refine⟨ok,hos,by rw[hg];exact I.bare,Un.kept hk,⟨_,hn,λi y v' e1 e2 e3=>?_⟩,λy d e=>?_,I.hok.fresh (apX _),λy d e=>I.cO y d (jO y d e),λp hp=>absurd (show p∈([]:List (Addr×Obj)) from hp) (by simp),I.hok.kept hk,?_⟩
 .cases i with
  |zero=>
   have oZ:x=y:=by simpa[jr]using e1
   have uN:v=v':=by simpa using e2
   subst oZ;subst uN;refine⟨u,r,.inl ⟨c.par,?_⟩⟩;show([(x,u)]:List (Str×Value)).reverse.lookup x=some u;simp
  |succ k=>
   have oZ:fr[k]?=some y:=by simpa[jr]using e1
   rw[aX8,aeb]at e2;cases q:js[k]? with
   |none=>rw[q]at e2;cases e2
   |some j=>
    rw[q]at e2;have uN:(σ[j]?).join=some v':=by simpa using e2
    have e4:σ[j]?=some (some v'):=by
     cases z:σ[j]? with
     |none=>rw[z]at uN;cases uN
     |some o=>rw[z]at uN;rw[show o=some v' from uN]
    have MG:X.N[j]?=some y:=(c.js k j q).symm.trans oZ;have hfr:=c.jf k y oZ;have hk2:=c.free _ (ZP hfr) rfl;have vis:IE X.env.scope y:=by
     rcases hk2 with z|z
     .exact .inr (.inl z)
     .exact .inr (.inr z)
    obtain⟨m,_,hl⟩:=I.loc;obtain⟨u',r',l⟩:=hl j y v' MG e4 vis;refine⟨u',r',?_⟩;rcases l with⟨z,_⟩|⟨_,d,e,⟨od,ho,hd⟩⟩
    .rcases hk2 with y'|y'
     .rw [show X.env.kindOf y=_ from z]at y';cases y'
     .rw [show X.env.kindOf y=_ from z]at y';cases y'
    .obtain ⟨d',e'⟩:=pI _ (ZP hfr) rfl;have z':=jO _ _ e';have:d'=d:=by rw[e]at z';exact(aDb z').symm
     subst this;exact .inr ⟨.inr hfr,d',e',⟨od,hk _ _ ho,hd⟩⟩
 .obtain ⟨v',⟨o,ho,hd⟩⟩:=I.cell y d (jO y d e);exact⟨v',o,hk _ _ ho,hd⟩
 .show (some v ::_:List (Option V)).length=(x ::fr).length;rw[aXW,aXW,aW8,c.len]
theorem ZiZ{A:Around}{x:Str}{fr:List Str}{js:List Nat}{name qual:Str}{params:Arguments}{body:PySem.Expr}{scope:Scope}{f:Addr}{pm cd ct:Value}{cl:List (Str×Addr)}{u:Value}{v:V}{te:TE}{Q:VK}{E:Value->Shared->Prop}{of:Obj}(c:rA X scope x fr js)(I:Inv X pins σ H s)
  (hA:A.frames=some X.stack) (hh:A.handled=none) (ME:A.depth<recursionLimit)
  (jO:∀x c,cl.lookup x=some c->X.env.cells.lookup x=some c) (pI:∀p∈scope.names,p.2=.free->∃c,cl.lookup p.1=some c)
  (ho:s.heap.get? f=some of) (hof:of.data=.func (W.kla_fn name qual params body scope cl pm cd ct)) (hcd:s.heap.CodeRec cd qual)
  (hb:∀u,bindArgs (W.kla_fn name qual params body scope cl pm cd ct) ⟨[u],[]⟩=pure [(x,u)]) (r:RelV v u)
  (he:∀s,PE (jr X A (x ::fr) qual scope f cd cl s H) body te) (h:te (some v ::js.map λj=>(σ[j]?).join) H Q) :
  wpAny (model X.prog X.w) A (call (.ref f) [u]) (EP X pins σ Q) E s:=by
 refine wpAny_call (aWj (R:=λr s'=>∃u',r=.ok (.ret u')/\CE X.stack X.prog X.w H s Q u' s') (W.kla_callFunE ME ho hof c.co c.gen rfl hcd (by
  rw[hb u];refine anq ?_;refine wpAny_newFunctionEnv c.wV (λy hy=>by rw[bau.mp hy];exact c.par) (λh₁ hns lM=>?_) c.kind;have hk₁:∀b o,s.heap.get? b=some o->h₁.get? b=some o:=λb o e=>lM.extBut b o (amC (aNG e)) (a8G _ e);refine⟨I.nolimit.keeps hk₁,?_⟩;have J:=Zkx (qual:=qual) (f:=f) (cd:=cd) (s1:={ s with heap:=h₁,toks:=s.toks+[(x,u)].length }) c I hA hh jO pI r hns hk₁ rfl rfl;refine W.kla_codeExpr (aEC (he s [] _ _ H Q J h) (λu' s' hq=>?_) λ_ _ z=>z.elim);obtain⟨v',H',J',rv,q⟩:=hq;exact⟨u',rfl,v',H',J'.os,J'.bare,J'.base,J'.hok,rv,q⟩)) λr s' hq=>?_)
 obtain⟨u',rfl,hq⟩:=hq;exact I.after hq
theorem Zja{P c0:Addr}{x:Str}{fr:List Str}{js:List Nat}{params:Arguments}{body:PySem.Expr}{scope:Scope}{pos:Pos}{R:Value->Shared->Prop}(c:rA X scope x fr js)(I:Inv X pins σ H s)(hc0:X.env.code=.ref c0)(hcd:W.codeHdIn X.K c0 P=true)
  (bm:BMod X.base X.mg) (hP:H P=some (.nU pos (X.env.qual ++ "<lambda>"))) (hd0:params.defaults=[]) (hk0:params.kw_defaults=[])
  (h:∀f cl cd pm ct of H' s',Inv X pins σ H' s'->ay H H'->(∀x c,cl.lookup x=some c->X.env.cells.lookup x=some c)->(∀p∈scope.names,p.2=.free->∃c,cl.lookup p.1=some c) -> 
   H' f=some (.cN of (.own 0))->of.data=.func (W.kla_fn "<lambda>" (X.env.qual ++ "<lambda>") params body scope cl pm cd ct)->(∃c' oc vs t,cd=.ref c'/\H' c'=some (.cN oc (.own P))/\oc.data=.fields vs/\vs[1]?=some (.str (X.env.qual ++ "<lambda>") t))->R (.ref f) s') :
  wpAny (model X.prog X.w) X.A (eval (.Lambda params body scope pos) X.env) R X.xe s:=by
 obtain⟨cl,e1,jO,_,pI⟩:=Iw (env:=X.env) scope.names [] (λp hp hf=>I.ok.has _ (c.free p hp hf)) (λx d e=>by simp at e);have hclos:closureFor scope X.env=pure cl:=by
  unfold closureFor;refine(aSc (λz=>z >>= λcs=>pure cs) e1).trans ?_;rfl
 have CH:=W.codeHd_of_K I.dD hcd;obtain⟨ps,hps,htr,hcode⟩:=(show aF X.prog X.w H s.heap P (.nU pos (X.env.qual ++ "<lambda>")) from I.hok P _ hP);have hg:=I.ok.mod.glob.keeps I.bk;have hgP:mainGlobals≠P:=λq=>by
  obtain⟨o,es,ep,e,hd,_⟩:=hg;rw[q,hps]at e;cases e;cases hd
 have hb:s.heap.BuiltinsAt X.mg P:=by
  obtain⟨b,o,a1,a2,a3,a4,a5,a6,a7⟩:=bm;have e:=I.bk _ _ a4;exact⟨b,o,a1,a2,a3,(λz=>by rw[z,hps]at e;cases e;cases a5),e,a5,a6,a7⟩
 rw[arm_eval_Lambda,defaultsOf_eq,hd0,hk0];show wpAny _ _ (do let dv <-evalAll (evalEach [] X.env);let Xo <-holding dv (evalAllOpt []);makeFunction "<lambda>" (X.env.qual ++ "<lambda>") params (.expr body) scope X.env dv Xo [] pos pos.line) _ _ s;refine agE (evalAll_nil ?_);refine agE (aMj (anq ?_));cases hf:codeAmong pos ps.toList with
 |some cv=>
  obtain⟨c',oc,vs,t,rfl,hH,hd,hv⟩:=hcode cv hf;refine W.kla_makeFunctionHit hclos I.ok.glob hg hc0 CH hps htr hf hb λctv h' tk hk hsz=>?_;have I1:=I.laid (a:=h'.objs.size) (t':=tk) (o:=.cN { cls:=.type "function",data:=.func (W.kla_fn "<lambda>" (X.env.qual ++ "<lambda>") params body scope cl ((X.mg "__name__").getD .none) (.ref c') ctv) } (.own 0)) (h':=h'.push { cls:=.type "function",data:=.func (W.kla_fn "<lambda>" (X.env.qual ++ "<lambda>") params body scope cl ((X.mg "__name__").getD .none) (.ref c') ctv) }) (λb o e=>a8G _ (hk b o e)) hsz ⟨aIn _ rfl,_,aIn _ rfl⟩;have fr:=I.hok.fresh hsz;exact h _ cl _ _ _ _ _ _ I1 (Zg fr _) jO pI Za rfl ⟨c',oc,vs,t,rfl,by rw[Zc (Ze hH fr)];exact hH,hd,hv⟩
 |none=>
  refine W.kla_makeFunction hclos I.ok.glob hg hc0 CH hps htr hf hgP hb λc' ctv h' tk hx hge hlt hrec htb=>?_;obtain⟨oc,vs,t,hoc,hd,hv,I1⟩:=I.grown (tk:=tk) hP hx hge hrec htr hf htb;have fr:H c'=none:=I.hok.fresh hge;have Hs:upd H c' (.cN oc (.own P)) h'.objs.size=none:=I1.hok.fresh (apX _);have I2:=I1.laid (a:=h'.objs.size) (t':=tk) (o:=.cN (W.kla_obj "<lambda>" (X.env.qual ++ "<lambda>") params body scope cl ((X.mg "__name__").getD .none) c' ctv) (.own 0)) (h':=h'.push (W.kla_obj "<lambda>" (X.env.qual ++ "<lambda>") params body scope cl ((X.mg "__name__").getD .none) c' ctv)) (λb o e=>a8G _ e) (apX _) ⟨aIn _ rfl,_,aIn _ rfl⟩;exact h _ cl _ _ _ _ _ _ I2 ((Zg fr _).trans (Zg Hs _)) jO pI Za rfl ⟨c',oc,vs,t,rfl,by rw[Zc (Ze Za Hs)];exact Za,hd,hv⟩
end
end L2
namespace L2
open PySem PySem.Spec PyProof.Rows L2.UB
def sJ(key:Int->Int)(ns:List Int)(a b:Int):Prop:=key a<key b\/(key a=key b/\ns.idxOf a<ns.idxOf b)
theorem Zjb{l:List Keyed}(h:∀p∈l,∃t,p.2=.int (numOf p.2) t):Vals ((l.map λp=>numOf p.2).map V.int) (l.map (·.2)):=by
 induction l with
 |nil=>exact .nil
 |cons p r ih=>
  obtain⟨t,e⟩:=h p aAX;exact .cons ⟨t,e⟩ (ih λq hq=>h q (aO5 _ hq))
theorem N4{vs:List Value}{ns:List Int}(h:IntsAre vs ns):∀{i:Nat}{v:Value},vs[i]?=some v->∃n t,ns[i]?=some n/\v=.int n t:=by
 induction h with
 |nil=>intro i v e;simp at e
 |cons n t _ ih=>
  intro i v e;cases i with
  |zero=>exact⟨n,t,rfl,by simpa using e.symm⟩
  |succ i=>exact ih (by simpa using e)
theorem Rc:∀{ns:List Int},ns.Nodup->∀{i:Nat}{n:Int},ns[i]?=some n->ns.idxOf n=i
 | [],_,_,_,e=>by simp at e
 |x ::r,nd,0,n,e=>by
  have e':x=n:=by simpa using e
  subst e';simp
 |x ::r,nd,i+1,n,e=>by
  obtain⟨h1,h2⟩:=aE7.mp nd;have e':r[i]?=some n:=by simpa using e
  have ne:x≠n:=λz=>h1 (z ▸abH e');rw[List.idxOf_cons,show(x ==n)=false by simpa using ne];show r.idxOf n+1=i+1;rw[Rc h2 e']
theorem Td{keys:Array Value}{vs:List Value}{ns:List Int}{key:Int->Int}(hk:IntsAre keys.toList (ns.map key))(hv:IntsAre vs ns)(nd:ns.Nodup) :
  i7 (λp=>ns.idxOf (numOf p.2)) (keys.zip vs.toArray) 0/\∀xs:Array Keyed,xs.Perm (keys.zip vs.toArray)->rG (λp=>ns.idxOf (numOf p.2)) xs xs.size ->
   ∃os:List Int,Vals (os.map V.int) (xs.map (·.2)).toList/\os.Perm ns/\os.Pairwise (sJ key ns):=by
 have lk:keys.size=ns.length:=by have:=hk.length;rw[aTi,aW8]at this;lia
 have lv:vs.length=ns.length:=by have:=hv.length;lia
 have Nb:∀(i:Nat)(p:Keyed),(keys.zip vs.toArray)[i]?=some p->∃n t t',ns[i]?=some n/\p=(Value.int (key n) t,Value.int n t'):=λi p e=>by
  have e':(keys.toList.zip vs)[i]?=some p:=by rw[<-ksk_zip,a6R];exact e
  rw[List.getElem?_zip_eq_some]at e';obtain⟨n1,t1,q1,r1⟩:=N4 hk e'.1;obtain⟨n2,t2,q2,r2⟩:=N4 hv e'.2;rw[aeb,q2]at q1;have FU:key n2=n1:=by simpa using q1
  exact⟨n2,t1,t2,q2,Prod.ext (by rw[r1,FU]) r2⟩
 have Cj:∀p∈(keys.zip vs.toArray).toList,∃n t t',n∈ns/\p=(Value.int (key n) t,Value.int n t'):=λp hp=>by
  obtain⟨i,e⟩:=a6o hp;rw[a6R]at e;obtain⟨n,t,t',q,r⟩:=Nb i p e;exact⟨n,t,t',abH q,r⟩
 refine⟨λi _ hi=>?_,λxs hp hi=>?_⟩
 .obtain ⟨n,t,t',q,r⟩:=Nb i _ (aTl hi);unfold Rk;rw[aTl hi,r];show ns.idxOf n=i;exact Rc nd q
 .have pm:=a6n.mp hp;have Cg:∀p∈xs.toList,∃n t t',n∈ns/\p=(Value.int (key n) t,Value.int n t'):=λp Cy=>Cj p (pm.mem_iff.mp Cy);refine⟨xs.toList.map λp=>numOf p.2,?_,?_,?_⟩
  .rw [Array.toList_map];refine Zjb λp Cy=>?_;obtain⟨n,t,t',_,rfl⟩:=Cg p Cy;exact⟨t',rfl⟩
  .have e:(keys.zip vs.toArray).toList.map (λp=>numOf p.2)=ns:=by
    apply bbg;intro i;rw[aeb,a6R];by_cases hlt:i<(keys.zip vs.toArray).size
    .obtain ⟨n,t,t',q,r⟩:=Nb i _ (aTl hlt);rw[aTl hlt,r,q];rfl
    .have lz:(keys.zip vs.toArray).size=ns.length:=by rw[Array.size_zip,lk,aBb,lv,Nat.min_self]
     rw[a3i (by lia),ax8 (by lia)];rfl
   rw[<-e];exact pm.map _
  .rw [pairwise_iff_getElem];intro i j hi' hj' hij;have hi2:i<xs.size:=by simpa using hi'
   have hj2:j<xs.size:=by simpa using hj'
   have v:=hi i j hij hj2;obtain⟨n1,t1,t1',_,r1⟩:=Cg xs[i] (by simp);obtain⟨n2,t2,t2',_,r2⟩:=Cg xs[j] (by simp);have k1:K xs i=key n1:=by rw[K_eq hi2,r1];rfl
   have k2:K xs j=key n2:=by rw[K_eq hj2,r2];rfl
   have q1:Rk (λp=>ns.idxOf (numOf p.2)) xs i=ns.idxOf n1:=by unfold Rk;rw[aTl hi2,r1];rfl
   have q2:Rk (λp=>ns.idxOf (numOf p.2)) xs j=ns.idxOf n2:=by unfold Rk;rw[aTl hj2,r2];rfl
   have g1:(xs.toList.map λp=>numOf p.2)[i]=n1:=by simp[r1,numOf]
   have g2:(xs.toList.map λp=>numOf p.2)[j]=n2:=by simp[r2,numOf]
   rw[g1,g2];unfold gk at v;rw[k1,k2,q1,q2]at v;exact v
section
variable{X:Cx}{pins:List (Addr×Obj)}{σ:St}{H:Hp}{s:Shared}{d:Addr}{xs:List V}{o:Obj}
theorem Inv.yD(I:Inv X pins σ H s)(h:H d=some (.cN o (.lst xs)))(h0:∀o' u,X.H₀ d≠some (.cN o' u)):Inv X pins σ (upd H d (.lst xs)) s:=by
 have ne:∀b u,H b=some u->u≠.cN o (.lst xs)->b≠d:=λb u e n z=>by rw[z,h]at e;exact n (aDb e).symm
 have nn:∀b,H b=none->b≠d:=λb e z=>by rw[z,h]at e;cases e
 refine⟨I.ok,I.os,I.bare,⟨I.base.keep,I.base.slot,λb o' e n hx=>?_,I.base.there,λb ys e=>?_,λb o' u e=>?_,λb p r e=>?_⟩,I.loc,I.cell,?_,λx c e=>?_,λp hp=>?_,λb u e=>?_,I.len⟩
 .have q:=I.base.free b o' e n hx;rw[Zc (nn b q)];exact q
 .have q:=I.base.tups b ys e;rw[Zc (ne b _ q (by intro z;cases z))];exact q
 .have q:=I.base.jN b o' u e;rw[Zc (λz=>h0 o' u (by rw[<-z];exact e))];exact q
 .have q:=I.base.j9 b p r e;rw[Zc (ne b _ q (by intro z;cases z))];exact q
 .rw [Zc (nn _ I.free)];exact I.free
 .rw [Zc (nn _ (I.cO x c e))];exact I.cO x c e
 .obtain ⟨a1,a2,a3⟩:=I.pin p hp;exact⟨a1,by rw[Zc (nn _ a2)];exact a2,a3⟩
 .by_cases hb:b=d
  .subst hb;rw[Za]at e;cases e;exact(I.hok b _ h).2
  .rw [Zc hb]at e;exact(I.hok b u e).stay (λ_ _ _ z=>z) (λc z=>by rw[Zc (ne c _ z (by intro y;cases y))];exact z) (λc ys z=>by rw[Zc (ne c _ z (by intro y;cases y))];exact z) λc oz z=>by rw[Zc (ne c _ z (by intro y;cases y))];exact z
theorem Tc{a kS:Addr}{st:SortSt}{e1:Nat}{H1:Hp}{ns:List Int}{key:Int->Int}{keys:Array Value}{its:List Value}{ks:List V}{A:Around}{E:Value->Shared->Prop}{R:PySem.Fin->Shared->Prop}(I:Inv X pins σ H1 s)(hk:IntsAre keys.toList (ns.map key))(hv:IntsAre its ns)(nd:ns.Nodup)(h64:ns.length<64)
  (ha:H1 a=some (.cN (seqObj "list" #[] e1) (.lst []))) (h0:∀o' u,X.H₀ a≠some (.cN o' u)) (Ec:H1 kS=some (.lst ks)) (hlk:ks.length<=64) (hp:(arrOf st).Perm (keys.zip its.toArray)) (hi:rG (λp=>ns.idxOf (numOf p.2)) (arrOf st) (arrOf st).size) (hf:failedOf st=none)
  (h:∀(H':Hp)(s':Shared)(os:List Int),Inv X pins σ H' s'->(∀b,b≠a->b≠kS->H' b=H1 b)->H' a=some (.lst (os.map V.int))->os.Perm ns->os.Pairwise (sJ key ns)->R (.done (.ret .none)) s') :
  wpAny (model X.prog X.w) A (ksk_tail a false e1 (.ref kS) st) R E s:=by
 have JG:a≠kS:=λz=>by rw[z,Ec]at ha;cases ha
 obtain⟨os,vo,po,so⟩:=(Td hk hv nd).2 _ hp hi;have lo:=po.length_eq;unfold ksk_tail;try dsimp only
 obtain⟨_,xq,n,rK,PR,eK⟩:=I.w9 Ec;have lK:xq.length<=64:=by have:=rK.length;lia
 refine agE (awK eK rfl ?_ (by rw[aBb,aXy];lia) (abf _));have I6:=I.xg (t':=s.toks) (f:=λ_=>#[]) (its':=[]) (ys:=[]) Ec eK rfl .nil (abf _);have P5:upd H1 kS (.lst []) a=some (.cN (seqObj "list" #[] e1) (.lst [])):=by rw[Zc JG];exact ha
 have oa:=(I6.hok a _ P5).1;refine agE (wpAny_letGo ?_);refine agE (seqEpoch_at oa rfl ?_);have lo2:((arrOf st).map (·.2)).size=ns.length:=by
  have e:=vo.length;rw[aW8]at e;have e2:((arrOf st).map (·.2)).toList.length=((arrOf st).map (·.2)).size:=aTi;lia
 refine agE (awK oa rfl ?_ (abf _) (by simp only[aLx,bdb];rw[lo2,aXy];lia));rw[hf];simp only[bne_self_eq_false,aLx,bdb];have I7:=I6.yD P5 h0;have I8:=I7.xg (t':=s.toks) (f:=λ_=>(arrOf st).map (·.2)) (its:=[]) (its':=((arrOf st).map (·.2)).toList) (ys:=os.map V.int) Za oa (by exact(Array.toArray_toList).symm) vo (by rw[aW8,aXy];lia);refine anq (h _ _ os I8 (λb n1 n2=>?_) Za po so);rw[Zc n1,Zc n1,Zc n2]
theorem Zky{a kS:Addr}{e1:Nat}{H1:Hp}{ns:List Int}{key:Int->Int}{keys:Array Value}{its:List Value}{ks:List V}{A:Around}{E:Value->Shared->Prop}{R:PySem.Fin->Shared->Prop}(I:Inv X pins σ H1 s)(hk:IntsAre keys.toList (ns.map key))(hv:IntsAre its ns)(nd:ns.Nodup)(h64:ns.length<64)
  (ha:H1 a=some (.cN (seqObj "list" #[] e1) (.lst []))) (h0:∀o' u,X.H₀ a≠some (.cN o' u)) (Ec:H1 kS=some (.lst ks)) (hlk:ks.length<=64)
  (h:∀(H':Hp)(s':Shared)(os:List Int),Inv X pins σ H' s'->(∀b,b≠a->b≠kS->H' b=H1 b)->H' a=some (.lst (os.map V.int))->os.Perm ns->os.Pairwise (sJ key ns)->R (.done (.ret .none)) s') :
  wpAny (model X.prog X.w) A (ksk_end a false its.toArray e1 (.ref kS) keys) R E s:=by
 have lk:keys.size=ns.length:=by have:=hk.length;rw[aTi,aW8]at this;lia
 have lv:its.length=ns.length:=by have:=hv.length;lia
 have hzs:(keys.zip its.toArray).size=ns.length:=by rw[Array.size_zip,lk,aBb,lv,Nat.min_self]
 obtain⟨Pz,_⟩:=Td hk hv nd;unfold ksk_end;simp only[aLx,bdb];by_cases h2:its.toArray.size<2
 .rw [aYH h2,aYH h2];refine agE (anq ?_);rw[StateT.run_pure];refine agE (anq ?_);try dsimp only
  refine Tc (st:=SortSt.mk' general' (keys.zip its.toArray) #[] 7 none) I hk hv nd h64 ha h0 Ec hlk (aq1 _) (λi j hij hj=>?_) rfl h;have hj2:j<(keys.zip its.toArray).size:=hj;rw[aBb]at h2;lia
 .rw [aoK h2,aoK h2];rw[aBb]at h2;rw[ksk_kind hk (by rw[lk];lia)];refine agE (anq ?_);refine agE (aEC (Zkw (ρ:=λp=>ns.idxOf (numOf p.2)) (a₀:=keys.zip its.toArray) (st:=SortSt.mk' oneType' (keys.zip its.toArray) #[] 7 none)
   (Q:=λ_ st1=>(arrOf st1).Perm (keys.zip its.toArray)/\failedOf st1=none/\rG (λp=>ns.idxOf (numOf p.2)) (arrOf st1) (keys.zip its.toArray).size)
   (ksk_intKeys hk) Pz ⟨aq1 _,rfl,rfl,rfl⟩ Pz (by rw[hzs];lia) (by rw[hzs];exact h64) λst1 a1 a2 a3=>⟨a1,a2,a3⟩) ?_ λ_ _ e=>e)
  rintro⟨⟨⟩,st1⟩ s1 ⟨rfl,hp,hf,hs⟩;try dsimp only
  exact Tc I hk hv nd h64 ha h0 Ec hlk hp (by rw[hp.size_eq];exact hs) hf h
theorem Zjc{l f:Addr}{ns:List Int}{key:Int->Int}{Q:VK}{E:Value->Shared->Prop}(I:Inv X pins σ H s)(hq:aB X.K H l (ns.map V.int))(h64:ns.length<64)(nd:ns.Nodup)
  (turn:∀z∈ns,∀H1 s1 u,ay H H1->Inv X pins σ H1 s1->RelV (.int z) u->wpAny (model X.prog X.w) X.A.in1.in1 (call (.ref f) [u]) (EP X pins σ λv H'=>v=.int (key z)/\H'=H1) (λ_ _=>False) s1)
  (q:∀(D:Addr)(H':Hp)(os:List Int),H D=none->ay H H'->H' D=some (.lst (os.map V.int))->os.Perm ns->os.Pairwise (sJ key ns)->Q (.ref D) H') :
  wpAny (model X.prog X.w) X.A (call (.builtin "sorted") [.ref l] [(Str.ofString "key",.ref f)]) (EP X pins σ Q) E s:=by
 obtain⟨its,rv,pl,hz⟩:=I.list hq;have hv:=K0 rv;have lv:its.length=ns.length:=by have:=rv.length;rw[aW8]at this;exact this.symm
 refine call_function_entry_kw kind_sorted plain_sorted entry_sorted (ksk_s1 _ _) ?_;unfold Builtin.«sorted»;refine agE (m:=checkCount "sorted" 1 1 _) (anq ?_);refine agE (collect_list pl.isList ?_ (by rw[aXy];lia));refine agE (aHN ?_ (by rw[aXy];lia));have hsz:((s.heap.push (seqObj "list" #[] 0)).update s.heap.objs.size (Obj.mapSeq (·++its.toArray))).objs.size=s.heap.objs.size+1:=by
  rw[Heap.size_update,size_push']
 have lN:(((s.heap.push (seqObj "list" #[] 0)).update s.heap.objs.size (Obj.mapSeq (·++its.toArray))).push (seqObj "list" its.toArray 0)).get? (s.heap.objs.size+1)=some (seqObj "list" its.toArray 0):=by
  rw[<-hsz];exact aIn _ rfl
 have keep:∀b o,s.heap.get? b=some o->(((s.heap.push (seqObj "list" #[] 0)).update s.heap.objs.size (Obj.mapSeq (·++its.toArray))).push (seqObj "list" its.toArray 0)).get? b=some o:=λb o e=>by
  have lt:b<s.heap.objs.size:=aNG e;rw[ahB _ _ _ (by rw[hsz];exact amC (aO1 lt)),Heap.get?_update_ne _ _ _ _ (amC lt),ahB _ _ _ (amC lt)];exact e
 show wpAny _ _ _ _ _ { s with heap:=((s.heap.push (seqObj "list" #[] 0)).update s.heap.objs.size (Obj.mapSeq (·++its.toArray))).push (seqObj "list" its.toArray 0) };rw[hsz];have hsz1:(((s.heap.push (seqObj "list" #[] 0)).update s.heap.objs.size (Obj.mapSeq (·++its.toArray))).push (seqObj "list" its.toArray 0)).objs.size=s.heap.objs.size+2:=by rw[size_push',hsz]
 generalize((s.heap.push (seqObj "list" #[] 0)).update s.heap.objs.size (Obj.mapSeq (·++its.toArray))).push (seqObj "list" its.toArray 0)=h1 at *;refine agE (aMj (wpAny_call_entry_kw slot_list_sort ⟨_,lN,rfl⟩ entry_list_sort ?body (ksk_l1 _ _)))
 case body=>
  show wpAny (model X.prog X.w) X.A.in1.in1 (Builtin.«list.sort» ⟨[.ref (s.heap.objs.size+1)],[(Str.ofString "key",.ref f)]⟩) _ _ _;rw[ksk_t1];unfold ksk_tree;refine agE (listItems_at lN rfl ?_);refine agE (awK lN rfl ?_ (by rw[aBb,aXy];lia) (abf _));obtain⟨e1,Eb⟩:∃e1,(h1.update (s.heap.objs.size+1) (Obj.mapSeq λ_=>(#[]:Array Value))).get? (s.heap.objs.size+1)=some (seqObj "list" #[] e1):=⟨_,get?_update_seq lN λ_=>#[]⟩;have Gv:∀b o,s.heap.get? b=some o->(h1.update (s.heap.objs.size+1) (Obj.mapSeq λ_=>(#[]:Array Value))).get? b=some o:=λb o e=>by
   have lt:b<s.heap.objs.size:=aNG e;rw[Heap.get?_update_ne _ _ _ _ (amC (aO1 lt))];exact keep b o e
  generalize h1.update (s.heap.objs.size+1) (Obj.mapSeq λ_=>(#[]:Array Value))=h2 at *;refine agE (seqEpoch_at Eb rfl ?_);refine agE (wpAny_newTuple ?_ (by show its.length<=_;rw[aXy];lia));refine agE (aHN ?_ (abf _));refine aMj ?_;have fr:H (s.heap.objs.size+1)=none:=I.hok.fresh (az7 _);have h0:∀o' u,X.H₀ (s.heap.objs.size+1)≠some (.cN o' u):=λo' u e=>by rw[I.base.jN _ _ _ e]at fr;cases fr
  have ho2:(h2.push (seqObj "tuple" its.toArray 0)).get? (s.heap.objs.size+1)=some (seqObj "list" #[] e1):=a8G _ Eb;have I3:=I.laid (a:=s.heap.objs.size+1) (t':=s.toks) (o:=.cN (seqObj "list" #[] e1) (.lst [])) (h':=h2.push (seqObj "tuple" its.toArray 0)) (λb o e=>a8G _ (Gv b o e)) (az7 _) ⟨ho2,abf _,[],e1,.nil,ho2⟩;have Eg:=I3.hok.fresh (apX _);have I4:=I3.laid (t':=s.toks) (o:=.lst []) (h':=(h2.push (seqObj "tuple" its.toArray 0)).push (seqObj "list" #[] 0)) (λb o e=>a8G _ e) (apX _) ⟨abf _,[],0,.nil,aIn _ rfl⟩;have JG:s.heap.objs.size+1≠(h2.push (seqObj "tuple" its.toArray 0)).objs.size:=Ze Za Eg;have sm:ay H (upd (upd H (s.heap.objs.size+1) (.cN (seqObj "list" #[] e1) (.lst []))) (h2.push (seqObj "tuple" its.toArray 0)).objs.size (.lst [])):=(Zg fr _).trans (Zg Eg _);have Qm:H (h2.push (seqObj "tuple" its.toArray 0)).objs.size=none:=(Zg fr _).free Eg;have Mz:upd (upd H (s.heap.objs.size+1) (.cN (seqObj "list" #[] e1) (.lst []))) (h2.push (seqObj "tuple" its.toArray 0)).objs.size (.lst []) (h2.push (seqObj "tuple" its.toArray 0)).objs.size=some (.lst []):=Za;have ha0:upd (upd H (s.heap.objs.size+1) (.cN (seqObj "list" #[] e1) (.lst []))) (h2.push (seqObj "tuple" its.toArray 0)).objs.size (.lst []) (s.heap.objs.size+1)=some (.cN (seqObj "list" #[] e1) (.lst [])):=by rw[Zc JG];exact Za
  generalize upd (upd H (s.heap.objs.size+1) (.cN (seqObj "list" #[] e1) (.lst []))) (h2.push (seqObj "tuple" its.toArray 0)).objs.size (.lst [])=H4 at *;show wpAny (model X.prog X.w) X.A.in1.in1 (ksk_rest (s.heap.objs.size+1) (.ref f) false its.toArray e1 (.ref (h2.push (seqObj "tuple" its.toArray 0)).objs.size)) _ _ { s with heap:=(h2.push (seqObj "tuple" its.toArray 0)).push (seqObj "list" #[] 0) };generalize(h2.push (seqObj "tuple" its.toArray 0)).objs.size=kS at *;generalize(h2.push (seqObj "tuple" its.toArray 0)).push (seqObj "list" #[] 0)=h4 at *;unfold ksk_rest;refine agE (aiy ?_);rw[List.forIn_toArray];refine agE (ksk_fold (λi s1=>∃H1:Hp,Inv X pins σ H1 s1/\ay H H1/\H1 (s.heap.objs.size+1)=some (.cN (seqObj "list" #[] e1) (.lst []))/\H1 kS=some (.lst (((ns.take i).map key).map V.int))) its 0 _
   ⟨H4,I4,sm,ha0,Mz⟩ ?step ?done)
  case step=>
   rintro j x s1 hx ⟨H1,I1,s1',a1,k1⟩;simp only[aaD]at k1 ⊢;obtain⟨z,t,hz',rfl⟩:=N4 hv hx;have hj:j<ns.length:=(azG.mp hz').1;refine agE (afl (aEC (turn z (abH hz') H1 s1 _ s1' I1 ⟨t,rfl⟩) (λv s2 he=>?_) λ_ _ hF=>hF.elim));obtain⟨v',H',I2,r2,rfl,rfl⟩:=he;try dsimp only
   obtain⟨_,xq,n,rK,PR,eK⟩:=I2.w9 k1;have lK:xq.length<=ns.length:=by
    have:=rK.length;rw[aW8,aW8,a1R]at this;lia
   refine agE (awK eK rfl ?_ (by rw[aBb,aXy];lia) (by rw[Array.size_push,aBb,aXy];lia));have ek:ns.take (j+1)=ns.take j++[z]:=by rw[take_succ,hz'];rfl
   have I5:=I2.xg (t':=s2.toks) (f:=(·.push v)) (its':=xq++[v]) (ys:=((ns.take (j+1)).map key).map V.int) k1 eK (by simp) (by rw[ek,aK6,aK6];exact rK.append (.cons r2 .nil)) (by rw[aW8,aW8,a1R,aXy];lia);refine anq ⟨rfl,_,I5,λb o y=>?_,?_,Za⟩
   .rw [Zc (Ze y Qm)];exact s1' _ _ y
   .rw [Zc JG];exact a1
  case done=>
   rintro s1 ⟨H1,I1,s1',a1,k1⟩;rw[aaD,lv,a9F]at k1;obtain⟨_,xq,n,rK,PR,eK⟩:=I1.w9 k1;try dsimp only
   refine agE (listItems_at eK rfl ?_);refine Zky (ns:=ns) (key:=key) I1 (by simpa using K0 rK) hv nd h64 a1 h0 k1 (by rw[aW8,aW8];lia) λH' s2 os I2 Wl hD po so=>⟨_,rfl,?_⟩;refine anq ⟨_,rfl,.ref (s.heap.objs.size+1),H',I2,rfl,q _ H' os fr (λb o y=>?_) hD po so⟩;rw[Wl b (Ze y fr) (Ze y Qm)];exact s1' _ _ y
end
end L2
namespace L2
open PySem PySem.Spec PyProof.Rows
structure d7(P:Program)(w:World)(K:W.Frag)(mg:Str->Option Value)(base:Heap)(C:Addr)(m:Str)(k:Nat)(ps:List Str)(sp:Sp):Prop where
 ex:∃(f:Addr)(fd:FuncData),b9 P w K mg base nR k f fd ps sp/\Meth K C m f/\Binds K fd ps []
structure DA(P:Program)(w:World)(K:W.Frag)(mg:Str->Option Value)(base:Heap)(C:Addr)(x:Str)(k:Nat)(ps:List Str)(sp:Sp):Prop where
 ex:∃(f:Addr)(fd:FuncData),b9 P w K mg base nR k f fd ps sp/\Mk K C f/\mg x=some (.ref C)/\Binds K fd ps []
section
variable{X:Cx}{x m:Str}{p pos apos:Pos}{e o:PySem.Expr}{es:List PySem.Expr}{ta:TE}{t:TA}{k:Nat}{ps:List Str}{sp:Sp}{C:Addr}
theorem Zj{pl:Sem Bool}(M:d7 X.prog X.w X.K X.mg X.base C m k ps sp)(hr:bu k X.A)(c:rJ X.K C)(he:PE X o ta)(ha:PA X (e ::es) t)(hn:ya (e ::es):=by repeat' (first|exact True.intro|refine⟨?_,?_⟩))
  (ht:eval (.Call (.Attribute o m apos) (e ::es) [] pos) X.env=(do
   let ov <-eval o X.env
   standAt apos.atName
   let(f,first) <-holding [ov] (getMethod ov m pl)
   callWith pos f first (backTo pos (starEach (e ::es) X.env)) (backToKw pos (keywordEach [] X.env))):=by rfl) :
  PE X (.Call (.Attribute o m apos) (e ::es) [] pos) (sN C m sp [] E0 ta t):=by
 obtain⟨f,fd,F,hm,hb⟩:=M.ex;exact Zki he c hm F hr hb .nil uc ha (vt hn.1) (C8 hn.2) ht
theorem Ip(M:DA X.prog X.w X.K X.mg X.base C x k ps sp)(hr:bu (k+1) X.A)(hg:Gl X x)(ha:PA X (e ::es) t)(hn:ya (e ::es):=by repeat' (first|exact True.intro|refine⟨?_,?_⟩))(hd:(x ==("__debug__":Str))=false:=by decide) :
  PE X (.Call (.Name x p) (e ::es) [] pos) (Am C sp [] E0 t):=by
 obtain⟨f,fd,F,M',hm,hb⟩:=M.ex;exact Zkj M' F hr hg hm hb .nil uc ha (hdb:=hd) (he:=vt hn.1) (hpl:=C8 hn.2)
def VZ:TS:=λ_ _ _=>False
theorem t9{st:Stmt}:PS X st VZ:=λ_ _ _ _ _ _ h=>False.elim h
end
theorem rH.Wm{P:Program}{w:World}{K:W.Frag}{mg:Str->Option Value}{base:Heap}{x qual:Str}{st:Stmt}{f:Addr}{fd:FuncData}{N ps:List Str}{k:Nat}{sp:Sp}(F:rH K x qual st f fd)(S:fK N ps (Zr st))(len:∀vs H Q E,sp vs H Q E->vs.length=ps.length)
  (hbody:∀(cdv:Value)(A:Around)(outer:List Env)(s:Shared)(H:Hp)(vs:List V)(Q:VK)(E:XK),fd.code=cdv->bu k (A.deeper (envOfC qual (Zr st) s.heap.objs.size f cdv))->sp vs H Q E ->
   ∃t,uT (qK nR P w K mg base N qual (Zr st) f cdv A outer s H E).BY (ZE st) t/\t { nx:=λ_ H'=>Q .aQ H',rt:=Q } (start N vs) H):b9 P w K mg base nR (k+1) f fd ps sp:=by
 obtain⟨oc,od,kV,doc,pm,an,cdv,ct,osl,rfl,lk,hcd⟩:=F.ex;refine A3 lk hcd S len λA outer s H vs Q E hr rX=>?_;obtain⟨t,h,q⟩:=hbody cdv A outer s H vs Q E rfl hr rX;exact⟨t,h.BY,q⟩
theorem Zk{X:Cx}{K:W.Frag}{e:PySem.Expr}{f:Str}{pos:Pos}{ta:TE}(hK:X.K=K)(he:PE X e ta)(hb:attributeBase e f X.env (eval e X.env)=eval e X.env):PE X (.Attribute e f pos) (Fo K ta f):=by
 subst hK;exact Z8 he hb
def Gq(mh:Scope)(oN:List Str)(scope:Scope)(x:Str)(fr:List Str)(js:List Nat):Bool:=
 scope.kind == .function && !scope.isCoroutine && !scope.isGenerator && scope.names.all (λy=>y.2 != .cell) && scope.names.lookup x ==some .local &&
 scope.names.all (λy=>y.2 != .free || (mh.names.lookup y.1 ==some .cell || mh.names.lookup y.1 ==some .free)) && fr.length ==js.length &&
 (js.map λj=>oN[j]?) ==fr.map some && fr.all λy=>scope.names.lookup y ==some .free
theorem Zjd{X:Cx}{mh:Scope}{oN:List Str}{scope:Scope}{x:Str}{fr:List Str}{js:List Nat}(h:Gq mh oN scope x fr js=true)(hs:X.env.scope=mh)(hN:X.N=oN):rA X scope x fr js:=by
 unfold Gq at h;simp only[aJO,aTK,Bool.or_eq_true,aqt,bne_iff_ne,ne_eq,a2I]at h;obtain⟨⟨⟨⟨⟨⟨⟨⟨h1,h2⟩,h3⟩,h4⟩,h5⟩,h6⟩,h7⟩,h8⟩,h9⟩:=h;refine⟨h1,h2,h3,h4,h5,λy hy hf=>?_,h7,λk j e=>?_,λk y e=>h9 y (abH e)⟩
 .rcases h6 y hy with q|q
  .exact absurd hf q
  .show X.env.scope.names.lookup y.1=_\/X.env.scope.names.lookup y.1=_;rw[hs];exact q
 .rw [hN];have z:=aSc (λl=>l[k]?) h8;simp only[aeb,e,bb2]at z;cases q:fr[k]? with
  |none=>rw[q]at z;cases z
  |some y=>rw[q]at z;exact(aDb z).symm
theorem ZlB{A:Around}{k:Nat}{env:Env}(hr:bu k A):(A.in1.in1.deeper env).units+1<cLine:=by
 have:=hr.un;show A.units+1+1+3+1<cLine;lia
def Rb(K:W.Frag)(P:Addr)(qF:Pos)(qual:Str)(js:List Nat)(te:TE)(σ:St)(Q:VK)(x:V)(H1:Hp):Prop:=∃(l:Addr)(ns:List Int)(key:Int->Int),x=.ref l/\aB K H1 l (ns.map V.int)/\ns.length<64/\ns.Nodup/\H1 P=some (.nU qF qual) /\
 (∀z∈ns,∀H2,ay H1 H2->te (some (.int z) ::js.map λj=>(σ[j]?).join) H2 λv H'=>v=.int (key z)/\H'=H2) /\
 ∀(D:Addr)(H':Hp)(os:List Int),H1 D=none->ay H1 H'->H' D=some (.lst (os.map V.int))->os.Perm ns->os.Pairwise (sJ key ns)->Q (.ref D) H'
def ZlC(K:W.Frag)(P:Addr)(qF:Pos)(qual:Str)(js:List Nat)(Jg te:TE):TE:=λσ H Q=>Jg σ H λx H1=>Rb K P qF qual js te σ Q x H1
section
variable{X:Cx}
theorem Zje{K:W.Frag}{P c0:Addr}{k:Nat}{y:Str}{fr:List Str}{js:List Nat}{qual:Str}{params:Arguments}{body xs:PySem.Expr}{scope:Scope}{p pos qF kpos:Pos}{Jg te:TE}(hK:X.K=K)(hr:bu k X.A)(hcl:X.calm=true)(hg:Gl X "sorted")(hm:X.mg "sorted"=none)
  (c:rA X scope y fr js) (hc0:X.env.code=.ref c0) (hcd:W.codeHdIn X.K c0 P=true) (bm:BMod X.base X.mg) (hq:X.env.qual ++ "<lambda>"=qual) (hd0:params.defaults=[]) (hk0:params.kw_defaults=[])
  (hb:∀cl pm cd ct u,bindArgs (W.kla_fn "<lambda>" qual params body scope cl pm cd ct) ⟨[u],[]⟩=pure [(y,u)]) (ha:PE X xs Jg)
  (he:∀f cd cl s H,PE (jr X X.A.in1.in1 (y ::fr) qual scope f cd cl s H) body te) (hn:ya [xs]:=by repeat' (first|exact True.intro|refine⟨?_,?_⟩)) :
  PE X (.Call (.Name "sorted" p) [xs] [⟨some "key",.Lambda params body scope qF,kpos⟩] pos) (ZlC K P qF qual js Jg te):=by
 subst hK;subst hq;intro pins s σ H Q I h;refine aob (sf I hg hm boot_sorted ?_ (by decide) (by decide));refine callWith_kw (nT ((pc ha Zb hn.1) pos pins s σ H (λvs H1=>match vs with| [x]=>Rb X.K P qF (X.env.qual ++ "<lambda>") js te σ Q x H1|_=>False) I h) λus s1 vs H1 I1 r1 q1=>?_) (by rw[vt hn.1];rfl) (by rw[vt hn.1];rfl) rfl rfl
 match vs,r1,q1 with
 | [],_,z=>exact z.elim
 |_ ::_ ::_,_,z=>exact z.elim
 | [x],r1,q1=>
  obtain⟨l,ns,key,rfl,hS,h64,nd,hP,ht,q⟩:=q1;obtain⟨u,rfl,ru⟩:=vals1 r1;cases ru;show wpAny _ _ (evalAll [(do let v <-eval (.Lambda params body scope qF) X.env;standAt pos;pure v)]) _ _ s1;refine wpAny_evalAll_cons (agE (Zja c I1 hc0 hcd bm hP hd0 hk0 λf cl cd pm ct of H2 s2 I2 sm jO pI hf hof hcode=>agE (aIo (anq (wpAny_evalAll_nil ?_)))));show wpAny _ _ (call (.builtin "sorted") [.ref l] [(Str.ofString "key",.ref f)]) _ _ s2;refine Zjc I2 (sm.seq hS) h64 nd (λz hz H3 s3 u Lo I3 ru=>?_) λD H' os hD V3 hl po so=>q D H' os (sm.free hD) (sm.trans V3) hl po so;have Wq:=(I3.hok f _ (Lo _ _ hf)).1;obtain⟨c',oc,vs',t',rfl,hc',hd',hv'⟩:=hcode;have Wz:=(I3.hok c' _ (Lo _ _ hc')).1;exact ZiZ (A:=X.A.in1.in1) c I3 I3.ok.frames (I3.ok.hd hcl) hr.depth jO pI Wq hof ⟨c',oc,vs',t',rfl,Wz,hd',hv'⟩ (hb cl pm _ ct) ru (λs=>he f _ cl s H3) (ht z hz H3 (sm.trans Lo))
end
theorem ZhH{P:Program}{w:World}{K:W.Frag}{mg mb:Str->Option Value}{CX:yC}{k:Nat}{fa a tp c0:Addr}{pos:Pos}{qual:Str}{fd:FuncData}{x:Str}{sp:Sp}{s₁:Shared}{vs:List Value}{ns:List Int}
  (KX:K.In s₁.heap) (hns:s₁.heap.Ns mainGlobals mg) (hb:s₁.heap.Ns builtinsNs mb) (X3:∀x:Str,x ≠ "__name__" ->mb x=bootBuiltins x) (hlim:s₁.heap.NoLimit) (hg:s₁.gens=#[])
  (ha:s₁.heap.get? a=some { cls:=.type "list",data:=.seq vs.toArray }) (hi:IntsAre vs ns) (hl:ns.length<=sizeLine) (hr:bu k callerA)
  (htp:s₁.heap.get? tp=some { cls:=.none,data:=.fields #[] }) (hch:W.codeHdIn K c0 tp=true) (X8:K.lookup tp=none)
  (hbm:BMod s₁.heap mg) (F:∀base:Heap,K.In base->base.Ns mainGlobals mg->BMod base mg->b9 P w K mg base CX k fa fd [x] sp) (hbind:∀(s:Shared)(u:Value),BindsTo s fd ⟨[u],[]⟩ [(x,u)])
  (rX:∀H:Hp,H tp=some (.nU pos qual)->aB K H a (ns.map V.int)->sp [.ref a] H (λv _=>v=.bl true) λ_ _ _=>False)
  (MK:∀H e s',CX [] H s₁ (λ_ _ _=>False) e s'->False) :
  codeAny (model P w) callerA (.call (.ref fa) ⟨[.ref a],[]⟩) (λr s'=>r=.ok (.ret (.bool true))/\OldK s₁.heap s'.heap/\s'.os=s₁.os/\AllBare s'.gens) s₁:=by
 have rv:=IC hi;have LW:=hi.length;have nat:a≠tp:=λz=>by rw[z,htp]at ha;cases ha
 have core:∀H:Hp,H tp=some (.nU pos qual)->aB K H a (ns.map V.int)->d9 P w H s₁.heap->(∀b,H b≠none->b=tp\/(b=a/\∃o xs,H b=some (.cN o (.lst xs))))->(H a≠none->K.lookup a=none) ->
   codeAny (model P w) callerA (.call (.ref fa) ⟨[.ref a],[]⟩) (λr s'=>r=.ok (.ret (.bool true))/\OldK s₁.heap s'.heap/\s'.os=s₁.os/\AllBare s'.gens) s₁:=by
  intro H hT hS hok hA hK;have WS:∀{b:Addr}{o:Obj}{es:Array DictEntry}{ep:Nat},s₁.heap.get? b=some o->o.data=.dict es ep->H b=none:=λ{b o es ep} e d=>by
   cases q:H b with
   |none=>rfl
   |some u=>
    rcases hA b (by rw[q];simp) with z|⟨z,_⟩
    .rw [z,htp]at e;cases e;cases d
    .rw [z,ha]at e;cases e;cases d
  have JC:∀{b:Addr}{m:Str->Option Value},s₁.heap.Ns b m->(oW s₁.heap H).Ns b m:=λ{b m}⟨o,es,ep,e,d,r⟩=>⟨o,es,ep,Oj e (WS e d),d,r⟩;have P8:K.In (oW s₁.heap H):=λb o e=>Oj (KX b o e) (by
   cases q:H b with
   |none=>rfl
   |some u=>
    rcases hA b (by rw[q];simp) with z|⟨z,_⟩
    .rw [z,X8]at e;cases e
    .have n:H a≠none:=by rw[<-z,q];simp
     rw[z,hK n]at e;cases e)
  have hM:Mod K mg (oW s₁.heap H):=⟨P8,JC hns,⟨mb,JC hb,X3⟩,let⟨mc,h1,h2⟩:=hlim;⟨mc,JC h1,h2⟩⟩;have e0:sM P w K mg (oW s₁.heap H) callerA [] s₁ H:=⟨rfl,hM,λb o e=>ZjZ e,Nat.le_of_eq (ZgX _ _),trivial,λb hb=>absurd (show b∈([]:List Addr) from hb) (by simp),hok,.of_eq hg⟩;have hB:BMod (oW s₁.heap H) mg:=by
   obtain⟨b,o,a1,a2,a3,a4,a5,a6,a7⟩:=hbm;refine⟨b,o,a1,a2,a3,Oj a4 ?_,a5,a6,a7⟩;cases q:H b with
   |none=>rfl
   |some u=>
    rcases hA b (by rw[q];simp) with z|⟨z,_⟩
    .rw [z,htp]at a4;cases a4;cases a5
    .rw [z,ha]at a4;cases a4;have a8:Value.type "list"=Value.type "module":=a5;injection a8 with a8
     exact absurd a8 (by decide)
  refine aWj ((F _ P8 (JC hns) hB).run callerA [] s₁ H ⟨[.ref a],[]⟩ [.ref a] [.ref a] _ _ hr e0 (hbind s₁ (.ref a)) (.cons rfl .nil) (rX H hT hS)) λr s' h=>?_;cases r with
  |error e=>exact(MK H e s' h).elim
  |ok fl=>
   cases fl with
   |next=>exact False.elim h
   |brk=>exact False.elim h
   |cont=>exact False.elim h
   |ret u=>
    obtain⟨v,H',os,bare,un,GX,r',q⟩:=h;have q':v=.bl true:=q;subst q';obtain rfl:u=Value.bool true:=r';have tab:=(W.codeHd_of_K KX hch).tab htp;have t2:=GX tp _ (un.j9 _ _ _ hT);obtain⟨ps,hps,_⟩:=t2;have old:∀b o,s₁.heap.get? b=some o->b≠tp->s'.heap.get? b=some o:=λb o e nb=>by
     cases q:H b with
     |none=>exact un.keep b o e q (by intro z;exact absurd (show b∈([]:List Addr) from z) (by simp)) (by simp)
     |some u=>
      rcases hA b (by rw[q];simp) with z|⟨_,ob,xs,z⟩
      .exact absurd z nb
      .have z2:=un.jN b ob _ z;obtain⟨e1,_⟩:=hok b _ z;obtain⟨e2,_⟩:=GX b _ z2;rw[e]at e1;cases e1;exact e2
    refine⟨rfl,⟨λb o e=>?_,λb o e=>?_⟩,os,bare⟩
    .by_cases nb:b=tp
     .subst nb;rw[htp]at e;cases e;exact .inr (.inl ⟨tab.isCodeTable,rfl,#[],ps,rfl,by rw[hps];simp⟩)
     .exact .inl (old b o e nb)
    .by_cases nb:b=tp
     .subst nb;exact⟨_,hps⟩
     .exact ⟨o,old b o e nb⟩
 have tb:∀H:Hp,aF P w H s₁.heap tp (.nU pos qual):=λH=>⟨#[],htp,True.intro,λcv e=>by cases e⟩;cases hk:K.lookup a with
 |some o=>
  have e:=KX a o hk;rw[ha]at e;cases e;refine core (λb=>if b=tp then some (.nU pos qual) else none) (aYH rfl) (.inr ⟨_,vs.toArray,_,hk,rfl,rfl,rfl,by rw[aBb,LW];exact hl,by simpa using rv⟩) (λb u z=>?_) (λb z=>?_) λz=>absurd (aoK nat) z
  .by_cases hb:b=tp
   .have z':=(aYH hb).symm.trans z;cases z';subst hb;exact tb _
   .have z':=(aoK hb).symm.trans z;cases z'
  .by_cases hb:b=tp
   .exact .inl hb
   .exact absurd (aoK hb) z
 |none=>
  refine core (λb=>if b=tp then some (.nU pos qual) else if b=a then some (.cN { cls:=.type "list",data:=.seq vs.toArray } (.lst (ns.map V.int))) else none) (aYH rfl) (.inl (.inr ⟨{ cls:=.type "list",data:=.seq vs.toArray },(aoK nat).trans (aYH rfl)⟩)) (λb u z=>?_) (λb z=>?_) λ_=>hk
  .by_cases hb:b=tp
   .have z':=(aYH hb).symm.trans z;cases z';subst hb;exact tb _
   .have z':=(aoK hb).symm.trans z;by_cases hb2:b=a
    .have z2:=(aYH hb2).symm.trans z';cases z2;subst hb2;exact⟨ha,by rw[aW8];exact hl,vs,_,rv,ha⟩
    .have z2:=(aoK hb2).symm.trans z';cases z2
  .by_cases hb:b=tp
   .exact .inl hb
   .by_cases hb2:b=a
    .exact .inr ⟨hb2,_,_,(aoK hb).trans (aYH hb2)⟩
    .exact absurd (by show(if b=tp then _ else if b=a then _ else none)=none;rw[aoK hb,aoK hb2]) z
theorem Zjf{l:W.OpenLaw}{n k:Nat}{q:Program}{loose:List Str}{XP:(Str->Option Value)->Heap->Prop}{YP:World->Heap->Prop}{d:DefRec}{K:Params->W.Frag}{CX:World->yC}{sp:World->Sp}{x:Str}{tp:Addr}{pos:Pos}{qual:Str}{G:World->Prop}
  (hn:l.most=some n) (hn2:n<=sizeLine) (hdf:d.params.defaults=[]) (hr:bu k callerA)
  (hY:∀(w:World)(h:Heap),YP w h->(K w.params).In h/\h.get? tp=some { cls:=.none,data:=.fields #[] })
  (F:∀(w:World)(mg:Str->Option Value)(fa:Addr)(h:Heap),(K w.params).In h->h.Ns mainGlobals mg->mg d.name=some (.ref fa) ->
   G w/\(∃c0,W.codeHdIn (K w.params) c0 tp=true)/\(K w.params).lookup tp=none/\∃fd:FuncData,(∀(s:Shared)(u:Value),BindsTo s fd ⟨[u],[]⟩ [(x,u)]) /\
    ∀base:Heap,(K w.params).In base->base.Ns mainGlobals mg->BMod base mg->b9 l.prog w (K w.params) mg base (CX w) k fa fd [x] (sp w))
  (rX:∀(w:World)(H:Hp)(a:Addr)(ns:List Int),G w->ns.length<=n->H tp=some (.nU pos qual)->aB (K w.params) H a (ns.map V.int)->sp w [.ref a] H (λv _=>v=.bl true) λ_ _ _=>False)
  (MK:∀(w:World)(H:Hp)(s:Shared)(e:Value)(s':Shared),CX w [] H s (λ_ _ _=>False) e s'->False) :
  W.WalkO q loose XP YP l.row.toRowW d [] (λf vs=>PySem.call f vs):=by
 refine UR.qO hn hdf λw s₀ s₁ mg mb fa o pm cd doc a vs ns G' Y ho hd hcd hmg hobj hints hlen hg=>?_;obtain⟨KX,htp⟩:=hY w _ Y;obtain⟨g,⟨c0,hc⟩,hk,fd,hb,hF⟩:=F w mg fa _ KX G'.T.g hmg;have hbm:BMod s₁.heap mg:=by
  obtain⟨bm,ob,b1,b2,b3,b4,b5,b6⟩:=G'.T.bmain;refine⟨bm,ob,b1,b2,λz=>?_,b3,b4,b5,b6⟩;obtain⟨o,es,ep,e,hd',_⟩:=G'.T.g;rw[z,e]at b3;cases b3;rw[hd']at b6;cases b6
 exact ZhH KX G'.T.g G'.T.b G'.T.builtins G'.T.nolimit hg hobj hints (alM hlen hn2) hr htp hc hk hbm hF hb (λH hT hS=>rX w H a ns g hlen hT hS) λH e s'=>MK w H s₁ e s'
def af(K:W.Frag)(x:Str):Addr:=match W.nsIn K mainGlobals x with
 |some (some (.ref C))=>C
 |_=>0
def tabOf(K:W.Frag)(x m:Str):Addr:=match W.findIn K (.ref (af K x)) m with
 |some (some (.ref f))=>(match K.lookup f with
  |some ⟨_,_,.func fd,_⟩=>(match fd.code with
   | .ref c=>(match K.lookup c with
    |some ⟨_,_,.fields vs,_⟩=>(match(vs[11]?:Option Value) with
     |some (.ref P)=>P
     |_=>0)
    |_=>0)
   |_=>0)
  |_=>0)
 |_=>0
theorem Io{K:W.Frag}{x:Str}{C:Addr}(h:W.nsIn K mainGlobals x=some (some (.ref C))):af K x=C:=by
 unfold af;rw[h]
theorem Zjg{K:W.Frag}{x m:Str}{f c P:Addr}{oc:Value}{od:Option Addr}{fd:FuncData}{sl:Array (Option Value)}(h1:W.findIn K (.ref (af K x)) m=some (some (.ref f)))(h2:K.lookup f=some ⟨oc,od,.func fd,sl⟩)(h3:fd.code=.ref c)
  (h4:W.codeHdIn K c P=true):tabOf K x m=P:=by
 unfold W.codeHdIn at h4;split at h4
 .rename_i vs _ hk;simp only[aJO]at h4;obtain⟨⟨⟨⟨⟨e1,_⟩,_⟩,_⟩,_⟩,_⟩:=h4;split at e1
  .rename_i P' h11;have hP:P'=P:=aqt.mp e1;subst hP;unfold tabOf;simp only[h1,h2,h3,hk,h11]
  .cases e1
 .cases h4
end L2
namespace L2
open PySem PySem.F PyProof.Rows PySem.MeetsSeq
variable{K:W.Frag}{X:Cx}{pins:List Pin}{σ:St}{H:Hp}{s:Shared}
theorem Bg{e:PySem.Expr}{T:String}{r:V->List V->Hp->VK->Prop}{to:TE}{t:TA}(hK:X.K=K)(h:PE X e (Li X.K T r to t)):PE X e (Li K T r to t):=by
 subst hK;exact h
end L2
namespace L2
open PySem PySem.Calls PyProof.Rows PySem.MeetsSeq PySem.W
variable{K:W.Frag}{X:Cx}{pins:List Pin}{σ:St}{H:Hp}{s:Shared}
inductive qo(xs:List V)(H:Hp)(Q:VK):Prop
 |mk (d:Addr) (kvs:List (Key×V)) (ns:List Int):xs=[.ref d]->H d=some (.dK kvs)->kvs.map Prod.fst=ns.map Sum.inl->ns.length<64->(∀(D:Addr)(os:List Int),H D=none->os.Perm ns->os.Pairwise (·<=·)->Q (.ref D) (upd H D (.lst (os.map V.int))))->qo xs H Q
theorem RW:∀{xs:List V}{us:List Value},xs.length=us.length->(∀(i:Nat) x u,xs[i]?=some x->us[i]?=some u->RelV x u)->Vals xs us
 | [],[],_,_=>.nil
 | [],_ ::_,h,_=>nomatch h
 |_ ::_,[],h,_=>nomatch h
 |x ::xs,u ::us,h,k=>.cons (k 0 x u rfl rfl) (RW (by simpa using h) λi x' u' h1 h2=>k (i+1) x' u' (by simpa using h1) (by simpa using h2))
theorem Ra:∀{kvs:List (Key×V)}{vs:List (Key×Value)},KV kvs vs->∀{i:Nat}{p:Key×V}{q:Key×Value},kvs[i]?=some p->vs[i]?=some q->p.1=q.1
 |_,_,.nil,_,_,_,h,_=>nomatch h
 |_,_,.cons r t,0,_,_,h1,h2=>by cases h1;cases h2;exact r.1
 |_,_,.cons r t,i+1,_,_,h1,h2=>Ra (i:=i) t (by simpa using h1) (by simpa using h2)
theorem TF{P:Program}{w:World}{kvs:List (Key×V)}{vs:List (Key×Value)}{ns:List Int}{acc:Array Value}(r:KV kvs vs)(e:kvs.map Prod.fst=ns.map Sum.inl)(h:ItemsOf (λi v=>∃k x,vs[i]?=some (k,x)/\(Zw P w).is k v=true) acc vs.length):IntsAre acc.toList ns:=by
 have lv:kvs.length=vs.length:=avy r;have ln:kvs.length=ns.length:=by have:=aSc List.length e;simpa using this
 refine K0 (RW (by have l3:acc.toList.length=acc.size:=aTi;have l4:=h.1;rw[aW8];lia) λi x u hx hu=>?_);rw[a6R]at hu;obtain⟨k,y,h1,h2⟩:=h.2 i u hu;have hi:i<kvs.length:=by rw[lv];exact(azG.mp h1).1
 have e1:=Ra r (aEW hi) h1;have e2:(kvs.map Prod.fst)[i]?=some k:=by rw[aeb,aEW hi];exact aSc some e1
 rw[e,aeb]at e2;rw[aeb]at hx;cases g:ns[i]? with
 |none=>rw[g]at hx;cases hx
 |some z=>
  rw[g]at hx e2;cases hx;cases e2;exact Tf h2
theorem Uu(hc:X.calm=true):bA X (.builtin "sorted") qo:=by
 intro pins s σ H xs us Q I r h;obtain⟨d,kvs,ns,rfl,hd,hk,h64,q⟩:=h;obtain⟨u,rfl,rx⟩:=vals1 r;cases rx;obtain⟨hz,hs,vs,rv,hD⟩:=I.hok d _ hd;obtain⟨ep,hat⟩:=hD.dictAt;have hl:vs.length=ns.length:=by have l1:kvs.length=vs.length:=avy rv;have l2:=aSc List.length hk;simp at l2;lia
 refine apv kind_sorted plain_sorted entry_sorted (args_sorted1 _) ?_;unfold Builtin.«sorted»;refine agE (m:=checkCount "sorted" 1 1 _) (anq ?_);refine agE (kdu_collect (A:=X.A.in1) (kdl_dict (knd:=Zw X.prog X.w) (kvs:=vs) (ep:=ep) hs) (show X.A.in1.handled=none from I.ok.hd hc) hat (by rw[aXy];lia) λh' tk acc hk' hacc=>?_);have hI:=TF rv hk hacc;have la:acc.toList.length=ns.length:=by rw[aTi,hacc.1,hl]
 refine agE (aHN ?_ (by rw[la,aXy];lia));have lN:(h'.push (seqObj "list" acc.toList.toArray 0)).get? h'.objs.size=some (seqObj "list" acc.toList.toArray 0):=aIn _ rfl;have I1:=I.kept (t':=tk) hk';show wpAny _ _ _ _ _ { s with heap:=h'.push (seqObj "list" acc.toList.toArray 0),toks:=tk };refine agE (aMj (aMl slot_list_sort ⟨_,lN,rfl⟩ entry_list_sort (list_sort_tree lN hI (by lia) λout ns' a1 a2 a3=>⟨_,rfl,?_⟩) (args_list_sort _)));refine anq ⟨_,rfl,?_⟩;obtain⟨e,he⟩:=sortedHeap_at (out:=out) lN;have fr:H h'.objs.size=none:=I1.hok.fresh (apX _);have lo:=a2.length_eq;refine⟨.ref h'.objs.size,_,I1.laid (a:=h'.objs.size) (t':=tk) (o:=.lst (ns'.map V.int)) (λb o z=>?_) (apX _) ⟨by rw[aW8,lo,aXy];lia,out.toList,e,IC a1,he⟩,rfl,q _ ns' fr a2 a3⟩;have z':h'.get? b=some o:=z;have lt:=aNG z';rw[sortedHeap_old (amC lt) (by rw[size_push'];exact aO1 lt),ahB _ _ _ (amC lt)];exact z'
theorem ZO{C:Addr}{m:Str}{k:Nat}{ps:List Str}{sp:Sp}{o:PySem.Expr}{ta:TE}{apos pos:Pos}{pl:Sem Bool}(M:d7 X.prog X.w X.K X.mg X.base C m k ps sp)(hr:bu k X.A)(c:rJ X.K C)(he:PE X o ta)
  (ht:eval (.Call (.Attribute o m apos) [] [] pos) X.env=(do
   let ov <-eval o X.env
   standAt apos.atName
   let(f,first) <-holding [ov] (getMethod ov m pl)
   callWith pos f first (backTo pos (starEach [] X.env)) (backToKw pos (keywordEach [] X.env))):=by rfl) :
  PE X (.Call (.Attribute o m apos) [] [] pos) (sN C m sp [] E0 ta BB):=by
 obtain⟨f,fd,F,hm,hb⟩:=M;exact ZiM he c hm F hr hb .nil (λ_ _ _ _ _ _ _ z=>z.elim) ht
end L2
namespace L2
open PySem PySem.Calls PySem.Spec PyProof.Rows PySem.W
structure IV(K:W.Frag)(C:Addr)(m:Str)(f:Addr):Prop where
 ga:W.specialIn K (.ref C) "__getattribute__"=some (some (.builtin "type.__getattribute__"))
 rd:∃mc,W.readsIn K C mc=true/\W.findCls K (.ref C) mc m=some (.val (.ref f))
 kp:W.keepIn K (.ref f)=true
structure DF(P:Program)(w:World)(K:W.Frag)(mg:Str->Option Value)(base:Heap)(x m:Str)(k:Nat)(ps:List Str)(sp:Sp):Prop where
 ex:∃(C f:Addr)(fd:FuncData),b9 P w K mg base nR k f fd ps sp/\IV K C m f/\mg x=some (.ref C)/\Binds K fd ps []
section
variable{X:Cx}{x m:Str}{p pos apos:Pos}{e o:PySem.Expr}{es:List PySem.Expr}{ta:TE}{t:TA}{k:Nat}{ps:List Str}{sp:Sp}{C:Addr}
theorem Zkz{pl:Sem Bool}(M:DF X.prog X.w X.K X.mg X.base x m k ps sp)(hr:bu k X.A)(hg:Gl X x)(ha:PA X (e ::es) t)(hn:ya (e ::es):=by repeat' (first|exact True.intro|refine⟨?_,?_⟩))(hd:(x ==("__debug__":Str))=false:=by decide)
  (ht:eval (.Call (.Attribute (.Name x p) m apos) (e ::es) [] pos) X.env=(do
   let ov <-eval (.Name x p) X.env
   standAt apos.atName
   let(f,first) <-holding [ov] (getMethod ov m pl)
   callWith pos f first (backTo pos (starEach (e ::es) X.env)) (backToKw pos (keywordEach [] X.env))):=by rfl) :
  PE X (.Call (.Attribute (.Name x p) m apos) (e ::es) [] pos) (sO sp [] E0 t):=by
 obtain⟨C,f,fd,F,c,hm,hb⟩:=M.ex;obtain⟨mc,hr1,hr2⟩:=c.rd;intro pins s σ H Q I h;have he:PE X (.Name x p) (tC (.ref C)):=Zka (v:=.ref C) hg hm rfl hd;refine W.methodCall_KW (pl:=pl) (bS (he pins s σ H (λv H1=>v=.ref C/\H1=H) I ⟨rfl,rfl⟩) λu s1 ⟨x,H1,I1,rx,e1,e2⟩=>?_) ht;subst e1 e2;obtain rfl:u=Value.ref C:=rx;have I2:Inv X pins σ H1 { s1 with toks:=s1.toks+1 }:=I1.kept (t':=s1.toks+1) λb o e=>e;refine W.method_cls I1.dD c.ga (W.cls_value I1.dD hr1 hr2 rfl ?_);refine W.callWith_K (first:=[]) (h₀:=X.base) I.ok.mod.D5 c.kp (nT (ha pos pins _ σ H1 _ I2 h) λus s2 vs H2 I3 r q2=>⟨I3.dD,?_⟩) (vt hn.1) (C8 hn.2);exact Kc (us:=us) (vs:=vs) F hr hb .nil uc I3 r q2
end
theorem bu.m{j k:Nat}{A:Around}(r:bu k A)(h:j<=k:=by first|decide|lia):bu j A:=r.mono h
section
variable{X:Cx}{pos:Pos}
theorem bY(i:Nat){x:Str}(hN:X.N.Nodup)(hi:X.N[i]?=some x:=by rfl)(hx:Loc X.env.scope x:=by first|exact Or.inl rfl|exact Or.inr rfl)(hf:X.fn x=true\/X.env.scope.names.lookup x=some .local:=by first|exact .inl rfl|exact .inr rfl|assumption):PG X (.Name x pos) (fC i):=Zkb hN hi hx hf
theorem cK(i:Nat){x:Str}{e:PySem.Expr}{te:TE}{pos':Pos}(hN:X.N.Nodup)(he:PE X e te)(hi:X.N[i]?=some x:=by rfl)(hx:Loc X.env.scope x:=by first|exact Or.inl rfl|exact Or.inr rfl)(hs:swapsWith e (some (.Name x pos')) pos.line X.env=pure false:=by rfl)(hf:X.fn x=true\/X.env.scope.names.lookup x=some .local:=by first|exact .inl rfl|exact .inr rfl|assumption):PS X (.Assign [.Name x pos'] e pos) (uF te (fC i)):=Zlh hN hi hx he hs hf
end
end L2
namespace L2
open PySem PySem.Spec PyProof.Rows
theorem ZcH(l:Addr)(items:Array Value)(n:Nat)(dct:Option Addr)(sl:Array (Option Value)) :
  Meets (Builtin.«enumerate.__new__» ⟨[.type "enumerate",.ref l],[]⟩) (λ_ R s=>s.heap.get? l=some { cls:=.type "tuple",dict:=dct,data:=.seq items n,slots:=sl } /\
   R (.ok (.ret (.ref (s.heap.push { cls:=.type "tuple_iterator",data:=.fields #[.ref l,.int 0 0] }).objs.size)))
    { s with heap:=(s.heap.push { cls:=.type "tuple_iterator",data:=.fields #[.ref l,.int 0 0] }).push { cls:=.type "enumerate",data:=.fields #[.none,.bool false,.ref s.heap.objs.size,rawInt 0,.none,.none] } }):=
 .of_wp λprog w A R s h=>by
  obtain⟨hp,g,d,tk,os⟩:=s;obtain⟨hl,h⟩:=h;have hsub:=sub_enumerate;have hT:Heap.IsTuple (Shared.heap ⟨hp,g,d,tk,os⟩) l items:=⟨_,hl,rfl,n,rfl⟩
  wp_walk using aOV hl
  refine wpAny_stack_any λst=>anq ?_;split
  .rename_i c _ _ _ _ _;cases(c ==Value.type "enumerate") <;> (wp_walk using aOV hl,awE hT;exact⟨_,rfl,h⟩)
  .wp_walk using aOV hl,awE hT
   exact⟨_,rfl,h⟩
section
variable{prog:Program}{w:World}{A:Around}{E:Value->Shared->Prop}{s:Shared}
theorem Zdg{l:Addr}{items:Array Value}{Q:Value->Shared->Prop}(hL:s.heap.IsTuple l items)
  (h:∀h',IsEnum h' (s.heap.objs.size+1) s.heap.objs.size 0 .none->h'.IsTupleIter s.heap.objs.size l 0->(∀b o,s.heap.get? b=some o->h'.get? b=some o)->Q (.ref (s.heap.objs.size+1)) { s with heap:=h' }) :
  wpAny (model prog w) A (call (.type "enumerate") [.ref l]) Q E s:=by
 obtain⟨⟨c,dct,dt,sl⟩,hl,hc,n,hd⟩:=hL;have hc:c=.type "tuple":=hc;have hd:dt=.seq items n:=hd;subst hc hd;refine callType_new F.called_enumerate (by decide) (F.typeCall_enumerate_1 _) (F.newCall_enumerate_1 _) (λobj=>F.args_object_init_2 obj _) F.entry_enumerate_new (ZcH l items n dct sl) ⟨hl,?_⟩;have hz:(s.heap.push { cls:=.type "tuple_iterator",data:=.fields #[.ref l,.int 0 0] }).objs.size=s.heap.objs.size+1:=aTQ ..;show _/\_;rw[hz];have he:IsEnum ((s.heap.push { cls:=.type "tuple_iterator",data:=.fields #[.ref l,.int 0 0] }).push { cls:=.type "enumerate",data:=.fields #[.none,.bool false,.ref s.heap.objs.size,rawInt 0,.none,.none] }) (s.heap.objs.size+1) s.heap.objs.size 0 .none:=by
  have q:=aIn (s.heap.push { cls:=.type "tuple_iterator",data:=.fields #[.ref l,.int 0 0] }) (o:={ cls:=.type "enumerate",data:=.fields #[.none,.bool false,.ref s.heap.objs.size,rawInt 0,.none,.none] }) rfl;rw[hz]at q;exact q
 exact⟨⟨_,he,rfl⟩,h _ he ⟨_,a8G _ (aIn _ rfl),rfl,rfl⟩ λb o x=>a8G _ (a8G _ x)⟩
end
theorem Tz{prog:Program}{w:World}{A:Around}(hh:A.handled=none)(it l:Addr)(hne:l≠it)(items:Array Value) :
  Draws prog w A it [it,l] items.size (λi v=>items[i]?=some v) (λi h=>h.IsTupleIter it l i/\h.IsTuple l items) where
 live:=λ_ _ st=>let⟨o,ho,_⟩:=st.1;⟨o,ho⟩
 frame:=λ_ _ _ st hk=>⟨st.1.at λo e=>hk it (by simp) o e,by obtain⟨o,e,r⟩:=st.2;exact⟨o,hk l (by simp) o e,r⟩⟩
 item:=λi s Q E hi st hQ=>Uw st.1 st.2 (x:=items[i]) (by simp[hi]) λh' MB hs'=>hQ _ h' s.toks (by simp[hi]) ⟨MB,st.2.extBut hs'.extBut hne⟩ hs'
 done:=λs Q E st hE=>Uv hh st.1 st.2 (by simp) hE
def yd(K:W.Frag)(a:Addr):It:=
 ⟨λi H=>∃xs x,aX K H a xs/\xs[i]?=some x,
 λi H v H'=>∃t x,H t=none/\v=.ref t/\H'=upd H t (.tup [.int i,x])/\∀xs,aX K H a xs->xs[i]?=some x,
 λi H=>∃xs,aX K H a xs/\xs.length=i⟩
theorem ZgK{P:Program}{w:World}{K:W.Frag}{elts:List PySem.Expr}{x1}{pos:Pos}(e it a:Addr)(hei:e≠it)(MF:a≠e)(hai:a≠it) :
  Turn P w K (.Tuple elts x1 pos) (yd K a) [e,it] e (λi h=>(∃old,IsEnum h e it i old)/\h.IsTupleIter it a i) where
 mem:=by simp
 obj:=λi h st c hc=>by
  obtain⟨⟨old,he⟩,h1⟩:=st;simp only[a6r,auY,a4R]at hc;rcases hc with rfl|rfl
  .exact ⟨_,he,λv z=>by cases z⟩
  .exact Ez h1
 keep:=λi h h' st k=>by
  obtain⟨⟨old,he⟩,h1⟩:=st;exact⟨⟨old,k e (by simp) _ he⟩,h1.at λo q=>k it (by simp) o q⟩
 item:=by
  intro X hP hw hK hc i pins s σ H E I hf st hg;subst hP hw hK;obtain⟨xs,x,hq,hx⟩:=hg;obtain⟨⟨old,he⟩,h1⟩:=st;obtain⟨its,rv,p,hz⟩:=I.tuple hq;obtain⟨u,hu,ru⟩:=rv.get hx;have hlt:i<its.toArray.size:=by
   have:=(azG.mp hu).1;simpa using this
  refine wpAny_pyNext_enum_itemD (Tz (A:=X.A.in1) (show X.A.in1.handled=none from I.ok.hd hc) it a hai its.toArray) he ⟨h1,p⟩ hlt hei (by simp[hei,avX MF]) λv h' tk hP ho hs' hT hsz hk=>?_;have zw:v=u:=by
   have z:its[i]?=some v:=by simpa using hP
   rw[hu]at z;exact(aDb z).symm
  subst zw;refine⟨.ref s.heap.objs.size,rfl,?_⟩;refine wpAny_letOwnedTupleGo_enum ho λh2 MD tS=>?_;have helt:e<s.heap.objs.size:=aNG he;have kk:∀c o,c∉[e,it]->s.heap.get? c=some o->h2.get? c=some o:=λc o hc q=>by
   simp only[a6r,auY,a4R,aDQ]at hc;exact(tS.2 c hc.1).trans (hk c o hc.1 hc.2 q)
  have tp:h2.get? s.heap.objs.size=some { cls:=.type "tuple",data:=.seq #[.int i tk,v] }:=(tS.2 _ (aA9 helt)).trans hT;have I1:Inv X pins σ (upd H s.heap.objs.size (.tup [.int i,x])) { s with heap:=h2,toks:=tk+1 }:=
   I.oV hf kk ⟨by show 2<=sizeLine;decide,[.int i tk,v],.cons ⟨tk,rfl⟩ (.cons ru .nil),⟨_,tp,rfl,_,rfl⟩⟩
  refine⟨.ref s.heap.objs.size,_,I1,rfl,⟨s.heap.objs.size,x,I.hok.fresh (apX _),rfl,rfl,λys hy=>by rw[I.fF hy hq];exact hx⟩,⟨⟨v,by simpa using MD⟩,hs'.1.at λo q=>(tS.2 _ (avX hei)).trans q⟩,λc hc=>?_⟩;have hlt':c<s.heap.objs.size:=by
   simp only[a6r,auY,a4R]at hc;rcases hc with rfl|rfl
   .exact helt
   .obtain ⟨o,q,_⟩:=h1;exact aNG q
  rw[Zc (amC hlt')];exact(hf c hc).1
 done:=by
  intro X hP hw hK hc i pins s σ H E I hf st hg;subst hP hw hK;obtain⟨xs,hq,hx⟩:=hg;obtain⟨⟨old,he⟩,h1⟩:=st;obtain⟨its,rv,p,hz⟩:=I.tuple hq;have hl:=rv.length;have ei:i=its.toArray.size:=by simp;lia
  subst ei;refine wpAny_pyNext_enum_endD (Tz (A:=X.A.in1) (show X.A.in1.handled=none from I.ok.hd hc) it a hai its.toArray) he ⟨h1,p⟩ λh' hx'=>⟨rfl,?_⟩;refine I.gr (t':=s.toks) hf λc o hc q=>?_;simp only[a6r,auY,a4R,aDQ]at hc;exact hx' c o hc.2 q
 self:=λ_ _ _ _ _ st h=>by
  obtain⟨⟨old,he⟩,_⟩:=st;exact apP he h
section
variable{X:Cx}
def ZlD(K:W.Frag)(ta:TA):TI:=λσ H R=>ta σ H λvs H1=>∃a,vs=[.ref a]/\(∃xs,aX K H1 a xs)/\R (yd K a) H1
theorem Zjh{elts:List PySem.Expr}{x1}{tpos:Pos}{a:PySem.Expr}{ta:TA}{p pos:Pos}(hg:Gl X "enumerate")(hm:X.mg "enumerate"=none)(ha:PA X [a] ta)(hs:starEach [a] X.env=[(false,eval a X.env)]:=by rfl) :
  PI X (.Tuple elts x1 tpos) (.Call (.Name "enumerate" p) [a] [] pos) (ZlD X.K ta):=by
 intro pins s σ H R I h;refine Call_ (sf I hg hm Ur (a5z (nT (ha pos pins s σ H _ I h) λus s1 vs H1 I1 r1 q1=>?_) hs rfl));obtain⟨l,e,⟨xs,hq⟩,q⟩:=q1;subst e;cases r1 with
 |cons r rr=>
  cases rr;cases r;obtain⟨its,rv,pl,hz⟩:=I1.tuple hq;have ue:l<s1.heap.objs.size:=by obtain⟨o,e,_⟩:=pl;exact aNG e
  refine Zdg pl λh' he hi hk=>?_;refine apP he ?_;refine⟨s1.heap.objs.size+1,[s1.heap.objs.size+1,s1.heap.objs.size],_,_,H1,rfl,I1.kept (t':=s1.toks) hk,ZgK (s1.heap.objs.size+1) s1.heap.objs.size l (Nat.succ_ne_self _) (nG (.inl (aO1 ue))) (amC ue),⟨⟨_,he⟩,hi⟩,λc hc=>?_,q⟩;have hc':s1.heap.objs.size<=c:=by
   simp only[a6r,auY,a4R]at hc;rcases hc with rfl|rfl <;> lia
  exact I1.oY hc' (I1.hok.fresh hc')
end
theorem ZhJ{K:W.Frag}{a:Addr}{xs:List V}{g:TG}{tb:TS}{D:Ends}{σ:St}{H:Hp}(Pv:Nat->St->Hp->Prop)(h0:Pv 0 σ H)(hl:∀i σ H,i<=xs.length->Pv i σ H->aX K H a xs)
  (hs:∀i x t σ H,xs[i]?=some x->Pv i σ H->H t=none->g (.ref t) σ (upd H t (.tup [.int i,x])) λσ2 H2=>tb { D with nx:=Pv (i+1),ct:=Pv (i+1),bk:=D.nx } σ2 H2) (hd:∀ σ H,Pv xs.length σ H->D.nx σ H) :
  ∃W:Nat->Nat->St->Hp->Prop,(∃m,W 0 m σ H)/\∀i m σ H,W i m σ H ->
   ((yd K a).stop i H/\D.nx σ H)\/((yd K a).go i H/\∃N:St->Hp->Prop,(∀ σ' H',N σ' H'->∃m',m'<m/\W (i+1) m' σ' H')/\∀x H',(yd K a).rL i H x H'->g x σ H' λσ2 H2=>tb { D with nx:=N,ct:=N,bk:=D.nx } σ2 H2):=by
 refine⟨λi m σ H=>m=xs.length-i/\i<=xs.length/\Pv i σ H,⟨xs.length,by simp,abf _,h0⟩,?_⟩;rintro i m σ H ⟨rfl,hi,p⟩;have q:=hl i σ H hi p;by_cases hlt:i<xs.length
 .refine .inr ⟨⟨xs,xs[i],q,by simp[hlt]⟩,Pv (i+1),λσ' H' p'=>⟨xs.length-(i+1),by lia,rfl,hlt,p'⟩,λx H' y=>?_⟩;obtain⟨t,u,ht,rfl,rfl,y⟩:=y;exact hs i u t σ _ (y xs q) p ht
 .have e:i=xs.length:=by lia
  subst e;exact .inl ⟨⟨xs,q,rfl⟩,hd σ H p⟩
end L2
namespace L2
open PySem PySem.Calls PyProof.Rows PySem.MeetsSeq PySem.W PySem.Spec
def Up(xs:Array Nat):Prop:=∀i j,i<j->(h:j<xs.size)->xs.getD i 0<xs.getD j 0
theorem N3(xs:Array Nat)(j:Nat):∀(f lo hi:Nat),hi-lo<=f->lo<=hi->hi<=xs.size->(∀i,i<lo->xs.getD i 0<j)->(∀i,hi<=i->i<xs.size->¬xs.getD i 0<j)->Up xs ->
  SetTable.below.go xs j f lo hi<=xs.size/\(∀i,i<SetTable.below.go xs j f lo hi->xs.getD i 0<j)/\∀i,SetTable.below.go xs j f lo hi<=i->i<xs.size->¬xs.getD i 0<j
 |0,lo,hi,h1,h2,h3,a,b,u=>by
  unfold SetTable.below.go;have e:lo=hi:=by lia
  subst e;exact⟨h3,a,b⟩
 |f+1,lo,hi,h1,h2,h3,a,b,u=>by
  unfold SetTable.below.go;by_cases c:lo<hi
  .rw [aYH c];have m1:(lo+hi)/2<hi:=by lia
   have m2:lo<=(lo+hi)/2:=by lia
   have ms:(lo+hi)/2<xs.size:=by lia
   have eD:xs.getD ((lo+hi)/2) j=xs.getD ((lo+hi)/2) 0:=by simp[Array.getD,ms]
   dsimp only;rw[eD];by_cases d:xs.getD ((lo+hi)/2) 0<j
   .rw [aYH d];refine N3 xs j f _ _ (by lia) (by lia) h3 (λi hi'=>?_) b u;by_cases e:i=(lo+hi)/2
    .rw [e];exact d
    .exact aHq (u i _ (by lia) ms) d
   .rw [aoK d];refine N3 xs j f _ _ (by lia) m2 (by lia) a (λi h4 h5=>?_) u;by_cases e:i=(lo+hi)/2
    .rw [e];exact d
    .have:=u _ i (by lia:(lo+hi)/2<i) h5;lia
  .rw [aoK c];have e:lo=hi:=by lia
   subst e;exact⟨h3,a,b⟩
theorem N2{xs:Array Nat}(j:Nat)(u:Up xs):SetTable.below xs j<=xs.size/\(∀i,i<SetTable.below xs j->xs.getD i 0<j)/\∀i,SetTable.below xs j<=i->i<xs.size->¬xs.getD i 0<j:=
 N3 xs j xs.size 0 xs.size (by lia) (abf _) (apX _) (λi h=>by lia) (λi h h'=>by lia) u
theorem Uq{xs:List Nat}(h:xs.Pairwise (·<·)):Up xs.toArray:=λi j hij hj=>by
 have hj':j<xs.length:=by simpa using hj
 have hi':i<xs.length:=by lia
 have:=(a5j.mp h) i j hi' hj' hij;simpa[Array.getD,hi',hj']using this
theorem ZcI{xs:Array Nat}(u:Up xs):xs.toList.Pairwise (·<·):=by
 rw[pairwise_iff_getElem];intro i j hi hj hij;have h1:i<xs.size:=by simpa using hi
 have h2:j<xs.size:=by simpa using hj
 have:=u i j hij h2;simpa[Array.getD,h1,h2]using this
theorem Zdj{α:Type}(xs:Array α)(p:Nat)(x:α)(h:p<=xs.size):(SetTable.insertAt xs p x).toList=xs.toList.take p++x ::xs.toList.drop p:=by
 unfold SetTable.insertAt;simp[a4t,List.extract_eq_drop_take];have:xs.size-p=(xs.toList.drop p).length:=by simp
 rw[this,a9F]
theorem ZhK{xs:Array Nat}{j:Nat}(u:Up xs)(hn:xs[SetTable.below xs j]?≠some j):Up (SetTable.insertAt xs (SetTable.below xs j) j):=by
 obtain⟨a,b,c⟩:=N2 j u;have hl:=Zdj xs (SetTable.below xs j) j a;have hp:=ZcI u;generalize hq:SetTable.below xs j=p at *;have e:SetTable.insertAt xs p j=(xs.toList.take p++j ::xs.toList.drop p).toArray:=by rw[<-hl]
 rw[e];refine Uq ?_;rw[pairwise_append];refine⟨hp.sublist (List.take_sublist _ _),?_,?_⟩
 .rw [pairwise_cons];refine⟨λy hy=>?_,hp.sublist (drop_sublist _ _)⟩;obtain⟨i,hi,rfl⟩:=aHz.mp hy;rw[getElem_drop];have hi':p+i<xs.size:=by simp at hi;lia
  have h1:=c (p+i) (by lia) hi';have e1:xs.getD (p+i) 0=xs[p+i]:=by simp[Array.getD,hi']
  rw[e1]at h1;show j<xs.toList[p+i];rw[aL6];rcases Nat.lt_or_ge j xs[p+i]with h|h
  .exact h
  .exfalso;have e2:xs[p+i]=j:=by lia
   by_cases h0:i=0
   .subst h0;exact hn (by rw[aTl (show p<xs.size by lia)];exact aSc some e2)
   .have h3:=u p (p+i) (by lia) hi';have h4:=c p (apX _) (by lia);rw[e1]at h3;lia
 .intro y hy z hz;obtain⟨i,hi,rfl⟩:=aHz.mp hy;rw[getElem_take];have XQ:i<p:=by simp at hi;lia
  have his:i<xs.size:=by lia
  have h1:=b i XQ;have e1:xs.getD i 0=xs[i]:=by simp[Array.getD,his]
  rw[e1]at h1;rw[aL6];rcases aCP.mp hz with rfl|hz
  .exact h1
  .obtain ⟨k,hk,rfl⟩:=aHz.mp hz;rw[getElem_drop];have hk':p+k<xs.size:=by simp at hk;lia
   have:=u i (p+k) (by lia) hk';rw[e1]at this;have e3:xs.getD (p+k) 0=xs[p+k]:=by simp[Array.getD,hk']
   rw[e3]at this;rw[aL6];exact this
def zQ(t:SetTable):Prop:=Up t.place/\t.dummies=#[]
theorem Zji(n:Nat):Up (Array.range n):=λi j hij hj=>by
 have hj':j<n:=by simpa using hj
 have hi':i<n:=by lia
 simpa[Array.getD,hi',hj']using hij
theorem KJ(t:SetTable)(n:Nat):zQ (t.standIn n):=⟨Zji n,rfl⟩
theorem S9(t:SetTable)(f:Nat->Int)(h:Int)(hd:t.dummies=#[]):∀(fu:Nat)(p:SetTable.Probe),p.dummy=none->∀j d,SetTable.probe.go t f h fu p=some (.empty j d)->d=none/\t.place[SetTable.below t.place j]?≠some j
 |0,p,h0,j,d,e=>by simp[SetTable.probe.go]at e
 |fu+1,p,h0,j,d,e=>by
  unfold SetTable.probe.go at e;have ha:∀q:SetTable.Probe,q.dummy=none->(t.advance q).dummy=none:=λq hq=>by
   unfold SetTable.advance;split
   .exact hq
   .exact hq
  cases hs:t.slot p.j with
  |empty=>
   rw[hs]at e;simp only[Option.some.injEq,SetTable.Met.empty.injEq]at e;obtain⟨rfl,rfl⟩:=e;refine⟨h0,λz=>?_⟩;unfold SetTable.slot at hs;simp[z]at hs
  |dummy=>
   exfalso;unfold SetTable.slot at hs;dsimp only at hs;split at hs
   .cases hs
   .rw [hd]at hs;simp[SetTable.has]at hs
  |live i=>
   rw[hs]at e;dsimp only at e;split at e
   .cases e
   .exact S9 t f h hd fu _ (ha p h0) j d e
theorem ZkA{t:SetTable}(r:zQ t)(es:Array (Int×Value))(h:Int)(x:Value):zQ (layNew t es h x).2.1/\(layNew t es h x).2.1.led=t.led:=by
 unfold layNew;cases hf:t.freeSlot h with
 |none=>exact⟨KJ _ _,rfl⟩
 |some q=>
  obtain⟨slot,was⟩:=q;dsimp only;have key:zQ (t.put slot).1/\(t.put slot).1.led=t.led:=by
   refine⟨⟨?_,?_⟩,rfl⟩
   .refine ZhK r.1 ?_;unfold SetTable.freeSlot SetTable.probe at hf;cases hg:SetTable.probe.go t (λ_=>h+1) h (10*SetTable.turns t.mask) (t.probeStart h) with
    |none=>rw[hg]at hf;cases hf
    |some m=>
     rw[hg]at hf;cases m with
     |candidate a b c=>cases hf
     |empty j d=>
      obtain⟨rfl,hn⟩:=S9 t _ h r.2 _ _ rfl j d hg;dsimp only at hf;simp at hf;obtain⟨rfl,_⟩:=hf;exact hn
   .show (if SetTable.has t.dummies slot=true then _ else t.dummies)=#[];rw[r.2];simp[SetTable.has]
  unfold SetTable.orStandIn;split
  .exact key
  .exact ⟨KJ _ _,key.2⟩
theorem ZhL{t:SetTable}(r:zQ t)(es:Array (Int×Value))(n:Nat):zQ (relayAll t es n).2.1/\(relayAll t es n).2.1.led=t.led:=by
 unfold relayAll;cases hl:t.relaid (es.map (·.1)) n with
 |none=>exact⟨KJ _ _,rfl⟩
 |some q=>
  obtain⟨t',order⟩:=q;dsimp only;have key:zQ t'/\t'.led=t.led:=by
   unfold SetTable.relaid SetTable.laid at hl;cases ho:SetTable.layClean (SetTable.sizeAbove n-1) (es.map (·.1)) with
   |none=>rw[ho]at hl;cases hl
   |some owner=>
    rw[ho]at hl;have e:=(Prod.mk.inj (aDb hl)).1;rw[<-e];refine⟨⟨?_,rfl⟩,rfl⟩;refine Uq ?_;rw[pairwise_map,List.pairwise_filterMap];refine List.Pairwise.imp ?_ List.pairwise_lt_range;intro a b hab c hc d hd;simp only[Option.map_eq_some_iff]at hc hd;obtain⟨_,_,rfl⟩:=hc;obtain⟨_,_,rfl⟩:=hd;exact hab
  split
  .exact key
  .exact ⟨KJ _ _,rfl⟩
theorem RV{α:Type}(f:Nat->Nat):∀(n k:Nat)(left:List α)(out:Array α),left.length=n->(pickOrder.go f n k left out).toList.Perm (out.toList++left)
 |0,k,left,out,h=>by
  have:left=[]:=aiA h;subst this;simp[pickOrder.go]
 |n+1,k,left,out,h=>by
  unfold pickOrder.go;have hm:f k%left.length<left.length:=Nat.mod_lt _ (by lia);rw[aEW hm];dsimp only;refine(RV f n (k+1) _ _ (by rw[List.length_eraseIdx,aYH hm];lia)).trans ?_;rw[a2o,azO];refine List.Perm.append_left _ ?_;show(left[f k%left.length] ::left.eraseIdx (f k%left.length)).Perm left;generalize f k%left.length=i at hm ⊢;have e:left.take i++left[i] ::left.drop (i+1)=left:=by rw[<-aFS hm,aAI]
  rw[List.eraseIdx_eq_take_drop_succ];exact List.perm_middle.symm.trans (aiW e)
theorem ZhN{α:Type}(f:Nat->Nat)(xs:Array α):(pickOrder f xs).toList.Perm xs.toList:=by
 have:=RV f xs.size 0 xs.toList #[] (by simp);simpa[pickOrder]using this
def j4:Int×Value->Int:=λe=>match e.2 with| .int k _=>k|_=>0
structure iu(P:Program)(w:World)(o:Obj)(es:Array (Int×Value))(ep:Nat)(t:SetTable):Prop where
 ex:o.ExactSet
 dat:o.data=.set es ep t
 el:ElemsOf (intKind P w) es.toList
 nd:(es.toList.map j4).Nodup
 fit:t.fits es.size=true
 Lv:zQ t
 led:w.params.followText "set-order"=true\/t.led=true
 lit:es.size<scanBound
section
variable{P:Program}{w:World}{A:Around}{E:Value->Shared->Prop}{s:Shared}{a:Addr}{o:Obj}{es:Array (Int×Value)}{ep:Nat}{t:SetTable}
theorem Q9{e:Int×Value}{k:Int}(h:(intKind P w).is k e.2=true):j4 e=k:=by
 obtain⟨tk,q⟩:=Value.isInt_shape (show Value.isInt k e.2=true from h);unfold j4;rw[q]
theorem Q8{e:Int×Value}(h:(∃k,(intKind P w).is k e.2=true/\e.1=(intKind P w).hash k)/\e.2.scannable=true):(intKind P w).is (j4 e) e.2=true:=by
 obtain⟨⟨k,q,_⟩,_⟩:=h;rw[Q9 q];exact q
theorem iu.store(ho:s.heap.get? a=some o)(hx:o.ExactSet)(hd:o.data=.set es ep t){es':Array (Int×Value)}{t':SetTable}(el:ElemsOf (intKind P w) es'.toList)(nd:(es'.toList.map j4).Nodup)(f:t'.fits es'.size=true)(r:zQ t')
  (l:w.params.followText "set-order"=true\/t'.led=true) (b:es'.size<scanBound) :
  (s.heap.update a (Obj.putSet es' t')).get? a=some { o with data:=.set es' (ep+1) t' }/\iu P w { o with data:=.set es' (ep+1) t' } es' (ep+1) t':=
 ⟨(SetOf_store (knd:=intKind P w) (S':=λk=>decide (∃e∈es'.toList,(intKind P w).is k e.2=true)) ho hx hd el (λk=>by simp) b f).1,⟨hx,rfl,el,nd,f,r,l,b⟩⟩
theorem Nd{k:Int}{tk:Tok}{Q:Bool->Shared->Prop}(ho:s.heap.get? a=some o)(g:iu P w o es ep t)(hr:es.size+1<scanBound)
  (h:∀b h' o' es' CN t',Heap.SameBut a s.heap h'->h'.get? a=some o'->iu P w o' es' CN t'->es'.size<=es.size+1->(∀k',k'∈es'.toList.map j4↔k'∈es.toList.map j4\/k'=k)->Q b { s with heap:=h' }) :
  wpAny (model P w) A (setAddHashed a (.int k tk) ((intKind P w).hash k)) Q E s:=by
 have hk:(intKind P w).is k (.int k tk)=true:=intKind_is _ _ _ _;have sc:(Value.int k tk).scannable=true:=rfl;unfold setAddHashed setAddHashedIn;refine aMj (agE (aYJ ho g.dat g.fit ?_));dsimp only;rw[byScan_of sc g.lit g.el,aYH rfl];unfold setAddByScan;refine agE (agE (aiy (agE (wpAny_setScan_of hk ho g.dat g.fit g.el ?_))));cases hf:List.findIdx? (λe=>(intKind P w).is k e.2) es.toList with
 |some j=>
  refine anq (anq ?_);obtain⟨hj,pj,_⟩:=List.findIdx?_eq_some_iff_getElem.mp hf;have hm:k∈es.toList.map j4:=a34.mpr ⟨_,adU hj,Q9 pj⟩;exact h _ s.heap o es ep t (Heap.SameBut.refl a s.heap) ho g (az7 _) λk'=>⟨.inl,λz=>z.elim id λe=>e ▸hm⟩
 |none=>
  dsimp only;have hno:k∉es.toList.map j4:=λz=>by
   obtain⟨e,he,q⟩:=a34.mp z;have:=List.findIdx?_eq_none_iff.mp hf e he;rw[<-q,Q8 (g.el e he)]at this;cases this
  have hp:=layNew_perm t es ((intKind P w).hash k) (.int k tk);have hfit:=layNew_fits t es ((intKind P w).hash k) (.int k tk);have xx:=ZkA g.Lv es ((intKind P w).hash k) (.int k tk);generalize layNew t es ((intKind P w).hash k) (.int k tk)=L at hp hfit xx ⊢;obtain⟨es1,t1,was,Ye⟩:=L;dsimp only at hp hfit xx ⊢;rw[a2o]at hp;have QB:ElemsOf (intKind P w) es1.toList:=(g.el.push hk sc).perm hp;have mp:=hp.map j4;rw[aK6,aSM,map_nil,show j4 ((intKind P w).hash k,Value.int k tk)=k from rfl]at mp;have Pf:(es1.toList.map j4).Nodup:=mp.nodup_iff.mpr (by
   rw[List.nodup_append];exact⟨g.nd,by simp,λx hx y hy e=>hno (by rw[mem_singleton]at hy;rw[<-hy,<-e];exact hx)⟩)
  have sz1:es1.size=es.size+1:=by rw[<-aTi,hp.length_eq,aE0,aTi];rfl
  have l1:w.params.followText "set-order"=true\/t1.led=true:=g.led.imp id λz=>by rw[xx.2];exact z
  have qD:∀k',k'∈es1.toList.map j4↔k'∈es.toList.map j4\/k'=k:=λk'=>by rw[mp.mem_iff];simp
  have gw:∀(b:Bool){s₁:Shared}{Q':Unit->Shared->Prop},Q' () s₁->wpAny (model P w) A (match b with|true=>rule "set.scan.the-table-gave-way" |false=>pure ()) Q' E s₁:=λb s₁ Q' hq=>by
   cases b
   .exact anq hq
   .exact aiy hq
  refine agE (gw _ ?_);have pl:hashByValue 8 (.int k tk)=pure true:=hashByValue_scannable 8 sc;have fin:∀(X:Sem (Option Bool)),X=(do storeSet a es1 t1;(if(!was && t1.tooFull)=true then do (match(relayAll t1 es1 (SetTable.grown es1.size)).2.2 with|true=>rule "set.scan.the-table-gave-way" |false=>pure ());storeSet a (relayAll t1 es1 (SetTable.grown es1.size)).1 (relayAll t1 es1 (SetTable.grown es1.size)).2.1;pure (some true) else pure (some true))) ->
    wpAny (model P w) A X (λr s'=>wpAny (model P w) A (match r with|some added=>pure added|none=>setAddHashedIn a (.int k tk) ((intKind P w).hash k) 99999) Q E s') E s:=by
   rintro X rfl;refine agE (wpAny_storeSet_of ho g.dat ?_ (axK (by lia)));obtain⟨Eb,g1⟩:=iu.store (P:=P) (w:=w) (s:=s) ho g.ex g.dat QB Pf hfit xx.1 l1 (by lia);have uH:=a5r s.heap a (Obj.putSet es1 t1);split
   .have hp2:=relayAll_perm t1 es1 (SetTable.grown es1.size);have hf2:=relayAll_fits t1 es1 (SetTable.grown es1.size);have hr2:=ZhL xx.1 es1 (SetTable.grown es1.size);generalize relayAll t1 es1 (SetTable.grown es1.size)=L2 at hp2 hf2 hr2 ⊢;obtain⟨Yu,t2,Qh⟩:=L2;dsimp only at hp2 hf2 hr2 ⊢;have Jp:Yu.size=es1.size:=by rw[<-aTi,hp2.length_eq,aTi]
    refine agE (gw _ (agE (wpAny_storeSet_of Eb rfl (anq ?_) (axK (by lia)))));obtain⟨ho2,g2⟩:=iu.store (P:=P) (w:=w) (s:={ s with heap:=s.heap.update a (Obj.putSet es1 t1) }) Eb g.ex rfl (QB.perm hp2) ((hp2.map j4).nodup_iff.mpr Pf) hf2 hr2.1 (l1.imp id λz=>by rw[hr2.2];exact z) (by lia);exact anq (h _ _ _ _ _ _ (uH.trans (a5r _ a _)) ho2 g2 (by lia) λk'=>(hp2.map j4).mem_iff.trans (qD k'))
   .exact anq (anq (h _ _ _ _ _ _ uH Eb g1 (by lia) qD))
  split
  .refine agE ?_;rw[pl];refine anq ?_;rw[aYH rfl];exact fin _ rfl
  .refine agE (anq ?_);rw[aYH rfl];exact fin _ rfl
end
def i8(P:Program)(w:World)(h:Heap)(a:Addr)(ns:List Int):Prop:=∃o es ep t,h.get? a=some o/\iu P w o es ep t/\es.size<=ns.length/\∀k,k∈es.toList.map j4↔k∈ns
theorem i8.at{P:Program}{w:World}{h h':Heap}{a:Addr}{ns:List Int}(x:i8 P w h a ns)(k:∀o,h.get? a=some o->h'.get? a=some o):i8 P w h' a ns:=by
 obtain⟨o,es,ep,t,ho,r⟩:=x;exact⟨o,es,ep,t,k o ho,r⟩
section
variable{P:Program}{w:World}{A:Around}{R:Result->Shared->Prop}{I:Addr}{fp wr:List Addr}{G:Array GenState->Array GenState->Prop}{St:Nat->Shared->Prop}{ns:List Int}{Pv:Nat->Value->Prop}
theorem Gp(W:WalksS P w A.in1 I fp wr G ns.length Pv St)(S:Addr)(hS:S∉fp)(hv:∀i v,Pv i v->∃t,v=.int (ns.getD i 0) t)(hb:ns.length+1<scanBound) :
  ∀(k i:Nat)(s:Shared),ns.length-i=k->i<=ns.length->St i s->i8 P w s.heap S (ns.take i) ->
   (∀s',Moved (S ::wr) G s s'->i8 P w s'.heap S ns->R (.ok (.ret .none)) s') ->
   codeAny (model P w) A (.builtin "set.update.loop" ⟨[.ref S,.ref I],[]⟩) R s:=by
 have sw:S∉wr:=λh=>hS (W.sub _ h);have up:∀b∈wr,b∈S ::wr:=λb h=>aO5 _ h;intro k
 induction k with
 |zero=>
  intro i s hk hi st g hR;obtain rfl:i=ns.length:=by lia
  refine a1p F.entry_set_update_loop ?_;rw[aAg F.plain_set_update_loop _];show wpAny _ A.in1 (pyNext (.ref I) >>=_) _ _ s;refine agE (W.done s _ _ st λs' m=>?_);show wpAny _ A.in1 (ret Value.none) _ _ s';rw[a9F]at g;exact anq (hR s' (m.mono up) (g.at λo e=>m.heap S o sw e))
 |succ k ih=>
  intro i s hk hi st g hR;have lt:i<ns.length:=by lia
  refine a1p F.entry_set_update_loop ?_;rw[aAg F.plain_set_update_loop _];show wpAny _ A.in1 (pyNext (.ref I) >>=_) _ _ s;refine agE (W.item i s _ _ lt st λv s' hP st' m=>?_);obtain⟨t,rfl⟩:=hv i v hP;obtain⟨o,es,ep,tb,ho,g',sz,mem⟩:=g.at (h':=s'.heap) λo e=>m.heap S o sw e;have sz':es.size<=i:=by rw[a1R]at sz;lia
  show wpAny _ A.in1 (holding [Value.int (ns.getD i 0) t] (setAdd S (.int (ns.getD i 0) t)) >>=_) _ _ s';refine agE (aMj ?_);unfold setAdd;refine aMj (agE ((intKind P w).pyHash (k:=ns.getD i 0) (intKind_is _ _ _ _) ?_));refine Nd (s:={ s' with toks:=s'.toks+1 }) ho g' (by lia) λb h' o' es' CN t' sb ho' g2 Jp Ci=>?_;have et:ns.take (i+1)=ns.take i++[ns.getD i 0]:=by rw[List.take_succ_eq_append_getElem lt];simp[List.getD,lt]
  have gi:i8 P w h' S (ns.take (i+1)):=⟨o',es',CN,t',ho',g2,by rw[a1R];lia,λk'=>by rw[Ci k',mem k',et];simp⟩;refine anq ⟨plainId_quiet F.plain_set_update_loop _,ih (i+1) _ (by lia) lt (W.frame _ s' _ _ st' (az7 _) λb hb o e=>?_) gi λs'' Xc gs=>?_⟩
  .rw [sb.2 b (λh:b=S=>hS (h ▸hb))];exact e
  .refine hR s'' (Moved.trans W.gtrans ((m.mono up).then_heap (az7 _) λb o hb e=>?_) Xc) gs;rw[sb.2 b (λh:b=S=>hb (h ▸aAX))];exact e
end
section
variable{P:Program}{w:World}{A:Around}{E:Value->Shared->Prop}{s:Shared}
theorem qz(a:Value){Q:Value->Shared->Prop}(h:∀led:Bool,(w.params.followText "set-order"=true\/led=true)->Q (.ref s.heap.objs.size) { s with heap:=s.heap.push { cls:=.type "set",dict:=none,data:=.set #[] 0 (.fresh 0 0 led) } }) :
  codeAny (model P w) A (.call (.builtin "set.__new__") ⟨[.type "set",a],[]⟩) (wants Q E) s:=by
 refine codeAny_of_tree ?_;show wpAny _ A.in1 (checkBuiltinCall "set.__new__" ⟨[.type "set",a],[]⟩ >>= λ_=>again (.builtin "set.__new__" ⟨[.type "set",a],[]⟩)) _ _ s;refine agE (wpAny_of_eq (F.newCall_set_1 a) (anq ⟨plainId_quiet F.plain_set_new _,a1p F.entry_set_new ?_⟩));rw[aAg F.plain_set_new _];unfold Builtin.«set.__new__» Builtin.Frozenset.newClass;have hsub:=sub_set_self;obtain⟨hp,g,d,tk,os⟩:=s;dsimp only
 wp_walk
 refine aXX (anq ?_);dsimp only;simp only[newObj];refine agE (wpAny_alloc (anq (anq (h _ ?_))));cases e:w.params.followText "set-order"
 .exact .inr (by show(!(w.params.followText "set-order"))=true;rw[e];rfl)
 .exact .inl rfl
theorem HF{l:Addr}{items:Array Value}{ns:List Int}{Q:Value->Shared->Prop}(hh:A.handled=none)(hl:s.heap.IsList l items)(hi:IntsAre items.toList ns)(hb:ns.length+1<scanBound)
  (h:∀(h':Heap)(tk:Nat),i8 P w h' s.heap.objs.size ns->(∀b o,b<s.heap.objs.size->s.heap.get? b=some o->h'.get? b=some o)->Q (.ref s.heap.objs.size) { s with heap:=h',toks:=tk }) :
  wpAny (model P w) A (call (.type "set") [.ref l]) Q E s:=by
 obtain⟨c,tl,XJ⟩:=aJv.mro;have hmade:=aJv.made;have hsub:=aJv.sub;refine wpAny_call (codeAny_of_tree ?_);show wpAny _ _ (callAny (.type "set") _) _ _ _;refine anq ⟨Code.quiet_builtin _ (by decide +kernel),a1p F.entry_type_call ?_⟩;rw[Around.under_plain (weight_type_call_type "set" [.ref l] []) rfl];have h1:=aJv.notType;have h2:=aJv.canCreate;have hct:=F.typeCall_set_1 (.ref l)
 (repeat (any_goals (first|assumption|wp_step)))
 refine aWj (qz (.ref l) (E:=E) (Q:=λobj s₁=>∃led:Bool,(w.params.followText "set-order"=true\/led=true)/\obj=.ref s.heap.objs.size/\s₁={ s with heap:=s.heap.push { cls:=.type "set",dict:=none,data:=.set #[] 0 (.fresh 0 0 led) } }) λled z=>⟨led,z,rfl,rfl⟩) λr s₁ hr=>?_;cases r with
 |error e=>exact hr
 |ok fl=>
  cases fl with
  |ret obj=>
   obtain⟨led,Mx,rfl,rfl⟩:=hr;generalize ez:({ cls:=.type "set",dict:=none,data:=.set #[] 0 (.fresh 0 0 led) }:Obj)=z;have hS:(s.heap.push z).get? s.heap.objs.size=some z:=aIn _ (by rw[<-ez];rfl);have hT:Shared.TypeIs { s with heap:=s.heap.push z } (.ref s.heap.objs.size) "set":=⟨_,hS,by rw[<-ez]⟩;have g0:i8 P w (s.heap.push z) s.heap.objs.size []:=⟨z,#[],0,.fresh 0 0 led,hS,⟨by rw[<-ez];exact⟨rfl,rfl,rfl⟩,by rw[<-ez],λe he=>by simp at he,by simp,rfl,⟨λi j _ hj=>by simp[SetTable.fresh]at hj,rfl⟩,Mx,by decide⟩,apX _,λk=>by simp⟩;have hli:=aJv.init.lookup;have hbi:=aJv.init.bind (.ref s.heap.objs.size)
   (repeat (any_goals (first|assumption|wp_step)))
   refine aWj (codeAny_call_builtin (R:=wants (λr s₂=>r=.none/\∃h' tk,s₂={ s with heap:=h',toks:=tk }/\i8 P w h' s.heap.objs.size ns/\∀b o,b<s.heap.objs.size->s.heap.get? b=some o->h'.get? b=some o) E) aJv.init.plain F.entry_set_init (check_set_init_1 hT ?_)) λr₂ s₂ xw=>?_
   .obtain ⟨ol,PM,hcl,nl,hdl⟩:=hl;obtain⟨Wv,OZ,O0,LC⟩:=ol;simp only at hcl hdl;subst hcl;subst hdl;have Mr:=a8G z PM;have Xz:=F.sub_list_set;have XA:=F.sub_list_frozenset;have hne:(Value.type "list"==Value.type "dict")=false:=(by decide);have hl1:(s.heap.push z).IsList l items:=⟨_,Mr,rfl,nl,rfl⟩;subst ez;unfold Builtin.«set.__init__» noKeywords Builtin.Frozenset.updateFrom;generalize X7:pyIter=PI
    wp_walk
    subst X7;refine wpAny_pyIter_list hl1 ?_;refine agE (wpAny_runValue ?_);generalize ez:({ cls:=.type "set",dict:=none,data:=.set #[] 0 (.fresh 0 0 led) }:Obj)=z at *;have lS:l<s.heap.objs.size:=aNG PM;have h3:A.in1.in1.in1.handled=none:=by simp[hh]
    have sz:(s.heap.push z).objs.size=s.heap.objs.size+1:=aTQ _ _;have nI:l≠(s.heap.push z).objs.size:=by rw[sz];exact amC (aO1 lS)
    have hSf:s.heap.objs.size∉[(s.heap.push z).objs.size,l]:=by
     rw[sz];simp only[a6r,auY,a4R,aDQ];exact⟨amC (aqJ _),aA9 lS⟩
    have hv:∀(i:Nat)(v:Value),items[i]?=some v->∃t,v=.int (ns.getD i 0) t:=λi v q=>IntsAre.int_at hi i v (by rw[a6R];exact q);have ln:items.size=ns.length:=by rw[<-aTi];exact IntsAre.length hi
    have W:=(Walks.list (prog:=P) (w:=w) h3 _ l nI items).toS;rw[ln]at W;refine Gp W s.heap.objs.size hSf hv hb (ns.length-0) 0 _ (by lia) (abf _) ⟨⟨_,aIn _ rfl,rfl,rfl⟩,hl1.push _⟩ (g0.at λo e=>a8G _ e) λs' m gs=>?_;rw[Moved.eq_with m];refine anq ?_;show wpAny _ _ (ret Value.none) _ _ _;refine anq ⟨rfl,s'.heap,s'.toks,rfl,gs,λb o hb' e=>?_⟩;refine m.heap b o ?_ (a8G _ (a8G _ e));rw[sz];simp only[a6r,auY,a4R,aDQ];exact⟨amC hb',amC (aO1 hb')⟩
   .cases r₂ with
    |error e=>exact xw
    |ok Ht=>
     cases Ht with
     |ret r=>
      obtain⟨rfl,h',tk,rfl,gs,hk⟩:=xw
      (repeat (any_goals (first|assumption|wp_step)))
      exact h _ _ gs hk
     |_=>exact xw.elim
  |_=>exact hr.elim
end
theorem ZcJ:entryFor table "set.__iter__"=some Builtin.«frozenset.__iter__»:=entryFor_alias (id':="frozenset.__iter__") (by kernel_rfl) rfl (by decide +kernel) (by kernel_rfl)
theorem S8:Manifest.owners.lookup (String.ofList ['r','o','t','a','r','e','t','i','_','t','e','s'].reverse)=some Manifest.sig_set_iterator:=by kernel_rfl
theorem bB:Slot "set_iterator" "__next__" "set_iterator.__next__":=.of (owner:="set_iterator") (n:="__next__") (by rw[typeLookup_type,builtinLookup_eq_fast];kernel_rfl) (by decide +kernel) (by decide +kernel) (by decide +kernel) (.inl (by decide +kernel)) (by rw[isSubtype_type];kernel_rfl)
theorem Uk:entryFor table "set_iterator.__next__"=some Builtin.«set_iterator.__next__»:=entryFor_of_tree (by kernel_rfl)
theorem Ut(a:Value):argsOk "set_iterator.__next__" ⟨[a],[]⟩:=by unfold argsOk;rw[signature?_of (id:="set_iterator.__next__") (n:=['_','_','t','x','e','n','_','_']) (o:=['r','o','t','a','r','e','t','i','_','t','e','s']) (by kernel_rfl) S8];kernel_rfl
theorem Us:Slot "set_iterator" "__iter__" "set_iterator.__iter__":=.of (owner:="set_iterator") (n:="__iter__") (by rw[typeLookup_type,builtinLookup_eq_fast];kernel_rfl) (by decide +kernel) (by decide +kernel) (by decide +kernel) (.inl (by decide +kernel)) (by rw[isSubtype_type];kernel_rfl)
theorem Zdk:entryFor table "set_iterator.__iter__"=some Builtin.«dict_keyiterator.__iter__»:=entryFor_alias (id':="dict_keyiterator.__iter__") (by kernel_rfl) rfl (by decide +kernel) (by kernel_rfl)
theorem Zen(a:Value):argsOk "set_iterator.__iter__" ⟨[a],[]⟩:=by unfold argsOk;rw[signature?_of (id:="set_iterator.__iter__") (n:=['_','_','r','e','t','i','_','_']) (o:=['r','o','t','a','r','e','t','i','_','t','e','s']) (by kernel_rfl) S8];kernel_rfl
theorem ZlE:typeLookup (.type "set") "__len__"=pure (some (.builtin "set.__len__")):=F.slot_set_len.lookup
section
variable{P:Program}{w:World}{A:Around}{E:Value->Shared->Prop}{s:Shared}{a:Addr}{o:Obj}{es:Array (Int×Value)}{ep:Nat}{t:SetTable}
theorem ZgL{src:Source}{n:Nat}{Q:Nat->Shared->Prop}(hn:n≠0)(h:∀i d,i<n->Q i { s with drawn:=d }):wpAny (model P w) A (choose src n) Q E s:=
 λΓ p hΓ=>⟨hn,h _ _ (Nat.mod_lt _ (Nat.pos_of_ne_zero hn))⟩
theorem RU{α:Type}:∀(n:Nat)(xs:List α)(s:Shared)(Q:List α->Shared->Prop),xs.length=n->(∀ys d,ys.Perm xs->Q ys { s with drawn:=d })->wpAny (model P w) A (drawOrder n xs) Q E s
 |0,xs,s,Q,h,k=>by
  have:xs=[]:=aiA h;subst this;unfold drawOrder;exact anq (k [] s.drawn .nil)
 |n+1,[],s,Q,h,k=>nomatch h
 |n+1,x ::xs,s,Q,h,k=>by
  unfold drawOrder;refine agE (ZgL (by simp) λi d hi=>?_);rw[aEW hi];dsimp only;refine agE (RU n _ _ _ (by rw[List.length_eraseIdx,aYH hi,h];rfl) λys d' hp=>anq (k _ d' ?_));have e:(x ::xs).take i++(x ::xs)[i] ::(x ::xs).drop (i+1)=x ::xs:=by rw[<-aFS hi,aAI]
  refine(hp.cons _).trans ?_;rw[List.eraseIdx_eq_take_drop_succ];exact List.perm_middle.symm.trans (aiW e)
def zk(first:Value)(i n ep:Nat)(a:Addr):Obj:={ cls:=.type "set_iterator",dict:=none,data:=.fields #[first,.int i 0,.ref a,.int n 0,.int ep 0],slots:=#[] }
def Nq(t:SetTable):Nat->Nat|0=>0|i+1=>t.place.getD i 0+1
theorem S7{t:SetTable}(u:Up t.place):∀i,i<=t.place.size->SetTable.below t.place (Nq t i)=i
 |0,h=>by
  obtain⟨h1,h2,h3⟩:=N2 0 u;rcases Nat.eq_zero_or_pos (SetTable.below t.place 0) with e|e
  .exact e
  .exact absurd (h2 0 e) (a1g _)
 |i+1,h=>by
  obtain⟨h1,h2,h3⟩:=N2 (t.place.getD i 0+1) u;show SetTable.below t.place (t.place.getD i 0+1)=i+1;generalize SetTable.below t.place (t.place.getD i 0+1)=b at h1 h2 h3 ⊢;rcases Nat.lt_trichotomy b (i+1) with q|q|q
  .exact absurd (aqJ _) (h3 i (by lia) (by lia))
  .exact q
  .have z1:=h2 (i+1) q;have z2:=u i (i+1) (aqJ _) (by lia);lia
inductive Way (w:World) (a:Addr) (es:Array (Int×Value)) (ep:Nat) (t:SetTable) (h:Heap):List (Int×Value)->Nat->Value->Prop
 |text {i j:Nat} (e:w.params.followText "set-order"=true):Way w a es ep t h (pickOrder (w.params.setOrder a ep) es).toList i (.int j 0)
 |place {i:Nat} (e:w.params.followText "set-order"=false) (d:(!t.plain && decide (es.size>1))=false):Way w a es ep t h es.toList i (.int (Nq t i:Nat) 0)
 |draw {i:Nat} {tp:Addr} {ot:Obj} {c:Nat} {ix:List Nat} (e:h.get? tp=some ot) (d:ot.data=.seq (ix.map λ(k:Nat)=>(Value.int k 0)).toArray c) (pm:ix.Perm (List.range es.size)):Way w a es ep t h (ix.filterMap λk=>es[k]?) i (.ref tp)
theorem NL{I:Addr}{first:Value}{i n:Nat}(h:s.heap.get? I=some (zk first i n ep a)):s.TypeIs (.ref I) "set_iterator":=⟨_,h,rfl⟩
end
section
variable{P:Program}{w:World}{A:Around}{E:Value->Shared->Prop}{s:Shared}{a:Addr}{o:Obj}{es:Array (Int×Value)}{ep:Nat}{t:SetTable}
theorem Tw{j i:Nat}{Q:Option (Value×Nat)->Shared->Prop}(ha:s.heap.get? a=some o)(g:iu P w o es ep t)(e:w.params.followText "set-order"=true)(h:Q (((pickOrder (w.params.setOrder a ep) es)[i]?).map λe=>(e.2,j)) s) :
  wpAny (model P w) A (setNext a j i ep) Q E s:=by
 unfold setNext setsByText;refine agE (aYJ ha g.dat g.fit ?_);dsimp only;refine agE (agE (aXX (anq ?_)));dsimp only;rw[show(model P w).w.params.followText "set-order"=true from e,aYH rfl,aoK (by simp)];unfold setWalk setsByText;refine agE (agE (aYJ ha g.dat g.fit ?_));dsimp only;refine agE (agE (aXX (anq ?_)));dsimp only;rw[show(model P w).w.params.followText "set-order"=true from e,aYH rfl];refine agE (aXX (anq (anq ?_)));exact h
theorem Ue{j i:Nat}{Q:Option (Value×Nat)->Shared->Prop}(ha:s.heap.get? a=some o)(g:iu P w o es ep t)(e:w.params.followText "set-order"=false)(d:(!t.plain && decide (es.size>1))=false)
  (h:Q (match es[SetTable.below t.place j]?,t.place[SetTable.below t.place j]? with|some (_,x),some j=>some (x,j+1)|_,_=>none) s):wpAny (model P w) A (setNext a j i ep) Q E s:=by
 have hl:t.led=true:=g.led.elim (λz=>by rw[e]at z;cases z) id;unfold setNext setsByText;refine agE (aYJ ha g.dat g.fit ?_);dsimp only;refine agE (agE (aXX (anq ?_)));dsimp only;rw[show(model P w).w.params.followText "set-order"=false from e,aoK (by decide)];show wpAny _ _ (if(!t.plain && decide (es.size>1))=true then _ else _) _ _ _;rw[d,aoK (by decide)];refine agE ?_;show wpAny _ _ (if(!t.led && !es.isEmpty)=true then unsupported _ else pure ()) _ _ _;rw[hl,aoK (by simp)];exact anq (anq h)
theorem ZeO{I:Addr}{h h':Heap}(x:Heap.SameBut I h h'){b:Addr}(hb:b≠I):h'.get? b=h.get? b:=x.2 b hb
theorem ZkB{I:Addr}{out:List (Int×Value)}{first:Value}{i:Nat}{e:Int×Value}{Q:Option Value->Shared->Prop}(hI:s.heap.get? I=some (zk first i es.size ep a))(ha:s.heap.get? a=some o)(g:iu P w o es ep t)(y:Way w a es ep t s.heap out i first)(he:out[i]?=some e)
  (hQ:∀h' f',Heap.SameBut I s.heap h'->h'.get? I=some (zk f' (i+1) es.size ep a)->Way w a es ep t h' out (i+1) f'->(∀tp,f'=.ref tp->first=.ref tp)->Q (some e.2) { s with heap:=h' }):wpAny (model P w) A (pyNext (.ref I)) Q E s:=by
 have T:=NL hI;unfold pyNext;refine agE (afl (aml (name:=Str.ofString "__next__") T bB (aMl bB T Uk ?_ (Ut _))));unfold Builtin.«set_iterator.__next__»;refine agE (anq ?_);refine agE (wpAny_fieldsOf hI rfl ?_);show wpAny _ _ (setEntries a >>=_) _ _ s;refine agE (wpAny_setEntries_of ha g.dat g.fit ?_);dsimp only;rw[aoK (by simp)];have two:∀(x:Nat),wpAny (model P w) A.in1 (do setField (.ref I) 0 (rawInt x);setField (.ref I) 1 (rawInt ((i:Int)+1));ret e.2) (λfin s'=>∃v,fin=Fin.done (Flow.ret v)/\∃h',v=e.2/\Heap.SameBut I s.heap h'/\h'.get? I=some (zk (.int x 0) (i+1) es.size ep a)/\s'={ s with heap:=h' }) (λ_ _=>False) s:=λx=>by
  refine agE (aoW hI (by simp) λh1 e1 uH=>?_);refine agE (aoW e1 (by simp) λh2 e2 tS=>?_);exact anq ⟨_,rfl,h2,rfl,uH.trans tS,e2,rfl⟩
 cases y with
 |text eT=>
  rename_i j;refine agE (Tw ha g eT ?_);simp only[a2i];rw[<-a6R,he];refine aEC (two (Int.toNat (j:Int))) (λfin s' z=>?_) λ_ _ z=>z.elim;obtain⟨v,rfl,h',rfl,sb,gi,rfl⟩:=z;exact⟨_,rfl,anq (hQ h' _ sb gi (.text eT) λ_ e=>nomatch e)⟩
 |place eT d=>
  have hsz:t.place.size=es.size:=by have:=g.fit;simp[SetTable.fits]at this;exact this.1
  have hi:i<es.size:=by have:=(azG.mp he).1;simpa using this
  refine agE (Ue ha g eT d ?_);simp only[a2i];rw[S7 g.Lv.1 i (by lia)];rw[a6R]at he;rw[he,aTl (show i<t.place.size by lia)];have ep:t.place[i]'(by lia)=t.place.getD i 0:=by simp[Array.getD,show i<t.place.size by lia]
  refine aEC (two (t.place[i]'(by lia)+1)) (λfin s' z=>?_) λ_ _ z=>z.elim;obtain⟨v,rfl,h',rfl,sb,gi,rfl⟩:=z;refine⟨_,rfl,anq (hQ h' _ sb gi ?_ λ_ e=>nomatch e)⟩;rw[ep];exact .place (i:=i+1) eT d
 |draw et dt pm=>
  rename_i tp ot c ix;have nI:tp≠I:=λz=>by
   rw[z,hI]at et;have:=aDb et;rw[<-this]at dt;exact nomatch dt
  have full:∀(l:List Nat),(∀k∈l,k<es.size)->∀(i:Nat)(e:Int×Value),(l.filterMap λk=>es[k]?)[i]?=some e->∃k:Nat,l[i]?=some k/\es[k]?=some e:=by
   intro l
   induction l with
   |nil=>intro _ i e z;simp at z
   |cons q l ih=>
    intro hq i e z;have hq':q<es.size:=hq q (by simp);rw[List.filterMap_cons_some (aTl hq')]at z;cases i with
    |zero=>exact⟨q,rfl,by rw[aTl hq'];simpa using z⟩
    |succ i=>exact ih (λk hk=>hq k (by simp[hk])) i e (by simpa using z)
  obtain⟨k,hk,XU⟩:=full ix (λk hk=>by have:=pm.mem_iff.mp hk;simpa using this) i e he;refine agE (a4J et dt ?_);have hx:((ix.map λ(k:Nat)=>(Value.int k 0)).toArray)[Int.toNat (i:Int)]?=some (.int k 0):=by
   rw[show(Int.toNat (i:Int))=i from rfl];simp[hk]
  dsimp only;rw[hx];dsimp only;unfold setNextDrawn;refine agE (agE (aYJ ha g.dat g.fit ?_));dsimp only;rw[aoK (by simp),show(Int.toNat (k:Int))=k from rfl,XU];refine anq ?_;refine agE (aoW hI (by simp) λh1 e1 uH=>anq ⟨_,rfl,anq (hQ h1 _ uH e1 ?_ λ_ e=>e)⟩);exact .draw (by rw[ZeO uH nI];exact et) dt pm
end
section
variable{P:Program}{w:World}{A:Around}{E:Value->Shared->Prop}{s:Shared}{a:Addr}{o:Obj}{es:Array (Int×Value)}{ep:Nat}{t:SetTable}
theorem Fv{α:Type}{Q:α->Shared->Prop}(hh:A.handled=none)(h:∀h' e,(∀b o,s.heap.get? b=some o->h'.get? b=some o)->Shared.TypeIs { s with heap:=h' } e "StopIteration" ->E e { s with heap:=h' }) :
  wpAny (model P w) A (newExc (.type "StopIteration") [] >>= λe=>(raiseNew e:Sem α)) Q E s:=by
 refine agE ?_;simp only[newExc,newTuple];refine agE (aiJ ?_ (by size_fits));refine agE (m:=firstArgMember _ _) (wpAny_of_eq (a:=Value.none) (by first|rfl|(simp only[firstArgMember];rfl)) ?_);refine aiJ (wpAny_raiseNew_none hh (h _ _ (λb o e=>a8G _ (a8G _ e)) ⟨_,aIn _ rfl,rfl⟩)) (by size_fits)
theorem NK{h:Heap}{out:List (Int×Value)}{i:Nat}{f:Value}(y:Way w a es ep t h out i f):out.Perm es.toList:=by
 cases y with
 |text _=>exact ZhN _ _
 |place _ _=>exact .refl _
 |draw _ _ pm=>
  rename_i tp ot c ix et dt;refine(pm.filterMap _).trans (aiW ?_);refine bbg λi=>?_;have key:∀(n:Nat),n<=es.size->((List.range n).filterMap λk=>es[k]?)=es.toList.take n:=by
   intro n
   induction n with
   |zero=>intro _;simp
   |succ n ih=>
    intro hn;rw[List.range_succ,List.filterMap_append,ih (by lia),List.take_succ_eq_append_getElem (show n<es.toList.length by rw[aTi];lia)];rw[List.filterMap_cons_some (aTl (show n<es.size by lia))];simp
  rw[key es.size (apX _),<-aTi,a9F]
theorem ZkC{I:Addr}{out:List (Int×Value)}{first:Value}{Q:Option Value->Shared->Prop}(hh:A.handled=none)(hI:s.heap.get? I=some (zk first es.size es.size ep a))(ha:s.heap.get? a=some o)(g:iu P w o es ep t)(y:Way w a es ep t s.heap out es.size first)
  (hQ:∀h',(∀b o,b≠I->s.heap.get? b=some o->h'.get? b=some o)->Q none { s with heap:=h' }):wpAny (model P w) A (pyNext (.ref I)) Q E s:=by
 have T:=NL hI;have lo:out.length=es.size:=by rw[(NK y).length_eq,aTi]
 unfold pyNext;refine agE (afl (aml (name:=Str.ofString "__next__") T bB (aMl bB T Uk ?_ (Ut _))));unfold Builtin.«set_iterator.__next__»;refine agE (anq ?_);refine agE (wpAny_fieldsOf hI rfl ?_);show wpAny _ _ (setEntries a >>=_) _ _ s;refine agE (wpAny_setEntries_of ha g.dat g.fit ?_);dsimp only;rw[aoK (by simp)];have h1:A.in1.handled=none:=by simp[hh]
 have fin:∀(s1:Shared),(∀b o,b≠I->s.heap.get? b=some o->s1.heap.get? b=some o)->s1={ s with heap:=s1.heap }->wpAny (model P w) A.in1 (newExc (.type "StopIteration") [] >>= λe=>(raiseNew e:Sem PySem.Fin))
   (λfin s'=>∃v,fin=Fin.done (Flow.ret v)/\wpAny (model P w) A (pure (some v)) Q E s') (λe s'=>wpAny (model P w) A (do let r <-isInstance e (Value.type "StopIteration");if r=true then pure none else throw e) Q E s') s1:=λs1 k1 e1=>by
  refine Fv h1 λh' e k T'=>?_;refine agE (wpAny_isInstance (b:=true) T' isSubtype_stop ?_);rw[aYH rfl];have:=hQ h' λb o hb z=>k b o (k1 b o hb z);rw[e1];exact anq this
 cases y with
 |text eT=>
  rename_i j;refine agE (Tw ha g eT ?_);simp only[a2i];rw[<-a6R,ax8 (by lia)];refine agE (aoW hI (by simp) λh1 e1 uH=>fin _ (λb o hb z=>(uH.2 b hb).trans z) rfl)
 |place eT d=>
  have hsz:t.place.size=es.size:=by have:=g.fit;simp[SetTable.fits]at this;exact this.1
  refine agE (Ue ha g eT d ?_);simp only[a2i];rw[S7 g.Lv.1 es.size (by lia),a3i (apX _)];refine agE (aoW hI (by simp) λh1 e1 uH=>fin _ (λb o hb z=>(uH.2 b hb).trans z) rfl)
 |draw et dt pm=>
  rename_i tp ot c ix;have li:ix.length=es.size:=by rw[pm.length_eq,aPc]
  refine agE (a4J et dt ?_);have hx:((ix.map λ(k:Nat)=>(Value.int k 0)).toArray)[Int.toNat (es.size:Int)]?=none:=by
   rw[a2i,a3i (by simp[li])]
  dsimp only;rw[hx];refine agE (aoW hI (by simp) λh1 e1 uH=>?_);refine agE (aoW e1 (by simp) λh2 e2 tS=>fin _ (λb o hb z=>(tS.2 b hb).trans ((uH.2 b hb).trans z)) rfl)
theorem GK{Q:Value->Shared->Prop}(ha:s.heap.get? a=some o)(g:iu P w o es ep t)
  (hQ:∀h' d I first out,(∀b o,s.heap.get? b=some o->h'.get? b=some o)->s.heap.get? I=none->h'.get? I=some (zk first 0 es.size ep a)->Way w a es ep t h' out 0 first->(∀tp,first=.ref tp->s.heap.get? tp=none/\tp≠I)->Q (.ref I) { s with heap:=h',drawn:=d }) :
  wpAny (model P w) A (pyIter (.ref a)) Q E s:=by
 have T:s.TypeIs (.ref a) "set":=⟨o,ha,g.ex.1⟩;refine wpAny_pyIter_slot T F.slot_set_iter (aMl F.slot_set_iter T ZcJ ?_ (F.args_set_iter_1 _));unfold Builtin.«frozenset.__iter__» Builtin.Frozenset.slot0 Builtin.Frozenset.sizeOf setDrawn setsByText;refine agE (agE (anq (anq ?_)));refine agE (agE (wpAny_setEntries_of ha g.dat g.fit (anq ?_)));refine agE (agE (aYJ ha g.dat g.fit ?_));dsimp only;refine agE (agE (aXX (anq ?_)));dsimp only;refine anq ?_;have fin:∀(s1:Shared)(first:Value)(out:List (Int×Value)),(∀b o,s.heap.get? b=some o->s1.heap.get? b=some o)->(∃d,s1={ s with heap:=s1.heap,drawn:=d })->Way w a es ep t s1.heap out 0 first->(∀tp,first=.ref tp->s.heap.get? tp=none)->s.heap.objs.size<=s1.heap.objs.size ->
   wpAny (model P w) A.in1 (do let e <-setEpoch a;let r <-newFields "set_iterator" [first,rawInt 0,Value.ref a,rawInt es.size,rawInt e];ret r) (λfin s'=>∃v,fin=Fin.done (Flow.ret v)/\∃T' r,s'.TypeIs v T'/\typeLookup (Value.type T') (Str.ofString "__next__")=pure (some r)/\Q v s') E s1:=λs1 first out k e1 y ft le=>by
  obtain⟨d,e1⟩:=e1;refine agE (wpAny_setEpoch_of (k _ _ ha) g.dat g.fit ?_);refine agE (aiJ ?_ (by size_fits));have hI:(s1.heap.push (zk first 0 es.size ep a)).get? s1.heap.objs.size=some (zk first 0 es.size ep a):=aIn _ rfl;refine anq ⟨_,rfl,"set_iterator",_,⟨_,hI,rfl⟩,bB.lookup,?_⟩;have hn:s.heap.get? s1.heap.objs.size=none:=by
   cases z:s.heap.get? s1.heap.objs.size with
   |none=>rfl
   |some q=>exact absurd (aNG z) (Nat.not_lt.mpr le)
  rw[e1];refine hQ _ d _ first out (λb o z=>a8G _ (k b o z)) hn hI ?_ λtp e=>⟨ft tp e,λz=>?_⟩
  .cases y with
   |text q=>exact .text q
   |place q r=>exact .place (i:=0) q r
   |draw q r pm=>exact .draw (a8G _ q) r pm
  .subst e;cases y with
   |draw q r pm=>exact absurd (aNG q) (by rw[z];exact aZG _)
 split
 .refine agE (RU es.size _ _ _ (by simp) λys d hp=>?_);refine agE (aiJ ?_ (show(List.map (λi:Nat=>rawInt (i:Int)) ys).toArray.size<=sizeLine by have:=hp.length_eq;simp at this;simp only[aBb,aW8];exact axK (by rw[this];exact g.lit)));refine fin _ (.ref s.heap.objs.size) (ys.filterMap λk=>es[k]?) (λb o z=>a8G _ z) ⟨d,rfl⟩ (.draw (aIn _ rfl) rfl hp) (λtp e=>?_) (by rw[aTQ];exact az7 _);cases e;cases z:s.heap.get? s.heap.objs.size with
  |none=>rfl
  |some q=>exact absurd (aNG z) (aZG _)
 .rename_i hc;refine agE (anq ?_);cases eT:w.params.followText "set-order" with
  |true=>exact fin s (.int (0:Nat) 0) _ (λ_ _ z=>z) ⟨s.drawn,rfl⟩ (.text eT) (λ_ e=>nomatch e) (apX _)
  |false=>
   refine fin s (.int (Nq t 0:Nat) 0) _ (λ_ _ z=>z) ⟨s.drawn,rfl⟩ (.place (i:=0) eT ?_) (λ_ e=>nomatch e) (apX _);have hc':¬((!(w.params.followText "set-order") && (!t.plain && decide (es.size>1)))=true):=hc;rw[eT]at hc';simpa using hc'
end
section
variable{P:Program}{w:World}{A:Around}{E:Value->Shared->Prop}{s:Shared}{a:Addr}{o:Obj}{es:Array (Int×Value)}{ep:Nat}{t:SetTable}
theorem EJ(hh:A.handled=none){I:Addr}{out:List (Int×Value)}{rest:List Addr}(g:iu P w o es ep t)(po:out.length=es.size)(hne:a≠I) :
  WalksS P w A I (I ::a ::rest) [I] (λx y=>y=x) es.size (λi v=>∃e,out[i]?=some e/\v=e.2) (λi s=>s.heap.get? a=some o/\∃f,s.heap.get? I=some (zk f i es.size ep a)/\Way w a es ep t s.heap out i f/\∀tp,f=.ref tp->tp∈rest/\tp≠I) where
 sub:=λc hc=>by simp at hc;simp[hc]
 grefl:=λ_=>rfl
 gtrans:=λx y z h1 h2=>by rw[h2,h1]
 frame:=λi s h' tk st _ k=>by
  obtain⟨ha,f,hI,y,hf⟩:=st;refine⟨k a (by simp) _ ha,f,k I (by simp) _ hI,?_,hf⟩;cases y with
  |text q=>exact .text q
  |place q r=>exact .place q r
  |draw q r pm=>exact .draw (k _ (by simp[(hf _ rfl).1]) _ q) r pm
 item:=λi s Q E hi st hQ=>by
  obtain⟨ha,f,hI,y,hf⟩:=st;have he:out[i]?=some (out[i]'(by lia)):=aEW (by lia);refine ZkB hI ha g y he λh' f' sb gI y' yf=>hQ _ _ ⟨_,he,rfl⟩ ⟨by rw[sb.2 a hne];exact ha,f',gI,y',λtp e=>hf tp (yf tp e)⟩ ⟨λb o hb z=>(sb.2 b (λq=>hb (by simp[q]))).trans z,rfl,rfl,rfl,apX _⟩
 done:=λs Q E st hQ=>by
  obtain⟨ha,f,hI,y,hf⟩:=st;exact ZkC hh hI ha g y λh' k=>hQ _ ⟨λb o hb z=>k b o (λq=>hb (by simp[q])) z,rfl,rfl,rfl,apX _⟩
 self:=λi s Q E st hQ=>by
  obtain⟨ha,f,hI,y,hf⟩:=st;have T:=NL hI;refine wpAny_pyIter_slot T Us (aMl Us T Zdk ?_ (Zen _));show wpAny _ _ (ret (.ref I)) _ _ s;exact anq ⟨_,rfl,"set_iterator",_,T,bB.lookup,hQ⟩
theorem G0{r:Addr}{Q:Bool->Shared->Prop}(hT:s.TypeIs (.ref r) "set")(h:Q false s):wpAny (model P w) A (Builtin.List.listLengthHint (.ref r)) Q E s:=by
 unfold Builtin.List.listLengthHint;refine agE (wpAny_specialOf hT ZlE ?_);generalize hid:("set.__len__":String)=Xx;wp_delta;rw[show splitId Xx=some ("set","__len__") from by subst hid;decide +kernel];subst hid;refine agE (wpAny_isInstance (T:="set") (b:=true) hT sub_set_self ?_);refine wpAny_ite_split (λq=>absurd q (by decide)) λ_=>wpAny_ite_split (λ_=>?_) λq=>absurd (by decide +kernel) q;exact agE (wpAny_typeOf hT (anq h))
theorem Zjj{Q:List Value->Shared->Prop}(hh:A.handled=none)(ha:s.heap.get? a=some o)(g:iu P w o es ep t)
  (hQ:∀h' tk d (out:List (Int×Value)),(∀b o,s.heap.get? b=some o->h'.get? b=some o)->out.Perm es.toList->Q (out.map Prod.snd) { s with heap:=h',toks:=tk,drawn:=d }):wpAny (model P w) A (collect (.ref a)) Q E s:=by
 have T:s.TypeIs (.ref a) "set":=⟨o,ha,g.ex.1⟩;unfold collect;refine agE (wpAny_runValue (a1p entry_proto_collect' ?_));rw[aAg PySem.F.plain_proto_collect _];show wpAny _ A.in1 (newList [] >>= λl=>again (.builtin "list.__iadd__" ⟨[l,.ref a],[]⟩)) _ _ s;refine agE (aiJ (anq ⟨plainId_quiet PySem.F.plain_list_iadd _,a1p entry_list_iadd' ?_⟩));rw[aAg PySem.F.plain_list_iadd _];generalize hL:s.heap.objs.size=L;generalize h1:s.heap.push { cls:=.type "list",data:=.seq ([]:List Value).toArray }=hp1;have gL:hp1.get? L=some { cls:=.type "list",dict:=none,data:=.seq #[] 0,slots:=#[] }:=by rw[<-h1,<-hL];exact aIn _ rfl
 have k1:∀b o,s.heap.get? b=some o->hp1.get? b=some o:=λb o e=>by rw[<-h1];exact a8G _ e
 have nL:∀b o,s.heap.get? b=some o->b≠L:=λb o e=>by rw[<-hL];exact amC (aNG e)
 show wpAny _ A.in1 (Builtin.List.listExtendWith (.ref L) (.ref a) (.ref L)) _ _ _;unfold Builtin.List.listExtendWith;have T1:Shared.TypeIs { s with heap:=hp1 } (.ref a) "set":=⟨o,k1 _ _ ha,g.ex.1⟩;refine agE (wpAny_typeOf T1 ?_);have sr:Builtin.List.listSameRef (.ref L) (.ref a)=false:=by simp[Builtin.List.listSameRef,(nL a o ha).symm]
 rw[sr,aoK (by decide)];refine agE (GK (s:={ s with heap:=hp1 }) (k1 _ _ ha) g λh' d I first out k nI gI y ft=>?_);have LP:L≠I:=λe=>by rw[e]at gL;rw[show hp1.get? I=none from nI]at gL;cases gL
 have W0:a≠I:=λe=>by have:=k1 _ _ ha;rw[e]at this;rw[show hp1.get? I=none from nI]at this;cases this
 have po:out.length=es.size:=by rw[(NK y).length_eq,aTi]
 refine agE (aMj (G0 ⟨o,k _ _ (k1 _ _ ha),g.ex.1⟩ ?_));obtain⟨rest,hr1,hr2⟩:∃rest:List Addr,(∀tp,first=.ref tp->tp∈rest/\tp≠I)/\L∉I ::a ::rest:=by
  have n0:L∉[I,a]:=by simp only[a6r,auY,a4R,aDQ];exact⟨LP,(nL a o ha).symm⟩
  cases first with
  |ref tp=>
   refine⟨[tp],λtp' e=>by cases e;exact⟨by simp,(ft tp rfl).2⟩,?_⟩;have nt:L≠tp:=λe=>by rw[e]at gL;rw[show hp1.get? tp=none from(ft tp rfl).1]at gL;cases gL
   simp only[a6r,auY,a4R,aDQ];exact⟨LP,(nL a o ha).symm,nt⟩
  |_=>exact⟨[],(λ_ e=>nomatch e),n0⟩
 have W:=EJ (A:=A.in1) (by simp[hh]) (I:=I) (out:=out) (rest:=rest) g po W0;rw[aYH (by decide +kernel)];have key:∀(h2:Heap)(c:Nat),(∀b o,b≠L->h'.get? b=some o->h2.get? b=some o)->h2.get? L=some { cls:=.type "list",dict:=none,data:=.seq #[] c,slots:=#[] } ->
   codeAny (model P w) A (.builtin "list.extend.loop" ⟨[.ref L,.ref I,.ref L],[]⟩) (λr s'=>∃(h3:Heap)(tk:Nat)(acc:Array Value)(c':Nat),r=.ok (.ret (.ref L))/\s'={ s with heap:=h3,toks:=tk,drawn:=d }/\(∀b o,s.heap.get? b=some o->h3.get? b=some o)/\h3.get? L=some { cls:=.type "list",dict:=none,data:=.seq acc c',slots:=#[] }/\acc.toList=out.map Prod.snd) { s with heap:=h2,drawn:=d }:=λh2 c k2 g2=>by
  refine codeAny_extend_loopS W (axK g.lit) L hr2 (.ref L) es.size 0 _ #[] c (by lia) (abf _) ?_ g2 (ItemsOf.nil _) λs' acc' c' m Yi hacc=>?_
  .refine ⟨k2 _ _ (nL a o ha) (k _ _ (k1 _ _ ha)),first,k2 _ _ LP.symm gI,?_,hr1⟩;cases y with
   |text q=>exact .text q
   |place q r=>exact .place (i:=0) q r
   |draw q r pm=>
    refine .draw (k2 _ _ (λe=>hr2 ?_) q) r pm;rw[<-e];simp[(hr1 _ rfl).1]
  .rw [Moved.eq_with m];refine⟨s'.heap,s'.toks,acc',c',rfl,rfl,λb o z=>m.heap b o ?_ (k2 b o (nL b o z) (k b o (k1 b o z))),Yi,?_⟩
   .have nb:b≠I:=λe=>by have:=k1 b o z;rw[e]at this;rw[show hp1.get? I=none from nI]at this;cases this
    simp only[a6r,auY,a4R,aDQ];exact⟨nL b o z,nb⟩
   .refine bbg λi=>?_;by_cases hi:i<es.size
    .have hv:acc'.toList[i]?=some (acc'.toList[i]'(by rw[aTi,hacc.1];exact hi)):=aEW _;obtain⟨e,he,hv2⟩:=hacc.2 i _ (by rw[<-a6R];exact hv);rw[hv,hv2,aeb,he];rfl
    .rw [ax8 (by rw[aTi,hacc.1];lia),ax8 (by rw[aW8];lia)]
 refine agE (aiy ?_);refine agE ?_;have Qk:h'.get? L=some { cls:=.type "list",dict:=none,data:=.seq #[] 0,slots:=#[] }:=k _ _ gL;show wpAny _ _ (updateSeq L (·.push .none) >>= λ_=>updateSeq L (·.pop)) _ _ _;refine agE (wpAny_updateSeq Qk rfl ?_);have Qj:=aWr (Obj.mapSeq (·.push Value.none)) Qk rfl;refine wpAny_updateSeq (hz:=by seq_fits) Qj rfl ?_;have Yh:=aWr (Obj.mapSeq (·.pop)) Qj rfl;refine anq ⟨plainId_quiet PySem.F.plain_extend_loop _,?_⟩;refine aWj (key _ _ (λb o hb z=>(alE _ _ (avX hb)).trans ((alE _ _ (avX hb)).trans z)) Yh) λr s' q=>?_;obtain⟨h3,tk,acc,c',rfl,rfl,k3,Yg,ea⟩:=q;show wpAny _ A (load L >>=_) _ _ _;refine agE (wpAny_load Yg ?_);have:=hQ h3 tk d out k3 (NK y);rw[<-ea]at this;exact anq this
end
section
variable{X:Cx}
inductive Az(P:Program) (w:World)(xs:List V)(H:Hp)(Q:VK):Prop
 |mk (l:Addr) (ns:List Int):xs=[.ref l]->H l=some (.lst (ns.map V.int))->ns.length<4000->(∀q,H q=none->Q (.ref q) (upd H q (.ext λh=>i8 P w h q ns)))->Az P w xs H Q
theorem ZhQ(hc:X.calm=true):bA X (.type "set") (Az X.prog X.w):=by
 intro pins s σ H xs us Q I r h;obtain⟨l,ns,rfl,hl,h64,q⟩:=h;obtain⟨u,rfl,rx⟩:=vals1 r;cases rx;obtain⟨hz,its,n,rv,ho⟩:=I.hok l _ hl;have hi:IntsAre its.toArray.toList ns:=by simpa using K0 rv
 refine HF (items:=its.toArray) (ns:=ns) (I.ok.hd hc) ⟨_,ho,rfl,n,rfl⟩ hi (by show ns.length+1<4096;lia) λh' tk g k=>?_;have hn:H s.heap.objs.size=none:=I.hok.fresh (apX _);refine⟨.ref s.heap.objs.size,_,I.laid (a:=s.heap.objs.size) (t':=tk) (o:=.ext λh=>i8 X.prog X.w h s.heap.objs.size ns) (λb o e=>k b o (aNG e) e) (apX _) ⟨g,?_,λh1 h2 g1 k1=>g1.at k1⟩,rfl,q _ hn⟩;obtain⟨o,_,_,_,e,_⟩:=g;exact⟨o,e⟩
def Fw(ns:List Int):Prop:=ns.length<4000/\∀os:List Int,os.Nodup->(∀k,k∈os↔k∈ns)->os.length<64
inductive ql(P:Program) (w:World)(xs:List V)(H:Hp)(Q:VK):Prop
 |mk (a:Addr) (ns:List Int):xs=[.ref a]->H a=some (.ext λh=>i8 P w h a ns)->Fw ns->(∀(D:Addr)(os:List Int),H D=none->os.Nodup->(∀k,k∈os↔k∈ns)->os.Pairwise (·<=·)->Q (.ref D) (upd H D (.lst (os.map V.int))))->ql P w xs H Q
theorem S6{P:Program}{w:World}:∀{l:List (Int×Value)},ElemsOf (intKind P w) l->IntsAre (l.map Prod.snd) (l.map j4)
 | [],_=>.nil
 |e ::l,h=>by
  obtain⟨tk,q⟩:=Value.isInt_shape (show Value.isInt (j4 e) e.2=true from Q8 (h e (by simp)));have r:=S6 (l:=l) λx hx=>h x (by simp[hx]);show IntsAre (e.2 ::l.map Prod.snd) (j4 e ::l.map j4);rw[q];exact .cons _ _ r
theorem Zep(hc:X.calm=true):bA X (.builtin "sorted") (ql X.prog X.w):=by
 intro pins s σ H xs us Q I r h;obtain⟨a,ns,rfl,ha,h64,q⟩:=h;obtain⟨u,rfl,rx⟩:=vals1 r;cases rx;obtain⟨⟨o,es,ep,t,ho,g,sz,mem⟩,_⟩:=I.hok a _ ha;refine apv kind_sorted plain_sorted entry_sorted (args_sorted1 _) ?_;unfold Builtin.«sorted»;refine agE (m:=checkCount "sorted" 1 1 _) (anq ?_);refine agE (Zjj (A:=X.A.in1) (show X.A.in1.handled=none from I.ok.hd hc) ho g λh' tk d out hk' hp=>?_);have el:ElemsOf (intKind X.prog X.w) out:=g.el.perm hp;have hI:=S6 el;have lo:out.length=es.size:=by rw[hp.length_eq,aTi]
 have h64:es.size<64:=by
  have:=h64.2 (es.toList.map j4) g.nd mem;rwa [aW8,aTi]at this
 refine agE (aHN ?_ (by rw[aW8,lo,aXy];lia));have lN:(h'.push (seqObj "list" (out.map Prod.snd).toArray 0)).get? h'.objs.size=some (seqObj "list" (out.map Prod.snd).toArray 0):=aIn _ rfl;have I0:Inv X pins σ H { s with drawn:=d }:=⟨I.ok,I.os,I.bare,I.base,I.loc,I.cell,I.free,I.cO,I.pin,I.hok,I.len⟩;have I1:=I0.kept (t':=tk) (h':=h') hk';show wpAny _ _ _ _ _ { s with heap:=h'.push (seqObj "list" (out.map Prod.snd).toArray 0),toks:=tk,drawn:=d };refine agE (aMj (aMl slot_list_sort ⟨_,lN,rfl⟩ entry_list_sort (list_sort_tree lN (by simpa using hI) (by rw[aW8];lia) λout' ns' a1 a2 a3=>⟨_,rfl,?_⟩) (args_list_sort _)));refine anq ⟨_,rfl,?_⟩;obtain⟨e,he⟩:=sortedHeap_at (out:=out') lN;have fr:H h'.objs.size=none:=I1.hok.fresh (apX _);have lo':=a2.length_eq;have pm:ns'.Perm (es.toList.map j4):=a2.trans (hp.map j4);refine⟨.ref h'.objs.size,_,I1.laid (a:=h'.objs.size) (t':=tk) (o:=.lst (ns'.map V.int)) (λb o z=>?_) (apX _) ⟨by rw[aW8,lo',aW8,lo,aXy];lia,out'.toList,e,IC a1,he⟩,rfl,q _ ns' fr (pm.nodup_iff.mpr g.nd) (λk=>pm.mem_iff.trans (mem k)) a3⟩;have z':h'.get? b=some o:=z;have lt:=aNG z';rw[sortedHeap_old (amC lt) (by rw[size_push'];exact aO1 lt),ahB _ _ _ (amC lt)];exact z'
def Fe(C:List Int->Prop)(t:TA):TE:=λσ H Q=>t σ H λvs H1=>∃(l:Addr)(ns:List Int),vs=[.ref l]/\H1 l=some (.lst (ns.map V.int))/\C ns /\
 ∀(q D:Addr)(φ:Heap->Prop)(os:List Int),H1 q=none->H1 D=none->D≠q->os.Nodup->(∀k,k∈os↔k∈ns)->os.Pairwise (·<=·)->Q (.ref D) (upd (upd H1 q (.ext φ)) D (.lst (os.map V.int)))
theorem Zjk{C:List Int->Prop}{p p':Pos}{pos pos':Pos}{e:Expr}{t:TA}(hC:∀ns,C ns->Fw ns)(hc:X.calm=true)(hg:Gl X "sorted")(hm:X.mg "sorted"=none)(hg':Gl X "set")(hm':X.mg "set"=none)(ha:PA X [e] t)(hnn:ya [e]:=by repeat' (first|exact True.intro|refine⟨?_,?_⟩)) :
  PE X (.Call (.Name "sorted" p) [.Call (.Name "set" p') [e] [] pos'] [] pos) (Fe C t):=by
 intro pins s σ H Q I h;have hs:starEach [e] X.env=[(false,eval e X.env)]:=vt hnn.1;have Cw:starEach [PySem.Expr.Call (.Name "set" p') [e] [] pos'] X.env=[(false,eval (PySem.Expr.Call (.Name "set" p') [e] [] pos') X.env)]:=vt (show NS (PySem.Expr.Call (.Name "set" p') [e] [] pos') from True.intro);refine Call_ (sf I hg hm apK (PyProof.Rows.callWith_builtin1 (Q:=EP X pins σ Q) ?_ Cw rfl));rw[Cw];refine aHp (Call_ (sf I hg' hm' ZhC (a5z (nT (ha pos' pins s σ H _ I h) λus s1 vs H1 I1 r1 q1=>?_) hs rfl)));obtain⟨l,ns,rfl,hl,h64,q⟩:=q1;have h64:=hC _ h64;refine eL (ZhQ hc pins s1 σ H1 _ us (λx H2=>∃q,x=.ref q/\H1 q=none/\H2=upd H1 q (.ext λh=>i8 X.prog X.w h q ns)) I1 r1 ⟨l,ns,rfl,hl,h64.1,λq hq=>⟨q,rfl,hq,rfl⟩⟩) λu s2 x H2 I2 rx q2=>?_;obtain⟨q',rfl,hq',rfl⟩:=q2;refine a3w ?_;refine Zep hc pins s2 σ _ [.ref q'] [u] Q I2 (.cons rx .nil) ⟨q',ns,rfl,Za,h64,λD os hD nd mem pw=>?_⟩;have nD:D≠q':=λe=>by rw[e,Za]at hD;cases hD
 rw[Zc nD]at hD;exact q q' D _ os hq' hD nD nd mem pw
theorem Hr{ns:List Int}(h:ns.length<64):Fw ns:=⟨by lia,λos nd m=>a3J (nd.length_le_of_subset λk hk=>(m k).mp hk) h⟩
def VY:TA->TE:=Fe λns=>ns.length<64
theorem ZkD{p p':Pos}{pos pos':Pos}{e:Expr}{t:TA}(hc:X.calm=true)(hg:Gl X "sorted")(hm:X.mg "sorted"=none)(hg':Gl X "set")(hm':X.mg "set"=none)(ha:PA X [e] t)(hnn:ya [e]:=by repeat' (first|exact True.intro|refine⟨?_,?_⟩)) :
  PE X (.Call (.Name "sorted" p) [.Call (.Name "set" p') [e] [] pos'] [] pos) (VY t):=Zjk (λ_=>Hr) hc hg hm hg' hm' ha hnn
end
end L2
namespace L2
open PySem PySem.F PyProof.Rows
variable{K:W.Frag}{X:Cx}{pins:List (Addr×Obj)}{σ:St}{H H':Hp}{s:Shared}
end L2
namespace L2
open PySem PySem.F PyProof.Rows PySem.MeetsSeq
variable{K:W.Frag}{X:Cx}
end L2
namespace L2.aA
open PySem PySem.Spec PyProof.Rows
structure RR where
 r:Keyed->Nat
 g:Keyed->Int
def Kg(ρ:RR)(xs:Array Keyed)(i:Nat):Int:=(xs[i]?).elim 0 ρ.g
theorem cG{ρ:RR}{xs ys:Array Keyed}{i j:Nat}(h:xs[i]?=ys[j]?):Kg ρ xs i=Kg ρ ys j:=by unfold Kg;rw[h]
theorem nQ{ρ:RR}{xs:Array Keyed}{src d:Nat}(hs:src<xs.size)(hd:d<=src)(k:Nat) :
  Kg ρ (bubble xs src d) k=if k=src-d then Kg ρ xs src else if src-d<k/\k<=src then Kg ρ xs (k-1) else Kg ρ xs k:=by
 have e:=getElem?_bubble hs d hd k;by_cases c:k=src-d
 .rw [aYH c]at e ⊢;exact cG e
 .by_cases c2:src-d<k/\k<=src
  .rw [aoK c,aYH c2]at e ⊢;exact cG e
  .rw [aoK c,aoK c2]at e ⊢;exact cG e
theorem i6{ρ:RR}{xs:Array Keyed}{i j:Nat}(hj:j<=xs.size)(k:Nat) :
  Kg ρ (mirror xs i j ((j-i)/2)) k=if i<=k/\k<j then Kg ρ xs (i+j-1-k) else Kg ρ xs k:=by
 have e:=getElem?_mirror_all (i:=i) hj k;by_cases c:i<=k/\k<j
 .rw [aYH c]at e ⊢;exact cG e
 .rw [aoK c]at e ⊢;exact cG e
theorem bV{ρ:RR}{xs:Array Keyed}{i j:Nat}(hj:j<=xs.size)(al:∀k,i<=k->k<j->Kg ρ xs k=Kg ρ xs (j-1))(k:Nat):Kg ρ (mirror xs i j ((j-i)/2)) k=Kg ρ xs k:=by
 rw[i6 hj];by_cases c:i<=k/\k<j
 .rw [aYH c,al _ (by lia) (by lia),al k c.1 c.2]
 .rw [aoK c]
def j5(prog:Program)(w:World)(A:Around)(s:Shared)(κ:SortKind)(ρ:RR)(a₀:Array Keyed):Prop:=
 ∀p,p∈a₀.toList->∀q,q∈a₀.toList->∀(E:Value->Shared->Prop)(Q:Bool->Shared->Prop),Q (decide (ρ.g p<ρ.g q)) s->wpAny (model prog w) A (keyLt' κ p.1 q.1) Q E s
end L2.aA
namespace L2
open PySem PySem.Spec PyProof.Rows
section
open PySem.SeqAt
open PySem.AutoSeq1 (wpAny_loadPart')
open PySem.MeetsSeq PySem.MeetsSeq2 PySem.MeetsSeq3
end
section
variable{prog:Program}{w:World}{A:Around}{E:Value->Shared->Prop}{s:Shared}
def rO(h:Heap)(a:Addr)(us:List Value):Heap:=((h.update a (Obj.mapSeq λ_=>#[])).push (seqObj "tuple" us.toArray 0)).push (seqObj "list" #[] 0)
theorem Zjl{h:Heap}{a b:Addr}{us:List Value}{o:Obj}(n:b≠a)(e:h.get? b=some o):(rO h a us).get? b=some o:=
 a8G _ (a8G _ (by rw[Heap.get?_update_ne _ _ _ _ n];exact e))
end
def yO:Value->Addr
 | .ref a=>a
 |_=>0
theorem S5{α:Type}:∀l:List α,l.zip l=l.map λv=>(v,v)
 | []=>rfl
 |x ::r=>by rw[List.zip_cons_cons,S5 r];rfl
theorem Ud(us:List Value):(pairsOf us).toList=us.map λv=>(v,v):=by
 unfold pairsOf;rw[Array.toList_zip];exact S5 us
variable{K:W.Frag}{X:Cx}
end L2
namespace L2
open PySem PySem.Spec PyProof.Rows
section
variable{X:Cx}{pos:Pos}
def Fi(i j l:Nat)(ta:TA):TS:=λD σ H=>ta σ H λvs H1=>∃v w x,vs=[v,w,x]/\D.nx (((σ.set i (some v)).set j (some w)).set l (some x)) H1
theorem ZkE{i j l:Nat}{x y z:Str}{a b c:PySem.Expr}{ta:TA}{px py pz pt:Pos}{kt k2 BP}(hc:X.calm=true)(hN:X.N.Nodup)(hi:X.N[i]?=some x)(hj:X.N[j]?=some y)(hl:X.N[l]?=some z)(hij:i≠j/\i≠l/\j≠l)
  (hx:X.env.scope.names.lookup x=some .local) (hy:X.env.scope.names.lookup y=some .local) (hz:X.env.scope.names.lookup z=some .local) (ha:PA X [a,b,c] ta)
  (hw:swappedStores [.Tuple [.Name x px,.Name y py,.Name z pz] kt pt] (.Tuple [a,b,c] k2 BP) X.env=pure (some [x,y,z]))
  (hs:swapsWithSole [.Tuple [.Name x px,.Name y py,.Name z pz] kt pt] (.Tuple [a,b,c] k2 BP) pos.line X.env=pure false:=by rfl) :
  PS X (.Assign [.Tuple [.Name x px,.Name y py,.Name z pz] kt pt] (.Tuple [a,b,c] k2 BP) pos) (Fi i j l ta):=by
 intro pins s σ H D I h;rw[exec_Assign_arm];refine agE (aIo ?_);rw[hs];refine agE (anq ?_);rw[aoK (by decide)];refine agE (Tuple_ (nT (ha _ pins s σ H _ I h) λus s1 vs H1 I1 r1 q1=>?_));obtain⟨v,w,t,e1,q1⟩:=q1;subst e1;obtain⟨u1,u2,u3,rfl,rv,rw',rt⟩:∃u1 u2 u3,us=[u1,u2,u3]/\RelV v u1/\RelV w u2/\RelV t u3:=by
  cases r1 with
  |cons p q=>
   cases q with
   |cons p' q'=>
    cases q' with
    |cons p'' Wi=>
     cases Wi;exact⟨_,_,_,rfl,p,p',p''⟩
 refine aiJ ?_ (by show 3<=sizeLine;decide);have I2:Inv X pins σ H1 { s1 with heap:=s1.heap.push { cls:=.type "tuple",data:=.seq [u1,u2,u3].toArray } }:=I1.kept (t':=s1.toks) λb o e=>a8G _ e;rw[hw];refine agE (anq ?_);show wpAny (model X.prog X.w) X.A (do rule "assign.swapped-stores";let items <-unpackItems (.ref s1.heap.objs.size) 3 none;assignInOrder [λv=>bindName X.env z v,λv=>bindName X.env y v,λv=>bindName X.env x v] items.reverse;pure Flow.next) _ _ _;refine agE (aiy (agE (unpackItems_tuple (items:=#[u1,u2,u3]) (I.ok.hd hc) (IsTup.new s1.heap _) λh' hx'=>?_)));have I3:=I2.kept (h':=h') (t':=s1.toks) λb o e=>hx' b o (amC (aNG e)) e;show wpAny _ _ (assignInOrder [λv=>bindName X.env z v,λv=>bindName X.env y v,λv=>bindName X.env x v] [u3,u2,u1] >>= λ_=>pure Flow.next) _ _ _;refine agE (aRs (a4h (Dg I3 hN hl (.inl hz) rt (λs2 I4=>?_) (.inr hz))));refine aRs (a4h (Dg I4 hN hj (.inl hy) rw' (λs3 I5=>?_) (.inr hy)));refine aRs (a4h (Dg I5 hN hi (.inl hx) rv (λs4 I6=>assignInOrder_nil (anq ?_)) (.inr hx)));have e:((σ.set l (some t)).set j (some w)).set i (some v)=((σ.set i (some v)).set j (some w)).set l (some t):=by
  rw[List.set_comm (some w) (some v) (avX hij.1),List.set_comm (some t) (some v) (avX hij.2.1),List.set_comm (some t) (some w) (avX hij.2.2)]
 rw[e]at I6;exact⟨_,H1,I6,q1⟩
end
end L2
namespace L2.zN
open PySem PySem.Spec PyProof.Rows
def Es:Bool->Keyed->Array Keyed->Nat->Nat->Nat->StateT SortSt Sem (Option Nat):=sortPriv% PySem.Builtin.gallop
def ZR:Nat->StateT SortSt Sem Unit:=sortPriv% PySem.Builtin.setMinGallop
def N1:Array Keyed->Array Keyed->StateT SortSt Sem (Array Keyed):=sortPriv% PySem.Builtin.mergeLo
def NZ:Array Keyed->Array Keyed->StateT SortSt Sem (Array Keyed):=sortPriv% PySem.Builtin.mergeHi
def Ba(left:Bool)(key:Keyed)(arr:Array Keyed)(base i:Nat):StateT SortSt Sem (Option Bool):=do
 let x <-elem' arr (base+i)
 if left then lt' x key else return (<-lt' key x).map (!·)
def zA(left:Bool)(key:Keyed)(arr:Array Keyed)(base n Xf hi0:Nat):StateT SortSt Sem (Option Nat):=do
 let mut lo:=Xf
 let mut hi:=hi0
 for _ in[0:n] do
  if lo ≥ hi then break
  let m:=lo+(hi-lo)/2
  let some more <-Ba left key arr base m|return none
  if more then lo:=m+1 else hi:=m
 return some hi
def Qi(left:Bool)(key:Keyed)(arr:Array Keyed)(base n hint:Nat):StateT SortSt Sem (Option Nat):=do
 let mut g6:=0
 let mut uM:=1
 for _ in[0:n] do
  if uM ≥ n-hint then break
  let some more <-Ba left key arr base (hint+uM)|return none
  if !more then break
  g6:=uM
  uM:=2*uM+1
 zA left key arr base n (hint+g6+1) (hint+min uM (n-hint))
def Ql(left:Bool)(key:Keyed)(arr:Array Keyed)(base n hint:Nat):StateT SortSt Sem (Option Nat):=do
 let mut g6:=0
 let mut uM:=1
 for _ in[0:n] do
  if uM ≥ hint+1 then break
  let some found <-Ba left key arr base (hint-uM)|return none
  if found then break
  g6:=uM
  uM:=2*uM+1
 zA left key arr base n (hint+1-min uM (hint+1)) (hint-g6)
theorem ZgM(left:Bool)(key:Keyed)(arr:Array Keyed)(base n hint:Nat):Es left key arr base n hint=(do
 let some right <-Ba left key arr base hint|return none
 if right then Qi left key arr base n hint else Ql left key arr base n hint):=rfl
theorem ZbS(g:Nat):ZR g=modify (λs=>SortSt.mk' (kindOf s) (arrOf s) (pendingOf s) g (failedOf s)):=rfl
theorem xM{σ α:Type}{M:Model}{A:Around}{E:Value->Shared->Prop}{s:Shared}{m m':StateT σ Sem α}{Q:α->σ->Prop}{st:σ}(e:m=m')(h:wpS M A E s m' Q st):wpAny M A (m st) (λr s'=>s'=s/\Q r.1 r.2) E s:=by subst e;exact h
section
variable{prog:Program}{w:World}{A:Around}{E:Value->Shared->Prop}{s:Shared}{a₀:Array Keyed}{κ:SortKind}{ρ:aA.RR}
theorem qE{st:SortSt}{p q:Keyed}{Q:Option Bool->SortSt->Prop}(hk:kindOf st=κ)(h0:aA.j5 prog w A s κ ρ a₀)(mp:p∈a₀.toList)(mq:q∈a₀.toList)(h:Q (some (decide (ρ.g p<ρ.g q))) st):wpS (model prog w) A E s (lt' p q) Q st:=by
 rw[lt'_eq];refine a9z (aRo ?_);rw[hk];exact a9z (wpS_lift (afl (h0 p mp q mq _ _ ⟨rfl,ahi h⟩)))
theorem Zx{st:SortSt}{arr:Array Keyed}{i:Nat}{Q:Keyed->SortSt->Prop}(hi:i<arr.size)(h:Q arr[i] st):wpS (model prog w) A E s (elem' arr i) Q st:=by
 rw[elem'_eq,getElem?_pos arr i hi];exact ahi h
theorem bD{arr:Array Keyed}{i:Nat}(hi:i<arr.size):aA.Kg ρ arr i=ρ.g arr[i]:=by
 unfold aA.Kg;rw[getElem?_pos arr i hi];rfl
def Bd(ρ:aA.RR)(left:Bool)(kv:Int)(arr:Array Keyed)(base i:Nat):Bool:=if left then decide (aA.Kg ρ arr (base+i)<kv) else !decide (kv<aA.Kg ρ arr (base+i))
theorem ZlF{st:SortSt}{left:Bool}{key:Keyed}{arr:Array Keyed}{base i:Nat}{Q:Option Bool->SortSt->Prop}(hk:kindOf st=κ)(h0:aA.j5 prog w A s κ ρ a₀)(ha:∀p∈arr.toList,p∈a₀.toList)(mk:key∈a₀.toList)(hi:base+i<arr.size)(h:Q (some (Bd ρ left (ρ.g key) arr base i)) st):wpS (model prog w) A E s (Ba left key arr base i) Q st:=by
 unfold Ba;refine a9z (Zx hi ?_);have m:arr[base+i]∈a₀.toList:=ha _ (by simp);unfold Bd at h;rw[bD hi]at h;cases left with
 |true=>
  simp only[ban]at h ⊢;exact qE hk h0 m mk h
 |false=>
  simp only[aLx,bdb]at h ⊢;exact a9z (qE hk h0 mk m (ahi h))
structure Cut(ρ:aA.RR)(left:Bool)(kv:Int)(arr:Array Keyed)(base n k:Nat):Prop where
 le:k<=n
 lo:∀i,i<k->Bd ρ left kv arr base i=true
 hi:∀i,k<=i->i<n->Bd ρ left kv arr base i=false
def dZ(ρ:aA.RR)(arr:Array Keyed)(a b:Nat):Prop:=∀i j,a<=i->i<=j->j<b->aA.Kg ρ arr i<=aA.Kg ρ arr j
theorem ZkF{left:Bool}{kv:Int}{arr:Array Keyed}{base n i j:Nat}(hs:dZ ρ arr base (base+n))(hij:i<=j)(hj:j<n)(h:Bd ρ left kv arr base j=true):Bd ρ left kv arr base i=true:=by
 have q:=hs (base+i) (base+j) (by lia) (by lia) (by lia);unfold Bd at h ⊢;cases left with
 |true=>
  simp only[ban,aOt]at h ⊢;lia
 |false=>
  simp only[aLx,bdb,a2I,a9V]at h ⊢;lia
section
variable{st:SortSt}{left:Bool}{key:Keyed}{arr:Array Keyed}{base n:Nat}{Q:Option Nat->SortSt->Prop}{P:Nat->Bool}
theorem RT{lo hi:Nat}(B:∀{i:Nat}{Q:Option Bool->SortSt->Prop},i<n->Q (some (P i)) st->wpS (model prog w) A E s (Ba left key arr base i) Q st)
  (up:∀{i j:Nat},i<=j->j<n->P j=true->P i=true) (dn:∀{i j:Nat},i<=j->j<n->P i=false->P j=false)
  (h:∀k,k<=n->(∀i,i<k->P i=true)->(∀i,k<=i->i<n->P i=false)->Q (some k) st)
  (XN:lo<=hi) (XR:hi<=n) (u1:∀i,i<lo->P i=true) (u2:∀i,hi<=i->i<n->P i=false):wpS (model prog w) A E s (zA left key arr base n lo hi) Q st:=by
 unfold zA;refine a9z (aAw (aOS (I:=λx c st2=>st2=st/\∃l r,c=(none,l,r)/\l<=r/\r<=n/\r-l<=n-x/\(∀i,i<l->P i=true)/\(∀i,r<=i->i<n->P i=false))
  (Q:=λc st2=>st2=st/\∃r,c=(none,r,r)/\r<=n/\(∀i,i<r->P i=true)/\(∀i,r<=i->i<n->P i=false)) ?iturn ?ilast ?ifirst) ?iafter)
 case ifirst=>exact⟨rfl,lo,hi,rfl,XN,XR,by lia,u1,u2⟩
 case ilast=>
  rintro c st2 ⟨rfl,l,r,rfl,hlr,hrk,hm,u1,u2⟩;have e:l=r:=by lia
  subst e;exact⟨rfl,l,rfl,hrk,u1,u2⟩
 case iturn=>
  rintro x c st2 _ hxk ⟨rfl,l,r,rfl,hlr,hrk,hm,u1,u2⟩;dsimp only;by_cases hge:l ≥ r
  .rw [aYH hge];have e:l=r:=by lia
   subst e;exact ahi ⟨rfl,l,rfl,hrk,u1,u2⟩
  .rw [aoK hge];refine a9z (B (by lia) ?_);dsimp only;cases c:P (l+(r-l)/2) with
   |true=>
    rw[aYH rfl];exact ahi ⟨rfl,l+(r-l)/2+1,r,rfl,by lia,by lia,by lia,λi p=>up (j:=l+(r-l)/2) (by lia) (by lia) c,u2⟩
   |false=>
    rw[aoK (by simp)];exact ahi ⟨rfl,l,l+(r-l)/2,rfl,by lia,by lia,by lia,u1,λi p q=>dn p q c⟩
 case iafter=>
  rintro c st2 ⟨rfl,r,rfl,XE,u1,u2⟩;exact ahi (h r XE u1 u2)
end
theorem EE{st:SortSt}{left:Bool}{key:Keyed}{arr:Array Keyed}{base n hint:Nat}{Q:Option Nat->SortSt->Prop}(hk:kindOf st=κ)(h0:aA.j5 prog w A s κ ρ a₀)(ha:∀p∈arr.toList,p∈a₀.toList)(mk:key∈a₀.toList)(hb:base+n<=arr.size)(hh:hint<n)(hs:dZ ρ arr base (base+n))
  (h:∀k,Cut ρ left (ρ.g key) arr base n k->Q (some k) st):wpS (model prog w) A E s (Es left key arr base n hint) Q st:=by
 rw[ZgM];have B:∀{i:Nat}{Q:Option Bool->SortSt->Prop},i<n->Q (some (Bd ρ left (ρ.g key) arr base i)) st->wpS (model prog w) A E s (Ba left key arr base i) Q st:=λ{i Q} hi hq=>ZlF hk h0 ha mk (by lia) hq;have up:∀{i j:Nat},i<=j->j<n->Bd ρ left (ρ.g key) arr base j=true->Bd ρ left (ρ.g key) arr base i=true:=λhij hj hq=>ZkF hs hij hj hq;have h:=λk c1 c2 c3=>h k ⟨c1,c2,c3⟩;generalize Bd ρ left (ρ.g key) arr base=P at *;have dn:∀{i j:Nat},i<=j->j<n->P i=false->P j=false:=λ{i j} hij hj hq=>by
  cases e:P j with
  |false=>rfl
  |true=>rw[up hij hj e]at hq;exact hq
 refine a9z (B hh ?_);dsimp only;cases e:P hint with
 |true=>
  rw[aYH rfl];unfold Qi;refine a9z (aAw (aOS (I:=λx c st2=>st2=st/\∃l o,c=(none,l,o)/\l<o/\x+1<=o/\hint+l<n/\P (hint+l)=true)
   (Q:=λc st2=>st2=st/\∃l o,c=(none,l,o)/\l<o/\hint+l<n/\P (hint+l)=true/\(n-hint<=o\/hint+o<n/\P (hint+o)=false)) ?jturn ?jlast ?jfirst) ?jafter)
  case jfirst=>exact⟨rfl,0,1,rfl,by lia,by lia,by lia,e⟩
  case jlast=>
   rintro c st2 ⟨rfl,l,o,rfl,hlo,Ml,mK,hp⟩;exact⟨rfl,l,o,rfl,hlo,mK,hp,.inl (by lia)⟩
  case jturn=>
   rintro x c st2 _ hxk ⟨rfl,l,o,rfl,hlo,Ml,mK,hp⟩;dsimp only;by_cases hge:o ≥ n-hint
   .rw [aYH hge];exact ahi ⟨rfl,l,o,rfl,hlo,mK,hp,.inl hge⟩
   .rw [aoK hge];refine a9z (B (by lia) ?_);dsimp only;cases c:P (hint+o) with
    |true=>
     rw[aoK (by simp)];exact ahi ⟨rfl,o,2*o+1,rfl,by lia,by lia,by lia,c⟩
    |false=>
     rw[aYH (by simp)];exact ahi ⟨rfl,l,o,rfl,hlo,mK,hp,.inr ⟨by lia,c⟩⟩
  case jafter=>
   rintro c st2 ⟨rfl,l,o,rfl,hlo,mK,hp,ho⟩;refine RT B up dn h (by dsimp only;lia) (by dsimp only;lia) (λi hi=>up (j:=hint+l) (by dsimp only at hi;lia) mK hp) (λi p q=>?_);dsimp only at p;rcases ho with ho|⟨ho,c⟩
   .lia
   .exact dn (i:=hint+o) (by lia) q c
 |false=>
  rw[aoK (by simp)];unfold Ql;refine a9z (aAw (aOS (I:=λx c st2=>st2=st/\∃l o,c=(none,l,o)/\l<o/\x+1<=o/\l<=hint/\P (hint-l)=false)
   (Q:=λc st2=>st2=st/\∃l o,c=(none,l,o)/\l<o/\l<=hint/\P (hint-l)=false/\(hint+1<=o\/o<=hint/\P (hint-o)=true)) ?kturn ?klast ?kfirst) ?kafter)
  case kfirst=>exact⟨rfl,0,1,rfl,by lia,by lia,by lia,e⟩
  case klast=>
   rintro c st2 ⟨rfl,l,o,rfl,hlo,Ml,mK,hp⟩;exact⟨rfl,l,o,rfl,hlo,mK,hp,.inl (by lia)⟩
  case kturn=>
   rintro x c st2 _ hxk ⟨rfl,l,o,rfl,hlo,Ml,mK,hp⟩;dsimp only;by_cases hge:o ≥ hint+1
   .rw [aYH hge];exact ahi ⟨rfl,l,o,rfl,hlo,mK,hp,.inl hge⟩
   .rw [aoK hge];refine a9z (B (by lia) ?_);dsimp only;cases c:P (hint-o) with
    |true=>
     rw[aYH rfl];exact ahi ⟨rfl,l,o,rfl,hlo,mK,hp,.inr ⟨by lia,c⟩⟩
    |false=>
     rw[aoK (by simp)];exact ahi ⟨rfl,o,2*o+1,rfl,by lia,by lia,by lia,c⟩
  case kafter=>
   rintro c st2 ⟨rfl,l,o,rfl,hlo,mK,hp,ho⟩;refine RT B up dn h (by dsimp only;lia) (by dsimp only;lia) (λi hi=>?_) (λi p q=>dn (i:=hint-l) (by dsimp only at p;lia) q hp);dsimp only at hi;rcases ho with ho|⟨ho,c⟩
   .lia
   .exact up (j:=hint-o) (by lia) (by lia) c
end
def Lk(ρ:aA.RR)(x y:Keyed):Prop:=ρ.g x<=ρ.g y
structure MI(ρ:aA.RR)(A B out:List Keyed)(ia ib:Nat):Prop where
 perm:(out++A.drop ia++B.drop ib).Perm (A++B)
 sa:(out++A.drop ia).Pairwise (Lk ρ)
 sb:(out++B.drop ib).Pairwise (Lk ρ)
section
variable{ρ:aA.RR}{A B out:List Keyed}{ia ib:Nat}
theorem MI.jc(h:MI ρ A B out ia ib)(k:Nat)(hk:∀t∈(B.drop ib).take k,∀x∈A.drop ia,ρ.g t<=ρ.g x):MI ρ A B (out++(B.drop ib).take k) ia (ib+k):=by
 have e:B.drop (ib+k)=(B.drop ib).drop k:=by rw[drop_drop]
 have s:=h.sb;have p:=h.perm;rw[<-aAI k (B.drop ib)]at s p;refine⟨?_,?_,?_⟩
 .rw [e];refine List.Perm.trans ?_ p;rw[azO out,azO out,azO out,<-azO (A.drop ia)];exact(List.Perm.append_right _ amH).append_left _
 .have s1:(out++(B.drop ib).take k).Pairwise (Lk ρ):=by
   rw[<-azO]at s;exact(aDY.1 s).1
  have a1:=aDY.1 h.sa;refine aDY.2 ⟨s1,a1.2.1,λx hx y hy=>?_⟩;rcases aUH.1 hx with hx|hx
  .exact a1.2.2 x hx y hy
  .exact hk x hx y hy
 .rw [e,azO];exact s
theorem MI.mW(h:MI ρ A B out ia ib)(k:Nat)(hk:∀t∈(A.drop ia).take k,∀x∈B.drop ib,ρ.g t<=ρ.g x):MI ρ A B (out++(A.drop ia).take k) (ia+k) ib:=by
 have h2:MI ρ B A out ib ia:=⟨by
  refine List.Perm.trans ?_ (List.Perm.trans h.perm amH);rw[azO,azO];exact amH.append_left _,h.sb,h.sa⟩
 have h3:=h2.jc k hk;refine⟨?_,h3.sb,h3.sa⟩;refine List.Perm.trans ?_ (List.Perm.trans h3.perm amH);rw[azO _ (A.drop _),azO _ (B.drop _)];exact amH.append_left _
def Res(ρ:aA.RR)(A B:List Keyed)(r:Array Keyed):Prop:=r.toList.Perm (A++B)/\r.toList.Pairwise (Lk ρ)
theorem Kh(a:Array Keyed)(i:Nat):(a.extract i a.size).toList=a.toList.drop i:=by
 rw[a4t,List.extract_eq_drop_take];exact aC0 (by simp)
theorem NJ(a:Array Keyed)(i k:Nat):(a.extract i (i+k)).toList=(a.toList.drop i).take k:=by
 rw[a4t,List.extract_eq_drop_take];congr 1
 lia
theorem MI.res{a b out:Array Keyed}(h:MI ρ a.toList b.toList out.toList ia ib)(he:a.toList.drop ia=[]\/b.toList.drop ib=[]):Res ρ a.toList b.toList (out++a.extract ia a.size++b.extract ib b.size):=by
 unfold Res;rw[avZ,avZ,Kh,Kh];refine⟨h.perm,?_⟩;rcases he with he|he
 .rw [he,bah];exact h.sb
 .rw [he,bah];exact h.sa
theorem MI.last{a b out:Array Keyed}(h:MI ρ a.toList b.toList out.toList ia ib)(hl:∀y∈b.toList,∀x∈a.toList.drop (a.size-1),ρ.g y<=ρ.g x)(he:ia+1=a.size):Res ρ a.toList b.toList (out++b.extract ib b.size++a.extract ia a.size):=by
 have e:ia=a.size-1:=by lia
 have h2:=h.jc (b.toList.length) (λt ht x hx=>hl t (List.mem_of_mem_drop (List.mem_of_mem_take ht)) x (by rw[<-e];exact hx));have e2:(b.toList.drop ib).take b.toList.length=b.toList.drop ib:=aC0 (by simp);have e3:b.toList.drop (ib+b.toList.length)=[]:=aZA (by lia);rw[e2]at h2;unfold Res;rw[avZ,avZ,Kh,Kh];refine⟨?_,h2.sa⟩;have:=h2.perm;rw[e3,bah]at this;exact this
end
abbrev vd:=Option (Array Keyed)×Array Keyed×Nat×Nat×Nat×Nat×Nat
def JK(a b out:Array Keyed)(ia ib g k k1:Nat):StateT SortSt Sem (ForInStep vd):=do
 let x <-elem' a ia
 if ia+1+1 ==a.size then pure (.done (some (out.push x++b.extract ib b.size++a.extract (ia+1) a.size),out.push x,ia+1,ib,g,k,k1))
 else if k<7 && k1<7 then pure (.done (none,out.push x,ia+1,ib,g,k,k1)) else pure (.yield (none,out.push x,ia+1,ib,g,k,k1))
def lo2(a b out:Array Keyed)(ia ib g k bc:Nat):StateT SortSt Sem (ForInStep vd):=do
 let x <-elem' b ib
 if ib+1 ==b.size then pure (.done (some (out.push x++a.extract ia a.size++b.extract (ib+1) b.size),out.push x,ia,ib+1,g,k,bc))
 else do
  let y <-elem' a ia
  let r <-Es true y b (ib+1) (b.size-(ib+1)) 0
  match r with
  |some k1=>
   if k1>0 then
    if ib+1+k1 ==b.size then pure (.done (some (out.push x++b.extract (ib+1) (ib+1+k1)++a.extract ia a.size++b.extract (ib+1+k1) b.size),out.push x++b.extract (ib+1) (ib+1+k1),ia,ib+1+k1,g,k,k1))
    else JK a b (out.push x++b.extract (ib+1) (ib+1+k1)) ia (ib+1+k1) g k k1
   else JK a b (out.push x) ia (ib+1) g k k1
  |none=>pure (.done (some (out.push x++a.extract ia a.size++b.extract (ib+1) b.size),out.push x,ia,ib+1,g,k,bc))
def lo1(a b out:Array Keyed)(ia ib g ac bc:Nat):StateT SortSt Sem (ForInStep vd):=do
 ZR g
 let y <-elem' b ib
 let r <-Es false y a ia (a.size-ia) 0
 match r with
 |some k=>
  if k>0 then
   if ia+k+1 ==a.size then pure (.done (some (out++a.extract ia (ia+k)++b.extract ib b.size++a.extract (ia+k) a.size),out++a.extract ia (ia+k),ia+k,ib,g,k,bc))
   else if ia+k ==a.size then pure (.done (some (out++a.extract ia (ia+k)++a.extract (ia+k) a.size++b.extract ib b.size),out++a.extract ia (ia+k),ia+k,ib,g,k,bc))
   else lo2 a b (out++a.extract ia (ia+k)) (ia+k) ib g k bc
  else lo2 a b out ia ib g k bc
 |none=>pure (.done (some (out++a.extract ia a.size++b.extract ib b.size),out,ia,ib,g,ac,bc))
abbrev Ae:=Option (Array Keyed)×Array Keyed×Nat×Nat×Nat×Nat
def JJ(a b:Array Keyed)(mg:Nat)(c:Ae):StateT SortSt Sem (ForInStep Ae):=do
 let y <-elem' b c.2.2.2.1
 let x <-elem' a c.2.2.1
 let r <-lt' y x
 match r with
 |some w=>
  if w then do
   let y <-elem' b c.2.2.2.1
   if c.2.2.2.1+1 ==b.size then pure (.done (some (c.2.1.push y++a.extract c.2.2.1 a.size++b.extract (c.2.2.2.1+1) b.size),c.2.1.push y,c.2.2.1,c.2.2.2.1+1,0,c.2.2.2.2.2+1))
   else if c.2.2.2.2.2+1 ≥ mg then pure (.done (none,c.2.1.push y,c.2.2.1,c.2.2.2.1+1,0,c.2.2.2.2.2+1))
   else pure (.yield (none,c.2.1.push y,c.2.2.1,c.2.2.2.1+1,0,c.2.2.2.2.2+1))
  else do
   let x <-elem' a c.2.2.1
   if c.2.2.1+1+1 ==a.size then pure (.done (some (c.2.1.push x++b.extract c.2.2.2.1 b.size++a.extract (c.2.2.1+1) a.size),c.2.1.push x,c.2.2.1+1,c.2.2.2.1,c.2.2.2.2.1+1,0))
   else if c.2.2.2.2.1+1 ≥ mg then pure (.done (none,c.2.1.push x,c.2.2.1+1,c.2.2.2.1,c.2.2.2.2.1+1,0))
   else pure (.yield (none,c.2.1.push x,c.2.2.1+1,c.2.2.2.1,c.2.2.2.2.1+1,0))
 |none=>pure (.done (some (c.2.1++a.extract c.2.2.1 a.size++b.extract c.2.2.2.1 b.size),c.2.1,c.2.2.1,c.2.2.2.1,c.2.2.2.2.1,c.2.2.2.2.2))
abbrev Dq:=Option (Array Keyed)×Array Keyed×Nat×Nat×Nat
def JI(a b:Array Keyed)(c:Dq):StateT SortSt Sem (ForInStep Dq):=do
 let d <-forIn [0:a.size+b.size] ((none,c.2.1,c.2.2.1,c.2.2.2.1,0,0):Ae) (λ_ d=>JJ a b c.2.2.2.2 d)
 match d.1 with
 |some r=>pure (.done (some r,d.2.1,d.2.2.1,d.2.2.2.1,c.2.2.2.2))
 |none=>do
  rule "list.sort.gallop"
  let e <-forIn [0:a.size+b.size] ((none,d.2.1,d.2.2.1,d.2.2.2.1,c.2.2.2.2+1,d.2.2.2.2.1,d.2.2.2.2.2):vd) (λ_ e=>if e.2.2.2.2.1>1 then lo1 a b e.2.1 e.2.2.1 e.2.2.2.1 (e.2.2.2.2.1-1) e.2.2.2.2.2.1 e.2.2.2.2.2.2 else lo1 a b e.2.1 e.2.2.1 e.2.2.2.1 e.2.2.2.2.1 e.2.2.2.2.2.1 e.2.2.2.2.2.2)
  match e.1 with
  |some r=>pure (.done (some r,e.2.1,e.2.2.1,e.2.2.2.1,e.2.2.2.2.1))
  |none=>do
   ZR (e.2.2.2.2.1+1)
   pure (.yield (none,e.2.1,e.2.2.1,e.2.2.2.1,e.2.2.2.2.1+1))
theorem ZgN{M:Model}{A:Around}{E:Value->Shared->Prop}{s:Shared}{Q:Array Keyed->SortSt->Prop}{st:SortSt}(a b:Array Keyed)(h:wpS M A E s (do
 rule "list.sort.merge-lo"
 let x <-elem' b 0
 if 1 ==b.size then pure (#[x]++a.extract 0 a.size++b.extract 1 b.size)
 else if 0+1 ==a.size then pure (#[x]++b.extract 1 b.size++a.extract 0 a.size)
 else do
  let st <-get
  let c <-forIn [0:a.size+b.size] ((none,#[x],0,1,gallopOf st):Dq) (λ_ c=>JI a b c)
  match c.1 with
  |some r=>pure r
  |none=>unsupported "internal:list.sort.merge-bound") Q st):wpS M A E s (N1 a b) Q st:=by
 show wpAny M A (N1 a b st) _ E s
 wp_delta
 wp_delta
 refine xM ?_ h;dsimp only;refine aLP λ_=>aLP λx=>?_;congr 1
 congr 1
 refine aLP λst=>?_;congr 1
 .congr 1
  funext _ c
  unfold JI;congr 1
  .congr 1
   funext _ d
   unfold JJ;refine aLP λy=>aLP λx=>aLP λr=>?_;cases r with
   |some w=>
    cases w with
    |true=>rfl
    |false=>rfl
   |none=>rfl
  .funext d
   cases d.1 with
   |some r=>rfl
   |none=>
    dsimp only;refine aLP λ_=>?_;congr 1
    .congr 1
     funext _ e
     congr 1
     all_goals
      unfold lo1;refine aLP λ_=>aLP λy=>aLP λr=>?_;cases r with
      |none=>rfl
      |some k=>
       dsimp only;congr 1
       .congr 1
        congr 1
        unfold lo2;refine aLP λx=>?_;congr 1
        refine aLP λy=>aLP λr=>?_;cases r with
        |none=>rfl
        |some k1=>rfl
       .unfold lo2;refine aLP λx=>?_;congr 1
        refine aLP λy=>aLP λr=>?_;cases r with
        |none=>rfl
        |some k1=>rfl
    .funext e
     cases e.1 with
     |some r=>rfl
     |none=>rfl
 .funext c
  cases c.1 with
  |some r=>rfl
  |none=>rfl
def Sm(st st':SortSt):Prop:=kindOf st'=kindOf st/\arrOf st'=arrOf st/\pendingOf st'=pendingOf st/\failedOf st'=failedOf st
theorem Sm.refl(st:SortSt):Sm st st:=⟨rfl,rfl,rfl,rfl⟩
theorem Sm.trans{a b c:SortSt}(h:Sm a b)(h':Sm b c):Sm a c:=⟨h'.1.trans h.1,h'.2.1.trans h.2.1,h'.2.2.1.trans h.2.2.1,h'.2.2.2.trans h.2.2.2⟩
section
variable{prog:Program}{w:World}{A:Around}{E:Value->Shared->Prop}{s:Shared}{a₀:Array Keyed}{κ:SortKind}{ρ:aA.RR}{a b:Array Keyed}
theorem Kf{st:SortSt}{g:Nat}{Q:Unit->SortSt->Prop}(h:∀st',Sm st st'->Q () st'):wpS (model prog w) A E s (ZR g) Q st:=by
 rw[ZbS];exact baB (h _ ⟨rfl,rfl,rfl,rfl⟩)
theorem Q7(h:a.toList.Pairwise (Lk ρ))(i j:Nat):dZ ρ a i (i+(a.size-i)):=by
 intro x y hx hxy hy;have hy':y<a.size:=by lia
 rw[bD (show x<a.size by lia),bD hy'];by_cases e:x=y
 .subst e;lia
 .exact a5j.1 h x y (by simpa using(show x<a.size by lia)) (by simpa using hy') (by lia)
theorem ZeR{i:Nat}{x:Keyed}(h:x∈a.toList.drop i):∃j,∃hj:i+j<a.size,x=a[i+j]:=by
 obtain⟨j,hj,e⟩:=aHz.1 h;rw[aLq,aTi]at hj;refine⟨j,by lia,?_⟩;rw[<-e,getElem_drop,aL6]
theorem ZeS{i k:Nat}{x:Keyed}(h:x∈(a.toList.drop i).take k):∃j,j<k/\∃hj:i+j<a.size,x=a[i+j]:=by
 obtain⟨j,hj,e⟩:=aHz.1 h;rw[a1R,aLq,aTi]at hj;refine⟨j,by lia,by lia,?_⟩;rw[<-e,getElem_take,getElem_drop,aL6]
theorem Cut.low{left:Bool}{kv:Int}{i k:Nat}(h:Cut ρ left kv a i (a.size-i) k){x:Keyed}(hx:x∈(a.toList.drop i).take k):ρ.g x<=kv:=by
 obtain⟨j,hj,hs,rfl⟩:=ZeS hx;have:=h.lo j hj;unfold Bd at this;rw[bD hs]at this;cases left with
 |true=>simp only[ban,aOt]at this;lia
 |false=>simp only[aLx,bdb,a2I,a9V]at this;lia
theorem Cut.high{left:Bool}{kv:Int}{i k:Nat}(h:Cut ρ left kv a i (a.size-i) k){x:Keyed}(hx:x∈a.toList.drop (i+k)):kv<=ρ.g x:=by
 obtain⟨j,hs,rfl⟩:=ZeR hx;have:=h.hi (k+j) (by lia) (by lia);unfold Bd at this;rw[show i+(k+j)=i+k+j by lia,bD hs]at this;cases left with
 |true=>simp only[ban,a9V]at this;lia
 |false=>simp only[aLx,bdb,Bool.not_eq_false',aOt]at this;lia
theorem Im{i:Nat}(hi:i<a.size):(a.toList.drop i).take 1=[a[i]]:=by
 rw[aFS (by simpa using hi)];rfl
theorem KS{i:Nat}(hi:i<a.size)(h:(a.toList.drop i).Pairwise (Lk ρ)){x:Keyed}(hx:x∈a.toList.drop i):ρ.g a[i]<=ρ.g x:=by
 rw[aFS (by simpa using hi)]at h hx;rcases aCP.1 hx with rfl|hx
 .exact aHu _
 .exact (acQ.1 h).1 x hx
structure EG(ρ:aA.RR)(a₀ a b:Array Keyed):Prop where
 ma:∀p∈a.toList,p∈a₀.toList
 mb:∀p∈b.toList,p∈a₀.toList
 sa:a.toList.Pairwise (Lk ρ)
 sb:b.toList.Pairwise (Lk ρ)
 last:∀y∈b.toList,∀x∈a.toList.drop (a.size-1),ρ.g y<=ρ.g x
def Jm(ρ:aA.RR)(a b:Array Keyed)(m:Nat)(out:Array Keyed)(ia ib:Nat):Prop:=MI ρ a.toList b.toList out.toList ia ib/\m<=ia+ib/\ia+1<a.size/\ib<b.size
def UH(ρ:aA.RR)(a b:Array Keyed)(m:Nat)(c:vd):Prop:=(∃r q,c=(some r,q)/\Res ρ a.toList b.toList r)\/∃out ia ib g k k1,c=(none,out,ia,ib,g,k,k1)/\Jm ρ a b m out ia ib
def OE(ρ:aA.RR)(a b:Array Keyed)(m:Nat)(st:SortSt)(r:ForInStep vd)(st':SortSt):Prop:=Sm st st'/\match r with
 | .done c=>UH ρ a b m c
 | .yield c=>∃out ia ib g k k1,c=(none,out,ia,ib,g,k,k1)/\Jm ρ a b m out ia ib
theorem MI.nB{out:Array Keyed}{ia ib:Nat}(h:MI ρ a.toList b.toList out.toList ia ib)(hi:ia<a.size)(hk:∀x∈b.toList.drop ib,ρ.g a[ia]<=ρ.g x):MI ρ a.toList b.toList (out.push a[ia]).toList (ia+1) ib:=by
 have:=h.mW 1 (by rw[Im hi];intro t ht x hx;rw[bau.1 ht];exact hk x hx);rw[Im hi]at this;rw[a2o];exact this
theorem MI.nA{out:Array Keyed}{ia ib:Nat}(h:MI ρ a.toList b.toList out.toList ia ib)(hi:ib<b.size)(hk:∀x∈a.toList.drop ia,ρ.g b[ib]<=ρ.g x):MI ρ a.toList b.toList (out.push b[ib]).toList ia (ib+1):=by
 have:=h.jc 1 (by rw[Im hi];intro t ht x hx;rw[bau.1 ht];exact hk x hx);rw[Im hi]at this;rw[a2o];exact this
theorem Q6{cT st:SortSt}{out:Array Keyed}{ia ib g k k1 m:Nat}(T:EG ρ a₀ a b)(hS:Sm cT st)(h:Jm ρ a b m out ia ib)(hk:∀x∈b.toList.drop ib,ρ.g (a[ia]'(by have:=h.2.2.1;lia))<=ρ.g x):wpS (model prog w) A E s (JK a b out ia ib g k k1) (OE ρ a b (m+1) cT) st:=by
 obtain⟨M,hm,ha,hb⟩:=h;have xr:ia<a.size:=by lia
 unfold JK;refine a9z (Zx xr ?_);have M2:=M.nB xr hk;by_cases e:ia+1+1=a.size
 .rw [aYH (by simpa using e)];exact ahi ⟨hS,.inl ⟨_,_,rfl,M2.last T.last e⟩⟩
 .rw [aoK (by simpa using e)];have J:Jm ρ a b (m+1) (out.push a[ia]) (ia+1) ib:=⟨M2,by lia,by lia,hb⟩;by_cases c:(decide (k<7) && decide (k1<7))=true
  .rw [aYH c];exact ahi ⟨hS,.inr ⟨_,_,_,_,_,_,rfl,J⟩⟩
  .rw [aoK c];exact ahi ⟨hS,_,_,_,_,_,_,rfl,J⟩
theorem Q5{cT st:SortSt}{out:Array Keyed}{ia ib g k bc m:Nat}(h0:aA.j5 prog w A s κ ρ a₀)(hk:kindOf st=κ)(T:EG ρ a₀ a b)(hS:Sm cT st)(h:Jm ρ a b m out ia ib)(hq:∀x∈a.toList.drop ia,ρ.g (b[ib]'(h.2.2.2))<=ρ.g x):wpS (model prog w) A E s (lo2 a b out ia ib g k bc) (OE ρ a b (m+1) cT) st:=by
 obtain⟨M,hm,ha,hb⟩:=h;have xr:ia<a.size:=by lia
 unfold lo2;refine a9z (Zx hb ?_);have M2:=M.nA hb hq;by_cases e:ib+1=b.size
 .rw [aYH (by simpa using e)];exact ahi ⟨hS,.inl ⟨_,_,rfl,M2.res (.inr (aZA (by simp;lia)))⟩⟩
 .rw [aoK (by simpa using e)];refine a9z (Zx xr ?_);refine a9z (EE hk h0 T.mb (T.ma _ (by simp)) (by lia) (by lia) (Q7 T.sb _ 0) (λk1 C=>?_));dsimp only;have fa:∀x∈a.toList.drop ia,ρ.g a[ia]<=ρ.g x:=λx hx=>KS xr (aQh (drop_sublist _ _) T.sa) hx;have M3:=M2.jc k1 (λt ht x hx=>a5K (C.low ht) (fa x hx));rw[<-NJ,<-avZ]at M3;have hi:∀x∈b.toList.drop (ib+1+k1),ρ.g a[ia]<=ρ.g x:=λx hx=>C.high hx;by_cases c:k1>0
  .rw [aYH c];by_cases e2:ib+1+k1=b.size
   .rw [aYH (by simpa using e2)];exact ahi ⟨hS,.inl ⟨_,_,rfl,M3.res (.inr (aZA (by simp;lia)))⟩⟩
   .rw [aoK (by simpa using e2)];have:=C.le;exact Q6 T hS ⟨M3,by lia,ha,by lia⟩ hi
  .rw [aoK c];have e3:k1=0:=by lia
   subst e3;exact Q6 T hS ⟨M2,by lia,ha,by lia⟩ hi
theorem ZlG{cT st:SortSt}{out:Array Keyed}{ia ib g ac bc m:Nat}(h0:aA.j5 prog w A s κ ρ a₀)(hk:kindOf st=κ)(T:EG ρ a₀ a b)(hS:Sm cT st)(h:Jm ρ a b m out ia ib):wpS (model prog w) A E s (lo1 a b out ia ib g ac bc) (OE ρ a b (m+1) cT) st:=by
 obtain⟨M,hm,ha,hb⟩:=h;have xr:ia<a.size:=by lia
 unfold lo1;refine a9z (Kf λst1 CG=>?_);have hk1:kindOf st1=κ:=CG.1.trans hk;have vp:=hS.trans CG;refine a9z (Zx hb ?_);refine a9z (EE hk1 h0 T.ma (T.mb _ (by simp)) (by lia) (by lia) (Q7 T.sa _ 0) (λk C=>?_));dsimp only;have fb:∀x∈b.toList.drop ib,ρ.g b[ib]<=ρ.g x:=λx hx=>KS hb (aQh (drop_sublist _ _) T.sb) hx;have M3:=M.mW k (λt ht x hx=>a5K (C.low ht) (fb x hx));rw[<-NJ,<-avZ]at M3;have hi:∀x∈a.toList.drop (ia+k),ρ.g b[ib]<=ρ.g x:=λx hx=>C.high hx;have:=C.le;by_cases c:k>0
 .rw [aYH c];by_cases e2:ia+k+1=a.size
  .rw [aYH (by simpa using e2)];exact ahi ⟨vp,.inl ⟨_,_,rfl,M3.last T.last e2⟩⟩
  .rw [aoK (by simpa using e2)];by_cases e3:ia+k=a.size
   .rw [aYH (by simpa using e3)];exact ahi ⟨vp,.inl ⟨_,_,rfl,M3.res (.inl (aZA (by simp;lia)))⟩⟩
   .rw [aoK (by simpa using e3)];exact Q5 h0 hk1 T vp ⟨M3,by lia,by lia,hb⟩ hi
 .rw [aoK c];have e3:k=0:=by lia
  subst e3;exact Q5 h0 hk1 T vp ⟨M,by lia,ha,hb⟩ hi
def UQ(ρ:aA.RR)(a b:Array Keyed)(m:Nat)(c:Ae):Prop:=(∃r q,c=(some r,q)/\Res ρ a.toList b.toList r)\/∃out ia ib k k1,c=(none,out,ia,ib,k,k1)/\Jm ρ a b m out ia ib
theorem ZlH{st:SortSt}{out:Array Keyed}{mg ia ib ac bc m:Nat}(h0:aA.j5 prog w A s κ ρ a₀)(hk:kindOf st=κ)(T:EG ρ a₀ a b)(h:Jm ρ a b m out ia ib):wpS (model prog w) A E s (JJ a b mg (none,out,ia,ib,ac,bc)) (λr st'=>st'=st/\match r with
  | .done c=>UQ ρ a b (m+1) c
  | .yield c=>∃out ia ib k k1,c=(none,out,ia,ib,k,k1)/\Jm ρ a b (m+1) out ia ib) st:=by
 obtain⟨M,hm,ha,hb⟩:=h;have xr:ia<a.size:=by lia
 have fa:∀x∈a.toList.drop ia,ρ.g a[ia]<=ρ.g x:=λx hx=>KS xr (aQh (drop_sublist _ _) T.sa) hx;have fb:∀x∈b.toList.drop ib,ρ.g b[ib]<=ρ.g x:=λx hx=>KS hb (aQh (drop_sublist _ _) T.sb) hx;unfold JJ;dsimp only;refine a9z (Zx hb (a9z (Zx xr (a9z (qE hk h0 (T.mb _ (by simp)) (T.ma _ (by simp)) ?_)))));dsimp only;by_cases c:ρ.g b[ib]<ρ.g a[ia]
 .rw [aSJ c,aYH rfl];refine a9z (Zx hb ?_);have M2:=M.nA hb (λx hx=>by have:=fa x hx;lia);by_cases e:ib+1=b.size
  .rw [aYH (by simpa using e)];exact ahi ⟨rfl,.inl ⟨_,_,rfl,M2.res (.inr (aZA (by simp;lia)))⟩⟩
  .rw [aoK (by simpa using e)];have J:Jm ρ a b (m+1) (out.push b[ib]) ia (ib+1):=⟨M2,by lia,ha,by lia⟩;by_cases c2:bc+1 ≥ mg
   .rw [aYH c2];exact ahi ⟨rfl,.inr ⟨_,_,_,_,_,rfl,J⟩⟩
   .rw [aoK c2];exact ahi ⟨rfl,_,_,_,_,_,rfl,J⟩
 .rw [bcN c,aoK (by simp)];refine a9z (Zx xr ?_);have M2:=M.nB xr (λx hx=>by have:=fb x hx;lia);by_cases e:ia+1+1=a.size
  .rw [aYH (by simpa using e)];exact ahi ⟨rfl,.inl ⟨_,_,rfl,M2.last T.last e⟩⟩
  .rw [aoK (by simpa using e)];have J:Jm ρ a b (m+1) (out.push a[ia]) (ia+1) ib:=⟨M2,by lia,by lia,hb⟩;by_cases c2:ac+1 ≥ mg
   .rw [aYH c2];exact ahi ⟨rfl,.inr ⟨_,_,_,_,_,rfl,J⟩⟩
   .rw [aoK c2];exact ahi ⟨rfl,_,_,_,_,_,rfl,J⟩
theorem Jm.weak{m m':Nat}{out:Array Keyed}{ia ib:Nat}(h:Jm ρ a b m out ia ib)(hm:m'<=m):Jm ρ a b m' out ia ib:=⟨h.1,by have:=h.2.1;lia,h.2.2.1,h.2.2.2⟩
theorem ZlI{st:SortSt}{out:Array Keyed}{ia ib g m:Nat}(h0:aA.j5 prog w A s κ ρ a₀)(hk:kindOf st=κ)(T:EG ρ a₀ a b)(h:Jm ρ a b m out ia ib):wpS (model prog w) A E s (JI a b (none,out,ia,ib,g)) (λr st'=>Sm st st'/\match r with
  | .done c=>∃r q,c=(some r,q)/\Res ρ a.toList b.toList r
  | .yield c=>∃out ia ib g,c=(none,out,ia,ib,g)/\Jm ρ a b (m+1) out ia ib) st:=by
 have pos:0<a.size+b.size:=by have:=h.2.2.1;lia
 unfold JI;dsimp only;refine a9z (aAw (aOS (I:=λx c st2=>st2=st/\∃out ia ib k k1,c=(none,out,ia,ib,k,k1)/\Jm ρ a b (m+x) out ia ib) (Q:=λc st2=>st2=st/\UQ ρ a b (m+1) c) ?turn ?last ?first) ?after)
 case first=>exact⟨rfl,_,_,_,_,_,rfl,h⟩
 case last=>
  rintro c st2 ⟨rfl,out,ia,ib,k,k1,rfl,J⟩;exact⟨rfl,.inr ⟨_,_,_,_,_,rfl,J.weak (by lia)⟩⟩
 case turn=>
  rintro x c st2 _ hx ⟨rfl,out,ia,ib,k,k1,rfl,J⟩;refine aAw (ZlH h0 hk T J) ?_;rintro r st3 ⟨rfl,hr⟩;cases r with
  |done c=>
   refine⟨rfl,?_⟩;rcases hr with hr|⟨out,ia,ib,k,k1,rfl,J⟩
   .exact .inl hr
   .exact .inr ⟨_,_,_,_,_,rfl,J.weak (by lia)⟩
  |yield c=>exact⟨rfl,hr⟩
 case after=>
  rintro c st2 ⟨rfl,hc⟩;rcases hc with⟨r,q,rfl,R⟩|⟨out,ia,ib,k,k1,rfl,J⟩
  .exact ahi ⟨Sm.refl _,_,_,rfl,R⟩
  .dsimp only;refine a9z (wpS_lift (aiy ⟨rfl,?_⟩));refine a9z (aAw (aOS (I:=λx c st3=>Sm st2 st3/\∃out ia ib g k k1,c=(none,out,ia,ib,g,k,k1)/\Jm ρ a b (m+x) out ia ib) (Q:=λc st3=>Sm st2 st3/\UH ρ a b (m+1) c) ?jturn ?jlast ?jfirst) ?jafter)
   case jfirst=>exact⟨Sm.refl _,_,_,_,_,_,_,rfl,J.weak (by lia)⟩
   case jlast=>
    rintro c st3 ⟨hS,out,ia,ib,g,k,k1,rfl,J⟩;exact⟨hS,.inr ⟨_,_,_,_,_,_,rfl,J.weak (by lia)⟩⟩
   case jturn=>
    rintro x c st3 _ hx ⟨hS,out,ia,ib,g,k,k1,rfl,J⟩;have MA:kindOf st3=κ:=hS.1.trans hk;dsimp only;rw[show(if g>1 then lo1 a b out ia ib (g-1) k k1 else lo1 a b out ia ib g k k1)=lo1 a b out ia ib (if g>1 then g-1 else g) k k1 by split <;> rfl];refine aAw (ZlG h0 MA T hS J) ?_;rintro r cR ⟨xD,hr⟩;cases r with
    |done c=>
     refine⟨xD,?_⟩;rcases hr with hr|⟨out,ia,ib,g,k,k1,rfl,J⟩
     .exact .inl hr
     .exact .inr ⟨_,_,_,_,_,_,rfl,J.weak (by lia)⟩
    |yield c=>exact⟨xD,hr⟩
   case jafter=>
    rintro c st3 ⟨hS,hc⟩;rcases hc with⟨r,q,rfl,R⟩|⟨out,ia,ib,g,k,k1,rfl,J⟩
    .exact ahi ⟨hS,_,_,rfl,R⟩
    .refine a9z (Kf λcR xD=>ahi ⟨hS.trans xD,_,_,_,_,rfl,J⟩)
theorem ZgO{st:SortSt}{Q:Array Keyed->SortSt->Prop}(h0:aA.j5 prog w A s κ ρ a₀)(hk:kindOf st=κ)(T:EG ρ a₀ a b)(ha:0<a.size)(hb:0<b.size)(hf:∀x∈a.toList,ρ.g b[0]<=ρ.g x)
  (h:∀r st',Sm st st'->Res ρ a.toList b.toList r->Q r st'):wpS (model prog w) A E s (N1 a b) Q st:=by
 refine ZgN _ _ ?_;refine a9z (wpS_lift (aiy ⟨rfl,?_⟩));refine a9z (Zx hb ?_);have M0:MI ρ a.toList b.toList (#[]:Array Keyed).toList 0 0:=⟨by simp,by simpa using T.sa,by simpa using T.sb⟩;have M1:MI ρ a.toList b.toList (#[b[0]]:Array Keyed).toList 0 1:=M0.nA hb (λx hx=>hf x (by simpa using hx));by_cases e1:1=b.size
 .rw [aYH (by simpa using e1)];exact ahi (h _ _ (Sm.refl _) (M1.res (.inr (aZA (by simp;lia)))))
 .rw [aoK (by simpa using e1)];by_cases e2:0+1=a.size
  .rw [aYH (by simpa using e2)];exact ahi (h _ _ (Sm.refl _) (M1.last T.last e2))
  .rw [aoK (by simpa using e2)];refine a9z (aRo ?_);refine a9z (aAw (aOS (I:=λx c st2=>Sm st st2/\∃out ia ib g,c=(none,out,ia,ib,g)/\Jm ρ a b (x+1) out ia ib) (Q:=λc st2=>Sm st st2/\∃r q,c=(some r,q)/\Res ρ a.toList b.toList r) ?turn ?last ?first) ?after)
   case first=>exact⟨Sm.refl _,_,_,_,_,rfl,M1,by lia,by lia,by lia⟩
   case last=>
    rintro c st2 ⟨_,out,ia,ib,g,rfl,J⟩;have:=J.2.1;have:=J.2.2.1;have:=J.2.2.2;lia
   case turn=>
    rintro x c st2 _ hx ⟨hS,out,ia,ib,g,rfl,J⟩;refine aAw (ZlI h0 (hS.1.trans hk) T J) ?_;rintro r st3 ⟨CF,hr⟩;cases r with
    |done c=>exact⟨hS.trans CF,hr⟩
    |yield c=>exact⟨hS.trans CF,hr⟩
   case after=>
    rintro c st2 ⟨hS,r,q,rfl,R⟩;exact ahi (h r st2 hS R)
end
structure MH(ρ:aA.RR)(A B O:List Keyed)(na nb:Nat):Prop where
 perm:(A.take na++B.take nb++O).Perm (A++B)
 sa:(A.take na++O).Pairwise (Lk ρ)
 sb:(B.take nb++O).Pairwise (Lk ρ)
section
variable{ρ:aA.RR}{A B O:List Keyed}{na nb:Nat}
theorem MH.jc(h:MH ρ A B O na nb)(k:Nat)(hkn:k<=nb)(hk:∀t∈(B.take nb).drop k,∀x∈A.take na,ρ.g x<=ρ.g t):MH ρ A B ((B.take nb).drop k++O) na k:=by
 have e:B.take k=(B.take nb).take k:=by rw[List.take_take,Nat.min_eq_left hkn]
 have s:=h.sb;have p:=h.perm;rw[<-aAI k (B.take nb),azO]at s;rw[<-aAI k (B.take nb)]at p;refine⟨?_,?_,?_⟩
 .rw [e];refine List.Perm.trans ?_ p;simp only[azO];exact aEu _
 .have s1:=(aDY.1 s).2.1;have a1:=aDY.1 h.sa;refine aDY.2 ⟨a1.1,s1,λx hx y hy=>?_⟩;rcases aUH.1 hy with hy|hy
  .exact hk y hy x hx
  .exact a1.2.2 x hx y hy
 .rw [e];exact s
theorem MH.mW(h:MH ρ A B O na nb)(k:Nat)(hkn:k<=na)(hk:∀t∈(A.take na).drop k,∀x∈B.take nb,ρ.g x<=ρ.g t):MH ρ A B ((A.take na).drop k++O) k nb:=by
 have h2:MH ρ B A O nb na:=⟨List.Perm.trans (amH.append_right _) (List.Perm.trans h.perm amH),h.sb,h.sa⟩;have h3:=h2.jc k hkn hk;exact⟨List.Perm.trans (amH.append_right _) (List.Perm.trans h3.perm amH),h3.sb,h3.sa⟩
theorem ug(a:Array Keyed)(k:Nat):(a.extract 0 k).toList=a.toList.take k:=by
 rw[a4t,List.extract_eq_drop_take,List.drop_zero,Nat.sub_zero]
theorem En(a:Array Keyed)(i k:Nat):(a.extract i k).toList=(a.toList.take k).drop i:=by
 rw[a4t,List.extract_eq_drop_take,drop_take]
theorem MH.res{a b out:Array Keyed}(h:MH ρ a.toList b.toList out.toList.reverse na nb)(he:na=0\/nb=0):Res ρ a.toList b.toList (a.extract 0 na++b.extract 0 nb++out.reverse):=by
 unfold Res;rw[avZ,avZ,ug,ug,aoh];refine⟨h.perm,?_⟩;rcases he with rfl|rfl
 .rw [take_zero,List.nil_append];exact h.sb
 .rw [take_zero,bah];exact h.sa
theorem MH.first{a b out:Array Keyed}(h:MH ρ a.toList b.toList out.toList.reverse na 1)(hl:∀y∈b.toList.take 1,∀x∈a.toList,ρ.g y<=ρ.g x):Res ρ a.toList b.toList (b.extract 0 1++a.extract 0 na++out.reverse):=by
 have h2:=h.mW 0 (abf _) (λt ht x hx=>hl x hx t (List.mem_of_mem_take (List.mem_of_mem_drop ht)));rw[List.drop_zero]at h2;unfold Res;rw[avZ,avZ,ug,ug,aoh];have p:=h2.perm;have s:=h2.sb;rw[take_zero,List.nil_append,<-azO]at p;rw[<-azO]at s;exact⟨p,s⟩
end
abbrev vf:=Option (Array Keyed)×Nat×Nat×Array Keyed×Nat×Nat×Nat
def JW(a b:Array Keyed)(na nb:Nat)(out:Array Keyed)(g k k1:Nat):StateT SortSt Sem (ForInStep vf):=do
 let x <-elem' a (na-1)
 if na-1 ==0 then pure (.done (some (a.extract 0 (na-1)++b.extract 0 nb++(out.push x).reverse),na-1,nb,out.push x,g,k,k1))
 else if k<7 && k1<7 then pure (.done (none,na-1,nb,out.push x,g,k,k1)) else pure (.yield (none,na-1,nb,out.push x,g,k,k1))
def hi2(a b:Array Keyed)(na nb:Nat)(out:Array Keyed)(g k bc:Nat):StateT SortSt Sem (ForInStep vf):=do
 let x <-elem' b (nb-1)
 if nb-1 ==1 then pure (.done (some (b.extract 0 (nb-1)++a.extract 0 na++(out.push x).reverse),na,nb-1,out.push x,g,k,bc))
 else do
  let y <-elem' a (na-1)
  let r <-Es true y b 0 (nb-1) (nb-1-1)
  match r with
  |some i=>
   if nb-1-i>0 then
    if i ==1 then pure (.done (some (b.extract 0 i++a.extract 0 na++(out.push x++(b.extract i (nb-1)).reverse).reverse),na,i,out.push x++(b.extract i (nb-1)).reverse,g,k,nb-1-i))
    else if i ==0 then pure (.done (some (a.extract 0 na++b.extract 0 i++(out.push x++(b.extract i (nb-1)).reverse).reverse),na,i,out.push x++(b.extract i (nb-1)).reverse,g,k,nb-1-i))
    else JW a b na i (out.push x++(b.extract i (nb-1)).reverse) g k (nb-1-i)
   else JW a b na (nb-1) (out.push x) g k (nb-1-i)
  |none=>pure (.done (some (a.extract 0 na++b.extract 0 (nb-1)++(out.push x).reverse),na,nb-1,out.push x,g,k,bc))
def hi1(a b:Array Keyed)(na nb:Nat)(out:Array Keyed)(g ac bc:Nat):StateT SortSt Sem (ForInStep vf):=do
 ZR g
 let y <-elem' b (nb-1)
 let r <-Es false y a 0 na (na-1)
 match r with
 |some i=>
  if na-i>0 then
   if i ==0 then pure (.done (some (a.extract 0 i++b.extract 0 nb++(out++(a.extract i na).reverse).reverse),i,nb,out++(a.extract i na).reverse,g,na-i,bc))
   else hi2 a b i nb (out++(a.extract i na).reverse) g (na-i) bc
  else hi2 a b na nb out g (na-i) bc
 |none=>pure (.done (some (a.extract 0 na++b.extract 0 nb++out.reverse),na,nb,out,g,ac,bc))
abbrev Ad:=Option (Array Keyed)×Nat×Nat×Array Keyed×Nat×Nat
def JV(a b:Array Keyed)(mg:Nat)(c:Ad):StateT SortSt Sem (ForInStep Ad):=do
 let y <-elem' b (c.2.2.1-1)
 let x <-elem' a (c.2.1-1)
 let r <-lt' y x
 match r with
 |some w=>
  if w then do
   let x <-elem' a (c.2.1-1)
   if c.2.1-1 ==0 then pure (.done (some (a.extract 0 (c.2.1-1)++b.extract 0 c.2.2.1++(c.2.2.2.1.push x).reverse),c.2.1-1,c.2.2.1,c.2.2.2.1.push x,c.2.2.2.2.1+1,0))
   else if c.2.2.2.2.1+1 ≥ mg then pure (.done (none,c.2.1-1,c.2.2.1,c.2.2.2.1.push x,c.2.2.2.2.1+1,0))
   else pure (.yield (none,c.2.1-1,c.2.2.1,c.2.2.2.1.push x,c.2.2.2.2.1+1,0))
  else do
   let y <-elem' b (c.2.2.1-1)
   if c.2.2.1-1 ==1 then pure (.done (some (b.extract 0 (c.2.2.1-1)++a.extract 0 c.2.1++(c.2.2.2.1.push y).reverse),c.2.1,c.2.2.1-1,c.2.2.2.1.push y,0,c.2.2.2.2.2+1))
   else if c.2.2.2.2.2+1 ≥ mg then pure (.done (none,c.2.1,c.2.2.1-1,c.2.2.2.1.push y,0,c.2.2.2.2.2+1))
   else pure (.yield (none,c.2.1,c.2.2.1-1,c.2.2.2.1.push y,0,c.2.2.2.2.2+1))
 |none=>pure (.done (some (a.extract 0 c.2.1++b.extract 0 c.2.2.1++c.2.2.2.1.reverse),c.2.1,c.2.2.1,c.2.2.2.1,c.2.2.2.2.1,c.2.2.2.2.2))
abbrev DB:=Option (Array Keyed)×Nat×Nat×Array Keyed×Nat
def JU(a b:Array Keyed)(c:DB):StateT SortSt Sem (ForInStep DB):=do
 let d <-forIn [0:a.size+b.size] ((none,c.2.1,c.2.2.1,c.2.2.2.1,0,0):Ad) (λ_ d=>JV a b c.2.2.2.2 d)
 match d.1 with
 |some r=>pure (.done (some r,d.2.1,d.2.2.1,d.2.2.2.1,c.2.2.2.2))
 |none=>do
  rule "list.sort.gallop"
  let e <-forIn [0:a.size+b.size] ((none,d.2.1,d.2.2.1,d.2.2.2.1,c.2.2.2.2+1,d.2.2.2.2.1,d.2.2.2.2.2):vf) (λ_ e=>if e.2.2.2.2.1>1 then hi1 a b e.2.1 e.2.2.1 e.2.2.2.1 (e.2.2.2.2.1-1) e.2.2.2.2.2.1 e.2.2.2.2.2.2 else hi1 a b e.2.1 e.2.2.1 e.2.2.2.1 e.2.2.2.2.1 e.2.2.2.2.2.1 e.2.2.2.2.2.2)
  match e.1 with
  |some r=>pure (.done (some r,e.2.1,e.2.2.1,e.2.2.2.1,e.2.2.2.2.1))
  |none=>do
   ZR (e.2.2.2.2.1+1)
   pure (.yield (none,e.2.1,e.2.2.1,e.2.2.2.1,e.2.2.2.2.1+1))
theorem ZgP{M:Model}{A:Around}{E:Value->Shared->Prop}{s:Shared}{Q:Array Keyed->SortSt->Prop}{st:SortSt}(a b:Array Keyed)(h:wpS M A E s (do
 rule "list.sort.merge-hi"
 let x <-elem' a (a.size-1)
 if a.size-1 ==0 then pure (a.extract 0 (a.size-1)++b.extract 0 b.size++#[x].reverse)
 else if b.size ==1 then pure (b.extract 0 b.size++a.extract 0 (a.size-1)++#[x].reverse)
 else do
  let st <-get
  let c <-forIn [0:a.size+b.size] ((none,a.size-1,b.size,#[x],gallopOf st):DB) (λ_ c=>JU a b c)
  match c.1 with
  |some r=>pure r
  |none=>unsupported "internal:list.sort.merge-bound") Q st):wpS M A E s (NZ a b) Q st:=by
 show wpAny M A (NZ a b st) _ E s
 wp_delta
 wp_delta
 refine xM ?_ h;dsimp only;refine aLP λ_=>aLP λx=>?_;congr 1
 congr 1
 refine aLP λst=>?_;congr 1
 .congr 1
  funext _ c
  unfold JU;congr 1
  .congr 1
   funext _ d
   unfold JV;refine aLP λy=>aLP λx=>aLP λr=>?_;cases r with
   |some w=>
    cases w with
    |true=>rfl
    |false=>rfl
   |none=>rfl
  .funext d
   cases d.1 with
   |some r=>rfl
   |none=>
    dsimp only;refine aLP λ_=>?_;congr 1
    .congr 1
     funext _ e
     congr 1
     all_goals
      unfold hi1;refine aLP λ_=>aLP λy=>aLP λr=>?_;cases r with
      |none=>rfl
      |some k=>
       dsimp only;congr 1
       .congr 1
        unfold hi2;refine aLP λx=>?_;congr 1
        refine aLP λy=>aLP λr=>?_;cases r with
        |none=>rfl
        |some k1=>rfl
       .unfold hi2;refine aLP λx=>?_;congr 1
        refine aLP λy=>aLP λr=>?_;cases r with
        |none=>rfl
        |some k1=>rfl
    .funext e
     cases e.1 with
     |some r=>rfl
     |none=>rfl
 .funext c
  cases c.1 with
  |some r=>rfl
  |none=>rfl
section
variable{prog:Program}{w:World}{A:Around}{E:Value->Shared->Prop}{s:Shared}{a₀:Array Keyed}{κ:SortKind}{ρ:aA.RR}{a b:Array Keyed}
theorem Np(h:a.toList.Pairwise (Lk ρ)){n:Nat}(hn:n<=a.size):dZ ρ a 0 (0+n):=by
 intro x y hx hxy hy;have hy':y<a.size:=by lia
 rw[bD (show x<a.size by lia),bD hy'];by_cases e:x=y
 .subst e;lia
 .exact a5j.1 h x y (by simpa using(show x<a.size by lia)) (by simpa using hy') (by lia)
theorem Nn{n:Nat}{x:Keyed}(h:x∈a.toList.take n):∃j,j<n/\∃hj:j<a.size,x=a[j]:=by
 obtain⟨j,hj,e⟩:=aHz.1 h;rw[a1R,aTi]at hj;refine⟨j,by lia,by lia,?_⟩;rw[<-e,getElem_take,aL6]
theorem NI{i n:Nat}{x:Keyed}(h:x∈(a.toList.take n).drop i):∃j,i<=j/\j<n/\∃hj:j<a.size,x=a[j]:=by
 obtain⟨j,hj,e⟩:=aHz.1 h;rw[aLq,a1R,aTi]at hj;refine⟨i+j,by lia,by lia,by lia,?_⟩;rw[<-e,getElem_drop,getElem_take,aL6]
theorem Cut.Gn{left:Bool}{kv:Int}{n k:Nat}(h:Cut ρ left kv a 0 n k){x:Keyed}(hx:x∈a.toList.take k):ρ.g x<=kv:=by
 obtain⟨j,hj,hs,rfl⟩:=Nn hx;have:=h.lo j hj;unfold Bd at this;simp only[aaD]at this;rw[bD hs]at this;cases left with
 |true=>simp only[ban,aOt]at this;lia
 |false=>simp only[aLx,bdb,a2I,a9V]at this;lia
theorem Cut.AY{left:Bool}{kv:Int}{n k:Nat}(h:Cut ρ left kv a 0 n k){x:Keyed}(hx:x∈(a.toList.take n).drop k):kv<=ρ.g x:=by
 obtain⟨j,hk,hj,hs,rfl⟩:=NI hx;have:=h.hi j hk hj;unfold Bd at this;simp only[aaD]at this;rw[bD hs]at this;cases left with
 |true=>simp only[ban,a9V]at this;lia
 |false=>simp only[aLx,bdb,Bool.not_eq_false',aOt]at this;lia
theorem KR{n:Nat}(hn:0<n)(hs:n<=a.size):(a.toList.take n).drop (n-1)=[a[n-1]]:=by
 rw[drop_take,show n-(n-1)=1 by lia];exact Im (by lia)
theorem Ku{n:Nat}(hn:0<n)(hs:n<=a.size)(h:a.toList.Pairwise (Lk ρ)){x:Keyed}(hx:x∈a.toList.take n):ρ.g x<=ρ.g a[n-1]:=by
 obtain⟨j,hj,hs2,rfl⟩:=Nn hx;have:=Np h hs j (n-1) (by lia) (by lia) (by lia);rw[bD hs2,bD (show n-1<a.size by lia)]at this;exact this
theorem MH.first'{out:Array Keyed}{na nb:Nat}(h:MH ρ a.toList b.toList out.toList.reverse na nb)(hl:∀y∈b.toList.take 1,∀x∈a.toList,ρ.g y<=ρ.g x)(e:nb=1):Res ρ a.toList b.toList (b.extract 0 nb++a.extract 0 na++out.reverse):=by
 subst e;exact h.first hl
structure EH(ρ:aA.RR)(a₀ a b:Array Keyed):Prop where
 ma:∀p∈a.toList,p∈a₀.toList
 mb:∀p∈b.toList,p∈a₀.toList
 sa:a.toList.Pairwise (Lk ρ)
 sb:b.toList.Pairwise (Lk ρ)
 first:∀y∈b.toList.take 1,∀x∈a.toList,ρ.g y<=ρ.g x
structure Jh(ρ:aA.RR)(a b:Array Keyed)(m na nb:Nat)(out:Array Keyed):Prop where
 M:MH ρ a.toList b.toList out.toList.reverse na nb
 bd:na+nb+m<=a.size+b.size
 la:na<=a.size
 lb:nb<=b.size
 pa:1<=na
 pb:2<=nb
theorem Jh.weak{m m' na nb:Nat}{out:Array Keyed}(h:Jh ρ a b m na nb out)(hm:m'<=m):Jh ρ a b m' na nb out:=⟨h.M,by have:=h.bd;lia,h.la,h.lb,h.pa,h.pb⟩
def UJ(ρ:aA.RR)(a b:Array Keyed)(m:Nat)(c:vf):Prop:=(∃r q,c=(some r,q)/\Res ρ a.toList b.toList r)\/∃na nb out g k k1,c=(none,na,nb,out,g,k,k1)/\Jh ρ a b m na nb out
def OG(ρ:aA.RR)(a b:Array Keyed)(m:Nat)(st:SortSt)(r:ForInStep vf)(st':SortSt):Prop:=Sm st st'/\match r with
 | .done c=>UJ ρ a b m c
 | .yield c=>∃na nb out g k k1,c=(none,na,nb,out,g,k,k1)/\Jh ρ a b m na nb out
theorem MH.nB{out:Array Keyed}{na nb:Nat}(h:MH ρ a.toList b.toList out.toList.reverse na nb)(hn:0<na)(hs:na<=a.size)(hk:∀x∈b.toList.take nb,ρ.g x<=ρ.g a[na-1]):MH ρ a.toList b.toList (out.push a[na-1]).toList.reverse (na-1) nb:=by
 have:=h.mW (na-1) (by lia) (by rw[KR hn hs];intro t ht x hx;rw[bau.1 ht];exact hk x hx);rw[KR hn hs]at this;rw[a2o,List.reverse_append];exact this
theorem MH.nA{out:Array Keyed}{na nb:Nat}(h:MH ρ a.toList b.toList out.toList.reverse na nb)(hn:0<nb)(hs:nb<=b.size)(hk:∀x∈a.toList.take na,ρ.g x<=ρ.g b[nb-1]):MH ρ a.toList b.toList (out.push b[nb-1]).toList.reverse na (nb-1):=by
 have:=h.jc (nb-1) (by lia) (by rw[KR hn hs];intro t ht x hx;rw[bau.1 ht];exact hk x hx);rw[KR hn hs]at this;rw[a2o,List.reverse_append];exact this
theorem Q4(out:Array Keyed)(i n:Nat):(out++(a.extract i n).reverse).toList.reverse=(a.toList.take n).drop i++out.toList.reverse:=by
 rw[avZ,List.reverse_append,aoh,List.reverse_reverse,En]
theorem Q3{cT st:SortSt}{out:Array Keyed}{na nb g k k1 m:Nat}(T:EH ρ a₀ a b)(hS:Sm cT st)(h:Jh ρ a b m na nb out)(hk:∀x∈b.toList.take nb,ρ.g x<=ρ.g (a[na-1]'(by have:=h.pa;have:=h.la;lia))):wpS (model prog w) A E s (JW a b na nb out g k k1) (OG ρ a b (m+1) cT) st:=by
 obtain⟨M,bd,la,lb,pa,pb⟩:=h;unfold JW;refine a9z (Zx (show na-1<a.size by lia) ?_);have M2:=M.nB (by lia) la hk;by_cases e:na-1=0
 .rw [aYH (by simpa using e)];exact ahi ⟨hS,.inl ⟨_,_,rfl,M2.res (.inl e)⟩⟩
 .rw [aoK (by simpa using e)];have J:Jh ρ a b (m+1) (na-1) nb (out.push a[na-1]):=⟨M2,by lia,by lia,lb,by lia,pb⟩;by_cases c:(decide (k<7) && decide (k1<7))=true
  .rw [aYH c];exact ahi ⟨hS,.inr ⟨_,_,_,_,_,_,rfl,J⟩⟩
  .rw [aoK c];exact ahi ⟨hS,_,_,_,_,_,_,rfl,J⟩
theorem Q2{cT st:SortSt}{out:Array Keyed}{na nb g k bc m:Nat}(h0:aA.j5 prog w A s κ ρ a₀)(hk:kindOf st=κ)(T:EH ρ a₀ a b)(hS:Sm cT st)(h:Jh ρ a b m na nb out)(hq:∀x∈a.toList.take na,ρ.g x<=ρ.g (b[nb-1]'(by have:=h.pb;have:=h.lb;lia))):wpS (model prog w) A E s (hi2 a b na nb out g k bc) (OG ρ a b (m+1) cT) st:=by
 obtain⟨M,bd,la,lb,pa,pb⟩:=h;unfold hi2;refine a9z (Zx (show nb-1<b.size by lia) ?_);have M2:=M.nA (by lia) lb hq;by_cases e:nb-1=1
 .rw [aYH (by simpa using e)];exact ahi ⟨hS,.inl ⟨_,_,rfl,M2.first' T.first e⟩⟩
 .rw [aoK (by simpa using e)];refine a9z (Zx (show na-1<a.size by lia) ?_);refine a9z (EE hk h0 T.mb (T.ma _ (by simp)) (by lia) (by lia) (Np T.sb (by lia)) (λi C=>?_));dsimp only;have fa:∀x∈a.toList.take na,ρ.g x<=ρ.g a[na-1]:=λx hx=>Ku (by lia) la T.sa hx;have ci:=C.le;have M3:=M2.jc i (by lia) (λt ht x hx=>a5K (fa x hx) (C.AY ht));rw[<-Q4]at M3;have hi:∀x∈b.toList.take i,ρ.g x<=ρ.g a[na-1]:=λx hx=>C.Gn hx;by_cases c:nb-1-i>0
  .rw [aYH c];by_cases e2:i=1
   .rw [aYH (by simpa using e2)];exact ahi ⟨hS,.inl ⟨_,_,rfl,M3.first' T.first e2⟩⟩
   .rw [aoK (by simpa using e2)];by_cases e3:i=0
    .rw [aYH (by simpa using e3)];exact ahi ⟨hS,.inl ⟨_,_,rfl,M3.res (.inr e3)⟩⟩
    .rw [aoK (by simpa using e3)];exact Q3 T hS ⟨M3,by lia,la,by lia,pa,by lia⟩ hi
  .rw [aoK c];have e3:i=nb-1:=by lia
   subst e3;exact Q3 T hS ⟨M2,by lia,la,by lia,pa,by lia⟩ hi
theorem ZlJ{cT st:SortSt}{out:Array Keyed}{na nb g ac bc m:Nat}(h0:aA.j5 prog w A s κ ρ a₀)(hk:kindOf st=κ)(T:EH ρ a₀ a b)(hS:Sm cT st)(h:Jh ρ a b m na nb out):wpS (model prog w) A E s (hi1 a b na nb out g ac bc) (OG ρ a b (m+1) cT) st:=by
 obtain⟨M,bd,la,lb,pa,pb⟩:=h;unfold hi1;refine a9z (Kf λst1 CG=>?_);have hk1:kindOf st1=κ:=CG.1.trans hk;have vp:=hS.trans CG;refine a9z (Zx (show nb-1<b.size by lia) ?_);refine a9z (EE hk1 h0 T.ma (T.mb _ (by simp)) (by lia) (by lia) (Np T.sa la) (λi C=>?_));dsimp only;have fb:∀x∈b.toList.take nb,ρ.g x<=ρ.g b[nb-1]:=λx hx=>Ku (by lia) lb T.sb hx;have ci:=C.le;have M3:=M.mW i ci (λt ht x hx=>a5K (fb x hx) (C.AY ht));rw[<-Q4]at M3;have hi:∀x∈a.toList.take i,ρ.g x<=ρ.g b[nb-1]:=λx hx=>C.Gn hx;by_cases c:na-i>0
 .rw [aYH c];by_cases e2:i=0
  .rw [aYH (by simpa using e2)];exact ahi ⟨vp,.inl ⟨_,_,rfl,M3.res (.inl e2)⟩⟩
  .rw [aoK (by simpa using e2)];exact Q2 h0 hk1 T vp ⟨M3,by lia,by lia,lb,by lia,pb⟩ hi
 .rw [aoK c];have e3:i=na:=by lia
  subst e3;exact Q2 h0 hk1 T vp ⟨M,by lia,la,lb,pa,pb⟩ hi
def UK(ρ:aA.RR)(a b:Array Keyed)(m:Nat)(c:Ad):Prop:=(∃r q,c=(some r,q)/\Res ρ a.toList b.toList r)\/∃na nb out k k1,c=(none,na,nb,out,k,k1)/\Jh ρ a b m na nb out
theorem ZlK{st:SortSt}{out:Array Keyed}{mg na nb ac bc m:Nat}(h0:aA.j5 prog w A s κ ρ a₀)(hk:kindOf st=κ)(T:EH ρ a₀ a b)(h:Jh ρ a b m na nb out):wpS (model prog w) A E s (JV a b mg (none,na,nb,out,ac,bc)) (λr st'=>st'=st/\match r with
  | .done c=>UK ρ a b (m+1) c
  | .yield c=>∃na nb out k k1,c=(none,na,nb,out,k,k1)/\Jh ρ a b (m+1) na nb out) st:=by
 obtain⟨M,bd,la,lb,pa,pb⟩:=h;have fa:∀x∈a.toList.take na,ρ.g x<=ρ.g a[na-1]:=λx hx=>Ku (by lia) la T.sa hx;have fb:∀x∈b.toList.take nb,ρ.g x<=ρ.g b[nb-1]:=λx hx=>Ku (by lia) lb T.sb hx;have ha:na-1<a.size:=by lia
 have hb:nb-1<b.size:=by lia
 unfold JV;dsimp only;refine a9z (Zx hb (a9z (Zx ha (a9z (qE hk h0 (T.mb _ (by simp)) (T.ma _ (by simp)) ?_)))));dsimp only;by_cases c:ρ.g b[nb-1]<ρ.g a[na-1]
 .rw [aSJ c,aYH rfl];refine a9z (Zx ha ?_);have M2:=M.nB (by lia) la (λx hx=>by have:=fb x hx;lia);by_cases e:na-1=0
  .rw [aYH (by simpa using e)];exact ahi ⟨rfl,.inl ⟨_,_,rfl,M2.res (.inl e)⟩⟩
  .rw [aoK (by simpa using e)];have J:Jh ρ a b (m+1) (na-1) nb (out.push a[na-1]):=⟨M2,by lia,by lia,lb,by lia,pb⟩;by_cases c2:ac+1 ≥ mg
   .rw [aYH c2];exact ahi ⟨rfl,.inr ⟨_,_,_,_,_,rfl,J⟩⟩
   .rw [aoK c2];exact ahi ⟨rfl,_,_,_,_,_,rfl,J⟩
 .rw [bcN c,aoK (by simp)];refine a9z (Zx hb ?_);have M2:=M.nA (by lia) lb (λx hx=>by have:=fa x hx;lia);by_cases e:nb-1=1
  .rw [aYH (by simpa using e)];exact ahi ⟨rfl,.inl ⟨_,_,rfl,M2.first' T.first e⟩⟩
  .rw [aoK (by simpa using e)];have J:Jh ρ a b (m+1) na (nb-1) (out.push b[nb-1]):=⟨M2,by lia,la,by lia,pa,by lia⟩;by_cases c2:bc+1 ≥ mg
   .rw [aYH c2];exact ahi ⟨rfl,.inr ⟨_,_,_,_,_,rfl,J⟩⟩
   .rw [aoK c2];exact ahi ⟨rfl,_,_,_,_,_,rfl,J⟩
theorem ZlL{st:SortSt}{out:Array Keyed}{na nb g m:Nat}(h0:aA.j5 prog w A s κ ρ a₀)(hk:kindOf st=κ)(T:EH ρ a₀ a b)(h:Jh ρ a b m na nb out):wpS (model prog w) A E s (JU a b (none,na,nb,out,g)) (λr st'=>Sm st st'/\match r with
  | .done c=>∃r q,c=(some r,q)/\Res ρ a.toList b.toList r
  | .yield c=>∃na nb out g,c=(none,na,nb,out,g)/\Jh ρ a b (m+1) na nb out) st:=by
 have pos:0<a.size+b.size:=by have:=h.la;have:=h.pa;lia
 unfold JU;dsimp only;refine a9z (aAw (aOS (I:=λx c st2=>st2=st/\∃na nb out k k1,c=(none,na,nb,out,k,k1)/\Jh ρ a b (m+x) na nb out) (Q:=λc st2=>st2=st/\UK ρ a b (m+1) c) ?turn ?last ?first) ?after)
 case first=>exact⟨rfl,_,_,_,_,_,rfl,h⟩
 case last=>
  rintro c st2 ⟨rfl,na,nb,out,k,k1,rfl,J⟩;exact⟨rfl,.inr ⟨_,_,_,_,_,rfl,J.weak (by lia)⟩⟩
 case turn=>
  rintro x c st2 _ hx ⟨rfl,na,nb,out,k,k1,rfl,J⟩;refine aAw (ZlK h0 hk T J) ?_;rintro r st3 ⟨rfl,hr⟩;cases r with
  |done c=>
   refine⟨rfl,?_⟩;rcases hr with hr|⟨na,nb,out,k,k1,rfl,J⟩
   .exact .inl hr
   .exact .inr ⟨_,_,_,_,_,rfl,J.weak (by lia)⟩
  |yield c=>exact⟨rfl,hr⟩
 case after=>
  rintro c st2 ⟨rfl,hc⟩;rcases hc with⟨r,q,rfl,R⟩|⟨na,nb,out,k,k1,rfl,J⟩
  .exact ahi ⟨Sm.refl _,_,_,rfl,R⟩
  .dsimp only;refine a9z (wpS_lift (aiy ⟨rfl,?_⟩));refine a9z (aAw (aOS (I:=λx c st3=>Sm st2 st3/\∃na nb out g k k1,c=(none,na,nb,out,g,k,k1)/\Jh ρ a b (m+x) na nb out) (Q:=λc st3=>Sm st2 st3/\UJ ρ a b (m+1) c) ?jturn ?jlast ?jfirst) ?jafter)
   case jfirst=>exact⟨Sm.refl _,_,_,_,_,_,_,rfl,J.weak (by lia)⟩
   case jlast=>
    rintro c st3 ⟨hS,na,nb,out,g,k,k1,rfl,J⟩;exact⟨hS,.inr ⟨_,_,_,_,_,_,rfl,J.weak (by lia)⟩⟩
   case jturn=>
    rintro x c st3 _ hx ⟨hS,na,nb,out,g,k,k1,rfl,J⟩;have MA:kindOf st3=κ:=hS.1.trans hk;dsimp only;rw[show(if g>1 then hi1 a b na nb out (g-1) k k1 else hi1 a b na nb out g k k1)=hi1 a b na nb out (if g>1 then g-1 else g) k k1 by split <;> rfl];refine aAw (ZlJ h0 MA T hS J) ?_;rintro r cR ⟨xD,hr⟩;cases r with
    |done c=>
     refine⟨xD,?_⟩;rcases hr with hr|⟨na,nb,out,g,k,k1,rfl,J⟩
     .exact .inl hr
     .exact .inr ⟨_,_,_,_,_,_,rfl,J.weak (by lia)⟩
    |yield c=>exact⟨xD,hr⟩
   case jafter=>
    rintro c st3 ⟨hS,hc⟩;rcases hc with⟨r,q,rfl,R⟩|⟨na,nb,out,g,k,k1,rfl,J⟩
    .exact ahi ⟨hS,_,_,rfl,R⟩
    .refine a9z (Kf λcR xD=>ahi ⟨hS.trans xD,_,_,_,_,rfl,J⟩)
theorem ZgQ{st:SortSt}{Q:Array Keyed->SortSt->Prop}(h0:aA.j5 prog w A s κ ρ a₀)(hk:kindOf st=κ)(T:EH ρ a₀ a b)(ha:0<a.size)(hb:0<b.size)(hf:∀x∈b.toList,ρ.g x<=ρ.g a[a.size-1])
  (h:∀r st',Sm st st'->Res ρ a.toList b.toList r->Q r st'):wpS (model prog w) A E s (NZ a b) Q st:=by
 refine ZgP _ _ ?_;refine a9z (wpS_lift (aiy ⟨rfl,?_⟩));refine a9z (Zx (show a.size-1<a.size by lia) ?_);have ta:a.toList.take a.size=a.toList:=aC0 (by simp);have tb:b.toList.take b.size=b.toList:=aC0 (by simp);have M0:MH ρ a.toList b.toList (#[]:Array Keyed).toList.reverse a.size b.size:=⟨by rw[ta,tb];simp,by rw[ta];simpa using T.sa,by rw[tb];simpa using T.sb⟩;have M1:MH ρ a.toList b.toList (#[a[a.size-1]]:Array Keyed).toList.reverse (a.size-1) b.size:=M0.nB ha (apX _) (λx hx=>hf x (by rw[tb]at hx;exact hx));by_cases e1:a.size-1=0
 .rw [aYH (by simpa using e1)];exact ahi (h _ _ (Sm.refl _) (M1.res (.inl e1)))
 .rw [aoK (by simpa using e1)];by_cases e2:b.size=1
  .rw [aYH (by simpa using e2)];exact ahi (h _ _ (Sm.refl _) (M1.first' T.first e2))
  .rw [aoK (by simpa using e2)];refine a9z (aRo ?_);refine a9z (aAw (aOS (I:=λx c st2=>Sm st st2/\∃na nb out g,c=(none,na,nb,out,g)/\Jh ρ a b (x+1) na nb out) (Q:=λc st2=>Sm st st2/\∃r q,c=(some r,q)/\Res ρ a.toList b.toList r) ?turn ?last ?first) ?after)
   case first=>exact⟨Sm.refl _,_,_,_,_,rfl,M1,by lia,by lia,by lia,by lia,by lia⟩
   case last=>
    rintro c st2 ⟨_,na,nb,out,g,rfl,J⟩;have:=J.bd;have:=J.pa;lia
   case turn=>
    rintro x c st2 _ hx ⟨hS,na,nb,out,g,rfl,J⟩;refine aAw (ZlL h0 (hS.1.trans hk) T J) ?_;rintro r st3 ⟨CF,hr⟩;cases r with
    |done c=>exact⟨hS.trans CF,hr⟩
    |yield c=>exact⟨hS.trans CF,hr⟩
   case after=>
    rintro c st2 ⟨hS,r,q,rfl,R⟩;exact ahi (h r st2 hS R)
end
end L2.zN
set_option maxHeartbeats 400000
namespace L2.zN
open PySem PySem.Spec PyProof.Rows
def NY:Nat->StateT SortSt Sem Bool:=sortPriv% PySem.Builtin.mergeAt
def layAt(arr:Array Keyed)(at_:Nat)(l:List Keyed)(k:Nat):Array Keyed:=(l.zipIdx k).foldl (λa (p,j)=>a.setIfInBounds (at_+j) p) arr
theorem KH(arr:Array Keyed)(at_:Nat)(l:List Keyed)(k i:Nat)(h:at_+k+l.length<=arr.size):(layAt arr at_ l k)[i]?=if at_+k<=i/\i<at_+k+l.length then l[i-(at_+k)]? else arr[i]?:=by
 induction l generalizing arr k with
 |nil=>rw[aoK (by simp)];rfl
 |cons x l ih=>
  have e:layAt arr at_ (x ::l) k=layAt (arr.setIfInBounds (at_+k) x) at_ l (k+1):=by
   unfold layAt;rw[List.zipIdx_cons,List.foldl_cons]
  simp only[aXW]at h ⊢;rw[e,ih (arr.setIfInBounds (at_+k) x) (k+1) (by simp;lia)];by_cases c:at_+k=i
  .subst c;rw[aoK (by lia),aYH (by lia),alg,Array.getElem?_setIfInBounds_self_of_lt (by lia)];rfl
  .by_cases c2:at_+(k+1)<=i/\i<at_+(k+1)+l.length
   .rw [aYH c2,aYH (by lia),show i-(at_+k)=(i-(at_+(k+1)))+1 by lia,aX8]
   .rw [aoK c2,aoK (by lia),Array.getElem?_setIfInBounds_ne c]
theorem Zeq(arr:Array Keyed)(at_:Nat)(l:List Keyed)(h:at_+l.length<=arr.size):(layAt arr at_ l 0).toList=arr.toList.take at_++(l++arr.toList.drop (at_+l.length)):=by
 refine bbg λi=>?_;rw[a6R,KH arr at_ l 0 i (by lia),Nat.add_zero];have hl:(arr.toList.take at_).length=at_:=by rw[a1R,aTi];lia
 by_cases c1:i<at_
 .rw [aoK (by lia),aaw (by lia),List.getElem?_take_of_lt c1,a6R]
 .rw [bbj (by lia),hl];by_cases c2:i<at_+l.length
  .rw [aYH (by lia),aaw (by lia)]
  .rw [aoK (by lia),bbj (by lia),getElem?_drop,a6R];congr 1
   lia
theorem ZgR{arr:Array Keyed}{at_ n:Nat}{l:List Keyed}(h:at_+n<=arr.size)(p:l.Perm (arr.extract at_ (at_+n)).toList):(layAt arr at_ l 0).Perm arr:=by
 rw[NJ]at p;have e:l.length=n:=by rw[p.length_eq,a1R,aLq,aTi];lia
 refine a6n.2 ?_;rw[Zeq arr at_ l (by lia),e];have d:arr.toList=arr.toList.take at_++((arr.toList.drop at_).take n++arr.toList.drop (at_+n)):=by
  rw[<-drop_drop,aAI,aAI]
 conv=>rhs;rw[d]
 exact(p.append_right _).append_left _
section
variable{prog:Program}{w:World}{A:Around}{E:Value->Shared->Prop}{s:Shared}{a₀:Array Keyed}{κ:SortKind}{ρ:aA.RR}
theorem pw_ex{arr:Array Keyed}{i j:Nat}(hj:j<=arr.size)(h:dZ ρ arr i j):(arr.extract i j).toList.Pairwise (Lk ρ):=by
 refine a5j.2 λx y hx hy hxy=>?_;simp only[aTi,Array.size_extract]at hx hy;have:=h (i+x) (i+y) (by lia) (by lia) (by lia);rw[bD (show i+x<arr.size by lia),bD (show i+y<arr.size by lia)]at this;simpa[Lk]using this
theorem QZ{arr:Array Keyed}{i j:Nat}{x:Keyed}(h:x∈(arr.extract i j).toList):∃k,i<=k/\k<j/\k<arr.size/\ρ.g x=aA.Kg ρ arr k/\x∈arr.toList:=by
 rw[En]at h;obtain⟨k,h1,h2,h3,rfl⟩:=NI h;exact⟨k,h1,h2,h3,(bD h3).symm,by simp⟩
theorem Nm{arr:Array Keyed}{at_:Nat}{l:List Keyed}(h:at_+l.length<=arr.size){i:Nat}(h1:at_<=i)(h2:i<at_+l.length):aA.Kg ρ (layAt arr at_ l 0) i=ρ.g (l[i-at_]'(by lia)):=by
 have:=KH arr at_ l 0 i (by lia);rw[aYH (by lia),Nat.add_zero,aEW (by lia)]at this;unfold aA.Kg;rw[this];rfl
theorem Em{arr:Array Keyed}{at_:Nat}{l:List Keyed}(h:at_+l.length<=arr.size){i:Nat}(h1:i<at_\/at_+l.length<=i):aA.Kg ρ (layAt arr at_ l 0) i=aA.Kg ρ arr i:=by
 have:=KH arr at_ l 0 i (by lia);rw[aoK (by lia)]at this;unfold aA.Kg;rw[this]
end
end L2.zN
set_option maxHeartbeats 1000000
namespace L2.zN
open PySem PySem.Spec PyProof.Rows
section
variable{prog:Program}{w:World}{A:Around}{E:Value->Shared->Prop}{s:Shared}{a₀:Array Keyed}{κ:SortKind}{ρ:aA.RR}
theorem ZkG{arr:Array Keyed}{u lo hi:Nat}{r:List Keyed}(h:u+r.length<=arr.size)(hr:r.Pairwise (Lk ρ))(hne:0<r.length)(hl:dZ ρ arr lo u)(hh:dZ ρ arr (u+r.length) hi)
  (bl:∀i,lo<=i->i<u->∀x∈r,aA.Kg ρ arr i<=ρ.g x) (bh:∀i,u+r.length<=i->i<hi->∀x∈r,ρ.g x<=aA.Kg ρ arr i):dZ ρ (layAt arr u r 0) lo hi:=by
 intro i j hi1 hij hj;by_cases a1:i<u
 .rw [Em h (.inl a1)];by_cases b1:j<u
  .rw [Em h (.inl b1)];exact hl i j hi1 hij b1
  .by_cases b2:j<u+r.length
   .rw [Nm h (by lia) b2];exact bl i hi1 a1 _ (adU _)
   .rw [Em h (.inr (by lia))];exact a5K (bl i hi1 a1 (r[0]'hne) (adU _)) (bh j (by lia) hj _ (adU _))
 .by_cases a2:i<u+r.length
  .rw [Nm h (by lia) a2];by_cases b2:j<u+r.length
   .rw [Nm h (by lia) b2];by_cases e:i=j
    .subst e;exact aHu _
    .exact a5j.1 hr (i-u) (j-u) (by lia) (by lia) (by lia)
   .rw [Em h (.inr (by lia))];exact bh j (by lia) hj _ (adU _)
  .rw [Em h (.inr (by lia)),Em h (.inr (by lia))];exact hh i j (by lia) hij hj
theorem Cut.Co{left:Bool}{kv:Int}{arr:Array Keyed}{base n k:Nat}(h:Cut ρ left kv arr base n k){i:Nat}(h1:base<=i)(h2:i<base+k):aA.Kg ρ arr i<=kv:=by
 have:=h.lo (i-base) (by lia);unfold Bd at this;rw[show base+(i-base)=i by lia]at this;cases left with
 |true=>simp only[ban,aOt]at this;lia
 |false=>simp only[aLx,bdb,a2I,a9V]at this;lia
theorem Cut.xA{left:Bool}{kv:Int}{arr:Array Keyed}{base n k:Nat}(h:Cut ρ left kv arr base n k){i:Nat}(h1:base+k<=i)(h2:i<base+n):kv<=aA.Kg ρ arr i:=by
 have:=h.hi (i-base) (by lia) (by lia);unfold Bd at this;rw[show base+(i-base)=i by lia]at this;cases left with
 |true=>simp only[ban,a9V]at this;lia
 |false=>simp only[aLx,bdb,Bool.not_eq_false',aOt]at this;lia
theorem ZkH{st st':SortSt}{Q:PUnit->SortSt->Prop}(h:Q ⟨⟩ st'):wpS (model prog w) A E s (set st') Q st:=baB (f:=λ_=>st') h
theorem ZgS{st:SortSt}{i sa na p sb nb q:Nat}{Q:Bool->SortSt->Prop}(h0:aA.j5 prog w A s κ ρ a₀)(hk:kindOf st=κ)(ha:∀x∈(arrOf st).toList,x∈a₀.toList)(hfl:failedOf st=none)
  (e1:(pendingOf st)[i]?=some (sa,na,p)) (e2:(pendingOf st)[i+1]?=some (sb,nb,q)) (lM:sb=sa+na) (pa:0<na) (pb:0<nb) (hsz:sb+nb<=(arrOf st).size) (s1:dZ ρ (arrOf st) sa (sa+na)) (s2:dZ ρ (arrOf st) sb (sb+nb))
  (h:∀st',kindOf st'=κ->failedOf st'=none->(arrOf st').Perm (arrOf st)->pendingOf st'=((pendingOf st).setIfInBounds i (sa,na+nb,p)).eraseIdxIfInBounds (i+1)->dZ ρ (arrOf st') sa (sb+nb) ->
   (∀j,j<sa\/sb+nb<=j->(arrOf st')[j]?=(arrOf st)[j]?)->Q true st'):wpS (model prog w) A E s (NY i) Q st:=by
 show wpAny (model prog w) A (NY i st) _ E s
 wp_delta
 wp_delta
 refine xM rfl ?_;refine a9z (aRo ?_);rw[e1,e2];refine a9z (ZkH (st':=SortSt.mk' (kindOf st) (arrOf st) (((pendingOf st).setIfInBounds i (sa,na+nb,p)).eraseIdxIfInBounds (i+1)) (gallopOf st) (failedOf st)) ?_);generalize zl:SortSt.mk' (kindOf st) (arrOf st) (((pendingOf st).setIfInBounds i (sa,na+nb,p)).eraseIdxIfInBounds (i+1)) (gallopOf st) (failedOf st)=st1;have k1:kindOf st1=κ:=by rw[<-zl];exact hk
 have f1:failedOf st1=none:=by rw[<-zl];exact hfl
 have a1:arrOf st1=arrOf st:=by rw[<-zl]
 have p1:pendingOf st1=((pendingOf st).setIfInBounds i (sa,na+nb,p)).eraseIdxIfInBounds (i+1):=by rw[<-zl]
 have hb0:sb<(arrOf st).size:=by lia
 refine a9z (Zx hb0 ?_);refine a9z (EE k1 h0 ha (ha _ (by simp)) (show sa+na<=(arrOf st).size by lia) pa s1 (λk C1=>?_));have c1:=C1.le;rw[<-bD hb0]at C1;dsimp only;have whole:(∀x y,sa<=x->x<sb->sb<=y->y<sb+nb->aA.Kg ρ (arrOf st) x<=aA.Kg ρ (arrOf st) y)->dZ ρ (arrOf st) sa (sb+nb):=λhc x y hx hxy hy=>by
  by_cases u:y<sb
  .exact s1 x y hx hxy (by lia)
  .by_cases v:x<sb
   .exact hc x y hx v (by lia) hy
   .exact s2 x y (by lia) hxy hy
 by_cases z:na-k=0
 .rw [aYH (by simpa using z)];refine ahi (h st1 k1 f1 (by rw[a1]) p1 ?_ (λj _=>by rw[a1]));rw[a1];refine whole λx y hx Mm hy Mj=>?_;exact a5K (C1.Co hx (by lia)) (s2 sb y (apX _) hy Mj)
 .rw [aoK (by simpa using z)];have PU:sa+k+(na-k)-1<(arrOf st).size:=by lia
  refine a9z (Zx PU ?_);refine a9z (EE k1 h0 ha (ha _ (by simp)) (show sb+nb<=(arrOf st).size by lia) (by lia) s2 (λn2 C2=>?_));have c2:=C2.le;rw[<-bD PU,show sa+k+(na-k)-1=sb-1 by lia]at C2;dsimp only;by_cases z2:n2=0
  .rw [aYH (by simpa using z2)];refine ahi (h st1 k1 f1 (by rw[a1]) p1 ?_ (λj _=>by rw[a1]));rw[a1];refine whole λx y hx Mm hy Mj=>?_;exact a5K (s1 x (sb-1) hx (by lia) (by lia)) (C2.xA (by lia) Mj)
  .rw [aoK (by simpa using z2)];have c3:=Nat.pos_of_ne_zero z2;have mX:∀x∈((arrOf st).extract (sa+k) sb).toList,∃j,sa+k<=j/\j<sb/\j<(arrOf st).size/\ρ.g x=aA.Kg ρ (arrOf st) j/\x∈(arrOf st).toList:=λx hx=>QZ hx;have mY:∀x∈((arrOf st).extract sb (sb+n2)).toList,∃j,sb<=j/\j<sb+n2/\j<(arrOf st).size/\ρ.g x=aA.Kg ρ (arrOf st) j/\x∈(arrOf st).toList:=λx hx=>QZ hx;have sX:((arrOf st).extract (sa+k) sb).toList.Pairwise (Lk ρ):=pw_ex (by lia) (λx y p q r=>s1 x y (by lia) q (by lia));have sY:((arrOf st).extract sb (sb+n2)).toList.Pairwise (Lk ρ):=pw_ex (by lia) (λx y p q r=>s2 x y (by lia) q (by lia));have zX:((arrOf st).extract (sa+k) sb).size=na-k:=by rw[Array.size_extract];lia
   have zY:((arrOf st).extract sb (sb+n2)).size=n2:=by rw[Array.size_extract];lia
   have low:∀x∈((arrOf st).extract (sa+k) sb).toList,aA.Kg ρ (arrOf st) sb<=ρ.g x:=λx hx=>by
    obtain⟨j,j1,j2,j3,e,_⟩:=mX x hx;rw[e];exact C1.xA j1 (by lia)
   have high:∀x∈((arrOf st).extract sb (sb+n2)).toList,ρ.g x<=aA.Kg ρ (arrOf st) (sb-1):=λx hx=>by
    obtain⟨j,j1,j2,j3,e,_⟩:=mY x hx;rw[e];exact C2.Co j1 j2
   have fin:∀r st',Sm st1 st'->Res ρ ((arrOf st).extract (sa+k) sb).toList ((arrOf st).extract sb (sb+n2)).toList r->wpS (model prog w) A E s (do
     modify λs=>SortSt.mk' (kindOf s) (layAt (arrOf s) (sa+k) r.toList 0) (pendingOf s) (gallopOf s) (failedOf s)
     return (failedOf (<-get)).isNone) Q st':=by
    rintro r st' ⟨CG,vp,CF,xD⟩ ⟨rp,rs⟩;refine a9z (baB (a9z (aRo (ahi ?_))));have ex:((arrOf st).extract (sa+k) sb).toList++((arrOf st).extract sb (sb+n2)).toList=((arrOf st).extract (sa+k) (sa+k+(na-k+n2))).toList:=by
     rw[En,En,En,drop_take,drop_take,drop_take];rw[show sb-(sa+k)=na-k by lia,show sb+n2-sb=n2 by lia,show sa+k+(na-k+n2)-(sa+k)=(na-k)+n2 by lia,List.take_add,drop_drop,show sa+k+(na-k)=sb by lia]
    have len:r.toList.length=na-k+n2:=by rw[rp.length_eq,aE0,aTi,aTi,zX,zY]
    have GL:∀x∈r.toList,aA.Kg ρ (arrOf st) sb<=ρ.g x/\ρ.g x<=aA.Kg ρ (arrOf st) (sb-1):=λx hx=>by
     rcases aUH.1 (rp.mem_iff.1 hx) with hx|hx
     .obtain ⟨j,j1,j2,j3,e,_⟩:=mX x hx;exact⟨low x hx,by rw[e];exact s1 j (sb-1) (by lia) (by lia) (by lia)⟩
     .obtain ⟨j,j1,j2,j3,e,_⟩:=mY x hx;exact⟨by rw[e];exact s2 sb j (apX _) j1 (by lia),high x hx⟩
    have Cw:failedOf st'=none:=xD.trans f1;show Q (failedOf st').isNone _;rw[Cw];refine h _ (CG.trans k1) rfl ?_ (CF.trans p1) ?_ ?_
    .show (layAt (arrOf st') (sa+k) r.toList 0).Perm (arrOf st);rw[vp,a1];exact ZgR (n:=na-k+n2) (by lia) (by rw[<-ex];exact rp)
    .show dZ ρ (layAt (arrOf st') (sa+k) r.toList 0) sa (sb+nb);rw[vp,a1];refine ZkG (by lia) rs (by lia) (λx y p q r=>s1 x y p q (by lia)) (λx y p q r=>s2 x y (by lia) q r) (λi i1 i2 x hx=>?_) (λi i1 i2 x hx=>?_)
     .exact a5K (C1.Co i1 (by lia)) (GL x hx).1
     .exact a5K (GL x hx).2 (C2.xA (by lia) i2)
    .intro j hj;show(layAt (arrOf st') (sa+k) r.toList 0)[j]?=_;rw[vp,a1,KH _ _ _ _ _ (by lia),aoK (by lia)]
   by_cases c:na-k<=n2
   .rw [aYH c];refine a9z (ZgO h0 k1 ⟨λx hx=>?_,λx hx=>?_,sX,sY,λy hy x hx=>?_⟩ (show 0<((arrOf st).extract (sa+k) sb).size by lia) (show 0<((arrOf st).extract sb (sb+n2)).size by lia) (λx hx=>?_) (λr st' hS R=>fin r st' hS R))
    .obtain ⟨_,_,_,_,_,m⟩:=mX x hx;exact ha x m
    .obtain ⟨_,_,_,_,_,m⟩:=mY x hx;exact ha x m
    .rw [zX,En,drop_drop]at hx;obtain⟨j,j1,j2,j3,rfl⟩:=NI hx;have ej:j=sb-1:=by lia
     subst ej;rw[<-bD j3];exact high y hy
    .rw [ahe,<-bD];exact low x hx
   .rw [aoK c];refine a9z (ZgQ h0 k1 ⟨λx hx=>?_,λx hx=>?_,sX,sY,λy hy x hx=>?_⟩ (show 0<((arrOf st).extract (sa+k) sb).size by lia) (show 0<((arrOf st).extract sb (sb+n2)).size by lia) (λx hx=>?_) (λr st' hS R=>fin r st' hS R))
    .obtain ⟨_,_,_,_,_,m⟩:=mX x hx;exact ha x m
    .obtain ⟨_,_,_,_,_,m⟩:=mY x hx;exact ha x m
    .obtain ⟨j,j1,j2,rfl⟩:=Nn hy;rw[ahe,<-bD,show sb+j=sb by lia];exact low x hx
    .rw [ahe,<-bD];have:=high x hx;rw[show sa+k+(((arrOf st).extract (sa+k) sb).size-1)=sb-1 by lia];exact this
end
structure GP(κ:SortKind)(a₀:Array Keyed)(P:Array (Nat×Nat×Nat))(st:SortSt):Prop where
 perm:(arrOf st).Perm a₀
 kn:kindOf st=κ
 failed:failedOf st=none
 pend:pendingOf st=P
section
variable{prog:Program}{w:World}{A:Around}{E:Value->Shared->Prop}{s:Shared}{a₀:Array Keyed}{κ:SortKind}{ρ:aA.RR}{P:Array (Nat×Nat×Nat)}
theorem GP.size{st:SortSt}(h:GP κ a₀ P st):(arrOf st).size=a₀.size:=h.perm.size_eq
theorem GP.setArr{st:SortSt}{xs:Array Keyed}(h:GP κ a₀ P st)(hp:xs.Perm (arrOf st)):GP κ a₀ P (setArr st xs):=⟨hp.trans h.perm,h.kn,h.failed,h.pend⟩
theorem GP.mem{st:SortSt}(h:GP κ a₀ P st):∀x∈(arrOf st).toList,x∈a₀.toList:=λx hx=>(a6n.mp h.perm).mem_iff.mp hx
theorem HZ{st:SortSt}{i j:Nat}{Q:Option Bool->SortSt->Prop}(hB:GP κ a₀ P st)(h0:aA.j5 prog w A s κ ρ a₀)(hi:i<a₀.size)(hj:j<a₀.size)
  (h:Q (some (decide (aA.Kg ρ (arrOf st) i<aA.Kg ρ (arrOf st) j))) st):wpS (model prog w) A E s (ltAt' i j) Q st:=by
 have hi':i<(arrOf st).size:=by rw[hB.size];exact hi
 have hj':j<(arrOf st).size:=by rw[hB.size];exact hj
 rw[bD hi',bD hj']at h;rw[ltAt'_eq];refine a9z (aRo ?_);refine a9z (Zx hi' (a9z (Zx hj' ?_)));exact qE hB.kn h0 (hB.mem _ (by simp)) (hB.mem _ (by simp)) h
theorem ZkI{st:SortSt}{lo n ok:Nat}{Q:Bool->SortSt->Prop}(h0:aA.j5 prog w A s κ ρ a₀)(hn:lo+n<=a₀.size)(hok:ok<=n)(Yd:1<=ok)(hB:GP κ a₀ P st)(hs:dZ ρ (arrOf st) lo (lo+ok))
  (h:∀st',GP κ a₀ P st'->dZ ρ (arrOf st') lo (lo+n)->(∀j,j<lo\/lo+n<=j->(arrOf st')[j]?=(arrOf st)[j]?)->Q true st'):wpS (model prog w) A E s (binarySort' lo n ok) Q st:=by
 rw[binarySort'_eq];refine a9z (aAw (aOS (I:=λk c st1=>c=(none,())/\GP κ a₀ P st1/\dZ ρ (arrOf st1) lo (lo+min k n)/\∀j,j<lo\/lo+n<=j->(arrOf st1)[j]?=(arrOf st)[j]?)
  (Q:=λc st1=>c=(none,())/\GP κ a₀ P st1/\dZ ρ (arrOf st1) lo (lo+n)/\∀j,j<lo\/lo+n<=j->(arrOf st1)[j]?=(arrOf st)[j]?) ?turn ?last ?first) ?after)
 case after=>
  rintro c st1 ⟨rfl,b1,i1,o1⟩;exact ahi (h st1 b1 i1 o1)
 case first=>
  rw[show min (max ok 1) n=ok by lia];exact⟨rfl,hB,hs,λ_ _=>rfl⟩
 case last=>
  rintro c st1 ⟨hc,b1,i1,o1⟩;rw[show min (max (max ok 1) n) n=n by lia]at i1;exact⟨hc,b1,i1,o1⟩
 case turn=>
  rintro k c st1 X5 hkn ⟨rfl,b1,i1,o1⟩;rw[show min k n=k by lia]at i1;have hk:lo+k<a₀.size:=by lia
  have sz:=b1.size;refine a9z (aAw (aOS (I:=λx c st2=>st2=st1/\∃l r,c=(none,l,r)/\l<=r/\r<=k/\r-l<=k-x/\(∀i,i<l->aA.Kg ρ (arrOf st1) (lo+i)<=aA.Kg ρ (arrOf st1) (lo+k))/\(∀i,r<=i->i<k->aA.Kg ρ (arrOf st1) (lo+k)<=aA.Kg ρ (arrOf st1) (lo+i)))
   (Q:=λc st2=>st2=st1/\∃l r,c=(none,l,r)/\l<=k/\(∀i,i<l->aA.Kg ρ (arrOf st1) (lo+i)<=aA.Kg ρ (arrOf st1) (lo+k))/\(∀i,l<=i->i<k->aA.Kg ρ (arrOf st1) (lo+k)<=aA.Kg ρ (arrOf st1) (lo+i))) ?iturn ?ilast ?ifirst) ?iafter)
  case ifirst=>exact⟨rfl,0,k,rfl,by lia,by lia,by lia,λi hi=>absurd hi (by lia),λi p q=>absurd q (by lia)⟩
  case ilast=>
   rintro c st2 ⟨rfl,l,r,rfl,hlr,hrk,hm,u1,u2⟩;have e:l=r:=by lia
   subst e;exact⟨rfl,l,l,rfl,hrk,u1,u2⟩
  case iturn=>
   rintro x c st2 _ hxk ⟨rfl,l,r,rfl,hlr,hrk,hm,u1,u2⟩;dsimp only;by_cases hge:l ≥ r
   .rw [aYH hge];have e:l=r:=by lia
    subst e;exact ahi ⟨rfl,l,l,rfl,hrk,u1,u2⟩
   .rw [aoK hge];refine a9z (HZ b1 h0 hk (by lia) ?_);by_cases c:aA.Kg ρ (arrOf st2) (lo+k)<aA.Kg ρ (arrOf st2) (lo+(l+r)/2)
    .simp only[c,abe,ban];refine ahi ⟨rfl,l,(l+r)/2,rfl,by lia,by lia,by lia,u1,λi p q=>?_⟩;have:=i1 (lo+(l+r)/2) (lo+i) (by lia) (by lia) (by lia);lia
    .simp only[c,a6e,aLx,bdb];refine ahi ⟨rfl,(l+r)/2+1,r,rfl,by lia,by lia,by lia,λi p=>?_,u2⟩;have:=i1 (lo+i) (lo+(l+r)/2) (by lia) (by lia) (by lia);lia
  case iafter=>
   rintro c st2 ⟨rfl,l,r,rfl,hlk,u1,u2⟩;show wpS _ _ _ _ (do moveDown' (lo+k) (lo+l);pure (ForInStep.yield (none,()))) _ _;rw[moveDown'_eq];have hks:lo+k<(arrOf st2).size:=by lia
   refine a9z (baB (ahi ⟨rfl,b1.setArr (bubble_perm _ _ _),?_,?_⟩))
   .rw [show min (k+1) n=k+1 by lia];intro i j hi hij hj;show aA.Kg ρ (bubble (arrOf st2) (lo+k) (lo+k-(lo+l))) i<=aA.Kg ρ (bubble (arrOf st2) (lo+k) (lo+k-(lo+l))) j;rw[aA.nQ hks (by lia),aA.nQ hks (by lia),show lo+k-(lo+k-(lo+l))=lo+l by lia];have U1:∀i,lo<=i->i<lo+l->aA.Kg ρ (arrOf st2) i<=aA.Kg ρ (arrOf st2) (lo+k):=λi p q=>by
     have:=u1 (i-lo) (by lia);rw[show lo+(i-lo)=i by lia]at this;exact this
    have U2:∀i,lo+l<=i->i<lo+k->aA.Kg ρ (arrOf st2) (lo+k)<=aA.Kg ρ (arrOf st2) i:=λi p q=>by
     have:=u2 (i-lo) (by lia) (by lia);rw[show lo+(i-lo)=i by lia]at this;exact this
    by_cases a1:i=lo+l
    .rw [aYH a1];by_cases b2:j=lo+l
     .rw [aYH b2];exact aHu _
     .rw [aoK b2,aYH (by lia)];exact U2 _ (by lia) (by lia)
    .rw [aoK a1];by_cases a2:j=lo+l
     .rw [aYH a2,aoK (by lia)];exact U1 _ (by lia) (by lia)
     .rw [aoK a2];by_cases a3:lo+l<i/\i<=lo+k
      .rw [aYH a3,aYH (by lia)];exact i1 _ _ (by lia) (by lia) (by lia)
      .rw [aoK a3];by_cases a4:lo+l<j/\j<=lo+k
       .rw [aYH a4];exact i1 _ _ (by lia) (by lia) (by lia)
       .rw [aoK a4];exact i1 _ _ (by lia) (by lia) (by lia)
   .intro j hj;show(bubble (arrOf st2) (lo+k) (lo+k-(lo+l)))[j]?=_;rw[getElem?_bubble hks _ (by lia),aoK (by lia),aoK (by lia)];exact o1 j hj
end
abbrev AS:=Option (Option Nat)×Nat
abbrev DS:=Option (Option Nat)×Nat×Nat
def xN(lo a nrem:Nat):StateT SortSt Sem AS:=forIn [a:nrem] ((none,a):AS) λ_ c=>do
 let x <-ltAt' (lo+c.2) (lo+c.2-1)
 match x with
 |some y=>if y=true then pure (.done (none,c.2)) else pure (.yield (none,c.2+1))
 |_=>pure (.done (some none,c.2))
def pQ(lo n nrem:Nat):StateT SortSt Sem (Option Nat):=do
 reverseSlice' lo (lo+n)
 let c <-xN lo n nrem
 match c.1 with
 |some r=>pure r
 |none=>pure (some c.2)
def uo(lo n nrem:Nat):StateT SortSt Sem DS:=forIn [n:nrem] ((none,n,0):DS) λ_ c=>do
 let x <-ltAt' (lo+c.2.1) (lo+c.2.1-1)
 match x with
 | some y=>if y=true then(if c.2.2>0 then(do
    reverseSlice' (lo+c.2.1-(c.2.2+1)) (lo+c.2.1)
    pure (.yield (none,c.2.1+1,0))) else pure (.yield (none,c.2.1+1,0))) else(do
   let x <-ltAt' (lo+c.2.1-1) (lo+c.2.1)
   match x with
   |some z=>if z=true then pure (.done (none,c.2.1,c.2.2)) else pure (.yield (none,c.2.1+1,c.2.2+1))
   |_=>pure (.done (some none,c.2.1,c.2.2)))
 |_=>pure (.done (some none,c.2.1,c.2.2))
def qp(lo n nrem:Nat):StateT SortSt Sem (Option Nat):=do
 liftM (rule "list.sort.descending-run")
 let c <-uo lo (n+1) nrem
 match c.1 with
 |some r=>pure r
 | none=>if c.2.2>0 then(do
   reverseSlice' (lo+c.2.1-(c.2.2+1)) (lo+c.2.1)
   pQ lo c.2.1 nrem) else pQ lo c.2.1 nrem
theorem ZhV(lo nrem:Nat):countRun' lo nrem=(do
  let c <-xN lo 1 nrem
  match c.1 with
  |some r=>pure r
  | none=>if(c.2 ==nrem)=true then pure (some c.2) else if c.2>1 then(do
    let x <-ltAt' lo (lo+c.2-1)
    match x with
    | some y=>if y=true then pure (some c.2) else(do
      reverseSlice' lo (lo+c.2)
      qp lo c.2 nrem)
    |_=>pure none) else qp lo c.2 nrem):=by
 rw[countRun'_eq];unfold qp pQ uo xN;have tl:∀{f g:AS->StateT SortSt Sem (Option Nat)}{m:StateT SortSt Sem AS},(∀r n,f (r,n)=g (r,n))->(m >>=f)=(m >>=g):=λh=>aSc _ (funext λ⟨r,n⟩=>h r n);have td:∀{f g:DS->StateT SortSt Sem (Option Nat)}{m:StateT SortSt Sem DS},(∀r n q,f (r,n,q)=g (r,n,q))->(m >>=f)=(m >>=g):=λh=>aSc _ (funext λ⟨r,n,q⟩=>h r n q);have bc:∀{α:Type}{f g:α->StateT SortSt Sem (Option Nat)}{m:StateT SortSt Sem α},(∀x,f x=g x)->(m >>=f)=(m >>=g):=λh=>aSc _ (funext h);refine tl λr n=>?_;cases r with
 |some r=>rfl
 |none=>
  dsimp only;split
  .rfl
  .split
   .refine bc λx=>?_;cases x with
    |none=>rfl
    |some y=>
     dsimp only;split
     .rfl
     .refine bc λ_=>bc λ_=>td λr n q=>?_;cases r with
      |some r=>rfl
      |none=>
       dsimp only;split
       .exact bc λ_=>bc λ_=>tl λr n=>by cases r <;> rfl
       .exact bc λ_=>tl λr n=>by cases r <;> rfl
   .refine bc λ_=>td λr n q=>?_;cases r with
    |some r=>rfl
    |none=>
     dsimp only;split
     .exact bc λ_=>bc λ_=>tl λr n=>by cases r <;> rfl
     .exact bc λ_=>tl λr n=>by cases r <;> rfl
section
variable{prog:Program}{w:World}{A:Around}{E:Value->Shared->Prop}{s:Shared}{a₀:Array Keyed}{κ:SortKind}{ρ:aA.RR}{P:Array (Nat×Nat×Nat)}
def Out(lo n:Nat)(xs ys:Array Keyed):Prop:=∀j,j<lo\/lo+n<=j->ys[j]?=xs[j]?
theorem KY{xs:Array Keyed}{lo n i j:Nat}(hj:j<=xs.size)(h1:lo<=i)(h2:j<=lo+n):Out lo n xs (mirror xs i j ((j-i)/2)):=λk hk=>by
 rw[getElem?_mirror_all hj,aoK (by lia)]
theorem RQ{st:SortSt}{lo a nrem:Nat}{Q:AS->SortSt->Prop}(h0:aA.j5 prog w A s κ ρ a₀)(hn:lo+nrem<=a₀.size)(ha:1<=a)(han:a<=nrem)(hB:GP κ a₀ P st)(hs:dZ ρ (arrOf st) lo (lo+a))
  (h:∀n,a<=n->n<=nrem->dZ ρ (arrOf st) lo (lo+n)->(n=nrem\/aA.Kg ρ (arrOf st) (lo+n)<aA.Kg ρ (arrOf st) (lo+n-1))->Q (none,n) st):wpS (model prog w) A E s (xN lo a nrem) Q st:=by
 unfold xN;refine aOS (I:=λx c st1=>st1=st/\c=(none,x)/\dZ ρ (arrOf st) lo (lo+x)) ?turn ?last ⟨rfl,rfl,hs⟩
 case last=>
  rintro c st1 ⟨rfl,rfl,i1⟩;rw[show max a nrem=nrem by lia]at i1 ⊢;exact h nrem han (apX _) i1 (.inl rfl)
 case turn=>
  rintro x c st1 hax hxn ⟨rfl,rfl,i1⟩;dsimp only;refine a9z (HZ hB h0 (by lia) (by lia) ?_);by_cases c:aA.Kg ρ (arrOf st1) (lo+x)<aA.Kg ρ (arrOf st1) (lo+x-1)
  .simp only[c,abe,ban];exact ahi (h x hax (by lia) i1 (.inr c))
  .simp only[c,a6e,aLx,bdb];refine ahi ⟨rfl,rfl,λi j hi hij hj=>?_⟩;by_cases hjx:j<lo+x
   .exact i1 i j hi hij hjx
   .have ej:j=lo+x:=by lia
    subst ej;by_cases e:i=lo+x
    .subst e;exact aHu _
    .have:=i1 i (lo+x-1) hi (by lia) (by lia);lia
structure DX(ρ:aA.RR)(xs:Array Keyed)(lo x q:Nat):Prop where
 l:q+1<=x
 d:∀i j,lo<=i->i<=j->j<lo+x->aA.Kg ρ xs j<=aA.Kg ρ xs i
 e:∀i,lo+x-(q+1)<=i->i<lo+x->aA.Kg ρ xs i=aA.Kg ρ xs (lo+x-1)
theorem DX.rev{xs:Array Keyed}{lo x q:Nat}(h:DX ρ xs lo x q)(hz:lo+x<=xs.size):DX ρ (mirror xs (lo+x-(q+1)) (lo+x) ((lo+x-(lo+x-(q+1)))/2)) lo x 0:=by
 have ke:=aA.bV (ρ:=ρ) (i:=lo+x-(q+1)) hz h.e;have:=h.l;refine⟨by lia,λi j h1 h2 h3=>?_,λi h1 h2=>?_⟩
 .rw [ke,ke];exact h.d i j h1 h2 h3
 .have e:i=lo+x-1:=by lia
  rw[e]
theorem DX.zero{xs:Array Keyed}{lo x q:Nat}(h:DX ρ xs lo x q):DX ρ xs lo x 0:=⟨by have:=h.l;lia,h.d,λi h1 h2=>by rw[show i=lo+x-1 by have:=h.l;lia]⟩
theorem DX.less{xs:Array Keyed}{lo x:Nat}(h:DX ρ xs lo x 0)(k:aA.Kg ρ xs (lo+x)<aA.Kg ρ xs (lo+x-1)):DX ρ xs lo (x+1) 0:=by
 have:=h.l;refine⟨by lia,λi j h1 h2 h3=>?_,λi h1 h2=>by rw[show i=lo+(x+1)-1 by lia]⟩;by_cases c:j<lo+x
 .exact h.d i j h1 h2 c
 .have ej:j=lo+x:=by lia
  subst ej;by_cases e:i=lo+x
  .subst e;exact aHu _
  .have:=h.d i (lo+x-1) h1 (by lia) (by lia);lia
theorem DX.more{xs:Array Keyed}{lo x q:Nat}(h:DX ρ xs lo x q)(k:aA.Kg ρ xs (lo+x)=aA.Kg ρ xs (lo+x-1)):DX ρ xs lo (x+1) (q+1):=by
 have:=h.l;refine⟨by lia,λi j h1 h2 h3=>?_,λi h1 h2=>?_⟩
 .by_cases c:j<lo+x
  .exact h.d i j h1 h2 c
  .have ej:j=lo+x:=by lia
   subst ej;by_cases e:i=lo+x
   .subst e;exact aHu _
   .have:=h.d i (lo+x-1) h1 (by lia) (by lia);lia
 .rw [show lo+(x+1)-1=lo+x by lia];by_cases c:i<lo+x
  .rw [k];exact h.e i (by lia) c
  .rw [show i=lo+x by lia]
theorem Zjm{st:SortSt}{lo n nrem:Nat}{Q:DS->SortSt->Prop}(h0:aA.j5 prog w A s κ ρ a₀)(hn:lo+nrem<=a₀.size)(hnn:n<=nrem)(hB:GP κ a₀ P st)(hs:DX ρ (arrOf st) lo n 0)
  (h:∀m q st',GP κ a₀ P st'->m<=nrem->DX ρ (arrOf st') lo m q->Out lo nrem (arrOf st) (arrOf st')->Q (none,m,q) st'):wpS (model prog w) A E s (uo lo n nrem) Q st:=by
 unfold uo;refine aOS (I:=λx c st1=>∃q,c=(none,x,q)/\GP κ a₀ P st1/\DX ρ (arrOf st1) lo x q/\Out lo nrem (arrOf st) (arrOf st1)) ?turn ?last ⟨0,rfl,hB,hs,λ_ _=>rfl⟩
 case last=>
  rintro c st1 ⟨q,rfl,b1,d1,o1⟩;rw[show max n nrem=nrem by lia]at d1 ⊢;exact h nrem q st1 b1 (apX _) d1 o1
 case turn=>
  rintro x c st1 hax hxn ⟨q,rfl,b1,d1,o1⟩;dsimp only;have sz:=b1.size;have hl:=d1.l;refine a9z (HZ b1 h0 (by lia) (by lia) ?_);by_cases c:aA.Kg ρ (arrOf st1) (lo+x)<aA.Kg ρ (arrOf st1) (lo+x-1)
  .simp only[c,abe,ban];by_cases hq:q>0
   .rw [aYH hq];have ke:=aA.bV (ρ:=ρ) (i:=lo+x-(q+1)) (by lia:lo+x<=(arrOf st1).size) d1.e;refine a9z (apo (ahi ⟨0,rfl,b1.setArr (ak3 _ _ _ _),(d1.rev (by lia)).less ?_,λk hk=>(KY (by lia) (by lia) (by lia) k hk).trans (o1 k hk)⟩));rw[ke,ke];exact c
   .rw [aoK hq];have e:q=0:=by lia
    subst e;exact ahi ⟨0,rfl,b1,d1.less c,o1⟩
  .simp only[c,a6e,aLx,bdb];refine a9z (HZ b1 h0 (by lia) (by lia) ?_);by_cases c2:aA.Kg ρ (arrOf st1) (lo+x-1)<aA.Kg ρ (arrOf st1) (lo+x)
   .simp only[c2,abe,ban];exact ahi (h x q st1 b1 (by lia) d1 o1)
   .simp only[c2,a6e,aLx,bdb];exact ahi ⟨q+1,rfl,b1,d1.more (by lia),o1⟩
theorem S0{st cT:SortSt}{lo n nrem:Nat}{Q:Option Nat->SortSt->Prop}(h0:aA.j5 prog w A s κ ρ a₀)(hn:lo+nrem<=a₀.size)(h1:1<=n)(hnn:n<=nrem)(hB:GP κ a₀ P st)(hs:DX ρ (arrOf st) lo n 0)(ho:Out lo nrem (arrOf cT) (arrOf st))
  (h:∀m st',GP κ a₀ P st'->1<=m->m<=nrem->dZ ρ (arrOf st') lo (lo+m)->Out lo nrem (arrOf cT) (arrOf st')->Q (some m) st'):wpS (model prog w) A E s (pQ lo n nrem) Q st:=by
 unfold pQ;have sz:=hB.size;refine a9z (apo ?_);have b1:GP κ a₀ P (setArr st (mirror (arrOf st) lo (lo+n) ((lo+n-lo)/2))):=hB.setArr (ak3 _ _ _ _);refine a9z (RQ h0 hn h1 hnn b1 ?_ λm m1 m2 i2 _=>ahi (h m _ b1 (by lia) m2 i2 λk hk=>(KY (by lia) (by lia) (by lia) k hk).trans (ho k hk)));intro i j hi hij hj;show aA.Kg ρ (mirror (arrOf st) lo (lo+n) ((lo+n-lo)/2)) i<=aA.Kg ρ (mirror (arrOf st) lo (lo+n) ((lo+n-lo)/2)) j;rw[aA.i6 (by lia),aA.i6 (by lia),aYH (by lia),aYH (by lia)];exact hs.d _ _ (by lia) (by lia) (by lia)
theorem SY{st cT:SortSt}{lo n nrem:Nat}{Q:Option Nat->SortSt->Prop}(h0:aA.j5 prog w A s κ ρ a₀)(hn:lo+nrem<=a₀.size)(hnn:n+1<=nrem)(hB:GP κ a₀ P st)(hs:DX ρ (arrOf st) lo (n+1) 0)(ho:Out lo nrem (arrOf cT) (arrOf st))
  (h:∀m st',GP κ a₀ P st'->1<=m->m<=nrem->dZ ρ (arrOf st') lo (lo+m)->Out lo nrem (arrOf cT) (arrOf st')->Q (some m) st'):wpS (model prog w) A E s (qp lo n nrem) Q st:=by
 unfold qp;refine a9z (wpS_lift (aiy ⟨rfl,?_⟩));refine a9z (Zjm h0 hn hnn hB hs λm q st1 b1 m2 d1 o1=>?_);dsimp only;have hl:=d1.l;have sz:=b1.size;by_cases hq:q>0
 .rw [aYH hq];exact a9z (apo (S0 h0 hn (by lia) m2 (b1.setArr (ak3 _ _ _ _)) (d1.rev (by lia)) (λk hk=>((KY (by lia) (by lia) (by lia) k hk).trans (o1 k hk)).trans (ho k hk)) h))
 .rw [aoK hq];exact S0 h0 hn (by lia) m2 b1 d1.zero (λk hk=>(o1 k hk).trans (ho k hk)) h
theorem ZhX{st:SortSt}{lo nrem:Nat}{Q:Option Nat->SortSt->Prop}(h0:aA.j5 prog w A s κ ρ a₀)(hn:lo+nrem<=a₀.size)(h1:1<=nrem)(hB:GP κ a₀ P st)
  (h:∀m st',GP κ a₀ P st'->1<=m->m<=nrem->dZ ρ (arrOf st') lo (lo+m)->Out lo nrem (arrOf st) (arrOf st')->Q (some m) st'):wpS (model prog w) A E s (countRun' lo nrem) Q st:=by
 rw[ZhV];have sz:=hB.size;refine a9z (RQ h0 hn (apX 1) h1 hB (λi j hi hij hj=>by rw[show i=j by lia];exact aHu _) λn n1 n2 i1 hor=>?_);dsimp only;by_cases e:n=nrem
 .rw [aYH (by simpa using e)];exact ahi (h n st hB n1 n2 i1 λ_ _=>rfl)
 .rw [aoK (by simpa using e)];have lt:aA.Kg ρ (arrOf st) (lo+n)<aA.Kg ρ (arrOf st) (lo+n-1):=hor.resolve_left e;by_cases g:n>1
  .rw [aYH g];refine a9z (HZ hB h0 (by lia) (by lia) ?_);by_cases c:aA.Kg ρ (arrOf st) lo<aA.Kg ρ (arrOf st) (lo+n-1)
   .simp only[c,abe,ban];exact ahi (h n st hB n1 n2 i1 λ_ _=>rfl)
   .simp only[c,a6e,aLx,bdb];have all:∀k,lo<=k->k<lo+n->aA.Kg ρ (arrOf st) k=aA.Kg ρ (arrOf st) (lo+n-1):=λk h1 h2=>by
     have a1:=i1 lo k (apX _) h1 h2;have a2:=i1 k (lo+n-1) h1 (by lia) (by lia);lia
    have ke:=aA.bV (ρ:=ρ) (xs:=arrOf st) (i:=lo) (j:=lo+n) (by lia) all;have dx:DX ρ (mirror (arrOf st) lo (lo+n) ((lo+n-lo)/2)) lo n 0:=⟨by lia,λi j h1 h2 h3=>by rw[ke,ke,all i h1 (by lia),all j (by lia) h3];exact aHu _,λi h1 h2=>by rw[show i=lo+n-1 by lia]⟩;exact a9z (apo (SY (cT:=st) h0 hn (by lia) (hB.setArr (ak3 _ _ _ _)) (dx.less (by rw[ke,ke];exact lt)) (KY (by lia) (by lia) (by lia)) h))
  .rw [aoK g];have en:n=1:=by lia
   subst en;exact SY (cT:=st) h0 hn (by lia) hB (DX.less ⟨by lia,λi j h1 h2 h3=>by rw[show i=j by lia];exact aHu _,λi h1 h2=>by rw[show i=lo+1-1 by lia]⟩ lt) (λ_ _=>rfl) h
end
abbrev Rn:=Nat×Nat×Nat
def ir:List Rn->Nat->Nat->Prop
 | [],a,b=>a=b
 |t ::r,a,b=>t.1=a/\0<t.2.1/\ir r (a+t.2.1) b
theorem eG:∀{l m:List Rn}{a b:Nat},ir (l++m) a b↔∃c,ir l a c/\ir m c b
 | [],m,a,b=>⟨λh=>⟨a,rfl,h⟩,λ⟨c,h1,h2⟩=>by rw[show a=c from h1];exact h2⟩
 |t ::r,m,a,b=>by
  constructor
  .rintro ⟨h1,h2,h3⟩;obtain⟨c,h4,h5⟩:=eG.mp h3;exact⟨c,⟨h1,h2,h4⟩,h5⟩
  .rintro ⟨c,⟨h1,h2,h4⟩,h5⟩;exact⟨h1,h2,eG.mpr ⟨c,h4,h5⟩⟩
theorem KQ:∀{l:List Rn}{a b:Nat},ir l a b->l.length+a<=b
 | [],a,b,h=>by rw[show a=b from h];show 0+b<=b;lia
 |t ::r,a,b,⟨_,h2,h3⟩=>by
  have:=KQ h3;rw[aXW];lia
theorem Ks:∀{l:List Rn}{a b:Nat},ir l a b->∀t∈l,a<=t.1/\t.1+t.2.1<=b
 | [],a,b,h,t,ht=>nomatch ht
 |u ::r,a,b,⟨h1,h2,h3⟩,t,ht=>by
  have l:=KQ h3;rcases aCP.mp ht with e|ht
  .subst e;lia
  .have:=Ks h3 t ht;lia
theorem QY:∀{l:List Rn}{i:Nat}{x y:Rn},l[i]?=some x->l[i+1]?=some y->l=l.take i++x ::y ::l.drop (i+2)
 | [],i,x,y,h,_=>by simp at h
 | [a],0,x,y,h,h2=>by simp at h2
 |a ::b ::r,0,x,y,h,h2=>by
  simp only[List.getElem?_cons_zero,aX8,Option.some.injEq]at h h2;subst h h2;rfl
 |a ::r,i+1,x,y,h,h2=>by
  have:=QY (l:=r) (i:=i) (x:=x) (y:=y) (by simpa using h) (by simpa using h2);show a ::r=a ::(r.take i++x ::y ::r.drop (i+2));rw[<-this]
theorem ZhY(l m:List Rn)(x y v:Rn):((l++x ::y ::m).set l.length v).eraseIdx (l.length+1)=l++v ::m:=by
 induction l with
 |nil=>rfl
 |cons a r ih=>show a ::((r++x ::y ::m).set r.length v).eraseIdx (r.length+1)=a ::(r++v ::m);rw[ih]
section
variable{prog:Program}{w:World}{A:Around}{E:Value->Shared->Prop}{s:Shared}{a₀:Array Keyed}{κ:SortKind}{ρ:aA.RR}{P:Array Rn}
theorem HS{xs ys:Array Keyed}{a b:Nat}(h:dZ ρ xs a b)(e:∀j,a<=j->j<b->ys[j]?=xs[j]?):dZ ρ ys a b:=λi j h1 h2 h3=>by
 rw[aA.cG (e i h1 (by lia)),aA.cG (e j (by lia) h3)];exact h i j h1 h2 h3
structure RI(κ:SortKind)(a₀:Array Keyed)(ρ:aA.RR)(lo:Nat)(st:SortSt):Prop where
 perm:(arrOf st).Perm a₀
 kn:kindOf st=κ
 failed:failedOf st=none
 tile:ir (pendingOf st).toList 0 lo
 DN:∀t∈(pendingOf st).toList,dZ ρ (arrOf st) t.1 (t.1+t.2.1)
theorem RI.gp{lo:Nat}{st:SortSt}(h:RI κ a₀ ρ lo st):GP κ a₀ (pendingOf st) st:=⟨h.perm,h.kn,h.failed,rfl⟩
theorem RI.out{lo n:Nat}{st st':SortSt}(h:RI κ a₀ ρ lo st)(g:GP κ a₀ (pendingOf st) st')(o:Out lo n (arrOf st) (arrOf st')):RI κ a₀ ρ lo st':=
 ⟨g.perm,g.kn,g.failed,by rw[g.pend];exact h.tile,λt ht=>by
  rw[g.pend]at ht;have:=Ks h.tile t ht;exact HS (h.DN t ht) λj h1 h2=>o j (.inl (by lia))⟩
theorem RI.merge{lo i:Nat}{x y:Rn}{st:SortSt}{Q:Bool->SortSt->Prop}(h0:aA.j5 prog w A s κ ρ a₀)(h:RI κ a₀ ρ lo st)(hlo:lo<=a₀.size)(e1:(pendingOf st)[i]?=some x)(e2:(pendingOf st)[i+1]?=some y)
  (k:∀st',RI κ a₀ ρ lo st'->(pendingOf st').size+1=(pendingOf st).size->(∀j,lo<=j->(arrOf st')[j]?=(arrOf st)[j]?)->Q true st'):wpS (model prog w) A E s (NY i) Q st:=by
 obtain⟨sa,na,p⟩:=x;obtain⟨sb,nb,q⟩:=y;have el:=QY (l:=(pendingOf st).toList) (i:=i) (by rw[a6R];exact e1) (by rw[a6R];exact e2);have hi:i<(pendingOf st).toList.length:=by
  rw[aTi];exact(Array.getElem?_eq_some_iff.mp e1).1
 have hti:((pendingOf st).toList.take i).length=i:=by rw[a1R];lia
 have ht:=h.tile;have hs:=h.DN;have hsz:(pendingOf st).size=(pendingOf st).toList.length:=aTi.symm;have hnew:(((pendingOf st).setIfInBounds i (sa,na+nb,p)).eraseIdxIfInBounds (i+1)).toList=(pendingOf st).toList.take i++(sa,na+nb,p) ::(pendingOf st).toList.drop (i+2):=by
  rw[Array.toList_eraseIdxIfInBounds,Array.toList_setIfInBounds]
  conv=>lhs;rw[el]
  have:=ZhY ((pendingOf st).toList.take i) ((pendingOf st).toList.drop (i+2)) (sa,na,p) (sb,nb,q) (sa,na+nb,p);rw[hti]at this;exact this
 generalize(pendingOf st).toList.take i=l at *;generalize(pendingOf st).toList.drop (i+2)=m at *;rw[el]at ht hs hsz;obtain⟨c,t1,t2,t3,t4,t5,t6⟩:=eG.mp ht;have t2:sa=c:=t2;have t3:0<na:=t3;have t4:sb=c+na:=t4;have t5:0<nb:=t5;have t6:ir m (c+na+nb) lo:=t6;have l6:=KQ t6;refine ZgS h0 h.kn h.gp.mem h.failed e1 e2 (by lia) t3 t5 (by rw[h.gp.size];lia) (hs (sa,na,p) (by simp)) (hs (sb,nb,q) (by simp)) λst' k1 f1 p1 pe s1 o1=>?_;refine k st' ⟨p1.trans h.perm,k1,f1,?_,?_⟩ ?_ λj hj=>o1 j (.inr (by lia))
 .rw [pe,hnew];exact eG.mpr ⟨c,t1,t2,by show 0<na+nb;lia,by show ir m (c+(na+nb)) lo;rw[<-Nat.add_assoc];exact t6⟩
 .rw [pe,hnew];intro t ht;rcases aUH.mp ht with ht|ht
  .have:=Ks t1 t ht;exact HS (hs t (aKU _ ht)) λj h1 h2=>o1 j (.inl (by lia))
  .rcases aCP.mp ht with ht|ht
   .subst ht;show dZ ρ (arrOf st') sa (sa+(na+nb));rw[show sa+(na+nb)=sb+nb by lia];exact s1
   .have:=Ks t6 t ht;exact HS (hs t (aEt _ (aO5 _ (aO5 _ ht)))) λj h1 h2=>o1 j (.inr (by lia))
 .have z:(pendingOf st').size=(pendingOf st').toList.length:=aTi.symm;rw[z,pe,hnew,hsz,aE0,aE0];rfl
theorem RI.push{lo n:Nat}{st:SortSt}(h:RI κ a₀ ρ lo st)(hn:0<n)(hs:dZ ρ (arrOf st) lo (lo+n)):RI κ a₀ ρ (lo+n) (setPending st ((pendingOf st).push (lo,n,0))):=by
 refine⟨h.perm,h.kn,h.failed,?_,?_⟩
 .show ir ((pendingOf st).push (lo,n,0)).toList 0 (lo+n);rw[a2o];exact eG.mpr ⟨lo,h.tile,rfl,hn,rfl⟩
 .show ∀t∈((pendingOf st).push (lo,n,0)).toList,_;rw[a2o];intro t ht;rcases aUH.mp ht with ht|ht
  .exact h.DN t ht
  .rw [bau.mp ht];exact hs
theorem SX{f:Rn->Rn}(hf:∀t,(f t).1=t.1/\(f t).2.1=t.2.1):∀{l:List Rn}{i a b:Nat},ir l a b->ir (l.modify i f) a b
 | [],i,a,b,h=>by cases i <;> exact h
 |t ::r,0,a,b,⟨h1,h2,h3⟩=>by
  show ir (f t ::r) a b;exact⟨(hf t).1.trans h1,by rw[(hf t).2];exact h2,by rw[(hf t).2];exact h3⟩
 |t ::r,i+1,a,b,⟨h1,h2,h3⟩=>⟨h1,h2,SX hf h3⟩
theorem Uc{f:Rn->Rn}:∀{l:List Rn}{i:Nat}{t:Rn},t∈l.modify i f->t∈l\/∃u∈l,t=f u
 | [],i,t,h=>by cases i <;> exact nomatch h
 |u ::r,0,t,h=>by
  rcases aCP.mp (show t∈f u ::r from h) with e|h
  .exact .inr ⟨u,aAX,e⟩
  .exact .inl (aO5 _ h)
 |u ::r,i+1,t,h=>by
  rcases aCP.mp (show t∈u ::r.modify i f from h) with e|h
  .exact .inl (e ▸aAX)
  .rcases Uc h with h|⟨v,hv,e⟩
   .exact .inl (aO5 _ h)
   .exact .inr ⟨v,aO5 _ hv,e⟩
theorem RI.pow{lo i:Nat}{st:SortSt}{f:Rn->Rn}(hf:∀t,(f t).1=t.1/\(f t).2.1=t.2.1)(h:RI κ a₀ ρ lo st):RI κ a₀ ρ lo (setPending st ((pendingOf st).modify i f)):=by
 refine⟨h.perm,h.kn,h.failed,?_,?_⟩
 .show ir ((pendingOf st).modify i f).toList 0 lo;rw[Array.toList_modify];exact SX hf h.tile
 .show ∀t∈((pendingOf st).modify i f).toList,_;rw[Array.toList_modify];intro t ht;rcases Uc ht with ht|⟨u,hu,e⟩
  .exact h.DN t ht
  .rw [e,(hf u).1,(hf u).2];exact h.DN u hu
theorem wB{st:SortSt}{Q:Unit->SortSt->Prop}(h0:aA.j5 prog w A s κ ρ a₀)(hP:(arrOf st).Perm a₀)(hk:kindOf st=κ)(hf:failedOf st=none)(hp:pendingOf st=#[])
  (h:∀st',(arrOf st').Perm a₀->failedOf st'=none->dZ ρ (arrOf st') 0 a₀.size->Q () st'):wpS (model prog w) A E s sortRuns' Q st:=by
 rw[sortRuns'_eq];refine a9z (aRo ?_);dsimp only;have Yt:(arrOf st).size=a₀.size:=hP.size_eq;simp only[Yt];generalize minRun' a₀.size a₀.size 0=mr;have r0:RI κ a₀ ρ 0 st:=⟨hP,hk,hf,by rw[hp];rfl,by rw[hp];exact λt ht=>nomatch ht⟩;refine a9z (aAw (aOS (I:=λx c st1=>∃lo,c=(none,lo)/\lo<=a₀.size/\(x<=lo\/lo=a₀.size)/\RI κ a₀ ρ lo st1) (Q:=λc st1=>c=(none,a₀.size)/\RI κ a₀ ρ a₀.size st1) ?turn ?last ⟨0,rfl,abf _,.inl (apX _),r0⟩) ?after)
 case last=>
  rintro c st1 ⟨lo,rfl,hlo,hx,r1⟩;have e:lo=a₀.size:=by lia
  subst e;exact⟨rfl,r1⟩
 case turn=>
  rintro x c st1 _ hx ⟨lo,rfl,hlo,hxl,r1⟩;dsimp only;by_cases g:lo ≥ a₀.size
  .rw [aYH g];have e:lo=a₀.size:=by lia
   subst e;exact ahi ⟨rfl,r1⟩
  .rw [aoK g];refine a9z (ZhX h0 (by lia) (by lia) r1.gp λm st2 b2 m1 m2 s2 o2=>?_);dsimp only;have r2:=r1.out b2 o2;have fin:∀{n:Nat}{st3:SortSt},0<n->lo+n<=a₀.size->RI κ a₀ ρ lo st3->dZ ρ (arrOf st3) lo (lo+n)->∃lo',(none,lo+n)=((none,lo'):Option Unit×Nat)/\lo'<=a₀.size/\(x+1<=lo'\/lo'=a₀.size)/\RI κ a₀ ρ lo' (setPending st3 ((pendingOf st3).push (lo,n,0))):=λ{n st3} h1 h2 h3 h4=>⟨lo+n,rfl,h2,by lia,h3.push h1 h4⟩;by_cases lt:m<mr
   .rw [aYH lt];refine a9z (wpS_lift (aiy ⟨rfl,?_⟩));refine a9z (ZkI h0 (by lia) (by lia) m1 b2 s2 λst3 b3 s3 o3=>?_);simp only[aLE,aLx,bdb];have r3:=r1.out (n:=a₀.size-lo) b3 λj hj=>(o3 j (by lia)).trans (o2 j hj);have hn:0<min (a₀.size-lo) mr:=by lia
    have mK:lo+min (a₀.size-lo) mr<=a₀.size:=by lia
    clear b3 o3 b2 s2 o2 r2 m1 m2 lt;generalize min (a₀.size-lo) mr=n at *;refine a9z (aRo ?_);cases eb:(pendingOf st3).back? with
    |none=>
     dsimp only;exact a9z (baB (ahi (fin hn mK r3 s3)))
    |some t=>
     obtain⟨s1,n1,z⟩:=t;dsimp only;generalize power' a₀.size (2*s1+n1) (2*s1+n1+n1+n) a₀.size=pw;refine a9z (aAw (aOS (I:=λ_ c cR=>c=(none,())/\RI κ a₀ ρ lo cR/\dZ ρ (arrOf cR) lo (lo+n)) (Q:=λc cR=>c=(none,())/\RI κ a₀ ρ lo cR/\dZ ρ (arrOf cR) lo (lo+n)) ?_ (λ_ _ hh=>hh) ⟨rfl,r3,s3⟩) ?_)
     .rintro y c cR _ _ ⟨rfl,r4,h4⟩;refine a9z (aRo ?_);by_cases c2:(pendingOf cR).size>1
      .have e1:(pendingOf cR)[(pendingOf cR).size-2]?=some (pendingOf cR)[(pendingOf cR).size-2]:=aTl (by lia);have e2:(pendingOf cR)[(pendingOf cR).size-2+1]?=some (pendingOf cR)[(pendingOf cR).size-2+1]:=aTl (by lia);simp only[aYH c2];rw[e1];dsimp only;by_cases c3:(pendingOf cR)[(pendingOf cR).size-2].2.2<=pw
       .rw [aYH c3];exact ahi ⟨rfl,r4,h4⟩
       .rw [aoK c3];refine a9z (RI.merge h0 r4 hlo e1 e2 λyE r5 _ o5=>?_);simp only[aLE,aLx,bdb];exact ahi ⟨rfl,r5,HS h4 λj h1 _=>o5 j h1⟩
      .simp only[aoK c2];exact ahi ⟨rfl,r4,h4⟩
     .rintro c cR ⟨rfl,r4,h4⟩;dsimp only;exact a9z (baB (a9z (baB (ahi (fin hn mK (r4.pow λ_=>⟨rfl,rfl⟩) h4)))))
   .rw [aoK lt];have hn:0<m:=by lia
    have mK:lo+m<=a₀.size:=by lia
    have r3:=r2;have s3:=s2;clear b2 s2 o2 r2 m1 m2 lt;generalize m=n at *;generalize st2=st3 at *;refine a9z (aRo ?_);cases eb:(pendingOf st3).back? with
    |none=>
     dsimp only;exact a9z (baB (ahi (fin hn mK r3 s3)))
    |some t=>
     obtain⟨s1,n1,z⟩:=t;dsimp only;generalize power' a₀.size (2*s1+n1) (2*s1+n1+n1+n) a₀.size=pw;refine a9z (aAw (aOS (I:=λ_ c cR=>c=(none,())/\RI κ a₀ ρ lo cR/\dZ ρ (arrOf cR) lo (lo+n)) (Q:=λc cR=>c=(none,())/\RI κ a₀ ρ lo cR/\dZ ρ (arrOf cR) lo (lo+n)) ?_ (λ_ _ hh=>hh) ⟨rfl,r3,s3⟩) ?_)
     .rintro y c cR _ _ ⟨rfl,r4,h4⟩;refine a9z (aRo ?_);by_cases c2:(pendingOf cR).size>1
      .have e1:(pendingOf cR)[(pendingOf cR).size-2]?=some (pendingOf cR)[(pendingOf cR).size-2]:=aTl (by lia);have e2:(pendingOf cR)[(pendingOf cR).size-2+1]?=some (pendingOf cR)[(pendingOf cR).size-2+1]:=aTl (by lia);simp only[aYH c2];rw[e1];dsimp only;by_cases c3:(pendingOf cR)[(pendingOf cR).size-2].2.2<=pw
       .rw [aYH c3];exact ahi ⟨rfl,r4,h4⟩
       .rw [aoK c3];refine a9z (RI.merge h0 r4 hlo e1 e2 λyE r5 _ o5=>?_);simp only[aLE,aLx,bdb];exact ahi ⟨rfl,r5,HS h4 λj h1 _=>o5 j h1⟩
      .simp only[aoK c2];exact ahi ⟨rfl,r4,h4⟩
     .rintro c cR ⟨rfl,r4,h4⟩;dsimp only;exact a9z (baB (a9z (baB (ahi (fin hn mK (r4.pow λ_=>⟨rfl,rfl⟩) h4)))))
 case after=>
  rintro c st1 ⟨rfl,r1⟩;dsimp only;have l1:=KQ r1.tile;rw[aTi]at l1;refine a9z (aAw (aOS (I:=λx c st2=>c=(none,())/\RI κ a₀ ρ a₀.size st2/\(pendingOf st2).size+x<=a₀.size+1) (Q:=λc st2=>c=(none,())/\RI κ a₀ ρ a₀.size st2/\(pendingOf st2).size<=1) ?_ ?_ ⟨rfl,r1,by lia⟩) ?_)
  .rintro y c st2 _ _ ⟨rfl,r2,h2⟩;refine a9z (aRo ?_);by_cases c1:(pendingOf st2).size<=1
   .rw [aYH c1];exact ahi ⟨rfl,r2,c1⟩
   .rw [aoK c1];obtain⟨i,hi,hlt⟩:∃i,(if Option.any (λx=>decide (x<(pendingOf st2)[(pendingOf st2).size-2+1]?.elim 0 λx=>x.snd.fst)) (if(pendingOf st2).size-2>0 then Option.map (λx=>x.snd.fst) (pendingOf st2)[(pendingOf st2).size-2-1]? else none)=true then(pendingOf st2).size-2-1 else(pendingOf st2).size-2)=i/\i+1<(pendingOf st2).size:=⟨_,rfl,by generalize Option.any _ _=bb;cases bb <;> simp <;> lia⟩;rw[hi];refine a9z (RI.merge h0 r2 (apX _) (aTl (by lia)) (aTl hlt) λyE r5 z5 _=>?_);simp only[aLE,aLx,bdb];exact ahi ⟨rfl,r5,by lia⟩
  .rintro c st2 ⟨rfl,r2,h2⟩;exact⟨rfl,r2,by lia⟩
  .rintro c st2 ⟨rfl,r2,h2⟩;dsimp only;refine ahi (h st2 r2.perm r2.failed ?_);have ht:=r2.tile;have hs:=r2.DN;have z:(pendingOf st2).size=(pendingOf st2).toList.length:=aTi.symm;rw[z]at h2;generalize(pendingOf st2).toList=l at *
   match l,h2,ht,hs with
   | [],_,ht,_=>
    have e:0=a₀.size:=ht;intro i j _ _ hj;lia
   | [t],_,⟨t1,t2,t3⟩,hs=>
    have e:0+t.2.1=a₀.size:=t3;have q:=hs t (by simp);rw[t1,e]at q;exact q
   |_ ::_ ::_,h2,_,_=>simp at h2
end
end L2.zN
set_option maxHeartbeats 4000000
namespace L2
open PySem PySem.Spec PyProof.Rows
section
variable{prog:Program}{w:World}{A:Around}{E:Value->Shared->Prop}{s:Shared}
theorem QX{a:Addr}{us:List Value}{m:Nat}{P:PySem.Fin->Shared->Prop}{κ:SortKind}{ρ:aA.RR}(ho:s.heap.get? a=some (seqObj "list" us.toArray m))(z:us.length<=1000000)
  (hk:2<=us.length->(∀(E:Value->Shared->Prop)(Q:SortKind->Shared->Prop),Q κ { s with heap:=rO s.heap a us }->wpAny (model prog w) A (keyKind' us.toArray) Q E { s with heap:=rO s.heap a us })/\aA.j5 prog w A { s with heap:=rO s.heap a us } κ ρ (pairsOf us))
  (g:∀q:SortSt,(arrOf q).Perm (pairsOf us)->zN.dZ ρ (arrOf q) 0 (pairsOf us).size->P (.done (.ret .none)) { s with heap:=sortedHeap s.heap a us ((arrOf q).map (·.2)) }):wpAny (model prog w) A (Builtin.«list.sort» ⟨[.ref a],[]⟩) P E s:=by
 rw[list_sort_plain];have al:a<s.heap.objs.size:=aNG ho;obtain⟨c,oc⟩:∃c,(s.heap.update a (Obj.mapSeq λ_=>#[])).get? a=some (seqObj "list" #[] c):=⟨_,get?_update_seq ho (λ_=>#[])⟩;have Jz:(rO s.heap a us).get? a=some (seqObj "list" #[] c):=a8G _ (a8G _ oc);refine agE (listItems_at ho rfl (agE (awK ho rfl (agE (seqEpoch_at oc rfl (agE (wpAny_newTuple (agE (aHN (aMj ?_)))))))))) <;> try (rw[aXy];first|(rw[aBb];lia)|lia)
 show wpAny (model prog w) A _ P E { s with heap:=rO s.heap a us };dsimp only;have K7:us.toArray.size=us.length:=aBb ..;by_cases few:us.toArray.size<2
 .rw [aYH few,aYH few];refine agE (anq ?_);rw[StateT.run_pure];refine agE (anq (agE (seqEpoch_at Jz rfl (agE (awK Jz rfl ?_ (hsz2:=by rw[Array.size_map];show(pairsOf us).size<=_;rw[pairsOf_size,aXy];lia))))));simp only[bne_self_eq_false,aLx,bdb];refine anq (g (SortSt.mk' general' (us.toArray.zip us.toArray) #[] 7 none) (aq1 _) λi j _ hij hj=>?_);rw[pairsOf_size]at hj;rw[show i=j by lia];exact aHu _
 .rw [aoK few,aoK few];have two:2<=us.length:=by lia
  obtain⟨k1,k2⟩:=hk two;refine agE (k1 _ _ (agE (aEC (zN.wB (a₀:=pairsOf us) (st:=SortSt.mk' κ (us.toArray.zip us.toArray) #[] 7 none) (Q:=λ_ q=>(arrOf q).Perm (pairsOf us)/\failedOf q=none/\zN.dZ ρ (arrOf q) 0 (pairsOf us).size) k2 (aq1 _) rfl rfl rfl λq a1 a2 a3=>⟨a1,a2,a3⟩) ?_ λ_ _ e=>e)));rintro⟨⟨⟩,q⟩ t ⟨rfl,hp,hf,hs⟩;refine agE (seqEpoch_at Jz rfl (agE (awK Jz rfl ?_ (hsz2:=by rw[Array.size_map,hp.size_eq,pairsOf_size,aXy];lia))));dsimp only;rw[hf];simp only[bne_self_eq_false,aLx,bdb];exact anq (g q hp hs)
end
theorem ZlM{α:Type}:∀{l:List α},2<=l.length->∃a b r,l=a ::b ::r
 | [],h=>absurd h (Nat.not_succ_le_zero 1)
 | [_],h=>absurd h (aZG 1)
 |a ::b ::r,_=>⟨a,b,r,rfl⟩
def DQ:aA.RR:=⟨λ_=>0,λp=>match p.1 with| .int n _=>n|_=>0⟩
theorem QW{xs:Array Keyed}{i:Nat}:aA.Kg DQ xs i=PyProof.Rows.K xs i:=by
 unfold aA.Kg PyProof.Rows.K;cases xs[i]? with
 |none=>rfl
 |some p=>obtain⟨v,u⟩:=p;cases v <;> rfl
variable{K:W.Frag}{X:Cx}
end L2
set_option maxHeartbeats 1000000
namespace L2
open PySem PySem.Spec PySem.Calls PyProof.Rows PySem.MeetsSeq PySem.W
abbrev pN:=Addr×Int×Int
def yh(es:List pN)(a:Addr):pN:=(es.find? λe=>e.1 ==a).getD (0,0,0)
theorem Er:∀{es:List pN},(es.map (·.1)).Nodup->∀{e:pN},e∈es->yh es e.1=e
 | [],_,_,h=>by cases h
 |x ::r,nd,e,h=>by
  rw[aSM]at nd;obtain⟨n1,n2⟩:=aE7.mp nd;unfold yh;rw[ajC];rcases aCP.mp h with rfl|h
  .rw [beq_self_eq_true];rfl
  .have ne:(x.1 ==e.1)=false:=by
    rw[aik];exact λz=>n1 (by rw[z];exact bax h)
   rw[ne];exact Er n2 h
def gP(e:pN):Value:=.ref e.1
def Js(es:List pN):aA.RR:=⟨λ_=>0,λp=>(yh es (yO p.2)).2.1⟩
def IF(h:Heap)(e:pN):Prop:=∃t t',h.get? e.1=some { cls:=.type "tuple",data:=.seq #[.int e.2.1 t,.int e.2.2 t'] }
section
variable{prog:Program}{w:World}{A:Around}{E:Value->Shared->Prop}{s:Shared}
theorem M6{a b:pN}{Q:Bool->Shared->Prop}(h1:IF s.heap a)(h2:IF s.heap b)(hab:a.2.1=b.2.1->a.2.2=b.2.2)(h:Q (decide (a.2.1<b.2.1)) s):wpAny (model prog w) A (keyLt' (tuples' true) (gP a) (gP b)) Q E s:=by
 obtain⟨t,t',ho⟩:=h1;obtain⟨u,u',ho'⟩:=h2;refine W.kat_lt ho rfl ho' rfl (W.kat_cons ?_);obtain⟨c,e,hc⟩:=HT.qJ A s a.2.1 t b.2.1 u;refine e prog w _ _ ?_;cases c with
 |true=>
  have z:=hc.mp rfl;refine W.kat_yes (W.kat_cons ?_);obtain⟨c2,e2,hc2⟩:=HT.qJ A s a.2.2 t' b.2.2 u';refine e2 prog w _ _ ?_;cases c2 with
  |true=>
   rw[bcN (by lia)]at h;exact W.kat_yes (W.kat_nil h)
  |false=>exact absurd (hc2.mpr (hab z)) aPf
 |false=>exact W.kat_no (oneLt_int h)
theorem QV{h:Heap}:∀{es:List pN},(∀e∈es,IF h e)->∃fs:List Value,W.KatTups h (es.map gP) fs/\fs.length=es.length/\∀v∈fs,∃(n:Int)(t:Tok),v=.int n t
 | [],_=>⟨[],W.KatTups.nil,rfl,λ_ h=>by cases h⟩
 |e ::es,hh=>by
  obtain⟨fs,t,lf,hf⟩:=QV (es:=es) λx m=>hh x (aO5 _ m);obtain⟨a,b,ho⟩:=hh e aAX;rw[aSM];refine⟨.int e.2.1 a ::fs,W.KatTups.cons ho rfl rfl rfl t,by rw[aXW,lf];rfl,λv m=>?_⟩;rcases aCP.mp m with rfl|m
  .exact ⟨_,_,rfl⟩
  .exact hf v m
end
theorem F2{es:List pN}(nd:(es.map (·.1)).Nodup){xs:Array Keyed}(hp:xs.Perm (pairsOf (es.map gP)))(hi:zN.dZ (Js es) xs 0 (pairsOf (es.map gP)).size) :
  ∃os:List pN,(xs.map (·.2)).toList=os.map gP/\os.Perm es/\os.Pairwise λx y=>x.2.1<=y.2.1:=by
 have pm:=a6n.mp hp;rw[Ud,map_map]at pm;have mx:∀p∈xs.toList,∃e∈es,p=(gP e,gP e):=λp h=>by
  obtain⟨e,m,q⟩:=a34.mp (pm.mem_iff.mp h);exact⟨e,m,q.symm⟩
 refine⟨xs.toList.map λp=>yh es (yO p.2),?_,?_,?_⟩
 .rw [Array.toList_map,map_map];refine aWw λp h=>?_;obtain⟨e,m,rfl⟩:=mx p h;show gP e=gP (yh es e.1);rw[Er nd m]
 .have q:=pm.map λp=>yh es (yO p.2);rw[map_map]at q;refine q.trans (aiW ?_);have:es.map ((λp:Keyed=>yh es (yO p.2)) ∘ ((λv=>(v,v)) ∘ gP))=es.map id:=aWw λe m=>Er nd m;rw[this,map_id]
 .rw [pairwise_iff_getElem];intro i j h1 h2 hij;have hi2:i<xs.size:=by simpa using h1
  have hj2:j<xs.size:=by simpa using h2
  have v:=hi i j (abf _) (aIf hij) (by rw[<-hp.size_eq];exact hj2);unfold aA.Kg at v;rw[aTl hi2,aTl hj2]at v;rw[getElem_map,getElem_map,aL6,aL6];exact v
def rW(H:Hp)(es:List pN):Hp:=λa=>match es.find? λe=>e.1 ==a with
 |some e=>some (.tup [.int e.2.1,.int e.2.2])
 |none=>H a
theorem SW{H:Hp}{es:List pN}{a:Addr}(h:∀e∈es,e.1≠a):rW H es a=H a:=by
 unfold rW;rw[List.find?_eq_none.mpr λe m=>by simpa using h e m]
theorem Zjn{H:Hp}{es:List pN}(nd:(es.map (·.1)).Nodup){e:pN}(m:e∈es):rW H es e.1=some (.tup [.int e.2.1,.int e.2.2]):=by
 have q:=Er nd m;unfold yh at q;unfold rW;cases z:es.find? λx=>x.1 ==e.1 with
 |none=>exact absurd (List.find?_eq_none.mp z e m) (by simp)
 |some x=>rw[z]at q;have q:x=e:=q;rw[q]
theorem Tv{α β:Type}{F:α->β->Prop}:∀{l₁:List α}{l₂:List β},Paired F l₁ l₂->∀{i:Nat}{a:α}{b:β},l₁[i]?=some a->l₂[i]?=some b->F a b
 |_,_,.nil,_,_,_,h,_=>by simp at h
 |_,_,.cons r t,0,_,_,h,g=>by
  simp only[List.getElem?_cons_zero,Option.some.injEq]at h g;subst h g;exact r
 |_,_,.cons r t,i+1,_,_,h,g=>Tv t (i:=i) (by simpa using h) (by simpa using g)
theorem QU{α β:Type}{f:α->β}:∀{l:List α},(l.map f).Nodup->∀{a b:α},a∈l->b∈l->f a=f b->a=b
 | [],_,_,_,h,_,_=>nomatch h
 |x ::r,nd,a,b,ha,hb,e=>by
  obtain⟨n1,n2⟩:=aE7.mp nd;rcases aCP.mp ha with h1|h1 <;> rcases aCP.mp hb with h2|h2
  .rw [h1,h2]
  .exact absurd (by rw[<-h1,e];exact bax h2) n1
  .exact absurd (by rw[<-h2,<-e];exact bax h1) n1
  .exact QU n2 h1 h2 e
theorem ZkJ(os:List pN):Vals (os.map λe=>V.ref e.1) (os.map gP):=by
 induction os with
 |nil=>exact .nil
 |cons e r ih=>exact .cons rfl ih
section
variable{X:Cx}{pins:List (Addr×Obj)}{σ:St}{H H':Hp}{s:Shared}{h':Heap}
theorem Inv.more{t':Nat}(I:Inv X pins σ H s)(k:∀b u,s.heap.get? b=some u->h'.get? b=some u)(on:∀b o,H b=some o->H' b=some o)(fr:∀b u,s.heap.get? b=some u->H b=none->H' b=none)(new:∀b o,H b=none->H' b=some o->aF X.prog X.w H' h' b o) :
  Inv X pins σ H' { s with heap:=h',toks:=t' }:=by
 refine I.un ⟨λb u q _ _ _=>k b u q,λb u q _ _ _=>⟨u.slots,k b u q⟩,λb u q n _=>fr b u q n,λb u q _=>⟨u,k b u q⟩,λb xs q=>on _ _ q,λb o u q=>on _ _ q,λb p z q=>on _ _ q⟩ λb u e=>?_;cases c:H b with
 |some o=>
  have e2:=aDb ((on b o c).symm.trans e);subst e2;exact(I.hok b o c).stay (λc v _ q=>k c v q) (λc q=>on _ _ q) (λc xs q=>on _ _ q) λc oz q=>on _ _ q
 |none=>exact new b u c e
end
theorem Zet{P:Program}{w:World}(d:Addr)(hd:(d ==sysModules)=false) :
  MeetsIn P w (Builtin.«dict.items» ⟨[.ref d],[]⟩) (λ_ R s=>s.TypeIs (.ref d) "dict" /\R (.ok (.ret (.ref s.heap.objs.size))) { s with heap:=s.heap.push { cls:=.type "dict_items",data:=.fields #[.ref d] } }):=
 .of_wp λA R s ⟨ty,h⟩=>by
  unfold Builtin.«dict.items»;refine agE ?_;unfold Builtin.Dict.noArgs;refine agE (wpAny_notOrdered_dict ty ?_);show wpAny _ _ (pure d) _ _ s;refine anq ?_;show wpAny _ _ (Builtin.Dict.showsAll d >>=_) _ _ s;unfold Builtin.Dict.showsAll;rw[aoK (by rw[hd];exact aPf)];exact agE (anq (agE (aiJ (anq ⟨_,rfl,h⟩))))
section
variable{X:Cx}
def OF(H:Hp)(v d:Addr):Prop:=H v=some (.ext λh=>h.IsItemsView v d)
def ZkK(tl:TE):TE:=λσ H Q=>tl σ H λx H1=>∃d kvs,x=.ref d/\H1 d=some (.dK kvs)/\∀v,H1 v=none->Q (.ref v) (upd H1 v (.ext λh=>h.IsItemsView v d))
theorem ZhZ{l:Expr}{tl:TE}{apos cpos:Pos}(hl:PE X l tl)(hbase:attributeBase l "items" X.env (eval l X.env)=eval l X.env:=by rfl)(hline:(apos.endLine ==cpos.line)=true:=by rfl):PE X (.Call (.Attribute l "items" apos) [] [] cpos) (ZkK tl):=by
 intro pins s σ H Q I h;refine wpAny_Call_method0_late hbase hline (eL (hl pins s σ H _ I h) λv s1 x H1 I1 r1 q1=>?_);obtain⟨d,kvs,e,hd,q⟩:=q1;subst e;cases r1;obtain⟨t1,t2,hs⟩:=Km I1 (.inl ⟨kvs,.inl hd⟩);refine⟨"dict","dict.items",bd4,PySem.F.slot_dict_items,PySem.F.type_dict_items,t1,t2,a0x rfl (PySem.evalArgs_none ?_)⟩;refine call_meetsIn PySem.F.slot_dict_items t1 PySem.F.entry_dict_items (PySem.F.args_dict_items_1 _) (Zet d hs) ⟨t1,?_⟩;refine⟨.ref s1.heap.objs.size,_,I1.laid (a:=s1.heap.objs.size) (t':=s1.toks) (o:=.ext λh=>h.IsItemsView s1.heap.objs.size d) (λb o z=>a8G _ z) (apX _) ⟨⟨_,aIn _ rfl,rfl,rfl⟩,⟨_,aIn _ rfl⟩,λh1 h2 ⟨o,ho,x⟩ up=>⟨o,up o ho,x⟩⟩,rfl,q _ (I1.hok.fresh (apX _))⟩
inductive qm(xs:List V)(H:Hp)(Q:VK):Prop
 |mk (v d:Addr) (ps:List (Int×Int)):xs=[.ref v]->OF H v d->H d=some (.dK (ps.map λp=>(Sum.inl p.1,V.int p.2)))->(ps.map (·.1)).Nodup->ps.length<=1000000->(∀(D:Addr)(os:List pN)(H':Hp),H D=none->ay H H'->H' D=some (.lst (os.map λe=>V.ref e.1))->(∀e∈os,H e.1=none/\H' e.1=some (.tup [.int e.2.1,.int e.2.2]))->(os.map (·.2)).Perm ps->(os.Pairwise λx y=>x.2.1<y.2.1)->Q (.ref D) H')->qm xs H Q
theorem Zeu(hc:X.calm=true):bA X (.builtin "sorted") qm:=by
 intro pins s σ H xs us Q I r h;obtain⟨v,d,ps,rfl,hv,hd,nd,hz,q⟩:=h;obtain⟨u,rfl,rx⟩:=vals1 r;cases rx;obtain⟨hvw,_⟩:=I.hok v _ hv;obtain⟨_,hs,vs,rv,hD⟩:=I.hok d _ hd;obtain⟨ep,hat⟩:=hD.dictAt;have hl:vs.length=ps.length:=by have:=avy rv;rw[aW8]at this;exact this.symm
 refine apv kind_sorted plain_sorted entry_sorted (args_sorted1 _) ?_;unfold Builtin.«sorted»;refine agE (m:=checkCount "sorted" 1 1 _) (anq ?_);refine agE (W.kdx_collect (A:=X.A.in1) (knd:=Zw X.prog X.w) (kvs:=vs) (ep:=ep) (show X.A.in1.handled=none from I.ok.hd hc) hvw hat (by rw[aXy];lia) λh' tk as hk' la hG=>?_);obtain⟨es,ea,ev,pk⟩:∃es:List pN,es.map (·.1)=as/\es.map (·.2)=ps/\∀e∈es,IF h' e:=by
  refine⟨as.zip ps,List.map_fst_zip (by lia),List.map_snd_zip (by lia),λe m=>?_⟩;obtain⟨j,hj⟩:=List.mem_iff_getElem?.mp m;rw[List.getElem?_zip_eq_some]at hj;obtain⟨ja,jp⟩:=hj;obtain⟨key,k,x,e1,e2,e3⟩:=hG.pairs j _ ja;obtain⟨f1,f2⟩:=Tv rv (i:=j) (by rw[aeb,jp];rfl) e1;dsimp only at f1 f2;subst f1;obtain⟨t,rfl⟩:=Tf e2;obtain⟨t',rfl⟩:=f2;exact⟨t,t',e3⟩
 have Gi:(es.map (·.1)).Nodup:=by rw[ea];exact hG.rise.imp λh=>amC h
 have Pe:(es.map λe=>e.2.1).Nodup:=by
  rw[<-ev,map_map]at nd;exact nd
 have le:es.length=ps.length:=by rw[<-ev,aW8]
 have er:as.map Value.ref=es.map gP:=by rw[<-ea,map_map];rfl
 have ab:∀e∈es,s.heap.objs.size<e.1:=λe m=>hG.above _ (by rw[<-ea];exact bax m);rw[er];refine agE (aHN ?_ (by rw[aW8,le,aXy];lia));have lN:(h'.push (seqObj "list" (es.map gP).toArray 0)).get? h'.objs.size=some (seqObj "list" (es.map gP).toArray 0):=aIn _ rfl;show wpAny _ _ _ _ _ { s with heap:=h'.push (seqObj "list" (es.map gP).toArray 0),toks:=tk };have up1:∀b o,h'.get? b=some o->(h'.push (seqObj "list" (es.map gP).toArray 0)).get? b=some o:=λb o e=>a8G _ e;have Pn:∀e∈es,e.1<h'.objs.size:=λe m=>by obtain⟨_,_,z⟩:=pk e m;exact aNG z
 refine agE (aMj (aMl slot_list_sort ⟨_,lN,rfl⟩ entry_list_sort (QX (s:={ s with heap:=h'.push (seqObj "list" (es.map gP).toArray 0),toks:=tk }) (κ:=tuples' true) (ρ:=Js es) lN (by rw[aW8,le];exact hz) (λtwo=>?_) λst a1 a2=>⟨_,rfl,?_⟩) (args_list_sort _)))
 .have Lz:∀e∈es,IF (rO (h'.push (seqObj "list" (es.map gP).toArray 0)) h'.objs.size (es.map gP)) e:=λe m=>by
   obtain⟨t,t',z⟩:=pk e m;exact⟨t,t',Zjl (amC (Pn e m)) (up1 _ _ z)⟩
  refine⟨λE Q hQ=>?_,λx mx y my E Q hQ=>?_⟩
  .obtain ⟨fs,t,lf,hf⟩:=QV Lz;refine W.kat_kind (T:=Value.type "int") t (by rw[aW8]at two;lia) (λv m=>?_) rfl hQ;obtain⟨n,t,rfl⟩:=hf v m;exact .now
  .rw [Ud,map_map]at mx my;obtain⟨a,ma,rfl⟩:=a34.mp mx;obtain⟨b,mb,rfl⟩:=a34.mp my;refine M6 (Lz a ma) (Lz b mb) (λz=>by rw[QU Pe ma mb z]) ?_;have e1:(Js es).g (gP a,gP a)=a.2.1:=by show(yh es a.1).2.1=_;rw[Er Gi ma]
   have e2:(Js es).g (gP b,gP b)=b.2.1:=by show(yh es b.1).2.1=_;rw[Er Gi mb]
   rw[<-e1,<-e2];exact hQ
 refine anq ⟨_,rfl,?_⟩;obtain⟨os,eo,po,so⟩:=F2 Gi a1 a2;obtain⟨e,he⟩:=sortedHeap_at (out:=(arrOf st).map (·.2)) lN;have lo:=po.length_eq;have D0:H h'.objs.size=none:=(I.kept (t':=tk) hk').hok.fresh (apX _);have ndO:(os.map (·.1)).Nodup:=(po.map _).nodup_iff.mpr Gi;have nE:∀{b o},H b=some o->∀e∈es,e.1≠b:=λ{b o} z e m=>aA9 (aHq (I.hok.lt z) (ab e m));have on:∀b o,H b=some o->upd (rW H es) h'.objs.size (.lst (os.map λe=>V.ref e.1)) b=some o:=λb o z=>by rw[Zc (Ze z D0),SW (nE z)];exact z
 have OM:∀b o,h'.get? b=some o->(sortedHeap (h'.push (seqObj "list" (es.map gP).toArray 0)) h'.objs.size (es.map gP) ((arrOf st).map (·.2))).get? b=some o:=λb o z=>by
  have lt:=aNG z;rw[sortedHeap_old (amC lt) (by rw[size_push'];exact aO1 lt),ahB _ _ _ (amC lt)];exact z
 have I2:Inv X pins σ (upd (rW H es) h'.objs.size (.lst (os.map λe=>V.ref e.1))) { s with heap:=sortedHeap (h'.push (seqObj "list" (es.map gP).toArray 0)) h'.objs.size (es.map gP) ((arrOf st).map (·.2)),toks:=tk }:=by
  generalize sortedHeap (h'.push (seqObj "list" (es.map gP).toArray 0)) h'.objs.size (es.map gP) ((arrOf st).map (·.2))=hF at *;refine I.more (λb u z=>OM _ _ (hk' _ _ z)) on (λb u z n=>?_) λb o n z=>?_
  .rw [Zc (amC (aNG (hk' _ _ z))),SW λe m=>aA9 (aHq (aNG z) (ab e m))];exact n
  by_cases c:b=h'.objs.size
  .subst c;rw[Za]at z;cases z;exact⟨by rw[aW8,lo,le,aXy];lia,os.map gP,e,ZkJ os,by rw[<-eo];exact he⟩
  .rw [Zc c]at z;unfold rW at z;cases y:es.find? λe=>e.1 ==b with
   |none=>rw[y]at z;rw[show H b=some o from z]at n;cases n
   |some x=>
    rw[y]at z;have mx:=List.mem_of_find?_eq_some y;have ex:x.1=b:=by simpa using List.find?_some y
    cases z;obtain⟨t,t',g⟩:=pk x mx;rw[<-ex];exact⟨by show 2<=sizeLine;decide,[.int x.2.1 t,.int x.2.2 t'],.cons ⟨t,rfl⟩ (.cons ⟨t',rfl⟩ .nil),_,OM _ _ g,rfl,_,rfl⟩
 refine⟨.ref h'.objs.size,_,I2,rfl,q _ os _ D0 on Za (λx m=>?_) (by rw[<-ev];exact po.map _) ?_⟩
 .have mE:=po.mem_iff.mp m;refine⟨?_,by rw[Zc (amC (Pn x mE))];exact Zjn Gi mE⟩;cases c:H x.1 with
  |none=>rfl
  |some o=>exact absurd rfl (nE c x mE)
 .have Gh:(os.map λe=>e.2.1).Nodup:=(po.map _).nodup_iff.mpr Pe;have:=List.pairwise_map.mp Gh;exact(so.and this).imp λh=>by obtain⟨h1,h2⟩:=h;lia
end
inductive ny(xs:List V)(H:Hp)(Q:VK):Prop
 |mk (d:Addr) (kvs:List (Key×V)) (ns:List Int):xs=[.ref d]->H d=some (.dK kvs)->kvs.map Prod.fst=ns.map Sum.inl->ns.length<=1000000->(∀(D:Addr)(os:List Int),H D=none->os.Perm ns->os.Pairwise (·<=·)->Q (.ref D) (upd H D (.lst (os.map V.int))))->ny xs H Q
section
variable{X:Cx}
theorem Zdq(hc:X.calm=true):bA X (.builtin "sorted") ny:=by
 intro pins s σ H xs us Q I r h;obtain⟨d,kvs,ns,rfl,hd,hk,hz0,q⟩:=h;obtain⟨u,rfl,rx⟩:=vals1 r;cases rx;obtain⟨hz,hs,vs,rv,hD⟩:=I.hok d _ hd;obtain⟨ep,hat⟩:=hD.dictAt;have hl:vs.length=ns.length:=by have l1:kvs.length=vs.length:=avy rv;have l2:=aSc List.length hk;simp at l2;lia
 refine apv kind_sorted plain_sorted entry_sorted (args_sorted1 _) ?_;unfold Builtin.«sorted»;refine agE (m:=checkCount "sorted" 1 1 _) (anq ?_);refine agE (kdu_collect (A:=X.A.in1) (kdl_dict (knd:=Zw X.prog X.w) (kvs:=vs) (ep:=ep) hs) (show X.A.in1.handled=none from I.ok.hd hc) hat (by rw[aXy];lia) λh' tk acc hk' hacc=>?_);have hv:=TF rv hk hacc;have la:acc.toList.length=ns.length:=by rw[aTi,hacc.1,hl]
 generalize acc.toList=its at *;refine agE (aHN ?_ (by rw[la,aXy];lia));have lN:(h'.push (seqObj "list" its.toArray 0)).get? h'.objs.size=some (seqObj "list" its.toArray 0):=aIn _ rfl;have I1:=I.kept (t':=tk) hk';show wpAny _ _ _ _ _ { s with heap:=h'.push (seqObj "list" its.toArray 0),toks:=tk };refine agE (aMj (aMl slot_list_sort ⟨_,lN,rfl⟩ entry_list_sort (QX (s:={ s with heap:=h'.push (seqObj "list" its.toArray 0),toks:=tk }) (κ:=oneType') (ρ:=DQ) lN (by lia) (λtwo=>⟨λE Q hQ=>?_,λx mx y my E Q hQ=>?_⟩) λst hp hs=>⟨_,rfl,?_⟩) (args_list_sort _)))
 .have hkk:keyKind' its.toArray=pure oneType':=by
   obtain⟨v1,v2,rest,e⟩:=ZlM two;rw[e]at hv ⊢;exact keyKind_ints hv
  rw[hkk];exact anq hQ
 .obtain ⟨a,t,ea⟩:=hv.intKeys x mx;obtain⟨b,t',eb⟩:=hv.intKeys y my;rw[ea,eb];refine W.kat_lt_int ?_;have e1:DQ.g x=a:=by unfold DQ;dsimp only;rw[ea]
  have e2:DQ.g y=b:=by unfold DQ;dsimp only;rw[eb]
  rw[e1,e2]at hQ;exact hQ
 refine anq ⟨_,rfl,?_⟩;obtain⟨ns',h1,h2,h3⟩:=sorted_out hv hp (λi j hij hj=>by rw[<-QW,<-QW];exact hs i j (abf _) hij hj);generalize(arrOf st).map (·.2)=out at *;obtain⟨e,he⟩:=sortedHeap_at (out:=out) lN;have fr:H h'.objs.size=none:=I1.hok.fresh (apX _);have lo:=h2.length_eq;refine⟨.ref h'.objs.size,_,I1.laid (a:=h'.objs.size) (t':=tk) (o:=.lst (ns'.map V.int)) (λb o z=>?_) (apX _) ⟨by rw[aW8,lo,aXy];lia,out.toList,e,IC h1,he⟩,rfl,q _ ns' fr h2 h3⟩;have z':h'.get? b=some o:=z;have lt:=aNG z';rw[sortedHeap_old (amC lt) (by rw[size_push'];exact aO1 lt),ahB _ _ _ (amC lt)];exact z'
end
end L2
set_option maxHeartbeats 4000000

namespace sI
open PySem L2
theorem sL(n:Nat)(h:n ≤99:=by decide):n ≤sizeLine:=alM h (by rw[aXy];decide)
variable{P:Program}{w:World}{K:W.Frag}{mg:Str->Option Value}{base:Heap}
def top(i:Nat):Stmt:=PySem.Challenge.pw_nearstairs_k65_whole_begun_anew.main.body.getD i (.Pass ⟨0,0,0,0⟩)
theorem V9{N P:List Str}{sc:Scope}(a:sc.kind=.function:=by rfl)(b:sc.isCoroutine=false:=by rfl)(c:sc.isGenerator=false:=by rfl)(d:N.Nodup:=by decide +kernel)(e:N.take P.length=P:=by rfl)(f:∀x∈P,sc.names.lookup x=some .local\/sc.names.lookup x=some .cell:=by decide +kernel)(g:∀y∈sc.names,y.2≠.free:=by decide +kernel):fK N P sc:=⟨a,b,c,d,e,f,g⟩
open Lean in
local macro_rules|`(command|#reduce 1)=>do
 let mut r:Array (TSyntax `command):=#[]
 for x in "kJ Dw sy qh 2 99 2 size spot;kH Dr sj qf 3 99 2 size board first;kI Ds su qg 4 99 2 shelves board;fm rq qX oh 12 0 4 self shelves places rule;kL Dz sD qj 12 1 2 self board;gM Aa pF lZ 12 2 2 self board out;kK Dy sC qi 12 3 2 self board mates;jj Bv qY oj 12 4 2 self board;fW yx mT kF 12 5 1 self;gJ z4 pB lX 12 6 2 self number;ji Bu qW n8 12 7 2 self board;gK z9 pC lY 12 8 2 self board;cJ uD iw fZ 12 9 2 self board mates;aP iz b7 fR 12 10 2 self mates;gG zW pq lT 14 0 2 self room_plan shelves places rule writing;jg Br qV n5 14 1 2 self board;dI vz jP iD 14 2 3 self board words;cY uW iV gA 14 3 2 self board;cW uU iS gy 14 4 2 self board;je Bq qU nZ 14 5 3 self board words;cX uV iT gz 14 6 4 self board at word;dJ vA jQ iE 14 8 2 self board;fX yy mU kG 15 0 2 self size;bK iA iy f6 15 2 2 self board;gO Ab pG l5 15 3 3 self board words spot word;fq x9 lI jB 15 4 1 self;bC pH bZ lW 17 0 3 self size room_plans;gH zZ pA lV 17 1 2 self k;dO vD jT iH 17 2 2 self k;fS yr mP kB 17 3 3 self k board;eY xT lD ju 17 4 1 self;fT yt mQ kC 17 5 2 self k;c6 uY iX gC 17 6 1 self events;eZ xU cE jv 17 7 3 self k board;ck sF gh fL 17 8 2 self k;eX xS lC jt 17 9 3 self k board;dN vC jS iG 17 10 4 self k board words;e8 xV cF jw 17 11 3 self k board;jh Bt fD n6 17 12 4 self k board words;dM vB jR iF 17 13 3 self k spot;cZ uX iW gB 17 14 4 self k spot word;fV yw mS kE 19 0 2 self plan size kind room_plans;fU yu mR kD 19 1 2 self spot board;fc xW lE jx 19 2 3 self spot word board;dw vc iZ gE 19 3 1 self k board words fresh;fh xX lF jy 19 4 3 self k shelf;fk xZ lH jA 19 5 2 self board k;dg uZ iY gD 19 6 2 self board k store;dP vE jU iI 19 7 3 self k board store;fj xY lG jz 19 8 4 self k board words far store;bW rE fQ eU 19 9 3 self k board words near out;cu sH gj fM 19 10 3 self k board words fresh near fresh_near;bQ rj fE dU 19 11 3 self k board words fresh;bg yv aR eS 19 12 5 self k board words fresh out out_words out_fresh;bX rF bF eV 19 13 5 self k board words fresh;Ax UE IG BD 21 99 2 _law_script _law_k _law_cell;wo OA Dk yI 22 99 2 _law_box_here _law_size _law_found _law_step _law_once _law_twice;qk IM xR uG 23 99 2 _law_script _law_size _law_cells _law_k _law_cell;s_same Dt gg tR 24 99 2 _law_found _law_due;jd Bp qT nY 25 99 1 _law_box_here _law_far _law_shelves _law_places _law_rule;rP Du Dl yJ 26 99 1 _law_box_here _law_kind _law_size;cS mV mO ku 27 99 2 _law_box_here _law_size _law_many_here _law_way _law_begin _law_first _law_found _law_far _law_k _law_at;wk Ox Di yG 28 99 1 _law_box_here _law_way _law_number _law_turn;wz OC Dp yM 29 99 3 _law_box_here _law_size _law_some _law_write _law_spot;wu OB Dm yK 30 99 3 _law_box_here _law_few _law_most _law_great;wm Oz Dj yH 31 99 3 _law_stairs _law_deed_here _law_book _law_word_here _law_events;rQ Dv Dn yL 32 99 3 _law_one _law_other _law_plan_here _law_k _law_room _law_rows _law_number;om zV zU we 33 99 1 _law_book;tT K3 zT wc 34 99 1 _law_box_here _law_plan_here _law_some _law_one _law_book _law_turn _law_other _law_news _law_deed_here _law_found _law_due;gF IL uC BC 35 99 1 _law_script _law_cells".splitOn ";" do
  let z:=x.splitOn " "
  let f:=λi=>mkIdent (.mkSimple z[i]!)
  let d:=λi=>Syntax.mkNumLit z[i]!
  let [s,n,p,c]:=[f 0,f 1,f 2,f 3]|Macro.throwUnsupported
  let q:TSyntaxArray `term:=((z.drop 7).map quote).toArray
  let e<-if z[5]! =="99" then `(top $(d 4)) else `(Zkp (top $(d 4)) $(d 5))
  r:=r++#[<-`(command|abbrev $s:ident:Stmt:=$e),<-`(command|abbrev $n:ident:List Str:=[$q,*]),<-`(command|abbrev $p:ident:List Str:=($n).take $(d 6)),<-`(command|theorem $c:ident:fK $n $p (Zr $s):=V9)]
 return mkNullNode r
#reduce 1
set_option hygiene false
open Lean in
local macro_rules|`(command|example:($t):=$v)=>do
 let `(by $q:tacticSeq):=v|Macro.throwUnsupported
 let `($o $a*):=t|Macro.throwUnsupported
 let u:=("cU - wo yI Dk _law_take _law_take 1 vM;GH - kI qg su shelf_of shelf_of 1 sW;wJ Room kL qj sD has Room.has 1 As K;wF Room ji n8 qW need Room.need 2 vR K;tY Room gK lY pC mates Room.mates 2 tH K;AJ Room cJ fZ iw leaver_for Room.leaver_for 3 p7 K;Ah Room jj oj qY drop Room.drop 3 vY K;Gz Room fm oh qX __init__ Room.__init__ 1 vO K;E9 Room gM lZ pF bring Room.bring 4 tN K;Ag Store je nZ qU lay Store.lay 1 Ar K;Af - kH qf sj spots_of spots_of 1 sV;EY Memory bK f6 iy words_of Memory.words_of 2 pZ K;tZ Stairs fT kC mQ store Steps.store 1 pV K;wI Store cW gy iS words_of Store.words_of 3 mZ K;GG Room kK qi sC use Room.use 3 Ao K;ET Store dI iD jP take_in Store.take_in 5 pT K;EX Store cY gA iV give_out Store.give_out 4 ni K;E8 Memory gO l5 pG lay Memory.lay 2 vU K;tX - kJ qh sy board_of board_of 1 tO;EW Store cX gz iT lay_word Store.lay_word 1 ng K;GC Store gG lT pq __init__ Store.__init__ 3 sU K;GF Memory fX kG mU __init__ Memory.__init__ 1 Aq K;wD Store jg n5 qV has Store.has 2 vN K;uI Stairs jh n6 fD put Steps.put 3 tD K;AI Store dJ iE jQ freshen Store.freshen 1 nj K;wG Stairs fj jz lG go_on Stairs.go_on 4 vX K;oq Stairs e8 jw cF go_out Steps.go_out 5 jY K;AF Stairs eX jt lC use_in Steps.use_in 4 sR K;AL Stairs fS kB mP words Steps.words 4 pU K;vj Stairs eZ jv cE leaver Steps.leaver 4 nX K;FP Stairs cu fM gj drive_out Stairs.drive_out 6 tL K;AH Stairs dN iG jS come_in Steps.come_in 6 qc K;AG Stairs dP iI jU change Stairs.change 5 qd K;EV Stairs dg gD iY nearest Stairs.nearest 3 m9 K;EZ Stairs ck fL gh tell_found Steps.tell_found 1 vL K;FT Stairs bQ dU fE fetch_apart Stairs.fetch_apart 13 tP K;FQ Stairs bW eU fQ fetch_down Stairs.fetch_down 7 vZ K;AE Stairs fk jA lH fetch Stairs.fetch 14 tK K;ES Stairs dM iF jR word_in Steps.word_in 4 pS K;wH Stairs c6 gC iX happened Steps.happened 1 ko K;EU Stairs cZ gB iW put_word Steps.put_word 2 m7 K;E4 - jd nY qT _law_room_plan _law_room_plan 2 vQ;Gy - wk yG Di _law_word _law_word 2 sQ;EN Room fW kF mT boards Room.boards 1 Aw K;yR Stairs gH lV pA lies Steps.lies 2 vW K;ER Memory fq jB lI pairs Memory.pairs 1 tF K;EM Stairs fU kD mR read Stairs.read 15 vP K;EO Stairs fc jx lE write Stairs.write 15 sP K;E7 Room gJ lX pB shelf Room.shelf 3 m6 K;DL Stairs dO iH jT changed Steps.changed 2 nv K;DK Stairs fh jy lF order Stairs.order 4 tG K;Gx - rP yJ Dl _law_plan _law_plan 3 tE K;EL - cS ku mO _law_some_boards _law_some_boards 2 qe;D7 - wz yM Dp _law_deed _law_deed 3 tM;D6 - wu yK Dm _law_many _law_many 2 vS;D8 Stairs fV kE mS __init__ Stairs.__init__ 6 pW K;Cq - wm yH Dj _law_told _law_told 16 sS K;Gw - rQ yL Dn _law_like _law_like 16 vV K;BL Stairs dw gE iZ emptied Stairs.emptied 6 Au K;BN Stairs eY ju lD memory Steps.memory 2 pY K;Cs - om we zU _law_pairs _law_pairs 1 pX K;GJ - Ax BD IG _law_box _law_box 1 Av K;GD - qk uG xR _law_folded _law_folded 1 p9 K;GB - tT wc zT _law_right _law_right 18 sZ K;kQ - bC lW bZ __init__ Steps.__init__ 5 jW K;dX - bX eV bF come_apart Stairs.come_apart 7 jZ K;zd - gF BC uC law law 19 p8 K".splitOn ";").map (·.splitOn " ")
 let f:=λx:Syntax=>(u.find? λr=>r.head! ==toString x.getId).getD []
 let i:=λs=>mkIdent (.mkSimple s)
 let g:=λ(z:List String)=>show MacroM Term from if z.length=10 then `($(i z[8]!) K) else pure (i z[8]!)
 let b<-(a.extract 1 a.size).mapM λ(x:TSyntax `term)=>do
  let y:=#[(⟨x.raw⟩:Ident)]
  match x.raw.getId,f x with
  |`Ai,_=>`(Parser.Term.bracketedBinderF|(Ai:d7 P w K mg base (af K "Room") "going" 2 b7 (jX K)))
  |`E6,_=>`(Parser.Term.bracketedBinderF|(E6:DF P w K mg base "Steps" "__init__" 5 bZ (jW K)))
  |`Ma,_=>`(Parser.Term.bracketedBinderF|(Ma:∀n,d7 P w K mg base (af K "Stairs") "push" (n+8) aR (kj K n)))
  |`Cr,_=>`(Parser.Term.bracketedBinderF|(Cr:∀n,Def P w K mg base "_law_same" (n+1) gg (gx n)))
  |_,[]=>Macro.throwUnsupported
  |_,z=>
   let c:=Syntax.mkStrLit z[1]!
   let n:=Syntax.mkStrLit z[5]!
   let l:=Syntax.mkNumLit z[7]!
   let p:=i z[4]!
   let s<-g z
   if z[1]! =="-" then `(Parser.Term.bracketedBinderF|($y*:Def P w K mg base $n $l $p $s)) else if z[5]! =="__init__" then `(Parser.Term.bracketedBinderF|($y*:DA P w K mg base (af K $c) $c $l $p $s)) else `(Parser.Term.bracketedBinderF|($y*:d7 P w K mg base (af K $c) $n $l $p $s))
 let z:=f a[0]!
 let [s,c,p]:=[i z[2]!,i z[3]!,i z[4]!]|Macro.throwUnsupported
 let [n,m]:=[Syntax.mkStrLit z[5]!,Syntax.mkStrLit z[6]!]|Macro.throwUnsupported
 let l:=Syntax.mkNumLit z[7]!
 let h<-g z
 `(command|theorem $(⟨o⟩) (F:rH K $n $m $s f fd)(T:Txt K mg)$b:bracketedBinder*:b9 P w K mg base nR $l f fd $p ($h):=by
   refine F.ok $c (λvs H Q E h=>by first|(cases h;subst_vars;rfl)|repeat' first|(obtain⟨rfl,_⟩:=h;rfl)|obtain⟨_,h⟩:=h) λcdv A outer st H vs Q E hr h=>?_;have nd:=($c).nd;have hu:=AW hr
   ($q))
structure Txt(K:W.Frag)(mg:Str->Option Value):Prop where
 JS:mg "abs"=none
 JR:mg "all"=none
 JT:mg "bool"=none
 Me:mg "divmod"=none
 E3:mg "enumerate"=none
 D9:mg "int"=none
 vg:mg "isinstance"=none
 zj:mg "len"=none
 vG:mg "list"=none
 JQ:mg "max"=none
 Mc:mg "min"=none
 rR:mg "range"=none
 K6:mg "set"=none
 Aj:mg "sorted"=none
 GI:mg "str"=none
 GA:mg "tuple"=none
 JP:mg "zip"=none
 dQ:rJ K (af K "Room")
 Pw:aM K (af K "Room") "places"
 L4:aM K (af K "Room") "rule"
 L8:aM K (af K "Room") "shelves"
 Mb:aM K (af K "Room") "standing"
 By:aM K (af K "Room") "uses"
 fH:rJ K (af K "Store")
 Jd:aM K (af K "Store") "fresh"
 E5:aM K (af K "Store") "held"
 L5:aM K (af K "Store") "late"
 yQ:aM K (af K "Store") "room"
 vF:rJ K (af K "Memory")
 EK:aM K (af K "Memory") "kept"
 L7:aM K (af K "Memory") "size"
 aG:rJ K (af K "Stairs")
 Jc:aM K (af K "Stairs") "bottom"
 BO:aM K (af K "Stairs") "events"
 L6:aM K (af K "Stairs") "kind"
 vh:aM K (af K "Stairs") "last"
 BA:aM K (af K "Stairs") "size"
 t7:aM K (af K "Stairs") "stores"
structure aD(H:Hp)(b:Addr)(a q c:Int):Prop where
 at':H b=some (.lst [.int a,.int q,.int c])
 a0:0<=a
 q0:0<=q
 q1:q<2147483647
 c0:0<=c
theorem aD.sb{H H':Hp}{b x:Addr}{a q c:Int}(B:aD H b a q c)(s:SB x H H')(n:b≠x):aD H' b a q c:=⟨s _ _ n B.at',B.a0,B.q0,B.q1,B.c0⟩
theorem aD.same{H H':Hp}{b:Addr}{a q c:Int}(B:aD H b a q c)(s:ay H H'):aD H' b a q c:=⟨s _ _ B.at',B.a0,B.q0,B.q1,B.c0⟩
inductive vM(vs:List V)(H:Hp)(Q:VK)(E:XK):Prop
 |mk (b:Addr) (a q c n:Int):vs=[.ref b,.int n]->aD H b a q c->c<1099511627776->0<n->n<1073741824->(∀(r a' c':Int)(H':Hp),0<=r->r<n->aD H' b a' q c'->c'<=c+1->SB b H H'->Q (.int r) H')->vM vs H Q E
theorem CO(a:Int){b:Int}(h:0<b):0<=a%b:=aBD a (by lia)
theorem yk(a:Int){b:Int}(h:0<b):a%b<b:=aIv a h
example:(yY cU):=by
 obtain ⟨b,a,q,c,n,rfl,B,hc,hn0,hn1,k⟩:=h;refine⟨_,(Zd (aE (Zv F5 (au (Zo (K:=K) rfl) (pv 0) Zi (λ_ _=>rfl)) Zi (Zu _)) (Zd (se (Zs ZeF rfl T.Me ZeK (pc (au (Zo (K:=K) rfl) (pv 0) Zi (λ_ _=>rfl)) (pc (pv 1) Zb))) (ZT (K:=K) (n:=2) rfl rfl (Zq (C3 (pv 0) Zi De) (Zq (bY 2 nd) ZS))))
   (Zh (Zp (pv 2)))) Zt)
   (Zd (se (aj ZC (au (Zo (K:=K) rfl) (pv 0) Zi (λ_ _=>rfl)) Zi) (C3 (pv 0) Zi De))
   (Zd (cK 3 nd (aj ZC Zi (aj uR (au (Zo (K:=K) rfl) (pv 0) Zi (λ_ _=>rfl)) (au (Zo (K:=K) rfl) (pv 0) Zi (λ_ _=>rfl)))))
   (Zd (cK 4 nd (aj uv (aj uR (aj ZC (au (Zo (K:=K) rfl) (pv 0) Zi (λ_ _=>rfl)) (aj uR Zi (au (Zo (K:=K) rfl) (pv 0) Zi (λ_ _=>rfl)))) (pv 3)) Zi))
   (Zd (cK 5 nd (aj uv (aj ZC (aj uR (pv 4) (aj ZC (aj uv (pv 4) Zi) Zi)) (au (Zo (K:=K) rfl) (pv 0) Zi (λ_ _=>rfl))) Zi))
   (Zh (Zp (aj uv (aj Et (aj uv (aj uR (pv 5) (aj ZC (aj uv (pv 5) Zi) Zi)) Zi) Zi) (pv 1))))))))),?_⟩
 have hb:=B.at';have hc0:=B.c0;have PJ:=B.q0;have hq1:=B.q1;refine⟨_,rfl,b,_,_,_,rfl,rfl,aB.of hb,dF,_,_,rfl,rfl,_,rfl,?_⟩;refine uP (λha=>?_) (λha=>?_)
 .refine ⟨_,rfl,b,_,_,_,rfl,rfl,aB.of hb,dF,_,rfl,_,_,rfl,⟨hn0,hn1⟩,λp hp=>?_⟩;have X0:upd H p (.tup [.int (a/n),.int (a%n)]) b=some (.lst [.int a,.int q,.int c]):=by rw[Zc (Ze hb hp)];exact hb
  refine⟨p,_,rfl,aX.of Za,rfl,_,_,rfl,⟨_,rfl,b,_,_,0,rfl,rfl,X0,rfl,?_⟩⟩;refine⟨_,_,rfl,rfl,_,rfl,?_⟩;exact k _ (a/n) c _ (CO _ hn0) (yk _ hn0) ⟨Za,Int.ediv_nonneg B.a0 (by lia),PJ,hq1,hc0⟩ (by lia) ((Zg hp _).sb b|>.trans (Eo b _ _))
 .refine ⟨_,rfl,b,_,_,_,rfl,rfl,aB.of hb,lB,_,_,rfl,rfl,_,rfl,b,_,_,2,rfl,rfl,hb,rfl,?_⟩;have hb1:upd H b (.lst [.int a,.int q,.int (c+1)]) b=some (.lst [.int a,.int q,.int (c+1)]):=Za;have i0:aB K (upd H b (.lst [.int a,.int q,.int (c+1)])) b [.int a,.int q,.int (c+1)]:=aB.of hb1;refine⟨_,rfl,b,_,_,_,rfl,rfl,i0,lB,_,rfl,b,_,_,_,rfl,rfl,i0,lB,_,_,rfl,rfl,.inl ⟨by lia,by lia⟩,_,_,rfl,rfl,?_⟩;refine⟨_,rfl,b,_,_,_,rfl,rfl,i0,ig,_,rfl,b,_,_,_,rfl,rfl,i0,lB,_,_,rfl,rfl,.inl ⟨by decide,by decide⟩,_,_,rfl,rfl,_,rfl,_,_,rfl,rfl,.inl ⟨by lia,by lia⟩,_,_,rfl,rfl,(by show(0:Int)<_;decide),?_⟩;generalize PL:(q+39373*(c+1))*(69621+(c+1)*(c+1))%2147483587=on;have on0:0<=on:=by rw[<-PL];exact CO _ (by decide)
  have on1:on<2147483587:=by rw[<-PL];exact yk _ (by decide)
  refine⟨_,rfl,_,rfl,_,_,rfl,rfl,(by show(0:Int)<_;decide),_,_,rfl,rfl,_,_,rfl,rfl,.inl ⟨by lia,by lia⟩,_,rfl,b,_,_,_,rfl,rfl,i0,lB,_,_,rfl,rfl,_,_,rfl,rfl,(by show(0:Int)<_;decide),?_⟩;generalize htw:(on*(on%30011+5)+(c+1))%2147483563=tw;have tw0:0<=tw:=by rw[<-htw];exact CO _ (by decide)
  have tw1:tw<2147483563:=by rw[<-htw];exact yk _ (by decide)
  refine⟨_,rfl,_,rfl,_,_,rfl,rfl,(by show(0:Int)<_;decide),_,_,rfl,rfl,_,_,rfl,rfl,.inl ⟨by lia,by lia⟩,_,_,rfl,rfl,(by show(0:Int)<_;decide),_,_,rfl,rfl,⟨by decide,by decide⟩,_,rfl,_,_,rfl,rfl,hn0,?_⟩;exact k _ a (c+1) _ (CO _ hn0) (yk _ hn0) ⟨hb1,B.a0,PJ,hq1,by lia⟩ (by lia) (Eo b _ _)
inductive Av(K:W.Frag)(vs:List V)(H:Hp)(Q:VK)(E:XK):Prop
 |mk (l:Addr) (ns:List Int) (k:Int):vs=[.ref l,.int k]->aB K H l (ns.map V.int)->0<=k->k<1000000->(∀(r:Addr)(a q:Int)(H':Hp),H r=none->ay H H'->aD H' r a q 0->Q (.ref r) H')->Av K vs H Q E
theorem AR(b:Bool): -(2 ^ 64)<(if b then 1 else 0:Int)/\(if b then 1 else 0:Int)<2 ^ 64:=by cases b <;> decide
theorem SV{ns:List Int}{k:Int}(h0:0<=k)(h:k<(ns.length:Int)):∃v:Int,fP (ns.map V.int) k=some (.int v):=by
 have hk:k.toNat<ns.length:=by lia
 have q:fP (ns.map V.int) ((k.toNat:Nat):Int)=some (.int ns[k.toNat]):=yp (by rw[aeb,aEW hk] <;> rfl);rw[show((k.toNat:Nat):Int)=k by lia]at q;exact⟨_,q⟩
theorem ZlN(i:Int):0<=(if i<0 then -i else i):=by split <;> lia
theorem RA(i:Int)(b:Bool):0<=(if i<0 then -i else i)*(if b then 1 else 0:Int):=Int.mul_nonneg (ZlN i) (by cases b <;> decide)
example:(BV GJ):=by
 obtain ⟨l,ns,k,rfl,hS,hk0,hk1,kk⟩:=h;refine⟨_,(Zd (cK 2 nd (Df (Zv kM (pv 1) (Zs (ZG (K:=K) rfl) rfl T.zj aMZ (pc (pv 0) Zb)) (Zu _)) (au (Zo (K:=K) rfl) (pv 0) (pv 1) (λ_ _=>rfl)) Zi))
   (Zh (Zp (sd (pc (aj uR (Zs SI rfl T.JS Sw (pc (pv 2) Zb)) (ZW Oi rfl T.D9 KL (pc (xQ F6 (Zs SI rfl T.JS Sw (pc (pv 2) Zb)) (aj Nl Zi Zi) (Zu _)) Zb))) (pc (aj uv (aj uR (aj ZC (aj ZC (aj uv (pv 2) Zi) (aj uR Zi (pv 1))) Zi) Zi) Zi) (pc Zi Zb))))))),?_⟩
 refine⟨_,rfl,_,rfl,l,_,rfl,.inl hS,_,_,rfl,rfl,_,rfl,?_⟩;refine uP (λc=>?_) (λc=>?_)
 .rw [aW8]at c;obtain⟨v,hv⟩:=SV hk0 c;refine⟨_,rfl,_,rfl,l,_,_,_,rfl,rfl,hS,hv,?_⟩;refine⟨_,rfl,_,rfl,_,rfl,_,rfl,_,_,rfl,rfl,⟨by decide,by decide,by decide⟩,_,_,rfl,rfl,.inr ⟨_,rfl,_,_,rfl,rfl,.inr (AR _),?_⟩⟩;refine⟨_,rfl,_,_,rfl,rfl,(by show(0:Int)<_;decide),_,rfl,_,_,rfl,rfl,.inl ⟨by decide,by decide⟩,_,_,rfl,rfl,_,_,rfl,rfl,_,_,rfl,rfl,.inr ⟨by decide,by decide⟩,_,_,rfl,rfl,(by show(0:Int)<_;decide),(sL 3),λr hr=>?_⟩;exact kk r _ _ _ hr (Zg hr _) ⟨Za,RA _ _,CO _ (by decide),yk _ (by decide),aHu _⟩
 .refine ⟨_,rfl,_,rfl,_,rfl,_,rfl,_,_,rfl,rfl,⟨by decide,by decide,by decide⟩,_,_,rfl,rfl,.inr ⟨_,rfl,_,_,rfl,rfl,.inr (AR _),?_⟩⟩;refine⟨_,rfl,_,_,rfl,rfl,(by show(0:Int)<_;decide),_,rfl,_,_,rfl,rfl,.inl ⟨by decide,by decide⟩,_,_,rfl,rfl,_,_,rfl,rfl,_,_,rfl,rfl,.inr ⟨by decide,by decide⟩,_,_,rfl,rfl,(by show(0:Int)<_;decide),(sL 3),λr hr=>?_⟩;exact kk r _ _ _ hr (Zg hr _) ⟨Za,RA _ _,CO _ (by decide),yk _ (by decide),aHu _⟩
inductive p9(K:W.Frag)(vs:List V)(H:Hp)(Q:VK)(E:XK):Prop
 |mk (a:Addr) (ns:List Int) (n:Nat):vs=[.ref a,.int (n:Int)]->aB K H a (ns.map V.int)->ns.length<=63->0<n->n<=63->(∀(r:Addr)(ms:List Int)(H':Hp),H r=none->ay H H'->H' r=some (.lst (ms.map V.int))->ms.length=min n ns.length->Q (.ref r) H')->p9 K vs H Q E
theorem Rz(ns:List Int)(lo hi:Option Int):qL (ns.map V.int) lo hi=((ns.drop (HT.jk ns.length 0 lo)).take (HT.jk ns.length ns.length hi-HT.jk ns.length 0 lo)).map V.int:=by
 unfold qL;rw[aW8,<-List.map_drop,<-List.map_take]
theorem KP(ms:List Int)(j:Nat)(v:Int):(ms.map V.int).set j (.int v)=(ms.set j v).map V.int:=by rw[map_set]
theorem Nj{n:Nat}{i:Int}(h0:0<=i)(h:i<n):vn n i=some i.toNat:=by unfold vn;rw[aYH h0,aYH h]
theorem ZlO{ms:List Int}{i:Nat}{x:V}(h:(ms.map V.int)[i]?=some x):∃z,x=V.int z/\i<ms.length:=by
 rw[aeb]at h;cases e:ms[i]? with
 |none=>rw[e]at h;cases h
 |some z=>rw[e]at h;exact⟨z,(aDb h).symm,(azG.mp e).1⟩
example:(uK GD):=by
 obtain ⟨a,ns,n,rfl,hS,h63,hn0,hn1,k⟩:=h;refine⟨_,(Zd (cK 2 nd (ZW (KW (K:=K) rfl) rfl T.vG ZQ (pc (SG (To (K:=K) rfl) (pv 0) Zkl (NQ (pv 1))) Zb)))
   (Zd (uw atQ rfl (RK rfl T.E3 (pc (SG (To (K:=K) rfl) (pv 0) (NQ (pv 1)) (NQ Zi)) Zb)) (ZT (K:=K) (n:=2) rfl rfl (Zq (bY 3 nd) (Zq (bY 4 nd) ZS))) (Zh (se (aj ZC (au (Zo (K:=K) rfl) (pv 2) (aj uv (pv 3) (pv 1)) (λ_ _=>rfl)) (aj uR (pv 4) (aj ZC (pv 3) Zi))) (C3 (pv 2) (aj uv (pv 3) (pv 1)) De))))
   (Zh (Zp (pv 2))))),?_⟩
 refine⟨_,rfl,_,rfl,_,rfl,a,_,rfl,hS,λp hp=>?_⟩;have s1:=Zg hp (.lst (qL (ns.map V.int) none (some (n:Int))));refine⟨p,_,rfl,.inl (aB.of Za),λr hr1=>?_⟩;have s2:=s1.trans (Zg hr1 (.lst (qL (ns.map V.int) none (some (n:Int)))));have PF:H r=none:=s1.free hr1;rw[Rz]at *;generalize hms:(ns.drop (HT.jk ns.length 0 none)).take (HT.jk ns.length ns.length (some (n:Int))-HT.jk ns.length 0 none)=ms at *;have Xh:ms.length=min n ns.length:=by
  rw[<-hms,HT.wA,HT.tU,a1R,aLq];lia
 generalize Yb:upd (upd H p (.lst (ms.map V.int))) r (.lst (ms.map V.int))=H2 at *;have Qc:H2 r=some (.lst (ms.map V.int)):=by rw[<-Yb];exact Za
 refine⟨_,rfl,_,rfl,_,rfl,_,rfl,a,_,rfl,s2.seq hS,λt ht=>?_⟩;rw[Rz];generalize hws:(ns.drop (HT.jk ns.length 0 (some (n:Int)))).take (HT.jk ns.length ns.length (some 63)-HT.jk ns.length 0 (some (n:Int)))=ws;have oU:0<ws.length->n<ns.length:=λh=>by
  rw[<-hws,a1R,aLq,HT.tU]at h;lia
 have Xd:ws.length<=63:=by rw[<-hws,a1R,aLq];lia
 have s3:=s2.trans (Zg ht (.lst (ws.map V.int)));have O6:r≠t:=Ze Qc ht;refine⟨t,rfl,⟨_,aB.of Za⟩,Sv (K:=K) (a:=t) (xs:=ws.map V.int) (λi σ H'=>∃(ms':List Int)(v3 v4:Option V),σ=[some (.ref a),some (.int n),some (.ref r),v3,v4]/\ms'.length=min n ns.length/\H' r=some (.lst (ms'.map V.int))/\H' t=some (.lst (ws.map V.int))/\ay H H')
  ⟨ms,none,none,rfl,Xh,by rw[Zc O6];exact Qc,Za,s3⟩ (λi σ H' _ ⟨_,_,_,_,_,_,q,_⟩=>aB.of q) ?_ ?_⟩
 .rintro i x u σ H' hi ⟨ms',v3,v4,rfl,lm,h1,h2,s4⟩ hu;obtain⟨z,rfl,hlt⟩:=ZlO hi;have hnl:=oU (by lia);have s5:=Zg hu (.tup [.int (i:Int),.int z]);refine⟨u,_,rfl,aX.of Za,rfl,_,_,rfl,_,_,rfl,rfl,?_⟩;have m0:0<=(i:Int)%(n:Int):=CO _ (by lia);have m1:(i:Int)%(n:Int)<(n:Int):=yk _ (by lia);obtain⟨v,hv⟩:=SV (ns:=ms') m0 (by lia);refine⟨_,rfl,_,rfl,_,rfl,_,_,rfl,rfl,(by show(0:Int)<_;lia),r,_,_,_,rfl,rfl,aB.of (s5 _ _ h1),hv,?_⟩;refine⟨_,rfl,_,rfl,_,_,rfl,rfl,_,_,rfl,rfl,.inr ⟨by lia,by lia⟩,_,_,rfl,rfl,?_⟩;refine⟨_,rfl,_,rfl,_,rfl,_,_,rfl,rfl,(by show(0:Int)<_;lia),r,_,_,((i:Int)%(n:Int)).toNat,rfl,rfl,s5 _ _ h1,Nj m0 (by rw[aW8];lia),?_⟩;refine⟨ms'.set ((i:Int)%(n:Int)).toNat (v+z*((i:Int)+2)),_,_,rfl,by rw[aO6];exact lm,by rw[Za,KP],?_,?_⟩
  .rw [Zc (avX O6)];exact s5 _ _ h2
  .intro b o e;rw[Zc (Ze e PF)];exact s5 _ _ (s4 _ _ e)
 .rintro σ H' ⟨ms',v3,v4,rfl,lm,h1,h2,s4⟩;exact⟨_,rfl,k r ms' H' PF s4 h1 lm⟩
theorem hide{t u:TS}{D:Ends}{σ:St}{H:Hp}(h:∀u',u'=u->vJ t u' D σ H):vJ t u D σ H:=h u rfl
theorem J5{te:TE}{g:TG}{u:TS}{D:Ends}{σ:St}{H:Hp}(Post:V->Hp->Prop)(h1:∀Q':VK,(∀v H1,Post v H1->Q' v H1)->te σ H Q')(h2:∀v H1,Post v H1->g v σ H1 (u D)):vJ (uF te g) u D σ H:=h1 _ h2
theorem Ej{ts u:TS}{D:Ends}{σ:St}{H:Hp}(Post:St->Hp->Prop)(h1:∀D':Ends,D'.rt=D.rt->(∀ σ1 H1,Post σ1 H1->D'.nx σ1 H1)->ts D' σ H)(h2:∀ σ1 H1,Post σ1 H1->u D σ1 H1):vJ ts u D σ H:=h1 _ rfl h2
theorem A8{tt:TT}{ta tb:TS}{D:Ends}{σ:St}{H:Hp}(Post:Bool->Hp->Prop)(h1:∀Q':Bool->Hp->Prop,(∀v H1,Post v H1->Q' v H1)->tt σ H Q')(h2:∀c H1,Post c H1->if c=true then ta D σ H1 else tb D σ H1):Fl tt ta tb D σ H:=h1 _ h2
theorem M5{t u:TT}{σ:St}{H:Hp}{Q:Bool->Hp->Prop}(Post:Bool->Hp->Prop)(h1:∀Q':Bool->Hp->Prop,(∀v H1,Post v H1->Q' v H1)->t σ H Q')(h2:∀c H1,Post c H1->if c=true then Q true H1 else u σ H1 Q):OT t u σ H Q:=h1 _ h2
theorem KO{b l:Addr}{H G:Hp}{xs:List V}(s:SB b H G)(hb:G b=some (.lst xs))(hl:G l=none):H l=none:=by
 cases e:H l with
 |none=>rfl
 |some o=>
  by_cases h:l=b
  .rw [h,hb]at hl;cases hl
  .rw [s _ _ h e]at hl;cases hl
theorem ZlP{ns:List Int}{k:Int}(h0:0<=k)(h:k<(ns.length:Int)):∃v:Int,fP (ns.map V.int) k=some (.int v)/\v∈ns:=by
 have hk:k.toNat<ns.length:=by lia
 have q:fP (ns.map V.int) ((k.toNat:Nat):Int)=some (.int ns[k.toNat]):=yp (by rw[aeb,aEW hk] <;> rfl);rw[show((k.toNat:Nat):Int)=k by lia]at q;exact⟨_,q,adU hk⟩
theorem Tu(ns:List Int):(ns.map V.int).all ic=true:=by
 rw[aTK];intro x hx;obtain⟨n,_,rfl⟩:=a34.mp hx;rfl
theorem Zjo{n:Nat}(h:0<n):vn n (-1)=some (n-1):=by
 unfold vn;rw[aoK (by decide),aYH (by lia)];congr 1
 lia
theorem NH{ns:List Int}{j:Nat}{v x:Int}(h:x∈ns.set j v):x∈ns\/x=v:=by
 rcases aZd h with h|h
 .exact .inl h
 .exact .inr h
theorem Ey{i j:Int}{A B:Prop}(h1:i=j->A)(h2:¬i=j->B):if decide (V.int i=V.int j)=true then A else B:=
 uP (λe=>h1 (by injection e)) (λe=>h2 λz=>e (by rw[z]))
theorem cz{b:Bool}{A B:Prop}(h:b=false)(hB:B):if b=true then A else B:=by subst h;rw[aoK aPf];exact hB
theorem d8{b:Bool}{A B:Prop}(h:b=true)(hA:A):if b=true then A else B:=by subst h;rw[aYH rfl];exact hA
theorem NX{α:Type}{xs:List α}{i:Int}(h0:0<=i)(h1:i<(xs.length:Int)):∃v,fP xs i=some v/\v∈xs:=by
 have hk:i.toNat<xs.length:=by lia
 have q:fP xs ((i.toNat:Nat):Int)=some xs[i.toNat]:=yp (aEW hk);rw[show((i.toNat:Nat):Int)=i by lia]at q;exact⟨_,q,adU hk⟩
theorem QT(x y:Int)(k:Bool):∃n:Int,fP [V.int x,V.int y] (if k=true then 1 else 0)=some (.int n)/\(n=x\/n=y):=by
 cases k with
 |true=>exact⟨y,ig,.inr rfl⟩
 |false=>exact⟨x,dF,.inl rfl⟩
theorem FZ(x y r:Int)(h0:0<=r)(h1:r<2):∃n:Int,fP [V.int x,V.int y] r=some (.int n)/\(n=x\/n=y):=by
 have h:r=0\/r=1:=by lia
 rcases h with rfl|rfl
 .exact ⟨x,dF,.inl rfl⟩
 .exact ⟨y,ig,.inr rfl⟩
theorem ZlQ(r:Int)(h0:0<=r)(h1:r<4):∃n:Int,fP [V.int 1,V.int 1,V.int 12,V.int 24] r=some (.int n)/\(n=1\/n=12\/n=24):=by
 obtain⟨x,hx,m⟩:=NX (xs:=[V.int 1,V.int 1,V.int 12,V.int 24]) h0 (by show r<((4:Nat):Int);lia);simp only[a6r,auY,a4R]at m;rcases m with rfl|rfl|rfl|rfl
 .exact ⟨_,hx,.inl rfl⟩
 .exact ⟨_,hx,.inl rfl⟩
 .exact ⟨_,hx,.inr (.inl rfl)⟩
 .exact ⟨_,hx,.inr (.inr rfl)⟩
theorem FY(r:Int)(h0:0<=r)(h1:r<5):∃v,fP [V.int 1,V.int 1,V.int 2,V.int 3,V.int 4] r=some (.int v)/\1<=v/\v<=64:=by
 obtain⟨x,hx,m⟩:=NX (xs:=[V.int 1,V.int 1,V.int 2,V.int 3,V.int 4]) h0 (by show r<((5:Nat):Int);lia);simp only[a6r,auY,a4R]at m;rcases m with rfl|rfl|rfl|rfl|rfl <;> exact⟨_,hx,by decide,by decide⟩
def zP(z:Str):Prop:=z ="old" \/z ="come" \/z ="few"
theorem FW(r:Int)(h0:0<=r)(h1:r<3):∃z:Str,fP [V.str "old",V.str "come",V.str "few"] r=some (.str z)/\zP z:=by
 obtain⟨x,hx,m⟩:=NX (xs:=[V.str "old",V.str "come",V.str "few"]) h0 (by show r<((3:Nat):Int);lia);simp only[a6r,auY,a4R]at m;rcases m with rfl|rfl|rfl
 .exact ⟨_,hx,.inl rfl⟩
 .exact ⟨_,hx,.inr (.inl rfl)⟩
 .exact ⟨_,hx,.inr (.inr rfl)⟩
theorem Zid{s:Int}(h0:1<=s)(h1:s<=16):555<=9999/s/\9999/s<=9999/\1<=(if 10000/s-480>1 then 10000/s-480 else 1)/\(if 10000/s-480>1 then 10000/s-480 else 1)+455<=9999/s:=by
 have key:∀n:Fin 17,1<=(n.val:Int)->(555<=9999/(n.val:Int)/\9999/(n.val:Int)<=9999/\1<=(if 10000/(n.val:Int)-480>1 then 10000/(n.val:Int)-480 else 1)/\(if 10000/(n.val:Int)-480>1 then 10000/(n.val:Int)-480 else 1)+455<=9999/(n.val:Int)):=by decide +kernel
 have e:((⟨s.toNat,by lia⟩:Fin 17).val:Int)=s:=by show((s.toNat:Nat):Int)=s;lia
 have q:=key ⟨s.toNat,by lia⟩ (by rw[e];exact h0);rw[e]at q;exact q
def K5(t:Int)(ns:List Int):Prop:=∀n∈ns,0<=n/\n<=t
def OD(t:Int)(ns:List Int):Prop:=∃x∈ns,x+1<=t
theorem QS{ns:List Int}{k:Int}(h0:0<=k)(h:k<(ns.length:Int)):∃v:Int,fP (ns.map V.int) k=some (.int v)/\ns[k.toNat]?=some v:=by
 have hk:k.toNat<ns.length:=by lia
 have q:fP (ns.map V.int) ((k.toNat:Nat):Int)=some (.int ns[k.toNat]):=yp (by rw[aeb,aEW hk] <;> rfl);rw[show((k.toNat:Nat):Int)=k by lia]at q;exact⟨_,q,aEW hk⟩
theorem Zjp{ns:List Int}{i j:Nat}{x1 x2 x:Int}(h1:ns[j]?=some x1)(h2:ns[i]?=some x2)(h:x∈ns):x∈(ns.set i x1).set j x2:=by
 obtain⟨p,hp⟩:=a6o h;have li:=(azG.mp h2).1;have lj:=(azG.mp h1).1;by_cases e:p=i
 .subst e;rw[h2]at hp;cases hp;exact abH (aIs (i:=j) (by rw[aO6];exact lj))
 .by_cases e':p=j
  .subst e';rw[h1]at hp;cases hp;refine abH (i:=i) ?_;rw[atg e,aIs li]
  .refine abH (i:=p) ?_;rw[atg (λz=>e' z.symm),atg (λz=>e z.symm)];exact hp
inductive qe(vs:List V)(H:Hp)(Q:VK)(E:XK):Prop
 |mk (b:Addr) (a q c s:Int):vs=[.ref b,.int s]->aD H b a q c->c<500000000->1<=s->s<=16->(∀(l:Addr)(ns:List Int)(a' c':Int)(H':Hp),H l=none->H' l=some (.lst (ns.map V.int))->3<=ns.length->ns.length<=20->K5 (9999/s) ns->OD (9999/s) ns->aD H' b a' q c'->c'<=c+40->SB b H H'->Q (.ref l) H')->qe vs H Q E
example:(kN EL cU):=by
 obtain ⟨b,a,q,c,s,rfl,B,hc,hs0,hs1,k⟩:=h;obtain⟨VU,VT,m0,m1⟩:=Zid hs0 hs1;refine⟨_,(Zd (cK 2 nd (aj ZC Zi (Zm cU hr.m rfl (pc (pv 0) (pc (au (Zo (K:=K) rfl) (sd (pc Zi (pc Zi Zb))) (ZW Oi rfl T.D9 KL (pc (xQ aY (Zm cU hr.m rfl (pc (pv 0) (pc Zi Zb))) Zi (Zu _)) Zb)) (λ_ _=>rfl)) Zb)))))
   (Zd (se (qS (pc (Zm cU hr.m rfl (pc (pv 0) (pc Zi Zb))) (pc (Zm cU hr.m rfl (pc (pv 0) (pc Zi Zb))) Zb))) (ZT (K:=K) (n:=2) rfl rfl (Zq (bY 3 nd) (Zq (bY 4 nd) ZS))))
   (Zd (cK 5 nd (Df (Zv kM (pv 4) Zi (Zu _)) (pv 4) (Zm cU hr.m rfl (pc (pv 0) (pc (au (Zo (K:=K) rfl) (sd (pc Zi (pc (Zs (T6 rfl) rfl T.JQ Sx (pc Zi (pc (aj Bj (aj Et Zi (pv 1)) Zi) Zb))) Zb))) (aj Bj (pv 4) Zi) (λ_ _=>rfl)) Zb)))))
   (Zd (ZiR 6 (ZZ (mh:=(Zr cS)) (oN:=mV) (N:=["_law_k","_law_first","_law_way"]) (own:=1) (js:=[5,3]) (by decide +kernel) rfl rfl) rfl nd rfl rfl (ZY rfl T.rR (pc (pv 2) Zb)) (λ_ _ _ _ _ _=>(bY 0 (show List.Nodup (["_law_k","_law_first","_law_way"]:List Str) by decide +kernel))) (λ_ _ _ _ _ _=>(aj ZC (pv 1) (aj uR (au (Zo (K:=K) rfl) (sd (pc Zi (pc Zi (pc Zi (pc Zi Zb))))) (pv 2) (λ_ _=>rfl)) (pv 0)))))
   (Zd (cK 7 nd (Df (Zv aY (Zm cU hr.m rfl (pc (pv 0) (pc Zi Zb))) Zi (Zu _)) (aj Et Zi (pv 1)) (Zm cU hr.m rfl (pc (pv 0) (pc (aj ZC Zi (aj Et Zi (pv 1))) Zb)))))
   (Zd (aE (PW.pt (pw_or (PW.pt (QN (Zv aY (pv 3) Zi (Zu _)) (Ss (Zv (Ul (K:=K) rfl) (pv 7) (pv 6) rfl)))) (HY (PW.pt (QN (Zv aY (pv 7) (aj Et Zi (pv 1)) (Zu _)) (Ss (Zv (Ul (K:=K) rfl) (pv 7) (pv 6) rfl))))))) (Zh (se (pv 7) (C3 (pv 6) (nF Ep Zi) De))) Zt)
   (Zd (uw atQ rfl (ZY rfl T.rR (pc (aj Bj (pv 2) Zi) Zb)) (bY 8 nd) (Zd (cK 9 nd (aj ZC (pv 8) (Zm cU hr.m rfl (pc (pv 0) (pc (aj Bj (pv 2) (pv 8)) Zb)))))
   (Zh (se (qS (pc (au (Zo (K:=K) rfl) (pv 6) (pv 9) (λ_ _=>rfl)) (pc (au (Zo (K:=K) rfl) (pv 6) (pv 8) (λ_ _=>rfl)) Zb))) (ZT (K:=K) (n:=2) rfl rfl (Zq (C3 (pv 6) (pv 8) De) (Zq (C3 (pv 6) (pv 9) De) ZS)))))))
   (Zh (Zp (pv 6)))))))))),?_⟩
 generalize hm:(if 10000/s-480>1 then 10000/s-480 else 1)=m at m0 m1;generalize ht:(9999:Int)/s=top at *;refine hide λuu ee=>?_;refine⟨_,rfl,(sL 2),λp1 hp1=>⟨_,rfl,b,a,q,c,6,rfl,B.same (Zg hp1 _),by lia,by decide,by decide,λr1 a1 c1 H1 BK FO B1 hc1 s1=>⟨rfl,.inr ⟨_,rfl,?_⟩⟩⟩⟩;have q1:b≠p1:=Ze B.at' hp1;obtain⟨n,hn,hn'⟩:=QT 5 18 (decide (V.int r1=V.int 0));refine⟨p1,_,_,_,rfl,rfl,aB.of (s1 _ _ (avX q1) Za),hn,b,a1,q,c1,n,rfl,B1,by lia,by lia,by lia,λr2 a2 c2 H2 yg wC B2 hc2 s2=>⟨_,_,rfl,rfl,?_⟩⟩;have W9:3<=3+r2:=by lia
 have W8:3+r2<=20:=by lia
 have u2:SB b H H2:=(((Zg hp1 _).sb b).trans s1).trans s2;dsimp only[fC];subst ee;try dsimp only
 refine hide λuu ee=>?_;refine⟨_,rfl,b,a2,q,c2,4,rfl,B2,by lia,by decide,by decide,λr3 a3 c3 H3 BJ AD B3 hc3 s3=>?_⟩;refine⟨_,rfl,b,a3,q,c3,4,rfl,B3,by lia,by decide,by decide,λr4 a4 c4 UL FN Jt B4' hc4 s4=>⟨(sL 2),λp4 PK=>⟨p4,_,rfl,aX.of Za,rfl,_,_,rfl,_,_,rfl,rfl,?_⟩⟩⟩;have B4:=B4'.same (Zg PK (.tup [.int r3,.int r4]));have u4:SB b H (upd UL p4 (.tup [.int r3,.int r4])):=((u2.trans s3).trans s4).trans ((Zg PK _).sb b);generalize upd UL p4 (.tup [.int r3,.int r4])=H4 at *;subst ee;try dsimp only
 refine J5 (λv G=>∃z a' c',v=.int z/\0<=z/\z+456<=top/\aD G b a' q c'/\c'<=c4+1/\SB b H G) (λQ' k'=>?_) ?_
 .refine ⟨_,rfl,_,_,rfl,rfl,_,rfl,uP (λYM=>⟨_,rfl,k' _ _ ⟨_,a4,c4,rfl,FN,by lia,B4,by lia,u4⟩⟩) (λYM=>?_)⟩;refine⟨_,rfl,_,rfl,_,_,rfl,rfl,⟨by lia,by lia⟩,_,_,rfl,rfl,_,_,rfl,(sL 2),λp2 hp2=>?_⟩;have q2:b≠p2:=Ze B4.at' hp2;rw[hm];obtain⟨n2,hn2,XI⟩:=FZ 100 m (r4-2) (by lia) (by lia);refine⟨_,rfl,_,_,rfl,rfl,p2,_,_,_,rfl,rfl,aB.of Za,hn2,b,a4,q,c4,n2,rfl,B4.same (Zg hp2 _),by lia,by lia,by lia,λr5 a5 c5 H5 Lx OV B5 hc5 s5=>?_⟩;exact k' _ _ ⟨r5,a5,c5,rfl,Lx,by lia,B5,by lia,u4.trans (((Zg hp2 _).sb b).trans s5)⟩
 rintro _ H5 ⟨z,a5,c5,rfl,z0,z1,B5,hc5,u5⟩;dsimp only[fC];refine hide λuu ee=>?_;refine⟨_,rfl,_,rfl,by lia,by lia,λl hl=>?_⟩;have CB:H l=none:=KO u5 B5.at' hl;have oH:l≠b:=avX (Ze B5.at' hl);have hmn:(3+r2).toNat<=20:=by lia
 refine KZ (lo:=0) (n:=(3+r2).toNat) (l:=l) (λj ys σ G=>∃(v0:Option V)(ns:List Int),σ=[v0,some (.int z),some (.int r3)]/\ys=ns.map V.int/\ns.length=j/\(K5 top ns/\(0<j->ns[0]?=some z))/\G l=some (.lst ys)/\ay H5 G)
  ⟨none,[],rfl,rfl,rfl,⟨λn hn=>(nomatch hn),λz=>absurd z (aZG 0)⟩,Za,Zg hl _⟩ ?_ ?_
 .rintro j ys σ G hj hy ⟨v0,ns,rfl,rfl,hj',⟨hb',hz'⟩,h1,h2⟩;refine⟨_,rfl,(sL 4),λp hp=>?_⟩;obtain⟨n4,XH,Mu⟩:=ZlQ r3 BJ AD;have np:l≠p:=Ze h1 hp;have Xs:(j:Int)<=19:=by lia
  refine⟨_,rfl,p,_,_,_,rfl,rfl,aB.of Za,XH,_,rfl,_,_,rfl,rfl,.inl ⟨by lia,by lia⟩,_,_,rfl,rfl,rC.of (alM hmn (by decide)) hj hy (by rw[Zc np];exact h1) ⟨_,ns++[z+n4*(0+(j:Int))],rfl,by rw[aK6];rfl,by rw[aE0,hj'];rfl,⟨λx hx=>?_,λ_=>?_⟩,Za,λe o y=>?_⟩⟩
  .rcases aUH.mp hx with h|h
   .exact hb' x h
   .have ex:x=z+n4*(0+(j:Int)):=by simpa using h
    subst ex;rcases Mu with rfl|rfl|rfl
    .exact ⟨by lia,by lia⟩
    .exact ⟨by lia,by lia⟩
    .exact ⟨by lia,by lia⟩
  .by_cases j0:j=0
   .have:ns=[]:=aiA (by lia);rw[this,j0];show some (z+n4*(0+((0:Nat):Int)))=some z;rw[show(0:Int)+((0:Nat):Int)=0 by lia,Int.mul_zero,Int.add_zero]
   .rw [aaw (by lia)];exact hz' (by lia)
  .rw [Zc (Ze y hl)];exact Zg hp _ _ _ (h2 _ _ y)
 rintro ys σ G hy ⟨v0,ns,rfl,rfl,hj',⟨hb',hz'⟩,h1,h2⟩;have B6:=B5.same h2;have u6:SB b H G:=u5.trans (h2.sb b);have DY:3<=ns.length:=by lia
 have Xg:ns.length<=20:=by lia
 have hz0:ns[0]?=some z:=hz' (by lia);dsimp only[fC];subst ee;try dsimp only
 refine J5 (λv G'=>∃z a' c',v=.int z/\0<=z/\z<=top/\aD G' b a' q c'/\c'<=c5+2/\SB b G G') (λQ' k'=>?_) ?_
 .refine ⟨_,rfl,b,a5,q,c5,5,rfl,B6,by lia,by decide,by decide,λr7 a7 c7 H7 r70 r71 B7 XZ s7=>⟨rfl,_,rfl,uP (λ_=>?_) (λ_=>?_)⟩⟩
  .refine ⟨_,rfl,_,_,rfl,rfl,⟨by lia,by lia⟩,?_⟩;exact k' _ _ ⟨_,a7,c7,rfl,by rw[ht];lia,by rw[ht];lia,B7,by lia,s7⟩
  .refine ⟨_,rfl,_,rfl,_,_,rfl,rfl,⟨by lia,by lia⟩,_,_,rfl,rfl,b,a7,q,c7,_,rfl,B7,by lia,by rw[ht];lia,by rw[ht];lia,λr8 a8 c8 H8 Wg Wf B8 hc8 s8=>?_⟩;exact k' _ _ ⟨_,a8,c8,rfl,Wg,by rw[ht]at Wf;lia,B8,by lia,s7.trans s8⟩
 rintro _ H7 ⟨fr,a7,c7,rfl,Yn,CK,B7,XZ,s7⟩;have h7:=s7 _ _ oH h1;have u7:SB b H H7:=u6.trans s7;refine Ej (λσ G'=>∃ns':List Int,σ=[some (.ref b),some (.int s),some (.int (3+r2)),some (.int r3),some (.int r4),some (.int z),some (.ref l),some (.int fr),none,none]/\G' l=some (.lst (ns'.map V.int))/\ns'.length=ns.length/\(K5 top ns'/\OD top ns')/\aD G' b a7 q c7/\SB b H G') (λD' _ k'=>?_) ?_
 .refine A8 (λ_ G'=>G'=H7) (λQ' k''=>?_) ?_
  .refine M5 (λ_ G'=>G'=H7) (λQ'' k3=>?_) ?_
   .exact ⟨_,rfl,rfl,_,rfl,uP (λ_=>⟨_,rfl,_,rfl,l,_,rfl,.inl (aB.of h7),rfl,Tu _,_,rfl,k3 _ _ rfl⟩) (λ_=>k3 _ _ rfl)⟩
   .rintro cb _ rfl;cases cb with
    |true=>exact d8 rfl (k'' _ _ rfl)
    |false=>exact cz rfl ⟨_,rfl,_,rfl,_,_,rfl,rfl,⟨by lia,by lia⟩,rfl,_,rfl,uP (λ_=>⟨_,rfl,_,rfl,l,_,rfl,.inl (aB.of h7),rfl,Tu _,_,rfl,k'' _ _ rfl⟩) (λ_=>k'' _ _ rfl)⟩
  .rintro cb _ rfl;cases cb with
   |false=>exact cz rfl (k' _ _ ⟨ns,rfl,h7,rfl,⟨hb',z,abH hz0,by lia⟩,B7,u7⟩)
   |true=>
    refine d8 rfl ⟨_,rfl,_,rfl,_,rfl,l,_,_,_,rfl,rfl,h7,Zjo (by rw[aW8];lia),k' _ _ ⟨ns.set (ns.length-1) fr,rfl,?_,aO6,⟨λx hx=>?_,z,?_,by lia⟩,B7.sb (Eo l _ _) (avX oH),λe o n' y=>?_⟩⟩
    .rw [Za,aW8,KP]
    .rcases NH hx with h|h
     .exact hb' x h
     .subst h;exact⟨Yn,CK⟩
    .refine abH (i:=0) ?_;rw[atg (by lia)];exact hz0
    .rw [Zc (Ze y CB)];exact u7 _ _ n' y
 rintro _ H8 ⟨WK,rfl,h8,l8,b8,B8,u8⟩;refine⟨_,rfl,_,_,rfl,rfl,_,rfl,by lia,by lia,EF (lo:=0) (n:=(3+r2-1).toNat) (λj σ G'=>∃(ns':List Int)(v8 v9:Option V)(a' c':Int),σ=[some (.ref b),some (.int s),some (.int (3+r2)),some (.int r3),some (.int r4),some (.int z),some (.ref l),some (.int fr),v8,v9]/\G' l=some (.lst (ns'.map V.int))/\ns'.length=ns.length/\(K5 top ns'/\OD top ns')/\aD G' b a' q c'/\c'<=c7+(j:Int)/\SB b H G')
  ⟨WK,_,_,a7,c7,rfl,h8,l8,b8,B8,by lia,u8⟩ ?_ ?_⟩
 .rintro j σ G' hj ⟨ns',v8,v9,a',c',rfl,yi,l',⟨b',lo'⟩,B',hc',u'⟩;have Xs:(j:Int)<=18:=by lia
  have jl:(j:Int)+1<3+r2:=by lia
  refine⟨_,rfl,_,rfl,_,rfl,_,rfl,_,_,rfl,rfl,b,a',q,c',_,rfl,B',by lia,by lia,by lia,λr9 a9 c9 H9 r90 r91 B9 hc9 s9=>⟨_,_,rfl,rfl,?_⟩⟩;have h9:=s9 _ _ oH yi;obtain⟨x1,PB,Qe⟩:=QS (ns:=ns') (k:=0+(j:Int)+r9) (by lia) (by lia);have W7:=abH Qe;obtain⟨x2,Mm,Qd⟩:=QS (ns:=ns') (k:=0+(j:Int)) (by lia) (by lia);have W6:=abH Qd;refine⟨_,rfl,_,rfl,l,_,_,_,rfl,rfl,aB.of h9,PB,_,rfl,_,rfl,l,_,_,_,rfl,rfl,aB.of h9,Mm,(sL 2),λt ht'=>?_⟩;have zf:l≠t:=Ze h9 ht';refine⟨t,_,rfl,aX.of Za,rfl,_,_,rfl,_,rfl,_,rfl,l,_,_,_,rfl,rfl,(by rw[Zc zf];exact h9),Nj (by lia) (by rw[aW8];lia),?_⟩;refine⟨_,_,rfl,_,rfl,_,rfl,l,_,_,_,rfl,rfl,Za,Nj (by lia) (by rw[aO6,aW8];lia),rfl,?_⟩;refine⟨(ns'.set (0+(j:Int)).toNat x1).set (0+(j:Int)+r9).toNat x2,_,_,a9,c9,rfl,by rw[Za,KP,KP],by rw[aO6,aO6];exact l',⟨λx hx=>?_,(by obtain⟨x,m,q⟩:=lo';exact⟨x,Zjp Qe Qd m,q⟩)⟩,?_,by lia,λe o n' y=>?_⟩
  .rcases NH hx with h|h
   .rcases NH h with h|h
    .exact b' x h
    .subst h;exact b' _ W7
   .subst h;exact b' _ W6
  .exact ((B9.same (Zg ht' _)).sb (Eo l _ _) (avX oH)).sb (Eo l _ _) (avX oH)
  .have ne:e≠l:=Ze y CB;rw[Zc ne,Zc ne];exact Zg ht' _ _ _ (s9 _ _ n' (u' _ _ n' y))
 .rintro σ G' ⟨ns',v8,v9,a',c',rfl,yi,l',⟨b',lo'⟩,B',hc',u'⟩;exact⟨_,rfl,k l ns' a' c' G' CB yi (by lia) (by lia) b' lo' B' (by lia) u'⟩
def Sc:V->Prop
 | .int _=>True
 | .bl _=>True
 | .aQ=>True
 | .str _=>True
 |_=>False
def Eqv:Nat->Hp->V->V->Prop
 |0,_,x,y=>x=y/\Sc x
 |n+1,H,x,y=>(x=y/\Sc x)\/∃(a b:Addr)(xs ys:List V),x=.ref a/\y=.ref b/\((H a=some (.lst xs)/\H b=some (.lst ys))\/(H a=some (.tup xs)/\H b=some (.tup ys)))/\xs.length=ys.length/\xs.length<=1000/\∀(i:Nat)(u v:V),xs[i]?=some u->ys[i]?=some v->Eqv n H u v
theorem Eqv.same:∀{n:Nat}{H H':Hp}{x y:V},Eqv n H x y->ay H H'->Eqv n H' x y
 |0,_,_,_,_,h,_=>h
 |n+1,H,H',x,y,h,s=>by
  rcases h with h|⟨a,b,xs,ys,h1,h2,h3,h5,h6,h7⟩
  .exact .inl h
  .refine .inr ⟨a,b,xs,ys,h1,h2,?_,h5,h6,λi u v e1 e2=>(h7 i u v e1 e2).same s⟩;rcases h3 with⟨h3,h4⟩|⟨h3,h4⟩
   .exact .inl ⟨s _ _ h3,s _ _ h4⟩
   .exact .inr ⟨s _ _ h3,s _ _ h4⟩
theorem Eqv.flat{H:Hp}{a b:Addr}{xs:List V}(ha:H a=some (.lst xs))(hb:H b=some (.lst xs))(hl:xs.length<=1000)(hs:∀x∈xs,Sc x):Eqv 1 H (.ref a) (.ref b):=
 .inr ⟨a,b,xs,xs,rfl,rfl,.inl ⟨ha,hb⟩,rfl,hl,λi u v e1 e2=>by rw[e1]at e2;cases e2;exact⟨rfl,hs u (abH e1)⟩⟩
inductive gx(n:Nat)(vs:List V)(H:Hp)(Q:VK)(_v3:XK):Prop
 |mk (x y:_):vs=[x,y]->Eqv n H x y->(∀H',ay H H'->Q (.bl true) H')->gx n vs H Q _v3
theorem Eqv.sc{H:Hp}{x:V}(h:Sc x):∀n,Eqv n H x x
 |0=>⟨rfl,h⟩
 |_+1=>.inl ⟨rfl,h⟩
theorem Eqv.CL{H:Hp}{a b:Addr}{xs:List V}(n:Nat)(ha:H a=some (.tup xs))(hb:H b=some (.tup xs))(hl:xs.length<=1000)(hs:∀x∈xs,Sc x):Eqv (n+1) H (.ref a) (.ref b):=
 .inr ⟨a,b,xs,xs,rfl,rfl,.inr ⟨ha,hb⟩,rfl,hl,λi u v e1 e2=>by rw[e1]at e2;cases e2;exact Eqv.sc (hs u (abH e1)) n⟩
theorem Eqv.Hu{H:Hp}{a b:Addr}{xs:List V}(ha:H a=some (.tup xs))(hb:H b=some (.tup xs))(hl:xs.length<=1000)(hs:∀x∈xs,Sc x):Eqv 1 H (.ref a) (.ref b):=
 .inr ⟨a,b,xs,xs,rfl,rfl,.inr ⟨ha,hb⟩,rfl,hl,λi u v e1 e2=>by rw[e1]at e2;cases e2;exact⟨rfl,hs u (abH e1)⟩⟩
theorem Je{H:Hp}{a:Addr}{xs:List V}(h:H a=some (.tup xs)):ye H (.ref a)=some "tuple":=by simp only[ye,h]
theorem Jf{H:Hp}{a:Addr}{xs:List V}(h:H a=some (.lst xs)):ye H (.ref a)=some "list":=by simp only[ye,h]
theorem Ry{n:Nat}{FA:Sp}(rX:∀m,n=m+1->FA=gx m)(F:rH K "_law_same" "_law_same" s_same f fd)(T:Txt K mg)(pP:Def P w K mg base "_law_same" n gg FA):b9 P w K mg base nR (n+1) f fd gg (gx n):=by
 refine F.ok tR (λvs H Q E h=>?_) (λcdv A outer st H vs Q E hr h=>?_)
 .obtain ⟨x,y,rfl,_⟩:=h;rfl
 obtain ⟨x,y,rfl,h,k⟩:=h;have nd:=tR.nd;refine⟨_,(Zd (aE (ZD (Zs TX rfl T.vg yq (pc (pv 1) (pc (qS (pc (vv (v:=.ty "list") rfl T.vG ZQ rfl) (pc (vv (v:=.ty "tuple") rfl T.GA Ol rfl) Zb))) Zb)))) (Zd (aE (PW.pt (pw_or (uz (ZD (Zs TX rfl T.vg yq (pc (pv 0) (pc (qS (pc (vv (v:=.ty "list") rfl T.vG ZQ rfl) (pc (vv (v:=.ty "tuple") rfl T.GA Ol rfl) Zb))) Zb))))) (HY (Zv AN (Zs Bl rfl T.vg yq (pc (pv 0) (pc (vv (v:=.ty "list") rfl T.vG ZQ rfl) Zb))) (Zs Bl rfl T.vg yq (pc (pv 1) (pc (vv (v:=.ty "list") rfl T.vG ZQ rfl) Zb))) (Zu _))))) (Zh (Zp dR)) Zt)
   (Zh (Zp (HW (xQ aY (Zs (ZG (K:=K) rfl) rfl T.zj aMZ (pc (pv 0) Zb)) (Zs (ZG (K:=K) rfl) rfl T.zj aMZ (pc (pv 1) Zb)) (Zu _)) (HX (Zs (TR rfl) rfl T.JR Sy (pc (Dc (ZZ (mh:=(Zr s_same)) (oN:=Dt) (N:=["_law_one","_law_other"]) (own:=2) (js:=[]) (by decide +kernel) rfl rfl) rfl (Zks rfl T.JP (pc (pv 0) (pc (pv 1) Zb))) (λ_ _ _ _ _ _=>(ZT (K:=K) (n:=2) rfl rfl (Zq (bY 0 (show List.Nodup (["_law_one","_law_other"]:List Str) by decide +kernel)) (Zq (bY 1 (show List.Nodup (["_law_one","_law_other"]:List Str) by decide +kernel)) ZS)))) (λ_ _ _ _ _ _=>(Zm pP hr.m rfl (pc (pv 0) (pc (pv 1) Zb))))) Zb))))))) Zt)
   (Zd (aE (PW.pt (pw_or (Ke (QO (pv 1))) (HY (ZD (Zs Bl rfl T.vg yq (pc (pv 1) (pc (vv (v:=.ty "str") rfl T.GI Oe rfl) Zb))))))) (Zh (Zp (HW (xQ aY (pv 0) (pv 1) (Zu _)) (HX (xQ aY (Zs Bl rfl T.vg yq (pc (pv 0) (pc (vv (v:=.ty "str") rfl T.GI Oe rfl) Zb))) (Zs Bl rfl T.vg yq (pc (pv 1) (pc (vv (v:=.ty "str") rfl T.GI Oe rfl) Zb))) (Zu _)))))) Zt)
   (Zh (Zp (HW (Zs Bl rfl T.vg yq (pc (pv 0) (pc (vv (v:=.ty "int") rfl T.D9 KL rfl) Zb))) (HW (xQ aY (Zs Bl rfl T.vg yq (pc (pv 0) (pc (vv (v:=.ty "bool") rfl T.JT Ug rfl) Zb))) (Zs Bl rfl T.vg yq (pc (pv 1) (pc (vv (v:=.ty "bool") rfl T.JT Ug rfl) Zb))) (Zu _)) (HX (xQ aY (pv 0) (pv 1) (Zu _))))))))),?_⟩
 have split:(x=y/\Sc x)\/∃(m:Nat)(a b:Addr)(xs ys:List V),n=m+1/\x=.ref a/\y=.ref b/\((H a=some (.lst xs)/\H b=some (.lst ys))\/(H a=some (.tup xs)/\H b=some (.tup ys)))/\xs.length=ys.length/\xs.length<=1000/\∀(i:Nat)(u v:V),xs[i]?=some u->ys[i]?=some v->Eqv m H u v:=by
  cases n with
  |zero=>exact .inl h
  |succ m=>
   rcases h with h|⟨a,b,xs,ys,h1,h2,h3,h5,h6,h7⟩
   .exact .inl h
   .exact .inr ⟨m,a,b,xs,ys,rfl,h1,h2,h3,h5,h6,h7⟩
 rcases split with⟨rfl,hs⟩|⟨m,a,b,xs,ys,rfl,rfl,rfl,⟨ha,hb⟩|⟨ha,hb⟩,hl,hlen,hi⟩
 .have key:∀p,H p=none->∀o,ay H (upd H p o):=λp hp o=>Zg hp o;cases x with
  |int j=>
   refine⟨_,rfl,(sL 2),λp hp=>⟨_,_,_,_,p,rfl,Za,rfl,by decide,by decide,_,rfl,cz (by decide) ?_⟩⟩;refine⟨_,rfl,_,rfl,cz (by simp) ⟨_,rfl,_,_,_,rfl,rfl,by decide,_,rfl,cz (by decide) ?_⟩⟩;refine⟨_,rfl,_,_,_,rfl,rfl,by decide,_,rfl,d8 (by decide) ⟨_,rfl,_,_,_,rfl,rfl,by decide,_,rfl,_,_,_,rfl,rfl,by decide,rfl,_,rfl,d8 (by decide) ⟨_,rfl,_,rfl,rfl,?_⟩⟩⟩;rw[aSJ rfl];exact k _ (key p hp _)
  |bl j=>
   refine⟨_,rfl,(sL 2),λp hp=>⟨_,_,_,_,p,rfl,Za,rfl,by decide,by decide,_,rfl,cz (by decide) ?_⟩⟩;refine⟨_,rfl,_,rfl,cz (by simp) ⟨_,rfl,_,_,_,rfl,rfl,by decide,_,rfl,cz (by decide) ?_⟩⟩;refine⟨_,rfl,_,_,_,rfl,rfl,by decide,_,rfl,d8 (by decide) ⟨_,rfl,_,_,_,rfl,rfl,by decide,_,rfl,_,_,_,rfl,rfl,by decide,rfl,_,rfl,d8 (by decide) ⟨_,rfl,_,rfl,rfl,?_⟩⟩⟩;rw[aSJ rfl];exact k _ (key p hp _)
  |aQ=>
   refine⟨_,rfl,(sL 2),λp hp=>⟨_,_,_,_,p,rfl,Za,rfl,by decide,by decide,_,rfl,cz (by decide) ?_⟩⟩;refine⟨_,rfl,_,rfl,d8 (by simp) (d8 rfl ⟨_,rfl,_,rfl,rfl,_,rfl,d8 (by decide) ⟨_,rfl,_,_,_,rfl,rfl,by decide,_,rfl,_,_,_,rfl,rfl,by decide,rfl,?_⟩⟩)⟩;rw[aSJ rfl];exact k _ (key p hp _)
  |str z=>
   refine⟨_,rfl,(sL 2),λp hp=>⟨_,_,_,_,p,rfl,Za,rfl,by decide,by decide,_,rfl,cz (by decide) ?_⟩⟩;refine⟨_,rfl,_,rfl,cz (by simp) ⟨_,rfl,_,_,_,rfl,rfl,by decide,_,rfl,d8 (by decide) ⟨_,rfl,_,rfl,rfl,_,rfl,d8 (by simp) ⟨_,rfl,_,_,_,rfl,rfl,by decide,_,rfl,_,_,_,rfl,rfl,by decide,rfl,?_⟩⟩⟩⟩;rw[aSJ rfl];exact k _ (key p hp _)
  |_=>exact hs.elim
 .have he:=rX m rfl;subst he;refine⟨_,rfl,(sL 2),λp hp=>?_⟩;have s1:=Zg hp (.tup [.ty "list",.ty "tuple"]);refine⟨_,_,_,_,p,rfl,Za,Jf (s1 _ _ hb),by decide,by decide,_,rfl,d8 (by decide) ?_⟩;refine⟨_,rfl,(sL 2),λp2 hp2=>?_⟩;have s2:=s1.trans (Zg hp2 (.tup [.ty "list",.ty "tuple"]));refine⟨_,_,_,_,p2,rfl,Za,Jf (s2 _ _ ha),by decide,by decide,_,rfl,cz (by decide) ?_⟩;refine⟨_,rfl,_,_,_,rfl,Jf (s2 _ _ ha),by decide,_,rfl,_,_,_,rfl,Jf (s2 _ _ hb),by decide,rfl,_,rfl,cz (by decide) ?_⟩;refine⟨_,rfl,a,_,rfl,.inl (aB.of (s2 _ _ ha)),_,rfl,b,_,rfl,.inl (aB.of (s2 _ _ hb)),rfl,_,rfl,?_⟩;generalize upd (upd H p (.tup [.ty "list",.ty "tuple"])) p2 (.tup [.ty "list",.ty "tuple"])=H2 at *;refine d8 (by rw[hl];simp) ?_;refine⟨_,rfl,_,rfl,a,b,rfl,.inl ⟨_,_,aB.of (s2 _ _ ha),aB.of (s2 _ _ hb),λl hl'=>?_⟩⟩;have CB:H l=none:=s2.free hl';refine ZiU (K:=K) (a:=a) (b:=b) (xs:=xs) (zs:=ys) (l:=l) hl (λi zs σ H'=>∃v0 v1:Option V,σ=[v0,v1]/\zs=(List.replicate i true).map V.bl/\H' l=some (.lst zs)/\ay H H')
   ⟨none,none,rfl,by simp,Za,s2.trans (Zg hl' _)⟩ (λi zs σ H' _ ⟨_,_,_,_,_,q⟩=>⟨aB.of (q _ _ ha),aB.of (q _ _ hb)⟩) ?_ ?_
  .rintro i x z t zs σ H' MC hxi Mi GV ⟨v0,v1,rfl,rfl,h1,s3⟩ ht;have s4:=s3.trans (Zg ht (.tup [x,z]));have DV:l≠t:=Ze h1 ht;refine⟨t,_,rfl,aX.of Za,rfl,_,_,rfl,_,_,rfl,rfl,?_⟩;refine⟨_,rfl,_,rfl,x,z,rfl,(hi i x z hxi Mi).same s4,λH5 s5=>?_⟩;refine rC.of (aIf (Zz hlen)) MC GV (s5 _ _ (by rw[Zc DV];exact h1)) ⟨_,_,rfl,by rw[aBB,aK6];rfl,Za,?_⟩;intro c o e;rw[Zc (Ze e CB)];exact s5 _ _ (s4 _ _ e)
  .rintro zs σ H' GV ⟨v0,v1,rfl,rfl,h1,s3⟩;refine⟨l,_,rfl,aB.of h1,?_⟩;rw[show(List.replicate xs.length true).all id=true by rw[aTK];intro z hz;rw[(aLs.mp hz).2];rfl];exact k H' s3
 .have he:=rX m rfl;subst he;refine⟨_,rfl,(sL 2),λp hp=>?_⟩;have s1:=Zg hp (.tup [.ty "list",.ty "tuple"]);refine⟨_,_,_,_,p,rfl,Za,Je (s1 _ _ hb),by decide,by decide,_,rfl,d8 (by decide) ?_⟩;refine⟨_,rfl,(sL 2),λp2 hp2=>?_⟩;have s2:=s1.trans (Zg hp2 (.tup [.ty "list",.ty "tuple"]));refine⟨_,_,_,_,p2,rfl,Za,Je (s2 _ _ ha),by decide,by decide,_,rfl,cz (by decide) ?_⟩;refine⟨_,rfl,_,_,_,rfl,Je (s2 _ _ ha),by decide,_,rfl,_,_,_,rfl,Je (s2 _ _ hb),by decide,rfl,_,rfl,cz (by decide) ?_⟩;refine⟨_,rfl,a,_,rfl,.inr (aX.of (s2 _ _ ha)),_,rfl,b,_,rfl,.inr (aX.of (s2 _ _ hb)),rfl,_,rfl,?_⟩;generalize upd (upd H p (.tup [.ty "list",.ty "tuple"])) p2 (.tup [.ty "list",.ty "tuple"])=H2 at *;refine d8 (by rw[hl];simp) ?_;refine⟨_,rfl,_,rfl,a,b,rfl,.inr ⟨_,_,aX.of (s2 _ _ ha),aX.of (s2 _ _ hb),λl hl'=>?_⟩⟩;have CB:H l=none:=s2.free hl';refine ZhB (K:=K) (a:=a) (b:=b) (xs:=xs) (zs:=ys) (l:=l) hl (λi zs σ H'=>∃v0 v1:Option V,σ=[v0,v1]/\zs=(List.replicate i true).map V.bl/\H' l=some (.lst zs)/\ay H H')
   ⟨none,none,rfl,by simp,Za,s2.trans (Zg hl' _)⟩ (λi zs σ H' _ ⟨_,_,_,_,_,q⟩=>⟨aX.of (q _ _ ha),aX.of (q _ _ hb)⟩) ?_ ?_
  .rintro i x z t zs σ H' MC hxi Mi GV ⟨v0,v1,rfl,rfl,h1,s3⟩ ht;have s4:=s3.trans (Zg ht (.tup [x,z]));have DV:l≠t:=Ze h1 ht;refine⟨t,_,rfl,aX.of Za,rfl,_,_,rfl,_,_,rfl,rfl,?_⟩;refine⟨_,rfl,_,rfl,x,z,rfl,(hi i x z hxi Mi).same s4,λH5 s5=>?_⟩;refine rC.of (aIf (Zz hlen)) MC GV (s5 _ _ (by rw[Zc DV];exact h1)) ⟨_,_,rfl,by rw[aBB,aK6];rfl,Za,?_⟩;intro c o e;rw[Zc (Ze e CB)];exact s5 _ _ (s4 _ _ e)
  .rintro zs σ H' GV ⟨v0,v1,rfl,rfl,h1,s3⟩;refine⟨l,_,rfl,aB.of h1,?_⟩;rw[show(List.replicate xs.length true).all id=true by rw[aTK];intro z hz;rw[(aLs.mp hz).2];rfl];exact k H' s3
def Lm:Sp:=λ_ _ _ _=>False
theorem SS(F:rH K "_law_same" "_law_same" s_same f fd)(bi:Binds K fd gg [])(m:mg "_law_same"=some (.ref f))(T:Txt K mg):∀n,Def P w K mg base "_law_same" (n+1) gg (gx n)
 |0=>by
  have D0:Def P w K mg base "_law_same" 0 gg Lm:=⟨f,fd,⟨λ_ _ _ _ h=>h.elim,λ_ _ _ _ _ _ _ _ _ _ _ _ _ h=>h.elim⟩,m,F.kp,bi⟩;exact⟨f,fd,Ry (n:=0) (λ_ h=>by lia) F T D0,m,F.kp,bi⟩
 |n+1=>⟨f,fd,Ry (n:=n+1) (λj h=>by cases(show j=n by lia);rfl) F T (SS F bi m T n),m,F.kp,bi⟩
def wO:Option Int->V
 |none=>.aQ
 |some g=>.int g
theorem gN{i:Nat}{v:V}{σ:St}{H:Hp}{Q:St->Hp->Prop}(h:Q (σ.set i (some v)) H):fC i v σ H Q:=h
theorem NW{b:Bool}{A B:Prop}(h1:b=true->A)(h2:¬b=true->B):if b=true then A else B:=by
 by_cases h:b=true
 .rw [aYH h];exact h1 h
 .rw [aoK h];exact h2 h
theorem Kr{ns:List Int}{i:Nat}{x:V}(h:(ns.map V.int)[i]?=some x):∃z,ns[i]?=some z/\x=V.int z:=by
 rw[aeb]at h;cases e:ns[i]? with
 |none=>rw[e]at h;cases h
 |some z=>rw[e]at h;exact⟨z,rfl,(aDb h).symm⟩
def tpos:Pos:=(match(ZE aP).head? with
 |some (.If _ (.Return (some (.Call _ _ (⟨_,.Lambda _ _ _ pos,_⟩ ::_) _)) _ ::_) _ _)=>pos
 |_=>⟨0,0,0,0⟩)
abbrev vI:Str:="Room.going" ++ ".<locals>." ++ "<lambda>"
def Tb(K:W.Frag)(H:Hp):Prop:=H (tabOf K "Room" "going")=some (.nU tpos vI)
theorem Tb.same{K:W.Frag}{H H':Hp}(t:Tb K H)(s:ay H H'):Tb K H':=s _ _ t
def Zl(sh s:Int)(there:List Int):List Int:=there.filter λo=>decide (o%sh=s)
theorem ID(sh s b:Int)(there:List Int):Zl sh s (there++[b])=if b%sh=s then Zl sh s there++[b] else Zl sh s there:=by
 unfold Zl;rw[List.filter_append];by_cases h:b%sh=s
 .rw [aYH h,anE,aYH (by simpa using h),List.filter_nil]
 .rw [aoK h,anE,aoK (by simpa using h),List.filter_nil,bah]
theorem Iz(sh s g:Int)(there:List Int):Zl sh s (there.erase g)=(Zl sh s there).erase g:=by
 unfold Zl;rw[List.erase_filter]
theorem aL{sh s b:Int}{there:List Int}:b∈Zl sh s there↔b∈there/\b%sh=s:=by
 unfold Zl;rw[mem_filter,aOt]
structure uB(H:Hp)(ls:Addr)(ao:List Addr)(sh:Int)(there:List Int):Prop where
 top:H ls=some (.lst (ao.map V.ref))
 len:ao.length=sh.toNat
 nd:ao.Nodup
 off:ls∉ao
 at_:∀(s:Nat)(ad:Addr),ao[s]?=some ad->H ad=some (.lst ((Zl sh s there).map V.int))
theorem uB.other{H:Hp}{ls:Addr}{ao:List Addr}{sh:Int}{there:List Int}(h:uB H ls ao sh there){a:Addr}(o:HO)(h1:a≠ls)(h2:a∉ao):uB (upd H a o) ls ao sh there:=
 ⟨by rw[Zc (avX h1)];exact h.top,h.len,h.nd,h.off,λi ad e=>by rw[Zc (λz:ad=a=>h2 (z ▸abH e))];exact h.at_ i ad e⟩
theorem uB.put{H:Hp}{ls:Addr}{ao:List Addr}{sh:Int}{there rM:List Int}(h:uB H ls ao sh there){s0:Nat}{ad:Addr}{ns:List Int}(e0:ao[s0]?=some ad)(hn:Zl sh s0 rM=ns)(ho:∀s:Nat,s≠s0->Zl sh s rM=Zl sh s there):uB (upd H ad (.lst (ns.map V.int))) ls ao sh rM:=by
 refine⟨by rw[Zc (λz:ls=ad=>h.off (z ▸abH e0))];exact h.top,h.len,h.nd,h.off,λs a e=>?_⟩;by_cases hs:s=s0
 .subst hs;rw[e0]at e;cases e;rw[Za,hn]
 .have ne:a≠ad:=λz=>by
   subst z;exact hs ((List.getElem?_inj (azG.mp e).1 h.nd).mp (e.trans e0.symm))
  rw[Zc ne,ho s hs];exact h.at_ s a e
theorem uB.get{H:Hp}{ls:Addr}{ao:List Addr}{sh:Int}{there:List Int}(h:uB H ls ao sh there){k:Int}(h0:0<=k)(h1:k<sh):∃(s:Nat)(ad:Addr),(s:Int)=k/\ao[s]?=some ad/\fP (ao.map V.ref) k=some (.ref ad)/\H ad=some (.lst ((Zl sh k there).map V.int)):=by
 have hk:k.toNat<ao.length:=by rw[h.len];lia
 have e:ao[k.toNat]?=some ao[k.toNat]:=aEW hk;have ek:((k.toNat:Nat):Int)=k:=by lia
 have q:fP (ao.map V.ref) ((k.toNat:Nat):Int)=some (.ref ao[k.toNat]):=yp (by rw[aeb,e];rfl);have q2:=h.at_ _ _ e;rw[ek]at q q2;exact⟨k.toNat,_,ek,e,q,q2⟩
theorem uB.one{H:Hp}{ls:Addr}{ao:List Addr}{sh:Int}{there:List Int}(h:uB H ls ao sh there){ad:Addr}(m:ad∈ao):∃xs,H ad=some (.lst xs):=by
 obtain⟨s,e⟩:=a6o m;exact⟨_,h.at_ s ad e⟩
def gf(sh pl:Int)(ru:Str)(ls du:Addr):List (Str×V):=ah "uses" (.ref du) (ah "standing" (.ref ls) (ah "rule" (.str ru) (ah "places" (.int pl) (ah "shelves" (.int sh) []))))
theorem Ex(sh pl:Int)(ru:Str)(ls du:Addr):(gf sh pl ru ls du).lookup ("uses":Str)=some (.ref du):=by
 unfold gf;rw[Zf,aYH rfl]
theorem T8(sh pl:Int)(ru:Str)(ls du:Addr):(gf sh pl ru ls du).lookup ("standing":Str)=some (.ref ls):=by
 unfold gf;rw[Zf,aoK (by decide +kernel),Zf,aYH rfl]
theorem Rx(sh pl:Int)(ru:Str)(ls du:Addr):(gf sh pl ru ls du).lookup ("rule":Str)=some (.str ru):=by
 unfold gf;rw[Zf,aoK (by decide +kernel),Zf,aoK (by decide +kernel),Zf,aYH rfl]
theorem Zig(sh pl:Int)(ru:Str)(ls du:Addr):(gf sh pl ru ls du).lookup ("places":Str)=some (.int pl):=by
 unfold gf;rw[Zf,aoK (by decide +kernel),Zf,aoK (by decide +kernel),Zf,aoK (by decide +kernel),Zf,aYH rfl]
theorem Ub(sh pl:Int)(ru:Str)(ls du:Addr):(gf sh pl ru ls du).lookup ("shelves":Str)=some (.int sh):=by
 unfold gf;rw[Zf,aoK (by decide +kernel),Zf,aoK (by decide +kernel),Zf,aoK (by decide +kernel),Zf,aoK (by decide +kernel),Zf,aYH rfl]
theorem bJ(sh pl:Int)(ru:Str)(ls du:Addr){m:Str}(h1:¬m ="uses":=by decide +kernel)(h2:¬m ="standing":=by decide +kernel)(h3:¬m ="rule":=by decide +kernel)(h4:¬m ="places":=by decide +kernel)(h5:¬m ="shelves":=by decide +kernel):(gf sh pl ru ls du).lookup m=none:=by
 unfold gf;rw[Zf,aoK h1,Zf,aoK h2,Zf,aoK h3,Zf,aoK h4,Zf,aoK h5];rfl
def KI(kvs:List (Key×V)):Prop:=∃ks:List Int,kvs.map Prod.fst=ks.map Sum.inl/\ks.Nodup
theorem KI.nil:KI []:=⟨[],rfl,nodup_nil⟩
theorem KI.put{kvs:List (Key×V)}(h:KI kvs)(b:Int)(v:V):KI (putK kvs (Sum.inl b) v):=by
 obtain⟨ks,e,nd⟩:=h;unfold putK;split
 .refine ⟨ks,?_,nd⟩;rw[<-e,map_map];exact aWw λq _=>by
   show(if q.1=Sum.inl b then(q.1,v) else q).1=q.1;split <;> rfl
 .rename_i c;refine⟨ks++[b],by rw[aK6,aK6,e];rfl,?_⟩;rw[List.nodup_append];refine⟨nd,by simp,λx hx y hy z=>c ?_⟩;rw[bau.mp hy]at z;subst z;have m:(Sum.inl x:Key)∈kvs.map Prod.fst:=by rw[e];exact bax hx
  obtain⟨q,hq,eq⟩:=a34.mp m;exact List.any_eq_true.mpr ⟨q,hq,by simpa using eq⟩
theorem KI.drop{kvs:List (Key×V)}(h:KI kvs)(b:Int):KI (aT kvs (Sum.inl b)):=by
 obtain⟨ks,e,nd⟩:=h;unfold aT;refine⟨ks.filter λx=>decide (x≠b),?_,nd.sublist filter_sublist⟩;have l:(kvs.filter λkv=>decide (kv.1≠Sum.inl b)).map Prod.fst=(kvs.map Prod.fst).filter λk=>decide (k≠Sum.inl b):=by
  rw[List.filter_map];rfl
 rw[l,e,List.filter_map];congr 1
 refine List.filter_congr λx _=>?_;show decide ((Sum.inl x:Key)≠Sum.inl b)=decide (x≠b);rw[decide_eq_decide];exact⟨λz y=>z (by rw[y]),λz y=>z (aIk y)⟩
theorem zM{kvs:List (Key×V)}(k:Key):(aK kvs k).isSome=true↔k∈kvs.map Prod.fst:=by
 rw[<-Iu,List.any_eq_true,mem_map];exact⟨λ⟨q,h1,h2⟩=>⟨q,h1,by simpa using h2⟩,λ⟨q,h1,h2⟩=>⟨q,h1,by simpa using h2⟩⟩
structure az(K:W.Frag)(H:Hp)(p:Addr)(sh pl:Int)(ru:Str)(ls:Addr)(ao:List Addr)(du:Addr)(seq:List Int)(us:Int->Int)(n:Nat):Prop where
 ob:∃dx,H p=some (.ins (af K "Room") dx (gf sh pl ru ls du))
 st:uB H ls ao sh seq
 dc:∃kvs,H du=some (.dK kvs)/\(kvs.length<=n/\KI kvs)/\∀b,aK kvs (Sum.inl b:Key)=if b∈seq then some (.int (us b)) else none
 nd:seq.Nodup
 s0:1<=sh
 s1:sh<=64
def SR(ao:List Addr)(du:Addr)(H H':Hp):Prop:=∀b o,H b=some o->b≠du->b∉ao->H' b=some o
theorem SR.of{ao:List Addr}{du:Addr}{H H':Hp}(s:ay H H'):SR ao du H H':=λb o h _ _=>s b o h
theorem SR.trans{ao:List Addr}{du:Addr}{H H1 H2:Hp}(a:SR ao du H H1)(b:SR ao du H1 H2):SR ao du H H2:=λc o h n1 n2=>b c o (a c o h n1 n2) n1 n2
section
variable{K:W.Frag}{H H':Hp}{p:Addr}{sh pl:Int}{ru:Str}{ls:Addr}{ao:List Addr}{du:Addr}{seq:List Int}{us:Int->Int}{n:Nat}
theorem az.off(R:az K H p sh pl ru ls ao du seq us n):p≠du/\p∉ao/\ls≠du/\ls∉ao/\du∉ao/\p≠ls:=by
 obtain⟨dx,h1⟩:=R.ob;obtain⟨kvs,h2,_⟩:=R.dc;refine⟨λz=>?_,λz=>?_,λz=>?_,R.st.off,λz=>?_,λz=>?_⟩
 .rw [z,h2]at h1;cases h1
 .obtain ⟨xs,e⟩:=R.st.one z;rw[e]at h1;cases h1
 .have e:=R.st.top;rw[z,h2]at e;cases e
 .obtain ⟨xs,e⟩:=R.st.one z;rw[e]at h2;cases h2
 .have e:=R.st.top;rw[<-z,h1]at e;cases e
theorem az.same(R:az K H p sh pl ru ls ao du seq us n)(s:ay H H'):az K H' p sh pl ru ls ao du seq us n:=by
 obtain⟨dx,h1⟩:=R.ob;obtain⟨kvs,h2,h3⟩:=R.dc;exact⟨⟨dx,s _ _ h1⟩,⟨s _ _ R.st.top,R.st.len,R.st.nd,R.st.off,λi ad e=>s _ _ (R.st.at_ i ad e)⟩,⟨kvs,s _ _ h2,h3⟩,R.nd,R.s0,R.s1⟩
theorem SR.keep{o:HO}{b:Addr}(s:SR ao du H H')(R:az K H p sh pl ru ls ao du seq us n)(h:H b=some o)(n1:∀kvs,o≠.dK kvs)(n2:∀xs,o≠.lst xs):H' b=some o:=by
 refine s _ _ h (λz=>?_) λz=>?_
 .obtain ⟨kvs,e,_⟩:=R.dc;rw[z,e]at h;exact n1 kvs (aDb h).symm
 .obtain ⟨xs,e⟩:=R.st.one z;rw[e]at h;exact n2 xs (aDb h).symm
theorem az.FD(R:az K H p sh pl ru ls ao du seq us n)(b:Int):∃(s:Nat)(ad:Addr),(s:Int)=b%sh/\ao[s]?=some ad/\fP (ao.map V.ref) (b%sh)=some (.ref ad)/\H ad=some (.lst ((Zl sh (b%sh) seq).map V.int)):=by
 have h0:=R.s0;exact R.st.get (aBD _ (by lia)) (aIv _ (by lia))
end
inductive sW(vs:List V)(H:Hp)(Q:VK)(E:XK):Prop
 |mk (sh b:Int):vs=[.int sh,.int b]->1<=sh->Q (.int (b%sh)) H->sW vs H Q E
example:(qu GH):=by
 obtain⟨sh,b,rfl,h0,k⟩:=h;refine⟨_,(Zh (Zp (aj uv (pv 1) (pv 0)))),?_⟩;exact⟨_,rfl,_,rfl,_,_,rfl,rfl,(by show 0<sh;lia),k⟩
inductive As(K:W.Frag)(vs:List V)(H:Hp)(Q:VK)(E:XK):Prop
 |mk (p:Addr) (b sh pl:Int) (ru:Str) (ls:Addr) (ao:List Addr) (du:Addr) (seq:List Int) (us:Int->Int) (n:Nat):vs=[.ref p,.int b]->az K H p sh pl ru ls ao du seq us n->Q (.bl (decide (b∈seq))) H->As K vs H Q E
example:(qx wJ):=by
 obtain⟨p,b,sh,pl,ru,ls,ao,du,seq,us,n,rfl,R,k⟩:=h;refine⟨_,(Zh (Zp (Zlf (Y9 hu (pv 1) (Zk (K:=K) rfl (pv 0) rfl))))),?_⟩;obtain⟨dx,h1⟩:=R.ob;obtain⟨kvs,h2,h3,h4⟩:=R.dc;refine⟨_,rfl,_,rfl,p,_,dx,_,_,rfl,h1,T.dQ,T.By,Ex ..,du,_,rfl,dG.k (k:=Sum.inl b) h2,?_⟩;rw[h4 b];by_cases c:b∈seq
 .rw [aYH c];rw[aSJ c]at k;exact k
 .rw [aoK c];rw[bcN c]at k;exact k
inductive tH(K:W.Frag)(vs:List V)(H:Hp)(Q:VK)(E:XK):Prop
 |mk (p:Addr) (b sh pl:Int) (ru:Str) (ls:Addr) (ao:List Addr) (du:Addr) (seq:List Int) (us:Int->Int) (n:Nat):vs=[.ref p,.int b]->az K H p sh pl ru ls ao du seq us n->(∀(s:Nat)(ad:Addr),(s:Int)=b%sh->ao[s]?=some ad->H ad=some (.lst ((Zl sh (b%sh) seq).map V.int))->Q (.ref ad) H)->tH K vs H Q E
example:(mD tY GH):=by
 obtain⟨p,b,sh,pl,ru,ls,ao,du,seq,us,n,rfl,R,k⟩:=h;refine⟨_,(Zh (Zp (au (Zo (K:=K) rfl) (Zk (K:=K) rfl (pv 0) rfl) (Zm GH hr.m rfl (pc (Zk (K:=K) rfl (pv 0) rfl) (pc (pv 1) Zb))) (λ_ _=>rfl)))),?_⟩;obtain⟨dx,h1⟩:=R.ob;obtain⟨s,ad,e1,e2,e3,e4⟩:=R.FD b;exact⟨_,rfl,p,_,dx,_,_,rfl,h1,T.dQ,T.Mb,T8 ..,_,rfl,p,_,dx,_,_,rfl,h1,T.dQ,T.L8,Ub ..,_,rfl,sh,b,rfl,R.s0,ls,_,_,_,rfl,rfl,aB.of R.st.top,e3,k s ad e1 e2 e4⟩
inductive vR(K:W.Frag)(vs:List V)(H:Hp)(Q:VK)(E:XK):Prop
 |mk (p:Addr) (b sh pl:Int) (ru:Str) (ls:Addr) (ao:List Addr) (du:Addr) (seq:List Int) (us:Int->Int) (n:Nat):vs=[.ref p,.int b]->az K H p sh pl ru ls ao du seq us n->b∈seq->Q .aQ H->vR K vs H Q E
example:(oE wF wJ):=by
 obtain⟨p,b,sh,pl,ru,ls,ao,du,seq,us,n,rfl,R,hb,k⟩:=h;refine⟨_,(Zh (aE (uz (ZD (Zj wJ hr.m T.dQ (pv 0) (pc (pv 1) Zb)))) (Zh t9) Zt)),?_⟩;obtain⟨dx,h1⟩:=R.ob;refine⟨_,rfl,p,dx,_,rfl,h1,bJ ..,_,rfl,p,b,sh,pl,ru,ls,ao,du,seq,us,n,rfl,R,?_⟩;rw[aSJ hb];exact⟨_,rfl,cz rfl k⟩
inductive jX(K:W.Frag)(vs:List V)(H:Hp)(Q:VK)(E:XK):Prop
 |mk (p m:Addr) (ms:List Int) (sh pl:Int) (ru:Str) (ls:Addr) (ao:List Addr) (du:Addr) (seq:List Int) (us:Int->Int) (n:Nat):vs=[.ref p,.ref m]->az K H p sh pl ru ls ao du seq us n->Tb K H->H m=some (.lst (ms.map V.int))->ms.length<64->ms.Nodup->(∀b∈ms,b∈seq)->(∀(D:Addr)(H':Hp)(os:List Int),H D=none->ay H H'->H' D=some (.lst (os.map V.int))->os.Perm ms->(ru ="few" ->os.Pairwise (sJ us ms))->(ru ≠ "few" ->os=ms)->Q (.ref D) H')->jX K vs H Q E
theorem Zdu{f tp cg:Addr}{fd:FuncData}(F:rH K "going" "Room.going" aP f fd)(hfc:fd.code=.ref cg)(htp:tabOf K "Room" "going"=tp)(hch:W.codeHdIn K cg tp=true)(bm:BMod base mg)(T:Txt K mg):b9 P w K mg base nR 2 f fd b7 (jX K):=by
 refine F.Wm fR (λvs H Q E h=>?_) (λcdv A outer st H vs Q E XX hr h=>?_)
 .obtain ⟨p,m,ms,sh,pl,ru,ls,ao,du,seq,us,n,rfl,_⟩:=h;rfl
 obtain ⟨p,m,ms,sh,pl,ru,ls,ao,du,seq,us,n,rfl,R,tb,hm,h64,hnd,hin,k⟩:=h;have nd:=fR.nd;have hu:=AW hr;have hc0:cdv=.ref cg:=XX.symm.trans hfc;refine⟨_,(Zd (aE (Zv aY (Zk (K:=K) rfl (pv 0) rfl) ZV (Zu _)) (Zh (Zp (Zje (X:=(qK nR P w K mg base iz "Room.going" (Zr aP) f cdv A outer st H E).BY) (K:=K) (P:=tp) (c0:=cg) rfl hr rfl rfl T.Aj (Zjd (mh:=(Zr aP)) (oN:=iz) (x:="board") (fr:=["self"]) (js:=[0]) (by decide +kernel) rfl rfl) hc0 hch bm rfl rfl rfl (λ_ _ _ _ _=>rfl) (pv 1) (λ_ _ _ _ _=>(Ic (ZlB hr) (Zk (K:=K) rfl (pv 1) rfl) (pv 0) (λ_ _=>rfl)))))) Zt)
   (Zh (Zp (ZW (KW (K:=K) rfl) rfl T.vG ZQ (pc (pv 1) Zb))))),?_⟩
 obtain⟨dx,h1⟩:=R.ob;obtain⟨kvs,h2,h3,h4⟩:=R.dc;refine⟨_,rfl,p,_,dx,_,_,rfl,h1,T.dQ,T.L4,Rx ..,rfl,_,rfl,?_⟩;refine uP (λc=>?_) (λc=>?_)
 .have c':ru ="few":=by injection c
  have tb':H tp=some (.nU tpos vI):=by
   have t:=tb;unfold Tb at t;rw[htp]at t;exact t
  refine⟨_,rfl,m,ms,us,rfl,aB.of hm,h64,hnd,tb',λz hz H2 sm=>?_,λD H' os hD sm hl po so=>k D H' os hD sm hl po (λ_=>so) λz=>absurd c' z⟩;have v:=h4 z;rw[aYH (hin z hz)]at v;exact⟨_,rfl,p,_,dx,_,_,rfl,sm _ _ h1,T.dQ,T.By,Ex ..,_,rfl,du,_,rfl,(by have q:=dG.k (k:=Sum.inl z) (sm _ _ h2);rw[v]at q;exact q),rfl,rfl⟩
 .have c':¬ru ="few":= λz=>c (by rw[z]);exact⟨_,rfl,m,_,rfl,.inl (aB.of hm),λD hD=>k D _ ms hD (Zg hD _) Za (aEu _) (λz=>absurd z c') λ_=>rfl⟩
theorem KN{kvs:List (Key×V)}{k:Key}(j:Key):aK (aT kvs k) j=if j=k then none else aK kvs j:=by
 induction kvs with
 |nil=>by_cases e:j=k <;> simp[aT,aK,e]
 |cons q r ih=>
  by_cases e:q.1=k
  .rw [Zhv e,ih];by_cases c:j=k
   .rw [aYH c,aYH c]
   .rw [aoK c,aoK c,ZH (λz=>c (z.symm.trans e))]
  .rw [Zhw e];by_cases c:q.1=j
   .rw [ZL c,aoK (λz=>e (c.trans z)),ZL c]
   .rw [ZH c,ih,ZH c]
theorem Zih(kvs:List (Key×V))(k:Key):(aT kvs k).length<=kvs.length:=aj2 ..
inductive vY(K:W.Frag)(vs:List V)(H:Hp)(Q:VK)(E:XK):Prop
 |mk (p:Addr) (b sh pl:Int) (ru:Str) (ls:Addr) (ao:List Addr) (du:Addr) (seq:List Int) (us:Int->Int) (n:Nat):vs=[.ref p,.int b]->az K H p sh pl ru ls ao du seq us n->b∈seq->(∀H',az K H' p sh pl ru ls ao du (seq.erase b) us n->SR ao du H H'->Q .aQ H')->vY K vs H Q E
example:(oG Ah wF tY):=by
 obtain ⟨p,b,sh,pl,ru,ls,ao,du,seq,us,n,rfl,R,hb,k⟩:=h;refine⟨_,(Zd (Zn (Zj wF hr.m T.dQ (pv 0) (pc (pv 1) Zb)))
   (Zd (Zn (Bg (K:=K) rfl (jn aRr PySem.F.slot_list_remove PySem.F.type_list_remove TQ (Zj tY hr.m T.dQ (pv 0) (pc (pv 1) Zb)) (pc (pv 1) Zb))))
   (Zh (Zn (Th (Zk (K:=K) rfl (pv 0) rfl) (pv 1) ⟨rfl,rfl,rfl,rfl⟩))))),?_⟩
 obtain⟨dx,h1⟩:=R.ob;obtain⟨kvs,h2,h3,h4⟩:=R.dc;obtain⟨o1,o2,o3,o4,o5,o6⟩:=R.off;refine⟨_,rfl,p,dx,_,rfl,h1,bJ ..,_,rfl,p,b,sh,pl,ru,ls,ao,du,seq,us,n,rfl,R,hb,?_⟩;refine⟨_,rfl,p,dx,_,rfl,h1,bJ ..,_,rfl,p,b,sh,pl,ru,ls,ao,du,seq,us,n,rfl,R,λs ad es hs had=>?_⟩;have wZ:ad∈ao:=abH hs;have hmem:b∈Zl sh (b%sh) seq:=aL.mpr ⟨hb,rfl⟩;refine⟨.inl ⟨rfl,_,aB.of had⟩,_,rfl,ad,_,b,rfl,rfl,had,hmem,?_⟩;have S1:uB (upd H ad (.lst (((Zl sh (b%sh) seq).erase b).map V.int))) ls ao sh (seq.erase b):=by
  refine R.st.put hs ?_ λs' hs'=>?_
  .rw [Iz,es]
  .rw [Iz];exact a76 λm=>hs' (by have:=(aL.mp m).2;lia)
 have np:p≠ad:=λz=>o2 (z ▸wZ);have JF:du≠ad:=λz=>o5 (z ▸wZ);have yi:upd H ad (.lst (((Zl sh (b%sh) seq).erase b).map V.int)) p=some (.ins (af K "Room") dx (gf sh pl ru ls du)):=by rw[Zc np];exact h1
 have h2':upd H ad (.lst (((Zl sh (b%sh) seq).erase b).map V.int)) du=some (.dK kvs):=by rw[Zc JF];exact h2
 refine⟨_,rfl,p,_,dx,_,_,rfl,yi,T.dQ,T.By,Ex ..,du,rfl,.inl ⟨_,.inl h2'⟩,_,rfl,kvs,Sum.inl b,_,h2',rfl,(by rw[h4 b,aYH hb]),?_⟩;refine k _ ⟨⟨dx,by rw[Zc o1];exact yi⟩,S1.other _ (avX o3) o5,⟨_,Za,⟨alM (Zih _ _) h3.1,h3.2.drop b⟩,λx=>?_⟩,R.nd.erase b,R.s0,R.s1⟩ λx o e n1 n2=>?_
 .rw [KN,h4 x];by_cases c:x=b
  .subst c;rw[aYH rfl,aoK (λm=>((aDB R.nd).mp m).1 rfl)]
  .rw [aoK (λz=>c (aIk z))];by_cases m:x∈seq
   .rw [aYH m,aYH ((aDB R.nd).mpr ⟨c,m⟩)]
   .rw [aoK m,aoK (λz=>m (aF0 z))]
 .rw [Zc n1,Zc (λz:x=ad=>n2 (z ▸wZ))];exact e
def bump(us:Int->Int)(b:Int):Int->Int:=λx=>if x=b then us b+1 else us x
inductive Ao(K:W.Frag)(vs:List V)(H:Hp)(Q:VK)(E:XK):Prop
 |mk (p:Addr) (b sh pl:Int) (ru:Str) (ls:Addr) (ao:List Addr) (du:Addr) (seq:List Int) (us:Int->Int) (n:Nat):vs=[.ref p,.int b]->az K H p sh pl ru ls ao du seq us n->n<=900->b∈seq->seq.length<=900->(∀H',az K H' p sh pl ru ls ao du (if ru ="old" then seq.erase b++[b] else seq) (bump us b) (n+1)->SR ao du H H'->Q .aQ H')->Ao K vs H Q E
example:(qw GG wF tY):=by
 obtain ⟨p,b,sh,pl,ru,ls,ao,du,seq,us,n,rfl,R,hn,hb,hsl,k⟩:=h;refine⟨_,(Zd (Zn (Zj wF hr.m T.dQ (pv 0) (pc (pv 1) Zb)))
   (Zd (Zkr hu (Zk (K:=K) rfl (pv 0) rfl) (pv 1) Zi Z7 (λ_ _ _=>rfl))
   (Zh (aE (Zv aY (Zk (K:=K) rfl (pv 0) rfl) ZV (Zu _)) (Zd (cK 2 nd (Zj tY hr.m T.dQ (pv 0) (pc (pv 1) Zb)))
   (Zd (Zn (Bg (K:=K) rfl (jn aRr PySem.F.slot_list_remove PySem.F.type_list_remove TQ (pv 2) (pc (pv 1) Zb))))
   (Zh (Zn (Bg (K:=K) rfl (jn aRr aJi axI C9 (pv 2) (pc (pv 1) Zb))))))) Zt)))),?_⟩
 obtain⟨dx,h1⟩:=R.ob;obtain⟨kvs,h2,h3,h4⟩:=R.dc;obtain⟨o1,o2,o3,o4,o5,o6⟩:=R.off;refine⟨_,rfl,p,dx,_,rfl,h1,bJ ..,_,rfl,p,b,sh,pl,ru,ls,ao,du,seq,us,n,rfl,R,hb,?_⟩;refine⟨_,rfl,p,_,dx,_,_,rfl,h1,T.dQ,T.By,Ex ..,_,rfl,du,_,rfl,(by have q:=dG.k (k:=Sum.inl b) h2;rw[h4 b,aYH hb]at q;exact q),_,_,rfl,rfl,_,lJ.k (k:=Sum.inl b) h2 (Zz (by lia)),?_⟩;have R1:az K (upd H du (.dK (putK kvs (Sum.inl b) (.int (us b+1))))) p sh pl ru ls ao du seq (bump us b) (n+1):=by
  refine⟨⟨dx,by rw[Zc o1];exact h1⟩,R.st.other _ (avX o3) o5,⟨_,Za,⟨alM (Iv ..) (by have:=h3.1;lia),h3.2.put b _⟩,λx=>?_⟩,R.nd,R.s0,R.s1⟩;rw[EC];unfold bump;by_cases c:x=b
  .subst c;rw[aYH rfl,aYH hb,aYH rfl]
  .rw [aoK (λz=>c (aIk z)),h4 x,aoK c]
 have s1:SR ao du H (upd H du (.dK (putK kvs (Sum.inl b) (.int (us b+1))))):=λx o e n1 n2=>by rw[Zc n1];exact e
 generalize upd H du (.dK (putK kvs (Sum.inl b) (.int (us b+1))))=H1 at *;obtain⟨cQ,g1⟩:=R1.ob;refine⟨_,rfl,p,_,cQ,_,_,rfl,g1,T.dQ,T.L4,Rx ..,rfl,_,rfl,?_⟩;refine uP (λc=>?_) (λc=>?_)
 .have c':ru ="old":=by injection c
  rw[aYH c']at k;refine⟨_,rfl,p,cQ,_,rfl,g1,bJ ..,_,rfl,p,b,sh,pl,ru,ls,ao,du,seq,_,_,rfl,R1,λs ad es hs had=>?_⟩;have wZ:ad∈ao:=abH hs;have hmem:b∈Zl sh (b%sh) seq:=aL.mpr ⟨hb,rfl⟩;refine⟨_,rfl,.inl ⟨rfl,_,aB.of had⟩,_,rfl,ad,_,b,rfl,rfl,had,hmem,?_⟩;have ll:((Zl sh (b%sh) seq).erase b).length<=900:=alM List.length_erase_le (alM (aj2 ..) hsl);refine⟨_,rfl,.inl ⟨rfl,_,aB.of Za⟩,_,rfl,ad,_,_,rfl,rfl,Za,Zz (by rw[aW8];lia),?_⟩;rw[KG];have e1:(((Zl sh (b%sh) seq).erase b).map V.int++[V.int b])=((Zl sh (b%sh) seq).erase b++[b]).map V.int:=by rw[aK6];rfl
  have S2:uB (upd H1 ad (.lst (((Zl sh (b%sh) seq).erase b++[b]).map V.int))) ls ao sh (seq.erase b++[b]):=by
   refine R1.st.put hs ?_ λs' hs'=>?_
   .rw [ID,aYH es.symm,Iz,es]
   .rw [ID,aoK (by lia),Iz];exact a76 λm=>hs' (by have:=(aL.mp m).2;lia)
  have np:p≠ad:=λz=>o2 (z ▸wZ);have LO:du≠ad:=λz=>o5 (z ▸wZ);obtain⟨LY,g2,g3,g4⟩:=R1.dc;have PN:∀x,x∈seq.erase b++[b]↔x∈seq:=λx=>by
   rw[mem_append,mem_singleton,aDB R.nd];constructor
   .rintro (⟨_,m⟩|rfl)
    .exact m
    .exact hb
   .intro m;by_cases z:x=b
    .exact .inr z
    .exact .inl ⟨z,m⟩
  rw[e1];refine k _ ⟨⟨cQ,by rw[Zc np];exact g1⟩,S2,⟨LY,by rw[Zc LO];exact g2,g3,λx=>?_⟩,?_,R.s0,R.s1⟩ λx o e n1 n2=>?_
  .rw [g4 x];by_cases m:x∈seq
   .rw [aYH m,aYH ((PN x).mpr m)]
   .rw [aoK m,aoK (λz=>m ((PN x).mp z))]
  .refine Ia (R.nd.erase b) λm=>((aDB R.nd).mp m).1 rfl
  .rw [Zc (λz:x=ad=>n2 (z ▸wZ))];exact s1 _ _ e n1 n2
 .have c':¬ru ="old":= λz=>c (by rw[z]);rw[aoK c']at k;exact k _ R1 s1
def cL(seq:List Int):Option Int->List Int
 |none=>seq
 |some g=>seq.erase g
def cM(ru:Str)(us:Int->Int)(pl:Int)(ms:List Int)(gone:Option Int):Prop:=
 ((ms.length:Int)<pl->gone=none)/\(¬(ms.length:Int)<pl->∃(g:Int)(rest:List Int),gone=some g/\(g ::rest).Perm ms/\(ru ="few" ->(g ::rest).Pairwise (sJ us ms))/\(ru ≠ "few" ->g ::rest=ms))
theorem qG{seq:List Int}{g:Option Int}:(cL seq g).Sublist seq:=by
 cases g with
 |none=>exact List.Sublist.refl _
 |some g=>exact List.erase_sublist
inductive vO(K:W.Frag)(vs:List V)(H:Hp)(Q:VK)(E:XK):Prop
 |mk (p dx:Addr) (sh pl:Int) (ru:Str):vs=[.ref p,.int sh,.int pl,.str ru]->H p=some (.ins (af K "Room") dx [])->1<=sh->sh<=64->(∀(ls:Addr)(ao:List Addr)(du:Addr)(H':Hp),az K H' p sh pl ru ls ao du [] (λ_=>0) 0->H ls=none->H du=none->(∀ad∈ao,H ad=none)->(∀b o,H b=some o->b≠p->H' b=some o)->Q .aQ H')->vO K vs H Q E
example:(oF Gz):=by
 obtain ⟨p,dx,sh,pl,ru,rfl,hp,hs0,hs1,k⟩:=h;refine⟨_,(Zd (pM (pv 0) (pv 1) rfl)
   (Zd (pM (pv 0) (pv 2) rfl)
   (Zd (pM (pv 0) (pv 3) rfl)
   (Zd (pM (pv 0) (Dc (ZZ (mh:=(Zr fm)) (oN:=rq) (N:=["number"]) (own:=1) (js:=[]) (by decide +kernel) rfl rfl) rfl (ZY rfl T.rR (pc (pv 1) Zb)) (λ_ _ _ _ _ _=>(bY 0 (show List.Nodup (["number"]:List Str) by decide +kernel))) (λ_ _ _ _ _ _=>(sd Zb))) rfl)
   (Zh (pM (pv 0) EB rfl)))))),?_⟩
 refine⟨_,rfl,_,rfl,p,_,dx,_,rfl,hp,T.dQ,T.L8,(by show 0<1000;decide),?_⟩;refine⟨_,rfl,_,rfl,p,_,dx,_,rfl,Za,T.dQ,T.Pw,(by show 1<1000;decide),?_⟩;refine⟨_,rfl,_,rfl,p,_,dx,_,rfl,Za,T.dQ,T.L4,(by show 2<1000;decide),?_⟩;have e3:upd (upd (upd H p (.ins (af K "Room") dx (ah "shelves" (.int sh) []))) p (.ins (af K "Room") dx (ah "places" (.int pl) (ah "shelves" (.int sh) [])))) p (.ins (af K "Room") dx (ah "rule" (.str ru) (ah "places" (.int pl) (ah "shelves" (.int sh) [])))) p=some (.ins (af K "Room") dx (ah "rule" (.str ru) (ah "places" (.int pl) (ah "shelves" (.int sh) [])))):=Za;have o3:∀b o,H b=some o->b≠p->upd (upd (upd H p (.ins (af K "Room") dx (ah "shelves" (.int sh) []))) p (.ins (af K "Room") dx (ah "places" (.int pl) (ah "shelves" (.int sh) [])))) p (.ins (af K "Room") dx (ah "rule" (.str ru) (ah "places" (.int pl) (ah "shelves" (.int sh) [])))) b=some o:=λb o e n=>by rw[Zc n,Zc n,Zc n];exact e
 generalize upd (upd (upd H p (.ins (af K "Room") dx (ah "shelves" (.int sh) []))) p (.ins (af K "Room") dx (ah "places" (.int pl) (ah "shelves" (.int sh) [])))) p (.ins (af K "Room") dx (ah "rule" (.str ru) (ah "places" (.int pl) (ah "shelves" (.int sh) []))))=H3 at *;have f3:∀b,H3 b=none->H b=none:=λb e=>by
  cases q:H b with
  |none=>rfl
  |some o=>
   by_cases z:b=p
   .rw [z,e3]at e;cases e
   .rw [o3 b o q z]at e;cases e
 refine⟨_,rfl,sh,rfl,by lia,by lia,λls hls=>?_⟩;refine KZ (lo:=0) (n:=sh.toNat) (l:=ls) (λj ys σ G=>∃(v0:Option V)(ao:List Addr),σ=[v0]/\ys=ao.map V.ref/\ao.length=j/\ao.Nodup/\ls∉ao/\G ls=some (.lst ys)/\(∀ad∈ao,H3 ad=none/\G ad=some (.lst []))/\ay H3 G)
  ⟨none,[],rfl,rfl,rfl,nodup_nil,by simp,Za,by simp,Zg hls _⟩ ?_ ?_
 .rintro j ys σ G hj hy ⟨v0,ao,rfl,rfl,hlen,hnd,hoff,g1,g2,s1⟩;refine⟨(sL 0),λq hq=>?_⟩;have nq:ls≠q:=Ze g1 hq;have O9:q∉ao:=λm=>by rw[(g2 q m).2]at hq;cases hq
  refine rC.of (alM (by lia:sh.toNat<=64) (by decide)) hj hy (by rw[Zc nq];exact g1) ⟨_,ao++[q],rfl,by rw[aK6];rfl,by rw[aE0,hlen];rfl,Ia hnd O9,?_,Za,λad m=>?_,?_⟩
  .intro m;rcases aUH.mp m with m|m
   .exact hoff m
   .exact nq (by simpa using m)
  .rcases aUH.mp m with m|m
   .rw [Zc (λz:ad=ls=>hoff (z ▸m)),Zc (λz:ad=q=>O9 (z ▸m))];exact g2 ad m
   .have e:ad=q:=by simpa using m
    subst e;rw[Zc (avX nq)];exact⟨s1.free hq,Za⟩
  .intro e o y;rw[Zc (Ze y hls),Zc (Ze (s1 _ _ y) hq)];exact s1 _ _ y
 rintro ys σ G hy ⟨v0,ao,rfl,rfl,hlen,hnd,hoff,g1,g2,s1⟩;have gp:=s1 _ _ e3;refine⟨_,rfl,p,_,dx,_,rfl,gp,T.dQ,T.Mb,(by show 3<1000;decide),?_⟩;intro du zp;have LM:ls≠p:=λz=>by rw[z,e3]at hls;cases hls
 have Pg:∀ad∈ao,ad≠p:=λad m z=>by have q:=(g2 ad m).1;rw[z,e3]at q;cases q
 have Gb:p≠du:=Ze (Za (H:=G) (a:=p) (o:=.ins (af K "Room") dx (ah "standing" (.ref ls) (ah "rule" (.str ru) (ah "places" (.int pl) (ah "shelves" (.int sh) [])))))) zp;have gl:ls≠du:=λz=>by rw[<-z,Zc LM,g1]at zp;cases zp
 have ga:du∉ao:=λm=>by rw[Zc (avX Gb),(g2 du m).2]at zp;cases zp
 refine⟨_,rfl,p,_,dx,_,rfl,(by rw[Zc Gb];exact Za),T.dQ,T.By,(by show 4<1000;decide),?_⟩;have Hh:H3 du=none:=by
  rw[Zc (avX Gb)]at zp;exact s1.free zp
 refine k ls ao du _ ⟨⟨dx,Za⟩,⟨?_,hlen,hnd,hoff,λi ad e=>?_⟩,⟨[],?_,⟨apX _,KI.nil⟩,λb=>by simp[aK]⟩,nodup_nil,hs0,hs1⟩ (f3 _ hls) (f3 _ Hh) (λad m=>f3 _ (g2 ad m).1) λb o e n=>?_
 .rw [Zc LM,Zc gl,Zc LM];exact g1
 .have m:=abH e;rw[Zc (Pg ad m),Zc (λz:ad=du=>ga (z ▸m)),Zc (Pg ad m)];exact(g2 ad m).2
 .rw [Zc (avX Gb)];exact Za
 .have q:=s1 _ _ (o3 b o e n);have nb:b≠du:=λz=>by
   rw[<-z,Zc n,q]at zp;cases zp
  rw[Zc n,Zc nb,Zc n];exact q
def zero(us:Int->Int)(b:Int):Int->Int:=λx=>if x=b then 0 else us x
inductive tN(K:W.Frag)(vs:List V)(H:Hp)(Q:VK)(E:XK):Prop
 |mk (p:Addr) (b sh pl:Int) (ru:Str) (ls:Addr) (ao:List Addr) (du:Addr) (seq:List Int) (us:Int->Int) (n:Nat):vs=[.ref p,.int b]->az K H p sh pl ru ls ao du seq us n->Tb K H->n<=900->b∉seq->1<=pl->(Zl sh (b%sh) seq).length<64->(∀(gone:Option Int)(H':Hp),cM ru us pl (Zl sh (b%sh) seq) gone->az K H' p sh pl ru ls ao du (cL seq gone++[b]) (zero us b) (n+1)->SR ao du H H'->Q (wO gone) H')->tN K vs H Q E
inductive p7(K:W.Frag)(vs:List V)(H:Hp)(Q:VK)(E:XK):Prop
 |mk (p:Addr) (b sh pl:Int) (ru:Str) (ls:Addr) (ao:List Addr) (du:Addr) (seq:List Int) (us:Int->Int) (n:Nat):vs=[.ref p,.int b]->az K H p sh pl ru ls ao du seq us n->Tb K H->1<=pl->(Zl sh (b%sh) seq).length<64->(∀(gone:Option Int)(H':Hp),cM ru us pl (Zl sh (b%sh) seq) gone->ay H H'->Q (wO gone) H')->p7 K vs H Q E
example:(f7 AJ tY Ai):=by
 obtain ⟨p,b,sh,pl,ru,ls,ao,du,seq,us,n,rfl,R,tb,hpl,h64,k⟩:=h;refine⟨_,(Zd (cK 2 nd (Zj tY hr.m T.dQ (pv 0) (pc (pv 1) Zb)))
   (Zd (aE (Zv kM (Zs (ZG (K:=K) rfl) rfl T.zj aMZ (pc (pv 2) Zb)) (Zk (K:=K) rfl (pv 0) rfl) (Zu _)) (Zh (Zp Zle)) Zt)
   (Zh (Zp (au (Zo (K:=K) rfl) (Zj Ai hr.m T.dQ (pv 0) (pc (pv 2) Zb)) Zi (λ_ _=>rfl)))))),?_⟩
 obtain⟨dx,h1⟩:=R.ob;refine⟨_,rfl,p,dx,_,rfl,h1,bJ ..,_,rfl,p,b,sh,pl,ru,ls,ao,du,seq,us,n,rfl,R,λs ad es hs had=>?_⟩;have hnd:(Zl sh (b%sh) seq).Nodup:=R.nd.sublist filter_sublist;refine⟨_,rfl,ad,_,rfl,.inl (aB.of had),_,rfl,p,_,dx,_,_,rfl,h1,T.dQ,T.Pw,Zig ..,_,_,rfl,rfl,_,rfl,?_⟩;rw[aW8];refine uP (λc=>?_) (λc=>?_)
 .exact k none H ⟨λ_=>rfl,λz=>absurd z (by lia)⟩ (ay.refl _)
 .refine ⟨_,rfl,p,dx,_,rfl,h1,bJ ..,_,rfl,p,ad,Zl sh (b%sh) seq,sh,pl,ru,ls,ao,du,seq,us,n,rfl,R,tb,had,h64,hnd,(λx m=>(aL.mp m).1),λD H' os hD sm hl po s1 s2=>?_⟩;have lo:=po.length_eq
  match os,hl,po,s1,s2,lo with
  | [],_,_,_,_,lo=>exact absurd lo (by simp;lia)
  |g ::rest,hl,po,s1,s2,lo=>
   refine⟨D,_,_,_,rfl,rfl,aB.of hl,dF,?_⟩;exact k (some g) H' ⟨λz=>absurd c (by lia),λ_=>⟨g,rest,rfl,po,s1,s2⟩⟩ sm
example:(mF E9 wJ AJ tY Ah):=by
 obtain ⟨p,b,sh,pl,ru,ls,ao,du,seq,us,n,rfl,R,tb,hn,hb,hpl,h64,k⟩:=h;refine⟨_,(Zd (aE (ZD (Zj wJ hr.m T.dQ (pv 0) (pc (pv 1) Zb))) (Zh t9) Zt)
   (Zd (cK 2 nd (Zj AJ hr.m T.dQ (pv 0) (pc (pv 1) Zb)))
   (Zd (aE (Ke (Su (pv 2))) (Zh (Zn (Zj Ah hr.m T.dQ (pv 0) (pc (pv 2) Zb)))) Zt)
   (Zd (Zn (Bg (K:=K) rfl (jn aRr aJi axI C9 (Zj tY hr.m T.dQ (pv 0) (pc (pv 1) Zb)) (pc (pv 1) Zb))))
   (Zd (Ib hu (Zk (K:=K) rfl (pv 0) rfl) (pv 1) Zi rfl)
   (Zh (Zp (pv 2)))))))),?_⟩
 obtain⟨dx,h1⟩:=R.ob;refine⟨_,rfl,p,dx,_,rfl,h1,bJ ..,_,rfl,p,b,sh,pl,ru,ls,ao,du,seq,us,n,rfl,R,?_⟩;rw[bcN hb];refine⟨_,rfl,cz rfl ?_⟩;refine⟨_,rfl,p,dx,_,rfl,h1,bJ ..,_,rfl,p,b,sh,pl,ru,ls,ao,du,seq,us,n,rfl,R,tb,hpl,h64,λgone H1 gp sm=>?_⟩;refine gN ?_;dsimp only;have R0:=R.same sm;have hnd:(Zl sh (b%sh) seq).Nodup:=R.nd.sublist filter_sublist;refine Ej (λσ G=>σ=[some (.ref p),some (.int b),some (wO gone)]/\az K G p sh pl ru ls ao du (cL seq gone) us n/\SR ao du H G) (λD' _ k'=>?_) ?_
 .match gone,gp with
  |none,gp=>exact⟨_,rfl,_,rfl,cz rfl (k' _ _ ⟨rfl,R0,SR.of sm⟩)⟩
  |some g,gp=>
   have hg:g∈Zl sh (b%sh) seq:=by
    by_cases c:((Zl sh (b%sh) seq).length:Int)<pl
    .exact absurd (gp.1 c) (by simp)
    .obtain ⟨g',rest,e,po,_⟩:=gp.2 c;injection e with e
     subst e;exact po.mem_iff.mp aAX
   obtain⟨yl,yi⟩:=R0.ob;exact⟨_,rfl,_,rfl,d8 rfl ⟨_,rfl,p,yl,_,rfl,yi,bJ ..,_,rfl,p,g,sh,pl,ru,ls,ao,du,seq,us,n,rfl,R0,(aL.mp hg).1,λH2 R2 s3=>k' _ _ ⟨rfl,R2,(SR.of sm).trans s3⟩⟩⟩
 rintro _ G ⟨rfl,R1,s1⟩;obtain⟨cQ,g1⟩:=R1.ob;obtain⟨kvs,g2,g3,g4⟩:=R1.dc;obtain⟨o1,o2,o3,o4,o5,o6⟩:=R1.off;refine⟨_,rfl,p,cQ,_,rfl,g1,bJ ..,_,rfl,p,b,sh,pl,ru,ls,ao,du,cL seq gone,us,n,rfl,R1,λs ad es hs X6=>?_⟩;have wZ:ad∈ao:=abH hs;have Hi:=R1.st.at_ s ad hs;have ll:(Zl sh s (cL seq gone)).length<=64:=by
  have q:(Zl sh s (cL seq gone)).Sublist (Zl sh s seq):=List.Sublist.filter _ (qG (g:=gone));have q2:=q.length_le;rw[es]at q2 ⊢;lia
 refine⟨.inl ⟨rfl,_,aB.of Hi⟩,_,rfl,ad,_,_,rfl,rfl,Hi,Zz (by rw[aW8];lia),?_⟩;have nb:b∉cL seq gone:=λm=>hb (qG.subset m);have e1:((Zl sh s (cL seq gone)).map V.int++[V.int b])=(Zl sh s (cL seq gone)++[b]).map V.int:=by rw[aK6];rfl
 rw[e1];have S2:uB (upd G ad (.lst ((Zl sh s (cL seq gone)++[b]).map V.int))) ls ao sh (cL seq gone++[b]):=by
  refine R1.st.put hs ?_ λs' hs'=>?_
  .rw [ID,aYH es.symm]
  .rw [ID,aoK (by lia)]
 have np:p≠ad:=λz=>o2 (z ▸wZ);have LO:du≠ad:=λz=>o5 (z ▸wZ);have JY:upd G ad (.lst ((Zl sh s (cL seq gone)++[b]).map V.int)) p=some (.ins (af K "Room") cQ (gf sh pl ru ls du)):=by rw[Zc np];exact g1
 have Yk:upd G ad (.lst ((Zl sh s (cL seq gone)++[b]).map V.int)) du=some (.dK kvs):=by rw[Zc LO];exact g2
 refine⟨_,rfl,p,_,cQ,_,_,rfl,JY,T.dQ,T.By,Ex ..,_,rfl,du,_,rfl,lJ.k (k:=Sum.inl b) Yk (Zz (by lia)),?_⟩;refine⟨_,rfl,k gone _ gp ⟨⟨cQ,by rw[Zc o1];exact JY⟩,S2.other _ (avX o3) o5,⟨_,Za,⟨alM (Iv ..) (by have:=g3.1;lia),g3.2.put b _⟩,λx=>?_⟩,Ia R1.nd nb,R.s0,R.s1⟩ λx o e n1 n2=>?_⟩
 .rw [EC];unfold zero;by_cases c:x=b
  .subst c;rw[aYH rfl,aYH (aEt _ (bau.mpr rfl)),aYH rfl]
  .rw [aoK (λz=>c (aIk z)),g4 x,aoK c];by_cases m:x∈cL seq gone
   .rw [aYH m,aYH (aKU _ m)]
   .rw [aoK m,aoK (λz=>(aUH.mp z).elim m λq=>c (bau.mp q))]
 .rw [Zc n1,Zc (λz:x=ad=>n2 (z ▸wZ))];exact s1 _ _ e n1 n2
theorem CV:∀{a b:List Int},a.Nodup->(∀x∈a,x∈b)->a.length<=b.length
 | [],_,_,_=>abf _
 |x ::a,b,nd,h=>by
  have JF:=aE7.mp nd;have mx:=h x aAX;have q:=CV (b:=b.erase x) JF.2 λy hy=>(mem_erase_of_ne (λz:y=x=>JF.1 (by rw[<-z];exact hy))).mpr (h y (aO5 _ hy));rw[List.length_erase_of_mem mx]at q;have:=List.length_pos_of_mem mx;show a.length+1<=b.length;lia
theorem Rw{kvs:List (Key×V)}{seq:List Int}(h:KI kvs)(nd:seq.Nodup)(e:∀b,(aK kvs (Sum.inl b:Key)).isSome=true↔b∈seq):kvs.length=seq.length:=by
 obtain⟨ks,h4,h5⟩:=h;have per:ks.Perm seq:=by
  refine(aOk h5 nd).mpr λb=>?_;rw[<-e b,zM,h4,mem_map];constructor
  .intro m;exact⟨b,m,rfl⟩
  .rintro ⟨x,hx,q⟩;rw[<-aIk q];exact hx
 have l:=aSc List.length h4;rw[aW8,aW8]at l;rw[l,per.length_eq]
theorem az.norm{K:W.Frag}{H:Hp}{p:Addr}{sh pl:Int}{ru:Str}{ls:Addr}{ao:List Addr}{du:Addr}{seq:List Int}{us:Int->Int}{n:Nat}(R:az K H p sh pl ru ls ao du seq us n):az K H p sh pl ru ls ao du seq us seq.length:=by
 obtain⟨kvs,h2,⟨h3,h5⟩,h4⟩:=R.dc;refine⟨R.ob,R.st,⟨kvs,h2,⟨Nat.le_of_eq (Rw h5 R.nd λb=>?_),h5⟩,h4⟩,R.nd,R.s0,R.s1⟩;rw[h4 b];by_cases c:b∈seq
 .simp [c]
 .simp [c]
structure SA where
 sp:Addr
 rp:Addr
 ls:Addr
 ao:List Addr
 du:Addr
 dh:Addr
 df:Addr
structure Cf where
 sh:Int
 pl:Int
 ru:Str
 late:Bool
def bG(rp:Addr)(late:Bool)(dh df:Addr):List (Str×V):=ah "fresh" (.ref df) (ah "held" (.ref dh) (ah "late" (.bl late) (ah "room" (.ref rp) [])))
theorem NV(rp:Addr)(late:Bool)(dh df:Addr):(bG rp late dh df).lookup ("fresh":Str)=some (.ref df):=by
 unfold bG;rw[Zf,aYH rfl]
theorem Kq(rp:Addr)(late:Bool)(dh df:Addr):(bG rp late dh df).lookup ("held":Str)=some (.ref dh):=by
 unfold bG;rw[Zf,aoK (by decide +kernel),Zf,aYH rfl]
theorem Rv(rp:Addr)(late:Bool)(dh df:Addr):(bG rp late dh df).lookup ("late":Str)=some (.bl late):=by
 unfold bG;rw[Zf,aoK (by decide +kernel),Zf,aoK (by decide +kernel),Zf,aYH rfl]
theorem Bm(rp:Addr)(late:Bool)(dh df:Addr):(bG rp late dh df).lookup ("room":Str)=some (.ref rp):=by
 unfold bG;rw[Zf,aoK (by decide +kernel),Zf,aoK (by decide +kernel),Zf,aoK (by decide +kernel),Zf,aYH rfl]
theorem cV(rp:Addr)(late:Bool)(dh df:Addr){m:Str}(h1:¬m ="fresh":=by decide +kernel)(h2:¬m ="held":=by decide +kernel)(h3:¬m ="late":=by decide +kernel)(h4:¬m ="room":=by decide +kernel):(bG rp late dh df).lookup m=none:=by
 unfold bG;rw[Zf,aoK h1,Zf,aoK h2,Zf,aoK h3,Zf,aoK h4];rfl
structure Rm where
 seq:List Int
 us:Int->Int
 wd:Int->List Int
 fr:Int->Bool
def Mt:HO->Prop
 | .lst _=>True
 | .dK _=>True
 | .ins _ _ _=>True
 |_=>False
structure bN(O:Addr->Prop)(H H':Hp)(O':Addr->Prop):Prop where
 kp:∀x o,H x=some o->(O x->¬Mt o)->H' x=some o
 fr:∀x,O' x->O x\/H x=none
theorem bN.trans{O O1 O2:Addr->Prop}{H H1 H2:Hp}(a:bN O H H1 O1)(b:bN O1 H1 H2 O2):bN O H H2 O2:=by
 refine⟨λx o e n=>b.kp x o (a.kp x o e n) λh=>(a.fr x h).elim n (λz=>by rw[e]at z;cases z),λx h=>(b.fr x h).elim (a.fr x) λz=>?_⟩;by_cases c:O x
 .exact .inl c
 .cases q:H x with
  |none=>exact .inr rfl
  |some o=>rw[a.kp x o q λh=>absurd h c]at z;cases z
theorem bN.same{O:Addr->Prop}{H H':Hp}(s:ay H H'):bN O H H' O:=⟨λx o e _=>s x o e,λ_ h=>.inl h⟩
theorem az.frame{K:W.Frag}{H H':Hp}{p:Addr}{sh pl:Int}{ru:Str}{ls:Addr}{ao:List Addr}{du:Addr}{seq:List Int}{us:Int->Int}{n:Nat}(R:az K H p sh pl ru ls ao du seq us n)(h:∀x o,x=p\/x=ls\/x∈ao\/x=du->H x=some o->H' x=some o):az K H' p sh pl ru ls ao du seq us n:=by
 obtain⟨dx,h1⟩:=R.ob;obtain⟨kvs,h2,h3⟩:=R.dc;exact⟨⟨dx,h _ _ (.inl rfl) h1⟩,⟨h _ _ (.inr (.inl rfl)) R.st.top,R.st.len,R.st.nd,R.st.off,λi ad e=>h _ _ (.inr (.inr (.inl (abH e)))) (R.st.at_ i ad e)⟩,⟨kvs,h _ _ (.inr (.inr (.inr rfl))) h2,h3⟩,R.nd,R.s0,R.s1⟩
structure bM(H:Hp)(dh ls:Addr)(ao:List Addr)(O:Addr->Prop)(seq:List Int)(wd:Int->List Int)(kvs:List (Key×V))(wl:Int->Addr):Prop where
 dc:H dh=some (.dK kvs)
 ki:KI kvs
 v:∀b,aK kvs (Sum.inl b:Key)=if b∈seq then some (.ref (wl b)) else none
 at_:∀b∈seq,H (wl b)=some (.lst ((wd b).map V.int))/\O (wl b)/\wl b∉ao/\wl b≠ls
 inj:∀b∈seq,∀c∈seq,wl b=wl c->b=c
structure fY(K:W.Frag)(H:Hp)(a:SA)(c:Cf)(seq:List Int)(us:Int->Int)(O:Addr->Prop):Prop where
 ob:∃dx,H a.sp=some (.ins (af K "Store") dx (bG a.rp c.late a.dh a.df))
 room:az K H a.rp c.sh c.pl c.ru a.ls a.ao a.du seq us seq.length
 d1:∃kvs,H a.dh=some (.dK kvs)
 d2:∃kvs,H a.df=some (.dK kvs)
 n1:a.du≠a.dh
 n2:a.df≠a.dh
 n3:a.df≠a.du
 own:∀x,x=a.sp\/x=a.rp\/x=a.ls\/x∈a.ao\/x=a.du\/x=a.dh\/x=a.df->O x
 ex:∀x,O x->H x≠none
structure av(K:W.Frag)(H:Hp)(a:SA)(c:Cf)(s:Rm)(O:Addr->Prop):Prop where
 aW:fY K H a c s.seq s.us O
 held:∃kvs wl,bM H a.dh a.ls a.ao O s.seq s.wd kvs wl
 fresh:∃kvs,H a.df=some (.dK kvs)/\KI kvs/\∀b,aK kvs (Sum.inl b:Key)=if s.fr b=true then some (.bl true) else none
 zC:∀b,s.fr b=true->b∈s.seq
section
variable{K:W.Frag}{H H':Hp}{a:SA}{c:Cf}{s:Rm}{O O':Addr->Prop}{kvs:List (Key×V)}{wl:Int->Addr}{seq:List Int}{us:Int->Int}
theorem bM.frame{dh ls:Addr}{ao:List Addr}{wd:Int->List Int}(h:bM H dh ls ao O seq wd kvs wl)(hO:O dh)(f:∀x o,O x->H x=some o->H' x=some o):bM H' dh ls ao O seq wd kvs wl:=
 ⟨f _ _ hO h.dc,h.ki,h.v,λb m=>⟨f _ _ (h.at_ b m).2.1 (h.at_ b m).1,(h.at_ b m).2⟩,h.inj⟩
theorem A4{x:Addr}(h:H x≠none)(f:∀o,H x=some o->H' x=some o):H' x≠none:=λz=>by
 cases q:H x with
 |none=>exact h q
 |some o=>rw[f o q]at z;cases z
theorem Ni{x y:Addr}{o:HO}(h:H x≠none):upd H y o x≠none:=by
 by_cases z:x=y
 .rw [z,Za];simp
 .rw [Zc z];exact h
theorem fY.frame(S:fY K H a c seq us O)(f:∀x o,O x->H x=some o->H' x=some o):fY K H' a c seq us O:=by
 obtain⟨dx,h1⟩:=S.ob;obtain⟨k1,h2⟩:=S.d1;obtain⟨k2,h3⟩:=S.d2;exact⟨⟨dx,f _ _ (S.own _ (by simp)) h1⟩,S.room.frame λx o m e=>f x o (S.own x (by rcases m with m|m|m|m <;> simp[m])) e,⟨k1,f _ _ (S.own _ (by simp)) h2⟩,⟨k2,f _ _ (S.own _ (by simp)) h3⟩,S.n1,S.n2,S.n3,S.own,λx h=>A4 (S.ex x h) λo=>f x o h⟩
theorem av.frame(S:av K H a c s O)(f:∀x o,O x->H x=some o->H' x=some o):av K H' a c s O:=by
 obtain⟨kvs,wl,h2⟩:=S.held;obtain⟨kf,h3,h4⟩:=S.fresh;exact⟨S.aW.frame f,⟨kvs,wl,h2.frame (S.aW.own _ (by simp)) f⟩,⟨kf,f _ _ (S.aW.own _ (by simp)) h3,h4⟩,S.zC⟩
theorem av.same(S:av K H a c s O)(h:ay H H'):av K H' a c s O:=S.frame λx o _ e=>h x o e
theorem fY.same(S:fY K H a c seq us O)(h:ay H H'):fY K H' a c seq us O:=S.frame λx o _ e=>h x o e
theorem fY.kinds(S:fY K H a c seq us O){x:Addr}{kvs:List (Key×V)}(h:H x=some (.dK kvs)):x≠a.sp/\x≠a.rp/\x≠a.ls/\x∉a.ao:=by
 obtain⟨dx,h1⟩:=S.ob;obtain⟨dr,h2⟩:=S.room.ob;refine⟨λz=>?_,λz=>?_,λz=>?_,λm=>?_⟩
 .rw [<-z,h]at h1;cases h1
 .rw [<-z,h]at h2;cases h2
 .have q:=S.room.st.top;rw[<-z,h]at q;cases q
 .obtain ⟨xs,e⟩:=S.room.st.one m;rw[h]at e;cases e
theorem fY.put(S:fY K H a c seq us O){x:Addr}(hx:x=a.dh\/x=a.df)(kvs:List (Key×V)):fY K (upd H x (.dK kvs)) a c seq us O:=by
 obtain⟨kx,ex⟩:∃kx,H x=some (.dK kx):=hx.elim (λz=>z ▸S.d1) λz=>z ▸S.d2;obtain⟨q1,q2,q3,q4⟩:=S.kinds ex;have nu:x≠a.du:=hx.elim (λz=>z ▸avX S.n1) λz=>z ▸S.n3;obtain⟨dx,h1⟩:=S.ob;have dd:∀{y},(∃k,H y=some (.dK k))->∃k,upd H x (.dK kvs) y=some (.dK k):=λ{y} h=>by
  by_cases z:y=x
  .rw [z,Za];exact⟨_,rfl⟩
  .rw [Zc z];exact h
 exact⟨⟨dx,by rw[Zc (avX q1)];exact h1⟩,S.room.frame λy o m e=>by
  rw[Zc (λz:y=x=>by subst z;exact m.elim q2 λm=>m.elim q3 λm=>m.elim q4 nu)];exact e,dd S.d1,dd S.d2,S.n1,S.n2,S.n3,S.own,λy h=>Ni (S.ex y h)⟩
theorem fY.mono(S:fY K H a c seq us O)(h1:∀x,x=a.sp\/x=a.rp\/x=a.ls\/x∈a.ao\/x=a.du\/x=a.dh\/x=a.df->O' x)(h2:∀x,O' x->H x≠none):fY K H a c seq us O':=⟨S.ob,S.room,S.d1,S.d2,S.n1,S.n2,S.n3,h1,h2⟩
theorem fY.iQ{seq':List Int}{us':Int->Int}{n:Nat}(S:fY K H a c seq us O)(R:az K H' a.rp c.sh c.pl c.ru a.ls a.ao a.du seq' us' n)(r:SR a.ao a.du H H'):fY K H' a c seq' us' O:=by
 obtain⟨dx,h1⟩:=S.ob;obtain⟨k1,h2⟩:=S.d1;obtain⟨k2,h3⟩:=S.d2;refine⟨⟨dx,r.keep S.room h1 (λ_ z=>by cases z) (λ_ z=>by cases z)⟩,R.norm,⟨k1,r _ _ h2 (avX S.n1) (S.kinds h2).2.2.2⟩,⟨k2,r _ _ h3 S.n3 (S.kinds h3).2.2.2⟩,S.n1,S.n2,S.n3,S.own,λx h=>?_⟩;by_cases z:x=a.du
 .obtain ⟨kv,e,_⟩:=R.dc;rw[z,e];simp
 .by_cases m:x∈a.ao
  .obtain ⟨xs,e⟩:=R.st.one m;rw[e];simp
  .exact A4 (S.ex x h) λo e=>r x o e z m
theorem fY.cK(S:fY K H a c seq us O)(r:SR a.ao a.du H H'):bN O H H' O:=by
 refine⟨λx o e n=>r x o e (λz=>?_) λm=>?_,λ_ h=>.inl h⟩
 .obtain ⟨kv,q,_⟩:=S.room.dc;rw[z,q]at e;cases e;exact n (S.own x (by simp[z])) trivial
 .obtain ⟨xs,q⟩:=S.room.st.one m;rw[q]at e;cases e;exact n (S.own x (by simp[m])) trivial
theorem fY.My{wd:Int->List Int}{seq':List Int}(S:fY K H a c seq us O)(h:bM H a.dh a.ls a.ao O seq' wd kvs wl)(r:SR a.ao a.du H H'):bM H' a.dh a.ls a.ao O seq' wd kvs wl:=by
 obtain⟨kr,g,_⟩:=S.room.dc;exact⟨r _ _ h.dc (avX S.n1) (S.kinds h.dc).2.2.2,h.ki,h.v,λx m=>⟨r _ _ (h.at_ x m).1 (λz=>by have e:=(h.at_ x m).1;rw[z,g]at e;cases e) (h.at_ x m).2.2.1,(h.at_ x m).2⟩,h.inj⟩
theorem bM.seqs{dh ls:Addr}{ao:List Addr}{seq':List Int}{wd:Int->List Int}(h:bM H dh ls ao O seq wd kvs wl)(hs:∀b,b∈seq'↔b∈seq):bM H dh ls ao O seq' wd kvs wl:=
 ⟨h.dc,h.ki,λb=>by rw[h.v b];exact ite_congr (propext (hs b).symm) (λ_=>rfl) λ_=>rfl,λb m=>h.at_ b ((hs b).mp m),λb m c m'=>h.inj b ((hs b).mp m) c ((hs c).mp m')⟩
theorem av.iQ{seq':List Int}{us':Int->Int}{n:Nat}(S:av K H a c s O)(R:az K H' a.rp c.sh c.pl c.ru a.ls a.ao a.du seq' us' n)(r:SR a.ao a.du H H')(hs:∀b,b∈seq'↔b∈s.seq):av K H' a c ⟨seq',us',s.wd,s.fr⟩ O:=by
 obtain⟨kvs,wl,h2⟩:=S.held;obtain⟨kf,h3,h4⟩:=S.fresh;exact⟨S.aW.iQ R r,⟨kvs,wl,(S.aW.My h2 r).seqs hs⟩,⟨kf,r _ _ h3 S.aW.n3 (S.aW.kinds h3).2.2.2,h4⟩,λb h=>(hs b).mpr (S.zC b h)⟩
theorem fY.yS(S:fY K H a c seq us O){x:Addr}(hx:x=a.dh\/x=a.df)(kvs:List (Key×V)):bN O H (upd H x (.dK kvs)) O:=by
 refine⟨λy o e n=>?_,λ_ h=>.inl h⟩;rw[Zc (λz=>?_)]
 .exact e
 obtain⟨kx,ex⟩:∃kx,H x=some (.dK kx):=hx.elim (λz=>z ▸S.d1) λz=>z ▸S.d2;rw[z,ex]at e;cases e;exact n (S.own y (by rw[z];rcases hx with h|h <;> simp[h])) trivial
theorem bM.put{dh ls:Addr}{ao:List Addr}{seq':List Int}{wd:Int->List Int}(h:bM H dh ls ao O seq wd kvs wl){b:Int}{l:Addr}(ws:List Int)(hl:H l=none)(ex:∀x,O x->H x≠none)(na:∀x∈ao,H x≠none)(nl:H ls≠none)(hs:∀x,x∈seq'↔x=b\/x∈seq) :
  bM (upd (upd H l (.lst (ws.map V.int))) dh (.dK (putK kvs (Sum.inl b) (.ref l)))) dh ls ao (λx=>O x\/x=l) seq' (λx=>if x=b then ws else wd x) (putK kvs (Sum.inl b) (.ref l)) (λx=>if x=b then l else wl x):=by
 have nd:l≠dh:=λz=>by rw[z,h.dc]at hl;cases hl
 have nw:∀x∈seq,wl x≠l:=λx m z=>by have q:=(h.at_ x m).1;rw[z,hl]at q;cases q
 have md:∀x,x∈seq'->x≠b->x∈seq:=λx m n=>((hs x).mp m).resolve_left n;refine⟨Za,h.ki.put b _,λx=>?_,λx m=>?_,λx m y m' e=>?_⟩
 .rw [EC];by_cases z:x=b
  .rw [aYH (by rw[z]),aYH ((hs x).mpr (.inl z)),aYH z]
  .rw [aoK (λq=>z (aIk q)),h.v x,aoK z];exact ite_congr (propext ⟨λm=>(hs x).mpr (.inr m),λm=>md x m z⟩) (λ_=>rfl) λ_=>rfl
 .by_cases z:x=b
  .rw [aYH z,aYH z,Zc nd,Za];exact⟨rfl,.inr rfl,λm=>na l m hl,λq=>nl (q ▸hl)⟩
  .rw [aoK z,aoK z];obtain⟨e1,e2,e3,e4⟩:=h.at_ x (md x m z);exact⟨by rw[Zc (λq=>by rw[q,h.dc]at e1;cases e1),Zc (nw x (md x m z))];exact e1,.inl e2,e3,e4⟩
 .by_cases z:x=b
  .by_cases z':y=b
   .rw [z,z']
   .rw [aYH z,aoK z']at e;exact absurd e.symm (nw y (md y m' z'))
  .by_cases z':y=b
   .rw [aoK z,aYH z']at e;exact absurd e (nw x (md x m z))
   .rw [aoK z,aoK z']at e;exact h.inj x (md x m z) y (md y m' z') e
theorem av.mK(S:av K H a c s O)(h:bM H a.dh a.ls a.ao O s.seq s.wd kvs wl):kvs.length=s.seq.length:=by
 refine Rw h.ki S.aW.room.nd λb=>?_;rw[h.v b];by_cases m:b∈s.seq
 .simp [m]
 .simp [m]
theorem av.Yo{kf:List (Key×V)}(S:av K H a c s O)(h:KI kf)(v:∀b,aK kf (Sum.inl b:Key)=if s.fr b=true then some (.bl true) else none):kf.length<=s.seq.length:=by
 obtain⟨ks,e,nd⟩:=h;have l:=aSc List.length e;rw[aW8,aW8]at l;rw[l];refine CV nd λb m=>S.zC b ?_;have q:=zM (kvs:=kf) (Sum.inl b);rw[v b,e]at q;have:=q.mpr (bax m);by_cases z:s.fr b=true
 .exact z
 .rw [aoK z]at this;cases this
end
section
variable{K:W.Frag}{H H':Hp}{a:SA}{c:Cf}{s:Rm}{O O':Addr->Prop}{kvs:List (Key×V)}{wl:Int->Addr}{seq:List Int}{us:Int->Int}
theorem fY.laid{wd:Int->List Int}{FE seq':List Int}{b:Int}{l:Addr}(S:fY K H a c seq us O)(h:bM H a.dh a.ls a.ao O FE wd kvs wl)(ws:List Int)(hl:H l=none)(hs:∀x,x∈seq'↔x=b\/x∈FE) :
  (fY K (upd (upd H l (.lst (ws.map V.int))) a.dh (.dK (putK kvs (Sum.inl b) (.ref l)))) a c seq us (λx=>O x\/x=l)/\bM (upd (upd H l (.lst (ws.map V.int))) a.dh (.dK (putK kvs (Sum.inl b) (.ref l)))) a.dh a.ls a.ao (λx=>O x\/x=l) seq' (λx=>if x=b then ws else wd x) (putK kvs (Sum.inl b) (.ref l)) (λx=>if x=b then l else wl x)) /\
   bN O H (upd (upd H l (.lst (ws.map V.int))) a.dh (.dK (putK kvs (Sum.inl b) (.ref l)))) (λx=>O x\/x=l):=by
 have sm:=Zg hl (.lst (ws.map V.int));have S1:=S.same sm;refine⟨⟨((S1.put (x:=a.dh) (.inl rfl) _).mono (λx m=>.inl (S.own x m)) λx m=>Ni ?_),h.put ws hl S.ex (λx m=>S.ex x (S.own x (by simp[m]))) (S.ex _ (S.own _ (by simp))) hs⟩,?_⟩
 .rcases m with m|m
  .exact S1.ex x m
  .rw [m,Za];simp
 .have p:=(bN.same sm).trans (S1.yS (x:=a.dh) (.inl rfl) (putK kvs (Sum.inl b) (.ref l)));exact⟨p.kp,λx m=>m.elim .inl λz=>.inr (by rw[z];exact hl)⟩
theorem bM.pop{wd:Int->List Int}{b:Int}(h:bM H a.dh a.ls a.ao O seq wd kvs wl)(nn:seq.Nodup)(hb:b∈seq)(S:fY K H a c (seq.erase b) us O):bM (upd H a.dh (.dK (aT kvs (Sum.inl b)))) a.dh a.ls a.ao (λx=>O x/\x≠wl b) (seq.erase b) wd (aT kvs (Sum.inl b)) wl:=by
 have mm:∀{x},x∈seq.erase b->x≠b/\x∈seq:=λ{x} m=>(aDB nn).mp m;refine⟨Za,h.ki.drop b,λx=>?_,λx m=>?_,λx m y m'=>h.inj x (mm m).2 y (mm m').2⟩
 .rw [KN];by_cases z:x=b
  .rw [aYH (by rw[z]),aoK (λm=>(mm m).1 z)]
  .rw [aoK (λq=>z (aIk q)),h.v x];exact ite_congr (propext ⟨λm=>(aDB nn).mpr ⟨z,m⟩,λm=>(mm m).2⟩) (λ_=>rfl) λ_=>rfl
 .obtain ⟨e1,e2,e3,e4⟩:=h.at_ x (mm m).2;exact⟨by rw[Zc (λz=>by rw[z,h.dc]at e1;cases e1)];exact e1,⟨e2,λz=>(mm m).1 (h.inj x (mm m).2 b hb z)⟩,e3,e4⟩
end
def o8:Rm:=⟨[],λ_=>0,λ_=>[],λ_=>false⟩
inductive sU(K:W.Frag)(vs:List V)(H:Hp)(Q:VK)(E:XK):Prop
 |mk (p dx tp:Addr) (sh pl:Int) (ru wr:Str):vs=[.ref p,.ref tp]->H p=some (.ins (af K "Store") dx [])->aX K H tp [.int sh,.int pl,.str ru,.str wr]->1<=sh->sh<=64->(∀(a:SA)(H':Hp),a.sp=p->av K H' a ⟨sh,pl,ru,decide (wr ="late")⟩ o8 (λx=>x=p\/(H x=none/\H' x≠none))->(∀b o,H b=some o->b≠p->H' b=some o)->Q .aQ H')->sU K vs H Q E
example:(mj GC Gz):=by
 obtain ⟨p,dx,tp,sh,pl,ru,wr,rfl,hp,htp,s0,s1,k⟩:=h;refine⟨_,(Zd (se (pv 1) (ZT (K:=K) (n:=4) rfl rfl (Zq (bY 2 nd) (Zq (bY 3 nd) (Zq (bY 4 nd) (Zq (bY 5 nd) ZS))))))
   (Zd (pM (pv 0) (Ip Gz hr.m rfl (pc (pv 2) (pc (pv 3) (pc (pv 4) Zb)))) rfl)
   (Zd (pM (pv 0) (xQ aY (pv 5) ZV (Zu _)) rfl)
   (Zd (pM (pv 0) EB rfl)
   (Zh (pM (pv 0) EB rfl)))))),?_⟩
 refine⟨_,rfl,tp,_,rfl,htp,rfl,_,_,rfl,gN ⟨_,_,rfl,gN ⟨_,_,rfl,gN ⟨_,_,rfl,gN ⟨rfl,?_⟩⟩⟩⟩⟩;try dsimp only
 refine⟨_,rfl,_,rfl,_,rfl,λrp rx GW PD nrx=>⟨rp,rx,sh,pl,ru,rfl,Za,s0,s1,λls ao du H1 R1 f1 f2 f3 k1=>⟨rfl,?_⟩⟩⟩;have WN:p≠rp:=Ze hp GW;have Pu:∀x o,H x=some o->H1 x=some o:=λx o e=>k1 x o (by rw[Zc (Ze e GW),Zc (Ze e PD)];exact e) (Ze e GW);have fr:∀x,upd (upd H rx (.own rp)) rp (.ins (af K "Room") rx []) x=none->H x=none:=λx e=>by
  cases q:H x with
  |none=>rfl
  |some o=>rw[Zc (Ze q GW),Zc (Ze q PD),q]at e;cases e
 have f1:=fr _ f1;have f2:=fr _ f2;have f3:∀ad∈ao,H ad=none:=λad m=>fr _ (f3 ad m);have h1:=Pu _ _ hp;refine⟨_,rfl,p,_,dx,_,rfl,h1,T.fH,T.yQ,(by show 0<1000;decide),?_⟩;obtain⟨o1,o2,o3,o4,o5,o6⟩:=R1.off;have q1:p≠ls:=λz=>by rw[z,R1.st.top]at h1;cases h1
 have q2:p≠du:=λz=>by obtain⟨kv,g,_⟩:=R1.dc;rw[z,g]at h1;cases h1
 have q3:p∉ao:=λz=>by obtain⟨xs,g⟩:=R1.st.one z;rw[g]at h1;cases h1
 have put:∀{G:Hp}{o:HO},az K G rp sh pl ru ls ao du [] (λ_=>0) 0->az K (upd G p o) rp sh pl ru ls ao du [] (λ_=>0) 0:=λ{G o} R=>by
  obtain⟨yl,e1⟩:=R.ob;obtain⟨kv,e2,e3⟩:=R.dc;exact⟨⟨yl,by rw[Zc (avX WN)];exact e1⟩,R.st.other o q1 q3,⟨kv,by rw[Zc (avX q2)];exact e2,e3⟩,R.nd,R.s0,R.s1⟩
 have R2:=put (o:=.ins (af K "Store") dx (ah "room" (.ref rp) [])) R1;have e2:upd H1 p (.ins (af K "Store") dx (ah "room" (.ref rp) [])) p=some (.ins (af K "Store") dx (ah "room" (.ref rp) [])):=Za;have k2:∀x o,H x=some o->x≠p->upd H1 p (.ins (af K "Store") dx (ah "room" (.ref rp) [])) x=some o:=λx o e n=>by rw[Zc n];exact Pu x o e
 generalize upd H1 p (.ins (af K "Store") dx (ah "room" (.ref rp) []))=H2 at *;refine⟨_,rfl,rfl,_,rfl,p,_,dx,_,rfl,e2,T.fH,T.L5,(by show 1<1000;decide),?_⟩;have el:decide (V.str wr=V.str "late")=decide (wr ="late"):=decide_eq_decide.mpr ⟨λe=>by injection e,λe=>by rw[e]⟩;rw[el];have R3:=put (o:=.ins (af K "Store") dx (ah "late" (.bl (decide (wr ="late"))) (ah "room" (.ref rp) []))) R2;have e3:upd H2 p (.ins (af K "Store") dx (ah "late" (.bl (decide (wr ="late"))) (ah "room" (.ref rp) []))) p=some (.ins (af K "Store") dx (ah "late" (.bl (decide (wr ="late"))) (ah "room" (.ref rp) []))):=Za;have k3:∀x o,H x=some o->x≠p->upd H2 p (.ins (af K "Store") dx (ah "late" (.bl (decide (wr ="late"))) (ah "room" (.ref rp) []))) x=some o:=λx o e n=>by rw[Zc n];exact k2 x o e n
 generalize upd H2 p (.ins (af K "Store") dx (ah "late" (.bl (decide (wr ="late"))) (ah "room" (.ref rp) [])))=H3 at *;refine λdh Ef=>?_;have nh:p≠dh:=Ze e3 Ef;refine⟨_,rfl,p,_,dx,_,rfl,(by rw[Zc nh];exact e3),T.fH,T.E5,(by show 2<1000;decide),?_⟩;have R4:=put (o:=.ins (af K "Store") dx (ah "held" (.ref dh) (ah "late" (.bl (decide (wr ="late"))) (ah "room" (.ref rp) [])))) (R3.same (Zg Ef (.dK [])));have e4:upd (upd H3 dh (.dK [])) p (.ins (af K "Store") dx (ah "held" (.ref dh) (ah "late" (.bl (decide (wr ="late"))) (ah "room" (.ref rp) [])))) p=some (.ins (af K "Store") dx (ah "held" (.ref dh) (ah "late" (.bl (decide (wr ="late"))) (ah "room" (.ref rp) [])))):=Za;have d4:upd (upd H3 dh (.dK [])) p (.ins (af K "Store") dx (ah "held" (.ref dh) (ah "late" (.bl (decide (wr ="late"))) (ah "room" (.ref rp) [])))) dh=some (.dK []):=by rw[Zc (avX nh)];exact Za
 have Qp:H dh=none:=by
  cases q:H dh with
  |none=>rfl
  |some o=>rw[k3 dh o q (avX nh)]at Ef;cases Ef
 have k4:∀x o,H x=some o->x≠p->upd (upd H3 dh (.dK [])) p (.ins (af K "Store") dx (ah "held" (.ref dh) (ah "late" (.bl (decide (wr ="late"))) (ah "room" (.ref rp) [])))) x=some o:=λx o e n=>by rw[Zc n,Zc (λz:x=dh=>by rw[z,Qp]at e;cases e)];exact k3 x o e n
 generalize upd (upd H3 dh (.dK [])) p (.ins (af K "Store") dx (ah "held" (.ref dh) (ah "late" (.bl (decide (wr ="late"))) (ah "room" (.ref rp) []))))=H4 at *;refine λdf hdf=>?_;have nf:p≠df:=Ze e4 hdf;refine⟨_,rfl,p,_,dx,_,rfl,(by rw[Zc nf];exact e4),T.fH,T.Jd,(by show 3<1000;decide),?_⟩;have Qq:H df=none:=by
  cases q:H df with
  |none=>rfl
  |some o=>rw[k4 df o q (avX nf)]at hdf;cases hdf
 have Pa:dh≠df:=λz=>by rw[<-z,d4]at hdf;cases hdf
 obtain⟨kv,g,_⟩:=R3.dc;obtain⟨kv4,g4,_⟩:=R4.dc;have R5:=put (o:=.ins (af K "Store") dx (bG rp (decide (wr ="late")) dh df)) (R4.same (Zg hdf (.dK [])));have e5:upd (upd H4 df (.dK [])) p (.ins (af K "Store") dx (bG rp (decide (wr ="late")) dh df)) p=some (.ins (af K "Store") dx (bG rp (decide (wr ="late")) dh df)):=Za;have d5:upd (upd H4 df (.dK [])) p (.ins (af K "Store") dx (bG rp (decide (wr ="late")) dh df)) dh=some (.dK []):=by rw[Zc (avX nh),Zc Pa];exact d4
 have f5:upd (upd H4 df (.dK [])) p (.ins (af K "Store") dx (bG rp (decide (wr ="late")) dh df)) df=some (.dK []):=by rw[Zc (avX nf)];exact Za
 have k5:∀x o,H x=some o->x≠p->upd (upd H4 df (.dK [])) p (.ins (af K "Store") dx (bG rp (decide (wr ="late")) dh df)) x=some o:=λx o e n=>by rw[Zc n,Zc (λz:x=df=>by rw[z,Qq]at e;cases e)];exact k4 x o e n
 change Q .aQ (upd (upd H4 df (.dK [])) p (.ins (af K "Store") dx (bG rp (decide (wr ="late")) dh df)));generalize upd (upd H4 df (.dK [])) p (.ins (af K "Store") dx (bG rp (decide (wr ="late")) dh df))=H5 at *;refine k ⟨p,rp,ls,ao,du,dh,df⟩ _ rfl ⟨⟨⟨dx,e5⟩,R5,⟨_,d5⟩,⟨_,f5⟩,λz=>?_,avX Pa,λz=>?_,λx hx=>?_,λx hx=>?_⟩,⟨[],λ_=>p,d5,KI.nil,λ_=>rfl,(λb m=>absurd m (by simp[o8])),λb m=>absurd m (by simp[o8])⟩,⟨[],f5,KI.nil,λ_=>rfl⟩,λb h=>by cases h⟩ k5
 .have z:du=dh:=z;rw[<-z,g]at Ef;cases Ef
 .have z:df=du:=z;rw[z,g4]at hdf;cases hdf
 .obtain ⟨dr5,r5⟩:=R5.ob;obtain⟨ku5,u5,_⟩:=R5.dc;rcases hx with rfl|rfl|rfl|hx|rfl|rfl|rfl
  .exact .inl rfl
  .exact .inr ⟨GW,by rw[r5];simp⟩
  .exact .inr ⟨f1,by rw[R5.st.top];simp⟩
  .obtain ⟨xs,q⟩:=R5.st.one hx;exact .inr ⟨f3 x hx,by rw[q];simp⟩
  .exact .inr ⟨f2,by rw[u5];simp⟩
  .exact .inr ⟨Qp,by rw[d5];simp⟩
  .exact .inr ⟨Qq,by rw[f5];simp⟩
 .rcases hx with rfl|hx
  .rw [e5];simp
  .exact hx.2
inductive vN(K:W.Frag)(vs:List V)(H:Hp)(Q:VK)(E:XK):Prop
 |mk (a:SA) (c:Cf) (s:Rm) (O:Addr->Prop) (b:Int):vs=[.ref a.sp,.int b]->av K H a c s O->Q (.bl (decide (b∈s.seq))) H->vN K vs H Q E
example:(oA wD wJ):=by
 obtain⟨a,c,s,O,b,rfl,S,k⟩:=h;refine⟨_,(Zh (Zp (Zj wJ hr.m T.dQ (Zk (K:=K) rfl (pv 0) rfl) (pc (pv 1) Zb)))),?_⟩;obtain⟨dx,h1⟩:=S.aW.ob;obtain⟨dr,h2⟩:=S.aW.room.ob;exact⟨_,rfl,a.sp,_,dx,_,_,rfl,h1,T.fH,T.yQ,Bm ..,a.rp,dr,_,rfl,h2,bJ ..,_,rfl,a.rp,b,c.sh,c.pl,c.ru,a.ls,a.ao,a.du,s.seq,s.us,_,rfl,S.aW.room,k⟩
inductive Ar(K:W.Frag)(vs:List V)(H:Hp)(Q:VK)(E:XK):Prop
 |mk (p dx rp dh df:Addr) (late:Bool) (kvs:List (Key×V)) (b:Int) (lw:Addr) (zs:List V):vs=[.ref p,.int b,.ref lw]->H p=some (.ins (af K "Store") dx (bG rp late dh df))->H dh=some (.dK kvs)->kvs.length<=900->H lw=some (.lst zs)->(∀l,H l=none->Q .aQ (upd (upd H l (.lst zs)) dh (.dK (putK kvs (Sum.inl b) (.ref l)))))->Ar K vs H Q E
example:(ow Ag):=by
 obtain⟨p,dx,rp,dh,df,late,kvs,b,lw,zs,rfl,hp,hd,hl,hw,k⟩:=h;refine⟨_,(Zh (Ib hu (Zk (K:=K) rfl (pv 0) rfl) (pv 1) (ZW (KW (K:=K) rfl) rfl T.vG ZQ (pc (pv 2) Zb)) rfl)),?_⟩;refine⟨_,rfl,lw,_,rfl,.inl (aB.of hw),λl hl'=>?_⟩;have s1:=Zg hl' (.lst zs);exact⟨_,rfl,p,_,dx,_,_,rfl,s1 _ _ hp,T.fH,T.E5,Kq ..,_,rfl,dh,_,rfl,lJ.k (k:=Sum.inl b) (s1 _ _ hd) (Zz (by lia)),k l hl'⟩
def AU(s:Rm)(b:Int)(ws:List Int):Rm:=⟨s.seq++[b],zero s.us b,λx=>if x=b then ws else s.wd x,s.fr⟩
def jC(s:Rm)(b:Int):Rm:=⟨s.seq.erase b,s.us,s.wd,λx=>if x=b then false else s.fr x⟩
def dY(s:Rm)(b:Int)(ws:List Int):Rm:=⟨s.seq,s.us,λx=>if x=b then ws else s.wd x,s.fr⟩
def A2(s:Rm)(b:Int):Rm:=⟨s.seq,s.us,s.wd,λx=>if x=b then true else s.fr x⟩
inductive pT(K:W.Frag)(vs:List V)(H:Hp)(Q:VK)(E:XK):Prop
 |mk (a:SA) (c:Cf) (s:Rm) (O:Addr->Prop) (b:Int) (lw:Addr) (ws:List Int):vs=[.ref a.sp,.int b,.ref lw]->av K H a c s O->Tb K H->H lw=some (.lst (ws.map V.int))->(¬O lw)->b∉s.seq->s.seq.length<=800->1<=c.pl->c.pl<=16->((Zl c.sh (b%c.sh) s.seq).length:Int)<c.pl->(∀H' O',av K H' a c (AU s b ws) O'->bN O H H' O'->Q .aQ H')->pT K vs H Q E
example:(iJ ET E9 Ag):=by
 obtain ⟨a,c,s,O,b,lw,ws,rfl,S,tb,lO,hO,hb,hsl,hpl,XF,hsh,k⟩:=h;refine⟨_,(Zd (Zn (Zj E9 hr.m T.dQ (Zk (K:=K) rfl (pv 0) rfl) (pc (pv 1) Zb)))
   (Zh (Zn (Zj Ag hr.m T.fH (pv 0) (pc (pv 1) (pc (pv 2) Zb)))))),?_⟩
 obtain⟨dx,h1⟩:=S.aW.ob;obtain⟨dr,h2⟩:=S.aW.room.ob;refine⟨_,rfl,a.sp,_,dx,_,_,rfl,h1,T.fH,T.yQ,Bm ..,a.rp,dr,_,rfl,h2,bJ ..,_,rfl,a.rp,b,c.sh,c.pl,c.ru,a.ls,a.ao,a.du,s.seq,s.us,_,rfl,S.aW.room,tb,by lia,hb,hpl,by lia,λgone G gp R1 r1=>?_⟩;obtain rfl:gone=none:=gp.1 hsh;obtain⟨kvs,wl,h3⟩:=S.held;obtain⟨kf,h4,h5⟩:=S.fresh;have kl:=S.mK h3;have p1:=S.aW.cK r1;have h3:=S.aW.My h3 r1;have h4:=r1 _ _ h4 S.aW.n3 (S.aW.kinds h4).2.2.2;have S1:=S.aW.iQ R1 r1;obtain⟨dx,h1⟩:=S1.ob;refine⟨_,rfl,a.sp,dx,_,rfl,h1,cV ..,_,rfl,_,rfl,a.sp,dx,a.rp,a.dh,a.df,c.late,kvs,b,lw,_,rfl,h1,h3.dc,by lia,p1.kp _ _ lO (λh=>absurd h hO),λl hl=>?_⟩;obtain⟨S2,p2⟩:=S1.laid h3 ws hl (seq':=s.seq++[b]) (b:=b) (λx=>by rw[mem_append,mem_singleton];exact Or.comm);exact k _ _ ⟨S2.1,⟨_,_,S2.2⟩,⟨kf,by rw[Zc S.aW.n2];exact Zg hl _ _ _ h4,h5⟩,λx h=>aKU _ (S.zC x h)⟩ (p1.trans p2)
inductive ni(K:W.Frag)(vs:List V)(H:Hp)(Q:VK)(E:XK):Prop
 |mk (a:SA) (c:Cf) (s:Rm) (O:Addr->Prop) (b:Int):vs=[.ref a.sp,.int b]->av K H a c s O->b∈s.seq->(∀(t l:Addr)(H':Hp)(O':Addr->Prop),H' t=some (.tup [.ref l,.bl (s.fr b)])->H' l=some (.lst ((s.wd b).map V.int))->¬O' l->av K H' a c (jC s b) O'->bN O H H' O'->(O l\/H l=none)->Q (.ref t) H')->ni K vs H Q E
example:(gT EX Ah):=by
 obtain ⟨a,c,s,O,b,rfl,S,hb,k⟩:=h;refine⟨_,(Zd (Zn (Zj Ah hr.m T.dQ (Zk (K:=K) rfl (pv 0) rfl) (pc (pv 1) Zb)))
   (Zh (Zp (qS (pc (Th (Zk (K:=K) rfl (pv 0) rfl) (pv 1) ⟨rfl,rfl,rfl,rfl⟩) (pc (Tg (Zk (K:=K) rfl (pv 0) rfl) (pv 1) dR ⟨rfl,rfl,rfl,rfl⟩) Zb)))))),?_⟩
 obtain⟨dx,h1⟩:=S.aW.ob;obtain⟨dr,h2⟩:=S.aW.room.ob;refine⟨_,rfl,a.sp,_,dx,_,_,rfl,h1,T.fH,T.yQ,Bm ..,a.rp,dr,_,rfl,h2,bJ ..,_,rfl,a.rp,b,c.sh,c.pl,c.ru,a.ls,a.ao,a.du,s.seq,s.us,_,rfl,S.aW.room,hb,λG R1 r1=>?_⟩;obtain⟨kvs,wl,h3⟩:=S.held;obtain⟨kf,h4,h5,h6⟩:=S.fresh;have p1:=S.aW.cK r1;have h3:=S.aW.My h3 r1;have h4:=r1 _ _ h4 S.aW.n3 (S.aW.kinds h4).2.2.2;have S1:=S.aW.iQ R1 r1;obtain⟨dx,h1⟩:=S1.ob;have vb:=h3.v b;rw[aYH hb]at vb;obtain⟨w1,w2,w3,w4⟩:=h3.at_ b hb;refine⟨_,rfl,a.sp,_,dx,_,_,rfl,h1,T.fH,T.E5,Kq ..,a.dh,rfl,.inl ⟨_,.inl h3.dc⟩,_,rfl,kvs,Sum.inl b,_,h3.dc,rfl,vb,?_⟩;have nn:s.seq.Nodup:=S.aW.room.nd;have H3:=h3.pop nn hb S1;have S2:=S1.put (x:=a.dh) (.inl rfl) (aT kvs (Sum.inl b));have p2:=p1.trans (S1.yS (x:=a.dh) (.inl rfl) (aT kvs (Sum.inl b)));have h4:upd G a.dh (.dK (aT kvs (Sum.inl b))) a.df=some (.dK kf):=by rw[Zc S.aW.n2];exact h4
 have w1:upd G a.dh (.dK (aT kvs (Sum.inl b))) (wl b)=some (.lst ((s.wd b).map V.int)):=by rw[Zc (λz=>by rw[z,h3.dc]at w1;cases w1)];exact w1
 generalize upd G a.dh (.dK (aT kvs (Sum.inl b)))=G2 at *;obtain⟨dx,h1⟩:=S2.ob;have fin:∀(G3:Hp)(Gu:List (Key×V)),fY K G3 a c (s.seq.erase b) s.us O->bN O H G3 O->bM G3 a.dh a.ls a.ao (λx=>O x/\x≠wl b) (s.seq.erase b) s.wd (aT kvs (Sum.inl b)) wl->G3 a.df=some (.dK Gu)->KI Gu->(∀x,aK Gu (Sum.inl x:Key)=if(jC s b).fr x=true then some (.bl true) else none)->G3 (wl b)=some (.lst ((s.wd b).map V.int)) ->
   2<=sizeLine/\∀t,G3 t=none->Q (.ref t) (upd G3 t (.tup [.ref (wl b),.bl (s.fr b)])):=λG3 Gu S3 p3 h3' e1 e2 e3 e4=>by
  refine⟨by decide,λt ht=>?_⟩;have sm:=Zg ht (.tup [.ref (wl b),.bl (s.fr b)]);have core:∀x,x=a.sp\/x=a.rp\/x=a.ls\/x∈a.ao\/x=a.du\/x=a.dh\/x=a.df->O x/\x≠wl b:=λx m=>⟨S3.own x m,λz=>by
   subst z;rcases m with m|m|m|m|m|m|m
   .obtain ⟨d,q⟩:=S3.ob;rw[<-m,e4]at q;cases q
   .obtain ⟨d,q⟩:=S3.room.ob;rw[<-m,e4]at q;cases q
   .exact w4 m
   .exact w3 m
   .obtain ⟨d,q,_⟩:=S3.room.dc;rw[<-m,e4]at q;cases q
   .obtain ⟨d,q⟩:=S3.d1;rw[<-m,e4]at q;cases q
   .rw [<-m,e4]at e1;cases e1⟩
  have S4:=(S3.mono core λx h=>S3.ex x h.1).same sm;refine k t (wl b) _ (λx=>O x/\x≠wl b) Za (sm _ _ e4) (λh=>h.2 rfl) ⟨S4,⟨_,_,h3'.frame (core _ (by simp)) λx o _ e=>sm x o e⟩,⟨Gu,sm _ _ e1,e2,e3⟩,λx h=>?_⟩ ⟨λx o e n=>sm _ _ (p3.kp x o e n),λx h=>.inl h.1⟩ (.inl w2);have h:(if x=b then false else s.fr x)=true:=h;by_cases z:x=b
  .rw [aYH z]at h;cases h
  .rw [aoK z]at h;exact(aDB nn).mpr ⟨z,S.zC x h⟩
 refine⟨_,rfl,a.sp,_,dx,_,_,rfl,h1,T.fH,T.Jd,NV ..,a.df,rfl,.inl ⟨_,.inl h4⟩,_,rfl,kf,Sum.inl b,h4,rfl,λv hv=>?_,λhv=>?_⟩
 .have hf:s.fr b=true:=by
   by_cases z:s.fr b=true
   .exact z
   .rw [h6 b,aoK z]at hv;cases hv
  rw[h6 b,aYH hf]at hv;cases hv;have S3:=S2.put (x:=a.df) (.inr rfl) (aT kf (Sum.inl b));have fin:=fin _ (aT kf (Sum.inl b)) S3 (p2.trans (S2.yS (x:=a.df) (.inr rfl) _)) ⟨by rw[Zc (avX S.aW.n2)];exact H3.dc,H3.ki,H3.v,λx m=>⟨by rw[Zc (λz=>by have q:=(H3.at_ x m).1;rw[z,h4]at q;cases q)];exact(H3.at_ x m).1,(H3.at_ x m).2⟩,H3.inj⟩ Za (h5.drop b) (λx=>?_) (by rw[Zc (λz=>by rw[z,h4]at w1;cases w1)];exact w1)
  .rw [hf]at fin;exact fin
  .rw [KN];by_cases z:x=b
   .rw [aYH (by rw[z])];unfold jC;simp[z]
   .rw [aoK (λq=>z (aIk q)),h6 x];unfold jC;simp[z]
 .have hf:s.fr b=false:=by
   cases z:s.fr b with
   |false=>rfl
   |true=>rw[h6 b,aYH z]at hv;cases hv
  have fin:=fin _ kf S2 p2 H3 h4 h5 (λx=>?_) w1
  .rw [hf]at fin;exact fin
  .rw [h6 x];unfold jC;by_cases z:x=b
   .simp [z,hf]
   .simp [z]
inductive mZ(K:W.Frag)(vs:List V)(H:Hp)(Q:VK)(E:XK):Prop
 |mk (a:SA) (c:Cf) (s:Rm) (O:Addr->Prop) (b:Int):vs=[.ref a.sp,.int b]->av K H a c s O->b∈s.seq->(∀l,H l=none->Q (.ref l) (upd H l (.lst ((s.wd b).map V.int))))->mZ K vs H Q E
example:(gR wI wF):=by
 obtain ⟨a,c,s,O,b,rfl,S,hb,k⟩:=h;refine⟨_,(Zd (Zn (Zj wF hr.m T.dQ (Zk (K:=K) rfl (pv 0) rfl) (pc (pv 1) Zb)))
   (Zh (Zp (ZW (KW (K:=K) rfl) rfl T.vG ZQ (pc (Ic hu (Zk (K:=K) rfl (pv 0) rfl) (pv 1) (λ_ _=>rfl)) Zb))))),?_⟩
 obtain⟨dx,h1⟩:=S.aW.ob;obtain⟨dr,h2⟩:=S.aW.room.ob;obtain⟨kvs,wl,h3⟩:=S.held;have vb:=h3.v b;rw[aYH hb]at vb;refine⟨_,rfl,a.sp,_,dx,_,_,rfl,h1,T.fH,T.yQ,Bm ..,a.rp,dr,_,rfl,h2,bJ ..,_,rfl,a.rp,b,c.sh,c.pl,c.ru,a.ls,a.ao,a.du,s.seq,s.us,_,rfl,S.aW.room,hb,?_⟩;exact⟨_,rfl,a.sp,_,dx,_,_,rfl,h1,T.fH,T.E5,Kq ..,_,rfl,a.dh,_,rfl,(by have q:=dG.k (k:=Sum.inl b) h3.dc;rw[vb]at q;exact q),wl b,_,rfl,.inl (aB.of (h3.at_ b hb).1),k⟩
theorem av.lay{H:Hp}{a:SA}{c:Cf}{s:Rm}{O:Addr->Prop}(S:av K H a c s O){b:Int}(hb:b∈s.seq)(ws:List Int){Q:Hp->Prop}(k:∀H' O',av K H' a c (dY s b ws) O'->bN O H H' O'->Q H') :
  ∃dx kvs,H a.sp=some (.ins (af K "Store") dx (bG a.rp c.late a.dh a.df))/\H a.dh=some (.dK kvs)/\kvs.length=s.seq.length/\∀l,H l=none->Q (upd (upd H l (.lst (ws.map V.int))) a.dh (.dK (putK kvs (Sum.inl b) (.ref l)))):=by
 obtain⟨dx,h1⟩:=S.aW.ob;obtain⟨kvs,wl,h3⟩:=S.held;obtain⟨kf,h4,h5⟩:=S.fresh;refine⟨dx,kvs,h1,h3.dc,S.mK h3,λl hl=>?_⟩;obtain⟨S2,p2⟩:=S.aW.laid h3 ws hl (seq':=s.seq) (b:=b) (λx=>⟨.inr,λm=>m.elim (λz=>z ▸hb) id⟩);exact k _ _ ⟨S2.1,⟨_,_,S2.2⟩,⟨kf,by rw[Zc S.aW.n2];exact Zg hl _ _ _ h4,h5⟩,S.zC⟩ p2
theorem fY.lst{H:Hp}{a:SA}{c:Cf}{seq:List Int}{us:Int->Int}{O:Addr->Prop}(S:fY K H a c seq us O){l:Addr}{xs:List V}(hl:H l=some (.lst xs))(n1:l≠a.ls)(n2:l∉a.ao)(u:List V):fY K (upd H l (.lst u)) a c seq us O:=by
 obtain⟨dx,h1⟩:=S.ob;obtain⟨dr,h2⟩:=S.room.ob;obtain⟨kr,h3,_⟩:=S.room.dc;obtain⟨k1,h4⟩:=S.d1;obtain⟨k2,h5⟩:=S.d2;have ne:∀{y o},H y=some o->(∀xs,o≠.lst xs)->upd H l (.lst u) y=some o:=λ{y o} e n=>by rw[Zc (λz=>by rw[z,hl]at e;exact n xs (aDb e).symm)];exact e
 have R:az K (upd H l (.lst u)) a.rp c.sh c.pl c.ru a.ls a.ao a.du seq us seq.length:=S.room.frame λy o m e=>by
  rw[Zc (λz:y=l=>by
   subst z;rcases m with m|m|m|m
   .rw [m,h2]at hl;cases hl
   .exact n1 m
   .exact n2 m
   .rw [m,h3]at hl;cases hl)]
  exact e
 exact⟨⟨dx,ne h1 (λ_ z=>by cases z)⟩,R,⟨k1,ne h4 (λ_ z=>by cases z)⟩,⟨k2,ne h5 (λ_ z=>by cases z)⟩,S.n1,S.n2,S.n3,S.own,λy h=>Ni (S.ex y h)⟩
inductive ng(K:W.Frag)(vs:List V)(H:Hp)(Q:VK)(E:XK):Prop
 |mk (a:SA) (c:Cf) (s:Rm) (O:Addr->Prop) (b i x:Int):vs=[.ref a.sp,.int b,.int i,.int x]->av K H a c s O->b∈s.seq->0<=i->i<(s.wd b).length->(∀H',av K H' a c (dY s b ((s.wd b).set i.toNat x)) O->bN O H H' O->Q .aQ H')->ng K vs H Q E
example:(gS EW):=by
 obtain⟨a,c,s,O,b,i,x,rfl,S,hb,i0,i1,k⟩:=h;refine⟨_,(Zh (se (pv 3) (C3 (Ic hu (Zk (K:=K) rfl (pv 0) rfl) (pv 1) (λ_ _=>rfl)) (pv 2) De))),?_⟩;obtain⟨dx,h1⟩:=S.aW.ob;obtain⟨kvs,wl,h3⟩:=S.held;obtain⟨kf,h4,h5⟩:=S.fresh;have vb:=h3.v b;rw[aYH hb]at vb;obtain⟨w1,w2,w3,w4⟩:=h3.at_ b hb;refine⟨_,rfl,_,rfl,a.sp,_,dx,_,_,rfl,h1,T.fH,T.E5,Kq ..,_,rfl,a.dh,_,rfl,(by have q:=dG.k (k:=Sum.inl b) h3.dc;rw[vb]at q;exact q),_,rfl,wl b,_,i,i.toNat,rfl,rfl,w1,?_,?_⟩
 .unfold vn;rw[aYH i0,aYH (by rw[aW8];exact i1)]
 .rw [<-map_set];refine k _ ⟨S.aW.lst w1 w4 w3 _,⟨kvs,wl,by rw[Zc (λz=>by rw[<-z,h3.dc]at w1;cases w1)];exact h3.dc,h3.ki,h3.v,λy m=>?_,h3.inj⟩,⟨kf,by rw[Zc (λz=>by rw[<-z,h4]at w1;cases w1)];exact h4,h5⟩,S.zC⟩ ⟨λy o e n=>?_,λ_ h=>.inl h⟩
  .show _=some (HO.lst ((if y=b then(s.wd b).set i.toNat x else s.wd y).map V.int))/\_;by_cases z:y=b
   .rw [aYH z,z,Za];exact⟨rfl,w2,w3,w4⟩
   .obtain ⟨e1,e2⟩:=h3.at_ y m;rw[aoK z,Zc (λq=>z (h3.inj y m b hb q))];exact⟨e1,e2⟩
  .rw [Zc (λz=>?_)]
   .exact e
   .rw [z,w1]at e;cases e;exact n (z ▸w2) trivial
inductive nj(K:W.Frag)(vs:List V)(H:Hp)(Q:VK)(E:XK):Prop
 |mk (a:SA) (c:Cf) (s:Rm) (O:Addr->Prop) (b:Int):vs=[.ref a.sp,.int b]->av K H a c s O->b∈s.seq->s.seq.length<=800->(∀H',av K H' a c (A2 s b) O->bN O H H' O->Q .aQ H')->nj K vs H Q E
example:(iK AI):=by
 obtain⟨a,c,s,O,b,rfl,S,hb,hl,k⟩:=h;refine⟨_,(Zh (Ib hu (Zk (K:=K) rfl (pv 0) rfl) (pv 1) dR rfl)),?_⟩;obtain⟨dx,h1⟩:=S.aW.ob;obtain⟨kvs,wl,h3⟩:=S.held;obtain⟨kf,h4,h5,h6⟩:=S.fresh;have fl:=S.Yo h5 h6;refine⟨_,rfl,a.sp,_,dx,_,_,rfl,h1,T.fH,T.Jd,NV ..,_,rfl,a.df,_,rfl,lJ.k (k:=Sum.inl b) h4 (Zz (by lia)),?_⟩;have S2:=S.aW.put (x:=a.df) (.inr rfl) (putK kf (Sum.inl b) (.bl true));refine k _ ⟨S2,⟨kvs,wl,by rw[Zc (avX S.aW.n2)];exact h3.dc,h3.ki,h3.v,λx m=>⟨by rw[Zc (λz=>by have q:=(h3.at_ x m).1;rw[z,h4]at q;cases q)];exact(h3.at_ x m).1,(h3.at_ x m).2⟩,h3.inj⟩,⟨_,Za,h5.put b _,λx=>?_⟩,λx h=>?_⟩ (S.aW.yS (x:=a.df) (.inr rfl) _)
 .rw [EC];show _=if(if x=b then true else s.fr x)=true then _ else _
  by_cases z:x=b
  .rw [aYH (by rw[z]),aYH z,aYH rfl]
  .rw [aoK (λq=>z (aIk q)),h6 x,aoK z]
 .by_cases z:x=b
  .exact z ▸hb
  .exact S.zC x ((aoK z:(if x=b then true else s.fr x)=s.fr x).symm.trans h)
inductive tO(vs:List V)(H:Hp)(Q:VK)(E:XK):Prop
 |mk (s p:Int):vs=[.int s,.int p]->0<s->s<1073741824->Q (.int (p/s)) H->tO vs H Q E
example:(qv tX):=by
 obtain⟨s,p,rfl,h0,h1,k⟩:=h;refine⟨_,(Zh (Zp (aj Et (pv 1) (pv 0)))),?_⟩;exact⟨_,rfl,_,rfl,_,_,rfl,rfl,⟨h0,h1⟩,k⟩
def gu(s b:Int):List V:=(List.range s.toNat).map λk=>V.int (b*s+(k:Nat))
inductive sV(vs:List V)(H:Hp)(Q:VK)(E:XK):Prop
 |mk (s b:Int):vs=[.int s,.int b]->0<s->s<=1000->0<=b->b<=1000000->(∀(r:Addr)(H':Hp),H r=none->ay H H'->H' r=some (.lst (gu s b))->Q (.ref r) H')->sV vs H Q E
theorem ZlR{b s:Int}(h0:0<=b)(h1:b<=1000000)(s0:0<s)(s1:s<=1000):0<=b*s/\b*s<=1000000000:=by
 refine⟨Int.mul_nonneg h0 (by lia),?_⟩;exact a5K (Int.mul_le_mul_of_nonneg_right h1 (by lia)) (Int.mul_le_mul_of_nonneg_left s1 (by decide))
example:(qt Af):=by
 obtain ⟨s,b,rfl,s0,s1,b0,b1,k⟩:=h;refine⟨_,(Zd (cK 2 nd (aj uR (pv 1) (pv 0)))
   (Zh (Zp (Zeb rfl rfl T.vG rfl T.rR (pc (pv 2) (pc (aj ZC (pv 2) (pv 0)) Zb)))))),?_⟩
 obtain⟨m0,m1⟩:=ZlR b0 b1 s0 s1;have e:(b*s+s-b*s).toNat=s.toNat:=by lia
 refine⟨_,rfl,_,rfl,_,_,rfl,rfl,.inl ⟨by lia,by lia⟩,?_⟩;refine⟨_,rfl,_,rfl,_,rfl,_,_,rfl,rfl,_,_,rfl,⟨by lia,by lia,by lia,by lia⟩,?_⟩;rw[e];refine⟨aIf (Zz (by lia)),λp hp=>?_⟩;exact k p _ hp (Zg hp _) Za
def k7(size:Int)(dk:Addr):List (Str×V):=ah "kept" (.ref dk) (ah "size" (.int size) [])
theorem Ko(size:Int)(dk:Addr):(k7 size dk).lookup ("kept":Str)=some (.ref dk):=by
 unfold k7;rw[Zf,aYH rfl]
theorem Ru(size:Int)(dk:Addr):(k7 size dk).lookup ("size":Str)=some (.int size):=by
 unfold k7;rw[Zf,aoK (by decide +kernel),Zf,aYH rfl]
theorem wY(size:Int)(dk:Addr){m:Str}(h1:¬m ="kept":=by decide +kernel)(h2:¬m ="size":=by decide +kernel):(k7 size dk).lookup m=none:=by
 unfold k7;rw[Zf,aoK h1,Zf,aoK h2];rfl
structure dB(K:W.Frag)(H:Hp)(bm dk:Addr)(size:Int)(mem:Int->Int)(U:List Int):Prop where
 ob:∃dx,H bm=some (.ins (af K "Memory") dx (k7 size dk))
 kept:∃kvs,H dk=some (.dK kvs)/\KI kvs/\∀s,aK kvs (Sum.inl s:Key)=if mem s=0 then none else some (.int (mem s))
 sup:∀s,mem s≠0->s/size∈U
theorem dB.frame{H H':Hp}{bm dk:Addr}{size:Int}{mem:Int->Int}{U:List Int}(m:dB K H bm dk size mem U)(f:∀x o,x=bm\/x=dk->H x=some o->H' x=some o):dB K H' bm dk size mem U:=by
 obtain⟨dx,e⟩:=m.ob;obtain⟨kvs,e2,r⟩:=m.kept;exact⟨⟨dx,f _ _ (.inl rfl) e⟩,⟨kvs,f _ _ (.inr rfl) e2,r⟩,m.sup⟩
theorem Rt{size:Int}{mem:Int->Int}{U:List Int}{kvs:List (Key×V)}(z0:0<size)(h:KI kvs)(v:∀s,aK kvs (Sum.inl s:Key)=if mem s=0 then none else some (.int (mem s)))(sup:∀s,mem s≠0->s/size∈U):kvs.length<=U.length*size.toNat:=by
 obtain⟨ks,e,nd⟩:=h;have l:=aSc List.length e;rw[aW8,aW8]at l;rw[l];have q:=CV nd (b:=U.flatMap λb=>(List.range size.toNat).map λk=>b*size+(k:Nat)) λs m=>?_
 .refine alM q (Nat.le_of_eq ?_);clear q sup
  induction U with
  |nil=>simp
  |cons x U ih=>rw[List.flatMap_cons,aE0,ih,aW8,aPc,aXW,Nat.succ_mul,Nat.add_comm]
 .have q:=zM (kvs:=kvs) (Sum.inl s);rw[v s,e]at q;have hs:=q.mpr (bax m);have nz:mem s≠0:=λz=>by rw[aYH z]at hs;cases hs
  rw[List.mem_flatMap];have m0:0<=s%size:=aBD _ (by lia);have m1:s%size<size:=aIv _ (by lia);refine⟨s/size,sup s nz,a34.mpr ⟨(s%size).toNat,aOD.mpr (by lia),?_⟩⟩;have:=aMD s size;rw[Int.toNat_of_nonneg m0,Int.mul_comm];exact this
inductive Aq(K:W.Frag)(vs:List V)(H:Hp)(Q:VK)(E:XK):Prop
 |mk (p dx:Addr) (size:Int):vs=[.ref p,.int size]->H p=some (.ins (af K "Memory") dx [])->(∀(dk:Addr)(H':Hp),(∀U,dB K H' p dk size (λ_=>0) U)->H dk=none->(∀b o,H b=some o->b≠p->H' b=some o)->Q .aQ H')->Aq K vs H Q E
example:(kW GF):=by
 obtain ⟨p,dx,size,rfl,hp,k⟩:=h;refine⟨_,(Zd (pM (pv 0) (pv 1) rfl)
   (Zh (pM (pv 0) EB rfl))),?_⟩
 refine⟨_,rfl,_,rfl,p,_,dx,_,rfl,hp,T.vF,T.L7,(by show 0<1000;decide),λdk JX=>?_⟩;have np:p≠dk:=Ze (Za (H:=H) (a:=p) (o:=.ins (af K "Memory") dx (ah "size" (.int size) []))) JX;refine⟨_,rfl,p,_,dx,_,rfl,(by rw[Zc np];exact Za),T.vF,T.EK,(by show 1<1000;decide),?_⟩;rw[Zc (avX np)]at JX;refine k dk _ (λU=>⟨⟨dx,Za⟩,⟨[],by rw[Zc (avX np)];exact Za,KI.nil,λ_=>rfl⟩,λs h=>absurd rfl h⟩) JX λx o e n=>?_;rw[Zc n,Zc (Ze e JX),Zc n];exact e
def br(size:Int)(mem:Int->Int)(b:Int):List Int:=(List.range size.toNat).map λk=>mem (b*size+(k:Nat))
def gc(size:Int)(mem:Int->Int)(b:Int)(ws:List Int)(i:Nat):Int->Int:=λs=>if b*size<=s/\s<b*size+i then ws.getD (s-b*size).toNat 0 else mem s
def qH(size:Int)(mem:Int->Int)(b:Int)(ws:List Int):Int->Int:=gc size mem b ws size.toNat
theorem SQ{s b:Int}{i:Nat}{x:V}(h:(gu s b)[i]?=some x):x=.int (b*s+(i:Nat))/\i<s.toNat:=by
 unfold gu at h;rw[aeb]at h;by_cases c:i<s.toNat
 .rw [a0l c]at h;exact⟨(aDb h).symm,c⟩
 .rw [ax8 (by rw[aPc];lia)]at h;cases h
inductive pZ(K:W.Frag)(vs:List V)(H:Hp)(Q:VK)(E:XK):Prop
 |mk (bm dk:Addr) (size b:Int) (mem:Int->Int) (U:List Int):vs=[.ref bm,.int b]->dB K H bm dk size mem U->0<size->size<=1000->0<=b->b<=1000000->(∀l H',H l=none->ay H H'->H' l=some (.lst ((br size mem b).map V.int))->Q (.ref l) H')->pZ K vs H Q E
example:(gb EY Af):=by
 obtain⟨bm,dk,size,b,mem,U,rfl,M,z0,z1,b0,b1,k⟩:=h;refine⟨_,(Zh (Zp (Dc (ZZ (mh:=(Zr bK)) (oN:=iA) (N:=["spot","self"]) (own:=1) (js:=[0]) (by decide +kernel) rfl rfl) rfl (Ir (K:=K) rfl (Zm Af hr.m rfl (pc (Zk (K:=K) rfl (pv 0) rfl) (pc (pv 1) Zb)))) (λ_ _ _ _ _ _=>(bY 0 (show List.Nodup (["spot","self"]:List Str) by decide +kernel))) (λ_ _ _ _ _ _=>(Ti hu (Zk (K:=K) rfl (pv 1) rfl) (pv 0) Zi ⟨rfl,rfl,rfl,rfl⟩))))),?_⟩;obtain⟨dx,h1⟩:=M.ob;obtain⟨kvs,h2,h3,h4⟩:=M.kept;refine⟨_,rfl,bm,_,dx,_,_,rfl,h1,T.vF,T.L7,Ru ..,_,rfl,size,b,rfl,z0,z1,b0,b1,λr H1 hr1 s1 e1=>⟨r,rfl,⟨_,aB.of e1⟩,λl hl=>?_⟩⟩;have yi:=s1 _ _ h1;have hk:=s1 _ _ h2;have JH:(gu size b).length=size.toNat:=by unfold gu;rw[aW8,aPc]
 refine Od (K:=K) (a:=r) (xs:=gu size b) (l:=l) (λi ys σ' G'=>∃v0:Option V,σ'=[v0,some (.ref bm)]/\ys=((List.range i).map λk=>mem (b*size+(k:Nat))).map V.int/\G'=upd H1 l (.lst ys)) ⟨none,rfl,rfl,rfl⟩ (λi ys σ' G' _ ⟨_,_,_,q⟩=>aB.of (by rw[q,Zc (Ze e1 hl)];exact e1)) ?_ ?_
 .rintro i x ys σ' G' hi hxi hys ⟨v0,rfl,rfl,rfl⟩;obtain⟨rfl,_⟩:=SQ hxi;have sl:=Zg hl (.lst (((List.range i).map λk=>mem (b*size+(k:Nat))).map V.int));have q:=dG.k (k:=Sum.inl (b*size+(i:Nat))) (sl _ _ hk);rw[h4]at q;refine⟨_,rfl,bm,_,dx,_,_,rfl,sl _ _ yi,T.vF,T.EK,Ko ..,dk,rfl,.inl ⟨_,.inl (sl _ _ hk)⟩,_,rfl,_,q,?_⟩;have eg:(if mem (b*size+(i:Nat))=0 then none else some (V.int (mem (b*size+(i:Nat))))).getD (V.int 0)=V.int (mem (b*size+(i:Nat))):=by
   by_cases c:mem (b*size+(i:Nat))=0
   .rw [aYH c,c];rfl
   .rw [aoK c];rfl
  rw[eg];exact rC.of (aIf (Zz (by lia))) hi hys Za ⟨_,rfl,by rw[List.range_succ,aK6,aK6];rfl,KG⟩
 .rintro ys σ' G' _ ⟨v0,rfl,rfl,rfl⟩;rw[JH];exact k l _ (s1.free hl) (s1.trans (Zg hl _)) Za
inductive vU(K:W.Frag)(vs:List V)(H:Hp)(Q:VK)(E:XK):Prop
 |mk (bm dk:Addr) (size b:Int) (mem:Int->Int) (U:List Int) (lw:Addr) (ws:List Int):vs=[.ref bm,.int b,.ref lw]->dB K H bm dk size mem U->0<size->size<=1000->0<=b->b<=1000000->b∈U->U.length<=800->H lw=some (.lst (ws.map V.int))->ws.length=size.toNat->(∀H',dB K H' bm dk size (qH size mem b ws) U->(∀x o,H x=some o->x≠dk->H' x=some o)->Q .aQ H')->vU K vs H Q E
theorem Zin{size:Int}{mem:Int->Int}{b:Int}{ws:List Int}{i:Nat}{x:Int}(h:ws[i]?=some x)(s:Int):gc size mem b ws (i+1) s=if s=b*size+(i:Nat) then x else gc size mem b ws i s:=by
 unfold gc;have gd:ws.getD i 0=x:=by rw[agc,h];rfl
 by_cases c:s=b*size+(i:Nat)
 .rw [aYH c,aYH (by lia)];have:(s-b*size).toNat=i:=by lia
  rw[this,gd]
 .rw [aoK c];by_cases d:b*size<=s/\s<b*size+(i:Nat)
  .rw [aYH d,aYH (by lia)]
  .rw [aoK d,aoK (by lia)]
theorem ZgT{size b:Int}{i:Nat}(z0:0<size)(hi:i<size.toNat):(b*size+(i:Nat))/size=b:=by
 rw[Int.add_comm,aZv _ _ (by lia),a9l (by lia) (by lia)];lia
example:(mG E8 Af):=by
 obtain⟨bm,dk,size,b,mem,U,lw,ws,rfl,M,z0,z1,b0,b1,bU,lU,lO,oU,k⟩:=h;refine⟨_,(Zh (uw atQ rfl (Z3 rfl T.JP (pc (Zm Af hr.m rfl (pc (Zk (K:=K) rfl (pv 0) rfl) (pc (pv 1) Zb))) (pc (pv 2) Zb))) (ZT (K:=K) (n:=2) rfl rfl (Zq (bY 3 nd) (Zq (bY 4 nd) ZS))) (Zh (aE (Zv aY (pv 4) Zi (Zu _)) (Zh (Zn (Tg (Zk (K:=K) rfl (pv 0) rfl) (pv 3) Zi ⟨rfl,rfl,rfl,rfl⟩))) (Zh (Ib hu (Zk (K:=K) rfl (pv 0) rfl) (pv 3) (pv 4) rfl)))))),?_⟩;obtain⟨dx,h1⟩:=M.ob;obtain⟨kv0,h2,_⟩:=M.kept;refine⟨_,rfl,bm,_,dx,_,_,rfl,h1,T.vF,T.L7,Ru ..,_,rfl,size,b,rfl,z0,z1,b0,b1,λr H1 hr1 s1 e1=>?_⟩;have JH:(gu size b).length=size.toNat:=by unfold gu;rw[aW8,aPc]
 have WL:r≠dk:=λz=>by rw[z,h2]at hr1;cases hr1
 have WU:lw≠dk:=λz=>by rw[z,h2]at lO;cases lO
 refine⟨_,rfl,r,lw,rfl,⟨_,aB.of e1⟩,⟨_,aB.of (s1 _ _ lO)⟩,Zku (K:=K) (a:=r) (b:=lw) (xs:=gu size b) (ys:=ws.map V.int) (λi σ G=>∃v3 v4:Option V,σ=[some (.ref bm),some (.int b),some (.ref lw),v3,v4]/\dB K G bm dk size (gc size mem b ws i) U/\∀x o,H1 x=some o->x≠dk->G x=some o) (by rw[JH,aW8,oU])
  ⟨none,none,rfl,?_,λ_ _ e _=>e⟩ (λi σ G _ ⟨_,_,_,_,q⟩=>⟨aB.of (q _ _ e1 WL),aB.of (q _ _ (s1 _ _ lO) WU)⟩) ?_ ?_⟩
 .have e0:gc size mem b ws 0=mem:=by
   funext s
   unfold gc;rw[aoK (by lia)]
  rw[e0];exact M.frame λx o _ e=>s1 x o e
 .rintro i x y t σ G hx hy ⟨v3,v4,rfl,M',fr⟩ ht;obtain⟨rfl,hi⟩:=SQ hx;obtain⟨z,hz,rfl⟩:∃z,ws[i]?=some z/\y=V.int z:=by
   rw[aeb]at hy;cases e:ws[i]? with
   |none=>rw[e]at hy;cases hy
   |some z=>rw[e]at hy;exact⟨z,rfl,(aDb hy).symm⟩
  have s2:=Zg ht (.tup [V.int (b*size+(i:Nat)),V.int z]);refine⟨t,_,rfl,aX.of Za,rfl,_,_,rfl,gN ⟨_,_,rfl,gN ⟨rfl,?_⟩⟩⟩;have M2:dB K (upd G t (.tup [V.int (b*size+(i:Nat)),V.int z])) bm dk size (gc size mem b ws i) U:=M'.frame λx o _ e=>s2 x o e;have Hs:∀x o,H1 x=some o->x≠dk->upd G t (.tup [V.int (b*size+(i:Nat)),V.int z]) x=some o:=λx o e n=>s2 _ _ (fr x o e n);generalize upd G t (.tup [V.int (b*size+(i:Nat)),V.int z])=G2 at *;obtain⟨jq,g1⟩:=M2.ob;obtain⟨kvs,g2,g3,g4⟩:=M2.kept;have Gk:bm≠dk:=λq=>by rw[q,g2]at g1;cases g1
  have sp:=ZgT (b:=b) z0 hi;have es:=Zin (size:=size) (mem:=mem) (b:=b) hz;have fin:∀kvs',KI kvs'->(∀s,aK kvs' (Sum.inl s:Key)=if s=b*size+(i:Nat) then(if z=0 then none else some (.int z)) else aK kvs (Sum.inl s:Key))->dB K (upd G2 dk (.dK kvs')) bm dk size (gc size mem b ws (i+1)) U/\∀x o,H1 x=some o->x≠dk->upd G2 dk (.dK kvs') x=some o:=λkvs' ki hv=>by
   refine⟨⟨⟨jq,by rw[Zc Gk];exact g1⟩,⟨kvs',Za,ki,λs=>?_⟩,λs hs=>?_⟩,λx o e n=>by rw[Zc n];exact Hs x o e n⟩
   .by_cases c:s=b*size+(i:Nat)
    .rw [hv s,(es s).trans (aYH c),aYH c]
    .rw [hv s,(es s).trans (aoK c),aoK c,g4 s]
   .rw [es s]at hs;by_cases c:s=b*size+(i:Nat)
    .rw [c,sp];exact bU
    .rw [aoK c]at hs;exact M2.sup s hs
  refine⟨_,rfl,rfl,_,rfl,NW (λc=>?_) (λc=>?_)⟩
  .have c:z=0:=by simpa using c
   refine⟨_,rfl,bm,_,jq,_,_,rfl,g1,T.vF,T.EK,Ko ..,dk,rfl,.inl ⟨_,.inl g2⟩,_,rfl,kvs,Sum.inl (b*size+(i:Nat)),g2,rfl,λv hv=>?_,λhv=>?_⟩
   .obtain ⟨f1,f2⟩:=fin _ (g3.drop (b*size+(i:Nat))) (λs=>by
     rw[KN,aYH c];by_cases q:s=b*size+(i:Nat)
     .rw [aYH (by rw[q]),aYH q]
     .rw [aoK (λy=>q (aIk y)),aoK q])
    exact⟨_,_,rfl,f1,f2⟩
   .rw [g4]at hv;have e0:gc size mem b ws i (b*size+(i:Nat))=0:=by
     by_cases q:gc size mem b ws i (b*size+(i:Nat))=0
     .exact q
     .rw [aoK q]at hv;cases hv
    have e:gc size mem b ws (i+1)=gc size mem b ws i:=by
     funext s
     rw[es s];by_cases q:s=b*size+(i:Nat)
     .rw [aYH q,q,e0,c]
     .rw [aoK q]
    exact⟨_,_,rfl,by rw[e];exact M2,Hs⟩
  .have c:z≠0:=λq=>c (by rw[q];simp);have kl:=Rt z0 g3 g4 M2.sup;have kb:kvs.length<sizeLine:=a3J (alM kl (Nat.mul_le_mul lU (by lia:size.toNat<=1000))) (by decide);refine⟨_,rfl,_,rfl,bm,_,jq,_,_,rfl,g1,T.vF,T.EK,Ko ..,_,rfl,dk,_,rfl,lJ.k (k:=Sum.inl (b*size+(i:Nat))) g2 kb,?_⟩;obtain⟨f1,f2⟩:=fin _ (g3.put (b*size+(i:Nat)) (.int z)) (λs=>by
     rw[EC,aoK c];by_cases q:s=b*size+(i:Nat)
     .rw [aYH (by rw[q]),aYH q]
     .rw [aoK (λy=>q (aIk y)),aoK q])
   exact⟨_,_,rfl,f1,f2⟩
 .rintro σ G ⟨v3,v4,rfl,M',fr⟩;rw[JH]at M';exact k G M' λx o e n=>fr x o (s1 _ _ e) n
structure aI where
 size:Int
 kind:Str
 aO:List Cf
 U:List Int
structure WF(g:aI):Prop where
 cf:∀c∈g.aO,1<=c.pl/\c.pl<=16
 z0:1<=g.size
 z1:g.size<=1000
 lU:g.U.length<=800
 ub:∀b∈g.U,0<=b/\b<=1000000
 l4:g.aO.length<=4
 l1:1<=g.aO.length
structure ak where
 rm:List Rm
 mem:Int->Int
 ev:List (List V)
def ak.at_(st:ak)(k:Nat):Rm:=st.rm.getD k o8
def ak.set(st:ak)(k:Nat)(s:Rm):ak:={ st with rm:=st.rm.set k s }
def ak.tell(st:ak)(e:List V):ak:={ st with ev:=st.ev++[e] }
structure TA where
 p:Addr
 ss:Addr
 bm:Addr
 dk:Addr
 ev:Addr
 as:List SA
abbrev OS:=Nat->Addr->Prop
def OS.set(os:OS)(k:Nat)(O:Addr->Prop):OS:=λj=>if j=k then O else os j
def Bs(A:TA)(x:Addr):Prop:=x=A.p\/x=A.ss\/x=A.bm\/x=A.dk\/x=A.ev
def OW(A:TA)(os:OS)(x:Addr):Prop:=Bs A x\/∃k,k<A.as.length/\os k x
def Ev(n:Nat)(e:List V):Prop:=(∃k:Nat,k<=n/\e=[.str "found",.int (k:Int)])\/(∃(k:Nat)(b:Int),(k<n/\0<=b/\b<=1000000)/\(e=[.str "in",.int (k:Int),.int b]\/e=[.str "out",.int (k:Int),.int b]))\/∃(k:Nat)(b:Int),(k<=n/\0<=b/\b<=1000000)/\e=[.str "words",.int (k:Int),.int b]
def rB(n:Nat)(H:Hp)(l:Addr)(es:List (List V)):Prop:=(∀e∈es,Ev n e)/\∃ts:List Addr,H l=some (.lst (ts.map V.ref))/\ts.length=es.length/\∀(i:Nat)(t:Addr)(e:List V),ts[i]?=some t->es[i]?=some e->H t=some (.tup e)
def bw(size:Int)(ss bm:Addr)(last:Nat)(ev:Addr)(kind:Str):List (Str×V):=ah "kind" (.str kind) (ah "events" (.ref ev) (ah "last" (.int last) (ah "bottom" (.ref bm) (ah "stores" (.ref ss) (ah "size" (.int size) [])))))
section
variable(size:Int)(ss bm:Addr)(last:Nat)(ev:Addr)(kind:Str)
theorem Rr:(bw size ss bm last ev kind).lookup ("kind":Str)=some (.str kind):=by
 unfold bw;rw[Zf,aYH rfl]
theorem IB:(bw size ss bm last ev kind).lookup ("events":Str)=some (.ref ev):=by
 unfold bw;rw[Zf,aoK (by decide +kernel),Zf,aYH rfl]
theorem xP:(bw size ss bm last ev kind).lookup ("last":Str)=some (.int last):=by
 unfold bw;rw[Zf,aoK (by decide +kernel),Zf,aoK (by decide +kernel),Zf,aYH rfl]
theorem Ob:(bw size ss bm last ev kind).lookup ("bottom":Str)=some (.ref bm):=by
 unfold bw;rw[Zf,aoK (by decide +kernel),Zf,aoK (by decide +kernel),Zf,aoK (by decide +kernel),Zf,aYH rfl]
theorem ZJ:(bw size ss bm last ev kind).lookup ("stores":Str)=some (.ref ss):=by
 unfold bw;rw[Zf,aoK (by decide +kernel),Zf,aoK (by decide +kernel),Zf,aoK (by decide +kernel),Zf,aoK (by decide +kernel),Zf,aYH rfl]
theorem Ew:(bw size ss bm last ev kind).lookup ("size":Str)=some (.int size):=by
 unfold bw;rw[Zf,aoK (by decide +kernel),Zf,aoK (by decide +kernel),Zf,aoK (by decide +kernel),Zf,aoK (by decide +kernel),Zf,aoK (by decide +kernel),Zf,aYH rfl]
theorem aq{m:Str}(h1:¬m ="kind":=by decide +kernel)(h2:¬m ="events":=by decide +kernel)(h3:¬m ="last":=by decide +kernel)(h4:¬m ="bottom":=by decide +kernel)(h5:¬m ="stores":=by decide +kernel)(h6:¬m ="size":=by decide +kernel):(bw size ss bm last ev kind).lookup m=none:=by
 unfold bw;rw[Zf,aoK h1,Zf,aoK h2,Zf,aoK h3,Zf,aoK h4,Zf,aoK h5,Zf,aoK h6];rfl
theorem ZI{f g:Str}{v x:V}{r:List (Str×V)}(h:¬g=f):ah f v ((g,x) ::r)=(g,x) ::ah f v r:=by
 show(if g=f then _ else _)=_;rw[aoK h]
theorem ZkL{f:Str}{v x:V}{r:List (Str×V)}:ah f v ((f,x) ::r)=(f,v) ::r:=by
 show(if f=f then _ else _)=_;rw[aYH rfl]
theorem EA{f:Str}{v:V}:ah f v []=[(f,v)]:=rfl
theorem Om:bw size ss bm last ev kind=([(("size":Str),V.int size),(("stores":Str),V.ref ss),(("bottom":Str),V.ref bm),(("last":Str),V.int last),(("events":Str),V.ref ev),(("kind":Str),V.str kind)]:List (Str×V)):=by
 unfold bw;have a1:¬("size":Str) ="stores":=by decide +kernel
 have a2:¬("size":Str) ="bottom":=by decide +kernel
 have a3:¬("size":Str) ="last":=by decide +kernel
 have a4:¬("size":Str) ="events":=by decide +kernel
 have a5:¬("size":Str) ="kind":=by decide +kernel
 have b2:¬("stores":Str) ="bottom":=by decide +kernel
 have b3:¬("stores":Str) ="last":=by decide +kernel
 have b4:¬("stores":Str) ="events":=by decide +kernel
 have b5:¬("stores":Str) ="kind":=by decide +kernel
 have c3:¬("bottom":Str) ="last":=by decide +kernel
 have c4:¬("bottom":Str) ="events":=by decide +kernel
 have c5:¬("bottom":Str) ="kind":=by decide +kernel
 have d4:¬("last":Str) ="events":=by decide +kernel
 have d5:¬("last":Str) ="kind":=by decide +kernel
 have e5:¬("events":Str) ="kind":=by decide +kernel
 rw[EA,ZI a1,EA,ZI a2,ZI b2,EA,ZI a3,ZI b3,ZI c3,EA,ZI a4,ZI b4,ZI c4,ZI d4,EA,ZI a5,ZI b5,ZI c5,ZI d5,ZI e5,EA]
theorem ZlS(ev':Addr):ah "events" (.ref ev') (bw size ss bm last ev kind)=bw size ss bm last ev' kind:=by
 rw[Om,Om];have a4:¬("size":Str) ="events":=by decide +kernel
 have b4:¬("stores":Str) ="events":=by decide +kernel
 have c4:¬("bottom":Str) ="events":=by decide +kernel
 have d4:¬("last":Str) ="events":=by decide +kernel
 rw[ZI a4,ZI b4,ZI c4,ZI d4,ZkL]
end
structure aa(K:W.Frag)(H:Hp)(A:TA)(g:aI)(st:ak)(os:OS)(n:Nat):Prop where
 ob:∃dx,H A.p=some (.ins (af K "Stairs") dx (bw g.size A.ss A.bm A.as.length A.ev g.kind))
 ss:H A.ss=some (.lst (A.as.map λa=>V.ref a.sp))
 mem:dB K H A.bm A.dk g.size st.mem g.U
 ev:rB g.aO.length H A.ev st.ev
 yj:st.ev.length<=n
 lc:g.aO.length=A.as.length
 lS:st.rm.length=A.as.length
 aW:∀(k:Nat)(a:SA)(c:Cf)(s:Rm),A.as[k]?=some a->g.aO[k]?=some c->st.rm[k]?=some s->av K H a c s (os k)
 off:∀k,k<A.as.length->∀x,os k x->¬Bs A x
 uh:∀i j,i<A.as.length->j<A.as.length->i≠j->∀x,os i x->¬os j x
 BX:A.ss≠A.ev
 ud:A.p≠A.bm
 vH:∀s∈st.rm,∀b∈s.seq,b∈g.U
 full:∀(k:Nat)(c:Cf)(s:Rm),g.aO[k]?=some c->st.rm[k]?=some s->∀t,((Zl c.sh t s.seq).length:Int)<=c.pl
 wl:∀s∈st.rm,∀b∈s.seq,(s.wd b).length=g.size.toNat
 wf:WF g
 tb:Tb K H
section
variable{K:W.Frag}{H H':Hp}{A:TA}{g:aI}{st:ak}{os:OS}{n:Nat}{a:SA}{c:Cf}{s:Rm}
theorem rB.frame{m:Nat}{l:Addr}{es:List (List V)}(h:rB m H l es)(f1:∀o,H l=some o->H' l=some o)(f2:∀x ys,H x=some (.tup ys)->H' x=some (.tup ys)):rB m H' l es:=by
 obtain⟨h0,ts,h1,h2,h3⟩:=h;exact⟨h0,ts,f1 _ h1,h2,λi t e a b=>f2 _ _ (h3 i t e a b)⟩
theorem aa.frame(T:aa K H A g st os n)(f:∀x o,H x=some o->(OW A os x\/¬Mt o)->H' x=some o):aa K H' A g st os n:=by
 obtain⟨dx,h1⟩:=T.ob;have fb:∀{x o},Bs A x->H x=some o->H' x=some o:=λ{x o} h e=>f x o e (.inl (.inl h));have ft:∀x ys,H x=some (.tup ys)->H' x=some (.tup ys):=λx ys e=>f x _ e (.inr id);refine⟨⟨dx,fb (.inl rfl) h1⟩,fb (by simp[Bs]) T.ss,T.mem.frame λx o m e=>fb (by rcases m with m|m <;> simp[Bs,m]) e,T.ev.frame (λo e=>fb (by simp[Bs]) e) ft,T.yj,T.lc,T.lS,λk a c s h1 h2 h3=>(T.aW k a c s h1 h2 h3).frame λx o h e=>f x o e (.inl (.inr ⟨k,(azG.mp h1).1,h⟩)),T.off,T.uh,T.BX,T.ud,T.vH,T.full,T.wl,T.wf,f _ _ T.tb (.inr id)⟩
theorem aa.same(T:aa K H A g st os n)(h:ay H H'):aa K H' A g st os n:=T.frame λx o e _=>h x o e
theorem aa.le{m:Nat}(T:aa K H A g st os n)(h:n<=m):aa K H A g st os m:=⟨T.ob,T.ss,T.mem,T.ev,alM T.yj h,T.lc,T.lS,T.aW,T.off,T.uh,T.BX,T.ud,T.vH,T.full,T.wl,T.wf,T.tb⟩
theorem aa.ex(T:aa K H A g st os n):∀x,OW A os x->H x≠none:=λx h=>by
 rcases h with h|⟨k,hk,h⟩
 .obtain ⟨dx,h1⟩:=T.ob;obtain⟨dm,h2⟩:=T.mem.ob;obtain⟨kv,h3,_⟩:=T.mem.kept;obtain⟨_,ts,h4,_⟩:=T.ev;rcases h with rfl|rfl|rfl|rfl|rfl
  .rw [h1];simp
  .rw [T.ss];simp
  .rw [h2];simp
  .rw [h3];simp
  .rw [h4];simp
 .have h1:A.as[k]?=some A.as[k]:=aEW hk;have h2:g.aO[k]?=some (g.aO[k]'(by rw[T.lc];exact hk)):=aEW _;have h3:st.rm[k]?=some (st.rm[k]'(by rw[T.lS];exact hk)):=aEW _;exact(T.aW _ _ _ _ h1 h2 h3).aW.ex x h
theorem ak.at_of{k:Nat}(h:k<st.rm.length):st.rm[k]?=some (st.at_ k):=by
 unfold ak.at_;rw[agc,aEW h];rfl
theorem ak.lA{k j:Nat}{s:Rm}(h:k<st.rm.length):(st.set k s).at_ j=if j=k then s else st.at_ j:=by
 unfold ak.at_ ak.set;rw[agc,agc];by_cases z:j=k
 .rw [aYH z,z,aIs h];rfl
 .rw [aoK z,atg (avX z)]
def aI.cf(g:aI)(k:Nat):Cf:=g.aO.getD k ⟨1,1,"old",true⟩
theorem aa.at_(T:aa K H A g st os n){k:Nat}(hk:k<A.as.length):∃a,A.as[k]?=some a/\g.aO[k]?=some (g.cf k)/\st.rm[k]?=some (st.at_ k)/\av K H a (g.cf k) (st.at_ k) (os k):=by
 have h1:A.as[k]?=some A.as[k]:=aEW hk;have h2:g.aO[k]?=some (g.cf k):=by
  unfold aI.cf;rw[agc,aEW (by rw[T.lc];exact hk)];rfl
 have h3:=ak.at_of (st:=st) (k:=k) (by rw[T.lS];exact hk);exact⟨_,h1,h2,h3,T.aW _ _ _ _ h1 h2 h3⟩
theorem aa.pJ(T:aa K H A g st os n){k:Nat}(hk:k<A.as.length):(st.at_ k).seq.length<=800/\(∀b∈(st.at_ k).seq,b∈g.U/\((st.at_ k).wd b).length=g.size.toNat)/\(∀t,((Zl (g.cf k).sh t (st.at_ k).seq).length:Int)<=(g.cf k).pl)/\1<=(g.cf k).pl/\(g.cf k).pl<=16/\(st.at_ k).seq.Nodup:=by
 obtain⟨a,h1,h2,h3,S⟩:=T.at_ hk;have m:=abH h3;obtain⟨c1,c2⟩:=T.wf.cf _ (abH h2);exact⟨alM (CV S.aW.room.nd (T.vH _ m)) T.wf.lU,λb h=>⟨T.vH _ m b h,T.wl _ m b h⟩,T.full _ _ _ h2 h3,c1,c2,S.aW.room.nd⟩
theorem ZlT{k:Nat}{O':Addr->Prop}(T:aa K H A g st os n)(hk:k<A.as.length)(p:bN (os k) H H' O'):bN (OW A os) H H' (OW A (os.set k O')):=by
 refine⟨λx o e nn=>p.kp x o e λh=>nn (.inr ⟨k,hk,h⟩),λx h=>?_⟩;rcases h with h|⟨j,hj,h⟩
 .exact .inl (.inl h)
 .unfold OS.set at h;by_cases z:j=k
  .rw [aYH z]at h;exact(p.fr x h).elim (λq=>.inl (.inr ⟨k,hk,q⟩)) .inr
  .rw [aoK z]at h;exact .inl (.inr ⟨j,hj,h⟩)
theorem aa.iQ{k:Nat}{s':Rm}{O':Addr->Prop}(T:aa K H A g st os n)(ha:A.as[k]?=some a)(hc:g.aO[k]?=some c)(S:av K H' a c s' O')(p:bN (os k) H H' O')(hu:∀b∈s'.seq,b∈g.U/\(s'.wd b).length=g.size.toNat)(hf:∀t,((Zl c.sh t s'.seq).length:Int)<=c.pl) :
  aa K H' A g (st.set k s') (os.set k O') n/\bN (OW A os) H H' (OW A (os.set k O')):=by
 have hk:k<A.as.length:=(azG.mp ha).1;refine⟨?_,ZlT T hk p⟩;have nb:∀{x o},Bs A x->H x=some o->H' x=some o:=λ{x o} h e=>p.kp x o e λq=>absurd h (T.off k hk x q);have nt:∀x ys,H x=some (.tup ys)->H' x=some (.tup ys):=λx ys e=>p.kp x _ e λ_=>id;obtain⟨dx,h1⟩:=T.ob;refine⟨⟨dx,nb (.inl rfl) h1⟩,nb (by simp[Bs]) T.ss,T.mem.frame λx o m e=>nb (by rcases m with m|m <;> simp[Bs,m]) e,T.ev.frame (λo e=>nb (by simp[Bs]) e) nt,T.yj,T.lc,by show(st.rm.set k s').length=_;rw[aO6];exact T.lS,λj b cb sb hb hcb lM=>?_,λj hj x h=>?_,λi j hi hj hij x h1 h2=>?_,T.BX,T.ud,λq hq b hb=>?_,λj cb sb hcb lM=>?_,λq hq b hb=>?_,T.wf,p.kp _ _ T.tb λ_=>id⟩
 .have hj:=(azG.mp hb).1;unfold OS.set;by_cases e:j=k
  .subst e;rw[ha]at hb;cases hb;rw[hc]at hcb;cases hcb;have lM:(st.rm.set j s')[j]?=some sb:=lM;rw[aIs (by rw[T.lS];exact hk)]at lM;cases lM;rw[aYH rfl];exact S
  .have lM:(st.rm.set k s')[j]?=some sb:=lM;rw[atg (avX e)]at lM;rw[aoK e];exact(T.aW j b cb sb hb hcb lM).frame λx o h q=>p.kp x o q λz=>absurd z (T.uh j k hj hk e x h)
 .unfold OS.set at h;by_cases e:j=k
  .rw [aYH e]at h;rcases p.fr x h with q|q
   .exact T.off k hk x q
   .exact λz=>T.ex x (.inl z) q
  .rw [aoK e]at h;exact T.off j hj x h
 .unfold OS.set at h1 h2;by_cases e1:i=k
  .rw [aYH e1]at h1;rw[aoK (λz=>hij (e1.trans z.symm))]at h2;rcases p.fr x h1 with q|q
   .exact T.uh k j hk hj (λz=>hij (e1.trans z)) x q h2
   .exact T.ex x (.inr ⟨j,hj,h2⟩) q
  .rw [aoK e1]at h1;by_cases e2:j=k
   .rw [aYH e2]at h2;rcases p.fr x h2 with q|q
    .exact T.uh i k hi hk e1 x h1 q
    .exact T.ex x (.inr ⟨i,hi,h1⟩) q
   .rw [aoK e2]at h2;exact T.uh i j hi hj hij x h1 h2
 .rcases aZd hq with hq|rfl
  .exact T.vH q hq b hb
  .exact (hu b hb).1
 .by_cases e:j=k
  .subst e;rw[hc]at hcb;cases hcb;have lM:(st.rm.set j s')[j]?=some sb:=lM;rw[aIs (by rw[T.lS];exact hk)]at lM;cases lM;exact hf
  .have lM:(st.rm.set k s')[j]?=some sb:=lM;rw[atg (avX e)]at lM;exact T.full j cb sb hcb lM
 .rcases aZd hq with hq|rfl
  .exact T.wl q hq b hb
  .exact (hu b hb).2
theorem aa.event(T:aa K H A g st os n){t:Addr}(e:List V)(he:Ev g.aO.length e)(ht:H t=none):∃ts:List Addr,H A.ev=some (.lst (ts.map V.ref))/\ts.length<=n/\aa K (upd (upd H t (.tup e)) A.ev (.lst (ts.map V.ref++[.ref t]))) A g (st.tell e) os (n+1)/\bN (OW A os) H (upd (upd H t (.tup e)) A.ev (.lst (ts.map V.ref++[.ref t]))) (OW A os):=by
 obtain⟨h0,ts,h1,h2,h3⟩:=T.ev;have s1:=Zg ht (.tup e);have T1:=T.same s1;have WJ:t≠A.ev:=λz=>by rw[z,h1]at ht;cases ht
 have off:∀{x o},H x=some o->x≠A.ev->upd (upd H t (.tup e)) A.ev (.lst (ts.map V.ref++[.ref t])) x=some o:=λ{x o} q z=>by rw[Zc z];exact s1 _ _ q
 have nk:∀{x o},H x=some o->(∀xs,o≠.lst xs)->x≠A.ev:=λ{x o} q m z=>by rw[z,h1]at q;exact m _ (aDb q).symm
 have yj:=T.yj;refine⟨ts,h1,by lia,?_,⟨λx o q m=>off q λz=>?_,λx h=>.inl h⟩⟩
 .obtain ⟨dx,g1⟩:=T.ob;obtain⟨dm,g2⟩:=T.mem.ob;obtain⟨kv,g3,g4⟩:=T.mem.kept;refine⟨⟨dx,off g1 (nk g1 (λ_ z=>by cases z))⟩,off T.ss T.BX,⟨⟨dm,off g2 (nk g2 (λ_ z=>by cases z))⟩,⟨kv,off g3 (nk g3 (λ_ z=>by cases z)),g4⟩,T.mem.sup⟩,⟨λe' m=>(aUH.mp m).elim (h0 e') λm=>by rw[bau.mp m];exact he,ts++[t],by rw[Za,aK6];rfl,by rw[aE0];show _=(st.ev++[e]).length;rw[aE0,h2];rfl,λi t' e' q1 q2=>?_⟩,by show(st.ev++[e]).length<=n+1;rw[aE0];show st.ev.length+1<=n+1;lia,T.lc,T.lS,λk a c s q1 q2 q3=>(T.aW k a c s q1 q2 q3).frame λx o h q=>off q λz=>T.off k (azG.mp q1).1 x h (by simp[Bs,z]),T.off,T.uh,T.BX,T.ud,T.vH,T.full,T.wl,T.wf,off T.tb (nk T.tb (λ_ z=>by cases z))⟩;have q2:(st.ev++[e])[i]?=some e':=q2;by_cases hi:i<ts.length
  .rw [aaw hi]at q1;rw[aaw (by lia)]at q2;have q:=h3 i t' e' q1 q2;exact off q (nk q (λ_ z=>by cases z))
  .have hl:=(azG.mp q1).1;rw[aE0,ai8]at hl;have:i=ts.length:=by lia
   rw[bbj (by lia),this,alg]at q1;rw[bbj (by lia),show i-st.ev.length=0 by lia]at q2;cases q1;cases q2;rw[Zc WJ];exact Za
 .rw [z,h1]at q;cases q;exact m (.inl (by simp[Bs,z])) trivial
end
theorem Kn{R:Int->Int->Prop}(anti:∀a b,R a b->R b a->a=b):∀{l1 l2:List Int},l1.Perm l2->l1.Pairwise R->l2.Pairwise R->l1=l2
 | [],l2,p,_,_=>(List.nil_perm.mp p).symm
 |a ::l1,l2,p,h1,h2=>by
  match l2,p,h2 with
  | [],p,_=>exact absurd p.length_eq (by simp)
  |b ::l2,p,h2=>
   have e:a=b:=by
    by_cases c:a=b
    .exact c
    .have ma:a∈l2:=(aCP.mp (p.mem_iff.mp aAX)).resolve_left c;have mb:b∈l1:=(aCP.mp (p.mem_iff.mpr aAX)).resolve_left (λz=>c z.symm);exact anti a b ((acQ.mp h1).1 b mb) ((acQ.mp h2).1 a ma)
   subst e;rw[Kn anti (List.Perm.cons_inv p) (acQ.mp h1).2 (acQ.mp h2).2]
theorem Sq{us:Int->Int}{ms:List Int}(a b:Int)(h1:sJ us ms a b)(h2:sJ us ms b a):a=b:=by
 rcases h1 with h1|⟨h1,h3⟩ <;> rcases h2 with h2|⟨h2,h4⟩ <;> lia
theorem Zip{ru:Str}{us:Int->Int}{pl:Int}{ms:List Int}{g g':Option Int}(h:cM ru us pl ms g)(h':cM ru us pl ms g'):g=g':=by
 by_cases c:(ms.length:Int)<pl
 .rw [h.1 c,h'.1 c]
 .obtain ⟨x,r,rfl,p,f,n⟩:=h.2 c;obtain⟨x',r',rfl,p',f',n'⟩:=h'.2 c;have e:x ::r=x' ::r':=by
   by_cases q:ru ="few"
   .exact Kn Sq (p.trans p'.symm) (f q) (f' q)
   .rw [n q,n' q]
  injection e with e1 _
  rw[e1]
open Classical in
noncomputable def cA(c:Cf)(s:Rm)(b:Int):Option Int:=if h:∃g,cM c.ru s.us c.pl (Zl c.sh (b%c.sh) s.seq) g then Classical.choose h else none
theorem NU{c:Cf}{s:Rm}{b:Int}{g:Option Int}(h:cM c.ru s.us c.pl (Zl c.sh (b%c.sh) s.seq) g):cA c s b=g:=by
 unfold cA;have e:∃g,cM c.ru s.us c.pl (Zl c.sh (b%c.sh) s.seq) g:=⟨g,h⟩;rw[dif_pos e];exact Zip (Classical.choose_spec e) h
theorem Ziq{sh pl:Int}{seq seq':List Int}(h:∀s,((Zl sh s seq).length:Int)<=pl)(hs:seq'.Sublist seq):∀s,((Zl sh s seq').length:Int)<=pl:=λs=>by
 have q:(Zl sh s seq').Sublist (Zl sh s seq):=List.Sublist.filter _ hs;have:=q.length_le;have:=h s;lia
theorem Zir{sh pl:Int}{seq seq':List Int}(h:∀s,((Zl sh s seq).length:Int)<=pl)(hs:seq'.Perm seq):∀s,((Zl sh s seq').length:Int)<=pl:=λs=>by
 have q:(Zl sh s seq').Perm (Zl sh s seq):=List.Perm.filter _ hs;rw[q.length_eq];exact h s
theorem ZkM{sh pl b:Int}{seq:List Int}(h:∀s,((Zl sh s seq).length:Int)<=pl)(hb:((Zl sh (b%sh) seq).length:Int)<pl):∀s,((Zl sh s (seq++[b])).length:Int)<=pl:=λs=>by
 rw[ID];split
 .rename_i e;rw[<-e,aE0];show((_+1:Nat):Int)<=pl;lia
 .exact h s
def j8(c:Cf)(s:Rm)(b:Int):Rm:=⟨if c.ru ="old" then s.seq.erase b++[b] else s.seq,bump s.us b,s.wd,s.fr⟩
theorem Bk{c:Cf}{s:Rm}{b:Int}(hb:b∈s.seq):(j8 c s b).seq.Perm s.seq:=by
 unfold j8;by_cases e:c.ru ="old"
 .rw [aYH e];exact(amH).trans (List.perm_cons_erase hb).symm
 .rw [aoK e]
def eW(k:Nat)(b:Int):List V:=[.str "words",.int (k:Int),.int b]
def eI(k:Nat)(b:Int):List V:=[.str "in",.int (k:Int),.int b]
def eO(k:Nat)(b:Int):List V:=[.str "out",.int (k:Int),.int b]
def eF(k:Nat):List V:=[.str "found",.int (k:Int)]
def aI.n(g:aI):Nat:=g.aO.length
def bR(g:aI)(k:Nat)(b:Int)(ws:List Int)(st:ak):ak:=if k=g.n then ak.tell { st with mem:=qH g.size st.mem b ws } (eW k b) else(st.set k (dY (st.at_ k) b ws)).tell (eW k b)
def bE(k:Nat)(b:Int)(ws:List Int)(st:ak):ak:=(st.set k (AU (st.at_ k) b ws)).tell (eI k b)
def cB(k:Nat)(b:Int)(st:ak):ak:=(st.tell (eO k b)).set k (jC (st.at_ k) b)
def ly(st:ak):ak:={ st with ev:=[] }
def TA.re(A:TA)(e:Addr):TA:={ A with ev:=e }
def Res(K:W.Frag)(H:Hp)(A:TA)(g:aI)(os:OS)(st':ak)(m:Nat)(Q:Hp->Prop):Prop:=∀H' os',aa K H' A g st' os' m->bN (OW A os) H H' (OW A os')->Q H'
theorem tups{O O':Addr->Prop}{H H':Hp}(p:bN O H H' O'){x:Addr}{ys:List V}(h:H x=some (.tup ys)):H' x=some (.tup ys):=p.kp x _ h λ_=>id
section
variable{K:W.Frag}{H H':Hp}{A:TA}{g:aI}{st:ak}{os:OS}{n:Nat}
theorem aa.ix{k:Nat}{a:SA}(ha:A.as[k]?=some a):fP (A.as.map λa=>V.ref a.sp) (k:Int)=some (.ref a.sp):=yp (by rw[aeb,ha];rfl)
theorem aa.ln(T:aa K H A g st os n):g.n=A.as.length:=T.lc
theorem bN.out{O O':Addr->Prop}(p:bN O H H' O'){x:Addr}{o:HO}(h:H x=some o)(n:¬O x):H' x=some o/\¬O' x:=⟨p.kp x o h λz=>absurd z n,λz=>(p.fr x z).elim n λq=>by rw[h]at q;cases q⟩
theorem aa.fresh(T:aa K H A g st os n){x:Addr}(h:H x=none):¬OW A os x:=λz=>T.ex x z h
theorem aa.told(T:aa K H A g st os n){e' dx:Addr}(he:H e'=none):aa K (upd (upd H e' (.lst [])) A.p (.ins (af K "Stairs") dx (bw g.size A.ss A.bm A.as.length e' g.kind))) (A.re e') g (ly st) os 0:=by
 obtain⟨d0,h1⟩:=T.ob;obtain⟨dm,h2⟩:=T.mem.ob;obtain⟨kv,h3,h4⟩:=T.mem.kept;have s:=Zg he (.lst ([]:List V));have WQ:A.p≠e':=Ze h1 he;have off:∀{x o},H x=some o->x≠A.p->upd (upd H e' (.lst [])) A.p (.ins (af K "Stairs") dx (bw g.size A.ss A.bm A.as.length e' g.kind)) x=some o:=λ{x o} q z=>by rw[Zc z];exact s _ _ q
 have nk:∀{x o},H x=some o->(∀C d f,o≠.ins C d f)->x≠A.p:=λ{x o} q m z=>by rw[z,h1]at q;exact m _ _ _ (aDb q).symm
 have nb:∀x,(∃k,k<A.as.length/\os k x)->¬Bs (A.re e') x:=λx ⟨k,hk,h⟩ z=>by
  rcases z with z|z|z|z|z
  .exact T.off k hk x h (.inl z)
  .exact T.off k hk x h (.inr (.inl z))
  .exact T.off k hk x h (.inr (.inr (.inl z)))
  .exact T.off k hk x h (.inr (.inr (.inr (.inl z))))
  .have z:x=e':=z;exact T.ex x (.inr ⟨k,hk,h⟩) (z ▸he)
 refine⟨⟨dx,Za⟩,off T.ss (nk T.ss (λ_ _ _ z=>by cases z)),⟨⟨dm,off h2 (avX T.ud)⟩,⟨kv,off h3 (nk h3 (λ_ _ _ z=>by cases z)),h4⟩,T.mem.sup⟩,⟨(λe m=>by cases m),[],by show _=some (HO.lst []);rw[show(A.re e').ev=e' from rfl,Zc (avX WQ)];exact Za,rfl,λi t e q _=>by simp at q⟩,apX _,T.lc,T.lS,λk a c s' q1 q2 q3=>(T.aW k a c s' q1 q2 q3).frame λx o h q=>off q λz=>T.off k (azG.mp q1).1 x h (.inl z),λk hk x h=>nb x ⟨k,hk,h⟩,T.uh,λz=>?_,T.ud,T.vH,T.full,T.wl,T.wf,off T.tb (nk T.tb (λ_ _ _ z=>by cases z))⟩;have z:A.ss=e':=z;have q:=T.ss;rw[z,he]at q;cases q
end
inductive pV(K:W.Frag)(vs:List V)(H:Hp)(Q:VK)(E:XK):Prop
 |mk (A:TA) (g:aI) (st:ak) (os:OS) (n k:Nat) (a:SA):vs=[.ref A.p,.int (k:Int)]->aa K H A g st os n->A.as[k]?=some a->Q (.ref a.sp) H->pV K vs H Q E
example:(kP tZ):=by
 obtain ⟨A,g,st,os,n,k,a,rfl,R,ha,q⟩:=h;refine⟨_,(Zd (aE (uz (SJ AO kM Zi (pv 1) (Zk (K:=K) rfl (pv 0) rfl))) (Zh t9) Zt)
   (Zh (Zp (au (Zo (K:=K) rfl) (Zk (K:=K) rfl (pv 0) rfl) (pv 1) (λ_ _=>rfl))))),?_⟩
 obtain⟨dx,h1⟩:=R.ob;have hk:k<A.as.length:=(azG.mp ha).1;refine⟨_,rfl,_,_,rfl,rfl,_,rfl,d8 (aSJ (by lia)) ⟨_,rfl,A.p,_,dx,_,_,rfl,h1,T.aG,T.vh,xP ..,_,_,rfl,rfl,_,rfl,cz (by rw[aSJ (by lia)];rfl) ?_⟩⟩;exact⟨_,rfl,A.p,_,dx,_,_,rfl,h1,T.aG,T.t7,ZJ ..,_,rfl,A.ss,_,_,_,rfl,rfl,aB.of R.ss,aa.ix ha,q⟩
def ZX(g:aI)(st:ak)(k:Nat)(b:Int):List Int:=if k=g.n then br g.size st.mem b else(st.at_ k).wd b
inductive pU(K:W.Frag)(vs:List V)(H:Hp)(Q:VK)(E:XK):Prop
 |mk (A:TA) (g:aI) (st:ak) (os:OS) (n k:Nat) (b:Int):vs=[.ref A.p,.int (k:Int),.int b]->aa K H A g st os n->k<=g.n->(k<g.n->b∈(st.at_ k).seq)->0<=b->b<=1000000->(∀l H',H l=none->ay H H'->H' l=some (.lst ((ZX g st k b).map V.int))->Q (.ref l) H')->pU K vs H Q E
example:(kO AL EY tZ wI):=by
 obtain ⟨A,g,st,os,n,k,b,rfl,R,hk,hb,b0,b1,q⟩:=h;refine⟨_,(Zd (aE (Zv aY (pv 1) (Zk (K:=K) rfl (pv 0) rfl) (Zu _)) (Zh (Zp (Zj EY hr.m T.vF (Zk (K:=K) rfl (pv 0) rfl) (pc (pv 2) Zb)))) Zt)
   (Zh (Zp (Zj wI hr.m T.fH (Zj tZ hr.m T.aG (pv 0) (pc (pv 1) Zb)) (pc (pv 2) Zb))))),?_⟩
 obtain⟨dx,h1⟩:=R.ob;obtain⟨dm,h2⟩:=R.mem.ob;have ln:=R.ln;unfold ZX at q;refine⟨_,rfl,_,rfl,A.p,_,dx,_,_,rfl,h1,T.aG,T.vh,xP ..,rfl,_,rfl,Ey (λe=>?_) (λe=>?_)⟩
 .rw [aYH (by lia)]at q;exact⟨_,rfl,A.p,_,dx,_,_,rfl,h1,T.aG,T.Jc,Ob ..,A.bm,dm,_,rfl,h2,wY ..,_,rfl,A.bm,A.dk,g.size,b,st.mem,g.U,rfl,R.mem,by have:=R.wf.z0;lia,R.wf.z1,b0,b1,q⟩
 .rw [aoK (by lia)]at q;obtain⟨a,e1,e2,e3,B⟩:=R.at_ (k:=k) (by lia);obtain⟨ds,h3⟩:=B.aW.ob;exact⟨_,rfl,A.p,dx,_,rfl,h1,aq ..,_,rfl,A,g,st,os,n,k,a,rfl,R,e1,a.sp,ds,_,rfl,h3,cV ..,_,rfl,a,_,_,_,b,rfl,B,hb (by lia),λl hl=>q l _ hl (Zg hl _) Za⟩
inductive ko(K:W.Frag)(vs:List V)(H:Hp)(Q:VK)(_v3:XK):Prop
 |mk (A:TA) (g:aI) (st:ak) (os:OS) (n:Nat):vs=[.ref A.p]->aa K H A g st os n->(∀e' H',aa K H' (A.re e') g (ly st) os 0->rB g.n H' A.ev st.ev->¬OW (A.re e') os A.ev->bN (OW A os) H H' (OW (A.re e') os)->Q (.ref A.ev) H')->ko K vs H Q _v3
example:(gW wH):=by
 obtain ⟨A,g,st,os,n,rfl,R,q⟩:=h;refine⟨_,(Zd (cK 1 nd (Zk (K:=K) rfl (pv 0) rfl))
   (Zd (pM (pv 0) (sd Zb) rfl)
   (Zh (Zp (pv 1))))),?_⟩
 obtain⟨dx,h1⟩:=R.ob;refine⟨_,rfl,A.p,_,dx,_,_,rfl,h1,T.aG,T.BO,IB ..,gN ?_⟩;try dsimp only
 refine⟨(sL 0),λe' he=>⟨_,rfl,A.p,_,dx,_,rfl,Zg he _ _ _ h1,T.aG,T.BO,(by rw[Om];show 6<1000;decide),?_⟩⟩;rw[ZlS];have off:∀{x o},H x=some o->x≠A.p->upd (upd H e' (.lst [])) A.p (.ins (af K "Stairs") dx (bw g.size A.ss A.bm A.as.length e' g.kind)) x=some o:=λ{x o} q z=>by rw[Zc z];exact Zg he _ _ _ q
 have np:∀{x o},H x=some o->(∀C d f,o≠.ins C d f)->x≠A.p:=λ{x o} q m z=>by rw[z,h1]at q;exact m _ _ _ (aDb q).symm
 obtain⟨v0,ts,v1,v2,v3⟩:=R.ev;have WI:A.ev≠e':=Ze v1 he;refine⟨_,rfl,q e' _ (R.told he) ⟨v0,ts,off v1 (np v1 (λ_ _ _ z=>by cases z)),v2,λi t e a b=>off (v3 i t e a b) (np (v3 i t e a b) (λ_ _ _ z=>by cases z))⟩ (λz=>?_) ⟨λx o e m=>off e λz=>?_,λx h=>?_⟩⟩
 .rcases z with z|⟨k,hk,z⟩
  .obtain ⟨dm,h2⟩:=R.mem.ob;obtain⟨kv,h3,_⟩:=R.mem.kept;rcases z with z|z|z|z|z
   .exact np v1 (λ_ _ _ z=>by cases z) z
   .exact R.BX z.symm
   .rw [show(A.re e').bm=A.bm from rfl]at z;rw[z,h2]at v1;cases v1
   .rw [show(A.re e').dk=A.dk from rfl]at z;rw[z,h3]at v1;cases v1
   .exact WI z
  .exact R.off k hk _ z (by simp[Bs])
 .rw [z,h1]at e;cases e;exact m (.inl (.inl z)) trivial
 .rcases h with h|h
  .rcases h with h|h|h|h|h
   .exact .inl (.inl (.inl h))
   .exact .inl (.inl (.inr (.inl h)))
   .exact .inl (.inl (.inr (.inr (.inl h))))
   .exact .inl (.inl (.inr (.inr (.inr (.inl h)))))
   .exact .inr (by rw[h];exact he)
  .exact .inl (.inr h)
inductive nX(K:W.Frag)(vs:List V)(H:Hp)(Q:VK)(E:XK):Prop
 |mk (A:TA) (g:aI) (st:ak) (os:OS) (n k:Nat) (b:Int):vs=[.ref A.p,.int (k:Int),.int b]->aa K H A g st os n->k<g.n->(∀H',ay H H'->cM (g.cf k).ru (st.at_ k).us (g.cf k).pl (Zl (g.cf k).sh (b%(g.cf k).sh) (st.at_ k).seq) (cA (g.cf k) (st.at_ k) b)->Q (wO (cA (g.cf k) (st.at_ k) b)) H')->nX K vs H Q E
example:(jF vj AJ):=by
 obtain⟨A,g,st,os,n,k,b,rfl,R,hk,q⟩:=h;refine⟨_,(Zh (Zp (Zj AJ hr.m T.dQ (Zk (K:=K) rfl (au (Zo (K:=K) rfl) (Zk (K:=K) rfl (pv 0) rfl) (pv 1) (λ_ _=>rfl)) rfl) (pc (pv 2) Zb)))),?_⟩;obtain⟨dx,h1⟩:=R.ob;have ln:=R.ln;obtain⟨a,e1,e2,e3,B⟩:=R.at_ (k:=k) (by lia);obtain⟨u1,u2,u3,u4,u5,u6⟩:=R.pJ (k:=k) (by lia);obtain⟨ds,h3⟩:=B.aW.ob;obtain⟨dr,h4⟩:=B.aW.room.ob;have fl:=u3 (b%(g.cf k).sh);refine⟨_,rfl,A.p,_,dx,_,_,rfl,h1,T.aG,T.t7,ZJ ..,_,rfl,A.ss,_,_,_,rfl,rfl,aB.of R.ss,aa.ix e1,a.sp,_,ds,_,_,rfl,h3,T.fH,T.yQ,Bm ..,a.rp,dr,_,rfl,h4,bJ ..,_,rfl,a.rp,b,(g.cf k).sh,(g.cf k).pl,(g.cf k).ru,a.ls,a.ao,a.du,(st.at_ k).seq,(st.at_ k).us,_,rfl,B.aW.room,R.tb,u4,by lia,λgone H' gp sm=>?_⟩;have e:=NU (s:=st.at_ k) gp;have q':=q H' sm (by rw[e];exact gp);rw[e]at q';exact q'
inductive vL(K:W.Frag)(vs:List V)(H:Hp)(Q:VK)(E:XK):Prop
 |mk (A:TA) (g:aI) (st:ak) (os:OS) (n k:Nat):vs=[.ref A.p,.int (k:Int)]->aa K H A g st os n->k<=g.n->n<=900000->Res K H A g os (st.tell (eF k)) (n+1) (Q .aQ)->vL K vs H Q E
theorem big{n m:Nat}(h:n<=m)(hm:m<=900000):n<sizeLine:=a3J (alM h hm) (by decide)
example:(fN EZ):=by
 obtain⟨A,g,st,os,n,k,rfl,R,XO,hl,q⟩:=h;refine⟨_,(Zh (Zn (Bg (K:=K) rfl (jn aRr aJi axI C9 (Zk (K:=K) rfl (pv 0) rfl) (pc (qS (pc ZV (pc (pv 1) Zb))) Zb))))),?_⟩;obtain⟨dx,h1⟩:=R.ob;obtain⟨_,K8,v1,_⟩:=R.ev;refine⟨_,rfl,A.p,_,dx,_,_,rfl,h1,T.aG,T.BO,IB ..,.inl ⟨rfl,_,aB.of v1⟩,_,rfl,(sL 2),λt ht=>?_⟩;obtain⟨ts,w1,w2,R2,p2⟩:=R.event (eF k) (.inl ⟨k,XO,rfl⟩) ht;exact⟨A.ev,_,_,rfl,rfl,Zg ht _ _ _ w1,big (by rw[aW8];exact w2) hl,q _ _ R2 p2⟩
inductive sR(K:W.Frag)(vs:List V)(H:Hp)(Q:VK)(E:XK):Prop
 |mk (A:TA) (g:aI) (st:ak) (os:OS) (n k:Nat) (b:Int):vs=[.ref A.p,.int (k:Int),.int b]->aa K H A g st os n->k<g.n->b∈(st.at_ k).seq->Res K H A g os (st.set k (j8 (g.cf k) (st.at_ k) b)) n (Q .aQ)->sR K vs H Q E
example:(jD AF GG):=by
 obtain⟨A,g,st,os,n,k,b,rfl,R,hk,hb,q⟩:=h;refine⟨_,(Zh (Zn (Zj GG hr.m T.dQ (Zk (K:=K) rfl (au (Zo (K:=K) rfl) (Zk (K:=K) rfl (pv 0) rfl) (pv 1) (λ_ _=>rfl)) rfl) (pc (pv 2) Zb)))),?_⟩;obtain⟨dx,h1⟩:=R.ob;have ln:=R.ln;obtain⟨a,e1,e2,e3,B⟩:=R.at_ (k:=k) (by lia);obtain⟨u1,u2,u3,u4,u5,u6⟩:=R.pJ (k:=k) (by lia);obtain⟨ds,h3⟩:=B.aW.ob;obtain⟨dr,h4⟩:=B.aW.room.ob;refine⟨_,rfl,A.p,_,dx,_,_,rfl,h1,T.aG,T.t7,ZJ ..,_,rfl,A.ss,_,_,_,rfl,rfl,aB.of R.ss,aa.ix e1,a.sp,_,ds,_,_,rfl,h3,T.fH,T.yQ,Bm ..,a.rp,dr,_,rfl,h4,bJ ..,_,rfl,a.rp,b,(g.cf k).sh,(g.cf k).pl,(g.cf k).ru,a.ls,a.ao,a.du,(st.at_ k).seq,(st.at_ k).us,_,rfl,B.aW.room,by lia,hb,by lia,λH' R1 r1=>?_⟩;have um:=λx=>(Bk (c:=g.cf k) hb).mem_iff (a:=x);obtain⟨R2,p2⟩:=R.iQ e1 e2 (B.iQ R1 r1 um) (B.aW.cK r1) (λx hx=>u2 x ((um x).mp hx)) (Zir u3 (Bk (c:=g.cf k) hb));exact q H' _ R2 p2
inductive qc(K:W.Frag)(vs:List V)(H:Hp)(Q:VK)(E:XK):Prop
 |mk (A:TA) (g:aI) (st:ak) (os:OS) (n k:Nat) (b:Int) (lw:Addr) (ws:List Int):vs=[.ref A.p,.int (k:Int),.int b,.ref lw]->aa K H A g st os n->k<g.n->b∉(st.at_ k).seq->b∈g.U->((Zl (g.cf k).sh (b%(g.cf k).sh) (st.at_ k).seq).length:Int)<(g.cf k).pl->H lw=some (.lst (ws.map V.int))->(¬OW A os lw)->ws.length=g.size.toNat->n<=900000->Res K H A g os (bE k b ws st) (n+1) (Q .aQ)->qc K vs H Q E
example:(iM AH ET):=by
 obtain ⟨A,g,st,os,n,k,b,lw,ws,rfl,R,hk,hb,P1,hsh,lO,nO,oU,hl,q⟩:=h;refine⟨_,(Zd (Zn (Zj ET hr.m T.fH (au (Zo (K:=K) rfl) (Zk (K:=K) rfl (pv 0) rfl) (pv 1) (λ_ _=>rfl)) (pc (pv 2) (pc (pv 3) Zb))))
   (Zh (Zn (Bg (K:=K) rfl (jn aRr aJi axI C9 (Zk (K:=K) rfl (pv 0) rfl) (pc (qS (pc ZV (pc (pv 1) (pc (pv 2) Zb)))) Zb)))))),?_⟩
 obtain⟨dx,h1⟩:=R.ob;have ln:=R.ln;obtain⟨a,e1,e2,e3,B⟩:=R.at_ (k:=k) (by lia);obtain⟨u1,u2,u3,u4,u5,u6⟩:=R.pJ (k:=k) (by lia);obtain⟨ds,h3⟩:=B.aW.ob;refine⟨_,rfl,A.p,_,dx,_,_,rfl,h1,T.aG,T.t7,ZJ ..,_,rfl,A.ss,_,_,_,rfl,rfl,aB.of R.ss,aa.ix e1,a.sp,ds,_,rfl,h3,cV ..,_,rfl,_,rfl,a,_,_,_,b,lw,ws,rfl,B,R.tb,lO,(λz=>nO (.inr ⟨k,by lia,z⟩)),hb,u1,u4,u5,hsh,λH1 O1 B1 p1=>?_⟩;obtain⟨R2,p2⟩:=R.iQ e1 e2 B1 p1 (λx hx=>by
  show x∈g.U/\(if x=b then ws else(st.at_ k).wd x).length=_;by_cases z:x=b
  .rw [aYH z,z];exact⟨P1,oU⟩
  .rw [aoK z];exact u2 x ((aUH.mp hx).resolve_right λm=>z (bau.mp m))) (ZkM u3 hsh)
 obtain⟨jq,g2⟩:=R2.ob;obtain⟨_,K8,v1,_⟩:=R2.ev;refine⟨_,rfl,A.p,_,jq,_,_,rfl,g2,T.aG,T.BO,IB ..,.inl ⟨rfl,_,aB.of v1⟩,_,rfl,_,rfl,(sL 3),λt ht=>?_⟩;obtain⟨ts,w1,w2,R4,p4⟩:=R2.event (eI k b) (.inr (.inl ⟨k,b,⟨hk,R.wf.ub b P1⟩,.inl rfl⟩)) ht;exact⟨A.ev,_,_,rfl,rfl,Zg ht _ _ _ w1,big (by rw[aW8];exact w2) hl,q _ _ R4 (p2.trans p4)⟩
inductive jY(K:W.Frag)(vs:List V)(H:Hp)(Q:VK)(E:XK):Prop
 |mk (A:TA) (g:aI) (st:ak) (os:OS) (n k:Nat) (b:Int):vs=[.ref A.p,.int (k:Int),.int b]->aa K H A g st os n->k<g.n->b∈(st.at_ k).seq->n<=900000->(∀H' os' t l,H' t=some (.tup [.ref l,.bl ((st.at_ k).fr b)])->H' l=some (.lst (((st.at_ k).wd b).map V.int))->¬OW A os' l->aa K H' A g (cB k b st) os' (n+1)->bN (OW A os) H H' (OW A os')->Q (.ref t) H')->jY K vs H Q E
example:(jG oq EX):=by
 obtain ⟨A,g,st,os,n,k,b,rfl,R,hk,hb,hl,q⟩:=h;refine⟨_,(Zd (Zn (Bg (K:=K) rfl (jn aRr aJi axI C9 (Zk (K:=K) rfl (pv 0) rfl) (pc (qS (pc ZV (pc (pv 1) (pc (pv 2) Zb)))) Zb))))
   (Zh (Zp (Zj EX hr.m T.fH (au (Zo (K:=K) rfl) (Zk (K:=K) rfl (pv 0) rfl) (pv 1) (λ_ _=>rfl)) (pc (pv 2) Zb))))),?_⟩
 obtain⟨dx,h1⟩:=R.ob;obtain⟨_,K8,v1,_⟩:=R.ev;have ln:=R.ln;refine⟨_,rfl,A.p,_,dx,_,_,rfl,h1,T.aG,T.BO,IB ..,.inl ⟨rfl,_,aB.of v1⟩,_,rfl,_,rfl,(sL 3),λt ht=>?_⟩;obtain⟨ts,w1,w2,R4,p4⟩:=R.event [.str "out",.int (k:Int),.int b] (.inr (.inl ⟨k,b,⟨hk,R.wf.ub b ((R.pJ (k:=k) (by lia)).2.1 b hb).1⟩,.inr rfl⟩)) ht;refine⟨A.ev,_,_,rfl,rfl,Zg ht _ _ _ w1,big (by rw[aW8];exact w2) hl,?_⟩;generalize upd (upd H t (.tup [.str "out",.int (k:Int),.int b])) A.ev (.lst (ts.map V.ref++[.ref t]))=H4 at *;obtain⟨CP,g4⟩:=R4.ob;obtain⟨a,e1,e2,e3,B⟩:=R4.at_ (k:=k) (by lia);obtain⟨u1,u2,u3,u4,u5,u6⟩:=R4.pJ (k:=k) (by lia);obtain⟨ds,h3⟩:=B.aW.ob;refine⟨_,rfl,A.p,_,CP,_,_,rfl,g4,T.aG,T.t7,ZJ ..,_,rfl,A.ss,_,_,_,rfl,rfl,aB.of R4.ss,aa.ix e1,a.sp,ds,_,rfl,h3,cV ..,_,rfl,a,_,_,_,b,rfl,B,hb,λt2 l H5 O5 et el nl B' p5 own=>?_⟩;obtain⟨R5,p6⟩:=R4.iQ e1 e2 B' p5 (λx hx=>u2 x (aF0 hx)) (Ziq u3 List.erase_sublist);refine q H5 _ t2 l et el (λz=>?_) R5 (p4.trans p6);rcases z with z|⟨j,hj,z⟩
 .rcases own with o|o
  .exact R4.off k (by lia) l o z
  .exact R4.ex l (.inl z) o
 .unfold OS.set at z;by_cases e:j=k
  .rw [aYH e]at z;exact nl z
  .rw [aoK e]at z;rcases own with o|o
   .exact R4.uh j k hj (by lia) e l z o
   .exact R4.ex l (.inr ⟨j,hj,z⟩) o
section
variable{K:W.Frag}{H H':Hp}{A:TA}{g:aI}{st:ak}{os:OS}{n:Nat}
theorem aa.LS{mem':Int->Int}(T:aa K H A g st os n)(M:dB K H' A.bm A.dk g.size mem' g.U)(f:∀x o,H x=some o->x≠A.dk->H' x=some o):aa K H' A g { st with mem:=mem' } os n/\bN (OW A os) H H' (OW A os):=by
 obtain⟨dx,h1⟩:=T.ob;obtain⟨kv,h2,_⟩:=T.mem.kept;have nk:∀{x o},H x=some o->(∀k,o≠.dK k)->H' x=some o:=λ{x o} q m=>f x o q λz=>by rw[z,h2]at q;exact m _ (aDb q).symm
 refine⟨⟨⟨dx,nk h1 (λ_ z=>by cases z)⟩,nk T.ss (λ_ z=>by cases z),M,T.ev.frame (λo e=>?_) (λx ys e=>nk e (λ_ z=>by cases z)),T.yj,T.lc,T.lS,λk a c s q1 q2 q3=>(T.aW k a c s q1 q2 q3).frame λx o h q=>f x o q λz=>T.off k (azG.mp q1).1 x h (by simp[Bs,z]),T.off,T.uh,T.BX,T.ud,T.vH,T.full,T.wl,T.wf,nk T.tb (λ_ z=>by cases z)⟩,⟨λx o e m=>f x o e λz=>?_,λx h=>.inl h⟩⟩
 .obtain ⟨_,ts,v,_⟩:=T.ev;rw[v]at e;cases e;exact nk v (λ_ z=>by cases z)
 .rw [z,h2]at e;cases e;exact m (.inl (by simp[Bs,z])) trivial
end
inductive tD(K:W.Frag)(vs:List V)(H:Hp)(Q:VK)(E:XK):Prop
 |mk (A:TA) (g:aI) (st:ak) (os:OS) (n k:Nat) (b:Int) (lw:Addr) (ws:List Int):vs=[.ref A.p,.int (k:Int),.int b,.ref lw]->aa K H A g st os n->k<=g.n->(k<g.n->b∈(st.at_ k).seq)->b∈g.U->H lw=some (.lst (ws.map V.int))->(¬OW A os lw)->ws.length=g.size.toNat->n<=900000->Res K H A g os (bR g k b ws st) (n+1) (Q .aQ)->tD K vs H Q E
example:(oB uI E8 Ag):=by
 obtain ⟨A,g,st,os,n,k,b,lw,ws,rfl,R,hk,hb,bU,lO,nO,oU,hl,q⟩:=h;refine⟨_,(Zd (aE (Zv aY (pv 1) (Zk (K:=K) rfl (pv 0) rfl) (Zu _)) (Zh (Zn (Zj E8 hr.m T.vF (Zk (K:=K) rfl (pv 0) rfl) (pc (pv 2) (pc (pv 3) Zb))))) (Zh (Zn (Zj Ag hr.m T.fH (au (Zo (K:=K) rfl) (Zk (K:=K) rfl (pv 0) rfl) (pv 1) (λ_ _=>rfl)) (pc (pv 2) (pc (pv 3) Zb))))))
   (Zh (Zn (Bg (K:=K) rfl (jn aRr aJi axI C9 (Zk (K:=K) rfl (pv 0) rfl) (pc (qS (pc ZV (pc (pv 1) (pc (pv 2) Zb)))) Zb)))))),?_⟩
 obtain⟨dx,h1⟩:=R.ob;have ln:=R.ln;refine Ej (λσ G=>σ=[some (.ref A.p),some (.int (k:Int)),some (.int b),some (.ref lw)]/\∃os',aa K G A g (if k=g.n then{ st with mem:=qH g.size st.mem b ws } else st.set k (dY (st.at_ k) b ws)) os' n/\bN (OW A os) H G (OW A os')) (λD' _ k'=>?_) ?_
 .refine ⟨_,rfl,_,rfl,A.p,_,dx,_,_,rfl,h1,T.aG,T.vh,xP ..,rfl,_,rfl,Ey (λe=>?_) (λe=>?_)⟩
  .obtain ⟨dm,h2⟩:=R.mem.ob;have z0:=R.wf.z0;obtain⟨b0,b1⟩:=R.wf.ub b bU;refine⟨_,rfl,A.p,_,dx,_,_,rfl,h1,T.aG,T.Jc,Ob ..,A.bm,dm,_,rfl,h2,wY ..,_,rfl,_,rfl,A.bm,A.dk,g.size,b,st.mem,g.U,lw,ws,rfl,R.mem,by lia,R.wf.z1,b0,b1,bU,R.wf.lU,lO,oU,λH1 M1 f1=>?_⟩;obtain⟨R1,p1⟩:=R.LS M1 f1;rw[aYH (by lia)]at k';exact k' _ _ ⟨rfl,_,R1,p1⟩
  .obtain ⟨a,e1,e2,e3,B⟩:=R.at_ (k:=k) (by lia);obtain⟨u1,u2,u3,u4,u5,u6⟩:=R.pJ (k:=k) (by lia);obtain⟨ds,kvs,h3,h4,h5,h6⟩:=B.lay (hb (by lia)) ws (Q:=D'.nx [some (.ref A.p),some (.int (k:Int)),some (.int b),some (.ref lw)]) (λH' O' B' p'=>by
    obtain⟨R1,p1⟩:=R.iQ e1 e2 B' p' (λx hx=>by
     show x∈g.U/\(if x=b then ws else(st.at_ k).wd x).length=_;by_cases z:x=b
     .rw [aYH z,z];exact⟨bU,oU⟩
     .rw [aoK z];exact u2 x hx) u3
    rw[aoK (by lia)]at k';exact k' _ _ ⟨rfl,_,R1,p1⟩)
   exact⟨_,rfl,A.p,_,dx,_,_,rfl,h1,T.aG,T.t7,ZJ ..,_,rfl,A.ss,_,_,_,rfl,rfl,aB.of R.ss,aa.ix e1,a.sp,ds,_,rfl,h3,cV ..,_,rfl,_,rfl,a.sp,ds,a.rp,a.dh,a.df,(g.cf k).late,kvs,b,lw,_,rfl,h3,h4,by lia,lO,h6⟩
 rintro _ G ⟨rfl,bO,R2,p2⟩;obtain⟨jq,g2⟩:=R2.ob;obtain⟨_,K8,v1,_⟩:=R2.ev;refine⟨_,rfl,A.p,_,jq,_,_,rfl,g2,T.aG,T.BO,IB ..,.inl ⟨rfl,_,aB.of v1⟩,_,rfl,_,rfl,(sL 3),λt ht=>?_⟩;obtain⟨ts,w1,w2,R4,p4⟩:=R2.event (eW k b) (.inr (.inr ⟨k,b,⟨hk,R.wf.ub b bU⟩,rfl⟩)) ht;refine⟨A.ev,_,_,rfl,rfl,Zg ht _ _ _ w1,big (by rw[aW8];exact w2) hl,q _ _ ?_ (p2.trans p4)⟩;unfold bR;by_cases c:k=g.n
 .rw [aYH c]at R4 ⊢;exact R4
 .rw [aoK c]at R4 ⊢;exact R4
def pO(g:aI)(s:Rm)(sp:Int):Int:=(s.wd (sp/g.size)).getD (sp%g.size).toNat 0
inductive pS(K:W.Frag)(vs:List V)(H:Hp)(Q:VK)(E:XK):Prop
 |mk (A:TA) (g:aI) (st:ak) (os:OS) (n k:Nat) (sp:Int):vs=[.ref A.p,.int (k:Int),.int sp]->aa K H A g st os n->k<g.n->sp/g.size∈(st.at_ k).seq->(∀H',ay H H'->Q (.int (pO g (st.at_ k) sp)) H')->pS K vs H Q E
theorem HR{ws:List Int}{m:Nat}{i:Int}(l:ws.length=m)(h0:0<=i)(h1:i<m):fP (ws.map V.int) i=some (.int (ws.getD i.toNat 0)):=by
 have e:(i.toNat:Int)=i:=by lia
 have hi:i.toNat<ws.length:=by lia
 have q:fP (ws.map V.int) (i.toNat:Int)=some (.int (ws.getD i.toNat 0)):=yp (by
  rw[aeb,agc,aEW hi];rfl)
 rw[e]at q;exact q
example:(iL ES wI tX):=by
 obtain⟨A,g,st,os,n,k,sp,rfl,R,hk,hb,q⟩:=h;refine⟨_,(Zh (Zp (au (Zo (K:=K) rfl) (Zj wI hr.m T.fH (au (Zo (K:=K) rfl) (Zk (K:=K) rfl (pv 0) rfl) (pv 1) (λ_ _=>rfl)) (pc (Zm tX hr.m rfl (pc (Zk (K:=K) rfl (pv 0) rfl) (pc (pv 2) Zb))) Zb)) (aj uv (pv 2) (Zk (K:=K) rfl (pv 0) rfl)) (λ_ _=>rfl)))),?_⟩;obtain⟨dx,h1⟩:=R.ob;have ln:=R.ln;obtain⟨a,e1,e2,e3,B⟩:=R.at_ (k:=k) (by lia);obtain⟨u1,u2,u3,u4,u5,u6⟩:=R.pJ (k:=k) (by lia);obtain⟨ds,h3⟩:=B.aW.ob;have z0:=R.wf.z0;have z1:=R.wf.z1;refine⟨_,rfl,A.p,_,dx,_,_,rfl,h1,T.aG,T.t7,ZJ ..,_,rfl,A.ss,_,_,_,rfl,rfl,aB.of R.ss,aa.ix e1,a.sp,ds,_,rfl,h3,cV ..,_,rfl,A.p,_,dx,_,_,rfl,h1,T.aG,T.BA,Ew ..,_,rfl,g.size,sp,rfl,by lia,by lia,a,_,_,_,_,rfl,B,hb,λl hl=>?_⟩;have s1:=Zg hl (.lst (((st.at_ k).wd (sp/g.size)).map V.int));have m0:0<=sp%g.size:=aBD _ (by lia);have m1:sp%g.size<g.size:=aIv _ (by lia);exact⟨_,rfl,_,rfl,A.p,_,dx,_,_,rfl,s1 _ _ h1,T.aG,T.BA,Ew ..,_,_,rfl,rfl,(by show 0<g.size;lia),l,_,_,_,rfl,rfl,aB.of Za,HR (u2 _ hb).2 m0 (by lia),q _ s1⟩
def vm(g:aI)(s:Rm)(sp x:Int):Rm:=dY s (sp/g.size) ((s.wd (sp/g.size)).set (sp%g.size).toNat x)
inductive m7(K:W.Frag)(vs:List V)(H:Hp)(Q:VK)(E:XK):Prop
 |mk (A:TA) (g:aI) (st:ak) (os:OS) (n k:Nat) (sp x:Int):vs=[.ref A.p,.int (k:Int),.int sp,.int x]->aa K H A g st os n->k<g.n->sp/g.size∈(st.at_ k).seq->Res K H A g os (st.set k (vm g (st.at_ k) sp x)) n (Q .aQ)->m7 K vs H Q E
example:(gV EU EW tX):=by
 obtain⟨A,g,st,os,n,k,sp,x,rfl,R,hk,hb,q⟩:=h;refine⟨_,(Zh (Zn (Zj EW hr.m T.fH (au (Zo (K:=K) rfl) (Zk (K:=K) rfl (pv 0) rfl) (pv 1) (λ_ _=>rfl)) (pc (Zm tX hr.m rfl (pc (Zk (K:=K) rfl (pv 0) rfl) (pc (pv 2) Zb))) (pc (aj uv (pv 2) (Zk (K:=K) rfl (pv 0) rfl)) (pc (pv 3) Zb)))))),?_⟩;obtain⟨dx,h1⟩:=R.ob;have ln:=R.ln;obtain⟨a,e1,e2,e3,B⟩:=R.at_ (k:=k) (by lia);obtain⟨u1,u2,u3,u4,u5,u6⟩:=R.pJ (k:=k) (by lia);obtain⟨ds,h3⟩:=B.aW.ob;have z0:=R.wf.z0;have z1:=R.wf.z1;have m0:0<=sp%g.size:=aBD _ (by lia);have m1:sp%g.size<g.size:=aIv _ (by lia);have lw:=(u2 _ hb).2;refine⟨_,rfl,A.p,_,dx,_,_,rfl,h1,T.aG,T.t7,ZJ ..,_,rfl,A.ss,_,_,_,rfl,rfl,aB.of R.ss,aa.ix e1,a.sp,ds,_,rfl,h3,cV ..,_,rfl,A.p,_,dx,_,_,rfl,h1,T.aG,T.BA,Ew ..,_,rfl,g.size,sp,rfl,by lia,by lia,_,rfl,_,rfl,A.p,_,dx,_,_,rfl,h1,T.aG,T.BA,Ew ..,_,_,rfl,rfl,(by show 0<g.size;lia),_,rfl,a,_,_,_,_,_,x,rfl,B,hb,m0,by lia,λH1 B1 p1=>?_⟩;obtain⟨R1,p2⟩:=R.iQ e1 e2 B1 p1 (λy hy=>by
  show y∈g.U/\(if y=sp/g.size then _ else(st.at_ k).wd y).length=_;by_cases z:y=sp/g.size
  .rw [aYH z,aO6,z];exact u2 _ hb
  .rw [aoK z];exact u2 y hy) u3
 exact q _ _ R1 p2
def Wr(s:Str):Prop:=s ="late" \/s ="through"
structure cD(K:W.Frag)(H:Hp)(tp:Addr)(ts:List Addr)(aO:List Cf):Prop where
 top:H tp=some (.tup (ts.map V.ref))
 len:ts.length=aO.length
 at_:∀(i:Nat)(t:Addr)(c:Cf),ts[i]?=some t->aO[i]?=some c->∃wr:Str,H t=some (.tup [.int c.sh,.int c.pl,.str c.ru,.str wr])/\c.late=decide (wr ="late")/\Wr wr
 cf:∀c∈aO,1<=c.sh/\c.sh<=64/\1<=c.pl/\c.pl<=16/\zP c.ru
theorem cD.frame{K:W.Frag}{H H':Hp}{tp:Addr}{ts:List Addr}{aO:List Cf}(p:cD K H tp ts aO)(s:∀x ys,H x=some (.tup ys)->H' x=some (.tup ys)):cD K H' tp ts aO:=
 ⟨s _ _ p.top,p.len,λi t c h1 h2=>by obtain⟨wr,e1,e2⟩:=p.at_ i t c h1 h2;exact⟨wr,s _ _ e1,e2⟩,p.cf⟩
theorem cD.same{K:W.Frag}{H H':Hp}{tp:Addr}{ts:List Addr}{aO:List Cf}(p:cD K H tp ts aO)(s:ay H H'):cD K H' tp ts aO:=
 ⟨s _ _ p.top,p.len,λi t c h1 h2=>by obtain⟨wr,e1,e2⟩:=p.at_ i t c h1 h2;exact⟨wr,s _ _ e1,e2⟩,p.cf⟩
def VV(size:Int)(ss bm:Addr)(last:Nat)(ev:Addr):List (Str×V):=ah "events" (.ref ev) (ah "last" (.int last) (ah "bottom" (.ref bm) (ah "stores" (.ref ss) (ah "size" (.int size) []))))
structure EI(K:W.Frag)(H G:Hp)(as:List SA)(aO:List Cf)(os:OS):Prop where
 at_:∀(i:Nat)(a:SA)(c:Cf),as[i]?=some a->aO[i]?=some c->av K G a c o8 (os i)
 fr:∀i,i<as.length->∀x,os i x->H x=none
 uh:∀i j,i<as.length->j<as.length->i≠j->∀x,os i x->¬os j x
theorem EI.frame{K:W.Frag}{H G G':Hp}{as:List SA}{aO:List Cf}{os:OS}{p:Addr}(m:EI K H G as aO os)(hp:H p≠none)(f:∀x o,G x=some o->x≠p->G' x=some o):EI K H G' as aO os:=
 ⟨λi a c h1 h2=>(m.at_ i a c h1 h2).frame λx o h e=>f x o e λz=>hp (z ▸m.fr i (azG.mp h1).1 x h),m.fr,m.uh⟩
theorem EI.ex{K:W.Frag}{H G:Hp}{as:List SA}{aO:List Cf}{os:OS}(m:EI K H G as aO os)(l:as.length<=aO.length){i:Nat}(hi:i<as.length){x:Addr}(h:os i x):G x≠none:=
 (m.at_ i _ _ (aEW hi) (aEW (ae8 hi l))).aW.ex x h
def uA(n:Nat):ak:=⟨List.replicate n o8,λ_=>0,[]⟩
inductive jW(K:W.Frag)(vs:List V)(H:Hp)(Q:VK)(E:XK):Prop
 |mk (p dx tp:Addr) (size:Int) (ts:List Addr) (aO:List Cf):vs=[.ref p,.int size,.ref tp]->H p=some (.ins (af K "Stairs") dx [])->cD K H tp ts aO->aO.length<=4->Tb K H->(∀(A:TA)(os:OS)(H':Hp),A.p=p->H' p=some (.ins (af K "Stairs") dx (VV size A.ss A.bm A.as.length A.ev))->(∀kind U,WF ⟨size,kind,aO,U⟩->aa K (upd H' p (.ins (af K "Stairs") dx (bw size A.ss A.bm A.as.length A.ev kind))) A ⟨size,kind,aO,U⟩ (uA aO.length) os 0) ->(∀x,OW A os x->x≠p->H x=none)->(∀b o,H b=some o->b≠p->H' b=some o)->Q .aQ H')->jW K vs H Q E
example:(mz kQ GC GF):=by
 obtain ⟨p,dx,tp,size,ts,aO,rfl,hp,pa,l4,tb,k⟩:=h;refine⟨_,(Zd (pM (pv 0) (pv 1) rfl)
   (Zd (pM (pv 0) (Dc (ZZ (mh:=(Zr bC)) (oN:=pH) (N:=["room_plan"]) (own:=1) (js:=[]) (by decide +kernel) rfl rfl) rfl (Zkt (K:=K) rfl (pv 2)) (λ_ _ _ _ _ _=>(bY 0 (show List.Nodup (["room_plan"]:List Str) by decide +kernel))) (λ_ _ _ _ _ _=>(Ip GC hr.m rfl (pc (pv 0) Zb)))) rfl)
   (Zd (pM (pv 0) (Ip GF hr.m rfl (pc (pv 1) Zb)) rfl)
   (Zd (pM (pv 0) (Zs (ZG (K:=K) rfl) rfl T.zj aMZ (pc (Zk (K:=K) rfl (pv 0) rfl) Zb)) rfl)
   (Zh (pM (pv 0) (sd Zb) rfl)))))),?_⟩
 refine⟨_,rfl,_,rfl,p,_,dx,_,rfl,hp,T.aG,T.BA,(by show 0<1000;decide),?_⟩;have fu:∀{G:Hp}{o':HO} x o,G x=some o->x≠p->upd G p o' x=some o:=λx o e n=>by rw[Zc n];exact e
 have Ea:H p≠none:=by rw[hp];simp
 have nk:∀{x o},H x=some o->(∀C d f,o≠.ins C d f)->x≠p:=λ{x o} q m z=>by rw[z,hp]at q;exact m _ _ _ (aDb q).symm
 have e1:upd H p (.ins (af K "Stairs") dx (ah "size" (.int size) [])) p=some (.ins (af K "Stairs") dx (ah "size" (.int size) [])):=Za;have f1:∀x o,H x=some o->x≠p->upd H p (.ins (af K "Stairs") dx (ah "size" (.int size) [])) x=some o:=fu;have n1:∀x,upd H p (.ins (af K "Stairs") dx (ah "size" (.int size) [])) x=none->H x=none:=λx e=>by
  by_cases z:x=p
  .rw [z,Za]at e;cases e
  .rw [Zc z]at e;exact e
 generalize upd H p (.ins (af K "Stairs") dx (ah "size" (.int size) []))=H1 at *;have LA:=pa.frame (H':=H1) λx ys e=>f1 x _ e (nk e (λ_ _ _ z=>by cases z));refine⟨_,rfl,tp,rfl,⟨_,aX.of LA.top⟩,λss hss=>?_⟩;refine ZiV (K:=K) (a:=tp) (xs:=ts.map V.ref) (l:=ss) (λj ys σ G=>∃(v0:Option V)(as:List SA)(os:OS),σ=[v0]/\ys=as.map (λa=>V.ref a.sp)/\as.length=j/\G ss=some (.lst ys)/\ay H1 G/\EI K H G as aO os/\∀i,i<as.length->¬os i ss)
  ⟨none,[],λ_ _=>False,rfl,rfl,rfl,Za,Zg hss _,⟨λi a c h=>by simp at h,λi h=>by simp at h,λi j h=>by simp at h⟩,λi h=>by simp at h⟩ (λj ys σ G _ ⟨_,_,_,_,_,_,_,s,_⟩=>aX.of (s _ _ LA.top)) ?_ ?_
 .rintro j x ys σ G hj Cv hys ⟨v0,as,os,rfl,rfl,hlen,g1,s1,mk,ns⟩;rw[aW8]at hj;rw[aeb]at Cv;obtain⟨t,et,rfl⟩:∃t,ts[j]?=some t/\V.ref t=x:=by
   cases e:ts[j]? with
   |none=>rw[e]at Cv;cases Cv
   |some t=>rw[e]at Cv;exact⟨t,rfl,aDb Cv⟩
  have PV:j<aO.length:=by rw[<-pa.len];exact hj
  have ec:aO[j]?=some aO[j]:=aEW PV;obtain⟨wr,q1,q2,_⟩:=LA.at_ j t _ et ec;have cb:=pa.cf _ (adU PV);have FU:=s1 _ _ q1;refine⟨_,rfl,λx yl hx hdx ne=>⟨x,yl,t,aO[j].sh,aO[j].pl,aO[j].ru,wr,rfl,Za,aX.of ?_,cb.1,cb.2.1,λa G1 ea S1 k2=>⟨rfl,?_⟩⟩⟩
  .rw [Zc (Ze FU hx),Zc (Ze FU hdx)];exact FU
  have sG:ay G G1:=λy o e=>k2 y o (by rw[Zc (Ze e hx),Zc (Ze e hdx)];exact e) (Ze e hx);have qz:∀y,(y=x\/(upd (upd G yl (.own x)) x (.ins (af K "Store") yl []) y=none/\G1 y≠none))->G y=none:=λy h=>by
   rcases h with h|h
   .rw [h];exact hx
   .cases q:G y with
    |none=>rfl
    |some o=>have e:=h.1;rw[Zc (Ze q hx),Zc (Ze q hdx),q]at e;cases e
  rw[show(⟨aO[j].sh,aO[j].pl,aO[j].ru,decide (wr ="late")⟩:Cf)=aO[j] by rw[<-q2]]at S1;rw[show V.ref x=V.ref a.sp by rw[ea]];have JY:=sG _ _ g1;have DZ:as.length<=aO.length:=by lia
  obtain⟨N,S1,qz⟩:∃N:Addr->Prop,av K G1 a aO[j] o8 N/\∀y,N y->G y=none:=⟨_,S1,qz⟩;have nN:¬N ss:=λh=>by have q:=qz ss h;rw[g1]at q;cases q
  have la:∀{i:Nat}{b:SA},(as++[a])[i]?=some b->(i<as.length/\as[i]?=some b)\/(i=as.length/\b=a):=λ{i b} hb=>by
   by_cases hi:i<as.length
   .rw [aaw hi]at hb;exact .inl ⟨hi,hb⟩
   .have:=(azG.mp hb).1;rw[aE0,ai8]at this;have hi2:i=as.length:=by lia
    subst hi2;rw[bbj (apX _),alg]at hb;cases hb;exact .inr ⟨rfl,rfl⟩
  have os':∀{i},i<as.length->(os.set as.length N) i=os i:=λ{i} h=>aoK (by lia);have F3:(os.set as.length N) as.length=N:=aYH rfl;have cs:∀{i},i<(as++[a]).length->i<as.length\/i=as.length:=λ{i} h=>by rw[aE0,ai8]at h;lia
  refine rC.of (aIf (Zz (by rw[aW8,pa.len];lia))) (by rw[aW8];exact hj) hys JY ⟨_,as++[a],os.set as.length N,rfl,by rw[aK6];rfl,by rw[aE0,hlen];rfl,Za,λy o e=>?_,⟨λi b c hb hc=>?_,λi hi y hy=>?_,λi i' hi hi' nn y h1 h2=>?_⟩,λi hi=>?_⟩
  .rw [Zc (Ze e hss)];exact sG _ _ (s1 _ _ e)
  .rcases la hb with⟨hi,hb⟩|⟨hi,rfl⟩
   .rw [os' hi];exact(mk.at_ i b c hb hc).frame λy o h e=>by rw[Zc (λz:y=ss=>ns i hi (z ▸h))];exact sG _ _ e
   .subst hi;rw[F3];rw[hlen,ec]at hc;cases hc;exact S1.frame λy o h e=>by rw[Zc (λz:y=ss=>nN (z ▸h))];exact e
  .rcases cs hi with h|h
   .rw [os' h]at hy;exact mk.fr i h y hy
   .rw [h,F3]at hy;exact n1 _ (s1.free (qz y hy))
  .rcases cs hi with a1|a1
   .rw [os' a1]at h1;rcases cs hi' with a2|a2
    .rw [os' a2]at h2;exact mk.uh i i' a1 a2 nn y h1 h2
    .rw [a2,F3]at h2;exact mk.ex DZ a1 h1 (qz y h2)
   .rw [a1,F3]at h1;rcases cs hi' with a2|a2
    .rw [os' a2]at h2;exact mk.ex DZ a2 h2 (qz y h1)
    .exact nn (a1.trans a2.symm)
  .rcases cs hi with h|h
   .rw [os' h];exact ns i h
   .rw [h,F3];exact nN
 rintro ys σ G hys ⟨v0,as,os,rfl,rfl,hlen,g1,s1,mk,ns⟩;rw[aW8,pa.len]at hlen;have hp2:=s1 _ _ e1;have fG:∀x o,H x=some o->x≠p->G x=some o:=λx o e n=>s1 _ _ (f1 x o e n);refine⟨_,rfl,p,_,dx,_,rfl,hp2,T.aG,T.t7,(by show 1<1000;decide),?_⟩;have JB:ss≠p:=λz=>by rw[z,hp2]at g1;cases g1
 have e2:upd G p (.ins (af K "Stairs") dx (ah "stores" (.ref ss) (ah "size" (.int size) []))) p=some (.ins (af K "Stairs") dx (ah "stores" (.ref ss) (ah "size" (.int size) []))):=Za;have f2:∀x o,G x=some o->x≠p->upd G p (.ins (af K "Stairs") dx (ah "stores" (.ref ss) (ah "size" (.int size) []))) x=some o:=fu;generalize upd G p (.ins (af K "Stairs") dx (ah "stores" (.ref ss) (ah "size" (.int size) [])))=H2 at *;have mk2:=mk.frame Ea f2;refine⟨_,rfl,λbm bx hbm PX nbx=>⟨bm,bx,size,rfl,Za,λdk H3 M3 Qo k3=>⟨rfl,?_⟩⟩⟩;have s3:ay H2 H3:=λy o e=>k3 y o (by rw[Zc (Ze e hbm),Zc (Ze e PX)];exact e) (Ze e hbm);have Gh:H2 dk=none:=by
  cases q:H2 dk with
  |none=>rfl
  |some o=>rw[Zc (Ze q hbm),Zc (Ze q PX),q]at Qo;cases Qo
 have e3:=s3 _ _ e2;have ud:p≠bm:=Ze e2 hbm;have LK:p≠dk:=Ze e2 Gh;refine⟨_,rfl,p,_,dx,_,rfl,e3,T.aG,T.Jc,(by show 2<1000;decide),?_⟩;have e4:upd H3 p (.ins (af K "Stairs") dx (ah "bottom" (.ref bm) (ah "stores" (.ref ss) (ah "size" (.int size) [])))) p=some (.ins (af K "Stairs") dx (ah "bottom" (.ref bm) (ah "stores" (.ref ss) (ah "size" (.int size) [])))):=Za;have f4:∀x o,H3 x=some o->x≠p->upd H3 p (.ins (af K "Stairs") dx (ah "bottom" (.ref bm) (ah "stores" (.ref ss) (ah "size" (.int size) [])))) x=some o:=fu;generalize upd H3 p (.ins (af K "Stairs") dx (ah "bottom" (.ref bm) (ah "stores" (.ref ss) (ah "size" (.int size) []))))=H4 at *;have g4:=f4 _ _ (s3 _ _ (f2 _ _ g1 JB)) JB;have Xi:(ah "bottom" (.ref bm) (ah "stores" (.ref ss) (ah "size" (.int size) [])):List (Str×V)).lookup ("stores":Str)=some (.ref ss):=by rw[Zf,aoK (by decide +kernel),Zf,aYH rfl]
 refine⟨_,rfl,p,_,dx,_,_,rfl,e4,T.aG,T.t7,Xi,ss,_,rfl,.inl (aB.of g4),_,rfl,p,_,dx,_,rfl,e4,T.aG,T.vh,(by show 3<1000;decide),?_⟩;rw[aW8];have e5:upd H4 p (.ins (af K "Stairs") dx (ah "last" (.int (as.length:Int)) (ah "bottom" (.ref bm) (ah "stores" (.ref ss) (ah "size" (.int size) []))))) p=some (.ins (af K "Stairs") dx (ah "last" (.int (as.length:Int)) (ah "bottom" (.ref bm) (ah "stores" (.ref ss) (ah "size" (.int size) []))))):=Za;have f5:∀x o,H4 x=some o->x≠p->upd H4 p (.ins (af K "Stairs") dx (ah "last" (.int (as.length:Int)) (ah "bottom" (.ref bm) (ah "stores" (.ref ss) (ah "size" (.int size) []))))) x=some o:=fu;generalize upd H4 p (.ins (af K "Stairs") dx (ah "last" (.int (as.length:Int)) (ah "bottom" (.ref bm) (ah "stores" (.ref ss) (ah "size" (.int size) [])))))=H5 at *;have Qv:∀x o,H3 x=some o->x≠p->H5 x=some o:=λx o e n=>f5 _ _ (f4 _ _ e n) n;have Qw:∀x o,H2 x=some o->x≠p->H5 x=some o:=λx o e n=>Qv _ _ (s3 _ _ e) n;have LR:=mk2.frame Ea Qw;have MQ:∀x o,H x=some o->x≠p->H5 x=some o:=λx o e n=>Qw _ _ (f2 _ _ (fG x o e n) n) n;refine⟨(sL 0),λev hev=>⟨_,rfl,p,_,dx,_,rfl,Zg hev _ _ _ e5,T.aG,T.BO,(by show 4<1000;decide),?_⟩⟩;have s6:=Zg hev (.lst ([]:List V));have Cc:ev≠p:=λz=>by rw[z,e5]at hev;cases hev
 have DZ:as.length<=aO.length:=by lia
 have nH:∀{x},H5 x=none->x≠p->H x=none:=λ{x} h n=>by
  cases q:H x with
  |none=>rfl
  |some o=>rw[MQ x o q n]at h;cases h
 have Pj:∀{x},H2 x=none->x≠p->H x=none:=λ{x} h n=>by
  cases q:H x with
  |none=>rfl
  |some o=>rw[f2 _ _ (fG x o q n) n]at h;cases h
 refine k ⟨p,ss,bm,dk,ev,as⟩ os _ rfl Za (λkind U wf=>?_) (λx hx n=>?_) λx o e n=>?_
 .rw [KG];have ff:∀x o,H5 x=some o->x≠p->upd (upd H5 ev (.lst [])) p (.ins (af K "Stairs") dx (bw size ss bm as.length ev kind)) x=some o:=λx o e n=>fu x o (s6 _ _ e) n;have LQ:=LR.frame Ea ff;have g5:=f5 _ _ g4 JB;have rp:∀{s:Rm},s∈List.replicate aO.length o8->s=o8:=λh=>(aLs.mp h).2;refine⟨⟨dx,Za⟩,ff _ _ g5 JB,(M3 U).frame λx o m e=>ff x o (Qv x o e ?_) ?_,⟨(λe m=>by cases m),[],by show upd _ p _ ev=_;rw[Zc Cc];exact Za,rfl,λi t e q _=>by simp at q⟩,apX _,hlen.symm,by show(List.replicate _ _).length=_;rw[a1S];exact hlen.symm,λj b c s hb hc hs=>?_,λj hj x h z=>?_,LQ.uh,Ze g5 hev,ud,λs hs b hb=>?_,λj c s hc hs t=>?_,λs hs b hb=>?_,wf,ff _ _ (MQ _ _ tb (nk tb (λ_ _ _ z=>by cases z))) (nk tb (λ_ _ _ z=>by cases z))⟩
  .rcases m with rfl|rfl;exact avX ud;exact avX LK
  .rcases m with rfl|rfl;exact avX ud;exact avX LK
  .have hs:(List.replicate aO.length o8)[j]?=some s:=hs;rw[rp (abH hs)];exact LQ.at_ j b c hb hc
  .rcases z with z|z|z|z|z
   .exact Ea ((show x=p from z) ▸LQ.fr j hj x h)
   .exact ns j hj ((show x=ss from z) ▸h)
   .exact mk2.ex DZ hj h (by rw[z];exact hbm)
   .exact mk2.ex DZ hj h (by rw[z];exact Gh)
   .exact LR.ex DZ hj h (by rw[z];exact hev)
  .rw [rp hs]at hb;exact absurd hb (by simp[o8])
  .have hs:(List.replicate aO.length o8)[j]?=some s:=hs;rw[rp (abH hs)];show((0:Nat):Int)<=c.pl;have:=(wf.cf c (abH hc)).1;lia
  .rw [rp hs]at hb;exact absurd hb (by simp[o8])
 .rcases hx with hx|⟨j,hj,hx⟩
  .rcases hx with z|z|z|z|z
   .exact absurd z n
   .rw [z];exact n1 _ hss
   .rw [z];exact Pj hbm (avX ud)
   .rw [z];exact Pj Gh (avX LK)
   .rw [z];exact nH hev Cc
  .exact LR.fr j hj x hx
 .rw [Zc n];exact s6 _ _ (MQ x o e n)
inductive pW(K:W.Frag)(vs:List V)(H:Hp)(Q:VK)(E:XK):Prop
 |mk (p dx pp tp:Addr) (size:Int) (kind:Str) (ts:List Addr) (aO:List Cf):vs=[.ref p,.ref pp]->H p=some (.ins (af K "Stairs") dx [])->H pp=some (.tup [.int size,.str kind,.ref tp])->cD K H tp ts aO->aO.length<=4->Tb K H->(∀(A:TA)(os:OS)(H':Hp),A.p=p->(∀U,WF ⟨size,kind,aO,U⟩->aa K H' A ⟨size,kind,aO,U⟩ (uA aO.length) os 0)->(∀x,OW A os x->x≠p->H x=none)->(∀b o,H b=some o->b≠p->H' b=some o)->Q .aQ H')->pW K vs H Q E
example:(kT D8 E6):=by
 obtain ⟨p,dx,pp,tp,size,kind,ts,aO,rfl,hp,hpp,pa,l4,tb,q⟩:=h;refine⟨_,(Zd (se (pv 1) (ZT (K:=K) (n:=3) rfl rfl (Zq (bY 2 nd) (Zq (bY 3 nd) (Zq (bY 4 nd) ZS)))))
   (Zd (Zn (Zkz E6 hr.m rfl (pc (pv 0) (pc (pv 2) (pc (pv 4) Zb)))))
   (Zh (pM (pv 0) (pv 3) rfl)))),?_⟩
 refine⟨_,rfl,pp,_,rfl,aX.of hpp,rfl,_,_,rfl,gN ⟨_,_,rfl,gN ⟨_,_,rfl,gN ⟨rfl,?_⟩⟩⟩⟩;try dsimp only
 refine⟨_,rfl,_,rfl,_,rfl,p,dx,tp,size,ts,aO,rfl,hp,pa,l4,tb,λA os H1 ep h1 RS f1 k1=>?_⟩;refine⟨_,rfl,_,rfl,p,_,dx,_,rfl,h1,T.aG,T.L6,(by show 5<1000;decide),?_⟩;exact q A os _ ep (λU wf=>RS kind U wf) f1 λx o e n=>by rw[Zc n];exact k1 x o e n
def nearF(st:ak)(b:Int):Nat:=st.rm.findIdx λs=>decide (b∈s.seq)
def uQ(k:Nat)(b:Int)(st:ak):ak:=st.set k (A2 (st.at_ k) b)
def aZ(g:aI)(b:Int)(ws:List Int):Nat->Nat->ak->ak
 |0,k,st=>bR g k b ws st
 |r+1,k,st=>if b∈(st.at_ k).seq then(if(g.cf k).late=true then uQ k b (bR g k b ws st) else aZ g b ws r (k+1) (bR g k b ws st)) else aZ g b ws r (k+1) st
def ZB(g:aI)(k:Nat)(b:Int)(st:ak):ak:=if(g.cf k).late=true then uQ k b st else aZ g b ((st.at_ k).wd b) (g.n-(k+1)) (k+1) st
def aH(b:Int):Nat->ak->List Int->Bool->ak×List Int×Bool
 |0,st,ws,fr=>(st,ws,fr)
 |j+1,st,ws,fr=>if b∈(st.at_ j).seq then aH b j (cB j b st) ((st.at_ j).wd b) (fr || (st.at_ j).fr b) else aH b j st ws fr
def bT(g:aI)(k:Nat)(b:Int)(st:ak):ak×List Int×Bool:=if g.kind ="within" then aH b k (cB k b st) ((st.at_ k).wd b) ((st.at_ k).fr b) else(cB k b st,(st.at_ k).wd b,(st.at_ k).fr b)
def pK(g:aI)(k:Nat)(b:Int)(st:ak):ak:=if(bT g k b st).2.2=true then aZ g b (bT g k b st).2.1 (g.n-(k+1)) (k+1) (bT g k b st).1 else(bT g k b st).1
noncomputable def ZK(g:aI)(j:Nat)(b:Int)(st:ak):ak:=match cA (g.cf j) (st.at_ j) b with
 |none=>st
 |some o=>pK g j o st
noncomputable def dS(g:aI)(b:Int)(ws:List Int):Nat->ak->ak
 |0,st=>st
 |j+1,st=>dS g b ws j (bE j b ws (ZK g j b st))
def bI(g:aI)(k:Nat)(b:Int)(st:ak):ak:=if k<g.n then st.set k (j8 (g.cf k) (st.at_ k) b) else st
noncomputable def El(g:aI)(k:Nat)(b:Int)(st:ak):ak:=dS g b (ZX g (bI g k b st) k b) k (bI g k b st)
def bH(g:aI)(k:Nat)(b:Int)(ws:List Int)(fr:Bool)(st:ak):ak:=if fr=true then ZB g k b (bE k b ws st) else bE k b ws st
noncomputable def pushS(g:aI):Nat->Nat->Int->List Int->Bool->ak->ak
 |0,k,b,ws,fr,st=>if fr=true then bR g k b ws st else st
 |r+1,k,b,ws,fr,st=>match cA (g.cf k) (st.at_ k) b with
  |none=>bH g k b ws fr st
  |some o=>pushS g r (k+1) o ((st.at_ k).wd o) ((st.at_ k).fr o) (bH g k b ws fr (cB k o st))
noncomputable def CU(g:aI)(k:Nat)(b:Int)(st:ak):ak:=if k=0 then bI g 0 b st else if k=g.n then pushS g g.n 0 b (br g.size st.mem b) false st else pushS g g.n 0 b ((st.at_ k).wd b) ((st.at_ k).fr b) (cB k b st)
noncomputable def ZF(g:aI)(b:Int)(st:ak):ak:=if g.kind ="apart" then CU g (nearF st b) b (st.tell (eF (nearF st b))) else El g (nearF st b) b (st.tell (eF (nearF st b)))
noncomputable def Bf(g:aI)(sp x:Int)(st:ak):ak:=(λs1:ak=>ZB g 0 (sp/g.size) (s1.set 0 (vm g (s1.at_ 0) sp x))) (ZF g (sp/g.size) st)
theorem zL{st:ak}{k j:Nat}{s:Rm}:(st.set k s).at_ j=if j=k/\k<st.rm.length then s else st.at_ j:=by
 by_cases h:k<st.rm.length
 .rw [ak.lA h];by_cases z:j=k
  .rw [aYH z,aYH ⟨z,h⟩]
  .rw [aoK z,aoK (λq=>z q.1)]
 .rw [aoK (λq=>h q.2)];unfold ak.at_ ak.set;rw[List.set_eq_of_length_le (by lia)]
theorem zK{st:ak}{e:List V}{j:Nat}:(st.tell e).at_ j=st.at_ j:=rfl
theorem J9{st:ak}{k j:Nat}{s:Rm}(h:s.seq=(st.at_ k).seq):((st.set k s).at_ j).seq=(st.at_ j).seq:=by
 rw[zL];split
 .rename_i q;rw[h,q.1]
 .rfl
theorem aS{st:ak}{k:Nat}{s:Rm}:(st.set k s).rm.length=st.rm.length:=aO6 ..
theorem Be{g:aI}{k:Nat}{b:Int}{ws:List Int}{st:ak}{j:Nat}:((bR g k b ws st).at_ j).seq=(st.at_ j).seq:=by
 unfold bR;split
 .rfl
 .exact J9 rfl
theorem C7{g:aI}{k:Nat}{b:Int}{ws:List Int}{st:ak}:(bR g k b ws st).rm.length=st.rm.length:=by
 unfold bR;split
 .rfl
 .exact aS
theorem So{k j:Nat}{b:Int}{st:ak}:((uQ k b st).at_ j).seq=(st.at_ j).seq:=J9 rfl
theorem g9{g:aI}{b:Int}{ws:List Int}{j:Nat}:∀{r k:Nat}{st:ak},((aZ g b ws r k st).at_ j).seq=(st.at_ j).seq
 |0,k,st=>Be
 |r+1,k,st=>by
  rw[aZ];split
  .split
   .rw [So,Be]
   .exact g9.trans Be
  .exact g9
theorem nM{g:aI}{k:Nat}{b:Int}{st:ak}{j:Nat}:((ZB g k b st).at_ j).seq=(st.at_ j).seq:=by
 unfold ZB;split
 .exact So
 .exact g9
theorem jo{k j:Nat}{b:Int}{st:ak}(h:k<st.rm.length):((cB k b st).at_ j).seq=if j=k then(st.at_ j).seq.erase b else(st.at_ j).seq:=by
 unfold cB;rw[ak.lA (by exact h)];by_cases z:j=k
 .rw [aYH z,aYH z,z];rfl
 .rw [aoK z,aoK z];rfl
theorem bz{k:Nat}{b:Int}{st:ak}:(cB k b st).rm.length=st.rm.length:=aS
theorem NG{b:Int}{j:Nat}:∀{k:Nat}{st:ak}{ws:List Int}{fr:Bool},k<=st.rm.length->((aH b k st ws fr).1.at_ j).seq=if j<k then(st.at_ j).seq.erase b else(st.at_ j).seq
 |0,st,ws,fr,_=>by rw[aH,aoK (by lia)]
 |k+1,st,ws,fr,h=>by
  rw[aH];split
  .rw [NG (by rw[bz];lia),jo (by lia)];by_cases z:j=k
   .rw [aoK (by lia),aYH z,aYH (by lia)]
   .rw [aoK z];by_cases y:j<k
    .rw [aYH y,aYH (by lia)]
    .rw [aoK y,aoK (by lia)]
  .rename_i m;rw[NG (by lia)];by_cases z:j=k
   .rw [aoK (by lia),aYH (by lia),z,a76 m]
   .by_cases y:j<k
    .rw [aYH y,aYH (by lia)]
    .rw [aoK y,aoK (by lia)]
theorem Rq{g:aI}{k:Nat}{b:Int}{st:ak}{j:Nat}(h:k<st.rm.length):((bT g k b st).1.at_ j).seq=if j=k\/(g.kind ="within" /\j<k) then(st.at_ j).seq.erase b else(st.at_ j).seq:=by
 unfold bT;split
 .rename_i w;rw[NG (by rw[bz];lia),jo h];by_cases z:j=k
  .rw [aoK (by lia),aYH z,aYH (.inl z)]
  .rw [aoK z];by_cases y:j<k
   .rw [aYH y,aYH (.inr ⟨w,y⟩)]
   .rw [aoK y,aoK (by lia)]
 .rename_i w;show((cB k b st).at_ j).seq=_;rw[jo h];by_cases z:j=k
  .rw [aYH z,aYH (.inl z)]
  .rw [aoK z,aoK (λq=>q.elim z λq=>w q.1)]
theorem Sn{g:aI}{k:Nat}{b:Int}{st:ak}{j:Nat}(h:k<st.rm.length):((pK g k b st).at_ j).seq=if j=k\/(g.kind ="within" /\j<k) then(st.at_ j).seq.erase b else(st.at_ j).seq:=by
 unfold pK;split
 .rw [g9];exact Rq h
 .exact Rq h
theorem Eu{k j:Nat}{b:Int}{ws:List Int}{st:ak}(h:k<st.rm.length):((bE k b ws st).at_ j).seq=if j=k then(st.at_ j).seq++[b] else(st.at_ j).seq:=by
 unfold bE;rw[zK,ak.lA h];by_cases z:j=k
 .rw [aYH z,aYH z,z];rfl
 .rw [aoK z,aoK z]
theorem Oa{g:aI}{k j:Nat}{b:Int}{ws:List Int}{fr:Bool}{st:ak}(h:k<st.rm.length):((bH g k b ws fr st).at_ j).seq=if j=k then(st.at_ j).seq++[b] else(st.at_ j).seq:=by
 unfold bH;split
 .rw [nM];exact Eu h
 .exact Eu h
theorem Ij{st:ak}{b:Int}(h:nearF st b<st.rm.length):b∈(st.at_ (nearF st b)).seq:=by
 have e:=ak.at_of h;rw[aEW h]at e;have:=List.findIdx_getElem (w:=h);rw[aOt]at this;rw[<-aDb e];exact this
theorem KD{st:ak}{b:Int}{j:Nat}(h:j<nearF st b)(hl:j<st.rm.length):b∉(st.at_ j).seq:=by
 have e:=ak.at_of hl;rw[aEW hl]at e;rw[<-aDb e];have:=List.not_of_lt_findIdx h;simpa using this
theorem Ii(st:ak)(b:Int):nearF st b<=st.rm.length:=List.findIdx_le_length
theorem ED{c:Cf}{s:Rm}{b g:Int}(h:cA c s b=some g):g∈s.seq/\g%c.sh=b%c.sh/\cM c.ru s.us c.pl (Zl c.sh (b%c.sh) s.seq) (some g):=by
 unfold cA at h;split at h
 .rename_i e;have q:=Classical.choose_spec e;rw[h]at q;by_cases l:((Zl c.sh (b%c.sh) s.seq).length:Int)<c.pl
  .exact absurd (q.1 l) (by simp)
  .obtain ⟨g',r,e',p,_⟩:=q.2 l;cases e';have m:=aL.mp (p.mem_iff.mp aAX);exact⟨m.1,m.2,q⟩
 .cases h
theorem Rp{c:Cf}{s:Rm}{b:Int}(h:cM c.ru s.us c.pl (Zl c.sh (b%c.sh) s.seq) none):((Zl c.sh (b%c.sh) s.seq).length:Int)<c.pl:=by
 by_cases l:((Zl c.sh (b%c.sh) s.seq).length:Int)<c.pl
 .exact l
 .obtain ⟨_,_,z,_⟩:=h.2 l;cases z
theorem Sl{c:Cf}{seq:List Int}{b g:Int}(hf:∀t,((Zl c.sh t seq).length:Int)<=c.pl)(h:g∈seq)(e:g%c.sh=b%c.sh):((Zl c.sh (b%c.sh) (seq.erase g)).length:Int)<c.pl:=by
 have m:g∈Zl c.sh (b%c.sh) seq:=aL.mpr ⟨h,e⟩;rw[Iz,List.length_erase_of_mem m];have:=List.length_pos_of_mem m;have:=hf (b%c.sh);lia
inductive m9(K:W.Frag)(vs:List V)(H:Hp)(Q:VK)(E:XK):Prop
 |mk (A:TA) (g:aI) (st:ak) (os:OS) (n:Nat) (b:Int):vs=[.ref A.p,.int b]->aa K H A g st os n->(∀H',ay H H'->Q (.int (nearF st b:Nat)) H')->m9 K vs H Q E
example:(gX EV wD):=by
 obtain ⟨A,g,st,os,n,b,rfl,R,q⟩:=h;refine⟨_,(Zd (uw atQ rfl (RK rfl T.E3 (pc (Zk (K:=K) rfl (pv 0) rfl) Zb)) (ZT (K:=K) (n:=2) rfl rfl (Zq (bY 2 nd) (Zq (bY 3 nd) ZS))) (Zh (aE (ZD (Zj wD hr.m T.fH (pv 3) (pc (pv 1) Zb))) (Zh (Zp (pv 2))) Zt)))
   (Zh (Zp (Zk (K:=K) rfl (pv 0) rfl)))),?_⟩
 obtain⟨dx,h1⟩:=R.ob;have lS:=R.lS;refine⟨_,rfl,A.p,_,dx,_,_,rfl,h1,T.aG,T.t7,ZJ ..,A.ss,rfl,⟨_,aB.of R.ss⟩,Sv (K:=K) (a:=A.ss) (xs:=A.as.map λa=>V.ref a.sp) (λi σ G=>∃v2 v3:Option V,σ=[some (.ref A.p),some (.int b),v2,v3]/\ay H G/\i<=nearF st b) ⟨_,_,rfl,ay.refl _,abf _⟩ (λi σ G _ ⟨_,_,_,s,_⟩=>aB.of (s _ _ R.ss)) ?_ ?_⟩
 .rintro i x t σ G hi ⟨v2,v3,rfl,s,hle⟩ ht;rw[aeb]at hi;obtain⟨a,ea,rfl⟩:∃a,A.as[i]?=some a/\V.ref a.sp=x:=by
   cases e:A.as[i]? with
   |none=>rw[e]at hi;cases hi
   |some a=>rw[e]at hi;exact⟨a,rfl,aDb hi⟩
  have hil:=(azG.mp ea).1;obtain⟨a',e1,e2,e3,B⟩:=R.at_ hil;rw[ea]at e1;cases e1;refine⟨t,_,rfl,aX.of Za,rfl,_,_,rfl,gN ⟨_,_,rfl,gN ⟨rfl,?_⟩⟩⟩;try dsimp only
  have s2:=s.trans (Zg ht (.tup [.int (i:Int),.ref a.sp]));have B':=B.same s2;obtain⟨ds,h3⟩:=B'.aW.ob;refine⟨_,rfl,a.sp,ds,_,rfl,h3,cV ..,_,rfl,a,_,_,_,b,rfl,B',_,rfl,?_⟩;by_cases m:b∈(st.at_ i).seq
  .refine d8 (aSJ m) ⟨_,rfl,?_⟩;have e:nearF st b=i:=by
    by_cases z:i<nearF st b
    .exact absurd m (KD z (by lia))
    .lia
   have q':=q _ s2;rw[e]at q';exact q'
  .refine cz (bcN m) ⟨_,_,rfl,s2,?_⟩;by_cases z:i=nearF st b
   .exact absurd (z ▸Ij (st:=st) (b:=b) (by lia)) m
   .lia
 .rintro σ G ⟨v2,v3,rfl,s,hle⟩;rw[aW8]at hle;have e:nearF st b=A.as.length:=by have:=Ii st b;lia
  have q':=q _ s;rw[e]at q';exact⟨_,rfl,A.p,_,dx,_,_,rfl,s _ _ h1,T.aG,T.vh,xP ..,q'⟩
inductive vX(K:W.Frag)(vs:List V)(H:Hp)(Q:VK)(E:XK):Prop
 |mk (A:TA) (g:aI) (st:ak) (os:OS) (n k:Nat) (b:Int) (lw:Addr) (ws:List Int):vs=[.ref A.p,.int (k:Int),.int b,.ref lw]->aa K H A g st os n->k<=g.n->b∈g.U->H lw=some (.lst (ws.map V.int))->(¬OW A os lw)->ws.length=g.size.toNat->n<=800000->Res K H A g os (aZ g b ws (g.n-k) k st) (n+5) (Q .aQ)->vX K vs H Q E
example:(jJ wG wD uI AI):=by
 obtain ⟨A,g,st,os,n,k,b,lw,ws,rfl,R,hk,bU,lO,nO,oU,hn,q⟩:=h;refine⟨_,(Zd (uw atQ rfl (Zhb rfl T.rR (pc (pv 1) (pc (Zk (K:=K) rfl (pv 0) rfl) Zb))) (bY 4 nd) (Zd (cK 5 nd (au (Zo (K:=K) rfl) (Zk (K:=K) rfl (pv 0) rfl) (pv 4) (λ_ _=>rfl)))
   (Zh (aE (ZD (Zj wD hr.m T.fH (pv 5) (pc (pv 2) Zb))) (Zd (Zn (Zj uI hr.m T.aG (pv 0) (pc (pv 4) (pc (pv 2) (pc (pv 3) Zb)))))
   (Zh (aE (ZD (Zk (K:=K) rfl (pv 5) rfl)) (Zd (Zn (Zj AI hr.m T.fH (pv 5) (pc (pv 2) Zb)))
   (Zh NR)) Zt))) Zt))))
   (Zh (Zn (Zj uI hr.m T.aG (pv 0) (pc (Zk (K:=K) rfl (pv 0) rfl) (pc (pv 2) (pc (pv 3) Zb))))))),?_⟩
 obtain⟨dx,h1⟩:=R.ob;have ln:=R.ln;have l4:g.n<=4:=R.wf.l4;refine⟨_,rfl,_,rfl,A.p,_,dx,_,_,rfl,h1,T.aG,T.vh,xP ..,_,_,rfl,⟨by lia,by lia,by lia,by lia⟩,EF (lo:=(k:Int)) (n:=((A.as.length:Int)-(k:Int)).toNat) (λi σ G=>∃(v4 v5:Option V)(st':ak)(os':OS),σ=[some (.ref A.p),some (.int (k:Int)),some (.int b),some (.ref lw),v4,v5]/\k+i<=g.n/\aa K G A g st' os' (n+i)/\bN (OW A os) H G (OW A os')/\aZ g b ws (g.n-(k+i)) (k+i) st'=aZ g b ws (g.n-k) k st/\G lw=some (.lst (ws.map V.int))/\¬OW A os' lw)
  ⟨_,_,st,os,rfl,hk,R,bN.same (ay.refl _),rfl,lO,nO⟩ ?_ ?_⟩
 .rintro i σ G hi ⟨v4,v5,st',os',rfl,hki,R1,p1,eg,qI,Gm⟩;have en:((k:Int)+(i:Int))=((k+i:Nat):Int):=by lia
  rw[en];refine gN ?_;try dsimp only
  obtain⟨cQ,g1⟩:=R1.ob;obtain⟨a,e1,e2,e3,B⟩:=R1.at_ (k:=k+i) (by lia);obtain⟨ds,h3⟩:=B.aW.ob;have er:g.n-(k+i)=(g.n-(k+(i+1)))+1:=by lia
  rw[er,aZ]at eg;refine⟨_,rfl,A.p,_,cQ,_,_,rfl,g1,T.aG,T.t7,ZJ ..,_,rfl,A.ss,_,_,_,rfl,rfl,aB.of R1.ss,aa.ix e1,gN ?_⟩;try dsimp only
  refine⟨_,rfl,a.sp,ds,_,rfl,h3,cV ..,_,rfl,a,_,_,_,b,rfl,B,_,rfl,?_⟩;by_cases m:b∈(st'.at_ (k+i)).seq
  .rw [aYH m]at eg;refine d8 (aSJ m) ⟨_,rfl,A.p,cQ,_,rfl,g1,aq ..,_,rfl,_,rfl,_,rfl,A,g,st',os',n+i,k+i,b,lw,ws,rfl,R1,hki,λ_=>m,bU,qI,Gm,oU,by lia,λG2 iB R2 p2=>?_⟩;obtain⟨a2,e4,e5,e6,B2⟩:=R2.at_ (k:=k+i) (by lia);rw[e1]at e4;cases e4;obtain⟨d2,h4⟩:=B2.aW.ob;obtain⟨CA,DW⟩:=p2.out qI Gm;refine⟨_,rfl,a.sp,_,d2,_,_,rfl,h4,T.fH,T.L5,Rv ..,_,rfl,?_⟩;by_cases c:(g.cf (k+i)).late=true
   .rw [aYH c]at eg;refine d8 c ?_;have m2:b∈((bR g (k+i) b ws st').at_ (k+i)).seq:=by rw[Be];exact m
    obtain⟨u1,u2,u3,u4,u5,u6⟩:=R2.pJ (k:=k+i) (by lia);refine⟨_,rfl,a.sp,d2,_,rfl,h4,cV ..,_,rfl,a,_,_,_,b,rfl,B2,m2,u1,λG3 B3 p3=>?_⟩;obtain⟨R3,p4⟩:=R2.iQ e1 e2 B3 p3 u2 u3;have R3:aa K G3 A g (aZ g b ws (g.n-k) k st) (iB.set (k+i) (iB (k+i))) (n+i+1):=by rw[<-eg];exact R3
    exact q _ _ (R3.le (by lia)) ((p1.trans p2).trans p4)
   .rw [aoK c]at eg;exact cz (by simpa using c) ⟨_,_,_,iB,rfl,by lia,R2,p1.trans p2,eg,CA,DW⟩
  .rw [aoK m]at eg;exact cz (bcN m) ⟨_,_,st',os',rfl,by lia,R1.le (by lia),p1,eg,qI,Gm⟩
 .rintro σ G ⟨v4,v5,st',os',rfl,hki,R1,p1,eg,qI,Gm⟩;have en:((A.as.length:Int)-(k:Int)).toNat=g.n-k:=by lia
  rw[en]at eg hki R1;have ek:k+(g.n-k)=g.n:=by lia
  rw[ek,alg,aZ]at eg;obtain⟨cQ,g1⟩:=R1.ob;refine⟨_,rfl,A.p,cQ,_,rfl,g1,aq ..,_,rfl,A.p,_,cQ,_,_,rfl,g1,T.aG,T.vh,xP ..,_,rfl,_,rfl,A,g,st',os',_,g.n,b,lw,ws,by rw[ln];rfl,R1,apX _,λh=>absurd h (aZG _),bU,qI,Gm,oU,by lia,λG2 iB R2 p2=>?_⟩;rw[eg]at R2;exact q _ _ (R2.le (by lia)) (p1.trans p2)
inductive qd(K:W.Frag)(vs:List V)(H:Hp)(Q:VK)(E:XK):Prop
 |mk (A:TA) (g:aI) (st:ak) (os:OS) (n k:Nat) (b:Int):vs=[.ref A.p,.int (k:Int),.int b]->aa K H A g st os n->k<g.n->b∈(st.at_ k).seq->n<=800000->Res K H A g os (ZB g k b st) (n+5) (Q .aQ)->qd K vs H Q E
example:(iO AG AI wG wI):=by
 obtain ⟨A,g,st,os,n,k,b,rfl,R,hk,hb,hn,q⟩:=h;refine⟨_,(Zd (cK 3 nd (au (Zo (K:=K) rfl) (Zk (K:=K) rfl (pv 0) rfl) (pv 1) (λ_ _=>rfl)))
   (Zh (aE (ZD (Zk (K:=K) rfl (pv 3) rfl)) (Zh (Zn (Zj AI hr.m T.fH (pv 3) (pc (pv 2) Zb)))) (Zh (Zn (Zj wG hr.m T.aG (pv 0) (pc (aj ZC (pv 1) Zi) (pc (pv 2) (pc (Zj wI hr.m T.fH (pv 3) (pc (pv 2) Zb)) Zb))))))))),?_⟩
 obtain⟨dx,h1⟩:=R.ob;have ln:=R.ln;obtain⟨a,e1,e2,e3,B⟩:=R.at_ (k:=k) (by lia);obtain⟨u1,u2,u3,u4,u5,u6⟩:=R.pJ (k:=k) (by lia);obtain⟨ds,h3⟩:=B.aW.ob;unfold ZB at q;refine⟨_,rfl,A.p,_,dx,_,_,rfl,h1,T.aG,T.t7,ZJ ..,_,rfl,A.ss,_,_,_,rfl,rfl,aB.of R.ss,aa.ix e1,gN ?_⟩;try dsimp only
 refine⟨_,rfl,a.sp,_,ds,_,_,rfl,h3,T.fH,T.L5,Rv ..,_,rfl,?_⟩;by_cases c:(g.cf k).late=true
 .rw [aYH c]at q;refine d8 c ⟨_,rfl,a.sp,ds,_,rfl,h3,cV ..,_,rfl,a,_,_,_,b,rfl,B,hb,u1,λG3 B3 p3=>?_⟩;obtain⟨R3,p4⟩:=R.iQ e1 e2 B3 p3 u2 u3;exact q _ _ (R3.le (by lia)) p4
 .rw [aoK c]at q;refine cz (by simpa using c) ⟨_,rfl,A.p,dx,_,rfl,h1,aq ..,_,rfl,_,_,rfl,rfl,_,rfl,_,rfl,a.sp,ds,_,rfl,h3,cV ..,_,rfl,a,_,_,_,b,rfl,B,hb,λl hl=>?_⟩;have sm:=Zg hl (.lst (((st.at_ k).wd b).map V.int));exact⟨A,g,st,os,n,k+1,b,l,_,rfl,R.same sm,hk,(u2 b hb).1,Za,R.fresh hl,(u2 b hb).2,hn,λG2 iB R2 p2=>q _ _ R2 ((bN.same sm).trans p2)⟩
inductive tL(K:W.Frag)(vs:List V)(H:Hp)(Q:VK)(E:XK):Prop
 |mk (A:TA) (g:aI) (st:ak) (os:OS) (n k:Nat) (b:Int):vs=[.ref A.p,.int (k:Int),.int b]->aa K H A g st os n->k<g.n->b∈(st.at_ k).seq->n<=700000->Res K H A g os (pK g k b st) (n+10) (Q .aQ)->tL K vs H Q E
example:(fO FP oq wD wG):=by
 obtain ⟨A,g,st,os,n,k,b,rfl,R,hk,hb,hn,q⟩:=h;refine⟨_,(Zd (se (Zj oq hr.m T.aG (pv 0) (pc (pv 1) (pc (pv 2) Zb))) (ZT (K:=K) (n:=2) rfl rfl (Zq (bY 3 nd) (Zq (bY 4 nd) ZS))))
   (Zd (aE (Zv aY (Zk (K:=K) rfl (pv 0) rfl) ZV (Zu _)) (Zh (uw atQ rfl (TH rfl T.rR (pc (aj Bj (pv 1) Zi) (pc (nF Ep Zi) (pc (nF Ep Zi) Zb)))) (bY 5 nd) (Zh (aE (ZD (Zj wD hr.m T.fH (au (Zo (K:=K) rfl) (Zk (K:=K) rfl (pv 0) rfl) (pv 5) (λ_ _=>rfl)) (pc (pv 2) Zb))) (Zd (se (Zj oq hr.m T.aG (pv 0) (pc (pv 5) (pc (pv 2) Zb))) (ZT (K:=K) (n:=2) rfl rfl (Zq (bY 3 nd) (Zq (bY 6 nd) ZS))))
   (Zh (cK 4 nd (F0 (pv 4) (HX (pv 6)))))) Zt)))) Zt)
   (Zh (aE (ZD (pv 4)) (Zh (Zn (Zj wG hr.m T.aG (pv 0) (pc (aj ZC (pv 1) Zi) (pc (pv 2) (pc (pv 3) Zb)))))) Zt)))),?_⟩
 obtain⟨dx,h1⟩:=R.ob;have ln:=R.ln;have lS:=R.lS;have l4:g.n<=4:=R.wf.l4;obtain⟨u1,u2,u3,u4,u5,u6⟩:=R.pJ (k:=k) (by lia);obtain⟨bU,bl⟩:=u2 b hb;refine hide λu1 e1=>?_;refine⟨_,rfl,A.p,dx,_,rfl,h1,aq ..,_,rfl,_,rfl,A,g,st,os,n,k,b,rfl,R,hk,hb,by lia,λH1 bO t l et el nl R1 p1=>⟨t,_,rfl,aX.of et,rfl,_,_,rfl,gN ⟨_,_,rfl,gN ⟨rfl,?_⟩⟩⟩⟩;subst e1;try dsimp only
 refine Ej (λσ G=>∃(v5 v6:Option V)(l:Addr)(os':OS),σ=[some (.ref A.p),some (.int (k:Int)),some (.int b),some (.ref l),some (.bl (bT g k b st).2.2),v5,v6]/\aa K G A g (bT g k b st).1 os' (n+5)/\bN (OW A os) H G (OW A os')/\G l=some (.lst ((bT g k b st).2.1.map V.int))/\¬OW A os' l/\(bT g k b st).2.1.length=g.size.toNat) (λD' _ k'=>?_) ?_
 .obtain ⟨cQ,g1⟩:=R1.ob;refine⟨_,rfl,A.p,_,cQ,_,_,rfl,g1,T.aG,T.L6,Rr ..,rfl,_,rfl,uP (λc=>?_) (λc=>?_)⟩
  .have c':g.kind ="within":=by injection c
   have ed:bT g k b st=aH b k (cB k b st) ((st.at_ k).wd b) ((st.at_ k).fr b):=aYH c';rw[ed]at k';refine⟨_,rfl,_,_,rfl,rfl,_,rfl,_,rfl,_,_,rfl,⟨by lia,by lia,by lia,by lia⟩,Te (hi:=(k:Int)-1) (n:=((k:Int)-1 - -1).toNat) (λi σ G=>∃(v5 v6:Option V)(l:Addr)(st':ak)(os':OS)(ws:List Int)(fr:Bool),σ=[some (.ref A.p),some (.int (k:Int)),some (.int b),some (.ref l),some (.bl fr),v5,v6]/\i<=k/\aa K G A g st' os' (n+1+i)/\bN (OW A os) H G (OW A os')/\G l=some (.lst (ws.map V.int))/\¬OW A os' l/\ws.length=g.size.toNat/\aH b (k-i) st' ws fr=aH b k (cB k b st) ((st.at_ k).wd b) ((st.at_ k).fr b))
    ⟨_,_,l,_,bO,_,_,rfl,abf _,R1,p1,el,nl,bl,rfl⟩ ?_ ?_⟩
   .rintro i σ G hi ⟨v5,v6,l,st',os',ws,fr,rfl,hik,R2,p2,el,nl,lw,eo⟩;have hi':i<k:=by lia
    have en:((k:Int)-1-(i:Int))=((k-1-i:Nat):Int):=by lia
    rw[en];refine gN ?_;try dsimp only
    obtain⟨a,e1,e2,e3,B⟩:=R2.at_ (k:=k-1-i) (by lia);obtain⟨w1,w2,w3,w4,w5,w6⟩:=R2.pJ (k:=k-1-i) (by lia);obtain⟨ds,h3⟩:=B.aW.ob;obtain⟨jq,g2⟩:=R2.ob;have ek:k-i=(k-1-i)+1:=by lia
    rw[ek,aH]at eo;refine⟨_,rfl,A.p,_,jq,_,_,rfl,g2,T.aG,T.t7,ZJ ..,_,rfl,A.ss,_,_,_,rfl,rfl,aB.of R2.ss,aa.ix e1,a.sp,ds,_,rfl,h3,cV ..,_,rfl,a,_,_,_,b,rfl,B,_,rfl,?_⟩;by_cases m:b∈(st'.at_ (k-1-i)).seq
    .rw [aYH m]at eo;refine d8 (aSJ m) ⟨_,rfl,A.p,jq,_,rfl,g2,aq ..,_,rfl,_,rfl,A,g,st',os',_,k-1-i,b,rfl,R2,by lia,m,by lia,λH3 qq t3 l3 Yr MU LN R3 p3=>⟨t3,_,rfl,aX.of Yr,rfl,_,_,rfl,gN ⟨_,_,rfl,gN ⟨rfl,?_⟩⟩⟩⟩;try dsimp only
     have fin:∃(v5 v6:Option V)(l:Addr)(st'':ak)(os':OS)(ws:List Int)(Qn:Bool),[some (.ref A.p),some (.int (k:Int)),some (.int b),some (.ref l3),some (.bl (fr || (st'.at_ (k-1-i)).fr b)),some (.int ((k-1-i:Nat):Int)),some (.bl ((st'.at_ (k-1-i)).fr b))]=[some (V.ref A.p),some (.int (k:Int)),some (.int b),some (.ref l),some (.bl Qn),v5,v6]/\i+1<=k/\aa K H3 A g st'' os' (n+1+(i+1))/\bN (OW A os) H H3 (OW A os')/\H3 l=some (.lst (ws.map V.int))/\¬OW A os' l/\ws.length=g.size.toNat/\aH b (k-(i+1)) st'' ws Qn=aH b k (cB k b st) ((st.at_ k).wd b) ((st.at_ k).fr b):=
      ⟨_,_,l3,_,qq,_,_,rfl,by lia,R3,p2.trans p3,MU,LN,(w2 b m).2,by rw[show k-(i+1)=k-1-i by lia];exact eo⟩
     cases fr with
     |true=>exact⟨_,rfl,_,rfl,d8 rfl (gN fin)⟩
     |false=>exact⟨_,rfl,_,rfl,cz rfl ⟨_,rfl,gN fin⟩⟩
    .rw [aoK m]at eo;exact cz (bcN m) ⟨_,_,l,st',os',ws,fr,rfl,by lia,R2.le (by lia),p2,el,nl,lw,by rw[show k-(i+1)=k-1-i by lia];exact eo⟩
   .rintro σ G ⟨v5,v6,l,st',os',ws,fr,rfl,hik,R2,p2,el,nl,lw,eo⟩;have en:((k:Int)-1 - -1).toNat=k:=by lia
    rw[en,alg,aH]at eo;rw[en]at R2;rw[<-eo]at k';exact k' _ _ ⟨_,_,l,os',rfl,R2.le (by lia),p2,el,nl,lw⟩
  .have c':¬g.kind ="within":= λz=>c (by rw[z]);have ed:bT g k b st=(cB k b st,(st.at_ k).wd b,(st.at_ k).fr b):=aoK c';rw[ed]at k';exact k' _ _ ⟨_,_,l,bO,rfl,R1.le (by lia),p1,el,nl,bl⟩
 rintro _ G ⟨v5,v6,l2,iB,rfl,R2,p2,Yv,WV,Xe⟩;unfold pK at q;generalize bT g k b st=dq at *;obtain⟨st2,ws,fr⟩:=dq;dsimp only at *;cases fr with
 |true=>
  rw[aYH rfl]at q;obtain⟨jq,g2⟩:=R2.ob;exact⟨_,rfl,_,rfl,d8 rfl ⟨_,rfl,A.p,jq,_,rfl,g2,aq ..,_,rfl,_,_,rfl,rfl,_,rfl,_,rfl,A,g,st2,iB,_,k+1,b,l2,ws,rfl,R2,hk,bU,Yv,WV,Xe,by lia,λG3 qq R3 p3=>q _ _ R3 (p2.trans p3)⟩⟩
 |false=>
  rw[aoK (by decide)]at q;exact⟨_,rfl,_,rfl,cz rfl (q _ _ (R2.le (by lia)) p2)⟩
inductive vZ(K:W.Frag)(vs:List V)(H:Hp)(Q:VK)(E:XK):Prop
 |mk (A:TA) (g:aI) (st:ak) (os:OS) (n k:Nat) (b:Int):vs=[.ref A.p,.int (k:Int),.int b]->aa K H A g st os n->k=nearF st b->b∈g.U->n<=600000->(b∈((El g k b st).at_ 0).seq->Res K H A g os (El g k b st) (n+50) (Q .aQ))->vZ K vs H Q E
example:(fz FQ AF AL vj FP AH):=by
 obtain ⟨A,g,st,os,n,k,b,rfl,R,hk,bU,hn,q⟩:=h;refine⟨_,(Zd (aE (Zv kM (pv 1) (Zk (K:=K) rfl (pv 0) rfl) (Zu _)) (Zh (Zn (Zj AF hr.m T.aG (pv 0) (pc (pv 1) (pc (pv 2) Zb))))) Zt)
   (Zd (cK 3 nd (Zj AL hr.m T.aG (pv 0) (pc (pv 1) (pc (pv 2) Zb))))
   (Zh (uw atQ rfl (TH rfl T.rR (pc (aj Bj (pv 1) Zi) (pc (nF Ep Zi) (pc (nF Ep Zi) Zb)))) (bY 4 nd) (Zd (cK 5 nd (Zj vj hr.m T.aG (pv 0) (pc (pv 4) (pc (pv 2) Zb))))
   (Zd (aE (Ke (Su (pv 5))) (Zh (Zn (Zj FP hr.m T.aG (pv 0) (pc (pv 4) (pc (pv 5) Zb))))) Zt)
   (Zh (Zn (Zj AH hr.m T.aG (pv 0) (pc (pv 4) (pc (pv 2) (pc (pv 3) Zb)))))))))))),?_⟩
 have ln:=R.ln;have lS:=R.lS;have l4:g.n<=4:=R.wf.l4;obtain⟨b0,b1⟩:=R.wf.ub b bU;have fJ:k<=g.n:=by rw[hk];have:=Ii st b;lia
 have Mf:k<g.n->b∈(st.at_ k).seq:=λh=>by rw[hk];exact Ij (by lia)
 refine Ej (λσ G=>σ=[some (.ref A.p),some (.int (k:Int)),some (.int b),none,none,none]/\∃os',aa K G A g (bI g k b st) os' n/\bN (OW A os) H G (OW A os')) (λD' _ k'=>?_) ?_
 .obtain ⟨dx,h1⟩:=R.ob;refine⟨_,rfl,_,rfl,A.p,_,dx,_,_,rfl,h1,T.aG,T.vh,xP ..,_,_,rfl,rfl,_,rfl,?_⟩;by_cases c:k<g.n
  .have eu:bI g k b st=st.set k (j8 (g.cf k) (st.at_ k) b):=aYH c;rw[eu]at k';exact d8 (aSJ (by lia)) ⟨_,rfl,A.p,dx,_,rfl,h1,aq ..,_,rfl,_,rfl,A,g,st,os,n,k,b,rfl,R,c,Mf c,λH1 bO R1 p1=>k' _ _ ⟨rfl,bO,R1,p1⟩⟩
  .have eu:bI g k b st=st:=aoK c;rw[eu]at k';exact cz (bcN (by lia)) (k' _ _ ⟨rfl,os,R,bN.same (ay.refl _)⟩)
 rintro _ G ⟨rfl,gQ,R0,p0⟩;have V1:∀j,j≠k->((bI g k b st).at_ j).seq=(st.at_ j).seq:=λj hj=>by
  unfold bI;split
  .rw [zL,aoK (λz=>hj z.1)]
  .rfl
 have Cu:k<g.n->b∈((bI g k b st).at_ k).seq:=λh=>by
  have e:bI g k b st=st.set k (j8 (g.cf k) (st.at_ k) b):=aYH h;rw[e,ak.lA (by lia),aYH rfl];exact(Bk (Mf h)).mem_iff.mpr (Mf h)
 have nb:∀j,j<k->b∉((bI g k b st).at_ j).seq:=λj hj=>by
  rw[V1 j (by lia)];exact KD (by lia) (by lia)
 unfold El at q;generalize bI g k b st=cT at *;obtain⟨dx,h1⟩:=R0.ob;refine hide λu1 e1=>?_;refine⟨_,rfl,A.p,dx,_,rfl,h1,aq ..,_,rfl,_,rfl,A,g,cT,gQ,n,k,b,rfl,R0,fJ,Cu,b0,b1,λlw H1 lO s1 ew=>gN ?_⟩;subst e1;try dsimp only
 have nO:=R0.fresh lO;have oU:(ZX g cT k b).length=g.size.toNat:=by
  unfold ZX;split
  .unfold br;rw[aW8,aPc]
  .exact ((R0.pJ (k:=k) (by lia)).2.1 b (Cu (by lia))).2
 generalize ZX g cT k b=ws at *;have R1:=R0.same s1;refine⟨_,rfl,_,_,rfl,rfl,_,rfl,_,rfl,_,_,rfl,⟨by lia,by lia,by lia,by lia⟩,Te (hi:=(k:Int)-1) (n:=((k:Int)-1 - -1).toNat) (λi σ G'=>∃(v4 v5:Option V)(st':ak)(os':OS),σ=[some (.ref A.p),some (.int (k:Int)),some (.int b),some (.ref lw),v4,v5]/\i<=k/\aa K G' A g st' os' (n+11*i)/\bN (OW A os) H G' (OW A os')/\dS g b ws (k-i) st'=dS g b ws k cT/\(∀j,j<k-i->b∉(st'.at_ j).seq)/\(k-i<g.n->b∈(st'.at_ (k-i)).seq)/\G' lw=some (.lst (ws.map V.int))/\¬OW A os' lw)
  ⟨_,_,cT,gQ,rfl,abf _,R1,p0.trans (bN.same s1),rfl,nb,Cu,ew,nO⟩ ?_ ?_⟩
 .rintro i σ G' hi ⟨v4,v5,st',os',rfl,hik,R2,p2,ed,Cd,Ct,Qy,DW⟩;have hi':i<k:=by lia
  have en:((k:Int)-1-(i:Int))=((k-1-i:Nat):Int):=by lia
  rw[en];refine gN ?_;try dsimp only
  have hlt:k-1-i<g.n:=by lia
  have lS2:=R2.lS;have hbn:b∉(st'.at_ (k-1-i)).seq:=Cd (k-1-i) (by lia);obtain⟨w1,w2,w3,w4,w5,w6⟩:=R2.pJ (k:=k-1-i) (by lia);obtain⟨jq,g2⟩:=R2.ob;have Yw:k-i=(k-1-i)+1:=by lia
  rw[Yw,dS]at ed;refine hide λu1 e1=>?_;refine⟨_,rfl,A.p,jq,_,rfl,g2,aq ..,_,rfl,_,rfl,A,g,st',os',_,k-1-i,b,rfl,R2,hlt,λH3 s3 gp=>gN ?_⟩;subst e1;try dsimp only
  have R3:=R2.same s3;have MR:=s3 _ _ Qy;obtain⟨zE,g3⟩:=R3.ob;refine Ej (λσ' G3=>σ'=[some (.ref A.p),some (.int (k:Int)),some (.int b),some (.ref lw),some (.int ((k-1-i:Nat):Int)),some (wO (cA (g.cf (k-1-i)) (st'.at_ (k-1-i)) b))]/\∃bO,aa K G3 A g (ZK g (k-1-i) b st') bO (n+11*i+10)/\bN (OW A os') H3 G3 (OW A bO)/\b∉((ZK g (k-1-i) b st').at_ (k-1-i)).seq/\((Zl (g.cf (k-1-i)).sh (b%(g.cf (k-1-i)).sh) ((ZK g (k-1-i) b st').at_ (k-1-i)).seq).length:Int)<(g.cf (k-1-i)).pl/\∀j,j<k-1-i->b∉((ZK g (k-1-i) b st').at_ j).seq) (λD' _ k'=>?_) ?_
  .cases eg:cA (g.cf (k-1-i)) (st'.at_ (k-1-i)) b with
   |none=>
    have el:ZK g (k-1-i) b st'=st':=by unfold ZK;rw[eg]
    rw[eg]at gp k';rw[el]at k';exact⟨_,rfl,_,rfl,cz rfl (k' _ _ ⟨rfl,os',R3.le (by lia),bN.same (ay.refl _),hbn,Rp gp,λj hj=>Cd j (by lia)⟩)⟩
   |some go=>
    have el:ZK g (k-1-i) b st'=pK g (k-1-i) go st':=by unfold ZK;rw[eg]
    rw[eg]at gp k';rw[el]at k';obtain⟨m1,m2,m3⟩:=ED eg;have sq:=λj=>Sn (g:=g) (k:=k-1-i) (b:=go) (st:=st') (j:=j) (by lia);refine⟨_,rfl,_,rfl,d8 rfl ⟨_,rfl,A.p,zE,_,rfl,g3,aq ..,_,rfl,_,rfl,A,g,st',os',_,k-1-i,go,rfl,R3,hlt,m1,by lia,λH4 BS R4 p4=>k' _ _ ⟨rfl,BS,R4,p4,?_,?_,λj hj=>?_⟩⟩⟩
    .rw [sq,aYH (.inl rfl)];exact λm=>hbn (aF0 m)
    .rw [sq,aYH (.inl rfl)];exact Sl w3 m1 m2
    .rw [sq];have:=Cd j (by lia);split
     .exact λm=>this (aF0 m)
     .exact this
  rintro _ G3 ⟨rfl,BS,R4,p4,X4,hsh,WY⟩;obtain⟨Qx,Ph⟩:=p4.out MR DW;obtain⟨CP,g4⟩:=R4.ob;have lS4:=R4.lS;refine⟨_,rfl,A.p,CP,_,rfl,g4,aq ..,_,rfl,_,rfl,_,rfl,A,g,_,BS,_,k-1-i,b,lw,ws,rfl,R4,hlt,X4,bU,hsh,Qx,Ph,oU,by lia,λH5 LD R5 p5=>?_⟩;obtain⟨Yp,WZ⟩:=p5.out Qx Ph;have sq:=λj=>Eu (k:=k-1-i) (b:=b) (ws:=ws) (st:=ZK g (k-1-i) b st') (j:=j) (by lia);refine⟨_,_,_,LD,rfl,by lia,R5.le (by lia),((p2.trans (bN.same s3)).trans p4).trans p5,?_,λj hj=>?_,λ_=>?_,Yp,WZ⟩
  .rw [show k-(i+1)=k-1-i by lia];exact ed
  .rw [sq,aoK (by lia)];exact WY j (by lia)
  .rw [show k-(i+1)=k-1-i by lia,sq,aYH rfl];exact aEt _ (bau.mpr rfl)
 .rintro σ G' ⟨v4,v5,st',os',rfl,hik,R2,p2,ed,Cd,Ct,Qy,DW⟩;have en:((k:Int)-1 - -1).toNat=k:=by lia
  have l1:1<=g.n:=R.wf.l1;rw[en,alg]at ed Ct;rw[en]at R2;have ed:st'=dS g b ws k cT:=ed;rw[<-ed]at q;exact q (Ct (by lia)) _ _ (R2.le (by lia)) p2
def cH(st:ak):Prop:=∀i j,i<st.rm.length->j<st.rm.length->i≠j->∀x∈(st.at_ i).seq,x∉(st.at_ j).seq
def qZ(st:ak)(b:Int):Prop:=∀j,j<st.rm.length->b∉(st.at_ j).seq
theorem IA{g:aI}{k:Nat}{b:Int}{ws:List Int}{fr:Bool}{st:ak}:(bH g k b ws fr st).rm.length=st.rm.length:=by
 have go:∀{r k:Nat}{st:ak}{ws:List Int},(aZ g b ws r k st).rm.length=st.rm.length:=λ{r}=>by
  induction r with
  |zero=>intro k st ws;exact C7
  |succ r ih=>
   intro k st ws;rw[aZ];split
   .split
    .exact aS.trans C7
    .exact ih.trans C7
   .exact ih
 unfold bH ZB;split
 .split
  .exact aS.trans aS
  .exact go.trans aS
 .exact aS
theorem NF{st st':ak}{k:Nat}{b:Int}(d:cH st)(h:qZ st b)(l:st'.rm.length=st.rm.length)(sq:∀j,(st'.at_ j).seq=if j=k then(st.at_ j).seq++[b] else(st.at_ j).seq):cH st':=λi j hi hj hij x hx hx'=>by
 rw[l]at hi hj;rw[sq]at hx hx';by_cases z:i=k
 .rw [aYH z]at hx;rw[aoK (by lia)]at hx';rcases aUH.mp hx with m|m
  .exact d i j hi hj hij x m hx'
  .exact h j hj (bau.mp m ▸hx')
 .rw [aoK z]at hx;by_cases y:j=k
  .rw [aYH y]at hx';rcases aUH.mp hx' with m|m
   .exact d i j hi hj hij x hx m
   .exact h i hi (bau.mp m ▸hx)
  .rw [aoK y]at hx';exact d i j hi hj hij x hx hx'
theorem KC{st:ak}{k:Nat}{b:Int}(d:cH st)(hk:k<st.rm.length)(nn:(st.at_ k).seq.Nodup)(hb:b∈(st.at_ k).seq):cH (cB k b st)/\qZ (cB k b st) b:=by
 have sq:=λj=>jo (b:=b) (j:=j) hk;refine⟨λi j hi hj hij x hx hx'=>?_,λj hj m=>?_⟩
 .rw [bz]at hi hj;rw[sq]at hx hx';refine d i j hi hj hij x ?_ ?_
  .split at hx
   .exact aF0 hx
   .exact hx
  .split at hx'
   .exact aF0 hx'
   .exact hx'
 .rw [bz]at hj;rw[sq]at m;split at m
  .rename_i z;rw[z]at m;exact((aDB nn).mp m).1 rfl
  .rename_i z;exact d k j hk hj (λy=>z y.symm) b hb m
inductive jZ(K:W.Frag)(vs:List V)(H:Hp)(Q:VK)(E:XK):Prop
 |mk (A:TA) (g:aI) (st:ak) (os:OS) (n k:Nat) (b:Int) (lw:Addr) (ws:List Int) (fr:Bool):vs=[.ref A.p,.int (k:Int),.int b,.ref lw,.bl fr]->aa K H A g st os n->k<g.n->b∉(st.at_ k).seq->b∈g.U->((Zl (g.cf k).sh (b%(g.cf k).sh) (st.at_ k).seq).length:Int)<(g.cf k).pl->H lw=some (.lst (ws.map V.int))->(¬OW A os lw)->ws.length=g.size.toNat->n<=700000->Res K H A g os (bH g k b ws fr st) (n+6) (Q .aQ)->jZ K vs H Q E
example:(fB dX AH AG):=by
 obtain ⟨A,g,st,os,n,k,b,lw,ws,fr,rfl,R,hk,hb,bU,hsh,lO,nO,oU,hn,q⟩:=h;refine⟨_,(Zd (Zn (Zj AH hr.m T.aG (pv 0) (pc (pv 1) (pc (pv 2) (pc (pv 3) Zb)))))
   (Zh (aE (ZD (pv 4)) (Zh (Zn (Zj AG hr.m T.aG (pv 0) (pc (pv 1) (pc (pv 2) Zb))))) Zt))),?_⟩
 obtain⟨dx,h1⟩:=R.ob;have ln:=R.ln;have lS:=R.lS;refine⟨_,rfl,A.p,dx,_,rfl,h1,aq ..,_,rfl,_,rfl,_,rfl,A,g,st,os,n,k,b,lw,ws,rfl,R,hk,hb,bU,hsh,lO,nO,oU,by lia,λH1 bO R1 p1=>?_⟩;unfold bH at q;cases fr with
 |true=>
  rw[aYH rfl]at q;obtain⟨cQ,g1⟩:=R1.ob;exact⟨_,rfl,_,rfl,d8 rfl ⟨_,rfl,A.p,cQ,_,rfl,g1,aq ..,_,rfl,_,rfl,A,g,_,bO,_,k,b,rfl,R1,hk,by rw[Eu (by lia),aYH rfl];exact aEt _ (bau.mpr rfl),by lia,λH2 iB R2 p2=>q _ _ R2 (p1.trans p2)⟩⟩
 |false=>
  rw[aoK (by decide)]at q;exact⟨_,rfl,_,rfl,cz rfl (q _ _ (R1.le (by lia)) p1)⟩
inductive kj(K:W.Frag) (r:Nat)(vs:List V)(H:Hp)(Q:VK)(E:XK):Prop
 |mk (A:TA) (g:aI) (st:ak) (os:OS) (n k:Nat) (b:Int) (lw:Addr) (ws:List Int) (fr:Bool):vs=[.ref A.p,.int (k:Int),.int b,.ref lw,.bl fr]->aa K H A g st os n->k+r=g.n->qZ st b->cH st->b∈g.U->H lw=some (.lst (ws.map V.int))->(¬OW A os lw)->ws.length=g.size.toNat->n+7*r<=600000->(cH (pushS g r k b ws fr st)->(0<r->b∈((pushS g r k b ws fr st).at_ k).seq)->(∀j,j<k->((pushS g r k b ws fr st).at_ j).seq=(st.at_ j).seq)->Res K H A g os (pushS g r k b ws fr st) (n+7*r+1) (Q .aQ))->kj K r vs H Q E
def ZkN:Sp:=λ_ _ _ _=>False
theorem Uo{r:Nat}{FA:Sp}(rX:∀m,r=m+1->FA=kj K m)(F:rH K "push" "Stairs.push" bg f fd)(T:Txt K mg)(uI:d7 P w K mg base (af K "Stairs") "put" 3 fD (tD K))(vj:d7 P w K mg base (af K "Stairs") "leaver" 4 cE (nX K))(AK:d7 P w K mg base (af K "Stairs") "come_apart" 7 bF (jZ K))(oq:d7 P w K mg base (af K "Stairs") "go_out" 5 cF (jY K))(DJ:d7 P w K mg base (af K "Stairs") "push" (r+7) aR FA):b9 P w K mg base nR (r+8) f fd aR (kj K r):=by
 refine F.ok eS (λvs H Q E h=>?_) (λcdv A outer s0 H vs Q E hr h=>?_)
 .obtain ⟨A,g,st,os,n,k,b,lw,ws,fr,rfl,_⟩:=h;rfl
 obtain ⟨A,g,st,os,n,k,b,lw,ws,fr,rfl,R,hk,hb,dj,bU,lO,nO,oU,hn,q⟩:=h;have nd:=eS.nd;refine⟨_,(Zd (aE (Zv aY (pv 1) (Zk (K:=K) rfl (pv 0) rfl) (Zu _)) (Zd (aE (ZD (pv 4)) (Zh (Zn (Zj uI hr.m T.aG (pv 0) (pc (pv 1) (pc (pv 2) (pc (pv 3) Zb)))))) Zt)
   (Zh NR)) Zt)
   (Zd (cK 5 nd (Zj vj hr.m T.aG (pv 0) (pc (pv 1) (pc (pv 2) Zb))))
   (Zd (aE (Ke (QO (pv 5))) (Zd (Zn (Zj AK hr.m T.aG (pv 0) (pc (pv 1) (pc (pv 2) (pc (pv 3) (pc (pv 4) Zb))))))
   (Zh NR)) Zt)
   (Zd (se (Zj oq hr.m T.aG (pv 0) (pc (pv 1) (pc (pv 5) Zb))) (ZT (K:=K) (n:=2) rfl rfl (Zq (bY 6 nd) (Zq (bY 7 nd) ZS))))
   (Zd (Zn (Zj AK hr.m T.aG (pv 0) (pc (pv 1) (pc (pv 2) (pc (pv 3) (pc (pv 4) Zb))))))
   (Zh (Zn (Zj DJ hr.m T.aG (pv 0) (pc (aj ZC (pv 1) Zi) (pc (pv 5) (pc (pv 6) (pc (pv 7) Zb)))))))))))),?_⟩
 obtain⟨dx,h1⟩:=R.ob;have ln:=R.ln;have lS:=R.lS;cases r with
 |zero=>
  have ek:k=g.n:=by lia
  refine⟨_,rfl,_,rfl,A.p,_,dx,_,_,rfl,h1,T.aG,T.vh,xP ..,rfl,_,rfl,Ey (λe=>?_) (λe=>absurd (show(k:Int)=(A.as.length:Int) by lia) e)⟩;rw[pushS]at q;cases fr with
  |true=>
   rw[aYH rfl]at q;refine⟨_,rfl,_,rfl,d8 rfl ⟨_,rfl,A.p,dx,_,rfl,h1,aq ..,_,rfl,_,rfl,_,rfl,A,g,st,os,n,k,b,lw,ws,rfl,R,by lia,(λh=>absurd h (by lia)),bU,lO,nO,oU,by lia,λH2 iB R2 p2=>q (λi j hi hj hij x=>?_) (λh=>absurd h (aZG _)) (λj _=>Be) _ _ (R2.le (by lia)) p2⟩⟩;rw[Be,Be];rw[C7]at hi hj;exact dj i j hi hj hij x
  |false=>
   rw[aoK (by decide)]at q;exact⟨_,rfl,_,rfl,cz rfl (q dj (λh=>absurd h (aZG _)) (λ_ _=>rfl) _ _ (R.le (by lia)) (bN.same (ay.refl _)))⟩
 |succ r=>
  have fJ:k<g.n:=by lia
  obtain⟨u1,u2,u3,u4,u5,u6⟩:=R.pJ (k:=k) (by lia);refine⟨_,rfl,_,rfl,A.p,_,dx,_,_,rfl,h1,T.aG,T.vh,xP ..,rfl,_,rfl,Ey (λe=>absurd e (by lia)) (λe=>?_)⟩;dsimp only[eN];refine hide λu1 eu=>?_;refine⟨_,rfl,A.p,dx,_,rfl,h1,aq ..,_,rfl,_,rfl,A,g,st,os,n,k,b,rfl,R,fJ,λH1 s1 gp=>gN ?_⟩;subst eu;try dsimp only
  have R1:=R.same s1;have qI:=s1 _ _ lO;obtain⟨cQ,h2⟩:=R1.ob;have PY:=hb k (by lia);rw[pushS]at q;cases eg:cA (g.cf k) (st.at_ k) b with
  |none=>
   rw[eg]at gp q;dsimp only at q;have sq:=λj=>Oa (g:=g) (k:=k) (b:=b) (ws:=ws) (fr:=fr) (st:=st) (j:=j) (by lia);refine⟨_,rfl,_,rfl,d8 rfl ⟨_,rfl,A.p,cQ,_,rfl,h2,aq ..,_,rfl,_,rfl,_,rfl,_,rfl,A,g,st,os,n,k,b,lw,ws,fr,rfl,R1,fJ,PY,bU,Rp gp,qI,nO,oU,by lia,λH2 iB R2 p2=>?_⟩⟩;exact q (NF dj hb IA sq) (λ_=>by rw[sq,aYH rfl];exact aEt _ (bau.mpr rfl)) (λj hj=>by rw[sq,aoK (by lia)]) _ _ (R2.le (by lia)) ((bN.same s1).trans p2)
  |some go=>
   rw[eg]at gp q;dsimp only at q;obtain⟨m1,m2,m3⟩:=ED eg;refine⟨_,rfl,_,rfl,cz rfl ?_⟩;dsimp only[eN];refine hide λu1 eu=>?_;refine⟨_,rfl,A.p,cQ,_,rfl,h2,aq ..,_,rfl,_,rfl,A,g,st,os,n,k,go,rfl,R1,fJ,m1,by lia,λH2 iB t l et el nl R2 p2=>⟨t,_,rfl,aX.of et,rfl,_,_,rfl,gN ⟨_,_,rfl,gN ⟨rfl,?_⟩⟩⟩⟩;subst eu;try dsimp only
   obtain⟨CA,DW⟩:=p2.out qI nO;obtain⟨jq,h3⟩:=R2.ob;obtain⟨d2,DU⟩:=KC dj (by lia) u6 m1;have sg:=λj=>jo (b:=go) (j:=j) (st:=st) (k:=k) (by lia);have V8:((cB k go st).at_ k).seq=(st.at_ k).seq.erase go:=by rw[sg,aYH rfl]
   have Cd:qZ (cB k go st) b:=λj hj m=>by
    rw[bz]at hj;rw[sg]at m;split at m
    .exact hb j hj (aF0 m)
    .exact hb j hj m
   refine⟨_,rfl,A.p,jq,_,rfl,h3,aq ..,_,rfl,_,rfl,_,rfl,_,rfl,A,g,_,iB,_,k,b,lw,ws,fr,rfl,R2,fJ,Cd k (by rw[bz];lia),bU,by rw[V8];exact Sl u3 m1 m2,CA,DW,oU,by lia,λH3 qq R3 p3=>?_⟩;obtain⟨MU,LN⟩:=p3.out el nl;obtain⟨zE,h4⟩:=R3.ob;have sq:=λj=>Oa (g:=g) (k:=k) (b:=b) (ws:=ws) (fr:=fr) (st:=cB k go st) (j:=j) (by rw[bz];lia);have ne:go≠b:=λz=>PY (z ▸m1);have d3:=NF d2 Cd (IA (g:=g) (k:=k) (b:=b) (ws:=ws) (fr:=fr)) sq;have WH:qZ (bH g k b ws fr (cB k go st)) go:=λj hj m=>by
    rw[IA]at hj;rw[sq]at m;split at m
    .rcases aUH.mp m with m|m
     .exact DU j hj m
     .exact ne (bau.mp m)
    .exact DU j hj m
   have e0:=rX r rfl;subst e0;refine⟨_,rfl,A.p,zE,_,rfl,h4,aq ..,_,rfl,_,_,rfl,rfl,_,rfl,_,rfl,_,rfl,A,g,_,qq,_,k+1,go,l,_,_,rfl,R3,by lia,WH,d3,(u2 go m1).1,MU,LN,(u2 go m1).2,by lia,λz1 z2 z3 H4 BS R4 p4=>?_⟩;refine q z1 (λ_=>?_) (λj hj=>?_) _ _ (R4.le (by lia)) ((((bN.same s1).trans p2).trans p3).trans p4)
   .rw [z3 k (by lia),sq,aYH rfl];exact aEt _ (bau.mpr rfl)
   .rw [z3 j (by lia),sq,aoK (by lia),sg,aoK (by lia)]
theorem Uz(F:rH K "push" "Stairs.push" bg f fd)(bi:Binds K fd aR [])(m:Meth K (af K "Stairs") "push" f)(T:Txt K mg)(uI:d7 P w K mg base (af K "Stairs") "put" 3 fD (tD K))(vj:d7 P w K mg base (af K "Stairs") "leaver" 4 cE (nX K))(AK:d7 P w K mg base (af K "Stairs") "come_apart" 7 bF (jZ K))(oq:d7 P w K mg base (af K "Stairs") "go_out" 5 cF (jY K)):∀n,d7 P w K mg base (af K "Stairs") "push" (n+8) aR (kj K n)
 |0=>by
  have M0:d7 P w K mg base (af K "Stairs") "push" 7 aR ZkN:=⟨f,fd,⟨λ_ _ _ _ h=>h.elim,λ_ _ _ _ _ _ _ _ _ _ _ _ _ h=>h.elim⟩,m,bi⟩;exact⟨f,fd,Uo (r:=0) (λ_ h=>by lia) F T uI vj AK oq M0,m,bi⟩
 |n+1=>⟨f,fd,Uo (r:=n+1) (λj h=>by cases(show j=n by lia);rfl) F T uI vj AK oq (Uz F bi m T uI vj AK oq n),m,bi⟩
inductive tP(K:W.Frag)(vs:List V)(H:Hp)(Q:VK)(E:XK):Prop
 |mk (A:TA) (g:aI) (st:ak) (os:OS) (n:Nat) (b:Int):vs=[.ref A.p,.int (nearF st b:Nat),.int b]->aa K H A g st os n->cH st->b∈g.U->n<=500000->(cH (CU g (nearF st b) b st)->b∈((CU g (nearF st b) b st).at_ 0).seq->Res K H A g os (CU g (nearF st b) b st) (n+50) (Q .aQ))->tP K vs H Q E
example:(dW FT AF AL oq Ma):=by
 obtain ⟨A,g,st,os,n,b,rfl,R,dj,bU,hn,q⟩:=h;have l4:g.n<=4:=R.wf.l4;have l1:1<=g.n:=R.wf.l1;have DJ:=Ma g.n;refine⟨_,(Zh (aE (Zv aY (pv 1) Zi (Zu _)) (Zh (Zn (Zj AF hr.m T.aG (pv 0) (pc (pv 1) (pc (pv 2) Zb))))) (Zh (aE (Zv aY (pv 1) (Zk (K:=K) rfl (pv 0) rfl) (Zu _)) (Zh (Zn (Zj DJ hr.m T.aG (pv 0) (pc Zi (pc (pv 2) (pc (Zj AL hr.m T.aG (pv 0) (pc (pv 1) (pc (pv 2) Zb))) (pc dR Zb))))))) (Zd (se (Zj oq hr.m T.aG (pv 0) (pc (pv 1) (pc (pv 2) Zb))) (ZT (K:=K) (n:=2) rfl rfl (Zq (bY 3 nd) (Zq (bY 4 nd) ZS))))
   (Zh (Zn (Zj DJ hr.m T.aG (pv 0) (pc Zi (pc (pv 2) (pc (pv 3) (pc (pv 4) Zb)))))))))))),?_⟩
 obtain⟨dx,h1⟩:=R.ob;have ln:=R.ln;have lS:=R.lS;obtain⟨b0,b1⟩:=R.wf.ub b bU;have WT:=Ii st b;have zf:=Ij (st:=st) (b:=b);have Gg:=λj=>KD (st:=st) (b:=b) (j:=j);generalize nearF st b=k at *;unfold CU at q;refine⟨_,rfl,rfl,_,rfl,Ey (λe=>?_) (λe=>?_)⟩
 .have e0:k=0:=by lia
  subst e0;rw[aYH rfl]at q;have hb:=zf (by lia);have eu:bI g 0 b st=st.set 0 (j8 (g.cf 0) (st.at_ 0) b):=aYH (by lia);rw[eu]at q;have sq:∀j,((st.set 0 (j8 (g.cf 0) (st.at_ 0) b)).at_ j).seq.Perm (st.at_ j).seq:=λj=>by
   rw[zL];split
   .rename_i z;rw[z.1];exact Bk hb
   .exact aEu _
  refine⟨_,rfl,A.p,dx,_,rfl,h1,aq ..,_,rfl,_,rfl,A,g,st,os,n,0,b,rfl,R,by lia,hb,λH1 bO R1 p1=>q (λi j hi hj hij x hx hx'=>?_) ((sq 0).mem_iff.mpr hb) _ _ (R1.le (by lia)) p1⟩;rw[aS]at hi hj;exact dj i j hi hj hij x ((sq i).mem_iff.mp hx) ((sq j).mem_iff.mp hx')
 .have n0:k≠0:=by lia
  rw[aoK n0]at q;refine⟨_,rfl,_,rfl,A.p,_,dx,_,_,rfl,h1,T.aG,T.vh,xP ..,rfl,_,rfl,Ey (λe'=>?_) (λe'=>?_)⟩
  .have ek:k=g.n:=by lia
   rw[aYH ek]at q;refine⟨_,rfl,A.p,dx,_,rfl,h1,aq ..,_,rfl,_,rfl,A.p,dx,_,rfl,h1,aq ..,_,rfl,_,rfl,A,g,st,os,n,k,b,rfl,R,by lia,(λh=>absurd h (by lia)),b0,b1,λlw H1 lO s1 ew=>?_⟩;have ew:H1 lw=some (.lst ((br g.size st.mem b).map V.int)):=by rw[ew];unfold ZX;rw[aYH ek]
   exact⟨A,g,st,os,n,0,b,lw,_,false,rfl,R.same s1,by lia,λj hj=>Gg j (by lia) hj,dj,bU,ew,R.fresh lO,by unfold br;rw[aW8,aPc],by lia,λz1 z2 _ H2 iB R2 p2=>q z1 (z2 (by lia)) _ _ (R2.le (by lia)) ((bN.same s1).trans p2)⟩
  .have fJ:k<g.n:=by lia
   rw[aoK (by lia)]at q;have hb:=zf (by lia);obtain⟨u1,u2,u3,u4,u5,u6⟩:=R.pJ (k:=k) (by lia);obtain⟨d2,DU⟩:=KC dj (by lia) u6 hb;refine⟨_,rfl,A.p,dx,_,rfl,h1,aq ..,_,rfl,_,rfl,A,g,st,os,n,k,b,rfl,R,fJ,hb,by lia,λH2 iB t l et el nl R2 p2=>⟨t,_,rfl,aX.of et,rfl,_,_,rfl,gN ⟨_,_,rfl,gN ⟨rfl,?_⟩⟩⟩⟩;try dsimp only
   obtain⟨jq,h2⟩:=R2.ob;exact⟨_,rfl,A.p,jq,_,rfl,h2,aq ..,_,rfl,_,rfl,_,rfl,A,g,_,iB,_,0,b,l,_,_,rfl,R2,by lia,DU,d2,bU,el,nl,(u2 b hb).2,by lia,λz1 z2 _ H3 qq R3 p3=>q z1 (z2 (by lia)) _ _ (R3.le (by lia)) (p2.trans p3)⟩
inductive tK(K:W.Frag)(vs:List V)(H:Hp)(Q:VK)(E:XK):Prop
 |mk (A:TA) (g:aI) (st:ak) (os:OS) (n:Nat) (b:Int):vs=[.ref A.p,.int b]->aa K H A g st os n->(g.kind ="apart" ->cH st)->b∈g.U->n<=400000->((g.kind ="apart" ->cH (ZF g b st))->b∈((ZF g b st).at_ 0).seq->Res K H A g os (ZF g b st) (n+60) (Q .aQ))->tK K vs H Q E
example:(jK AE EV EZ FT FQ):=by
 obtain ⟨A,g,st,os,n,b,rfl,R,dj,bU,hn,q⟩:=h;refine⟨_,(Zd (cK 2 nd (Zj EV hr.m T.aG (pv 0) (pc (pv 1) Zb)))
   (Zd (Zn (Zj EZ hr.m T.aG (pv 0) (pc (pv 2) Zb)))
   (Zh (aE (Zv aY (Zk (K:=K) rfl (pv 0) rfl) ZV (Zu _)) (Zh (Zn (Zj FT hr.m T.aG (pv 0) (pc (pv 2) (pc (pv 1) Zb))))) (Zh (Zn (Zj FQ hr.m T.aG (pv 0) (pc (pv 2) (pc (pv 1) Zb))))))))),?_⟩
 obtain⟨dx,h1⟩:=R.ob;refine⟨_,rfl,A.p,dx,_,rfl,h1,aq ..,_,rfl,A,g,st,os,n,b,rfl,R,λH1 s1=>gN ?_⟩;try dsimp only
 have R1:=R.same s1;refine⟨_,rfl,A.p,dx,_,rfl,s1 _ _ h1,aq ..,_,rfl,A,g,st,os,n,nearF st b,rfl,R1,(by have:=Ii st b;have:=R.lS;have:=R.ln;lia),by lia,λH2 iB R2 p2=>?_⟩;obtain⟨jq,h2⟩:=R2.ob;unfold ZF at q;refine⟨_,rfl,A.p,_,jq,_,_,rfl,h2,T.aG,T.L6,Rr ..,rfl,_,rfl,uP (λc=>?_) (λc=>?_)⟩
 .have c':g.kind ="apart":=by injection c
  rw[aYH c']at q;exact⟨_,rfl,A.p,jq,_,rfl,h2,aq ..,_,rfl,_,rfl,A,g,st.tell (eF (nearF st b)),iB,_,b,rfl,R2,dj c',bU,by lia,λz1 z2 H3 qq R3 p3=>q (λ_=>z1) z2 _ _ (R3.le (by lia)) (((bN.same s1).trans p2).trans p3)⟩
 .have c':¬g.kind ="apart":= λz=>c (by rw[z]);rw[aoK c']at q;exact⟨_,rfl,A.p,jq,_,rfl,h2,aq ..,_,rfl,_,rfl,A,g,st.tell (eF (nearF st b)),iB,_,nearF st b,b,rfl,R2,rfl,bU,by lia,λz2 H3 qq R3 p3=>q (λz=>absurd z c') z2 _ _ (R3.le (by lia)) (((bN.same s1).trans p2).trans p3)⟩
inductive vP(K:W.Frag)(vs:List V)(H:Hp)(Q:VK)(_v3:XK):Prop
 |mk (A:TA) (g:aI) (st:ak) (os:OS) (sp:Int):vs=[.ref A.p,.int sp]->aa K H A g st os 0->(g.kind ="apart" ->cH st)->sp/g.size∈g.U->(∀H' e' os' tp,H' tp=some (.tup [.int (pO g ((ZF g (sp/g.size) st).at_ 0) sp),.ref A.ev])->aa K H' (A.re e') g (ly (ZF g (sp/g.size) st)) os' 0->rB g.n H' A.ev (ZF g (sp/g.size) st).ev->(ZF g (sp/g.size) st).ev.length<=100->¬OW (A.re e') os' A.ev->bN (OW A os) H H' (OW (A.re e') os')->(g.kind ="apart" ->cH (ZF g (sp/g.size) st))->sp/g.size∈((ZF g (sp/g.size) st).at_ 0).seq->Q (.ref tp) H')->vP K vs H Q _v3
example:(kR EM tX AE ES wH):=by
 obtain ⟨A,g,st,os,sp,rfl,R,dj,bU,q⟩:=h;refine⟨_,(Zd (cK 2 nd (Zm tX hr.m rfl (pc (Zk (K:=K) rfl (pv 0) rfl) (pc (pv 1) Zb))))
   (Zd (Zn (Zj AE hr.m T.aG (pv 0) (pc (pv 2) Zb)))
   (Zh (Zp (qS (pc (Zj ES hr.m T.aG (pv 0) (pc Zi (pc (pv 1) Zb))) (pc (ZO wH hr.m T.aG (pv 0)) Zb))))))),?_⟩
 obtain⟨dx,h1⟩:=R.ob;have z0:=R.wf.z0;have z1:=R.wf.z1;have l1:1<=g.n:=R.wf.l1;refine⟨_,rfl,A.p,_,dx,_,_,rfl,h1,T.aG,T.BA,Ew ..,_,rfl,g.size,sp,rfl,by lia,by lia,gN ?_⟩;try dsimp only
 refine⟨_,rfl,A.p,dx,_,rfl,h1,aq ..,_,rfl,A,g,st,os,0,_,rfl,R,dj,bU,by decide,λy1 y2 H1 bO R1 p1=>?_⟩;obtain⟨cQ,h2⟩:=R1.ob;refine⟨_,rfl,A.p,cQ,_,rfl,h2,aq ..,_,rfl,A,g,_,bO,_,0,sp,rfl,R1,l1,y2,λH2 s2=>?_⟩;have R2:=R1.same s2;refine⟨_,rfl,A.p,cQ,_,rfl,s2 _ _ h2,aq ..,A,g,_,bO,_,rfl,R2,λe' H3 R3 Eh ne3 p3=>⟨(sL 2),λtp htp=>?_⟩⟩;have s4:=Zg htp (.tup [.int (pO g ((ZF g (sp/g.size) st).at_ 0) sp),.ref A.ev]);exact q _ e' bO tp Za (R3.same s4) (Eh.frame (λo e=>s4 _ _ e) λx ys e=>s4 _ _ e) (alM R1.yj (by decide)) ne3 (((p1.trans (bN.same s2)).trans p3).trans (bN.same s4)) y1 y2
inductive sP(K:W.Frag)(vs:List V)(H:Hp)(Q:VK)(_v3:XK):Prop
 |mk (A:TA) (g:aI) (st:ak) (os:OS) (sp x:Int):vs=[.ref A.p,.int sp,.int x]->aa K H A g st os 0->(g.kind ="apart" ->cH st)->sp/g.size∈g.U->(∀H' e' os',aa K H' (A.re e') g (ly (Bf g sp x st)) os' 0->rB g.n H' A.ev (Bf g sp x st).ev->(Bf g sp x st).ev.length<=100->¬OW (A.re e') os' A.ev->bN (OW A os) H H' (OW (A.re e') os')->(g.kind ="apart" ->cH (Bf g sp x st))->sp/g.size∈((Bf g sp x st).at_ 0).seq->Q (.ref A.ev) H')->sP K vs H Q _v3
theorem ZkO{st st':ak}(d:cH st)(l:st'.rm.length=st.rm.length)(sq:∀j,(st'.at_ j).seq=(st.at_ j).seq):cH st':=λi j hi hj hij x hx hx'=>by
 rw[l]at hi hj;rw[sq]at hx hx';exact d i j hi hj hij x hx hx'
example:(jH EO tX AE EU AG wH):=by
 obtain ⟨A,g,st,os,sp,x,rfl,R,dj,bU,q⟩:=h;refine⟨_,(Zd (cK 3 nd (Zm tX hr.m rfl (pc (Zk (K:=K) rfl (pv 0) rfl) (pc (pv 1) Zb))))
   (Zd (Zn (Zj AE hr.m T.aG (pv 0) (pc (pv 3) Zb)))
   (Zd (Zn (Zj EU hr.m T.aG (pv 0) (pc Zi (pc (pv 1) (pc (pv 2) Zb)))))
   (Zd (Zn (Zj AG hr.m T.aG (pv 0) (pc Zi (pc (pv 3) Zb))))
   (Zh (Zp (ZO wH hr.m T.aG (pv 0)))))))),?_⟩
 obtain⟨dx,h1⟩:=R.ob;have z0:=R.wf.z0;have z1:=R.wf.z1;have l1:1<=g.n:=R.wf.l1;refine⟨_,rfl,A.p,_,dx,_,_,rfl,h1,T.aG,T.BA,Ew ..,_,rfl,g.size,sp,rfl,by lia,by lia,gN ?_⟩;try dsimp only
 refine⟨_,rfl,A.p,dx,_,rfl,h1,aq ..,_,rfl,A,g,st,os,0,_,rfl,R,dj,bU,by decide,λy1 y2 H1 bO R1 p1=>?_⟩;obtain⟨cQ,h2⟩:=R1.ob;refine⟨_,rfl,A.p,cQ,_,rfl,h2,aq ..,_,rfl,_,rfl,A,g,_,bO,_,0,sp,x,rfl,R1,l1,y2,λH2 iB R2 p2=>?_⟩;obtain⟨jq,h3⟩:=R2.ob;have Fz:∀j,(((ZF g (sp/g.size) st).set 0 (vm g ((ZF g (sp/g.size) st).at_ 0) sp x)).at_ j).seq=((ZF g (sp/g.size) st).at_ j).seq:=λj=>J9 rfl;refine⟨_,rfl,A.p,jq,_,rfl,h3,aq ..,_,rfl,A,g,_,iB,_,0,_,rfl,R2,l1,by rw[Fz];exact y2,by decide,λH3 qq R3 p3=>?_⟩;obtain⟨zE,h4⟩:=R3.ob;have OU:∀j,((Bf g sp x st).at_ j).seq=((ZF g (sp/g.size) st).at_ j).seq:=λj=>nM.trans (Fz j);refine⟨_,rfl,A.p,zE,_,rfl,h4,aq ..,A,g,_,qq,_,rfl,R3,λe' H4 R4 Yq ne4 p4=>?_⟩;exact q _ e' qq R4 Yq (alM R3.yj (by decide)) ne4 (((p1.trans p2).trans p3).trans p4) (λc=>ZkO (y1 c) (by have a1:=R3.lS;have a2:=R1.lS;show(Bf g sp x st).rm.length=_;rw[a2];exact a1) OU) (by rw[OU];exact y2)
theorem ZlU(x y:Str)(r:Int)(h0:0<=r)(h1:r<2):∃z:Str,fP [V.str x,V.str y] r=some (.str z)/\(z=x\/z=y):=by
 have h:r=0\/r=1:=by lia
 rcases h with rfl|rfl
 .exact ⟨x,dF,.inl rfl⟩
 .exact ⟨y,ig,.inr rfl⟩
inductive vQ(vs:List V)(H:Hp)(Q:VK)(E:XK):Prop
 |mk (b:Addr) (a q c:Int):vs=[.ref b]->aD H b a q c->c<400000000->(∀(p:Addr)(sh pl:Int)(r wr:Str)(a' c':Int)(H':Hp),H' p=some (.tup [.int sh,.int pl,.str r,.str wr])->1<=sh->sh<=64->1<=pl->pl<=16->zP r->Wr wr->aD H' b a' q c'->c'<=c+6->SB b H H'->Q (.ref p) H')->vQ vs H Q E
example:(ou E4 cU):=by
 obtain ⟨b,a,q,c,rfl,B,hc,k⟩:=h;refine⟨_,(Zd (cK 1 nd (xQ aY (Zm cU hr.m rfl (pc (pv 0) (pc Zi Zb))) Zi (Zu _)))
   (Zd (cK 2 nd (Df (ZD (pv 1)) (aj ZC Zi (Zm cU hr.m rfl (pc (pv 0) (pc Zi Zb)))) (au (Zo (K:=K) rfl) (sd (pc Zi (pc Zi (pc Zi (pc Zi (pc Zi Zb)))))) (Zm cU hr.m rfl (pc (pv 0) (pc Zi Zb))) (λ_ _=>rfl))))
   (Zd (cK 3 nd (aj ZC Zi (Zm cU hr.m rfl (pc (pv 0) (pc (Df (ZD (pv 1)) Zi Zi) Zb)))))
   (Zd (cK 4 nd (au (Zo (K:=K) rfl) (sd (pc ZV (pc ZV (pc ZV Zb)))) (Zm cU hr.m rfl (pc (pv 0) (pc Zi Zb))) (λ_ _=>rfl)))
   (Zh (Zp (qS (pc (pv 2) (pc (pv 3) (pc (pv 4) (pc (au (Zo (K:=K) rfl) (sd (pc ZV (pc ZV Zb))) (Zm cU hr.m rfl (pc (pv 0) (pc Zi Zb))) (λ_ _=>rfl)) Zb))))))))))),?_⟩
 refine hide λu9 e9=>?_;refine⟨_,rfl,b,a,q,c,6,rfl,B,by lia,by decide,by decide,λr1 a1 c1 H1 BK FO B1 hc1 s1=>⟨rfl,?_⟩⟩;generalize decide (V.int r1=V.int 0)=Qs;try dsimp only
 subst e9;try dsimp only
 refine hide λu9 e9=>?_;refine J5 (λv G=>∃z a' c',v=.int z/\1<=z/\z<=64/\aD G b a' q c'/\c'<=c1+1/\SB b H G) (λQ' k'=>?_) ?_
 .refine ⟨_,rfl,_,rfl,?_⟩;cases Qs with
  |true=>exact d8 rfl ⟨_,rfl,b,a1,q,c1,64,rfl,B1,by lia,by decide,by decide,λr2 a2 c2 H2 yg wC B2 hc2 s2=>⟨_,_,rfl,rfl,k' _ _ ⟨_,a2,c2,rfl,by lia,by lia,B2,by lia,s1.trans s2⟩⟩⟩
  |false=>
   refine cz rfl ⟨(sL 5),λp0 hp0=>⟨_,rfl,b,a1,q,c1,5,rfl,B1.same (Zg hp0 _),by lia,by decide,by decide,λr2 a2 c2 H2 yg wC B2 hc2 s2=>?_⟩⟩;have q0:b≠p0:=Ze B1.at' hp0;obtain⟨sh,hsh,DP,DO⟩:=FY r2 yg wC;exact⟨p0,_,_,_,rfl,rfl,aB.of (s2 _ _ (avX q0) Za),hsh,k' _ _ ⟨_,a2,c2,rfl,DP,DO,B2,by lia,s1.trans (((Zg hp0 _).sb b).trans s2)⟩⟩
 rintro _ H2 ⟨sh,a2,c2,rfl,DP,DO,B2,hc2,u2⟩;refine gN ?_;try dsimp only
 subst e9;try dsimp only
 refine hide λu9 e9=>?_;refine J5 (λv G=>∃z a' c',v=.int z/\1<=z/\z<=16/\aD G b a' q c'/\c'<=c2+1/\SB b H G) (λQ' k'=>?_) ?_
 .refine ⟨_,rfl,_,rfl,_,rfl,?_⟩;cases Qs with
  |true=>exact d8 rfl ⟨b,a2,q,c2,16,rfl,B2,by lia,by decide,by decide,λr3 a3 c3 H3 BJ AD B3 hc3 s3=>⟨_,_,rfl,rfl,k' _ _ ⟨_,a3,c3,rfl,by lia,by lia,B3,by lia,u2.trans s3⟩⟩⟩
  |false=>exact cz rfl ⟨b,a2,q,c2,4,rfl,B2,by lia,by decide,by decide,λr3 a3 c3 H3 BJ AD B3 hc3 s3=>⟨_,_,rfl,rfl,k' _ _ ⟨_,a3,c3,rfl,by lia,by lia,B3,by lia,u2.trans s3⟩⟩⟩
 rintro _ H3 ⟨pl,a3,c3,rfl,Jv,nC,B3,hc3,u3⟩;refine gN ?_;try dsimp only
 subst e9;try dsimp only
 refine hide λu9 e9=>?_;refine⟨(sL 3),λp3 hp3=>⟨_,rfl,b,a3,q,c3,3,rfl,B3.same (Zg hp3 _),by lia,by decide,by decide,λr4 a4 c4 H4 FN Jt B4 hc4 s4=>?_⟩⟩;have q3:b≠p3:=Ze B3.at' hp3;obtain⟨ru,XD,Xv⟩:=FW r4 FN Jt;refine⟨p3,_,_,_,rfl,rfl,aB.of (s4 _ _ (avX q3) Za),XD,?_⟩;subst e9;try dsimp only
 have u4:SB b H H4:=u3.trans (((Zg hp3 _).sb b).trans s4);refine⟨_,rfl,_,rfl,_,rfl,(sL 2),λp5 Mq=>⟨_,rfl,b,a4,q,c4,2,rfl,B4.same (Zg Mq _),by lia,by decide,by decide,λr5 a5 c5 H5 Lx OV B5 hc5 s5=>?_⟩⟩;have q5:b≠p5:=Ze B4.at' Mq;obtain⟨wr,hwr,Xu⟩:=ZlU "late" "through" r5 Lx OV;refine⟨p5,_,_,_,rfl,rfl,aB.of (s5 _ _ (avX q5) Za),hwr,(sL 4),λpp hpp=>?_⟩;exact k pp sh pl ru wr a5 c5 _ Za DP DO Jv nC Xv Xu (B5.same (Zg hpp _)) (by lia)
  ((u4.trans (((Zg Mq _).sb b).trans s5)).trans ((Zg hpp _).sb b))
theorem ZlV(r:Int)(h0:0<=r)(h1:r<3):∃z:Str,fP [V.str "within",V.str "apart",V.str "free"] r=some (.str z)/\(z ="within" \/z ="apart" \/z ="free"):=by
 have h:r=0\/r=1\/r=2:=by lia
 rcases h with rfl|rfl|rfl
 .exact ⟨_,dF,.inl rfl⟩
 .exact ⟨_,ig,.inr (.inl rfl)⟩
 .exact ⟨_,lB,.inr (.inr rfl)⟩
inductive tE(K:W.Frag)(vs:List V)(H:Hp)(Q:VK)(E:XK):Prop
 |mk (b:Addr) (a q c:Int):vs=[.ref b]->aD H b a q c->c<300000000->(∀(pp tp:Addr)(ts:List Addr)(size:Int)(kind:Str)(aO:List Cf)(a' c':Int)(H':Hp),H' pp=some (.tup [.int size,.str kind,.ref tp])->cD K H' tp ts aO->(kind ="within" \/kind ="apart" \/kind ="free")->1<=size->size<=16->1<=aO.length->aO.length<=4->aD H' b a' q c'->c'<=c+40->SB b H H'->Q (.ref pp) H')->tE K vs H Q E
example:(yZ Gx cU E4):=by
 obtain ⟨b,a,q,c,rfl,B,hc,k⟩:=h;refine⟨_,(Zd (cK 1 nd (au (Zo (K:=K) rfl) (sd (pc ZV (pc ZV (pc ZV Zb)))) (Zm cU hr.m rfl (pc (pv 0) (pc Zi Zb))) (λ_ _=>rfl)))
   (Zd (cK 2 nd (aj ZC Zi (Zm cU hr.m rfl (pc (pv 0) (pc (au (Zo (K:=K) rfl) (sd (pc Zi (pc Zi Zb))) (ZW Oi rfl T.D9 KL (pc (xQ aY (Zm cU hr.m rfl (pc (pv 0) (pc Zi Zb))) Zi (Zu _)) Zb)) (λ_ _=>rfl)) Zb)))))
   (Zh (Zp (qS (pc (pv 2) (pc (pv 1) (pc (ZW (ZcG (K:=K) rfl) rfl T.GA Ol (pc (Dc (ZZ (mh:=(Zr rP)) (oN:=Du) (N:=["_law_k","_law_box_here"]) (own:=1) (js:=[0]) (by decide +kernel) rfl rfl) rfl (ZY rfl T.rR (pc (aj ZC Zi (Zm cU hr.m rfl (pc (pv 0) (pc Zi Zb)))) Zb)) (λ_ _ _ _ _ _=>(bY 0 (show List.Nodup (["_law_k","_law_box_here"]:List Str) by decide +kernel))) (λ_ _ _ _ _ _=>(Zm E4 hr.m rfl (pc (pv 1) Zb)))) Zb)) Zb)))))))),?_⟩
 refine hide λu9 e9=>?_;refine⟨(sL 3),λp1 hp1=>⟨_,rfl,b,a,q,c,3,rfl,B.same (Zg hp1 _),by lia,by decide,by decide,λr1 a1 c1 H1 BK FO B1 hc1 s1=>?_⟩⟩;have q1:b≠p1:=Ze B.at' hp1;obtain⟨kd,hkd,Mg⟩:=ZlV r1 BK FO;refine⟨p1,_,_,_,rfl,rfl,aB.of (s1 _ _ (avX q1) Za),hkd,gN ?_⟩;try dsimp only
 subst e9;try dsimp only
 refine hide λu9 e9=>?_;have u1:SB b H H1:=((Zg hp1 _).sb b).trans s1;refine⟨_,rfl,(sL 2),λp2 hp2=>⟨_,rfl,b,a1,q,c1,8,rfl,B1.same (Zg hp2 _),by lia,by decide,by decide,λr2 a2 c2 H2 yg wC B2 hc2 s2=>⟨rfl,.inr ⟨_,rfl,?_⟩⟩⟩⟩;have q2:b≠p2:=Ze B1.at' hp2;obtain⟨n,hn,hn'⟩:=QT 4 16 (decide (V.int r2=V.int 0));refine⟨p2,_,_,_,rfl,rfl,aB.of (s2 _ _ (avX q2) Za),hn,b,a2,q,c2,n,rfl,B2,by lia,by lia,by lia,λr3 a3 c3 H3 BJ AD B3 hc3 s3=>⟨_,_,rfl,rfl,gN ?_⟩⟩;try dsimp only
 subst e9;try dsimp only
 have u3:SB b H H3:=(((u1.trans ((Zg hp2 _).sb b)).trans s2)).trans s3;refine⟨_,rfl,_,rfl,_,rfl,b,a3,q,c3,4,rfl,B3,by lia,by decide,by decide,λr4 a4 c4 H4 FN Jt B4 hc4 s4=>⟨_,_,rfl,rfl,_,rfl,by lia,by lia,λl hl=>?_⟩⟩;have oH:l≠b:=avX (Ze B4.at' hl);have u4:=u3.trans s4;refine KZ (lo:=0) (n:=(1+r4).toNat) (l:=l) (λj ys σ G=>∃(v0:Option V)(ts:List Addr)(aO:List Cf)(a' c':Int),σ=[v0,some (.ref b)]/\ys=ts.map V.ref/\ts.length=j/\aO.length=j/\(∀(i:Nat)(t:Addr)(c:Cf),ts[i]?=some t->aO[i]?=some c->∃wr:Str,G t=some (.tup [.int c.sh,.int c.pl,.str c.ru,.str wr])/\c.late=decide (wr ="late")/\Wr wr)/\(∀c∈aO,1<=c.sh/\c.sh<=64/\1<=c.pl/\c.pl<=16/\zP c.ru)/\G l=some (.lst ys)/\aD G b a' q c'/\c'<=c4+6*(j:Int)/\SB b H G)
  ⟨none,[],[],a4,c4,rfl,rfl,rfl,rfl,(λi t c h=>by simp at h),(λc h=>by simp at h),Za,B4.same (Zg hl _),by lia,u4.trans ((Zg hl _).sb b)⟩ ?_ ?_
 .rintro j ys σ G hj hys ⟨v0,ts,aO,a',c',rfl,rfl,hl1,hl2,hat,hcf,g1,B',hc',u'⟩;refine⟨_,rfl,b,a',q,c',rfl,B',by lia,λp sh pl r wr a5 c5 G5 ep DP DO Jv nC hr hw B5 hc5 s5=>?_⟩;have g5:=s5 _ _ oH g1;have WO:p≠l:=λz=>by rw[z,g5]at ep;cases ep
  refine rC.of (alM (by lia:(1+r4).toNat<=4) (by decide)) hj hys g5 ⟨_,ts++[p],aO++[⟨sh,pl,r,decide (wr ="late")⟩],a5,c5,rfl,by rw[aK6];rfl,by rw[aE0,hl1];rfl,by rw[aE0,hl2];rfl,λi t c h1 h2=>?_,λc hc=>?_,Za,B5.sb (Eo l _ _) (avX oH),by lia,λx o nx e=>?_⟩
  .by_cases hi:i<j
   .rw [aaw (by lia)]at h1 h2;obtain⟨wr',e1,e2⟩:=hat i t c h1 h2;refine⟨wr',?_,e2⟩;have LJ:t≠b:=λz=>by rw[z,B'.at']at e1;cases e1
    have oZ:=s5 _ _ LJ e1;rw[Zc (λz=>by rw[z,g5]at oZ;cases oZ)];exact oZ
   .have hi2:i=j:=by have:=(azG.mp h1).1;rw[aE0,ai8]at this;lia
    subst hi2;rw[bbj (by lia),show i-ts.length=0 by lia]at h1;rw[bbj (by lia),show i-aO.length=0 by lia]at h2;cases h1;cases h2;exact⟨wr,by rw[Zc WO];exact ep,rfl,hw⟩
  .rcases aUH.mp hc with hc|hc
   .exact hcf c hc
   .rw [bau.mp hc];exact⟨DP,DO,Jv,nC,hr⟩
  .have WG:x≠l:=λz=>by
    rw[z]at e;have:=u4 _ _ oH e;rw[this]at hl;cases hl
   rw[Zc WG];exact s5 _ _ nx (u' _ _ nx e)
 rintro ys σ G _ ⟨v0,ts,aO,a',c',rfl,rfl,hl1,hl2,hat,hcf,g1,B',hc',u'⟩;refine⟨l,_,rfl,.inl ⟨aB.of g1,λtp htp=>⟨(sL 3),λpp hpp=>?_⟩⟩⟩;have s5:=Zg htp (.tup (ts.map V.ref));have s6:=s5.trans (Zg hpp (.tup [.int (1+r3),.str kd,.ref tp]));refine k pp tp ts (1+r3) kd aO a' c' _ Za ⟨Zg hpp _ _ _ Za,by show ts.length=aO.length;lia,λi t c h1 h2=>by obtain⟨wr,e1,e2⟩:=hat i t c h1 h2;exact⟨wr,s6 _ _ e1,e2⟩,hcf⟩ Mg (by show 1<=1+r3;lia) (by show 1+r3<=16;lia) (by show 1<=aO.length;lia) (by show aO.length<=4;lia) (B'.same s6) (by lia) (u'.trans (s6.sb b))
inductive vS(vs:List V)(H:Hp)(Q:VK)(E:XK):Prop
 |mk (b:Addr) (a q c x y:Int):vs=[.ref b,.int x,.int y]->aD H b a q c->c<1099511627770->0<x->x<=y->y<1073741824->(∀(r a' c':Int)(H':Hp),1<=r->r<=y->aD H' b a' q c'->c'<=c+2->SB b H H'->Q (.int r) H')->vS vs H Q E
example:(y9 D6 cU):=by
 obtain ⟨b,a,q,c,x,y,rfl,B,hc,x0,xy,y1,k⟩:=h;refine⟨_,(Zd (cK 3 nd (xQ aY (Zm cU hr.m rfl (pc (pv 0) (pc Zi Zb))) Zi (Zu _)))
   (Zh (Zp (aj ZC Zi (Zm cU hr.m rfl (pc (pv 0) (pc (Df (ZD (pv 3)) (pv 2) (pv 1)) Zb))))))),?_⟩
 refine⟨_,rfl,b,a,q,c,8,rfl,B,by lia,by decide,by decide,λr a1 c1 G1 r0 r1 B1 hc1 t1=>?_⟩;refine⟨rfl,gN ?_⟩;refine⟨_,rfl,_,rfl,_,rfl,NW (λz=>?_) (λz=>?_)⟩
 .refine ⟨_,rfl,b,a1,q,c1,y,rfl,B1,by lia,by lia,by lia,λr2 a2 c2 G2 yg wC B2 hc2 t2=>?_⟩;exact⟨_,_,rfl,rfl,k (1+r2) a2 c2 G2 (by lia) (by lia) B2 (by lia) (t1.trans t2)⟩
 .refine ⟨_,rfl,b,a1,q,c1,x,rfl,B1,by lia,by lia,by lia,λr2 a2 c2 G2 yg wC B2 hc2 t2=>?_⟩;exact⟨_,_,rfl,rfl,k (1+r2) a2 c2 G2 (by lia) (by lia) B2 (by lia) (t1.trans t2)⟩
inductive Dd where
 |rd (sp:Int)
 |wt (sp x:Int)
def Dd.sp:Dd->Int
 | .rd sp=>sp
 | .wt sp _=>sp
def Dd.vs:Dd->List V
 | .rd sp=>[.str "read",.int sp]
 | .wt sp x=>[.str "write",.int sp,.int x]
def Dd.ok:Dd->Prop
 | .rd sp=>0<=sp/\sp<=9999
 | .wt sp x=>(0<=sp/\sp<=9999)/\x.natAbs<10 ^ 40
inductive sQ(vs:List V)(H:Hp)(Q:VK)(E:XK):Prop
 |mk (b:Addr) (a q c:Int):vs=[.ref b]->aD H b a q c->c<400000000->(∀(x a' c':Int)(H':Hp),x.natAbs<10 ^ 40->aD H' b a' q c'->c'<=c+8->SB b H H'->Q (.int x) H')->sQ vs H Q E
example:(yW Gy cU):=by
 obtain ⟨b,a,q,c,rfl,B,hc,k⟩:=h;refine⟨_,(Zd (cK 1 nd (Zm cU hr.m rfl (pc (pv 0) (pc Zi Zb))))
   (Zd (aE (Zv kM (pv 1) Zi (Zu _)) (Zd (cK 2 nd (Zm cU hr.m rfl (pc (pv 0) (pc (au (Zo (K:=K) rfl) (sd (pc Zi (pc Zi (pc Zi Zb)))) (pv 1) (λ_ _=>rfl)) Zb))))
   (Zh (Zp (au (Zo (K:=K) rfl) (sd (pc (pv 2) (pc (aj ZC Zi (pv 2)) (pc (aj Bj (nF Ep Zi) (pv 2)) Zb)))) (pv 1) (λ_ _=>rfl))))) Zt)
   (Zd (cK 2 nd Zi)
   (Zd (uw atQ rfl (ZY rfl T.rR (pc (aj ZC Zi (Zm cU hr.m rfl (pc (pv 0) (pc Zi Zb)))) Zb)) (bY 3 nd) (Zh (cK 2 nd (aj ZC (aj uR (pv 2) (aj Nl Zi Zi)) (Zm cU hr.m rfl (pc (pv 0) (pc (aj Nl Zi Zi) Zb)))))))
   (Zh (Zp (au (Zo (K:=K) rfl) (sd (pc (pv 2) (pc (aj Bj Zi (pv 2)) Zb))) (Zm cU hr.m rfl (pc (pv 0) (pc Zi Zb))) (λ_ _=>rfl)))))))),?_⟩
 refine⟨_,rfl,b,a,q,c,4,rfl,B,by lia,by decide,by decide,λr1 a1 c1 H1 BK FO B1 hc1 s1=>gN ?_⟩;try dsimp only
 refine⟨_,rfl,_,_,rfl,rfl,_,rfl,uP (λz=>?_) (λz=>?_)⟩
 .obtain ⟨n,hn,n0,n1⟩:∃n:Int,fP [V.int 9,V.int 99,V.int 99] r1=some (.int n)/\1<=n/\n<=99:=by
   have h:r1=0\/r1=1\/r1=2:=by lia
   rcases h with rfl|rfl|rfl
   .exact ⟨9,dF,by decide,by decide⟩
   .exact ⟨99,ig,by decide,by decide⟩
   .exact ⟨99,lB,by decide,by decide⟩
  refine⟨_,rfl,(sL 3),λp1 hp1=>⟨_,rfl,p1,_,_,_,rfl,rfl,aB.of Za,hn,b,a1,q,c1,n,rfl,B1.same (Zg hp1 _),by lia,by lia,by lia,λr2 a2 c2 H2 yg wC B2 hc2 s2=>gN ?_⟩⟩;try dsimp only
  obtain⟨x,hx,x1⟩:∃x:Int,fP [V.int r2,V.int (1+r2),V.int (-1-r2)] r1=some (.int x)/\x.natAbs<10 ^ 40:=by
   have h:r1=0\/r1=1\/r1=2:=by lia
   have YO:1000<=10 ^ 40:=by decide
   rcases h with rfl|rfl|rfl
   .exact ⟨_,dF,by lia⟩
   .exact ⟨_,ig,by lia⟩
   .exact ⟨_,lB,by lia⟩
  exact⟨_,rfl,_,rfl,_,_,rfl,rfl,_,rfl,_,rfl,_,_,rfl,rfl,(sL 3),λp2 hp2=>⟨_,rfl,p2,_,_,_,rfl,rfl,aB.of Za,hx,k x a2 c2 _ x1 (B2.same (Zg hp2 _)) (by lia) (((s1.trans ((Zg hp1 _).sb b)).trans s2).trans ((Zg hp2 _).sb b))⟩⟩
 .dsimp only[eN];refine gN ?_;try dsimp only
  refine⟨_,rfl,b,a1,q,c1,4,rfl,B1,by lia,by decide,by decide,λr2 a2 c2 H2 yg wC B2 hc2 s2=>⟨_,_,rfl,rfl,_,rfl,by lia,by lia,?_⟩⟩;have e7:(10:Int) ^ (7:Int).toNat=10000000:=by decide
  refine EF (lo:=0) (n:=(1+r2).toNat) (λi σ G=>∃(v3:Option V)(z a' c':Int),σ=[some (.ref b),some (.int r1),some (.int z),v3]/\0<=z/\z<10000000 ^ i/\aD G b a' q c'/\c'<=c2+(i:Int)/\SB b H G)
   ⟨none,0,a2,c2,rfl,by decide,by decide,B2,by lia,s1.trans s2⟩ ?_ ?_
  .rintro i σ G hi ⟨v3,z,a',c',rfl,z0,z1,B',hc',s'⟩;refine gN ?_;try dsimp only
   refine⟨_,rfl,_,_,rfl,rfl,⟨by decide,by decide,by decide⟩,_,_,rfl,rfl,.inr (by rw[e7];decide),_,rfl,_,_,rfl,rfl,⟨by decide,by decide,by decide⟩,b,a',q,c',_,rfl,B',by lia,by rw[e7];decide,by rw[e7];decide,λr3 a3 c3 H3 BJ AD B3 hc3 s3=>⟨_,_,rfl,rfl,gN ⟨_,_,a3,c3,rfl,?_,?_,B3,by lia,s'.trans s3⟩⟩⟩
   .rw [e7];lia
   .rw [e7]at AD ⊢;rw[Int.pow_succ];generalize(10000000:Int) ^ i=X at *;lia
  .rintro σ G ⟨v3,z,a',c',rfl,z0,z1,B',hc',s'⟩;have zb:z<10000000000000000000000000000:=by
    have h:(1+r2).toNat=1\/(1+r2).toNat=2\/(1+r2).toNat=3\/(1+r2).toNat=4:=by lia
    have p1:(10000000:Int) ^ 1=10000000:=by decide
    have p2:(10000000:Int) ^ 2=100000000000000:=by decide
    have p3:(10000000:Int) ^ 3=1000000000000000000000:=by decide
    have p4:(10000000:Int) ^ 4=10000000000000000000000000000:=by decide
    rcases h with e|e|e|e <;> rw[e]at z1 <;> lia
   have YO:10000000000000000000000000000<=10 ^ 40:=by decide
   refine⟨_,rfl,_,rfl,_,_,rfl,rfl,(sL 2),λp2 hp2=>⟨_,rfl,b,a',q,c',2,rfl,B'.same (Zg hp2 _),by lia,by decide,by decide,λr4 a4 c4 H4 FN Jt B4 hc4 s4=>?_⟩⟩;have np:b≠p2:=Ze B'.at' hp2;obtain⟨x,hx,x1⟩:∃x:Int,fP [V.int z,V.int (0-z)] r4=some (.int x)/\x.natAbs<10 ^ 40:=by
    have h:r4=0\/r4=1:=by lia
    rcases h with rfl|rfl
    .exact ⟨_,dF,by lia⟩
    .exact ⟨_,ig,by lia⟩
   exact⟨p2,_,_,_,rfl,rfl,aB.of (s4 _ _ (avX np) Za),hx,k x a4 c4 _ x1 B4 (by lia) ((s'.trans ((Zg hp2 _).sb b)).trans s4)⟩
inductive tM(vs:List V)(H:Hp)(Q:VK)(E:XK):Prop
 |mk (b l:Addr) (a q c size:Int) (ns:List Int):vs=[.ref b,.int size,.ref l]->aD H b a q c->l≠b->c<350000000->1<=size->size<=16->H l=some (.lst (ns.map V.int))->1<=ns.length->ns.length<=20->(∀x∈ns,0<=x/\x<=100000)->(∀(t:Addr)(d:Dd)(a' c':Int)(H':Hp),H' t=some (.tup d.vs)->d.ok->d.sp/size∈(9999/size) ::ns->aD H' b a' q c'->c'<=c+12->SB b H H'->Q (.ref t) H')->tM vs H Q E
example:(ze D7 cU Gy):=by
 obtain ⟨b,l,a,q,c,size,ns,rfl,B,oH,hc,z0,z1,hl,l0,l1,Ga,k⟩:=h;refine⟨_,(Zd (cK 3 nd (Zm cU hr.m rfl (pc (pv 0) (pc Zi Zb))))
   (Zd (cK 4 nd (Zs (Zhh rfl) rfl T.Mc ZiT (pc Zi (pc (aj ZC (aj uR (au (Zo (K:=K) rfl) (pv 2) (Zm cU hr.m rfl (pc (pv 0) (pc (Zs (ZG (K:=K) rfl) rfl T.zj aMZ (pc (pv 2) Zb)) Zb))) (λ_ _=>rfl)) (pv 1)) (Zm cU hr.m rfl (pc (pv 0) (pc (pv 1) Zb)))) Zb))))
   (Zh (Zp (Df (Zv aY (pv 3) Zi (Zu _)) (qS (pc ZV (pc (pv 4) (pc (Zm Gy hr.m rfl (pc (pv 0) Zb)) Zb)))) (qS (pc ZV (pc (pv 4) Zb)))))))),?_⟩
 refine⟨_,rfl,b,a,q,c,2,rfl,B,by lia,by decide,by decide,λr1 a1 c1 H1 BK FO B1 hc1 s1=>gN ?_⟩;try dsimp only
 have hl1:=s1 _ _ oH hl;refine⟨_,rfl,_,rfl,_,rfl,l,_,rfl,.inl (aB.of hl1),b,a1,q,c1,_,rfl,B1,by lia,by rw[aW8];lia,by rw[aW8];lia,λr2 a2 c2 H2 yg wC B2 hc2 s2=>?_⟩;rw[aW8]at wC;obtain⟨x,hx,xm⟩:=ZlP yg wC;have xb:=Ga x xm;refine⟨l,_,_,_,rfl,rfl,aB.of (s2 _ _ oH hl1),hx,_,rfl,_,_,rfl,rfl,.inl ⟨by lia,by lia⟩,_,rfl,_,rfl,b,a2,q,c2,size,rfl,B2,by lia,by lia,by lia,λr3 a3 c3 H3 BJ AD B3 hc3 s3=>⟨_,_,rfl,rfl,_,_,rfl,gN ?_⟩⟩;have m0:0<=x*size:=Int.mul_nonneg xb.1 (by lia);have ok:0<=(if x*size+r3<9999 then x*size+r3 else 9999)/\(if x*size+r3<9999 then x*size+r3 else 9999)<=9999:=by split <;> lia
 have Py:(if x*size+r3<9999 then x*size+r3 else 9999)/size∈(9999/size) ::ns:=by
  split
  .have e:(x*size+r3)/size=x:=by
    rw[Int.add_comm,aZv _ _ (by lia),a9l BJ AD,Int.zero_add]
   rw[e];exact aO5 _ xm
  .exact aAX
 generalize(if x*size+r3<9999 then x*size+r3 else 9999)=sp at *;try dsimp only
 have u3:=(s1.trans s2).trans s3;refine⟨_,rfl,rfl,_,rfl,NW (λz=>?_) (λz=>?_)⟩
 .exact ⟨_,rfl,_,rfl,b,a3,q,c3,rfl,B3,by lia,λy a4 c4 H4 yb B4 hc4 s4=>⟨(sL 3),λt ht=>k t (.wt sp y) a4 c4 _ Za ⟨ok,yb⟩ Py (B4.same (Zg ht _)) (by lia) ((u3.trans s4).trans ((Zg ht _).sb b))⟩⟩
 .exact ⟨_,rfl,(sL 2),λt ht=>k t (.rd sp) a3 c3 _ Za ok Py (B3.same (Zg ht _)) (by lia) (u3.trans ((Zg ht _).sb b))⟩
noncomputable def cI(g:aI)(d:Dd)(st:ak):ak:=match d with
 | .rd sp=>ZF g (sp/g.size) st
 | .wt sp x=>Bf g sp x st
structure zR(K:W.Frag)(H:Hp)(A:TA)(g:aI)(st:ak)(os:OS):Prop where
 at_:aa K H A g st os 0
 dj:g.kind ="apart" ->cH st
theorem zR.frame{H H':Hp}{A:TA}{g:aI}{st:ak}{os:OS}(r:zR K H A g st os)(f:∀x o,H x=some o->(OW A os x\/¬Mt o)->H' x=some o):zR K H' A g st os:=⟨r.at_.frame f,r.dj⟩
theorem aa.few{H:Hp}{A:TA}{g:aI}{st:ak}{os:OS}{n:Nat}(T:aa K H A g st os n){k:Nat}(hk:k<g.n)(hU:g.U.length<64):(st.at_ k).seq.length<64:=by
 have ln:=T.ln;obtain⟨a,e1,e2,e3,B⟩:=T.at_ (k:=k) (by lia);have nd:(st.at_ k).seq.Nodup:=B.aW.room.nd;exact a3J (CV nd λx hx=>T.vH _ (abH e3) x hx) hU
structure Lk(a b:ak):Prop where
 len:b.rm.length=a.rm.length
 sq:∀j,(b.at_ j).seq=(a.at_ j).seq
 us:∀j,(b.at_ j).us=(a.at_ j).us
theorem Lk.refl(a:ak):Lk a a:=⟨rfl,λ_=>rfl,λ_=>rfl⟩
theorem Lk.trans{a b c:ak}(x:Lk a b)(y:Lk b c):Lk a c:=⟨y.len.trans x.len,λj=>(y.sq j).trans (x.sq j),λj=>(y.us j).trans (x.us j)⟩
theorem J8{st:ak}{k:Nat}{s:Rm}(h1:s.seq=(st.at_ k).seq)(h2:s.us=(st.at_ k).us):Lk st (st.set k s):=by
 refine⟨aS,λj=>J9 h1,λj=>?_⟩;rw[zL];split
 .rename_i q;rw[h2,q.1]
 .rfl
theorem rV{g:aI}{k:Nat}{b:Int}{ws:List Int}{st:ak}:Lk st (bR g k b ws st):=by
 unfold bR;split
 .exact ⟨rfl,λ_=>rfl,λ_=>rfl⟩
 .have q:=J8 (st:=st) (k:=k) (s:=dY (st.at_ k) b ws) rfl rfl;exact⟨q.len,q.sq,q.us⟩
theorem Kz{g:aI}{b:Int}{ws:List Int}:∀{r k:Nat}{st:ak},Lk st (aZ g b ws r k st)
 |0,k,st=>rV
 |r+1,k,st=>by
  rw[aZ];split
  .split
   .exact rV.trans (J8 rfl rfl)
   .exact rV.trans Kz
  .exact Kz
theorem Ziu{g:aI}{k:Nat}{b:Int}{st:ak}:Lk st (ZB g k b st):=by
 unfold ZB;split
 .exact J8 rfl rfl
 .exact Kz
theorem xh{g:aI}{k:Nat}{x:Int}{a:ak}:Lk (bT g k x a).1 (pK g k x a):=by
 unfold pK;split
 .exact Kz
 .exact Lk.refl _
theorem ZkP{g:aI}{d:Dd}{st:ak}:Lk (ZF g (d.sp/g.size) st) (cI g d st):=by
 cases d with
 |rd sp=>exact Lk.refl _
 |wt sp x=>exact(J8 (s:=vm g ((ZF g (sp/g.size) st).at_ 0) sp x) rfl rfl).trans Ziu
theorem Zjq{g:aI}{k j:Nat}{b:Int}{st:ak}(hk:k<st.rm.length):(((ZK g k b st).at_ j).seq=(st.at_ j).seq)\/∃o,o∈(st.at_ k).seq/\o%(g.cf k).sh=b%(g.cf k).sh/\cA (g.cf k) (st.at_ k) b=some o/\((ZK g k b st).at_ j).seq=if j=k\/(g.kind ="within" /\j<k) then(st.at_ j).seq.erase o else(st.at_ j).seq:=by
 unfold ZK;split
 .exact .inl rfl
 .rename_i o e;exact .inr ⟨o,(ED e).1,(ED e).2.1,e,Sn hk⟩
theorem Ziv{g:aI}{k:Nat}{b:Int}{st:ak}:(ZK g k b st).rm.length=st.rm.length:=by
 unfold ZK;split
 .rfl
 .rw [xh.len];unfold bT;split
  .have:∀{k:Nat}{st:ak}{x:Int}{ws:List Int}{fr:Bool},(aH x k st ws fr).1.rm.length=st.rm.length:=λ{k}=>by
    induction k with
    |zero=>intro st x ws fr;rfl
    |succ k ih=>
     intro st x ws fr;rw[aH];split
     .rw [ih,bz]
     .exact ih
   rw[this,bz]
  .exact bz
theorem Ziw{g:aI}{k j:Nat}{b:Int}{st:ak}(hk:k<st.rm.length)(hb:b∉(st.at_ k).seq):b∈((ZK g k b st).at_ j).seq↔b∈(st.at_ j).seq:=by
 rcases Zjq (g:=g) (j:=j) (b:=b) hk with e|⟨o,ho,_,_,e⟩
 .rw [e]
 .rw [e];split
  .exact mem_erase_of_ne λz=>hb (z ▸ho)
  .exact Iff.rfl
theorem xK{k:Nat}{b:Int}{ws:List Int}{st:ak}:(bE k b ws st).rm.length=st.rm.length:=aS
theorem ZlW{a b s k:Int}(hs:0<s)(k0:0<=k)(k1:k<s)(h1:b*s<=a*s+k)(h2:a*s+k<b*s+s):a=b:=by
 have e1:∀x y:Int,x+1<=y->x*s+s<=y*s:=λx y h=>by
  have q:=Int.mul_le_mul_of_nonneg_right h (Int.le_of_lt hs);rw[Int.add_mul,Int.one_mul]at q;exact q
 by_cases c:a<b
 .have:=e1 a b c;lia
 .by_cases d:b<a
  .have:=e1 b a d;lia
  .lia
theorem ZkQ{s:Int}{mem:Int->Int}{b y:Int}{ws:List Int}(hs:0<s)(h:y≠b):br s (qH s mem b ws) y=br s mem y:=by
 unfold br;refine aWw λk hk=>?_;have hk:=aOD.mp hk;unfold qH gc;rw[aoK];rintro⟨h1,h2⟩;exact h (ZlW hs (Int.natCast_nonneg k) (by lia) h1 (by lia))
theorem Il{s:Int}{mem:Int->Int}{b:Int}:(br s mem b).length=s.toNat:=by unfold br;rw[aW8,aPc]
theorem KA{s:Int}{mem:Int->Int}{b:Int}{k:Nat}(h:k<s.toNat):(br s mem b)[k]?=some (mem (b*s+(k:Nat))):=by
 unfold br;rw[aeb,a0l h];rfl
theorem ZkR{s:Int}{mem:Int->Int}{b:Int}{ws:List Int}(h:ws.length=s.toNat):br s (qH s mem b ws) b=ws:=by
 apply bbg;intro k;by_cases c:k<s.toNat
 .rw [KA c];unfold qH gc;rw[aYH (by lia),show(b*s+(k:Nat)-b*s).toNat=k by lia,agc,aEW (by lia)];rfl
 .rw [ax8 (by rw[Il];lia),ax8 (by lia)]
def Cl(g:aI)(bk:Int->Int)(x:Int)(st:ak)(k:Nat):Prop:=(k<g.n->x∈(st.at_ k).seq)->(∀j,j<k->(st.at_ j).fr x=false)->ZX g st k x=br g.size bk x
def Fx(g:aI)(bk:Int->Int)(x:Int)(st:ak):Prop:=∀k,k<=g.n->Cl g bk x st k
structure aU(g:aI)(st:ak):Prop where
 len:st.rm.length=g.n
 nd:∀k,(st.at_ k).seq.Nodup
 ff:∀k x,(st.at_ k).fr x=true->x∈(st.at_ k).seq
theorem aU.no{g:aI}{st:ak}(h:aU g st){k:Nat}{x:Int}(n:x∉(st.at_ k).seq):(st.at_ k).fr x=false:=by
 cases e:(st.at_ k).fr x with
 |false=>rfl
 |true=>exact absurd (h.ff k x e) n
structure Vw(g:aI)(x:Int)(a b:ak):Prop where
 m:∀j,x∈(b.at_ j).seq↔x∈(a.at_ j).seq
 w:∀j,(b.at_ j).wd x=(a.at_ j).wd x
 f:∀j,(b.at_ j).fr x=(a.at_ j).fr x
 mem:br g.size b.mem x=br g.size a.mem x
section
variable{g:aI}{bk:Int->Int}{x y b:Int}{st a c:ak}{k:Nat}{ws:List Int}
theorem Vw.refl:Vw g x st st:=⟨λ_=>Iff.rfl,λ_=>rfl,λ_=>rfl,rfl⟩
theorem Vw.trans{a b c:ak}(p:Vw g x a b)(q:Vw g x b c):Vw g x a c:=⟨λj=>(q.m j).trans (p.m j),λj=>(q.w j).trans (p.w j),λj=>(q.f j).trans (p.f j),q.mem.trans p.mem⟩
theorem Vw.cl{a b:ak}(v:Vw g x a b)(h:Cl g bk x a k):Cl g bk x b k:=λh1 h2=>by
 have q:=h (λhk=>(v.m k).mp (h1 hk)) λj hj=>(v.f j).symm.trans (h2 j hj);rw[<-q];unfold ZX;split
 .exact v.mem
 .exact v.w k
theorem Vw.fx{a b:ak}(v:Vw g x a b)(h:Fx g bk x a):Fx g bk x b:=λk hk=>v.cl (h k hk)
theorem Ek{s:Rm}(hm:x∈s.seq↔x∈(st.at_ k).seq)(hw:s.wd x=(st.at_ k).wd x)(hf:s.fr x=(st.at_ k).fr x):Vw g x st (st.set k s):=by
 refine⟨λj=>?_,λj=>?_,λj=>?_,rfl⟩ <;> rw[zL] <;> split
 .rename_i z;rw[z.1];exact hm
 .exact Iff.rfl
 .rename_i z;rw[z.1];exact hw
 .rfl
 .rename_i z;rw[z.1];exact hf
 .rfl
theorem Vw.tell{a b:ak}{e:List V}(v:Vw g x a b):Vw g x a (b.tell e):=⟨v.m,v.w,v.f,v.mem⟩
theorem J7(hs:0<g.size)(h:x≠b):Vw g x st (bR g k b ws st):=by
 unfold bR;split
 .exact ⟨λ_=>Iff.rfl,λ_=>rfl,λ_=>rfl,ZkQ hs h⟩
 .exact (Ek (s:=dY (st.at_ k) b ws) Iff.rfl (by show(if x=b then ws else _)=_;rw[aoK h]) rfl).tell
theorem Sk(h:x≠b):Vw g x st (uQ k b st):=Ek (s:=A2 (st.at_ k) b) Iff.rfl rfl (by show(if x=b then true else _)=_;rw[aoK h])
theorem Ih(hs:0<g.size)(h:x≠b):∀{r k:Nat}{st:ak},Vw g x st (aZ g b ws r k st)
 |0,k,st=>J7 hs h
 |r+1,k,st=>by
  rw[aZ];split
  .split
   .exact (J7 hs h).trans (Sk h)
   .exact (J7 hs h).trans (Ih hs h)
  .exact Ih hs h
theorem Tt(hs:0<g.size)(h:x≠b):Vw g x st (ZB g k b st):=by
 unfold ZB;split
 .exact Sk h
 .exact Ih hs h
theorem ND(h:x≠b):Vw g x st (bE k b ws st):=
 (Ek (s:=AU (st.at_ k) b ws) (by show x∈_++[b]↔_;rw[mem_append,mem_singleton];exact⟨λq=>q.resolve_right h,.inl⟩) (by show(if x=b then ws else _)=_;rw[aoK h]) rfl).tell
theorem j7(h:x≠b):Vw g x st (cB k b st):=
 ((Vw.refl (st:=st)).tell (e:=eO k b)).trans (Ek (st:=st.tell (eO k b)) (s:=jC (st.at_ k) b) (mem_erase_of_ne h) rfl (by show(if x=b then false else _)=_;rw[aoK h];rfl))
theorem NC(h:x≠b):∀{k:Nat}{st:ak}{ws:List Int}{fr:Bool},Vw g x st (aH b k st ws fr).1
 |0,st,ws,fr=>Vw.refl
 |k+1,st,ws,fr=>by
  rw[aH];split
  .exact (j7 h).trans (NC h)
  .exact NC h
theorem Zjr(hs:0<g.size)(h:x≠b):Vw g x st (pK g k b st):=by
 have k1:Vw g x st (bT g k b st).1:=by
  unfold bT;split
  .exact (j7 h).trans (NC h)
  .exact j7 h
 unfold pK;split
 .exact k1.trans (Ih hs h)
 .exact k1
theorem Ro(h:k<g.n->b∈(st.at_ k).seq):Vw g x st (bI g k b st):=by
 unfold bI;split
 .rename_i hk;exact Ek (Bk (h hk)).mem_iff rfl rfl
 .exact Vw.refl
theorem N9{fr:Bool}(hs:0<g.size)(h:x≠b):Vw g x st (bH g k b ws fr st):=by
 unfold bH;split
 .exact (ND h).trans (Tt hs h)
 .exact ND h
theorem aU.tell{e:List V}(h:aU g st):aU g (st.tell e):=⟨h.len,h.nd,h.ff⟩
theorem aU.set{s:Rm}(h:aU g st)(n:s.seq.Nodup)(f:∀x,s.fr x=true->x∈s.seq):aU g (st.set k s):=by
 refine⟨aS.trans h.len,λj=>?_,λj x=>?_⟩ <;> rw[zL] <;> split
 .exact n
 .exact h.nd j
 .exact f x
 .exact h.ff j x
theorem aU.put(h:aU g st):aU g (bR g k b ws st):=by
 unfold bR;split
 .exact ⟨h.len,h.nd,h.ff⟩
 .exact (h.set (s:=dY (st.at_ k) b ws) (h.nd k) (h.ff k)).tell
theorem aU.fresh(h:aU g st)(hb:b∈(st.at_ k).seq):aU g (uQ k b st):=h.set (s:=A2 (st.at_ k) b) (h.nd k) λz hz=>by
 have hz:(if z=b then true else(st.at_ k).fr z)=true:=hz;by_cases e:z=b
 .rw [e];exact hb
 .rw [aoK e]at hz;exact h.ff k z hz
theorem aU.aZ:∀{r k:Nat}{st:ak},aU g st->aU g (aZ g b ws r k st)
 |0,k,st,h=>h.put
 |r+1,k,st,h=>by
  rw[sI.aZ];split
  .rename_i m;split
   .exact h.put.fresh (by rw[Be];exact m)
   .exact aU.aZ h.put
  .exact aU.aZ h
theorem aU.change(h:aU g st)(hb:b∈(st.at_ k).seq):aU g (ZB g k b st):=by
 unfold ZB;split
 .exact h.fresh hb
 .exact h.aZ
theorem aU.CS(h:aU g st)(hb:b∉(st.at_ k).seq):aU g (bE k b ws st):=(h.set (s:=AU (st.at_ k) b ws) (Ia (h.nd k) hb) λz hz=>aKU _ (h.ff k z hz)).tell
theorem aU.go(h:aU g st):aU g (cB k b st):=(h.tell (e:=eO k b)).set (s:=jC (st.at_ k) b) ((h.nd k).erase _) λz hz=>by
 have hz:(if z=b then false else(st.at_ k).fr z)=true:=hz;by_cases e:z=b
 .rw [aYH e]at hz;cases hz
 .rw [aoK e]at hz;exact(mem_erase_of_ne e).mpr (h.ff k z hz)
theorem aU.outs:∀{k:Nat}{st:ak}{ws:List Int}{fr:Bool},aU g st->aU g (aH b k st ws fr).1
 |0,st,ws,fr,h=>h
 |k+1,st,ws,fr,h=>by
  rw[aH];split
  .exact aU.outs h.go
  .exact aU.outs h
theorem aU.QI(h:aU g st):aU g (bT g k b st).1:=by
 unfold bT;split
 .exact h.go.outs
 .exact h.go
theorem aU.drive(h:aU g st):aU g (pK g k b st):=by
 unfold pK;split
 .exact h.QI.aZ
 .exact h.QI
theorem aU.leave(h:aU g st):aU g (ZK g k b st):=by
 unfold ZK;split
 .exact h
 .exact h.drive
theorem aU.used(h:aU g st)(hb:k<g.n->b∈(st.at_ k).seq):aU g (bI g k b st):=by
 unfold bI;split
 .rename_i hk;exact h.set ((Bk (hb hk)).nodup_iff.mpr (h.nd k)) λz hz=>(Bk (hb hk)).mem_iff.mpr (h.ff k z hz)
 .exact h
theorem aU.bH{fr:Bool}(h:aU g st)(hk:k<g.n)(hb:b∉(st.at_ k).seq):aU g (bH g k b ws fr st):=by
 unfold sI.bH;split
 .exact (h.CS hb).change (by rw[Eu (by rw[h.len];exact hk),aYH rfl];simp)
 .exact h.CS hb
theorem C4{a b:ak}(h:∀j,j<=k->b.at_ j=a.at_ j)(hm:k=g.n->b.mem=a.mem)(c:Cl g bk x a k):Cl g bk x b k:=λh1 h2=>by
 have q:=c (λhk=>by rw[<-h k (apX _)];exact h1 hk) λj hj=>by rw[<-h j (aIf hj)];exact h2 j hj
 rw[<-q];unfold ZX;split
 .rename_i z;rw[hm z]
 .rw [h k (apX _)]
theorem ZU(h:k<g.n):ZX g st k x=(st.at_ k).wd x:=by unfold ZX;rw[aoK (by lia)]
theorem zJ:ZX g st g.n x=br g.size st.mem x:=by unfold ZX;rw[aYH rfl]
theorem Bc{s:Rm}(h:k<st.rm.length):(st.set k s).at_ k=s:=by rw[ak.lA h,aYH rfl]
theorem C6{s:Rm}{j:Nat}(h:j≠k):(st.set k s).at_ j=st.at_ j:=by rw[zL,aoK (λq=>h q.1)]
theorem ZlX(hk:k<g.n):bR g k b ws st=(st.set k (dY (st.at_ k) b ws)).tell (eW k b):=by unfold bR;rw[aoK (by lia)]
theorem C5:∀{r k:Nat}{st:ak},k+r=g.n->st.rm.length=g.n->(∀j,j<k->Cl g bk x st j)->((∀i,i<k->(st.at_ i).fr x=false)->ws=br g.size bk x)->Fx g bk x (aZ g x ws r k st)
 |0,k,st,e,hl,hc,hw=>λj hj=>by
  rw[aZ];have e:k=g.n:=by lia
  subst e;unfold bR;rw[aYH rfl];by_cases c:j=g.n
  .subst c;intro _ h2;have q:=hw λi hi=>h2 i hi;rw[zJ];show br g.size (qH g.size st.mem x ws) x=_;rw[ZkR (by rw[q];exact Il)];exact q
  .exact C4 (a:=st) (λi _=>rfl) (λz=>absurd z c) (hc j (by lia))
 |r+1,k,st,e,hl,hc,hw=>by
  have hk:k<g.n:=by lia
  have fJ:k<st.rm.length:=by lia
  rw[aZ];split
  .rename_i m;rw[ZlX hk];split
   .intro j hj;have a1:∀i,i≠k->(uQ k x ((st.set k (dY (st.at_ k) x ws)).tell (eW k x))).at_ i=st.at_ i:=λi hi=>by
     unfold uQ;rw[C6 hi,zK,C6 hi]
    have a2:(uQ k x ((st.set k (dY (st.at_ k) x ws)).tell (eW k x))).at_ k=A2 (dY (st.at_ k) x ws) x:=by
     unfold uQ;rw[Bc (by show k<(st.set k _).rm.length;rw[aS];exact fJ),zK,Bc fJ]
    by_cases c:j<k
    .exact C4 (a:=st) (λi hi=>a1 i (by lia)) (λz=>by lia) (hc j c)
    .by_cases d:j=k
     .subst d;intro _ h2;rw[ZU hk,a2];show(if x=x then ws else _)=_;rw[aYH rfl];exact hw λi hi=>by rw[<-a1 i (by lia)];exact h2 i hi
     .intro _ h2;have q:=h2 k (by lia);rw[a2]at q;have q:(if x=x then true else _)=false:=q;rw[aYH rfl]at q;cases q
   .have a1:∀i,i≠k->((st.set k (dY (st.at_ k) x ws)).tell (eW k x)).at_ i=st.at_ i:=λi hi=>by rw[zK,C6 hi]
    have a2:((st.set k (dY (st.at_ k) x ws)).tell (eW k x)).at_ k=dY (st.at_ k) x ws:=by rw[zK,Bc fJ]
    have f1:∀i,(((st.set k (dY (st.at_ k) x ws)).tell (eW k x)).at_ i).fr x=(st.at_ i).fr x:=λi=>by
     by_cases c:i=k
     .rw [c,a2];rfl
     .rw [a1 i c]
    refine C5 (by lia) (aS.trans hl) (λj hj=>?_) λh=>hw λi hi=>by rw[<-f1];exact h i (by lia)
    by_cases c:j<k
    .exact C4 (a:=st) (λi hi=>a1 i (by lia)) (λz=>by lia) (hc j c)
    .have d:j=k:=by lia
     subst d;intro _ h2;rw[ZU hk,a2];show(if x=x then ws else _)=_;rw[aYH rfl];exact hw λi hi=>by rw[<-f1];exact h2 i hi
  .rename_i m;refine C5 (by lia) hl (λj hj=>?_) λh=>hw λi hi=>h i (by lia);by_cases c:j<k
   .exact hc j c
   .have d:j=k:=by lia
    subst d;exact λh1=>absurd (h1 hk) m
theorem Tr(hl:st.rm.length=g.n)(hk:k<g.n)(hx:x∈(st.at_ k).seq)(hc:∀j,j<=k->Cl g bk x st j):Fx g bk x (ZB g k x st):=by
 unfold ZB;split
 .intro j hj;have a1:∀i,i≠k->(uQ k x st).at_ i=st.at_ i:=λi hi=>C6 hi;have a2:(uQ k x st).at_ k=A2 (st.at_ k) x:=Bc (by lia);by_cases c:j<k
  .exact C4 (a:=st) (λi hi=>a1 i (by lia)) (λz=>by lia) (hc j (by lia))
  .by_cases d:j=k
   .subst d;intro h1 h2;have q:=hc j (apX _) (λ_=>hx) λi hi=>by rw[<-a1 i (by lia)];exact h2 i hi
    rw[ZU hk]at q ⊢;rw[a2];exact q
   .intro _ h2;have q:=h2 k (by lia);rw[a2]at q;have q:(if x=x then true else _)=false:=q;rw[aYH rfl]at q;cases q
 .refine C5 (by lia) hl (λj hj=>hc j (by lia)) λh=>?_;have q:=hc k (apX _) (λ_=>hx) λi hi=>h i (by lia);rw[ZU hk]at q;exact q
theorem xG(h:k<st.rm.length):(cB k b st).at_ k=jC (st.at_ k) b:=Bc (st:=st.tell (eO k b)) h
theorem qR{j:Nat}(h:j≠k):(cB k b st).at_ j=st.at_ j:=C6 (st:=st.tell (eO k b)) h
theorem Nh{s:Rm}(h:s.seq.Nodup):x∉(jC s x).seq:=λm=>((aDB h).mp m).1 rfl
theorem NB:∀{k:Nat}{st:ak}{ws:List Int}{fr:Bool},k<=st.rm.length->aU g st ->
  (∀i,k<=i->(aH x k st ws fr).1.at_ i=st.at_ i)/\(∀i,i<k->x∉((aH x k st ws fr).1.at_ i).seq)/\(aH x k st ws fr).1.mem=st.mem/\((aH x k st ws fr).2.2=false->fr=false/\∀i,i<k->(st.at_ i).fr x=false)/\(k<=g.n->(∀i,i<k->Cl g bk x st i)->((∀i,i<k->x∉(st.at_ i).seq)->ws=br g.size bk x)->(aH x k st ws fr).2.1=br g.size bk x)
 |0,st,ws,fr,_,_=>⟨λ_ _=>rfl,λi h=>absurd h (a1g _),rfl,λh=>⟨h,λi q=>absurd q (a1g _)⟩,λ_ _ h=>h λi q=>absurd q (a1g _)⟩
 |k+1,st,ws,fr,hk,ok=>by
  rw[aH];split
  .rename_i m;obtain⟨b1,b2,b3,b4,b5⟩:=NB (k:=k) (st:=cB k x st) (ws:=(st.at_ k).wd x) (fr:=fr || (st.at_ k).fr x) (by rw[bz];lia) ok.go;refine⟨λi hi=>?_,λi hi=>?_,b3,λh=>?_,λhn hc hw=>b5 (by lia) (λi hi=>?_) λh=>?_⟩
   .rw [b1 i (by lia),qR (by lia)]
   .by_cases c:i<k
    .exact b2 i c
    .have e:i=k:=by lia
     rw[e,b1 k (apX _),xG (by lia)];exact Nh (ok.nd k)
   .obtain ⟨c1,c2⟩:=b4 h;rw[Bool.or_eq_false_iff]at c1;refine⟨c1.1,λi hi=>?_⟩;by_cases c:i<k
    .have q:=c2 i c;rw[qR (by lia)]at q;exact q
    .have e:i=k:=by lia
     rw[e];exact c1.2
   .exact C4 (a:=st) (λj hj=>qR (by lia)) (λz=>by lia) (hc i (by lia))
   .have q:=hc k (by lia) (λ_=>m) λi hi=>ok.no (by
     have q:=h i hi;rw[qR (by lia)]at q;exact q)
    rw[ZU (by lia)]at q;exact q
  .rename_i m;obtain⟨b1,b2,b3,b4,b5⟩:=NB (k:=k) (st:=st) (ws:=ws) (fr:=fr) (by lia) ok;refine⟨λi hi=>b1 i (by lia),λi hi=>?_,b3,λh=>⟨(b4 h).1,λi hi=>?_⟩,λhn hc hw=>b5 (by lia) (λi hi=>hc i (by lia)) λh=>hw λi hi=>?_⟩
   .by_cases c:i<k
    .exact b2 i c
    .have e:i=k:=by lia
     rw[e,b1 k (apX _)];exact m
   .by_cases c:i<k
    .exact (b4 h).2 i c
    .have e:i=k:=by lia
     rw[e];exact ok.no m
   .by_cases c:i<k
    .exact h i c
    .have e:i=k:=by lia
     rw[e];exact m
theorem Zjs(ok:aU g st)(hk:k<g.n)(hx:x∈(st.at_ k).seq)(h:Fx g bk x st):Fx g bk x (pK g k x st):=by
 have fJ:k<st.rm.length:=by rw[ok.len];exact hk
 have n1:x∉((cB k x st).at_ k).seq:=by rw[xG fJ];exact Nh (ok.nd k)
 have l1:(cB k x st).rm.length=g.n:=bz.trans ok.len;have c1:∀j,j<k->Cl g bk x (cB k x st) j:=λj hj=>C4 (a:=st) (λi hi=>qR (by lia)) (λz=>by lia) (h j (by lia));unfold pK bT;by_cases w:g.kind ="within"
 .rw [aYH w];obtain⟨b1,b2,b3,b4,b5⟩:=NB (g:=g) (bk:=bk) (x:=x) (k:=k) (st:=cB k x st) (ws:=(st.at_ k).wd x) (fr:=(st.at_ k).fr x) (by lia) ok.go;have hw:=b5 (by lia) c1 λq=>by
   have e:=h k (by lia) (λ_=>hx) λi hi=>ok.no (by
    have q:=q i hi;rw[qR (by lia)]at q;exact q)
   rw[ZU hk]at e;exact e
  have no:∀j,j<=k->x∉((aH x k (cB k x st) ((st.at_ k).wd x) ((st.at_ k).fr x)).1.at_ j).seq:=λj hj=>by
   by_cases c:j<k
   .exact b2 j c
   .have e:j=k:=by lia
    rw[e,b1 k (apX _)];exact n1
  split
  .exact C5 (by lia) (ok.go.outs.len) (λj hj h1=>absurd (h1 (by lia)) (no j (by lia))) λ_=>hw
  .rename_i f;have f:(aH x k (cB k x st) ((st.at_ k).wd x) ((st.at_ k).fr x)).2.2=false:=by simpa using f
   obtain⟨d1,d2⟩:=b4 f;intro j hj h1 h2;by_cases c:j<=k
   .exact absurd (h1 (by lia)) (no j c)
   .have a1:∀i,k<i->(aH x k (cB k x st) ((st.at_ k).wd x) ((st.at_ k).fr x)).1.at_ i=st.at_ i:=λi hi=>by rw[b1 i (by lia),qR (by lia)]
    have q:=h j hj (λz=>by rw[<-a1 j (by lia)];exact h1 z) λi hi=>by
     by_cases c1:i<k
     .have q:=d2 i c1;rw[qR (by lia)]at q;exact q
     .by_cases c2:i=k
      .rw [c2];exact d1
      .rw [<-a1 i (by lia)];exact h2 i hi
    rw[<-q];unfold ZX;rw[a1 j (by lia),b3];rfl
 .rw [aoK w];split
  .refine C5 (by lia) l1 (λj hj=>?_) λq=>?_
   .by_cases c:j<k
    .exact c1 j c
    .have e:j=k:=by lia
     rw[e];exact λh1=>absurd (h1 hk) n1
   .have e:=h k (by lia) (λ_=>hx) λi hi=>by
     have q:=q i (by lia);rw[qR (by lia)]at q;exact q
    rw[ZU hk]at e;exact e
  .rename_i f;have f:(st.at_ k).fr x=false:=by simpa using f
   intro j hj h1 h2;by_cases c:j=k
   .rw [c]at h1;exact absurd (h1 hk) n1
   .have q:=h j hj (λz=>by have q:=h1 z;rw[show(cB k x st).at_ j=st.at_ j from qR c]at q;exact q) λi hi=>by
     by_cases d:i=k
     .rw [d];exact f
     .have q:=h2 i hi;rw[show(cB k x st).at_ i=st.at_ i from qR d]at q;exact q
    rw[<-q];unfold ZX;rw[show((cB k x st,(st.at_ k).wd x,(st.at_ k).fr x):ak×List Int×Bool).1.at_ j=st.at_ j from qR c];rfl
theorem Ziz(hs:0<g.size)(ok:aU g st)(hk:k<g.n)(hb:b∈(st.at_ k).seq)(h:∀x,Fx g bk x st):∀x,Fx g bk x (pK g k b st):=λx=>by
 by_cases e:x=b
 .rw [e];exact Zjs ok hk hb (h b)
 .exact (Zjr hs e).fx (h x)
theorem Tq(hs:0<g.size)(ok:aU g st)(hk:k<g.n)(h:∀x,Fx g bk x st):∀x,Fx g bk x (ZK g k b st):=by
 unfold ZK;split
 .exact h
 .rename_i e;exact Ziz hs ok hk (ED e).1 h
theorem ZkS(ok:aU g st)(hk:k<g.n)(hb:x∉(st.at_ k).seq)(hw:ws=br g.size bk x)(h:Fx g bk x st):Fx g bk x (bE k x ws st):=by
 have fJ:k<st.rm.length:=by rw[ok.len];exact hk
 have a1:∀i,i≠k->(bE k x ws st).at_ i=st.at_ i:=λi hi=>by unfold bE;rw[zK,C6 hi]
 have a2:(bE k x ws st).at_ k=AU (st.at_ k) x ws:=by unfold bE;rw[zK,Bc fJ]
 have f1:∀i,((bE k x ws st).at_ i).fr x=(st.at_ i).fr x:=λi=>by
  by_cases c:i=k
  .rw [c,a2];rfl
  .rw [a1 i c]
 intro j hj h1 h2;by_cases c:j=k
 .subst c;rw[ZU hk,a2];show(if x=x then ws else _)=_;rw[aYH rfl];exact hw
 .have q:=h j hj (λz=>by rw[<-a1 j c];exact h1 z) λi hi=>by rw[<-f1];exact h2 i hi
  rw[<-q];unfold ZX;rw[a1 j c];rfl
theorem Sj(hs:0<g.size)(hw:ws=br g.size bk b):∀{k:Nat}{st:ak},k<=g.n->aU g st->(∀x,Fx g bk x st)->(∀j,j<k->b∉(st.at_ j).seq)->aU g (dS g b ws k st)/\∀x,Fx g bk x (dS g b ws k st)
 |0,st,_,ok,h,_=>⟨ok,h⟩
 |k+1,st,hk,ok,h,hn=>by
  have fJ:k<st.rm.length:=by rw[ok.len];lia
  have m:=λj=>Ziw (g:=g) (j:=j) fJ (hn k (by lia));have l1:k<(ZK g k b st).rm.length:=by rw[Ziv];exact fJ
  have nk:b∉((ZK g k b st).at_ k).seq:=λz=>hn k (by lia) ((m k).mp z);rw[dS];refine Sj hs hw (by lia) (ok.leave.CS nk) (λx=>?_) λj hj=>?_
  .by_cases e:x=b
   .rw [e];exact ZkS ok.leave (by lia) nk hw (Tq hs ok (by lia) h b)
   .exact (ND e).fx (Tq hs ok (by lia) h x)
  .rw [Eu l1,aoK (by lia),m];exact hn j (by lia)
theorem Si{fr:Bool}(ok:aU g st)(hk:k<g.n)(hb:qZ st x)(hw:ws=br g.size bk x)(hm:fr=false->br g.size st.mem x=br g.size bk x):Fx g bk x (bH g k x ws fr st):=by
 have fJ:k<st.rm.length:=by rw[ok.len];exact hk
 have a1:∀i,i≠k->(bE k x ws st).at_ i=st.at_ i:=λi hi=>by unfold bE;rw[zK,C6 hi]
 have a2:(bE k x ws st).at_ k=AU (st.at_ k) x ws:=by unfold bE;rw[zK,Bc fJ]
 have cl:∀j,j<g.n->Cl g bk x (bE k x ws st) j:=λj hj h1 _=>by
  by_cases c:j=k
  .subst c;rw[ZU hk,a2];show(if x=x then ws else _)=_;rw[aYH rfl];exact hw
  .have q:=h1 hj;rw[a1 j c]at q;exact absurd q (hb j (by rw[ok.len];exact hj))
 unfold bH;split
 .exact Tr (xK.trans ok.len) hk (by rw[a2];exact aEt _ aAX) λj hj=>cl j (by lia)
 .rename_i f;have f:fr=false:=by simpa using f
  intro j hj;by_cases c:j=g.n
  .subst c;intro _ _;rw[zJ];exact hm f
  .exact cl j (by lia)
theorem N8(hs:0<g.size):∀{r k:Nat}{b:Int}{ws:List Int}{fr:Bool}{st:ak},k+r=g.n->aU g st->cH st->qZ st b->(∀x,x≠b->Fx g bk x st)->ws=br g.size bk b->(fr=false->br g.size st.mem b=br g.size bk b)->aU g (pushS g r k b ws fr st)/\∀x,Fx g bk x (pushS g r k b ws fr st)
 |0,k,b,ws,fr,st,e,ok,dj,nw,h,hw,hm=>by
  have e:k=g.n:=by lia
  subst e;rw[pushS];have OL:∀j,j<g.n->Cl g bk b st j:=λj hj h1=>absurd (h1 hj) (nw j (by rw[ok.len];exact hj));split
  .refine ⟨ok.put,λx=>?_⟩;by_cases c:x=b
   .rw [c];exact C5 (r:=0) (k:=g.n) (by lia) ok.len OL λ_=>hw
   .exact (J7 hs c).fx (h x c)
  .rename_i f;have f:fr=false:=by simpa using f
   refine⟨ok,λx=>?_⟩;by_cases c:x=b
   .rw [c];intro j hj;by_cases d:j=g.n
    .subst d;intro _ _;rw[zJ];exact hm f
    .exact OL j (by lia)
   .exact h x c
 |r+1,k,b,ws,fr,st,e,ok,dj,nw,h,hw,hm=>by
  have hk:k<g.n:=by lia
  have fJ:k<st.rm.length:=by rw[ok.len];exact hk
  rw[pushS];split
  .refine ⟨ok.bH hk (nw k fJ),λx=>?_⟩;by_cases c:x=b
   .rw [c];exact Si ok hk nw hw hm
   .exact (N9 hs c).fx (h x c)
  .rename_i o eo;have ho:=(ED eo).1;have JD:o≠b:=λz=>nw k fJ (z ▸ho);obtain⟨d0,n0⟩:=KC dj fJ (ok.nd k) ho;have LH:qZ (cB k o st) b:=λj hj m=>by
    rw[bz]at hj;rw[jo fJ]at m;split at m
    .exact nw j hj (aF0 m)
    .exact nw j hj m
   have OY:aU g (cB k o st):=ok.go;have GY:k<(cB k o st).rm.length:=by rw[bz];exact fJ
   have fo:∀j,j≠k->(st.at_ j).fr o=false:=λj hj=>by
    by_cases c:j<st.rm.length
    .exact ok.no (dj k j fJ c (avX hj) o ho)
    .refine ok.no λm=>?_;have e:st.at_ j=o8:=by
      unfold ak.at_;rw[agc,ax8 (by lia)];rfl
     rw[e]at m;cases m
   have c0:=h o JD k (by lia) (λ_=>ho) λj hj=>fo j (by lia);rw[ZU hk]at c0;have vo:=N9 (g:=g) (x:=o) (b:=b) (st:=cB k o st) (k:=k) (ws:=ws) (fr:=fr) hs JD;have Fz:=λj=>Oa (g:=g) (k:=k) (j:=j) (b:=b) (ws:=ws) (fr:=fr) GY;refine N8 hs (by lia) (OY.bH hk (LH k GY)) (NF d0 LH IA Fz) (λj hj m=>?_) (λx hx=>?_) c0 λf=>?_
   .rw [IA]at hj;rw[Fz]at m;split at m
    .rcases aUH.mp m with m|m
     .exact n0 j hj m
     .exact JD (bau.mp m)
    .exact n0 j hj m
   .by_cases c:x=b
    .rw [c];exact Si OY hk LH hw hm
    .exact ((j7 hx).trans (N9 hs c)).fx (h x c)
   .rw [vo.mem];have q:=h o JD g.n (apX _) (λz=>absurd z (aZG _)) λj hj=>by
     by_cases c:j=k
     .rw [c];exact f
     .exact fo j c
    rw[zJ]at q;exact q
theorem Tp(hs:0<g.size)(l1:1<=g.n)(ok:aU g st)(dj:g.kind ="apart" ->cH st)(h:∀x,Fx g bk x st):aU g (ZF g b st)/\∀x,Fx g bk x (ZF g b st):=by
 have WT:=Ii st b;have hlen:=ok.len;have Gg:=λj=>KD (st:=st) (b:=b) (j:=j);have zf:=Ij (st:=st) (b:=b);have vis:ZX g st (nearF st b) b=br g.size bk b:=h b _ (by lia) (λz=>zf (by lia)) λj hj=>ok.no (Gg j hj (by lia));have BW:aU g (st.tell (eF (nearF st b))):=ok.tell;have h1:∀x,Fx g bk x (st.tell (eF (nearF st b))):=λx=>(Vw.refl (st:=st)).tell.fx (h x);generalize hn:nearF st b=k at *;unfold ZF;rw[hn];split
 .rename_i ka;unfold CU;split
  .rename_i z;subst z;have hb:0<g.n->b∈((st.tell (eF 0)).at_ 0).seq:=λ_=>zf (by lia);exact⟨BW.used hb,λx=>(Ro hb).fx (h1 x)⟩
  .split
   .rename_i z;refine N8 hs (by lia) BW (dj ka) (λj hj=>Gg j (by have:j<st.rm.length:=hj;lia) hj) (λx _=>h1 x) ?_ λ_=>?_
    .rw [z,zJ]at vis;exact vis
    .rw [z,zJ]at vis;exact vis
   .rename_i z1 z2;have fJ:k<st.rm.length:=by lia
    have hb:=zf fJ;obtain⟨d2,DU⟩:=KC (st:=st.tell (eF k)) (dj ka) fJ (ok.nd k) hb;refine N8 hs (by lia) BW.go d2 DU (λx hx=>(j7 hx).fx (h1 x)) ?_ λf=>?_
    .rw [ZU (by lia)]at vis;exact vis
    .have q:=h b g.n (apX _) (λz=>absurd z (aZG _)) λj hj=>by
      by_cases c:j=k
      .rw [c];exact f
      .exact ok.no (dj ka k j fJ (by lia) (avX c) b hb)
     rw[zJ]at q;exact q
 .unfold El;have hb:k<g.n->b∈((st.tell (eF k)).at_ k).seq:=λz=>zf (by lia);have v:=λx=>Ro (g:=g) (x:=x) (st:=st.tell (eF k)) hb;refine Sj hs ?_ (by lia) (BW.used hb) (λx=>(v x).fx (h1 x)) λj hj m=>Gg j hj (by lia) (((v b).m j).mp m);rw[<-vis];unfold ZX;split
  .exact (v b).mem
  .exact (v b).w k
def zF(bk:Int->Int)(sp v:Int):Int->Int:=λs=>if s=sp then v else bk s
theorem HJ{sp v:Int}(hs:0<g.size)(h:y≠sp/g.size):br g.size (zF bk sp v) y=br g.size bk y:=by
 unfold br;refine aWw λk hk=>?_;have hk:=aOD.mp hk;unfold zF;rw[aoK];intro z;apply h;rw[<-z,Int.add_comm,aZv _ _ (by lia),a9l (Int.natCast_nonneg k) (by lia),Int.zero_add]
theorem HK{sp v:Int}(hs:0<g.size):br g.size (zF bk sp v) (sp/g.size)=(br g.size bk (sp/g.size)).set (sp%g.size).toNat v:=by
 have m0:0<=sp%g.size:=aBD _ (by lia);have m1:sp%g.size<g.size:=aIv _ hs;have dm:=aMD sp g.size;rw[Int.mul_comm]at dm;apply bbg;intro k;by_cases c:k<g.size.toNat
 .rw [KA c];by_cases d:k=(sp%g.size).toNat
  .rw [<-d,aIs (by rw[Il];exact c)];unfold zF;rw[aYH (by lia)]
  .rw [atg (avX d),KA c];unfold zF;rw[aoK (by lia)]
 .rw [ax8 (by rw[Il];lia),ax8 (by rw[aO6,Il];lia)]
theorem Nz{sp:Int}(hs:0<g.size):(br g.size bk (sp/g.size)).getD (sp%g.size).toNat 0=bk sp:=by
 have m0:0<=sp%g.size:=aBD _ (by lia);have m1:sp%g.size<g.size:=aIv _ hs;have dm:=aMD sp g.size;rw[Int.mul_comm]at dm;rw[agc,KA (by lia)];show bk _=_;congr 1
 lia
theorem ZiA{sp v:Int}(hs:0<g.size)(l1:1<=g.n)(ok:aU g st)(hb:sp/g.size∈(st.at_ 0).seq)(h:∀x,Fx g bk x st):aU g (ZB g 0 (sp/g.size) (st.set 0 (vm g (st.at_ 0) sp v)))/\∀x,Fx g (zF bk sp v) x (ZB g 0 (sp/g.size) (st.set 0 (vm g (st.at_ 0) sp v))):=by
 have BW:aU g (st.set 0 (vm g (st.at_ 0) sp v)):=ok.set (ok.nd 0) (ok.ff 0);have a2:(st.set 0 (vm g (st.at_ 0) sp v)).at_ 0=vm g (st.at_ 0) sp v:=Bc (by rw[ok.len];exact l1);have hb1:sp/g.size∈((st.set 0 (vm g (st.at_ 0) sp v)).at_ 0).seq:=by rw[a2];exact hb
 refine⟨BW.change hb1,λx=>?_⟩;by_cases c:x=sp/g.size
 .subst c;refine Tr BW.len l1 hb1 λj hj=>?_;have e:j=0:=by lia
  subst e;intro _ _;rw[ZU l1,a2,HK hs];show(if sp/g.size=sp/g.size then _ else _)=_;rw[aYH rfl];have q:=h (sp/g.size) 0 (abf _) (λ_=>hb) λj hj=>absurd hj (a1g _);rw[ZU l1]at q;rw[q]
 .have v:Vw g x st (ZB g 0 (sp/g.size) (st.set 0 (vm g (st.at_ 0) sp v))):=(Ek (s:=vm g (st.at_ 0) sp v) (k:=0) Iff.rfl (by show(if x=sp/g.size then _ else _)=_;rw[aoK c]) rfl).trans (Tt hs c);intro k hk h1 h2;rw[HJ hs c];exact v.fx (h x) k hk h1 h2
def HL(bk:Int->Int):Dd->Int->Int
 | .rd _=>bk
 | .wt sp v=>zF bk sp v
theorem Sh{d:Dd}(hs:0<g.size)(l1:1<=g.n)(ok:aU g st)(dj:g.kind ="apart" ->cH st)(hb:d.sp/g.size∈((ZF g (d.sp/g.size) st).at_ 0).seq)(h:∀x,Fx g bk x st):aU g (ly (cI g d st))/\∀x,Fx g (HL bk d) x (ly (cI g d st)):=by
 obtain⟨o1,f1⟩:=Tp (b:=d.sp/g.size) hs l1 ok dj h;cases d with
 |rd sp=>exact⟨⟨o1.len,o1.nd,o1.ff⟩,f1⟩
 |wt sp v=>
  obtain⟨o2,f2⟩:=ZiA (v:=v) hs l1 o1 hb f1;exact⟨⟨o2.len,o2.nd,o2.ff⟩,f2⟩
theorem oX:aU g (uA g.n)/\∀x,Fx g (λ_=>0) x (uA g.n):=by
 have e:∀j,(uA g.n).at_ j=o8:=λj=>by
  unfold uA ak.at_;rw[agc,ave];split <;> rfl
 refine⟨⟨a1S ..,λj=>by rw[e];exact nodup_nil,λj x h=>by rw[e]at h;cases h⟩,λx k hk h1 _=>?_⟩;by_cases c:k=g.n
 .rw [c,zJ];rfl
 .have q:=h1 (by lia);rw[e]at q;cases q
theorem ZiB{sp:Int}(hs:0<g.size)(l1:1<=g.n)(hb:sp/g.size∈(st.at_ 0).seq)(h:∀x,Fx g bk x st):pO g (st.at_ 0) sp=bk sp:=by
 have q:=h (sp/g.size) 0 (abf _) (λ_=>hb) λj hj=>absurd hj (a1g _);rw[ZU l1]at q;unfold pO;rw[q,Nz hs]
end
inductive Aw(K:W.Frag)(vs:List V)(H:Hp)(Q:VK)(E:XK):Prop
 |mk (p:Addr) (sh pl:Int) (ru:Str) (ls:Addr) (ao:List Addr) (du:Addr) (seq:List Int) (us:Int->Int) (n:Nat):vs=[.ref p]->az K H p sh pl ru ls ao du seq us n->seq.length<64->(∀(D:Addr)(os:List Int),H D=none->os.Perm seq->os.Pairwise (·<=·)->Q (.ref D) (upd H D (.lst (os.map V.int))))->Aw K vs H Q E
example:(kU EN):=by
 obtain⟨p,sh,pl,ru,ls,ao,du,seq,us,n,rfl,R,h64,k⟩:=h;refine⟨_,(Zh (Zp (Zs (Uu rfl) rfl T.Aj apK (pc (Zk (K:=K) rfl (pv 0) rfl) Zb)))),?_⟩;obtain⟨dx,h1⟩:=R.ob;obtain⟨kvs,h2,⟨h3,ks,h4,h5⟩,h6⟩:=R.dc;have per:ks.Perm seq:=by
  refine(aOk h5 R.nd).mpr λb=>?_;have q:=zM (kvs:=kvs) (Sum.inl b);rw[h6 b,h4]at q;constructor
  .intro m;have:=q.mpr (bax m);by_cases c:b∈seq
   .exact c
   .rw [aoK c]at this;cases this
  .intro m;rw[aYH m]at q;obtain⟨x,hx,e⟩:=a34.mp (q.mp rfl);rw[<-aIk e];exact hx
 exact⟨_,rfl,p,_,dx,_,_,rfl,h1,T.dQ,T.By,Ex ..,du,kvs,ks,rfl,h2,h4,by rw[per.length_eq];exact h64,λD os hD po pw=>k D os hD (po.trans per) pw⟩
inductive vW(K:W.Frag)(vs:List V)(H:Hp)(Q:VK)(E:XK):Prop
 |mk (A:TA) (g:aI) (st:ak) (os:OS) (n k:Nat):vs=[.ref A.p,.int (k:Int)]->aa K H A g st os n->k<g.n->(st.at_ k).seq.length<64->(∀(D:Addr)(bs:List Int),H D=none->bs.Perm (st.at_ k).seq->bs.Pairwise (·<=·)->Q (.ref D) (upd H D (.lst (bs.map V.int))))->vW K vs H Q E
example:(mw yR tZ EN):=by
 obtain⟨A,g,st,os,n,k,rfl,R,hk,h64,q⟩:=h;refine⟨_,(Zh (Zp (ZO EN hr.m T.dQ (Zk (K:=K) rfl (Zj tZ hr.m T.aG (pv 0) (pc (pv 1) Zb)) rfl)))),?_⟩;obtain⟨dx,h1⟩:=R.ob;have ln:=R.ln;obtain⟨a,e1,e2,e3,B⟩:=R.at_ (k:=k) (by lia);obtain⟨ds,h3⟩:=B.aW.ob;obtain⟨dr,h4⟩:=B.aW.room.ob;exact⟨_,rfl,A.p,dx,_,rfl,h1,aq ..,_,rfl,A,g,st,os,n,k,a,rfl,R,e1,a.sp,_,ds,_,_,rfl,h3,T.fH,T.yQ,Bm ..,a.rp,dr,_,rfl,h4,bJ ..,a.rp,(g.cf k).sh,(g.cf k).pl,(g.cf k).ru,a.ls,a.ao,a.du,(st.at_ k).seq,(st.at_ k).us,_,rfl,B.aW.room,h64,q⟩
section
variable{g:aI}{st:ak}{x b:Int}{k:Nat}{ws:List Int}{bk:Int->Int}
theorem lu:∀{r k:Nat}{st:ak},(aZ g b ws r k st).rm.length=st.rm.length
 |0,k,st=>C7
 |r+1,k,st=>by
  unfold aZ;split
  .split
   .exact aS.trans C7
   .exact lu.trans C7
  .exact lu
def cC(g:aI)(k:Nat)(b:Int)(st:ak):ak:=if(st.at_ k).fr b=true then aZ g b ((st.at_ k).wd b) (g.n-(k+1)) (k+1) (cB k b st) else cB k b st
def ie(g:aI)(k:Nat):List Int->ak->ak
 | [],st=>st
 |b ::bs,st=>ie g k bs (cC g k b st)
theorem ZkT(ok:aU g st):aU g (cC g k b st):=by
 unfold cC;split
 .exact ok.go.aZ
 .exact ok.go
theorem ZkU(ok:aU g st)(hk:k<g.n)(hx:x∈(st.at_ k).seq)(h:Fx g bk x st):Fx g bk x (cC g k x st):=by
 have fJ:k<st.rm.length:=by rw[ok.len];exact hk
 have n1:x∉((cB k x st).at_ k).seq:=by rw[xG fJ];exact Nh (ok.nd k)
 have l1:(cB k x st).rm.length=g.n:=bz.trans ok.len;unfold cC;split
 .refine C5 (by lia) l1 (λj hj=>?_) λq=>?_
  .by_cases c:j<k
   .exact C4 (a:=st) (λi hi=>qR (by lia)) (λz=>by lia) (h j (by lia))
   .have e:j=k:=by lia
    rw[e];exact λh1=>absurd (h1 hk) n1
  .have e:=h k (by lia) (λ_=>hx) λi hi=>by
    have q:=q i (by lia);rw[qR (by lia)]at q;exact q
   rw[ZU hk]at e;exact e
 .rename_i f;have f:(st.at_ k).fr x=false:=by simpa using f
  intro j hj h1 h2;by_cases c:j=k
  .rw [c]at h1;exact absurd (h1 hk) n1
  .have q:=h j hj (λz=>by have q:=h1 z;rw[qR c]at q;exact q) λi hi=>by
    by_cases d:i=k
    .rw [d];exact f
    .have q:=h2 i hi;rw[qR d]at q;exact q
   rw[<-q];unfold ZX;rw[qR c];rfl
theorem Zjt(hs:0<g.size)(ok:aU g st)(hk:k<g.n)(hb:b∈(st.at_ k).seq)(h:∀x,Fx g bk x st)(x:Int):Fx g bk x (cC g k b st):=by
 by_cases e:x=b
 .rw [e];exact ZkU ok hk hb (h b)
 .unfold cC;split
  .exact ((j7 e).trans (Ih hs e)).fx (h x)
  .exact (j7 e).fx (h x)
end
section
variable{g:aI}{st:ak}{b:Int}{k:Nat}
def vK(l:List Int):List Int:=l.mergeSort λa b=>decide (a<=b)
theorem ZlY{bs l:List Int}(p:bs.Perm l)(w:bs.Pairwise (·<=·)):bs=vK l:=by
 have w':(vK l).Pairwise (·<=·):=(List.pairwise_mergeSort (le:=λa b:Int=>decide (a<=b)) (λa b c h1 h2=>aSJ (a5K (of_decide_eq_true h1) (of_decide_eq_true h2))) (λa b=>by rcases Int.le_total a b with h|h <;> simp[h]) l).imp λh=>of_decide_eq_true h;exact List.Perm.eq_of_pairwise (λa b _ _ h1 h2=>Int.le_antisymm h1 h2) w w' (p.trans (List.mergeSort_perm _ _).symm)
def bf(g:aI)(st:ak):Nat->ak
 |0=>st
 |k+1=>ie g k (vK ((bf g st k).at_ k).seq) (bf g st k)
theorem Ky{j:Nat}(hk:k<st.rm.length):((cC g k b st).at_ j).seq=if j=k then(st.at_ j).seq.erase b else(st.at_ j).seq:=by
 unfold cC;split
 .rw [g9,jo hk]
 .exact jo hk
theorem Sg:(cC g k b st).rm.length=st.rm.length:=by
 unfold cC;split
 .exact lu.trans bz
 .exact bz
theorem RJ{j:Nat}:∀{bs:List Int}{st:ak},k<st.rm.length->bs.Perm (st.at_ k).seq->(ie g k bs st).rm.length=st.rm.length/\((ie g k bs st).at_ j).seq=if j=k then[] else(st.at_ j).seq
 | [],st,_,p=>⟨rfl,by
  split
  .rename_i e;rw[e];exact p.symm.eq_nil
  .rfl⟩
 |b ::bs,st,hk,p=>by
  have hk':k<(cC g k b st).rm.length:=by rw[Sg];exact hk
  have q:bs.Perm ((cC g k b st).at_ k).seq:=by
   rw[Ky hk,aYH rfl];have:=p.erase b;rwa [erase_cons_head]at this
  obtain⟨h1,h2⟩:=RJ (j:=j) (bs:=bs) hk' q;refine⟨h1.trans Sg,h2.trans ?_⟩;rw[Ky hk];by_cases c:j=k
  .rw [aYH c,aYH c]
  .rw [aoK c,aoK c,aoK c]
theorem kh{l:List Int}:(vK l).Perm l:=List.mergeSort_perm _ _
theorem Ig{j:Nat}:∀{k:Nat},k<=st.rm.length->(bf g st k).rm.length=st.rm.length/\((bf g st k).at_ j).seq=if j<k then[] else(st.at_ j).seq
 |0,_=>⟨rfl,by rw[aoK (a1g _)];rfl⟩
 |k+1,hk=>by
  obtain⟨h1,h2⟩:=Ig (j:=j) (k:=k) (by lia);obtain⟨h3,h4⟩:=RJ (g:=g) (j:=j) (k:=k) (st:=bf g st k) (by rw[h1];lia) kh;refine⟨h3.trans h1,h4.trans ?_⟩;by_cases c:j=k
  .rw [aYH c,aYH (by lia)]
  .rw [aoK c,h2];by_cases c2:j<k
   .rw [aYH c2,aYH (by lia)]
   .rw [aoK c2,aoK (by lia)]
theorem N7(hl:st.rm.length=g.n):cH (bf g st g.n):=λi j hi hj hij x hx=>by
 have q:=Ig (g:=g) (st:=st) (j:=i) (k:=g.n) (by lia);rw[q.1]at hi;rw[q.2,aYH (by lia)]at hx;exact absurd hx (by simp)
end
inductive Au(K:W.Frag)(vs:List V)(H:Hp)(Q:VK)(_v3:XK):Prop
 |mk (A:TA) (g:aI) (st:ak) (os:OS):vs=[.ref A.p]->aa K H A g st os 0->g.U.length<64->(∀H' e' os',aa K H' (A.re e') g (ly (bf g st g.n)) os' 0->rB g.n H' A.ev (bf g st g.n).ev->(bf g st g.n).ev.length<=2000->¬OW (A.re e') os' A.ev->bN (OW A os) H H' (OW (A.re e') os')->Q (.ref A.ev) H')->Au K vs H Q _v3
example:(gY BL yR oq wG wH):=by
 obtain ⟨A,g,st,os,rfl,R,hU,q⟩:=h;refine⟨_,(Zd (uw atQ rfl (ZY rfl T.rR (pc (Zk (K:=K) rfl (pv 0) rfl) Zb)) (bY 1 nd) (Zh (uw atQ rfl (Ir (K:=K) rfl (Zj yR hr.m T.aG (pv 0) (pc (pv 1) Zb))) (bY 2 nd) (Zd (se (Zj oq hr.m T.aG (pv 0) (pc (pv 1) (pc (pv 2) Zb))) (ZT (K:=K) (n:=2) rfl rfl (Zq (bY 3 nd) (Zq (bY 4 nd) ZS))))
   (Zh (aE (ZD (pv 4)) (Zh (Zn (Zj wG hr.m T.aG (pv 0) (pc (aj ZC (pv 1) Zi) (pc (pv 2) (pc (pv 3) Zb)))))) Zt))))))
   (Zh (Zp (ZO wH hr.m T.aG (pv 0))))),?_⟩
 obtain⟨dx,h1⟩:=R.ob;have ln:=R.ln;have lS:=R.lS;have l4:g.n<=4:=R.wf.l4;have hsl:st.rm.length=g.n:=by lia
 refine hide λu1 e1=>?_;refine⟨_,rfl,A.p,_,dx,_,_,rfl,h1,T.aG,T.vh,xP ..,_,rfl,by lia,by lia,EF (lo:=0) (n:=(A.as.length:Int).toNat) (λi σ G=>∃(v1 v2 v3 v4:Option V)(os':OS),σ=[some (.ref A.p),v1,v2,v3,v4]/\aa K G A g (bf g st i) os' (400*i)/\bN (OW A os) H G (OW A os')) ⟨_,_,_,_,os,rfl,R,bN.same (ay.refl _)⟩ ?_ ?_⟩
 .rintro i σ G hi ⟨v1,v2,v3,v4,bO,rfl,R1,p1⟩;have e0:(0:Int)+(i:Int)=(i:Int):=by lia
  have hi':i<g.n:=by lia
  rw[e0];refine gN ?_;try dsimp only
  obtain⟨cQ,g1⟩:=R1.ob;refine⟨_,rfl,A.p,cQ,_,rfl,g1,aq ..,_,rfl,A,g,bf g st i,bO,_,i,rfl,R1,hi',R1.few hi' hU,λD bs hD pb pw=>⟨D,rfl,⟨_,aB.of Za⟩,?_⟩⟩;have n64:bs.length<64:=by rw[pb.length_eq];exact R1.few hi' hU
  have eb:=ZlY pb pw;have s2:=Zg hD (.lst (bs.map V.int));have eD:=Za (H:=G) (a:=D) (o:=.lst (bs.map V.int));have R2:=R1.same s2;have p2:=p1.trans (bN.same s2);have nD:=R1.fresh hD;have eK:ie g i bs (bf g st i)=bf g st (i+1):=by show _=ie g i (vK _) _;rw[<-eb]
  generalize upd G D (.lst (bs.map V.int))=G2 at *;refine SK (K:=K) (a:=D) (xs:=bs.map V.int) (λj σ G'=>∃(v2 v3 v4:Option V)(os':OS)(s':ak),σ=[some (.ref A.p),some (.int (i:Int)),v2,v3,v4]/\aa K G' A g s' os' (400*i+6*j)/\ie g i (bs.drop j) s'=bf g st (i+1)/\(bs.drop j).Perm (s'.at_ i).seq/\bN (OW A os) H G' (OW A os')/\G' D=some (.lst (bs.map V.int))/\¬OW A os' D)
   ⟨_,_,_,bO,bf g st i,rfl,R2,eK,pb,p2,eD,nD⟩ (λj σ G' _ h=>by obtain⟨_,_,_,_,_,_,_,_,_,_,e,_⟩:=h;exact aB.of e) ?_ ?_
  .rintro j x σ G3 hx ⟨v2,v3,v4,qq,s',rfl,R3,e3,Ju,p3,HB,W4⟩;obtain⟨b,QD,rfl⟩:=Kr hx;have hj:j<bs.length:=(azG.mp QD).1;have ed:bs.drop j=b ::bs.drop (j+1):=by
    rw[aFS hj];congr 1
    exact(azG.mp QD).2
   rw[ed]at e3 Ju;have hb:b∈(s'.at_ i).seq:=Ju.mem_iff.mp aAX;have lS3:=R3.lS;have DY:=R3.ln;obtain⟨_,u2,_,_,_,_⟩:=R3.pJ (k:=i) (by lia);obtain⟨bU,bl⟩:=u2 b hb;obtain⟨zE,g3⟩:=R3.ob;refine gN ?_;try dsimp only
   refine hide λu2 e2=>?_;refine⟨_,rfl,A.p,zE,_,rfl,g3,aq ..,_,rfl,_,rfl,A,g,s',qq,_,i,b,rfl,R3,hi',hb,by lia,λH4 BS t l et el nl R4 p4=>⟨t,_,rfl,aX.of et,rfl,_,_,rfl,gN ⟨_,_,rfl,gN ⟨rfl,?_⟩⟩⟩⟩;subst e2;try dsimp only
   have AM:(bs.drop (j+1)).Perm ((cC g i b s').at_ i).seq:=by
    rw[Ky (by lia),aYH rfl];have:=Ju.erase b;rwa [erase_cons_head]at this
   have J4:=p4.out HB W4;have OX:=p3.trans p4;have e4:ie g i (bs.drop (j+1)) (cC g i b s')=bf g st (i+1):=e3;unfold cC at e4 AM;cases fr:(s'.at_ i).fr b with
   |true=>
    rw[fr]at e4 AM;rw[aYH rfl]at e4 AM;obtain⟨CP,g4⟩:=R4.ob;refine⟨_,rfl,_,rfl,d8 rfl ⟨_,rfl,A.p,CP,_,rfl,g4,aq ..,_,rfl,_,_,rfl,rfl,_,rfl,_,rfl,A,g,cB i b s',BS,_,i+1,b,l,_,rfl,R4,hi',bU,el,nl,bl,by lia,λG5 LD R5 p5=>?_⟩⟩;have QF:=p5.out J4.1 J4.2;exact⟨_,_,_,LD,_,rfl,R5.le (by lia),e4,AM,OX.trans p5,QF.1,QF.2⟩
   |false=>
    rw[fr]at e4 AM;rw[aoK aPf]at e4 AM;exact⟨_,rfl,_,rfl,cz rfl ⟨_,_,_,BS,_,rfl,R4.le (by lia),e4,AM,OX,J4.1,J4.2⟩⟩
  .rintro σ G3 ⟨v2,v3,v4,qq,s',rfl,R3,e3,Ju,p3,_⟩;rw[aW8,List.drop_length]at e3;have e3:s'=bf g st (i+1):=e3;subst e3;rw[aW8]at R3;exact⟨_,_,_,_,qq,rfl,R3.le (by lia),p3⟩
 rintro σ G ⟨v1,v2,v3,v4,bO,rfl,R1,p1⟩;subst e1;try dsimp only
 have en:(A.as.length:Int).toNat=g.n:=by lia
 rw[en]at R1;obtain⟨cQ,g1⟩:=R1.ob;exact⟨_,rfl,A.p,cQ,_,rfl,g1,aq ..,A,g,_,bO,_,rfl,R1,λe' H3 R3 Eh ne3 p3=>q _ e' bO R3 Eh (alM R1.yj (by lia)) ne3 (p1.trans p3)⟩
section
variable{g:aI}{st:ak}{x b:Int}{k:Nat}{bk:Int->Int}
theorem Sf(hs:0<g.size)(hk:k<g.n):∀{bs:List Int}{st:ak},aU g st->bs.Perm (st.at_ k).seq->(∀x,Fx g bk x st)->aU g (ie g k bs st)/\∀x,Fx g bk x (ie g k bs st)
 | [],st,ok,_,h=>⟨ok,h⟩
 |b ::bs,st,ok,p,h=>by
  have hb:b∈(st.at_ k).seq:=p.mem_iff.mp aAX;have q:bs.Perm ((cC g k b st).at_ k).seq:=by
   rw[Ky (by rw[ok.len];exact hk),aYH rfl];have:=p.erase b;rwa [erase_cons_head]at this
  exact Sf hs hk (bs:=bs) (st:=cC g k b st) (ZkT ok) q (Zjt hs ok hk hb h)
theorem Ik(hs:0<g.size)(ok:aU g st)(h:∀x,Fx g bk x st):∀{k:Nat},k<=g.n->aU g (bf g st k)/\∀x,Fx g bk x (bf g st k)
 |0,_=>⟨ok,h⟩
 |k+1,hk=>by
  obtain⟨h1,h2⟩:=Ik hs ok h (k:=k) (by lia);exact Sf hs (by lia) h1 kh h2
theorem Ny(hs:0<g.size)(ok:aU g st)(h:∀x,Fx g bk x st)(sp:Int):(bf g st g.n).mem sp=bk sp:=by
 obtain⟨o1,h1⟩:=Ik hs ok h (apX _);have e:=h1 (sp/g.size) g.n (apX _) (λz=>absurd z (aZG _)) λj hj=>o1.no (by
  rw[(Ig (g:=g) (st:=st) (j:=j) (k:=g.n) (by rw[ok.len];exact apX _)).2,aYH hj];simp)
 rw[zJ]at e;rw[<-Nz (g:=g) (bk:=bk) (sp:=sp) hs,<-e,Nz hs]
theorem Nx(ok:aU g st)(h:∀x,Fx g bk x st):aU g (ly st)/\∀x,Fx g bk x (ly st):=⟨⟨ok.len,ok.nd,ok.ff⟩,h⟩
end
structure zS(mem:Int->Int)(ps:List (Int×Int)):Prop where
 up:ps.Pairwise λa b=>a.1<b.1
 mm:∀s v,(s,v)∈ps↔mem s=v/\v≠0
theorem zS.uniq{mem:Int->Int}{ps qs:List (Int×Int)}(h1:zS mem ps)(h2:zS mem qs):ps=qs:=by
 have nd:∀{l:List (Int×Int)},(l.Pairwise λa b=>a.1<b.1)->l.Nodup:=λh=>h.imp λ{a b} z e=>by rw[e]at z;lia
 have pm:ps.Perm qs:=(aOk (nd h1.up) (nd h2.up)).mpr λq=>by
  obtain⟨s,v⟩:=q;rw[h1.mm,h2.mm]
 exact List.Perm.eq_of_pairwise (le:=λa b=>a.1<b.1) (λa b _ _ z1 z2=>by lia) h1.up h2.up pm
theorem zS.congr{mem mem':Int->Int}{ps:List (Int×Int)}(h:zS mem ps)(e:∀s,mem s=mem' s):zS mem' ps:=⟨h.up,λs v=>by rw[h.mm,e]⟩
def o9(H:Hp)(l:Addr)(ps:List (Int×Int)):Prop:=∃as:List Addr,H l=some (.lst (as.map V.ref))/\as.length=ps.length/\∀(i:Nat)(a:Addr)(p:Int×Int),as[i]?=some a->ps[i]?=some p->H a=some (.tup [.int p.1,.int p.2])
theorem o9.same{H H':Hp}{l:Addr}{ps:List (Int×Int)}(h:o9 H l ps)(s:ay H H'):o9 H' l ps:=by
 obtain⟨as,h1,h2,h3⟩:=h;exact⟨as,s _ _ h1,h2,λi a p e1 e2=>s _ _ (h3 i a p e1 e2)⟩
theorem o9.eqv{H:Hp}{l m:Addr}{ps:List (Int×Int)}(h1:o9 H l ps)(h2:o9 H m ps)(hl:ps.length<=1000):Eqv 2 H (.ref l) (.ref m):=by
 obtain⟨as,a1,a2,a3⟩:=h1;obtain⟨bs,b1,b2,b3⟩:=h2;refine .inr ⟨l,m,_,_,rfl,rfl,.inl ⟨a1,b1⟩,by rw[aW8,aW8,a2,b2],by rw[aW8,a2];exact hl,λi u v e1 e2=>?_⟩;rw[aeb]at e1 e2;cases ha:as[i]? with
 |none=>rw[ha]at e1;cases e1
 |some a=>
  cases hb:bs[i]? with
  |none=>rw[hb]at e2;cases e2
  |some b=>
   rw[ha]at e1;rw[hb]at e2;cases e1;cases e2;have hi:i<ps.length:=by rw[<-a2];exact(azG.mp ha).1
   have hp:ps[i]?=some ps[i]:=aEW hi;exact Eqv.Hu (a3 i a _ ha hp) (b3 i b _ hb hp) (by show 2<=1000;decide) λx hx=>by
    rcases aCP.mp hx with rfl|hx
    .trivial
    .rw [bau.mp hx];trivial
theorem Gr{kvs:List (Key×V)}{ks:List Int}{mem:Int->Int}(h:kvs.map Prod.fst=ks.map Sum.inl)(nd:ks.Nodup)(hv:∀s,aK kvs (Sum.inl s:Key)=if mem s=0 then none else some (.int (mem s))):kvs=(ks.map λk=>(k,mem k)).map λp=>(Sum.inl p.1,V.int p.2):=by
 have key:∀{kvs:List (Key×V)}{ks:List Int},kvs.map Prod.fst=ks.map Sum.inl->ks.Nodup->(∀k∈ks,aK kvs (Sum.inl k:Key)=some (.int (mem k)))->kvs=(ks.map λk=>(k,mem k)).map λp=>(Sum.inl p.1,V.int p.2):=by
  intro kvs
  induction kvs with
  |nil=>
   intro ks h _ _;cases ks with
   |nil=>rfl
   |cons k r=>cases h
  |cons p r ih=>
   intro ks h nd hv;cases ks with
   |nil=>cases h
   |cons k ks=>
    rw[aSM,aSM]at h;injection h with h1 h2
    obtain⟨n1,n2⟩:=aE7.mp nd;have v0:=hv k aAX;rw[ZL h1]at v0;rw[aSM,aSM,<-ih h2 n2 λk' m=>by
     have v:=hv k' (aO5 _ m);rw[ZH λz=>n1 (by rw[aIk (h1.symm.trans z)];exact m)]at v;exact v]
    rw[<-h1,<-aDb v0]
 refine key h nd λk m=>?_;have z:=(zM (kvs:=kvs) (Sum.inl k)).mpr (by rw[h];exact bax m);have v:=hv k;by_cases c:mem k=0
 .rw [aYH c]at v;rw[v]at z;cases z
 .rw [aoK c]at v;exact v
inductive tF(K:W.Frag)(vs:List V)(H:Hp)(Q:VK)(E:XK):Prop
 |mk (bm dk:Addr) (size:Int) (mem:Int->Int) (U:List Int):vs=[.ref bm]->dB K H bm dk size mem U->0<size->size<=1000->U.length<=800->(∀(D:Addr)(ps:List (Int×Int))(H':Hp),H D=none->ay H H'->o9 H' D ps->zS mem ps->Q (.ref D) H')->tF K vs H Q E
example:(jL ER):=by
 obtain⟨bm,dk,size,mem,U,rfl,M,z0,z1,lU,q⟩:=h;refine⟨_,(Zh (Zp (Zs (Zeu rfl) rfl T.Aj apK (pc (ZhZ (Zk (K:=K) rfl (pv 0) rfl)) Zb)))),?_⟩;obtain⟨dx,h1⟩:=M.ob;obtain⟨kvs,h2,hk,h4⟩:=M.kept;have kl:=Rt z0 hk h4 M.sup;obtain⟨ks,h5,h6⟩:=hk;have ek:=Gr h5 h6 h4;rw[ek]at h2;have mk:∀k,k∈ks↔mem k≠0:=λk=>by
  have z:=zM (kvs:=kvs) (Sum.inl k);rw[h4 k,h5]at z;constructor
  .intro m c;rw[aYH c]at z;exact absurd (z.mpr (bax m)) aPf
  .intro c;rw[aoK c]at z;obtain⟨x,hx,e⟩:=a34.mp (z.mp rfl);rw[<-aIk e];exact hx
 have lk:ks.length<=1000000:=by
  have l:=aSc List.length h5;rw[aW8,aW8]at l;rw[<-l];exact alM kl (alM (Nat.mul_le_mul lU (by lia:size.toNat<=1000)) (by decide))
 refine⟨_,rfl,bm,_,dx,_,_,rfl,h1,T.vF,T.EK,Ko ..,dk,_,rfl,h2,λv hv=>?_⟩;have s1:=Zg hv (.ext λh=>h.IsItemsView v dk);refine⟨v,dk,ks.map λk=>(k,mem k),rfl,Za,s1 _ _ h2,by rw[map_map];exact(map_id ks).symm ▸h6,by rw[aW8];exact lk,λD os H' hD s2 eD et pm pw=>?_⟩;refine q D (os.map λe=>e.2) H' (s1.free hD) (s1.trans s2) ⟨os.map λe=>e.1,by rw[map_map];exact eD,by rw[aW8,aW8],λi a p e1 e2=>?_⟩ ⟨List.pairwise_map.mpr pw,λs v=>?_⟩
 .rw [aeb]at e1 e2;cases e:os[i]? with
  |none=>rw[e]at e1;cases e1
  |some x=>
   rw[e]at e1 e2;cases e1;cases e2;exact(et x (abH e)).2
 .rw [pm.mem_iff,mem_map];constructor
  .rintro ⟨k,hk,e⟩;cases e;exact⟨rfl,(mk _).mp hk⟩
  .rintro ⟨e1,e2⟩;exact⟨s,(mk s).mpr (by rw[e1];exact e2),by rw[e1]⟩
inductive pY(K:W.Frag)(vs:List V)(H:Hp)(Q:VK)(E:XK):Prop
 |mk (A:TA) (g:aI) (st:ak) (os:OS) (n:Nat):vs=[.ref A.p]->aa K H A g st os n->(∀(D:Addr)(ps:List (Int×Int))(H':Hp),H D=none->ay H H'->o9 H' D ps->zS st.mem ps->Q (.ref D) H')->pY K vs H Q E
example:(jE BN ER):=by
 obtain⟨A,g,st,os,n,rfl,R,q⟩:=h;refine⟨_,(Zh (Zp (ZO ER hr.m T.vF (Zk (K:=K) rfl (pv 0) rfl)))),?_⟩;obtain⟨dx,h1⟩:=R.ob;obtain⟨dm,h2⟩:=R.mem.ob;have z0:=R.wf.z0;exact⟨_,rfl,A.p,_,dx,_,_,rfl,h1,T.aG,T.Jc,Ob ..,A.bm,dm,_,rfl,h2,wY ..,A.bm,A.dk,g.size,st.mem,g.U,rfl,R.mem,by lia,R.wf.z1,R.wf.lU,q⟩
def jb(H:Hp)(bd:Addr)(bk:Int->Int)(n:Nat):Prop:=∃kvs,H bd=some (.dK kvs)/\(kvs.length<=n/\KI kvs)/\∀s,(aK kvs (Sum.inl s:Key)).getD (V.int 0)=V.int (bk s)
theorem jb.frame{H H':Hp}{bd:Addr}{bk:Int->Int}{n:Nat}(h:jb H bd bk n)(f:∀o,H bd=some o->H' bd=some o):jb H' bd bk n:=by
 obtain⟨kvs,h1,h2⟩:=h;exact⟨kvs,f _ h1,h2⟩
theorem jb.put{H:Hp}{bd:Addr}{bk:Int->Int}{n:Nat}{kvs:List (Key×V)}(h2:kvs.length<=n/\KI kvs)(h3:∀s,(aK kvs (Sum.inl s:Key)).getD (V.int 0)=V.int (bk s))(sp v:Int):jb (upd H bd (.dK (putK kvs (Sum.inl sp) (V.int v)))) bd (zF bk sp v) (n+1):=by
 refine⟨_,Za,⟨alM (Iv ..) (by lia),h2.2.put ..⟩,λs=>?_⟩;rw[EC];unfold zF;by_cases c:s=sp
 .rw [aYH (by rw[c]),aYH c];rfl
 .rw [aoK (λz=>c (aIk z)),aoK c];exact h3 s
theorem jb.congr{H:Hp}{bd:Addr}{bk zG:Int->Int}{n:Nat}(h:jb H bd bk n)(e:∀s,bk s=zG s):jb H bd zG n:=by
 obtain⟨kvs,h1,h2,h3⟩:=h;exact⟨kvs,h1,h2,λs=>by rw[h3,e]⟩
structure UA(H H':Hp)(A A':TA)(os os':OS)(bd:Addr):Prop where
 kp:∀x o,H x=some o->(OW A os x->¬Mt o)->x≠bd->H' x=some o
 fr:∀x,OW A' os' x->OW A os x\/H x=none
inductive sS(K:W.Frag)(vs:List V)(H:Hp)(Q:VK)(_v3:XK):Prop
 |mk (A:TA) (g:aI) (st:ak) (os:OS) (t bd:Addr) (d:Dd) (bk zG:Int->Int) (n:Nat):vs=[.ref A.p,.ref t,.ref bd]->zR K H A g st os->H t=some (.tup d.vs)->d.sp/g.size∈g.U->aU g st->(∀x,Fx g bk x st)->jb H bd zG n->(∀s,HL zG d s=HL bk d s)->n<=900->(¬OW A os bd)->(∀H' e' os' tp,H' tp=some (.tup [.bl true,.ref A.ev])->zR K H' (A.re e') g (ly (cI g d st)) os'->rB g.n H' A.ev (cI g d st).ev->(cI g d st).ev.length<=100->¬OW (A.re e') os' A.ev->jb H' bd (HL bk d) (n+1)->aU g (ly (cI g d st))->(∀x,Fx g (HL bk d) x (ly (cI g d st)))->UA H H' A (A.re e') os os' bd->d.sp/g.size∈((cI g d st).at_ 0).seq->Q (.ref tp) H')->sS K vs H Q _v3
example:(yX Cq EM EO Cr):=by
 obtain ⟨A,g,st,os,t,bd,d,bk,zG,n,rfl,R,ht,bU,ok,fx,⟨kvs,h2,h3,h4⟩,PZ,n9,Gk,q⟩:=h;have pP:=Cr 0;refine⟨_,(Zd (aE (Zv aY (au (ZN (K:=K) rfl) (pv 1) Zi (λ_ _=>rfl)) ZV (Zu _)) (Zd (Ib hu (pv 2) (au (ZN (K:=K) rfl) (pv 1) Zi (λ_ _=>rfl)) (au (ZN (K:=K) rfl) (pv 1) Zi (λ_ _=>rfl)) rfl)
   (Zh (Zp (qS (pc dR (pc (Zj EO hr.m T.aG (pv 0) (pc (au (ZN (K:=K) rfl) (pv 1) Zi (λ_ _=>rfl)) (pc (au (ZN (K:=K) rfl) (pv 1) Zi (λ_ _=>rfl)) Zb))) Zb)))))) Zt)
   (Zd (se (Zj EM hr.m T.aG (pv 0) (pc (au (ZN (K:=K) rfl) (pv 1) Zi (λ_ _=>rfl)) Zb)) (ZT (K:=K) (n:=2) rfl rfl (Zq (bY 3 nd) (Zq (bY 4 nd) ZS))))
   (Zh (Zp (qS (pc (Zm pP hr.m rfl (pc (pv 3) (pc (Ti hu (pv 2) (au (ZN (K:=K) rfl) (pv 1) Zi (λ_ _=>rfl)) Zi ⟨rfl,rfl,rfl,rfl⟩) Zb))) (pc (pv 4) Zb))))))),?_⟩
 obtain⟨dx,h1⟩:=R.at_.ob;have hs:0<g.size:=by have:=R.at_.wf.z0;lia
 have l1:1<=g.n:=R.at_.wf.l1;have nt:t≠bd:=λz=>by rw[z,h2]at ht;cases ht
 have ud:A.p≠bd:=λz=>by rw[z,h2]at h1;cases h1
 cases d with
 |wt sp v=>
  have off:∀{x o},H x=some o->x≠bd->upd H bd (.dK (putK kvs (Sum.inl sp) (V.int v))) x=some o:=λ{x o} e n=>by rw[Zc n];exact e
  have R1:zR K (upd H bd (.dK (putK kvs (Sum.inl sp) (V.int v)))) A g st os:=R.frame λx o e z=>off e λy=>by
   subst y;rcases z with z|z
   .exact Gk z
   .rw [h2]at e;cases e;exact z trivial
  have ht1:=off ht nt;refine⟨_,rfl,t,_,_,_,rfl,rfl,aX.of ht,dF,rfl,_,rfl,d8 (aSJ rfl) ?_⟩;refine⟨_,rfl,t,_,_,_,rfl,rfl,aX.of ht,lB,_,rfl,_,rfl,t,_,_,_,rfl,rfl,aX.of ht,ig,bd,_,rfl,lJ.k (k:=Sum.inl sp) h2 (Zz (by have:=h3.1;lia)),?_⟩;refine⟨_,rfl,A.p,dx,_,rfl,off h1 ud,aq ..,_,rfl,t,_,_,_,rfl,rfl,aX.of ht1,ig,_,rfl,t,_,_,_,rfl,rfl,aX.of ht1,lB,A,g,st,os,sp,v,rfl,R1.at_,R1.dj,bU,λH2 e' bO r1 r2 r3 r4 r5 r6 r7=>⟨(sL 2),λtp htp=>?_⟩⟩;have s3:=Zg htp (.tup [.bl true,.ref A.ev]);have hb:(Dd.wt sp v).sp/g.size∈((ZF g ((Dd.wt sp v).sp/g.size) st).at_ 0).seq:=by rw[<-(ZkP (g:=g) (d:=.wt sp v) (st:=st)).sq 0];exact r7
  obtain⟨o2,f2⟩:=Sh (d:=.wt sp v) hs l1 ok R.dj hb fx;have R2:zR K H2 (A.re e') g (ly (cI g (.wt sp v) st)) bO:=⟨r1,r6⟩;refine q _ e' bO tp Za (R2.frame λx o e _=>s3 _ _ e) (rB.frame r2 (λo e=>s3 _ _ e) λx ys e=>s3 _ _ e) r3 r4 (((jb.put h3 h4 sp v).frame λo e=>s3 _ _ (r5.out e Gk).1).congr PZ) o2 f2 ⟨λx o e n nb=>s3 _ _ (r5.kp x o (off e nb) n),λx z=>(r5.fr x z).imp id λz=>?_⟩ r7;by_cases c:x=bd
  .rw [c,Za]at z;cases z
  .rw [Zc c]at z;exact z
 |rd sp=>
  have h4:∀s,(aK kvs (Sum.inl s:Key)).getD (V.int 0)=V.int (bk s):=λs=>(h4 s).trans (aSc V.int (PZ s));refine⟨_,rfl,t,_,_,_,rfl,rfl,aX.of ht,dF,rfl,_,rfl,cz (by decide +kernel) ?_⟩;dsimp only[eN];refine⟨_,rfl,A.p,dx,_,rfl,h1,aq ..,_,rfl,t,_,_,_,rfl,rfl,aX.of ht,ig,A,g,st,os,sp,rfl,R.at_,R.dj,bU,λH1 e' bO tp MT r1 r2 r3 r4 r5 r6 r7=>⟨tp,_,rfl,aX.of MT,rfl,_,_,rfl,gN ⟨_,_,rfl,gN ⟨rfl,?_⟩⟩⟩⟩;try dsimp only
  obtain⟨o1,f1⟩:=Tp (b:=sp/g.size) hs l1 ok R.dj fx;have wl:=ZiB hs l1 r7 f1;rw[wl];obtain⟨hb1,nb1⟩:=r5.out h2 Gk;have ht1:=tups r5 ht;have gq:=dG.k (k:=Sum.inl sp) hb1;refine⟨_,rfl,_,rfl,bd,rfl,.inl ⟨_,.inl hb1⟩,_,rfl,t,_,_,_,rfl,rfl,aX.of ht1,ig,_,gq,?_⟩;rw[h4];refine⟨_,_,rfl,⟨rfl,trivial⟩,λG s2=>⟨_,rfl,(sL 2),λJj Mp=>?_⟩⟩;have s3:=s2.trans (Zg Mp (.tup [.bl true,.ref A.ev]));have R2:zR K H1 (A.re e') g (ly (cI g (.rd sp) st)) bO:=⟨r1,r6⟩;obtain⟨o2,f2⟩:=Sh (d:=.rd sp) hs l1 ok R.dj r7 fx;refine q _ e' bO Jj Za (R2.frame λx o e _=>s3 _ _ e) (rB.frame r2 (λo e=>s3 _ _ e) λx ys e=>s3 _ _ e) r3 r4 ⟨kvs,s3 _ _ hb1,⟨by have:=h3.1;lia,h3.2⟩,h4⟩ o2 f2 ⟨λx o e n nb=>s3 _ _ (r5.kp x o e n),λx z=>r5.fr x z⟩ r7
inductive m6(K:W.Frag)(vs:List V)(H:Hp)(Q:VK)(E:XK):Prop
 |mk (p:Addr) (s sh pl:Int) (ru:Str) (ls:Addr) (ao:List Addr) (du:Addr) (seq:List Int) (us:Int->Int) (n:Nat):vs=[.ref p,.int s]->az K H p sh pl ru ls ao du seq us n->Tb K H->0<=s->s<sh->(Zl sh s seq).length<64->(∀(D:Addr)(H':Hp)(os:List Int),H D=none->ay H H'->H' D=some (.lst (os.map V.int))->os.Perm (Zl sh s seq)->(ru ="few" ->os.Pairwise (sJ us (Zl sh s seq)))->(ru ≠ "few" ->os=Zl sh s seq)->Q (.ref D) H')->m6 K vs H Q E
example:(mC E7 Ai):=by
 obtain ⟨p,s,sh,pl,ru,ls,ao,du,seq,us,n,rfl,R,tb,s0,s1,h64,k⟩:=h;refine⟨_,(Zd (aE (uz (SJ AO kM Zi (pv 1) (Zk (K:=K) rfl (pv 0) rfl))) (Zh t9) Zt)
   (Zh (Zp (Zj Ai hr.m T.dQ (pv 0) (pc (au (Zo (K:=K) rfl) (Zk (K:=K) rfl (pv 0) rfl) (pv 1) (λ_ _=>rfl)) Zb))))),?_⟩
 obtain⟨dx,h1⟩:=R.ob;obtain⟨i,ad,e1,e2,e3,e4⟩:=R.st.get s0 s1;have hnd:(Zl sh s seq).Nodup:=R.nd.sublist filter_sublist;refine⟨_,rfl,_,_,rfl,rfl,_,rfl,d8 (aSJ s0) ⟨_,rfl,p,_,dx,_,_,rfl,h1,T.dQ,T.L8,Ub ..,_,_,rfl,rfl,_,rfl,cz (by rw[aSJ s1];rfl) ?_⟩⟩;refine⟨_,rfl,p,dx,_,rfl,h1,bJ ..,_,rfl,p,_,dx,_,_,rfl,h1,T.dQ,T.Mb,T8 ..,_,rfl,ls,_,_,_,rfl,rfl,aB.of R.st.top,e3,p,ad,Zl sh s seq,sh,pl,ru,ls,ao,du,seq,us,n,rfl,R,tb,e4,h64,hnd,(λx m=>(aL.mp m).1),k⟩
inductive tG(K:W.Frag)(vs:List V)(H:Hp)(Q:VK)(E:XK):Prop
 |mk (A:TA) (g:aI) (st:ak) (os:OS) (n k:Nat) (s:Int):vs=[.ref A.p,.int (k:Int),.int s]->aa K H A g st os n->k<g.n->0<=s->s<(g.cf k).sh->(∀(D:Addr)(H':Hp)(os:List Int),H D=none->ay H H'->H' D=some (.lst (os.map V.int))->os.Perm (Zl (g.cf k).sh s (st.at_ k).seq)->((g.cf k).ru ="few" ->os.Pairwise (sJ (st.at_ k).us (Zl (g.cf k).sh s (st.at_ k).seq)))->((g.cf k).ru ≠ "few" ->os=Zl (g.cf k).sh s (st.at_ k).seq)->Q (.ref D) H')->tG K vs H Q E
example:(jI DK tZ E7):=by
 obtain⟨A,g,st,os,n,k,s,rfl,R,hk,n0,n1,q⟩:=h;refine⟨_,(Zh (Zp (Zj E7 hr.m T.dQ (Zk (K:=K) rfl (Zj tZ hr.m T.aG (pv 0) (pc (pv 1) Zb)) rfl) (pc (pv 2) Zb)))),?_⟩;obtain⟨dx,h1⟩:=R.ob;have ln:=R.ln;obtain⟨a,e1,e2,e3,B⟩:=R.at_ (k:=k) (by lia);obtain⟨u1,u2,u3,u4,u5,u6⟩:=R.pJ (k:=k) (by lia);obtain⟨ds,h3⟩:=B.aW.ob;obtain⟨dr,h4⟩:=B.aW.room.ob;have fl:=u3 s;exact⟨_,rfl,A.p,dx,_,rfl,h1,aq ..,_,rfl,A,g,st,os,n,k,a,rfl,R,e1,a.sp,_,ds,_,_,rfl,h3,T.fH,T.yQ,Bm ..,a.rp,dr,_,rfl,h4,bJ ..,_,rfl,a.rp,s,(g.cf k).sh,(g.cf k).pl,(g.cf k).ru,a.ls,a.ao,a.du,(st.at_ k).seq,(st.at_ k).us,_,rfl,B.aW.room,R.tb,n0,n1,by lia,q⟩
inductive nv(K:W.Frag)(vs:List V)(H:Hp)(Q:VK)(E:XK):Prop
 |mk (A:TA) (g:aI) (st:ak) (os:OS) (n k:Nat):vs=[.ref A.p,.int (k:Int)]->aa K H A g st os n->k<g.n->g.U.length<64->(∀(D:Addr)(cs:List Int),H D=none->(∀x,x∈cs↔(st.at_ k).fr x=true)->cs.length<64->cs.Pairwise (·<=·)->cs.Nodup->Q (.ref D) (upd H D (.lst (cs.map V.int))))->nv K vs H Q E
example:(iN DL tZ):=by
 obtain⟨A,g,st,os,n,k,rfl,R,hk,hU,q⟩:=h;refine⟨_,(Zh (Zp (Zs (Uu rfl) rfl T.Aj apK (pc (Zk (K:=K) rfl (Zj tZ hr.m T.aG (pv 0) (pc (pv 1) Zb)) rfl) Zb)))),?_⟩;obtain⟨dx,h1⟩:=R.ob;have ln:=R.ln;obtain⟨a,e1,e2,e3,B⟩:=R.at_ (k:=k) (by lia);obtain⟨ds,h3⟩:=B.aW.ob;obtain⟨kf,h4,⟨ks,h5,h6⟩,h7⟩:=B.fresh;have mem:∀b,b∈ks↔(st.at_ k).fr b=true:=λb=>by
  have z:=zM (kvs:=kf) (Sum.inl b);rw[h7 b,h5]at z;constructor
  .intro m;have:=z.mpr (bax m);by_cases c:(st.at_ k).fr b=true
   .exact c
   .rw [aoK c]at this;cases this
  .intro m;rw[aYH m]at z;obtain⟨x,hx,e⟩:=a34.mp (z.mp rfl);rw[<-aIk e];exact hx
 have Pp:ks.length<64:=a3J (CV h6 λx hx=>R.vH _ (abH e3) x (B.zC x ((mem x).mp hx))) hU;exact⟨_,rfl,A.p,dx,_,rfl,h1,aq ..,_,rfl,A,g,st,os,n,k,a,rfl,R,e1,a.sp,_,ds,_,_,rfl,h3,T.fH,T.Jd,NV ..,a.df,kf,ks,rfl,h4,h5,Pp,λD cs hD po pw=>q D cs hD (λx=>po.mem_iff.trans (mem x)) (by rw[po.length_eq];exact Pp) pw (po.nodup_iff.mpr h6)⟩
def lP(s t:Rm):Prop:=s.seq=t.seq/\(∀x∈s.seq,s.us x=t.us x)/\∀x,s.fr x=t.fr x
structure Sm(a b:ak):Prop where
 len:a.rm.length=b.rm.length
 ev:a.ev=b.ev
 at_:∀k,lP (a.at_ k) (b.at_ k)
section
variable{g:aI}{a b:ak}{o:Int}{k:Nat}{ws vs:List Int}{s t:Rm}
theorem Sm.set(h:Sm a b)(r:lP s t):Sm (a.set k s) (b.set k t):=by
 refine⟨aS.trans (h.len.trans aS.symm),h.ev,λj=>?_⟩;rw[zL,zL,h.len];split
 .exact r
 .exact h.at_ j
theorem Sm.tell(h:Sm a b){e:List V}:Sm (a.tell e) (b.tell e):=⟨h.len,by show a.ev++_=b.ev++_;rw[h.ev],h.at_⟩
theorem Sm.ly(h:Sm a b):Sm (ly a) (ly b):=⟨h.len,rfl,h.at_⟩
theorem lP.lay(h:lP s t):lP (dY s o ws) (dY t o vs):=⟨h.1,h.2.1,h.2.2⟩
theorem lP.out(h:lP s t):lP (jC s o) (jC t o):=by
 refine⟨by show s.seq.erase o=t.seq.erase o;rw[h.1],λx hx=>h.2.1 x (aF0 hx),λx=>?_⟩;show(if x=o then false else s.fr x)=if x=o then false else t.fr x
 rw[h.2.2]
theorem lP.Xw(h:lP s t):lP (AU s o ws) (AU t o vs):=by
 refine⟨by show s.seq++[o]=t.seq++[o];rw[h.1],λx hx=>?_,h.2.2⟩;show zero s.us o x=zero t.us o x;unfold zero;by_cases c:x=o
 .rw [aYH c,aYH c]
 .rw [aoK c,aoK c];rcases aUH.mp hx with hx|hx
  .exact h.2.1 x hx
  .exact absurd (bau.mp hx) c
theorem lP.frs(h:lP s t):lP (A2 s o) (A2 t o):=by
 refine⟨h.1,h.2.1,λx=>?_⟩;show(if x=o then true else s.fr x)=if x=o then true else t.fr x
 rw[h.2.2]
theorem lP.use{c:Cf}(h:lP s t)(ho:o∈s.seq):lP (j8 c s o) (j8 c t o):=by
 refine⟨by unfold j8;dsimp only;rw[h.1],λx hx=>?_,h.2.2⟩;have hx:x∈s.seq:=(Bk ho).mem_iff.mp hx;show bump s.us o x=bump t.us o x;unfold bump;by_cases c:x=o
 .rw [aYH c,aYH c,h.2.1 o ho]
 .rw [aoK c,aoK c];exact h.2.1 x hx
theorem Se{c:Cf}(h:lP s t){x:Option Int}(q:cM c.ru s.us c.pl (Zl c.sh (o%c.sh) s.seq) x):cM c.ru t.us c.pl (Zl c.sh (o%c.sh) t.seq) x:=by
 rw[<-h.1];refine⟨q.1,λl=>?_⟩;obtain⟨y,rest,e,po,pw,ne⟩:=q.2 l;refine⟨y,rest,e,po,λf=>(pw f).imp_of_mem λ{a b} ha hb z=>?_,ne⟩;have sub:∀z∈y ::rest,z∈s.seq:=λz hz=>(aL.mp (po.mem_iff.mp hz)).1;unfold sJ at z ⊢;rw[h.2.1 a (sub a ha),h.2.1 b (sub b hb)]at z;exact z
theorem lP.symm(h:lP s t):lP t s:=⟨h.1.symm,λx hx=>(h.2.1 x (h.1 ▸hx)).symm,λx=>(h.2.2 x).symm⟩
theorem RH{c:Cf}(h:lP s t):cA c s o=cA c t o:=by
 by_cases e:∃g,cM c.ru s.us c.pl (Zl c.sh (o%c.sh) s.seq) g
 .obtain ⟨x,q⟩:=e;rw[NU q,NU (Se h q)]
 .have e2:¬ ∃g,cM c.ru t.us c.pl (Zl c.sh (o%c.sh) t.seq) g:=λ⟨x,q⟩=>e ⟨x,Se h.symm q⟩;unfold cA;rw[dif_neg e,dif_neg e2]
theorem ZkV(h:Sm a b):nearF a o=nearF b o:=by
 have e:a.rm.map (·.seq)=b.rm.map (·.seq):=by
  refine List.ext_getElem (by rw[aW8,aW8];exact h.len) λi h1 h2=>?_;rw[aW8]at h1 h2;rw[getElem_map,getElem_map];have q:=(h.at_ i).1;unfold ak.at_ at q;rw[agc,agc,aEW h1,aEW h2]at q;exact q
 have f:∀st:ak,nearF st o=(st.rm.map (·.seq)).findIdx λq=>decide (o∈q):=λst=>by
  rw[List.findIdx_map];rfl
 rw[f,f,e]
theorem J6(h:Sm a b):Sm (bR g k o ws a) (bR g k o vs b):=by
 unfold bR;split
 .exact ⟨h.len,by show a.ev++_=b.ev++_;rw[h.ev],h.at_⟩
 .exact (h.set (h.at_ k).lay).tell
theorem Sd(h:Sm a b):Sm (uQ k o a) (uQ k o b):=h.set (h.at_ k).frs
theorem Ie:∀{r k:Nat}{a b:ak},Sm a b->Sm (aZ g o ws r k a) (aZ g o vs r k b)
 |0,k,a,b,h=>J6 h
 |r+1,k,a,b,h=>by
  unfold aZ;rw[(h.at_ k).1];split
  .split
   .exact Sd (J6 h)
   .exact Ie (J6 h)
  .exact Ie h
theorem TU(h:Sm a b):Sm (ZB g k o a) (ZB g k o b):=by
 unfold ZB;split
 .exact Sd h
 .exact Ie h
theorem kq(h:Sm a b):Sm (cB k o a) (cB k o b):=h.tell.set (h.at_ k).out
theorem Nv(h:Sm a b):Sm (bE k o ws a) (bE k o vs b):=(h.set (h.at_ k).Xw).tell
theorem Nu:∀{k:Nat}{a b:ak}{ws vs:List Int}{f1 f2:Bool},Sm a b->f1=f2->Sm (aH o k a ws f1).1 (aH o k b vs f2).1/\(aH o k a ws f1).2.2=(aH o k b vs f2).2.2
 |0,a,b,ws,vs,f1,f2,h,e=>⟨h,e⟩
 |k+1,a,b,ws,vs,f1,f2,h,e=>by
  unfold aH;rw[(h.at_ k).1];split
  .exact Nu (kq h) (by rw[e,(h.at_ k).2.2])
  .exact Nu h e
theorem ZkW(h:Sm a b):Sm (bT g k o a).1 (bT g k o b).1/\(bT g k o a).2.2=(bT g k o b).2.2:=by
 unfold bT;split
 .exact Nu (kq h) ((h.at_ k).2.2 o)
 .exact ⟨kq h,(h.at_ k).2.2 o⟩
theorem Zju(h:Sm a b):Sm (pK g k o a) (pK g k o b):=by
 obtain⟨h1,h2⟩:=ZkW (g:=g) (k:=k) (o:=o) h;unfold pK;rw[h2];split
 .exact Ie h1
 .exact h1
theorem Zjv(h:Sm a b):Sm (ZK g k o a) (ZK g k o b):=by
 unfold ZK;rw[RH (h.at_ k)];split
 .exact h
 .exact Zju h
theorem RG:∀{k:Nat}{a b:ak},Sm a b->Sm (dS g o ws k a) (dS g o vs k b)
 |0,_,_,h=>h
 |k+1,a,b,h=>by
  unfold dS;exact RG (Nv (Zjv h))
theorem RE(h:Sm a b)(ho:k<g.n->o∈(a.at_ k).seq):Sm (bI g k o a) (bI g k o b):=by
 unfold bI;split
 .rename_i c;exact h.set ((h.at_ k).use (ho c))
 .exact h
theorem Sb{f1 f2:Bool}(h:Sm a b)(e:f1=f2):Sm (bH g k o ws f1 a) (bH g k o vs f2 b):=by
 unfold bH;rw[e];split
 .exact TU (Nv h)
 .exact Nv h
theorem Nt:∀{r k:Nat}{o:Int}{ws vs:List Int}{f1 f2:Bool}{a b:ak},Sm a b->f1=f2->Sm (pushS g r k o ws f1 a) (pushS g r k o vs f2 b)
 |0,k,o,ws,vs,f1,f2,a,b,h,e=>by
  unfold pushS;rw[e];split
  .exact J6 h
  .exact h
 |r+1,k,o,ws,vs,f1,f2,a,b,h,e=>by
  unfold pushS;rw[RH (h.at_ k)];split
  .exact Sb h e
  .rename_i y _;exact Nt (Sb (kq h) e) ((h.at_ k).2.2 y)
theorem Sa(hl:a.rm.length=g.n)(h:Sm a b):Sm (ZF g o a) (ZF g o b):=by
 have ho:nearF a o<g.n->o∈((a.tell (eF (nearF a o))).at_ (nearF a o)).seq:=λc=>Ij (st:=a) (by rw[hl];exact c);have ht:=h.tell (e:=eF (nearF a o));unfold ZF;rw[<-ZkV h];split
 .unfold CU;split
  .rename_i e;exact RE ht λc=>by rw[e]at ho;exact ho c
  .split
   .exact Nt ht rfl
   .exact Nt (kq ht) ((ht.at_ _).2.2 o)
 .unfold El;exact RG (RE ht ho)
theorem ZkX{d:Dd}(hl:a.rm.length=g.n)(h:Sm a b):Sm (cI g d a) (cI g d b):=by
 cases d with
 |rd sp=>exact Sa hl h
 |wt sp x=>
  have q:=Sa (o:=sp/g.size) hl h;exact TU (q.set ⟨(q.at_ 0).1,(q.at_ 0).2.1,(q.at_ 0).2.2⟩)
theorem ZkY(h:Sm a b):Sm (cC g k o a) (cC g k o b):=by
 unfold cC;rw[(h.at_ k).2.2];split
 .exact Ie (kq h)
 .exact kq h
theorem RD:∀{bs:List Int}{a b:ak},Sm a b->Sm (ie g k bs a) (ie g k bs b)
 | [],_,_,h=>h
 |_ ::bs,_,_,h=>RD (bs:=bs) (ZkY h)
theorem RC(h:Sm a b):∀{k:Nat},Sm (bf g a k) (bf g b k)
 |0=>h
 |k+1=>by
  have q:=RC h (k:=k);unfold bf;rw[(q.at_ k).1];exact RD q
theorem ZlZ(ok:aU g (bf g a g.n))(hl:a.rm.length=g.n):Sm (ly (bf g a g.n)) (uA g.n):=by
 have sq:∀k,((bf g a g.n).at_ k).seq=[]:=λk=>by
  by_cases c:k<g.n
  .rw [(Ig (g:=g) (st:=a) (j:=k) (k:=g.n) (by rw[hl];exact apX _)).2,aYH c]
  .unfold ak.at_;rw[agc,ax8 (by rw[ok.len];lia)];rfl
 have s0:∀k,(uA g.n).at_ k=o8:=λk=>by
  unfold uA ak.at_;rw[agc,ave];split <;> rfl
 refine⟨ok.len.trans (by show _=(List.replicate g.n o8).length;rw[a1S]),rfl,λk=>?_⟩;rw[s0];refine⟨sq k,λx hx=>?_,λx=>?_⟩
 .have hx:x∈((bf g a g.n).at_ k).seq:=hx;rw[sq]at hx;cases hx
 .show ((bf g a g.n).at_ k).fr x=false;cases e:((bf g a g.n).at_ k).fr x with
  |false=>rfl
  |true=>
   have q:=ok.ff k x e;rw[sq]at q;cases q
end
theorem ZgU{sh s:Int}{seq yF:List Int}{ru:Str}{us K7:Int->Int}{os os':List Int}(es:seq=yF)(hu:∀x∈seq,us x=K7 x)(p:os.Perm (Zl sh s seq))(f:ru ="few" ->os.Pairwise (sJ us (Zl sh s seq)))(n:ru ≠ "few" ->os=Zl sh s seq)(p':os'.Perm (Zl sh s yF))(f':ru ="few" ->os'.Pairwise (sJ K7 (Zl sh s yF)))(n':ru ≠ "few" ->os'=Zl sh s yF):os=os':=by
 subst es;by_cases c:ru ="few"
 .refine Kn Sq (p.trans p'.symm) (f c) ?_;have sub:∀x∈os',x∈seq:=λx hx=>(aL.mp (p'.mem_iff.mp hx)).1;exact(f' c).imp_of_mem λ{a b} ha hb h=>by
   unfold sJ at h ⊢;rw[<-hu a (sub a ha),<-hu b (sub b hb)]at h;exact h
 .rw [n c,n' c]
theorem R9{os os' seq:List Int}(p:os.Perm seq)(f:os.Pairwise (·<=·))(p':os'.Perm seq)(f':os'.Pairwise (·<=·)):os=os':=Kn (λa b h1 h2=>Int.le_antisymm h1 h2) (p.trans p'.symm) f f'
theorem aa.Po{H:Hp}{A:TA}{g:aI}{st:ak}{os:OS}{n:Nat}(T:aa K H A g st os n){k:Nat}(hk:k<g.n):(st.at_ k).seq.length<=g.U.length:=by
 have ln:=T.ln;obtain⟨a,e1,e2,e3,B⟩:=T.at_ (k:=k) (by lia);exact CV B.aW.room.nd λx hx=>T.vH _ (abH e3) x hx
theorem DC{G:Hp}{D1 D2:Addr}{o:List Int}(h1:G D1=some (.lst (o.map V.int)))(h2:G D2=some (.lst (o.map V.int)))(l:o.length<=1000):Eqv 1 G (.ref D1) (.ref D2):=Eqv.flat h1 h2 (by rw[aW8];exact l) λx hx=>by
 obtain⟨y,_,rfl⟩:=a34.mp hx;trivial
inductive vV(K:W.Frag)(vs:List V)(H:Hp)(Q:VK)(E:XK):Prop
 |mk (A A':TA) (g:aI) (st st':ak) (os os':OS) (n n':Nat) (pp tp:Addr) (eE:List Addr):vs=[.ref A.p,.ref A'.p,.ref pp]->aa K H A g st os n->aa K H A' g st' os' n'->Sm st st'->H pp=some (.tup [.int g.size,.str g.kind,.ref tp])->cD K H tp eE g.aO->g.U.length<=21->(∀H',ay H H'->Q (.bl true) H')->vV K vs H Q E
example:(zc Gw yR DL DK Cr):=by
 obtain ⟨A,A',g,st,st',os,os',n,n',pp,tp,eE,rfl,R,R',sm,hpp,pa,K2,k⟩:=h;have pP:=Cr 1;refine⟨_,(Zd (uw atQ rfl (Zjh rfl T.E3 (pc (au (ZN (K:=K) rfl) (pv 2) Zi (λ_ _=>rfl)) Zb)) (ZT (K:=K) (n:=2) rfl rfl (Zq (bY 3 nd) (Zq (bY 4 nd) ZS))) (Zd (cK 5 nd (Zj yR hr.m T.aG (pv 0) (pc (pv 3) Zb)))
   (Zd (aE (PW.pt (pw_or (uz (ZD (Zm pP hr.m rfl (pc (pv 5) (pc (Zj yR hr.m T.aG (pv 1) (pc (pv 3) Zb)) Zb))))) (HY (uz (ZD (Zm pP hr.m rfl (pc (Zj DL hr.m T.aG (pv 0) (pc (pv 3) Zb)) (pc (Zj DL hr.m T.aG (pv 1) (pc (pv 3) Zb)) Zb)))))))) (Zh (Zp dR)) Zt)
   (Zh (uw atQ rfl (Ir (K:=K) rfl (ZkD rfl rfl T.Aj rfl T.K6 (pc (Dc (ZZ (mh:=(Zr rQ)) (oN:=Dv) (N:=["_law_board","_law_room"]) (own:=1) (js:=[4]) (by decide +kernel) rfl rfl) rfl (Ir (K:=K) rfl (pv 5)) (λ_ _ _ _ _ _=>(bY 0 (show List.Nodup (["_law_board","_law_room"]:List Str) by decide +kernel))) (λ_ _ _ _ _ _=>(aj uv (pv 0) (au (ZN (K:=K) rfl) (pv 1) Zi (λ_ _=>rfl))))) Zb))) (bY 6 nd) (Zh (aE (uz (ZD (Zm pP hr.m rfl (pc (Zj DK hr.m T.aG (pv 0) (pc (pv 3) (pc (pv 6) Zb))) (pc (Zj DK hr.m T.aG (pv 1) (pc (pv 3) (pc (pv 6) Zb))) Zb))))) (Zh (Zp dR)) Zt)))))))
   (Zh (Zp dR))),?_⟩
 have lt:eE.length=g.n:=pa.len;refine⟨_,rfl,pp,_,_,_,rfl,rfl,aX.of hpp,lB,tp,rfl,⟨_,aX.of pa.top⟩,ZhJ (K:=K) (a:=tp) (xs:=eE.map V.ref) (λi σ G=>∃(v3 v4 v5 v6:Option V),σ=[some (.ref A.p),some (.ref A'.p),some (.ref pp),v3,v4,v5,v6]/\ay H G) ⟨none,none,none,none,rfl,ay.refl _⟩ (λi σ G _ h=>by obtain⟨_,_,_,_,_,s⟩:=h;exact aX.of (s _ _ pa.top)) ?_ ?_⟩
 .rintro i x t σ G hi ⟨v3,v4,v5,v6,rfl,s1⟩ ht;rw[aeb]at hi;cases J3:eE[i]? with
  |none=>rw[J3]at hi;cases hi
  |some ti=>
   rw[J3]at hi;cases hi;have hin:i<g.n:=by rw[<-lt];exact(azG.mp J3).1
   have s2:=Zg ht (.tup [V.int (i:Int),V.ref ti]);have et:=Za (H:=G) (a:=t) (o:=.tup [V.int (i:Int),V.ref ti]);have s3:=s1.trans s2;generalize upd G t (.tup [V.int (i:Int),V.ref ti])=G1 at *;have R1:=R.same s3;have Ou:=R'.same s3;obtain⟨dx,ob⟩:=R1.ob;obtain⟨yl,O4⟩:=Ou.ob;have ec:g.aO[i]?=some (g.cf i):=by
    unfold aI.cf;rw[agc,aEW (show i<g.aO.length from hin)];rfl
   obtain⟨wr,ew,_,_⟩:=pa.at_ i ti _ J3 ec;obtain⟨DP,DO,Jv,nC,_⟩:=pa.cf _ (abH ec);obtain⟨es,eu,ef⟩:=sm.at_ i;have sl:(st.at_ i).seq.length<=21:=alM (R.Po hin) K2;have MR:=s3 _ _ ew;refine⟨t,_,rfl,aX.of et,rfl,_,_,rfl,gN ⟨_,_,rfl,gN ⟨rfl,?_⟩⟩⟩;try dsimp only
   refine⟨_,rfl,A.p,dx,_,rfl,ob,aq ..,_,rfl,A,g,st,os,n,i,rfl,R1,hin,by lia,λD1 b1 Yc p1 w1=>gN ?_⟩;try dsimp only
   have s4:=Zg Yc (.lst (b1.map V.int));have QG:=Za (H:=G1) (a:=D1) (o:=.lst (b1.map V.int));generalize upd G1 D1 (.lst (b1.map V.int))=G2 at *;have l1:b1.length<=21:=by rw[p1.length_eq];lia
   refine A8 (λc G=>c=false/\ay G2 G) (λQ' k'=>?_) ?_
   .refine ⟨_,rfl,_,rfl,A'.p,yl,_,rfl,s4 _ _ O4,aq ..,_,rfl,A',g,st',os',n',i,rfl,Ou.same s4,hin,by rw[<-es];lia,λD2 b2 Qa p2 w2=>?_⟩;rw[<-es]at p2;obtain rfl:=R9 p1 w1 p2 w2;refine⟨_,_,rfl,DC (Zg Qa _ _ _ QG) Za (by lia),λG3 s5=>⟨_,rfl,cz rfl ?_⟩⟩;have s6:=(Zg Qa (.lst (b1.map V.int))).trans s5;refine⟨_,rfl,A.p,dx,_,rfl,s6 _ _ (s4 _ _ ob),aq ..,_,rfl,A,g,st,os,n,i,rfl,(R1.same s4).same s6,hin,by lia,λD3 c3 MJ m3 n3 w3 WX=>⟨_,rfl,A'.p,yl,_,rfl,Zg MJ _ _ _ (s6 _ _ (s4 _ _ O4)),aq ..,_,rfl,A',g,st',os',n',i,rfl,((Ou.same s4).same s6).same (Zg MJ _),hin,by lia,λD4 c4 P9 m4 n4 w4 WW=>?_⟩⟩;have Yz:c3=c4:=R9 (aEu _) w3 ((aOk WW WX).mpr λx=>by rw[m3,m4,ef]) w4;subst Yz;exact⟨_,_,rfl,DC (Zg P9 _ _ _ Za) Za (by lia),λG5 s7=>⟨_,rfl,k' _ _ ⟨rfl,s6.trans ((Zg MJ (.lst (c3.map V.int))).trans ((Zg P9 (.lst (c3.map V.int))).trans s7))⟩⟩⟩
   rintro c G3 ⟨rfl,s5⟩;refine cz rfl ?_;dsimp only[eN];have Wa:=(s3.trans s4).trans s5;have HB:=s5 _ _ QG;refine⟨_,rfl,D1,rfl,⟨_,aB.of HB⟩,λlz Cz=>?_⟩;refine Od (K:=K) (a:=D1) (xs:=b1.map V.int) (l:=lz) (λj ys σ G=>∃v0:Option V,σ=[v0,some (.ref ti)]/\ys=((b1.take j).map λx=>x%(g.cf i).sh).map V.int/\G=upd G3 lz (.lst ys)) ⟨none,rfl,rfl,rfl⟩ (λj ys σ G _ ⟨_,_,_,h⟩=>by subst h;exact aB.of (Zg Cz _ _ _ HB)) ?_ ?_
   .rintro j x ys σ G5 hj Cv hys ⟨v0,rfl,rfl,rfl⟩;obtain⟨y,ey,rfl⟩:=Kr Cv;refine⟨_,rfl,_,rfl,ti,_,_,_,rfl,rfl,aX.of (Zg Cz _ _ _ (s5 _ _ (s4 _ _ MR))),dF,_,_,rfl,rfl,by lia,?_⟩;refine rC.of (aIf (Zz (by rw[aW8];lia))) hj hys Za ⟨_,rfl,?_,KG⟩;rw[take_succ,ey,aK6,aK6];rfl
   rintro ys σ G5 _ ⟨v0,rfl,rfl,rfl⟩;rw[aW8,a9F];refine⟨lz,b1.map λx=>x%(g.cf i).sh,rfl,Za,(by show List.length _<64;rw[aW8];lia),λq D φ zs hq hD W3 Pc mem pw=>⟨D,rfl,⟨_,aB.of Za⟩,?_⟩⟩;have s8:ay H (upd (upd (upd G3 lz (.lst ((b1.map λx=>x%(g.cf i).sh).map V.int))) q (.ext φ)) D (.lst (zs.map V.int))):=Wa.trans ((Zg Cz _).trans ((Zg hq _).trans (Zg (by rw[Zc W3];exact hD) _)));have eD:=Za (H:=upd (upd G3 lz (.lst ((b1.map λx=>x%(g.cf i).sh).map V.int))) q (.ext φ)) (a:=D) (o:=.lst (zs.map V.int));generalize upd (upd (upd G3 lz (.lst ((b1.map λx=>x%(g.cf i).sh).map V.int))) q (.ext φ)) D (.lst (zs.map V.int))=G5 at *;have sb:∀s∈zs,0<=s/\s<(g.cf i).sh:=λs hs=>by
    obtain⟨x,_,rfl⟩:=a34.mp ((mem s).mp hs);exact⟨aBD _ (by lia),aIv _ (by lia)⟩
   clear HB Cz hq hD;refine SK (K:=K) (a:=D) (xs:=zs.map V.int) (λj σ G=>∃(v6:Option V),σ=[some (.ref A.p),some (.ref A'.p),some (.ref pp),some (.int (i:Int)),some (.ref ti),some (.ref D1),v6]/\ay G5 G) ⟨v6,rfl,ay.refl _⟩ (λj σ G _ h=>by obtain⟨_,_,s⟩:=h;exact aB.of (s _ _ eD)) ?_ ?_
   .rintro j x σ G6 hj ⟨u6,rfl,s9⟩;obtain⟨s,es',rfl⟩:=Kr hj;obtain⟨s0,s1'⟩:=sb s (abH es');have sA:=s8.trans s9;have R6:=R.same sA;have UD:=R'.same sA;obtain⟨YC,WB⟩:=R6.ob;obtain⟨YB,WA⟩:=UD.ob;refine gN ?_;try dsimp only
    refine⟨_,rfl,A.p,YC,_,rfl,WB,aq ..,_,rfl,_,rfl,A,g,st,os,n,i,s,rfl,R6,hin,s0,s1',λE1 G7 o1 hE1 BF Yy q1 f1 n1=>⟨_,rfl,A'.p,YB,_,rfl,BF _ _ WA,aq ..,_,rfl,_,rfl,A',g,st',os',n',i,s,rfl,UD.same BF,hin,s0,s1',λE2 G8 o2 hE2 Lq Yx q2 f2 n2=>?_⟩⟩;obtain rfl:=ZgU es eu q1 f1 n1 q2 f2 n2;have lo1:o1.length<=21:=by rw[q1.length_eq];exact alM (aj2 ..) sl
    refine⟨_,_,rfl,DC (Lq _ _ Yy) Yx (by lia),λG9 s12=>⟨_,rfl,cz rfl ?_⟩⟩;dsimp only[eN];exact⟨_,rfl,s9.trans (BF.trans (Lq.trans s12))⟩
   .rintro σ G6 ⟨u6,rfl,s9⟩;exact⟨_,_,_,_,rfl,s8.trans s9⟩
 .rintro σ G ⟨v3,v4,v5,v6,rfl,s1⟩;exact k G s1
def l7(bk:Int->Int)(os:List Int):List (Int×Int):=(os.filter λs=>!decide (bk s=0)).map λs=>(s,bk s)
theorem ZiI{bk:Int->Int}{os:List Int}{i:Nat}{s:Int}(h:os[i]?=some s):l7 bk (os.take (i+1))=l7 bk (os.take i)++if bk s=0 then[] else[(s,bk s)]:=by
 unfold l7;rw[take_succ,h,List.filter_append,aK6];congr 1
 show(List.filter _ [s]).map _=_;by_cases c:bk s=0
 .rw [aYH c,anE,aoK (by simp[c])];rfl
 .rw [aoK c,anE,aYH (by simp[c])];rfl
inductive pX(K:W.Frag)(vs:List V)(H:Hp)(Q:VK)(E:XK):Prop
 |mk (bd:Addr) (bk:Int->Int) (n:Nat):vs=[.ref bd]->jb H bd bk n->n<=900->(∀(D:Addr)(ps:List (Int×Int))(H':Hp),ay H H'->o9 H' D ps->zS bk ps->ps.length<=1000->Q (.ref D) H')->pX K vs H Q E
example:(wR Cs):=by
 obtain⟨bd,bk,n,rfl,⟨kvs,h1,⟨h2,ks,h5,h6⟩,h3⟩,n9,q⟩:=h;refine⟨_,(Zh (Zp (ZiQ (ZZ (mh:=(Zr om)) (oN:=zV) (N:=["_law_spot","_law_book"]) (own:=1) (js:=[0]) (by decide +kernel) rfl rfl) rfl (Ir (K:=K) rfl (Zs (Zdq rfl) rfl T.Aj apK (pc (pv 0) Zb))) (λ_ _ _ _ _ _=>(bY 0 (show List.Nodup (["_law_spot","_law_book"]:List Str) by decide +kernel))) (λ_ _ _ _ _ _=>(Zv AN (Ic hu (pv 1) (pv 0) (λ_ _=>rfl)) Zi (Zu _))) (λ_ _ _ _ _ _=>(qS (pc (pv 0) (pc (Ic hu (pv 1) (pv 0) (λ_ _=>rfl)) Zb))))))),?_⟩;have lk:ks.length<=900:=by
  have l:=aSc List.length h5;rw[aW8,aW8]at l;lia
 refine⟨_,rfl,bd,kvs,ks,rfl,h1,h5,by lia,λD os hD po pw=>⟨D,rfl,⟨_,aB.of Za⟩,λlz Cz=>?_⟩⟩;have s1:=Zg hD (.lst (os.map V.int));have eD:=Za (H:=H) (a:=D) (o:=.lst (os.map V.int));generalize upd H D (.lst (os.map V.int))=G1 at *;have lo:os.length<=900:=by rw[po.length_eq];exact lk
 refine Od (K:=K) (a:=D) (xs:=os.map V.int) (l:=lz) (λi ys σ G=>∃(v0:Option V)(as:List Addr),σ=[v0,some (.ref bd)]/\ys=as.map V.ref/\as.length=(l7 bk (os.take i)).length/\(∀(j:Nat)(a:Addr)(p:Int×Int),as[j]?=some a->(l7 bk (os.take i))[j]?=some p->G a=some (.tup [.int p.1,.int p.2]))/\G lz=some (.lst ys)/\ay G1 G)
  ⟨none,[],rfl,rfl,rfl,λj a p e=>by simp at e,Za,Zg Cz _⟩ (λi ys σ G _ h=>by obtain⟨_,_,_,_,_,_,_,s⟩:=h;exact aB.of (s _ _ eD)) ?_ ?_
 .rintro i x ys σ G hi hx hys ⟨v0,as,rfl,rfl,hl,hat,gl,s2⟩;obtain⟨s,es,rfl⟩:=Kr hx;have e1:=s2 _ _ (s1 _ _ h1);have sn:=ZiI (bk:=bk) es;have hs:∃v,dG G bd (.int s) (some (.int v))/\v=bk s:=by
   have m:s∈ks:=po.mem_iff.mp (abH es);have z:=(zM (kvs:=kvs) (Sum.inl s)).mpr (by rw[h5];exact bax m);have v:=h3 s;have g:=dG.k (k:=Sum.inl s) e1;cases c:aK kvs (Sum.inl s:Key) with
   |none=>rw[c]at z;cases z
   |some y=>
    rw[c]at v g;have v:y=V.int (bk s):=v;rw[v]at g;exact⟨_,g,rfl⟩
  obtain⟨v,gv,rfl⟩:=hs;refine⟨_,rfl,_,rfl,bd,_,rfl,gv,rfl,_,rfl,?_⟩;by_cases c:bk s=0
  .rw [aYH c,bah]at sn;refine cz (by simp[c]) (Bx.of hi hys ⟨_,as,rfl,rfl,by rw[sn];exact hl,λj a p e1 e2=>hat j a p e1 (by rw[sn]at e2;exact e2),gl,s2⟩)
  .rw [aoK c]at sn;refine d8 (by simp[c]) ⟨_,rfl,_,rfl,_,rfl,bd,_,rfl,gv,(sL 2),λt ht=>?_⟩;have s3:=Zg ht (.tup [.int s,.int (bk s)]);have et:=Za (H:=G) (a:=t) (o:=.tup [.int s,.int (bk s)]);generalize upd G t (.tup [.int s,.int (bk s)])=G3 at *;have Qg:=s3 _ _ gl;have nl:∀{u:Addr}{zs:List V},G3 u=some (.tup zs)->u≠lz:=λe=>AQ e Qg (by intro z;cases z);refine rC.of (aIf (Zz (by rw[aW8];lia))) hi hys Qg ⟨_,as++[t],rfl,by rw[aK6];rfl,by rw[sn,aE0,aE0,hl];rfl,λj a p e1 e2=>?_,Za,λx o e=>by rw[Zc (Ze e Cz)];exact s3 _ _ (s2 _ _ e)⟩;rw[sn]at e2;by_cases cj:j<as.length
   .rw [aaw cj]at e1;rw[aaw (by rw[<-hl];exact cj)]at e2;have h1:=s3 _ _ (hat j a p e1 e2);rw[Zc (nl h1)];exact h1
   .rw [bbj (by lia)]at e1;rw[bbj (by lia),<-hl]at e2;have ej:j-as.length=0:=by
     cases h0:j-as.length with
     |zero=>rfl
     |succ m=>rw[h0]at e1;simp at e1
    rw[ej]at e1 e2;cases e1;cases e2;rw[Zc (nl et)];exact et
 .rintro ys σ G _ ⟨v0,as,rfl,rfl,hl,hat,gl,s2⟩;rw[aW8,a9F]at hl hat;have Pc:os.Nodup:=po.nodup_iff.mpr h6;have lp:(l7 bk os).length<=1000:=by
   unfold l7;rw[aW8];exact alM (aj2 ..) (by lia)
  refine q lz (l7 bk os) G (s1.trans s2) ⟨as,gl,hl,hat⟩ ⟨?_,λs v=>?_⟩ lp
  .unfold l7;rw[pairwise_map];exact((pw.and Pc).imp λh=>by obtain⟨h1,h2⟩:=h;lia:os.Pairwise λa b=>a<b).filter _
  .unfold l7;rw[mem_map];constructor
   .rintro ⟨k,hk,e⟩;cases e;have:=(avb.mp hk).2;exact⟨rfl,by simpa using this⟩
   .rintro ⟨e1,e2⟩;refine⟨s,avb.mpr ⟨po.mem_iff.mpr ?_,by simp[e1,e2]⟩,by rw[e1]⟩;have v3:=h3 s;have z:=zM (kvs:=kvs) (Sum.inl s);cases c:aK kvs (Sum.inl s:Key) with
    |none=>
     rw[c]at v3;have v3:V.int 0=V.int (bk s):=v3;injection v3 with v3
     exact absurd (by rw[<-e1,<-v3]) e2
    |some y=>
     rw[c,h5]at z;obtain⟨x,hx,e⟩:=a34.mp (z.mp rfl);rw[<-aIk e];exact hx
theorem Y0{n:Nat}(i:Nat):(uA n).at_ i=o8:=by
 unfold uA ak.at_;rw[agc,ave];split <;> rfl
theorem R8{n:Nat}:cH (uA n):=λi j hi hj hij x hx=>by
 rw[Y0]at hx;exact absurd hx (by simp[o8])
theorem AZ{t:TS}{D:Ends}{σ:St}{H:Hp}(h:∀D':Ends,(∀ σ G,D.nx σ G->D'.nx σ G)->t D' σ H):t D σ H:=h D λ_ _ x=>x
theorem Hv{n:Nat}{e:List V}(h:Ev n e):e.length<=3/\∀v∈e,Sc v:=by
 rcases h with⟨k,_,rfl⟩|⟨k,b,_,rfl|rfl⟩|⟨k,b,_,rfl⟩
 .refine ⟨Nat.le_of_ble_eq_true rfl,λv hv=>?_⟩;simp only[a6r,auY,a4R]at hv;rcases hv with rfl|rfl <;> trivial
 all_goals
  refine⟨Nat.le_of_ble_eq_true rfl,λv hv=>?_⟩;simp only[a6r,auY,a4R]at hv;rcases hv with rfl|rfl|rfl <;> trivial
theorem RB{n:Nat}{H:Hp}{l m:Addr}{es:List (List V)}(a:rB n H l es)(b:rB n H m es)(le:es.length<=1000):Eqv 2 H (.ref l) (.ref m):=by
 obtain⟨h0,ts,h1,h2,h3⟩:=a;obtain⟨_,us,g1,g2,g3⟩:=b;refine .inr ⟨l,m,_,_,rfl,rfl,.inl ⟨h1,g1⟩,by rw[aW8,aW8,h2,g2],by rw[aW8];lia,λi u v q1 q2=>?_⟩;rw[aeb]at q1 q2;cases e1:ts[i]? with
 |none=>rw[e1]at q1;cases q1
 |some t=>
  cases e2:us[i]? with
  |none=>rw[e2]at q2;cases q2
  |some t'=>
   rw[e1]at q1;rw[e2]at q2;cases q1;cases q2;have hi:i<es.length:=by rw[<-h2];exact(azG.mp e1).1
   have ee:es[i]?=some es[i]:=aEW hi;obtain⟨c1,c2⟩:=Hv (h0 _ (adU hi));exact Eqv.CL 0 (h3 i t _ e1 ee) (g3 i t' _ e2 ee) (by lia) c2
section
variable{g:aI}{st:ak}{b:Int}{k:Nat}{ws:List Int}
theorem Nr:(bR g k b ws st).ev.length=st.ev.length+1:=by
 unfold bR;split
 .show (st.ev++_).length=_;rw[aE0];rfl
 .show (st.ev++_).length=_;rw[aE0];rfl
theorem N6:∀{r k:Nat}{st:ak},(aZ g b ws r k st).ev.length<=st.ev.length+r+1
 |0,k,st=>by rw[aZ,Nr];lia
 |r+1,k,st=>by
  unfold aZ;split
  .split
   .show (bR g k b ws st).ev.length<=_;rw[Nr];lia
   .refine alM N6 ?_;rw[Nr];lia
  .exact alM N6 (by lia)
theorem Zjw(l4:g.n<=4):(cC g k b st).ev.length<=st.ev.length+6:=by
 have e:(cB k b st).ev.length=st.ev.length+1:=by
  show(st.ev++_).length=_;rw[aE0];rfl
 unfold cC;split
 .refine alM N6 ?_;rw[e];lia
 .rw [e];lia
theorem R7(l4:g.n<=4):∀{bs:List Int}{st:ak},(ie g k bs st).ev.length<=st.ev.length+6*bs.length
 | [],st=>apX _
 |b ::bs,st=>by
  unfold ie;refine alM (R7 l4) ?_;have:=Zjw (k:=k) (b:=b) (st:=st) l4;rw[aXW];lia
theorem RZ{m:Nat}(l4:g.n<=4)(hl:st.rm.length=g.n)(h:∀k,k<g.n->(st.at_ k).seq.length<=m):∀{k:Nat},k<=g.n->(bf g st k).ev.length<=st.ev.length+6*m*k
 |0,_=>by unfold bf;lia
 |k+1,hk=>by
  have q:=RZ l4 hl h (k:=k) (by lia);unfold bf;refine alM (R7 l4) ?_;have e:=(Ig (g:=g) (st:=st) (j:=k) (k:=k) (by lia)).2;rw[aoK (aZG _)]at e;rw[kh.length_eq,e];have:=h k (by lia);rw[Nat.mul_succ];have:6*(st.at_ k).seq.length<=6*m:=Nat.mul_le_mul_left _ this;lia
end
def Ow(A:TA)(os:OS)(bd:Addr)(x:Addr):Prop:=OW A os x\/x=bd
structure Hf(K:W.Frag)(G:Hp)(g:aI)(A:TA)(os:OS)(st:ak)(bd:Addr)(bk:Int->Int)(m:Nat):Prop where
 rd:zR K G A g st os
 ok:aU g st
 fx:∀x,Fx g bk x st
 eb:jb G bd bk m
 nb:¬OW A os bd
def Kp(O:Addr->Prop)(G G1:Hp):Prop:=∀x o,G x=some o->(O x->¬Mt o)->G1 x=some o
def Nf(O O':Addr->Prop)(G:Hp):Prop:=∀x,O' x->O x\/G x=none
section
variable{K:W.Frag}{H G G1:Hp}{g:aI}{A:TA}{os:OS}{st:ak}{bd b lo pp tp:Addr}{bk:Int->Int}{m:Nat}{O O':Addr->Prop}{eE:List Addr}{ns:List Int}{a q c:Int}
theorem Hf.keep(h:Hf K G g A os st bd bk m)(f:∀x o,G x=some o->(Ow A os bd x\/¬Mt o)->G1 x=some o):Hf K G1 g A os st bd bk m:=
 ⟨h.rd.frame λx o e z=>f x o e (z.imp .inl id),h.ok,h.fx,h.eb.frame λo e=>f _ _ e (.inl (.inr rfl)),h.nb⟩
theorem Hf.off(h:Hf K G g A os st bd bk m)(k:Kp O G G1)(s:∀x,Ow A os bd x->¬O x):Hf K G1 g A os st bd bk m:=
 h.keep λx o e z=>k x o e λy=>z.elim (λz=>absurd y (s x z)) id
theorem Hf.ex(h:Hf K G g A os st bd bk m){x:Addr}(z:Ow A os bd x):G x≠none:=λe=>by
 rcases z with z|rfl
 .exact h.rd.at_.fresh e z
 .obtain ⟨kvs,q,_⟩:=h.eb;rw[e]at q;cases q
theorem Hf.same(h:Hf K G g A os st bd bk m)(s:ay G G1):Hf K G1 g A os st bd bk m:=h.keep λx o e _=>s x o e
theorem Hf.JN(h:Hf K G g A os st bd bk m){A':TA}{os':OS}(t:UA G G1 A A' os os' bd):Kp (Ow A os bd) G G1/\Nf (Ow A os bd) (Ow A' os' bd) G:=by
 obtain⟨kvs,q,_⟩:=h.eb;refine⟨λx o e n=>t.kp x o e (λz=>n (.inl z)) λz=>?_,λx z=>z.elim (λz=>(t.fr x z).imp .inl id) λz=>.inl (.inr z)⟩;subst z;rw[q]at e;cases e;exact n (.inr rfl) trivial
theorem Hf.LZ(h:Hf K G g A os st bd bk m){A':TA}{os':OS}(p:bN (OW A os) G G1 (OW A' os')):Kp (Ow A os bd) G G1/\Nf (Ow A os bd) (Ow A' os' bd) G:=
 h.JN ⟨λx o e n _=>p.kp x o e n,λx z=>p.fr x z⟩
structure Wb(K:W.Frag)(H G:Hp)(b lo pp tp:Addr)(eE:List Addr)(ns:List Int)(g:aI)(O:Addr->Prop):Prop where
 vq:G lo=some (.lst (ns.map V.int))
 pl:G pp=some (.tup [.int g.size,.str g.kind,.ref tp])
 pa:cD K G tp eE g.aO
 kp:SB b H G
 nw:∀x,O x\/x=lo->H x=none
 of:¬O b/\¬O lo
 nb:lo≠b
theorem Wb.new(w:Wb K H G b lo pp tp eE ns g O)(B:aD G b a q c){x:Addr}(h:G x=none):H x=none:=by
 cases e:H x with
 |none=>rfl
 |some o=>
  by_cases z:x=b
  .rw [z,B.at']at h;cases h
  .rw [w.kp x o z e]at h;cases h
theorem Wb.sb(w:Wb K H G b lo pp tp eE ns g O)(B:aD G b a q c)(s:SB b G G1):Wb K H G1 b lo pp tp eE ns g O:=by
 have nt:∀{x ys},G x=some (.tup ys)->x≠b:=λ{x ys} e z=>by rw[z,B.at']at e;cases e
 exact⟨s _ _ w.nb w.vq,s _ _ (nt w.pl) w.pl,w.pa.frame λx ys e=>s _ _ (nt e) e,w.kp.trans s,w.nw,w.of,w.nb⟩
theorem Wb.same(w:Wb K H G b lo pp tp eE ns g O)(B:aD G b a q c)(s:ay G G1):Wb K H G1 b lo pp tp eE ns g O:=w.sb B (s.sb b)
theorem Hf.sb(h:Hf K G g A os st bd bk m)(w:Wb K H G b lo pp tp eE ns g O)(l:∀x,Ow A os bd x->O x)(B:aD G b a q c)(s:SB b G G1):Hf K G1 g A os st bd bk m:=
 h.keep λx o e z=>s x o (λy=>by
  subst y;rcases z with z|z
  .exact w.of.1 (l _ z)
  .rw [B.at']at e;cases e;exact z trivial) e
theorem Wb.mv(w:Wb K H G b lo pp tp eE ns g O)(B:aD G b a q c)(k:Kp O G G1)(f:Nf O O' G):Wb K H G1 b lo pp tp eE ns g O'/\aD G1 b a q c:=by
 have tu:∀{x ys},G x=some (.tup ys)->G1 x=some (.tup ys):=λ{x ys} e=>k x _ e λ_=>id;have no:∀{x o},G x=some o->¬O x->G1 x=some o/\¬O' x:=λ{x o} e n=>⟨k x o e λz=>absurd z n,λz=>(f x z).elim n λz=>by rw[e]at z;cases z⟩;obtain⟨l1,l2⟩:=no w.vq w.of.2;obtain⟨b1,b2⟩:=no B.at' w.of.1;refine⟨⟨l1,tu w.pl,w.pa.frame λx ys e=>tu e,λx o n e=>k x o (w.kp x o n e) λz=>?_,λx z=>?_,⟨b2,l2⟩,w.nb⟩,⟨b1,B.a0,B.q0,B.q1,B.c0⟩⟩
 .have z:=w.nw x (.inl z);rw[z]at e;cases e
 .rcases z with z|z
  .exact (f x z).elim (λz=>w.nw x (.inl z)) λz=>w.new B z
  .exact w.nw x (.inr z)
end
def O2(A0:TA)(gQ:OS)(o7:Addr)(A1:TA)(bO:OS)(iC:Addr)(x:Addr):Prop:=Ow A0 gQ o7 x\/Ow A1 bO iC x
structure W2(K:W.Frag)(H G:Hp)(b lo pp tp:Addr)(eE:List Addr)(ns:List Int)(g:aI)(A0:TA)(gQ:OS)(cT:ak)(o7:Addr)(rD:Int->Int)(m0:Nat)(A1:TA)(bO:OS)(st1:ak)(iC:Addr)(qN:Int->Int)(m1:Nat):Prop where
 h0:Hf K G g A0 gQ cT o7 rD m0
 h1:Hf K G g A1 bO st1 iC qN m1
 wb:Wb K H G b lo pp tp eE ns g (O2 A0 gQ o7 A1 bO iC)
 sep:∀x,Ow A0 gQ o7 x->¬Ow A1 bO iC x
section
variable{K:W.Frag}{H G G1:Hp}{b lo pp tp:Addr}{eE:List Addr}{ns:List Int}{g:aI}{A0:TA}{gQ:OS}{cT:ak}{o7:Addr}{rD:Int->Int}{m0:Nat}{A1:TA}{bO:OS}{st1:ak}{iC:Addr}{qN:Int->Int}{m1:Nat}{a q c:Int}
theorem W2.swap(w:W2 K H G b lo pp tp eE ns g A0 gQ cT o7 rD m0 A1 bO st1 iC qN m1):W2 K H G b lo pp tp eE ns g A1 bO st1 iC qN m1 A0 gQ cT o7 rD m0:=
 ⟨w.h1,w.h0,⟨w.wb.vq,w.wb.pl,w.wb.pa,w.wb.kp,λx z=>w.wb.nw x (z.imp Or.symm id),⟨λz=>w.wb.of.1 z.symm,λz=>w.wb.of.2 z.symm⟩,w.wb.nb⟩,λx z1 z0=>w.sep x z0 z1⟩
theorem W2.sb(w:W2 K H G b lo pp tp eE ns g A0 gQ cT o7 rD m0 A1 bO st1 iC qN m1)(B:aD G b a q c)(s:SB b G G1):W2 K H G1 b lo pp tp eE ns g A0 gQ cT o7 rD m0 A1 bO st1 iC qN m1:=
 ⟨w.h0.sb w.wb (λx z=>.inl z) B s,w.h1.sb w.wb (λx z=>.inr z) B s,w.wb.sb B s,w.sep⟩
theorem W2.same(w:W2 K H G b lo pp tp eE ns g A0 gQ cT o7 rD m0 A1 bO st1 iC qN m1)(B:aD G b a q c)(s:ay G G1):W2 K H G1 b lo pp tp eE ns g A0 gQ cT o7 rD m0 A1 bO st1 iC qN m1:=w.sb B (s.sb b)
theorem W2.mv(w:W2 K H G b lo pp tp eE ns g A0 gQ cT o7 rD m0 A1 bO st1 iC qN m1)(B:aD G b a q c){A':TA}{os':OS}{st':ak}{zG:Int->Int}{m':Nat}(h:Hf K G1 g A' os' st' o7 zG m')(k:Kp (Ow A0 gQ o7) G G1/\Nf (Ow A0 gQ o7) (Ow A' os' o7) G):W2 K H G1 b lo pp tp eE ns g A' os' st' o7 zG m' A1 bO st1 iC qN m1/\aD G1 b a q c:=by
 obtain⟨k,f⟩:=k;obtain⟨wb,B1⟩:=w.wb.mv (O':=O2 A' os' o7 A1 bO iC) B (λx o e n=>k x o e λz=>n (.inl z)) λx z=>by
  rcases z with z|z
  .exact (f x z).imp .inl id
  .exact .inl (.inr z)
 exact⟨⟨h,w.h1.off k λx z1 z0=>w.sep x z0 z1,wb,λx z0 z1=>(f x z0).elim (λz=>w.sep x z z1) λz=>w.h1.ex z1 z⟩,B1⟩
end
inductive sZ(K:W.Frag)(vs:List V)(H:Hp)(Q:VK)(E:XK):Prop
 |mk (b:Addr) (a q:Int):vs=[.ref b]->aD H b a q 0->Tb K H->(∀H',SB b H H'->Q (.bl true) H')->sZ K vs H Q E
example:(wQ GB Gx EL D7 D6 D8 Cq Gw BL BN Cs Cr):=by
 obtain ⟨b,a,q,rfl,B,tb,k⟩:=h;have pP:=Cr 2;refine⟨_,(Zd (cK 1 nd (Zm Gx hr.m rfl (pc (pv 0) Zb)))
   (Zd (ZkE (i:=2) (j:=3) (l:=4) rfl nd rfl rfl rfl (by decide) rfl rfl rfl (pc (Zm EL hr.m rfl (pc (pv 0) (pc (au (ZN (K:=K) rfl) (pv 1) Zi (λ_ _=>rfl)) Zb))) (pc (Ip D8 hr.m rfl (pc (pv 1) Zb)) (pc EB Zb))) rfl)
   (Zd (uw atQ rfl (ZY rfl T.rR (pc (Zm D6 hr.m rfl (pc (pv 0) (pc Zi (pc Zi Zb)))) Zb)) (bY 5 nd) (Zh (aE (uz (ZD (au (ZN (K:=K) rfl) (Zm Cq hr.m rfl (pc (pv 3) (pc (Zm D7 hr.m rfl (pc (pv 0) (pc (au (ZN (K:=K) rfl) (pv 1) Zi (λ_ _=>rfl)) (pc (pv 2) Zb)))) (pc (pv 4) Zb)))) Zi (λ_ _=>rfl)))) (Zh (Zp dR)) Zt)))
   (Zd (Zn (ZO BL hr.m T.aG (pv 3)))
   (Zd (aE (uz (ZD (Zm pP hr.m rfl (pc (ZO BN hr.m T.aG (pv 3)) (pc (Zm Cs hr.m rfl (pc (pv 4) Zb)) Zb))))) (Zh (Zp dR)) Zt)
   (Zd (QM (i:=6) (j:=7) rfl nd rfl rfl (by decide) rfl rfl (pc (Ip D8 hr.m rfl (pc (pv 1) Zb)) (pc EB Zb)) rfl)
   (Zd (uw atQ rfl (ZY rfl T.rR (pc (Zm D6 hr.m rfl (pc (pv 0) (pc Zi (pc Zi Zb)))) Zb)) (bY 5 nd) (Zd (cK 8 nd (Zm D7 hr.m rfl (pc (pv 0) (pc (au (ZN (K:=K) rfl) (pv 1) Zi (λ_ _=>rfl)) (pc (pv 2) Zb)))))
   (Zd (QM (i:=9) (j:=10) rfl nd rfl rfl (by decide) rfl rfl (pc (Zm Cq hr.m rfl (pc (pv 3) (pc (pv 8) (pc (pv 4) Zb)))) (pc (Zm Cq hr.m rfl (pc (pv 6) (pc (pv 8) (pc (pv 7) Zb)))) Zb)) rfl)
   (Zh (aE (PW.pt (pw_or (uz (ZD (au (ZN (K:=K) rfl) (pv 9) Zi (λ_ _=>rfl)))) (pw_or (uz (ZD (au (ZN (K:=K) rfl) (pv 10) Zi (λ_ _=>rfl)))) (pw_or (uz (ZD (Zm pP hr.m rfl (pc (au (ZN (K:=K) rfl) (pv 9) Zi (λ_ _=>rfl)) (pc (au (ZN (K:=K) rfl) (pv 10) Zi (λ_ _=>rfl)) Zb))))) (HY (uz (ZD (Zm Gw hr.m rfl (pc (pv 3) (pc (pv 6) (pc (pv 1) Zb))))))))))) (Zh (Zp dR)) Zt)))))
   (Zd (aE (uz (ZD (Zm pP hr.m rfl (pc (ZO BL hr.m T.aG (pv 3)) (pc (ZO BL hr.m T.aG (pv 6)) Zb))))) (Zh (Zp dR)) Zt)
   (Zh (Zp (HW (Zm pP hr.m rfl (pc (ZO BN hr.m T.aG (pv 3)) (pc (Zm Cs hr.m rfl (pc (pv 4) Zb)) Zb))) (HX (Zm pP hr.m rfl (pc (ZO BN hr.m T.aG (pv 6)) (pc (Zm Cs hr.m rfl (pc (pv 7) Zb)) Zb))))))))))))))),?_⟩
 refine hide λu1 e1=>?_;refine⟨_,rfl,b,a,q,0,rfl,B,by decide,λp2 tp eE size kind aO a1 c1 H2 zo Jx Mg z0 z1 l1 l4 B2 hc1 u2=>gN ?_⟩;subst e1;try dsimp only
 have Gd:∀{x ys},H2 x=some (.tup ys)->x≠b:=λ{x ys} e z=>by rw[z,B2.at']at e;cases e
 refine hide λu1 e1=>?_;refine⟨_,rfl,_,rfl,p2,_,_,_,rfl,rfl,aX.of zo,dF,b,a1,q,c1,size,rfl,B2,by lia,z0,z1,λlo ns a3 c3 H3 hlo vq n3 Pk QJ _ B3 hc3 t3=>⟨_,rfl,λp dx hp hdx Gb=>?_⟩⟩;have zm:=t3 _ _ (Gd zo) zo;have Jw:=Jx.frame (H':=H3) λx ys e=>t3 _ _ (Gd e) e;have u3:SB b H H3:=u2.trans t3;have oH:lo≠b:=λz=>by rw[z,B2.at']at hlo;cases hlo
 have Mw:H lo=none:=KO u2 B2.at' hlo;have DM:Tb K H3:=u3 _ _ (λz=>by have t:=tb;unfold Tb at t;rw[z,B.at']at t;cases t) tb;have Ga:∀x∈ns,0<=x/\x<=100000:=λx hx=>by
  have:=QJ x hx;have s9:9999/size<=9999:=Int.ediv_le_self _ (by decide);lia
 obtain⟨g,eg⟩:∃g:aI,g=⟨size,kind,aO,(9999/size) ::ns⟩:=⟨_,rfl⟩;have wf:WF g:=by
  rw[eg];refine⟨λc hc=>⟨(Jx.cf c hc).2.2.1,(Jx.cf c hc).2.2.2.1⟩,z0,by show size<=1000;lia,by show _+1<=800;lia,λb hb=>?_,l4,l1⟩;have s9:9999/size<=9999:=Int.ediv_le_self _ (by decide);have s0:0<=9999/size:=Int.ediv_nonneg (by decide) (by lia);rcases aCP.mp hb with rfl|hb
  .lia
  .have:=Ga b hb;lia
 have K2:g.U.length<=21:=by rw[eg];show ns.length+1<=21;lia
 have gU:g.U=(9999/g.size) ::ns:=by rw[eg]
 have MW:size=g.size:=by rw[eg]
 have MV:kind=g.kind:=by rw[eg]
 have QC:aO=g.aO:=by rw[eg]
 rw[MW,MV]at zm;rw[QC]at Jw;rw[MW]at z0 z1;rw[MV]at Mg;clear eg;clear MW MV QC Jx zo QJ l1 l4;have l1:1<=g.n:=wf.l1;have l4:g.n<=4:=wf.l4;have m1:ay H3 (upd (upd H3 dx (.own p)) p (.ins (af K "Stairs") dx [])):=λx o e=>by rw[Zc (Ze e hp),Zc (Ze e hdx)];exact e
 have hp1:=Za (H:=upd H3 dx (.own p)) (a:=p) (o:=.ins (af K "Stairs") dx []);have CK:∀x,upd (upd H3 dx (.own p)) p (.ins (af K "Stairs") dx []) x=none->H3 x=none:=λx e=>m1.free e;generalize upd (upd H3 dx (.own p)) p (.ins (af K "Stairs") dx [])=H4 at *;refine⟨p,dx,p2,tp,g.size,g.kind,eE,g.aO,rfl,hp1,m1 _ _ zm,Jw.same m1,wf.l4,DM.same m1,λA0 gQ H5 ep RS own k2=>⟨rfl,?_⟩⟩;have m2:ay H3 H5:=λx o e=>k2 x o (m1 _ _ e) (Ze e hp);have hO:∀x,OW A0 gQ x->H3 x=none:=λx h=>by
  by_cases z:x=p
  .rw [z];exact hp
  .exact CK x (own x h z)
 have R5:=RS g.U wf;subst e1;try dsimp only
 rw[show V.ref p=V.ref A0.p by rw[ep]];have B5:=B3.same m2;clear m1 hp1 CK RS own k2 ep;refine λbd hbd=>⟨_,_,_,rfl,?_⟩;have s5:=Zg hbd (.dK []);have QE:=Za (H:=H5) (a:=bd) (o:=.dK []);have Na:∀{x o},H5 x=some o->x≠bd:=λe=>Ze e hbd;generalize upd H5 bd (.dK [])=H6 at *;have h0:Hf K H6 g A0 gQ (uA g.n) bd (λ_=>0) 0:=⟨⟨R5.same s5,λ_=>R8⟩,oX.1,oX.2,⟨[],QE,⟨apX _,KI.nil⟩,λs=>rfl⟩,R5.fresh hbd⟩;have w0:Wb K H H6 b lo p2 tp eE ns g (Ow A0 gQ bd):=by
  refine⟨s5 _ _ (m2 _ _ vq),s5 _ _ (m2 _ _ zm),(Jw.same m2).same s5,(u3.trans (m2.sb b)).trans (s5.sb b),λx z=>?_,⟨λz=>?_,λz=>?_⟩,oH⟩
  .rcases z with(z|z)|z
   .exact KO u3 B3.at' (hO x z)
   .rw [z];exact KO u3 B3.at' (m2.free hbd)
   .rw [z];exact Mw
  .rcases z with z|z
   .have z:=hO b z;rw[B3.at']at z;cases z
   .exact Na B5.at' z
  .rcases z with z|z
   .have z:=hO lo z;rw[vq]at z;cases z
   .exact Na (m2 _ _ vq) z
 have B6:=B5.same s5;have tb6:=(DM.same m2).same s5;clear R5 s5 QE Na hbd B5 hO m2 zm Jw vq u3 B3 DM t3 u2 B2;have uL:g.U.length<64:=by lia
 have hs:0<g.size:=by lia
 refine hide λu1 e1=>?_;refine⟨_,rfl,b,a3,q,c3,30,150,rfl,B6,by lia,by decide,by decide,by decide,λmn a4 c4 H9 W9 W8 B9 hc4 t4=>⟨_,rfl,by lia,by lia,EF (lo:=0) (n:=mn.toNat) (λi σ G=>∃(v5 v6 v7 v8 v9 v10:Option V)(A:TA)(os:OS)(st:ak)(bk:Int->Int)(a' c':Int),σ=[some (.ref b),some (.ref p2),some (.ref lo),some (.ref A0.p),some (.ref bd),v5,v6,v7,v8,v9,v10]/\A.p=A0.p/\Hf K G g A os st bd bk i/\Wb K H G b lo p2 tp eE ns g (Ow A os bd)/\aD G b a' q c'/\c'<=c4+12*(i:Int))
  ⟨_,_,_,_,_,_,A0,gQ,_,_,a4,c4,rfl,rfl,h0.sb w0 (λ_ z=>z) B6 t4,w0.sb B6 t4,B9,by lia⟩ ?_ ?_⟩⟩
 .rintro i σ G hi ⟨v5,v6,v7,v8,v9,v10,A,os,st,bk,a',c',rfl,eA,h,wb,B',hc'⟩;refine gN ?_;refine AZ λD' Hl=>?_;try dsimp only
  rw[<-eA]at Hl ⊢;refine⟨_,rfl,_,rfl,_,rfl,p2,_,_,_,rfl,rfl,aX.of wb.pl,dF,_,rfl,b,lo,a',q,c',g.size,ns,rfl,B',oH,by lia,z0,z1,wb.vq,by lia,Pk,Ga,λt d a5 c5 G1 et Wn iU B5 hc5 s5=>?_⟩;have h:=h.sb wb (λ_ z=>z) B' s5;have wb:=wb.sb B' s5;have bU:d.sp/g.size∈g.U:=by rw[gU];exact iU
  refine⟨_,rfl,A,g,st,os,t,bd,d,bk,bk,i,rfl,h.rd,et,bU,h.ok,h.fx,h.eb,λs=>rfl,by lia,h.nb,λG2 e' iB tp' MT R2 ev Xn Cc M9 LG MO Fb Cj=>⟨tp',_,_,_,rfl,rfl,aX.of MT,dF,_,rfl,cz rfl ?_⟩⟩;dsimp only[eN];have kp:=h.JN Fb;obtain⟨w2,B6⟩:=wb.mv B5 kp.1 kp.2;exact Hl _ _ ⟨_,_,_,_,_,_,A.re e',iB,_,_,a5,c5,rfl,rfl,⟨R2,LG,MO,M9,λz=>(Fb.fr bd z).elim h.nb λz=>h.ex (.inr rfl) z⟩,w2,B6,by lia⟩
 rintro σ G ⟨v5,v6,v7,v8,v9,v10,A,os,st,bk,a',c',rfl,eA,h,wb,B',hc'⟩;subst e1;try dsimp only
 rw[<-eA];have Xb:mn.toNat<=150:=by lia
 have hc6:c'<=10000:=by lia
 generalize mn.toNat=m at *;clear h0 w0 B6 B9 t4 eA;obtain⟨cQ,JA⟩:=h.rd.at_.ob;refine hide λu1 e1=>?_;refine⟨_,rfl,A.p,cQ,_,rfl,JA,aq ..,A,g,st,os,rfl,h.rd.at_,uL,λG1 e' bO R1 Hw LX ne1 p1=>?_⟩;subst e1;try dsimp only
 obtain⟨o1,f1⟩:=Ik hs h.ok h.fx (apX _);obtain⟨o2,f2⟩:=Nx o1 f1;have V2:=ZlZ o1 h.ok.len;have qD:=λs=>Ny hs h.ok h.fx s;have Gs:=h.LZ p1;obtain⟨OJ,B1⟩:=wb.mv B' Gs.1 Gs.2;have h1:Hf K G1 g (A.re e') bO (ly (bf g st g.n)) bd bk m:=⟨⟨R1,λ_=>N7 h.ok.len⟩,o2,f2,h.eb.frame λo e=>(p1.out e h.nb).1,λz=>(p1.fr bd z).elim h.nb λz=>h.ex (.inr rfl) z⟩;have yk:(ly (bf g st g.n)).mem=(bf g st g.n).mem:=rfl;clear o1 f1 o2 f2 Gs R1 Hw LX ne1 p1 wb h B';generalize ly (bf g st g.n)=st1 at *;rw[<-yk]at qD;clear yk;obtain⟨YD,O3⟩:=h1.rd.at_.ob;refine hide λu1 e1=>?_;refine⟨_,rfl,A.p,YD,_,rfl,O3,aq ..,A.re e',g,_,bO,0,rfl,h1.rd.at_,λD ps G2 hD s2 pD pL=>?_⟩;refine⟨_,rfl,bd,bk,_,rfl,(h1.same s2).eb,by lia,λD2 ps2 G3 s3 DT DR lp=>?_⟩;have Hy:ps=ps2:=(pL.congr qD).uniq DR;subst Hy;refine⟨_,_,rfl,(pD.same s3).eqv DT lp,λG4 s4=>⟨_,rfl,cz rfl ?_⟩⟩;subst e1;try dsimp only
 dsimp only[eN];have Jr:=(s2.trans s3).trans s4;have h2:=h1.same Jr;have DH:=OJ.same B1 Jr;have B2:=B1.same Jr;clear h1 OJ B1 s2 s3 s4 Jr pD DT pL DR lp hD O3 JA qD;have OQ:Tb K G4:=h2.rd.at_.tb;refine hide λu1 e1=>?_;refine⟨_,rfl,λp1 cQ hp1 Hg WR=>?_⟩;have m1:ay G4 (upd (upd G4 cQ (.own p1)) p1 (.ins (af K "Stairs") cQ [])):=λx o e=>by rw[Zc (Ze e hp1),Zc (Ze e Hg)];exact e
 have hp2:=Za (H:=upd G4 cQ (.own p1)) (a:=p1) (o:=.ins (af K "Stairs") cQ []);have CK:∀x,upd (upd G4 cQ (.own p1)) p1 (.ins (af K "Stairs") cQ []) x=none->G4 x=none:=λx e=>m1.free e;generalize upd (upd G4 cQ (.own p1)) p1 (.ins (af K "Stairs") cQ [])=G5 at *;refine⟨p1,cQ,p2,tp,g.size,g.kind,eE,g.aO,rfl,hp2,m1 _ _ DH.pl,DH.pa.same m1,wf.l4,OQ.same m1,λA1 uJ G6 QA UC F1 k1=>⟨rfl,λiC zv=>⟨_,_,rfl,?_⟩⟩⟩;subst e1;try dsimp only
 have m2:ay G4 G6:=λx o e=>k1 x o (m1 _ _ e) (Ze e hp1);have P7:∀x,OW A1 uJ x->G4 x=none:=λx h=>by
  by_cases z:x=p1
  .rw [z];exact hp1
  .exact CK x (F1 x h z)
 have R1:=UC g.U wf;have s5:=Zg zv (.dK []);have HA:=Za (H:=G6) (a:=iC) (o:=.dK []);rw[show V.ref p1=V.ref A1.p by rw[QA]];generalize upd G6 iC (.dK [])=G7 at *;have Jq:=m2.trans s5;have Hj:∀x,Ow A1 uJ iC x->G4 x=none:=λx z=>by
  rcases z with z|z
  .exact P7 x z
  .rw [z];exact m2.free zv
 have w2:W2 K H G7 b lo p2 tp eE ns g (A.re e') bO st1 bd bk m A1 uJ (uA g.n) iC (λ_=>0) 0:=by
  refine⟨h2.same Jq,⟨⟨R1.same s5,λ_=>R8⟩,oX.1,oX.2,⟨[],HA,⟨apX _,KI.nil⟩,λs=>rfl⟩,R1.fresh zv⟩,?_,λx z0 z1=>h2.ex z0 (Hj x z1)⟩;have w4:=DH.same B2 Jq;refine⟨w4.vq,w4.pl,w4.pa,w4.kp,λx z=>?_,⟨λz=>?_,λz=>?_⟩,oH⟩
  .rcases z with(z|z)|z
   .exact w4.nw x (.inl z)
   .exact DH.new B2 (Hj x z)
   .exact w4.nw x (.inr z)
  .rcases z with z|z
   .exact w4.of.1 z
   .have z:=Hj b z;rw[B2.at']at z;cases z
  .rcases z with z|z
   .exact w4.of.2 z
   .have z:=Hj lo z;rw[DH.vq]at z;cases z
 have B7:=B2.same Jq;have Ei:(A.re e').p=A.p:=rfl;rw[<-Ei];clear Ei h2 DH B2 OQ m1 hp2 CK UC F1 k1 m2 P7 R1 s5 HA Jq Hj QA zv hp1 Hg WR;generalize A.re e'=AA at *;refine hide λu1 e1=>?_;refine⟨_,rfl,b,a',q,c',30,150,rfl,B7,by lia,by decide,by decide,by decide,λmk a4 c4 H9 mk0 mk1 B9 hc4 t4=>⟨_,rfl,by lia,by lia,EF (lo:=0) (n:=mk.toNat) (λi σ G=>∃(v5 v8 v9 v10:Option V)(B0 B1:TA)(gQ bO:OS)(t0 t1:ak)(rD qN:Int->Int)(a' c':Int),σ=[some (.ref b),some (.ref p2),some (.ref lo),some (.ref AA.p),some (.ref bd),v5,some (.ref A1.p),some (.ref iC),v8,v9,v10]/\B0.p=AA.p/\B1.p=A1.p/\W2 K H G b lo p2 tp eE ns g B0 gQ t0 bd rD (m+i) B1 bO t1 iC qN i/\Sm t0 t1/\aD G b a' q c'/\c'<=c4+12*(i:Int))
  ⟨_,_,_,_,AA,A1,bO,uJ,_,_,_,_,a4,c4,rfl,rfl,rfl,w2.sb B7 t4,V2,B9,by lia⟩ ?_ ?_⟩⟩
 .rintro i σ G hi ⟨v5,v8,v9,v10,A0,A1,gQ,bO,t0,t1,rD,qN,a',c',rfl,MX,Ei,w,sm,B',hc'⟩;refine gN ?_;refine AZ λD' Hl=>?_;try dsimp only
  rw[<-MX,<-Ei]at Hl ⊢;refine hide λu1 e1=>?_;refine⟨_,rfl,_,rfl,p2,_,_,_,rfl,rfl,aX.of w.wb.pl,dF,_,rfl,b,lo,a',q,c',g.size,ns,rfl,B',oH,by lia,z0,z1,w.wb.vq,by lia,Pk,Ga,λt d a5 c5 G1 et Wn iU B5 hc5 s5=>gN ?_⟩;subst e1;try dsimp only
  have w:=w.sb B' s5;have bU:d.sp/g.size∈g.U:=by rw[gU];exact iU
  refine hide λu1 e1=>?_;refine⟨_,rfl,_,rfl,_,rfl,A0,g,t0,gQ,t,bd,d,rD,rD,m+i,rfl,w.h0.rd,et,bU,w.h0.ok,w.h0.fx,w.h0.eb,λs=>rfl,by lia,w.h0.nb,λG2 oZ iB OP MS R2 Hw LX ne1 M9 LG MO Fb Cj=>?_⟩;have kp:=w.h0.JN Fb;obtain⟨w2,B6⟩:=w.mv B5 ⟨R2,LG,MO,M9,λz=>(Fb.fr bd z).elim w.h0.nb λz=>w.h0.ex (.inr rfl) z⟩ kp;have Ys:=kp.1 t _ et λ_=>id;refine⟨_,rfl,_,rfl,_,rfl,A1,g,t1,bO,t,iC,d,qN,qN,i,rfl,w2.h1.rd,Ys,bU,w2.h1.ok,w2.h1.fx,w2.h1.eb,λs=>rfl,by lia,w2.h1.nb,λG3 QH qq Jj Hx R3 Eh l3' ne3 YN Wo Yl DM Xa=>⟨_,_,rfl,?_⟩⟩;have JO:=w2.h1.JN DM;obtain⟨w3,B7⟩:=w2.swap.mv B6 ⟨R3,Wo,Yl,YN,λz=>(DM.fr iC z).elim w2.h1.nb λz=>w2.h1.ex (.inr rfl) z⟩ JO;have w3:=w3.swap;have A5:=JO.1 _ _ MS λ_=>id;have Cc:¬Ow A1 bO iC A0.ev:=w.sep _ (.inl (.inl (by unfold Bs;simp)));have CM:rB g.n G3 A0.ev (cI g d t0).ev:=rB.frame Hw (λo e=>JO.1 _ _ e λz=>absurd z Cc) λx ys e=>JO.1 _ _ e λ_=>id;have Ln:=ZkX (d:=d) w.h0.ok.len sm;rw[<-Ln.ev]at Eh;subst e1;try dsimp only
  refine⟨_,rfl,OP,_,_,_,rfl,rfl,aX.of A5,dF,_,rfl,cz rfl ⟨_,rfl,Jj,_,_,_,rfl,rfl,aX.of Hx,dF,_,rfl,cz rfl ⟨_,rfl,OP,_,_,_,rfl,rfl,aX.of A5,ig,_,rfl,Jj,_,_,_,rfl,rfl,aX.of Hx,ig,_,_,rfl,RB CM Eh (by lia),λG4 s4=>⟨_,rfl,cz rfl ?_⟩⟩⟩⟩;have w4:=w3.same B7 s4;have B8:=B7.same s4;refine⟨_,rfl,_,rfl,_,rfl,A0.re oZ,A1.re QH,g,_,_,iB,qq,0,0,p2,tp,eE,rfl,w4.h0.rd.at_,w4.h1.rd.at_,Ln.ly,w4.wb.pl,w4.wb.pa,K2,λG5 s5=>⟨_,rfl,cz rfl ?_⟩⟩;dsimp only[eN];exact Hl _ _ ⟨_,_,_,_,A0.re oZ,A1.re QH,iB,qq,_,_,_,_,a5,c5,rfl,rfl,rfl,w4.same B8 s5,Ln.ly,B8.same s5,by lia⟩
 rintro σ G ⟨v5,v8,v9,v10,B0,B1,gQ,iB,t0,t1,rD,qN,a5,c5,rfl,MX,Ei,w,sm,B',hc'⟩;subst e1;try dsimp only
 rw[<-MX,<-Ei];have m3:m+mk.toNat<=900/\mk.toNat<=900:=by lia
 generalize m+mk.toNat=ma at *;generalize mk.toNat=mb at *;obtain⟨cQ,JA⟩:=w.h0.rd.at_.ob;refine hide λu1 e1=>?_;refine⟨_,rfl,B0.p,cQ,_,rfl,JA,aq ..,B0,g,t0,gQ,rfl,w.h0.rd.at_,uL,λG1 oZ uJ R1 Hw LX ne1 p1=>?_⟩;have Gs:=w.h0.LZ p1;obtain⟨o1,f1⟩:=Ik hs w.h0.ok w.h0.fx (apX _);obtain⟨o2,f2⟩:=Nx o1 f1;have qD:=λs=>Ny hs w.h0.ok w.h0.fx s;have Xj:(bf g t0 g.n).ev.length<=1000:=by
  have l4:=wf.l4;have q:=RZ (g:=g) (st:=t0) (m:=21) l4 w.h0.ok.len (λk hk=>alM (w.h0.rd.at_.Po hk) K2) (apX _);have e0:t0.ev=[]:=List.length_eq_zero_iff.mp (Nat.le_zero.mp w.h0.rd.at_.yj);rw[e0]at q;have:6*21*g.n<=6*21*4:=Nat.mul_le_mul_left _ l4;simp only[length_nil]at q;lia
 obtain⟨w2,B2⟩:=w.mv B' ⟨⟨R1,λ_=>N7 w.h0.ok.len⟩,o2,f2,w.h0.eb.frame λo e=>(p1.out e w.h0.nb).1,λz=>(p1.fr bd z).elim w.h0.nb λz=>w.h0.ex (.inr rfl) z⟩ Gs;obtain⟨jq,WE⟩:=w2.h1.rd.at_.ob;refine⟨_,rfl,B1.p,jq,_,rfl,WE,aq ..,B1,g,t1,iB,rfl,w2.h1.rd.at_,uL,λG2 uN LF R2 Qz l2' ne2 LB=>?_⟩;have L0:=w2.h1.LZ LB;obtain⟨o3,f3⟩:=Ik hs w2.h1.ok w2.h1.fx (apX _);obtain⟨o4,f4⟩:=Nx o3 f3;have Ci:=λs=>Ny hs w2.h1.ok w2.h1.fx s;obtain⟨w3,B3⟩:=w2.swap.mv B2 ⟨⟨R2,λ_=>N7 w2.h1.ok.len⟩,o4,f4,w2.h1.eb.frame λo e=>(LB.out e w2.h1.nb).1,λz=>(LB.fr iC z).elim w2.h1.nb λz=>w2.h1.ex (.inr rfl) z⟩ L0;have w3:=w3.swap;have Cc:¬Ow B1 iB iC B0.ev:=w.sep _ (.inl (.inl (by unfold Bs;simp)));have CM:rB g.n G2 B0.ev (bf g t0 g.n).ev:=rB.frame Hw (λo e=>L0.1 _ _ e λz=>absurd z Cc) λx ys e=>L0.1 _ _ e λ_=>id;rw[<-(RC sm).ev]at Qz;refine⟨_,_,rfl,RB CM Qz Xj,λG3 s3=>⟨_,rfl,cz rfl ?_⟩⟩;subst e1;try dsimp only
 dsimp only[eN];have w4:=w3.same B3 s3;have B4:=B3.same s3;obtain⟨zE,WD⟩:=w4.h0.rd.at_.ob;refine⟨_,rfl,B0.p,zE,_,rfl,WD,aq ..,B0.re oZ,g,_,uJ,0,rfl,w4.h0.rd.at_,λD ps G4 hD s5 pD pL=>?_⟩;have w5:=w4.same B4 s5;have B5:=B4.same s5;refine⟨_,rfl,bd,rD,_,rfl,w5.h0.eb,m3.1,λD2 ps2 G5 s6 DT DR lp=>?_⟩;have Hy:ps=ps2:=(pL.congr qD).uniq DR;subst Hy;refine⟨_,_,rfl,(pD.same s6).eqv DT lp,λG6 s7=>⟨_,rfl,d8 rfl ?_⟩⟩;have w6:=(w5.same B5 s6).same (B5.same s6) s7;have B6:=(B5.same s6).same s7;obtain⟨CP,WC⟩:=w6.h1.rd.at_.ob;refine⟨_,rfl,B1.p,CP,_,rfl,WC,aq ..,B1.re uN,g,_,LF,0,rfl,w6.h1.rd.at_,λD ps G7 hD s8 pD pL=>?_⟩;have w7:=w6.same B6 s8;have B7:=B6.same s8;refine⟨_,rfl,iC,qN,_,rfl,w7.h1.eb,m3.2,λD2 ps2 G8 s9 DT DR lp=>?_⟩;have Hy:ps=ps2:=(pL.congr Ci).uniq DR;subst Hy;exact⟨_,_,rfl,(pD.same s9).eqv DT lp,λG9 BF=>k _ ((w7.same B7 s9).same (B7.same s9) BF).wb.kp⟩
inductive p8(K:W.Frag)(vs:List V)(H:Hp)(Q:VK)(E:XK):Prop
 |mk (a:Addr) (ns:List Int):vs=[.ref a]->aB K H a (ns.map V.int)->ns.length<=63->Tb K H->(∀H',Q (.bl true) H')->p8 K vs H Q E
example:(BU zd GJ GD GB):=by
 obtain ⟨a,ns,rfl,hS,h63,tb,k⟩:=h;refine⟨_,(Zd (cK 1 nd (Zm GD hr.m rfl (pc (pv 0) (pc Zi Zb))))
   (Zh (Zp (Zs (TR rfl) rfl T.JR Sy (pc (Dc (ZZ (mh:=(Zr gF)) (oN:=IL) (N:=["_law_k","_law_cells"]) (own:=1) (js:=[1]) (by decide +kernel) rfl rfl) rfl (ZY rfl T.rR (pc (Zs (T6 rfl) rfl T.JQ Sx (pc Zi (pc (Zs (ZG (K:=K) rfl) rfl T.zj aMZ (pc (pv 1) Zb)) Zb))) Zb)) (λ_ _ _ _ _ _=>(bY 0 (show List.Nodup (["_law_k","_law_cells"]:List Str) by decide +kernel))) (λ_ _ _ _ _ _=>(Zm GB hr.m rfl (pc (Zm GJ hr.m rfl (pc (pv 1) (pc (pv 0) Zb))) Zb)))) Zb))))),?_⟩
 refine⟨_,rfl,a,ns,2,rfl,hS,h63,by decide,by decide,λr ms H1 hr' s1 e1 lm=>?_⟩;have lc:(if((ms.map V.int).length:Int)>1 then((ms.map V.int).length:Int) else 1)<=63:=by rw[aW8];split <;> lia
 refine⟨_,rfl,r,_,rfl,.inl (aB.of e1),_,_,rfl,_,rfl,?_,?_,λl hl'=>?_⟩
 .split <;> lia
 .lia
 generalize(if((ms.map V.int).length:Int)>1 then((ms.map V.int).length:Int) else 1)=n at *;have W5:n.toNat<=63:=by lia
 have O7:r≠l:=Ze e1 hl';have OR:=tb.same s1;have DV:tabOf K "Room" "going" ≠l:=Ze OR hl';refine KZ (lo:=0) (n:=n.toNat) (l:=l) (λj ys σ G=>∃v0:Option V,σ=[v0,some (.ref r)]/\ys=(List.replicate j true).map V.bl/\G l=some (.lst ys)/\G r=some (.lst (ms.map V.int))/\Tb K G)
  ⟨none,rfl,rfl,Za,by rw[Zc O7];exact e1,by unfold Tb;rw[Zc DV];exact OR⟩ ?_ ?_
 .rintro j ys σ G hj hy ⟨v0,rfl,rfl,g1,g2,g3⟩;refine⟨_,rfl,_,rfl,r,ms,_,rfl,aB.of g2,by lia,by lia,λb ba bq G1 hb t1 B1=>?_⟩;refine⟨b,ba,bq,rfl,B1,g3.same t1,λG2 t2=>?_⟩;have oH:l≠b:=Ze g1 hb;have WM:r≠b:=Ze g2 hb;have LJ:tabOf K "Room" "going" ≠b:=Ze g3 hb;refine rC.of (alM W5 (by decide)) hj hy (t2 _ _ oH (t1 _ _ g1)) ⟨_,rfl,by rw[aBB,aK6];rfl,Za,?_,?_⟩
  .rw [Zc O7];exact t2 _ _ WM (t1 _ _ g2)
  .unfold Tb;rw[Zc DV];exact t2 _ _ LJ (t1 _ _ g3)
 .rintro ys σ G hy ⟨v0,rfl,rfl,g1,g2,g3⟩;refine⟨l,_,rfl,aB.of g1,?_⟩;rw[show(List.replicate n.toNat true).all id=true by rw[aTK];intro z hz;rw[(aLs.mp hz).2];rfl];exact k G
theorem nC{us:List Value}{n:Nat}(h:us.length=n+1):∃v r,us=v ::r/\r.length=n:=by
 cases us with
 |nil=>cases h
 |cons v r=>exact⟨v,r,rfl,Nat.succ.inj h⟩
theorem JM{fn:Value->Value->Value->Option Addr->Value->Value->FuncData}{ps:List Str}(h:∀a b c d e f v0,bindArgs (fn a b c d e f) ⟨[v0],[]⟩=pure (ps.zip [v0]))(hp:ps.length=1:=by rfl)(a b c:Value)(d:Option Addr)(e f:Value)(us:List Value)(hl:us.length=ps.length):bindArgs (fn a b c d e f) ⟨us,[]⟩=pure (ps.zip us):=by
 rw[hp]at hl;obtain⟨v0,r0,rfl,q0⟩:=nC hl;cases aiA q0;exact h a b c d e f v0
theorem ln2{fn:Value->Value->Value->Option Addr->Value->Value->FuncData}{ps:List Str}(h:∀a b c d e f v0 v1,bindArgs (fn a b c d e f) ⟨[v0,v1],[]⟩=pure (ps.zip [v0,v1]))(hp:ps.length=2:=by rfl)(a b c:Value)(d:Option Addr)(e f:Value)(us:List Value)(hl:us.length=ps.length):bindArgs (fn a b c d e f) ⟨us,[]⟩=pure (ps.zip us):=by
 rw[hp]at hl;obtain⟨v0,r0,rfl,q0⟩:=nC hl;obtain⟨v1,r1,rfl,q1⟩:=nC q0;cases aiA q1;exact h a b c d e f v0 v1
theorem DY{fn:Value->Value->Value->Option Addr->Value->Value->FuncData}{ps:List Str}(h:∀a b c d e f v0 v1 v2,bindArgs (fn a b c d e f) ⟨[v0,v1,v2],[]⟩=pure (ps.zip [v0,v1,v2]))(hp:ps.length=3:=by rfl)(a b c:Value)(d:Option Addr)(e f:Value)(us:List Value)(hl:us.length=ps.length):bindArgs (fn a b c d e f) ⟨us,[]⟩=pure (ps.zip us):=by
 rw[hp]at hl;obtain⟨v0,r0,rfl,q0⟩:=nC hl;obtain⟨v1,r1,rfl,q1⟩:=nC q0;obtain⟨v2,r2,rfl,q2⟩:=nC q1;cases aiA q2;exact h a b c d e f v0 v1 v2
theorem LV{fn:Value->Value->Value->Option Addr->Value->Value->FuncData}{ps:List Str}(h:∀a b c d e f v0 v1 v2 v3,bindArgs (fn a b c d e f) ⟨[v0,v1,v2,v3],[]⟩=pure (ps.zip [v0,v1,v2,v3]))(hp:ps.length=4:=by rfl)(a b c:Value)(d:Option Addr)(e f:Value)(us:List Value)(hl:us.length=ps.length):bindArgs (fn a b c d e f) ⟨us,[]⟩=pure (ps.zip us):=by
 rw[hp]at hl;obtain⟨v0,r0,rfl,q0⟩:=nC hl;obtain⟨v1,r1,rfl,q1⟩:=nC q0;obtain⟨v2,r2,rfl,q2⟩:=nC q1;obtain⟨v3,r3,rfl,q3⟩:=nC q2;cases aiA q3;exact h a b c d e f v0 v1 v2 v3
theorem JL{fn:Value->Value->Value->Option Addr->Value->Value->FuncData}{ps:List Str}(h:∀a b c d e f v0 v1 v2 v3 v4,bindArgs (fn a b c d e f) ⟨[v0,v1,v2,v3,v4],[]⟩=pure (ps.zip [v0,v1,v2,v3,v4]))(hp:ps.length=5:=by rfl)(a b c:Value)(d:Option Addr)(e f:Value)(us:List Value)(hl:us.length=ps.length):bindArgs (fn a b c d e f) ⟨us,[]⟩=pure (ps.zip us):=by
 rw[hp]at hl;obtain⟨v0,r0,rfl,q0⟩:=nC hl;obtain⟨v1,r1,rfl,q1⟩:=nC q0;obtain⟨v2,r2,rfl,q2⟩:=nC q1;obtain⟨v3,r3,rfl,q3⟩:=nC q2;obtain⟨v4,r4,rfl,q4⟩:=nC q3;cases aiA q4;exact h a b c d e f v0 v1 v2 v3 v4
def nS(K:W.Frag)(nm:Str)(st:Stmt):Prop:=∃(f:Addr)(od an:Option Addr)(sl:Array (Option Value))(oc kV dc pm cd ct:Value),W.nsIn K mainGlobals nm=some (some (.ref f))/\K.lookup f=some ⟨oc,od,.func (W.fnOf nm nm (ZM st) (ZE st) (Zr st) .none kV dc pm an cd ct),sl⟩/\W.codeIn K cd nm=true/\W.keepIn K (.ref f)=true
def bP(K:W.Frag)(Ca:Addr)(nm q:Str)(st:Stmt):Prop:=∃(f:Addr)(od an:Option Addr)(sl:Array (Option Value))(oc kV dc pm cd ct:Value),W.findIn K (.ref Ca) nm=some (some (.ref f))/\W.isFn K (.ref f)=true/\K.lookup f=some ⟨oc,od,.func (W.fnOf nm q (ZM st) (ZE st) (Zr st) .none kV dc pm an cd ct),sl⟩/\W.codeIn K cd q=true/\W.keepIn K (.ref f)=true
theorem nS.mk{K:W.Frag}{nm:Str}{st:Stmt}{f:Addr}{od an:Option Addr}{sl:Array (Option Value)}{oc kV dc pm cd ct:Value}(a:W.nsIn K mainGlobals nm=some (some (.ref f)))(l:K.lookup f=some ⟨oc,od,.func (W.fnOf nm nm (ZM st) (ZE st) (Zr st) .none kV dc pm an cd ct),sl⟩)(c:W.codeIn K cd nm=true)(k:W.keepIn K (.ref f)=true):nS K nm st:=⟨_,_,_,_,_,_,_,_,_,_,a,l,c,k⟩
theorem bP.mk{K:W.Frag}{Ca:Addr}{nm q:Str}{st:Stmt}{f:Addr}{od an:Option Addr}{sl:Array (Option Value)}{oc kV dc pm cd ct:Value}(a:W.findIn K (.ref Ca) nm=some (some (.ref f)))(i:W.isFn K (.ref f)=true)(l:K.lookup f=some ⟨oc,od,.func (W.fnOf nm q (ZM st) (ZE st) (Zr st) .none kV dc pm an cd ct),sl⟩)(c:W.codeIn K cd q=true)(k:W.keepIn K (.ref f)=true):bP K Ca nm q st:=⟨_,_,_,_,_,_,_,_,_,_,a,i,l,c,k⟩
def IX(P:Program)(w:World)(K:W.Frag)(mg:Str->Option Value)(base:Heap):Prop:=∃h,K.In h/\h.Ns mainGlobals mg
section
variable{P:Program}{w:World}{K:W.Frag}{mg:Str->Option Value}{base:Heap}{Ca:Addr}{nm q:Str}{st:Stmt}{n:Nat}{ps:List Str}{sp:Sp}(B:IX P w K mg base)
include B
theorem IX.df(x:nS K nm st)(ok:∀{f fd},rH K nm nm st f fd->b9 P w K mg base nR n f fd ps sp)(hb:∀(kV dc pm:Value)(an:Option Addr)(cd ct:Value)(us:List Value),us.length=ps.length->bindArgs (W.fnOf nm nm (ZM st) (ZE st) (Zr st) .none kV dc pm an cd ct) ⟨us,[]⟩=pure (ps.zip us):=by first|exact JM λ_ _ _ _ _ _ _=>rfl|exact ln2 λ_ _ _ _ _ _ _ _=>rfl|exact DY λ_ _ _ _ _ _ _ _ _=>rfl|exact LV λ_ _ _ _ _ _ _ _ _ _=>rfl|exact JL λ_ _ _ _ _ _ _ _ _ _ _=>rfl):Def P w K mg base nm n ps sp:=by
 obtain⟨f,od,an,sl,oc,kV,dc,pm,cd,ct,a,l,c,k⟩:=x;obtain⟨h,X,G⟩:=B;have F:=Bh l c k;exact⟨_,_,ok F,W.mg_of X G a,F.kp,F.binds hb⟩
theorem IX.md(x:bP K Ca nm q st)(ok:∀{f fd},rH K nm q st f fd->b9 P w K mg base nR n f fd ps sp)(hb:∀(kV dc pm:Value)(an:Option Addr)(cd ct:Value)(us:List Value),us.length=ps.length->bindArgs (W.fnOf nm q (ZM st) (ZE st) (Zr st) .none kV dc pm an cd ct) ⟨us,[]⟩=pure (ps.zip us):=by first|exact JM λ_ _ _ _ _ _ _=>rfl|exact ln2 λ_ _ _ _ _ _ _ _=>rfl|exact DY λ_ _ _ _ _ _ _ _ _=>rfl|exact LV λ_ _ _ _ _ _ _ _ _ _=>rfl|exact JL λ_ _ _ _ _ _ _ _ _ _ _=>rfl):d7 P w K mg base Ca nm n ps sp:=by
 obtain⟨f,od,an,sl,oc,kV,dc,pm,cd,ct,a,i,l,c,k⟩:=x;have F:=Bh l c k;exact⟨_,_,ok F,⟨a,i,k⟩,F.binds hb⟩
theorem IX.kd{y:Str}(x:bP K Ca "__init__" q st)(mk:W.makesIn K Ca=true)(kc:W.keepIn K (.ref Ca)=true)(aC:W.nsIn K mainGlobals y=some (some (.ref Ca)))(ok:∀{f fd},rH K "__init__" q st f fd->b9 P w K mg base nR n f fd ps sp)(hb:∀(kV dc pm:Value)(an:Option Addr)(cd ct:Value)(us:List Value),us.length=ps.length->bindArgs (W.fnOf "__init__" q (ZM st) (ZE st) (Zr st) .none kV dc pm an cd ct) ⟨us,[]⟩=pure (ps.zip us):=by first|exact JM λ_ _ _ _ _ _ _=>rfl|exact ln2 λ_ _ _ _ _ _ _ _=>rfl|exact DY λ_ _ _ _ _ _ _ _ _=>rfl|exact LV λ_ _ _ _ _ _ _ _ _ _=>rfl|exact JL λ_ _ _ _ _ _ _ _ _ _ _=>rfl):DA P w K mg base Ca y n ps sp:=by
 obtain⟨f,od,an,sl,oc,kV,dc,pm,cd,ct,a,i,l,c,k⟩:=x;obtain⟨h,X,G⟩:=B;have F:=Bh l c k;exact⟨_,_,ok F,⟨mk,a,i,kc⟩,W.mg_of X G aC,F.binds hb⟩
end
theorem YZ{l:W.OpenLaw}{w:World}{K:W.Frag}{h:Heap}{mg:Str->Option Value}{fa:Addr}{tp cg:Addr}(X:K.In h)(G:h.Ns mainGlobals mg)(XT:mg "law"=some (.ref fa))
  {aN:Addr} (xO:W.nsIn K mainGlobals "Room"=some (some (.ref aN)))
  {aJ:Addr} (uq:W.nsIn K mainGlobals "Store"=some (some (.ref aJ)))
  {aV:Addr} (qQ:W.nsIn K mainGlobals "Memory"=some (some (.ref aV)))
  {ai:Addr} (qP:W.nsIn K mainGlobals "Stairs"=some (some (.ref ai)))
  {j6:Addr} (ur:W.nsIn K mainGlobals "Steps"=some (some (.ref j6)))
  (x0:nS K "_law_take" wo)
  (x1:nS K "_law_box" Ax)
  (x2:nS K "_law_folded" qk)
  (x3:nS K "_law_some_boards" cS)
  (a4:W.nsIn K mainGlobals "_law_same"=some (some (.ref f4))) (l4:K.lookup f4=some ⟨oc4,od4,.func (W.fnOf "_law_same" "_law_same" (ZM s_same) (ZE s_same) (Zr s_same) .none kV4 dc4 AM an4 YI ct4),sl4⟩) (c4:W.codeIn K YI "_law_same"=true) (k4:W.keepIn K (.ref f4)=true)
  (x5:nS K "shelf_of" kI)
  (x6:bP K aN "has" "Room.has" kL)
  (x7:bP K aN "mates" "Room.mates" gK)
  (x8:bP K aN "need" "Room.need" ji)
  (a9:W.findIn K (.ref aN) "going"=some (some (.ref f9))) (i9:W.isFn K (.ref f9)=true) (l9:K.lookup f9=some ⟨oc9,od9,.func (W.fnOf "going" "Room.going" (ZM aP) (ZE aP) (Zr aP) .none kV9 dc9 pm9 an9 (.ref cg) ct9),sl9⟩) (c9:W.codeIn K (.ref cg) "Room.going"=true) (k9:W.keepIn K (.ref f9)=true)
  (VR:bP K aN "drop" "Room.drop" jj)
  (VQ:bP K aN "use" "Room.use" kK)
  (VP:bP K aN "__init__" "Room.__init__" fm)
  (VO:bP K aN "leaver_for" "Room.leaver_for" cJ)
  (VN:bP K aN "bring" "Room.bring" gM)
  (VM:bP K aJ "__init__" "Store.__init__" gG)
  (VL:bP K aJ "has" "Store.has" jg)
  (VJ:bP K aJ "lay" "Store.lay" je)
  (VI:bP K aJ "take_in" "Store.take_in" dI)
  (VH:bP K aJ "give_out" "Store.give_out" cY)
  (VG:bP K aJ "words_of" "Store.words_of" cW)
  (VF:bP K aJ "lay_word" "Store.lay_word" cX)
  (VE:bP K aJ "freshen" "Store.freshen" dJ)
  (VD:nS K "board_of" kJ)
  (VC:nS K "spots_of" kH)
  (VB:bP K aV "__init__" "Memory.__init__" fX)
  (VA:bP K aV "words_of" "Memory.words_of" bK)
  (Vz:bP K aV "lay" "Memory.lay" gO)
  (Vy:bP K ai "store" "Steps.store" fT)
  (Vx:bP K ai "words" "Steps.words" fS)
  (Vv:bP K ai "happened" "Steps.happened" c6)
  (Vu:bP K ai "leaver" "Steps.leaver" eZ)
  (Vt:bP K ai "tell_found" "Steps.tell_found" ck)
  (Vs:bP K ai "use_in" "Steps.use_in" eX)
  (Vr:bP K ai "come_in" "Steps.come_in" dN)
  (Vq:bP K ai "go_out" "Steps.go_out" e8)
  (Vp:bP K ai "put" "Steps.put" jh)
  (Vo:bP K ai "word_in" "Steps.word_in" dM)
  (Vn:bP K ai "put_word" "Steps.put_word" cZ)
  (Yj:W.specialIn K (.ref j6) "__getattribute__"=some (some (.builtin "type.__getattribute__"))) (Wh:W.readsIn K j6 (.type "type")=true) (YU:W.findCls K (.ref j6) (.type "type") "__init__"=some (.val (.ref Qu))) (Xm:K.lookup Qu=some ⟨Wy,Wu,.func (W.fnOf "__init__" "Steps.__init__" (ZM bC) (ZE bC) (Zr bC) .none Xq YF Wk YR M8 YH),V6⟩) (YL:W.codeIn K M8 "Steps.__init__"=true) (Pr:W.keepIn K (.ref Qu)=true)
  (Vm:bP K ai "__init__" "Stairs.__init__" fV)
  (Vl:bP K ai "nearest" "Stairs.nearest" dg)
  (Vk:bP K ai "go_on" "Stairs.go_on" fj)
  (Vj:bP K ai "change" "Stairs.change" dP)
  (Vi:bP K ai "drive_out" "Stairs.drive_out" cu)
  (Vh:bP K ai "fetch_down" "Stairs.fetch_down" bW)
  (Vg:bP K ai "come_apart" "Stairs.come_apart" bX)
  (YT:W.findIn K (.ref ai) "push"=some (some (.ref MP))) (Xy:W.isFn K (.ref MP)=true) (Xl:K.lookup MP=some ⟨Wx,Wt,.func (W.fnOf "push" "Stairs.push" (ZM bg) (ZE bg) (Zr bg) .none Xp YE Wj YQ M7 YG),V5⟩) (YK:W.codeIn K M7 "Stairs.push"=true) (Pq:W.keepIn K (.ref MP)=true)
  (Vf:bP K ai "fetch_apart" "Stairs.fetch_apart" bQ)
  (Ve:bP K ai "fetch" "Stairs.fetch" fk)
  (Vd:bP K ai "read" "Stairs.read" fU)
  (Vc:bP K ai "write" "Stairs.write" fc)
  (Vb:nS K "_law_room_plan" jd)
  (Va:nS K "_law_plan" rP)
  (U9:nS K "_law_many" wu)
  (U8:nS K "_law_word" wk)
  (U7:nS K "_law_deed" wz)
  (U6:bP K aN "boards" "Room.boards" fW)
  (U5:bP K ai "lies" "Steps.lies" gH)
  (U4:bP K ai "emptied" "Stairs.emptied" dw)
  (U3:bP K aV "pairs" "Memory.pairs" fq)
  (U0:bP K ai "memory" "Steps.memory" eY)
  (UZ:nS K "_law_told" wm)
  (UY:bP K aN "shelf" "Room.shelf" gJ)
  (UX:bP K ai "order" "Stairs.order" fh)
  (UW:bP K ai "changed" "Steps.changed" dO)
  (UU:nS K "_law_like" rQ)
  (UT:nS K "_law_pairs" om)
  (US:nS K "_law_right" tT)
  (YS:W.nsIn K mainGlobals "law"=some (some (.ref Qt))) (Xk:K.lookup Qt=some ⟨Ww,Ws,.func (W.fnOf "law" "law" (ZM gF) (ZE gF) (Zr gF) .none L3 MY Ly Nc HE M4),V4⟩) (YJ:W.codeIn K HE "law"=true) (Xr:W.keepIn K (.ref Qt)=true)
  (JS:W.nsIn K mainGlobals "abs"=some none)
  (JR:W.nsIn K mainGlobals "all"=some none)
  (JT:W.nsIn K mainGlobals "bool"=some none)
  (Me:W.nsIn K mainGlobals "divmod"=some none)
  (E3:W.nsIn K mainGlobals "enumerate"=some none)
  (D9:W.nsIn K mainGlobals "int"=some none)
  (vg:W.nsIn K mainGlobals "isinstance"=some none)
  (zj:W.nsIn K mainGlobals "len"=some none)
  (vG:W.nsIn K mainGlobals "list"=some none)
  (JQ:W.nsIn K mainGlobals "max"=some none)
  (Mc:W.nsIn K mainGlobals "min"=some none)
  (rR:W.nsIn K mainGlobals "range"=some none)
  (K6:W.nsIn K mainGlobals "set"=some none)
  (Aj:W.nsIn K mainGlobals "sorted"=some none)
  (GI:W.nsIn K mainGlobals "str"=some none)
  (GA:W.nsIn K mainGlobals "tuple"=some none)
  (JP:W.nsIn K mainGlobals "zip"=some none)
  (BR:W.plainGet K aN Str.empty=true) (CC:W.hasDictIn K aN=true) (BQ:W.plainOver K aN=true) (BE:W.findIn K (.ref aN) "__setattr__"=some (some (.builtin "object.__setattr__"))) (Ce:W.makesIn K aN=true) (Cp:W.keepIn K (.ref aN)=true)
  (oQ:W.findIn K (.ref aN) "places"=some none)
  (rT:W.findIn K (.ref aN) "rule"=some none)
  (mH:W.findIn K (.ref aN) "shelves"=some none)
  (k6:W.findIn K (.ref aN) "standing"=some none)
  (rS:W.findIn K (.ref aN) "uses"=some none)
  (yU:W.plainGet K aJ Str.empty=true) (zu:W.hasDictIn K aJ=true) (yT:W.plainOver K aJ=true) (yN:W.findIn K (.ref aJ) "__setattr__"=some (some (.builtin "object.__setattr__"))) (zg:W.makesIn K aJ=true) (zh:W.keepIn K (.ref aJ)=true)
  (oJ:W.findIn K (.ref aJ) "fresh"=some none)
  (qC:W.findIn K (.ref aJ) "held"=some none)
  (qB:W.findIn K (.ref aJ) "late"=some none)
  (qA:W.findIn K (.ref aJ) "room"=some none)
  (wN:W.plainGet K aV Str.empty=true) (xC:W.hasDictIn K aV=true) (wL:W.plainOver K aV=true) (wj:W.findIn K (.ref aV) "__setattr__"=some (some (.builtin "object.__setattr__"))) (wX:W.makesIn K aV=true) (xo:W.keepIn K (.ref aV)=true)
  (oS:W.findIn K (.ref aV) "kept"=some none)
  (oR:W.findIn K (.ref aV) "size"=some none)
  (wM:W.plainGet K ai Str.empty=true) (xB:W.hasDictIn K ai=true) (wK:W.plainOver K ai=true) (wg:W.findIn K (.ref ai) "__setattr__"=some (some (.builtin "object.__setattr__"))) (wW:W.makesIn K ai=true) (xj:W.keepIn K (.ref ai)=true)
  (kZ:W.findIn K (.ref ai) "bottom"=some none)
  (kY:W.findIn K (.ref ai) "events"=some none)
  (oO:W.findIn K (.ref ai) "kind"=some none)
  (oM:W.findIn K (.ref ai) "last"=some none)
  (oK:W.findIn K (.ref ai) "size"=some none)
  (kX:W.findIn K (.ref ai) "stores"=some none)
  (ch:W.codeHdIn K cg tp=true) (kt:K.lookup tp=none)
  :tabOf K "Room" "going"=tp/\(∃c0,W.codeHdIn K c0 tp=true)/\K.lookup tp=none/\∃fd:FuncData,(∀(s:Shared)(v:Value),BindsTo s fd ⟨[v],[]⟩ [("_law_script",v)])/\∀base:Heap,K.In base->base.Ns mainGlobals mg->BMod base mg->b9 l.prog w K mg base nR 19 fa fd uC (p8 K):=by
 have e:=XT.symm.trans (W.mg_of X G YS);cases e;have CI:=Io xO;subst CI;have zx:=Io uq;subst zx;have xF:=Io qQ;subst xF;have xE:=Io qP;subst xE;have zy:=Io ur;subst zy;have T:Txt K mg:=⟨ayh X G JS,ayh X G JR,ayh X G JT,ayh X G Me,ayh X G E3,ayh X G D9,ayh X G vg,ayh X G zj,ayh X G vG,ayh X G JQ,ayh X G Mc,ayh X G rR,ayh X G K6,ayh X G Aj,ayh X G GI,ayh X G GA,ayh X G JP,⟨BR,CC,BQ,BE⟩,oQ,rT,mH,k6,rS,⟨yU,zu,yT,yN⟩,oJ,qC,qB,qA,⟨wN,xC,wL,wj⟩,oS,oR,⟨wM,xB,wK,wg⟩,kZ,kY,oO,oM,oK,kX⟩;have F4:=Bh (st:=s_same) l4 c4 k4;have HQ:=F4.binds (ps:=gg) (ln2 λ_ _ _ _ _ _ _ _=>rfl);have F9:=Bh (st:=aP) l9 c9 k9;have HP:=F9.binds (ps:=b7) (ln2 λ_ _ _ _ _ _ _ _=>rfl);have UP:=Bh (st:=bC) Xm YL Pr;have HN:=UP.binds (ps:=bZ) (DY λ_ _ _ _ _ _ _ _ _=>rfl);have UO:=Bh (st:=bg) Xl YK Pq;have HM:=UO.binds (ps:=aR) (JL λ_ _ _ _ _ _ _ _ _ _ _=>rfl);have UN:=Bh (st:=gF) Xk YJ Xr;have QL:=UN.binds (ps:=uC) (JM λ_ _ _ _ _ _ _=>rfl);have tq:=Zjg a9 l9 rfl ch;refine⟨tq,⟨_,ch⟩,kt,?_⟩;refine⟨W.fnOf "law" "law" (ZM gF) (ZE gF) (Zr gF) .none L3 MY Ly Nc HE M4,λs v=>.of_eq rfl,λbase _ _ bm=>?_⟩;have B:IX l.prog w K mg base:=⟨_,X,G⟩;have cU:=B.df x0 (λF=>yY F T );have GJ:=B.df x1 (λF=>BV F T );have GD:=B.df x2 (λF=>uK F T );have EL:=B.df x3 (λF=>kN F T cU);have pP:=SS (P:=l.prog) (w:=w) (base:=base) F4 HQ (W.mg_of X G a4) T ;have GH:=B.df x5 (λF=>qu F T );have wJ:=B.md x6 (λF=>qx F T );have tY:=B.md x7 (λF=>mD F T GH);have wF:=B.md x8 (λF=>oE F T wJ);have Ai:d7 l.prog w K mg base (af K "Room") "going" 2 b7 (jX K):=⟨_,_,Zdu F9 rfl tq ch bm T ,⟨a9,i9,k9⟩,HP⟩;have Ah:=B.md VR (λF=>oG F T wF tY);have GG:=B.md VQ (λF=>qw F T wF tY);have Gz:=B.kd VP Ce Cp xO (λF=>oF F T );have AJ:=B.md VO (λF=>f7 F T tY Ai);have E9:=B.md VN (λF=>mF F T wJ AJ tY Ah);have GC:=B.kd VM zg zh uq (λF=>mj F T Gz);have wD:=B.md VL (λF=>oA F T wJ);have Ag:=B.md VJ (λF=>ow F T );have ET:=B.md VI (λF=>iJ F T E9 Ag);have EX:=B.md VH (λF=>gT F T Ah);have wI:=B.md VG (λF=>gR F T wF);have EW:=B.md VF (λF=>gS F T );have AI:=B.md VE (λF=>iK F T );have tX:=B.df VD (λF=>qv F T );have Af:=B.df VC (λF=>qt F T );have GF:=B.kd VB wX xo qQ (λF=>kW F T );have EY:=B.md VA (λF=>gb F T Af);have E8:=B.md Vz (λF=>mG F T Af);have tZ:=B.md Vy (λF=>kP F T );have AL:=B.md Vx (λF=>kO F T EY tZ wI);have wH:=B.md Vv (λF=>gW F T );have vj:=B.md Vu (λF=>jF F T AJ);have EZ:=B.md Vt (λF=>fN F T );have AF:=B.md Vs (λF=>jD F T GG);have AH:=B.md Vr (λF=>iM F T ET);have oq:=B.md Vq (λF=>jG F T EX);have uI:=B.md Vp (λF=>oB F T E8 Ag);have ES:=B.md Vo (λF=>iL F T wI tX);have EU:=B.md Vn (λF=>gV F T EW tX);have E6:DF l.prog w K mg base "Steps" "__init__" 5 bZ (jW K):=⟨_,_,_,mz UP T GC GF,⟨Yj,⟨_,Wh,YU⟩,Pr⟩,W.mg_of X G ur,HN⟩;have D8:=B.kd Vm wW xj qP (λF=>kT F T E6);have EV:=B.md Vl (λF=>gX F T wD);have wG:=B.md Vk (λF=>jJ F T wD uI AI);have AG:=B.md Vj (λF=>iO F T AI wG wI);have FP:=B.md Vi (λF=>fO F T oq wD wG);have FQ:=B.md Vh (λF=>fz F T AF AL vj FP AH);have AK:=B.md Vg (λF=>fB F T AH AG);have DJ:=Uz (P:=l.prog) (w:=w) (base:=base) UO HM ⟨YT,Xy,Pq⟩ T uI vj AK oq;have FT:=B.md Vf (λF=>dW F T AF AL oq DJ);have AE:=B.md Ve (λF=>jK F T EV EZ FT FQ);have EM:=B.md Vd (λF=>kR F T tX AE ES wH);have EO:=B.md Vc (λF=>jH F T tX AE EU AG wH);have E4:=B.df Vb (λF=>ou F T cU);have Gx:=B.df Va (λF=>yZ F T cU E4);have D6:=B.df U9 (λF=>y9 F T cU);have Gy:=B.df U8 (λF=>yW F T cU);have D7:=B.df U7 (λF=>ze F T cU Gy);have EN:=B.md U6 (λF=>kU F T );have yR:=B.md U5 (λF=>mw F T tZ EN);have BL:=B.md U4 (λF=>gY F T yR oq wG wH);have ER:=B.md U3 (λF=>jL F T );have BN:=B.md U0 (λF=>jE F T ER);have Cq:=B.df UZ (λF=>yX F T EM EO pP);have E7:=B.md UY (λF=>mC F T Ai);have DK:=B.md UX (λF=>jI F T tZ E7);have DL:=B.md UW (λF=>iN F T tZ);have Gw:=B.df UU (λF=>zc F T yR DL DK pP);have Cs:=B.df UT (λF=>wR F T );have GB:=B.df US (λF=>wQ F T Gx EL D7 D6 D8 Cq Gw BL BN Cs pP);exact BU UN T GJ GD GB
theorem walk{l:W.OpenLaw}{q:Program}{loose:List Str}{XP:(Str->Option Value)->Heap->Prop}{YP:World->Heap->Prop}{d:DefRec}{K:Params->W.Frag}{tp:Addr}(hn:l.most=some 63)(hdf:d.params.defaults=[])
  (hY:∀(w:World)(h:Heap),YP w h->(K w.params).In h/\h.get? tp=some { cls:=.none,data:=.fields #[] })
  (F:∀(w:World)(mg:Str->Option Value)(fa:Addr)(h:Heap),(K w.params).In h->h.Ns mainGlobals mg->mg d.name=some (.ref fa) ->
   tabOf (K w.params) "Room" "going"=tp/\(∃c0,W.codeHdIn (K w.params) c0 tp=true)/\(K w.params).lookup tp=none/\∃fd:FuncData,(∀(s:Shared)(u:Value),BindsTo s fd ⟨[u],[]⟩ [("_law_script",u)])/\∀base:Heap,(K w.params).In base->base.Ns mainGlobals mg->BMod base mg->b9 l.prog w (K w.params) mg base nR 19 fa fd uC (p8 (K w.params))) :
  W.WalkO q loose XP YP l.row.toRowW d [] (λf vs=>PySem.call f vs):=
 L2.Zjf (tp:=tp) (pos:=tpos) (qual:=vI) (G:=λw=>tabOf (K w.params) "Room" "going"=tp) (n:=63) (k:=19) (x:="_law_script") (CX:=λ_=>nR) (sp:=λw=>p8 (K w.params)) hn (by decide) hdf ⟨rfl,by decide,by decide,rfl⟩ hY F (λ_ _ a ns g hl hT hS=>⟨a,ns,rfl,hS,hl,(by unfold Tb;rw[g];exact hT),λ_=>rfl⟩) λ_ _ _ _ _ z=>z
end sI
namespace PySem.W.Fast
abbrev Q:=Nat
open Lean in
local macro_rules|`(command|#reduce 0)=>do
 let f:=λ(n:Name)=>`(command|def $(mkIdent (.mkSimple s!"tw{n.hash}")):ident:=Q)
 let mut r:=#[<-f `PySem.Challenge.pw_nearstairs_k65_whole_begun_anew]
 for (x,l) in[("o_",List.range' 43 835),("sts_",[49,92,107,122,137,152,243,245,331,380,585,587,781,864]),("tree_",[47,91,106,121,136,151,242,243,330,379,498,581,585,699,777,863,877]),("heap_",[39,46,878]),("env_",[41]),("view_",[39]),("thread_",[581,777])] do for i in l do r:=r.push (<-f (.str `PySem.Challenge.cw_nearstairs_k65_whole_begun_anew_holds s!"{x}{i}"))
 return mkNullNode r
#reduce 0
end PySem.W.Fast
open PySem PySem.W PyProof.Rows
set_option maxRecDepth 100000 in
set_option maxHeartbeats 0 in
theorem PySem.Challenge.cw_nearstairs_k65_whole_begun_anew_holds : PySem.Challenge.rw_nearstairs_k65_whole_begun_anew.Holds := by
 w_on;o_law;k_head;(case hw=>w_witness2)
 k_fill
 refine sI.walk (l:=PySem.Challenge.rw_nearstairs_k65_whole_begun_anew) rfl rfl (λw h Y=>⟨PySem.W.km_in_of Y,PySem.W.km_tabs_of Y _ mem_cons_self⟩) ?F
 case F=>
  intro w mg fa h KX G hmg;refine' sI.YZ KX G hmg ?_ ?_ ?_ ?_ ?_ ?_ ?_ ?_ ?_ ?_ ?_ ?_ ?_ ?_ ?_ ?_ ?_ ?_ ?_ ?_ ?_ ?_ ?_ ?_ ?_ ?_ ?_ ?_ ?_ ?_ ?_ ?_ ?_ ?_ ?_ ?_ ?_ ?_ ?_ ?_ ?_ ?_ ?_ ?_ ?_ ?_ ?_ ?_ ?_ ?_ ?_ ?_ ?_ ?_ ?_ ?_ ?_ ?_ ?_ ?_ ?_ ?_ ?_ ?_ ?_ ?_ ?_ ?_ ?_ ?_ ?_ ?_ ?_ ?_ ?_ ?_ ?_ ?_ ?_ ?_ ?_ ?_ ?_ ?_ ?_ ?_ ?_ ?_ ?_ ?_ ?_ ?_ ?_ ?_ ?_ ?_ ?_ ?_ ?_ ?_ ?_ ?_ ?_ ?_ ?_ ?_ ?_ ?_ ?_ ?_ ?_ ?_ ?_ ?_ ?_ ?_ ?_ ?_ ?_ ?_ ?_ ?_ ?_ ?_ ?_ ?_ ?_ ?_ ?_ ?_ ?_ ?_ ?_ ?_ ?_ ?_ ?_ ?_ ?_ ?_ ?_ ?_ ?_ ?_ ?_ ?_ ?_ ?_ ?_ ?_ ?_ ?_ ?_ ?_;all_goals try refine' sI.nS.mk ?_ ?_ ?_ ?_
  all_goals try refine' sI.bP.mk ?_ ?_ ?_ ?_ ?_
  all_goals try k_is
  all_goals kernel_rfl
