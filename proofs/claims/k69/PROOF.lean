import PyProof.Rows.All
import Wide.All
import OpenK.AllK
import Wide.FinOn
import Lean
import PyProof.EqAt
import PyProof.EqKinds
import PyProof.TupleCall
import KE.KDictSum
import KE.KTryDeep
import KE.KTryMore
import PyProof.NsDelKeeps
import PyProof.FString
import PyProof.Rows.SetFrom
import KE.KItemsList
import PySem.Challenge.RW_nearstairs_k69_whole_two_hands
open List (all_cons all_eq_true any_cons any_eq_false any_eq_true any_map append_assoc append_nil drop_drop drop_of_length_le drop_sublist drop_take erase_cons_head filter_append filter_cons filter_sublist find?_cons getD_eq_getElem?_getD getElem?_append_left getElem?_append_right getElem?_drop getElem?_eq_getElem getElem?_eq_none getElem?_eq_some_iff getElem?_map getElem?_range getElem?_replicate getElem?_set_ne getElem?_set_self getElem_drop getElem_map getElem_mem getElem_take length_append length_cons length_drop length_filter_le length_map length_range length_replicate length_set length_singleton length_take map_append map_congr_left map_cons map_id map_map map_nil map_set mem_append mem_append_left mem_append_right mem_cons mem_cons_of_mem mem_cons_self mem_erase_of_ne mem_filter mem_iff_getElem mem_map mem_map_of_mem mem_of_getElem? mem_of_mem_erase mem_range mem_replicate mem_singleton nodup_cons nodup_nil not_mem_nil pairwise_append pairwise_cons pairwise_iff_getElem pairwise_map replicate_succ' take_append_drop take_length take_of_length_le take_succ take_zero)
set_option Elab.async false
set_option compiler.extract_closed false
set_option linter.all false
set_option maxRecDepth 100000
abbrev ale:=@if_neg
abbrev auJ:=@if_pos
abbrev a3A:=@PySem.wpAny_bind
abbrev aI1:=@Nat.le_refl
abbrev apM:=@List.length_map
abbrev a8n:=@PySem.Heap.get?_push_of_some
abbrev aTR:=@PyProof.Rows.wpS_bind
abbrev ajE:=@List.getElem?_eq_some_iff
abbrev a4h:=@List.getElem?_eq_getElem
abbrev arI:=@PyProof.Rows.wpS_pure
abbrev aPy:=@PySem.Heap.lt_size
abbrev a0V:=@Bool.false_ne_true
abbrev atR:=@Nat.le_trans
abbrev asK:=@Option.some.inj
abbrev a6x:=@List.size_toArray
abbrev aLE:=@PySem.wpAny_pure
abbrev awu:=@PySem.Heap.get?_push_size
abbrev aHL:=@List.mem_of_getElem?
abbrev aKG:=@Bool.false_eq_true
abbrev aor:=@Nat.ne_of_lt
abbrev akn:=@List.length_append
abbrev a5h:=@decide_eq_true
abbrev apo:=@Array.length_toList
abbrev afQ:=@List.getElem?_map
abbrev aWz:=@Ne.symm
abbrev axK:=@List.mem_singleton
abbrev akz:=@List.getD_eq_getElem?_getD
abbrev aKy:=@decide_eq_false
abbrev afk:=@List.map_append
abbrev asW:=@List.mem_cons_of_mem
abbrev aE5:=@Array.getElem?_eq_getElem
abbrev acY:=@Nat.zero_le
abbrev aKk:=@Nat.lt_of_lt_of_le
abbrev awk:=@List.mem_cons
abbrev aXY:=@List.mem_append
abbrev bcs:=@List.mem_cons_self
abbrev aCX:=@bind_congr
abbrev aK9:=@PySem.sizeLine_eq
abbrev aFh:=@PyProof.Rows.wpS_forRange
abbrev aRz:=@PySem.F.plainAttrs_list
abbrev aNV:=@List.not_mem_nil
abbrev agf:=@List.getElem?_append_right
abbrev aZU:=@PySem.wpAny_mono
abbrev a2l:=@if_false
abbrev aGz:=@List.mem_append_right
abbrev agz:=@congrArg
abbrev atX:=@List.mem_map
abbrev agN:=@List.nodup_cons
abbrev agV:=@Nat.lt_irrefl
abbrev a9E:=@List.getElem?_append_left
abbrev aaH:=@Nat.le_of_lt
abbrev aeo:=@PySem.F.slot_list_append
abbrev a8O:=@PySem.F.type_list_append
abbrev aq8:=@Array.getElem?_toList
abbrev aXV:=@List.perm_append_comm
abbrev aLX:=@Sum.inl.inj
abbrev aym:=@Array.toList_append
abbrev aRu:=@PySem.W.mg_none_of
abbrev arH:=@PyProof.Rows.wpS_mono
abbrev afg:=@List.mem_cons
abbrev aQw:=@or_false
abbrev amb:=@PyProof.Rows.callWith_type1
abbrev aCx:=@List.length_cons
abbrev aJH:=@decide_eq_true_eq
abbrev aEa:=@if_true
abbrev a2B:=@List.append_assoc
abbrev aB5:=@List.map_cons
abbrev aze:=@List.length_singleton
abbrev aG2:=@List.getElem?_eq_none
abbrev aOS:=@List.mem_map_of_mem
abbrev a29:=@List.Nodup.mem_erase_iff
abbrev aAH:=@PySem.PassesOwn.never
abbrev bbx:=@decide_eq_false_iff_not
abbrev aMf:=@List.lookup_cons
abbrev a3P:=@PySem.wpAny_truthy_bool
abbrev ajQ:=@List.pairwise_iff_getElem
abbrev ac3:=@List.eq_nil_of_length_eq_zero
abbrev aGX:=@Int.emod_lt_of_pos
abbrev aMl:=@List.mem_replicate
abbrev bc6:=@List.length_take
abbrev aT6:=@List.all_eq_true
abbrev agO:=@List.mem_range
abbrev aK7:=@PySem.Heap.size_push
abbrev aUV:=@PySem.boot_len
abbrev a7U:=@List.getElem?_set_self
abbrev ata:=@List.mem_append_left
abbrev avQ:=@Int.emod_nonneg
abbrev aAe:=@Nat.ne_of_gt
abbrev aoO:=@PySem.wpAny_field
abbrev aK8:=@Int.le_refl
abbrev aOU:=@Int.le_trans
abbrev aPf:=@PySem.wpAny_holding
abbrev aQS:=@PySem.wpAny_rule
abbrev au9:=@Array.perm_iff_toList_perm
abbrev aCl:=@PyProof.Rows.wpS_modify
abbrev aUp:=@PySem.Calls.spliced_cons
abbrev ayQ:=@Nat.lt_of_le_of_lt
abbrev aSg:=@List.getElem?_set_ne
abbrev aR8:=@decide_false
abbrev afi:=@List.pairwise_append
abbrev a3q:=@Array.getElem_toList
abbrev alo:=@PyProof.Rows.boot_sorted
abbrev aqa:=@Nat.lt_succ_of_lt
abbrev baQ:=@beq_eq_false_iff_ne
abbrev aix:=@Bool.and_eq_true
abbrev aXd:=@PySem.wpAny_call_entry
abbrev axd:=@PyProof.Rows.wpS_get
abbrev aKQ:=@List.append_nil
abbrev ail:=@List.length_set
abbrev adz:=@PySem.Calls.callWith_builtin
abbrev aDS:=@List.filter_cons
abbrev alY:=@decide_true
abbrev a1D:=@Bool.eq_iff_iff
abbrev aIg:=@Option.map_some
abbrev aiO:=@List.erase_cons_head
abbrev bbV:=@List.replicate_succ'
abbrev aBc:=@PySem.F.slot_tuple_iterator_next
abbrev aO0:=@List.ext_getElem?
abbrev a15:=@List.drop_of_length_le
abbrev aVZ:=@Array.toList_push
abbrev av8:=@beq_iff_eq
abbrev aCO:=@List.drop_eq_getElem_cons
abbrev aIR:=@PySem.W.kia_one
abbrev aCd:=@PySem.wpAny_seqItems
abbrev aro:=@beq_self_eq_true
abbrev a7K:=@Nat.lt_trans
abbrev a81:=@List.length_filter_le
abbrev ajm:=@List.mem_of_mem_erase
abbrev aHo:=@List.length_range
abbrev aNH:=@PySem.mem_of_lookup
abbrev aKx:=@PySem.F.plainAttrs_dict
abbrev aDV:=@PySem.wpAny_callSpecial?_slot
abbrev aL0:=@PySem.Paired.length
abbrev a8W:=@PyProof.Rows.listUpdate_at
abbrev aqX:=@PySem.wpAny_Call_Name_kw
abbrev aoq:=@PySem.W.kia_tup
abbrev aWa:=@PySem.wpAny_setField_rec
abbrev ay7:=@List.pairwise_cons
abbrev aPP:=@Int.mul_le_mul_of_nonneg_right
abbrev a6U:=@List.length_drop
abbrev bba:=@PyProof.Rows.wpS_reverse
abbrev amm:=@PyProof.Rows.mirror_perm
abbrev aON:=@PySem.wpAny_newObj_type
abbrev aEg:=@PySem.Calls.spliced_nil
abbrev aNy:=@PySem.Heap.get?_push_ne
abbrev aXs:=@Bool.not_eq_true'
abbrev a0o:=@List.map_congr_left
abbrev a8l:=@PySem.F.slot_dict_pop
abbrev aKU:=@List.Pairwise.sublist
abbrev agr:=@PySem.Calls.evalArgs_plain
abbrev apU:=@List.cons_append
abbrev aMt:=@PySem.wpAny_pyIter_zip
abbrev aRf:=@List.take_append_drop
abbrev ake:=@Array.toList_extract
abbrev a25:=@List.mem_iff_getElem
abbrev aE7:=@PySem.wpAny_newList
abbrev aZQ:=@List.perm_ext_iff_of_nodup
abbrev aYm:=@Nat.le_succ
abbrev aZd:=@List.getElem_mem
abbrev abJ:=@PySem.wpAny_passesOwn
abbrev ayR:=@List.mem_or_eq_of_mem_set
abbrev aJb:=@List.range_succ
abbrev aDo:=@List.getElem?_replicate
abbrev ae1:=@PySem.tupleKind_room_in1
abbrev aOY:=@Nat.zero_add
abbrev ad4:=@List.getElem?_range
abbrev aqP:=@List.find?_cons
abbrev ahU:=@List.eraseIdx_cons_succ
abbrev axA:=@List.getElem?_cons_succ
abbrev aQm:=@List.take_of_length_le
abbrev aXi:=@List.pairwise_map
abbrev aY6:=@Int.add_mul_ediv_right
abbrev a7q:=@Int.ediv_eq_zero_of_lt
abbrev auQ:=@PySem.wpAny_standAt
abbrev amL:=@Bool.not_true
abbrev aAW:=@List.length_replicate
abbrev bcY:=@PySem.F.slot_dict_get
abbrev a2C:=@Array.getElem_extract
abbrev aDq:=@List.erase_of_not_mem
abbrev agW:=@Int.mul_ediv_add_emod
abbrev aO4:=@List.mem_filter
abbrev ab5:=@Nat.le_of_eq
abbrev a7z:=@List.forIn_cons
abbrev aHX:=@Array.Perm.refl
abbrev bbB:=@Nat.mul_le_mul_right
abbrev aek:=@Array.toList_reverse
abbrev aRv:=@List.nil_append
abbrev a0R:=@Nat.sub_self
namespace L2
open PySem PySem.Spec PyProof.Rows
abbrev Key:=Sum Int Str
def lP:Key->Value->Bool
 | .inl k,v=>Value.isInt k v
 | .inr x,v=>Value.isStrOf x v
def Mz(w:World):Key->Int
 | .inl k=>hashInt k
 | .inr x=>hashStr w x
theorem ZG:∀{k:Key}{v:Value},lP k v=true->(∃i t,k=Sum.inl i/\v=Value.int i t)\/(∃x t,k=Sum.inr x/\v=Value.str x t)
 | .inl i,v,h=>by
  obtain⟨t,e⟩:=Value.isInt_shape (k:=i) (v:=v) h;exact .inl ⟨i,t,rfl,e⟩
 | .inr x,v,h=>by
  obtain⟨t,e⟩:=Value.isStrOf_shape (x:=x) (v:=v) h;exact .inr ⟨x,t,rfl,e⟩
theorem Zgd(i:Int)(t:Tok):lP (.inl i) (.int i t)=true:=by simp[lP,Value.isInt]
theorem Zge(x:Str)(t:Tok):lP (.inr x) (.str x t)=true:=by simp[lP,Value.isStrOf]
theorem Zks(a b:Int):decide ((Sum.inl a:Key)=Sum.inl b)=(a ==b):=by
 by_cases e:a=b
 .subst e;simp
 .have h:¬(Sum.inl a:Key)=Sum.inl b:=λq=>e (aLX q);rw[aKy h];exact(baQ.mpr e).symm
theorem Zkt(a b:Str):decide ((Sum.inr a:Key)=Sum.inr b)=decide (a=b):=by
 by_cases e:a=b
 .subst e;simp
 .have h:¬(Sum.inr a:Key)=Sum.inr b:=λq=>e (Sum.inr.inj q);rw[aKy h,aKy e]
theorem Zku(a:Int)(b:Str):decide ((Sum.inl a:Key)=Sum.inr b)=false:=aKy (λq=>nomatch q)
theorem Zkv(a:Str)(b:Int):decide ((Sum.inr a:Key)=Sum.inl b)=false:=aKy (λq=>nomatch q)
def Zy(prog:Program)(w:World):PySem.KeyKind prog w Key where
 is:=lP
 hash:=Mz w
 inj:=λv a b ha hb=>by
  rcases ZG ha with⟨i,t,rfl,rfl⟩|⟨x,t,rfl,rfl⟩
  .rcases ZG hb with⟨j,u,rfl,e⟩|⟨y,u,rfl,e⟩
   .injection e with e1 _;rw[e1]
   .exact nomatch e
  .rcases ZG hb with⟨j,u,rfl,e⟩|⟨y,u,rfl,e⟩
   .exact nomatch e
   .injection e with e1 _;rw[e1]
 byValue:=λk v h=>by
  rcases ZG h with⟨i,t,rfl,rfl⟩|⟨x,t,rfl,rfl⟩ <;> rfl
 pyHash:=λhv h=>by
  rcases ZG hv with⟨i,t,rfl,rfl⟩|⟨x,t,rfl,rfl⟩
  .exact wpAny_pyHash_int h
  .exact wpAny_pyHash_str h
 eqBool:=λhu hv h=>by
  rcases ZG hu with⟨i,t,rfl,rfl⟩|⟨x,t,rfl,rfl⟩
  .rcases ZG hv with⟨j,u,rfl,rfl⟩|⟨y,u,rfl,rfl⟩
   .rw [Zks]at h;exact wpAny_eqBool_int h
   .rw [Zku]at h;exact SeqAt.EqAt.int_str i t y u _ _ _ _ h
  .rcases ZG hv with⟨j,u,rfl,rfl⟩|⟨y,u,rfl,rfl⟩
   .rw [Zkv]at h;exact SeqAt.EqAt.str_int x t j u _ _ _ _ h
   .rw [Zkt]at h;exact wpAny_eqBool_str h
 «strs»:=λk x t v h=>by
  rcases ZG h with⟨i,u,rfl,e⟩|⟨y,u,rfl,e⟩
  .exact nomatch e
  .injection e with e1 _
   subst e1;cases v <;> rfl
theorem ZfC(prog:Program)(w:World)(k:Key)(v:Value):(Zy prog w).is k v=lP k v:=rfl
theorem Zel(prog:Program)(w:World)(i:Int)(t:Tok):(Zy prog w).is (.inl i) (.int i t)=true:=Zgd i t
theorem Zem(prog:Program)(w:World)(x:Str)(t:Tok):(Zy prog w).is (.inr x) (.str x t)=true:=Zge x t
inductive V where
 |aO|bl (b:Bool)|int (i:Int)|str (x:Str)|vJ (b:Array UInt8)|Ay (b:UInt64)|ref (a:Addr)|ty (n:String)
 deriving DecidableEq
def RelV:V->Value->Prop
 | .aO,u=>u=Value.none
 | .bl b,u=>u=Value.bool b
 | .int i,u=>∃t,u=Value.int i t
 | .str x,u=>∃t,u=Value.str x t
 | .vJ b,u=>∃t,u=Value.bytes b t
 | .Ay b,u=>∃t,u=Value.float b t
 | .ref a,u=>u=Value.ref a
 | .ty n,u=>u=Value.type n
abbrev Vals:List V->List Value->Prop:=Paired RelV
theorem Vals.length{xs:List V}{us:List Value}(r:Vals xs us):xs.length=us.length:=aL0 r
theorem Vals.get:∀{xs:List V}{us:List Value}{i:Nat}{x:V},Vals xs us->xs[i]?=some x->∃u,us[i]?=some u/\RelV x u
 |_,_,_,_,.nil,e=>by simp at e
 |_,_,0,_,.cons r _,e=>by simp at e;subst e;exact⟨_,rfl,r⟩
 |_,_,i+1,x,.cons _ t,e=>by
  obtain⟨u,h1,h2⟩:=Vals.get (i:=i) (x:=x) t (by simpa using e);exact⟨u,by simpa using h1,h2⟩
theorem Vals.set{x:V}{u:Value}(r:RelV x u):∀{xs:List V}{us:List Value}(i:Nat),Vals xs us->Vals (xs.set i x) (us.set i u)
 |_,_,_,.nil=>.nil
 |_,_,0,.cons _ t=>.cons r t
 |_,_,i+1,.cons q t=>.cons q (Vals.set r i t)
theorem Vals.append:∀{xs ys:List V}{us ws:List Value},Vals xs us->Vals ys ws->Vals (xs++ys) (us++ws)
 |_,_,_,_,.nil,s=>s
 |_,_,_,_,.cons r t,s=>.cons r (Vals.append t s)
theorem Vals.take:∀{xs:List V}{us:List Value}(n:Nat),Vals xs us->Vals (xs.take n) (us.take n)
 |_,_,0,_=>.nil
 |_,_,_+1,.nil=>.nil
 |_,_,n+1,.cons r t=>.cons r (Vals.take n t)
theorem Vals.drop:∀{xs:List V}{us:List Value}(n:Nat),Vals xs us->Vals (xs.drop n) (us.drop n)
 |_,_,0,r=>r
 |_,_,_+1,.nil=>.nil
 |_,_,n+1,.cons _ t=>Vals.drop n t
def dN:Option V->Option Value->Prop
 |some v,some u=>RelV v u
 |none,none=>True
 |_,_=>False
def KV{κ:Type}:List (κ×V)->List (κ×Value)->Prop:=Paired λ(p:κ×V)(q:κ×Value)=>p.1=q.1/\RelV p.2 q.2
def kV:Key->V
 | .inl i=>.int i
 | .inr x=>.str x
inductive HO where
  |lst (xs:List V)
  |tup (xs:List V)
  |dK (kvs:List (Key×V))|dT (kvs:List (List Key×V))
  |set (S:Int->Bool) (n:Nat)
  |ins (C dx:Addr) (fs:List (Str×V))
  |own (x:Addr)
  |xd (fs:List (Str×V))
  |met (f x:Addr)
  |LS (lo hi:Int)
  |cU (o:Obj) (u:HO)
  |oF (pos:Pos) (qual:Str)
  |ext (φ:Heap->Prop)
abbrev Hp:=Addr->Option HO
def upd(H:Hp)(a:Addr)(o:HO):Hp:=λb=>if b=a then some o else H b
theorem Za{H:Hp}{a:Addr}{o:HO}:upd H a o a=some o:=by unfold upd;rw[auJ rfl]
theorem Zc{H:Hp}{a b:Addr}{o:HO}(h:b≠a):upd H a o b=H b:=by unfold upd;rw[ale h]
theorem K7{H:Hp}{a:Addr}{o u:HO}:upd (upd H a o) a u=upd H a u:=by
 funext b;unfold upd;split <;> rfl
theorem uM{H:Hp}{a b:Addr}{o u:HO}(h:H a=some o)(h':H b=some u)(d:o≠u):a≠b:=by
 intro e;subst e;rw[h]at h';exact d (asK h')
theorem Zf{H:Hp}{a b:Addr}{o:HO}(h:H a=some o)(h':H b=none):a≠b:=by
 intro e;subst e;rw[h]at h';cases h'
section
variable(P:Program)(w:World)
def aF(H:Hp)(h:Heap)(a:Addr):HO->Prop
 | .lst xs=>xs.length<=sizeLine/\∃(its:List Value)(n:Nat),Vals xs its/\h.get? a=some { cls:=.type "list",data:=.seq its.toArray n }
 | .tup xs=>xs.length<=sizeLine/\∃its:List Value,Vals xs its/\IsTup h a its.toArray
 | .dK kvs=>kvs.length<=sizeLine/\(a ==sysModules)=false/\∃vs,KV kvs vs/\h.DictOf (Zy P w) a vs
 | .dT kvs=>kvs.length<=sizeLine/\(a ==sysModules)=false/\∃xs:List (List Key×Addr×Value),
   Paired (λ(p:List Key×V)(q:List Key×Addr×Value)=>p.1=q.1/\H q.2.1=some (.tup (p.1.map kV))/\RelV p.2 q.2.2) kvs xs /\
   ∃o es ep,h.get? a=some o/\o.ExactDict/\o.data=.dict es ep/\es.toList=xs.map (entryOfKey (tupleKind (Zy P w)))/\(xs.map (·.1)).Nodup
 | .set S n=>h.SetOf (intKind P w) a S n
 | .ins C dx fs=>H dx=some (.own a)/\fs.length<=1000/\dx≠a/\h.get? a=some (W.instObj C dx) /\
   ∃mA,h.Ns1 dx mA/\(∀f,dN (fs.lookup f) (mA f))/\PySem.Within mA (fs.map (·.1))
 | .own _=>∃o,h.get? a=some o
 | .xd fs=>∃mA,h.Ns1 a mA/\∀f,dN (fs.lookup f) (mA f)
 | .LS lo hi=>∃t u v,h.get? a=some { cls:=.type "range",data:=.fields #[.int lo t,.int hi u,.int 1 v] }
 | .cU o u=>h.get? a=some o/\aF H h a u
 | .oF pos qual=>∃ps,h.get? a=some { cls:=.none,data:=.fields ps }/\TriplesOk ps.toList/\∀cv,codeAmong pos ps.toList=some cv->∃c oc vs t,cv=.ref c/\H c=some (.cU oc (.own a))/\oc.data=.fields vs/\vs[1]?=some (.str qual t)
 | .met f x=>h.get? a=some (W.methodObj (.ref f) (.ref x))
 | .ext φ=>φ h/\(∃o,h.get? a=some o)/\∀h1 h2:Heap,φ h1->(∀o,h1.get? a=some o->h2.get? a=some o)->φ h2
def eT(H:Hp)(h:Heap):Prop:=∀a o,H a=some o->aF P w H h a o
end
section
variable{P:Program}{w:World}{H H':Hp}{h h':Heap}{a:Addr}{o:HO}
theorem aF.lt(x:aF P w H h a o):a<h.objs.size:=by
 cases o with
 |lst xs=>obtain⟨_,_,_,_,e⟩:=x;exact aPy e
 |tup xs=>obtain⟨_,_,_,p⟩:=x;exact p.lt
 |dK kvs=>obtain⟨_,_,_,_,o,_,_,e,_⟩:=x;exact aPy e
 |dT kvs=>obtain⟨_,_,_,_,o,_,_,e,_⟩:=x;exact aPy e
 |set S n=>obtain⟨o,_,_,_,e,_⟩:=x;exact aPy e
 |ins C dx fs=>obtain⟨_,_,_,e,_⟩:=x;exact aPy e
 |own y=>obtain⟨_,e⟩:=x;exact aPy e
 |xd fs=>obtain⟨_,⟨_,_,_,e,_⟩,_⟩:=x;exact aPy e
 |LS lo hi=>obtain⟨_,_,_,e⟩:=x;exact aPy e
 |cU ob u=>obtain⟨e,_⟩:=x;exact aPy e
 |oF p q=>obtain⟨_,e,_⟩:=x;exact aPy e
 |met f y=>exact aPy (show h.get? a=some _ from x)
 |ext φ=>obtain⟨_,⟨_,e⟩,_⟩:=x;exact aPy e
theorem Paired.CY{α β:Type}{F G:α->β->Prop}:∀{l₁:List α}{l₂:List β},Paired F l₁ l₂->(∀a b,F a b->G a b)->Paired G l₁ l₂
 |_,_,.nil,_=>.nil
 |_,_,.cons r t,f=>.cons (f _ _ r) (Paired.CY t f)
theorem aF.stay(x:aF P w H h a o)(k:∀b u,(b=a\/H b=some (.own a))->h.get? b=some u->h'.get? b=some u)
  (ho:∀b,H b=some (.own a)->H' b=some (.own a)) (ht:∀b xs,H b=some (.tup xs)->H' b=some (.tup xs))
  (hz:∀b oz,H b=some (.cU oz (.own a))->H' b=some (.cU oz (.own a)):=by exact λ_ _ q=>q):aF P w H' h' a o:=by
 induction o with
 |lst xs=>obtain⟨z,its,n,r,e⟩:=x;exact⟨z,its,n,r,k _ _ (.inl rfl) e⟩
 |tup xs=>obtain⟨z,its,r,ob,e,c⟩:=x;exact⟨z,its,r,ob,k _ _ (.inl rfl) e,c⟩
 |dK kvs=>obtain⟨z,y,vs,r,ob,es,ep,e,c⟩:=x;exact⟨z,y,vs,r,ob,es,ep,k _ _ (.inl rfl) e,c⟩
 |dT kvs=>
  obtain⟨z,y,xs,r,ob,es,ep,e,c⟩:=x;exact⟨z,y,xs,Paired.CY r λp q z=>⟨z.1,ht _ _ z.2.1,z.2.2⟩,ob,es,ep,k _ _ (.inl rfl) e,c⟩
 |set S n=>obtain⟨ob,es,ep,t,e,c⟩:=x;exact⟨ob,es,ep,t,k _ _ (.inl rfl) e,c⟩
 |ins C dx fs=>
  obtain⟨d,z,ne,e,mA,⟨od,es,ep,e2,c⟩,r⟩:=x;exact⟨ho _ d,z,ne,k _ _ (.inl rfl) e,mA,⟨od,es,ep,k _ _ (.inr d) e2,c⟩,r⟩
 |own y=>obtain⟨ob,e⟩:=x;exact⟨ob,k _ _ (.inl rfl) e⟩
 |xd fs=>obtain⟨mA,⟨od,es,ep,e,c⟩,r⟩:=x;exact⟨mA,⟨od,es,ep,k _ _ (.inl rfl) e,c⟩,r⟩
 |LS lo hi=>obtain⟨t,u,v,e⟩:=x;exact⟨t,u,v,k _ _ (.inl rfl) e⟩
 |cU ob u ih=>obtain⟨e,q⟩:=x;exact⟨k _ _ (.inl rfl) e,ih q⟩
 |oF p q=>
  obtain⟨ps,e,tr,hc⟩:=x;refine⟨ps,k a _ (.inl rfl) e,tr,λcv e1=>?_⟩;obtain⟨c,oc,vs,tt,z,e2,r⟩:=hc cv e1;exact⟨c,oc,vs,tt,z,hz _ _ e2,r⟩
 |met f y=>
  have e:h.get? a=some (W.methodObj (.ref f) (.ref y)):=x;show h'.get? a=some (W.methodObj (.ref f) (.ref y));exact k a _ (.inl rfl) e
 |ext φ=>obtain⟨p,⟨o,e⟩,st⟩:=x;exact⟨st _ _ p λo q=>k _ _ (.inl rfl) q,⟨o,k _ _ (.inl rfl) e⟩,st⟩
theorem eT.lt(x:eT P w H h)(e:H a=some o):a<h.objs.size:=(x a o e).lt
theorem eT.fresh(x:eT P w H h)(e:h.objs.size<=a):H a=none:=by
 cases q:H a with
 |none=>rfl
 |some u=>exact absurd (aKk (x.lt q) e) (agV _)
theorem eT.kept(x:eT P w H h)(k:∀b u,h.get? b=some u->h'.get? b=some u):eT P w H h':=λa o e=>
 (x a o e).stay (λb u _ q=>k b u q) (λ_ q=>q) λ_ _ q=>q
theorem eT.laid(x:eT P w H h)(k:∀b u,h.get? b=some u->h'.get? b=some u)(hp:h.objs.size<=a)(new:aF P w (upd H a o) h' a o):eT P w (upd H a o) h':=λb u e=>by
 have hn:=x.fresh hp;by_cases hb:b=a
 .subst hb;rw[Za]at e;cases e;exact new
 .rw [Zc hb]at e;exact(x b u e).stay (λc v _ q=>k c v q) (λc q=>by rw[Zc (Zf q hn)];exact q) (λc xs q=>by rw[Zc (Zf q hn)];exact q) λc oz q=>by rw[Zc (Zf q hn)];exact q
end
def Rd(H:Hp)(a:Addr)(u:HO):Prop:=H a=some u\/∃o,H a=some (.cU o u)
theorem Rd.ok{P:Program}{w:World}{H:Hp}{h:Heap}{a:Addr}{u:HO}(r:Rd H a u)(x:eT P w H h):aF P w H h a u:=by
 rcases r with r|⟨o,r⟩
 .exact x a u r
 .obtain ⟨_,q⟩:=x a _ r;exact q
def Jt:Option HO->Prop
 |some (.lst _)=>True
 |some (.dK _)=>True
 |some (.dT _)=>True
 |some (.set _ _)=>True
 |some (.ins _ _ _)=>True
 |some (.ext _)=>True
 |_=>False
section
variable{P:Program}{w:World}{H:Hp}{h h':Heap}{x e:Addr}{o':HO}
theorem eT.write(ok:eT P w H h)(mu:Jt (H x))(he:e=x\/H e=some (.own x))(k:∀b u,b≠e->h.get? b=some u->h'.get? b=some u)(Ey:∃u,h'.get? e=some u)
  (new:aF P w (upd H x o') h' x o'):eT P w (upd H x o') h':=λb u q=>by
 have Gu:∀c y,H c=some (.own y)->c≠x:=λc y r z=>by subst z;rw[r]at mu;exact mu
 have L7:∀c xs,H c=some (.tup xs)->c≠x:=λc xs r z=>by subst z;rw[r]at mu;exact mu
 by_cases hb:b=x
 .subst hb;rw[Za]at q;cases q;exact new
 .rw [Zc hb]at q;by_cases Dg:b=e
  .have q':H b=some (.own x):=by
    rcases he with z|z
    .exact absurd (Dg.trans z) hb
    .rw [Dg];exact z
   rw[q]at q';cases q';obtain⟨v,hv⟩:=Ey;exact⟨v,by rw[Dg];exact hv⟩
  .refine (ok b u q).stay (λc v hc r=>k c v ?_ r) (λc r=>by rw[Zc (Gu c b r)];exact r) (λc xs r=>by rw[Zc (L7 c xs r)];exact r) λc oz r=>by rw[Zc (λz=>by subst z;rw[r]at mu;exact mu)];exact r
   rcases hc with rfl|hc
   .exact Dg
   .rintro rfl;rcases he with z|z
    .exact Gu c b hc z
    .rw [hc]at z;cases z;exact hb rfl
end
structure Un(fs ex:List Addr)(H H':Hp)(h h':Heap):Prop where
 keep:∀b o,h.get? b=some o->H b=none->b∉fs->b∉ex->h'.get? b=some o
 slot:∀b o,h.get? b=some o->H b=none->b∈fs->b∉ex->∃sl,h'.get? b=some { o with slots:=sl }
 free:∀b o,h.get? b=some o->H b=none->b∉ex->H' b=none
 there:∀b o,h.get? b=some o->b∉ex->∃o',h'.get? b=some o'
 tups:∀b xs,H b=some (.tup xs)->H' b=some (.tup xs)
 j6:∀b o u,H b=some (.cU o u)->H' b=some (.cU o u)
 kG:∀b p q,H b=some (.oF p q)->H' b=some (.oF p q)
section
variable{fs fs' ex ex':List Addr}{H H1 H2:Hp}{h h1 h2 h':Heap}{a x e:Addr}{o:HO}
theorem Un.any(u:Un fs ex H H1 h h1){b:Addr}{ob:Obj}(q:h.get? b=some ob)(n:H b=none)(hx:b∉ex):∃sl,h1.get? b=some { ob with slots:=sl }:=by
 by_cases hb:b∈fs
 .exact u.slot b ob q n hb hx
 .exact ⟨ob.slots,u.keep b ob q n hb hx⟩
theorem Un.kept(k:∀b u,h.get? b=some u->h'.get? b=some u):Un fs ex H H h h':=
 ⟨λb ob q _ _ _=>k b ob q,λb ob q _ _ _=>⟨ob.slots,k b ob q⟩,λ_ _ _ n _=>n,λb ob q _=>⟨ob,k b ob q⟩,λ_ _ q=>q,λ_ _ _ q=>q,λ_ _ _ q=>q⟩
theorem Un.refl:Un fs ex H H h h:=Un.kept λ_ _ q=>q
theorem Un.laid(k:∀b u,h.get? b=some u->h'.get? b=some u)(hp:h.objs.size<=a)(hn:H a=none):Un fs ex H (upd H a o) h h' where
 keep:=λb u q _ _ _=>k b u q
 slot:=λb u q _ _ _=>⟨u.slots,k b u q⟩
 free:=λb u q n _=>by rw[Zc (aor (aKk (aPy q) hp))];exact n
 there:=λb u q _=>⟨u,k b u q⟩
 tups:=λb xs q=>by rw[Zc (Zf q hn)];exact q
 j6:=λb u xs q=>by rw[Zc (Zf q hn)];exact q
 kG:=λb _ _ q=>by rw[Zc (Zf q hn)];exact q
theorem Un.write(mu:Jt (H x))(he:e=x\/H e=some (.own x))(k:∀b u,b≠e->h.get? b=some u->h'.get? b=some u)(Ey:∃u,h'.get? e=some u):Un fs ex H (upd H x o) h h':=by
 have hx:∀b,H b=none->b≠x:=λb n z=>by subst z;rw[n]at mu;exact mu
 have hb:∀b,H b=none->b≠e:=λb n z=>by
  subst z;rcases he with r|r
  .exact hx b n r
  .rw [n]at r;cases r
 have hm:∀b u,H b=some u->¬Jt (some u)->b≠x:=λb u q nm z=>by subst z;rw[q]at mu;exact nm mu
 refine⟨λb u q n _ _=>k b u (hb b n) q,λb u q n _ _=>⟨u.slots,k b u (hb b n) q⟩,λb u q n _=>by rw[Zc (hx b n)];exact n,λb u q _=>?_,
  λb xs q=>by rw[Zc (hm b _ q λz=>z)];exact q,λb u xs q=>by rw[Zc (hm b _ q λz=>z)];exact q,λb _ _ q=>by rw[Zc (hm b _ q λz=>z)];exact q⟩
 by_cases Dg:b=e
 .subst Dg;exact Ey
 .exact ⟨u,k b u Dg q⟩
end
def JL(h:Heap)(H:Hp):List Addr:=(List.range h.objs.size).filter λa=>(H a).isSome
def pQ(h:Heap)(H:Hp):Heap:=W.hideAll h (JL h H)
theorem Zgf(h:Heap)(H:Hp):(pQ h H).objs.size=h.objs.size:=W.hideAll_size _ _
theorem OI{h:Heap}{H:Hp}{b:Addr}{o:Obj}(e:h.get? b=some o)(n:H b=none):(pQ h H).get? b=some o:=
 W.hideAll_get _ e λhm=>by
  have q:(H b).isSome=true:=(aO4.mp hm).2;rw[n]at q;simp at q
theorem Zjt{h:Heap}{H:Hp}{b:Addr}{o:Obj}(e:(pQ h H).get? b=some o):h.get? b=some o/\H b=none:=by
 have e':h.get? b=some o:=W.of_hideAll (JL h H) e;refine⟨e',?_⟩;cases q:H b with
 |none=>rfl
 |some x=>
  have hm:b∈JL h H:=aO4.mpr ⟨agO.mpr (aPy e'),by simp[q]⟩;have z:(pQ h H).get? b=none:=W.hideAll_none (JL h H) hm;rw[z]at e;cases e
structure Mod(K:W.Frag)(mg:Str->Option Value)(base:Heap):Prop where
 Es:K.In base
 glob:base.Ns mainGlobals mg
 blt:∃mb,base.Ns builtinsNs mb/\∀x:Str,x ≠ "__name__" ->mb x=bootBuiltins x
 nolimit:base.NoLimit
structure Cx where
 prog:Program
 w:World
 K:W.Frag
 mg:Str->Option Value
 base:Heap
 A:Around
 N:List Str
 s₀:Shared
 H₀:Hp
 env:Env
 outer:List Env
 stack:List Env
 ex:List Addr
 fn:Str->Bool
 calm:Bool
 pn:List (Addr×Obj)
 xe:Value->Shared->Prop
def frs(l:List Env):List Addr:=l.filterMap (·.frame)
abbrev Cx.fs(X:Cx):List Addr:=frs X.outer
def Jj(sc:Scope)(x:Str):Prop:=sc.names.lookup x=some .local\/sc.names.lookup x=some .cell\/sc.names.lookup x=some .free
def Loc(sc:Scope)(x:Str):Prop:=sc.names.lookup x=some .local\/sc.names.lookup x=some .cell
def Look(env:Env)(h:Heap)(m:Str->Option Value)(x:Str)(u:Value):Prop:=
 (env.kindOf x=some .local/\m x=some u)\/((env.kindOf x=some .cell\/env.kindOf x=some .free)/\∃c,env.cells.lookup x=some c/\h.IsCell c (some u))
structure Cx.Ok(X:Cx):Prop where
 mod:Mod X.K X.mg X.base
 kind:X.env.scope.kind=.function
 glob:X.env.globals=mainGlobals
 blt:X.env.builtins=builtinsNs
 above:X.s₀.heap.objs.size<=X.env.locals
 inj:∀x y c,X.env.cells.lookup x=some c->X.env.cells.lookup y=some c->x=y
 has:∀x,(X.env.kindOf x=some .cell\/X.env.kindOf x=some .free)->∃c,X.env.cells.lookup x=some c
 Ij:∀x c,X.fn x=true->X.env.cells.lookup x=some c->X.s₀.heap.objs.size<=c
 hd:X.calm=true->X.A.handled=none
 frames:X.A.frames=some X.stack
 stk:X.stack=X.outer\/(X.stack=X.env ::X.outer/\X.env.frame=some X.env.locals)
 Kv:∀b∈X.ex,b≠X.env.locals/\∀x c,X.env.cells.lookup x=some c->c≠b
 bs:∀b o,X.base.get? b=some o->X.s₀.heap.get? b=some o/\X.H₀ b=none
 zf:X.base.objs.size<=X.s₀.heap.objs.size
 xY:∀b o,X.base.get? b=some o->b∉X.ex
 yw:∀b∈X.ex,b∉X.fs
 j5:X.s₀.heap.FunFrames X.base X.outer
 Dl:∀b∈X.fs,X.H₀ b=none
structure Inv(X:Cx)(pins:List (Addr×Obj))(σ:List (Option V))(H:Hp)(s:Shared):Prop where
 ok:X.Ok
 os:s.os=X.s₀.os
 bare:AllBare s.gens
 base:Un X.fs X.ex X.H₀ H X.s₀.heap s.heap
 loc:∃m,s.heap.Ns X.env.locals m/\∀(i:Nat)(x:Str)(v:V),X.N[i]?=some x->σ[i]?=some (some v)->Jj X.env.scope x->∃u,RelV v u/\Look X.env s.heap m x u
 cell:∀x c,X.env.cells.lookup x=some c->∃v,s.heap.IsCell c v
 free:H X.env.locals=none
 dM:∀x c,X.env.cells.lookup x=some c->H c=none
 pin:∀p∈X.pn++pins,s.heap.get? p.1=some p.2/\H p.1=none/\p.1≠X.env.locals/\p.1∉X.fs/\∀v,p.2.data≠.cell v
 hok:eT X.prog X.w H s.heap
 len:σ.length=X.N.length
section
variable{X:Cx}{pins:List (Addr×Obj)}{σ:List (Option V)}{H H':Hp}{s:Shared}{h':Heap}
theorem Cx.Ok.Me(ok:X.Ok){b:Addr}{o:Obj}(e:X.base.get? b=some o):b∉X.fs:=λhb=>by
 have:=(ok.j5.mem hb).1;rw[e]at this;cases this
theorem Inv.bs(I:Inv X pins σ H s):∀b o,X.base.get? b=some o->s.heap.get? b=some o/\H b=none:=λb o e=>
 ⟨I.base.keep b o (I.ok.bs b o e).1 (I.ok.bs b o e).2 (I.ok.Me e) (I.ok.xY b o e),I.base.free b o (I.ok.bs b o e).1 (I.ok.bs b o e).2 (I.ok.xY b o e)⟩
theorem Inv.bk(I:Inv X pins σ H s):∀b o,X.base.get? b=some o->s.heap.get? b=some o:=λb o e=>(I.bs b o e).1
theorem Inv.mod(I:Inv X pins σ H s):Mod X.K X.mg X.base:=I.ok.mod
theorem Inv.dR(I:Inv X pins σ H s):X.K.In s.heap:=I.ok.mod.Es.keeps I.bk
theorem Inv.nolimit(I:Inv X pins σ H s):s.heap.NoLimit:=I.ok.mod.nolimit.keeps I.bk
theorem Inv.lt(I:Inv X pins σ H s):X.env.locals<s.heap.objs.size:=let⟨_,hn,_⟩:=I.loc;hn.lt
theorem Inv.sz(I:Inv X pins σ H s):X.s₀.heap.objs.size<=s.heap.objs.size:=atR I.ok.above (aaH I.lt)
theorem Inv.Gv(I:Inv X pins σ H s){a:Addr}(h:s.heap.objs.size<=a):a∉X.fs:=λhb=>by
 obtain⟨_,o,ho,_⟩:=I.ok.j5.mem hb;exact absurd (aKk (aPy ho) (atR I.sz h)) (agV _)
theorem Inv.ze(I:Inv X pins σ H s):∀x c,X.env.cells.lookup x=some c->c≠X.env.locals:=λx c e z=>by
 obtain⟨v,o,ho,hd⟩:=I.cell x c e;obtain⟨m,⟨o',es,ep,ho',hd',_⟩,_⟩:=I.loc;rw[z,ho']at ho;cases ho;rw[hd']at hd;cases hd
theorem Inv.j5(I:Inv X pins σ H s):s.heap.FunFrames X.base X.outer:=by
 have all:∀(l:List Env),(∀b∈frs l,b∈X.fs)->X.s₀.heap.FunFrames X.base l->s.heap.FunFrames X.base l:=by
  intro l
  induction l with
  |nil=>intro _ _;trivial
  |cons env r ih=>
   intro hs hl;obtain⟨hk,⟨L,o,hf,hn,ho,hd⟩,hr⟩:=hl;have hL:L∈X.fs:=hs L (by unfold frs;rw[List.filterMap_cons,hf];exact bcs);obtain⟨sl,e⟩:=I.base.slot L o ho (I.ok.Dl L hL) hL λz=>I.ok.yw L z hL;exact⟨hk,⟨L,_,hf,hn,e,hd⟩,ih (λb hb=>hs b (by unfold frs;rw[List.filterMap_cons,hf];exact asW _ hb)) hr⟩
 exact all X.outer (λ_ hb=>hb) I.ok.j5
theorem Inv.stack(I:Inv X pins σ H s):s.heap.FunFrames X.base X.stack:=by
 rcases I.ok.stk with e|⟨e,hf⟩
 .rw [e];exact I.j5
 .rw [e];obtain⟨m,hn,_⟩:=I.loc;refine .cons (by rw[I.ok.kind];decide) hf hn ?_ I.j5;exact Heap.get?_none_of_le (atR I.ok.zf I.ok.above)
theorem Inv.oG(I:Inv X pins σ H s):∀b∈frs X.stack,b∈X.env.locals ::X.fs:=λb hb=>by
 rcases I.ok.stk with e|⟨e,hf⟩
 .rw [e]at hb;exact asW _ hb
 .rw [e]at hb;unfold frs at hb;rw[List.filterMap_cons,hf]at hb;exact hb
theorem Inv.oJ(I:Inv X pins σ H s):∀b∈frs X.stack,H b=none:=λb hb=>by
 rcases awk.mp (I.oG b hb) with e|hb
 .rw [e];exact I.free
 .obtain ⟨_,o,ho,_⟩:=I.ok.j5.mem hb;exact I.base.free b o ho (I.ok.Dl b hb) λz=>I.ok.yw b z hb
theorem Inv.step{g':Array GenState}{t':Nat}{d':Drawn}{ch:List Addr}(I:Inv X pins σ H s)
  (hch:∀b∈ch,(b∈X.ex\/X.s₀.heap.objs.size<=b)/\b≠X.env.locals/\(∀x c,X.env.cells.lookup x=some c->c≠b)/\∀p∈X.pn++pins,p.1≠b)
  (keep:∀b o,b≠X.env.locals->b∉X.fs->b∉ch->s.heap.get? b=some o->H b=none->h'.get? b=some o)
  (slot:∀b o,b≠X.env.locals->b∈X.fs->b∉ch->s.heap.get? b=some o->H b=none->∃sl,h'.get? b=some { o with slots:=sl }) (free:∀b o,b∉ch->s.heap.get? b=some o->H b=none->H' b=none)
  (there:∀b o,b∉ch->s.heap.get? b=some o->∃o',h'.get? b=some o')
  (tups:∀b xs,H b=some (.tup xs)->H' b=some (.tup xs)) (j6:∀b o u,H b=some (.cU o u)->H' b=some (.cU o u)) (kG:∀b p q,H b=some (.oF p q)->H' b=some (.oF p q))
  (ns:∀m,s.heap.Ns X.env.locals m->h'.Ns X.env.locals m) (hok:eT X.prog X.w H' h') (hg:AllBare g') :
  Inv X pins σ H' { s with heap:=h',gens:=g',drawn:=d',toks:=t' }:=by
 have PY:∀b o,X.s₀.heap.get? b=some o->b≠X.env.locals:=λb o e=>aor (aKk (aPy e) I.ok.above);have J5:∀b o,X.s₀.heap.get? b=some o->b∉X.ex->b∉ch:=λb o e hx hb=>by
  rcases(hch b hb).1 with z|z
  .exact hx z
  .exact absurd (aKk (aPy e) z) (agV _)
 have cellK:∀x c,X.env.cells.lookup x=some c->∀v,s.heap.IsCell c v->h'.IsCell c v:=λx c e v ⟨o,ho,hd⟩=>by
  have Gz:c∉ch:=λz=>(hch c z).2.2.1 x c e rfl;by_cases hc:c∈X.fs
  .obtain ⟨sl,q⟩:=slot c o (I.ze x c e) hc Gz ho (I.dM x c e);exact⟨_,q,hd⟩
  .exact ⟨o,keep c o (I.ze x c e) hc Gz ho (I.dM x c e),hd⟩
 refine⟨I.ok,I.os,hg,⟨λb o e n hb hx=>?_,λb o e n hb hx=>?_,λb o e n hx=>?_,λb o e hx=>?_,λb xs e=>tups b xs (I.base.tups b xs e),λb o xs e=>j6 b o xs (I.base.j6 b o xs e),λb p r e=>kG b p r (I.base.kG b p r e)⟩,?_,λx c e=>?_,?_,λx c e=>?_,λp hp=>?_,hok,I.len⟩
 .exact keep b o (PY b o e) hb (J5 b o e hx) (I.base.keep b o e n hb hx) (I.base.free b o e n hx)
 .obtain ⟨sl,e1⟩:=I.base.slot b o e n hb hx;obtain⟨Wq,e2⟩:=slot b _ (PY b o e) hb (J5 b o e hx) e1 (I.base.free b o e n hx);exact⟨Wq,e2⟩
 .obtain ⟨o',e1⟩:=I.base.there b o e hx;exact free b o' (J5 b o e hx) e1 (I.base.free b o e n hx)
 .obtain ⟨o',e1⟩:=I.base.there b o e hx;exact there b o' (J5 b o e hx) e1
 .obtain ⟨m,hn,hl⟩:=I.loc;refine⟨m,ns m hn,λi x v e1 e2 e3=>?_⟩;obtain⟨u,r,l⟩:=hl i x v e1 e2 e3;refine⟨u,r,?_⟩;rcases l with l|⟨k,c,e,z⟩
  .exact .inl l
  .exact .inr ⟨k,c,e,cellK x c e _ z⟩
 .obtain ⟨v,z⟩:=I.cell x c e;exact⟨v,cellK x c e v z⟩
 .obtain ⟨m,⟨o,_,_,ho,_⟩,_⟩:=I.loc;exact free _ o (λz=>(hch _ z).2.1 rfl) ho I.free
 .obtain ⟨v,o,ho,hd⟩:=I.cell x c e;exact free c o (λz=>(hch c z).2.2.1 x c e rfl) ho (I.dM x c e)
 .obtain ⟨e,n,ne,nf,d⟩:=I.pin p hp;have Gz:p.1∉ch:=λz=>(hch p.1 z).2.2.2 p hp rfl;exact⟨keep p.1 p.2 ne nf Gz e n,free p.1 p.2 Gz e n,ne,nf,d⟩
theorem Inv.un{t':Nat}(I:Inv X pins σ H s)(u:Un X.fs [] H H' s.heap h')(hok:eT X.prog X.w H' h'):Inv X pins σ H' { s with heap:=h',toks:=t' }:=by
 obtain⟨m,⟨o,es,ep,ho,r⟩,_⟩:=id I.loc;obtain⟨sl,hL⟩:=u.any ho I.free (by simp);exact I.step (g':=s.gens) (d':=s.drawn) (ch:=[]) (λ_ z=>nomatch z) (λb o _ hb _ e n=>u.keep b o e n hb (by simp)) (λb o _ hb _ e n=>u.slot b o e n hb (by simp)) (λb o _ e n=>u.free b o e n (by simp)) (λb o _ e=>u.there b o e (by simp)) u.tups u.j6 u.kG (λm' hm=>by
  obtain⟨o',es',Nq,ho',r'⟩:=hm;rw[ho]at ho';cases ho';exact⟨_,es',Nq,hL,r'⟩) hok I.bare
theorem Inv.call{g':Array GenState}{t':Nat}{d':Drawn}{ch:List Addr}(I:Inv X pins σ H s)(u:Un (frs X.stack) ch H H' s.heap h')(hok:eT X.prog X.w H' h')(hg:AllBare g')
  (hch:∀b∈ch,(b∈X.ex\/X.s₀.heap.objs.size<=b)/\b≠X.env.locals/\(∀x c,X.env.cells.lookup x=some c->c≠b)/\∀p∈X.pn++pins,p.1≠b) :
  Inv X pins σ H' { s with heap:=h',gens:=g',drawn:=d',toks:=t' }:=by
 obtain⟨m,⟨o,es,ep,ho,r⟩,_⟩:=id I.loc;obtain⟨sl,hL⟩:=u.any ho I.free λz=>(hch _ z).2.1 rfl;exact I.step (ch:=ch) hch (λb o hL hb hc e n=>u.keep b o e n (λz=>(awk.mp (I.oG b z)).elim hL hb) hc) (λb o _ _ hc e n=>u.any e n hc) (λb o hc e n=>u.free b o e n hc) (λb o hc e=>u.there b o e hc) u.tups u.j6 u.kG (λm' hm=>by
  obtain⟨o',es',Nq,ho',r'⟩:=hm;rw[ho]at ho';cases ho';exact⟨_,es',Nq,hL,r'⟩) hok hg
theorem Inv.turned{t':Nat}{it:Addr}(I:Inv X pins σ H s)(k:∀b o,b≠it->s.heap.get? b=some o->h'.get? b=some o)(hn:H it=none)(hL:it≠X.env.locals)
  (h1:it∈X.ex\/X.s₀.heap.objs.size<=it) (h2:∀x c,X.env.cells.lookup x=some c->c≠it) (h3:∀p∈X.pn++pins,p.1≠it):Inv X pins σ H { s with heap:=h',toks:=t' }:=by
 have PR:∀b u,H b=some u->b≠it:=λb u e z=>by rw[z,hn]at e;cases e
 refine I.step (g':=s.gens) (d':=s.drawn) (ch:=[it]) (λb hb=>?_) (λb o _ _ hc e _=>k b o (λz=>hc (by simp[z])) e) (λb o _ _ hc e _=>⟨o.slots,k b o (λz=>hc (by simp[z])) e⟩) (λ_ _ _ _ n=>n)
  (λb o hc e=>⟨o,k b o (λz=>hc (by simp[z])) e⟩) (λ_ _ e=>e) (λ_ _ _ e=>e) (λ_ _ _ e=>e) (λm hm=>?_) (λb u e=>?_) I.bare
 .have e:b=it:=by simpa using hb
  subst e;exact⟨h1,hL,h2,h3⟩
 .obtain ⟨o,es,ep,ho,r⟩:=hm;exact⟨o,es,ep,k _ o (aWz hL) ho,r⟩
 .refine (I.hok b u e).stay (λc v hc q=>k c v ?_ q) (λ_ q=>q) λ_ _ q=>q;rcases hc with z|z
  .rw [z];exact PR b u e
  .exact PR c _ z
theorem Inv.tok(I:Inv X pins σ H s)(t:Nat):Inv X pins σ H { s with toks:=t }:=I.un (h':=s.heap) (t':=t) Un.refl I.hok
theorem Inv.kept{t':Nat}(I:Inv X pins σ H s)(k:∀b u,s.heap.get? b=some u->h'.get? b=some u):Inv X pins σ H { s with heap:=h',toks:=t' }:=I.un (Un.kept k) (I.hok.kept k)
theorem Inv.laid{a:Addr}{o:HO}{t':Nat}(I:Inv X pins σ H s)(k:∀b u,s.heap.get? b=some u->h'.get? b=some u)(hp:s.heap.objs.size<=a)(new:aF X.prog X.w (upd H a o) h' a o) :
  Inv X pins σ (upd H a o) { s with heap:=h',toks:=t' }:=I.un (Un.laid k hp (I.hok.fresh hp)) (I.hok.laid k hp new)
theorem Inv.write{x e:Addr}{o:HO}{t':Nat}(I:Inv X pins σ H s)(mu:Jt (H x))(he:e=x\/H e=some (.own x))(k:∀b u,b≠e->s.heap.get? b=some u->h'.get? b=some u)(Ey:∃u,h'.get? e=some u)
  (new:aF X.prog X.w (upd H x o) h' x o):Inv X pins σ (upd H x o) { s with heap:=h',toks:=t' }:=I.un (Un.write mu he k Ey) (I.hok.write mu he k Ey new)
theorem Inv.uI{bY:List (Addr×Obj)}(I:Inv X pins σ H s)(h:∀p∈bY,s.heap.get? p.1=some p.2/\H p.1=none/\p.1≠X.env.locals/\p.1∉X.fs/\∀v,p.2.data≠.cell v):Inv X bY σ H s:=
 ⟨I.ok,I.os,I.bare,I.base,I.loc,I.cell,I.free,I.dM,λp hp=>(aXY.mp hp).elim (λz=>I.pin p (ata _ z)) (h p),I.hok,I.len⟩
theorem Uh{N:List Str}(hN:N.Nodup){i j:Nat}{x:Str}(a:N[i]?=some x)(b:N[j]?=some x):i=j:=by
 obtain⟨h1,e1⟩:=ajE.mp a;obtain⟨h2,e2⟩:=ajE.mp b;exact(List.getElem_inj hN).mp (e1.trans e2.symm)
theorem Ui{M:Model}{A:Around}{E:Value->Shared->Prop}{i:Nat}{x:Str}{v:V}{u:Value}{Q:Unit->Shared->Prop}(I:Inv X pins σ H s)(hN:X.N.Nodup)(hi:X.N[i]?=some x)(hx:Loc X.env.scope x)(r:RelV v u)
  (h:∀s',Inv X pins (σ.set i (some v)) H s'->(∃a,Heap.SameBut a s.heap s'.heap/\(a=X.env.locals\/X.env.cells.lookup x=some a))->Q () s') (hf:X.fn x=true\/X.env.scope.names.lookup x=some .local:=by first|exact .inl rfl|exact .inr rfl|assumption):wpAny M A (storeName X.env x u) Q E s:=by
 obtain⟨m,hn,hl⟩:=id I.loc;have hcls:(X.env.scope.kind == .class || (X.env.scope.kind == .module && X.env.locals !=X.env.globals))=false:=by rw[I.ok.kind];rfl
 have HH:i<σ.length:=by rw[I.len];exact(ajE.mp hi).1
 have ze:=I.ze;have tracked:∀{a:Addr}{h':Heap},(∃o,s.heap.get? a=some o/\H a=none)->Heap.SameBut a s.heap h'->eT X.prog X.w H h':=λ{a h'} ha hs b ob e=>by
  obtain⟨_,_,hfree⟩:=ha;refine(I.hok b ob e).stay (λc w' hc q=>(hs.2 c ?_).trans q) (λ_ q=>q) λ_ _ q=>q;rintro rfl;rcases hc with rfl|hc
  .rw [hfree]at e;cases e
  .rw [hfree]at hc;cases hc
 rcases hx with hk|hk
 .refine wpAny_storeName_local hk hn (λh' hn' hs=>?_) hcls;obtain⟨oL,_,_,qc,_⟩:=id hn;refine h _ ⟨I.ok,I.os,I.bare,⟨λb o e n hb hx=>?_,λb o e n hb hx=>?_,I.base.free,λb o e hx=>?_,I.base.tups,I.base.j6,I.base.kG⟩,⟨_,hn',λj y v' e1 e2 e3=>?_⟩,λy c e=>?_,I.free,I.dM,λp hp=>?_,tracked ⟨oL,qc,I.free⟩ hs,by simpa using I.len⟩ ⟨_,hs,.inl rfl⟩
  .exact (hs.2 b (aor (aKk (aPy e) I.ok.above))).trans (I.base.keep b o e n hb hx)
  .obtain ⟨sl,e1⟩:=I.base.slot b o e n hb hx;exact⟨sl,(hs.2 b (aor (aKk (aPy e) I.ok.above))).trans e1⟩
  .obtain ⟨o',e1⟩:=I.base.there b o e hx;exact⟨o',(hs.2 b (aor (aKk (aPy e) I.ok.above))).trans e1⟩
  .by_cases hj:j=i
   .subst hj;rw[hi]at e1;cases e1;rw[a7U HH]at e2;cases e2;exact⟨u,r,.inl ⟨hk,by simp⟩⟩
   .rw [aSg (aWz hj)]at e2;obtain⟨u',r',q⟩:=hl j y v' e1 e2 e3;refine⟨u',r',?_⟩;rcases q with⟨k,e⟩|⟨k,c,e,z⟩
    .refine .inl ⟨k,?_⟩;have:y≠x:=λe=>hj (Uh hN e1 (e ▸hi));simp[this,e]
    .exact .inr ⟨k,c,e,z.sameBut hs (ze y c e)⟩
  .obtain ⟨w',z⟩:=I.cell y c e;exact⟨w',z.sameBut hs (ze y c e)⟩
  .obtain ⟨e,n,ne,nf,d⟩:=I.pin p hp;exact⟨(hs.2 p.1 ne).trans e,n,ne,nf,d⟩
 .have hfn:X.fn x=true:=by
   rcases hf with z|z
   .exact z
   .rw [z]at hk;cases hk
  obtain⟨c,hc⟩:=I.ok.has x (.inl hk);obtain⟨w',z⟩:=I.cell x c hc;refine wpAny_storeName_cell I.ok.kind hk hc z (λh' hc' hs=>?_);obtain⟨oc,hoc,MQ⟩:=id z;refine h { s with heap:=h' } ⟨I.ok,I.os,I.bare,⟨λb o e n hb hx=>?_,λb o e n hb hx=>?_,I.base.free,λb o e hx=>?_,I.base.tups,I.base.j6,I.base.kG⟩,⟨m,hn.sameBut hs (aWz (ze x c hc)),λj y v' e1 e2 e3=>?_⟩,λy c' e=>?_,I.free,I.dM,λp hp=>?_,tracked ⟨oc,hoc,I.dM x c hc⟩ hs,by simpa using I.len⟩ ⟨c,hs,.inr hc⟩
  .exact (hs.2 b (aor (aKk (aPy e) (I.ok.Ij x c hfn hc)))).trans (I.base.keep b o e n hb hx)
  .obtain ⟨sl,e1⟩:=I.base.slot b o e n hb hx;exact⟨sl,(hs.2 b (aor (aKk (aPy e) (I.ok.Ij x c hfn hc)))).trans e1⟩
  .obtain ⟨o',e1⟩:=I.base.there b o e hx;exact⟨o',(hs.2 b (aor (aKk (aPy e) (I.ok.Ij x c hfn hc)))).trans e1⟩
  .by_cases hj:j=i
   .subst hj;rw[hi]at e1;cases e1;rw[a7U HH]at e2;cases e2;exact⟨u,r,.inr ⟨.inl hk,c,hc,hc'⟩⟩
   .rw [aSg (aWz hj)]at e2;obtain⟨u',r',q⟩:=hl j y v' e1 e2 e3;refine⟨u',r',?_⟩;rcases q with q|⟨k,c',e,z'⟩
    .exact .inl q
    .refine .inr ⟨k,c',e,z'.sameBut hs ?_⟩;rintro rfl;exact hj (Uh hN e1 (I.ok.inj _ _ _ e hc ▸hi))
  .by_cases hcc:c'=c
   .subst hcc;exact⟨_,hc'⟩
   .obtain ⟨w2,z2⟩:=I.cell y c' e;exact⟨w2,z2.sameBut hs hcc⟩
  .obtain ⟨e,n,ne,nf,d⟩:=I.pin p hp;refine⟨(hs.2 p.1 ?_).trans e,n,ne,nf,d⟩;intro q;rw[q,hoc]at e;have q':oc=p.2:=asK e;exact d w' (by rw[<-q'];exact MQ)
theorem Li{M:Model}{A:Around}{E:Value->Shared->Prop}{i:Nat}{x:Str}{v:V}{u:Value}{Q:Unit->Shared->Prop}(I:Inv X pins σ H s)(hN:X.N.Nodup)(hi:X.N[i]?=some x)(hx:Loc X.env.scope x)(r:RelV v u)
  (h:∀s',Inv X pins (σ.set i (some v)) H s'->Q () s') (hf:X.fn x=true\/X.env.scope.names.lookup x=some .local:=by first|exact .inl rfl|exact .inr rfl|assumption):wpAny M A (storeName X.env x u) Q E s:=
 Ui I hN hi hx r (λs' I' _=>h s' I') hf
theorem Inv.Ii{s':Shared}{ch:List Addr}(I:Inv X pins σ H s)(ho:s'.os=s.os)(u:Un (frs X.stack) ch H H' s.heap s'.heap)(hok:eT X.prog X.w H' s'.heap)(hg:AllBare s'.gens)
  (hch:∀b∈ch,(b∈X.ex\/X.s₀.heap.objs.size<=b)/\b≠X.env.locals/\(∀x c,X.env.cells.lookup x=some c->c≠b)/\∀p∈X.pn++pins,p.1≠b):Inv X pins σ H' s':=by
 obtain⟨h',g',d',t',o'⟩:=s';have e:o'=s.os:=ho;subst e;exact I.call (g':=g') (t':=t') (d':=d') u hok hg hch
end
abbrev XK:=Value->Option Addr->Hp->Prop
abbrev St:=List (Option V)
abbrev VK:=V->Hp->Prop
abbrev TE:=St->Hp->VK->Prop
abbrev TT:=St->Hp->(Bool->Hp->Prop)->Prop
abbrev TA:=St->Hp->(List V->Hp->Prop)->Prop
structure Ends where
 nx:St->Hp->Prop
 rt:VK
 bk:St->Hp->Prop:=λ_ _=>False
 ct:St->Hp->Prop:=λ_ _=>False
abbrev TS:=Ends->St->Hp->Prop
def EP(X:Cx)(pins:List (Addr×Obj))(σ:St)(Q:VK)(u:Value)(s':Shared):Prop:=∃v H',Inv X pins σ H' s'/\RelV v u/\Q v H'
def TP(X:Cx)(pins:List (Addr×Obj))(σ:St)(Q:Bool->Hp->Prop)(b:Bool)(s':Shared):Prop:=∃H',Inv X pins σ H' s'/\Q b H'
def AP(X:Cx)(pins:List (Addr×Obj))(σ:St)(Q:List V->Hp->Prop)(us:List Value)(s':Shared):Prop:=∃vs H',Inv X pins σ H' s'/\Vals vs us/\Q vs H'
def SP(X:Cx)(pins:List (Addr×Obj))(D:Ends)(f:Flow)(s':Shared):Prop:=
 match f with
 | .next=>∃ σ' H',Inv X pins σ' H' s'/\D.nx σ' H'
 | .brk=>∃ σ' H',Inv X pins σ' H' s'/\D.bk σ' H'
 | .cont=>∃ σ' H',Inv X pins σ' H' s'/\D.ct σ' H'
 | .ret u=>∃v σ' H',Inv X pins σ' H' s'/\RelV v u/\D.rt v H'
def PE(X:Cx)(e:Expr)(t:TE):Prop:=
 ∀(pins:List (Addr×Obj))(s:Shared)(σ:St)(H:Hp)(Q:VK),Inv X pins σ H s->t σ H Q->wpAny (model X.prog X.w) X.A (eval e X.env) (EP X pins σ Q) X.xe s
def PT(X:Cx)(e:Expr)(t:TT):Prop:=
 ∀(pins:List (Addr×Obj))(s:Shared)(σ:St)(H:Hp)(Q:Bool->Hp->Prop),Inv X pins σ H s->t σ H Q->wpAny (model X.prog X.w) X.A (isTrue e X.env (eval e X.env)) (TP X pins σ Q) X.xe s
def PW(X:Cx)(e:Expr)(t:TT):Prop:=
 ∀(whole:Sem Value)(pins:List (Addr×Obj))(s:Shared)(σ:St)(H:Hp)(Q:Bool->Hp->Prop),Inv X pins σ H s->t σ H Q->wpAny (model X.prog X.w) X.A (isTrue e X.env whole) (TP X pins σ Q) X.xe s
theorem PW.pt{X:Cx}{e:Expr}{t:TT}(h:PW X e t):PT X e t:=h _
def PA(X:Cx)(es:List Expr)(t:TA):Prop:=
 ∀(pos:Pos)(pins:List (Addr×Obj))(s:Shared)(σ:St)(H:Hp)(Q:List V->Hp->Prop),Inv X pins σ H s->t σ H Q->wpAny (model X.prog X.w) X.A (spliced (backTo pos (starEach es X.env))) (AP X pins σ Q) X.xe s
def PS(X:Cx)(st:Stmt)(t:TS):Prop:=
 ∀(pins:List (Addr×Obj))(s:Shared)(σ:St)(H:Hp)(D:Ends),Inv X pins σ H s->t D σ H->wpAny (model X.prog X.w) X.A (exec st X.env) (SP X pins D) X.xe s
def vM(X:Cx)(st:List Stmt)(t:TS):Prop:=
 ∀(pins:List (Addr×Obj))(s:Shared)(σ:St)(H:Hp)(D:Ends),Inv X pins σ H s->t D σ H->wpAny (model X.prog X.w) X.A (execs st X.env) (SP X pins D) X.xe s
theorem bZ{α:Type}{t:Sem α}{Q Q':α->Shared->Prop}{M:Model}{A:Around}{E:Value->Shared->Prop}{s:Shared}(h:wpAny M A t Q E s)(hQ:∀a s,Q a s->Q' a s):wpAny M A t Q' E s:=aZU h hQ λ_ _ x=>x
theorem fF{t:Sem Value}{Q:VK}{Q':Value ->Shared ->Prop}{M:Model}{A:Around}{E:Value ->Shared ->Prop}{s:Shared}{X:Cx}{pins:List (Addr ×Obj)}{σ:St}(h:wpAny M A t (EP X pins σ Q) E s)(k: ∀v s x H,Inv X pins σ H s ->RelV x v ->Q x H ->Q' v s):wpAny M A t Q' E s:=aZU h (λv s z=>by obtain⟨x,H,i,r,q⟩:=z;exact k v s x H i r q) λ_ _ x=>x
theorem tS{t:Sem (List Value)}{Q:List V ->Hp ->Prop}{Q':List Value ->Shared ->Prop}{M:Model}{A:Around}{E:Value ->Shared ->Prop}{s:Shared}{X:Cx}{pins:List (Addr ×Obj)}{σ:St}(h:wpAny M A t (AP X pins σ Q) E s)(k: ∀v s x H,Inv X pins σ H s ->Vals x v ->Q x H ->Q' v s):wpAny M A t Q' E s:=aZU h (λv s z=>by obtain⟨x,H,i,r,q⟩:=z;exact k v s x H i r q) λ_ _ x=>x
section
variable{X:Cx}
def zB(i:Nat):TE:=λσ H Q=>∃v,σ[i]?=some (some v)/\Q v H
def tC(v:V):TE:=λ_ H Q=>Q v H
theorem Zkw{i:Nat}{x:Str}{pos:Pos}(hN:X.N[i]?=some x)(hv:Jj X.env.scope x)(hd:(x ==("__debug__":Str))=false:=by decide)(hcd:(x ==("__classdict__":Str))=false:=by decide):PE X (.Name x pos) (zB i):=by
 intro pins s σ H Q I h;obtain⟨v,e,h⟩:=h;obtain⟨m,hn,hl⟩:=I.loc;obtain⟨u,r,l⟩:=hl i x v hN e hv;have fin:EP X pins σ Q u s:=⟨v,H,I,r,h⟩;rcases l with⟨hk,hm⟩|⟨hk,c,hc,hcell⟩
 .exact wpAny_Name (wpAny_loadName_local I.ok.kind hk hn hm fin) hd
 .rcases hk with hk|hk
  .exact wpAny_Name (wpAny_loadName_cell I.ok.kind hk hc hcell fin) hd
  .exact wpAny_Name (wpAny_loadName_free I.ok.kind hk hc hcell fin hcd) hd
theorem Zi{i j pos}:PE X (.Constant (.int i) j pos) (tC (.int i)):=λ_ _ _ H _ I h=>wpAny_Constant_int ⟨.int i,H,I.tok _,⟨_,rfl⟩,h⟩
theorem d7{b j pos}:PE X (.Constant (.bool b) j pos) (tC (.bl b)):=λ_ _ _ H _ I h=>Constant_bool ⟨.bl b,H,I,rfl,h⟩
theorem Sh{j pos}:PE X (.Constant .none j pos) (tC .aO):=λ_ _ _ H _ I h=>Constant_none ⟨.aO,H,I,rfl,h⟩
theorem ZU{x j pos}:PE X (.Constant (.str x) j pos) (tC (.str x)):=λ_ _ _ H _ I h=>Calls.Constant_str ⟨.str x,H,I.tok _,⟨_,rfl⟩,h⟩
def Gl(X:Cx)(x:Str):Prop:=X.env.kindOf x=some .globalImplicit
theorem K6{E:Value->Shared->Prop}{pins:List (Addr×Obj)}{s:Shared}{σ:St}{H:Hp}{x:Str}{u:Value}{pos:Pos}{Q:Value->Shared->Prop}(I:Inv X pins σ H s)(hg:Gl X x)(hm:X.mg x=some u)(h:Q u s)
  (hd:(x ==("__debug__":Str))=false:=by decide):wpAny (model X.prog X.w) X.A (eval (.Name x pos) X.env) Q E s:=
 Calls.Name_function_global I.ok.kind hg (Calls.loadGlobal_global (by rw[I.ok.glob];exact I.mod.glob.keeps I.bk) hm h) hd
theorem zl{E:Value->Shared->Prop}{pins:List (Addr×Obj)}{s:Shared}{σ:St}{H:Hp}{x:Str}{u:Value}{pos:Pos}{Q:Value->Shared->Prop}(I:Inv X pins σ H s)(hg:Gl X x)(hm:X.mg x=none)(hv:bootBuiltins x=some u)(h:Q u s)
  (hn:x ≠ "__name__":=by decide) (hd:(x ==("__debug__":Str))=false:=by decide):wpAny (model X.prog X.w) X.A (eval (.Name x pos) X.env) Q E s:=by
 obtain⟨mb,h1,h2⟩:=I.mod.blt;exact Calls.Name_function_global I.ok.kind hg (Calls.loadGlobal_builtin (by rw[I.ok.glob];exact I.mod.glob.keeps I.bk) hm (by rw[I.ok.blt];exact h1.keeps I.bk) ((h2 x hn).trans hv) h) hd
theorem S9{x:Str}{v:V}{u:Value}{pos:Pos}(hg:Gl X x)(hm:X.mg x=some u)(r:RelV v u)(hd:(x ==("__debug__":Str))=false:=by decide):PE X (.Name x pos) (tC v):=
 λ_ _ _ H _ I h=>K6 I hg hm ⟨v,H,I,r,h⟩ hd
theorem wo{x:Str}{v:V}{u:Value}{pos:Pos}(hg:Gl X x)(hm:X.mg x=none)(hv:bootBuiltins x=some u)(r:RelV v u)(hn:x ≠ "__name__":=by decide)(hd:(x ==("__debug__":Str))=false:=by decide):PE X (.Name x pos) (tC v):=
 λ_ _ _ H _ I h=>zl I hg hm hv ⟨v,H,I,r,h⟩ hn hd
variable{a b:Expr}{ta tb:TE}{pos:Pos}
def PC(X:Cx)(op:CmpOp)(a b:Expr)(t:TE):Prop:=
 ∀(pins:List (Addr×Obj))(s:Shared)(σ:St)(H:Hp)(Q:VK),Inv X pins σ H s->t σ H Q ->
  wpAny (model X.prog X.w) X.A (eval a X.env) (λv s₁=>wpAny (model X.prog X.w) X.A (eval b X.env) (λu s₂=>wpAny (model X.prog X.w) X.A (compareOp op v u) (EP X pins σ Q) X.xe s₂) X.xe s₁) X.xe s
theorem Ug(b:Expr){op:CmpOp}(h:op≠.In)(h2:op≠.NotIn):behindInMarks op b=false:=by
 have e1:(op ==CmpOp.In)=false:=by cases op <;> first|rfl|exact absurd rfl h
 have e2:(op ==CmpOp.NotIn)=false:=by cases op <;> first|rfl|exact absurd rfl h2
 cases b <;> simp[behindInMarks,e1,e2]
def LF(ta:TE):TE:=λσ H Q=>ta σ H λx H1=>Q (.bl (decide (x=.aO))) H1
def Fy(ta:TE):TE:=λσ H Q=>ta σ H λx H1=>Q (.bl (!decide (x=.aO))) H1
theorem RelV.qR{x:V}{v:Value}(r:RelV x v):(v ==Value.none)=decide (x=.aO):=by
 cases x with
 |aO=>cases r;rfl
 |bl _=>cases r;rfl
 |int _=>obtain⟨t,rfl⟩:=r;rfl
 |str _=>obtain⟨t,rfl⟩:=r;rfl
 |vJ _=>obtain⟨t,rfl⟩:=r;rfl
 |Ay _=>obtain⟨t,rfl⟩:=r;rfl
 |ref _=>cases r;rfl
 |ty _=>cases r;rfl
theorem Zkx{j pos'}(ha:PE X a ta):PC X .Is a (.Constant .none j pos') (LF ta):=by
 intro pins s σ H Q I h;refine fF (ha pins s σ H _ I h) λv s1 x H1 I1 r1 q1=>?_;exact Constant_none (is_none_gen ⟨.bl _,H1,I1,by rw[r1.qR];rfl,q1⟩)
theorem N2{j pos'}(ha:PE X a ta):PC X .IsNot a (.Constant .none j pos') (Fy ta):=by
 intro pins s σ H Q I h;refine fF (ha pins s σ H _ I h) λv s1 x H1 I1 r1 q1=>?_;exact Constant_none (isnot_none_gen ⟨.bl _,H1,I1,by rw[r1.qR];rfl,q1⟩)
def tB(t:TE):TT:=λσ H Q=>t σ H λx H1=>∃c,x=.bl c/\Q c H1
theorem Sg{op:CmpOp}{t:TE}(h:PC X op a b t)(h1:behindInMarks op b=false:=by first|exact Ug _ (by decide) (by decide)|rfl):PE X (.Compare a [op] [b] pos) t:=λpins s σ H Q I hw=>wpAny_Compare1 (h pins s σ H Q I hw) h1
theorem KN{op:CmpOp}{t:TE}(h:PC X op a b t)(h1:behindInMarks op b=false:=by first|exact Ug _ (by decide) (by decide)|rfl):PT X (.Compare a [op] [b] pos) (tB t):=by
 intro pins s σ H Q I hw;refine wpAny_isTrue_Compare1 (bZ (h pins s σ H _ I hw) λv s1 h1=>bZ h1 λu s2 h2=>bZ h2 λc s3 ⟨x,H1,I1,r1,q1⟩=>?_) h1;obtain⟨d,rfl,q⟩:=q1;cases r1;exact a3P ⟨H1,I1,q⟩
theorem ZI{e:Expr}{t:TE}(h:PE X e t)(he:∀whole,isTrue e X.env whole=(do let v <-whole;standAt e.pos;holding [v] (truthy v)):=by intro _;rfl):PT X e (tB t):=by
 intro pins s σ H Q I hw;refine isTrue_plain (fF (h pins s σ H _ I hw) λv s1 x H1 I1 r1 q1=>?_) (he _);obtain⟨d,rfl,q⟩:=q1;cases r1;exact a3P ⟨H1,I1,q⟩
variable{tA JN:TT}{rest:List Expr}
def LJ(t u:TT):TT:=λσ H Q=>t σ H λc H1=>if c=true then u σ H1 Q else Q false H1
def Ph(t u:TT):TT:=λσ H Q=>t σ H λc H1=>if c=true then Q true H1 else u σ H1 Q
def LD(t:TT):TT:=λσ H Q=>t σ H λc H1=>Q (!c) H1
theorem Cd(ha:PT X a tA):PW X (.BoolOp .And [a] pos) tA:=by
 intro wh pins s σ H Q I h;refine isTrue_and (bZ (ha pins s σ H Q I h) λc s1 e=>?_);cases c with
 |true=>exact isTrue_and_nil e
 |false=>exact e
theorem EC(ha:PT X a tA):PW X (.BoolOp .Or [a] pos) tA:=by
 intro wh pins s σ H Q I h;refine isTrue_or (bZ (ha pins s σ H Q I h) λc s1 e=>?_);cases c with
 |false=>exact isTrue_or_nil e
 |true=>exact e
theorem AD(ha:PT X a tA)(hb:PW X (.BoolOp .And (b ::rest) pos) JN):PW X (.BoolOp .And (a ::b ::rest) pos) (LJ tA JN):=by
 intro wh pins s σ H Q I h;refine isTrue_and (bZ (ha pins s σ H _ I h) λc s1 ⟨H1,I1,q1⟩=>?_);cases c with
 |true=>exact hb wh pins s1 σ H1 Q I1 q1
 |false=>exact⟨H1,I1,q1⟩
theorem pw_or(ha:PT X a tA)(hb:PW X (.BoolOp .Or (b ::rest) pos) JN):PW X (.BoolOp .Or (a ::b ::rest) pos) (Ph tA JN):=by
 intro wh pins s σ H Q I h;refine isTrue_or (bZ (ha pins s σ H _ I h) λc s1 ⟨H1,I1,q1⟩=>?_);cases c with
 |true=>exact⟨H1,I1,q1⟩
 |false=>exact hb wh pins s1 σ H1 Q I1 q1
theorem zk(ha:PT X a tA):PT X (.UnaryOp .Not a pos) (LD tA):=by
 intro pins s σ H Q I h;exact isTrue_not (ha pins s σ H (λc H1=>Q (!c) H1) I h)
def FG(ta tb:TE):TE:=λσ H Q=>ta σ H λx H1=>∃c,x=.bl c/\if c=true then tb σ H1 Q else Q (.bl false) H1
def LC(ta tb:TE):TE:=λσ H Q=>ta σ H λx H1=>∃c,x=.bl c/\if c=true then Q (.bl true) H1 else tb σ H1 Q
theorem IA{op}{t:TE}(h:PE X a t):PE X (.BoolOp op [a] pos) t:=λpins s σ H Q I hw=>BoolOp_one (h pins s σ H Q I hw)
theorem IE(ha:PE X a ta)(hb:PE X (.BoolOp .And (b ::rest) pos) tb):PE X (.BoolOp .And (a ::b ::rest) pos) (FG ta tb):=by
 intro pins s σ H Q I h;refine BoolOp_and (fF (ha pins s σ H _ I h) λv s1 x H1 I1 r1 q1=>?_);obtain⟨c,rfl,q1⟩:=q1;cases r1;refine a3P ?_;cases c with
 |true=>exact hb pins s1 σ H1 Q I1 q1
 |false=>exact⟨.bl false,H1,I1,rfl,q1⟩
theorem BF(ha:PE X a ta)(hb:PE X (.BoolOp .Or (b ::rest) pos) tb):PE X (.BoolOp .Or (a ::b ::rest) pos) (LC ta tb):=by
 intro pins s σ H Q I h;refine BoolOp_or (fF (ha pins s σ H _ I h) λv s1 x H1 I1 r1 q1=>?_);obtain⟨c,rfl,q1⟩:=q1;cases r1;refine a3P ?_;cases c with
 |false=>exact hb pins s1 σ H1 Q I1 q1
 |true=>exact⟨.bl true,H1,I1,rfl,q1⟩
def Wi(t:TT)(ta tb:TE):TE:=λσ H Q=>t σ H λc H1=>if c=true then ta σ H1 Q else tb σ H1 Q
theorem DP{c:Expr}(hc:PT X c tA)(ha:PE X a ta)(hb:PE X b tb):PE X (.IfExp c a b pos) (Wi tA ta tb):=by
 intro pins s σ H Q I h;refine wpAny_IfExp (bZ (hc pins s σ H _ I h) λd s1 ⟨H1,I1,q1⟩=>?_);cases d with
 |true=>exact ha pins s1 σ H1 Q I1 q1
 |false=>exact hb pins s1 σ H1 Q I1 q1
end
def ao(K:W.Frag)(H:Hp)(a:Addr)(xs:List V):Prop:=
 Rd H a (.lst xs) \/
  ∃(o:Obj)(its:Array Value)(n:Nat),K.lookup a=some o/\o.cls=.type "list" /\o.dict=none/\o.data=.seq its n/\its.size<=sizeLine/\Vals xs its.toList
def aP(K:W.Frag)(H:Hp)(a:Addr)(xs:List V):Prop:=
 Rd H a (.tup xs) \/
  ∃(o:Obj)(its:Array Value)(n:Nat),K.lookup a=some o/\o.cls=.type "tuple" /\o.data=.seq its n/\its.size<=sizeLine/\Vals xs its.toList
def NI:Value->Option V
 | .none=>some .aO
 | .bool b=>some (.bl b)
 | .int i _=>some (.int i)
 | .str x _=>some (.str x)
 | .bytes b _=>some (.vJ b)
 | .float b _=>some (.Ay b)
 | .ref a=>some (.ref a)
 | .type n=>some (.ty n)
 |_=>none
theorem RelV.abs{x:V}{u:Value}(r:RelV x u):NI u=some x:=by
 cases x with
 |aO=>cases r;rfl
 |bl _=>cases r;rfl
 |int _=>obtain⟨t,rfl⟩:=r;rfl
 |str _=>obtain⟨t,rfl⟩:=r;rfl
 |vJ _=>obtain⟨t,rfl⟩:=r;rfl
 |Ay _=>obtain⟨t,rfl⟩:=r;rfl
 |ref _=>cases r;rfl
 |ty _=>cases r;rfl
theorem RelV.inj{x y:V}{u:Value}(r:RelV x u)(q:RelV y u):x=y:=asK (r.abs.symm.trans q.abs)
theorem Vals.inj:∀{xs ys:List V}{us:List Value},Vals xs us->Vals ys us->xs=ys
 |_,_,_,.nil,.nil=>rfl
 |_,_,_,.cons r t,.cons r' t'=>by rw[r.inj r',Vals.inj t t']
section
variable{X:Cx}{pins:List (Addr×Obj)}{σ:St}{H:Hp}{s:Shared}{a:Addr}{xs ys:List V}
theorem ao.of{K:W.Frag}(h:H a=some (.lst xs)):ao K H a xs:=.inl (.inl h)
theorem aP.of{K:W.Frag}(h:H a=some (.tup xs)):aP K H a xs:=.inl (.inl h)
theorem Inv.list(I:Inv X pins σ H s)(h:ao X.K H a xs):∃its:List Value,Vals xs its/\PlainL s.heap a its.toArray/\xs.length<=sizeLine:=by
 rcases h with h|⟨o,its,n,hk,hc,hd,hs,hz,r⟩
 .obtain ⟨z,its,n,r,e⟩:=h.ok I.hok;exact⟨its,r,⟨_,n,e,rfl,rfl,rfl⟩,z⟩
 .refine ⟨its.toList,r,⟨o,n,I.dR a o hk,hc,hd,by simpa using hs⟩,?_⟩;have e:=r.length;simp only[apo]at e;lia
theorem Inv.tuple(I:Inv X pins σ H s)(h:aP X.K H a xs):∃its:List Value,Vals xs its/\IsTup s.heap a its.toArray/\xs.length<=sizeLine:=by
 rcases h with h|⟨o,its,n,hk,hc,hs,hz,r⟩
 .obtain ⟨z,its,r,p⟩:=h.ok I.hok;exact⟨its,r,p,z⟩
 .refine ⟨its.toList,r,⟨o,I.dR a o hk,hc,n,by simpa using hs⟩,?_⟩;have e:=r.length;simp only[apo]at e;lia
theorem Inv.fC(I:Inv X pins σ H s)(h:ao X.K H a xs)(h':ao X.K H a ys):xs=ys:=by
 obtain⟨its,r,⟨o,n,e,_,_,d⟩,_⟩:=I.list h;obtain⟨its',r',⟨o',n',e',_,_,d'⟩,_⟩:=I.list h';rw[e]at e';cases e';rw[d]at d';injection d' with d1 _
 have:its=its':=by simpa using agz Array.toList d1
 subst this;exact r.inj r'
theorem Inv.fE(I:Inv X pins σ H s)(h:aP X.K H a xs)(h':aP X.K H a ys):xs=ys:=by
 obtain⟨its,r,⟨o,e,_,n,d⟩,_⟩:=I.tuple h;obtain⟨its',r',⟨o',e',_,n',d'⟩,_⟩:=I.tuple h';rw[e]at e';cases e';rw[d]at d';injection d' with d1 _
 have:its=its':=by simpa using agz Array.toList d1
 subst this;exact r.inj r'
end
abbrev Cx.mK(X:Cx)(E:Value->Shared->Prop):Cx:={ X with xe:=E }
abbrev Cx.CP(X:Cx):Cx:=X.mK λ_ _=>False
theorem Cx.Ok.mK{X:Cx}(ok:X.Ok)(E:Value->Shared->Prop):(X.mK E).Ok:=
 ⟨ok.mod,ok.kind,ok.glob,ok.blt,ok.above,ok.inj,ok.has,ok.Ij,ok.hd,ok.frames,ok.stk,ok.Kv,ok.bs,ok.zf,ok.xY,ok.yw,ok.j5,ok.Dl⟩
theorem Cx.Ok.eU{X:Cx}{E:Value->Shared->Prop}(ok:(X.mK E).Ok):X.Ok:=
 ⟨ok.mod,ok.kind,ok.glob,ok.blt,ok.above,ok.inj,ok.has,ok.Ij,ok.hd,ok.frames,ok.stk,ok.Kv,ok.bs,ok.zf,ok.xY,ok.yw,ok.j5,ok.Dl⟩
section
variable{X:Cx}{pins:List (Addr×Obj)}{σ:St}{H:Hp}{s:Shared}{E:Value->Shared->Prop}
theorem Inv.mK(I:Inv X pins σ H s)(E:Value->Shared->Prop):Inv (X.mK E) pins σ H s:=⟨I.ok.mK E,I.os,I.bare,I.base,I.loc,I.cell,I.free,I.dM,I.pin,I.hok,I.len⟩
theorem Inv.eU(I:Inv (X.mK E) pins σ H s):Inv X pins σ H s:=⟨I.ok.eU,I.os,I.bare,I.base,I.loc,I.cell,I.free,I.dM,I.pin,I.hok,I.len⟩
theorem SP.eU{D:Ends}{f:Flow}{s':Shared}(h:SP (X.mK E) pins D f s'):SP X pins D f s':=by
 cases f with
 |next=>obtain⟨σ',H',I,q⟩:=h;exact⟨σ',H',I.eU,q⟩
 |brk=>obtain⟨σ',H',I,q⟩:=h;exact⟨σ',H',I.eU,q⟩
 |cont=>obtain⟨σ',H',I,q⟩:=h;exact⟨σ',H',I.eU,q⟩
 |ret u=>obtain⟨v,σ',H',I,r,q⟩:=h;exact⟨v,σ',H',I.eU,r,q⟩
theorem vM.CP{st:List Stmt}{t:TS}(h:vM X.CP st t):vM X st t:=λpins s σ H D I hw=>
 aZU (h pins s σ H D (I.mK _) hw) (λ_ _ q=>q.eU) λ_ _ z=>False.elim z
end
section
variable{X:Cx}{st:Stmt}{rest:List Stmt}{t u:TS}{e:Expr}{te:TE}{pos:Pos}
def dw:TS:=λD σ H=>D.nx σ H
def wK(t u:TS):TS:=λD σ H=>t { D with nx:=u D } σ H
theorem Zt:vM X [] dw:=λ_ _ σ H _ I h=>wpAny_execs_nil ⟨σ,H,I,h⟩
theorem Ze(h1:PS X st t)(h2:vM X rest u):vM X (st ::rest) (wK t u):=by
 intro pins s σ H D I h;refine wpAny_execs_cons (bZ (h1 pins s σ H { D with nx:=u D } I h) λf s1 q=>?_);cases f with
 |next=>
  obtain⟨σ',H',I',q⟩:=q;exact h2 pins s1 σ' H' D I' q
 |ret v=>exact q
 |brk=>exact q
 |cont=>exact q
theorem Zg(h1:PS X st t):vM X [st] t:=by
 intro pins s σ H D I h;refine wpAny_execs_cons (bZ (h1 pins s σ H D I h) λf s1 q=>?_);cases f with
 |next=>exact wpAny_execs_nil q
 |ret v=>exact q
 |brk=>exact q
 |cont=>exact q
theorem Inv.quiet{pins:List (Addr×Obj)}{σ:St}{H:Hp}{s:Shared}(I:Inv X pins σ H s):interactive X.env=false:=by simp[interactive,I.ok.kind]
def FE(te:TE):TS:=λD σ H=>te σ H λ_ H1=>D.nx σ H1
theorem Zr(he:PE X e te)(hs:swapsWith e none pos.line X.env=pure false:=by rfl):PS X (.Expr e pos) (FE te):=by
 intro pins s σ H D I h;exact wpAny_Expr_any (fF (he pins s σ H _ I h) λv s1 x H1 I1 r1 q1=>⟨σ,H1,I1,q1⟩) I.quiet hs
def LA(te:TE):TS:=λD σ H=>te σ H D.rt
theorem Zs(he:PE X e te):PS X (.Return (some e) pos) (LA te):=by
 intro pins s σ H D I h;exact wpAny_Return_some (fF (he pins s σ H _ I h) λv s1 x H1 I1 r1 q1=>⟨x,σ,H1,I1,r1,q1⟩)
def Fw:TS:=λD _ H=>D.rt .aO H
theorem S8:PS X (.Return none pos) Fw:=λ_ _ σ H _ I h=>wpAny_Return_none ⟨.aO,σ,H,I,rfl,h⟩
def FA(c:TT)(t u:TS):TS:=λD σ H=>c σ H λb H1=>if b=true then t D σ H1 else u D σ H1
theorem aE{c:Expr}{a b:List Stmt}{tc:TT}(hc:PT X c tc)(ha:vM X a t)(hb:vM X b u):PS X (.If c a b pos) (FA tc t u):=by
 intro pins s σ H D I h;refine wpAny_If (bZ (hc pins s σ H _ I h) λd s1 ⟨H1,I1,q1⟩=>?_);cases d with
 |true=>exact ha pins s1 σ H1 D I1 q1
 |false=>exact hb pins s1 σ H1 D I1 q1
end
abbrev TG:=V->St->Hp->(St->Hp->Prop)->Prop
abbrev Ce:=List V->St->Hp->(St->Hp->Prop)->Prop
def PG(X:Cx)(target:Expr)(t:TG):Prop:=
 ∀(pins:List (Addr×Obj))(s:Shared)(σ:St)(H:Hp)(v:V)(u:Value)(Q:St->Hp->Prop),Inv X pins σ H s->RelV v u->t v σ H Q ->
  wpAny (model X.prog X.w) X.A (assign target X.env u) (λ_ s'=>∃ σ' H',Inv X pins σ' H' s'/\Q σ' H') X.xe s
def Jp(X:Cx)(ts:List Expr)(t:Ce):Prop:=
 ∀(pins:List (Addr×Obj))(s:Shared)(σ:St)(H:Hp)(vs:List V)(us:List Value)(Q:St->Hp->Prop),Inv X pins σ H s->Vals vs us->t vs σ H Q ->
  wpAny (model X.prog X.w) X.A (assignInOrder ((assignEach ts X.env).map (·.2)) us) (λ_ s'=>∃ σ' H',Inv X pins σ' H' s'/\Q σ' H') X.xe s
abbrev DQ:=V->V->V->Hp->(Hp->Prop)->Prop
def Jo(X:Cx)(t:DQ):Prop:=
 ∀(pins:List (Addr×Obj))(s:Shared)(σ:St)(H:Hp)(o i v:V)(ov iv u:Value)(Q:Hp->Prop),Inv X pins σ H s->RelV o ov->RelV i iv->RelV v u->t o i v H Q ->
  wpAny (model X.prog X.w) X.A (setItem ov iv u) (λ_ s'=>∃H',Inv X pins σ H' s'/\Q H') X.xe s
section
variable{X:Cx}{pos:Pos}
def dJ(i:Nat):TG:=λv σ H Q=>Q (σ.set i (some v)) H
theorem Zju{i:Nat}{x:Str}(hN:X.N.Nodup)(hi:X.N[i]?=some x)(hx:Loc X.env.scope x)(hf:X.fn x=true\/X.env.scope.names.lookup x=some .local:=by first|exact .inl rfl|exact .inr rfl|assumption):PG X (.Name x pos) (dJ i):=by
 intro pins s σ H v u Q I r h;exact wpAny_assign_Name (Li I hN hi hx r (λs' I'=>⟨_,H,I',h⟩) hf)
def Nh:Ce:=λvs σ H Q=>vs=[]/\Q σ H
def HQ(t:TG)(u:Ce):Ce:=λvs σ H Q=>∃v r,vs=v ::r/\t v σ H λσ' H'=>u r σ' H' Q
theorem ZC:Jp X [] Nh:=by
 intro pins s σ H vs us Q I r h;obtain⟨e,h⟩:=h;subst e;cases r;exact assignInOrder_nil ⟨σ,H,I,h⟩
theorem Zn{e:Expr}{es:List Expr}{t:TG}{u:Ce}(h1:PG X e t)(h2:Jp X es u)
  (hs:(assignEach (e ::es) X.env).map (·.2)=assign e X.env ::(assignEach es X.env).map (·.2):=by rfl):Jp X (e ::es) (HQ t u):=by
 intro pins s σ H vs us Q I r h;obtain⟨v,vr,e1,h⟩:=h;subst e1;cases r with
 |cons r rr=>
  rw[hs];refine assignInOrder_cons (bZ (h1 pins s σ H _ _ _ I r h) λ_ s1 ⟨σ1,H1,I1,q1⟩=>?_);exact h2 pins s1 σ1 H1 _ _ Q I1 rr q1
def HP(K:W.Frag)(n:Nat)(t:Ce):TG:=λv σ H Q=>∃a xs,v=.ref a/\aP K H a xs/\xs.length=n/\t xs σ H Q
theorem Zky{es:List Expr}{k:Nat}{t:Ce}{n:Nat}(hc:X.calm=true)(h:Jp X es t)
  (hn:(assignEach es X.env).length=n:=by rfl) (hst:(assignEach es X.env).findIdx? (·.1)=none:=by rfl):PG X (.Tuple es k pos) (HP X.K n t):=by
 intro pins s σ H v u Q I r hw;obtain⟨a,xs,e1,hq,hl,hw⟩:=hw;subst e1;cases r;obtain⟨its,rv,ht,hz⟩:=I.tuple hq;refine assign_Tuple_tuple (I.ok.hd hc) ht (by simp[hn,<-hl,rv.length]) hst λh' hx=>?_;have I1:Inv X pins σ H { s with heap:=h' }:=I.kept (t':=s.toks) λb o e=>hx b o (aor (aPy e)) e;exact h pins _ σ H xs _ Q I1 (by simpa using rv) hw
def Ng(to ti:TE)(t:DQ):TG:=λv σ H Q=>to σ H λo H1=>ti σ H1 λi H2=>t o i v H2 λH3=>Q σ H3
theorem DJ{o i:Expr}{to ti:TE}{t:DQ}(ho:PE X o to)(hi:PE X i ti)(hs:Jo X t)
  (ha:∀v,assign (.Subscript o i pos) X.env v=(do
   let ov <-holding [v] (eval o X.env)
   let iv <-holding [v,ov] (eval i X.env)
   standAt pos
   holding [v,ov,iv] (setItem ov iv v)
   release [v,ov,iv] []):=by intro _;rfl):PG X (.Subscript o i pos) (Ng to ti t):=by
 intro pins s σ H v u Q I r h;rw[ha];refine a3A (aPf (fF (ho pins s σ H _ I h) λov s1 x H1 I1 r1 q1=>?_));refine a3A (aPf (fF (hi pins s1 σ H1 _ I1 q1) λiv s2 y H2 I2 r2 q2=>?_));refine a3A (auQ (a3A (aPf (bZ (hs pins s2 σ H2 x y v ov iv u _ I2 r1 r2 r q2) λ_ s3 ⟨H3,I3,q3⟩=>?_))));exact wpAny_release ⟨σ,H3,I3,q3⟩
def sy(te:TE)(g:TG):TS:=λD σ H=>te σ H λx H1=>g x σ H1 D.nx
theorem rJ{tg e:Expr}{te:TE}{g:TG}(he:PE X e te)(hg:PG X tg g)(hs:swapsWithSole [tg] e pos.line X.env=pure false:=by rfl)(hw:swappedStores [tg] e X.env=pure none:=by rfl)
  (h1:(assignEach [tg] X.env).map (·.2)=[assign tg X.env]:=by rfl):PS X (.Assign [tg] e pos) (sy te g):=by
 intro pins s σ H D I h;refine wpAny_Assign_stores (fF (he pins s σ H _ I h) λv s1 x H1 I1 r1 q1=>?_) hs hw;rw[h1];exact bZ (hg pins s1 σ H1 x v _ I1 r1 q1) λ_ s2 q=>q
theorem Zkz{i:Nat}{x:Str}{e:Expr}{te:TE}{pos':Pos}(hN:X.N.Nodup)(hi:X.N[i]?=some x)(hx:Loc X.env.scope x)(he:PE X e te)(hs:swapsWith e (some (.Name x pos')) pos.line X.env=pure false:=by rfl)(hf:X.fn x=true\/X.env.scope.names.lookup x=some .local:=by first|exact .inl rfl|exact .inr rfl|assumption) :
  PS X (.Assign [.Name x pos'] e pos) (sy te (dJ i)):=by
 intro pins s σ H D I h;refine wpAny_Assign_Name (fF (he pins s σ H _ I h) λv s1 y H1 I1 r1 q1=>?_) hs;exact Li I1 hN hi hx r1 (λs2 I2=>⟨_,H1,I2,q1⟩) hf
def LB(i j:Nat)(ta:TA):TS:=λD σ H=>ta σ H λvs H1=>∃v w,vs=[v,w]/\D.nx ((σ.set i (some v)).set j (some w)) H1
theorem Sf{i j:Nat}{x y:Str}{a b:Expr}{ta:TA}{px py pt:Pos}{kt k2 LW}(hc:X.calm=true)(hN:X.N.Nodup)(hi:X.N[i]?=some x)(hj:X.N[j]?=some y)(hij:i≠j)
  (hx:X.env.scope.names.lookup x=some .local) (hy:X.env.scope.names.lookup y=some .local) (ha:PA X [a,b] ta)
  (hw:swappedStores [.Tuple [.Name x px,.Name y py] kt pt] (.Tuple [a,b] k2 LW) X.env=pure (some [x,y]))
  (hs:swapsWithSole [.Tuple [.Name x px,.Name y py] kt pt] (.Tuple [a,b] k2 LW) pos.line X.env=pure false:=by rfl) :
  PS X (.Assign [.Tuple [.Name x px,.Name y py] kt pt] (.Tuple [a,b] k2 LW) pos) (LB i j ta):=by
 intro pins s σ H D I h;rw[exec_Assign_arm];refine a3A (auQ ?_);rw[hs];refine a3A (aLE ?_);rw[ale (by decide)];refine a3A (Tuple_ (tS (ha _ pins s σ H _ I h) λus s1 vs H1 I1 r1 q1=>?_));obtain⟨v,w,e1,q1⟩:=q1;subst e1;obtain⟨u1,u2,rfl,rv,rw'⟩:∃u1 u2,us=[u1,u2]/\RelV v u1/\RelV w u2:=by
  cases r1 with
  |cons p q=>
   cases q with
   |cons p' q'=>
    cases q';exact⟨_,_,rfl,p,p'⟩
 refine aON ?_ (by show 2<=sizeLine;decide);have I2:Inv X pins σ H1 { s1 with heap:=s1.heap.push { cls:=.type "tuple",data:=.seq [u1,u2].toArray } }:=I1.kept (t':=s1.toks) λb o e=>a8n _ e;rw[hw];refine a3A (aLE ?_);show wpAny (model X.prog X.w) X.A (do rule "assign.swapped-stores";let items <-unpackItems (.ref s1.heap.objs.size) 2 none;assignInOrder [λv=>bindName X.env y v,λv=>bindName X.env x v] items.reverse;pure Flow.next) _ _ _;refine a3A (aQS (a3A (unpackItems_tuple (items:=#[u1,u2]) (I.ok.hd hc) (IsTup.new s1.heap _) λh' hx'=>?_)));have I3:=I2.kept (h':=h') (t':=s1.toks) λb o e=>hx' b o (aor (aPy e)) e;show wpAny _ _ (assignInOrder [λv=>bindName X.env y v,λv=>bindName X.env x v] [u2,u1] >>= λ_=>pure Flow.next) _ _ _;refine a3A (assignInOrder_cons (wpAny_bindName (Li I3 hN hj (.inl hy) rw' (λs2 I4=>?_) (.inr hy))));refine assignInOrder_cons (wpAny_bindName (Li I4 hN hi (.inl hx) rv (λs3 I5=>assignInOrder_nil (aLE ?_)) (.inr hx)));rw[List.set_comm _ _ (aWz hij)]at I5;exact⟨_,H1,I5,q1⟩
end
structure It where
 go:Nat->Hp->Prop
 sr:Nat->Hp->V->Hp->Prop
 stop:Nat->Hp->Prop
def ko(X:Cx)(pins:List (Addr×Obj))(H:Hp)(b:Addr):Prop:=
 H b=none/\b≠X.env.locals/\b∉X.fs/\(b∈X.ex\/X.s₀.heap.objs.size<=b)/\(∀x c,X.env.cells.lookup x=some c->c≠b)/\∀p∈X.pn++pins,p.1≠b
theorem Inv.sU{X:Cx}{pins:List (Addr×Obj)}{σ:St}{H H':Hp}{s:Shared}{b:Addr}(I:Inv X pins σ H s)(hb:s.heap.objs.size<=b)(hn:H' b=none):ko X pins H' b:=by
 refine⟨hn,aAe (aKk I.lt hb),I.Gv hb,.inr (atR I.sz hb),λx c e z=>?_,λp hp z=>?_⟩
 .obtain ⟨v,q⟩:=I.cell x c e;exact absurd (aKk q.lt (by rw[z];exact hb)) (agV _)
 .exact absurd (aKk (aPy (I.pin p hp).1) (by rw[z];exact hb)) (agV _)
structure Turn(P:Program)(w:World)(K:W.Frag)(tg:Expr)(J:It)(fp:List Addr)(it:Addr)(tn:Nat->Heap->Prop):Prop where
 mem:it∈fp
 obj:∀i h,tn i h->∀b∈fp,∃o,h.get? b=some o/\∀v,o.data≠.cell v
 keep:∀i h h',tn i h->(∀b∈fp,∀o,h.get? b=some o->h'.get? b=some o)->tn i h'
 item:∀(X:Cx),X.prog=P->X.w=w->X.K=K->X.calm=true->∀(i:Nat)(pins:List (Addr×Obj))(s:Shared)(σ:St)(H:Hp)(E:Value->Shared->Prop),Inv X pins σ H s->(∀b∈fp,ko X pins H b)->tn i s.heap->J.go i H ->
  wpAny (model P w) X.A (pyNext (.ref it)) (λr s1=>∃u,r=some u /\
   wpAny (model P w) X.A (letOwnedTupleGo tg (.ref it) u) (λ_ s2=>∃x H',Inv X pins σ H' s2/\RelV x u/\J.sr i H x H'/\tn (i+1) s2.heap/\∀b∈fp,H' b=none) E s1) E s
 done:∀(X:Cx),X.prog=P->X.w=w->X.K=K->X.calm=true->∀(i:Nat)(pins:List (Addr×Obj))(s:Shared)(σ:St)(H:Hp)(E:Value->Shared->Prop),Inv X pins σ H s->(∀b∈fp,ko X pins H b)->tn i s.heap->J.stop i H ->
  wpAny (model P w) X.A (pyNext (.ref it)) (λr s1=>r=none/\Inv X pins σ H s1) E s
 self:∀(A:Around)(i:Nat)(s:Shared)(Q:Value->Shared->Prop)(E:Value->Shared->Prop),tn i s.heap->Q (.ref it) s->wpAny (model P w) A (pyIter (.ref it)) Q E s
abbrev TI:=St->Hp->(It->Hp->Prop)->Prop
def UP(X:Cx)(pins:List (Addr×Obj))(σ:St)(tg:Expr)(R:It->Hp->Prop)(itv:Value)(s2:Shared):Prop:=
 ∃(it:Addr)(fp:List Addr)(tn:Nat->Heap->Prop)(J:It)(H':Hp),itv=.ref it/\Inv X pins σ H' s2/\Turn X.prog X.w X.K tg J fp it tn/\tn 0 s2.heap/\(∀b∈fp,ko X pins H' b)/\R J H'
def PI(X:Cx)(tg iter:Expr)(wi:TI):Prop:=
 ∀(pins:List (Addr×Obj))(s:Shared)(σ:St)(H:Hp)(R:It->Hp->Prop),Inv X pins σ H s->wi σ H R ->
  wpAny (model X.prog X.w) X.A (eval iter X.env) (λv s1=>wpAny (model X.prog X.w) X.A (pyIter v) (UP X pins σ tg R) X.xe s1) X.xe s
theorem yt{M:Model}{A:Around}{E:Value->Shared->Prop}{s:Shared}{tg:Expr}{it:Addr}{u:Value}{o:Obj}{n:String}{vs:Array Value}{Q:Unit->Shared->Prop}(ho:s.heap.get? it=some o)(hc:o.cls=.type n)(hd:o.data=.fields vs)
  (hn:["enumerate","zip","dict_itemiterator","dict_reverseitemiterator","odict_iterator","itertools.zip_longest","itertools.pairwise"].contains n=false) (hQ:Q () s):wpAny M A (letOwnedTupleGo tg (.ref it) u) Q E s:=by
 unfold letOwnedTupleGo;cases tg <;> first
  |exact aLE hQ
  | (cases u <;> first
    |exact aLE hQ
    | (refine a3A (wpAny_load ho ?_)
       rw[hc,hd];show wpAny M A (if(["enumerate","zip","dict_itemiterator","dict_reverseitemiterator","odict_iterator","itertools.zip_longest","itertools.pairwise"].contains n && vs[0]? ==some (rawInt _))=true then _ else _) Q E s;rw[ale (by intro h;rw[hn,Bool.false_and]at h;cases h)];exact aLE hQ))
def Cq(K:W.Frag)(a:Addr):It:=
 ⟨λi H=>∃xs x,ao K H a xs/\xs[i]?=some x,λi H x H'=>H'=H/\∀xs,ao K H a xs->xs[i]?=some x,λi H=>∃xs,ao K H a xs/\xs.length<=i⟩
def Cp(K:W.Frag)(a:Addr):It:=
 ⟨λi H=>∃xs x,aP K H a xs/\xs[i]?=some x,λi H x H'=>H'=H/\∀xs,aP K H a xs->xs[i]?=some x,λi H=>∃xs,aP K H a xs/\xs.length<=i⟩
def AW(lo:Int)(n:Nat):It:=⟨λi _=>i<n,λi H x H'=>H'=H/\x=.int (lo+i),λi _=>n<=i⟩
theorem Zgi{P:Program}{w:World}{K:W.Frag}{tg:Expr}(a it:Addr):Turn P w K tg (Cq K a) [it] it (λi h=>h.IsListIter it a i) where
 mem:=by simp
 obj:=λi h st b hb=>by
  have e:b=it:=by simpa using hb
  subst e;obtain⟨o,e,c,d⟩:=st;exact⟨o,e,λv z=>by rw[d]at z;cases z⟩
 keep:=λi h h' st k=>st.at λo e=>k it (by simp) o e
 item:=by
  intro X hP hw hK hc i pins s σ H E I hf st hg;subst hP hw hK;obtain⟨xs,x,hq,hx⟩:=hg;obtain⟨its,rv,p,hz⟩:=I.list hq;obtain⟨u,hu,ru⟩:=rv.get hx;obtain⟨f0,f1,f2,f3,f4,f5⟩:=hf it (by simp);refine wpAny_pyNext_list_item st p.isList (x:=u) (by simpa using hu) λh' st' sb=>?_;have I1:Inv X pins σ H { s with heap:=h' }:=I.turned (t':=s.toks) (λb o hb e=>(sb.2 b hb).trans e) f0 f1 f3 f4 f5;obtain⟨o,e,c,d⟩:=id st';exact⟨u,rfl,yt (s:={ s with heap:=h' }) e c d (by decide) ⟨x,H,I1,ru,⟨rfl,λys hy=>by rw[I.fC hy hq];exact hx⟩,st',λb hb=>(hf b hb).1⟩⟩
 done:=by
  intro X hP hw hK hc i pins s σ H E I hf st hg;subst hP hw hK;obtain⟨xs,hq,hx⟩:=hg;obtain⟨its,rv,p,hz⟩:=I.list hq;obtain⟨f0,f1,f2,f3,f4,f5⟩:=hf it (by simp);have hl:=rv.length;exact wpAny_pyNext_list_end (I.ok.hd hc) st p.isList (by simp;lia) λh' eb=>⟨rfl,I.turned (t':=s.toks) (λb o hb e=>eb b o hb e) f0 f1 f3 f4 f5⟩
 self:=λ_ _ _ _ _ st h=>wpAny_pyIter_listiter st h
theorem ZfD{P:Program}{w:World}{K:W.Frag}{tg:Expr}(a it:Addr):Turn P w K tg (Cp K a) [it] it (λi h=>h.IsTupleIter it a i) where
 mem:=by simp
 obj:=λi h st b hb=>by
  have e:b=it:=by simpa using hb
  subst e;obtain⟨o,e,c,d⟩:=st;exact⟨o,e,λv z=>by rw[d]at z;cases z⟩
 keep:=λi h h' st k=>st.at λo e=>k it (by simp) o e
 item:=by
  intro X hP hw hK hc i pins s σ H E I hf st hg;subst hP hw hK;obtain⟨xs,x,hq,hx⟩:=hg;obtain⟨its,rv,p,hz⟩:=I.tuple hq;obtain⟨u,hu,ru⟩:=rv.get hx;obtain⟨f0,f1,f2,f3,f4,f5⟩:=hf it (by simp);refine wpAny_pyNext_tuple_item st (show s.heap.IsTuple a its.toArray from p) (x:=u) (by simpa using hu) λh' st' sb=>?_;have I1:Inv X pins σ H { s with heap:=h' }:=I.turned (t':=s.toks) (λb o hb e=>(sb.2 b hb).trans e) f0 f1 f3 f4 f5;obtain⟨o,e,c,d⟩:=id st';exact⟨u,rfl,yt (s:={ s with heap:=h' }) e c d (by decide) ⟨x,H,I1,ru,⟨rfl,λys hy=>by rw[I.fE hy hq];exact hx⟩,st',λb hb=>(hf b hb).1⟩⟩
 done:=by
  intro X hP hw hK hc i pins s σ H E I hf st hg;subst hP hw hK;obtain⟨xs,hq,hx⟩:=hg;obtain⟨its,rv,p,hz⟩:=I.tuple hq;obtain⟨f0,f1,f2,f3,f4,f5⟩:=hf it (by simp);have hl:=rv.length;exact wpAny_pyNext_tuple_end (I.ok.hd hc) st (show s.heap.IsTuple a its.toArray from p) (by simp;lia) λh' eb=>⟨rfl,I.turned (t':=s.toks) (λb o hb e=>eb b o hb e) f0 f1 f3 f4 f5⟩
 self:=λ_ _ _ _ _ st h=>wpAny_pyIter_tupleiter st h
theorem ZfE{P:Program}{w:World}{K:W.Frag}{tg:Expr}(it:Addr)(lo:Int)(n:Nat):Turn P w K tg (AW lo n) [it] it (λi h=>IsRangeIter h it (lo+(i:Nat)*1) ((n:Int)-(i:Nat)) 1) where
 mem:=by simp
 obj:=λi h st b hb=>by
  have e:b=it:=by simpa using hb
  subst e;exact⟨_,st,λv z=>by
   have z':Data.fields _=Data.cell v:=z;cases z'⟩
 keep:=λi h h' st k=>k it (by simp) _ st
 item:=by
  intro X hP hw hK hc i pins s σ H E I hf st hg;subst hP hw hK;obtain⟨f0,f1,f2,f3,f4,f5⟩:=hf it (by simp);have W:=Walks.range (prog:=X.prog) (w:=X.w) (I.ok.hd hc) it lo 1 n;refine W.item i s _ _ hg st λv h' tk hv st' kk=>?_;obtain⟨t,rfl⟩:=hv;have I1:Inv X pins σ H { s with heap:=h',toks:=tk }:=I.turned (λb o hb e=>kk b o (by simpa using hb) e) f0 f1 f3 f4 f5;refine⟨_,rfl,yt (s:={ s with heap:=h',toks:=tk }) (n:="range_iterator") st' rfl rfl (by decide) ⟨.int (lo+i),H,I1,⟨t,?_⟩,⟨rfl,rfl⟩,st',λb hb=>(hf b hb).1⟩⟩;rw[Int.mul_one]
 done:=by
  intro X hP hw hK hc i pins s σ H E I hf st hg;subst hP hw hK;obtain⟨f0,f1,f2,f3,f4,f5⟩:=hf it (by simp);exact wpAny_pyNext_range_end (I.ok.hd hc) st (by have:n<=i:=hg;lia) λh' eb=>⟨rfl,I.turned (t':=s.toks) (λb o hb e=>eb b o hb e) f0 f1 f3 f4 f5⟩
 self:=λ_ _ _ _ _ st h=>wpAny_pyIter_rangeiter st h
section
variable{X:Cx}{tg:Expr}
def BI(K:W.Frag)(tl:TE):TI:=λσ H R=>tl σ H λx H1=>∃a,x=.ref a/\(∃xs,ao K H1 a xs)/\R (Cq K a) H1
def Hu(K:W.Frag)(tl:TE):TI:=λσ H R=>tl σ H λx H1=>∃a,x=.ref a/\(∃xs,aP K H1 a xs)/\R (Cp K a) H1
theorem Zjv{l:Expr}{tl:TE}(hl:PE X l tl):PI X tg l (BI X.K tl):=by
 intro pins s σ H R I h;refine fF (hl pins s σ H _ I h) λv s1 x H1 I1 r1 q1=>?_;obtain⟨a,e,⟨xs,hq⟩,q⟩:=q1;subst e;cases r1;obtain⟨its,rv,p,hz⟩:=I1.list hq;refine wpAny_pyIter_list p.isList ?_;refine⟨s1.heap.objs.size,[s1.heap.objs.size],_,_,H1,rfl,I1.kept (t':=s1.toks) λb o e=>a8n _ e,Zgi a _,⟨_,awu _ rfl,rfl,rfl⟩,λb hb=>?_,q⟩;have e:b=s1.heap.objs.size:=by simpa using hb
 subst e;exact I1.sU (aI1 _) (I1.hok.fresh (aI1 _))
theorem ZkA{l:Expr}{tl:TE}(hl:PE X l tl):PI X tg l (Hu X.K tl):=by
 intro pins s σ H R I h;refine fF (hl pins s σ H _ I h) λv s1 x H1 I1 r1 q1=>?_;obtain⟨a,e,⟨xs,hq⟩,q⟩:=q1;subst e;cases r1;obtain⟨its,rv,p,hz⟩:=I1.tuple hq;refine wpAny_pyIter_tuple (show s1.heap.IsTuple a its.toArray from p) ?_;refine⟨s1.heap.objs.size,[s1.heap.objs.size],_,_,H1,rfl,I1.kept (t':=s1.toks) λb o e=>a8n _ e,ZfD a _,⟨_,awu _ rfl,rfl,rfl⟩,λb hb=>?_,q⟩;have e:b=s1.heap.objs.size:=by simpa using hb
 subst e;exact I1.sU (aI1 _) (I1.hok.fresh (aI1 _))
theorem ZhU{pins:List (Addr×Obj)}{σ:St}{H:Hp}{s:Shared}{R:It->Hp->Prop}{E:Value->Shared->Prop}{lo hi:Int}{t u v:Tok}{tk:Nat}(I:Inv X pins σ H s)(h1: -(2 ^ 62)<=lo)(h2:lo<2 ^ 62)(h3: -(2 ^ 62)<=hi)(h4:hi<2 ^ 62)
  (q:R (AW lo (hi-lo).toNat) H):wpAny (model X.prog X.w) X.A (pyIter (.ref s.heap.objs.size)) (UP X pins σ tg R) E { s with heap:=s.heap.push { cls:=.type "range",data:=.fields #[.int lo t,.int hi u,.int 1 v] },toks:=tk }:=by
 refine wpAny_pyIter_range (IsRange.new ..) (small_one h1 h2 h3 h4) ?_;have I1:Inv X pins σ H { s with heap:=s.heap.push { cls:=.type "range",data:=.fields #[.int lo t,.int hi u,.int 1 v] },toks:=tk }:=I.kept λb o e=>a8n _ e;refine⟨(s.heap.push { cls:=.type "range",data:=.fields #[.int lo t,.int hi u,.int 1 v] }).objs.size,[(s.heap.push { cls:=.type "range",data:=.fields #[.int lo t,.int hi u,.int 1 v] }).objs.size],_,_,H,rfl,
  I1.kept (t':=tk) λb o e=>a8n _ e,ZfE _ lo (hi-lo).toNat,?_,λb hb=>?_,q⟩
 .have e1:lo+((0:Nat):Int)*1=lo:=by simp
  have e2:(((hi-lo).toNat:Nat):Int)-((0:Nat):Int)=Builtin.Range.rangeSize lo hi 1:=by rw[rangeSize_one];split <;> lia
  show IsRangeIter _ _ (lo+((0:Nat):Int)*1) ((((hi-lo).toNat:Nat):Int)-((0:Nat):Int)) 1;rw[e1,e2];exact awu _ rfl
 .have e:b=(s.heap.push { cls:=.type "range",data:=.fields #[.int lo t,.int hi u,.int 1 v] }).objs.size:=by simpa using hb
  subst e;exact I1.sU (aI1 _) (I1.hok.fresh (aI1 _))
def Hv(ta:TA):TI:=λσ H R=>ta σ H λvs H1=>∃j:Int,vs=[.int j] /\ -(2 ^ 62)<=j/\j<2 ^ 62/\R (AW 0 j.toNat) H1
theorem ZY{a:Expr}{ta:TA}{p pos:Pos}(hg:Gl X "range")(hm:X.mg "range"=none)(ha:PA X [a] ta)(hs:starEach [a] X.env=[(false,eval a X.env)]:=by rfl):PI X tg (.Call (.Name "range" p) [a] [] pos) (Hv ta):=by
 intro pins s σ H R I h;refine Call_ (zl I hg hm boot_range (amb (tS (ha pos pins s σ H _ I h) λus s1 vs H1 I1 r1 q1=>?_) hs rfl));obtain⟨j,e,q1,q2,q⟩:=q1;subst e;cases r1 with
 |cons r rr=>
  cases rr;obtain⟨t,rfl⟩:=r;exact call_range_1 (ZhU I1 (by lia) (by lia) q1 q2 (by simpa using q))
def LG(wi:TI)(g:TG)(tb:TS):TS:=λD σ H=>wi σ H λJ H1=>∃W:Nat->Nat->St->Hp->Prop,(∃m,W 0 m σ H1)/\∀i m σ H,W i m σ H ->
 (J.stop i H/\D.nx σ H)\/(J.go i H/\∃N:St->Hp->Prop,(∀ σ' H',N σ' H'->∃m',m'<m/\W (i+1) m' σ' H')/\∀x H',J.sr i H x H'->g x σ H' λσ2 H2=>tb { D with nx:=N,ct:=N,bk:=D.nx } σ2 H2)
def ID(fp:List Addr)(h:Heap):List (Addr×Obj):=fp.filterMap λb=>(h.get? b).map λo=>(b,o)
theorem Ln{fp:List Addr}{h:Heap}{b:Addr}{o:Obj}(hb:b∈fp)(e:h.get? b=some o):(b,o)∈ID fp h:=List.mem_filterMap.mpr ⟨b,hb,by rw[e];rfl⟩
theorem Zgj{fp:List Addr}{h:Heap}{p:Addr×Obj}(hp:p∈ID fp h):p.1∈fp/\h.get? p.1=some p.2:=by
 obtain⟨b,hb,e⟩:=List.mem_filterMap.mp hp;cases q:h.get? b with
 |none=>rw[q]at e;cases e
 |some o=>
  rw[q]at e;have e':(b,o)=p:=asK e;subst e';exact⟨hb,q⟩
theorem Inv.pinned{pins:List (Addr×Obj)}{σ:St}{H:Hp}{s:Shared}{fp:List Addr}(I:Inv X pins σ H s)(hf:∀b∈fp,ko X pins H b)(ho:∀b∈fp,∃o,s.heap.get? b=some o/\∀v,o.data≠.cell v):Inv X (pins++ID fp s.heap) σ H s:=
 I.uI λp hp=>(aXY.mp hp).elim (λz=>I.pin p (aGz _ z)) λz=>by
  obtain⟨hb,e⟩:=Zgj z;obtain⟨f0,f1,f2,_⟩:=hf p.1 hb;obtain⟨o,e',d⟩:=ho p.1 hb;rw[e]at e';cases e';exact⟨e,f0,f1,f2,d⟩
theorem Inv.gR{pins pl:List (Addr×Obj)}{σ:St}{H:Hp}{s:Shared}(I:Inv X (pins++pl) σ H s):Inv X pins σ H s:=I.uI λp hp=>I.pin p (aGz _ (ata _ hp))
theorem yG{iter:Expr}{body:List Stmt}{wi:TI}{g:TG}{tb:TS}{pos:Pos}(hp:PassesOwn (model X.prog X.w) X.A X.env X.xe)(hc:X.calm=true)(hi:PI X tg iter wi)(hg:PG X tg g)(hb:vM X body tb)
  (hs:∀x,foldedSetIterable iter X.env x=pure x:=by intro _;rfl):PS X (.For tg iter body [] pos) (LG wi g tb):=by
 intro pins s σ H D I h;refine wpAny_For (bZ (hi pins s σ H _ I h) λv s1 h1=>bZ h1 λitv s2 h2=>?_) hs;obtain⟨it,fp,tn,J,H2,e,I2,T,st2,f2,W,⟨m0,w0⟩,turn⟩:=h2;subst e;have sA:∀{H':Hp},(∀b∈fp,H' b=none)->∀b∈fp,ko X pins H' b:=λhn b hb=>⟨hn b hb,(f2 b hb).2⟩;refine codeAny_forLoop_any (λn s'=>∃i σ' H',Inv X pins σ' H' s'/\tn i s'.heap/\(∀b∈fp,H' b=none)/\W i n σ' H') ?_ m0 ⟨0,σ,H2,I2,st2,λb hb=>(f2 b hb).1,w0⟩;rintro n s3 ⟨i,σ3,H3,I3,st3,EA,w3⟩;rcases turn i n σ3 H3 w3 with⟨stop,qn⟩|⟨go,N,hN,step⟩
 .refine abJ hp (bZ (T.done X rfl rfl rfl hc i pins s3 σ3 H3 X.xe I3 (sA EA) st3 stop) λr s4 ⟨hr,I4⟩=>?_);subst hr;exact wpAny_execs_nil ⟨σ3,H3,I4,qn⟩
 .refine abJ hp (bZ (T.item X rfl rfl rfl hc i pins s3 σ3 H3 X.xe I3 (sA EA) st3 go) λr s4 ⟨u,hr,h4⟩=>?_);subst hr;refine abJ hp (bZ h4 λ_ s5 ⟨x,H5,I5,r5,y5,zE,Ks⟩=>?_);have I5':=I5.pinned (sA Ks) (T.obj _ _ zE);refine abJ hp (bZ (hg _ s5 σ3 H5 x u _ I5' r5 (step x H5 y5)) λ_ s6 ⟨σ6,H6,I6,q6⟩=>?_);refine abJ hp (bZ (hb _ s6 σ6 H6 _ I6 q6) λf s7 q7=>?_);have again:∀{σ7:St}{H7:Hp},Inv X (pins++ID fp s5.heap) σ7 H7 s7->N σ7 H7->∃m,m<n/\∃i σ' H',Inv X pins σ' H' s7/\tn i s7.heap/\(∀b∈fp,H' b=none)/\W i m σ' H':=λ{σ7 H7} I7 n7=>by
   obtain⟨m',hm,w7⟩:=hN σ7 H7 n7;refine⟨m',hm,i+1,σ7,H7,I7.gR,T.keep _ _ _ zE λb hb o e=>(I7.pin (b,o) (aGz _ (aGz _ (Ln hb e)))).1,λb hb=>?_,w7⟩;obtain⟨o,e,d⟩:=T.obj _ _ zE b hb;exact(I7.pin (b,o) (aGz _ (aGz _ (Ln hb e)))).2.1
  cases f with
  |next=>obtain⟨σ7,H7,I7,n7⟩:=q7;exact again I7 n7
  |cont=>obtain⟨σ7,H7,I7,n7⟩:=q7;exact again I7 n7
  |brk=>obtain⟨σ7,H7,I7,q7⟩:=q7;exact⟨σ7,H7,I7.gR,q7⟩
  |ret v=>obtain⟨x7,σ7,H7,I7,r7,q7⟩:=q7;exact⟨x7,σ7,H7,I7.gR,r7,q7⟩
end
theorem OH{K:W.Frag}{a:Addr}{xs:List V}{g:TG}{tb:TS}{D:Ends}{σ:St}{H:Hp}(Pv:Nat->St->Hp->Prop)(h0:Pv 0 σ H)(hl:∀i σ H,i<=xs.length->Pv i σ H->ao K H a xs)
  (hs:∀i x σ H,xs[i]?=some x->Pv i σ H->g x σ H λσ2 H2=>tb { D with nx:=Pv (i+1),ct:=Pv (i+1),bk:=D.nx } σ2 H2) (hd:∀ σ H,Pv xs.length σ H->D.nx σ H) :
  ∃W:Nat->Nat->St->Hp->Prop,(∃m,W 0 m σ H)/\∀i m σ H,W i m σ H ->
   ((Cq K a).stop i H/\D.nx σ H)\/((Cq K a).go i H/\∃N:St->Hp->Prop,(∀ σ' H',N σ' H'->∃m',m'<m/\W (i+1) m' σ' H')/\∀x H',(Cq K a).sr i H x H'->g x σ H' λσ2 H2=>tb { D with nx:=N,ct:=N,bk:=D.nx } σ2 H2):=by
 refine⟨λi m σ H=>m=xs.length-i/\i<=xs.length/\Pv i σ H,⟨xs.length,by simp,acY _,h0⟩,?_⟩;rintro i m σ H ⟨rfl,hi,p⟩;have q:=hl i σ H hi p;by_cases hlt:i<xs.length
 .refine .inr ⟨⟨xs,xs[i],q,by simp[hlt]⟩,Pv (i+1),λσ' H' p'=>⟨xs.length-(i+1),by lia,rfl,hlt,p'⟩,λx H' y=>?_⟩;obtain⟨e,y⟩:=y;subst e;exact hs i x σ _ (y xs q) p
 .have e:i=xs.length:=by lia
  subst e;exact .inl ⟨⟨xs,q,aI1 _⟩,hd σ H p⟩
theorem S7{K:W.Frag}{a:Addr}{xs:List V}{g:TG}{tb:TS}{D:Ends}{σ:St}{H:Hp}(Pv:Nat->St->Hp->Prop)(h0:Pv 0 σ H)(hl:∀i σ H,i<=xs.length->Pv i σ H->aP K H a xs)
  (hs:∀i x σ H,xs[i]?=some x->Pv i σ H->g x σ H λσ2 H2=>tb { D with nx:=Pv (i+1),ct:=Pv (i+1),bk:=D.nx } σ2 H2) (hd:∀ σ H,Pv xs.length σ H->D.nx σ H) :
  ∃W:Nat->Nat->St->Hp->Prop,(∃m,W 0 m σ H)/\∀i m σ H,W i m σ H ->
   ((Cp K a).stop i H/\D.nx σ H)\/((Cp K a).go i H/\∃N:St->Hp->Prop,(∀ σ' H',N σ' H'->∃m',m'<m/\W (i+1) m' σ' H')/\∀x H',(Cp K a).sr i H x H'->g x σ H' λσ2 H2=>tb { D with nx:=N,ct:=N,bk:=D.nx } σ2 H2):=by
 refine⟨λi m σ H=>m=xs.length-i/\i<=xs.length/\Pv i σ H,⟨xs.length,by simp,acY _,h0⟩,?_⟩;rintro i m σ H ⟨rfl,hi,p⟩;have q:=hl i σ H hi p;by_cases hlt:i<xs.length
 .refine .inr ⟨⟨xs,xs[i],q,by simp[hlt]⟩,Pv (i+1),λσ' H' p'=>⟨xs.length-(i+1),by lia,rfl,hlt,p'⟩,λx H' y=>?_⟩;obtain⟨e,y⟩:=y;subst e;exact hs i x σ _ (y xs q) p
 .have e:i=xs.length:=by lia
  subst e;exact .inl ⟨⟨xs,q,aI1 _⟩,hd σ H p⟩
theorem ON{lo:Int}{n:Nat}{g:TG}{tb:TS}{D:Ends}{σ:St}{H:Hp}(Pv:Nat->St->Hp->Prop)(h0:Pv 0 σ H)
  (hs:∀i σ H,i<n->Pv i σ H->g (.int (lo+i)) σ H λσ2 H2=>tb { D with nx:=Pv (i+1),ct:=Pv (i+1),bk:=D.nx } σ2 H2) (hd:∀ σ H,Pv n σ H->D.nx σ H) :
  ∃W:Nat->Nat->St->Hp->Prop,(∃m,W 0 m σ H)/\∀i m σ H,W i m σ H ->
   ((AW lo n).stop i H/\D.nx σ H)\/((AW lo n).go i H/\∃N:St->Hp->Prop,(∀ σ' H',N σ' H'->∃m',m'<m/\W (i+1) m' σ' H')/\∀x H',(AW lo n).sr i H x H'->g x σ H' λσ2 H2=>tb { D with nx:=N,ct:=N,bk:=D.nx } σ2 H2):=by
 refine⟨λi m σ H=>m=n-i/\i<=n/\Pv i σ H,⟨n,by simp,acY _,h0⟩,?_⟩;rintro i m σ H ⟨rfl,hi,p⟩;by_cases hlt:i<n
 .refine .inr ⟨hlt,Pv (i+1),λσ' H' p'=>⟨n-(i+1),by lia,rfl,hlt,p'⟩,λx H' y=>?_⟩;obtain⟨e,y⟩:=y;subst e y;exact hs i σ _ hlt p
 .have e:i=n:=by lia
  subst e;exact .inl ⟨aI1 _,hd σ H p⟩
abbrev R2:=V->V->Hp->VK->Prop
def jH(X:Cx)(f:Value->Value->Sem Value)(r:R2):Prop:=
 ∀(pins:List (Addr×Obj))(s:Shared)(σ:St)(H:Hp)(x y:V)(v u:Value)(Q:VK),Inv X pins σ H s->RelV x v->RelV y u->r x y H Q ->
  wpAny (model X.prog X.w) X.A (f v u) (EP X pins σ Q) X.xe s
def OQ(X:Cx)(f:Value->Sem Value)(r:V->Hp->VK->Prop):Prop:=
 ∀(pins:List (Addr×Obj))(s:Shared)(σ:St)(H:Hp)(x:V)(v:Value)(Q:VK),Inv X pins σ H s->RelV x v->r x H Q ->
  wpAny (model X.prog X.w) X.A (f v) (EP X pins σ Q) X.xe s
def aY(X:Cx)(f:Value)(r:List V->Hp->VK->Prop):Prop:=
 ∀(pins:List (Addr×Obj))(s:Shared)(σ:St)(H:Hp)(xs:List V)(us:List Value)(Q:VK),Inv X pins σ H s->Vals xs us->r xs H Q ->
  wpAny (model X.prog X.w) X.A (call f us) (EP X pins σ Q) X.xe s
def zC(r:R2)(ta tb:TE):TE:=λσ H Q=>ta σ H λx H1=>tb σ H1 λy H2=>r x y H2 Q
def Wf(r:V->Hp->VK->Prop)(ta:TE):TE:=λσ H Q=>ta σ H λx H1=>r x H1 Q
inductive rI(C:Int->Int->Prop) (g:Int->Int->V)(x:V)(y:V)(H:Hp)(Q:VK):Prop
 |mk (i j:_):x=.int i->y=.int j->C i j->Q (g i j) H->rI C g x y H Q
inductive zS(g:Int->Int->V)(x:V)(y:V)(H:Hp)(Q:VK):Prop
 |mk (i j:_):x=.int i->y=.int j->Q (g i j) H->zS g x y H Q
inductive rU(g:Int->V)(x:V)(H:Hp)(Q:VK):Prop
 |mk (i:_):x=.int i->Q (g i) H->rU g x H Q
section
variable{X:Cx}{a b c:Expr}{ta tb tc:TE}{pos:Pos}
theorem Dw(ha:PE X a ta)(hb:PE X b tb){pins:List (Addr×Obj)}{s:Shared}{σ:St}{H:Hp}{R:V->V->Hp->Prop}(I:Inv X pins σ H s)
  (h:ta σ H λx H1=>tb σ H1 λy H2=>R x y H2) {Q:Value->Shared->Prop} {f:Value->Value->Sem Value}
  (hf:∀v u s2 x y H2,Inv X pins σ H2 s2->RelV x v->RelV y u->R x y H2->wpAny (model X.prog X.w) X.A (f v u) Q X.xe s2) :
  wpAny (model X.prog X.w) X.A (eval a X.env) (λv s₁=>wpAny (model X.prog X.w) X.A (eval b X.env) (λu s₂=>wpAny (model X.prog X.w) X.A (f v u) Q X.xe s₂) X.xe s₁) X.xe s:=by
 refine fF (ha pins s σ H _ I h) λv s1 x H1 I1 r1 q1=>?_;refine fF (hb pins s1 σ H1 _ I1 q1) λu s2 y H2 I2 r2 q2=>?_;exact hf v u s2 x y H2 I2 r1 r2 q2
theorem aj{op:Operator}{r:R2}(ho:jH X (binaryOp op) r)(ha:PE X a ta)(hb:PE X b tb):PE X (.BinOp a op b pos) (zC r ta tb):=by
 intro pins s σ H Q I h;exact wpAny_BinOp (Dw ha hb I h λv u s2 x y H2 I2 rx ry q=>ho pins s2 σ H2 x y v u Q I2 rx ry q)
theorem xV{op:UnaryOp}{r:V->Hp->VK->Prop}(ho:OQ X (unaryOp op) r)(ha:PE X a ta):PE X (.UnaryOp op a pos) (Wf r ta):=by
 intro pins s σ H Q I h;exact UnaryOp_ (fF (ha pins s σ H _ I h) λv s1 x H1 I1 r1 q1=>ho pins s1 σ H1 x v Q I1 r1 q1)
theorem JX{f:Value->Value->Sem Value}{C:Int->Int->Prop}{g:Int->Int->Int}
  (rule:∀(i j:Int)(t u:Tok)(s:Shared)(Q:Value->Shared->Prop)(E:Value->Shared->Prop),C i j->Q (.int (g i j) s.toks) { s with toks:=s.toks+1 }->wpAny (model X.prog X.w) X.A (f (.int i t) (.int j u)) Q E s) :
  jH X f (rI C λi j=>.int (g i j)):=by
 intro pins s σ H x y v u Q I rx ry h;obtain⟨i,j,rfl,rfl,hc,q⟩:=h;obtain⟨t,rfl⟩:=rx;obtain⟨t',rfl⟩:=ry;exact rule i j t t' s _ _ hc ⟨.int (g i j),H,I.tok _,⟨_,rfl⟩,q⟩
theorem Gk{f:Value->Value->Sem Value}{g:Int->Int->Int}
  (rule:∀(i j:Int)(t u:Tok)(s:Shared)(Q:Value->Shared->Prop)(E:Value->Shared->Prop),Q (.int (g i j) s.toks) { s with toks:=s.toks+1 }->wpAny (model X.prog X.w) X.A (f (.int i t) (.int j u)) Q E s) :
  jH X f (zS λi j=>.int (g i j)):=by
 intro pins s σ H x y v u Q I rx ry h;obtain⟨i,j,rfl,rfl,q⟩:=h;obtain⟨t,rfl⟩:=rx;obtain⟨t',rfl⟩:=ry;exact rule i j t t' s _ _ ⟨.int (g i j),H,I.tok _,⟨_,rfl⟩,q⟩
theorem Aa{f:Value->Value->Sem Value}{g:Int->Int->Bool}
  (rule:∀(i j:Int)(t u:Tok)(s:Shared)(Q:Value->Shared->Prop)(E:Value->Shared->Prop),Q (.bool (g i j)) s->wpAny (model X.prog X.w) X.A (f (.int i t) (.int j u)) Q E s) :
  jH X f (zS λi j=>.bl (g i j)):=by
 intro pins s σ H x y v u Q I rx ry h;obtain⟨i,j,rfl,rfl,q⟩:=h;obtain⟨t,rfl⟩:=rx;obtain⟨t',rfl⟩:=ry;exact rule i j t t' s _ _ ⟨.bl (g i j),H,I,rfl,q⟩
def Jy(i j:Int):Prop:=0<j/\j<1073741824
def O8(i j:Int):Prop:=0<=j/\j<=1000000/\i.natAbs<2 ^ 64
def Ed(i j:Int):Prop:=(-(2 ^ 64)<i/\i<2 ^ 64)\/(-(2 ^ 64)<j/\j<2 ^ 64)
theorem Ed.ok{i j:Int}(h:Ed i j):IntMulOk i j:=by
 rcases h with⟨h1,h2⟩|⟨h1,h2⟩
 .exact .of_left (intBits_le_64 h1 h2)
 .exact .of_right (intBits_le_64 h1 h2)
theorem ZJ:jH X (binaryOp .Add) (zS λi j=>.int (i+j)):=Gk λ_ _ _ _ _ _ _ q=>add_int q
theorem BX:jH X (binaryOp .Sub) (zS λi j=>.int (i-j)):=Gk λ_ _ _ _ _ _ _ q=>sub_int q
theorem sZ:jH X (binaryOp .Mult) (rI Ed λi j=>.int (i*j)):=JX λ_ _ _ _ _ _ _ hc q=>mul_int q hc.ok
theorem EN:jH X (binaryOp .FloorDiv) (rI Jy λi j=>.int (i/j)):=JX λi j _ _ _ _ _ hc q=>by
 have h1:(0:Int)<j:=hc.1;have h2:j<1073741824:=hc.2;exact floordiv_int (by lia) (by rw[Int.fdiv_eq_ediv_of_nonneg i (by lia)];exact q) (.inl (PyProof.noPylong_small (by lia)))
theorem vK:jH X (binaryOp .Mod) (rI (λ_ j=>0<j) λi j=>.int (i%j)):=JX λi j _ _ _ _ _ hc q=>by
 have h1:(0:Int)<j:=hc;exact mod_int' (by lia) (by rw[Int.fmod_eq_emod_of_nonneg i (by lia)];exact q)
theorem NQ:jH X (binaryOp .Pow) (rI O8 λi j=>.int (i ^ j.toNat)):=JX λ_ _ _ _ _ _ _ hc q=>pow_int_small hc.1 hc.2.1 hc.2.2 q
theorem V9{f:Value->Sem Value}{g:Int->Int}
  (rule:∀(i:Int)(t:Tok)(s:Shared)(Q:Value->Shared->Prop)(E:Value->Shared->Prop),Q (.int (g i) s.toks) { s with toks:=s.toks+1 }->wpAny (model X.prog X.w) X.A (f (.int i t)) Q E s) :
  OQ X f (rU λi=>.int (g i)):=by
 intro pins s σ H x v Q I rx h;obtain⟨i,rfl,q⟩:=h;obtain⟨t,rfl⟩:=rx;exact rule i t s _ _ ⟨.int (g i),H,I.tok _,⟨_,rfl⟩,q⟩
theorem NP:OQ X (unaryOp .USub) (rU λi=>.int (-i)):=V9 λ_ _ _ _ _ q=>neg_int q
end
def FO:V->V->Bool
 | .aO,.aO=>true| .aO,.int _=>true| .int _,.aO=>true| .aO,.bl _=>true| .bl _,.aO=>true| .aO,.str _=>true| .str _,.aO=>true
 | .int _,.int _=>true| .bl _,.bl _=>true| .str _,.str _=>true| .vJ _,.vJ _=>true
 | .int _,.str _=>true| .str _,.int _=>true| .bl _,.str _=>true| .str _,.bl _=>true
 |_,_=>false
def Pp:R2:=λx y H Q=>FO x y=true/\Q (.bl (decide (x=y))) H
def Ww:R2:=λx y H Q=>FO x y=true/\Q (.bl (!decide (x=y))) H
theorem S6{i j:Int}:decide (V.int i=V.int j)=(i ==j):=by
 rw[a1D];simp
theorem Se{i j:Bool}:decide (V.bl i=V.bl j)=(i ==j):=by
 rw[a1D];simp
theorem S5{i j:Str}:decide (V.str i=V.str j)=(i ==j):=by
 rw[a1D];simp
theorem S0{i j:Array UInt8}:decide (V.vJ i=V.vJ j)=(i.toList ==j.toList):=by
 rw[a1D];cases i;cases j;simp
section
variable{X:Cx}{a b c:Expr}{ta tb tc:TE}{pos:Pos}
theorem ZB{pins:List (Addr×Obj)}{σ:St}{H:Hp}{s:Shared}{Q:VK}{k k':Bool}(I:Inv X pins σ H s)(q:Q (.bl k) H)(e:k=k'):EP X pins σ Q (.bool k') s:=by
 subst e;exact⟨.bl k,H,I,rfl,q⟩
theorem aW:jH X (compareOp .Eq) Pp:=by
 intro pins s σ H x y v u Q I rx ry h;obtain⟨hs,q⟩:=h;cases x with
 |aO=>
  cases rx;cases y with
  |aO=>cases ry;exact PySem.EqNone.eq_none_none (ZB I q (by simp))
  |bl j=>cases ry;exact PySem.EqNone.eq_none_bool (ZB I q (by simp))
  |int j=>obtain⟨t',rfl⟩:=ry;exact PySem.EqNone.eq_none_int (ZB I q (by simp))
  |str j=>obtain⟨t',rfl⟩:=ry;exact PySem.EqNone.eq_none_str (ZB I q (by simp))
  |_=>exact absurd (show false=true from hs) a0V
 |bl i=>
  cases rx;cases y with
  |aO=>cases ry;exact PySem.EqNone.eq_bool_none (ZB I q (by simp))
  |bl j=>cases ry;exact eq_bool (ZB I q Se)
  |str j=>obtain⟨t',rfl⟩:=ry;exact PySem.EqMixed.eq_bool_str (ZB I q (by simp))
  |_=>exact absurd (show false=true from hs) a0V
 |int i=>
  obtain⟨t,rfl⟩:=rx;cases y with
  |aO=>cases ry;exact PySem.EqNone.eq_int_none (ZB I q (by simp))
  |int j=>obtain⟨t',rfl⟩:=ry;exact eq_int (ZB I q S6)
  |str j=>obtain⟨t',rfl⟩:=ry;exact PySem.EqMixed.eq_int_str (ZB I q (by simp))
  |_=>exact absurd (show false=true from hs) a0V
 |str i=>
  obtain⟨t,rfl⟩:=rx;cases y with
  |aO=>cases ry;exact PySem.EqNone.eq_str_none (ZB I q (by simp))
  |bl j=>cases ry;exact PySem.EqMixed.eq_str_bool (ZB I q (by simp))
  |int j=>obtain⟨t',rfl⟩:=ry;exact PySem.EqMixed.eq_str_int (ZB I q (by simp))
  |str j=>obtain⟨t',rfl⟩:=ry;exact eq_str (ZB I q S5)
  |_=>exact absurd (show false=true from hs) a0V
 |vJ i=>
  obtain⟨t,rfl⟩:=rx;cases y with
  |vJ j=>obtain⟨t',rfl⟩:=ry;exact W.eq_bytes (ZB I q S0)
  |_=>exact absurd (show false=true from hs) a0V
 |_=>cases y <;> exact absurd (show false=true from hs) a0V
theorem uK:jH X (compareOp .NotEq) Ww:=by
 intro pins s σ H x y v u Q I rx ry h;obtain⟨hs,q⟩:=h;cases x with
 |aO=>
  cases rx;cases y with
  |aO=>cases ry;exact PySem.EqNone.ne_none_none (ZB I q (by simp))
  |bl j=>cases ry;exact PySem.EqNone.ne_none_bool (ZB I q (by simp))
  |int j=>obtain⟨t',rfl⟩:=ry;exact PySem.EqNone.ne_none_int (ZB I q (by simp))
  |str j=>obtain⟨t',rfl⟩:=ry;exact PySem.EqNone.ne_none_str (ZB I q (by simp))
  |_=>exact absurd (show false=true from hs) a0V
 |bl i=>
  cases rx;cases y with
  |aO=>cases ry;exact PySem.EqNone.ne_bool_none (ZB I q (by simp))
  |bl j=>cases ry;exact ne_bool (ZB I q (agz not Se))
  |str j=>obtain⟨t',rfl⟩:=ry;exact PySem.EqMixed.ne_bool_str (ZB I q (by simp))
  |_=>exact absurd (show false=true from hs) a0V
 |int i=>
  obtain⟨t,rfl⟩:=rx;cases y with
  |aO=>cases ry;exact PySem.EqNone.ne_int_none (ZB I q (by simp))
  |int j=>obtain⟨t',rfl⟩:=ry;exact ne_int (ZB I q (agz not S6))
  |str j=>obtain⟨t',rfl⟩:=ry;exact PySem.EqMixed.ne_int_str (ZB I q (by simp))
  |_=>exact absurd (show false=true from hs) a0V
 |str i=>
  obtain⟨t,rfl⟩:=rx;cases y with
  |aO=>cases ry;exact PySem.EqNone.ne_str_none (ZB I q (by simp))
  |bl j=>cases ry;exact PySem.EqMixed.ne_str_bool (ZB I q (by simp))
  |int j=>obtain⟨t',rfl⟩:=ry;exact PySem.EqMixed.ne_str_int (ZB I q (by simp))
  |str j=>obtain⟨t',rfl⟩:=ry;exact ne_str (ZB I q (agz not S5))
  |_=>exact absurd (show false=true from hs) a0V
 |vJ i=>
  obtain⟨t,rfl⟩:=rx;cases y with
  |vJ j=>obtain⟨t',rfl⟩:=ry;exact W.ne_bytes (ZB I q (agz not S0))
  |_=>exact absurd (show false=true from hs) a0V
 |_=>cases y <;> exact absurd (show false=true from hs) a0V
theorem qL:jH X (compareOp .Lt) (zS λi j=>.bl (decide (i<j))):=Aa λ_ _ _ _ _ _ _ q=>lt_int q
theorem Gi:jH X (compareOp .LtE) (zS λi j=>.bl (decide (i<=j))):=Aa λ_ _ _ _ _ _ _ q=>le_int q
theorem xW:jH X (compareOp .Gt) (zS λi j=>.bl (decide (j<i))):=Aa λ_ _ _ _ _ _ _ q=>gt_int q
theorem Gj:jH X (compareOp .GtE) (zS λi j=>.bl (decide (j<=i))):=Aa λ_ _ _ _ _ _ _ q=>ge_int q
theorem Zw(b:Expr){op:CmpOp}(h:op≠.In:=by decide)(h2:op≠.NotIn:=by decide):behindInMarks op b=false:=by
 have e1:(op ==CmpOp.In)=false:=by cases op <;> first|rfl|exact absurd rfl h
 have e2:(op ==CmpOp.NotIn)=false:=by cases op <;> first|rfl|exact absurd rfl h2
 cases b <;> simp[behindInMarks,e1,e2]
theorem ZP{op:CmpOp}{r:R2}(ho:jH X (compareOp op) r)(ha:PE X a ta)(hb:PE X b tb)(hm:behindInMarks op b=false):PE X (.Compare a [op] [b] pos) (zC r ta tb):=by
 intro pins s σ H Q I h;exact wpAny_Compare1 (Dw ha hb I h λv u s2 x y H2 I2 rx ry q=>ho pins s2 σ H2 x y v u Q I2 rx ry q) hm
def tT(t:TE):TT:=λσ H Q=>t σ H λx H'=>∃k,x=.bl k/\Q k H'
theorem Zu{op:CmpOp}{r:R2}(ho:jH X (compareOp op) r)(ha:PE X a ta)(hb:PE X b tb)(hm:behindInMarks op b=false):PT X (.Compare a [op] [b] pos) (tT (zC r ta tb)):=by
 intro pins s σ H Q I h;refine wpAny_isTrue_Compare1 (fF (ha pins s σ H _ I h) λv s1 x H1 I1 r1 q1=>fF (hb pins s1 σ H1 _ I1 q1) λu s2 y H2 I2 r2 q2=>
  bZ (ho pins s2 σ H2 x y v u _ I2 r1 r2 q2) λc s3 ⟨z,H3,I3,r3,k,e,q3⟩=>?_) hm
 subst e;cases r3;exact a3P ⟨H3,I3,q3⟩
def ZkB(r r':R2)(ta tb tc:TE):TE:=λσ H Q=>ta σ H λx H1=>tb σ H1 λy H2=>r x y H2 λz H3=>∃k,z=.bl k /\
 (if k=true then tc σ H3 λw' H4=>r' y w' H4 Q else Q (.bl false) H3)
theorem ZhV{op op':CmpOp}{r r':R2}(ho:jH X (compareOp op) r)(ho':jH X (compareOp op') r')(ha:PE X a ta)(hb:PE X b tb)(hc:PE X c tc)
  (hm:lastMarks [op,op'] [b,c]=false:=by with_unfolding_all rfl):PT X (.Compare a [op,op'] [b,c] pos) (tT (ZkB r r' ta tb tc)):=by
 intro pins s σ H Q I h;refine isTrue_chain (fF (ha pins s σ H _ I h) λv s1 x H1 I1 r1 q1=>test_link (fF (hb pins s1 σ H1 _ I1 q1) λu s2 y H2 I2 r2 q2=>
  bZ (ho pins s2 σ H2 x y v u _ I2 r1 r2 q2) λd s3 ⟨z,H3,I3,r3,k,e,q3⟩=>?_)) hm
 subst e;cases r3;refine a3P ?_;cases k with
 |false=>
  obtain⟨k',e',q'⟩:=q3;cases e';exact ite_ff ⟨H3,I3,q'⟩
 |true=>
  refine ite_tt (test_last (fF (hc pins s3 σ H3 _ I3 q3) λw' s4 z' H4 I4 r4 q4=>bZ (ho' pins s4 σ H4 y z' u w' _ I4 r2 r4 q4) λd' s5 ⟨z2,H5,I5,r5,k2,e2,q5⟩=>?_));subst e2;cases r5;exact a3P ⟨H5,I5,q5⟩
theorem IC:(sizeLine:Nat)<2 ^ 63:=by rw[aK9];decide
theorem vals1{x:V}{us:List Value}(r:Vals [x] us):∃u,us=[u]/\RelV x u:=by
 cases r with
 |cons r1 r2=>cases r2;exact⟨_,rfl,r1⟩
theorem vals2{x y:V}{us:List Value}(r:Vals [x,y] us):∃u w',us=[u,w']/\RelV x u/\RelV y w':=by
 cases r with
 |cons r1 r2=>
  cases r2 with
  |cons r3 r4=>cases r4;exact⟨_,_,rfl,r1,r3⟩
theorem Ue:aY X (.builtin "abs") (λxs H Q=>∃i,xs=[.int i]/\Q (.int (if i<0 then -i else i)) H):=by
 intro pins s σ H xs us Q I r h;obtain⟨i,rfl,q⟩:=h;obtain⟨u,rfl,t,rfl⟩:=vals1 r;exact call_abs_int λu tk=>⟨.int (if i<0 then -i else i),H,I.tok _,⟨_,rfl⟩,q⟩
theorem Uv(hc:X.calm=true):aY X (.builtin "max") (λxs H Q=>∃i j,xs=[.int i,.int j]/\Q (.int (if j>i then j else i)) H):=by
 intro pins s σ H xs us Q I r h;obtain⟨i,j,rfl,q⟩:=h;obtain⟨u,w',rfl,⟨t,rfl⟩,⟨t',rfl⟩⟩:=vals2 r;refine max_two_ints (I.ok.hd hc) λh' tk k=>⟨_,H,I.kept k,?_,q⟩;by_cases hj:j>i
 .rw [auJ hj,auJ hj];exact⟨_,rfl⟩
 .rw [ale hj,ale hj];exact⟨_,rfl⟩
theorem Zgq(hc:X.calm=true):aY X (.builtin "min") (λxs H Q=>∃i j,xs=[.int i,.int j]/\Q (.int (if j<i then j else i)) H):=by
 intro pins s σ H xs us Q I r h;obtain⟨i,j,rfl,q⟩:=h;obtain⟨u,w',rfl,⟨t,rfl⟩,⟨t',rfl⟩⟩:=vals2 r;refine min_two_ints (I.ok.hd hc) λh' tk k=>⟨_,H,I.kept k,?_,q⟩;by_cases hj:j<i
 .rw [auJ hj,auJ hj];exact⟨_,rfl⟩
 .rw [ale hj,ale hj];exact⟨_,rfl⟩
theorem OM:aY X (.type "int") (λxs H Q=>(∃i,xs=[.int i]/\Q (.int i) H)\/∃k,xs=[.bl k]/\Q (.int (if k then 1 else 0)) H):=by
 intro pins s σ H xs us Q I r h;rcases h with⟨i,rfl,q⟩|⟨k,rfl,q⟩
 .obtain ⟨u,rfl,t,rfl⟩:=vals1 r;exact call_int_int ⟨.int i,H,I,⟨_,rfl⟩,q⟩
 .obtain ⟨u,rfl,r1⟩:=vals1 r;cases r1;exact call_int_bool ⟨.int (if k then 1 else 0),H,I.tok _,⟨_,rfl⟩,q⟩
theorem Zeo:aY X (.builtin "divmod") (λxs H Q=>∃i j,xs=[.int i,.int j]/\Jy i j/\∀p,H p=none->Q (.ref p) (upd H p (.tup [.int (i/j),.int (i%j)]))):=by
 intro pins s σ H xs us Q I r h;obtain⟨i,j,rfl,⟨h1,h2⟩,q⟩:=h;obtain⟨u,w',rfl,⟨t,rfl⟩,⟨t',rfl⟩⟩:=vals2 r;refine divmod_int (by lia) ?_ (.inl (PyProof.noPylong_small (by lia)));rw[Int.fdiv_eq_ediv_of_nonneg i (by lia),Int.fmod_eq_emod_of_nonneg i (by lia)];have hn:H s.heap.objs.size=none:=I.hok.fresh (aI1 _);refine⟨.ref s.heap.objs.size,_,?_,rfl,q _ hn⟩;refine I.laid (λb o e=>a8n _ e) (aI1 _) ⟨by simp only[aCx,List.length_nil];rw[aK9];decide,[.int (i/j) s.toks,.int (i%j) (s.toks+1)],.cons ⟨_,rfl⟩ (.cons ⟨_,rfl⟩ .nil),?_⟩;exact⟨_,awu s.heap rfl,rfl,0,rfl⟩
end
structure tM(h:Heap)(x dx C:Addr)(mA:Str->Option Value):Prop where
 obj:h.get? x=some (W.instObj C dx)
 ns:h.Ns1 dx mA
 ne:dx≠x
theorem Zgr{h:Heap}{dx:Addr}{mA:Str->Option Value}(n:h.Ns1 dx mA):∃od,h.get? dx=some od/\∀name,W.lookIn name od=some (mA name):=by
 obtain⟨o,es,ep,ho,hd,hk,_,hm⟩:=n;refine⟨o,ho,λname=>?_⟩;have e:=hm name;unfold nsFind findBy at e;rw[<-Array.find?_toList]at e;unfold W.lookIn;rw[hd];dsimp only;split
 .rename_i y q;rw[q]at e;exact agz some e
 .rename_i q;rw[q]at e;have a:es.toList.any (·.refKey)=false:=by
   rw[any_eq_false];intro y hy;obtain⟨z,t,hkey⟩:=hk y (Array.mem_toList_iff.mp hy);simp[DictEntry.refKey,hkey]
  have a':¬es.toList.any (·.refKey)=true:=by rw[a];exact a0V
  rw[ale a'];exact agz some e
theorem tM.look{h:Heap}{x dx C:Addr}{mA:Str->Option Value}(I:tM h x dx C mA):∃od,W.InstAt h x (W.instObj C dx) C (some od)/\∀name,W.lookIn name od=some (mA name):=
 let⟨od,ho,hl⟩:=Zgr I.ns
 ⟨od,⟨I.obj,rfl,rfl,ho⟩,hl⟩
section
variable{prog:Program}{w:World}{A:Around}{E:Value->Shared->Prop}{s:Shared}{K:W.Frag}{x dx C f:Addr}{mA:Str->Option Value}{name:Str}{v:Value}
theorem Zjw{expr:Bool}{Q:Value->Shared->Prop}(X:K.In s.heap)(I:tM s.heap x dx C mA)(hg:W.plainGet K C name=true)(hh:W.hasDictIn K C=true)
  (ha:W.findIn K (.ref C) name=some none) (hv:mA name=some v) (hv':W.handedIn v=true) (h:Q v { s with toks:=s.toks+1 }) :
  wpAny (model prog w) A (getAttr (.ref x) name expr) Q E s:=by
 obtain⟨od,J,hl⟩:=I.look;exact W.get_value X J (W.plainGet_of hg).1 (W.findObj_own hh ha rfl (by rw[hl,hv])) hv' h
theorem ZhW{pl:Sem Bool}{Q:Value×List Value->Shared->Prop}(X:K.In s.heap)(I:tM s.heap x dx C mA)(hg:W.plainGet K C name=true)
  (hf:W.findIn K (.ref C) name=some (some (.ref f))) (ht:W.isFn K (.ref f)=true) (hv:mA name=none) (h:Q (.ref f,[.ref x]) s) :
  wpAny (model prog w) A (getMethod (.ref x) name pl) Q E s:=by
 obtain⟨od,J,hl⟩:=I.look;exact W.method_fn X J (W.plainGet_of hg).1 (W.plainGet_of hg).2 hf (av8.mp ht) (by show(W.lookIn name od).map (·.isSome)=some false;rw[hl,hv];rfl) h
theorem Zjx{ns:List Str}{Q:Unit->Shared->Prop}(X:K.In s.heap)(I:tM s.heap x dx C mA)
  (hs:W.findIn K (.ref C) "__setattr__"=some (some (.builtin "object.__setattr__"))) (hp:W.plainOver K C=true) (ht:W.takerIn K C name=some none) (hh:W.hasDictIn K C=true)
  (hw:PySem.Within mA ns) (hsz:ns.length<=sizeLine)
  (h:∀h',tM h' x dx C (λy=>if y=name then some v else mA y)->Heap.SameBut dx s.heap h'->Q () { s with heap:=h',toks:=s.toks+2 }) :
  wpAny (model prog w) A (setAttr (.ref x) name v) Q E s:=by
 obtain⟨od,J,hl⟩:=I.look;refine W.set_plain X J hs (W.osa_open (s:={ s with toks:=s.toks+1 }) (r:=none) X J hp ht λb=>?_);obtain⟨cd,hc,hd'⟩:=W.any_some hh;have hx:s.heap.get? x=some ⟨.ref C,some dx,.plain,#[]⟩:=I.obj;refine a3A (aLE (a3A (a3A (wpAny_loadPart hx (a3A (W.Looks.here (s:={ s with toks:=s.toks+1 }) (W.looks_clsIn X hc) ?_))))));rw[hd'];refine aLE (a:=some dx) (a3A (aLE (a3A ?_)));refine wpAny_nsSet1 (s:={ s with toks:=s.toks+1 }) I.ns λh' hn2 hs2=>?_;obtain⟨oD,esD,epD,XW,Yb,Yd⟩:=hn2.count (PySem.Within.cons name v hw);refine a3A (wpAny_lookBehind XW (by rw[Yb];exact pastItsLine_dict (atR Yd (by rw[aCx];lia))) ?_);exact aLE (h _ ⟨(hs2.2 _ (aWz I.ne)).trans I.obj,hn2,I.ne⟩ hs2)
theorem ZhX{R:Result->Shared->Prop}{vs:List Value}{kw:List (Str×Value)}(X:K.In s.heap)(hm:W.makesIn K C=true)
  (hi:W.findIn K (.ref C) "__init__"=some (some (.ref f))) (hf:W.typeIn K (.ref f)=some (.type "function"))
  (h:codeAny (model prog w) (A.under (.builtin "type.__call__" ⟨.ref C ::vs,kw⟩)) (.call (.ref f) ⟨.ref (s.heap.objs.size+1) ::vs,kw⟩) (W.InitBack (s.heap.objs.size+1) R)
   { s with heap:=(s.heap.push W.emptyDict).push (W.instObj C s.heap.objs.size) }) :
  codeAny (model prog w) A (.call (.ref C) ⟨vs,kw⟩) R s:=by
 obtain⟨hh,g,d,t,os⟩:=s;exact W.make_core (W.makes_of X hm) (W.looks_findIn X hi) (λself=>W.bind_fn X self hf) (.inl rfl) h
end
def ah(f:Str)(v:V):List (Str×V)->List (Str×V)
 | []=>[(f,v)]
 |(g,x) ::r=>if g=f then(g,v) ::r else(g,x) ::ah f v r
theorem Zh(f g:Str)(v:V):∀fs:List (Str×V),(ah f v fs).lookup g=if g=f then some v else fs.lookup g
 | []=>by
  show List.lookup g [(f,v)]=_;by_cases h:g=f
  .have hb:(g ==f)=true:=av8.mpr h;simp only[List.lookup,hb,auJ h]
  .have hb:(g ==f)=false:=baQ.mpr h;simp only[List.lookup,hb,ale h]
 |(k,x) ::r=>by
  have ih:=Zh f g v r;rw[show ah f v ((k,x) ::r)=(if k=f then(k,v) ::r else(k,x) ::ah f v r) from rfl];by_cases hk:k=f
  .rw [auJ hk];by_cases h:g=k
   .have hb:(g ==k)=true:=av8.mpr h;simp only[List.lookup,hb,auJ (h.trans hk)]
   .have hb:(g ==k)=false:=baQ.mpr h;simp only[List.lookup,hb,ale (λe:g=f=>h (e.trans hk.symm))]
  .rw [ale hk];by_cases h:g=k
   .have hb:(g ==k)=true:=av8.mpr h;simp only[List.lookup,hb,ale (λe:g=f=>hk (h.symm.trans e))]
   .have hb:(g ==k)=false:=baQ.mpr h;simp only[List.lookup,hb];exact ih
theorem OL(f:Str)(v:V):∀fs:List (Str×V),f∈(ah f v fs).map (·.1)/\∀g,g∈fs.map (·.1)->g∈(ah f v fs).map (·.1)
 | []=>⟨by simp[ah],λg h=>by simp at h⟩
 |(k,x) ::r=>by
  obtain⟨i1,i2⟩:=OL f v r;rw[show ah f v ((k,x) ::r)=(if k=f then(k,v) ::r else(k,x) ::ah f v r) from rfl];by_cases hk:k=f
  .rw [auJ hk];subst hk;exact⟨by simp,λg h=>by simpa using h⟩
  .rw [ale hk];refine⟨?_,λg h=>?_⟩
   .rw [aB5];exact asW _ i1
   .rw [aB5]at h ⊢;rcases awk.mp h with e|e
    .exact awk.mpr (.inl e)
    .exact asW _ (i2 g e)
theorem UJ(f:Str)(v:V):∀fs:List (Str×V),(ah f v fs).length<=fs.length+1
 | []=>by simp[ah]
 |(k,x) ::r=>by
  have ih:=UJ f v r;rw[show ah f v ((k,x) ::r)=(if k=f then(k,v) ::r else(k,x) ::ah f v r) from rfl];by_cases hk:k=f
  .rw [auJ hk,aCx,aCx];lia
  .rw [ale hk,aCx,aCx];lia
theorem dN.some_of{v:V}{o:Option Value}(r:dN (some v) o):∃u,o=some u/\RelV v u:=by
 cases o with
 |none=>exact(show False from r).elim
 |some u=>exact⟨u,rfl,r⟩
theorem dN.none_of{o:Option Value}(r:dN none o):o=none:=by
 cases o with
 |none=>rfl
 |some u=>exact(show False from r).elim
theorem Zgs{v:V}{u:Value}(r:RelV v u):W.handedIn u=true:=by
 cases v with
 |aO=>cases(show u=Value.none from r);rfl
 |bl b=>cases(show u=Value.bool b from r);rfl
 |int i=>obtain⟨t,e⟩:=(show ∃t,u=Value.int i t from r);cases e;rfl
 |str x=>obtain⟨t,e⟩:=(show ∃t,u=Value.str x t from r);cases e;rfl
 |vJ b=>obtain⟨t,e⟩:=(show ∃t,u=Value.bytes b t from r);cases e;rfl
 |Ay b=>obtain⟨t,e⟩:=(show ∃t,u=Value.float b t from r);cases e;rfl
 |ref a=>cases(show u=Value.ref a from r);rfl
 |ty n=>cases(show u=Value.type n from r);rfl
section
variable{P:Program}{w:World}{H H':Hp}{h h':Heap}{a C dx:Addr}{fs fs':List (Str×V)}
theorem K5(hok:eT P w H h)(e:H a=some (.ins C dx fs)):∃mA,tM h a dx C mA/\(∀f,dN (fs.lookup f) (mA f))/\PySem.Within mA (fs.map (·.1))/\fs.length<=1000/\H dx=some (.own a):=by
 obtain⟨d,z,ne,ob,mA,n,r,q⟩:=(show aF P w H h a (.ins C dx fs) from hok a _ e);exact⟨mA,⟨ob,n,ne⟩,r,q,z,d⟩
end
structure sj(K:W.Frag)(C:Addr):Prop where
 pg:W.plainGet K C Str.empty=true
 hd:W.hasDictIn K C=true
 po:W.plainOver K C=true
 sa:W.findIn K (.ref C) "__setattr__"=some (some (.builtin "object.__setattr__"))
theorem sj.get{K:W.Frag}{C:Addr}(c:sj K C)(f:Str):W.plainGet K C f=true:=c.pg
def aQ(K:W.Frag)(C:Addr)(f:Str):Prop:=W.findIn K (.ref C) f=some none
theorem aQ.Ft{K:W.Frag}{C:Addr}{f:Str}(n:aQ K C f):W.takerIn K C f=some none:=by
 unfold W.takerIn;rw[show W.findIn K (.ref C) f=some none from n];rfl
structure Meth(K:W.Frag)(C:Addr)(m:Str)(f:Addr):Prop where
 at_:W.findIn K (.ref C) m=some (some (.ref f))
 fn:W.isFn K (.ref f)=true
 kp:W.keepIn K (.ref f)=true
section
variable{X:Cx}{pins:List (Addr×Obj)}{σ:St}{H:Hp}{s:Shared}{a C dx:Addr}{fs:List (Str×V)}{f:Str}{v:V}{A:Around}{E:Value->Shared->Prop}
theorem ZfF{b:Bool}{Q:Value->Shared->Prop}(I:Inv X pins σ H s)(e:H a=some (.ins C dx fs))(c:sj X.K C)(n:aQ X.K C f)(l:fs.lookup f=some v)
  (h:∀u s',Inv X pins σ H s'->RelV v u->Q u s'):wpAny (model X.prog X.w) A (getAttr (.ref a) f b) Q E s:=by
 obtain⟨mA,O,r,_,_,_⟩:=K5 I.hok e;obtain⟨u,hu,ru⟩:=dN.some_of (v:=v) (o:=mA f) (by rw[<-l];exact r f);exact Zjw I.dR O (c.get f) c.hd n hu (Zgs ru) (h u _ (I.tok _) ru)
theorem Ux{m:Str}{g:Addr}{pl:Sem Bool}{Q:Value×List Value->Shared->Prop}(I:Inv X pins σ H s)(e:H a=some (.ins C dx fs))(c:sj X.K C)(k:Meth X.K C m g)(l:fs.lookup m=none)
  (h:Q (.ref g,[.ref a]) s):wpAny (model X.prog X.w) A (getMethod (.ref a) m pl) Q E s:=by
 obtain⟨mA,O,r,_,_,_⟩:=K5 I.hok e;have hn:mA m=none:=dN.none_of (by rw[<-l];exact r m);exact ZhW I.dR O (c.get m) k.at_ k.fn hn h
theorem ZfG{y:V}{u:Value}{Q:Unit->Shared->Prop}(I:Inv X pins σ H s)(e:H a=some (.ins C dx fs))(c:sj X.K C)(n:aQ X.K C f)(hl:fs.length<1000)(ry:RelV y u)
  (h:∀s',Inv X pins σ (upd H a (.ins C dx (ah f y fs))) s'->Q () s'):wpAny (model X.prog X.w) A (setAttr (.ref a) f u) Q E s:=by
 obtain⟨mA,O,r,wi,_,ho⟩:=K5 I.hok e;have hz:(fs.map (·.1)).length<=sizeLine:=by rw[apM,aK9];lia
 refine Zjx I.dR O c.sa c.po n.Ft c.hd wi hz λh' O' sb=>h _ ?_;have hd:∃o,h'.get? dx=some o:=let⟨o,_,_,e',_⟩:=O'.ns;⟨o,e'⟩;refine I.write (x:=a) (e:=dx) (by rw[e];exact True.intro) (.inr ho) (λb q hb z=>(sb.2 b hb).trans z) hd ?_;refine⟨by rw[Zc O.ne];exact ho,?_,O.ne,O'.obj,_,O'.ns,λg=>?_,λg hg=>?_⟩
 .have:=UJ f y fs;lia
 .show dN ((ah f y fs).lookup g) (if g=f then some u else mA g);rw[Zh];by_cases q:g=f
  .rw [auJ q,auJ q];exact ry
  .rw [ale q,ale q];exact r g
 .by_cases q:g=f
  .rw [q];exact(OL f y fs).1
  .refine (OL f y fs).2 g (wi g λz=>hg ?_);show(if g=f then some u else mA g)=none;rw[ale q];exact z
theorem Inv.made(I:Inv X pins σ H s):Inv X pins σ (upd (upd H s.heap.objs.size (.own (s.heap.objs.size+1))) (s.heap.objs.size+1) (.ins C s.heap.objs.size []))
  { s with heap:=(s.heap.push W.emptyDict).push (W.instObj C s.heap.objs.size) }:=by
 have e1:(s.heap.push W.emptyDict).get? s.heap.objs.size=some W.emptyDict:=awu s.heap rfl;have e2:((s.heap.push W.emptyDict).push (W.instObj C s.heap.objs.size)).get? (s.heap.objs.size+1)=some (W.instObj C s.heap.objs.size):=by
  have:=awu (s.heap.push W.emptyDict) (o:=W.instObj C s.heap.objs.size) rfl;rwa [aK7]at this
 have e3:(s.heap.push W.emptyDict).Ns s.heap.objs.size (λ_=>none):=⟨W.emptyDict,#[],_,e1,rfl,(λe he=>absurd he (by simp)),λ_=>rfl⟩;have I1:=I.laid (a:=s.heap.objs.size) (o:=.own (s.heap.objs.size+1)) (h':=s.heap.push W.emptyDict) (t':=s.toks) (λb u q=>a8n _ q) (aI1 _) ⟨_,e1⟩;refine I1.laid (a:=s.heap.objs.size+1) (o:=.ins C s.heap.objs.size []) (t':=s.toks) (λb u q=>a8n _ q) (ab5 (aK7 _ _)) ?_;have ne:s.heap.objs.size≠s.heap.objs.size+1:=aor (Nat.lt_succ_self _);refine⟨by rw[Zc ne,Za],acY _,ne,e2,λ_=>none,(Heap.Ns1.of_empty e3).at λo q=>a8n _ q,λ_=>True.intro,λy hy=>absurd rfl hy⟩
theorem Zjy{prog:Program}{w:World}{env:Env}{e:Expr}{f:Str}{pos:Pos}{s:Shared}{Q:Value->Shared->Prop}(hb:attributeBase e f env (eval e env)=eval e env)
  (h:wpAny (model prog w) A (eval e env) (λo s₁=>wpAny (model prog w) A (getAttr o f true) Q E s₁) E s):wpAny (model prog w) A (eval (.Attribute e f pos) env) Q E s:=
 Attribute_any_ h (by rw[arm_eval_Attribute,hb])
end
def FD(K:W.Frag)(ta:TE)(f:Str):TE:=λσ H Q=>ta σ H λx H1=>∃a C dx fs v,x=.ref a/\H1 a=some (.ins C dx fs)/\sj K C/\aQ K C f/\fs.lookup f=some v/\Q v H1
def LO(K:W.Frag)(ta tv:TE)(f:Str):TS:=λD σ H=>tv σ H λy H1=>ta σ H1 λx H2=>∃a C dx fs,x=.ref a/\H2 a=some (.ins C dx fs)/\sj K C/\aQ K C f/\fs.length<1000 /\
 D.nx σ (upd H2 a (.ins C dx (ah f y fs)))
def Jv(X:Cx)(op:Operator)(rd:V->V->Hp->VK->Prop):Prop:=
 ∀(pins:List (Addr×Obj))(s:Shared)(σ:St)(H:Hp)(x y:V)(u v:Value)(Q:VK),Inv X pins σ H s->RelV x u->RelV y v->rd x y H Q->wpAny (model X.prog X.w) X.A (inplaceOp op u v) (EP X pins σ Q) X.xe s
section
variable{X:Cx}{o e value:Expr}{f:Str}{pos pos' tpos:Pos}{ta tv:TE}
theorem ZkC(he:PE X e ta)(hb:attributeBase e f X.env (eval e X.env)=eval e X.env):PE X (.Attribute e f pos) (FD X.K ta f):=by
 intro pins s σ H Q I h;refine Zjy hb (bZ (he pins s σ H _ I h) λu s1 ⟨x,H1,I1,rx,a,C,dx,fs,v,ex,ea,c,n,l,q⟩=>?_);subst ex;obtain rfl:u=Value.ref a:=rx;exact ZfF I1 ea c n l λu' s2 I2 ru=>⟨v,H1,I2,ru,q⟩
theorem rH(ha:PE X o ta)(hv:PE X value tv)(hs:swapsWith value (some (.Attribute o f pos')) pos.line X.env=pure false):PS X (.Assign [.Attribute o f pos'] value pos) (LO X.K ta tv f):=by
 intro pins s σ H D I h;refine plainObj_wpAny_Assign_Attribute (fF (hv pins s σ H _ I h) λu s1 y H1 I1 ry q=>bZ (ha pins s1 σ H1 _ I1 q) λov s2 ⟨x,H2,I2,rx,a,C,dx,fs,ex,ea,c,n,l,q2⟩=>?_) hs;subst ex;obtain rfl:ov=Value.ref a:=rx;exact ZfG I2 ea c n l ry λs3 I3=>⟨σ,_,I3,q2⟩
inductive F1(x:V)(y:V)(H:Hp)(Q:VK):Prop
 |mk (i j:_):x=.int i->y=.int j->Q (.int (i+j)) H->F1 x y H Q
theorem ZkD:Jv X .Add F1:=by
 rintro pins s σ H x y u v Q I rx ry ⟨i,j,rfl,rfl,q⟩;obtain⟨t,rfl⟩:=(show ∃t,u=Value.int i t from rx);obtain⟨t',rfl⟩:=(show ∃t',v=Value.int j t' from ry);exact PyProof.Rows.iadd_int ⟨.int (i+j),H,I.tok _,⟨_,rfl⟩,q⟩
end
section
variable{X:Cx}{pins:List (Addr×Obj)}{σ:St}{H:Hp}{s:Shared}{A:Around}{E:Value->Shared->Prop}{Q:Value->Shared->Prop}{c:Value}{b:Bool}
inductive jg (K:W.Frag) (H:Hp):V->Value->Prop where
 |aO:jg K H .aO (.type "NoneType")
 |bl (x:Bool):jg K H (.bl x) (.type "bool")
 |int (i:Int):jg K H (.int i) (.type "int")
 |str (x:Str):jg K H (.str x) (.type "str")
 |Ay (x:UInt64):jg K H (.Ay x) (.type "float")
 |lst {a:Addr} {xs:List V} (e:H a=some (.lst xs)):jg K H (.ref a) (.type "list")
 |cU {a:Addr} {o:Obj} {xs:List V} (e:H a=some (.cU o (.lst xs))):jg K H (.ref a) (.type "list")
 |tup {a:Addr} {xs:List V} (e:H a=some (.tup xs)):jg K H (.ref a) (.type "tuple")
 |dK {a:Addr} {kvs:List (Key×V)} (e:H a=some (.dK kvs)):jg K H (.ref a) (.type "dict")
 |dT {a:Addr} {kvs:List (List Key×V)} (e:H a=some (.dT kvs)):jg K H (.ref a) (.type "dict")
 | ins {a C dx:Addr} {fs:List (Str×V)} (e:H a=some (.ins C dx fs)) (cl:sj K C) (ha:W.findIn K (.ref C) "__class__"=some (some (.builtin "object.__class__")))
   (hn:W.specialIn K (.builtin "object.__class__") "__get__"=some (some (.builtin "getset_descriptor.__get__"))) (htk:W.takesIn K (.builtin "object.__class__")=some true)
   (hm:W.mroIn K C (.type "object")=some true):jg K H (.ref a) (.ref C)
theorem Zgt{x:V}{u t:Value}(I:Inv X pins σ H s)(rx:RelV x u)(ty:jg X.K H x t)(e:W.kitOne X.K t c=some b)(h:∀tk,Q (.bool b) { s with toks:=tk }) :
  wpAny (model X.prog X.w) A (call (.builtin "isinstance") [u,c]) Q E s:=by
 cases ty with
 |aO=>cases(show u=Value.none from rx);exact aIR W.kitx_none I.dR True.intro e (λz=>nomatch z) h
 |bl y=>cases(show u=Value.bool y from rx);exact aIR W.kitx_bool I.dR True.intro e (λz=>nomatch z) h
 |int i=>obtain⟨t,q⟩:=(show ∃t,u=Value.int i t from rx);cases q;exact aIR W.kitx_int I.dR True.intro e (λz=>nomatch z) h
 |str y=>obtain⟨t,q⟩:=(show ∃t,u=Value.str y t from rx);cases q;exact aIR W.kitx_str I.dR True.intro e (λz=>nomatch z) h
 |Ay y=>obtain⟨t,q⟩:=(show ∃t,u=Value.float y t from rx);cases q;exact aIR W.kitx_float I.dR True.intro e (λz=>nomatch z) h
 | @lst a xs ea=>
  cases(show u=Value.ref a from rx);obtain⟨_,_,n,_,h1⟩:=(show aF X.prog X.w H s.heap a (.lst xs) from I.hok a _ ea);exact aIR W.kitx_list I.dR ⟨_,h1,rfl⟩ e (λz=>nomatch z) h
 | @cU a ob xs ea=>
  cases(show u=Value.ref a from rx);obtain⟨_,_,_,n,_,h1⟩:=(show aF X.prog X.w H s.heap a (.cU ob (.lst xs)) from I.hok a _ ea);exact aIR W.kitx_list I.dR ⟨_,h1,rfl⟩ e (λz=>nomatch z) h
 | @tup a xs ea=>
  cases(show u=Value.ref a from rx);obtain⟨_,_,_,p⟩:=(show aF X.prog X.w H s.heap a (.tup xs) from I.hok a _ ea);obtain⟨o,h1,h2,_⟩:=p;exact aIR W.kitx_tuple I.dR ⟨o,h1,h2⟩ e (λz=>nomatch z) h
 | @dK a kvs ea=>
  cases(show u=Value.ref a from rx);obtain⟨_,_,vs,_,p⟩:=(show aF X.prog X.w H s.heap a (.dK kvs) from I.hok a _ ea);obtain⟨o,es,ep,h1,h2,_⟩:=p;exact aIR W.kitx_dict I.dR ⟨o,h1,h2.1⟩ e (λz=>nomatch z) h
 | @dT a kvs ea=>
  cases(show u=Value.ref a from rx);obtain⟨_,_,xs,_,o,es,ep,h1,h2,_⟩:=(show aF X.prog X.w H s.heap a (.dT kvs) from I.hok a _ ea);exact aIR W.kitx_dict I.dR ⟨o,h1,h2.1⟩ e (λz=>nomatch z) h
 | @ins a C dx fs ea cl ha hn htk hm=>
  cases(show u=Value.ref a from rx);obtain⟨mA,O,_⟩:=K5 I.hok ea;obtain⟨od,J,_⟩:=O.look;exact aIR (W.kitx_own (cl.get _) cl.hd ha hn htk hm) I.dR J e (λz=>nomatch z) h
end
structure aX(k:Nat)(A:Around):Prop where
 hd:A.handled=none
 dp:A.depth+3*k+5<recursionLimit
 un:A.units+16*k+200<cLine
 gd:A.guards=some []
theorem aX.mono{j k:Nat}{A:Around}(r:aX k A)(h:j<=k):aX j A:=⟨r.hd,by have:=r.dp;lia,by have:=r.un;lia,r.gd⟩
theorem aX.deeper{k:Nat}{A:Around}(r:aX (k+1) A)(env:Env):aX k (A.deeper env):=
 ⟨r.hd,by have:=r.dp;show A.depth+1+3*k+5<_;lia,by have:=r.un;show A.units+3+16*k+200<_;lia,r.gd⟩
theorem ZfH{A:Around}{C:Addr}{us:List Value}{kw:List (Str×Value)}:(A.under (.builtin "type.__call__" ⟨.ref C ::us,kw⟩)).depth=A.depth+1:=by
 first|rfl|simp[Around.under,Code.weight,Code.isCreation,Code.isGuard,Code.isCaller,Code.frames,Code.isFrame,guardIds]
theorem ZfI{A:Around}{C:Addr}{us:List Value}{kw:List (Str×Value)}:(A.under (.builtin "type.__call__" ⟨.ref C ::us,kw⟩)).units=A.units+1:=by
 first|rfl|simp[Around.under,Code.cUnits,Code.frames,Code.isFrame]
theorem aX.make{k:Nat}{A:Around}(r:aX (k+1) A)(C:Addr)(us:List Value)(kw:List (Str×Value)):aX k (A.under (.builtin "type.__call__" ⟨.ref C ::us,kw⟩)):=
 ⟨r.hd,by have:=r.dp;rw[ZfH];lia,by have:=r.un;rw[ZfI];lia,r.gd⟩
theorem aX.depth{k:Nat}{A:Around}(r:aX k A):A.depth<recursionLimit:=by have:=r.dp;lia
theorem aX.units{k:Nat}{A:Around}(r:aX k A):A.units+64<cLine:=by have:=r.un;lia
def zD:TA:=λ_ H Q=>Q [] H
def A7(ta:TE)(tr:TA):TA:=λσ H Q=>ta σ H λx H1=>tr σ H1 λxs H2=>Q (x ::xs) H2
section
variable{X:Cx}{e:Expr}{es:List Expr}{te:TE}{t:TA}{pos:Pos}
theorem Zb:PA X [] zD:=λ_ _ _ _ H Q I h=>aEg ⟨[],H,I,.nil,h⟩
theorem Zjz(ha:PE X e te)(hr:PA X es t)(hs:starEach (e ::es) X.env=(false,eval e X.env) ::starEach es X.env:=by rfl):PA X (e ::es) (A7 te t):=by
 intro pos pins s σ H Q I h;rw[hs];show wpAny _ _ (spliced ((false,eval e X.env) ::backTo pos (starEach es X.env))) _ _ s;refine aUp (fF (ha pins s σ H _ I h) λu s1 x H1 I1 r1 q1=>?_);exact tS (hr pos pins s1 σ H1 _ I1 q1) λus s2 xs H2 I2 r2 q2=>⟨x ::xs,H2,I2,.cons r1 r2,q2⟩
def Lz(t:TA):TE:=λσ H Q=>t σ H λxs H1=>xs.length<=sizeLine/\∀p,H1 p=none->Q (.ref p) (upd H1 p (.tup xs))
def Fz(t:TA):TE:=λσ H Q=>t σ H λxs H1=>xs.length<=sizeLine/\∀p,H1 p=none->Q (.ref p) (upd H1 p (.lst xs))
theorem ZN{x1}(h:PA X es t):PE X (.Tuple es x1 pos) (Lz t):=by
 intro pins s σ H Q I hq;refine wpAny_Tuple_spliced (bZ (h pos pins s σ H _ I hq) λus s1 ⟨xs,H1,I1,r,z,q⟩=>⟨by rw[<-r.length];exact z,?_⟩);have hf:H1 s1.heap.objs.size=none:=I1.hok.fresh (aI1 _);refine⟨.ref s1.heap.objs.size,upd H1 s1.heap.objs.size (.tup xs),I1.laid (t':=s1.toks) (λb u e=>a8n _ e) (aI1 _) ?_,rfl,q _ hf⟩;exact⟨z,us,r,⟨_,awu _ rfl,rfl,_,rfl⟩⟩
theorem ZV(h:PA X es t):PE X (.List es pos) (Fz t):=by
 intro pins s σ H Q I hq;refine wpAny_List_spliced (bZ (h pos pins s σ H _ I hq) λus s1 ⟨xs,H1,I1,r,z,q⟩=>⟨by rw[<-r.length];exact z,?_⟩);have hf:H1 s1.heap.objs.size=none:=I1.hok.fresh (aI1 _);refine⟨.ref s1.heap.objs.size,upd H1 s1.heap.objs.size (.lst xs),I1.laid (t':=s1.toks) (λb u e=>a8n _ e) (aI1 _) ?_,rfl,q _ hf⟩;exact⟨z,us,0,r,awu _ rfl⟩
end
abbrev Sp:=List V->Hp->VK->XK->Prop
abbrev zy:=List Env->Hp->Shared->XK->Value->Shared->Prop
structure tQ(P:Program)(w:World)(K:W.Frag)(mg:Str->Option Value)(base:Heap)(A:Around)(outer:List Env)(s:Shared)(H:Hp):Prop where
 frames:A.frames=some outer
 mod:Mod K mg base
 bs:∀b o,base.get? b=some o->s.heap.get? b=some o/\H b=none
 zf:base.objs.size<=s.heap.objs.size
 j5:s.heap.FunFrames base outer
 Dl:∀b∈frs outer,H b=none
 hok:eT P w H s.heap
 bare:AllBare s.gens
def CE(outer:List Env)(P:Program)(w:World)(H:Hp)(s:Shared)(Q:VK)(u:Value)(s':Shared):Prop:=
 ∃v H',s'.os=s.os/\AllBare s'.gens/\Un (frs outer) [] H H' s.heap s'.heap/\eT P w H' s'.heap/\RelV v u/\Q v H'
def CR(CX:zy)(outer:List Env)(P:Program)(w:World)(H:Hp)(s:Shared)(Q:VK)(E:XK)(r:Result)(s':Shared):Prop:=
 match r with
 | .ok (.ret u)=>CE outer P w H s Q u s'
 | .ok _=>False
 | .error e=>CX outer H s E e s'
structure cM(P:Program)(w:World)(K:W.Frag)(mg:Str->Option Value)(base:Heap)(CX:zy)(k:Nat)(f:Addr)(fd:FuncData)(ps:List Str)(sp:Sp):Prop where
 len:∀vs H Q E,sp vs H Q E->vs.length=ps.length
 run:∀(A:Around)(outer:List Env)(s:Shared)(H:Hp)(args:Args)(us:List Value)(vs:List V)(Q:VK)(E:XK),aX k A->tQ P w K mg base A outer s H->BindsTo s fd args (ps.zip us)->Vals vs us->sp vs H Q E ->
  codeAny (model P w) A (.call (.ref f) args) (CR CX outer P w H s Q E) s
theorem tQ.make{P:Program}{w:World}{K:W.Frag}{mg:Str->Option Value}{base:Heap}{A:Around}{outer:List Env}{s:Shared}{H:Hp}(e:tQ P w K mg base A outer s H)(C:Addr)(us:List Value)(kw:List (Str×Value)) :
  tQ P w K mg base (A.under (.builtin "type.__call__" ⟨.ref C ::us,kw⟩)) outer s H:=⟨by first|exact e.frames|(simpa[Around.under,Code.envs,Code.isFrame,pushEnvs]using e.frames),e.mod,e.bs,e.zf,e.j5,e.Dl,e.hok,e.bare⟩
section
variable{X:Cx}{pins:List (Addr×Obj)}{σ:St}{H:Hp}{s s':Shared}
theorem Inv.HY(I:Inv X pins σ H s):tQ X.prog X.w X.K X.mg X.base X.A X.stack s H:=
 ⟨I.ok.frames,I.ok.mod,I.bs,atR I.ok.zf I.sz,I.stack,I.oJ,I.hok,I.bare⟩
theorem Inv.after{Q:VK}{u:Value}(I:Inv X pins σ H s)(h:CE X.stack X.prog X.w H s Q u s'):EP X pins σ Q u s':=by
 obtain⟨v,H',os,bare,un,hok,r,q⟩:=h;obtain⟨hh,g,d,t,os'⟩:=s';obtain rfl:os'=s.os:=os;exact⟨v,H',I.call (h':=hh) (g':=g) (d':=d) (t':=t) (ch:=[]) un hok bare (λb z=>absurd z (by simp)),r,q⟩
end
def tV(sp:Sp)(nv:List V)(E:XK)(t:TA):TE:=λσ H Q=>t σ H λvs H1=>sp (vs++nv) H1 Q E
def tU(C:Addr)(m:Str)(sp:Sp)(nv:List V)(E:XK)(ta:TE)(t:TA):TE:=λσ H Q=>ta σ H λx H1=>∃a dx fs,x=.ref a/\H1 a=some (.ins C dx fs)/\fs.lookup m=none /\
 t σ H1 λvs H2=>sp (x ::(vs++nv)) H2 Q E
def A6(C:Addr)(sp:Sp)(nv:List V)(E:XK)(t:TA):TE:=λσ H Q=>t σ H λvs H1=>∀x dx,H1 x=none->H1 dx=none->dx≠x ->
 sp (.ref x ::(vs++nv)) (upd (upd H1 dx (.own x)) x (.ins C dx [])) (λv H2=>v=.aO/\Q (.ref x) H2) E
def Binds(K:W.Frag)(fd:FuncData)(ps:List Str)(ds:List Value):Prop:=
 ∀(s:Shared)(us:List Value),K.In s.heap->(us++ds).length=ps.length->BindsTo s fd ⟨us,[]⟩ (ps.zip (us++ds))
theorem Binds.all{K:W.Frag}{fd:FuncData}{ps:List Str}(h:∀us:List Value,us.length=ps.length->bindArgs fd ⟨us,[]⟩=pure (ps.zip us)):Binds K fd ps []:=λs us _ hl=>by
 rw[aKQ]at hl ⊢;exact .of_eq (h us hl)
def DH(CX:zy)(X:Cx)(E:XK):Prop:=∀(pins:List (Addr×Obj))(σ:St)(H:Hp)(s:Shared)(e:Value)(s':Shared),Inv X pins σ H s->CX X.stack H s E e s'->X.xe e s'
section
variable{X:Cx}{CX:zy}{k:Nat}{f C:Addr}{fd:FuncData}{ps:List Str}{sp:Sp}{nv:List V}{ds:List Value}{E:XK}{x m:Str}{p pos apos:Pos}{e o:Expr}{es:List Expr}{ta:TE}{t:TA}
theorem KL{pins:List (Addr×Obj)}{σ:St}{H:Hp}{s:Shared}{Q:VK}{us:List Value}{vs:List V}(F:cM X.prog X.w X.K X.mg X.base CX k f fd ps sp)(hr:aX k X.A)(hb:Binds X.K fd ps ds)(hd:Vals nv ds)(hx:DH CX X E)
  (I:Inv X pins σ H s) (r:Vals vs us) (h:sp (vs++nv) H Q E):wpAny (model X.prog X.w) X.A (call (.ref f) us) (EP X pins σ Q) X.xe s:=by
 have r2:Vals (vs++nv) (us++ds):=r.append hd;have hl:(us++ds).length=ps.length:=by rw[<-r2.length];exact F.len _ _ _ _ h
 refine wpAny_call (codeAny_mono (F.run X.A X.stack s H ⟨us,[]⟩ (us++ds) (vs++nv) Q E hr I.HY (hb s us I.dR hl) r2 h) λr s' hq=>?_);cases r with
 |error e=>exact hx pins σ H s e s' I hq
 |ok fl=>
  cases fl with
  |ret u=>exact I.after hq
  |next=>exact False.elim hq
  |brk=>exact False.elim hq
  |cont=>exact False.elim hq
theorem ZjA(F:cM X.prog X.w X.K X.mg X.base CX k f fd ps sp)(hr:aX k X.A)(hg:Gl X x)(hm:X.mg x=some (.ref f))(hk:W.keepIn X.K (.ref f)=true)(hb:Binds X.K fd ps ds)(hd:Vals nv ds)(hx:DH CX X E)
  (ha:PA X (e ::es) t) (hdb:(x ==("__debug__":Str))=false:=by decide) (he:starEach (e ::es) X.env=(false,eval e X.env) ::starEach es X.env:=by rfl) (hpl:(backTo pos (starEach es X.env)).any (·.1)=false:=by rfl) :
  PE X (.Call (.Name x p) (e ::es) [] pos) (tV sp nv E t):=by
 intro pins s σ H Q I h;refine aqX (K6 I hg hm ?_ hdb);refine W.callWith_K (h₀:=X.base) I.ok.mod.Es hk (tS (ha pos pins s σ H _ I h) λus s1 vs H1 I1 r q=>⟨I1.dR,?_⟩) he hpl;exact KL F hr hb hd hx I1 r q
theorem ZjB{pl:Sem Bool}(he:PE X o ta)(c:sj X.K C)(hm:Meth X.K C m f)(F:cM X.prog X.w X.K X.mg X.base CX k f fd ps sp)(hr:aX k X.A)(hb:Binds X.K fd ps ds)(hd:Vals nv ds)(hx:DH CX X E)(ha:PA X (e ::es) t)
  (hst:starEach (e ::es) X.env=(false,eval e X.env) ::starEach es X.env:=by rfl) (hpl:(backTo pos (starEach es X.env)).any (·.1)=false:=by rfl)
  (ht:eval (.Call (.Attribute o m apos) (e ::es) [] pos) X.env=(do
   let ov <-eval o X.env
   standAt apos.atName
   let(f,first) <-holding [ov] (getMethod ov m pl)
   callWith pos f first (backTo pos (starEach (e ::es) X.env)) (backToKw pos (keywordEach [] X.env))):=by rfl) :
  PE X (.Call (.Attribute o m apos) (e ::es) [] pos) (tU C m sp nv E ta t):=by
 intro pins s σ H Q I h;refine W.methodCall_KW (pl:=pl) (bZ (he pins s σ H _ I h) λu s1 ⟨x,H1,I1,rx,a,dx,fs,ex,ea,l,q⟩=>?_) ht;subst ex;obtain rfl:u=Value.ref a:=rx;refine Ux I1 ea c hm l ?_;refine W.callWith_K (first:=[.ref a]) (h₀:=X.base) I.ok.mod.Es hm.kp (tS (ha pos pins s1 σ H1 _ I1 q) λus s2 vs H2 I2 r q2=>⟨I2.dR,?_⟩) hst hpl;exact KL (us:=.ref a ::us) (vs:=.ref a ::vs) F hr hb hd hx I2 (.cons rfl r) q2
theorem ZhY{pl:Sem Bool}(he:PE X o ta)(c:sj X.K C)(hm:Meth X.K C m f)(F:cM X.prog X.w X.K X.mg X.base CX k f fd ps sp)(hr:aX k X.A)(hb:Binds X.K fd ps ds)(hd:Vals nv ds)(hx:DH CX X E)
  (ht:eval (.Call (.Attribute o m apos) [] [] pos) X.env=(do
   let ov <-eval o X.env
   standAt apos.atName
   let(f,first) <-holding [ov] (getMethod ov m pl)
   callWith pos f first (backTo pos (starEach [] X.env)) (backToKw pos (keywordEach [] X.env))):=by rfl) :
  PE X (.Call (.Attribute o m apos) [] [] pos) (tU C m sp nv E ta zD):=by
 intro pins s σ H Q I h;refine W.methodCall_KW (pl:=pl) (bZ (he pins s σ H _ I h) λu s1 ⟨x,H1,I1,rx,a,dx,fs,ex,ea,l,q⟩=>?_) ht;subst ex;obtain rfl:u=Value.ref a:=rx;refine Ux I1 ea c hm l ?_;exact W.callWith_K0 (first:=[.ref a]) I1.dR hm.kp (KL (us:=[.ref a]) (vs:=[.ref a]) F hr hb hd hx I1 (.cons rfl .nil) q)
structure Mk(K:W.Frag)(C f:Addr):Prop where
 makes:W.makesIn K C=true
 init:W.findIn K (.ref C) "__init__"=some (some (.ref f))
 fn:W.isFn K (.ref f)=true
 kp:W.keepIn K (.ref C)=true
theorem ZhZ{pins:List (Addr×Obj)}{σ:St}{H:Hp}{s:Shared}{Q:VK}{us:List Value}{vs:List V}(M:Mk X.K C f)(F:cM X.prog X.w X.K X.mg X.base CX k f fd ps sp)(hr:aX (k+1) X.A)(hb:Binds X.K fd ps ds)(hd:Vals nv ds)
  (hx:DH CX X E) (I:Inv X pins σ H s) (r:Vals vs us)
  (h:∀x dx,H x=none->H dx=none->dx≠x->sp (.ref x ::(vs++nv)) (upd (upd H dx (.own x)) x (.ins C dx [])) (λv H2=>v=.aO/\Q (.ref x) H2) E) :
  wpAny (model X.prog X.w) X.A (call (.ref C) us) (EP X pins σ Q) X.xe s:=by
 have hq:=h (s.heap.objs.size+1) s.heap.objs.size (I.hok.fresh (aYm _)) (I.hok.fresh (aI1 _)) (aor (Nat.lt_succ_self _));have I2:=Inv.made (C:=C) I;have r2:Vals (V.ref (s.heap.objs.size+1) ::(vs++nv)) (Value.ref (s.heap.objs.size+1) ::(us++ds)):=.cons rfl (r.append hd);have hl:(Value.ref (s.heap.objs.size+1) ::us++ds).length=ps.length:=by
  have e:=r2.length;rw[F.len _ _ _ _ hq]at e;exact e.symm
 refine wpAny_call (ZhX (f:=f) I.dR M.makes M.init (av8.mp M.fn) (codeAny_mono (F.run _ X.stack _ _ ⟨Value.ref (s.heap.objs.size+1) ::us,[]⟩ (Value.ref (s.heap.objs.size+1) ::(us++ds)) _ _ E (hr.make C us [])
  (I2.HY.make C us []) (hb _ (Value.ref (s.heap.objs.size+1) ::us) I2.dR hl) r2 hq) λr s' hq'=>?_))
 cases r with
 |error e=>exact hx pins σ _ _ e s' I2 hq'
 |ok fl=>
  cases fl with
  |ret u=>
   obtain⟨v,H',I3,rv,ev,q3⟩:=I2.after hq';subst ev;exact⟨rv,⟨V.ref (s.heap.objs.size+1),H',I3,rfl,q3⟩⟩
  |next=>exact False.elim hq'
  |brk=>exact False.elim hq'
  |cont=>exact False.elim hq'
theorem ZjC(M:Mk X.K C f)(F:cM X.prog X.w X.K X.mg X.base CX k f fd ps sp)(hr:aX (k+1) X.A)(hg:Gl X x)(hm:X.mg x=some (.ref C))(hb:Binds X.K fd ps ds)(hd:Vals nv ds)(hx:DH CX X E)
  (ha:PA X (e ::es) t) (hdb:(x ==("__debug__":Str))=false:=by decide) (he:starEach (e ::es) X.env=(false,eval e X.env) ::starEach es X.env:=by rfl) (hpl:(backTo pos (starEach es X.env)).any (·.1)=false:=by rfl) :
  PE X (.Call (.Name x p) (e ::es) [] pos) (A6 C sp nv E t):=by
 intro pins s σ H Q I h;refine aqX (K6 I hg hm ?_ hdb);refine W.callWith_K (h₀:=X.base) I.ok.mod.Es M.kp (tS (ha pos pins s σ H _ I h) λus s1 vs H1 I1 r q=>⟨I1.dR,?_⟩) he hpl;exact ZhZ M F hr hb hd hx I1 r q
end
structure fL(N P:List Str)(sc:Scope):Prop where
 kind:sc.kind=.function
 co:sc.isCoroutine=false
 gen:sc.isGenerator=false
 nd:N.Nodup
 pre:N.take P.length=P
 par:∀x∈P,sc.names.lookup x=some .local\/sc.names.lookup x=some .cell
 CQ:∀y∈sc.names,y.2≠.free
theorem Uu{kindOf:Str->Option NameKind}{x:Str}:∀{binds:List (Str×Value)}{m:Str->Option Value},(∀v,(x,v)∉binds)->bindL kindOf binds m x=m x
 | [],_,_=>rfl
 |(n,v) ::r,m,h=>by
  unfold bindL;rw[Uu λw hw=>h w (asW _ hw)];split
  .have:x≠n:=by rintro rfl;exact h v bcs
   simp[this]
  .rfl
theorem Ut{kindOf:Str->Option NameKind}{x:Str}:∀{binds:List (Str×Value)}{m:Str->Option Value},(∀v,(x,v)∉binds)->bindC kindOf binds m x=m x
 | [],_,_=>rfl
 |(n,v) ::r,m,h=>by
  unfold bindC;rw[Ut λw hw=>h w (asW _ hw)];split
  .rfl
  .have:x≠n:=by rintro rfl;exact h v bcs
   simp[this]
theorem Us{kindOf:Str->Option NameKind}{x:Str}{v:Value}:∀{P:List Str}{vs:List Value}{i:Nat}{m:Str->Option Value},P.Nodup->P[i]?=some x->vs[i]?=some v->kindOf x=some .local ->
  bindL kindOf (P.zip vs) m x=some v
 | [],_,_,_,_,h,_,_=>by simp at h
 |_ ::_,[],_,_,_,_,h,_=>by simp at h
 |p ::P,w ::vs,0,m,nd,h1,h2,hk=>by
  simp at h1 h2;subst h1;subst h2;show bindL kindOf ((p,w) ::P.zip vs) m p=_;unfold bindL;rw[Uu λv hv=>(agN.mp nd).1 (List.of_mem_zip hv).1,auJ hk];simp
 |p ::P,w ::vs,i+1,m,nd,h1,h2,hk=>by
  show bindL kindOf ((p,w) ::P.zip vs) m x=_;unfold bindL;exact Us (i:=i) (agN.mp nd).2 (by simpa using h1) (by simpa using h2) hk
theorem Ur{kindOf:Str->Option NameKind}{x:Str}{v:Value}:∀{P:List Str}{vs:List Value}{i:Nat}{m:Str->Option Value},P.Nodup->P[i]?=some x->vs[i]?=some v->kindOf x≠some .local ->
  bindC kindOf (P.zip vs) m x=some v
 | [],_,_,_,_,h,_,_=>by simp at h
 |_ ::_,[],_,_,_,_,h,_=>by simp at h
 |p ::P,w ::vs,0,m,nd,h1,h2,hk=>by
  simp at h1 h2;subst h1;subst h2;show bindC kindOf ((p,w) ::P.zip vs) m p=_;unfold bindC;rw[Ut λv hv=>(agN.mp nd).1 (List.of_mem_zip hv).1,ale hk];simp
 |p ::P,w ::vs,i+1,m,nd,h1,h2,hk=>by
  show bindC kindOf ((p,w) ::P.zip vs) m x=_;unfold bindC;exact Ur (i:=i) (agN.mp nd).2 (by simpa using h1) (by simpa using h2) hk
def start(N:List Str)(vs:List V):St:=vs.map some++List.replicate (N.length-vs.length) none
def rA(CX:zy)(P:Program)(w:World)(K:W.Frag)(mg:Str->Option Value)(base:Heap)(N:List Str)(qual:Str)(scope:Scope)(f:Addr)(cd:Value)(A:Around)(outer:List Env)(s:Shared)(H:Hp)(E:XK):Cx where
 prog:=P
 w:=w
 K:=K
 mg:=mg
 base:=base
 A:=A.deeper (envOfC qual scope s.heap.objs.size f cd)
 N:=N
 s₀:=s
 H₀:=H
 env:=envOfC qual scope s.heap.objs.size f cd
 outer:=outer
 stack:=envOfC qual scope s.heap.objs.size f cd ::outer
 ex:=[]
 calm:=true
 fn:=λ_=>true
 pn:=[]
 xe:=λe s'=>wpAny (model P w) (A.deeper (envOfC qual scope s.heap.objs.size f cd)) (leaving (envOfC qual scope s.heap.objs.size f cd) e) (λ_ s''=>CX outer H s E e s'') (λe' s''=>CX outer H s E e' s'') s'
theorem Ud{sc:Scope}{n:Nat}{x:Str}(h:sc.names.lookup x=some .cell):∃c,(cellsFrom n sc.names []).lookup x=some c:=by
 have q:=W.cellsFrom_some sc.names n [] (.inl h);exact Option.isSome_iff_exists.mp q
theorem Zgu{CX:zy}{P:Program}{w:World}{K:W.Frag}{mg:Str->Option Value}{base:Heap}{N ps:List Str}{qual:Str}{scope:Scope}{f:Addr}{cd:Value}{A:Around}{outer:List Env}{s s1:Shared}{H:Hp}{E:XK}{us:List Value}{vs:List V}
  (S:fL N ps scope) (hd:A.handled=none) (e0:tQ P w K mg base A outer s H) (hl:vs.length=ps.length) (r:Vals vs us)
  (x:InCallC s s.heap.objs.size (bindL (envOfC qual scope s.heap.objs.size f cd).kindOf (ps.zip us) λ_=>none) (cellsFrom (s.heap.objs.size+1) scope.names []) (bindC (envOfC qual scope s.heap.objs.size f cd).kindOf (ps.zip us) λ_=>none) s1) :
  Inv (rA CX P w K mg base N qual scope f cd A outer s H E) [] (start N vs) H s1:=by
 have hpl:ps.length<=N.length:=by have:=agz List.length S.pre;rw[bc6]at this;lia
 obtain⟨h1,tk,rfl,hk⟩:=x.done;have CS:∀b:Addr,b∉(rA CX P w K mg base N qual scope f cd A outer s H E).ex:=λb z=>absurd (show b∈([]:List Addr) from z) (by simp);refine⟨⟨e0.mod,S.kind,rfl,rfl,aI1 _,λy z c h1 h2=>?_,λy hy=>?_,λy c _ h=>?_,λ_=>hd,Around.frames_deeper e0.frames,.inr ⟨rfl,rfl⟩,λb z=>absurd z (CS b),e0.bs,e0.zf,λb _ _=>CS b,λb z=>absurd z (CS b),e0.j5,e0.Dl⟩,
  rfl,e0.bare,Un.kept hk,⟨_,x.toInCall.ns,λi y v h1 h2 h3=>?_⟩,λy c h=>⟨_,x.cell y c h⟩,e0.hok.fresh (aI1 _),λy c h=>?_,λp hp=>absurd (show p∈([]:List (Addr×Obj)) from hp) (by simp),e0.hok.kept hk,?_⟩
 .exact name_of_addr x.apart (aNH h1) (aNH h2)
 .have hy:scope.names.lookup y=some .cell\/scope.names.lookup y=some .free:=hy;rcases hy with hy|hy
  .exact Ud hy
  .exact absurd rfl (S.CQ _ (aNH hy))
 .exact aaH (x.above y c (aNH h))
 .have hi:i<vs.length:=by
   unfold start at h2;by_cases hi:i<vs.length
   .exact hi
   .rw [agf (by simpa using hi)]at h2;rw[aDo]at h2;split at h2 <;> cases h2
  have ha:vs[i]?=some v:=by
   unfold start at h2;rw[a9E (by simpa using hi),afQ]at h2;cases e:vs[i]? with
   |none=>rw[e]at h2;cases h2
   |some a=>rw[e]at h2;cases h2;rfl
  obtain⟨u,hu,rv⟩:=r.get ha;have hp:ps[i]?=some y:=by
   rw[<-S.pre,List.getElem?_take_of_lt (by lia)];exact h1
  have PZ:ps.Nodup:=by rw[<-S.pre];exact S.nd.sublist (List.take_sublist _ _)
  refine⟨u,rv,?_⟩;rcases S.par y (aHL hp) with k|k
  .exact .inl ⟨k,Us PZ hp hu k⟩
  .obtain ⟨c,e⟩:=Ud (n:=s.heap.objs.size+1) k;refine .inr ⟨.inl k,c,e,?_⟩;have q:=x.cell y c e;rw[Ur PZ hp hu (by show scope.names.lookup y≠_;rw[k];decide)]at q;exact q
 .exact e0.hok.fresh (aaH (x.above y c (aNH h)))
 .unfold start;show _=N.length;rw[akn,apM,aAW];lia
theorem BP{CX:zy}{P:Program}{w:World}{K:W.Frag}{mg:Str->Option Value}{base:Heap}{k:Nat}{f:Addr}{name qual:Str}{params:Arguments}{body:List Stmt}{scope:Scope}{dV kV doc pm cdv ct oc:Value}{an od:Option Addr}
  {osl:Array (Option Value)} {N ps:List Str} {sp:Sp} (lk:K.lookup f=some ⟨oc,od,.func (W.fnOf name qual params body scope dV kV doc pm an cdv ct),osl⟩) (hcd:W.codeIn K cdv qual=true) (S:fL N ps scope)
  (len:∀vs H Q E,sp vs H Q E->vs.length=ps.length)
  (hbody:∀(A:Around)(outer:List Env)(s:Shared)(H:Hp)(vs:List V)(Q:VK)(E:XK),aX k (A.deeper (envOfC qual scope s.heap.objs.size f cdv))->sp vs H Q E ->
   ∃t,vM (rA CX P w K mg base N qual scope f cdv A outer s H E) body t/\t { nx:=λ_ H'=>Q .aO H',rt:=Q } (start N vs) H) :
  cM P w K mg base CX (k+1) f (W.fnOf name qual params body scope dV kV doc pm an cdv ct) ps sp:=by
 refine⟨len,λA outer s H args us vs Q E hr e0 hb r vG=>?_⟩;have hl:=len _ _ _ _ vG;have KX:K.In s.heap:=e0.mod.Es.keeps λb o e=>(e0.bs b o e).1;have lim:s.heap.NoLimit:=e0.mod.nolimit.keeps λb o e=>(e0.bs b o e).1;have hkind:∀y∈ps.zip us,scope.names.lookup y.1=some .local\/(scope.names.lookup y.1=some .cell/\((cellsFrom (s.heap.objs.size+1) scope.names []).lookup y.1).isSome=true):=λ⟨n,v⟩ hy=>by
  rcases S.par n (List.of_mem_zip hy).1 with q|q
  .exact .inl q
  .exact .inr ⟨q,W.cellsFrom_some _ _ _ (.inl q)⟩
 refine codeAny_call_function hr.depth (KX _ _ lk) rfl S.co S.gen rfl (W.codeRec_of KX hcd) (hb _ _ _ _ ?_);refine wpAny_newFunctionEnv_cells S.kind hkind λenv he s1 x=>?_;subst he;refine⟨lim.keeps x.toInCall.keep,codeAny_func ?_⟩;obtain⟨t,ht,hq⟩:=hbody A outer s H vs Q E (hr.deeper _) vG;have I:Inv (rA CX P w K mg base N qual scope f cdv A outer s H E) [] (start N vs) H s1:=Zgu S hr.hd e0 hl r x;refine aZU (ht [] s1 (start N vs) H _ I hq) (λfl s' hs=>?_) λe s' hs=>hs;have fin:∀{σ':St}{H':Hp}{v:V}{u:Value},Inv (rA CX P w K mg base N qual scope f cdv A outer s H E) [] σ' H' s'->RelV v u->Q v H'->CE outer P w H s Q u s':=
  λ{σ' H' v u} J rv q=>⟨v,H',J.os,J.bare,J.base,J.hok,rv,q⟩
 cases fl with
 |ret u=>
  obtain⟨v,σ',H',J,rv,q⟩:=hs;exact fin J rv q
 |next=>
  obtain⟨σ',H',J,q⟩:=hs;exact fin (v:=V.aO) (u:=Value.none) J rfl q
 |brk=>
  obtain⟨_,_,_,q⟩:=hs;exact False.elim q
 |cont=>
  obtain⟨_,_,_,q⟩:=hs;exact False.elim q
section
variable{X:Cx}{x:Str}{p pos:Pos}{e:Expr}{es:List Expr}{t:TA}{id T:String}{r:List V->Hp->VK->Prop}
def JM(r:List V->Hp->VK->Prop)(t:TA):TE:=λσ H Q=>t σ H λvs H1=>r vs H1 Q
theorem Zia(hc:aY X (.builtin id) r)(hg:Gl X x)(hm:X.mg x=none)(hv:bootBuiltins x=some (.builtin id))(ha:PA X (e ::es) t)(hn:x ≠ "__name__":=by decide)(hdb:(x ==("__debug__":Str))=false:=by decide)
  (he:starEach (e ::es) X.env=(false,eval e X.env) ::starEach es X.env:=by rfl) (hpl:(backTo pos (starEach es X.env)).any (·.1)=false:=by rfl):PE X (.Call (.Name x p) (e ::es) [] pos) (JM r t):=by
 intro pins s σ H Q I h;refine aqX (zl I hg hm hv ?_ hn hdb);exact PyProof.Rows.callWith_builtin1 (tS (ha pos pins s σ H _ I h) λus s1 vs H1 I1 r1 q1=>hc pins s1 σ H1 vs us Q I1 r1 q1) he hpl
theorem Zgv(hc:aY X (.type T) r)(hg:Gl X x)(hm:X.mg x=none)(hv:bootBuiltins x=some (.type T))(ha:PA X (e ::es) t)(hn:x ≠ "__name__":=by decide)(hdb:(x ==("__debug__":Str))=false:=by decide)
  (he:starEach (e ::es) X.env=(false,eval e X.env) ::starEach es X.env:=by rfl) (hpl:(backTo pos (starEach es X.env)).any (·.1)=false:=by rfl):PE X (.Call (.Name x p) (e ::es) [] pos) (JM r t):=by
 intro pins s σ H Q I h;refine aqX (zl I hg hm hv ?_ hn hdb);exact amb (tS (ha pos pins s σ H _ I h) λus s1 vs H1 I1 r1 q1=>hc pins s1 σ H1 vs us Q I1 r1 q1) he hpl
end
end L2
namespace HT
open PySem PyProof.Rows
theorem rq(A:Around)(s:Shared)(a:Int)(t:Tok)(c:Int)(u:Tok):∃e,SeqAt.EqAt A s (.int a t) (.int c u) e/\(e=true↔a=c):=
 ⟨(a ==c),SeqAt.EqAt.int_int a t c u,by simp⟩
section
open PySem.SeqAt
open PySem.AutoSeq1 (wpAny_loadPart')
open PySem.MeetsSeq PySem.MeetsSeq2 PySem.MeetsSeq3
end
section
variable{prog:Program}{w:World}{A:Around}{E:Value->Shared->Prop}{s:Shared}
def jD(n d:Nat):Option Int->Nat
 |none=>d
 |some v=>if v<0 then(v+(n:Int)).toNat else min v.toNat n
theorem xD(n d:Nat):jD n d none=d:=rfl
theorem uz(n d k:Nat):jD n d (some (k:Int))=min k n:=by
 show(if(k:Int)<0 then((k:Int)+(n:Int)).toNat else min (k:Int).toNat n)=min k n;rw[ale (by lia),Int.toNat_natCast]
end
end HT
namespace L2
open PySem PySem.Spec PyProof.Rows
abbrev TO:=St->Hp->(Option Int->Hp->Prop)->Prop
def PO(X:Cx)(e:Option Expr)(t:TO):Prop:=
 ∀(pins:List (Addr×Obj))(s:Shared)(σ:St)(H:Hp)(Q:Option Int->Hp->Prop),Inv X pins σ H s->t σ H Q ->
  wpAny (model X.prog X.w) X.A (evalPart e X.env) (λu s'=>∃o H',Inv X pins σ H' s'/\IsPart u o/\Q o H') X.xe s
def ZjD:TO:=λ_ H Q=>Q none H
def Fx(t:TE):TO:=λσ H Q=>t σ H λx H1=>∃i,x=.int i/\Q (some i) H1
theorem Lm{ns:List Int}:∀{us:List Value},Vals (ns.map V.int) us->IntsAre us ns:=by
 induction ns with
 |nil=>intro us r;rw[map_nil]at r;cases r;exact .nil
 |cons n ns ih=>
  intro us r;rw[aB5]at r;cases r with
  |cons r1 r2=>
   obtain⟨t,e⟩:=r1;subst e;exact .cons n t (ih r2)
section
variable{X:Cx}{e:Expr}{te:TE}{lo hi:Option Expr}{tl th:TO}{pos p2:Pos}
theorem SY:PO X none ZjD:=by
 intro pins s σ H Q I h;rw[evalPart_none];exact aLE ⟨none,H,I,.none,h⟩
theorem K4(h:PE X e te):PO X (some e) (Fx te):=by
 intro pins s σ H Q I hw;rw[evalPart_some];refine fF (h pins s σ H _ I hw) λu s1 x H1 I1 r1 q1=>?_;obtain⟨i,rfl,q⟩:=q1;obtain⟨t,rfl⟩:=r1;exact⟨some i,H1,I1,.int i t,q⟩
def OT(X:Cx)(r:V->Option Int->Option Int->Hp->VK->Prop):Prop:=
 ∀(pins:List (Addr×Obj))(s:Shared)(σ:St)(H:Hp)(x:V)(v vl vu:Value)(lo hi:Option Int)(sl:Addr)(Q:VK),Inv X pins σ H s->RelV x v->s.heap.IsSliceOf sl vl vu .none->IsPart vl lo->IsPart vu hi->r x lo hi H Q ->
  ∃T id,typeLookup (.type T) "__getitem__"=pure (some (.builtin id))/\s.TypeIs v T/\wpAny (model X.prog X.w) X.A (getItem v (.ref sl)) (EP X pins σ Q) X.xe s
def Wg(r:V->Option Int->Option Int->Hp->VK->Prop)(te:TE)(tl th:TO):TE:=λσ H Q=>te σ H λx H1=>tl σ H1 λl H2=>th σ H2 λu H3=>r x l u H3 Q
theorem OG{r:V->Option Int->Option Int->Hp->VK->Prop}(hr:OT X r)(he:PE X e te)(hl:PO X lo tl)(hu:PO X hi th):PE X (.Subscript e (.Slice lo hi none p2) pos) (Wg r te tl th):=by
 intro pins s σ H Q I h;refine Subscript_ (fF (he pins s σ H _ I h) λv s1 x H1 I1 r1 q1=>?_);refine wpAny_Slice (bZ (hl pins s1 σ H1 _ I1 q1) λvl s2 ⟨l,H2,I2,pl,q2⟩=>bZ (hu pins s2 σ H2 _ I2 q2) λvu s3 ⟨u,H3,I3,pu,q3⟩=>?_);rw[evalPart_none];refine aLE ?_;have I4:Inv X pins σ H3 { s3 with heap:=s3.heap.push { cls:=.type "slice",data:=.fields #[vl,vu,.none] } }:=I3.kept (t':=s3.toks) λb ob q=>a8n _ q;obtain⟨T,id,hT,ht,hg⟩:=hr pins { s3 with heap:=s3.heap.push { cls:=.type "slice",data:=.fields #[vl,vu,.none] } } σ H3 x v vl vu l u s3.heap.objs.size Q I4 r1 (Heap.IsSliceOf.new ..) pl pu q3;show wpAny (model X.prog X.w) X.A (subscriptTail e (.Slice lo hi none p2) v (.ref s3.heap.objs.size)) (EP X pins σ Q) X.xe { s3 with heap:=s3.heap.push { cls:=.type "slice",data:=.fields #[vl,vu,.none] } };exact tail_any (ops:=[.ref s3.heap.objs.size,v]) ht hT hg (by with_unfolding_all rfl)
def lV(xs:List V)(lo hi:Option Int):List V:=(xs.drop (HT.jD xs.length 0 lo)).take (HT.jD xs.length xs.length hi-HT.jD xs.length 0 lo)
theorem Zep(xs:List V)(lo hi:Option Int):(lV xs lo hi).length<=xs.length:=by
 unfold lV;rw[bc6,a6U];lia
end
def uN(n:Nat)(i:Int):Option Nat:=if 0<=i then(if i<n then some i.toNat else none) else if -(n:Int)<=i then some (i+n).toNat else none
def eG{α:Type}(xs:List α)(i:Int):Option α:=(uN xs.length i).bind λj=>xs[j]?
theorem SX{n:Nat}{i:Int}{j:Nat}(h:uN n i=some j):seqIndex? i n=some j/\j<n /\ -(n:Int)<=i/\i<n:=by
 unfold uN at h;by_cases h0:0<=i
 .rw [auJ h0]at h;by_cases h1:i<n
  .rw [auJ h1]at h;have e:i.toNat=j:=asK h;exact⟨by rw[seqIndex_of h0 h1,e],by lia,by lia,h1⟩
  .rw [ale h1]at h;cases h
 .rw [ale h0]at h;by_cases h1: -(n:Int)<=i
  .rw [auJ h1]at h;have e:(i+n).toNat=j:=asK h;exact⟨by rw[seqIndex_neg (by lia) h1,e],by lia,h1,by lia⟩
  .rw [ale h1]at h;cases h
theorem SW{α:Type}{xs:List α}{i:Int}{v:α}(h:eG xs i=some v):∃j,seqIndex? i xs.length=some j/\xs[j]?=some v/\j<xs.length /\ -(xs.length:Int)<=i/\i<xs.length:=by
 unfold eG at h;cases e:uN xs.length i with
 |none=>rw[e]at h;cases h
 |some j=>
  rw[e]at h;obtain⟨h1,h2,h3,h4⟩:=SX e;exact⟨j,h1,h,h2,h3,h4⟩
theorem wm{α:Type}{xs:List α}{j:Nat}{v:α}(h:xs[j]?=some v):eG xs (j:Int)=some v:=by
 have hj:j<xs.length:=(ajE.mp h).1;have e:uN xs.length (j:Int)=some j:=by
  unfold uN;rw[auJ (by lia),auJ (by lia)];simp
 unfold eG;rw[e];exact h
def ZjE(b:Expr):Prop:=∀o i,subscripted b false o i=operate [o,i] (getItem o i)
def Ju(X:Cx)(r:R2):Prop:=
 ∀(value slice:Expr)(pins:List (Addr×Obj))(s:Shared)(σ:St)(H:Hp)(x y:V)(v u:Value)(Q:VK),Inv X pins σ H s->RelV x v->RelV y u->r x y H Q ->
  subscripted slice false v u=operate [v,u] (getItem v u)->wpAny (model X.prog X.w) X.A (subscriptTail value slice v u) (EP X pins σ Q) X.xe s
def MtR(X:Cx)(id:String)(r:V->List V->Hp->VK->Prop):Prop:=
 ∀(pins:List (Addr×Obj))(s:Shared)(σ:St)(H:Hp)(x:V)(xs:List V)(v:Value)(us:List Value)(Q:VK),Inv X pins σ H s->RelV x v->Vals xs us->r x xs H Q ->
  wpAny (model X.prog X.w) X.A (call (.builtin id) (v ::us)) (EP X pins σ Q) X.xe s
section
variable{X:Cx}{a b:Expr}{ta tb:TE}{pos:Pos}
theorem ak{r:R2}(hr:Ju X r)(ha:PE X a ta)(hb:PE X b tb)(hs:ZjE b):PE X (.Subscript a b pos) (zC r ta tb):=by
 intro pins s σ H Q I h;exact Subscript_ (Dw ha hb I h λv u s2 x y H2 I2 rx ry q=>hr a b pins s2 σ H2 x y v u Q I2 rx ry q (hs _ _))
inductive zR(K:W.Frag)(x:V)(y:V)(H:Hp)(Q:VK):Prop
 |mk (p xs i v:_):x=.ref p->y=.int i->ao K H p xs->eG xs i=some v->Q v H->zR K x y H Q
inductive xF(K:W.Frag)(x:V)(y:V)(H:Hp)(Q:VK):Prop
 |mk (p xs i v:_):x=.ref p->y=.int i->aP K H p xs->eG xs i=some v->Q v H->xF K x y H Q
theorem ZjF:Ju X (zR X.K):=by
 intro value slice pins s σ H x y v u Q I rx ry h hs;obtain⟨p,xs,i,z,rfl,rfl,hq,he,q⟩:=h;cases rx;obtain⟨t,rfl⟩:=ry;obtain⟨its,r,pl,hz⟩:=I.list hq;obtain⟨j,h1,h2,h3,h4,h5⟩:=SW he;obtain⟨w,ew,rw'⟩:=r.get h2;have hl:=r.length;have hn:=IC;have fin:EP X pins σ Q w s:=⟨z,H,I,rw',q⟩;by_cases h0:0<=i
 .have hj:i.toNat=j:=by
   rw[seqIndex_of h0 h5]at h1;exact asK h1
  exact item_listR pl.isList h0 (by lia) (by rw[hj];simpa using ew) fin hs
 .have hj:(i+(its.toArray.size:Int)).toNat=j:=by
   rw[seqIndex_neg (by lia) h4]at h1;rw[a6x,<-hl];exact asK h1
  exact subscriptTail_builtinR (x:=w) pl.isList.typeIs slot_list_getitem.lookup
   (wpAny_getItem_list_neg (Q:=λr s'=>r=w/\EP X pins σ Q r s') pl.isList (by lia) (by rw[a6x] <;> lia) (by lia) (by rw[hj];simpa using ew) ⟨rfl,fin⟩) hs
theorem ZkE:Ju X (xF X.K):=by
 intro value slice pins s σ H x y v u Q I rx ry h hs;obtain⟨p,xs,i,z,rfl,rfl,hq,he,q⟩:=h;cases rx;obtain⟨t,rfl⟩:=ry;obtain⟨its,r,pl,hz⟩:=I.tuple hq;obtain⟨j,h1,h2,h3,h4,h5⟩:=SW he;obtain⟨w,ew,rw'⟩:=r.get h2;have hl:=r.length;have hn:=IC;have fin:EP X pins σ Q w s:=⟨z,H,I,rw',q⟩;exact subscriptTail_builtinR (x:=w) pl.typeIs slot_tuple_getitem.lookup
  (getItem_tuple (j:=j) (Q:=λr s'=>r=w/\EP X pins σ Q r s') pl (by lia) (by lia) (by rw[a6x,<-hl];exact h1) (by simpa using ew) ⟨rfl,fin⟩) hs
theorem ZfJ(its:List Value)(n j:Nat)(u:Value):Obj.mapSeq (·.setIfInBounds j u) { cls:=.type "list",data:=.seq its.toArray n }={ cls:=.type "list",data:=.seq (its.set j u).toArray n }:=by
 simp[Obj.mapSeq]
theorem Inv.lst{pins:List (Addr×Obj)}{σ:St}{H:Hp}{s:Shared}{p:Addr}{xs:List V}(I:Inv X pins σ H s)(h:H p=some (.lst xs)) :
  ∃(its:List Value)(n:Nat),Vals xs its/\s.heap.get? p=some { cls:=.type "list",data:=.seq its.toArray n }/\xs.length<=sizeLine:=by
 obtain⟨z,its,n,r,e⟩:=I.hok p _ h;exact⟨its,n,r,e,z⟩
theorem Inv.C0{pins:List (Addr×Obj)}{σ:St}{H:Hp}{s:Shared}{p:Addr}{xs ys:List V}{its its':List Value}{n n':Nat}{f:Obj->Obj}(I:Inv X pins σ H s)(h:H p=some (.lst xs))
  (ho:s.heap.get? p=some { cls:=.type "list",data:=.seq its.toArray n }) (hf:f { cls:=.type "list",data:=.seq its.toArray n }={ cls:=.type "list",data:=.seq its'.toArray n' }) (r:Vals ys its') (hz:ys.length<=sizeLine) (t:Nat) :
  Inv X pins σ (upd H p (.lst ys)) { s with heap:=s.heap.update p f,toks:=t }:=by
 have e:(s.heap.update p f).get? p=some { cls:=.type "list",data:=.seq its'.toArray n' }:=by
  rw[Heap.get?_update_self f ho (by rw[hf] <;> rfl),hf]
 refine I.write (x:=p) (e:=p) (by rw[h];trivial) (.inl rfl) (λb u hb q=>(Heap.get?_update_other _ _ (aWz hb)).trans q) ⟨_,e⟩ ?_;exact⟨hz,its',n',r,e⟩
def FW:V->V->V->Hp->(Hp->Prop)->Prop:=λo i v H Q=>∃p xs k j,o=.ref p/\i=.int k/\H p=some (.lst xs)/\uN xs.length k=some j/\Q (upd H p (.lst (xs.set j v)))
theorem DO:Jo X FW:=by
 intro pins s σ H o i v ov iv u Q I ro ri rv h;obtain⟨p,xs,k,j,rfl,rfl,hp,hj,q⟩:=h;cases ro;obtain⟨t,rfl⟩:=ri;obtain⟨its,n,r,ho,hz⟩:=I.lst hp;obtain⟨h1,h2,h3,h4⟩:=SX hj;have hl:=r.length;have hn:=IC;have I':Inv X pins σ (upd H p (.lst (xs.set j v))) { s with heap:=s.heap.update p (Obj.mapSeq (·.setIfInBounds j u)) }:=
  I.C0 hp ho (ZfJ its n j u) (r.set rv j) (by rw[ail];exact hz) s.toks
 by_cases h0:0<=k
 .have hk:k.toNat=j:=by
   rw[seqIndex_of h0 h4]at h1;exact asK h1
  exact W.ki_setAt ho h0 (by lia) (by rw[a6x,<-hl];exact h4) (by rw[hk];exact⟨_,I',q⟩)
 .have hk:(k+(its.toArray.size:Int)).toNat=j:=by
   rw[seqIndex_neg (by lia) h3]at h1;rw[a6x,<-hl];exact asK h1
  exact W.ki_setBack ho (by lia) (by rw[a6x,<-hl];exact h3) (by lia) (by rw[hk];exact⟨_,I',q⟩)
theorem ZdI(lo hi:Option Int)(n:Nat):(sliceBounds lo hi none n).1=((HT.jD n 0 lo:Nat):Int)/\(sliceBounds lo hi none n).2.1=((HT.jD n n hi:Nat):Int)/\(sliceBounds lo hi none n).2.2=1:=by
 refine⟨?_,?_,rfl⟩
 .cases lo with
  |none=>simp[sliceBounds,HT.jD]
  |some i=>
   simp only[sliceBounds,HT.jD,Option.getD_none,show(1:Int)>0 by decide,aEa];by_cases h:i<0
   .simp only[h,aEa] <;> lia
   .simp only[h,a2l] <;> lia
 .cases hi with
  |none=>simp[sliceBounds,HT.jD]
  |some i=>
   simp only[sliceBounds,HT.jD,Option.getD_none,show(1:Int)>0 by decide,aEa];by_cases h:i<0
   .simp only[h,aEa] <;> lia
   .simp only[h,a2l] <;> lia
theorem ZcT(its:List Value)(lo hi:Option Int):slicePick its.toArray lo hi none=((its.drop (HT.jD its.length 0 lo)).take (HT.jD its.length its.length hi-HT.jD its.length 0 lo)).toArray:=by
 obtain⟨h1,h2,h3⟩:=ZdI lo hi its.toArray.size;unfold slicePick;rw[h1,h2,h3];simp only[sliceRange_one,pick_run,a6x] <;> rfl
inductive CB(K:W.Frag)(x:V)(lo:Option Int)(hi:Option Int)(H:Hp)(Q:VK):Prop
 |mk (a xs:_):x=.ref a->ao K H a xs->(∀p,H p=none->Q (.ref p) (upd H p (.lst (lV xs lo hi))))->CB K x lo hi H Q
theorem ZjG:OT X (CB X.K):=by
 intro pins s σ H x v vl vu lo hi sl Q I rx hs pl pu h;obtain⟨a,xs,rfl,hx,q⟩:=h;cases rx;obtain⟨its,r,ht,hz⟩:=I.list hx;have hlen:=r.length;refine⟨"list",_,slot_list_getitem.lookup,ht.isList.typeIs,?_⟩;refine wpAny_getItem_list_slice ht.isList hs pl pu .none (by simp) ?_ (by rw[a6x] <;> lia);rw[ZcT,<-hlen];refine⟨.ref s.heap.objs.size,_,I.laid (t':=s.toks) (o:=.lst (lV xs lo hi)) (λb ob q=>a8n _ q) (aI1 _) ?_,rfl,q _ (I.hok.fresh (aI1 _))⟩;exact⟨atR (Zep xs lo hi) hz,_,0,(r.drop (HT.jD xs.length 0 lo)).take (HT.jD xs.length xs.length hi-HT.jD xs.length 0 lo),awu _ rfl⟩
def cJ:V->Bool
 | .aO=>true
 | .bl _=>true
 | .int _=>true
 | .str _=>true
 |_=>false
def sV:V->V->Bool
 | .aO,.aO=>true
 | .bl a,.bl b=>a ==b
 | .bl a,.int b=>(if a then 1 else 0) ==b
 | .int a,.bl b=>a ==(if b then 1 else 0)
 | .int a,.int b=>a ==b
 | .str a,.str b=>a ==b
 |_,_=>false
theorem NO{A:Around}{s:Shared}{y x:V}{u v:Value}(ry:RelV y u)(rx:RelV x v)(fy:cJ y=true)(fx:cJ x=true):SeqAt.EqAt A s u v (sV y x):=by
 cases y with
 |aO=>
  cases ry;cases x with
  |aO=>cases rx;exact SeqAt.EqAt.same _
  |bl b=>cases rx;exact SeqAt.EqAt.none_bool b
  |int b=>obtain⟨t,rfl⟩:=rx;exact SeqAt.EqAt.none_int b t
  |str b=>obtain⟨t,rfl⟩:=rx;exact SeqAt.EqAt.none_str b t
  |_=>exact absurd (show false=true from fx) a0V
 |bl a=>
  cases ry;cases x with
  |aO=>cases rx;exact SeqAt.EqAt.bool_none a
  |bl b=>cases rx;exact SeqAt.EqAt.bool_bool a b
  |int b=>obtain⟨t,rfl⟩:=rx;exact SeqAt.EqAt.bool_int a b t
  |str b=>obtain⟨t,rfl⟩:=rx;exact SeqAt.EqAt.bool_str a b t
  |_=>exact absurd (show false=true from fx) a0V
 |int a=>
  obtain⟨t',rfl⟩:=ry;cases x with
  |aO=>cases rx;exact SeqAt.EqAt.int_none a t'
  |bl b=>cases rx;exact SeqAt.EqAt.int_bool a t' b
  |int b=>obtain⟨t,rfl⟩:=rx;exact SeqAt.EqAt.int_int a t' b t
  |str b=>obtain⟨t,rfl⟩:=rx;exact SeqAt.EqAt.int_str a t' b t
  |_=>exact absurd (show false=true from fx) a0V
 |str a=>
  obtain⟨t',rfl⟩:=ry;cases x with
  |aO=>cases rx;exact SeqAt.EqAt.str_none a t'
  |bl b=>cases rx;exact SeqAt.EqAt.str_bool a t' b
  |int b=>obtain⟨t,rfl⟩:=rx;exact SeqAt.EqAt.str_int a t' b t
  |str b=>obtain⟨t,rfl⟩:=rx;exact SeqAt.EqAt.str_str a t' b t
  |_=>exact absurd (show false=true from fx) a0V
 |_=>exact absurd (show false=true from fy) a0V
def sW(x:V)(u:Value):Bool:=match u with
 | .none=>sV .aO x
 | .bool b=>sV (.bl b) x
 | .int i _=>sV (.int i) x
 | .str z _=>sV (.str z) x
 |_=>false
theorem Sd{x y:V}{u:Value}(r:RelV y u)(f:cJ y=true):sW x u=sV y x:=by
 cases y with
 |aO=>cases r;rfl
 |bl b=>cases r;rfl
 |int i=>obtain⟨t,rfl⟩:=r;rfl
 |str z=>obtain⟨t,rfl⟩:=r;rfl
 |_=>exact absurd (show false=true from f) a0V
theorem IZ{x:V}:∀{xs:List V}{us:List Value},Vals xs us->xs.all cJ=true->us.any (sW x)=xs.any λy=>sV y x
 |_,_,.nil,_=>rfl
 |y ::xs,u ::us,.cons r t,f=>by
  rw[all_cons,aix]at f;rw[any_cons,any_cons,Sd r f.1,IZ t f.2]
theorem IY{A:Around}{s:Shared}{x:V}{v:Value}(rx:RelV x v)(fx:cJ x=true):∀{xs:List V}{us:List Value},Vals xs us->xs.all cJ=true->∀u∈us,SeqAt.EqAt A s u v (sW x u)
 |_,_,.nil,_=>λu hu=>by cases hu
 |y ::xs,u ::us,.cons r t,f=>λu' hu=>by
  rw[all_cons,aix]at f;rcases awk.mp hu with rfl|hu
  .rw [Sd r f.1];exact NO r rx f.1 fx
  .exact IY rx fx t f.2 u' hu
def wg(x:V)(xs:List V):Bool:=xs.any λy=>sV y x
inductive FZ(K:W.Frag) (neg:Bool)(x:V)(y:V)(H:Hp)(Q:VK):Prop
 |mk (p xs:_):y=.ref p->(ao K H p xs\/aP K H p xs)->cJ x=true->xs.all cJ=true->Q (.bl (if neg then !wg x xs else wg x xs)) H->FZ K neg x y H Q
theorem ZgA:jH X (compareOp .In) (FZ X.K false):=by
 intro pins s σ H x y v u Q I rx ry h;obtain⟨p,xs,rfl,hq,fx,fs,q⟩:=h;cases ry;rcases hq with hq|hq
 .obtain ⟨its,r,pl,hz⟩:=I.list hq;refine SeqAt.in_listAt (sW x) pl.isList (λw hw=>IY rx fx r fs w (by simpa using hw)) ⟨.bl _,H,I,rfl,?_⟩;rw[show its.toArray.any (sW x)=its.any (sW x) by simp,IZ r fs];exact q
 .obtain ⟨its,r,pl,hz⟩:=I.tuple hq;refine SeqAt.in_tupleAt (sW x) pl (λw hw=>IY rx fx r fs w (by simpa using hw)) ⟨.bl _,H,I,rfl,?_⟩;rw[show its.toArray.any (sW x)=its.any (sW x) by simp,IZ r fs];exact q
theorem ZdJ:jH X (compareOp .NotIn) (FZ X.K true):=by
 intro pins s σ H x y v u Q I rx ry h;obtain⟨p,xs,rfl,hq,fx,fs,q⟩:=h;cases ry;rcases hq with hq|hq
 .obtain ⟨its,r,pl,hz⟩:=I.list hq;refine SeqAt.notIn_listAt (sW x) pl.isList (λw hw=>IY rx fx r fs w (by simpa using hw)) ⟨.bl _,H,I,rfl,?_⟩;rw[show its.toArray.any (sW x)=its.any (sW x) by simp,IZ r fs];exact q
 .obtain ⟨its,r,pl,hz⟩:=I.tuple hq;refine SeqAt.notIn_tupleAt (sW x) pl (λw hw=>IY rx fx r fs w (by simpa using hw)) ⟨.bl _,H,I,rfl,?_⟩;rw[show its.toArray.any (sW x)=its.any (sW x) by simp,IZ r fs];exact q
theorem ZdK:aY X (.builtin "len") (λxs H Q=>∃p ys,xs=[.ref p]/\(ao X.K H p ys\/aP X.K H p ys)/\Q (.int ys.length) H):=by
 intro pins s σ H xs us Q I r h;obtain⟨p,ys,rfl,hq,q⟩:=h;obtain⟨u,rfl,rx⟩:=vals1 r;cases rx;have hn:=IC;rcases hq with hq|hq
 .obtain ⟨its,r',pl,hz⟩:=I.list hq;have hlen:=r'.length;exact Calls.call_len_list pl.isList (by simp only[a6x] <;> lia) ⟨.int ys.length,H,I.tok _,⟨s.toks+1,by rw[a6x,hlen]⟩,q⟩
 .obtain ⟨its,r',pl,hz⟩:=I.tuple hq;have hlen:=r'.length;exact len_tuple pl (by simp only[a6x] <;> lia) ⟨.int ys.length,H,I.tok _,⟨s.toks+1,by rw[a6x,hlen]⟩,q⟩
theorem UN:aY X (.builtin "len") (λxs H Q=>∃z,xs=[.str z]/\z.length<=sizeLine/\Q (.int z.length) H):=by
 intro pins s σ H xs us Q I r h;obtain⟨z,rfl,hz,q⟩:=h;obtain⟨u,rfl,t,rfl⟩:=vals1 r;have hn:=IC;exact len_str (by lia) ⟨.int z.length,H,I.tok _,⟨_,rfl⟩,q⟩
theorem ZdL:aY X (.type "list") (λxs H Q=>∃p ys,xs=[.ref p]/\(ao X.K H p ys\/aP X.K H p ys)/\∀l,H l=none->Q (.ref l) (upd H l (.lst ys))):=by
 intro pins s σ H xs us Q I r h;obtain⟨p,ys,rfl,hq,q⟩:=h;obtain⟨u,rfl,rx⟩:=vals1 r;cases rx;have fin:∀(its:List Value),Vals ys its->ys.length<=sizeLine->∀(h':Heap)(c':Nat),(∀b o',s.heap.get? b=some o'->h'.get? b=some o') ->
   h'.get? s.heap.objs.size=some { cls:=.type "list",dict:=none,data:=.seq its.toArray c',slots:=#[] }->EP X pins σ Q (.ref s.heap.objs.size) { s with heap:=h' }:=λits r' hz h' c' kp e=>
  ⟨.ref s.heap.objs.size,_,I.laid (t':=s.toks) kp (aI1 _) (show aF X.prog X.w _ h' _ (.lst ys) from⟨hz,its,c',r',e⟩),rfl,q _ (I.hok.fresh (aI1 _))⟩
 rcases hq with hq|hq
 .obtain ⟨its,r',pl,hz⟩:=I.list hq;have hlen:=r'.length;obtain⟨o,ho,hc,n,hd⟩:=pl.isList;exact call_list_seq p (.inl rfl) ho hc hd (λh' c' kp e=>fin its r' hz h' c' kp e) (by simp only[a6x] <;> lia)
 .obtain ⟨its,r',pl,hz⟩:=I.tuple hq;have hlen:=r'.length;obtain⟨o,ho,hc,n,hd⟩:=pl;exact call_list_seq p (.inr rfl) ho hc hd (λh' c' kp e=>fin its r' hz h' c' kp e) (by simp only[a6x] <;> lia)
theorem ZcU:aY X (.type "tuple") (λxs H Q=>∃p ys,xs=[.ref p]/\((ao X.K H p ys/\∀l,H l=none->Q (.ref l) (upd H l (.tup ys)))\/(aP X.K H p ys/\Q (.ref p) H))):=by
 intro pins s σ H xs us Q I r h;obtain⟨p,ys,rfl,h⟩:=h;obtain⟨u,rfl,rx⟩:=vals1 r;cases rx;rcases h with⟨hq,q⟩|⟨hq,q⟩
 .obtain ⟨its,r',pl,hz⟩:=I.list hq;have hlen:=r'.length;refine call_tuple_list pl.isList (λh' kp=>?_) (by simp only[a6x] <;> lia);have I1:Inv X pins σ H { s with heap:=h' }:=I.kept (t':=s.toks) kp;have I2:Inv X pins σ (upd H h'.objs.size (.tup ys)) { s with heap:=h'.push { cls:=.type "tuple",data:=.seq its.toArray } }:=
   I1.laid (t':=s.toks) (λb o e=>a8n _ e) (aI1 _) (show aF X.prog X.w _ _ _ (.tup ys) from⟨hz,its,r',IsTup.new _ _⟩)
  exact⟨.ref h'.objs.size,_,I2,rfl,q _ (I1.hok.fresh (aI1 _))⟩
 .obtain ⟨its,r',pl,hz⟩:=I.tuple hq;exact call_tuple_same pl ⟨.ref p,H,I,rfl,q⟩
def Pe(K:W.Frag)(T:String)(x:V)(H:Hp):Prop:=match x with
 | .str _=>T ="str"
 | .int _=>T ="int"
 | .ref p=>(T ="list" /\ ∃xs,ao K H p xs)\/(T ="tuple" /\ ∃o,K.lookup p=some o/\o.cls=.type "tuple" /\o.dict=none) \/
   (T ="dict" /\((∃kvs,H p=some (.dK kvs))\/∃kvs,H p=some (.dT kvs)))\/(T ="set" /\ ∃S n,H p=some (.set S n))
 |_=>False
theorem ZkF{pins:List (Addr×Obj)}{σ:St}{H:Hp}{s:Shared}{T:String}{x:V}{v:Value}(I:Inv X pins σ H s)(r:RelV x v)(ty:Pe X.K T x H) :
  s.TypeIs v T/\∀a,v=.ref a->∃ob,s.heap.get? a=some ob/\ob.dict=none:=by
 cases x with
 |str z=>
  obtain⟨t,rfl⟩:=r;cases(show T ="str" from ty);exact⟨typeIs_str s z t,λ_ e=>nomatch e⟩
 |int i=>
  obtain⟨t,rfl⟩:=r;cases(show T ="int" from ty);exact⟨typeIs_int s i t,λ_ e=>nomatch e⟩
 |ref p=>
  cases r;rcases ty with⟨rfl,xs,hq⟩|⟨rfl,o,hk,hc,hd⟩|⟨rfl,hk⟩|⟨rfl,S,n,hk⟩
  .obtain ⟨its,_,pl,_⟩:=I.list hq;refine⟨pl.isList.typeIs,λa e=>?_⟩;cases e;obtain⟨o,n,e,c,hd,_⟩:=pl;exact⟨o,e,hd⟩
  .refine ⟨⟨o,I.dR p o hk,hc⟩,λa e=>?_⟩;cases e;exact⟨o,I.dR _ o hk,hd⟩
  .have z:∃o,s.heap.get? p=some o/\o.ExactDict:=by
    rcases hk with⟨kvs,hk⟩|⟨kvs,hk⟩
    .obtain ⟨_,_,_,_,o,_,_,e,ex,_⟩:=I.hok p _ hk;exact⟨o,e,ex⟩
    .obtain ⟨_,_,_,_,o,_,_,e,ex,_⟩:=I.hok p _ hk;exact⟨o,e,ex⟩
   obtain⟨o,e,ex⟩:=z;refine⟨⟨o,e,ex.1⟩,λa e2=>?_⟩;cases e2;exact⟨o,e,ex.2.1⟩
  .obtain ⟨o,_,_,_,e,ex,_⟩:=I.hok p _ hk;refine⟨⟨o,e,ex.1⟩,λa e2=>?_⟩;cases e2;exact⟨o,e,ex.2.1⟩
 |_=>exact False.elim ty
def LI(K:W.Frag)(T:String)(r:V->List V->Hp->VK->Prop)(to:TE)(t:TA):TE:=λσ H Q=>to σ H λx H1=>Pe K T x H1/\t σ H1 λxs H2=>r x xs H2 Q
variable{o e:Expr}{es:List Expr}{to:TE}{t:TA}{name:Str}{apos cpos:Pos}{T id:String}{r:V->List V->Hp->VK->Prop}
theorem dZ(pa:PlainAttrs T)(slot:Slot T name id)(hty:typeOf (.builtin id)=pure (.type "method_descriptor"))(hm:MtR X id r)(ho:PE X o to)(ha:PA X (e ::es) t)
  (hbase:attributeBase o name X.env (eval o X.env)=eval o X.env:=by rfl)
  (hfew:((backTo cpos (starEach (e ::es) X.env)).all (λx=>!x.1) && (backToKw cpos (keywordEach [] X.env)).all (λx=>x.1.isSome)
   && decide ((e ::es).length+([]:List Keyword).length+(if([]:List Keyword).isEmpty then 0 else 1)<30))=true:=by rfl)
  (hline:(apos.endLine ==cpos.line)=true:=by rfl) (hs:starEach (e ::es) X.env=(false,eval e X.env) ::starEach es X.env:=by rfl) (hplain:(backTo cpos (starEach es X.env)).any (·.1)=false:=by rfl) :
  PE X (.Call (.Attribute o name apos) (e ::es) [] cpos) (LI X.K T r to t):=by
 intro pins s σ H Q I h;refine wpAny_Call_method_late hbase hfew hline rfl (bZ (ho pins s σ H _ I h) λv s1 ⟨x,H1,I1,r1,ty,q1⟩=>?_);obtain⟨h1,h2⟩:=ZkF I1 r1 ty;refine⟨T,id,pa,slot,hty,h1,h2,?_⟩;have hA:=ha cpos pins s1 σ H1 _ I1 q1;rw[hs]at hA ⊢;refine adz (by show(false || (backTo cpos (starEach es X.env)).any (·.1))=false;rw[hplain] <;> rfl) (agr ?_);exact bZ hA λus s2 ⟨vs,H2,I2,r2,q2⟩=>hm pins s2 σ H2 x vs v us Q I2 r1 r2 q2
/- xs.append(e),list.index on a module's tuple .. are MtR facts of 06m -/
end
def O3(X:Cx)(id:String)(r:V->List V->Hp->VK->Prop):Prop:=
 ∀(pins:List (Addr×Obj))(s:Shared)(σ:St)(H:Hp)(x:V)(xs:List V)(v:Value)(us:List Value)(Q:VK),Inv X pins σ H s->RelV x v->Vals xs us->r x xs H Q ->
  wpAny (model X.prog X.w) X.A (call (.builtin id) (v ::us)) (EP X pins σ Q) X.xe s
theorem Vals.one:∀{x:V}{us:List Value},Vals [x] us->∃u,us=[u]/\RelV x u
 |_,_,.cons r .nil=>⟨_,rfl,r⟩
section
variable{X:Cx}{pins:List (Addr×Obj)}{σ:St}{H:Hp}{s:Shared}{l b:Addr}{xs ys zs:List V}
theorem Inv.vE{its its':List Value}{n:Nat}{f:Array Value->Array Value}{t':Nat}(I:Inv X pins σ H s)(hH:H l=some (.lst xs))
  (e:s.heap.get? l=some { cls:=.type "list",data:=.seq its.toArray n }) (hf:f its.toArray=its'.toArray) (hv:Vals ys its') (hz:ys.length<=sizeLine) :
  Inv X pins σ (upd H l (.lst ys)) { s with heap:=s.heap.update l (Obj.mapSeq f),toks:=t' }:=by
 have q:=PySem.IsL.update e f;rw[hf]at q;refine I.write (x:=l) (e:=l) (by rw[hH];exact trivial) (.inl rfl) (λb' u hb hu=>(Heap.get?_update_other s.heap (Obj.mapSeq f) (aWz hb)).trans hu) ⟨_,q⟩ ?_;exact⟨hz,its',_,hv,q⟩
theorem Inv.Ms{its:List Value}{t':Nat}(I:Inv X pins σ H s)(hv:Vals ys its)(hz:ys.length<=sizeLine) :
  Inv X pins σ (upd H s.heap.objs.size (.lst ys)) { s with heap:=s.heap.push { cls:=.type "list",data:=.seq its.toArray },toks:=t' }:=
 I.laid (λ_ _ q=>a8n _ q) (aI1 _) ⟨hz,its,0,hv,awu _ rfl⟩
theorem Inv.fresh(I:Inv X pins σ H s):H s.heap.objs.size=none:=I.hok.fresh (aI1 _)
theorem Inv.sN(I:Inv X pins σ H s)(hH:H l=some (.lst xs)):xs.length<=sizeLine/\∃(its:List Value)(n:Nat),Vals xs its/\xs.length=its.length/\s.heap.get? l=some { cls:=.type "list",data:=.seq its.toArray n }:=by
 obtain⟨z,its,n,r,e⟩:=I.hok l _ hH;exact⟨z,its,n,r,r.length,e⟩
theorem Zib{n:Nat}(h:n<=sizeLine):Builtin.List.listTooLong n=false:=by
 unfold Builtin.List.listTooLong;exact aKy (by lia)
end
section
variable{X:Cx}
inductive uD(x:V)(vs:List V)(H:Hp)(Q:VK):Prop
 |mk (l xs y:_):x=.ref l->vs=[y]->H l=some (.lst xs)->xs.length<sizeLine->Q .aO (upd H l (.lst (xs++[y])))->uD x vs H Q
theorem ZZ:O3 X "list.append" uD:=by
 intro pins s σ H x vs v us Q I rx rv h;obtain⟨l,xs,y,rfl,rfl,hH,hz,q⟩:=h;cases rx;obtain⟨u,rfl,ru⟩:=rv.one;obtain⟨z,its,n,r,hl,e⟩:=I.sN hH;refine call_meets F.slot_list_append ⟨_,e,rfl⟩ F.entry_list_append (F.args_list_append_2 _ _) (PySem.list_append l its.toArray n u (by rw[a6x];lia)) ⟨e,?_⟩;refine⟨.aO,_,I.vE (its':=its++[u]) hH e (by simp) (r.append (.cons ru .nil)) ?_,rfl,q⟩;rw[akn,aze];lia
inductive uC(x:V)(vs:List V)(H:Hp)(Q:VK):Prop
 |mk (l b xs zs:_):x=.ref l->vs=[.ref b]->H l=some (.lst xs)->H b=some (.lst zs)->xs.length+zs.length<=sizeLine->Q .aO (upd H l (.lst (xs++zs)))->uC x vs H Q
theorem ZgB:O3 X "list.extend" uC:=by
 intro pins s σ H x vs v us Q I rx rv h;obtain⟨l,b,xs,zs,rfl,rfl,hH,hB,hz,q⟩:=h;cases rx;obtain⟨u,rfl,ru⟩:=rv.one;cases ru;obtain⟨z,its,n,r,hl,e⟩:=I.sN hH;obtain⟨z2,its2,n2,r2,hl2,e2⟩:=I.sN hB;have hsz:its.toArray.size+its2.toArray.size<=sizeLine:=by rw[a6x,a6x];lia
 have HD:¬(!its.toArray.isEmpty && Builtin.List.listTooLong (its.toArray.size+its2.toArray.size))=true:=by
  rw[Zib hsz,Bool.and_false];exact a0V
 refine call_meets F.slot_list_extend ⟨_,e,rfl⟩ F.entry_list_extend (F.args_list_extend_2 _ _)
  (AutoSeq1.list_extend_list_list_0 l its.toArray n b its2.toArray n2 HD (by rw[a6x];lia) (by lia)) ⟨e,e2,?_⟩
 refine⟨.aO,_,I.vE (its':=its++its2) hH e (by simp) (r.append r2) ?_,rfl,q⟩;rw[akn];lia
end
end L2
namespace U5
open PySem PySem.W PySem.Calls PyProof.Rows
theorem ZbY{P:Params}{h:Heap}:∀(ns:List Int)(vs:List Value),WellAll P h vs (ns.map WData.int)->IntsAre vs ns:=by
 intro ns
 induction ns with
 |nil=>
  intro vs w;rw[map_nil]at w;cases w;exact .nil
 |cons n ns ih=>
  intro vs w;rw[aB5]at w;cases w with
  |cons a b=>
   cases a;exact .cons _ _ (ih _ b)
theorem ZgC{l:OpenLaw}{n:Nat}(hn:l.most=some n){P:Params}{h:Heap}{args:List WData}{vals:List Value}
  (hpre:l.row.toRowW.claim.pre args=true) (hwl:WellAll P h vals args) :
  ∃a vs ns,vals=[Value.ref a]/\args=[WData.list (ns.map WData.int)]/\h.get? a=some { cls:=.type "list",data:=.seq vs.toArray }/\IntsAre vs ns/\ns.length<=n:=by
 have hsh:WShape.hasAll [] args [.list .int]=true:=(pre_splitW hpre).1;have hc:l.pre.holds [] { args:=args }=true:=(pre_splitW hpre).2;obtain⟨d,r,rfl,h1,h2⟩:=hasAllW_cons hsh;obtain rfl:=hasAllW_nil h2;obtain⟨xs,rfl,h3⟩:=hasW_list h1;obtain⟨ns,rfl⟩:=items_int h3;have hlen:ns.length<=n:=by
  unfold OpenLaw.pre at hc;have h4:(WTm.not (.lt (.lit (.int (n:Int))) (.len (.arg 0)))).holds [] { args:=[.list (ns.map .int)] }=true:=by
   have h4:=(holds_andW hc).1;rw[hn]at h4;exact h4
  have h5:=condW_of h4 (w_not (w_lt w_lit (w_len_list (w_arg rfl))));rw[apM]at h5;refine Nat.le_of_not_lt λq=>?_;have q':(n:Int)<((ns.length:Nat):Int):=by lia
  first
   |(rw[a5h q']at h5;exact absurd h5 (by decide))
   |(simp at h5;lia)
 cases hwl with
 |cons w1 w2=>
  cases w2;cases w1 with
  |list ho hall=>exact⟨_,_,ns,rfl,rfl,ho,ZbY ns _ hall,hlen⟩
theorem ZgD(l:OpenLaw)(args:List WData):l.row.toRowW.claim.post args (.bool true) args=true:=
 postW_of (r:=l.row.toRowW) (X:=(true ==true))
  (show WShape.has [] (.bool true) .bool=true by first|rfl|decide|simp[WShape.has,WShape.arms,WShape.armsAll])
  (show(WTm.eq .res (.lit (.bool true))).value [] { args:=args,res:=some (.bool true),after:=args }=some (.bool (true ==true)) from w_eq_bool (w_res rfl) w_lit) rfl
theorem rE{l:OpenLaw}{n:Nat}{q:Program}{loose:List Str}{XP:(Str->Option Value)->Heap->Prop}{YP:World->Heap->Prop}{d:DefRec}
  (hn:l.most=some n) (hdf:d.params.defaults=[])
  (call:∀(w:World)(s₀ s₁:Shared)(mg mb:Str->Option Value)(fa:Addr)(o:Obj)(pm cd doc:Value)(a:Addr)(vs:List Value)(ns:List Int),
   Ground q loose [] XP w s₀ mg mb s₁.heap->YP w s₁.heap ->
   s₁.heap.get? fa=some o->o.data=.func (docDef d.name d.params d.body d.scope pm cd doc)->s₁.heap.CodeRec cd d.name->mg d.name=some (.ref fa) ->
   s₁.heap.get? a=some { cls:=.type "list",data:=.seq vs.toArray }->IntsAre vs ns->ns.length<=n->s₁.gens=#[] ->
   codeAny (model l.prog w) callerA (.call (.ref fa) ⟨[.ref a],[]⟩) (λr s'=>r=.ok (.ret (.bool true))/\OldK s₁.heap s'.heap/\s'.os=s₁.os/\AllBare s'.gens) s₁) :
  WalkO q loose XP YP l.row.toRowW d [] (λf vs=>PySem.call f vs):=by
 intro w s₀ s₁ mg mb G Y fa o pm cd doc dV kV ho hd hcd hD hmg hg args vals as hpre hlay hrd hwl hlo;obtain rfl:dV=.none:=Dflts.none hD hdf;obtain rfl:kV=.none:=Dflts.noKw hD;obtain⟨a,vs,ns,rfl,rfl,hobj,hints,hlen⟩:=ZgC hn hpre hwl;refine enter_call (codeAny_mono (call w s₀ s₁ mg mb fa o pm cd doc a vs ns G Y ho (fd_plain hd) hcd hmg hobj hints hlen hg) λr s' hq=>?_);obtain⟨rfl,h2,h3,h4⟩:=hq;exact⟨.inl ⟨.bool true,.bool true,[],rfl,λ_=>rfl,.bool true,ZgD l _,λ_=>⟨List.Pairwise.nil,λ_ hm=>(nomatch hm)⟩⟩,h2,h3,h4⟩
end U5
namespace L2
open PySem PySem.Spec PyProof.Rows
theorem Jf:∀{vs:List Value}{ns:List Int},IntsAre vs ns->Vals (ns.map V.int) vs
 |_,_,.nil=>.nil
 |_,_,.cons n t h=>.cons ⟨t,rfl⟩ (Jf h)
def ZjH(s:Stmt)(j:Nat):Stmt:=match s with
 | .ClassDef _ _ _ body _ _ _ _ _ _ _=>body.getD j (.Pass ⟨0,0,0,0⟩)
 |_=>.Pass ⟨0,0,0,0⟩
def ZW(s:Stmt):Arguments:=match s with
 | .FunctionDef _ a _ _ _ _ _ _ _ _=>a
 |_=>{ posonlyargs:=[],args:=[],vararg:=none,kwonlyargs:=[],kw_defaults:=[],kwarg:=none,defaults:=[] }
def ZK(s:Stmt):List Stmt:=match s with
 | .FunctionDef _ _ b _ _ _ _ _ _ _=>b
 |_=>[]
def Zq(s:Stmt):Scope:=match s with
 | .FunctionDef _ _ _ _ _ _ sc _ _ _=>sc
 |_=>{ kind:=.function,names:=[],isGenerator:=false,isCoroutine:=false }
abbrev p8:zy:=λ_ _ _ _ _ _=>False
abbrev E0:XK:=λ_ _ _=>False
theorem uJ{X:Cx}:DH p8 X E0:=λ_ _ _ _ _ _ _ h=>h.elim
structure vf(K:W.Frag)(x qual:Str)(st:Stmt)(f:Addr)(fd:FuncData):Prop where
 ex:∃(oc:Value)(od:Option Addr)(kV doc pm:Value)(an:Option Addr)(cdv ct:Value)(osl:Array (Option Value)),
  fd=W.fnOf x qual (ZW st) (ZK st) (Zq st) .none kV doc pm an cdv ct/\K.lookup f=some ⟨oc,od,.func fd,osl⟩/\W.codeIn K cdv qual=true
 kp:W.keepIn K (.ref f)=true
section
variable{P:Program}{w:World}{K:W.Frag}{mg:Str->Option Value}{base:Heap}
theorem vf.ok{x qual:Str}{st:Stmt}{f:Addr}{fd:FuncData}{N ps:List Str}{k:Nat}{sp:Sp}(F:vf K x qual st f fd)(S:fL N ps (Zq st))(len:∀vs H Q E,sp vs H Q E->vs.length=ps.length)
  (hbody:∀(cdv:Value)(A:Around)(outer:List Env)(s:Shared)(H:Hp)(vs:List V)(Q:VK)(E:XK),aX k (A.deeper (envOfC qual (Zq st) s.heap.objs.size f cdv))->sp vs H Q E ->
   ∃t,vM (rA p8 P w K mg base N qual (Zq st) f cdv A outer s H E).CP (ZK st) t/\t { nx:=λ_ H'=>Q .aO H',rt:=Q } (start N vs) H):cM P w K mg base p8 (k+1) f fd ps sp:=by
 obtain⟨oc,od,kV,doc,pm,an,cdv,ct,osl,rfl,lk,hcd⟩:=F.ex;refine BP lk hcd S len λA outer s H vs Q E hr vG=>?_;obtain⟨t,h,q⟩:=hbody cdv A outer s H vs Q E hr vG;exact⟨t,h.CP,q⟩
theorem vf.binds{x qual:Str}{st:Stmt}{f:Addr}{fd:FuncData}{ps:List Str}(F:vf K x qual st f fd)
  (h:∀(kV doc pm:Value)(an:Option Addr)(cdv ct:Value)(us:List Value),us.length=ps.length->bindArgs (W.fnOf x qual (ZW st) (ZK st) (Zq st) .none kV doc pm an cdv ct) ⟨us,[]⟩=pure (ps.zip us)):Binds K fd ps []:=by
 obtain⟨oc,od,kV,doc,pm,an,cdv,ct,osl,rfl,lk,hcd⟩:=F.ex;exact .all (h kV doc pm an cdv ct)
theorem DG{x qual:Str}{st:Stmt}{f:Addr}{oc:Value}{od an:Option Addr}{osl:Array (Option Value)}{kV doc pm cdv ct:Value}(l:K.lookup f=some ⟨oc,od,.func (W.fnOf x qual (ZW st) (ZK st) (Zq st) .none kV doc pm an cdv ct),osl⟩)
  (c:W.codeIn K cdv qual=true) (k:W.keepIn K (.ref f)=true):vf K x qual st f (W.fnOf x qual (ZW st) (ZK st) (Zq st) .none kV doc pm an cdv ct):=⟨⟨oc,od,kV,doc,pm,an,cdv,ct,osl,rfl,l,c⟩,k⟩
end
theorem BJ{A:Around}{k:Nat}(hr:aX k A):A.units+1<cLine:=ayQ (Nat.add_le_add_left (by decide:1<=64) _) hr.units
theorem Zv{n:Nat}(h:n<=1000):n<sizeLine:=ayQ h (by decide)
section
variable{X:Cx}
theorem pv(i:Nat){x:Str}{pos:Pos}(hN:X.N[i]?=some x:=by rfl)(hv:Jj X.env.scope x:=by first|exact Or.inl rfl|exact Or.inr (Or.inl rfl)|exact Or.inr (Or.inr rfl))(hd:(x ==("__debug__":Str))=false:=by decide)
  (hcd:(x ==("__classdict__":Str))=false:=by decide):PE X (.Name x pos) (zB i):=Zkw hN hv hd hcd
end
def av(H H':Hp):Prop:=∀b o,H b=some o->H' b=some o
theorem av.refl(H:Hp):av H H:=λ_ _ h=>h
theorem av.trans{H H1 H2:Hp}(a:av H H1)(b:av H1 H2):av H H2:=λc o h=>b c o (a c o h)
theorem av.free{H H':Hp}(e:av H H'){l:Addr}(h:H' l=Option.none):H l=Option.none:=by
 cases q:H l with
 |none=>rfl
 |some o=>
  rw[e l o q]at h;cases h
theorem av.seq{K:W.Frag}{H H':Hp}{a:Addr}{xs:List V}(e:av H H')(h:ao K H a xs):ao K H' a xs:=by
 rcases h with(h|⟨o,h⟩)|h
 .exact .inl (.inl (e _ _ h))
 .exact .inl (.inr ⟨o,e _ _ h⟩)
 .exact .inr h
end L2
set_option maxHeartbeats 4000000
namespace L2
open PySem PySem.Spec PyProof.Rows
def bH(X:Cx)(N:List Str)(scope:Scope)(cl:List (Str×Addr))(C:Addr)(s0:Shared)(H0:Hp)(fp:List Addr)(pins:List (Addr×Obj)):Cx:=
 { X with N:=N,s₀:=s0,H₀:=H0,env:=compEnvC scope cl C X.env,outer:=X.stack,stack:=X.stack,ex:=fp,fn:=λx=>scope.names.lookup x ==some .cell,pn:=X.pn++pins,xe:=λ_ _=>False }
theorem Jb{env:Env}:∀(names:List (Str×NameKind))(acc:List (Str×Addr)),(∀p∈names,p.2=.free->∃c,env.cells.lookup p.1=some c)->(∀x c,acc.lookup x=some c->env.cells.lookup x=some c) ->
  ∃cl,(forIn names acc λ(x:Str×NameKind) cs=>(match x with|(name,kind)=>if(kind ==NameKind.free)=true then do let a <-cellOf env name;pure (ForInStep.yield ((name,a) ::cs)) else pure (ForInStep.yield cs):Sem (ForInStep (List (Str×Addr)))))=(pure cl:Sem (List (Str×Addr))) /\
   (∀x c,cl.lookup x=some c->env.cells.lookup x=some c)/\(∀x c,acc.lookup x=some c->cl.lookup x=some c)/\∀p∈names,p.2=.free->∃c,cl.lookup p.1=some c
 | [],acc,_,h=>⟨acc,rfl,h,λ_ _ e=>e,λ_ z=>nomatch z⟩
 |(n,k) ::r,acc,h,ha=>by
  by_cases hk:k=.free
  .subst hk;obtain⟨c,hc⟩:=h (n,.free) bcs rfl;have ha':∀x d,((n,c) ::acc).lookup x=some d->env.cells.lookup x=some d:=λx d e=>by
    rw[aMf]at e;cases q:x ==n with
    |true=>
     rw[q]at e;have hxn:x=n:=by simpa using q
     subst hxn;cases e;exact hc
    |false=>
     rw[q]at e;exact ha x d e
   obtain⟨cl,e1,e2,e3,e4⟩:=Jb r ((n,c) ::acc) (λp hp=>h p (asW _ hp)) ha';have top:∃d,cl.lookup n=some d:=⟨c,e3 n c (by rw[aMf];simp)⟩;refine⟨cl,?_,e2,λx d e=>?_,λp hp hf=>?_⟩
   .rw [a7z];simp only[cellOf,hc,aro,aEa];exact e1
   .cases q:x ==n with
    |true=>
     have hxn:x=n:=by simpa using q
     subst hxn;have z:=ha x d e;rw[hc]at z;cases z;exact e3 x c (by rw[aMf];simp)
    |false=>exact e3 x d (by rw[aMf,q];exact e)
   .rcases awk.mp hp with rfl|hp
    .exact top
    .exact e4 p hp hf
  .obtain ⟨cl,e1,e2,e3,e4⟩:=Jb r acc (λp hp=>h p (asW _ hp)) ha;have hb:(k ==NameKind.free)=false:=by simpa using hk
   refine⟨cl,?_,e2,e3,λp hp hf=>?_⟩
   .rw [a7z];simp only[hb,aKG,a2l];exact e1
   .rcases awk.mp hp with rfl|hp
    .exact absurd hf hk
    .exact e4 p hp hf
theorem Uy{α:Type}(f:Str->α->α)(x:Str):∀l:List (Str×α),(l.map λp=>(p.1,f p.1 p.2)).lookup x=(l.lookup x).map (f x)
 | []=>rfl
 |(n,k) ::r=>by
  have ih:=Uy f x r;rw[aB5,aMf,aMf];cases q:x ==n with
  |true=>
   have e:x=n:=by simpa using q
   subst e;rfl
  |false=>exact ih
def DC(env:Env)(n:Str)(k:NameKind):NameKind:=if(k ==NameKind.free && env.scope.kind == .function && env.kindOf n ==some .cell)=true then .cell else k
theorem UM(scope:Scope)(env:Env)(x:Str):(relabel scope env).names.lookup x=(scope.names.lookup x).map (DC env x):=by
 rw[<-Uy (DC env) x scope.names];show(scope.names.map _).lookup x=_;congr 1
 refine a0o λp _=>?_;show(if _ then _ else _)=_;unfold DC;split <;> rfl
theorem UL(env:Env)(n:Str)(k:NameKind):DC env n k=k\/(k=.free/\DC env n k=.cell):=by
 unfold DC;by_cases h:(k ==NameKind.free && env.scope.kind == .function && env.kindOf n ==some .cell)=true
 .refine .inr ⟨?_,auJ h⟩;rw[aix,aix]at h;exact av8.mp h.1.1
 .exact .inl (ale h)
theorem ZaZ{scope:Scope}{env:Env}{x:Str}{k:NameKind}(h:scope.names.lookup x=some k) :
  (relabel scope env).names.lookup x=some k\/(k=.free/\(relabel scope env).names.lookup x=some .cell):=by
 rw[UM,h];rcases UL env x k with q|⟨q,q'⟩
 .exact .inl (agz some q)
 .exact .inr ⟨q,agz some q'⟩
theorem ZdM{scope:Scope}{env:Env}{x:Str}{k:NameKind}(h:(relabel scope env).names.lookup x=some k):∃k',scope.names.lookup x=some k'/\(k'=k\/k'=.free):=by
 rw[UM]at h;cases q:scope.names.lookup x with
 |none=>rw[q]at h;cases h
 |some k'=>
  rw[q]at h;have h':DC env x k'=k:=asK h;rcases UL env x k' with z|⟨z,_⟩
  .exact ⟨k',rfl,.inl (z.symm.trans h')⟩
  .exact ⟨k',rfl,.inr z⟩
theorem ZQ{α:Type}{x:Str}:∀{l:List (Str×α)}{k:α},l.lookup x=some k->(x,k)∈l
 | [],_,h=>by simp at h
 |(n,k) ::r,k',h=>by
  rw[aMf]at h;cases hx:x ==n with
  |true=>
   rw[hx]at h;cases h;have:x=n:=by simpa using hx
   subst this;exact bcs
  |false=>
   rw[hx]at h;exact asW _ (ZQ h)
theorem ZgE{prog:Program}{w:World}{A:Around}{s:Shared}{elt target iter:PySem.Expr}{ifs:List PySem.Expr}{scope:Scope}{pos:Pos}{it acc:Value}{env:Env}{R:Result->Shared->Prop}(I:Nat->Shared->Prop)
  (turn:∀n s,I n s->wpAny (model prog w) A (pyNext it) (λr s1=>match r with
   |none=>R (.ok .next) s1
   | some v=>wpAny (model prog w) A (letOwnedTupleGo target it v) (λ_ s0=>wpAny (model prog w) A (assign target env v) (λ_ s2=>
     wpAny (model prog w) A (forIn ifs true λc r=>if r=true then do let ok <-isTrue c env (eval c env);pure (ForInStep.yield ok) else pure (ForInStep.yield r)) (λok s3=>
      if ok=true then wpAny (model prog w) A (eval elt env) (λx s4=>
       wpAny (model prog w) A (call (.builtin "list.append") [acc,x]) (λ_ s5=>∃m,m<n/\I m s5) (λ_ _=>False) s4) (λ_ _=>False) s3
      else ∃m,m<n/\I m s3) (λ_ _=>False) s2) (λ_ _=>False) s0) (λ_ _=>False) s1) (λ_ _=>False) s)
  (n:Nat) (h:I n s):codeAny (model prog w) A (.compLoop (.ListComp elt [⟨target,iter,ifs,0⟩] scope pos) 0 it acc env) R s:=by
 have body:∀n s,I n s->wpAny (model prog w) A (compTurn (.ListComp elt [⟨target,iter,ifs,0⟩] scope pos) 0 it acc env)
   (λfin s'=>match fin with| .done f=>R (.ok f) s'| .again c=>c=.compLoop (.ListComp elt [⟨target,iter,ifs,0⟩] scope pos) 0 it acc env/\∃m,m<n/\I m s') (λ_ _=>False) s:=λn s hI=>by
  rw[compTurn_list];refine a3A (auQ (a3A (bZ (turn n s hI) λr s1 h1=>?_)));cases r with
  |none=>exact aLE h1
  |some v=>
   refine a3A (bZ h1 λ_ s0 h0=>a3A (bZ h0 λ_ s2 h2=>a3A (bZ h2 λok s3 h3=>?_)));cases ok with
   |true=>exact a3A (a3A (bZ h3 λx s4 h4=>a3A (bZ h4 λ_ s5 h5=>aLE (aLE ⟨rfl,h5⟩))))
   |false=>exact aLE ⟨rfl,h3⟩
 exact codeAny_loop rfl I (λn s hI=>wpAny_noted (aZU (body n s hI) (λ_ _ q=>q) λ_ _ q=>q.elim)) n h
def nR(own:Nat)(js:List Nat)(wi:TI)(g:TG)(tc:TT)(te:TE):TE:=λσ H Q=>wi σ H λJ H1=>∀l,H1 l=none ->
 ∃W:Nat->Nat->List V->St->Hp->Prop,(∃m,W 0 m [] (List.replicate own none++js.map λj=>(σ[j]?).join) (upd H1 l (.lst [])))/\∀i m ys σ' H',W i m ys σ' H' ->
  (J.stop i H'/\Q (.ref l) H')\/(J.go i H'/\∀x H2,J.sr i H' x H2->g x σ' H2 λσ2 H3=>tc σ2 H3 λb H4=>
   if b=true then te σ2 H4 λy H5=>H5 l=some (.lst ys)/\ys.length<sizeLine/\∃m',m'<m/\W (i+1) m' (ys++[y]) σ2 (upd H5 l (.lst (ys++[y])))
   else ∃m',m'<m/\W (i+1) m' ys σ2 H4)
def A5:TT:=λ_ H Q=>Q true H
structure dj(X:Cx)(scope:Scope)(N:List Str)(own:Nat)(js:List Nat):Prop where
 kind:scope.kind=.function
 cell:∀y∈scope.names,y.2=.cell->scope.names.lookup y.1=some .cell
 names:∀y∈scope.names,y.2=.local->scope.names.lookup y.1=some .local
 free:∀y∈scope.names,y.2=.free->X.env.kindOf y.1=some .cell\/X.env.kindOf y.1=some .free
 len:N.length=own+js.length
 js:∀k j,js[k]?=some j->N[own+k]?=X.N[j]?
 jf:∀k x,N[own+k]?=some x->scope.names.lookup x=some .free
theorem Un.but{fs ex:List Addr}{H H':Hp}{h h1 h2:Heap}{C:Addr}(u:Un fs ex H H' h h1)(hc:h.objs.size<=C)(sb:∀b o,b≠C->h1.get? b=some o->h2.get? b=some o):Un fs ex H H' h h2:=by
 have ne:∀b o,h.get? b=some o->b≠C:=λb o e=>aor (aKk (aPy e) hc);refine⟨λb o q n hb hx=>sb b o (ne b o q) (u.keep b o q n hb hx),λb o q n hb hx=>?_,u.free,λb o q hx=>?_,u.tups,u.j6,u.kG⟩
 .obtain ⟨sl,e⟩:=u.slot b o q n hb hx;exact⟨sl,sb b _ (ne b o q) e⟩
 .obtain ⟨o',e⟩:=u.there b o q hx;exact⟨o',sb b o' (ne b o q) e⟩
theorem DB:∀(names:List (Str×NameKind))(n:Nat)(acc:List (Str×Addr)),cellsFrom n names acc=cellsFrom n names []++acc
 | [],_,_=>rfl
 |(x,k) ::r,n,acc=>by
  unfold cellsFrom;by_cases hk:(k ==NameKind.cell)=true
  .rw [auJ hk,auJ hk,DB r (n+1) ((x,n) ::acc),DB r (n+1) [(x,n)],a2B];rfl
  .rw [ale hk,ale hk];exact DB r n acc
theorem N1:∀(names:List (Str×NameKind))(n:Nat)(x:Str)(c:Addr),(x,c)∈cellsFrom n names []->(x,NameKind.cell)∈names
 | [],_,_,_,h=>nomatch h
 |(y,k) ::r,n,x,c,h=>by
  unfold cellsFrom at h;by_cases hk:(k ==NameKind.cell)=true
  .rw [auJ hk,DB]at h;rcases aXY.mp h with q|q
   .exact asW _ (N1 r _ x c q)
   .have e:(x,c)=(y,n):=by simpa using q
    cases e;have hk':k=.cell:=by simpa using hk
    subst hk';exact bcs
  .rw [ale hk]at h;exact asW _ (N1 r _ x c h)
theorem UI{α:Type}:∀{l:List (Str×α)}{x:Str}{c:α},(x,c)∈l->∃d,l.lookup x=some d
 |(y,v) ::r,x,c,h=>by
  rw[aMf];cases q:x ==y with
  |true=>exact⟨v,rfl⟩
  |false=>
   rcases awk.mp h with e|e
   .cases e;simp at q
   .exact UI e
theorem NW:∀(names:List (Str×NameKind))(n:Nat)(x:Str),(x,NameKind.cell)∈names->∃c,(x,c)∈cellsFrom n names []
 | [],_,_,h=>nomatch h
 |(y,k) ::r,n,x,h=>by
  unfold cellsFrom;rcases awk.mp h with e|e
  .cases e;rw[auJ (show(NameKind.cell ==NameKind.cell)=true from rfl),DB];exact⟨n,aGz _ (by simp)⟩
  .by_cases hk:(k ==NameKind.cell)=true
   .rw [auJ hk,DB];obtain⟨c,q⟩:=NW r (n+1) x e;exact⟨c,ata _ q⟩
   .rw [ale hk];exact NW r n x e
theorem Uw{α:Type}:∀(l m:List (Str×α))(x:Str),(l++m).lookup x=match l.lookup x with|some c=>some c|none=>m.lookup x
 | [],m,x=>rfl
 |(y,v) ::r,m,x=>by
  rw[apU,aMf,aMf];cases x ==y with
  |true=>rfl
  |false=>exact Uw r m x
theorem ZdN{M:Model}{A:Around}{E:Value->Shared->Prop}{s:Shared}{scope:Scope}{globals:Addr}{cl:List (Str×Addr)}{qual:Str}{env:Env}{Q:Env->Shared->Prop}
  (h:Q (newEnv scope s.heap.objs.size globals (cellsFrom (s.heap.objs.size+1) scope.names cl) qual none .none (some env) builtinsNs) { s with heap:=pushCells (s.heap.push { cls:=.type "dict",data:=.dict #[] }) scope.names }) :
  wpAny M A (newFunctionEnv scope globals cl [] qual none .none (some env)) Q E s:=by
 simp only[newFunctionEnv,Option.isSome_some,aEa];refine a3A (wpAny_alloc (a3A (wpAny_layCells _ (λname kind cells=>by cases hkc:kind ==NameKind.cell <;> simp[hkc]) _ _ _ _ ?_)));rw[show({ s with heap:=s.heap.push { cls:=.type "dict",data:=.dict #[] } }:Shared).heap.objs.size=s.heap.objs.size+1 from aK7 ..];rw[List.forIn_nil];exact a3A (aLE (aLE h))
structure vg(X:Cx)(scope:Scope)(rD:List (Str×Addr))(n:Nat)(h':Heap):Prop where
 k1:∀x c,rD.lookup x=some c->X.env.cells.lookup x=some c\/(n<c/\h'.IsCell c none/\(x,NameKind.cell)∈scope.names)
 k2:∀x,scope.names.lookup x=some .free->∃c,rD.lookup x=some c/\X.env.cells.lookup x=some c
 k3:∀p∈scope.names,p.2=.cell\/p.2=.free->∃c,rD.lookup p.1=some c
 k4:∀x y c,rD.lookup x=some c->rD.lookup y=some c->x=y
 k5:∀x c,scope.names.lookup x=some .cell->rD.lookup x=some c->n<c
section
variable{X:Cx}{scope:Scope}{N:List Str}{own:Nat}{js:List Nat}
theorem ZfK{cl:List (Str×Addr)}{n:Nat}{h0:Heap}(c:dj X scope N own js)(j7:∀x c,cl.lookup x=some c->X.env.cells.lookup x=some c)(qd:∀p∈scope.names,p.2=.free->∃c,cl.lookup p.1=some c)
  (inj:∀x y c,X.env.cells.lookup x=some c->X.env.cells.lookup y=some c->x=y) (lt:∀x c,X.env.cells.lookup x=some c->c<n) (hn:h0.objs.size=n+1):vg X scope (cellsFrom (n+1) scope.names cl) n (pushCells h0 scope.names):=by
 have ok:=cellsFrom_ok scope.names h0 (n+1) [] ⟨λ_ _ hm=>(nomatch hm),List.Pairwise.nil⟩ (by rw[hn];exact aI1 _);rw[hn]at ok;have two:∀x,(cellsFrom (n+1) scope.names cl).lookup x=match(cellsFrom (n+1) scope.names []).lookup x with|some c=>some c|none=>cl.lookup x:=λx=>by
  rw[DB,Uw];cases(cellsFrom (n+1) scope.names []).lookup x <;> rfl
 have own':∀x d,(cellsFrom (n+1) scope.names []).lookup x=some d->(pushCells h0 scope.names).IsCell d none/\n<d/\(x,NameKind.cell)∈scope.names:=λx d e=>
  ⟨(ok.empty x d (mem_of_lookup e)).1,(ok.empty x d (mem_of_lookup e)).2,N1 _ _ x d (mem_of_lookup e)⟩
 have part:∀x d,(cellsFrom (n+1) scope.names cl).lookup x=some d->(cellsFrom (n+1) scope.names []).lookup x=some d\/((cellsFrom (n+1) scope.names []).lookup x=none/\cl.lookup x=some d):=λx d e=>by
  rw[two]at e;cases q:(cellsFrom (n+1) scope.names []).lookup x with
  |some d'=>rw[q]at e;exact .inl e
  |none=>rw[q]at e;exact .inr ⟨rfl,e⟩
 have has:∀x,(x,NameKind.cell)∈scope.names->∃d,(cellsFrom (n+1) scope.names []).lookup x=some d:=λx m=>by
  obtain⟨d,q⟩:=NW scope.names (n+1) x m;exact UI q
 refine⟨λx d e=>?_,λx e=>?_,λp hp hk=>?_,λx y d e1 e2=>?_,λx d e1 e2=>?_⟩
 .rcases part x d e with q|⟨_,q⟩
  .exact .inr ⟨(own' x d q).2.1,(own' x d q).1,(own' x d q).2.2⟩
  .exact .inl (j7 x d q)
 .obtain ⟨d,q⟩:=qd _ (ZQ e) rfl;have no:(cellsFrom (n+1) scope.names []).lookup x=none:=by
   cases z:(cellsFrom (n+1) scope.names []).lookup x with
   |none=>rfl
   |some d'=>
    have y:=c.cell _ (own' x d' z).2.2 rfl;rw[show scope.names.lookup x=_ from e]at y;cases y
  exact⟨d,by rw[two,no];exact q,j7 x d q⟩
 .rw [two];cases z:(cellsFrom (n+1) scope.names []).lookup p.1 with
  |some d'=>exact⟨d',rfl⟩
  |none=>
   rcases hk with hk|hk
   .obtain ⟨d,q⟩:=has p.1 (by rw[<-hk];exact hp);rw[z]at q;cases q
   .exact qd p hp hk
 .rcases part x d e1 with q1|⟨_,q1⟩
  .rcases part y d e2 with q2|⟨_,q2⟩
   .exact name_of_addr ok.apart (mem_of_lookup q1) (mem_of_lookup q2)
   .exact absurd (a7K (own' x d q1).2.1 (lt y d (j7 y d q2))) (agV _)
  .rcases part y d e2 with q2|⟨_,q2⟩
   .exact absurd (a7K (own' y d q2).2.1 (lt x d (j7 x d q1))) (agV _)
   .exact inj x y d (j7 x d q1) (j7 y d q2)
 .obtain ⟨d',q⟩:=has x (ZQ e1);rw[two,q]at e2;cases e2;exact(own' x d q).2.1
theorem ZfL{pins:List (Addr×Obj)}{σ:St}{H:Hp}{s:Shared}{cl:List (Str×Addr)}{fp:List Addr}{h':Heap}{t':Nat}(c:dj X scope N own js)(I:Inv X pins σ H s)(hf:∀b∈fp,ko X pins H b)
  (fo:∀b∈fp,b<s.heap.objs.size)
  (ci:vg X scope cl s.heap.objs.size h')
  (hn:h'.Ns s.heap.objs.size (λ_=>none)) (hk:∀b o,s.heap.get? b=some o->h'.get? b=some o) :
  Inv (bH X N scope cl s.heap.objs.size s H fp pins) [] (List.replicate own none++js.map λj=>(σ[j]?).join) H { s with heap:=h',toks:=t' }:=by
 have ze:∀x c,cl.lookup x=some c->c≠s.heap.objs.size:=λx c e=>by
  rcases ci.k1 x c e with q|⟨q,_⟩
  .obtain ⟨v,q⟩:=I.cell x c q;exact aor q.lt
  .exact aAe q
 have ok:(bH X N scope cl s.heap.objs.size s H fp pins).Ok:=by
  refine⟨I.ok.mod,c.kind,I.ok.glob,I.ok.blt,aI1 _,ci.k4,λx hx=>?_,λx d z e=>aaH (ci.k5 x d (av8.mp (show(scope.names.lookup x ==some .cell)=true from z)) e),I.ok.hd,I.ok.frames,.inl rfl,λb hb=>⟨aor (fo b hb),λx d e=>(ci.k1 x d e).elim (λq=>(hf b hb).2.2.2.2.1 x d q) λq=>aAe (a7K (fo b hb) q.1)⟩,I.bs,
   atR I.ok.zf I.sz,λb o e hb=>?_,λb hb z=>?_,I.stack,I.oJ⟩
  .have back:∀k,(relabel scope X.env).names.lookup x=some k->k=.cell\/k=.free->∃k',(x,k')∈scope.names/\(k'=NameKind.cell\/k'=NameKind.free):=λk e hk=>by
    obtain⟨k',e',z⟩:=ZdM e;refine⟨k',ZQ e',?_⟩;rcases z with z|z
    .subst z;exact hk
    .exact .inr z
   obtain⟨k',m,hk'⟩:∃k',(x,k')∈scope.names/\(k'=NameKind.cell\/k'=NameKind.free):=by
    rcases hx with hx|hx
    .exact back _ hx (.inl rfl)
    .exact back _ hx (.inr rfl)
   exact ci.k3 _ m hk'
  .rcases (hf b hb).2.2.2.1 with z|z
   .exact I.ok.xY b o e z
   .exact absurd (aKk (aKk (aPy e) I.ok.zf) z) (agV _)
  .rcases awk.mp (I.oG b z) with q|q
   .exact (hf b hb).2.1 q
   .exact (hf b hb).2.2.1 q
 refine⟨ok,rfl,I.bare,Un.kept hk,⟨_,hn,λi x v e1 e2 e3=>?_⟩,λx d e=>?_,I.hok.fresh (aI1 _),λx d e=>(ci.k1 x d e).elim (λq=>I.dM x d q) λq=>I.hok.fresh (aaH q.1),λp hp=>?_,I.hok.kept hk,?_⟩
 .-- a name with a value is one that the block closes over
  have hi:own<=i:=by
   by_cases hi:i<own
   .rw [a9E (by simpa using hi),aDo]at e2;split at e2 <;> cases e2
   .lia
  obtain⟨k,rfl⟩:∃k,i=own+k:=⟨i-own,by lia⟩;rw[agf (by simp),aAW,Nat.add_sub_cancel_left,afQ]at e2;cases q:js[k]? with
  |none=>rw[q]at e2;cases e2
  |some j=>
   rw[q]at e2;have vI:(σ[j]?).join=some v:=by simpa using e2
   have e4:σ[j]?=some (some v):=by
    cases z:σ[j]? with
    |none=>rw[z]at vI;cases vI
    |some o=>rw[z]at vI;rw[show o=some v from vI]
   have jF:N[own+k]?=some x:=e1;have M7:X.N[j]?=some x:=(c.js k j q).symm.trans jF;have hfr:=c.jf k x jF;have hmem:=ZQ hfr;have hk2:=c.free _ hmem rfl;have vis:Jj X.env.scope x:=by
    rcases hk2 with z|z
    .exact .inr (.inl z)
    .exact .inr (.inr z)
   obtain⟨m,_,hl⟩:=I.loc;obtain⟨u,r,l⟩:=hl j x v M7 e4 vis;refine⟨u,r,?_⟩;rcases l with⟨z,_⟩|⟨_,d,e,⟨od,ho,hd⟩⟩
   .rcases hk2 with y|y
    .rw [show X.env.kindOf x=_ from z]at y;cases y
    .rw [show X.env.kindOf x=_ from z]at y;cases y
   .obtain ⟨d',e',z'⟩:=ci.k2 x hfr;have:d'=d:=by have z:=z';rw[e]at z;exact(asK z).symm
    subst this;refine .inr ⟨?_,d',e',⟨od,hk _ _ ho,hd⟩⟩;rcases ZaZ (scope:=scope) (env:=X.env) hfr with z|⟨_,z⟩
    .exact .inr z
    .exact .inl z
 .rcases ci.k1 x d e with q|⟨_,q,_⟩
  .obtain ⟨v,⟨o,ho,hd⟩⟩:=I.cell x d q;exact⟨v,o,hk _ _ ho,hd⟩
  .exact ⟨none,q⟩
 .have Dc:p∈X.pn++pins:=by
   have z:p∈(X.pn++pins)++[]:=hp;rwa [aKQ]at z
  obtain⟨a1,a2,a3,a4,a5⟩:=I.pin p Dc;refine⟨hk _ _ a1,a2,aor (aPy a1),λz=>?_,a5⟩;rcases awk.mp (I.oG p.1 z) with q|q
  .exact a3 q
  .exact a4 q
 .show _=N.length;rw[c.len];simp
theorem UG{pins:List (Addr×Obj)}{σ:St}{H:Hp}{s:Shared}{elt target iter:PySem.Expr}{ifs:List PySem.Expr}{pos:Pos}{it:Addr}{fp:List Addr}{tn:Nat->Heap->Prop}{J:It}{cl:List (Str×Addr)}{g:TG}{tc:TT}{te:TE}{E:Value->Shared->Prop}{Q:VK}
  {RR:Value->Addr->Result->Shared->Prop}
  (c:dj X scope N own js) (hc:X.calm=true) (I:Inv X pins σ H s) (T:Turn X.prog X.w X.K target J fp it tn) (st:tn 0 s.heap) (hf:∀b∈fp,ko X pins H b)
  (j7:∀x c,cl.lookup x=some c->X.env.cells.lookup x=some c) (qd:∀p∈scope.names,p.2=.free->∃c,cl.lookup p.1=some c)
  (hg:∀cl C s0 H0 fp pins,PG (bH X N scope cl C s0 H0 fp pins) target g)
  (ht:∀cl C s0 H0 fp pins bY s σ H Q,Inv (bH X N scope cl C s0 H0 fp pins) bY σ H s->tc σ H Q->wpAny (model X.prog X.w) X.A (forIn ifs true λc r=>if r=true then do let ok <-isTrue c (compEnvC scope cl C X.env) (eval c (compEnvC scope cl C X.env));pure (ForInStep.yield ok) else pure (ForInStep.yield r))
   (TP (bH X N scope cl C s0 H0 fp pins) bY σ Q) (λ_ _=>False) s)
  (he:∀cl C s0 H0 fp pins,PE (bH X N scope cl C s0 H0 fp pins) elt te)
  (h:∀l,H l=none->∃W:Nat->Nat->List V->St->Hp->Prop,(∃m,W 0 m [] (List.replicate own none++js.map λj=>(σ[j]?).join) (upd H l (.lst [])))/\∀i m ys σ' H',W i m ys σ' H' ->
   (J.stop i H'/\Q (.ref l) H')\/(J.go i H'/\∀x H2,J.sr i H' x H2->g x σ' H2 λσ2 H3=>tc σ2 H3 λb H4=>
    if b=true then te σ2 H4 λy H5=>H5 l=some (.lst ys)/\ys.length<sizeLine/\∃m',m'<m/\W (i+1) m' (ys++[y]) σ2 (upd H5 l (.lst (ys++[y])))
    else ∃m',m'<m/\W (i+1) m' ys σ2 H4))
  (hRR:∀l C H' s' m',s.heap.objs.size<=C->s'.heap.Ns C m'->H' C=none->C≠X.env.locals->C∉X.fs->(∀h2,Heap.SameBut C s'.heap h2->Inv X pins σ H' { s' with heap:=h2 })->Q (.ref l) H'->RR (.ref l) C (.ok .next) s') :
  wpAny (model X.prog X.w) X.A (newList []) (λacc s3=>wpAny (model X.prog X.w) X.A (newFunctionEnv scope X.env.globals cl [] X.env.qual none .none (some X.env)) (λcenv s4=>
   codeAny (model X.prog X.w) X.A (.compStart (.ListComp elt [⟨target,iter,ifs,0⟩] scope pos) 0 (.ref it) acc { cenv with scope:=relabel scope X.env }) (RR acc cenv.locals) s4) E s3) E s:=by
 have I2:Inv X pins σ (upd H s.heap.objs.size (.lst [])) { s with heap:=s.heap.push { cls:=.type "list",dict:=none,data:=.seq ([]:List Value).toArray },toks:=s.toks }:=I.Ms (ys:=[]) .nil (acY _);obtain⟨W,⟨m0,w0⟩,turn⟩:=h s.heap.objs.size I.fresh;refine aON (ZdN ?_);dsimp only;generalize hS:({ s with heap:=s.heap.push { cls:=.type "list",dict:=none,data:=.seq ([]:List Value).toArray },toks:=s.toks }:Shared)=s2 at I2;have e2:s2.heap=s.heap.push { cls:=.type "list",dict:=none,data:=.seq ([]:List Value).toArray }:=by rw[<-hS]
 have Pk:s2.heap.objs.size=s.heap.objs.size+1:=by rw[e2,aK7]
 rw[<-e2];have ci:=ZfK (h0:=s2.heap.push { cls:=.type "dict",data:=.dict #[] }) (n:=s2.heap.objs.size) c j7 qd I2.ok.inj (λx d e=>by obtain⟨v,q⟩:=I2.cell x d e;exact q.lt) (aK7 ..);have BK:(pushCells (s2.heap.push { cls:=.type "dict",data:=.dict #[] }) scope.names).Ns s2.heap.objs.size (λ_=>none):=(Heap.Ns.new s2.heap (.type "dict")).keeps (pushCells_keeps _ _);have old:∀b o,s2.heap.get? b=some o->(pushCells (s2.heap.push { cls:=.type "dict",data:=.dict #[] }) scope.names).get? b=some o:=λb o e=>pushCells_keeps _ _ b o (a8n _ e);generalize pushCells (s2.heap.push { cls:=.type "dict",data:=.dict #[] }) scope.names=h1 at ci BK old ⊢;generalize hcl:cellsFrom (s2.heap.objs.size+1) scope.names cl=rD at ci ⊢;have yf:∀b,b∈fp->b<s.heap.objs.size:=λb hb=>by
  obtain⟨o,e,_⟩:=T.obj 0 _ st b hb;exact aPy e
 have hf2:∀b∈fp,ko X pins (upd H s.heap.objs.size (.lst [])) b:=λb hb=>⟨by rw[Zc (aor (yf b hb))];exact(hf b hb).1,(hf b hb).2⟩;have CZ:∀b∈fp,b<s2.heap.objs.size:=λb hb=>by rw[Pk];exact aqa (yf b hb)
 have st2:tn 0 s2.heap:=T.keep 0 _ _ st λb _ o e=>by rw[e2];exact a8n _ e
 have I4:=ZfL (t':=s.toks) c I2 hf2 CZ ci BK old;have cV:tn 0 h1:=T.keep 0 _ _ st2 λb _ o e=>old b o e;have es:({ s2 with heap:=h1,toks:=s.toks }:Shared)={ s with heap:=h1,toks:=s.toks }:=by rw[<-hS]
 rw[es]at I4;generalize XO:({ s with heap:=h1,toks:=s.toks }:Shared)=s4 at I4;have FH:tn 0 s4.heap:=by rw[<-XO];exact cV
 have loop:codeAny (model X.prog X.w) X.A (.compLoop (.ListComp elt [⟨target,iter,ifs,0⟩] scope pos) 0 (.ref it) (.ref s.heap.objs.size) (compEnvC scope rD s2.heap.objs.size X.env)) (RR (.ref s.heap.objs.size) s2.heap.objs.size) s4:=by
  refine ZgE (λn s'=>∃i ys σ' H',Inv (bH X N scope rD s2.heap.objs.size s2 (upd H s.heap.objs.size (.lst [])) fp pins) [] σ' H' s'/\tn i s'.heap/\(∀b∈fp,H' b=none)/\W i n ys σ' H') ?_ m0
   ⟨0,[],_,_,I4,FH,λb hb=>(hf2 b hb).1,w0⟩
  rintro n s5 ⟨i,ys,σ5,H5,I5,zE,Ks,w5⟩;have sA:∀{H':Hp}{s':Shared}{σ':St},Inv (bH X N scope rD s2.heap.objs.size s2 (upd H s.heap.objs.size (.lst [])) fp pins) [] σ' H' s'->(∀b∈fp,H' b=none)->∀b∈fp,ko (bH X N scope rD s2.heap.objs.size s2 (upd H s.heap.objs.size (.lst [])) fp pins) [] H' b:=λJ' hn b hb=>
   ⟨hn b hb,(J'.ok.Kv b hb).1,J'.ok.yw b hb,.inl hb,(J'.ok.Kv b hb).2,λp hp z=>by
    have Dc:p∈X.pn++pins:=by
     have q:p∈(X.pn++pins)++[]:=hp;rwa [aKQ]at q
    exact(hf b hb).2.2.2.2.2 p Dc z⟩
  rcases turn i n ys σ5 H5 w5 with⟨stop,q⟩|⟨go,step⟩
  .refine aZU (T.done (bH X N scope rD s2.heap.objs.size s2 (upd H s.heap.objs.size (.lst [])) fp pins) rfl rfl rfl hc i [] s5 σ5 H5 (λ_ _=>False) I5 (sA I5 Ks) zE stop) (λr s6 ⟨hr,I6⟩=>?_) λ_ _ z=>z;subst hr;obtain⟨m',hn',_⟩:=I6.loc;have hC:s.heap.objs.size<=s2.heap.objs.size:=by rw[Pk];exact aYm _
   refine hRR _ _ H5 s6 m' hC hn' I6.free ?_ ?_ (λh2 sb=>?_) q
   .exact aAe I2.lt
   .exact I2.Gv (aI1 _)
   .have u:Un (frs X.stack) fp (upd H s.heap.objs.size (.lst [])) H5 s2.heap h2:=I6.base.but (aI1 _) sb.extBut;have z6:H5 s2.heap.objs.size=none:=I6.free;have hok:eT X.prog X.w H5 h2:=λb ob e=>(I6.hok b ob e).stay (λd w' hd z=>sb.extBut d w' (by
     rintro rfl;rcases hd with rfl|hd
     .rw [z6]at e;cases e
     .rw [z6]at hd;cases hd) z) (λ_ z=>z) λ_ _ z=>z
    have J:=I2.Ii (s':={ s6 with heap:=h2 }) (ch:=fp) (by show s6.os=s2.os;exact I6.os) u hok I6.bare λb hb=>⟨(hf b hb).2.2.2.1,(hf b hb).2.1,(hf b hb).2.2.2.2.1,(hf b hb).2.2.2.2.2⟩;exact J
  .refine aZU (T.item (bH X N scope rD s2.heap.objs.size s2 (upd H s.heap.objs.size (.lst [])) fp pins) rfl rfl rfl hc i [] s5 σ5 H5 (λ_ _=>False) I5 (sA I5 Ks) zE go) (λr s6 ⟨u,hr,h6⟩=>?_) λ_ _ z=>z;subst hr;refine aZU h6 (λ_ s7 ⟨x,H7,I7,r7,y7,LK,Ys⟩=>?_) λ_ _ z=>z;have I7':=I7.pinned (sA I7 Ys) (T.obj _ _ LK);refine aZU (hg _ _ _ _ _ _ _ s7 σ5 H7 x u _ I7' r7 (step x H7 y7)) (λ_ s8 ⟨σ8,H8,I8,q8⟩=>?_) λ_ _ z=>z;refine aZU (ht _ _ _ _ _ _ _ s8 σ8 H8 _ I8 q8) (λb s9 ⟨H9,I9,q9⟩=>?_) λ_ _ z=>z;have fin:∀{s':Shared}{H':Hp}{m':Nat}{ys':List V},Inv (bH X N scope rD s2.heap.objs.size s2 (upd H s.heap.objs.size (.lst [])) fp pins) ([]++ID fp s7.heap) σ8 H' s'->m'<n->W (i+1) m' ys' σ8 H' ->
     ∃m,m<n/\∃i ys σ' H',Inv (bH X N scope rD s2.heap.objs.size s2 (upd H s.heap.objs.size (.lst [])) fp pins) [] σ' H' s'/\tn i s'.heap/\(∀b∈fp,H' b=none)/\W i m ys σ' H':=λ{s' H' m' ys'} J' hm w'=>by
    refine⟨m',hm,i+1,ys',σ8,H',J'.gR,T.keep _ _ _ LK λb hb o e=>(J'.pin (b,o) (aGz _ (aGz _ (Ln hb e)))).1,λb hb=>?_,w'⟩;obtain⟨o,e,d⟩:=T.obj _ _ LK b hb;exact(J'.pin (b,o) (aGz _ (aGz _ (Ln hb e)))).2.1
   cases b with
   |false=>
    rw[ale a0V]at q9 ⊢;obtain⟨m',hm,w'⟩:=q9;exact fin I9 hm w'
   |true=>
    rw[auJ rfl]at q9 ⊢;refine aZU (he _ _ _ _ _ _ _ s9 σ8 H9 _ I9 q9) (λy Wu ⟨z,UX,I10,zT,el,ez,m',hm,w'⟩=>?_) λ_ _ z=>z;refine aZU (ZZ (X:=bH X N scope rD s2.heap.objs.size s2 (upd H s.heap.objs.size (.lst [])) fp pins) _ Wu σ8 UX (.ref s.heap.objs.size) [z] _ [y] (λ_ H'=>H'=upd UX s.heap.objs.size (.lst (ys++[z]))) I10 rfl (.cons zT .nil) ⟨_,_,_,rfl,rfl,el,ez,rfl⟩) (λ_ s11 ⟨_,H11,I11,_,YI⟩=>?_) λ_ _ z=>z;subst YI;exact fin I11 hm w'
 have fin:codeAny (model X.prog X.w) X.A (.compStart (.ListComp elt [⟨target,iter,ifs,0⟩] scope pos) 0 (.ref it) (.ref s.heap.objs.size) (compEnvC scope rD s2.heap.objs.size X.env)) (RR (.ref s.heap.objs.size) s2.heap.objs.size) s4:=
  codeAny_compStart_list loop (T.self X.A 0 s4 _ _ FH loop)
 exact fin
theorem Uc{elt target iter:PySem.Expr}{ifs:List PySem.Expr}{pos:Pos}{wi:TI}{g:TG}{tc:TT}{te:TE}(c:dj X scope N own js)(hc:X.calm=true)(hi:PI X target iter wi)
  (hg:∀cl C s0 H0 fp pins,PG (bH X N scope cl C s0 H0 fp pins) target g)
  (ht:∀cl C s0 H0 fp pins bY s σ H Q,Inv (bH X N scope cl C s0 H0 fp pins) bY σ H s->tc σ H Q->wpAny (model X.prog X.w) X.A (forIn ifs true λc r=>if r=true then do let ok <-isTrue c (compEnvC scope cl C X.env) (eval c (compEnvC scope cl C X.env));pure (ForInStep.yield ok) else pure (ForInStep.yield r))
   (TP (bH X N scope cl C s0 H0 fp pins) bY σ Q) (λ_ _=>False) s)
  (he:∀cl C s0 H0 fp pins,PE (bH X N scope cl C s0 H0 fp pins) elt te)
  (hs:∀x,foldedSetIterable iter X.env x=pure x:=by intro _;rfl):PE X (.ListComp elt [⟨target,iter,ifs,0⟩] scope pos) (nR own js wi g tc te):=by
 intro pins s σ H Q I h;obtain⟨cl,e1,j7,_,qd⟩:=Jb (env:=X.env) scope.names [] (λp hp hf=>I.ok.has _ (c.free p hp hf)) (λx d e=>by simp at e);have hclos:closureFor scope X.env=pure cl:=by
  unfold closureFor;refine(agz (λz=>z >>= λcs=>pure cs) e1).trans ?_;rfl
 rw[eval_ListComp];refine wpAny_comprehension_free (use:=none) rfl hs hclos c.kind c.names (aZU (hi pins s σ H _ I h) (λx s1 h1=>aZU h1 (λitv s2 h2=>?_) λ_ _ e=>e) λ_ _ e=>e);obtain⟨it,fp,tn,J,H2,e,I2,T,st2,f2,q⟩:=h2;subst e;refine UG (Q:=Q) (RR:=λacc C=>compPost (model X.prog X.w) X.A X.xe none (EP X pins σ Q) acc C) c hc I2 T st2 f2 j7 qd hg ht he q ?_;intro l C H' s' m' hC hn hf hL hfs hI hq;exact⟨m',hn,λh2 sb=>⟨.ref l,H',hI h2 sb,rfl,hq⟩⟩
theorem Ub{elt target iter:PySem.Expr}{ifs:List PySem.Expr}{pos pos' spos:Pos}{y:Str}{k:Nat}{wi:TI}{g:TG}{tc:TT}{te:TE}(c:dj X scope N own js)(hc:X.calm=true)(hN:X.N.Nodup)(hk:X.N[k]?=some y)(hy:X.env.scope.names.lookup y=some .local)(hi:PI X target iter wi)
  (hg:∀cl C s0 H0 fp pins,PG (bH X N scope cl C s0 H0 fp pins) target g)
  (ht:∀cl C s0 H0 fp pins bY s σ H Q,Inv (bH X N scope cl C s0 H0 fp pins) bY σ H s->tc σ H Q->wpAny (model X.prog X.w) X.A (forIn ifs true λc r=>if r=true then do let ok <-isTrue c (compEnvC scope cl C X.env) (eval c (compEnvC scope cl C X.env));pure (ForInStep.yield ok) else pure (ForInStep.yield r))
   (TP (bH X N scope cl C s0 H0 fp pins) bY σ Q) (λ_ _=>False) s)
  (he:∀cl C s0 H0 fp pins,PE (bH X N scope cl C s0 H0 fp pins) elt te)
  (hs:∀x,foldedSetIterable iter X.env x=pure x:=by intro _;rfl)
  (hsw:swapsWith (.ListComp elt [⟨target,iter,ifs,0⟩] scope pos) (some (.Name y pos')) spos.line X.env=pure true:=by rfl):PS X (.Assign [.Name y pos'] (.ListComp elt [⟨target,iter,ifs,0⟩] scope pos) spos) (sy (nR own js wi g tc te) (dJ k)):=by
 intro pins s σ H D I h;obtain⟨cl,e1,j7,_,qd⟩:=Jb (env:=X.env) scope.names [] (λp hp hf=>I.ok.has _ (c.free p hp hf)) (λx d e=>by simp at e);have hclos:closureFor scope X.env=pure cl:=by
  unfold closureFor;refine(agz (λz=>z >>= λcs=>pure cs) e1).trans ?_;rfl
 rw[exec_Assign_Name_used _ _ _ _ hsw];refine a3A (auQ (a3A ?_));show wpAny _ X.A (do let _ <-comprehension (.ListComp elt [⟨target,iter,ifs,0⟩] scope pos) scope X.env _ (newList []) false (eval iter X.env) (some (assign (.Name y pos') X.env))) _ _ s;refine a3A (aZU (wpAny_comprehension_free (use:=some (assign (.Name y pos') X.env)) (Q:=λ_ s'=>SP X pins D .next s') rfl hs hclos c.kind c.names
  (aZU (hi pins s σ H _ I h) (λxv s1 h1=>aZU h1 (λit s2 h2=>?_) λ_ _ e=>e) λ_ _ e=>e)) (λ_ s' hq=>aLE (aLE hq)) λ_ _ e=>e)
 obtain⟨it,fp,tn,J,H2,e,I2,T,st2,f2,q⟩:=h2;subst e;refine UG (Q:=λx H1=>dJ k x σ H1 D.nx) (RR:=λacc C=>compPost (model X.prog X.w) X.A X.xe (some (assign (.Name y pos') X.env)) (λ_ s'=>SP X pins D .next s') acc C) c hc I2 T st2 f2 j7 qd hg ht he q ?_;intro l C H' s' m' hC hn hf hL hfs hI hq;have J0:=hI s'.heap (Heap.SameBut.refl ..);show wpAny _ X.A (assign (.Name y pos') X.env (.ref l)) _ _ _;have J1:Inv X pins σ H' s':=J0;refine wpAny_assign_Name (Ui (v:=.ref l) J1 hN hk (.inl hy) rfl (λs'' US mG=>?_) (.inr hy));obtain⟨a,sb,ha⟩:=mG;have hne:C≠a:=by
  rcases ha with rfl|ha
  .exact hL
  .rintro rfl;obtain⟨v,⟨o,ho,hd⟩⟩:=J1.cell y C ha;obtain⟨o',es,ep,ho',hd',_⟩:=hn;rw[ho]at ho';cases ho';rw[hd]at hd';cases hd'
 refine⟨m',hn.sameBut sb hne,λh2 El=>?_⟩;have hok:eT X.prog X.w H' h2:=λb ob e=>(US.hok b ob e).stay (λd w' hd z=>El.extBut d w' (by
  rintro rfl;rcases hd with rfl|hd
  .rw [hf]at e;cases e
  .rw [hf]at hd;cases hd) z) (λ_ z=>z) λ_ _ z=>z
 have ze:∀x d,X.env.cells.lookup x=some d->d≠C:=λx d e z=>by
  subst z;obtain⟨v,⟨o,ho,hd⟩⟩:=J1.cell x d e;obtain⟨o',es,ep,ho',hd',_⟩:=hn;rw[ho]at ho';cases ho';rw[hd]at hd';cases hd'
 have Eu:∀p∈X.pn++pins,p.1≠C:=λp hp z=>by
  have a1:=(I2.pin p hp).1;exact absurd (aKk (aPy a1) (by rw[z];exact hC)) (agV _)
 have fin:Inv X pins (σ.set k (some (.ref l))) H' { s'' with heap:=h2 }:=US.turned (t':=s''.toks) (it:=C) (λb o hb e=>El.extBut b o hb e) hf hL (.inr (atR I2.sz hC)) ze Eu;exact⟨_,H',fin,hq⟩
theorem ZL{elt target iter:PySem.Expr}{pos:Pos}{wi:TI}{g:TG}{te:TE}(c:dj X scope N own js)(hc:X.calm=true)(hi:PI X target iter wi)
  (hg:∀cl C s0 H0 fp pins,PG (bH X N scope cl C s0 H0 fp pins) target g) (he:∀cl C s0 H0 fp pins,PE (bH X N scope cl C s0 H0 fp pins) elt te)
  (hs:∀x,foldedSetIterable iter X.env x=pure x:=by intro _;rfl):PE X (.ListComp elt [⟨target,iter,[],0⟩] scope pos) (nR own js wi g A5 te):=
 Uc c hc hi hg (λcl C s0 H0 fp pins bY s σ H Q I h=>wpAny_tests_nil ⟨H,I,h⟩) he hs
theorem Ua{elt target iter Ej:PySem.Expr}{pos:Pos}{wi:TI}{g:TG}{tc:TT}{te:TE}(c:dj X scope N own js)(hc:X.calm=true)(hi:PI X target iter wi)
  (hg:∀cl C s0 H0 fp pins,PG (bH X N scope cl C s0 H0 fp pins) target g) (ht:∀cl C s0 H0 fp pins,PT (bH X N scope cl C s0 H0 fp pins) Ej tc) (he:∀cl C s0 H0 fp pins,PE (bH X N scope cl C s0 H0 fp pins) elt te)
  (hs:∀x,foldedSetIterable iter X.env x=pure x:=by intro _;rfl):PE X (.ListComp elt [⟨target,iter,[Ej],0⟩] scope pos) (nR own js wi g tc te):=
 Uc c hc hi hg (λcl C s0 H0 fp pins bY s σ H Q I h=>wpAny_tests_one (ht cl C s0 H0 fp pins bY s σ H Q I h)) he hs
theorem Zic{elt target iter:PySem.Expr}{pos pos' spos:Pos}{y:Str}(k:Nat){wi:TI}{g:TG}{te:TE}(c:dj X scope N own js)(hc:X.calm=true)(hN:X.N.Nodup)(hk:X.N[k]?=some y)(hy:X.env.scope.names.lookup y=some .local)(hi:PI X target iter wi)
  (hg:∀cl C s0 H0 fp pins,PG (bH X N scope cl C s0 H0 fp pins) target g) (he:∀cl C s0 H0 fp pins,PE (bH X N scope cl C s0 H0 fp pins) elt te)
  (hs:∀x,foldedSetIterable iter X.env x=pure x:=by intro _;rfl)
  (hsw:swapsWith (.ListComp elt [⟨target,iter,[],0⟩] scope pos) (some (.Name y pos')) spos.line X.env=pure true:=by rfl):PS X (.Assign [.Name y pos'] (.ListComp elt [⟨target,iter,[],0⟩] scope pos) spos) (sy (nR own js wi g A5 te) (dJ k)):=
 Ub c hc hN hk hy hi hg (λcl C s0 H0 fp pins bY s σ H Q I h=>wpAny_tests_nil ⟨H,I,h⟩) he hs hsw
theorem Zid{elt target iter Ej:PySem.Expr}{pos pos' spos:Pos}{y:Str}(k:Nat){wi:TI}{g:TG}{tc:TT}{te:TE}(c:dj X scope N own js)(hc:X.calm=true)(hN:X.N.Nodup)(hk:X.N[k]?=some y)(hy:X.env.scope.names.lookup y=some .local)(hi:PI X target iter wi)
  (hg:∀cl C s0 H0 fp pins,PG (bH X N scope cl C s0 H0 fp pins) target g) (ht:∀cl C s0 H0 fp pins,PT (bH X N scope cl C s0 H0 fp pins) Ej tc) (he:∀cl C s0 H0 fp pins,PE (bH X N scope cl C s0 H0 fp pins) elt te)
  (hs:∀x,foldedSetIterable iter X.env x=pure x:=by intro _;rfl)
  (hsw:swapsWith (.ListComp elt [⟨target,iter,[Ej],0⟩] scope pos) (some (.Name y pos')) spos.line X.env=pure true:=by rfl):PS X (.Assign [.Name y pos'] (.ListComp elt [⟨target,iter,[Ej],0⟩] scope pos) spos) (sy (nR own js wi g tc te) (dJ k)):=
 Ub c hc hN hk hy hi hg (λcl C s0 H0 fp pins bY s σ H Q I h=>wpAny_tests_one (ht cl C s0 H0 fp pins bY s σ H Q I h)) he hs hsw
end
section
variable{X:Cx}{pins:List (Addr×Obj)}{σ:St}{H:Hp}{s:Shared}
theorem eT.Gn{P:Program}{w:World}{h h':Heap}{ch:List Addr}(hok:eT P w H h)(hn:∀b∈ch,H b=none)(k:∀b o,b∉ch->h.get? b=some o->h'.get? b=some o):eT P w H h':=λb ob e=>
 (hok b ob e).stay (λd u hd z=>k d u (λm=>by
  rcases hd with rfl|hd
  .rw [hn _ m]at e;cases e
  .rw [hn _ m]at hd;cases hd) z) (λ_ z=>z) λ_ _ z=>z
theorem Inv.kF{ch:List Addr}{h':Heap}{t':Nat}(I:Inv X pins σ H s)(hch:∀b∈ch,ko X pins H b)(k:∀b o,b∉ch->s.heap.get? b=some o->h'.get? b=some o) :
  Inv X pins σ H { s with heap:=h',toks:=t' }:=by
 have u:Un (frs X.stack) ch H H s.heap h':=⟨λb o q _ _ hx=>k b o hx q,λb o q _ _ hx=>⟨o.slots,k b o hx q⟩,λ_ _ _ n _=>n,λb o q hx=>⟨o,k b o hx q⟩,λ_ _ q=>q,λ_ _ _ q=>q,λ_ _ _ q=>q⟩;exact I.call (g':=s.gens) (d':=s.drawn) (t':=t') u (I.hok.Gn (λb hb=>(hch b hb).1) k) I.bare λb hb=>⟨(hch b hb).2.2.2.1,(hch b hb).2.1,(hch b hb).2.2.2.2.1,(hch b hb).2.2.2.2.2⟩
theorem Inv.sP{ch:List Addr}{h':Heap}{t':Nat}{o:HO}(I:Inv X pins σ H s)(hch:∀b∈ch,ko X pins H b)(k:∀b o,b∉ch->s.heap.get? b=some o->h'.get? b=some o)
  (new:aF X.prog X.w (upd H s.heap.objs.size o) h' s.heap.objs.size o):Inv X pins σ (upd H s.heap.objs.size o) { s with heap:=h',toks:=t' }:=by
 have fr:H s.heap.objs.size=none:=I.hok.fresh (aI1 _);have ne:∀b ob,s.heap.get? b=some ob->b≠s.heap.objs.size:=λb ob e=>aor (aPy e);have nt:∀b ob,H b=some ob->b≠s.heap.objs.size:=λb ob e=>Zf e fr;have u:Un (frs X.stack) ch H (upd H s.heap.objs.size o) s.heap h':=⟨λb o q _ _ hx=>k b o hx q,λb o q _ _ hx=>⟨o.slots,k b o hx q⟩,λb ob q n _=>by rw[Zc (ne b ob q)];exact n,λb o q hx=>⟨o,k b o hx q⟩,
  λb xs q=>by rw[Zc (nt b _ q)];exact q,λb ob xs q=>by rw[Zc (nt b _ q)];exact q,λb _ _ q=>by rw[Zc (nt b _ q)];exact q⟩
 have hok:eT X.prog X.w (upd H s.heap.objs.size o) h':=λb ob e=>by
  by_cases hb:b=s.heap.objs.size
  .subst hb;rw[Za]at e;cases e;exact new
  .rw [Zc hb]at e;refine(I.hok b ob e).stay (λd u hd z=>k d u (λm=>?_) z) (λd z=>by rw[Zc (nt d _ z)];exact z) (λd xs z=>by rw[Zc (nt d _ z)];exact z) λd oz z=>by rw[Zc (nt d _ z)];exact z
   have hn:=(hch d m).1;rcases hd with rfl|hd
   .rw [hn]at e;cases e
   .rw [hn]at hd;cases hd
 exact I.call (g':=s.gens) (d':=s.drawn) (t':=t') u hok I.bare λb hb=>⟨(hch b hb).2.2.2.1,(hch b hb).2.1,(hch b hb).2.2.2.2.1,(hch b hb).2.2.2.2.2⟩
end
theorem pF{a b:Nat}(h:a<b\/b<a):@Ne Addr a b:=λe=>by
 have e':a=b:=e;lia
theorem OB(n l1 l2:Nat)(h1:l1<n)(h2:l2<n):ZipApart (n+4) (n+2) (n+3) n (n+1) l1 l2:=
 ⟨pF (by lia),pF (by lia),pF (by lia),pF (by lia),pF (by lia),pF (by lia),pF (by lia),pF (by lia),pF (by lia),pF (by lia),pF (by lia),pF (by lia),pF (by lia),pF (by lia),pF (by lia),pF (by lia),pF (by lia),pF (by lia)⟩
def AV(K:W.Frag)(a b:Addr):It:=
 ⟨λi H=>∃xs ys x y,ao K H a xs/\ao K H b ys/\xs[i]?=some x/\ys[i]?=some y,
 λi H v H'=>∃t x y,H t=none/\v=.ref t/\H'=upd H t (.tup [x,y])/\(∀xs,ao K H a xs->xs[i]?=some x)/\∀ys,ao K H b ys->ys[i]?=some y,
 λi H=>∃xs ys,ao K H a xs/\ao K H b ys/\(xs.length<=i\/ys.length<=i)⟩
theorem Lh{h:Heap}{it l:Addr}{i:Nat}(x:h.IsListIter it l i):∃o,h.get? it=some o/\∀v,o.data≠.cell v:=by
 obtain⟨o,e,c,d⟩:=x;exact⟨o,e,λv z=>by rw[d]at z;cases z⟩
theorem T9{P:Program}{w:World}{K:W.Frag}{elts:List PySem.Expr}{x1}{pos:Pos}(z TI TO i1 i2 a b:Addr)(D:ZipApart z TI TO i1 i2 a b) :
  Turn P w K (.Tuple elts x1 pos) (AV K a b) [z,TI,TO,i1,i2] z (λi h=>IsZip h z TI TO .none/\IsPair h TI (.ref i1) (.ref i2)/\(∃u v,IsPair h TO u v)/\h.IsListIter i1 a i/\h.IsListIter i2 b i) where
 mem:=by simp
 obj:=λi h st c hc=>by
  obtain⟨hz,hTI,⟨u,v,hTO⟩,h1,h2⟩:=st;simp only[afg,aNV,aQw]at hc;rcases hc with rfl|rfl|rfl|rfl|rfl
  .exact ⟨_,hz,λv e=>by cases e⟩
  .exact ⟨_,hTI,λv e=>by cases e⟩
  .exact ⟨_,hTO,λv e=>by cases e⟩
  .exact Lh h1
  .exact Lh h2
 keep:=λi h h' st k=>by
  obtain⟨hz,hTI,⟨u,v,hTO⟩,h1,h2⟩:=st;exact⟨k z (by simp) _ hz,k TI (by simp) _ hTI,⟨u,v,k TO (by simp) _ hTO⟩,h1.at λo e=>k i1 (by simp) o e,h2.at λo e=>k i2 (by simp) o e⟩
 item:=by
  intro X hP hw hK hc i pins s σ H E I hf st hg;subst hP hw hK;obtain⟨xs,ys,x,y,sR,sQ,hx,hy⟩:=hg;obtain⟨hz,hTI,⟨u0,v0,hTO⟩,h1,h2⟩:=st;obtain⟨lR,ra,pa,za⟩:=I.list sR;obtain⟨m9,rb,pb,zb⟩:=I.list sQ;obtain⟨ux,hux,LQ⟩:=ra.get hx;obtain⟨uy,MN,LP⟩:=rb.get hy;refine wpAny_pyNext_zip_item D hz hTI hTO h1 h2 pa.isList pb.isList (x:=ux) (y:=uy) (by simpa using hux) (by simpa using MN) λh' a1 a2 a3 a4 a5 a6 a7=>?_;refine⟨.ref s.heap.objs.size,rfl,?_⟩;refine wpAny_letOwnedTupleGo_zip a1 λh2' hz' hs'=>?_;have yk:z<s.heap.objs.size:=aPy hz;have kk:∀c o,c∉[z,TI,TO,i1,i2]->s.heap.get? c=some o->h2'.get? c=some o:=λc o hc e=>by
   simp only[afg,aNV,aQw,not_or]at hc;exact hs'.extBut c o hc.1 (a7 c o hc.1 hc.2.2.1 hc.2.2.2.1 hc.2.2.2.2 e)
  have tp:h2'.get? s.heap.objs.size=some { cls:=.type "tuple",data:=.seq #[ux,uy] }:=hs'.extBut _ _ (aAe yk) a5;have I1:Inv X pins σ (upd H s.heap.objs.size (.tup [x,y])) { s with heap:=h2',toks:=s.toks }:=
   I.sP hf kk ⟨by show 2<=sizeLine;decide,[ux,uy],.cons LQ (.cons LP .nil),⟨_,tp,rfl,_,rfl⟩⟩
  have OR:h2'.get? TI=s.heap.get? TI:=by
   rw[hTI];exact hs'.extBut _ _ D.TIz (a7 _ _ D.TIz D.TITO D.TIi1 D.TIi2 hTI)
  refine⟨.ref s.heap.objs.size,_,I1,rfl,⟨s.heap.objs.size,x,y,I.hok.fresh (aI1 _),rfl,rfl,λxs' h=>by rw[I.fC h sR];exact hx,λys' h=>by rw[I.fC h sQ];exact hy⟩,⟨hz',?_,⟨ux,uy,hs'.extBut _ _ D.TOz a2⟩,a3.at λo e=>hs'.extBut _ o D.i1z e,a4.at λo e=>hs'.extBut _ o D.i2z e⟩,λc hc=>?_⟩
  .show h2'.get? TI=_;rw[OR];exact hTI
  .have hc':=hc;have hlt:c<s.heap.objs.size:=by
    simp only[afg,aNV,aQw]at hc';rcases hc' with rfl|rfl|rfl|rfl|rfl
    .exact yk
    .exact aPy hTI
    .exact aPy hTO
    .obtain ⟨o,e,_⟩:=Lh h1;exact aPy e
    .obtain ⟨o,e,_⟩:=Lh h2;exact aPy e
   rw[Zc (aor hlt)];exact(hf c hc).1
 done:=by
  intro X hP hw hK hc i pins s σ H E I hf st hg;subst hP hw hK;obtain⟨xs,ys,sR,sQ,hend⟩:=hg;obtain⟨hz,hTI,⟨u0,v0,hTO⟩,h1,h2⟩:=st;obtain⟨lR,ra,pa,za⟩:=I.list sR;obtain⟨m9,rb,pb,zb⟩:=I.list sQ;have la:=ra.length;have lb:=rb.length;refine wpAny_pyNext_zip_end (I.ok.hd hc) D hz hTI hTO h1 h2 pa.isList pb.isList ?_ λh' hk=>⟨rfl,?_⟩
  .rcases hend with q|q
   .exact .inl (by simp;lia)
   .exact .inr (by simp;lia)
  .refine I.kF (t':=s.toks) hf λc o hc e=>?_;simp only[afg,aNV,aQw,not_or]at hc;exact hk c o hc.1 hc.2.2.1 hc.2.2.2.1 hc.2.2.2.2 e
 self:=λ_ _ _ _ _ st h=>aMt st.1 h
def MG(K:W.Frag)(ta:TA):TI:=λσ H R=>ta σ H λvs H1=>∃a b,vs=[.ref a,.ref b]/\(∃xs,ao K H1 a xs)/\(∃ys,ao K H1 b ys)/\R (AV K a b) H1
section
variable{X:Cx}
theorem T8:bootBuiltins "zip"=some (.type "zip"):=by first|rfl|decide +kernel|kernel_rfl
theorem Zcv:bootBuiltins "enumerate"=some (.type "enumerate"):=by first|rfl|decide +kernel|kernel_rfl
theorem ZkG{elts:List PySem.Expr}{x1}{tpos:Pos}{a b:PySem.Expr}{ta:TA}{p pos:Pos}(hg:Gl X "zip")(hm:X.mg "zip"=none)(ha:PA X [a,b] ta)(hs:starEach [a,b] X.env=[(false,eval a X.env),(false,eval b X.env)]:=by rfl)(hs2:starEach [b] X.env=[(false,eval b X.env)]:=by rfl) :
  PI X (.Tuple elts x1 tpos) (.Call (.Name "zip" p) [a,b] [] pos) (MG X.K ta):=by
 intro pins s σ H R I h;refine Call_ (zl I hg hm T8 (amb (tS (ha pos pins s σ H _ I h) λus s1 vs H1 I1 r1 q1=>?_) (by rw[hs,hs2]) (by rw[hs2];rfl)));obtain⟨l1,l2,e,⟨xs,sR⟩,⟨ys,sQ⟩,q⟩:=q1;subst e;obtain⟨v1,v2,rfl,r,r'⟩:=vals2 r1;cases r;cases r';obtain⟨lR,ra,pa,za⟩:=I1.list sR;obtain⟨m9,rb,pb,zb⟩:=I1.list sQ;have yf:l1<s1.heap.objs.size:=by obtain⟨o,e,_⟩:=pa.isList;exact aPy e
 have CZ:l2<s1.heap.objs.size:=by obtain⟨o,e,_⟩:=pb.isList;exact aPy e
 refine call_zip_2 pa.isList pb.isList λh' g5 g3 g4 g1 g2 hsz kp=>aMt g5 ?_;refine⟨_,[_,_,_,_,_],_,_,H1,rfl,I1.kept (t':=s1.toks) kp,T9 _ _ _ _ _ l1 l2 (OB s1.heap.objs.size l1 l2 yf CZ),⟨g5,g3,⟨_,_,g4⟩,g1,g2⟩,λc hc=>?_,q⟩;have hc':s1.heap.objs.size<=c:=by
  simp only[afg,aNV,aQw]at hc;rcases hc with rfl|rfl|rfl|rfl|rfl <;> first|exact aI1 _|exact Nat.le_add_right _ _
 exact I1.sU hc' (I1.hok.fresh hc')
def Cr(K:W.Frag)(a:Addr):It:=
 ⟨λi H=>∃xs x,ao K H a xs/\xs[i]?=some x,
 λi H v H'=>∃t x,H t=none/\v=.ref t/\H'=upd H t (.tup [.int i,x])/\∀xs,ao K H a xs->xs[i]?=some x,
 λi H=>∃xs,ao K H a xs/\xs.length=i⟩
theorem ZgG{P:Program}{w:World}{K:W.Frag}{elts:List PySem.Expr}{x1}{pos:Pos}(e it a:Addr)(hei:e≠it)(Yj:a≠e)(hai:a≠it) :
  Turn P w K (.Tuple elts x1 pos) (Cr K a) [e,it] e (λi h=>(∃old,IsEnum h e it i old)/\h.IsListIter it a i) where
 mem:=by simp
 obj:=λi h st c hc=>by
  obtain⟨⟨old,he⟩,h1⟩:=st;simp only[afg,aNV,aQw]at hc;rcases hc with rfl|rfl
  .exact ⟨_,he,λv z=>by cases z⟩
  .obtain ⟨o,q,c,d⟩:=h1;exact⟨o,q,λv z=>by rw[d]at z;cases z⟩
 keep:=λi h h' st k=>by
  obtain⟨⟨old,he⟩,h1⟩:=st;exact⟨⟨old,k e (by simp) _ he⟩,h1.at λo q=>k it (by simp) o q⟩
 item:=by
  intro X hP hw hK hc i pins s σ H E I hf st hg;subst hP hw hK;obtain⟨xs,x,hq,hx⟩:=hg;obtain⟨⟨old,he⟩,h1⟩:=st;obtain⟨its,rv,p,hz⟩:=I.list hq;obtain⟨u,hu,ru⟩:=rv.get hx;have hlt:i<its.toArray.size:=by
   have:=(ajE.mp hu).1;simpa using this
  refine wpAny_pyNext_enum_itemD (Draws.list (A:=X.A.in1) (show X.A.in1.handled=none from I.ok.hd hc) it a hai its.toArray) he ⟨h1,p.isList⟩ hlt hei (by simp[hei,aWz Yj]) λv h' tk hP ho hs' hT hsz hk=>?_;have vH:v=u:=by
   have z:its[i]?=some v:=by simpa using hP
   rw[hu]at z;exact(asK z).symm
  subst vH;refine⟨.ref s.heap.objs.size,rfl,?_⟩;refine wpAny_letOwnedTupleGo_enum ho λh2 X8 El=>?_;have helt:e<s.heap.objs.size:=aPy he;have kk:∀c o,c∉[e,it]->s.heap.get? c=some o->h2.get? c=some o:=λc o hc q=>by
   simp only[afg,aNV,aQw,not_or]at hc;exact(El.2 c hc.1).trans (hk c o hc.1 hc.2 q)
  have tp:h2.get? s.heap.objs.size=some { cls:=.type "tuple",data:=.seq #[.int i tk,v] }:=(El.2 _ (aAe helt)).trans hT;have I1:Inv X pins σ (upd H s.heap.objs.size (.tup [.int i,x])) { s with heap:=h2,toks:=tk+1 }:=
   I.sP hf kk ⟨by show 2<=sizeLine;decide,[.int i tk,v],.cons ⟨tk,rfl⟩ (.cons ru .nil),⟨_,tp,rfl,_,rfl⟩⟩
  refine⟨.ref s.heap.objs.size,_,I1,rfl,⟨s.heap.objs.size,x,I.hok.fresh (aI1 _),rfl,rfl,λys hy=>by rw[I.fC hy hq];exact hx⟩,⟨⟨v,by simpa using X8⟩,hs'.1.at λo q=>(El.2 _ (aWz hei)).trans q⟩,λc hc=>?_⟩;have hlt':c<s.heap.objs.size:=by
   simp only[afg,aNV,aQw]at hc;rcases hc with rfl|rfl
   .exact helt
   .obtain ⟨o,q,_⟩:=h1;exact aPy q
  rw[Zc (aor hlt')];exact(hf c hc).1
 done:=by
  intro X hP hw hK hc i pins s σ H E I hf st hg;subst hP hw hK;obtain⟨xs,hq,hx⟩:=hg;obtain⟨⟨old,he⟩,h1⟩:=st;obtain⟨its,rv,p,hz⟩:=I.list hq;have hl:=rv.length;have ei:i=its.toArray.size:=by simp;lia
  subst ei;refine wpAny_pyNext_enum_endD (Draws.list (A:=X.A.in1) (show X.A.in1.handled=none from I.ok.hd hc) it a hai its.toArray) he ⟨h1,p.isList⟩ λh' hx'=>⟨rfl,?_⟩;refine I.kF (t':=s.toks) hf λc o hc q=>?_;simp only[afg,aNV,aQw,not_or]at hc;exact hx' c o hc.2 q
 self:=λ_ _ _ _ _ st h=>by
  obtain⟨⟨old,he⟩,_⟩:=st;exact wpAny_pyIter_enum he h
def Hw(K:W.Frag)(ta:TA):TI:=λσ H R=>ta σ H λvs H1=>∃a,vs=[.ref a]/\(∃xs,ao K H1 a xs)/\R (Cr K a) H1
theorem K3{elts:List PySem.Expr}{x1}{tpos:Pos}{a:PySem.Expr}{ta:TA}{p pos:Pos}(hg:Gl X "enumerate")(hm:X.mg "enumerate"=none)(ha:PA X [a] ta)(hs:starEach [a] X.env=[(false,eval a X.env)]:=by rfl) :
  PI X (.Tuple elts x1 tpos) (.Call (.Name "enumerate" p) [a] [] pos) (Hw X.K ta):=by
 intro pins s σ H R I h;refine Call_ (zl I hg hm Zcv (amb (tS (ha pos pins s σ H _ I h) λus s1 vs H1 I1 r1 q1=>?_) hs rfl));obtain⟨l,e,⟨xs,hq⟩,q⟩:=q1;subst e;cases r1 with
 |cons r rr=>
  cases rr;cases r;obtain⟨its,rv,pl,hz⟩:=I1.list hq;have yf:l<s1.heap.objs.size:=by obtain⟨o,e,_⟩:=pl.isList;exact aPy e
  refine call_enumerate_list pl.isList λh' he hi hsz hk=>?_;refine wpAny_pyIter_enum he ?_;refine⟨s1.heap.objs.size+1,[s1.heap.objs.size+1,s1.heap.objs.size],_,_,H1,rfl,I1.kept (t':=s1.toks) hk,ZgG (s1.heap.objs.size+1) s1.heap.objs.size l (Nat.succ_ne_self _) (pF (.inl (aqa yf))) (aor yf),⟨⟨_,he⟩,hi⟩,λc hc=>?_,q⟩;have hc':s1.heap.objs.size<=c:=by
   simp only[afg,aNV,aQw]at hc;rcases hc with rfl|rfl <;> lia
  exact I1.sU hc' (I1.hok.fresh hc')
end
def yW(H:Hp):V->Option String
 | .aO=>some "NoneType"
 | .bl _=>some "bool"
 | .int _=>some "int"
 | .str _=>some "str"
 | .ref a=>match H a with
  |some (.lst _)=>some "list"
  |some (.cU _ (.lst _))=>some "list"
  |some (.tup _)=>some "tuple"
  |some (.dK _)=>some "dict"
  |some (.dT _)=>some "dict"
  |_=>none
 |_=>none
theorem Sb{K:W.Frag}{H:Hp}{x:V}{t:String}(h:yW H x=some t):jg K H x (.type t):=by
 cases x with
 |aO=>cases h;exact .aO
 |bl b=>cases h;exact .bl b
 |int i=>cases h;exact .int i
 |str z=>cases h;exact .str z
 |ref a=>
  simp only[yW]at h;split at h
  .rename_i e;cases h;exact .lst e
  .rename_i e;cases h;exact .cU e
  .rename_i e;cases h;exact .tup e
  .rename_i e;cases h;exact .dK e
  .rename_i e;cases h;exact .dT e
  .cases h
 |_=>cases h
def kI(t c:String):Bool:=t ==c || (t =="bool" && c =="int")
def KJ:List String:=["NoneType","bool","int","str","list","tuple","dict"]
def DA:List String:=["bool","int","str","list","tuple","dict"]
theorem OA(K:W.Frag):∀t∈KJ,∀c∈DA,W.kitOne K (.type t) (.type c)=some (kI t c):=by
 intro t ht c hc;simp only[KJ,afg,aNV,aQw]at ht;simp only[DA,afg,aNV,aQw]at hc;rcases ht with rfl|rfl|rfl|rfl|rfl|rfl|rfl <;> rcases hc with rfl|rfl|rfl|rfl|rfl|rfl <;> rfl
theorem Uq{H:Hp}{x:V}{t:String}(h:yW H x=some t):t∈KJ:=by
 cases x with
 |aO=>cases h;decide
 |bl b=>cases h;decide
 |int i=>cases h;decide
 |str z=>cases h;decide
 |ref a=>
  simp only[yW]at h;split at h <;> first|(cases h;decide)|cases h
 |_=>cases h
section
variable{X:Cx}
inductive FY(xs:List V)(H:Hp)(Q:VK):Prop
 |mk (x t c:_):xs=[x,.ty c]->yW H x=some t->c∈DA->Q (.bl (kI t c)) H->FY xs H Q
theorem BY:aY X (.builtin "isinstance") FY:=by
 intro pins s σ H xs us Q I r h;obtain⟨x,t,c,rfl,ht,hc,q⟩:=h;obtain⟨u,w',rfl,rx,rc⟩:=vals2 r;cases rc;exact Zgt I rx (Sb ht) (OA X.K t (Uq ht) c hc) λtk=>⟨.bl _,H,I.tok tk,rfl,q⟩
inductive Bq(xs:List V)(H:Hp)(Q:VK):Prop
 |mk (x t c d p:_):xs=[x,.ref p]->H p=some (.tup [.ty c,.ty d])->yW H x=some t->c∈DA->d∈DA->Q (.bl (kI t c || kI t d)) H->Bq xs H Q
theorem Zie(K:W.Frag){t c d:String}(ht:t∈KJ)(hc:c∈DA)(hd:d∈DA):W.kitAny K (.type t) [.type c,.type d]=some (kI t c || kI t d):=by
 unfold W.kitAny;rw[OA K t ht c hc];cases kI t c with
 |true=>rfl
 |false=>
  show W.kitAny K (.type t) [.type d]=some (kI t d);unfold W.kitAny;rw[OA K t ht d hd];cases kI t d <;> rfl
theorem Up:aY X (.builtin "isinstance") Bq:=by
 intro pins s σ H xs us Q I r h;obtain⟨x,t,c,d,p,rfl,hp,ht,hc,hd,q⟩:=h;obtain⟨u,w',rfl,rx,rc⟩:=vals2 r;cases rc;obtain⟨_,its,rv,⟨o,ho,hcl,n,hdt⟩⟩:=(show aF X.prog X.w H s.heap p (.tup [.ty c,.ty d]) from I.hok p _ hp);obtain⟨u1,u2,rfl,r1,r2⟩:=vals2 rv;cases r1;cases r2;have e:=Zie X.K (Uq ht) hc hd;have fin:∀tk,EP X pins σ Q (.bool (kI t c || kI t d)) { s with toks:=tk }:=λtk=>⟨.bl _,H,I.tok tk,rfl,q⟩;have htp:s.heap.get? p=some ⟨.type "tuple",o.dict,.seq [Value.type c,Value.type d].toArray n,o.slots⟩:=by
  rw[ho];obtain⟨oc,od,odt,osl⟩:=o;cases hcl;cases hdt;rfl
 have ty:=Sb (K:=X.K) ht;generalize hT:Value.type t=T at ty e;cases ty with
 |aO=>cases(show u=Value.none from rx);exact aoq W.kitx_none I.dR True.intro htp e (λz=>nomatch z) fin
 |bl y=>cases(show u=Value.bool y from rx);exact aoq W.kitx_bool I.dR True.intro htp e (λz=>nomatch z) fin
 |int i=>obtain⟨t,q⟩:=(show ∃t,u=Value.int i t from rx);cases q;exact aoq W.kitx_int I.dR True.intro htp e (λz=>nomatch z) fin
 |str y=>obtain⟨t,q⟩:=(show ∃t,u=Value.str y t from rx);cases q;exact aoq W.kitx_str I.dR True.intro htp e (λz=>nomatch z) fin
 |Ay y=>obtain⟨t,q⟩:=(show ∃t,u=Value.float y t from rx);cases q;exact aoq W.kitx_float I.dR True.intro htp e (λz=>nomatch z) fin
 | @lst a xs ea=>
  cases(show u=Value.ref a from rx);obtain⟨_,_,n,_,h1⟩:=(show aF X.prog X.w H s.heap a (.lst xs) from I.hok a _ ea);exact aoq W.kitx_list I.dR ⟨_,h1,rfl⟩ htp e (λz=>nomatch z) fin
 | @cU a ob xs ea=>
  cases(show u=Value.ref a from rx);obtain⟨_,_,_,n,_,h1⟩:=(show aF X.prog X.w H s.heap a (.cU ob (.lst xs)) from I.hok a _ ea);exact aoq W.kitx_list I.dR ⟨_,h1,rfl⟩ htp e (λz=>nomatch z) fin
 | @tup a xs ea=>
  cases(show u=Value.ref a from rx);obtain⟨_,_,_,p⟩:=(show aF X.prog X.w H s.heap a (.tup xs) from I.hok a _ ea);obtain⟨o,h1,h2,_⟩:=p;exact aoq W.kitx_tuple I.dR ⟨o,h1,h2⟩ htp e (λz=>nomatch z) fin
 | @dK a kvs ea=>
  cases(show u=Value.ref a from rx);obtain⟨_,_,vs,_,p⟩:=(show aF X.prog X.w H s.heap a (.dK kvs) from I.hok a _ ea);obtain⟨o,es,ep,h1,h2,_⟩:=p;exact aoq W.kitx_dict I.dR ⟨o,h1,h2.1⟩ htp e (λz=>nomatch z) fin
 | @dT a kvs ea=>
  cases(show u=Value.ref a from rx);obtain⟨_,_,xs,_,o,es,ep,h1,h2,_⟩:=(show aF X.prog X.w H s.heap a (.dT kvs) from I.hok a _ ea);exact aoq W.kitx_dict I.dR ⟨o,h1,h2.1⟩ htp e (λz=>nomatch z) fin
 |ins e'=>cases hT
theorem zj:bootBuiltins "isinstance"=some (.builtin "isinstance"):=by first|rfl|decide +kernel|kernel_rfl
theorem IX:bootBuiltins "all"=some (.builtin "all"):=by first|rfl|decide +kernel|kernel_rfl
theorem OF:bootBuiltins "any"=some (.builtin "any"):=by first|rfl|decide +kernel|kernel_rfl
theorem T7:bootBuiltins "max"=some (.builtin "max"):=by first|rfl|decide +kernel|kernel_rfl
theorem Zif:bootBuiltins "min"=some (.builtin "min"):=by first|rfl|decide +kernel|kernel_rfl
theorem T6:bootBuiltins "abs"=some (.builtin "abs"):=by first|rfl|decide +kernel|kernel_rfl
theorem Zer:bootBuiltins "divmod"=some (.builtin "divmod"):=by first|rfl|decide +kernel|kernel_rfl
theorem La:bootBuiltins "int"=some (.type "int"):=by first|rfl|decide +kernel|kernel_rfl
theorem UE:bootBuiltins "bool"=some (.type "bool"):=by first|rfl|decide +kernel|kernel_rfl
theorem DL:bootBuiltins "str"=some (.type "str"):=by first|rfl|decide +kernel|kernel_rfl
theorem ZR:bootBuiltins "list"=some (.type "list"):=by first|rfl|decide +kernel|kernel_rfl
theorem OJ:bootBuiltins "tuple"=some (.type "tuple"):=by first|rfl|decide +kernel|kernel_rfl
theorem Oz:∀{bs:List Bool}{its:List Value},Vals (bs.map V.bl) its->its=bs.map Value.bool
 | [],_,.nil=>rfl
 |b ::bs,_,.cons r t=>by rw[Oz t];cases r;rfl
theorem UD{bs:List Bool}(f:Nat->Bool)(hf:∀i b,bs[i]?=some b->f i=b):(List.range bs.length).map f=bs:=by
 apply aO0;intro i;rw[afQ];by_cases h:i<bs.length
 .rw [ad4 h,a4h h];simp only[aIg];rw[hf i _ (a4h h)]
 .rw [aG2 (by simpa using h),aG2 (by lia)];rfl
theorem Je(hc:X.calm=true):aY X (.builtin "all") (λxs H Q=>∃(p:Addr)(bs:List Bool),xs=[.ref p]/\ao X.K H p (bs.map V.bl)/\Q (.bl (bs.all id)) H):=by
 intro pins s σ H xs us Q I r h;obtain⟨p,bs,rfl,hq,q⟩:=h;obtain⟨u,rfl,rx⟩:=vals1 r;cases rx;obtain⟨its,rv,pl,hz⟩:=I.list hq;have e:=Oz rv;subst e;refine call_all_walk (wpAny_pyIter_list pl.isList ?_);refine⟨s.heap.objs.size,_,[s.heap.objs.size],_,_,_,λi=>bs.getD i true,rfl,Walks.list (A:=X.A.in1) (show X.A.in1.handled=none from I.ok.hd hc) s.heap.objs.size p ?_ (bs.map Value.bool).toArray,⟨⟨_,awu _ rfl,rfl,rfl⟩,pl.isList.at λo e=>a8n _ e⟩,?_,?_⟩
 .obtain ⟨o,e,_⟩:=pl.isList;exact aor (aPy e)
 .intro i v s' Q' E' hP hQ;have vH:(bs.map Value.bool)[i]?=some v:=by simpa using hP
  rw[afQ]at vH;cases z:bs[i]? with
  |none=>rw[z]at vH;cases vH
  |some b=>
   rw[z]at vH;cases vH;have:bs.getD i true=b:=by rw[akz,z];rfl
   have HN:Q' (bs.getD i true) s':=hQ;rw[this]at HN;exact a3P HN
 .intro h' tk hk;refine⟨.bl (bs.all id),H,I.kept (t':=tk) (λb o e=>hk b o (by simpa using aor (aPy e)) (a8n _ e)),?_,q⟩;have z:(List.range bs.length).map (λi=>bs.getD i true)=bs:=UD _ λi b e=>by rw[akz,e];rfl
  have z2:(List.range bs.length).all (λi=>bs.getD i true)=bs.all id:=by
   conv=>rhs;rw[<-z]
   rw[List.all_map];rfl
  show Value.bool _=Value.bool _;have z3:(bs.map Value.bool).toArray.size=bs.length:=by simp
  rw[z3,z2]
theorem ZkH(lo:Int)(n:Nat):∀{acc:Array Value},ItemsOf (λi v=>∃t,v=.int (lo+i*1) t) acc n->Vals ((List.range n).map λi=>V.int (lo+(i:Nat))) acc.toList:=by
 intro acc h;obtain⟨hs,hi⟩:=h;have gen:∀(l:List Value)(k:Nat)(xs:List V),xs.length=l.length->(∀(j:Nat)(v:Value)(x:V),l[j]?=some v->xs[j]?=some x->RelV x v)->Vals xs l:=by
  intro l
  induction l with
  |nil=>intro k xs hl _;cases xs with|nil=>exact .nil|cons _ _=>simp at hl
  |cons u l ih=>
   intro k xs hl hr;cases xs with
   |nil=>simp at hl
   |cons x xs=>exact .cons (hr 0 u x rfl rfl) (ih k xs (by simpa using hl) λj v y e1 e2=>hr (j+1) v y (by simpa using e1) (by simpa using e2))
 refine gen _ 0 _ (by simp[hs]) λj v x e1 e2=>?_;have jF:acc[j]?=some v:=by simpa using e1
 obtain⟨t,rfl⟩:=hi j v jF;have hj:j<n:=by rw[<-hs];exact(Array.getElem?_eq_some_iff.mp jF).1
 rw[afQ,ad4 hj]at e2;cases e2;exact⟨t,by simp⟩
def ZfM(ta:TA):TE:=λσ H Q=>ta σ H λvs H1=>∃i j:Int,vs=[.int i,.int j]/\(-(2 ^ 62)<=i/\i<2 ^ 62 /\ -(2 ^ 62)<=j/\j<2 ^ 62)/\(j-i).toNat<=sizeLine /\
 ∀p,H1 p=none->Q (.ref p) (upd H1 p (.lst ((List.range (j-i).toNat).map λk=>V.int (i+(k:Nat)))))
theorem ZdQ{a b:PySem.Expr}{ta:TA}{p q pos pos2:Pos}(hc:X.calm=true)(X6:Gl X "list")(hm1:X.mg "list"=none)(hg:Gl X "range")(hm:X.mg "range"=none)(ha:PA X [a,b] ta)
  (hs:starEach [a,b] X.env=[(false,eval a X.env),(false,eval b X.env)]:=by rfl) (hs2:starEach [b] X.env=[(false,eval b X.env)]:=by rfl)
  (Kl:starEach [PySem.Expr.Call (.Name "range" p) [a,b] [] pos] X.env=[(false,eval (PySem.Expr.Call (.Name "range" p) [a,b] [] pos) X.env)]:=by rfl) :
  PE X (.Call (.Name "list" q) [.Call (.Name "range" p) [a,b] [] pos] [] pos2) (ZfM ta):=by
 intro pins s σ H Q I h;refine Call_ (zl I X6 hm1 ZR (amb (Q:=EP X pins σ Q) ?_ Kl rfl));rw[Kl];refine aUp (Call_ (zl I hg hm boot_range (amb (tS (ha pos pins s σ H _ I h) λus s1 vs H1 I1 r1 q1=>?_) (by rw[hs,hs2]) (by rw[hs2];rfl))));obtain⟨i,j,e,⟨q1,q2,q3,q4⟩,hz,q⟩:=q1;subst e;cases r1 with
 |cons r rr=>
  cases rr with
  |cons r' rr=>
   cases rr;obtain⟨t,rfl⟩:=r;obtain⟨t',rfl⟩:=r';refine call_range_2 (aEg ?_);have I2:Inv X pins σ H1 { s1 with heap:=s1.heap.push { cls:=.type "range",data:=.fields #[.int i t,.int j t',.int 1 s1.toks] },toks:=s1.toks+1 }:=I1.kept λb o e=>a8n _ e;have hsz:sizeLine=16777216:=aK9;refine call_list_range (n:=(j-i).toNat) (I.ok.hd hc) (IsRange.new ..) (small_one q1 q2 q3 q4) (by rw[rangeSize_one];split <;> lia) (by lia) λh' tk acc' c' hk hS hit=>?_;refine⟨.ref _,_,I2.laid (o:=.lst ((List.range (j-i).toNat).map λk=>V.int (i+(k:Nat)))) hk (aI1 _) ⟨by simpa using hz,acc'.toList,c',ZkH i _ hit,by simpa using hS⟩,rfl,q _ (I2.hok.fresh (aI1 _))⟩
end
structure Def(P:Program)(w:World)(K:W.Frag)(mg:Str->Option Value)(base:Heap)(x:Str)(k:Nat)(ps:List Str)(sp:Sp):Prop where
 ex:∃(f:Addr)(fd:FuncData),cM P w K mg base p8 k f fd ps sp/\mg x=some (.ref f)/\W.keepIn K (.ref f)=true/\Binds K fd ps []
section
variable{X:Cx}{x:Str}{p pos:Pos}{e:PySem.Expr}{es:List PySem.Expr}{t:TA}{k:Nat}{ps:List Str}{sp:Sp}
theorem ZkI(D:Def X.prog X.w X.K X.mg X.base x k ps sp)(hr:aX k X.A)(hg:Gl X x)(ha:PA X (e ::es) t)
  (he:starEach (e ::es) X.env=(false,eval e X.env) ::starEach es X.env:=by rfl) (hpl:(backTo pos (starEach es X.env)).any (·.1)=false:=by rfl) (hd:(x ==("__debug__":Str))=false:=by decide) :
  PE X (.Call (.Name x p) (e ::es) [] pos) (tV sp [] E0 t):=by
 obtain⟨f,fd,F,hm,hk,hb⟩:=D.ex;exact ZjA F hr hg hm hk hb .nil uJ ha (hdb:=hd) (he:=he) (hpl:=hpl)
end
theorem ZD{X:Cx}{K:W.Frag}{es:List PySem.Expr}{k:Nat}{t:Ce}{n:Nat}{pos:Pos}(hK:X.K=K)(hc:X.calm=true)(h:Jp X es t)
  (hn:(assignEach es X.env).length=n:=by rfl) (hst:(assignEach es X.env).findIdx? (·.1)=none:=by rfl):PG X (.Tuple es k pos) (HP K n t):=by
 subst hK;exact Zky hc h hn hst
def BS(gB:Scope)(oN:List Str)(scope:Scope)(N:List Str)(own:Nat)(js:List Nat):Bool:=
 scope.kind == .function && scope.names.all (λy=>y.2 != .cell || scope.names.lookup y.1 ==some .cell) && scope.names.all (λy=>y.2 != .local || scope.names.lookup y.1 ==some .local) &&
 scope.names.all (λy=>y.2 != .free || (gB.names.lookup y.1 ==some .cell || gB.names.lookup y.1 ==some .free)) && N.length ==own+js.length &&
 (js.map λj=>oN[j]?) ==(N.drop own).map some && (N.drop own).all λx=>scope.names.lookup x ==some .free
theorem Zx{X:Cx}{gB:Scope}{oN:List Str}{scope:Scope}{N:List Str}{own:Nat}{js:List Nat}(h:BS gB oN scope N own js=true)(hs:X.env.scope=gB)(hN:X.N=oN):dj X scope N own js:=by
 unfold BS at h;simp only[aix,aT6,Bool.or_eq_true,av8,bne_iff_ne,ne_eq]at h;obtain⟨⟨⟨⟨⟨⟨h1,h2⟩,h3⟩,h4⟩,h5⟩,h6⟩,h7⟩:=h;refine⟨h1,λy hy hl=>?_,λy hy hl=>?_,λy hy hf=>?_,h5,λk j e=>?_,λk x e=>?_⟩
 .rcases h2 y hy with q|q
  .exact absurd hl q
  .exact q
 .rcases h3 y hy with q|q
  .exact absurd hl q
  .exact q
 .rcases h4 y hy with q|q
  .exact absurd hf q
  .show X.env.scope.names.lookup y.1=_\/X.env.scope.names.lookup y.1=_;rw[hs];exact q
 .rw [hN];have z:=agz (λl=>l[k]?) h6;simp only[afQ,e,aIg,getElem?_drop]at z;cases q:N[own+k]? with
  |none=>rw[q]at z;cases z
  |some y=>rw[q]at z;exact(asK z).symm
 .refine h7 x ?_;exact aHL (i:=k) (by rw[getElem?_drop];exact e)
def SB(b:Addr)(H H':Hp):Prop:=∀a o,a≠b->H a=some o->H' a=some o
theorem SB.trans{b:Addr}{H H1 H2:Hp}(x:SB b H H1)(y:SB b H1 H2):SB b H H2:=λa o n h=>y a o n (x a o n h)
theorem av.sb{H H':Hp}(x:av H H')(b:Addr):SB b H H':=λa o _ h=>x a o h
theorem EH(b:Addr)(H:Hp)(o:HO):SB b H (upd H b o):=λa u n h=>by rw[Zc n];exact h
theorem Zd{H:Hp}{p:Addr}(h:H p=none)(o:HO):av H (upd H p o):=λb u q=>by rw[Zc (Zf q h)];exact q
def gu(n:Nat)(l:Addr)(Pv:Nat->List V->St->Hp->Prop)(i:Nat)(ys:List V)(σ:St)(y:V)(H:Hp):Prop:=
 H l=some (.lst ys)/\ys.length<sizeLine/\∃m',m'<n-i/\(m'=n-(i+1)/\i+1<=n/\(ys++[y]).length<=i+1/\Pv (i+1) (ys++[y]) σ (upd H l (.lst (ys++[y]))))
def yV(n:Nat)(Pv:Nat->List V->St->Hp->Prop)(i:Nat)(ys:List V)(σ:St)(H:Hp):Prop:=∃m',m'<n-i/\(m'=n-(i+1)/\i+1<=n/\ys.length<=i+1/\Pv (i+1) ys σ H)
theorem gu.of{n:Nat}{l:Addr}{Pv:Nat->List V->St->Hp->Prop}{i:Nat}{ys:List V}{σ:St}{y:V}{H:Hp}(hn:n<=sizeLine)(hi:i<n)(hy:ys.length<=i)(h1:H l=some (.lst ys))(h2:Pv (i+1) (ys++[y]) σ (upd H l (.lst (ys++[y])))):gu n l Pv i ys σ y H:=
 ⟨h1,by lia,n-(i+1),by lia,rfl,hi,by rw[akn,aze];lia,h2⟩
theorem yV.of{n:Nat}{Pv:Nat->List V->St->Hp->Prop}{i:Nat}{ys:List V}{σ:St}{H:Hp}(hi:i<n)(hy:ys.length<=i)(h2:Pv (i+1) ys σ H):yV n Pv i ys σ H:=
 ⟨n-(i+1),by lia,rfl,hi,by lia,h2⟩
theorem DM{lo:Int}{n:Nat}{l:Addr}{g:TG}{tc:TT}{te:TE}{σ0:St}{H0:Hp}{Qf:Hp->Prop}(Pv:Nat->List V->St->Hp->Prop)(h0:Pv 0 [] σ0 H0)
  (hs:∀i ys σ' H',i<n->ys.length<=i->Pv i ys σ' H'->g (.int (lo+i)) σ' H' λσ2 H3=>tc σ2 H3 λb H4=>if b=true then te σ2 H4 λy H5=>gu n l Pv i ys σ2 y H5 else yV n Pv i ys σ2 H4)
  (hd:∀ys σ' H',ys.length<=n->Pv n ys σ' H'->Qf H') :
  ∃W:Nat->Nat->List V->St->Hp->Prop,(∃m,W 0 m [] σ0 H0)/\∀i m ys σ' H',W i m ys σ' H' ->
  ((AW lo n).stop i H'/\Qf H')\/((AW lo n).go i H'/\∀x H2,(AW lo n).sr i H' x H2->g x σ' H2 λσ2 H3=>tc σ2 H3 λb H4=>
    if b=true then te σ2 H4 λy H5=>H5 l=some (.lst ys)/\ys.length<sizeLine/\∃m',m'<m/\W (i+1) m' (ys++[y]) σ2 (upd H5 l (.lst (ys++[y])))
    else ∃m',m'<m/\W (i+1) m' ys σ2 H4):=by
 refine⟨λi m ys σ' H'=>m=n-i/\i<=n/\ys.length<=i/\Pv i ys σ' H',⟨n,rfl,acY _,aI1 _,h0⟩,?_⟩;rintro i m ys σ' H' ⟨rfl,hi,hy,p⟩;by_cases hlt:i<n
 .refine .inr ⟨hlt,λx H2 q=>?_⟩;obtain⟨rfl,rfl⟩:=q;exact hs i ys σ' _ hlt hy p
 .have e:i=n:=by lia
  subst e;exact .inl ⟨aI1 _,hd ys σ' H' hy p⟩
theorem DK{K:W.Frag}{a:Addr}{xs:List V}{l:Addr}{g:TG}{tc:TT}{te:TE}{σ0:St}{H0:Hp}{Qf:Hp->Prop}(Pv:Nat->List V->St->Hp->Prop)(h0:Pv 0 [] σ0 H0)
  (hl:∀i ys σ' H',i<=xs.length->Pv i ys σ' H'->ao K H' a xs)
  (hs:∀i x ys σ' H',i<xs.length->xs[i]?=some x->ys.length<=i->Pv i ys σ' H'->g x σ' H' λσ2 H3=>tc σ2 H3 λb H4=>if b=true then te σ2 H4 λy H5=>gu xs.length l Pv i ys σ2 y H5 else yV xs.length Pv i ys σ2 H4)
  (hd:∀ys σ' H',ys.length<=xs.length->Pv xs.length ys σ' H'->Qf H') :
  ∃W:Nat->Nat->List V->St->Hp->Prop,(∃m,W 0 m [] σ0 H0)/\∀i m ys σ' H',W i m ys σ' H' ->
  ((Cq K a).stop i H'/\Qf H')\/((Cq K a).go i H'/\∀x H2,(Cq K a).sr i H' x H2->g x σ' H2 λσ2 H3=>tc σ2 H3 λb H4=>
    if b=true then te σ2 H4 λy H5=>H5 l=some (.lst ys)/\ys.length<sizeLine/\∃m',m'<m/\W (i+1) m' (ys++[y]) σ2 (upd H5 l (.lst (ys++[y])))
    else ∃m',m'<m/\W (i+1) m' ys σ2 H4):=by
 refine⟨λi m ys σ' H'=>m=xs.length-i/\i<=xs.length/\ys.length<=i/\Pv i ys σ' H',⟨xs.length,rfl,acY _,aI1 _,h0⟩,?_⟩;rintro i m ys σ' H' ⟨rfl,hi,hy,p⟩;have q:=hl i ys σ' H' hi p;by_cases hlt:i<xs.length
 .refine .inr ⟨⟨xs,xs[i],q,by simp[hlt]⟩,λx H2 z=>?_⟩;obtain⟨rfl,z⟩:=z;exact hs i x ys σ' _ hlt (z xs q) hy p
 .have e:i=xs.length:=by lia
  subst e;exact .inl ⟨⟨xs,q,aI1 _⟩,hd ys σ' H' hy p⟩
theorem Zig{K:W.Frag}{a b:Addr}{xs zs:List V}{l:Addr}{g:TG}{tc:TT}{te:TE}{σ0:St}{H0:Hp}{Qf:Hp->Prop}(hlen:xs.length=zs.length)(Pv:Nat->List V->St->Hp->Prop)(h0:Pv 0 [] σ0 H0)
  (hl:∀i ys σ' H',i<=xs.length->Pv i ys σ' H'->ao K H' a xs/\ao K H' b zs)
  (hs:∀i x z t ys σ' H',i<xs.length->xs[i]?=some x->zs[i]?=some z->ys.length<=i->Pv i ys σ' H'->H' t=none->g (.ref t) σ' (upd H' t (.tup [x,z])) λσ2 H3=>tc σ2 H3 λb H4=>if b=true then te σ2 H4 λy H5=>gu xs.length l Pv i ys σ2 y H5 else yV xs.length Pv i ys σ2 H4)
  (hd:∀ys σ' H',ys.length<=xs.length->Pv xs.length ys σ' H'->Qf H') :
  ∃W:Nat->Nat->List V->St->Hp->Prop,(∃m,W 0 m [] σ0 H0)/\∀i m ys σ' H',W i m ys σ' H' ->
  ((AV K a b).stop i H'/\Qf H')\/((AV K a b).go i H'/\∀x H2,(AV K a b).sr i H' x H2->g x σ' H2 λσ2 H3=>tc σ2 H3 λb H4=>
    if b=true then te σ2 H4 λy H5=>H5 l=some (.lst ys)/\ys.length<sizeLine/\∃m',m'<m/\W (i+1) m' (ys++[y]) σ2 (upd H5 l (.lst (ys++[y])))
    else ∃m',m'<m/\W (i+1) m' ys σ2 H4):=by
 refine⟨λi m ys σ' H'=>m=xs.length-i/\i<=xs.length/\ys.length<=i/\Pv i ys σ' H',⟨xs.length,rfl,acY _,aI1 _,h0⟩,?_⟩;rintro i m ys σ' H' ⟨rfl,hi,hy,p⟩;have q:=hl i ys σ' H' hi p;by_cases hlt:i<xs.length
 .have hz:i<zs.length:=by lia
  refine .inr ⟨⟨xs,zs,xs[i],zs[i],q.1,q.2,by simp[hlt],by simp[hz]⟩,λx H2 z=>?_⟩;obtain⟨t,u,v,ht,rfl,rfl,z1,z2⟩:=z;exact hs i u v t ys σ' _ hlt (z1 xs q.1) (z2 zs q.2) hy p ht
 .have e:i=xs.length:=by lia
  subst e;exact .inl ⟨⟨xs,zs,q.1,q.2,.inl (aI1 _)⟩,hd ys σ' H' hy p⟩
theorem T5{K:W.Frag}{a:Addr}{xs:List V}{g:TG}{tb:TS}{D:Ends}{σ:St}{H:Hp}(Pv:Nat->St->Hp->Prop)(h0:Pv 0 σ H)(hl:∀i σ H,i<=xs.length->Pv i σ H->ao K H a xs)
  (hs:∀i x t σ H,xs[i]?=some x->Pv i σ H->H t=none->g (.ref t) σ (upd H t (.tup [.int i,x])) λσ2 H2=>tb { D with nx:=Pv (i+1),ct:=Pv (i+1),bk:=D.nx } σ2 H2) (hd:∀ σ H,Pv xs.length σ H->D.nx σ H) :
  ∃W:Nat->Nat->St->Hp->Prop,(∃m,W 0 m σ H)/\∀i m σ H,W i m σ H ->
   ((Cr K a).stop i H/\D.nx σ H)\/((Cr K a).go i H/\∃N:St->Hp->Prop,(∀ σ' H',N σ' H'->∃m',m'<m/\W (i+1) m' σ' H')/\∀x H',(Cr K a).sr i H x H'->g x σ H' λσ2 H2=>tb { D with nx:=N,ct:=N,bk:=D.nx } σ2 H2):=by
 refine⟨λi m σ H=>m=xs.length-i/\i<=xs.length/\Pv i σ H,⟨xs.length,by simp,acY _,h0⟩,?_⟩;rintro i m σ H ⟨rfl,hi,p⟩;have q:=hl i σ H hi p;by_cases hlt:i<xs.length
 .refine .inr ⟨⟨xs,xs[i],q,by simp[hlt]⟩,Pv (i+1),λσ' H' p'=>⟨xs.length-(i+1),by lia,rfl,hlt,p'⟩,λx H' y=>?_⟩;obtain⟨t,u,ht,rfl,rfl,y⟩:=y;exact hs i u t σ _ (y xs q) p ht
 .have e:i=xs.length:=by lia
  subst e;exact .inl ⟨⟨xs,q,rfl⟩,hd σ H p⟩
theorem cO{α:Type}{x:α}{xs:List α}:eG (x ::xs) 0=some x:=wm (j:=0) rfl
theorem gI{α:Type}{x y:α}{xs:List α}:eG (x ::y ::xs) 1=some y:=wm (j:=1) rfl
theorem je{α:Type}{x y z:α}{xs:List α}:eG (x ::y ::z ::xs) 2=some z:=wm (j:=2) rfl
theorem Iu{α:Type}{x y z u:α}{xs:List α}:eG (x ::y ::z ::u ::xs) 3=some u:=wm (j:=3) rfl
theorem yE{p A B:Prop}[Decidable p](h1:p->A)(h2:¬p->B):if decide p=true then A else B:=by
 by_cases h:p
 .rw [auJ (a5h h)];exact h1 h
 .rw [ale (by rw[aKy h];exact a0V)];exact h2 h
section
variable{X:Cx}
theorem yF{x:Str}{i:Int}{pos:Pos}(h:∃t,X.mg x=some (.int i t))(hg:Gl X x)(hd:(x ==("__debug__":Str))=false:=by decide):PE X (.Name x pos) (tC (.int i)):=by
 obtain⟨t,e⟩:=h;exact S9 hg e ⟨t,rfl⟩ hd
end
def NS:PySem.Expr->Prop
 | .Starred _ _=>False
 |_=>True
theorem zg{e:PySem.Expr}{es:List PySem.Expr}{env:Env}(h:NS e):starEach (e ::es) env=(false,eval e env) ::starEach es env:=by
 cases e <;> first|rfl|exact h.elim
def AR:List PySem.Expr->Prop
 | []=>True
 |e ::es=>NS e/\AR es
theorem DF{pos:Pos}{env:Env}:∀{es:List PySem.Expr},AR es->(backTo pos (starEach es env)).any (·.1)=false
 | [],_=>rfl
 |e ::es,h=>by
  rw[zg h.1];have ih:=DF (pos:=pos) (env:=env) h.2;simp only[backTo]at ih ⊢;simpa using ih
section
variable{X:Cx}{x:Str}{p pos:Pos}{e:PySem.Expr}{es:List PySem.Expr}{te:TE}{t:TA}{k:Nat}{ps:List Str}{sp:Sp}{id T:String}{r:List V->Hp->VK->Prop}
theorem pc(ha:PE X e te)(hr:PA X es t)(hn:NS e:=by exact True.intro):PA X (e ::es) (A7 te t):=Zjz ha hr (zg hn)
theorem Zm(D:Def X.prog X.w X.K X.mg X.base x k ps sp)(hr:aX k X.A)(hg:Gl X x)(ha:PA X (e ::es) t)(hn:AR (e ::es):=by repeat' (first|exact True.intro|refine⟨?_,?_⟩))(hd:(x ==("__debug__":Str))=false:=by decide) :
  PE X (.Call (.Name x p) (e ::es) [] pos) (tV sp [] E0 t):=ZkI D hr hg ha (zg hn.1) (DF hn.2) hd
theorem Zo(hc:aY X (.builtin id) r)(hg:Gl X x)(hm:X.mg x=none)(hv:bootBuiltins x=some (.builtin id))(ha:PA X (e ::es) t)(hnn:AR (e ::es):=by repeat' (first|exact True.intro|refine⟨?_,?_⟩))(hn:x ≠ "__name__":=by decide)(hdb:(x ==("__debug__":Str))=false:=by decide) :
  PE X (.Call (.Name x p) (e ::es) [] pos) (JM r t):=Zia hc hg hm hv ha hn hdb (zg hnn.1) (DF hnn.2)
theorem ZE(hc:aY X (.type T) r)(hg:Gl X x)(hm:X.mg x=none)(hv:bootBuiltins x=some (.type T))(ha:PA X (e ::es) t)(hnn:AR (e ::es):=by repeat' (first|exact True.intro|refine⟨?_,?_⟩))(hn:x ≠ "__name__":=by decide)(hdb:(x ==("__debug__":Str))=false:=by decide) :
  PE X (.Call (.Name x p) (e ::es) [] pos) (JM r t):=Zgv hc hg hm hv ha hn hdb (zg hnn.1) (DF hnn.2)
end
theorem T4{K:W.Frag}{a:Addr}{xs:List V}{l:Addr}{g:TG}{tc:TT}{te:TE}{σ0:St}{H0:Hp}{Qf:Hp->Prop}(Pv:Nat->List V->St->Hp->Prop)(h0:Pv 0 [] σ0 H0)
  (hl:∀i ys σ' H',i<=xs.length->Pv i ys σ' H'->aP K H' a xs)
  (hs:∀i x ys σ' H',i<xs.length->xs[i]?=some x->ys.length<=i->Pv i ys σ' H'->g x σ' H' λσ2 H3=>tc σ2 H3 λb H4=>if b=true then te σ2 H4 λy H5=>gu xs.length l Pv i ys σ2 y H5 else yV xs.length Pv i ys σ2 H4)
  (hd:∀ys σ' H',ys.length<=xs.length->Pv xs.length ys σ' H'->Qf H') :
  ∃W:Nat->Nat->List V->St->Hp->Prop,(∃m,W 0 m [] σ0 H0)/\∀i m ys σ' H',W i m ys σ' H' ->
  ((Cp K a).stop i H'/\Qf H')\/((Cp K a).go i H'/\∀x H2,(Cp K a).sr i H' x H2->g x σ' H2 λσ2 H3=>tc σ2 H3 λb H4=>
    if b=true then te σ2 H4 λy H5=>H5 l=some (.lst ys)/\ys.length<sizeLine/\∃m',m'<m/\W (i+1) m' (ys++[y]) σ2 (upd H5 l (.lst (ys++[y])))
    else ∃m',m'<m/\W (i+1) m' ys σ2 H4):=by
 refine⟨λi m ys σ' H'=>m=xs.length-i/\i<=xs.length/\ys.length<=i/\Pv i ys σ' H',⟨xs.length,rfl,acY _,aI1 _,h0⟩,?_⟩;rintro i m ys σ' H' ⟨rfl,hi,hy,p⟩;have q:=hl i ys σ' H' hi p;by_cases hlt:i<xs.length
 .refine .inr ⟨⟨xs,xs[i],q,by simp[hlt]⟩,λx H2 z=>?_⟩;obtain⟨rfl,z⟩:=z;exact hs i x ys σ' _ hlt (z xs q) hy p
 .have e:i=xs.length:=by lia
  subst e;exact .inl ⟨⟨xs,q,aI1 _⟩,hd ys σ' H' hy p⟩
section
variable{X:Cx}{K:W.Frag}
theorem Zl(hK:X.K=K):Ju X (zR K):=hK ▸ZjF
theorem ZH(hK:X.K=K):Ju X (xF K):=hK ▸ZkE
theorem OE(hK:X.K=K):OT X (CB K):=hK ▸ZjG
theorem Ji(hK:X.K=K):jH X (compareOp .In) (FZ K false):=hK ▸ZgA
theorem OP(hK:X.K=K):jH X (compareOp .NotIn) (FZ K true):=hK ▸ZdJ
theorem ZF(hK:X.K=K):aY X (.builtin "len") (λxs H Q=>∃p ys,xs=[.ref p]/\(ao K H p ys\/aP K H p ys)/\Q (.int ys.length) H):=hK ▸ZdK
theorem Lj(hK:X.K=K):aY X (.type "list") (λxs H Q=>∃p ys,xs=[.ref p]/\(ao K H p ys\/aP K H p ys)/\∀l,H l=none->Q (.ref l) (upd H l (.lst ys))):=hK ▸ZdL
theorem Zcw(hK:X.K=K):aY X (.type "tuple") (λxs H Q=>∃p ys,xs=[.ref p]/\((ao K H p ys/\∀l,H l=none->Q (.ref l) (upd H l (.tup ys)))\/(aP K H p ys/\Q (.ref p) H))):=hK ▸ZcU
theorem ZfN{ns ms:List Int}(h:ns.length=ms.length):(List.range ns.length).all (λj=>ns.getD j 0 ==ms.getD j 0)=decide (ns=ms):=by
 rw[a1D,aT6,aJH];constructor
 .intro z;refine List.ext_getElem h λj h1 h2=>?_;have:=z j (agO.mpr h1);rw[akz,akz,a4h h1,a4h h2]at this;simpa using this
 .rintro rfl j _;simp
inductive CC(K:W.Frag) (neg:Bool)(x:V)(y:V)(H:Hp)(Q:VK):Prop
 |mk (a b:Addr) (ns ms:List Int):x=.ref a->y=.ref b->ao K H a (ns.map V.int)->ao K H b (ms.map V.int)->Q (.bl (if neg then !decide (ns=ms) else decide (ns=ms))) H->CC K neg x y H Q
theorem ZgH{A:Around}{s:Shared}{ns:List Int}{us:List Value}(r:Vals (ns.map V.int) us){ms:List Int}{ws:List Value}(r2:Vals (ms.map V.int) ws)(j:Nat)(h1:j<us.toArray.size)(h2:j<ws.toArray.size):SeqAt.EqAt A s us.toArray[j] ws.toArray[j] (ns.getD j 0 ==ms.getD j 0):=by
 have l1:ns.length=us.length:=by have:=r.length;rwa [apM]at this
 have l2:ms.length=ws.length:=by have:=r2.length;rwa [apM]at this
 have k1:j<ns.length:=by rw[l1];simpa using h1
 have k2:j<ms.length:=by rw[l2];simpa using h2
 obtain⟨u,hu,ru⟩:=r.get (i:=j) (x:=.int ns[j]) (by rw[afQ,a4h k1];rfl);obtain⟨v,hv,rv⟩:=r2.get (i:=j) (x:=.int ms[j]) (by rw[afQ,a4h k2];rfl);obtain⟨t,rfl⟩:=ru;obtain⟨t',rfl⟩:=rv;have e1:us.toArray[j]=.int ns[j] t:=by
  have:us[j]?=some us[j]:=a4h (by simpa using h1);rw[hu]at this;simpa using(asK this).symm
 have e2:ws.toArray[j]=.int ms[j] t':=by
  have:ws[j]?=some ws[j]:=a4h (by simpa using h2);rw[hv]at this;simpa using(asK this).symm
 rw[e1,e2,akz,akz,a4h k1,a4h k2];exact SeqAt.EqAt.int_int _ _ _ _
theorem Sa(hu:X.A.units<cLine)(hK:X.K=K):jH X (compareOp .NotEq) (CC K true):=by
 subst hK;intro pins s σ H x y v u Q I rx ry h;obtain⟨a,b,ns,ms,rfl,rfl,ha,hb,q⟩:=h;cases rx;cases ry;obtain⟨its,r1,p1,_⟩:=I.list ha;obtain⟨its2,r2,p2,_⟩:=I.list hb;have l1:ns.length=its.length:=by have:=r1.length;rwa [apM]at this
 have l2:ms.length=its2.length:=by have:=r2.length;rwa [apM]at this
 by_cases hl:ns.length=ms.length
 .refine SeqAt.RcNeAt.lists (e:=λj=>ns.getD j 0 ==ms.getD j 0) p1.isList p2.isList (by simp;lia) hu (λj h1 h2=>ZgH r1 r2 j h1 h2) X.prog X.w X.xe _ ⟨.bl _,H,I,rfl,?_⟩;rw[a6x,<-l1,ZfN hl];exact q
 .refine SeqAt.RcNeAt.lists_lengths p1.isList p2.isList (by simp;lia) hu X.prog X.w X.xe _ ⟨.bl true,H,I,rfl,?_⟩;have e:decide (ns=ms)=false:=aKy λz=>hl (by rw[z]);rw[e]at q;exact q
end
end L2
namespace HT
open PySem PyProof.Rows
section
open PySem.SeqAt
open PySem.AutoSeq1 (wpAny_loadPart')
open PySem.MeetsSeq PySem.MeetsSeq2 PySem.MeetsSeq3
end
end HT
namespace L2
open PySem PySem.Spec PyProof.Rows
theorem R9{h:Heap}{a:Addr}{us:Array Value}(x:IsTup h a us):a<h.objs.size:=by
 obtain⟨o,ho,_⟩:=x;exact aPy ho
section
variable{X:Cx}
inductive uB(x:V)(vs:List V)(H:Hp)(Q:VK):Prop
 |mk (l:Addr) (ns:List Int) (k:Int):x=.ref l->vs=[.int k]->H l=some (.lst (ns.map V.int))->k∈ns->Q .aO (upd H l (.lst ((ns.erase k).map V.int)))->uB x vs H Q
theorem T3(k:Int):∀(ns:List Int),k∈ns->∃j,ns[j]?=some k/\(∀m z,m<j->ns[m]?=some z->z≠k)/\ns.erase k=ns.eraseIdx j
 | [],h=>nomatch h
 |x ::ns,h=>by
  by_cases hx:x=k
  .subst hx;exact⟨0,rfl,λm z hm=>absurd hm (Nat.not_lt_zero _),by rw[aiO,List.eraseIdx_cons_zero]⟩
  .have hm:k∈ns:=by
    rcases awk.mp h with e|e
    .exact absurd e.symm hx
    .exact e
   obtain⟨j,h1,h2,h3⟩:=T3 k ns hm;refine⟨j+1,by simpa using h1,λm z hm hz=>?_,?_⟩
   .cases m with
    |zero=>
     have e:x=z:=by simpa using hz
     rw[<-e];exact hx
    |succ m=>exact h2 m z (by lia) (by simpa using hz)
   .rw [List.erase_cons_tail (by simpa using hx),h3,ahU]
theorem ZfO{xs:List V}{us:List Value}:∀(j:Nat),Vals xs us->Vals (xs.eraseIdx j) (us.eraseIdx j):=by
 intro j r
 induction r generalizing j with
 |nil=>exact .nil
 |cons h t ih=>
  cases j with
  |zero=>exact t
  |succ j=>exact .cons h (ih j)
theorem Uo:O3 X "list.remove" uB:=by
 intro pins s σ H x vs v us Q I rx rv h;obtain⟨l,ns,k,rfl,rfl,hH,hk,q⟩:=h;cases rx;obtain⟨u,rfl,ru⟩:=rv.one;obtain⟨tk,rfl⟩:=ru;obtain⟨z,its,n,r,hl,e⟩:=I.sN hH;rw[apM]at hl z;obtain⟨j,h1,h2,h3⟩:=T3 k ns hk;have get:∀(m:Nat)(hm:m<its.toArray.size),∃(i:Int)(t:Tok),ns[m]?=some i/\its.toArray[m]=.int i t:=λm hm=>by
  have hm':m<ns.length:=by rw[hl];simpa using hm
  obtain⟨w,hw,rw'⟩:=r.get (i:=m) (x:=.int ns[m]) (by rw[afQ,a4h hm'];rfl);obtain⟨t,rfl⟩:=rw';refine⟨ns[m],t,a4h hm',?_⟩;have:its[m]?=some its[m]:=a4h (by simpa using hm);rw[hw]at this;simpa using(asK this).symm
 have hj:j<its.toArray.size:=by
  have:=(ajE.mp h1).1;rw[hl]at this;simpa using this
 refine call_meets F.slot_list_remove ⟨_,e,rfl⟩ F.entry_list_remove (F.args_list_remove_2 _ _) (MeetsSeq.list_remove l its.toArray n (.int k tk) (λy=>match y with| .int i _=>i ==k|_=>false) (λy hy=>?_) j hj ?_ (λm hm XZ=>?_) (by rw[a6x,<-hl];exact z)) ⟨e,?_⟩
 .obtain ⟨m,hm,rfl⟩:=Array.getElem_of_mem hy;obtain⟨i,t,_,e2⟩:=get m hm;rw[e2];exact MeetsSeq.EqGives.int i k t tk
 .obtain ⟨i,t,e1,e2⟩:=get j hj;rw[h1]at e1;cases e1;rw[e2];simp
 .obtain ⟨i,t,e1,e2⟩:=get m hm;rw[e2];simpa using h2 m i XZ e1
 .refine ⟨.aO,_,I.vE (its':=its.eraseIdx j) (ys:=(ns.erase k).map V.int) hH e ?_ ?_ ?_,rfl,q⟩
  .rw [List.eraseIdxIfInBounds_toArray]
  .rw [h3];have em:∀(xs:List Int)(i:Nat),(xs.eraseIdx i).map V.int=(xs.map V.int).eraseIdx i:=λxs=>by
    induction xs with
    |nil=>intro i;rfl
    |cons y xs ih=>intro i;cases i with
     |zero=>rfl
     |succ i=>rw[ahU,aB5,aB5,ahU,ih]
   rw[em];exact ZfO j r
  .rw [apM];exact atR List.length_erase_le z
end
section
variable{κ:Type}[DecidableEq κ]
def aK(kvs:List (κ×V))(k:κ):Option V:=(kvs.find? λkv=>decide (kv.1=k)).map (·.2)
def putK(kvs:List (κ×V))(k:κ)(v:V):List (κ×V):=
 if(kvs.any λkv=>decide (kv.1=k))=true then kvs.map (λkv=>if kv.1=k then(kv.1,v) else kv) else kvs++[(k,v)]
def aU(kvs:List (κ×V))(k:κ):List (κ×V):=kvs.filter λkv=>decide (kv.1≠k)
theorem ZO{p:κ×V}{r:List (κ×V)}{k:κ}(e:p.1=k):aK (p ::r) k=some p.2:=by simp[aK,aqP,e]
theorem ZM{p:κ×V}{r:List (κ×V)}{k:κ}(e:¬p.1=k):aK (p ::r) k=aK r k:=by simp[aK,aqP,e]
theorem IW(k:κ):∀kvs:List (κ×V),(kvs.any λkv=>decide (kv.1=k))=(aK kvs k).isSome
 | []=>rfl
 |p ::r=>by
  rw[any_cons];by_cases e:p.1=k
  .simp only[ZO e,a5h e,Bool.true_or,Option.isSome_some]
  .rw [ZM e,aKy e,Bool.false_or];exact IW k r
theorem TZ(k j:κ)(y:V):∀kvs:List (κ×V),aK (kvs.map λkv=>if kv.1=k then(kv.1,y) else kv) j=(aK kvs j).map λx=>if j=k then y else x
 | []=>rfl
 |p ::r=>by
  have ih:=TZ k j y r;rw[aB5];by_cases h:p.1=k
  .rw [auJ h];by_cases e:p.1=j
   .rw [ZO (p:=(p.1,y)) e,ZO e,aIg,auJ (e.symm.trans h)]
   .rw [ZM (p:=(p.1,y)) e,ZM e,ih]
  .rw [ale h];by_cases e:p.1=j
   .rw [ZO (p:=p) e,ZO e,aIg,ale (λz=>h (e.trans z))]
   .rw [ZM (p:=p) e,ZM e,ih]
theorem Um(k j:κ)(y:V):∀kvs:List (κ×V),aK kvs k=none->aK (kvs++[(k,y)]) j=if j=k then some y else aK kvs j
 | [],_=>by
  by_cases e:k=j
  .rw [auJ e.symm];exact ZO (p:=(k,y)) e
  .rw [ale (λz=>e z.symm)];exact ZM (p:=(k,y)) e
 |p ::r,hn=>by
  rw[apU];have hk:¬p.1=k:=λz=>by rw[ZO z]at hn;cases hn
  rw[ZM hk]at hn;have ih:=Um k j y r hn;by_cases e:p.1=j
  .rw [ZO e,ZO e,ale (λz=>hk (e.trans z))]
  .rw [ZM e,ZM e,ih]
theorem ER(kvs:List (κ×V))(k j:κ)(y:V):aK (putK kvs k y) j=if j=k then some y else aK kvs j:=by
 unfold putK;by_cases a:(kvs.any λkv=>decide (kv.1=k))=true
 .rw [auJ a,TZ];rw[IW]at a;by_cases e:j=k
  .obtain ⟨x,hx⟩:=Option.isSome_iff_exists.mp a;rw[auJ e,e,hx,aIg,auJ rfl]
  .rw [ale e];cases aK kvs j with
   |none=>rfl
   |some x=>rw[aIg,ale e]
 .rw [ale a];refine Um k j y kvs ?_;rw[IW]at a;cases q:aK kvs k with
  |none=>rfl
  |some x=>rw[q]at a;exact(a rfl).elim
theorem Ja(kvs:List (κ×V))(k:κ)(v:V):(putK kvs k v).length<=kvs.length+1:=by
 unfold putK;split
 .rw [apM];lia
 .rw [akn,aCx,List.length_nil];lia
theorem dN.i8{o:Option V}{u:Option Value}(r:dN o u):o.isSome=u.isSome:=by
 cases o with
 |none=>cases u with
  |none=>rfl
  |some _=>exact(show False from r).elim
 |some _=>cases u with
  |none=>exact(show False from r).elim
  |some _=>rfl
theorem dN.getD{o:Option V}{u:Option Value}{d:V}{d':Value}(r:dN o u)(rd:RelV d d'):RelV (o.getD d) (u.getD d'):=by
 cases o with
 |none=>cases u with
  |none=>exact rd
  |some _=>exact(show False from r).elim
 |some _=>cases u with
  |none=>exact(show False from r).elim
  |some _=>exact r
theorem KV.val{kvs:List (κ×V)}{vs:List (κ×Value)}(r:KV kvs vs)(k:κ):dN (aK kvs k) (valueAt vs k):=by
 unfold KV at r
 induction r with
 |nil=>exact True.intro
 | @cons p q ps qs h t ih=>
  obtain⟨h1,h2⟩:=h;by_cases e:p.1=k
  .have e':q.1=k:=h1.symm.trans e;have b:valueAt (q ::qs) k=some q.2:=by simp[valueAt,aqP,e']
   rw[ZO e,b];exact h2
  .have e':¬q.1=k:=λz=>e (h1.trans z);have b:valueAt (q ::qs) k=valueAt qs k:=by simp[valueAt,aqP,e']
   rw[ZM e,b];exact ih
theorem KV.any{kvs:List (κ×V)}{vs:List (κ×Value)}(r:KV kvs vs)(k:κ):(kvs.any λkv=>decide (kv.1=k))=vs.any λkv=>decide (kv.1=k):=by
 unfold KV at r
 induction r with
 |nil=>rfl
 |cons h t ih=>rw[any_cons,any_cons,ih,h.1]
theorem KV.repl{kvs:List (κ×V)}{vs:List (κ×Value)}(r:KV kvs vs)(k:κ){y:V}{u:Value}(ry:RelV y u) :
  KV (kvs.map λkv=>if kv.1=k then(kv.1,y) else kv) (vs.map λkv=>if kv.1=k then(kv.1,u) else kv):=by
 unfold KV at r ⊢
 induction r with
 |nil=>exact .nil
 | @cons p q ps qs h t ih=>
  rw[aB5,aB5];refine .cons ?_ ih;obtain⟨h1,h2⟩:=h;by_cases e:p.1=k
  .rw [auJ e,auJ (h1.symm.trans e)];exact⟨h1,ry⟩
  .rw [ale e,ale (λz=>e (h1.trans z))];exact⟨h1,h2⟩
theorem KV.put{kvs:List (κ×V)}{vs:List (κ×Value)}(r:KV kvs vs)(k:κ){y:V}{u:Value}(ry:RelV y u):KV (putK kvs k y) (stored vs k u):=by
 unfold putK stored;rw[r.any k];by_cases e:(vs.any λkv=>decide (kv.1=k))=true
 .rw [auJ e,auJ e];exact r.repl k ry
 .rw [ale e,ale e];exact Paired.snoc r ⟨rfl,ry⟩
theorem KV.drop{kvs:List (κ×V)}{vs:List (κ×Value)}(r:KV kvs vs)(k:κ):KV (aU kvs k) (without vs k):=by
 unfold KV at r ⊢;unfold aU without
 induction r with
 |nil=>exact .nil
 | @cons p q ps qs h t ih=>
  obtain⟨h1,h2⟩:=h;rw[aDS,aDS];by_cases e:p.1=k
  .have a:¬decide (p.1≠k)=true:=by simp[e]
   have b:¬decide (q.1≠k)=true:=by simp[h1.symm.trans e]
   rw[ale a,ale b];exact ih
  .have e':¬q.1=k:=λz=>e (h1.trans z);have a:decide (p.1≠k)=true:=by simp[e]
   have b:decide (q.1≠k)=true:=by simp[e']
   rw[auJ a,auJ b];exact .cons ⟨h1,h2⟩ ih
theorem KV.length{kvs:List (κ×V)}{vs:List (κ×Value)}(r:KV kvs vs):kvs.length=vs.length:=aL0 r
theorem Zih(kvs:List (κ×V))(k:κ):(aU kvs k).length<=kvs.length:=a81 _ _
end
theorem lQ{P:Program}{w:World}{k:Key}{u:Value}(r:RelV (kV k) u):(Zy P w).is k u=true:=by
 cases k with
 |inl i=>obtain⟨t,e⟩:=(show ∃t,u=Value.int i t from r);subst e;exact Zel P w i t
 |inr x=>obtain⟨t,e⟩:=(show ∃t,u=Value.str x t from r);subst e;exact Zem P w x t
theorem Ul{P:Program}{w:World}:∀{ks:List Key}{us:List Value},Vals (ks.map kV) us->ItemsAre (Zy P w) ks us
 | [],_,r=>by rw[map_nil]at r;cases r;exact .nil
 |k ::ks,_,r=>by
  rw[aB5]at r;cases r with
  |cons h t=>exact .cons (lQ h) (Ul t)
abbrev KT(H:Hp):List (List Key×V)->List (List Key×Addr×Value)->Prop:=Paired λp q=>p.1=q.1/\H q.2.1=some (.tup (p.1.map kV))/\RelV p.2 q.2.2
theorem KT.val{H:Hp}{kvs:List (List Key×V)}{xs:List (List Key×Addr×Value)}(r:KT H kvs xs)(k:List Key):dN (aK kvs k) ((atKey xs k).map (·.2)):=by
 induction r with
 |nil=>exact True.intro
 | @cons p q ps qs h t ih=>
  obtain⟨h1,_,h2⟩:=h;by_cases e:p.1=k
  .have e':q.1=k:=h1.symm.trans e;have b:atKey (q ::qs) k=some q.2:=by simp[atKey,aqP,e']
   rw[ZO e,b];exact h2
  .have e':¬q.1=k:=λz=>e (h1.trans z);have b:atKey (q ::qs) k=atKey qs k:=by simp[atKey,aqP,e']
   rw[ZM e,b];exact ih
theorem KT.repl{H:Hp}{kvs:List (List Key×V)}{xs:List (List Key×Addr×Value)}(r:KT H kvs xs)(k:List Key){y:V}{u:Value}(ry:RelV y u) :
  KT H (kvs.map λkv=>if kv.1=k then(kv.1,y) else kv) (xs.map (putAt k u)):=by
 induction r with
 |nil=>exact .nil
 | @cons p q ps qs h t ih=>
  rw[aB5,aB5];refine .cons ?_ ih;obtain⟨h1,h2,h3⟩:=h;unfold putAt;by_cases e:p.1=k
  .rw [auJ e,auJ (h1.symm.trans e)];exact⟨h1,h2,ry⟩
  .rw [ale e,ale (λz=>e (h1.trans z))];exact⟨h1,h2,h3⟩
theorem KT.put{H:Hp}{kvs:List (List Key×V)}{xs:List (List Key×Addr×Value)}(r:KT H kvs xs)(k:List Key){b:Addr}{y:V}{u:Value}(hb:H b=some (.tup (k.map kV)))(ry:RelV y u) :
  KT H (putK kvs k y) (storedH xs k b u):=by
 have e:(kvs.any λkv=>decide (kv.1=k))=(atKey xs k).isSome:=by
  rw[IW,(r.val k).i8,Option.isSome_map]
 unfold putK storedH;rw[e];by_cases q:(atKey xs k).isSome=true
 .rw [auJ q,auJ q];exact r.repl k ry
 .rw [ale q,ale q];exact Paired.snoc r ⟨rfl,hb,ry⟩
theorem KT.keeps{H H':Hp}{kvs:List (List Key×V)}{xs:List (List Key×Addr×Value)}(r:KT H kvs xs)(ht:∀b ys,H b=some (.tup ys)->H' b=some (.tup ys)):KT H' kvs xs:=
 Paired.CY r λ_ _ z=>⟨z.1,ht _ _ z.2.1,z.2.2⟩
section
variable{P:Program}{w:World}{H:Hp}{h:Heap}{a:Addr}
theorem Bm{u:HO}(ok:eT P w H h)(e:Rd H a u):aF P w H h a u:=e.ok ok
theorem oA{kvs:List (Key×V)}(ok:eT P w H h)(e:Rd H a (.dK kvs)):kvs.length<=sizeLine/\(a ==sysModules)=false/\∃vs,KV kvs vs/\h.DictOf (Zy P w) a vs:=
 show aF P w H h a (.dK kvs) from Bm ok e
theorem yx{kvs:List (Key×V)}(ok:eT P w H h)(e:H a=some (.dK kvs)):kvs.length<=sizeLine/\(a ==sysModules)=false/\∃vs,KV kvs vs/\h.DictOf (Zy P w) a vs:=oA ok (.inl e)
theorem IB{ks:List Key}(ok:eT P w H h)(e:H a=some (.tup (ks.map kV))):(tupleKind (Zy P w)).is h ks a:=by
 obtain⟨_,its,r,o,h1,h2,n,h3⟩:=(show aF P w H h a (.tup (ks.map kV)) from ok a _ e);exact⟨o,its.toArray,n,h1,h2,h3,by simpa using Ul r⟩
theorem ow{kvs:List (List Key×V)}(ok:eT P w H h)(e:Rd H a (.dT kvs)):kvs.length<=sizeLine/\(a ==sysModules)=false /\
  ∃xs,KT H kvs xs/\h.DictOfH (tupleKind (Zy P w)) a xs:=by
 obtain⟨z,y,xs,r,o,es,ep,h1,h2,h3,h4,h5⟩:=(show aF P w H h a (.dT kvs) from Bm ok e);refine⟨z,y,xs,r,o,es,ep,h1,h2,h3,h4,λx hx=>?_,h5⟩;have all:∀{l:List (List Key×V)}{m:List (List Key×Addr×Value)},KT H l m->∀x∈m,(tupleKind (Zy P w)).is h x.1 x.2.1:=by
  intro l m q
  induction q with
  |nil=>intro x hx;exact nomatch hx
  | @cons p q ps qs hq t ih=>
   intro x hx;rcases awk.mp hx with e|hx
   .subst e;exact IB ok (by rw[<-hq.1];exact hq.2.1)
   .exact ih x hx
 exact all r x hx
theorem Ib{kvs:List (List Key×V)}(ok:eT P w H h)(e:H a=some (.dT kvs)):kvs.length<=sizeLine/\(a ==sysModules)=false /\
  ∃xs,KT H kvs xs/\h.DictOfH (tupleKind (Zy P w)) a xs:=ow ok (.inl e)
end
def dg(H:Hp)(a:Addr)(y:V)(r:Option V):Prop:=
 (∃kvs k,Rd H a (.dK kvs)/\y=kV k/\r=aK kvs k)\/∃kvs k b,Rd H a (.dT kvs)/\y=.ref b/\H b=some (.tup (k.map kV))/\r=aK kvs k
def mF(H:Hp)(a:Addr)(y v:V)(H':Hp):Prop:=
 (∃kvs k,H a=some (.dK kvs)/\y=kV k/\kvs.length<sizeLine/\H'=upd H a (.dK (putK kvs k v))) \/
 ∃kvs k b,H a=some (.dT kvs)/\y=.ref b/\H b=some (.tup (k.map kV))/\kvs.length<sizeLine/\H'=upd H a (.dT (putK kvs k v))
theorem dg.k{H:Hp}{a:Addr}{kvs:List (Key×V)}{k:Key}(e:H a=some (.dK kvs)):dg H a (kV k) (aK kvs k):=.inl ⟨kvs,k,.inl e,rfl,rfl⟩
theorem mF.k{H:Hp}{a:Addr}{kvs:List (Key×V)}{k:Key}{v:V}(e:H a=some (.dK kvs))(hl:kvs.length<sizeLine):mF H a (kV k) v (upd H a (.dK (putK kvs k v))):=.inl ⟨kvs,k,e,rfl,hl,rfl⟩
section
variable{X:Cx}{pins:List (Addr×Obj)}{σ:St}{H:Hp}{s:Shared}{a:Addr}{y v:V}{u r:Value}{o:Option V}{A:Around}{E:Value->Shared->Prop}
theorem Inv.big(I:Inv X pins σ H s):sysModules<s.heap.objs.size:=by
 have h:mainGlobals<s.heap.objs.size:=(I.mod.glob.keeps I.bk).lt;exact a7K (by decide) h
theorem Uk{Q:Value->Shared->Prop}(hu:A.units+1<cLine)(I:Inv X pins σ H s)(g:dg H a y (some v))(ry:RelV y u)(h:∀w' s',Inv X pins σ H s'->RelV v w'->Q w' s') :
  wpAny (model X.prog X.w) A (getItem (.ref a) u) Q E s:=by
 rcases g with⟨kvs,k,e,ey,l⟩|⟨kvs,k,b,e,ey,eb,l⟩
 .subst ey;obtain⟨z,hd,vs,rel,dd⟩:=oA I.hok e;obtain⟨w',hw,rw'⟩:=dN.some_of (v:=v) (o:=valueAt vs k) (by rw[l];exact rel.val k);exact wpAny_getItem_of (lQ ry) dd.mapOf hw (h w' _ (I.tok _) rw')
 .subst ey;cases(show u=Value.ref b from ry);obtain⟨z,hd,xs,rel,dd⟩:=ow I.hok e;obtain⟨w',hw,rw'⟩:=dN.some_of (v:=v) (o:=(atKey xs k).map (·.2)) (by rw[l];exact rel.val k);obtain⟨p,hp,hp2⟩:=Option.map_eq_some_iff.mp hw;refine wpAny_getItem_heap (ae1 hu) (IB I.hok eb) dd hp ?_;rw[hp2];exact h w' _ (I.tok _) rw'
theorem Ny{Q:Value->Shared->Prop}(hu:A.units+1<cLine)(I:Inv X pins σ H s)(g:dg H a y o)(ry:RelV y u)(h:∀s',Inv X pins σ H s'->Q (.bool o.isSome) s') :
  wpAny (model X.prog X.w) A (compareOp .In u (.ref a)) Q E s:=by
 rcases g with⟨kvs,k,e,ey,l⟩|⟨kvs,k,b,e,ey,eb,l⟩
 .subst ey;obtain⟨z,hd,vs,rel,dd⟩:=oA I.hok e;refine wpAny_in_of (lQ ry) hd dd.mapOf ?_;rw[<-(rel.val k).i8,<-l];exact h _ (I.tok _)
 .subst ey;cases(show u=Value.ref b from ry);obtain⟨z,hd,xs,rel,dd⟩:=ow I.hok e;refine wpAny_in_heap (ae1 hu) (IB I.hok eb) hd dd ?_;have q:=(rel.val k).i8;rw[Option.isSome_map]at q;rw[<-q,<-l];exact h _ (I.tok _)
theorem NZ{h':Heap}{t':Nat}{ob:HO}(I:Inv X pins σ H s)(mu:Jt (H a))(hs:Heap.SameBut a s.heap h')(he:∃q,h'.get? a=some q)(new:aF X.prog X.w (upd H a ob) h' a ob) :
  Inv X pins σ (upd H a ob) { s with heap:=h',toks:=t' }:=
 I.write (x:=a) (e:=a) mu (.inl rfl) (λb q hb z=>(hs.2 b hb).trans z) he new
theorem R8{P:Program}{w:World}{H':Hp}{h':Heap}{kvs:List (Key×V)}{vs:List (Key×Value)}(z:kvs.length<=sizeLine)(hd:(a ==sysModules)=false)(rel:KV kvs vs)(dd:h'.DictOf (Zy P w) a vs) :
  aF P w H' h' a (.dK kvs):=⟨z,hd,vs,rel,dd⟩
theorem Uj{H':Hp}{Q:Unit->Shared->Prop}(hu:A.units+1<cLine)(I:Inv X pins σ H s)(g:mF H a y v H')(ry:RelV y u)(rv:RelV v r)(h:∀s',Inv X pins σ H' s'->Q () s') :
  wpAny (model X.prog X.w) A (setItem (.ref a) u r) Q E s:=by
 rcases g with⟨kvs,k,e,ey,l,eH⟩|⟨kvs,k,b,e,ey,eb,l,eH⟩
 .subst ey eH;obtain⟨z,hd,vs,rel,dd⟩:=yx I.hok e;have hz:vs.length<=sizeLine:=by rw[<-rel.length];exact z
  have hl:(putK kvs k v).length<=sizeLine:=by have:=Ja kvs k v;lia
  refine wpAny_setItem_pairs (hsz:=hz) (lQ ry) dd λh' Du hs=>h _ ?_;have he:∃q,h'.get? a=some q:=let⟨q,_,_,hq,_⟩:=Du;⟨q,hq⟩;exact NZ I (by rw[e];exact True.intro) hs he (R8 hl hd (rel.put k rv) Du)
 .subst ey eH;cases(show u=Value.ref b from ry);obtain⟨z,hd,xs,rel,dd⟩:=Ib I.hok e;have hz:xs.length<=sizeLine:=by rw[<-aL0 rel];exact z
  have hl:(putK kvs k v).length<=sizeLine:=by have:=Ja kvs k v;lia
  refine wpAny_setItem_heap (hsz:=hz) (ae1 hu) (IB I.hok eb) dd λh' Du hs=>h _ ?_;obtain⟨q,es,ep,hq,h2,h3,h4,_,h5⟩:=Du;refine NZ I (by rw[e];exact True.intro) hs ⟨q,hq⟩ ⟨hl,hd,_,(rel.put k eb rv).keeps λc ys ec=>?_,q,es,ep,hq,h2,h3,h4,h5⟩;rw[Zc (uM ec e (λz=>nomatch z))];exact ec
end
section
variable{X:Cx}{pins:List (Addr×Obj)}{σ:St}{H:Hp}{s:Shared}{a:Addr}{kvs:List (Key×V)}{k:Key}{u:Value}{A:Around}{E:Value->Shared->Prop}
theorem BR{v:V}{more:List Value}{Q:Value->Shared->Prop}(I:Inv X pins σ H s)(e:H a=some (.dK kvs))(ry:RelV (kV k) u)(l:aK kvs k=some v)(hm:more=[]\/∃x,more=[x])
  (h:∀w' s',Inv X pins σ (upd H a (.dK (aU kvs k))) s'->RelV v w'->Q w' s'):wpAny (model X.prog X.w) A (call (.builtin "dict.pop") (.ref a ::u ::more)) Q E s:=by
 obtain⟨z,hd,vs,rel,dd⟩:=yx I.hok e;obtain⟨w',hw,rw'⟩:=dN.some_of (v:=v) (o:=valueAt vs k) (by rw[<-l];exact rel.val k);have hp:(keyPart u).isSome=true:=by
  cases k with
  |inl i=>obtain⟨t,q⟩:=(show ∃t,u=Value.int i t from ry);subst q;rfl
  |inr x=>obtain⟨t,q⟩:=(show ∃t,u=Value.str x t from ry);subst q;rfl
 have ha:argsOk "dict.pop" ⟨.ref a ::u ::more,[]⟩:=by
  rcases hm with q|⟨x,q⟩
  .subst q;exact PySem.F.args_dict_pop_2 _ _
  .subst q;exact PySem.F.args_dict_pop_3 _ _ _
 refine call_meetsIn a8l dd.typeIs PySem.F.entry_dict_pop ha (meets_dict_pop_there (Zy X.prog X.w) a (lQ ry) more hm hp)
  ⟨vs,w',dd,by rw[<-rel.length];exact z,hw,λh' Du hs=>h w' _ ?_ rw'⟩
 have he:∃q,h'.get? a=some q:=let⟨q,_,_,hq,_⟩:=Du;⟨q,hq⟩;exact NZ I (by rw[e];exact True.intro) hs he (R8 (atR (Zih kvs k) z) hd (rel.drop k) Du)
theorem ZkJ{r:Value}{Q:Value->Shared->Prop}(I:Inv X pins σ H s)(e:H a=some (.dK kvs))(ry:RelV (kV k) u)(l:aK kvs k=none)(h:∀s',Inv X pins σ H s'->Q r s') :
  wpAny (model X.prog X.w) A (call (.builtin "dict.pop") [.ref a,u,r]) Q E s:=by
 obtain⟨z,hd,vs,rel,dd⟩:=yx I.hok e;have hn:valueAt vs k=none:=dN.none_of (by rw[<-l];exact rel.val k);have hp:(keyPart u).isSome=true:=by
  cases k with
  |inl i=>obtain⟨t,q⟩:=(show ∃t,u=Value.int i t from ry);subst q;rfl
  |inr x=>obtain⟨t,q⟩:=(show ∃t,u=Value.str x t from ry);subst q;rfl
 exact call_meetsIn a8l dd.typeIs PySem.F.entry_dict_pop (PySem.F.args_dict_pop_3 _ _ _) (meets_dict_pop_default (Zy X.prog X.w) a (lQ ry) hd hp r) ⟨vs,dd,hn,h _ (I.tok _)⟩
end
def Jq(i:Expr):Prop:=∀ov iv,subscripted i false ov iv=operate [ov,iv] (getItem ov iv)
theorem ZjI{prog:Program}{w:World}{A:Around}{E:Value->Shared->Prop}{s:Shared}{env:Env}{value slice:Expr}{pos:Pos}{T id:String}{Q:Value->Shared->Prop}
  (hl:typeLookup (.type T) "__getitem__"=pure (some (.builtin id))) (hs:Jq slice)
  (h:wpAny (model prog w) A (eval value env) (λo s₁=>wpAny (model prog w) A (eval slice env) (λi s₂=>s₂.TypeIs o T/\wpAny (model prog w) A (getItem o i) Q E s₂) E s₁) E s) :
  wpAny (model prog w) A (eval (.Subscript value slice pos) env) Q E s:=by
 refine Subscript_ (aZU h (λo s₁ h₁=>aZU h₁ (λi s₂ h₂=>?_) λ_ _ x=>x) λ_ _ x=>x);obtain⟨hT,h₂⟩:=h₂;unfold subscriptTail;refine a3A ?_;rw[getitemInPython_of_ne hT.not_modules];refine a3A (wpAny_specialOf hT hl ?_);have fin:wpAny (model prog w) A (subscripted slice false o i) (λr s₃=>wpAny (model prog w) A (letTemporaryGo value o r >>= λ_=>pure r) Q E s₃) E s₂:=by
  rw[hs o i];exact wpAny_operating (aZU h₂ (λr s₃ h₃=>a3A (wpAny_letTemporaryGo (aLE h₃))) λ_ _ x=>x)
 first
  |exact aLE (a3A fin)
  |exact a3A (aLE (a3A fin))
  |exact a3A fin
theorem Zet{X:Cx}{pins:List (Addr×Obj)}{σ:St}{H:Hp}{s:Shared}{a:Addr}{y:V}{o:Option V}(I:Inv X pins σ H s)(g:dg H a y o):s.TypeIs (.ref a) "dict":=by
 rcases g with⟨kvs,k,e,_,_⟩|⟨kvs,k,b,e,_,_,_⟩
 .obtain ⟨_,_,vs,_,dd⟩:=oA I.hok e;exact dd.typeIs
 .obtain ⟨_,_,xs,_,dd⟩:=ow I.hok e;exact dd.typeIs
def FF(td ty:TE):TE:=λσ H Q=>td σ H λx H1=>ty σ H1 λy H2=>∃a v,x=.ref a/\dg H2 a y (some v)/\Q v H2
def LH(ty td:TE):TE:=λσ H Q=>ty σ H λy H1=>td σ H1 λx H2=>∃a o,x=.ref a/\dg H2 a y o/\Q (.bl o.isSome) H2
def FP(td ty tv:TE):TS:=λD σ H=>tv σ H λv H1=>td σ H1 λx H2=>ty σ H2 λy H3=>∃a H4,x=.ref a/\mF H3 a y v H4/\D.nx σ H4
def FQ(td ty tv:TE)(rd:V->V->Hp->VK->Prop):TS:=λD σ H=>td σ H λx H1=>ty σ H1 λy H2=>∃a v,x=.ref a/\dg H2 a y (some v) /\
 tv σ H2 λy2 H3=>rd v y2 H3 λz H4=>∃H5,mF H4 a y z H5/\D.nx σ H5
section
variable{X:Cx}{o i e value:Expr}{pos pos' tpos:Pos}{td ty tv:TE}
theorem IK(hu:X.A.units+1<cLine)(ho:PE X o td)(hi:PE X i ty)(hs:Jq i):PE X (.Subscript o i pos) (FF td ty):=by
 intro pins s σ H Q I h;refine ZjI PySem.F.slot_dict_getitem.lookup hs (fF (ho pins s σ H _ I h) λu s1 x H1 I1 rx q1=>bZ (hi pins s1 σ H1 _ I1 q1) λiv s2 ⟨y,H2,I2,ry,a,v,ex,g,q2⟩=>?_);subst ex;obtain rfl:u=Value.ref a:=rx;exact⟨Zet I2 g,Uk hu I2 g ry λw' s3 I3 rw'=>⟨v,H2,I3,rw',q2⟩⟩
theorem R7(hu:X.A.units+1<cLine)(hi:PE X i ty)(ho:PE X o td):PC X .In i o (LH ty td):=by
 intro pins s σ H Q I h;refine fF (hi pins s σ H _ I h) λiv s1 y H1 I1 ry q1=>bZ (ho pins s1 σ H1 _ I1 q1) λu s2 ⟨x,H2,I2,rx,a,ov,ex,g,q2⟩=>?_;subst ex;obtain rfl:u=Value.ref a:=rx;exact Ny hu I2 g ry λs3 I3=>⟨.bl ov.isSome,H2,I3,rfl,q2⟩
theorem IJ(hu:X.A.units+1<cLine)(ho:PE X o td)(hi:PE X i ty)(hv:PE X value tv)(hs:swapsWith value (some (.Subscript o i pos')) pos.line X.env=pure false) :
  PS X (.Assign [.Subscript o i pos'] value pos) (FP td ty tv):=by
 intro pins s σ H D I h;refine wpAny_Assign_Subscript (fF (hv pins s σ H _ I h) λr s1 v H1 I1 rv q1=>fF (ho pins s1 σ H1 _ I1 q1) λu s2 x H2 I2 rx q2=>bZ (hi pins s2 σ H2 _ I2 q2) λiv s3 ⟨y,H3,I3,ry,a,H4,ex,g,q3⟩=>?_) hs;subst ex;obtain rfl:u=Value.ref a:=rx;exact Uj hu I3 g ry rv λs4 I4=>⟨σ,H4,I4,q3⟩
theorem ZjJ{op:Operator}{rd:V->V->Hp->VK->Prop}(hu:X.A.units+1<cLine)(ho:PE X o td)(hi:PE X i ty)(hv:PE X value tv)(hop:Jv X op rd)
  (ha:∀ov iv new,augStore i ov iv new=(do holding [new,ov,iv] (setItem ov iv new);release [new,ov,iv] [];pure .next)):PS X (.AugAssign (.Subscript o i tpos) op value pos) (FQ td ty tv rd):=by
 intro pins s σ H D I h;refine wpAny_AugAssign_SubscriptAny (fF (ho pins s σ H _ I h) λu s1 x H1 I1 rx q1=>bZ (hi pins s1 σ H1 _ I1 q1) λiv s2 ⟨y,H2,I2,ry,a,v,ex,g,q2⟩=>?_) ha;subst ex;obtain rfl:u=Value.ref a:=rx;refine Uk hu I2 g ry λw' s3 I3 rw'=>fF (hv pins s3 σ H2 _ I3 q2) λw2 s4 y2 H3 I4 Wv q3=>bZ (hop pins s4 σ H3 v y2 w' w2 _ I4 rw' Wv q3) λw3 s5 ⟨z,H4,I5,rz,H5,g5,q4⟩=>?_;exact Uj hu I5 g5 ry rz λs6 I6=>⟨σ,H5,I6,q4⟩
end
theorem Zii{P:Program}{w:World}{H:Hp}(h:Heap)(hb:sysModules<h.objs.size):aF P w H (h.push { cls:=.type "dict",data:=.dict #[] }) h.objs.size (.dK []):=
 ⟨acY _,baQ.mpr (aWz (aor hb)),[],.nil,Heap.DictOf.new h⟩
def ZkK:TE:=λ_ H Q=>∀p,H p=none->Q (.ref p) (upd H p (.dK []))
section
variable{X:Cx}{pos:Pos}
theorem IV:PE X (.Dict [] [] pos) ZkK:=λpins s σ H Q I h=>
 wpAny_Dict_empty ⟨.ref s.heap.objs.size,_,I.laid (a:=s.heap.objs.size) (o:=.dK []) (t':=s.toks) (λ_ _ q=>a8n _ q) (aI1 _) (Zii s.heap I.big),rfl,h _ (I.hok.fresh (aI1 _))⟩
end
structure M1(X:Cx)(o:Expr)(m:Str)(apos:Pos)(e:Expr)(cpos:Pos):Prop where
 base:attributeBase o m X.env (eval o X.env)=eval o X.env
 few:((backTo cpos (starEach [e] X.env)).all (λx=>!x.1) && (backToKw cpos (keywordEach [] X.env)).all (λx=>x.1.isSome)
  && decide (([e]:List Expr).length+([]:List Keyword).length+(if([]:List Keyword).isEmpty then 0 else 1)<30))=true
 line:(apos.endLine ==cpos.line)=true
 trees:backTo cpos (starEach [e] X.env)=[(false,eval e X.env)]
structure M2(X:Cx)(o:Expr)(m:Str)(apos:Pos)(e f:Expr)(cpos:Pos):Prop where
 base:attributeBase o m X.env (eval o X.env)=eval o X.env
 few:((backTo cpos (starEach [e,f] X.env)).all (λx=>!x.1) && (backToKw cpos (keywordEach [] X.env)).all (λx=>x.1.isSome)
  && decide (([e,f]:List Expr).length+([]:List Keyword).length+(if([]:List Keyword).isEmpty then 0 else 1)<30))=true
 line:(apos.endLine ==cpos.line)=true
 trees:backTo cpos (starEach [e,f] X.env)=[(false,eval e X.env),(false,eval f X.env)]
def Lp(H:Hp)(a:Addr):Prop:=(∃kvs,Rd H a (.dK kvs))\/∃kvs,Rd H a (.dT kvs)
theorem KG{X:Cx}{pins:List (Addr×Obj)}{σ:St}{H:Hp}{s:Shared}{a:Addr}(I:Inv X pins σ H s)(d:Lp H a) :
  s.TypeIs (.ref a) "dict" /\(∀b,Value.ref a=.ref b->∃ob,s.heap.get? b=some ob/\ob.dict=none)/\(a ==sysModules)=false:=by
 rcases d with⟨kvs,e⟩|⟨kvs,e⟩
 .obtain ⟨_,hd,vs,_,dd⟩:=oA I.hok e;refine⟨dd.typeIs,λb q=>?_,hd⟩;cases q;obtain⟨ob,_,_,h1,h2,_⟩:=dd;exact⟨ob,h1,h2.2.1⟩
 .obtain ⟨_,hd,xs,_,dd⟩:=ow I.hok e;refine⟨dd.typeIs,λb q=>?_,hd⟩;cases q;obtain⟨ob,_,_,h1,h2,_⟩:=dd;exact⟨ob,h1,h2.2.1⟩
section
variable{X:Cx}{pins:List (Addr×Obj)}{σ:St}{H:Hp}{s:Shared}{a:Addr}{y d:V}{u r:Value}{o:Option V}{A:Around}{E:Value->Shared->Prop}
theorem ZkL{Q:Value->Shared->Prop}(hu:A.units+1<cLine)(I:Inv X pins σ H s)(g:dg H a y o)(ry:RelV y u)(rd:RelV d r)(h:∀w' s',Inv X pins σ H s'->RelV (o.getD d) w'->Q w' s') :
  wpAny (model X.prog X.w) A (call (.builtin "dict.get") [.ref a,u,r]) Q E s:=by
 rcases g with⟨kvs,k,e,ey,l⟩|⟨kvs,k,b,e,ey,eb,l⟩
 .subst ey;obtain⟨z,hd,vs,rel,dd⟩:=oA I.hok e;refine call_meetsIn bcY dd.typeIs PySem.F.entry_dict_get (PySem.F.args_dict_get_3 _ _ _) (meets_dict_get_default (Zy X.prog X.w) a (lQ ry) hd r) ⟨_,dd.mapOf,h _ _ (I.tok _) ?_⟩;rw[l];exact(rel.val k).getD rd
 .subst ey;cases(show u=Value.ref b from ry);obtain⟨z,hd,xs,rel,dd⟩:=ow I.hok e;refine call_meetsIn bcY dd.typeIs PySem.F.entry_dict_get (PySem.F.args_dict_get_3 _ _ _) (meetsH_dict_get_default (tupleKind (Zy X.prog X.w)) a b hd r) ⟨ae1 hu,k,xs,IB I.hok eb,dd,h _ _ (I.tok _) ?_⟩;rw[l];exact(rel.val k).getD rd
end
def ZkM(td ty tx:TE):TE:=λσ H Q=>td σ H λx H1=>∃a,x=.ref a/\Lp H1 a/\ty σ H1 λy H2=>tx σ H2 λz H3=>∃o,dg H3 a y o/\Q (o.getD z) H3
def ZkN(td ty:TE):TE:=λσ H Q=>td σ H λx H1=>∃a,x=.ref a/\Lp H1 a/\ty σ H1 λy H2=>∃kvs k v,H2 a=some (.dK kvs)/\y=kV k/\aK kvs k=some v/\Q v (upd H2 a (.dK (aU kvs k)))
def ZkO(td ty tx:TE):TE:=λσ H Q=>td σ H λx H1=>∃a,x=.ref a/\Lp H1 a/\ty σ H1 λy H2=>tx σ H2 λz H3=>∃kvs k,H3 a=some (.dK kvs)/\y=kV k /\
 (∀v,aK kvs k=some v->Q v (upd H3 a (.dK (aU kvs k))))/\(aK kvs k=none->Q z H3)
section
variable{X:Cx}{o e f:Expr}{apos cpos:Pos}{td ty tx:TE}
theorem OD(hu:X.A.units+1<cLine)(ho:PE X o td)(he:PE X e ty)(hf:PE X f tx)(m:M2 X o "get" apos e f cpos):PE X (.Call (.Attribute o "get" apos) [e,f] [] cpos) (ZkM td ty tx):=by
 intro pins s σ H Q I h;refine wpAny_Call_method m.base m.few m.line aKx bcY PySem.F.type_dict_get (bZ (ho pins s σ H _ I h) λu s1 ⟨x,H1,I1,rx,a,ex,d,q1⟩=>?_);subst ex;obtain rfl:u=Value.ref a:=rx;obtain⟨t1,t2,_⟩:=KG I1 d;refine⟨t1,t2,?_⟩;rw[m.trees];refine adz rfl (agr (aUp (fF (he pins s1 σ H1 _ I1 q1) λiv s2 y H2 I2 ry q2=>
  aUp (bZ (hf pins s2 σ H2 _ I2 q2) λfv s3 ⟨z,H3,I3,rz,ov,g,q3⟩=>aEg ?_))))
 exact ZkL hu I3 g ry rz λw' s4 I4 rw'=>⟨_,H3,I4,rw',q3⟩
theorem OC(ho:PE X o td)(he:PE X e ty)(m:M1 X o "pop" apos e cpos):PE X (.Call (.Attribute o "pop" apos) [e] [] cpos) (ZkN td ty):=by
 intro pins s σ H Q I h;refine wpAny_Call_method m.base m.few m.line aKx a8l PySem.F.type_dict_pop (bZ (ho pins s σ H _ I h) λu s1 ⟨x,H1,I1,rx,a,ex,d,q1⟩=>?_);subst ex;obtain rfl:u=Value.ref a:=rx;obtain⟨t1,t2,_⟩:=KG I1 d;refine⟨t1,t2,?_⟩;rw[m.trees];refine adz rfl (agr (aUp (bZ (he pins s1 σ H1 _ I1 q1) λiv s2 ⟨y,H2,I2,ry,kvs,k,v,ea,ey,l,q2⟩=>aEg ?_)));subst ey;exact BR I2 ea ry l (.inl rfl) λw' s3 I3 rw'=>⟨v,_,I3,rw',q2⟩
theorem TN(ho:PE X o td)(he:PE X e ty)(hf:PE X f tx)(m:M2 X o "pop" apos e f cpos):PE X (.Call (.Attribute o "pop" apos) [e,f] [] cpos) (ZkO td ty tx):=by
 intro pins s σ H Q I h;refine wpAny_Call_method m.base m.few m.line aKx a8l PySem.F.type_dict_pop (bZ (ho pins s σ H _ I h) λu s1 ⟨x,H1,I1,rx,a,ex,d,q1⟩=>?_);subst ex;obtain rfl:u=Value.ref a:=rx;obtain⟨t1,t2,_⟩:=KG I1 d;refine⟨t1,t2,?_⟩;rw[m.trees];refine adz rfl (agr (aUp (fF (he pins s1 σ H1 _ I1 q1) λiv s2 y H2 I2 ry q2=>
  aUp (bZ (hf pins s2 σ H2 _ I2 q2) λfv s3 ⟨z,H3,I3,rz,kvs,k,ea,ey,q3,q4⟩=>aEg ?_))))
 subst ey;cases l:aK kvs k with
 |some v=>exact BR I3 ea ry l (.inr ⟨fv,rfl⟩) λw' s4 I4 rw'=>⟨v,_,I4,rw',q3 v l⟩
 |none=>exact ZkJ I3 ea ry l λs4 I4=>⟨z,H3,I4,rz,q4 l⟩
end
section
variable{κ:Type}[DecidableEq κ]
theorem EM:∀{l:List κ}{k:κ},l.Nodup->¬k∈l->(l++[k]).Nodup
 | [],k,_,_=>by simp
 |a ::r,k,h,hk=>by
  obtain⟨h1,h2⟩:=agN.mp h;show(a ::(r++[k])).Nodup;refine agN.mpr ⟨λm=>?_,EM h2 λm=>hk (awk.mpr (Or.inr m))⟩;rcases aXY.mp m with q|q
  .exact h1 q
  .exact hk (awk.mpr (Or.inl (axK.mp q).symm))
theorem ZgI{p:κ×V}{r:List (κ×V)}{k:κ}(e:p.1=k):aU (p ::r) k=aU r k:=by
 unfold aU;rw[aDS,ale (by simp[e])]
theorem ZgJ{p:κ×V}{r:List (κ×V)}{k:κ}(e:¬p.1=k):aU (p ::r) k=p ::aU r k:=by
 unfold aU;rw[aDS,auJ (by simp[e])]
end
theorem TM{P:Program}{w:World}{k:Key}{u:Value}(h:(Zy P w).is k u=true):RelV (kV k) u:=by
 rw[ZfC]at h;rcases ZG h with⟨i,t,rfl,rfl⟩|⟨x,t,rfl,rfl⟩
 .exact ⟨t,rfl⟩
 .exact ⟨t,rfl⟩
structure Src(P0:Program)(w0:World)(it l:Addr)(its:Array Value)(pos:Nat->Heap->Prop)(sq:Heap->Prop):Prop where
 item:∀{A0:Around}{E0:Value->Shared->Prop}{t:Shared}{i:Nat}{x:Value}{Q0:Value->Shared->Prop},pos i t.heap->sq t.heap->its[i]?=some x->(∀g,pos (i+1) g->Heap.SameBut it t.heap g->Q0 x { t with heap:=g })->wpAny (model P0 w0) A0 (Builtin.SmallTypes.nextOf (.ref it)) Q0 E0 t
 stop:∀{A0:Around}{E0:Value->Shared->Prop}{t:Shared}{i:Nat}{Q0:Value->Shared->Prop},A0.handled=none->pos i t.heap->sq t.heap->its[i]?=none->(∀g e,Heap.ExtBut it t.heap g->(∃o,g.get? e=some o/\o.cls=.type "StopIteration")->E0 (.ref e) { t with heap:=g })->wpAny (model P0 w0) A0 (Builtin.SmallTypes.nextOf (.ref it)) Q0 E0 t
 jE:∀{i:Nat}{g g':Heap},pos i g->(∀o,g.get? it=some o->g'.get? it=some o)->pos i g'
 uv:∀{g g':Heap},sq g->(∀o,g.get? l=some o->g'.get? l=some o)->sq g'
 obj:∀{i:Nat}{g:Heap},pos i g->∃o,g.get? it=some o/\∀v,o.data≠.cell v
section
variable{P0:Program}{w0:World}{A0:Around}{E0:Value->Shared->Prop}{t:Shared}
theorem ZdX{it a:Addr}{i:Nat}{its:Array Value}{x:Value}{Q0:Value->Shared->Prop}(st:t.heap.IsTupleIter it a i)(tp:t.heap.IsTuple a its)(hx:its[i]?=some x)
  (k:∀g,g.IsTupleIter it a (i+1)->Heap.SameBut it t.heap g->Q0 x { t with heap:=g }):wpAny (model P0 w0) A0 (Builtin.SmallTypes.nextOf (.ref it)) Q0 E0 t:=by
 obtain⟨oi,gi,ci,di⟩:=id st;obtain⟨oa,ga,_,n,da⟩:=tp;unfold Builtin.SmallTypes.nextOf;refine a3A (aDV (name:=Str.ofString "__next__") st.typeIs aBc (aXd aBc st.typeIs F.entry_tuple_iterator_next ?_ (F.args_tuple_iterator_next_1 _)));show wpAny _ _ (field (.ref it) 0 >>=_) _ _ t;refine a3A (aoO gi di (x:=.ref a) rfl ?_);show wpAny _ _ (if(Value.ref a ==Value.none)=true then _ else _) _ _ t;rw[ale (show ¬((Value.ref a ==Value.none)=true) from a0V)];show wpAny _ _ (field (.ref it) 1 >>=_) _ _ t;refine a3A (aoO gi di (x:=.int i 0) rfl ?_);show wpAny _ _ (seqItems? (.ref a) >>=_) _ _ t;refine a3A (aCd ga da ?_);simp only[hx,Int.toNat_natCast];refine a3A (wpAny_setField gi di (by simp) (aLE ⟨x,rfl,aLE (k _ ⟨_,Heap.get?_update_self _ gi (Obj.isFreed_of_fields (Obj.data_mapFields di _)),(Obj.cls_mapFields ..).trans ci,?_⟩ (Heap.SameBut.update ..))⟩));rw[Obj.data_mapFields di];simp[rawInt]
theorem ZdY{it a:Addr}{i:Nat}{its:Array Value}{Q0:Value->Shared->Prop}(hA:A0.handled=none)(st:t.heap.IsTupleIter it a i)(tp:t.heap.IsTuple a its)(hx:its[i]?=none)
  (k:∀g e,Heap.ExtBut it t.heap g->(∃o,g.get? e=some o/\o.cls=.type "StopIteration")->E0 (.ref e) { t with heap:=g }):wpAny (model P0 w0) A0 (Builtin.SmallTypes.nextOf (.ref it)) Q0 E0 t:=by
 obtain⟨oi,gi,ci,di⟩:=id st;obtain⟨oa,ga,_,n,da⟩:=tp;unfold Builtin.SmallTypes.nextOf;refine a3A (aDV (name:=Str.ofString "__next__") st.typeIs aBc (aXd aBc st.typeIs F.entry_tuple_iterator_next ?_ (F.args_tuple_iterator_next_1 _)));show wpAny _ _ (field (.ref it) 0 >>=_) _ _ t;refine a3A (aoO gi di (x:=.ref a) rfl ?_);show wpAny _ _ (if(Value.ref a ==Value.none)=true then _ else _) _ _ t;rw[ale (show ¬((Value.ref a ==Value.none)=true) from a0V)];show wpAny _ _ (field (.ref it) 1 >>=_) _ _ t;refine a3A (aoO gi di (x:=.int i 0) rfl ?_);show wpAny _ _ (seqItems? (.ref a) >>=_) _ _ t;refine a3A (aCd ga da ?_);simp only[hx,Int.toNat_natCast];refine a3A (aQS (a3A (wpAny_setField gi di (by simp) ?_)));show wpAny _ _ (newExc (.type "StopIteration") [] >>=_) _ _ _;refine a3A ?_;simp only[newTuple,newExc];refine a3A (aON (a3A (m:=firstArgMember _ _) (wpAny_of_eq (a:=Value.none) (by first|rfl|(simp only[firstArgMember];rfl)) (aON ?_ (by size_fits)))) (by size_fits));simp only[raiseNew];refine a3A (wpAny_handled ?_)
 first|rw[show A0.in1.handled=none from hA]|rw[hA]
 exact a3A (aLE (wpAny_throw (k _ _ (((Heap.SameBut.update ..).extBut.push _).push _) ⟨_,awu _ rfl,rfl⟩)))
end
theorem I0{h:Heap}{it l:Addr}{i:Nat}(x:h.IsTupleIter it l i):∃o,h.get? it=some o/\∀v,o.data≠.cell v:=by
 obtain⟨o,e,c,d⟩:=x;exact⟨o,e,λv z=>by rw[d]at z;cases z⟩
theorem K2{P0:Program}{w0:World}(it l:Addr)(its:Array Value):Src P0 w0 it l its (λi h=>h.IsTupleIter it l i) (λh=>h.IsTuple l its) where
 item:=λa b c d=>ZdX a b c d
 stop:=λa b c d e=>ZdY a b c d e
 jE:=λa b=>a.at b
 uv:=λa b=>by obtain⟨o,e,r⟩:=a;exact⟨o,b o e,r⟩
 obj:=λa=>I0 a
section
variable{P0:Program}{w0:World}{A0:Around}{E0:Value->Shared->Prop}{t:Shared}{z TI TO ia ib la lb:Addr}{p1 p2:Nat->Heap->Prop}{q1 q2:Heap->Prop}{xs ys:Array Value}
theorem ZgK{k:Nat}{x y u v:Value}{Q0:Value->Shared->Prop}(S1:Src P0 w0 ia la xs p1 q1)(S2:Src P0 w0 ib lb ys p2 q2)(D:ZipApart z TI TO ia ib la lb)
  (zz:IsZip t.heap z TI TO .none) (zI:IsPair t.heap TI (.ref ia) (.ref ib)) (zO:IsPair t.heap TO u v) (a1:p1 k t.heap) (a2:p2 k t.heap) (b1:q1 t.heap) (b2:q2 t.heap) (hx:xs[k]?=some x) (hy:ys[k]?=some y)
  (fin:∀g,IsZip g z TI TO (rawInt t.heap.objs.size)->IsPair g TO x y->p1 (k+1) g->p2 (k+1) g->IsPair g t.heap.objs.size x y->g.objs.size=t.heap.objs.size+1 ->
   (∀c o,c≠z->c≠TO->c≠ia->c≠ib->t.heap.get? c=some o->g.get? c=some o)->Q0 (.ref t.heap.objs.size) { t with heap:=g }) :
  wpAny (model P0 w0) A0 (Builtin.«zip.__next__» ⟨[.ref z],[]⟩) (λf s'=>∃v,f=.done (.ret v)/\Q0 v s') E0 t:=by
 show wpAny _ _ (field (.ref z) 2 >>=_) _ _ _;refine a3A (aoO zz rfl (x:=.bool false) rfl ?_);show wpAny _ _ (field (.ref z) 3 >>=_) _ _ _;refine a3A (aoO zz rfl (x:=.ref TI) rfl (a3A (aCd zI rfl ?_)));show wpAny _ _ (Builtin.SmallTypes.ownedTupleIsFree (.ref z) >>=_) _ _ _;refine a3A ?_;unfold Builtin.SmallTypes.ownedTupleIsFree;refine a3A (aoO zz rfl (x:=.none) rfl (aLE ?_));simp only[aEa];refine a3A (aQS (a3A (aoO zz rfl (x:=.ref TO) rfl (a3A (aWa zz (by simp) λg1 z1 c1=>?_)))))
 replace z1:IsZip g1 z TI TO .ellipsis:=z1
 refine a3A ?_;simp only[a7z,List.forIn_nil,List.zipIdx_cons,List.zipIdx_nil];refine a3A (a3A (wpAny_onRaise ?_));show wpAny _ _ (Builtin.SmallTypes.nextOf (.ref ia) >>=_) _ _ _;refine a3A (S1.item (S1.jE a1 λo e=>c1.extBut _ o D.i1z e) (S1.uv b1 λo e=>c1.extBut _ o D.l1z e) hx λg2 Y3 c2=>aLE ?_);have o2:IsPair g2 TO u v:=c2.extBut _ _ D.TOi1 (c1.extBut _ _ D.TOz zO);refine a3A (aCd o2 rfl (a3A (wpAny_updateSeq_pair o2 λg3 o3 c3=>?_)))
 replace o3:IsPair g3 TO x v:=o3
 refine a3A (wpAny_letGo (aLE ?_));refine a3A (a3A (wpAny_onRaise ?_));show wpAny _ _ (Builtin.SmallTypes.nextOf (.ref ib) >>=_) _ _ _;have m3:∀c o,c≠z->c≠ia->c≠TO->t.heap.get? c=some o->g3.get? c=some o:=λc o n1 n2 n3 e=>c3.extBut _ _ n3 (c2.extBut _ _ n2 (c1.extBut _ _ n1 e));refine a3A (S2.item (S2.jE a2 λo e=>m3 _ o D.i2z D.i12.symm D.TOi2.symm e) (S2.uv b2 λo e=>m3 _ o D.l2z D.l2i1 D.l2TO e) hy λg4 YZ c4=>aLE ?_);have o4:IsPair g4 TO x v:=c4.extBut _ _ D.TOi2 o3;refine a3A (aCd o4 rfl (a3A (wpAny_updateSeq_pair o4 λg5 o5 c5=>?_)))
 replace o5:IsPair g5 TO x y:=o5
 refine a3A (wpAny_letGo (aLE (aLE ?_)));refine a3A (aCd o5 rfl (a3A (wpAny_newTuple ?_)));have sz:g5.objs.size=t.heap.objs.size:=by rw[c5.1,c4.1,c3.1,c2.1,c1.1]
 have m5:∀c o,c≠z->c≠TO->c≠ia->c≠ib->t.heap.get? c=some o->g5.get? c=some o:=λc o n1 n2 n3 n4 e=>c5.extBut _ _ n2 (c4.extBut _ _ n4 (m3 c o n1 n3 n2 e));have z5:IsZip g5 z TI TO .ellipsis:=c5.extBut _ _ D.TOz.symm (c4.extBut _ _ D.i2z.symm (c3.extBut _ _ D.TOz.symm (c2.extBut _ _ D.i1z.symm z1)));have Y0:p1 (k+1) g5:=S1.jE Y3 λo e=>c5.extBut _ o D.TOi1.symm (c4.extBut _ o D.i12 (c3.extBut _ o D.TOi1.symm e));have YY:p2 (k+1) g5:=S2.jE YZ λo e=>c5.extBut _ o D.TOi2.symm e;have O9:z<g5.objs.size:=aPy z5;show wpAny _ _ (Builtin.SmallTypes.ownedTupleHandOut (.ref z) (.ref g5.objs.size) >>=_) _ _ _;refine a3A ?_;unfold Builtin.SmallTypes.ownedTupleHandOut;have z6:IsZip (g5.push { cls:=.type "tuple",data:=.seq #[x,y] }) z TI TO .ellipsis:=a8n _ z5;refine a3A (aWa z6 (by simp) λg7 z7 c7=>?_)
 replace z7:IsZip g7 z TI TO (rawInt g5.objs.size):=z7
 refine aWa z7 (by simp) λg8 z8 c8=>?_
 replace z8:IsZip g8 z TI TO (rawInt g5.objs.size):=z8
 have m8:∀c o,c≠z->g5.get? c=some o->g8.get? c=some o:=λc o n1 e=>c8.extBut _ _ n1 (c7.extBut _ _ n1 (a8n _ e));have t8:IsPair g8 g5.objs.size x y:=c8.extBut _ _ (aAe O9) (c7.extBut _ _ (aAe O9) (awu _ rfl));have s8:g8.objs.size=g5.objs.size+1:=by rw[c8.1,c7.1,aK7]
 rw[sz]at z8 t8 s8;refine aLE ⟨_,rfl,?_⟩;show Q0 (.ref g5.objs.size) _;rw[sz];exact fin g8 z8 (m8 _ _ D.TOz o5) (S1.jE Y0 λo e=>m8 _ o D.i1z e) (S2.jE YY λo e=>m8 _ o D.i2z e) t8 s8 λc o n1 n2 n3 n4 e=>m8 c o n1 (m5 c o n1 n2 n3 n4 e)
theorem ZgL{k:Nat}{u v:Value}{Q0:Fin->Shared->Prop}(hA:A0.handled=none)(S1:Src P0 w0 ia la xs p1 q1)(S2:Src P0 w0 ib lb ys p2 q2)(D:ZipApart z TI TO ia ib la lb)
  (zz:IsZip t.heap z TI TO .none) (zI:IsPair t.heap TI (.ref ia) (.ref ib)) (zO:IsPair t.heap TO u v) (a1:p1 k t.heap) (b1:q1 t.heap) (hx:xs[k]?=none)
  (fin:∀g e,(∀c o,c≠z->c≠TO->c≠ia->c≠ib->t.heap.get? c=some o->g.get? c=some o)->(∃o,g.get? e=some o/\o.cls=.type "StopIteration")->E0 (.ref e) { t with heap:=g }) :
  wpAny (model P0 w0) A0 (Builtin.«zip.__next__» ⟨[.ref z],[]⟩) Q0 E0 t:=by
 show wpAny _ _ (field (.ref z) 2 >>=_) _ _ _;refine a3A (aoO zz rfl (x:=.bool false) rfl ?_);show wpAny _ _ (field (.ref z) 3 >>=_) _ _ _;refine a3A (aoO zz rfl (x:=.ref TI) rfl (a3A (aCd zI rfl ?_)));show wpAny _ _ (Builtin.SmallTypes.ownedTupleIsFree (.ref z) >>=_) _ _ _;refine a3A ?_;unfold Builtin.SmallTypes.ownedTupleIsFree;refine a3A (aoO zz rfl (x:=.none) rfl (aLE ?_));simp only[aEa];refine a3A (aQS (a3A (aoO zz rfl (x:=.ref TO) rfl (a3A (aWa zz (by simp) λg1 z1 c1=>?_)))))
 replace z1:IsZip g1 z TI TO .ellipsis:=z1
 refine a3A ?_;simp only[a7z,List.forIn_nil,List.zipIdx_cons,List.zipIdx_nil];refine a3A (a3A (wpAny_onRaise ?_));show wpAny _ _ (Builtin.SmallTypes.nextOf (.ref ia) >>=_) _ _ _;refine a3A (S1.stop hA (S1.jE a1 λo e=>c1.extBut _ o D.i1z e) (S1.uv b1 λo e=>c1.extBut _ o D.l1z e) hx λg2 e c2 he=>?_);obtain⟨oe,Ni,ce⟩:=he;have z2:IsZip g2 z TI TO .ellipsis:=c2 _ _ D.i1z.symm z1;have ne:e≠z:=λq=>by rw[q,z2]at Ni;cases Ni;simp at ce
 exact aWa z2 (by simp) λg3 _ c3=>fin g3 e (λc o n1 _ n3 _ q=>c3.extBut _ _ n1 (c2 _ _ n3 (c1.extBut _ _ n1 q))) ⟨oe,c3.extBut _ _ ne Ni,ce⟩
theorem ZdZ{k:Nat}{x y u v:Value}{Q0:Option Value->Shared->Prop}(S1:Src P0 w0 ia la xs p1 q1)(S2:Src P0 w0 ib lb ys p2 q2)(D:ZipApart z TI TO ia ib la lb)
  (zz:IsZip t.heap z TI TO .none) (zI:IsPair t.heap TI (.ref ia) (.ref ib)) (zO:IsPair t.heap TO u v) (a1:p1 k t.heap) (a2:p2 k t.heap) (b1:q1 t.heap) (b2:q2 t.heap) (hx:xs[k]?=some x) (hy:ys[k]?=some y)
  (fin:∀g,IsZip g z TI TO (rawInt t.heap.objs.size)->IsPair g TO x y->p1 (k+1) g->p2 (k+1) g->IsPair g t.heap.objs.size x y->g.objs.size=t.heap.objs.size+1 ->
   (∀c o,c≠z->c≠TO->c≠ia->c≠ib->t.heap.get? c=some o->g.get? c=some o)->Q0 (some (.ref t.heap.objs.size)) { t with heap:=g }):wpAny (model P0 w0) A0 (pyNext (.ref z)) Q0 E0 t:=by
 have ty:t.TypeIs (.ref z) "zip":=⟨_,zz,rfl⟩;unfold pyNext;exact a3A (wpAny_attempt (aDV (name:=Str.ofString "__next__") ty F.slot_zip_next (aXd F.slot_zip_next ty F.entry_zip_next (ZgK S1 S2 D zz zI zO a1 a2 b1 b2 hx hy λg r1 r2 r3 r4 r5 r6 r7=>aLE (fin g r1 r2 r3 r4 r5 r6 r7)) (F.args_zip_next_1 _))))
theorem Zea{k:Nat}{u v:Value}{Q0:Option Value->Shared->Prop}(hA:A0.handled=none)(S1:Src P0 w0 ia la xs p1 q1)(S2:Src P0 w0 ib lb ys p2 q2)(D:ZipApart z TI TO ia ib la lb)
  (zz:IsZip t.heap z TI TO .none) (zI:IsPair t.heap TI (.ref ia) (.ref ib)) (zO:IsPair t.heap TO u v) (a1:p1 k t.heap) (b1:q1 t.heap) (hx:xs[k]?=none)
  (fin:∀g,(∀c o,c≠z->c≠TO->c≠ia->c≠ib->t.heap.get? c=some o->g.get? c=some o)->Q0 none { t with heap:=g }):wpAny (model P0 w0) A0 (pyNext (.ref z)) Q0 E0 t:=by
 have ty:t.TypeIs (.ref z) "zip":=⟨_,zz,rfl⟩;unfold pyNext;refine a3A (wpAny_attempt (aDV (name:=Str.ofString "__next__") ty F.slot_zip_next (aXd F.slot_zip_next ty F.entry_zip_next (ZgL hA S1 S2 D zz zI zO a1 b1 hx λg e kp he=>?_) (F.args_zip_next_1 _))));obtain⟨oe,ge,ce⟩:=he;exact a3A (wpAny_isInstance (T:="StopIteration") (b:=true) ⟨oe,ge,ce⟩ isSubtype_stop (aLE (fin _ kp)))
end
abbrev JE(h:Heap)(a:Addr):Heap:=h.push { cls:=.type "tuple_iterator",data:=.fields #[.ref a,.int 0 0] }
abbrev JD(h:Heap)(a b:Addr):Heap:=(JE h a).push { cls:=.type "tuple_iterator",data:=.fields #[.ref b,.int 0 0] }
abbrev JC(h:Heap)(a b:Addr):Heap:=(JD h a b).push { cls:=.type "tuple",data:=.seq #[.ref h.objs.size,.ref (JE h a).objs.size] }
abbrev JB(h:Heap)(a b:Addr):Heap:=(JC h a b).push { cls:=.type "tuple",data:=.seq #[.none,.none] }
abbrev Eg(h:Heap)(a b:Addr):Heap:=(JB h a b).push { cls:=.type "zip",data:=.fields #[.none,.bool false,.bool false,.ref (JD h a b).objs.size,.ref (JC h a b).objs.size] }
theorem ZfP(a b:Addr)(xs ys:Array Value) :
  Meets (Builtin.«zip.__new__» ⟨[.type "zip",.ref a,.ref b],[]⟩) (λ_ R s=>s.heap.IsTuple a xs/\s.heap.IsTuple b ys/\R (.ok (.ret (.ref (JB s.heap a b).objs.size))) { s with heap:=Eg s.heap a b }):=
 .of_wp λP0 w0 A0 R t h=>by
  obtain⟨hp,gn,dr,tk,os⟩:=t;obtain⟨ta,tb,h⟩:=h;have sub:=sub_zip;have qa:Heap.IsTuple (Shared.heap ⟨hp,gn,dr,tk,os⟩) a xs:=ta;have qb:Heap.IsTuple (Shared.heap ⟨hp.push { cls:=.type "tuple_iterator",data:=.fields #[.ref a,.int 0 0] },gn,dr,tk,os⟩) b ys:=Heap.IsTuple.push tb _
  wp_walk using wpAny_pyIter_tuple qa,wpAny_pyIter_tuple qb
  exact⟨_,rfl,h⟩
theorem ZgM{P0:Program}{w0:World}{A0:Around}{E0:Value->Shared->Prop}{t:Shared}{a b:Addr}{xs ys:Array Value}{Q0:Value->Shared->Prop}(ta:t.heap.IsTuple a xs)(tb:t.heap.IsTuple b ys)
  (h:∀g,IsZip g (t.heap.objs.size+4) (t.heap.objs.size+2) (t.heap.objs.size+3) .none->IsPair g (t.heap.objs.size+2) (.ref t.heap.objs.size) (.ref (t.heap.objs.size+1))->IsPair g (t.heap.objs.size+3) .none .none ->
   g.IsTupleIter t.heap.objs.size a 0->g.IsTupleIter (t.heap.objs.size+1) b 0->(∀c o,t.heap.get? c=some o->g.get? c=some o)->Q0 (.ref (t.heap.objs.size+4)) { t with heap:=g }) :
  wpAny (model P0 w0) A0 (call (.type "zip") [.ref a,.ref b]) Q0 E0 t:=by
 refine callType_new F.called_zip (by decide) (F.typeCall_zip_2 _ _) (F.newCall_zip_2 _ _) (λobj=>F.args_object_init_3 obj _ _) F.entry_zip_new (ZfP a b xs ys) ⟨ta,tb,?_⟩;have n1:(JE t.heap a).objs.size=t.heap.objs.size+1:=aK7 ..;have n2:(JD t.heap a b).objs.size=t.heap.objs.size+2:=by rw[aK7,n1]
 have n3:(JC t.heap a b).objs.size=t.heap.objs.size+3:=by rw[aK7,n2]
 have n4:(JB t.heap a b).objs.size=t.heap.objs.size+4:=by rw[aK7,n3]
 have r5:(Eg t.heap a b).get? (JB t.heap a b).objs.size=some _:=awu _ rfl;have r4:(Eg t.heap a b).get? (JC t.heap a b).objs.size=some _:=a8n _ (awu _ rfl);have r3:(Eg t.heap a b).get? (JD t.heap a b).objs.size=some _:=a8n _ (a8n _ (awu _ rfl));have r2:(Eg t.heap a b).get? (JE t.heap a).objs.size=some _:=a8n _ (a8n _ (a8n _ (awu _ rfl)));have r1:(Eg t.heap a b).get? t.heap.objs.size=some _:=a8n _ (a8n _ (a8n _ (a8n _ (awu _ rfl))));show _/\_;rw[n2,n3,n4]at r5;rw[n1,n2]at r3;rw[n3]at r4;rw[n1]at r2;rw[n4];refine⟨⟨_,r5,rfl⟩,h _ r5 r3 r4 ⟨_,r1,rfl,rfl⟩ ⟨_,r2,rfl,rfl⟩ λc o q=>?_⟩
 iterate 5 refine a8n _ ?_
 exact q
def yU(K:W.Frag)(a b:Addr):It:=
 ⟨λi H=>∃xs ys x y,aP K H a xs/\aP K H b ys/\xs[i]?=some x/\ys[i]?=some y,
 λi H v H'=>∃t x y,H t=none/\v=.ref t/\H'=upd H t (.tup [x,y])/\(∀xs,aP K H a xs->xs[i]?=some x)/\∀ys,aP K H b ys->ys[i]?=some y,
 λi H=>∃xs,aP K H a xs/\(∃ys,aP K H b ys)/\xs.length<=i⟩
theorem ZgN{P:Program}{w:World}{K:W.Frag}{elts:List PySem.Expr}{x1}{pos:Pos}(z TI TO i1 i2 a b:Addr)(D:ZipApart z TI TO i1 i2 a b) :
  Turn P w K (.Tuple elts x1 pos) (yU K a b) [z,TI,TO,i1,i2] z (λi h=>IsZip h z TI TO .none/\IsPair h TI (.ref i1) (.ref i2)/\(∃u v,IsPair h TO u v)/\h.IsTupleIter i1 a i/\h.IsTupleIter i2 b i) where
 mem:=by simp
 obj:=λi h st c hc=>by
  obtain⟨hz,hTI,⟨u,v,hTO⟩,h1,h2⟩:=st;simp only[afg,aNV,aQw]at hc;rcases hc with rfl|rfl|rfl|rfl|rfl
  .exact ⟨_,hz,λv e=>by cases e⟩
  .exact ⟨_,hTI,λv e=>by cases e⟩
  .exact ⟨_,hTO,λv e=>by cases e⟩
  .exact I0 h1
  .exact I0 h2
 keep:=λi h h' st k=>by
  obtain⟨hz,hTI,⟨u,v,hTO⟩,h1,h2⟩:=st;exact⟨k z (by simp) _ hz,k TI (by simp) _ hTI,⟨u,v,k TO (by simp) _ hTO⟩,h1.at λo e=>k i1 (by simp) o e,h2.at λo e=>k i2 (by simp) o e⟩
 item:=by
  intro X hP hw hK hc i pins s σ H E I hf st hg;subst hP hw hK;obtain⟨xs,ys,x,y,sR,sQ,hx,hy⟩:=hg;obtain⟨hz,hTI,⟨u0,v0,hTO⟩,h1,h2⟩:=st;obtain⟨lR,ra,pa,za⟩:=I.tuple sR;obtain⟨m9,rb,pb,zb⟩:=I.tuple sQ;obtain⟨ux,hux,LQ⟩:=ra.get hx;obtain⟨uy,MN,LP⟩:=rb.get hy;refine ZdZ (K2 i1 a lR.toArray) (K2 i2 b m9.toArray) D hz hTI hTO h1 h2 (show s.heap.IsTuple a lR.toArray from pa) (show s.heap.IsTuple b m9.toArray from pb) (x:=ux) (y:=uy) (by simpa using hux) (by simpa using MN) λh' a1 a2 a3 a4 a5 a6 a7=>?_;refine⟨.ref s.heap.objs.size,rfl,?_⟩;refine wpAny_letOwnedTupleGo_zip a1 λh2' hz' hs'=>?_;have yk:z<s.heap.objs.size:=aPy hz;have kk:∀c o,c∉[z,TI,TO,i1,i2]->s.heap.get? c=some o->h2'.get? c=some o:=λc o hc e=>by
   simp only[afg,aNV,aQw,not_or]at hc;exact hs'.extBut c o hc.1 (a7 c o hc.1 hc.2.2.1 hc.2.2.2.1 hc.2.2.2.2 e)
  have tp:h2'.get? s.heap.objs.size=some { cls:=.type "tuple",data:=.seq #[ux,uy] }:=hs'.extBut _ _ (aAe yk) a5;have I1:Inv X pins σ (upd H s.heap.objs.size (.tup [x,y])) { s with heap:=h2',toks:=s.toks }:=
   I.sP hf kk ⟨by show 2<=sizeLine;decide,[ux,uy],.cons LQ (.cons LP .nil),⟨_,tp,rfl,_,rfl⟩⟩
  have OR:h2'.get? TI=s.heap.get? TI:=by
   rw[hTI];exact hs'.extBut _ _ D.TIz (a7 _ _ D.TIz D.TITO D.TIi1 D.TIi2 hTI)
  refine⟨.ref s.heap.objs.size,_,I1,rfl,⟨s.heap.objs.size,x,y,I.hok.fresh (aI1 _),rfl,rfl,λxs' h=>by rw[I.fE h sR];exact hx,λys' h=>by rw[I.fE h sQ];exact hy⟩,⟨hz',?_,⟨ux,uy,hs'.extBut _ _ D.TOz a2⟩,a3.at λo e=>hs'.extBut _ o D.i1z e,a4.at λo e=>hs'.extBut _ o D.i2z e⟩,λc hc=>?_⟩
  .show h2'.get? TI=_;rw[OR];exact hTI
  .have hc':=hc;have hlt:c<s.heap.objs.size:=by
    simp only[afg,aNV,aQw]at hc';rcases hc' with rfl|rfl|rfl|rfl|rfl
    .exact yk
    .exact aPy hTI
    .exact aPy hTO
    .obtain ⟨o,e,_⟩:=I0 h1;exact aPy e
    .obtain ⟨o,e,_⟩:=I0 h2;exact aPy e
   rw[Zc (aor hlt)];exact(hf c hc).1
 done:=by
  intro X hP hw hK hc i pins s σ H E I hf st hg;subst hP hw hK;obtain⟨xs,sR,⟨ys,sQ⟩,hend⟩:=hg;obtain⟨hz,hTI,⟨u0,v0,hTO⟩,h1,h2⟩:=st;obtain⟨lR,ra,pa,za⟩:=I.tuple sR;obtain⟨m9,rb,pb,zb⟩:=I.tuple sQ;have la:=ra.length;refine Zea (I.ok.hd hc) (K2 i1 a lR.toArray) (K2 i2 b m9.toArray) D hz hTI hTO h1 (show s.heap.IsTuple a lR.toArray from pa) (by simp;lia) λh' hk=>⟨rfl,?_⟩;refine I.kF (t':=s.toks) hf λc o hc e=>?_;simp only[afg,aNV,aQw,not_or]at hc;exact hk c o hc.1 hc.2.2.1 hc.2.2.2.1 hc.2.2.2.2 e
 self:=λ_ _ _ _ _ st h=>aMt st.1 h
def Ht(K:W.Frag)(ta:TA):TI:=λσ H R=>ta σ H λvs H1=>∃a b,vs=[.ref a,.ref b]/\((∃xs ys,ao K H1 a xs/\ao K H1 b ys/\R (AV K a b) H1)\/∃xs ys,aP K H1 a xs/\aP K H1 b ys/\R (yU K a b) H1)
section
variable{X:Cx}
theorem ZjK{elts:List PySem.Expr}{x1}{tpos:Pos}{a b:PySem.Expr}{ta:TA}{p pos:Pos}(hg:Gl X "zip")(hm:X.mg "zip"=none)(ha:PA X [a,b] ta)(hs:starEach [a,b] X.env=[(false,eval a X.env),(false,eval b X.env)]:=by rfl)(hs2:starEach [b] X.env=[(false,eval b X.env)]:=by rfl) :
  PI X (.Tuple elts x1 tpos) (.Call (.Name "zip" p) [a,b] [] pos) (Ht X.K ta):=by
 intro pins s σ H R I h;refine Call_ (zl I hg hm T8 (amb (tS (ha pos pins s σ H _ I h) λus s1 vs H1 I1 r1 q1=>?_) (by rw[hs,hs2]) (by rw[hs2];rfl)));obtain⟨l1,l2,e,q⟩:=q1;subst e;obtain⟨v1,v2,rfl,r,r'⟩:=vals2 r1;cases r;cases r';have big:∀c,c∈[s1.heap.objs.size+4,s1.heap.objs.size+2,s1.heap.objs.size+3,s1.heap.objs.size,s1.heap.objs.size+1]->s1.heap.objs.size<=c:=λc hc=>by
  simp only[afg,aNV,aQw]at hc;rcases hc with rfl|rfl|rfl|rfl|rfl <;> first|exact aI1 _|exact Nat.le_add_right _ _
 rcases q with⟨xs,ys,sR,sQ,q⟩|⟨xs,ys,sR,sQ,q⟩
 .obtain ⟨lR,ra,pa,za⟩:=I1.list sR;obtain⟨m9,rb,pb,zb⟩:=I1.list sQ;have yf:l1<s1.heap.objs.size:=by obtain⟨o,e,_⟩:=pa.isList;exact aPy e
  have CZ:l2<s1.heap.objs.size:=by obtain⟨o,e,_⟩:=pb.isList;exact aPy e
  refine call_zip_2 pa.isList pb.isList λh' g5 g3 g4 g1 g2 hsz kp=>aMt g5 ?_;exact⟨_,[_,_,_,_,_],_,_,H1,rfl,I1.kept (t':=s1.toks) kp,T9 _ _ _ _ _ l1 l2 (OB s1.heap.objs.size l1 l2 yf CZ),⟨g5,g3,⟨_,_,g4⟩,g1,g2⟩,λc hc=>I1.sU (big c hc) (I1.hok.fresh (big c hc)),q⟩
 .obtain ⟨lR,ra,pa,za⟩:=I1.tuple sR;obtain⟨m9,rb,pb,zb⟩:=I1.tuple sQ;have yf:l1<s1.heap.objs.size:=R9 pa;have CZ:l2<s1.heap.objs.size:=R9 pb;refine ZgM (show s1.heap.IsTuple l1 lR.toArray from pa) (show s1.heap.IsTuple l2 m9.toArray from pb) λh' g5 g3 g4 g1 g2 kp=>aMt g5 ?_;exact⟨_,[_,_,_,_,_],_,_,H1,rfl,I1.kept (t':=s1.toks) kp,ZgN _ _ _ _ _ l1 l2 (OB s1.heap.objs.size l1 l2 yf CZ),⟨g5,g3,⟨_,_,g4⟩,g1,g2⟩,λc hc=>I1.sU (big c hc) (I1.hok.fresh (big c hc)),q⟩
end
theorem ZgO{K:W.Frag}{a b:Addr}{xs zs:List V}{l:Addr}{g:TG}{tc:TT}{te:TE}{σ0:St}{H0:Hp}{Qf:Hp->Prop}(hlen:xs.length=zs.length)(Pv:Nat->List V->St->Hp->Prop)(h0:Pv 0 [] σ0 H0)
  (hl:∀i ys σ' H',i<=xs.length->Pv i ys σ' H'->aP K H' a xs/\aP K H' b zs)
  (hs:∀i x z t ys σ' H',i<xs.length->xs[i]?=some x->zs[i]?=some z->ys.length<=i->Pv i ys σ' H'->H' t=none->g (.ref t) σ' (upd H' t (.tup [x,z])) λσ2 H3=>tc σ2 H3 λb H4=>if b=true then te σ2 H4 λy H5=>gu xs.length l Pv i ys σ2 y H5 else yV xs.length Pv i ys σ2 H4)
  (hd:∀ys σ' H',ys.length<=xs.length->Pv xs.length ys σ' H'->Qf H') :
  ∃W:Nat->Nat->List V->St->Hp->Prop,(∃m,W 0 m [] σ0 H0)/\∀i m ys σ' H',W i m ys σ' H' ->
  ((yU K a b).stop i H'/\Qf H')\/((yU K a b).go i H'/\∀x H2,(yU K a b).sr i H' x H2->g x σ' H2 λσ2 H3=>tc σ2 H3 λb H4=>
    if b=true then te σ2 H4 λy H5=>H5 l=some (.lst ys)/\ys.length<sizeLine/\∃m',m'<m/\W (i+1) m' (ys++[y]) σ2 (upd H5 l (.lst (ys++[y])))
    else ∃m',m'<m/\W (i+1) m' ys σ2 H4):=by
 refine⟨λi m ys σ' H'=>m=xs.length-i/\i<=xs.length/\ys.length<=i/\Pv i ys σ' H',⟨xs.length,rfl,acY _,aI1 _,h0⟩,?_⟩;rintro i m ys σ' H' ⟨rfl,hi,hy,p⟩;obtain⟨qa,qb⟩:=hl i ys σ' H' hi p;by_cases hlt:i<xs.length
 .have hlt':i<zs.length:=by lia
  refine .inr ⟨⟨xs,zs,xs[i],zs[i],qa,qb,by simp[hlt],by simp[hlt']⟩,λx H2 zq=>?_⟩;obtain⟨t,u,v,ht,rfl,rfl,z1,z2⟩:=zq;exact hs i u v t ys σ' H' hlt (z1 xs qa) (z2 zs qb) hy p ht
 .have e:i=xs.length:=by lia
  subst e;exact .inl ⟨⟨xs,qa,⟨zs,qb⟩,aI1 _⟩,hd ys σ' H' hy p⟩
section
variable{X:Cx}{K:W.Frag}{tg:PySem.Expr}
theorem zh(hK:X.K=K){l:PySem.Expr}{tl:TE}(hl:PE X l tl):PI X tg l (BI K tl):=hK ▸Zjv hl
theorem K1(hK:X.K=K){l:PySem.Expr}{tl:TE}(hl:PE X l tl):PI X tg l (Hu K tl):=hK ▸ZkA hl
end
def Jw(K:W.Frag)(H:Hp):Nat->V->V->Bool->Prop
 |0,x,y,b=>cJ x=true/\cJ y=true/\b=sV x y
 | n+1,x,y,b=>(cJ x=true/\cJ y=true/\b=sV x y)\/∃(a c:Addr)(xs ys:List V)(e:Nat->Bool),x=.ref a/\y=.ref c/\(∀(i:Nat)(u v:V),xs[i]?=some u->ys[i]?=some v->Jw K H n u v (e i)) /\
   ((ao K H a xs/\ao K H c ys/\((xs.length=ys.length/\b=(List.range xs.length).all e)\/(xs.length≠ys.length/\b=false))) \/
    (aP K H a xs/\aP K H c ys/\b=((List.range (min xs.length ys.length)).all e && xs.length ==ys.length)))
theorem TL{x:V}(h:cJ x=true):sV x x=true:=by
 cases x with
 |aO=>rfl
 |bl b=>exact aro b
 |int i=>exact aro i
 |str z=>exact aro z
 |_=>exact absurd h a0V
section
variable{X:Cx}{pins:List (Addr×Obj)}{σ:St}{H:Hp}{s:Shared}
theorem Ol(I:Inv X pins σ H s):∀(n:Nat)(x:V)(b:Bool),Jw X.K H n x x b->b=true
 |0,x,b,⟨h1,_,h2⟩=>by rw[h2];exact TL h1
 |n+1,x,b,h=>by
  rcases h with⟨h1,_,h2⟩|⟨a,c,xs,ys,e,rfl,h2,hi,⟨ha,hc,hb⟩|⟨ha,hc,hb⟩⟩
  .rw [h2];exact TL h1
  .cases h2;have Nk:ys=xs:=I.fC hc ha;subst Nk;rcases hb with⟨_,hb⟩|⟨hb,_⟩
   .rw [hb,aT6];intro i hi';have hlt:=agO.mp hi';exact Ol I n ys[i] (e i) (hi i ys[i] ys[i] (a4h hlt) (a4h hlt))
   .exact absurd rfl hb
  .cases h2;have Nk:ys=xs:=I.fE hc ha;subst Nk;rw[hb,Nat.min_self,aro,Bool.and_true,aT6];intro i hi';have hlt:=agO.mp hi';exact Ol I n ys[i] (e i) (hi i ys[i] ys[i] (a4h hlt) (a4h hlt))
theorem EG{xs:List V}{us:List Value}(r:Vals xs us){j:Nat}(h:j<us.toArray.size):∃x,xs[j]?=some x/\RelV x us.toArray[j]:=by
 have hj:j<us.length:=by simpa using h
 have hx:j<xs.length:=by rw[r.length];exact hj
 obtain⟨u,hu,ru⟩:=r.get (i:=j) (x:=xs[j]) (a4h hx);rw[a4h hj]at hu;cases hu;exact⟨xs[j],a4h hx,by simpa using ru⟩
theorem NV(I:Inv X pins σ H s):∀(n:Nat)(A:Around)(x y:V)(u v:Value)(b:Bool),A.units+n<cLine->RelV x u->RelV y v->Jw X.K H n x y b->SeqAt.EqAt A s u v b
 |0,A,x,y,u,v,b,hu,rx,ry,⟨h1,h2,h3⟩=>by rw[h3];exact NO rx ry h1 h2
 |n+1,A,x,y,u,v,b,hu,rx,ry,h=>by
  rcases h with⟨h1,h2,h3⟩|⟨a,c,xs,ys,e,rfl,rfl,hi,hh⟩
  .rw [h3];exact NO rx ry h1 h2
  .cases rx;cases ry;by_cases hac:a=c
   .subst hac;have hb:b=true:=Ol I (n+1) (.ref a) b (.inr ⟨a,a,xs,ys,e,rfl,rfl,hi,hh⟩);rw[hb];exact SeqAt.EqAt.same _
   .have MO:A.units<cLine:=by lia
    have hu1:A.in1.units+n<cLine:=by
     have q:A.in1.units=A.units+1:=rfl;rw[q];lia
    refine SeqAt.EqAt.of_refs hac ?_;rcases hh with⟨ha,hc,hb⟩|⟨ha,hc,hb⟩
    .obtain ⟨its,r1,p1,_⟩:=I.list ha;obtain⟨its2,r2,p2,_⟩:=I.list hc;have l1:=r1.length;have l2:=r2.length;rcases hb with⟨hl,hb⟩|⟨hl,hb⟩
     .have q:=SeqAt.RcAt.lists (A:=A) (e:=e) p1.isList p2.isList (by simp;lia) MO λj h1 h2=>by
       obtain⟨x,hx,rx⟩:=EG r1 h1;obtain⟨y,hy,ry⟩:=EG r2 h2;exact NV I n A.in1 x y _ _ (e j) hu1 rx ry (hi j x y hx hy)
      rw[a6x,<-l1,<-hb]at q;exact q
     .rw [hb];exact SeqAt.RcAt.lists_lengths p1.isList p2.isList (by simp;lia) MO
    .obtain ⟨its,r1,p1,_⟩:=I.tuple ha;obtain⟨its2,r2,p2,_⟩:=I.tuple hc;have l1:=r1.length;have l2:=r2.length;have q:=SeqAt.RcAt.tuples (A:=A) (e:=e) (show s.heap.IsTuple a its.toArray from p1) (show s.heap.IsTuple c its2.toArray from p2) MO λj h1 h2=>by
      obtain⟨x,hx,rx⟩:=EG r1 h1;obtain⟨y,hy,ry⟩:=EG r2 h2;exact NV I n A.in1 x y _ _ (e j) hu1 rx ry (hi j x y hx hy)
     rw[a6x,a6x,<-l1,<-l2,<-hb]at q;exact q
end
section
variable{X:Cx}{K:W.Frag}
inductive F0(K:W.Frag) (n:Nat) (neg:Bool)(x:V)(y:V)(H:Hp)(Q:VK):Prop
 |mk (a c:Addr) (xs ys:List V) (e:Nat->Bool):x=.ref a->y=.ref c->(∀(i:Nat)(u v:V),xs[i]?=some u->ys[i]?=some v->Jw K H n u v (e i))->ao K H a xs->ao K H c ys->((xs.length=ys.length/\Q (.bl (if neg then !(List.range xs.length).all e else(List.range xs.length).all e)) H)\/(xs.length≠ys.length/\Q (.bl neg) H))->F0 K n neg x y H Q
theorem ZkP(n:Nat)(hu:X.A.units+1+n<cLine)(hK:X.K=K):jH X (compareOp .NotEq) (F0 K n true):=by
 subst hK;intro pins s σ H x y v u Q I rx ry h;obtain⟨a,c,xs,ys,e,rfl,rfl,hi,ha,hc,q⟩:=h;cases rx;cases ry;obtain⟨its,r1,p1,_⟩:=I.list ha;obtain⟨its2,r2,p2,_⟩:=I.list hc;have l1:=r1.length;have l2:=r2.length;have hu1:X.A.in1.units+n<cLine:=hu;rcases q with⟨hl,q⟩|⟨hl,q⟩
 .refine SeqAt.RcNeAt.lists (e:=e) p1.isList p2.isList (by simp;lia) (by lia) (λj h1 h2=>?_) X.prog X.w X.xe _ ⟨.bl _,H,I,rfl,?_⟩
  .obtain ⟨x,hx,rx⟩:=EG r1 h1;obtain⟨y,hy,ry⟩:=EG r2 h2;exact NV I n X.A.in1 x y _ _ (e j) hu1 rx ry (hi j x y hx hy)
  .rw [a6x,<-l1];exact q
 .exact SeqAt.RcNeAt.lists_lengths p1.isList p2.isList (by simp;lia) (by lia) X.prog X.w X.xe _ ⟨.bl true,H,I,rfl,q⟩
theorem qZ{A:Around}{k:Nat}(hr:aX k A)(n:Nat)(h:n<=60):A.units+1+n<cLine:=by have:=hr.units;lia
end
section
variable{X:Cx}
theorem Ox(hc:X.calm=true):aY X (.builtin "any") (λxs H Q=>∃(p:Addr)(bs:List Bool),xs=[.ref p]/\ao X.K H p (bs.map V.bl)/\Q (.bl (bs.any id)) H):=by
 intro pins s σ H xs us Q I r h;obtain⟨p,bs,rfl,hq,q⟩:=h;obtain⟨u,rfl,rx⟩:=vals1 r;cases rx;obtain⟨its,rv,pl,hz⟩:=I.list hq;have e:=Oz rv;subst e;refine call_any_walk (wpAny_pyIter_list pl.isList ?_);refine⟨s.heap.objs.size,_,[s.heap.objs.size],_,_,_,λi=>bs.getD i true,rfl,Walks.list (A:=X.A.in1) (show X.A.in1.handled=none from I.ok.hd hc) s.heap.objs.size p ?_ (bs.map Value.bool).toArray,⟨⟨_,awu _ rfl,rfl,rfl⟩,pl.isList.at λo e=>a8n _ e⟩,?_,?_⟩
 .obtain ⟨o,e,_⟩:=pl.isList;exact aor (aPy e)
 .intro i v s' Q' E' hP hQ;have vH:(bs.map Value.bool)[i]?=some v:=by simpa using hP
  rw[afQ]at vH;cases z:bs[i]? with
  |none=>rw[z]at vH;cases vH
  |some b=>
   rw[z]at vH;cases vH;have:bs.getD i true=b:=by rw[akz,z];rfl
   have HN:Q' (bs.getD i true) s':=hQ;rw[this]at HN;exact a3P HN
 .intro h' tk hk;refine⟨.bl (bs.any id),H,I.kept (t':=tk) (λb o e=>hk b o (by simpa using aor (aPy e)) (a8n _ e)),?_,q⟩;have z:(List.range bs.length).map (λi=>bs.getD i true)=bs:=UD _ λi b e=>by rw[akz,e];rfl
  have z2:(List.range bs.length).any (λi=>bs.getD i true)=bs.any id:=by
   conv=>rhs;rw[<-z]
   rw[any_map];rfl
  show Value.bool _=Value.bool _;have z3:(bs.map Value.bool).toArray.size=bs.length:=by simp
  rw[z3,z2]
end
theorem ZjL{K:W.Frag}{a b:Addr}{xs ys:List V}{g:TG}{tb:TS}{D:Ends}{σ:St}{H:Hp}(Pv:Nat->St->Hp->Prop)(hlen:xs.length=ys.length)(h0:Pv 0 σ H)(hl:∀i σ H,i<=xs.length->Pv i σ H->ao K H a xs/\ao K H b ys)
  (hs:∀i x y t σ H,xs[i]?=some x->ys[i]?=some y->Pv i σ H->H t=none->g (.ref t) σ (upd H t (.tup [x,y])) λσ2 H2=>tb { D with nx:=Pv (i+1),ct:=Pv (i+1),bk:=D.nx } σ2 H2) (hd:∀ σ H,Pv xs.length σ H->D.nx σ H) :
  ∃W:Nat->Nat->St->Hp->Prop,(∃m,W 0 m σ H)/\∀i m σ H,W i m σ H ->
   ((AV K a b).stop i H/\D.nx σ H)\/((AV K a b).go i H/\∃N:St->Hp->Prop,(∀ σ' H',N σ' H'->∃m',m'<m/\W (i+1) m' σ' H')/\∀x H',(AV K a b).sr i H x H'->g x σ H' λσ2 H2=>tb { D with nx:=N,ct:=N,bk:=D.nx } σ2 H2):=by
 refine⟨λi m σ H=>m=xs.length-i/\i<=xs.length/\Pv i σ H,⟨xs.length,by simp,acY _,h0⟩,?_⟩;rintro i m σ H ⟨rfl,hi,p⟩;obtain⟨q1,q2⟩:=hl i σ H hi p;by_cases hlt:i<xs.length
 .have MT:i<ys.length:=hlen ▸hlt;refine .inr ⟨⟨xs,ys,xs[i],ys[i],q1,q2,by simp[hlt],by simp[MT]⟩,Pv (i+1),λσ' H' p'=>⟨xs.length-(i+1),by lia,rfl,hlt,p'⟩,λx H' y=>?_⟩;obtain⟨t,x1,y1,ht,rfl,rfl,hx,hy⟩:=y;exact hs i x1 y1 t σ _ (hx xs q1) (hy ys q2) p ht
 .have e:i=xs.length:=by lia
  subst e;exact .inl ⟨⟨xs,ys,q1,q2,.inl (aI1 _)⟩,hd σ H p⟩
end L2
namespace L2.UO
open PySem PySem.Spec PyProof.Rows
def Rk(ρ:Keyed->Nat)(xs:Array Keyed)(i:Nat):Nat:=(xs[i]?).elim 0 ρ
theorem IU{ρ:Keyed->Nat}{xs ys:Array Keyed}{i j:Nat}(h:xs[i]?=ys[j]?):Rk ρ xs i=Rk ρ ys j:=by unfold Rk;rw[h]
def gQ(ρ:Keyed->Nat)(xs:Array Keyed)(i j:Nat):Prop:=K xs i<K xs j\/(K xs i=K xs j/\Rk ρ xs i<Rk ρ xs j)
theorem gQ.trans{ρ:Keyed->Nat}{xs:Array Keyed}{i j k:Nat}(h1:gQ ρ xs i j)(h2:gQ ρ xs j k):gQ ρ xs i k:=by
 unfold gQ at *;lia
def sf(ρ:Keyed->Nat)(xs:Array Keyed)(n:Nat):Prop:=∀i j,i<j->j<n->gQ ρ xs i j
def Dec(ρ:Keyed->Nat)(xs:Array Keyed)(n:Nat):Prop:=∀i j,i<j->j<n->gQ ρ xs j i
def jt(ρ:Keyed->Nat)(xs:Array Keyed)(n:Nat):Prop:=∀i,n<=i->i<xs.size->Rk ρ xs i=i
theorem jt.mono{ρ:Keyed->Nat}{xs:Array Keyed}{m n:Nat}(h:jt ρ xs m)(l:m<=n):jt ρ xs n:=λi hi hs=>h i (atR l hi) hs
theorem KD{ρ:Keyed->Nat}{xs:Array Keyed}{i:Nat}(h:i<xs.size):(xs.toList.map ρ)[i]?=some (Rk ρ xs i):=by
 unfold Rk;rw[afQ,aq8,aE5 h];rfl
structure Inj(ρ:Keyed->Nat)(xs:Array Keyed):Prop where
 inj:∀i j,i<xs.size->j<xs.size->Rk ρ xs i=Rk ρ xs j->i=j
 lt:∀i,i<xs.size->Rk ρ xs i<xs.size
theorem ZkQ{ρ:Keyed->Nat}{xs a₀:Array Keyed}(p:xs.Perm a₀)(h0:jt ρ a₀ 0):Inj ρ xs:=by
 have e0:a₀.toList.map ρ=List.range a₀.size:=by
  apply aO0;intro i;by_cases h:i<a₀.size
  .rw [KD h,ad4 h,h0 i (acY _) h]
  .rw [aG2 (by simpa using h),aG2 (by simpa using h)]
 have pm:(xs.toList.map ρ).Perm (List.range a₀.size):=by rw[<-e0];exact(au9.mp p).map ρ
 have nd:(xs.toList.map ρ).Nodup:=pm.nodup_iff.mpr List.nodup_range;refine⟨λi j hi hj e=>?_,λi hi=>?_⟩
 .refine (List.getElem?_inj (by rw[apM,apo];exact hi) nd).mp ?_;rw[KD hi,KD hj,e]
 .have m:Rk ρ xs i∈xs.toList.map ρ:=aHL (KD hi);have:=agO.mp (pm.mem_iff.mp m);rw[p.size_eq];exact this
theorem Inj.below{ρ:Keyed->Nat}{xs:Array Keyed}(I:Inj ρ xs){n:Nat}(h:jt ρ xs n){i:Nat}(hi:i<n)(hs:i<xs.size):Rk ρ xs i<n:=by
 by_cases c:Rk ρ xs i<n
 .exact c
 .have l:=I.lt i hs;have e:=h (Rk ρ xs i) (by lia) l;have:=I.inj _ _ l hs e;lia
theorem Ov{ρ:Keyed->Nat}{xs:Array Keyed}{src d:Nat}(hs:src<xs.size)(hd:d<=src)(k:Nat) :
  Rk ρ (bubble xs src d) k=if k=src-d then Rk ρ xs src else if src-d<k/\k<=src then Rk ρ xs (k-1) else Rk ρ xs k:=by
 have e:=getElem?_bubble hs d hd k;by_cases h1:k=src-d
 .rw [auJ h1]at e ⊢;exact IU e
 .rw [ale h1]at e ⊢;by_cases h2:src-d<k/\k<=src
  .rw [auJ h2]at e ⊢;exact IU e
  .rw [ale h2]at e ⊢;exact IU e
theorem AF{ρ:Keyed->Nat}{xs:Array Keyed}{i j:Nat}(hj:j<=xs.size)(k:Nat) :
  Rk ρ (mirror xs i j ((j-i)/2)) k=if i<=k/\k<j then Rk ρ xs (i+j-1-k) else Rk ρ xs k:=by
 have e:=getElem?_mirror_all (i:=i) hj k;by_cases h1:i<=k/\k<j
 .rw [auJ h1]at e ⊢;exact IU e
 .rw [ale h1]at e ⊢;exact IU e
section
variable{prog:Program}{w:World}{A:Around}{E:Value->Shared->Prop}{s:Shared}{a₀:Array Keyed}{ρ:Keyed->Nat}
theorem SB.inj{st:SortSt}(h:SBase a₀ st)(hr:jt ρ a₀ 0):Inj ρ (arrOf st):=ZkQ h.perm hr
theorem ZkR{st:SortSt}{n ok:Nat}{Q:Bool->SortSt->Prop}(h0:IntKeys a₀)(hr:jt ρ a₀ 0)(hn:n<=a₀.size)(hok:ok<=n)(Yo:1<=ok)(hB:SBase a₀ st)(hs:sf ρ (arrOf st) ok)(hI:jt ρ (arrOf st) ok)
  (h:∀st',SBase a₀ st'->sf ρ (arrOf st') n->Q true st'):wpS (model prog w) A E s (binarySort' 0 n ok) Q st:=by
 rw[binarySort'_eq];simp only[aOY];refine aTR (arH (aFh (I:=λk c st1=>c=(none,())/\SBase a₀ st1/\sf ρ (arrOf st1) (min k n)/\jt ρ (arrOf st1) (min k n))
  (Q:=λc st1=>c=(none,())/\SBase a₀ st1/\sf ρ (arrOf st1) n) ?turn ?last ?first) ?after)
 case after=>
  rintro c st1 ⟨rfl,b1,i1⟩;exact arI (h st1 b1 i1)
 case first=>
  rw[show min (max ok 1) n=ok by lia];exact⟨rfl,hB,hs,hI⟩
 case last=>
  rintro c st1 ⟨hc,b1,i1,_⟩;rw[show min (max (max ok 1) n) n=n by lia]at i1;exact⟨hc,b1,i1⟩
 case turn=>
  rintro k c st1 Yi hkn ⟨rfl,b1,i1,d1⟩;rw[show min k n=k by lia]at i1 d1;have hk:k<a₀.size:=by lia
  have sz:=b1.size;have J:=SB.inj b1 hr;have rk:Rk ρ (arrOf st1) k=k:=d1 k (aI1 _) (by lia);have lo:∀m,m<k->¬K (arrOf st1) k<K (arrOf st1) m->gQ ρ (arrOf st1) m k:=λm hm c=>by
   have:=J.below d1 hm (by lia);unfold gQ;lia
  refine aTR (arH (aFh (I:=λx c st2=>st2=st1/\∃l r,c=(none,l,r)/\l<=r/\r<=k/\r-l<=k-x/\(∀i,i<l->gQ ρ (arrOf st1) i k)/\(∀i,r<=i->i<k->gQ ρ (arrOf st1) k i))
   (Q:=λc st2=>st2=st1/\∃l r,c=(none,l,r)/\l<=k/\(∀i,i<l->gQ ρ (arrOf st1) i k)/\(∀i,l<=i->i<k->gQ ρ (arrOf st1) k i)) ?iturn ?ilast ?ifirst) ?iafter)
  case ifirst=>exact⟨rfl,0,k,rfl,by lia,by lia,by lia,λi hi=>absurd hi (by lia),λi p q=>absurd q (by lia)⟩
  case ilast=>
   rintro c st2 ⟨rfl,l,r,rfl,hlr,hrk,hm,u1,u2⟩;have e:l=r:=by lia
   subst e;exact⟨rfl,l,l,rfl,hrk,u1,u2⟩
  case iturn=>
   rintro x c st2 _ hxk ⟨rfl,l,r,rfl,hlr,hrk,hm,u1,u2⟩;dsimp only;by_cases hge:l ≥ r
   .rw [auJ hge];have e:l=r:=by lia
    subst e;exact arI ⟨rfl,l,l,rfl,hrk,u1,u2⟩
   .rw [ale hge];refine aTR (wpS_ltK b1 h0 hk (by lia) ?_);by_cases c:K (arrOf st2) k<K (arrOf st2) ((l+r)/2)
    .simp only[c,alY,aEa];refine arI ⟨rfl,l,(l+r)/2,rfl,by lia,by lia,by lia,u1,λi p q=>?_⟩;by_cases e:i=(l+r)/2
     .subst e;exact .inl c
     .exact gQ.trans (.inl c) (i1 _ _ (by lia) q)
    .simp only[c,aR8,aKG,a2l];refine arI ⟨rfl,(l+r)/2+1,r,rfl,by lia,by lia,by lia,λi p=>?_,u2⟩;have v:=lo _ (by lia) c;by_cases e:i=(l+r)/2
     .subst e;exact v
     .exact gQ.trans (i1 _ _ (by lia) (by lia)) v
  case iafter=>
   rintro c st2 ⟨rfl,l,r,rfl,hlk,u1,u2⟩;show wpS _ _ _ _ (do moveDown' k l;pure (ForInStep.yield (none,()))) _ _;rw[moveDown'_eq];refine aTR (aCl (arI ⟨rfl,b1.setArr (bubble_perm _ _ _),?_,?_⟩))
   .rw [show min (k+1) n=k+1 by lia];have hks:k<(arrOf st2).size:=by lia
    intro i j hij hj;show gQ ρ (bubble (arrOf st2) k (k-l)) i j;unfold gQ;rw[K_bubble hks (by lia),K_bubble hks (by lia),Ov hks (by lia),Ov hks (by lia),show k-(k-l)=l by lia];by_cases a1:i=l
    .have BV:¬j=l:=by lia
     have Rr:l<j/\j<=k:=by lia
     rw[auJ a1,auJ a1,ale BV,ale BV,auJ Rr,auJ Rr];exact u2 _ (by lia) (by lia)
    .rw [ale a1,ale a1];by_cases a2:j=l
     .have BV:¬(l<i/\i<=k):=by lia
      rw[auJ a2,auJ a2,ale BV,ale BV];exact u1 _ (by lia)
     .rw [ale a2,ale a2];by_cases a3:l<i/\i<=k
      .have BV:l<j/\j<=k:=by lia
       rw[auJ a3,auJ a3,auJ BV,auJ BV];exact i1 _ _ (by lia) (by lia)
      .rw [ale a3,ale a3];by_cases a4:l<j/\j<=k
       .rw [auJ a4,auJ a4];by_cases a5:i<j-1
        .exact i1 _ _ a5 (by lia)
        .exfalso;lia
       .rw [ale a4,ale a4];exact i1 _ _ (by lia) (by lia)
   .rw [show min (k+1) n=k+1 by lia];intro i hi hs';have hs2:i<(arrOf st2).size:=by
     have:(arrOf (setArr st2 (bubble (arrOf st2) k (k-l)))).size=(arrOf st2).size:=bubble_size _ _ _;lia
    show Rk ρ (bubble (arrOf st2) k (k-l)) i=i;rw[Ov (by lia) (by lia),ale (by lia),ale (by lia)];exact d1 i (by lia) hs2
theorem RZ{st:SortSt}{a nrem:Nat}{Q:AscSt->SortSt->Prop}(h0:IntKeys a₀)(hr:jt ρ a₀ 0)(hn:nrem<=a₀.size)(ha:1<=a)(han:a<=nrem)(hB:SBase a₀ st)(hs:sf ρ (arrOf st) a)(hI:jt ρ (arrOf st) a)
  (h:∀n,a<=n->n<=nrem->sf ρ (arrOf st) n->(n=nrem\/K (arrOf st) n<K (arrOf st) (n-1))->Q (none,n) st):wpS (model prog w) A E s (ascLoop a nrem) Q st:=by
 unfold ascLoop;have sz:=hB.size;have J:=SB.inj hB hr;refine aFh (I:=λx c st1=>st1=st/\c=(none,x)/\sf ρ (arrOf st) x) ?turn ?last ⟨rfl,rfl,hs⟩
 case last=>
  rintro c st1 ⟨rfl,rfl,i1⟩;rw[show max a nrem=nrem by lia]at i1 ⊢;exact h nrem han (aI1 _) i1 (.inl rfl)
 case turn=>
  rintro x c st1 hax hxn ⟨rfl,rfl,i1⟩;dsimp only;refine aTR (wpS_ltK hB h0 (by lia) (by lia) ?_);by_cases c:K (arrOf st1) x<K (arrOf st1) (x-1)
  .simp only[c,alY,aEa];exact arI (h x hax (by lia) i1 (.inr c))
  .simp only[c,aR8,aKG,a2l];refine arI ⟨rfl,rfl,λi j hij hj=>?_⟩;by_cases hjx:j<x
   .exact i1 i j hij hjx
   .have ej:j=x:=by lia
    subst ej;have dx:=hI.mono hax;have r1:=J.below dx (i:=j-1) (by lia) (by lia);have r2:=dx j (aI1 _) (by lia);have v:gQ ρ (arrOf st1) (j-1) j:=by unfold gQ;lia
    by_cases e:i=j-1
    .subst e;exact v
    .exact gQ.trans (i1 i (j-1) (by lia) (by lia)) v
theorem Tf{st:SortSt}{n nrem:Nat}{Q:Option Nat->SortSt->Prop}(h0:IntKeys a₀)(hr:jt ρ a₀ 0)(hn:nrem<=a₀.size)(h1:1<=n)(hnn:n<=nrem)(hB:SBase a₀ st)(hs:Dec ρ (arrOf st) n)(hI:jt ρ (arrOf st) n)
  (h:∀m st',SBase a₀ st'->1<=m->m<=nrem->sf ρ (arrOf st') m->jt ρ (arrOf st') m->Q (some m) st'):wpS (model prog w) A E s (tail3 n nrem) Q st:=by
 unfold tail3;have sz:=hB.size;refine aTR (bba ?_);have b1:SBase a₀ (setArr st (mirror (arrOf st) 0 n ((n-0)/2))):=hB.setArr (amm _ _ _ _);have d1:jt ρ (mirror (arrOf st) 0 n ((n-0)/2)) n:=λi hi hs'=>by
  rw[mirror_size]at hs';rw[AF (by lia),ale (by lia)];exact hI i hi hs'
 refine aTR (RZ h0 hr hn h1 hnn b1 ?_ d1 λm m1 m2 i2 _=>arI (h m _ b1 (by lia) m2 i2 (d1.mono m1)));intro i j hij hj;show gQ ρ (mirror (arrOf st) 0 n ((n-0)/2)) i j;unfold gQ;rw[K_mirror (by lia),K_mirror (by lia),AF (by lia),AF (by lia),auJ (by lia),auJ (by lia),auJ (by lia),auJ (by lia)];exact hs _ _ (by lia) (by lia)
structure DI(ρ:Keyed->Nat)(xs:Array Keyed)(x q:Nat):Prop where
 l:q+1<=x
 sz:x<=xs.size
 d:Dec ρ xs (x-(q+1))
 u:∀i j,i<x-(q+1)->x-(q+1)<=j->j<x->K xs j<K xs i
 e:∀i,x-(q+1)<=i->i<x->K xs i=K xs (x-1)
 f:jt ρ xs (x-(q+1))
theorem DI.Ic{xs:Array Keyed}{x:Nat}(h:DI ρ xs x 0):Dec ρ xs x:=λi j hij hj=>by
 by_cases c:j<x-(0+1)
 .exact h.d i j hij c
 .exact .inl (h.u i j (by lia) (by lia) hj)
theorem DI.rev{xs:Array Keyed}{x q:Nat}(h:DI ρ xs x q):Dec ρ (mirror xs (x-(q+1)) x ((x-(x-(q+1)))/2)) x/\jt ρ (mirror xs (x-(q+1)) x ((x-(x-(q+1)))/2)) x:=by
 have hl:=h.l;have hz:=h.sz;refine⟨λi j hij hj=>?_,λi hi hs=>?_⟩
 .have ke:=K_mirror_equal (i:=x-(q+1)) hz h.e;unfold gQ;rw[ke,ke,AF hz,AF hz];by_cases c1:j<x-(q+1)
  .rw [ale (by lia),ale (by lia)];exact h.d i j hij c1
  .by_cases c2:i<x-(q+1)
   .exact .inl (h.u i j c2 (by lia) hj)
   .rw [auJ (by lia),auJ (by lia)];refine .inr ⟨(h.e j (by lia) hj).trans (h.e i (by lia) (by lia)).symm,?_⟩;rw[h.f _ (by lia) (by lia),h.f _ (by lia) (by lia)];lia
 .rw [mirror_size]at hs;rw[AF hz,ale (by lia)];exact h.f i (by lia) hs
theorem DI.of{xs:Array Keyed}{x:Nat}(hx:1<=x)(hz:x<xs.size)(hd:Dec ρ xs x)(hf:jt ρ xs x)(hk:K xs x<K xs (x-1)):DI ρ xs (x+1) 0:=by
 refine⟨by lia,by lia,hd,λi j hi hj hj'=>?_,λi hi hi'=>?_,hf⟩
 .have ej:j=x:=by lia
  subst ej;by_cases e:i=j-1
  .subst e;exact hk
  .have v:=hd i (j-1) (by lia) (by lia);unfold gQ at v;lia
 .have ei:i=x:=by lia
  subst ei;rfl
theorem DI.more{xs:Array Keyed}{x q:Nat}(h:DI ρ xs x q)(hz:x<xs.size)(hk:K xs x=K xs (x-1)):DI ρ xs (x+1) (q+1):=by
 have hl:=h.l;have e0:x+1-(q+1+1)=x-(q+1):=by lia
 refine⟨by lia,by lia,by rw[e0];exact h.d,λi j hi hj hj'=>?_,λi hi hi'=>?_,by rw[e0];exact h.f⟩
 .rw [e0]at hi hj;by_cases c:j<x
  .exact h.u i j hi hj c
  .have ej:j=x:=by lia
   subst ej;rw[hk];exact h.u i (j-1) hi (by lia) (by lia)
 .rw [show x+1-1=x by lia];by_cases c:i<x
  .rw [hk];exact h.e i (by lia) c
  .have ei:i=x:=by lia
   subst ei;rfl
theorem ZjM{st:SortSt}{n nrem:Nat}{Q:DescSt->SortSt->Prop}(h0:IntKeys a₀)(hn:nrem<=a₀.size)(hnn:n<=nrem)(hB:SBase a₀ st)(hs:DI ρ (arrOf st) n 0)
  (h:∀m q st',SBase a₀ st'->m<=nrem->DI ρ (arrOf st') m q->Q (none,m,q) st'):wpS (model prog w) A E s (descLoop n nrem) Q st:=by
 unfold descLoop;refine aFh (I:=λx c st1=>∃q,c=(none,x,q)/\SBase a₀ st1/\DI ρ (arrOf st1) x q) ?turn ?last ⟨0,rfl,hB,hs⟩
 case last=>
  rintro c st1 ⟨q,rfl,b1,d1⟩;rw[show max n nrem=nrem by lia]at d1 ⊢;exact h nrem q st1 b1 (aI1 _) d1
 case turn=>
  rintro x c st1 hax hxn ⟨q,rfl,b1,d1⟩;dsimp only;have sz:=b1.size;have hl:=d1.l;refine aTR (wpS_ltK b1 h0 (by lia) (by lia) ?_);by_cases c:K (arrOf st1) x<K (arrOf st1) (x-1)
  .simp only[c,alY,aEa];by_cases hq:q>0
   .rw [auJ hq];obtain⟨r1,r2⟩:=d1.rev;refine aTR (bba (arI ⟨0,rfl,b1.setArr (amm _ _ _ _),DI.of (by lia) (by show x<(mirror _ _ _ _).size;rw[mirror_size];lia) r1 r2 ?_⟩));show K (mirror _ _ _ _) x<K (mirror _ _ _ _) (x-1);rw[K_mirror_equal d1.sz d1.e,K_mirror_equal d1.sz d1.e];exact c
   .rw [ale hq];have e:q=0:=by lia
    subst e;exact arI ⟨0,rfl,b1,DI.of (by lia) (by lia) d1.Ic (d1.f.mono (by lia)) c⟩
  .simp only[c,aR8,aKG,a2l];refine aTR (wpS_ltK b1 h0 (by lia) (by lia) ?_);by_cases c2:K (arrOf st1) (x-1)<K (arrOf st1) x
   .simp only[c2,alY,aEa];exact arI (h x q st1 b1 (by lia) d1)
   .simp only[c2,aR8,aKG,a2l];exact arI ⟨q+1,rfl,b1,d1.more (by lia) (by lia)⟩
theorem Te{st:SortSt}{n nrem:Nat}{Q:Option Nat->SortSt->Prop}(h0:IntKeys a₀)(hr:jt ρ a₀ 0)(hn:nrem<=a₀.size)(hnn:n+1<=nrem)(hB:SBase a₀ st)(hs:DI ρ (arrOf st) (n+1) 0)
  (h:∀m st',SBase a₀ st'->1<=m->m<=nrem->sf ρ (arrOf st') m->jt ρ (arrOf st') m->Q (some m) st'):wpS (model prog w) A E s (descPart n nrem) Q st:=by
 unfold descPart;refine aTR (wpS_lift (aQS ⟨rfl,?_⟩));refine aTR (ZjM h0 hn hnn hB hs λm q st1 b1 m2 d1=>?_);dsimp only;have hl:=d1.l;by_cases hq:q>0
 .rw [auJ hq];obtain⟨r1,r2⟩:=d1.rev;exact aTR (bba (Tf h0 hr hn (by lia) m2 (b1.setArr (amm _ _ _ _)) r1 r2 h))
 .rw [ale hq];have e:q=0:=by lia
  subst e;exact Tf h0 hr hn (by lia) m2 b1 d1.Ic (d1.f.mono (by lia)) h
theorem Zij{st:SortSt}{nrem:Nat}{Q:Option Nat->SortSt->Prop}(h0:IntKeys a₀)(hr:jt ρ a₀ 0)(hn:nrem<=a₀.size)(h1:1<=nrem)(hB:SBase a₀ st)(hI:jt ρ (arrOf st) 0)
  (h:∀m st',SBase a₀ st'->1<=m->m<=nrem->sf ρ (arrOf st') m->jt ρ (arrOf st') m->Q (some m) st'):wpS (model prog w) A E s (countRun' 0 nrem) Q st:=by
 rw[countRun0_eq];have sz:=hB.size;refine aTR (RZ h0 hr hn (aI1 1) h1 hB (λi j hij hj=>absurd hj (by lia)) (hI.mono (acY _)) λn n1 n2 i1 hor=>?_);dsimp only;by_cases e:n=nrem
 .rw [auJ (by simpa using e)];exact arI (h n st hB n1 n2 i1 (hI.mono (acY _)))
 .rw [ale (by simpa using e)];have lt:K (arrOf st) n<K (arrOf st) (n-1):=hor.resolve_left e;by_cases g:n>1
  .rw [auJ g];refine aTR (wpS_ltK hB h0 (by lia) (by lia) ?_);by_cases c:K (arrOf st) 0<K (arrOf st) (n-1)
   .simp only[c,alY,aEa];exact arI (h n st hB n1 n2 i1 (hI.mono (acY _)))
   .simp only[c,aR8,aKG,a2l];have all:∀k,0<=k->k<n->K (arrOf st) k=K (arrOf st) (n-1):=by
     intro k _ hk;have a1:k=0\/gQ ρ (arrOf st) 0 k:=by
      by_cases z:k=0
      .exact .inl z
      .exact .inr (i1 0 k (by lia) hk)
     have a2:k=n-1\/gQ ρ (arrOf st) k (n-1):=by
      by_cases z:k=n-1
      .exact .inl z
      .exact .inr (i1 k (n-1) (by lia) (by lia))
     have a3:=i1 0 (n-1) (by lia) (by lia);unfold gQ at a1 a2 a3;rcases a1 with a1|a1
     .subst a1;lia
     .rcases a2 with a2|a2
      .subst a2;rfl
      .lia
    have ke:=K_mirror_equal (xs:=arrOf st) (i:=0) (j:=n) (by lia) all;refine aTR (bba (Te h0 hr hn (by lia) (hB.setArr (amm _ _ _ _)) (DI.of (by lia) (by show n<(mirror _ _ _ _).size;rw[mirror_size];lia) (λi j hij hj=>?_) (λi hi hs=>?_) ?_) h))
    .show gQ ρ (mirror (arrOf st) 0 n ((n-0)/2)) j i;unfold gQ;rw[ke,ke,all i (by lia) (by lia),all j (by lia) hj,AF (by lia),AF (by lia),auJ (by lia),auJ (by lia),hI _ (by lia) (by lia),hI _ (by lia) (by lia)];lia
    .have hs':i<(mirror (arrOf st) 0 n ((n-0)/2)).size:=hs;rw[mirror_size]at hs';show Rk ρ (mirror (arrOf st) 0 n ((n-0)/2)) i=i;rw[AF (by lia),ale (by lia)];exact hI i (by lia) hs'
    .show K (mirror (arrOf st) 0 n ((n-0)/2)) n<K (mirror (arrOf st) 0 n ((n-0)/2)) (n-1);rw[ke,ke];exact lt
  .rw [ale g];have en:n=1:=by lia
   subst en;exact Te h0 hr hn (by lia) hB (DI.of (by lia) (by lia) (λi j hij hj=>absurd hj (by lia)) (hI.mono (acY _)) lt) h
def vL(ρ:Keyed->Nat)(a₀:Array Keyed)(st:SortSt):Prop:=(arrOf st).Perm a₀/\failedOf st=none/\pendingOf st=#[(0,a₀.size,0)]/\sf ρ (arrOf st) a₀.size
theorem vL.of{st:SortSt}(hB:SBase a₀ st)(hs:sf ρ (arrOf st) a₀.size):vL ρ a₀ (setPending st ((pendingOf st).push (0,a₀.size,0))):=
 ⟨hB.perm,hB.failed,by show(pendingOf st).push _=_;rw[hB.pend];rfl,hs⟩
theorem ZjN{st:SortSt}{Q:Unit->SortSt->Prop}(h0:IntKeys a₀)(hr:jt ρ a₀ 0)(hB:SBase a₀ st)(hI:jt ρ (arrOf st) 0)(h2:2<=a₀.size)(h64:a₀.size<64)
  (h:∀st',(arrOf st').Perm a₀->failedOf st'=none->sf ρ (arrOf st') a₀.size->Q () st'):wpS (model prog w) A E s sortRuns' Q st:=by
 rw[sortRuns'_eq];refine aTR (axd ?_);dsimp only;have mr:minRun' a₀.size a₀.size 0=a₀.size:=by
  obtain⟨f,hf⟩:∃f,a₀.size=f+1:=⟨a₀.size-1,by lia⟩;have e:minRun' (f+1) a₀.size 0=a₀.size:=by
   rw[minRun'_succ,auJ h64];rfl
  rwa [<-hf]at e
 simp only[hB.size,mr];refine aTR (arH (aFh
  (I:=λx c st1=>(x=0/\c=(none,0)/\SBase a₀ st1/\jt ρ (arrOf st1) 0)\/(1<=x/\c=(none,a₀.size)/\vL ρ a₀ st1))
  (Q:=λc st1=>c=(none,a₀.size)/\vL ρ a₀ st1) ?turn ?last (.inl ⟨rfl,rfl,hB,hI⟩)) ?after)
 case last=>
  rintro c st1 (⟨hx,_⟩|⟨_,hc,hD⟩)
  .lia
  .exact ⟨hc,hD⟩
 case turn=>
  rintro x c st1 _ hx (⟨rfl,rfl,b1,i1⟩|⟨Qs,rfl,hD⟩)
  .dsimp only;rw[ale (by lia)];simp only[Nat.sub_zero,Nat.min_self,aOY];refine aTR (Zij h0 hr (aI1 _) (by lia) b1 i1 λm st2 b2 m1 m2 s2 d2=>?_);dsimp only;by_cases lt:m<a₀.size
   .rw [auJ lt];refine aTR (wpS_lift (aQS ⟨rfl,?_⟩));refine aTR (ZkR h0 hr (aI1 _) m2 m1 b2 s2 d2 λst3 b3 s3=>?_);simp only[amL,aKG,a2l];refine aTR (axd ?_);have hb:(pendingOf st3).back?=none:=by
     rw[b3.pend];rfl
    rw[hb];dsimp only;exact aTR (aCl (arI (.inr ⟨by lia,rfl,vL.of b3 s3⟩)))
   .rw [ale lt];have em:m=a₀.size:=by lia
    subst em;refine aTR (axd ?_);have hb:(pendingOf st2).back?=none:=by
     rw[b2.pend];rfl
    rw[hb];dsimp only;exact aTR (aCl (arI (.inr ⟨by lia,rfl,vL.of b2 s2⟩)))
  .dsimp only;rw[auJ (aI1 _)];exact arI ⟨rfl,hD⟩
 case after=>
  rintro c st1 ⟨rfl,hD⟩;dsimp only;refine aTR (arH (aFh (I:=λ_ c st2=>st2=st1/\c=(none,())) (Q:=λc st2=>st2=st1/\c=(none,())) ?_ (λ_ _ hh=>hh) ⟨rfl,rfl⟩) ?_)
  .rintro x c st2 _ _ ⟨rfl,rfl⟩;refine aTR (axd ?_);rw[auJ (by rw[hD.2.2.1];exact aI1 1)];exact arI ⟨rfl,rfl⟩
  .rintro c st2 ⟨rfl,rfl⟩;exact arI (h _ hD.1 hD.2.1 hD.2.2.2)
end
end L2.UO
namespace L2
open PySem PySem.Spec PyProof.Rows
def BMod(base:Heap)(mg:Str->Option Value):Prop:=∃bm o,mg "__builtins__"=some (.ref bm)/\bm≠builtinsNs/\bm≠mainGlobals/\base.get? bm=some o/\o.cls=.type "module" /\o.dict=some builtinsNs/\o.data=.plain
section
variable{X:Cx}{pins:List (Addr×Obj)}{σ:St}{H:Hp}{s:Shared}
theorem Inv.grown{P c':Addr}{pos:Pos}{qual:Str}{ps:Array Value}{h':Heap}{tk:Nat}(I:Inv X pins σ H s)(hP:H P=some (.oF pos qual))(hx:Heap.ExtBut P s.heap h')(hge:s.heap.objs.size<=c')(hrec:h'.CodeRec (.ref c') qual)
  (htr:TriplesOk ps.toList) (hnf:codeAmong pos ps.toList=none) (htb:h'.get? P=some { cls:=.none,data:=.fields (ps++#[rawInt pos.line,rawInt pos.col,.ref c']) }) :
  ∃oc vs t,h'.get? c'=some oc/\oc.data=.fields vs/\vs[1]?=some (.str qual t)/\Inv X pins σ (upd H c' (.cU oc (.own P))) { s with heap:=h',toks:=tk }:=by
 obtain⟨c,oc,vs,t,z,hoc,hd,hv⟩:=hrec;cases z;have fr:H c'=none:=I.hok.fresh hge;have nP:∀b,H b=none->b≠P:=λb n z=>by rw[z,hP]at n;cases n
 have nc:∀b u,H b=some u->b≠c':=λb u e=>Zf e fr;have nh:∀b o,s.heap.get? b=some o->b≠c':=λb o e=>aor (aKk (aPy e) hge);have cP:c'≠P:=λz=>by rw[z,hP]at fr;cases fr
 refine⟨oc,vs,t,hoc,hd,hv,I.step (g':=s.gens) (d':=s.drawn) (t':=tk) (ch:=[]) (h':=h') (H':=upd H c' (.cU oc (.own P))) (λ_ z=>nomatch z) (λb o _ _ _ e n=>hx b o (nP b n) e) (λb o _ _ _ e n=>⟨o.slots,hx b o (nP b n) e⟩)
  (λb o _ e n=>by rw[Zc (nh b o e)];exact n) (λb o _ e=>?_) (λb xs e=>by rw[Zc (nc b _ e)];exact e) (λb o u e=>by rw[Zc (nc b _ e)];exact e) (λb p q e=>by rw[Zc (nc b _ e)];exact e) (λm hm=>?_) (λb u e=>?_) I.bare⟩
 .by_cases hb:b=P
  .subst hb;exact⟨_,htb⟩
  .exact ⟨o,hx b o hb e⟩
 .obtain ⟨o,es,ep,ho,r⟩:=hm;exact⟨o,es,ep,hx _ o (nP _ I.free) ho,r⟩
 .by_cases hb:b=c'
  .subst hb;rw[Za]at e;cases e;exact⟨hoc,_,hoc⟩
  .rw [Zc hb]at e;by_cases QK:b=P
   .subst QK;rw[hP]at e;cases e;have e1:(ps++#[rawInt pos.line,rawInt pos.col,Value.ref c']).toList=ps.toList++[rawInt pos.line,rawInt pos.col,.ref c']:=by simp
    refine⟨_,htb,?_,λcv hc=>?_⟩
    .rw [e1];exact TriplesOk_snoc _ _ _ _ htr
    .rw [e1,codeAmong_snoc _ htr hnf]at hc;cases hc;exact⟨c',oc,vs,t,rfl,Za,hd,hv⟩
   .refine (I.hok b u e).stay (λd v hd' q=>hx d v ?_ q) (λd q=>by rw[Zc (nc d _ q)];exact q) (λd xs q=>by rw[Zc (nc d _ q)];exact q) λd oz q=>by rw[Zc (nc d _ q)];exact q
    rcases hd' with rfl|hd'
    .exact QK
    .intro z;rw[z,hP]at hd';cases hd'
structure rY(X:Cx)(scope:Scope)(x:Str)(fr:List Str)(js:List Nat):Prop where
 kind:scope.kind=.function
 co:scope.isCoroutine=false
 gen:scope.isGenerator=false
 xZ:∀y∈scope.names,y.2≠.cell
 par:scope.names.lookup x=some .local
 free:∀y∈scope.names,y.2=.free->X.env.kindOf y.1=some .cell\/X.env.kindOf y.1=some .free
 len:fr.length=js.length
 js:∀(k j:Nat),js[k]?=some j->fr[k]?=X.N[j]?
 jf:∀(k:Nat)(y:Str),fr[k]?=some y->scope.names.lookup y=some .free
def jG(X:Cx)(A:Around)(N:List Str)(qual:Str)(scope:Scope)(f:Addr)(cd:Value)(cl:List (Str×Addr))(s:Shared)(H:Hp):Cx where
 prog:=X.prog
 w:=X.w
 K:=X.K
 mg:=X.mg
 base:=X.base
 A:=A.deeper (W.envX qual scope s.heap.objs.size f cd cl)
 N:=N
 s₀:=s
 H₀:=H
 env:=W.envX qual scope s.heap.objs.size f cd cl
 outer:=X.stack
 stack:=W.envX qual scope s.heap.objs.size f cd cl ::X.stack
 ex:=[]
 calm:=true
 fn:=λ_=>false
 pn:=[]
 xe:=λ_ _=>False
theorem ZjO{A:Around}{x:Str}{fr:List Str}{js:List Nat}{qual:Str}{scope:Scope}{f:Addr}{cd:Value}{cl:List (Str×Addr)}{s1:Shared}{u:Value}{v:V}(c:rY X scope x fr js)(I:Inv X pins σ H s)(hA:A.frames=some X.stack)(hh:A.handled=none)
  (j7:∀x c,cl.lookup x=some c->X.env.cells.lookup x=some c) (qd:∀p∈scope.names,p.2=.free->∃c,cl.lookup p.1=some c) (r:RelV v u)
  (hn:s1.heap.Ns s.heap.objs.size λy=>[(x,u)].reverse.lookup y) (hk:∀b o,s.heap.get? b=some o->s1.heap.get? b=some o) (hos:s1.os=s.os) (hg:s1.gens=s.gens) :
  Inv (jG X A (x ::fr) qual scope f cd cl s H) [] (some v ::js.map λj=>(σ[j]?).join) H s1:=by
 have CS:∀b:Addr,b∉(jG X A (x ::fr) qual scope f cd cl s H).ex:=λb z=>absurd (show b∈([]:List Addr) from z) (by simp);have ok:(jG X A (x ::fr) qual scope f cd cl s H).Ok:=by
  refine⟨I.ok.mod,c.kind,rfl,rfl,aI1 _,λy z d e1 e2=>I.ok.inj y z d (j7 _ _ e1) (j7 _ _ e2),λy hy=>?_,λy d z _=>absurd z (by simp[jG]),λ_=>hh,Around.frames_deeper hA,.inr ⟨rfl,rfl⟩,λb z=>absurd z (CS b),I.bs,atR I.ok.zf I.sz,λb _ _=>CS b,λb z=>absurd z (CS b),I.stack,I.oJ⟩;have hy:scope.names.lookup y=some .cell\/scope.names.lookup y=some .free:=hy;rcases hy with hy|hy
  .exact absurd rfl (c.xZ _ (ZQ hy))
  .exact qd _ (ZQ hy) rfl
 refine⟨ok,hos,by rw[hg];exact I.bare,Un.kept hk,⟨_,hn,λi y v' e1 e2 e3=>?_⟩,λy d e=>?_,I.hok.fresh (aI1 _),λy d e=>I.dM y d (j7 y d e),λp hp=>absurd (show p∈([]:List (Addr×Obj)) from hp) (by simp),I.hok.kept hk,?_⟩
 .cases i with
  |zero=>
   have jF:x=y:=by simpa[jG]using e1
   have vI:v=v':=by simpa using e2
   subst jF;subst vI;refine⟨u,r,.inl ⟨c.par,?_⟩⟩;show([(x,u)]:List (Str×Value)).reverse.lookup x=some u;simp
  |succ k=>
   have jF:fr[k]?=some y:=by simpa[jG]using e1
   rw[axA,afQ]at e2;cases q:js[k]? with
   |none=>rw[q]at e2;cases e2
   |some j=>
    rw[q]at e2;have vI:(σ[j]?).join=some v':=by simpa using e2
    have e4:σ[j]?=some (some v'):=by
     cases z:σ[j]? with
     |none=>rw[z]at vI;cases vI
     |some o=>rw[z]at vI;rw[show o=some v' from vI]
    have M7:X.N[j]?=some y:=(c.js k j q).symm.trans jF;have hfr:=c.jf k y jF;have hk2:=c.free _ (ZQ hfr) rfl;have vis:Jj X.env.scope y:=by
     rcases hk2 with z|z
     .exact .inr (.inl z)
     .exact .inr (.inr z)
    obtain⟨m,_,hl⟩:=I.loc;obtain⟨u',r',l⟩:=hl j y v' M7 e4 vis;refine⟨u',r',?_⟩;rcases l with⟨z,_⟩|⟨_,d,e,⟨od,ho,hd⟩⟩
    .rcases hk2 with y'|y'
     .rw [show X.env.kindOf y=_ from z]at y';cases y'
     .rw [show X.env.kindOf y=_ from z]at y';cases y'
    .obtain ⟨d',e'⟩:=qd _ (ZQ hfr) rfl;have z':=j7 _ _ e';have:d'=d:=by rw[e]at z';exact(asK z').symm
     subst this;exact .inr ⟨.inr hfr,d',e',⟨od,hk _ _ ho,hd⟩⟩
 .obtain ⟨v',⟨o,ho,hd⟩⟩:=I.cell y d (j7 y d e);exact⟨v',o,hk _ _ ho,hd⟩
 .show (some v ::_:List (Option V)).length=(x ::fr).length;rw[aCx,aCx,apM,c.len]
theorem Zik{A:Around}{x:Str}{fr:List Str}{js:List Nat}{name qual:Str}{params:Arguments}{body:PySem.Expr}{scope:Scope}{f:Addr}{pm cd ct:Value}{cl:List (Str×Addr)}{u:Value}{v:V}{te:TE}{Q:VK}{E:Value->Shared->Prop}{of:Obj}(c:rY X scope x fr js)(I:Inv X pins σ H s)
  (hA:A.frames=some X.stack) (hh:A.handled=none) (M6:A.depth<recursionLimit)
  (j7:∀x c,cl.lookup x=some c->X.env.cells.lookup x=some c) (qd:∀p∈scope.names,p.2=.free->∃c,cl.lookup p.1=some c)
  (ho:s.heap.get? f=some of) (hof:of.data=.func (W.kla_fn name qual params body scope cl pm cd ct)) (hcd:s.heap.CodeRec cd qual)
  (hb:∀u,bindArgs (W.kla_fn name qual params body scope cl pm cd ct) ⟨[u],[]⟩=pure [(x,u)]) (r:RelV v u)
  (he:∀s,PE (jG X A (x ::fr) qual scope f cd cl s H) body te) (h:te (some v ::js.map λj=>(σ[j]?).join) H Q) :
  wpAny (model X.prog X.w) A (call (.ref f) [u]) (EP X pins σ Q) E s:=by
 refine wpAny_call (codeAny_mono (R:=λr s'=>∃u',r=.ok (.ret u')/\CE X.stack X.prog X.w H s Q u' s') (W.kla_callFunE M6 ho hof c.co c.gen rfl hcd (by
  rw[hb u];refine aLE ?_;refine wpAny_newFunctionEnv c.xZ (λy hy=>by rw[axK.mp hy];exact c.par) (λh₁ hns mG=>?_) c.kind;have hk₁:∀b o,s.heap.get? b=some o->h₁.get? b=some o:=λb o e=>mG.extBut b o (aor (aPy e)) (a8n _ e);refine⟨I.nolimit.keeps hk₁,?_⟩;have J:=ZjO (qual:=qual) (f:=f) (cd:=cd) (s1:={ s with heap:=h₁,toks:=s.toks+[(x,u)].length }) c I hA hh j7 qd r hns hk₁ rfl rfl;refine W.kla_codeExpr (aZU (he s [] _ _ H Q J h) (λu' s' hq=>?_) λ_ _ z=>z.elim);obtain⟨v',H',J',rv,q⟩:=hq;exact⟨u',rfl,v',H',J'.os,J'.bare,J'.base,J'.hok,rv,q⟩)) λr s' hq=>?_)
 obtain⟨u',rfl,hq⟩:=hq;exact I.after hq
theorem Zil{P c0:Addr}{x:Str}{fr:List Str}{js:List Nat}{params:Arguments}{body:PySem.Expr}{scope:Scope}{pos:Pos}{R:Value->Shared->Prop}(c:rY X scope x fr js)(I:Inv X pins σ H s)(hc0:X.env.code=.ref c0)(hcd:W.codeHdIn X.K c0 P=true)
  (bm:BMod X.base X.mg) (hP:H P=some (.oF pos (X.env.qual ++ "<lambda>"))) (hd0:params.defaults=[]) (hk0:params.kw_defaults=[])
  (h:∀f cl cd pm ct of H' s',Inv X pins σ H' s'->av H H'->(∀x c,cl.lookup x=some c->X.env.cells.lookup x=some c)->(∀p∈scope.names,p.2=.free->∃c,cl.lookup p.1=some c) -> 
   H' f=some (.cU of (.own 0))->of.data=.func (W.kla_fn "<lambda>" (X.env.qual ++ "<lambda>") params body scope cl pm cd ct)->(∃c' oc vs t,cd=.ref c'/\H' c'=some (.cU oc (.own P))/\oc.data=.fields vs/\vs[1]?=some (.str (X.env.qual ++ "<lambda>") t))->R (.ref f) s') :
  wpAny (model X.prog X.w) X.A (eval (.Lambda params body scope pos) X.env) R X.xe s:=by
 obtain⟨cl,e1,j7,_,qd⟩:=Jb (env:=X.env) scope.names [] (λp hp hf=>I.ok.has _ (c.free p hp hf)) (λx d e=>by simp at e);have hclos:closureFor scope X.env=pure cl:=by
  unfold closureFor;refine(agz (λz=>z >>= λcs=>pure cs) e1).trans ?_;rfl
 have CH:=W.codeHd_of_K I.dR hcd;obtain⟨ps,hps,htr,hcode⟩:=(show aF X.prog X.w H s.heap P (.oF pos (X.env.qual ++ "<lambda>")) from I.hok P _ hP);have hg:=I.ok.mod.glob.keeps I.bk;have hgP:mainGlobals≠P:=λq=>by
  obtain⟨o,es,ep,e,hd,_⟩:=hg;rw[q,hps]at e;cases e;cases hd
 have hb:s.heap.BuiltinsAt X.mg P:=by
  obtain⟨b,o,a1,a2,a3,a4,a5,a6,a7⟩:=bm;have e:=I.bk _ _ a4;exact⟨b,o,a1,a2,a3,(λz=>by rw[z,hps]at e;cases e;cases a5),e,a5,a6,a7⟩
 rw[arm_eval_Lambda,defaultsOf_eq,hd0,hk0];show wpAny _ _ (do let dv <-evalAll (evalEach [] X.env);let XF <-holding dv (evalAllOpt []);makeFunction "<lambda>" (X.env.qual ++ "<lambda>") params (.expr body) scope X.env dv XF [] pos pos.line) _ _ s;refine a3A (evalAll_nil ?_);refine a3A (aPf (aLE ?_));cases hf:codeAmong pos ps.toList with
 |some cv=>
  obtain⟨c',oc,vs,t,rfl,hH,hd,hv⟩:=hcode cv hf;refine W.kla_makeFunctionHit hclos I.ok.glob hg hc0 CH hps htr hf hb λctv h' tk hk hsz=>?_;have I1:=I.laid (a:=h'.objs.size) (t':=tk) (o:=.cU { cls:=.type "function",data:=.func (W.kla_fn "<lambda>" (X.env.qual ++ "<lambda>") params body scope cl ((X.mg "__name__").getD .none) (.ref c') ctv) } (.own 0)) (h':=h'.push { cls:=.type "function",data:=.func (W.kla_fn "<lambda>" (X.env.qual ++ "<lambda>") params body scope cl ((X.mg "__name__").getD .none) (.ref c') ctv) }) (λb o e=>a8n _ (hk b o e)) hsz ⟨awu _ rfl,_,awu _ rfl⟩;have fr:=I.hok.fresh hsz;exact h _ cl _ _ _ _ _ _ I1 (Zd fr _) j7 qd Za rfl ⟨c',oc,vs,t,rfl,by rw[Zc (Zf hH fr)];exact hH,hd,hv⟩
 |none=>
  refine W.kla_makeFunction hclos I.ok.glob hg hc0 CH hps htr hf hgP hb λc' ctv h' tk hx hge hlt hrec htb=>?_;obtain⟨oc,vs,t,hoc,hd,hv,I1⟩:=I.grown (tk:=tk) hP hx hge hrec htr hf htb;have fr:H c'=none:=I.hok.fresh hge;have HU:upd H c' (.cU oc (.own P)) h'.objs.size=none:=I1.hok.fresh (aI1 _);have I2:=I1.laid (a:=h'.objs.size) (t':=tk) (o:=.cU (W.kla_obj "<lambda>" (X.env.qual ++ "<lambda>") params body scope cl ((X.mg "__name__").getD .none) c' ctv) (.own 0)) (h':=h'.push (W.kla_obj "<lambda>" (X.env.qual ++ "<lambda>") params body scope cl ((X.mg "__name__").getD .none) c' ctv)) (λb o e=>a8n _ e) (aI1 _) ⟨awu _ rfl,_,awu _ rfl⟩;exact h _ cl _ _ _ _ _ _ I2 ((Zd fr _).trans (Zd HU _)) j7 qd Za rfl ⟨c',oc,vs,t,rfl,by rw[Zc (Zf Za HU)];exact Za,hd,hv⟩
end
end L2
namespace L2
open PySem PySem.Spec PyProof.Rows L2.UO
def AU(key:Int->Int)(ns:List Int)(a b:Int):Prop:=key a<key b\/(key a=key b/\ns.idxOf a<ns.idxOf b)
theorem Zim{l:List Keyed}(h:∀p∈l,∃t,p.2=.int (numOf p.2) t):Vals ((l.map λp=>numOf p.2).map V.int) (l.map (·.2)):=by
 induction l with
 |nil=>exact .nil
 |cons p r ih=>
  obtain⟨t,e⟩:=h p bcs;exact .cons ⟨t,e⟩ (ih λq hq=>h q (asW _ hq))
theorem Oj{vs:List Value}{ns:List Int}(h:IntsAre vs ns):∀{i:Nat}{v:Value},vs[i]?=some v->∃n t,ns[i]?=some n/\v=.int n t:=by
 induction h with
 |nil=>intro i v e;simp at e
 |cons n t _ ih=>
  intro i v e;cases i with
  |zero=>exact⟨n,t,rfl,by simpa using e.symm⟩
  |succ i=>exact ih (by simpa using e)
theorem RY:∀{ns:List Int},ns.Nodup->∀{i:Nat}{n:Int},ns[i]?=some n->ns.idxOf n=i
 | [],_,_,_,e=>by simp at e
 |x ::r,nd,0,n,e=>by
  have e':x=n:=by simpa using e
  subst e';simp
 |x ::r,nd,i+1,n,e=>by
  obtain⟨h1,h2⟩:=agN.mp nd;have e':r[i]?=some n:=by simpa using e
  have ne:x≠n:=λz=>h1 (z ▸aHL e');rw[List.idxOf_cons,show(x ==n)=false by simpa using ne];show r.idxOf n+1=i+1;rw[RY h2 e']
theorem TJ{keys:Array Value}{vs:List Value}{ns:List Int}{key:Int->Int}(hk:IntsAre keys.toList (ns.map key))(hv:IntsAre vs ns)(nd:ns.Nodup) :
  jt (λp=>ns.idxOf (numOf p.2)) (keys.zip vs.toArray) 0/\∀xs:Array Keyed,xs.Perm (keys.zip vs.toArray)->sf (λp=>ns.idxOf (numOf p.2)) xs xs.size ->
   ∃os:List Int,Vals (os.map V.int) (xs.map (·.2)).toList/\os.Perm ns/\os.Pairwise (AU key ns):=by
 have lk:keys.size=ns.length:=by have:=hk.length;rw[apo,apM]at this;lia
 have lv:vs.length=ns.length:=by have:=hv.length;lia
 have NG:∀(i:Nat)(p:Keyed),(keys.zip vs.toArray)[i]?=some p->∃n t t',ns[i]?=some n/\p=(Value.int (key n) t,Value.int n t'):=λi p e=>by
  have e':(keys.toList.zip vs)[i]?=some p:=by rw[<-ksk_zip,aq8];exact e
  rw[List.getElem?_zip_eq_some]at e';obtain⟨n1,t1,q1,r1⟩:=Oj hk e'.1;obtain⟨n2,t2,q2,r2⟩:=Oj hv e'.2;rw[afQ,q2]at q1;have F7:key n2=n1:=by simpa using q1
  exact⟨n2,t1,t2,q2,Prod.ext (by rw[r1,F7]) r2⟩
 have Mp:∀p∈(keys.zip vs.toArray).toList,∃n t t',n∈ns/\p=(Value.int (key n) t,Value.int n t'):=λp hp=>by
  obtain⟨i,e⟩:=List.getElem?_of_mem hp;rw[aq8]at e;obtain⟨n,t,t',q,r⟩:=NG i p e;exact⟨n,t,t',aHL q,r⟩
 refine⟨λi _ hi=>?_,λxs hp hi=>?_⟩
 .obtain ⟨n,t,t',q,r⟩:=NG i _ (aE5 hi);unfold Rk;rw[aE5 hi,r];show ns.idxOf n=i;exact RY nd q
 .have pm:=au9.mp hp;have CW:∀p∈xs.toList,∃n t t',n∈ns/\p=(Value.int (key n) t,Value.int n t'):=λp Dc=>Mp p (pm.mem_iff.mp Dc);refine⟨xs.toList.map λp=>numOf p.2,?_,?_,?_⟩
  .rw [Array.toList_map];refine Zim λp Dc=>?_;obtain⟨n,t,t',_,rfl⟩:=CW p Dc;exact⟨t',rfl⟩
  .have e:(keys.zip vs.toArray).toList.map (λp=>numOf p.2)=ns:=by
    apply aO0;intro i;rw[afQ,aq8];by_cases hlt:i<(keys.zip vs.toArray).size
    .obtain ⟨n,t,t',q,r⟩:=NG i _ (aE5 hlt);rw[aE5 hlt,r,q];rfl
    .have lz:(keys.zip vs.toArray).size=ns.length:=by rw[Array.size_zip,lk,a6x,lv,Nat.min_self]
     rw[Array.getElem?_eq_none (by lia),aG2 (by lia)];rfl
   rw[<-e];exact pm.map _
  .rw [pairwise_iff_getElem];intro i j hi' hj' hij;have hi2:i<xs.size:=by simpa using hi'
   have hj2:j<xs.size:=by simpa using hj'
   have v:=hi i j hij hj2;obtain⟨n1,t1,t1',_,r1⟩:=CW xs[i] (by simp);obtain⟨n2,t2,t2',_,r2⟩:=CW xs[j] (by simp);have k1:K xs i=key n1:=by rw[K_eq hi2,r1];rfl
   have k2:K xs j=key n2:=by rw[K_eq hj2,r2];rfl
   have q1:Rk (λp=>ns.idxOf (numOf p.2)) xs i=ns.idxOf n1:=by unfold Rk;rw[aE5 hi2,r1];rfl
   have q2:Rk (λp=>ns.idxOf (numOf p.2)) xs j=ns.idxOf n2:=by unfold Rk;rw[aE5 hj2,r2];rfl
   have g1:(xs.toList.map λp=>numOf p.2)[i]=n1:=by simp[r1,numOf]
   have g2:(xs.toList.map λp=>numOf p.2)[j]=n2:=by simp[r2,numOf]
   rw[g1,g2];unfold gQ at v;rw[k1,k2,q1,q2]at v;exact v
section
variable{X:Cx}{pins:List (Addr×Obj)}{σ:St}{H:Hp}{s:Shared}{d:Addr}{xs:List V}{o:Obj}
theorem Inv.zA(I:Inv X pins σ H s)(h:H d=some (.cU o (.lst xs)))(h0:∀o' u,X.H₀ d≠some (.cU o' u)):Inv X pins σ (upd H d (.lst xs)) s:=by
 have ne:∀b u,H b=some u->u≠.cU o (.lst xs)->b≠d:=λb u e n z=>by rw[z,h]at e;exact n (asK e).symm
 have nn:∀b,H b=none->b≠d:=λb e z=>by rw[z,h]at e;cases e
 refine⟨I.ok,I.os,I.bare,⟨I.base.keep,I.base.slot,λb o' e n hx=>?_,I.base.there,λb ys e=>?_,λb o' u e=>?_,λb p r e=>?_⟩,I.loc,I.cell,?_,λx c e=>?_,λp hp=>?_,λb u e=>?_,I.len⟩
 .have q:=I.base.free b o' e n hx;rw[Zc (nn b q)];exact q
 .have q:=I.base.tups b ys e;rw[Zc (ne b _ q (by intro z;cases z))];exact q
 .have q:=I.base.j6 b o' u e;rw[Zc (λz=>h0 o' u (by rw[<-z];exact e))];exact q
 .have q:=I.base.kG b p r e;rw[Zc (ne b _ q (by intro z;cases z))];exact q
 .rw [Zc (nn _ I.free)];exact I.free
 .rw [Zc (nn _ (I.dM x c e))];exact I.dM x c e
 .obtain ⟨a1,a2,a3⟩:=I.pin p hp;exact⟨a1,by rw[Zc (nn _ a2)];exact a2,a3⟩
 .by_cases hb:b=d
  .subst hb;rw[Za]at e;cases e;exact(I.hok b _ h).2
  .rw [Zc hb]at e;exact(I.hok b u e).stay (λ_ _ _ z=>z) (λc z=>by rw[Zc (ne c _ z (by intro y;cases y))];exact z) (λc ys z=>by rw[Zc (ne c _ z (by intro y;cases y))];exact z) λc oz z=>by rw[Zc (ne c _ z (by intro y;cases y))];exact z
theorem TH{a kS:Addr}{st:SortSt}{e1:Nat}{H1:Hp}{ns:List Int}{key:Int->Int}{keys:Array Value}{its:List Value}{ks:List V}{A:Around}{E:Value->Shared->Prop}{R:PySem.Fin->Shared->Prop}(I:Inv X pins σ H1 s)(hk:IntsAre keys.toList (ns.map key))(hv:IntsAre its ns)(nd:ns.Nodup)(h64:ns.length<64)
  (ha:H1 a=some (.cU (seqObj "list" #[] e1) (.lst []))) (h0:∀o' u,X.H₀ a≠some (.cU o' u)) (Ex:H1 kS=some (.lst ks)) (hlk:ks.length<=64) (hp:(arrOf st).Perm (keys.zip its.toArray)) (hi:sf (λp=>ns.idxOf (numOf p.2)) (arrOf st) (arrOf st).size) (hf:failedOf st=none)
  (h:∀(H':Hp)(s':Shared)(os:List Int),Inv X pins σ H' s'->(∀b,b≠a->b≠kS->H' b=H1 b)->H' a=some (.lst (os.map V.int))->os.Perm ns->os.Pairwise (AU key ns)->R (.done (.ret .none)) s') :
  wpAny (model X.prog X.w) A (ksk_tail a false e1 (.ref kS) st) R E s:=by
 have J7:a≠kS:=λz=>by rw[z,Ex]at ha;cases ha
 obtain⟨os,vo,po,so⟩:=(TJ hk hv nd).2 _ hp hi;have lo:=po.length_eq;unfold ksk_tail;try dsimp only
 obtain⟨_,yi,n,rK,QD,eK⟩:=I.sN Ex;have lK:yi.length<=64:=by have:=rK.length;lia
 refine a3A (a8W eK rfl ?_ (by rw[a6x,aK9];lia) (acY _));have I6:=I.vE (t':=s.toks) (f:=λ_=>#[]) (its':=[]) (ys:=[]) Ex eK rfl .nil (acY _);have QL:upd H1 kS (.lst []) a=some (.cU (seqObj "list" #[] e1) (.lst [])):=by rw[Zc J7];exact ha
 have oa:=(I6.hok a _ QL).1;refine a3A (wpAny_letGo ?_);refine a3A (seqEpoch_at oa rfl ?_);have lo2:((arrOf st).map (·.2)).size=ns.length:=by
  have e:=vo.length;rw[apM]at e;have e2:((arrOf st).map (·.2)).toList.length=((arrOf st).map (·.2)).size:=apo;lia
 refine a3A (a8W oa rfl ?_ (acY _) (by simp only[aKG,a2l];rw[lo2,aK9];lia));rw[hf];simp only[bne_self_eq_false,aKG,a2l];have I7:=I6.zA QL h0;have I8:=I7.vE (t':=s.toks) (f:=λ_=>(arrOf st).map (·.2)) (its:=[]) (its':=((arrOf st).map (·.2)).toList) (ys:=os.map V.int) Za oa (by exact(Array.toArray_toList).symm) vo (by rw[apM,aK9];lia);refine aLE (h _ _ os I8 (λb n1 n2=>?_) Za po so);rw[Zc n1,Zc n1,Zc n2]
theorem ZjP{a kS:Addr}{e1:Nat}{H1:Hp}{ns:List Int}{key:Int->Int}{keys:Array Value}{its:List Value}{ks:List V}{A:Around}{E:Value->Shared->Prop}{R:PySem.Fin->Shared->Prop}(I:Inv X pins σ H1 s)(hk:IntsAre keys.toList (ns.map key))(hv:IntsAre its ns)(nd:ns.Nodup)(h64:ns.length<64)
  (ha:H1 a=some (.cU (seqObj "list" #[] e1) (.lst []))) (h0:∀o' u,X.H₀ a≠some (.cU o' u)) (Ex:H1 kS=some (.lst ks)) (hlk:ks.length<=64)
  (h:∀(H':Hp)(s':Shared)(os:List Int),Inv X pins σ H' s'->(∀b,b≠a->b≠kS->H' b=H1 b)->H' a=some (.lst (os.map V.int))->os.Perm ns->os.Pairwise (AU key ns)->R (.done (.ret .none)) s') :
  wpAny (model X.prog X.w) A (ksk_end a false its.toArray e1 (.ref kS) keys) R E s:=by
 have lk:keys.size=ns.length:=by have:=hk.length;rw[apo,apM]at this;lia
 have lv:its.length=ns.length:=by have:=hv.length;lia
 have hzs:(keys.zip its.toArray).size=ns.length:=by rw[Array.size_zip,lk,a6x,lv,Nat.min_self]
 obtain⟨Qq,_⟩:=TJ hk hv nd;unfold ksk_end;simp only[aKG,a2l];by_cases h2:its.toArray.size<2
 .rw [auJ h2,auJ h2];refine a3A (aLE ?_);rw[StateT.run_pure];refine a3A (aLE ?_);try dsimp only
  refine TH (st:=SortSt.mk' general' (keys.zip its.toArray) #[] 7 none) I hk hv nd h64 ha h0 Ex hlk (aHX _) (λi j hij hj=>?_) rfl h;have hj2:j<(keys.zip its.toArray).size:=hj;rw[a6x]at h2;lia
 .rw [ale h2,ale h2];rw[a6x]at h2;rw[ksk_kind hk (by rw[lk];lia)];refine a3A (aLE ?_);refine a3A (aZU (ZjN (ρ:=λp=>ns.idxOf (numOf p.2)) (a₀:=keys.zip its.toArray) (st:=SortSt.mk' oneType' (keys.zip its.toArray) #[] 7 none)
   (Q:=λ_ st1=>(arrOf st1).Perm (keys.zip its.toArray)/\failedOf st1=none/\sf (λp=>ns.idxOf (numOf p.2)) (arrOf st1) (keys.zip its.toArray).size)
   (ksk_intKeys hk) Qq ⟨aHX _,rfl,rfl,rfl⟩ Qq (by rw[hzs];lia) (by rw[hzs];exact h64) λst1 a1 a2 a3=>⟨a1,a2,a3⟩) ?_ λ_ _ e=>e)
  rintro⟨⟨⟩,st1⟩ s1 ⟨rfl,hp,hf,hs⟩;try dsimp only
  exact TH I hk hv nd h64 ha h0 Ex hlk hp (by rw[hp.size_eq];exact hs) hf h
theorem Zin{l f:Addr}{ns:List Int}{key:Int->Int}{Q:VK}{E:Value->Shared->Prop}(I:Inv X pins σ H s)(hq:ao X.K H l (ns.map V.int))(h64:ns.length<64)(nd:ns.Nodup)
  (turn:∀z∈ns,∀H1 s1 u,av H H1->Inv X pins σ H1 s1->RelV (.int z) u->wpAny (model X.prog X.w) X.A.in1.in1 (call (.ref f) [u]) (EP X pins σ λv H'=>v=.int (key z)/\H'=H1) (λ_ _=>False) s1)
  (q:∀(D:Addr)(H':Hp)(os:List Int),H D=none->av H H'->H' D=some (.lst (os.map V.int))->os.Perm ns->os.Pairwise (AU key ns)->Q (.ref D) H') :
  wpAny (model X.prog X.w) X.A (call (.builtin "sorted") [.ref l] [(Str.ofString "key",.ref f)]) (EP X pins σ Q) E s:=by
 obtain⟨its,rv,pl,hz⟩:=I.list hq;have hv:=Lm rv;have lv:its.length=ns.length:=by have:=rv.length;rw[apM]at this;exact this.symm
 refine call_function_entry_kw kind_sorted plain_sorted entry_sorted (ksk_s1 _ _) ?_;unfold Builtin.«sorted»;refine a3A (m:=checkCount "sorted" 1 1 _) (aLE ?_);refine a3A (collect_list pl.isList ?_ (by rw[aK9];lia));refine a3A (aE7 ?_ (by rw[aK9];lia));have hsz:((s.heap.push (seqObj "list" #[] 0)).update s.heap.objs.size (Obj.mapSeq (·++its.toArray))).objs.size=s.heap.objs.size+1:=by
  rw[Heap.size_update,size_push']
 have qc:(((s.heap.push (seqObj "list" #[] 0)).update s.heap.objs.size (Obj.mapSeq (·++its.toArray))).push (seqObj "list" its.toArray 0)).get? (s.heap.objs.size+1)=some (seqObj "list" its.toArray 0):=by
  rw[<-hsz];exact awu _ rfl
 have keep:∀b o,s.heap.get? b=some o->(((s.heap.push (seqObj "list" #[] 0)).update s.heap.objs.size (Obj.mapSeq (·++its.toArray))).push (seqObj "list" its.toArray 0)).get? b=some o:=λb o e=>by
  have lt:b<s.heap.objs.size:=aPy e;rw[aNy _ _ _ (by rw[hsz];exact aor (aqa lt)),Heap.get?_update_ne _ _ _ _ (aor lt),aNy _ _ _ (aor lt)];exact e
 show wpAny _ _ _ _ _ { s with heap:=((s.heap.push (seqObj "list" #[] 0)).update s.heap.objs.size (Obj.mapSeq (·++its.toArray))).push (seqObj "list" its.toArray 0) };rw[hsz];have hsz1:(((s.heap.push (seqObj "list" #[] 0)).update s.heap.objs.size (Obj.mapSeq (·++its.toArray))).push (seqObj "list" its.toArray 0)).objs.size=s.heap.objs.size+2:=by rw[size_push',hsz]
 generalize((s.heap.push (seqObj "list" #[] 0)).update s.heap.objs.size (Obj.mapSeq (·++its.toArray))).push (seqObj "list" its.toArray 0)=h1 at *;refine a3A (aPf (wpAny_call_entry_kw slot_list_sort ⟨_,qc,rfl⟩ entry_list_sort ?body (ksk_l1 _ _)))
 case body=>
  show wpAny (model X.prog X.w) X.A.in1.in1 (Builtin.«list.sort» ⟨[.ref (s.heap.objs.size+1)],[(Str.ofString "key",.ref f)]⟩) _ _ _;rw[ksk_t1];unfold ksk_tree;refine a3A (listItems_at qc rfl ?_);refine a3A (a8W qc rfl ?_ (by rw[a6x,aK9];lia) (acY _));obtain⟨e1,QA⟩:∃e1,(h1.update (s.heap.objs.size+1) (Obj.mapSeq λ_=>(#[]:Array Value))).get? (s.heap.objs.size+1)=some (seqObj "list" #[] e1):=⟨_,get?_update_seq qc λ_=>#[]⟩;have GK:∀b o,s.heap.get? b=some o->(h1.update (s.heap.objs.size+1) (Obj.mapSeq λ_=>(#[]:Array Value))).get? b=some o:=λb o e=>by
   have lt:b<s.heap.objs.size:=aPy e;rw[Heap.get?_update_ne _ _ _ _ (aor (aqa lt))];exact keep b o e
  generalize h1.update (s.heap.objs.size+1) (Obj.mapSeq λ_=>(#[]:Array Value))=h2 at *;refine a3A (seqEpoch_at QA rfl ?_);refine a3A (wpAny_newTuple ?_ (by show its.length<=_;rw[aK9];lia));refine a3A (aE7 ?_ (acY _));refine aPf ?_;have fr:H (s.heap.objs.size+1)=none:=I.hok.fresh (aYm _);have h0:∀o' u,X.H₀ (s.heap.objs.size+1)≠some (.cU o' u):=λo' u e=>by rw[I.base.j6 _ _ _ e]at fr;cases fr
  have ho2:(h2.push (seqObj "tuple" its.toArray 0)).get? (s.heap.objs.size+1)=some (seqObj "list" #[] e1):=a8n _ QA;have I3:=I.laid (a:=s.heap.objs.size+1) (t':=s.toks) (o:=.cU (seqObj "list" #[] e1) (.lst [])) (h':=h2.push (seqObj "tuple" its.toArray 0)) (λb o e=>a8n _ (GK b o e)) (aYm _) ⟨ho2,acY _,[],e1,.nil,ho2⟩;have EA:=I3.hok.fresh (aI1 _);have I4:=I3.laid (t':=s.toks) (o:=.lst []) (h':=(h2.push (seqObj "tuple" its.toArray 0)).push (seqObj "list" #[] 0)) (λb o e=>a8n _ e) (aI1 _) ⟨acY _,[],0,.nil,awu _ rfl⟩;have J7:s.heap.objs.size+1≠(h2.push (seqObj "tuple" its.toArray 0)).objs.size:=Zf Za EA;have sm:av H (upd (upd H (s.heap.objs.size+1) (.cU (seqObj "list" #[] e1) (.lst []))) (h2.push (seqObj "tuple" its.toArray 0)).objs.size (.lst [])):=(Zd fr _).trans (Zd EA _);have Q2:H (h2.push (seqObj "tuple" its.toArray 0)).objs.size=none:=(Zd fr _).free EA;have MZ:upd (upd H (s.heap.objs.size+1) (.cU (seqObj "list" #[] e1) (.lst []))) (h2.push (seqObj "tuple" its.toArray 0)).objs.size (.lst []) (h2.push (seqObj "tuple" its.toArray 0)).objs.size=some (.lst []):=Za;have ha0:upd (upd H (s.heap.objs.size+1) (.cU (seqObj "list" #[] e1) (.lst []))) (h2.push (seqObj "tuple" its.toArray 0)).objs.size (.lst []) (s.heap.objs.size+1)=some (.cU (seqObj "list" #[] e1) (.lst [])):=by rw[Zc J7];exact Za
  generalize upd (upd H (s.heap.objs.size+1) (.cU (seqObj "list" #[] e1) (.lst []))) (h2.push (seqObj "tuple" its.toArray 0)).objs.size (.lst [])=H4 at *;show wpAny (model X.prog X.w) X.A.in1.in1 (ksk_rest (s.heap.objs.size+1) (.ref f) false its.toArray e1 (.ref (h2.push (seqObj "tuple" its.toArray 0)).objs.size)) _ _ { s with heap:=(h2.push (seqObj "tuple" its.toArray 0)).push (seqObj "list" #[] 0) };generalize(h2.push (seqObj "tuple" its.toArray 0)).objs.size=kS at *;generalize(h2.push (seqObj "tuple" its.toArray 0)).push (seqObj "list" #[] 0)=h4 at *;unfold ksk_rest;refine a3A (aQS ?_);rw[List.forIn_toArray];refine a3A (ksk_fold (λi s1=>∃H1:Hp,Inv X pins σ H1 s1/\av H H1/\H1 (s.heap.objs.size+1)=some (.cU (seqObj "list" #[] e1) (.lst []))/\H1 kS=some (.lst (((ns.take i).map key).map V.int))) its 0 _
   ⟨H4,I4,sm,ha0,MZ⟩ ?step ?done)
  case step=>
   rintro j x s1 hx ⟨H1,I1,s1',a1,k1⟩;simp only[aOY]at k1 ⊢;obtain⟨z,t,hz',rfl⟩:=Oj hv hx;have hj:j<ns.length:=(ajE.mp hz').1;refine a3A (wpAny_attempt (aZU (turn z (aHL hz') H1 s1 _ s1' I1 ⟨t,rfl⟩) (λv s2 he=>?_) λ_ _ hF=>hF.elim));obtain⟨v',H',I2,r2,rfl,rfl⟩:=he;try dsimp only
   obtain⟨_,yi,n,rK,QD,eK⟩:=I2.sN k1;have lK:yi.length<=ns.length:=by
    have:=rK.length;rw[apM,apM,bc6]at this;lia
   refine a3A (a8W eK rfl ?_ (by rw[a6x,aK9];lia) (by rw[Array.size_push,a6x,aK9];lia));have ek:ns.take (j+1)=ns.take j++[z]:=by rw[take_succ,hz'];rfl
   have I5:=I2.vE (t':=s2.toks) (f:=(·.push v)) (its':=yi++[v]) (ys:=((ns.take (j+1)).map key).map V.int) k1 eK (by simp) (by rw[ek,afk,afk];exact rK.append (.cons r2 .nil)) (by rw[apM,apM,bc6,aK9];lia);refine aLE ⟨rfl,_,I5,λb o y=>?_,?_,Za⟩
   .rw [Zc (Zf y Q2)];exact s1' _ _ y
   .rw [Zc J7];exact a1
  case done=>
   rintro s1 ⟨H1,I1,s1',a1,k1⟩;rw[aOY,lv,take_length]at k1;obtain⟨_,yi,n,rK,QD,eK⟩:=I1.sN k1;try dsimp only
   refine a3A (listItems_at eK rfl ?_);refine ZjP (ns:=ns) (key:=key) I1 (by simpa using Lm rK) hv nd h64 a1 h0 k1 (by rw[apM,apM];lia) λH' s2 os I2 Pz hD po so=>⟨_,rfl,?_⟩;refine aLE ⟨_,rfl,.ref (s.heap.objs.size+1),H',I2,rfl,q _ H' os fr (λb o y=>?_) hD po so⟩;rw[Pz b (Zf y fr) (Zf y Q2)];exact s1' _ _ y
end
end L2
namespace L2
open PySem PySem.Spec PyProof.Rows
structure vV(P:Program)(w:World)(K:W.Frag)(mg:Str->Option Value)(base:Heap)(C:Addr)(m:Str)(k:Nat)(ps:List Str)(sp:Sp):Prop where
 ex:∃(f:Addr)(fd:FuncData),cM P w K mg base p8 k f fd ps sp/\Meth K C m f/\Binds K fd ps []
structure Eb(P:Program)(w:World)(K:W.Frag)(mg:Str->Option Value)(base:Heap)(C:Addr)(x:Str)(k:Nat)(ps:List Str)(sp:Sp):Prop where
 ex:∃(f:Addr)(fd:FuncData),cM P w K mg base p8 k f fd ps sp/\Mk K C f/\mg x=some (.ref C)/\Binds K fd ps []
section
variable{X:Cx}{x m:Str}{p pos apos:Pos}{e o:PySem.Expr}{es:List PySem.Expr}{ta:TE}{t:TA}{k:Nat}{ps:List Str}{sp:Sp}{C:Addr}
theorem Zj{pl:Sem Bool}(M:vV X.prog X.w X.K X.mg X.base C m k ps sp)(hr:aX k X.A)(c:sj X.K C)(he:PE X o ta)(ha:PA X (e ::es) t)(hn:AR (e ::es):=by repeat' (first|exact True.intro|refine⟨?_,?_⟩))
  (ht:eval (.Call (.Attribute o m apos) (e ::es) [] pos) X.env=(do
   let ov <-eval o X.env
   standAt apos.atName
   let(f,first) <-holding [ov] (getMethod ov m pl)
   callWith pos f first (backTo pos (starEach (e ::es) X.env)) (backToKw pos (keywordEach [] X.env))):=by rfl) :
  PE X (.Call (.Attribute o m apos) (e ::es) [] pos) (tU C m sp [] E0 ta t):=by
 obtain⟨f,fd,F,hm,hb⟩:=M.ex;exact ZjB he c hm F hr hb .nil uJ ha (zg hn.1) (DF hn.2) ht
theorem Lg(M:Eb X.prog X.w X.K X.mg X.base C x k ps sp)(hr:aX (k+1) X.A)(hg:Gl X x)(ha:PA X (e ::es) t)(hn:AR (e ::es):=by repeat' (first|exact True.intro|refine⟨?_,?_⟩))(hd:(x ==("__debug__":Str))=false:=by decide) :
  PE X (.Call (.Name x p) (e ::es) [] pos) (A6 C sp [] E0 t):=by
 obtain⟨f,fd,F,M',hm,hb⟩:=M.ex;exact ZjC M' F hr hg hm hb .nil uJ ha (hdb:=hd) (he:=zg hn.1) (hpl:=DF hn.2)
def Wh:TS:=λ_ _ _=>False
theorem xP{st:Stmt}:PS X st Wh:=λ_ _ _ _ _ _ h=>False.elim h
end
theorem vf.WH{P:Program}{w:World}{K:W.Frag}{mg:Str->Option Value}{base:Heap}{x qual:Str}{st:Stmt}{f:Addr}{fd:FuncData}{N ps:List Str}{k:Nat}{sp:Sp}(F:vf K x qual st f fd)(S:fL N ps (Zq st))(len:∀vs H Q E,sp vs H Q E->vs.length=ps.length)
  (hbody:∀(cdv:Value)(A:Around)(outer:List Env)(s:Shared)(H:Hp)(vs:List V)(Q:VK)(E:XK),fd.code=cdv->aX k (A.deeper (envOfC qual (Zq st) s.heap.objs.size f cdv))->sp vs H Q E ->
   ∃t,vM (rA p8 P w K mg base N qual (Zq st) f cdv A outer s H E).CP (ZK st) t/\t { nx:=λ_ H'=>Q .aO H',rt:=Q } (start N vs) H):cM P w K mg base p8 (k+1) f fd ps sp:=by
 obtain⟨oc,od,kV,doc,pm,an,cdv,ct,osl,rfl,lk,hcd⟩:=F.ex;refine BP lk hcd S len λA outer s H vs Q E hr vG=>?_;obtain⟨t,h,q⟩:=hbody cdv A outer s H vs Q E rfl hr vG;exact⟨t,h.CP,q⟩
theorem Zk{X:Cx}{K:W.Frag}{e:PySem.Expr}{f:Str}{pos:Pos}{ta:TE}(hK:X.K=K)(he:PE X e ta)(hb:attributeBase e f X.env (eval e X.env)=eval e X.env):PE X (.Attribute e f pos) (FD K ta f):=by
 subst hK;exact ZkC he hb
def GG(gB:Scope)(oN:List Str)(scope:Scope)(x:Str)(fr:List Str)(js:List Nat):Bool:=
 scope.kind == .function && !scope.isCoroutine && !scope.isGenerator && scope.names.all (λy=>y.2 != .cell) && scope.names.lookup x ==some .local &&
 scope.names.all (λy=>y.2 != .free || (gB.names.lookup y.1 ==some .cell || gB.names.lookup y.1 ==some .free)) && fr.length ==js.length &&
 (js.map λj=>oN[j]?) ==fr.map some && fr.all λy=>scope.names.lookup y ==some .free
theorem Zio{X:Cx}{gB:Scope}{oN:List Str}{scope:Scope}{x:Str}{fr:List Str}{js:List Nat}(h:GG gB oN scope x fr js=true)(hs:X.env.scope=gB)(hN:X.N=oN):rY X scope x fr js:=by
 unfold GG at h;simp only[aix,aT6,Bool.or_eq_true,av8,bne_iff_ne,ne_eq,aXs]at h;obtain⟨⟨⟨⟨⟨⟨⟨⟨h1,h2⟩,h3⟩,h4⟩,h5⟩,h6⟩,h7⟩,h8⟩,h9⟩:=h;refine⟨h1,h2,h3,h4,h5,λy hy hf=>?_,h7,λk j e=>?_,λk y e=>h9 y (aHL e)⟩
 .rcases h6 y hy with q|q
  .exact absurd hf q
  .show X.env.scope.names.lookup y.1=_\/X.env.scope.names.lookup y.1=_;rw[hs];exact q
 .rw [hN];have z:=agz (λl=>l[k]?) h8;simp only[afQ,e,aIg]at z;cases q:fr[k]? with
  |none=>rw[q]at z;cases z
  |some y=>rw[q]at z;exact(asK z).symm
theorem ZkS{A:Around}{k:Nat}{env:Env}(hr:aX k A):(A.in1.in1.deeper env).units+1<cLine:=by
 have:=hr.un;show A.units+1+1+3+1<cLine;lia
def RX(K:W.Frag)(P:Addr)(qW:Pos)(qual:Str)(js:List Nat)(te:TE)(σ:St)(Q:VK)(x:V)(H1:Hp):Prop:=∃(l:Addr)(ns:List Int)(key:Int->Int),x=.ref l/\ao K H1 l (ns.map V.int)/\ns.length<64/\ns.Nodup/\H1 P=some (.oF qW qual) /\
 (∀z∈ns,∀H2,av H1 H2->te (some (.int z) ::js.map λj=>(σ[j]?).join) H2 λv H'=>v=.int (key z)/\H'=H2) /\
 ∀(D:Addr)(H':Hp)(os:List Int),H1 D=none->av H1 H'->H' D=some (.lst (os.map V.int))->os.Perm ns->os.Pairwise (AU key ns)->Q (.ref D) H'
def ZkT(K:W.Frag)(P:Addr)(qW:Pos)(qual:Str)(js:List Nat)(JK te:TE):TE:=λσ H Q=>JK σ H λx H1=>RX K P qW qual js te σ Q x H1
section
variable{X:Cx}
theorem Zip{K:W.Frag}{P c0:Addr}{k:Nat}{y:Str}{fr:List Str}{js:List Nat}{qual:Str}{params:Arguments}{body xs:PySem.Expr}{scope:Scope}{p pos qW kpos:Pos}{JK te:TE}(hK:X.K=K)(hr:aX k X.A)(hcl:X.calm=true)(hg:Gl X "sorted")(hm:X.mg "sorted"=none)
  (c:rY X scope y fr js) (hc0:X.env.code=.ref c0) (hcd:W.codeHdIn X.K c0 P=true) (bm:BMod X.base X.mg) (hq:X.env.qual ++ "<lambda>"=qual) (hd0:params.defaults=[]) (hk0:params.kw_defaults=[])
  (hb:∀cl pm cd ct u,bindArgs (W.kla_fn "<lambda>" qual params body scope cl pm cd ct) ⟨[u],[]⟩=pure [(y,u)]) (ha:PE X xs JK)
  (he:∀f cd cl s H,PE (jG X X.A.in1.in1 (y ::fr) qual scope f cd cl s H) body te) (hn:AR [xs]:=by repeat' (first|exact True.intro|refine⟨?_,?_⟩)) :
  PE X (.Call (.Name "sorted" p) [xs] [⟨some "key",.Lambda params body scope qW,kpos⟩] pos) (ZkT K P qW qual js JK te):=by
 subst hK;subst hq;intro pins s σ H Q I h;refine aqX (zl I hg hm boot_sorted ?_ (by decide) (by decide));refine callWith_kw (tS ((pc ha Zb hn.1) pos pins s σ H (λvs H1=>match vs with| [x]=>RX X.K P qW (X.env.qual ++ "<lambda>") js te σ Q x H1|_=>False) I h) λus s1 vs H1 I1 r1 q1=>?_) (by rw[zg hn.1];rfl) (by rw[zg hn.1];rfl) rfl rfl
 match vs,r1,q1 with
 | [],_,z=>exact z.elim
 |_ ::_ ::_,_,z=>exact z.elim
 | [x],r1,q1=>
  obtain⟨l,ns,key,rfl,hS,h64,nd,hP,ht,q⟩:=q1;obtain⟨u,rfl,ru⟩:=vals1 r1;cases ru;show wpAny _ _ (evalAll [(do let v <-eval (.Lambda params body scope qW) X.env;standAt pos;pure v)]) _ _ s1;refine wpAny_evalAll_cons (a3A (Zil c I1 hc0 hcd bm hP hd0 hk0 λf cl cd pm ct of H2 s2 I2 sm j7 qd hf hof hcode=>a3A (auQ (aLE (wpAny_evalAll_nil ?_)))));show wpAny _ _ (call (.builtin "sorted") [.ref l] [(Str.ofString "key",.ref f)]) _ _ s2;refine Zin I2 (sm.seq hS) h64 nd (λz hz H3 s3 u LN I3 ru=>?_) λD H' os hD Wm hl po so=>q D H' os (sm.free hD) (sm.trans Wm) hl po so;have WI:=(I3.hok f _ (LN _ _ hf)).1;obtain⟨c',oc,vs',t',rfl,hc',hd',hv'⟩:=hcode;have WN:=(I3.hok c' _ (LN _ _ hc')).1;exact Zik (A:=X.A.in1.in1) c I3 I3.ok.frames (I3.ok.hd hcl) hr.depth j7 qd WI hof ⟨c',oc,vs',t',rfl,WN,hd',hv'⟩ (hb cl pm _ ct) ru (λs=>he f _ cl s H3) (ht z hz H3 (sm.trans LN))
end
theorem ZgS{P:Program}{w:World}{K:W.Frag}{mg mb:Str->Option Value}{CX:zy}{k:Nat}{fa a tp c0:Addr}{pos:Pos}{qual:Str}{fd:FuncData}{x:Str}{sp:Sp}{s₁:Shared}{vs:List Value}{ns:List Int}
  (KX:K.In s₁.heap) (hns:s₁.heap.Ns mainGlobals mg) (hb:s₁.heap.Ns builtinsNs mb) (Yh:∀x:Str,x ≠ "__name__" ->mb x=bootBuiltins x) (hlim:s₁.heap.NoLimit) (hg:s₁.gens=#[])
  (ha:s₁.heap.get? a=some { cls:=.type "list",data:=.seq vs.toArray }) (hi:IntsAre vs ns) (hl:ns.length<=sizeLine) (hr:aX k callerA)
  (htp:s₁.heap.get? tp=some { cls:=.none,data:=.fields #[] }) (hch:W.codeHdIn K c0 tp=true) (Yl:K.lookup tp=none)
  (hbm:BMod s₁.heap mg) (F:∀base:Heap,K.In base->base.Ns mainGlobals mg->BMod base mg->cM P w K mg base CX k fa fd [x] sp) (hbind:∀(s:Shared)(u:Value),BindsTo s fd ⟨[u],[]⟩ [(x,u)])
  (vG:∀H:Hp,H tp=some (.oF pos qual)->ao K H a (ns.map V.int)->sp [.ref a] H (λv _=>v=.bl true) λ_ _ _=>False)
  (M9:∀H e s',CX [] H s₁ (λ_ _ _=>False) e s'->False) :
  codeAny (model P w) callerA (.call (.ref fa) ⟨[.ref a],[]⟩) (λr s'=>r=.ok (.ret (.bool true))/\OldK s₁.heap s'.heap/\s'.os=s₁.os/\AllBare s'.gens) s₁:=by
 have rv:=Jf hi;have Mw:=hi.length;have nat:a≠tp:=λz=>by rw[z,htp]at ha;cases ha
 have core:∀H:Hp,H tp=some (.oF pos qual)->ao K H a (ns.map V.int)->eT P w H s₁.heap->(∀b,H b≠none->b=tp\/(b=a/\∃o xs,H b=some (.cU o (.lst xs))))->(H a≠none->K.lookup a=none) ->
   codeAny (model P w) callerA (.call (.ref fa) ⟨[.ref a],[]⟩) (λr s'=>r=.ok (.ret (.bool true))/\OldK s₁.heap s'.heap/\s'.os=s₁.os/\AllBare s'.gens) s₁:=by
  intro H hT hS hok hA hK;have W0:∀{b:Addr}{o:Obj}{es:Array DictEntry}{ep:Nat},s₁.heap.get? b=some o->o.data=.dict es ep->H b=none:=λ{b o es ep} e d=>by
   cases q:H b with
   |none=>rfl
   |some u=>
    rcases hA b (by rw[q];simp) with z|⟨z,_⟩
    .rw [z,htp]at e;cases e;cases d
    .rw [z,ha]at e;cases e;cases d
  have J3:∀{b:Addr}{m:Str->Option Value},s₁.heap.Ns b m->(pQ s₁.heap H).Ns b m:=λ{b m}⟨o,es,ep,e,d,r⟩=>⟨o,es,ep,OI e (W0 e d),d,r⟩;have QM:K.In (pQ s₁.heap H):=λb o e=>OI (KX b o e) (by
   cases q:H b with
   |none=>rfl
   |some u=>
    rcases hA b (by rw[q];simp) with z|⟨z,_⟩
    .rw [z,Yl]at e;cases e
    .have n:H a≠none:=by rw[<-z,q];simp
     rw[z,hK n]at e;cases e)
  have hM:Mod K mg (pQ s₁.heap H):=⟨QM,J3 hns,⟨mb,J3 hb,Yh⟩,let⟨mc,h1,h2⟩:=hlim;⟨mc,J3 h1,h2⟩⟩;have e0:tQ P w K mg (pQ s₁.heap H) callerA [] s₁ H:=⟨rfl,hM,λb o e=>Zjt e,ab5 (Zgf _ _),trivial,λb hb=>absurd (show b∈([]:List Addr) from hb) (by simp),hok,.of_eq hg⟩;have hB:BMod (pQ s₁.heap H) mg:=by
   obtain⟨b,o,a1,a2,a3,a4,a5,a6,a7⟩:=hbm;refine⟨b,o,a1,a2,a3,OI a4 ?_,a5,a6,a7⟩;cases q:H b with
   |none=>rfl
   |some u=>
    rcases hA b (by rw[q];simp) with z|⟨z,_⟩
    .rw [z,htp]at a4;cases a4;cases a5
    .rw [z,ha]at a4;cases a4;have a8:Value.type "list"=Value.type "module":=a5;injection a8 with a8
     exact absurd a8 (by decide)
  refine codeAny_mono ((F _ QM (J3 hns) hB).run callerA [] s₁ H ⟨[.ref a],[]⟩ [.ref a] [.ref a] _ _ hr e0 (hbind s₁ (.ref a)) (.cons rfl .nil) (vG H hT hS)) λr s' h=>?_;cases r with
  |error e=>exact(M9 H e s' h).elim
  |ok fl=>
   cases fl with
   |next=>exact False.elim h
   |brk=>exact False.elim h
   |cont=>exact False.elim h
   |ret u=>
    obtain⟨v,H',os,bare,un,HB,r',q⟩:=h;have q':v=.bl true:=q;subst q';obtain rfl:u=Value.bool true:=r';have tab:=(W.codeHd_of_K KX hch).tab htp;have t2:=HB tp _ (un.kG _ _ _ hT);obtain⟨ps,hps,_⟩:=t2;have old:∀b o,s₁.heap.get? b=some o->b≠tp->s'.heap.get? b=some o:=λb o e nb=>by
     cases q:H b with
     |none=>exact un.keep b o e q (by intro z;exact absurd (show b∈([]:List Addr) from z) (by simp)) (by simp)
     |some u=>
      rcases hA b (by rw[q];simp) with z|⟨_,ob,xs,z⟩
      .exact absurd z nb
      .have z2:=un.j6 b ob _ z;obtain⟨e1,_⟩:=hok b _ z;obtain⟨e2,_⟩:=HB b _ z2;rw[e]at e1;cases e1;exact e2
    refine⟨rfl,⟨λb o e=>?_,λb o e=>?_⟩,os,bare⟩
    .by_cases nb:b=tp
     .subst nb;rw[htp]at e;cases e;exact .inr (.inl ⟨tab.isCodeTable,rfl,#[],ps,rfl,by rw[hps];simp⟩)
     .exact .inl (old b o e nb)
    .by_cases nb:b=tp
     .subst nb;exact⟨_,hps⟩
     .exact ⟨o,old b o e nb⟩
 have tb:∀H:Hp,aF P w H s₁.heap tp (.oF pos qual):=λH=>⟨#[],htp,True.intro,λcv e=>by cases e⟩;cases hk:K.lookup a with
 |some o=>
  have e:=KX a o hk;rw[ha]at e;cases e;refine core (λb=>if b=tp then some (.oF pos qual) else none) (auJ rfl) (.inr ⟨_,vs.toArray,_,hk,rfl,rfl,rfl,by rw[a6x,Mw];exact hl,by simpa using rv⟩) (λb u z=>?_) (λb z=>?_) λz=>absurd (ale nat) z
  .by_cases hb:b=tp
   .have z':=(auJ hb).symm.trans z;cases z';subst hb;exact tb _
   .have z':=(ale hb).symm.trans z;cases z'
  .by_cases hb:b=tp
   .exact .inl hb
   .exact absurd (ale hb) z
 |none=>
  refine core (λb=>if b=tp then some (.oF pos qual) else if b=a then some (.cU { cls:=.type "list",data:=.seq vs.toArray } (.lst (ns.map V.int))) else none) (auJ rfl) (.inl (.inr ⟨{ cls:=.type "list",data:=.seq vs.toArray },(ale nat).trans (auJ rfl)⟩)) (λb u z=>?_) (λb z=>?_) λ_=>hk
  .by_cases hb:b=tp
   .have z':=(auJ hb).symm.trans z;cases z';subst hb;exact tb _
   .have z':=(ale hb).symm.trans z;by_cases hb2:b=a
    .have z2:=(auJ hb2).symm.trans z';cases z2;subst hb2;exact⟨ha,by rw[apM];exact hl,vs,_,rv,ha⟩
    .have z2:=(ale hb2).symm.trans z';cases z2
  .by_cases hb:b=tp
   .exact .inl hb
   .by_cases hb2:b=a
    .exact .inr ⟨hb2,_,_,(ale hb).trans (auJ hb2)⟩
    .exact absurd (by show(if b=tp then _ else if b=a then _ else none)=none;rw[ale hb,ale hb2]) z
theorem Ziq{l:W.OpenLaw}{n k:Nat}{q:Program}{loose:List Str}{XP:(Str->Option Value)->Heap->Prop}{YP:World->Heap->Prop}{d:DefRec}{K:Params->W.Frag}{CX:World->zy}{sp:World->Sp}{x:Str}{tp:Addr}{pos:Pos}{qual:Str}{G:World->Prop}
  (hn:l.most=some n) (hn2:n<=sizeLine) (hdf:d.params.defaults=[]) (hr:aX k callerA)
  (hY:∀(w:World)(h:Heap),YP w h->(K w.params).In h/\h.get? tp=some { cls:=.none,data:=.fields #[] })
  (F:∀(w:World)(mg:Str->Option Value)(fa:Addr)(h:Heap),(K w.params).In h->h.Ns mainGlobals mg->mg d.name=some (.ref fa) ->
   G w/\(∃c0,W.codeHdIn (K w.params) c0 tp=true)/\(K w.params).lookup tp=none/\∃fd:FuncData,(∀(s:Shared)(u:Value),BindsTo s fd ⟨[u],[]⟩ [(x,u)]) /\
    ∀base:Heap,(K w.params).In base->base.Ns mainGlobals mg->BMod base mg->cM l.prog w (K w.params) mg base (CX w) k fa fd [x] (sp w))
  (vG:∀(w:World)(H:Hp)(a:Addr)(ns:List Int),G w->ns.length<=n->H tp=some (.oF pos qual)->ao (K w.params) H a (ns.map V.int)->sp w [.ref a] H (λv _=>v=.bl true) λ_ _ _=>False)
  (M9:∀(w:World)(H:Hp)(s:Shared)(e:Value)(s':Shared),CX w [] H s (λ_ _ _=>False) e s'->False) :
  W.WalkO q loose XP YP l.row.toRowW d [] (λf vs=>PySem.call f vs):=by
 refine U5.rE hn hdf λw s₀ s₁ mg mb fa o pm cd doc a vs ns G' Y ho hd hcd hmg hobj hints hlen hg=>?_;obtain⟨KX,htp⟩:=hY w _ Y;obtain⟨g,⟨c0,hc⟩,hk,fd,hb,hF⟩:=F w mg fa _ KX G'.T.g hmg;have hbm:BMod s₁.heap mg:=by
  obtain⟨bm,ob,b1,b2,b3,b4,b5,b6⟩:=G'.T.bmain;refine⟨bm,ob,b1,b2,λz=>?_,b3,b4,b5,b6⟩;obtain⟨o,es,ep,e,hd',_⟩:=G'.T.g;rw[z,e]at b3;cases b3;rw[hd']at b6;cases b6
 exact ZgS KX G'.T.g G'.T.b G'.T.builtins G'.T.nolimit hg hobj hints (atR hlen hn2) hr htp hc hk hbm hF hb (λH hT hS=>vG w H a ns g hlen hT hS) λH e s'=>M9 w H s₁ e s'
def af(K:W.Frag)(x:Str):Addr:=match W.nsIn K mainGlobals x with
 |some (some (.ref C))=>C
 |_=>0
def tabOf(K:W.Frag)(x m:Str):Addr:=match W.findIn K (.ref (af K x)) m with
 |some (some (.ref f))=>(match K.lookup f with
  |some ⟨_,_,.func fd,_⟩=>(match fd.code with
   | .ref c=>(match K.lookup c with
    |some ⟨_,_,.fields vs,_⟩=>(match(vs[11]?:Option Value) with
     |some (.ref P)=>P
     |_=>0)
    |_=>0)
   |_=>0)
  |_=>0)
 |_=>0
theorem IT{K:W.Frag}{x:Str}{C:Addr}(h:W.nsIn K mainGlobals x=some (some (.ref C))):af K x=C:=by
 unfold af;rw[h]
theorem Zir{K:W.Frag}{x m:Str}{f c P:Addr}{oc:Value}{od:Option Addr}{fd:FuncData}{sl:Array (Option Value)}(h1:W.findIn K (.ref (af K x)) m=some (some (.ref f)))(h2:K.lookup f=some ⟨oc,od,.func fd,sl⟩)(h3:fd.code=.ref c)
  (h4:W.codeHdIn K c P=true):tabOf K x m=P:=by
 unfold W.codeHdIn at h4;split at h4
 .rename_i vs _ hk;simp only[aix]at h4;obtain⟨⟨⟨⟨⟨e1,_⟩,_⟩,_⟩,_⟩,_⟩:=h4;split at e1
  .rename_i P' h11;have hP:P'=P:=av8.mp e1;subst hP;unfold tabOf;simp only[h1,h2,h3,hk,h11]
  .cases e1
 .cases h4
end L2
namespace L2
open PySem PySem.F PyProof.Rows PySem.MeetsSeq
variable{K:W.Frag}{X:Cx}{pins:List Pin}{σ:St}{H:Hp}{s:Shared}
inductive uA(K:W.Frag)(xs:List V)(H:Hp)(Q:VK):Prop
 |mk (p:Addr) (ns:List Int):xs=[.ref p]->ao K H p (ns.map V.int)->ns.length<64->(∀(D:Addr)(os:List Int),H D=none->os.Perm ns->os.Pairwise (·<=·)->Q (.ref D) (upd H D (.lst (os.map V.int))))->uA K xs H Q
theorem Zeu(hK:X.K=K):aY X (.builtin "sorted") (uA K):=by
 subst hK;intro pins s σ H xs us Q I r h;obtain⟨p,ns,rfl,hq,h64,q⟩:=h;obtain⟨u,rfl,rx⟩:=vals1 r;cases rx;obtain⟨its,rv,pl,hz⟩:=I.list hq;have hv:=Lm rv;have lv:its.length=ns.length:=by have:=rv.length;rw[apM]at this;exact this.symm
 refine sorted_ints pl.isList hv (by lia) λout ns' hi hp hs=>?_;obtain⟨e,he⟩:=sortedAll_at s.heap its out;have fr:H (s.heap.objs.size+1)=none:=I.hok.fresh (aYm _);have lo:=hp.length_eq;refine⟨.ref (s.heap.objs.size+1),_,I.laid (a:=s.heap.objs.size+1) (t':=s.toks) (o:=.lst (ns'.map V.int)) (λb o z=>sortedAll_old z) (aYm _) ⟨by rw[apM,lo,aK9];lia,out.toList,e,Jf hi,he⟩,rfl,q _ ns' fr hp hs⟩
theorem wu{e:PySem.Expr}{T:String}{r:V->List V->Hp->VK->Prop}{to:TE}{t:TA}(hK:X.K=K)(h:PE X e (LI X.K T r to t)):PE X e (LI K T r to t):=by
 subst hK;exact h
end L2
namespace L2
open PySem PySem.Calls PyProof.Rows PySem.MeetsSeq PySem.W
variable{K:W.Frag}{X:Cx}{pins:List Pin}{σ:St}{H:Hp}{s:Shared}
inductive qH(xs:List V)(H:Hp)(Q:VK):Prop
 |mk (d:Addr) (kvs:List (Key×V)) (ns:List Int):xs=[.ref d]->H d=some (.dK kvs)->kvs.map Prod.fst=ns.map Sum.inl->ns.length<64->(∀(D:Addr)(os:List Int),H D=none->os.Perm ns->os.Pairwise (·<=·)->Q (.ref D) (upd H D (.lst (os.map V.int))))->qH xs H Q
theorem Td:∀{xs:List V}{us:List Value},xs.length=us.length->(∀(i:Nat) x u,xs[i]?=some x->us[i]?=some u->RelV x u)->Vals xs us
 | [],[],_,_=>.nil
 | [],_ ::_,h,_=>nomatch h
 |_ ::_,[],h,_=>nomatch h
 |x ::xs,u ::us,h,k=>.cons (k 0 x u rfl rfl) (Td (by simpa using h) λi x' u' h1 h2=>k (i+1) x' u' (by simpa using h1) (by simpa using h2))
theorem RW:∀{kvs:List (Key×V)}{vs:List (Key×Value)},KV kvs vs->∀{i:Nat}{p:Key×V}{q:Key×Value},kvs[i]?=some p->vs[i]?=some q->p.1=q.1
 |_,_,.nil,_,_,_,h,_=>nomatch h
 |_,_,.cons r t,0,_,_,h1,h2=>by cases h1;cases h2;exact r.1
 |_,_,.cons r t,i+1,_,_,h1,h2=>RW (i:=i) t (by simpa using h1) (by simpa using h2)
theorem TY{P:Program}{w:World}{kvs:List (Key×V)}{vs:List (Key×Value)}{ns:List Int}{acc:Array Value}(r:KV kvs vs)(e:kvs.map Prod.fst=ns.map Sum.inl)(h:ItemsOf (λi v=>∃k x,vs[i]?=some (k,x)/\(Zy P w).is k v=true) acc vs.length):IntsAre acc.toList ns:=by
 have lv:kvs.length=vs.length:=aL0 r;have ln:kvs.length=ns.length:=by have:=agz List.length e;simpa using this
 refine Lm (Td (by have l3:acc.toList.length=acc.size:=apo;have l4:=h.1;rw[apM];lia) λi x u hx hu=>?_);rw[aq8]at hu;obtain⟨k,y,h1,h2⟩:=h.2 i u hu;have hi:i<kvs.length:=by rw[lv];exact(ajE.mp h1).1
 have e1:=RW r (a4h hi) h1;have e2:(kvs.map Prod.fst)[i]?=some k:=by rw[afQ,a4h hi];exact agz some e1
 rw[e,afQ]at e2;rw[afQ]at hx;cases g:ns[i]? with
 |none=>rw[g]at hx;cases hx
 |some z=>
  rw[g]at hx e2;cases hx;cases e2;exact TM h2
theorem UK(hc:X.calm=true):aY X (.builtin "sorted") qH:=by
 intro pins s σ H xs us Q I r h;obtain⟨d,kvs,ns,rfl,hd,hk,h64,q⟩:=h;obtain⟨u,rfl,rx⟩:=vals1 r;cases rx;obtain⟨hz,hs,vs,rv,hD⟩:=I.hok d _ hd;obtain⟨ep,hat⟩:=hD.dictAt;have hl:vs.length=ns.length:=by have l1:kvs.length=vs.length:=aL0 rv;have l2:=agz List.length hk;simp at l2;lia
 refine call_function_entry kind_sorted plain_sorted entry_sorted (args_sorted1 _) ?_;unfold Builtin.«sorted»;refine a3A (m:=checkCount "sorted" 1 1 _) (aLE ?_);refine a3A (kdu_collect (A:=X.A.in1) (kdl_dict (knd:=Zy X.prog X.w) (kvs:=vs) (ep:=ep) hs) (show X.A.in1.handled=none from I.ok.hd hc) hat (by rw[aK9];lia) λh' tk acc hk' hacc=>?_);have hI:=TY rv hk hacc;have la:acc.toList.length=ns.length:=by rw[apo,hacc.1,hl]
 refine a3A (aE7 ?_ (by rw[la,aK9];lia));have qc:(h'.push (seqObj "list" acc.toList.toArray 0)).get? h'.objs.size=some (seqObj "list" acc.toList.toArray 0):=awu _ rfl;have I1:=I.kept (t':=tk) hk';show wpAny _ _ _ _ _ { s with heap:=h'.push (seqObj "list" acc.toList.toArray 0),toks:=tk };refine a3A (aPf (aXd slot_list_sort ⟨_,qc,rfl⟩ entry_list_sort (list_sort_tree qc hI (by lia) λout ns' a1 a2 a3=>⟨_,rfl,?_⟩) (args_list_sort _)));refine aLE ⟨_,rfl,?_⟩;obtain⟨e,he⟩:=sortedHeap_at (out:=out) qc;have fr:H h'.objs.size=none:=I1.hok.fresh (aI1 _);have lo:=a2.length_eq;refine⟨.ref h'.objs.size,_,I1.laid (a:=h'.objs.size) (t':=tk) (o:=.lst (ns'.map V.int)) (λb o z=>?_) (aI1 _) ⟨by rw[apM,lo,aK9];lia,out.toList,e,Jf a1,he⟩,rfl,q _ ns' fr a2 a3⟩;have z':h'.get? b=some o:=z;have lt:=aPy z';rw[sortedHeap_old (aor lt) (by rw[size_push'];exact aqa lt),aNy _ _ _ (aor lt)];exact z'
theorem TX{K:W.Frag}{a:Addr}{xs:List V}{l:Addr}{g:TG}{tc:TT}{te:TE}{σ0:St}{H0:Hp}{Qf:Hp->Prop}(Pv:Nat->List V->St->Hp->Prop)(h0:Pv 0 [] σ0 H0)
  (hl:∀i ys σ' H',i<=xs.length->Pv i ys σ' H'->ao K H' a xs)
  (hs:∀i x t ys σ' H',i<xs.length->xs[i]?=some x->ys.length<=i->Pv i ys σ' H'->H' t=none->g (.ref t) σ' (upd H' t (.tup [.int i,x])) λσ2 H3=>tc σ2 H3 λb H4=>if b=true then te σ2 H4 λy H5=>gu xs.length l Pv i ys σ2 y H5 else yV xs.length Pv i ys σ2 H4)
  (hd:∀ys σ' H',ys.length<=xs.length->Pv xs.length ys σ' H'->Qf H') :
  ∃W:Nat->Nat->List V->St->Hp->Prop,(∃m,W 0 m [] σ0 H0)/\∀i m ys σ' H',W i m ys σ' H' ->
  ((Cr K a).stop i H'/\Qf H')\/((Cr K a).go i H'/\∀x H2,(Cr K a).sr i H' x H2->g x σ' H2 λσ2 H3=>tc σ2 H3 λb H4=>
    if b=true then te σ2 H4 λy H5=>H5 l=some (.lst ys)/\ys.length<sizeLine/\∃m',m'<m/\W (i+1) m' (ys++[y]) σ2 (upd H5 l (.lst (ys++[y])))
    else ∃m',m'<m/\W (i+1) m' ys σ2 H4):=by
 refine⟨λi m ys σ' H'=>m=xs.length-i/\i<=xs.length/\ys.length<=i/\Pv i ys σ' H',⟨xs.length,rfl,acY _,aI1 _,h0⟩,?_⟩;rintro i m ys σ' H' ⟨rfl,hi,hy,p⟩;have q:=hl i ys σ' H' hi p;by_cases hlt:i<xs.length
 .refine .inr ⟨⟨xs,xs[i],q,by simp[hlt]⟩,λx H2 z=>?_⟩;obtain⟨t,u,ht,rfl,rfl,z1⟩:=z;exact hs i u t ys σ' _ hlt (z1 xs q) hy p ht
 .have e:i=xs.length:=by lia
  subst e;exact .inl ⟨⟨xs,q,rfl⟩,hd ys σ' H' hy p⟩
theorem AE{C:Addr}{m:Str}{k:Nat}{ps:List Str}{sp:Sp}{o:PySem.Expr}{ta:TE}{apos pos:Pos}{pl:Sem Bool}(M:vV X.prog X.w X.K X.mg X.base C m k ps sp)(hr:aX k X.A)(c:sj X.K C)(he:PE X o ta)
  (ht:eval (.Call (.Attribute o m apos) [] [] pos) X.env=(do
   let ov <-eval o X.env
   standAt apos.atName
   let(f,first) <-holding [ov] (getMethod ov m pl)
   callWith pos f first (backTo pos (starEach [] X.env)) (backToKw pos (keywordEach [] X.env))):=by rfl) :
  PE X (.Call (.Attribute o m apos) [] [] pos) (tU C m sp [] E0 ta zD):=by
 obtain⟨f,fd,F,hm,hb⟩:=M;exact ZhY he c hm F hr hb .nil (λ_ _ _ _ _ _ _ z=>z.elim) ht
end L2
namespace L2
open PySem PySem.Calls PySem.Spec PyProof.Rows PySem.W
structure Jx(K:W.Frag)(C:Addr)(m:Str)(f:Addr):Prop where
 ga:W.specialIn K (.ref C) "__getattribute__"=some (some (.builtin "type.__getattribute__"))
 rd:∃mc,W.readsIn K C mc=true/\W.findCls K (.ref C) mc m=some (.val (.ref f))
 kp:W.keepIn K (.ref f)=true
structure Ef(P:Program)(w:World)(K:W.Frag)(mg:Str->Option Value)(base:Heap)(x m:Str)(k:Nat)(ps:List Str)(sp:Sp):Prop where
 ex:∃(C f:Addr)(fd:FuncData),cM P w K mg base p8 k f fd ps sp/\Jx K C m f/\mg x=some (.ref C)/\Binds K fd ps []
section
variable{X:Cx}{x m:Str}{p pos apos:Pos}{e o:PySem.Expr}{es:List PySem.Expr}{ta:TE}{t:TA}{k:Nat}{ps:List Str}{sp:Sp}{C:Addr}
theorem ZjQ{pl:Sem Bool}(M:Ef X.prog X.w X.K X.mg X.base x m k ps sp)(hr:aX k X.A)(hg:Gl X x)(ha:PA X (e ::es) t)(hn:AR (e ::es):=by repeat' (first|exact True.intro|refine⟨?_,?_⟩))(hd:(x ==("__debug__":Str))=false:=by decide)
  (ht:eval (.Call (.Attribute (.Name x p) m apos) (e ::es) [] pos) X.env=(do
   let ov <-eval (.Name x p) X.env
   standAt apos.atName
   let(f,first) <-holding [ov] (getMethod ov m pl)
   callWith pos f first (backTo pos (starEach (e ::es) X.env)) (backToKw pos (keywordEach [] X.env))):=by rfl) :
  PE X (.Call (.Attribute (.Name x p) m apos) (e ::es) [] pos) (tV sp [] E0 t):=by
 obtain⟨C,f,fd,F,c,hm,hb⟩:=M.ex;obtain⟨mc,hr1,hr2⟩:=c.rd;intro pins s σ H Q I h;have he:PE X (.Name x p) (tC (.ref C)):=S9 (v:=.ref C) hg hm rfl hd;refine W.methodCall_KW (pl:=pl) (bZ (he pins s σ H (λv H1=>v=.ref C/\H1=H) I ⟨rfl,rfl⟩) λu s1 ⟨x,H1,I1,rx,e1,e2⟩=>?_) ht;subst e1 e2;obtain rfl:u=Value.ref C:=rx;have I2:Inv X pins σ H1 { s1 with toks:=s1.toks+1 }:=I1.kept (t':=s1.toks+1) λb o e=>e;refine W.method_cls I1.dR c.ga (W.cls_value I1.dR hr1 hr2 rfl ?_);refine W.callWith_K (first:=[]) (h₀:=X.base) I.ok.mod.Es c.kp (tS (ha pos pins _ σ H1 _ I2 h) λus s2 vs H2 I3 r q2=>⟨I3.dR,?_⟩) (zg hn.1) (DF hn.2);exact KL (us:=us) (vs:=vs) F hr hb .nil uJ I3 r q2
end
theorem aX.m{j k:Nat}{A:Around}(r:aX k A)(h:j<=k:=by first|decide|lia):aX j A:=r.mono h
section
variable{X:Cx}{pos:Pos}
theorem bE(i:Nat){x:Str}(hN:X.N.Nodup)(hi:X.N[i]?=some x:=by rfl)(hx:Loc X.env.scope x:=by first|exact Or.inl rfl|exact Or.inr rfl)(hf:X.fn x=true\/X.env.scope.names.lookup x=some .local:=by first|exact .inl rfl|exact .inr rfl|assumption):PG X (.Name x pos) (dJ i):=Zju hN hi hx hf
theorem cX(i:Nat){x:Str}{e:PySem.Expr}{te:TE}{pos':Pos}(hN:X.N.Nodup)(he:PE X e te)(hi:X.N[i]?=some x:=by rfl)(hx:Loc X.env.scope x:=by first|exact Or.inl rfl|exact Or.inr rfl)(hs:swapsWith e (some (.Name x pos')) pos.line X.env=pure false:=by rfl)(hf:X.fn x=true\/X.env.scope.names.lookup x=some .local:=by first|exact .inl rfl|exact .inr rfl|assumption):PS X (.Assign [.Name x pos'] e pos) (sy te (dJ i)):=Zkz hN hi hx he hs hf
end
end L2
namespace L2
open PySem PySem.F PyProof.Rows
variable{K:W.Frag}{X:Cx}{pins:List (Addr×Obj)}{σ:St}{H H':Hp}{s:Shared}
def ou:V->PyData->Prop
 | .aO,d=>d=.none
 | .bl b,d=>d=.bool b
 | .int i,d=>d=.int i/\i.natAbs.log2<1920
 | .str x,d=>d=.str x
 |_,_=>False
def AI(N:Addr->Prop)(H:Hp):Nat->V->PyData->Prop
 |0=>ou
 |n+1=>λv d=>ou v d\/∃a xs ds,v=.ref a/\¬N a/\Paired (AI N H n) xs ds/\((H a=some (.lst xs)/\d=.list ds)\/(H a=some (.tup xs)/\d=.tuple ds))
theorem UC{h:Heap}{v:V}{d:PyData}{u:Value}(f:ou v d)(r:RelV v u):Reads h u d []/\d.showable=true/\d.hasDict=false/\d.depth=0:=by
 cases v with
 |aO=>cases f;cases r;exact⟨.none,rfl,rfl,rfl⟩
 |bl b=>cases f;cases r;exact⟨.bool b,rfl,rfl,rfl⟩
 |int i=>
  obtain⟨rfl,z⟩:=f;obtain⟨t,rfl⟩:=r;exact⟨.int i t,by simp only[PyData.showable];exact a5h z,rfl,rfl⟩
 |str x=>cases f;obtain⟨t,rfl⟩:=r;exact⟨.str x t,rfl,rfl,rfl⟩
 |_=>exact f.elim
theorem Ou{h:Heap}{n:Nat}{F:V->PyData->Prop}(hF:∀v d u,F v d->RelV v u->∃as,Reads h u d as/\d.showable=true/\d.hasDict=false/\d.depth<=n) :
  ∀{xs:List V}{ds:List PyData}{us:List Value},Paired F xs ds->Vals xs us->∃as,ReadsAll h us ds as/\PyData.showableAll ds=true/\PyData.hasDictAll ds=false/\PyData.depthAll ds<=n
 |_,_,_,.nil,.nil=>⟨[],.nil,rfl,rfl,acY _⟩
 |_,_,_,.cons f p,.cons r q=>by
  obtain⟨as,r1,r2,r3,r4⟩:=hF _ _ _ f r;obtain⟨bs,t1,t2,t3,t4⟩:=Ou hF p q;refine⟨as++bs,.cons r1 t1,?_,?_,?_⟩
  .simp only[PyData.showableAll,r2,t2,Bool.and_self]
  .simp only[PyData.hasDictAll,r3,t3,Bool.or_self]
  .simp only[PyData.depthAll];exact Nat.max_le.mpr ⟨r4,t4⟩
theorem Oi{N:Addr->Prop}(I:Inv X pins σ H s):∀(n:Nat){v:V}{d:PyData}{u:Value},AI N H n v d->RelV v u->∃as,Reads s.heap u d as/\d.showable=true/\d.hasDict=false/\d.depth<=n
 |0,v,d,u,h,r=>let⟨a,b,c,e⟩:=UC h r;⟨[],a,b,c,ab5 e⟩
 |n+1,v,d,u,h,r=>by
  rcases h with h|⟨a,xs,ds,rfl,_,p,c⟩
  .obtain ⟨a,b,c,e⟩:=UC h r;exact⟨[],a,b,c,by rw[e];exact acY _⟩
  .cases r;rcases c with⟨c,rfl⟩|⟨c,rfl⟩
   .obtain ⟨its,rv,⟨o,m,e,hc,_,hd⟩,_⟩:=I.list (ao.of c);obtain⟨as,t1,t2,t3,t4⟩:=Ou (λv d u f r=>Oi I n f r) p rv;refine⟨a ::as,.list e hc hd (by simpa using t1),?_,?_,?_⟩
    .simp only[PyData.showable,t2]
    .simp only[PyData.hasDict,t3]
    .simp only[PyData.depth];lia
   .obtain ⟨its,rv,⟨o,e,hc,m,hd⟩,_⟩:=I.tuple (aP.of c);obtain⟨as,t1,t2,t3,t4⟩:=Ou (λv d u f r=>Oi I n f r) p rv;refine⟨as,.tuple e hc hd (by simpa using t1),?_,?_,?_⟩
    .simp only[PyData.showable,t2]
    .simp only[PyData.hasDict,t3]
    .simp only[PyData.depth];lia
inductive Bp(xs:List V)(H:Hp)(Q:VK):Prop
 |mk (N:Addr->Prop) (a:Addr) (n:Nat) (d:PyData):xs=[.ref a]->n<=10->AI N H n (.ref a) d->d.shown.length<=sizeLine->Q (.str d.shown) H->Bp xs H Q
theorem K9(hg:X.A.guards=some [])(hu:X.A.units+1+20<cLine):aY X (.type "str") Bp:=by
 intro pins s σ H xs us Q I r h;obtain⟨N,a,n,d,rfl,hn,hr,hz,q⟩:=h;obtain⟨u,rfl,rx⟩:=vals1 r;cases rx;obtain⟨as,rd,hs,hd,dp⟩:=Oi I n hr rfl;exact str_of_reads rd hs (λz=>by rw[hd]at z;cases z) hg (by lia) (λ_ _ e=>e) (λh' u tk k=>⟨.str d.shown,H,I.kept k,⟨u,rfl⟩,q⟩) hz
theorem Ot{B:Nat}:∀{ds:List PyData},(∀d∈ds,d.shown.length<=B)->((PyData.shownAll ds).map (·.length)).sum<=ds.length*B/\(PyData.shownAll ds).length=ds.length
 | [],_=>⟨by simp[PyData.shownAll],by simp[PyData.shownAll]⟩
 |d ::ds,h=>by
  obtain⟨h1,h2⟩:=Ot (ds:=ds) λe he=>h e (asW _ he);have h0:=h d (bcs ..);simp only[PyData.shownAll,aB5,List.sum_cons,aCx,h2];refine⟨?_,trivial⟩;rw[Nat.add_mul];lia
theorem UB{B m:Nat}{ds:List PyData}(h:∀d∈ds,d.shown.length<=B)(hm:ds.length<=m):(PyData.shown (.list ds)).length<=m*(B+2)+3:=by
 obtain⟨h1,h2⟩:=Ot h;have h3:=listText_len_le (PyData.shownAll ds);simp only[PyData.shown];have h4:ds.length*(B+2)<=m*(B+2):=bbB _ hm;rw[Nat.mul_add]at h4;lia
theorem ZgU{B m:Nat}{ds:List PyData}(h:∀d∈ds,d.shown.length<=B)(hm:ds.length<=m):(PyData.shown (.tuple ds)).length<=m*(B+2)+3:=by
 obtain⟨h1,h2⟩:=Ot h;have h3:=tupleText_len_le (PyData.shownAll ds);simp only[PyData.shown];have h4:ds.length*(B+2)<=m*(B+2):=bbB _ hm;rw[Nat.mul_add]at h4;lia
end L2
namespace L2
open PySem PySem.F PyProof.Rows PySem.MeetsSeq
variable{K:W.Frag}{X:Cx}
end L2
namespace L2.aD
open PySem PySem.Spec PyProof.Rows
structure RR where
 r:Keyed->Nat
 g:Keyed->Int
def Kg(ρ:RR)(xs:Array Keyed)(i:Nat):Int:=(xs[i]?).elim 0 ρ.g
theorem cL{ρ:RR}{xs ys:Array Keyed}{i j:Nat}(h:xs[i]?=ys[j]?):Kg ρ xs i=Kg ρ ys j:=by unfold Kg;rw[h]
theorem oE{ρ:RR}{xs:Array Keyed}{src d:Nat}(hs:src<xs.size)(hd:d<=src)(k:Nat) :
  Kg ρ (bubble xs src d) k=if k=src-d then Kg ρ xs src else if src-d<k/\k<=src then Kg ρ xs (k-1) else Kg ρ xs k:=by
 have e:=getElem?_bubble hs d hd k;by_cases c:k=src-d
 .rw [auJ c]at e ⊢;exact cL e
 .by_cases c2:src-d<k/\k<=src
  .rw [ale c,auJ c2]at e ⊢;exact cL e
  .rw [ale c,ale c2]at e ⊢;exact cL e
theorem jr{ρ:RR}{xs:Array Keyed}{i j:Nat}(hj:j<=xs.size)(k:Nat) :
  Kg ρ (mirror xs i j ((j-i)/2)) k=if i<=k/\k<j then Kg ρ xs (i+j-1-k) else Kg ρ xs k:=by
 have e:=getElem?_mirror_all (i:=i) hj k;by_cases c:i<=k/\k<j
 .rw [auJ c]at e ⊢;exact cL e
 .rw [ale c]at e ⊢;exact cL e
theorem cj{ρ:RR}{xs:Array Keyed}{i j:Nat}(hj:j<=xs.size)(al:∀k,i<=k->k<j->Kg ρ xs k=Kg ρ xs (j-1))(k:Nat):Kg ρ (mirror xs i j ((j-i)/2)) k=Kg ρ xs k:=by
 rw[jr hj];by_cases c:i<=k/\k<j
 .rw [auJ c,al _ (by lia) (by lia),al k c.1 c.2]
 .rw [ale c]
def kC(prog:Program)(w:World)(A:Around)(s:Shared)(κ:SortKind)(ρ:RR)(a₀:Array Keyed):Prop:=
 ∀p,p∈a₀.toList->∀q,q∈a₀.toList->∀(E:Value->Shared->Prop)(Q:Bool->Shared->Prop),Q (decide (ρ.g p<ρ.g q)) s->wpAny (model prog w) A (keyLt' κ p.1 q.1) Q E s
end L2.aD
namespace L2
open PySem PySem.Spec PyProof.Rows
section
open PySem.SeqAt
open PySem.AutoSeq1 (wpAny_loadPart')
open PySem.MeetsSeq PySem.MeetsSeq2 PySem.MeetsSeq3
end
section
variable{prog:Program}{w:World}{A:Around}{E:Value->Shared->Prop}{s:Shared}
def sC(h:Heap)(a:Addr)(us:List Value):Heap:=((h.update a (Obj.mapSeq λ_=>#[])).push (seqObj "tuple" us.toArray 0)).push (seqObj "list" #[] 0)
theorem Zis{h:Heap}{a b:Addr}{us:List Value}{o:Obj}(n:b≠a)(e:h.get? b=some o):(sC h a us).get? b=some o:=
 a8n _ (a8n _ (by rw[Heap.get?_update_ne _ _ _ _ n];exact e))
end
def zQ:Value->Addr
 | .ref a=>a
 |_=>0
theorem TF{α:Type}:∀l:List α,l.zip l=l.map λv=>(v,v)
 | []=>rfl
 |x ::r=>by rw[List.zip_cons_cons,TF r];rfl
theorem UA(us:List Value):(pairsOf us).toList=us.map λv=>(v,v):=by
 unfold pairsOf;rw[Array.toList_zip];exact TF us
variable{K:W.Frag}{X:Cx}
end L2
namespace L2.AH
open PySem PySem.Spec PyProof.Rows
def EL:Bool->Keyed->Array Keyed->Nat->Nat->Nat->StateT SortSt Sem (Option Nat):=sortPriv% PySem.Builtin.gallop
def ZS:Nat->StateT SortSt Sem Unit:=sortPriv% PySem.Builtin.setMinGallop
def Oh:Array Keyed->Array Keyed->StateT SortSt Sem (Array Keyed):=sortPriv% PySem.Builtin.mergeLo
def Og:Array Keyed->Array Keyed->StateT SortSt Sem (Array Keyed):=sortPriv% PySem.Builtin.mergeHi
def BU(left:Bool)(key:Keyed)(arr:Array Keyed)(base i:Nat):StateT SortSt Sem (Option Bool):=do
 let x <-elem' arr (base+i)
 if left then lt' x key else return (<-lt' key x).map (!·)
def Ax(left:Bool)(key:Keyed)(arr:Array Keyed)(base n Xp hi0:Nat):StateT SortSt Sem (Option Nat):=do
 let mut lo:=Xp
 let mut hi:=hi0
 for _ in[0:n] do
  if lo ≥ hi then break
  let m:=lo+(hi-lo)/2
  let some more <-BU left key arr base m|return none
  if more then lo:=m+1 else hi:=m
 return some hi
def QY(left:Bool)(key:Keyed)(arr:Array Keyed)(base n hint:Nat):StateT SortSt Sem (Option Nat):=do
 let mut iF:=0
 let mut vA:=1
 for _ in[0:n] do
  if vA ≥ n-hint then break
  let some more <-BU left key arr base (hint+vA)|return none
  if !more then break
  iF:=vA
  vA:=2*vA+1
 Ax left key arr base n (hint+iF+1) (hint+min vA (n-hint))
def QZ(left:Bool)(key:Keyed)(arr:Array Keyed)(base n hint:Nat):StateT SortSt Sem (Option Nat):=do
 let mut iF:=0
 let mut vA:=1
 for _ in[0:n] do
  if vA ≥ hint+1 then break
  let some found <-BU left key arr base (hint-vA)|return none
  if found then break
  iF:=vA
  vA:=2*vA+1
 Ax left key arr base n (hint+1-min vA (hint+1)) (hint-iF)
theorem ZfQ(left:Bool)(key:Keyed)(arr:Array Keyed)(base n hint:Nat):EL left key arr base n hint=(do
 let some right <-BU left key arr base hint|return none
 if right then QY left key arr base n hint else QZ left key arr base n hint):=rfl
theorem ZbI(g:Nat):ZS g=modify (λs=>SortSt.mk' (kindOf s) (arrOf s) (pendingOf s) g (failedOf s)):=rfl
theorem yy{σ α:Type}{M:Model}{A:Around}{E:Value->Shared->Prop}{s:Shared}{m m':StateT σ Sem α}{Q:α->σ->Prop}{st:σ}(e:m=m')(h:wpS M A E s m' Q st):wpAny M A (m st) (λr s'=>s'=s/\Q r.1 r.2) E s:=by subst e;exact h
section
variable{prog:Program}{w:World}{A:Around}{E:Value->Shared->Prop}{s:Shared}{a₀:Array Keyed}{κ:SortKind}{ρ:aD.RR}
theorem qV{st:SortSt}{p q:Keyed}{Q:Option Bool->SortSt->Prop}(hk:kindOf st=κ)(h0:aD.kC prog w A s κ ρ a₀)(mp:p∈a₀.toList)(mq:q∈a₀.toList)(h:Q (some (decide (ρ.g p<ρ.g q))) st):wpS (model prog w) A E s (lt' p q) Q st:=by
 rw[lt'_eq];refine aTR (axd ?_);rw[hk];exact aTR (wpS_lift (wpAny_attempt (h0 p mp q mq _ _ ⟨rfl,arI h⟩)))
theorem Zz{st:SortSt}{arr:Array Keyed}{i:Nat}{Q:Keyed->SortSt->Prop}(hi:i<arr.size)(h:Q arr[i] st):wpS (model prog w) A E s (elem' arr i) Q st:=by
 rw[elem'_eq,getElem?_pos arr i hi];exact arI h
theorem bB{arr:Array Keyed}{i:Nat}(hi:i<arr.size):aD.Kg ρ arr i=ρ.g arr[i]:=by
 unfold aD.Kg;rw[getElem?_pos arr i hi];rfl
def Bd(ρ:aD.RR)(left:Bool)(kv:Int)(arr:Array Keyed)(base i:Nat):Bool:=if left then decide (aD.Kg ρ arr (base+i)<kv) else !decide (kv<aD.Kg ρ arr (base+i))
theorem ZkU{st:SortSt}{left:Bool}{key:Keyed}{arr:Array Keyed}{base i:Nat}{Q:Option Bool->SortSt->Prop}(hk:kindOf st=κ)(h0:aD.kC prog w A s κ ρ a₀)(ha:∀p∈arr.toList,p∈a₀.toList)(mk:key∈a₀.toList)(hi:base+i<arr.size)(h:Q (some (Bd ρ left (ρ.g key) arr base i)) st):wpS (model prog w) A E s (BU left key arr base i) Q st:=by
 unfold BU;refine aTR (Zz hi ?_);have m:arr[base+i]∈a₀.toList:=ha _ (by simp);unfold Bd at h;rw[bB hi]at h;cases left with
 |true=>
  simp only[aEa]at h ⊢;exact qV hk h0 m mk h
 |false=>
  simp only[aKG,a2l]at h ⊢;exact aTR (qV hk h0 mk m (arI h))
structure Cut(ρ:aD.RR)(left:Bool)(kv:Int)(arr:Array Keyed)(base n k:Nat):Prop where
 le:k<=n
 lo:∀i,i<k->Bd ρ left kv arr base i=true
 hi:∀i,k<=i->i<n->Bd ρ left kv arr base i=false
def eN(ρ:aD.RR)(arr:Array Keyed)(a b:Nat):Prop:=∀i j,a<=i->i<=j->j<b->aD.Kg ρ arr i<=aD.Kg ρ arr j
theorem ZjR{left:Bool}{kv:Int}{arr:Array Keyed}{base n i j:Nat}(hs:eN ρ arr base (base+n))(hij:i<=j)(hj:j<n)(h:Bd ρ left kv arr base j=true):Bd ρ left kv arr base i=true:=by
 have q:=hs (base+i) (base+j) (by lia) (by lia) (by lia);unfold Bd at h ⊢;cases left with
 |true=>
  simp only[aEa,aJH]at h ⊢;lia
 |false=>
  simp only[aKG,a2l,aXs,bbx]at h ⊢;lia
section
variable{st:SortSt}{left:Bool}{key:Keyed}{arr:Array Keyed}{base n:Nat}{Q:Option Nat->SortSt->Prop}{P:Nat->Bool}
theorem Tc{lo hi:Nat}(B:∀{i:Nat}{Q:Option Bool->SortSt->Prop},i<n->Q (some (P i)) st->wpS (model prog w) A E s (BU left key arr base i) Q st)
  (up:∀{i j:Nat},i<=j->j<n->P j=true->P i=true) (dn:∀{i j:Nat},i<=j->j<n->P i=false->P j=false)
  (h:∀k,k<=n->(∀i,i<k->P i=true)->(∀i,k<=i->i<n->P i=false)->Q (some k) st)
  (Ew:lo<=hi) (X5:hi<=n) (u1:∀i,i<lo->P i=true) (u2:∀i,hi<=i->i<n->P i=false):wpS (model prog w) A E s (Ax left key arr base n lo hi) Q st:=by
 unfold Ax;refine aTR (arH (aFh (I:=λx c st2=>st2=st/\∃l r,c=(none,l,r)/\l<=r/\r<=n/\r-l<=n-x/\(∀i,i<l->P i=true)/\(∀i,r<=i->i<n->P i=false))
  (Q:=λc st2=>st2=st/\∃r,c=(none,r,r)/\r<=n/\(∀i,i<r->P i=true)/\(∀i,r<=i->i<n->P i=false)) ?iturn ?ilast ?ifirst) ?iafter)
 case ifirst=>exact⟨rfl,lo,hi,rfl,Ew,X5,by lia,u1,u2⟩
 case ilast=>
  rintro c st2 ⟨rfl,l,r,rfl,hlr,hrk,hm,u1,u2⟩;have e:l=r:=by lia
  subst e;exact⟨rfl,l,rfl,hrk,u1,u2⟩
 case iturn=>
  rintro x c st2 _ hxk ⟨rfl,l,r,rfl,hlr,hrk,hm,u1,u2⟩;dsimp only;by_cases hge:l ≥ r
  .rw [auJ hge];have e:l=r:=by lia
   subst e;exact arI ⟨rfl,l,rfl,hrk,u1,u2⟩
  .rw [ale hge];refine aTR (B (by lia) ?_);dsimp only;cases c:P (l+(r-l)/2) with
   |true=>
    rw[auJ rfl];exact arI ⟨rfl,l+(r-l)/2+1,r,rfl,by lia,by lia,by lia,λi p=>up (j:=l+(r-l)/2) (by lia) (by lia) c,u2⟩
   |false=>
    rw[ale (by simp)];exact arI ⟨rfl,l,l+(r-l)/2,rfl,by lia,by lia,by lia,u1,λi p q=>dn p q c⟩
 case iafter=>
  rintro c st2 ⟨rfl,r,rfl,XR,u1,u2⟩;exact arI (h r XR u1 u2)
end
theorem ET{st:SortSt}{left:Bool}{key:Keyed}{arr:Array Keyed}{base n hint:Nat}{Q:Option Nat->SortSt->Prop}(hk:kindOf st=κ)(h0:aD.kC prog w A s κ ρ a₀)(ha:∀p∈arr.toList,p∈a₀.toList)(mk:key∈a₀.toList)(hb:base+n<=arr.size)(hh:hint<n)(hs:eN ρ arr base (base+n))
  (h:∀k,Cut ρ left (ρ.g key) arr base n k->Q (some k) st):wpS (model prog w) A E s (EL left key arr base n hint) Q st:=by
 rw[ZfQ];have B:∀{i:Nat}{Q:Option Bool->SortSt->Prop},i<n->Q (some (Bd ρ left (ρ.g key) arr base i)) st->wpS (model prog w) A E s (BU left key arr base i) Q st:=λ{i Q} hi hq=>ZkU hk h0 ha mk (by lia) hq;have up:∀{i j:Nat},i<=j->j<n->Bd ρ left (ρ.g key) arr base j=true->Bd ρ left (ρ.g key) arr base i=true:=λhij hj hq=>ZjR hs hij hj hq;have h:=λk c1 c2 c3=>h k ⟨c1,c2,c3⟩;generalize Bd ρ left (ρ.g key) arr base=P at *;have dn:∀{i j:Nat},i<=j->j<n->P i=false->P j=false:=λ{i j} hij hj hq=>by
  cases e:P j with
  |false=>rfl
  |true=>rw[up hij hj e]at hq;exact hq
 refine aTR (B hh ?_);dsimp only;cases e:P hint with
 |true=>
  rw[auJ rfl];unfold QY;refine aTR (arH (aFh (I:=λx c st2=>st2=st/\∃l o,c=(none,l,o)/\l<o/\x+1<=o/\hint+l<n/\P (hint+l)=true)
   (Q:=λc st2=>st2=st/\∃l o,c=(none,l,o)/\l<o/\hint+l<n/\P (hint+l)=true/\(n-hint<=o\/hint+o<n/\P (hint+o)=false)) ?jturn ?jlast ?jfirst) ?jafter)
  case jfirst=>exact⟨rfl,0,1,rfl,by lia,by lia,by lia,e⟩
  case jlast=>
   rintro c st2 ⟨rfl,l,o,rfl,hlo,ML,ng,hp⟩;exact⟨rfl,l,o,rfl,hlo,ng,hp,.inl (by lia)⟩
  case jturn=>
   rintro x c st2 _ hxk ⟨rfl,l,o,rfl,hlo,ML,ng,hp⟩;dsimp only;by_cases hge:o ≥ n-hint
   .rw [auJ hge];exact arI ⟨rfl,l,o,rfl,hlo,ng,hp,.inl hge⟩
   .rw [ale hge];refine aTR (B (by lia) ?_);dsimp only;cases c:P (hint+o) with
    |true=>
     rw[ale (by simp)];exact arI ⟨rfl,o,2*o+1,rfl,by lia,by lia,by lia,c⟩
    |false=>
     rw[auJ (by simp)];exact arI ⟨rfl,l,o,rfl,hlo,ng,hp,.inr ⟨by lia,c⟩⟩
  case jafter=>
   rintro c st2 ⟨rfl,l,o,rfl,hlo,ng,hp,ho⟩;refine Tc B up dn h (by dsimp only;lia) (by dsimp only;lia) (λi hi=>up (j:=hint+l) (by dsimp only at hi;lia) ng hp) (λi p q=>?_);dsimp only at p;rcases ho with ho|⟨ho,c⟩
   .lia
   .exact dn (i:=hint+o) (by lia) q c
 |false=>
  rw[ale (by simp)];unfold QZ;refine aTR (arH (aFh (I:=λx c st2=>st2=st/\∃l o,c=(none,l,o)/\l<o/\x+1<=o/\l<=hint/\P (hint-l)=false)
   (Q:=λc st2=>st2=st/\∃l o,c=(none,l,o)/\l<o/\l<=hint/\P (hint-l)=false/\(hint+1<=o\/o<=hint/\P (hint-o)=true)) ?kturn ?klast ?kfirst) ?kafter)
  case kfirst=>exact⟨rfl,0,1,rfl,by lia,by lia,by lia,e⟩
  case klast=>
   rintro c st2 ⟨rfl,l,o,rfl,hlo,ML,ng,hp⟩;exact⟨rfl,l,o,rfl,hlo,ng,hp,.inl (by lia)⟩
  case kturn=>
   rintro x c st2 _ hxk ⟨rfl,l,o,rfl,hlo,ML,ng,hp⟩;dsimp only;by_cases hge:o ≥ hint+1
   .rw [auJ hge];exact arI ⟨rfl,l,o,rfl,hlo,ng,hp,.inl hge⟩
   .rw [ale hge];refine aTR (B (by lia) ?_);dsimp only;cases c:P (hint-o) with
    |true=>
     rw[auJ rfl];exact arI ⟨rfl,l,o,rfl,hlo,ng,hp,.inr ⟨by lia,c⟩⟩
    |false=>
     rw[ale (by simp)];exact arI ⟨rfl,o,2*o+1,rfl,by lia,by lia,by lia,c⟩
  case kafter=>
   rintro c st2 ⟨rfl,l,o,rfl,hlo,ng,hp,ho⟩;refine Tc B up dn h (by dsimp only;lia) (by dsimp only;lia) (λi hi=>?_) (λi p q=>dn (i:=hint-l) (by dsimp only at p;lia) q hp);dsimp only at hi;rcases ho with ho|⟨ho,c⟩
   .lia
   .exact up (j:=hint-o) (by lia) (by lia) c
end
def Lk(ρ:aD.RR)(x y:Keyed):Prop:=ρ.g x<=ρ.g y
structure MI(ρ:aD.RR)(A B out:List Keyed)(ia ib:Nat):Prop where
 perm:(out++A.drop ia++B.drop ib).Perm (A++B)
 sa:(out++A.drop ia).Pairwise (Lk ρ)
 sb:(out++B.drop ib).Pairwise (Lk ρ)
section
variable{ρ:aD.RR}{A B out:List Keyed}{ia ib:Nat}
theorem MI.jv(h:MI ρ A B out ia ib)(k:Nat)(hk:∀t∈(B.drop ib).take k,∀x∈A.drop ia,ρ.g t<=ρ.g x):MI ρ A B (out++(B.drop ib).take k) ia (ib+k):=by
 have e:B.drop (ib+k)=(B.drop ib).drop k:=by rw[drop_drop]
 have s:=h.sb;have p:=h.perm;rw[<-aRf k (B.drop ib)]at s p;refine⟨?_,?_,?_⟩
 .rw [e];refine List.Perm.trans ?_ p;rw[a2B out,a2B out,a2B out,<-a2B (A.drop ia)];exact(List.Perm.append_right _ aXV).append_left _
 .have s1:(out++(B.drop ib).take k).Pairwise (Lk ρ):=by
   rw[<-a2B]at s;exact(afi.1 s).1
  have a1:=afi.1 h.sa;refine afi.2 ⟨s1,a1.2.1,λx hx y hy=>?_⟩;rcases aXY.1 hx with hx|hx
  .exact a1.2.2 x hx y hy
  .exact hk x hx y hy
 .rw [e,a2B];exact s
theorem MI.nQ(h:MI ρ A B out ia ib)(k:Nat)(hk:∀t∈(A.drop ia).take k,∀x∈B.drop ib,ρ.g t<=ρ.g x):MI ρ A B (out++(A.drop ia).take k) (ia+k) ib:=by
 have h2:MI ρ B A out ib ia:=⟨by
  refine List.Perm.trans ?_ (List.Perm.trans h.perm aXV);rw[a2B,a2B];exact aXV.append_left _,h.sb,h.sa⟩
 have h3:=h2.jv k hk;refine⟨?_,h3.sb,h3.sa⟩;refine List.Perm.trans ?_ (List.Perm.trans h3.perm aXV);rw[a2B _ (A.drop _),a2B _ (B.drop _)];exact aXV.append_left _
def Res(ρ:aD.RR)(A B:List Keyed)(r:Array Keyed):Prop:=r.toList.Perm (A++B)/\r.toList.Pairwise (Lk ρ)
theorem KC(a:Array Keyed)(i:Nat):(a.extract i a.size).toList=a.toList.drop i:=by
 rw[ake,List.extract_eq_drop_take];exact aQm (by simp)
theorem NY(a:Array Keyed)(i k:Nat):(a.extract i (i+k)).toList=(a.toList.drop i).take k:=by
 rw[ake,List.extract_eq_drop_take];congr 1
 lia
theorem MI.res{a b out:Array Keyed}(h:MI ρ a.toList b.toList out.toList ia ib)(he:a.toList.drop ia=[]\/b.toList.drop ib=[]):Res ρ a.toList b.toList (out++a.extract ia a.size++b.extract ib b.size):=by
 unfold Res;rw[aym,aym,KC,KC];refine⟨h.perm,?_⟩;rcases he with he|he
 .rw [he,aKQ];exact h.sb
 .rw [he,aKQ];exact h.sa
theorem MI.last{a b out:Array Keyed}(h:MI ρ a.toList b.toList out.toList ia ib)(hl:∀y∈b.toList,∀x∈a.toList.drop (a.size-1),ρ.g y<=ρ.g x)(he:ia+1=a.size):Res ρ a.toList b.toList (out++b.extract ib b.size++a.extract ia a.size):=by
 have e:ia=a.size-1:=by lia
 have h2:=h.jv (b.toList.length) (λt ht x hx=>hl t (List.mem_of_mem_drop (List.mem_of_mem_take ht)) x (by rw[<-e];exact hx));have e2:(b.toList.drop ib).take b.toList.length=b.toList.drop ib:=aQm (by simp);have e3:b.toList.drop (ib+b.toList.length)=[]:=a15 (by lia);rw[e2]at h2;unfold Res;rw[aym,aym,KC,KC];refine⟨?_,h2.sa⟩;have:=h2.perm;rw[e3,aKQ]at this;exact this
end
abbrev vW:=Option (Array Keyed)×Array Keyed×Nat×Nat×Nat×Nat×Nat
def Kd(a b out:Array Keyed)(ia ib g k k1:Nat):StateT SortSt Sem (ForInStep vW):=do
 let x <-elem' a ia
 if ia+1+1 ==a.size then pure (.done (some (out.push x++b.extract ib b.size++a.extract (ia+1) a.size),out.push x,ia+1,ib,g,k,k1))
 else if k<7 && k1<7 then pure (.done (none,out.push x,ia+1,ib,g,k,k1)) else pure (.yield (none,out.push x,ia+1,ib,g,k,k1))
def lo2(a b out:Array Keyed)(ia ib g k bc:Nat):StateT SortSt Sem (ForInStep vW):=do
 let x <-elem' b ib
 if ib+1 ==b.size then pure (.done (some (out.push x++a.extract ia a.size++b.extract (ib+1) b.size),out.push x,ia,ib+1,g,k,bc))
 else do
  let y <-elem' a ia
  let r <-EL true y b (ib+1) (b.size-(ib+1)) 0
  match r with
  |some k1=>
   if k1>0 then
    if ib+1+k1 ==b.size then pure (.done (some (out.push x++b.extract (ib+1) (ib+1+k1)++a.extract ia a.size++b.extract (ib+1+k1) b.size),out.push x++b.extract (ib+1) (ib+1+k1),ia,ib+1+k1,g,k,k1))
    else Kd a b (out.push x++b.extract (ib+1) (ib+1+k1)) ia (ib+1+k1) g k k1
   else Kd a b (out.push x) ia (ib+1) g k k1
  |none=>pure (.done (some (out.push x++a.extract ia a.size++b.extract (ib+1) b.size),out.push x,ia,ib+1,g,k,bc))
def lo1(a b out:Array Keyed)(ia ib g ac bc:Nat):StateT SortSt Sem (ForInStep vW):=do
 ZS g
 let y <-elem' b ib
 let r <-EL false y a ia (a.size-ia) 0
 match r with
 |some k=>
  if k>0 then
   if ia+k+1 ==a.size then pure (.done (some (out++a.extract ia (ia+k)++b.extract ib b.size++a.extract (ia+k) a.size),out++a.extract ia (ia+k),ia+k,ib,g,k,bc))
   else if ia+k ==a.size then pure (.done (some (out++a.extract ia (ia+k)++a.extract (ia+k) a.size++b.extract ib b.size),out++a.extract ia (ia+k),ia+k,ib,g,k,bc))
   else lo2 a b (out++a.extract ia (ia+k)) (ia+k) ib g k bc
  else lo2 a b out ia ib g k bc
 |none=>pure (.done (some (out++a.extract ia a.size++b.extract ib b.size),out,ia,ib,g,ac,bc))
abbrev AY:=Option (Array Keyed)×Array Keyed×Nat×Nat×Nat×Nat
def Kc(a b:Array Keyed)(mg:Nat)(c:AY):StateT SortSt Sem (ForInStep AY):=do
 let y <-elem' b c.2.2.2.1
 let x <-elem' a c.2.2.1
 let r <-lt' y x
 match r with
 |some w=>
  if w then do
   let y <-elem' b c.2.2.2.1
   if c.2.2.2.1+1 ==b.size then pure (.done (some (c.2.1.push y++a.extract c.2.2.1 a.size++b.extract (c.2.2.2.1+1) b.size),c.2.1.push y,c.2.2.1,c.2.2.2.1+1,0,c.2.2.2.2.2+1))
   else if c.2.2.2.2.2+1 ≥ mg then pure (.done (none,c.2.1.push y,c.2.2.1,c.2.2.2.1+1,0,c.2.2.2.2.2+1))
   else pure (.yield (none,c.2.1.push y,c.2.2.1,c.2.2.2.1+1,0,c.2.2.2.2.2+1))
  else do
   let x <-elem' a c.2.2.1
   if c.2.2.1+1+1 ==a.size then pure (.done (some (c.2.1.push x++b.extract c.2.2.2.1 b.size++a.extract (c.2.2.1+1) a.size),c.2.1.push x,c.2.2.1+1,c.2.2.2.1,c.2.2.2.2.1+1,0))
   else if c.2.2.2.2.1+1 ≥ mg then pure (.done (none,c.2.1.push x,c.2.2.1+1,c.2.2.2.1,c.2.2.2.2.1+1,0))
   else pure (.yield (none,c.2.1.push x,c.2.2.1+1,c.2.2.2.1,c.2.2.2.2.1+1,0))
 |none=>pure (.done (some (c.2.1++a.extract c.2.2.1 a.size++b.extract c.2.2.2.1 b.size),c.2.1,c.2.2.1,c.2.2.2.1,c.2.2.2.2.1,c.2.2.2.2.2))
abbrev D3:=Option (Array Keyed)×Array Keyed×Nat×Nat×Nat
def Ka(a b:Array Keyed)(c:D3):StateT SortSt Sem (ForInStep D3):=do
 let d <-forIn [0:a.size+b.size] ((none,c.2.1,c.2.2.1,c.2.2.2.1,0,0):AY) (λ_ d=>Kc a b c.2.2.2.2 d)
 match d.1 with
 |some r=>pure (.done (some r,d.2.1,d.2.2.1,d.2.2.2.1,c.2.2.2.2))
 |none=>do
  rule "list.sort.gallop"
  let e <-forIn [0:a.size+b.size] ((none,d.2.1,d.2.2.1,d.2.2.2.1,c.2.2.2.2+1,d.2.2.2.2.1,d.2.2.2.2.2):vW) (λ_ e=>if e.2.2.2.2.1>1 then lo1 a b e.2.1 e.2.2.1 e.2.2.2.1 (e.2.2.2.2.1-1) e.2.2.2.2.2.1 e.2.2.2.2.2.2 else lo1 a b e.2.1 e.2.2.1 e.2.2.2.1 e.2.2.2.2.1 e.2.2.2.2.2.1 e.2.2.2.2.2.2)
  match e.1 with
  |some r=>pure (.done (some r,e.2.1,e.2.2.1,e.2.2.2.1,e.2.2.2.2.1))
  |none=>do
   ZS (e.2.2.2.2.1+1)
   pure (.yield (none,e.2.1,e.2.2.1,e.2.2.2.1,e.2.2.2.2.1+1))
theorem ZfR{M:Model}{A:Around}{E:Value->Shared->Prop}{s:Shared}{Q:Array Keyed->SortSt->Prop}{st:SortSt}(a b:Array Keyed)(h:wpS M A E s (do
 rule "list.sort.merge-lo"
 let x <-elem' b 0
 if 1 ==b.size then pure (#[x]++a.extract 0 a.size++b.extract 1 b.size)
 else if 0+1 ==a.size then pure (#[x]++b.extract 1 b.size++a.extract 0 a.size)
 else do
  let st <-get
  let c <-forIn [0:a.size+b.size] ((none,#[x],0,1,gallopOf st):D3) (λ_ c=>Ka a b c)
  match c.1 with
  |some r=>pure r
  |none=>unsupported "internal:list.sort.merge-bound") Q st):wpS M A E s (Oh a b) Q st:=by
 show wpAny M A (Oh a b st) _ E s
 wp_delta
 wp_delta
 refine yy ?_ h;dsimp only;refine aCX λ_=>aCX λx=>?_;congr 1
 congr 1
 refine aCX λst=>?_;congr 1
 .congr 1
  funext _ c
  unfold Ka;congr 1
  .congr 1
   funext _ d
   unfold Kc;refine aCX λy=>aCX λx=>aCX λr=>?_;cases r with
   |some w=>
    cases w with
    |true=>rfl
    |false=>rfl
   |none=>rfl
  .funext d
   cases d.1 with
   |some r=>rfl
   |none=>
    dsimp only;refine aCX λ_=>?_;congr 1
    .congr 1
     funext _ e
     congr 1
     all_goals
      unfold lo1;refine aCX λ_=>aCX λy=>aCX λr=>?_;cases r with
      |none=>rfl
      |some k=>
       dsimp only;congr 1
       .congr 1
        congr 1
        unfold lo2;refine aCX λx=>?_;congr 1
        refine aCX λy=>aCX λr=>?_;cases r with
        |none=>rfl
        |some k1=>rfl
       .unfold lo2;refine aCX λx=>?_;congr 1
        refine aCX λy=>aCX λr=>?_;cases r with
        |none=>rfl
        |some k1=>rfl
    .funext e
     cases e.1 with
     |some r=>rfl
     |none=>rfl
 .funext c
  cases c.1 with
  |some r=>rfl
  |none=>rfl
def Sm(st st':SortSt):Prop:=kindOf st'=kindOf st/\arrOf st'=arrOf st/\pendingOf st'=pendingOf st/\failedOf st'=failedOf st
theorem Sm.refl(st:SortSt):Sm st st:=⟨rfl,rfl,rfl,rfl⟩
theorem Sm.trans{a b c:SortSt}(h:Sm a b)(h':Sm b c):Sm a c:=⟨h'.1.trans h.1,h'.2.1.trans h.2.1,h'.2.2.1.trans h.2.2.1,h'.2.2.2.trans h.2.2.2⟩
section
variable{prog:Program}{w:World}{A:Around}{E:Value->Shared->Prop}{s:Shared}{a₀:Array Keyed}{κ:SortKind}{ρ:aD.RR}{a b:Array Keyed}
theorem KA{st:SortSt}{g:Nat}{Q:Unit->SortSt->Prop}(h:∀st',Sm st st'->Q () st'):wpS (model prog w) A E s (ZS g) Q st:=by
 rw[ZbI];exact aCl (h _ ⟨rfl,rfl,rfl,rfl⟩)
theorem RV(h:a.toList.Pairwise (Lk ρ))(i j:Nat):eN ρ a i (i+(a.size-i)):=by
 intro x y hx hxy hy;have hy':y<a.size:=by lia
 rw[bB (show x<a.size by lia),bB hy'];by_cases e:x=y
 .subst e;lia
 .exact ajQ.1 h x y (by simpa using(show x<a.size by lia)) (by simpa using hy') (by lia)
theorem Zew{i:Nat}{x:Keyed}(h:x∈a.toList.drop i):∃j,∃hj:i+j<a.size,x=a[i+j]:=by
 obtain⟨j,hj,e⟩:=a25.1 h;rw[a6U,apo]at hj;refine⟨j,by lia,?_⟩;rw[<-e,getElem_drop,a3q]
theorem Zex{i k:Nat}{x:Keyed}(h:x∈(a.toList.drop i).take k):∃j,j<k/\∃hj:i+j<a.size,x=a[i+j]:=by
 obtain⟨j,hj,e⟩:=a25.1 h;rw[bc6,a6U,apo]at hj;refine⟨j,by lia,by lia,?_⟩;rw[<-e,getElem_take,getElem_drop,a3q]
theorem Cut.low{left:Bool}{kv:Int}{i k:Nat}(h:Cut ρ left kv a i (a.size-i) k){x:Keyed}(hx:x∈(a.toList.drop i).take k):ρ.g x<=kv:=by
 obtain⟨j,hj,hs,rfl⟩:=Zex hx;have:=h.lo j hj;unfold Bd at this;rw[bB hs]at this;cases left with
 |true=>simp only[aEa,aJH]at this;lia
 |false=>simp only[aKG,a2l,aXs,bbx]at this;lia
theorem Cut.high{left:Bool}{kv:Int}{i k:Nat}(h:Cut ρ left kv a i (a.size-i) k){x:Keyed}(hx:x∈a.toList.drop (i+k)):kv<=ρ.g x:=by
 obtain⟨j,hs,rfl⟩:=Zew hx;have:=h.hi (k+j) (by lia) (by lia);unfold Bd at this;rw[show i+(k+j)=i+k+j by lia,bB hs]at this;cases left with
 |true=>simp only[aEa,bbx]at this;lia
 |false=>simp only[aKG,a2l,Bool.not_eq_false',aJH]at this;lia
theorem IS{i:Nat}(hi:i<a.size):(a.toList.drop i).take 1=[a[i]]:=by
 rw[aCO (by simpa using hi)];rfl
theorem Lf{i:Nat}(hi:i<a.size)(h:(a.toList.drop i).Pairwise (Lk ρ)){x:Keyed}(hx:x∈a.toList.drop i):ρ.g a[i]<=ρ.g x:=by
 rw[aCO (by simpa using hi)]at h hx;rcases awk.1 hx with rfl|hx
 .exact aK8 _
 .exact (ay7.1 h).1 x hx
structure EU(ρ:aD.RR)(a₀ a b:Array Keyed):Prop where
 ma:∀p∈a.toList,p∈a₀.toList
 mb:∀p∈b.toList,p∈a₀.toList
 sa:a.toList.Pairwise (Lk ρ)
 sb:b.toList.Pairwise (Lk ρ)
 last:∀y∈b.toList,∀x∈a.toList.drop (a.size-1),ρ.g y<=ρ.g x
def Jm(ρ:aD.RR)(a b:Array Keyed)(m:Nat)(out:Array Keyed)(ia ib:Nat):Prop:=MI ρ a.toList b.toList out.toList ia ib/\m<=ia+ib/\ia+1<a.size/\ib<b.size
def UR(ρ:aD.RR)(a b:Array Keyed)(m:Nat)(c:vW):Prop:=(∃r q,c=(some r,q)/\Res ρ a.toList b.toList r)\/∃out ia ib g k k1,c=(none,out,ia,ib,g,k,k1)/\Jm ρ a b m out ia ib
def O4(ρ:aD.RR)(a b:Array Keyed)(m:Nat)(st:SortSt)(r:ForInStep vW)(st':SortSt):Prop:=Sm st st'/\match r with
 | .done c=>UR ρ a b m c
 | .yield c=>∃out ia ib g k k1,c=(none,out,ia,ib,g,k,k1)/\Jm ρ a b m out ia ib
theorem MI.oh{out:Array Keyed}{ia ib:Nat}(h:MI ρ a.toList b.toList out.toList ia ib)(hi:ia<a.size)(hk:∀x∈b.toList.drop ib,ρ.g a[ia]<=ρ.g x):MI ρ a.toList b.toList (out.push a[ia]).toList (ia+1) ib:=by
 have:=h.nQ 1 (by rw[IS hi];intro t ht x hx;rw[axK.1 ht];exact hk x hx);rw[IS hi]at this;rw[aVZ];exact this
theorem MI.n9{out:Array Keyed}{ia ib:Nat}(h:MI ρ a.toList b.toList out.toList ia ib)(hi:ib<b.size)(hk:∀x∈a.toList.drop ia,ρ.g b[ib]<=ρ.g x):MI ρ a.toList b.toList (out.push b[ib]).toList ia (ib+1):=by
 have:=h.jv 1 (by rw[IS hi];intro t ht x hx;rw[axK.1 ht];exact hk x hx);rw[IS hi]at this;rw[aVZ];exact this
theorem RU{jJ st:SortSt}{out:Array Keyed}{ia ib g k k1 m:Nat}(T:EU ρ a₀ a b)(hS:Sm jJ st)(h:Jm ρ a b m out ia ib)(hk:∀x∈b.toList.drop ib,ρ.g (a[ia]'(by have:=h.2.2.1;lia))<=ρ.g x):wpS (model prog w) A E s (Kd a b out ia ib g k k1) (O4 ρ a b (m+1) jJ) st:=by
 obtain⟨M,hm,ha,hb⟩:=h;have yj:ia<a.size:=by lia
 unfold Kd;refine aTR (Zz yj ?_);have M2:=M.oh yj hk;by_cases e:ia+1+1=a.size
 .rw [auJ (by simpa using e)];exact arI ⟨hS,.inl ⟨_,_,rfl,M2.last T.last e⟩⟩
 .rw [ale (by simpa using e)];have J:Jm ρ a b (m+1) (out.push a[ia]) (ia+1) ib:=⟨M2,by lia,by lia,hb⟩;by_cases c:(decide (k<7) && decide (k1<7))=true
  .rw [auJ c];exact arI ⟨hS,.inr ⟨_,_,_,_,_,_,rfl,J⟩⟩
  .rw [ale c];exact arI ⟨hS,_,_,_,_,_,_,rfl,J⟩
theorem RT{jJ st:SortSt}{out:Array Keyed}{ia ib g k bc m:Nat}(h0:aD.kC prog w A s κ ρ a₀)(hk:kindOf st=κ)(T:EU ρ a₀ a b)(hS:Sm jJ st)(h:Jm ρ a b m out ia ib)(hq:∀x∈a.toList.drop ia,ρ.g (b[ib]'(h.2.2.2))<=ρ.g x):wpS (model prog w) A E s (lo2 a b out ia ib g k bc) (O4 ρ a b (m+1) jJ) st:=by
 obtain⟨M,hm,ha,hb⟩:=h;have yj:ia<a.size:=by lia
 unfold lo2;refine aTR (Zz hb ?_);have M2:=M.n9 hb hq;by_cases e:ib+1=b.size
 .rw [auJ (by simpa using e)];exact arI ⟨hS,.inl ⟨_,_,rfl,M2.res (.inr (a15 (by simp;lia)))⟩⟩
 .rw [ale (by simpa using e)];refine aTR (Zz yj ?_);refine aTR (ET hk h0 T.mb (T.ma _ (by simp)) (by lia) (by lia) (RV T.sb _ 0) (λk1 C=>?_));dsimp only;have fa:∀x∈a.toList.drop ia,ρ.g a[ia]<=ρ.g x:=λx hx=>Lf yj (aKU (drop_sublist _ _) T.sa) hx;have M3:=M2.jv k1 (λt ht x hx=>aOU (C.low ht) (fa x hx));rw[<-NY,<-aym]at M3;have hi:∀x∈b.toList.drop (ib+1+k1),ρ.g a[ia]<=ρ.g x:=λx hx=>C.high hx;by_cases c:k1>0
  .rw [auJ c];by_cases e2:ib+1+k1=b.size
   .rw [auJ (by simpa using e2)];exact arI ⟨hS,.inl ⟨_,_,rfl,M3.res (.inr (a15 (by simp;lia)))⟩⟩
   .rw [ale (by simpa using e2)];have:=C.le;exact RU T hS ⟨M3,by lia,ha,by lia⟩ hi
  .rw [ale c];have e3:k1=0:=by lia
   subst e3;exact RU T hS ⟨M2,by lia,ha,by lia⟩ hi
theorem ZkV{jJ st:SortSt}{out:Array Keyed}{ia ib g ac bc m:Nat}(h0:aD.kC prog w A s κ ρ a₀)(hk:kindOf st=κ)(T:EU ρ a₀ a b)(hS:Sm jJ st)(h:Jm ρ a b m out ia ib):wpS (model prog w) A E s (lo1 a b out ia ib g ac bc) (O4 ρ a b (m+1) jJ) st:=by
 obtain⟨M,hm,ha,hb⟩:=h;have yj:ia<a.size:=by lia
 unfold lo1;refine aTR (KA λst1 Di=>?_);have hk1:kindOf st1=κ:=Di.1.trans hk;have wj:=hS.trans Di;refine aTR (Zz hb ?_);refine aTR (ET hk1 h0 T.ma (T.mb _ (by simp)) (by lia) (by lia) (RV T.sa _ 0) (λk C=>?_));dsimp only;have fb:∀x∈b.toList.drop ib,ρ.g b[ib]<=ρ.g x:=λx hx=>Lf hb (aKU (drop_sublist _ _) T.sb) hx;have M3:=M.nQ k (λt ht x hx=>aOU (C.low ht) (fb x hx));rw[<-NY,<-aym]at M3;have hi:∀x∈a.toList.drop (ia+k),ρ.g b[ib]<=ρ.g x:=λx hx=>C.high hx;have:=C.le;by_cases c:k>0
 .rw [auJ c];by_cases e2:ia+k+1=a.size
  .rw [auJ (by simpa using e2)];exact arI ⟨wj,.inl ⟨_,_,rfl,M3.last T.last e2⟩⟩
  .rw [ale (by simpa using e2)];by_cases e3:ia+k=a.size
   .rw [auJ (by simpa using e3)];exact arI ⟨wj,.inl ⟨_,_,rfl,M3.res (.inl (a15 (by simp;lia)))⟩⟩
   .rw [ale (by simpa using e3)];exact RT h0 hk1 T wj ⟨M3,by lia,by lia,hb⟩ hi
 .rw [ale c];have e3:k=0:=by lia
  subst e3;exact RT h0 hk1 T wj ⟨M,by lia,ha,hb⟩ hi
def U0(ρ:aD.RR)(a b:Array Keyed)(m:Nat)(c:AY):Prop:=(∃r q,c=(some r,q)/\Res ρ a.toList b.toList r)\/∃out ia ib k k1,c=(none,out,ia,ib,k,k1)/\Jm ρ a b m out ia ib
theorem ZkW{st:SortSt}{out:Array Keyed}{mg ia ib ac bc m:Nat}(h0:aD.kC prog w A s κ ρ a₀)(hk:kindOf st=κ)(T:EU ρ a₀ a b)(h:Jm ρ a b m out ia ib):wpS (model prog w) A E s (Kc a b mg (none,out,ia,ib,ac,bc)) (λr st'=>st'=st/\match r with
  | .done c=>U0 ρ a b (m+1) c
  | .yield c=>∃out ia ib k k1,c=(none,out,ia,ib,k,k1)/\Jm ρ a b (m+1) out ia ib) st:=by
 obtain⟨M,hm,ha,hb⟩:=h;have yj:ia<a.size:=by lia
 have fa:∀x∈a.toList.drop ia,ρ.g a[ia]<=ρ.g x:=λx hx=>Lf yj (aKU (drop_sublist _ _) T.sa) hx;have fb:∀x∈b.toList.drop ib,ρ.g b[ib]<=ρ.g x:=λx hx=>Lf hb (aKU (drop_sublist _ _) T.sb) hx;unfold Kc;dsimp only;refine aTR (Zz hb (aTR (Zz yj (aTR (qV hk h0 (T.mb _ (by simp)) (T.ma _ (by simp)) ?_)))));dsimp only;by_cases c:ρ.g b[ib]<ρ.g a[ia]
 .rw [a5h c,auJ rfl];refine aTR (Zz hb ?_);have M2:=M.n9 hb (λx hx=>by have:=fa x hx;lia);by_cases e:ib+1=b.size
  .rw [auJ (by simpa using e)];exact arI ⟨rfl,.inl ⟨_,_,rfl,M2.res (.inr (a15 (by simp;lia)))⟩⟩
  .rw [ale (by simpa using e)];have J:Jm ρ a b (m+1) (out.push b[ib]) ia (ib+1):=⟨M2,by lia,ha,by lia⟩;by_cases c2:bc+1 ≥ mg
   .rw [auJ c2];exact arI ⟨rfl,.inr ⟨_,_,_,_,_,rfl,J⟩⟩
   .rw [ale c2];exact arI ⟨rfl,_,_,_,_,_,rfl,J⟩
 .rw [aKy c,ale (by simp)];refine aTR (Zz yj ?_);have M2:=M.oh yj (λx hx=>by have:=fb x hx;lia);by_cases e:ia+1+1=a.size
  .rw [auJ (by simpa using e)];exact arI ⟨rfl,.inl ⟨_,_,rfl,M2.last T.last e⟩⟩
  .rw [ale (by simpa using e)];have J:Jm ρ a b (m+1) (out.push a[ia]) (ia+1) ib:=⟨M2,by lia,by lia,hb⟩;by_cases c2:ac+1 ≥ mg
   .rw [auJ c2];exact arI ⟨rfl,.inr ⟨_,_,_,_,_,rfl,J⟩⟩
   .rw [ale c2];exact arI ⟨rfl,_,_,_,_,_,rfl,J⟩
theorem Jm.weak{m m':Nat}{out:Array Keyed}{ia ib:Nat}(h:Jm ρ a b m out ia ib)(hm:m'<=m):Jm ρ a b m' out ia ib:=⟨h.1,by have:=h.2.1;lia,h.2.2.1,h.2.2.2⟩
theorem ZkX{st:SortSt}{out:Array Keyed}{ia ib g m:Nat}(h0:aD.kC prog w A s κ ρ a₀)(hk:kindOf st=κ)(T:EU ρ a₀ a b)(h:Jm ρ a b m out ia ib):wpS (model prog w) A E s (Ka a b (none,out,ia,ib,g)) (λr st'=>Sm st st'/\match r with
  | .done c=>∃r q,c=(some r,q)/\Res ρ a.toList b.toList r
  | .yield c=>∃out ia ib g,c=(none,out,ia,ib,g)/\Jm ρ a b (m+1) out ia ib) st:=by
 have pos:0<a.size+b.size:=by have:=h.2.2.1;lia
 unfold Ka;dsimp only;refine aTR (arH (aFh (I:=λx c st2=>st2=st/\∃out ia ib k k1,c=(none,out,ia,ib,k,k1)/\Jm ρ a b (m+x) out ia ib) (Q:=λc st2=>st2=st/\U0 ρ a b (m+1) c) ?turn ?last ?first) ?after)
 case first=>exact⟨rfl,_,_,_,_,_,rfl,h⟩
 case last=>
  rintro c st2 ⟨rfl,out,ia,ib,k,k1,rfl,J⟩;exact⟨rfl,.inr ⟨_,_,_,_,_,rfl,J.weak (by lia)⟩⟩
 case turn=>
  rintro x c st2 _ hx ⟨rfl,out,ia,ib,k,k1,rfl,J⟩;refine arH (ZkW h0 hk T J) ?_;rintro r st3 ⟨rfl,hr⟩;cases r with
  |done c=>
   refine⟨rfl,?_⟩;rcases hr with hr|⟨out,ia,ib,k,k1,rfl,J⟩
   .exact .inl hr
   .exact .inr ⟨_,_,_,_,_,rfl,J.weak (by lia)⟩
  |yield c=>exact⟨rfl,hr⟩
 case after=>
  rintro c st2 ⟨rfl,hc⟩;rcases hc with⟨r,q,rfl,R⟩|⟨out,ia,ib,k,k1,rfl,J⟩
  .exact arI ⟨Sm.refl _,_,_,rfl,R⟩
  .dsimp only;refine aTR (wpS_lift (aQS ⟨rfl,?_⟩));refine aTR (arH (aFh (I:=λx c st3=>Sm st2 st3/\∃out ia ib g k k1,c=(none,out,ia,ib,g,k,k1)/\Jm ρ a b (m+x) out ia ib) (Q:=λc st3=>Sm st2 st3/\UR ρ a b (m+1) c) ?jturn ?jlast ?jfirst) ?jafter)
   case jfirst=>exact⟨Sm.refl _,_,_,_,_,_,_,rfl,J.weak (by lia)⟩
   case jlast=>
    rintro c st3 ⟨hS,out,ia,ib,g,k,k1,rfl,J⟩;exact⟨hS,.inr ⟨_,_,_,_,_,_,rfl,J.weak (by lia)⟩⟩
   case jturn=>
    rintro x c st3 _ hx ⟨hS,out,ia,ib,g,k,k1,rfl,J⟩;have M4:kindOf st3=κ:=hS.1.trans hk;dsimp only;rw[show(if g>1 then lo1 a b out ia ib (g-1) k k1 else lo1 a b out ia ib g k k1)=lo1 a b out ia ib (if g>1 then g-1 else g) k k1 by split <;> rfl];refine arH (ZkV h0 M4 T hS J) ?_;rintro r cV ⟨yp,hr⟩;cases r with
    |done c=>
     refine⟨yp,?_⟩;rcases hr with hr|⟨out,ia,ib,g,k,k1,rfl,J⟩
     .exact .inl hr
     .exact .inr ⟨_,_,_,_,_,_,rfl,J.weak (by lia)⟩
    |yield c=>exact⟨yp,hr⟩
   case jafter=>
    rintro c st3 ⟨hS,hc⟩;rcases hc with⟨r,q,rfl,R⟩|⟨out,ia,ib,g,k,k1,rfl,J⟩
    .exact arI ⟨hS,_,_,rfl,R⟩
    .refine aTR (KA λcV yp=>arI ⟨hS.trans yp,_,_,_,_,rfl,J⟩)
theorem ZfS{st:SortSt}{Q:Array Keyed->SortSt->Prop}(h0:aD.kC prog w A s κ ρ a₀)(hk:kindOf st=κ)(T:EU ρ a₀ a b)(ha:0<a.size)(hb:0<b.size)(hf:∀x∈a.toList,ρ.g b[0]<=ρ.g x)
  (h:∀r st',Sm st st'->Res ρ a.toList b.toList r->Q r st'):wpS (model prog w) A E s (Oh a b) Q st:=by
 refine ZfR _ _ ?_;refine aTR (wpS_lift (aQS ⟨rfl,?_⟩));refine aTR (Zz hb ?_);have M0:MI ρ a.toList b.toList (#[]:Array Keyed).toList 0 0:=⟨by simp,by simpa using T.sa,by simpa using T.sb⟩;have M1:MI ρ a.toList b.toList (#[b[0]]:Array Keyed).toList 0 1:=M0.n9 hb (λx hx=>hf x (by simpa using hx));by_cases e1:1=b.size
 .rw [auJ (by simpa using e1)];exact arI (h _ _ (Sm.refl _) (M1.res (.inr (a15 (by simp;lia)))))
 .rw [ale (by simpa using e1)];by_cases e2:0+1=a.size
  .rw [auJ (by simpa using e2)];exact arI (h _ _ (Sm.refl _) (M1.last T.last e2))
  .rw [ale (by simpa using e2)];refine aTR (axd ?_);refine aTR (arH (aFh (I:=λx c st2=>Sm st st2/\∃out ia ib g,c=(none,out,ia,ib,g)/\Jm ρ a b (x+1) out ia ib) (Q:=λc st2=>Sm st st2/\∃r q,c=(some r,q)/\Res ρ a.toList b.toList r) ?turn ?last ?first) ?after)
   case first=>exact⟨Sm.refl _,_,_,_,_,rfl,M1,by lia,by lia,by lia⟩
   case last=>
    rintro c st2 ⟨_,out,ia,ib,g,rfl,J⟩;have:=J.2.1;have:=J.2.2.1;have:=J.2.2.2;lia
   case turn=>
    rintro x c st2 _ hx ⟨hS,out,ia,ib,g,rfl,J⟩;refine arH (ZkX h0 (hS.1.trans hk) T J) ?_;rintro r st3 ⟨Dh,hr⟩;cases r with
    |done c=>exact⟨hS.trans Dh,hr⟩
    |yield c=>exact⟨hS.trans Dh,hr⟩
   case after=>
    rintro c st2 ⟨hS,r,q,rfl,R⟩;exact arI (h r st2 hS R)
end
structure MH(ρ:aD.RR)(A B O:List Keyed)(na nb:Nat):Prop where
 perm:(A.take na++B.take nb++O).Perm (A++B)
 sa:(A.take na++O).Pairwise (Lk ρ)
 sb:(B.take nb++O).Pairwise (Lk ρ)
section
variable{ρ:aD.RR}{A B O:List Keyed}{na nb:Nat}
theorem MH.jv(h:MH ρ A B O na nb)(k:Nat)(hkn:k<=nb)(hk:∀t∈(B.take nb).drop k,∀x∈A.take na,ρ.g x<=ρ.g t):MH ρ A B ((B.take nb).drop k++O) na k:=by
 have e:B.take k=(B.take nb).take k:=by rw[List.take_take,Nat.min_eq_left hkn]
 have s:=h.sb;have p:=h.perm;rw[<-aRf k (B.take nb),a2B]at s;rw[<-aRf k (B.take nb)]at p;refine⟨?_,?_,?_⟩
 .rw [e];refine List.Perm.trans ?_ p;simp only[a2B];exact List.Perm.refl _
 .have s1:=(afi.1 s).2.1;have a1:=afi.1 h.sa;refine afi.2 ⟨a1.1,s1,λx hx y hy=>?_⟩;rcases aXY.1 hy with hy|hy
  .exact hk y hy x hx
  .exact a1.2.2 x hx y hy
 .rw [e];exact s
theorem MH.nQ(h:MH ρ A B O na nb)(k:Nat)(hkn:k<=na)(hk:∀t∈(A.take na).drop k,∀x∈B.take nb,ρ.g x<=ρ.g t):MH ρ A B ((A.take na).drop k++O) k nb:=by
 have h2:MH ρ B A O nb na:=⟨List.Perm.trans (aXV.append_right _) (List.Perm.trans h.perm aXV),h.sb,h.sa⟩;have h3:=h2.jv k hkn hk;exact⟨List.Perm.trans (aXV.append_right _) (List.Perm.trans h3.perm aXV),h3.sb,h3.sa⟩
theorem uP(a:Array Keyed)(k:Nat):(a.extract 0 k).toList=a.toList.take k:=by
 rw[ake,List.extract_eq_drop_take,List.drop_zero,Nat.sub_zero]
theorem EF(a:Array Keyed)(i k:Nat):(a.extract i k).toList=(a.toList.take k).drop i:=by
 rw[ake,List.extract_eq_drop_take,drop_take]
theorem MH.res{a b out:Array Keyed}(h:MH ρ a.toList b.toList out.toList.reverse na nb)(he:na=0\/nb=0):Res ρ a.toList b.toList (a.extract 0 na++b.extract 0 nb++out.reverse):=by
 unfold Res;rw[aym,aym,uP,uP,aek];refine⟨h.perm,?_⟩;rcases he with rfl|rfl
 .rw [take_zero,aRv];exact h.sb
 .rw [take_zero,aKQ];exact h.sa
theorem MH.first{a b out:Array Keyed}(h:MH ρ a.toList b.toList out.toList.reverse na 1)(hl:∀y∈b.toList.take 1,∀x∈a.toList,ρ.g y<=ρ.g x):Res ρ a.toList b.toList (b.extract 0 1++a.extract 0 na++out.reverse):=by
 have h2:=h.nQ 0 (acY _) (λt ht x hx=>hl x hx t (List.mem_of_mem_take (List.mem_of_mem_drop ht)));rw[List.drop_zero]at h2;unfold Res;rw[aym,aym,uP,uP,aek];have p:=h2.perm;have s:=h2.sb;rw[take_zero,aRv,<-a2B]at p;rw[<-a2B]at s;exact⟨p,s⟩
end
abbrev vX:=Option (Array Keyed)×Nat×Nat×Array Keyed×Nat×Nat×Nat
def BN(a b:Array Keyed)(na nb:Nat)(out:Array Keyed)(g k k1:Nat):StateT SortSt Sem (ForInStep vX):=do
 let x <-elem' a (na-1)
 if na-1 ==0 then pure (.done (some (a.extract 0 (na-1)++b.extract 0 nb++(out.push x).reverse),na-1,nb,out.push x,g,k,k1))
 else if k<7 && k1<7 then pure (.done (none,na-1,nb,out.push x,g,k,k1)) else pure (.yield (none,na-1,nb,out.push x,g,k,k1))
def hi2(a b:Array Keyed)(na nb:Nat)(out:Array Keyed)(g k bc:Nat):StateT SortSt Sem (ForInStep vX):=do
 let x <-elem' b (nb-1)
 if nb-1 ==1 then pure (.done (some (b.extract 0 (nb-1)++a.extract 0 na++(out.push x).reverse),na,nb-1,out.push x,g,k,bc))
 else do
  let y <-elem' a (na-1)
  let r <-EL true y b 0 (nb-1) (nb-1-1)
  match r with
  |some i=>
   if nb-1-i>0 then
    if i ==1 then pure (.done (some (b.extract 0 i++a.extract 0 na++(out.push x++(b.extract i (nb-1)).reverse).reverse),na,i,out.push x++(b.extract i (nb-1)).reverse,g,k,nb-1-i))
    else if i ==0 then pure (.done (some (a.extract 0 na++b.extract 0 i++(out.push x++(b.extract i (nb-1)).reverse).reverse),na,i,out.push x++(b.extract i (nb-1)).reverse,g,k,nb-1-i))
    else BN a b na i (out.push x++(b.extract i (nb-1)).reverse) g k (nb-1-i)
   else BN a b na (nb-1) (out.push x) g k (nb-1-i)
  |none=>pure (.done (some (a.extract 0 na++b.extract 0 (nb-1)++(out.push x).reverse),na,nb-1,out.push x,g,k,bc))
def hi1(a b:Array Keyed)(na nb:Nat)(out:Array Keyed)(g ac bc:Nat):StateT SortSt Sem (ForInStep vX):=do
 ZS g
 let y <-elem' b (nb-1)
 let r <-EL false y a 0 na (na-1)
 match r with
 |some i=>
  if na-i>0 then
   if i ==0 then pure (.done (some (a.extract 0 i++b.extract 0 nb++(out++(a.extract i na).reverse).reverse),i,nb,out++(a.extract i na).reverse,g,na-i,bc))
   else hi2 a b i nb (out++(a.extract i na).reverse) g (na-i) bc
  else hi2 a b na nb out g (na-i) bc
 |none=>pure (.done (some (a.extract 0 na++b.extract 0 nb++out.reverse),na,nb,out,g,ac,bc))
abbrev AX:=Option (Array Keyed)×Nat×Nat×Array Keyed×Nat×Nat
def Kn(a b:Array Keyed)(mg:Nat)(c:AX):StateT SortSt Sem (ForInStep AX):=do
 let y <-elem' b (c.2.2.1-1)
 let x <-elem' a (c.2.1-1)
 let r <-lt' y x
 match r with
 |some w=>
  if w then do
   let x <-elem' a (c.2.1-1)
   if c.2.1-1 ==0 then pure (.done (some (a.extract 0 (c.2.1-1)++b.extract 0 c.2.2.1++(c.2.2.2.1.push x).reverse),c.2.1-1,c.2.2.1,c.2.2.2.1.push x,c.2.2.2.2.1+1,0))
   else if c.2.2.2.2.1+1 ≥ mg then pure (.done (none,c.2.1-1,c.2.2.1,c.2.2.2.1.push x,c.2.2.2.2.1+1,0))
   else pure (.yield (none,c.2.1-1,c.2.2.1,c.2.2.2.1.push x,c.2.2.2.2.1+1,0))
  else do
   let y <-elem' b (c.2.2.1-1)
   if c.2.2.1-1 ==1 then pure (.done (some (b.extract 0 (c.2.2.1-1)++a.extract 0 c.2.1++(c.2.2.2.1.push y).reverse),c.2.1,c.2.2.1-1,c.2.2.2.1.push y,0,c.2.2.2.2.2+1))
   else if c.2.2.2.2.2+1 ≥ mg then pure (.done (none,c.2.1,c.2.2.1-1,c.2.2.2.1.push y,0,c.2.2.2.2.2+1))
   else pure (.yield (none,c.2.1,c.2.2.1-1,c.2.2.2.1.push y,0,c.2.2.2.2.2+1))
 |none=>pure (.done (some (a.extract 0 c.2.1++b.extract 0 c.2.2.1++c.2.2.2.1.reverse),c.2.1,c.2.2.1,c.2.2.2.1,c.2.2.2.2.1,c.2.2.2.2.2))
abbrev Ec:=Option (Array Keyed)×Nat×Nat×Array Keyed×Nat
def Km(a b:Array Keyed)(c:Ec):StateT SortSt Sem (ForInStep Ec):=do
 let d <-forIn [0:a.size+b.size] ((none,c.2.1,c.2.2.1,c.2.2.2.1,0,0):AX) (λ_ d=>Kn a b c.2.2.2.2 d)
 match d.1 with
 |some r=>pure (.done (some r,d.2.1,d.2.2.1,d.2.2.2.1,c.2.2.2.2))
 |none=>do
  rule "list.sort.gallop"
  let e <-forIn [0:a.size+b.size] ((none,d.2.1,d.2.2.1,d.2.2.2.1,c.2.2.2.2+1,d.2.2.2.2.1,d.2.2.2.2.2):vX) (λ_ e=>if e.2.2.2.2.1>1 then hi1 a b e.2.1 e.2.2.1 e.2.2.2.1 (e.2.2.2.2.1-1) e.2.2.2.2.2.1 e.2.2.2.2.2.2 else hi1 a b e.2.1 e.2.2.1 e.2.2.2.1 e.2.2.2.2.1 e.2.2.2.2.2.1 e.2.2.2.2.2.2)
  match e.1 with
  |some r=>pure (.done (some r,e.2.1,e.2.2.1,e.2.2.2.1,e.2.2.2.2.1))
  |none=>do
   ZS (e.2.2.2.2.1+1)
   pure (.yield (none,e.2.1,e.2.2.1,e.2.2.2.1,e.2.2.2.2.1+1))
theorem ZfT{M:Model}{A:Around}{E:Value->Shared->Prop}{s:Shared}{Q:Array Keyed->SortSt->Prop}{st:SortSt}(a b:Array Keyed)(h:wpS M A E s (do
 rule "list.sort.merge-hi"
 let x <-elem' a (a.size-1)
 if a.size-1 ==0 then pure (a.extract 0 (a.size-1)++b.extract 0 b.size++#[x].reverse)
 else if b.size ==1 then pure (b.extract 0 b.size++a.extract 0 (a.size-1)++#[x].reverse)
 else do
  let st <-get
  let c <-forIn [0:a.size+b.size] ((none,a.size-1,b.size,#[x],gallopOf st):Ec) (λ_ c=>Km a b c)
  match c.1 with
  |some r=>pure r
  |none=>unsupported "internal:list.sort.merge-bound") Q st):wpS M A E s (Og a b) Q st:=by
 show wpAny M A (Og a b st) _ E s
 wp_delta
 wp_delta
 refine yy ?_ h;dsimp only;refine aCX λ_=>aCX λx=>?_;congr 1
 congr 1
 refine aCX λst=>?_;congr 1
 .congr 1
  funext _ c
  unfold Km;congr 1
  .congr 1
   funext _ d
   unfold Kn;refine aCX λy=>aCX λx=>aCX λr=>?_;cases r with
   |some w=>
    cases w with
    |true=>rfl
    |false=>rfl
   |none=>rfl
  .funext d
   cases d.1 with
   |some r=>rfl
   |none=>
    dsimp only;refine aCX λ_=>?_;congr 1
    .congr 1
     funext _ e
     congr 1
     all_goals
      unfold hi1;refine aCX λ_=>aCX λy=>aCX λr=>?_;cases r with
      |none=>rfl
      |some k=>
       dsimp only;congr 1
       .congr 1
        unfold hi2;refine aCX λx=>?_;congr 1
        refine aCX λy=>aCX λr=>?_;cases r with
        |none=>rfl
        |some k1=>rfl
       .unfold hi2;refine aCX λx=>?_;congr 1
        refine aCX λy=>aCX λr=>?_;cases r with
        |none=>rfl
        |some k1=>rfl
    .funext e
     cases e.1 with
     |some r=>rfl
     |none=>rfl
 .funext c
  cases c.1 with
  |some r=>rfl
  |none=>rfl
section
variable{prog:Program}{w:World}{A:Around}{E:Value->Shared->Prop}{s:Shared}{a₀:Array Keyed}{κ:SortKind}{ρ:aD.RR}{a b:Array Keyed}
theorem NU(h:a.toList.Pairwise (Lk ρ)){n:Nat}(hn:n<=a.size):eN ρ a 0 (0+n):=by
 intro x y hx hxy hy;have hy':y<a.size:=by lia
 rw[bB (show x<a.size by lia),bB hy'];by_cases e:x=y
 .subst e;lia
 .exact ajQ.1 h x y (by simpa using(show x<a.size by lia)) (by simpa using hy') (by lia)
theorem NT{n:Nat}{x:Keyed}(h:x∈a.toList.take n):∃j,j<n/\∃hj:j<a.size,x=a[j]:=by
 obtain⟨j,hj,e⟩:=a25.1 h;rw[bc6,apo]at hj;refine⟨j,by lia,by lia,?_⟩;rw[<-e,getElem_take,a3q]
theorem NX{i n:Nat}{x:Keyed}(h:x∈(a.toList.take n).drop i):∃j,i<=j/\j<n/\∃hj:j<a.size,x=a[j]:=by
 obtain⟨j,hj,e⟩:=a25.1 h;rw[a6U,bc6,apo]at hj;refine⟨i+j,by lia,by lia,by lia,?_⟩;rw[<-e,getElem_drop,getElem_take,a3q]
theorem Cut.GD{left:Bool}{kv:Int}{n k:Nat}(h:Cut ρ left kv a 0 n k){x:Keyed}(hx:x∈a.toList.take k):ρ.g x<=kv:=by
 obtain⟨j,hj,hs,rfl⟩:=NT hx;have:=h.lo j hj;unfold Bd at this;simp only[aOY]at this;rw[bB hs]at this;cases left with
 |true=>simp only[aEa,aJH]at this;lia
 |false=>simp only[aKG,a2l,aXs,bbx]at this;lia
theorem Cut.BL{left:Bool}{kv:Int}{n k:Nat}(h:Cut ρ left kv a 0 n k){x:Keyed}(hx:x∈(a.toList.take n).drop k):kv<=ρ.g x:=by
 obtain⟨j,hk,hj,hs,rfl⟩:=NX hx;have:=h.hi j hk hj;unfold Bd at this;simp only[aOY]at this;rw[bB hs]at this;cases left with
 |true=>simp only[aEa,bbx]at this;lia
 |false=>simp only[aKG,a2l,Bool.not_eq_false',aJH]at this;lia
theorem Le{n:Nat}(hn:0<n)(hs:n<=a.size):(a.toList.take n).drop (n-1)=[a[n-1]]:=by
 rw[drop_take,show n-(n-1)=1 by lia];exact IS (by lia)
theorem K0{n:Nat}(hn:0<n)(hs:n<=a.size)(h:a.toList.Pairwise (Lk ρ)){x:Keyed}(hx:x∈a.toList.take n):ρ.g x<=ρ.g a[n-1]:=by
 obtain⟨j,hj,hs2,rfl⟩:=NT hx;have:=NU h hs j (n-1) (by lia) (by lia) (by lia);rw[bB hs2,bB (show n-1<a.size by lia)]at this;exact this
theorem MH.first'{out:Array Keyed}{na nb:Nat}(h:MH ρ a.toList b.toList out.toList.reverse na nb)(hl:∀y∈b.toList.take 1,∀x∈a.toList,ρ.g y<=ρ.g x)(e:nb=1):Res ρ a.toList b.toList (b.extract 0 nb++a.extract 0 na++out.reverse):=by
 subst e;exact h.first hl
structure EV(ρ:aD.RR)(a₀ a b:Array Keyed):Prop where
 ma:∀p∈a.toList,p∈a₀.toList
 mb:∀p∈b.toList,p∈a₀.toList
 sa:a.toList.Pairwise (Lk ρ)
 sb:b.toList.Pairwise (Lk ρ)
 first:∀y∈b.toList.take 1,∀x∈a.toList,ρ.g y<=ρ.g x
structure Jh(ρ:aD.RR)(a b:Array Keyed)(m na nb:Nat)(out:Array Keyed):Prop where
 M:MH ρ a.toList b.toList out.toList.reverse na nb
 bd:na+nb+m<=a.size+b.size
 la:na<=a.size
 lb:nb<=b.size
 pa:1<=na
 pb:2<=nb
theorem Jh.weak{m m' na nb:Nat}{out:Array Keyed}(h:Jh ρ a b m na nb out)(hm:m'<=m):Jh ρ a b m' na nb out:=⟨h.M,by have:=h.bd;lia,h.la,h.lb,h.pa,h.pb⟩
def UT(ρ:aD.RR)(a b:Array Keyed)(m:Nat)(c:vX):Prop:=(∃r q,c=(some r,q)/\Res ρ a.toList b.toList r)\/∃na nb out g k k1,c=(none,na,nb,out,g,k,k1)/\Jh ρ a b m na nb out
def O7(ρ:aD.RR)(a b:Array Keyed)(m:Nat)(st:SortSt)(r:ForInStep vX)(st':SortSt):Prop:=Sm st st'/\match r with
 | .done c=>UT ρ a b m c
 | .yield c=>∃na nb out g k k1,c=(none,na,nb,out,g,k,k1)/\Jh ρ a b m na nb out
theorem MH.oh{out:Array Keyed}{na nb:Nat}(h:MH ρ a.toList b.toList out.toList.reverse na nb)(hn:0<na)(hs:na<=a.size)(hk:∀x∈b.toList.take nb,ρ.g x<=ρ.g a[na-1]):MH ρ a.toList b.toList (out.push a[na-1]).toList.reverse (na-1) nb:=by
 have:=h.nQ (na-1) (by lia) (by rw[Le hn hs];intro t ht x hx;rw[axK.1 ht];exact hk x hx);rw[Le hn hs]at this;rw[aVZ,List.reverse_append];exact this
theorem MH.n9{out:Array Keyed}{na nb:Nat}(h:MH ρ a.toList b.toList out.toList.reverse na nb)(hn:0<nb)(hs:nb<=b.size)(hk:∀x∈a.toList.take na,ρ.g x<=ρ.g b[nb-1]):MH ρ a.toList b.toList (out.push b[nb-1]).toList.reverse na (nb-1):=by
 have:=h.jv (nb-1) (by lia) (by rw[Le hn hs];intro t ht x hx;rw[axK.1 ht];exact hk x hx);rw[Le hn hs]at this;rw[aVZ,List.reverse_append];exact this
theorem RQ(out:Array Keyed)(i n:Nat):(out++(a.extract i n).reverse).toList.reverse=(a.toList.take n).drop i++out.toList.reverse:=by
 rw[aym,List.reverse_append,aek,List.reverse_reverse,EF]
theorem RP{jJ st:SortSt}{out:Array Keyed}{na nb g k k1 m:Nat}(T:EV ρ a₀ a b)(hS:Sm jJ st)(h:Jh ρ a b m na nb out)(hk:∀x∈b.toList.take nb,ρ.g x<=ρ.g (a[na-1]'(by have:=h.pa;have:=h.la;lia))):wpS (model prog w) A E s (BN a b na nb out g k k1) (O7 ρ a b (m+1) jJ) st:=by
 obtain⟨M,bd,la,lb,pa,pb⟩:=h;unfold BN;refine aTR (Zz (show na-1<a.size by lia) ?_);have M2:=M.oh (by lia) la hk;by_cases e:na-1=0
 .rw [auJ (by simpa using e)];exact arI ⟨hS,.inl ⟨_,_,rfl,M2.res (.inl e)⟩⟩
 .rw [ale (by simpa using e)];have J:Jh ρ a b (m+1) (na-1) nb (out.push a[na-1]):=⟨M2,by lia,by lia,lb,by lia,pb⟩;by_cases c:(decide (k<7) && decide (k1<7))=true
  .rw [auJ c];exact arI ⟨hS,.inr ⟨_,_,_,_,_,_,rfl,J⟩⟩
  .rw [ale c];exact arI ⟨hS,_,_,_,_,_,_,rfl,J⟩
theorem RO{jJ st:SortSt}{out:Array Keyed}{na nb g k bc m:Nat}(h0:aD.kC prog w A s κ ρ a₀)(hk:kindOf st=κ)(T:EV ρ a₀ a b)(hS:Sm jJ st)(h:Jh ρ a b m na nb out)(hq:∀x∈a.toList.take na,ρ.g x<=ρ.g (b[nb-1]'(by have:=h.pb;have:=h.lb;lia))):wpS (model prog w) A E s (hi2 a b na nb out g k bc) (O7 ρ a b (m+1) jJ) st:=by
 obtain⟨M,bd,la,lb,pa,pb⟩:=h;unfold hi2;refine aTR (Zz (show nb-1<b.size by lia) ?_);have M2:=M.n9 (by lia) lb hq;by_cases e:nb-1=1
 .rw [auJ (by simpa using e)];exact arI ⟨hS,.inl ⟨_,_,rfl,M2.first' T.first e⟩⟩
 .rw [ale (by simpa using e)];refine aTR (Zz (show na-1<a.size by lia) ?_);refine aTR (ET hk h0 T.mb (T.ma _ (by simp)) (by lia) (by lia) (NU T.sb (by lia)) (λi C=>?_));dsimp only;have fa:∀x∈a.toList.take na,ρ.g x<=ρ.g a[na-1]:=λx hx=>K0 (by lia) la T.sa hx;have ci:=C.le;have M3:=M2.jv i (by lia) (λt ht x hx=>aOU (fa x hx) (C.BL ht));rw[<-RQ]at M3;have hi:∀x∈b.toList.take i,ρ.g x<=ρ.g a[na-1]:=λx hx=>C.GD hx;by_cases c:nb-1-i>0
  .rw [auJ c];by_cases e2:i=1
   .rw [auJ (by simpa using e2)];exact arI ⟨hS,.inl ⟨_,_,rfl,M3.first' T.first e2⟩⟩
   .rw [ale (by simpa using e2)];by_cases e3:i=0
    .rw [auJ (by simpa using e3)];exact arI ⟨hS,.inl ⟨_,_,rfl,M3.res (.inr e3)⟩⟩
    .rw [ale (by simpa using e3)];exact RP T hS ⟨M3,by lia,la,by lia,pa,by lia⟩ hi
  .rw [ale c];have e3:i=nb-1:=by lia
   subst e3;exact RP T hS ⟨M2,by lia,la,by lia,pa,by lia⟩ hi
theorem ZkY{jJ st:SortSt}{out:Array Keyed}{na nb g ac bc m:Nat}(h0:aD.kC prog w A s κ ρ a₀)(hk:kindOf st=κ)(T:EV ρ a₀ a b)(hS:Sm jJ st)(h:Jh ρ a b m na nb out):wpS (model prog w) A E s (hi1 a b na nb out g ac bc) (O7 ρ a b (m+1) jJ) st:=by
 obtain⟨M,bd,la,lb,pa,pb⟩:=h;unfold hi1;refine aTR (KA λst1 Di=>?_);have hk1:kindOf st1=κ:=Di.1.trans hk;have wj:=hS.trans Di;refine aTR (Zz (show nb-1<b.size by lia) ?_);refine aTR (ET hk1 h0 T.ma (T.mb _ (by simp)) (by lia) (by lia) (NU T.sa la) (λi C=>?_));dsimp only;have fb:∀x∈b.toList.take nb,ρ.g x<=ρ.g b[nb-1]:=λx hx=>K0 (by lia) lb T.sb hx;have ci:=C.le;have M3:=M.nQ i ci (λt ht x hx=>aOU (fb x hx) (C.BL ht));rw[<-RQ]at M3;have hi:∀x∈a.toList.take i,ρ.g x<=ρ.g b[nb-1]:=λx hx=>C.GD hx;by_cases c:na-i>0
 .rw [auJ c];by_cases e2:i=0
  .rw [auJ (by simpa using e2)];exact arI ⟨wj,.inl ⟨_,_,rfl,M3.res (.inl e2)⟩⟩
  .rw [ale (by simpa using e2)];exact RO h0 hk1 T wj ⟨M3,by lia,by lia,lb,by lia,pb⟩ hi
 .rw [ale c];have e3:i=na:=by lia
  subst e3;exact RO h0 hk1 T wj ⟨M,by lia,la,lb,pa,pb⟩ hi
def UU(ρ:aD.RR)(a b:Array Keyed)(m:Nat)(c:AX):Prop:=(∃r q,c=(some r,q)/\Res ρ a.toList b.toList r)\/∃na nb out k k1,c=(none,na,nb,out,k,k1)/\Jh ρ a b m na nb out
theorem ZkZ{st:SortSt}{out:Array Keyed}{mg na nb ac bc m:Nat}(h0:aD.kC prog w A s κ ρ a₀)(hk:kindOf st=κ)(T:EV ρ a₀ a b)(h:Jh ρ a b m na nb out):wpS (model prog w) A E s (Kn a b mg (none,na,nb,out,ac,bc)) (λr st'=>st'=st/\match r with
  | .done c=>UU ρ a b (m+1) c
  | .yield c=>∃na nb out k k1,c=(none,na,nb,out,k,k1)/\Jh ρ a b (m+1) na nb out) st:=by
 obtain⟨M,bd,la,lb,pa,pb⟩:=h;have fa:∀x∈a.toList.take na,ρ.g x<=ρ.g a[na-1]:=λx hx=>K0 (by lia) la T.sa hx;have fb:∀x∈b.toList.take nb,ρ.g x<=ρ.g b[nb-1]:=λx hx=>K0 (by lia) lb T.sb hx;have ha:na-1<a.size:=by lia
 have hb:nb-1<b.size:=by lia
 unfold Kn;dsimp only;refine aTR (Zz hb (aTR (Zz ha (aTR (qV hk h0 (T.mb _ (by simp)) (T.ma _ (by simp)) ?_)))));dsimp only;by_cases c:ρ.g b[nb-1]<ρ.g a[na-1]
 .rw [a5h c,auJ rfl];refine aTR (Zz ha ?_);have M2:=M.oh (by lia) la (λx hx=>by have:=fb x hx;lia);by_cases e:na-1=0
  .rw [auJ (by simpa using e)];exact arI ⟨rfl,.inl ⟨_,_,rfl,M2.res (.inl e)⟩⟩
  .rw [ale (by simpa using e)];have J:Jh ρ a b (m+1) (na-1) nb (out.push a[na-1]):=⟨M2,by lia,by lia,lb,by lia,pb⟩;by_cases c2:ac+1 ≥ mg
   .rw [auJ c2];exact arI ⟨rfl,.inr ⟨_,_,_,_,_,rfl,J⟩⟩
   .rw [ale c2];exact arI ⟨rfl,_,_,_,_,_,rfl,J⟩
 .rw [aKy c,ale (by simp)];refine aTR (Zz hb ?_);have M2:=M.n9 (by lia) lb (λx hx=>by have:=fa x hx;lia);by_cases e:nb-1=1
  .rw [auJ (by simpa using e)];exact arI ⟨rfl,.inl ⟨_,_,rfl,M2.first' T.first e⟩⟩
  .rw [ale (by simpa using e)];have J:Jh ρ a b (m+1) na (nb-1) (out.push b[nb-1]):=⟨M2,by lia,la,by lia,pa,by lia⟩;by_cases c2:bc+1 ≥ mg
   .rw [auJ c2];exact arI ⟨rfl,.inr ⟨_,_,_,_,_,rfl,J⟩⟩
   .rw [ale c2];exact arI ⟨rfl,_,_,_,_,_,rfl,J⟩
theorem Z9{st:SortSt}{out:Array Keyed}{na nb g m:Nat}(h0:aD.kC prog w A s κ ρ a₀)(hk:kindOf st=κ)(T:EV ρ a₀ a b)(h:Jh ρ a b m na nb out):wpS (model prog w) A E s (Km a b (none,na,nb,out,g)) (λr st'=>Sm st st'/\match r with
  | .done c=>∃r q,c=(some r,q)/\Res ρ a.toList b.toList r
  | .yield c=>∃na nb out g,c=(none,na,nb,out,g)/\Jh ρ a b (m+1) na nb out) st:=by
 have pos:0<a.size+b.size:=by have:=h.la;have:=h.pa;lia
 unfold Km;dsimp only;refine aTR (arH (aFh (I:=λx c st2=>st2=st/\∃na nb out k k1,c=(none,na,nb,out,k,k1)/\Jh ρ a b (m+x) na nb out) (Q:=λc st2=>st2=st/\UU ρ a b (m+1) c) ?turn ?last ?first) ?after)
 case first=>exact⟨rfl,_,_,_,_,_,rfl,h⟩
 case last=>
  rintro c st2 ⟨rfl,na,nb,out,k,k1,rfl,J⟩;exact⟨rfl,.inr ⟨_,_,_,_,_,rfl,J.weak (by lia)⟩⟩
 case turn=>
  rintro x c st2 _ hx ⟨rfl,na,nb,out,k,k1,rfl,J⟩;refine arH (ZkZ h0 hk T J) ?_;rintro r st3 ⟨rfl,hr⟩;cases r with
  |done c=>
   refine⟨rfl,?_⟩;rcases hr with hr|⟨na,nb,out,k,k1,rfl,J⟩
   .exact .inl hr
   .exact .inr ⟨_,_,_,_,_,rfl,J.weak (by lia)⟩
  |yield c=>exact⟨rfl,hr⟩
 case after=>
  rintro c st2 ⟨rfl,hc⟩;rcases hc with⟨r,q,rfl,R⟩|⟨na,nb,out,k,k1,rfl,J⟩
  .exact arI ⟨Sm.refl _,_,_,rfl,R⟩
  .dsimp only;refine aTR (wpS_lift (aQS ⟨rfl,?_⟩));refine aTR (arH (aFh (I:=λx c st3=>Sm st2 st3/\∃na nb out g k k1,c=(none,na,nb,out,g,k,k1)/\Jh ρ a b (m+x) na nb out) (Q:=λc st3=>Sm st2 st3/\UT ρ a b (m+1) c) ?jturn ?jlast ?jfirst) ?jafter)
   case jfirst=>exact⟨Sm.refl _,_,_,_,_,_,_,rfl,J.weak (by lia)⟩
   case jlast=>
    rintro c st3 ⟨hS,na,nb,out,g,k,k1,rfl,J⟩;exact⟨hS,.inr ⟨_,_,_,_,_,_,rfl,J.weak (by lia)⟩⟩
   case jturn=>
    rintro x c st3 _ hx ⟨hS,na,nb,out,g,k,k1,rfl,J⟩;have M4:kindOf st3=κ:=hS.1.trans hk;dsimp only;rw[show(if g>1 then hi1 a b na nb out (g-1) k k1 else hi1 a b na nb out g k k1)=hi1 a b na nb out (if g>1 then g-1 else g) k k1 by split <;> rfl];refine arH (ZkY h0 M4 T hS J) ?_;rintro r cV ⟨yp,hr⟩;cases r with
    |done c=>
     refine⟨yp,?_⟩;rcases hr with hr|⟨na,nb,out,g,k,k1,rfl,J⟩
     .exact .inl hr
     .exact .inr ⟨_,_,_,_,_,_,rfl,J.weak (by lia)⟩
    |yield c=>exact⟨yp,hr⟩
   case jafter=>
    rintro c st3 ⟨hS,hc⟩;rcases hc with⟨r,q,rfl,R⟩|⟨na,nb,out,g,k,k1,rfl,J⟩
    .exact arI ⟨hS,_,_,rfl,R⟩
    .refine aTR (KA λcV yp=>arI ⟨hS.trans yp,_,_,_,_,rfl,J⟩)
theorem ZfU{st:SortSt}{Q:Array Keyed->SortSt->Prop}(h0:aD.kC prog w A s κ ρ a₀)(hk:kindOf st=κ)(T:EV ρ a₀ a b)(ha:0<a.size)(hb:0<b.size)(hf:∀x∈b.toList,ρ.g x<=ρ.g a[a.size-1])
  (h:∀r st',Sm st st'->Res ρ a.toList b.toList r->Q r st'):wpS (model prog w) A E s (Og a b) Q st:=by
 refine ZfT _ _ ?_;refine aTR (wpS_lift (aQS ⟨rfl,?_⟩));refine aTR (Zz (show a.size-1<a.size by lia) ?_);have ta:a.toList.take a.size=a.toList:=aQm (by simp);have tb:b.toList.take b.size=b.toList:=aQm (by simp);have M0:MH ρ a.toList b.toList (#[]:Array Keyed).toList.reverse a.size b.size:=⟨by rw[ta,tb];simp,by rw[ta];simpa using T.sa,by rw[tb];simpa using T.sb⟩;have M1:MH ρ a.toList b.toList (#[a[a.size-1]]:Array Keyed).toList.reverse (a.size-1) b.size:=M0.oh ha (aI1 _) (λx hx=>hf x (by rw[tb]at hx;exact hx));by_cases e1:a.size-1=0
 .rw [auJ (by simpa using e1)];exact arI (h _ _ (Sm.refl _) (M1.res (.inl e1)))
 .rw [ale (by simpa using e1)];by_cases e2:b.size=1
  .rw [auJ (by simpa using e2)];exact arI (h _ _ (Sm.refl _) (M1.first' T.first e2))
  .rw [ale (by simpa using e2)];refine aTR (axd ?_);refine aTR (arH (aFh (I:=λx c st2=>Sm st st2/\∃na nb out g,c=(none,na,nb,out,g)/\Jh ρ a b (x+1) na nb out) (Q:=λc st2=>Sm st st2/\∃r q,c=(some r,q)/\Res ρ a.toList b.toList r) ?turn ?last ?first) ?after)
   case first=>exact⟨Sm.refl _,_,_,_,_,rfl,M1,by lia,by lia,by lia,by lia,by lia⟩
   case last=>
    rintro c st2 ⟨_,na,nb,out,g,rfl,J⟩;have:=J.bd;have:=J.pa;lia
   case turn=>
    rintro x c st2 _ hx ⟨hS,na,nb,out,g,rfl,J⟩;refine arH (Z9 h0 (hS.1.trans hk) T J) ?_;rintro r st3 ⟨Dh,hr⟩;cases r with
    |done c=>exact⟨hS.trans Dh,hr⟩
    |yield c=>exact⟨hS.trans Dh,hr⟩
   case after=>
    rintro c st2 ⟨hS,r,q,rfl,R⟩;exact arI (h r st2 hS R)
end
end L2.AH
set_option maxHeartbeats 400000
namespace L2.AH
open PySem PySem.Spec PyProof.Rows
def Of:Nat->StateT SortSt Sem Bool:=sortPriv% PySem.Builtin.mergeAt
def layAt(arr:Array Keyed)(at_:Nat)(l:List Keyed)(k:Nat):Array Keyed:=(l.zipIdx k).foldl (λa (p,j)=>a.setIfInBounds (at_+j) p) arr
theorem K8(arr:Array Keyed)(at_:Nat)(l:List Keyed)(k i:Nat)(h:at_+k+l.length<=arr.size):(layAt arr at_ l k)[i]?=if at_+k<=i/\i<at_+k+l.length then l[i-(at_+k)]? else arr[i]?:=by
 induction l generalizing arr k with
 |nil=>rw[ale (by simp)];rfl
 |cons x l ih=>
  have e:layAt arr at_ (x ::l) k=layAt (arr.setIfInBounds (at_+k) x) at_ l (k+1):=by
   unfold layAt;rw[List.zipIdx_cons,List.foldl_cons]
  simp only[aCx]at h ⊢;rw[e,ih (arr.setIfInBounds (at_+k) x) (k+1) (by simp;lia)];by_cases c:at_+k=i
  .subst c;rw[ale (by lia),auJ (by lia),a0R,Array.getElem?_setIfInBounds_self_of_lt (by lia)];rfl
  .by_cases c2:at_+(k+1)<=i/\i<at_+(k+1)+l.length
   .rw [auJ c2,auJ (by lia),show i-(at_+k)=(i-(at_+(k+1)))+1 by lia,axA]
   .rw [ale c2,ale (by lia),Array.getElem?_setIfInBounds_ne c]
theorem Zed(arr:Array Keyed)(at_:Nat)(l:List Keyed)(h:at_+l.length<=arr.size):(layAt arr at_ l 0).toList=arr.toList.take at_++(l++arr.toList.drop (at_+l.length)):=by
 refine aO0 λi=>?_;rw[aq8,K8 arr at_ l 0 i (by lia),Nat.add_zero];have hl:(arr.toList.take at_).length=at_:=by rw[bc6,apo];lia
 by_cases c1:i<at_
 .rw [ale (by lia),a9E (by lia),List.getElem?_take_of_lt c1,aq8]
 .rw [agf (by lia),hl];by_cases c2:i<at_+l.length
  .rw [auJ (by lia),a9E (by lia)]
  .rw [ale (by lia),agf (by lia),getElem?_drop,aq8];congr 1
   lia
theorem ZfV{arr:Array Keyed}{at_ n:Nat}{l:List Keyed}(h:at_+n<=arr.size)(p:l.Perm (arr.extract at_ (at_+n)).toList):(layAt arr at_ l 0).Perm arr:=by
 rw[NY]at p;have e:l.length=n:=by rw[p.length_eq,bc6,a6U,apo];lia
 refine au9.2 ?_;rw[Zed arr at_ l (by lia),e];have d:arr.toList=arr.toList.take at_++((arr.toList.drop at_).take n++arr.toList.drop (at_+n)):=by
  rw[<-drop_drop,aRf,aRf]
 conv=>rhs;rw[d]
 exact(p.append_right _).append_left _
section
variable{prog:Program}{w:World}{A:Around}{E:Value->Shared->Prop}{s:Shared}{a₀:Array Keyed}{κ:SortKind}{ρ:aD.RR}
theorem pw_ex{arr:Array Keyed}{i j:Nat}(hj:j<=arr.size)(h:eN ρ arr i j):(arr.extract i j).toList.Pairwise (Lk ρ):=by
 refine ajQ.2 λx y hx hy hxy=>?_;simp only[apo,Array.size_extract]at hx hy;have:=h (i+x) (i+y) (by lia) (by lia) (by lia);rw[bB (show i+x<arr.size by lia),bB (show i+y<arr.size by lia)]at this;simpa[Lk]using this
theorem RN{arr:Array Keyed}{i j:Nat}{x:Keyed}(h:x∈(arr.extract i j).toList):∃k,i<=k/\k<j/\k<arr.size/\ρ.g x=aD.Kg ρ arr k/\x∈arr.toList:=by
 rw[EF]at h;obtain⟨k,h1,h2,h3,rfl⟩:=NX h;exact⟨k,h1,h2,h3,(bB h3).symm,by simp⟩
theorem NR{arr:Array Keyed}{at_:Nat}{l:List Keyed}(h:at_+l.length<=arr.size){i:Nat}(h1:at_<=i)(h2:i<at_+l.length):aD.Kg ρ (layAt arr at_ l 0) i=ρ.g (l[i-at_]'(by lia)):=by
 have:=K8 arr at_ l 0 i (by lia);rw[auJ (by lia),Nat.add_zero,a4h (by lia)]at this;unfold aD.Kg;rw[this];rfl
theorem EE{arr:Array Keyed}{at_:Nat}{l:List Keyed}(h:at_+l.length<=arr.size){i:Nat}(h1:i<at_\/at_+l.length<=i):aD.Kg ρ (layAt arr at_ l 0) i=aD.Kg ρ arr i:=by
 have:=K8 arr at_ l 0 i (by lia);rw[ale (by lia)]at this;unfold aD.Kg;rw[this]
end
end L2.AH
set_option maxHeartbeats 1000000
namespace L2.AH
open PySem PySem.Spec PyProof.Rows
section
variable{prog:Program}{w:World}{A:Around}{E:Value->Shared->Prop}{s:Shared}{a₀:Array Keyed}{κ:SortKind}{ρ:aD.RR}
theorem ZjS{arr:Array Keyed}{u lo hi:Nat}{r:List Keyed}(h:u+r.length<=arr.size)(hr:r.Pairwise (Lk ρ))(hne:0<r.length)(hl:eN ρ arr lo u)(hh:eN ρ arr (u+r.length) hi)
  (bl:∀i,lo<=i->i<u->∀x∈r,aD.Kg ρ arr i<=ρ.g x) (bh:∀i,u+r.length<=i->i<hi->∀x∈r,ρ.g x<=aD.Kg ρ arr i):eN ρ (layAt arr u r 0) lo hi:=by
 intro i j hi1 hij hj;by_cases a1:i<u
 .rw [EE h (.inl a1)];by_cases b1:j<u
  .rw [EE h (.inl b1)];exact hl i j hi1 hij b1
  .by_cases b2:j<u+r.length
   .rw [NR h (by lia) b2];exact bl i hi1 a1 _ (aZd _)
   .rw [EE h (.inr (by lia))];exact aOU (bl i hi1 a1 (r[0]'hne) (aZd _)) (bh j (by lia) hj _ (aZd _))
 .by_cases a2:i<u+r.length
  .rw [NR h (by lia) a2];by_cases b2:j<u+r.length
   .rw [NR h (by lia) b2];by_cases e:i=j
    .subst e;exact aK8 _
    .exact ajQ.1 hr (i-u) (j-u) (by lia) (by lia) (by lia)
   .rw [EE h (.inr (by lia))];exact bh j (by lia) hj _ (aZd _)
  .rw [EE h (.inr (by lia)),EE h (.inr (by lia))];exact hh i j (by lia) hij hj
theorem Cut.C3{left:Bool}{kv:Int}{arr:Array Keyed}{base n k:Nat}(h:Cut ρ left kv arr base n k){i:Nat}(h1:base<=i)(h2:i<base+k):aD.Kg ρ arr i<=kv:=by
 have:=h.lo (i-base) (by lia);unfold Bd at this;rw[show base+(i-base)=i by lia]at this;cases left with
 |true=>simp only[aEa,aJH]at this;lia
 |false=>simp only[aKG,a2l,aXs,bbx]at this;lia
theorem Cut.yl{left:Bool}{kv:Int}{arr:Array Keyed}{base n k:Nat}(h:Cut ρ left kv arr base n k){i:Nat}(h1:base+k<=i)(h2:i<base+n):kv<=aD.Kg ρ arr i:=by
 have:=h.hi (i-base) (by lia) (by lia);unfold Bd at this;rw[show base+(i-base)=i by lia]at this;cases left with
 |true=>simp only[aEa,bbx]at this;lia
 |false=>simp only[aKG,a2l,Bool.not_eq_false',aJH]at this;lia
theorem ZjT{st st':SortSt}{Q:PUnit->SortSt->Prop}(h:Q ⟨⟩ st'):wpS (model prog w) A E s (set st') Q st:=aCl (f:=λ_=>st') h
theorem ZfW{st:SortSt}{i sa na p sb nb q:Nat}{Q:Bool->SortSt->Prop}(h0:aD.kC prog w A s κ ρ a₀)(hk:kindOf st=κ)(ha:∀x∈(arrOf st).toList,x∈a₀.toList)(hfl:failedOf st=none)
  (e1:(pendingOf st)[i]?=some (sa,na,p)) (e2:(pendingOf st)[i+1]?=some (sb,nb,q)) (mG:sb=sa+na) (pa:0<na) (pb:0<nb) (hsz:sb+nb<=(arrOf st).size) (s1:eN ρ (arrOf st) sa (sa+na)) (s2:eN ρ (arrOf st) sb (sb+nb))
  (h:∀st',kindOf st'=κ->failedOf st'=none->(arrOf st').Perm (arrOf st)->pendingOf st'=((pendingOf st).setIfInBounds i (sa,na+nb,p)).eraseIdxIfInBounds (i+1)->eN ρ (arrOf st') sa (sb+nb) ->
   (∀j,j<sa\/sb+nb<=j->(arrOf st')[j]?=(arrOf st)[j]?)->Q true st'):wpS (model prog w) A E s (Of i) Q st:=by
 show wpAny (model prog w) A (Of i st) _ E s
 wp_delta
 wp_delta
 refine yy rfl ?_;refine aTR (axd ?_);rw[e1,e2];refine aTR (ZjT (st':=SortSt.mk' (kindOf st) (arrOf st) (((pendingOf st).setIfInBounds i (sa,na+nb,p)).eraseIdxIfInBounds (i+1)) (gallopOf st) (failedOf st)) ?_);generalize Aq:SortSt.mk' (kindOf st) (arrOf st) (((pendingOf st).setIfInBounds i (sa,na+nb,p)).eraseIdxIfInBounds (i+1)) (gallopOf st) (failedOf st)=st1;have k1:kindOf st1=κ:=by rw[<-Aq];exact hk
 have f1:failedOf st1=none:=by rw[<-Aq];exact hfl
 have a1:arrOf st1=arrOf st:=by rw[<-Aq]
 have p1:pendingOf st1=((pendingOf st).setIfInBounds i (sa,na+nb,p)).eraseIdxIfInBounds (i+1):=by rw[<-Aq]
 have hb0:sb<(arrOf st).size:=by lia
 refine aTR (Zz hb0 ?_);refine aTR (ET k1 h0 ha (ha _ (by simp)) (show sa+na<=(arrOf st).size by lia) pa s1 (λk C1=>?_));have c1:=C1.le;rw[<-bB hb0]at C1;dsimp only;have whole:(∀x y,sa<=x->x<sb->sb<=y->y<sb+nb->aD.Kg ρ (arrOf st) x<=aD.Kg ρ (arrOf st) y)->eN ρ (arrOf st) sa (sb+nb):=λhc x y hx hxy hy=>by
  by_cases u:y<sb
  .exact s1 x y hx hxy (by lia)
  .by_cases v:x<sb
   .exact hc x y hx v (by lia) hy
   .exact s2 x y (by lia) hxy hy
 by_cases z:na-k=0
 .rw [auJ (by simpa using z)];refine arI (h st1 k1 f1 (by rw[a1]) p1 ?_ (λj _=>by rw[a1]));rw[a1];refine whole λx y hx MM hy MK=>?_;exact aOU (C1.C3 hx (by lia)) (s2 sb y (aI1 _) hy MK)
 .rw [ale (by simpa using z)];have HG:sa+k+(na-k)-1<(arrOf st).size:=by lia
  refine aTR (Zz HG ?_);refine aTR (ET k1 h0 ha (ha _ (by simp)) (show sb+nb<=(arrOf st).size by lia) (by lia) s2 (λn2 C2=>?_));have c2:=C2.le;rw[<-bB HG,show sa+k+(na-k)-1=sb-1 by lia]at C2;dsimp only;by_cases z2:n2=0
  .rw [auJ (by simpa using z2)];refine arI (h st1 k1 f1 (by rw[a1]) p1 ?_ (λj _=>by rw[a1]));rw[a1];refine whole λx y hx MM hy MK=>?_;exact aOU (s1 x (sb-1) hx (by lia) (by lia)) (C2.yl (by lia) MK)
  .rw [ale (by simpa using z2)];have c3:=Nat.pos_of_ne_zero z2;have mX:∀x∈((arrOf st).extract (sa+k) sb).toList,∃j,sa+k<=j/\j<sb/\j<(arrOf st).size/\ρ.g x=aD.Kg ρ (arrOf st) j/\x∈(arrOf st).toList:=λx hx=>RN hx;have mY:∀x∈((arrOf st).extract sb (sb+n2)).toList,∃j,sb<=j/\j<sb+n2/\j<(arrOf st).size/\ρ.g x=aD.Kg ρ (arrOf st) j/\x∈(arrOf st).toList:=λx hx=>RN hx;have sX:((arrOf st).extract (sa+k) sb).toList.Pairwise (Lk ρ):=pw_ex (by lia) (λx y p q r=>s1 x y (by lia) q (by lia));have sY:((arrOf st).extract sb (sb+n2)).toList.Pairwise (Lk ρ):=pw_ex (by lia) (λx y p q r=>s2 x y (by lia) q (by lia));have zX:((arrOf st).extract (sa+k) sb).size=na-k:=by rw[Array.size_extract];lia
   have zY:((arrOf st).extract sb (sb+n2)).size=n2:=by rw[Array.size_extract];lia
   have low:∀x∈((arrOf st).extract (sa+k) sb).toList,aD.Kg ρ (arrOf st) sb<=ρ.g x:=λx hx=>by
    obtain⟨j,j1,j2,j3,e,_⟩:=mX x hx;rw[e];exact C1.yl j1 (by lia)
   have high:∀x∈((arrOf st).extract sb (sb+n2)).toList,ρ.g x<=aD.Kg ρ (arrOf st) (sb-1):=λx hx=>by
    obtain⟨j,j1,j2,j3,e,_⟩:=mY x hx;rw[e];exact C2.C3 j1 j2
   have fin:∀r st',Sm st1 st'->Res ρ ((arrOf st).extract (sa+k) sb).toList ((arrOf st).extract sb (sb+n2)).toList r->wpS (model prog w) A E s (do
     modify λs=>SortSt.mk' (kindOf s) (layAt (arrOf s) (sa+k) r.toList 0) (pendingOf s) (gallopOf s) (failedOf s)
     return (failedOf (<-get)).isNone) Q st':=by
    rintro r st' ⟨Di,wj,Dh,yp⟩ ⟨rp,rs⟩;refine aTR (aCl (aTR (axd (arI ?_))));have ex:((arrOf st).extract (sa+k) sb).toList++((arrOf st).extract sb (sb+n2)).toList=((arrOf st).extract (sa+k) (sa+k+(na-k+n2))).toList:=by
     rw[EF,EF,EF,drop_take,drop_take,drop_take];rw[show sb-(sa+k)=na-k by lia,show sb+n2-sb=n2 by lia,show sa+k+(na-k+n2)-(sa+k)=(na-k)+n2 by lia,List.take_add,drop_drop,show sa+k+(na-k)=sb by lia]
    have len:r.toList.length=na-k+n2:=by rw[rp.length_eq,akn,apo,apo,zX,zY]
    have Hs:∀x∈r.toList,aD.Kg ρ (arrOf st) sb<=ρ.g x/\ρ.g x<=aD.Kg ρ (arrOf st) (sb-1):=λx hx=>by
     rcases aXY.1 (rp.mem_iff.1 hx) with hx|hx
     .obtain ⟨j,j1,j2,j3,e,_⟩:=mX x hx;exact⟨low x hx,by rw[e];exact s1 j (sb-1) (by lia) (by lia) (by lia)⟩
     .obtain ⟨j,j1,j2,j3,e,_⟩:=mY x hx;exact⟨by rw[e];exact s2 sb j (aI1 _) j1 (by lia),high x hx⟩
    have Kl:failedOf st'=none:=yp.trans f1;show Q (failedOf st').isNone _;rw[Kl];refine h _ (Di.trans k1) rfl ?_ (Dh.trans p1) ?_ ?_
    .show (layAt (arrOf st') (sa+k) r.toList 0).Perm (arrOf st);rw[wj,a1];exact ZfV (n:=na-k+n2) (by lia) (by rw[<-ex];exact rp)
    .show eN ρ (layAt (arrOf st') (sa+k) r.toList 0) sa (sb+nb);rw[wj,a1];refine ZjS (by lia) rs (by lia) (λx y p q r=>s1 x y p q (by lia)) (λx y p q r=>s2 x y (by lia) q r) (λi i1 i2 x hx=>?_) (λi i1 i2 x hx=>?_)
     .exact aOU (C1.C3 i1 (by lia)) (Hs x hx).1
     .exact aOU (Hs x hx).2 (C2.yl (by lia) i2)
    .intro j hj;show(layAt (arrOf st') (sa+k) r.toList 0)[j]?=_;rw[wj,a1,K8 _ _ _ _ _ (by lia),ale (by lia)]
   by_cases c:na-k<=n2
   .rw [auJ c];refine aTR (ZfS h0 k1 ⟨λx hx=>?_,λx hx=>?_,sX,sY,λy hy x hx=>?_⟩ (show 0<((arrOf st).extract (sa+k) sb).size by lia) (show 0<((arrOf st).extract sb (sb+n2)).size by lia) (λx hx=>?_) (λr st' hS R=>fin r st' hS R))
    .obtain ⟨_,_,_,_,_,m⟩:=mX x hx;exact ha x m
    .obtain ⟨_,_,_,_,_,m⟩:=mY x hx;exact ha x m
    .rw [zX,EF,drop_drop]at hx;obtain⟨j,j1,j2,j3,rfl⟩:=NX hx;have ej:j=sb-1:=by lia
     subst ej;rw[<-bB j3];exact high y hy
    .rw [a2C,<-bB];exact low x hx
   .rw [ale c];refine aTR (ZfU h0 k1 ⟨λx hx=>?_,λx hx=>?_,sX,sY,λy hy x hx=>?_⟩ (show 0<((arrOf st).extract (sa+k) sb).size by lia) (show 0<((arrOf st).extract sb (sb+n2)).size by lia) (λx hx=>?_) (λr st' hS R=>fin r st' hS R))
    .obtain ⟨_,_,_,_,_,m⟩:=mX x hx;exact ha x m
    .obtain ⟨_,_,_,_,_,m⟩:=mY x hx;exact ha x m
    .obtain ⟨j,j1,j2,rfl⟩:=NT hy;rw[a2C,<-bB,show sb+j=sb by lia];exact low x hx
    .rw [a2C,<-bB];have:=high x hx;rw[show sa+k+(((arrOf st).extract (sa+k) sb).size-1)=sb-1 by lia];exact this
end
structure GP(κ:SortKind)(a₀:Array Keyed)(P:Array (Nat×Nat×Nat))(st:SortSt):Prop where
 perm:(arrOf st).Perm a₀
 kn:kindOf st=κ
 failed:failedOf st=none
 pend:pendingOf st=P
section
variable{prog:Program}{w:World}{A:Around}{E:Value->Shared->Prop}{s:Shared}{a₀:Array Keyed}{κ:SortKind}{ρ:aD.RR}{P:Array (Nat×Nat×Nat)}
theorem GP.size{st:SortSt}(h:GP κ a₀ P st):(arrOf st).size=a₀.size:=h.perm.size_eq
theorem GP.setArr{st:SortSt}{xs:Array Keyed}(h:GP κ a₀ P st)(hp:xs.Perm (arrOf st)):GP κ a₀ P (setArr st xs):=⟨hp.trans h.perm,h.kn,h.failed,h.pend⟩
theorem GP.mem{st:SortSt}(h:GP κ a₀ P st):∀x∈(arrOf st).toList,x∈a₀.toList:=λx hx=>(au9.mp h.perm).mem_iff.mp hx
theorem II{st:SortSt}{i j:Nat}{Q:Option Bool->SortSt->Prop}(hB:GP κ a₀ P st)(h0:aD.kC prog w A s κ ρ a₀)(hi:i<a₀.size)(hj:j<a₀.size)
  (h:Q (some (decide (aD.Kg ρ (arrOf st) i<aD.Kg ρ (arrOf st) j))) st):wpS (model prog w) A E s (ltAt' i j) Q st:=by
 have hi':i<(arrOf st).size:=by rw[hB.size];exact hi
 have hj':j<(arrOf st).size:=by rw[hB.size];exact hj
 rw[bB hi',bB hj']at h;rw[ltAt'_eq];refine aTR (axd ?_);refine aTR (Zz hi' (aTR (Zz hj' ?_)));exact qV hB.kn h0 (hB.mem _ (by simp)) (hB.mem _ (by simp)) h
theorem ZjU{st:SortSt}{lo n ok:Nat}{Q:Bool->SortSt->Prop}(h0:aD.kC prog w A s κ ρ a₀)(hn:lo+n<=a₀.size)(hok:ok<=n)(Yo:1<=ok)(hB:GP κ a₀ P st)(hs:eN ρ (arrOf st) lo (lo+ok))
  (h:∀st',GP κ a₀ P st'->eN ρ (arrOf st') lo (lo+n)->(∀j,j<lo\/lo+n<=j->(arrOf st')[j]?=(arrOf st)[j]?)->Q true st'):wpS (model prog w) A E s (binarySort' lo n ok) Q st:=by
 rw[binarySort'_eq];refine aTR (arH (aFh (I:=λk c st1=>c=(none,())/\GP κ a₀ P st1/\eN ρ (arrOf st1) lo (lo+min k n)/\∀j,j<lo\/lo+n<=j->(arrOf st1)[j]?=(arrOf st)[j]?)
  (Q:=λc st1=>c=(none,())/\GP κ a₀ P st1/\eN ρ (arrOf st1) lo (lo+n)/\∀j,j<lo\/lo+n<=j->(arrOf st1)[j]?=(arrOf st)[j]?) ?turn ?last ?first) ?after)
 case after=>
  rintro c st1 ⟨rfl,b1,i1,o1⟩;exact arI (h st1 b1 i1 o1)
 case first=>
  rw[show min (max ok 1) n=ok by lia];exact⟨rfl,hB,hs,λ_ _=>rfl⟩
 case last=>
  rintro c st1 ⟨hc,b1,i1,o1⟩;rw[show min (max (max ok 1) n) n=n by lia]at i1;exact⟨hc,b1,i1,o1⟩
 case turn=>
  rintro k c st1 Yi hkn ⟨rfl,b1,i1,o1⟩;rw[show min k n=k by lia]at i1;have hk:lo+k<a₀.size:=by lia
  have sz:=b1.size;refine aTR (arH (aFh (I:=λx c st2=>st2=st1/\∃l r,c=(none,l,r)/\l<=r/\r<=k/\r-l<=k-x/\(∀i,i<l->aD.Kg ρ (arrOf st1) (lo+i)<=aD.Kg ρ (arrOf st1) (lo+k))/\(∀i,r<=i->i<k->aD.Kg ρ (arrOf st1) (lo+k)<=aD.Kg ρ (arrOf st1) (lo+i)))
   (Q:=λc st2=>st2=st1/\∃l r,c=(none,l,r)/\l<=k/\(∀i,i<l->aD.Kg ρ (arrOf st1) (lo+i)<=aD.Kg ρ (arrOf st1) (lo+k))/\(∀i,l<=i->i<k->aD.Kg ρ (arrOf st1) (lo+k)<=aD.Kg ρ (arrOf st1) (lo+i))) ?iturn ?ilast ?ifirst) ?iafter)
  case ifirst=>exact⟨rfl,0,k,rfl,by lia,by lia,by lia,λi hi=>absurd hi (by lia),λi p q=>absurd q (by lia)⟩
  case ilast=>
   rintro c st2 ⟨rfl,l,r,rfl,hlr,hrk,hm,u1,u2⟩;have e:l=r:=by lia
   subst e;exact⟨rfl,l,l,rfl,hrk,u1,u2⟩
  case iturn=>
   rintro x c st2 _ hxk ⟨rfl,l,r,rfl,hlr,hrk,hm,u1,u2⟩;dsimp only;by_cases hge:l ≥ r
   .rw [auJ hge];have e:l=r:=by lia
    subst e;exact arI ⟨rfl,l,l,rfl,hrk,u1,u2⟩
   .rw [ale hge];refine aTR (II b1 h0 hk (by lia) ?_);by_cases c:aD.Kg ρ (arrOf st2) (lo+k)<aD.Kg ρ (arrOf st2) (lo+(l+r)/2)
    .simp only[c,alY,aEa];refine arI ⟨rfl,l,(l+r)/2,rfl,by lia,by lia,by lia,u1,λi p q=>?_⟩;have:=i1 (lo+(l+r)/2) (lo+i) (by lia) (by lia) (by lia);lia
    .simp only[c,aR8,aKG,a2l];refine arI ⟨rfl,(l+r)/2+1,r,rfl,by lia,by lia,by lia,λi p=>?_,u2⟩;have:=i1 (lo+i) (lo+(l+r)/2) (by lia) (by lia) (by lia);lia
  case iafter=>
   rintro c st2 ⟨rfl,l,r,rfl,hlk,u1,u2⟩;show wpS _ _ _ _ (do moveDown' (lo+k) (lo+l);pure (ForInStep.yield (none,()))) _ _;rw[moveDown'_eq];have hks:lo+k<(arrOf st2).size:=by lia
   refine aTR (aCl (arI ⟨rfl,b1.setArr (bubble_perm _ _ _),?_,?_⟩))
   .rw [show min (k+1) n=k+1 by lia];intro i j hi hij hj;show aD.Kg ρ (bubble (arrOf st2) (lo+k) (lo+k-(lo+l))) i<=aD.Kg ρ (bubble (arrOf st2) (lo+k) (lo+k-(lo+l))) j;rw[aD.oE hks (by lia),aD.oE hks (by lia),show lo+k-(lo+k-(lo+l))=lo+l by lia];have U1:∀i,lo<=i->i<lo+l->aD.Kg ρ (arrOf st2) i<=aD.Kg ρ (arrOf st2) (lo+k):=λi p q=>by
     have:=u1 (i-lo) (by lia);rw[show lo+(i-lo)=i by lia]at this;exact this
    have U2:∀i,lo+l<=i->i<lo+k->aD.Kg ρ (arrOf st2) (lo+k)<=aD.Kg ρ (arrOf st2) i:=λi p q=>by
     have:=u2 (i-lo) (by lia) (by lia);rw[show lo+(i-lo)=i by lia]at this;exact this
    by_cases a1:i=lo+l
    .rw [auJ a1];by_cases b2:j=lo+l
     .rw [auJ b2];exact aK8 _
     .rw [ale b2,auJ (by lia)];exact U2 _ (by lia) (by lia)
    .rw [ale a1];by_cases a2:j=lo+l
     .rw [auJ a2,ale (by lia)];exact U1 _ (by lia) (by lia)
     .rw [ale a2];by_cases a3:lo+l<i/\i<=lo+k
      .rw [auJ a3,auJ (by lia)];exact i1 _ _ (by lia) (by lia) (by lia)
      .rw [ale a3];by_cases a4:lo+l<j/\j<=lo+k
       .rw [auJ a4];exact i1 _ _ (by lia) (by lia) (by lia)
       .rw [ale a4];exact i1 _ _ (by lia) (by lia) (by lia)
   .intro j hj;show(bubble (arrOf st2) (lo+k) (lo+k-(lo+l)))[j]?=_;rw[getElem?_bubble hks _ (by lia),ale (by lia),ale (by lia)];exact o1 j hj
end
abbrev AS:=Option (Option Nat)×Nat
abbrev DS:=Option (Option Nat)×Nat×Nat
def yC(lo a nrem:Nat):StateT SortSt Sem AS:=forIn [a:nrem] ((none,a):AS) λ_ c=>do
 let x <-ltAt' (lo+c.2) (lo+c.2-1)
 match x with
 |some y=>if y=true then pure (.done (none,c.2)) else pure (.yield (none,c.2+1))
 |_=>pure (.done (some none,c.2))
def qf(lo n nrem:Nat):StateT SortSt Sem (Option Nat):=do
 reverseSlice' lo (lo+n)
 let c <-yC lo n nrem
 match c.1 with
 |some r=>pure r
 |none=>pure (some c.2)
def uS(lo n nrem:Nat):StateT SortSt Sem DS:=forIn [n:nrem] ((none,n,0):DS) λ_ c=>do
 let x <-ltAt' (lo+c.2.1) (lo+c.2.1-1)
 match x with
 | some y=>if y=true then(if c.2.2>0 then(do
    reverseSlice' (lo+c.2.1-(c.2.2+1)) (lo+c.2.1)
    pure (.yield (none,c.2.1+1,0))) else pure (.yield (none,c.2.1+1,0))) else(do
   let x <-ltAt' (lo+c.2.1-1) (lo+c.2.1)
   match x with
   |some z=>if z=true then pure (.done (none,c.2.1,c.2.2)) else pure (.yield (none,c.2.1+1,c.2.2+1))
   |_=>pure (.done (some none,c.2.1,c.2.2)))
 |_=>pure (.done (some none,c.2.1,c.2.2))
def qJ(lo n nrem:Nat):StateT SortSt Sem (Option Nat):=do
 liftM (rule "list.sort.descending-run")
 let c <-uS lo (n+1) nrem
 match c.1 with
 |some r=>pure r
 | none=>if c.2.2>0 then(do
   reverseSlice' (lo+c.2.1-(c.2.2+1)) (lo+c.2.1)
   qf lo c.2.1 nrem) else qf lo c.2.1 nrem
theorem ZgZ(lo nrem:Nat):countRun' lo nrem=(do
  let c <-yC lo 1 nrem
  match c.1 with
  |some r=>pure r
  | none=>if(c.2 ==nrem)=true then pure (some c.2) else if c.2>1 then(do
    let x <-ltAt' lo (lo+c.2-1)
    match x with
    | some y=>if y=true then pure (some c.2) else(do
      reverseSlice' lo (lo+c.2)
      qJ lo c.2 nrem)
    |_=>pure none) else qJ lo c.2 nrem):=by
 rw[countRun'_eq];unfold qJ qf uS yC;have tl:∀{f g:AS->StateT SortSt Sem (Option Nat)}{m:StateT SortSt Sem AS},(∀r n,f (r,n)=g (r,n))->(m >>=f)=(m >>=g):=λh=>agz _ (funext λ⟨r,n⟩=>h r n);have td:∀{f g:DS->StateT SortSt Sem (Option Nat)}{m:StateT SortSt Sem DS},(∀r n q,f (r,n,q)=g (r,n,q))->(m >>=f)=(m >>=g):=λh=>agz _ (funext λ⟨r,n,q⟩=>h r n q);have bc:∀{α:Type}{f g:α->StateT SortSt Sem (Option Nat)}{m:StateT SortSt Sem α},(∀x,f x=g x)->(m >>=f)=(m >>=g):=λh=>agz _ (funext h);refine tl λr n=>?_;cases r with
 |some r=>rfl
 |none=>
  dsimp only;split
  .rfl
  .split
   .refine bc λx=>?_;cases x with
    |none=>rfl
    |some y=>
     dsimp only;split
     .rfl
     .refine bc λ_=>bc λ_=>td λr n q=>?_;cases r with
      |some r=>rfl
      |none=>
       dsimp only;split
       .exact bc λ_=>bc λ_=>tl λr n=>by cases r <;> rfl
       .exact bc λ_=>tl λr n=>by cases r <;> rfl
   .refine bc λ_=>td λr n q=>?_;cases r with
    |some r=>rfl
    |none=>
     dsimp only;split
     .exact bc λ_=>bc λ_=>tl λr n=>by cases r <;> rfl
     .exact bc λ_=>tl λr n=>by cases r <;> rfl
section
variable{prog:Program}{w:World}{A:Around}{E:Value->Shared->Prop}{s:Shared}{a₀:Array Keyed}{κ:SortKind}{ρ:aD.RR}{P:Array (Nat×Nat×Nat)}
def Out(lo n:Nat)(xs ys:Array Keyed):Prop:=∀j,j<lo\/lo+n<=j->ys[j]?=xs[j]?
theorem Ll{xs:Array Keyed}{lo n i j:Nat}(hj:j<=xs.size)(h1:lo<=i)(h2:j<=lo+n):Out lo n xs (mirror xs i j ((j-i)/2)):=λk hk=>by
 rw[getElem?_mirror_all hj,ale (by lia)]
theorem Sz{st:SortSt}{lo a nrem:Nat}{Q:AS->SortSt->Prop}(h0:aD.kC prog w A s κ ρ a₀)(hn:lo+nrem<=a₀.size)(ha:1<=a)(han:a<=nrem)(hB:GP κ a₀ P st)(hs:eN ρ (arrOf st) lo (lo+a))
  (h:∀n,a<=n->n<=nrem->eN ρ (arrOf st) lo (lo+n)->(n=nrem\/aD.Kg ρ (arrOf st) (lo+n)<aD.Kg ρ (arrOf st) (lo+n-1))->Q (none,n) st):wpS (model prog w) A E s (yC lo a nrem) Q st:=by
 unfold yC;refine aFh (I:=λx c st1=>st1=st/\c=(none,x)/\eN ρ (arrOf st) lo (lo+x)) ?turn ?last ⟨rfl,rfl,hs⟩
 case last=>
  rintro c st1 ⟨rfl,rfl,i1⟩;rw[show max a nrem=nrem by lia]at i1 ⊢;exact h nrem han (aI1 _) i1 (.inl rfl)
 case turn=>
  rintro x c st1 hax hxn ⟨rfl,rfl,i1⟩;dsimp only;refine aTR (II hB h0 (by lia) (by lia) ?_);by_cases c:aD.Kg ρ (arrOf st1) (lo+x)<aD.Kg ρ (arrOf st1) (lo+x-1)
  .simp only[c,alY,aEa];exact arI (h x hax (by lia) i1 (.inr c))
  .simp only[c,aR8,aKG,a2l];refine arI ⟨rfl,rfl,λi j hi hij hj=>?_⟩;by_cases hjx:j<lo+x
   .exact i1 i j hi hij hjx
   .have ej:j=lo+x:=by lia
    subst ej;by_cases e:i=lo+x
    .subst e;exact aK8 _
    .have:=i1 i (lo+x-1) hi (by lia) (by lia);lia
structure DX(ρ:aD.RR)(xs:Array Keyed)(lo x q:Nat):Prop where
 l:q+1<=x
 d:∀i j,lo<=i->i<=j->j<lo+x->aD.Kg ρ xs j<=aD.Kg ρ xs i
 e:∀i,lo+x-(q+1)<=i->i<lo+x->aD.Kg ρ xs i=aD.Kg ρ xs (lo+x-1)
theorem DX.rev{xs:Array Keyed}{lo x q:Nat}(h:DX ρ xs lo x q)(hz:lo+x<=xs.size):DX ρ (mirror xs (lo+x-(q+1)) (lo+x) ((lo+x-(lo+x-(q+1)))/2)) lo x 0:=by
 have ke:=aD.cj (ρ:=ρ) (i:=lo+x-(q+1)) hz h.e;have:=h.l;refine⟨by lia,λi j h1 h2 h3=>?_,λi h1 h2=>?_⟩
 .rw [ke,ke];exact h.d i j h1 h2 h3
 .have e:i=lo+x-1:=by lia
  rw[e]
theorem DX.zero{xs:Array Keyed}{lo x q:Nat}(h:DX ρ xs lo x q):DX ρ xs lo x 0:=⟨by have:=h.l;lia,h.d,λi h1 h2=>by rw[show i=lo+x-1 by have:=h.l;lia]⟩
theorem DX.less{xs:Array Keyed}{lo x:Nat}(h:DX ρ xs lo x 0)(k:aD.Kg ρ xs (lo+x)<aD.Kg ρ xs (lo+x-1)):DX ρ xs lo (x+1) 0:=by
 have:=h.l;refine⟨by lia,λi j h1 h2 h3=>?_,λi h1 h2=>by rw[show i=lo+(x+1)-1 by lia]⟩;by_cases c:j<lo+x
 .exact h.d i j h1 h2 c
 .have ej:j=lo+x:=by lia
  subst ej;by_cases e:i=lo+x
  .subst e;exact aK8 _
  .have:=h.d i (lo+x-1) h1 (by lia) (by lia);lia
theorem DX.more{xs:Array Keyed}{lo x q:Nat}(h:DX ρ xs lo x q)(k:aD.Kg ρ xs (lo+x)=aD.Kg ρ xs (lo+x-1)):DX ρ xs lo (x+1) (q+1):=by
 have:=h.l;refine⟨by lia,λi j h1 h2 h3=>?_,λi h1 h2=>?_⟩
 .by_cases c:j<lo+x
  .exact h.d i j h1 h2 c
  .have ej:j=lo+x:=by lia
   subst ej;by_cases e:i=lo+x
   .subst e;exact aK8 _
   .have:=h.d i (lo+x-1) h1 (by lia) (by lia);lia
 .rw [show lo+(x+1)-1=lo+x by lia];by_cases c:i<lo+x
  .rw [k];exact h.e i (by lia) c
  .rw [show i=lo+x by lia]
theorem Zit{st:SortSt}{lo n nrem:Nat}{Q:DS->SortSt->Prop}(h0:aD.kC prog w A s κ ρ a₀)(hn:lo+nrem<=a₀.size)(hnn:n<=nrem)(hB:GP κ a₀ P st)(hs:DX ρ (arrOf st) lo n 0)
  (h:∀m q st',GP κ a₀ P st'->m<=nrem->DX ρ (arrOf st') lo m q->Out lo nrem (arrOf st) (arrOf st')->Q (none,m,q) st'):wpS (model prog w) A E s (uS lo n nrem) Q st:=by
 unfold uS;refine aFh (I:=λx c st1=>∃q,c=(none,x,q)/\GP κ a₀ P st1/\DX ρ (arrOf st1) lo x q/\Out lo nrem (arrOf st) (arrOf st1)) ?turn ?last ⟨0,rfl,hB,hs,λ_ _=>rfl⟩
 case last=>
  rintro c st1 ⟨q,rfl,b1,d1,o1⟩;rw[show max n nrem=nrem by lia]at d1 ⊢;exact h nrem q st1 b1 (aI1 _) d1 o1
 case turn=>
  rintro x c st1 hax hxn ⟨q,rfl,b1,d1,o1⟩;dsimp only;have sz:=b1.size;have hl:=d1.l;refine aTR (II b1 h0 (by lia) (by lia) ?_);by_cases c:aD.Kg ρ (arrOf st1) (lo+x)<aD.Kg ρ (arrOf st1) (lo+x-1)
  .simp only[c,alY,aEa];by_cases hq:q>0
   .rw [auJ hq];have ke:=aD.cj (ρ:=ρ) (i:=lo+x-(q+1)) (by lia:lo+x<=(arrOf st1).size) d1.e;refine aTR (bba (arI ⟨0,rfl,b1.setArr (amm _ _ _ _),(d1.rev (by lia)).less ?_,λk hk=>(Ll (by lia) (by lia) (by lia) k hk).trans (o1 k hk)⟩));rw[ke,ke];exact c
   .rw [ale hq];have e:q=0:=by lia
    subst e;exact arI ⟨0,rfl,b1,d1.less c,o1⟩
  .simp only[c,aR8,aKG,a2l];refine aTR (II b1 h0 (by lia) (by lia) ?_);by_cases c2:aD.Kg ρ (arrOf st1) (lo+x-1)<aD.Kg ρ (arrOf st1) (lo+x)
   .simp only[c2,alY,aEa];exact arI (h x q st1 b1 (by lia) d1 o1)
   .simp only[c2,aR8,aKG,a2l];exact arI ⟨q+1,rfl,b1,d1.more (by lia),o1⟩
theorem Tz{st jJ:SortSt}{lo n nrem:Nat}{Q:Option Nat->SortSt->Prop}(h0:aD.kC prog w A s κ ρ a₀)(hn:lo+nrem<=a₀.size)(h1:1<=n)(hnn:n<=nrem)(hB:GP κ a₀ P st)(hs:DX ρ (arrOf st) lo n 0)(ho:Out lo nrem (arrOf jJ) (arrOf st))
  (h:∀m st',GP κ a₀ P st'->1<=m->m<=nrem->eN ρ (arrOf st') lo (lo+m)->Out lo nrem (arrOf jJ) (arrOf st')->Q (some m) st'):wpS (model prog w) A E s (qf lo n nrem) Q st:=by
 unfold qf;have sz:=hB.size;refine aTR (bba ?_);have b1:GP κ a₀ P (setArr st (mirror (arrOf st) lo (lo+n) ((lo+n-lo)/2))):=hB.setArr (amm _ _ _ _);refine aTR (Sz h0 hn h1 hnn b1 ?_ λm m1 m2 i2 _=>arI (h m _ b1 (by lia) m2 i2 λk hk=>(Ll (by lia) (by lia) (by lia) k hk).trans (ho k hk)));intro i j hi hij hj;show aD.Kg ρ (mirror (arrOf st) lo (lo+n) ((lo+n-lo)/2)) i<=aD.Kg ρ (mirror (arrOf st) lo (lo+n) ((lo+n-lo)/2)) j;rw[aD.jr (by lia),aD.jr (by lia),auJ (by lia),auJ (by lia)];exact hs.d _ _ (by lia) (by lia) (by lia)
theorem Tw{st jJ:SortSt}{lo n nrem:Nat}{Q:Option Nat->SortSt->Prop}(h0:aD.kC prog w A s κ ρ a₀)(hn:lo+nrem<=a₀.size)(hnn:n+1<=nrem)(hB:GP κ a₀ P st)(hs:DX ρ (arrOf st) lo (n+1) 0)(ho:Out lo nrem (arrOf jJ) (arrOf st))
  (h:∀m st',GP κ a₀ P st'->1<=m->m<=nrem->eN ρ (arrOf st') lo (lo+m)->Out lo nrem (arrOf jJ) (arrOf st')->Q (some m) st'):wpS (model prog w) A E s (qJ lo n nrem) Q st:=by
 unfold qJ;refine aTR (wpS_lift (aQS ⟨rfl,?_⟩));refine aTR (Zit h0 hn hnn hB hs λm q st1 b1 m2 d1 o1=>?_);dsimp only;have hl:=d1.l;have sz:=b1.size;by_cases hq:q>0
 .rw [auJ hq];exact aTR (bba (Tz h0 hn (by lia) m2 (b1.setArr (amm _ _ _ _)) (d1.rev (by lia)) (λk hk=>((Ll (by lia) (by lia) (by lia) k hk).trans (o1 k hk)).trans (ho k hk)) h))
 .rw [ale hq];exact Tz h0 hn (by lia) m2 b1 d1.zero (λk hk=>(o1 k hk).trans (ho k hk)) h
theorem Zhb{st:SortSt}{lo nrem:Nat}{Q:Option Nat->SortSt->Prop}(h0:aD.kC prog w A s κ ρ a₀)(hn:lo+nrem<=a₀.size)(h1:1<=nrem)(hB:GP κ a₀ P st)
  (h:∀m st',GP κ a₀ P st'->1<=m->m<=nrem->eN ρ (arrOf st') lo (lo+m)->Out lo nrem (arrOf st) (arrOf st')->Q (some m) st'):wpS (model prog w) A E s (countRun' lo nrem) Q st:=by
 rw[ZgZ];have sz:=hB.size;refine aTR (Sz h0 hn (aI1 1) h1 hB (λi j hi hij hj=>by rw[show i=j by lia];exact aK8 _) λn n1 n2 i1 hor=>?_);dsimp only;by_cases e:n=nrem
 .rw [auJ (by simpa using e)];exact arI (h n st hB n1 n2 i1 λ_ _=>rfl)
 .rw [ale (by simpa using e)];have lt:aD.Kg ρ (arrOf st) (lo+n)<aD.Kg ρ (arrOf st) (lo+n-1):=hor.resolve_left e;by_cases g:n>1
  .rw [auJ g];refine aTR (II hB h0 (by lia) (by lia) ?_);by_cases c:aD.Kg ρ (arrOf st) lo<aD.Kg ρ (arrOf st) (lo+n-1)
   .simp only[c,alY,aEa];exact arI (h n st hB n1 n2 i1 λ_ _=>rfl)
   .simp only[c,aR8,aKG,a2l];have all:∀k,lo<=k->k<lo+n->aD.Kg ρ (arrOf st) k=aD.Kg ρ (arrOf st) (lo+n-1):=λk h1 h2=>by
     have a1:=i1 lo k (aI1 _) h1 h2;have a2:=i1 k (lo+n-1) h1 (by lia) (by lia);lia
    have ke:=aD.cj (ρ:=ρ) (xs:=arrOf st) (i:=lo) (j:=lo+n) (by lia) all;have dx:DX ρ (mirror (arrOf st) lo (lo+n) ((lo+n-lo)/2)) lo n 0:=⟨by lia,λi j h1 h2 h3=>by rw[ke,ke,all i h1 (by lia),all j (by lia) h3];exact aK8 _,λi h1 h2=>by rw[show i=lo+n-1 by lia]⟩;exact aTR (bba (Tw (jJ:=st) h0 hn (by lia) (hB.setArr (amm _ _ _ _)) (dx.less (by rw[ke,ke];exact lt)) (Ll (by lia) (by lia) (by lia)) h))
  .rw [ale g];have en:n=1:=by lia
   subst en;exact Tw (jJ:=st) h0 hn (by lia) hB (DX.less ⟨by lia,λi j h1 h2 h3=>by rw[show i=j by lia];exact aK8 _,λi h1 h2=>by rw[show i=lo+1-1 by lia]⟩ lt) (λ_ _=>rfl) h
end
abbrev Rn:=Nat×Nat×Nat
def iI:List Rn->Nat->Nat->Prop
 | [],a,b=>a=b
 |t ::r,a,b=>t.1=a/\0<t.2.1/\iI r (a+t.2.1) b
theorem eV:∀{l m:List Rn}{a b:Nat},iI (l++m) a b↔∃c,iI l a c/\iI m c b
 | [],m,a,b=>⟨λh=>⟨a,rfl,h⟩,λ⟨c,h1,h2⟩=>by rw[show a=c from h1];exact h2⟩
 |t ::r,m,a,b=>by
  constructor
  .rintro ⟨h1,h2,h3⟩;obtain⟨c,h4,h5⟩:=eV.mp h3;exact⟨c,⟨h1,h2,h4⟩,h5⟩
  .rintro ⟨c,⟨h1,h2,h4⟩,h5⟩;exact⟨h1,h2,eV.mpr ⟨c,h4,h5⟩⟩
theorem Ld:∀{l:List Rn}{a b:Nat},iI l a b->l.length+a<=b
 | [],a,b,h=>by rw[show a=b from h];show 0+b<=b;lia
 |t ::r,a,b,⟨_,h2,h3⟩=>by
  have:=Ld h3;rw[aCx];lia
theorem KZ:∀{l:List Rn}{a b:Nat},iI l a b->∀t∈l,a<=t.1/\t.1+t.2.1<=b
 | [],a,b,h,t,ht=>nomatch ht
 |u ::r,a,b,⟨h1,h2,h3⟩,t,ht=>by
  have l:=Ld h3;rcases awk.mp ht with e|ht
  .subst e;lia
  .have:=KZ h3 t ht;lia
theorem RM:∀{l:List Rn}{i:Nat}{x y:Rn},l[i]?=some x->l[i+1]?=some y->l=l.take i++x ::y ::l.drop (i+2)
 | [],i,x,y,h,_=>by simp at h
 | [a],0,x,y,h,h2=>by simp at h2
 |a ::b ::r,0,x,y,h,h2=>by
  simp only[List.getElem?_cons_zero,axA,Option.some.injEq]at h h2;subst h h2;rfl
 |a ::r,i+1,x,y,h,h2=>by
  have:=RM (l:=r) (i:=i) (x:=x) (y:=y) (by simpa using h) (by simpa using h2);show a ::r=a ::(r.take i++x ::y ::r.drop (i+2));rw[<-this]
theorem Zhc(l m:List Rn)(x y v:Rn):((l++x ::y ::m).set l.length v).eraseIdx (l.length+1)=l++v ::m:=by
 induction l with
 |nil=>rfl
 |cons a r ih=>show a ::((r++x ::y ::m).set r.length v).eraseIdx (r.length+1)=a ::(r++v ::m);rw[ih]
section
variable{prog:Program}{w:World}{A:Around}{E:Value->Shared->Prop}{s:Shared}{a₀:Array Keyed}{κ:SortKind}{ρ:aD.RR}{P:Array Rn}
theorem Iz{xs ys:Array Keyed}{a b:Nat}(h:eN ρ xs a b)(e:∀j,a<=j->j<b->ys[j]?=xs[j]?):eN ρ ys a b:=λi j h1 h2 h3=>by
 rw[aD.cL (e i h1 (by lia)),aD.cL (e j (by lia) h3)];exact h i j h1 h2 h3
structure RI(κ:SortKind)(a₀:Array Keyed)(ρ:aD.RR)(lo:Nat)(st:SortSt):Prop where
 perm:(arrOf st).Perm a₀
 kn:kindOf st=κ
 failed:failedOf st=none
 tile:iI (pendingOf st).toList 0 lo
 Ek:∀t∈(pendingOf st).toList,eN ρ (arrOf st) t.1 (t.1+t.2.1)
theorem RI.gp{lo:Nat}{st:SortSt}(h:RI κ a₀ ρ lo st):GP κ a₀ (pendingOf st) st:=⟨h.perm,h.kn,h.failed,rfl⟩
theorem RI.out{lo n:Nat}{st st':SortSt}(h:RI κ a₀ ρ lo st)(g:GP κ a₀ (pendingOf st) st')(o:Out lo n (arrOf st) (arrOf st')):RI κ a₀ ρ lo st':=
 ⟨g.perm,g.kn,g.failed,by rw[g.pend];exact h.tile,λt ht=>by
  rw[g.pend]at ht;have:=KZ h.tile t ht;exact Iz (h.Ek t ht) λj h1 h2=>o j (.inl (by lia))⟩
theorem RI.merge{lo i:Nat}{x y:Rn}{st:SortSt}{Q:Bool->SortSt->Prop}(h0:aD.kC prog w A s κ ρ a₀)(h:RI κ a₀ ρ lo st)(hlo:lo<=a₀.size)(e1:(pendingOf st)[i]?=some x)(e2:(pendingOf st)[i+1]?=some y)
  (k:∀st',RI κ a₀ ρ lo st'->(pendingOf st').size+1=(pendingOf st).size->(∀j,lo<=j->(arrOf st')[j]?=(arrOf st)[j]?)->Q true st'):wpS (model prog w) A E s (Of i) Q st:=by
 obtain⟨sa,na,p⟩:=x;obtain⟨sb,nb,q⟩:=y;have el:=RM (l:=(pendingOf st).toList) (i:=i) (by rw[aq8];exact e1) (by rw[aq8];exact e2);have hi:i<(pendingOf st).toList.length:=by
  rw[apo];exact(Array.getElem?_eq_some_iff.mp e1).1
 have hti:((pendingOf st).toList.take i).length=i:=by rw[bc6];lia
 have ht:=h.tile;have hs:=h.Ek;have hsz:(pendingOf st).size=(pendingOf st).toList.length:=apo.symm;have hnew:(((pendingOf st).setIfInBounds i (sa,na+nb,p)).eraseIdxIfInBounds (i+1)).toList=(pendingOf st).toList.take i++(sa,na+nb,p) ::(pendingOf st).toList.drop (i+2):=by
  rw[Array.toList_eraseIdxIfInBounds,Array.toList_setIfInBounds]
  conv=>lhs;rw[el]
  have:=Zhc ((pendingOf st).toList.take i) ((pendingOf st).toList.drop (i+2)) (sa,na,p) (sb,nb,q) (sa,na+nb,p);rw[hti]at this;exact this
 generalize(pendingOf st).toList.take i=l at *;generalize(pendingOf st).toList.drop (i+2)=m at *;rw[el]at ht hs hsz;obtain⟨c,t1,t2,t3,t4,t5,t6⟩:=eV.mp ht;have t2:sa=c:=t2;have t3:0<na:=t3;have t4:sb=c+na:=t4;have t5:0<nb:=t5;have t6:iI m (c+na+nb) lo:=t6;have l6:=Ld t6;refine ZfW h0 h.kn h.gp.mem h.failed e1 e2 (by lia) t3 t5 (by rw[h.gp.size];lia) (hs (sa,na,p) (by simp)) (hs (sb,nb,q) (by simp)) λst' k1 f1 p1 pe s1 o1=>?_;refine k st' ⟨p1.trans h.perm,k1,f1,?_,?_⟩ ?_ λj hj=>o1 j (.inr (by lia))
 .rw [pe,hnew];exact eV.mpr ⟨c,t1,t2,by show 0<na+nb;lia,by show iI m (c+(na+nb)) lo;rw[<-Nat.add_assoc];exact t6⟩
 .rw [pe,hnew];intro t ht;rcases aXY.mp ht with ht|ht
  .have:=KZ t1 t ht;exact Iz (hs t (ata _ ht)) λj h1 h2=>o1 j (.inl (by lia))
  .rcases awk.mp ht with ht|ht
   .subst ht;show eN ρ (arrOf st') sa (sa+(na+nb));rw[show sa+(na+nb)=sb+nb by lia];exact s1
   .have:=KZ t6 t ht;exact Iz (hs t (aGz _ (asW _ (asW _ ht)))) λj h1 h2=>o1 j (.inr (by lia))
 .have z:(pendingOf st').size=(pendingOf st').toList.length:=apo.symm;rw[z,pe,hnew,hsz,akn,akn];rfl
theorem RI.push{lo n:Nat}{st:SortSt}(h:RI κ a₀ ρ lo st)(hn:0<n)(hs:eN ρ (arrOf st) lo (lo+n)):RI κ a₀ ρ (lo+n) (setPending st ((pendingOf st).push (lo,n,0))):=by
 refine⟨h.perm,h.kn,h.failed,?_,?_⟩
 .show iI ((pendingOf st).push (lo,n,0)).toList 0 (lo+n);rw[aVZ];exact eV.mpr ⟨lo,h.tile,rfl,hn,rfl⟩
 .show ∀t∈((pendingOf st).push (lo,n,0)).toList,_;rw[aVZ];intro t ht;rcases aXY.mp ht with ht|ht
  .exact h.Ek t ht
  .rw [axK.mp ht];exact hs
theorem Tv{f:Rn->Rn}(hf:∀t,(f t).1=t.1/\(f t).2.1=t.2.1):∀{l:List Rn}{i a b:Nat},iI l a b->iI (l.modify i f) a b
 | [],i,a,b,h=>by cases i <;> exact h
 |t ::r,0,a,b,⟨h1,h2,h3⟩=>by
  show iI (f t ::r) a b;exact⟨(hf t).1.trans h1,by rw[(hf t).2];exact h2,by rw[(hf t).2];exact h3⟩
 |t ::r,i+1,a,b,⟨h1,h2,h3⟩=>⟨h1,h2,Tv hf h3⟩
theorem Uz{f:Rn->Rn}:∀{l:List Rn}{i:Nat}{t:Rn},t∈l.modify i f->t∈l\/∃u∈l,t=f u
 | [],i,t,h=>by cases i <;> exact nomatch h
 |u ::r,0,t,h=>by
  rcases awk.mp (show t∈f u ::r from h) with e|h
  .exact .inr ⟨u,bcs,e⟩
  .exact .inl (asW _ h)
 |u ::r,i+1,t,h=>by
  rcases awk.mp (show t∈u ::r.modify i f from h) with e|h
  .exact .inl (e ▸bcs)
  .rcases Uz h with h|⟨v,hv,e⟩
   .exact .inl (asW _ h)
   .exact .inr ⟨v,asW _ hv,e⟩
theorem RI.pow{lo i:Nat}{st:SortSt}{f:Rn->Rn}(hf:∀t,(f t).1=t.1/\(f t).2.1=t.2.1)(h:RI κ a₀ ρ lo st):RI κ a₀ ρ lo (setPending st ((pendingOf st).modify i f)):=by
 refine⟨h.perm,h.kn,h.failed,?_,?_⟩
 .show iI ((pendingOf st).modify i f).toList 0 lo;rw[Array.toList_modify];exact Tv hf h.tile
 .show ∀t∈((pendingOf st).modify i f).toList,_;rw[Array.toList_modify];intro t ht;rcases Uz ht with ht|⟨u,hu,e⟩
  .exact h.Ek t ht
  .rw [e,(hf u).1,(hf u).2];exact h.Ek u hu
theorem xE{st:SortSt}{Q:Unit->SortSt->Prop}(h0:aD.kC prog w A s κ ρ a₀)(hP:(arrOf st).Perm a₀)(hk:kindOf st=κ)(hf:failedOf st=none)(hp:pendingOf st=#[])
  (h:∀st',(arrOf st').Perm a₀->failedOf st'=none->eN ρ (arrOf st') 0 a₀.size->Q () st'):wpS (model prog w) A E s sortRuns' Q st:=by
 rw[sortRuns'_eq];refine aTR (axd ?_);dsimp only;have YA:(arrOf st).size=a₀.size:=hP.size_eq;simp only[YA];generalize minRun' a₀.size a₀.size 0=mr;have r0:RI κ a₀ ρ 0 st:=⟨hP,hk,hf,by rw[hp];rfl,by rw[hp];exact λt ht=>nomatch ht⟩;refine aTR (arH (aFh (I:=λx c st1=>∃lo,c=(none,lo)/\lo<=a₀.size/\(x<=lo\/lo=a₀.size)/\RI κ a₀ ρ lo st1) (Q:=λc st1=>c=(none,a₀.size)/\RI κ a₀ ρ a₀.size st1) ?turn ?last ⟨0,rfl,acY _,.inl (aI1 _),r0⟩) ?after)
 case last=>
  rintro c st1 ⟨lo,rfl,hlo,hx,r1⟩;have e:lo=a₀.size:=by lia
  subst e;exact⟨rfl,r1⟩
 case turn=>
  rintro x c st1 _ hx ⟨lo,rfl,hlo,hxl,r1⟩;dsimp only;by_cases g:lo ≥ a₀.size
  .rw [auJ g];have e:lo=a₀.size:=by lia
   subst e;exact arI ⟨rfl,r1⟩
  .rw [ale g];refine aTR (Zhb h0 (by lia) (by lia) r1.gp λm st2 b2 m1 m2 s2 o2=>?_);dsimp only;have r2:=r1.out b2 o2;have fin:∀{n:Nat}{st3:SortSt},0<n->lo+n<=a₀.size->RI κ a₀ ρ lo st3->eN ρ (arrOf st3) lo (lo+n)->∃lo',(none,lo+n)=((none,lo'):Option Unit×Nat)/\lo'<=a₀.size/\(x+1<=lo'\/lo'=a₀.size)/\RI κ a₀ ρ lo' (setPending st3 ((pendingOf st3).push (lo,n,0))):=λ{n st3} h1 h2 h3 h4=>⟨lo+n,rfl,h2,by lia,h3.push h1 h4⟩;by_cases lt:m<mr
   .rw [auJ lt];refine aTR (wpS_lift (aQS ⟨rfl,?_⟩));refine aTR (ZjU h0 (by lia) (by lia) m1 b2 s2 λst3 b3 s3 o3=>?_);simp only[amL,aKG,a2l];have r3:=r1.out (n:=a₀.size-lo) b3 λj hj=>(o3 j (by lia)).trans (o2 j hj);have hn:0<min (a₀.size-lo) mr:=by lia
    have ng:lo+min (a₀.size-lo) mr<=a₀.size:=by lia
    clear b3 o3 b2 s2 o2 r2 m1 m2 lt;generalize min (a₀.size-lo) mr=n at *;refine aTR (axd ?_);cases eb:(pendingOf st3).back? with
    |none=>
     dsimp only;exact aTR (aCl (arI (fin hn ng r3 s3)))
    |some t=>
     obtain⟨s1,n1,z⟩:=t;dsimp only;generalize power' a₀.size (2*s1+n1) (2*s1+n1+n1+n) a₀.size=pw;refine aTR (arH (aFh (I:=λ_ c cV=>c=(none,())/\RI κ a₀ ρ lo cV/\eN ρ (arrOf cV) lo (lo+n)) (Q:=λc cV=>c=(none,())/\RI κ a₀ ρ lo cV/\eN ρ (arrOf cV) lo (lo+n)) ?_ (λ_ _ hh=>hh) ⟨rfl,r3,s3⟩) ?_)
     .rintro y c cV _ _ ⟨rfl,r4,h4⟩;refine aTR (axd ?_);by_cases c2:(pendingOf cV).size>1
      .have e1:(pendingOf cV)[(pendingOf cV).size-2]?=some (pendingOf cV)[(pendingOf cV).size-2]:=aE5 (by lia);have e2:(pendingOf cV)[(pendingOf cV).size-2+1]?=some (pendingOf cV)[(pendingOf cV).size-2+1]:=aE5 (by lia);simp only[auJ c2];rw[e1];dsimp only;by_cases c3:(pendingOf cV)[(pendingOf cV).size-2].2.2<=pw
       .rw [auJ c3];exact arI ⟨rfl,r4,h4⟩
       .rw [ale c3];refine aTR (RI.merge h0 r4 hlo e1 e2 λzE r5 _ o5=>?_);simp only[amL,aKG,a2l];exact arI ⟨rfl,r5,Iz h4 λj h1 _=>o5 j h1⟩
      .simp only[ale c2];exact arI ⟨rfl,r4,h4⟩
     .rintro c cV ⟨rfl,r4,h4⟩;dsimp only;exact aTR (aCl (aTR (aCl (arI (fin hn ng (r4.pow λ_=>⟨rfl,rfl⟩) h4)))))
   .rw [ale lt];have hn:0<m:=by lia
    have ng:lo+m<=a₀.size:=by lia
    have r3:=r2;have s3:=s2;clear b2 s2 o2 r2 m1 m2 lt;generalize m=n at *;generalize st2=st3 at *;refine aTR (axd ?_);cases eb:(pendingOf st3).back? with
    |none=>
     dsimp only;exact aTR (aCl (arI (fin hn ng r3 s3)))
    |some t=>
     obtain⟨s1,n1,z⟩:=t;dsimp only;generalize power' a₀.size (2*s1+n1) (2*s1+n1+n1+n) a₀.size=pw;refine aTR (arH (aFh (I:=λ_ c cV=>c=(none,())/\RI κ a₀ ρ lo cV/\eN ρ (arrOf cV) lo (lo+n)) (Q:=λc cV=>c=(none,())/\RI κ a₀ ρ lo cV/\eN ρ (arrOf cV) lo (lo+n)) ?_ (λ_ _ hh=>hh) ⟨rfl,r3,s3⟩) ?_)
     .rintro y c cV _ _ ⟨rfl,r4,h4⟩;refine aTR (axd ?_);by_cases c2:(pendingOf cV).size>1
      .have e1:(pendingOf cV)[(pendingOf cV).size-2]?=some (pendingOf cV)[(pendingOf cV).size-2]:=aE5 (by lia);have e2:(pendingOf cV)[(pendingOf cV).size-2+1]?=some (pendingOf cV)[(pendingOf cV).size-2+1]:=aE5 (by lia);simp only[auJ c2];rw[e1];dsimp only;by_cases c3:(pendingOf cV)[(pendingOf cV).size-2].2.2<=pw
       .rw [auJ c3];exact arI ⟨rfl,r4,h4⟩
       .rw [ale c3];refine aTR (RI.merge h0 r4 hlo e1 e2 λzE r5 _ o5=>?_);simp only[amL,aKG,a2l];exact arI ⟨rfl,r5,Iz h4 λj h1 _=>o5 j h1⟩
      .simp only[ale c2];exact arI ⟨rfl,r4,h4⟩
     .rintro c cV ⟨rfl,r4,h4⟩;dsimp only;exact aTR (aCl (aTR (aCl (arI (fin hn ng (r4.pow λ_=>⟨rfl,rfl⟩) h4)))))
 case after=>
  rintro c st1 ⟨rfl,r1⟩;dsimp only;have l1:=Ld r1.tile;rw[apo]at l1;refine aTR (arH (aFh (I:=λx c st2=>c=(none,())/\RI κ a₀ ρ a₀.size st2/\(pendingOf st2).size+x<=a₀.size+1) (Q:=λc st2=>c=(none,())/\RI κ a₀ ρ a₀.size st2/\(pendingOf st2).size<=1) ?_ ?_ ⟨rfl,r1,by lia⟩) ?_)
  .rintro y c st2 _ _ ⟨rfl,r2,h2⟩;refine aTR (axd ?_);by_cases c1:(pendingOf st2).size<=1
   .rw [auJ c1];exact arI ⟨rfl,r2,c1⟩
   .rw [ale c1];obtain⟨i,hi,hlt⟩:∃i,(if Option.any (λx=>decide (x<(pendingOf st2)[(pendingOf st2).size-2+1]?.elim 0 λx=>x.snd.fst)) (if(pendingOf st2).size-2>0 then Option.map (λx=>x.snd.fst) (pendingOf st2)[(pendingOf st2).size-2-1]? else none)=true then(pendingOf st2).size-2-1 else(pendingOf st2).size-2)=i/\i+1<(pendingOf st2).size:=⟨_,rfl,by generalize Option.any _ _=bb;cases bb <;> simp <;> lia⟩;rw[hi];refine aTR (RI.merge h0 r2 (aI1 _) (aE5 (by lia)) (aE5 hlt) λzE r5 z5 _=>?_);simp only[amL,aKG,a2l];exact arI ⟨rfl,r5,by lia⟩
  .rintro c st2 ⟨rfl,r2,h2⟩;exact⟨rfl,r2,by lia⟩
  .rintro c st2 ⟨rfl,r2,h2⟩;dsimp only;refine arI (h st2 r2.perm r2.failed ?_);have ht:=r2.tile;have hs:=r2.Ek;have z:(pendingOf st2).size=(pendingOf st2).toList.length:=apo.symm;rw[z]at h2;generalize(pendingOf st2).toList=l at *
   match l,h2,ht,hs with
   | [],_,ht,_=>
    have e:0=a₀.size:=ht;intro i j _ _ hj;lia
   | [t],_,⟨t1,t2,t3⟩,hs=>
    have e:0+t.2.1=a₀.size:=t3;have q:=hs t (by simp);rw[t1,e]at q;exact q
   |_ ::_ ::_,h2,_,_=>simp at h2
end
end L2.AH
set_option maxHeartbeats 4000000
namespace L2
open PySem PySem.Spec PyProof.Rows
section
variable{prog:Program}{w:World}{A:Around}{E:Value->Shared->Prop}{s:Shared}
theorem RK{a:Addr}{us:List Value}{m:Nat}{P:PySem.Fin->Shared->Prop}{κ:SortKind}{ρ:aD.RR}(ho:s.heap.get? a=some (seqObj "list" us.toArray m))(z:us.length<=1000000)
  (hk:2<=us.length->(∀(E:Value->Shared->Prop)(Q:SortKind->Shared->Prop),Q κ { s with heap:=sC s.heap a us }->wpAny (model prog w) A (keyKind' us.toArray) Q E { s with heap:=sC s.heap a us })/\aD.kC prog w A { s with heap:=sC s.heap a us } κ ρ (pairsOf us))
  (g:∀q:SortSt,(arrOf q).Perm (pairsOf us)->AH.eN ρ (arrOf q) 0 (pairsOf us).size->P (.done (.ret .none)) { s with heap:=sortedHeap s.heap a us ((arrOf q).map (·.2)) }):wpAny (model prog w) A (Builtin.«list.sort» ⟨[.ref a],[]⟩) P E s:=by
 rw[list_sort_plain];have al:a<s.heap.objs.size:=aPy ho;obtain⟨c,oc⟩:∃c,(s.heap.update a (Obj.mapSeq λ_=>#[])).get? a=some (seqObj "list" #[] c):=⟨_,get?_update_seq ho (λ_=>#[])⟩;have JY:(sC s.heap a us).get? a=some (seqObj "list" #[] c):=a8n _ (a8n _ oc);refine a3A (listItems_at ho rfl (a3A (a8W ho rfl (a3A (seqEpoch_at oc rfl (a3A (wpAny_newTuple (a3A (aE7 (aPf ?_)))))))))) <;> try (rw[aK9];first|(rw[a6x];lia)|lia)
 show wpAny (model prog w) A _ P E { s with heap:=sC s.heap a us };dsimp only;have us2:us.toArray.size=us.length:=a6x ..;by_cases few:us.toArray.size<2
 .rw [auJ few,auJ few];refine a3A (aLE ?_);rw[StateT.run_pure];refine a3A (aLE (a3A (seqEpoch_at JY rfl (a3A (a8W JY rfl ?_ (hsz2:=by rw[Array.size_map];show(pairsOf us).size<=_;rw[pairsOf_size,aK9];lia))))));simp only[bne_self_eq_false,aKG,a2l];refine aLE (g (SortSt.mk' general' (us.toArray.zip us.toArray) #[] 7 none) (aHX _) λi j _ hij hj=>?_);rw[pairsOf_size]at hj;rw[show i=j by lia];exact aK8 _
 .rw [ale few,ale few];have two:2<=us.length:=by lia
  obtain⟨k1,k2⟩:=hk two;refine a3A (k1 _ _ (a3A (aZU (AH.xE (a₀:=pairsOf us) (st:=SortSt.mk' κ (us.toArray.zip us.toArray) #[] 7 none) (Q:=λ_ q=>(arrOf q).Perm (pairsOf us)/\failedOf q=none/\AH.eN ρ (arrOf q) 0 (pairsOf us).size) k2 (aHX _) rfl rfl rfl λq a1 a2 a3=>⟨a1,a2,a3⟩) ?_ λ_ _ e=>e)));rintro⟨⟨⟩,q⟩ t ⟨rfl,hp,hf,hs⟩;refine a3A (seqEpoch_at JY rfl (a3A (a8W JY rfl ?_ (hsz2:=by rw[Array.size_map,hp.size_eq,pairsOf_size,aK9];lia))));dsimp only;rw[hf];simp only[bne_self_eq_false,aKG,a2l];exact aLE (g q hp hs)
end
theorem Z8{α:Type}:∀{l:List α},2<=l.length->∃a b r,l=a ::b ::r
 | [],h=>absurd h (Nat.not_succ_le_zero 1)
 | [_],h=>absurd h (agV 1)
 |a ::b ::r,_=>⟨a,b,r,rfl⟩
def En:aD.RR:=⟨λ_=>0,λp=>match p.1 with| .int n _=>n|_=>0⟩
theorem RJ{xs:Array Keyed}{i:Nat}:aD.Kg En xs i=PyProof.Rows.K xs i:=by
 unfold aD.Kg PyProof.Rows.K;cases xs[i]? with
 |none=>rfl
 |some p=>obtain⟨v,u⟩:=p;cases v <;> rfl
variable{K:W.Frag}{X:Cx}
end L2
set_option maxHeartbeats 1000000
namespace L2
open PySem PySem.Spec PySem.Calls PyProof.Rows PySem.MeetsSeq PySem.W
abbrev qe:=Addr×Int×Int
def yY(es:List qe)(a:Addr):qe:=(es.find? λe=>e.1 ==a).getD (0,0,0)
theorem EK:∀{es:List qe},(es.map (·.1)).Nodup->∀{e:qe},e∈es->yY es e.1=e
 | [],_,_,h=>by cases h
 |x ::r,nd,e,h=>by
  rw[aB5]at nd;obtain⟨n1,n2⟩:=agN.mp nd;unfold yY;rw[aqP];rcases awk.mp h with rfl|h
  .rw [aro];rfl
  .have ne:(x.1 ==e.1)=false:=by
    rw[baQ];exact λz=>n1 (by rw[z];exact aOS h)
   rw[ne];exact EK n2 h
def gP(e:qe):Value:=.ref e.1
def JT(es:List qe):aD.RR:=⟨λ_=>0,λp=>(yY es (zQ p.2)).2.1⟩
def Jk(h:Heap)(e:qe):Prop:=∃t t',h.get? e.1=some { cls:=.type "tuple",data:=.seq #[.int e.2.1 t,.int e.2.2 t'] }
section
variable{prog:Program}{w:World}{A:Around}{E:Value->Shared->Prop}{s:Shared}
theorem NC{a b:qe}{Q:Bool->Shared->Prop}(h1:Jk s.heap a)(h2:Jk s.heap b)(hab:a.2.1=b.2.1->a.2.2=b.2.2)(h:Q (decide (a.2.1<b.2.1)) s):wpAny (model prog w) A (keyLt' (tuples' true) (gP a) (gP b)) Q E s:=by
 obtain⟨t,t',ho⟩:=h1;obtain⟨u,u',ho'⟩:=h2;refine W.kat_lt ho rfl ho' rfl (W.kat_cons ?_);obtain⟨c,e,hc⟩:=HT.rq A s a.2.1 t b.2.1 u;refine e prog w _ _ ?_;cases c with
 |true=>
  have z:=hc.mp rfl;refine W.kat_yes (W.kat_cons ?_);obtain⟨c2,e2,hc2⟩:=HT.rq A s a.2.2 t' b.2.2 u';refine e2 prog w _ _ ?_;cases c2 with
  |true=>
   rw[aKy (by lia)]at h;exact W.kat_yes (W.kat_nil h)
  |false=>exact absurd (hc2.mpr (hab z)) a0V
 |false=>exact W.kat_no (oneLt_int h)
theorem RH{h:Heap}:∀{es:List qe},(∀e∈es,Jk h e)->∃fs:List Value,W.KatTups h (es.map gP) fs/\fs.length=es.length/\∀v∈fs,∃(n:Int)(t:Tok),v=.int n t
 | [],_=>⟨[],W.KatTups.nil,rfl,λ_ h=>by cases h⟩
 |e ::es,hh=>by
  obtain⟨fs,t,lf,hf⟩:=RH (es:=es) λx m=>hh x (asW _ m);obtain⟨a,b,ho⟩:=hh e bcs;rw[aB5];refine⟨.int e.2.1 a ::fs,W.KatTups.cons ho rfl rfl rfl t,by rw[aCx,lf];rfl,λv m=>?_⟩;rcases awk.mp m with rfl|m
  .exact ⟨_,_,rfl⟩
  .exact hf v m
end
theorem Gf{es:List qe}(nd:(es.map (·.1)).Nodup){xs:Array Keyed}(hp:xs.Perm (pairsOf (es.map gP)))(hi:AH.eN (JT es) xs 0 (pairsOf (es.map gP)).size) :
  ∃os:List qe,(xs.map (·.2)).toList=os.map gP/\os.Perm es/\os.Pairwise λx y=>x.2.1<=y.2.1:=by
 have pm:=au9.mp hp;rw[UA,map_map]at pm;have mx:∀p∈xs.toList,∃e∈es,p=(gP e,gP e):=λp h=>by
  obtain⟨e,m,q⟩:=atX.mp (pm.mem_iff.mp h);exact⟨e,m,q.symm⟩
 refine⟨xs.toList.map λp=>yY es (zQ p.2),?_,?_,?_⟩
 .rw [Array.toList_map,map_map];refine a0o λp h=>?_;obtain⟨e,m,rfl⟩:=mx p h;show gP e=gP (yY es e.1);rw[EK nd m]
 .have q:=pm.map λp=>yY es (zQ p.2);rw[map_map]at q;refine q.trans (List.Perm.of_eq ?_);have:es.map ((λp:Keyed=>yY es (zQ p.2)) ∘ ((λv=>(v,v)) ∘ gP))=es.map id:=a0o λe m=>EK nd m;rw[this,map_id]
 .rw [pairwise_iff_getElem];intro i j h1 h2 hij;have hi2:i<xs.size:=by simpa using h1
  have hj2:j<xs.size:=by simpa using h2
  have v:=hi i j (acY _) (aaH hij) (by rw[<-hp.size_eq];exact hj2);unfold aD.Kg at v;rw[aE5 hi2,aE5 hj2]at v;rw[getElem_map,getElem_map,a3q,a3q];exact v
def sO(H:Hp)(es:List qe):Hp:=λa=>match es.find? λe=>e.1 ==a with
 |some e=>some (.tup [.int e.2.1,.int e.2.2])
 |none=>H a
theorem Tu{H:Hp}{es:List qe}{a:Addr}(h:∀e∈es,e.1≠a):sO H es a=H a:=by
 unfold sO;rw[List.find?_eq_none.mpr λe m=>by simpa using h e m]
theorem Ziu{H:Hp}{es:List qe}(nd:(es.map (·.1)).Nodup){e:qe}(m:e∈es):sO H es e.1=some (.tup [.int e.2.1,.int e.2.2]):=by
 have q:=EK nd m;unfold yY at q;unfold sO;cases z:es.find? λx=>x.1 ==e.1 with
 |none=>exact absurd (List.find?_eq_none.mp z e m) (by simp)
 |some x=>rw[z]at q;have q:x=e:=q;rw[q]
theorem TV{α β:Type}{F:α->β->Prop}:∀{l₁:List α}{l₂:List β},Paired F l₁ l₂->∀{i:Nat}{a:α}{b:β},l₁[i]?=some a->l₂[i]?=some b->F a b
 |_,_,.nil,_,_,_,h,_=>by simp at h
 |_,_,.cons r t,0,_,_,h,g=>by
  simp only[List.getElem?_cons_zero,Option.some.injEq]at h g;subst h g;exact r
 |_,_,.cons r t,i+1,_,_,h,g=>TV t (i:=i) (by simpa using h) (by simpa using g)
theorem RG{α β:Type}{f:α->β}:∀{l:List α},(l.map f).Nodup->∀{a b:α},a∈l->b∈l->f a=f b->a=b
 | [],_,_,_,h,_,_=>nomatch h
 |x ::r,nd,a,b,ha,hb,e=>by
  obtain⟨n1,n2⟩:=agN.mp nd;rcases awk.mp ha with h1|h1 <;> rcases awk.mp hb with h2|h2
  .rw [h1,h2]
  .exact absurd (by rw[<-h1,e];exact aOS h2) n1
  .exact absurd (by rw[<-h2,<-e];exact aOS h1) n1
  .exact RG n2 h1 h2 e
theorem ZjV(os:List qe):Vals (os.map λe=>V.ref e.1) (os.map gP):=by
 induction os with
 |nil=>exact .nil
 |cons e r ih=>exact .cons rfl ih
section
variable{X:Cx}{pins:List (Addr×Obj)}{σ:St}{H H':Hp}{s:Shared}{h':Heap}
theorem Inv.more{t':Nat}(I:Inv X pins σ H s)(k:∀b u,s.heap.get? b=some u->h'.get? b=some u)(on:∀b o,H b=some o->H' b=some o)(fr:∀b u,s.heap.get? b=some u->H b=none->H' b=none)(new:∀b o,H b=none->H' b=some o->aF X.prog X.w H' h' b o) :
  Inv X pins σ H' { s with heap:=h',toks:=t' }:=by
 refine I.un ⟨λb u q _ _ _=>k b u q,λb u q _ _ _=>⟨u.slots,k b u q⟩,λb u q n _=>fr b u q n,λb u q _=>⟨u,k b u q⟩,λb xs q=>on _ _ q,λb o u q=>on _ _ q,λb p z q=>on _ _ q⟩ λb u e=>?_;cases c:H b with
 |some o=>
  have e2:=asK ((on b o c).symm.trans e);subst e2;exact(I.hok b o c).stay (λc v _ q=>k c v q) (λc q=>on _ _ q) (λc xs q=>on _ _ q) λc oz q=>on _ _ q
 |none=>exact new b u c e
end
theorem Zeg{P:Program}{w:World}(d:Addr)(hd:(d ==sysModules)=false) :
  MeetsIn P w (Builtin.«dict.items» ⟨[.ref d],[]⟩) (λ_ R s=>s.TypeIs (.ref d) "dict" /\R (.ok (.ret (.ref s.heap.objs.size))) { s with heap:=s.heap.push { cls:=.type "dict_items",data:=.fields #[.ref d] } }):=
 .of_wp λA R s ⟨ty,h⟩=>by
  unfold Builtin.«dict.items»;refine a3A ?_;unfold Builtin.Dict.noArgs;refine a3A (wpAny_notOrdered_dict ty ?_);show wpAny _ _ (pure d) _ _ s;refine aLE ?_;show wpAny _ _ (Builtin.Dict.showsAll d >>=_) _ _ s;unfold Builtin.Dict.showsAll;rw[ale (by rw[hd];exact a0V)];exact a3A (aLE (a3A (aON (aLE ⟨_,rfl,h⟩))))
section
variable{X:Cx}
def O6(H:Hp)(v d:Addr):Prop:=H v=some (.ext λh=>h.IsItemsView v d)
def ZjW(tl:TE):TE:=λσ H Q=>tl σ H λx H1=>∃d kvs,x=.ref d/\H1 d=some (.dK kvs)/\∀v,H1 v=none->Q (.ref v) (upd H1 v (.ext λh=>h.IsItemsView v d))
theorem Zhd{l:Expr}{tl:TE}{apos cpos:Pos}(hl:PE X l tl)(hbase:attributeBase l "items" X.env (eval l X.env)=eval l X.env:=by rfl)(hline:(apos.endLine ==cpos.line)=true:=by rfl):PE X (.Call (.Attribute l "items" apos) [] [] cpos) (ZjW tl):=by
 intro pins s σ H Q I h;refine wpAny_Call_method0_late hbase hline (fF (hl pins s σ H _ I h) λv s1 x H1 I1 r1 q1=>?_);obtain⟨d,kvs,e,hd,q⟩:=q1;subst e;cases r1;obtain⟨t1,t2,hs⟩:=KG I1 (.inl ⟨kvs,.inl hd⟩);refine⟨"dict","dict.items",aKx,PySem.F.slot_dict_items,PySem.F.type_dict_items,t1,t2,adz rfl (PySem.evalArgs_none ?_)⟩;refine call_meetsIn PySem.F.slot_dict_items t1 PySem.F.entry_dict_items (PySem.F.args_dict_items_1 _) (Zeg d hs) ⟨t1,?_⟩;refine⟨.ref s1.heap.objs.size,_,I1.laid (a:=s1.heap.objs.size) (t':=s1.toks) (o:=.ext λh=>h.IsItemsView s1.heap.objs.size d) (λb o z=>a8n _ z) (aI1 _) ⟨⟨_,awu _ rfl,rfl,rfl⟩,⟨_,awu _ rfl⟩,λh1 h2 ⟨o,ho,x⟩ up=>⟨o,up o ho,x⟩⟩,rfl,q _ (I1.hok.fresh (aI1 _))⟩
inductive qG(xs:List V)(H:Hp)(Q:VK):Prop
 |mk (v d:Addr) (ps:List (Int×Int)):xs=[.ref v]->O6 H v d->H d=some (.dK (ps.map λp=>(Sum.inl p.1,V.int p.2)))->(ps.map (·.1)).Nodup->ps.length<=1000000->(∀(D:Addr)(os:List qe)(H':Hp),H D=none->av H H'->H' D=some (.lst (os.map λe=>V.ref e.1))->(∀e∈os,H e.1=none/\H' e.1=some (.tup [.int e.2.1,.int e.2.2]))->(os.map (·.2)).Perm ps->(os.Pairwise λx y=>x.2.1<y.2.1)->Q (.ref D) H')->qG xs H Q
theorem Zeh(hc:X.calm=true):aY X (.builtin "sorted") qG:=by
 intro pins s σ H xs us Q I r h;obtain⟨v,d,ps,rfl,hv,hd,nd,hz,q⟩:=h;obtain⟨u,rfl,rx⟩:=vals1 r;cases rx;obtain⟨hvw,_⟩:=I.hok v _ hv;obtain⟨_,hs,vs,rv,hD⟩:=I.hok d _ hd;obtain⟨ep,hat⟩:=hD.dictAt;have hl:vs.length=ps.length:=by have:=aL0 rv;rw[apM]at this;exact this.symm
 refine call_function_entry kind_sorted plain_sorted entry_sorted (args_sorted1 _) ?_;unfold Builtin.«sorted»;refine a3A (m:=checkCount "sorted" 1 1 _) (aLE ?_);refine a3A (W.kdx_collect (A:=X.A.in1) (knd:=Zy X.prog X.w) (kvs:=vs) (ep:=ep) (show X.A.in1.handled=none from I.ok.hd hc) hvw hat (by rw[aK9];lia) λh' tk as hk' la hG=>?_);obtain⟨es,ea,ev,pk⟩:∃es:List qe,es.map (·.1)=as/\es.map (·.2)=ps/\∀e∈es,Jk h' e:=by
  refine⟨as.zip ps,List.map_fst_zip (by lia),List.map_snd_zip (by lia),λe m=>?_⟩;obtain⟨j,hj⟩:=List.mem_iff_getElem?.mp m;rw[List.getElem?_zip_eq_some]at hj;obtain⟨ja,jp⟩:=hj;obtain⟨key,k,x,e1,e2,e3⟩:=hG.pairs j _ ja;obtain⟨f1,f2⟩:=TV rv (i:=j) (by rw[afQ,jp];rfl) e1;dsimp only at f1 f2;subst f1;obtain⟨t,rfl⟩:=TM e2;obtain⟨t',rfl⟩:=f2;exact⟨t,t',e3⟩
 have Gy:(es.map (·.1)).Nodup:=by rw[ea];exact hG.rise.imp λh=>aor h
 have P4:(es.map λe=>e.2.1).Nodup:=by
  rw[<-ev,map_map]at nd;exact nd
 have le:es.length=ps.length:=by rw[<-ev,apM]
 have er:as.map Value.ref=es.map gP:=by rw[<-ea,map_map];rfl
 have ab:∀e∈es,s.heap.objs.size<e.1:=λe m=>hG.above _ (by rw[<-ea];exact aOS m);rw[er];refine a3A (aE7 ?_ (by rw[apM,le,aK9];lia));have qc:(h'.push (seqObj "list" (es.map gP).toArray 0)).get? h'.objs.size=some (seqObj "list" (es.map gP).toArray 0):=awu _ rfl;show wpAny _ _ _ _ _ { s with heap:=h'.push (seqObj "list" (es.map gP).toArray 0),toks:=tk };have up1:∀b o,h'.get? b=some o->(h'.push (seqObj "list" (es.map gP).toArray 0)).get? b=some o:=λb o e=>a8n _ e;have Qa:∀e∈es,e.1<h'.objs.size:=λe m=>by obtain⟨_,_,z⟩:=pk e m;exact aPy z
 refine a3A (aPf (aXd slot_list_sort ⟨_,qc,rfl⟩ entry_list_sort (RK (s:={ s with heap:=h'.push (seqObj "list" (es.map gP).toArray 0),toks:=tk }) (κ:=tuples' true) (ρ:=JT es) qc (by rw[apM,le];exact hz) (λtwo=>?_) λst a1 a2=>⟨_,rfl,?_⟩) (args_list_sort _)))
 .have LZ:∀e∈es,Jk (sC (h'.push (seqObj "list" (es.map gP).toArray 0)) h'.objs.size (es.map gP)) e:=λe m=>by
   obtain⟨t,t',z⟩:=pk e m;exact⟨t,t',Zis (aor (Qa e m)) (up1 _ _ z)⟩
  refine⟨λE Q hQ=>?_,λx mx y my E Q hQ=>?_⟩
  .obtain ⟨fs,t,lf,hf⟩:=RH LZ;refine W.kat_kind (T:=Value.type "int") t (by rw[apM]at two;lia) (λv m=>?_) rfl hQ;obtain⟨n,t,rfl⟩:=hf v m;exact .now
  .rw [UA,map_map]at mx my;obtain⟨a,ma,rfl⟩:=atX.mp mx;obtain⟨b,mb,rfl⟩:=atX.mp my;refine NC (LZ a ma) (LZ b mb) (λz=>by rw[RG P4 ma mb z]) ?_;have e1:(JT es).g (gP a,gP a)=a.2.1:=by show(yY es a.1).2.1=_;rw[EK Gy ma]
   have e2:(JT es).g (gP b,gP b)=b.2.1:=by show(yY es b.1).2.1=_;rw[EK Gy mb]
   rw[<-e1,<-e2];exact hQ
 refine aLE ⟨_,rfl,?_⟩;obtain⟨os,eo,po,so⟩:=Gf Gy a1 a2;obtain⟨e,he⟩:=sortedHeap_at (out:=(arrOf st).map (·.2)) qc;have lo:=po.length_eq;have D0:H h'.objs.size=none:=(I.kept (t':=tk) hk').hok.fresh (aI1 _);have ndO:(os.map (·.1)).Nodup:=(po.map _).nodup_iff.mpr Gy;have nE:∀{b o},H b=some o->∀e∈es,e.1≠b:=λ{b o} z e m=>aAe (a7K (I.hok.lt z) (ab e m));have on:∀b o,H b=some o->upd (sO H es) h'.objs.size (.lst (os.map λe=>V.ref e.1)) b=some o:=λb o z=>by rw[Zc (Zf z D0),Tu (nE z)];exact z
 have Pc:∀b o,h'.get? b=some o->(sortedHeap (h'.push (seqObj "list" (es.map gP).toArray 0)) h'.objs.size (es.map gP) ((arrOf st).map (·.2))).get? b=some o:=λb o z=>by
  have lt:=aPy z;rw[sortedHeap_old (aor lt) (by rw[size_push'];exact aqa lt),aNy _ _ _ (aor lt)];exact z
 have I2:Inv X pins σ (upd (sO H es) h'.objs.size (.lst (os.map λe=>V.ref e.1))) { s with heap:=sortedHeap (h'.push (seqObj "list" (es.map gP).toArray 0)) h'.objs.size (es.map gP) ((arrOf st).map (·.2)),toks:=tk }:=by
  generalize sortedHeap (h'.push (seqObj "list" (es.map gP).toArray 0)) h'.objs.size (es.map gP) ((arrOf st).map (·.2))=hF at *;refine I.more (λb u z=>Pc _ _ (hk' _ _ z)) on (λb u z n=>?_) λb o n z=>?_
  .rw [Zc (aor (aPy (hk' _ _ z))),Tu λe m=>aAe (a7K (aPy z) (ab e m))];exact n
  by_cases c:b=h'.objs.size
  .subst c;rw[Za]at z;cases z;exact⟨by rw[apM,lo,le,aK9];lia,os.map gP,e,ZjV os,by rw[<-eo];exact he⟩
  .rw [Zc c]at z;unfold sO at z;cases y:es.find? λe=>e.1 ==b with
   |none=>rw[y]at z;rw[show H b=some o from z]at n;cases n
   |some x=>
    rw[y]at z;have mx:=List.mem_of_find?_eq_some y;have ex:x.1=b:=by simpa using List.find?_some y
    cases z;obtain⟨t,t',g⟩:=pk x mx;rw[<-ex];exact⟨by show 2<=sizeLine;decide,[.int x.2.1 t,.int x.2.2 t'],.cons ⟨t,rfl⟩ (.cons ⟨t',rfl⟩ .nil),_,Pc _ _ g,rfl,_,rfl⟩
 refine⟨.ref h'.objs.size,_,I2,rfl,q _ os _ D0 on Za (λx m=>?_) (by rw[<-ev];exact po.map _) ?_⟩
 .have mE:=po.mem_iff.mp m;refine⟨?_,by rw[Zc (aor (Qa x mE))];exact Ziu Gy mE⟩;cases c:H x.1 with
  |none=>rfl
  |some o=>exact absurd rfl (nE c x mE)
 .have Gx:(os.map λe=>e.2.1).Nodup:=(po.map _).nodup_iff.mpr P4;have:=aXi.mp Gx;exact(so.and this).imp λh=>by obtain⟨h1,h2⟩:=h;lia
end
inductive n8(xs:List V)(H:Hp)(Q:VK):Prop
 |mk (d:Addr) (kvs:List (Key×V)) (ns:List Int):xs=[.ref d]->H d=some (.dK kvs)->kvs.map Prod.fst=ns.map Sum.inl->ns.length<=1000000->(∀(D:Addr)(os:List Int),H D=none->os.Perm ns->os.Pairwise (·<=·)->Q (.ref D) (upd H D (.lst (os.map V.int))))->n8 xs H Q
section
variable{X:Cx}
theorem Zdk(hc:X.calm=true):aY X (.builtin "sorted") n8:=by
 intro pins s σ H xs us Q I r h;obtain⟨d,kvs,ns,rfl,hd,hk,hz0,q⟩:=h;obtain⟨u,rfl,rx⟩:=vals1 r;cases rx;obtain⟨hz,hs,vs,rv,hD⟩:=I.hok d _ hd;obtain⟨ep,hat⟩:=hD.dictAt;have hl:vs.length=ns.length:=by have l1:kvs.length=vs.length:=aL0 rv;have l2:=agz List.length hk;simp at l2;lia
 refine call_function_entry kind_sorted plain_sorted entry_sorted (args_sorted1 _) ?_;unfold Builtin.«sorted»;refine a3A (m:=checkCount "sorted" 1 1 _) (aLE ?_);refine a3A (kdu_collect (A:=X.A.in1) (kdl_dict (knd:=Zy X.prog X.w) (kvs:=vs) (ep:=ep) hs) (show X.A.in1.handled=none from I.ok.hd hc) hat (by rw[aK9];lia) λh' tk acc hk' hacc=>?_);have hv:=TY rv hk hacc;have la:acc.toList.length=ns.length:=by rw[apo,hacc.1,hl]
 generalize acc.toList=its at *;refine a3A (aE7 ?_ (by rw[la,aK9];lia));have qc:(h'.push (seqObj "list" its.toArray 0)).get? h'.objs.size=some (seqObj "list" its.toArray 0):=awu _ rfl;have I1:=I.kept (t':=tk) hk';show wpAny _ _ _ _ _ { s with heap:=h'.push (seqObj "list" its.toArray 0),toks:=tk };refine a3A (aPf (aXd slot_list_sort ⟨_,qc,rfl⟩ entry_list_sort (RK (s:={ s with heap:=h'.push (seqObj "list" its.toArray 0),toks:=tk }) (κ:=oneType') (ρ:=En) qc (by lia) (λtwo=>⟨λE Q hQ=>?_,λx mx y my E Q hQ=>?_⟩) λst hp hs=>⟨_,rfl,?_⟩) (args_list_sort _)))
 .have hkk:keyKind' its.toArray=pure oneType':=by
   obtain⟨v1,v2,rest,e⟩:=Z8 two;rw[e]at hv ⊢;exact keyKind_ints hv
  rw[hkk];exact aLE hQ
 .obtain ⟨a,t,ea⟩:=hv.intKeys x mx;obtain⟨b,t',eb⟩:=hv.intKeys y my;rw[ea,eb];refine W.kat_lt_int ?_;have e1:En.g x=a:=by unfold En;dsimp only;rw[ea]
  have e2:En.g y=b:=by unfold En;dsimp only;rw[eb]
  rw[e1,e2]at hQ;exact hQ
 refine aLE ⟨_,rfl,?_⟩;obtain⟨ns',h1,h2,h3⟩:=sorted_out hv hp (λi j hij hj=>by rw[<-RJ,<-RJ];exact hs i j (acY _) hij hj);generalize(arrOf st).map (·.2)=out at *;obtain⟨e,he⟩:=sortedHeap_at (out:=out) qc;have fr:H h'.objs.size=none:=I1.hok.fresh (aI1 _);have lo:=h2.length_eq;refine⟨.ref h'.objs.size,_,I1.laid (a:=h'.objs.size) (t':=tk) (o:=.lst (ns'.map V.int)) (λb o z=>?_) (aI1 _) ⟨by rw[apM,lo,aK9];lia,out.toList,e,Jf h1,he⟩,rfl,q _ ns' fr h2 h3⟩;have z':h'.get? b=some o:=z;have lt:=aPy z';rw[sortedHeap_old (aor lt) (by rw[size_push'];exact aqa lt),aNy _ _ _ (aor lt)];exact z'
end
end L2
set_option maxHeartbeats 4000000
namespace L2
open PySem PySem.Spec PyProof.Rows
section
variable{X:Cx}
def Wj(K:W.Frag)(zs:List Int):TE:=λ_ H Q=>∀a,(∀H,aP K H a (zs.map V.int))->Q (.ref a) H
theorem Tt{K:W.Frag}{x:Str}{zs:List Int}{pos:Pos}(hK:X.K=K)(h:∃a,X.mg x=some (.ref a)/\∀H,aP K H a (zs.map V.int))(hg:Gl X x)(hd:(x ==("__debug__":Str))=false:=by decide):PE X (.Name x pos) (Wj K zs):=by
 obtain⟨a,e,q⟩:=h;intro pins s σ H Q I hw;exact K6 I hg e ⟨.ref a,H,I,rfl,hw a q⟩ hd
end
end L2
namespace bL
open PySem L2
theorem sL(n:Nat)(h:n ≤99:=by decide):n ≤sizeLine:=atR h (by rw[aK9];decide)
variable{P:Program}{w:World}{K:W.Frag}{mg:Str->Option Value}{base:Heap}
def top(i:Nat):Stmt:=PySem.Challenge.pw_nearstairs_k69_whole_two_hands.main.body.getD i (.Pass ⟨0,0,0,0⟩)
theorem Ws{N P:List Str}{sc:Scope}(a:sc.kind=.function:=by rfl)(b:sc.isCoroutine=false:=by rfl)(c:sc.isGenerator=false:=by rfl)(d:N.Nodup:=by decide +kernel)(e:N.take P.length=P:=by rfl)(f:∀x∈P,sc.names.lookup x=some .local\/sc.names.lookup x=some .cell:=by decide +kernel)(g:∀y∈sc.names,y.2≠.free:=by decide +kernel):fL N P sc:=⟨a,b,c,d,e,f,g⟩
open Lean in
local macro_rules|`(command|#reduce 1)=>do
 let mut r:Array (TSyntax `command):=#[]
 for x in "kZ D8 tH qC 1 99 2 size spot;kW D4 tF qA 2 99 2 size board first;kX D5 tG qB 3 99 2 shelves board;fk rW rT oV 11 0 4 self shelves places rule;k7 Ea tL qE 11 1 2 self board;iu AO pY mR 11 2 2 self board out;k6 D9 tK qD 11 3 2 self board mates;jC Co rV oW 11 4 2 self board;gb zu nI kQ 11 5 1 self;jB Cn rS oS 11 7 2 self board;ir AN pX mQ 11 8 2 self board;cQ vd iJ gw 11 9 2 self board mates;aS iM cz fX 11 10 2 self mates;ie AL pV mL 13 0 2 self room_plan shelves places rule writing;jz Ck rQ oQ 13 1 2 self board;dS wz j8 iO 13 2 3 self board words;dF vQ jm gY 13 3 2 self board;dz vN ji gV 13 4 2 self board;jy Cj rP oO 13 5 3 self board words;dB vO jj gW 13 6 4 self board at word;dD vP jk gX 13 7 2 self board;dU wA j9 iP 13 8 2 self board;eZ yN lX jM 13 9 2 self board;gf zv nJ kR 14 0 2 self size;bO iN iK gy 14 2 2 self board;iw AQ pZ mS 14 3 3 self board words spot word;fm yS mz jR 14 4 1 self;bz p7 cy mP 16 0 3 self size room_plans;ig AM pW mO 16 1 2 self k;dY wD kj iS 16 2 2 self k;fY zo nF kO 16 3 3 self k board;fc yP lZ jO 16 4 1 self;fZ zp nG kP 16 5 2 self k;dH vS jo g6 16 6 1 self events;fh yQ mj jP 16 7 3 self k board;cF tN gK fM 16 8 2 self k;e8 yO lY jN 16 9 3 self k board;dX wC kh iR 16 10 4 self k board words;fj yR mw jQ 16 11 3 self k board;jA Cm rR oR 16 12 4 self k board words;dW wB kg iQ 16 13 3 self k spot;dG vR jn gZ 16 14 4 self k spot word;gh zx nL kU 20 0 4 self size near far;gg zw nK kT 20 1 3 self hand spot;fq yT mC jS 20 2 4 self hand spot word board other near;dI vU jq g9 20 3 1 self hand board words fresh;cu se fV eY 20 4 3 self hand board out;cH tP gO fO 20 5 2 self board out;bX rX fD d9 20 6 3 self hand board near;ck sd fU eX 20 7 3 self hand board words fresh;cG tO gM fN 20 8 2 self board words fresh hand words_near fresh_near;cR ve iL gA 20 9 3 self board words far;Bl UQ Jl Cw 22 99 2 _law_script _law_k _law_cell;xw OV DT zG 23 99 2 _law_box_here _law_size _law_found _law_step _law_once _law_twice;qF Js yL vp 24 99 2 _law_script _law_size _law_cells _law_k _law_cell;s_same D6 gJ uw 25 99 2 _law_found _law_due;jw Cg rN oK 26 99 1 _law_box_here _law_far _law_shelves _law_places _law_rule;sE D7 DU zH 27 99 1 _law_box_here _law_kind _law_size;cW nM ny kK 28 99 2 _law_box_here _law_size _law_many_here _law_way _law_begin _law_first _law_found _law_far _law_k _law_at;xu OU DR zF 29 99 1 _law_box_here _law_way _law_number _law_turn;xC O0 DZ zM 30 99 3 _law_box_here _law_size _law_some _law_write _law_spot;xA OY DW zK 31 99 3 _law_box_here _law_few _law_most _law_great;xx OX DV zJ 32 99 1 _law_box_here _law_size _law_kind _law_rooms;jx Ci rO oM 33 99 3 _law_box_here _law_size _law_some _law_hand;xB OZ DY zL 34 99 3 _law_pair_here _law_hand _law_deed_here;kY yM yK vn 35 99 3 _law_book _law_size _law_board;aZ bV nC kN 36 99 5 _law_pair_here _law_board _law_due _law_lies _law_marks _law_near _law_is_changed;bG cZ nA kL 37 99 4 _law_pair_here _law_specs _law_some _law_book _law_lies _law_marks;cE mD lW jL 38 99 3 _law_pair_here _law_size _law_some _law_due _law_board;bT gm nB kM 39 99 1 _law_held _law_k _law_told _law_text;oX AK AJ xo 40 99 1 _law_box_here _law_specs _law_held _law_some _law_pair_here _law_book _law_turn _law_hand _law_deed_here _law_word_here _law_events;ic Jr vc Cv 41 99 1 _law_script _law_cells".splitOn ";" do
  let z:=x.splitOn " "
  let f:=λi=>mkIdent (.mkSimple z[i]!)
  let d:=λi=>Syntax.mkNumLit z[i]!
  let [s,n,p,c]:=[f 0,f 1,f 2,f 3]|Macro.throwUnsupported
  let q:TSyntaxArray `term:=((z.drop 7).map quote).toArray
  let e<-if z[5]! =="99" then `(top $(d 4)) else `(ZjH (top $(d 4)) $(d 5))
  r:=r++#[<-`(command|abbrev $s:ident:Stmt:=$e),<-`(command|abbrev $n:ident:List Str:=[$q,*]),<-`(command|abbrev $p:ident:List Str:=($n).take $(d 6)),<-`(command|theorem $c:ident:fL $n $p (Zq $s):=Ws)]
 return mkNullNode r
#reduce 1
set_option hygiene false
open Lean in
local macro_rules|`(command|example:($t):=$v)=>do
 let `(by $q:tacticSeq):=v|Macro.throwUnsupported
 let `($o $a*):=t|Macro.throwUnsupported
 let u:=("cA - xw zG DT _law_take _law_take 1 wM;Hg - kX qB tG shelf_of shelf_of 1 t7;xO Room k7 qE tL has Room.has 1 Bg K;xH Room jB oS rS need Room.need 2 wU K;uG Room ir mQ pX mates Room.mates 2 ue K;Bx Room cQ gw iJ leaver_for Room.leaver_for 3 qq K;A3 Room jC oW rV drop Room.drop 3 xg K;GQ Room fk oV rT __init__ Room.__init__ 1 wO K;Fl Room iu mR pY bring Room.bring 4 uq K;A2 Store jy oO rP lay Store.lay 1 Be K;AZ - kW qA tF spots_of spots_of 1 tZ;Ff Memory bO gy iK words_of Memory.words_of 2 qp K;xJ Beside fZ kP nG store Steps.store 1 qk K;uH Store dz gV ji words_of Store.words_of 3 nS K;GZ Room k6 qD tK use Room.use 3 A8 K;E9 Store dS iO j8 take_in Store.take_in 5 qi K;Fe Store dF gY jm give_out Store.give_out 4 nX K;Fj Memory iw mS pZ lay Memory.lay 2 wW K;uE - kZ qC tH board_of board_of 1 ur;Fd Store dB gW jj lay_word Store.lay_word 1 nV K;GU Store ie mL pV __init__ Store.__init__ 3 tY K;GY Memory gf kR nJ __init__ Memory.__init__ 1 Bc K;vY Beside jA oR rR put Steps.put 3 Ba K;Bw Store dU iP j9 freshen Store.freshen 1 nY K;sF Beside fj jQ mw go_out Steps.go_out 5 ug K;xM Beside cR gA iL put_down Beside.put_down 4 uh K;Fc Store dD gX jk is_fresh Store.is_fresh 1 nW K;E6 Store eZ jM lX settle Store.settle 1 ql K;uF Store jz oQ rQ has Store.has 2 wN K;zV Beside cF fM gK tell_found Steps.tell_found 1 wL K;Bu Beside e8 jN lY use_in Steps.use_in 4 tX K;Bt Beside fh jP mj leaver Steps.leaver 4 wY K;F5 Beside cG fN gM leave_all Beside.leave_all 6 qu K;Bv Beside dX iR kh come_in Steps.come_in 6 qx K;rZ Beside fY kO nF words Steps.words 4 qj K;F3 Beside cH fO gO fetch_far Beside.fetch_far 7 wZ K;F6 Beside bX d9 fD settle_near Beside.settle_near 5 nT K;BA Beside ck eX fU leave_near Beside.leave_near 6 qt K;By Beside cu eY fV fetch_near Beside.fetch_near 8 w6 K;E8 Beside dW iQ kg word_in Steps.word_in 4 qh K;xK Beside dH g6 jo happened Steps.happened 1 kJ K;Fb Beside dG gZ jn put_word Steps.put_word 2 nU K;E2 Room gb kQ nI boards Room.boards 1 Bj K;zW Beside ig mO pW lies Steps.lies 2 wX K;A1 - jw oK rN _law_room_plan _law_room_plan 2 wQ;GO - xu zF DR _law_word _law_word 2 tW;GN - sE zH DU _law_plan _law_plan 3 uc K;GL - xC zM DZ _law_deed _law_deed 3 uo;E1 Beside gg kT nK read Beside.read 15 ua K;E5 Beside fq jS mC write Beside.write 15 qg K;E4 Memory fm jR mz pairs Memory.pairs 1 ud K;E7 Beside dY iS kj changed Steps.changed 2 nZ K;GX - kY vn yK _law_newest _law_newest 1 qm K;EZ - aZ kN nC _law_board_right _law_board_right 6 Bk K;BC Beside fc jO lZ memory Steps.memory 2 qo K;Hr - xx zJ DV _law_pair _law_pair 4 wR;EY - cW kK ny _law_some_boards _law_some_boards 2 qy;Hh - jx oM rO _law_hand_deed _law_hand_deed 4 uf;Hq - xA zK DW _law_many _law_many 2 wV;GW Beside gh kU nL __init__ Beside.__init__ 6 xj K;Ho - xB zL DY _law_done _law_done 16 xh K;EX - bG kL nA _law_rooms_right _law_rooms_right 7 A9 K;E3 - cE jL lW _law_memory_right _law_memory_right 7 Bb K;Eo Beside dI g9 jq emptied Beside.emptied 7 w9 K;Fp - bT kM nB _law_lists_apart _law_lists_apart 2 Bf K;Hl - Bl Cw Jl _law_box _law_box 1 Bh K;GV - qF vp yL _law_folded _law_folded 1 qw K;GS - oX xo AJ _law_right _law_right 18 t9 K;lD - bz mP cy __init__ Steps.__init__ 5 ku K;Ag - ic Cv vc law law 19 qv K".splitOn ";").map (·.splitOn " ")
 let f:=λx:Syntax=>(u.find? λr=>r.head! ==toString x.getId).getD []
 let i:=λs=>mkIdent (.mkSimple s)
 let g:=λ(z:List String)=>show MacroM Term from if z.length=10 then `($(i z[8]!) K) else pure (i z[8]!)
 let b<-(a.extract 1 a.size).mapM λ(x:TSyntax `term)=>do
  let y:=#[(⟨x.raw⟩:Ident)]
  match x.raw.getId,f x with
  |`Fi,_=>`(Parser.Term.bracketedBinderF|(Fi:vV P w K mg base (af K "Room") "going" 2 cz (kB K)))
  |`Fg,_=>`(Parser.Term.bracketedBinderF|(Fg:Ef P w K mg base "Steps" "__init__" 5 cy (ku K)))
  |`C7,_=>`(Parser.Term.bracketedBinderF|(C7:∀n,Def P w K mg base "_law_same" (n+1) gJ (gT n)))
  |_,[]=>Macro.throwUnsupported
  |_,z=>
   let c:=Syntax.mkStrLit z[1]!
   let n:=Syntax.mkStrLit z[5]!
   let l:=Syntax.mkNumLit z[7]!
   let p:=i z[4]!
   let s<-g z
   if z[1]! =="-" then `(Parser.Term.bracketedBinderF|($y*:Def P w K mg base $n $l $p $s)) else if z[5]! =="__init__" then `(Parser.Term.bracketedBinderF|($y*:Eb P w K mg base (af K $c) $c $l $p $s)) else `(Parser.Term.bracketedBinderF|($y*:vV P w K mg base (af K $c) $n $l $p $s))
 let z:=f a[0]!
 let [s,c,p]:=[i z[2]!,i z[3]!,i z[4]!]|Macro.throwUnsupported
 let [n,m]:=[Syntax.mkStrLit z[5]!,Syntax.mkStrLit z[6]!]|Macro.throwUnsupported
 let l:=Syntax.mkNumLit z[7]!
 let h<-g z
 `(command|theorem $(⟨o⟩) (F:vf K $n $m $s f fd)(T:Txt K mg)$b:bracketedBinder*:cM P w K mg base p8 $l f fd $p ($h):=by
   refine F.ok $c (λvs H Q E h=>by first|(cases h;subst_vars;rfl)|repeat' first|(obtain⟨rfl,_⟩:=h;rfl)|obtain⟨_,h⟩:=h) λcdv A outer st H vs Q E hr h=>?_;have nd:=($c).nd;have hu:=BJ hr
   ($q))
structure Txt(K:W.Frag)(mg:Str->Option Value):Prop where
 Ke:mg "abs"=none
 C6:mg "all"=none
 Hj:mg "any"=none
 Kf:mg "bool"=none
 ME:mg "divmod"=none
 Ei:mg "enumerate"=none
 Et:mg "int"=none
 vZ:mg "isinstance"=none
 we:mg "len"=none
 wG:mg "list"=none
 JG:mg "max"=none
 Lr:mg "min"=none
 vh:mg "range"=none
 A4:mg "sorted"=none
 An:mg "str"=none
 GR:mg "tuple"=none
 JF:mg "zip"=none
 vF:∃t,mg "FAR"=some (.int 2 t)
 Kh:∃a,mg "HANDS"=some (.ref a)/\∀H,aP K H a (([0,1]:List Int).map V.int)
 fH:sj K (af K "Room")
 Ql:aQ K (af K "Room") "places"
 MB:aQ K (af K "Room") "rule"
 Qm:aQ K (af K "Room") "shelves"
 Qn:aQ K (af K "Room") "standing"
 Ct:aQ K (af K "Room") "uses"
 dQ:sj K (af K "Store")
 Eh:aQ K (af K "Store") "fresh"
 Hi:aQ K (af K "Store") "held"
 MC:aQ K (af K "Store") "late"
 BB:aQ K (af K "Store") "room"
 xN:sj K (af K "Memory")
 Fo:aQ K (af K "Memory") "kept"
 MD:aQ K (af K "Memory") "size"
 aL:sj K (af K "Beside")
 JH:aQ K (af K "Beside") "bottom"
 CG:aQ K (af K "Beside") "events"
 zU:aQ K (af K "Beside") "last"
 Cu:aQ K (af K "Beside") "size"
 qI:aQ K (af K "Beside") "stores"
structure aA(H:Hp)(b:Addr)(a q c:Int):Prop where
 at':H b=some (.lst [.int a,.int q,.int c])
 a0:0<=a
 q0:0<=q
 q1:q<2147483647
 c0:0<=c
theorem aA.sb{H H':Hp}{b x:Addr}{a q c:Int}(B:aA H b a q c)(s:SB x H H')(n:b≠x):aA H' b a q c:=⟨s _ _ n B.at',B.a0,B.q0,B.q1,B.c0⟩
theorem aA.same{H H':Hp}{b:Addr}{a q c:Int}(B:aA H b a q c)(s:av H H'):aA H' b a q c:=⟨s _ _ B.at',B.a0,B.q0,B.q1,B.c0⟩
inductive wM(vs:List V)(H:Hp)(Q:VK)(E:XK):Prop
 |mk (b:Addr) (a q c n:Int):vs=[.ref b,.int n]->aA H b a q c->c<1099511627776->0<n->n<1073741824->(∀(r a' c':Int)(H':Hp),0<=r->r<n->aA H' b a' q c'->c'<=c+1->SB b H H'->Q (.int r) H')->wM vs H Q E
theorem Dp(a:Int){b:Int}(h:0<b):0<=a%b:=avQ a (by lia)
theorem zd(a:Int){b:Int}(h:0<b):a%b<b:=aGX a h
example:(Ac cA):=by
 obtain ⟨b,a,q,c,n,rfl,B,hc,hn0,hn1,k⟩:=h;refine⟨_,(Ze (aE (Zu xW (ak (Zl (K:=K) rfl) (pv 0) Zi (λ_ _=>rfl)) Zi (Zw _)) (Ze (rJ (Zo Zeo rfl T.ME Zer (pc (ak (Zl (K:=K) rfl) (pv 0) Zi (λ_ _=>rfl)) (pc (pv 1) Zb))) (ZD (K:=K) (n:=2) rfl rfl (Zn (DJ (pv 0) Zi DO) (Zn (bE 2 nd) ZC))))
   (Zg (Zs (pv 2)))) Zt)
   (Ze (rJ (aj ZJ (ak (Zl (K:=K) rfl) (pv 0) Zi (λ_ _=>rfl)) Zi) (DJ (pv 0) Zi DO))
   (Ze (cX 3 nd (aj ZJ Zi (aj sZ (ak (Zl (K:=K) rfl) (pv 0) Zi (λ_ _=>rfl)) (ak (Zl (K:=K) rfl) (pv 0) Zi (λ_ _=>rfl)))))
   (Ze (cX 4 nd (aj vK (aj sZ (aj ZJ (ak (Zl (K:=K) rfl) (pv 0) Zi (λ_ _=>rfl)) (aj sZ Zi (ak (Zl (K:=K) rfl) (pv 0) Zi (λ_ _=>rfl)))) (pv 3)) Zi))
   (Ze (cX 5 nd (aj vK (aj ZJ (aj sZ (pv 4) (aj ZJ (aj vK (pv 4) Zi) Zi)) (ak (Zl (K:=K) rfl) (pv 0) Zi (λ_ _=>rfl))) Zi))
   (Zg (Zs (aj vK (aj EN (aj vK (aj sZ (pv 5) (aj ZJ (aj vK (pv 5) Zi) Zi)) Zi) Zi) (pv 1))))))))),?_⟩
 have hb:=B.at';have hc0:=B.c0;have Qx:=B.q0;have hq1:=B.q1;refine⟨_,rfl,b,_,_,_,rfl,rfl,ao.of hb,cO,_,_,rfl,rfl,_,rfl,?_⟩;refine yE (λha=>?_) (λha=>?_)
 .refine ⟨_,rfl,b,_,_,_,rfl,rfl,ao.of hb,cO,_,rfl,_,_,rfl,⟨hn0,hn1⟩,λp hp=>?_⟩;have Yg:upd H p (.tup [.int (a/n),.int (a%n)]) b=some (.lst [.int a,.int q,.int c]):=by rw[Zc (Zf hb hp)];exact hb
  refine⟨p,_,rfl,aP.of Za,rfl,_,_,rfl,⟨_,rfl,b,_,_,0,rfl,rfl,Yg,rfl,?_⟩⟩;refine⟨_,_,rfl,rfl,_,rfl,?_⟩;exact k _ (a/n) c _ (Dp _ hn0) (zd _ hn0) ⟨Za,Int.ediv_nonneg B.a0 (by lia),Qx,hq1,hc0⟩ (by lia) ((Zd hp _).sb b|>.trans (EH b _ _))
 .refine ⟨_,rfl,b,_,_,_,rfl,rfl,ao.of hb,je,_,_,rfl,rfl,_,rfl,b,_,_,2,rfl,rfl,hb,rfl,?_⟩;have hb1:upd H b (.lst [.int a,.int q,.int (c+1)]) b=some (.lst [.int a,.int q,.int (c+1)]):=Za;have i0:ao K (upd H b (.lst [.int a,.int q,.int (c+1)])) b [.int a,.int q,.int (c+1)]:=ao.of hb1;refine⟨_,rfl,b,_,_,_,rfl,rfl,i0,je,_,rfl,b,_,_,_,rfl,rfl,i0,je,_,_,rfl,rfl,.inl ⟨by lia,by lia⟩,_,_,rfl,rfl,?_⟩;refine⟨_,rfl,b,_,_,_,rfl,rfl,i0,gI,_,rfl,b,_,_,_,rfl,rfl,i0,je,_,_,rfl,rfl,.inl ⟨by decide,by decide⟩,_,_,rfl,rfl,_,rfl,_,_,rfl,rfl,.inl ⟨by lia,by lia⟩,_,_,rfl,rfl,(by show(0:Int)<_;decide),?_⟩;generalize Qz:(q+39373*(c+1))*(69621+(c+1)*(c+1))%2147483587=on;have on0:0<=on:=by rw[<-Qz];exact Dp _ (by decide)
  have on1:on<2147483587:=by rw[<-Qz];exact zd _ (by decide)
  refine⟨_,rfl,_,rfl,_,_,rfl,rfl,(by show(0:Int)<_;decide),_,_,rfl,rfl,_,_,rfl,rfl,.inl ⟨by lia,by lia⟩,_,rfl,b,_,_,_,rfl,rfl,i0,je,_,_,rfl,rfl,_,_,rfl,rfl,(by show(0:Int)<_;decide),?_⟩;generalize htw:(on*(on%30011+5)+(c+1))%2147483563=tw;have tw0:0<=tw:=by rw[<-htw];exact Dp _ (by decide)
  have tw1:tw<2147483563:=by rw[<-htw];exact zd _ (by decide)
  refine⟨_,rfl,_,rfl,_,_,rfl,rfl,(by show(0:Int)<_;decide),_,_,rfl,rfl,_,_,rfl,rfl,.inl ⟨by lia,by lia⟩,_,_,rfl,rfl,(by show(0:Int)<_;decide),_,_,rfl,rfl,⟨by decide,by decide⟩,_,rfl,_,_,rfl,rfl,hn0,?_⟩;exact k _ a (c+1) _ (Dp _ hn0) (zd _ hn0) ⟨hb1,B.a0,Qx,hq1,by lia⟩ (by lia) (EH b _ _)
inductive Bh(K:W.Frag)(vs:List V)(H:Hp)(Q:VK)(E:XK):Prop
 |mk (l:Addr) (ns:List Int) (k:Int):vs=[.ref l,.int k]->ao K H l (ns.map V.int)->0<=k->k<1000000->(∀(r:Addr)(a q:Int)(H':Hp),H r=none->av H H'->aA H' r a q 0->Q (.ref r) H')->Bh K vs H Q E
theorem BH(b:Bool): -(2 ^ 64)<(if b then 1 else 0:Int)/\(if b then 1 else 0:Int)<2 ^ 64:=by cases b <;> decide
theorem Tr{ns:List Int}{k:Int}(h0:0<=k)(h:k<(ns.length:Int)):∃v:Int,eG (ns.map V.int) k=some (.int v):=by
 have hk:k.toNat<ns.length:=by lia
 have q:eG (ns.map V.int) ((k.toNat:Nat):Int)=some (.int ns[k.toNat]):=wm (by rw[afQ,a4h hk] <;> rfl);rw[show((k.toNat:Nat):Int)=k by lia]at q;exact⟨_,q⟩
theorem Z7(i:Int):0<=(if i<0 then -i else i):=by split <;> lia
theorem Sy(i:Int)(b:Bool):0<=(if i<0 then -i else i)*(if b then 1 else 0:Int):=Int.mul_nonneg (Z7 i) (by cases b <;> decide)
example:(CL Hl):=by
 obtain ⟨l,ns,k,rfl,hS,hk0,hk1,kk⟩:=h;refine⟨_,(Ze (cX 2 nd (DP (Zu qL (pv 1) (Zo (ZF (K:=K) rfl) rfl T.we aUV (pc (pv 0) Zb)) (Zw _)) (ak (Zl (K:=K) rfl) (pv 0) (pv 1) (λ_ _=>rfl)) Zi))
   (Zg (Zs (ZV (pc (aj sZ (Zo Ue rfl T.Ke T6 (pc (pv 2) Zb)) (ZE OM rfl T.Et La (pc (ZP Gj (Zo Ue rfl T.Ke T6 (pc (pv 2) Zb)) (aj NQ Zi Zi) (Zw _)) Zb))) (pc (aj vK (aj sZ (aj ZJ (aj ZJ (aj vK (pv 2) Zi) (aj sZ Zi (pv 1))) Zi) Zi) Zi) (pc Zi Zb))))))),?_⟩
 refine⟨_,rfl,_,rfl,l,_,rfl,.inl hS,_,_,rfl,rfl,_,rfl,?_⟩;refine yE (λc=>?_) (λc=>?_)
 .rw [apM]at c;obtain⟨v,hv⟩:=Tr hk0 c;refine⟨_,rfl,_,rfl,l,_,_,_,rfl,rfl,hS,hv,?_⟩;refine⟨_,rfl,_,rfl,_,rfl,_,rfl,_,_,rfl,rfl,⟨by decide,by decide,by decide⟩,_,_,rfl,rfl,.inr ⟨_,rfl,_,_,rfl,rfl,.inr (BH _),?_⟩⟩;refine⟨_,rfl,_,_,rfl,rfl,(by show(0:Int)<_;decide),_,rfl,_,_,rfl,rfl,.inl ⟨by decide,by decide⟩,_,_,rfl,rfl,_,_,rfl,rfl,_,_,rfl,rfl,.inr ⟨by decide,by decide⟩,_,_,rfl,rfl,(by show(0:Int)<_;decide),(sL 3),λr hr=>?_⟩;exact kk r _ _ _ hr (Zd hr _) ⟨Za,Sy _ _,Dp _ (by decide),zd _ (by decide),aK8 _⟩
 .refine ⟨_,rfl,_,rfl,_,rfl,_,rfl,_,_,rfl,rfl,⟨by decide,by decide,by decide⟩,_,_,rfl,rfl,.inr ⟨_,rfl,_,_,rfl,rfl,.inr (BH _),?_⟩⟩;refine⟨_,rfl,_,_,rfl,rfl,(by show(0:Int)<_;decide),_,rfl,_,_,rfl,rfl,.inl ⟨by decide,by decide⟩,_,_,rfl,rfl,_,_,rfl,rfl,_,_,rfl,rfl,.inr ⟨by decide,by decide⟩,_,_,rfl,rfl,(by show(0:Int)<_;decide),(sL 3),λr hr=>?_⟩;exact kk r _ _ _ hr (Zd hr _) ⟨Za,Sy _ _,Dp _ (by decide),zd _ (by decide),aK8 _⟩
inductive qw(K:W.Frag)(vs:List V)(H:Hp)(Q:VK)(E:XK):Prop
 |mk (a:Addr) (ns:List Int) (n:Nat):vs=[.ref a,.int (n:Int)]->ao K H a (ns.map V.int)->ns.length<=63->0<n->n<=63->(∀(r:Addr)(ms:List Int)(H':Hp),H r=none->av H H'->H' r=some (.lst (ms.map V.int))->ms.length=min n ns.length->Q (.ref r) H')->qw K vs H Q E
theorem Sx(ns:List Int)(lo hi:Option Int):lV (ns.map V.int) lo hi=((ns.drop (HT.jD ns.length 0 lo)).take (HT.jD ns.length ns.length hi-HT.jD ns.length 0 lo)).map V.int:=by
 unfold lV;rw[apM,<-List.map_drop,<-List.map_take]
theorem Lc(ms:List Int)(j:Nat)(v:Int):(ms.map V.int).set j (.int v)=(ms.set j v).map V.int:=by rw[map_set]
theorem NL{n:Nat}{i:Int}(h0:0<=i)(h:i<n):uN n i=some i.toNat:=by unfold uN;rw[auJ h0,auJ h]
theorem Z6{ms:List Int}{i:Nat}{x:V}(h:(ms.map V.int)[i]?=some x):∃z,x=V.int z/\i<ms.length:=by
 rw[afQ]at h;cases e:ms[i]? with
 |none=>rw[e]at h;cases h
 |some z=>rw[e]at h;exact⟨z,(asK h).symm,(ajE.mp e).1⟩
example:(vz GV):=by
 obtain ⟨a,ns,n,rfl,hS,h63,hn0,hn1,k⟩:=h;refine⟨_,(Ze (cX 2 nd (ZE (Lj (K:=K) rfl) rfl T.wG ZR (pc (OG (OE (K:=K) rfl) (pv 0) SY (K4 (pv 1))) Zb)))
   (Ze (yG aAH rfl (K3 rfl T.Ei (pc (OG (OE (K:=K) rfl) (pv 0) (K4 (pv 1)) (K4 Zi)) Zb)) (ZD (K:=K) (n:=2) rfl rfl (Zn (bE 3 nd) (Zn (bE 4 nd) ZC))) (Zg (rJ (aj ZJ (ak (Zl (K:=K) rfl) (pv 2) (aj vK (pv 3) (pv 1)) (λ_ _=>rfl)) (aj sZ (pv 4) (aj ZJ (pv 3) Zi))) (DJ (pv 2) (aj vK (pv 3) (pv 1)) DO))))
   (Zg (Zs (pv 2))))),?_⟩
 refine⟨_,rfl,_,rfl,_,rfl,a,_,rfl,hS,λp hp=>?_⟩;have s1:=Zd hp (.lst (lV (ns.map V.int) none (some (n:Int))));refine⟨p,_,rfl,.inl (ao.of Za),λr hr1=>?_⟩;have s2:=s1.trans (Zd hr1 (.lst (lV (ns.map V.int) none (some (n:Int)))));have Qw:H r=none:=s1.free hr1;rw[Sx]at *;generalize hms:(ns.drop (HT.jD ns.length 0 none)).take (HT.jD ns.length ns.length (some (n:Int))-HT.jD ns.length 0 none)=ms at *;have Xs:ms.length=min n ns.length:=by
  rw[<-hms,HT.xD,HT.uz,bc6,a6U];lia
 generalize Ym:upd (upd H p (.lst (ms.map V.int))) r (.lst (ms.map V.int))=H2 at *;have QO:H2 r=some (.lst (ms.map V.int)):=by rw[<-Ym];exact Za
 refine⟨_,rfl,_,rfl,_,rfl,_,rfl,a,_,rfl,s2.seq hS,λt ht=>?_⟩;rw[Sx];generalize hws:(ns.drop (HT.jD ns.length 0 (some (n:Int)))).take (HT.jD ns.length ns.length (some 63)-HT.jD ns.length 0 (some (n:Int)))=ws;have ye:0<ws.length->n<ns.length:=λh=>by
  rw[<-hws,bc6,a6U,HT.uz]at h;lia
 have Xo:ws.length<=63:=by rw[<-hws,bc6,a6U];lia
 have s3:=s2.trans (Zd ht (.lst (ws.map V.int)));have PL:r≠t:=Zf QO ht;refine⟨t,rfl,⟨_,ao.of Za⟩,T5 (K:=K) (a:=t) (xs:=ws.map V.int) (λi σ H'=>∃(ms':List Int)(v3 v4:Option V),σ=[some (.ref a),some (.int n),some (.ref r),v3,v4]/\ms'.length=min n ns.length/\H' r=some (.lst (ms'.map V.int))/\H' t=some (.lst (ws.map V.int))/\av H H')
  ⟨ms,none,none,rfl,Xs,by rw[Zc PL];exact QO,Za,s3⟩ (λi σ H' _ ⟨_,_,_,_,_,_,q,_⟩=>ao.of q) ?_ ?_⟩
 .rintro i x u σ H' hi ⟨ms',v3,v4,rfl,lm,h1,h2,s4⟩ hu;obtain⟨z,rfl,hlt⟩:=Z6 hi;have hnl:=ye (by lia);have s5:=Zd hu (.tup [.int (i:Int),.int z]);refine⟨u,_,rfl,aP.of Za,rfl,_,_,rfl,_,_,rfl,rfl,?_⟩;have m0:0<=(i:Int)%(n:Int):=Dp _ (by lia);have m1:(i:Int)%(n:Int)<(n:Int):=zd _ (by lia);obtain⟨v,hv⟩:=Tr (ns:=ms') m0 (by lia);refine⟨_,rfl,_,rfl,_,rfl,_,_,rfl,rfl,(by show(0:Int)<_;lia),r,_,_,_,rfl,rfl,ao.of (s5 _ _ h1),hv,?_⟩;refine⟨_,rfl,_,rfl,_,_,rfl,rfl,_,_,rfl,rfl,.inr ⟨by lia,by lia⟩,_,_,rfl,rfl,?_⟩;refine⟨_,rfl,_,rfl,_,rfl,_,_,rfl,rfl,(by show(0:Int)<_;lia),r,_,_,((i:Int)%(n:Int)).toNat,rfl,rfl,s5 _ _ h1,NL m0 (by rw[apM];lia),?_⟩;refine⟨ms'.set ((i:Int)%(n:Int)).toNat (v+z*((i:Int)+2)),_,_,rfl,by rw[ail];exact lm,by rw[Za,Lc],?_,?_⟩
  .rw [Zc (aWz PL)];exact s5 _ _ h2
  .intro b o e;rw[Zc (Zf e Qw)];exact s5 _ _ (s4 _ _ e)
 .rintro σ H' ⟨ms',v3,v4,rfl,lm,h1,h2,s4⟩;exact⟨_,rfl,k r ms' H' Qw s4 h1 lm⟩
theorem hide{t u:TS}{D:Ends}{σ:St}{H:Hp}(h:∀u',u'=u->wK t u' D σ H):wK t u D σ H:=h u rfl
theorem Kw{te:TE}{g:TG}{u:TS}{D:Ends}{σ:St}{H:Hp}(Post:V->Hp->Prop)(h1:∀Q':VK,(∀v H1,Post v H1->Q' v H1)->te σ H Q')(h2:∀v H1,Post v H1->g v σ H1 (u D)):wK (sy te g) u D σ H:=h1 _ h2
theorem Dv{ts u:TS}{D:Ends}{σ:St}{H:Hp}(Post:St->Hp->Prop)(h1:∀D':Ends,D'.rt=D.rt->(∀ σ1 H1,Post σ1 H1->D'.nx σ1 H1)->ts D' σ H)(h2:∀ σ1 H1,Post σ1 H1->u D σ1 H1):wK ts u D σ H:=h1 _ rfl h2
theorem rB{tt:TT}{ta tb:TS}{D:Ends}{σ:St}{H:Hp}(Post:Bool->Hp->Prop)(h1:∀Q':Bool->Hp->Prop,(∀v H1,Post v H1->Q' v H1)->tt σ H Q')(h2:∀c H1,Post c H1->if c=true then ta D σ H1 else tb D σ H1):FA tt ta tb D σ H:=h1 _ h2
theorem NB{t u:TT}{σ:St}{H:Hp}{Q:Bool->Hp->Prop}(Post:Bool->Hp->Prop)(h1:∀Q':Bool->Hp->Prop,(∀v H1,Post v H1->Q' v H1)->t σ H Q')(h2:∀c H1,Post c H1->if c=true then Q true H1 else u σ H1 Q):Ph t u σ H Q:=h1 _ h2
theorem Lb{b l:Addr}{H G:Hp}{xs:List V}(s:SB b H G)(hb:G b=some (.lst xs))(hl:G l=none):H l=none:=by
 cases e:H l with
 |none=>rfl
 |some o=>
  by_cases h:l=b
  .rw [h,hb]at hl;cases hl
  .rw [s _ _ h e]at hl;cases hl
theorem Z5{ns:List Int}{k:Int}(h0:0<=k)(h:k<(ns.length:Int)):∃v:Int,eG (ns.map V.int) k=some (.int v)/\v∈ns:=by
 have hk:k.toNat<ns.length:=by lia
 have q:eG (ns.map V.int) ((k.toNat:Nat):Int)=some (.int ns[k.toNat]):=wm (by rw[afQ,a4h hk] <;> rfl);rw[show((k.toNat:Nat):Int)=k by lia]at q;exact⟨_,q,aZd hk⟩
theorem TU(ns:List Int):(ns.map V.int).all cJ=true:=by
 rw[aT6];intro x hx;obtain⟨n,_,rfl⟩:=atX.mp hx;rfl
theorem Ziv{n:Nat}(h:0<n):uN n (-1)=some (n-1):=by
 unfold uN;rw[ale (by decide),auJ (by lia)];congr 1
 lia
theorem KY{ns:List Int}{j:Nat}{v x:Int}(h:x∈ns.set j v):x∈ns\/x=v:=by
 rcases ayR h with h|h
 .exact .inl h
 .exact .inr h
theorem Sw{i j:Int}{A B:Prop}(h1:i=j->A)(h2:¬i=j->B):if decide (V.int i=V.int j)=true then A else B:=
 yE (λe=>h1 (by injection e)) (λe=>h2 λz=>e (by rw[z]))
theorem bK{b:Bool}{A B:Prop}(h:b=false)(hB:B):if b=true then A else B:=by subst h;rw[ale a0V];exact hB
theorem cB{b:Bool}{A B:Prop}(h:b=true)(hA:A):if b=true then A else B:=by subst h;rw[auJ rfl];exact hA
theorem Oe{α:Type}{xs:List α}{i:Int}(h0:0<=i)(h1:i<(xs.length:Int)):∃v,eG xs i=some v/\v∈xs:=by
 have hk:i.toNat<xs.length:=by lia
 have q:eG xs ((i.toNat:Nat):Int)=some xs[i.toNat]:=wm (a4h hk);rw[show((i.toNat:Nat):Int)=i by lia]at q;exact⟨_,q,aZd hk⟩
theorem RE(x y:Int)(k:Bool):∃n:Int,eG [V.int x,V.int y] (if k=true then 1 else 0)=some (.int n)/\(n=x\/n=y):=by
 cases k with
 |true=>exact⟨y,gI,.inr rfl⟩
 |false=>exact⟨x,cO,.inl rfl⟩
theorem Gd(x y r:Int)(h0:0<=r)(h1:r<2):∃n:Int,eG [V.int x,V.int y] r=some (.int n)/\(n=x\/n=y):=by
 have h:r=0\/r=1:=by lia
 rcases h with rfl|rfl
 .exact ⟨x,cO,.inl rfl⟩
 .exact ⟨y,gI,.inr rfl⟩
theorem Z4(r:Int)(h0:0<=r)(h1:r<4):∃n:Int,eG [V.int 1,V.int 1,V.int 12,V.int 24] r=some (.int n)/\(n=1\/n=12\/n=24):=by
 obtain⟨x,hx,m⟩:=Oe (xs:=[V.int 1,V.int 1,V.int 12,V.int 24]) h0 (by show r<((4:Nat):Int);lia);simp only[afg,aNV,aQw]at m;rcases m with rfl|rfl|rfl|rfl
 .exact ⟨_,hx,.inl rfl⟩
 .exact ⟨_,hx,.inl rfl⟩
 .exact ⟨_,hx,.inr (.inl rfl)⟩
 .exact ⟨_,hx,.inr (.inr rfl)⟩
theorem Gb(r:Int)(h0:0<=r)(h1:r<5):∃v,eG [V.int 1,V.int 1,V.int 2,V.int 3,V.int 4] r=some (.int v)/\1<=v/\v<=64:=by
 obtain⟨x,hx,m⟩:=Oe (xs:=[V.int 1,V.int 1,V.int 2,V.int 3,V.int 4]) h0 (by show r<((5:Nat):Int);lia);simp only[afg,aNV,aQw]at m;rcases m with rfl|rfl|rfl|rfl|rfl <;> exact⟨_,hx,by decide,by decide⟩
def yI(z:Str):Prop:=z ="old" \/z ="come" \/z ="few"
theorem Ga(r:Int)(h0:0<=r)(h1:r<3):∃z:Str,eG [V.str "old",V.str "come",V.str "few"] r=some (.str z)/\yI z:=by
 obtain⟨x,hx,m⟩:=Oe (xs:=[V.str "old",V.str "come",V.str "few"]) h0 (by show r<((3:Nat):Int);lia);simp only[afg,aNV,aQw]at m;rcases m with rfl|rfl|rfl
 .exact ⟨_,hx,.inl rfl⟩
 .exact ⟨_,hx,.inr (.inl rfl)⟩
 .exact ⟨_,hx,.inr (.inr rfl)⟩
theorem Zhi{s:Int}(h0:1<=s)(h1:s<=16):555<=9999/s/\9999/s<=9999/\1<=(if 10000/s-480>1 then 10000/s-480 else 1)/\(if 10000/s-480>1 then 10000/s-480 else 1)+455<=9999/s:=by
 have key:∀n:Fin 17,1<=(n.val:Int)->(555<=9999/(n.val:Int)/\9999/(n.val:Int)<=9999/\1<=(if 10000/(n.val:Int)-480>1 then 10000/(n.val:Int)-480 else 1)/\(if 10000/(n.val:Int)-480>1 then 10000/(n.val:Int)-480 else 1)+455<=9999/(n.val:Int)):=by decide +kernel
 have e:((⟨s.toNat,by lia⟩:Fin 17).val:Int)=s:=by show((s.toNat:Nat):Int)=s;lia
 have q:=key ⟨s.toNat,by lia⟩ (by rw[e];exact h0);rw[e]at q;exact q
def Lq(t:Int)(ns:List Int):Prop:=∀n∈ns,0<=n/\n<=t
theorem Ziw(z:Int)(ns:List Int):wg (.int z) (ns.map V.int)=decide (z∈ns):=by
 unfold wg;rw[any_map,a1D,any_eq_true,aJH];constructor
 .rintro ⟨x,hx,e⟩;have:x=z:=by simpa[sV]using e
  rw[<-this];exact hx
 .intro h;exact⟨z,h,by simp[sV]⟩
theorem RD:∀{l:List Int}{i:Nat}{a:Int},l.Nodup->a∉l->(l.set i a).Nodup
 | [],_,_,_,_=>.nil
 |x ::l,0,a,h,n=>agN.mpr ⟨λm=>n (asW _ m),(agN.mp h).2⟩
 |x ::l,i+1,a,h,n=>by
  obtain⟨h1,h2⟩:=agN.mp h;refine agN.mpr ⟨λm=>?_,RD h2 λm=>n (asW _ m)⟩;rcases KY m with m|m
  .exact h1 m
  .exact n (by rw[m];exact bcs)
theorem ZjX{ns:List Int}{i j:Nat}{x1 x2:Int}(h1:ns[j]?=some x1)(h2:ns[i]?=some x2)(nd:ns.Nodup):((ns.set i x1).set j x2).Nodup:=by
 have li:=(ajE.mp h2).1;have lj:=(ajE.mp h1).1;have inj:∀{a b:Nat}{v:Int},ns[a]?=some v->ns[b]?=some v->a=b:=λ{a b v} ha hb=>by
  obtain⟨la,ea⟩:=ajE.mp ha;obtain⟨lb,eb⟩:=ajE.mp hb;have pw:=ajQ.mp nd;rcases Nat.lt_trichotomy a b with h|h|h
  .exact absurd (ea.trans eb.symm) (pw a b la lb h)
  .exact h
  .exact absurd (eb.trans ea.symm) (pw b a lb la h)
 have get:∀p,((ns.set i x1).set j x2)[p]?=ns[if p=j then i else if p=i then j else p]?:=λp=>by
  by_cases e:p=j
  .rw [auJ e,e,a7U (by rw[ail];exact lj),h2]
  .rw [ale e,aSg λz=>e z.symm];by_cases e2:p=i
   .rw [auJ e2,e2,a7U li,h1]
   .rw [ale e2,aSg λz=>e2 z.symm]
 refine ajQ.mpr λp q hp hq lt e=>?_;have g1:=get p;have g2:=get q;rw[a4h hp]at g1;rw[a4h hq,<-e]at g2;have z:=inj g1.symm g2.symm;split at z <;> split at z <;> (try split at z) <;> (try split at z) <;> lia
theorem Zix{z n:Int}(h:1<=n)(j:Nat):((List.range j).map λk:Nat=>z+n*(k:Int)).Nodup:=by
 refine aXi.mpr (List.pairwise_lt_range.imp λ{a b} lt e=>?_);have:=Int.mul_lt_mul_of_pos_left (show(a:Int)<(b:Int) by lia) (show(0:Int)<n by lia);lia
theorem RC{ns:List Int}{k:Int}(h0:0<=k)(h:k<(ns.length:Int)):∃v:Int,eG (ns.map V.int) k=some (.int v)/\ns[k.toNat]?=some v:=by
 have hk:k.toNat<ns.length:=by lia
 have q:eG (ns.map V.int) ((k.toNat:Nat):Int)=some (.int ns[k.toNat]):=wm (by rw[afQ,a4h hk] <;> rfl);rw[show((k.toNat:Nat):Int)=k by lia]at q;exact⟨_,q,a4h hk⟩
inductive qy(vs:List V)(H:Hp)(Q:VK)(E:XK):Prop
 |mk (b:Addr) (a q c s:Int):vs=[.ref b,.int s]->aA H b a q c->c<500000000->1<=s->s<=16->(∀(l:Addr)(ns:List Int)(a' c':Int)(H':Hp),H l=none->H' l=some (.lst (ns.map V.int))->3<=ns.length->ns.length<=20->Lq (9999/s) ns->ns.Nodup->aA H' b a' q c'->c'<=c+40->SB b H H'->Q (.ref l) H')->qy vs H Q E
example:(lq EY cA):=by
 obtain ⟨b,a,q,c,s,rfl,B,hc,hs0,hs1,k⟩:=h;obtain⟨Wd,Wc,m0,m1⟩:=Zhi hs0 hs1;refine⟨_,(Ze (cX 2 nd (aj ZJ Zi (Zm cA hr.m rfl (pc (pv 0) (pc (ak (Zl (K:=K) rfl) (ZV (pc Zi (pc Zi Zb))) (ZE OM rfl T.Et La (pc (ZP aW (Zm cA hr.m rfl (pc (pv 0) (pc Zi Zb))) Zi (Zw _)) Zb)) (λ_ _=>rfl)) Zb)))))
   (Ze (rJ (ZN (pc (Zm cA hr.m rfl (pc (pv 0) (pc Zi Zb))) (pc (Zm cA hr.m rfl (pc (pv 0) (pc Zi Zb))) Zb))) (ZD (K:=K) (n:=2) rfl rfl (Zn (bE 3 nd) (Zn (bE 4 nd) ZC))))
   (Ze (cX 5 nd (DP (Zu qL (pv 4) Zi (Zw _)) (pv 4) (Zm cA hr.m rfl (pc (pv 0) (pc (ak (Zl (K:=K) rfl) (ZV (pc Zi (pc (Zo (Uv rfl) rfl T.JG T7 (pc Zi (pc (aj BX (aj EN Zi (pv 1)) Zi) Zb))) Zb))) (aj BX (pv 4) Zi) (λ_ _=>rfl)) Zb)))))
   (Ze (Zic 6 (Zx (gB:=(Zq cW)) (oN:=nM) (N:=["_law_k","_law_first","_law_way"]) (own:=1) (js:=[5,3]) (by decide +kernel) rfl rfl) rfl nd rfl rfl (ZY rfl T.vh (pc (pv 2) Zb)) (λ_ _ _ _ _ _=>(bE 0 (show List.Nodup (["_law_k","_law_first","_law_way"]:List Str) by decide +kernel))) (λ_ _ _ _ _ _=>(aj ZJ (pv 1) (aj sZ (ak (Zl (K:=K) rfl) (ZV (pc Zi (pc Zi (pc Zi (pc Zi Zb))))) (pv 2) (λ_ _=>rfl)) (pv 0)))))
   (Ze (cX 7 nd (DP (Zu aW (Zm cA hr.m rfl (pc (pv 0) (pc Zi Zb))) Zi (Zw _)) (aj EN Zi (pv 1)) (Zm cA hr.m rfl (pc (pv 0) (pc (aj ZJ Zi (aj EN Zi (pv 1))) Zb)))))
   (Ze (aE (PW.pt (pw_or (PW.pt (AD (Zu aW (pv 3) Zi (Zw _)) (Cd (Zu (OP (K:=K) rfl) (pv 7) (pv 6) rfl)))) (EC (PW.pt (AD (Zu aW (pv 7) (aj EN Zi (pv 1)) (Zw _)) (Cd (Zu (OP (K:=K) rfl) (pv 7) (pv 6) rfl))))))) (Zg (rJ (pv 7) (DJ (pv 6) (xV NP Zi) DO))) Zt)
   (Ze (yG aAH rfl (ZY rfl T.vh (pc (aj BX (pv 2) Zi) Zb)) (bE 8 nd) (Ze (cX 9 nd (aj ZJ (pv 8) (Zm cA hr.m rfl (pc (pv 0) (pc (aj BX (pv 2) (pv 8)) Zb)))))
   (Zg (rJ (ZN (pc (ak (Zl (K:=K) rfl) (pv 6) (pv 9) (λ_ _=>rfl)) (pc (ak (Zl (K:=K) rfl) (pv 6) (pv 8) (λ_ _=>rfl)) Zb))) (ZD (K:=K) (n:=2) rfl rfl (Zn (DJ (pv 6) (pv 8) DO) (Zn (DJ (pv 6) (pv 9) DO) ZC)))))))
   (Zg (Zs (pv 6)))))))))),?_⟩
 generalize hm:(if 10000/s-480>1 then 10000/s-480 else 1)=m at m0 m1;generalize ht:(9999:Int)/s=top at *;refine hide λuu ee=>?_;refine⟨_,rfl,(sL 2),λp1 hp1=>⟨_,rfl,b,a,q,c,6,rfl,B.same (Zd hp1 _),by lia,by decide,by decide,λr1 a1 c1 H1 zT CF B1 hc1 s1=>⟨rfl,.inr ⟨_,rfl,?_⟩⟩⟩⟩;have q1:b≠p1:=Zf B.at' hp1;obtain⟨n,hn,hn'⟩:=RE 5 18 (decide (V.int r1=V.int 0));refine⟨p1,_,_,_,rfl,rfl,ao.of (s1 _ _ (aWz q1) Za),hn,b,a1,q,c1,n,rfl,B1,by lia,by lia,by lia,λr2 a2 c2 H2 yX xG B2 hc2 s2=>⟨_,_,rfl,rfl,?_⟩⟩;have Xm:3<=3+r2:=by lia
 have Xl:3+r2<=20:=by lia
 have u2:SB b H H2:=(((Zd hp1 _).sb b).trans s1).trans s2;dsimp only[dJ];subst ee;try dsimp only
 refine hide λuu ee=>?_;refine⟨_,rfl,b,a2,q,c2,4,rfl,B2,by lia,by decide,by decide,λr3 a3 c3 H3 CD Br B3 hc3 s3=>?_⟩;refine⟨_,rfl,b,a3,q,c3,4,rfl,B3,by lia,by decide,by decide,λr4 a4 c4 UW F2 JU B4' hc4 s4=>⟨(sL 2),λp4 Qy=>⟨p4,_,rfl,aP.of Za,rfl,_,_,rfl,_,_,rfl,rfl,?_⟩⟩⟩;have B4:=B4'.same (Zd Qy (.tup [.int r3,.int r4]));have u4:SB b H (upd UW p4 (.tup [.int r3,.int r4])):=((u2.trans s3).trans s4).trans ((Zd Qy _).sb b);generalize upd UW p4 (.tup [.int r3,.int r4])=H4 at *;subst ee;try dsimp only
 refine Kw (λv G=>∃z a' c',v=.int z/\0<=z/\z+456<=top/\aA G b a' q c'/\c'<=c4+1/\SB b H G) (λQ' k'=>?_) ?_
 .refine ⟨_,rfl,_,_,rfl,rfl,_,rfl,yE (λYR=>⟨_,rfl,k' _ _ ⟨_,a4,c4,rfl,F2,by lia,B4,by lia,u4⟩⟩) (λYR=>?_)⟩;refine⟨_,rfl,_,rfl,_,_,rfl,rfl,⟨by lia,by lia⟩,_,_,rfl,rfl,_,_,rfl,(sL 2),λp2 hp2=>?_⟩;have q2:b≠p2:=Zf B4.at' hp2;rw[hm];obtain⟨n2,hn2,XY⟩:=Gd 100 m (r4-2) (by lia) (by lia);refine⟨_,rfl,_,_,rfl,rfl,p2,_,_,_,rfl,rfl,ao.of Za,hn2,b,a4,q,c4,n2,rfl,B4.same (Zd hp2 _),by lia,by lia,by lia,λr5 a5 c5 H5 LV Pq B5 hc5 s5=>?_⟩;exact k' _ _ ⟨r5,a5,c5,rfl,LV,by lia,B5,by lia,u4.trans (((Zd hp2 _).sb b).trans s5)⟩
 rintro _ H5 ⟨z,a5,c5,rfl,z0,z1,B5,hc5,u5⟩;dsimp only[dJ];refine hide λuu ee=>?_;refine⟨_,rfl,_,rfl,by lia,by lia,λl hl=>?_⟩;have De:H l=none:=Lb u5 B5.at' hl;have oj:l≠b:=aWz (Zf B5.at' hl);have hmn:(3+r2).toNat<=20:=by lia
 obtain⟨n4,XX,HC⟩:=Z4 r3 CD Br;refine DM (lo:=0) (n:=(3+r2).toNat) (l:=l) (λj ys σ G=>∃(v0:Option V)(ns:List Int),σ=[v0,some (.int z),some (.int r3)]/\ys=ns.map V.int/\ns.length=j/\(Lq top ns/\ns=(List.range j).map λk:Nat=>z+n4*(k:Int))/\G l=some (.lst ys)/\av H5 G)
  ⟨none,[],rfl,rfl,rfl,⟨λn hn=>(nomatch hn),rfl⟩,Za,Zd hl _⟩ ?_ ?_
 .rintro j ys σ G hj hy ⟨v0,ns,rfl,rfl,hj',⟨hb',hz'⟩,h1,h2⟩;refine⟨_,rfl,(sL 4),λp hp=>?_⟩;have np:l≠p:=Zf h1 hp;have XI:(j:Int)<=19:=by lia
  refine⟨_,rfl,p,_,_,_,rfl,rfl,ao.of Za,XX,_,rfl,_,_,rfl,rfl,.inl ⟨by lia,by lia⟩,_,_,rfl,rfl,gu.of (atR hmn (by decide)) hj hy (by rw[Zc np];exact h1) ⟨_,ns++[z+n4*(0+(j:Int))],rfl,by rw[afk];rfl,by rw[akn,hj'];rfl,⟨λx hx=>?_,?_⟩,Za,λe o y=>?_⟩⟩
  .rcases aXY.mp hx with h|h
   .exact hb' x h
   .have ex:x=z+n4*(0+(j:Int)):=by simpa using h
    subst ex;rcases HC with rfl|rfl|rfl
    .exact ⟨by lia,by lia⟩
    .exact ⟨by lia,by lia⟩
    .exact ⟨by lia,by lia⟩
  .rw [aJb,afk,<-hz',aB5,map_nil,Int.zero_add]
  .rw [Zc (Zf y hl)];exact Zd hp _ _ _ (h2 _ _ y)
 rintro ys σ G hy ⟨v0,ns,rfl,rfl,hj',⟨hb',hz'⟩,h1,h2⟩;have B6:=B5.same h2;have u6:SB b H G:=u5.trans (h2.sb b);have GF:3<=ns.length:=by lia
 have Xr:ns.length<=20:=by lia
 have hz0:ns.Nodup:=by rw[hz'];exact Zix (by rcases HC with h|h|h <;> lia) _
 dsimp only[dJ];subst ee;try dsimp only
 refine Kw (λv G'=>∃z a' c',v=.int z/\0<=z/\z<=top/\aA G' b a' q c'/\c'<=c5+2/\SB b G G') (λQ' k'=>?_) ?_
 .refine ⟨_,rfl,b,a5,q,c5,5,rfl,B6,by lia,by decide,by decide,λr7 a7 c7 H7 r70 r71 B7 Ye s7=>⟨rfl,_,rfl,yE (λ_=>?_) (λ_=>?_)⟩⟩
  .refine ⟨_,rfl,_,_,rfl,rfl,⟨by lia,by lia⟩,?_⟩;exact k' _ _ ⟨_,a7,c7,rfl,by rw[ht];lia,by rw[ht];lia,B7,by lia,s7⟩
  .refine ⟨_,rfl,_,rfl,_,_,rfl,rfl,⟨by lia,by lia⟩,_,_,rfl,rfl,b,a7,q,c7,_,rfl,B7,by lia,by rw[ht];lia,by rw[ht];lia,λr8 a8 c8 H8 Wy Wx B8 hc8 s8=>?_⟩;exact k' _ _ ⟨_,a8,c8,rfl,Wy,by rw[ht]at Wx;lia,B8,by lia,s7.trans s8⟩
 rintro _ H7 ⟨fr,a7,c7,rfl,Yt,Ku,B7,Ye,s7⟩;have h7:=s7 _ _ oj h1;have u7:SB b H H7:=u6.trans s7;have PV:(if true=true then !wg (V.int fr) (List.map V.int ns) else wg (V.int fr) (List.map V.int ns))=true->fr∉ns:=λz m=>by
  rw[auJ rfl,Ziw,a5h m]at z;cases z
 refine Dv (λσ G'=>∃ns':List Int,σ=[some (.ref b),some (.int s),some (.int (3+r2)),some (.int r3),some (.int r4),some (.int z),some (.ref l),some (.int fr),none,none]/\G' l=some (.lst (ns'.map V.int))/\ns'.length=ns.length/\(Lq top ns'/\ns'.Nodup)/\aA G' b a7 q c7/\SB b H G') (λD' _ k'=>?_) ?_
 .refine rB (λc G'=>G'=H7/\(c=true->fr∉ns)) (λQ' k''=>?_) ?_
  .refine NB (λc G'=>G'=H7/\(c=true->fr∉ns)) (λQ'' k3=>?_) ?_
   .exact ⟨_,rfl,rfl,_,rfl,yE (λ_=>⟨_,rfl,_,rfl,l,_,rfl,.inl (ao.of h7),rfl,TU _,_,rfl,k3 _ _ ⟨rfl,PV⟩⟩) (λ_=>k3 _ _ ⟨rfl,λz=>(nomatch z)⟩)⟩
   .rintro cb _ ⟨rfl,hcb⟩;cases cb with
    |true=>exact cB rfl (k'' _ _ ⟨rfl,hcb⟩)
    |false=>exact bK rfl ⟨_,rfl,_,rfl,_,_,rfl,rfl,⟨by lia,by lia⟩,rfl,_,rfl,yE (λ_=>⟨_,rfl,_,rfl,l,_,rfl,.inl (ao.of h7),rfl,TU _,_,rfl,k'' _ _ ⟨rfl,PV⟩⟩) (λ_=>k'' _ _ ⟨rfl,λz=>(nomatch z)⟩)⟩
  .rintro cb _ ⟨rfl,hcb⟩;cases cb with
   |false=>exact bK rfl (k' _ _ ⟨ns,rfl,h7,rfl,⟨hb',hz0⟩,B7,u7⟩)
   |true=>
    refine cB rfl ⟨_,rfl,_,rfl,_,rfl,l,_,_,_,rfl,rfl,h7,Ziv (by rw[apM];lia),k' _ _ ⟨ns.set (ns.length-1) fr,rfl,?_,ail,⟨λx hx=>?_,RD hz0 (hcb rfl)⟩,B7.sb (EH l _ _) (aWz oj),λe o n' y=>?_⟩⟩
    .rw [Za,apM,Lc]
    .rcases KY hx with h|h
     .exact hb' x h
     .subst h;exact⟨Yt,Ku⟩
    .rw [Zc (Zf y De)];exact u7 _ _ n' y
 rintro _ H8 ⟨WU,rfl,h8,l8,b8,B8,u8⟩;refine⟨_,rfl,_,_,rfl,rfl,_,rfl,by lia,by lia,ON (lo:=0) (n:=(3+r2-1).toNat) (λj σ G'=>∃(ns':List Int)(v8 v9:Option V)(a' c':Int),σ=[some (.ref b),some (.int s),some (.int (3+r2)),some (.int r3),some (.int r4),some (.int z),some (.ref l),some (.int fr),v8,v9]/\G' l=some (.lst (ns'.map V.int))/\ns'.length=ns.length/\(Lq top ns'/\ns'.Nodup)/\aA G' b a' q c'/\c'<=c7+(j:Int)/\SB b H G')
  ⟨WU,_,_,a7,c7,rfl,h8,l8,b8,B8,by lia,u8⟩ ?_ ?_⟩
 .rintro j σ G' hj ⟨ns',v8,v9,a',c',rfl,sS,l',⟨b',lo'⟩,B',hc',u'⟩;have XI:(j:Int)<=18:=by lia
  have jl:(j:Int)+1<3+r2:=by lia
  refine⟨_,rfl,_,rfl,_,rfl,_,rfl,_,_,rfl,rfl,b,a',q,c',_,rfl,B',by lia,by lia,by lia,λr9 a9 c9 H9 r90 r91 B9 hc9 s9=>⟨_,_,rfl,rfl,?_⟩⟩;have h9:=s9 _ _ oj sS;obtain⟨x1,Qs,QV⟩:=RC (ns:=ns') (k:=0+(j:Int)+r9) (by lia) (by lia);have Xk:=aHL QV;obtain⟨x2,MM,QU⟩:=RC (ns:=ns') (k:=0+(j:Int)) (by lia) (by lia);have Xj:=aHL QU;refine⟨_,rfl,_,rfl,l,_,_,_,rfl,rfl,ao.of h9,Qs,_,rfl,_,rfl,l,_,_,_,rfl,rfl,ao.of h9,MM,(sL 2),λt ht'=>?_⟩;have W5:l≠t:=Zf h9 ht';refine⟨t,_,rfl,aP.of Za,rfl,_,_,rfl,_,rfl,_,rfl,l,_,_,_,rfl,rfl,(by rw[Zc W5];exact h9),NL (by lia) (by rw[apM];lia),?_⟩;refine⟨_,_,rfl,_,rfl,_,rfl,l,_,_,_,rfl,rfl,Za,NL (by lia) (by rw[ail,apM];lia),rfl,?_⟩;refine⟨(ns'.set (0+(j:Int)).toNat x1).set (0+(j:Int)+r9).toNat x2,_,_,a9,c9,rfl,by rw[Za,Lc,Lc],by rw[ail,ail];exact l',⟨λx hx=>?_,ZjX QV QU lo'⟩,?_,by lia,λe o n' y=>?_⟩
  .rcases KY hx with h|h
   .rcases KY h with h|h
    .exact b' x h
    .subst h;exact b' _ Xk
   .subst h;exact b' _ Xj
  .exact ((B9.same (Zd ht' _)).sb (EH l _ _) (aWz oj)).sb (EH l _ _) (aWz oj)
  .have ne:e≠l:=Zf y De;rw[Zc ne,Zc ne];exact Zd ht' _ _ _ (s9 _ _ n' (u' _ _ n' y))
 .rintro σ G' ⟨ns',v8,v9,a',c',rfl,sS,l',⟨b',lo'⟩,B',hc',u'⟩;exact⟨_,rfl,k l ns' a' c' G' De sS (by lia) (by lia) b' lo' B' (by lia) u'⟩
def Sc:V->Prop
 | .int _=>True
 | .bl _=>True
 | .aO=>True
 | .str _=>True
 |_=>False
def Eqv:Nat->Hp->V->V->Prop
 |0,_,x,y=>x=y/\Sc x
 |n+1,H,x,y=>(x=y/\Sc x)\/∃(a b:Addr)(xs ys:List V),x=.ref a/\y=.ref b/\((H a=some (.lst xs)/\H b=some (.lst ys))\/(H a=some (.tup xs)/\H b=some (.tup ys)))/\xs.length=ys.length/\xs.length<=1000/\∀(i:Nat)(u v:V),xs[i]?=some u->ys[i]?=some v->Eqv n H u v
theorem Eqv.same:∀{n:Nat}{H H':Hp}{x y:V},Eqv n H x y->av H H'->Eqv n H' x y
 |0,_,_,_,_,h,_=>h
 |n+1,H,H',x,y,h,s=>by
  rcases h with h|⟨a,b,xs,ys,h1,h2,h3,h5,h6,h7⟩
  .exact .inl h
  .refine .inr ⟨a,b,xs,ys,h1,h2,?_,h5,h6,λi u v e1 e2=>(h7 i u v e1 e2).same s⟩;rcases h3 with⟨h3,h4⟩|⟨h3,h4⟩
   .exact .inl ⟨s _ _ h3,s _ _ h4⟩
   .exact .inr ⟨s _ _ h3,s _ _ h4⟩
theorem Eqv.flat{H:Hp}{a b:Addr}{xs:List V}(ha:H a=some (.lst xs))(hb:H b=some (.lst xs))(hl:xs.length<=1000)(hs:∀x∈xs,Sc x):Eqv 1 H (.ref a) (.ref b):=
 .inr ⟨a,b,xs,xs,rfl,rfl,.inl ⟨ha,hb⟩,rfl,hl,λi u v e1 e2=>by rw[e1]at e2;cases e2;exact⟨rfl,hs u (aHL e1)⟩⟩
inductive gT(n:Nat)(vs:List V)(H:Hp)(Q:VK)(_v3:XK):Prop
 |mk (x y:_):vs=[x,y]->Eqv n H x y->(∀H',av H H'->Q (.bl true) H')->gT n vs H Q _v3
theorem Eqv.HV{H:Hp}{a b:Addr}{xs:List V}(ha:H a=some (.tup xs))(hb:H b=some (.tup xs))(hl:xs.length<=1000)(hs:∀x∈xs,Sc x):Eqv 1 H (.ref a) (.ref b):=
 .inr ⟨a,b,xs,xs,rfl,rfl,.inr ⟨ha,hb⟩,rfl,hl,λi u v e1 e2=>by rw[e1]at e2;cases e2;exact⟨rfl,hs u (aHL e1)⟩⟩
theorem JI{H:Hp}{a:Addr}{xs:List V}(h:H a=some (.tup xs)):yW H (.ref a)=some "tuple":=by simp only[yW,h]
theorem JJ{H:Hp}{a:Addr}{xs:List V}(h:H a=some (.lst xs)):yW H (.ref a)=some "list":=by simp only[yW,h]
theorem Sv{n:Nat}{Pn:Sp}(vG:∀m,n=m+1->Pn=gT m)(F:vf K "_law_same" "_law_same" s_same f fd)(T:Txt K mg)(tR:Def P w K mg base "_law_same" n gJ Pn):cM P w K mg base p8 (n+1) f fd gJ (gT n):=by
 refine F.ok uw (λvs H Q E h=>?_) (λcdv A outer st H vs Q E hr h=>?_)
 .obtain ⟨x,y,rfl,_⟩:=h;rfl
 obtain ⟨x,y,rfl,h,k⟩:=h;have nd:=uw.nd;refine⟨_,(Ze (aE (ZI (Zo Up rfl T.vZ zj (pc (pv 1) (pc (ZN (pc (wo (v:=.ty "list") rfl T.wG ZR rfl) (pc (wo (v:=.ty "tuple") rfl T.GR OJ rfl) Zb))) Zb)))) (Ze (aE (PW.pt (pw_or (zk (ZI (Zo Up rfl T.vZ zj (pc (pv 0) (pc (ZN (pc (wo (v:=.ty "list") rfl T.wG ZR rfl) (pc (wo (v:=.ty "tuple") rfl T.GR OJ rfl) Zb))) Zb))))) (EC (Zu uK (Zo BY rfl T.vZ zj (pc (pv 0) (pc (wo (v:=.ty "list") rfl T.wG ZR rfl) Zb))) (Zo BY rfl T.vZ zj (pc (pv 1) (pc (wo (v:=.ty "list") rfl T.wG ZR rfl) Zb))) (Zw _))))) (Zg (Zs d7)) Zt)
   (Zg (Zs (IE (ZP aW (Zo (ZF (K:=K) rfl) rfl T.we aUV (pc (pv 0) Zb)) (Zo (ZF (K:=K) rfl) rfl T.we aUV (pc (pv 1) Zb)) (Zw _)) (IA (Zo (Je rfl) rfl T.C6 IX (pc (ZL (Zx (gB:=(Zq s_same)) (oN:=D6) (N:=["_law_one","_law_other"]) (own:=2) (js:=[]) (by decide +kernel) rfl rfl) rfl (ZjK rfl T.JF (pc (pv 0) (pc (pv 1) Zb))) (λ_ _ _ _ _ _=>(ZD (K:=K) (n:=2) rfl rfl (Zn (bE 0 (show List.Nodup (["_law_one","_law_other"]:List Str) by decide +kernel)) (Zn (bE 1 (show List.Nodup (["_law_one","_law_other"]:List Str) by decide +kernel)) ZC)))) (λ_ _ _ _ _ _=>(Zm tR hr.m rfl (pc (pv 0) (pc (pv 1) Zb))))) Zb))))))) Zt)
   (Ze (aE (PW.pt (pw_or (KN (Zkx (pv 1))) (EC (ZI (Zo BY rfl T.vZ zj (pc (pv 1) (pc (wo (v:=.ty "str") rfl T.An DL rfl) Zb))))))) (Zg (Zs (IE (ZP aW (pv 0) (pv 1) (Zw _)) (IA (ZP aW (Zo BY rfl T.vZ zj (pc (pv 0) (pc (wo (v:=.ty "str") rfl T.An DL rfl) Zb))) (Zo BY rfl T.vZ zj (pc (pv 1) (pc (wo (v:=.ty "str") rfl T.An DL rfl) Zb))) (Zw _)))))) Zt)
   (Zg (Zs (IE (Zo BY rfl T.vZ zj (pc (pv 0) (pc (wo (v:=.ty "int") rfl T.Et La rfl) Zb))) (IE (ZP aW (Zo BY rfl T.vZ zj (pc (pv 0) (pc (wo (v:=.ty "bool") rfl T.Kf UE rfl) Zb))) (Zo BY rfl T.vZ zj (pc (pv 1) (pc (wo (v:=.ty "bool") rfl T.Kf UE rfl) Zb))) (Zw _)) (IA (ZP aW (pv 0) (pv 1) (Zw _))))))))),?_⟩
 have split:(x=y/\Sc x)\/∃(m:Nat)(a b:Addr)(xs ys:List V),n=m+1/\x=.ref a/\y=.ref b/\((H a=some (.lst xs)/\H b=some (.lst ys))\/(H a=some (.tup xs)/\H b=some (.tup ys)))/\xs.length=ys.length/\xs.length<=1000/\∀(i:Nat)(u v:V),xs[i]?=some u->ys[i]?=some v->Eqv m H u v:=by
  cases n with
  |zero=>exact .inl h
  |succ m=>
   rcases h with h|⟨a,b,xs,ys,h1,h2,h3,h5,h6,h7⟩
   .exact .inl h
   .exact .inr ⟨m,a,b,xs,ys,rfl,h1,h2,h3,h5,h6,h7⟩
 rcases split with⟨rfl,hs⟩|⟨m,a,b,xs,ys,rfl,rfl,rfl,⟨ha,hb⟩|⟨ha,hb⟩,hl,hlen,hi⟩
 .have key:∀p,H p=none->∀o,av H (upd H p o):=λp hp o=>Zd hp o;cases x with
  |int j=>
   refine⟨_,rfl,(sL 2),λp hp=>⟨_,_,_,_,p,rfl,Za,rfl,by decide,by decide,_,rfl,bK (by decide) ?_⟩⟩;refine⟨_,rfl,_,rfl,bK (by simp) ⟨_,rfl,_,_,_,rfl,rfl,by decide,_,rfl,bK (by decide) ?_⟩⟩;refine⟨_,rfl,_,_,_,rfl,rfl,by decide,_,rfl,cB (by decide) ⟨_,rfl,_,_,_,rfl,rfl,by decide,_,rfl,_,_,_,rfl,rfl,by decide,rfl,_,rfl,cB (by decide) ⟨_,rfl,_,rfl,rfl,?_⟩⟩⟩;rw[a5h rfl];exact k _ (key p hp _)
  |bl j=>
   refine⟨_,rfl,(sL 2),λp hp=>⟨_,_,_,_,p,rfl,Za,rfl,by decide,by decide,_,rfl,bK (by decide) ?_⟩⟩;refine⟨_,rfl,_,rfl,bK (by simp) ⟨_,rfl,_,_,_,rfl,rfl,by decide,_,rfl,bK (by decide) ?_⟩⟩;refine⟨_,rfl,_,_,_,rfl,rfl,by decide,_,rfl,cB (by decide) ⟨_,rfl,_,_,_,rfl,rfl,by decide,_,rfl,_,_,_,rfl,rfl,by decide,rfl,_,rfl,cB (by decide) ⟨_,rfl,_,rfl,rfl,?_⟩⟩⟩;rw[a5h rfl];exact k _ (key p hp _)
  |aO=>
   refine⟨_,rfl,(sL 2),λp hp=>⟨_,_,_,_,p,rfl,Za,rfl,by decide,by decide,_,rfl,bK (by decide) ?_⟩⟩;refine⟨_,rfl,_,rfl,cB (by simp) (cB rfl ⟨_,rfl,_,rfl,rfl,_,rfl,cB (by decide) ⟨_,rfl,_,_,_,rfl,rfl,by decide,_,rfl,_,_,_,rfl,rfl,by decide,rfl,?_⟩⟩)⟩;rw[a5h rfl];exact k _ (key p hp _)
  |str z=>
   refine⟨_,rfl,(sL 2),λp hp=>⟨_,_,_,_,p,rfl,Za,rfl,by decide,by decide,_,rfl,bK (by decide) ?_⟩⟩;refine⟨_,rfl,_,rfl,bK (by simp) ⟨_,rfl,_,_,_,rfl,rfl,by decide,_,rfl,cB (by decide) ⟨_,rfl,_,rfl,rfl,_,rfl,cB (by simp) ⟨_,rfl,_,_,_,rfl,rfl,by decide,_,rfl,_,_,_,rfl,rfl,by decide,rfl,?_⟩⟩⟩⟩;rw[a5h rfl];exact k _ (key p hp _)
  |_=>exact hs.elim
 .have he:=vG m rfl;subst he;refine⟨_,rfl,(sL 2),λp hp=>?_⟩;have s1:=Zd hp (.tup [.ty "list",.ty "tuple"]);refine⟨_,_,_,_,p,rfl,Za,JJ (s1 _ _ hb),by decide,by decide,_,rfl,cB (by decide) ?_⟩;refine⟨_,rfl,(sL 2),λp2 hp2=>?_⟩;have s2:=s1.trans (Zd hp2 (.tup [.ty "list",.ty "tuple"]));refine⟨_,_,_,_,p2,rfl,Za,JJ (s2 _ _ ha),by decide,by decide,_,rfl,bK (by decide) ?_⟩;refine⟨_,rfl,_,_,_,rfl,JJ (s2 _ _ ha),by decide,_,rfl,_,_,_,rfl,JJ (s2 _ _ hb),by decide,rfl,_,rfl,bK (by decide) ?_⟩;refine⟨_,rfl,a,_,rfl,.inl (ao.of (s2 _ _ ha)),_,rfl,b,_,rfl,.inl (ao.of (s2 _ _ hb)),rfl,_,rfl,?_⟩;generalize upd (upd H p (.tup [.ty "list",.ty "tuple"])) p2 (.tup [.ty "list",.ty "tuple"])=H2 at *;refine cB (by rw[hl];simp) ?_;refine⟨_,rfl,_,rfl,a,b,rfl,.inl ⟨_,_,ao.of (s2 _ _ ha),ao.of (s2 _ _ hb),λl hl'=>?_⟩⟩;have De:H l=none:=s2.free hl';refine Zig (K:=K) (a:=a) (b:=b) (xs:=xs) (zs:=ys) (l:=l) hl (λi zs σ H'=>∃v0 v1:Option V,σ=[v0,v1]/\zs=(List.replicate i true).map V.bl/\H' l=some (.lst zs)/\av H H')
   ⟨none,none,rfl,by simp,Za,s2.trans (Zd hl' _)⟩ (λi zs σ H' _ ⟨_,_,_,_,_,q⟩=>⟨ao.of (q _ _ ha),ao.of (q _ _ hb)⟩) ?_ ?_
  .rintro i x z t zs σ H' M5 hxi MJ Hx ⟨v0,v1,rfl,rfl,h1,s3⟩ ht;have s4:=s3.trans (Zd ht (.tup [x,z]));have Ep:l≠t:=Zf h1 ht;refine⟨t,_,rfl,aP.of Za,rfl,_,_,rfl,_,_,rfl,rfl,?_⟩;refine⟨_,rfl,_,rfl,x,z,rfl,(hi i x z hxi MJ).same s4,λH5 s5=>?_⟩;refine gu.of (aaH (Zv hlen)) M5 Hx (s5 _ _ (by rw[Zc Ep];exact h1)) ⟨_,_,rfl,by rw[bbV,afk];rfl,Za,?_⟩;intro c o e;rw[Zc (Zf e De)];exact s5 _ _ (s4 _ _ e)
  .rintro zs σ H' Hx ⟨v0,v1,rfl,rfl,h1,s3⟩;refine⟨l,_,rfl,ao.of h1,?_⟩;rw[show(List.replicate xs.length true).all id=true by rw[aT6];intro z hz;rw[(aMl.mp hz).2];rfl];exact k H' s3
 .have he:=vG m rfl;subst he;refine⟨_,rfl,(sL 2),λp hp=>?_⟩;have s1:=Zd hp (.tup [.ty "list",.ty "tuple"]);refine⟨_,_,_,_,p,rfl,Za,JI (s1 _ _ hb),by decide,by decide,_,rfl,cB (by decide) ?_⟩;refine⟨_,rfl,(sL 2),λp2 hp2=>?_⟩;have s2:=s1.trans (Zd hp2 (.tup [.ty "list",.ty "tuple"]));refine⟨_,_,_,_,p2,rfl,Za,JI (s2 _ _ ha),by decide,by decide,_,rfl,bK (by decide) ?_⟩;refine⟨_,rfl,_,_,_,rfl,JI (s2 _ _ ha),by decide,_,rfl,_,_,_,rfl,JI (s2 _ _ hb),by decide,rfl,_,rfl,bK (by decide) ?_⟩;refine⟨_,rfl,a,_,rfl,.inr (aP.of (s2 _ _ ha)),_,rfl,b,_,rfl,.inr (aP.of (s2 _ _ hb)),rfl,_,rfl,?_⟩;generalize upd (upd H p (.tup [.ty "list",.ty "tuple"])) p2 (.tup [.ty "list",.ty "tuple"])=H2 at *;refine cB (by rw[hl];simp) ?_;refine⟨_,rfl,_,rfl,a,b,rfl,.inr ⟨_,_,aP.of (s2 _ _ ha),aP.of (s2 _ _ hb),λl hl'=>?_⟩⟩;have De:H l=none:=s2.free hl';refine ZgO (K:=K) (a:=a) (b:=b) (xs:=xs) (zs:=ys) (l:=l) hl (λi zs σ H'=>∃v0 v1:Option V,σ=[v0,v1]/\zs=(List.replicate i true).map V.bl/\H' l=some (.lst zs)/\av H H')
   ⟨none,none,rfl,by simp,Za,s2.trans (Zd hl' _)⟩ (λi zs σ H' _ ⟨_,_,_,_,_,q⟩=>⟨aP.of (q _ _ ha),aP.of (q _ _ hb)⟩) ?_ ?_
  .rintro i x z t zs σ H' M5 hxi MJ Hx ⟨v0,v1,rfl,rfl,h1,s3⟩ ht;have s4:=s3.trans (Zd ht (.tup [x,z]));have Ep:l≠t:=Zf h1 ht;refine⟨t,_,rfl,aP.of Za,rfl,_,_,rfl,_,_,rfl,rfl,?_⟩;refine⟨_,rfl,_,rfl,x,z,rfl,(hi i x z hxi MJ).same s4,λH5 s5=>?_⟩;refine gu.of (aaH (Zv hlen)) M5 Hx (s5 _ _ (by rw[Zc Ep];exact h1)) ⟨_,_,rfl,by rw[bbV,afk];rfl,Za,?_⟩;intro c o e;rw[Zc (Zf e De)];exact s5 _ _ (s4 _ _ e)
  .rintro zs σ H' Hx ⟨v0,v1,rfl,rfl,h1,s3⟩;refine⟨l,_,rfl,ao.of h1,?_⟩;rw[show(List.replicate xs.length true).all id=true by rw[aT6];intro z hz;rw[(aMl.mp hz).2];rfl];exact k H' s3
def LM:Sp:=λ_ _ _ _=>False
theorem Tq(F:vf K "_law_same" "_law_same" s_same f fd)(bi:Binds K fd gJ [])(m:mg "_law_same"=some (.ref f))(T:Txt K mg):∀n,Def P w K mg base "_law_same" (n+1) gJ (gT n)
 |0=>by
  have D0:Def P w K mg base "_law_same" 0 gJ LM:=⟨f,fd,⟨λ_ _ _ _ h=>h.elim,λ_ _ _ _ _ _ _ _ _ _ _ _ _ h=>h.elim⟩,m,F.kp,bi⟩;exact⟨f,fd,Sv (n:=0) (λ_ h=>by lia) F T D0,m,F.kp,bi⟩
 |n+1=>⟨f,fd,Sv (n:=n+1) (λj h=>by cases(show j=n by lia);rfl) F T (Tq F bi m T n),m,F.kp,bi⟩
def vq:Option Int->V
 |none=>.aO
 |some g=>.int g
theorem gN{i:Nat}{v:V}{σ:St}{H:Hp}{Q:St->Hp->Prop}(h:Q (σ.set i (some v)) H):dJ i v σ H Q:=h
theorem Od{b:Bool}{A B:Prop}(h1:b=true->A)(h2:¬b=true->B):if b=true then A else B:=by
 by_cases h:b=true
 .rw [auJ h];exact h1 h
 .rw [ale h];exact h2 h
theorem IG{ns:List Int}{i:Nat}{x:V}(h:(ns.map V.int)[i]?=some x):∃z,ns[i]?=some z/\x=V.int z:=by
 rw[afQ]at h;cases e:ns[i]? with
 |none=>rw[e]at h;cases h
 |some z=>rw[e]at h;exact⟨z,rfl,(asK h).symm⟩
theorem Su(z:Int)(ns:List Int):wg (.int z) (ns.map V.int)=decide (z∈ns):=by
 unfold wg;rw[any_map,a1D,any_eq_true,aJH];constructor
 .rintro ⟨x,hx,e⟩;have:x=z:=by simpa[sV]using e
  rw[<-this];exact hx
 .intro h;exact⟨z,h,by simp[sV]⟩
def tpos:Pos:=(match(ZK aS).head? with
 |some (.If _ (.Return (some (.Call _ _ (⟨_,.Lambda _ _ _ pos,_⟩ ::_) _)) _ ::_) _ _)=>pos
 |_=>⟨0,0,0,0⟩)
abbrev wI:Str:="Room.going" ++ ".<locals>." ++ "<lambda>"
def Tb(K:W.Frag)(H:Hp):Prop:=H (tabOf K "Room" "going")=some (.oF tpos wI)
theorem Tb.same{K:W.Frag}{H H':Hp}(t:Tb K H)(s:av H H'):Tb K H':=s _ _ t
def Zp(sh s:Int)(there:List Int):List Int:=there.filter λo=>decide (o%sh=s)
theorem Jg(sh s b:Int)(there:List Int):Zp sh s (there++[b])=if b%sh=s then Zp sh s there++[b] else Zp sh s there:=by
 unfold Zp;rw[filter_append];by_cases h:b%sh=s
 .rw [auJ h,aDS,auJ (by simpa using h),List.filter_nil]
 .rw [ale h,aDS,ale (by simpa using h),List.filter_nil,aKQ]
theorem Jc(sh s g:Int)(there:List Int):Zp sh s (there.erase g)=(Zp sh s there).erase g:=by
 unfold Zp;rw[List.erase_filter]
theorem bu{sh s b:Int}{there:List Int}:b∈Zp sh s there↔b∈there/\b%sh=s:=by
 unfold Zp;rw[mem_filter,aJH]
structure uY(H:Hp)(ls:Addr)(au:List Addr)(sh:Int)(there:List Int):Prop where
 top:H ls=some (.lst (au.map V.ref))
 len:au.length=sh.toNat
 nd:au.Nodup
 off:ls∉au
 at_:∀(s:Nat)(ad:Addr),au[s]?=some ad->H ad=some (.lst ((Zp sh s there).map V.int))
theorem uY.other{H:Hp}{ls:Addr}{au:List Addr}{sh:Int}{there:List Int}(h:uY H ls au sh there){a:Addr}(o:HO)(h1:a≠ls)(h2:a∉au):uY (upd H a o) ls au sh there:=
 ⟨by rw[Zc (aWz h1)];exact h.top,h.len,h.nd,h.off,λi ad e=>by rw[Zc (λz:ad=a=>h2 (z ▸aHL e))];exact h.at_ i ad e⟩
theorem uY.put{H:Hp}{ls:Addr}{au:List Addr}{sh:Int}{there su:List Int}(h:uY H ls au sh there){s0:Nat}{ad:Addr}{ns:List Int}(e0:au[s0]?=some ad)(hn:Zp sh s0 su=ns)(ho:∀s:Nat,s≠s0->Zp sh s su=Zp sh s there):uY (upd H ad (.lst (ns.map V.int))) ls au sh su:=by
 refine⟨by rw[Zc (λz:ls=ad=>h.off (z ▸aHL e0))];exact h.top,h.len,h.nd,h.off,λs a e=>?_⟩;by_cases hs:s=s0
 .subst hs;rw[e0]at e;cases e;rw[Za,hn]
 .have ne:a≠ad:=λz=>by
   subst z;exact hs ((List.getElem?_inj (ajE.mp e).1 h.nd).mp (e.trans e0.symm))
  rw[Zc ne,ho s hs];exact h.at_ s a e
theorem uY.get{H:Hp}{ls:Addr}{au:List Addr}{sh:Int}{there:List Int}(h:uY H ls au sh there){k:Int}(h0:0<=k)(h1:k<sh):∃(s:Nat)(ad:Addr),(s:Int)=k/\au[s]?=some ad/\eG (au.map V.ref) k=some (.ref ad)/\H ad=some (.lst ((Zp sh k there).map V.int)):=by
 have hk:k.toNat<au.length:=by rw[h.len];lia
 have e:au[k.toNat]?=some au[k.toNat]:=a4h hk;have ek:((k.toNat:Nat):Int)=k:=by lia
 have q:eG (au.map V.ref) ((k.toNat:Nat):Int)=some (.ref au[k.toNat]):=wm (by rw[afQ,e];rfl);have q2:=h.at_ _ _ e;rw[ek]at q q2;exact⟨k.toNat,_,ek,e,q,q2⟩
theorem uY.one{H:Hp}{ls:Addr}{au:List Addr}{sh:Int}{there:List Int}(h:uY H ls au sh there){ad:Addr}(m:ad∈au):∃xs,H ad=some (.lst xs):=by
 obtain⟨s,e⟩:=List.getElem?_of_mem m;exact⟨_,h.at_ s ad e⟩
def gH(sh pl:Int)(ru:Str)(ls du:Addr):List (Str×V):=ah "uses" (.ref du) (ah "standing" (.ref ls) (ah "rule" (.str ru) (ah "places" (.int pl) (ah "shelves" (.int sh) []))))
theorem EJ(sh pl:Int)(ru:Str)(ls du:Addr):(gH sh pl ru ls du).lookup ("uses":Str)=some (.ref du):=by
 unfold gH;rw[Zh,auJ rfl]
theorem Zez(sh pl:Int)(ru:Str)(ls du:Addr):(gH sh pl ru ls du).lookup ("standing":Str)=some (.ref ls):=by
 unfold gH;rw[Zh,ale (by decide +kernel),Zh,auJ rfl]
theorem Ss(sh pl:Int)(ru:Str)(ls du:Addr):(gH sh pl ru ls du).lookup ("rule":Str)=some (.str ru):=by
 unfold gH;rw[Zh,ale (by decide +kernel),Zh,ale (by decide +kernel),Zh,auJ rfl]
theorem Zhm(sh pl:Int)(ru:Str)(ls du:Addr):(gH sh pl ru ls du).lookup ("places":Str)=some (.int pl):=by
 unfold gH;rw[Zh,ale (by decide +kernel),Zh,ale (by decide +kernel),Zh,ale (by decide +kernel),Zh,auJ rfl]
theorem ZfX(sh pl:Int)(ru:Str)(ls du:Addr):(gH sh pl ru ls du).lookup ("shelves":Str)=some (.int sh):=by
 unfold gH;rw[Zh,ale (by decide +kernel),Zh,ale (by decide +kernel),Zh,ale (by decide +kernel),Zh,ale (by decide +kernel),Zh,auJ rfl]
theorem bS(sh pl:Int)(ru:Str)(ls du:Addr){m:Str}(h1:¬m ="uses":=by decide +kernel)(h2:¬m ="standing":=by decide +kernel)(h3:¬m ="rule":=by decide +kernel)(h4:¬m ="places":=by decide +kernel)(h5:¬m ="shelves":=by decide +kernel):(gH sh pl ru ls du).lookup m=none:=by
 unfold gH;rw[Zh,ale h1,Zh,ale h2,Zh,ale h3,Zh,ale h4,Zh,ale h5];rfl
def KI(kvs:List (Key×V)):Prop:=∃ks:List Int,kvs.map Prod.fst=ks.map Sum.inl/\ks.Nodup
theorem KI.nil:KI []:=⟨[],rfl,nodup_nil⟩
theorem KI.put{kvs:List (Key×V)}(h:KI kvs)(b:Int)(v:V):KI (putK kvs (Sum.inl b) v):=by
 obtain⟨ks,e,nd⟩:=h;unfold putK;split
 .refine ⟨ks,?_,nd⟩;rw[<-e,map_map];exact a0o λq _=>by
   show(if q.1=Sum.inl b then(q.1,v) else q).1=q.1;split <;> rfl
 .rename_i c;refine⟨ks++[b],by rw[afk,afk,e];rfl,?_⟩;rw[List.nodup_append];refine⟨nd,by simp,λx hx y hy z=>c ?_⟩;rw[axK.mp hy]at z;subst z;have m:(Sum.inl x:Key)∈kvs.map Prod.fst:=by rw[e];exact aOS hx
  obtain⟨q,hq,eq⟩:=atX.mp m;exact List.any_eq_true.mpr ⟨q,hq,by simpa using eq⟩
theorem KI.drop{kvs:List (Key×V)}(h:KI kvs)(b:Int):KI (aU kvs (Sum.inl b)):=by
 obtain⟨ks,e,nd⟩:=h;unfold aU;refine⟨ks.filter λx=>decide (x≠b),?_,nd.sublist filter_sublist⟩;have l:(kvs.filter λkv=>decide (kv.1≠Sum.inl b)).map Prod.fst=(kvs.map Prod.fst).filter λk=>decide (k≠Sum.inl b):=by
  rw[List.filter_map];rfl
 rw[l,e,List.filter_map];congr 1
 refine List.filter_congr λx _=>?_;show decide ((Sum.inl x:Key)≠Sum.inl b)=decide (x≠b);rw[decide_eq_decide];exact⟨λz y=>z (by rw[y]),λz y=>z (aLX y)⟩
theorem AG{kvs:List (Key×V)}(k:Key):(aK kvs k).isSome=true↔k∈kvs.map Prod.fst:=by
 rw[<-IW,any_eq_true,mem_map];exact⟨λ⟨q,h1,h2⟩=>⟨q,h1,by simpa using h2⟩,λ⟨q,h1,h2⟩=>⟨q,h1,by simpa using h2⟩⟩
structure aB(K:W.Frag)(H:Hp)(p:Addr)(sh pl:Int)(ru:Str)(ls:Addr)(au:List Addr)(du:Addr)(seq:List Int)(us:Int->Int)(n:Nat):Prop where
 ob:∃dx,H p=some (.ins (af K "Room") dx (gH sh pl ru ls du))
 st:uY H ls au sh seq
 dc:∃kvs,H du=some (.dK kvs)/\(kvs.length<=n/\KI kvs)/\∀b,aK kvs (Sum.inl b:Key)=if b∈seq then some (.int (us b)) else none
 nd:seq.Nodup
 s0:1<=sh
 s1:sh<=64
def SR(au:List Addr)(du:Addr)(H H':Hp):Prop:=∀b o,H b=some o->b≠du->b∉au->H' b=some o
theorem SR.of{au:List Addr}{du:Addr}{H H':Hp}(s:av H H'):SR au du H H':=λb o h _ _=>s b o h
theorem SR.trans{au:List Addr}{du:Addr}{H H1 H2:Hp}(a:SR au du H H1)(b:SR au du H1 H2):SR au du H H2:=λc o h n1 n2=>b c o (a c o h n1 n2) n1 n2
section
variable{K:W.Frag}{H H':Hp}{p:Addr}{sh pl:Int}{ru:Str}{ls:Addr}{au:List Addr}{du:Addr}{seq:List Int}{us:Int->Int}{n:Nat}
theorem aB.off(R:aB K H p sh pl ru ls au du seq us n):p≠du/\p∉au/\ls≠du/\ls∉au/\du∉au/\p≠ls:=by
 obtain⟨dx,h1⟩:=R.ob;obtain⟨kvs,h2,_⟩:=R.dc;refine⟨λz=>?_,λz=>?_,λz=>?_,R.st.off,λz=>?_,λz=>?_⟩
 .rw [z,h2]at h1;cases h1
 .obtain ⟨xs,e⟩:=R.st.one z;rw[e]at h1;cases h1
 .have e:=R.st.top;rw[z,h2]at e;cases e
 .obtain ⟨xs,e⟩:=R.st.one z;rw[e]at h2;cases h2
 .have e:=R.st.top;rw[<-z,h1]at e;cases e
theorem aB.same(R:aB K H p sh pl ru ls au du seq us n)(s:av H H'):aB K H' p sh pl ru ls au du seq us n:=by
 obtain⟨dx,h1⟩:=R.ob;obtain⟨kvs,h2,h3⟩:=R.dc;exact⟨⟨dx,s _ _ h1⟩,⟨s _ _ R.st.top,R.st.len,R.st.nd,R.st.off,λi ad e=>s _ _ (R.st.at_ i ad e)⟩,⟨kvs,s _ _ h2,h3⟩,R.nd,R.s0,R.s1⟩
theorem SR.keep{o:HO}{b:Addr}(s:SR au du H H')(R:aB K H p sh pl ru ls au du seq us n)(h:H b=some o)(n1:∀kvs,o≠.dK kvs)(n2:∀xs,o≠.lst xs):H' b=some o:=by
 refine s _ _ h (λz=>?_) λz=>?_
 .obtain ⟨kvs,e,_⟩:=R.dc;rw[z,e]at h;exact n1 kvs (asK h).symm
 .obtain ⟨xs,e⟩:=R.st.one z;rw[e]at h;exact n2 xs (asK h).symm
theorem aB.FI(R:aB K H p sh pl ru ls au du seq us n)(b:Int):∃(s:Nat)(ad:Addr),(s:Int)=b%sh/\au[s]?=some ad/\eG (au.map V.ref) (b%sh)=some (.ref ad)/\H ad=some (.lst ((Zp sh (b%sh) seq).map V.int)):=by
 have h0:=R.s0;exact R.st.get (avQ _ (by lia)) (aGX _ (by lia))
end
inductive t7(vs:List V)(H:Hp)(Q:VK)(E:XK):Prop
 |mk (sh b:Int):vs=[.int sh,.int b]->1<=sh->Q (.int (b%sh)) H->t7 vs H Q E
example:(qN Hg):=by
 obtain⟨sh,b,rfl,h0,k⟩:=h;refine⟨_,(Zg (Zs (aj vK (pv 1) (pv 0)))),?_⟩;exact⟨_,rfl,_,rfl,_,_,rfl,rfl,(by show 0<sh;lia),k⟩
inductive Bg(K:W.Frag)(vs:List V)(H:Hp)(Q:VK)(E:XK):Prop
 |mk (p:Addr) (b sh pl:Int) (ru:Str) (ls:Addr) (au:List Addr) (du:Addr) (seq:List Int) (us:Int->Int) (n:Nat):vs=[.ref p,.int b]->aB K H p sh pl ru ls au du seq us n->Q (.bl (decide (b∈seq))) H->Bg K vs H Q E
example:(qQ xO):=by
 obtain⟨p,b,sh,pl,ru,ls,au,du,seq,us,n,rfl,R,k⟩:=h;refine⟨_,(Zg (Zs (Sg (R7 hu (pv 1) (Zk (K:=K) rfl (pv 0) rfl))))),?_⟩;obtain⟨dx,h1⟩:=R.ob;obtain⟨kvs,h2,h3,h4⟩:=R.dc;refine⟨_,rfl,_,rfl,p,_,dx,_,_,rfl,h1,T.fH,T.Ct,EJ ..,du,_,rfl,dg.k (k:=Sum.inl b) h2,?_⟩;rw[h4 b];by_cases c:b∈seq
 .rw [auJ c];rw[a5h c]at k;exact k
 .rw [ale c];rw[aKy c]at k;exact k
inductive ue(K:W.Frag)(vs:List V)(H:Hp)(Q:VK)(E:XK):Prop
 |mk (p:Addr) (b sh pl:Int) (ru:Str) (ls:Addr) (au:List Addr) (du:Addr) (seq:List Int) (us:Int->Int) (n:Nat):vs=[.ref p,.int b]->aB K H p sh pl ru ls au du seq us n->(∀(s:Nat)(ad:Addr),(s:Int)=b%sh->au[s]?=some ad->H ad=some (.lst ((Zp sh (b%sh) seq).map V.int))->Q (.ref ad) H)->ue K vs H Q E
example:(mW uG Hg):=by
 obtain⟨p,b,sh,pl,ru,ls,au,du,seq,us,n,rfl,R,k⟩:=h;refine⟨_,(Zg (Zs (ak (Zl (K:=K) rfl) (Zk (K:=K) rfl (pv 0) rfl) (Zm Hg hr.m rfl (pc (Zk (K:=K) rfl (pv 0) rfl) (pc (pv 1) Zb))) (λ_ _=>rfl)))),?_⟩;obtain⟨dx,h1⟩:=R.ob;obtain⟨s,ad,e1,e2,e3,e4⟩:=R.FI b;exact⟨_,rfl,p,_,dx,_,_,rfl,h1,T.fH,T.Qn,Zez ..,_,rfl,p,_,dx,_,_,rfl,h1,T.fH,T.Qm,ZfX ..,_,rfl,sh,b,rfl,R.s0,ls,_,_,_,rfl,rfl,ao.of R.st.top,e3,k s ad e1 e2 e4⟩
inductive wU(K:W.Frag)(vs:List V)(H:Hp)(Q:VK)(E:XK):Prop
 |mk (p:Addr) (b sh pl:Int) (ru:Str) (ls:Addr) (au:List Addr) (du:Addr) (seq:List Int) (us:Int->Int) (n:Nat):vs=[.ref p,.int b]->aB K H p sh pl ru ls au du seq us n->b∈seq->Q .aO H->wU K vs H Q E
example:(pA xH xO):=by
 obtain⟨p,b,sh,pl,ru,ls,au,du,seq,us,n,rfl,R,hb,k⟩:=h;refine⟨_,(Zg (aE (zk (ZI (Zj xO hr.m T.fH (pv 0) (pc (pv 1) Zb)))) (Zg xP) Zt)),?_⟩;obtain⟨dx,h1⟩:=R.ob;refine⟨_,rfl,p,dx,_,rfl,h1,bS ..,_,rfl,p,b,sh,pl,ru,ls,au,du,seq,us,n,rfl,R,?_⟩;rw[a5h hb];exact⟨_,rfl,bK rfl k⟩
inductive kB(K:W.Frag)(vs:List V)(H:Hp)(Q:VK)(E:XK):Prop
 |mk (p m:Addr) (ms:List Int) (sh pl:Int) (ru:Str) (ls:Addr) (au:List Addr) (du:Addr) (seq:List Int) (us:Int->Int) (n:Nat):vs=[.ref p,.ref m]->aB K H p sh pl ru ls au du seq us n->Tb K H->H m=some (.lst (ms.map V.int))->ms.length<64->ms.Nodup->(∀b∈ms,b∈seq)->(∀(D:Addr)(H':Hp)(os:List Int),H D=none->av H H'->H' D=some (.lst (os.map V.int))->os.Perm ms->(ru ="few" ->os.Pairwise (AU us ms))->(ru ≠ "few" ->os=ms)->Q (.ref D) H')->kB K vs H Q E
theorem Zdo{f tp cg:Addr}{fd:FuncData}(F:vf K "going" "Room.going" aS f fd)(hfc:fd.code=.ref cg)(htp:tabOf K "Room" "going"=tp)(hch:W.codeHdIn K cg tp=true)(bm:BMod base mg)(T:Txt K mg):cM P w K mg base p8 2 f fd cz (kB K):=by
 refine F.WH fX (λvs H Q E h=>?_) (λcdv A outer st H vs Q E Yc hr h=>?_)
 .obtain ⟨p,m,ms,sh,pl,ru,ls,au,du,seq,us,n,rfl,_⟩:=h;rfl
 obtain ⟨p,m,ms,sh,pl,ru,ls,au,du,seq,us,n,rfl,R,tb,hm,h64,hnd,hin,k⟩:=h;have nd:=fX.nd;have hu:=BJ hr;have hc0:cdv=.ref cg:=Yc.symm.trans hfc;refine⟨_,(Ze (aE (Zu aW (Zk (K:=K) rfl (pv 0) rfl) ZU (Zw _)) (Zg (Zs (Zip (X:=(rA p8 P w K mg base iM "Room.going" (Zq aS) f cdv A outer st H E).CP) (K:=K) (P:=tp) (c0:=cg) rfl hr rfl rfl T.A4 (Zio (gB:=(Zq aS)) (oN:=iM) (x:="board") (fr:=["self"]) (js:=[0]) (by decide +kernel) rfl rfl) hc0 hch bm rfl rfl rfl (λ_ _ _ _ _=>rfl) (pv 1) (λ_ _ _ _ _=>(IK (ZkS hr) (Zk (K:=K) rfl (pv 1) rfl) (pv 0) (λ_ _=>rfl)))))) Zt)
   (Zg (Zs (ZE (Lj (K:=K) rfl) rfl T.wG ZR (pc (pv 1) Zb))))),?_⟩
 obtain⟨dx,h1⟩:=R.ob;obtain⟨kvs,h2,h3,h4⟩:=R.dc;refine⟨_,rfl,p,_,dx,_,_,rfl,h1,T.fH,T.MB,Ss ..,rfl,_,rfl,?_⟩;refine yE (λc=>?_) (λc=>?_)
 .have c':ru ="few":=by injection c
  have tb':H tp=some (.oF tpos wI):=by
   have t:=tb;unfold Tb at t;rw[htp]at t;exact t
  refine⟨_,rfl,m,ms,us,rfl,ao.of hm,h64,hnd,tb',λz hz H2 sm=>?_,λD H' os hD sm hl po so=>k D H' os hD sm hl po (λ_=>so) λz=>absurd c' z⟩;have v:=h4 z;rw[auJ (hin z hz)]at v;exact⟨_,rfl,p,_,dx,_,_,rfl,sm _ _ h1,T.fH,T.Ct,EJ ..,_,rfl,du,_,rfl,(by have q:=dg.k (k:=Sum.inl z) (sm _ _ h2);rw[v]at q;exact q),rfl,rfl⟩
 .have c':¬ru ="few":= λz=>c (by rw[z]);exact⟨_,rfl,m,_,rfl,.inl (ao.of hm),λD hD=>k D _ ms hD (Zd hD _) Za (List.Perm.refl _) (λz=>absurd z c') λ_=>rfl⟩
theorem IQ{kvs:List (Key×V)}{k:Key}(j:Key):aK (aU kvs k) j=if j=k then none else aK kvs j:=by
 induction kvs with
 |nil=>by_cases e:j=k <;> simp[aU,aK,e]
 |cons q r ih=>
  by_cases e:q.1=k
  .rw [ZgI e,ih];by_cases c:j=k
   .rw [auJ c,auJ c]
   .rw [ale c,ale c,ZM (λz=>c (z.symm.trans e))]
  .rw [ZgJ e];by_cases c:q.1=j
   .rw [ZO c,ale (λz=>e (c.trans z)),ZO c]
   .rw [ZM c,ih,ZM c]
theorem Zhn(kvs:List (Key×V))(k:Key):(aU kvs k).length<=kvs.length:=a81 ..
inductive xg(K:W.Frag)(vs:List V)(H:Hp)(Q:VK)(E:XK):Prop
 |mk (p:Addr) (b sh pl:Int) (ru:Str) (ls:Addr) (au:List Addr) (du:Addr) (seq:List Int) (us:Int->Int) (n:Nat):vs=[.ref p,.int b]->aB K H p sh pl ru ls au du seq us n->b∈seq->(∀H',aB K H' p sh pl ru ls au du (seq.erase b) us n->SR au du H H'->Q .aO H')->xg K vs H Q E
example:(pC A3 xH uG):=by
 obtain ⟨p,b,sh,pl,ru,ls,au,du,seq,us,n,rfl,R,hb,k⟩:=h;refine⟨_,(Ze (Zr (Zj xH hr.m T.fH (pv 0) (pc (pv 1) Zb)))
   (Ze (Zr (wu (K:=K) rfl (dZ aRz PySem.F.slot_list_remove PySem.F.type_list_remove Uo (Zj uG hr.m T.fH (pv 0) (pc (pv 1) Zb)) (pc (pv 1) Zb))))
   (Zg (Zr (OC (Zk (K:=K) rfl (pv 0) rfl) (pv 1) ⟨rfl,rfl,rfl,rfl⟩))))),?_⟩
 obtain⟨dx,h1⟩:=R.ob;obtain⟨kvs,h2,h3,h4⟩:=R.dc;obtain⟨o1,o2,o3,o4,o5,o6⟩:=R.off;refine⟨_,rfl,p,dx,_,rfl,h1,bS ..,_,rfl,p,b,sh,pl,ru,ls,au,du,seq,us,n,rfl,R,hb,?_⟩;refine⟨_,rfl,p,dx,_,rfl,h1,bS ..,_,rfl,p,b,sh,pl,ru,ls,au,du,seq,us,n,rfl,R,λs ad es hs had=>?_⟩;have yd:ad∈au:=aHL hs;have hmem:b∈Zp sh (b%sh) seq:=bu.mpr ⟨hb,rfl⟩;refine⟨.inl ⟨rfl,_,ao.of had⟩,_,rfl,ad,_,b,rfl,rfl,had,hmem,?_⟩;have S1:uY (upd H ad (.lst (((Zp sh (b%sh) seq).erase b).map V.int))) ls au sh (seq.erase b):=by
  refine R.st.put hs ?_ λs' hs'=>?_
  .rw [Jc,es]
  .rw [Jc];exact aDq λm=>hs' (by have:=(bu.mp m).2;lia)
 have np:p≠ad:=λz=>o2 (z ▸yd);have J6:du≠ad:=λz=>o5 (z ▸yd);have sS:upd H ad (.lst (((Zp sh (b%sh) seq).erase b).map V.int)) p=some (.ins (af K "Room") dx (gH sh pl ru ls du)):=by rw[Zc np];exact h1
 have h2':upd H ad (.lst (((Zp sh (b%sh) seq).erase b).map V.int)) du=some (.dK kvs):=by rw[Zc J6];exact h2
 refine⟨_,rfl,p,_,dx,_,_,rfl,sS,T.fH,T.Ct,EJ ..,du,rfl,.inl ⟨_,.inl h2'⟩,_,rfl,kvs,Sum.inl b,_,h2',rfl,(by rw[h4 b,auJ hb]),?_⟩;refine k _ ⟨⟨dx,by rw[Zc o1];exact sS⟩,S1.other _ (aWz o3) o5,⟨_,Za,⟨atR (Zhn _ _) h3.1,h3.2.drop b⟩,λx=>?_⟩,R.nd.erase b,R.s0,R.s1⟩ λx o e n1 n2=>?_
 .rw [IQ,h4 x];by_cases c:x=b
  .subst c;rw[auJ rfl,ale (λm=>((a29 R.nd).mp m).1 rfl)]
  .rw [ale (λz=>c (aLX z))];by_cases m:x∈seq
   .rw [auJ m,auJ ((a29 R.nd).mpr ⟨c,m⟩)]
   .rw [ale m,ale (λz=>m (ajm z))]
 .rw [Zc n1,Zc (λz:x=ad=>n2 (z ▸yd))];exact e
def bump(us:Int->Int)(b:Int):Int->Int:=λx=>if x=b then us b+1 else us x
inductive A8(K:W.Frag)(vs:List V)(H:Hp)(Q:VK)(E:XK):Prop
 |mk (p:Addr) (b sh pl:Int) (ru:Str) (ls:Addr) (au:List Addr) (du:Addr) (seq:List Int) (us:Int->Int) (n:Nat):vs=[.ref p,.int b]->aB K H p sh pl ru ls au du seq us n->n<=900->b∈seq->seq.length<=900->(∀H',aB K H' p sh pl ru ls au du (if ru ="old" then seq.erase b++[b] else seq) (bump us b) (n+1)->SR au du H H'->Q .aO H')->A8 K vs H Q E
example:(qP GZ xH uG):=by
 obtain ⟨p,b,sh,pl,ru,ls,au,du,seq,us,n,rfl,R,hn,hb,hsl,k⟩:=h;refine⟨_,(Ze (Zr (Zj xH hr.m T.fH (pv 0) (pc (pv 1) Zb)))
   (Ze (ZjJ hu (Zk (K:=K) rfl (pv 0) rfl) (pv 1) Zi ZkD (λ_ _ _=>rfl))
   (Zg (aE (Zu aW (Zk (K:=K) rfl (pv 0) rfl) ZU (Zw _)) (Ze (cX 2 nd (Zj uG hr.m T.fH (pv 0) (pc (pv 1) Zb)))
   (Ze (Zr (wu (K:=K) rfl (dZ aRz PySem.F.slot_list_remove PySem.F.type_list_remove Uo (pv 2) (pc (pv 1) Zb))))
   (Zg (Zr (wu (K:=K) rfl (dZ aRz aeo a8O ZZ (pv 2) (pc (pv 1) Zb))))))) Zt)))),?_⟩
 obtain⟨dx,h1⟩:=R.ob;obtain⟨kvs,h2,h3,h4⟩:=R.dc;obtain⟨o1,o2,o3,o4,o5,o6⟩:=R.off;refine⟨_,rfl,p,dx,_,rfl,h1,bS ..,_,rfl,p,b,sh,pl,ru,ls,au,du,seq,us,n,rfl,R,hb,?_⟩;refine⟨_,rfl,p,_,dx,_,_,rfl,h1,T.fH,T.Ct,EJ ..,_,rfl,du,_,rfl,(by have q:=dg.k (k:=Sum.inl b) h2;rw[h4 b,auJ hb]at q;exact q),_,_,rfl,rfl,_,mF.k (k:=Sum.inl b) h2 (Zv (by lia)),?_⟩;have R1:aB K (upd H du (.dK (putK kvs (Sum.inl b) (.int (us b+1))))) p sh pl ru ls au du seq (bump us b) (n+1):=by
  refine⟨⟨dx,by rw[Zc o1];exact h1⟩,R.st.other _ (aWz o3) o5,⟨_,Za,⟨atR (Ja ..) (by have:=h3.1;lia),h3.2.put b _⟩,λx=>?_⟩,R.nd,R.s0,R.s1⟩;rw[ER];unfold bump;by_cases c:x=b
  .subst c;rw[auJ rfl,auJ hb,auJ rfl]
  .rw [ale (λz=>c (aLX z)),h4 x,ale c]
 have s1:SR au du H (upd H du (.dK (putK kvs (Sum.inl b) (.int (us b+1))))):=λx o e n1 n2=>by rw[Zc n1];exact e
 generalize upd H du (.dK (putK kvs (Sum.inl b) (.int (us b+1))))=H1 at *;obtain⟨fK,g1⟩:=R1.ob;refine⟨_,rfl,p,_,fK,_,_,rfl,g1,T.fH,T.MB,Ss ..,rfl,_,rfl,?_⟩;refine yE (λc=>?_) (λc=>?_)
 .have c':ru ="old":=by injection c
  rw[auJ c']at k;refine⟨_,rfl,p,fK,_,rfl,g1,bS ..,_,rfl,p,b,sh,pl,ru,ls,au,du,seq,_,_,rfl,R1,λs ad es hs had=>?_⟩;have yd:ad∈au:=aHL hs;have hmem:b∈Zp sh (b%sh) seq:=bu.mpr ⟨hb,rfl⟩;refine⟨_,rfl,.inl ⟨rfl,_,ao.of had⟩,_,rfl,ad,_,b,rfl,rfl,had,hmem,?_⟩;have ll:((Zp sh (b%sh) seq).erase b).length<=900:=atR List.length_erase_le (atR (a81 ..) hsl);refine⟨_,rfl,.inl ⟨rfl,_,ao.of Za⟩,_,rfl,ad,_,_,rfl,rfl,Za,Zv (by rw[apM];lia),?_⟩;rw[K7];have e1:(((Zp sh (b%sh) seq).erase b).map V.int++[V.int b])=((Zp sh (b%sh) seq).erase b++[b]).map V.int:=by rw[afk];rfl
  have S2:uY (upd H1 ad (.lst (((Zp sh (b%sh) seq).erase b++[b]).map V.int))) ls au sh (seq.erase b++[b]):=by
   refine R1.st.put hs ?_ λs' hs'=>?_
   .rw [Jg,auJ es.symm,Jc,es]
   .rw [Jg,ale (by lia),Jc];exact aDq λm=>hs' (by have:=(bu.mp m).2;lia)
  have np:p≠ad:=λz=>o2 (z ▸yd);have Mg:du≠ad:=λz=>o5 (z ▸yd);obtain⟨My,g2,g3,g4⟩:=R1.dc;have QB:∀x,x∈seq.erase b++[b]↔x∈seq:=λx=>by
   rw[mem_append,mem_singleton,a29 R.nd];constructor
   .rintro (⟨_,m⟩|rfl)
    .exact m
    .exact hb
   .intro m;by_cases z:x=b
    .exact .inr z
    .exact .inl ⟨z,m⟩
  rw[e1];refine k _ ⟨⟨fK,by rw[Zc np];exact g1⟩,S2,⟨My,by rw[Zc Mg];exact g2,g3,λx=>?_⟩,?_,R.s0,R.s1⟩ λx o e n1 n2=>?_
  .rw [g4 x];by_cases m:x∈seq
   .rw [auJ m,auJ ((QB x).mpr m)]
   .rw [ale m,ale (λz=>m ((QB x).mp z))]
  .refine EM (R.nd.erase b) λm=>((a29 R.nd).mp m).1 rfl
  .rw [Zc (λz:x=ad=>n2 (z ▸yd))];exact s1 _ _ e n1 n2
 .have c':¬ru ="old":= λz=>c (by rw[z]);rw[ale c']at k;exact k _ R1 s1
def cS(seq:List Int):Option Int->List Int
 |none=>seq
 |some g=>seq.erase g
def d8(ru:Str)(us:Int->Int)(pl:Int)(ms:List Int)(gone:Option Int):Prop:=
 ((ms.length:Int)<pl->gone=none)/\(¬(ms.length:Int)<pl->∃(g:Int)(rest:List Int),gone=some g/\(g ::rest).Perm ms/\(ru ="few" ->(g ::rest).Pairwise (AU us ms))/\(ru ≠ "few" ->g ::rest=ms))
theorem qX{seq:List Int}{g:Option Int}:(cS seq g).Sublist seq:=by
 cases g with
 |none=>exact List.Sublist.refl _
 |some g=>exact List.erase_sublist
inductive wO(K:W.Frag)(vs:List V)(H:Hp)(Q:VK)(E:XK):Prop
 |mk (p dx:Addr) (sh pl:Int) (ru:Str):vs=[.ref p,.int sh,.int pl,.str ru]->H p=some (.ins (af K "Room") dx [])->1<=sh->sh<=64->(∀(ls:Addr)(au:List Addr)(du:Addr)(H':Hp),aB K H' p sh pl ru ls au du [] (λ_=>0) 0->H ls=none->H du=none->(∀ad∈au,H ad=none)->(∀b o,H b=some o->b≠p->H' b=some o)->Q .aO H')->wO K vs H Q E
example:(pB GQ):=by
 obtain ⟨p,dx,sh,pl,ru,rfl,hp,hs0,hs1,k⟩:=h;refine⟨_,(Ze (rH (pv 0) (pv 1) rfl)
   (Ze (rH (pv 0) (pv 2) rfl)
   (Ze (rH (pv 0) (pv 3) rfl)
   (Ze (rH (pv 0) (ZL (Zx (gB:=(Zq fk)) (oN:=rW) (N:=["number"]) (own:=1) (js:=[]) (by decide +kernel) rfl rfl) rfl (ZY rfl T.vh (pc (pv 1) Zb)) (λ_ _ _ _ _ _=>(bE 0 (show List.Nodup (["number"]:List Str) by decide +kernel))) (λ_ _ _ _ _ _=>(ZV Zb))) rfl)
   (Zg (rH (pv 0) IV rfl)))))),?_⟩
 refine⟨_,rfl,_,rfl,p,_,dx,_,rfl,hp,T.fH,T.Qm,(by show 0<1000;decide),?_⟩;refine⟨_,rfl,_,rfl,p,_,dx,_,rfl,Za,T.fH,T.Ql,(by show 1<1000;decide),?_⟩;refine⟨_,rfl,_,rfl,p,_,dx,_,rfl,Za,T.fH,T.MB,(by show 2<1000;decide),?_⟩;have e3:upd (upd (upd H p (.ins (af K "Room") dx (ah "shelves" (.int sh) []))) p (.ins (af K "Room") dx (ah "places" (.int pl) (ah "shelves" (.int sh) [])))) p (.ins (af K "Room") dx (ah "rule" (.str ru) (ah "places" (.int pl) (ah "shelves" (.int sh) [])))) p=some (.ins (af K "Room") dx (ah "rule" (.str ru) (ah "places" (.int pl) (ah "shelves" (.int sh) [])))):=Za;have o3:∀b o,H b=some o->b≠p->upd (upd (upd H p (.ins (af K "Room") dx (ah "shelves" (.int sh) []))) p (.ins (af K "Room") dx (ah "places" (.int pl) (ah "shelves" (.int sh) [])))) p (.ins (af K "Room") dx (ah "rule" (.str ru) (ah "places" (.int pl) (ah "shelves" (.int sh) [])))) b=some o:=λb o e n=>by rw[Zc n,Zc n,Zc n];exact e
 generalize upd (upd (upd H p (.ins (af K "Room") dx (ah "shelves" (.int sh) []))) p (.ins (af K "Room") dx (ah "places" (.int pl) (ah "shelves" (.int sh) [])))) p (.ins (af K "Room") dx (ah "rule" (.str ru) (ah "places" (.int pl) (ah "shelves" (.int sh) []))))=H3 at *;have f3:∀b,H3 b=none->H b=none:=λb e=>by
  cases q:H b with
  |none=>rfl
  |some o=>
   by_cases z:b=p
   .rw [z,e3]at e;cases e
   .rw [o3 b o q z]at e;cases e
 refine⟨_,rfl,sh,rfl,by lia,by lia,λls hls=>?_⟩;refine DM (lo:=0) (n:=sh.toNat) (l:=ls) (λj ys σ G=>∃(v0:Option V)(au:List Addr),σ=[v0]/\ys=au.map V.ref/\au.length=j/\au.Nodup/\ls∉au/\G ls=some (.lst ys)/\(∀ad∈au,H3 ad=none/\G ad=some (.lst []))/\av H3 G)
  ⟨none,[],rfl,rfl,rfl,nodup_nil,by simp,Za,by simp,Zd hls _⟩ ?_ ?_
 .rintro j ys σ G hj hy ⟨v0,au,rfl,rfl,hlen,hnd,hoff,g1,g2,s1⟩;refine⟨(sL 0),λq hq=>?_⟩;have nq:ls≠q:=Zf g1 hq;have PU:q∉au:=λm=>by rw[(g2 q m).2]at hq;cases hq
  refine gu.of (atR (by lia:sh.toNat<=64) (by decide)) hj hy (by rw[Zc nq];exact g1) ⟨_,au++[q],rfl,by rw[afk];rfl,by rw[akn,hlen];rfl,EM hnd PU,?_,Za,λad m=>?_,?_⟩
  .intro m;rcases aXY.mp m with m|m
   .exact hoff m
   .exact nq (by simpa using m)
  .rcases aXY.mp m with m|m
   .rw [Zc (λz:ad=ls=>hoff (z ▸m)),Zc (λz:ad=q=>PU (z ▸m))];exact g2 ad m
   .have e:ad=q:=by simpa using m
    subst e;rw[Zc (aWz nq)];exact⟨s1.free hq,Za⟩
  .intro e o y;rw[Zc (Zf y hls),Zc (Zf (s1 _ _ y) hq)];exact s1 _ _ y
 rintro ys σ G hy ⟨v0,au,rfl,rfl,hlen,hnd,hoff,g1,g2,s1⟩;have gp:=s1 _ _ e3;refine⟨_,rfl,p,_,dx,_,rfl,gp,T.fH,T.Qn,(by show 3<1000;decide),?_⟩;intro du Ar;have Mf:ls≠p:=λz=>by rw[z,e3]at hls;cases hls
 have P6:∀ad∈au,ad≠p:=λad m z=>by have q:=(g2 ad m).1;rw[z,e3]at q;cases q
 have Gs:p≠du:=Zf (Za (H:=G) (a:=p) (o:=.ins (af K "Room") dx (ah "standing" (.ref ls) (ah "rule" (.str ru) (ah "places" (.int pl) (ah "shelves" (.int sh) [])))))) Ar;have gl:ls≠du:=λz=>by rw[<-z,Zc Mf,g1]at Ar;cases Ar
 have ga:du∉au:=λm=>by rw[Zc (aWz Gs),(g2 du m).2]at Ar;cases Ar
 refine⟨_,rfl,p,_,dx,_,rfl,(by rw[Zc Gs];exact Za),T.fH,T.Ct,(by show 4<1000;decide),?_⟩;have HL:H3 du=none:=by
  rw[Zc (aWz Gs)]at Ar;exact s1.free Ar
 refine k ls au du _ ⟨⟨dx,Za⟩,⟨?_,hlen,hnd,hoff,λi ad e=>?_⟩,⟨[],?_,⟨aI1 _,KI.nil⟩,λb=>by simp[aK]⟩,nodup_nil,hs0,hs1⟩ (f3 _ hls) (f3 _ HL) (λad m=>f3 _ (g2 ad m).1) λb o e n=>?_
 .rw [Zc Mf,Zc gl,Zc Mf];exact g1
 .have m:=aHL e;rw[Zc (P6 ad m),Zc (λz:ad=du=>ga (z ▸m)),Zc (P6 ad m)];exact(g2 ad m).2
 .rw [Zc (aWz Gs)];exact Za
 .have q:=s1 _ _ (o3 b o e n);have nb:b≠du:=λz=>by
   rw[<-z,Zc n,q]at Ar;cases Ar
  rw[Zc n,Zc nb,Zc n];exact q
def zero(us:Int->Int)(b:Int):Int->Int:=λx=>if x=b then 0 else us x
inductive uq(K:W.Frag)(vs:List V)(H:Hp)(Q:VK)(E:XK):Prop
 |mk (p:Addr) (b sh pl:Int) (ru:Str) (ls:Addr) (au:List Addr) (du:Addr) (seq:List Int) (us:Int->Int) (n:Nat):vs=[.ref p,.int b]->aB K H p sh pl ru ls au du seq us n->Tb K H->n<=900->b∉seq->1<=pl->(Zp sh (b%sh) seq).length<64->(∀(gone:Option Int)(H':Hp),d8 ru us pl (Zp sh (b%sh) seq) gone->aB K H' p sh pl ru ls au du (cS seq gone++[b]) (zero us b) (n+1)->SR au du H H'->Q (vq gone) H')->uq K vs H Q E
inductive qq(K:W.Frag)(vs:List V)(H:Hp)(Q:VK)(E:XK):Prop
 |mk (p:Addr) (b sh pl:Int) (ru:Str) (ls:Addr) (au:List Addr) (du:Addr) (seq:List Int) (us:Int->Int) (n:Nat):vs=[.ref p,.int b]->aB K H p sh pl ru ls au du seq us n->Tb K H->1<=pl->(Zp sh (b%sh) seq).length<64->(∀(gone:Option Int)(H':Hp),d8 ru us pl (Zp sh (b%sh) seq) gone->av H H'->Q (vq gone) H')->qq K vs H Q E
example:(gC Bx uG Fi):=by
 obtain ⟨p,b,sh,pl,ru,ls,au,du,seq,us,n,rfl,R,tb,hpl,h64,k⟩:=h;refine⟨_,(Ze (cX 2 nd (Zj uG hr.m T.fH (pv 0) (pc (pv 1) Zb)))
   (Ze (aE (Zu qL (Zo (ZF (K:=K) rfl) rfl T.we aUV (pc (pv 2) Zb)) (Zk (K:=K) rfl (pv 0) rfl) (Zw _)) (Zg (Zs Sh)) Zt)
   (Zg (Zs (ak (Zl (K:=K) rfl) (Zj Fi hr.m T.fH (pv 0) (pc (pv 2) Zb)) Zi (λ_ _=>rfl)))))),?_⟩
 obtain⟨dx,h1⟩:=R.ob;refine⟨_,rfl,p,dx,_,rfl,h1,bS ..,_,rfl,p,b,sh,pl,ru,ls,au,du,seq,us,n,rfl,R,λs ad es hs had=>?_⟩;have hnd:(Zp sh (b%sh) seq).Nodup:=R.nd.sublist filter_sublist;refine⟨_,rfl,ad,_,rfl,.inl (ao.of had),_,rfl,p,_,dx,_,_,rfl,h1,T.fH,T.Ql,Zhm ..,_,_,rfl,rfl,_,rfl,?_⟩;rw[apM];refine yE (λc=>?_) (λc=>?_)
 .exact k none H ⟨λ_=>rfl,λz=>absurd z (by lia)⟩ (av.refl _)
 .refine ⟨_,rfl,p,dx,_,rfl,h1,bS ..,_,rfl,p,ad,Zp sh (b%sh) seq,sh,pl,ru,ls,au,du,seq,us,n,rfl,R,tb,had,h64,hnd,(λx m=>(bu.mp m).1),λD H' os hD sm hl po s1 s2=>?_⟩;have lo:=po.length_eq
  match os,hl,po,s1,s2,lo with
  | [],_,_,_,_,lo=>exact absurd lo (by simp;lia)
  |g ::rest,hl,po,s1,s2,lo=>
   refine⟨D,_,_,_,rfl,rfl,ao.of hl,cO,?_⟩;exact k (some g) H' ⟨λz=>absurd c (by lia),λ_=>⟨g,rest,rfl,po,s1,s2⟩⟩ sm
example:(mZ Fl xO Bx uG A3):=by
 obtain ⟨p,b,sh,pl,ru,ls,au,du,seq,us,n,rfl,R,tb,hn,hb,hpl,h64,k⟩:=h;refine⟨_,(Ze (aE (ZI (Zj xO hr.m T.fH (pv 0) (pc (pv 1) Zb))) (Zg xP) Zt)
   (Ze (cX 2 nd (Zj Bx hr.m T.fH (pv 0) (pc (pv 1) Zb)))
   (Ze (aE (KN (N2 (pv 2))) (Zg (Zr (Zj A3 hr.m T.fH (pv 0) (pc (pv 2) Zb)))) Zt)
   (Ze (Zr (wu (K:=K) rfl (dZ aRz aeo a8O ZZ (Zj uG hr.m T.fH (pv 0) (pc (pv 1) Zb)) (pc (pv 1) Zb))))
   (Ze (IJ hu (Zk (K:=K) rfl (pv 0) rfl) (pv 1) Zi rfl)
   (Zg (Zs (pv 2)))))))),?_⟩
 obtain⟨dx,h1⟩:=R.ob;refine⟨_,rfl,p,dx,_,rfl,h1,bS ..,_,rfl,p,b,sh,pl,ru,ls,au,du,seq,us,n,rfl,R,?_⟩;rw[aKy hb];refine⟨_,rfl,bK rfl ?_⟩;refine⟨_,rfl,p,dx,_,rfl,h1,bS ..,_,rfl,p,b,sh,pl,ru,ls,au,du,seq,us,n,rfl,R,tb,hpl,h64,λgone H1 gp sm=>?_⟩;refine gN ?_;dsimp only;have R0:=R.same sm;have hnd:(Zp sh (b%sh) seq).Nodup:=R.nd.sublist filter_sublist;refine Dv (λσ G=>σ=[some (.ref p),some (.int b),some (vq gone)]/\aB K G p sh pl ru ls au du (cS seq gone) us n/\SR au du H G) (λD' _ k'=>?_) ?_
 .match gone,gp with
  |none,gp=>exact⟨_,rfl,_,rfl,bK rfl (k' _ _ ⟨rfl,R0,SR.of sm⟩)⟩
  |some g,gp=>
   have hg:g∈Zp sh (b%sh) seq:=by
    by_cases c:((Zp sh (b%sh) seq).length:Int)<pl
    .exact absurd (gp.1 c) (by simp)
    .obtain ⟨g',rest,e,po,_⟩:=gp.2 c;injection e with e
     subst e;exact po.mem_iff.mp bcs
   obtain⟨Dt,sS⟩:=R0.ob;exact⟨_,rfl,_,rfl,cB rfl ⟨_,rfl,p,Dt,_,rfl,sS,bS ..,_,rfl,p,g,sh,pl,ru,ls,au,du,seq,us,n,rfl,R0,(bu.mp hg).1,λH2 R2 s3=>k' _ _ ⟨rfl,R2,(SR.of sm).trans s3⟩⟩⟩
 rintro _ G ⟨rfl,R1,s1⟩;obtain⟨fK,g1⟩:=R1.ob;obtain⟨kvs,g2,g3,g4⟩:=R1.dc;obtain⟨o1,o2,o3,o4,o5,o6⟩:=R1.off;refine⟨_,rfl,p,fK,_,rfl,g1,bS ..,_,rfl,p,b,sh,pl,ru,ls,au,du,cS seq gone,us,n,rfl,R1,λs ad es hs Yk=>?_⟩;have yd:ad∈au:=aHL hs;have HM:=R1.st.at_ s ad hs;have ll:(Zp sh s (cS seq gone)).length<=64:=by
  have q:(Zp sh s (cS seq gone)).Sublist (Zp sh s seq):=List.Sublist.filter _ (qX (g:=gone));have q2:=q.length_le;rw[es]at q2 ⊢;lia
 refine⟨.inl ⟨rfl,_,ao.of HM⟩,_,rfl,ad,_,_,rfl,rfl,HM,Zv (by rw[apM];lia),?_⟩;have nb:b∉cS seq gone:=λm=>hb (qX.subset m);have e1:((Zp sh s (cS seq gone)).map V.int++[V.int b])=(Zp sh s (cS seq gone)++[b]).map V.int:=by rw[afk];rfl
 rw[e1];have S2:uY (upd G ad (.lst ((Zp sh s (cS seq gone)++[b]).map V.int))) ls au sh (cS seq gone++[b]):=by
  refine R1.st.put hs ?_ λs' hs'=>?_
  .rw [Jg,auJ es.symm]
  .rw [Jg,ale (by lia)]
 have np:p≠ad:=λz=>o2 (z ▸yd);have Mg:du≠ad:=λz=>o5 (z ▸yd);have Kr:upd G ad (.lst ((Zp sh s (cS seq gone)++[b]).map V.int)) p=some (.ins (af K "Room") fK (gH sh pl ru ls du)):=by rw[Zc np];exact g1
 have Yr:upd G ad (.lst ((Zp sh s (cS seq gone)++[b]).map V.int)) du=some (.dK kvs):=by rw[Zc Mg];exact g2
 refine⟨_,rfl,p,_,fK,_,_,rfl,Kr,T.fH,T.Ct,EJ ..,_,rfl,du,_,rfl,mF.k (k:=Sum.inl b) Yr (Zv (by lia)),?_⟩;refine⟨_,rfl,k gone _ gp ⟨⟨fK,by rw[Zc o1];exact Kr⟩,S2.other _ (aWz o3) o5,⟨_,Za,⟨atR (Ja ..) (by have:=g3.1;lia),g3.2.put b _⟩,λx=>?_⟩,EM R1.nd nb,R.s0,R.s1⟩ λx o e n1 n2=>?_⟩
 .rw [ER];unfold zero;by_cases c:x=b
  .subst c;rw[auJ rfl,auJ (aGz _ (axK.mpr rfl)),auJ rfl]
  .rw [ale (λz=>c (aLX z)),g4 x,ale c];by_cases m:x∈cS seq gone
   .rw [auJ m,auJ (ata _ m)]
   .rw [ale m,ale (λz=>(aXY.mp z).elim m λq=>c (axK.mp q))]
 .rw [Zc n1,Zc (λz:x=ad=>n2 (z ▸yd))];exact s1 _ _ e n1 n2
theorem Dz:∀{a b:List Int},a.Nodup->(∀x∈a,x∈b)->a.length<=b.length
 | [],_,_,_=>acY _
 |x ::a,b,nd,h=>by
  have J6:=agN.mp nd;have mx:=h x bcs;have q:=Dz (b:=b.erase x) J6.2 λy hy=>(mem_erase_of_ne (λz:y=x=>J6.1 (by rw[<-z];exact hy))).mpr (h y (asW _ hy));rw[List.length_erase_of_mem mx]at q;have:=List.length_pos_of_mem mx;show a.length+1<=b.length;lia
theorem So{kvs:List (Key×V)}{seq:List Int}(h:KI kvs)(nd:seq.Nodup)(e:∀b,(aK kvs (Sum.inl b:Key)).isSome=true↔b∈seq):kvs.length=seq.length:=by
 obtain⟨ks,h4,h5⟩:=h;have per:ks.Perm seq:=by
  refine(aZQ h5 nd).mpr λb=>?_;rw[<-e b,AG,h4,mem_map];constructor
  .intro m;exact⟨b,m,rfl⟩
  .rintro ⟨x,hx,q⟩;rw[<-aLX q];exact hx
 have l:=agz List.length h4;rw[apM,apM]at l;rw[l,per.length_eq]
theorem aB.norm{K:W.Frag}{H:Hp}{p:Addr}{sh pl:Int}{ru:Str}{ls:Addr}{au:List Addr}{du:Addr}{seq:List Int}{us:Int->Int}{n:Nat}(R:aB K H p sh pl ru ls au du seq us n):aB K H p sh pl ru ls au du seq us seq.length:=by
 obtain⟨kvs,h2,⟨h3,h5⟩,h4⟩:=R.dc;refine⟨R.ob,R.st,⟨kvs,h2,⟨ab5 (So h5 R.nd λb=>?_),h5⟩,h4⟩,R.nd,R.s0,R.s1⟩;rw[h4 b];by_cases c:b∈seq
 .simp [c]
 .simp [c]
structure SA where
 sp:Addr
 rp:Addr
 ls:Addr
 au:List Addr
 du:Addr
 dh:Addr
 df:Addr
structure Cf where
 sh:Int
 pl:Int
 ru:Str
 late:Bool
def bF(rp:Addr)(late:Bool)(dh df:Addr):List (Str×V):=ah "fresh" (.ref df) (ah "held" (.ref dh) (ah "late" (.bl late) (ah "room" (.ref rp) [])))
theorem IP(rp:Addr)(late:Bool)(dh df:Addr):(bF rp late dh df).lookup ("fresh":Str)=some (.ref df):=by
 unfold bF;rw[Zh,auJ rfl]
theorem KW(rp:Addr)(late:Bool)(dh df:Addr):(bF rp late dh df).lookup ("held":Str)=some (.ref dh):=by
 unfold bF;rw[Zh,ale (by decide +kernel),Zh,auJ rfl]
theorem Sn(rp:Addr)(late:Bool)(dh df:Addr):(bF rp late dh df).lookup ("late":Str)=some (.bl late):=by
 unfold bF;rw[Zh,ale (by decide +kernel),Zh,ale (by decide +kernel),Zh,auJ rfl]
theorem DE(rp:Addr)(late:Bool)(dh df:Addr):(bF rp late dh df).lookup ("room":Str)=some (.ref rp):=by
 unfold bF;rw[Zh,ale (by decide +kernel),Zh,ale (by decide +kernel),Zh,ale (by decide +kernel),Zh,auJ rfl]
theorem bW(rp:Addr)(late:Bool)(dh df:Addr){m:Str}(h1:¬m ="fresh":=by decide +kernel)(h2:¬m ="held":=by decide +kernel)(h3:¬m ="late":=by decide +kernel)(h4:¬m ="room":=by decide +kernel):(bF rp late dh df).lookup m=none:=by
 unfold bF;rw[Zh,ale h1,Zh,ale h2,Zh,ale h3,Zh,ale h4];rfl
structure Rm where
 seq:List Int
 us:Int->Int
 wd:Int->List Int
 fr:Int->Bool
def Mt:HO->Prop
 | .lst _=>True
 | .dK _=>True
 | .ins _ _ _=>True
 |_=>False
structure bM(O:Addr->Prop)(H H':Hp)(O':Addr->Prop):Prop where
 kp:∀x o,H x=some o->(O x->¬Mt o)->H' x=some o
 fr:∀x,O' x->O x\/H x=none
theorem bM.trans{O O1 O2:Addr->Prop}{H H1 H2:Hp}(a:bM O H H1 O1)(b:bM O1 H1 H2 O2):bM O H H2 O2:=by
 refine⟨λx o e n=>b.kp x o (a.kp x o e n) λh=>(a.fr x h).elim n (λz=>by rw[e]at z;cases z),λx h=>(b.fr x h).elim (a.fr x) λz=>?_⟩;by_cases c:O x
 .exact .inl c
 .cases q:H x with
  |none=>exact .inr rfl
  |some o=>rw[a.kp x o q λh=>absurd h c]at z;cases z
theorem bM.same{O:Addr->Prop}{H H':Hp}(s:av H H'):bM O H H' O:=⟨λx o e _=>s x o e,λ_ h=>.inl h⟩
theorem aB.frame{K:W.Frag}{H H':Hp}{p:Addr}{sh pl:Int}{ru:Str}{ls:Addr}{au:List Addr}{du:Addr}{seq:List Int}{us:Int->Int}{n:Nat}(R:aB K H p sh pl ru ls au du seq us n)(h:∀x o,x=p\/x=ls\/x∈au\/x=du->H x=some o->H' x=some o):aB K H' p sh pl ru ls au du seq us n:=by
 obtain⟨dx,h1⟩:=R.ob;obtain⟨kvs,h2,h3⟩:=R.dc;exact⟨⟨dx,h _ _ (.inl rfl) h1⟩,⟨h _ _ (.inr (.inl rfl)) R.st.top,R.st.len,R.st.nd,R.st.off,λi ad e=>h _ _ (.inr (.inr (.inl (aHL e)))) (R.st.at_ i ad e)⟩,⟨kvs,h _ _ (.inr (.inr (.inr rfl))) h2,h3⟩,R.nd,R.s0,R.s1⟩
structure bQ(H:Hp)(dh ls:Addr)(au:List Addr)(O:Addr->Prop)(seq:List Int)(wd:Int->List Int)(kvs:List (Key×V))(wl:Int->Addr):Prop where
 dc:H dh=some (.dK kvs)
 ki:KI kvs
 v:∀b,aK kvs (Sum.inl b:Key)=if b∈seq then some (.ref (wl b)) else none
 at_:∀b∈seq,H (wl b)=some (.lst ((wd b).map V.int))/\O (wl b)/\wl b∉au/\wl b≠ls
 inj:∀b∈seq,∀c∈seq,wl b=wl c->b=c
structure gk(K:W.Frag)(H:Hp)(a:SA)(c:Cf)(seq:List Int)(us:Int->Int)(O:Addr->Prop):Prop where
 ob:∃dx,H a.sp=some (.ins (af K "Store") dx (bF a.rp c.late a.dh a.df))
 room:aB K H a.rp c.sh c.pl c.ru a.ls a.au a.du seq us seq.length
 d1:∃kvs,H a.dh=some (.dK kvs)
 d2:∃kvs,H a.df=some (.dK kvs)
 n1:a.du≠a.dh
 n2:a.df≠a.dh
 n3:a.df≠a.du
 own:∀x,x=a.sp\/x=a.rp\/x=a.ls\/x∈a.au\/x=a.du\/x=a.dh\/x=a.df->O x
 ex:∀x,O x->H x≠none
structure ay(K:W.Frag)(H:Hp)(a:SA)(c:Cf)(s:Rm)(O:Addr->Prop):Prop where
 aT:gk K H a c s.seq s.us O
 held:∃kvs wl,bQ H a.dh a.ls a.au O s.seq s.wd kvs wl
 fresh:∃kvs,H a.df=some (.dK kvs)/\KI kvs/\∀b,aK kvs (Sum.inl b:Key)=if s.fr b=true then some (.bl true) else none
 yv:∀b,s.fr b=true->b∈s.seq
section
variable{K:W.Frag}{H H':Hp}{a:SA}{c:Cf}{s:Rm}{O O':Addr->Prop}{kvs:List (Key×V)}{wl:Int->Addr}{seq:List Int}{us:Int->Int}
theorem bQ.frame{dh ls:Addr}{au:List Addr}{wd:Int->List Int}(h:bQ H dh ls au O seq wd kvs wl)(hO:O dh)(f:∀x o,O x->H x=some o->H' x=some o):bQ H' dh ls au O seq wd kvs wl:=
 ⟨f _ _ hO h.dc,h.ki,h.v,λb m=>⟨f _ _ (h.at_ b m).2.1 (h.at_ b m).1,(h.at_ b m).2⟩,h.inj⟩
theorem BQ{x:Addr}(h:H x≠none)(f:∀o,H x=some o->H' x=some o):H' x≠none:=λz=>by
 cases q:H x with
 |none=>exact h q
 |some o=>rw[f o q]at z;cases z
theorem NK{x y:Addr}{o:HO}(h:H x≠none):upd H y o x≠none:=by
 by_cases z:x=y
 .rw [z,Za];simp
 .rw [Zc z];exact h
theorem gk.frame(S:gk K H a c seq us O)(f:∀x o,O x->H x=some o->H' x=some o):gk K H' a c seq us O:=by
 obtain⟨dx,h1⟩:=S.ob;obtain⟨k1,h2⟩:=S.d1;obtain⟨k2,h3⟩:=S.d2;exact⟨⟨dx,f _ _ (S.own _ (by simp)) h1⟩,S.room.frame λx o m e=>f x o (S.own x (by rcases m with m|m|m|m <;> simp[m])) e,⟨k1,f _ _ (S.own _ (by simp)) h2⟩,⟨k2,f _ _ (S.own _ (by simp)) h3⟩,S.n1,S.n2,S.n3,S.own,λx h=>BQ (S.ex x h) λo=>f x o h⟩
theorem ay.frame(S:ay K H a c s O)(f:∀x o,O x->H x=some o->H' x=some o):ay K H' a c s O:=by
 obtain⟨kvs,wl,h2⟩:=S.held;obtain⟨kf,h3,h4⟩:=S.fresh;exact⟨S.aT.frame f,⟨kvs,wl,h2.frame (S.aT.own _ (by simp)) f⟩,⟨kf,f _ _ (S.aT.own _ (by simp)) h3,h4⟩,S.yv⟩
theorem gk.same(S:gk K H a c seq us O)(h:av H H'):gk K H' a c seq us O:=S.frame λx o _ e=>h x o e
theorem gk.kinds(S:gk K H a c seq us O){x:Addr}{kvs:List (Key×V)}(h:H x=some (.dK kvs)):x≠a.sp/\x≠a.rp/\x≠a.ls/\x∉a.au:=by
 obtain⟨dx,h1⟩:=S.ob;obtain⟨dr,h2⟩:=S.room.ob;refine⟨λz=>?_,λz=>?_,λz=>?_,λm=>?_⟩
 .rw [<-z,h]at h1;cases h1
 .rw [<-z,h]at h2;cases h2
 .have q:=S.room.st.top;rw[<-z,h]at q;cases q
 .obtain ⟨xs,e⟩:=S.room.st.one m;rw[h]at e;cases e
theorem gk.put(S:gk K H a c seq us O){x:Addr}(hx:x=a.dh\/x=a.df)(kvs:List (Key×V)):gk K (upd H x (.dK kvs)) a c seq us O:=by
 obtain⟨kx,ex⟩:∃kx,H x=some (.dK kx):=hx.elim (λz=>z ▸S.d1) λz=>z ▸S.d2;obtain⟨q1,q2,q3,q4⟩:=S.kinds ex;have nu:x≠a.du:=hx.elim (λz=>z ▸aWz S.n1) λz=>z ▸S.n3;obtain⟨dx,h1⟩:=S.ob;have dd:∀{y},(∃k,H y=some (.dK k))->∃k,upd H x (.dK kvs) y=some (.dK k):=λ{y} h=>by
  by_cases z:y=x
  .rw [z,Za];exact⟨_,rfl⟩
  .rw [Zc z];exact h
 exact⟨⟨dx,by rw[Zc (aWz q1)];exact h1⟩,S.room.frame λy o m e=>by
  rw[Zc (λz:y=x=>by subst z;exact m.elim q2 λm=>m.elim q3 λm=>m.elim q4 nu)];exact e,dd S.d1,dd S.d2,S.n1,S.n2,S.n3,S.own,λy h=>NK (S.ex y h)⟩
theorem gk.mono(S:gk K H a c seq us O)(h1:∀x,x=a.sp\/x=a.rp\/x=a.ls\/x∈a.au\/x=a.du\/x=a.dh\/x=a.df->O' x)(h2:∀x,O' x->H x≠none):gk K H a c seq us O':=⟨S.ob,S.room,S.d1,S.d2,S.n1,S.n2,S.n3,h1,h2⟩
theorem gk.iH{seq':List Int}{us':Int->Int}{n:Nat}(S:gk K H a c seq us O)(R:aB K H' a.rp c.sh c.pl c.ru a.ls a.au a.du seq' us' n)(r:SR a.au a.du H H'):gk K H' a c seq' us' O:=by
 obtain⟨dx,h1⟩:=S.ob;obtain⟨k1,h2⟩:=S.d1;obtain⟨k2,h3⟩:=S.d2;refine⟨⟨dx,r.keep S.room h1 (λ_ z=>by cases z) (λ_ z=>by cases z)⟩,R.norm,⟨k1,r _ _ h2 (aWz S.n1) (S.kinds h2).2.2.2⟩,⟨k2,r _ _ h3 S.n3 (S.kinds h3).2.2.2⟩,S.n1,S.n2,S.n3,S.own,λx h=>?_⟩;by_cases z:x=a.du
 .obtain ⟨kv,e,_⟩:=R.dc;rw[z,e];simp
 .by_cases m:x∈a.au
  .obtain ⟨xs,e⟩:=R.st.one m;rw[e];simp
  .exact BQ (S.ex x h) λo e=>r x o e z m
theorem gk.cX(S:gk K H a c seq us O)(r:SR a.au a.du H H'):bM O H H' O:=by
 refine⟨λx o e n=>r x o e (λz=>?_) λm=>?_,λ_ h=>.inl h⟩
 .obtain ⟨kv,q,_⟩:=S.room.dc;rw[z,q]at e;cases e;exact n (S.own x (by simp[z])) trivial
 .obtain ⟨xs,q⟩:=S.room.st.one m;rw[q]at e;cases e;exact n (S.own x (by simp[m])) trivial
theorem gk.HE{wd:Int->List Int}{seq':List Int}(S:gk K H a c seq us O)(h:bQ H a.dh a.ls a.au O seq' wd kvs wl)(r:SR a.au a.du H H'):bQ H' a.dh a.ls a.au O seq' wd kvs wl:=by
 obtain⟨kr,g,_⟩:=S.room.dc;exact⟨r _ _ h.dc (aWz S.n1) (S.kinds h.dc).2.2.2,h.ki,h.v,λx m=>⟨r _ _ (h.at_ x m).1 (λz=>by have e:=(h.at_ x m).1;rw[z,g]at e;cases e) (h.at_ x m).2.2.1,(h.at_ x m).2⟩,h.inj⟩
theorem bQ.seqs{dh ls:Addr}{au:List Addr}{seq':List Int}{wd:Int->List Int}(h:bQ H dh ls au O seq wd kvs wl)(hs:∀b,b∈seq'↔b∈seq):bQ H dh ls au O seq' wd kvs wl:=
 ⟨h.dc,h.ki,λb=>by rw[h.v b];exact ite_congr (propext (hs b).symm) (λ_=>rfl) λ_=>rfl,λb m=>h.at_ b ((hs b).mp m),λb m c m'=>h.inj b ((hs b).mp m) c ((hs c).mp m')⟩
theorem ay.iH{seq':List Int}{us':Int->Int}{n:Nat}(S:ay K H a c s O)(R:aB K H' a.rp c.sh c.pl c.ru a.ls a.au a.du seq' us' n)(r:SR a.au a.du H H')(hs:∀b,b∈seq'↔b∈s.seq):ay K H' a c ⟨seq',us',s.wd,s.fr⟩ O:=by
 obtain⟨kvs,wl,h2⟩:=S.held;obtain⟨kf,h3,h4⟩:=S.fresh;exact⟨S.aT.iH R r,⟨kvs,wl,(S.aT.HE h2 r).seqs hs⟩,⟨kf,r _ _ h3 S.aT.n3 (S.aT.kinds h3).2.2.2,h4⟩,λb h=>(hs b).mpr (S.yv b h)⟩
theorem gk.xQ(S:gk K H a c seq us O){x:Addr}(hx:x=a.dh\/x=a.df)(kvs:List (Key×V)):bM O H (upd H x (.dK kvs)) O:=by
 refine⟨λy o e n=>?_,λ_ h=>.inl h⟩;rw[Zc (λz=>?_)]
 .exact e
 obtain⟨kx,ex⟩:∃kx,H x=some (.dK kx):=hx.elim (λz=>z ▸S.d1) λz=>z ▸S.d2;rw[z,ex]at e;cases e;exact n (S.own y (by rw[z];rcases hx with h|h <;> simp[h])) trivial
theorem bQ.put{dh ls:Addr}{au:List Addr}{seq':List Int}{wd:Int->List Int}(h:bQ H dh ls au O seq wd kvs wl){b:Int}{l:Addr}(ws:List Int)(hl:H l=none)(ex:∀x,O x->H x≠none)(na:∀x∈au,H x≠none)(nl:H ls≠none)(hs:∀x,x∈seq'↔x=b\/x∈seq) :
  bQ (upd (upd H l (.lst (ws.map V.int))) dh (.dK (putK kvs (Sum.inl b) (.ref l)))) dh ls au (λx=>O x\/x=l) seq' (λx=>if x=b then ws else wd x) (putK kvs (Sum.inl b) (.ref l)) (λx=>if x=b then l else wl x):=by
 have nd:l≠dh:=λz=>by rw[z,h.dc]at hl;cases hl
 have nw:∀x∈seq,wl x≠l:=λx m z=>by have q:=(h.at_ x m).1;rw[z,hl]at q;cases q
 have md:∀x,x∈seq'->x≠b->x∈seq:=λx m n=>((hs x).mp m).resolve_left n;refine⟨Za,h.ki.put b _,λx=>?_,λx m=>?_,λx m y m' e=>?_⟩
 .rw [ER];by_cases z:x=b
  .rw [auJ (by rw[z]),auJ ((hs x).mpr (.inl z)),auJ z]
  .rw [ale (λq=>z (aLX q)),h.v x,ale z];exact ite_congr (propext ⟨λm=>(hs x).mpr (.inr m),λm=>md x m z⟩) (λ_=>rfl) λ_=>rfl
 .by_cases z:x=b
  .rw [auJ z,auJ z,Zc nd,Za];exact⟨rfl,.inr rfl,λm=>na l m hl,λq=>nl (q ▸hl)⟩
  .rw [ale z,ale z];obtain⟨e1,e2,e3,e4⟩:=h.at_ x (md x m z);exact⟨by rw[Zc (λq=>by rw[q,h.dc]at e1;cases e1),Zc (nw x (md x m z))];exact e1,.inl e2,e3,e4⟩
 .by_cases z:x=b
  .by_cases z':y=b
   .rw [z,z']
   .rw [auJ z,ale z']at e;exact absurd e.symm (nw y (md y m' z'))
  .by_cases z':y=b
   .rw [ale z,auJ z']at e;exact absurd e (nw x (md x m z))
   .rw [ale z,ale z']at e;exact h.inj x (md x m z) y (md y m' z') e
theorem ay.ng(S:ay K H a c s O)(h:bQ H a.dh a.ls a.au O s.seq s.wd kvs wl):kvs.length=s.seq.length:=by
 refine So h.ki S.aT.room.nd λb=>?_;rw[h.v b];by_cases m:b∈s.seq
 .simp [m]
 .simp [m]
theorem ay.Yu{kf:List (Key×V)}(S:ay K H a c s O)(h:KI kf)(v:∀b,aK kf (Sum.inl b:Key)=if s.fr b=true then some (.bl true) else none):kf.length<=s.seq.length:=by
 obtain⟨ks,e,nd⟩:=h;have l:=agz List.length e;rw[apM,apM]at l;rw[l];refine Dz nd λb m=>S.yv b ?_;have q:=AG (kvs:=kf) (Sum.inl b);rw[v b,e]at q;have:=q.mpr (aOS m);by_cases z:s.fr b=true
 .exact z
 .rw [ale z]at this;cases this
end
section
variable{K:W.Frag}{H H':Hp}{a:SA}{c:Cf}{s:Rm}{O O':Addr->Prop}{kvs:List (Key×V)}{wl:Int->Addr}{seq:List Int}{us:Int->Int}
theorem gk.laid{wd:Int->List Int}{FN seq':List Int}{b:Int}{l:Addr}(S:gk K H a c seq us O)(h:bQ H a.dh a.ls a.au O FN wd kvs wl)(ws:List Int)(hl:H l=none)(hs:∀x,x∈seq'↔x=b\/x∈FN) :
  (gk K (upd (upd H l (.lst (ws.map V.int))) a.dh (.dK (putK kvs (Sum.inl b) (.ref l)))) a c seq us (λx=>O x\/x=l)/\bQ (upd (upd H l (.lst (ws.map V.int))) a.dh (.dK (putK kvs (Sum.inl b) (.ref l)))) a.dh a.ls a.au (λx=>O x\/x=l) seq' (λx=>if x=b then ws else wd x) (putK kvs (Sum.inl b) (.ref l)) (λx=>if x=b then l else wl x)) /\
   bM O H (upd (upd H l (.lst (ws.map V.int))) a.dh (.dK (putK kvs (Sum.inl b) (.ref l)))) (λx=>O x\/x=l):=by
 have sm:=Zd hl (.lst (ws.map V.int));have S1:=S.same sm;refine⟨⟨((S1.put (x:=a.dh) (.inl rfl) _).mono (λx m=>.inl (S.own x m)) λx m=>NK ?_),h.put ws hl S.ex (λx m=>S.ex x (S.own x (by simp[m]))) (S.ex _ (S.own _ (by simp))) hs⟩,?_⟩
 .rcases m with m|m
  .exact S1.ex x m
  .rw [m,Za];simp
 .have p:=(bM.same sm).trans (S1.xQ (x:=a.dh) (.inl rfl) (putK kvs (Sum.inl b) (.ref l)));exact⟨p.kp,λx m=>m.elim .inl λz=>.inr (by rw[z];exact hl)⟩
theorem bQ.pop{wd:Int->List Int}{b:Int}(h:bQ H a.dh a.ls a.au O seq wd kvs wl)(nn:seq.Nodup)(hb:b∈seq)(S:gk K H a c (seq.erase b) us O):bQ (upd H a.dh (.dK (aU kvs (Sum.inl b)))) a.dh a.ls a.au (λx=>O x/\x≠wl b) (seq.erase b) wd (aU kvs (Sum.inl b)) wl:=by
 have mm:∀{x},x∈seq.erase b->x≠b/\x∈seq:=λ{x} m=>(a29 nn).mp m;refine⟨Za,h.ki.drop b,λx=>?_,λx m=>?_,λx m y m'=>h.inj x (mm m).2 y (mm m').2⟩
 .rw [IQ];by_cases z:x=b
  .rw [auJ (by rw[z]),ale (λm=>(mm m).1 z)]
  .rw [ale (λq=>z (aLX q)),h.v x];exact ite_congr (propext ⟨λm=>(a29 nn).mpr ⟨z,m⟩,λm=>(mm m).2⟩) (λ_=>rfl) λ_=>rfl
 .obtain ⟨e1,e2,e3,e4⟩:=h.at_ x (mm m).2;exact⟨by rw[Zc (λz=>by rw[z,h.dc]at e1;cases e1)];exact e1,⟨e2,λz=>(mm m).1 (h.inj x (mm m).2 b hb z)⟩,e3,e4⟩
end
def tE:Rm:=⟨[],λ_=>0,λ_=>[],λ_=>false⟩
inductive tY(K:W.Frag)(vs:List V)(H:Hp)(Q:VK)(E:XK):Prop
 |mk (p dx tp:Addr) (sh pl:Int) (ru wr:Str):vs=[.ref p,.ref tp]->H p=some (.ins (af K "Store") dx [])->aP K H tp [.int sh,.int pl,.str ru,.str wr]->1<=sh->sh<=64->(∀(a:SA)(H':Hp),a.sp=p->ay K H' a ⟨sh,pl,ru,decide (wr ="late")⟩ tE (λx=>x=p\/(H x=none/\H' x≠none))->(∀b o,H b=some o->b≠p->H' b=some o)->Q .aO H')->tY K vs H Q E
example:(mT GU GQ):=by
 obtain ⟨p,dx,tp,sh,pl,ru,wr,rfl,hp,htp,s0,s1,k⟩:=h;refine⟨_,(Ze (rJ (pv 1) (ZD (K:=K) (n:=4) rfl rfl (Zn (bE 2 nd) (Zn (bE 3 nd) (Zn (bE 4 nd) (Zn (bE 5 nd) ZC))))))
   (Ze (rH (pv 0) (Lg GQ hr.m rfl (pc (pv 2) (pc (pv 3) (pc (pv 4) Zb)))) rfl)
   (Ze (rH (pv 0) (ZP aW (pv 5) ZU (Zw _)) rfl)
   (Ze (rH (pv 0) IV rfl)
   (Zg (rH (pv 0) IV rfl)))))),?_⟩
 refine⟨_,rfl,tp,_,rfl,htp,rfl,_,_,rfl,gN ⟨_,_,rfl,gN ⟨_,_,rfl,gN ⟨_,_,rfl,gN ⟨rfl,?_⟩⟩⟩⟩⟩;try dsimp only
 refine⟨_,rfl,_,rfl,_,rfl,λrp rx HA Qv nrx=>⟨rp,rx,sh,pl,ru,rfl,Za,s0,s1,λls au du H1 R1 f1 f2 f3 k1=>⟨rfl,?_⟩⟩⟩;have WX:p≠rp:=Zf hp HA;have Qk:∀x o,H x=some o->H1 x=some o:=λx o e=>k1 x o (by rw[Zc (Zf e HA),Zc (Zf e Qv)];exact e) (Zf e HA);have fr:∀x,upd (upd H rx (.own rp)) rp (.ins (af K "Room") rx []) x=none->H x=none:=λx e=>by
  cases q:H x with
  |none=>rfl
  |some o=>rw[Zc (Zf q HA),Zc (Zf q Qv),q]at e;cases e
 have f1:=fr _ f1;have f2:=fr _ f2;have f3:∀ad∈au,H ad=none:=λad m=>fr _ (f3 ad m);have h1:=Qk _ _ hp;refine⟨_,rfl,p,_,dx,_,rfl,h1,T.dQ,T.BB,(by show 0<1000;decide),?_⟩;obtain⟨o1,o2,o3,o4,o5,o6⟩:=R1.off;have q1:p≠ls:=λz=>by rw[z,R1.st.top]at h1;cases h1
 have q2:p≠du:=λz=>by obtain⟨kv,g,_⟩:=R1.dc;rw[z,g]at h1;cases h1
 have q3:p∉au:=λz=>by obtain⟨xs,g⟩:=R1.st.one z;rw[g]at h1;cases h1
 have put:∀{G:Hp}{o:HO},aB K G rp sh pl ru ls au du [] (λ_=>0) 0->aB K (upd G p o) rp sh pl ru ls au du [] (λ_=>0) 0:=λ{G o} R=>by
  obtain⟨Dt,e1⟩:=R.ob;obtain⟨kv,e2,e3⟩:=R.dc;exact⟨⟨Dt,by rw[Zc (aWz WX)];exact e1⟩,R.st.other o q1 q3,⟨kv,by rw[Zc (aWz q2)];exact e2,e3⟩,R.nd,R.s0,R.s1⟩
 have R2:=put (o:=.ins (af K "Store") dx (ah "room" (.ref rp) [])) R1;have e2:upd H1 p (.ins (af K "Store") dx (ah "room" (.ref rp) [])) p=some (.ins (af K "Store") dx (ah "room" (.ref rp) [])):=Za;have k2:∀x o,H x=some o->x≠p->upd H1 p (.ins (af K "Store") dx (ah "room" (.ref rp) [])) x=some o:=λx o e n=>by rw[Zc n];exact Qk x o e
 generalize upd H1 p (.ins (af K "Store") dx (ah "room" (.ref rp) []))=H2 at *;refine⟨_,rfl,rfl,_,rfl,p,_,dx,_,rfl,e2,T.dQ,T.MC,(by show 1<1000;decide),?_⟩;have el:decide (V.str wr=V.str "late")=decide (wr ="late"):=decide_eq_decide.mpr ⟨λe=>by injection e,λe=>by rw[e]⟩;rw[el];have R3:=put (o:=.ins (af K "Store") dx (ah "late" (.bl (decide (wr ="late"))) (ah "room" (.ref rp) []))) R2;have e3:upd H2 p (.ins (af K "Store") dx (ah "late" (.bl (decide (wr ="late"))) (ah "room" (.ref rp) []))) p=some (.ins (af K "Store") dx (ah "late" (.bl (decide (wr ="late"))) (ah "room" (.ref rp) []))):=Za;have k3:∀x o,H x=some o->x≠p->upd H2 p (.ins (af K "Store") dx (ah "late" (.bl (decide (wr ="late"))) (ah "room" (.ref rp) []))) x=some o:=λx o e n=>by rw[Zc n];exact k2 x o e n
 generalize upd H2 p (.ins (af K "Store") dx (ah "late" (.bl (decide (wr ="late"))) (ah "room" (.ref rp) [])))=H3 at *;refine λdh Ez=>?_;have nh:p≠dh:=Zf e3 Ez;refine⟨_,rfl,p,_,dx,_,rfl,(by rw[Zc nh];exact e3),T.dQ,T.Hi,(by show 2<1000;decide),?_⟩;have R4:=put (o:=.ins (af K "Store") dx (ah "held" (.ref dh) (ah "late" (.bl (decide (wr ="late"))) (ah "room" (.ref rp) [])))) (R3.same (Zd Ez (.dK [])));have e4:upd (upd H3 dh (.dK [])) p (.ins (af K "Store") dx (ah "held" (.ref dh) (ah "late" (.bl (decide (wr ="late"))) (ah "room" (.ref rp) [])))) p=some (.ins (af K "Store") dx (ah "held" (.ref dh) (ah "late" (.bl (decide (wr ="late"))) (ah "room" (.ref rp) [])))):=Za;have d4:upd (upd H3 dh (.dK [])) p (.ins (af K "Store") dx (ah "held" (.ref dh) (ah "late" (.bl (decide (wr ="late"))) (ah "room" (.ref rp) [])))) dh=some (.dK []):=by rw[Zc (aWz nh)];exact Za
 have Q4:H dh=none:=by
  cases q:H dh with
  |none=>rfl
  |some o=>rw[k3 dh o q (aWz nh)]at Ez;cases Ez
 have k4:∀x o,H x=some o->x≠p->upd (upd H3 dh (.dK [])) p (.ins (af K "Store") dx (ah "held" (.ref dh) (ah "late" (.bl (decide (wr ="late"))) (ah "room" (.ref rp) [])))) x=some o:=λx o e n=>by rw[Zc n,Zc (λz:x=dh=>by rw[z,Q4]at e;cases e)];exact k3 x o e n
 generalize upd (upd H3 dh (.dK [])) p (.ins (af K "Store") dx (ah "held" (.ref dh) (ah "late" (.bl (decide (wr ="late"))) (ah "room" (.ref rp) []))))=H4 at *;refine λdf hdf=>?_;have nf:p≠df:=Zf e4 hdf;refine⟨_,rfl,p,_,dx,_,rfl,(by rw[Zc nf];exact e4),T.dQ,T.Eh,(by show 3<1000;decide),?_⟩;have Q5:H df=none:=by
  cases q:H df with
  |none=>rfl
  |some o=>rw[k4 df o q (aWz nf)]at hdf;cases hdf
 have PX:dh≠df:=λz=>by rw[<-z,d4]at hdf;cases hdf
 obtain⟨kv,g,_⟩:=R3.dc;obtain⟨kv4,g4,_⟩:=R4.dc;have R5:=put (o:=.ins (af K "Store") dx (bF rp (decide (wr ="late")) dh df)) (R4.same (Zd hdf (.dK [])));have e5:upd (upd H4 df (.dK [])) p (.ins (af K "Store") dx (bF rp (decide (wr ="late")) dh df)) p=some (.ins (af K "Store") dx (bF rp (decide (wr ="late")) dh df)):=Za;have d5:upd (upd H4 df (.dK [])) p (.ins (af K "Store") dx (bF rp (decide (wr ="late")) dh df)) dh=some (.dK []):=by rw[Zc (aWz nh),Zc PX];exact d4
 have f5:upd (upd H4 df (.dK [])) p (.ins (af K "Store") dx (bF rp (decide (wr ="late")) dh df)) df=some (.dK []):=by rw[Zc (aWz nf)];exact Za
 have k5:∀x o,H x=some o->x≠p->upd (upd H4 df (.dK [])) p (.ins (af K "Store") dx (bF rp (decide (wr ="late")) dh df)) x=some o:=λx o e n=>by rw[Zc n,Zc (λz:x=df=>by rw[z,Q5]at e;cases e)];exact k4 x o e n
 change Q .aO (upd (upd H4 df (.dK [])) p (.ins (af K "Store") dx (bF rp (decide (wr ="late")) dh df)));generalize upd (upd H4 df (.dK [])) p (.ins (af K "Store") dx (bF rp (decide (wr ="late")) dh df))=H5 at *;refine k ⟨p,rp,ls,au,du,dh,df⟩ _ rfl ⟨⟨⟨dx,e5⟩,R5,⟨_,d5⟩,⟨_,f5⟩,λz=>?_,aWz PX,λz=>?_,λx hx=>?_,λx hx=>?_⟩,⟨[],λ_=>p,d5,KI.nil,λ_=>rfl,(λb m=>absurd m (by simp[tE])),λb m=>absurd m (by simp[tE])⟩,⟨[],f5,KI.nil,λ_=>rfl⟩,λb h=>by cases h⟩ k5
 .have z:du=dh:=z;rw[<-z,g]at Ez;cases Ez
 .have z:df=du:=z;rw[z,g4]at hdf;cases hdf
 .obtain ⟨dr5,r5⟩:=R5.ob;obtain⟨ku5,u5,_⟩:=R5.dc;rcases hx with rfl|rfl|rfl|hx|rfl|rfl|rfl
  .exact .inl rfl
  .exact .inr ⟨HA,by rw[r5];simp⟩
  .exact .inr ⟨f1,by rw[R5.st.top];simp⟩
  .obtain ⟨xs,q⟩:=R5.st.one hx;exact .inr ⟨f3 x hx,by rw[q];simp⟩
  .exact .inr ⟨f2,by rw[u5];simp⟩
  .exact .inr ⟨Q4,by rw[d5];simp⟩
  .exact .inr ⟨Q5,by rw[f5];simp⟩
 .rcases hx with rfl|hx
  .rw [e5];simp
  .exact hx.2
inductive wN(K:W.Frag)(vs:List V)(H:Hp)(Q:VK)(E:XK):Prop
 |mk (a:SA) (c:Cf) (s:Rm) (O:Addr->Prop) (b:Int):vs=[.ref a.sp,.int b]->ay K H a c s O->Q (.bl (decide (b∈s.seq))) H->wN K vs H Q E
example:(o9 uF xO):=by
 obtain⟨a,c,s,O,b,rfl,S,k⟩:=h;refine⟨_,(Zg (Zs (Zj xO hr.m T.fH (Zk (K:=K) rfl (pv 0) rfl) (pc (pv 1) Zb)))),?_⟩;obtain⟨dx,h1⟩:=S.aT.ob;obtain⟨dr,h2⟩:=S.aT.room.ob;exact⟨_,rfl,a.sp,_,dx,_,_,rfl,h1,T.dQ,T.BB,DE ..,a.rp,dr,_,rfl,h2,bS ..,_,rfl,a.rp,b,c.sh,c.pl,c.ru,a.ls,a.au,a.du,s.seq,s.us,_,rfl,S.aT.room,k⟩
inductive Be(K:W.Frag)(vs:List V)(H:Hp)(Q:VK)(E:XK):Prop
 |mk (p dx rp dh df:Addr) (late:Bool) (kvs:List (Key×V)) (b:Int) (lw:Addr) (zs:List V):vs=[.ref p,.int b,.ref lw]->H p=some (.ins (af K "Store") dx (bF rp late dh df))->H dh=some (.dK kvs)->kvs.length<=900->H lw=some (.lst zs)->(∀l,H l=none->Q .aO (upd (upd H l (.lst zs)) dh (.dK (putK kvs (Sum.inl b) (.ref l)))))->Be K vs H Q E
example:(o8 A2):=by
 obtain⟨p,dx,rp,dh,df,late,kvs,b,lw,zs,rfl,hp,hd,hl,hw,k⟩:=h;refine⟨_,(Zg (IJ hu (Zk (K:=K) rfl (pv 0) rfl) (pv 1) (ZE (Lj (K:=K) rfl) rfl T.wG ZR (pc (pv 2) Zb)) rfl)),?_⟩;refine⟨_,rfl,lw,_,rfl,.inl (ao.of hw),λl hl'=>?_⟩;have s1:=Zd hl' (.lst zs);exact⟨_,rfl,p,_,dx,_,_,rfl,s1 _ _ hp,T.dQ,T.Hi,KW ..,_,rfl,dh,_,rfl,mF.k (k:=Sum.inl b) (s1 _ _ hd) (Zv (by lia)),k l hl'⟩
def MF(s:Rm)(b:Int)(ws:List Int):Rm:=⟨s.seq++[b],zero s.us b,λx=>if x=b then ws else s.wd x,s.fr⟩
def qK(s:Rm)(b:Int):Rm:=⟨s.seq.erase b,s.us,s.wd,λx=>if x=b then false else s.fr x⟩
def pO(s:Rm)(b:Int)(ws:List Int):Rm:=⟨s.seq,s.us,λx=>if x=b then ws else s.wd x,s.fr⟩
def HS(s:Rm)(b:Int):Rm:=⟨s.seq,s.us,s.wd,λx=>if x=b then true else s.fr x⟩
inductive qi(K:W.Frag)(vs:List V)(H:Hp)(Q:VK)(E:XK):Prop
 |mk (a:SA) (c:Cf) (s:Rm) (O:Addr->Prop) (b:Int) (lw:Addr) (ws:List Int):vs=[.ref a.sp,.int b,.ref lw]->ay K H a c s O->Tb K H->H lw=some (.lst (ws.map V.int))->(¬O lw)->b∉s.seq->s.seq.length<=800->1<=c.pl->c.pl<=16->((Zp c.sh (b%c.sh) s.seq).length:Int)<c.pl->(∀H' O',ay K H' a c (MF s b ws) O'->bM O H H' O'->Q .aO H')->qi K vs H Q E
example:(iV E9 Fl A2):=by
 obtain ⟨a,c,s,O,b,lw,ws,rfl,S,tb,pP,hO,hb,hsl,hpl,XT,hsh,k⟩:=h;refine⟨_,(Ze (Zr (Zj Fl hr.m T.fH (Zk (K:=K) rfl (pv 0) rfl) (pc (pv 1) Zb)))
   (Zg (Zr (Zj A2 hr.m T.dQ (pv 0) (pc (pv 1) (pc (pv 2) Zb)))))),?_⟩
 obtain⟨dx,h1⟩:=S.aT.ob;obtain⟨dr,h2⟩:=S.aT.room.ob;refine⟨_,rfl,a.sp,_,dx,_,_,rfl,h1,T.dQ,T.BB,DE ..,a.rp,dr,_,rfl,h2,bS ..,_,rfl,a.rp,b,c.sh,c.pl,c.ru,a.ls,a.au,a.du,s.seq,s.us,_,rfl,S.aT.room,tb,by lia,hb,hpl,by lia,λgone G gp R1 r1=>?_⟩;obtain rfl:gone=none:=gp.1 hsh;obtain⟨kvs,wl,h3⟩:=S.held;obtain⟨kf,h4,h5⟩:=S.fresh;have kl:=S.ng h3;have p1:=S.aT.cX r1;have h3:=S.aT.HE h3 r1;have h4:=r1 _ _ h4 S.aT.n3 (S.aT.kinds h4).2.2.2;have S1:=S.aT.iH R1 r1;obtain⟨dx,h1⟩:=S1.ob;refine⟨_,rfl,a.sp,dx,_,rfl,h1,bW ..,_,rfl,_,rfl,a.sp,dx,a.rp,a.dh,a.df,c.late,kvs,b,lw,_,rfl,h1,h3.dc,by lia,p1.kp _ _ pP (λh=>absurd h hO),λl hl=>?_⟩;obtain⟨S2,p2⟩:=S1.laid h3 ws hl (seq':=s.seq++[b]) (b:=b) (λx=>by rw[mem_append,mem_singleton];exact Or.comm);exact k _ _ ⟨S2.1,⟨_,_,S2.2⟩,⟨kf,by rw[Zc S.aT.n2];exact Zd hl _ _ _ h4,h5⟩,λx h=>ata _ (S.yv x h)⟩ (p1.trans p2)
inductive nX(K:W.Frag)(vs:List V)(H:Hp)(Q:VK)(E:XK):Prop
 |mk (a:SA) (c:Cf) (s:Rm) (O:Addr->Prop) (b:Int):vs=[.ref a.sp,.int b]->ay K H a c s O->b∈s.seq->(∀(t l:Addr)(H':Hp)(O':Addr->Prop),H' t=some (.tup [.ref l,.bl (s.fr b)])->H' l=some (.lst ((s.wd b).map V.int))->¬O' l->ay K H' a c (qK s b) O'->bM O H H' O'->(O l\/H l=none)->Q (.ref t) H')->nX K vs H Q E
example:(iB Fe A3):=by
 obtain ⟨a,c,s,O,b,rfl,S,hb,k⟩:=h;refine⟨_,(Ze (Zr (Zj A3 hr.m T.fH (Zk (K:=K) rfl (pv 0) rfl) (pc (pv 1) Zb)))
   (Zg (Zs (ZN (pc (OC (Zk (K:=K) rfl (pv 0) rfl) (pv 1) ⟨rfl,rfl,rfl,rfl⟩) (pc (TN (Zk (K:=K) rfl (pv 0) rfl) (pv 1) d7 ⟨rfl,rfl,rfl,rfl⟩) Zb)))))),?_⟩
 obtain⟨dx,h1⟩:=S.aT.ob;obtain⟨dr,h2⟩:=S.aT.room.ob;refine⟨_,rfl,a.sp,_,dx,_,_,rfl,h1,T.dQ,T.BB,DE ..,a.rp,dr,_,rfl,h2,bS ..,_,rfl,a.rp,b,c.sh,c.pl,c.ru,a.ls,a.au,a.du,s.seq,s.us,_,rfl,S.aT.room,hb,λG R1 r1=>?_⟩;obtain⟨kvs,wl,h3⟩:=S.held;obtain⟨kf,h4,h5,h6⟩:=S.fresh;have p1:=S.aT.cX r1;have h3:=S.aT.HE h3 r1;have h4:=r1 _ _ h4 S.aT.n3 (S.aT.kinds h4).2.2.2;have S1:=S.aT.iH R1 r1;obtain⟨dx,h1⟩:=S1.ob;have vb:=h3.v b;rw[auJ hb]at vb;obtain⟨w1,w2,w3,w4⟩:=h3.at_ b hb;refine⟨_,rfl,a.sp,_,dx,_,_,rfl,h1,T.dQ,T.Hi,KW ..,a.dh,rfl,.inl ⟨_,.inl h3.dc⟩,_,rfl,kvs,Sum.inl b,_,h3.dc,rfl,vb,?_⟩;have nn:s.seq.Nodup:=S.aT.room.nd;have H3:=h3.pop nn hb S1;have S2:=S1.put (x:=a.dh) (.inl rfl) (aU kvs (Sum.inl b));have p2:=p1.trans (S1.xQ (x:=a.dh) (.inl rfl) (aU kvs (Sum.inl b)));have h4:upd G a.dh (.dK (aU kvs (Sum.inl b))) a.df=some (.dK kf):=by rw[Zc S.aT.n2];exact h4
 have w1:upd G a.dh (.dK (aU kvs (Sum.inl b))) (wl b)=some (.lst ((s.wd b).map V.int)):=by rw[Zc (λz=>by rw[z,h3.dc]at w1;cases w1)];exact w1
 generalize upd G a.dh (.dK (aU kvs (Sum.inl b)))=G2 at *;obtain⟨dx,h1⟩:=S2.ob;have fin:∀(G3:Hp)(GI:List (Key×V)),gk K G3 a c (s.seq.erase b) s.us O->bM O H G3 O->bQ G3 a.dh a.ls a.au (λx=>O x/\x≠wl b) (s.seq.erase b) s.wd (aU kvs (Sum.inl b)) wl->G3 a.df=some (.dK GI)->KI GI->(∀x,aK GI (Sum.inl x:Key)=if(qK s b).fr x=true then some (.bl true) else none)->G3 (wl b)=some (.lst ((s.wd b).map V.int)) ->
   2<=sizeLine/\∀t,G3 t=none->Q (.ref t) (upd G3 t (.tup [.ref (wl b),.bl (s.fr b)])):=λG3 GI S3 p3 h3' e1 e2 e3 e4=>by
  refine⟨by decide,λt ht=>?_⟩;have sm:=Zd ht (.tup [.ref (wl b),.bl (s.fr b)]);have core:∀x,x=a.sp\/x=a.rp\/x=a.ls\/x∈a.au\/x=a.du\/x=a.dh\/x=a.df->O x/\x≠wl b:=λx m=>⟨S3.own x m,λz=>by
   subst z;rcases m with m|m|m|m|m|m|m
   .obtain ⟨d,q⟩:=S3.ob;rw[<-m,e4]at q;cases q
   .obtain ⟨d,q⟩:=S3.room.ob;rw[<-m,e4]at q;cases q
   .exact w4 m
   .exact w3 m
   .obtain ⟨d,q,_⟩:=S3.room.dc;rw[<-m,e4]at q;cases q
   .obtain ⟨d,q⟩:=S3.d1;rw[<-m,e4]at q;cases q
   .rw [<-m,e4]at e1;cases e1⟩
  have S4:=(S3.mono core λx h=>S3.ex x h.1).same sm;refine k t (wl b) _ (λx=>O x/\x≠wl b) Za (sm _ _ e4) (λh=>h.2 rfl) ⟨S4,⟨_,_,h3'.frame (core _ (by simp)) λx o _ e=>sm x o e⟩,⟨GI,sm _ _ e1,e2,e3⟩,λx h=>?_⟩ ⟨λx o e n=>sm _ _ (p3.kp x o e n),λx h=>.inl h.1⟩ (.inl w2);have h:(if x=b then false else s.fr x)=true:=h;by_cases z:x=b
  .rw [auJ z]at h;cases h
  .rw [ale z]at h;exact(a29 nn).mpr ⟨z,S.yv x h⟩
 refine⟨_,rfl,a.sp,_,dx,_,_,rfl,h1,T.dQ,T.Eh,IP ..,a.df,rfl,.inl ⟨_,.inl h4⟩,_,rfl,kf,Sum.inl b,h4,rfl,λv hv=>?_,λhv=>?_⟩
 .have hf:s.fr b=true:=by
   by_cases z:s.fr b=true
   .exact z
   .rw [h6 b,ale z]at hv;cases hv
  rw[h6 b,auJ hf]at hv;cases hv;have S3:=S2.put (x:=a.df) (.inr rfl) (aU kf (Sum.inl b));have fin:=fin _ (aU kf (Sum.inl b)) S3 (p2.trans (S2.xQ (x:=a.df) (.inr rfl) _)) ⟨by rw[Zc (aWz S.aT.n2)];exact H3.dc,H3.ki,H3.v,λx m=>⟨by rw[Zc (λz=>by have q:=(H3.at_ x m).1;rw[z,h4]at q;cases q)];exact(H3.at_ x m).1,(H3.at_ x m).2⟩,H3.inj⟩ Za (h5.drop b) (λx=>?_) (by rw[Zc (λz=>by rw[z,h4]at w1;cases w1)];exact w1)
  .rw [hf]at fin;exact fin
  .rw [IQ];by_cases z:x=b
   .rw [auJ (by rw[z])];unfold qK;simp[z]
   .rw [ale (λq=>z (aLX q)),h6 x];unfold qK;simp[z]
 .have hf:s.fr b=false:=by
   cases z:s.fr b with
   |false=>rfl
   |true=>rw[h6 b,auJ z]at hv;cases hv
  have fin:=fin _ kf S2 p2 H3 h4 h5 (λx=>?_) w1
  .rw [hf]at fin;exact fin
  .rw [h6 x];unfold qK;by_cases z:x=b
   .simp [z,hf]
   .simp [z]
inductive nS(K:W.Frag)(vs:List V)(H:Hp)(Q:VK)(E:XK):Prop
 |mk (a:SA) (c:Cf) (s:Rm) (O:Addr->Prop) (b:Int):vs=[.ref a.sp,.int b]->ay K H a c s O->b∈s.seq->(∀l,H l=none->Q (.ref l) (upd H l (.lst ((s.wd b).map V.int))))->nS K vs H Q E
example:(iy uH xH):=by
 obtain ⟨a,c,s,O,b,rfl,S,hb,k⟩:=h;refine⟨_,(Ze (Zr (Zj xH hr.m T.fH (Zk (K:=K) rfl (pv 0) rfl) (pc (pv 1) Zb)))
   (Zg (Zs (ZE (Lj (K:=K) rfl) rfl T.wG ZR (pc (IK hu (Zk (K:=K) rfl (pv 0) rfl) (pv 1) (λ_ _=>rfl)) Zb))))),?_⟩
 obtain⟨dx,h1⟩:=S.aT.ob;obtain⟨dr,h2⟩:=S.aT.room.ob;obtain⟨kvs,wl,h3⟩:=S.held;have vb:=h3.v b;rw[auJ hb]at vb;refine⟨_,rfl,a.sp,_,dx,_,_,rfl,h1,T.dQ,T.BB,DE ..,a.rp,dr,_,rfl,h2,bS ..,_,rfl,a.rp,b,c.sh,c.pl,c.ru,a.ls,a.au,a.du,s.seq,s.us,_,rfl,S.aT.room,hb,?_⟩;exact⟨_,rfl,a.sp,_,dx,_,_,rfl,h1,T.dQ,T.Hi,KW ..,_,rfl,a.dh,_,rfl,(by have q:=dg.k (k:=Sum.inl b) h3.dc;rw[vb]at q;exact q),wl b,_,rfl,.inl (ao.of (h3.at_ b hb).1),k⟩
theorem ay.lay{H:Hp}{a:SA}{c:Cf}{s:Rm}{O:Addr->Prop}(S:ay K H a c s O){b:Int}(hb:b∈s.seq)(ws:List Int){Q:Hp->Prop}(k:∀H' O',ay K H' a c (pO s b ws) O'->bM O H H' O'->Q H') :
  ∃dx kvs,H a.sp=some (.ins (af K "Store") dx (bF a.rp c.late a.dh a.df))/\H a.dh=some (.dK kvs)/\kvs.length=s.seq.length/\∀l,H l=none->Q (upd (upd H l (.lst (ws.map V.int))) a.dh (.dK (putK kvs (Sum.inl b) (.ref l)))):=by
 obtain⟨dx,h1⟩:=S.aT.ob;obtain⟨kvs,wl,h3⟩:=S.held;obtain⟨kf,h4,h5⟩:=S.fresh;refine⟨dx,kvs,h1,h3.dc,S.ng h3,λl hl=>?_⟩;obtain⟨S2,p2⟩:=S.aT.laid h3 ws hl (seq':=s.seq) (b:=b) (λx=>⟨.inr,λm=>m.elim (λz=>z ▸hb) id⟩);exact k _ _ ⟨S2.1,⟨_,_,S2.2⟩,⟨kf,by rw[Zc S.aT.n2];exact Zd hl _ _ _ h4,h5⟩,S.yv⟩ p2
theorem gk.lst{H:Hp}{a:SA}{c:Cf}{seq:List Int}{us:Int->Int}{O:Addr->Prop}(S:gk K H a c seq us O){l:Addr}{xs:List V}(hl:H l=some (.lst xs))(n1:l≠a.ls)(n2:l∉a.au)(u:List V):gk K (upd H l (.lst u)) a c seq us O:=by
 obtain⟨dx,h1⟩:=S.ob;obtain⟨dr,h2⟩:=S.room.ob;obtain⟨kr,h3,_⟩:=S.room.dc;obtain⟨k1,h4⟩:=S.d1;obtain⟨k2,h5⟩:=S.d2;have ne:∀{y o},H y=some o->(∀xs,o≠.lst xs)->upd H l (.lst u) y=some o:=λ{y o} e n=>by rw[Zc (λz=>by rw[z,hl]at e;exact n xs (asK e).symm)];exact e
 have R:aB K (upd H l (.lst u)) a.rp c.sh c.pl c.ru a.ls a.au a.du seq us seq.length:=S.room.frame λy o m e=>by
  rw[Zc (λz:y=l=>by
   subst z;rcases m with m|m|m|m
   .rw [m,h2]at hl;cases hl
   .exact n1 m
   .exact n2 m
   .rw [m,h3]at hl;cases hl)]
  exact e
 exact⟨⟨dx,ne h1 (λ_ z=>by cases z)⟩,R,⟨k1,ne h4 (λ_ z=>by cases z)⟩,⟨k2,ne h5 (λ_ z=>by cases z)⟩,S.n1,S.n2,S.n3,S.own,λy h=>NK (S.ex y h)⟩
inductive nV(K:W.Frag)(vs:List V)(H:Hp)(Q:VK)(E:XK):Prop
 |mk (a:SA) (c:Cf) (s:Rm) (O:Addr->Prop) (b i x:Int):vs=[.ref a.sp,.int b,.int i,.int x]->ay K H a c s O->b∈s.seq->0<=i->i<(s.wd b).length->(∀H',ay K H' a c (pO s b ((s.wd b).set i.toNat x)) O->bM O H H' O->Q .aO H')->nV K vs H Q E
example:(iz Fd):=by
 obtain⟨a,c,s,O,b,i,x,rfl,S,hb,i0,i1,k⟩:=h;refine⟨_,(Zg (rJ (pv 3) (DJ (IK hu (Zk (K:=K) rfl (pv 0) rfl) (pv 1) (λ_ _=>rfl)) (pv 2) DO))),?_⟩;obtain⟨dx,h1⟩:=S.aT.ob;obtain⟨kvs,wl,h3⟩:=S.held;obtain⟨kf,h4,h5⟩:=S.fresh;have vb:=h3.v b;rw[auJ hb]at vb;obtain⟨w1,w2,w3,w4⟩:=h3.at_ b hb;refine⟨_,rfl,_,rfl,a.sp,_,dx,_,_,rfl,h1,T.dQ,T.Hi,KW ..,_,rfl,a.dh,_,rfl,(by have q:=dg.k (k:=Sum.inl b) h3.dc;rw[vb]at q;exact q),_,rfl,wl b,_,i,i.toNat,rfl,rfl,w1,?_,?_⟩
 .unfold uN;rw[auJ i0,auJ (by rw[apM];exact i1)]
 .rw [<-map_set];refine k _ ⟨S.aT.lst w1 w4 w3 _,⟨kvs,wl,by rw[Zc (λz=>by rw[<-z,h3.dc]at w1;cases w1)];exact h3.dc,h3.ki,h3.v,λy m=>?_,h3.inj⟩,⟨kf,by rw[Zc (λz=>by rw[<-z,h4]at w1;cases w1)];exact h4,h5⟩,S.yv⟩ ⟨λy o e n=>?_,λ_ h=>.inl h⟩
  .show _=some (HO.lst ((if y=b then(s.wd b).set i.toNat x else s.wd y).map V.int))/\_;by_cases z:y=b
   .rw [auJ z,z,Za];exact⟨rfl,w2,w3,w4⟩
   .obtain ⟨e1,e2⟩:=h3.at_ y m;rw[ale z,Zc (λq=>z (h3.inj y m b hb q))];exact⟨e1,e2⟩
  .rw [Zc (λz=>?_)]
   .exact e
   .rw [z,w1]at e;cases e;exact n (z ▸w2) trivial
inductive nY(K:W.Frag)(vs:List V)(H:Hp)(Q:VK)(E:XK):Prop
 |mk (a:SA) (c:Cf) (s:Rm) (O:Addr->Prop) (b:Int):vs=[.ref a.sp,.int b]->ay K H a c s O->b∈s.seq->s.seq.length<=800->(∀H',ay K H' a c (HS s b) O->bM O H H' O->Q .aO H')->nY K vs H Q E
example:(iW Bw):=by
 obtain⟨a,c,s,O,b,rfl,S,hb,hl,k⟩:=h;refine⟨_,(Zg (IJ hu (Zk (K:=K) rfl (pv 0) rfl) (pv 1) d7 rfl)),?_⟩;obtain⟨dx,h1⟩:=S.aT.ob;obtain⟨kvs,wl,h3⟩:=S.held;obtain⟨kf,h4,h5,h6⟩:=S.fresh;have fl:=S.Yu h5 h6;refine⟨_,rfl,a.sp,_,dx,_,_,rfl,h1,T.dQ,T.Eh,IP ..,_,rfl,a.df,_,rfl,mF.k (k:=Sum.inl b) h4 (Zv (by lia)),?_⟩;have S2:=S.aT.put (x:=a.df) (.inr rfl) (putK kf (Sum.inl b) (.bl true));refine k _ ⟨S2,⟨kvs,wl,by rw[Zc (aWz S.aT.n2)];exact h3.dc,h3.ki,h3.v,λx m=>⟨by rw[Zc (λz=>by have q:=(h3.at_ x m).1;rw[z,h4]at q;cases q)];exact(h3.at_ x m).1,(h3.at_ x m).2⟩,h3.inj⟩,⟨_,Za,h5.put b _,λx=>?_⟩,λx h=>?_⟩ (S.aT.xQ (x:=a.df) (.inr rfl) _)
 .rw [ER];show _=if(if x=b then true else s.fr x)=true then _ else _
  by_cases z:x=b
  .rw [auJ (by rw[z]),auJ z,auJ rfl]
  .rw [ale (λq=>z (aLX q)),h6 x,ale z]
 .by_cases z:x=b
  .exact z ▸hb
  .exact S.yv x ((ale z:(if x=b then true else s.fr x)=s.fr x).symm.trans h)
inductive ur(vs:List V)(H:Hp)(Q:VK)(E:XK):Prop
 |mk (s p:Int):vs=[.int s,.int p]->0<s->s<1073741824->Q (.int (p/s)) H->ur vs H Q E
example:(qO uE):=by
 obtain⟨s,p,rfl,h0,h1,k⟩:=h;refine⟨_,(Zg (Zs (aj EN (pv 1) (pv 0)))),?_⟩;exact⟨_,rfl,_,rfl,_,_,rfl,rfl,⟨h0,h1⟩,k⟩
def gS(s b:Int):List V:=(List.range s.toNat).map λk=>V.int (b*s+(k:Nat))
inductive tZ(vs:List V)(H:Hp)(Q:VK)(E:XK):Prop
 |mk (s b:Int):vs=[.int s,.int b]->0<s->s<=1000->0<=b->b<=1000000->(∀(r:Addr)(H':Hp),H r=none->av H H'->H' r=some (.lst (gS s b))->Q (.ref r) H')->tZ vs H Q E
theorem Z3{b s:Int}(h0:0<=b)(h1:b<=1000000)(s0:0<s)(s1:s<=1000):0<=b*s/\b*s<=1000000000:=by
 refine⟨Int.mul_nonneg h0 (by lia),?_⟩;exact aOU (aPP h1 (by lia)) (Int.mul_le_mul_of_nonneg_left s1 (by decide))
example:(qM AZ):=by
 obtain ⟨s,b,rfl,s0,s1,b0,b1,k⟩:=h;refine⟨_,(Ze (cX 2 nd (aj sZ (pv 1) (pv 0)))
   (Zg (Zs (ZdQ rfl rfl T.wG rfl T.vh (pc (pv 2) (pc (aj ZJ (pv 2) (pv 0)) Zb)))))),?_⟩
 obtain⟨m0,m1⟩:=Z3 b0 b1 s0 s1;have e:(b*s+s-b*s).toNat=s.toNat:=by lia
 refine⟨_,rfl,_,rfl,_,_,rfl,rfl,.inl ⟨by lia,by lia⟩,?_⟩;refine⟨_,rfl,_,rfl,_,rfl,_,_,rfl,rfl,_,_,rfl,⟨by lia,by lia,by lia,by lia⟩,?_⟩;rw[e];refine⟨aaH (Zv (by lia)),λp hp=>?_⟩;exact k p _ hp (Zd hp _) Za
def lO(size:Int)(dk:Addr):List (Str×V):=ah "kept" (.ref dk) (ah "size" (.int size) [])
theorem KU(size:Int)(dk:Addr):(lO size dk).lookup ("kept":Str)=some (.ref dk):=by
 unfold lO;rw[Zh,auJ rfl]
theorem Sl(size:Int)(dk:Addr):(lO size dk).lookup ("size":Str)=some (.int size):=by
 unfold lO;rw[Zh,ale (by decide +kernel),Zh,auJ rfl]
theorem yc(size:Int)(dk:Addr){m:Str}(h1:¬m ="kept":=by decide +kernel)(h2:¬m ="size":=by decide +kernel):(lO size dk).lookup m=none:=by
 unfold lO;rw[Zh,ale h1,Zh,ale h2];rfl
structure dO(K:W.Frag)(H:Hp)(bm dk:Addr)(size:Int)(mem:Int->Int)(U:List Int):Prop where
 ob:∃dx,H bm=some (.ins (af K "Memory") dx (lO size dk))
 kept:∃kvs,H dk=some (.dK kvs)/\KI kvs/\∀s,aK kvs (Sum.inl s:Key)=if mem s=0 then none else some (.int (mem s))
 sup:∀s,mem s≠0->s/size∈U
theorem dO.frame{H H':Hp}{bm dk:Addr}{size:Int}{mem:Int->Int}{U:List Int}(m:dO K H bm dk size mem U)(f:∀x o,x=bm\/x=dk->H x=some o->H' x=some o):dO K H' bm dk size mem U:=by
 obtain⟨dx,e⟩:=m.ob;obtain⟨kvs,e2,r⟩:=m.kept;exact⟨⟨dx,f _ _ (.inl rfl) e⟩,⟨kvs,f _ _ (.inr rfl) e2,r⟩,m.sup⟩
theorem Sk{size:Int}{mem:Int->Int}{U:List Int}{kvs:List (Key×V)}(z0:0<size)(h:KI kvs)(v:∀s,aK kvs (Sum.inl s:Key)=if mem s=0 then none else some (.int (mem s)))(sup:∀s,mem s≠0->s/size∈U):kvs.length<=U.length*size.toNat:=by
 obtain⟨ks,e,nd⟩:=h;have l:=agz List.length e;rw[apM,apM]at l;rw[l];have q:=Dz nd (b:=U.flatMap λb=>(List.range size.toNat).map λk=>b*size+(k:Nat)) λs m=>?_
 .refine atR q (ab5 ?_);clear q sup
  induction U with
  |nil=>simp
  |cons x U ih=>rw[List.flatMap_cons,akn,ih,apM,aHo,aCx,Nat.succ_mul,Nat.add_comm]
 .have q:=AG (kvs:=kvs) (Sum.inl s);rw[v s,e]at q;have hs:=q.mpr (aOS m);have nz:mem s≠0:=λz=>by rw[auJ z]at hs;cases hs
  rw[List.mem_flatMap];have m0:0<=s%size:=avQ _ (by lia);have m1:s%size<size:=aGX _ (by lia);refine⟨s/size,sup s nz,atX.mpr ⟨(s%size).toNat,agO.mpr (by lia),?_⟩⟩;have:=agW s size;rw[Int.toNat_of_nonneg m0,Int.mul_comm];exact this
inductive Bc(K:W.Frag)(vs:List V)(H:Hp)(Q:VK)(E:XK):Prop
 |mk (p dx:Addr) (size:Int):vs=[.ref p,.int size]->H p=some (.ins (af K "Memory") dx [])->(∀(dk:Addr)(H':Hp),(∀U,dO K H' p dk size (λ_=>0) U)->H dk=none->(∀b o,H b=some o->b≠p->H' b=some o)->Q .aO H')->Bc K vs H Q E
example:(lF GY):=by
 obtain ⟨p,dx,size,rfl,hp,k⟩:=h;refine⟨_,(Ze (rH (pv 0) (pv 1) rfl)
   (Zg (rH (pv 0) IV rfl))),?_⟩
 refine⟨_,rfl,_,rfl,p,_,dx,_,rfl,hp,T.xN,T.MD,(by show 0<1000;decide),λdk Kq=>?_⟩;have np:p≠dk:=Zf (Za (H:=H) (a:=p) (o:=.ins (af K "Memory") dx (ah "size" (.int size) []))) Kq;refine⟨_,rfl,p,_,dx,_,rfl,(by rw[Zc np];exact Za),T.xN,T.Fo,(by show 1<1000;decide),?_⟩;rw[Zc (aWz np)]at Kq;refine k dk _ (λU=>⟨⟨dx,Za⟩,⟨[],by rw[Zc (aWz np)];exact Za,KI.nil,λ_=>rfl⟩,λs h=>absurd rfl h⟩) Kq λx o e n=>?_;rw[Zc n,Zc (Zf e Kq),Zc n];exact e
def aG(size:Int)(mem:Int->Int)(b:Int):List Int:=(List.range size.toNat).map λk=>mem (b*size+(k:Nat))
def gG(size:Int)(mem:Int->Int)(b:Int)(ws:List Int)(i:Nat):Int->Int:=λs=>if b*size<=s/\s<b*size+i then ws.getD (s-b*size).toNat 0 else mem s
def qY(size:Int)(mem:Int->Int)(b:Int)(ws:List Int):Int->Int:=gG size mem b ws size.toNat
theorem Tp{s b:Int}{i:Nat}{x:V}(h:(gS s b)[i]?=some x):x=.int (b*s+(i:Nat))/\i<s.toNat:=by
 unfold gS at h;rw[afQ]at h;by_cases c:i<s.toNat
 .rw [ad4 c]at h;exact⟨(asK h).symm,c⟩
 .rw [aG2 (by rw[aHo];lia)]at h;cases h
inductive qp(K:W.Frag)(vs:List V)(H:Hp)(Q:VK)(E:XK):Prop
 |mk (bm dk:Addr) (size b:Int) (mem:Int->Int) (U:List Int):vs=[.ref bm,.int b]->dO K H bm dk size mem U->0<size->size<=1000->0<=b->b<=1000000->(∀l H',H l=none->av H H'->H' l=some (.lst ((aG size mem b).map V.int))->Q (.ref l) H')->qp K vs H Q E
example:(gE Ff AZ):=by
 obtain⟨bm,dk,size,b,mem,U,rfl,M,z0,z1,b0,b1,k⟩:=h;refine⟨_,(Zg (Zs (ZL (Zx (gB:=(Zq bO)) (oN:=iN) (N:=["spot","self"]) (own:=1) (js:=[0]) (by decide +kernel) rfl rfl) rfl (zh (K:=K) rfl (Zm AZ hr.m rfl (pc (Zk (K:=K) rfl (pv 0) rfl) (pc (pv 1) Zb)))) (λ_ _ _ _ _ _=>(bE 0 (show List.Nodup (["spot","self"]:List Str) by decide +kernel))) (λ_ _ _ _ _ _=>(OD hu (Zk (K:=K) rfl (pv 1) rfl) (pv 0) Zi ⟨rfl,rfl,rfl,rfl⟩))))),?_⟩;obtain⟨dx,h1⟩:=M.ob;obtain⟨kvs,h2,h3,h4⟩:=M.kept;refine⟨_,rfl,bm,_,dx,_,_,rfl,h1,T.xN,T.MD,Sl ..,_,rfl,size,b,rfl,z0,z1,b0,b1,λr H1 hr1 s1 e1=>⟨r,rfl,⟨_,ao.of e1⟩,λl hl=>?_⟩⟩;have sS:=s1 _ _ h1;have hk:=s1 _ _ h2;have J9:(gS size b).length=size.toNat:=by unfold gS;rw[apM,aHo]
 refine DK (K:=K) (a:=r) (xs:=gS size b) (l:=l) (λi ys σ' G'=>∃v0:Option V,σ'=[v0,some (.ref bm)]/\ys=((List.range i).map λk=>mem (b*size+(k:Nat))).map V.int/\G'=upd H1 l (.lst ys)) ⟨none,rfl,rfl,rfl⟩ (λi ys σ' G' _ ⟨_,_,_,q⟩=>ao.of (by rw[q,Zc (Zf e1 hl)];exact e1)) ?_ ?_
 .rintro i x ys σ' G' hi hxi hys ⟨v0,rfl,rfl,rfl⟩;obtain⟨rfl,_⟩:=Tp hxi;have sl:=Zd hl (.lst (((List.range i).map λk=>mem (b*size+(k:Nat))).map V.int));have q:=dg.k (k:=Sum.inl (b*size+(i:Nat))) (sl _ _ hk);rw[h4]at q;refine⟨_,rfl,bm,_,dx,_,_,rfl,sl _ _ sS,T.xN,T.Fo,KU ..,dk,rfl,.inl ⟨_,.inl (sl _ _ hk)⟩,_,rfl,_,q,?_⟩;have eg:(if mem (b*size+(i:Nat))=0 then none else some (V.int (mem (b*size+(i:Nat))))).getD (V.int 0)=V.int (mem (b*size+(i:Nat))):=by
   by_cases c:mem (b*size+(i:Nat))=0
   .rw [auJ c,c];rfl
   .rw [ale c];rfl
  rw[eg];exact gu.of (aaH (Zv (by lia))) hi hys Za ⟨_,rfl,by rw[aJb,afk,afk];rfl,K7⟩
 .rintro ys σ' G' _ ⟨v0,rfl,rfl,rfl⟩;rw[J9];exact k l _ (s1.free hl) (s1.trans (Zd hl _)) Za
inductive wW(K:W.Frag)(vs:List V)(H:Hp)(Q:VK)(E:XK):Prop
 |mk (bm dk:Addr) (size b:Int) (mem:Int->Int) (U:List Int) (lw:Addr) (ws:List Int):vs=[.ref bm,.int b,.ref lw]->dO K H bm dk size mem U->0<size->size<=1000->0<=b->b<=1000000->b∈U->U.length<=800->H lw=some (.lst (ws.map V.int))->ws.length=size.toNat->(∀H',dO K H' bm dk size (qY size mem b ws) U->(∀x o,H x=some o->x≠dk->H' x=some o)->Q .aO H')->wW K vs H Q E
theorem Zht{size:Int}{mem:Int->Int}{b:Int}{ws:List Int}{i:Nat}{x:Int}(h:ws[i]?=some x)(s:Int):gG size mem b ws (i+1) s=if s=b*size+(i:Nat) then x else gG size mem b ws i s:=by
 unfold gG;have gd:ws.getD i 0=x:=by rw[akz,h];rfl
 by_cases c:s=b*size+(i:Nat)
 .rw [auJ c,auJ (by lia)];have:(s-b*size).toNat=i:=by lia
  rw[this,gd]
 .rw [ale c];by_cases d:b*size<=s/\s<b*size+(i:Nat)
  .rw [auJ d,auJ (by lia)]
  .rw [ale d,ale (by lia)]
theorem ZfY{size b:Int}{i:Nat}(z0:0<size)(hi:i<size.toNat):(b*size+(i:Nat))/size=b:=by
 rw[Int.add_comm,aY6 _ _ (by lia),a7q (by lia) (by lia)];lia
example:(m6 Fj AZ):=by
 obtain⟨bm,dk,size,b,mem,U,lw,ws,rfl,M,z0,z1,b0,b1,bU,lU,pP,ye,k⟩:=h;refine⟨_,(Zg (yG aAH rfl (ZkG rfl T.JF (pc (Zm AZ hr.m rfl (pc (Zk (K:=K) rfl (pv 0) rfl) (pc (pv 1) Zb))) (pc (pv 2) Zb))) (ZD (K:=K) (n:=2) rfl rfl (Zn (bE 3 nd) (Zn (bE 4 nd) ZC))) (Zg (aE (Zu aW (pv 4) Zi (Zw _)) (Zg (Zr (TN (Zk (K:=K) rfl (pv 0) rfl) (pv 3) Zi ⟨rfl,rfl,rfl,rfl⟩))) (Zg (IJ hu (Zk (K:=K) rfl (pv 0) rfl) (pv 3) (pv 4) rfl)))))),?_⟩;obtain⟨dx,h1⟩:=M.ob;obtain⟨kv0,h2,_⟩:=M.kept;refine⟨_,rfl,bm,_,dx,_,_,rfl,h1,T.xN,T.MD,Sl ..,_,rfl,size,b,rfl,z0,z1,b0,b1,λr H1 hr1 s1 e1=>?_⟩;have J9:(gS size b).length=size.toNat:=by unfold gS;rw[apM,aHo]
 have WV:r≠dk:=λz=>by rw[z,h2]at hr1;cases hr1
 have W7:lw≠dk:=λz=>by rw[z,h2]at pP;cases pP
 refine⟨_,rfl,r,lw,rfl,⟨_,ao.of e1⟩,⟨_,ao.of (s1 _ _ pP)⟩,ZjL (K:=K) (a:=r) (b:=lw) (xs:=gS size b) (ys:=ws.map V.int) (λi σ G=>∃v3 v4:Option V,σ=[some (.ref bm),some (.int b),some (.ref lw),v3,v4]/\dO K G bm dk size (gG size mem b ws i) U/\∀x o,H1 x=some o->x≠dk->G x=some o) (by rw[J9,apM,ye])
  ⟨none,none,rfl,?_,λ_ _ e _=>e⟩ (λi σ G _ ⟨_,_,_,_,q⟩=>⟨ao.of (q _ _ e1 WV),ao.of (q _ _ (s1 _ _ pP) W7)⟩) ?_ ?_⟩
 .have e0:gG size mem b ws 0=mem:=by
   funext s
   unfold gG;rw[ale (by lia)]
  rw[e0];exact M.frame λx o _ e=>s1 x o e
 .rintro i x y t σ G hx hy ⟨v3,v4,rfl,M',fr⟩ ht;obtain⟨rfl,hi⟩:=Tp hx;obtain⟨z,hz,rfl⟩:∃z,ws[i]?=some z/\y=V.int z:=by
   rw[afQ]at hy;cases e:ws[i]? with
   |none=>rw[e]at hy;cases hy
   |some z=>rw[e]at hy;exact⟨z,rfl,(asK hy).symm⟩
  have s2:=Zd ht (.tup [V.int (b*size+(i:Nat)),V.int z]);refine⟨t,_,rfl,aP.of Za,rfl,_,_,rfl,gN ⟨_,_,rfl,gN ⟨rfl,?_⟩⟩⟩;have M2:dO K (upd G t (.tup [V.int (b*size+(i:Nat)),V.int z])) bm dk size (gG size mem b ws i) U:=M'.frame λx o _ e=>s2 x o e;have HU:∀x o,H1 x=some o->x≠dk->upd G t (.tup [V.int (b*size+(i:Nat)),V.int z]) x=some o:=λx o e n=>s2 _ _ (fr x o e n);generalize upd G t (.tup [V.int (b*size+(i:Nat)),V.int z])=G2 at *;obtain⟨pR,g1⟩:=M2.ob;obtain⟨kvs,g2,g3,g4⟩:=M2.kept;have Xf:bm≠dk:=λq=>by rw[q,g2]at g1;cases g1
  have sp:=ZfY (b:=b) z0 hi;have es:=Zht (size:=size) (mem:=mem) (b:=b) hz;have fin:∀kvs',KI kvs'->(∀s,aK kvs' (Sum.inl s:Key)=if s=b*size+(i:Nat) then(if z=0 then none else some (.int z)) else aK kvs (Sum.inl s:Key))->dO K (upd G2 dk (.dK kvs')) bm dk size (gG size mem b ws (i+1)) U/\∀x o,H1 x=some o->x≠dk->upd G2 dk (.dK kvs') x=some o:=λkvs' ki hv=>by
   refine⟨⟨⟨pR,by rw[Zc Xf];exact g1⟩,⟨kvs',Za,ki,λs=>?_⟩,λs hs=>?_⟩,λx o e n=>by rw[Zc n];exact HU x o e n⟩
   .by_cases c:s=b*size+(i:Nat)
    .rw [hv s,(es s).trans (auJ c),auJ c]
    .rw [hv s,(es s).trans (ale c),ale c,g4 s]
   .rw [es s]at hs;by_cases c:s=b*size+(i:Nat)
    .rw [c,sp];exact bU
    .rw [ale c]at hs;exact M2.sup s hs
  refine⟨_,rfl,rfl,_,rfl,Od (λc=>?_) (λc=>?_)⟩
  .have c:z=0:=by simpa using c
   refine⟨_,rfl,bm,_,pR,_,_,rfl,g1,T.xN,T.Fo,KU ..,dk,rfl,.inl ⟨_,.inl g2⟩,_,rfl,kvs,Sum.inl (b*size+(i:Nat)),g2,rfl,λv hv=>?_,λhv=>?_⟩
   .obtain ⟨f1,f2⟩:=fin _ (g3.drop (b*size+(i:Nat))) (λs=>by
     rw[IQ,auJ c];by_cases q:s=b*size+(i:Nat)
     .rw [auJ (by rw[q]),auJ q]
     .rw [ale (λy=>q (aLX y)),ale q])
    exact⟨_,_,rfl,f1,f2⟩
   .rw [g4]at hv;have e0:gG size mem b ws i (b*size+(i:Nat))=0:=by
     by_cases q:gG size mem b ws i (b*size+(i:Nat))=0
     .exact q
     .rw [ale q]at hv;cases hv
    have e:gG size mem b ws (i+1)=gG size mem b ws i:=by
     funext s
     rw[es s];by_cases q:s=b*size+(i:Nat)
     .rw [auJ q,q,e0,c]
     .rw [ale q]
    exact⟨_,_,rfl,by rw[e];exact M2,HU⟩
  .have c:z≠0:=λq=>c (by rw[q];simp);have kl:=Sk z0 g3 g4 M2.sup;have kb:kvs.length<sizeLine:=ayQ (atR kl (Nat.mul_le_mul lU (by lia:size.toNat<=1000))) (by decide);refine⟨_,rfl,_,rfl,bm,_,pR,_,_,rfl,g1,T.xN,T.Fo,KU ..,_,rfl,dk,_,rfl,mF.k (k:=Sum.inl (b*size+(i:Nat))) g2 kb,?_⟩;obtain⟨f1,f2⟩:=fin _ (g3.put (b*size+(i:Nat)) (.int z)) (λs=>by
     rw[ER,ale c];by_cases q:s=b*size+(i:Nat)
     .rw [auJ (by rw[q]),auJ q]
     .rw [ale (λy=>q (aLX y)),ale q])
   exact⟨_,_,rfl,f1,f2⟩
 .rintro σ G ⟨v3,v4,rfl,M',fr⟩;rw[J9]at M';exact k G M' λx o e n=>fr x o (s1 _ _ e) n
structure aM where
 size:Int
 kind:Str
 bg:List Cf
 U:List Int
structure WF(g:aM):Prop where
 cf:∀c∈g.bg,1<=c.pl/\c.pl<=16
 z0:1<=g.size
 z1:g.size<=1000
 lU:g.U.length<=800
 ub:∀b∈g.U,0<=b/\b<=1000000
 l4:g.bg.length<=4
 l1:1<=g.bg.length
structure aq where
 rm:List Rm
 mem:Int->Int
 ev:List (List V)
def aq.at_(st:aq)(k:Nat):Rm:=st.rm.getD k tE
def aq.set(st:aq)(k:Nat)(s:Rm):aq:={ st with rm:=st.rm.set k s }
def aq.tell(st:aq)(e:List V):aq:={ st with ev:=st.ev++[e] }
structure TA where
 p:Addr
 ss:Addr
 bm:Addr
 dk:Addr
 ev:Addr
 as:List SA
abbrev OS:=Nat->Addr->Prop
def OS.set(os:OS)(k:Nat)(O:Addr->Prop):OS:=λj=>if j=k then O else os j
def Bs(A:TA)(x:Addr):Prop:=x=A.p\/x=A.ss\/x=A.bm\/x=A.dk\/x=A.ev
def OW(A:TA)(os:OS)(x:Addr):Prop:=Bs A x\/∃k,k<A.as.length/\os k x
def Ev(n:Nat)(e:List V):Prop:=(∃k:Nat,k<=n/\e=[.str "found",.int (k:Int)])\/(∃(k:Nat)(b:Int),(k<n/\0<=b/\b<=1000000)/\(e=[.str "in",.int (k:Int),.int b]\/e=[.str "out",.int (k:Int),.int b]))\/∃(k:Nat)(b:Int),(k<=n/\0<=b/\b<=1000000)/\e=[.str "words",.int (k:Int),.int b]
def wF(n:Nat)(H:Hp)(l:Addr)(es:List (List V)):Prop:=(∀e∈es,Ev n e)/\∃ts:List Addr,H l=some (.lst (ts.map V.ref))/\ts.length=es.length/\∀(i:Nat)(t:Addr)(e:List V),ts[i]?=some t->es[i]?=some e->H t=some (.tup e)
def br(size:Int)(ss bm:Addr)(last:Nat)(ev:Addr)(kind:Str):List (Str×V):=(ah "events" (.ref ev) (ah "last" (.int last) (ah "bottom" (.ref bm) (ah "stores" (.ref ss) (ah "size" (.int size) [])))))
section
variable(size:Int)(ss bm:Addr)(last:Nat)(ev:Addr)(kind:Str)
theorem Jd:(br size ss bm last ev kind).lookup ("events":Str)=some (.ref ev):=by
 unfold br;rw[Zh,auJ rfl]
theorem Cc:(br size ss bm last ev kind).lookup ("last":Str)=some (.int last):=by
 unfold br;rw[Zh,ale (by decide +kernel),Zh,auJ rfl]
theorem Oq:(br size ss bm last ev kind).lookup ("bottom":Str)=some (.ref bm):=by
 unfold br;rw[Zh,ale (by decide +kernel),Zh,ale (by decide +kernel),Zh,auJ rfl]
theorem ZA:(br size ss bm last ev kind).lookup ("stores":Str)=some (.ref ss):=by
 unfold br;rw[Zh,ale (by decide +kernel),Zh,ale (by decide +kernel),Zh,ale (by decide +kernel),Zh,auJ rfl]
theorem EI:(br size ss bm last ev kind).lookup ("size":Str)=some (.int size):=by
 unfold br;rw[Zh,ale (by decide +kernel),Zh,ale (by decide +kernel),Zh,ale (by decide +kernel),Zh,ale (by decide +kernel),Zh,auJ rfl]
theorem az{m:Str}(h2:¬m ="events":=by decide +kernel)(h3:¬m ="last":=by decide +kernel)(h4:¬m ="bottom":=by decide +kernel)(h5:¬m ="stores":=by decide +kernel)(h6:¬m ="size":=by decide +kernel):(br size ss bm last ev kind).lookup m=none:=by
 unfold br;rw[Zh,ale h2,Zh,ale h3,Zh,ale h4,Zh,ale h5,Zh,ale h6];rfl
theorem uX{f g:Str}{v x:V}{r:List (Str×V)}(h:¬g=f):ah f v ((g,x) ::r)=(g,x) ::ah f v r:=by
 show(if g=f then _ else _)=_;rw[ale h]
theorem ZjY{f:Str}{v x:V}{r:List (Str×V)}:ah f v ((f,x) ::r)=(f,v) ::r:=by
 show(if f=f then _ else _)=_;rw[auJ rfl]
theorem IM{f:Str}{v:V}:ah f v []=[(f,v)]:=rfl
theorem OO:br size ss bm last ev kind=([(("size":Str),V.int size),(("stores":Str),V.ref ss),(("bottom":Str),V.ref bm),(("last":Str),V.int last),(("events":Str),V.ref ev)]:List (Str×V)):=by
 unfold br;have a1:¬("size":Str) ="stores":=by decide +kernel
 have a2:¬("size":Str) ="bottom":=by decide +kernel
 have a3:¬("size":Str) ="last":=by decide +kernel
 have a4:¬("size":Str) ="events":=by decide +kernel
 have b2:¬("stores":Str) ="bottom":=by decide +kernel
 have b3:¬("stores":Str) ="last":=by decide +kernel
 have b4:¬("stores":Str) ="events":=by decide +kernel
 have c3:¬("bottom":Str) ="last":=by decide +kernel
 have c4:¬("bottom":Str) ="events":=by decide +kernel
 have d4:¬("last":Str) ="events":=by decide +kernel
 rw[IM,uX a1,IM,uX a2,uX b2,IM,uX a3,uX b3,uX c3,IM,uX a4,uX b4,uX c4,uX d4,IM]
theorem Z2(ev':Addr):ah "events" (.ref ev') (br size ss bm last ev kind)=br size ss bm last ev' kind:=by
 rw[OO,OO];have a4:¬("size":Str) ="events":=by decide +kernel
 have b4:¬("stores":Str) ="events":=by decide +kernel
 have c4:¬("bottom":Str) ="events":=by decide +kernel
 have d4:¬("last":Str) ="events":=by decide +kernel
 rw[uX a4,uX b4,uX c4,uX d4,ZjY]
end
structure aa(K:W.Frag)(H:Hp)(A:TA)(g:aM)(st:aq)(os:OS)(n:Nat):Prop where
 ob:∃dx,H A.p=some (.ins (af K "Beside") dx (br g.size A.ss A.bm A.as.length A.ev g.kind))
 ss:H A.ss=some (.lst (A.as.map λa=>V.ref a.sp))
 mem:dO K H A.bm A.dk g.size st.mem g.U
 ev:wF g.bg.length H A.ev st.ev
 zc:st.ev.length<=n
 lc:g.bg.length=A.as.length
 lS:st.rm.length=A.as.length
 aT:∀(k:Nat)(a:SA)(c:Cf)(s:Rm),A.as[k]?=some a->g.bg[k]?=some c->st.rm[k]?=some s->ay K H a c s (os k)
 off:∀k,k<A.as.length->∀x,os k x->¬Bs A x
 uR:∀i j,i<A.as.length->j<A.as.length->i≠j->∀x,os i x->¬os j x
 CN:A.ss≠A.ev
 wc:A.p≠A.bm
 wH:∀s∈st.rm,∀b∈s.seq,b∈g.U
 full:∀(k:Nat)(c:Cf)(s:Rm),g.bg[k]?=some c->st.rm[k]?=some s->∀t,((Zp c.sh t s.seq).length:Int)<=c.pl
 wl:∀s∈st.rm,∀b∈s.seq,(s.wd b).length=g.size.toNat
 wf:WF g
 tb:Tb K H
section
variable{K:W.Frag}{H H':Hp}{A:TA}{g:aM}{st:aq}{os:OS}{n:Nat}{a:SA}{c:Cf}{s:Rm}
theorem wF.frame{m:Nat}{l:Addr}{es:List (List V)}(h:wF m H l es)(f1:∀o,H l=some o->H' l=some o)(f2:∀x ys,H x=some (.tup ys)->H' x=some (.tup ys)):wF m H' l es:=by
 obtain⟨h0,ts,h1,h2,h3⟩:=h;exact⟨h0,ts,f1 _ h1,h2,λi t e a b=>f2 _ _ (h3 i t e a b)⟩
theorem aa.frame(T:aa K H A g st os n)(f:∀x o,H x=some o->(OW A os x\/¬Mt o)->H' x=some o):aa K H' A g st os n:=by
 obtain⟨dx,h1⟩:=T.ob;have fb:∀{x o},Bs A x->H x=some o->H' x=some o:=λ{x o} h e=>f x o e (.inl (.inl h));have ft:∀x ys,H x=some (.tup ys)->H' x=some (.tup ys):=λx ys e=>f x _ e (.inr id);refine⟨⟨dx,fb (.inl rfl) h1⟩,fb (by simp[Bs]) T.ss,T.mem.frame λx o m e=>fb (by rcases m with m|m <;> simp[Bs,m]) e,T.ev.frame (λo e=>fb (by simp[Bs]) e) ft,T.zc,T.lc,T.lS,λk a c s h1 h2 h3=>(T.aT k a c s h1 h2 h3).frame λx o h e=>f x o e (.inl (.inr ⟨k,(ajE.mp h1).1,h⟩)),T.off,T.uR,T.CN,T.wc,T.wH,T.full,T.wl,T.wf,f _ _ T.tb (.inr id)⟩
theorem aa.same(T:aa K H A g st os n)(h:av H H'):aa K H' A g st os n:=T.frame λx o e _=>h x o e
theorem aa.le{m:Nat}(T:aa K H A g st os n)(h:n<=m):aa K H A g st os m:=⟨T.ob,T.ss,T.mem,T.ev,atR T.zc h,T.lc,T.lS,T.aT,T.off,T.uR,T.CN,T.wc,T.wH,T.full,T.wl,T.wf,T.tb⟩
theorem aa.ex(T:aa K H A g st os n):∀x,OW A os x->H x≠none:=λx h=>by
 rcases h with h|⟨k,hk,h⟩
 .obtain ⟨dx,h1⟩:=T.ob;obtain⟨dm,h2⟩:=T.mem.ob;obtain⟨kv,h3,_⟩:=T.mem.kept;obtain⟨_,ts,h4,_⟩:=T.ev;rcases h with rfl|rfl|rfl|rfl|rfl
  .rw [h1];simp
  .rw [T.ss];simp
  .rw [h2];simp
  .rw [h3];simp
  .rw [h4];simp
 .have h1:A.as[k]?=some A.as[k]:=a4h hk;have h2:g.bg[k]?=some (g.bg[k]'(by rw[T.lc];exact hk)):=a4h _;have h3:st.rm[k]?=some (st.rm[k]'(by rw[T.lS];exact hk)):=a4h _;exact(T.aT _ _ _ _ h1 h2 h3).aT.ex x h
theorem aq.at_of{k:Nat}(h:k<st.rm.length):st.rm[k]?=some (st.at_ k):=by
 unfold aq.at_;rw[akz,a4h h];rfl
theorem aq.bD{k j:Nat}{s:Rm}(h:k<st.rm.length):(st.set k s).at_ j=if j=k then s else st.at_ j:=by
 unfold aq.at_ aq.set;rw[akz,akz];by_cases z:j=k
 .rw [auJ z,z,a7U h];rfl
 .rw [ale z,aSg (aWz z)]
def aM.cf(g:aM)(k:Nat):Cf:=g.bg.getD k ⟨1,1,"old",true⟩
theorem aa.at_(T:aa K H A g st os n){k:Nat}(hk:k<A.as.length):∃a,A.as[k]?=some a/\g.bg[k]?=some (g.cf k)/\st.rm[k]?=some (st.at_ k)/\ay K H a (g.cf k) (st.at_ k) (os k):=by
 have h1:A.as[k]?=some A.as[k]:=a4h hk;have h2:g.bg[k]?=some (g.cf k):=by
  unfold aM.cf;rw[akz,a4h (by rw[T.lc];exact hk)];rfl
 have h3:=aq.at_of (st:=st) (k:=k) (by rw[T.lS];exact hk);exact⟨_,h1,h2,h3,T.aT _ _ _ _ h1 h2 h3⟩
theorem aa.oB(T:aa K H A g st os n){k:Nat}(hk:k<A.as.length):(st.at_ k).seq.length<=800/\(∀b∈(st.at_ k).seq,b∈g.U/\((st.at_ k).wd b).length=g.size.toNat)/\(∀t,((Zp (g.cf k).sh t (st.at_ k).seq).length:Int)<=(g.cf k).pl)/\1<=(g.cf k).pl/\(g.cf k).pl<=16/\(st.at_ k).seq.Nodup:=by
 obtain⟨a,h1,h2,h3,S⟩:=T.at_ hk;have m:=aHL h3;obtain⟨c1,c2⟩:=T.wf.cf _ (aHL h2);exact⟨atR (Dz S.aT.room.nd (T.wH _ m)) T.wf.lU,λb h=>⟨T.wH _ m b h,T.wl _ m b h⟩,T.full _ _ _ h2 h3,c1,c2,S.aT.room.nd⟩
theorem Z1{k:Nat}{O':Addr->Prop}(T:aa K H A g st os n)(hk:k<A.as.length)(p:bM (os k) H H' O'):bM (OW A os) H H' (OW A (os.set k O')):=by
 refine⟨λx o e nn=>p.kp x o e λh=>nn (.inr ⟨k,hk,h⟩),λx h=>?_⟩;rcases h with h|⟨j,hj,h⟩
 .exact .inl (.inl h)
 .unfold OS.set at h;by_cases z:j=k
  .rw [auJ z]at h;exact(p.fr x h).elim (λq=>.inl (.inr ⟨k,hk,q⟩)) .inr
  .rw [ale z]at h;exact .inl (.inr ⟨j,hj,h⟩)
theorem aa.iH{k:Nat}{s':Rm}{O':Addr->Prop}(T:aa K H A g st os n)(ha:A.as[k]?=some a)(hc:g.bg[k]?=some c)(S:ay K H' a c s' O')(p:bM (os k) H H' O')(hu:∀b∈s'.seq,b∈g.U/\(s'.wd b).length=g.size.toNat)(hf:∀t,((Zp c.sh t s'.seq).length:Int)<=c.pl) :
  aa K H' A g (st.set k s') (os.set k O') n/\bM (OW A os) H H' (OW A (os.set k O')):=by
 have hk:k<A.as.length:=(ajE.mp ha).1;refine⟨?_,Z1 T hk p⟩;have nb:∀{x o},Bs A x->H x=some o->H' x=some o:=λ{x o} h e=>p.kp x o e λq=>absurd h (T.off k hk x q);have nt:∀x ys,H x=some (.tup ys)->H' x=some (.tup ys):=λx ys e=>p.kp x _ e λ_=>id;obtain⟨dx,h1⟩:=T.ob;refine⟨⟨dx,nb (.inl rfl) h1⟩,nb (by simp[Bs]) T.ss,T.mem.frame λx o m e=>nb (by rcases m with m|m <;> simp[Bs,m]) e,T.ev.frame (λo e=>nb (by simp[Bs]) e) nt,T.zc,T.lc,by show(st.rm.set k s').length=_;rw[ail];exact T.lS,λj b cb sb hb hcb mG=>?_,λj hj x h=>?_,λi j hi hj hij x h1 h2=>?_,T.CN,T.wc,λq hq b hb=>?_,λj cb sb hcb mG=>?_,λq hq b hb=>?_,T.wf,p.kp _ _ T.tb λ_=>id⟩
 .have hj:=(ajE.mp hb).1;unfold OS.set;by_cases e:j=k
  .subst e;rw[ha]at hb;cases hb;rw[hc]at hcb;cases hcb;have mG:(st.rm.set j s')[j]?=some sb:=mG;rw[a7U (by rw[T.lS];exact hk)]at mG;cases mG;rw[auJ rfl];exact S
  .have mG:(st.rm.set k s')[j]?=some sb:=mG;rw[aSg (aWz e)]at mG;rw[ale e];exact(T.aT j b cb sb hb hcb mG).frame λx o h q=>p.kp x o q λz=>absurd z (T.uR j k hj hk e x h)
 .unfold OS.set at h;by_cases e:j=k
  .rw [auJ e]at h;rcases p.fr x h with q|q
   .exact T.off k hk x q
   .exact λz=>T.ex x (.inl z) q
  .rw [ale e]at h;exact T.off j hj x h
 .unfold OS.set at h1 h2;by_cases e1:i=k
  .rw [auJ e1]at h1;rw[ale (λz=>hij (e1.trans z.symm))]at h2;rcases p.fr x h1 with q|q
   .exact T.uR k j hk hj (λz=>hij (e1.trans z)) x q h2
   .exact T.ex x (.inr ⟨j,hj,h2⟩) q
  .rw [ale e1]at h1;by_cases e2:j=k
   .rw [auJ e2]at h2;rcases p.fr x h2 with q|q
    .exact T.uR i k hi hk e1 x h1 q
    .exact T.ex x (.inr ⟨i,hi,h1⟩) q
   .rw [ale e2]at h2;exact T.uR i j hi hj hij x h1 h2
 .rcases ayR hq with hq|rfl
  .exact T.wH q hq b hb
  .exact (hu b hb).1
 .by_cases e:j=k
  .subst e;rw[hc]at hcb;cases hcb;have mG:(st.rm.set j s')[j]?=some sb:=mG;rw[a7U (by rw[T.lS];exact hk)]at mG;cases mG;exact hf
  .have mG:(st.rm.set k s')[j]?=some sb:=mG;rw[aSg (aWz e)]at mG;exact T.full j cb sb hcb mG
 .rcases ayR hq with hq|rfl
  .exact T.wl q hq b hb
  .exact (hu b hb).2
theorem aa.event(T:aa K H A g st os n){t:Addr}(e:List V)(he:Ev g.bg.length e)(ht:H t=none):∃ts:List Addr,H A.ev=some (.lst (ts.map V.ref))/\ts.length<=n/\aa K (upd (upd H t (.tup e)) A.ev (.lst (ts.map V.ref++[.ref t]))) A g (st.tell e) os (n+1)/\bM (OW A os) H (upd (upd H t (.tup e)) A.ev (.lst (ts.map V.ref++[.ref t]))) (OW A os):=by
 obtain⟨h0,ts,h1,h2,h3⟩:=T.ev;have s1:=Zd ht (.tup e);have T1:=T.same s1;have WT:t≠A.ev:=λz=>by rw[z,h1]at ht;cases ht
 have off:∀{x o},H x=some o->x≠A.ev->upd (upd H t (.tup e)) A.ev (.lst (ts.map V.ref++[.ref t])) x=some o:=λ{x o} q z=>by rw[Zc z];exact s1 _ _ q
 have nk:∀{x o},H x=some o->(∀xs,o≠.lst xs)->x≠A.ev:=λ{x o} q m z=>by rw[z,h1]at q;exact m _ (asK q).symm
 have zc:=T.zc;refine⟨ts,h1,by lia,?_,⟨λx o q m=>off q λz=>?_,λx h=>.inl h⟩⟩
 .obtain ⟨dx,g1⟩:=T.ob;obtain⟨dm,g2⟩:=T.mem.ob;obtain⟨kv,g3,g4⟩:=T.mem.kept;refine⟨⟨dx,off g1 (nk g1 (λ_ z=>by cases z))⟩,off T.ss T.CN,⟨⟨dm,off g2 (nk g2 (λ_ z=>by cases z))⟩,⟨kv,off g3 (nk g3 (λ_ z=>by cases z)),g4⟩,T.mem.sup⟩,⟨λe' m=>(aXY.mp m).elim (h0 e') λm=>by rw[axK.mp m];exact he,ts++[t],by rw[Za,afk];rfl,by rw[akn];show _=(st.ev++[e]).length;rw[akn,h2];rfl,λi t' e' q1 q2=>?_⟩,by show(st.ev++[e]).length<=n+1;rw[akn];show st.ev.length+1<=n+1;lia,T.lc,T.lS,λk a c s q1 q2 q3=>(T.aT k a c s q1 q2 q3).frame λx o h q=>off q λz=>T.off k (ajE.mp q1).1 x h (by simp[Bs,z]),T.off,T.uR,T.CN,T.wc,T.wH,T.full,T.wl,T.wf,off T.tb (nk T.tb (λ_ z=>by cases z))⟩;have q2:(st.ev++[e])[i]?=some e':=q2;by_cases hi:i<ts.length
  .rw [a9E hi]at q1;rw[a9E (by lia)]at q2;have q:=h3 i t' e' q1 q2;exact off q (nk q (λ_ z=>by cases z))
  .have hl:=(ajE.mp q1).1;rw[akn,aze]at hl;have:i=ts.length:=by lia
   rw[agf (by lia),this,a0R]at q1;rw[agf (by lia),show i-st.ev.length=0 by lia]at q2;cases q1;cases q2;rw[Zc WT];exact Za
 .rw [z,h1]at q;cases q;exact m (.inl (by simp[Bs,z])) trivial
end
theorem Sj{R:Int->Int->Prop}(anti:∀a b,R a b->R b a->a=b):∀{l1 l2:List Int},l1.Perm l2->l1.Pairwise R->l2.Pairwise R->l1=l2
 | [],l2,p,_,_=>(List.nil_perm.mp p).symm
 |a ::l1,l2,p,h1,h2=>by
  match l2,p,h2 with
  | [],p,_=>exact absurd p.length_eq (by simp)
  |b ::l2,p,h2=>
   have e:a=b:=by
    by_cases c:a=b
    .exact c
    .have ma:a∈l2:=(awk.mp (p.mem_iff.mp bcs)).resolve_left c;have mb:b∈l1:=(awk.mp (p.mem_iff.mpr bcs)).resolve_left (λz=>c z.symm);exact anti a b ((ay7.mp h1).1 b mb) ((ay7.mp h2).1 a ma)
   subst e;rw[Sj anti (List.Perm.cons_inv p) (ay7.mp h1).2 (ay7.mp h2).2]
theorem Ziy{us:Int->Int}{ms:List Int}(a b:Int)(h1:AU us ms a b)(h2:AU us ms b a):a=b:=by
 rcases h1 with h1|⟨h1,h3⟩ <;> rcases h2 with h2|⟨h2,h4⟩ <;> lia
theorem Zhv{ru:Str}{us:Int->Int}{pl:Int}{ms:List Int}{g g':Option Int}(h:d8 ru us pl ms g)(h':d8 ru us pl ms g'):g=g':=by
 by_cases c:(ms.length:Int)<pl
 .rw [h.1 c,h'.1 c]
 .obtain ⟨x,r,rfl,p,f,n⟩:=h.2 c;obtain⟨x',r',rfl,p',f',n'⟩:=h'.2 c;have e:x ::r=x' ::r':=by
   by_cases q:ru ="few"
   .exact Sj Ziy (p.trans p'.symm) (f q) (f' q)
   .rw [n q,n' q]
  injection e with e1 _
  rw[e1]
open Classical in
noncomputable def cT(c:Cf)(s:Rm)(b:Int):Option Int:=if h:∃g,d8 c.ru s.us c.pl (Zp c.sh (b%c.sh) s.seq) g then Classical.choose h else none
theorem Ziz{c:Cf}{s:Rm}{b:Int}{g:Option Int}(h:d8 c.ru s.us c.pl (Zp c.sh (b%c.sh) s.seq) g):cT c s b=g:=by
 unfold cT;have e:∃g,d8 c.ru s.us c.pl (Zp c.sh (b%c.sh) s.seq) g:=⟨g,h⟩;rw[dif_pos e];exact Zhv (Classical.choose_spec e) h
theorem Zhw{sh pl:Int}{seq seq':List Int}(h:∀s,((Zp sh s seq).length:Int)<=pl)(hs:seq'.Sublist seq):∀s,((Zp sh s seq').length:Int)<=pl:=λs=>by
 have q:(Zp sh s seq').Sublist (Zp sh s seq):=List.Sublist.filter _ hs;have:=q.length_le;have:=h s;lia
theorem Zhx{sh pl:Int}{seq seq':List Int}(h:∀s,((Zp sh s seq).length:Int)<=pl)(hs:seq'.Perm seq):∀s,((Zp sh s seq').length:Int)<=pl:=λs=>by
 have q:(Zp sh s seq').Perm (Zp sh s seq):=List.Perm.filter _ hs;rw[q.length_eq];exact h s
theorem ZjZ{sh pl b:Int}{seq:List Int}(h:∀s,((Zp sh s seq).length:Int)<=pl)(hb:((Zp sh (b%sh) seq).length:Int)<pl):∀s,((Zp sh s (seq++[b])).length:Int)<=pl:=λs=>by
 rw[Jg];split
 .rename_i e;rw[<-e,akn];show((_+1:Nat):Int)<=pl;lia
 .exact h s
def jI(c:Cf)(s:Rm)(b:Int):Rm:=⟨if c.ru ="old" then s.seq.erase b++[b] else s.seq,bump s.us b,s.wd,s.fr⟩
theorem DN{c:Cf}{s:Rm}{b:Int}(hb:b∈s.seq):(jI c s b).seq.Perm s.seq:=by
 unfold jI;by_cases e:c.ru ="old"
 .rw [auJ e];exact(aXV).trans (List.perm_cons_erase hb).symm
 .rw [ale e]
def eW(k:Nat)(b:Int):List V:=[.str "words",.int (k:Int),.int b]
def eI(k:Nat)(b:Int):List V:=[.str "in",.int (k:Int),.int b]
def eO(k:Nat)(b:Int):List V:=[.str "out",.int (k:Int),.int b]
def eF(k:Nat):List V:=[.str "found",.int (k:Int)]
def aM.n(g:aM):Nat:=g.bg.length
def bA(g:aM)(k:Nat)(b:Int)(ws:List Int)(st:aq):aq:=if k=g.n then aq.tell { st with mem:=qY g.size st.mem b ws } (eW k b) else(st.set k (pO (st.at_ k) b ws)).tell (eW k b)
def cK(k:Nat)(b:Int)(ws:List Int)(st:aq):aq:=(st.set k (MF (st.at_ k) b ws)).tell (eI k b)
def cC(k:Nat)(b:Int)(st:aq):aq:=(st.tell (eO k b)).set k (qK (st.at_ k) b)
def jd(st:aq):aq:={ st with ev:=[] }
def TA.re(A:TA)(e:Addr):TA:={ A with ev:=e }
def Res(K:W.Frag)(H:Hp)(A:TA)(g:aM)(os:OS)(st':aq)(m:Nat)(Q:Hp->Prop):Prop:=∀H' os',aa K H' A g st' os' m->bM (OW A os) H H' (OW A os')->Q H'
section
variable{K:W.Frag}{H H':Hp}{A:TA}{g:aM}{st:aq}{os:OS}{n:Nat}
theorem aa.ix{k:Nat}{a:SA}(ha:A.as[k]?=some a):eG (A.as.map λa=>V.ref a.sp) (k:Int)=some (.ref a.sp):=wm (by rw[afQ,ha];rfl)
theorem aa.ln(T:aa K H A g st os n):g.n=A.as.length:=T.lc
theorem bM.out{O O':Addr->Prop}(p:bM O H H' O'){x:Addr}{o:HO}(h:H x=some o)(n:¬O x):H' x=some o/\¬O' x:=⟨p.kp x o h λz=>absurd z n,λz=>(p.fr x z).elim n λq=>by rw[h]at q;cases q⟩
theorem aa.fresh(T:aa K H A g st os n){x:Addr}(h:H x=none):¬OW A os x:=λz=>T.ex x z h
theorem aa.told(T:aa K H A g st os n){e' dx:Addr}(he:H e'=none):aa K (upd (upd H e' (.lst [])) A.p (.ins (af K "Beside") dx (br g.size A.ss A.bm A.as.length e' g.kind))) (A.re e') g (jd st) os 0:=by
 obtain⟨d0,h1⟩:=T.ob;obtain⟨dm,h2⟩:=T.mem.ob;obtain⟨kv,h3,h4⟩:=T.mem.kept;have s:=Zd he (.lst ([]:List V));have WZ:A.p≠e':=Zf h1 he;have off:∀{x o},H x=some o->x≠A.p->upd (upd H e' (.lst [])) A.p (.ins (af K "Beside") dx (br g.size A.ss A.bm A.as.length e' g.kind)) x=some o:=λ{x o} q z=>by rw[Zc z];exact s _ _ q
 have nk:∀{x o},H x=some o->(∀C d f,o≠.ins C d f)->x≠A.p:=λ{x o} q m z=>by rw[z,h1]at q;exact m _ _ _ (asK q).symm
 have nb:∀x,(∃k,k<A.as.length/\os k x)->¬Bs (A.re e') x:=λx ⟨k,hk,h⟩ z=>by
  rcases z with z|z|z|z|z
  .exact T.off k hk x h (.inl z)
  .exact T.off k hk x h (.inr (.inl z))
  .exact T.off k hk x h (.inr (.inr (.inl z)))
  .exact T.off k hk x h (.inr (.inr (.inr (.inl z))))
  .have z:x=e':=z;exact T.ex x (.inr ⟨k,hk,h⟩) (z ▸he)
 refine⟨⟨dx,Za⟩,off T.ss (nk T.ss (λ_ _ _ z=>by cases z)),⟨⟨dm,off h2 (aWz T.wc)⟩,⟨kv,off h3 (nk h3 (λ_ _ _ z=>by cases z)),h4⟩,T.mem.sup⟩,⟨(λe m=>by cases m),[],by show _=some (HO.lst []);rw[show(A.re e').ev=e' from rfl,Zc (aWz WZ)];exact Za,rfl,λi t e q _=>by simp at q⟩,aI1 _,T.lc,T.lS,λk a c s' q1 q2 q3=>(T.aT k a c s' q1 q2 q3).frame λx o h q=>off q λz=>T.off k (ajE.mp q1).1 x h (.inl z),λk hk x h=>nb x ⟨k,hk,h⟩,T.uR,λz=>?_,T.wc,T.wH,T.full,T.wl,T.wf,off T.tb (nk T.tb (λ_ _ _ z=>by cases z))⟩;have z:A.ss=e':=z;have q:=T.ss;rw[z,he]at q;cases q
end
inductive qk(K:W.Frag)(vs:List V)(H:Hp)(Q:VK)(E:XK):Prop
 |mk (A:TA) (g:aM) (st:aq) (os:OS) (n k:Nat) (a:SA):vs=[.ref A.p,.int (k:Int)]->aa K H A g st os n->A.as[k]?=some a->Q (.ref a.sp) H->qk K vs H Q E
example:(lC xJ):=by
 obtain ⟨A,g,st,os,n,k,a,rfl,R,ha,q⟩:=h;refine⟨_,(Ze (aE (zk (ZhV Gi qL Zi (pv 1) (Zk (K:=K) rfl (pv 0) rfl))) (Zg xP) Zt)
   (Zg (Zs (ak (Zl (K:=K) rfl) (Zk (K:=K) rfl (pv 0) rfl) (pv 1) (λ_ _=>rfl))))),?_⟩
 obtain⟨dx,h1⟩:=R.ob;have hk:k<A.as.length:=(ajE.mp ha).1;refine⟨_,rfl,_,_,rfl,rfl,_,rfl,cB (a5h (by lia)) ⟨_,rfl,A.p,_,dx,_,_,rfl,h1,T.aL,T.zU,Cc ..,_,_,rfl,rfl,_,rfl,bK (by rw[a5h (by lia)];rfl) ?_⟩⟩;exact⟨_,rfl,A.p,_,dx,_,_,rfl,h1,T.aL,T.qI,ZA ..,_,rfl,A.ss,_,_,_,rfl,rfl,ao.of R.ss,aa.ix ha,q⟩
def BW(g:aM)(st:aq)(k:Nat)(b:Int):List Int:=if k=g.n then aG g.size st.mem b else(st.at_ k).wd b
inductive qj(K:W.Frag)(vs:List V)(H:Hp)(Q:VK)(E:XK):Prop
 |mk (A:TA) (g:aM) (st:aq) (os:OS) (n k:Nat) (b:Int):vs=[.ref A.p,.int (k:Int),.int b]->aa K H A g st os n->k<=g.n->(k<g.n->b∈(st.at_ k).seq)->0<=b->b<=1000000->(∀l H',H l=none->av H H'->H' l=some (.lst ((BW g st k b).map V.int))->Q (.ref l) H')->qj K vs H Q E
example:(lB rZ Ff xJ uH):=by
 obtain ⟨A,g,st,os,n,k,b,rfl,R,hk,hb,b0,b1,q⟩:=h;refine⟨_,(Ze (aE (Zu aW (pv 1) (Zk (K:=K) rfl (pv 0) rfl) (Zw _)) (Zg (Zs (Zj Ff hr.m T.xN (Zk (K:=K) rfl (pv 0) rfl) (pc (pv 2) Zb)))) Zt)
   (Zg (Zs (Zj uH hr.m T.dQ (Zj xJ hr.m T.aL (pv 0) (pc (pv 1) Zb)) (pc (pv 2) Zb))))),?_⟩
 obtain⟨dx,h1⟩:=R.ob;obtain⟨dm,h2⟩:=R.mem.ob;have ln:=R.ln;unfold BW at q;refine⟨_,rfl,_,rfl,A.p,_,dx,_,_,rfl,h1,T.aL,T.zU,Cc ..,rfl,_,rfl,Sw (λe=>?_) (λe=>?_)⟩
 .rw [auJ (by lia)]at q;exact⟨_,rfl,A.p,_,dx,_,_,rfl,h1,T.aL,T.JH,Oq ..,A.bm,dm,_,rfl,h2,yc ..,_,rfl,A.bm,A.dk,g.size,b,st.mem,g.U,rfl,R.mem,by have:=R.wf.z0;lia,R.wf.z1,b0,b1,q⟩
 .rw [ale (by lia)]at q;obtain⟨a,e1,e2,e3,B⟩:=R.at_ (k:=k) (by lia);obtain⟨ds,h3⟩:=B.aT.ob;exact⟨_,rfl,A.p,dx,_,rfl,h1,az ..,_,rfl,A,g,st,os,n,k,a,rfl,R,e1,a.sp,ds,_,rfl,h3,bW ..,_,rfl,a,_,_,_,b,rfl,B,hb (by lia),λl hl=>q l _ hl (Zd hl _) Za⟩
inductive kJ(K:W.Frag)(vs:List V)(H:Hp)(Q:VK)(_v3:XK):Prop
 |mk (A:TA) (g:aM) (st:aq) (os:OS) (n:Nat):vs=[.ref A.p]->aa K H A g st os n->(∀e' H',aa K H' (A.re e') g (jd st) os 0->wF g.n H' A.ev st.ev->¬OW (A.re e') os A.ev->bM (OW A os) H H' (OW (A.re e') os)->Q (.ref A.ev) H')->kJ K vs H Q _v3
example:(iD xK):=by
 obtain ⟨A,g,st,os,n,rfl,R,q⟩:=h;refine⟨_,(Ze (cX 1 nd (Zk (K:=K) rfl (pv 0) rfl))
   (Ze (rH (pv 0) (ZV Zb) rfl)
   (Zg (Zs (pv 1))))),?_⟩
 obtain⟨dx,h1⟩:=R.ob;refine⟨_,rfl,A.p,_,dx,_,_,rfl,h1,T.aL,T.CG,Jd ..,gN ?_⟩;try dsimp only
 refine⟨(sL 0),λe' he=>⟨_,rfl,A.p,_,dx,_,rfl,Zd he _ _ _ h1,T.aL,T.CG,(by rw[OO];show 5<1000;decide),?_⟩⟩;rw[Z2];have off:∀{x o},H x=some o->x≠A.p->upd (upd H e' (.lst [])) A.p (.ins (af K "Beside") dx (br g.size A.ss A.bm A.as.length e' g.kind)) x=some o:=λ{x o} q z=>by rw[Zc z];exact Zd he _ _ _ q
 have np:∀{x o},H x=some o->(∀C d f,o≠.ins C d f)->x≠A.p:=λ{x o} q m z=>by rw[z,h1]at q;exact m _ _ _ (asK q).symm
 obtain⟨v0,ts,v1,v2,v3⟩:=R.ev;have WS:A.ev≠e':=Zf v1 he;refine⟨_,rfl,q e' _ (R.told he) ⟨v0,ts,off v1 (np v1 (λ_ _ _ z=>by cases z)),v2,λi t e a b=>off (v3 i t e a b) (np (v3 i t e a b) (λ_ _ _ z=>by cases z))⟩ (λz=>?_) ⟨λx o e m=>off e λz=>?_,λx h=>?_⟩⟩
 .rcases z with z|⟨k,hk,z⟩
  .obtain ⟨dm,h2⟩:=R.mem.ob;obtain⟨kv,h3,_⟩:=R.mem.kept;rcases z with z|z|z|z|z
   .exact np v1 (λ_ _ _ z=>by cases z) z
   .exact R.CN z.symm
   .rw [show(A.re e').bm=A.bm from rfl]at z;rw[z,h2]at v1;cases v1
   .rw [show(A.re e').dk=A.dk from rfl]at z;rw[z,h3]at v1;cases v1
   .exact WS z
  .exact R.off k hk _ z (by simp[Bs])
 .rw [z,h1]at e;cases e;exact m (.inl (.inl z)) trivial
 .rcases h with h|h
  .rcases h with h|h|h|h|h
   .exact .inl (.inl (.inl h))
   .exact .inl (.inl (.inr (.inl h)))
   .exact .inl (.inl (.inr (.inr (.inl h))))
   .exact .inl (.inl (.inr (.inr (.inr (.inl h)))))
   .exact .inr (by rw[h];exact he)
  .exact .inl (.inr h)
inductive wY(K:W.Frag)(vs:List V)(H:Hp)(Q:VK)(E:XK):Prop
 |mk (A:TA) (g:aM) (st:aq) (os:OS) (n k:Nat) (b:Int):vs=[.ref A.p,.int (k:Int),.int b]->aa K H A g st os n->k<g.n->(∀H',av H H'->d8 (g.cf k).ru (st.at_ k).us (g.cf k).pl (Zp (g.cf k).sh (b%(g.cf k).sh) (st.at_ k).seq) (cT (g.cf k) (st.at_ k) b)->Q (vq (cT (g.cf k) (st.at_ k) b)) H')->wY K vs H Q E
example:(jX Bt Bx):=by
 obtain⟨A,g,st,os,n,k,b,rfl,R,hk,q⟩:=h;refine⟨_,(Zg (Zs (Zj Bx hr.m T.fH (Zk (K:=K) rfl (ak (Zl (K:=K) rfl) (Zk (K:=K) rfl (pv 0) rfl) (pv 1) (λ_ _=>rfl)) rfl) (pc (pv 2) Zb)))),?_⟩;obtain⟨dx,h1⟩:=R.ob;have ln:=R.ln;obtain⟨a,e1,e2,e3,B⟩:=R.at_ (k:=k) (by lia);obtain⟨u1,u2,u3,u4,u5,u6⟩:=R.oB (k:=k) (by lia);obtain⟨ds,h3⟩:=B.aT.ob;obtain⟨dr,h4⟩:=B.aT.room.ob;have fl:=u3 (b%(g.cf k).sh);refine⟨_,rfl,A.p,_,dx,_,_,rfl,h1,T.aL,T.qI,ZA ..,_,rfl,A.ss,_,_,_,rfl,rfl,ao.of R.ss,aa.ix e1,a.sp,_,ds,_,_,rfl,h3,T.dQ,T.BB,DE ..,a.rp,dr,_,rfl,h4,bS ..,_,rfl,a.rp,b,(g.cf k).sh,(g.cf k).pl,(g.cf k).ru,a.ls,a.au,a.du,(st.at_ k).seq,(st.at_ k).us,_,rfl,B.aT.room,R.tb,u4,by lia,λgone H' gp sm=>?_⟩;have e:=Ziz (s:=st.at_ k) gp;have q':=q H' sm (by rw[e];exact gp);rw[e]at q';exact q'
inductive wL(K:W.Frag)(vs:List V)(H:Hp)(Q:VK)(E:XK):Prop
 |mk (A:TA) (g:aM) (st:aq) (os:OS) (n k:Nat):vs=[.ref A.p,.int (k:Int)]->aa K H A g st os n->k<=g.n->n<=900000->Res K H A g os (st.tell (eF k)) (n+1) (Q .aO)->wL K vs H Q E
theorem big{n m:Nat}(h:n<=m)(hm:m<=900000):n<sizeLine:=ayQ (atR h hm) (by decide)
example:(fQ zV):=by
 obtain⟨A,g,st,os,n,k,rfl,R,X4,hl,q⟩:=h;refine⟨_,(Zg (Zr (wu (K:=K) rfl (dZ aRz aeo a8O ZZ (Zk (K:=K) rfl (pv 0) rfl) (pc (ZN (pc ZU (pc (pv 1) Zb))) Zb))))),?_⟩;obtain⟨dx,h1⟩:=R.ob;obtain⟨_,Lx,v1,_⟩:=R.ev;refine⟨_,rfl,A.p,_,dx,_,_,rfl,h1,T.aL,T.CG,Jd ..,.inl ⟨rfl,_,ao.of v1⟩,_,rfl,(sL 2),λt ht=>?_⟩;obtain⟨ts,w1,w2,R2,p2⟩:=R.event (eF k) (.inl ⟨k,X4,rfl⟩) ht;exact⟨A.ev,_,_,rfl,rfl,Zd ht _ _ _ w1,big (by rw[apM];exact w2) hl,q _ _ R2 p2⟩
inductive tX(K:W.Frag)(vs:List V)(H:Hp)(Q:VK)(E:XK):Prop
 |mk (A:TA) (g:aM) (st:aq) (os:OS) (n k:Nat) (b:Int):vs=[.ref A.p,.int (k:Int),.int b]->aa K H A g st os n->k<g.n->b∈(st.at_ k).seq->Res K H A g os (st.set k (jI (g.cf k) (st.at_ k) b)) n (Q .aO)->tX K vs H Q E
example:(jV Bu GZ):=by
 obtain⟨A,g,st,os,n,k,b,rfl,R,hk,hb,q⟩:=h;refine⟨_,(Zg (Zr (Zj GZ hr.m T.fH (Zk (K:=K) rfl (ak (Zl (K:=K) rfl) (Zk (K:=K) rfl (pv 0) rfl) (pv 1) (λ_ _=>rfl)) rfl) (pc (pv 2) Zb)))),?_⟩;obtain⟨dx,h1⟩:=R.ob;have ln:=R.ln;obtain⟨a,e1,e2,e3,B⟩:=R.at_ (k:=k) (by lia);obtain⟨u1,u2,u3,u4,u5,u6⟩:=R.oB (k:=k) (by lia);obtain⟨ds,h3⟩:=B.aT.ob;obtain⟨dr,h4⟩:=B.aT.room.ob;refine⟨_,rfl,A.p,_,dx,_,_,rfl,h1,T.aL,T.qI,ZA ..,_,rfl,A.ss,_,_,_,rfl,rfl,ao.of R.ss,aa.ix e1,a.sp,_,ds,_,_,rfl,h3,T.dQ,T.BB,DE ..,a.rp,dr,_,rfl,h4,bS ..,_,rfl,a.rp,b,(g.cf k).sh,(g.cf k).pl,(g.cf k).ru,a.ls,a.au,a.du,(st.at_ k).seq,(st.at_ k).us,_,rfl,B.aT.room,by lia,hb,by lia,λH' R1 r1=>?_⟩;have um:=λx=>(DN (c:=g.cf k) hb).mem_iff (a:=x);obtain⟨R2,p2⟩:=R.iH e1 e2 (B.iH R1 r1 um) (B.aT.cX r1) (λx hx=>u2 x ((um x).mp hx)) (Zhx u3 (DN (c:=g.cf k) hb));exact q H' _ R2 p2
inductive qx(K:W.Frag)(vs:List V)(H:Hp)(Q:VK)(E:XK):Prop
 |mk (A:TA) (g:aM) (st:aq) (os:OS) (n k:Nat) (b:Int) (lw:Addr) (ws:List Int):vs=[.ref A.p,.int (k:Int),.int b,.ref lw]->aa K H A g st os n->k<g.n->b∉(st.at_ k).seq->b∈g.U->((Zp (g.cf k).sh (b%(g.cf k).sh) (st.at_ k).seq).length:Int)<(g.cf k).pl->H lw=some (.lst (ws.map V.int))->(¬OW A os lw)->ws.length=g.size.toNat->n<=900000->Res K H A g os (cK k b ws st) (n+1) (Q .aO)->qx K vs H Q E
example:(iY Bv E9):=by
 obtain ⟨A,g,st,os,n,k,b,lw,ws,rfl,R,hk,hb,QJ,hsh,pP,nO,ye,hl,q⟩:=h;refine⟨_,(Ze (Zr (Zj E9 hr.m T.dQ (ak (Zl (K:=K) rfl) (Zk (K:=K) rfl (pv 0) rfl) (pv 1) (λ_ _=>rfl)) (pc (pv 2) (pc (pv 3) Zb))))
   (Zg (Zr (wu (K:=K) rfl (dZ aRz aeo a8O ZZ (Zk (K:=K) rfl (pv 0) rfl) (pc (ZN (pc ZU (pc (pv 1) (pc (pv 2) Zb)))) Zb)))))),?_⟩
 obtain⟨dx,h1⟩:=R.ob;have ln:=R.ln;obtain⟨a,e1,e2,e3,B⟩:=R.at_ (k:=k) (by lia);obtain⟨u1,u2,u3,u4,u5,u6⟩:=R.oB (k:=k) (by lia);obtain⟨ds,h3⟩:=B.aT.ob;refine⟨_,rfl,A.p,_,dx,_,_,rfl,h1,T.aL,T.qI,ZA ..,_,rfl,A.ss,_,_,_,rfl,rfl,ao.of R.ss,aa.ix e1,a.sp,ds,_,rfl,h3,bW ..,_,rfl,_,rfl,a,_,_,_,b,lw,ws,rfl,B,R.tb,pP,(λz=>nO (.inr ⟨k,by lia,z⟩)),hb,u1,u4,u5,hsh,λH1 O1 B1 p1=>?_⟩;obtain⟨R2,p2⟩:=R.iH e1 e2 B1 p1 (λx hx=>by
  show x∈g.U/\(if x=b then ws else(st.at_ k).wd x).length=_;by_cases z:x=b
  .rw [auJ z,z];exact⟨QJ,ye⟩
  .rw [ale z];exact u2 x ((aXY.mp hx).resolve_right λm=>z (axK.mp m))) (ZjZ u3 hsh)
 obtain⟨pR,g2⟩:=R2.ob;obtain⟨_,Lx,v1,_⟩:=R2.ev;refine⟨_,rfl,A.p,_,pR,_,_,rfl,g2,T.aL,T.CG,Jd ..,.inl ⟨rfl,_,ao.of v1⟩,_,rfl,_,rfl,(sL 3),λt ht=>?_⟩;obtain⟨ts,w1,w2,R4,p4⟩:=R2.event (eI k b) (.inr (.inl ⟨k,b,⟨hk,R.wf.ub b QJ⟩,.inl rfl⟩)) ht;exact⟨A.ev,_,_,rfl,rfl,Zd ht _ _ _ w1,big (by rw[apM];exact w2) hl,q _ _ R4 (p2.trans p4)⟩
inductive ug(K:W.Frag)(vs:List V)(H:Hp)(Q:VK)(E:XK):Prop
 |mk (A:TA) (g:aM) (st:aq) (os:OS) (n k:Nat) (b:Int):vs=[.ref A.p,.int (k:Int),.int b]->aa K H A g st os n->k<g.n->b∈(st.at_ k).seq->n<=900000->(∀H' os' t l,H' t=some (.tup [.ref l,.bl ((st.at_ k).fr b)])->H' l=some (.lst (((st.at_ k).wd b).map V.int))->¬OW A os' l->aa K H' A g (cC k b st) os' (n+1)->bM (OW A os) H H' (OW A os')->Q (.ref t) H')->ug K vs H Q E
example:(jY sF Fe):=by
 obtain ⟨A,g,st,os,n,k,b,rfl,R,hk,hb,hl,q⟩:=h;refine⟨_,(Ze (Zr (wu (K:=K) rfl (dZ aRz aeo a8O ZZ (Zk (K:=K) rfl (pv 0) rfl) (pc (ZN (pc ZU (pc (pv 1) (pc (pv 2) Zb)))) Zb))))
   (Zg (Zs (Zj Fe hr.m T.dQ (ak (Zl (K:=K) rfl) (Zk (K:=K) rfl (pv 0) rfl) (pv 1) (λ_ _=>rfl)) (pc (pv 2) Zb))))),?_⟩
 obtain⟨dx,h1⟩:=R.ob;obtain⟨_,Lx,v1,_⟩:=R.ev;have ln:=R.ln;refine⟨_,rfl,A.p,_,dx,_,_,rfl,h1,T.aL,T.CG,Jd ..,.inl ⟨rfl,_,ao.of v1⟩,_,rfl,_,rfl,(sL 3),λt ht=>?_⟩;obtain⟨ts,w1,w2,R4,p4⟩:=R.event [.str "out",.int (k:Int),.int b] (.inr (.inl ⟨k,b,⟨hk,R.wf.ub b ((R.oB (k:=k) (by lia)).2.1 b hb).1⟩,.inr rfl⟩)) ht;refine⟨A.ev,_,_,rfl,rfl,Zd ht _ _ _ w1,big (by rw[apM];exact w2) hl,?_⟩;generalize upd (upd H t (.tup [.str "out",.int (k:Int),.int b])) A.ev (.lst (ts.map V.ref++[.ref t]))=H4 at *;obtain⟨AA,g4⟩:=R4.ob;obtain⟨a,e1,e2,e3,B⟩:=R4.at_ (k:=k) (by lia);obtain⟨u1,u2,u3,u4,u5,u6⟩:=R4.oB (k:=k) (by lia);obtain⟨ds,h3⟩:=B.aT.ob;refine⟨_,rfl,A.p,_,AA,_,_,rfl,g4,T.aL,T.qI,ZA ..,_,rfl,A.ss,_,_,_,rfl,rfl,ao.of R4.ss,aa.ix e1,a.sp,ds,_,rfl,h3,bW ..,_,rfl,a,_,_,_,b,rfl,B,hb,λt2 l H5 O5 et el nl B' p5 own=>?_⟩;obtain⟨R5,p6⟩:=R4.iH e1 e2 B' p5 (λx hx=>u2 x (ajm hx)) (Zhw u3 List.erase_sublist);refine q H5 _ t2 l et el (λz=>?_) R5 (p4.trans p6);rcases z with z|⟨j,hj,z⟩
 .rcases own with o|o
  .exact R4.off k (by lia) l o z
  .exact R4.ex l (.inl z) o
 .unfold OS.set at z;by_cases e:j=k
  .rw [auJ e]at z;exact nl z
  .rw [ale e]at z;rcases own with o|o
   .exact R4.uR j k hj (by lia) e l z o
   .exact R4.ex l (.inr ⟨j,hj,z⟩) o
section
variable{K:W.Frag}{H H':Hp}{A:TA}{g:aM}{st:aq}{os:OS}{n:Nat}
theorem aa.Mn{mem':Int->Int}(T:aa K H A g st os n)(M:dO K H' A.bm A.dk g.size mem' g.U)(f:∀x o,H x=some o->x≠A.dk->H' x=some o):aa K H' A g { st with mem:=mem' } os n/\bM (OW A os) H H' (OW A os):=by
 obtain⟨dx,h1⟩:=T.ob;obtain⟨kv,h2,_⟩:=T.mem.kept;have nk:∀{x o},H x=some o->(∀k,o≠.dK k)->H' x=some o:=λ{x o} q m=>f x o q λz=>by rw[z,h2]at q;exact m _ (asK q).symm
 refine⟨⟨⟨dx,nk h1 (λ_ z=>by cases z)⟩,nk T.ss (λ_ z=>by cases z),M,T.ev.frame (λo e=>?_) (λx ys e=>nk e (λ_ z=>by cases z)),T.zc,T.lc,T.lS,λk a c s q1 q2 q3=>(T.aT k a c s q1 q2 q3).frame λx o h q=>f x o q λz=>T.off k (ajE.mp q1).1 x h (by simp[Bs,z]),T.off,T.uR,T.CN,T.wc,T.wH,T.full,T.wl,T.wf,nk T.tb (λ_ z=>by cases z)⟩,⟨λx o e m=>f x o e λz=>?_,λx h=>.inl h⟩⟩
 .obtain ⟨_,ts,v,_⟩:=T.ev;rw[v]at e;cases e;exact nk v (λ_ z=>by cases z)
 .rw [z,h2]at e;cases e;exact m (.inl (by simp[Bs,z])) trivial
end
inductive Ba(K:W.Frag)(vs:List V)(H:Hp)(Q:VK)(E:XK):Prop
 |mk (A:TA) (g:aM) (st:aq) (os:OS) (n k:Nat) (b:Int) (lw:Addr) (ws:List Int):vs=[.ref A.p,.int (k:Int),.int b,.ref lw]->aa K H A g st os n->k<=g.n->(k<g.n->b∈(st.at_ k).seq)->b∈g.U->H lw=some (.lst (ws.map V.int))->(¬OW A os lw)->ws.length=g.size.toNat->n<=900000->Res K H A g os (bA g k b ws st) (n+1) (Q .aO)->Ba K vs H Q E
example:(pq vY Fj A2):=by
 obtain ⟨A,g,st,os,n,k,b,lw,ws,rfl,R,hk,hb,bU,pP,nO,ye,hl,q⟩:=h;refine⟨_,(Ze (aE (Zu aW (pv 1) (Zk (K:=K) rfl (pv 0) rfl) (Zw _)) (Zg (Zr (Zj Fj hr.m T.xN (Zk (K:=K) rfl (pv 0) rfl) (pc (pv 2) (pc (pv 3) Zb))))) (Zg (Zr (Zj A2 hr.m T.dQ (ak (Zl (K:=K) rfl) (Zk (K:=K) rfl (pv 0) rfl) (pv 1) (λ_ _=>rfl)) (pc (pv 2) (pc (pv 3) Zb))))))
   (Zg (Zr (wu (K:=K) rfl (dZ aRz aeo a8O ZZ (Zk (K:=K) rfl (pv 0) rfl) (pc (ZN (pc ZU (pc (pv 1) (pc (pv 2) Zb)))) Zb)))))),?_⟩
 obtain⟨dx,h1⟩:=R.ob;have ln:=R.ln;refine Dv (λσ G=>σ=[some (.ref A.p),some (.int (k:Int)),some (.int b),some (.ref lw)]/\∃os',aa K G A g (if k=g.n then{ st with mem:=qY g.size st.mem b ws } else st.set k (pO (st.at_ k) b ws)) os' n/\bM (OW A os) H G (OW A os')) (λD' _ k'=>?_) ?_
 .refine ⟨_,rfl,_,rfl,A.p,_,dx,_,_,rfl,h1,T.aL,T.zU,Cc ..,rfl,_,rfl,Sw (λe=>?_) (λe=>?_)⟩
  .obtain ⟨dm,h2⟩:=R.mem.ob;have z0:=R.wf.z0;obtain⟨b0,b1⟩:=R.wf.ub b bU;refine⟨_,rfl,A.p,_,dx,_,_,rfl,h1,T.aL,T.JH,Oq ..,A.bm,dm,_,rfl,h2,yc ..,_,rfl,_,rfl,A.bm,A.dk,g.size,b,st.mem,g.U,lw,ws,rfl,R.mem,by lia,R.wf.z1,b0,b1,bU,R.wf.lU,pP,ye,λH1 M1 f1=>?_⟩;obtain⟨R1,p1⟩:=R.Mn M1 f1;rw[auJ (by lia)]at k';exact k' _ _ ⟨rfl,_,R1,p1⟩
  .obtain ⟨a,e1,e2,e3,B⟩:=R.at_ (k:=k) (by lia);obtain⟨u1,u2,u3,u4,u5,u6⟩:=R.oB (k:=k) (by lia);obtain⟨ds,kvs,h3,h4,h5,h6⟩:=B.lay (hb (by lia)) ws (Q:=D'.nx [some (.ref A.p),some (.int (k:Int)),some (.int b),some (.ref lw)]) (λH' O' B' p'=>by
    obtain⟨R1,p1⟩:=R.iH e1 e2 B' p' (λx hx=>by
     show x∈g.U/\(if x=b then ws else(st.at_ k).wd x).length=_;by_cases z:x=b
     .rw [auJ z,z];exact⟨bU,ye⟩
     .rw [ale z];exact u2 x hx) u3
    rw[ale (by lia)]at k';exact k' _ _ ⟨rfl,_,R1,p1⟩)
   exact⟨_,rfl,A.p,_,dx,_,_,rfl,h1,T.aL,T.qI,ZA ..,_,rfl,A.ss,_,_,_,rfl,rfl,ao.of R.ss,aa.ix e1,a.sp,ds,_,rfl,h3,bW ..,_,rfl,_,rfl,a.sp,ds,a.rp,a.dh,a.df,(g.cf k).late,kvs,b,lw,_,rfl,h3,h4,by lia,pP,h6⟩
 rintro _ G ⟨rfl,eS,R2,p2⟩;obtain⟨pR,g2⟩:=R2.ob;obtain⟨_,Lx,v1,_⟩:=R2.ev;refine⟨_,rfl,A.p,_,pR,_,_,rfl,g2,T.aL,T.CG,Jd ..,.inl ⟨rfl,_,ao.of v1⟩,_,rfl,_,rfl,(sL 3),λt ht=>?_⟩;obtain⟨ts,w1,w2,R4,p4⟩:=R2.event (eW k b) (.inr (.inr ⟨k,b,⟨hk,R.wf.ub b bU⟩,rfl⟩)) ht;refine⟨A.ev,_,_,rfl,rfl,Zd ht _ _ _ w1,big (by rw[apM];exact w2) hl,q _ _ ?_ (p2.trans p4)⟩;unfold bA;by_cases c:k=g.n
 .rw [auJ c]at R4 ⊢;exact R4
 .rw [ale c]at R4 ⊢;exact R4
def kE(g:aM)(s:Rm)(sp:Int):Int:=(s.wd (sp/g.size)).getD (sp%g.size).toNat 0
inductive qh(K:W.Frag)(vs:List V)(H:Hp)(Q:VK)(E:XK):Prop
 |mk (A:TA) (g:aM) (st:aq) (os:OS) (n k:Nat) (sp:Int):vs=[.ref A.p,.int (k:Int),.int sp]->aa K H A g st os n->k<g.n->sp/g.size∈(st.at_ k).seq->(∀H',av H H'->Q (.int (kE g (st.at_ k) sp)) H')->qh K vs H Q E
theorem Ir{ws:List Int}{m:Nat}{i:Int}(l:ws.length=m)(h0:0<=i)(h1:i<m):eG (ws.map V.int) i=some (.int (ws.getD i.toNat 0)):=by
 have e:(i.toNat:Int)=i:=by lia
 have hi:i.toNat<ws.length:=by lia
 have q:eG (ws.map V.int) (i.toNat:Int)=some (.int (ws.getD i.toNat 0)):=wm (by
  rw[afQ,akz,a4h hi];rfl)
 rw[e]at q;exact q
example:(iX E8 uH uE):=by
 obtain⟨A,g,st,os,n,k,sp,rfl,R,hk,hb,q⟩:=h;refine⟨_,(Zg (Zs (ak (Zl (K:=K) rfl) (Zj uH hr.m T.dQ (ak (Zl (K:=K) rfl) (Zk (K:=K) rfl (pv 0) rfl) (pv 1) (λ_ _=>rfl)) (pc (Zm uE hr.m rfl (pc (Zk (K:=K) rfl (pv 0) rfl) (pc (pv 2) Zb))) Zb)) (aj vK (pv 2) (Zk (K:=K) rfl (pv 0) rfl)) (λ_ _=>rfl)))),?_⟩;obtain⟨dx,h1⟩:=R.ob;have ln:=R.ln;obtain⟨a,e1,e2,e3,B⟩:=R.at_ (k:=k) (by lia);obtain⟨u1,u2,u3,u4,u5,u6⟩:=R.oB (k:=k) (by lia);obtain⟨ds,h3⟩:=B.aT.ob;have z0:=R.wf.z0;have z1:=R.wf.z1;refine⟨_,rfl,A.p,_,dx,_,_,rfl,h1,T.aL,T.qI,ZA ..,_,rfl,A.ss,_,_,_,rfl,rfl,ao.of R.ss,aa.ix e1,a.sp,ds,_,rfl,h3,bW ..,_,rfl,A.p,_,dx,_,_,rfl,h1,T.aL,T.Cu,EI ..,_,rfl,g.size,sp,rfl,by lia,by lia,a,_,_,_,_,rfl,B,hb,λl hl=>?_⟩;have s1:=Zd hl (.lst (((st.at_ k).wd (sp/g.size)).map V.int));have m0:0<=sp%g.size:=avQ _ (by lia);have m1:sp%g.size<g.size:=aGX _ (by lia);exact⟨_,rfl,_,rfl,A.p,_,dx,_,_,rfl,s1 _ _ h1,T.aL,T.Cu,EI ..,_,_,rfl,rfl,(by show 0<g.size;lia),l,_,_,_,rfl,rfl,ao.of Za,Ir (u2 _ hb).2 m0 (by lia),q _ s1⟩
def k8(g:aM)(s:Rm)(sp x:Int):Rm:=pO s (sp/g.size) ((s.wd (sp/g.size)).set (sp%g.size).toNat x)
inductive nU(K:W.Frag)(vs:List V)(H:Hp)(Q:VK)(E:XK):Prop
 |mk (A:TA) (g:aM) (st:aq) (os:OS) (n k:Nat) (sp x:Int):vs=[.ref A.p,.int (k:Int),.int sp,.int x]->aa K H A g st os n->k<g.n->sp/g.size∈(st.at_ k).seq->Res K H A g os (st.set k (k8 g (st.at_ k) sp x)) n (Q .aO)->nU K vs H Q E
example:(iC Fb Fd uE):=by
 obtain⟨A,g,st,os,n,k,sp,x,rfl,R,hk,hb,q⟩:=h;refine⟨_,(Zg (Zr (Zj Fd hr.m T.dQ (ak (Zl (K:=K) rfl) (Zk (K:=K) rfl (pv 0) rfl) (pv 1) (λ_ _=>rfl)) (pc (Zm uE hr.m rfl (pc (Zk (K:=K) rfl (pv 0) rfl) (pc (pv 2) Zb))) (pc (aj vK (pv 2) (Zk (K:=K) rfl (pv 0) rfl)) (pc (pv 3) Zb)))))),?_⟩;obtain⟨dx,h1⟩:=R.ob;have ln:=R.ln;obtain⟨a,e1,e2,e3,B⟩:=R.at_ (k:=k) (by lia);obtain⟨u1,u2,u3,u4,u5,u6⟩:=R.oB (k:=k) (by lia);obtain⟨ds,h3⟩:=B.aT.ob;have z0:=R.wf.z0;have z1:=R.wf.z1;have m0:0<=sp%g.size:=avQ _ (by lia);have m1:sp%g.size<g.size:=aGX _ (by lia);have lw:=(u2 _ hb).2;refine⟨_,rfl,A.p,_,dx,_,_,rfl,h1,T.aL,T.qI,ZA ..,_,rfl,A.ss,_,_,_,rfl,rfl,ao.of R.ss,aa.ix e1,a.sp,ds,_,rfl,h3,bW ..,_,rfl,A.p,_,dx,_,_,rfl,h1,T.aL,T.Cu,EI ..,_,rfl,g.size,sp,rfl,by lia,by lia,_,rfl,_,rfl,A.p,_,dx,_,_,rfl,h1,T.aL,T.Cu,EI ..,_,_,rfl,rfl,(by show 0<g.size;lia),_,rfl,a,_,_,_,_,_,x,rfl,B,hb,m0,by lia,λH1 B1 p1=>?_⟩;obtain⟨R1,p2⟩:=R.iH e1 e2 B1 p1 (λy hy=>by
  show y∈g.U/\(if y=sp/g.size then _ else(st.at_ k).wd y).length=_;by_cases z:y=sp/g.size
  .rw [auJ z,ail,z];exact u2 _ hb
  .rw [ale z];exact u2 y hy) u3
 exact q _ _ R1 p2
def Wr(s:Str):Prop:=s ="late" \/s ="through"
structure jh(K:W.Frag)(H:Hp)(tp:Addr)(ts:List Addr)(bg:List Cf):Prop where
 top:H tp=some (.tup (ts.map V.ref))
 len:ts.length=bg.length
 at_:∀(i:Nat)(t:Addr)(c:Cf),ts[i]?=some t->bg[i]?=some c->∃wr:Str,H t=some (.tup [.int c.sh,.int c.pl,.str c.ru,.str wr])/\c.late=decide (wr ="late")/\Wr wr
 cf:∀c∈bg,1<=c.sh/\c.sh<=64/\1<=c.pl/\c.pl<=16/\yI c.ru
theorem jh.frame{K:W.Frag}{H H':Hp}{tp:Addr}{ts:List Addr}{bg:List Cf}(p:jh K H tp ts bg)(s:∀x ys,H x=some (.tup ys)->H' x=some (.tup ys)):jh K H' tp ts bg:=
 ⟨s _ _ p.top,p.len,λi t c h1 h2=>by obtain⟨wr,e1,e2⟩:=p.at_ i t c h1 h2;exact⟨wr,s _ _ e1,e2⟩,p.cf⟩
def We(size:Int)(ss bm:Addr)(last:Nat)(ev:Addr):List (Str×V):=ah "events" (.ref ev) (ah "last" (.int last) (ah "bottom" (.ref bm) (ah "stores" (.ref ss) (ah "size" (.int size) []))))
structure EW(K:W.Frag)(H G:Hp)(as:List SA)(bg:List Cf)(os:OS):Prop where
 at_:∀(i:Nat)(a:SA)(c:Cf),as[i]?=some a->bg[i]?=some c->ay K G a c tE (os i)
 fr:∀i,i<as.length->∀x,os i x->H x=none
 uR:∀i j,i<as.length->j<as.length->i≠j->∀x,os i x->¬os j x
theorem EW.frame{K:W.Frag}{H G G':Hp}{as:List SA}{bg:List Cf}{os:OS}{p:Addr}(m:EW K H G as bg os)(hp:H p≠none)(f:∀x o,G x=some o->x≠p->G' x=some o):EW K H G' as bg os:=
 ⟨λi a c h1 h2=>(m.at_ i a c h1 h2).frame λx o h e=>f x o e λz=>hp (z ▸m.fr i (ajE.mp h1).1 x h),m.fr,m.uR⟩
theorem EW.ex{K:W.Frag}{H G:Hp}{as:List SA}{bg:List Cf}{os:OS}(m:EW K H G as bg os)(l:as.length<=bg.length){i:Nat}(hi:i<as.length){x:Addr}(h:os i x):G x≠none:=
 (m.at_ i _ _ (a4h hi) (a4h (aKk hi l))).aT.ex x h
def yH(n:Nat):aq:=⟨List.replicate n tE,λ_=>0,[]⟩
inductive ku(K:W.Frag)(vs:List V)(H:Hp)(Q:VK)(E:XK):Prop
 |mk (p dx tp:Addr) (size:Int) (ts:List Addr) (bg:List Cf):vs=[.ref p,.int size,.ref tp]->H p=some (.ins (af K "Beside") dx [])->jh K H tp ts bg->bg.length<=4->Tb K H->(∀(A:TA)(os:OS)(H':Hp),A.p=p->H' p=some (.ins (af K "Beside") dx (We size A.ss A.bm A.as.length A.ev))->(∀kind U,WF ⟨size,kind,bg,U⟩->aa K (upd H' p (.ins (af K "Beside") dx (br size A.ss A.bm A.as.length A.ev kind))) A ⟨size,kind,bg,U⟩ (yH bg.length) os 0) ->(∀x,OW A os x->x≠p->H x=none)->(∀b o,H b=some o->b≠p->H' b=some o)->Q .aO H')->ku K vs H Q E
example:(mV lD GU GY):=by
 obtain ⟨p,dx,tp,size,ts,bg,rfl,hp,pa,l4,tb,k⟩:=h;refine⟨_,(Ze (rH (pv 0) (pv 1) rfl)
   (Ze (rH (pv 0) (ZL (Zx (gB:=(Zq bz)) (oN:=p7) (N:=["room_plan"]) (own:=1) (js:=[]) (by decide +kernel) rfl rfl) rfl (K1 (K:=K) rfl (pv 2)) (λ_ _ _ _ _ _=>(bE 0 (show List.Nodup (["room_plan"]:List Str) by decide +kernel))) (λ_ _ _ _ _ _=>(Lg GU hr.m rfl (pc (pv 0) Zb)))) rfl)
   (Ze (rH (pv 0) (Lg GY hr.m rfl (pc (pv 1) Zb)) rfl)
   (Ze (rH (pv 0) (Zo (ZF (K:=K) rfl) rfl T.we aUV (pc (Zk (K:=K) rfl (pv 0) rfl) Zb)) rfl)
   (Zg (rH (pv 0) (ZV Zb) rfl)))))),?_⟩
 refine⟨_,rfl,_,rfl,p,_,dx,_,rfl,hp,T.aL,T.Cu,(by show 0<1000;decide),?_⟩;have fu:∀{G:Hp}{o':HO} x o,G x=some o->x≠p->upd G p o' x=some o:=λx o e n=>by rw[Zc n];exact e
 have Eu:H p≠none:=by rw[hp];simp
 have nk:∀{x o},H x=some o->(∀C d f,o≠.ins C d f)->x≠p:=λ{x o} q m z=>by rw[z,hp]at q;exact m _ _ _ (asK q).symm
 have e1:upd H p (.ins (af K "Beside") dx (ah "size" (.int size) [])) p=some (.ins (af K "Beside") dx (ah "size" (.int size) [])):=Za;have f1:∀x o,H x=some o->x≠p->upd H p (.ins (af K "Beside") dx (ah "size" (.int size) [])) x=some o:=fu;have n1:∀x,upd H p (.ins (af K "Beside") dx (ah "size" (.int size) [])) x=none->H x=none:=λx e=>by
  by_cases z:x=p
  .rw [z,Za]at e;cases e
  .rw [Zc z]at e;exact e
 generalize upd H p (.ins (af K "Beside") dx (ah "size" (.int size) []))=H1 at *;have L0:=pa.frame (H':=H1) λx ys e=>f1 x _ e (nk e (λ_ _ _ z=>by cases z));refine⟨_,rfl,tp,rfl,⟨_,aP.of L0.top⟩,λss hss=>?_⟩;refine T4 (K:=K) (a:=tp) (xs:=ts.map V.ref) (l:=ss) (λj ys σ G=>∃(v0:Option V)(as:List SA)(os:OS),σ=[v0]/\ys=as.map (λa=>V.ref a.sp)/\as.length=j/\G ss=some (.lst ys)/\av H1 G/\EW K H G as bg os/\∀i,i<as.length->¬os i ss)
  ⟨none,[],λ_ _=>False,rfl,rfl,rfl,Za,Zd hss _,⟨λi a c h=>by simp at h,λi h=>by simp at h,λi j h=>by simp at h⟩,λi h=>by simp at h⟩ (λj ys σ G _ ⟨_,_,_,_,_,_,_,s,_⟩=>aP.of (s _ _ L0.top)) ?_ ?_
 .rintro j x ys σ G hj lT hys ⟨v0,as,os,rfl,rfl,hlen,g1,s1,mk,ns⟩;rw[apM]at hj;rw[afQ]at lT;obtain⟨t,et,rfl⟩:∃t,ts[j]?=some t/\V.ref t=x:=by
   cases e:ts[j]? with
   |none=>rw[e]at lT;cases lT
   |some t=>rw[e]at lT;exact⟨t,rfl,asK lT⟩
  have QF:j<bg.length:=by rw[<-pa.len];exact hj
  have ec:bg[j]?=some bg[j]:=a4h QF;obtain⟨wr,q1,q2,_⟩:=L0.at_ j t _ et ec;have cb:=pa.cf _ (aZd QF);have F7:=s1 _ _ q1;refine⟨_,rfl,λx Dt hx hdx ne=>⟨x,Dt,t,bg[j].sh,bg[j].pl,bg[j].ru,wr,rfl,Za,aP.of ?_,cb.1,cb.2.1,λa G1 ea S1 k2=>⟨rfl,?_⟩⟩⟩
  .rw [Zc (Zf F7 hx),Zc (Zf F7 hdx)];exact F7
  have sG:av G G1:=λy o e=>k2 y o (by rw[Zc (Zf e hx),Zc (Zf e hdx)];exact e) (Zf e hx);have vC:∀y,(y=x\/(upd (upd G Dt (.own x)) x (.ins (af K "Store") Dt []) y=none/\G1 y≠none))->G y=none:=λy h=>by
   rcases h with h|h
   .rw [h];exact hx
   .cases q:G y with
    |none=>rfl
    |some o=>have e:=h.1;rw[Zc (Zf q hx),Zc (Zf q hdx),q]at e;cases e
  rw[show(⟨bg[j].sh,bg[j].pl,bg[j].ru,decide (wr ="late")⟩:Cf)=bg[j] by rw[<-q2]]at S1;rw[show V.ref x=V.ref a.sp by rw[ea]];have Kr:=sG _ _ g1;have Er:as.length<=bg.length:=by lia
  obtain⟨N,S1,vC⟩:∃N:Addr->Prop,ay K G1 a bg[j] tE N/\∀y,N y->G y=none:=⟨_,S1,vC⟩;have nN:¬N ss:=λh=>by have q:=vC ss h;rw[g1]at q;cases q
  have la:∀{i:Nat}{b:SA},(as++[a])[i]?=some b->(i<as.length/\as[i]?=some b)\/(i=as.length/\b=a):=λ{i b} hb=>by
   by_cases hi:i<as.length
   .rw [a9E hi]at hb;exact .inl ⟨hi,hb⟩
   .have:=(ajE.mp hb).1;rw[akn,aze]at this;have hi2:i=as.length:=by lia
    subst hi2;rw[agf (aI1 _),a0R]at hb;cases hb;exact .inr ⟨rfl,rfl⟩
  have os':∀{i},i<as.length->(os.set as.length N) i=os i:=λ{i} h=>ale (by lia);have Gg:(os.set as.length N) as.length=N:=auJ rfl;have cs:∀{i},i<(as++[a]).length->i<as.length\/i=as.length:=λ{i} h=>by rw[akn,aze]at h;lia
  refine gu.of (aaH (Zv (by rw[apM,pa.len];lia))) (by rw[apM];exact hj) hys Kr ⟨_,as++[a],os.set as.length N,rfl,by rw[afk];rfl,by rw[akn,hlen];rfl,Za,λy o e=>?_,⟨λi b c hb hc=>?_,λi hi y hy=>?_,λi i' hi hi' nn y h1 h2=>?_⟩,λi hi=>?_⟩
  .rw [Zc (Zf e hss)];exact sG _ _ (s1 _ _ e)
  .rcases la hb with⟨hi,hb⟩|⟨hi,rfl⟩
   .rw [os' hi];exact(mk.at_ i b c hb hc).frame λy o h e=>by rw[Zc (λz:y=ss=>ns i hi (z ▸h))];exact sG _ _ e
   .subst hi;rw[Gg];rw[hlen,ec]at hc;cases hc;exact S1.frame λy o h e=>by rw[Zc (λz:y=ss=>nN (z ▸h))];exact e
  .rcases cs hi with h|h
   .rw [os' h]at hy;exact mk.fr i h y hy
   .rw [h,Gg]at hy;exact n1 _ (s1.free (vC y hy))
  .rcases cs hi with a1|a1
   .rw [os' a1]at h1;rcases cs hi' with a2|a2
    .rw [os' a2]at h2;exact mk.uR i i' a1 a2 nn y h1 h2
    .rw [a2,Gg]at h2;exact mk.ex Er a1 h1 (vC y h2)
   .rw [a1,Gg]at h1;rcases cs hi' with a2|a2
    .rw [os' a2]at h2;exact mk.ex Er a2 h2 (vC y h1)
    .exact nn (a1.trans a2.symm)
  .rcases cs hi with h|h
   .rw [os' h];exact ns i h
   .rw [h,Gg];exact nN
 rintro ys σ G hys ⟨v0,as,os,rfl,rfl,hlen,g1,s1,mk,ns⟩;rw[apM,pa.len]at hlen;have hp2:=s1 _ _ e1;have fG:∀x o,H x=some o->x≠p->G x=some o:=λx o e n=>s1 _ _ (f1 x o e n);refine⟨_,rfl,p,_,dx,_,rfl,hp2,T.aL,T.qI,(by show 1<1000;decide),?_⟩;have J2:ss≠p:=λz=>by rw[z,hp2]at g1;cases g1
 have e2:upd G p (.ins (af K "Beside") dx (ah "stores" (.ref ss) (ah "size" (.int size) []))) p=some (.ins (af K "Beside") dx (ah "stores" (.ref ss) (ah "size" (.int size) []))):=Za;have f2:∀x o,G x=some o->x≠p->upd G p (.ins (af K "Beside") dx (ah "stores" (.ref ss) (ah "size" (.int size) []))) x=some o:=fu;generalize upd G p (.ins (af K "Beside") dx (ah "stores" (.ref ss) (ah "size" (.int size) [])))=H2 at *;have mk2:=mk.frame Eu f2;refine⟨_,rfl,λbm bx hbm QI nbx=>⟨bm,bx,size,rfl,Za,λdk H3 M3 Q3 k3=>⟨rfl,?_⟩⟩⟩;have s3:av H2 H3:=λy o e=>k3 y o (by rw[Zc (Zf e hbm),Zc (Zf e QI)];exact e) (Zf e hbm);have Gx:H2 dk=none:=by
  cases q:H2 dk with
  |none=>rfl
  |some o=>rw[Zc (Zf q hbm),Zc (Zf q QI),q]at Q3;cases Q3
 have e3:=s3 _ _ e2;have wc:p≠bm:=Zf e2 hbm;have Mc:p≠dk:=Zf e2 Gx;refine⟨_,rfl,p,_,dx,_,rfl,e3,T.aL,T.JH,(by show 2<1000;decide),?_⟩;have e4:upd H3 p (.ins (af K "Beside") dx (ah "bottom" (.ref bm) (ah "stores" (.ref ss) (ah "size" (.int size) [])))) p=some (.ins (af K "Beside") dx (ah "bottom" (.ref bm) (ah "stores" (.ref ss) (ah "size" (.int size) [])))):=Za;have f4:∀x o,H3 x=some o->x≠p->upd H3 p (.ins (af K "Beside") dx (ah "bottom" (.ref bm) (ah "stores" (.ref ss) (ah "size" (.int size) [])))) x=some o:=fu;generalize upd H3 p (.ins (af K "Beside") dx (ah "bottom" (.ref bm) (ah "stores" (.ref ss) (ah "size" (.int size) []))))=H4 at *;have g4:=f4 _ _ (s3 _ _ (f2 _ _ g1 J2)) J2;have Xu:(ah "bottom" (.ref bm) (ah "stores" (.ref ss) (ah "size" (.int size) [])):List (Str×V)).lookup ("stores":Str)=some (.ref ss):=by rw[Zh,ale (by decide +kernel),Zh,auJ rfl]
 refine⟨_,rfl,p,_,dx,_,_,rfl,e4,T.aL,T.qI,Xu,ss,_,rfl,.inl (ao.of g4),_,rfl,p,_,dx,_,rfl,e4,T.aL,T.zU,(by show 3<1000;decide),?_⟩;rw[apM];have e5:upd H4 p (.ins (af K "Beside") dx (ah "last" (.int (as.length:Int)) (ah "bottom" (.ref bm) (ah "stores" (.ref ss) (ah "size" (.int size) []))))) p=some (.ins (af K "Beside") dx (ah "last" (.int (as.length:Int)) (ah "bottom" (.ref bm) (ah "stores" (.ref ss) (ah "size" (.int size) []))))):=Za;have f5:∀x o,H4 x=some o->x≠p->upd H4 p (.ins (af K "Beside") dx (ah "last" (.int (as.length:Int)) (ah "bottom" (.ref bm) (ah "stores" (.ref ss) (ah "size" (.int size) []))))) x=some o:=fu;generalize upd H4 p (.ins (af K "Beside") dx (ah "last" (.int (as.length:Int)) (ah "bottom" (.ref bm) (ah "stores" (.ref ss) (ah "size" (.int size) [])))))=H5 at *;have Q9:∀x o,H3 x=some o->x≠p->H5 x=some o:=λx o e n=>f5 _ _ (f4 _ _ e n) n;have Ra:∀x o,H2 x=some o->x≠p->H5 x=some o:=λx o e n=>Q9 _ _ (s3 _ _ e) n;have Mm:=mk2.frame Eu Ra;have Nj:∀x o,H x=some o->x≠p->H5 x=some o:=λx o e n=>Ra _ _ (f2 _ _ (fG x o e n) n) n;refine⟨(sL 0),λev hev=>⟨_,rfl,p,_,dx,_,rfl,Zd hev _ _ _ e5,T.aL,T.CG,(by show 4<1000;decide),?_⟩⟩;have s6:=Zd hev (.lst ([]:List V));have Gw:ev≠p:=λz=>by rw[z,e5]at hev;cases hev
 have Er:as.length<=bg.length:=by lia
 have nH:∀{x},H5 x=none->x≠p->H x=none:=λ{x} h n=>by
  cases q:H x with
  |none=>rfl
  |some o=>rw[Nj x o q n]at h;cases h
 have P7:∀{x},H2 x=none->x≠p->H x=none:=λ{x} h n=>by
  cases q:H x with
  |none=>rfl
  |some o=>rw[f2 _ _ (fG x o q n) n]at h;cases h
 refine k ⟨p,ss,bm,dk,ev,as⟩ os _ rfl Za (λkind U wf=>?_) (λx hx n=>?_) λx o e n=>?_
 .rw [K7];have ff:∀x o,H5 x=some o->x≠p->upd (upd H5 ev (.lst [])) p (.ins (af K "Beside") dx (br size ss bm as.length ev kind)) x=some o:=λx o e n=>fu x o (s6 _ _ e) n;have Ml:=Mm.frame Eu ff;have g5:=f5 _ _ g4 J2;have rp:∀{s:Rm},s∈List.replicate bg.length tE->s=tE:=λh=>(aMl.mp h).2;refine⟨⟨dx,Za⟩,ff _ _ g5 J2,(M3 U).frame λx o m e=>ff x o (Q9 x o e ?_) ?_,⟨(λe m=>by cases m),[],by show upd _ p _ ev=_;rw[Zc Gw];exact Za,rfl,λi t e q _=>by simp at q⟩,aI1 _,hlen.symm,by show(List.replicate _ _).length=_;rw[aAW];exact hlen.symm,λj b c s hb hc hs=>?_,λj hj x h z=>?_,Ml.uR,Zf g5 hev,wc,λs hs b hb=>?_,λj c s hc hs t=>?_,λs hs b hb=>?_,wf,ff _ _ (Nj _ _ tb (nk tb (λ_ _ _ z=>by cases z))) (nk tb (λ_ _ _ z=>by cases z))⟩
  .rcases m with rfl|rfl;exact aWz wc;exact aWz Mc
  .rcases m with rfl|rfl;exact aWz wc;exact aWz Mc
  .have hs:(List.replicate bg.length tE)[j]?=some s:=hs;rw[rp (aHL hs)];exact Ml.at_ j b c hb hc
  .rcases z with z|z|z|z|z
   .exact Eu ((show x=p from z) ▸Ml.fr j hj x h)
   .exact ns j hj ((show x=ss from z) ▸h)
   .exact mk2.ex Er hj h (by rw[z];exact hbm)
   .exact mk2.ex Er hj h (by rw[z];exact Gx)
   .exact Mm.ex Er hj h (by rw[z];exact hev)
  .rw [rp hs]at hb;exact absurd hb (by simp[tE])
  .have hs:(List.replicate bg.length tE)[j]?=some s:=hs;rw[rp (aHL hs)];show((0:Nat):Int)<=c.pl;have:=(wf.cf c (aHL hc)).1;lia
  .rw [rp hs]at hb;exact absurd hb (by simp[tE])
 .rcases hx with hx|⟨j,hj,hx⟩
  .rcases hx with z|z|z|z|z
   .exact absurd z n
   .rw [z];exact n1 _ hss
   .rw [z];exact P7 hbm (aWz wc)
   .rw [z];exact P7 Gx (aWz Mc)
   .rw [z];exact nH hev Gw
  .exact Mm.fr j hj x hx
 .rw [Zc n];exact s6 _ _ (Nj x o e n)
def uW(k:Nat)(b:Int)(st:aq):aq:=st.set k (HS (st.at_ k) b)
def qz(s:Rm)(b:Int):Rm:=⟨s.seq,s.us,s.wd,λx=>if x=b then false else s.fr x⟩
def bw(g:aM)(b:Int)(ws:List Int)(st:aq):aq:=if(g.cf 2).late=true then uW 2 b (bA g 2 b ws st) else bA g g.n b ws (bA g 2 b ws st)
def aN(g:aM)(h:Nat)(o:Int)(st:aq):aq:=if(st.at_ h).fr o=true then bw g o ((st.at_ h).wd o) (cC h o st) else cC h o st
def cI(h:Nat)(o:Int)(x:aq×List Int×Bool):aq×List Int×Bool:=if o∈(x.1.at_ h).seq then(if(x.1.at_ h).fr o=true then(cC h o x.1,(x.1.at_ h).wd o,true) else(cC h o x.1,x.2)) else x
def yZ(o:Int)(st:aq):Nat->aq×List Int×Bool
 |0=>(cC 2 o st,(st.at_ 2).wd o,(st.at_ 2).fr o)
 |i+1=>cI i o (yZ o st i)
def i7(o:Int)(st:aq):aq×List Int×Bool:=cI 1 o (cI 0 o (cC 2 o st,(st.at_ 2).wd o,(st.at_ 2).fr o))
def pU(g:aM)(o:Int)(st:aq):aq:=if(i7 o st).2.2=true then bA g g.n o (i7 o st).2.1 (i7 o st).1 else(i7 o st).1
noncomputable def roomF(g:aM)(b:Int)(st:aq):aq:=match cT (g.cf 2) (st.at_ 2) b with
 |none=>st
 |some o=>pU g o st
noncomputable def b9(g:aM)(b:Int)(st:aq):aq:=if b∈(st.at_ 2).seq then(st.tell (eF 2)).set 2 (jI (g.cf 2) (st.at_ 2) b) else cK 2 b (aG g.size (roomF g b (st.tell (eF g.n))).mem b) (roomF g b (st.tell (eF g.n)))
def bR(g:aM)(h:Nat)(b:Int)(st:aq):aq:=if(st.at_ h).fr b=true then(λs:aq=>s.set h (qz (s.at_ h) b)) (bw g b ((st.at_ h).wd b) st) else st
noncomputable def aI(g:aM)(h:Nat)(b:Int)(st:aq):aq:=match cT (g.cf h) (st.at_ h) b with
 |none=>st
 |some o=>aN g h o st
noncomputable def gj(g:aM)(h:Nat)(b:Int)(st:aq):aq:=cK h b (((aI g h b st).at_ 2).wd b) (aI g h b st)
noncomputable def bP(g:aM)(h:Nat)(b:Int)(st:aq):aq:=if b∈(st.at_ h).seq then(st.tell (eF h)).set h (jI (g.cf h) (st.at_ h) b) else gj g h b (bR g (1-h) b (b9 g b st))
def bJ(h:Nat)(b:Int)(st:aq):aq:=if b∈(st.at_ (1-h)).seq then cC (1-h) b st else st
def markB(g:aM)(h:Nat)(b:Int)(st:aq):aq:=if(g.cf h).late=true then uW h b st else bw g b ((st.at_ h).wd b) st
noncomputable def mJ(g:aM)(h:Nat)(sp x:Int)(st:aq):aq:=(λs:aq=>markB g h (sp/g.size) (s.set h (k8 g (s.at_ h) sp x))) (bJ h (sp/g.size) (bP g h (sp/g.size) st))
theorem ZX{st:aq}{k j:Nat}{s:Rm}:(st.set k s).at_ j=if j=k/\k<st.rm.length then s else st.at_ j:=by
 by_cases h:k<st.rm.length
 .rw [aq.bD h];by_cases z:j=k
  .rw [auJ z,auJ ⟨z,h⟩]
  .rw [ale z,ale (λq=>z q.1)]
 .rw [ale (λq=>h q.2)];unfold aq.at_ aq.set;rw[List.set_eq_of_length_le (by lia)]
theorem Cb{st:aq}{e:List V}{j:Nat}:(st.tell e).at_ j=st.at_ j:=rfl
theorem NJ{st:aq}{k j:Nat}{s:Rm}(h:s.seq=(st.at_ k).seq):((st.set k s).at_ j).seq=(st.at_ j).seq:=by
 rw[ZX];split
 .rename_i q;rw[h,q.1]
 .rfl
theorem dP{st:aq}{k:Nat}{s:Rm}:(st.set k s).rm.length=st.rm.length:=ail ..
theorem BZ{c:Cf}{s:Rm}{b g:Int}(h:cT c s b=some g):g∈s.seq/\g%c.sh=b%c.sh/\d8 c.ru s.us c.pl (Zp c.sh (b%c.sh) s.seq) (some g):=by
 unfold cT at h;split at h
 .rename_i e;have q:=Classical.choose_spec e;rw[h]at q;by_cases l:((Zp c.sh (b%c.sh) s.seq).length:Int)<c.pl
  .exact absurd (q.1 l) (by simp)
  .obtain ⟨g',r,e',p,_⟩:=q.2 l;cases e';have m:=bu.mp (p.mem_iff.mp bcs);exact⟨m.1,m.2,q⟩
 .cases h
theorem Si{c:Cf}{s:Rm}{b:Int}(h:d8 c.ru s.us c.pl (Zp c.sh (b%c.sh) s.seq) none):((Zp c.sh (b%c.sh) s.seq).length:Int)<c.pl:=by
 by_cases l:((Zp c.sh (b%c.sh) s.seq).length:Int)<c.pl
 .exact l
 .obtain ⟨_,_,z,_⟩:=h.2 l;cases z
theorem To{c:Cf}{seq:List Int}{b g:Int}(hf:∀t,((Zp c.sh t seq).length:Int)<=c.pl)(h:g∈seq)(e:g%c.sh=b%c.sh):((Zp c.sh (b%c.sh) (seq.erase g)).length:Int)<c.pl:=by
 have m:g∈Zp c.sh (b%c.sh) seq:=bu.mpr ⟨h,e⟩;rw[Jc,List.length_erase_of_mem m];have:=List.length_pos_of_mem m;have:=hf (b%c.sh);lia
structure aJ(g:aM)(st:aq):Prop where
 n3:g.n=3
 len:st.rm.length=3
 nd:∀k,(st.at_ k).seq.Nodup
 inc:∀h x,h<2->x∈(st.at_ h).seq->x∈(st.at_ 2).seq
 ff:∀k x,(st.at_ k).fr x=true->x∈(st.at_ k).seq
structure Sq(a b:aq):Prop where
 len:b.rm.length=a.rm.length
 sq:∀j,(b.at_ j).seq=(a.at_ j).seq
 ff:∀j x,(b.at_ j).fr x=true->(a.at_ j).fr x=true\/x∈(a.at_ j).seq
theorem Sq.refl{a:aq}:Sq a a:=⟨rfl,λ_=>rfl,λ_ _ h=>.inl h⟩
theorem Sq.trans{a b c:aq}(x:Sq a b)(y:Sq b c):Sq a c:=⟨y.len.trans x.len,λj=>(y.sq j).trans (x.sq j),λj z h=>(y.ff j z h).elim (x.ff j z) λq=>.inr (by rw[<-x.sq];exact q)⟩
theorem aJ.sq{g:aM}{a b:aq}(o:aJ g a)(x:Sq a b):aJ g b:=⟨o.n3,x.len.trans o.len,λk=>by rw[x.sq];exact o.nd k,λh y hh hy=>by rw[x.sq]at hy ⊢;exact o.inc h y hh hy,λk y hy=>by rw[x.sq];exact(x.ff k y hy).elim (o.ff k y) id⟩
section
variable{g:aM}{st:aq}{k h j:Nat}{b o x:Int}{ws:List Int}
theorem ED{s:Rm}(e:s.seq=(st.at_ k).seq)(f:∀x,s.fr x=true->(st.at_ k).fr x=true\/x∈(st.at_ k).seq):Sq st (st.set k s):=by
 refine⟨dP,λj=>NJ e,λj y hy=>?_⟩;rw[ZX]at hy;split at hy
 .rename_i q;rw[q.1];exact f y hy
 .exact .inl hy
theorem EO{e:List V}:Sq st (st.tell e):=⟨rfl,λ_=>rfl,λ_ _ h=>.inl h⟩
theorem bN:Sq st (bA g k b ws st):=by
 unfold bA;split
 .exact ⟨rfl,λ_=>rfl,λ_ _ h=>.inl h⟩
 .exact (ED (s:=pO (st.at_ k) b ws) rfl λ_ h=>.inl h).trans EO
theorem Tn(hb:b∈(st.at_ k).seq):Sq st (uW k b st):=ED (s:=HS (st.at_ k) b) rfl λx hx=>by
 have hx:(if x=b then true else(st.at_ k).fr x)=true:=hx;by_cases c:x=b
 .rw [c];exact .inr hb
 .rw [ale c]at hx;exact .inl hx
theorem SV(n:j≠k):(bA g k b ws st).at_ j=st.at_ j:=by
 unfold bA;split
 .rfl
 .rw [Cb,ZX,ale λz=>n z.1]
theorem BD(e:k=g.n):(bA g k b ws st).at_ j=st.at_ j:=by
 unfold bA;rw[auJ e];rfl
theorem Oo(n:j≠k):(uW k b st).at_ j=st.at_ j:=by
 unfold uW;rw[ZX,ale λz=>n z.1]
theorem Tj(n:j≠2):(bw g b ws st).at_ j=st.at_ j:=by
 unfold bw;split
 .rw [Oo n,SV n]
 .rw [BD rfl,SV n]
theorem Oa(hb:b∈(st.at_ 2).seq):Sq st (bw g b ws st):=by
 unfold bw;split
 .exact bN.trans (Tn (by rw[bN.sq];exact hb))
 .exact bN.trans bN
theorem KS(hb:b∈(st.at_ 2).seq):Sq st (bR g h b st):=by
 unfold bR;split
 .refine (Oa (ws:=(st.at_ h).wd b) hb).trans (ED (s:=qz _ b) rfl λx hx=>?_);have hx:(if x=b then false else _)=true:=hx;by_cases c:x=b
  .rw [auJ c]at hx;cases hx
  .rw [ale c]at hx;exact .inl hx
 .exact Sq.refl
theorem iG(hk:k<st.rm.length):(cC k b st).at_ j=if j=k then qK (st.at_ k) b else st.at_ j:=by
 unfold cC;rw[aq.bD (by exact hk)];rfl
theorem cY:(cC k b st).rm.length=st.rm.length:=dP
theorem bC(hk:k<st.rm.length):((cC k b st).at_ j).seq=if j=k then(st.at_ j).seq.erase b else(st.at_ j).seq:=by
 rw[iG hk];by_cases z:j=k
 .rw [auJ z,auJ z,z];rfl
 .rw [ale z,ale z]
theorem oq(hk:k<st.rm.length){y:Int}(hy:((cC k b st).at_ j).fr y=true):(st.at_ j).fr y=true/\(j=k->y≠b):=by
 rw[iG hk]at hy;by_cases z:j=k
 .rw [auJ z]at hy;have hy:(if y=b then false else(st.at_ k).fr y)=true:=hy;by_cases c:y=b
  .rw [auJ c]at hy;cases hy
  .rw [ale c]at hy;rw[z];exact⟨hy,λ_=>c⟩
 .rw [ale z]at hy;exact⟨hy,λe=>absurd e z⟩
theorem tD(hk:k<st.rm.length):((cK k b ws st).at_ j).seq=if j=k then(st.at_ j).seq++[b] else(st.at_ j).seq:=by
 unfold cK;rw[Cb,aq.bD hk];by_cases z:j=k
 .rw [auJ z,auJ z,z];rfl
 .rw [ale z,ale z]
theorem B0{y:Int}:((cK k b ws st).at_ j).fr y=(st.at_ j).fr y:=by
 unfold cK;rw[Cb,ZX];split
 .rename_i q;rw[q.1];rfl
 .rfl
theorem rC:(cK k b ws st).rm.length=st.rm.length:=dP
theorem aJ.go(w:aJ g st)(hh:h<2):aJ g (cC h o st):=by
 have hl:h<st.rm.length:=by rw[w.len];lia
 refine⟨w.n3,cY.trans w.len,λk=>?_,λk y hk hy=>?_,λk y hy=>?_⟩
 .rw [bC hl];split
  .exact (w.nd k).erase _
  .exact w.nd k
 .rw [bC hl,ale (by lia)];rw[bC hl]at hy;split at hy
  .exact w.inc k y hk (ajm hy)
  .exact w.inc k y hk hy
 .obtain ⟨h1,h2⟩:=oq hl hy;rw[bC hl];split
  .rename_i e;exact(mem_erase_of_ne (h2 e)).mpr (w.ff k y h1)
  .exact w.ff k y h1
theorem Om(w:aJ g st)(hh:h<2)(ho:o∈(st.at_ 2).seq):Sq (cC h o st) (aN g h o st):=by
 have hl:h<st.rm.length:=by rw[w.len];lia
 unfold aN;split
 .exact Oa (by rw[bC hl,ale (by lia)];exact ho)
 .exact Sq.refl
theorem N9{p:aq×List Int×Bool}(hl:h<p.1.rm.length):(cI h o p).1.rm.length=p.1.rm.length/\(∀j,((cI h o p).1.at_ j).seq=if j=h then(p.1.at_ j).seq.erase o else(p.1.at_ j).seq)/\∀j y,((cI h o p).1.at_ j).fr y=true->(p.1.at_ j).fr y=true/\(j=h->o∈(p.1.at_ h).seq->y≠o):=by
 unfold cI;split
 .have e:(if(p.1.at_ h).fr o=true then(cC h o p.1,(p.1.at_ h).wd o,true) else(cC h o p.1,p.2)).1=cC h o p.1:=by split <;> rfl
  rw[e];exact⟨cY,λj=>bC hl,λj y hy=>by obtain⟨q1,q2⟩:=oq hl hy;exact⟨q1,λe _=>q2 e⟩⟩
 .rename_i n;refine⟨rfl,λj=>?_,λj y hy=>⟨hy,λ_ m=>absurd m n⟩⟩;split
  .rename_i e;rw[e,aDq n]
  .rfl
theorem Kz(l3:st.rm.length=3):(i7 o st).1.rm.length=3/\(∀j,((i7 o st).1.at_ j).seq=if j<3 then(st.at_ j).seq.erase o else(st.at_ j).seq)/\∀j y,((i7 o st).1.at_ j).fr y=true->(st.at_ j).fr y=true/\(j<3->o∈(st.at_ j).seq->y≠o):=by
 obtain⟨a1,a2,a3⟩:=N9 (h:=0) (o:=o) (p:=(cC 2 o st,(st.at_ 2).wd o,(st.at_ 2).fr o)) (by show 0<(cC 2 o st).rm.length;rw[cY];lia);obtain⟨b1,b2,b3⟩:=N9 (h:=1) (o:=o) (p:=cI 0 o (cC 2 o st,(st.at_ 2).wd o,(st.at_ 2).fr o)) (by rw[a1];show 1<(cC 2 o st).rm.length;rw[cY];lia);have g2:=λj=>bC (k:=2) (b:=o) (st:=st) (j:=j) (by lia);have c2:∀j,((i7 o st).1.at_ j).seq=if j<3 then(st.at_ j).seq.erase o else(st.at_ j).seq:=λj=>by
  unfold i7;rw[b2,a2];dsimp only;rw[g2];by_cases e0:j=0
  .rw [ale (by lia),auJ e0,ale (by lia),auJ (by lia)]
  .by_cases e1:j=1
   .rw [auJ e1,ale e0,ale (by lia),auJ (by lia)]
   .by_cases e2:j=2
    .rw [ale e1,ale e0,auJ e2,auJ (by lia)]
    .rw [ale e1,ale e0,ale e2,ale (by lia)]
 refine⟨b1.trans (a1.trans (cY.trans l3)),c2,λj y hy=>?_⟩;obtain⟨q1,q2⟩:=b3 j y hy;obtain⟨q3,q4⟩:=a3 j y q1;obtain⟨q5,q6⟩:=oq (by lia) q3;refine⟨q5,λhj m=>?_⟩;by_cases e2:j=2
 .exact q6 e2
 .have m2:o∈((cC 2 o st).at_ j).seq:=by rw[g2,ale e2];exact m
  by_cases e0:j=0
  .exact q4 e0 (by subst e0;exact m2)
  .have e1:j=1:=by lia
   refine q2 e1 ?_;subst e1;rw[a2,ale (by lia)];exact m2
theorem fJ:Sq (i7 o st).1 (pU g o st):=by
 unfold pU;split
 .exact bN
 .exact Sq.refl
theorem aJ.i7(w:aJ g st):aJ g (i7 o st).1:=by
 obtain⟨h1,h2,h3⟩:=Kz (o:=o) w.len;refine⟨w.n3,h1,λk=>?_,λh y hh hy=>?_,λk y hy=>?_⟩
 .rw [h2];split
  .exact (w.nd k).erase _
  .exact w.nd k
 .rw [h2,auJ (by lia)]at hy ⊢;obtain⟨n,m⟩:=(w.nd h).mem_erase_iff.mp hy;exact(w.nd 2).mem_erase_iff.mpr ⟨n,w.inc h y hh m⟩
 .obtain ⟨q1,q2⟩:=h3 k y hy;have m:=w.ff k y q1;rw[h2];split
  .rename_i c;refine(w.nd k).mem_erase_iff.mpr ⟨λe=>?_,m⟩;exact q2 c (by rw[<-e];exact m) e
  .exact m
theorem aJ.roomF(w:aJ g st):aJ g (roomF g b st)/\∀j,∀y∈((bL.roomF g b st).at_ j).seq,y∈(st.at_ j).seq:=by
 unfold bL.roomF;split
 .exact ⟨w,λ_ _ h=>h⟩
 .rename_i o _;refine⟨w.i7.sq fJ,λj y hy=>?_⟩;rw[fJ.sq,(Kz w.len).2.1]at hy;split at hy
  .exact ajm hy
  .exact hy
theorem aJ.Ig(w:aJ g st)(hb:b∉(st.at_ 2).seq):aJ g (cK 2 b ws st):=by
 have hl:2<st.rm.length:=by rw[w.len];lia
 refine⟨w.n3,rC.trans w.len,λk=>?_,λh y hh hy=>?_,λk y hy=>?_⟩
 .rw [tD hl];split
  .rename_i e;rw[e];exact EM (w.nd 2) hb
  .exact w.nd k
 .rw [tD hl,ale (by lia)]at hy;rw[tD hl,auJ rfl];exact ata _ (w.inc h y hh hy)
 .rw [B0]at hy;rw[tD hl];split
  .exact ata _ (w.ff k y hy)
  .exact w.ff k y hy
theorem aJ.Ie(w:aJ g st)(hh:h<2)(hb:b∉(st.at_ h).seq)(h2:b∈(st.at_ 2).seq):aJ g (cK h b ws st):=by
 have hl:h<st.rm.length:=by rw[w.len];lia
 refine⟨w.n3,rC.trans w.len,λk=>?_,λk y hk hy=>?_,λk y hy=>?_⟩
 .rw [tD hl];split
  .rename_i e;rw[e];exact EM (w.nd h) hb
  .exact w.nd k
 .rw [tD hl,ale (by lia)];rw[tD hl]at hy;split at hy
  .rcases aXY.mp hy with hy|hy
   .exact w.inc k y hk hy
   .rw [axK.mp hy];exact h2
  .exact w.inc k y hk hy
 .rw [B0]at hy;rw[tD hl];split
  .exact ata _ (w.ff k y hy)
  .exact w.ff k y hy
theorem aJ.use(w:aJ g st)(hb:b∈(st.at_ k).seq){e:List V}:aJ g ((st.tell e).set k (jI (g.cf k) (st.at_ k) b)):=by
 have pm:=DN (c:=g.cf k) hb;have at':∀j,((st.tell e).set k (jI (g.cf k) (st.at_ k) b)).at_ j=if j=k/\k<st.rm.length then jI (g.cf k) (st.at_ k) b else st.at_ j:=λj=>ZX
 have me:∀j y,y∈(((st.tell e).set k (jI (g.cf k) (st.at_ k) b)).at_ j).seq↔y∈(st.at_ j).seq:=λj y=>by
  rw[at'];split
  .rename_i q;rw[q.1];exact pm.mem_iff
  .rfl
 refine⟨w.n3,dP.trans w.len,λj=>?_,λj y hj hy=>(me 2 y).mpr (w.inc j y hj ((me j y).mp hy)),λj y hy=>(me j y).mpr ?_⟩
 .rw [at'];split
  .exact pm.nodup_iff.mpr (w.nd k)
  .exact w.nd j
 .rw [at']at hy;split at hy
  .rename_i q;rw[q.1];exact w.ff k y hy
  .exact w.ff j y hy
theorem aJ.b9(w:aJ g st):aJ g (b9 g b st)/\b∈((bL.b9 g b st).at_ 2).seq/\∀j,j<2->∀y∈((bL.b9 g b st).at_ j).seq,y∈(st.at_ j).seq:=by
 unfold bL.b9;split
 .rename_i hb;refine⟨w.use hb,?_,λj hj y hy=>?_⟩
  .rw [ZX,auJ ⟨rfl,by show 2<st.rm.length;rw[w.len];lia⟩];exact(DN hb).mem_iff.mpr hb
  .rw [ZX,ale (by lia)]at hy;exact hy
 .rename_i hb;obtain⟨h1,h2⟩:=(w.sq (EO (e:=eF g.n))).roomF (b:=b);have hl:2<(bL.roomF g b (st.tell (eF g.n))).rm.length:=by rw[h1.len];lia
  refine⟨h1.Ig λz=>hb (h2 2 b z),?_,λj hj y hy=>?_⟩
  .rw [tD hl,auJ rfl];exact aGz _ (axK.mpr rfl)
  .rw [tD hl,ale (by lia)]at hy;exact h2 j y hy
theorem aJ.aI(w:aJ g st)(hh:h<2):aJ g (aI g h b st)/\(∀y∈((bL.aI g h b st).at_ h).seq,y∈(st.at_ h).seq)/\∀j,j≠h->((bL.aI g h b st).at_ j).seq=(st.at_ j).seq:=by
 have hl:h<st.rm.length:=by rw[w.len];lia
 unfold bL.aI;split
 .exact ⟨w,λ_ z=>z,λ_ _=>rfl⟩
 .rename_i o e;have s:=Om (g:=g) w hh (w.inc h o hh (BZ e).1);refine⟨(w.go hh).sq s,λy hy=>?_,λj hj=>?_⟩
  .rw [s.sq,bC hl,auJ rfl]at hy;exact ajm hy
  .rw [s.sq,bC hl,ale hj]
theorem aJ.gj(w:aJ g st)(hh:h<2)(hb:b∉(st.at_ h).seq)(h2:b∈(st.at_ 2).seq):aJ g (gj g h b st)/\b∈((bL.gj g h b st).at_ h).seq/\∀j,j≠h->((bL.gj g h b st).at_ j).seq=(st.at_ j).seq:=by
 obtain⟨r1,r2,r3⟩:=w.aI (b:=b) hh;have hl:h<(bL.aI g h b st).rm.length:=by rw[r1.len];lia
 unfold bL.gj;refine⟨r1.Ie hh (λz=>hb (r2 b z)) (by rw[r3 2 (by lia)];exact h2),?_,λj hj=>?_⟩
 .rw [tD hl,auJ rfl];exact aGz _ (axK.mpr rfl)
 .rw [tD hl,ale hj,r3 j hj]
theorem aJ.bP(w:aJ g st)(hh:h<2):aJ g (bP g h b st)/\b∈((bL.bP g h b st).at_ h).seq:=by
 unfold bL.bP;split
 .rename_i hb;refine⟨w.use hb,?_⟩;rw[ZX,auJ ⟨rfl,by show h<st.rm.length;rw[w.len];lia⟩];exact(DN hb).mem_iff.mpr hb
 .rename_i hb;obtain⟨f1,f2,f3⟩:=w.b9 (b:=b);have s:=KS (g:=g) (h:=1-h) f2;obtain⟨i1,i2,_⟩:=(f1.sq s).gj hh (λz=>hb (f3 h hh b (by rw[s.sq]at z;exact z))) (by rw[s.sq];exact f2);exact⟨i1,i2⟩
theorem aJ.bJ(w:aJ g st)(hh:h<2):aJ g (bJ h b st)/\((bL.bJ h b st).at_ h).seq=(st.at_ h).seq:=by
 unfold bL.bJ;split
 .exact ⟨w.go (by lia),by rw[bC (by rw[w.len];lia),ale (by lia)]⟩
 .exact ⟨w,rfl⟩
theorem aJ.mark(w:aJ g st)(hh:h<2)(hb:b∈(st.at_ h).seq):aJ g (markB g h b st):=by
 unfold markB;split
 .exact w.sq (Tn hb)
 .exact w.sq (Oa (w.inc h b hh hb))
theorem aJ.jd(w:aJ g st):aJ g (jd st):=w.sq ⟨rfl,λ_=>rfl,λ_ _ h=>.inl h⟩
end
inductive nW(K:W.Frag)(vs:List V)(H:Hp)(Q:VK)(E:XK):Prop
 |mk (a:SA) (c:Cf) (s:Rm) (O:Addr->Prop) (b:Int):vs=[.ref a.sp,.int b]->ay K H a c s O->Q (.bl (s.fr b)) H->nW K vs H Q E
example:(iA Fc):=by
 obtain⟨a,c,s,O,b,rfl,S,k⟩:=h;refine⟨_,(Zg (Zs (Sg (R7 hu (pv 1) (Zk (K:=K) rfl (pv 0) rfl))))),?_⟩;obtain⟨dx,h1⟩:=S.aT.ob;obtain⟨kf,h4,h5,h6⟩:=S.fresh;refine⟨_,rfl,_,rfl,a.sp,_,dx,_,_,rfl,h1,T.dQ,T.Eh,IP ..,a.df,_,rfl,dg.k (k:=Sum.inl b) h4,?_⟩;rw[h6 b];cases c:s.fr b with
 |true=>rw[c]at k;rw[auJ rfl];exact k
 |false=>rw[c]at k;rw[ale a0V];exact k
inductive ql(K:W.Frag)(vs:List V)(H:Hp)(Q:VK)(E:XK):Prop
 |mk (a:SA) (c:Cf) (s:Rm) (O:Addr->Prop) (b:Int):vs=[.ref a.sp,.int b]->ay K H a c s O->s.fr b=true->(∀H',ay K H' a c (qz s b) O->bM O H H' O->Q .aO H')->ql K vs H Q E
example:(jU E6):=by
 obtain⟨a,c,s,O,b,rfl,S,hb,k⟩:=h;refine⟨_,(Zg (Zr (OC (Zk (K:=K) rfl (pv 0) rfl) (pv 1) ⟨rfl,rfl,rfl,rfl⟩))),?_⟩;obtain⟨dx,h1⟩:=S.aT.ob;obtain⟨kvs,wl,h3⟩:=S.held;obtain⟨kf,h4,h5,h6⟩:=S.fresh;refine⟨_,rfl,a.sp,_,dx,_,_,rfl,h1,T.dQ,T.Eh,IP ..,a.df,rfl,.inl ⟨_,.inl h4⟩,_,rfl,kf,Sum.inl b,_,h4,rfl,(by rw[h6 b,auJ hb]),?_⟩;have S2:=S.aT.put (x:=a.df) (.inr rfl) (aU kf (Sum.inl b));refine k _ ⟨S2,⟨kvs,wl,by rw[Zc (aWz S.aT.n2)];exact h3.dc,h3.ki,h3.v,λx m=>⟨by rw[Zc (λz=>by have q:=(h3.at_ x m).1;rw[z,h4]at q;cases q)];exact(h3.at_ x m).1,(h3.at_ x m).2⟩,h3.inj⟩,⟨_,Za,h5.drop b,λx=>?_⟩,λx h=>?_⟩ (S.aT.xQ (x:=a.df) (.inr rfl) _)
 .rw [IQ];show _=if(if x=b then false else s.fr x)=true then _ else _
  by_cases z:x=b
  .rw [auJ (by rw[z]),auJ z,ale a0V]
  .rw [ale (λq=>z (aLX q)),h6 x,ale z]
 .have h:(if x=b then false else s.fr x)=true:=h;by_cases z:x=b
  .rw [auJ z]at h;cases h
  .rw [ale z]at h;exact S.yv x h
def yJ(H:Hp)(t:Addr)(c:Cf):Prop:=∃wr:Str,H t=some (.tup [.int c.sh,.int c.pl,.str c.ru,.str wr])/\c.late=decide (wr ="late")/\Wr wr/\1<=c.sh/\c.sh<=64/\1<=c.pl/\c.pl<=16/\yI c.ru
theorem yJ.frame{H H':Hp}{t:Addr}{c:Cf}(r:yJ H t c)(f:∀x ys,H x=some (.tup ys)->H' x=some (.tup ys)):yJ H' t c:=by
 obtain⟨wr,e,r⟩:=r;exact⟨wr,f _ _ e,r⟩
inductive xj(K:W.Frag)(vs:List V)(H:Hp)(Q:VK)(E:XK):Prop
 |mk (p dx tn tf:Addr) (size:Int) (cn cf:Cf):vs=[.ref p,.int size,.ref tn,.ref tf]->H p=some (.ins (af K "Beside") dx [])->yJ H tn cn->yJ H tf cf->Tb K H->(∀(A:TA)(os:OS)(H':Hp),A.p=p->(∀U,WF ⟨size,"",[cn,cn,cf],U⟩->aa K H' A ⟨size,"",[cn,cn,cf],U⟩ (yH 3) os 0)->(∀x,OW A os x->x≠p->H x=none)->(∀b o,H b=some o->b≠p->H' b=some o)->Q .aO H')->xj K vs H Q E
example:(lH GW Fg):=by
 obtain⟨p,dx,tn,tf,size,cn,cf,rfl,hp,pn,pf,tb,q⟩:=h;refine⟨_,(Zg (Zr (ZjQ Fg hr.m rfl (pc (pv 0) (pc (pv 1) (pc (ZN (pc (pv 2) (pc (pv 2) (pc (pv 3) Zb)))) Zb)))))),?_⟩;refine⟨_,rfl,_,rfl,_,rfl,_,rfl,_,rfl,(sL 3),λtp htp=>?_⟩;have s1:=Zd htp (.tup [V.ref tn,V.ref tn,V.ref tf]);have Dm:=Za (H:=H) (a:=tp) (o:=.tup [V.ref tn,V.ref tn,V.ref tf]);generalize upd H tp (.tup [V.ref tn,V.ref tn,V.ref tf])=H1 at *;obtain⟨wn,en,n1,n2,n3,n4,n5,n6,n7⟩:=pn.frame λx ys e=>s1 _ _ e;obtain⟨wf,ef,f1,f2,f3,f4,f5,f6,f7⟩:=pf.frame λx ys e=>s1 _ _ e;have pa:jh K H1 tp [tn,tn,tf] [cn,cn,cf]:=by
  refine⟨Dm,rfl,λi t c h1 h2=>?_,λc hc=>?_⟩
  .match i,h1,h2 with
   |0,h1,h2=>cases h1;cases h2;exact⟨wn,en,n1,n2⟩
   |1,h1,h2=>cases h1;cases h2;exact⟨wn,en,n1,n2⟩
   |2,h1,h2=>cases h1;cases h2;exact⟨wf,ef,f1,f2⟩
   |i+3,h1,_=>cases h1
  .simp only[afg,aNV,aQw]at hc;rcases hc with rfl|rfl|rfl
   .exact ⟨n3,n4,n5,n6,n7⟩
   .exact ⟨n3,n4,n5,n6,n7⟩
   .exact ⟨f3,f4,f5,f6,f7⟩
 refine⟨p,dx,tp,size,_,_,rfl,s1 _ _ hp,pa,Nat.le_of_ble_eq_true rfl,tb.same s1,λA os H2 ep h1 RS f1 k1=>?_⟩;have e:∀kind,upd H2 p (.ins (af K "Beside") dx (br size A.ss A.bm A.as.length A.ev kind))=H2:=λkind=>funext λx=>by
  by_cases z:x=p
  .rw [z,Za,h1];rfl
  .rw [Zc z]
 exact q A os _ ep (λU wf=>by have R:=RS "" U wf;rw[e]at R;exact R) (λx h n=>s1.free (f1 x h n)) λx o e n=>k1 x o (s1 _ _ e) n
inductive uh(K:W.Frag)(vs:List V)(H:Hp)(Q:VK)(E:XK):Prop
 |mk (A:TA) (g:aM) (st:aq) (os:OS) (n:Nat) (b:Int) (lw:Addr) (ws:List Int):vs=[.ref A.p,.int b,.ref lw]->aa K H A g st os n->g.n=3->b∈(st.at_ 2).seq->H lw=some (.lst (ws.map V.int))->(¬OW A os lw)->ws.length=g.size.toNat->n<=800000->Res K H A g os (bw g b ws st) (n+2) (Q .aO)->uh K vs H Q E
example:(gF xM vY Bw):=by
 obtain ⟨A,g,st,os,n,b,lw,ws,rfl,R,g3,hb,pP,nO,ye,hn,q⟩:=h;refine⟨_,(Ze (Zr (Zj vY hr.m T.aL (pv 0) (pc (yF T.vF rfl) (pc (pv 1) (pc (pv 2) Zb)))))
   (Ze (cX 3 nd (ak (Zl (K:=K) rfl) (Zk (K:=K) rfl (pv 0) rfl) (yF T.vF rfl) (λ_ _=>rfl)))
   (Zg (aE (ZI (Zk (K:=K) rfl (pv 3) rfl)) (Zg (Zr (Zj Bw hr.m T.dQ (pv 3) (pc (pv 1) Zb)))) (Zg (Zr (Zj vY hr.m T.aL (pv 0) (pc (Zk (K:=K) rfl (pv 0) rfl) (pc (pv 1) (pc (pv 2) Zb)))))))))),?_⟩
 obtain⟨dx,h1⟩:=R.ob;have ln:=R.ln;have bU:b∈g.U:=((R.oB (k:=2) (by lia)).2.1 b hb).1;unfold bw at q;refine⟨_,rfl,A.p,dx,_,rfl,h1,az ..,_,rfl,_,rfl,A,g,st,os,n,2,b,lw,ws,rfl,R,by lia,λ_=>hb,bU,pP,nO,ye,by lia,λH1 eS R1 p1=>?_⟩;have hb1:b∈((bA g 2 b ws st).at_ 2).seq:=by rw[bN.sq];exact hb
 obtain⟨MS,Xg⟩:=p1.out pP nO;obtain⟨fK,g1⟩:=R1.ob;obtain⟨a,e1,e2,e3,B⟩:=R1.at_ (k:=2) (by lia);obtain⟨u1,u2,u3,u4,u5,u6⟩:=R1.oB (k:=2) (by lia);obtain⟨ds,h3⟩:=B.aT.ob;refine⟨_,rfl,A.p,_,fK,_,_,rfl,g1,T.aL,T.qI,ZA ..,A.ss,_,_,_,rfl,rfl,ao.of R1.ss,aa.ix e1,gN ?_⟩;try dsimp only
 refine⟨_,rfl,a.sp,_,ds,_,_,rfl,h3,T.dQ,T.MC,Sn ..,_,rfl,?_⟩;by_cases c:(g.cf 2).late=true
 .rw [auJ c]at q;refine cB c ⟨_,rfl,a.sp,ds,_,rfl,h3,bW ..,_,rfl,a,_,_,_,b,rfl,B,hb1,u1,λG3 B3 p3=>?_⟩;obtain⟨R3,p4⟩:=R1.iH e1 e2 B3 p3 u2 u3;exact q _ _ (R3.le (by lia)) (p1.trans p4)
 .rw [ale c]at q;exact bK (by simpa using c) ⟨_,rfl,A.p,fK,_,rfl,g1,az ..,_,rfl,A.p,_,fK,_,_,rfl,g1,T.aL,T.zU,Cc ..,_,rfl,_,rfl,A,g,_,eS,_,g.n,b,lw,ws,by rw[ln];rfl,R1,aI1 _,λh=>absurd h (agV _),bU,MS,Xg,ye,by lia,λG2 fP R2 p2=>q _ _ (R2.le (by lia)) (p1.trans p2)⟩
inductive qt(K:W.Frag)(vs:List V)(H:Hp)(Q:VK)(E:XK):Prop
 |mk (A:TA) (g:aM) (st:aq) (os:OS) (n h:Nat) (o:Int):vs=[.ref A.p,.int (h:Int),.int o]->aa K H A g st os n->g.n=3->h<2->o∈(st.at_ h).seq->o∈(st.at_ 2).seq->n<=700000->Res K H A g os (aN g h o st) (n+3) (Q .aO)->qt K vs H Q E
example:(fz BA sF xM):=by
 obtain ⟨A,g,st,os,n,h,o,rfl,R,g3,hh,ho,h2,hn,q⟩:=h;refine⟨_,(Ze (rJ (Zj sF hr.m T.aL (pv 0) (pc (pv 1) (pc (pv 2) Zb))) (ZD (K:=K) (n:=2) rfl rfl (Zn (bE 3 nd) (Zn (bE 4 nd) ZC))))
   (Zg (aE (ZI (pv 4)) (Zg (Zr (Zj xM hr.m T.aL (pv 0) (pc (pv 2) (pc (pv 3) Zb))))) Zt))),?_⟩
 obtain⟨dx,h1⟩:=R.ob;have ln:=R.ln;have lS:=R.lS;have lw:=((R.oB (k:=h) (by lia)).2.1 o ho).2;unfold aN at q;refine⟨_,rfl,A.p,dx,_,rfl,h1,az ..,_,rfl,_,rfl,A,g,st,os,n,h,o,rfl,R,by lia,ho,by lia,λH1 eS t l et el nl R1 p1=>⟨t,_,rfl,aP.of et,rfl,_,_,rfl,gN ⟨_,_,rfl,gN ⟨rfl,?_⟩⟩⟩⟩;try dsimp only
 obtain⟨fK,g1⟩:=R1.ob;cases fr:(st.at_ h).fr o with
 |true=>
  rw[auJ fr]at q;exact⟨_,rfl,_,rfl,cB rfl ⟨_,rfl,A.p,fK,_,rfl,g1,az ..,_,rfl,_,rfl,A,g,_,eS,_,o,l,_,rfl,R1,g3,by rw[bC (by lia),ale (by lia)];exact h2,el,nl,lw,by lia,λH2 fP R2 p2=>q _ _ (R2.le (by lia)) (p1.trans p2)⟩⟩
 |false=>
  rw[ale (by rw[fr];exact a0V)]at q;exact⟨_,rfl,_,rfl,bK rfl (q _ _ (R1.le (by lia)) p1)⟩
inductive nT(K:W.Frag)(vs:List V)(H:Hp)(Q:VK)(E:XK):Prop
 |mk (A:TA) (g:aM) (st:aq) (os:OS) (n h:Nat) (b:Int):vs=[.ref A.p,.int (h:Int),.int b]->aa K H A g st os n->g.n=3->h<2->b∈(st.at_ 2).seq->n<=700000->Res K H A g os (bR g h b st) (n+2) (Q .aO)->nT K vs H Q E
example:(eE F6 Fc uH xM E6):=by
 obtain ⟨A,g,st,os,n,h,b,rfl,R,g3,hh,h2,hn,q⟩:=h;refine⟨_,(Ze (cX 3 nd (ak (Zl (K:=K) rfl) (Zk (K:=K) rfl (pv 0) rfl) (pv 1) (λ_ _=>rfl)))
   (Zg (aE (ZI (Zj Fc hr.m T.dQ (pv 3) (pc (pv 2) Zb))) (Ze (Zr (Zj xM hr.m T.aL (pv 0) (pc (pv 2) (pc (Zj uH hr.m T.dQ (pv 3) (pc (pv 2) Zb)) Zb))))
   (Zg (Zr (Zj E6 hr.m T.dQ (pv 3) (pc (pv 2) Zb))))) Zt))),?_⟩
 obtain⟨dx,h1⟩:=R.ob;have ln:=R.ln;obtain⟨a,e1,e2,e3,B⟩:=R.at_ (k:=h) (by lia);obtain⟨u1,u2,u3,u4,u5,u6⟩:=R.oB (k:=h) (by lia);obtain⟨ds,h3⟩:=B.aT.ob;unfold bR at q;refine⟨_,rfl,A.p,_,dx,_,_,rfl,h1,T.aL,T.qI,ZA ..,_,rfl,A.ss,_,_,_,rfl,rfl,ao.of R.ss,aa.ix e1,gN ?_⟩;try dsimp only
 refine⟨_,rfl,a.sp,ds,_,rfl,h3,bW ..,_,rfl,a,_,_,_,b,rfl,B,_,rfl,?_⟩;cases fr:(st.at_ h).fr b with
 |true=>
  rw[auJ fr]at q;have hb:b∈(st.at_ h).seq:=B.yv b fr;refine cB rfl ⟨_,rfl,A.p,dx,_,rfl,h1,az ..,_,rfl,_,rfl,a.sp,ds,_,rfl,h3,bW ..,_,rfl,a,_,_,_,b,rfl,B,hb,λl hl=>?_⟩;have sm:=Zd hl (.lst (((st.at_ h).wd b).map V.int));refine⟨A,g,st,os,n,b,l,_,rfl,R.same sm,g3,h2,Za,R.fresh hl,(u2 b hb).2,by lia,λH2 fP R2 p2=>?_⟩;obtain⟨a2,f1,f2,f3,B2⟩:=R2.at_ (k:=h) (by lia);rw[e1]at f1;cases f1;obtain⟨v1,v2,v3,v4,v5,v6⟩:=R2.oB (k:=h) (by lia);obtain⟨d2,h4⟩:=B2.aT.ob;refine⟨_,rfl,a.sp,d2,_,rfl,h4,bW ..,_,rfl,a,_,_,_,b,rfl,B2,by rw[Tj (by lia)];exact fr,λG3 B3 p3=>?_⟩;obtain⟨R3,p4⟩:=R2.iH e1 f2 B3 p3 v2 v3;exact q _ _ (R3.le (by lia)) (((bM.same sm).trans p2).trans p4)
 |false=>
  rw[ale (by rw[fr];exact a0V)]at q;exact bK rfl (q _ _ (R.le (by lia)) (bM.same (av.refl _)))
section
variable{g:aM}{st:aq}{h:Nat}{b o:Int}
theorem ZfZ(w:aJ g st)(full:∀t,((Zp (g.cf 2).sh t (st.at_ 2).seq).length:Int)<=(g.cf 2).pl)(gp:d8 (g.cf 2).ru (st.at_ 2).us (g.cf 2).pl (Zp (g.cf 2).sh (b%(g.cf 2).sh) (st.at_ 2).seq) (cT (g.cf 2) (st.at_ 2) b)):((Zp (g.cf 2).sh (b%(g.cf 2).sh) ((roomF g b st).at_ 2).seq).length:Int)<(g.cf 2).pl:=by
 unfold roomF;split
 .rename_i e;rw[e]at gp;exact Si gp
 .rename_i o e;obtain⟨m1,m2,_⟩:=BZ e;rw[fJ.sq,(Kz w.len).2.1,auJ (by lia)];exact To full m1 m2
theorem Zga(w:aJ g st)(hh:h<2)(full:∀t,((Zp (g.cf h).sh t (st.at_ h).seq).length:Int)<=(g.cf h).pl)(gp:d8 (g.cf h).ru (st.at_ h).us (g.cf h).pl (Zp (g.cf h).sh (b%(g.cf h).sh) (st.at_ h).seq) (cT (g.cf h) (st.at_ h) b)):((Zp (g.cf h).sh (b%(g.cf h).sh) ((aI g h b st).at_ h).seq).length:Int)<(g.cf h).pl:=by
 unfold aI;split
 .rename_i e;rw[e]at gp;exact Si gp
 .rename_i o e;obtain⟨m1,m2,_⟩:=BZ e;rw[(Om (g:=g) w hh (w.inc h o hh m1)).sq,bC (by rw[w.len];lia),auJ rfl];exact To full m1 m2
end
inductive qu(K:W.Frag)(vs:List V)(H:Hp)(Q:VK)(E:XK):Prop
 |mk (A:TA) (g:aM) (st:aq) (os:OS) (n:Nat) (o:Int):vs=[.ref A.p,.int o]->aa K H A g st os n->g.n=3->o∈(st.at_ 2).seq->n<=700000->Res K H A g os (pU g o st) (n+4) (Q .aO)->qu K vs H Q E
example:(fR F5 sF uF vY):=by
 obtain ⟨A,g,st,os,n,o,rfl,R,g3,ho,hn,q⟩:=h;refine⟨_,(Ze (rJ (Zj sF hr.m T.aL (pv 0) (pc (yF T.vF rfl) (pc (pv 1) Zb))) (ZD (K:=K) (n:=2) rfl rfl (Zn (bE 2 nd) (Zn (bE 3 nd) ZC))))
   (Ze (yG aAH rfl (K1 (K:=K) rfl (Tt (K:=K) rfl T.Kh rfl)) (bE 4 nd) (Zg (aE (ZI (Zj uF hr.m T.dQ (ak (Zl (K:=K) rfl) (Zk (K:=K) rfl (pv 0) rfl) (pv 4) (λ_ _=>rfl)) (pc (pv 1) Zb))) (Ze (rJ (Zj sF hr.m T.aL (pv 0) (pc (pv 4) (pc (pv 1) Zb))) (ZD (K:=K) (n:=2) rfl rfl (Zn (bE 5 nd) (Zn (bE 6 nd) ZC))))
   (Zg (aE (ZI (pv 6)) (Zg (Sf (i:=2) (j:=3) rfl nd rfl rfl (by decide) rfl rfl (pc (pv 5) (pc d7 Zb)) rfl)) Zt))) Zt)))
   (Zg (aE (ZI (pv 3)) (Zg (Zr (Zj vY hr.m T.aL (pv 0) (pc (Zk (K:=K) rfl (pv 0) rfl) (pc (pv 1) (pc (pv 2) Zb)))))) Zt)))),?_⟩
 obtain⟨dx,h1⟩:=R.ob;have ln:=R.ln;have lS:=R.lS;obtain⟨oU,lw⟩:=(R.oB (k:=2) (by lia)).2.1 o ho;refine⟨_,rfl,A.p,dx,_,rfl,h1,az ..,_,rfl,A,g,st,os,n,2,o,rfl,R,by lia,ho,by lia,λH1 eS t l et el nl R1 p1=>⟨t,_,rfl,aP.of et,rfl,_,_,rfl,gN ⟨_,_,rfl,gN ⟨rfl,?_⟩⟩⟩⟩;try dsimp only
 refine λhd Dr=>⟨hd,rfl,⟨_,Dr _⟩,S7 (K:=K) (a:=hd) (xs:=([0,1]:List Int).map V.int) (λi σ G=>∃(v4 v5 v6:Option V)(l':Addr)(os':OS),σ=[some (.ref A.p),some (.int o),some (.ref l'),some (.bl (yZ o st i).2.2),v4,v5,v6]/\aa K G A g (yZ o st i).1 os' (n+1+i)/\bM (OW A os) H G (OW A os')/\G l'=some (.lst ((yZ o st i).2.1.map V.int))/\¬OW A os' l'/\(yZ o st i).2.1.length=g.size.toNat)
  ⟨_,_,_,l,eS,rfl,R1,p1,el,nl,lw⟩ (λi σ G _ _=>Dr _) ?_ ?_⟩
 .rintro i x σ G hi ⟨v4,v5,v6,l',os',rfl,R2,p2,HZ,J4,Al⟩;have hi2:i<2:=(ajE.mp hi).1;have hx:x=.int (i:Int):=by
   have h:i=0\/i=1:=by lia
   rcases h with rfl|rfl
   .exact (asK hi).symm
   .exact (asK hi).symm
  subst hx;refine gN ?_;try dsimp only
  obtain⟨pR,g2⟩:=R2.ob;obtain⟨a,e1,e2,e3,B⟩:=R2.at_ (k:=i) (by lia);obtain⟨ds,h3⟩:=B.aT.ob;refine⟨_,rfl,A.p,_,pR,_,_,rfl,g2,T.aL,T.qI,ZA ..,_,rfl,A.ss,_,_,_,rfl,rfl,ao.of R2.ss,aa.ix e1,a.sp,ds,_,rfl,h3,bW ..,_,rfl,a,_,_,_,o,rfl,B,_,rfl,?_⟩;have es:yZ o st (i+1)=cI i o (yZ o st i):=rfl;unfold cI at es;by_cases m:o∈((yZ o st i).1.at_ i).seq
  .rw [auJ m]at es;have Mq:=((R2.oB (k:=i) (by lia)).2.1 o m).2;refine cB (a5h m) ⟨_,rfl,A.p,pR,_,rfl,g2,az ..,_,rfl,_,rfl,A,g,_,os',_,i,o,rfl,R2,by lia,m,by lia,λH3 iT t3 l3 EB YE W9 R3 p3=>⟨t3,_,rfl,aP.of EB,rfl,_,_,rfl,gN ⟨_,_,rfl,gN ⟨rfl,?_⟩⟩⟩⟩;try dsimp only
   obtain⟨YD,W8⟩:=p3.out HZ J4;cases fr:((yZ o st i).1.at_ i).fr o with
   |true=>
    rw[auJ fr]at es;refine⟨_,rfl,_,rfl,cB rfl ⟨_,rfl,_,_,rfl,?_⟩⟩;refine⟨_,_,_,l3,iT,by rw[es];rfl,by rw[es];exact R3.le (by lia),p2.trans p3,by rw[es];exact YE,W9,by rw[es];exact Mq⟩
   |false=>
    rw[ale (by rw[fr];exact a0V)]at es;refine⟨_,rfl,_,rfl,bK rfl ?_⟩;refine⟨_,_,_,l',iT,by rw[es];rfl,by rw[es];exact R3.le (by lia),p2.trans p3,by rw[es];exact YD,W8,by rw[es];exact Al⟩
  .rw [ale m]at es;exact bK (aKy m) ⟨_,_,_,l',os',by rw[es];rfl,by rw[es];exact R2.le (by lia),p2,by rw[es];exact HZ,J4,by rw[es];exact Al⟩
 .rintro σ G ⟨v4,v5,v6,l',os',rfl,R2,p2,HZ,J4,Al⟩;have e2:yZ o st (([0,1]:List Int).map V.int).length=i7 o st:=rfl;rw[e2]at R2 HZ Al ⊢;obtain⟨pR,g2⟩:=R2.ob;unfold pU at q;cases fr:(i7 o st).2.2 with
  |true=>
   rw[auJ fr]at q;exact⟨_,rfl,_,rfl,cB rfl ⟨_,rfl,A.p,pR,_,rfl,g2,az ..,_,rfl,A.p,_,pR,_,_,rfl,g2,T.aL,T.zU,Cc ..,_,rfl,_,rfl,A,g,_,os',_,g.n,o,l',_,by rw[ln];rfl,R2,aI1 _,λh=>absurd h (agV _),oU,HZ,J4,Al,by show n+1+2<=900000;lia,λH4 sI R4 p4=>q _ _ (R4.le (by show n+1+2+1<=n+4;lia)) (p2.trans p4)⟩⟩
  |false=>
   rw[ale (by rw[fr];exact a0V)]at q;exact⟨_,rfl,_,rfl,bK rfl (q _ _ (R2.le (by show n+1+2<=n+4;lia)) p2)⟩
inductive wZ(K:W.Frag)(vs:List V)(H:Hp)(Q:VK)(E:XK):Prop
 |mk (A:TA) (g:aM) (st:aq) (os:OS) (n:Nat) (b:Int):vs=[.ref A.p,.int b]->aa K H A g st os n->aJ g st->b∈g.U->n<=600000->Res K H A g os (b9 g b st) (n+6) (Q .aO)->wZ K vs H Q E
example:(fS F3 uF zV Bu Bt F5 Bv rZ):=by
 obtain ⟨A,g,st,os,n,b,rfl,R,ok,bU,hn,q⟩:=h;refine⟨_,(Ze (aE (ZI (Zj uF hr.m T.dQ (ak (Zl (K:=K) rfl) (Zk (K:=K) rfl (pv 0) rfl) (yF T.vF rfl) (λ_ _=>rfl)) (pc (pv 1) Zb))) (Ze (Zr (Zj zV hr.m T.aL (pv 0) (pc (yF T.vF rfl) Zb)))
   (Ze (Zr (Zj Bu hr.m T.aL (pv 0) (pc (yF T.vF rfl) (pc (pv 1) Zb))))
   (Zg S8))) Zt)
   (Ze (Zr (Zj zV hr.m T.aL (pv 0) (pc (Zk (K:=K) rfl (pv 0) rfl) Zb)))
   (Ze (cX 2 nd (Zj Bt hr.m T.aL (pv 0) (pc (yF T.vF rfl) (pc (pv 1) Zb))))
   (Ze (aE (KN (N2 (pv 2))) (Zg (Zr (Zj F5 hr.m T.aL (pv 0) (pc (pv 2) Zb)))) Zt)
   (Zg (Zr (Zj Bv hr.m T.aL (pv 0) (pc (yF T.vF rfl) (pc (pv 1) (pc (Zj rZ hr.m T.aL (pv 0) (pc (Zk (K:=K) rfl (pv 0) rfl) (pc (pv 1) Zb))) Zb)))))))))),?_⟩
 obtain⟨dx,h1⟩:=R.ob;have ln:=R.ln;have lS:=R.lS;have g3:=ok.n3;obtain⟨b0,b1⟩:=R.wf.ub b bU;obtain⟨a,e1,e2,e3,B⟩:=R.at_ (k:=2) (by lia);obtain⟨u1,u2,u3,u4,u5,u6⟩:=R.oB (k:=2) (by lia);obtain⟨ds,h3⟩:=B.aT.ob;unfold b9 at q;refine hide λw1 x1=>?_;refine⟨_,rfl,A.p,_,dx,_,_,rfl,h1,T.aL,T.qI,ZA ..,A.ss,_,_,_,rfl,rfl,ao.of R.ss,aa.ix e1,a.sp,ds,_,rfl,h3,bW ..,_,rfl,a,_,_,_,b,rfl,B,_,rfl,?_⟩;by_cases m:b∈(st.at_ 2).seq
 .rw [auJ m]at q;refine cB (a5h m) ⟨_,rfl,A.p,dx,_,rfl,h1,az ..,A,g,st,os,n,2,rfl,R,by lia,by lia,λH1 eS R1 p1=>?_⟩;obtain⟨fK,g1⟩:=R1.ob;exact⟨_,rfl,A.p,fK,_,rfl,g1,az ..,_,rfl,A,g,_,eS,_,2,b,rfl,R1,by lia,m,λH2 fP R2 p2=>q _ _ (R2.le (by lia)) (p1.trans p2)⟩
 .rw [ale m]at q;refine bK (aKy m) ?_;subst x1;try dsimp only
  dsimp only[dw];refine⟨_,rfl,A.p,dx,_,rfl,h1,az ..,_,rfl,A.p,_,dx,_,_,rfl,h1,T.aL,T.zU,Cc ..,A,g,st,os,n,g.n,by rw[ln];rfl,R,aI1 _,by lia,λH1 eS R1 p1=>?_⟩;obtain⟨fK,g1⟩:=R1.ob;have PD:=ok.sq (EO (e:=eF g.n));have HR:∀t,((Zp (g.cf 2).sh t ((st.tell (eF g.n)).at_ 2).seq).length:Int)<=(g.cf 2).pl:=u3;have m1:b∉((st.tell (eF g.n)).at_ 2).seq:=m;generalize st.tell (eF g.n)=st1 at *;try dsimp only
  refine hide λw1 x1=>?_;refine⟨_,rfl,A.p,fK,_,rfl,g1,az ..,_,rfl,A,g,st1,eS,_,2,b,rfl,R1,by lia,λH2 s2 gp=>gN ?_⟩;subst x1;try dsimp only
  have R2:=R1.same s2;have rf:=ZfZ PD HR gp;obtain⟨WE,CA⟩:=PD.roomF (b:=b);refine Dv (λσ G=>σ=[some (.ref A.p),some (.int b),some (vq (cT (g.cf 2) (st1.at_ 2) b))]/\∃fP,aa K G A g (roomF g b st1) fP (n+1+4)/\bM (OW A eS) H2 G (OW A fP)) (λD' _ k'=>?_) ?_
  .obtain ⟨pR,g2⟩:=R2.ob;cases eg:cT (g.cf 2) (st1.at_ 2) b with
   |none=>
    have el:roomF g b st1=st1:=by unfold roomF;rw[eg]
    rw[eg,el]at k';exact⟨_,rfl,_,rfl,bK rfl (k' _ _ ⟨rfl,eS,R2.le (by lia),bM.same (av.refl _)⟩)⟩
   |some go=>
    have el:roomF g b st1=pU g go st1:=by unfold roomF;rw[eg]
    rw[eg,el]at k';exact⟨_,rfl,_,rfl,cB rfl ⟨_,rfl,A.p,pR,_,rfl,g2,az ..,_,rfl,A,g,st1,eS,_,go,rfl,R2,g3,(BZ eg).1,by lia,λH3 iT R3 p3=>k' _ _ ⟨rfl,iT,R3,p3⟩⟩⟩
  rintro _ G ⟨rfl,iT,R3,p3⟩;obtain⟨uQ,yu⟩:=R3.ob;refine⟨_,rfl,A.p,uQ,_,rfl,yu,az ..,_,rfl,_,rfl,A.p,uQ,_,rfl,yu,az ..,_,rfl,A.p,_,uQ,_,_,rfl,yu,T.aL,T.zU,Cc ..,_,rfl,A,g,_,iT,_,g.n,b,by rw[ln];rfl,R3,aI1 _,λh=>absurd h (agV _),b0,b1,λlw H4 pP s4 ew=>?_⟩;have R4:=R3.same s4;have Nl:BW g (roomF g b st1) g.n b=aG g.size (roomF g b st1).mem b:=auJ rfl;rw[Nl]at ew;exact⟨A,g,_,iT,_,2,b,lw,_,rfl,R4,by lia,λz=>m1 (CA 2 b z),bU,rf,ew,R3.fresh pP,by unfold aG;rw[apM,aHo],by lia,λH5 PB R5 p5=>q _ _ (R5.le (by lia)) (((p1.trans (bM.same s2)).trans p3).trans ((bM.same s4).trans p5))⟩
inductive w6(K:W.Frag)(vs:List V)(H:Hp)(Q:VK)(E:XK):Prop
 |mk (A:TA) (g:aM) (st:aq) (os:OS) (n h:Nat) (b:Int):vs=[.ref A.p,.int (h:Int),.int b]->aa K H A g st os n->aJ g st->h<2->b∈g.U->n<=500000->Res K H A g os (bP g h b st) (n+12) (Q .aO)->w6 K vs H Q E
example:(fB By uF zV Bu F3 F6 Bt BA Bv rZ):=by
 obtain ⟨A,g,st,os,n,h,b,rfl,R,ok,hh,bU,hn,q⟩:=h;refine⟨_,(Ze (aE (ZI (Zj uF hr.m T.dQ (ak (Zl (K:=K) rfl) (Zk (K:=K) rfl (pv 0) rfl) (pv 1) (λ_ _=>rfl)) (pc (pv 2) Zb))) (Ze (Zr (Zj zV hr.m T.aL (pv 0) (pc (pv 1) Zb)))
   (Ze (Zr (Zj Bu hr.m T.aL (pv 0) (pc (pv 1) (pc (pv 2) Zb))))
   (Zg S8))) Zt)
   (Ze (Zr (Zj F3 hr.m T.aL (pv 0) (pc (pv 2) Zb)))
   (Ze (Zr (Zj F6 hr.m T.aL (pv 0) (pc (aj BX Zi (pv 1)) (pc (pv 2) Zb))))
   (Ze (cX 3 nd (Zj Bt hr.m T.aL (pv 0) (pc (pv 1) (pc (pv 2) Zb))))
   (Ze (aE (KN (N2 (pv 3))) (Zg (Zr (Zj BA hr.m T.aL (pv 0) (pc (pv 1) (pc (pv 3) Zb))))) Zt)
   (Zg (Zr (Zj Bv hr.m T.aL (pv 0) (pc (pv 1) (pc (pv 2) (pc (Zj rZ hr.m T.aL (pv 0) (pc (yF T.vF rfl) (pc (pv 2) Zb))) Zb))))))))))),?_⟩
 obtain⟨dx,h1⟩:=R.ob;have ln:=R.ln;have g3:=ok.n3;obtain⟨b0,b1⟩:=R.wf.ub b bU;obtain⟨a,e1,e2,e3,B⟩:=R.at_ (k:=h) (by lia);obtain⟨ds,h3⟩:=B.aT.ob;unfold bP at q;refine hide λw1 x1=>?_;refine⟨_,rfl,A.p,_,dx,_,_,rfl,h1,T.aL,T.qI,ZA ..,_,rfl,A.ss,_,_,_,rfl,rfl,ao.of R.ss,aa.ix e1,a.sp,ds,_,rfl,h3,bW ..,_,rfl,a,_,_,_,b,rfl,B,_,rfl,?_⟩;by_cases m:b∈(st.at_ h).seq
 .rw [auJ m]at q;refine cB (a5h m) ⟨_,rfl,A.p,dx,_,rfl,h1,az ..,_,rfl,A,g,st,os,n,h,rfl,R,by lia,by lia,λH1 eS R1 p1=>?_⟩;obtain⟨fK,g1⟩:=R1.ob;exact⟨_,rfl,A.p,fK,_,rfl,g1,az ..,_,rfl,_,rfl,A,g,_,eS,_,h,b,rfl,R1,by lia,m,λH2 fP R2 p2=>q _ _ (R2.le (by lia)) (p1.trans p2)⟩
 .rw [ale m]at q;refine bK (aKy m) ?_;subst x1;try dsimp only
  dsimp only[dw];refine⟨_,rfl,A.p,dx,_,rfl,h1,az ..,_,rfl,A,g,st,os,n,b,rfl,R,ok,bU,by lia,λH1 eS R1 p1=>?_⟩;obtain⟨fK,g1⟩:=R1.ob;obtain⟨f1,f2,f3⟩:=ok.b9 (b:=b);have m1:b∉((b9 g b st).at_ h).seq:=λz=>m (f3 h hh b z);generalize b9 g b st=st1 at *;have eh:(1-(h:Int))=((1-h:Nat):Int):=by lia
  try dsimp only
  refine hide λw1 x1=>?_;refine⟨_,rfl,A.p,fK,_,rfl,g1,az ..,_,rfl,_,_,rfl,rfl,_,rfl,A,g,st1,eS,_,1-h,b,by rw[<-eh];rfl,R1,g3,by lia,f2,by lia,λH2 fP R2 p2=>?_⟩;subst x1;try dsimp only
  have s:=KS (g:=g) (h:=1-h) f2;have Gm:=f1.sq s;have Yv:b∈((bR g (1-h) b st1).at_ 2).seq:=by rw[s.sq];exact f2
  have m2:b∉((bR g (1-h) b st1).at_ h).seq:=by rw[s.sq];exact m1
  clear s f1 f2 f3 m1;generalize bR g (1-h) b st1=st2 at *;obtain⟨pR,g2⟩:=R2.ob;obtain⟨u1,u2,u3,u4,u5,u6⟩:=R2.oB (k:=h) (by lia);try dsimp only
  refine hide λw1 x1=>?_;refine⟨_,rfl,A.p,pR,_,rfl,g2,az ..,_,rfl,_,rfl,A,g,st2,fP,_,h,b,rfl,R2,by lia,λH3 s3 gp=>gN ?_⟩;subst x1;try dsimp only
  have R3:=R2.same s3;have rf:=Zga Gm hh u3 gp;obtain⟨WE,CA,LR⟩:=Gm.aI (b:=b) hh;refine Dv (λσ G=>σ=[some (.ref A.p),some (.int (h:Int)),some (.int b),some (vq (cT (g.cf h) (st2.at_ h) b))]/\∃iT,aa K G A g (aI g h b st2) iT (n+6+2+3)/\bM (OW A fP) H3 G (OW A iT)) (λD' _ k'=>?_) ?_
  .obtain ⟨uQ,yu⟩:=R3.ob;cases eg:cT (g.cf h) (st2.at_ h) b with
   |none=>
    have el:aI g h b st2=st2:=by unfold aI;rw[eg]
    rw[eg,el]at k';exact⟨_,rfl,_,rfl,bK rfl (k' _ _ ⟨rfl,fP,R3.le (by lia),bM.same (av.refl _)⟩)⟩
   |some go=>
    have el:aI g h b st2=aN g h go st2:=by unfold aI;rw[eg]
    rw[eg,el]at k';obtain⟨mg,_,_⟩:=BZ eg;exact⟨_,rfl,_,rfl,cB rfl ⟨_,rfl,A.p,uQ,_,rfl,yu,az ..,_,rfl,_,rfl,A,g,st2,fP,_,h,go,rfl,R3,g3,hh,mg,Gm.inc h go hh mg,by lia,λH4 sI R4 p4=>k' _ _ ⟨rfl,sI,R4,p4⟩⟩⟩
  rintro _ G ⟨rfl,iT,R4,p4⟩;obtain⟨AA,g4⟩:=R4.ob;have b2:b∈((aI g h b st2).at_ 2).seq:=by rw[LR 2 (by lia)];exact Yv
  refine⟨_,rfl,A.p,AA,_,rfl,g4,az ..,_,rfl,_,rfl,_,rfl,A.p,AA,_,rfl,g4,az ..,_,rfl,A,g,_,iT,_,2,b,rfl,R4,by lia,λ_=>b2,b0,b1,λlw H5 pP s5 ew=>?_⟩;have R5:=R4.same s5;have Nl:BW g (aI g h b st2) 2 b=((aI g h b st2).at_ 2).wd b:=ale (by lia);rw[Nl]at ew;exact⟨A,g,_,iT,_,h,b,lw,_,rfl,R5,by lia,λz=>m2 (CA b z),bU,rf,ew,R4.fresh pP,((R4.oB (k:=2) (by lia)).2.1 b b2).2,by lia,λH6 os6 R6 p6=>q _ _ (R6.le (by lia)) ((((p1.trans p2).trans (bM.same s3)).trans p4).trans ((bM.same s5).trans p6))⟩
structure rL(K:W.Frag)(H:Hp)(A:TA)(g:aM)(st:aq)(os:OS):Prop where
 at_:aa K H A g st os 0
 ok:aJ g st
theorem rL.frame{H H':Hp}{A:TA}{g:aM}{st:aq}{os:OS}(r:rL K H A g st os)(f:∀x o,H x=some o->(OW A os x\/¬Mt o)->H' x=some o):rL K H' A g st os:=⟨r.at_.frame f,r.ok⟩
theorem rL.same{H H':Hp}{A:TA}{g:aM}{st:aq}{os:OS}(r:rL K H A g st os)(s:av H H'):rL K H' A g st os:=⟨r.at_.same s,r.ok⟩
inductive ua(K:W.Frag)(vs:List V)(H:Hp)(Q:VK)(_v3:XK):Prop
 |mk (A:TA) (g:aM) (st:aq) (os:OS) (h:Nat) (sp:Int):vs=[.ref A.p,.int (h:Int),.int sp]->rL K H A g st os->h<2->sp/g.size∈g.U->(∀H' e' os' tp,H' tp=some (.tup [.int (kE g ((bP g h (sp/g.size) st).at_ h) sp),.ref A.ev])->rL K H' (A.re e') g (jd (bP g h (sp/g.size) st)) os'->wF g.n H' A.ev (bP g h (sp/g.size) st).ev->(bP g h (sp/g.size) st).ev.length<=100->¬OW (A.re e') os' A.ev->bM (OW A os) H H' (OW (A.re e') os')->Q (.ref tp) H')->ua K vs H Q _v3
example:(lG E1 uE By E8 xK):=by
 obtain ⟨A,g,st,os,h,sp,rfl,⟨R,ok⟩,hh,bU,q⟩:=h;refine⟨_,(Ze (Zr (Zj By hr.m T.aL (pv 0) (pc (pv 1) (pc (Zm uE hr.m rfl (pc (Zk (K:=K) rfl (pv 0) rfl) (pc (pv 2) Zb))) Zb))))
   (Zg (Zs (ZN (pc (Zj E8 hr.m T.aL (pv 0) (pc (pv 1) (pc (pv 2) Zb))) (pc (AE xK hr.m T.aL (pv 0)) Zb)))))),?_⟩
 obtain⟨dx,h1⟩:=R.ob;have z0:=R.wf.z0;have z1:=R.wf.z1;have g3:=ok.n3;obtain⟨o1,m1⟩:=ok.bP (b:=sp/g.size) hh;refine⟨_,rfl,A.p,dx,_,rfl,h1,az ..,_,rfl,_,rfl,A.p,_,dx,_,_,rfl,h1,T.aL,T.Cu,EI ..,_,rfl,g.size,sp,rfl,by lia,by lia,A,g,st,os,0,h,_,rfl,R,ok,hh,bU,by decide,λH1 eS R1 p1=>?_⟩;obtain⟨fK,h2⟩:=R1.ob;refine⟨_,rfl,A.p,fK,_,rfl,h2,az ..,_,rfl,_,rfl,A,g,_,eS,_,h,sp,rfl,R1,by lia,m1,λH2 s2=>?_⟩;have R2:=R1.same s2;refine⟨_,rfl,A.p,fK,_,rfl,s2 _ _ h2,az ..,A,g,_,eS,_,rfl,R2,λe' H3 R3 HX ne3 p3=>⟨(sL 2),λtp htp=>?_⟩⟩;have s4:=Zd htp (.tup [.int (kE g ((bP g h (sp/g.size) st).at_ h) sp),.ref A.ev]);exact q _ e' eS tp Za ⟨R3.same s4,o1.jd⟩ (HX.frame (λo e=>s4 _ _ e) λx ys e=>s4 _ _ e) (atR R1.zc (by decide)) ne3 (((p1.trans (bM.same s2)).trans p3).trans (bM.same s4))
theorem aJ.V6{g:aM}{st:aq}{h:Nat}{sp x:Int}(ok:aJ g st)(hh:h<2):aJ g (mJ g h sp x st):=by
 obtain⟨o1,m1⟩:=ok.bP (b:=sp/g.size) hh;obtain⟨o2,m2⟩:=o1.bJ (b:=sp/g.size) hh;have s:=ED (st:=bL.bJ h (sp/g.size) (bL.bP g h (sp/g.size) st)) (k:=h) (s:=k8 g ((bL.bJ h (sp/g.size) (bL.bP g h (sp/g.size) st)).at_ h) sp x) rfl λ_ z=>.inl z;exact(o2.sq s).mark hh (by rw[s.sq,m2];exact m1)
inductive qg(K:W.Frag)(vs:List V)(H:Hp)(Q:VK)(_v3:XK):Prop
 |mk (A:TA) (g:aM) (st:aq) (os:OS) (h:Nat) (sp x:Int):vs=[.ref A.p,.int (h:Int),.int sp,.int x]->rL K H A g st os->h<2->sp/g.size∈g.U->(∀H' e' os',rL K H' (A.re e') g (jd (mJ g h sp x st)) os'->wF g.n H' A.ev (mJ g h sp x st).ev->(mJ g h sp x st).ev.length<=100->¬OW (A.re e') os' A.ev->bM (OW A os) H H' (OW (A.re e') os')->Q (.ref A.ev) H')->qg K vs H Q _v3
example:(j0 E5 uE By uF sF Fb Bw uH xM xK):=by
 obtain ⟨A,g,st,os,h,sp,x,rfl,⟨R,ok⟩,hh,bU,q⟩:=h;refine⟨_,(Ze (cX 4 nd (Zm uE hr.m rfl (pc (Zk (K:=K) rfl (pv 0) rfl) (pc (pv 2) Zb))))
   (Ze (cX 5 nd (aj BX Zi (pv 1)))
   (Ze (Zr (Zj By hr.m T.aL (pv 0) (pc (pv 1) (pc (pv 4) Zb))))
   (Ze (aE (ZI (Zj uF hr.m T.dQ (ak (Zl (K:=K) rfl) (Zk (K:=K) rfl (pv 0) rfl) (pv 5) (λ_ _=>rfl)) (pc (pv 4) Zb))) (Zg (Zr (Zj sF hr.m T.aL (pv 0) (pc (pv 5) (pc (pv 4) Zb))))) Zt)
   (Ze (Zr (Zj Fb hr.m T.aL (pv 0) (pc (pv 1) (pc (pv 2) (pc (pv 3) Zb)))))
   (Ze (cX 6 nd (ak (Zl (K:=K) rfl) (Zk (K:=K) rfl (pv 0) rfl) (pv 1) (λ_ _=>rfl)))
   (Ze (aE (ZI (Zk (K:=K) rfl (pv 6) rfl)) (Zg (Zr (Zj Bw hr.m T.dQ (pv 6) (pc (pv 4) Zb)))) (Zg (Zr (Zj xM hr.m T.aL (pv 0) (pc (pv 4) (pc (Zj uH hr.m T.dQ (pv 6) (pc (pv 4) Zb)) Zb))))))
   (Zg (Zs (AE xK hr.m T.aL (pv 0))))))))))),?_⟩
 obtain⟨dx,h1⟩:=R.ob;have z0:=R.wf.z0;have z1:=R.wf.z1;have g3:=ok.n3;have ln:=R.ln;have L4:=ok.V6 (sp:=sp) (x:=x) hh;obtain⟨o1,m1⟩:=ok.bP (b:=sp/g.size) hh;have eh:(1-(h:Int))=((1-h:Nat):Int):=by lia
 refine⟨_,rfl,A.p,_,dx,_,_,rfl,h1,T.aL,T.Cu,EI ..,_,rfl,g.size,sp,rfl,by lia,by lia,gN ?_⟩;try dsimp only
 refine⟨_,rfl,_,_,rfl,rfl,gN ?_⟩;try dsimp only
 rw[eh];refine hide λu1 e1=>?_;refine⟨_,rfl,A.p,dx,_,rfl,h1,az ..,_,rfl,_,rfl,A,g,st,os,0,h,_,rfl,R,ok,hh,bU,by decide,λH1 eS R1 p1=>?_⟩;subst e1;try dsimp only
 unfold mJ at q L4;generalize bP g h (sp/g.size) st=st1 at *;obtain⟨fK,g1⟩:=R1.ob;obtain⟨a,e1,e2,e3,B⟩:=R1.at_ (k:=1-h) (by lia);obtain⟨ds,h3⟩:=B.aT.ob;obtain⟨o2,m2⟩:=o1.bJ (b:=sp/g.size) hh;refine Dv (λσ G=>σ=[some (.ref A.p),some (.int (h:Int)),some (.int sp),some (.int x),some (.int (sp/g.size)),some (.int ((1-h:Nat):Int)),none]/\∃fP,aa K G A g (bJ h (sp/g.size) st1) fP 13/\bM (OW A eS) H1 G (OW A fP)) (λD' _ k'=>?_) ?_
 .refine ⟨_,rfl,A.p,_,fK,_,_,rfl,g1,T.aL,T.qI,ZA ..,_,rfl,A.ss,_,_,_,rfl,rfl,ao.of R1.ss,aa.ix e1,a.sp,ds,_,rfl,h3,bW ..,_,rfl,a,_,_,_,_,rfl,B,_,rfl,?_⟩;unfold bJ at k';by_cases m:sp/g.size∈(st1.at_ (1-h)).seq
  .rw [auJ m]at k';exact cB (a5h m) ⟨_,rfl,A.p,fK,_,rfl,g1,az ..,_,rfl,_,rfl,A,g,_,eS,_,1-h,_,rfl,R1,by lia,m,by decide,λH2 fP t l et el nl R2 p2=>k' _ _ ⟨rfl,fP,R2,p2⟩⟩
  .rw [ale m]at k';exact bK (aKy m) (k' _ _ ⟨rfl,eS,R1.le (by decide),bM.same (av.refl _)⟩)
 rintro _ G ⟨rfl,fP,R2,p2⟩;have mh:sp/g.size∈((bJ h (sp/g.size) st1).at_ h).seq:=by rw[m2];exact m1
 generalize bJ h (sp/g.size) st1=st2 at *;obtain⟨pR,g2⟩:=R2.ob;refine⟨_,rfl,A.p,pR,_,rfl,g2,az ..,_,rfl,_,rfl,_,rfl,A,g,st2,fP,_,h,sp,x,rfl,R2,by lia,mh,λH3 iT R3 p3=>?_⟩;have LL:∀j,((st2.set h (k8 g (st2.at_ h) sp x)).at_ j).seq=(st2.at_ j).seq:=λj=>NJ rfl;have BG:aJ g (st2.set h (k8 g (st2.at_ h) sp x)):=o2.sq (ED (s:=k8 g (st2.at_ h) sp x) rfl λ_ z=>.inl z);have J8:sp/g.size∈((st2.set h (k8 g (st2.at_ h) sp x)).at_ h).seq:=by rw[LL];exact mh
 have WD:=(p1.trans p2).trans p3;dsimp only at q L4;generalize st2.set h (k8 g (st2.at_ h) sp x)=st3 at *;obtain⟨uQ,g4⟩:=R3.ob;obtain⟨a,e1,e2,e3,B⟩:=R3.at_ (k:=h) (by lia);obtain⟨u1,u2,u3,u4,u5,u6⟩:=R3.oB (k:=h) (by lia);obtain⟨ds,h3⟩:=B.aT.ob;refine⟨_,rfl,A.p,_,uQ,_,_,rfl,g4,T.aL,T.qI,ZA ..,_,rfl,A.ss,_,_,_,rfl,rfl,ao.of R3.ss,aa.ix e1,gN ?_⟩;try dsimp only
 refine Dv (λσ G=>σ=[some (.ref A.p),some (.int (h:Int)),some (.int sp),some (.int x),some (.int (sp/g.size)),some (.int ((1-h:Nat):Int)),some (.ref a.sp)]/\∃sI,aa K G A g (markB g h (sp/g.size) st3) sI 20/\bM (OW A iT) H3 G (OW A sI)) (λD' _ k'=>?_) ?_
 .refine ⟨_,rfl,a.sp,_,ds,_,_,rfl,h3,T.dQ,T.MC,Sn ..,_,rfl,?_⟩;unfold markB at k';by_cases c:(g.cf h).late=true
  .rw [auJ c]at k';refine cB c ⟨_,rfl,a.sp,ds,_,rfl,h3,bW ..,_,rfl,a,_,_,_,_,rfl,B,J8,u1,λG3 B3 p3=>?_⟩;obtain⟨R4,p4⟩:=R3.iH e1 e2 B3 p3 u2 u3;exact k' _ _ ⟨rfl,_,R4.le (by decide),p4⟩
  .rw [ale c]at k';refine bK (by simpa using c) ⟨_,rfl,A.p,uQ,_,rfl,g4,az ..,_,rfl,_,rfl,a.sp,ds,_,rfl,h3,bW ..,_,rfl,a,_,_,_,_,rfl,B,J8,λl hl=>?_⟩;have sm:=Zd hl (.lst (((st3.at_ h).wd (sp/g.size)).map V.int));exact⟨A,g,st3,iT,_,_,l,_,rfl,R3.same sm,g3,BG.inc h _ hh J8,Za,R3.fresh hl,(u2 _ J8).2,by decide,λG2 sI R4 p4=>k' _ _ ⟨rfl,sI,R4.le (by decide),(bM.same sm).trans p4⟩⟩
 rintro _ G ⟨rfl,sI,R4,p4⟩;obtain⟨AA,g5⟩:=R4.ob;exact⟨_,rfl,A.p,AA,_,rfl,g5,az ..,A,g,_,sI,_,rfl,R4,λe' H5 R5 Yx ne5 p5=>q _ e' sI ⟨R5,L4.jd⟩ Yx (atR R4.zc (by decide)) ne5 ((WD.trans p4).trans p5)⟩
inductive Bj(K:W.Frag)(vs:List V)(H:Hp)(Q:VK)(E:XK):Prop
 |mk (p:Addr) (sh pl:Int) (ru:Str) (ls:Addr) (au:List Addr) (du:Addr) (seq:List Int) (us:Int->Int) (n:Nat):vs=[.ref p]->aB K H p sh pl ru ls au du seq us n->seq.length<64->(∀(D:Addr)(os:List Int),H D=none->os.Perm seq->os.Pairwise (·<=·)->Q (.ref D) (upd H D (.lst (os.map V.int))))->Bj K vs H Q E
example:(lE E2):=by
 obtain⟨p,sh,pl,ru,ls,au,du,seq,us,n,rfl,R,h64,k⟩:=h;refine⟨_,(Zg (Zs (Zo (UK rfl) rfl T.A4 alo (pc (Zk (K:=K) rfl (pv 0) rfl) Zb)))),?_⟩;obtain⟨dx,h1⟩:=R.ob;obtain⟨kvs,h2,⟨h3,ks,h4,h5⟩,h6⟩:=R.dc;have per:ks.Perm seq:=by
  refine(aZQ h5 R.nd).mpr λb=>?_;have q:=AG (kvs:=kvs) (Sum.inl b);rw[h6 b,h4]at q;constructor
  .intro m;have:=q.mpr (aOS m);by_cases c:b∈seq
   .exact c
   .rw [ale c]at this;cases this
  .intro m;rw[auJ m]at q;obtain⟨x,hx,e⟩:=atX.mp (q.mp rfl);rw[<-aLX e];exact hx
 exact⟨_,rfl,p,_,dx,_,_,rfl,h1,T.fH,T.Ct,EJ ..,du,kvs,ks,rfl,h2,h4,by rw[per.length_eq];exact h64,λD os hD po pw=>k D os hD (po.trans per) pw⟩
inductive wX(K:W.Frag)(vs:List V)(H:Hp)(Q:VK)(E:XK):Prop
 |mk (A:TA) (g:aM) (st:aq) (os:OS) (n k:Nat):vs=[.ref A.p,.int (k:Int)]->aa K H A g st os n->k<g.n->(st.at_ k).seq.length<64->(∀(D:Addr)(bs:List Int),H D=none->bs.Perm (st.at_ k).seq->bs.Pairwise (·<=·)->Q (.ref D) (upd H D (.lst (bs.map V.int))))->wX K vs H Q E
example:(mU zW xJ E2):=by
 obtain⟨A,g,st,os,n,k,rfl,R,hk,h64,q⟩:=h;refine⟨_,(Zg (Zs (AE E2 hr.m T.fH (Zk (K:=K) rfl (Zj xJ hr.m T.aL (pv 0) (pc (pv 1) Zb)) rfl)))),?_⟩;obtain⟨dx,h1⟩:=R.ob;have ln:=R.ln;obtain⟨a,e1,e2,e3,B⟩:=R.at_ (k:=k) (by lia);obtain⟨ds,h3⟩:=B.aT.ob;obtain⟨dr,h4⟩:=B.aT.room.ob;exact⟨_,rfl,A.p,dx,_,rfl,h1,az ..,_,rfl,A,g,st,os,n,k,a,rfl,R,e1,a.sp,_,ds,_,_,rfl,h3,T.dQ,T.BB,DE ..,a.rp,dr,_,rfl,h4,bS ..,a.rp,(g.cf k).sh,(g.cf k).pl,(g.cf k).ru,a.ls,a.au,a.du,(st.at_ k).seq,(st.at_ k).us,_,rfl,B.aT.room,h64,q⟩
def jK(l:List Int):List Int:=l.mergeSort λa b=>decide (a<=b)
theorem RB{bs l:List Int}(p:bs.Perm l)(w:bs.Pairwise (·<=·)):bs=jK l:=by
 have w':(jK l).Pairwise (·<=·):=(List.pairwise_mergeSort (le:=λa b:Int=>decide (a<=b)) (λa b c h1 h2=>a5h (aOU (of_decide_eq_true h1) (of_decide_eq_true h2))) (λa b=>by rcases Int.le_total a b with h|h <;> simp[h]) l).imp λh=>of_decide_eq_true h;exact List.Perm.eq_of_pairwise (λa b _ _ h1 h2=>Int.le_antisymm h1 h2) w w' (p.trans (List.mergeSort_perm _ _).symm)
theorem cD{l:List Int}:(jK l).Perm l:=List.mergeSort_perm _ _
def fT(g:aM)(o:Int)(st:aq):aq:=if(st.at_ 2).fr o=true then bA g g.n o ((st.at_ 2).wd o) (cC 2 o st) else cC 2 o st
def jc(g:aM)(h:Nat):List Int->aq->aq
 | [],st=>st
 |b ::bs,st=>jc g h bs (aN g h b st)
def jb(g:aM):List Int->aq->aq
 | [],st=>st
 |b ::bs,st=>jb g bs (fT g b st)
def bf(g:aM)(st:aq):Nat->aq
 |0=>st
 |h+1=>jc g h (jK ((bf g st h).at_ h).seq) (bf g st h)
def cN(g:aM)(st:aq):aq:=jb g (jK ((bf g st 2).at_ 2).seq) (bf g st 2)
section
variable{g:aM}{st:aq}{h j:Nat}{b o:Int}
theorem aJ.aN(w:aJ g st)(hh:h<2)(ho:o∈(st.at_ h).seq):aJ g (aN g h o st)/\∀j,((bL.aN g h o st).at_ j).seq=if j=h then(st.at_ j).seq.erase o else(st.at_ j).seq:=by
 have s:=Om (g:=g) w hh (w.inc h o hh ho);exact⟨(w.go hh).sq s,λj=>by rw[s.sq];exact bC (by rw[w.len];lia)⟩
theorem aJ.jc(hh:h<2):∀{bs:List Int}{st:aq},aJ g st->bs.Perm (st.at_ h).seq->aJ g (jc g h bs st)/\∀j,((bL.jc g h bs st).at_ j).seq=if j=h then[] else(st.at_ j).seq
 | [],st,w,p=>⟨w,λj=>by
  split
  .rename_i e;rw[e];exact p.symm.eq_nil
  .rfl⟩
 |b ::bs,st,w,p=>by
  have hb:b∈(st.at_ h).seq:=p.mem_iff.mp bcs;obtain⟨w1,s1⟩:=w.aN hh hb;have q:bs.Perm ((bL.aN g h b st).at_ h).seq:=by
   rw[s1,auJ rfl];have:=p.erase b;rwa [aiO]at this
  obtain⟨w2,s2⟩:=aJ.jc hh (bs:=bs) w1 q;refine⟨w2,λj=>(s2 j).trans ?_⟩;rw[s1];by_cases c:j=h
  .rw [auJ c,auJ c]
  .rw [ale c,ale c,ale c]
theorem aJ.bf(w:aJ g st):∀{k:Nat},k<=2->aJ g (bf g st k)/\∀j,((bL.bf g st k).at_ j).seq=if j<k then[] else(st.at_ j).seq
 |0,_=>⟨w,λj=>by rw[ale (Nat.not_lt_zero _)];rfl⟩
 |k+1,hk=>by
  obtain⟨w1,s1⟩:=w.bf (k:=k) (by lia);obtain⟨w2,s2⟩:=w1.jc (h:=k) (by lia) cD;refine⟨w2,λj=>(s2 j).trans ?_⟩;by_cases c:j=k
  .rw [auJ c,auJ (by lia)]
  .rw [ale c,s1];by_cases c2:j<k
   .rw [auJ c2,auJ (by lia)]
   .rw [ale c2,ale (by lia)]
theorem KR(w:aJ g st)(n0:∀h,h<2->(st.at_ h).seq=[]):aJ g (fT g o st)/\∀j,((fT g o st).at_ j).seq=if j=2 then(st.at_ j).seq.erase o else(st.at_ j).seq:=by
 have hl:2<st.rm.length:=by rw[w.len];lia
 have s:Sq (cC 2 o st) (fT g o st):=by
  unfold fT;split
  .exact bN
  .exact Sq.refl
 have k:aJ g (cC 2 o st):=by
  refine⟨w.n3,cY.trans w.len,λk=>?_,λh y hh hy=>?_,λk y hy=>?_⟩
  .rw [bC hl];split
   .exact (w.nd k).erase _
   .exact w.nd k
  .rw [bC hl,ale (by lia),n0 h hh]at hy;cases hy
  .obtain ⟨h1,h2⟩:=oq hl hy;rw[bC hl];split
   .rename_i e;exact(mem_erase_of_ne (h2 e)).mpr (w.ff k y h1)
   .exact w.ff k y h1
 exact⟨k.sq s,λj=>by rw[s.sq];exact bC hl⟩
theorem SS:∀{bs:List Int}{st:aq},aJ g st->(∀h,h<2->(st.at_ h).seq=[])->bs.Perm (st.at_ 2).seq->aJ g (jb g bs st)/\∀j,((jb g bs st).at_ j).seq=if j<3 then[] else(st.at_ j).seq
 | [],st,w,n0,p=>⟨w,λj=>by
  split
  .by_cases c:j=2
   .rw [c];exact p.symm.eq_nil
   .exact n0 j (by lia)
  .rfl⟩
 |b ::bs,st,w,n0,p=>by
  obtain⟨w1,s1⟩:=KR (o:=b) w n0;have q:bs.Perm ((fT g b st).at_ 2).seq:=by
   rw[s1,auJ rfl];have:=p.erase b;rwa [aiO]at this
  obtain⟨w2,s2⟩:=SS (bs:=bs) w1 (λh hh=>by rw[s1,ale (by lia)];exact n0 h hh) q;refine⟨w2,λj=>(s2 j).trans ?_⟩;by_cases c:j<3
  .rw [auJ c,auJ c]
  .rw [ale c,ale c,s1,ale (by lia)]
theorem N8(w:aJ g st):aJ g (cN g st)/\∀j,j<3->((cN g st).at_ j).seq=[]:=by
 obtain⟨w1,s1⟩:=w.bf (k:=2) (aI1 _);obtain⟨w2,s2⟩:=SS w1 (λh hh=>by rw[s1,auJ hh]) cD;exact⟨w2,λj hj=>by show((jb g _ _).at_ j).seq=[];rw[s2,auJ hj]⟩
end
theorem aa.few{H:Hp}{A:TA}{g:aM}{st:aq}{os:OS}{n:Nat}(T:aa K H A g st os n){k:Nat}(hk:k<g.n)(hU:g.U.length<64):(st.at_ k).seq.length<64:=by
 have ln:=T.ln;obtain⟨a,e1,e2,e3,B⟩:=T.at_ (k:=k) (by lia);have nd:(st.at_ k).seq.Nodup:=B.aT.room.nd;exact ayQ (Dz nd λx hx=>T.wH _ (aHL e3) x hx) hU
inductive w9(K:W.Frag)(vs:List V)(H:Hp)(Q:VK)(_v3:XK):Prop
 |mk (A:TA) (g:aM) (st:aq) (os:OS):vs=[.ref A.p]->rL K H A g st os->g.U.length<64->(∀H' e' os',rL K H' (A.re e') g (jd (cN g st)) os'->wF g.n H' A.ev (cN g st).ev->(cN g st).ev.length<=2000->¬OW (A.re e') os' A.ev->bM (OW A os) H H' (OW (A.re e') os')->Q (.ref A.ev) H')->w9 K vs H Q _v3
example:(iE Eo zW BA sF vY xK):=by
 obtain ⟨A,g,st,os,rfl,⟨R,ok⟩,hU,q⟩:=h;refine⟨_,(Ze (yG aAH rfl (K1 (K:=K) rfl (Tt (K:=K) rfl T.Kh rfl)) (bE 1 nd) (Zg (yG aAH rfl (zh (K:=K) rfl (Zj zW hr.m T.aL (pv 0) (pc (pv 1) Zb))) (bE 2 nd) (Zg (Zr (Zj BA hr.m T.aL (pv 0) (pc (pv 1) (pc (pv 2) Zb))))))))
   (Ze (yG aAH rfl (zh (K:=K) rfl (Zj zW hr.m T.aL (pv 0) (pc (yF T.vF rfl) Zb))) (bE 2 nd) (Ze (rJ (Zj sF hr.m T.aL (pv 0) (pc (yF T.vF rfl) (pc (pv 2) Zb))) (ZD (K:=K) (n:=2) rfl rfl (Zn (bE 3 nd) (Zn (bE 4 nd) ZC))))
   (Zg (aE (ZI (pv 4)) (Zg (Zr (Zj vY hr.m T.aL (pv 0) (pc (Zk (K:=K) rfl (pv 0) rfl) (pc (pv 2) (pc (pv 3) Zb)))))) Zt))))
   (Zg (Zs (AE xK hr.m T.aL (pv 0)))))),?_⟩
 have ln:=R.ln;have g3:=ok.n3;refine hide λu1 e1=>?_;refine λhd Dr=>⟨hd,rfl,⟨_,Dr _⟩,S7 (K:=K) (a:=hd) (xs:=([0,1]:List Int).map V.int) (λi σ G=>∃(v1 v2 v3 v4:Option V)(os':OS),σ=[some (.ref A.p),v1,v2,v3,v4]/\aa K G A g (bf g st i) os' (300*i)/\bM (OW A os) H G (OW A os')) ⟨_,_,_,_,os,rfl,R,bM.same (av.refl _)⟩ (λi σ G _ _=>Dr _) ?_ ?_⟩
 .rintro i x σ G hi ⟨v1,v2,v3,v4,eS,rfl,R1,p1⟩;have hi2:i<2:=(ajE.mp hi).1;have hx:x=.int (i:Int):=by
   have h:i=0\/i=1:=by lia
   rcases h with rfl|rfl
   .exact (asK hi).symm
   .exact (asK hi).symm
  subst hx;obtain⟨WG,_⟩:=ok.bf (k:=i) (by lia);refine gN ?_;try dsimp only
  obtain⟨fK,g1⟩:=R1.ob;refine⟨_,rfl,A.p,fK,_,rfl,g1,az ..,_,rfl,A,g,bf g st i,eS,_,i,rfl,R1,by lia,R1.few (by lia) hU,λD bs hD pb pw=>⟨D,rfl,⟨_,ao.of Za⟩,?_⟩⟩;have n64:bs.length<64:=by rw[pb.length_eq];exact R1.few (by lia) hU
  have eb:=RB pb pw;have s2:=Zd hD (.lst (bs.map V.int));have eD:=Za (H:=G) (a:=D) (o:=.lst (bs.map V.int));have R2:=R1.same s2;have p2:=p1.trans (bM.same s2);have nD:=R1.fresh hD;have eK:jc g i bs (bf g st i)=bf g st (i+1):=by show _=jc g i (jK _) _;rw[<-eb]
  generalize upd G D (.lst (bs.map V.int))=G2 at *;refine OH (K:=K) (a:=D) (xs:=bs.map V.int) (λj σ G'=>∃(v2 v3 v4:Option V)(os':OS)(s':aq),σ=[some (.ref A.p),some (.int (i:Int)),v2,v3,v4]/\aa K G' A g s' os' (300*i+3*j)/\aJ g s'/\jc g i (bs.drop j) s'=bf g st (i+1)/\(bs.drop j).Perm (s'.at_ i).seq/\bM (OW A os) H G' (OW A os')/\G' D=some (.lst (bs.map V.int))/\¬OW A os' D)
   ⟨_,_,_,eS,bf g st i,rfl,R2,WG,eK,pb,p2,eD,nD⟩ (λj σ G' _ h=>by obtain⟨_,_,_,_,_,_,_,_,_,_,_,e,_⟩:=h;exact ao.of e) ?_ ?_
  .rintro j x σ G3 hx ⟨v2,v3,v4,iT,s',rfl,R3,BG,e3,z4,p3,Nu,Mh⟩;obtain⟨b,Ia,rfl⟩:=IG hx;have hj:j<bs.length:=(ajE.mp Ia).1;have ed:bs.drop j=b ::bs.drop (j+1):=by
    rw[aCO hj];congr 1
    exact(ajE.mp Ia).2
   rw[ed]at e3 z4;have hb:b∈(s'.at_ i).seq:=z4.mem_iff.mp bcs;obtain⟨uQ,yu⟩:=R3.ob;obtain⟨CM,s4⟩:=BG.aN hi2 hb;refine gN ?_;try dsimp only
   refine⟨_,rfl,A.p,uQ,_,rfl,yu,az ..,_,rfl,_,rfl,A,g,s',iT,_,i,b,rfl,R3,g3,hi2,hb,BG.inc i b hi2 hb,by lia,λH4 sI R4 p4=>?_⟩;have Ds:=p4.out Nu Mh;have BE:(bs.drop (j+1)).Perm ((aN g i b s').at_ i).seq:=by
    rw[s4,auJ rfl];have:=z4.erase b;rwa [aiO]at this
   exact⟨_,_,_,sI,_,rfl,R4.le (by lia),CM,e3,BE,p3.trans p4,Ds.1,Ds.2⟩
  .rintro σ G3 ⟨v2,v3,v4,iT,s',rfl,R3,BG,e3,z4,p3,_⟩;rw[apM,List.drop_length]at e3;have e3:s'=bf g st (i+1):=e3;subst e3;rw[apM]at R3;exact⟨_,_,_,_,iT,rfl,R3.le (by lia),p3⟩
 rintro σ G ⟨v1,v2,v3,v4,eS,rfl,R1,p1⟩;subst e1;try dsimp only
 have R1:aa K G A g (bf g st 2) eS 600:=R1;obtain⟨Gm,Wk⟩:=ok.bf (k:=2) (aI1 _);have Xi:∀h,h<2->((bf g st 2).at_ h).seq=[]:=λh hh=>by rw[Wk,auJ hh]
 obtain⟨L5,_⟩:=N8 ok;unfold cN at q L5;generalize bf g st 2=st2 at *;obtain⟨fK,g1⟩:=R1.ob;refine hide λu1 e1=>?_;refine⟨_,rfl,A.p,fK,_,rfl,g1,az ..,A,g,st2,eS,_,2,rfl,R1,by lia,R1.few (by lia) hU,λD bs hD pb pw=>⟨D,rfl,⟨_,ao.of Za⟩,?_⟩⟩;have n64:bs.length<64:=by rw[pb.length_eq];exact R1.few (by lia) hU
 have eb:=RB pb pw;have s2:=Zd hD (.lst (bs.map V.int));have eD:=Za (H:=G) (a:=D) (o:=.lst (bs.map V.int));have R2:=R1.same s2;have p2:=p1.trans (bM.same s2);have nD:=R1.fresh hD;rw[<-eb]at q L5;generalize upd G D (.lst (bs.map V.int))=G2 at *;refine OH (K:=K) (a:=D) (xs:=bs.map V.int) (λj σ G'=>∃(v2 v3 v4:Option V)(os':OS)(s':aq),σ=[some (.ref A.p),v1,v2,v3,v4]/\aa K G' A g s' os' (600+2*j)/\aJ g s'/\(∀h,h<2->(s'.at_ h).seq=[])/\jb g (bs.drop j) s'=jb g bs st2/\(bs.drop j).Perm (s'.at_ 2).seq/\bM (OW A os) H G' (OW A os')/\G' D=some (.lst (bs.map V.int))/\¬OW A os' D)
  ⟨_,_,_,eS,st2,rfl,R2,Gm,Xi,rfl,pb,p2,eD,nD⟩ (λj σ G' _ h=>by obtain⟨_,_,_,_,_,_,_,_,_,_,_,_,e,_⟩:=h;exact ao.of e) ?_ ?_
 .rintro j x σ G3 hx ⟨v2,v3,v4,iT,s',rfl,R3,BG,Mj,e3,z4,p3,Nu,Mh⟩;obtain⟨b,Ia,rfl⟩:=IG hx;have hj:j<bs.length:=(ajE.mp Ia).1;have ed:bs.drop j=b ::bs.drop (j+1):=by
   rw[aCO hj];congr 1
   exact(ajE.mp Ia).2
  rw[ed]at e3 z4;have hb:b∈(s'.at_ 2).seq:=z4.mem_iff.mp bcs;have lS3:=R3.lS;obtain⟨_,u2,_,_,_,_⟩:=R3.oB (k:=2) (by lia);obtain⟨bU,bl⟩:=u2 b hb;obtain⟨uQ,yu⟩:=R3.ob;obtain⟨CM,s4⟩:=KR (o:=b) BG Mj;have BE:(bs.drop (j+1)).Perm ((fT g b s').at_ 2).seq:=by
   rw[s4,auJ rfl];have:=z4.erase b;rwa [aiO]at this
  have GA:∀h,h<2->((fT g b s').at_ h).seq=[]:=λh hh=>by rw[s4,ale (by lia)];exact Mj h hh
  have e4:jb g (bs.drop (j+1)) (fT g b s')=jb g bs st2:=e3;refine gN ?_;try dsimp only
  refine hide λw1 x1=>?_;refine⟨_,rfl,A.p,uQ,_,rfl,yu,az ..,_,rfl,A,g,s',iT,_,2,b,rfl,R3,by lia,hb,by lia,λH4 sI t l et el nl R4 p4=>⟨t,_,rfl,aP.of et,rfl,_,_,rfl,gN ⟨_,_,rfl,gN ⟨rfl,?_⟩⟩⟩⟩;subst x1;try dsimp only
  have Ds:=p4.out Nu Mh;have Py:=p3.trans p4;unfold fT at CM BE GA e4;cases fr:(s'.at_ 2).fr b with
  |true=>
   rw[auJ fr]at CM BE GA e4;obtain⟨AA,g4⟩:=R4.ob;refine⟨_,rfl,_,rfl,cB rfl ⟨_,rfl,A.p,AA,_,rfl,g4,az ..,_,rfl,A.p,_,AA,_,_,rfl,g4,T.aL,T.zU,Cc ..,_,rfl,_,rfl,A,g,_,sI,_,g.n,b,l,_,by rw[ln];rfl,R4,aI1 _,λh=>absurd h (agV _),bU,el,nl,bl,by lia,λG5 PB R5 p5=>?_⟩⟩;have Rj:=p5.out Ds.1 Ds.2;exact⟨_,_,_,PB,_,rfl,R5.le (by lia),CM,GA,e4,BE,Py.trans p5,Rj.1,Rj.2⟩
  |false=>
   rw[ale (by rw[fr];exact a0V)]at CM BE GA e4;exact⟨_,rfl,_,rfl,bK rfl ⟨_,_,_,sI,_,rfl,R4.le (by lia),CM,GA,e4,BE,Py,Ds.1,Ds.2⟩⟩
 .rintro σ G3 ⟨v2,v3,v4,iT,s',rfl,R3,BG,Mj,e3,z4,p3,_⟩;rw[apM,List.drop_length]at e3;have e3:s'=jb g bs st2:=e3;subst e3;rw[apM]at R3;subst e1;try dsimp only
  obtain⟨uQ,yu⟩:=R3.ob;exact⟨_,rfl,A.p,uQ,_,rfl,yu,az ..,A,g,_,iT,_,rfl,R3,λe' H4 R4 Yy ne4 p4=>q _ e' iT ⟨R4,L5.jd⟩ Yy (atR R3.zc (by lia)) ne4 (p3.trans p4)⟩
theorem Z0{a b s k:Int}(hs:0<s)(k0:0<=k)(k1:k<s)(h1:b*s<=a*s+k)(h2:a*s+k<b*s+s):a=b:=by
 have e1:∀x y:Int,x+1<=y->x*s+s<=y*s:=λx y h=>by
  have q:=aPP h (Int.le_of_lt hs);rw[Int.add_mul,Int.one_mul]at q;exact q
 by_cases c:a<b
 .have:=e1 a b c;lia
 .by_cases d:b<a
  .have:=e1 b a d;lia
  .lia
theorem Zka{s:Int}{mem:Int->Int}{b y:Int}{ws:List Int}(hs:0<s)(h:y≠b):aG s (qY s mem b ws) y=aG s mem y:=by
 unfold aG;refine a0o λk hk=>?_;have hk:=agO.mp hk;unfold qY gG;rw[ale];rintro⟨h1,h2⟩;exact h (Z0 hs (Int.natCast_nonneg k) (by lia) h1 (by lia))
theorem ZT{s:Int}{mem:Int->Int}{b:Int}:(aG s mem b).length=s.toNat:=by unfold aG;rw[apM,aHo]
theorem IL{s:Int}{mem:Int->Int}{b:Int}{k:Nat}(h:k<s.toNat):(aG s mem b)[k]?=some (mem (b*s+(k:Nat))):=by
 unfold aG;rw[afQ,ad4 h];rfl
theorem IF{s:Int}{mem:Int->Int}{b:Int}{ws:List Int}(h:ws.length=s.toNat):aG s (qY s mem b ws) b=ws:=by
 apply aO0;intro k;by_cases c:k<s.toNat
 .rw [IL c];unfold qY gG;rw[auJ (by lia),show(b*s+(k:Nat)-b*s).toNat=k by lia,akz,a4h (by lia)];rfl
 .rw [aG2 (by rw[ZT];lia),aG2 (by lia)]
structure Vw(g:aM)(x:Int)(a b:aq):Prop where
 m:∀j,x∈(b.at_ j).seq↔x∈(a.at_ j).seq
 w:∀j,(b.at_ j).wd x=(a.at_ j).wd x
 f:∀j,(b.at_ j).fr x=(a.at_ j).fr x
 mem:aG g.size b.mem x=aG g.size a.mem x
section
variable{g:aM}{bk:Int->Int}{x y b:Int}{st a c:aq}{k:Nat}{ws:List Int}
theorem Vw.refl:Vw g x st st:=⟨λ_=>Iff.rfl,λ_=>rfl,λ_=>rfl,rfl⟩
theorem Vw.trans{a b c:aq}(p:Vw g x a b)(q:Vw g x b c):Vw g x a c:=⟨λj=>(q.m j).trans (p.m j),λj=>(q.w j).trans (p.w j),λj=>(q.f j).trans (p.f j),q.mem.trans p.mem⟩
theorem Dy{s:Rm}(hm:x∈s.seq↔x∈(st.at_ k).seq)(hw:s.wd x=(st.at_ k).wd x)(hf:s.fr x=(st.at_ k).fr x):Vw g x st (st.set k s):=by
 refine⟨λj=>?_,λj=>?_,λj=>?_,rfl⟩ <;> rw[ZX] <;> split
 .rename_i z;rw[z.1];exact hm
 .exact Iff.rfl
 .rename_i z;rw[z.1];exact hw
 .rfl
 .rename_i z;rw[z.1];exact hf
 .rfl
theorem Vw.tell{a b:aq}{e:List V}(v:Vw g x a b):Vw g x a (b.tell e):=⟨v.m,v.w,v.f,v.mem⟩
theorem Iw(hs:0<g.size)(h:x≠b):Vw g x st (bA g k b ws st):=by
 unfold bA;split
 .exact ⟨λ_=>Iff.rfl,λ_=>rfl,λ_=>rfl,Zka hs h⟩
 .exact (Dy (s:=pO (st.at_ k) b ws) Iff.rfl (by show(if x=b then ws else _)=_;rw[ale h]) rfl).tell
theorem Ti(h:x≠b):Vw g x st (uW k b st):=Dy (s:=HS (st.at_ k) b) Iff.rfl rfl (by show(if x=b then true else _)=_;rw[ale h])
theorem SQ(h:x≠b):Vw g x st (cK k b ws st):=
 (Dy (s:=MF (st.at_ k) b ws) (by show x∈_++[b]↔_;rw[mem_append,mem_singleton];exact⟨λq=>q.resolve_right h,.inl⟩) (by show(if x=b then ws else _)=_;rw[ale h]) rfl).tell
theorem fW(h:x≠b):Vw g x st (cC k b st):=
 ((Vw.refl (st:=st)).tell (e:=eO k b)).trans (Dy (st:=st.tell (eO k b)) (s:=qK (st.at_ k) b) (mem_erase_of_ne h) rfl (by show(if x=b then false else _)=_;rw[ale h];rfl))
def yz(bk:Int->Int)(sp v:Int):Int->Int:=λs=>if s=sp then v else bk s
theorem Il{sp v:Int}(hs:0<g.size)(h:y≠sp/g.size):aG g.size (yz bk sp v) y=aG g.size bk y:=by
 unfold aG;refine a0o λk hk=>?_;have hk:=agO.mp hk;unfold yz;rw[ale];intro z;apply h;rw[<-z,Int.add_comm,aY6 _ _ (by lia),a7q (Int.natCast_nonneg k) (by lia),Int.zero_add]
theorem Im{sp v:Int}(hs:0<g.size):aG g.size (yz bk sp v) (sp/g.size)=(aG g.size bk (sp/g.size)).set (sp%g.size).toNat v:=by
 have m0:0<=sp%g.size:=avQ _ (by lia);have m1:sp%g.size<g.size:=aGX _ hs;have dm:=agW sp g.size;rw[Int.mul_comm]at dm;apply aO0;intro k;by_cases c:k<g.size.toNat
 .rw [IL c];by_cases d:k=(sp%g.size).toNat
  .rw [<-d,a7U (by rw[ZT];exact c)];unfold yz;rw[auJ (by lia)]
  .rw [aSg (aWz d),IL c];unfold yz;rw[ale (by lia)]
 .rw [aG2 (by rw[ZT];lia),aG2 (by rw[ail,ZT];lia)]
theorem N7{sp:Int}(hs:0<g.size):(aG g.size bk (sp/g.size)).getD (sp%g.size).toNat 0=bk sp:=by
 have m0:0<=sp%g.size:=avQ _ (by lia);have m1:sp%g.size<g.size:=aGX _ hs;have dm:=agW sp g.size;rw[Int.mul_comm]at dm;rw[akz,IL (by lia)];show bk _=_;congr 1
 lia
end
structure Lw(g:aM)(bk:Int->Int)(x:Int)(st:aq):Prop where
 nr:∀h,h<2->x∈(st.at_ h).seq->(st.at_ h).wd x=aG g.size bk x
 fa:x∈(st.at_ 2).seq->(∀h,h<2->(st.at_ h).fr x=false)->(st.at_ 2).wd x=aG g.size bk x
 me:(∀h,h<3->(st.at_ h).fr x=false)->aG g.size st.mem x=aG g.size bk x
structure Dn(g:aM)(bk:Int->Int)(x:Int)(st:aq):Prop where
 nr:∀h,h<2->x∈(st.at_ h).seq->(st.at_ h).wd x=aG g.size bk x
 fa:(st.at_ 2).wd x=aG g.size bk x
 me:(st.at_ 2).fr x=true\/aG g.size st.mem x=aG g.size bk x
theorem Dn.lw{g:aM}{bk:Int->Int}{x:Int}{st:aq}(d:Dn g bk x st):Lw g bk x st:=⟨d.nr,λ_ _=>d.fa,λf=>d.me.elim (λz=>by rw[f 2 (by lia)]at z;cases z) id⟩
theorem Vw.lw{g:aM}{bk:Int->Int}{x:Int}{a b:aq}(v:Vw g x a b)(l:Lw g bk x a):Lw g bk x b:=
 ⟨λh hh m=>(v.w h).trans (l.nr h hh ((v.m h).mp m)),λm f=>(v.w 2).trans (l.fa ((v.m 2).mp m) λh hh=>(v.f h).symm.trans (f h hh)),λf=>v.mem.trans (l.me λh hh=>(v.f h).symm.trans (f h hh))⟩
section
variable{g:aM}{bk:Int->Int}{x b o:Int}{st:aq}{h k:Nat}{ws:List Int}
theorem aJ.nf(w:aJ g st)(n:x∉(st.at_ k).seq):(st.at_ k).fr x=false:=by
 cases e:(st.at_ k).fr x with
 |false=>rfl
 |true=>exact absurd (w.ff k x e) n
theorem KQ(hs:0<g.size)(n:x≠b):Vw g x st (bw g b ws st):=by
 unfold bw;split
 .exact (Iw hs n).trans (Ti n)
 .exact (Iw hs n).trans (Iw hs n)
theorem N6(w:aJ g st)(nr:∀h,h<2->x∈(st.at_ h).seq->(st.at_ h).wd x=aG g.size bk x):Dn g bk x (bw g x (aG g.size bk x) st):=by
 have hl:2<st.rm.length:=by rw[w.len];lia
 have g3:=w.n3;have p2:(bA g 2 x (aG g.size bk x) st).at_ 2=pO (st.at_ 2) x (aG g.size bk x):=by
  unfold bA;rw[ale (by lia),Cb,aq.bD hl,auJ rfl]
 have pl:(bA g 2 x (aG g.size bk x) st).rm.length=st.rm.length:=bN.len;have l2:(pO (st.at_ 2) x (aG g.size bk x)).wd x=aG g.size bk x:=auJ rfl;refine⟨λh hh m=>?_,?_,?_⟩
 .rw [Tj (by lia)]at m ⊢;exact nr h hh m
 .unfold bw;split
  .unfold uW;rw[aq.bD (by rw[pl];exact hl),auJ rfl,p2];exact l2
  .rw [BD rfl,p2];exact l2
 .unfold bw;split
  .refine .inl ?_;unfold uW;rw[aq.bD (by rw[pl];exact hl),auJ rfl];exact auJ rfl
  .refine .inr ?_;have e:(bA g g.n x (aG g.size bk x) (bA g 2 x (aG g.size bk x) st)).mem=qY g.size (bA g 2 x (aG g.size bk x) st).mem x (aG g.size bk x):=by
    show(if g.n=g.n then _ else _:aq).mem=_;rw[auJ rfl];rfl
   rw[e];exact IF ZT
theorem GC(w:aJ g st)(hh:h<2)(f:(st.at_ h).fr x=false)(l:Lw g bk x st):Lw g bk x (cC h x st):=by
 have hl:h<st.rm.length:=by rw[w.len];lia
 have ne:∀j,j≠h->(cC h x st).at_ j=st.at_ j:=λj n=>by rw[iG hl,ale n]
 have hf:∀j,(st.at_ j).fr x=((cC h x st).at_ j).fr x:=λj=>by
  by_cases c:j=h
  .rw [c,iG hl,auJ rfl,f];exact(auJ rfl).symm
  .rw [ne j c]
 refine⟨λk hk m=>?_,λm q=>?_,λq=>l.me λk hk=>(hf k).trans (q k hk)⟩
 .by_cases c:k=h
  .rw [c,bC hl,auJ rfl]at m;exact absurd rfl ((w.nd h).mem_erase_iff.mp m).1
  .rw [ne k c]at m ⊢;exact l.nr k hk m
 .rw [ne 2 (by lia)]at m ⊢;exact l.fa m λk hk=>(hf k).trans (q k hk)
theorem TR(hs:0<g.size)(w:aJ g st)(hh:h<2)(ho:o∈(st.at_ h).seq)(l:Lw g bk x st):Lw g bk x (aN g h o st):=by
 have hl:h<st.rm.length:=by rw[w.len];lia
 by_cases c:x=o
 .subst c;unfold aN;split
  .rw [l.nr h hh ho];refine(N6 (w.go hh) λk hk m=>?_).lw;by_cases e:k=h
   .rw [e,bC hl,auJ rfl]at m;exact absurd rfl ((w.nd h).mem_erase_iff.mp m).1
   .rw [iG hl,ale e]at m ⊢;exact l.nr k hk m
  .rename_i f;exact GC w hh (by simpa using f) l
 .unfold aN;split
  .exact ((fW c).trans (KQ hs c)).lw l
  .exact (fW c).lw l
theorem SO(n:x≠o){p:aq×List Int×Bool}:Vw g x p.1 (cI h o p).1:=by
 unfold cI;split
 .split
  .exact fW n
  .exact fW n
 .exact Vw.refl
theorem Th{p:aq×List Int×Bool}(ff:(p.1.at_ h).fr o=true->o∈(p.1.at_ h).seq):(cI h o p).2=if(p.1.at_ h).fr o=true then((p.1.at_ h).wd o,true) else p.2:=by
 unfold cI;by_cases c:(p.1.at_ h).fr o=true
 .rw [auJ (ff c),auJ c,auJ c]
 .rw [ale c,ale c];split <;> rfl
theorem ZiA{p:aq×List Int×Bool}{j:Nat}(n:j≠h)(hl:h<p.1.rm.length):(cI h o p).1.at_ j=p.1.at_ j:=by
 unfold cI;split
 .split
  .show (cC h o p.1).at_ j=_;rw[iG hl,ale n]
  .show (cC h o p.1).at_ j=_;rw[iG hl,ale n]
 .rfl
theorem Zkb(w:aJ g st):(i7 o st).2=if(st.at_ 1).fr o=true then((st.at_ 1).wd o,true) else if(st.at_ 0).fr o=true then((st.at_ 0).wd o,true) else((st.at_ 2).wd o,(st.at_ 2).fr o):=by
 have l3:=w.len;have g0:∀j,j≠2->(cC 2 o st).at_ j=st.at_ j:=λj n=>by rw[iG (by lia),ale n]
 have a0:=Th (h:=0) (o:=o) (p:=(cC 2 o st,(st.at_ 2).wd o,(st.at_ 2).fr o)) (λz=>by
  have z:((cC 2 o st).at_ 0).fr o=true:=z;show o∈((cC 2 o st).at_ 0).seq;rw[g0 0 (by lia)]at z ⊢;exact w.ff 0 o z)
 have e1:((cI 0 o (cC 2 o st,(st.at_ 2).wd o,(st.at_ 2).fr o)).1).at_ 1=st.at_ 1:=by
  rw[ZiA (by lia) (by show 0<(cC 2 o st).rm.length;rw[cY];lia)];exact g0 1 (by lia)
 have a1:=Th (h:=1) (o:=o) (p:=cI 0 o (cC 2 o st,(st.at_ 2).wd o,(st.at_ 2).fr o)) (λz=>by
  rw[e1]at z ⊢;exact w.ff 1 o z)
 unfold i7;rw[a1,e1,a0];show _=_;rw[g0 0 (by lia)]
theorem RA(n:x≠o):Vw g x st (i7 o st).1:=by
 unfold i7;exact(fW n).trans ((SO (p:=(cC 2 o st,(st.at_ 2).wd o,(st.at_ 2).fr o)) n).trans (SO n))
theorem Rz{p:aq×List Int×Bool}:(cI h o p).1.mem=p.1.mem:=by
 unfold cI;split
 .split <;> rfl
 .rfl
theorem ZhE(hs:0<g.size)(w:aJ g st)(ho:o∈(st.at_ 2).seq)(l:Lw g bk x st):Lw g bk x (pU g o st):=by
 by_cases c:x=o
 .subst c;have sn:=Zkb (o:=x) w;have s:=fJ (g:=g) (o:=x) (st:=st);have no:∀j,j<3->x∉((pU g x st).at_ j).seq:=λj hj z=>by
   rw[s.sq,(Kz w.len).2.1,auJ hj]at z;exact((w.nd j).mem_erase_iff.mp z).1 rfl
  refine⟨λh hh m=>absurd m (no h (by lia)),λm=>absurd m (no 2 (by lia)),λ_=>?_⟩;have ml:(i7 x st).1.mem=st.mem:=by unfold i7;rw[Rz,Rz];rfl
  by_cases f1:(st.at_ 1).fr x=true
  .rw [auJ f1]at sn;have e:pU g x st=bA g g.n x ((st.at_ 1).wd x) (i7 x st).1:=by unfold pU;rw[sn,auJ rfl]
   rw[e,l.nr 1 (by lia) (w.ff 1 x f1)];unfold bA;rw[auJ rfl];exact IF ZT
  .rw [ale f1]at sn;by_cases f0:(st.at_ 0).fr x=true
   .rw [auJ f0]at sn;have e:pU g x st=bA g g.n x ((st.at_ 0).wd x) (i7 x st).1:=by unfold pU;rw[sn,auJ rfl]
    rw[e,l.nr 0 (by lia) (w.ff 0 x f0)];unfold bA;rw[auJ rfl];exact IF ZT
   .rw [ale f0]at sn;have nf:∀h,h<2->(st.at_ h).fr x=false:=λh hh=>by
     rcases(show h=0\/h=1 by lia) with rfl|rfl
     .simpa using f0
     .simpa using f1
    cases f2:(st.at_ 2).fr x with
    |true=>
     have e:pU g x st=bA g g.n x ((st.at_ 2).wd x) (i7 x st).1:=by unfold pU;rw[sn,auJ f2]
     rw[e,l.fa ho nf];unfold bA;rw[auJ rfl];exact IF ZT
    |false=>
     have e:pU g x st=(i7 x st).1:=by unfold pU;rw[sn,ale (by show ¬(st.at_ 2).fr x=true;rw[f2];exact a0V)]
     rw[e,ml];exact l.me λh hh=>by
      by_cases q:h<2
      .exact nf h q
      .rw [show h=2 by lia];exact f2
 .unfold pU;split
  .exact ((RA c).trans (Iw hs c)).lw l
  .exact (RA c).lw l
theorem Ry(hb:b∈(st.at_ k).seq){e:List V}:Vw g x st ((st.tell e).set k (jI (g.cf k) (st.at_ k) b)):=
 ((Vw.refl (st:=st)).tell (e:=e)).trans (Dy (st:=st.tell e) (s:=jI (g.cf k) (st.at_ k) b) (DN hb).mem_iff rfl rfl)
theorem ZiB(hs:0<g.size)(w:aJ g st)(l:Lw g bk x st):Lw g bk x (roomF g b st):=by
 unfold roomF;split
 .exact l
 .rename_i o e;exact ZhE hs w (BZ e).1 l
theorem ZiC(hs:0<g.size)(w:aJ g st)(hh:h<2)(l:Lw g bk x st):Lw g bk x (aI g h b st):=by
 unfold aI;split
 .exact l
 .rename_i o e;exact TR hs w hh (BZ e).1 l
theorem Zkc(hs:0<g.size)(w:aJ g st)(l:Lw g bk x st):Lw g bk x (b9 g b st):=by
 unfold b9;split
 .rename_i hb;exact(Ry hb).lw l
 .rename_i hb;have w1:=w.sq (EO (e:=eF g.n));have l1:Lw g bk x (roomF g b (st.tell (eF g.n))):=ZiB hs w1 (((Vw.refl (st:=st)).tell (e:=eF g.n)).lw l);obtain⟨w2,sub⟩:=w1.roomF (b:=b);have hl:2<(roomF g b (st.tell (eF g.n))).rm.length:=by rw[w2.len];lia
  have n2:b∉((roomF g b (st.tell (eF g.n))).at_ 2).seq:=λz=>hb (sub 2 b z);generalize roomF g b (st.tell (eF g.n))=s at *;by_cases c:x=b
  .subst c;have nh:∀h,h<3->x∉(s.at_ h).seq:=λh hh z=>by
    by_cases q:h<2
    .exact n2 (w2.inc h x q z)
    .exact n2 (by rw[show h=2 by lia]at z;exact z)
   have me:=l1.me λh hh=>w2.nf (nh h hh);refine⟨λh hh m=>?_,λ_ _=>?_,λ_=>me⟩
   .rw [tD hl,ale (by lia)]at m;exact absurd m (nh h (by lia))
   .unfold cK;rw[Cb,aq.bD hl,auJ rfl];exact(auJ rfl:(if x=x then _ else _)=_).trans me
  .exact (SQ c).lw l1
theorem Zkd(hs:0<g.size)(w:aJ g st)(hh:h<2)(l:Lw g bk x st):Lw g bk x (bR g h b st)/\((bR g h b st).at_ h).fr b=false:=by
 have hl:h<st.rm.length:=by rw[w.len];lia
 unfold bR;split
 .rename_i f;have dl:(bw g b ((st.at_ h).wd b) st).rm.length=st.rm.length:=by
   unfold bw;split
   .exact dP.trans bN.len
   .exact bN.len.trans bN.len
  refine⟨?_,by rw[aq.bD (by rw[dl];exact hl),auJ rfl];exact auJ rfl⟩;by_cases c:x=b
  .subst c;rw[l.nr h hh (w.ff h x f)]at dl ⊢;have d:=N6 (bk:=bk) w l.nr;generalize bw g x (aG g.size bk x) st=s at *;have ne:∀j,j≠h->(s.set h (qz (s.at_ h) x)).at_ j=s.at_ j:=λj n=>by rw[ZX,ale λz=>n z.1]
   refine Dn.lw ⟨λk hk m=>?_,by rw[ne 2 (by lia)];exact d.fa,by rw[ne 2 (by lia)];exact d.me⟩;by_cases e:k=h
   .rw [e,aq.bD (by rw[dl];exact hl),auJ rfl]at m ⊢;exact d.nr h hh m
   .rw [ne k e]at m ⊢;exact d.nr k hk m
  .exact ((KQ hs c).trans (Dy (s:=qz _ b) Iff.rfl rfl (by show(if x=b then false else _)=_;rw[ale c]))).lw l
 .rename_i f;exact⟨l,by simpa using f⟩
theorem Zke(hs:0<g.size)(w:aJ g st)(hh:h<2)(hb:b∉(st.at_ h).seq)(h2:b∈(st.at_ 2).seq)(fo:(st.at_ (1-h)).fr b=false)(l:Lw g bk x st):Lw g bk x (gj g h b st):=by
 unfold gj;have l1:=ZiC (b:=b) hs w hh l;obtain⟨w1,sub,Pz⟩:=w.aI (b:=b) hh;have hl:h<(aI g h b st).rm.length:=by rw[w1.len];lia
 by_cases c:x=b
 .subst c;have v:Vw g x st (aI g h x st):=by
   unfold aI;split
   .exact Vw.refl
   .rename_i o e;have n:x≠o:=λz=>hb (z ▸(BZ e).1);unfold aN;split
    .exact (fW n).trans (KQ hs n)
    .exact fW n
  have nf:∀k,k<2->((aI g h x st).at_ k).fr x=false:=λk hk=>by
   rw[v.f];by_cases e:k=h
   .rw [e];exact w.nf hb
   .rw [show k=1-h by lia];exact fo
  have b2:x∈((aI g h x st).at_ 2).seq:=(v.m 2).mpr h2;generalize aI g h x st=s at *;have fa:=l1.fa b2 nf;have ne:∀j,j≠h->(cK h x ((s.at_ 2).wd x) s).at_ j=s.at_ j:=λj n=>by unfold cK;rw[Cb,ZX,ale λz=>n z.1]
  refine⟨λk hk m=>?_,λ_ _=>by rw[ne 2 (by lia)];exact fa,λf=>l1.me λk hk=>by rw[<-B0 (k:=h) (b:=x) (ws:=(s.at_ 2).wd x)];exact f k hk⟩;by_cases e:k=h
  .rw [e];unfold cK;rw[Cb,aq.bD hl,auJ rfl];exact(auJ rfl:(if x=x then _ else _)=_).trans fa
  .rw [ne k e]at m ⊢;exact l1.nr k hk m
 .exact (SQ c).lw l1
theorem N5(hs:0<g.size)(w:aJ g st)(hh:h<2)(l:Lw g bk x st):Lw g bk x (bP g h b st):=by
 unfold bP;split
 .rename_i hb;exact(Ry hb).lw l
 .rename_i hb;obtain⟨w1,m2,sub⟩:=w.b9 (b:=b);have s:=KS (g:=g) (h:=1-h) m2;obtain⟨l2,f2⟩:=Zkd (b:=b) (h:=1-h) hs w1 (by lia) (Zkc (b:=b) hs w l);exact Zke hs (w1.sq s) hh (λz=>hb (sub h hh b (by rw[s.sq]at z;exact z))) (by rw[s.sq];exact m2) f2 l2
theorem ZhF{sp:Int}(hs:0<g.size)(w:aJ g st)(hh:h<2)(l:Lw g bk (sp/g.size) st):kE g ((bP g h (sp/g.size) st).at_ h) sp=bk sp:=by
 have q:=(N5 (b:=sp/g.size) hs w hh l).nr h hh (w.bP hh).2;unfold kE;rw[q,N7 hs]
theorem Y9{sp v:Int}(hs:0<g.size)(w:aJ g st)(hh:h<2)(l:∀x,Lw g bk x st):Lw g (yz bk sp v) x (mJ g h sp v st):=by
 unfold mJ;obtain⟨w1,m1⟩:=w.bP (b:=sp/g.size) hh;have l1:=λx=>N5 (x:=x) (b:=sp/g.size) hs w hh (l x);generalize bP g h (sp/g.size) st=s1 at *;obtain⟨w2,q2⟩:=w1.bJ (b:=sp/g.size) hh;have m2:sp/g.size∈((bJ h (sp/g.size) s1).at_ h).seq:=by rw[q2];exact m1
 by_cases c:x=sp/g.size
 .have Lu:((bJ h (sp/g.size) s1).at_ h).wd (sp/g.size)=aG g.size bk (sp/g.size)/\sp/g.size∉((bJ h (sp/g.size) s1).at_ (1-h)).seq:=by
   unfold bJ;split
   .have hl:1-h<s1.rm.length:=by rw[w1.len];lia
    refine⟨by rw[iG hl,ale (by lia)];exact(l1 _).nr h hh m1,λz=>?_⟩;rw[bC hl,auJ rfl]at z;exact((w1.nd _).mem_erase_iff.mp z).1 rfl
   .rename_i n;exact⟨(l1 _).nr h hh m1,n⟩
  generalize bJ h (sp/g.size) s1=s2 at *;obtain⟨Lu,W4⟩:=Lu;have hl:h<s2.rm.length:=by rw[w2.len];lia
  have w3:aJ g (s2.set h (k8 g (s2.at_ h) sp v)):=w2.sq (ED (s:=k8 g (s2.at_ h) sp v) rfl λ_ z=>.inl z);have Pb:((s2.set h (k8 g (s2.at_ h) sp v)).at_ h).wd (sp/g.size)=aG g.size (yz bk sp v) (sp/g.size):=by
   rw[aq.bD hl,auJ rfl,Im hs,<-Lu];exact auJ rfl
  have LL:∀j,((s2.set h (k8 g (s2.at_ h) sp v)).at_ j).seq=(s2.at_ j).seq:=λj=>NJ rfl;have Mb:∀k,k<2->sp/g.size∈((s2.set h (k8 g (s2.at_ h) sp v)).at_ k).seq->((s2.set h (k8 g (s2.at_ h) sp v)).at_ k).wd (sp/g.size)=aG g.size (yz bk sp v) (sp/g.size):=λk hk m=>by
   by_cases e:k=h
   .rw [e];exact Pb
   .rw [show k=1-h by lia,LL]at m;exact absurd m W4
  have hl3:h<(s2.set h (k8 g (s2.at_ h) sp v)).rm.length:=by rw[w3.len];lia
  dsimp only;rw[c];generalize s2.set h (k8 g (s2.at_ h) sp v)=s3 at *;unfold markB;split
  .have ft:((uW h (sp/g.size) s3).at_ h).fr (sp/g.size)=true:=by
    unfold uW;rw[aq.bD hl3,auJ rfl];exact auJ rfl
   refine⟨λk hk m=>?_,λ_ f=>(by rw[f h hh]at ft;cases ft),λf=>(by rw[f h (by lia)]at ft;cases ft)⟩;unfold uW at m ⊢;by_cases e:k=h
   .rw [e]at m ⊢;rw[aq.bD hl3,auJ rfl]at m ⊢;exact Mb h hh m
   .rw [aq.bD hl3,ale e]at m ⊢;exact Mb k hk m
  .rw [Pb];exact(N6 w3 Mb).lw
 .have vv:Vw g x s1 (markB g h (sp/g.size) ((bJ h (sp/g.size) s1).set h (k8 g ((bJ h (sp/g.size) s1).at_ h) sp v))):=by
   have v1:Vw g x s1 (bJ h (sp/g.size) s1):=by
    unfold bJ;split
    .exact fW c
    .exact Vw.refl
   have v2:Vw g x s1 ((bJ h (sp/g.size) s1).set h (k8 g ((bJ h (sp/g.size) s1).at_ h) sp v)):=v1.trans (Dy (s:=k8 g _ sp v) Iff.rfl (by show(if x=sp/g.size then _ else _)=_;rw[ale c]) rfl);unfold markB;split
   .exact v2.trans (Ti c)
   .exact v2.trans (KQ hs c)
  have q:=vv.lw (l1 x);have e:=Il (g:=g) (bk:=bk) (v:=v) hs c;exact⟨λk hk m=>by rw[e];exact q.nr k hk m,λm f=>by rw[e];exact q.fa m f,λf=>by rw[e];exact q.me f⟩
theorem Lw.jd(l:Lw g bk x st):Lw g bk x (jd st):=⟨l.nr,l.fa,l.me⟩
theorem Zkf(hs:0<g.size)(w:aJ g st)(n0:∀h,h<2->(st.at_ h).seq=[])(ho:o∈(st.at_ 2).seq)(l:Lw g bk x st):Lw g bk x (fT g o st):=by
 have hl:2<st.rm.length:=by rw[w.len];lia
 obtain⟨_,s⟩:=KR (o:=o) w n0;by_cases c:x=o
 .subst c;have no:∀j,j<3->x∉((fT g x st).at_ j).seq:=λj hj z=>by
   rw[s]at z;split at z
   .exact ((w.nd j).mem_erase_iff.mp z).1 rfl
   .rw [n0 j (by lia)]at z;cases z
  refine⟨λh hh m=>absurd m (no h (by lia)),λm=>absurd m (no 2 (by lia)),λ_=>?_⟩;have nf:∀h,h<2->(st.at_ h).fr x=false:=λh hh=>w.nf (by rw[n0 h hh];simp);unfold fT;cases f2:(st.at_ 2).fr x with
  |true=>
   rw[auJ rfl,l.fa ho nf];unfold bA;rw[auJ rfl];exact IF ZT
  |false=>
   rw[ale a0V];exact l.me λh hh=>by
    by_cases q:h<2
    .exact nf h q
    .rw [show h=2 by lia];exact f2
 .unfold fT;split
  .exact ((fW c).trans (Iw hs c)).lw l
  .exact (fW c).lw l
theorem SN(hs:0<g.size)(hh:h<2):∀{bs:List Int}{st:aq},aJ g st->bs.Perm (st.at_ h).seq->Lw g bk x st->Lw g bk x (jc g h bs st)
 | [],st,_,_,l=>l
 |b ::bs,st,w,p,l=>by
  have hb:b∈(st.at_ h).seq:=p.mem_iff.mp bcs;obtain⟨w1,s1⟩:=w.aN hh hb;refine SN hs hh (bs:=bs) w1 ?_ (TR hs w hh hb l);rw[s1,auJ rfl];have:=p.erase b;rwa [aiO]at this
theorem SM(hs:0<g.size)(w:aJ g st)(l:Lw g bk x st):∀{k:Nat},k<=2->Lw g bk x (bf g st k)
 |0,_=>l
 |k+1,hk=>SN hs (by lia) (w.bf (k:=k) (by lia)).1 cD (SM hs w l (k:=k) (by lia))
theorem SK(hs:0<g.size):∀{bs:List Int}{st:aq},aJ g st->(∀h,h<2->(st.at_ h).seq=[])->bs.Perm (st.at_ 2).seq->Lw g bk x st->Lw g bk x (jb g bs st)
 | [],st,_,_,_,l=>l
 |b ::bs,st,w,n0,p,l=>by
  have hb:b∈(st.at_ 2).seq:=p.mem_iff.mp bcs;obtain⟨w1,s1⟩:=KR (o:=b) w n0;refine SK hs (bs:=bs) w1 (λh hh=>by rw[s1,ale (by lia)];exact n0 h hh) ?_ (Zkf hs w n0 hb l);rw[s1,auJ rfl];have:=p.erase b;rwa [aiO]at this
theorem SJ(hs:0<g.size)(w:aJ g st)(l:Lw g bk x st):Lw g bk x (cN g st):=by
 obtain⟨w1,s1⟩:=w.bf (k:=2) (aI1 _);exact SK hs w1 (λh hh=>by rw[s1,auJ hh]) cD (SM hs w l (aI1 _))
theorem Zkg(hs:0<g.size)(w:aJ g st)(l:∀x,Lw g bk x st)(sp:Int):(cN g st).mem sp=bk sp:=by
 obtain⟨w1,s1⟩:=N8 w;have e:=(SJ hs w (l (sp/g.size))).me λh hh=>w1.nf (by rw[s1 h hh];simp);rw[<-N7 (g:=g) (bk:=bk) (sp:=sp) hs,<-e,N7 hs]
theorem Zkh(g3:g.n=3):aJ g (yH 3)/\∀x,Lw g (λ_=>0) x (yH 3):=by
 have e:∀j,(yH 3).at_ j=tE:=λj=>by
  unfold yH aq.at_;rw[akz,aDo];split <;> rfl
 refine⟨⟨g3,aAW ..,λj=>by rw[e];exact nodup_nil,λh x _ hx=>(by rw[e]at hx;cases hx),λj x h=>(by rw[e]at h;cases h)⟩,λx=>⟨λh _ m=>(by rw[e]at m;cases m),λm _=>(by rw[e]at m;cases m),λ_=>rfl⟩⟩
end
theorem Y8(x y:Str)(r:Int)(h0:0<=r)(h1:r<2):∃z:Str,eG [V.str x,V.str y] r=some (.str z)/\(z=x\/z=y):=by
 have h:r=0\/r=1:=by lia
 rcases h with rfl|rfl
 .exact ⟨x,cO,.inl rfl⟩
 .exact ⟨y,gI,.inr rfl⟩
inductive wQ(vs:List V)(H:Hp)(Q:VK)(E:XK):Prop
 |mk (b:Addr) (a q c:Int):vs=[.ref b]->aA H b a q c->c<400000000->(∀(p:Addr)(sh pl:Int)(r wr:Str)(a' c':Int)(H':Hp),H' p=some (.tup [.int sh,.int pl,.str r,.str wr])->1<=sh->sh<=64->1<=pl->pl<=16->yI r->Wr wr->aA H' b a' q c'->c'<=c+6->SB b H H'->Q (.ref p) H')->wQ vs H Q E
example:(oZ A1 cA):=by
 obtain ⟨b,a,q,c,rfl,B,hc,k⟩:=h;refine⟨_,(Ze (cX 1 nd (ZP aW (Zm cA hr.m rfl (pc (pv 0) (pc Zi Zb))) Zi (Zw _)))
   (Ze (cX 2 nd (DP (ZI (pv 1)) (aj ZJ Zi (Zm cA hr.m rfl (pc (pv 0) (pc Zi Zb)))) (ak (Zl (K:=K) rfl) (ZV (pc Zi (pc Zi (pc Zi (pc Zi (pc Zi Zb)))))) (Zm cA hr.m rfl (pc (pv 0) (pc Zi Zb))) (λ_ _=>rfl))))
   (Ze (cX 3 nd (aj ZJ Zi (Zm cA hr.m rfl (pc (pv 0) (pc (DP (ZI (pv 1)) Zi Zi) Zb)))))
   (Ze (cX 4 nd (ak (Zl (K:=K) rfl) (ZV (pc ZU (pc ZU (pc ZU Zb)))) (Zm cA hr.m rfl (pc (pv 0) (pc Zi Zb))) (λ_ _=>rfl)))
   (Zg (Zs (ZN (pc (pv 2) (pc (pv 3) (pc (pv 4) (pc (ak (Zl (K:=K) rfl) (ZV (pc ZU (pc ZU Zb))) (Zm cA hr.m rfl (pc (pv 0) (pc Zi Zb))) (λ_ _=>rfl)) Zb))))))))))),?_⟩
 refine hide λu9 e9=>?_;refine⟨_,rfl,b,a,q,c,6,rfl,B,by lia,by decide,by decide,λr1 a1 c1 H1 zT CF B1 hc1 s1=>⟨rfl,?_⟩⟩;generalize decide (V.int r1=V.int 0)=Q6;try dsimp only
 subst e9;try dsimp only
 refine hide λu9 e9=>?_;refine Kw (λv G=>∃z a' c',v=.int z/\1<=z/\z<=64/\aA G b a' q c'/\c'<=c1+1/\SB b H G) (λQ' k'=>?_) ?_
 .refine ⟨_,rfl,_,rfl,?_⟩;cases Q6 with
  |true=>exact cB rfl ⟨_,rfl,b,a1,q,c1,64,rfl,B1,by lia,by decide,by decide,λr2 a2 c2 H2 yX xG B2 hc2 s2=>⟨_,_,rfl,rfl,k' _ _ ⟨_,a2,c2,rfl,by lia,by lia,B2,by lia,s1.trans s2⟩⟩⟩
  |false=>
   refine bK rfl ⟨(sL 5),λp0 hp0=>⟨_,rfl,b,a1,q,c1,5,rfl,B1.same (Zd hp0 _),by lia,by decide,by decide,λr2 a2 c2 H2 yX xG B2 hc2 s2=>?_⟩⟩;have q0:b≠p0:=Zf B1.at' hp0;obtain⟨sh,hsh,FL,FJ⟩:=Gb r2 yX xG;exact⟨p0,_,_,_,rfl,rfl,ao.of (s2 _ _ (aWz q0) Za),hsh,k' _ _ ⟨_,a2,c2,rfl,FL,FJ,B2,by lia,s1.trans (((Zd hp0 _).sb b).trans s2)⟩⟩
 rintro _ H2 ⟨sh,a2,c2,rfl,FL,FJ,B2,hc2,u2⟩;refine gN ?_;try dsimp only
 subst e9;try dsimp only
 refine hide λu9 e9=>?_;refine Kw (λv G=>∃z a' c',v=.int z/\1<=z/\z<=16/\aA G b a' q c'/\c'<=c2+1/\SB b H G) (λQ' k'=>?_) ?_
 .refine ⟨_,rfl,_,rfl,_,rfl,?_⟩;cases Q6 with
  |true=>exact cB rfl ⟨b,a2,q,c2,16,rfl,B2,by lia,by decide,by decide,λr3 a3 c3 H3 CD Br B3 hc3 s3=>⟨_,_,rfl,rfl,k' _ _ ⟨_,a3,c3,rfl,by lia,by lia,B3,by lia,u2.trans s3⟩⟩⟩
  |false=>exact bK rfl ⟨b,a2,q,c2,4,rfl,B2,by lia,by decide,by decide,λr3 a3 c3 H3 CD Br B3 hc3 s3=>⟨_,_,rfl,rfl,k' _ _ ⟨_,a3,c3,rfl,by lia,by lia,B3,by lia,u2.trans s3⟩⟩⟩
 rintro _ H3 ⟨pl,a3,c3,rfl,LY,oY,B3,hc3,u3⟩;refine gN ?_;try dsimp only
 subst e9;try dsimp only
 refine hide λu9 e9=>?_;refine⟨(sL 3),λp3 hp3=>⟨_,rfl,b,a3,q,c3,3,rfl,B3.same (Zd hp3 _),by lia,by decide,by decide,λr4 a4 c4 H4 F2 JU B4 hc4 s4=>?_⟩⟩;have q3:b≠p3:=Zf B3.at' hp3;obtain⟨ru,XQ,XM⟩:=Ga r4 F2 JU;refine⟨p3,_,_,_,rfl,rfl,ao.of (s4 _ _ (aWz q3) Za),XQ,?_⟩;subst e9;try dsimp only
 have u4:SB b H H4:=u3.trans (((Zd hp3 _).sb b).trans s4);refine⟨_,rfl,_,rfl,_,rfl,(sL 2),λp5 MP=>⟨_,rfl,b,a4,q,c4,2,rfl,B4.same (Zd MP _),by lia,by decide,by decide,λr5 a5 c5 H5 LV Pq B5 hc5 s5=>?_⟩⟩;have q5:b≠p5:=Zf B4.at' MP;obtain⟨wr,hwr,XJ⟩:=Y8 "late" "through" r5 LV Pq;refine⟨p5,_,_,_,rfl,rfl,ao.of (s5 _ _ (aWz q5) Za),hwr,(sL 4),λpp hpp=>?_⟩;exact k pp sh pl ru wr a5 c5 _ Za FL FJ LY oY XM XJ (B5.same (Zd hpp _)) (by lia)
  ((u4.trans (((Zd MP _).sb b).trans s5)).trans ((Zd hpp _).sb b))
theorem Y7(r:Int)(h0:0<=r)(h1:r<3):∃z:Str,eG [V.str "within",V.str "apart",V.str "free"] r=some (.str z)/\(z ="within" \/z ="apart" \/z ="free"):=by
 have h:r=0\/r=1\/r=2:=by lia
 rcases h with rfl|rfl|rfl
 .exact ⟨_,cO,.inl rfl⟩
 .exact ⟨_,gI,.inr (.inl rfl)⟩
 .exact ⟨_,je,.inr (.inr rfl)⟩
inductive uc(K:W.Frag)(vs:List V)(H:Hp)(Q:VK)(E:XK):Prop
 |mk (b:Addr) (a q c:Int):vs=[.ref b]->aA H b a q c->c<300000000->(∀(pp tp:Addr)(ts:List Addr)(size:Int)(kind:Str)(bg:List Cf)(a' c':Int)(H':Hp),H' pp=some (.tup [.int size,.str kind,.ref tp])->jh K H' tp ts bg->(kind ="within" \/kind ="apart" \/kind ="free")->1<=size->size<=16->1<=bg.length->bg.length<=4->aA H' b a' q c'->c'<=c+40->SB b H H'->Q (.ref pp) H')->uc K vs H Q E
example:(Ad GN cA A1):=by
 obtain ⟨b,a,q,c,rfl,B,hc,k⟩:=h;refine⟨_,(Ze (cX 1 nd (ak (Zl (K:=K) rfl) (ZV (pc ZU (pc ZU (pc ZU Zb)))) (Zm cA hr.m rfl (pc (pv 0) (pc Zi Zb))) (λ_ _=>rfl)))
   (Ze (cX 2 nd (aj ZJ Zi (Zm cA hr.m rfl (pc (pv 0) (pc (ak (Zl (K:=K) rfl) (ZV (pc Zi (pc Zi Zb))) (ZE OM rfl T.Et La (pc (ZP aW (Zm cA hr.m rfl (pc (pv 0) (pc Zi Zb))) Zi (Zw _)) Zb)) (λ_ _=>rfl)) Zb)))))
   (Zg (Zs (ZN (pc (pv 2) (pc (pv 1) (pc (ZE (Zcw (K:=K) rfl) rfl T.GR OJ (pc (ZL (Zx (gB:=(Zq sE)) (oN:=D7) (N:=["_law_k","_law_box_here"]) (own:=1) (js:=[0]) (by decide +kernel) rfl rfl) rfl (ZY rfl T.vh (pc (aj ZJ Zi (Zm cA hr.m rfl (pc (pv 0) (pc Zi Zb)))) Zb)) (λ_ _ _ _ _ _=>(bE 0 (show List.Nodup (["_law_k","_law_box_here"]:List Str) by decide +kernel))) (λ_ _ _ _ _ _=>(Zm A1 hr.m rfl (pc (pv 1) Zb)))) Zb)) Zb)))))))),?_⟩
 refine hide λu9 e9=>?_;refine⟨(sL 3),λp1 hp1=>⟨_,rfl,b,a,q,c,3,rfl,B.same (Zd hp1 _),by lia,by decide,by decide,λr1 a1 c1 H1 zT CF B1 hc1 s1=>?_⟩⟩;have q1:b≠p1:=Zf B.at' hp1;obtain⟨kd,hkd,Qp⟩:=Y7 r1 zT CF;refine⟨p1,_,_,_,rfl,rfl,ao.of (s1 _ _ (aWz q1) Za),hkd,gN ?_⟩;try dsimp only
 subst e9;try dsimp only
 refine hide λu9 e9=>?_;have u1:SB b H H1:=((Zd hp1 _).sb b).trans s1;refine⟨_,rfl,(sL 2),λp2 hp2=>⟨_,rfl,b,a1,q,c1,8,rfl,B1.same (Zd hp2 _),by lia,by decide,by decide,λr2 a2 c2 H2 yX xG B2 hc2 s2=>⟨rfl,.inr ⟨_,rfl,?_⟩⟩⟩⟩;have q2:b≠p2:=Zf B1.at' hp2;obtain⟨n,hn,hn'⟩:=RE 4 16 (decide (V.int r2=V.int 0));refine⟨p2,_,_,_,rfl,rfl,ao.of (s2 _ _ (aWz q2) Za),hn,b,a2,q,c2,n,rfl,B2,by lia,by lia,by lia,λr3 a3 c3 H3 CD Br B3 hc3 s3=>⟨_,_,rfl,rfl,gN ?_⟩⟩;try dsimp only
 subst e9;try dsimp only
 have u3:SB b H H3:=(((u1.trans ((Zd hp2 _).sb b)).trans s2)).trans s3;refine⟨_,rfl,_,rfl,_,rfl,b,a3,q,c3,4,rfl,B3,by lia,by decide,by decide,λr4 a4 c4 H4 F2 JU B4 hc4 s4=>⟨_,_,rfl,rfl,_,rfl,by lia,by lia,λl hl=>?_⟩⟩;have oj:l≠b:=aWz (Zf B4.at' hl);have u4:=u3.trans s4;refine DM (lo:=0) (n:=(1+r4).toNat) (l:=l) (λj ys σ G=>∃(v0:Option V)(ts:List Addr)(bg:List Cf)(a' c':Int),σ=[v0,some (.ref b)]/\ys=ts.map V.ref/\ts.length=j/\bg.length=j/\(∀(i:Nat)(t:Addr)(c:Cf),ts[i]?=some t->bg[i]?=some c->∃wr:Str,G t=some (.tup [.int c.sh,.int c.pl,.str c.ru,.str wr])/\c.late=decide (wr ="late")/\Wr wr)/\(∀c∈bg,1<=c.sh/\c.sh<=64/\1<=c.pl/\c.pl<=16/\yI c.ru)/\G l=some (.lst ys)/\aA G b a' q c'/\c'<=c4+6*(j:Int)/\SB b H G)
  ⟨none,[],[],a4,c4,rfl,rfl,rfl,rfl,(λi t c h=>by simp at h),(λc h=>by simp at h),Za,B4.same (Zd hl _),by lia,u4.trans ((Zd hl _).sb b)⟩ ?_ ?_
 .rintro j ys σ G hj hys ⟨v0,ts,bg,a',c',rfl,rfl,hl1,hl2,hat,hcf,g1,B',hc',u'⟩;refine⟨_,rfl,b,a',q,c',rfl,B',by lia,λp sh pl r wr a5 c5 G5 ep FL FJ LY oY hr hw B5 hc5 s5=>?_⟩;have g5:=s5 _ _ oj g1;have WY:p≠l:=λz=>by rw[z,g5]at ep;cases ep
  refine gu.of (atR (by lia:(1+r4).toNat<=4) (by decide)) hj hys g5 ⟨_,ts++[p],bg++[⟨sh,pl,r,decide (wr ="late")⟩],a5,c5,rfl,by rw[afk];rfl,by rw[akn,hl1];rfl,by rw[akn,hl2];rfl,λi t c h1 h2=>?_,λc hc=>?_,Za,B5.sb (EH l _ _) (aWz oj),by lia,λx o nx e=>?_⟩
  .by_cases hi:i<j
   .rw [a9E (by lia)]at h1 h2;obtain⟨wr',e1,e2⟩:=hat i t c h1 h2;refine⟨wr',?_,e2⟩;have L8:t≠b:=λz=>by rw[z,B'.at']at e1;cases e1
    have jF:=s5 _ _ L8 e1;rw[Zc (λz=>by rw[z,g5]at jF;cases jF)];exact jF
   .have hi2:i=j:=by have:=(ajE.mp h1).1;rw[akn,aze]at this;lia
    subst hi2;rw[agf (by lia),show i-ts.length=0 by lia]at h1;rw[agf (by lia),show i-bg.length=0 by lia]at h2;cases h1;cases h2;exact⟨wr,by rw[Zc WY];exact ep,rfl,hw⟩
  .rcases aXY.mp hc with hc|hc
   .exact hcf c hc
   .rw [axK.mp hc];exact⟨FL,FJ,LY,oY,hr⟩
  .have L6:x≠l:=λz=>by
    rw[z]at e;have:=u4 _ _ oj e;rw[this]at hl;cases hl
   rw[Zc L6];exact s5 _ _ nx (u' _ _ nx e)
 rintro ys σ G _ ⟨v0,ts,bg,a',c',rfl,rfl,hl1,hl2,hat,hcf,g1,B',hc',u'⟩;refine⟨l,_,rfl,.inl ⟨ao.of g1,λtp htp=>⟨(sL 3),λpp hpp=>?_⟩⟩⟩;have s5:=Zd htp (.tup (ts.map V.ref));have s6:=s5.trans (Zd hpp (.tup [.int (1+r3),.str kd,.ref tp]));refine k pp tp ts (1+r3) kd bg a' c' _ Za ⟨Zd hpp _ _ _ Za,by show ts.length=bg.length;lia,λi t c h1 h2=>by obtain⟨wr,e1,e2⟩:=hat i t c h1 h2;exact⟨wr,s6 _ _ e1,e2⟩,hcf⟩ Qp (by show 1<=1+r3;lia) (by show 1+r3<=16;lia) (by show 1<=bg.length;lia) (by show bg.length<=4;lia) (B'.same s6) (by lia) (u'.trans (s6.sb b))
inductive wV(vs:List V)(H:Hp)(Q:VK)(E:XK):Prop
 |mk (b:Addr) (a q c x y:Int):vs=[.ref b,.int x,.int y]->aA H b a q c->c<1099511627770->0<x->x<=y->y<1073741824->(∀(r a' c':Int)(H':Hp),1<=r->r<=y->aA H' b a' q c'->c'<=c+2->SB b H H'->Q (.int r) H')->wV vs H Q E
example:(Af Hq cA):=by
 obtain ⟨b,a,q,c,x,y,rfl,B,hc,x0,xy,y1,k⟩:=h;refine⟨_,(Ze (cX 3 nd (ZP aW (Zm cA hr.m rfl (pc (pv 0) (pc Zi Zb))) Zi (Zw _)))
   (Zg (Zs (aj ZJ Zi (Zm cA hr.m rfl (pc (pv 0) (pc (DP (ZI (pv 3)) (pv 2) (pv 1)) Zb))))))),?_⟩
 refine⟨_,rfl,b,a,q,c,8,rfl,B,by lia,by decide,by decide,λr a1 c1 G1 r0 r1 B1 hc1 t1=>?_⟩;refine⟨rfl,gN ?_⟩;refine⟨_,rfl,_,rfl,_,rfl,Od (λz=>?_) (λz=>?_)⟩
 .refine ⟨_,rfl,b,a1,q,c1,y,rfl,B1,by lia,by lia,by lia,λr2 a2 c2 G2 yX xG B2 hc2 t2=>?_⟩;exact⟨_,_,rfl,rfl,k (1+r2) a2 c2 G2 (by lia) (by lia) B2 (by lia) (t1.trans t2)⟩
 .refine ⟨_,rfl,b,a1,q,c1,x,rfl,B1,by lia,by lia,by lia,λr2 a2 c2 G2 yX xG B2 hc2 t2=>?_⟩;exact⟨_,_,rfl,rfl,k (1+r2) a2 c2 G2 (by lia) (by lia) B2 (by lia) (t1.trans t2)⟩
inductive Dd where
 |rd (sp:Int)
 |wt (sp x:Int)
def Dd.sp:Dd->Int
 | .rd sp=>sp
 | .wt sp _=>sp
def Dd.vs:Dd->List V
 | .rd sp=>[.str "read",.int sp]
 | .wt sp x=>[.str "write",.int sp,.int x]
def Dd.ok:Dd->Prop
 | .rd sp=>0<=sp/\sp<=9999
 | .wt sp x=>(0<=sp/\sp<=9999)/\x.natAbs<10 ^ 40
inductive tW(vs:List V)(H:Hp)(Q:VK)(E:XK):Prop
 |mk (b:Addr) (a q c:Int):vs=[.ref b]->aA H b a q c->c<400000000->(∀(x a' c':Int)(H':Hp),x.natAbs<10 ^ 40->aA H' b a' q c'->c'<=c+8->SB b H H'->Q (.int x) H')->tW vs H Q E
example:(Ab GO cA):=by
 obtain ⟨b,a,q,c,rfl,B,hc,k⟩:=h;refine⟨_,(Ze (cX 1 nd (Zm cA hr.m rfl (pc (pv 0) (pc Zi Zb))))
   (Ze (aE (Zu qL (pv 1) Zi (Zw _)) (Ze (cX 2 nd (Zm cA hr.m rfl (pc (pv 0) (pc (ak (Zl (K:=K) rfl) (ZV (pc Zi (pc Zi (pc Zi Zb)))) (pv 1) (λ_ _=>rfl)) Zb))))
   (Zg (Zs (ak (Zl (K:=K) rfl) (ZV (pc (pv 2) (pc (aj ZJ Zi (pv 2)) (pc (aj BX (xV NP Zi) (pv 2)) Zb)))) (pv 1) (λ_ _=>rfl))))) Zt)
   (Ze (cX 2 nd Zi)
   (Ze (yG aAH rfl (ZY rfl T.vh (pc (aj ZJ Zi (Zm cA hr.m rfl (pc (pv 0) (pc Zi Zb)))) Zb)) (bE 3 nd) (Zg (cX 2 nd (aj ZJ (aj sZ (pv 2) (aj NQ Zi Zi)) (Zm cA hr.m rfl (pc (pv 0) (pc (aj NQ Zi Zi) Zb)))))))
   (Zg (Zs (ak (Zl (K:=K) rfl) (ZV (pc (pv 2) (pc (aj BX Zi (pv 2)) Zb))) (Zm cA hr.m rfl (pc (pv 0) (pc Zi Zb))) (λ_ _=>rfl)))))))),?_⟩
 refine⟨_,rfl,b,a,q,c,4,rfl,B,by lia,by decide,by decide,λr1 a1 c1 H1 zT CF B1 hc1 s1=>gN ?_⟩;try dsimp only
 refine⟨_,rfl,_,_,rfl,rfl,_,rfl,yE (λz=>?_) (λz=>?_)⟩
 .obtain ⟨n,hn,n0,n1⟩:∃n:Int,eG [V.int 9,V.int 99,V.int 99] r1=some (.int n)/\1<=n/\n<=99:=by
   have h:r1=0\/r1=1\/r1=2:=by lia
   rcases h with rfl|rfl|rfl
   .exact ⟨9,cO,by decide,by decide⟩
   .exact ⟨99,gI,by decide,by decide⟩
   .exact ⟨99,je,by decide,by decide⟩
  refine⟨_,rfl,(sL 3),λp1 hp1=>⟨_,rfl,p1,_,_,_,rfl,rfl,ao.of Za,hn,b,a1,q,c1,n,rfl,B1.same (Zd hp1 _),by lia,by lia,by lia,λr2 a2 c2 H2 yX xG B2 hc2 s2=>gN ?_⟩⟩;try dsimp only
  obtain⟨x,hx,x1⟩:∃x:Int,eG [V.int r2,V.int (1+r2),V.int (-1-r2)] r1=some (.int x)/\x.natAbs<10 ^ 40:=by
   have h:r1=0\/r1=1\/r1=2:=by lia
   have Rq:1000<=10 ^ 40:=by decide
   rcases h with rfl|rfl|rfl
   .exact ⟨_,cO,by lia⟩
   .exact ⟨_,gI,by lia⟩
   .exact ⟨_,je,by lia⟩
  exact⟨_,rfl,_,rfl,_,_,rfl,rfl,_,rfl,_,rfl,_,_,rfl,rfl,(sL 3),λp2 hp2=>⟨_,rfl,p2,_,_,_,rfl,rfl,ao.of Za,hx,k x a2 c2 _ x1 (B2.same (Zd hp2 _)) (by lia) (((s1.trans ((Zd hp1 _).sb b)).trans s2).trans ((Zd hp2 _).sb b))⟩⟩
 .dsimp only[dw];refine gN ?_;try dsimp only
  refine⟨_,rfl,b,a1,q,c1,4,rfl,B1,by lia,by decide,by decide,λr2 a2 c2 H2 yX xG B2 hc2 s2=>⟨_,_,rfl,rfl,_,rfl,by lia,by lia,?_⟩⟩;have e7:(10:Int) ^ (7:Int).toNat=10000000:=by decide
  refine ON (lo:=0) (n:=(1+r2).toNat) (λi σ G=>∃(v3:Option V)(z a' c':Int),σ=[some (.ref b),some (.int r1),some (.int z),v3]/\0<=z/\z<10000000 ^ i/\aA G b a' q c'/\c'<=c2+(i:Int)/\SB b H G)
   ⟨none,0,a2,c2,rfl,by decide,by decide,B2,by lia,s1.trans s2⟩ ?_ ?_
  .rintro i σ G hi ⟨v3,z,a',c',rfl,z0,z1,B',hc',s'⟩;refine gN ?_;try dsimp only
   refine⟨_,rfl,_,_,rfl,rfl,⟨by decide,by decide,by decide⟩,_,_,rfl,rfl,.inr (by rw[e7];decide),_,rfl,_,_,rfl,rfl,⟨by decide,by decide,by decide⟩,b,a',q,c',_,rfl,B',by lia,by rw[e7];decide,by rw[e7];decide,λr3 a3 c3 H3 CD Br B3 hc3 s3=>⟨_,_,rfl,rfl,gN ⟨_,_,a3,c3,rfl,?_,?_,B3,by lia,s'.trans s3⟩⟩⟩
   .rw [e7];lia
   .rw [e7]at Br ⊢;rw[Int.pow_succ];generalize(10000000:Int) ^ i=X at *;lia
  .rintro σ G ⟨v3,z,a',c',rfl,z0,z1,B',hc',s'⟩;have zb:z<10000000000000000000000000000:=by
    have h:(1+r2).toNat=1\/(1+r2).toNat=2\/(1+r2).toNat=3\/(1+r2).toNat=4:=by lia
    have p1:(10000000:Int) ^ 1=10000000:=by decide
    have p2:(10000000:Int) ^ 2=100000000000000:=by decide
    have p3:(10000000:Int) ^ 3=1000000000000000000000:=by decide
    have p4:(10000000:Int) ^ 4=10000000000000000000000000000:=by decide
    rcases h with e|e|e|e <;> rw[e]at z1 <;> lia
   have Rq:10000000000000000000000000000<=10 ^ 40:=by decide
   refine⟨_,rfl,_,rfl,_,_,rfl,rfl,(sL 2),λp2 hp2=>⟨_,rfl,b,a',q,c',2,rfl,B'.same (Zd hp2 _),by lia,by decide,by decide,λr4 a4 c4 H4 F2 JU B4 hc4 s4=>?_⟩⟩;have np:b≠p2:=Zf B'.at' hp2;obtain⟨x,hx,x1⟩:∃x:Int,eG [V.int z,V.int (0-z)] r4=some (.int x)/\x.natAbs<10 ^ 40:=by
    have h:r4=0\/r4=1:=by lia
    rcases h with rfl|rfl
    .exact ⟨_,cO,by lia⟩
    .exact ⟨_,gI,by lia⟩
   exact⟨p2,_,_,_,rfl,rfl,ao.of (s4 _ _ (aWz np) Za),hx,k x a4 c4 _ x1 B4 (by lia) ((s'.trans ((Zd hp2 _).sb b)).trans s4)⟩
inductive uo(vs:List V)(H:Hp)(Q:VK)(E:XK):Prop
 |mk (b l:Addr) (a q c size:Int) (ns:List Int):vs=[.ref b,.int size,.ref l]->aA H b a q c->l≠b->c<350000000->1<=size->size<=16->H l=some (.lst (ns.map V.int))->1<=ns.length->ns.length<=20->(∀x∈ns,0<=x/\x<=100000/\x<=9999/size)->(∀(t:Addr)(d:Dd)(a' c':Int)(H':Hp),H' t=some (.tup d.vs)->d.ok->d.sp/size∈ns->aA H' b a' q c'->c'<=c+12->SB b H H'->Q (.ref t) H')->uo vs H Q E
example:(Ai GL cA GO):=by
 obtain ⟨b,l,a,q,c,size,ns,rfl,B,oj,hc,z0,z1,hl,l0,l1,CO,k⟩:=h;refine⟨_,(Ze (cX 3 nd (Zm cA hr.m rfl (pc (pv 0) (pc Zi Zb))))
   (Ze (cX 4 nd (Zo (Zgq rfl) rfl T.Lr Zif (pc Zi (pc (aj ZJ (aj sZ (ak (Zl (K:=K) rfl) (pv 2) (Zm cA hr.m rfl (pc (pv 0) (pc (Zo (ZF (K:=K) rfl) rfl T.we aUV (pc (pv 2) Zb)) Zb))) (λ_ _=>rfl)) (pv 1)) (Zm cA hr.m rfl (pc (pv 0) (pc (pv 1) Zb)))) Zb))))
   (Zg (Zs (DP (Zu aW (pv 3) Zi (Zw _)) (ZN (pc ZU (pc (pv 4) (pc (Zm GO hr.m rfl (pc (pv 0) Zb)) Zb)))) (ZN (pc ZU (pc (pv 4) Zb)))))))),?_⟩
 refine⟨_,rfl,b,a,q,c,2,rfl,B,by lia,by decide,by decide,λr1 a1 c1 H1 zT CF B1 hc1 s1=>gN ?_⟩;try dsimp only
 have hl1:=s1 _ _ oj hl;refine⟨_,rfl,_,rfl,_,rfl,l,_,rfl,.inl (ao.of hl1),b,a1,q,c1,_,rfl,B1,by lia,by rw[apM];lia,by rw[apM];lia,λr2 a2 c2 H2 yX xG B2 hc2 s2=>?_⟩;rw[apM]at xG;obtain⟨x,hx,xm⟩:=Z5 yX xG;have xb:=CO x xm;refine⟨l,_,_,_,rfl,rfl,ao.of (s2 _ _ oj hl1),hx,_,rfl,_,_,rfl,rfl,.inl ⟨by lia,by lia⟩,_,rfl,_,rfl,b,a2,q,c2,size,rfl,B2,by lia,by lia,by lia,λr3 a3 c3 H3 CD Br B3 hc3 s3=>⟨_,_,rfl,rfl,_,_,rfl,gN ?_⟩⟩;have m0:0<=x*size:=Int.mul_nonneg xb.1 (by lia);have ok:0<=(if x*size+r3<9999 then x*size+r3 else 9999)/\(if x*size+r3<9999 then x*size+r3 else 9999)<=9999:=by split <;> lia
 have Qo:(if x*size+r3<9999 then x*size+r3 else 9999)/size∈ns:=by
  split
  .have e:(x*size+r3)/size=x:=by
    rw[Int.add_comm,aY6 _ _ (by lia),a7q CD Br,Int.zero_add]
   rw[e];exact xm
  .have h1:9999/size<=x:=by
    have h2:9999/size<x+1:=(Int.ediv_lt_iff_lt_mul (by lia)).mpr (by rw[Int.add_mul,Int.one_mul];lia);lia
   rw[show 9999/size=x by have:=xb.2.2;lia];exact xm
 generalize(if x*size+r3<9999 then x*size+r3 else 9999)=sp at *;try dsimp only
 have u3:=(s1.trans s2).trans s3;refine⟨_,rfl,rfl,_,rfl,Od (λz=>?_) (λz=>?_)⟩
 .exact ⟨_,rfl,_,rfl,b,a3,q,c3,rfl,B3,by lia,λy a4 c4 H4 yb B4 hc4 s4=>⟨(sL 3),λt ht=>k t (.wt sp y) a4 c4 _ Za ⟨ok,yb⟩ Qo (B4.same (Zd ht _)) (by lia) ((u3.trans s4).trans ((Zd ht _).sb b))⟩⟩
 .exact ⟨_,rfl,(sL 2),λt ht=>k t (.rd sp) a3 c3 _ Za ok Qo (B3.same (Zd ht _)) (by lia) (u3.trans ((Zd ht _).sb b))⟩
structure zm(mem:Int->Int)(ps:List (Int×Int)):Prop where
 up:ps.Pairwise λa b=>a.1<b.1
 mm:∀s v,(s,v)∈ps↔mem s=v/\v≠0
theorem zm.uniq{mem:Int->Int}{ps qs:List (Int×Int)}(h1:zm mem ps)(h2:zm mem qs):ps=qs:=by
 have nd:∀{l:List (Int×Int)},(l.Pairwise λa b=>a.1<b.1)->l.Nodup:=λh=>h.imp λ{a b} z e=>by rw[e]at z;lia
 have pm:ps.Perm qs:=(aZQ (nd h1.up) (nd h2.up)).mpr λq=>by
  obtain⟨s,v⟩:=q;rw[h1.mm,h2.mm]
 exact List.Perm.eq_of_pairwise (le:=λa b=>a.1<b.1) (λa b _ _ z1 z2=>by lia) h1.up h2.up pm
theorem zm.congr{mem mem':Int->Int}{ps:List (Int×Int)}(h:zm mem ps)(e:∀s,mem s=mem' s):zm mem' ps:=⟨h.up,λs v=>by rw[h.mm,e]⟩
def rM(H:Hp)(l:Addr)(ps:List (Int×Int)):Prop:=∃as:List Addr,H l=some (.lst (as.map V.ref))/\as.length=ps.length/\∀(i:Nat)(a:Addr)(p:Int×Int),as[i]?=some a->ps[i]?=some p->H a=some (.tup [.int p.1,.int p.2])
theorem rM.same{H H':Hp}{l:Addr}{ps:List (Int×Int)}(h:rM H l ps)(s:av H H'):rM H' l ps:=by
 obtain⟨as,h1,h2,h3⟩:=h;exact⟨as,s _ _ h1,h2,λi a p e1 e2=>s _ _ (h3 i a p e1 e2)⟩
theorem rM.eqv{H:Hp}{l m:Addr}{ps:List (Int×Int)}(h1:rM H l ps)(h2:rM H m ps)(hl:ps.length<=1000):Eqv 2 H (.ref l) (.ref m):=by
 obtain⟨as,a1,a2,a3⟩:=h1;obtain⟨bs,b1,b2,b3⟩:=h2;refine .inr ⟨l,m,_,_,rfl,rfl,.inl ⟨a1,b1⟩,by rw[apM,apM,a2,b2],by rw[apM,a2];exact hl,λi u v e1 e2=>?_⟩;rw[afQ]at e1 e2;cases ha:as[i]? with
 |none=>rw[ha]at e1;cases e1
 |some a=>
  cases hb:bs[i]? with
  |none=>rw[hb]at e2;cases e2
  |some b=>
   rw[ha]at e1;rw[hb]at e2;cases e1;cases e2;have hi:i<ps.length:=by rw[<-a2];exact(ajE.mp ha).1
   have hp:ps[i]?=some ps[i]:=a4h hi;exact Eqv.HV (a3 i a _ ha hp) (b3 i b _ hb hp) (by show 2<=1000;decide) λx hx=>by
    rcases awk.mp hx with rfl|hx
    .trivial
    .rw [axK.mp hx];trivial
def ju(H:Hp)(bd:Addr)(bk:Int->Int)(n:Nat):Prop:=∃kvs,H bd=some (.dK kvs)/\(kvs.length<=n/\KI kvs)/\∀s,(aK kvs (Sum.inl s:Key)).getD (V.int 0)=V.int (bk s)
theorem ju.frame{H H':Hp}{bd:Addr}{bk:Int->Int}{n:Nat}(h:ju H bd bk n)(f:∀o,H bd=some o->H' bd=some o):ju H' bd bk n:=by
 obtain⟨kvs,h1,h2⟩:=h;exact⟨kvs,f _ h1,h2⟩
theorem ju.put{H:Hp}{bd:Addr}{bk:Int->Int}{n:Nat}{kvs:List (Key×V)}(h2:kvs.length<=n/\KI kvs)(h3:∀s,(aK kvs (Sum.inl s:Key)).getD (V.int 0)=V.int (bk s))(sp v:Int):ju (upd H bd (.dK (putK kvs (Sum.inl sp) (V.int v)))) bd (yz bk sp v) (n+1):=by
 refine⟨_,Za,⟨atR (Ja ..) (by lia),h2.2.put ..⟩,λs=>?_⟩;rw[ER];unfold yz;by_cases c:s=sp
 .rw [auJ (by rw[c]),auJ c];rfl
 .rw [ale (λz=>c (aLX z)),ale c];exact h3 s
theorem ju.le{H:Hp}{bd:Addr}{bk:Int->Int}{n m:Nat}(h:ju H bd bk n)(e:n<=m):ju H bd bk m:=by
 obtain⟨kvs,h1,h2,h3⟩:=h;exact⟨kvs,h1,⟨by lia,h2.2⟩,h3⟩
noncomputable def bI(g:aM)(h:Nat)(d:Dd)(st:aq):aq:=match d with
 | .rd sp=>bP g h (sp/g.size) st
 | .wt sp x=>mJ g h sp x st
def NF(bk:Int->Int):Dd->Int->Int
 | .rd _=>bk
 | .wt sp v=>yz bk sp v
inductive wR(vs:List V)(H:Hp)(Q:VK)(E:XK):Prop
 |mk (b:Addr) (a q c:Int):vs=[.ref b]->aA H b a q c->c<300000000->(∀(t tn tf:Addr)(size:Int)(cn cf:Cf)(a' c':Int)(H':Hp),H' t=some (.tup [.int size,.ref tn,.ref tf])->yJ H' tn cn->yJ H' tf cf->1<=size->size<=16->aA H' b a' q c'->c'<=c+50->SB b H H'->Q (.ref t) H')->wR vs H Q E
example:(Ae Hr GN A1):=by
 obtain ⟨b,a,q,c,rfl,B,hc,k⟩:=h;refine⟨_,(Ze (rJ (Zm GN hr.m rfl (pc (pv 0) Zb)) (ZD (K:=K) (n:=3) rfl rfl (Zn (bE 1 nd) (Zn (bE 2 nd) (Zn (bE 3 nd) ZC)))))
   (Zg (Zs (ZN (pc (pv 1) (pc (ak (ZH (K:=K) rfl) (pv 3) Zi (λ_ _=>rfl)) (pc (Zm A1 hr.m rfl (pc (pv 0) Zb)) Zb))))))),?_⟩
 refine⟨_,rfl,b,a,q,c,rfl,B,hc,λpp tp Wa size kind bg a1 c1 H1 hpp pa Qp z0 z1 l1 l4 B1 hc1 s1=>⟨pp,_,rfl,aP.of hpp,rfl,_,_,rfl,gN ⟨_,_,rfl,gN ⟨_,_,rfl,gN ⟨rfl,?_⟩⟩⟩⟩⟩;try dsimp only
 have nt:∀{x ys},H1 x=some (.tup ys)->x≠b:=λ{x ys} e z=>by rw[z,B1.at']at e;cases e
 obtain⟨t0,Rb⟩:∃t0,Wa[0]?=some t0:=⟨_,a4h (by rw[pa.len];exact l1)⟩;obtain⟨c0,Rh⟩:∃c0,bg[0]?=some c0:=⟨_,a4h l1⟩;obtain⟨wr,ew,e1,e2⟩:=pa.at_ 0 t0 _ Rb Rh;obtain⟨q1,q2,q3,q4,q5⟩:=pa.cf _ (aHL Rh);refine⟨_,rfl,_,rfl,tp,_,_,_,rfl,rfl,aP.of pa.top,wm (j:=0) (by rw[afQ,Rb];rfl),_,rfl,b,a1,q,c1,rfl,B1,by lia,λp sh pl r Pa a2 c2 H2 e3 f1 f2 f3 f4 f5 f6 B2 hc2 s2=>⟨(sL 3),λt ht=>?_⟩⟩;have s3:=Zd ht (.tup [V.int size,V.ref t0,V.ref p]);refine k t t0 p size c0 ⟨sh,pl,r,decide (Pa ="late")⟩ a2 c2 _ Za ⟨wr,s3 _ _ (s2 _ _ (nt ew) ew),e1,e2,q1,q2,q3,q4,q5⟩ ⟨Pa,s3 _ _ e3,rfl,f6,f1,f2,f3,f4,f5⟩ z0 z1 (B2.same s3) (by lia) ((s1.trans s2).trans (s3.sb b))
inductive uf(vs:List V)(H:Hp)(Q:VK)(E:XK):Prop
 |mk (b l:Addr) (a q c size:Int) (ns:List Int):vs=[.ref b,.int size,.ref l]->aA H b a q c->l≠b->c<340000000->1<=size->size<=16->H l=some (.lst (ns.map V.int))->1<=ns.length->ns.length<=20->(∀x∈ns,0<=x/\x<=100000/\x<=9999/size)->(∀(u t:Addr)(h:Nat)(d:Dd)(a' c':Int)(H':Hp),H' u=some (.tup [.int (h:Int),.ref t])->H' t=some (.tup d.vs)->h<2->d.ok->d.sp/size∈ns->aA H' b a' q c'->c'<=c+13->SB b H H'->Q (.ref u) H')->uf vs H Q E
example:(o7 Hh cA GL):=by
 obtain ⟨b,l,a,q,c,size,ns,rfl,B,oj,hc,z0,z1,hl,l0,l1,CO,k⟩:=h;refine⟨_,(Ze (cX 3 nd (Zm cA hr.m rfl (pc (pv 0) (pc Zi Zb))))
   (Zg (Zs (ZN (pc (pv 3) (pc (Zm GL hr.m rfl (pc (pv 0) (pc (pv 1) (pc (pv 2) Zb)))) Zb)))))),?_⟩
 refine⟨_,rfl,b,a,q,c,2,rfl,B,by lia,by decide,by decide,λr1 a1 c1 H1 zT CF B1 hc1 s1=>gN ?_⟩;try dsimp only
 obtain⟨h,rfl,hh⟩:∃h:Nat,r1=(h:Int)/\h<2:=⟨r1.toNat,by lia,by lia⟩;refine⟨_,rfl,_,rfl,_,rfl,_,rfl,b,l,a1,q,c1,size,ns,rfl,B1,oj,by lia,z0,z1,s1 _ _ oj hl,l0,l1,CO,λt d a2 c2 H2 et ok iU B2 hc2 s2=>⟨(sL 2),λu hu=>?_⟩⟩;have s3:=Zd hu (.tup [V.int (h:Int),V.ref t]);exact k u t h d a2 c2 _ Za (s3 _ _ et) hh ok iU (B2.same s3) (by lia) ((s1.trans s2).trans (s3.sb b))
noncomputable def Ls(g:aM)(h:Nat)(st:aq):Dd->V
 | .rd sp=>.int (kE g ((bI g h (.rd sp) st).at_ h) sp)
 | .wt _ _=>.aO
inductive xh(K:W.Frag)(vs:List V)(H:Hp)(Q:VK)(_v3:XK):Prop
 |mk (A:TA) (g:aM) (st:aq) (os:OS) (t:Addr) (h:Nat) (d:Dd):vs=[.ref A.p,.int (h:Int),.ref t]->rL K H A g st os->h<2->H t=some (.tup d.vs)->d.sp/g.size∈g.U->(∀H' e' os' tp,H' tp=some (.tup [Ls g h st d,.ref A.ev])->rL K H' (A.re e') g (jd (bI g h d st)) os'->wF g.n H' A.ev (bI g h d st).ev->(bI g h d st).ev.length<=100->¬OW (A.re e') os' A.ev->bM (OW A os) H H' (OW (A.re e') os')->Q (.ref tp) H')->xh K vs H Q _v3
example:(Ah Ho E1 E5):=by
 obtain ⟨A,g,st,os,t,h,d,rfl,R,hh,ht,bU,q⟩:=h;refine⟨_,(Ze (aE (Zu aW (ak (ZH (K:=K) rfl) (pv 2) Zi (λ_ _=>rfl)) ZU (Zw _)) (Zg (Zs (Zj E1 hr.m T.aL (pv 0) (pc (pv 1) (pc (ak (ZH (K:=K) rfl) (pv 2) Zi (λ_ _=>rfl)) Zb))))) Zt)
   (Zg (Zs (ZN (pc Sh (pc (Zj E5 hr.m T.aL (pv 0) (pc (pv 1) (pc (ak (ZH (K:=K) rfl) (pv 2) Zi (λ_ _=>rfl)) (pc (ak (ZH (K:=K) rfl) (pv 2) Zi (λ_ _=>rfl)) Zb)))) Zb)))))),?_⟩
 obtain⟨dx,h1⟩:=R.at_.ob;cases d with
 |rd sp=>
  refine⟨_,rfl,t,_,_,_,rfl,rfl,aP.of ht,cO,rfl,_,rfl,cB (a5h rfl) ?_⟩;exact⟨_,rfl,A.p,dx,_,rfl,h1,az ..,_,rfl,_,rfl,t,_,_,_,rfl,rfl,aP.of ht,gI,A,g,st,os,h,sp,rfl,R,hh,bU,q⟩
 |wt sp x=>
  refine⟨_,rfl,t,_,_,_,rfl,rfl,aP.of ht,cO,rfl,_,rfl,bK (by decide +kernel) ?_⟩;dsimp only[dw];refine⟨_,rfl,A.p,dx,_,rfl,h1,az ..,_,rfl,_,rfl,t,_,_,_,rfl,rfl,aP.of ht,gI,_,rfl,t,_,_,_,rfl,rfl,aP.of ht,je,A,g,st,os,h,sp,x,rfl,R,hh,bU,λH2 e' eS r1 r2 r3 r4 r5=>⟨(sL 2),λtp htp=>?_⟩⟩;have s3:=Zd htp (.tup [V.aO,.ref A.ev]);exact q _ e' eS tp Za (r1.same s3) (r2.frame (λo e=>s3 _ _ e) λx ys e=>s3 _ _ e) r3 r4 (r5.trans (bM.same s3))
theorem Zki{g:aM}{st:aq}{h:Nat}{d:Dd}{bk:Int->Int}{x:Int}(hs:0<g.size)(w:aJ g st)(hh:h<2)(l:∀x,Lw g bk x st):Lw g (NF bk d) x (jd (bI g h d st)):=by
 cases d with
 |rd sp=>exact(N5 hs w hh (l x)).jd
 |wt sp v=>exact(Y9 hs w hh l).jd
def vD:V->PyData
 | .bl b=>.bool b
 | .int i=>.int i
 | .str s=>.str s
 |_=>.none
def mH(e:List V):PyData:=.tuple (e.map vD)
def ni(es:List (List V)):Str:=(PyData.list (es.map mH)).shown
theorem SI(t:Str):∀(ts:List Str)(k:Nat)(acc:Str),(textFrom k acc ts).length+t.length<=(textFrom k acc (ts++[t])).length
 | [],k,acc=>by
  simp only[aRv,textFrom,Str.length_append];lia
 |u ::ts,k,acc=>by
  rw[apU];simp only[textFrom];exact SI t ts _ _
theorem ZhL(m:Nat):0<(PyData.int (m:Int)).shown.length:=by
 simp only[PyData.shown];show 0<(Str.ofString (toString ((m:Nat):Int))).cps.size;rw[<-apo,W.KIN.signs_num,apM];exact Nat.length_toDigits_pos
theorem UH(d:PyData):∀ds:List PyData,PyData.shownAll (ds++[d])=PyData.shownAll ds++[d.shown]
 | []=>by simp only[aRv,PyData.shownAll]
 |e ::ds=>by
  rw[apU];simp only[PyData.shownAll,apU];rw[UH d ds]
theorem Zgb(ds:List PyData)(m:Nat):(PyData.list ds).shown.length<(PyData.list (ds++[.int (m:Int)])).shown.length:=by
 have q:=SI (PyData.int (m:Int)).shown (PyData.shownAll ds) 0 (Str.ofString "[");have p:=ZhL m;simp only[PyData.shown]at p ⊢;rw[UH];simp only[PyData.shown]at q ⊢;unfold listText;rw[Str.length_append,Str.length_append];lia
structure HeldAt(G:Hp)(n:Nat)(lh:Addr)(hs:List (Addr×Addr×List (List V))):Prop where
 top:G lh=some (.lst (hs.map λp=>V.ref p.1))
 at_:∀p∈hs,G p.1=some (.tup [.ref p.2.1,.str (ni p.2.2)])/\wF n G p.2.1 p.2.2/\p.2.2.length<=900/\p.2.1≠lh
 un:(hs.map λp=>p.2.1).Nodup
theorem HeldAt.frame{G G1:Hp}{n:Nat}{lh:Addr}{hs:List (Addr×Addr×List (List V))}(h:HeldAt G n lh hs)(f:∀x o,G x=some o->((x=lh\/∃p∈hs,x=p.2.1)\/¬Mt o)->G1 x=some o):HeldAt G1 n lh hs:=
 ⟨f _ _ h.top (.inl (.inl rfl)),λp hp=>by
  obtain⟨h1,h2,h3⟩:=h.at_ p hp;exact⟨f _ _ h1 (.inr id),h2.frame (λo e=>f _ _ e (.inl (.inr ⟨p,hp,rfl⟩))) λx ys e=>f _ _ e (.inr id),h3⟩,h.un⟩
theorem HW{n:Nat}{e:List V}{G:Hp}{a:Addr}(he:Ev n e)(n4:n<=4)(h:G a=some (.tup e)):AI (λ_=>False) G 1 (.ref a) (mH e):=by
 have fl:∀v∈e,ou v (vD v):=λv hv=>by
  have big:∀i:Int,i.natAbs<2 ^ 40->i.natAbs.log2<1920:=λi hi=>by
   by_cases z:i.natAbs=0
   .rw [z];decide
   .exact a7K ((Nat.log2_lt z).mpr hi) (by decide)
  have Rq:1000000<2 ^ 40:=by decide
  rcases he with⟨k,hk,rfl⟩|⟨k,b,⟨h1,h2,h3⟩,rfl|rfl⟩|⟨k,b,⟨h1,h2,h3⟩,rfl⟩ <;> simp only[afg,aNV,aQw]at hv
  .rcases hv with rfl|rfl
   .exact rfl
   .exact ⟨rfl,big _ (by lia)⟩
  all_goals
   rcases hv with rfl|rfl|rfl
   .exact rfl
   .exact ⟨rfl,big _ (by lia)⟩
   .exact ⟨rfl,big _ (by lia)⟩
 refine .inr ⟨a,e,e.map vD,rfl,id,?_,.inr ⟨h,rfl⟩⟩;have key:∀{xs:List V},(∀v∈xs,ou v (vD v))->Paired ou xs (xs.map vD):=λ{xs}=>by
  induction xs with
  |nil=>exact λ_=>.nil
  |cons x xs ih=>exact λh=>.cons (h x bcs) (ih λv hv=>h v (asW _ hv))
 exact key fl
theorem NN{n:Nat}{G:Hp}{ts:List Addr}{es:List (List V)}(n4:n<=4)(he:∀e∈es,Ev n e)(hl:ts.length=es.length)(h:∀(i:Nat)(t:Addr)(e:List V),ts[i]?=some t->es[i]?=some e->G t=some (.tup e)):Paired (AI (λ_=>False) G 1) (ts.map V.ref) (es.map mH):=by
 induction ts generalizing es with
 |nil=>
  cases es with
  |nil=>exact .nil
  |cons e es=>cases hl
 |cons t ts ih=>
  cases es with
  |nil=>cases hl
  |cons e es=>exact .cons (HW (he e bcs) n4 (h 0 t e rfl rfl)) (ih (λe' h'=>he e' (asW _ h')) (Nat.succ.inj hl) λi u f h1 h2=>h (i+1) u f h1 h2)
theorem KP{n:Nat}{es:List (List V)}(n4:n<=4)(he:∀e∈es,Ev n e)(hl:es.length<=900):(ni es).length<=900*60+3/\∀m:Nat,m<1000->(PyData.list (es.map mH++[.int (m:Int)])).shown.length<=901*60+3:=by
 have one:∀d∈es.map mH,d.shown.length<=58:=λd hd=>by
  obtain⟨e,h,rfl⟩:=atX.mp hd;have V7:∀v∈e,(vD v).shown.length<=13:=λv hv=>by
   have nat:∀k:Nat,k<=4->(PyData.int (k:Int)).shown.length<=13:=λk hk=>PyData.shown_int_le (by have:4<10 ^ 12:=(by decide);lia);have int:∀b:Int,0<=b->b<=1000000->(PyData.int b).shown.length<=13:=λb h0 h1=>PyData.shown_int_le (by have:1000000<10 ^ 12:=(by decide);lia);rcases he e h with⟨k,hk,rfl⟩|⟨k,b,⟨h1,h2,h3⟩,rfl|rfl⟩|⟨k,b,⟨h1,h2,h3⟩,rfl⟩ <;> simp only[afg,aNV,aQw]at hv
   .rcases hv with rfl|rfl
    .decide +kernel
    .exact nat k (by lia)
   all_goals
    rcases hv with rfl|rfl|rfl
    .decide +kernel
    .exact nat k (by lia)
    .exact int b h2 h3
  have l3:e.length<=3:=by
   rcases he e h with⟨k,hk,rfl⟩|⟨k,b,_,rfl|rfl⟩|⟨k,b,_,rfl⟩ <;> exact Nat.le_of_ble_eq_true rfl
  refine atR (ZgU (B:=13) (m:=3) (λd hd=>?_) (by rw[apM];exact l3)) (by decide);obtain⟨v,hv,rfl⟩:=atX.mp hd;exact V7 v hv
 refine⟨UB one (by rw[apM];exact hl),λm hm=>UB (B:=58) (λd hd=>?_) (by rw[akn,apM,aze];lia)⟩;rcases aXY.mp hd with hd|hd
 .exact one d hd
 .rw [axK.mp hd];exact atR (PyData.shown_int_le (by have:1000<10 ^ 12:=(by decide);lia)) (by decide)
theorem ZiD{xs:List V}{y:V}:eG (xs++[y]) (-1)=some y:=by
 have e:(xs++[y])[xs.length]?=some y:=by rw[agf (aI1 _),a0R];rfl
 have i:uN (xs++[y]).length (-1)=some xs.length:=by
  unfold uN;rw[akn,aze,ale (by decide),auJ (by lia)];congr 1
  lia
 unfold eG;rw[i];exact e
theorem SH{R:V->PyData->Prop}{x:V}{e:PyData}:∀{xs:List V}{ds:List PyData},Paired R xs ds->R x e->Paired R (xs++[x]) (ds++[e])
 |_,_,.nil,h=>.cons h .nil
 |_,_,.cons a p,h=>.cons a (SH p h)
theorem HeldAt.rd{G:Hp}{n:Nat}{lh:Addr}{hs:List (Addr×Addr×List (List V))}(h:HeldAt G n lh hs)(n4:n<=4){p:Addr×Addr×List (List V)}(hp:p∈hs):∃ts:List Addr,G p.2.1=some (.lst (ts.map V.ref))/\ts.length<=900/\Paired (AI (λ_=>False) G 1) (ts.map V.ref) (p.2.2.map mH)/\∀t∈ts,∃ys,G t=some (.tup ys):=by
 obtain⟨h1,⟨he,ts,e1,e2,e3⟩,h3,_⟩:=h.at_ p hp;refine⟨ts,e1,by lia,NN n4 he e2 e3,λt ht=>?_⟩;obtain⟨i,hi⟩:=List.mem_iff_getElem?.mp ht;have:=(ajE.mp hi).1;exact⟨_,e3 i t _ hi (a4h (by lia))⟩
inductive Bf(K:W.Frag)(vs:List V)(H:Hp)(Q:VK)(E:XK):Prop
 |mk (lh:Addr) (n:Nat) (hs:List (Addr×Addr×List (List V))):vs=[.ref lh]->HeldAt H n lh hs->n<=4->hs.length<=900->(∀H',(∀x o,H x=some o->(∀p∈hs,x≠p.2.1)->H' x=some o)->Q (.bl true) H')->Bf K vs H Q E
example:(ly Fp):=by
 obtain ⟨lh,n,hs,rfl,R,n4,Xz,k⟩:=h;refine⟨_,(Ze (aE (ZI (Zo (Ox rfl) rfl T.Hj OF (pc (ZL (Zx (gB:=(Zq bT)) (oN:=gm) (N:=["_law_told","_law_text"]) (own:=2) (js:=[]) (by decide +kernel) rfl rfl) rfl (zh (K:=K) rfl (pv 0)) (λ_ _ _ _ _ _=>(ZD (K:=K) (n:=2) rfl rfl (Zn (bE 0 (show List.Nodup (["_law_told","_law_text"]:List Str) by decide +kernel)) (Zn (bE 1 (show List.Nodup (["_law_told","_law_text"]:List Str) by decide +kernel)) ZC)))) (λ_ _ _ _ _ _=>(ZP uK (ZE (K9 hr.gd (qZ hr 20 (by decide))) rfl T.An DL (pc (pv 0) Zb)) (pv 1) (Zw _)))) Zb))) (Zg (Zs d7)) Zt)
   (Ze (yG aAH rfl (K3 rfl T.Ei (pc (pv 0) Zb)) (ZD (K:=K) (n:=2) rfl rfl (Zn (bE 1 nd) (Zn (ZD (K:=K) (n:=2) rfl rfl (Zn (bE 2 nd) (Zn (bE 3 nd) ZC))) ZC))) (Zg (Zr (wu (K:=K) rfl (dZ aRz aeo a8O ZZ (pv 2) (pc (pv 1) Zb))))))
   (Zg (Zs (Zo (Je rfl) rfl T.C6 IX (pc (ZL (Zx (gB:=(Zq bT)) (oN:=gm) (N:=["_law_k","_law_told","_law_text"]) (own:=3) (js:=[]) (by decide +kernel) rfl rfl) rfl (K3 rfl T.Ei (pc (pv 0) Zb)) (λ_ _ _ _ _ _=>(ZD (K:=K) (n:=2) rfl rfl (Zn (bE 0 (show List.Nodup (["_law_k","_law_told","_law_text"]:List Str) by decide +kernel)) (Zn (ZD (K:=K) (n:=2) rfl rfl (Zn (bE 1 (show List.Nodup (["_law_k","_law_told","_law_text"]:List Str) by decide +kernel)) (Zn (bE 2 (show List.Nodup (["_law_k","_law_told","_law_text"]:List Str) by decide +kernel)) ZC))) ZC)))) (λ_ _ _ _ _ _=>(IE (ZP aW (ak (Zl (K:=K) rfl) (pv 1) (xV NP Zi) (λ_ _=>rfl)) (pv 0) (Zw _)) (IA (ZP xW (Zo UN rfl T.we aUV (pc (ZE (K9 hr.gd (qZ hr 20 (by decide))) rfl T.An DL (pc (pv 1) Zb)) Zb)) (Zo UN rfl T.we aUV (pc (pv 2) Zb)) (Zw _)))))) Zb)))))),?_⟩
 have at':∀{i:Nat}{x:V},(hs.map λp=>V.ref p.1)[i]?=some x->∃p,hs[i]?=some p/\x=.ref p.1:=λ{i x} e=>by
  rw[afQ]at e;cases q:hs[i]? with
  |none=>rw[q]at e;cases e
  |some p=>rw[q]at e;exact⟨p,rfl,(asK e).symm⟩
 have sh:∀{es:List (List V)},(ni es).length<=900*60+3->(ni es).length<=sizeLine:=λh=>atR h (by decide);refine hide λu1 e1=>?_;refine⟨_,rfl,lh,rfl,⟨_,ao.of R.top⟩,λlz rj=>?_⟩;refine DK (K:=K) (a:=lh) (xs:=hs.map λp=>V.ref p.1) (l:=lz) (λj ys σ G=>∃(v0 v1:Option V),σ=[v0,v1]/\ys=(List.replicate j false).map V.bl/\G lz=some (.lst ys)/\av H G) ⟨none,none,rfl,rfl,Za,Zd rj _⟩ (λj ys σ G _ ⟨_,_,_,_,_,s⟩=>ao.of (s _ _ R.top)) ?_ ?_
 .rintro j x ys σ G hj lT hys ⟨v0,v1,rfl,rfl,gl,s1⟩;obtain⟨p,hp,rfl⟩:=at' lT;have mp:=aHL hp;have R1:=R.frame λx o e _=>s1 x o e;obtain⟨h1,⟨he,_⟩,h3,_⟩:=R1.at_ p mp;obtain⟨ts,jF,lt,rd,_⟩:=R1.rd n4 mp;refine⟨p.1,_,rfl,aP.of h1,rfl,_,_,rfl,gN ⟨_,_,rfl,gN ⟨rfl,?_⟩⟩⟩;refine⟨_,rfl,λ_=>False,p.2.1,2,.list (p.2.2.map mH),rfl,by decide,.inr ⟨_,_,_,rfl,id,rd,.inl ⟨jF,rfl⟩⟩,sh (KP n4 he h3).1,_,rfl,rfl,?_⟩;have key:(!decide (V.str (ni p.2.2)=V.str (ni p.2.2)))=false:=by rw[a5h rfl];rfl
  show gu _ _ _ _ _ _ (V.bl (!decide (V.str (ni p.2.2)=V.str (ni p.2.2)))) _;rw[key];refine gu.of (aaH (Zv (by rw[apM];lia))) hj hys gl ⟨_,_,rfl,by rw[bbV,afk];rfl,Za,λx o e=>?_⟩;rw[Zc (Zf e rj)];exact s1 _ _ e
 rintro ys σ G _ ⟨v0,v1,rfl,rfl,gl,s1⟩;refine⟨lz,_,rfl,ao.of gl,_,rfl,?_⟩;rw[show(List.replicate (hs.map λp=>V.ref p.1).length false).any id=false by rw[any_eq_false];intro z hz;rw[(aMl.mp hz).2];exact a0V];refine bK rfl ?_;subst e1;try dsimp only
 dsimp only[dw];have R1:=R.frame λx o e _=>s1 x o e;have inj:∀{i j:Nat}{p r:Addr×Addr×List (List V)},hs[i]?=some p->hs[j]?=some r->p.2.1=r.2.1->i=j:=λ{i j p r} h1 h2 e=>by
  have l1:=(ajE.mp h1).1;have l2:=(ajE.mp h2).1;refine(List.getElem_inj (h₀:=by rw[apM];exact l1) (h₁:=by rw[apM];exact l2) R.un).mp ?_;rw[getElem_map,getElem_map,(ajE.mp h1).2,(ajE.mp h2).2];exact e
 refine hide λu1 e1=>?_;refine⟨_,rfl,lh,rfl,⟨_,ao.of R1.top⟩,T5 (K:=K) (a:=lh) (xs:=hs.map λp=>V.ref p.1) (λi σ G'=>∃(v1 v2 v3:Option V),σ=[some (.ref lh),v1,v2,v3]/\(∀x o,G x=some o->(∀p∈hs,x≠p.2.1)->G' x=some o)/\∀(j:Nat)(p:Addr×Addr×List (List V))(ts:List Addr),hs[j]?=some p->G p.2.1=some (.lst (ts.map V.ref))->G' p.2.1=some (.lst (if j<i then ts.map V.ref++[.int (j:Int)] else ts.map V.ref))) ⟨none,none,none,rfl,λx o e _=>e,λj p ts h e=>by rw[ale (by lia)];exact e⟩ (λi σ G' _ h=>by obtain⟨_,_,_,_,kp,_⟩:=h;exact ao.of (kp _ _ R1.top λp hp z=>(R.at_ p hp).2.2.2 z.symm)) ?_ ?_⟩
 .rintro i x t σ G' hi ⟨v1',v2,v3,rfl,kp,ap⟩ ht;obtain⟨p,hp,rfl⟩:=at' hi;have mp:=aHL hp;obtain⟨h1,_,_,_⟩:=R1.at_ p mp;obtain⟨ts,e2,lt,_,_⟩:=R1.rd n4 mp;have JZ:∀{y ys},G y=some (.tup ys)->∀p∈hs,y≠p.2.1:=λ{y ys} e r hr z=>by
   obtain⟨us,q,_⟩:=R1.rd n4 hr;rw[z,q]at e;cases e
  have sS:=kp _ _ h1 (JZ h1);have s2:=Zd ht (.tup [V.int (i:Int),V.ref p.1]);have et:=Za (H:=G') (a:=t) (o:=.tup [V.int (i:Int),V.ref p.1]);have Ru:∀(j:Nat)(r:Addr×Addr×List (List V))(ts:List Addr),hs[j]?=some r->G r.2.1=some (.lst (ts.map V.ref))->upd G' t (.tup [V.int (i:Int),V.ref p.1]) r.2.1=some (.lst (if j<i then ts.map V.ref++[.int (j:Int)] else ts.map V.ref)):=λj r us h e=>s2 _ _ (ap j r us h e);have XE:∀x o,G x=some o->(∀p∈hs,x≠p.2.1)->upd G' t (.tup [V.int (i:Int),V.ref p.1]) x=some o:=λx o e n=>s2 _ _ (kp x o e n);have Nc:=s2 _ _ sS;clear s2 ht ap kp sS;generalize upd G' t (.tup [V.int (i:Int),V.ref p.1])=G2 at *;have el:=Ru i p ts hp e2;rw[ale (agV _)]at el;refine⟨t,_,rfl,aP.of et,rfl,_,_,rfl,gN ⟨_,_,rfl,⟨p.1,_,rfl,aP.of Nc,rfl,_,_,rfl,gN ⟨_,_,rfl,gN ⟨rfl,⟨rfl,?_⟩⟩⟩⟩⟩⟩;try dsimp only
  refine⟨_,rfl,.inl ⟨rfl,_,ao.of el⟩,_,rfl,p.2.1,ts.map V.ref,_,rfl,rfl,el,(by rw[apM];exact ayQ lt (by decide)),?_⟩;refine⟨_,_,_,rfl,λx o e n=>by rw[Zc (n p mp)];exact XE x o e n,λj r us h e=>?_⟩;by_cases c:r.2.1=p.2.1
  .have ej:=inj h hp c;subst ej;rw[c]at e ⊢;rw[e2]at e;have eu:ts.map V.ref=us.map V.ref:=by injection e with e;injection e
   rw[Za,auJ (by lia),eu]
  .rw [Zc c,Ru j r us h e];have nj:j≠i:=λz=>by
    subst z;rw[hp]at h;exact c (by rw[asK h])
   by_cases c2:j<i
   .rw [auJ c2,auJ (by lia)]
   .rw [ale c2,ale (by lia)]
 rintro σ G' ⟨v1',v2,v3,rfl,kp,ap⟩;subst e1;try dsimp only
 rw[apM]at ap;have JZ:∀{y ys},G y=some (.tup ys)->∀p∈hs,y≠p.2.1:=λ{y ys} e r hr z=>by
  obtain⟨us,q,_⟩:=R1.rd n4 hr;rw[z,q]at e;cases e
 have top':=kp _ _ R1.top λp hp z=>(R.at_ p hp).2.2.2 z.symm;have kH:∀x o,H x=some o->(∀p∈hs,x≠p.2.1)->G' x=some o:=λx o e n=>kp x o (s1 _ _ e) n;refine⟨_,rfl,lh,rfl,⟨_,ao.of top'⟩,λl2 hl2=>?_⟩;refine TX (K:=K) (a:=lh) (xs:=hs.map λp=>V.ref p.1) (l:=l2) (λj ys σ G2=>∃(v0 v1 v2:Option V),σ=[v0,v1,v2]/\ys=(List.replicate j true).map V.bl/\G2 l2=some (.lst ys)/\av G' G2) ⟨none,none,none,rfl,rfl,Za,Zd hl2 _⟩ (λj ys σ G2 _ h=>by obtain⟨_,_,_,_,_,_,s⟩:=h;exact ao.of (s _ _ top')) ?_ ?_
 .rintro j x t ys σ G2 hj lT hys ⟨v0,v1,v2,rfl,rfl,y9,s2⟩ ht;obtain⟨p,hp,rfl⟩:=at' lT;have mp:=aHL hp;obtain⟨h1,⟨he,ts,jF,e2,e3⟩,h3,_⟩:=R1.at_ p mp;have s3:=Zd ht (.tup [V.int (j:Int),V.ref p.1]);have et:=Za (H:=G2) (a:=t) (o:=.tup [V.int (j:Int),V.ref p.1]);have JS:=s2.trans s3;have BO:=s3 _ _ y9;generalize upd G2 t (.tup [V.int (j:Int),V.ref p.1])=G3 at *;have sS:=JS _ _ (kp _ _ h1 (JZ h1));have el:=ap j p ts hp jF;have jl:j<hs.length:=(ajE.mp hp).1;rw[auJ jl]at el;have Rc:=JS _ _ el;have rd:=NN (G:=G3) n4 he e2 λi t e a b=>JS _ _ (kp _ _ (e3 i t e a b) (JZ (e3 i t e a b)));have lj:(j:Int).natAbs.log2<1920:=by
   by_cases z:(j:Int).natAbs=0
   .rw [z];decide
   .exact a7K ((Nat.log2_lt z).mpr (by have:900<2 ^ 10:=(by decide);lia:(j:Int).natAbs<2 ^ 10)) (by decide)
  obtain⟨q1,q2⟩:=KP n4 he h3;have gr:=Zgb (p.2.2.map mH) j;refine⟨t,_,rfl,aP.of et,rfl,_,_,rfl,gN ⟨_,_,rfl,⟨p.1,_,rfl,aP.of sS,rfl,_,_,rfl,gN ⟨_,_,rfl,gN ⟨rfl,⟨rfl,?_⟩⟩⟩⟩⟩⟩;have z0:AI (λ_=>False) G3 2 (.ref p.2.1) (.list (p.2.2.map mH++[.int (j:Int)])):=.inr ⟨p.2.1,ts.map V.ref++[.int (j:Int)],p.2.2.map mH++[.int (j:Int)],rfl,id,SH rd (show AI (λ_=>False) G3 1 (.int (j:Int)) (.int (j:Int)) from .inl ⟨rfl,lj⟩),.inl ⟨Rc,rfl⟩⟩;have z1:(PyData.list (p.2.2.map mH++[.int (j:Int)])).shown.length<=sizeLine:=atR (q2 j (by lia)) (by decide);refine⟨_,rfl,_,rfl,p.2.1,_,_,_,rfl,rfl,ao.of Rc,ZiD,?_⟩;refine⟨_,rfl,rfl,_,rfl,cB (a5h rfl) ?_⟩;refine⟨_,rfl,λ_=>False,p.2.1,2,.list (p.2.2.map mH++[.int (j:Int)]),rfl,by decide,z0,z1,?_⟩;refine⟨_,rfl,z1,?_⟩;refine⟨_,rfl,_,rfl,sh q1,?_⟩;refine⟨_,_,rfl,rfl,?_⟩;have QW:(ni p.2.2).length<(PyData.list (p.2.2.map mH++[.int (j:Int)])).shown.length:=gr;clear q1 q2 gr z0 z1;generalize(PyData.list (p.2.2.map mH++[.int (j:Int)])).shown.length=L2 at QW ⊢;generalize(ni p.2.2).length=L1 at QW ⊢;have kb:decide ((L1:Int)<(L2:Int))=true:=a5h (by lia);show gu _ _ _ _ _ _ (V.bl (decide ((L1:Int)<(L2:Int)))) _;rw[kb];refine gu.of (aaH (Zv (by rw[apM];lia))) hj hys BO ⟨_,_,_,rfl,by rw[bbV,afk];rfl,Za,λx o e=>?_⟩;rw[Zc (Zf e hl2)];exact JS _ _ e
 rintro ys σ G2 _ ⟨v0,v1,v2,rfl,rfl,y9,s2⟩;refine⟨l2,_,rfl,ao.of y9,?_⟩;rw[show(List.replicate (hs.map λp=>V.ref p.1).length true).all id=true by rw[aT6];intro z hz;rw[(aMl.mp hz).2];rfl];exact k G2 λx o e n=>s2 _ _ (kH x o e n)
theorem ES{ns:List Int}:(ns.map V.int).all cJ=true:=by
 rw[aT6];intro x hx;obtain⟨n,_,rfl⟩:=atX.mp hx;rfl
inductive nZ(K:W.Frag)(vs:List V)(H:Hp)(Q:VK)(E:XK):Prop
 |mk (A:TA) (g:aM) (st:aq) (os:OS) (n k:Nat):vs=[.ref A.p,.int (k:Int)]->aa K H A g st os n->k<g.n->g.U.length<64->(∀(D:Addr)(cs:List Int),H D=none->(∀x,x∈cs↔(st.at_ k).fr x=true)->cs.length<64->cs.Pairwise (·<=·)->cs.Nodup->Q (.ref D) (upd H D (.lst (cs.map V.int))))->nZ K vs H Q E
example:(iZ E7 xJ):=by
 obtain⟨A,g,st,os,n,k,rfl,R,hk,hU,q⟩:=h;refine⟨_,(Zg (Zs (Zo (UK rfl) rfl T.A4 alo (pc (Zk (K:=K) rfl (Zj xJ hr.m T.aL (pv 0) (pc (pv 1) Zb)) rfl) Zb)))),?_⟩;obtain⟨dx,h1⟩:=R.ob;have ln:=R.ln;obtain⟨a,e1,e2,e3,B⟩:=R.at_ (k:=k) (by lia);obtain⟨ds,h3⟩:=B.aT.ob;obtain⟨kf,h4,⟨ks,h5,h6⟩,h7⟩:=B.fresh;have mem:∀b,b∈ks↔(st.at_ k).fr b=true:=λb=>by
  have z:=AG (kvs:=kf) (Sum.inl b);rw[h7 b,h5]at z;constructor
  .intro m;have:=z.mpr (aOS m);by_cases c:(st.at_ k).fr b=true
   .exact c
   .rw [ale c]at this;cases this
  .intro m;rw[auJ m]at z;obtain⟨x,hx,e⟩:=atX.mp (z.mp rfl);rw[<-aLX e];exact hx
 have Qg:ks.length<64:=ayQ (Dz h6 λx hx=>R.wH _ (aHL e3) x (B.yv x ((mem x).mp hx))) hU;exact⟨_,rfl,A.p,dx,_,rfl,h1,az ..,_,rfl,A,g,st,os,n,k,a,rfl,R,e1,a.sp,_,ds,_,_,rfl,h3,T.dQ,T.Eh,IP ..,a.df,kf,ks,rfl,h4,h5,Qg,λD cs hD po pw=>q D cs hD (λx=>po.mem_iff.trans (mem x)) (by rw[po.length_eq];exact Qg) pw (po.nodup_iff.mpr h6)⟩
structure Nx(g:aM)(st:aq):Prop where
 ex:∀h x,h<2->(st.at_ h).fr x=true->x∉(st.at_ (1-h)).seq
 tn:∀h x,h<2->(g.cf h).late=false->(st.at_ h).fr x=false
 tf:∀x,(g.cf 2).late=false->(st.at_ 2).fr x=false
structure Mo(g:aM)(a b:aq):Prop where
 sq:∀h x,h<2->x∈(b.at_ h).seq->x∈(a.at_ h).seq
 fr:∀h x,h<2->(b.at_ h).fr x=true->(a.at_ h).fr x=true
 f2:∀x,(b.at_ 2).fr x=true->(a.at_ 2).fr x=true\/(g.cf 2).late=true
theorem Mo.refl{g:aM}{a:aq}:Mo g a a:=⟨λ_ _ _ h=>h,λ_ _ _ h=>h,λ_ h=>.inl h⟩
theorem Mo.trans{g:aM}{a b c:aq}(x:Mo g a b)(y:Mo g b c):Mo g a c:=⟨λh z hh q=>x.sq h z hh (y.sq h z hh q),λh z hh q=>x.fr h z hh (y.fr h z hh q),λz q=>(y.f2 z q).elim (x.f2 z) .inr⟩
theorem Ky{b:Bool}(h:¬b=true):b=false:=by simpa using h
theorem Nx.mo{g:aM}{a b:aq}(n:Nx g a)(m:Mo g a b):Nx g b:=by
 refine⟨λh x hh f z=>n.ex h x hh (m.fr h x hh f) (m.sq _ x (by lia) z),λh x hh l=>Ky λf=>?_,λx l=>Ky λf=>?_⟩
 .have q:=n.tn h x hh l;rw[m.fr h x hh f]at q;cases q
 .rcases m.f2 x f with q|q
  .have r:=n.tf x l;rw[q]at r;cases r
  .rw [l]at q;cases q
section
variable{g:aM}{st:aq}{h k:Nat}{b o x:Int}{ws:List Int}
theorem Zkj{e:List V}:Mo g st (st.tell e):=⟨λ_ _ _ h=>h,λ_ _ _ h=>h,λ_ h=>.inl h⟩
theorem pN:Mo g st (bA g k b ws st):=by
 unfold bA;split
 .exact ⟨λ_ _ _ h=>h,λ_ _ _ h=>h,λ_ h=>.inl h⟩
 .refine ⟨λh x _ q=>?_,λh x _ q=>?_,λx q=>.inl ?_⟩ <;> rw[Cb,ZX]at q <;> split at q
  .rename_i z;rw[z.1];exact q
  .exact q
  .rename_i z;rw[z.1];exact q
  .exact q
  .rename_i z;rw[z.1];exact q
  .exact q
theorem N4:Mo g st (bw g b ws st):=by
 unfold bw;split
 .rename_i l;refine(pN (k:=2) (b:=b) (ws:=ws)).trans ⟨λh x hh q=>?_,λh x hh q=>?_,λx _=>.inr l⟩
  .rw [Oo (by lia)]at q;exact q
  .rw [Oo (by lia)]at q;exact q
 .exact pN.trans pN
theorem om(hl:k<st.rm.length):Mo g st (cC k b st):=by
 refine⟨λh x _ q=>?_,λh x _ q=>(oq hl q).1,λx q=>.inl (oq hl q).1⟩;rw[bC hl]at q;split at q
 .exact ajm q
 .exact q
theorem ZhO(w:aJ g st)(hh:h<2):Mo g st (aN g h o st):=by
 have hl:h<st.rm.length:=by rw[w.len];lia
 unfold aN;split
 .exact (om hl).trans N4
 .exact om hl
theorem SG{p:aq×List Int×Bool}(hl:h<p.1.rm.length):Mo g p.1 (cI h o p).1:=by
 unfold cI;split
 .split
  .exact om hl
  .exact om hl
 .exact Mo.refl
theorem ZhQ(w:aJ g st):Mo g st (pU g o st):=by
 have l3:=w.len;have m:Mo g st (i7 o st).1:=by
  unfold i7;have l0:(cI 0 o (cC 2 o st,(st.at_ 2).wd o,(st.at_ 2).fr o)).1.rm.length=3:=by
   rw[(N9 (h:=0) (o:=o) (p:=(cC 2 o st,(st.at_ 2).wd o,(st.at_ 2).fr o)) (by show 0<(cC 2 o st).rm.length;rw[cY];lia)).1];exact cY.trans l3
  exact(om (by lia)).trans ((SG (p:=(cC 2 o st,(st.at_ 2).wd o,(st.at_ 2).fr o)) (by show 0<(cC 2 o st).rm.length;rw[cY];lia)).trans (SG (by lia)))
 unfold pU;split
 .exact m.trans pN
 .exact m
theorem ZiE(w:aJ g st):Mo g st (roomF g b st):=by
 unfold roomF;split
 .exact Mo.refl
 .exact ZhQ w
theorem Tg(w:aJ g st)(hh:h<2):Mo g st (aI g h b st):=by
 unfold aI;split
 .exact Mo.refl
 .exact ZhO w hh
theorem Rx(hb:b∈(st.at_ k).seq){e:List V}:Mo g st ((st.tell e).set k (jI (g.cf k) (st.at_ k) b)):=by
 refine⟨λh x _ q=>?_,λh x _ q=>?_,λx q=>.inl ?_⟩ <;> rw[ZX]at q <;> split at q
 .rename_i z;rw[z.1];exact(DN hb).mem_iff.mp q
 .exact q
 .rename_i z;rw[z.1];exact q
 .exact q
 .rename_i z;rw[z.1];exact q
 .exact q
theorem Zkk(w:aJ g st):Mo g st (b9 g b st):=by
 unfold b9;split
 .rename_i hb;exact Rx hb
 .have m:=(Zkj (g:=g) (st:=st) (e:=eF g.n)).trans (ZiE (b:=b) (w.sq (EO (e:=eF g.n))));have hl:2<(roomF g b (st.tell (eF g.n))).rm.length:=by rw[((w.sq (EO (e:=eF g.n))).roomF (b:=b)).1.len];lia
  refine m.trans ⟨λh x hh q=>?_,λh x _ q=>by rw[B0]at q;exact q,λx q=>.inl (by rw[B0]at q;exact q)⟩;rw[tD hl,ale (by lia)]at q;exact q
theorem Zkl:Mo g st (bR g h b st):=by
 unfold bR;split
 .refine (N4 (b:=b) (ws:=(st.at_ h).wd b)).trans ⟨λk x _ q=>?_,λk x _ q=>?_,λx q=>.inl ?_⟩ <;> rw[ZX]at q <;> split at q
  .rename_i z;rw[z.1];exact q
  .exact q
  .rename_i z;have q:(if x=b then false else _)=true:=q;rw[z.1];by_cases c:x=b
   .rw [auJ c]at q;cases q
   .rw [ale c]at q;exact q
  .exact q
  .rename_i z;have q:(if x=b then false else _)=true:=q;rw[z.1];by_cases c:x=b
   .rw [auJ c]at q;cases q
   .rw [ale c]at q;exact q
  .exact q
 .exact Mo.refl
theorem SE(w:aJ g st)(hh:h<2)(n:Nx g st)(hs:0<g.size):Nx g (bP g h b st):=by
 unfold bP;split
 .rename_i hb;exact n.mo (Rx hb)
 .obtain ⟨w1,m2,sub⟩:=w.b9 (b:=b);have s:=KS (g:=g) (h:=1-h) m2;have w2:=w1.sq s;have f2:((bR g (1-h) b (b9 g b st)).at_ (1-h)).fr b=false:=by
   unfold bR;split
   .have dl:(bw g b (((b9 g b st).at_ (1-h)).wd b) (b9 g b st)).rm.length=(b9 g b st).rm.length:=by
     unfold bw;split
     .exact dP.trans bN.len
     .exact bN.len.trans bN.len
    rw[aq.bD (by rw[dl,w1.len];lia),auJ rfl];exact auJ rfl
   .rename_i f;exact Ky f
  have n3:Nx g (aI g h b (bR g (1-h) b (b9 g b st))):=((n.mo (Zkk w)).mo Zkl).mo (Tg w2 hh);have f3:((aI g h b (bR g (1-h) b (b9 g b st))).at_ (1-h)).fr b=false:=Ky λz=>by
   have q:=(Tg (b:=b) w2 hh).fr (1-h) b (by lia) z;rw[f2]at q;cases q
  obtain⟨w4,_,_⟩:=w2.aI (b:=b) hh;unfold gj;generalize aI g h b (bR g (1-h) b (b9 g b st))=s3 at *;have hl:h<s3.rm.length:=by rw[w4.len];lia
  refine⟨λk x hk f z=>?_,λk x hk l=>by rw[B0];exact n3.tn k x hk l,λx l=>by rw[B0];exact n3.tf x l⟩;rw[B0]at f;rw[tD hl]at z;split at z
  .rename_i e;rcases aXY.mp z with z|z
   .exact n3.ex k x hk f z
   .rw [axK.mp z,show k=1-h by lia,f3]at f;cases f
  .exact n3.ex k x hk f z
theorem Y6{sp v:Int}(w:aJ g st)(hh:h<2)(n:Nx g st)(hs:0<g.size):Nx g (mJ g h sp v st):=by
 have n1:=SE (b:=sp/g.size) w hh n hs;obtain⟨w1,m1⟩:=w.bP (b:=sp/g.size) hh;unfold mJ;generalize bP g h (sp/g.size) st=s1 at *;have P9:Mo g s1 (bJ h (sp/g.size) s1)/\sp/g.size∉((bJ h (sp/g.size) s1).at_ (1-h)).seq:=by
  unfold bJ;split
  .have hl:1-h<s1.rm.length:=by rw[w1.len];lia
   refine⟨om hl,λz=>?_⟩;rw[bC hl,auJ rfl]at z;exact((w1.nd _).mem_erase_iff.mp z).1 rfl
  .rename_i q;exact⟨Mo.refl,q⟩
 obtain⟨w2,q2⟩:=w1.bJ (b:=sp/g.size) hh;generalize bJ h (sp/g.size) s1=s2 at *;have P8:Mo g s2 (s2.set h (k8 g (s2.at_ h) sp v)):=by
  refine⟨λk x _ q=>?_,λk x _ q=>?_,λx q=>.inl ?_⟩ <;> rw[ZX]at q <;> split at q
  .rename_i z;rw[z.1];exact q
  .exact q
  .rename_i z;rw[z.1];exact q
  .exact q
  .rename_i z;rw[z.1];exact q
  .exact q
 have n3:=(n1.mo P9.1).mo P8;have W2:sp/g.size∉((s2.set h (k8 g (s2.at_ h) sp v)).at_ (1-h)).seq:=λz=>P9.2 (P8.sq _ _ (by lia) z);have l3:h<(s2.set h (k8 g (s2.at_ h) sp v)).rm.length:=by rw[dP,w2.len];lia
 dsimp only;generalize s2.set h (k8 g (s2.at_ h) sp v)=s3 at *;unfold markB;split
 .rename_i lt;have at':∀j,(uW h (sp/g.size) s3).at_ j=if j=h then HS (s3.at_ h) (sp/g.size) else s3.at_ j:=λj=>by
   unfold uW;rw[aq.bD l3]
  have Wl:∀j,((uW h (sp/g.size) s3).at_ j).seq=(s3.at_ j).seq:=λj=>by
   rw[at'];split
   .rename_i e;rw[e];rfl
   .rfl
  refine⟨λk x hk f z=>?_,λk x hk l=>?_,λx l=>by rw[at',ale (by lia)];exact n3.tf x l⟩
  .rw [Wl]at z;rw[at']at f;split at f
   .rename_i e;have f:(if x=sp/g.size then true else(s3.at_ h).fr x)=true:=f;by_cases c:x=sp/g.size
    .rw [c,e]at z;exact W2 z
    .rw [ale c]at f;rw[e]at z;exact n3.ex h x hh f z
   .exact n3.ex k x hk f z
  .rw [at'];split
   .rename_i e;rw[e,lt]at l;cases l
   .exact n3.tn k x hk l
 .exact n3.mo N4
theorem Nx.jd(n:Nx g st):Nx g (jd st):=⟨n.ex,n.tn,n.tf⟩
theorem Y5:Nx g (yH 3):=by
 have e:∀j,(yH 3).at_ j=tE:=λj=>by
  unfold yH aq.at_;rw[akz,aDo];split <;> rfl
 exact⟨λh x _ f=>(by rw[e]at f;cases f),λh x _ _=>by rw[e];rfl,λx _=>by rw[e];rfl⟩
theorem Rw(w:aJ g st):Nx g (jd (cN g st)):=by
 obtain⟨w1,s1⟩:=N8 w;have nf:∀k x,((cN g st).at_ k).fr x=false:=λk x=>w1.nf (by
  by_cases c:k<3
  .rw [s1 k c];simp
  .unfold aq.at_;rw[akz,aG2 (by rw[w1.len];lia)];exact aNV)
 exact⟨λh x _ f=>(by rw[show((jd (cN g st)).at_ h).fr x=false from nf h x]at f;cases f),λh x _ _=>nf h x,λx _=>nf 2 x⟩
end
inductive qm(K:W.Frag)(vs:List V)(H:Hp)(Q:VK)(E:XK):Prop
 |mk (bd:Addr) (size b:Int) (bk:Int->Int) (n:Nat):vs=[.ref bd,.int size,.int b]->ju H bd bk n->0<size->size<=16->0<=b->b<=1000000->(∀l,H l=none->Q (.ref l) (upd H l (.lst ((aG size bk b).map V.int))))->qm K vs H Q E
example:(vt GX):=by
 obtain⟨bd,size,b,bk,n,rfl,⟨kvs,h1,h2,h3⟩,z0,z1,b0,b1,q⟩:=h;refine⟨_,(Zg (Zs (ZL (Zx (gB:=(Zq kY)) (oN:=yM) (N:=["_law_k","_law_book","_law_board","_law_size"]) (own:=1) (js:=[0,2,1]) (by decide +kernel) rfl rfl) rfl (ZY rfl T.vh (pc (pv 1) Zb)) (λ_ _ _ _ _ _=>(bE 0 (show List.Nodup (["_law_k","_law_book","_law_board","_law_size"]:List Str) by decide +kernel))) (λ_ _ _ _ _ _=>(OD hu (pv 1) (aj ZJ (aj sZ (pv 2) (pv 3)) (pv 0)) Zi ⟨rfl,rfl,rfl,rfl⟩))))),?_⟩;refine⟨_,rfl,_,rfl,by lia,by lia,λl hl=>?_⟩;refine DM (lo:=0) (n:=size.toNat) (l:=l) (λi ys σ G=>∃v0:Option V,σ=[v0,some (.ref bd),some (.int b),some (.int size)]/\ys=((List.range i).map λk=>bk (b*size+(k:Nat))).map V.int/\G=upd H l (.lst ys)) ⟨none,rfl,rfl,rfl⟩ ?_ ?_
 .rintro i ys σ G hi hys ⟨v0,rfl,rfl,rfl⟩;have e0:(0:Int)+(i:Int)=(i:Int):=by lia
  have q:=dg.k (k:=Sum.inl (b*size+(0+(i:Int)))) (Zd hl (.lst (((List.range i).map λk=>bk (b*size+(k:Nat))).map V.int)) _ _ h1);have eb:(aK kvs (Sum.inl (b*size+(0+(i:Int))):Key)).getD (V.int 0)=V.int (bk (b*size+(i:Nat))):=by rw[h3,e0]
  refine⟨_,rfl,bd,rfl,.inl ⟨_,.inl (Zd hl _ _ _ h1)⟩,_,rfl,_,rfl,_,_,rfl,rfl,.inr ⟨by lia,by lia⟩,_,rfl,_,_,rfl,rfl,_,q,?_⟩;rw[eb];exact gu.of (aaH (Zv (by lia))) hi hys Za ⟨_,rfl,by rw[aJb,afk,afk];rfl,K7⟩
 .rintro ys σ G _ ⟨v0,rfl,rfl,rfl⟩;exact q l hl
structure L3(H:Hp)(l:Addr)(as:Nat->Addr)(os:Nat->List Int)(Pr:Nat->Int->Prop):Prop where
 top:H l=some (.lst [.ref (as 0),.ref (as 1),.ref (as 2)])
 at_:∀k,k<3->H (as k)=some (.lst ((os k).map V.int))
 mem:∀k x,k<3->(x∈os k↔Pr k x)
theorem L3.ix{H:Hp}{l:Addr}{as:Nat->Addr}{os:Nat->List Int}{Pr:Nat->Int->Prop}(_h:L3 H l as os Pr){k:Nat}(hk:k<3):eG [V.ref (as 0),V.ref (as 1),V.ref (as 2)] (k:Int)=some (V.ref (as k)):=by
 rcases(show k=0\/k=1\/k=2 by lia) with rfl|rfl|rfl
 .exact cO
 .exact gI
 .exact je
theorem L3.same{H H':Hp}{l:Addr}{as:Nat->Addr}{os:Nat->List Int}{Pr:Nat->Int->Prop}(h:L3 H l as os Pr)(s:av H H'):L3 H' l as os Pr:=⟨s _ _ h.top,λk hk=>s _ _ (h.at_ k hk),h.mem⟩
def j4(st:aq)(b:Int)(j:Nat):List Nat:=(List.range j).filter λk=>decide (b∈(st.at_ k).seq)
theorem Zkm{st:aq}{b:Int}{j:Nat}:j4 st b (j+1)=j4 st b j++if b∈(st.at_ j).seq then[j] else[]:=by
 unfold j4;rw[aJb,filter_append];congr 1
 by_cases c:b∈(st.at_ j).seq
 .rw [auJ c,aDS,auJ (a5h c)];rfl
 .rw [ale c,aDS,ale (by rw[aKy c];exact a0V)];rfl
theorem i6{st:aq}{b:Int}{k:Nat}:k∈j4 st b 2↔k<2/\b∈(st.at_ k).seq:=by
 unfold j4;rw[mem_filter,mem_range,decide_eq_true_iff]
inductive Bk(K:W.Frag)(vs:List V)(H:Hp)(Q:VK)(E:XK):Prop
 |mk (A:TA) (g:aM) (st:aq) (os:OS) (n:Nat) (b:Int) (bk:Int->Int) (ld ll lm:Addr) (as ms:Nat->Addr) (us ns:Nat->List Int):vs=[.ref A.p,.int b,.ref ld,.ref ll,.ref lm]->aa K H A g st os n->aJ g st->Lw g bk b st->Nx g st->H ld=some (.lst ((aG g.size bk b).map V.int))->L3 H ll as us (λk x=>x∈(st.at_ k).seq)->L3 H lm ms ns (λk x=>(st.at_ k).fr x=true)->0<=b->b<=1000000->g.size<=16->(∀H',av H H'->Q (.bl true) H')->Bk K vs H Q E
example:(lA EZ rZ C7):=by
 obtain ⟨A,g,st,os,n,b,bk,ld,ll,lm,as,ms,us,ns,rfl,R,ok,lw,nx,hd,hl,hm,b0,b1,Cs,q⟩:=h;have tR:=C7 1;refine⟨_,(Ze (Zid 5 (Zx (gB:=(Zq aZ)) (oN:=bV) (N:=["_law_k","_law_board","_law_lies"]) (own:=1) (js:=[1,3]) (by decide +kernel) rfl rfl) rfl nd rfl rfl (K1 (K:=K) rfl (ZN (pc Zi (pc Zi Zb)))) (λ_ _ _ _ _ _=>(bE 0 (show List.Nodup (["_law_k","_law_board","_law_lies"]:List Str) by decide +kernel))) (λ_ _ _ _ _ _=>(Zu (Ji (K:=K) rfl) (pv 1) (ak (Zl (K:=K) rfl) (pv 2) (pv 0) (λ_ _=>rfl)) rfl)) (λ_ _ _ _ _ _=>(pv 0)))
   (Ze (aE (PW.pt (AD (ZI (Zo (Ox rfl) rfl T.Hj OF (pc (ZL (Zx (gB:=(Zq aZ)) (oN:=bV) (N:=["_law_k","_law_board","_law_marks"]) (own:=1) (js:=[1,4]) (by decide +kernel) rfl rfl) rfl (zh (K:=K) rfl (pv 5)) (λ_ _ _ _ _ _=>(bE 0 (show List.Nodup (["_law_k","_law_board","_law_marks"]:List Str) by decide +kernel))) (λ_ _ _ _ _ _=>(ZP (Ji (K:=K) rfl) (pv 1) (ak (Zl (K:=K) rfl) (pv 2) (pv 0) (λ_ _=>rfl)) rfl))) Zb))) (Cd (Zu xW (Zo (ZF (K:=K) rfl) rfl T.we aUV (pc (pv 5) Zb)) Zi (Zw _))))) (Zg (Zs d7)) Zt)
   (Ze (aE (PW.pt (pw_or (zk (ZI (Zo (Je rfl) rfl T.C6 IX (pc (ZL (Zx (gB:=(Zq aZ)) (oN:=bV) (N:=["_law_k","_law_due","_law_board","_law_pair_here"]) (own:=1) (js:=[2,1,0]) (by decide +kernel) rfl rfl) rfl (zh (K:=K) rfl (pv 5)) (λ_ _ _ _ _ _=>(bE 0 (show List.Nodup (["_law_k","_law_due","_law_board","_law_pair_here"]:List Str) by decide +kernel))) (λ_ _ _ _ _ _=>(Zm tR hr.m rfl (pc (Zj rZ hr.m T.aL (pv 3) (pc (pv 0) (pc (pv 2) Zb))) (pc (pv 1) Zb))))) Zb)))) (EC (PW.pt (AD (Zu (Sa (K:=K) (Nat.lt_of_succ_lt hu) rfl) (pv 5) (ZV Zb) (Zw _)) (Cd (Zu (OP (K:=K) rfl) (pv 1) (ak (Zl (K:=K) rfl) (pv 3) Zi (λ_ _=>rfl)) rfl))))))) (Zg (Zs d7)) Zt)
   (Ze (cX 6 nd (Zo (Ox rfl) rfl T.Hj OF (pc (ZL (Zx (gB:=(Zq aZ)) (oN:=bV) (N:=["_law_k","_law_board","_law_marks"]) (own:=1) (js:=[1,4]) (by decide +kernel) rfl rfl) rfl (zh (K:=K) rfl (pv 5)) (λ_ _ _ _ _ _=>(bE 0 (show List.Nodup (["_law_k","_law_board","_law_marks"]:List Str) by decide +kernel))) (λ_ _ _ _ _ _=>(ZP (Ji (K:=K) rfl) (pv 1) (ak (Zl (K:=K) rfl) (pv 2) (pv 0) (λ_ _=>rfl)) rfl))) Zb)))
   (Ze (aE (PW.pt (AD (Zu (Ji (K:=K) rfl) (pv 1) (ak (Zl (K:=K) rfl) (pv 3) Zi (λ_ _=>rfl)) rfl) (AD (zk (ZI (pv 6))) (Cd (zk (ZI (Zm tR hr.m rfl (pc (Zj rZ hr.m T.aL (pv 0) (pc Zi (pc (pv 1) Zb))) (pc (pv 2) Zb))))))))) (Zg (Zs d7)) Zt)
   (Zg (Zs (BF (pv 6) (BF (ZP (Ji (K:=K) rfl) (pv 1) (ak (Zl (K:=K) rfl) (pv 4) Zi (λ_ _=>rfl)) rfl) (IA (Zm tR hr.m rfl (pc (Zj rZ hr.m T.aL (pv 0) (pc Zi (pc (pv 1) Zb))) (pc (pv 2) Zb))))))))))))),?_⟩
 have g3:=ok.n3;obtain⟨dx,ob⟩:=R.ob;have Mr:(j4 st b 2).length<=2:=atR (a81 ..) (by rw[aHo];exact aI1 2);have li:∀{k:Nat},k<3->wg (V.int b) ((us k).map V.int)=decide (b∈(st.at_ k).seq):=λ{k} hk=>by
  rw[Su];exact decide_eq_decide.mpr (hl.mem k b hk)
 have mi:∀{k:Nat},k<3->wg (V.int b) ((ns k).map V.int)=(st.at_ k).fr b:=λ{k} hk=>by
  rw[Su];cases f:(st.at_ k).fr b with
  |true=>exact a5h ((hm.mem k b hk).mpr f)
  |false=>exact aKy λz=>by rw[(hm.mem k b hk).mp z]at f;cases f
 refine hide λu1 e1=>?_;refine⟨(sL 2),λtp htp=>⟨tp,rfl,⟨_,aP.of Za⟩,λl5 MX=>?_⟩⟩;have s1:=Zd htp (.tup [V.int 0,V.int 1]);have Dm:=Za (H:=H) (a:=tp) (o:=.tup [V.int 0,V.int 1]);generalize upd H tp (.tup [V.int 0,V.int 1])=H1 at *;refine T4 (K:=K) (a:=tp) (xs:=[V.int 0,V.int 1]) (l:=l5) (λj ys σ G=>∃v0:Option V,σ=[v0,some (.int b),some (.ref ll)]/\ys=(j4 st b j).map (λk:Nat=>V.int (k:Int))/\G l5=some (.lst ys)/\av H1 G) ⟨none,rfl,rfl,Za,Zd MX _⟩ (λj ys σ G _ ⟨_,_,_,_,s⟩=>aP.of (s _ _ Dm)) ?_ ?_
 .rintro j x ys σ G hj lT hys ⟨v0,rfl,rfl,gl,s2⟩;have hj2:j<2:=hj;have hx:x=.int (j:Int):=by
   rcases(show j=0\/j=1 by lia) with rfl|rfl
   .exact (asK lT).symm
   .exact (asK lT).symm
  subst hx;have hl':=(hl.same s1).same s2;refine⟨_,rfl,_,rfl,_,rfl,ll,_,_,_,rfl,rfl,ao.of hl'.top,hl.ix (by lia),as j,_,rfl,.inl (ao.of (hl'.at_ j (by lia))),rfl,ES,_,rfl,?_⟩;rw[li (by lia)];have sn:=Zkm (st:=st) (b:=b) (j:=j);by_cases c:b∈(st.at_ j).seq
  .rw [auJ c]at sn;refine cB (a5h c) ⟨_,rfl,gu.of (sL 2) hj hys gl ⟨_,rfl,by rw[sn,afk];rfl,Za,λx o e=>?_⟩⟩;rw[Zc (Zf e MX)];exact s2 _ _ e
  .rw [ale c,aKQ]at sn;exact bK (aKy c) (yV.of hj hys ⟨_,rfl,by rw[sn],gl,s2⟩)
 rintro ys σ G _ ⟨v0,rfl,rfl,gl,s2⟩;refine gN ?_;subst e1;try dsimp only
 have s3:=s1.trans s2;have R1:=R.same s3;have Gr:=s3 _ _ ob;have hd1:=s3 _ _ hd;have hl1:=hl.same s3;have hm1:=hm.same s3;have gl:G l5=some (.lst ((j4 st b 2).map λk:Nat=>V.int (k:Int))):=gl;have gx:∀{i:Nat}{x:V},((j4 st b 2).map λk:Nat=>V.int (k:Int))[i]?=some x->∃k:Nat,(j4 st b 2)[i]?=some k/\x=.int (k:Int)/\k<2/\b∈(st.at_ k).seq:=λ{i x} e=>by
  rw[afQ]at e;cases c:(j4 st b 2)[i]? with
  |none=>rw[c]at e;cases e
  |some k=>
   rw[c]at e;obtain⟨h1,h2⟩:=i6.mp (aHL c);exact⟨k,rfl,(asK e).symm,h1,h2⟩
 clear s1 s2 Dm htp MX R ob hd;have Iv:((j4 st b 2).map λk=>(st.at_ k).fr b).any id=((st.at_ 0).fr b || (st.at_ 1).fr b):=by
  cases f0:(st.at_ 0).fr b with
  |true=>
   rw[Bool.true_or,any_eq_true];exact⟨true,atX.mpr ⟨0,i6.mpr ⟨by lia,ok.ff 0 b f0⟩,f0⟩,rfl⟩
  |false=>
   cases f1:(st.at_ 1).fr b with
   |true=>
    rw[Bool.false_or,any_eq_true];exact⟨true,atX.mpr ⟨1,i6.mpr ⟨by lia,ok.ff 1 b f1⟩,f1⟩,rfl⟩
   |false=>
    rw[Bool.false_or,any_eq_false];intro z hz;obtain⟨k,hk,rfl⟩:=atX.mp hz;obtain⟨h1,_⟩:=i6.mp hk;rcases(show k=0\/k=1 by lia) with rfl|rfl
    .rw [f0];exact a0V
    .rw [f1];exact a0V
 refine rB (λc G'=>c=false/\av G G') (λQ' k'=>?_) ?_
 .refine ⟨_,rfl,l5,rfl,⟨_,ao.of gl⟩,λlz rj=>?_⟩;refine DK (K:=K) (a:=l5) (xs:=(j4 st b 2).map λk:Nat=>V.int (k:Int)) (l:=lz) (λj ys σ G'=>∃v0:Option V,σ=[v0,some (.int b),some (.ref lm)]/\ys=(((j4 st b 2).take j).map λk=>(st.at_ k).fr b).map V.bl/\G' lz=some (.lst ys)/\av G G') ⟨none,rfl,rfl,Za,Zd rj _⟩ (λj ys σ G' _ ⟨_,_,_,_,s⟩=>ao.of (s _ _ gl)) ?_ ?_
  .rintro j x ys σ G' hj lT hys ⟨v0,rfl,rfl,uO,s5⟩;obtain⟨k0,ek,rfl,h2,hb⟩:=gx lT;have hm':=hm1.same s5;refine⟨_,rfl,_,rfl,_,rfl,lm,_,_,_,rfl,rfl,ao.of hm'.top,hm.ix (by lia),ms k0,_,rfl,.inl (ao.of (hm'.at_ k0 (by lia))),rfl,ES,?_⟩;show gu _ _ _ _ _ _ (V.bl (wg (V.int b) ((ns k0).map V.int))) _;rw[mi (by lia)];refine gu.of (atR (by rw[apM];exact Mr) (sL 2)) hj hys uO ⟨_,rfl,by rw[take_succ,ek,afk,afk];rfl,Za,λx o e=>?_⟩;rw[Zc (Zf e rj)];exact s5 _ _ e
  rintro ys σ G' _ ⟨v0,rfl,rfl,uO,s5⟩;rw[apM,take_length]at uO;refine⟨lz,_,rfl,ao.of uO,_,rfl,?_⟩;rw[Iv];cases f:((st.at_ 0).fr b || (st.at_ 1).fr b) with
  |false=>exact bK rfl (k' _ _ ⟨rfl,s5⟩)
  |true=>
   have l1:(j4 st b 2).length<=1:=by
    have one:∀h,h<2->(st.at_ h).fr b=true->j4 st b 2 ⊆ [h]:=λh hh f k hk=>by
     obtain⟨k2,kb⟩:=i6.mp hk;by_cases c:k=h
     .rw [c];exact axK.mpr rfl
     .rw [show k=1-h by lia]at kb;exact absurd kb (nx.ex h b hh f)
    have P5:(j4 st b 2).Nodup:=(List.nodup_range).sublist filter_sublist;rw[Bool.or_eq_true]at f;rcases f with f|f
    .exact P5.length_le_of_subset (one 0 (by lia) f)
    .exact P5.length_le_of_subset (one 1 (by lia) f)
   exact cB rfl ⟨_,rfl,l5,_,rfl,.inl (ao.of (s5 _ _ gl)),_,_,rfl,rfl,_,rfl,k' _ _ ⟨aKy (by rw[apM];lia),s5⟩⟩
 rintro c G2 ⟨rfl,s4⟩;refine bK rfl ?_;dsimp only[dw];have R2:=R1.same s4;have PJ:=s4 _ _ Gr;have y9:=s4 _ _ gl;have hd2:=s4 _ _ hd1;have hl2:=hl1.same s4;have hm2:=hm1.same s4;have wl:(aG g.size bk b).length<=1000:=by rw[ZT];lia
 have Np:∀{G:Hp}{x y:Addr},G x=some (.lst ((aG g.size bk b).map V.int))->G y=some (.lst ((aG g.size bk b).map V.int))->Eqv 1 G (.ref x) (.ref y):=λh1 h2=>Eqv.flat h1 h2 (by rw[apM];exact wl) λx hx=>by
  obtain⟨y,_,rfl⟩:=atX.mp hx;trivial
 refine rB (λc G'=>c=false/\av G2 G') (λQ' k'=>?_) ?_
 .refine ⟨_,rfl,l5,rfl,⟨_,ao.of y9⟩,λlz rj=>?_⟩;refine DK (K:=K) (a:=l5) (xs:=(j4 st b 2).map λk:Nat=>V.int (k:Int)) (l:=lz) (λj ys σ G'=>∃v0:Option V,σ=[v0,some (.ref ld),some (.int b),some (.ref A.p)]/\ys=(List.replicate j true).map V.bl/\G' lz=some (.lst ys)/\av G2 G') ⟨none,rfl,rfl,Za,Zd rj _⟩ (λj ys σ G' _ ⟨_,_,_,_,s⟩=>ao.of (s _ _ y9)) ?_ ?_
  .rintro j x ys σ G' hj lT hys ⟨v0,rfl,rfl,uO,s5⟩;obtain⟨k0,ek,rfl,h2,hb⟩:=gx lT;refine⟨_,rfl,A.p,dx,_,rfl,s5 _ _ PJ,az ..,_,rfl,_,rfl,A,g,st,os,n,k0,b,rfl,R2.same s5,by lia,λ_=>hb,b0,b1,λD G5 hD s6 eD=>⟨_,rfl,_,_,rfl,?_,λG6 s7=>?_⟩⟩
   .have e:BW g st k0 b=aG g.size bk b:=(ale (by lia)).trans (lw.nr k0 h2 hb);rw[e]at eD;exact Np eD (s6 _ _ (s5 _ _ hd2))
   .refine gu.of (atR (by rw[apM];exact Mr) (sL 2)) hj hys (s7 _ _ (s6 _ _ uO)) ⟨_,rfl,by rw[bbV,afk];rfl,Za,λx o e=>?_⟩;rw[Zc (Zf e rj)];exact s7 _ _ (s6 _ _ (s5 _ _ e))
  rintro ys σ G' _ ⟨v0,rfl,rfl,uO,s5⟩;refine⟨lz,_,rfl,ao.of uO,_,rfl,?_⟩;rw[show(List.replicate ((j4 st b 2).map λk:Nat=>V.int (k:Int)).length true).all id=true by rw[aT6];intro z hz;rw[(aMl.mp hz).2];rfl];refine bK rfl ⟨_,rfl,(sL 0),λl8 MW=>?_⟩;have s8:=Zd MW (.lst []);have JQ:=s5.trans s8;have eo:(j4 st b 2).map (λk:Nat=>V.int (k:Int))=((j4 st b 2).map λk:Nat=>(k:Int)).map V.int:=by rw[map_map];rfl
  refine⟨l5,l8,(j4 st b 2).map λk:Nat=>(k:Int),[],rfl,rfl,ao.of (by rw[<-eo];exact JQ _ _ y9),ao.of Za,_,rfl,?_⟩;by_cases e:((j4 st b 2).map λk:Nat=>(k:Int))=[]
  .rw [auJ rfl,a5h e];exact bK rfl (k' _ _ ⟨rfl,JQ⟩)
  .rw [auJ rfl,aKy e];have HF:=hl2.same JQ;refine cB rfl ⟨_,rfl,_,rfl,ll,_,_,_,rfl,rfl,ao.of HF.top,hl.ix (k:=2) (by lia),as 2,_,rfl,.inl (ao.of (HF.at_ 2 (by lia))),rfl,ES,_,rfl,?_⟩;have b2:b∈(st.at_ 2).seq:=by
    obtain⟨z,hz⟩:=List.exists_mem_of_ne_nil _ e;obtain⟨k,hk,_⟩:=atX.mp hz;obtain⟨h1,h2⟩:=i6.mp hk;exact ok.inc k b h1 h2
   rw[auJ rfl,li (by lia),a5h b2];exact k' _ _ ⟨rfl,JQ⟩
 rintro c G3 ⟨rfl,s5⟩;refine bK rfl ?_;dsimp only[dw];have Cz:=s4.trans s5;have R3:=R1.same Cz;have Gq:=Cz _ _ Gr;have BO:=Cz _ _ gl;have QH:=Cz _ _ hd1;have hl3:=hl1.same Cz;have MR:=hm1.same Cz;clear R2 PJ y9 hd2 hl2 hm2;refine hide λu1 e1=>?_;refine⟨_,rfl,l5,rfl,⟨_,ao.of BO⟩,λl7 QE=>?_⟩;refine DK (K:=K) (a:=l5) (xs:=(j4 st b 2).map λk:Nat=>V.int (k:Int)) (l:=l7) (λj ys σ G'=>∃v0:Option V,σ=[v0,some (.int b),some (.ref lm)]/\ys=(((j4 st b 2).take j).map λk=>(st.at_ k).fr b).map V.bl/\G' l7=some (.lst ys)/\av G3 G') ⟨none,rfl,rfl,Za,Zd QE _⟩ (λj ys σ G' _ ⟨_,_,_,_,s⟩=>ao.of (s _ _ BO)) ?_ ?_
 .rintro j x ys σ G' hj lT hys ⟨v0,rfl,rfl,uO,s5⟩;obtain⟨k0,ek,rfl,h2,hb⟩:=gx lT;have hm':=MR.same s5;refine⟨_,rfl,_,rfl,_,rfl,lm,_,_,_,rfl,rfl,ao.of hm'.top,hm.ix (by lia),ms k0,_,rfl,.inl (ao.of (hm'.at_ k0 (by lia))),rfl,ES,?_⟩;show gu _ _ _ _ _ _ (V.bl (wg (V.int b) ((ns k0).map V.int))) _;rw[mi (by lia)];refine gu.of (atR (by rw[apM];exact Mr) (sL 2)) hj hys uO ⟨_,rfl,by rw[take_succ,ek,afk,afk];rfl,Za,λx o e=>?_⟩;rw[Zc (Zf e QE)];exact s5 _ _ e
 rintro ys σ G4 _ ⟨v0,rfl,rfl,QX,s6⟩;rw[apM,take_length]at QX;refine⟨l7,_,rfl,ao.of QX,gN ?_⟩;rw[Iv];subst e1;try dsimp only
 have R4:=R3.same s6;have PF:=s6 _ _ Gq;have QG:=s6 _ _ QH;have MY:=hl3.same s6;have X0:=MR.same s6;have sH:=(s3.trans Cz).trans s6;clear R3 Gq BO QH hl3 MR;refine rB (λc G'=>c=false/\av G4 G') (λQ' k'=>?_) ?_
 .refine ⟨_,rfl,_,rfl,ll,_,_,_,rfl,rfl,ao.of MY.top,hl.ix (k:=2) (by lia),as 2,_,rfl,.inl (ao.of (MY.at_ 2 (by lia))),rfl,ES,_,rfl,?_⟩;rw[li (by lia)];by_cases c:b∈(st.at_ 2).seq
  .refine cB (a5h c) ⟨_,rfl,_,rfl,?_⟩;cases f:((st.at_ 0).fr b || (st.at_ 1).fr b) with
   |true=>exact bK rfl (k' _ _ ⟨rfl,av.refl _⟩)
   |false=>
    rw[Bool.or_eq_false_iff]at f;refine cB rfl ⟨_,rfl,A.p,dx,_,rfl,PF,az ..,_,rfl,A,g,st,os,n,2,b,rfl,R4,by lia,λ_=>c,b0,b1,λD G5 hD s7 eD=>⟨_,rfl,_,_,rfl,?_,λG6 s8=>⟨_,rfl,k' _ _ ⟨rfl,s7.trans s8⟩⟩⟩⟩;have e:BW g st 2 b=aG g.size bk b:=(ale (by lia)).trans (lw.fa c λh hh=>by
     rcases(show h=0\/h=1 by lia) with rfl|rfl
     .exact f.1
     .exact f.2)
    rw[e]at eD;exact Np eD (s7 _ _ QG)
  .exact bK (aKy c) (k' _ _ ⟨rfl,av.refl _⟩)
 rintro c G5 ⟨rfl,s7⟩;refine bK rfl ?_;dsimp only[dw];have X3:=MY.same s7;have QC:=X0.same s7;refine⟨_,rfl,_,rfl,?_⟩;cases f:((st.at_ 0).fr b || (st.at_ 1).fr b) with
 |true=>exact cB rfl (q _ (sH.trans s7))
 |false=>
  rw[Bool.or_eq_false_iff]at f;refine bK rfl ⟨_,rfl,_,rfl,lm,_,_,_,rfl,rfl,ao.of QC.top,hm.ix (k:=2) (by lia),ms 2,_,rfl,.inl (ao.of (QC.at_ 2 (by lia))),rfl,ES,_,rfl,?_⟩;rw[mi (by lia)];cases f2:(st.at_ 2).fr b with
  |true=>exact cB rfl (q _ (sH.trans s7))
  |false=>
   refine bK rfl ⟨_,rfl,A.p,dx,_,rfl,s7 _ _ PF,az ..,_,rfl,A,g,st,os,n,3,b,rfl,R4.same s7,by lia,λz=>absurd z (by lia),b0,b1,λD G6 hD s8 eD=>⟨_,rfl,_,_,rfl,?_,λG7 s9=>q _ (((sH.trans s7).trans s8).trans s9)⟩⟩;have e:BW g st 3 b=aG g.size bk b:=(auJ g3.symm).trans (lw.me λh hh=>by
    rcases(show h=0\/h=1\/h=2 by lia) with rfl|rfl|rfl
    .exact f.1
    .exact f.2
    .exact f2)
   rw[e]at eD;exact Np eD (s8 _ _ (s7 _ _ QG))
theorem GH{kvs:List (Key×V)}{ks:List Int}{mem:Int->Int}(h:kvs.map Prod.fst=ks.map Sum.inl)(nd:ks.Nodup)(hv:∀s,aK kvs (Sum.inl s:Key)=if mem s=0 then none else some (.int (mem s))):kvs=(ks.map λk=>(k,mem k)).map λp=>(Sum.inl p.1,V.int p.2):=by
 have key:∀{kvs:List (Key×V)}{ks:List Int},kvs.map Prod.fst=ks.map Sum.inl->ks.Nodup->(∀k∈ks,aK kvs (Sum.inl k:Key)=some (.int (mem k)))->kvs=(ks.map λk=>(k,mem k)).map λp=>(Sum.inl p.1,V.int p.2):=by
  intro kvs
  induction kvs with
  |nil=>
   intro ks h _ _;cases ks with
   |nil=>rfl
   |cons k r=>cases h
  |cons p r ih=>
   intro ks h nd hv;cases ks with
   |nil=>cases h
   |cons k ks=>
    rw[aB5,aB5]at h;injection h with h1 h2
    obtain⟨n1,n2⟩:=agN.mp nd;have v0:=hv k bcs;rw[ZO h1]at v0;rw[aB5,aB5,<-ih h2 n2 λk' m=>by
     have v:=hv k' (asW _ m);rw[ZM λz=>n1 (by rw[aLX (h1.symm.trans z)];exact m)]at v;exact v]
    rw[<-h1,<-asK v0]
 refine key h nd λk m=>?_;have z:=(AG (kvs:=kvs) (Sum.inl k)).mpr (by rw[h];exact aOS m);have v:=hv k;by_cases c:mem k=0
 .rw [auJ c]at v;rw[v]at z;cases z
 .rw [ale c]at v;exact v
inductive ud(K:W.Frag)(vs:List V)(H:Hp)(Q:VK)(E:XK):Prop
 |mk (bm dk:Addr) (size:Int) (mem:Int->Int) (U:List Int):vs=[.ref bm]->dO K H bm dk size mem U->0<size->size<=1000->U.length<=800->(∀(D:Addr)(ps:List (Int×Int))(H':Hp),H D=none->av H H'->rM H' D ps->zm mem ps->Q (.ref D) H')->ud K vs H Q E
example:(jZ E4):=by
 obtain⟨bm,dk,size,mem,U,rfl,M,z0,z1,lU,q⟩:=h;refine⟨_,(Zg (Zs (Zo (Zeh rfl) rfl T.A4 alo (pc (Zhd (Zk (K:=K) rfl (pv 0) rfl)) Zb)))),?_⟩;obtain⟨dx,h1⟩:=M.ob;obtain⟨kvs,h2,hk,h4⟩:=M.kept;have kl:=Sk z0 hk h4 M.sup;obtain⟨ks,h5,h6⟩:=hk;have ek:=GH h5 h6 h4;rw[ek]at h2;have mk:∀k,k∈ks↔mem k≠0:=λk=>by
  have z:=AG (kvs:=kvs) (Sum.inl k);rw[h4 k,h5]at z;constructor
  .intro m c;rw[auJ c]at z;exact absurd (z.mpr (aOS m)) a0V
  .intro c;rw[ale c]at z;obtain⟨x,hx,e⟩:=atX.mp (z.mp rfl);rw[<-aLX e];exact hx
 have lk:ks.length<=1000000:=by
  have l:=agz List.length h5;rw[apM,apM]at l;rw[<-l];exact atR kl (atR (Nat.mul_le_mul lU (by lia:size.toNat<=1000)) (by decide))
 refine⟨_,rfl,bm,_,dx,_,_,rfl,h1,T.xN,T.Fo,KU ..,dk,_,rfl,h2,λv hv=>?_⟩;have s1:=Zd hv (.ext λh=>h.IsItemsView v dk);refine⟨v,dk,ks.map λk=>(k,mem k),rfl,Za,s1 _ _ h2,by rw[map_map];exact(map_id ks).symm ▸h6,by rw[apM];exact lk,λD os H' hD s2 eD et pm pw=>?_⟩;refine q D (os.map λe=>e.2) H' (s1.free hD) (s1.trans s2) ⟨os.map λe=>e.1,by rw[map_map];exact eD,by rw[apM,apM],λi a p e1 e2=>?_⟩ ⟨aXi.mpr pw,λs v=>?_⟩
 .rw [afQ]at e1 e2;cases e:os[i]? with
  |none=>rw[e]at e1;cases e1
  |some x=>
   rw[e]at e1 e2;cases e1;cases e2;exact(et x (aHL e)).2
 .rw [pm.mem_iff,mem_map];constructor
  .rintro ⟨k,hk,e⟩;cases e;exact⟨rfl,(mk _).mp hk⟩
  .rintro ⟨e1,e2⟩;exact⟨s,(mk s).mpr (by rw[e1];exact e2),by rw[e1]⟩
inductive qo(K:W.Frag)(vs:List V)(H:Hp)(Q:VK)(E:XK):Prop
 |mk (A:TA) (g:aM) (st:aq) (os:OS) (n:Nat):vs=[.ref A.p]->aa K H A g st os n->(∀(D:Addr)(ps:List (Int×Int))(H':Hp),H D=none->av H H'->rM H' D ps->zm st.mem ps->Q (.ref D) H')->qo K vs H Q E
example:(jW BC E4):=by
 obtain⟨A,g,st,os,n,rfl,R,q⟩:=h;refine⟨_,(Zg (Zs (AE E4 hr.m T.xN (Zk (K:=K) rfl (pv 0) rfl)))),?_⟩;obtain⟨dx,h1⟩:=R.ob;obtain⟨dm,h2⟩:=R.mem.ob;have z0:=R.wf.z0;exact⟨_,rfl,A.p,_,dx,_,_,rfl,h1,T.aL,T.JH,Oq ..,A.bm,dm,_,rfl,h2,yc ..,A.bm,A.dk,g.size,st.mem,g.U,rfl,R.mem,by lia,R.wf.z1,R.wf.lU,q⟩
section
variable{K:W.Frag}
theorem aa.Qe{H:Hp}{A:TA}{g:aM}{st:aq}{os:OS}{n:Nat}(T:aa K H A g st os n){k:Nat}(hk:k<g.n):(st.at_ k).seq.length<=g.U.length:=by
 have ln:=T.ln;obtain⟨a,e1,e2,e3,B⟩:=T.at_ (k:=k) (by lia);exact Dz B.aT.room.nd λx hx=>T.wH _ (aHL e3) x hx
structure RL(G:Hp)(as:List Addr)(L:List (List Int))(Pr:Nat->List Int->Prop):Prop where
 len:as.length=L.length
 at_:∀(t:Nat)(a:Addr)(o:List Int),as[t]?=some a->L[t]?=some o->G a=some (.lst (o.map V.int))
 pr:∀(t:Nat)(o:List Int),L[t]?=some o->Pr t o
theorem RL.nil{G:Hp}{Pr:Nat->List Int->Prop}:RL G [] [] Pr:=⟨rfl,λt a o h=>(nomatch h),λt o h=>(nomatch h)⟩
theorem RL.keep{G G1:Hp}{as:List Addr}{L:List (List Int)}{Pr:Nat->List Int->Prop}(h:RL G as L Pr)(f:∀a∈as,∀o,G a=some o->G1 a=some o):RL G1 as L Pr:=⟨h.len,λt a o e1 e2=>f a (aHL e1) _ (h.at_ t a o e1 e2),h.pr⟩
theorem RL.snoc{G:Hp}{as:List Addr}{L:List (List Int)}{Pr:Nat->List Int->Prop}{a:Addr}{o:List Int}(h:RL G as L Pr)(e:G a=some (.lst (o.map V.int)))(p:Pr L.length o):RL G (as++[a]) (L++[o]) Pr:=by
 have hl:=h.len;have key:∀{α:Type}{xs:List α}{x y:α}{t:Nat},(xs++[x])[t]?=some y->(t<xs.length/\xs[t]?=some y)\/(t=xs.length/\y=x):=λ{α xs x y t} e=>by
  by_cases c:t<xs.length
  .rw [a9E c]at e;exact .inl ⟨c,e⟩
  .have l:=(ajE.mp e).1;rw[akn,aze]at l;have ht:t=xs.length:=by lia
   subst ht;rw[agf (aI1 _),a0R]at e;cases e;exact .inr ⟨rfl,rfl⟩
 refine⟨by rw[akn,akn,hl];rfl,λt b u e1 e2=>?_,λt u e2=>?_⟩
 .rcases key e1 with⟨c1,d1⟩|⟨c1,d1⟩
  .rcases key e2 with⟨_,d2⟩|⟨c2,_⟩
   .exact h.at_ t b u d1 d2
   .lia
  .rcases key e2 with⟨c2,_⟩|⟨_,d2⟩
   .lia
   .rw [d1,d2];exact e
 .rcases key e2 with⟨_,d2⟩|⟨c2,d2⟩
  .exact h.pr t u d2
  .rw [c2,d2];exact p
def cut(l m:Addr)(G:Hp):Hp:=λx=>if x=l\/x=m then none else G x
theorem Oc{l m a:Addr}{G:Hp}{o:HO}(e:G a=some o)(n1:a≠l)(n2:a≠m):cut l m G a=some o:=by
 unfold cut;rw[ale λz=>z.elim n1 n2];exact e
theorem N3{l m a:Addr}{G:Hp}{o:HO}(e:cut l m G a=some o):G a=some o/\a≠l/\a≠m:=by
 unfold cut at e;split at e
 .cases e
 .rename_i n;exact⟨e,λz=>n (.inl z),λz=>n (.inr z)⟩
theorem RL.cut{l m l' m':Addr}{G G1:Hp}{as:List Addr}{L:List (List Int)}{Pr:Nat->List Int->Prop}(h:RL (cut l m G) as L Pr)(f:∀x o,G x=some o->x≠l->x≠m->G1 x=some o/\x≠l'/\x≠m'):RL (cut l' m' G1) as L Pr:=h.keep λa _ o e=>by
 obtain⟨e1,n1,n2⟩:=N3 e;obtain⟨e2,n3,n4⟩:=f a o e1 n1 n2;exact Oc e2 n3 n4
def P1(st:aq)(t:Nat)(o:List Int):Prop:=o.Perm (st.at_ t).seq/\o.Pairwise (·<=·)/\o.length<=100
def P2(st:aq)(t:Nat)(o:List Int):Prop:=(∀x,x∈o↔(st.at_ t).fr x=true)/\o.Pairwise (·<=·)/\o.Nodup/\o.length<=100
theorem RL.l3{G:Hp}{l p:Addr}{as:List Addr}{L:List (List Int)}{Pr:Nat->List Int->Prop}{Pm:Nat->Int->Prop}(h:RL G as L Pr)(l3:as.length=3)(e:G l=some (.lst (as.map V.ref)))(m:∀t o,Pr t o->∀x,x∈o↔Pm t x):L3 G l (λk=>(as[k]?).getD p) (λk=>(L[k]?).getD []) Pm:=by
 have hL:L.length=3:=by rw[<-h.len];exact l3
 have a3:as=[(as[0]?).getD p,(as[1]?).getD p,(as[2]?).getD p]:=by
  match as,l3 with
  | [x,y,z],_=>rfl
 refine⟨by rw[e,a3];rfl,λk hk=>?_,λk x hk=>?_⟩
 .have e1:as[k]?=some (as[k]'(by lia)):=a4h _;have e2:L[k]?=some (L[k]'(by lia)):=a4h _;show G ((as[k]?).getD p)=some (.lst (((L[k]?).getD []).map V.int));rw[e1,e2];exact h.at_ k _ _ e1 e2
 .have e2:L[k]?=some (L[k]'(by lia)):=a4h _;show x∈(L[k]?).getD []↔_;rw[e2];exact m k _ (h.pr k _ e2) x
end
inductive A9(K:W.Frag)(vs:List V)(H:Hp)(Q:VK)(E:XK):Prop
 |mk (A:TA) (g:aM) (st:aq) (os:OS) (n m:Nat) (t0 tn tf lo bd:Addr) (xs:List Int) (bk:Int->Int):vs=[.ref A.p,.ref t0,.ref lo,.ref bd]->aa K H A g st os n->aJ g st->(∀x,Lw g bk x st)->Nx g st->H t0=some (.tup [.int g.size,.ref tn,.ref tf])->yJ H tn (g.cf 0)->yJ H tf (g.cf 2)->g.cf 1=g.cf 0->H lo=some (.lst (xs.map V.int))->xs.length<=20->(∀x∈xs,0<=x/\x<=1000000)->ju H bd bk m->g.U.length<=21->0<g.size->g.size<=16->(∀H',av H H'->Q (.bl true) H')->A9 K vs H Q E
example:(lu EX zW E7 GX EZ):=by
 obtain ⟨A,g,st,os,n,m,t0,tn,tf,lo,bd,xs,bk,rfl,R,ok,lw,nx,h0,pn,pf,YS,hlo,Qh,xb,eb,Lo,hs,Cs,q⟩:=h;refine⟨_,(Ze (rJ (ZN (pc (ZL (Zx (gB:=(Zq bG)) (oN:=cZ) (N:=["_law_k","_law_pair_here"]) (own:=1) (js:=[0]) (by decide +kernel) rfl rfl) rfl (ZY rfl T.vh (pc Zi Zb)) (λ_ _ _ _ _ _=>(bE 0 (show List.Nodup (["_law_k","_law_pair_here"]:List Str) by decide +kernel))) (λ_ _ _ _ _ _=>(Zj zW hr.m T.aL (pv 1) (pc (pv 0) Zb)))) (pc (ZL (Zx (gB:=(Zq bG)) (oN:=cZ) (N:=["_law_k","_law_pair_here"]) (own:=1) (js:=[0]) (by decide +kernel) rfl rfl) rfl (ZY rfl T.vh (pc Zi Zb)) (λ_ _ _ _ _ _=>(bE 0 (show List.Nodup (["_law_k","_law_pair_here"]:List Str) by decide +kernel))) (λ_ _ _ _ _ _=>(Zj E7 hr.m T.aL (pv 1) (pc (pv 0) Zb)))) Zb))) (ZD (K:=K) (n:=2) rfl rfl (Zn (bE 4 nd) (Zn (bE 5 nd) ZC))))
   (Ze (aE (PW.pt (pw_or (PW.pt (AD (Zu aW (ak (ZH (K:=K) rfl) (ak (ZH (K:=K) rfl) (pv 1) Zi (λ_ _=>rfl)) Zi (λ_ _=>rfl)) ZU (Zw _)) (Cd (Zu (ZkP (K:=K) 1 (qZ hr 1 (by decide)) rfl) (OG (OE (K:=K) rfl) (pv 5) SY (K4 Zi)) (ZV (pc (ZV Zb) (pc (ZV Zb) Zb))) (Zw _))))) (EC (PW.pt (AD (Zu aW (ak (ZH (K:=K) rfl) (ak (ZH (K:=K) rfl) (pv 1) Zi (λ_ _=>rfl)) Zi (λ_ _=>rfl)) ZU (Zw _)) (Cd (Zu (Sa (K:=K) (Nat.lt_of_succ_lt hu) rfl) (ak (Zl (K:=K) rfl) (pv 5) Zi (λ_ _=>rfl)) (ZV Zb) (Zw _)))))))) (Zg (Zs d7)) Zt)
   (Zg (Zs (Zo (Je rfl) rfl T.C6 IX (pc (ZL (Zx (gB:=(Zq bG)) (oN:=cZ) (N:=["_law_board","_law_pair_here","_law_lies","_law_marks","_law_book","_law_specs"]) (own:=1) (js:=[0,4,5,3,1]) (by decide +kernel) rfl rfl) rfl (zh (K:=K) rfl (pv 2)) (λ_ _ _ _ _ _=>(bE 0 (show List.Nodup (["_law_board","_law_pair_here","_law_lies","_law_marks","_law_book","_law_specs"]:List Str) by decide +kernel))) (λ_ _ _ _ _ _=>(Zm EZ hr.m rfl (pc (pv 1) (pc (pv 0) (pc (Zm GX hr.m rfl (pc (pv 4) (pc (ak (ZH (K:=K) rfl) (pv 5) Zi (λ_ _=>rfl)) (pc (pv 0) Zb)))) (pc (pv 2) (pc (pv 3) Zb)))))))) Zb)))))),?_⟩
 have g3:=ok.n3;obtain⟨dx,ob⟩:=R.ob;have few:∀i,i<3->(st.at_ i).seq.length<=21:=λi hi=>atR (R.Qe (by lia)) Lo;refine hide λu1 e1=>?_;refine⟨_,rfl,by lia,by lia,λl1 hl1=>?_⟩;refine DM (lo:=0) (n:=(3:Int).toNat) (l:=l1) (λi ys σ G'=>∃(v0:Option V)(as:List Addr)(L:List (List Int)),σ=[v0,some (.ref A.p)]/\ys=as.map V.ref/\as.length=i/\G' l1=some (.lst ys)/\av H G'/\RL (cut l1 l1 G') as L (P1 st)) ⟨none,[],[],rfl,rfl,rfl,Za,Zd hl1 _,RL.nil⟩ ?_ ?_
 .rintro i ys σ G' hi C8 ⟨v0,as,L,rfl,rfl,la,g1,s3,rl⟩;have BN:i<3:=hi;have e0:(0:Int)+(i:Int)=(i:Int):=by lia
  refine⟨_,rfl,A.p,dx,_,rfl,s3 _ _ ob,az ..,_,rfl,A,g,st,os,n,i,by rw[e0];rfl,R.same s3,by lia,by have:=few i BN;lia,λD bs hD pb pw=>?_⟩;have CU:D≠l1:=λz=>by rw[z,g1]at hD;cases hD
  have s4:=Zd hD (.lst (bs.map V.int));refine gu.of (atR (by show 3<=5;decide:(3:Int).toNat<=5) (by decide)) hi C8 (s4 _ _ g1) ⟨_,as++[D],L++[bs],rfl,by rw[afk];rfl,by rw[akn,la];rfl,Za,λx o e=>?_,?_⟩
  .rw [Zc (Zf e hl1)];exact s4 _ _ (s3 _ _ e)
  .refine (rl.cut (l':=l1) (m':=l1) λx o e n1 n2=>⟨by rw[Zc n1];exact s4 _ _ e,n1,n2⟩).snoc (Oc (by rw[Zc CU];exact Za) CU CU) ?_;have ll:=rl.len;rw[<-ll,la];exact⟨pb,pw,by rw[pb.length_eq];have:=few i BN;lia⟩
 rintro ys σ G3 _ ⟨v0',as,L,rfl,rfl,la,g1,s3,rl⟩;have Xy:as.length=3:=la;refine⟨_,rfl,by lia,by lia,λl2 hl2=>?_⟩;have n21:l2≠l1:=λz=>by rw[z,g1]at hl2;cases hl2
 have R3:=R.same s3;have Gq:=s3 _ _ ob;refine DM (lo:=0) (n:=(3:Int).toNat) (l:=l2) (λi ys σ G'=>∃(v0:Option V)(cs:List Addr)(M:List (List Int)),σ=[v0,some (.ref A.p)]/\ys=cs.map V.ref/\cs.length=i/\G' l2=some (.lst ys)/\av G3 G'/\RL (cut l2 l2 G') cs M (P2 st)) ⟨none,[],[],rfl,rfl,rfl,Za,Zd hl2 _,RL.nil⟩ ?_ ?_
 .rintro i ys σ G' hi C8 ⟨v0,cs,M,rfl,rfl,lc,g2,s4,FT⟩;have BN:i<3:=hi;have e0:(0:Int)+(i:Int)=(i:Int):=by lia
  refine⟨_,rfl,A.p,dx,_,rfl,s4 _ _ Gq,az ..,_,rfl,A,g,st,os,n,i,by rw[e0];rfl,R3.same s4,by lia,by lia,λD bs hD mb lb pw Xd=>?_⟩;have CU:D≠l2:=λz=>by rw[z,g2]at hD;cases hD
  have s5:=Zd hD (.lst (bs.map V.int));refine gu.of (atR (by show 3<=5;decide:(3:Int).toNat<=5) (by decide)) hi C8 (s5 _ _ g2) ⟨_,cs++[D],M++[bs],rfl,by rw[afk];rfl,by rw[akn,lc];rfl,Za,λx o e=>?_,?_⟩
  .rw [Zc (Zf e hl2)];exact s5 _ _ (s4 _ _ e)
  .refine (FT.cut (l':=l2) (m':=l2) λx o e n1 n2=>⟨by rw[Zc n1];exact s5 _ _ e,n1,n2⟩).snoc (Oc (by rw[Zc CU];exact Za) CU CU) ?_;have ll:=FT.len;rw[<-ll,lc];exact⟨mb,pw,Xd,by lia⟩
 rintro ys σ G4 _ ⟨V8,cs,M,rfl,rfl,lc,g2,s4,FT⟩;have Xx:cs.length=3:=lc;refine⟨(sL 2),λt5 Qu=>⟨t5,_,rfl,aP.of Za,rfl,_,_,rfl,gN ⟨_,_,rfl,gN ⟨rfl,?_⟩⟩⟩⟩;subst e1;try dsimp only
 have s5:=Zd Qu (.tup [V.ref l1,V.ref l2]);generalize upd G4 t5 (.tup [V.ref l1,V.ref l2])=G5 at *;have JR:=s4.trans s5;have FU:RL G5 as L (P1 st):=rl.keep λa _ o e=>JR _ _ (N3 e).1;have LU:RL G5 cs M (P2 st):=FT.keep λa _ o e=>s5 _ _ (N3 e).1;have jF:=JR _ _ g1;have vI:=s5 _ _ g2;have Yn:=FU.l3 (p:=A.p) (Pm:=λk x=>x∈(st.at_ k).seq) Xy jF λt o p x=>p.1.mem_iff;have Dk:=LU.l3 (p:=A.p) (Pm:=λk x=>(st.at_ k).fr x=true) Xx vI λt o p x=>p.1 x;have sH:=s3.trans JR;clear rl FT FU jF s4 s5 JR g1 g2 Qu hl1 hl2 R3 Gq s3;obtain⟨wn,en,C4,wn2,_⟩:=pn;obtain⟨wf,ef,Xw,wf2,_⟩:=pf;have emp:∀k,k<3->(∀x,(st.at_ k).fr x=false)->(M[k]?).getD []=[]:=λk hk nf=>by
  refine List.eq_nil_iff_forall_not_mem.mpr λx hx=>?_;have z:=(Dk.mem k x hk).mp hx;rw[nf x]at z;cases z
 have Nd:=sH _ _ h0;have YC:=sH _ _ en;have YF:=sH _ _ ef;have Ly:∀{wr:Str}{l:Bool},wr ="through" ->l=decide (wr ="late")->l=false:=λ{wr l} e h=>by
  rw[h,e];decide +kernel
 refine rB (λc G'=>c=false/\av G5 G') (λQ' k'=>?_) ?_
 .have fin:∀G',av G5 G'->tT (zC Pp (zC (xF K) (zC (xF K) (zB 1) (tC (V.int 2))) (tC (V.int 3))) (tC (V.str "through"))) [some (.ref A.p),some (.ref t0),some (.ref lo),some (.ref bd),some (.ref l1),some (.ref l2)] G' (λb H=>if b=true then tT (zC (CC K true) (zC (zR K) (zB 5) (tC (V.int 2))) (Fz zD)) [some (.ref A.p),some (.ref t0),some (.ref lo),some (.ref bd),some (.ref l1),some (.ref l2)] H Q' else Q' false H):=λG' s6=>by
   refine⟨_,rfl,t0,_,_,_,rfl,rfl,aP.of (s6 _ _ Nd),je,tf,_,_,_,rfl,rfl,aP.of (s6 _ _ YF),Iu,rfl,_,rfl,?_⟩;by_cases c:wf ="through"
   .refine cB (a5h (by rw[c])) ⟨_,rfl,l2,_,_,_,rfl,rfl,ao.of (s6 _ _ Dk.top),Dk.ix (k:=2) (by lia),(sL 0),λl8 MW=>?_⟩;have s8:=Zd MW (.lst []);have e2:=emp 2 (by lia) λx=>nx.tf x (Ly c Xw);refine⟨_,l8,[],[],rfl,rfl,ao.of (s8 _ _ (s6 _ _ (by have q:=Dk.at_ 2 (by lia);rw[e2]at q;exact q))),ao.of Za,_,rfl,?_⟩;exact k' _ _ ⟨by simp,s6.trans s8⟩
   .exact bK (aKy λz=>c (by injection z)) (k' _ _ ⟨rfl,s6⟩)
  refine⟨_,rfl,t0,_,_,_,rfl,rfl,aP.of Nd,gI,tn,_,_,_,rfl,rfl,aP.of YC,Iu,rfl,_,rfl,?_⟩;by_cases c:wn ="through"
  .have e0:=emp 0 (by lia) λx=>nx.tn 0 x (by lia) (Ly c C4);have e1:=emp 1 (by lia) λx=>nx.tn 1 x (by lia) (by rw[YS];exact Ly c C4);refine cB (a5h (by rw[c])) ⟨_,rfl,_,rfl,l2,_,rfl,ao.of Dk.top,λp9 XU=>⟨(sL 0),λq1 hq1=>⟨(sL 0),λq2 hq2=>⟨(sL 2),λq3 XS=>?_⟩⟩⟩⟩;have t1:=Zd XU (.lst (lV [V.ref ((cs[0]?).getD A.p),V.ref ((cs[1]?).getD A.p),V.ref ((cs[2]?).getD A.p)] none (some 2)));have t2:=Zd hq1 (.lst []);have t3:=Zd hq2 (.lst []);have t4:=Zd XS (.lst [V.ref q1,V.ref q2]);have Pj:=t1.trans (t2.trans (t3.trans t4));refine⟨p9,q3,[V.ref ((cs[0]?).getD A.p),V.ref ((cs[1]?).getD A.p)],[V.ref q1,V.ref q2],λ_=>true,rfl,rfl,λi u v h1 h2=>?_,ao.of (t4 _ _ (t3 _ _ (t2 _ _ Za))),ao.of Za,.inl ⟨rfl,?_⟩⟩
   .have key:∀k,k<3->(M[k]?).getD []=[]->∀q,upd (upd (upd (upd G5 p9 (.lst (lV [V.ref ((cs[0]?).getD A.p),V.ref ((cs[1]?).getD A.p),V.ref ((cs[2]?).getD A.p)] none (some 2)))) q1 (.lst [])) q2 (.lst [])) q3 (.lst [V.ref q1,V.ref q2]) q=some (.lst [])->Jw K (upd (upd (upd (upd G5 p9 (.lst (lV [V.ref ((cs[0]?).getD A.p),V.ref ((cs[1]?).getD A.p),V.ref ((cs[2]?).getD A.p)] none (some 2)))) q1 (.lst [])) q2 (.lst [])) q3 (.lst [V.ref q1,V.ref q2])) 1 (.ref ((cs[k]?).getD A.p)) (.ref q) true:=λk hk ek q eq=>.inr ⟨_,q,[],[],λ_=>true,rfl,rfl,λi u v h=>(nomatch h),.inl ⟨ao.of (Pj _ _ (by have z:=Dk.at_ k hk;rw[ek]at z;exact z)),ao.of eq,.inl ⟨rfl,rfl⟩⟩⟩
    match i,h1,h2 with
    |0,h1,h2=>cases h1;cases h2;exact key 0 (by lia) e0 q1 (t4 _ _ (t3 _ _ Za))
    |1,h1,h2=>cases h1;cases h2;exact key 1 (by lia) e1 q2 (t4 _ _ Za)
    |i+2,h1,_=>cases h1
   .exact ⟨_,rfl,bK rfl (fin _ Pj)⟩
  .exact bK (aKy λz=>c (by injection z)) (fin _ (av.refl _))
 rintro c G6 ⟨rfl,s6⟩;refine bK rfl ?_;dsimp only[dw];have R6:=R.same (sH.trans s6);have Qc:=s6 _ _ (sH _ _ hlo);have Nb:=Yn.same s6;have Na:=Dk.same s6;have YG:=eb.frame λo e=>s6 _ _ (sH _ _ e);have Yp:=s6 _ _ Nd;refine⟨_,rfl,lo,rfl,⟨_,ao.of Qc⟩,λlz rj=>?_⟩;refine DK (K:=K) (a:=lo) (xs:=xs.map V.int) (l:=lz) (λj ys σ G'=>∃v0:Option V,σ=[v0,some (.ref A.p),some (.ref l1),some (.ref l2),some (.ref bd),some (.ref t0)]/\ys=(List.replicate j true).map V.bl/\G' lz=some (.lst ys)/\av G6 G') ⟨none,rfl,rfl,Za,Zd rj _⟩ (λj ys σ G' _ ⟨_,_,_,_,s⟩=>ao.of (s _ _ Qc)) ?_ ?_
 .rintro j x ys σ G' hj lT hys ⟨v0,rfl,rfl,uO,s7⟩;obtain⟨b,eb',rfl⟩:=IG lT;obtain⟨b0,b1⟩:=xb b (aHL eb');refine⟨_,rfl,_,rfl,_,rfl,_,rfl,t0,_,_,_,rfl,rfl,aP.of (s7 _ _ Yp),cO,_,rfl,bd,g.size,b,bk,m,rfl,YG.frame (λo e=>s7 _ _ e),hs,Cs,b0,b1,λld HE=>?_⟩;have s8:=Zd HE (.lst ((aG g.size bk b).map V.int));have JP:=s7.trans s8;refine⟨_,rfl,_,rfl,A,g,st,os,n,b,bk,ld,l1,l2,_,_,_,_,rfl,R6.same JP,ok,lw b,nx,Za,Nb.same JP,Na.same JP,b0,b1,Cs,λG8 s9=>?_⟩;refine gu.of (aaH (Zv (by rw[apM];lia))) hj hys (s9 _ _ (s8 _ _ uO)) ⟨_,rfl,by rw[bbV,afk];rfl,Za,λx o e=>?_⟩;rw[Zc (Zf e rj)];exact s9 _ _ (JP _ _ e)
 rintro ys σ G' _ ⟨v0,rfl,rfl,uO,s7⟩;refine⟨lz,_,rfl,ao.of uO,?_⟩;rw[show(List.replicate (xs.map V.int).length true).all id=true by rw[aT6];intro z hz;rw[(aMl.mp hz).2];rfl];exact q G' ((sH.trans s6).trans s7)
def wk(size:Int)(mem:Int->Int)(b:Int)(i:Nat):List (Int×Int):=((List.range i).map λk=>(b*size+(k:Nat),mem (b*size+(k:Nat)))).filter λp=>!decide (p.2=0)
theorem Zkn{size:Int}{mem:Int->Int}{b:Int}{i:Nat}:wk size mem b (i+1)=wk size mem b i++if mem (b*size+(i:Nat))=0 then[] else[(b*size+(i:Nat),mem (b*size+(i:Nat)))]:=by
 unfold wk;rw[aJb,afk,filter_append];congr 1
 by_cases c:mem (b*size+(i:Nat))=0
 .rw [auJ c];simp[c]
 .rw [ale c];simp[c]
theorem pT{size:Int}{mem:Int->Int}{b:Int}{i:Nat}{p:Int×Int}:p∈wk size mem b i↔(∃k:Nat,k<i/\p.1=b*size+(k:Nat))/\p.2=mem p.1/\p.2≠0:=by
 unfold wk;rw[mem_filter,mem_map];constructor
 .rintro ⟨⟨k,hk,rfl⟩,c⟩;exact⟨⟨k,agO.mp hk,rfl⟩,rfl,by simpa using c⟩
 .rintro ⟨⟨k,hk,e⟩,e2,c⟩;exact⟨⟨k,agO.mpr hk,by rw[<-e,<-e2]⟩,by simpa using c⟩
theorem Rv{size:Int}{mem:Int->Int}{b:Int}{i:Nat}:(wk size mem b i).length<=i:=by
 unfold wk;refine atR (a81 ..) ?_;rw[apM,aHo];exact aI1 _
theorem Ik{size:Int}{mem:Int->Int}{b:Int}{i:Nat}:(wk size mem b i).Pairwise λa b=>a.1<b.1:=by
 unfold wk;refine List.Pairwise.filter _ (aXi.mpr (List.Pairwise.imp ?_ List.pairwise_lt_range));intro a c h;show b*size+(a:Int)<b*size+(c:Int);lia
def pS(size:Int)(mem:Int->Int)(ns:List Int):List (Int×Int):=ns.flatMap λb=>wk size mem b size.toNat
theorem ZiF{size:Int}{mem:Int->Int}{ns:List Int}{i:Nat}{b:Int}(h:ns[i]?=some b):pS size mem (ns.take (i+1))=pS size mem (ns.take i)++wk size mem b size.toNat:=by
 unfold pS;rw[take_succ,h,List.flatMap_append];simp
theorem SD{size:Int}{mem:Int->Int}{ns:List Int}:(pS size mem ns).length<=ns.length*size.toNat:=by
 induction ns with
 |nil=>exact acY _
 |cons b r ih=>
  unfold pS at *;rw[List.flatMap_cons,akn,aCx,Nat.succ_mul];have:=Rv (size:=size) (mem:=mem) (b:=b) (i:=size.toNat);lia
theorem Zko{size:Int}{mem:Int->Int}{ns:List Int}(z:0<size)(up:ns.Pairwise (·<·))(sup:∀s,mem s≠0->s/size∈ns):zm mem (pS size mem ns):=by
 refine⟨?_,λs v=>?_⟩
 .unfold pS;refine List.pairwise_flatMap.mpr ⟨λb _=>Ik,up.imp λ{a c} h x hx y hy=>?_⟩;obtain⟨⟨k,hk,e1⟩,_⟩:=pT.mp hx;obtain⟨⟨j,hj,e2⟩,_⟩:=pT.mp hy;rw[e1,e2];have h1:a*size+size<=c*size:=by
   have:=aPP (show a+1<=c by lia) (Int.le_of_lt z);rw[Int.add_mul,Int.one_mul]at this;exact this
  lia
 .unfold pS;rw[List.mem_flatMap];constructor
  .rintro ⟨b,_,h⟩;obtain⟨_,e,c⟩:=pT.mp h;exact⟨e.symm,c⟩
  .rintro ⟨e,c⟩;refine⟨s/size,sup s (by rw[e];exact c),pT.mpr ⟨⟨(s%size).toNat,?_,?_⟩,e.symm,c⟩⟩
   .have h1:=avQ s (by lia:size≠0);have h2:=aGX s z;lia
   .have h1:=avQ s (by lia:size≠0);show s=s/size*size+((s%size).toNat:Int);rw[Int.toNat_of_nonneg h1];exact(Int.ediv_mul_add_emod s size).symm
def uZ(G:Hp)(as:List Addr)(ps:List (Int×Int)):Prop:=as.length=ps.length/\∀(i:Nat)(a:Addr)(p:Int×Int),as[i]?=some a->ps[i]?=some p->G a=some (.tup [.int p.1,.int p.2])
theorem uZ.same{G G':Hp}{as:List Addr}{ps:List (Int×Int)}(h:uZ G as ps)(s:∀x ys,G x=some (.tup ys)->G' x=some (.tup ys)):uZ G' as ps:=⟨h.1,λi a p e1 e2=>s _ _ (h.2 i a p e1 e2)⟩
theorem uZ.app{G:Hp}{as bs:List Addr}{ps qs:List (Int×Int)}(h1:uZ G as ps)(h2:uZ G bs qs):uZ G (as++bs) (ps++qs):=by
 refine⟨by rw[akn,akn,h1.1,h2.1],λi a p e1 e2=>?_⟩;by_cases c:i<as.length
 .rw [a9E c]at e1;rw[a9E (by rw[<-h1.1];exact c)]at e2;exact h1.2 i a p e1 e2
 .rw [agf (by lia)]at e1;rw[agf (by rw[<-h1.1];lia),<-h1.1]at e2;exact h2.2 _ a p e1 e2
theorem uZ.one{G:Hp}{t:Addr}{p:Int×Int}(h:G t=some (.tup [.int p.1,.int p.2])):uZ G [t] [p]:=by
 refine⟨rfl,λi a q e1 e2=>?_⟩
 match i,e1,e2 with
 |0,e1,e2=>cases e1;cases e2;exact h
 |i+1,e1,_=>cases e1
inductive Bb(K:W.Frag)(vs:List V)(H:Hp)(Q:VK)(E:XK):Prop
 |mk (A:TA) (g:aM) (st:aq) (os:OS) (n:Nat) (lo:Addr) (xs:List Int):vs=[.ref A.p,.int g.size,.ref lo]->aa K H A g st os n->g.n=3->H lo=some (.lst (xs.map V.int))->xs.Nodup->xs.length<=20->(∀x∈xs,0<=x/\x<=1000000)->(∀x∈g.U,x∈xs)->0<g.size->g.size<=16->(∀H',av H H'->Q (.bl true) H')->Bb K vs H Q E
example:(jT E3 rZ BC C7):=by
 obtain ⟨A,g,st,os,n,lo,xs,rfl,R,g3,hlo,Xa,Qh,xb,hU,hs,Cs,q⟩:=h;have tR:=C7 2;refine⟨_,(Ze (cX 3 nd (ZV Zb))
   (Ze (yG aAH rfl (zh (K:=K) rfl (Zo (Zeu (K:=K) rfl) rfl T.A4 alo (pc (pv 2) Zb))) (bE 4 nd) (Zg (Zr (wu (K:=K) rfl (dZ aRz PySem.F.slot_list_extend PySem.F.type_list_extend ZgB (pv 3) (pc (Ua (Zx (gB:=(Zq cE)) (oN:=mD) (N:=["_law_k","_law_word_here","_law_board","_law_size"]) (own:=2) (js:=[4,1]) (by decide +kernel) rfl rfl) rfl (K3 rfl T.Ei (pc (Zj rZ hr.m T.aL (pv 0) (pc Zi (pc (pv 4) Zb))) Zb)) (λ_ _ _ _ _ _=>(ZD (K:=K) (n:=2) rfl rfl (Zn (bE 0 (show List.Nodup (["_law_k","_law_word_here","_law_board","_law_size"]:List Str) by decide +kernel)) (Zn (bE 1 (show List.Nodup (["_law_k","_law_word_here","_law_board","_law_size"]:List Str) by decide +kernel)) ZC)))) (λ_ _ _ _ _ _=>(Zu uK (pv 1) Zi (Zw _))) (λ_ _ _ _ _ _=>(ZN (pc (aj ZJ (aj sZ (pv 2) (pv 3)) (pv 0)) (pc (pv 1) Zb))))) Zb))))))
   (Zg (Zs (Zm tR hr.m rfl (pc (AE BC hr.m T.aL (pv 0)) (pc (pv 3) Zb))))))),?_⟩
 refine⟨(sL 0),λl0 HG=>?_⟩;have s0':=Zd HG (.lst []);have e0:=Za (H:=H) (a:=l0) (o:=.lst []);have R1:=R.same s0';have lo1:=s0' _ _ hlo;generalize upd H l0 (.lst [])=G0 at *;dsimp only[dw];refine⟨_,rfl,lo,xs,rfl,ao.of lo1,by lia,λD ns hD po pw=>?_⟩;have sD:=Zd hD (.lst (ns.map V.int));have eD:=Za (H:=G0) (a:=D) (o:=.lst (ns.map V.int));have e1:=sD _ _ e0;have nD:D≠l0:=(Zf e0 hD).symm;have R2:=R1.same sD;have sH:=s0'.trans sD;clear R1 R2 lo1;generalize upd G0 D (.lst (ns.map V.int))=G1 at *;have Xq:ns.length<=20:=by rw[po.length_eq];exact Qh
 have up:ns.Pairwise (·<·):=by
  have Xe:=po.nodup_iff.mpr Xa;exact(pw.and Xe).imp λ{a b} h=>by have:=h.1;have:=h.2;lia
 refine⟨D,rfl,?_⟩;have u0:∀{x:Addr}{o:HO},H x=some o->x≠l0:=λe=>Zf e HG;have sz:ns.length*g.size.toNat<=20*16:=Nat.mul_le_mul Xq (by lia);refine⟨⟨_,ao.of eD⟩,OH (K:=K) (a:=D) (xs:=ns.map V.int) (λi σ G=>∃(v4:Option V)(as:List Addr),σ=[some (.ref A.p),some (.int g.size),some (.ref lo),some (.ref l0),v4]/\uZ G as (pS g.size st.mem (ns.take i))/\G l0=some (.lst (as.map V.ref))/\G D=some (.lst (ns.map V.int))/\av H G)
  ⟨_,[],rfl,⟨rfl,λi a p e=>(nomatch e)⟩,e1,eD,sH⟩ (λi σ G _ h=>by obtain⟨_,_,_,_,_,e,_⟩:=h;exact ao.of e) ?_ ?_⟩
 .rintro i x σ G hx ⟨v4,as,rfl,pr,gl,gD,s⟩;obtain⟨b,eb,rfl⟩:=IG hx;obtain⟨b0,b1⟩:=xb b (po.mem_iff.mp (aHL eb));have sn:=ZiF (size:=g.size) (mem:=st.mem) eb;have R3:=R.same s;obtain⟨dx,ob⟩:=R3.ob;refine⟨_,rfl,.inl ⟨rfl,_,ao.of gl⟩,_,rfl,A.p,dx,_,rfl,ob,az ..,_,rfl,?_⟩;refine⟨A,g,st,os,n,3,b,rfl,R3,by lia,λh=>by lia,b0,b1,λlw G1' pP s1 Nr=>?_⟩;rw[show BW g st 3 b=aG g.size st.mem b from auJ g3.symm]at Nr;have Wt:=s.trans s1;refine⟨lw,rfl,⟨_,ao.of Nr⟩,λlz rj=>?_⟩;refine TX (K:=K) (a:=lw) (xs:=(aG g.size st.mem b).map V.int) (l:=lz) (λj ys σ G'=>∃(v0 v1:Option V)(bs:List Addr),σ=[v0,v1,some (.int b),some (.int g.size)]/\ys=bs.map V.ref/\uZ G' bs (wk g.size st.mem b j)/\G' lz=some (.lst ys)/\av G1' G') ⟨none,none,[],rfl,rfl,⟨rfl,λi a p e=>(nomatch e)⟩,Za,Zd rj _⟩ (λj ys σ G' _ h=>by obtain⟨_,_,_,_,_,_,_,s⟩:=h;exact ao.of (s _ _ Nr)) ?_ ?_
  .rintro j x t ys σ G' hj lT hys ⟨v0,v1,bs,rfl,rfl,pb,gz,s2⟩ ht;have hj':=hj;rw[apM,ZT]at hj;rw[afQ,IL hj]at lT;cases lT;have JO:=Zkn (size:=g.size) (mem:=st.mem) (b:=b) (i:=j);have s3:=Zd ht (.tup [V.int (j:Int),V.int (st.mem (b*g.size+(j:Nat)))]);have et:=Za (H:=G') (a:=t) (o:=.tup [V.int (j:Int),V.int (st.mem (b*g.size+(j:Nat)))]);generalize upd G' t (.tup [V.int (j:Int),V.int (st.mem (b*g.size+(j:Nat)))])=G3 at *;have QT:=s3 _ _ gz;refine⟨t,_,rfl,aP.of et,rfl,_,_,rfl,gN ⟨_,_,rfl,gN ⟨rfl,?_⟩⟩⟩;refine⟨_,rfl,rfl,_,rfl,?_⟩;have Px:=pb.same λx ys e=>s3 _ _ e;by_cases c:st.mem (b*g.size+(j:Nat))=0
   .rw [auJ c,aKQ]at JO;exact bK (by simp[c]) (yV.of hj' hys ⟨_,_,bs,rfl,rfl,by rw[JO];exact Px,QT,s2.trans s3⟩)
   .rw [ale c]at JO;refine cB (by simp[c]) ⟨_,rfl,_,rfl,_,_,rfl,rfl,.inr ⟨by lia,by lia⟩,_,rfl,_,_,rfl,rfl,_,rfl,(sL 2),λt2 XN=>?_⟩;have s4:=Zd XN (.tup [V.int (b*g.size+(j:Nat)),V.int (st.mem (b*g.size+(j:Nat)))]);have Nn:=Za (H:=G3) (a:=t2) (o:=.tup [V.int (b*g.size+(j:Nat)),V.int (st.mem (b*g.size+(j:Nat)))]);generalize upd G3 t2 (.tup [V.int (b*g.size+(j:Nat)),V.int (st.mem (b*g.size+(j:Nat)))])=G4 at *;have QS:=s4 _ _ QT;have ab:=(Px.same λx ys e=>s4 _ _ e).app (uZ.one (p:=(b*g.size+(j:Nat),st.mem (b*g.size+(j:Nat)))) Nn);refine gu.of (aaH (Zv (by rw[apM,ZT];lia))) hj' hys QS ⟨_,_,bs++[t2],rfl,by rw[afk];rfl,by rw[JO];exact ab.same λx ys e=>by rw[Zc (uM e QS (by intro z;cases z))];exact e,Za,λx o e=>?_⟩;rw[Zc (Zf e rj)];exact s4 _ _ (s3 _ _ (s2 _ _ e))
  .rintro ys σ G' _ ⟨v0,v1,bs,rfl,rfl,pb,gz,s2⟩;rw[apM,ZT]at pb;have jF:=s2 _ _ (s1 _ _ gl);have lb:bs.length<=16:=by rw[pb.1];exact atR Rv (by lia)
   have la:as.length<=320:=by rw[pr.1];exact atR SD (atR (bbB _ (List.length_take_le' ..)) sz)
   have sx:∀(x:Addr)(ys:List V)(o:HO),G' x=some (.tup ys)->upd G' l0 o x=some (.tup ys):=λx ys o e=>by rw[Zc (uM e jF (by intro z;cases z))];exact e
   refine⟨l0,lz,as.map V.ref,bs.map V.ref,rfl,rfl,jF,gz,aaH (Zv (by rw[apM,apM];lia)),_,as++bs,rfl,?_,by rw[afk];exact Za,?_,λx o e=>?_⟩
   .rw [sn];exact((pr.same λx ys e=>s2 _ _ (s1 _ _ e)).app pb).same λx ys e=>sx _ _ _ e
   .rw [Zc nD];exact s2 _ _ (s1 _ _ gD)
   .rw [Zc (u0 e)];exact s2 _ _ (Wt _ _ e)
 .rintro σ G ⟨v4,as,rfl,pr,gl,gD,s⟩;rw[apM,take_length]at pr;have R3:=R.same s;obtain⟨dx,ob⟩:=R3.ob;refine⟨_,rfl,A.p,dx,_,rfl,ob,az ..,?_⟩;refine⟨A,g,st,os,n,rfl,R3,λD2 ps G2 QN s2 pD pl=>?_⟩;have y9:=s2 _ _ gl;have WA:=pr.same λx ys e=>s2 _ _ e;have eq:=Zko R.wf.z0 up λv hv=>po.mem_iff.mpr (hU _ (R.mem.sup v hv));have ep:=pl.uniq eq;rw[ep]at pD;refine⟨_,rfl,?_⟩;exact⟨_,_,rfl,pD.eqv ⟨as,y9,WA⟩ (atR SD (by lia)),λG3 s3=>q _ (s.trans (s2.trans s3))⟩
section
variable{g:aM}{st:aq}{b:Int}{h:Nat}{ws:List Int}
theorem KO{k:Nat}:(bA g k b ws st).ev.length=st.ev.length+1:=by
 unfold bA;split
 .show (st.ev++_).length=_;rw[akn];rfl
 .show (st.ev++_).length=_;rw[akn];rfl
theorem KH{k:Nat}:(cC k b st).ev.length=st.ev.length+1:=by
 show(st.ev++_).length=_;rw[akn];rfl
theorem ZiG:(bw g b ws st).ev.length<=st.ev.length+2:=by
 unfold bw;split
 .show (bA g 2 b ws st).ev.length<=_;rw[KO];lia
 .rw [KO,KO];lia
theorem Zgc:(aN g h b st).ev.length<=st.ev.length+3:=by
 unfold aN;split
 .refine atR ZiG ?_;rw[KH];lia
 .rw [KH];lia
theorem ZiH:(fT g b st).ev.length<=st.ev.length+3:=by
 unfold fT;split
 .rw [KO,KH];lia
 .rw [KH];lia
theorem Ob:∀{bs:List Int}{st:aq},(jc g h bs st).ev.length<=st.ev.length+3*bs.length
 | [],st=>aI1 _
 |b ::bs,st=>by
  unfold jc;refine atR Ob ?_;have:=Zgc (g:=g) (h:=h) (b:=b) (st:=st);rw[aCx];lia
theorem TQ:∀{bs:List Int}{st:aq},(jb g bs st).ev.length<=st.ev.length+3*bs.length
 | [],st=>aI1 _
 |b ::bs,st=>by
  unfold jb;refine atR TQ ?_;have:=ZiH (g:=g) (b:=b) (st:=st);rw[aCx];lia
theorem ZiI{m:Nat}(w:aJ g st)(h:∀k,k<3->(st.at_ k).seq.length<=m):(cN g st).ev.length<=st.ev.length+9*m:=by
 obtain⟨_,s1⟩:=w.bf (k:=1) (by lia);obtain⟨_,s2⟩:=w.bf (k:=2) (by lia);have l1:(jK ((bf g st 1).at_ 1).seq).length<=m:=by
  rw[cD.length_eq,s1,ale (agV 1)];exact h 1 (by lia)
 have l2:(jK ((bf g st 2).at_ 2).seq).length<=m:=by
  rw[cD.length_eq,s2,ale (agV 2)];exact h 2 (by lia)
 have l0:(jK ((bf g st 0).at_ 0).seq).length<=m:=by
  rw[cD.length_eq];exact h 0 (by lia)
 have e0:(bf g st 1).ev.length<=st.ev.length+3*(jK ((bf g st 0).at_ 0).seq).length:=Ob;have e1:(bf g st 2).ev.length<=(bf g st 1).ev.length+3*(jK ((bf g st 1).at_ 1).seq).length:=Ob;have e2:(cN g st).ev.length<=(bf g st 2).ev.length+3*(jK ((bf g st 2).at_ 2).seq).length:=TQ;lia
end
def lg(bk:Int->Int)(os:List Int):List (Int×Int):=(os.filter λs=>!decide (bk s=0)).map λs=>(s,bk s)
theorem ZhT{bk:Int->Int}{os:List Int}{i:Nat}{s:Int}(h:os[i]?=some s):lg bk (os.take (i+1))=lg bk (os.take i)++if bk s=0 then[] else[(s,bk s)]:=by
 unfold lg;rw[take_succ,h,filter_append,afk];congr 1
 show(List.filter _ [s]).map _=_;by_cases c:bk s=0
 .rw [auJ c,aDS,ale (by simp[c])];rfl
 .rw [ale c,aDS,auJ (by simp[c])];rfl
theorem Zkp{bk:Int->Int}{os:List Int}:(lg bk os).length<=os.length:=by
 unfold lg;rw[apM];exact a81 ..
theorem Zkq{bk:Int->Int}{os ks:List Int}{kvs:List (Key×V)}(po:os.Perm ks)(pw:os.Pairwise (·<=·))(h5:kvs.map Prod.fst=ks.map Sum.inl)(h6:ks.Nodup)(h3:∀s,(aK kvs (Sum.inl s:Key)).getD (V.int 0)=V.int (bk s)):zm bk (lg bk os):=by
 have Xb:os.Nodup:=po.nodup_iff.mpr h6;refine⟨?_,λs v=>?_⟩
 .unfold lg;rw[pairwise_map];exact((pw.and Xb).imp λh=>by obtain⟨h1,h2⟩:=h;lia:os.Pairwise λa b=>a<b).filter _
 .unfold lg;rw[mem_map];constructor
  .rintro ⟨k,hk,e⟩;cases e;have:=(aO4.mp hk).2;exact⟨rfl,by simpa using this⟩
  .rintro ⟨e1,e2⟩;refine⟨s,aO4.mpr ⟨po.mem_iff.mpr ?_,by simp[e1,e2]⟩,by rw[e1]⟩;have v3:=h3 s;have z:=AG (kvs:=kvs) (Sum.inl s);cases c:aK kvs (Sum.inl s:Key) with
   |none=>
    rw[c]at v3;have v3:V.int 0=V.int (bk s):=v3;injection v3 with v3
    exact absurd (by rw[<-e1,<-v3]) e2
   |some y=>
    rw[c,h5]at z;obtain⟨x,hx,e⟩:=atX.mp (z.mp rfl);rw[<-aLX e];exact hx
theorem HJ{t:TS}{D:Ends}{σ:St}{H:Hp}(h:∀D':Ends,(∀ σ G,D.nx σ G->D'.nx σ G)->t D' σ H):t D σ H:=h D λ_ _ x=>x
def Ow(A:TA)(os:OS)(bd:Addr)(x:Addr):Prop:=OW A os x\/x=bd
structure Hf(K:W.Frag)(G:Hp)(g:aM)(A:TA)(os:OS)(st:aq)(bd:Addr)(bk:Int->Int)(m:Nat):Prop where
 rd:rL K G A g st os
 eb:ju G bd bk m
 nb:¬OW A os bd
def Kp(O:Addr->Prop)(G G1:Hp):Prop:=∀x o,G x=some o->(O x->¬Mt o)->G1 x=some o
def Nf(O O':Addr->Prop)(G:Hp):Prop:=∀x,O' x->O x\/G x=none
section
variable{K:W.Frag}{H G G1:Hp}{g:aM}{A:TA}{os:OS}{st:aq}{bd b lo tn tf:Addr}{bk:Int->Int}{m:Nat}{O O':Addr->Prop}{cn cf:Cf}{ns:List Int}{a q c:Int}
theorem Hf.keep(h:Hf K G g A os st bd bk m)(f:∀x o,G x=some o->(Ow A os bd x\/¬Mt o)->G1 x=some o):Hf K G1 g A os st bd bk m:=
 ⟨h.rd.frame λx o e z=>f x o e (z.imp .inl id),h.eb.frame λo e=>f _ _ e (.inl (.inr rfl)),h.nb⟩
theorem Hf.ex(h:Hf K G g A os st bd bk m){x:Addr}(z:Ow A os bd x):G x≠none:=λe=>by
 rcases z with z|rfl
 .exact h.rd.at_.fresh e z
 .obtain ⟨kvs,q,_⟩:=h.eb;rw[e]at q;cases q
theorem Hf.Qi(h:Hf K G g A os st bd bk m){A':TA}{os':OS}(p:bM (OW A os) G G1 (OW A' os')):Kp (Ow A os bd) G G1/\Nf (Ow A os bd) (Ow A' os' bd) G:=
 ⟨λx o e n=>p.kp x o e λz=>n (.inl z),λx z=>z.elim (λz=>(p.fr x z).imp .inl id) λz=>.inl (.inr z)⟩
structure Wb(K:W.Frag)(H G:Hp)(b lo tn tf:Addr)(cn cf:Cf)(ns:List Int)(g:aM)(O:Addr->Prop):Prop where
 Az:G lo=some (.lst (ns.map V.int))
 pn:yJ G tn cn
 pf:yJ G tf cf
 kp:SB b H G
 nw:∀x,O x\/x=lo->H x=none
 of:¬O b/\¬O lo
 nb:lo≠b
theorem Wb.new(w:Wb K H G b lo tn tf cn cf ns g O)(B:aA G b a q c){x:Addr}(h:G x=none):H x=none:=by
 cases e:H x with
 |none=>rfl
 |some o=>
  by_cases z:x=b
  .rw [z,B.at']at h;cases h
  .rw [w.kp x o z e]at h;cases h
theorem Wb.sb(w:Wb K H G b lo tn tf cn cf ns g O)(B:aA G b a q c)(s:SB b G G1):Wb K H G1 b lo tn tf cn cf ns g O:=by
 have nt:∀{x ys},G x=some (.tup ys)->x≠b:=λ{x ys} e z=>by rw[z,B.at']at e;cases e
 exact⟨s _ _ w.nb w.Az,w.pn.frame λx ys e=>s _ _ (nt e) e,w.pf.frame λx ys e=>s _ _ (nt e) e,w.kp.trans s,w.nw,w.of,w.nb⟩
theorem Hf.sb(h:Hf K G g A os st bd bk m)(w:Wb K H G b lo tn tf cn cf ns g O)(l:∀x,Ow A os bd x->O x)(B:aA G b a q c)(s:SB b G G1):Hf K G1 g A os st bd bk m:=
 h.keep λx o e z=>s x o (λy=>by
  subst y;rcases z with z|z
  .exact w.of.1 (l _ z)
  .rw [B.at']at e;cases e;exact z trivial) e
theorem Wb.mv(w:Wb K H G b lo tn tf cn cf ns g O)(B:aA G b a q c)(k:Kp O G G1)(f:Nf O O' G):Wb K H G1 b lo tn tf cn cf ns g O'/\aA G1 b a q c:=by
 have tu:∀{x ys},G x=some (.tup ys)->G1 x=some (.tup ys):=λ{x ys} e=>k x _ e λ_=>id;have no:∀{x o},G x=some o->¬O x->G1 x=some o/\¬O' x:=λ{x o} e n=>⟨k x o e λz=>absurd z n,λz=>(f x z).elim n λz=>by rw[e]at z;cases z⟩;obtain⟨l1,l2⟩:=no w.Az w.of.2;obtain⟨b1,b2⟩:=no B.at' w.of.1;refine⟨⟨l1,w.pn.frame λx ys e=>tu e,w.pf.frame λx ys e=>tu e,λx o n e=>k x o (w.kp x o n e) λz=>?_,λx z=>?_,⟨b2,l2⟩,w.nb⟩,⟨b1,B.a0,B.q0,B.q1,B.c0⟩⟩
 .have z:=w.nw x (.inl z);rw[z]at e;cases e
 .rcases z with z|z
  .exact (f x z).elim (λz=>w.nw x (.inl z)) λz=>w.new B z
  .exact w.nw x (.inr z)
end
def Hd(lh:Addr)(hs:List (Addr×Addr×List (List V)))(x:Addr):Prop:=x=lh\/∃p∈hs,x=p.2.1
structure W3(K:W.Frag)(H G:Hp)(b lo tn tf t0:Addr)(cn cf:Cf)(ns:List Int)(g:aM)(A:TA)(os:OS)(st:aq)(bd:Addr)(bk:Int->Int)(m:Nat)(lh:Addr)(hs:List (Addr×Addr×List (List V))):Prop where
 h:Hf K G g A os st bd bk m
 he:HeldAt G g.n lh hs
 wb:Wb K H G b lo tn tf cn cf ns g (λx=>Ow A os bd x\/Hd lh hs x)
 sep:∀x,Ow A os bd x->¬Hd lh hs x
 nx:Nx g st
 sp:G t0=some (.tup [.int g.size,.ref tn,.ref tf])
section
variable{K:W.Frag}{H G G1:Hp}{b lo tn tf t0:Addr}{cn cf:Cf}{ns:List Int}{g:aM}{A:TA}{os:OS}{st:aq}{bd:Addr}{bk:Int->Int}{m:Nat}{lh:Addr}{hs:List (Addr×Addr×List (List V))}{a q c:Int}
theorem W3.sb(w:W3 K H G b lo tn tf t0 cn cf ns g A os st bd bk m lh hs)(B:aA G b a q c)(s:SB b G G1):W3 K H G1 b lo tn tf t0 cn cf ns g A os st bd bk m lh hs:=by
 refine⟨w.h.sb w.wb (λx z=>.inl z) B s,w.he.frame λx o e z=>s x o (λy=>?_) e,w.wb.sb B s,w.sep,w.nx,s _ _ (λy=>?_) w.sp⟩
 .subst y;rcases z with z|z
  .exact w.wb.of.1 (.inr z)
  .rw [B.at']at e;cases e;exact z trivial
 .have e:=w.sp;rw[y,B.at']at e;cases e
theorem W3.same(w:W3 K H G b lo tn tf t0 cn cf ns g A os st bd bk m lh hs)(B:aA G b a q c)(s:av G G1):W3 K H G1 b lo tn tf t0 cn cf ns g A os st bd bk m lh hs:=w.sb B (s.sb b)
theorem W3.put(w:W3 K H G b lo tn tf t0 cn cf ns g A os st bd bk m lh hs)(B:aA G b a q c){o:HO}{Ro:Int->Int}{m':Nat}(eB:ju (upd G bd o) bd Ro m'):W3 K H (upd G bd o) b lo tn tf t0 cn cf ns g A os st bd Ro m' lh hs/\aA (upd G bd o) b a q c:=by
 have mb:∀{o},G bd=some o->Mt o:=λ{o} e2=>by
  obtain⟨kvs,q2,_⟩:=w.h.eb;rw[q2]at e2;cases e2;trivial
 have k:Kp (Ow A os bd) G (upd G bd o):=λx o' e n=>by
  by_cases z:x=bd
  .exact absurd (mb (z ▸e)) (n (.inr z))
  .rw [Zc z];exact e
 obtain⟨wb,B1⟩:=w.wb.mv (G1:=upd G bd o) (O':=λx=>Ow A os bd x\/Hd lh hs x) B (λx o e n=>k x o e λz=>n (.inl z)) λx z=>.inl z;refine⟨⟨⟨w.h.rd.frame λx o e z=>?_,eB,w.h.nb⟩,w.he.frame λx o e z=>k x o e λy=>?_,wb,w.sep,w.nx,k _ _ w.sp λ_=>id⟩,B1⟩
 .have nb:x≠bd:=λy=>by
   subst y;rcases z with z|z
   .exact w.h.nb z
   .exact z (mb e)
  rw[Zc nb];exact e
 .exact z.elim (λz=>absurd z (w.sep x y)) id
theorem W3.step(w:W3 K H G b lo tn tf t0 cn cf ns g A os st bd bk m lh hs)(B:aA G b a q c){e':Addr}{os':OS}{st':aq}{es:List (List V)}(R1:rL K G1 (A.re e') g st' os')(nx:Nx g st')(ev:wF g.n G1 A.ev es)(l9:es.length<=900)(ne:¬OW (A.re e') os' A.ev)(p:bM (OW A os) G G1 (OW (A.re e') os')) :
  G1 lh=some (.lst (hs.map λp=>V.ref p.1))/\∀tp,G1 tp=none->W3 K H (upd (upd G1 tp (.tup [.ref A.ev,.str (ni es)])) lh (.lst ((hs++[(tp,A.ev,es)]).map λp=>V.ref p.1))) b lo tn tf t0 cn cf ns g (A.re e') os' st' bd bk m lh (hs++[(tp,A.ev,es)])/\aA (upd (upd G1 tp (.tup [.ref A.ev,.str (ni es)])) lh (.lst ((hs++[(tp,A.ev,es)]).map λp=>V.ref p.1))) b a q c:=by
 obtain⟨k,f⟩:=w.h.Qi p;have HK:HeldAt G1 g.n lh hs:=w.he.frame λx o e z=>k x o e λy=>z.elim (λz=>absurd z (w.sep x y)) id;have Gp:OW A os A.ev:=.inl (by unfold Bs;simp);have CT:∀x,Ow A os bd x->x≠lh:=λx z y=>w.sep x z (.inl y);refine⟨HK.top,λtp htp=>?_⟩;have s1:=Zd htp (.tup [.ref A.ev,.str (ni es)]);have e1:=Za (H:=G1) (a:=tp) (o:=.tup [V.ref A.ev,V.str (ni es)]);generalize upd G1 tp (.tup [.ref A.ev,.str (ni es)])=G2 at *;generalize eL:HO.lst ((hs++[(tp,A.ev,es)]).map λp=>V.ref p.1)=L at *;have Nn:=s1 _ _ HK.top;have kk:∀x o,G x=some o->((Ow A os bd x\/Hd lh hs x)->¬Mt o)->upd G2 lh L x=some o:=λx o e n=>by
  have nl:x≠lh:=λy=>by
   subst y;rw[w.he.top]at e;cases e;exact n (.inr (.inl rfl)) trivial
  rw[Zc nl];exact s1 _ _ (k x o e λz=>n (.inl z))
 have k1:∀{x:Addr}{o:HO},G1 x=some o->x≠lh->upd G2 lh L x=some o:=λe n=>by rw[Zc n];exact s1 _ _ e
 have PN:∀x,Ow (A.re e') os' bd x->x≠lh:=λx z y=>(f x z).elim (λz=>CT x z y) λz=>by
  rw[y,w.he.top]at z;cases z
 have Ma:∀{x:Addr}{ys:List V},G1 x=some (.tup ys)->x≠lh:=λe y=>by rw[y,HK.top]at e;cases e
 obtain⟨wb,B1⟩:=w.wb.mv (G1:=upd G2 lh L) (O':=λx=>Ow (A.re e') os' bd x\/Hd lh (hs++[(tp,A.ev,es)]) x) B kk λx z=>by
  rcases z with z|z|⟨p,hp,rfl⟩
  .exact (f x z).imp .inl id
  .exact .inl (.inr (.inl z))
  .rcases aXY.mp hp with hp|hp
   .exact .inl (.inr (.inr ⟨p,hp,rfl⟩))
   .rw [axK.mp hp];exact .inl (.inl (.inl Gp))
 have jF:upd G2 lh L tp=some (.tup [V.ref A.ev,V.str (ni es)]):=by
  rw[Zc λy=>by rw[y,Nn]at e1;cases e1];exact e1
 refine⟨⟨⟨R1.frame λx o e z=>k1 e λy=>?_,w.h.eb.frame λo e=>?_,λz=>(f bd (.inl z)).elim (λ_=>?_) λz=>w.h.ex (.inr rfl) z⟩,⟨by rw[Za,eL],λp hp=>?_,?_⟩,wb,λx z y=>?_,nx,kk _ _ w.sp λ_=>id⟩,B1⟩
 .subst y;rcases z with z|z
  .exact PN x (.inl z) rfl
  .rw [HK.top]at e;cases e;exact z trivial
 .exact k1 (p.kp bd o e λz=>absurd z w.h.nb) (CT bd (.inr rfl))
 .exact (p.fr bd z).elim w.h.nb λz=>w.h.ex (.inr rfl) z
 .rcases aXY.mp hp with hp|hp
  .obtain ⟨h1,h2,h3,h4⟩:=HK.at_ p hp;exact⟨k1 h1 (Ma h1),h2.frame (λo e=>k1 e h4) λx ys e=>k1 e (Ma e),h3,h4⟩
  .rw [axK.mp hp];exact⟨jF,ev.frame (λo e=>k1 e (CT _ (.inl Gp))) λx ys e=>k1 e (Ma e),l9,CT _ (.inl Gp)⟩
 .rw [afk];refine List.nodup_append.mpr ⟨w.he.un,by simp,λx hx y hy=>?_⟩;obtain⟨p,hp,rfl⟩:=atX.mp hx;simp only[aB5,map_nil,mem_singleton]at hy;subst hy;exact λz=>w.sep _ (.inl Gp) (.inr ⟨p,hp,z.symm⟩)
 .rcases y with y|⟨p,hp,rfl⟩
  .exact PN x z y
  .rcases aXY.mp hp with hp|hp
   .refine (f _ z).elim (λz=>w.sep _ z (.inr ⟨p,hp,rfl⟩)) λz=>?_;obtain⟨_,⟨_,ts,h,_⟩,_⟩:=w.he.at_ p hp;rw[h]at z;cases z
   .rw [axK.mp hp]at z;rcases z with z|z
    .exact ne z
    .exact w.h.nb (by rw[<-z];exact Gp)
end
theorem Bo{n:Nat}{G:Hp}{l:Addr}{es:List (List V)}(n4:n<=4)(ev:wF n G l es):AI (λ_=>False) G 2 (.ref l) (.list (es.map mH)):=by
 obtain⟨he,ts,h1,h2,h3⟩:=ev;exact .inr ⟨l,ts.map V.ref,es.map mH,rfl,id,NN n4 he h2 h3,.inl ⟨h1,rfl⟩⟩
theorem W3.le{K:W.Frag}{H G:Hp}{b lo tn tf t0:Addr}{cn cf:Cf}{ns:List Int}{g:aM}{A:TA}{os:OS}{st:aq}{bd:Addr}{bk:Int->Int}{m m':Nat}{lh:Addr}{hs:List (Addr×Addr×List (List V))}(w:W3 K H G b lo tn tf t0 cn cf ns g A os st bd bk m lh hs)(e:m<=m'):W3 K H G b lo tn tf t0 cn cf ns g A os st bd bk m' lh hs:=⟨⟨w.h.rd,w.h.eb.le e,w.h.nb⟩,w.he,w.wb,w.sep,w.nx,w.sp⟩
theorem Zkr{g:aM}{st:aq}{h:Nat}{d:Dd}(w:aJ g st)(hh:h<2)(n:Nx g st)(hs:0<g.size):Nx g (jd (bI g h d st)):=by
 cases d with
 |rd sp=>exact(SE w hh n hs).jd
 |wt sp x=>exact(Y6 w hh n hs).jd
theorem W3.mv{K:W.Frag}{H G G1:Hp}{b lo tn tf t0:Addr}{cn cf:Cf}{ns:List Int}{g:aM}{A:TA}{os:OS}{st:aq}{bd:Addr}{bk:Int->Int}{m:Nat}{lh:Addr}{hs:List (Addr×Addr×List (List V))}{a q c:Int}(w:W3 K H G b lo tn tf t0 cn cf ns g A os st bd bk m lh hs)(B:aA G b a q c){e':Addr}{os':OS}{st':aq}(R1:rL K G1 (A.re e') g st' os')(nx:Nx g st')(p:bM (OW A os) G G1 (OW (A.re e') os')):W3 K H G1 b lo tn tf t0 cn cf ns g (A.re e') os' st' bd bk m lh hs/\aA G1 b a q c:=by
 obtain⟨k,f⟩:=w.h.Qi p;have Yw:∀x,Hd lh hs x->G x≠none:=λx z e=>by
  rcases z with z|⟨p,hp,z⟩
  .rw [z,w.he.top]at e;cases e
  .obtain ⟨_,⟨_,ts,h,_⟩,_⟩:=w.he.at_ p hp;rw[z,h]at e;cases e
 obtain⟨wb,B1⟩:=w.wb.mv (O':=λx=>Ow (A.re e') os' bd x\/Hd lh hs x) B (λx o e n=>k x o e λz=>n (.inl z)) λx z=>by
  rcases z with z|z
  .exact (f x z).imp .inl id
  .exact .inl (.inr z)
 exact⟨⟨⟨R1,w.h.eb.frame λo e=>p.kp bd o e λz=>absurd z w.h.nb,λz=>(p.fr bd z).elim w.h.nb λz=>w.h.ex (.inr rfl) z⟩,w.he.frame λx o e z=>k x o e λy=>z.elim (λz=>absurd z (w.sep x y)) id,wb,λx z y=>(f x z).elim (λz=>w.sep x z y) λz=>Yw x y z,nx,k _ _ w.sp λ_=>id⟩,B1⟩
inductive t9(K:W.Frag)(vs:List V)(H:Hp)(Q:VK)(E:XK):Prop
 |mk (b:Addr) (a q:Int):vs=[.ref b]->aA H b a q 0->Tb K H->(∀H',SB b H H'->Q (.bl true) H')->t9 K vs H Q E
example:(xX GS Hr EY Hh Hq cA GW Ho EX E3 Eo BC Fp C7):=by
 obtain ⟨b,a,q,rfl,B,tb,k⟩:=h;have tR:=C7 2;refine⟨_,(Ze (Sf (i:=1) (j:=2) rfl nd rfl rfl (by decide) rfl rfl (pc (Zm Hr hr.m rfl (pc (pv 0) Zb)) (pc (ZV Zb) Zb)) rfl)
   (Ze (rJ (ZN (pc (Zm EY hr.m rfl (pc (pv 0) (pc (ak (ZH (K:=K) rfl) (pv 1) Zi (λ_ _=>rfl)) Zb))) (pc (Lg GW hr.m rfl (pc (ak (ZH (K:=K) rfl) (pv 1) Zi (λ_ _=>rfl)) (pc (ak (ZH (K:=K) rfl) (pv 1) Zi (λ_ _=>rfl)) (pc (ak (ZH (K:=K) rfl) (pv 1) Zi (λ_ _=>rfl)) Zb)))) (pc IV Zb)))) (ZD (K:=K) (n:=3) rfl rfl (Zn (bE 3 nd) (Zn (bE 4 nd) (Zn (bE 5 nd) ZC)))))
   (Ze (yG aAH rfl (ZY rfl T.vh (pc (Zm Hq hr.m rfl (pc (pv 0) (pc Zi (pc Zi Zb)))) Zb)) (bE 6 nd) (Ze (rJ (Zm Hh hr.m rfl (pc (pv 0) (pc (ak (ZH (K:=K) rfl) (pv 1) Zi (λ_ _=>rfl)) (pc (pv 3) Zb)))) (ZD (K:=K) (n:=2) rfl rfl (Zn (bE 7 nd) (Zn (bE 8 nd) ZC))))
   (Ze (aE (Zu aW (ak (ZH (K:=K) rfl) (pv 8) Zi (λ_ _=>rfl)) ZU (Zw _)) (Zg (IJ hu (pv 5) (ak (ZH (K:=K) rfl) (pv 8) Zi (λ_ _=>rfl)) (ak (ZH (K:=K) rfl) (pv 8) Zi (λ_ _=>rfl)) rfl)) Zt)
   (Ze (rJ (Zm Ho hr.m rfl (pc (pv 4) (pc (pv 7) (pc (pv 8) Zb)))) (ZD (K:=K) (n:=2) rfl rfl (Zn (bE 9 nd) (Zn (bE 10 nd) ZC))))
   (Ze (Zr (wu (K:=K) rfl (dZ aRz aeo a8O ZZ (pv 2) (pc (ZN (pc (pv 10) (pc (ZE (K9 hr.gd (qZ hr 20 (by decide))) rfl T.An DL (pc (pv 10) Zb)) Zb))) Zb))))
   (Ze (aE (PW.pt (AD (Zu aW (ak (ZH (K:=K) rfl) (pv 8) Zi (λ_ _=>rfl)) ZU (Zw _)) (Cd (zk (ZI (Zm tR hr.m rfl (pc (pv 9) (pc (OD hu (pv 5) (ak (ZH (K:=K) rfl) (pv 8) Zi (λ_ _=>rfl)) Zi ⟨rfl,rfl,rfl,rfl⟩) Zb)))))))) (Zg (Zs d7)) Zt)
   (Ze (aE (PW.pt (pw_or (zk (ZI (Zm EX hr.m rfl (pc (pv 4) (pc (pv 1) (pc (pv 3) (pc (pv 5) Zb))))))) (EC (zk (ZI (Zm E3 hr.m rfl (pc (pv 4) (pc (ak (ZH (K:=K) rfl) (pv 1) Zi (λ_ _=>rfl)) (pc (pv 3) Zb))))))))) (Zg (Zs d7)) Zt)
   (Zg (aE (Zu aW (Zm cA hr.m rfl (pc (pv 0) (pc Zi Zb))) Zi (Zw _)) (Ze (cX 10 nd (AE Eo hr.m T.aL (pv 4)))
   (Zg (Zr (wu (K:=K) rfl (dZ aRz aeo a8O ZZ (pv 2) (pc (ZN (pc (pv 10) (pc (ZE (K9 hr.gd (qZ hr 20 (by decide))) rfl T.An DL (pc (pv 10) Zb)) Zb))) Zb)))))) Zt)))))))))
   (Ze (Zr (AE Eo hr.m T.aL (pv 4)))
   (Ze (aE (zk (ZI (Zm tR hr.m rfl (pc (AE BC hr.m T.aL (pv 4)) (pc (Ua (Zx (gB:=(Zq oX)) (oN:=AK) (N:=["_law_spot","_law_book"]) (own:=1) (js:=[5]) (by decide +kernel) rfl rfl) rfl (zh (K:=K) rfl (Zo (Zdk rfl) rfl T.A4 alo (pc (pv 5) Zb))) (λ_ _ _ _ _ _=>(bE 0 (show List.Nodup (["_law_spot","_law_book"]:List Str) by decide +kernel))) (λ_ _ _ _ _ _=>(Zu uK (IK hu (pv 1) (pv 0) (λ_ _=>rfl)) Zi (Zw _))) (λ_ _ _ _ _ _=>(ZN (pc (pv 0) (pc (IK hu (pv 1) (pv 0) (λ_ _=>rfl)) Zb))))) Zb))))) (Zg (Zs d7)) Zt)
   (Zg (Zs (Zm Fp hr.m rfl (pc (pv 2) Zb))))))))),?_⟩
 refine hide λu1 e1=>?_;refine⟨_,rfl,b,a,q,0,rfl,B,by decide,λt0 tn tf size cn cf a1 c1 H2 ht0 Pu Pw z0 z1 B2 hc1 u2=>⟨(sL 0),λlh Ew=>⟨_,_,rfl,?_⟩⟩⟩;subst e1;try dsimp only
 have vB:∀{x ys},H2 x=some (.tup ys)->x≠b:=λ{x ys} e z=>by rw[z,B2.at']at e;cases e
 have sl:=Zd Ew (.lst []);have Nt:=Za (H:=H2) (a:=lh) (o:=.lst []);have Pd:lh≠b:=λz=>by rw[z,B2.at']at Ew;cases Ew
 have MV:H lh=none:=Lb u2 B2.at' Ew;have JA:=B2.same sl;have Ao:=sl _ _ ht0;have Lv:=u2.trans (sl.sb b);have F8:=Pu.frame (H':=upd H2 lh (.lst [])) λx ys e=>sl _ _ e;have Ge:=Pw.frame (H':=upd H2 lh (.lst [])) λx ys e=>sl _ _ e;clear u2 B2 Pu Pw ht0 vB;generalize upd H2 lh (.lst [])=H2' at *;have vB:∀{x ys},H2' x=some (.tup ys)->x≠b:=λ{x ys} e z=>by rw[z,JA.at']at e;cases e
 refine hide λu1 e1=>?_;refine⟨_,rfl,_,rfl,t0,_,_,_,rfl,rfl,aP.of Ao,cO,b,a1,q,c1,size,rfl,JA,by lia,z0,z1,λlo ns a3 c3 H3 hlo Az n3 Mi Rp Xc B3 hc3 t3=>?_⟩;have JV:=F8.frame (H':=H3) λx ys e=>t3 _ _ (vB e) e;have JW:=Ge.frame (H':=H3) λx ys e=>t3 _ _ (vB e) e;have Hz:=t3 _ _ (vB Ao) Ao;have Dq:=t3 _ _ Pd Nt;have u3:SB b H H3:=Lv.trans t3;have oj:lo≠b:=λz=>by rw[z,JA.at']at hlo;cases hlo
 have W6:lo≠lh:=λz=>by rw[z,Nt]at hlo;cases hlo
 have MU:H lo=none:=Lb Lv JA.at' hlo;have Pf:Tb K H3:=u3 _ _ (λz=>by have t:=tb;unfold Tb at t;rw[z,B.at']at t;cases t) tb;have s9:9999/size<=9999:=Int.ediv_le_self _ (by decide);have CO:∀x∈ns,0<=x/\x<=100000/\x<=9999/size:=λx hx=>by
  have:=Rp x hx;lia
 refine⟨_,rfl,t0,_,_,_,rfl,rfl,aP.of Hz,cO,_,rfl,t0,_,_,_,rfl,rfl,aP.of Hz,gI,_,rfl,t0,_,_,_,rfl,rfl,aP.of Hz,je,λp dx hp hdx Gs=>?_⟩;have Rl:1<=cn.pl/\cn.pl<=16:=by obtain⟨_,_,_,_,_,_,h1,h2,_⟩:=JV;exact⟨h1,h2⟩
 have YT:1<=cf.pl/\cf.pl<=16:=by obtain⟨_,_,_,_,_,_,h1,h2,_⟩:=JW;exact⟨h1,h2⟩
 obtain⟨g,eg⟩:∃g:aM,g=⟨size,"",[cn,cn,cf],ns⟩:=⟨_,rfl⟩;have wf:WF g:=by
  rw[eg];refine⟨λc hc=>?_,z0,by show size<=1000;lia,by show ns.length<=800;lia,λb hb=>?_,by show 3<=4;decide,by show 1<=3;decide⟩
  .simp only[afg,aNV,aQw]at hc;rcases hc with rfl|rfl|rfl
   .exact Rl
   .exact Rl
   .exact YT
  .have:=CO b hb;lia
 have Lo:g.U.length<=21:=by rw[eg];show ns.length<=21;lia
 have gU:g.U=ns:=by rw[eg]
 have g3:g.n=3:=by rw[eg];rfl
 have Rf:(⟨size,"",[cn,cn,cf],ns⟩:aM)=g:=eg.symm;have Rg:size=g.size:=by rw[eg]
 have gU':ns=g.U:=by rw[eg]
 have gc:g.cf 0=cn/\g.cf 1=cn/\g.cf 2=cf:=by rw[eg];exact⟨rfl,rfl,rfl⟩
 obtain⟨n0,n1⟩:=Zkh g3;clear eg Rp;have m1:av H3 (upd (upd H3 dx (.own p)) p (.ins (af K "Beside") dx [])):=λx o e=>by rw[Zc (Zf e hp),Zc (Zf e hdx)];exact e
 have hp1:=Za (H:=upd H3 dx (.own p)) (a:=p) (o:=.ins (af K "Beside") dx []);have Ku:∀x,upd (upd H3 dx (.own p)) p (.ins (af K "Beside") dx []) x=none->H3 x=none:=λx e=>m1.free e;generalize upd (upd H3 dx (.own p)) p (.ins (af K "Beside") dx [])=H4 at *;refine⟨p,dx,tn,tf,size,cn,cf,rfl,hp1,JV.frame λx ys e=>m1 _ _ e,JW.frame λx ys e=>m1 _ _ e,Pf.same m1,λA0 Gh H5 ep RS own k2=>⟨rfl,λbd hbd=>⟨(sL 3),λtq Qt=>⟨tq,_,rfl,aP.of Za,rfl,_,_,rfl,gN ⟨_,_,rfl,gN ⟨_,_,rfl,gN ⟨rfl,?_⟩⟩⟩⟩⟩⟩⟩;have m2:av H3 H5:=λx o e=>k2 x o (m1 _ _ e) (Zf e hp);have hO:∀x,OW A0 Gh x->H3 x=none:=λx h=>by
  by_cases z:x=p
  .rw [z];exact hp
  .exact Ku x (own x h z)
 have R5:aa K H5 A0 g (yH 3) Gh 0:=by
  have R:=RS (ns) (by rw[Rf];exact wf);rw[Rf]at R;exact R
 subst e1;try dsimp only
 rw[show V.ref p=V.ref A0.p by rw[ep]];have B5:=B3.same m2;clear m1 hp1 Ku RS own k2 ep;have s5:=Zd hbd (.dK []);have Ri:=Za (H:=H5) (a:=bd) (o:=.dK []);have YU:∀{x o},H5 x=some o->x≠bd:=λe=>Zf e hbd;generalize upd H5 bd (.dK [])=H6 at *;have w0:W3 K H H6 b lo tn tf t0 cn cf ns g A0 Gh (yH 3) bd (λ_=>0) 0 lh []:=by
  have oH:∀x,Ow A0 Gh bd x->H3 x=none:=λx z=>z.elim (hO x) λz=>by rw[z];exact m2.free hbd
  have Em:=m2.trans s5;refine⟨⟨⟨R5.same s5,n0⟩,⟨[],Ri,⟨aI1 _,KI.nil⟩,λs=>rfl⟩,R5.fresh hbd⟩,⟨Em _ _ Dq,λp hp=>(nomatch hp),.nil⟩,⟨Em _ _ Az,JV.frame λx ys e=>Em _ _ e,JW.frame λx ys e=>Em _ _ e,u3.trans (Em.sb b),λx z=>?_,⟨λz=>?_,λz=>?_⟩,oj⟩,λx z y=>?_,Y5,?_⟩
  .rcases z with(z|z|⟨p,hp,_⟩)|z
   .exact Lb u3 B3.at' (oH x z)
   .rw [z];exact MV
   .cases hp
   .rw [z];exact MU
  .rcases z with z|z|⟨p,hp,_⟩
   .have z:=oH b z;rw[B3.at']at z;cases z
   .exact Pd z.symm
   .cases hp
  .rcases z with z|z|⟨p,hp,_⟩
   .have z:=oH lo z;rw[Az]at z;cases z
   .exact W6 z
   .cases hp
  .rcases y with y|⟨p,hp,_⟩
   .have z:=oH x z;rw[y,Dq]at z;cases z
   .cases hp
  .rw [<-Rg];exact Em _ _ Hz
 have B6:=B5.same s5;clear R5 s5 Ri YU hbd B5 hO m2 JV JW Az u3 B3 Pf t3 F8 Ge Ao vB Hz Dq Nt Lv JA sl;have sq:=Zd Qt (.tup [V.ref lo,V.ref A0.p,V.ref bd]);have w0:=w0.same B6 sq;have B6:=B6.same sq;clear sq Qt;generalize upd H6 tq (.tup [V.ref lo,V.ref A0.p,V.ref bd])=H6' at *;have uL:g.U.length<64:=by lia
 have hs:0<g.size:=by lia
 refine hide λu1 e1=>?_;refine⟨_,rfl,b,a3,q,c3,60,200,rfl,B6,by lia,by decide,by decide,by decide,λmn a4 c4 H9 Xm Xl B9 hc4 t4=>⟨_,rfl,by lia,by lia,ON (lo:=0) (n:=mn.toNat) (λi σ G=>∃(v6 v7 v8 v9 v10:Option V)(A:TA)(os:OS)(st:aq)(bk:Int->Int)(a' c':Int)(hl:List (Addr×Addr×List (List V))),σ=[some (.ref b),some (.ref t0),some (.ref lh),some (.ref lo),some (.ref A0.p),some (.ref bd),v6,v7,v8,v9,v10]/\A.p=A0.p/\W3 K H G b lo tn tf t0 cn cf ns g A os st bd bk i lh hl/\(∀x,Lw g bk x st)/\hl.length<=2*i/\aA G b a' q c'/\c'<=c4+14*(i:Int))
  ⟨_,_,_,_,_,A0,Gh,_,_,a4,c4,[],rfl,rfl,w0.sb B6 t4,n1,aI1 _,B9,by lia⟩ ?_ ?_⟩⟩
 .rintro i σ G hi ⟨v6,v7,v8,v9,v10,A,os,st,bk,a',c',hl,rfl,eA,w,lw,Xv,B',hc'⟩;refine gN ?_;refine HJ λD' M8=>?_;try dsimp only
  rw[<-eA]at M8 ⊢;refine hide λu2 e2=>?_;refine⟨_,rfl,_,rfl,t0,_,_,_,rfl,rfl,aP.of w.sp,cO,_,rfl,b,lo,a',q,c',g.size,ns,rfl,B',oj,by lia,by lia,by lia,w.wb.Az,by lia,Mi,by rw[<-Rg];exact CO,λhd t hh d a5 c5 G1 Dr et Ko ok5 iU B5 hc5 s5=>⟨hd,_,rfl,aP.of Dr,rfl,_,_,rfl,gN ⟨_,_,rfl,gN ⟨rfl,?_⟩⟩⟩⟩;subst e2;try dsimp only
  have w:=w.sb B' s5;have bU:d.sp/g.size∈g.U:=by rw[gU];exact iU
  refine hide λu2 e2=>?_;have key:∀G2,W3 K H G2 b lo tn tf t0 cn cf ns g A os st bd (NF bk d) (i+1) lh hl->aA G2 b a5 q c5->G2 t=some (.tup d.vs)->u2 D' [some (.ref b),some (.ref t0),some (.ref lh),some (.ref lo),some (.ref A.p),some (.ref bd),some (.int (0+(i:Int))),some (.int (hh:Int)),some (.ref t),v9,v10] G2:=λG2 w B6 et=>by
   subst e2;refine hide λu2 e2=>?_;refine⟨_,rfl,_,rfl,_,rfl,A,g,st,os,t,hh,d,rfl,w.h.rd,Ko,et,bU,λG3 e' fP tp Dm R2 ev Mx Gw p2=>⟨tp,_,rfl,aP.of Dm,rfl,_,_,rfl,gN ⟨_,_,rfl,gN ⟨rfl,?_⟩⟩⟩⟩;subst e2;try dsimp only
   have Rok:=w.h.rd.ok;have Al:=λx=>Zki (x:=x) (d:=d) hs w.h.rd.ok Ko lw;have L6:=Zkr (d:=d) w.h.rd.ok Ko w.nx hs;have EB:=p2.kp t _ et λ_=>id;obtain⟨top,hold⟩:=w.step B6 R2 L6 ev (by lia) Gw p2;have Po:=Bo (by lia) ev;have z1:(PyData.list ((bI g hh d st).ev.map mH)).shown.length<=sizeLine:=atR (KP (by lia) ev.1 (by lia)).1 (by decide);refine hide λu2 e2=>?_;refine⟨_,rfl,.inl ⟨rfl,_,ao.of top⟩,_,rfl,_,rfl,λ_=>False,A.ev,2,.list ((bI g hh d st).ev.map mH),rfl,by decide,Po,z1,(sL 2),λwJ C9=>?_⟩;have s3:=Zd C9 (.tup [.ref A.ev,.str (ni (bI g hh d st).ev)]);refine⟨lh,_,_,rfl,rfl,s3 _ _ top,?_,?_⟩
   .rw [apM];exact Zv (by lia)
   have CT:t≠lh:=λz=>by rw[z,top]at EB;cases EB
   obtain⟨w,B7⟩:=hold wJ C9;have eh:upd (upd G3 wJ (.tup [V.ref A.ev,V.str (PyData.list (List.map mH (bI g hh d st).ev)).shown])) lh (HO.lst (hl.map (λp=>V.ref p.1)++[V.ref wJ]))=upd (upd G3 wJ (.tup [.ref A.ev,.str (ni (bI g hh d st).ev)])) lh (.lst ((hl++[(wJ,A.ev,(bI g hh d st).ev)]).map λp=>V.ref p.1)):=by rw[afk];rfl
   rw[eh];have Nm:(upd (upd G3 wJ (.tup [.ref A.ev,.str (ni (bI g hh d st).ev)])) lh (.lst ((hl++[(wJ,A.ev,(bI g hh d st).ev)]).map λp=>V.ref p.1))) t=some (.tup d.vs):=by rw[Zc CT];exact s3 _ _ EB
   have lh2:(hl++[(wJ,A.ev,(bI g hh d st).ev)]).length<=2*i+1:=by rw[akn,aze];lia
   clear eh hold z1 Po top C9 s3 CT EB R2 ev Mx Gw p2 Dm;generalize upd (upd G3 wJ (.tup [.ref A.ev,.str (ni (bI g hh d st).ev)])) lh (.lst ((hl++[(wJ,A.ev,(bI g hh d st).ev)]).map λp=>V.ref p.1))=G4 at *;generalize hl++[(wJ,A.ev,(bI g hh d st).ev)]=hl2 at *;subst e2;try dsimp only
   refine hide λu2 e2=>?_;have GJ:∀G5,av G4 G5->u2 D' [some (.ref b),some (.ref t0),some (.ref lh),some (.ref lo),some (.ref A.p),some (.ref bd),some (.int (0+(i:Int))),some (.int (hh:Int)),some (.ref t),some (Ls g hh st d),some (.ref A.ev)] G5:=λG5 s5=>by
    subst e2;have w:=w.same B7 s5;have B8:=B7.same s5;generalize jd (bI g hh d st)=st2 at *;have Cs:g.size<=16:=by lia
    have PK:∀x∈ns,0<=x/\x<=1000000:=λx hx=>by have:=CO x hx;lia
    refine hide λu2 e2=>?_;refine⟨_,rfl,_,rfl,_,rfl,_,rfl,A.re e',g,st2,fP,0,i+1,t0,tn,tf,lo,bd,ns,NF bk d,rfl,w.h.rd.at_,w.h.rd.ok,Al,w.nx,w.sp,by rw[gc.1];exact w.wb.pn,by rw[gc.2.2];exact w.wb.pf,by rw[gc.1,gc.2.1],w.wb.Az,Mi,PK,w.h.eb,Lo,hs,Cs,λG6 s6=>⟨_,rfl,bK rfl ?_⟩⟩;have w:=w.same B8 s6;have B9:=B8.same s6;refine⟨_,rfl,_,rfl,t0,_,_,_,rfl,rfl,aP.of w.sp,cO,_,rfl,A.re e',g,st2,fP,0,lo,ns,rfl,w.h.rd.at_,g3,w.wb.Az,Xc,Mi,PK,λx hx=>by rw[gU]at hx;exact hx,hs,Cs,λG7 s7=>⟨_,rfl,bK rfl ?_⟩⟩;have w:=w.same B9 s7;have U4:=B9.same s7;subst e2;try dsimp only
    dsimp only[dw];refine⟨_,rfl,b,a5,q,c5,20,rfl,U4,by lia,by decide,by decide,λr1 a6 c6 G8 zT CF U3 hc6 s8=>⟨rfl,_,rfl,?_⟩⟩;have w:=w.sb U4 s8;by_cases cr:r1=0
    .refine cB (by simp[cr]) ?_;refine hide λu3 e3=>?_;obtain⟨YJ,WO⟩:=w.h.rd.at_.ob;refine⟨_,rfl,A.p,YJ,_,rfl,WO,az ..,A.re e',g,st2,fP,rfl,w.h.rd,uL,λG9 YH iT R3 HX l3 ne3 p3=>?_⟩;have WR:=Rw (g:=g) w.h.rd.ok;have Mq:=λx=>(SJ hs w.h.rd.ok (Al x)).jd;have Qd:(cN g st2).ev.length<=900:=by
      have q:=ZiI (g:=g) (st:=st2) (m:=21) w.h.rd.ok λk hk=>atR (w.h.rd.at_.Qe (by lia)) Lo;have e0:=w.h.rd.at_.zc;lia
     obtain⟨top,hold⟩:=w.step U3 R3 WR HX Qd ne3 p3;have z1:(PyData.list ((cN g st2).ev.map mH)).shown.length<=sizeLine:=atR (KP (by lia) HX.1 Qd).1 (by decide);subst e3;try dsimp only[dJ]
     refine⟨_,rfl,.inl ⟨rfl,_,ao.of top⟩,_,rfl,_,rfl,λ_=>False,(A.re e').ev,2,.list ((cN g st2).ev.map mH),rfl,by decide,Bo (by lia) HX,z1,(sL 2),λFq Hy=>?_⟩;refine⟨lh,_,_,rfl,rfl,Zd Hy _ _ _ top,?_,?_⟩
     .rw [apM];exact Zv (by lia)
     obtain⟨w,B12⟩:=hold Fq Hy;have eh:upd (upd G9 Fq (.tup [V.ref (A.re e').ev,V.str (PyData.list (List.map mH (cN g st2).ev)).shown])) lh (HO.lst (hl2.map (λp=>V.ref p.1)++[V.ref Fq]))=upd (upd G9 Fq (.tup [.ref (A.re e').ev,.str (ni (cN g st2).ev)])) lh (.lst ((hl2++[(Fq,(A.re e').ev,(cN g st2).ev)]).map λp=>V.ref p.1)):=by rw[afk];rfl
     rw[eh];exact M8 _ _ ⟨_,_,_,_,_,(A.re e').re YH,iT,_,_,a6,c6,_,rfl,rfl,w,Mq,by rw[akn,aze];lia,B12,by lia⟩
    .refine bK (by simp[cr]) ?_;exact M8 _ _ ⟨_,_,_,_,_,A.re e',fP,_,_,a6,c6,hl2,rfl,rfl,w,Al,by lia,U3,by lia⟩
   cases d with
   |wt sp v=>
    refine⟨_,rfl,t,_,_,_,rfl,rfl,aP.of Nm,cO,rfl,_,rfl,bK (by decide +kernel) ?_⟩;exact bK rfl (GJ _ (av.refl _))
   |rd sp=>
    have wl:kE g ((bI g hh (.rd sp) st).at_ hh) sp=bk sp:=ZhF hs Rok Ko (lw _);have ew:Ls g hh st (.rd sp)=.int (bk sp):=agz V.int wl;obtain⟨kvs,h2,h3,h4⟩:=w.h.eb;have gq:=dg.k (k:=Sum.inl sp) h2;refine⟨_,rfl,t,_,_,_,rfl,rfl,aP.of Nm,cO,rfl,_,rfl,cB (a5h rfl) ?_⟩;refine⟨_,rfl,_,rfl,bd,rfl,.inl ⟨_,.inl h2⟩,_,rfl,t,_,_,_,rfl,rfl,aP.of Nm,gI,_,gq,?_⟩;rw[h4];refine⟨_,_,rfl,?_,λG5 s5=>⟨_,rfl,bK rfl (GJ _ s5)⟩⟩;rw[ew];exact .inl ⟨rfl,trivial⟩
  cases d with
  |wt sp v=>
   obtain⟨kvs,h2,h3,h4⟩:=w.h.eb;have nt:t≠bd:=λz=>by rw[z,h2]at et;cases et
   obtain⟨w2,B6⟩:=w.put B5 (ju.put h3 h4 sp v);refine⟨_,rfl,t,_,_,_,rfl,rfl,aP.of et,cO,rfl,_,rfl,cB (a5h rfl) ?_⟩;refine⟨_,rfl,t,_,_,_,rfl,rfl,aP.of et,je,_,rfl,_,rfl,t,_,_,_,rfl,rfl,aP.of et,gI,bd,_,rfl,mF.k (k:=Sum.inl sp) h2 (Zv (by have:=h3.1;lia)),?_⟩;exact key _ w2 B6 (by rw[Zc nt];exact et)
  |rd sp=>
   refine⟨_,rfl,t,_,_,_,rfl,rfl,aP.of et,cO,rfl,_,rfl,bK (by decide +kernel) ?_⟩;exact key _ (w.le (aYm i)) B5 et
 rintro σ G ⟨v6,v7,v8,v9,v10,A,os,st,bk,a',c',hl,rfl,eA,w,lw,Xv,B',hc'⟩;subst e1;try dsimp only
 rw[<-eA];have Xn:mn.toNat<=200:=by lia
 generalize mn.toNat=m at *;clear w0 B6 B9 t4 eA;obtain⟨fK,Gr⟩:=w.h.rd.at_.ob;refine hide λu1 e1=>?_;refine⟨_,rfl,A.p,fK,_,rfl,Gr,az ..,A,g,st,os,rfl,w.h.rd,uL,λG1 e' eS R1 Yz XD ne1 p1=>?_⟩;subst e1;try dsimp only
 have GB:=λs=>Zkg hs w.h.rd.ok lw s;obtain⟨w,B1⟩:=w.mv B' R1 (Rw (g:=g) w.h.rd.ok) p1;clear R1 Yz XD ne1 p1 B' Gr;have zd:(jd (cN g st)).mem=(cN g st).mem:=rfl;generalize jd (cN g st)=st1 at *;rw[<-zd]at GB;clear zd;obtain⟨YK,WQ⟩:=w.h.rd.at_.ob;refine hide λu1 e1=>?_;refine⟨_,rfl,A.p,YK,_,rfl,WQ,az ..,A.re e',g,_,eS,0,rfl,w.h.rd.at_,λD ps G2 hD s2 pD pL=>?_⟩;have w:=w.same B1 s2;have B2:=B1.same s2;obtain⟨kvs,h1,⟨h2,ks,h5,h6⟩,h3⟩:=w.h.eb;have lk:ks.length<=200:=by
  have l:=agz List.length h5;rw[apM,apM]at l;lia
 refine⟨_,rfl,bd,kvs,ks,rfl,h1,h5,by lia,λD2 fP QN po pw=>⟨D2,rfl,⟨_,ao.of Za⟩,λlz rj=>?_⟩⟩;have sD:=Zd QN (.lst (fP.map V.int));have eD:=Za (H:=G2) (a:=D2) (o:=.lst (fP.map V.int));have w:=w.same B2 sD;have B3:=B2.same sD;have h1:=sD _ _ h1;have pD:=pD.same sD;generalize upd G2 D2 (.lst (fP.map V.int))=G3 at *;have lo2:fP.length<=200:=by rw[po.length_eq];exact lk
 refine DK (K:=K) (a:=D2) (xs:=fP.map V.int) (l:=lz) (λi ys σ G=>∃(v0:Option V)(as:List Addr),σ=[v0,some (.ref bd)]/\ys=as.map V.ref/\uZ G as (lg bk (fP.take i))/\G lz=some (.lst ys)/\av G3 G)
  ⟨none,[],rfl,rfl,⟨rfl,λj a p e=>(nomatch e)⟩,Za,Zd rj _⟩ (λi ys σ G _ h=>by obtain⟨_,_,_,_,_,_,s⟩:=h;exact ao.of (s _ _ eD)) ?_ ?_
 .rintro i x ys σ G hi hx hys ⟨v0,as,rfl,rfl,pr,gl,s2⟩;obtain⟨s,es,rfl⟩:=IG hx;have e1:=s2 _ _ h1;have sn:=ZhT (bk:=bk) es;have hsv:∃v,dg G bd (.int s) (some (.int v))/\v=bk s:=by
   have m:s∈ks:=po.mem_iff.mp (aHL es);have z:=(AG (kvs:=kvs) (Sum.inl s)).mpr (by rw[h5];exact aOS m);have v:=h3 s;have g:=dg.k (k:=Sum.inl s) e1;cases c:aK kvs (Sum.inl s:Key) with
   |none=>rw[c]at z;cases z
   |some y=>
    rw[c]at v g;have v:y=V.int (bk s):=v;rw[v]at g;exact⟨_,g,rfl⟩
  obtain⟨v,gv,rfl⟩:=hsv;refine⟨_,rfl,_,rfl,bd,_,rfl,gv,rfl,_,rfl,?_⟩;by_cases c:bk s=0
  .rw [auJ c,aKQ]at sn;exact bK (by simp[c]) (yV.of hi hys ⟨_,as,rfl,rfl,by rw[sn];exact pr,gl,s2⟩)
  .rw [ale c]at sn;refine cB (by simp[c]) ⟨_,rfl,_,rfl,_,rfl,bd,_,rfl,gv,(sL 2),λt ht=>?_⟩;have s3:=Zd ht (.tup [.int s,.int (bk s)]);have et:=Za (H:=G) (a:=t) (o:=.tup [.int s,.int (bk s)]);generalize upd G t (.tup [.int s,.int (bk s)])=G4 at *;have BO:=s3 _ _ gl;have ab:=(pr.same λx ys e=>s3 _ _ e).app (uZ.one (p:=(s,bk s)) et);refine gu.of (aaH (Zv (by rw[apM];lia))) hi hys BO ⟨_,as++[t],rfl,by rw[afk];rfl,by rw[sn];exact ab.same λx ys e=>by rw[Zc (uM e BO (by intro z;cases z))];exact e,Za,λx o e=>by rw[Zc (Zf e rj)];exact s3 _ _ (s2 _ _ e)⟩
 rintro ys σ G _ ⟨v0,as,rfl,rfl,pr,gl,s2⟩;rw[apM,take_length]at pr;have WC:=Zkq po pw h5 h6 h3;have lp:(lg bk fP).length<=1000:=atR Zkp (by lia);have YB:ps=lg bk fP:=(pL.congr GB).uniq WC;subst YB;have w:=w.same B3 s2;have B4:=B3.same s2;refine⟨_,_,rfl,(pD.same s2).eqv ⟨as,gl,pr⟩ lp,λG4 s4=>⟨_,rfl,bK rfl ?_⟩⟩;have w:=w.same B4 s4;subst e1;try dsimp only
 dsimp only[dw];refine⟨_,rfl,lh,g.n,hl,rfl,w.he,by lia,by lia,λH' f=>k _ λx o nb e=>f x o (w.wb.kp x o nb e) λp hp z=>?_⟩;have z:=w.wb.nw x (.inl (.inr (.inr ⟨p,hp,z⟩)));rw[e]at z;cases z
inductive qv(K:W.Frag)(vs:List V)(H:Hp)(Q:VK)(E:XK):Prop
 |mk (a:Addr) (ns:List Int):vs=[.ref a]->ao K H a (ns.map V.int)->ns.length<=63->Tb K H->(∀H',Q (.bl true) H')->qv K vs H Q E
example:(CK Ag Hl GV GS):=by
 obtain ⟨a,ns,rfl,hS,h63,tb,k⟩:=h;refine⟨_,(Ze (cX 1 nd (Zm GV hr.m rfl (pc (pv 0) (pc Zi Zb))))
   (Zg (Zs (Zo (Je rfl) rfl T.C6 IX (pc (ZL (Zx (gB:=(Zq ic)) (oN:=Jr) (N:=["_law_k","_law_cells"]) (own:=1) (js:=[1]) (by decide +kernel) rfl rfl) rfl (ZY rfl T.vh (pc (Zo (Uv rfl) rfl T.JG T7 (pc Zi (pc (Zo (ZF (K:=K) rfl) rfl T.we aUV (pc (pv 1) Zb)) Zb))) Zb)) (λ_ _ _ _ _ _=>(bE 0 (show List.Nodup (["_law_k","_law_cells"]:List Str) by decide +kernel))) (λ_ _ _ _ _ _=>(Zm GS hr.m rfl (pc (Zm Hl hr.m rfl (pc (pv 1) (pc (pv 0) Zb))) Zb)))) Zb))))),?_⟩
 refine⟨_,rfl,a,ns,3,rfl,hS,h63,by decide,by decide,λr ms H1 hr' s1 e1 lm=>?_⟩;have lc:(if((ms.map V.int).length:Int)>1 then((ms.map V.int).length:Int) else 1)<=63:=by rw[apM];split <;> lia
 refine⟨_,rfl,r,_,rfl,.inl (ao.of e1),_,_,rfl,_,rfl,?_,?_,λl hl'=>?_⟩
 .split <;> lia
 .lia
 generalize(if((ms.map V.int).length:Int)>1 then((ms.map V.int).length:Int) else 1)=n at *;have Xh:n.toNat<=63:=by lia
 have PM:r≠l:=Zf e1 hl';have Pg:=tb.same s1;have Ep:tabOf K "Room" "going" ≠l:=Zf Pg hl';refine DM (lo:=0) (n:=n.toNat) (l:=l) (λj ys σ G=>∃v0:Option V,σ=[v0,some (.ref r)]/\ys=(List.replicate j true).map V.bl/\G l=some (.lst ys)/\G r=some (.lst (ms.map V.int))/\Tb K G)
  ⟨none,rfl,rfl,Za,by rw[Zc PM];exact e1,by unfold Tb;rw[Zc Ep];exact Pg⟩ ?_ ?_
 .rintro j ys σ G hj hy ⟨v0,rfl,rfl,g1,g2,g3⟩;refine⟨_,rfl,_,rfl,r,ms,_,rfl,ao.of g2,by lia,by lia,λb ba bq G1 hb t1 B1=>?_⟩;refine⟨b,ba,bq,rfl,B1,g3.same t1,λG2 t2=>?_⟩;have oj:l≠b:=Zf g1 hb;have WW:r≠b:=Zf g2 hb;have L8:tabOf K "Room" "going" ≠b:=Zf g3 hb;refine gu.of (atR Xh (by decide)) hj hy (t2 _ _ oj (t1 _ _ g1)) ⟨_,rfl,by rw[bbV,afk];rfl,Za,?_,?_⟩
  .rw [Zc PM];exact t2 _ _ WW (t1 _ _ g2)
  .unfold Tb;rw[Zc Ep];exact t2 _ _ L8 (t1 _ _ g3)
 .rintro ys σ G hy ⟨v0,rfl,rfl,g1,g2,g3⟩;refine⟨l,_,rfl,ao.of g1,?_⟩;rw[show(List.replicate n.toNat true).all id=true by rw[aT6];intro z hz;rw[(aMl.mp hz).2];rfl];exact k G
theorem oY{us:List Value}{n:Nat}(h:us.length=n+1):∃v r,us=v ::r/\r.length=n:=by
 cases us with
 |nil=>cases h
 |cons v r=>exact⟨v,r,rfl,Nat.succ.inj h⟩
theorem C4{fn:Value->Value->Value->Option Addr->Value->Value->FuncData}{ps:List Str}(h:∀a b c d e f v0,bindArgs (fn a b c d e f) ⟨[v0],[]⟩=pure (ps.zip [v0]))(hp:ps.length=1:=by rfl)(a b c:Value)(d:Option Addr)(e f:Value)(us:List Value)(hl:us.length=ps.length):bindArgs (fn a b c d e f) ⟨us,[]⟩=pure (ps.zip us):=by
 rw[hp]at hl;obtain⟨v0,r0,rfl,q0⟩:=oY hl;cases ac3 q0;exact h a b c d e f v0
theorem ln2{fn:Value->Value->Value->Option Addr->Value->Value->FuncData}{ps:List Str}(h:∀a b c d e f v0 v1,bindArgs (fn a b c d e f) ⟨[v0,v1],[]⟩=pure (ps.zip [v0,v1]))(hp:ps.length=2:=by rfl)(a b c:Value)(d:Option Addr)(e f:Value)(us:List Value)(hl:us.length=ps.length):bindArgs (fn a b c d e f) ⟨us,[]⟩=pure (ps.zip us):=by
 rw[hp]at hl;obtain⟨v0,r0,rfl,q0⟩:=oY hl;obtain⟨v1,r1,rfl,q1⟩:=oY q0;cases ac3 q1;exact h a b c d e f v0 v1
theorem GF{fn:Value->Value->Value->Option Addr->Value->Value->FuncData}{ps:List Str}(h:∀a b c d e f v0 v1 v2,bindArgs (fn a b c d e f) ⟨[v0,v1,v2],[]⟩=pure (ps.zip [v0,v1,v2]))(hp:ps.length=3:=by rfl)(a b c:Value)(d:Option Addr)(e f:Value)(us:List Value)(hl:us.length=ps.length):bindArgs (fn a b c d e f) ⟨us,[]⟩=pure (ps.zip us):=by
 rw[hp]at hl;obtain⟨v0,r0,rfl,q0⟩:=oY hl;obtain⟨v1,r1,rfl,q1⟩:=oY q0;obtain⟨v2,r2,rfl,q2⟩:=oY q1;cases ac3 q2;exact h a b c d e f v0 v1 v2
theorem Mv{fn:Value->Value->Value->Option Addr->Value->Value->FuncData}{ps:List Str}(h:∀a b c d e f v0 v1 v2 v3,bindArgs (fn a b c d e f) ⟨[v0,v1,v2,v3],[]⟩=pure (ps.zip [v0,v1,v2,v3]))(hp:ps.length=4:=by rfl)(a b c:Value)(d:Option Addr)(e f:Value)(us:List Value)(hl:us.length=ps.length):bindArgs (fn a b c d e f) ⟨us,[]⟩=pure (ps.zip us):=by
 rw[hp]at hl;obtain⟨v0,r0,rfl,q0⟩:=oY hl;obtain⟨v1,r1,rfl,q1⟩:=oY q0;obtain⟨v2,r2,rfl,q2⟩:=oY q1;obtain⟨v3,r3,rfl,q3⟩:=oY q2;cases ac3 q3;exact h a b c d e f v0 v1 v2 v3
theorem Mu{fn:Value->Value->Value->Option Addr->Value->Value->FuncData}{ps:List Str}(h:∀a b c d e f v0 v1 v2 v3 v4,bindArgs (fn a b c d e f) ⟨[v0,v1,v2,v3,v4],[]⟩=pure (ps.zip [v0,v1,v2,v3,v4]))(hp:ps.length=5:=by rfl)(a b c:Value)(d:Option Addr)(e f:Value)(us:List Value)(hl:us.length=ps.length):bindArgs (fn a b c d e f) ⟨us,[]⟩=pure (ps.zip us):=by
 rw[hp]at hl;obtain⟨v0,r0,rfl,q0⟩:=oY hl;obtain⟨v1,r1,rfl,q1⟩:=oY q0;obtain⟨v2,r2,rfl,q2⟩:=oY q1;obtain⟨v3,r3,rfl,q3⟩:=oY q2;obtain⟨v4,r4,rfl,q4⟩:=oY q3;cases ac3 q4;exact h a b c d e f v0 v1 v2 v3 v4
def kq(K:W.Frag)(nm:Str)(st:Stmt):Prop:=∃(f:Addr)(od an:Option Addr)(sl:Array (Option Value))(oc kV dc pm cd ct:Value),W.nsIn K mainGlobals nm=some (some (.ref f))/\K.lookup f=some ⟨oc,od,.func (W.fnOf nm nm (ZW st) (ZK st) (Zq st) .none kV dc pm an cd ct),sl⟩/\W.codeIn K cd nm=true/\W.keepIn K (.ref f)=true
def b7(K:W.Frag)(Ca:Addr)(nm q:Str)(st:Stmt):Prop:=∃(f:Addr)(od an:Option Addr)(sl:Array (Option Value))(oc kV dc pm cd ct:Value),W.findIn K (.ref Ca) nm=some (some (.ref f))/\W.isFn K (.ref f)=true/\K.lookup f=some ⟨oc,od,.func (W.fnOf nm q (ZW st) (ZK st) (Zq st) .none kV dc pm an cd ct),sl⟩/\W.codeIn K cd q=true/\W.keepIn K (.ref f)=true
theorem kq.mk{K:W.Frag}{nm:Str}{st:Stmt}{f:Addr}{od an:Option Addr}{sl:Array (Option Value)}{oc kV dc pm cd ct:Value}(a:W.nsIn K mainGlobals nm=some (some (.ref f)))(l:K.lookup f=some ⟨oc,od,.func (W.fnOf nm nm (ZW st) (ZK st) (Zq st) .none kV dc pm an cd ct),sl⟩)(c:W.codeIn K cd nm=true)(k:W.keepIn K (.ref f)=true):kq K nm st:=⟨_,_,_,_,_,_,_,_,_,_,a,l,c,k⟩
theorem b7.mk{K:W.Frag}{Ca:Addr}{nm q:Str}{st:Stmt}{f:Addr}{od an:Option Addr}{sl:Array (Option Value)}{oc kV dc pm cd ct:Value}(a:W.findIn K (.ref Ca) nm=some (some (.ref f)))(i:W.isFn K (.ref f)=true)(l:K.lookup f=some ⟨oc,od,.func (W.fnOf nm q (ZW st) (ZK st) (Zq st) .none kV dc pm an cd ct),sl⟩)(c:W.codeIn K cd q=true)(k:W.keepIn K (.ref f)=true):b7 K Ca nm q st:=⟨_,_,_,_,_,_,_,_,_,_,a,i,l,c,k⟩
def Jz(P:Program)(w:World)(K:W.Frag)(mg:Str->Option Value)(base:Heap):Prop:=∃h,K.In h/\h.Ns mainGlobals mg
section
variable{P:Program}{w:World}{K:W.Frag}{mg:Str->Option Value}{base:Heap}{Ca:Addr}{nm q:Str}{st:Stmt}{n:Nat}{ps:List Str}{sp:Sp}(B:Jz P w K mg base)
include B
theorem Jz.df(x:kq K nm st)(ok:∀{f fd},vf K nm nm st f fd->cM P w K mg base p8 n f fd ps sp)(hb:∀(kV dc pm:Value)(an:Option Addr)(cd ct:Value)(us:List Value),us.length=ps.length->bindArgs (W.fnOf nm nm (ZW st) (ZK st) (Zq st) .none kV dc pm an cd ct) ⟨us,[]⟩=pure (ps.zip us):=by first|exact C4 λ_ _ _ _ _ _ _=>rfl|exact ln2 λ_ _ _ _ _ _ _ _=>rfl|exact GF λ_ _ _ _ _ _ _ _ _=>rfl|exact Mv λ_ _ _ _ _ _ _ _ _ _=>rfl|exact Mu λ_ _ _ _ _ _ _ _ _ _ _=>rfl):Def P w K mg base nm n ps sp:=by
 obtain⟨f,od,an,sl,oc,kV,dc,pm,cd,ct,a,l,c,k⟩:=x;obtain⟨h,X,G⟩:=B;have F:=DG l c k;exact⟨_,_,ok F,W.mg_of X G a,F.kp,F.binds hb⟩
theorem Jz.md(x:b7 K Ca nm q st)(ok:∀{f fd},vf K nm q st f fd->cM P w K mg base p8 n f fd ps sp)(hb:∀(kV dc pm:Value)(an:Option Addr)(cd ct:Value)(us:List Value),us.length=ps.length->bindArgs (W.fnOf nm q (ZW st) (ZK st) (Zq st) .none kV dc pm an cd ct) ⟨us,[]⟩=pure (ps.zip us):=by first|exact C4 λ_ _ _ _ _ _ _=>rfl|exact ln2 λ_ _ _ _ _ _ _ _=>rfl|exact GF λ_ _ _ _ _ _ _ _ _=>rfl|exact Mv λ_ _ _ _ _ _ _ _ _ _=>rfl|exact Mu λ_ _ _ _ _ _ _ _ _ _ _=>rfl):vV P w K mg base Ca nm n ps sp:=by
 obtain⟨f,od,an,sl,oc,kV,dc,pm,cd,ct,a,i,l,c,k⟩:=x;have F:=DG l c k;exact⟨_,_,ok F,⟨a,i,k⟩,F.binds hb⟩
theorem Jz.kd{y:Str}(x:b7 K Ca "__init__" q st)(mk:W.makesIn K Ca=true)(kc:W.keepIn K (.ref Ca)=true)(aC:W.nsIn K mainGlobals y=some (some (.ref Ca)))(ok:∀{f fd},vf K "__init__" q st f fd->cM P w K mg base p8 n f fd ps sp)(hb:∀(kV dc pm:Value)(an:Option Addr)(cd ct:Value)(us:List Value),us.length=ps.length->bindArgs (W.fnOf "__init__" q (ZW st) (ZK st) (Zq st) .none kV dc pm an cd ct) ⟨us,[]⟩=pure (ps.zip us):=by first|exact C4 λ_ _ _ _ _ _ _=>rfl|exact ln2 λ_ _ _ _ _ _ _ _=>rfl|exact GF λ_ _ _ _ _ _ _ _ _=>rfl|exact Mv λ_ _ _ _ _ _ _ _ _ _=>rfl|exact Mu λ_ _ _ _ _ _ _ _ _ _ _=>rfl):Eb P w K mg base Ca y n ps sp:=by
 obtain⟨f,od,an,sl,oc,kV,dc,pm,cd,ct,a,i,l,c,k⟩:=x;obtain⟨h,X,G⟩:=B;have F:=DG l c k;exact⟨_,_,ok F,⟨mk,a,i,kc⟩,W.mg_of X G aC,F.binds hb⟩
end
theorem Y4{l:W.OpenLaw}{w:World}{K:W.Frag}{h:Heap}{mg:Str->Option Value}{fa:Addr}{tp cg:Addr}(X:K.In h)(G:h.Ns mainGlobals mg)(X7:mg "law"=some (.ref fa))
  {aR:Addr} (yD:W.nsIn K mainGlobals "Room"=some (some (.ref aR)))
  {aH:Addr} (uU:W.nsIn K mainGlobals "Store"=some (some (.ref aH)))
  {aV:Addr} (rF:W.nsIn K mainGlobals "Memory"=some (some (.ref aV)))
  {ai:Addr} (rG:W.nsIn K mainGlobals "Beside"=some (some (.ref ai)))
  {kD:Addr} (uV:W.nsIn K mainGlobals "Steps"=some (some (.ref kD)))
  (x0:kq K "_law_take" xw)
  (x1:kq K "_law_box" Bl)
  (x2:kq K "_law_folded" qF)
  (x3:kq K "_law_some_boards" cW)
  (a4:W.nsIn K mainGlobals "_law_same"=some (some (.ref f4))) (l4:K.lookup f4=some ⟨oc4,od4,.func (W.fnOf "_law_same" "_law_same" (ZW s_same) (ZK s_same) (Zq s_same) .none kV4 dc4 BE an4 YN ct4),sl4⟩) (c4:W.codeIn K YN "_law_same"=true) (k4:W.keepIn K (.ref f4)=true)
  (x5:kq K "shelf_of" kX)
  (x6:b7 K aR "has" "Room.has" k7)
  (x7:b7 K aR "mates" "Room.mates" ir)
  (x8:b7 K aR "need" "Room.need" jB)
  (a9:W.findIn K (.ref aR) "going"=some (some (.ref f9))) (i9:W.isFn K (.ref f9)=true) (l9:K.lookup f9=some ⟨oc9,od9,.func (W.fnOf "going" "Room.going" (ZW aS) (ZK aS) (Zq aS) .none kV9 dc9 pm9 an9 (.ref cg) ct9),sl9⟩) (c9:W.codeIn K (.ref cg) "Room.going"=true) (k9:W.keepIn K (.ref f9)=true)
  (V5:b7 K aR "drop" "Room.drop" jC)
  (V4:b7 K aR "use" "Room.use" k6)
  (V3:b7 K aR "__init__" "Room.__init__" fk)
  (V2:b7 K aR "leaver_for" "Room.leaver_for" cQ)
  (V1:b7 K aR "bring" "Room.bring" iu)
  (V0:b7 K aH "__init__" "Store.__init__" ie)
  (VZ:b7 K aH "has" "Store.has" jz)
  (VY:b7 K aH "lay" "Store.lay" jy)
  (VX:b7 K aH "take_in" "Store.take_in" dS)
  (VW:b7 K aH "give_out" "Store.give_out" dF)
  (VV:b7 K aH "words_of" "Store.words_of" dz)
  (VU:b7 K aH "lay_word" "Store.lay_word" dB)
  (VT:b7 K aH "freshen" "Store.freshen" dU)
  (VS:kq K "board_of" kZ)
  (VR:kq K "spots_of" kW)
  (VQ:b7 K aV "__init__" "Memory.__init__" gf)
  (VP:b7 K aV "words_of" "Memory.words_of" bO)
  (VO:b7 K aV "lay" "Memory.lay" iw)
  (VN:b7 K ai "store" "Steps.store" fZ)
  (VM:b7 K ai "words" "Steps.words" fY)
  (VL:b7 K ai "happened" "Steps.happened" dH)
  (VJ:b7 K ai "leaver" "Steps.leaver" fh)
  (VI:b7 K ai "tell_found" "Steps.tell_found" cF)
  (VH:b7 K ai "use_in" "Steps.use_in" e8)
  (VG:b7 K ai "come_in" "Steps.come_in" dX)
  (VF:b7 K ai "go_out" "Steps.go_out" fj)
  (VE:b7 K ai "put" "Steps.put" jA)
  (VD:b7 K ai "word_in" "Steps.word_in" dW)
  (VC:b7 K ai "put_word" "Steps.put_word" dG)
  (Yq:W.specialIn K (.ref kD) "__getattribute__"=some (some (.builtin "type.__getattribute__"))) (Wz:W.readsIn K kD (.type "type")=true) (YX:W.findCls K (.ref kD) (.type "type") "__init__"=some (.val (.ref Q8))) (XC:K.lookup Q8=some ⟨WM,WK,.func (W.fnOf "__init__" "Steps.__init__" (ZW bz) (ZK bz) (Zq bz) .none XG YL WB YV ND YM),Wo⟩) (YQ:W.codeIn K ND "Steps.__init__"=true) (Qj:W.keepIn K (.ref Q8)=true)
  (VB:b7 K aH "is_fresh" "Store.is_fresh" dD)
  (VA:b7 K aH "settle" "Store.settle" eZ)
  (Vz:b7 K ai "__init__" "Beside.__init__" gh)
  (Vy:b7 K ai "put_down" "Beside.put_down" cR)
  (Vx:b7 K ai "leave_near" "Beside.leave_near" ck)
  (Vv:b7 K ai "settle_near" "Beside.settle_near" bX)
  (Vu:b7 K ai "leave_all" "Beside.leave_all" cG)
  (Vt:b7 K ai "fetch_far" "Beside.fetch_far" cH)
  (Vs:b7 K ai "fetch_near" "Beside.fetch_near" cu)
  (Vr:b7 K ai "read" "Beside.read" gg)
  (Vq:b7 K ai "write" "Beside.write" fq)
  (Vp:b7 K aR "boards" "Room.boards" gb)
  (Vo:b7 K ai "lies" "Steps.lies" ig)
  (Vn:b7 K ai "emptied" "Beside.emptied" dI)
  (Vm:kq K "_law_room_plan" jw)
  (Vl:kq K "_law_plan" sE)
  (Vk:kq K "_law_many" xA)
  (Vj:kq K "_law_word" xu)
  (Vi:kq K "_law_deed" xC)
  (Vh:kq K "_law_pair" xx)
  (Vg:kq K "_law_hand_deed" jx)
  (Vf:kq K "_law_done" xB)
  (Ve:kq K "_law_lists_apart" bT)
  (Vd:b7 K ai "changed" "Steps.changed" dY)
  (Vc:kq K "_law_newest" kY)
  (Vb:kq K "_law_board_right" aZ)
  (Va:b7 K aV "pairs" "Memory.pairs" fm)
  (U9:b7 K ai "memory" "Steps.memory" fc)
  (U8:kq K "_law_rooms_right" bG)
  (U7:kq K "_law_memory_right" cE)
  (U6:kq K "_law_right" oX)
  (YW:W.nsIn K mainGlobals "law"=some (some (.ref Q7))) (XA:K.lookup Q7=some ⟨WL,WJ,.func (W.fnOf "law" "law" (ZW ic) (ZK ic) (Zq ic) .none MA Nv LX NH Ih Nz),Wn⟩) (YO:W.codeIn K Ih "law"=true) (XH:W.keepIn K (.ref Q7)=true)
  (Ke:W.nsIn K mainGlobals "abs"=some none)
  (C6:W.nsIn K mainGlobals "all"=some none)
  (Hj:W.nsIn K mainGlobals "any"=some none)
  (Kf:W.nsIn K mainGlobals "bool"=some none)
  (ME:W.nsIn K mainGlobals "divmod"=some none)
  (Ei:W.nsIn K mainGlobals "enumerate"=some none)
  (Et:W.nsIn K mainGlobals "int"=some none)
  (vZ:W.nsIn K mainGlobals "isinstance"=some none)
  (we:W.nsIn K mainGlobals "len"=some none)
  (wG:W.nsIn K mainGlobals "list"=some none)
  (JG:W.nsIn K mainGlobals "max"=some none)
  (Lr:W.nsIn K mainGlobals "min"=some none)
  (vh:W.nsIn K mainGlobals "range"=some none)
  (A4:W.nsIn K mainGlobals "sorted"=some none)
  (An:W.nsIn K mainGlobals "str"=some none)
  (GR:W.nsIn K mainGlobals "tuple"=some none)
  (JF:W.nsIn K mainGlobals "zip"=some none)
  {Fv:Tok} (vF:W.nsIn K mainGlobals "FAR"=some (some (.int 2 Fv)))
  {uT:Addr} {AB:Option Addr} {Aj:Nat} {zP:Array (Option Value)} {vm vj:Tok} (Kh:W.nsIn K mainGlobals "HANDS"=some (some (.ref uT))) (Au:K.lookup uT=some ⟨.type "tuple",AB,.seq #[.int 0 vm,.int 1 vj] Aj,zP⟩)
  (CJ:W.plainGet K aR Str.empty=true) (Df:W.hasDictIn K aR=true) (CI:W.plainOver K aR=true) (Cy:W.findIn K (.ref aR) "__setattr__"=some (some (.builtin "object.__setattr__"))) (CV:W.makesIn K aR=true) (C5:W.keepIn K (.ref aR)=true)
  (pH:W.findIn K (.ref aR) "places"=some none)
  (sM:W.findIn K (.ref aR) "rule"=some none)
  (m7:W.findIn K (.ref aR) "shelves"=some none)
  (lI:W.findIn K (.ref aR) "standing"=some none)
  (sJ:W.findIn K (.ref aR) "uses"=some none)
  (z9:W.plainGet K aH Str.empty=true) (As:W.hasDictIn K aH=true) (zZ:W.plainOver K aH=true) (zN:W.findIn K (.ref aH) "__setattr__"=some (some (.builtin "object.__setattr__"))) (Ak:W.makesIn K aH=true) (Am:W.keepIn K (.ref aH)=true)
  (pG:W.findIn K (.ref aH) "fresh"=some none)
  (qU:W.findIn K (.ref aH) "held"=some none)
  (qT:W.findIn K (.ref aH) "late"=some none)
  (qS:W.findIn K (.ref aH) "room"=some none)
  (xT:W.plainGet K aV Str.empty=true) (ym:W.hasDictIn K aV=true) (xR:W.plainOver K aV=true) (xq:W.findIn K (.ref aV) "__setattr__"=some (some (.builtin "object.__setattr__"))) (x9:W.makesIn K aV=true) (yg:W.keepIn K (.ref aV)=true)
  (pJ:W.findIn K (.ref aV) "kept"=some none)
  (pI:W.findIn K (.ref aV) "size"=some none)
  (xU:W.plainGet K ai Str.empty=true) (yo:W.hasDictIn K ai=true) (xS:W.plainOver K ai=true) (xr:W.findIn K (.ref ai) "__setattr__"=some (some (.builtin "object.__setattr__"))) (ya:W.makesIn K ai=true) (yh:W.keepIn K (.ref ai)=true)
  (lN:W.findIn K (.ref ai) "bottom"=some none)
  (lM:W.findIn K (.ref ai) "events"=some none)
  (pM:W.findIn K (.ref ai) "last"=some none)
  (pK:W.findIn K (.ref ai) "size"=some none)
  (lJ:W.findIn K (.ref ai) "stores"=some none)
  (ch:W.codeHdIn K cg tp=true) (kt:K.lookup tp=none)
  :tabOf K "Room" "going"=tp/\(∃c0,W.codeHdIn K c0 tp=true)/\K.lookup tp=none/\∃fd:FuncData,(∀(s:Shared)(v:Value),BindsTo s fd ⟨[v],[]⟩ [("_law_script",v)])/\∀base:Heap,K.In base->base.Ns mainGlobals mg->BMod base mg->cM l.prog w K mg base p8 19 fa fd vc (qv K):=by
 have e:=X7.symm.trans (W.mg_of X G YW);cases e;have Dj:=IT yD;subst Dj;have Av:=IT uU;subst Av;have yq:=IT rF;subst yq;have yr:=IT rG;subst yr;have Aw:=IT uV;subst Aw;have T:Txt K mg:=⟨aRu X G Ke,aRu X G C6,aRu X G Hj,aRu X G Kf,aRu X G ME,aRu X G Ei,aRu X G Et,aRu X G vZ,aRu X G we,aRu X G wG,aRu X G JG,aRu X G Lr,aRu X G vh,aRu X G A4,aRu X G An,aRu X G GR,aRu X G JF,⟨_,W.mg_of X G vF⟩,⟨_,W.mg_of X G Kh,λ_=>.inr ⟨_,_,_,Au,rfl,rfl,(sL 2),.cons ⟨_,rfl⟩ (.cons ⟨_,rfl⟩ (.nil))⟩⟩,⟨CJ,Df,CI,Cy⟩,pH,sM,m7,lI,sJ,⟨z9,As,zZ,zN⟩,pG,qU,qT,qS,⟨xT,ym,xR,xq⟩,pJ,pI,⟨xU,yo,xS,xr⟩,lN,lM,pM,pK,lJ⟩;have F4:=DG (st:=s_same) l4 c4 k4;have Iq:=F4.binds (ps:=gJ) (ln2 λ_ _ _ _ _ _ _ _=>rfl);have F9:=DG (st:=aS) l9 c9 k9;have Ip:=F9.binds (ps:=cz) (ln2 λ_ _ _ _ _ _ _ _=>rfl);have UZ:=DG (st:=bz) XC YQ Qj;have Io:=UZ.binds (ps:=cy) (GF λ_ _ _ _ _ _ _ _ _=>rfl);have UY:=DG (st:=ic) XA YO XH;have Rt:=UY.binds (ps:=vc) (C4 λ_ _ _ _ _ _ _=>rfl);have tq:=Zir a9 l9 rfl ch;refine⟨tq,⟨_,ch⟩,kt,?_⟩;refine⟨W.fnOf "law" "law" (ZW ic) (ZK ic) (Zq ic) .none MA Nv LX NH Ih Nz,λs v=>.of_eq rfl,λbase _ _ bm=>?_⟩;have B:Jz l.prog w K mg base:=⟨_,X,G⟩;have cA:=B.df x0 (λF=>Ac F T );have Hl:=B.df x1 (λF=>CL F T );have GV:=B.df x2 (λF=>vz F T );have EY:=B.df x3 (λF=>lq F T cA);have tR:=Tq (P:=l.prog) (w:=w) (base:=base) F4 Iq (W.mg_of X G a4) T ;have Hg:=B.df x5 (λF=>qN F T );have xO:=B.md x6 (λF=>qQ F T );have uG:=B.md x7 (λF=>mW F T Hg);have xH:=B.md x8 (λF=>pA F T xO);have Fi:vV l.prog w K mg base (af K "Room") "going" 2 cz (kB K):=⟨_,_,Zdo F9 rfl tq ch bm T ,⟨a9,i9,k9⟩,Ip⟩;have A3:=B.md V5 (λF=>pC F T xH uG);have GZ:=B.md V4 (λF=>qP F T xH uG);have GQ:=B.kd V3 CV C5 yD (λF=>pB F T );have Bx:=B.md V2 (λF=>gC F T uG Fi);have Fl:=B.md V1 (λF=>mZ F T xO Bx uG A3);have GU:=B.kd V0 Ak Am uU (λF=>mT F T GQ);have uF:=B.md VZ (λF=>o9 F T xO);have A2:=B.md VY (λF=>o8 F T );have E9:=B.md VX (λF=>iV F T Fl A2);have Fe:=B.md VW (λF=>iB F T A3);have uH:=B.md VV (λF=>iy F T xH);have Fd:=B.md VU (λF=>iz F T );have Bw:=B.md VT (λF=>iW F T );have uE:=B.df VS (λF=>qO F T );have AZ:=B.df VR (λF=>qM F T );have GY:=B.kd VQ x9 yg rF (λF=>lF F T );have Ff:=B.md VP (λF=>gE F T AZ);have Fj:=B.md VO (λF=>m6 F T AZ);have xJ:=B.md VN (λF=>lC F T );have rZ:=B.md VM (λF=>lB F T Ff xJ uH);have xK:=B.md VL (λF=>iD F T );have Bt:=B.md VJ (λF=>jX F T Bx);have zV:=B.md VI (λF=>fQ F T );have Bu:=B.md VH (λF=>jV F T GZ);have Bv:=B.md VG (λF=>iY F T E9);have sF:=B.md VF (λF=>jY F T Fe);have vY:=B.md VE (λF=>pq F T Fj A2);have E8:=B.md VD (λF=>iX F T uH uE);have Fb:=B.md VC (λF=>iC F T Fd uE);have Fg:Ef l.prog w K mg base "Steps" "__init__" 5 cy (ku K):=⟨_,_,_,mV UZ T GU GY,⟨Yq,⟨_,Wz,YX⟩,Qj⟩,W.mg_of X G uV,Io⟩;have Fc:=B.md VB (λF=>iA F T );have E6:=B.md VA (λF=>jU F T );have GW:=B.kd Vz ya yh rG (λF=>lH F T Fg);have xM:=B.md Vy (λF=>gF F T vY Bw);have BA:=B.md Vx (λF=>fz F T sF xM);have F6:=B.md Vv (λF=>eE F T Fc uH xM E6);have F5:=B.md Vu (λF=>fR F T sF uF vY);have F3:=B.md Vt (λF=>fS F T uF zV Bu Bt F5 Bv rZ);have By:=B.md Vs (λF=>fB F T uF zV Bu F3 F6 Bt BA Bv rZ);have E1:=B.md Vr (λF=>lG F T uE By E8 xK);have E5:=B.md Vq (λF=>j0 F T uE By uF sF Fb Bw uH xM xK);have E2:=B.md Vp (λF=>lE F T );have zW:=B.md Vo (λF=>mU F T xJ E2);have Eo:=B.md Vn (λF=>iE F T zW BA sF vY xK);have A1:=B.df Vm (λF=>oZ F T cA);have GN:=B.df Vl (λF=>Ad F T cA A1);have Hq:=B.df Vk (λF=>Af F T cA);have GO:=B.df Vj (λF=>Ab F T cA);have GL:=B.df Vi (λF=>Ai F T cA GO);have Hr:=B.df Vh (λF=>Ae F T GN A1);have Hh:=B.df Vg (λF=>o7 F T cA GL);have Ho:=B.df Vf (λF=>Ah F T E1 E5);have Fp:=B.df Ve (λF=>ly F T );have E7:=B.md Vd (λF=>iZ F T xJ);have GX:=B.df Vc (λF=>vt F T );have EZ:=B.df Vb (λF=>lA F T rZ tR);have E4:=B.md Va (λF=>jZ F T );have BC:=B.md U9 (λF=>jW F T E4);have EX:=B.df U8 (λF=>lu F T zW E7 GX EZ);have E3:=B.df U7 (λF=>jT F T rZ BC tR);have GS:=B.df U6 (λF=>xX F T Hr EY Hh Hq cA GW Ho EX E3 Eo BC Fp tR);exact CK UY T Hl GV GS
theorem walk{l:W.OpenLaw}{q:Program}{loose:List Str}{XP:(Str->Option Value)->Heap->Prop}{YP:World->Heap->Prop}{d:DefRec}{K:Params->W.Frag}{tp:Addr}(hn:l.most=some 63)(hdf:d.params.defaults=[])
  (hY:∀(w:World)(h:Heap),YP w h->(K w.params).In h/\h.get? tp=some { cls:=.none,data:=.fields #[] })
  (F:∀(w:World)(mg:Str->Option Value)(fa:Addr)(h:Heap),(K w.params).In h->h.Ns mainGlobals mg->mg d.name=some (.ref fa) ->
   tabOf (K w.params) "Room" "going"=tp/\(∃c0,W.codeHdIn (K w.params) c0 tp=true)/\(K w.params).lookup tp=none/\∃fd:FuncData,(∀(s:Shared)(u:Value),BindsTo s fd ⟨[u],[]⟩ [("_law_script",u)])/\∀base:Heap,(K w.params).In base->base.Ns mainGlobals mg->BMod base mg->cM l.prog w (K w.params) mg base p8 19 fa fd vc (qv (K w.params))) :
  W.WalkO q loose XP YP l.row.toRowW d [] (λf vs=>PySem.call f vs):=
 L2.Ziq (tp:=tp) (pos:=tpos) (qual:=wI) (G:=λw=>tabOf (K w.params) "Room" "going"=tp) (n:=63) (k:=19) (x:="_law_script") (CX:=λ_=>p8) (sp:=λw=>qv (K w.params)) hn (by decide) hdf ⟨rfl,by decide,by decide,rfl⟩ hY F (λ_ _ a ns g hl hT hS=>⟨a,ns,rfl,hS,hl,(by unfold Tb;rw[g];exact hT),λ_=>rfl⟩) λ_ _ _ _ _ z=>z
end bL
namespace PySem.W.Fast
abbrev Q:=Nat
open Lean in
local macro_rules|`(command|#reduce 0)=>do
 let f:=λ(n:Name)=>`(command|def $(mkIdent (.mkSimple s!"tw{n.hash}")):ident:=Q)
 let mut r:=#[<-f `PySem.Challenge.pw_nearstairs_k69_whole_two_hands]
 for (x,l) in[("o_",List.range' 43 746),("heap_",[39,46,789]),("sts_",[49,85,100,115,130,145,236,238,324,373,578,580,665,745]),("tree_",[47,84,99,114,129,144,235,236,323,372,491,574,579,664,744,788]),("thread_",[574]),("view_",[39]),("env_",[41])] do for i in l do r:=r.push (<-f (.str `PySem.Challenge.cw_nearstairs_k69_whole_two_hands_holds s!"{x}{i}"))
 return mkNullNode r
#reduce 0
end PySem.W.Fast
open PySem PySem.W PyProof.Rows
set_option maxRecDepth 100000 in
set_option maxHeartbeats 0 in
theorem PySem.Challenge.cw_nearstairs_k69_whole_two_hands_holds : PySem.Challenge.rw_nearstairs_k69_whole_two_hands.Holds := by
 w_on;o_law;k_head;(case hw=>w_witness2)
 k_fill
 refine bL.walk (l:=PySem.Challenge.rw_nearstairs_k69_whole_two_hands) rfl rfl (λw h Y=>⟨PySem.W.km_in_of Y,PySem.W.km_tabs_of Y _ mem_cons_self⟩) ?F
 case F=>
  intro w mg fa h KX G hmg;refine' bL.Y4 KX G hmg ?_ ?_ ?_ ?_ ?_ ?_ ?_ ?_ ?_ ?_ ?_ ?_ ?_ ?_ ?_ ?_ ?_ ?_ ?_ ?_ ?_ ?_ ?_ ?_ ?_ ?_ ?_ ?_ ?_ ?_ ?_ ?_ ?_ ?_ ?_ ?_ ?_ ?_ ?_ ?_ ?_ ?_ ?_ ?_ ?_ ?_ ?_ ?_ ?_ ?_ ?_ ?_ ?_ ?_ ?_ ?_ ?_ ?_ ?_ ?_ ?_ ?_ ?_ ?_ ?_ ?_ ?_ ?_ ?_ ?_ ?_ ?_ ?_ ?_ ?_ ?_ ?_ ?_ ?_ ?_ ?_ ?_ ?_ ?_ ?_ ?_ ?_ ?_ ?_ ?_ ?_ ?_ ?_ ?_ ?_ ?_ ?_ ?_ ?_ ?_ ?_ ?_ ?_ ?_ ?_ ?_ ?_ ?_ ?_ ?_ ?_ ?_ ?_ ?_ ?_ ?_ ?_ ?_ ?_ ?_ ?_ ?_ ?_ ?_ ?_ ?_ ?_ ?_ ?_ ?_ ?_ ?_ ?_ ?_ ?_ ?_ ?_ ?_ ?_ ?_ ?_ ?_ ?_ ?_ ?_ ?_ ?_ ?_ ?_ ?_ ?_ ?_ ?_ ?_;all_goals try refine' bL.kq.mk ?_ ?_ ?_ ?_
  all_goals try refine' bL.b7.mk ?_ ?_ ?_ ?_ ?_
  all_goals try k_is
  all_goals kernel_rfl
