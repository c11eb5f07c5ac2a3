import PyProof.Rows.All
import Wide.All
import OpenK.AllK
import Wide.FinOn
import Lean
import PyProof.EqAt
import PyProof.EqKinds
import PyProof.TupleCall
import KE.KDictSum
import KE.KTryDeep
import KE.KTryMore
import PyProof.NsDelKeeps
import PyProof.FString
import PyProof.Rows.SetFrom
import PyProof.DictValues
import KE.KDictList
import PySem.Challenge.RW_nearstairs_k20_bounds_by_marks
open List (all_cons all_eq_true any_cons any_eq_true any_map append_assoc append_nil drop_drop drop_of_length_le drop_sublist drop_take erase_of_not_mem filter_append filter_cons filter_nil filter_sublist find?_cons find?_cons_of_neg find?_cons_of_pos getD_eq_getElem?_getD getElem?_append_left getElem?_append_right getElem?_drop getElem?_eq_getElem getElem?_eq_none getElem?_eq_some_iff getElem?_map getElem?_range getElem_drop getElem_mem getElem_take length_append length_cons length_drop length_erase_le length_erase_of_mem length_filter_le length_map length_nil length_pos_iff length_pos_of_mem length_range length_set length_singleton length_take map_append map_congr_left map_cons map_id map_map map_nil mem_append mem_append_left mem_append_right mem_cons mem_cons_of_mem mem_cons_self mem_filter mem_iff_getElem mem_map mem_of_getElem? mem_of_mem_erase mem_range mem_replicate mem_singleton nodup_append nodup_cons nodup_nil not_mem_nil pairwise_append pairwise_iff_getElem take_append_drop take_length take_of_length_le take_succ take_zero)
set_option Elab.async false
set_option linter.all false
set_option maxRecDepth 100000
namespace L2
open PySem PySem.Spec PyProof.Rows
abbrev Key:=Sum Int Str
def keyIs:Key->Value->Bool
 | .inl k,v=>Value.isInt k v
 | .inr x,v=>Value.isStrOf x v
def keyH (w:World):Key->Int
 | .inl k=>hashInt k
 | .inr x=>hashStr w x
theorem ZS:∀ {k:Key} {v:Value},keyIs k v=true->(∃ i t,k=Sum.inl i/\v=Value.int i t)\/(∃ x t,k=Sum.inr x/\v=Value.str x t)
 | .inl i,v,h=>by
  obtain ⟨t,e⟩:=Value.isInt_shape (k:=i) (v:=v) h
  exact .inl ⟨i,t,rfl,e⟩
 | .inr x,v,h=>by
  obtain ⟨t,e⟩:=Value.isStrOf_shape (x:=x) (v:=v) h
  exact .inr ⟨x,t,rfl,e⟩
theorem Zit (i:Int) (t:Tok):keyIs (.inl i) (.int i t)=true:=by simp [keyIs,Value.isInt]
theorem Ziu (x:Str) (t:Tok):keyIs (.inr x) (.str x t)=true:=by simp [keyIs,Value.isStrOf]
theorem ZmV (a b:Int):decide ((Sum.inl a:Key)=Sum.inl b)=(a == b):=by
 by_cases e:a=b
 .subst e; simp
 .have h:¬ (Sum.inl a:Key)=Sum.inl b:=λq=>e (Sum.inl.inj q)
  rw [decide_eq_false h]
  exact (beq_eq_false_iff_ne.mpr e).symm
theorem ZmW (a b:Str):decide ((Sum.inr a:Key)=Sum.inr b)=decide (a=b):=by
 by_cases e:a=b
 .subst e; simp
 .have h:¬ (Sum.inr a:Key)=Sum.inr b:=λq=>e (Sum.inr.inj q)
  rw [decide_eq_false h,decide_eq_false e]
theorem ZmX (a:Int) (b:Str):decide ((Sum.inl a:Key)=Sum.inr b)=false:=decide_eq_false (λq=>nomatch q)
theorem ZmY (a:Str) (b:Int):decide ((Sum.inr a:Key)=Sum.inl b)=false:=decide_eq_false (λq=>nomatch q)
def ZM (prog:Program) (w:World):PySem.KeyKind prog w Key where
 is:=keyIs
 hash:=keyH w
 inj:=λv a b ha hb=>by
  rcases ZS ha with ⟨i,t,rfl,rfl⟩ | ⟨x,t,rfl,rfl⟩
  .rcases ZS hb with ⟨j,u,rfl,e⟩ | ⟨y,u,rfl,e⟩
   .injection e with e1 _; rw [e1]
   .exact nomatch e
  .rcases ZS hb with ⟨j,u,rfl,e⟩ | ⟨y,u,rfl,e⟩
   .exact nomatch e
   .injection e with e1 _; rw [e1]
 byValue:=λk v h=>by
  rcases ZS h with ⟨i,t,rfl,rfl⟩ | ⟨x,t,rfl,rfl⟩ <;> rfl
 pyHash:=λhv h=>by
  rcases ZS hv with ⟨i,t,rfl,rfl⟩ | ⟨x,t,rfl,rfl⟩
  .exact wpAny_pyHash_int h
  .exact wpAny_pyHash_str h
 eqBool:=λhu hv h=>by
  rcases ZS hu with ⟨i,t,rfl,rfl⟩ | ⟨x,t,rfl,rfl⟩
  .rcases ZS hv with ⟨j,u,rfl,rfl⟩ | ⟨y,u,rfl,rfl⟩
   .rw [ZmV] at h; exact wpAny_eqBool_int h
   .rw [ZmX] at h; exact SeqAt.EqAt.int_str i t y u _ _ _ _ h
  .rcases ZS hv with ⟨j,u,rfl,rfl⟩ | ⟨y,u,rfl,rfl⟩
   .rw [ZmY] at h; exact SeqAt.EqAt.str_int x t j u _ _ _ _ h
   .rw [ZmW] at h; exact wpAny_eqBool_str h
 «strs»:=λk x t v h=>by
  rcases ZS h with ⟨i,u,rfl,e⟩ | ⟨y,u,rfl,e⟩
  .exact nomatch e
  .injection e with e1 _
   subst e1
   cases v <;> rfl
theorem Zgf (prog:Program) (w:World) (i:Int) (t:Tok):(ZM prog w).is (.inl i) (.int i t)=true:=Zit i t
theorem Zgg (prog:Program) (w:World) (x:Str) (t:Tok):(ZM prog w).is (.inr x) (.str x t)=true:=Ziu x t
inductive V where
 | non | bl (b:Bool) | int (i:Int) | str (x:Str) | byt (b:Array UInt8) | flt (b:UInt64) | ref (a:Addr) | ty (n:String)
 deriving DecidableEq
def RelV:V->Value->Prop
 | .non,u=>u=Value.none
 | .bl b,u=>u=Value.bool b
 | .int i,u=>∃ t,u=Value.int i t
 | .str x,u=>∃ t,u=Value.str x t
 | .byt b,u=>∃ t,u=Value.bytes b t
 | .flt b,u=>∃ t,u=Value.float b t
 | .ref a,u=>u=Value.ref a
 | .ty n,u=>u=Value.type n
abbrev Vals:List V->List Value->Prop:=Paired RelV
theorem Vals.length {xs:List V} {us:List Value} (r:Vals xs us):xs.length=us.length:=Paired.length r
theorem Vals.get:∀ {xs:List V} {us:List Value} {i:Nat} {x:V},Vals xs us->xs[i]?=some x->∃ u,us[i]?=some u/\RelV x u
 | _,_,_,_,.nil,e=>by simp at e
 | _,_,0,_,.cons r _,e=>by simp at e; subst e; exact ⟨_,rfl,r⟩
 | _,_,i+1,x,.cons _ t,e=>by
  obtain ⟨u,h1,h2⟩:=Vals.get (i:=i) (x:=x) t (by simpa using e)
  exact ⟨u,by simpa using h1,h2⟩
theorem Vals.set {x:V} {u:Value} (r:RelV x u):∀ {xs:List V} {us:List Value} (i:Nat),Vals xs us->Vals (xs.set i x) (us.set i u)
 | _,_,_,.nil=>.nil
 | _,_,0,.cons _ t=>.cons r t
 | _,_,i+1,.cons q t=>.cons q (Vals.set r i t)
theorem Vals.append:∀ {xs ys:List V} {us ws:List Value},Vals xs us->Vals ys ws->Vals (xs++ys) (us++ws)
 | _,_,_,_,.nil,s=>s
 | _,_,_,_,.cons r t,s=>.cons r (Vals.append t s)
theorem Vals.take:∀ {xs:List V} {us:List Value} (n:Nat),Vals xs us->Vals (xs.take n) (us.take n)
 | _,_,0,_=>.nil
 | _,_,_+1,.nil=>.nil
 | _,_,n+1,.cons r t=>.cons r (Vals.take n t)
theorem Vals.drop:∀ {xs:List V} {us:List Value} (n:Nat),Vals xs us->Vals (xs.drop n) (us.drop n)
 | _,_,0,r=>r
 | _,_,_+1,.nil=>.nil
 | _,_,n+1,.cons _ t=>Vals.drop n t
theorem Vals.none_of:∀ {xs:List V} {us:List Value} {i:Nat},Vals xs us->xs[i]?=none->us[i]?=none:=λ{xs us i} r e=>by
 have h1:=r.length
 have h2:xs.length<=i:=List.getElem?_eq_none_iff.mp e
 exact List.getElem?_eq_none_iff.mpr (by omega)
def RelO:Option V->Option Value->Prop
 | some v,some u=>RelV v u
 | none,none=>True
 | _,_=>False
def KV {κ:Type}:List (κ×V)->List (κ×Value)->Prop:=Paired λ(p:κ×V) (q:κ×Value)=>p.1=q.1/\RelV p.2 q.2
def kV:Key->V
 | .inl i=>.int i
 | .inr x=>.str x
inductive HO where
  | lst (xs:List V)
  | tup (xs:List V)
  | dK (kvs:List (Key×V)) | dT (kvs:List (List Key×V))
  | set (S:Int->Bool) (n:Nat)
  | ins (C dx:Addr) (fs:List (Str×V))
  | own (x:Addr)
  | xd (fs:List (Str×V))
  | met (f x:Addr)
  | rng (lo hi:Int)
  | frz (o:Obj) (u:HO)
  | tbl (pos:Pos) (qual:Str)
  | ext (φ:Heap->Prop)
abbrev Hp:=Addr->Option HO
def upd (H:Hp) (a:Addr) (o:HO):Hp:=λb=>if b=a then some o else H b
theorem Za {H:Hp} {a:Addr} {o:HO}:upd H a o a=some o:=by unfold upd; rw [if_pos rfl]
theorem Ze {H:Hp} {a b:Addr} {o:HO} (h:b≠a):upd H a o b=H b:=by unfold upd; rw [if_neg h]
theorem Zbw {H:Hp} {a:Addr} {o u:HO}:upd (upd H a o) a u=upd H a u:=by
 funext b; unfold upd; split <;> rfl
theorem ne_of {H:Hp} {a b:Addr} {o u:HO} (h:H a=some o) (h':H b=some u) (d:o≠u):a≠b:=by
 intro e; subst e; rw [h] at h'; exact d (Option.some.inj h')
theorem Zb {H:Hp} {a b:Addr} {o:HO} (h:H a=some o) (h':H b=none):a≠b:=by
 intro e; subst e; rw [h] at h'; cases h'
section
variable (P:Program) (w:World)
def ObjOk (H:Hp) (h:Heap) (a:Addr):HO->Prop
 | .lst xs=>xs.length<=sizeLine/\∃ (its:List Value) (n:Nat),Vals xs its/\h.get? a=some { cls:=.type "list",data:=.seq its.toArray n }
 | .tup xs=>xs.length<=sizeLine/\∃ its:List Value,Vals xs its/\IsTup h a its.toArray
 | .dK kvs=>kvs.length<=sizeLine/\(a == sysModules)=false/\∃ vs,KV kvs vs/\h.DictOf (ZM P w) a vs
 | .dT kvs=>kvs.length<=sizeLine/\(a == sysModules)=false/\∃ xs:List (List Key×Addr×Value),
   Paired (λ(p:List Key×V) (q:List Key×Addr×Value)=>p.1=q.1/\H q.2.1=some (.tup (p.1.map kV))/\RelV p.2 q.2.2) kvs xs /\
   ∃ o es ep,h.get? a=some o/\o.ExactDict/\o.data=.dict es ep/\es.toList=xs.map (entryOfKey (tupleKind (ZM P w)))/\(xs.map (·.1)).Nodup
 | .set S n=>h.SetOf (intKind P w) a S n
 | .ins C dx fs=>H dx=some (.own a)/\fs.length<=1000/\dx≠a/\h.get? a=some (W.instObj C dx) /\
   ∃ mA,h.Ns1 dx mA/\(∀ f,RelO (fs.lookup f) (mA f))/\PySem.Within mA (fs.map (·.1))
 | .own _=>∃ o,h.get? a=some o
 | .xd fs=>∃ mA,h.Ns1 a mA/\∀ f,RelO (fs.lookup f) (mA f)
 | .rng lo hi=>∃ t u v,h.get? a=some { cls:=.type "range",data:=.fields #[.int lo t,.int hi u,.int 1 v] }
 | .frz o u=>h.get? a=some o/\ObjOk H h a u
 | .tbl pos qual=>∃ ps,h.get? a=some { cls:=.none,data:=.fields ps }/\TriplesOk ps.toList/\∀ cv,codeAmong pos ps.toList=some cv->∃ c oc vs t,cv=.ref c/\H c=some (.frz oc (.own a))/\oc.data=.fields vs/\vs[1]?=some (.str qual t)
 | .met f x=>h.get? a=some (W.methodObj (.ref f) (.ref x))
 | .ext φ=>φ h/\(∃ o,h.get? a=some o)/\∀ h1 h2:Heap,φ h1->(∀ o,h1.get? a=some o->h2.get? a=some o)->φ h2
def HOk (H:Hp) (h:Heap):Prop:=∀ a o,H a=some o->ObjOk P w H h a o
end
section
variable {P:Program} {w:World} {H H':Hp} {h h':Heap} {a:Addr} {o:HO}
theorem ObjOk.lt (x:ObjOk P w H h a o):a<h.objs.size:=by
 cases o with
 | lst xs=>obtain ⟨_,_,_,_,e⟩:=x; exact Heap.lt_size e
 | tup xs=>obtain ⟨_,_,_,p⟩:=x; exact p.lt
 | dK kvs=>obtain ⟨_,_,_,_,o,_,_,e,_⟩:=x; exact Heap.lt_size e
 | dT kvs=>obtain ⟨_,_,_,_,o,_,_,e,_⟩:=x; exact Heap.lt_size e
 | set S n=>obtain ⟨o,_,_,_,e,_⟩:=x; exact Heap.lt_size e
 | ins C dx fs=>obtain ⟨_,_,_,e,_⟩:=x; exact Heap.lt_size e
 | own y=>obtain ⟨_,e⟩:=x; exact Heap.lt_size e
 | xd fs=>obtain ⟨_,⟨_,_,_,e,_⟩,_⟩:=x; exact Heap.lt_size e
 | rng lo hi=>obtain ⟨_,_,_,e⟩:=x; exact Heap.lt_size e
 | frz ob u=>obtain ⟨e,_⟩:=x; exact Heap.lt_size e
 | tbl p q=>obtain ⟨_,e,_⟩:=x; exact Heap.lt_size e
 | met f y=>exact Heap.lt_size (show h.get? a=some _ from x)
 | ext φ=>obtain ⟨_,⟨_,e⟩,_⟩:=x; exact Heap.lt_size e
theorem Paired.mapP {α β:Type} {F G:α->β->Prop}:∀ {l₁:List α} {l₂:List β},Paired F l₁ l₂->(∀ a b,F a b->G a b)->Paired G l₁ l₂
 | _,_,.nil,_=>.nil
 | _,_,.cons r t,f=>.cons (f _ _ r) (Paired.mapP t f)
theorem ObjOk.stay (x:ObjOk P w H h a o) (k:∀ b u,(b=a\/H b=some (.own a))->h.get? b=some u->h'.get? b=some u)
  (ho:∀ b,H b=some (.own a)->H' b=some (.own a)) (ht:∀ b xs,H b=some (.tup xs)->H' b=some (.tup xs))
  (hz:∀ b oz,H b=some (.frz oz (.own a))->H' b=some (.frz oz (.own a)):=by exact λ_ _ q=>q):ObjOk P w H' h' a o:=by
 induction o with
 | lst xs=>obtain ⟨z,its,n,r,e⟩:=x; exact ⟨z,its,n,r,k _ _ (.inl rfl) e⟩
 | tup xs=>obtain ⟨z,its,r,ob,e,c⟩:=x; exact ⟨z,its,r,ob,k _ _ (.inl rfl) e,c⟩
 | dK kvs=>obtain ⟨z,y,vs,r,ob,es,ep,e,c⟩:=x; exact ⟨z,y,vs,r,ob,es,ep,k _ _ (.inl rfl) e,c⟩
 | dT kvs =>
  obtain ⟨z,y,xs,r,ob,es,ep,e,c⟩:=x
  exact ⟨z,y,xs,Paired.mapP r λp q z=>⟨z.1,ht _ _ z.2.1,z.2.2⟩,ob,es,ep,k _ _ (.inl rfl) e,c⟩
 | set S n=>obtain ⟨ob,es,ep,t,e,c⟩:=x; exact ⟨ob,es,ep,t,k _ _ (.inl rfl) e,c⟩
 | ins C dx fs =>
  obtain ⟨d,z,ne,e,mA,⟨od,es,ep,e2,c⟩,r⟩:=x
  exact ⟨ho _ d,z,ne,k _ _ (.inl rfl) e,mA,⟨od,es,ep,k _ _ (.inr d) e2,c⟩,r⟩
 | own y=>obtain ⟨ob,e⟩:=x; exact ⟨ob,k _ _ (.inl rfl) e⟩
 | xd fs=>obtain ⟨mA,⟨od,es,ep,e,c⟩,r⟩:=x; exact ⟨mA,⟨od,es,ep,k _ _ (.inl rfl) e,c⟩,r⟩
 | rng lo hi=>obtain ⟨t,u,v,e⟩:=x; exact ⟨t,u,v,k _ _ (.inl rfl) e⟩
 | frz ob u ih=>obtain ⟨e,q⟩:=x; exact ⟨k _ _ (.inl rfl) e,ih q⟩
 | tbl p q =>
  obtain ⟨ps,e,tr,hc⟩:=x
  refine ⟨ps,k a _ (.inl rfl) e,tr,λcv e1=>?_⟩
  obtain ⟨c,oc,vs,tt,z,e2,r⟩:=hc cv e1
  exact ⟨c,oc,vs,tt,z,hz _ _ e2,r⟩
 | met f y =>
  have e:h.get? a=some (W.methodObj (.ref f) (.ref y)):=x
  show h'.get? a=some (W.methodObj (.ref f) (.ref y))
  exact k a _ (.inl rfl) e
 | ext φ=>obtain ⟨p,⟨o,e⟩,st⟩:=x; exact ⟨st _ _ p λo q=>k _ _ (.inl rfl) q,⟨o,k _ _ (.inl rfl) e⟩,st⟩
theorem HOk.lt (x:HOk P w H h) (e:H a=some o):a<h.objs.size:=(x a o e).lt
theorem HOk.fresh (x:HOk P w H h) (e:h.objs.size<=a):H a=none:=by
 cases q:H a with
 | none=>rfl
 | some u=>exact absurd (Nat.lt_of_lt_of_le (x.lt q) e) (Nat.lt_irrefl _)
theorem HOk.kept (x:HOk P w H h) (k:∀ b u,h.get? b=some u->h'.get? b=some u):HOk P w H h':=λa o e =>
 (x a o e).stay (λb u _ q=>k b u q) (λ_ q=>q) λ_ _ q=>q
theorem HOk.laid (x:HOk P w H h) (k:∀ b u,h.get? b=some u->h'.get? b=some u) (hp:h.objs.size<=a) (new:ObjOk P w (upd H a o) h' a o):HOk P w (upd H a o) h':=λb u e=>by
 have hn:=x.fresh hp
 by_cases hb:b=a
 .subst hb; rw [Za] at e; cases e; exact new
 .rw [Ze hb] at e
  exact (x b u e).stay (λc v _ q=>k c v q) (λc q=>by rw [Ze (Zb q hn)]; exact q) (λc xs q=>by rw [Ze (Zb q hn)]; exact q) λc oz q=>by rw [Ze (Zb q hn)]; exact q
end
def Rd (H:Hp) (a:Addr) (u:HO):Prop:=H a=some u\/∃ o,H a=some (.frz o u)
theorem Rd.ok {P:Program} {w:World} {H:Hp} {h:Heap} {a:Addr} {u:HO} (r:Rd H a u) (x:HOk P w H h):ObjOk P w H h a u:=by
 rcases r with r | ⟨o,r⟩
 .exact x a u r
 .obtain ⟨_,q⟩:=x a _ r
  exact q
def Mut:Option HO->Prop
 | some (.lst _)=>True
 | some (.dK _)=>True
 | some (.dT _)=>True
 | some (.set _ _)=>True
 | some (.ins _ _ _)=>True
 | some (.ext _)=>True
 | _=>False
section
variable {P:Program} {w:World} {H:Hp} {h h':Heap} {x e:Addr} {o':HO}
theorem HOk.write (ok:HOk P w H h) (mu:Mut (H x)) (he:e=x\/H e=some (.own x)) (k:∀ b u,b≠e->h.get? b=some u->h'.get? b=some u) (heo:∃ u,h'.get? e=some u)
  (new:ObjOk P w (upd H x o') h' x o'):HOk P w (upd H x o') h':=λb u q=>by
 have nown:∀ c y,H c=some (.own y)->c≠x:=λc y r z=>by subst z; rw [r] at mu; exact mu
 have ntup:∀ c xs,H c=some (.tup xs)->c≠x:=λc xs r z=>by subst z; rw [r] at mu; exact mu
 by_cases hb:b=x
 .subst hb; rw [Za] at q; cases q; exact new
 .rw [Ze hb] at q
  by_cases hbe:b=e
  .have q':H b=some (.own x):=by
    rcases he with z | z
    .exact absurd (hbe.trans z) hb
    .rw [hbe]; exact z
   rw [q] at q'; cases q'
   obtain ⟨v,hv⟩:=heo
   exact ⟨v,by rw [hbe]; exact hv⟩
  .refine (ok b u q).stay (λc v hc r=>k c v ?_ r) (λc r=>by rw [Ze (nown c b r)]; exact r) (λc xs r=>by rw [Ze (ntup c xs r)]; exact r) λc oz r=>by rw [Ze (λz=>by subst z; rw [r] at mu; exact mu)]; exact r
   rcases hc with rfl | hc
   .exact hbe
   .rintro rfl
    rcases he with z | z
    .exact nown c b hc z
    .rw [hc] at z; cases z; exact hb rfl
end
structure Un (fs ex:List Addr) (H H':Hp) (h h':Heap):Prop where
 keep:∀ b o,h.get? b=some o->H b=none->b∉fs->b∉ex->h'.get? b=some o
 slot:∀ b o,h.get? b=some o->H b=none->b∈fs->b∉ex->∃ sl,h'.get? b=some { o with slots:=sl }
 free:∀ b o,h.get? b=some o->H b=none->b∉ex->H' b=none
 there:∀ b o,h.get? b=some o->b∉ex->∃ o',h'.get? b=some o'
 tups:∀ b xs,H b=some (.tup xs)->H' b=some (.tup xs)
 frzs:∀ b o u,H b=some (.frz o u)->H' b=some (.frz o u)
 tbls:∀ b p q,H b=some (.tbl p q)->H' b=some (.tbl p q)
section
variable {fs fs' ex ex':List Addr} {H H1 H2:Hp} {h h1 h2 h':Heap} {a x e:Addr} {o:HO}
theorem Un.any (u:Un fs ex H H1 h h1) {b:Addr} {ob:Obj} (q:h.get? b=some ob) (n:H b=none) (hx:b∉ex):∃ sl,h1.get? b=some { ob with slots:=sl }:=by
 by_cases hb:b∈fs
 .exact u.slot b ob q n hb hx
 .exact ⟨ob.slots,u.keep b ob q n hb hx⟩
theorem Un.kept (k:∀ b u,h.get? b=some u->h'.get? b=some u):Un fs ex H H h h' :=
 ⟨λb ob q _ _ _=>k b ob q,λb ob q _ _ _=>⟨ob.slots,k b ob q⟩,λ_ _ _ n _=>n,λb ob q _=>⟨ob,k b ob q⟩,λ_ _ q=>q,λ_ _ _ q=>q,λ_ _ _ q=>q⟩
theorem Un.refl:Un fs ex H H h h:=Un.kept λ_ _ q=>q
theorem Un.laid (k:∀ b u,h.get? b=some u->h'.get? b=some u) (hp:h.objs.size<=a) (hn:H a=none):Un fs ex H (upd H a o) h h' where
 keep:=λb u q _ _ _=>k b u q
 slot:=λb u q _ _ _=>⟨u.slots,k b u q⟩
 free:=λb u q n _=>by rw [Ze (Nat.ne_of_lt (Nat.lt_of_lt_of_le (Heap.lt_size q) hp))]; exact n
 there:=λb u q _=>⟨u,k b u q⟩
 tups:=λb xs q=>by rw [Ze (Zb q hn)]; exact q
 frzs:=λb u xs q=>by rw [Ze (Zb q hn)]; exact q
 tbls:=λb _ _ q=>by rw [Ze (Zb q hn)]; exact q
theorem Un.write (mu:Mut (H x)) (he:e=x\/H e=some (.own x)) (k:∀ b u,b≠e->h.get? b=some u->h'.get? b=some u) (heo:∃ u,h'.get? e=some u):Un fs ex H (upd H x o) h h':=by
 have hx:∀ b,H b=none->b≠x:=λb n z=>by subst z; rw [n] at mu; exact mu
 have hb:∀ b,H b=none->b≠e:=λb n z=>by
  subst z
  rcases he with r | r
  .exact hx b n r
  .rw [n] at r; cases r
 have hm:∀ b u,H b=some u->¬ Mut (some u)->b≠x:=λb u q nm z=>by subst z; rw [q] at mu; exact nm mu
 refine ⟨λb u q n _ _=>k b u (hb b n) q,λb u q n _ _=>⟨u.slots,k b u (hb b n) q⟩,λb u q n _=>by rw [Ze (hx b n)]; exact n,λb u q _=>?_,
  λb xs q=>by rw [Ze (hm b _ q λz=>z)]; exact q,λb u xs q=>by rw [Ze (hm b _ q λz=>z)]; exact q,λb _ _ q=>by rw [Ze (hm b _ q λz=>z)]; exact q⟩
 by_cases hbe:b=e
 .subst hbe; exact heo
 .exact ⟨u,k b u hbe q⟩
end
def trk (h:Heap) (H:Hp):List Addr:=(List.range h.objs.size).filter λa=>(H a).isSome
def hidT (h:Heap) (H:Hp):Heap:=W.hideAll h (trk h H)
theorem Ziv (h:Heap) (H:Hp):(hidT h H).objs.size=h.objs.size:=W.hideAll_size _ _
theorem Zeu {h:Heap} {H:Hp} {b:Addr} {o:Obj} (e:h.get? b=some o) (n:H b=none):(hidT h H).get? b=some o :=
 W.hideAll_get _ e λhm=>by
  have q:(H b).isSome=true:=(List.mem_filter.mp hm).2
  rw [n] at q; simp at q
theorem Zmd {h:Heap} {H:Hp} {b:Addr} {o:Obj} (e:(hidT h H).get? b=some o):h.get? b=some o/\H b=none:=by
 have e':h.get? b=some o:=W.of_hideAll (trk h H) e
 refine ⟨e',?_⟩
 cases q:H b with
 | none=>rfl
 | some x =>
  have hm:b∈trk h H:=List.mem_filter.mpr ⟨List.mem_range.mpr (Heap.lt_size e'),by simp [q]⟩
  have z:(hidT h H).get? b=none:=W.hideAll_none (trk h H) hm
  rw [z] at e; cases e
structure Mod (K:W.Frag) (mg:Str->Option Value) (base:Heap):Prop where
 kin:K.In base
 glob:base.Ns mainGlobals mg
 blt:∃ mb,base.Ns builtinsNs mb/\∀ x:Str,x ≠ "__name__" -> mb x=bootBuiltins x
 nolimit:base.NoLimit
structure Cx where
 prog:Program
 w:World
 K:W.Frag
 mg:Str->Option Value
 base:Heap
 A:Around
 N:List Str
 s₀:Shared
 H₀:Hp
 env:Env
 outer:List Env
 stack:List Env
 ex:List Addr
 fn:Str->Bool
 calm:Bool
 pn:List (Addr×Obj)
 xe:Value->Shared->Prop
def frs (l:List Env):List Addr:=l.filterMap (·.frame)
abbrev Cx.fs (X:Cx):List Addr:=frs X.outer
def Vis (sc:Scope) (x:Str):Prop:=sc.names.lookup x=some .local\/sc.names.lookup x=some .cell\/sc.names.lookup x=some .free
def Loc (sc:Scope) (x:Str):Prop:=sc.names.lookup x=some .local\/sc.names.lookup x=some .cell
def Look (env:Env) (h:Heap) (m:Str->Option Value) (x:Str) (u:Value):Prop :=
 (env.kindOf x=some .local/\m x=some u)\/((env.kindOf x=some .cell\/env.kindOf x=some .free)/\∃ c,env.cells.lookup x=some c/\h.IsCell c (some u))
structure Cx.Ok (X:Cx):Prop where
 mod:Mod X.K X.mg X.base
 kind:X.env.scope.kind=.function
 glob:X.env.globals=mainGlobals
 blt:X.env.builtins=builtinsNs
 above:X.s₀.heap.objs.size<=X.env.locals
 inj:∀ x y c,X.env.cells.lookup x=some c->X.env.cells.lookup y=some c->x=y
 has:∀ x,(X.env.kindOf x=some .cell\/X.env.kindOf x=some .free)->∃ c,X.env.cells.lookup x=some c
 cab:∀ x c,X.fn x=true->X.env.cells.lookup x=some c->X.s₀.heap.objs.size<=c
 hd:X.calm=true->X.A.handled=none
 frames:X.A.frames=some X.stack
 stk:X.stack=X.outer\/(X.stack=X.env :: X.outer/\X.env.frame=some X.env.locals)
 exf:∀ b∈X.ex,b≠X.env.locals/\∀ x c,X.env.cells.lookup x=some c->c≠b
 bs:∀ b o,X.base.get? b=some o->X.s₀.heap.get? b=some o/\X.H₀ b=none
 bsz:X.base.objs.size<=X.s₀.heap.objs.size
 noex:∀ b o,X.base.get? b=some o->b∉X.ex
 exfs:∀ b∈X.ex,b∉X.fs
 funs:X.s₀.heap.FunFrames X.base X.outer
 frf:∀ b∈X.fs,X.H₀ b=none
structure Inv (X:Cx) (pins:List (Addr×Obj)) (σ:List (Option V)) (H:Hp) (s:Shared):Prop where
 ok:X.Ok
 os:s.os=X.s₀.os
 bare:AllBare s.gens
 base:Un X.fs X.ex X.H₀ H X.s₀.heap s.heap
 loc:∃ m,s.heap.Ns X.env.locals m/\∀ (i:Nat) (x:Str) (v:V),X.N[i]?=some x->σ[i]?=some (some v)->Vis X.env.scope x->∃ u,RelV v u/\Look X.env s.heap m x u
 cell:∀ x c,X.env.cells.lookup x=some c->∃ v,s.heap.IsCell c v
 free:H X.env.locals=none
 freeC:∀ x c,X.env.cells.lookup x=some c->H c=none
 pin:∀ p∈X.pn++pins,s.heap.get? p.1=some p.2/\H p.1=none/\p.1≠X.env.locals/\p.1∉X.fs/\∀ v,p.2.data≠.cell v
 hok:HOk X.prog X.w H s.heap
 len:σ.length=X.N.length
section
variable {X:Cx} {pins:List (Addr×Obj)} {σ:List (Option V)} {H H':Hp} {s:Shared} {h':Heap}
theorem Cx.Ok.nofr (ok:X.Ok) {b:Addr} {o:Obj} (e:X.base.get? b=some o):b∉X.fs:=λhb=>by
 have:=(ok.funs.mem hb).1
 rw [e] at this; cases this
theorem Inv.bs (I:Inv X pins σ H s):∀ b o,X.base.get? b=some o->s.heap.get? b=some o/\H b=none:=λb o e =>
 ⟨I.base.keep b o (I.ok.bs b o e).1 (I.ok.bs b o e).2 (I.ok.nofr e) (I.ok.noex b o e),I.base.free b o (I.ok.bs b o e).1 (I.ok.bs b o e).2 (I.ok.noex b o e)⟩
theorem Inv.bk (I:Inv X pins σ H s):∀ b o,X.base.get? b=some o->s.heap.get? b=some o:=λb o e=>(I.bs b o e).1
theorem Inv.mod (I:Inv X pins σ H s):Mod X.K X.mg X.base:=I.ok.mod
theorem Inv.kIn (I:Inv X pins σ H s):X.K.In s.heap:=I.ok.mod.kin.keeps I.bk
theorem Inv.nolimit (I:Inv X pins σ H s):s.heap.NoLimit:=I.ok.mod.nolimit.keeps I.bk
theorem Inv.lt (I:Inv X pins σ H s):X.env.locals<s.heap.objs.size:=let ⟨_,hn,_⟩:=I.loc; hn.lt
theorem Inv.sz (I:Inv X pins σ H s):X.s₀.heap.objs.size<=s.heap.objs.size:=Nat.le_trans I.ok.above (Nat.le_of_lt I.lt)
theorem Inv.nofs (I:Inv X pins σ H s) {a:Addr} (h:s.heap.objs.size<=a):a∉X.fs:=λhb=>by
 obtain ⟨_,o,ho,_⟩:=I.ok.funs.mem hb
 exact absurd (Nat.lt_of_lt_of_le (Heap.lt_size ho) (Nat.le_trans I.sz h)) (Nat.lt_irrefl _)
theorem Inv.cne (I:Inv X pins σ H s):∀ x c,X.env.cells.lookup x=some c->c≠X.env.locals:=λx c e z=>by
 obtain ⟨v,o,ho,hd⟩:=I.cell x c e
 obtain ⟨m,⟨o',es,ep,ho',hd',_⟩,_⟩:=I.loc
 rw [z,ho'] at ho; cases ho; rw [hd'] at hd; cases hd
theorem Inv.funs (I:Inv X pins σ H s):s.heap.FunFrames X.base X.outer:=by
 have all:∀ (l:List Env),(∀ b∈frs l,b∈X.fs)->X.s₀.heap.FunFrames X.base l->s.heap.FunFrames X.base l:=by
  intro l
  induction l with
  | nil=>intro _ _; trivial
  | cons env r ih =>
   intro hs hl
   obtain ⟨hk,⟨L,o,hf,hn,ho,hd⟩,hr⟩:=hl
   have hL:L∈X.fs:=hs L (by unfold frs; rw [List.filterMap_cons,hf]; exact mem_cons_self)
   obtain ⟨sl,e⟩:=I.base.slot L o ho (I.ok.frf L hL) hL λz=>I.ok.exfs L z hL
   exact ⟨hk,⟨L,_,hf,hn,e,hd⟩,ih (λb hb=>hs b (by unfold frs; rw [List.filterMap_cons,hf]; exact mem_cons_of_mem _ hb)) hr⟩
 exact all X.outer (λ_ hb=>hb) I.ok.funs
theorem Inv.stack (I:Inv X pins σ H s):s.heap.FunFrames X.base X.stack:=by
 rcases I.ok.stk with e | ⟨e,hf⟩
 .rw [e]; exact I.funs
 .rw [e]
  obtain ⟨m,hn,_⟩:=I.loc
  refine .cons (by rw [I.ok.kind]; decide) hf hn ?_ I.funs
  exact Heap.get?_none_of_le (Nat.le_trans I.ok.bsz I.ok.above)
theorem Inv.stkSub (I:Inv X pins σ H s):∀ b∈frs X.stack,b∈X.env.locals :: X.fs:=λb hb=>by
 rcases I.ok.stk with e | ⟨e,hf⟩
 .rw [e] at hb; exact mem_cons_of_mem _ hb
 .rw [e] at hb
  unfold frs at hb
  rw [List.filterMap_cons,hf] at hb
  exact hb
theorem Inv.stkFree (I:Inv X pins σ H s):∀ b∈frs X.stack,H b=none:=λb hb=>by
 rcases List.mem_cons.mp (I.stkSub b hb) with e | hb
 .rw [e]; exact I.free
 .obtain ⟨_,o,ho,_⟩:=I.ok.funs.mem hb
  exact I.base.free b o ho (I.ok.frf b hb) λz=>I.ok.exfs b z hb
theorem Inv.step {g':Array GenState} {t':Nat} {d':Drawn} {ch:List Addr} (I:Inv X pins σ H s)
  (hch:∀ b∈ch,(b∈X.ex\/X.s₀.heap.objs.size<=b)/\b≠X.env.locals/\(∀ x c,X.env.cells.lookup x=some c->c≠b)/\∀ p∈X.pn++pins,p.1≠b)
  (keep:∀ b o,b≠X.env.locals->b∉X.fs->b∉ch->s.heap.get? b=some o->H b=none->h'.get? b=some o)
  (slot:∀ b o,b≠X.env.locals->b∈X.fs->b∉ch->s.heap.get? b=some o->H b=none->∃ sl,h'.get? b=some { o with slots:=sl }) (free:∀ b o,b∉ch->s.heap.get? b=some o->H b=none->H' b=none)
  (there:∀ b o,b∉ch->s.heap.get? b=some o->∃ o',h'.get? b=some o')
  (tups:∀ b xs,H b=some (.tup xs)->H' b=some (.tup xs)) (frzs:∀ b o u,H b=some (.frz o u)->H' b=some (.frz o u)) (tbls:∀ b p q,H b=some (.tbl p q)->H' b=some (.tbl p q))
  (ns:∀ m,s.heap.Ns X.env.locals m->h'.Ns X.env.locals m) (hok:HOk X.prog X.w H' h') (hg:AllBare g') :
  Inv X pins σ H' { s with heap:=h',gens:=g',drawn:=d',toks:=t' }:=by
 have neL:∀ b o,X.s₀.heap.get? b=some o->b≠X.env.locals:=λb o e=>Nat.ne_of_lt (Nat.lt_of_lt_of_le (Heap.lt_size e) I.ok.above)
 have neC:∀ b o,X.s₀.heap.get? b=some o->b∉X.ex->b∉ch:=λb o e hx hb=>by
  rcases (hch b hb).1 with z | z
  .exact hx z
  .exact absurd (Nat.lt_of_lt_of_le (Heap.lt_size e) z) (Nat.lt_irrefl _)
 have cellK:∀ x c,X.env.cells.lookup x=some c->∀ v,s.heap.IsCell c v->h'.IsCell c v:=λx c e v ⟨o,ho,hd⟩=>by
  have nch:c∉ch:=λz=>(hch c z).2.2.1 x c e rfl
  by_cases hc:c∈X.fs
  .obtain ⟨sl,q⟩:=slot c o (I.cne x c e) hc nch ho (I.freeC x c e)
   exact ⟨_,q,hd⟩
  .exact ⟨o,keep c o (I.cne x c e) hc nch ho (I.freeC x c e),hd⟩
 refine ⟨I.ok,I.os,hg,⟨λb o e n hb hx=>?_,λb o e n hb hx=>?_,λb o e n hx=>?_,λb o e hx=>?_,λb xs e=>tups b xs (I.base.tups b xs e),λb o xs e=>frzs b o xs (I.base.frzs b o xs e),λb p r e=>tbls b p r (I.base.tbls b p r e)⟩,?_,λx c e=>?_,?_,λx c e=>?_,λp hp=>?_,hok,I.len⟩
 .exact keep b o (neL b o e) hb (neC b o e hx) (I.base.keep b o e n hb hx) (I.base.free b o e n hx)
 .obtain ⟨sl,e1⟩:=I.base.slot b o e n hb hx
  obtain ⟨sl',e2⟩:=slot b _ (neL b o e) hb (neC b o e hx) e1 (I.base.free b o e n hx)
  exact ⟨sl',e2⟩
 .obtain ⟨o',e1⟩:=I.base.there b o e hx
  exact free b o' (neC b o e hx) e1 (I.base.free b o e n hx)
 .obtain ⟨o',e1⟩:=I.base.there b o e hx
  exact there b o' (neC b o e hx) e1
 .obtain ⟨m,hn,hl⟩:=I.loc
  refine ⟨m,ns m hn,λi x v e1 e2 e3=>?_⟩
  obtain ⟨u,r,l⟩:=hl i x v e1 e2 e3
  refine ⟨u,r,?_⟩
  rcases l with l | ⟨k,c,e,z⟩
  .exact .inl l
  .exact .inr ⟨k,c,e,cellK x c e _ z⟩
 .obtain ⟨v,z⟩:=I.cell x c e
  exact ⟨v,cellK x c e v z⟩
 .obtain ⟨m,⟨o,_,_,ho,_⟩,_⟩:=I.loc
  exact free _ o (λz=>(hch _ z).2.1 rfl) ho I.free
 .obtain ⟨v,o,ho,hd⟩:=I.cell x c e
  exact free c o (λz=>(hch c z).2.2.1 x c e rfl) ho (I.freeC x c e)
 .obtain ⟨e,n,ne,nf,d⟩:=I.pin p hp
  have nch:p.1∉ch:=λz=>(hch p.1 z).2.2.2 p hp rfl
  exact ⟨keep p.1 p.2 ne nf nch e n,free p.1 p.2 nch e n,ne,nf,d⟩
theorem Inv.un {t':Nat} (I:Inv X pins σ H s) (u:Un X.fs [] H H' s.heap h') (hok:HOk X.prog X.w H' h'):Inv X pins σ H' { s with heap:=h',toks:=t' }:=by
 obtain ⟨m,⟨o,es,ep,ho,r⟩,_⟩:=id I.loc
 obtain ⟨sl,hL⟩:=u.any ho I.free (by simp)
 exact I.step (g':=s.gens) (d':=s.drawn) (ch:=[]) (λ_ z=>nomatch z) (λb o _ hb _ e n=>u.keep b o e n hb (by simp)) (λb o _ hb _ e n=>u.slot b o e n hb (by simp)) (λb o _ e n=>u.free b o e n (by simp)) (λb o _ e=>u.there b o e (by simp)) u.tups u.frzs u.tbls (λm' hm=>by
  obtain ⟨o',es',ep',ho',r'⟩:=hm
  rw [ho] at ho'; cases ho'
  exact ⟨_,es',ep',hL,r'⟩) hok I.bare
theorem Inv.call {g':Array GenState} {t':Nat} {d':Drawn} {ch:List Addr} (I:Inv X pins σ H s) (u:Un (frs X.stack) ch H H' s.heap h') (hok:HOk X.prog X.w H' h') (hg:AllBare g')
  (hch:∀ b∈ch,(b∈X.ex\/X.s₀.heap.objs.size<=b)/\b≠X.env.locals/\(∀ x c,X.env.cells.lookup x=some c->c≠b)/\∀ p∈X.pn++pins,p.1≠b) :
  Inv X pins σ H' { s with heap:=h',gens:=g',drawn:=d',toks:=t' }:=by
 obtain ⟨m,⟨o,es,ep,ho,r⟩,_⟩:=id I.loc
 obtain ⟨sl,hL⟩:=u.any ho I.free λz=>(hch _ z).2.1 rfl
 exact I.step (ch:=ch) hch (λb o hL hb hc e n=>u.keep b o e n (λz=>(List.mem_cons.mp (I.stkSub b z)).elim hL hb) hc) (λb o _ _ hc e n=>u.any e n hc) (λb o hc e n=>u.free b o e n hc) (λb o hc e=>u.there b o e hc) u.tups u.frzs u.tbls (λm' hm=>by
  obtain ⟨o',es',ep',ho',r'⟩:=hm
  rw [ho] at ho'; cases ho'
  exact ⟨_,es',ep',hL,r'⟩) hok hg
theorem Inv.turned {t':Nat} {it:Addr} (I:Inv X pins σ H s) (k:∀ b o,b≠it->s.heap.get? b=some o->h'.get? b=some o) (hn:H it=none) (hL:it≠X.env.locals)
  (h1:it∈X.ex\/X.s₀.heap.objs.size<=it) (h2:∀ x c,X.env.cells.lookup x=some c->c≠it) (h3:∀ p∈X.pn++pins,p.1≠it):Inv X pins σ H { s with heap:=h',toks:=t' }:=by
 have nit:∀ b u,H b=some u->b≠it:=λb u e z=>by rw [z,hn] at e; cases e
 refine I.step (g':=s.gens) (d':=s.drawn) (ch:=[it]) (λb hb=>?_) (λb o _ _ hc e _=>k b o (λz=>hc (by simp [z])) e) (λb o _ _ hc e _=>⟨o.slots,k b o (λz=>hc (by simp [z])) e⟩) (λ_ _ _ _ n=>n)
  (λb o hc e=>⟨o,k b o (λz=>hc (by simp [z])) e⟩) (λ_ _ e=>e) (λ_ _ _ e=>e) (λ_ _ _ e=>e) (λm hm=>?_) (λb u e=>?_) I.bare
 .have e:b=it:=by simpa using hb
  subst e
  exact ⟨h1,hL,h2,h3⟩
 .obtain ⟨o,es,ep,ho,r⟩:=hm
  exact ⟨o,es,ep,k _ o (Ne.symm hL) ho,r⟩
 .refine (I.hok b u e).stay (λc v hc q=>k c v ?_ q) (λ_ q=>q) λ_ _ q=>q
  rcases hc with z | z
  .rw [z]; exact nit b u e
  .exact nit c _ z
theorem Inv.tok (I:Inv X pins σ H s) (t:Nat):Inv X pins σ H { s with toks:=t }:=I.un (h':=s.heap) (t':=t) Un.refl I.hok
theorem Inv.kept {t':Nat} (I:Inv X pins σ H s) (k:∀ b u,s.heap.get? b=some u->h'.get? b=some u):Inv X pins σ H { s with heap:=h',toks:=t' }:=I.un (Un.kept k) (I.hok.kept k)
theorem Inv.laid {a:Addr} {o:HO} {t':Nat} (I:Inv X pins σ H s) (k:∀ b u,s.heap.get? b=some u->h'.get? b=some u) (hp:s.heap.objs.size<=a) (new:ObjOk X.prog X.w (upd H a o) h' a o) :
  Inv X pins σ (upd H a o) { s with heap:=h',toks:=t' }:=I.un (Un.laid k hp (I.hok.fresh hp)) (I.hok.laid k hp new)
theorem Inv.write {x e:Addr} {o:HO} {t':Nat} (I:Inv X pins σ H s) (mu:Mut (H x)) (he:e=x\/H e=some (.own x)) (k:∀ b u,b≠e->s.heap.get? b=some u->h'.get? b=some u) (heo:∃ u,h'.get? e=some u)
  (new:ObjOk X.prog X.w (upd H x o) h' x o):Inv X pins σ (upd H x o) { s with heap:=h',toks:=t' }:=I.un (Un.write mu he k heo) (I.hok.write mu he k heo new)
theorem Inv.pins_of {pins':List (Addr×Obj)} (I:Inv X pins σ H s) (h:∀ p∈pins',s.heap.get? p.1=some p.2/\H p.1=none/\p.1≠X.env.locals/\p.1∉X.fs/\∀ v,p.2.data≠.cell v):Inv X pins' σ H s :=
 ⟨I.ok,I.os,I.bare,I.base,I.loc,I.cell,I.free,I.freeC,λp hp=>(List.mem_append.mp hp).elim (λz=>I.pin p (mem_append_left _ z)) (h p),I.hok,I.len⟩
theorem ZgR {N:List Str} (hN:N.Nodup) {i j:Nat} {x:Str} (a:N[i]?=some x) (b:N[j]?=some x):i=j:=by
 obtain ⟨h1,e1⟩:=List.getElem?_eq_some_iff.mp a
 obtain ⟨h2,e2⟩:=List.getElem?_eq_some_iff.mp b
 exact (List.getElem_inj hN).mp (e1.trans e2.symm)
theorem Zfe {M:Model} {A:Around} {E:Value->Shared->Prop} {i:Nat} {x:Str} {v:V} {u:Value} {Q:Unit->Shared->Prop} (I:Inv X pins σ H s) (hN:X.N.Nodup) (hi:X.N[i]?=some x) (hx:Loc X.env.scope x) (r:RelV v u)
  (h:∀ s',Inv X pins (σ.set i (some v)) H s'->(∃ a,Heap.SameBut a s.heap s'.heap/\(a=X.env.locals\/X.env.cells.lookup x=some a))->Q () s') (hf:X.fn x=true\/X.env.scope.names.lookup x=some .local:=by first | exact .inl rfl | exact .inr rfl | assumption):wpAny M A (storeName X.env x u) Q E s:=by
 obtain ⟨m,hn,hl⟩:=id I.loc
 have hcls:(X.env.scope.kind == .class || (X.env.scope.kind == .module && X.env.locals != X.env.globals))=false:=by rw [I.ok.kind]; rfl
 have hiσ:i<σ.length:=by rw [I.len]; exact (List.getElem?_eq_some_iff.mp hi).1
 have cne:=I.cne
 have tracked:∀ {a:Addr} {h':Heap},(∃ o,s.heap.get? a=some o/\H a=none)->Heap.SameBut a s.heap h'->HOk X.prog X.w H h':=λ{a h'} ha hs b ob e=>by
  obtain ⟨_,_,hfree⟩:=ha
  refine (I.hok b ob e).stay (λc w' hc q=>(hs.2 c ?_).trans q) (λ_ q=>q) λ_ _ q=>q
  rintro rfl
  rcases hc with rfl | hc
  .rw [hfree] at e; cases e
  .rw [hfree] at hc; cases hc
 rcases hx with hk | hk
 .refine wpAny_storeName_local hk hn (λh' hn' hs=>?_) hcls
  obtain ⟨oL,_,_,hoL,_⟩:=id hn
  refine h _ ⟨I.ok,I.os,I.bare,⟨λb o e n hb hx=>?_,λb o e n hb hx=>?_,I.base.free,λb o e hx=>?_,I.base.tups,I.base.frzs,I.base.tbls⟩,⟨_,hn',λj y v' e1 e2 e3=>?_⟩,λy c e=>?_,I.free,I.freeC,λp hp=>?_,tracked ⟨oL,hoL,I.free⟩ hs,by simpa using I.len⟩ ⟨_,hs,.inl rfl⟩
  .exact (hs.2 b (Nat.ne_of_lt (Nat.lt_of_lt_of_le (Heap.lt_size e) I.ok.above))).trans (I.base.keep b o e n hb hx)
  .obtain ⟨sl,e1⟩:=I.base.slot b o e n hb hx
   exact ⟨sl,(hs.2 b (Nat.ne_of_lt (Nat.lt_of_lt_of_le (Heap.lt_size e) I.ok.above))).trans e1⟩
  .obtain ⟨o',e1⟩:=I.base.there b o e hx
   exact ⟨o',(hs.2 b (Nat.ne_of_lt (Nat.lt_of_lt_of_le (Heap.lt_size e) I.ok.above))).trans e1⟩
  .by_cases hj:j=i
   .subst hj
    rw [hi] at e1; cases e1
    rw [List.getElem?_set_self hiσ] at e2
    cases e2
    exact ⟨u,r,.inl ⟨hk,by simp⟩⟩
   .rw [List.getElem?_set_ne (Ne.symm hj)] at e2
    obtain ⟨u',r',q⟩:=hl j y v' e1 e2 e3
    refine ⟨u',r',?_⟩
    rcases q with ⟨k,e⟩ | ⟨k,c,e,z⟩
    .refine .inl ⟨k,?_⟩
     have:y≠x:=λe=>hj (ZgR hN e1 (e ▸ hi))
     simp [this,e]
    .exact .inr ⟨k,c,e,z.sameBut hs (cne y c e)⟩
  .obtain ⟨w',z⟩:=I.cell y c e
   exact ⟨w',z.sameBut hs (cne y c e)⟩
  .obtain ⟨e,n,ne,nf,d⟩:=I.pin p hp
   exact ⟨(hs.2 p.1 ne).trans e,n,ne,nf,d⟩
 .have hfn:X.fn x=true:=by
   rcases hf with z | z
   .exact z
   .rw [z] at hk; cases hk
  obtain ⟨c,hc⟩:=I.ok.has x (.inl hk)
  obtain ⟨w',z⟩:=I.cell x c hc
  refine wpAny_storeName_cell I.ok.kind hk hc z (λh' hc' hs=>?_)
  obtain ⟨oc,hoc,hocd⟩:=id z
  refine h { s with heap:=h' } ⟨I.ok,I.os,I.bare,⟨λb o e n hb hx=>?_,λb o e n hb hx=>?_,I.base.free,λb o e hx=>?_,I.base.tups,I.base.frzs,I.base.tbls⟩,⟨m,hn.sameBut hs (Ne.symm (cne x c hc)),λj y v' e1 e2 e3=>?_⟩,λy c' e=>?_,I.free,I.freeC,λp hp=>?_,tracked ⟨oc,hoc,I.freeC x c hc⟩ hs,by simpa using I.len⟩ ⟨c,hs,.inr hc⟩
  .exact (hs.2 b (Nat.ne_of_lt (Nat.lt_of_lt_of_le (Heap.lt_size e) (I.ok.cab x c hfn hc)))).trans (I.base.keep b o e n hb hx)
  .obtain ⟨sl,e1⟩:=I.base.slot b o e n hb hx
   exact ⟨sl,(hs.2 b (Nat.ne_of_lt (Nat.lt_of_lt_of_le (Heap.lt_size e) (I.ok.cab x c hfn hc)))).trans e1⟩
  .obtain ⟨o',e1⟩:=I.base.there b o e hx
   exact ⟨o',(hs.2 b (Nat.ne_of_lt (Nat.lt_of_lt_of_le (Heap.lt_size e) (I.ok.cab x c hfn hc)))).trans e1⟩
  .by_cases hj:j=i
   .subst hj
    rw [hi] at e1; cases e1
    rw [List.getElem?_set_self hiσ] at e2
    cases e2
    exact ⟨u,r,.inr ⟨.inl hk,c,hc,hc'⟩⟩
   .rw [List.getElem?_set_ne (Ne.symm hj)] at e2
    obtain ⟨u',r',q⟩:=hl j y v' e1 e2 e3
    refine ⟨u',r',?_⟩
    rcases q with q | ⟨k,c',e,z'⟩
    .exact .inl q
    .refine .inr ⟨k,c',e,z'.sameBut hs ?_⟩
     rintro rfl
     exact hj (ZgR hN e1 (I.ok.inj _ _ _ e hc ▸ hi))
  .by_cases hcc:c'=c
   .subst hcc; exact ⟨_,hc'⟩
   .obtain ⟨w2,z2⟩:=I.cell y c' e
    exact ⟨w2,z2.sameBut hs hcc⟩
  .obtain ⟨e,n,ne,nf,d⟩:=I.pin p hp
   refine ⟨(hs.2 p.1 ?_).trans e,n,ne,nf,d⟩
   intro q
   rw [q,hoc] at e
   have q':oc=p.2:=Option.some.inj e
   exact d w' (by rw [← q']; exact hocd)
theorem ZbY {M:Model} {A:Around} {E:Value->Shared->Prop} {i:Nat} {x:Str} {v:V} {u:Value} {Q:Unit->Shared->Prop} (I:Inv X pins σ H s) (hN:X.N.Nodup) (hi:X.N[i]?=some x) (hx:Loc X.env.scope x) (r:RelV v u)
  (h:∀ s',Inv X pins (σ.set i (some v)) H s'->Q () s') (hf:X.fn x=true\/X.env.scope.names.lookup x=some .local:=by first | exact .inl rfl | exact .inr rfl | assumption):wpAny M A (storeName X.env x u) Q E s :=
 Zfe I hN hi hx r (λs' I' _=>h s' I') hf
theorem Inv.call' {s':Shared} {ch:List Addr} (I:Inv X pins σ H s) (ho:s'.os=s.os) (u:Un (frs X.stack) ch H H' s.heap s'.heap) (hok:HOk X.prog X.w H' s'.heap) (hg:AllBare s'.gens)
  (hch:∀ b∈ch,(b∈X.ex\/X.s₀.heap.objs.size<=b)/\b≠X.env.locals/\(∀ x c,X.env.cells.lookup x=some c->c≠b)/\∀ p∈X.pn++pins,p.1≠b):Inv X pins σ H' s':=by
 obtain ⟨h',g',d',t',o'⟩:=s'
 have e:o'=s.os:=ho
 subst e
 exact I.call (g':=g') (t':=t') (d':=d') u hok hg hch
end
abbrev XK:=Value->Option Addr->Hp->Prop
abbrev St:=List (Option V)
abbrev VK:=V->Hp->Prop
abbrev TE:=St->Hp->VK->Prop
abbrev TT:=St->Hp->(Bool->Hp->Prop)->Prop
abbrev TA:=St->Hp->(List V->Hp->Prop)->Prop
structure Ends where
 nx:St->Hp->Prop
 rt:VK
 bk:St->Hp->Prop:=λ_ _=>False
 ct:St->Hp->Prop:=λ_ _=>False
abbrev TS:=Ends->St->Hp->Prop
def EP (X:Cx) (pins:List (Addr×Obj)) (σ:St) (Q:VK) (u:Value) (s':Shared):Prop:=∃ v H',Inv X pins σ H' s'/\RelV v u/\Q v H'
def TP (X:Cx) (pins:List (Addr×Obj)) (σ:St) (Q:Bool->Hp->Prop) (b:Bool) (s':Shared):Prop:=∃ H',Inv X pins σ H' s'/\Q b H'
def AP (X:Cx) (pins:List (Addr×Obj)) (σ:St) (Q:List V->Hp->Prop) (us:List Value) (s':Shared):Prop:=∃ vs H',Inv X pins σ H' s'/\Vals vs us/\Q vs H'
def SP (X:Cx) (pins:List (Addr×Obj)) (D:Ends) (f:Flow) (s':Shared):Prop :=
 match f with
 | .next=>∃ σ' H',Inv X pins σ' H' s'/\D.nx σ' H'
 | .brk=>∃ σ' H',Inv X pins σ' H' s'/\D.bk σ' H'
 | .cont=>∃ σ' H',Inv X pins σ' H' s'/\D.ct σ' H'
 | .ret u=>∃ v σ' H',Inv X pins σ' H' s'/\RelV v u/\D.rt v H'
def PE (X:Cx) (e:Expr) (t:TE):Prop :=
 ∀ (pins:List (Addr×Obj)) (s:Shared) (σ:St) (H:Hp) (Q:VK),Inv X pins σ H s->t σ H Q->wpAny (model X.prog X.w) X.A (eval e X.env) (EP X pins σ Q) X.xe s
def PT (X:Cx) (e:Expr) (t:TT):Prop :=
 ∀ (pins:List (Addr×Obj)) (s:Shared) (σ:St) (H:Hp) (Q:Bool->Hp->Prop),Inv X pins σ H s->t σ H Q->wpAny (model X.prog X.w) X.A (isTrue e X.env (eval e X.env)) (TP X pins σ Q) X.xe s
def PW (X:Cx) (e:Expr) (t:TT):Prop :=
 ∀ (whole:Sem Value) (pins:List (Addr×Obj)) (s:Shared) (σ:St) (H:Hp) (Q:Bool->Hp->Prop),Inv X pins σ H s->t σ H Q->wpAny (model X.prog X.w) X.A (isTrue e X.env whole) (TP X pins σ Q) X.xe s
theorem PW.pt {X:Cx} {e:Expr} {t:TT} (h:PW X e t):PT X e t:=h _
def PA (X:Cx) (es:List Expr) (t:TA):Prop :=
 ∀ (pos:Pos) (pins:List (Addr×Obj)) (s:Shared) (σ:St) (H:Hp) (Q:List V->Hp->Prop),Inv X pins σ H s->t σ H Q->wpAny (model X.prog X.w) X.A (spliced (backTo pos (starEach es X.env))) (AP X pins σ Q) X.xe s
def PS (X:Cx) (st:Stmt) (t:TS):Prop :=
 ∀ (pins:List (Addr×Obj)) (s:Shared) (σ:St) (H:Hp) (D:Ends),Inv X pins σ H s->t D σ H->wpAny (model X.prog X.w) X.A (exec st X.env) (SP X pins D) X.xe s
def PSs (X:Cx) (st:List Stmt) (t:TS):Prop :=
 ∀ (pins:List (Addr×Obj)) (s:Shared) (σ:St) (H:Hp) (D:Ends),Inv X pins σ H s->t D σ H->wpAny (model X.prog X.w) X.A (execs st X.env) (SP X pins D) X.xe s
theorem thn {α:Type} {t:Sem α} {Q Q':α->Shared->Prop} {M:Model} {A:Around} {E:Value->Shared->Prop} {s:Shared} (h:wpAny M A t Q E s) (hQ:∀ a s,Q a s->Q' a s):wpAny M A t Q' E s:=wpAny_mono h hQ λ_ _ x=>x
section
variable {X:Cx}
def tVar (i:Nat):TE:=λσ H Q=>∃ v,σ[i]?=some (some v)/\Q v H
def tC (v:V):TE:=λ_ H Q=>Q v H
theorem ZmZ {i:Nat} {x:Str} {pos:Pos} (hN:X.N[i]?=some x) (hv:Vis X.env.scope x) (hd:(x == ("__debug__" : Str))=false:=by decide) (hcd:(x == ("__classdict__" : Str))=false:=by decide):PE X (.Name x pos) (tVar i):=by
 intro pins s σ H Q I h
 obtain ⟨v,e,h⟩:=h
 obtain ⟨m,hn,hl⟩:=I.loc
 obtain ⟨u,r,l⟩:=hl i x v hN e hv
 have fin:EP X pins σ Q u s:=⟨v,H,I,r,h⟩
 rcases l with ⟨hk,hm⟩ | ⟨hk,c,hc,hcell⟩
 .exact wpAny_Name (wpAny_loadName_local I.ok.kind hk hn hm fin) hd
 .rcases hk with hk | hk
  .exact wpAny_Name (wpAny_loadName_cell I.ok.kind hk hc hcell fin) hd
  .exact wpAny_Name (wpAny_loadName_free I.ok.kind hk hc hcell fin hcd) hd
theorem Zi {i j pos}:PE X (.Constant (.int i) j pos) (tC (.int i)):=λ_ _ _ H _ I h=>wpAny_Constant_int ⟨.int i,H,I.tok _,⟨_,rfl⟩,h⟩
theorem pe_bl {b j pos}:PE X (.Constant (.bool b) j pos) (tC (.bl b)):=λ_ _ _ H _ I h=>Constant_bool ⟨.bl b,H,I,rfl,h⟩
theorem ZdY {j pos}:PE X (.Constant .none j pos) (tC .non):=λ_ _ _ H _ I h=>Constant_none ⟨.non,H,I,rfl,h⟩
theorem Zff {x j pos}:PE X (.Constant (.str x) j pos) (tC (.str x)):=λ_ _ _ H _ I h=>Calls.Constant_str ⟨.str x,H,I.tok _,⟨_,rfl⟩,h⟩
def Gl (X:Cx) (x:Str):Prop:=X.env.kindOf x=some .globalImplicit
theorem Ziw {E:Value->Shared->Prop} {pins:List (Addr×Obj)} {s:Shared} {σ:St} {H:Hp} {x:Str} {u:Value} {pos:Pos} {Q:Value->Shared->Prop} (I:Inv X pins σ H s) (hg:Gl X x) (hm:X.mg x=some u) (h:Q u s)
  (hd:(x == ("__debug__" : Str))=false:=by decide):wpAny (model X.prog X.w) X.A (eval (.Name x pos) X.env) Q E s :=
 Calls.Name_function_global I.ok.kind hg (Calls.loadGlobal_global (by rw [I.ok.glob]; exact I.mod.glob.keeps I.bk) hm h) hd
theorem ZbZ {E:Value->Shared->Prop} {pins:List (Addr×Obj)} {s:Shared} {σ:St} {H:Hp} {x:Str} {u:Value} {pos:Pos} {Q:Value->Shared->Prop} (I:Inv X pins σ H s) (hg:Gl X x) (hm:X.mg x=none) (hv:bootBuiltins x=some u) (h:Q u s)
  (hn:x ≠ "__name__" := by decide) (hd:(x == ("__debug__" : Str))=false:=by decide):wpAny (model X.prog X.w) X.A (eval (.Name x pos) X.env) Q E s:=by
 obtain ⟨mb,h1,h2⟩:=I.mod.blt
 exact Calls.Name_function_global I.ok.kind hg (Calls.loadGlobal_builtin (by rw [I.ok.glob]; exact I.mod.glob.keeps I.bk) hm (by rw [I.ok.blt]; exact h1.keeps I.bk) ((h2 x hn).trans hv) h) hd
theorem Zam {x:Str} {v:V} {u:Value} {pos:Pos} (hg:Gl X x) (hm:X.mg x=none) (hv:bootBuiltins x=some u) (r:RelV v u) (hn:x ≠ "__name__" := by decide) (hd:(x == ("__debug__" : Str))=false:=by decide):PE X (.Name x pos) (tC v) :=
 λ_ _ _ H _ I h=>ZbZ I hg hm hv ⟨v,H,I,r,h⟩ hn hd
variable {a b:Expr} {ta tb:TE} {pos:Pos}
def PC (X:Cx) (op:CmpOp) (a b:Expr) (t:TE):Prop :=
 ∀ (pins:List (Addr×Obj)) (s:Shared) (σ:St) (H:Hp) (Q:VK),Inv X pins σ H s->t σ H Q ->
  wpAny (model X.prog X.w) X.A (eval a X.env) (λv s₁=>wpAny (model X.prog X.w) X.A (eval b X.env) (λu s₂=>wpAny (model X.prog X.w) X.A (compareOp op v u) (EP X pins σ Q) X.xe s₂) X.xe s₁) X.xe s
theorem ZgS (b:Expr) {op:CmpOp} (h:op≠.In) (h2:op≠.NotIn):behindInMarks op b=false:=by
 have e1:(op == CmpOp.In)=false:=by cases op <;> first | rfl | exact absurd rfl h
 have e2:(op == CmpOp.NotIn)=false:=by cases op <;> first | rfl | exact absurd rfl h2
 cases b <;> simp [behindInMarks,e1,e2]
def tIsN (ta:TE):TE:=λσ H Q=>ta σ H λx H1=>Q (.bl (decide (x=.non))) H1
def tNotN (ta:TE):TE:=λσ H Q=>ta σ H λx H1=>Q (.bl (!decide (x=.non))) H1
theorem RelV.none_iff {x:V} {v:Value} (r:RelV x v):(v == Value.none)=decide (x=.non):=by
 cases x with
 | non=>cases r; rfl
 | bl _=>cases r; rfl
 | int _=>obtain ⟨t,rfl⟩:=r; rfl
 | str _=>obtain ⟨t,rfl⟩:=r; rfl
 | byt _=>obtain ⟨t,rfl⟩:=r; rfl
 | flt _=>obtain ⟨t,rfl⟩:=r; rfl
 | ref _=>cases r; rfl
 | ty _=>cases r; rfl
theorem Zix {j pos'} (ha:PE X a ta):PC X .Is a (.Constant .none j pos') (tIsN ta):=by
 intro pins s σ H Q I h
 refine thn (ha pins s σ H _ I h) λv s1 ⟨x,H1,I1,r1,q1⟩=>?_
 exact Constant_none (is_none_gen ⟨.bl _,H1,I1,by rw [r1.none_iff]; rfl,q1⟩)
theorem Ziy {j pos'} (ha:PE X a ta):PC X .IsNot a (.Constant .none j pos') (tNotN ta):=by
 intro pins s σ H Q I h
 refine thn (ha pins s σ H _ I h) λv s1 ⟨x,H1,I1,r1,q1⟩=>?_
 exact Constant_none (isnot_none_gen ⟨.bl _,H1,I1,by rw [r1.none_iff]; rfl,q1⟩)
def tB (t:TE):TT:=λσ H Q=>t σ H λx H1=>∃ c,x=.bl c/\Q c H1
theorem Zly {op:CmpOp} {t:TE} (h:PC X op a b t) (h1:behindInMarks op b=false:=by first | exact ZgS _ (by decide) (by decide) | rfl):PE X (.Compare a [op] [b] pos) t:=λpins s σ H Q I hw=>wpAny_Compare1 (h pins s σ H Q I hw) h1
theorem ZgT {op:CmpOp} {t:TE} (h:PC X op a b t) (h1:behindInMarks op b=false:=by first | exact ZgS _ (by decide) (by decide) | rfl):PT X (.Compare a [op] [b] pos) (tB t):=by
 intro pins s σ H Q I hw
 refine wpAny_isTrue_Compare1 (thn (h pins s σ H _ I hw) λv s1 h1=>thn h1 λu s2 h2=>thn h2 λc s3 ⟨x,H1,I1,r1,q1⟩=>?_) h1
 obtain ⟨d,rfl,q⟩:=q1
 cases r1
 exact wpAny_truthy_bool ⟨H1,I1,q⟩
theorem Zbn {e:Expr} {t:TE} (h:PE X e t) (he:∀ whole,isTrue e X.env whole=(do let v ← whole; standAt e.pos; holding [v] (truthy v)):=by intro _; rfl):PT X e (tB t):=by
 intro pins s σ H Q I hw
 refine isTrue_plain (thn (h pins s σ H _ I hw) λv s1 ⟨x,H1,I1,r1,q1⟩=>?_) (he _)
 obtain ⟨d,rfl,q⟩:=q1
 cases r1
 exact wpAny_truthy_bool ⟨H1,I1,q⟩
variable {tA tB':TT} {rest:List Expr}
def tAnd (t u:TT):TT:=λσ H Q=>t σ H λc H1=>if c=true then u σ H1 Q else Q false H1
def tOr (t u:TT):TT:=λσ H Q=>t σ H λc H1=>if c=true then Q true H1 else u σ H1 Q
def tNot (t:TT):TT:=λσ H Q=>t σ H λc H1=>Q (!c) H1
theorem ZbU (ha:PT X a tA):PW X (.BoolOp .And [a] pos) tA:=by
 intro wh pins s σ H Q I h
 refine isTrue_and (thn (ha pins s σ H Q I h) λc s1 e=>?_)
 cases c with
 | true=>exact isTrue_and_nil e
 | false=>exact e
theorem ZcF (ha:PT X a tA):PW X (.BoolOp .Or [a] pos) tA:=by
 intro wh pins s σ H Q I h
 refine isTrue_or (thn (ha pins s σ H Q I h) λc s1 e=>?_)
 cases c with
 | false=>exact isTrue_or_nil e
 | true=>exact e
theorem Zde (ha:PT X a tA) (hb:PW X (.BoolOp .And (b :: rest) pos) tB'):PW X (.BoolOp .And (a :: b :: rest) pos) (tAnd tA tB'):=by
 intro wh pins s σ H Q I h
 refine isTrue_and (thn (ha pins s σ H _ I h) λc s1 ⟨H1,I1,q1⟩=>?_)
 cases c with
 | true=>exact hb wh pins s1 σ H1 Q I1 q1
 | false=>exact ⟨H1,I1,q1⟩
theorem pw_or (ha:PT X a tA) (hb:PW X (.BoolOp .Or (b :: rest) pos) tB'):PW X (.BoolOp .Or (a :: b :: rest) pos) (tOr tA tB'):=by
 intro wh pins s σ H Q I h
 refine isTrue_or (thn (ha pins s σ H _ I h) λc s1 ⟨H1,I1,q1⟩=>?_)
 cases c with
 | true=>exact ⟨H1,I1,q1⟩
 | false=>exact hb wh pins s1 σ H1 Q I1 q1
theorem ZcG (ha:PT X a tA):PT X (.UnaryOp .Not a pos) (tNot tA):=by
 intro pins s σ H Q I h
 exact isTrue_not (ha pins s σ H (λc H1=>Q (!c) H1) I h)
def tAndV (ta tb:TE):TE:=λσ H Q=>ta σ H λx H1=>∃ c,x=.bl c/\if c=true then tb σ H1 Q else Q (.bl false) H1
def tNotV (ta:TE):TE:=λσ H Q=>ta σ H λx H1=>∃ c,x=.bl c/\Q (.bl (!c)) H1
theorem ZdZ {op} {t:TE} (h:PE X a t):PE X (.BoolOp op [a] pos) t:=λpins s σ H Q I hw=>BoolOp_one (h pins s σ H Q I hw)
theorem Zdf (ha:PE X a ta) (hb:PE X (.BoolOp .And (b :: rest) pos) tb):PE X (.BoolOp .And (a :: b :: rest) pos) (tAndV ta tb):=by
 intro pins s σ H Q I h
 refine BoolOp_and (thn (ha pins s σ H _ I h) λv s1 ⟨x,H1,I1,r1,q1⟩=>?_)
 obtain ⟨c,rfl,q1⟩:=q1
 cases r1
 refine wpAny_truthy_bool ?_
 cases c with
 | true=>exact hb pins s1 σ H1 Q I1 q1
 | false=>exact ⟨.bl false,H1,I1,rfl,q1⟩
theorem Zna (ha:PE X a ta):PE X (.UnaryOp .Not a pos) (tNotV ta):=by
 intro pins s σ H Q I h
 refine UnaryOp_ (thn (ha pins s σ H _ I h) λv s1 ⟨x,H1,I1,r1,q1⟩=>?_)
 obtain ⟨c,rfl,q1⟩:=q1
 cases r1
 exact not_of (wpAny_truthy_bool ⟨.bl (!c),H1,I1,rfl,q1⟩)
def tIf (t:TT) (ta tb:TE):TE:=λσ H Q=>t σ H λc H1=>if c=true then ta σ H1 Q else tb σ H1 Q
theorem ZaC {c:Expr} (hc:PT X c tA) (ha:PE X a ta) (hb:PE X b tb):PE X (.IfExp c a b pos) (tIf tA ta tb):=by
 intro pins s σ H Q I h
 refine wpAny_IfExp (thn (hc pins s σ H _ I h) λd s1 ⟨H1,I1,q1⟩=>?_)
 cases d with
 | true=>exact ha pins s1 σ H1 Q I1 q1
 | false=>exact hb pins s1 σ H1 Q I1 q1
end
def SqL (K:W.Frag) (H:Hp) (a:Addr) (xs:List V):Prop :=
 Rd H a (.lst xs) \/
  ∃ (o:Obj) (its:Array Value) (n:Nat),K.lookup a=some o/\o.cls=.type "list" /\ o.dict=none/\o.data=.seq its n/\its.size<=sizeLine/\Vals xs its.toList
def SqT (K:W.Frag) (H:Hp) (a:Addr) (xs:List V):Prop :=
 Rd H a (.tup xs) \/
  ∃ (o:Obj) (its:Array Value) (n:Nat),K.lookup a=some o/\o.cls=.type "tuple" /\ o.data=.seq its n/\its.size<=sizeLine/\Vals xs its.toList
def absV:Value->Option V
 | .none=>some .non
 | .bool b=>some (.bl b)
 | .int i _=>some (.int i)
 | .str x _=>some (.str x)
 | .bytes b _=>some (.byt b)
 | .float b _=>some (.flt b)
 | .ref a=>some (.ref a)
 | .type n=>some (.ty n)
 | _=>none
theorem RelV.abs {x:V} {u:Value} (r:RelV x u):absV u=some x:=by
 cases x with
 | non=>cases r; rfl
 | bl _=>cases r; rfl
 | int _=>obtain ⟨t,rfl⟩:=r; rfl
 | str _=>obtain ⟨t,rfl⟩:=r; rfl
 | byt _=>obtain ⟨t,rfl⟩:=r; rfl
 | flt _=>obtain ⟨t,rfl⟩:=r; rfl
 | ref _=>cases r; rfl
 | ty _=>cases r; rfl
theorem RelV.inj {x y:V} {u:Value} (r:RelV x u) (q:RelV y u):x=y:=Option.some.inj (r.abs.symm.trans q.abs)
theorem Vals.inj:∀ {xs ys:List V} {us:List Value},Vals xs us->Vals ys us->xs=ys
 | _,_,_,.nil,.nil=>rfl
 | _,_,_,.cons r t,.cons r' t'=>by rw [r.inj r',Vals.inj t t']
section
variable {X:Cx} {pins:List (Addr×Obj)} {σ:St} {H:Hp} {s:Shared} {a:Addr} {xs ys:List V}
theorem SqL.of {K:W.Frag} (h:H a=some (.lst xs)):SqL K H a xs:=.inl (.inl h)
theorem SqT.of {K:W.Frag} (h:H a=some (.tup xs)):SqT K H a xs:=.inl (.inl h)
theorem Inv.list (I:Inv X pins σ H s) (h:SqL X.K H a xs):∃ its:List Value,Vals xs its/\PlainL s.heap a its.toArray/\xs.length<=sizeLine:=by
 rcases h with h | ⟨o,its,n,hk,hc,hd,hs,hz,r⟩
 .obtain ⟨z,its,n,r,e⟩:=h.ok I.hok
  exact ⟨its,r,⟨_,n,e,rfl,rfl,rfl⟩,z⟩
 .refine ⟨its.toList,r,⟨o,n,I.kIn a o hk,hc,hd,by simpa using hs⟩,?_⟩
  have e:=r.length
  simp only [Array.length_toList] at e
  omega
theorem Inv.tuple (I:Inv X pins σ H s) (h:SqT X.K H a xs):∃ its:List Value,Vals xs its/\IsTup s.heap a its.toArray/\xs.length<=sizeLine:=by
 rcases h with h | ⟨o,its,n,hk,hc,hs,hz,r⟩
 .obtain ⟨z,its,r,p⟩:=h.ok I.hok
  exact ⟨its,r,p,z⟩
 .refine ⟨its.toList,r,⟨o,I.kIn a o hk,hc,n,by simpa using hs⟩,?_⟩
  have e:=r.length
  simp only [Array.length_toList] at e
  omega
theorem Inv.list_inj (I:Inv X pins σ H s) (h:SqL X.K H a xs) (h':SqL X.K H a ys):xs=ys:=by
 obtain ⟨its,r,⟨o,n,e,_,_,d⟩,_⟩:=I.list h
 obtain ⟨its',r',⟨o',n',e',_,_,d'⟩,_⟩:=I.list h'
 rw [e] at e'; cases e'
 rw [d] at d'
 injection d' with d1 _
 have:its=its':=by simpa using congrArg Array.toList d1
 subst this
 exact r.inj r'
theorem Inv.tuple_inj (I:Inv X pins σ H s) (h:SqT X.K H a xs) (h':SqT X.K H a ys):xs=ys:=by
 obtain ⟨its,r,⟨o,e,_,n,d⟩,_⟩:=I.tuple h
 obtain ⟨its',r',⟨o',e',_,n',d'⟩,_⟩:=I.tuple h'
 rw [e] at e'; cases e'
 rw [d] at d'
 injection d' with d1 _
 have:its=its':=by simpa using congrArg Array.toList d1
 subst this
 exact r.inj r'
end
abbrev Cx.wish (X:Cx) (E:Value->Shared->Prop):Cx:={ X with xe:=E }
abbrev Cx.nox (X:Cx):Cx:=X.wish λ_ _=>False
theorem Cx.Ok.wish {X:Cx} (ok:X.Ok) (E:Value->Shared->Prop):(X.wish E).Ok :=
 ⟨ok.mod,ok.kind,ok.glob,ok.blt,ok.above,ok.inj,ok.has,ok.cab,ok.hd,ok.frames,ok.stk,ok.exf,ok.bs,ok.bsz,ok.noex,ok.exfs,ok.funs,ok.frf⟩
theorem Cx.Ok.unwish {X:Cx} {E:Value->Shared->Prop} (ok:(X.wish E).Ok):X.Ok :=
 ⟨ok.mod,ok.kind,ok.glob,ok.blt,ok.above,ok.inj,ok.has,ok.cab,ok.hd,ok.frames,ok.stk,ok.exf,ok.bs,ok.bsz,ok.noex,ok.exfs,ok.funs,ok.frf⟩
section
variable {X:Cx} {pins:List (Addr×Obj)} {σ:St} {H:Hp} {s:Shared} {E:Value->Shared->Prop}
theorem Inv.wish (I:Inv X pins σ H s) (E:Value->Shared->Prop):Inv (X.wish E) pins σ H s:=⟨I.ok.wish E,I.os,I.bare,I.base,I.loc,I.cell,I.free,I.freeC,I.pin,I.hok,I.len⟩
theorem Inv.unwish (I:Inv (X.wish E) pins σ H s):Inv X pins σ H s:=⟨I.ok.unwish,I.os,I.bare,I.base,I.loc,I.cell,I.free,I.freeC,I.pin,I.hok,I.len⟩
theorem SP.unwish {D:Ends} {f:Flow} {s':Shared} (h:SP (X.wish E) pins D f s'):SP X pins D f s':=by
 cases f with
 | next=>obtain ⟨σ',H',I,q⟩:=h; exact ⟨σ',H',I.unwish,q⟩
 | brk=>obtain ⟨σ',H',I,q⟩:=h; exact ⟨σ',H',I.unwish,q⟩
 | cont=>obtain ⟨σ',H',I,q⟩:=h; exact ⟨σ',H',I.unwish,q⟩
 | ret u=>obtain ⟨v,σ',H',I,r,q⟩:=h; exact ⟨v,σ',H',I.unwish,r,q⟩
theorem PSs.nox {st:List Stmt} {t:TS} (h:PSs X.nox st t):PSs X st t:=λpins s σ H D I hw =>
 wpAny_mono (h pins s σ H D (I.wish _) hw) (λ_ _ q=>q.unwish) λ_ _ z=>False.elim z
end
section
variable {X:Cx} {st:Stmt} {rest:List Stmt} {t u:TS} {e:Expr} {te:TE} {pos:Pos}
def tNext:TS:=λD σ H=>D.nx σ H
def tSeq (t u:TS):TS:=λD σ H=>t { D with nx:=u D } σ H
theorem Zy:PSs X [] tNext:=λ_ _ σ H _ I h=>wpAny_execs_nil ⟨σ,H,I,h⟩
theorem Zf (h1:PS X st t) (h2:PSs X rest u):PSs X (st :: rest) (tSeq t u):=by
 intro pins s σ H D I h
 refine wpAny_execs_cons (thn (h1 pins s σ H { D with nx:=u D } I h) λf s1 q=>?_)
 cases f with
 | next =>
  obtain ⟨σ',H',I',q⟩:=q
  exact h2 pins s1 σ' H' D I' q
 | ret v=>exact q
 | brk=>exact q
 | cont=>exact q
theorem Zj (h1:PS X st t):PSs X [st] t:=by
 intro pins s σ H D I h
 refine wpAny_execs_cons (thn (h1 pins s σ H D I h) λf s1 q=>?_)
 cases f with
 | next=>exact wpAny_execs_nil q
 | ret v=>exact q
 | brk=>exact q
 | cont=>exact q
theorem Inv.quiet {pins:List (Addr×Obj)} {σ:St} {H:Hp} {s:Shared} (I:Inv X pins σ H s):interactive X.env=false:=by simp [interactive,I.ok.kind]
def tDrop (te:TE):TS:=λD σ H=>te σ H λ_ H1=>D.nx σ H1
theorem ZA (he:PE X e te) (hs:swapsWith e none pos.line X.env=pure false:=by rfl):PS X (.Expr e pos) (tDrop te):=by
 intro pins s σ H D I h
 exact wpAny_Expr_any (thn (he pins s σ H _ I h) λv s1 ⟨x,H1,I1,r1,q1⟩=>⟨σ,H1,I1,q1⟩) I.quiet hs
def tRet (te:TE):TS:=λD σ H=>te σ H D.rt
theorem Zu (he:PE X e te):PS X (.Return (some e) pos) (tRet te):=by
 intro pins s σ H D I h
 exact wpAny_Return_some (thn (he pins s σ H _ I h) λv s1 ⟨x,H1,I1,r1,q1⟩=>⟨x,σ,H1,I1,r1,q1⟩)
def tIfS (c:TT) (t u:TS):TS:=λD σ H=>c σ H λb H1=>if b=true then t D σ H1 else u D σ H1
theorem ps_if {c:Expr} {a b:List Stmt} {tc:TT} (hc:PT X c tc) (ha:PSs X a t) (hb:PSs X b u):PS X (.If c a b pos) (tIfS tc t u):=by
 intro pins s σ H D I h
 refine wpAny_If (thn (hc pins s σ H _ I h) λd s1 ⟨H1,I1,q1⟩=>?_)
 cases d with
 | true=>exact ha pins s1 σ H1 D I1 q1
 | false=>exact hb pins s1 σ H1 D I1 q1
end
abbrev TG:=V->St->Hp->(St->Hp->Prop)->Prop
abbrev TGs:=List V->St->Hp->(St->Hp->Prop)->Prop
def PG (X:Cx) (target:Expr) (t:TG):Prop :=
 ∀ (pins:List (Addr×Obj)) (s:Shared) (σ:St) (H:Hp) (v:V) (u:Value) (Q:St->Hp->Prop),Inv X pins σ H s->RelV v u->t v σ H Q ->
  wpAny (model X.prog X.w) X.A (assign target X.env u) (λ_ s'=>∃ σ' H',Inv X pins σ' H' s'/\Q σ' H') X.xe s
def PGs (X:Cx) (ts:List Expr) (t:TGs):Prop :=
 ∀ (pins:List (Addr×Obj)) (s:Shared) (σ:St) (H:Hp) (vs:List V) (us:List Value) (Q:St->Hp->Prop),Inv X pins σ H s->Vals vs us->t vs σ H Q ->
  wpAny (model X.prog X.w) X.A (assignInOrder ((assignEach ts X.env).map (·.2)) us) (λ_ s'=>∃ σ' H',Inv X pins σ' H' s'/\Q σ' H') X.xe s
abbrev TSet:=V->V->V->Hp->(Hp->Prop)->Prop
def PSet (X:Cx) (t:TSet):Prop :=
 ∀ (pins:List (Addr×Obj)) (s:Shared) (σ:St) (H:Hp) (o i v:V) (ov iv u:Value) (Q:Hp->Prop),Inv X pins σ H s->RelV o ov->RelV i iv->RelV v u->t o i v H Q ->
  wpAny (model X.prog X.w) X.A (setItem ov iv u) (λ_ s'=>∃ H',Inv X pins σ H' s'/\Q H') X.xe s
abbrev TIp:=V->V->Hp->VK->Prop
def PIp (X:Cx) (op:Operator) (t:TIp):Prop :=
 ∀ (pins:List (Addr×Obj)) (s:Shared) (σ:St) (H:Hp) (x y:V) (v u:Value) (Q:VK),Inv X pins σ H s->RelV x v->RelV y u->t x y H Q ->
  wpAny (model X.prog X.w) X.A (inplaceOp op v u) (EP X pins σ Q) X.xe s
section
variable {X:Cx} {pos:Pos}
def gName (i:Nat):TG:=λv σ H Q=>Q (σ.set i (some v)) H
theorem Zme {i:Nat} {x:Str} (hN:X.N.Nodup) (hi:X.N[i]?=some x) (hx:Loc X.env.scope x) (hf:X.fn x=true\/X.env.scope.names.lookup x=some .local:=by first | exact .inl rfl | exact .inr rfl | assumption):PG X (.Name x pos) (gName i):=by
 intro pins s σ H v u Q I r h
 exact wpAny_assign_Name (ZbY I hN hi hx r (λs' I'=>⟨_,H,I',h⟩) hf)
def gNil:TGs:=λvs σ H Q=>vs=[]/\Q σ H
def gCons (t:TG) (u:TGs):TGs:=λvs σ H Q=>∃ v r,vs=v :: r/\t v σ H λσ' H'=>u r σ' H' Q
theorem Zan:PGs X [] gNil:=by
 intro pins s σ H vs us Q I r h
 obtain ⟨e,h⟩:=h
 subst e
 cases r
 exact assignInOrder_nil ⟨σ,H,I,h⟩
theorem Zt {e:Expr} {es:List Expr} {t:TG} {u:TGs} (h1:PG X e t) (h2:PGs X es u)
  (hs:(assignEach (e :: es) X.env).map (·.2)=assign e X.env :: (assignEach es X.env).map (·.2):=by rfl):PGs X (e :: es) (gCons t u):=by
 intro pins s σ H vs us Q I r h
 obtain ⟨v,vr,e1,h⟩:=h
 subst e1
 cases r with
 | cons r rr =>
  rw [hs]
  refine assignInOrder_cons (thn (h1 pins s σ H _ _ _ I r h) λ_ s1 ⟨σ1,H1,I1,q1⟩=>?_)
  exact h2 pins s1 σ1 H1 _ _ Q I1 rr q1
def gTup (K:W.Frag) (n:Nat) (t:TGs):TG:=λv σ H Q=>∃ a xs,v=.ref a/\SqT K H a xs/\xs.length=n/\t xs σ H Q
theorem Znb {es:List Expr} {k:Nat} {t:TGs} {n:Nat} (hc:X.calm=true) (h:PGs X es t)
  (hn:(assignEach es X.env).length=n:=by rfl) (hst:(assignEach es X.env).findIdx? (·.1)=none:=by rfl):PG X (.Tuple es k pos) (gTup X.K n t):=by
 intro pins s σ H v u Q I r hw
 obtain ⟨a,xs,e1,hq,hl,hw⟩:=hw
 subst e1
 cases r
 obtain ⟨its,rv,ht,hz⟩:=I.tuple hq
 refine assign_Tuple_tuple (I.ok.hd hc) ht (by simp [hn,← hl,rv.length]) hst λh' hx=>?_
 have I1:Inv X pins σ H { s with heap:=h' }:=I.kept (t':=s.toks) λb o e=>hx b o (Nat.ne_of_lt (Heap.lt_size e)) e
 exact h pins _ σ H xs _ Q I1 (by simpa using rv) hw
def gSub (to ti:TE) (t:TSet):TG:=λv σ H Q=>to σ H λo H1=>ti σ H1 λi H2=>t o i v H2 λH3=>Q σ H3
theorem Zea {o i:Expr} {to ti:TE} {t:TSet} (ho:PE X o to) (hi:PE X i ti) (hs:PSet X t)
  (ha:∀ v,assign (.Subscript o i pos) X.env v=(do
   let ov ← holding [v] (eval o X.env)
   let iv ← holding [v,ov] (eval i X.env)
   standAt pos
   holding [v,ov,iv] (setItem ov iv v)
   release [v,ov,iv] []):=by intro _; rfl):PG X (.Subscript o i pos) (gSub to ti t):=by
 intro pins s σ H v u Q I r h
 rw [ha]
 refine wpAny_bind (wpAny_holding (thn (ho pins s σ H _ I h) λov s1 ⟨x,H1,I1,r1,q1⟩=>?_))
 refine wpAny_bind (wpAny_holding (thn (hi pins s1 σ H1 _ I1 q1) λiv s2 ⟨y,H2,I2,r2,q2⟩=>?_))
 refine wpAny_bind (wpAny_standAt (wpAny_bind (wpAny_holding (thn (hs pins s2 σ H2 x y v ov iv u _ I2 r1 r2 r q2) λ_ s3 ⟨H3,I3,q3⟩=>?_))))
 exact wpAny_release ⟨σ,H3,I3,q3⟩
def tAsg (te:TE) (g:TG):TS:=λD σ H=>te σ H λx H1=>g x σ H1 D.nx
theorem Zca {tg e:Expr} {te:TE} {g:TG} (he:PE X e te) (hg:PG X tg g) (hs:swapsWithSole [tg] e pos.line X.env=pure false:=by rfl) (hw:swappedStores [tg] e X.env=pure none:=by rfl)
  (h1:(assignEach [tg] X.env).map (·.2)=[assign tg X.env]:=by rfl):PS X (.Assign [tg] e pos) (tAsg te g):=by
 intro pins s σ H D I h
 refine wpAny_Assign_stores (thn (he pins s σ H _ I h) λv s1 ⟨x,H1,I1,r1,q1⟩=>?_) hs hw
 rw [h1]
 exact thn (hg pins s1 σ H1 x v _ I1 r1 q1) λ_ s2 q=>q
theorem Znc {i:Nat} {x:Str} {e:Expr} {te:TE} {pos':Pos} (hN:X.N.Nodup) (hi:X.N[i]?=some x) (hx:Loc X.env.scope x) (he:PE X e te) (hs:swapsWith e (some (.Name x pos')) pos.line X.env=pure false:=by rfl) (hf:X.fn x=true\/X.env.scope.names.lookup x=some .local:=by first | exact .inl rfl | exact .inr rfl | assumption) :
  PS X (.Assign [.Name x pos'] e pos) (tAsg te (gName i)):=by
 intro pins s σ H D I h
 refine wpAny_Assign_Name (thn (he pins s σ H _ I h) λv s1 ⟨y,H1,I1,r1,q1⟩=>?_) hs
 exact ZbY I1 hN hi hx r1 (λs2 I2=>⟨_,H1,I2,q1⟩) hf
def tPar (i j:Nat) (ta:TA):TS:=λD σ H=>ta σ H λvs H1=>∃ v w,vs=[v,w]/\D.nx ((σ.set i (some v)).set j (some w)) H1
theorem Ziz {i j:Nat} {x y:Str} {a b:Expr} {ta:TA} {px py pt:Pos} {kt k2 pt2} (hc:X.calm=true) (hN:X.N.Nodup) (hi:X.N[i]?=some x) (hj:X.N[j]?=some y) (hij:i≠j)
  (hx:X.env.scope.names.lookup x=some .local) (hy:X.env.scope.names.lookup y=some .local) (ha:PA X [a,b] ta)
  (hw:swappedStores [.Tuple [.Name x px,.Name y py] kt pt] (.Tuple [a,b] k2 pt2) X.env=pure (some [x,y]))
  (hs:swapsWithSole [.Tuple [.Name x px,.Name y py] kt pt] (.Tuple [a,b] k2 pt2) pos.line X.env=pure false:=by rfl) :
  PS X (.Assign [.Tuple [.Name x px,.Name y py] kt pt] (.Tuple [a,b] k2 pt2) pos) (tPar i j ta):=by
 intro pins s σ H D I h
 rw [exec_Assign_arm]
 refine wpAny_bind (wpAny_standAt ?_)
 rw [hs]
 refine wpAny_bind (wpAny_pure ?_)
 rw [if_neg (by decide)]
 refine wpAny_bind (Tuple_ (thn (ha _ pins s σ H _ I h) λus s1 ⟨vs,H1,I1,r1,q1⟩=>?_))
 obtain ⟨v,w,e1,q1⟩:=q1
 subst e1
 obtain ⟨u1,u2,rfl,rv,rw'⟩:∃ u1 u2,us=[u1,u2]/\RelV v u1/\RelV w u2:=by
  cases r1 with
  | cons p q =>
   cases q with
   | cons p' q' =>
    cases q'
    exact ⟨_,_,rfl,p,p'⟩
 refine wpAny_newObj_type ?_ (by show 2<=sizeLine; decide)
 have I2:Inv X pins σ H1 { s1 with heap:=s1.heap.push { cls:=.type "tuple",data:=.seq [u1,u2].toArray } }:=I1.kept (t':=s1.toks) λb o e=>Heap.get?_push_of_some _ e
 rw [hw]
 refine wpAny_bind (wpAny_pure ?_)
 show wpAny (model X.prog X.w) X.A (do rule "assign.swapped-stores"; let items ← unpackItems (.ref s1.heap.objs.size) 2 none; assignInOrder [λv=>bindName X.env y v,λv=>bindName X.env x v] items.reverse; pure Flow.next) _ _ _
 refine wpAny_bind (wpAny_rule (wpAny_bind (unpackItems_tuple (items:=#[u1,u2]) (I.ok.hd hc) (IsTup.new s1.heap _) λh' hx'=>?_)))
 have I3:=I2.kept (h':=h') (t':=s1.toks) λb o e=>hx' b o (Nat.ne_of_lt (Heap.lt_size e)) e
 show wpAny _ _ (assignInOrder [λv=>bindName X.env y v,λv=>bindName X.env x v] [u2,u1] >>= λ_=>pure Flow.next) _ _ _
 refine wpAny_bind (assignInOrder_cons (wpAny_bindName (ZbY I3 hN hj (.inl hy) rw' (λs2 I4=>?_) (.inr hy))))
 refine assignInOrder_cons (wpAny_bindName (ZbY I4 hN hi (.inl hx) rv (λs3 I5=>assignInOrder_nil (wpAny_pure ?_)) (.inr hx)))
 rw [List.set_comm _ _ (Ne.symm hij)] at I5
 exact ⟨_,H1,I5,q1⟩
def tAug (i:Nat) (te:TE) (ti:TIp):TS:=λD σ H=>∃ x,σ[i]?=some (some x)/\te σ H λy H1=>ti x y H1 λz H2=>D.nx (σ.set i (some z)) H2
theorem ZiA {i:Nat} {x:Str} {e:Expr} {te:TE} {op:Operator} {ti:TIp} {pos':Pos} (hN:X.N.Nodup) (hi:X.N[i]?=some x) (hx:Loc X.env.scope x) (he:PE X e te) (ho:PIp X op ti) (hf:X.fn x=true\/X.env.scope.names.lookup x=some .local:=by first | exact .inl rfl | exact .inr rfl | assumption) :
  PS X (.AugAssign (.Name x pos') op e pos) (tAug i te ti):=by
 intro pins s σ H D I h
 obtain ⟨v,e1,h⟩:=h
 obtain ⟨m,hn,hl⟩:=I.loc
 have vis:Vis X.env.scope x:=by rcases hx with k | k; exact .inl k; exact .inr (.inl k)
 obtain ⟨u,r,l⟩:=hl i x v hi e1 vis
 refine wpAny_AugAssign_Name ?_
 have go:wpAny (model X.prog X.w) X.A (eval e X.env) (λw s₂=>wpAny (model X.prog X.w) X.A (inplaceOp op u w) (λr s₃=>wpAny (model X.prog X.w) X.A (storeName X.env x r) (λ_=>SP X pins D .next) X.xe s₃) X.xe s₂) X.xe s:=by
  refine thn (he pins s σ H _ I h) λw s1 ⟨y,H1,I1,r1,q1⟩=>?_
  refine thn (ho pins s1 σ H1 v y u w _ I1 r r1 q1) λz s2 ⟨zv,H2,I2,r2,q2⟩=>?_
  exact ZbY I2 hN hi hx r2 (λs3 I3=>⟨_,H2,I3,q2⟩) hf
 rcases l with ⟨hk,hm⟩ | ⟨hk,c,hc,hcell⟩
 .exact wpAny_loadName_local I.ok.kind hk hn hm go
 .rcases hk with hk | hk
  .exact wpAny_loadName_cell I.ok.kind hk hc hcell go
  .rcases hx with k | k
   .have:X.env.scope.names.lookup x=some .free:=hk
    rw [k] at this; cases this
   .have:X.env.scope.names.lookup x=some .free:=hk
    rw [k] at this; cases this
def ipI (f:Int->Int->Int):TIp:=λx y H Q=>∃ i j,x=.int i/\y=.int j/\Q (.int (f i j)) H
theorem Zlz:PIp X .Add (ipI λi j=>i+j):=by
 intro pins s σ H x y v u Q I r1 r2 h
 obtain ⟨i,j,e1,e2,q⟩:=h
 subst e1; subst e2
 obtain ⟨t,rfl⟩:=r1
 obtain ⟨t',rfl⟩:=r2
 exact iadd_int ⟨.int _,H,I.tok _,⟨_,rfl⟩,q⟩
end
section
variable {X:Cx} {pos:Pos}
def Znd (c:TT) (tb:TS):TS:=λD σ H=>∃ W:Nat->St->Hp->Prop,(∃ m,W m σ H)/\∀ m σ H,W m σ H ->
 c σ H λb H1=>if b=true then ∃ N:St->Hp->Prop,(∀ σ' H',N σ' H'->∃ m',m'<m/\W m' σ' H')/\tb { D with nx:=N,ct:=N,bk:=D.nx } σ H1 else D.nx σ H1
theorem Zku {c:Expr} {body:List Stmt} {tc:TT} {tb:TS} (hp:PassesOwn (model X.prog X.w) X.A X.env X.xe) (hc:PT X c tc) (hb:PSs X body tb):PS X (.While c body [] pos) (Znd tc tb):=by
 intro pins s σ H D I h
 obtain ⟨W,⟨m0,w0⟩,turn⟩:=h
 refine wpAny_While (codeAny_whileLoop (λn s'=>∃ σ' H',Inv X pins σ' H' s'/\W n σ' H') ?_ m0 ⟨σ,H,I,w0⟩)
 rintro n s1 ⟨σ1,H1,I1,w1⟩
 refine wpAny_passesOwn hp (thn (hc pins s1 σ1 H1 _ I1 (turn n σ1 H1 w1)) λb s2 ⟨H2,I2,q2⟩=>?_)
 cases b with
 | true =>
  obtain ⟨N,hN,q2⟩:=q2
  rw [if_pos rfl]
  refine wpAny_passesOwn hp (thn (hb pins s2 σ1 H2 _ I2 q2) λf s3 q3=>?_)
  cases f with
  | next =>
   obtain ⟨σ3,H3,I3,n3⟩:=q3
   obtain ⟨m',hm,w3⟩:=hN σ3 H3 n3
   exact ⟨m',hm,σ3,H3,I3,w3⟩
  | cont =>
   obtain ⟨σ3,H3,I3,n3⟩:=q3
   obtain ⟨m',hm,w3⟩:=hN σ3 H3 n3
   exact ⟨m',hm,σ3,H3,I3,w3⟩
  | brk=>exact q3
  | ret v=>exact q3
 | false =>
  rw [if_neg Bool.false_ne_true]
  exact wpAny_execs_nil ⟨σ1,H2,I2,q2⟩
end
structure It where
 go:Nat->Hp->Prop
 yld:Nat->Hp->V->Hp->Prop
 stop:Nat->Hp->Prop
def FpOk (X:Cx) (pins:List (Addr×Obj)) (H:Hp) (b:Addr):Prop :=
 H b=none/\b≠X.env.locals/\b∉X.fs/\(b∈X.ex\/X.s₀.heap.objs.size<=b)/\(∀ x c,X.env.cells.lookup x=some c->c≠b)/\∀ p∈X.pn++pins,p.1≠b
theorem Inv.fpOk {X:Cx} {pins:List (Addr×Obj)} {σ:St} {H H':Hp} {s:Shared} {b:Addr} (I:Inv X pins σ H s) (hb:s.heap.objs.size<=b) (hn:H' b=none):FpOk X pins H' b:=by
 refine ⟨hn,Nat.ne_of_gt (Nat.lt_of_lt_of_le I.lt hb),I.nofs hb,.inr (Nat.le_trans I.sz hb),λx c e z=>?_,λp hp z=>?_⟩
 .obtain ⟨v,q⟩:=I.cell x c e
  exact absurd (Nat.lt_of_lt_of_le q.lt (by rw [z]; exact hb)) (Nat.lt_irrefl _)
 .exact absurd (Nat.lt_of_lt_of_le (Heap.lt_size (I.pin p hp).1) (by rw [z]; exact hb)) (Nat.lt_irrefl _)
structure Turn (P:Program) (w:World) (K:W.Frag) (tg:Expr) (J:It) (fp:List Addr) (it:Addr) (tn:Nat->Heap->Prop):Prop where
 mem:it∈fp
 obj:∀ i h,tn i h->∀ b∈fp,∃ o,h.get? b=some o/\∀ v,o.data≠.cell v
 keep:∀ i h h',tn i h->(∀ b∈fp,∀ o,h.get? b=some o->h'.get? b=some o)->tn i h'
 item:∀ (X:Cx),X.prog=P->X.w=w->X.K=K->X.calm=true->∀ (i:Nat) (pins:List (Addr×Obj)) (s:Shared) (σ:St) (H:Hp) (E:Value->Shared->Prop),Inv X pins σ H s->(∀ b∈fp,FpOk X pins H b)->tn i s.heap->J.go i H ->
  wpAny (model P w) X.A (pyNext (.ref it)) (λr s1=>∃ u,r=some u /\
   wpAny (model P w) X.A (letOwnedTupleGo tg (.ref it) u) (λ_ s2=>∃ x H',Inv X pins σ H' s2/\RelV x u/\J.yld i H x H'/\tn (i+1) s2.heap/\∀ b∈fp,H' b=none) E s1) E s
 done:∀ (X:Cx),X.prog=P->X.w=w->X.K=K->X.calm=true->∀ (i:Nat) (pins:List (Addr×Obj)) (s:Shared) (σ:St) (H:Hp) (E:Value->Shared->Prop),Inv X pins σ H s->(∀ b∈fp,FpOk X pins H b)->tn i s.heap->J.stop i H ->
  wpAny (model P w) X.A (pyNext (.ref it)) (λr s1=>r=none/\Inv X pins σ H s1) E s
 self:∀ (A:Around) (i:Nat) (s:Shared) (Q:Value->Shared->Prop) (E:Value->Shared->Prop),tn i s.heap->Q (.ref it) s->wpAny (model P w) A (pyIter (.ref it)) Q E s
abbrev TI:=St->Hp->(It->Hp->Prop)->Prop
def PIE (X:Cx) (pins:List (Addr×Obj)) (σ:St) (tg:Expr) (R:It->Hp->Prop) (itv:Value) (s2:Shared):Prop :=
 ∃ (it:Addr) (fp:List Addr) (tn:Nat->Heap->Prop) (J:It) (H':Hp),itv=.ref it/\Inv X pins σ H' s2/\Turn X.prog X.w X.K tg J fp it tn/\tn 0 s2.heap/\(∀ b∈fp,FpOk X pins H' b)/\R J H'
def PI (X:Cx) (tg iter:Expr) (wi:TI):Prop :=
 ∀ (pins:List (Addr×Obj)) (s:Shared) (σ:St) (H:Hp) (R:It->Hp->Prop),Inv X pins σ H s->wi σ H R ->
  wpAny (model X.prog X.w) X.A (eval iter X.env) (λv s1=>wpAny (model X.prog X.w) X.A (pyIter v) (PIE X pins σ tg R) X.xe s1) X.xe s
theorem go_of {M:Model} {A:Around} {E:Value->Shared->Prop} {s:Shared} {tg:Expr} {it:Addr} {u:Value} {o:Obj} {n:String} {vs:Array Value} {Q:Unit->Shared->Prop} (ho:s.heap.get? it=some o) (hc:o.cls=.type n) (hd:o.data=.fields vs)
  (hn:["enumerate", "zip", "dict_itemiterator", "dict_reverseitemiterator", "odict_iterator", "itertools.zip_longest", "itertools.pairwise"].contains n=false) (hQ:Q () s):wpAny M A (letOwnedTupleGo tg (.ref it) u) Q E s:=by
 unfold letOwnedTupleGo
 cases tg <;> first
  | exact wpAny_pure hQ
  | (cases u <;> first
    | exact wpAny_pure hQ
    | (refine wpAny_bind (wpAny_load ho ?_)
       rw [hc,hd]
       show wpAny M A (if (["enumerate", "zip", "dict_itemiterator", "dict_reverseitemiterator", "odict_iterator", "itertools.zip_longest", "itertools.pairwise"].contains n && vs[0]? == some (rawInt _))=true then _ else _) Q E s
       rw [if_neg (by intro h; rw [hn,Bool.false_and] at h; cases h)]
       exact wpAny_pure hQ))
def Itl (K:W.Frag) (a:Addr):It :=
 ⟨λi H=>∃ xs x,SqL K H a xs/\xs[i]?=some x,λi H x H'=>H'=H/\∀ xs,SqL K H a xs->xs[i]?=some x,λi H=>∃ xs,SqL K H a xs/\xs.length<=i⟩
def Itr (lo:Int) (n:Nat):It:=⟨λi _=>i<n,λi H x H'=>H'=H/\x=.int (lo+i),λi _=>n<=i⟩
theorem ZiB {P:Program} {w:World} {K:W.Frag} {tg:Expr} (a it:Addr):Turn P w K tg (Itl K a) [it] it (λi h=>h.IsListIter it a i) where
 mem:=by simp
 obj:=λi h st b hb=>by
  have e:b=it:=by simpa using hb
  subst e
  obtain ⟨o,e,c,d⟩:=st
  exact ⟨o,e,λv z=>by rw [d] at z; cases z⟩
 keep:=λi h h' st k=>st.at λo e=>k it (by simp) o e
 item:=by
  intro X hP hw hK hc i pins s σ H E I hf st hg
  subst hP hw hK
  obtain ⟨xs,x,hq,hx⟩:=hg
  obtain ⟨its,rv,p,hz⟩:=I.list hq
  obtain ⟨u,hu,ru⟩:=rv.get hx
  obtain ⟨f0,f1,f2,f3,f4,f5⟩:=hf it (by simp)
  refine wpAny_pyNext_list_item st p.isList (x:=u) (by simpa using hu) λh' st' sb=>?_
  have I1:Inv X pins σ H { s with heap:=h' }:=I.turned (t':=s.toks) (λb o hb e=>(sb.2 b hb).trans e) f0 f1 f3 f4 f5
  obtain ⟨o,e,c,d⟩:=id st'
  exact ⟨u,rfl,go_of (s:={ s with heap:=h' }) e c d (by decide) ⟨x,H,I1,ru,⟨rfl,λys hy=>by rw [I.list_inj hy hq]; exact hx⟩,st',λb hb=>(hf b hb).1⟩⟩
 done:=by
  intro X hP hw hK hc i pins s σ H E I hf st hg
  subst hP hw hK
  obtain ⟨xs,hq,hx⟩:=hg
  obtain ⟨its,rv,p,hz⟩:=I.list hq
  obtain ⟨f0,f1,f2,f3,f4,f5⟩:=hf it (by simp)
  have hl:=rv.length
  exact wpAny_pyNext_list_end (I.ok.hd hc) st p.isList (by simp; omega) λh' eb=>⟨rfl,I.turned (t':=s.toks) (λb o hb e=>eb b o hb e) f0 f1 f3 f4 f5⟩
 self:=λ_ _ _ _ _ st h=>wpAny_pyIter_listiter st h
theorem ZhP {P:Program} {w:World} {K:W.Frag} {tg:Expr} (it:Addr) (lo:Int) (n:Nat):Turn P w K tg (Itr lo n) [it] it (λi h=>IsRangeIter h it (lo+(i:Nat) * 1) ((n:Int) - (i:Nat)) 1) where
 mem:=by simp
 obj:=λi h st b hb=>by
  have e:b=it:=by simpa using hb
  subst e
  exact ⟨_,st,λv z=>by
   have z':Data.fields _=Data.cell v:=z
   cases z'⟩
 keep:=λi h h' st k=>k it (by simp) _ st
 item:=by
  intro X hP hw hK hc i pins s σ H E I hf st hg
  subst hP hw hK
  obtain ⟨f0,f1,f2,f3,f4,f5⟩:=hf it (by simp)
  have W:=Walks.range (prog:=X.prog) (w:=X.w) (I.ok.hd hc) it lo 1 n
  refine W.item i s _ _ hg st λv h' tk hv st' kk=>?_
  obtain ⟨t,rfl⟩:=hv
  have I1:Inv X pins σ H { s with heap:=h',toks:=tk }:=I.turned (λb o hb e=>kk b o (by simpa using hb) e) f0 f1 f3 f4 f5
  refine ⟨_,rfl,go_of (s:={ s with heap:=h',toks:=tk }) (n := "range_iterator") st' rfl rfl (by decide) ⟨.int (lo+i),H,I1,⟨t,?_⟩,⟨rfl,rfl⟩,st',λb hb=>(hf b hb).1⟩⟩
  rw [Int.mul_one]
 done:=by
  intro X hP hw hK hc i pins s σ H E I hf st hg
  subst hP hw hK
  obtain ⟨f0,f1,f2,f3,f4,f5⟩:=hf it (by simp)
  exact wpAny_pyNext_range_end (I.ok.hd hc) st (by have:n<=i:=hg; omega) λh' eb=>⟨rfl,I.turned (t':=s.toks) (λb o hb e=>eb b o hb e) f0 f1 f3 f4 f5⟩
 self:=λ_ _ _ _ _ st h=>wpAny_pyIter_rangeiter st h
section
variable {X:Cx} {tg:Expr}
def iList (K:W.Frag) (tl:TE):TI:=λσ H R=>tl σ H λx H1=>∃ a,x=.ref a/\(∃ xs,SqL K H1 a xs)/\R (Itl K a) H1
theorem Zmf {l:Expr} {tl:TE} (hl:PE X l tl):PI X tg l (iList X.K tl):=by
 intro pins s σ H R I h
 refine thn (hl pins s σ H _ I h) λv s1 ⟨x,H1,I1,r1,q1⟩=>?_
 obtain ⟨a,e,⟨xs,hq⟩,q⟩:=q1
 subst e
 cases r1
 obtain ⟨its,rv,p,hz⟩:=I1.list hq
 refine wpAny_pyIter_list p.isList ?_
 refine ⟨s1.heap.objs.size,[s1.heap.objs.size],_,_,H1,rfl,I1.kept (t':=s1.toks) λb o e=>Heap.get?_push_of_some _ e,ZiB a _,⟨_,Heap.get?_push_size _ rfl,rfl,rfl⟩,λb hb=>?_,q⟩
 have e:b=s1.heap.objs.size:=by simpa using hb
 subst e
 exact I1.fpOk (Nat.le_refl _) (I1.hok.fresh (Nat.le_refl _))
theorem Zkv {pins:List (Addr×Obj)} {σ:St} {H:Hp} {s:Shared} {R:It->Hp->Prop} {E:Value->Shared->Prop} {lo hi:Int} {t u v:Tok} {tk:Nat} (I:Inv X pins σ H s) (h1 : -(2 ^ 62)<=lo) (h2:lo<2 ^ 62) (h3 : -(2 ^ 62)<=hi) (h4:hi<2 ^ 62)
  (q:R (Itr lo (hi - lo).toNat) H):wpAny (model X.prog X.w) X.A (pyIter (.ref s.heap.objs.size)) (PIE X pins σ tg R) E { s with heap:=s.heap.push { cls:=.type "range",data:=.fields #[.int lo t,.int hi u,.int 1 v] },toks:=tk }:=by
 refine wpAny_pyIter_range (IsRange.new ..) (small_one h1 h2 h3 h4) ?_
 have I1:Inv X pins σ H { s with heap:=s.heap.push { cls:=.type "range",data:=.fields #[.int lo t,.int hi u,.int 1 v] },toks:=tk }:=I.kept λb o e=>Heap.get?_push_of_some _ e
 refine ⟨(s.heap.push { cls:=.type "range",data:=.fields #[.int lo t,.int hi u,.int 1 v] }).objs.size,[(s.heap.push { cls:=.type "range",data:=.fields #[.int lo t,.int hi u,.int 1 v] }).objs.size],_,_,H,rfl,
  I1.kept (t':=tk) λb o e=>Heap.get?_push_of_some _ e,ZhP _ lo (hi - lo).toNat,?_,λb hb=>?_,q⟩
 .have e1:lo+((0:Nat):Int) * 1=lo:=by simp
  have e2:(((hi - lo).toNat:Nat):Int) - ((0:Nat):Int)=Builtin.Range.rangeSize lo hi 1:=by rw [rangeSize_one]; split <;> omega
  show IsRangeIter _ _ (lo+((0:Nat):Int) * 1) ((((hi - lo).toNat:Nat):Int) - ((0:Nat):Int)) 1
  rw [e1,e2]
  exact Heap.get?_push_size _ rfl
 .have e:b=(s.heap.push { cls:=.type "range",data:=.fields #[.int lo t,.int hi u,.int 1 v] }).objs.size:=by simpa using hb
  subst e
  exact I1.fpOk (Nat.le_refl _) (I1.hok.fresh (Nat.le_refl _))
def iRng1 (ta:TA):TI:=λσ H R=>ta σ H λvs H1=>∃ j:Int,vs=[.int j] /\ -(2 ^ 62)<=j/\j<2 ^ 62/\R (Itr 0 j.toNat) H1
theorem ZW {a:Expr} {ta:TA} {p pos:Pos} (hg:Gl X "range") (hm:X.mg "range" = none) (ha:PA X [a] ta) (hs:starEach [a] X.env=[(false,eval a X.env)]:=by rfl):PI X tg (.Call (.Name "range" p) [a] [] pos) (iRng1 ta):=by
 intro pins s σ H R I h
 refine Call_ (ZbZ I hg hm boot_range (PyProof.Rows.callWith_type1 (thn (ha pos pins s σ H _ I h) λus s1 ⟨vs,H1,I1,r1,q1⟩=>?_) hs rfl))
 obtain ⟨j,e,q1,q2,q⟩:=q1
 subst e
 cases r1 with
 | cons r rr =>
  cases rr
  obtain ⟨t,rfl⟩:=r
  exact call_range_1 (Zkv I1 (by omega) (by omega) q1 q2 (by simpa using q))
def tFor (wi:TI) (g:TG) (tb:TS):TS:=λD σ H=>wi σ H λJ H1=>∃ W:Nat->Nat->St->Hp->Prop,(∃ m,W 0 m σ H1)/\∀ i m σ H,W i m σ H ->
 (J.stop i H/\D.nx σ H)\/(J.go i H/\∃ N:St->Hp->Prop,(∀ σ' H',N σ' H'->∃ m',m'<m/\W (i+1) m' σ' H')/\∀ x H',J.yld i H x H'->g x σ H' λσ2 H2=>tb { D with nx:=N,ct:=N,bk:=D.nx } σ2 H2)
def Zfg (fp:List Addr) (h:Heap):List (Addr×Obj):=fp.filterMap λb=>(h.get? b).map λo=>(b,o)
theorem ZbK {fp:List Addr} {h:Heap} {b:Addr} {o:Obj} (hb:b∈fp) (e:h.get? b=some o):(b,o)∈Zfg fp h:=List.mem_filterMap.mpr ⟨b,hb,by rw [e]; rfl⟩
theorem ZiC {fp:List Addr} {h:Heap} {p:Addr×Obj} (hp:p∈Zfg fp h):p.1∈fp/\h.get? p.1=some p.2:=by
 obtain ⟨b,hb,e⟩:=List.mem_filterMap.mp hp
 cases q:h.get? b with
 | none=>rw [q] at e; cases e
 | some o =>
  rw [q] at e
  have e':(b,o)=p:=Option.some.inj e
  subst e'
  exact ⟨hb,q⟩
theorem Inv.pinned {pins:List (Addr×Obj)} {σ:St} {H:Hp} {s:Shared} {fp:List Addr} (I:Inv X pins σ H s) (hf:∀ b∈fp,FpOk X pins H b) (ho:∀ b∈fp,∃ o,s.heap.get? b=some o/\∀ v,o.data≠.cell v):Inv X (pins++Zfg fp s.heap) σ H s :=
 I.pins_of λp hp=>(List.mem_append.mp hp).elim (λz=>I.pin p (mem_append_right _ z)) λz=>by
  obtain ⟨hb,e⟩:=ZiC z
  obtain ⟨f0,f1,f2,_⟩:=hf p.1 hb
  obtain ⟨o,e',d⟩:=ho p.1 hb
  rw [e] at e'; cases e'
  exact ⟨e,f0,f1,f2,d⟩
theorem Inv.unpinned {pins pl:List (Addr×Obj)} {σ:St} {H:Hp} {s:Shared} (I:Inv X (pins++pl) σ H s):Inv X pins σ H s:=I.pins_of λp hp=>I.pin p (mem_append_right _ (mem_append_left _ hp))
theorem Zba {iter:Expr} {body:List Stmt} {wi:TI} {g:TG} {tb:TS} {pos:Pos} (hp:PassesOwn (model X.prog X.w) X.A X.env X.xe) (hc:X.calm=true) (hi:PI X tg iter wi) (hg:PG X tg g) (hb:PSs X body tb)
  (hs:∀ x,foldedSetIterable iter X.env x=pure x:=by intro _; rfl):PS X (.For tg iter body [] pos) (tFor wi g tb):=by
 intro pins s σ H D I h
 refine wpAny_For (thn (hi pins s σ H _ I h) λv s1 h1=>thn h1 λitv s2 h2=>?_) hs
 obtain ⟨it,fp,tn,J,H2,e,I2,T,st2,f2,W,⟨m0,w0⟩,turn⟩:=h2
 subst e
 have stat:∀ {H':Hp},(∀ b∈fp,H' b=none)->∀ b∈fp,FpOk X pins H' b:=λhn b hb=>⟨hn b hb,(f2 b hb).2⟩
 refine codeAny_forLoop_any (λn s'=>∃ i σ' H',Inv X pins σ' H' s'/\tn i s'.heap/\(∀ b∈fp,H' b=none)/\W i n σ' H') ?_ m0 ⟨0,σ,H2,I2,st2,λb hb=>(f2 b hb).1,w0⟩
 rintro n s3 ⟨i,σ3,H3,I3,st3,fr3,w3⟩
 rcases turn i n σ3 H3 w3 with ⟨stop,qn⟩ | ⟨go,N,hN,step⟩
 .refine wpAny_passesOwn hp (thn (T.done X rfl rfl rfl hc i pins s3 σ3 H3 X.xe I3 (stat fr3) st3 stop) λr s4 ⟨hr,I4⟩=>?_)
  subst hr
  exact wpAny_execs_nil ⟨σ3,H3,I4,qn⟩
 .refine wpAny_passesOwn hp (thn (T.item X rfl rfl rfl hc i pins s3 σ3 H3 X.xe I3 (stat fr3) st3 go) λr s4 ⟨u,hr,h4⟩=>?_)
  subst hr
  refine wpAny_passesOwn hp (thn h4 λ_ s5 ⟨x,H5,I5,r5,y5,st5,fr5⟩=>?_)
  have I5':=I5.pinned (stat fr5) (T.obj _ _ st5)
  refine wpAny_passesOwn hp (thn (hg _ s5 σ3 H5 x u _ I5' r5 (step x H5 y5)) λ_ s6 ⟨σ6,H6,I6,q6⟩=>?_)
  refine wpAny_passesOwn hp (thn (hb _ s6 σ6 H6 _ I6 q6) λf s7 q7=>?_)
  have again:∀ {σ7:St} {H7:Hp},Inv X (pins++Zfg fp s5.heap) σ7 H7 s7->N σ7 H7->∃ m,m<n/\∃ i σ' H',Inv X pins σ' H' s7/\tn i s7.heap/\(∀ b∈fp,H' b=none)/\W i m σ' H':=λ{σ7 H7} I7 n7=>by
   obtain ⟨m',hm,w7⟩:=hN σ7 H7 n7
   refine ⟨m',hm,i+1,σ7,H7,I7.unpinned,T.keep _ _ _ st5 λb hb o e=>(I7.pin (b,o) (mem_append_right _ (mem_append_right _ (ZbK hb e)))).1,λb hb=>?_,w7⟩
   obtain ⟨o,e,d⟩:=T.obj _ _ st5 b hb
   exact (I7.pin (b,o) (mem_append_right _ (mem_append_right _ (ZbK hb e)))).2.1
  cases f with
  | next=>obtain ⟨σ7,H7,I7,n7⟩:=q7; exact again I7 n7
  | cont=>obtain ⟨σ7,H7,I7,n7⟩:=q7; exact again I7 n7
  | brk=>obtain ⟨σ7,H7,I7,q7⟩:=q7; exact ⟨σ7,H7,I7.unpinned,q7⟩
  | ret v=>obtain ⟨x7,σ7,H7,I7,r7,q7⟩:=q7; exact ⟨x7,σ7,H7,I7.unpinned,r7,q7⟩
end
theorem Zev {K:W.Frag} {a:Addr} {xs:List V} {g:TG} {tb:TS} {D:Ends} {σ:St} {H:Hp} (Pv:Nat->St->Hp->Prop) (h0:Pv 0 σ H) (hl:∀ i σ H,i<=xs.length->Pv i σ H->SqL K H a xs)
  (hs:∀ i x σ H,xs[i]?=some x->Pv i σ H->g x σ H λσ2 H2=>tb { D with nx:=Pv (i+1),ct:=Pv (i+1),bk:=D.nx } σ2 H2) (hd:∀ σ H,Pv xs.length σ H->D.nx σ H) :
  ∃ W:Nat->Nat->St->Hp->Prop,(∃ m,W 0 m σ H)/\∀ i m σ H,W i m σ H ->
   ((Itl K a).stop i H/\D.nx σ H)\/((Itl K a).go i H/\∃ N:St->Hp->Prop,(∀ σ' H',N σ' H'->∃ m',m'<m/\W (i+1) m' σ' H')/\∀ x H',(Itl K a).yld i H x H'->g x σ H' λσ2 H2=>tb { D with nx:=N,ct:=N,bk:=D.nx } σ2 H2):=by
 refine ⟨λi m σ H=>m=xs.length - i/\i<=xs.length/\Pv i σ H,⟨xs.length,by simp,Nat.zero_le _,h0⟩,?_⟩
 rintro i m σ H ⟨rfl,hi,p⟩
 have q:=hl i σ H hi p
 by_cases hlt:i<xs.length
 .refine .inr ⟨⟨xs,xs[i],q,by simp [hlt]⟩,Pv (i+1),λσ' H' p'=>⟨xs.length - (i+1),by omega,rfl,hlt,p'⟩,λx H' y=>?_⟩
  obtain ⟨e,y⟩:=y
  subst e
  exact hs i x σ _ (y xs q) p
 .have e:i=xs.length:=by omega
  subst e
  exact .inl ⟨⟨xs,q,Nat.le_refl _⟩,hd σ H p⟩
theorem Zcb {lo:Int} {n:Nat} {g:TG} {tb:TS} {D:Ends} {σ:St} {H:Hp} (Pv:Nat->St->Hp->Prop) (h0:Pv 0 σ H)
  (hs:∀ i σ H,i<n->Pv i σ H->g (.int (lo+i)) σ H λσ2 H2=>tb { D with nx:=Pv (i+1),ct:=Pv (i+1),bk:=D.nx } σ2 H2) (hd:∀ σ H,Pv n σ H->D.nx σ H) :
  ∃ W:Nat->Nat->St->Hp->Prop,(∃ m,W 0 m σ H)/\∀ i m σ H,W i m σ H ->
   ((Itr lo n).stop i H/\D.nx σ H)\/((Itr lo n).go i H/\∃ N:St->Hp->Prop,(∀ σ' H',N σ' H'->∃ m',m'<m/\W (i+1) m' σ' H')/\∀ x H',(Itr lo n).yld i H x H'->g x σ H' λσ2 H2=>tb { D with nx:=N,ct:=N,bk:=D.nx } σ2 H2):=by
 refine ⟨λi m σ H=>m=n - i/\i<=n/\Pv i σ H,⟨n,by simp,Nat.zero_le _,h0⟩,?_⟩
 rintro i m σ H ⟨rfl,hi,p⟩
 by_cases hlt:i<n
 .refine .inr ⟨hlt,Pv (i+1),λσ' H' p'=>⟨n - (i+1),by omega,rfl,hlt,p'⟩,λx H' y=>?_⟩
  obtain ⟨e,y⟩:=y
  subst e y
  exact hs i σ _ hlt p
 .have e:i=n:=by omega
  subst e
  exact .inl ⟨Nat.le_refl _,hd σ H p⟩
abbrev R2:=V->V->Hp->VK->Prop
def OpR (X:Cx) (f:Value->Value->Sem Value) (r:R2):Prop :=
 ∀ (pins:List (Addr×Obj)) (s:Shared) (σ:St) (H:Hp) (x y:V) (v u:Value) (Q:VK),Inv X pins σ H s->RelV x v->RelV y u->r x y H Q ->
  wpAny (model X.prog X.w) X.A (f v u) (EP X pins σ Q) X.xe s
def UnR (X:Cx) (f:Value->Sem Value) (r:V->Hp->VK->Prop):Prop :=
 ∀ (pins:List (Addr×Obj)) (s:Shared) (σ:St) (H:Hp) (x:V) (v:Value) (Q:VK),Inv X pins σ H s->RelV x v->r x H Q ->
  wpAny (model X.prog X.w) X.A (f v) (EP X pins σ Q) X.xe s
def CallR (X:Cx) (f:Value) (r:List V->Hp->VK->Prop):Prop :=
 ∀ (pins:List (Addr×Obj)) (s:Shared) (σ:St) (H:Hp) (xs:List V) (us:List Value) (Q:VK),Inv X pins σ H s->Vals xs us->r xs H Q ->
  wpAny (model X.prog X.w) X.A (call f us) (EP X pins σ Q) X.xe s
def TruR (X:Cx) (r:V->Hp->(Bool->Hp->Prop)->Prop):Prop :=
 ∀ (pins:List (Addr×Obj)) (s:Shared) (σ:St) (H:Hp) (x:V) (v:Value) (Q:Bool->Hp->Prop),Inv X pins σ H s->RelV x v->r x H Q ->
  wpAny (model X.prog X.w) X.A (truthy v) (TP X pins σ Q) X.xe s
def tOp (r:R2) (ta tb:TE):TE:=λσ H Q=>ta σ H λx H1=>tb σ H1 λy H2=>r x y H2 Q
def tUn (r:V->Hp->VK->Prop) (ta:TE):TE:=λσ H Q=>ta σ H λx H1=>r x H1 Q
def rI (C:Int->Int->Prop) (g:Int->Int->V):R2:=λx y H Q=>∃ i j,x=.int i/\y=.int j/\C i j/\Q (g i j) H
def rI0 (g:Int->Int->V):R2:=λx y H Q=>∃ i j,x=.int i/\y=.int j/\Q (g i j) H
def rU (g:Int->V):V->Hp->VK->Prop:=λx H Q=>∃ i,x=.int i/\Q (g i) H
section
variable {X:Cx} {a b c:Expr} {ta tb tc:TE} {pos:Pos}
theorem binT (ha:PE X a ta) (hb:PE X b tb) {pins:List (Addr×Obj)} {s:Shared} {σ:St} {H:Hp} {R:V->V->Hp->Prop} (I:Inv X pins σ H s)
  (h:ta σ H λx H1=>tb σ H1 λy H2=>R x y H2) {Q:Value->Shared->Prop} {f:Value->Value->Sem Value}
  (hf:∀ v u s2 x y H2,Inv X pins σ H2 s2->RelV x v->RelV y u->R x y H2->wpAny (model X.prog X.w) X.A (f v u) Q X.xe s2) :
  wpAny (model X.prog X.w) X.A (eval a X.env) (λv s₁=>wpAny (model X.prog X.w) X.A (eval b X.env) (λu s₂=>wpAny (model X.prog X.w) X.A (f v u) Q X.xe s₂) X.xe s₁) X.xe s:=by
 refine thn (ha pins s σ H _ I h) λv s1 ⟨x,H1,I1,r1,q1⟩=>?_
 refine thn (hb pins s1 σ H1 _ I1 q1) λu s2 ⟨y,H2,I2,r2,q2⟩=>?_
 exact hf v u s2 x y H2 I2 r1 r2 q2
theorem pe_op {op:Operator} {r:R2} (ho:OpR X (binaryOp op) r) (ha:PE X a ta) (hb:PE X b tb):PE X (.BinOp a op b pos) (tOp r ta tb):=by
 intro pins s σ H Q I h
 exact wpAny_BinOp (binT ha hb I h λv u s2 x y H2 I2 rx ry q=>ho pins s2 σ H2 x y v u Q I2 rx ry q)
theorem pe_un {op:UnaryOp} {r:V->Hp->VK->Prop} (ho:UnR X (unaryOp op) r) (ha:PE X a ta):PE X (.UnaryOp op a pos) (tUn r ta):=by
 intro pins s σ H Q I h
 exact UnaryOp_ (thn (ha pins s σ H _ I h) λv s1 ⟨x,H1,I1,r1,q1⟩=>ho pins s1 σ H1 x v Q I1 r1 q1)
theorem opI {f:Value->Value->Sem Value} {C:Int->Int->Prop} {g:Int->Int->Int}
  (rule:∀ (i j:Int) (t u:Tok) (s:Shared) (Q:Value->Shared->Prop) (E:Value->Shared->Prop),C i j->Q (.int (g i j) s.toks) { s with toks:=s.toks+1 }->wpAny (model X.prog X.w) X.A (f (.int i t) (.int j u)) Q E s) :
  OpR X f (rI C λi j=>.int (g i j)):=by
 intro pins s σ H x y v u Q I rx ry h
 obtain ⟨i,j,rfl,rfl,hc,q⟩:=h
 obtain ⟨t,rfl⟩:=rx
 obtain ⟨t',rfl⟩:=ry
 exact rule i j t t' s _ _ hc ⟨.int (g i j),H,I.tok _,⟨_,rfl⟩,q⟩
theorem opI0 {f:Value->Value->Sem Value} {g:Int->Int->Int}
  (rule:∀ (i j:Int) (t u:Tok) (s:Shared) (Q:Value->Shared->Prop) (E:Value->Shared->Prop),Q (.int (g i j) s.toks) { s with toks:=s.toks+1 }->wpAny (model X.prog X.w) X.A (f (.int i t) (.int j u)) Q E s) :
  OpR X f (rI0 λi j=>.int (g i j)):=by
 intro pins s σ H x y v u Q I rx ry h
 obtain ⟨i,j,rfl,rfl,q⟩:=h
 obtain ⟨t,rfl⟩:=rx
 obtain ⟨t',rfl⟩:=ry
 exact rule i j t t' s _ _ ⟨.int (g i j),H,I.tok _,⟨_,rfl⟩,q⟩
theorem opB0 {f:Value->Value->Sem Value} {g:Int->Int->Bool}
  (rule:∀ (i j:Int) (t u:Tok) (s:Shared) (Q:Value->Shared->Prop) (E:Value->Shared->Prop),Q (.bool (g i j)) s->wpAny (model X.prog X.w) X.A (f (.int i t) (.int j u)) Q E s) :
  OpR X f (rI0 λi j=>.bl (g i j)):=by
 intro pins s σ H x y v u Q I rx ry h
 obtain ⟨i,j,rfl,rfl,q⟩:=h
 obtain ⟨t,rfl⟩:=rx
 obtain ⟨t',rfl⟩:=ry
 exact rule i j t t' s _ _ ⟨.bl (g i j),H,I,rfl,q⟩
def CDiv (i j:Int):Prop:=0<j/\j<1073741824
def CPow (i j:Int):Prop:=0<=j/\j<=1000000/\i.natAbs<2 ^ 64
def CMul (i j:Int):Prop:=(-(2 ^ 64)<i/\i<2 ^ 64)\/(-(2 ^ 64)<j/\j<2 ^ 64)
theorem CMul.ok {i j:Int} (h:CMul i j):IntMulOk i j:=by
 rcases h with ⟨h1,h2⟩ | ⟨h1,h2⟩
 .exact .of_left (intBits_le_64 h1 h2)
 .exact .of_right (intBits_le_64 h1 h2)
theorem Zaa:OpR X (binaryOp .Add) (rI0 λi j=>.int (i+j)):=opI0 λ_ _ _ _ _ _ _ q=>add_int q
theorem Zbo:OpR X (binaryOp .Sub) (rI0 λi j=>.int (i - j)):=opI0 λ_ _ _ _ _ _ _ q=>sub_int q
theorem Zbp:OpR X (binaryOp .Mult) (rI CMul λi j=>.int (i * j)):=opI λ_ _ _ _ _ _ _ hc q=>mul_int q hc.ok
theorem Zdg:OpR X (binaryOp .FloorDiv) (rI CDiv λi j=>.int (i / j)):=opI λi j _ _ _ _ _ hc q=>by
 have h1:(0:Int)<j:=hc.1
 have h2:j<1073741824:=hc.2
 exact floordiv_int (by omega) (by rw [Int.fdiv_eq_ediv_of_nonneg i (by omega)]; exact q) (.inl (PyProof.noPylong_small (by omega)))
theorem Zat:OpR X (binaryOp .Mod) (rI (λ_ j=>0<j) λi j=>.int (i % j)):=opI λi j _ _ _ _ _ hc q=>by
 have h1:(0:Int)<j:=hc
 exact mod_int' (by omega) (by rw [Int.fmod_eq_emod_of_nonneg i (by omega)]; exact q)
theorem Zne:OpR X (binaryOp .Pow) (rI CPow λi j=>.int (i ^ j.toNat)):=opI λ_ _ _ _ _ _ _ hc q=>pow_int_small hc.1 hc.2.1 hc.2.2 q
theorem unI {f:Value->Sem Value} {g:Int->Int}
  (rule:∀ (i:Int) (t:Tok) (s:Shared) (Q:Value->Shared->Prop) (E:Value->Shared->Prop),Q (.int (g i) s.toks) { s with toks:=s.toks+1 }->wpAny (model X.prog X.w) X.A (f (.int i t)) Q E s) :
  UnR X f (rU λi=>.int (g i)):=by
 intro pins s σ H x v Q I rx h
 obtain ⟨i,rfl,q⟩:=h
 obtain ⟨t,rfl⟩:=rx
 exact rule i t s _ _ ⟨.int (g i),H,I.tok _,⟨_,rfl⟩,q⟩
theorem ZbD:UnR X (unaryOp .USub) (rU λi=>.int (-i)):=unI λ_ _ _ _ _ q=>neg_int q
end
def scal:V->V->Bool
 | .non,.non=>true | .non,.int _=>true | .int _,.non=>true | .non,.bl _=>true | .bl _,.non=>true | .non,.str _=>true | .str _,.non=>true
 | .int _,.int _=>true | .bl _,.bl _=>true | .str _,.str _=>true | .byt _,.byt _=>true
 | .int _,.str _=>true | .str _,.int _=>true | .bl _,.str _=>true | .str _,.bl _=>true
 | _,_=>false
def rEq:R2:=λx y H Q=>scal x y=true/\Q (.bl (decide (x=y))) H
def rNe:R2:=λx y H Q=>scal x y=true/\Q (.bl (!decide (x=y))) H
theorem ZiD {i j:Int}:decide (V.int i=V.int j)=(i == j):=by
 rw [Bool.eq_iff_iff]
 simp
theorem ZlA {i j:Bool}:decide (V.bl i=V.bl j)=(i == j):=by
 rw [Bool.eq_iff_iff]
 simp
theorem ZiE {i j:Str}:decide (V.str i=V.str j)=(i == j):=by
 rw [Bool.eq_iff_iff]
 simp
theorem ZiF {i j:Array UInt8}:decide (V.byt i=V.byt j)=(i.toList == j.toList):=by
 rw [Bool.eq_iff_iff]
 cases i
 cases j
 simp
section
variable {X:Cx} {a b c:Expr} {ta tb tc:TE} {pos:Pos}
theorem ZH {pins:List (Addr×Obj)} {σ:St} {H:Hp} {s:Shared} {Q:VK} {k k':Bool} (I:Inv X pins σ H s) (q:Q (.bl k) H) (e:k=k'):EP X pins σ Q (.bool k') s:=by
 subst e
 exact ⟨.bl k,H,I,rfl,q⟩
theorem op_eq:OpR X (compareOp .Eq) rEq:=by
 intro pins s σ H x y v u Q I rx ry h
 obtain ⟨hs,q⟩:=h
 cases x with
 | non =>
  cases rx
  cases y with
  | non=>cases ry; exact PySem.EqNone.eq_none_none (ZH I q (by simp))
  | bl j=>cases ry; exact PySem.EqNone.eq_none_bool (ZH I q (by simp))
  | int j=>obtain ⟨t',rfl⟩:=ry; exact PySem.EqNone.eq_none_int (ZH I q (by simp))
  | str j=>obtain ⟨t',rfl⟩:=ry; exact PySem.EqNone.eq_none_str (ZH I q (by simp))
  | _=>exact absurd (show false=true from hs) Bool.false_ne_true
 | bl i =>
  cases rx
  cases y with
  | non=>cases ry; exact PySem.EqNone.eq_bool_none (ZH I q (by simp))
  | bl j=>cases ry; exact eq_bool (ZH I q ZlA)
  | str j=>obtain ⟨t',rfl⟩:=ry; exact PySem.EqMixed.eq_bool_str (ZH I q (by simp))
  | _=>exact absurd (show false=true from hs) Bool.false_ne_true
 | int i =>
  obtain ⟨t,rfl⟩:=rx
  cases y with
  | non=>cases ry; exact PySem.EqNone.eq_int_none (ZH I q (by simp))
  | int j=>obtain ⟨t',rfl⟩:=ry; exact eq_int (ZH I q ZiD)
  | str j=>obtain ⟨t',rfl⟩:=ry; exact PySem.EqMixed.eq_int_str (ZH I q (by simp))
  | _=>exact absurd (show false=true from hs) Bool.false_ne_true
 | str i =>
  obtain ⟨t,rfl⟩:=rx
  cases y with
  | non=>cases ry; exact PySem.EqNone.eq_str_none (ZH I q (by simp))
  | bl j=>cases ry; exact PySem.EqMixed.eq_str_bool (ZH I q (by simp))
  | int j=>obtain ⟨t',rfl⟩:=ry; exact PySem.EqMixed.eq_str_int (ZH I q (by simp))
  | str j=>obtain ⟨t',rfl⟩:=ry; exact eq_str (ZH I q ZiE)
  | _=>exact absurd (show false=true from hs) Bool.false_ne_true
 | byt i =>
  obtain ⟨t,rfl⟩:=rx
  cases y with
  | byt j=>obtain ⟨t',rfl⟩:=ry; exact W.eq_bytes (ZH I q ZiF)
  | _=>exact absurd (show false=true from hs) Bool.false_ne_true
 | _=>cases y <;> exact absurd (show false=true from hs) Bool.false_ne_true
theorem op_ne:OpR X (compareOp .NotEq) rNe:=by
 intro pins s σ H x y v u Q I rx ry h
 obtain ⟨hs,q⟩:=h
 cases x with
 | non =>
  cases rx
  cases y with
  | non=>cases ry; exact PySem.EqNone.ne_none_none (ZH I q (by simp))
  | bl j=>cases ry; exact PySem.EqNone.ne_none_bool (ZH I q (by simp))
  | int j=>obtain ⟨t',rfl⟩:=ry; exact PySem.EqNone.ne_none_int (ZH I q (by simp))
  | str j=>obtain ⟨t',rfl⟩:=ry; exact PySem.EqNone.ne_none_str (ZH I q (by simp))
  | _=>exact absurd (show false=true from hs) Bool.false_ne_true
 | bl i =>
  cases rx
  cases y with
  | non=>cases ry; exact PySem.EqNone.ne_bool_none (ZH I q (by simp))
  | bl j=>cases ry; exact ne_bool (ZH I q (congrArg not ZlA))
  | str j=>obtain ⟨t',rfl⟩:=ry; exact PySem.EqMixed.ne_bool_str (ZH I q (by simp))
  | _=>exact absurd (show false=true from hs) Bool.false_ne_true
 | int i =>
  obtain ⟨t,rfl⟩:=rx
  cases y with
  | non=>cases ry; exact PySem.EqNone.ne_int_none (ZH I q (by simp))
  | int j=>obtain ⟨t',rfl⟩:=ry; exact ne_int (ZH I q (congrArg not ZiD))
  | str j=>obtain ⟨t',rfl⟩:=ry; exact PySem.EqMixed.ne_int_str (ZH I q (by simp))
  | _=>exact absurd (show false=true from hs) Bool.false_ne_true
 | str i =>
  obtain ⟨t,rfl⟩:=rx
  cases y with
  | non=>cases ry; exact PySem.EqNone.ne_str_none (ZH I q (by simp))
  | bl j=>cases ry; exact PySem.EqMixed.ne_str_bool (ZH I q (by simp))
  | int j=>obtain ⟨t',rfl⟩:=ry; exact PySem.EqMixed.ne_str_int (ZH I q (by simp))
  | str j=>obtain ⟨t',rfl⟩:=ry; exact ne_str (ZH I q (congrArg not ZiE))
  | _=>exact absurd (show false=true from hs) Bool.false_ne_true
 | byt i =>
  obtain ⟨t,rfl⟩:=rx
  cases y with
  | byt j=>obtain ⟨t',rfl⟩:=ry; exact W.ne_bytes (ZH I q (congrArg not ZiF))
  | _=>exact absurd (show false=true from hs) Bool.false_ne_true
 | _=>cases y <;> exact absurd (show false=true from hs) Bool.false_ne_true
theorem op_lt:OpR X (compareOp .Lt) (rI0 λi j=>.bl (decide (i<j))):=opB0 λ_ _ _ _ _ _ _ q=>lt_int q
theorem op_le:OpR X (compareOp .LtE) (rI0 λi j=>.bl (decide (i<=j))):=opB0 λ_ _ _ _ _ _ _ q=>le_int q
theorem op_gt:OpR X (compareOp .Gt) (rI0 λi j=>.bl (decide (j<i))):=opB0 λ_ _ _ _ _ _ _ q=>gt_int q
theorem op_ge:OpR X (compareOp .GtE) (rI0 λi j=>.bl (decide (j<=i))):=opB0 λ_ _ _ _ _ _ _ q=>ge_int q
theorem Zv (b:Expr) {op:CmpOp} (h:op≠.In:=by decide) (h2:op≠.NotIn:=by decide):behindInMarks op b=false:=by
 have e1:(op == CmpOp.In)=false:=by cases op <;> first | rfl | exact absurd rfl h
 have e2:(op == CmpOp.NotIn)=false:=by cases op <;> first | rfl | exact absurd rfl h2
 cases b <;> simp [behindInMarks,e1,e2]
theorem Zbb {op:CmpOp} {r:R2} (ho:OpR X (compareOp op) r) (ha:PE X a ta) (hb:PE X b tb) (hm:behindInMarks op b=false):PE X (.Compare a [op] [b] pos) (tOp r ta tb):=by
 intro pins s σ H Q I h
 exact wpAny_Compare1 (binT ha hb I h λv u s2 x y H2 I2 rx ry q=>ho pins s2 σ H2 x y v u Q I2 rx ry q) hm
def tTest (t:TE):TT:=λσ H Q=>t σ H λx H'=>∃ k,x=.bl k/\Q k H'
theorem Zs {op:CmpOp} {r:R2} (ho:OpR X (compareOp op) r) (ha:PE X a ta) (hb:PE X b tb) (hm:behindInMarks op b=false):PT X (.Compare a [op] [b] pos) (tTest (tOp r ta tb)):=by
 intro pins s σ H Q I h
 refine wpAny_isTrue_Compare1 (thn (ha pins s σ H _ I h) λv s1 ⟨x,H1,I1,r1,q1⟩=>thn (hb pins s1 σ H1 _ I1 q1) λu s2 ⟨y,H2,I2,r2,q2⟩ =>
  thn (ho pins s2 σ H2 x y v u _ I2 r1 r2 q2) λc s3 ⟨z,H3,I3,r3,k,e,q3⟩=>?_) hm
 subst e
 cases r3
 exact wpAny_truthy_bool ⟨H3,I3,q3⟩
def ZlB (r r':R2) (ta tb tc:TE):TE:=λσ H Q=>ta σ H λx H1=>tb σ H1 λy H2=>r x y H2 λz H3=>∃ k,z=.bl k /\
 (if k=true then tc σ H3 λw' H4=>r' y w' H4 Q else Q (.bl false) H3)
theorem Zkw {op op':CmpOp} {r r':R2} (ho:OpR X (compareOp op) r) (ho':OpR X (compareOp op') r') (ha:PE X a ta) (hb:PE X b tb) (hc:PE X c tc)
  (hm:lastMarks [op,op'] [b,c]=false:=by with_unfolding_all rfl):PE X (.Compare a [op,op'] [b,c] pos) (ZlB r r' ta tb tc):=by
 intro pins s σ H Q I h
 refine Compare_chain (thn (ha pins s σ H _ I h) λv s1 ⟨x,H1,I1,r1,q1⟩=>chain_link (thn (hb pins s1 σ H1 _ I1 q1) λu s2 ⟨y,H2,I2,r2,q2⟩ =>
  thn (ho pins s2 σ H2 x y v u _ I2 r1 r2 q2) λd s3 ⟨z,H3,I3,r3,k,e,q3⟩=>?_)) hm
 subst e
 cases r3
 refine wpAny_truthy_bool ?_
 cases k with
 | false=>exact ite_ff ⟨.bl false,H3,I3,rfl,q3⟩
 | true=>exact ite_tt (chain_last (thn (hc pins s3 σ H3 _ I3 q3) λw' s4 ⟨z',H4,I4,r4,q4⟩=>ho' pins s4 σ H4 y z' u w' Q I4 r2 r4 q4))
theorem Zkx {op op':CmpOp} {r r':R2} (ho:OpR X (compareOp op) r) (ho':OpR X (compareOp op') r') (ha:PE X a ta) (hb:PE X b tb) (hc:PE X c tc)
  (hm:lastMarks [op,op'] [b,c]=false:=by with_unfolding_all rfl):PT X (.Compare a [op,op'] [b,c] pos) (tTest (ZlB r r' ta tb tc)):=by
 intro pins s σ H Q I h
 refine isTrue_chain (thn (ha pins s σ H _ I h) λv s1 ⟨x,H1,I1,r1,q1⟩=>test_link (thn (hb pins s1 σ H1 _ I1 q1) λu s2 ⟨y,H2,I2,r2,q2⟩ =>
  thn (ho pins s2 σ H2 x y v u _ I2 r1 r2 q2) λd s3 ⟨z,H3,I3,r3,k,e,q3⟩=>?_)) hm
 subst e
 cases r3
 refine wpAny_truthy_bool ?_
 cases k with
 | false =>
  obtain ⟨k',e',q'⟩:=q3
  cases e'
  exact ite_ff ⟨H3,I3,q'⟩
 | true =>
  refine ite_tt (test_last (thn (hc pins s3 σ H3 _ I3 q3) λw' s4 ⟨z',H4,I4,r4,q4⟩=>thn (ho' pins s4 σ H4 y z' u w' _ I4 r2 r4 q4) λd' s5 ⟨z2,H5,I5,r5,k2,e2,q5⟩=>?_))
  subst e2
  cases r5
  exact wpAny_truthy_bool ⟨H5,I5,q5⟩
def TruV (K:W.Frag) (x:V) (H:Hp) (k:Bool):Prop :=
 match x with
 | .non=>k=false
 | .bl b=>k=b
 | .int i=>k=(i != 0)
 | .str y=>y.length<=sizeLine/\k=((y.length:Int) != 0)
 | .byt y=>y.size<=sizeLine/\k=((y.size:Int) != 0)
 | .ref p=>(∃ xs,SqL K H p xs/\k=!xs.isEmpty)\/(∃ xs,SqT K H p xs/\k=!xs.isEmpty)\/∃ kvs,H p=some (.dK kvs)/\k=!kvs.isEmpty
 | _=>False
theorem ZhQ {κ:Type} {kvs:List (κ×V)} {vs:List (κ×Value)} (r:KV kvs vs):(!vs.isEmpty)=!kvs.isEmpty:=by
 cases r <;> rfl
theorem Zeb {xs:List V} {its:List Value} (r:Vals xs its):(!its.toArray.isEmpty)=!xs.isEmpty:=by
 cases r <;> simp
theorem ZgU:(sizeLine:Nat)<2 ^ 63:=by rw [sizeLine_eq]; decide
theorem Znf:TruR X (λx H Q=>∃ k,TruV X.K x H k/\Q k H):=by
 intro pins s σ H x v Q I rx h
 obtain ⟨k,e,q⟩:=h
 have hl:=ZgU
 have hs:sizeLine=16777216:=sizeLine_eq
 cases x with
 | non =>
  cases rx
  have e':k=false:=e
  subst e'
  exact truthy_none ⟨H,I,q⟩
 | bl b =>
  cases rx
  have e':k=b:=e
  subst e'
  exact wpAny_truthy_bool ⟨H,I,q⟩
 | int i =>
  obtain ⟨t,rfl⟩:=rx
  have e':k=(i != 0):=e
  subst e'
  exact PySem.P.truthy_int ⟨H,I,q⟩
 | str y =>
  obtain ⟨t,rfl⟩:=rx
  obtain ⟨hy,e'⟩:y.length<=sizeLine/\k=((y.length:Int) != 0):=e
  subst e'
  exact PySem.P.truthy_str (by omega) ⟨H,I.tok _,q⟩
 | byt y =>
  obtain ⟨t,rfl⟩:=rx
  obtain ⟨hy,e'⟩:y.size<=sizeLine/\k=((y.size:Int) != 0):=e
  subst e'
  exact W.truthy_bytes (by omega) ⟨H,I.tok _,q⟩
 | ref p =>
  cases rx
  have e':(∃ xs,SqL X.K H p xs/\k=!xs.isEmpty)\/(∃ xs,SqT X.K H p xs/\k=!xs.isEmpty)\/∃ kvs,H p=some (.dK kvs)/\k=!kvs.isEmpty:=e
  rcases e' with ⟨xs,hx,e'⟩ | ⟨xs,hx,e'⟩ | ⟨kvs,hx,e'⟩
  .subst e'
   obtain ⟨its,r,pl,hz⟩:=I.list hx
   have hlen:=r.length
   exact wpAny_truthy_list pl.isList (by simp only [List.size_toArray]; omega) ⟨H,I.tok _,by rw [Zeb r]; exact q⟩
  .subst e'
   obtain ⟨its,r,pl,hz⟩:=I.tuple hx
   have hlen:=r.length
   exact truthy_tuple pl (by simp only [List.size_toArray]; omega) ⟨H,I.tok _,by rw [Zeb r]; exact q⟩
  .subst e'
   obtain ⟨hz,hS,vs,r,m⟩:kvs.length<=sizeLine/\(p == sysModules)=false/\∃ vs,KV kvs vs/\s.heap.DictOf (ZM X.prog X.w) p vs:=I.hok p _ hx
   have hlen:kvs.length=vs.length:=Paired.length r
   exact wpAny_truthy_dict hS m (by omega) ⟨H,I.tok _,by rw [ZhQ r]; exact q⟩
 | _=>exact (show False from e).elim
theorem Zky (ha:PE X a ta) (he:∀ whole,isTrue a X.env whole=(do let v ← whole; standAt a.pos; holding [v] (truthy v))) :
  PT X a (λσ H Q=>ta σ H λx H'=>∃ k,TruV X.K x H' k/\Q k H'):=by
 intro pins s σ H Q I h
 exact isTrue_plain (thn (ha pins s σ H _ I h) λv s1 ⟨x,H1,I1,r1,q1⟩=>Znf pins s1 σ H1 x v Q I1 r1 q1) (he _)
theorem vals1 {x:V} {us:List Value} (r:Vals [x] us):∃ u,us=[u]/\RelV x u:=by
 cases r with
 | cons r1 r2=>cases r2; exact ⟨_,rfl,r1⟩
theorem vals2 {x y:V} {us:List Value} (r:Vals [x,y] us):∃ u w',us=[u,w']/\RelV x u/\RelV y w':=by
 cases r with
 | cons r1 r2 =>
  cases r2 with
  | cons r3 r4=>cases r4; exact ⟨_,_,rfl,r1,r3⟩
theorem ZgV:CallR X (.builtin "abs") (λxs H Q=>∃ i,xs=[.int i]/\Q (.int (if i<0 then -i else i)) H):=by
 intro pins s σ H xs us Q I r h
 obtain ⟨i,rfl,q⟩:=h
 obtain ⟨u,rfl,t,rfl⟩:=vals1 r
 exact call_abs_int λu tk=>⟨.int (if i<0 then -i else i),H,I.tok _,⟨_,rfl⟩,q⟩
theorem Zfh (hc:X.calm=true):CallR X (.builtin "max") (λxs H Q=>∃ i j,xs=[.int i,.int j]/\Q (.int (if j > i then j else i)) H):=by
 intro pins s σ H xs us Q I r h
 obtain ⟨i,j,rfl,q⟩:=h
 obtain ⟨u,w',rfl,⟨t,rfl⟩,⟨t',rfl⟩⟩:=vals2 r
 refine max_two_ints (I.ok.hd hc) λh' tk k=>⟨_,H,I.kept k,?_,q⟩
 by_cases hj:j > i
 .rw [if_pos hj,if_pos hj]; exact ⟨_,rfl⟩
 .rw [if_neg hj,if_neg hj]; exact ⟨_,rfl⟩
theorem ZiG (hc:X.calm=true):CallR X (.builtin "min") (λxs H Q=>∃ i j,xs=[.int i,.int j]/\Q (.int (if j<i then j else i)) H):=by
 intro pins s σ H xs us Q I r h
 obtain ⟨i,j,rfl,q⟩:=h
 obtain ⟨u,w',rfl,⟨t,rfl⟩,⟨t',rfl⟩⟩:=vals2 r
 refine min_two_ints (I.ok.hd hc) λh' tk k=>⟨_,H,I.kept k,?_,q⟩
 by_cases hj:j<i
 .rw [if_pos hj,if_pos hj]; exact ⟨_,rfl⟩
 .rw [if_neg hj,if_neg hj]; exact ⟨_,rfl⟩
theorem Zdh:CallR X (.type "int") (λxs H Q=>(∃ i,xs=[.int i]/\Q (.int i) H)\/∃ k,xs=[.bl k]/\Q (.int (if k then 1 else 0)) H):=by
 intro pins s σ H xs us Q I r h
 rcases h with ⟨i,rfl,q⟩ | ⟨k,rfl,q⟩
 .obtain ⟨u,rfl,t,rfl⟩:=vals1 r
  exact call_int_int ⟨.int i,H,I,⟨_,rfl⟩,q⟩
 .obtain ⟨u,rfl,r1⟩:=vals1 r
  cases r1
  exact call_int_bool ⟨.int (if k then 1 else 0),H,I.tok _,⟨_,rfl⟩,q⟩
theorem Zgh:CallR X (.builtin "divmod") (λxs H Q=>∃ i j,xs=[.int i,.int j]/\CDiv i j/\∀ p,H p=none->Q (.ref p) (upd H p (.tup [.int (i / j),.int (i % j)]))):=by
 intro pins s σ H xs us Q I r h
 obtain ⟨i,j,rfl,⟨h1,h2⟩,q⟩:=h
 obtain ⟨u,w',rfl,⟨t,rfl⟩,⟨t',rfl⟩⟩:=vals2 r
 refine divmod_int (by omega) ?_ (.inl (PyProof.noPylong_small (by omega)))
 rw [Int.fdiv_eq_ediv_of_nonneg i (by omega),Int.fmod_eq_emod_of_nonneg i (by omega)]
 have hn:H s.heap.objs.size=none:=I.hok.fresh (Nat.le_refl _)
 refine ⟨.ref s.heap.objs.size,_,?_,rfl,q _ hn⟩
 refine I.laid (λb o e=>Heap.get?_push_of_some _ e) (Nat.le_refl _) ⟨by simp only [length_cons,length_nil]; rw [sizeLine_eq]; decide,[.int (i / j) s.toks,.int (i % j) (s.toks+1)],.cons ⟨_,rfl⟩ (.cons ⟨_,rfl⟩ .nil),?_⟩
 exact ⟨_,Heap.get?_push_size s.heap rfl,rfl,0,rfl⟩
end
structure ObjM (h:Heap) (x dx C:Addr) (mA:Str->Option Value):Prop where
 obj:h.get? x=some (W.instObj C dx)
 ns:h.Ns1 dx mA
 ne:dx≠x
theorem ZiH {h:Heap} {dx:Addr} {mA:Str->Option Value} (n:h.Ns1 dx mA):∃ od,h.get? dx=some od/\∀ name,W.lookIn name od=some (mA name):=by
 obtain ⟨o,es,ep,ho,hd,hk,_,hm⟩:=n
 refine ⟨o,ho,λname=>?_⟩
 have e:=hm name
 unfold nsFind findBy at e
 rw [← Array.find?_toList] at e
 unfold W.lookIn
 rw [hd]
 dsimp only
 split
 .rename_i y q
  rw [q] at e
  exact congrArg some e
 .rename_i q
  rw [q] at e
  have a:es.toList.any (·.refKey)=false:=by
   rw [List.any_eq_false]
   intro y hy
   obtain ⟨z,t,hkey⟩:=hk y (Array.mem_toList_iff.mp hy)
   simp [DictEntry.refKey,hkey]
  have a':¬ es.toList.any (·.refKey)=true:=by rw [a]; exact Bool.false_ne_true
  rw [if_neg a']
  exact congrArg some e
theorem ObjM.look {h:Heap} {x dx C:Addr} {mA:Str->Option Value} (I:ObjM h x dx C mA):∃ od,W.InstAt h x (W.instObj C dx) C (some od)/\∀ name,W.lookIn name od=some (mA name) :=
 let ⟨od,ho,hl⟩:=ZiH I.ns
 ⟨od,⟨I.obj,rfl,rfl,ho⟩,hl⟩
section
variable {prog:Program} {w:World} {A:Around} {E:Value->Shared->Prop} {s:Shared} {K:W.Frag} {x dx C f:Addr} {mA:Str->Option Value} {name:Str} {v:Value}
theorem Zmg {expr:Bool} {Q:Value->Shared->Prop} (X:K.In s.heap) (I:ObjM s.heap x dx C mA) (hg:W.plainGet K C name=true) (hh:W.hasDictIn K C=true)
  (ha:W.findIn K (.ref C) name=some none) (hv:mA name=some v) (hv':W.handedIn v=true) (h:Q v { s with toks:=s.toks+1 }) :
  wpAny (model prog w) A (getAttr (.ref x) name expr) Q E s:=by
 obtain ⟨od,J,hl⟩:=I.look
 exact W.get_value X J (W.plainGet_of hg).1 (W.findObj_own hh ha rfl (by rw [hl,hv])) hv' h
theorem Zkz {pl:Sem Bool} {Q:Value×List Value->Shared->Prop} (X:K.In s.heap) (I:ObjM s.heap x dx C mA) (hg:W.plainGet K C name=true)
  (hf:W.findIn K (.ref C) name=some (some (.ref f))) (ht:W.isFn K (.ref f)=true) (hv:mA name=none) (h:Q (.ref f,[.ref x]) s) :
  wpAny (model prog w) A (getMethod (.ref x) name pl) Q E s:=by
 obtain ⟨od,J,hl⟩:=I.look
 exact W.method_fn X J (W.plainGet_of hg).1 (W.plainGet_of hg).2 hf (beq_iff_eq.mp ht) (by show (W.lookIn name od).map (·.isSome)=some false; rw [hl,hv]; rfl) h
theorem Zmh {ns:List Str} {Q:Unit->Shared->Prop} (X:K.In s.heap) (I:ObjM s.heap x dx C mA)
  (hs:W.findIn K (.ref C) "__setattr__" = some (some (.builtin "object.__setattr__"))) (hp:W.plainOver K C=true) (ht:W.takerIn K C name=some none) (hh:W.hasDictIn K C=true)
  (hw:PySem.Within mA ns) (hsz:ns.length<=sizeLine)
  (h:∀ h',ObjM h' x dx C (λy=>if y=name then some v else mA y)->Heap.SameBut dx s.heap h'->Q () { s with heap:=h',toks:=s.toks+2 }) :
  wpAny (model prog w) A (setAttr (.ref x) name v) Q E s:=by
 obtain ⟨od,J,hl⟩:=I.look
 refine W.set_plain X J hs (W.osa_open (s:={ s with toks:=s.toks+1 }) (r:=none) X J hp ht λb=>?_)
 obtain ⟨cd,hc,hd'⟩:=W.any_some hh
 have hx:s.heap.get? x=some ⟨.ref C,some dx,.plain,#[]⟩:=I.obj
 refine wpAny_bind (wpAny_pure (wpAny_bind (wpAny_bind (wpAny_loadPart hx (wpAny_bind (W.Looks.here (s:={ s with toks:=s.toks+1 }) (W.looks_clsIn X hc) ?_))))))
 rw [hd']
 refine wpAny_pure (a:=some dx) (wpAny_bind (wpAny_pure (wpAny_bind ?_)))
 refine wpAny_nsSet1 (s:={ s with toks:=s.toks+1 }) I.ns λh' hn2 hs2=>?_
 obtain ⟨oD,esD,epD,hoD,hdD,hcD⟩:=hn2.count (PySem.Within.cons name v hw)
 refine wpAny_bind (wpAny_lookBehind hoD (by rw [hdD]; exact pastItsLine_dict (Nat.le_trans hcD (by rw [length_cons]; omega))) ?_)
 exact wpAny_pure (h _ ⟨(hs2.2 _ (Ne.symm I.ne)).trans I.obj,hn2,I.ne⟩ hs2)
theorem ZkA {R:Result->Shared->Prop} {vs:List Value} {kw:List (Str×Value)} (X:K.In s.heap) (hm:W.makesIn K C=true)
  (hi:W.findIn K (.ref C) "__init__" = some (some (.ref f))) (hf:W.typeIn K (.ref f)=some (.type "function"))
  (h:codeAny (model prog w) (A.under (.builtin "type.__call__" ⟨.ref C :: vs,kw⟩)) (.call (.ref f) ⟨.ref (s.heap.objs.size+1) :: vs,kw⟩) (W.InitBack (s.heap.objs.size+1) R)
   { s with heap:=(s.heap.push W.emptyDict).push (W.instObj C s.heap.objs.size) }) :
  codeAny (model prog w) A (.call (.ref C) ⟨vs,kw⟩) R s:=by
 obtain ⟨hh,g,d,t,os⟩:=s
 exact W.make_core (W.makes_of X hm) (W.looks_findIn X hi) (λself=>W.bind_fn X self hf) (.inl rfl) h
end
def putF (f:Str) (v:V):List (Str×V)->List (Str×V)
 | []=>[(f,v)]
 | (g,x) :: r=>if g=f then (g,v) :: r else (g,x) :: putF f v r
theorem Zq (f g:Str) (v:V):∀ fs:List (Str×V),(putF f v fs).lookup g=if g=f then some v else fs.lookup g
 | []=>by
  show List.lookup g [(f,v)]=_
  by_cases h:g=f
  .have hb:(g == f)=true:=beq_iff_eq.mpr h
   simp only [List.lookup,hb,if_pos h]
  .have hb:(g == f)=false:=beq_eq_false_iff_ne.mpr h
   simp only [List.lookup,hb,if_neg h]
 | (k,x) :: r=>by
  have ih:=Zq f g v r
  rw [show putF f v ((k,x) :: r)=(if k=f then (k,v) :: r else (k,x) :: putF f v r) from rfl]
  by_cases hk:k=f
  .rw [if_pos hk]
   by_cases h:g=k
   .have hb:(g == k)=true:=beq_iff_eq.mpr h
    simp only [List.lookup,hb,if_pos (h.trans hk)]
   .have hb:(g == k)=false:=beq_eq_false_iff_ne.mpr h
    simp only [List.lookup,hb,if_neg (λe:g=f=>h (e.trans hk.symm))]
  .rw [if_neg hk]
   by_cases h:g=k
   .have hb:(g == k)=true:=beq_iff_eq.mpr h
    simp only [List.lookup,hb,if_neg (λe:g=f=>hk (h.symm.trans e))]
   .have hb:(g == k)=false:=beq_eq_false_iff_ne.mpr h
    simp only [List.lookup,hb]
    exact ih
theorem Zdi (f:Str) (v:V):∀ fs:List (Str×V),f∈(putF f v fs).map (·.1)/\∀ g,g∈fs.map (·.1)->g∈(putF f v fs).map (·.1)
 | []=>⟨by simp [putF],λg h=>by simp at h⟩
 | (k,x) :: r=>by
  obtain ⟨i1,i2⟩:=Zdi f v r
  rw [show putF f v ((k,x) :: r)=(if k=f then (k,v) :: r else (k,x) :: putF f v r) from rfl]
  by_cases hk:k=f
  .rw [if_pos hk]
   subst hk
   exact ⟨by simp,λg h=>by simpa using h⟩
  .rw [if_neg hk]
   refine ⟨?_,λg h=>?_⟩
   .rw [map_cons]
    exact mem_cons_of_mem _ i1
   .rw [map_cons] at h ⊢
    rcases List.mem_cons.mp h with e | e
    .exact List.mem_cons.mpr (.inl e)
    .exact mem_cons_of_mem _ (i2 g e)
theorem Zdj (f:Str) (v:V):∀ fs:List (Str×V),(putF f v fs).length<=fs.length+1
 | []=>by simp [putF]
 | (k,x) :: r=>by
  have ih:=Zdj f v r
  rw [show putF f v ((k,x) :: r)=(if k=f then (k,v) :: r else (k,x) :: putF f v r) from rfl]
  by_cases hk:k=f
  .rw [if_pos hk,length_cons,length_cons]; omega
  .rw [if_neg hk,length_cons,length_cons]; omega
theorem RelO.some_of {v:V} {o:Option Value} (r:RelO (some v) o):∃ u,o=some u/\RelV v u:=by
 cases o with
 | none=>exact (show False from r).elim
 | some u=>exact ⟨u,rfl,r⟩
theorem RelO.none_of {o:Option Value} (r:RelO none o):o=none:=by
 cases o with
 | none=>rfl
 | some u=>exact (show False from r).elim
theorem ZiI {v:V} {u:Value} (r:RelV v u):W.handedIn u=true:=by
 cases v with
 | non=>cases (show u=Value.none from r); rfl
 | bl b=>cases (show u=Value.bool b from r); rfl
 | int i=>obtain ⟨t,e⟩:=(show ∃ t,u=Value.int i t from r); cases e; rfl
 | str x=>obtain ⟨t,e⟩:=(show ∃ t,u=Value.str x t from r); cases e; rfl
 | byt b=>obtain ⟨t,e⟩:=(show ∃ t,u=Value.bytes b t from r); cases e; rfl
 | flt b=>obtain ⟨t,e⟩:=(show ∃ t,u=Value.float b t from r); cases e; rfl
 | ref a=>cases (show u=Value.ref a from r); rfl
 | ty n=>cases (show u=Value.type n from r); rfl
section
variable {P:Program} {w:World} {H H':Hp} {h h':Heap} {a C dx:Addr} {fs fs':List (Str×V)}
theorem Zew (hok:HOk P w H h) (e:H a=some (.ins C dx fs)):∃ mA,ObjM h a dx C mA/\(∀ f,RelO (fs.lookup f) (mA f))/\PySem.Within mA (fs.map (·.1))/\fs.length<=1000/\H dx=some (.own a):=by
 obtain ⟨d,z,ne,ob,mA,n,r,q⟩:=(show ObjOk P w H h a (.ins C dx fs) from hok a _ e)
 exact ⟨mA,⟨ob,n,ne⟩,r,q,z,d⟩
end
structure Cls (K:W.Frag) (C:Addr):Prop where
 pg:W.plainGet K C Str.empty=true
 hd:W.hasDictIn K C=true
 po:W.plainOver K C=true
 sa:W.findIn K (.ref C) "__setattr__" = some (some (.builtin "object.__setattr__"))
theorem Cls.get {K:W.Frag} {C:Addr} (c:Cls K C) (f:Str):W.plainGet K C f=true:=c.pg
def NoAttr (K:W.Frag) (C:Addr) (f:Str):Prop:=W.findIn K (.ref C) f=some none
theorem NoAttr.taker {K:W.Frag} {C:Addr} {f:Str} (n:NoAttr K C f):W.takerIn K C f=some none:=by
 unfold W.takerIn
 rw [show W.findIn K (.ref C) f=some none from n]
 rfl
structure Meth (K:W.Frag) (C:Addr) (m:Str) (f:Addr):Prop where
 at_:W.findIn K (.ref C) m=some (some (.ref f))
 fn:W.isFn K (.ref f)=true
 kp:W.keepIn K (.ref f)=true
section
variable {X:Cx} {pins:List (Addr×Obj)} {σ:St} {H:Hp} {s:Shared} {a C dx:Addr} {fs:List (Str×V)} {f:Str} {v:V} {A:Around} {E:Value->Shared->Prop}
theorem ZhR {b:Bool} {Q:Value->Shared->Prop} (I:Inv X pins σ H s) (e:H a=some (.ins C dx fs)) (c:Cls X.K C) (n:NoAttr X.K C f) (l:fs.lookup f=some v)
  (h:∀ u s',Inv X pins σ H s'->RelV v u->Q u s'):wpAny (model X.prog X.w) A (getAttr (.ref a) f b) Q E s:=by
 obtain ⟨mA,O,r,_,_,_⟩:=Zew I.hok e
 obtain ⟨u,hu,ru⟩:=RelO.some_of (v:=v) (o:=mA f) (by rw [← l]; exact r f)
 exact Zmg I.kIn O (c.get f) c.hd n hu (ZiI ru) (h u _ (I.tok _) ru)
theorem ZhS {m:Str} {g:Addr} {pl:Sem Bool} {Q:Value×List Value->Shared->Prop} (I:Inv X pins σ H s) (e:H a=some (.ins C dx fs)) (c:Cls X.K C) (k:Meth X.K C m g) (l:fs.lookup m=none)
  (h:Q (.ref g,[.ref a]) s):wpAny (model X.prog X.w) A (getMethod (.ref a) m pl) Q E s:=by
 obtain ⟨mA,O,r,_,_,_⟩:=Zew I.hok e
 have hn:mA m=none:=RelO.none_of (by rw [← l]; exact r m)
 exact Zkz I.kIn O (c.get m) k.at_ k.fn hn h
theorem ZhT {y:V} {u:Value} {Q:Unit->Shared->Prop} (I:Inv X pins σ H s) (e:H a=some (.ins C dx fs)) (c:Cls X.K C) (n:NoAttr X.K C f) (hl:fs.length<1000) (ry:RelV y u)
  (h:∀ s',Inv X pins σ (upd H a (.ins C dx (putF f y fs))) s'->Q () s'):wpAny (model X.prog X.w) A (setAttr (.ref a) f u) Q E s:=by
 obtain ⟨mA,O,r,wi,_,ho⟩:=Zew I.hok e
 have hz:(fs.map (·.1)).length<=sizeLine:=by rw [length_map,sizeLine_eq]; omega
 refine Zmh I.kIn O c.sa c.po n.taker c.hd wi hz λh' O' sb=>h _ ?_
 have hd:∃ o,h'.get? dx=some o:=let ⟨o,_,_,e',_⟩:=O'.ns; ⟨o,e'⟩
 refine I.write (x:=a) (e:=dx) (by rw [e]; exact True.intro) (.inr ho) (λb q hb z=>(sb.2 b hb).trans z) hd ?_
 refine ⟨by rw [Ze O.ne]; exact ho,?_,O.ne,O'.obj,_,O'.ns,λg=>?_,λg hg=>?_⟩
 .have:=Zdj f y fs; omega
 .show RelO ((putF f y fs).lookup g) (if g=f then some u else mA g)
  rw [Zq]
  by_cases q:g=f
  .rw [if_pos q,if_pos q]; exact ry
  .rw [if_neg q,if_neg q]; exact r g
 .by_cases q:g=f
  .rw [q]; exact (Zdi f y fs).1
  .refine (Zdi f y fs).2 g (wi g λz=>hg ?_)
   show (if g=f then some u else mA g)=none
   rw [if_neg q]; exact z
theorem Inv.made (I:Inv X pins σ H s):Inv X pins σ (upd (upd H s.heap.objs.size (.own (s.heap.objs.size+1))) (s.heap.objs.size+1) (.ins C s.heap.objs.size []))
  { s with heap:=(s.heap.push W.emptyDict).push (W.instObj C s.heap.objs.size) }:=by
 have e1:(s.heap.push W.emptyDict).get? s.heap.objs.size=some W.emptyDict:=Heap.get?_push_size s.heap rfl
 have e2:((s.heap.push W.emptyDict).push (W.instObj C s.heap.objs.size)).get? (s.heap.objs.size+1)=some (W.instObj C s.heap.objs.size):=by
  have:=Heap.get?_push_size (s.heap.push W.emptyDict) (o:=W.instObj C s.heap.objs.size) rfl
  rwa [Heap.size_push] at this
 have e3:(s.heap.push W.emptyDict).Ns s.heap.objs.size (λ_=>none):=⟨W.emptyDict,#[],_,e1,rfl,(λe he=>absurd he (by simp)),λ_=>rfl⟩
 have I1:=I.laid (a:=s.heap.objs.size) (o:=.own (s.heap.objs.size+1)) (h':=s.heap.push W.emptyDict) (t':=s.toks) (λb u q=>Heap.get?_push_of_some _ q) (Nat.le_refl _) ⟨_,e1⟩
 refine I1.laid (a:=s.heap.objs.size+1) (o:=.ins C s.heap.objs.size []) (t':=s.toks) (λb u q=>Heap.get?_push_of_some _ q) (Nat.le_of_eq (Heap.size_push _ _)) ?_
 have ne:s.heap.objs.size≠s.heap.objs.size+1:=Nat.ne_of_lt (Nat.lt_succ_self _)
 refine ⟨by rw [Ze ne,Za],Nat.zero_le _,ne,e2,λ_=>none,(Heap.Ns1.of_empty e3).at λo q=>Heap.get?_push_of_some _ q,λ_=>True.intro,λy hy=>absurd rfl hy⟩
theorem Zmi {prog:Program} {w:World} {env:Env} {e:Expr} {f:Str} {pos:Pos} {s:Shared} {Q:Value->Shared->Prop} (hb:attributeBase e f env (eval e env)=eval e env)
  (h:wpAny (model prog w) A (eval e env) (λo s₁=>wpAny (model prog w) A (getAttr o f true) Q E s₁) E s):wpAny (model prog w) A (eval (.Attribute e f pos) env) Q E s :=
 Attribute_any_ h (by rw [arm_eval_Attribute,hb])
end
def tFld (K:W.Frag) (ta:TE) (f:Str):TE:=λσ H Q=>ta σ H λx H1=>∃ a C dx fs v,x=.ref a/\H1 a=some (.ins C dx fs)/\Cls K C/\NoAttr K C f/\fs.lookup f=some v/\Q v H1
def sFld (K:W.Frag) (ta tv:TE) (f:Str):TS:=λD σ H=>tv σ H λy H1=>ta σ H1 λx H2=>∃ a C dx fs,x=.ref a/\H2 a=some (.ins C dx fs)/\Cls K C/\NoAttr K C f/\fs.length<1000 /\
 D.nx σ (upd H2 a (.ins C dx (putF f y fs)))
def InOp (X:Cx) (op:Operator) (rd:V->V->Hp->VK->Prop):Prop :=
 ∀ (pins:List (Addr×Obj)) (s:Shared) (σ:St) (H:Hp) (x y:V) (u v:Value) (Q:VK),Inv X pins σ H s->RelV x u->RelV y v->rd x y H Q->wpAny (model X.prog X.w) X.A (inplaceOp op u v) (EP X pins σ Q) X.xe s
section
variable {X:Cx} {o e value:Expr} {f:Str} {pos pos' tpos:Pos} {ta tv:TE}
theorem Zng (he:PE X e ta) (hb:attributeBase e f X.env (eval e X.env)=eval e X.env):PE X (.Attribute e f pos) (tFld X.K ta f):=by
 intro pins s σ H Q I h
 refine Zmi hb (thn (he pins s σ H _ I h) λu s1 ⟨x,H1,I1,rx,a,C,dx,fs,v,ex,ea,c,n,l,q⟩=>?_)
 subst ex
 obtain rfl:u=Value.ref a:=rx
 exact ZhR I1 ea c n l λu' s2 I2 ru=>⟨v,H1,I2,ru,q⟩
theorem Zfi (ha:PE X o ta) (hv:PE X value tv) (hs:swapsWith value (some (.Attribute o f pos')) pos.line X.env=pure false):PS X (.Assign [.Attribute o f pos'] value pos) (sFld X.K ta tv f):=by
 intro pins s σ H D I h
 refine plainObj_wpAny_Assign_Attribute (thn (hv pins s σ H _ I h) λu s1 ⟨y,H1,I1,ry,q⟩=>thn (ha pins s1 σ H1 _ I1 q) λov s2 ⟨x,H2,I2,rx,a,C,dx,fs,ex,ea,c,n,l,q2⟩=>?_) hs
 subst ex
 obtain rfl:ov=Value.ref a:=rx
 exact ZhT I2 ea c n l ry λs3 I3=>⟨σ,_,I3,q2⟩
def rAdd:V->V->Hp->VK->Prop:=λx y H Q=>∃ i j,x=.int i/\y=.int j/\Q (.int (i+j)) H
theorem Znh:InOp X .Add rAdd:=by
 rintro pins s σ H x y u v Q I rx ry ⟨i,j,rfl,rfl,q⟩
 obtain ⟨t,rfl⟩:=(show ∃ t,u=Value.int i t from rx)
 obtain ⟨t',rfl⟩:=(show ∃ t',v=Value.int j t' from ry)
 exact PyProof.Rows.iadd_int ⟨.int (i+j),H,I.tok _,⟨_,rfl⟩,q⟩
end
section
variable {X:Cx} {pins:List (Addr×Obj)} {σ:St} {H:Hp} {s:Shared} {A:Around} {E:Value->Shared->Prop} {Q:Value->Shared->Prop} {c:Value} {b:Bool}
inductive TyOf (K:W.Frag) (H:Hp):V->Value->Prop where
 | non:TyOf K H .non (.type "NoneType")
 | bl (x:Bool):TyOf K H (.bl x) (.type "bool")
 | int (i:Int):TyOf K H (.int i) (.type "int")
 | str (x:Str):TyOf K H (.str x) (.type "str")
 | flt (x:UInt64):TyOf K H (.flt x) (.type "float")
 | lst {a:Addr} {xs:List V} (e:H a=some (.lst xs)):TyOf K H (.ref a) (.type "list")
 | frz {a:Addr} {o:Obj} {xs:List V} (e:H a=some (.frz o (.lst xs))):TyOf K H (.ref a) (.type "list")
 | tup {a:Addr} {xs:List V} (e:H a=some (.tup xs)):TyOf K H (.ref a) (.type "tuple")
 | dK {a:Addr} {kvs:List (Key×V)} (e:H a=some (.dK kvs)):TyOf K H (.ref a) (.type "dict")
 | dT {a:Addr} {kvs:List (List Key×V)} (e:H a=some (.dT kvs)):TyOf K H (.ref a) (.type "dict")
 | ins {a C dx:Addr} {fs:List (Str×V)} (e:H a=some (.ins C dx fs)) (cl:Cls K C) (ha:W.findIn K (.ref C) "__class__" = some (some (.builtin "object.__class__")))
   (hn:W.specialIn K (.builtin "object.__class__") "__get__" = some (some (.builtin "getset_descriptor.__get__"))) (htk:W.takesIn K (.builtin "object.__class__")=some true)
   (hm:W.mroIn K C (.type "object")=some true):TyOf K H (.ref a) (.ref C)
theorem ZiJ {x:V} {u t:Value} (I:Inv X pins σ H s) (rx:RelV x u) (ty:TyOf X.K H x t) (e:W.kitOne X.K t c=some b) (h:∀ tk,Q (.bool b) { s with toks:=tk }) :
  wpAny (model X.prog X.w) A (call (.builtin "isinstance") [u,c]) Q E s:=by
 cases ty with
 | non=>cases (show u=Value.none from rx); exact W.kia_one W.kitx_none I.kIn True.intro e (λz=>nomatch z) h
 | bl y=>cases (show u=Value.bool y from rx); exact W.kia_one W.kitx_bool I.kIn True.intro e (λz=>nomatch z) h
 | int i=>obtain ⟨t,q⟩:=(show ∃ t,u=Value.int i t from rx); cases q; exact W.kia_one W.kitx_int I.kIn True.intro e (λz=>nomatch z) h
 | str y=>obtain ⟨t,q⟩:=(show ∃ t,u=Value.str y t from rx); cases q; exact W.kia_one W.kitx_str I.kIn True.intro e (λz=>nomatch z) h
 | flt y=>obtain ⟨t,q⟩:=(show ∃ t,u=Value.float y t from rx); cases q; exact W.kia_one W.kitx_float I.kIn True.intro e (λz=>nomatch z) h
 | @lst a xs ea =>
  cases (show u=Value.ref a from rx)
  obtain ⟨_,_,n,_,h1⟩:=(show ObjOk X.prog X.w H s.heap a (.lst xs) from I.hok a _ ea)
  exact W.kia_one W.kitx_list I.kIn ⟨_,h1,rfl⟩ e (λz=>nomatch z) h
 | @frz a ob xs ea =>
  cases (show u=Value.ref a from rx)
  obtain ⟨_,_,_,n,_,h1⟩:=(show ObjOk X.prog X.w H s.heap a (.frz ob (.lst xs)) from I.hok a _ ea)
  exact W.kia_one W.kitx_list I.kIn ⟨_,h1,rfl⟩ e (λz=>nomatch z) h
 | @tup a xs ea =>
  cases (show u=Value.ref a from rx)
  obtain ⟨_,_,_,p⟩:=(show ObjOk X.prog X.w H s.heap a (.tup xs) from I.hok a _ ea)
  obtain ⟨o,h1,h2,_⟩:=p
  exact W.kia_one W.kitx_tuple I.kIn ⟨o,h1,h2⟩ e (λz=>nomatch z) h
 | @dK a kvs ea =>
  cases (show u=Value.ref a from rx)
  obtain ⟨_,_,vs,_,p⟩:=(show ObjOk X.prog X.w H s.heap a (.dK kvs) from I.hok a _ ea)
  obtain ⟨o,es,ep,h1,h2,_⟩:=p
  exact W.kia_one W.kitx_dict I.kIn ⟨o,h1,h2.1⟩ e (λz=>nomatch z) h
 | @dT a kvs ea =>
  cases (show u=Value.ref a from rx)
  obtain ⟨_,_,xs,_,o,es,ep,h1,h2,_⟩:=(show ObjOk X.prog X.w H s.heap a (.dT kvs) from I.hok a _ ea)
  exact W.kia_one W.kitx_dict I.kIn ⟨o,h1,h2.1⟩ e (λz=>nomatch z) h
 | @ins a C dx fs ea cl ha hn htk hm =>
  cases (show u=Value.ref a from rx)
  obtain ⟨mA,O,_⟩:=Zew I.hok ea
  obtain ⟨od,J,_⟩:=O.look
  exact W.kia_one (W.kitx_own (cl.get _) cl.hd ha hn htk hm) I.kIn J e (λz=>nomatch z) h
end
structure Room (k:Nat) (A:Around):Prop where
 hd:A.handled=none
 dp:A.depth+3 * k+5<recursionLimit
 un:A.units+16 * k+200<cLine
 gd:A.guards=some []
theorem Room.mono {j k:Nat} {A:Around} (r:Room k A) (h:j<=k):Room j A:=⟨r.hd,by have:=r.dp; omega,by have:=r.un; omega,r.gd⟩
theorem Room.deeper {k:Nat} {A:Around} (r:Room (k+1) A) (env:Env):Room k (A.deeper env) :=
 ⟨r.hd,by have:=r.dp; show A.depth+1+3 * k+5<_; omega,by have:=r.un; show A.units+3+16 * k+200<_; omega,r.gd⟩
theorem ZhU {A:Around} {C:Addr} {us:List Value} {kw:List (Str×Value)}:(A.under (.builtin "type.__call__" ⟨.ref C :: us,kw⟩)).depth=A.depth+1:=by
 first | rfl | simp [Around.under,Code.weight,Code.isCreation,Code.isGuard,Code.isCaller,Code.frames,Code.isFrame,guardIds]
theorem ZhV {A:Around} {C:Addr} {us:List Value} {kw:List (Str×Value)}:(A.under (.builtin "type.__call__" ⟨.ref C :: us,kw⟩)).units=A.units+1:=by
 first | rfl | simp [Around.under,Code.cUnits,Code.frames,Code.isFrame]
theorem Room.make {k:Nat} {A:Around} (r:Room (k+1) A) (C:Addr) (us:List Value) (kw:List (Str×Value)):Room k (A.under (.builtin "type.__call__" ⟨.ref C :: us,kw⟩)) :=
 ⟨r.hd,by have:=r.dp; rw [ZhU]; omega,by have:=r.un; rw [ZhV]; omega,r.gd⟩
theorem Room.depth {k:Nat} {A:Around} (r:Room k A):A.depth<recursionLimit:=by have:=r.dp; omega
theorem Room.units {k:Nat} {A:Around} (r:Room k A):A.units+64<cLine:=by have:=r.un; omega
def tNil:TA:=λ_ H Q=>Q [] H
def tCons (ta:TE) (tr:TA):TA:=λσ H Q=>ta σ H λx H1=>tr σ H1 λxs H2=>Q (x :: xs) H2
section
variable {X:Cx} {e:Expr} {es:List Expr} {te:TE} {t:TA} {pos:Pos}
theorem Zd:PA X [] tNil:=λ_ _ _ _ H Q I h=>Calls.spliced_nil ⟨[],H,I,.nil,h⟩
theorem Zmj (ha:PE X e te) (hr:PA X es t) (hs:starEach (e :: es) X.env=(false,eval e X.env) :: starEach es X.env:=by rfl):PA X (e :: es) (tCons te t):=by
 intro pos pins s σ H Q I h
 rw [hs]
 show wpAny _ _ (spliced ((false,eval e X.env) :: backTo pos (starEach es X.env))) _ _ s
 refine Calls.spliced_cons (thn (ha pins s σ H _ I h) λu s1 ⟨x,H1,I1,r1,q1⟩=>?_)
 exact thn (hr pos pins s1 σ H1 _ I1 q1) λus s2 ⟨xs,H2,I2,r2,q2⟩=>⟨x :: xs,H2,I2,.cons r1 r2,q2⟩
def tTup (t:TA):TE:=λσ H Q=>t σ H λxs H1=>xs.length<=sizeLine/\∀ p,H1 p=none->Q (.ref p) (upd H1 p (.tup xs))
def tLst (t:TA):TE:=λσ H Q=>t σ H λxs H1=>xs.length<=sizeLine/\∀ p,H1 p=none->Q (.ref p) (upd H1 p (.lst xs))
theorem ZbC {x1} (h:PA X es t):PE X (.Tuple es x1 pos) (tTup t):=by
 intro pins s σ H Q I hq
 refine wpAny_Tuple_spliced (thn (h pos pins s σ H _ I hq) λus s1 ⟨xs,H1,I1,r,z,q⟩=>⟨by rw [← r.length]; exact z,?_⟩)
 have hf:H1 s1.heap.objs.size=none:=I1.hok.fresh (Nat.le_refl _)
 refine ⟨.ref s1.heap.objs.size,upd H1 s1.heap.objs.size (.tup xs),I1.laid (t':=s1.toks) (λb u e=>Heap.get?_push_of_some _ e) (Nat.le_refl _) ?_,rfl,q _ hf⟩
 exact ⟨z,us,r,⟨_,Heap.get?_push_size _ rfl,rfl,_,rfl⟩⟩
theorem Zz (h:PA X es t):PE X (.List es pos) (tLst t):=by
 intro pins s σ H Q I hq
 refine wpAny_List_spliced (thn (h pos pins s σ H _ I hq) λus s1 ⟨xs,H1,I1,r,z,q⟩=>⟨by rw [← r.length]; exact z,?_⟩)
 have hf:H1 s1.heap.objs.size=none:=I1.hok.fresh (Nat.le_refl _)
 refine ⟨.ref s1.heap.objs.size,upd H1 s1.heap.objs.size (.lst xs),I1.laid (t':=s1.toks) (λb u e=>Heap.get?_push_of_some _ e) (Nat.le_refl _) ?_,rfl,q _ hf⟩
 exact ⟨z,us,0,r,Heap.get?_push_size _ rfl⟩
end
abbrev Sp:=List V->Hp->VK->XK->Prop
abbrev CXT:=List Env->Hp->Shared->XK->Value->Shared->Prop
structure Env0 (P:Program) (w:World) (K:W.Frag) (mg:Str->Option Value) (base:Heap) (A:Around) (outer:List Env) (s:Shared) (H:Hp):Prop where
 frames:A.frames=some outer
 mod:Mod K mg base
 bs:∀ b o,base.get? b=some o->s.heap.get? b=some o/\H b=none
 bsz:base.objs.size<=s.heap.objs.size
 funs:s.heap.FunFrames base outer
 frf:∀ b∈frs outer,H b=none
 hok:HOk P w H s.heap
 bare:AllBare s.gens
def CE (outer:List Env) (P:Program) (w:World) (H:Hp) (s:Shared) (Q:VK) (u:Value) (s':Shared):Prop :=
 ∃ v H',s'.os=s.os/\AllBare s'.gens/\Un (frs outer) [] H H' s.heap s'.heap/\HOk P w H' s'.heap/\RelV v u/\Q v H'
def CR (CX:CXT) (outer:List Env) (P:Program) (w:World) (H:Hp) (s:Shared) (Q:VK) (E:XK) (r:Result) (s':Shared):Prop :=
 match r with
 | .ok (.ret u)=>CE outer P w H s Q u s'
 | .ok _=>False
 | .error e=>CX outer H s E e s'
structure FnOk (P:Program) (w:World) (K:W.Frag) (mg:Str->Option Value) (base:Heap) (CX:CXT) (k:Nat) (f:Addr) (fd:FuncData) (ps:List Str) (sp:Sp):Prop where
 len:∀ vs H Q E,sp vs H Q E->vs.length=ps.length
 run:∀ (A:Around) (outer:List Env) (s:Shared) (H:Hp) (args:Args) (us:List Value) (vs:List V) (Q:VK) (E:XK),Room k A->Env0 P w K mg base A outer s H->BindsTo s fd args (ps.zip us)->Vals vs us->sp vs H Q E ->
  codeAny (model P w) A (.call (.ref f) args) (CR CX outer P w H s Q E) s
theorem Env0.make {P:Program} {w:World} {K:W.Frag} {mg:Str->Option Value} {base:Heap} {A:Around} {outer:List Env} {s:Shared} {H:Hp} (e:Env0 P w K mg base A outer s H) (C:Addr) (us:List Value) (kw:List (Str×Value)) :
  Env0 P w K mg base (A.under (.builtin "type.__call__" ⟨.ref C :: us,kw⟩)) outer s H:=⟨by first | exact e.frames | (simpa [Around.under,Code.envs,Code.isFrame,pushEnvs] using e.frames),e.mod,e.bs,e.bsz,e.funs,e.frf,e.hok,e.bare⟩
section
variable {X:Cx} {pins:List (Addr×Obj)} {σ:St} {H:Hp} {s s':Shared}
theorem Inv.env0 (I:Inv X pins σ H s):Env0 X.prog X.w X.K X.mg X.base X.A X.stack s H :=
 ⟨I.ok.frames,I.ok.mod,I.bs,Nat.le_trans I.ok.bsz I.sz,I.stack,I.stkFree,I.hok,I.bare⟩
theorem Inv.after {Q:VK} {u:Value} (I:Inv X pins σ H s) (h:CE X.stack X.prog X.w H s Q u s'):EP X pins σ Q u s':=by
 obtain ⟨v,H',os,bare,un,hok,r,q⟩:=h
 obtain ⟨hh,g,d,t,os'⟩:=s'
 obtain rfl:os'=s.os:=os
 exact ⟨v,H',I.call (h':=hh) (g':=g) (d':=d) (t':=t) (ch:=[]) un hok bare (λb z=>absurd z (by simp)),r,q⟩
end
def tCall (sp:Sp) (dvs:List V) (E:XK) (t:TA):TE:=λσ H Q=>t σ H λvs H1=>sp (vs++dvs) H1 Q E
def tMeth (C:Addr) (m:Str) (sp:Sp) (dvs:List V) (E:XK) (ta:TE) (t:TA):TE:=λσ H Q=>ta σ H λx H1=>∃ a dx fs,x=.ref a/\H1 a=some (.ins C dx fs)/\fs.lookup m=none /\
 t σ H1 λvs H2=>sp (x :: (vs++dvs)) H2 Q E
def tMake (C:Addr) (sp:Sp) (dvs:List V) (E:XK) (t:TA):TE:=λσ H Q=>t σ H λvs H1=>∀ x dx,H1 x=none->H1 dx=none->dx≠x ->
 sp (.ref x :: (vs++dvs)) (upd (upd H1 dx (.own x)) x (.ins C dx [])) (λv H2=>v=.non/\Q (.ref x) H2) E
def Binds (K:W.Frag) (fd:FuncData) (ps:List Str) (ds:List Value):Prop :=
 ∀ (s:Shared) (us:List Value),K.In s.heap->(us++ds).length=ps.length->BindsTo s fd ⟨us,[]⟩ (ps.zip (us++ds))
theorem Binds.all {K:W.Frag} {fd:FuncData} {ps:List Str} (h:∀ us:List Value,us.length=ps.length->bindArgs fd ⟨us,[]⟩=pure (ps.zip us)):Binds K fd ps []:=λs us _ hl=>by
 rw [append_nil] at hl ⊢
 exact .of_eq (h us hl)
def Zec (CX:CXT) (X:Cx) (E:XK):Prop:=∀ (pins:List (Addr×Obj)) (σ:St) (H:Hp) (s:Shared) (e:Value) (s':Shared),Inv X pins σ H s->CX X.stack H s E e s'->X.xe e s'
section
variable {X:Cx} {CX:CXT} {k:Nat} {f C:Addr} {fd:FuncData} {ps:List Str} {sp:Sp} {dvs:List V} {ds:List Value} {E:XK} {x m:Str} {p pos apos:Pos} {e o:Expr} {es:List Expr} {ta:TE} {t:TA}
theorem ZlC {pins:List (Addr×Obj)} {σ:St} {H:Hp} {s:Shared} {Q:VK} {us:List Value} {vs:List V} (F:FnOk X.prog X.w X.K X.mg X.base CX k f fd ps sp) (hr:Room k X.A) (hb:Binds X.K fd ps ds) (hd:Vals dvs ds) (hx:Zec CX X E)
  (I:Inv X pins σ H s) (r:Vals vs us) (h:sp (vs++dvs) H Q E):wpAny (model X.prog X.w) X.A (call (.ref f) us) (EP X pins σ Q) X.xe s:=by
 have r2:Vals (vs++dvs) (us++ds):=r.append hd
 have hl:(us++ds).length=ps.length:=by rw [← r2.length]; exact F.len _ _ _ _ h
 refine wpAny_call (codeAny_mono (F.run X.A X.stack s H ⟨us,[]⟩ (us++ds) (vs++dvs) Q E hr I.env0 (hb s us I.kIn hl) r2 h) λr s' hq=>?_)
 cases r with
 | error e=>exact hx pins σ H s e s' I hq
 | ok fl =>
  cases fl with
  | ret u=>exact I.after hq
  | next=>exact False.elim hq
  | brk=>exact False.elim hq
  | cont=>exact False.elim hq
theorem Zmk (F:FnOk X.prog X.w X.K X.mg X.base CX k f fd ps sp) (hr:Room k X.A) (hg:Gl X x) (hm:X.mg x=some (.ref f)) (hk:W.keepIn X.K (.ref f)=true) (hb:Binds X.K fd ps ds) (hd:Vals dvs ds) (hx:Zec CX X E)
  (ha:PA X (e :: es) t) (hdb:(x == ("__debug__" : Str))=false:=by decide) (he:starEach (e :: es) X.env=(false,eval e X.env) :: starEach es X.env:=by rfl) (hpl:(backTo pos (starEach es X.env)).any (·.1)=false:=by rfl) :
  PE X (.Call (.Name x p) (e :: es) [] pos) (tCall sp dvs E t):=by
 intro pins s σ H Q I h
 refine wpAny_Call_Name_kw (Ziw I hg hm ?_ hdb)
 refine W.callWith_K (h₀:=X.base) I.ok.mod.kin hk (thn (ha pos pins s σ H _ I h) λus s1 ⟨vs,H1,I1,r,q⟩=>⟨I1.kIn,?_⟩) he hpl
 exact ZlC F hr hb hd hx I1 r q
theorem Zml {pl:Sem Bool} (he:PE X o ta) (c:Cls X.K C) (hm:Meth X.K C m f) (F:FnOk X.prog X.w X.K X.mg X.base CX k f fd ps sp) (hr:Room k X.A) (hb:Binds X.K fd ps ds) (hd:Vals dvs ds) (hx:Zec CX X E) (ha:PA X (e :: es) t)
  (hst:starEach (e :: es) X.env=(false,eval e X.env) :: starEach es X.env:=by rfl) (hpl:(backTo pos (starEach es X.env)).any (·.1)=false:=by rfl)
  (ht:eval (.Call (.Attribute o m apos) (e :: es) [] pos) X.env=(do
   let ov ← eval o X.env
   standAt apos.atName
   let (f,first) ← holding [ov] (getMethod ov m pl)
   callWith pos f first (backTo pos (starEach (e :: es) X.env)) (backToKw pos (keywordEach [] X.env))):=by rfl) :
  PE X (.Call (.Attribute o m apos) (e :: es) [] pos) (tMeth C m sp dvs E ta t):=by
 intro pins s σ H Q I h
 refine W.methodCall_KW (pl:=pl) (thn (he pins s σ H _ I h) λu s1 ⟨x,H1,I1,rx,a,dx,fs,ex,ea,l,q⟩=>?_) ht
 subst ex
 obtain rfl:u=Value.ref a:=rx
 refine ZhS I1 ea c hm l ?_
 refine W.callWith_K (first:=[.ref a]) (h₀:=X.base) I.ok.mod.kin hm.kp (thn (ha pos pins s1 σ H1 _ I1 q) λus s2 ⟨vs,H2,I2,r,q2⟩=>⟨I2.kIn,?_⟩) hst hpl
 exact ZlC (us:=.ref a :: us) (vs:=.ref a :: vs) F hr hb hd hx I2 (.cons rfl r) q2
structure Mk (K:W.Frag) (C f:Addr):Prop where
 makes:W.makesIn K C=true
 init:W.findIn K (.ref C) "__init__" = some (some (.ref f))
 fn:W.isFn K (.ref f)=true
 kp:W.keepIn K (.ref C)=true
theorem ZkB {pins:List (Addr×Obj)} {σ:St} {H:Hp} {s:Shared} {Q:VK} {us:List Value} {vs:List V} (M:Mk X.K C f) (F:FnOk X.prog X.w X.K X.mg X.base CX k f fd ps sp) (hr:Room (k+1) X.A) (hb:Binds X.K fd ps ds) (hd:Vals dvs ds)
  (hx:Zec CX X E) (I:Inv X pins σ H s) (r:Vals vs us)
  (h:∀ x dx,H x=none->H dx=none->dx≠x->sp (.ref x :: (vs++dvs)) (upd (upd H dx (.own x)) x (.ins C dx [])) (λv H2=>v=.non/\Q (.ref x) H2) E) :
  wpAny (model X.prog X.w) X.A (call (.ref C) us) (EP X pins σ Q) X.xe s:=by
 have hq:=h (s.heap.objs.size+1) s.heap.objs.size (I.hok.fresh (Nat.le_succ _)) (I.hok.fresh (Nat.le_refl _)) (Nat.ne_of_lt (Nat.lt_succ_self _))
 have I2:=Inv.made (C:=C) I
 have r2:Vals (V.ref (s.heap.objs.size+1) :: (vs++dvs)) (Value.ref (s.heap.objs.size+1) :: (us++ds)):=.cons rfl (r.append hd)
 have hl:(Value.ref (s.heap.objs.size+1) :: us++ds).length=ps.length:=by
  have e:=r2.length
  rw [F.len _ _ _ _ hq] at e
  exact e.symm
 refine wpAny_call (ZkA (f:=f) I.kIn M.makes M.init (beq_iff_eq.mp M.fn) (codeAny_mono (F.run _ X.stack _ _ ⟨Value.ref (s.heap.objs.size+1) :: us,[]⟩ (Value.ref (s.heap.objs.size+1) :: (us++ds)) _ _ E (hr.make C us [])
  (I2.env0.make C us []) (hb _ (Value.ref (s.heap.objs.size+1) :: us) I2.kIn hl) r2 hq) λr s' hq'=>?_))
 cases r with
 | error e=>exact hx pins σ _ _ e s' I2 hq'
 | ok fl =>
  cases fl with
  | ret u =>
   obtain ⟨v,H',I3,rv,ev,q3⟩:=I2.after hq'
   subst ev
   exact ⟨rv,⟨V.ref (s.heap.objs.size+1),H',I3,rfl,q3⟩⟩
  | next=>exact False.elim hq'
  | brk=>exact False.elim hq'
  | cont=>exact False.elim hq'
theorem Zmm (M:Mk X.K C f) (F:FnOk X.prog X.w X.K X.mg X.base CX k f fd ps sp) (hr:Room (k+1) X.A) (hg:Gl X x) (hm:X.mg x=some (.ref C)) (hb:Binds X.K fd ps ds) (hd:Vals dvs ds) (hx:Zec CX X E)
  (ha:PA X (e :: es) t) (hdb:(x == ("__debug__" : Str))=false:=by decide) (he:starEach (e :: es) X.env=(false,eval e X.env) :: starEach es X.env:=by rfl) (hpl:(backTo pos (starEach es X.env)).any (·.1)=false:=by rfl) :
  PE X (.Call (.Name x p) (e :: es) [] pos) (tMake C sp dvs E t):=by
 intro pins s σ H Q I h
 refine wpAny_Call_Name_kw (Ziw I hg hm ?_ hdb)
 refine W.callWith_K (h₀:=X.base) I.ok.mod.kin M.kp (thn (ha pos pins s σ H _ I h) λus s1 ⟨vs,H1,I1,r,q⟩=>⟨I1.kIn,?_⟩) he hpl
 exact ZkB M F hr hb hd hx I1 r q
end
structure FnScope (N P:List Str) (sc:Scope):Prop where
 kind:sc.kind=.function
 co:sc.isCoroutine=false
 gen:sc.isGenerator=false
 nd:N.Nodup
 pre:N.take P.length=P
 par:∀ x∈P,sc.names.lookup x=some .local\/sc.names.lookup x=some .cell
 nofree:∀ y∈sc.names,y.2≠.free
theorem Zfj {kindOf:Str->Option NameKind} {x:Str}:∀ {binds:List (Str×Value)} {m:Str->Option Value},(∀ v,(x,v)∉binds)->bindL kindOf binds m x=m x
 | [],_,_=>rfl
 | (n,v) :: r,m,h=>by
  unfold bindL
  rw [Zfj λw hw=>h w (mem_cons_of_mem _ hw)]
  split
  .have:x≠n:=by rintro rfl; exact h v mem_cons_self
   simp [this]
  .rfl
theorem Zfk {kindOf:Str->Option NameKind} {x:Str}:∀ {binds:List (Str×Value)} {m:Str->Option Value},(∀ v,(x,v)∉binds)->bindC kindOf binds m x=m x
 | [],_,_=>rfl
 | (n,v) :: r,m,h=>by
  unfold bindC
  rw [Zfk λw hw=>h w (mem_cons_of_mem _ hw)]
  split
  .rfl
  .have:x≠n:=by rintro rfl; exact h v mem_cons_self
   simp [this]
theorem Zfl {kindOf:Str->Option NameKind} {x:Str} {v:Value}:∀ {P:List Str} {vs:List Value} {i:Nat} {m:Str->Option Value},P.Nodup->P[i]?=some x->vs[i]?=some v->kindOf x=some .local ->
  bindL kindOf (P.zip vs) m x=some v
 | [],_,_,_,_,h,_,_=>by simp at h
 | _ :: _,[],_,_,_,_,h,_=>by simp at h
 | p :: P,w :: vs,0,m,nd,h1,h2,hk=>by
  simp at h1 h2; subst h1; subst h2
  show bindL kindOf ((p,w) :: P.zip vs) m p=_
  unfold bindL
  rw [Zfj λv hv=>(List.nodup_cons.mp nd).1 (List.of_mem_zip hv).1,if_pos hk]
  simp
 | p :: P,w :: vs,i+1,m,nd,h1,h2,hk=>by
  show bindL kindOf ((p,w) :: P.zip vs) m x=_
  unfold bindL
  exact Zfl (i:=i) (List.nodup_cons.mp nd).2 (by simpa using h1) (by simpa using h2) hk
theorem Zfm {kindOf:Str->Option NameKind} {x:Str} {v:Value}:∀ {P:List Str} {vs:List Value} {i:Nat} {m:Str->Option Value},P.Nodup->P[i]?=some x->vs[i]?=some v->kindOf x≠some .local ->
  bindC kindOf (P.zip vs) m x=some v
 | [],_,_,_,_,h,_,_=>by simp at h
 | _ :: _,[],_,_,_,_,h,_=>by simp at h
 | p :: P,w :: vs,0,m,nd,h1,h2,hk=>by
  simp at h1 h2; subst h1; subst h2
  show bindC kindOf ((p,w) :: P.zip vs) m p=_
  unfold bindC
  rw [Zfk λv hv=>(List.nodup_cons.mp nd).1 (List.of_mem_zip hv).1,if_neg hk]
  simp
 | p :: P,w :: vs,i+1,m,nd,h1,h2,hk=>by
  show bindC kindOf ((p,w) :: P.zip vs) m x=_
  unfold bindC
  exact Zfm (i:=i) (List.nodup_cons.mp nd).2 (by simpa using h1) (by simpa using h2) hk
def start (N:List Str) (vs:List V):St:=vs.map some++List.replicate (N.length - vs.length) none
def cxOf (CX:CXT) (P:Program) (w:World) (K:W.Frag) (mg:Str->Option Value) (base:Heap) (N:List Str) (qual:Str) (scope:Scope) (f:Addr) (cd:Value) (A:Around) (outer:List Env) (s:Shared) (H:Hp) (E:XK):Cx where
 prog:=P
 w:=w
 K:=K
 mg:=mg
 base:=base
 A:=A.deeper (envOfC qual scope s.heap.objs.size f cd)
 N:=N
 s₀:=s
 H₀:=H
 env:=envOfC qual scope s.heap.objs.size f cd
 outer:=outer
 stack:=envOfC qual scope s.heap.objs.size f cd :: outer
 ex:=[]
 calm:=true
 fn:=λ_=>true
 pn:=[]
 xe:=λe s'=>wpAny (model P w) (A.deeper (envOfC qual scope s.heap.objs.size f cd)) (leaving (envOfC qual scope s.heap.objs.size f cd) e) (λ_ s''=>CX outer H s E e s'') (λe' s''=>CX outer H s E e' s'') s'
theorem ZgW {sc:Scope} {n:Nat} {x:Str} (h:sc.names.lookup x=some .cell):∃ c,(cellsFrom n sc.names []).lookup x=some c:=by
 have q:=W.cellsFrom_some sc.names n [] (.inl h)
 exact Option.isSome_iff_exists.mp q
theorem ZiK {CX:CXT} {P:Program} {w:World} {K:W.Frag} {mg:Str->Option Value} {base:Heap} {N ps:List Str} {qual:Str} {scope:Scope} {f:Addr} {cd:Value} {A:Around} {outer:List Env} {s s1:Shared} {H:Hp} {E:XK} {us:List Value} {vs:List V}
  (S:FnScope N ps scope) (hd:A.handled=none) (e0:Env0 P w K mg base A outer s H) (hl:vs.length=ps.length) (r:Vals vs us)
  (x:InCallC s s.heap.objs.size (bindL (envOfC qual scope s.heap.objs.size f cd).kindOf (ps.zip us) λ_=>none) (cellsFrom (s.heap.objs.size+1) scope.names []) (bindC (envOfC qual scope s.heap.objs.size f cd).kindOf (ps.zip us) λ_=>none) s1) :
  Inv (cxOf CX P w K mg base N qual scope f cd A outer s H E) [] (start N vs) H s1:=by
 have hpl:ps.length<=N.length:=by have:=congrArg List.length S.pre; rw [length_take] at this; omega
 obtain ⟨h1,tk,rfl,hk⟩:=x.done
 have noA:∀ b:Addr,b∉(cxOf CX P w K mg base N qual scope f cd A outer s H E).ex:=λb z=>absurd (show b∈([]:List Addr) from z) (by simp)
 refine ⟨⟨e0.mod,S.kind,rfl,rfl,Nat.le_refl _,λy z c h1 h2=>?_,λy hy=>?_,λy c _ h=>?_,λ_=>hd,Around.frames_deeper e0.frames,.inr ⟨rfl,rfl⟩,λb z=>absurd z (noA b),e0.bs,e0.bsz,λb _ _=>noA b,λb z=>absurd z (noA b),e0.funs,e0.frf⟩,
  rfl,e0.bare,Un.kept hk,⟨_,x.toInCall.ns,λi y v h1 h2 h3=>?_⟩,λy c h=>⟨_,x.cell y c h⟩,e0.hok.fresh (Nat.le_refl _),λy c h=>?_,λp hp=>absurd (show p∈([]:List (Addr×Obj)) from hp) (by simp),e0.hok.kept hk,?_⟩
 .exact name_of_addr x.apart (PySem.mem_of_lookup h1) (PySem.mem_of_lookup h2)
 .have hy:scope.names.lookup y=some .cell\/scope.names.lookup y=some .free:=hy
  rcases hy with hy | hy
  .exact ZgW hy
  .exact absurd rfl (S.nofree _ (PySem.mem_of_lookup hy))
 .exact Nat.le_of_lt (x.above y c (PySem.mem_of_lookup h))
 .have hi:i<vs.length:=by
   unfold start at h2
   by_cases hi:i<vs.length
   .exact hi
   .rw [getElem?_append_right (by simpa using hi)] at h2
    rw [List.getElem?_replicate] at h2
    split at h2 <;> cases h2
  have ha:vs[i]?=some v:=by
   unfold start at h2
   rw [getElem?_append_left (by simpa using hi),getElem?_map] at h2
   cases e:vs[i]? with
   | none=>rw [e] at h2; cases h2
   | some a=>rw [e] at h2; cases h2; rfl
  obtain ⟨u,hu,rv⟩:=r.get ha
  have hp:ps[i]?=some y:=by
   rw [← S.pre,List.getElem?_take_of_lt (by omega)]; exact h1
  have ndP:ps.Nodup:=by rw [← S.pre]; exact S.nd.sublist (List.take_sublist _ _)
  refine ⟨u,rv,?_⟩
  rcases S.par y (mem_of_getElem? hp) with k | k
  .exact .inl ⟨k,Zfl ndP hp hu k⟩
  .obtain ⟨c,e⟩:=ZgW (n:=s.heap.objs.size+1) k
   refine .inr ⟨.inl k,c,e,?_⟩
   have q:=x.cell y c e
   rw [Zfm ndP hp hu (by show scope.names.lookup y≠_; rw [k]; decide)] at q
   exact q
 .exact e0.hok.fresh (Nat.le_of_lt (x.above y c (PySem.mem_of_lookup h)))
 .unfold start
  show _=N.length
  rw [length_append,length_map,List.length_replicate]
  omega
theorem fn_of {CX:CXT} {P:Program} {w:World} {K:W.Frag} {mg:Str->Option Value} {base:Heap} {k:Nat} {f:Addr} {name qual:Str} {params:Arguments} {body:List Stmt} {scope:Scope} {dV kV doc pm cdv ct oc:Value} {an od:Option Addr}
  {osl:Array (Option Value)} {N ps:List Str} {sp:Sp} (lk:K.lookup f=some ⟨oc,od,.func (W.fnOf name qual params body scope dV kV doc pm an cdv ct),osl⟩) (hcd:W.codeIn K cdv qual=true) (S:FnScope N ps scope)
  (len:∀ vs H Q E,sp vs H Q E->vs.length=ps.length)
  (hbody:∀ (A:Around) (outer:List Env) (s:Shared) (H:Hp) (vs:List V) (Q:VK) (E:XK),Room k (A.deeper (envOfC qual scope s.heap.objs.size f cdv))->sp vs H Q E ->
   ∃ t,PSs (cxOf CX P w K mg base N qual scope f cdv A outer s H E) body t/\t { nx:=λ_ H'=>Q .non H',rt:=Q } (start N vs) H) :
  FnOk P w K mg base CX (k+1) f (W.fnOf name qual params body scope dV kV doc pm an cdv ct) ps sp:=by
 refine ⟨len,λA outer s H args us vs Q E hr e0 hb r hsp=>?_⟩
 have hl:=len _ _ _ _ hsp
 have KX:K.In s.heap:=e0.mod.kin.keeps λb o e=>(e0.bs b o e).1
 have lim:s.heap.NoLimit:=e0.mod.nolimit.keeps λb o e=>(e0.bs b o e).1
 have hkind:∀ y∈ps.zip us,scope.names.lookup y.1=some .local\/(scope.names.lookup y.1=some .cell/\((cellsFrom (s.heap.objs.size+1) scope.names []).lookup y.1).isSome=true):=λ⟨n,v⟩ hy=>by
  rcases S.par n (List.of_mem_zip hy).1 with q | q
  .exact .inl q
  .exact .inr ⟨q,W.cellsFrom_some _ _ _ (.inl q)⟩
 refine codeAny_call_function hr.depth (KX _ _ lk) rfl S.co S.gen rfl (W.codeRec_of KX hcd) (hb _ _ _ _ ?_)
 refine wpAny_newFunctionEnv_cells S.kind hkind λenv he s1 x=>?_
 subst he
 refine ⟨lim.keeps x.toInCall.keep,codeAny_func ?_⟩
 obtain ⟨t,ht,hq⟩:=hbody A outer s H vs Q E (hr.deeper _) hsp
 have I:Inv (cxOf CX P w K mg base N qual scope f cdv A outer s H E) [] (start N vs) H s1:=ZiK S hr.hd e0 hl r x
 refine wpAny_mono (ht [] s1 (start N vs) H _ I hq) (λfl s' hs=>?_) λe s' hs=>hs
 have fin:∀ {σ':St} {H':Hp} {v:V} {u:Value},Inv (cxOf CX P w K mg base N qual scope f cdv A outer s H E) [] σ' H' s'->RelV v u->Q v H'->CE outer P w H s Q u s' :=
  λ{σ' H' v u} J rv q=>⟨v,H',J.os,J.bare,J.base,J.hok,rv,q⟩
 cases fl with
 | ret u =>
  obtain ⟨v,σ',H',J,rv,q⟩:=hs
  exact fin J rv q
 | next =>
  obtain ⟨σ',H',J,q⟩:=hs
  exact fin (v:=V.non) (u:=Value.none) J rfl q
 | brk =>
  obtain ⟨_,_,_,q⟩:=hs
  exact False.elim q
 | cont =>
  obtain ⟨_,_,_,q⟩:=hs
  exact False.elim q
section
variable {X:Cx} {x:Str} {p pos:Pos} {e:Expr} {es:List Expr} {t:TA} {id T:String} {r:List V->Hp->VK->Prop}
def tCB (r:List V->Hp->VK->Prop) (t:TA):TE:=λσ H Q=>t σ H λvs H1=>r vs H1 Q
theorem ZkC (hc:CallR X (.builtin id) r) (hg:Gl X x) (hm:X.mg x=none) (hv:bootBuiltins x=some (.builtin id)) (ha:PA X (e :: es) t) (hn:x ≠ "__name__" := by decide) (hdb:(x == ("__debug__" : Str))=false:=by decide)
  (he:starEach (e :: es) X.env=(false,eval e X.env) :: starEach es X.env:=by rfl) (hpl:(backTo pos (starEach es X.env)).any (·.1)=false:=by rfl):PE X (.Call (.Name x p) (e :: es) [] pos) (tCB r t):=by
 intro pins s σ H Q I h
 refine wpAny_Call_Name_kw (ZbZ I hg hm hv ?_ hn hdb)
 exact PyProof.Rows.callWith_builtin1 (thn (ha pos pins s σ H _ I h) λus s1 ⟨vs,H1,I1,r1,q1⟩=>hc pins s1 σ H1 vs us Q I1 r1 q1) he hpl
theorem ZiL (hc:CallR X (.type T) r) (hg:Gl X x) (hm:X.mg x=none) (hv:bootBuiltins x=some (.type T)) (ha:PA X (e :: es) t) (hn:x ≠ "__name__" := by decide) (hdb:(x == ("__debug__" : Str))=false:=by decide)
  (he:starEach (e :: es) X.env=(false,eval e X.env) :: starEach es X.env:=by rfl) (hpl:(backTo pos (starEach es X.env)).any (·.1)=false:=by rfl):PE X (.Call (.Name x p) (e :: es) [] pos) (tCB r t):=by
 intro pins s σ H Q I h
 refine wpAny_Call_Name_kw (ZbZ I hg hm hv ?_ hn hdb)
 exact PyProof.Rows.callWith_type1 (thn (ha pos pins s σ H _ I h) λus s1 ⟨vs,H1,I1,r1,q1⟩=>hc pins s1 σ H1 vs us Q I1 r1 q1) he hpl
end
end L2
namespace HT
open PySem PyProof.Rows
def lexLt:List Int->List Int->Bool
 | [],[]=>false
 | [],_ :: _=>true
 | _ :: _,[]=>false
 | x :: xs,y :: ys=>if x=y then lexLt xs ys else decide (x<y)
theorem lexLt_cons (x y:Int) (xs ys:List Int):lexLt (x :: xs) (y :: ys)=if x=y then lexLt xs ys else decide (x<y):=rfl
theorem lexLt_nil_nil:lexLt [] []=false:=rfl
theorem ZbS (y:Int) (ys:List Int):lexLt [] (y :: ys)=true:=rfl
theorem lexLt_cons_nil (x:Int) (xs:List Int):lexLt (x :: xs) []=false:=rfl
theorem ZgX (A:Around) (s:Shared) (a:Int) (t:Tok) (c:Int) (u:Tok):∃ e,SeqAt.EqAt A s (.int a t) (.int c u) e/\(e=true↔a=c) :=
 ⟨(a == c),SeqAt.EqAt.int_int a t c u,by simp⟩
theorem ZkD (A:Around) (s:Shared) (a:Int) (t:Tok) (c:Int) (u:Tok) (prog:Program) (w:World) (E:Value->Shared->Prop) (Q:Value->Shared->Prop) (h:Q (.bool (decide (a<c))) s) :
  wpAny (model prog w) A (richCompare .Lt (.int a t) (.int c u)) Q E s :=
 (PyProof.Rows.lt_int h:wpAny (model prog w) A (compareOp .Lt (.int a t) (.int c u)) Q E s)
section
open PySem.SeqAt
open PySem.AutoSeq1 (wpAny_loadPart')
open PySem.MeetsSeq PySem.MeetsSeq2 PySem.MeetsSeq3
theorem Zex (l b:Addr) (items items2:Array Value) (n n2:Nat) (dd dd2:Option Addr) (sl sl2:Array (Option Value)) (ns ms:List Int) (hi:IntsAre items.toList ns) (hj:IntsAre items2.toList ms) :
  Meets (Builtin.«tuple.__lt__» ⟨[.ref l,.ref b],[]⟩)
   (λ_ R s=>s.heap.get? l=some { cls:=.type "tuple",dict:=dd,data:=.seq items n,slots:=sl }/\s.heap.get? b=some { cls:=.type "tuple",dict:=dd2,data:=.seq items2 n2,slots:=sl2 } /\
    R (.ok (.ret (.bool (lexLt ns ms)))) s) :=
 .of_wp λprog w A R s h=>by
  obtain ⟨hp,g,d,tk,os⟩:=s; obtain ⟨hl,hb,h⟩:=h
  have f2:=AutoSeq1.sub_tuple_tuple
  have z1:items.size=ns.length:=by rw [← hi.length]; simp
  have z2:items2.size=ms.length:=by rw [← hj.length]; simp
  wp_walk using wpAny_loadPart' hl,wpAny_loadPart' hb,wpAny_forIn_list _ (λrest b s'=>b.1=none/\s'=⟨hp,g,d,tk,os⟩/\∃ (vs ws:List Value) (ns' ms':List Int),rest=vs.zip ws /\
   IntsAre vs ns'/\IntsAre ws ms'/\ns'.length+items2.size=ms'.length+items.size/\R (.ok (.ret (.bool (lexLt ns' ms')))) ⟨hp,g,d,tk,os⟩) _
  case turn =>
   rintro ⟨y,x⟩ rest b s' ⟨hb',rfl,vs,ws,ns',ms',hz,hvi,hwi,hlen,hR⟩
   cases hvi with
   | nil=>rw [List.zip_nil_left] at hz; cases hz
   | cons a t hvi' =>
    cases hwi with
    | nil=>rw [List.zip_nil_right] at hz; cases hz
    | cons c u hwi' =>
     rw [List.zip_cons_cons] at hz
     injection hz with hyx hrest
     injection hyx with hy hx
     subst hy hx
     rw [lexLt_cons] at hR
     simp only [length_cons] at hlen
     obtain ⟨e,he,hiff⟩:=ZgX A.in1 ⟨hp,g,d,tk,os⟩ a t c u
     refine wpAny_bind (he prog w _ _ ?_)
     cases e with
     | true =>
      rw [if_pos (hiff.mp rfl)] at hR
      wp_walk
      exact ⟨rfl,rfl,_,_,_,_,hrest,hvi',hwi',by omega,hR⟩
     | false =>
      rw [if_neg (λq=>absurd (hiff.mpr q) Bool.false_ne_true)] at hR
      have hri:=ZkD A.in1 ⟨hp,g,d,tk,os⟩ a t c u prog w
      wp_walk using hri
      exact ⟨_,rfl,by simpa using hR⟩
  case fin =>
   rintro ⟨b1,b2⟩ s' ⟨hb',rfl,vs,ws,ns',ms',hz,hvi,hwi,hlen,hR⟩
   simp only at hb'
   subst hb'
   have hv:lexLt ns' ms'=decide (items.size<items2.size):=by
    cases hvi with
    | nil =>
     cases hwi with
     | nil =>
      simp only [length_nil] at hlen
      rw [lexLt_nil_nil]
      exact (decide_eq_false (by omega)).symm
     | cons c u hw =>
      simp only [length_nil,length_cons] at hlen
      rw [ZbS]
      exact (decide_eq_true (by omega)).symm
    | cons a t hv =>
     cases hwi with
     | nil =>
      simp only [length_nil,length_cons] at hlen
      rw [lexLt_cons_nil]
      exact (decide_eq_false (by omega)).symm
     | cons c u hw =>
      rw [List.zip_cons_cons] at hz
      cases hz
   rw [hv] at hR
   wp_walk
   exact ⟨_,rfl,by simpa [Builtin.Tuple.tupleCompareSizes] using hR⟩
  case h =>
   exact ⟨rfl,rfl,items.toList,items2.toList,ns,ms,rfl,hi,hj,by omega,h⟩
end
section
variable {prog:Program} {w:World} {A:Around} {E:Value->Shared->Prop} {s:Shared}
theorem lt_tupInts {l b:Addr} {items items2:Array Value} {ns ms:List Int} {Q:Value->Shared->Prop} (hl:IsTup s.heap l items) (hb:IsTup s.heap b items2) (hi:IntsAre items.toList ns) (hj:IntsAre items2.toList ms)
  (hu:A.units<cLine) (h:Q (.bool (lexLt ns ms)) s):wpAny (model prog w) A (compareOp .Lt (.ref l) (.ref b)) Q E s:=by
 obtain ⟨⟨cls,dd,data,sl⟩,ho,hc,n,hd⟩:=id hl
 obtain ⟨⟨cls2,dd2,data2,sl2⟩,ho2,hc2,n2,hd2⟩:=id hb
 simp only at hc hd hc2 hd2
 subst hc hd hc2 hd2
 exact richCompare_meets_room (op:=.Lt) ⟨_,ho,rfl⟩ ⟨_,ho2,rfl⟩ PySem.F.slot_tuple_lt PySem.F.entry_tuple_lt (PySem.F.args_tuple_lt_2 _ _) (Zex l b items items2 n n2 dd dd2 sl sl2 ns ms hi hj)
  ⟨ho,ho2,show Value.bool (lexLt ns ms)≠Value.notImplemented/\Q (.bool (lexLt ns ms)) s from ⟨(λx=>nomatch x),h⟩⟩ hu
def sIx (n d:Nat):Option Int->Nat
 | none=>d
 | some v=>if v<0 then (v+(n:Int)).toNat else min v.toNat n
theorem sIx_none (n d:Nat):sIx n d none=d:=rfl
theorem sIx_nat (n d k:Nat):sIx n d (some (k:Int))=min k n:=by
 show (if (k:Int)<0 then ((k:Int)+(n:Int)).toNat else min (k:Int).toNat n)=min k n
 rw [if_neg (by omega),Int.toNat_natCast]
end
end HT
namespace L2
open PySem PySem.Spec PyProof.Rows
abbrev TO:=St->Hp->(Option Int->Hp->Prop)->Prop
def PO (X:Cx) (e:Option Expr) (t:TO):Prop :=
 ∀ (pins:List (Addr×Obj)) (s:Shared) (σ:St) (H:Hp) (Q:Option Int->Hp->Prop),Inv X pins σ H s->t σ H Q ->
  wpAny (model X.prog X.w) X.A (evalPart e X.env) (λu s'=>∃ o H',Inv X pins σ H' s'/\IsPart u o/\Q o H') X.xe s
def Zmn:TO:=λ_ H Q=>Q none H
def tPart (t:TE):TO:=λσ H Q=>t σ H λx H1=>∃ i,x=.int i/\Q (some i) H1
theorem ZaW {ns:List Int}:∀ {us:List Value},Vals (ns.map V.int) us->IntsAre us ns:=by
 induction ns with
 | nil=>intro us r; rw [map_nil] at r; cases r; exact .nil
 | cons n ns ih =>
  intro us r
  rw [map_cons] at r
  cases r with
  | cons r1 r2 =>
   obtain ⟨t,e⟩:=r1
   subst e
   exact .cons n t (ih r2)
section
variable {X:Cx} {e:Expr} {te:TE} {lo hi:Option Expr} {tl th:TO} {pos p2:Pos}
theorem Zdk:PO X none Zmn:=by
 intro pins s σ H Q I h
 rw [evalPart_none]
 exact wpAny_pure ⟨none,H,I,.none,h⟩
theorem Zdl (h:PE X e te):PO X (some e) (tPart te):=by
 intro pins s σ H Q I hw
 rw [evalPart_some]
 refine thn (h pins s σ H _ I hw) λu s1 ⟨x,H1,I1,r1,q1⟩=>?_
 obtain ⟨i,rfl,q⟩:=q1
 obtain ⟨t,rfl⟩:=r1
 exact ⟨some i,H1,I1,.int i t,q⟩
def SlR (X:Cx) (r:V->Option Int->Option Int->Hp->VK->Prop):Prop :=
 ∀ (pins:List (Addr×Obj)) (s:Shared) (σ:St) (H:Hp) (x:V) (v vl vu:Value) (lo hi:Option Int) (sl:Addr) (Q:VK),Inv X pins σ H s->RelV x v->s.heap.IsSliceOf sl vl vu .none->IsPart vl lo->IsPart vu hi->r x lo hi H Q ->
  ∃ T id,typeLookup (.type T) "__getitem__" = pure (some (.builtin id))/\s.TypeIs v T/\wpAny (model X.prog X.w) X.A (getItem v (.ref sl)) (EP X pins σ Q) X.xe s
def tSl (r:V->Option Int->Option Int->Hp->VK->Prop) (te:TE) (tl th:TO):TE:=λσ H Q=>te σ H λx H1=>tl σ H1 λl H2=>th σ H2 λu H3=>r x l u H3 Q
theorem ZgY {r:V->Option Int->Option Int->Hp->VK->Prop} (hr:SlR X r) (he:PE X e te) (hl:PO X lo tl) (hu:PO X hi th):PE X (.Subscript e (.Slice lo hi none p2) pos) (tSl r te tl th):=by
 intro pins s σ H Q I h
 refine Subscript_ (thn (he pins s σ H _ I h) λv s1 ⟨x,H1,I1,r1,q1⟩=>?_)
 refine wpAny_Slice (thn (hl pins s1 σ H1 _ I1 q1) λvl s2 ⟨l,H2,I2,pl,q2⟩=>thn (hu pins s2 σ H2 _ I2 q2) λvu s3 ⟨u,H3,I3,pu,q3⟩=>?_)
 rw [evalPart_none]
 refine wpAny_pure ?_
 have I4:Inv X pins σ H3 { s3 with heap:=s3.heap.push { cls:=.type "slice",data:=.fields #[vl,vu,.none] } }:=I3.kept (t':=s3.toks) λb ob q=>Heap.get?_push_of_some _ q
 obtain ⟨T,id,hT,ht,hg⟩:=hr pins { s3 with heap:=s3.heap.push { cls:=.type "slice",data:=.fields #[vl,vu,.none] } } σ H3 x v vl vu l u s3.heap.objs.size Q I4 r1 (Heap.IsSliceOf.new ..) pl pu q3
 show wpAny (model X.prog X.w) X.A (subscriptTail e (.Slice lo hi none p2) v (.ref s3.heap.objs.size)) (EP X pins σ Q) X.xe { s3 with heap:=s3.heap.push { cls:=.type "slice",data:=.fields #[vl,vu,.none] } }
 exact tail_any (ops:=[.ref s3.heap.objs.size,v]) ht hT hg (by with_unfolding_all rfl)
def cutV (xs:List V) (lo hi:Option Int):List V:=(xs.drop (HT.sIx xs.length 0 lo)).take (HT.sIx xs.length xs.length hi - HT.sIx xs.length 0 lo)
theorem Zgi (xs:List V) (lo hi:Option Int):(cutV xs lo hi).length<=xs.length:=by
 unfold cutV
 rw [length_take,length_drop]
 omega
end
def ixN (n:Nat) (i:Int):Option Nat:=if 0<=i then (if i<n then some i.toNat else none) else if -(n:Int)<=i then some (i+n).toNat else none
def atI {α:Type} (xs:List α) (i:Int):Option α:=(ixN xs.length i).bind λj=>xs[j]?
theorem ZiM {n:Nat} {i:Int} {j:Nat} (h:ixN n i=some j):seqIndex? i n=some j/\j<n /\ -(n:Int)<=i/\i<n:=by
 unfold ixN at h
 by_cases h0:0<=i
 .rw [if_pos h0] at h
  by_cases h1:i<n
  .rw [if_pos h1] at h
   have e:i.toNat=j:=Option.some.inj h
   exact ⟨by rw [seqIndex_of h0 h1,e],by omega,by omega,h1⟩
  .rw [if_neg h1] at h; cases h
 .rw [if_neg h0] at h
  by_cases h1 : -(n:Int)<=i
  .rw [if_pos h1] at h
   have e:(i+n).toNat=j:=Option.some.inj h
   exact ⟨by rw [seqIndex_neg (by omega) h1,e],by omega,h1,by omega⟩
  .rw [if_neg h1] at h; cases h
theorem Zmo {α:Type} {xs:List α} {i:Int} {v:α} (h:atI xs i=some v):∃ j,seqIndex? i xs.length=some j/\xs[j]?=some v/\j<xs.length /\ -(xs.length:Int)<=i/\i<xs.length:=by
 unfold atI at h
 cases e:ixN xs.length i with
 | none=>rw [e] at h; cases h
 | some j =>
  rw [e] at h
  obtain ⟨h1,h2,h3,h4⟩:=ZiM e
  exact ⟨j,h1,h,h2,h3,h4⟩
theorem Zao {α:Type} {xs:List α} {j:Nat} {v:α} (h:xs[j]?=some v):atI xs (j:Int)=some v:=by
 have hj:j<xs.length:=(List.getElem?_eq_some_iff.mp h).1
 have e:ixN xs.length (j:Int)=some j:=by
  unfold ixN
  rw [if_pos (by omega),if_pos (by omega)]; simp
 unfold atI; rw [e]; exact h
theorem ZgZ {α:Type} (xs:List α) (v:α):atI (xs++[v]) (-1)=some v:=by
 have hl:(xs++[v]).length=xs.length+1:=by simp
 have e:ixN (xs++[v]).length (-1)=some xs.length:=by
  unfold ixN
  rw [hl,if_neg (by decide),if_pos (by omega)]
  congr 1
  omega
 unfold atI
 rw [e]
 show (xs++[v])[xs.length]?=some v
 simp
def Zmp (b:Expr):Prop:=∀ o i,subscripted b false o i=operate [o,i] (getItem o i)
def IxR (X:Cx) (r:R2):Prop :=
 ∀ (value slice:Expr) (pins:List (Addr×Obj)) (s:Shared) (σ:St) (H:Hp) (x y:V) (v u:Value) (Q:VK),Inv X pins σ H s->RelV x v->RelV y u->r x y H Q ->
  subscripted slice false v u=operate [v,u] (getItem v u)->wpAny (model X.prog X.w) X.A (subscriptTail value slice v u) (EP X pins σ Q) X.xe s
def MtR (X:Cx) (id:String) (r:V->List V->Hp->VK->Prop):Prop :=
 ∀ (pins:List (Addr×Obj)) (s:Shared) (σ:St) (H:Hp) (x:V) (xs:List V) (v:Value) (us:List Value) (Q:VK),Inv X pins σ H s->RelV x v->Vals xs us->r x xs H Q ->
  wpAny (model X.prog X.w) X.A (call (.builtin id) (v :: us)) (EP X pins σ Q) X.xe s
section
variable {X:Cx} {a b:Expr} {ta tb:TE} {pos:Pos}
theorem pe_ix {r:R2} (hr:IxR X r) (ha:PE X a ta) (hb:PE X b tb) (hs:Zmp b):PE X (.Subscript a b pos) (tOp r ta tb):=by
 intro pins s σ H Q I h
 exact Subscript_ (binT ha hb I h λv u s2 x y H2 I2 rx ry q=>hr a b pins s2 σ H2 x y v u Q I2 rx ry q (hs _ _))
def rIxL (K:W.Frag):R2:=λx y H Q=>∃ p xs i v,x=.ref p/\y=.int i/\SqL K H p xs/\atI xs i=some v/\Q v H
theorem Zmq:IxR X (rIxL X.K):=by
 intro value slice pins s σ H x y v u Q I rx ry h hs
 obtain ⟨p,xs,i,z,rfl,rfl,hq,he,q⟩:=h
 cases rx
 obtain ⟨t,rfl⟩:=ry
 obtain ⟨its,r,pl,hz⟩:=I.list hq
 obtain ⟨j,h1,h2,h3,h4,h5⟩:=Zmo he
 obtain ⟨w,ew,rw'⟩:=r.get h2
 have hl:=r.length
 have hn:=ZgU
 have fin:EP X pins σ Q w s:=⟨z,H,I,rw',q⟩
 by_cases h0:0<=i
 .have hj:i.toNat=j:=by
   rw [seqIndex_of h0 h5] at h1
   exact Option.some.inj h1
  exact item_listR pl.isList h0 (by omega) (by rw [hj]; simpa using ew) fin hs
 .have hj:(i+(its.toArray.size:Int)).toNat=j:=by
   rw [seqIndex_neg (by omega) h4] at h1
   rw [List.size_toArray,← hl]
   exact Option.some.inj h1
  exact subscriptTail_builtinR (x:=w) pl.isList.typeIs slot_list_getitem.lookup
   (wpAny_getItem_list_neg (Q:=λr s'=>r=w/\EP X pins σ Q r s') pl.isList (by omega) (by rw [List.size_toArray] <;> omega) (by omega) (by rw [hj]; simpa using ew) ⟨rfl,fin⟩) hs
theorem ZhW (its:List Value) (n j:Nat) (u:Value):Obj.mapSeq (·.setIfInBounds j u) { cls:=.type "list",data:=.seq its.toArray n }={ cls:=.type "list",data:=.seq (its.set j u).toArray n }:=by
 simp [Obj.mapSeq]
theorem Inv.lst {pins:List (Addr×Obj)} {σ:St} {H:Hp} {s:Shared} {p:Addr} {xs:List V} (I:Inv X pins σ H s) (h:H p=some (.lst xs)) :
  ∃ (its:List Value) (n:Nat),Vals xs its/\s.heap.get? p=some { cls:=.type "list",data:=.seq its.toArray n }/\xs.length<=sizeLine:=by
 obtain ⟨z,its,n,r,e⟩:=I.hok p _ h
 exact ⟨its,n,r,e,z⟩
theorem Inv.lstUpd {pins:List (Addr×Obj)} {σ:St} {H:Hp} {s:Shared} {p:Addr} {xs ys:List V} {its its':List Value} {n n':Nat} {f:Obj->Obj} (I:Inv X pins σ H s) (h:H p=some (.lst xs))
  (ho:s.heap.get? p=some { cls:=.type "list",data:=.seq its.toArray n }) (hf:f { cls:=.type "list",data:=.seq its.toArray n }={ cls:=.type "list",data:=.seq its'.toArray n' }) (r:Vals ys its') (hz:ys.length<=sizeLine) (t:Nat) :
  Inv X pins σ (upd H p (.lst ys)) { s with heap:=s.heap.update p f,toks:=t }:=by
 have e:(s.heap.update p f).get? p=some { cls:=.type "list",data:=.seq its'.toArray n' }:=by
  rw [Heap.get?_update_self f ho (by rw [hf] <;> rfl),hf]
 refine I.write (x:=p) (e:=p) (by rw [h]; trivial) (.inl rfl) (λb u hb q=>(Heap.get?_update_other _ _ (Ne.symm hb)).trans q) ⟨_,e⟩ ?_
 exact ⟨hz,its',n',r,e⟩
def rSetL:V->V->V->Hp->(Hp->Prop)->Prop:=λo i v H Q=>∃ p xs k j,o=.ref p/\i=.int k/\H p=some (.lst xs)/\ixN xs.length k=some j/\Q (upd H p (.lst (xs.set j v)))
theorem ZbL:PSet X rSetL:=by
 intro pins s σ H o i v ov iv u Q I ro ri rv h
 obtain ⟨p,xs,k,j,rfl,rfl,hp,hj,q⟩:=h
 cases ro
 obtain ⟨t,rfl⟩:=ri
 obtain ⟨its,n,r,ho,hz⟩:=I.lst hp
 obtain ⟨h1,h2,h3,h4⟩:=ZiM hj
 have hl:=r.length
 have hn:=ZgU
 have I':Inv X pins σ (upd H p (.lst (xs.set j v))) { s with heap:=s.heap.update p (Obj.mapSeq (·.setIfInBounds j u)) } :=
  I.lstUpd hp ho (ZhW its n j u) (r.set rv j) (by rw [length_set]; exact hz) s.toks
 by_cases h0:0<=k
 .have hk:k.toNat=j:=by
   rw [seqIndex_of h0 h4] at h1
   exact Option.some.inj h1
  exact W.ki_setAt ho h0 (by omega) (by rw [List.size_toArray,← hl]; exact h4) (by rw [hk]; exact ⟨_,I',q⟩)
 .have hk:(k+(its.toArray.size:Int)).toNat=j:=by
   rw [seqIndex_neg (by omega) h3] at h1
   rw [List.size_toArray,← hl]
   exact Option.some.inj h1
  exact W.ki_setBack ho (by omega) (by rw [List.size_toArray,← hl]; exact h3) (by omega) (by rw [hk]; exact ⟨_,I',q⟩)
theorem Zfn (lo hi:Option Int) (n:Nat):(sliceBounds lo hi none n).1=((HT.sIx n 0 lo:Nat):Int)/\(sliceBounds lo hi none n).2.1=((HT.sIx n n hi:Nat):Int)/\(sliceBounds lo hi none n).2.2=1:=by
 refine ⟨?_,?_,rfl⟩
 .cases lo with
  | none=>simp [sliceBounds,HT.sIx]
  | some i =>
   simp only [sliceBounds,HT.sIx,Option.getD_none,show (1:Int) > 0 by decide,if_true]
   by_cases h:i<0
   .simp only [h,if_true] <;> omega
   .simp only [h,if_false] <;> omega
 .cases hi with
  | none=>simp [sliceBounds,HT.sIx]
  | some i =>
   simp only [sliceBounds,HT.sIx,Option.getD_none,show (1:Int) > 0 by decide,if_true]
   by_cases h:i<0
   .simp only [h,if_true] <;> omega
   .simp only [h,if_false] <;> omega
theorem Zey (its:List Value) (lo hi:Option Int):slicePick its.toArray lo hi none=((its.drop (HT.sIx its.length 0 lo)).take (HT.sIx its.length its.length hi - HT.sIx its.length 0 lo)).toArray:=by
 obtain ⟨h1,h2,h3⟩:=Zfn lo hi its.toArray.size
 unfold slicePick
 rw [h1,h2,h3]
 simp only [sliceRange_one,pick_run,List.size_toArray] <;> rfl
def rSlL (K:W.Frag):V->Option Int->Option Int->Hp->VK->Prop:=λx lo hi H Q=>∃ a xs,x=.ref a/\SqL K H a xs/\∀ p,H p=none->Q (.ref p) (upd H p (.lst (cutV xs lo hi)))
theorem Zmr:SlR X (rSlL X.K):=by
 intro pins s σ H x v vl vu lo hi sl Q I rx hs pl pu h
 obtain ⟨a,xs,rfl,hx,q⟩:=h
 cases rx
 obtain ⟨its,r,ht,hz⟩:=I.list hx
 have hlen:=r.length
 refine ⟨"list",_,slot_list_getitem.lookup,ht.isList.typeIs,?_⟩
 refine wpAny_getItem_list_slice ht.isList hs pl pu .none (by simp) ?_ (by rw [List.size_toArray] <;> omega)
 rw [Zey,← hlen]
 refine ⟨.ref s.heap.objs.size,_,I.laid (t':=s.toks) (o:=.lst (cutV xs lo hi)) (λb ob q=>Heap.get?_push_of_some _ q) (Nat.le_refl _) ?_,rfl,q _ (I.hok.fresh (Nat.le_refl _))⟩
 exact ⟨Nat.le_trans (Zgi xs lo hi) hz,_,0,(r.drop (HT.sIx xs.length 0 lo)).take (HT.sIx xs.length xs.length hi - HT.sIx xs.length 0 lo),Heap.get?_push_size _ rfl⟩
def flatV:V->Bool
 | .non=>true
 | .bl _=>true
 | .int _=>true
 | .str _=>true
 | _=>false
def eqV:V->V->Bool
 | .non,.non=>true
 | .bl a,.bl b=>a == b
 | .bl a,.int b=>(if a then 1 else 0) == b
 | .int a,.bl b=>a == (if b then 1 else 0)
 | .int a,.int b=>a == b
 | .str a,.str b=>a == b
 | _,_=>false
theorem Zni {A:Around} {s:Shared} {y x:V} {u v:Value} (ry:RelV y u) (rx:RelV x v) (fy:flatV y=true) (fx:flatV x=true):SeqAt.EqAt A s u v (eqV y x):=by
 cases y with
 | non =>
  cases ry
  cases x with
  | non=>cases rx; exact SeqAt.EqAt.same _
  | bl b=>cases rx; exact SeqAt.EqAt.none_bool b
  | int b=>obtain ⟨t,rfl⟩:=rx; exact SeqAt.EqAt.none_int b t
  | str b=>obtain ⟨t,rfl⟩:=rx; exact SeqAt.EqAt.none_str b t
  | _=>exact absurd (show false=true from fx) Bool.false_ne_true
 | bl a =>
  cases ry
  cases x with
  | non=>cases rx; exact SeqAt.EqAt.bool_none a
  | bl b=>cases rx; exact SeqAt.EqAt.bool_bool a b
  | int b=>obtain ⟨t,rfl⟩:=rx; exact SeqAt.EqAt.bool_int a b t
  | str b=>obtain ⟨t,rfl⟩:=rx; exact SeqAt.EqAt.bool_str a b t
  | _=>exact absurd (show false=true from fx) Bool.false_ne_true
 | int a =>
  obtain ⟨t',rfl⟩:=ry
  cases x with
  | non=>cases rx; exact SeqAt.EqAt.int_none a t'
  | bl b=>cases rx; exact SeqAt.EqAt.int_bool a t' b
  | int b=>obtain ⟨t,rfl⟩:=rx; exact SeqAt.EqAt.int_int a t' b t
  | str b=>obtain ⟨t,rfl⟩:=rx; exact SeqAt.EqAt.int_str a t' b t
  | _=>exact absurd (show false=true from fx) Bool.false_ne_true
 | str a =>
  obtain ⟨t',rfl⟩:=ry
  cases x with
  | non=>cases rx; exact SeqAt.EqAt.str_none a t'
  | bl b=>cases rx; exact SeqAt.EqAt.str_bool a t' b
  | int b=>obtain ⟨t,rfl⟩:=rx; exact SeqAt.EqAt.str_int a t' b t
  | str b=>obtain ⟨t,rfl⟩:=rx; exact SeqAt.EqAt.str_str a t' b t
  | _=>exact absurd (show false=true from fx) Bool.false_ne_true
 | _=>exact absurd (show false=true from fy) Bool.false_ne_true
def eqU (x:V) (u:Value):Bool:=match u with
 | .none=>eqV .non x
 | .bool b=>eqV (.bl b) x
 | .int i _=>eqV (.int i) x
 | .str z _=>eqV (.str z) x
 | _=>false
theorem ZlD {x y:V} {u:Value} (r:RelV y u) (f:flatV y=true):eqU x u=eqV y x:=by
 cases y with
 | non=>cases r; rfl
 | bl b=>cases r; rfl
 | int i=>obtain ⟨t,rfl⟩:=r; rfl
 | str z=>obtain ⟨t,rfl⟩:=r; rfl
 | _=>exact absurd (show false=true from f) Bool.false_ne_true
theorem Zdm {x:V}:∀ {xs:List V} {us:List Value},Vals xs us->xs.all flatV=true->us.any (eqU x)=xs.any λy=>eqV y x
 | _,_,.nil,_=>rfl
 | y :: xs,u :: us,.cons r t,f=>by
  rw [all_cons,Bool.and_eq_true] at f
  rw [any_cons,any_cons,ZlD r f.1,Zdm t f.2]
theorem Zcc {A:Around} {s:Shared} {x:V} {v:Value} (rx:RelV x v) (fx:flatV x=true):∀ {xs:List V} {us:List Value},Vals xs us->xs.all flatV=true->∀ u∈us,SeqAt.EqAt A s u v (eqU x u)
 | _,_,.nil,_=>λu hu=>by cases hu
 | y :: xs,u :: us,.cons r t,f=>λu' hu=>by
  rw [all_cons,Bool.and_eq_true] at f
  rcases List.mem_cons.mp hu with rfl | hu
  .rw [ZlD r f.1]; exact Zni r rx f.1 fx
  .exact Zcc rx fx t f.2 u' hu
def inV (x:V) (xs:List V):Bool:=xs.any λy=>eqV y x
def rIn (K:W.Frag) (neg:Bool):R2:=λx y H Q=>∃ p xs,y=.ref p/\(SqL K H p xs\/SqT K H p xs)/\flatV x=true/\xs.all flatV=true/\Q (.bl (if neg then !inV x xs else inV x xs)) H
theorem ZiN:OpR X (compareOp .In) (rIn X.K false):=by
 intro pins s σ H x y v u Q I rx ry h
 obtain ⟨p,xs,rfl,hq,fx,fs,q⟩:=h
 cases ry
 rcases hq with hq | hq
 .obtain ⟨its,r,pl,hz⟩:=I.list hq
  refine SeqAt.in_listAt (eqU x) pl.isList (λw hw=>Zcc rx fx r fs w (by simpa using hw)) ⟨.bl _,H,I,rfl,?_⟩
  rw [show its.toArray.any (eqU x)=its.any (eqU x) by simp,Zdm r fs]
  exact q
 .obtain ⟨its,r,pl,hz⟩:=I.tuple hq
  refine SeqAt.in_tupleAt (eqU x) pl (λw hw=>Zcc rx fx r fs w (by simpa using hw)) ⟨.bl _,H,I,rfl,?_⟩
  rw [show its.toArray.any (eqU x)=its.any (eqU x) by simp,Zdm r fs]
  exact q
theorem Zfo:OpR X (compareOp .NotIn) (rIn X.K true):=by
 intro pins s σ H x y v u Q I rx ry h
 obtain ⟨p,xs,rfl,hq,fx,fs,q⟩:=h
 cases ry
 rcases hq with hq | hq
 .obtain ⟨its,r,pl,hz⟩:=I.list hq
  refine SeqAt.notIn_listAt (eqU x) pl.isList (λw hw=>Zcc rx fx r fs w (by simpa using hw)) ⟨.bl _,H,I,rfl,?_⟩
  rw [show its.toArray.any (eqU x)=its.any (eqU x) by simp,Zdm r fs]
  exact q
 .obtain ⟨its,r,pl,hz⟩:=I.tuple hq
  refine SeqAt.notIn_tupleAt (eqU x) pl (λw hw=>Zcc rx fx r fs w (by simpa using hw)) ⟨.bl _,H,I,rfl,?_⟩
  rw [show its.toArray.any (eqU x)=its.any (eqU x) by simp,Zdm r fs]
  exact q
theorem Zfp:CallR X (.builtin "len") (λxs H Q=>∃ p ys,xs=[.ref p]/\(SqL X.K H p ys\/SqT X.K H p ys)/\Q (.int ys.length) H):=by
 intro pins s σ H xs us Q I r h
 obtain ⟨p,ys,rfl,hq,q⟩:=h
 obtain ⟨u,rfl,rx⟩:=vals1 r
 cases rx
 have hn:=ZgU
 rcases hq with hq | hq
 .obtain ⟨its,r',pl,hz⟩:=I.list hq
  have hlen:=r'.length
  exact Calls.call_len_list pl.isList (by simp only [List.size_toArray] <;> omega) ⟨.int ys.length,H,I.tok _,⟨s.toks+1,by rw [List.size_toArray,hlen]⟩,q⟩
 .obtain ⟨its,r',pl,hz⟩:=I.tuple hq
  have hlen:=r'.length
  exact len_tuple pl (by simp only [List.size_toArray] <;> omega) ⟨.int ys.length,H,I.tok _,⟨s.toks+1,by rw [List.size_toArray,hlen]⟩,q⟩
theorem Zfq:CallR X (.type "list") (λxs H Q=>∃ p ys,xs=[.ref p]/\(SqL X.K H p ys\/SqT X.K H p ys)/\∀ l,H l=none->Q (.ref l) (upd H l (.lst ys))):=by
 intro pins s σ H xs us Q I r h
 obtain ⟨p,ys,rfl,hq,q⟩:=h
 obtain ⟨u,rfl,rx⟩:=vals1 r
 cases rx
 have fin:∀ (its:List Value),Vals ys its->ys.length<=sizeLine->∀ (h':Heap) (c':Nat),(∀ b o',s.heap.get? b=some o'->h'.get? b=some o') ->
   h'.get? s.heap.objs.size=some { cls:=.type "list",dict:=none,data:=.seq its.toArray c',slots:=#[] }->EP X pins σ Q (.ref s.heap.objs.size) { s with heap:=h' }:=λits r' hz h' c' kp e =>
  ⟨.ref s.heap.objs.size,_,I.laid (t':=s.toks) kp (Nat.le_refl _) (show ObjOk X.prog X.w _ h' _ (.lst ys) from ⟨hz,its,c',r',e⟩),rfl,q _ (I.hok.fresh (Nat.le_refl _))⟩
 rcases hq with hq | hq
 .obtain ⟨its,r',pl,hz⟩:=I.list hq
  have hlen:=r'.length
  obtain ⟨o,ho,hc,n,hd⟩:=pl.isList
  exact call_list_seq p (.inl rfl) ho hc hd (λh' c' kp e=>fin its r' hz h' c' kp e) (by simp only [List.size_toArray] <;> omega)
 .obtain ⟨its,r',pl,hz⟩:=I.tuple hq
  have hlen:=r'.length
  obtain ⟨o,ho,hc,n,hd⟩:=pl
  exact call_list_seq p (.inr rfl) ho hc hd (λh' c' kp e=>fin its r' hz h' c' kp e) (by simp only [List.size_toArray] <;> omega)
def tyV (K:W.Frag) (T:String) (x:V) (H:Hp):Prop:=match x with
 | .str _=>T = "str"
 | .int _=>T = "int"
 | .ref p=>(T = "list" /\ ∃ xs,SqL K H p xs)\/(T = "tuple" /\ ∃ o,K.lookup p=some o/\o.cls=.type "tuple" /\ o.dict=none) \/
   (T = "dict" /\ ((∃ kvs,H p=some (.dK kvs))\/∃ kvs,H p=some (.dT kvs)))\/(T = "set" /\ ∃ S n,H p=some (.set S n))
 | _=>False
theorem Znj {pins:List (Addr×Obj)} {σ:St} {H:Hp} {s:Shared} {T:String} {x:V} {v:Value} (I:Inv X pins σ H s) (r:RelV x v) (ty:tyV X.K T x H) :
  s.TypeIs v T/\∀ a,v=.ref a->∃ ob,s.heap.get? a=some ob/\ob.dict=none:=by
 cases x with
 | str z =>
  obtain ⟨t,rfl⟩:=r
  cases (show T = "str" from ty)
  exact ⟨typeIs_str s z t,λ_ e=>nomatch e⟩
 | int i =>
  obtain ⟨t,rfl⟩:=r
  cases (show T = "int" from ty)
  exact ⟨typeIs_int s i t,λ_ e=>nomatch e⟩
 | ref p =>
  cases r
  rcases ty with ⟨rfl,xs,hq⟩ | ⟨rfl,o,hk,hc,hd⟩ | ⟨rfl,hk⟩ | ⟨rfl,S,n,hk⟩
  .obtain ⟨its,_,pl,_⟩:=I.list hq
   refine ⟨pl.isList.typeIs,λa e=>?_⟩
   cases e
   obtain ⟨o,n,e,c,hd,_⟩:=pl
   exact ⟨o,e,hd⟩
  .refine ⟨⟨o,I.kIn p o hk,hc⟩,λa e=>?_⟩
   cases e
   exact ⟨o,I.kIn _ o hk,hd⟩
  .have z:∃ o,s.heap.get? p=some o/\o.ExactDict:=by
    rcases hk with ⟨kvs,hk⟩ | ⟨kvs,hk⟩
    .obtain ⟨_,_,_,_,o,_,_,e,ex,_⟩:=I.hok p _ hk
     exact ⟨o,e,ex⟩
    .obtain ⟨_,_,_,_,o,_,_,e,ex,_⟩:=I.hok p _ hk
     exact ⟨o,e,ex⟩
   obtain ⟨o,e,ex⟩:=z
   refine ⟨⟨o,e,ex.1⟩,λa e2=>?_⟩
   cases e2
   exact ⟨o,e,ex.2.1⟩
  .obtain ⟨o,_,_,_,e,ex,_⟩:=I.hok p _ hk
   refine ⟨⟨o,e,ex.1⟩,λa e2=>?_⟩
   cases e2
   exact ⟨o,e,ex.2.1⟩
 | _=>exact False.elim ty
def tBM (K:W.Frag) (T:String) (r:V->List V->Hp->VK->Prop) (to:TE) (t:TA):TE:=λσ H Q=>to σ H λx H1=>tyV K T x H1/\t σ H1 λxs H2=>r x xs H2 Q
variable {o e:Expr} {es:List Expr} {to:TE} {t:TA} {name:Str} {apos cpos:Pos} {T id:String} {r:V->List V->Hp->VK->Prop}
theorem pe_bm (pa:PlainAttrs T) (slot:Slot T name id) (hty:typeOf (.builtin id)=pure (.type "method_descriptor")) (hm:MtR X id r) (ho:PE X o to) (ha:PA X (e :: es) t)
  (hbase:attributeBase o name X.env (eval o X.env)=eval o X.env:=by rfl)
  (hfew:((backTo cpos (starEach (e :: es) X.env)).all (λx=>!x.1) && (backToKw cpos (keywordEach [] X.env)).all (λx=>x.1.isSome)
   && decide ((e :: es).length+([]:List Keyword).length+(if ([]:List Keyword).isEmpty then 0 else 1)<30))=true:=by rfl)
  (hline:(apos.endLine == cpos.line)=true:=by rfl) (hs:starEach (e :: es) X.env=(false,eval e X.env) :: starEach es X.env:=by rfl) (hplain:(backTo cpos (starEach es X.env)).any (·.1)=false:=by rfl) :
  PE X (.Call (.Attribute o name apos) (e :: es) [] cpos) (tBM X.K T r to t):=by
 intro pins s σ H Q I h
 refine wpAny_Call_method_late hbase hfew hline rfl (thn (ho pins s σ H _ I h) λv s1 ⟨x,H1,I1,r1,ty,q1⟩=>?_)
 obtain ⟨h1,h2⟩:=Znj I1 r1 ty
 refine ⟨T,id,pa,slot,hty,h1,h2,?_⟩
 have hA:=ha cpos pins s1 σ H1 _ I1 q1
 rw [hs] at hA ⊢
 refine Calls.callWith_builtin (by show (false || (backTo cpos (starEach es X.env)).any (·.1))=false; rw [hplain] <;> rfl) (Calls.evalArgs_plain ?_)
 exact thn hA λus s2 ⟨vs,H2,I2,r2,q2⟩=>hm pins s2 σ H2 x vs v us Q I2 r1 r2 q2
/- xs.append(e),list.index on a module's tuple .. are MtR facts of 06m -/
end
def MtM (X:Cx) (id:String) (r:V->List V->Hp->VK->Prop):Prop :=
 ∀ (pins:List (Addr×Obj)) (s:Shared) (σ:St) (H:Hp) (x:V) (xs:List V) (v:Value) (us:List Value) (Q:VK),Inv X pins σ H s->RelV x v->Vals xs us->r x xs H Q ->
  wpAny (model X.prog X.w) X.A (call (.builtin id) (v :: us)) (EP X pins σ Q) X.xe s
theorem Vals.one:∀ {x:V} {us:List Value},Vals [x] us->∃ u,us=[u]/\RelV x u
 | _,_,.cons r .nil=>⟨_,rfl,r⟩
section
variable {X:Cx} {pins:List (Addr×Obj)} {σ:St} {H:Hp} {s:Shared} {l b:Addr} {xs ys zs:List V}
theorem Inv.lset {its its':List Value} {n:Nat} {f:Array Value->Array Value} {t':Nat} (I:Inv X pins σ H s) (hH:H l=some (.lst xs))
  (e:s.heap.get? l=some { cls:=.type "list",data:=.seq its.toArray n }) (hf:f its.toArray=its'.toArray) (hv:Vals ys its') (hz:ys.length<=sizeLine) :
  Inv X pins σ (upd H l (.lst ys)) { s with heap:=s.heap.update l (Obj.mapSeq f),toks:=t' }:=by
 have q:=PySem.IsL.update e f
 rw [hf] at q
 refine I.write (x:=l) (e:=l) (by rw [hH]; exact trivial) (.inl rfl) (λb' u hb hu=>(Heap.get?_update_other s.heap (Obj.mapSeq f) (Ne.symm hb)).trans hu) ⟨_,q⟩ ?_
 exact ⟨hz,its',_,hv,q⟩
theorem Inv.lnew {its:List Value} {t':Nat} (I:Inv X pins σ H s) (hv:Vals ys its) (hz:ys.length<=sizeLine) :
  Inv X pins σ (upd H s.heap.objs.size (.lst ys)) { s with heap:=s.heap.push { cls:=.type "list",data:=.seq its.toArray },toks:=t' } :=
 I.laid (λ_ _ q=>Heap.get?_push_of_some _ q) (Nat.le_refl _) ⟨hz,its,0,hv,Heap.get?_push_size _ rfl⟩
theorem Inv.fresh (I:Inv X pins σ H s):H s.heap.objs.size=none:=I.hok.fresh (Nat.le_refl _)
theorem Inv.lstM (I:Inv X pins σ H s) (hH:H l=some (.lst xs)):xs.length<=sizeLine/\∃ (its:List Value) (n:Nat),Vals xs its/\xs.length=its.length/\s.heap.get? l=some { cls:=.type "list",data:=.seq its.toArray n }:=by
 obtain ⟨z,its,n,r,e⟩:=I.hok l _ hH
 exact ⟨z,its,n,r,r.length,e⟩
theorem ZkE {n:Nat} (h:n<=sizeLine):Builtin.List.listTooLong n=false:=by
 unfold Builtin.List.listTooLong
 exact decide_eq_false (by omega)
end
section
variable {X:Cx}
def Zms:V->List V->Hp->VK->Prop:=λx vs H Q=>∃ l xs y,x=.ref l/\vs=[y]/\H l=some (.lst xs)/\xs.length<sizeLine/\Q .non (upd H l (.lst (xs++[y])))
theorem ZB:MtM X "list.append" Zms:=by
 intro pins s σ H x vs v us Q I rx rv h
 obtain ⟨l,xs,y,rfl,rfl,hH,hz,q⟩:=h
 cases rx
 obtain ⟨u,rfl,ru⟩:=rv.one
 obtain ⟨z,its,n,r,hl,e⟩:=I.lstM hH
 refine call_meets F.slot_list_append ⟨_,e,rfl⟩ F.entry_list_append (F.args_list_append_2 _ _) (PySem.list_append l its.toArray n u (by rw [List.size_toArray]; omega)) ⟨e,?_⟩
 refine ⟨.non,_,I.lset (its':=its++[u]) hH e (by simp) (r.append (.cons ru .nil)) ?_,rfl,q⟩
 rw [length_append,length_singleton]
 omega
def rCat:R2:=λx y H Q=>∃ l b xs zs,x=.ref l/\y=.ref b/\H l=some (.lst xs)/\H b=some (.lst zs)/\xs.length+zs.length<=sizeLine/\∀ p,H p=none->Q (.ref p) (upd H p (.lst (xs++zs)))
theorem ZiO:OpR X (binaryOp .Add) rCat:=by
 intro pins s σ H x y v u Q I rx ry h
 obtain ⟨l,b,xs,zs,rfl,rfl,hH,hB,hz,q⟩:=h
 cases rx
 cases ry
 obtain ⟨z,its,n,r,hl,e⟩:=I.lstM hH
 obtain ⟨z2,its2,n2,r2,hl2,e2⟩:=I.lstM hB
 refine PySem.P.add_list e e2 ?_ (by rw [List.size_toArray,List.size_toArray]; omega)
 have ea:its.toArray++its2.toArray=(its++its2).toArray:=by simp
 rw [ea]
 exact ⟨.ref _,_,I.lnew (t':=s.toks) (r.append r2) (by rw [length_append]; omega),rfl,q _ I.fresh⟩
end
end L2
namespace Att
open PySem PySem.W PySem.Calls PyProof.Rows
theorem Zdn {P:Params} {h:Heap}:∀ (ns:List Int) (vs:List Value),WellAll P h vs (ns.map WData.int)->IntsAre vs ns:=by
 intro ns
 induction ns with
 | nil =>
  intro vs w
  rw [map_nil] at w
  cases w
  exact .nil
 | cons n ns ih =>
  intro vs w
  rw [map_cons] at w
  cases w with
  | cons a b =>
   cases a
   exact .cons _ _ (ih _ b)
theorem ZiP {l:OpenLaw} {n:Nat} (hn:l.most=some n) {P:Params} {h:Heap} {args:List WData} {vals:List Value}
  (hpre:l.row.toRowW.claim.pre args=true) (hwl:WellAll P h vals args) :
  ∃ a vs ns,vals=[Value.ref a]/\args=[WData.list (ns.map WData.int)]/\h.get? a=some { cls:=.type "list",data:=.seq vs.toArray }/\IntsAre vs ns/\ns.length<=n:=by
 have hsh:WShape.hasAll [] args [.list .int]=true:=(pre_splitW hpre).1
 have hc:l.pre.holds [] { args:=args }=true:=(pre_splitW hpre).2
 obtain ⟨d,r,rfl,h1,h2⟩:=hasAllW_cons hsh
 obtain rfl:=hasAllW_nil h2
 obtain ⟨xs,rfl,h3⟩:=hasW_list h1
 obtain ⟨ns,rfl⟩:=items_int h3
 have hlen:ns.length<=n:=by
  unfold OpenLaw.pre at hc
  have h4:(WTm.not (.lt (.lit (.int (n:Int))) (.len (.arg 0)))).holds [] { args:=[.list (ns.map .int)] }=true:=by
   have h4:=(holds_andW hc).1
   rw [hn] at h4
   exact h4
  have h5:=condW_of h4 (w_not (w_lt w_lit (w_len_list (w_arg rfl))))
  rw [length_map] at h5
  refine Nat.le_of_not_lt λq=>?_
  have q':(n:Int)<((ns.length:Nat):Int):=by omega
  first
   | (rw [decide_eq_true q'] at h5; exact absurd h5 (by decide))
   | (simp at h5; omega)
 cases hwl with
 | cons w1 w2 =>
  cases w2
  cases w1 with
  | list ho hall=>exact ⟨_,_,ns,rfl,rfl,ho,Zdn ns _ hall,hlen⟩
theorem ZiQ (l:OpenLaw) (args:List WData):l.row.toRowW.claim.post args (.bool true) args=true :=
 postW_of (r:=l.row.toRowW) (X:=(true == true))
  (show WShape.has [] (.bool true) .bool=true by first | rfl | decide | simp [WShape.has,WShape.arms,WShape.armsAll])
  (show (WTm.eq .res (.lit (.bool true))).value [] { args:=args,res:=some (.bool true),after:=args }=some (.bool (true == true)) from w_eq_bool (w_res rfl) w_lit) rfl
theorem attach_call {l:OpenLaw} {n:Nat} {q:Program} {loose:List Str} {XP:(Str->Option Value)->Heap->Prop} {YP:World->Heap->Prop} {d:DefRec}
  (hn:l.most=some n) (hdf:d.params.defaults=[])
  (call:∀ (w:World) (s₀ s₁:Shared) (mg mb:Str->Option Value) (fa:Addr) (o:Obj) (pm cd doc:Value) (a:Addr) (vs:List Value) (ns:List Int),
   Ground q loose [] XP w s₀ mg mb s₁.heap->YP w s₁.heap ->
   s₁.heap.get? fa=some o->o.data=.func (docDef d.name d.params d.body d.scope pm cd doc)->s₁.heap.CodeRec cd d.name->mg d.name=some (.ref fa) ->
   s₁.heap.get? a=some { cls:=.type "list",data:=.seq vs.toArray }->IntsAre vs ns->ns.length<=n->s₁.gens=#[] ->
   codeAny (model l.prog w) callerA (.call (.ref fa) ⟨[.ref a],[]⟩) (λr s'=>r=.ok (.ret (.bool true))/\OldK s₁.heap s'.heap/\s'.os=s₁.os/\AllBare s'.gens) s₁) :
  WalkO q loose XP YP l.row.toRowW d [] (λf vs=>PySem.call f vs):=by
 intro w s₀ s₁ mg mb G Y fa o pm cd doc dV kV ho hd hcd hD hmg hg args vals as hpre hlay hrd hwl hlo
 obtain rfl:dV=.none:=Dflts.none hD hdf
 obtain rfl:kV=.none:=Dflts.noKw hD
 obtain ⟨a,vs,ns,rfl,rfl,hobj,hints,hlen⟩:=ZiP hn hpre hwl
 refine enter_call (codeAny_mono (call w s₀ s₁ mg mb fa o pm cd doc a vs ns G Y ho (fd_plain hd) hcd hmg hobj hints hlen hg) λr s' hq=>?_)
 obtain ⟨rfl,h2,h3,h4⟩:=hq
 exact ⟨.inl ⟨.bool true,.bool true,[],rfl,λ_=>rfl,.bool true,ZiQ l _,λ_=>⟨List.Pairwise.nil,λ_ hm=>(nomatch hm)⟩⟩,h2,h3,h4⟩
end Att
namespace L2
open PySem PySem.Spec PyProof.Rows
theorem Zdo:∀ {vs:List Value} {ns:List Int},IntsAre vs ns->Vals (ns.map V.int) vs
 | _,_,.nil=>.nil
 | _,_,.cons n t h=>.cons ⟨t,rfl⟩ (Zdo h)
def Zbx (s:Stmt) (j:Nat):Stmt:=match s with
 | .ClassDef _ _ _ body _ _ _ _ _ _ _=>body.getD j (.Pass ⟨0,0,0,0⟩)
 | _=>.Pass ⟨0,0,0,0⟩
def Zr (s:Stmt):Arguments:=match s with
 | .FunctionDef _ a _ _ _ _ _ _ _ _=>a
 | _=>{ posonlyargs:=[],args:=[],vararg:=none,kwonlyargs:=[],kw_defaults:=[],kwarg:=none,defaults:=[] }
def Zp (s:Stmt):List Stmt:=match s with
 | .FunctionDef _ _ b _ _ _ _ _ _ _=>b
 | _=>[]
def Zg (s:Stmt):Scope:=match s with
 | .FunctionDef _ _ _ _ _ _ sc _ _ _=>sc
 | _=>{ kind:=.function,names:=[],isGenerator:=false,isCoroutine:=false }
abbrev CX0:CXT:=λ_ _ _ _ _ _=>False
abbrev E0:XK:=λ_ _ _=>False
theorem pass0 {X:Cx}:Zec CX0 X E0:=λ_ _ _ _ _ _ _ h=>h.elim
structure Fun (K:W.Frag) (x qual:Str) (st:Stmt) (f:Addr) (fd:FuncData):Prop where
 ex:∃ (oc:Value) (od:Option Addr) (kV doc pm:Value) (an:Option Addr) (cdv ct:Value) (osl:Array (Option Value)),
  fd=W.fnOf x qual (Zr st) (Zp st) (Zg st) .none kV doc pm an cdv ct/\K.lookup f=some ⟨oc,od,.func fd,osl⟩/\W.codeIn K cdv qual=true
 kp:W.keepIn K (.ref f)=true
section
variable {P:Program} {w:World} {K:W.Frag} {mg:Str->Option Value} {base:Heap}
theorem Fun.ok {x qual:Str} {st:Stmt} {f:Addr} {fd:FuncData} {N ps:List Str} {k:Nat} {sp:Sp} (F:Fun K x qual st f fd) (S:FnScope N ps (Zg st)) (len:∀ vs H Q E,sp vs H Q E->vs.length=ps.length)
  (hbody:∀ (cdv:Value) (A:Around) (outer:List Env) (s:Shared) (H:Hp) (vs:List V) (Q:VK) (E:XK),Room k (A.deeper (envOfC qual (Zg st) s.heap.objs.size f cdv))->sp vs H Q E ->
   ∃ t,PSs (cxOf CX0 P w K mg base N qual (Zg st) f cdv A outer s H E).nox (Zp st) t/\t { nx:=λ_ H'=>Q .non H',rt:=Q } (start N vs) H):FnOk P w K mg base CX0 (k+1) f fd ps sp:=by
 obtain ⟨oc,od,kV,doc,pm,an,cdv,ct,osl,rfl,lk,hcd⟩:=F.ex
 refine fn_of lk hcd S len λA outer s H vs Q E hr hsp=>?_
 obtain ⟨t,h,q⟩:=hbody cdv A outer s H vs Q E hr hsp
 exact ⟨t,h.nox,q⟩
theorem Fun.binds {x qual:Str} {st:Stmt} {f:Addr} {fd:FuncData} {ps:List Str} (F:Fun K x qual st f fd)
  (h:∀ (kV doc pm:Value) (an:Option Addr) (cdv ct:Value) (us:List Value),us.length=ps.length->bindArgs (W.fnOf x qual (Zr st) (Zp st) (Zg st) .none kV doc pm an cdv ct) ⟨us,[]⟩=pure (ps.zip us)):Binds K fd ps []:=by
 obtain ⟨oc,od,kV,doc,pm,an,cdv,ct,osl,rfl,lk,hcd⟩:=F.ex
 exact .all (h kV doc pm an cdv ct)
theorem Zx {x qual:Str} {st:Stmt} {f:Addr} {oc:Value} {od an:Option Addr} {osl:Array (Option Value)} {kV doc pm cdv ct:Value} (l:K.lookup f=some ⟨oc,od,.func (W.fnOf x qual (Zr st) (Zp st) (Zg st) .none kV doc pm an cdv ct),osl⟩)
  (c:W.codeIn K cdv qual=true) (k:W.keepIn K (.ref f)=true):Fun K x qual st f (W.fnOf x qual (Zr st) (Zp st) (Zg st) .none kV doc pm an cdv ct):=⟨⟨oc,od,kV,doc,pm,an,cdv,ct,osl,rfl,l,c⟩,k⟩
end
theorem hu_of {A:Around} {k:Nat} (hr:Room k A):A.units+1<cLine:=Nat.lt_of_le_of_lt (Nat.add_le_add_left (by decide:1<=64) _) hr.units
theorem Zn {n:Nat} (h:n<=1000):n<sizeLine:=Nat.lt_of_le_of_lt h (by decide)
section
variable {X:Cx}
theorem pv (i:Nat) {x:Str} {pos:Pos} (hN:X.N[i]?=some x:=by rfl) (hv:Vis X.env.scope x:=by first | exact Or.inl rfl | exact Or.inr (Or.inl rfl) | exact Or.inr (Or.inr rfl)) (hd:(x == ("__debug__" : Str))=false:=by decide)
  (hcd:(x == ("__classdict__" : Str))=false:=by decide):PE X (.Name x pos) (tVar i):=ZmZ hN hv hd hcd
end
def Same (H H':Hp):Prop:=∀ b o,H b=some o->H' b=some o
theorem Same.refl (H:Hp):Same H H:=λ_ _ h=>h
theorem Same.trans {H H1 H2:Hp} (a:Same H H1) (b:Same H1 H2):Same H H2:=λc o h=>b c o (a c o h)
theorem Same.free {H H':Hp} (e:Same H H') {l:Addr} (h:H' l=Option.none):H l=Option.none:=by
 cases q:H l with
 | none=>rfl
 | some o =>
  rw [e l o q] at h
  cases h
theorem Same.seq {K:W.Frag} {H H':Hp} {a:Addr} {xs:List V} (e:Same H H') (h:SqL K H a xs):SqL K H' a xs:=by
 rcases h with (h | ⟨o,h⟩) | h
 .exact .inl (.inl (e _ _ h))
 .exact .inl (.inr ⟨o,e _ _ h⟩)
 .exact .inr h
end L2
set_option maxHeartbeats 4000000
namespace L2
open PySem PySem.Spec PyProof.Rows
def cxIn (X:Cx) (N:List Str) (scope:Scope) (cl:List (Str×Addr)) (C:Addr) (s0:Shared) (H0:Hp) (fp:List Addr) (pins:List (Addr×Obj)):Cx :=
 { X with N:=N,s₀:=s0,H₀:=H0,env:=compEnvC scope cl C X.env,outer:=X.stack,stack:=X.stack,ex:=fp,fn:=λx=>scope.names.lookup x == some .cell,pn:=X.pn++pins,xe:=λ_ _=>False }
theorem Zbc {env:Env}:∀ (names:List (Str×NameKind)) (acc:List (Str×Addr)),(∀ p∈names,p.2=.free->∃ c,env.cells.lookup p.1=some c)->(∀ x c,acc.lookup x=some c->env.cells.lookup x=some c) ->
  ∃ cl,(forIn names acc λ(x:Str×NameKind) cs=>(match x with | (name,kind)=>if (kind == NameKind.free)=true then do let a ← cellOf env name; pure (ForInStep.yield ((name,a) :: cs)) else pure (ForInStep.yield cs):Sem (ForInStep (List (Str×Addr)))))=(pure cl:Sem (List (Str×Addr))) /\
   (∀ x c,cl.lookup x=some c->env.cells.lookup x=some c)/\(∀ x c,acc.lookup x=some c->cl.lookup x=some c)/\∀ p∈names,p.2=.free->∃ c,cl.lookup p.1=some c
 | [],acc,_,h=>⟨acc,rfl,h,λ_ _ e=>e,λ_ z=>nomatch z⟩
 | (n,k) :: r,acc,h,ha=>by
  by_cases hk:k=.free
  .subst hk
   obtain ⟨c,hc⟩:=h (n,.free) mem_cons_self rfl
   have ha':∀ x d,((n,c) :: acc).lookup x=some d->env.cells.lookup x=some d:=λx d e=>by
    rw [List.lookup_cons] at e
    cases q:x == n with
    | true =>
     rw [q] at e
     have hxn:x=n:=by simpa using q
     subst hxn
     cases e
     exact hc
    | false =>
     rw [q] at e
     exact ha x d e
   obtain ⟨cl,e1,e2,e3,e4⟩:=Zbc r ((n,c) :: acc) (λp hp=>h p (mem_cons_of_mem _ hp)) ha'
   have top:∃ d,cl.lookup n=some d:=⟨c,e3 n c (by rw [List.lookup_cons]; simp)⟩
   refine ⟨cl,?_,e2,λx d e=>?_,λp hp hf=>?_⟩
   .rw [List.forIn_cons]
    simp only [cellOf,hc,beq_self_eq_true,if_true]
    exact e1
   .cases q:x == n with
    | true =>
     have hxn:x=n:=by simpa using q
     subst hxn
     have z:=ha x d e
     rw [hc] at z; cases z
     exact e3 x c (by rw [List.lookup_cons]; simp)
    | false=>exact e3 x d (by rw [List.lookup_cons,q]; exact e)
   .rcases List.mem_cons.mp hp with rfl | hp
    .exact top
    .exact e4 p hp hf
  .obtain ⟨cl,e1,e2,e3,e4⟩:=Zbc r acc (λp hp=>h p (mem_cons_of_mem _ hp)) ha
   have hb:(k == NameKind.free)=false:=by simpa using hk
   refine ⟨cl,?_,e2,e3,λp hp hf=>?_⟩
   .rw [List.forIn_cons]
    simp only [hb,Bool.false_eq_true,if_false]
    exact e1
   .rcases List.mem_cons.mp hp with rfl | hp
    .exact absurd hf hk
    .exact e4 p hp hf
theorem Zdp {α:Type} (f:Str->α->α) (x:Str):∀ l:List (Str×α),(l.map λp=>(p.1,f p.1 p.2)).lookup x=(l.lookup x).map (f x)
 | []=>rfl
 | (n,k) :: r=>by
  have ih:=Zdp f x r
  rw [map_cons,List.lookup_cons,List.lookup_cons]
  cases q:x == n with
  | true =>
   have e:x=n:=by simpa using q
   subst e
   rfl
  | false=>exact ih
def Zdq (env:Env) (n:Str) (k:NameKind):NameKind:=if (k == NameKind.free && env.scope.kind == .function && env.kindOf n == some .cell)=true then .cell else k
theorem ZcH (scope:Scope) (env:Env) (x:Str):(relabel scope env).names.lookup x=(scope.names.lookup x).map (Zdq env x):=by
 rw [← Zdp (Zdq env) x scope.names]
 show (scope.names.map _).lookup x=_
 congr 1
 refine map_congr_left λp _=>?_
 show (if _ then _ else _)=_
 unfold Zdq
 split <;> rfl
theorem ZcI (env:Env) (n:Str) (k:NameKind):Zdq env n k=k\/(k=.free/\Zdq env n k=.cell):=by
 unfold Zdq
 by_cases h:(k == NameKind.free && env.scope.kind == .function && env.kindOf n == some .cell)=true
 .refine .inr ⟨?_,if_pos h⟩
  rw [Bool.and_eq_true,Bool.and_eq_true] at h
  exact beq_iff_eq.mp h.1.1
 .exact .inl (if_neg h)
theorem ZbV {scope:Scope} {env:Env} {x:Str} {k:NameKind} (h:scope.names.lookup x=some k) :
  (relabel scope env).names.lookup x=some k\/(k=.free/\(relabel scope env).names.lookup x=some .cell):=by
 rw [ZcH,h]
 rcases ZcI env x k with q | ⟨q,q'⟩
 .exact .inl (congrArg some q)
 .exact .inr ⟨q,congrArg some q'⟩
theorem Zfr {scope:Scope} {env:Env} {x:Str} {k:NameKind} (h:(relabel scope env).names.lookup x=some k):∃ k',scope.names.lookup x=some k'/\(k'=k\/k'=.free):=by
 rw [ZcH] at h
 cases q:scope.names.lookup x with
 | none=>rw [q] at h; cases h
 | some k' =>
  rw [q] at h
  have h':Zdq env x k'=k:=Option.some.inj h
  rcases ZcI env x k' with z | ⟨z,_⟩
  .exact ⟨k',rfl,.inl (z.symm.trans h')⟩
  .exact ⟨k',rfl,.inr z⟩
theorem Zad {α:Type} {x:Str}:∀ {l:List (Str×α)} {k:α},l.lookup x=some k->(x,k)∈l
 | [],_,h=>by simp at h
 | (n,k) :: r,k',h=>by
  rw [List.lookup_cons] at h
  cases hx:x == n with
  | true =>
   rw [hx] at h; cases h
   have:x=n:=by simpa using hx
   subst this
   exact mem_cons_self
  | false =>
   rw [hx] at h
   exact mem_cons_of_mem _ (Zad h)
theorem ZiR {prog:Program} {w:World} {A:Around} {s:Shared} {elt target iter:PySem.Expr} {ifs:List PySem.Expr} {scope:Scope} {pos:Pos} {it acc:Value} {env:Env} {R:Result->Shared->Prop} (I:Nat->Shared->Prop)
  (turn:∀ n s,I n s->wpAny (model prog w) A (pyNext it) (λr s1=>match r with
   | none=>R (.ok .next) s1
   | some v=>wpAny (model prog w) A (letOwnedTupleGo target it v) (λ_ s0=>wpAny (model prog w) A (assign target env v) (λ_ s2 =>
     wpAny (model prog w) A (forIn ifs true λc r=>if r=true then do let ok ← isTrue c env (eval c env); pure (ForInStep.yield ok) else pure (ForInStep.yield r)) (λok s3 =>
      if ok=true then wpAny (model prog w) A (eval elt env) (λx s4 =>
       wpAny (model prog w) A (call (.builtin "list.append") [acc,x]) (λ_ s5=>∃ m,m<n/\I m s5) (λ_ _=>False) s4) (λ_ _=>False) s3
      else ∃ m,m<n/\I m s3) (λ_ _=>False) s2) (λ_ _=>False) s0) (λ_ _=>False) s1) (λ_ _=>False) s)
  (n:Nat) (h:I n s):codeAny (model prog w) A (.compLoop (.ListComp elt [⟨target,iter,ifs,0⟩] scope pos) 0 it acc env) R s:=by
 have body:∀ n s,I n s->wpAny (model prog w) A (compTurn (.ListComp elt [⟨target,iter,ifs,0⟩] scope pos) 0 it acc env)
   (λfin s'=>match fin with | .done f=>R (.ok f) s' | .again c=>c=.compLoop (.ListComp elt [⟨target,iter,ifs,0⟩] scope pos) 0 it acc env/\∃ m,m<n/\I m s') (λ_ _=>False) s:=λn s hI=>by
  rw [compTurn_list]
  refine wpAny_bind (wpAny_standAt (wpAny_bind (thn (turn n s hI) λr s1 h1=>?_)))
  cases r with
  | none=>exact wpAny_pure h1
  | some v =>
   refine wpAny_bind (thn h1 λ_ s0 h0=>wpAny_bind (thn h0 λ_ s2 h2=>wpAny_bind (thn h2 λok s3 h3=>?_)))
   cases ok with
   | true=>exact wpAny_bind (wpAny_bind (thn h3 λx s4 h4=>wpAny_bind (thn h4 λ_ s5 h5=>wpAny_pure (wpAny_pure ⟨rfl,h5⟩))))
   | false=>exact wpAny_pure ⟨rfl,h3⟩
 exact codeAny_loop rfl I (λn s hI=>wpAny_noted (wpAny_mono (body n s hI) (λ_ _ q=>q) λ_ _ q=>q.elim)) n h
def tComp (own:Nat) (js:List Nat) (wi:TI) (g:TG) (tc:TT) (te:TE):TE:=λσ H Q=>wi σ H λJ H1=>∀ l,H1 l=none ->
 ∃ W:Nat->Nat->List V->St->Hp->Prop,(∃ m,W 0 m [] (List.replicate own none++js.map λj=>(σ[j]?).join) (upd H1 l (.lst [])))/\∀ i m ys σ' H',W i m ys σ' H' ->
  (J.stop i H'/\Q (.ref l) H')\/(J.go i H'/\∀ x H2,J.yld i H' x H2->g x σ' H2 λσ2 H3=>tc σ2 H3 λb H4 =>
   if b=true then te σ2 H4 λy H5=>H5 l=some (.lst ys)/\ys.length<sizeLine/\∃ m',m'<m/\W (i+1) m' (ys++[y]) σ2 (upd H5 l (.lst (ys++[y])))
   else ∃ m',m'<m/\W (i+1) m' ys σ2 H4)
def tTrue:TT:=λ_ H Q=>Q true H
structure CompOk (X:Cx) (scope:Scope) (N:List Str) (own:Nat) (js:List Nat):Prop where
 kind:scope.kind=.function
 cell:∀ y∈scope.names,y.2=.cell->scope.names.lookup y.1=some .cell
 names:∀ y∈scope.names,y.2=.local->scope.names.lookup y.1=some .local
 free:∀ y∈scope.names,y.2=.free->X.env.kindOf y.1=some .cell\/X.env.kindOf y.1=some .free
 len:N.length=own+js.length
 js:∀ k j,js[k]?=some j->N[own+k]?=X.N[j]?
 jf:∀ k x,N[own+k]?=some x->scope.names.lookup x=some .free
theorem Un.but {fs ex:List Addr} {H H':Hp} {h h1 h2:Heap} {C:Addr} (u:Un fs ex H H' h h1) (hc:h.objs.size<=C) (sb:∀ b o,b≠C->h1.get? b=some o->h2.get? b=some o):Un fs ex H H' h h2:=by
 have ne:∀ b o,h.get? b=some o->b≠C:=λb o e=>Nat.ne_of_lt (Nat.lt_of_lt_of_le (Heap.lt_size e) hc)
 refine ⟨λb o q n hb hx=>sb b o (ne b o q) (u.keep b o q n hb hx),λb o q n hb hx=>?_,u.free,λb o q hx=>?_,u.tups,u.frzs,u.tbls⟩
 .obtain ⟨sl,e⟩:=u.slot b o q n hb hx
  exact ⟨sl,sb b _ (ne b o q) e⟩
 .obtain ⟨o',e⟩:=u.there b o q hx
  exact ⟨o',sb b o' (ne b o q) e⟩
theorem Zdr:∀ (names:List (Str×NameKind)) (n:Nat) (acc:List (Str×Addr)),cellsFrom n names acc=cellsFrom n names []++acc
 | [],_,_=>rfl
 | (x,k) :: r,n,acc=>by
  unfold cellsFrom
  by_cases hk:(k == NameKind.cell)=true
  .rw [if_pos hk,if_pos hk,Zdr r (n+1) ((x,n) :: acc),Zdr r (n+1) [(x,n)],append_assoc]
   rfl
  .rw [if_neg hk,if_neg hk]
   exact Zdr r n acc
theorem Zgj:∀ (names:List (Str×NameKind)) (n:Nat) (x:Str) (c:Addr),(x,c)∈cellsFrom n names []->(x,NameKind.cell)∈names
 | [],_,_,_,h=>nomatch h
 | (y,k) :: r,n,x,c,h=>by
  unfold cellsFrom at h
  by_cases hk:(k == NameKind.cell)=true
  .rw [if_pos hk,Zdr] at h
   rcases List.mem_append.mp h with q | q
   .exact mem_cons_of_mem _ (Zgj r _ x c q)
   .have e:(x,c)=(y,n):=by simpa using q
    cases e
    have hk':k=.cell:=by simpa using hk
    subst hk'
    exact mem_cons_self
  .rw [if_neg hk] at h
   exact mem_cons_of_mem _ (Zgj r _ x c h)
theorem Zcd {α:Type}:∀ {l:List (Str×α)} {x:Str} {c:α},(x,c)∈l->∃ d,l.lookup x=some d
 | (y,v) :: r,x,c,h=>by
  rw [List.lookup_cons]
  cases q:x == y with
  | true=>exact ⟨v,rfl⟩
  | false =>
   rcases List.mem_cons.mp h with e | e
   .cases e; simp at q
   .exact Zcd e
theorem ZiS:∀ (names:List (Str×NameKind)) (n:Nat) (x:Str),(x,NameKind.cell)∈names->∃ c,(x,c)∈cellsFrom n names []
 | [],_,_,h=>nomatch h
 | (y,k) :: r,n,x,h=>by
  unfold cellsFrom
  rcases List.mem_cons.mp h with e | e
  .cases e
   rw [if_pos (show (NameKind.cell == NameKind.cell)=true from rfl),Zdr]
   exact ⟨n,mem_append_right _ (by simp)⟩
  .by_cases hk:(k == NameKind.cell)=true
   .rw [if_pos hk,Zdr]
    obtain ⟨c,q⟩:=ZiS r (n+1) x e
    exact ⟨c,mem_append_left _ q⟩
   .rw [if_neg hk]
    exact ZiS r n x e
theorem Zed {α:Type}:∀ (l m:List (Str×α)) (x:Str),(l++m).lookup x=match l.lookup x with | some c=>some c | none=>m.lookup x
 | [],m,x=>rfl
 | (y,v) :: r,m,x=>by
  rw [List.cons_append,List.lookup_cons,List.lookup_cons]
  cases x == y with
  | true=>rfl
  | false=>exact Zed r m x
theorem Zfs {M:Model} {A:Around} {E:Value->Shared->Prop} {s:Shared} {scope:Scope} {globals:Addr} {cl:List (Str×Addr)} {qual:Str} {env:Env} {Q:Env->Shared->Prop}
  (h:Q (newEnv scope s.heap.objs.size globals (cellsFrom (s.heap.objs.size+1) scope.names cl) qual none .none (some env) builtinsNs) { s with heap:=pushCells (s.heap.push { cls:=.type "dict",data:=.dict #[] }) scope.names }) :
  wpAny M A (newFunctionEnv scope globals cl [] qual none .none (some env)) Q E s:=by
 simp only [newFunctionEnv,Option.isSome_some,if_true]
 refine wpAny_bind (wpAny_alloc (wpAny_bind (wpAny_layCells _ (λname kind cells=>by cases hkc:kind == NameKind.cell <;> simp [hkc]) _ _ _ _ ?_)))
 rw [show ({ s with heap:=s.heap.push { cls:=.type "dict",data:=.dict #[] } }:Shared).heap.objs.size=s.heap.objs.size+1 from Heap.size_push ..]
 rw [List.forIn_nil]
 exact wpAny_bind (wpAny_pure (wpAny_pure h))
structure CellsIn (X:Cx) (scope:Scope) (cl':List (Str×Addr)) (n:Nat) (h':Heap):Prop where
 k1:∀ x c,cl'.lookup x=some c->X.env.cells.lookup x=some c\/(n<c/\h'.IsCell c none/\(x,NameKind.cell)∈scope.names)
 k2:∀ x,scope.names.lookup x=some .free->∃ c,cl'.lookup x=some c/\X.env.cells.lookup x=some c
 k3:∀ p∈scope.names,p.2=.cell\/p.2=.free->∃ c,cl'.lookup p.1=some c
 k4:∀ x y c,cl'.lookup x=some c->cl'.lookup y=some c->x=y
 k5:∀ x c,scope.names.lookup x=some .cell->cl'.lookup x=some c->n<c
section
variable {X:Cx} {scope:Scope} {N:List Str} {own:Nat} {js:List Nat}
theorem ZhX {cl:List (Str×Addr)} {n:Nat} {h0:Heap} (c:CompOk X scope N own js) (cl1:∀ x c,cl.lookup x=some c->X.env.cells.lookup x=some c) (cl2:∀ p∈scope.names,p.2=.free->∃ c,cl.lookup p.1=some c)
  (inj:∀ x y c,X.env.cells.lookup x=some c->X.env.cells.lookup y=some c->x=y) (lt:∀ x c,X.env.cells.lookup x=some c->c<n) (hn:h0.objs.size=n+1):CellsIn X scope (cellsFrom (n+1) scope.names cl) n (pushCells h0 scope.names):=by
 have ok:=cellsFrom_ok scope.names h0 (n+1) [] ⟨λ_ _ hm=>(nomatch hm),List.Pairwise.nil⟩ (by rw [hn]; exact Nat.le_refl _)
 rw [hn] at ok
 have two:∀ x,(cellsFrom (n+1) scope.names cl).lookup x=match (cellsFrom (n+1) scope.names []).lookup x with | some c=>some c | none=>cl.lookup x:=λx=>by
  rw [Zdr,Zed]
  cases (cellsFrom (n+1) scope.names []).lookup x <;> rfl
 have own':∀ x d,(cellsFrom (n+1) scope.names []).lookup x=some d->(pushCells h0 scope.names).IsCell d none/\n<d/\(x,NameKind.cell)∈scope.names:=λx d e =>
  ⟨(ok.empty x d (mem_of_lookup e)).1,(ok.empty x d (mem_of_lookup e)).2,Zgj _ _ x d (mem_of_lookup e)⟩
 have part:∀ x d,(cellsFrom (n+1) scope.names cl).lookup x=some d->(cellsFrom (n+1) scope.names []).lookup x=some d\/((cellsFrom (n+1) scope.names []).lookup x=none/\cl.lookup x=some d):=λx d e=>by
  rw [two] at e
  cases q:(cellsFrom (n+1) scope.names []).lookup x with
  | some d'=>rw [q] at e; exact .inl e
  | none=>rw [q] at e; exact .inr ⟨rfl,e⟩
 have has:∀ x,(x,NameKind.cell)∈scope.names->∃ d,(cellsFrom (n+1) scope.names []).lookup x=some d:=λx m=>by
  obtain ⟨d,q⟩:=ZiS scope.names (n+1) x m
  exact Zcd q
 refine ⟨λx d e=>?_,λx e=>?_,λp hp hk=>?_,λx y d e1 e2=>?_,λx d e1 e2=>?_⟩
 .rcases part x d e with q | ⟨_,q⟩
  .exact .inr ⟨(own' x d q).2.1,(own' x d q).1,(own' x d q).2.2⟩
  .exact .inl (cl1 x d q)
 .obtain ⟨d,q⟩:=cl2 _ (Zad e) rfl
  have no:(cellsFrom (n+1) scope.names []).lookup x=none:=by
   cases z:(cellsFrom (n+1) scope.names []).lookup x with
   | none=>rfl
   | some d' =>
    have y:=c.cell _ (own' x d' z).2.2 rfl
    rw [show scope.names.lookup x=_ from e] at y
    cases y
  exact ⟨d,by rw [two,no]; exact q,cl1 x d q⟩
 .rw [two]
  cases z:(cellsFrom (n+1) scope.names []).lookup p.1 with
  | some d'=>exact ⟨d',rfl⟩
  | none =>
   rcases hk with hk | hk
   .obtain ⟨d,q⟩:=has p.1 (by rw [← hk]; exact hp)
    rw [z] at q; cases q
   .exact cl2 p hp hk
 .rcases part x d e1 with q1 | ⟨_,q1⟩
  .rcases part y d e2 with q2 | ⟨_,q2⟩
   .exact name_of_addr ok.apart (mem_of_lookup q1) (mem_of_lookup q2)
   .exact absurd (Nat.lt_trans (own' x d q1).2.1 (lt y d (cl1 y d q2))) (Nat.lt_irrefl _)
  .rcases part y d e2 with q2 | ⟨_,q2⟩
   .exact absurd (Nat.lt_trans (own' y d q2).2.1 (lt x d (cl1 x d q1))) (Nat.lt_irrefl _)
   .exact inj x y d (cl1 x d q1) (cl1 y d q2)
 .obtain ⟨d',q⟩:=has x (Zad e1)
  rw [two,q] at e2
  cases e2
  exact (own' x d q).2.1
theorem ZhY {pins:List (Addr×Obj)} {σ:St} {H:Hp} {s:Shared} {cl:List (Str×Addr)} {fp:List Addr} {h':Heap} {t':Nat} (c:CompOk X scope N own js) (I:Inv X pins σ H s) (hf:∀ b∈fp,FpOk X pins H b)
  (fo:∀ b∈fp,b<s.heap.objs.size)
  (ci:CellsIn X scope cl s.heap.objs.size h')
  (hn:h'.Ns s.heap.objs.size (λ_=>none)) (hk:∀ b o,s.heap.get? b=some o->h'.get? b=some o) :
  Inv (cxIn X N scope cl s.heap.objs.size s H fp pins) [] (List.replicate own none++js.map λj=>(σ[j]?).join) H { s with heap:=h',toks:=t' }:=by
 have cne:∀ x c,cl.lookup x=some c->c≠s.heap.objs.size:=λx c e=>by
  rcases ci.k1 x c e with q | ⟨q,_⟩
  .obtain ⟨v,q⟩:=I.cell x c q
   exact Nat.ne_of_lt q.lt
  .exact Nat.ne_of_gt q
 have ok:(cxIn X N scope cl s.heap.objs.size s H fp pins).Ok:=by
  refine ⟨I.ok.mod,c.kind,I.ok.glob,I.ok.blt,Nat.le_refl _,ci.k4,λx hx=>?_,λx d z e=>Nat.le_of_lt (ci.k5 x d (beq_iff_eq.mp (show (scope.names.lookup x == some .cell)=true from z)) e),I.ok.hd,I.ok.frames,.inl rfl,λb hb=>⟨Nat.ne_of_lt (fo b hb),λx d e=>(ci.k1 x d e).elim (λq=>(hf b hb).2.2.2.2.1 x d q) λq=>Nat.ne_of_gt (Nat.lt_trans (fo b hb) q.1)⟩,I.bs,
   Nat.le_trans I.ok.bsz I.sz,λb o e hb=>?_,λb hb z=>?_,I.stack,I.stkFree⟩
  .have back:∀ k,(relabel scope X.env).names.lookup x=some k->k=.cell\/k=.free->∃ k',(x,k')∈scope.names/\(k'=NameKind.cell\/k'=NameKind.free):=λk e hk=>by
    obtain ⟨k',e',z⟩:=Zfr e
    refine ⟨k',Zad e',?_⟩
    rcases z with z | z
    .subst z; exact hk
    .exact .inr z
   obtain ⟨k',m,hk'⟩:∃ k',(x,k')∈scope.names/\(k'=NameKind.cell\/k'=NameKind.free):=by
    rcases hx with hx | hx
    .exact back _ hx (.inl rfl)
    .exact back _ hx (.inr rfl)
   exact ci.k3 _ m hk'
  .rcases (hf b hb).2.2.2.1 with z | z
   .exact I.ok.noex b o e z
   .exact absurd (Nat.lt_of_lt_of_le (Nat.lt_of_lt_of_le (Heap.lt_size e) I.ok.bsz) z) (Nat.lt_irrefl _)
  .rcases List.mem_cons.mp (I.stkSub b z) with q | q
   .exact (hf b hb).2.1 q
   .exact (hf b hb).2.2.1 q
 refine ⟨ok,rfl,I.bare,Un.kept hk,⟨_,hn,λi x v e1 e2 e3=>?_⟩,λx d e=>?_,I.hok.fresh (Nat.le_refl _),λx d e=>(ci.k1 x d e).elim (λq=>I.freeC x d q) λq=>I.hok.fresh (Nat.le_of_lt q.1),λp hp=>?_,I.hok.kept hk,?_⟩
 .-- a name with a value is one that the block closes over
  have hi:own<=i:=by
   by_cases hi:i<own
   .rw [getElem?_append_left (by simpa using hi),List.getElem?_replicate] at e2
    split at e2 <;> cases e2
   .omega
  obtain ⟨k,rfl⟩:∃ k,i=own+k:=⟨i - own,by omega⟩
  rw [getElem?_append_right (by simp),List.length_replicate,Nat.add_sub_cancel_left,getElem?_map] at e2
  cases q:js[k]? with
  | none=>rw [q] at e2; cases e2
  | some j =>
   rw [q] at e2
   have e2':(σ[j]?).join=some v:=by simpa using e2
   have e4:σ[j]?=some (some v):=by
    cases z:σ[j]? with
    | none=>rw [z] at e2'; cases e2'
    | some o=>rw [z] at e2'; rw [show o=some v from e2']
   have e1':N[own+k]?=some x:=e1
   have hXN:X.N[j]?=some x:=(c.js k j q).symm.trans e1'
   have hfr:=c.jf k x e1'
   have hmem:=Zad hfr
   have hk2:=c.free _ hmem rfl
   have vis:Vis X.env.scope x:=by
    rcases hk2 with z | z
    .exact .inr (.inl z)
    .exact .inr (.inr z)
   obtain ⟨m,_,hl⟩:=I.loc
   obtain ⟨u,r,l⟩:=hl j x v hXN e4 vis
   refine ⟨u,r,?_⟩
   rcases l with ⟨z,_⟩ | ⟨_,d,e,⟨od,ho,hd⟩⟩
   .rcases hk2 with y | y
    .rw [show X.env.kindOf x=_ from z] at y; cases y
    .rw [show X.env.kindOf x=_ from z] at y; cases y
   .obtain ⟨d',e',z'⟩:=ci.k2 x hfr
    have:d'=d:=by have z:=z'; rw [e] at z; exact (Option.some.inj z).symm
    subst this
    refine .inr ⟨?_,d',e',⟨od,hk _ _ ho,hd⟩⟩
    rcases ZbV (scope:=scope) (env:=X.env) hfr with z | ⟨_,z⟩
    .exact .inr z
    .exact .inl z
 .rcases ci.k1 x d e with q | ⟨_,q,_⟩
  .obtain ⟨v,⟨o,ho,hd⟩⟩:=I.cell x d q
   exact ⟨v,o,hk _ _ ho,hd⟩
  .exact ⟨none,q⟩
 .have hp':p∈X.pn++pins:=by
   have z:p∈(X.pn++pins)++[]:=hp
   rwa [append_nil] at z
  obtain ⟨a1,a2,a3,a4,a5⟩:=I.pin p hp'
  refine ⟨hk _ _ a1,a2,Nat.ne_of_lt (Heap.lt_size a1),λz=>?_,a5⟩
  rcases List.mem_cons.mp (I.stkSub p.1 z) with q | q
  .exact a3 q
  .exact a4 q
 .show _=N.length
  rw [c.len]; simp
theorem Zee {pins:List (Addr×Obj)} {σ:St} {H:Hp} {s:Shared} {elt target iter:PySem.Expr} {ifs:List PySem.Expr} {pos:Pos} {it:Addr} {fp:List Addr} {tn:Nat->Heap->Prop} {J:It} {cl:List (Str×Addr)} {g:TG} {tc:TT} {te:TE} {E:Value->Shared->Prop} {Q:VK}
  {RR:Value->Addr->Result->Shared->Prop}
  (c:CompOk X scope N own js) (hc:X.calm=true) (I:Inv X pins σ H s) (T:Turn X.prog X.w X.K target J fp it tn) (st:tn 0 s.heap) (hf:∀ b∈fp,FpOk X pins H b)
  (cl1:∀ x c,cl.lookup x=some c->X.env.cells.lookup x=some c) (cl2:∀ p∈scope.names,p.2=.free->∃ c,cl.lookup p.1=some c)
  (hg:∀ cl C s0 H0 fp pins,PG (cxIn X N scope cl C s0 H0 fp pins) target g)
  (ht:∀ cl C s0 H0 fp pins pins' s σ H Q,Inv (cxIn X N scope cl C s0 H0 fp pins) pins' σ H s->tc σ H Q->wpAny (model X.prog X.w) X.A (forIn ifs true λc r=>if r=true then do let ok ← isTrue c (compEnvC scope cl C X.env) (eval c (compEnvC scope cl C X.env)); pure (ForInStep.yield ok) else pure (ForInStep.yield r))
   (TP (cxIn X N scope cl C s0 H0 fp pins) pins' σ Q) (λ_ _=>False) s)
  (he:∀ cl C s0 H0 fp pins,PE (cxIn X N scope cl C s0 H0 fp pins) elt te)
  (h:∀ l,H l=none->∃ W:Nat->Nat->List V->St->Hp->Prop,(∃ m,W 0 m [] (List.replicate own none++js.map λj=>(σ[j]?).join) (upd H l (.lst [])))/\∀ i m ys σ' H',W i m ys σ' H' ->
   (J.stop i H'/\Q (.ref l) H')\/(J.go i H'/\∀ x H2,J.yld i H' x H2->g x σ' H2 λσ2 H3=>tc σ2 H3 λb H4 =>
    if b=true then te σ2 H4 λy H5=>H5 l=some (.lst ys)/\ys.length<sizeLine/\∃ m',m'<m/\W (i+1) m' (ys++[y]) σ2 (upd H5 l (.lst (ys++[y])))
    else ∃ m',m'<m/\W (i+1) m' ys σ2 H4))
  (hRR:∀ l C H' s' m',s.heap.objs.size<=C->s'.heap.Ns C m'->H' C=none->C≠X.env.locals->C∉X.fs->(∀ h2,Heap.SameBut C s'.heap h2->Inv X pins σ H' { s' with heap:=h2 })->Q (.ref l) H'->RR (.ref l) C (.ok .next) s') :
  wpAny (model X.prog X.w) X.A (newList []) (λacc s3=>wpAny (model X.prog X.w) X.A (newFunctionEnv scope X.env.globals cl [] X.env.qual none .none (some X.env)) (λcenv s4 =>
   codeAny (model X.prog X.w) X.A (.compStart (.ListComp elt [⟨target,iter,ifs,0⟩] scope pos) 0 (.ref it) acc { cenv with scope:=relabel scope X.env }) (RR acc cenv.locals) s4) E s3) E s:=by
 have I2:Inv X pins σ (upd H s.heap.objs.size (.lst [])) { s with heap:=s.heap.push { cls:=.type "list",dict:=none,data:=.seq ([]:List Value).toArray },toks:=s.toks }:=I.lnew (ys:=[]) .nil (Nat.zero_le _)
 obtain ⟨W,⟨m0,w0⟩,turn⟩:=h s.heap.objs.size I.fresh
 refine wpAny_newObj_type (Zfs ?_)
 dsimp only
 generalize hS:({ s with heap:=s.heap.push { cls:=.type "list",dict:=none,data:=.seq ([]:List Value).toArray },toks:=s.toks }:Shared)=s2 at I2
 have e2:s2.heap=s.heap.push { cls:=.type "list",dict:=none,data:=.seq ([]:List Value).toArray }:=by rw [← hS]
 have sz2:s2.heap.objs.size=s.heap.objs.size+1:=by rw [e2,Heap.size_push]
 rw [← e2]
 have ci:=ZhX (h0:=s2.heap.push { cls:=.type "dict",data:=.dict #[] }) (n:=s2.heap.objs.size) c cl1 cl2 I2.ok.inj (λx d e=>by obtain ⟨v,q⟩:=I2.cell x d e; exact q.lt) (Heap.size_push ..)
 have hns1':(pushCells (s2.heap.push { cls:=.type "dict",data:=.dict #[] }) scope.names).Ns s2.heap.objs.size (λ_=>none):=(Heap.Ns.new s2.heap (.type "dict")).keeps (pushCells_keeps _ _)
 have old:∀ b o,s2.heap.get? b=some o->(pushCells (s2.heap.push { cls:=.type "dict",data:=.dict #[] }) scope.names).get? b=some o:=λb o e=>pushCells_keeps _ _ b o (Heap.get?_push_of_some _ e)
 generalize pushCells (s2.heap.push { cls:=.type "dict",data:=.dict #[] }) scope.names=h1 at ci hns1' old ⊢
 generalize hcl:cellsFrom (s2.heap.objs.size+1) scope.names cl=cl' at ci ⊢
 have lt1:∀ b,b∈fp->b<s.heap.objs.size:=λb hb=>by
  obtain ⟨o,e,_⟩:=T.obj 0 _ st b hb
  exact Heap.lt_size e
 have hf2:∀ b∈fp,FpOk X pins (upd H s.heap.objs.size (.lst [])) b:=λb hb=>⟨by rw [Ze (Nat.ne_of_lt (lt1 b hb))]; exact (hf b hb).1,(hf b hb).2⟩
 have lt2:∀ b∈fp,b<s2.heap.objs.size:=λb hb=>by rw [sz2]; exact Nat.lt_succ_of_lt (lt1 b hb)
 have st2:tn 0 s2.heap:=T.keep 0 _ _ st λb _ o e=>by rw [e2]; exact Heap.get?_push_of_some _ e
 have I4:=ZhY (t':=s.toks) c I2 hf2 lt2 ci hns1' old
 have st4:tn 0 h1:=T.keep 0 _ _ st2 λb _ o e=>old b o e
 have es:({ s2 with heap:=h1,toks:=s.toks }:Shared)={ s with heap:=h1,toks:=s.toks }:=by rw [← hS]
 rw [es] at I4
 generalize hs4:({ s with heap:=h1,toks:=s.toks }:Shared)=s4 at I4
 have st4':tn 0 s4.heap:=by rw [← hs4]; exact st4
 have loop:codeAny (model X.prog X.w) X.A (.compLoop (.ListComp elt [⟨target,iter,ifs,0⟩] scope pos) 0 (.ref it) (.ref s.heap.objs.size) (compEnvC scope cl' s2.heap.objs.size X.env)) (RR (.ref s.heap.objs.size) s2.heap.objs.size) s4:=by
  refine ZiR (λn s'=>∃ i ys σ' H',Inv (cxIn X N scope cl' s2.heap.objs.size s2 (upd H s.heap.objs.size (.lst [])) fp pins) [] σ' H' s'/\tn i s'.heap/\(∀ b∈fp,H' b=none)/\W i n ys σ' H') ?_ m0
   ⟨0,[],_,_,I4,st4',λb hb=>(hf2 b hb).1,w0⟩
  rintro n s5 ⟨i,ys,σ5,H5,I5,st5,fr5,w5⟩
  have stat:∀ {H':Hp} {s':Shared} {σ':St},Inv (cxIn X N scope cl' s2.heap.objs.size s2 (upd H s.heap.objs.size (.lst [])) fp pins) [] σ' H' s'->(∀ b∈fp,H' b=none)->∀ b∈fp,FpOk (cxIn X N scope cl' s2.heap.objs.size s2 (upd H s.heap.objs.size (.lst [])) fp pins) [] H' b:=λJ' hn b hb =>
   ⟨hn b hb,(J'.ok.exf b hb).1,J'.ok.exfs b hb,.inl hb,(J'.ok.exf b hb).2,λp hp z=>by
    have hp':p∈X.pn++pins:=by
     have q:p∈(X.pn++pins)++[]:=hp
     rwa [append_nil] at q
    exact (hf b hb).2.2.2.2.2 p hp' z⟩
  rcases turn i n ys σ5 H5 w5 with ⟨stop,q⟩ | ⟨go,step⟩
  .refine wpAny_mono (T.done (cxIn X N scope cl' s2.heap.objs.size s2 (upd H s.heap.objs.size (.lst [])) fp pins) rfl rfl rfl hc i [] s5 σ5 H5 (λ_ _=>False) I5 (stat I5 fr5) st5 stop) (λr s6 ⟨hr,I6⟩=>?_) λ_ _ z=>z
   subst hr
   obtain ⟨m',hn',_⟩:=I6.loc
   have hC:s.heap.objs.size<=s2.heap.objs.size:=by rw [sz2]; exact Nat.le_succ _
   refine hRR _ _ H5 s6 m' hC hn' I6.free ?_ ?_ (λh2 sb=>?_) q
   .exact Nat.ne_of_gt I2.lt
   .exact I2.nofs (Nat.le_refl _)
   .have u:Un (frs X.stack) fp (upd H s.heap.objs.size (.lst [])) H5 s2.heap h2:=I6.base.but (Nat.le_refl _) sb.extBut
    have z6:H5 s2.heap.objs.size=none:=I6.free
    have hok:HOk X.prog X.w H5 h2:=λb ob e=>(I6.hok b ob e).stay (λd w' hd z=>sb.extBut d w' (by
     rintro rfl
     rcases hd with rfl | hd
     .rw [z6] at e; cases e
     .rw [z6] at hd; cases hd) z) (λ_ z=>z) λ_ _ z=>z
    have J:=I2.call' (s':={ s6 with heap:=h2 }) (ch:=fp) (by show s6.os=s2.os; exact I6.os) u hok I6.bare λb hb=>⟨(hf b hb).2.2.2.1,(hf b hb).2.1,(hf b hb).2.2.2.2.1,(hf b hb).2.2.2.2.2⟩
    exact J
  .refine wpAny_mono (T.item (cxIn X N scope cl' s2.heap.objs.size s2 (upd H s.heap.objs.size (.lst [])) fp pins) rfl rfl rfl hc i [] s5 σ5 H5 (λ_ _=>False) I5 (stat I5 fr5) st5 go) (λr s6 ⟨u,hr,h6⟩=>?_) λ_ _ z=>z
   subst hr
   refine wpAny_mono h6 (λ_ s7 ⟨x,H7,I7,r7,y7,st7,fr7⟩=>?_) λ_ _ z=>z
   have I7':=I7.pinned (stat I7 fr7) (T.obj _ _ st7)
   refine wpAny_mono (hg _ _ _ _ _ _ _ s7 σ5 H7 x u _ I7' r7 (step x H7 y7)) (λ_ s8 ⟨σ8,H8,I8,q8⟩=>?_) λ_ _ z=>z
   refine wpAny_mono (ht _ _ _ _ _ _ _ s8 σ8 H8 _ I8 q8) (λb s9 ⟨H9,I9,q9⟩=>?_) λ_ _ z=>z
   have fin:∀ {s':Shared} {H':Hp} {m':Nat} {ys':List V},Inv (cxIn X N scope cl' s2.heap.objs.size s2 (upd H s.heap.objs.size (.lst [])) fp pins) ([]++Zfg fp s7.heap) σ8 H' s'->m'<n->W (i+1) m' ys' σ8 H' ->
     ∃ m,m<n/\∃ i ys σ' H',Inv (cxIn X N scope cl' s2.heap.objs.size s2 (upd H s.heap.objs.size (.lst [])) fp pins) [] σ' H' s'/\tn i s'.heap/\(∀ b∈fp,H' b=none)/\W i m ys σ' H':=λ{s' H' m' ys'} J' hm w'=>by
    refine ⟨m',hm,i+1,ys',σ8,H',J'.unpinned,T.keep _ _ _ st7 λb hb o e=>(J'.pin (b,o) (mem_append_right _ (mem_append_right _ (ZbK hb e)))).1,λb hb=>?_,w'⟩
    obtain ⟨o,e,d⟩:=T.obj _ _ st7 b hb
    exact (J'.pin (b,o) (mem_append_right _ (mem_append_right _ (ZbK hb e)))).2.1
   cases b with
   | false =>
    rw [if_neg Bool.false_ne_true] at q9 ⊢
    obtain ⟨m',hm,w'⟩:=q9
    exact fin I9 hm w'
   | true =>
    rw [if_pos rfl] at q9 ⊢
    refine wpAny_mono (he _ _ _ _ _ _ _ s9 σ8 H9 _ I9 q9) (λy s10 ⟨z,H10,I10,r10,el,ez,m',hm,w'⟩=>?_) λ_ _ z=>z
    refine wpAny_mono (ZB (X:=cxIn X N scope cl' s2.heap.objs.size s2 (upd H s.heap.objs.size (.lst [])) fp pins) _ s10 σ8 H10 (.ref s.heap.objs.size) [z] _ [y] (λ_ H'=>H'=upd H10 s.heap.objs.size (.lst (ys++[z]))) I10 rfl (.cons r10 .nil) ⟨_,_,_,rfl,rfl,el,ez,rfl⟩) (λ_ s11 ⟨_,H11,I11,_,e11⟩=>?_) λ_ _ z=>z
    subst e11
    exact fin I11 hm w'
 have fin:codeAny (model X.prog X.w) X.A (.compStart (.ListComp elt [⟨target,iter,ifs,0⟩] scope pos) 0 (.ref it) (.ref s.heap.objs.size) (compEnvC scope cl' s2.heap.objs.size X.env)) (RR (.ref s.heap.objs.size) s2.heap.objs.size) s4 :=
  codeAny_compStart_list loop (T.self X.A 0 s4 _ _ st4' loop)
 exact fin
theorem Zha {elt target iter:PySem.Expr} {ifs:List PySem.Expr} {pos:Pos} {wi:TI} {g:TG} {tc:TT} {te:TE} (c:CompOk X scope N own js) (hc:X.calm=true) (hi:PI X target iter wi)
  (hg:∀ cl C s0 H0 fp pins,PG (cxIn X N scope cl C s0 H0 fp pins) target g)
  (ht:∀ cl C s0 H0 fp pins pins' s σ H Q,Inv (cxIn X N scope cl C s0 H0 fp pins) pins' σ H s->tc σ H Q->wpAny (model X.prog X.w) X.A (forIn ifs true λc r=>if r=true then do let ok ← isTrue c (compEnvC scope cl C X.env) (eval c (compEnvC scope cl C X.env)); pure (ForInStep.yield ok) else pure (ForInStep.yield r))
   (TP (cxIn X N scope cl C s0 H0 fp pins) pins' σ Q) (λ_ _=>False) s)
  (he:∀ cl C s0 H0 fp pins,PE (cxIn X N scope cl C s0 H0 fp pins) elt te)
  (hs:∀ x,foldedSetIterable iter X.env x=pure x:=by intro _; rfl):PE X (.ListComp elt [⟨target,iter,ifs,0⟩] scope pos) (tComp own js wi g tc te):=by
 intro pins s σ H Q I h
 obtain ⟨cl,e1,cl1,_,cl2⟩:=Zbc (env:=X.env) scope.names [] (λp hp hf=>I.ok.has _ (c.free p hp hf)) (λx d e=>by simp at e)
 have hclos:closureFor scope X.env=pure cl:=by
  unfold closureFor
  refine (congrArg (λz=>z >>= λcs=>pure cs) e1).trans ?_
  rfl
 rw [eval_ListComp]
 refine wpAny_comprehension_free (use:=none) rfl hs hclos c.kind c.names (wpAny_mono (hi pins s σ H _ I h) (λx s1 h1=>wpAny_mono h1 (λitv s2 h2=>?_) λ_ _ e=>e) λ_ _ e=>e)
 obtain ⟨it,fp,tn,J,H2,e,I2,T,st2,f2,q⟩:=h2
 subst e
 refine Zee (Q:=Q) (RR:=λacc C=>compPost (model X.prog X.w) X.A X.xe none (EP X pins σ Q) acc C) c hc I2 T st2 f2 cl1 cl2 hg ht he q ?_
 intro l C H' s' m' hC hn hf hL hfs hI hq
 exact ⟨m',hn,λh2 sb=>⟨.ref l,H',hI h2 sb,rfl,hq⟩⟩
theorem Zhb {elt target iter:PySem.Expr} {ifs:List PySem.Expr} {pos pos' spos:Pos} {y:Str} {k:Nat} {wi:TI} {g:TG} {tc:TT} {te:TE} (c:CompOk X scope N own js) (hc:X.calm=true) (hN:X.N.Nodup) (hk:X.N[k]?=some y) (hy:X.env.scope.names.lookup y=some .local) (hi:PI X target iter wi)
  (hg:∀ cl C s0 H0 fp pins,PG (cxIn X N scope cl C s0 H0 fp pins) target g)
  (ht:∀ cl C s0 H0 fp pins pins' s σ H Q,Inv (cxIn X N scope cl C s0 H0 fp pins) pins' σ H s->tc σ H Q->wpAny (model X.prog X.w) X.A (forIn ifs true λc r=>if r=true then do let ok ← isTrue c (compEnvC scope cl C X.env) (eval c (compEnvC scope cl C X.env)); pure (ForInStep.yield ok) else pure (ForInStep.yield r))
   (TP (cxIn X N scope cl C s0 H0 fp pins) pins' σ Q) (λ_ _=>False) s)
  (he:∀ cl C s0 H0 fp pins,PE (cxIn X N scope cl C s0 H0 fp pins) elt te)
  (hs:∀ x,foldedSetIterable iter X.env x=pure x:=by intro _; rfl)
  (hsw:swapsWith (.ListComp elt [⟨target,iter,ifs,0⟩] scope pos) (some (.Name y pos')) spos.line X.env=pure true:=by rfl):PS X (.Assign [.Name y pos'] (.ListComp elt [⟨target,iter,ifs,0⟩] scope pos) spos) (tAsg (tComp own js wi g tc te) (gName k)):=by
 intro pins s σ H D I h
 obtain ⟨cl,e1,cl1,_,cl2⟩:=Zbc (env:=X.env) scope.names [] (λp hp hf=>I.ok.has _ (c.free p hp hf)) (λx d e=>by simp at e)
 have hclos:closureFor scope X.env=pure cl:=by
  unfold closureFor
  refine (congrArg (λz=>z >>= λcs=>pure cs) e1).trans ?_
  rfl
 rw [exec_Assign_Name_used _ _ _ _ hsw]
 refine wpAny_bind (wpAny_standAt (wpAny_bind ?_))
 show wpAny _ X.A (do let _ ← comprehension (.ListComp elt [⟨target,iter,ifs,0⟩] scope pos) scope X.env _ (newList []) false (eval iter X.env) (some (assign (.Name y pos') X.env))) _ _ s
 refine wpAny_bind (wpAny_mono (wpAny_comprehension_free (use:=some (assign (.Name y pos') X.env)) (Q:=λ_ s'=>SP X pins D .next s') rfl hs hclos c.kind c.names
  (wpAny_mono (hi pins s σ H _ I h) (λxv s1 h1=>wpAny_mono h1 (λit s2 h2=>?_) λ_ _ e=>e) λ_ _ e=>e)) (λ_ s' hq=>wpAny_pure (wpAny_pure hq)) λ_ _ e=>e)
 obtain ⟨it,fp,tn,J,H2,e,I2,T,st2,f2,q⟩:=h2
 subst e
 refine Zee (Q:=λx H1=>gName k x σ H1 D.nx) (RR:=λacc C=>compPost (model X.prog X.w) X.A X.xe (some (assign (.Name y pos') X.env)) (λ_ s'=>SP X pins D .next s') acc C) c hc I2 T st2 f2 cl1 cl2 hg ht he q ?_
 intro l C H' s' m' hC hn hf hL hfs hI hq
 have J0:=hI s'.heap (Heap.SameBut.refl ..)
 show wpAny _ X.A (assign (.Name y pos') X.env (.ref l)) _ _ _
 have J1:Inv X pins σ H' s':=J0
 refine wpAny_assign_Name (Zfe (v:=.ref l) J1 hN hk (.inl hy) rfl (λs'' I'' hsb=>?_) (.inr hy))
 obtain ⟨a,sb,ha⟩:=hsb
 have hne:C≠a:=by
  rcases ha with rfl | ha
  .exact hL
  .rintro rfl
   obtain ⟨v,⟨o,ho,hd⟩⟩:=J1.cell y C ha
   obtain ⟨o',es,ep,ho',hd',_⟩:=hn
   rw [ho] at ho'; cases ho'
   rw [hd] at hd'; cases hd'
 refine ⟨m',hn.sameBut sb hne,λh2 sb2=>?_⟩
 have hok:HOk X.prog X.w H' h2:=λb ob e=>(I''.hok b ob e).stay (λd w' hd z=>sb2.extBut d w' (by
  rintro rfl
  rcases hd with rfl | hd
  .rw [hf] at e; cases e
  .rw [hf] at hd; cases hd) z) (λ_ z=>z) λ_ _ z=>z
 have cne:∀ x d,X.env.cells.lookup x=some d->d≠C:=λx d e z=>by
  subst z
  obtain ⟨v,⟨o,ho,hd⟩⟩:=J1.cell x d e
  obtain ⟨o',es,ep,ho',hd',_⟩:=hn
  rw [ho] at ho'; cases ho'
  rw [hd] at hd'; cases hd'
 have hpn:∀ p∈X.pn++pins,p.1≠C:=λp hp z=>by
  have a1:=(I2.pin p hp).1
  exact absurd (Nat.lt_of_lt_of_le (Heap.lt_size a1) (by rw [z]; exact hC)) (Nat.lt_irrefl _)
 have fin:Inv X pins (σ.set k (some (.ref l))) H' { s'' with heap:=h2 }:=I''.turned (t':=s''.toks) (it:=C) (λb o hb e=>sb2.extBut b o hb e) hf hL (.inr (Nat.le_trans I2.sz hC)) cne hpn
 exact ⟨_,H',fin,hq⟩
theorem ZaV {elt target iter:PySem.Expr} {pos:Pos} {wi:TI} {g:TG} {te:TE} (c:CompOk X scope N own js) (hc:X.calm=true) (hi:PI X target iter wi)
  (hg:∀ cl C s0 H0 fp pins,PG (cxIn X N scope cl C s0 H0 fp pins) target g) (he:∀ cl C s0 H0 fp pins,PE (cxIn X N scope cl C s0 H0 fp pins) elt te)
  (hs:∀ x,foldedSetIterable iter X.env x=pure x:=by intro _; rfl):PE X (.ListComp elt [⟨target,iter,[],0⟩] scope pos) (tComp own js wi g tTrue te) :=
 Zha c hc hi hg (λcl C s0 H0 fp pins pins' s σ H Q I h=>wpAny_tests_nil ⟨H,I,h⟩) he hs
theorem ZcP {elt target iter tst:PySem.Expr} {pos:Pos} {wi:TI} {g:TG} {tc:TT} {te:TE} (c:CompOk X scope N own js) (hc:X.calm=true) (hi:PI X target iter wi)
  (hg:∀ cl C s0 H0 fp pins,PG (cxIn X N scope cl C s0 H0 fp pins) target g) (ht:∀ cl C s0 H0 fp pins,PT (cxIn X N scope cl C s0 H0 fp pins) tst tc) (he:∀ cl C s0 H0 fp pins,PE (cxIn X N scope cl C s0 H0 fp pins) elt te)
  (hs:∀ x,foldedSetIterable iter X.env x=pure x:=by intro _; rfl):PE X (.ListComp elt [⟨target,iter,[tst],0⟩] scope pos) (tComp own js wi g tc te) :=
 Zha c hc hi hg (λcl C s0 H0 fp pins pins' s σ H Q I h=>wpAny_tests_one (ht cl C s0 H0 fp pins pins' s σ H Q I h)) he hs
theorem ZcQ {elt target iter:PySem.Expr} {pos pos' spos:Pos} {y:Str} (k:Nat) {wi:TI} {g:TG} {te:TE} (c:CompOk X scope N own js) (hc:X.calm=true) (hN:X.N.Nodup) (hk:X.N[k]?=some y) (hy:X.env.scope.names.lookup y=some .local) (hi:PI X target iter wi)
  (hg:∀ cl C s0 H0 fp pins,PG (cxIn X N scope cl C s0 H0 fp pins) target g) (he:∀ cl C s0 H0 fp pins,PE (cxIn X N scope cl C s0 H0 fp pins) elt te)
  (hs:∀ x,foldedSetIterable iter X.env x=pure x:=by intro _; rfl)
  (hsw:swapsWith (.ListComp elt [⟨target,iter,[],0⟩] scope pos) (some (.Name y pos')) spos.line X.env=pure true:=by rfl):PS X (.Assign [.Name y pos'] (.ListComp elt [⟨target,iter,[],0⟩] scope pos) spos) (tAsg (tComp own js wi g tTrue te) (gName k)) :=
 Zhb c hc hN hk hy hi hg (λcl C s0 H0 fp pins pins' s σ H Q I h=>wpAny_tests_nil ⟨H,I,h⟩) he hs hsw
theorem Zez {elt target iter tst:PySem.Expr} {pos pos' spos:Pos} {y:Str} (k:Nat) {wi:TI} {g:TG} {tc:TT} {te:TE} (c:CompOk X scope N own js) (hc:X.calm=true) (hN:X.N.Nodup) (hk:X.N[k]?=some y) (hy:X.env.scope.names.lookup y=some .local) (hi:PI X target iter wi)
  (hg:∀ cl C s0 H0 fp pins,PG (cxIn X N scope cl C s0 H0 fp pins) target g) (ht:∀ cl C s0 H0 fp pins,PT (cxIn X N scope cl C s0 H0 fp pins) tst tc) (he:∀ cl C s0 H0 fp pins,PE (cxIn X N scope cl C s0 H0 fp pins) elt te)
  (hs:∀ x,foldedSetIterable iter X.env x=pure x:=by intro _; rfl)
  (hsw:swapsWith (.ListComp elt [⟨target,iter,[tst],0⟩] scope pos) (some (.Name y pos')) spos.line X.env=pure true:=by rfl):PS X (.Assign [.Name y pos'] (.ListComp elt [⟨target,iter,[tst],0⟩] scope pos) spos) (tAsg (tComp own js wi g tc te) (gName k)) :=
 Zhb c hc hN hk hy hi hg (λcl C s0 H0 fp pins pins' s σ H Q I h=>wpAny_tests_one (ht cl C s0 H0 fp pins pins' s σ H Q I h)) he hs hsw
end
section
variable {X:Cx} {pins:List (Addr×Obj)} {σ:St} {H:Hp} {s:Shared}
theorem HOk.offCh {P:Program} {w:World} {h h':Heap} {ch:List Addr} (hok:HOk P w H h) (hn:∀ b∈ch,H b=none) (k:∀ b o,b∉ch->h.get? b=some o->h'.get? b=some o):HOk P w H h':=λb ob e =>
 (hok b ob e).stay (λd u hd z=>k d u (λm=>by
  rcases hd with rfl | hd
  .rw [hn _ m] at e; cases e
  .rw [hn _ m] at hd; cases hd) z) (λ_ z=>z) λ_ _ z=>z
theorem Inv.turnedCh {ch:List Addr} {h':Heap} {t':Nat} (I:Inv X pins σ H s) (hch:∀ b∈ch,FpOk X pins H b) (k:∀ b o,b∉ch->s.heap.get? b=some o->h'.get? b=some o) :
  Inv X pins σ H { s with heap:=h',toks:=t' }:=by
 have u:Un (frs X.stack) ch H H s.heap h':=⟨λb o q _ _ hx=>k b o hx q,λb o q _ _ hx=>⟨o.slots,k b o hx q⟩,λ_ _ _ n _=>n,λb o q hx=>⟨o,k b o hx q⟩,λ_ _ q=>q,λ_ _ _ q=>q,λ_ _ _ q=>q⟩
 exact I.call (g':=s.gens) (d':=s.drawn) (t':=t') u (I.hok.offCh (λb hb=>(hch b hb).1) k) I.bare λb hb=>⟨(hch b hb).2.2.2.1,(hch b hb).2.1,(hch b hb).2.2.2.2.1,(hch b hb).2.2.2.2.2⟩
theorem Inv.laidCh {ch:List Addr} {h':Heap} {t':Nat} {o:HO} (I:Inv X pins σ H s) (hch:∀ b∈ch,FpOk X pins H b) (k:∀ b o,b∉ch->s.heap.get? b=some o->h'.get? b=some o)
  (new:ObjOk X.prog X.w (upd H s.heap.objs.size o) h' s.heap.objs.size o):Inv X pins σ (upd H s.heap.objs.size o) { s with heap:=h',toks:=t' }:=by
 have fr:H s.heap.objs.size=none:=I.hok.fresh (Nat.le_refl _)
 have ne:∀ b ob,s.heap.get? b=some ob->b≠s.heap.objs.size:=λb ob e=>Nat.ne_of_lt (Heap.lt_size e)
 have nt:∀ b ob,H b=some ob->b≠s.heap.objs.size:=λb ob e=>Zb e fr
 have u:Un (frs X.stack) ch H (upd H s.heap.objs.size o) s.heap h':=⟨λb o q _ _ hx=>k b o hx q,λb o q _ _ hx=>⟨o.slots,k b o hx q⟩,λb ob q n _=>by rw [Ze (ne b ob q)]; exact n,λb o q hx=>⟨o,k b o hx q⟩,
  λb xs q=>by rw [Ze (nt b _ q)]; exact q,λb ob xs q=>by rw [Ze (nt b _ q)]; exact q,λb _ _ q=>by rw [Ze (nt b _ q)]; exact q⟩
 have hok:HOk X.prog X.w (upd H s.heap.objs.size o) h':=λb ob e=>by
  by_cases hb:b=s.heap.objs.size
  .subst hb
   rw [Za] at e; cases e
   exact new
  .rw [Ze hb] at e
   refine (I.hok b ob e).stay (λd u hd z=>k d u (λm=>?_) z) (λd z=>by rw [Ze (nt d _ z)]; exact z) (λd xs z=>by rw [Ze (nt d _ z)]; exact z) λd oz z=>by rw [Ze (nt d _ z)]; exact z
   have hn:=(hch d m).1
   rcases hd with rfl | hd
   .rw [hn] at e; cases e
   .rw [hn] at hd; cases hd
 exact I.call (g':=s.gens) (d':=s.drawn) (t':=t') u hok I.bare λb hb=>⟨(hch b hb).2.2.2.1,(hch b hb).2.1,(hch b hb).2.2.2.2.1,(hch b hb).2.2.2.2.2⟩
end
theorem nne {a b:Nat} (h:a<b\/b<a):@Ne Addr a b:=λe=>by
 have e':a=b:=e
 omega
theorem Zds (n l1 l2:Nat) (h1:l1<n) (h2:l2<n):ZipApart (n+4) (n+2) (n+3) n (n+1) l1 l2 :=
 ⟨nne (by omega),nne (by omega),nne (by omega),nne (by omega),nne (by omega),nne (by omega),nne (by omega),nne (by omega),nne (by omega),nne (by omega),nne (by omega),nne (by omega),nne (by omega),nne (by omega),nne (by omega),nne (by omega),nne (by omega),nne (by omega)⟩
def Itz (K:W.Frag) (a b:Addr):It :=
 ⟨λi H=>∃ xs ys x y,SqL K H a xs/\SqL K H b ys/\xs[i]?=some x/\ys[i]?=some y,
 λi H v H'=>∃ t x y,H t=none/\v=.ref t/\H'=upd H t (.tup [x,y])/\(∀ xs,SqL K H a xs->xs[i]?=some x)/\∀ ys,SqL K H b ys->ys[i]?=some y,
 λi H=>∃ xs ys,SqL K H a xs/\SqL K H b ys/\(xs.length<=i\/ys.length<=i)⟩
theorem ZcR {h:Heap} {it l:Addr} {i:Nat} (x:h.IsListIter it l i):∃ o,h.get? it=some o/\∀ v,o.data≠.cell v:=by
 obtain ⟨o,e,c,d⟩:=x
 exact ⟨o,e,λv z=>by rw [d] at z; cases z⟩
theorem Zhc {P:Program} {w:World} {K:W.Frag} {elts:List PySem.Expr} {x1} {pos:Pos} (z TI TO i1 i2 a b:Addr) (D:ZipApart z TI TO i1 i2 a b) :
  Turn P w K (.Tuple elts x1 pos) (Itz K a b) [z,TI,TO,i1,i2] z (λi h=>IsZip h z TI TO .none/\IsPair h TI (.ref i1) (.ref i2)/\(∃ u v,IsPair h TO u v)/\h.IsListIter i1 a i/\h.IsListIter i2 b i) where
 mem:=by simp
 obj:=λi h st c hc=>by
  obtain ⟨hz,hTI,⟨u,v,hTO⟩,h1,h2⟩:=st
  simp only [mem_cons,not_mem_nil,or_false] at hc
  rcases hc with rfl | rfl | rfl | rfl | rfl
  .exact ⟨_,hz,λv e=>by cases e⟩
  .exact ⟨_,hTI,λv e=>by cases e⟩
  .exact ⟨_,hTO,λv e=>by cases e⟩
  .exact ZcR h1
  .exact ZcR h2
 keep:=λi h h' st k=>by
  obtain ⟨hz,hTI,⟨u,v,hTO⟩,h1,h2⟩:=st
  exact ⟨k z (by simp) _ hz,k TI (by simp) _ hTI,⟨u,v,k TO (by simp) _ hTO⟩,h1.at λo e=>k i1 (by simp) o e,h2.at λo e=>k i2 (by simp) o e⟩
 item:=by
  intro X hP hw hK hc i pins s σ H E I hf st hg
  subst hP hw hK
  obtain ⟨xs,ys,x,y,hqa,hqb,hx,hy⟩:=hg
  obtain ⟨hz,hTI,⟨u0,v0,hTO⟩,h1,h2⟩:=st
  obtain ⟨itsa,ra,pa,za⟩:=I.list hqa
  obtain ⟨itsb,rb,pb,zb⟩:=I.list hqb
  obtain ⟨ux,hux,rux⟩:=ra.get hx
  obtain ⟨uy,huy,ruy⟩:=rb.get hy
  refine wpAny_pyNext_zip_item D hz hTI hTO h1 h2 pa.isList pb.isList (x:=ux) (y:=uy) (by simpa using hux) (by simpa using huy) λh' a1 a2 a3 a4 a5 a6 a7=>?_
  refine ⟨.ref s.heap.objs.size,rfl,?_⟩
  refine wpAny_letOwnedTupleGo_zip a1 λh2' hz' hs'=>?_
  have hzlt:z<s.heap.objs.size:=Heap.lt_size hz
  have kk:∀ c o,c∉[z,TI,TO,i1,i2]->s.heap.get? c=some o->h2'.get? c=some o:=λc o hc e=>by
   simp only [mem_cons,not_mem_nil,or_false,not_or] at hc
   exact hs'.extBut c o hc.1 (a7 c o hc.1 hc.2.2.1 hc.2.2.2.1 hc.2.2.2.2 e)
  have tp:h2'.get? s.heap.objs.size=some { cls:=.type "tuple",data:=.seq #[ux,uy] }:=hs'.extBut _ _ (Nat.ne_of_gt hzlt) a5
  have I1:Inv X pins σ (upd H s.heap.objs.size (.tup [x,y])) { s with heap:=h2',toks:=s.toks } :=
   I.laidCh hf kk ⟨by show 2<=sizeLine; decide,[ux,uy],.cons rux (.cons ruy .nil),⟨_,tp,rfl,_,rfl⟩⟩
  have TIk:h2'.get? TI=s.heap.get? TI:=by
   rw [hTI]
   exact hs'.extBut _ _ D.TIz (a7 _ _ D.TIz D.TITO D.TIi1 D.TIi2 hTI)
  refine ⟨.ref s.heap.objs.size,_,I1,rfl,⟨s.heap.objs.size,x,y,I.hok.fresh (Nat.le_refl _),rfl,rfl,λxs' h=>by rw [I.list_inj h hqa]; exact hx,λys' h=>by rw [I.list_inj h hqb]; exact hy⟩,⟨hz',?_,⟨ux,uy,hs'.extBut _ _ D.TOz a2⟩,a3.at λo e=>hs'.extBut _ o D.i1z e,a4.at λo e=>hs'.extBut _ o D.i2z e⟩,λc hc=>?_⟩
  .show h2'.get? TI=_
   rw [TIk]; exact hTI
  .have hc':=hc
   have hlt:c<s.heap.objs.size:=by
    simp only [mem_cons,not_mem_nil,or_false] at hc'
    rcases hc' with rfl | rfl | rfl | rfl | rfl
    .exact hzlt
    .exact Heap.lt_size hTI
    .exact Heap.lt_size hTO
    .obtain ⟨o,e,_⟩:=ZcR h1; exact Heap.lt_size e
    .obtain ⟨o,e,_⟩:=ZcR h2; exact Heap.lt_size e
   rw [Ze (Nat.ne_of_lt hlt)]
   exact (hf c hc).1
 done:=by
  intro X hP hw hK hc i pins s σ H E I hf st hg
  subst hP hw hK
  obtain ⟨xs,ys,hqa,hqb,hend⟩:=hg
  obtain ⟨hz,hTI,⟨u0,v0,hTO⟩,h1,h2⟩:=st
  obtain ⟨itsa,ra,pa,za⟩:=I.list hqa
  obtain ⟨itsb,rb,pb,zb⟩:=I.list hqb
  have la:=ra.length
  have lb:=rb.length
  refine wpAny_pyNext_zip_end (I.ok.hd hc) D hz hTI hTO h1 h2 pa.isList pb.isList ?_ λh' hk=>⟨rfl,?_⟩
  .rcases hend with q | q
   .exact .inl (by simp; omega)
   .exact .inr (by simp; omega)
  .refine I.turnedCh (t':=s.toks) hf λc o hc e=>?_
   simp only [mem_cons,not_mem_nil,or_false,not_or] at hc
   exact hk c o hc.1 hc.2.2.1 hc.2.2.2.1 hc.2.2.2.2 e
 self:=λ_ _ _ _ _ st h=>wpAny_pyIter_zip st.1 h
def iZip (K:W.Frag) (ta:TA):TI:=λσ H R=>ta σ H λvs H1=>∃ a b,vs=[.ref a,.ref b]/\(∃ xs,SqL K H1 a xs)/\(∃ ys,SqL K H1 b ys)/\R (Itz K a b) H1
section
variable {X:Cx}
theorem Zhd:bootBuiltins "zip" = some (.type "zip"):=by first | rfl | decide +kernel | kernel_rfl
theorem ZdT:bootBuiltins "enumerate" = some (.type "enumerate"):=by first | rfl | decide +kernel | kernel_rfl
theorem ZlE {elts:List PySem.Expr} {x1} {tpos:Pos} {a b:PySem.Expr} {ta:TA} {p pos:Pos} (hg:Gl X "zip") (hm:X.mg "zip" = none) (ha:PA X [a,b] ta) (hs:starEach [a,b] X.env=[(false,eval a X.env),(false,eval b X.env)]:=by rfl) (hs2:starEach [b] X.env=[(false,eval b X.env)]:=by rfl) :
  PI X (.Tuple elts x1 tpos) (.Call (.Name "zip" p) [a,b] [] pos) (iZip X.K ta):=by
 intro pins s σ H R I h
 refine Call_ (ZbZ I hg hm Zhd (PyProof.Rows.callWith_type1 (thn (ha pos pins s σ H _ I h) λus s1 ⟨vs,H1,I1,r1,q1⟩=>?_) (by rw [hs,hs2]) (by rw [hs2]; rfl)))
 obtain ⟨l1,l2,e,⟨xs,hqa⟩,⟨ys,hqb⟩,q⟩:=q1
 subst e
 obtain ⟨v1,v2,rfl,r,r'⟩:=vals2 r1
 cases r
 cases r'
 obtain ⟨itsa,ra,pa,za⟩:=I1.list hqa
 obtain ⟨itsb,rb,pb,zb⟩:=I1.list hqb
 have lt1:l1<s1.heap.objs.size:=by obtain ⟨o,e,_⟩:=pa.isList; exact Heap.lt_size e
 have lt2:l2<s1.heap.objs.size:=by obtain ⟨o,e,_⟩:=pb.isList; exact Heap.lt_size e
 refine call_zip_2 pa.isList pb.isList λh' g5 g3 g4 g1 g2 hsz kp=>wpAny_pyIter_zip g5 ?_
 refine ⟨_,[_,_,_,_,_],_,_,H1,rfl,I1.kept (t':=s1.toks) kp,Zhc _ _ _ _ _ l1 l2 (Zds s1.heap.objs.size l1 l2 lt1 lt2),⟨g5,g3,⟨_,_,g4⟩,g1,g2⟩,λc hc=>?_,q⟩
 have hc':s1.heap.objs.size<=c:=by
  simp only [mem_cons,not_mem_nil,or_false] at hc
  rcases hc with rfl | rfl | rfl | rfl | rfl <;> first | exact Nat.le_refl _ | exact Nat.le_add_right _ _
 exact I1.fpOk hc' (I1.hok.fresh hc')
def Ite (K:W.Frag) (a:Addr):It :=
 ⟨λi H=>∃ xs x,SqL K H a xs/\xs[i]?=some x,
 λi H v H'=>∃ t x,H t=none/\v=.ref t/\H'=upd H t (.tup [.int i,x])/\∀ xs,SqL K H a xs->xs[i]?=some x,
 λi H=>∃ xs,SqL K H a xs/\xs.length=i⟩
theorem ZiT {P:Program} {w:World} {K:W.Frag} {elts:List PySem.Expr} {x1} {pos:Pos} (e it a:Addr) (hei:e≠it) (hae:a≠e) (hai:a≠it) :
  Turn P w K (.Tuple elts x1 pos) (Ite K a) [e,it] e (λi h=>(∃ old,IsEnum h e it i old)/\h.IsListIter it a i) where
 mem:=by simp
 obj:=λi h st c hc=>by
  obtain ⟨⟨old,he⟩,h1⟩:=st
  simp only [mem_cons,not_mem_nil,or_false] at hc
  rcases hc with rfl | rfl
  .exact ⟨_,he,λv z=>by cases z⟩
  .obtain ⟨o,q,c,d⟩:=h1; exact ⟨o,q,λv z=>by rw [d] at z; cases z⟩
 keep:=λi h h' st k=>by
  obtain ⟨⟨old,he⟩,h1⟩:=st
  exact ⟨⟨old,k e (by simp) _ he⟩,h1.at λo q=>k it (by simp) o q⟩
 item:=by
  intro X hP hw hK hc i pins s σ H E I hf st hg
  subst hP hw hK
  obtain ⟨xs,x,hq,hx⟩:=hg
  obtain ⟨⟨old,he⟩,h1⟩:=st
  obtain ⟨its,rv,p,hz⟩:=I.list hq
  obtain ⟨u,hu,ru⟩:=rv.get hx
  have hlt:i<its.toArray.size:=by
   have:=(List.getElem?_eq_some_iff.mp hu).1
   simpa using this
  refine wpAny_pyNext_enum_itemD (Draws.list (A:=X.A.in1) (show X.A.in1.handled=none from I.ok.hd hc) it a hai its.toArray) he ⟨h1,p.isList⟩ hlt hei (by simp [hei,Ne.symm hae]) λv h' tk hP ho hs' hT hsz hk=>?_
  have hP':v=u:=by
   have z:its[i]?=some v:=by simpa using hP
   rw [hu] at z; exact (Option.some.inj z).symm
  subst hP'
  refine ⟨.ref s.heap.objs.size,rfl,?_⟩
  refine wpAny_letOwnedTupleGo_enum ho λh2 he2 sb2=>?_
  have helt:e<s.heap.objs.size:=Heap.lt_size he
  have kk:∀ c o,c∉[e,it]->s.heap.get? c=some o->h2.get? c=some o:=λc o hc q=>by
   simp only [mem_cons,not_mem_nil,or_false,not_or] at hc
   exact (sb2.2 c hc.1).trans (hk c o hc.1 hc.2 q)
  have tp:h2.get? s.heap.objs.size=some { cls:=.type "tuple",data:=.seq #[.int i tk,v] }:=(sb2.2 _ (Nat.ne_of_gt helt)).trans hT
  have I1:Inv X pins σ (upd H s.heap.objs.size (.tup [.int i,x])) { s with heap:=h2,toks:=tk+1 } :=
   I.laidCh hf kk ⟨by show 2<=sizeLine; decide,[.int i tk,v],.cons ⟨tk,rfl⟩ (.cons ru .nil),⟨_,tp,rfl,_,rfl⟩⟩
  refine ⟨.ref s.heap.objs.size,_,I1,rfl,⟨s.heap.objs.size,x,I.hok.fresh (Nat.le_refl _),rfl,rfl,λys hy=>by rw [I.list_inj hy hq]; exact hx⟩,⟨⟨v,by simpa using he2⟩,hs'.1.at λo q=>(sb2.2 _ (Ne.symm hei)).trans q⟩,λc hc=>?_⟩
  have hlt':c<s.heap.objs.size:=by
   simp only [mem_cons,not_mem_nil,or_false] at hc
   rcases hc with rfl | rfl
   .exact helt
   .obtain ⟨o,q,_⟩:=h1; exact Heap.lt_size q
  rw [Ze (Nat.ne_of_lt hlt')]
  exact (hf c hc).1
 done:=by
  intro X hP hw hK hc i pins s σ H E I hf st hg
  subst hP hw hK
  obtain ⟨xs,hq,hx⟩:=hg
  obtain ⟨⟨old,he⟩,h1⟩:=st
  obtain ⟨its,rv,p,hz⟩:=I.list hq
  have hl:=rv.length
  have ei:i=its.toArray.size:=by simp; omega
  subst ei
  refine wpAny_pyNext_enum_endD (Draws.list (A:=X.A.in1) (show X.A.in1.handled=none from I.ok.hd hc) it a hai its.toArray) he ⟨h1,p.isList⟩ λh' hx'=>⟨rfl,?_⟩
  refine I.turnedCh (t':=s.toks) hf λc o hc q=>?_
  simp only [mem_cons,not_mem_nil,or_false,not_or] at hc
  exact hx' c o hc.2 q
 self:=λ_ _ _ _ _ st h=>by
  obtain ⟨⟨old,he⟩,_⟩:=st
  exact wpAny_pyIter_enum he h
def iEnum (K:W.Frag) (ta:TA):TI:=λσ H R=>ta σ H λvs H1=>∃ a,vs=[.ref a]/\(∃ xs,SqL K H1 a xs)/\R (Ite K a) H1
theorem ZeA {elts:List PySem.Expr} {x1} {tpos:Pos} {a:PySem.Expr} {ta:TA} {p pos:Pos} (hg:Gl X "enumerate") (hm:X.mg "enumerate" = none) (ha:PA X [a] ta) (hs:starEach [a] X.env=[(false,eval a X.env)]:=by rfl) :
  PI X (.Tuple elts x1 tpos) (.Call (.Name "enumerate" p) [a] [] pos) (iEnum X.K ta):=by
 intro pins s σ H R I h
 refine Call_ (ZbZ I hg hm ZdT (PyProof.Rows.callWith_type1 (thn (ha pos pins s σ H _ I h) λus s1 ⟨vs,H1,I1,r1,q1⟩=>?_) hs rfl))
 obtain ⟨l,e,⟨xs,hq⟩,q⟩:=q1
 subst e
 cases r1 with
 | cons r rr =>
  cases rr
  cases r
  obtain ⟨its,rv,pl,hz⟩:=I1.list hq
  have lt1:l<s1.heap.objs.size:=by obtain ⟨o,e,_⟩:=pl.isList; exact Heap.lt_size e
  refine call_enumerate_list pl.isList λh' he hi hsz hk=>?_
  refine wpAny_pyIter_enum he ?_
  refine ⟨s1.heap.objs.size+1,[s1.heap.objs.size+1,s1.heap.objs.size],_,_,H1,rfl,I1.kept (t':=s1.toks) hk,ZiT (s1.heap.objs.size+1) s1.heap.objs.size l (Nat.succ_ne_self _) (nne (.inl (Nat.lt_succ_of_lt lt1))) (Nat.ne_of_lt lt1),⟨⟨_,he⟩,hi⟩,λc hc=>?_,q⟩
  have hc':s1.heap.objs.size<=c:=by
   simp only [mem_cons,not_mem_nil,or_false] at hc
   rcases hc with rfl | rfl <;> omega
  exact I1.fpOk hc' (I1.hok.fresh hc')
end
def tyN (H:Hp):V->Option String
 | .non=>some "NoneType"
 | .bl _=>some "bool"
 | .int _=>some "int"
 | .str _=>some "str"
 | .ref a=>match H a with
  | some (.lst _)=>some "list"
  | some (.frz _ (.lst _))=>some "list"
  | some (.tup _)=>some "tuple"
  | some (.dK _)=>some "dict"
  | some (.dT _)=>some "dict"
  | _=>none
 | _=>none
theorem ZlF {K:W.Frag} {H:Hp} {x:V} {t:String} (h:tyN H x=some t):TyOf K H x (.type t):=by
 cases x with
 | non=>cases h; exact .non
 | bl b=>cases h; exact .bl b
 | int i=>cases h; exact .int i
 | str z=>cases h; exact .str z
 | ref a =>
  simp only [tyN] at h
  split at h
  .rename_i e; cases h; exact .lst e
  .rename_i e; cases h; exact .frz e
  .rename_i e; cases h; exact .tup e
  .rename_i e; cases h; exact .dK e
  .rename_i e; cases h; exact .dT e
  .cases h
 | _=>cases h
def subT (t c:String):Bool:=t == c || (t == "bool" && c == "int")
def Zhe:List String:=["NoneType", "bool", "int", "str", "list", "tuple", "dict"]
def Zdt:List String:=["bool", "int", "str", "list", "tuple", "dict"]
theorem Zdu (K:W.Frag):∀ t∈Zhe,∀ c∈Zdt,W.kitOne K (.type t) (.type c)=some (subT t c):=by
 intro t ht c hc
 simp only [Zhe,mem_cons,not_mem_nil,or_false] at ht
 simp only [Zdt,mem_cons,not_mem_nil,or_false] at hc
 rcases ht with rfl | rfl | rfl | rfl | rfl | rfl | rfl <;> rcases hc with rfl | rfl | rfl | rfl | rfl | rfl <;> rfl
theorem Zft {H:Hp} {x:V} {t:String} (h:tyN H x=some t):t∈Zhe:=by
 cases x with
 | non=>cases h; decide
 | bl b=>cases h; decide
 | int i=>cases h; decide
 | str z=>cases h; decide
 | ref a =>
  simp only [tyN] at h
  split at h <;> first | (cases h; decide) | cases h
 | _=>cases h
section
variable {X:Cx}
def rIsi:List V->Hp->VK->Prop:=λxs H Q=>∃ x t c,xs=[x,.ty c]/\tyN H x=some t/\c∈Zdt/\Q (.bl (subT t c)) H
theorem ZaD:CallR X (.builtin "isinstance") rIsi:=by
 intro pins s σ H xs us Q I r h
 obtain ⟨x,t,c,rfl,ht,hc,q⟩:=h
 obtain ⟨u,w',rfl,rx,rc⟩:=vals2 r
 cases rc
 exact ZiJ I rx (ZlF ht) (Zdu X.K t (Zft ht) c hc) λtk=>⟨.bl _,H,I.tok tk,rfl,q⟩
def rIsi2:List V->Hp->VK->Prop:=λxs H Q=>∃ x t c d p,xs=[x,.ref p]/\H p=some (.tup [.ty c,.ty d])/\tyN H x=some t/\c∈Zdt/\d∈Zdt/\Q (.bl (subT t c || subT t d)) H
theorem ZkF (K:W.Frag) {t c d:String} (ht:t∈Zhe) (hc:c∈Zdt) (hd:d∈Zdt):W.kitAny K (.type t) [.type c,.type d]=some (subT t c || subT t d):=by
 unfold W.kitAny
 rw [Zdu K t ht c hc]
 cases subT t c with
 | true=>rfl
 | false =>
  show W.kitAny K (.type t) [.type d]=some (subT t d)
  unfold W.kitAny
  rw [Zdu K t ht d hd]
  cases subT t d <;> rfl
theorem Zfu:CallR X (.builtin "isinstance") rIsi2:=by
 intro pins s σ H xs us Q I r h
 obtain ⟨x,t,c,d,p,rfl,hp,ht,hc,hd,q⟩:=h
 obtain ⟨u,w',rfl,rx,rc⟩:=vals2 r
 cases rc
 obtain ⟨_,its,rv,⟨o,ho,hcl,n,hdt⟩⟩:=(show ObjOk X.prog X.w H s.heap p (.tup [.ty c,.ty d]) from I.hok p _ hp)
 obtain ⟨u1,u2,rfl,r1,r2⟩:=vals2 rv
 cases r1
 cases r2
 have e:=ZkF X.K (Zft ht) hc hd
 have fin:∀ tk,EP X pins σ Q (.bool (subT t c || subT t d)) { s with toks:=tk }:=λtk=>⟨.bl _,H,I.tok tk,rfl,q⟩
 have htp:s.heap.get? p=some ⟨.type "tuple",o.dict,.seq [Value.type c,Value.type d].toArray n,o.slots⟩:=by
  rw [ho]
  obtain ⟨oc,od,odt,osl⟩:=o
  cases hcl; cases hdt
  rfl
 have ty:=ZlF (K:=X.K) ht
 generalize hT:Value.type t=T at ty e
 cases ty with
 | non=>cases (show u=Value.none from rx); exact W.kia_tup W.kitx_none I.kIn True.intro htp e (λz=>nomatch z) fin
 | bl y=>cases (show u=Value.bool y from rx); exact W.kia_tup W.kitx_bool I.kIn True.intro htp e (λz=>nomatch z) fin
 | int i=>obtain ⟨t,q⟩:=(show ∃ t,u=Value.int i t from rx); cases q; exact W.kia_tup W.kitx_int I.kIn True.intro htp e (λz=>nomatch z) fin
 | str y=>obtain ⟨t,q⟩:=(show ∃ t,u=Value.str y t from rx); cases q; exact W.kia_tup W.kitx_str I.kIn True.intro htp e (λz=>nomatch z) fin
 | flt y=>obtain ⟨t,q⟩:=(show ∃ t,u=Value.float y t from rx); cases q; exact W.kia_tup W.kitx_float I.kIn True.intro htp e (λz=>nomatch z) fin
 | @lst a xs ea =>
  cases (show u=Value.ref a from rx)
  obtain ⟨_,_,n,_,h1⟩:=(show ObjOk X.prog X.w H s.heap a (.lst xs) from I.hok a _ ea)
  exact W.kia_tup W.kitx_list I.kIn ⟨_,h1,rfl⟩ htp e (λz=>nomatch z) fin
 | @frz a ob xs ea =>
  cases (show u=Value.ref a from rx)
  obtain ⟨_,_,_,n,_,h1⟩:=(show ObjOk X.prog X.w H s.heap a (.frz ob (.lst xs)) from I.hok a _ ea)
  exact W.kia_tup W.kitx_list I.kIn ⟨_,h1,rfl⟩ htp e (λz=>nomatch z) fin
 | @tup a xs ea =>
  cases (show u=Value.ref a from rx)
  obtain ⟨_,_,_,p⟩:=(show ObjOk X.prog X.w H s.heap a (.tup xs) from I.hok a _ ea)
  obtain ⟨o,h1,h2,_⟩:=p
  exact W.kia_tup W.kitx_tuple I.kIn ⟨o,h1,h2⟩ htp e (λz=>nomatch z) fin
 | @dK a kvs ea =>
  cases (show u=Value.ref a from rx)
  obtain ⟨_,_,vs,_,p⟩:=(show ObjOk X.prog X.w H s.heap a (.dK kvs) from I.hok a _ ea)
  obtain ⟨o,es,ep,h1,h2,_⟩:=p
  exact W.kia_tup W.kitx_dict I.kIn ⟨o,h1,h2.1⟩ htp e (λz=>nomatch z) fin
 | @dT a kvs ea =>
  cases (show u=Value.ref a from rx)
  obtain ⟨_,_,xs,_,o,es,ep,h1,h2,_⟩:=(show ObjOk X.prog X.w H s.heap a (.dT kvs) from I.hok a _ ea)
  exact W.kia_tup W.kitx_dict I.kIn ⟨o,h1,h2.1⟩ htp e (λz=>nomatch z) fin
 | ins e'=>cases hT
theorem Zae:bootBuiltins "isinstance" = some (.builtin "isinstance"):=by first | rfl | decide +kernel | kernel_rfl
theorem Zhf:bootBuiltins "all" = some (.builtin "all"):=by first | rfl | decide +kernel | kernel_rfl
theorem ZkG:bootBuiltins "any" = some (.builtin "any"):=by first | rfl | decide +kernel | kernel_rfl
theorem ZeB:bootBuiltins "max" = some (.builtin "max"):=by first | rfl | decide +kernel | kernel_rfl
theorem ZeC:bootBuiltins "min" = some (.builtin "min"):=by first | rfl | decide +kernel | kernel_rfl
theorem Zhg:bootBuiltins "abs" = some (.builtin "abs"):=by first | rfl | decide +kernel | kernel_rfl
theorem Zgk:bootBuiltins "divmod" = some (.builtin "divmod"):=by first | rfl | decide +kernel | kernel_rfl
theorem ZbE:bootBuiltins "int" = some (.type "int"):=by first | rfl | decide +kernel | kernel_rfl
theorem Zcr:bootBuiltins "bool" = some (.type "bool"):=by first | rfl | decide +kernel | kernel_rfl
theorem ZbF:bootBuiltins "str" = some (.type "str"):=by first | rfl | decide +kernel | kernel_rfl
theorem Zau:bootBuiltins "list" = some (.type "list"):=by first | rfl | decide +kernel | kernel_rfl
theorem Zdv:bootBuiltins "tuple" = some (.type "tuple"):=by first | rfl | decide +kernel | kernel_rfl
theorem Zdw:∀ {bs:List Bool} {its:List Value},Vals (bs.map V.bl) its->its=bs.map Value.bool
 | [],_,.nil=>rfl
 | b :: bs,_,.cons r t=>by rw [Zdw t]; cases r; rfl
theorem Zef {bs:List Bool} (f:Nat->Bool) (hf:∀ i b,bs[i]?=some b->f i=b):(List.range bs.length).map f=bs:=by
 apply List.ext_getElem?
 intro i
 rw [getElem?_map]
 by_cases h:i<bs.length
 .rw [getElem?_range h,getElem?_eq_getElem h]
  simp only [Option.map_some]
  rw [hf i _ (getElem?_eq_getElem h)]
 .rw [getElem?_eq_none (by simpa using h),getElem?_eq_none (by omega)]; rfl
theorem Zfv (hc:X.calm=true):CallR X (.builtin "all") (λxs H Q=>∃ (p:Addr) (bs:List Bool),xs=[.ref p]/\SqL X.K H p (bs.map V.bl)/\Q (.bl (bs.all id)) H):=by
 intro pins s σ H xs us Q I r h
 obtain ⟨p,bs,rfl,hq,q⟩:=h
 obtain ⟨u,rfl,rx⟩:=vals1 r
 cases rx
 obtain ⟨its,rv,pl,hz⟩:=I.list hq
 have e:=Zdw rv
 subst e
 refine call_all_walk (wpAny_pyIter_list pl.isList ?_)
 refine ⟨s.heap.objs.size,_,[s.heap.objs.size],_,_,_,λi=>bs.getD i true,rfl,Walks.list (A:=X.A.in1) (show X.A.in1.handled=none from I.ok.hd hc) s.heap.objs.size p ?_ (bs.map Value.bool).toArray,⟨⟨_,Heap.get?_push_size _ rfl,rfl,rfl⟩,pl.isList.at λo e=>Heap.get?_push_of_some _ e⟩,?_,?_⟩
 .obtain ⟨o,e,_⟩:=pl.isList; exact Nat.ne_of_lt (Heap.lt_size e)
 .intro i v s' Q' E' hP hQ
  have hP':(bs.map Value.bool)[i]?=some v:=by simpa using hP
  rw [getElem?_map] at hP'
  cases z:bs[i]? with
  | none=>rw [z] at hP'; cases hP'
  | some b =>
   rw [z] at hP'
   cases hP'
   have:bs.getD i true=b:=by rw [getD_eq_getElem?_getD,z]; rfl
   have hQ':Q' (bs.getD i true) s':=hQ
   rw [this] at hQ'
   exact wpAny_truthy_bool hQ'
 .intro h' tk hk
  refine ⟨.bl (bs.all id),H,I.kept (t':=tk) (λb o e=>hk b o (by simpa using Nat.ne_of_lt (Heap.lt_size e)) (Heap.get?_push_of_some _ e)),?_,q⟩
  have z:(List.range bs.length).map (λi=>bs.getD i true)=bs:=Zef _ λi b e=>by rw [getD_eq_getElem?_getD,e]; rfl
  have z2:(List.range bs.length).all (λi=>bs.getD i true)=bs.all id:=by
   conv=>rhs; rw [← z]
   rw [List.all_map]; rfl
  show Value.bool _=Value.bool _
  have z3:(bs.map Value.bool).toArray.size=bs.length:=by simp
  rw [z3,z2]
end
structure Def (P:Program) (w:World) (K:W.Frag) (mg:Str->Option Value) (base:Heap) (x:Str) (k:Nat) (ps:List Str) (sp:Sp):Prop where
 ex:∃ (f:Addr) (fd:FuncData),FnOk P w K mg base CX0 k f fd ps sp/\mg x=some (.ref f)/\W.keepIn K (.ref f)=true/\Binds K fd ps []
section
variable {X:Cx} {x:Str} {p pos:Pos} {e:PySem.Expr} {es:List PySem.Expr} {t:TA} {k:Nat} {ps:List Str} {sp:Sp}
theorem Znk (D:Def X.prog X.w X.K X.mg X.base x k ps sp) (hr:Room k X.A) (hg:Gl X x) (ha:PA X (e :: es) t)
  (he:starEach (e :: es) X.env=(false,eval e X.env) :: starEach es X.env:=by rfl) (hpl:(backTo pos (starEach es X.env)).any (·.1)=false:=by rfl) (hd:(x == ("__debug__" : Str))=false:=by decide) :
  PE X (.Call (.Name x p) (e :: es) [] pos) (tCall sp [] E0 t):=by
 obtain ⟨f,fd,F,hm,hk,hb⟩:=D.ex
 exact Zmk F hr hg hm hk hb .nil pass0 ha (hdb:=hd) (he:=he) (hpl:=hpl)
end
theorem Zap {X:Cx} {K:W.Frag} {es:List PySem.Expr} {k:Nat} {t:TGs} {n:Nat} {pos:Pos} (hK:X.K=K) (hc:X.calm=true) (h:PGs X es t)
  (hn:(assignEach es X.env).length=n:=by rfl) (hst:(assignEach es X.env).findIdx? (·.1)=none:=by rfl):PG X (.Tuple es k pos) (gTup K n t):=by
 subst hK
 exact Znb hc h hn hst
def compB (osc:Scope) (oN:List Str) (scope:Scope) (N:List Str) (own:Nat) (js:List Nat):Bool :=
 scope.kind == .function && scope.names.all (λy=>y.2 != .cell || scope.names.lookup y.1 == some .cell) && scope.names.all (λy=>y.2 != .local || scope.names.lookup y.1 == some .local) &&
 scope.names.all (λy=>y.2 != .free || (osc.names.lookup y.1 == some .cell || osc.names.lookup y.1 == some .free)) && N.length == own+js.length &&
 (js.map λj=>oN[j]?) == (N.drop own).map some && (N.drop own).all λx=>scope.names.lookup x == some .free
theorem Zw {X:Cx} {osc:Scope} {oN:List Str} {scope:Scope} {N:List Str} {own:Nat} {js:List Nat} (h:compB osc oN scope N own js=true) (hs:X.env.scope=osc) (hN:X.N=oN):CompOk X scope N own js:=by
 unfold compB at h
 simp only [Bool.and_eq_true,all_eq_true,Bool.or_eq_true,beq_iff_eq,bne_iff_ne,ne_eq] at h
 obtain ⟨⟨⟨⟨⟨⟨h1,h2⟩,h3⟩,h4⟩,h5⟩,h6⟩,h7⟩:=h
 refine ⟨h1,λy hy hl=>?_,λy hy hl=>?_,λy hy hf=>?_,h5,λk j e=>?_,λk x e=>?_⟩
 .rcases h2 y hy with q | q
  .exact absurd hl q
  .exact q
 .rcases h3 y hy with q | q
  .exact absurd hl q
  .exact q
 .rcases h4 y hy with q | q
  .exact absurd hf q
  .show X.env.scope.names.lookup y.1=_\/X.env.scope.names.lookup y.1=_
   rw [hs]; exact q
 .rw [hN]
  have z:=congrArg (λl=>l[k]?) h6
  simp only [getElem?_map,e,Option.map_some,getElem?_drop] at z
  cases q:N[own+k]? with
  | none=>rw [q] at z; cases z
  | some y=>rw [q] at z; exact (Option.some.inj z).symm
 .refine h7 x ?_
  exact mem_of_getElem? (i:=k) (by rw [getElem?_drop]; exact e)
def SB (b:Addr) (H H':Hp):Prop:=∀ a o,a≠b->H a=some o->H' a=some o
theorem SB.trans {b:Addr} {H H1 H2:Hp} (x:SB b H H1) (y:SB b H1 H2):SB b H H2:=λa o n h=>y a o n (x a o n h)
theorem Same.sb {H H':Hp} (x:Same H H') (b:Addr):SB b H H':=λa o _ h=>x a o h
theorem Zeg (b:Addr) (H:Hp) (o:HO):SB b H (upd H b o):=λa u n h=>by rw [Ze n]; exact h
theorem Zc {H:Hp} {p:Addr} (h:H p=none) (o:HO):Same H (upd H p o):=λb u q=>by rw [Ze (Zb q h)]; exact q
def CNx (n:Nat) (l:Addr) (Pv:Nat->List V->St->Hp->Prop) (i:Nat) (ys:List V) (σ:St) (y:V) (H:Hp):Prop :=
 H l=some (.lst ys)/\ys.length<sizeLine/\∃ m',m'<n - i/\(m'=n - (i+1)/\i+1<=n/\(ys++[y]).length<=i+1/\Pv (i+1) (ys++[y]) σ (upd H l (.lst (ys++[y]))))
def CNo (n:Nat) (Pv:Nat->List V->St->Hp->Prop) (i:Nat) (ys:List V) (σ:St) (H:Hp):Prop:=∃ m',m'<n - i/\(m'=n - (i+1)/\i+1<=n/\ys.length<=i+1/\Pv (i+1) ys σ H)
theorem CNx.of {n:Nat} {l:Addr} {Pv:Nat->List V->St->Hp->Prop} {i:Nat} {ys:List V} {σ:St} {y:V} {H:Hp} (hn:n<=sizeLine) (hi:i<n) (hy:ys.length<=i) (h1:H l=some (.lst ys)) (h2:Pv (i+1) (ys++[y]) σ (upd H l (.lst (ys++[y])))):CNx n l Pv i ys σ y H :=
 ⟨h1,by omega,n - (i+1),by omega,rfl,hi,by rw [length_append,length_singleton]; omega,h2⟩
theorem CNo.of {n:Nat} {Pv:Nat->List V->St->Hp->Prop} {i:Nat} {ys:List V} {σ:St} {H:Hp} (hi:i<n) (hy:ys.length<=i) (h2:Pv (i+1) ys σ H):CNo n Pv i ys σ H :=
 ⟨n - (i+1),by omega,rfl,hi,by omega,h2⟩
theorem Zav {lo:Int} {n:Nat} {l:Addr} {g:TG} {tc:TT} {te:TE} {σ0:St} {H0:Hp} {Qf:Hp->Prop} (Pv:Nat->List V->St->Hp->Prop) (h0:Pv 0 [] σ0 H0)
  (hs:∀ i ys σ' H',i<n->ys.length<=i->Pv i ys σ' H'->g (.int (lo+i)) σ' H' λσ2 H3=>tc σ2 H3 λb H4=>if b=true then te σ2 H4 λy H5=>CNx n l Pv i ys σ2 y H5 else CNo n Pv i ys σ2 H4)
  (hd:∀ ys σ' H',ys.length<=n->Pv n ys σ' H'->Qf H') :
  ∃ W:Nat->Nat->List V->St->Hp->Prop,(∃ m,W 0 m [] σ0 H0)/\∀ i m ys σ' H',W i m ys σ' H' ->
  ((Itr lo n).stop i H'/\Qf H')\/((Itr lo n).go i H'/\∀ x H2,(Itr lo n).yld i H' x H2->g x σ' H2 λσ2 H3=>tc σ2 H3 λb H4 =>
    if b=true then te σ2 H4 λy H5=>H5 l=some (.lst ys)/\ys.length<sizeLine/\∃ m',m'<m/\W (i+1) m' (ys++[y]) σ2 (upd H5 l (.lst (ys++[y])))
    else ∃ m',m'<m/\W (i+1) m' ys σ2 H4):=by
 refine ⟨λi m ys σ' H'=>m=n - i/\i<=n/\ys.length<=i/\Pv i ys σ' H',⟨n,rfl,Nat.zero_le _,Nat.le_refl _,h0⟩,?_⟩
 rintro i m ys σ' H' ⟨rfl,hi,hy,p⟩
 by_cases hlt:i<n
 .refine .inr ⟨hlt,λx H2 q=>?_⟩
  obtain ⟨rfl,rfl⟩:=q
  exact hs i ys σ' _ hlt hy p
 .have e:i=n:=by omega
  subst e
  exact .inl ⟨Nat.le_refl _,hd ys σ' H' hy p⟩
theorem Zak {K:W.Frag} {a:Addr} {xs:List V} {l:Addr} {g:TG} {tc:TT} {te:TE} {σ0:St} {H0:Hp} {Qf:Hp->Prop} (Pv:Nat->List V->St->Hp->Prop) (h0:Pv 0 [] σ0 H0)
  (hl:∀ i ys σ' H',i<=xs.length->Pv i ys σ' H'->SqL K H' a xs)
  (hs:∀ i x ys σ' H',i<xs.length->xs[i]?=some x->ys.length<=i->Pv i ys σ' H'->g x σ' H' λσ2 H3=>tc σ2 H3 λb H4=>if b=true then te σ2 H4 λy H5=>CNx xs.length l Pv i ys σ2 y H5 else CNo xs.length Pv i ys σ2 H4)
  (hd:∀ ys σ' H',ys.length<=xs.length->Pv xs.length ys σ' H'->Qf H') :
  ∃ W:Nat->Nat->List V->St->Hp->Prop,(∃ m,W 0 m [] σ0 H0)/\∀ i m ys σ' H',W i m ys σ' H' ->
  ((Itl K a).stop i H'/\Qf H')\/((Itl K a).go i H'/\∀ x H2,(Itl K a).yld i H' x H2->g x σ' H2 λσ2 H3=>tc σ2 H3 λb H4 =>
    if b=true then te σ2 H4 λy H5=>H5 l=some (.lst ys)/\ys.length<sizeLine/\∃ m',m'<m/\W (i+1) m' (ys++[y]) σ2 (upd H5 l (.lst (ys++[y])))
    else ∃ m',m'<m/\W (i+1) m' ys σ2 H4):=by
 refine ⟨λi m ys σ' H'=>m=xs.length - i/\i<=xs.length/\ys.length<=i/\Pv i ys σ' H',⟨xs.length,rfl,Nat.zero_le _,Nat.le_refl _,h0⟩,?_⟩
 rintro i m ys σ' H' ⟨rfl,hi,hy,p⟩
 have q:=hl i ys σ' H' hi p
 by_cases hlt:i<xs.length
 .refine .inr ⟨⟨xs,xs[i],q,by simp [hlt]⟩,λx H2 z=>?_⟩
  obtain ⟨rfl,z⟩:=z
  exact hs i x ys σ' _ hlt (z xs q) hy p
 .have e:i=xs.length:=by omega
  subst e
  exact .inl ⟨⟨xs,q,Nat.le_refl _⟩,hd ys σ' H' hy p⟩
theorem ZkH {K:W.Frag} {a b:Addr} {xs zs:List V} {l:Addr} {g:TG} {tc:TT} {te:TE} {σ0:St} {H0:Hp} {Qf:Hp->Prop} (hlen:xs.length=zs.length) (Pv:Nat->List V->St->Hp->Prop) (h0:Pv 0 [] σ0 H0)
  (hl:∀ i ys σ' H',i<=xs.length->Pv i ys σ' H'->SqL K H' a xs/\SqL K H' b zs)
  (hs:∀ i x z t ys σ' H',i<xs.length->xs[i]?=some x->zs[i]?=some z->ys.length<=i->Pv i ys σ' H'->H' t=none->g (.ref t) σ' (upd H' t (.tup [x,z])) λσ2 H3=>tc σ2 H3 λb H4=>if b=true then te σ2 H4 λy H5=>CNx xs.length l Pv i ys σ2 y H5 else CNo xs.length Pv i ys σ2 H4)
  (hd:∀ ys σ' H',ys.length<=xs.length->Pv xs.length ys σ' H'->Qf H') :
  ∃ W:Nat->Nat->List V->St->Hp->Prop,(∃ m,W 0 m [] σ0 H0)/\∀ i m ys σ' H',W i m ys σ' H' ->
  ((Itz K a b).stop i H'/\Qf H')\/((Itz K a b).go i H'/\∀ x H2,(Itz K a b).yld i H' x H2->g x σ' H2 λσ2 H3=>tc σ2 H3 λb H4 =>
    if b=true then te σ2 H4 λy H5=>H5 l=some (.lst ys)/\ys.length<sizeLine/\∃ m',m'<m/\W (i+1) m' (ys++[y]) σ2 (upd H5 l (.lst (ys++[y])))
    else ∃ m',m'<m/\W (i+1) m' ys σ2 H4):=by
 refine ⟨λi m ys σ' H'=>m=xs.length - i/\i<=xs.length/\ys.length<=i/\Pv i ys σ' H',⟨xs.length,rfl,Nat.zero_le _,Nat.le_refl _,h0⟩,?_⟩
 rintro i m ys σ' H' ⟨rfl,hi,hy,p⟩
 have q:=hl i ys σ' H' hi p
 by_cases hlt:i<xs.length
 .have hz:i<zs.length:=by omega
  refine .inr ⟨⟨xs,zs,xs[i],zs[i],q.1,q.2,by simp [hlt],by simp [hz]⟩,λx H2 z=>?_⟩
  obtain ⟨t,u,v,ht,rfl,rfl,z1,z2⟩:=z
  exact hs i u v t ys σ' _ hlt (z1 xs q.1) (z2 zs q.2) hy p ht
 .have e:i=xs.length:=by omega
  subst e
  exact .inl ⟨⟨xs,zs,q.1,q.2,.inl (Nat.le_refl _)⟩,hd ys σ' H' hy p⟩
theorem ZeD {K:W.Frag} {a:Addr} {xs:List V} {g:TG} {tb:TS} {D:Ends} {σ:St} {H:Hp} (Pv:Nat->St->Hp->Prop) (h0:Pv 0 σ H) (hl:∀ i σ H,i<=xs.length->Pv i σ H->SqL K H a xs)
  (hs:∀ i x t σ H,xs[i]?=some x->Pv i σ H->H t=none->g (.ref t) σ (upd H t (.tup [.int i,x])) λσ2 H2=>tb { D with nx:=Pv (i+1),ct:=Pv (i+1),bk:=D.nx } σ2 H2) (hd:∀ σ H,Pv xs.length σ H->D.nx σ H) :
  ∃ W:Nat->Nat->St->Hp->Prop,(∃ m,W 0 m σ H)/\∀ i m σ H,W i m σ H ->
   ((Ite K a).stop i H/\D.nx σ H)\/((Ite K a).go i H/\∃ N:St->Hp->Prop,(∀ σ' H',N σ' H'->∃ m',m'<m/\W (i+1) m' σ' H')/\∀ x H',(Ite K a).yld i H x H'->g x σ H' λσ2 H2=>tb { D with nx:=N,ct:=N,bk:=D.nx } σ2 H2):=by
 refine ⟨λi m σ H=>m=xs.length - i/\i<=xs.length/\Pv i σ H,⟨xs.length,by simp,Nat.zero_le _,h0⟩,?_⟩
 rintro i m σ H ⟨rfl,hi,p⟩
 have q:=hl i σ H hi p
 by_cases hlt:i<xs.length
 .refine .inr ⟨⟨xs,xs[i],q,by simp [hlt]⟩,Pv (i+1),λσ' H' p'=>⟨xs.length - (i+1),by omega,rfl,hlt,p'⟩,λx H' y=>?_⟩
  obtain ⟨t,u,ht,rfl,rfl,y⟩:=y
  exact hs i u t σ _ (y xs q) p ht
 .have e:i=xs.length:=by omega
  subst e
  exact .inl ⟨⟨xs,q,rfl⟩,hd σ H p⟩
theorem atI0 {α:Type} {x:α} {xs:List α}:atI (x :: xs) 0=some x:=Zao (j:=0) rfl
theorem atI1 {α:Type} {x y:α} {xs:List α}:atI (x :: y :: xs) 1=some y:=Zao (j:=1) rfl
theorem atI2 {α:Type} {x y z:α} {xs:List α}:atI (x :: y :: z :: xs) 2=some z:=Zao (j:=2) rfl
theorem ZO {p A B:Prop} [Decidable p] (h1:p->A) (h2:¬ p->B):if decide p=true then A else B:=by
 by_cases h:p
 .rw [if_pos (decide_eq_true h)]; exact h1 h
 .rw [if_neg (by rw [decide_eq_false h]; exact Bool.false_ne_true)]; exact h2 h
def NS:PySem.Expr->Prop
 | .Starred _ _=>False
 | _=>True
theorem Zby {e:PySem.Expr} {es:List PySem.Expr} {env:Env} (h:NS e):starEach (e :: es) env=(false,eval e env) :: starEach es env:=by
 cases e <;> first | rfl | exact h.elim
def NSs:List PySem.Expr->Prop
 | []=>True
 | e :: es=>NS e/\NSs es
theorem Zcs {pos:Pos} {env:Env}:∀ {es:List PySem.Expr},NSs es->(backTo pos (starEach es env)).any (·.1)=false
 | [],_=>rfl
 | e :: es,h=>by
  rw [Zby h.1]
  have ih:=Zcs (pos:=pos) (env:=env) h.2
  simp only [backTo] at ih ⊢
  simpa using ih
section
variable {X:Cx} {x:Str} {p pos:Pos} {e:PySem.Expr} {es:List PySem.Expr} {te:TE} {t:TA} {k:Nat} {ps:List Str} {sp:Sp} {id T:String} {r:List V->Hp->VK->Prop}
theorem pc (ha:PE X e te) (hr:PA X es t) (hn:NS e:=by exact True.intro):PA X (e :: es) (tCons te t):=Zmj ha hr (Zby hn)
theorem Zm (D:Def X.prog X.w X.K X.mg X.base x k ps sp) (hr:Room k X.A) (hg:Gl X x) (ha:PA X (e :: es) t) (hn:NSs (e :: es):=by repeat' (first | exact True.intro | refine ⟨?_,?_⟩)) (hd:(x == ("__debug__" : Str))=false:=by decide) :
  PE X (.Call (.Name x p) (e :: es) [] pos) (tCall sp [] E0 t):=Znk D hr hg ha (Zby hn.1) (Zcs hn.2) hd
theorem Zk (hc:CallR X (.builtin id) r) (hg:Gl X x) (hm:X.mg x=none) (hv:bootBuiltins x=some (.builtin id)) (ha:PA X (e :: es) t) (hnn:NSs (e :: es):=by repeat' (first | exact True.intro | refine ⟨?_,?_⟩)) (hn:x ≠ "__name__" := by decide) (hdb:(x == ("__debug__" : Str))=false:=by decide) :
  PE X (.Call (.Name x p) (e :: es) [] pos) (tCB r t):=ZkC hc hg hm hv ha hn hdb (Zby hnn.1) (Zcs hnn.2)
theorem Zaw (hc:CallR X (.type T) r) (hg:Gl X x) (hm:X.mg x=none) (hv:bootBuiltins x=some (.type T)) (ha:PA X (e :: es) t) (hnn:NSs (e :: es):=by repeat' (first | exact True.intro | refine ⟨?_,?_⟩)) (hn:x ≠ "__name__" := by decide) (hdb:(x == ("__debug__" : Str))=false:=by decide) :
  PE X (.Call (.Name x p) (e :: es) [] pos) (tCB r t):=ZiL hc hg hm hv ha hn hdb (Zby hnn.1) (Zcs hnn.2)
end
section
variable {X:Cx} {K:W.Frag}
theorem Zo (hK:X.K=K):IxR X (rIxL K):=hK ▸ Zmq
theorem Zhh (hK:X.K=K):SlR X (rSlL K):=hK ▸ Zmr
theorem Zct (hK:X.K=K):OpR X (compareOp .In) (rIn K false):=hK ▸ ZiN
theorem ZaE (hK:X.K=K):OpR X (compareOp .NotIn) (rIn K true):=hK ▸ Zfo
theorem Zl (hK:X.K=K):CallR X (.builtin "len") (λxs H Q=>∃ p ys,xs=[.ref p]/\(SqL K H p ys\/SqT K H p ys)/\Q (.int ys.length) H):=hK ▸ Zfp
theorem Zbz (hK:X.K=K):CallR X (.type "list") (λxs H Q=>∃ p ys,xs=[.ref p]/\(SqL K H p ys\/SqT K H p ys)/\∀ l,H l=none->Q (.ref l) (upd H l (.lst ys))):=hK ▸ Zfq
theorem Zeh {ns ms:List Int} (h:ns.length=ms.length):(List.range ns.length).all (λj=>ns.getD j 0 == ms.getD j 0)=decide (ns=ms):=by
 rw [Bool.eq_iff_iff,all_eq_true,decide_eq_true_eq]
 constructor
 .intro z
  refine List.ext_getElem h λj h1 h2=>?_
  have:=z j (List.mem_range.mpr h1)
  rw [getD_eq_getElem?_getD,getD_eq_getElem?_getD,getElem?_eq_getElem h1,getElem?_eq_getElem h2] at this
  simpa using this
 .rintro rfl j _
  simp
def rEqL (K:W.Frag) (neg:Bool):R2:=λx y H Q=>∃ (a b:Addr) (ns ms:List Int),x=.ref a/\y=.ref b/\SqL K H a (ns.map V.int)/\SqL K H b (ms.map V.int)/\Q (.bl (if neg then !decide (ns=ms) else decide (ns=ms))) H
theorem Zfw {A:Around} {s:Shared} {ns:List Int} {us:List Value} (r:Vals (ns.map V.int) us) {ms:List Int} {ws:List Value} (r2:Vals (ms.map V.int) ws) (j:Nat) (h1:j<us.toArray.size) (h2:j<ws.toArray.size):SeqAt.EqAt A s us.toArray[j] ws.toArray[j] (ns.getD j 0 == ms.getD j 0):=by
 have l1:ns.length=us.length:=by have:=r.length; rwa [length_map] at this
 have l2:ms.length=ws.length:=by have:=r2.length; rwa [length_map] at this
 have k1:j<ns.length:=by rw [l1]; simpa using h1
 have k2:j<ms.length:=by rw [l2]; simpa using h2
 obtain ⟨u,hu,ru⟩:=r.get (i:=j) (x:=.int ns[j]) (by rw [getElem?_map,getElem?_eq_getElem k1]; rfl)
 obtain ⟨v,hv,rv⟩:=r2.get (i:=j) (x:=.int ms[j]) (by rw [getElem?_map,getElem?_eq_getElem k2]; rfl)
 obtain ⟨t,rfl⟩:=ru
 obtain ⟨t',rfl⟩:=rv
 have e1:us.toArray[j]=.int ns[j] t:=by
  have:us[j]?=some us[j]:=getElem?_eq_getElem (by simpa using h1)
  rw [hu] at this
  simpa using (Option.some.inj this).symm
 have e2:ws.toArray[j]=.int ms[j] t':=by
  have:ws[j]?=some ws[j]:=getElem?_eq_getElem (by simpa using h2)
  rw [hv] at this
  simpa using (Option.some.inj this).symm
 rw [e1,e2,getD_eq_getElem?_getD,getD_eq_getElem?_getD,getElem?_eq_getElem k1,getElem?_eq_getElem k2]
 exact SeqAt.EqAt.int_int _ _ _ _
theorem Znl (hu:X.A.units<cLine) (hK:X.K=K):OpR X (compareOp .Eq) (rEqL K false):=by
 subst hK
 intro pins s σ H x y v u Q I rx ry h
 obtain ⟨a,b,ns,ms,rfl,rfl,ha,hb,q⟩:=h
 cases rx
 cases ry
 obtain ⟨its,r1,p1,_⟩:=I.list ha
 obtain ⟨its2,r2,p2,_⟩:=I.list hb
 have l1:ns.length=its.length:=by have:=r1.length; rwa [length_map] at this
 have l2:ms.length=its2.length:=by have:=r2.length; rwa [length_map] at this
 by_cases hl:ns.length=ms.length
 .refine SeqAt.eq_listAt (e:=λj=>ns.getD j 0 == ms.getD j 0) p1.isList p2.isList (by simp; omega) hu (λj h1 h2=>Zfw r1 r2 j h1 h2) ⟨.bl _,H,I,rfl,?_⟩
  rw [List.size_toArray,← l1,Zeh hl]
  exact q
 .refine SeqAt.eq_list_lengthsAt p1.isList p2.isList (by simp; omega) hu ⟨.bl false,H,I,rfl,?_⟩
  have e:decide (ns=ms)=false:=decide_eq_false λz=>hl (by rw [z])
  rw [e] at q
  exact q
theorem ZlG (hu:X.A.units<cLine) (hK:X.K=K):OpR X (compareOp .NotEq) (rEqL K true):=by
 subst hK
 intro pins s σ H x y v u Q I rx ry h
 obtain ⟨a,b,ns,ms,rfl,rfl,ha,hb,q⟩:=h
 cases rx
 cases ry
 obtain ⟨its,r1,p1,_⟩:=I.list ha
 obtain ⟨its2,r2,p2,_⟩:=I.list hb
 have l1:ns.length=its.length:=by have:=r1.length; rwa [length_map] at this
 have l2:ms.length=its2.length:=by have:=r2.length; rwa [length_map] at this
 by_cases hl:ns.length=ms.length
 .refine SeqAt.RcNeAt.lists (e:=λj=>ns.getD j 0 == ms.getD j 0) p1.isList p2.isList (by simp; omega) hu (λj h1 h2=>Zfw r1 r2 j h1 h2) X.prog X.w X.xe _ ⟨.bl _,H,I,rfl,?_⟩
  rw [List.size_toArray,← l1,Zeh hl]
  exact q
 .refine SeqAt.RcNeAt.lists_lengths p1.isList p2.isList (by simp; omega) hu X.prog X.w X.xe _ ⟨.bl true,H,I,rfl,?_⟩
  have e:decide (ns=ms)=false:=decide_eq_false λz=>hl (by rw [z])
  rw [e] at q
  exact q
end
def Zei (x:Value) (c:Nat):Obj:={ cls:=.type "list",dict:=none,data:=.seq #[x,x] c,slots:=#[] }
theorem ZiU {P0:Program} {w0:World} {A0:Around} {R0:Result->Shared->Prop} {it box:Addr} {t:Shared} {old:Value} {c:Nat} (hx:t.heap.get? box=some (Zei old c))
  (h:∀ E,wpAny (model P0 w0) A0.in1 (pyNext (.ref it)) (λr t1=>(∃ c1,t1.heap.get? box=some (Zei old c1)) /\
   ((r=none/\R0 (.ok (.ret old)) { t1 with heap:=t1.heap.update box (Obj.mapSeq λ_=>#[]) }) \/
    ∃ v,r=some v/\∀ E',wpAny (model P0 w0) A0.in1 (richCompare .Gt v old) (λa t2=>∃ b,a=.bool b/\t2=t1 /\
      codeAny (model P0 w0) A0 (.builtin "max.loop" ⟨[.ref it,.none,.ref box],[]⟩) R0 (if b=true then { t1 with heap:=t1.heap.update box (Obj.mapSeq λ_=>#[v,v]) } else t1)) E' t1)) E t) :
  codeAny (model P0 w0) A0 (.builtin "max.loop" ⟨[.ref it,.none,.ref box],[]⟩) R0 t:=by
 refine codeAny_builtin F.entry_max_loop ?_
 rw [Around.under_plainId F.plain_max_loop _]
 show wpAny _ _ (seqItems? (.ref box) >>= λfound=>_) _ _ t
 refine wpAny_bind (wpAny_seqItems hx rfl (wpAny_bind (wpAny_tryCatch (wpAny_mono (h _) (λr t1 z=>?_) λ_ _ e=>e))))
 obtain ⟨⟨c1,hx1⟩,⟨rfl,fin⟩ | ⟨v,rfl,go⟩⟩:=z
 .exact wpAny_bind (wpAny_updateSeq hx1 rfl (wpAny_bind (wpAny_letGo (wpAny_pure fin))))
 .refine wpAny_bind (wpAny_pure (wpAny_bind (wpAny_tryCatch (wpAny_holding (wpAny_bind (wpAny_mono (go _) (λa t2 y=>?_) λ_ _ e=>e))))))
  obtain ⟨b,rfl,rfl,nxt⟩:=y
  refine wpAny_bind (wpAny_holding (wpAny_truthy_bool (wpAny_bind (wpAny_letGo (wpAny_pure ?_)))))
  have name:(toString "max" ++ toString ".loop" : String) = "max.loop" := by decide
  cases b with
  | true=>exact wpAny_bind (wpAny_updateSeq hx1 rfl (wpAny_bind (wpAny_letGo (by rw [name]; exact wpAny_pure ⟨plainId_quiet F.plain_max_loop _,nxt⟩))))
  | false=>exact wpAny_bind (wpAny_letGo (by rw [name]; exact wpAny_pure ⟨plainId_quiet F.plain_max_loop _,nxt⟩))
theorem ZiV {P0:Program} {w0:World} {A0:Around} {R0:Result->Shared->Prop} {it box:Addr} {t:Shared} {c:Nat} (hx:t.heap.get? box=some { cls:=.type "list",dict:=none,data:=.seq #[] c,slots:=#[] })
  (h:∀ E,wpAny (model P0 w0) A0.in1 (pyNext (.ref it)) (λr t1=>∃ v c1,r=some v/\t1.heap.get? box=some { cls:=.type "list",dict:=none,data:=.seq #[] c1,slots:=#[] } /\
   codeAny (model P0 w0) A0 (.builtin "max.loop" ⟨[.ref it,.none,.ref box],[]⟩) R0 { t1 with heap:=t1.heap.update box (Obj.mapSeq λ_=>#[v,v]) }) E t) :
  codeAny (model P0 w0) A0 (.builtin "max.loop" ⟨[.ref it,.none,.ref box],[]⟩) R0 t:=by
 refine codeAny_builtin F.entry_max_loop ?_
 rw [Around.under_plainId F.plain_max_loop _]
 show wpAny _ _ (seqItems? (.ref box) >>= λfound=>_) _ _ t
 refine wpAny_bind (wpAny_seqItems hx rfl (wpAny_bind (wpAny_tryCatch (wpAny_mono (h _) (λr t1 z=>?_) λ_ _ e=>e))))
 obtain ⟨v,c1,rfl,hx1,nxt⟩:=z
 have name:(toString "max" ++ toString ".loop" : String) = "max.loop" := by decide
 exact wpAny_bind (wpAny_pure (wpAny_bind (wpAny_updateSeq hx1 rfl (by rw [name]; exact wpAny_pure ⟨plainId_quiet F.plain_max_loop _,nxt⟩))))
def ZlH (P0:Program) (w0:World) (A0:Around) (Good:Heap->Prop) (At:Nat->Value->Prop) (bt:Nat->Nat->Bool):Prop :=
 ∀ (i j:Nat) (u v:Value) (t:Shared) (Q:Value->Shared->Prop) (E:Value->Shared->Prop),Good t.heap->At i u->At j v->Q (.bool (bt i j)) t->wpAny (model P0 w0) A0.in1 (richCompare .Gt u v) Q E t
section
variable {P0:Program} {w0:World} {A0:Around} {R0:Result->Shared->Prop} {it box:Addr} {fps wrs:List Addr} {cnt:Nat} {At:Nat->Value->Prop} {Sit:Nat->Heap->Prop} {Good:Heap->Prop} {bt:Nat->Nat->Bool}
theorem ZkI (wk:Walks P0 w0 A0.in1 it fps wrs cnt At Sit) (cmp:ZlH P0 w0 A0 Good At bt) (off:box∉wrs) (offp:box∉fps) (keep:∀ h h':Heap,Good h->(∀ b o,b∉wrs->b≠box->h.get? b=some o->h'.get? b=some o)->Good h') (left:Nat) :
  ∀ (i:Nat) (t:Shared) (best:Value) (c:Nat),cnt=i+1+left->Sit (i+1) t.heap->Good t.heap->At (argBest bt i) best->t.heap.get? box=some (Zei best c) ->
  (∀ v h' tk,At (argBest bt (cnt - 1)) v->(∀ b o,b∉wrs->b≠box->t.heap.get? b=some o->h'.get? b=some o)->R0 (.ok (.ret v)) { t with heap:=h',toks:=tk })->codeAny (model P0 w0) A0 (.builtin "max.loop" ⟨[.ref it,.none,.ref box],[]⟩) R0 t:=by
 induction left with
 | zero =>
  intro i t best c hc hs hg hb hx hR
  exact ZiU hx λE=>wk.done t _ _ (by rw [hc]; exact hs) λh' tk kp=>⟨⟨c,kp box _ off hx⟩,.inl ⟨rfl,hR best _ tk (by rw [show cnt - 1=i by omega]; exact hb) λb o n1 n2 e=>(Heap.get?_update_other _ _ (Ne.symm n2)).trans (kp b o n1 e)⟩⟩
 | succ left ih =>
  intro i t best c hc hs hg hb hx hR
  refine ZiU hx λE=>wk.item (i+1) t _ _ (by omega) hs λv h' tk hv hs' kp=>⟨⟨c,kp box _ off hx⟩,.inr ⟨v,rfl,λE'=>?_⟩⟩
  have good:=keep _ h' hg λb o n1 _ e=>kp b o n1 e
  refine cmp (i+1) (argBest bt i) v best _ _ _ good hv hb ⟨_,rfl,rfl,?_⟩
  by_cases hbt:bt (i+1) (argBest bt i)=true
  .rw [if_pos hbt]
   refine ih (i+1) _ v _ (by omega) (wk.frame _ _ _ hs' λb hbf o e=>(Heap.get?_update_other _ _ (λz=>offp (by rw [z]; exact hbf))).trans e) (keep _ _ good λb o _ n2 e=>(Heap.get?_update_other _ _ (Ne.symm n2)).trans e) (by rw [argBest,if_pos hbt]; exact hv) (Heap.get?_update_self _ (kp box _ off hx) rfl) λu h'' tk' hu kp'=>?_
   exact hR u h'' tk' hu λb o n1 n2 e=>kp' b o n1 n2 ((Heap.get?_update_other _ _ (Ne.symm n2)).trans (kp b o n1 e))
  .rw [if_neg hbt]
   exact ih (i+1) _ best c (by omega) hs' good (by rw [argBest,if_neg hbt]; exact hb) (kp box _ off hx) λu h'' tk' hu kp'=>hR u h'' tk' hu λb o n1 n2 e=>kp' b o n1 n2 (kp b o n1 e)
end
theorem Zgl {P0:Program} {w0:World} {A0:Around} {E0:Value->Shared->Prop} {t:Shared} {x:Value} {Q:Value->Shared->Prop}
  (h:wpAny (model P0 w0) A0.in1 (pyIter x) (λiv t2=>∃ it fps wrs cnt At Sit bt,∃ Good:Heap->Prop,iv=.ref it/\Walks P0 w0 A0.in1 it fps wrs cnt At Sit/\Sit 0 t2.heap/\(∀ b∈fps,b<t2.heap.objs.size)/\0<cnt/\Good t2.heap /\
   (∀ h h':Heap,Good h->(∀ b o,b∉wrs->b≠t2.heap.objs.size->h.get? b=some o->h'.get? b=some o)->Good h')/\ZlH P0 w0 A0 Good At bt /\
   ∀ v h' tk,At (argBest bt (cnt - 1)) v->(∀ b o,b∉wrs->t2.heap.get? b=some o->h'.get? b=some o)->Q v { t2 with heap:=h',toks:=tk }) E0 t):wpAny (model P0 w0) A0 (call (.builtin "max") [x]) Q E0 t:=by
 have name:(toString "max" ++ toString ".loop" : String) = "max.loop" := by decide
 refine call_function_tree F.kind_max F.plain_max F.entry_max (F.args_max1 _) ?_
 show wpAny _ _ (Builtin.Builtins.bindParams "max" ["key", "default"] 0 ⟨[],[]⟩ >>= λbound=>_) _ _ t
 refine wpAny_bind (wpAny_of_eq (show Builtin.Builtins.bindParams "max" ["key", "default"] 0 ⟨[],[]⟩=pure [none,none] from rfl) (wpAny_bind (wpAny_pure (wpAny_bind (wpAny_mono h (λiv t2 z=>?_) λ_ _ e=>e)))))
 obtain ⟨it,fps,wrs,cnt,At,Sit,bt,Good,rfl,wk,hs,hf,pos,hg,keep,cmp,hQ⟩:=z
 have offp:t2.heap.objs.size∉fps:=λm=>Nat.lt_irrefl _ (hf _ m)
 have off:t2.heap.objs.size∉wrs:=λm=>offp (wk.sub _ m)
 refine wpAny_bind (wpAny_newObj_type ?_)
 rw [name]
 refine wpAny_pure ⟨plainId_quiet F.plain_max_loop _,ZiV (Heap.get?_push_size _ rfl) λE=>wk.item 0 _ _ _ pos (wk.frame _ _ _ hs λb _ o e=>Heap.get?_push_of_some _ e) λv h' tk hv hs' kp=>⟨v,_,rfl,kp _ _ off (Heap.get?_push_size _ rfl),?_⟩⟩
 have k1:∀ b o,b∉wrs->t2.heap.get? b=some o->h'.get? b=some o:=λb o n1 e=>kp b o n1 (Heap.get?_push_of_some _ e)
 have k2:∀ (f:Obj->Obj) b o,b∉wrs->t2.heap.get? b=some o->(h'.update t2.heap.objs.size f).get? b=some o:=λf b o n1 e=>(Heap.get?_update_other _ _ (Nat.ne_of_gt (Heap.lt_size e))).trans (k1 b o n1 e)
 refine ZkI wk cmp off offp keep (cnt - 1) 0 _ v _ (by omega) (wk.frame _ _ _ hs' λb hbf o e=>(Heap.get?_update_other _ _ (λz=>offp (by rw [z]; exact hbf))).trans e) (keep _ _ hg λb o n1 _ e=>k2 _ b o n1 e) hv (Heap.get?_update_self _ (kp _ _ off (Heap.get?_push_size _ rfl)) rfl) λu h'' tk' hu kp'=>?_
 exact hQ u h'' tk' hu λb o n1 e=>kp' b o n1 (Nat.ne_of_lt (Heap.lt_size e)) (k2 _ b o n1 e)
theorem ZiW {P0:Program} {w0:World} {A0:Around} {R0:Result->Shared->Prop} {it box:Addr} {t:Shared} {old:Value} {c:Nat} (hx:t.heap.get? box=some (Zei old c))
  (h:∀ E,wpAny (model P0 w0) A0.in1 (pyNext (.ref it)) (λr t1=>(∃ c1,t1.heap.get? box=some (Zei old c1)) /\
   ((r=none/\R0 (.ok (.ret old)) { t1 with heap:=t1.heap.update box (Obj.mapSeq λ_=>#[]) }) \/
    ∃ v,r=some v/\∀ E',wpAny (model P0 w0) A0.in1 (richCompare .Lt v old) (λa t2=>∃ b,a=.bool b/\t2=t1 /\
      codeAny (model P0 w0) A0 (.builtin "min.loop" ⟨[.ref it,.none,.ref box],[]⟩) R0 (if b=true then { t1 with heap:=t1.heap.update box (Obj.mapSeq λ_=>#[v,v]) } else t1)) E' t1)) E t) :
  codeAny (model P0 w0) A0 (.builtin "min.loop" ⟨[.ref it,.none,.ref box],[]⟩) R0 t:=by
 refine codeAny_builtin F.entry_min_loop ?_
 rw [Around.under_plainId F.plain_min_loop _]
 show wpAny _ _ (seqItems? (.ref box) >>= λfound=>_) _ _ t
 refine wpAny_bind (wpAny_seqItems hx rfl (wpAny_bind (wpAny_tryCatch (wpAny_mono (h _) (λr t1 z=>?_) λ_ _ e=>e))))
 obtain ⟨⟨c1,hx1⟩,⟨rfl,fin⟩ | ⟨v,rfl,go⟩⟩:=z
 .exact wpAny_bind (wpAny_updateSeq hx1 rfl (wpAny_bind (wpAny_letGo (wpAny_pure fin))))
 .refine wpAny_bind (wpAny_pure (wpAny_bind (wpAny_tryCatch (wpAny_holding (wpAny_bind (wpAny_mono (go _) (λa t2 y=>?_) λ_ _ e=>e))))))
  obtain ⟨b,rfl,rfl,nxt⟩:=y
  refine wpAny_bind (wpAny_holding (wpAny_truthy_bool (wpAny_bind (wpAny_letGo (wpAny_pure ?_)))))
  have name:(toString "min" ++ toString ".loop" : String) = "min.loop" := by decide
  cases b with
  | true=>exact wpAny_bind (wpAny_updateSeq hx1 rfl (wpAny_bind (wpAny_letGo (by rw [name]; exact wpAny_pure ⟨plainId_quiet F.plain_min_loop _,nxt⟩))))
  | false=>exact wpAny_bind (wpAny_letGo (by rw [name]; exact wpAny_pure ⟨plainId_quiet F.plain_min_loop _,nxt⟩))
theorem ZiX {P0:Program} {w0:World} {A0:Around} {R0:Result->Shared->Prop} {it box:Addr} {t:Shared} {c:Nat} (hx:t.heap.get? box=some { cls:=.type "list",dict:=none,data:=.seq #[] c,slots:=#[] })
  (h:∀ E,wpAny (model P0 w0) A0.in1 (pyNext (.ref it)) (λr t1=>∃ v c1,r=some v/\t1.heap.get? box=some { cls:=.type "list",dict:=none,data:=.seq #[] c1,slots:=#[] } /\
   codeAny (model P0 w0) A0 (.builtin "min.loop" ⟨[.ref it,.none,.ref box],[]⟩) R0 { t1 with heap:=t1.heap.update box (Obj.mapSeq λ_=>#[v,v]) }) E t) :
  codeAny (model P0 w0) A0 (.builtin "min.loop" ⟨[.ref it,.none,.ref box],[]⟩) R0 t:=by
 refine codeAny_builtin F.entry_min_loop ?_
 rw [Around.under_plainId F.plain_min_loop _]
 show wpAny _ _ (seqItems? (.ref box) >>= λfound=>_) _ _ t
 refine wpAny_bind (wpAny_seqItems hx rfl (wpAny_bind (wpAny_tryCatch (wpAny_mono (h _) (λr t1 z=>?_) λ_ _ e=>e))))
 obtain ⟨v,c1,rfl,hx1,nxt⟩:=z
 have name:(toString "min" ++ toString ".loop" : String) = "min.loop" := by decide
 exact wpAny_bind (wpAny_pure (wpAny_bind (wpAny_updateSeq hx1 rfl (by rw [name]; exact wpAny_pure ⟨plainId_quiet F.plain_min_loop _,nxt⟩))))
def ZlI (P0:Program) (w0:World) (A0:Around) (Good:Heap->Prop) (At:Nat->Value->Prop) (bt:Nat->Nat->Bool):Prop :=
 ∀ (i j:Nat) (u v:Value) (t:Shared) (Q:Value->Shared->Prop) (E:Value->Shared->Prop),Good t.heap->At i u->At j v->Q (.bool (bt i j)) t->wpAny (model P0 w0) A0.in1 (richCompare .Lt u v) Q E t
section
variable {P0:Program} {w0:World} {A0:Around} {R0:Result->Shared->Prop} {it box:Addr} {fps wrs:List Addr} {cnt:Nat} {At:Nat->Value->Prop} {Sit:Nat->Heap->Prop} {Good:Heap->Prop} {bt:Nat->Nat->Bool}
theorem ZkJ (wk:Walks P0 w0 A0.in1 it fps wrs cnt At Sit) (cmp:ZlI P0 w0 A0 Good At bt) (off:box∉wrs) (offp:box∉fps) (keep:∀ h h':Heap,Good h->(∀ b o,b∉wrs->b≠box->h.get? b=some o->h'.get? b=some o)->Good h') (left:Nat) :
  ∀ (i:Nat) (t:Shared) (best:Value) (c:Nat),cnt=i+1+left->Sit (i+1) t.heap->Good t.heap->At (argBest bt i) best->t.heap.get? box=some (Zei best c) ->
  (∀ v h' tk,At (argBest bt (cnt - 1)) v->(∀ b o,b∉wrs->b≠box->t.heap.get? b=some o->h'.get? b=some o)->R0 (.ok (.ret v)) { t with heap:=h',toks:=tk })->codeAny (model P0 w0) A0 (.builtin "min.loop" ⟨[.ref it,.none,.ref box],[]⟩) R0 t:=by
 induction left with
 | zero =>
  intro i t best c hc hs hg hb hx hR
  exact ZiW hx λE=>wk.done t _ _ (by rw [hc]; exact hs) λh' tk kp=>⟨⟨c,kp box _ off hx⟩,.inl ⟨rfl,hR best _ tk (by rw [show cnt - 1=i by omega]; exact hb) λb o n1 n2 e=>(Heap.get?_update_other _ _ (Ne.symm n2)).trans (kp b o n1 e)⟩⟩
 | succ left ih =>
  intro i t best c hc hs hg hb hx hR
  refine ZiW hx λE=>wk.item (i+1) t _ _ (by omega) hs λv h' tk hv hs' kp=>⟨⟨c,kp box _ off hx⟩,.inr ⟨v,rfl,λE'=>?_⟩⟩
  have good:=keep _ h' hg λb o n1 _ e=>kp b o n1 e
  refine cmp (i+1) (argBest bt i) v best _ _ _ good hv hb ⟨_,rfl,rfl,?_⟩
  by_cases hbt:bt (i+1) (argBest bt i)=true
  .rw [if_pos hbt]
   refine ih (i+1) _ v _ (by omega) (wk.frame _ _ _ hs' λb hbf o e=>(Heap.get?_update_other _ _ (λz=>offp (by rw [z]; exact hbf))).trans e) (keep _ _ good λb o _ n2 e=>(Heap.get?_update_other _ _ (Ne.symm n2)).trans e) (by rw [argBest,if_pos hbt]; exact hv) (Heap.get?_update_self _ (kp box _ off hx) rfl) λu h'' tk' hu kp'=>?_
   exact hR u h'' tk' hu λb o n1 n2 e=>kp' b o n1 n2 ((Heap.get?_update_other _ _ (Ne.symm n2)).trans (kp b o n1 e))
  .rw [if_neg hbt]
   exact ih (i+1) _ best c (by omega) hs' good (by rw [argBest,if_neg hbt]; exact hb) (kp box _ off hx) λu h'' tk' hu kp'=>hR u h'' tk' hu λb o n1 n2 e=>kp' b o n1 n2 (kp b o n1 e)
end
theorem Zdx {P0:Program} {w0:World} {A0:Around} {E0:Value->Shared->Prop} {t:Shared} {x:Value} {Q:Value->Shared->Prop}
  (h:wpAny (model P0 w0) A0.in1 (pyIter x) (λiv t2=>∃ it fps wrs cnt At Sit bt,∃ Good:Heap->Prop,iv=.ref it/\Walks P0 w0 A0.in1 it fps wrs cnt At Sit/\Sit 0 t2.heap/\(∀ b∈fps,b<t2.heap.objs.size)/\0<cnt/\Good t2.heap /\
   (∀ h h':Heap,Good h->(∀ b o,b∉wrs->b≠t2.heap.objs.size->h.get? b=some o->h'.get? b=some o)->Good h')/\ZlI P0 w0 A0 Good At bt /\
   ∀ v h' tk,At (argBest bt (cnt - 1)) v->(∀ b o,b∉wrs->t2.heap.get? b=some o->h'.get? b=some o)->Q v { t2 with heap:=h',toks:=tk }) E0 t):wpAny (model P0 w0) A0 (call (.builtin "min") [x]) Q E0 t:=by
 have name:(toString "min" ++ toString ".loop" : String) = "min.loop" := by decide
 refine call_function_tree F.kind_min F.plain_min F.entry_min (F.args_min1 _) ?_
 show wpAny _ _ (Builtin.Builtins.bindParams "min" ["key", "default"] 0 ⟨[],[]⟩ >>= λbound=>_) _ _ t
 refine wpAny_bind (wpAny_of_eq (show Builtin.Builtins.bindParams "min" ["key", "default"] 0 ⟨[],[]⟩=pure [none,none] from rfl) (wpAny_bind (wpAny_pure (wpAny_bind (wpAny_mono h (λiv t2 z=>?_) λ_ _ e=>e)))))
 obtain ⟨it,fps,wrs,cnt,At,Sit,bt,Good,rfl,wk,hs,hf,pos,hg,keep,cmp,hQ⟩:=z
 have offp:t2.heap.objs.size∉fps:=λm=>Nat.lt_irrefl _ (hf _ m)
 have off:t2.heap.objs.size∉wrs:=λm=>offp (wk.sub _ m)
 refine wpAny_bind (wpAny_newObj_type ?_)
 rw [name]
 refine wpAny_pure ⟨plainId_quiet F.plain_min_loop _,ZiX (Heap.get?_push_size _ rfl) λE=>wk.item 0 _ _ _ pos (wk.frame _ _ _ hs λb _ o e=>Heap.get?_push_of_some _ e) λv h' tk hv hs' kp=>⟨v,_,rfl,kp _ _ off (Heap.get?_push_size _ rfl),?_⟩⟩
 have k1:∀ b o,b∉wrs->t2.heap.get? b=some o->h'.get? b=some o:=λb o n1 e=>kp b o n1 (Heap.get?_push_of_some _ e)
 have k2:∀ (f:Obj->Obj) b o,b∉wrs->t2.heap.get? b=some o->(h'.update t2.heap.objs.size f).get? b=some o:=λf b o n1 e=>(Heap.get?_update_other _ _ (Nat.ne_of_gt (Heap.lt_size e))).trans (k1 b o n1 e)
 refine ZkJ wk cmp off offp keep (cnt - 1) 0 _ v _ (by omega) (wk.frame _ _ _ hs' λb hbf o e=>(Heap.get?_update_other _ _ (λz=>offp (by rw [z]; exact hbf))).trans e) (keep _ _ hg λb o n1 _ e=>k2 _ b o n1 e) hv (Heap.get?_update_self _ (kp _ _ off (Heap.get?_push_size _ rfl)) rfl) λu h'' tk' hu kp'=>?_
 exact hQ u h'' tk' hu λb o n1 e=>kp' b o n1 (Nat.ne_of_lt (Heap.lt_size e)) (k2 _ b o n1 e)
end L2
namespace HT
open PySem PyProof.Rows
theorem ZkK (A:Around) (s:Shared) (a:Int) (t:Tok) (c:Int) (u:Tok) (prog:Program) (w:World) (E:Value->Shared->Prop) (Q:Value->Shared->Prop) (h:Q (.bool (decide (c<a))) s) :
  wpAny (model prog w) A (richCompare .Gt (.int a t) (.int c u)) Q E s :=
 (PyProof.Rows.gt_int h:wpAny (model prog w) A (compareOp .Gt (.int a t) (.int c u)) Q E s)
section
open PySem.SeqAt
open PySem.AutoSeq1 (wpAny_loadPart')
open PySem.MeetsSeq PySem.MeetsSeq2 PySem.MeetsSeq3
theorem ZeE (l b:Addr) (items items2:Array Value) (n n2:Nat) (dd dd2:Option Addr) (sl sl2:Array (Option Value)) (ns ms:List Int) (hi:IntsAre items.toList ns) (hj:IntsAre items2.toList ms) :
  Meets (Builtin.«tuple.__gt__» ⟨[.ref l,.ref b],[]⟩)
   (λ_ R s=>s.heap.get? l=some { cls:=.type "tuple",dict:=dd,data:=.seq items n,slots:=sl }/\s.heap.get? b=some { cls:=.type "tuple",dict:=dd2,data:=.seq items2 n2,slots:=sl2 } /\
    R (.ok (.ret (.bool (lexLt ms ns)))) s) :=
 .of_wp λprog w A R s h=>by
  obtain ⟨hp,g,d,tk,os⟩:=s; obtain ⟨hl,hb,h⟩:=h
  have f2:=AutoSeq1.sub_tuple_tuple
  have z1:items.size=ns.length:=by rw [← hi.length]; simp
  have z2:items2.size=ms.length:=by rw [← hj.length]; simp
  wp_walk using wpAny_loadPart' hl,wpAny_loadPart' hb,wpAny_forIn_list _ (λrest b s'=>b.1=none/\s'=⟨hp,g,d,tk,os⟩/\∃ (vs ws:List Value) (ns' ms':List Int),rest=vs.zip ws /\
   IntsAre vs ns'/\IntsAre ws ms'/\ns'.length+items2.size=ms'.length+items.size/\R (.ok (.ret (.bool (lexLt ms' ns')))) ⟨hp,g,d,tk,os⟩) _
  case turn =>
   rintro ⟨y,x⟩ rest b s' ⟨hb',rfl,vs,ws,ns',ms',hz,hvi,hwi,hlen,hR⟩
   cases hvi with
   | nil=>rw [List.zip_nil_left] at hz; cases hz
   | cons a t hvi' =>
    cases hwi with
    | nil=>rw [List.zip_nil_right] at hz; cases hz
    | cons c u hwi' =>
     rw [List.zip_cons_cons] at hz
     injection hz with hyx hrest
     injection hyx with hy hx
     subst hy hx
     rw [lexLt_cons] at hR
     simp only [length_cons] at hlen
     obtain ⟨e,he,hiff⟩:=ZgX A.in1 ⟨hp,g,d,tk,os⟩ a t c u
     refine wpAny_bind (he prog w _ _ ?_)
     cases e with
     | true =>
      rw [if_pos (hiff.mp rfl).symm] at hR
      wp_walk
      exact ⟨rfl,rfl,_,_,_,_,hrest,hvi',hwi',by omega,hR⟩
     | false =>
      rw [if_neg (λq=>absurd (hiff.mpr q.symm) Bool.false_ne_true)] at hR
      have hri:=ZkK A.in1 ⟨hp,g,d,tk,os⟩ a t c u prog w
      wp_walk using hri
      exact ⟨_,rfl,by simpa using hR⟩
  case fin =>
   rintro ⟨b1,b2⟩ s' ⟨hb',rfl,vs,ws,ns',ms',hz,hvi,hwi,hlen,hR⟩
   simp only at hb'
   subst hb'
   have hv:lexLt ms' ns'=decide (items2.size<items.size):=by
    cases hvi with
    | nil =>
     cases hwi with
     | nil =>
      simp only [length_nil] at hlen
      rw [lexLt_nil_nil]
      exact (decide_eq_false (by omega)).symm
     | cons c u hw =>
      simp only [length_nil,length_cons] at hlen
      rw [lexLt_cons_nil]
      exact (decide_eq_false (by omega)).symm
    | cons a t hv =>
     cases hwi with
     | nil =>
      simp only [length_nil,length_cons] at hlen
      rw [ZbS]
      exact (decide_eq_true (by omega)).symm
     | cons c u hw =>
      rw [List.zip_cons_cons] at hz
      cases hz
   rw [hv] at hR
   wp_walk
   exact ⟨_,rfl,by simpa [Builtin.Tuple.tupleCompareSizes] using hR⟩
  case h =>
   exact ⟨rfl,rfl,items.toList,items2.toList,ns,ms,rfl,hi,hj,by omega,h⟩
end
section
variable {prog:Program} {w:World} {A:Around} {E:Value->Shared->Prop} {s:Shared}
theorem gt_tupInts {l b:Addr} {items items2:Array Value} {ns ms:List Int} {Q:Value->Shared->Prop} (hl:IsTup s.heap l items) (hb:IsTup s.heap b items2) (hi:IntsAre items.toList ns) (hj:IntsAre items2.toList ms)
  (hu:A.units<cLine) (h:Q (.bool (lexLt ms ns)) s):wpAny (model prog w) A (compareOp .Gt (.ref l) (.ref b)) Q E s:=by
 obtain ⟨⟨cls,dd,data,sl⟩,ho,hc,n,hd⟩:=id hl
 obtain ⟨⟨cls2,dd2,data2,sl2⟩,ho2,hc2,n2,hd2⟩:=id hb
 simp only at hc hd hc2 hd2
 subst hc hd hc2 hd2
 exact richCompare_meets_room (op:=.Gt) ⟨_,ho,rfl⟩ ⟨_,ho2,rfl⟩ PySem.F.slot_tuple_gt PySem.F.entry_tuple_gt (PySem.F.args_tuple_gt_2 _ _) (ZeE l b items items2 n n2 dd dd2 sl sl2 ns ms hi hj)
  ⟨ho,ho2,show Value.bool (lexLt ms ns)≠Value.notImplemented/\Q (.bool (lexLt ms ns)) s from ⟨(λx=>nomatch x),h⟩⟩ hu
end
end HT
namespace L2
open PySem PySem.Spec PyProof.Rows
def rBest (K:W.Frag) (bt:List Int->List Int->Bool):List V->Hp->VK->Prop:=λxs H Q=>∃ (p:Addr) (as:List Addr) (vs:List (List Int)),xs=[.ref p]/\SqL K H p (as.map V.ref)/\as≠[]/\as.length=vs.length /\
 (∀ (i:Nat) (a:Addr) (ns:List Int),as[i]?=some a->vs[i]?=some ns->SqT K H a (ns.map V.int)) /\
 ∀ (m:Nat) (a:Addr),m=argBest (λi j=>bt (vs.getD i []) (vs.getD j [])) (as.length - 1)->as[m]?=some a->Q (.ref a) H
theorem Zhi {h h':Heap} {a:Addr} {us:Array Value} (x:IsTup h a us) (k:∀ o,h.get? a=some o->h'.get? a=some o):IsTup h' a us:=by
 obtain ⟨o,ho,r⟩:=x
 exact ⟨o,k o ho,r⟩
theorem Zhj {h:Heap} {a:Addr} {us:Array Value} (x:IsTup h a us):a<h.objs.size:=by
 obtain ⟨o,ho,_⟩:=x
 exact Heap.lt_size ho
def GoodT (as:List Addr) (vs:List (List Int)) (h:Heap):Prop:=∀ (i:Nat) (a:Addr) (ns:List Int),as[i]?=some a->vs[i]?=some ns->∃ us:List Value,IsTup h a us.toArray/\IntsAre us.toArray.toList ns
theorem Zej {as:List Addr} {us:List Value} (r:Vals (as.map V.ref) us) {i:Nat} {v:Value} (h:us.toArray[i]?=some v):∃ a,as[i]?=some a/\v=.ref a:=by
 have h':us[i]?=some v:=by simpa using h
 have hi:i<as.length:=by
  have:=r.length
  rw [length_map] at this
  rw [this]; exact (List.getElem?_eq_some_iff.mp h').1
 obtain ⟨u,hu,ru⟩:=r.get (i:=i) (x:=.ref as[i]) (by rw [getElem?_map,getElem?_eq_getElem hi]; rfl)
 rw [h'] at hu; cases hu
 cases ru
 exact ⟨as[i],getElem?_eq_getElem hi,rfl⟩
theorem ZeF {vs:List (List Int)} {i:Nat} {ns:List Int} (h:vs[i]?=some ns):vs.getD i []=ns:=by rw [getD_eq_getElem?_getD,h]; rfl
section
variable {X:Cx} {K:W.Frag}
theorem ZiY (hc:X.calm=true) (hu:X.A.units+1<cLine) (hK:X.K=K):CallR X (.builtin "max") (rBest K λa b=>HT.lexLt b a):=by
 subst hK
 intro pins s σ H xs us Q I r h
 obtain ⟨p,as,vs,rfl,hq,hne,hlen,ht,q⟩:=h
 obtain ⟨u,rfl,rx⟩:=vals1 r
 cases rx
 obtain ⟨its,rv,pl,hz⟩:=I.list hq
 have hl:as.length=its.length:=by have:=rv.length; rwa [length_map] at this
 have hu1:X.A.in1.units<cLine:=hu
 have good0:GoodT as vs s.heap:=λi a ns h1 h2=>by
  obtain ⟨us,r1,p1,_⟩:=I.tuple (ht i a ns h1 h2)
  exact ⟨us,p1,ZaW r1⟩
 have small:∀ (i:Nat) (a:Addr) (ns:List Int),as[i]?=some a->vs[i]?=some ns->a<s.heap.objs.size:=λi a ns h1 h2=>by
  obtain ⟨us,p1,_⟩:=good0 i a ns h1 h2
  exact Zhj p1
 have pos:0<its.length:=by rw [← hl]; exact List.length_pos_iff.mpr hne
 refine Zgl (wpAny_pyIter_list pl.isList ?_)
 refine ⟨s.heap.objs.size,_,[s.heap.objs.size],_,_,_,λi j=>HT.lexLt (vs.getD j []) (vs.getD i []),GoodT as vs,rfl,Walks.list (A:=X.A.in1) (show X.A.in1.handled=none from I.ok.hd hc) s.heap.objs.size p ?_ its.toArray,⟨⟨_,Heap.get?_push_size _ rfl,rfl,rfl⟩,pl.isList.at λo e=>Heap.get?_push_of_some _ e⟩,?_,by simpa using pos,?_,?_,?_,?_⟩
 .obtain ⟨o,e,_⟩:=pl.isList; exact Nat.ne_of_lt (Heap.lt_size e)
 .intro b hb'
  have lt:p<s.heap.objs.size:=by obtain ⟨o,e,_⟩:=pl.isList; exact Heap.lt_size e
  show b<(s.heap.push _).objs.size
  rw [Heap.size_push]
  simp only [mem_cons,not_mem_nil,or_false] at hb'
  rcases hb' with rfl | rfl
  .exact Nat.lt_succ_self _
  .exact Nat.lt_succ_of_lt lt
 .intro i a ns h1 h2
  obtain ⟨us,p1,i1⟩:=good0 i a ns h1 h2
  exact ⟨us,Zhi p1 λo e=>Heap.get?_push_of_some _ e,i1⟩
 .intro h h' g kp i a ns h1 h2
  obtain ⟨us,p1,i1⟩:=g i a ns h1 h2
  have lt:=small i a ns h1 h2
  refine ⟨us,Zhi p1 λo e=>kp a o (by simpa using Nat.ne_of_lt lt) (λz=>?_) e,i1⟩
  have z':a=s.heap.objs.size+1:=by rw [z]; exact Heap.size_push ..
  rw [z'] at lt
  exact absurd lt (Nat.not_lt.mpr (Nat.le_succ _))
 .intro i j u v t Q' E' g ai aj q'
  obtain ⟨a,ha,rfl⟩:=Zej rv ai
  obtain ⟨b,hb,rfl⟩:=Zej rv aj
  have vi:i<vs.length:=by rw [← hlen]; exact (List.getElem?_eq_some_iff.mp ha).1
  have vj:j<vs.length:=by rw [← hlen]; exact (List.getElem?_eq_some_iff.mp hb).1
  obtain ⟨us,p1,i1⟩:=g i a _ ha (getElem?_eq_getElem vi)
  obtain ⟨ws,p2,i2⟩:=g j b _ hb (getElem?_eq_getElem vj)
  refine (HT.gt_tupInts p1 p2 i1 i2 hu1 ?_:wpAny (model X.prog X.w) X.A.in1 (compareOp .Gt (.ref a) (.ref b)) Q' E' t)
  have q2:=q'
  dsimp only at q2
  rw [ZeF (getElem?_eq_getElem vi),ZeF (getElem?_eq_getElem vj)] at q2
  exact q2
 .intro v h' tk hv hk
  obtain ⟨a,ha,rfl⟩:=Zej rv hv
  exact ⟨.ref a,H,I.kept (t':=tk) (λb o e=>hk b o (by simpa using Nat.ne_of_lt (Heap.lt_size e)) (Heap.get?_push_of_some _ e)),rfl,q _ a (by rw [List.size_toArray,← hl]) ha⟩
theorem ZiZ (hc:X.calm=true) (hu:X.A.units+1<cLine) (hK:X.K=K):CallR X (.builtin "min") (rBest K HT.lexLt):=by
 subst hK
 intro pins s σ H xs us Q I r h
 obtain ⟨p,as,vs,rfl,hq,hne,hlen,ht,q⟩:=h
 obtain ⟨u,rfl,rx⟩:=vals1 r
 cases rx
 obtain ⟨its,rv,pl,hz⟩:=I.list hq
 have hl:as.length=its.length:=by have:=rv.length; rwa [length_map] at this
 have hu1:X.A.in1.units<cLine:=hu
 have good0:GoodT as vs s.heap:=λi a ns h1 h2=>by
  obtain ⟨us,r1,p1,_⟩:=I.tuple (ht i a ns h1 h2)
  exact ⟨us,p1,ZaW r1⟩
 have small:∀ (i:Nat) (a:Addr) (ns:List Int),as[i]?=some a->vs[i]?=some ns->a<s.heap.objs.size:=λi a ns h1 h2=>by
  obtain ⟨us,p1,_⟩:=good0 i a ns h1 h2
  exact Zhj p1
 have pos:0<its.length:=by rw [← hl]; exact List.length_pos_iff.mpr hne
 refine Zdx (wpAny_pyIter_list pl.isList ?_)
 refine ⟨s.heap.objs.size,_,[s.heap.objs.size],_,_,_,λi j=>HT.lexLt (vs.getD i []) (vs.getD j []),GoodT as vs,rfl,Walks.list (A:=X.A.in1) (show X.A.in1.handled=none from I.ok.hd hc) s.heap.objs.size p ?_ its.toArray,⟨⟨_,Heap.get?_push_size _ rfl,rfl,rfl⟩,pl.isList.at λo e=>Heap.get?_push_of_some _ e⟩,?_,by simpa using pos,?_,?_,?_,?_⟩
 .obtain ⟨o,e,_⟩:=pl.isList; exact Nat.ne_of_lt (Heap.lt_size e)
 .intro b hb'
  have lt:p<s.heap.objs.size:=by obtain ⟨o,e,_⟩:=pl.isList; exact Heap.lt_size e
  show b<(s.heap.push _).objs.size
  rw [Heap.size_push]
  simp only [mem_cons,not_mem_nil,or_false] at hb'
  rcases hb' with rfl | rfl
  .exact Nat.lt_succ_self _
  .exact Nat.lt_succ_of_lt lt
 .intro i a ns h1 h2
  obtain ⟨us,p1,i1⟩:=good0 i a ns h1 h2
  exact ⟨us,Zhi p1 λo e=>Heap.get?_push_of_some _ e,i1⟩
 .intro h h' g kp i a ns h1 h2
  obtain ⟨us,p1,i1⟩:=g i a ns h1 h2
  have lt:=small i a ns h1 h2
  refine ⟨us,Zhi p1 λo e=>kp a o (by simpa using Nat.ne_of_lt lt) (λz=>?_) e,i1⟩
  have z':a=s.heap.objs.size+1:=by rw [z]; exact Heap.size_push ..
  rw [z'] at lt
  exact absurd lt (Nat.not_lt.mpr (Nat.le_succ _))
 .intro i j u v t Q' E' g ai aj q'
  obtain ⟨a,ha,rfl⟩:=Zej rv ai
  obtain ⟨b,hb,rfl⟩:=Zej rv aj
  have vi:i<vs.length:=by rw [← hlen]; exact (List.getElem?_eq_some_iff.mp ha).1
  have vj:j<vs.length:=by rw [← hlen]; exact (List.getElem?_eq_some_iff.mp hb).1
  obtain ⟨us,p1,i1⟩:=g i a _ ha (getElem?_eq_getElem vi)
  obtain ⟨ws,p2,i2⟩:=g j b _ hb (getElem?_eq_getElem vj)
  refine (HT.lt_tupInts p1 p2 i1 i2 hu1 ?_:wpAny (model X.prog X.w) X.A.in1 (compareOp .Lt (.ref a) (.ref b)) Q' E' t)
  have q2:=q'
  dsimp only at q2
  rw [ZeF (getElem?_eq_getElem vi),ZeF (getElem?_eq_getElem vj)] at q2
  exact q2
 .intro v h' tk hv hk
  obtain ⟨a,ha,rfl⟩:=Zej rv hv
  exact ⟨.ref a,H,I.kept (t':=tk) (λb o e=>hk b o (by simpa using Nat.ne_of_lt (Heap.lt_size e)) (Heap.get?_push_of_some _ e)),rfl,q _ a (by rw [List.size_toArray,← hl]) ha⟩
end
section
variable {X:Cx}
def Zmt:V->List V->Hp->VK->Prop:=λx vs H Q=>∃ (l:Addr) (ns:List Int) (k:Int),x=.ref l/\vs=[.int k]/\H l=some (.lst (ns.map V.int))/\k∈ns/\Q .non (upd H l (.lst ((ns.erase k).map V.int)))
theorem Zhk (k:Int):∀ (ns:List Int),k∈ns->∃ j,ns[j]?=some k/\(∀ m z,m<j->ns[m]?=some z->z≠k)/\ns.erase k=ns.eraseIdx j
 | [],h=>nomatch h
 | x :: ns,h=>by
  by_cases hx:x=k
  .subst hx
   exact ⟨0,rfl,λm z hm=>absurd hm (Nat.not_lt_zero _),by rw [List.erase_cons_head,List.eraseIdx_cons_zero]⟩
  .have hm:k∈ns:=by
    rcases List.mem_cons.mp h with e | e
    .exact absurd e.symm hx
    .exact e
   obtain ⟨j,h1,h2,h3⟩:=Zhk k ns hm
   refine ⟨j+1,by simpa using h1,λm z hm hz=>?_,?_⟩
   .cases m with
    | zero =>
     have e:x=z:=by simpa using hz
     rw [← e]; exact hx
    | succ m=>exact h2 m z (by omega) (by simpa using hz)
   .rw [List.erase_cons_tail (by simpa using hx),h3,List.eraseIdx_cons_succ]
theorem ZhZ {xs:List V} {us:List Value}:∀ (j:Nat),Vals xs us->Vals (xs.eraseIdx j) (us.eraseIdx j):=by
 intro j r
 induction r generalizing j with
 | nil=>exact .nil
 | cons h t ih =>
  cases j with
  | zero=>exact t
  | succ j=>exact .cons h (ih j)
theorem Zdy:MtM X "list.remove" Zmt:=by
 intro pins s σ H x vs v us Q I rx rv h
 obtain ⟨l,ns,k,rfl,rfl,hH,hk,q⟩:=h
 cases rx
 obtain ⟨u,rfl,ru⟩:=rv.one
 obtain ⟨tk,rfl⟩:=ru
 obtain ⟨z,its,n,r,hl,e⟩:=I.lstM hH
 rw [length_map] at hl z
 obtain ⟨j,h1,h2,h3⟩:=Zhk k ns hk
 have get:∀ (m:Nat) (hm:m<its.toArray.size),∃ (i:Int) (t:Tok),ns[m]?=some i/\its.toArray[m]=.int i t:=λm hm=>by
  have hm':m<ns.length:=by rw [hl]; simpa using hm
  obtain ⟨w,hw,rw'⟩:=r.get (i:=m) (x:=.int ns[m]) (by rw [getElem?_map,getElem?_eq_getElem hm']; rfl)
  obtain ⟨t,rfl⟩:=rw'
  refine ⟨ns[m],t,getElem?_eq_getElem hm',?_⟩
  have:its[m]?=some its[m]:=getElem?_eq_getElem (by simpa using hm)
  rw [hw] at this
  simpa using (Option.some.inj this).symm
 have hj:j<its.toArray.size:=by
  have:=(List.getElem?_eq_some_iff.mp h1).1
  rw [hl] at this; simpa using this
 refine call_meets F.slot_list_remove ⟨_,e,rfl⟩ F.entry_list_remove (F.args_list_remove_2 _ _) (MeetsSeq.list_remove l its.toArray n (.int k tk) (λy=>match y with | .int i _=>i == k | _=>false) (λy hy=>?_) j hj ?_ (λm hm hmj=>?_) (by rw [List.size_toArray,← hl]; exact z)) ⟨e,?_⟩
 .obtain ⟨m,hm,rfl⟩:=Array.getElem_of_mem hy
  obtain ⟨i,t,_,e2⟩:=get m hm
  rw [e2]
  exact MeetsSeq.EqGives.int i k t tk
 .obtain ⟨i,t,e1,e2⟩:=get j hj
  rw [h1] at e1; cases e1
  rw [e2]
  simp
 .obtain ⟨i,t,e1,e2⟩:=get m hm
  rw [e2]
  simpa using h2 m i hmj e1
 .refine ⟨.non,_,I.lset (its':=its.eraseIdx j) (ys:=(ns.erase k).map V.int) hH e ?_ ?_ ?_,rfl,q⟩
  .rw [List.eraseIdxIfInBounds_toArray]
  .rw [h3]
   have em:∀ (xs:List Int) (i:Nat),(xs.eraseIdx i).map V.int=(xs.map V.int).eraseIdx i:=λxs=>by
    induction xs with
    | nil=>intro i; rfl
    | cons y xs ih=>intro i; cases i with
     | zero=>rfl
     | succ i=>rw [List.eraseIdx_cons_succ,map_cons,map_cons,List.eraseIdx_cons_succ,ih]
   rw [em]
   exact ZhZ j r
  .rw [length_map]
   exact Nat.le_trans length_erase_le z
end
section
variable {κ:Type} [DecidableEq κ]
def valV (kvs:List (κ×V)) (k:κ):Option V:=(kvs.find? λkv=>decide (kv.1=k)).map (·.2)
def putK (kvs:List (κ×V)) (k:κ) (v:V):List (κ×V) :=
 if (kvs.any λkv=>decide (kv.1=k))=true then kvs.map (λkv=>if kv.1=k then (kv.1,v) else kv) else kvs++[(k,v)]
def dropK (kvs:List (κ×V)) (k:κ):List (κ×V):=kvs.filter λkv=>decide (kv.1≠k)
theorem ZY {p:κ×V} {r:List (κ×V)} {k:κ} (e:p.1=k):valV (p :: r) k=some p.2:=by simp [valV,find?_cons,e]
theorem ZT {p:κ×V} {r:List (κ×V)} {k:κ} (e:¬ p.1=k):valV (p :: r) k=valV r k:=by simp [valV,find?_cons,e]
theorem Zce (k:κ):∀ kvs:List (κ×V),(kvs.any λkv=>decide (kv.1=k))=(valV kvs k).isSome
 | []=>rfl
 | p :: r=>by
  rw [any_cons]
  by_cases e:p.1=k
  .simp only [ZY e,decide_eq_true e,Bool.true_or,Option.isSome_some]
  .rw [ZT e,decide_eq_false e,Bool.false_or]; exact Zce k r
theorem Zhl (k j:κ) (y:V):∀ kvs:List (κ×V),valV (kvs.map λkv=>if kv.1=k then (kv.1,y) else kv) j=(valV kvs j).map λx=>if j=k then y else x
 | []=>rfl
 | p :: r=>by
  have ih:=Zhl k j y r
  rw [map_cons]
  by_cases h:p.1=k
  .rw [if_pos h]
   by_cases e:p.1=j
   .rw [ZY (p:=(p.1,y)) e,ZY e,Option.map_some,if_pos (e.symm.trans h)]
   .rw [ZT (p:=(p.1,y)) e,ZT e,ih]
  .rw [if_neg h]
   by_cases e:p.1=j
   .rw [ZY (p:=p) e,ZY e,Option.map_some,if_neg (λz=>h (e.trans z))]
   .rw [ZT (p:=p) e,ZT e,ih]
theorem Zfx (k j:κ) (y:V):∀ kvs:List (κ×V),valV kvs k=none->valV (kvs++[(k,y)]) j=if j=k then some y else valV kvs j
 | [],_=>by
  by_cases e:k=j
  .rw [if_pos e.symm]; exact ZY (p:=(k,y)) e
  .rw [if_neg (λz=>e z.symm)]; exact ZT (p:=(k,y)) e
 | p :: r,hn=>by
  rw [List.cons_append]
  have hk:¬ p.1=k:=λz=>by rw [ZY z] at hn; cases hn
  rw [ZT hk] at hn
  have ih:=Zfx k j y r hn
  by_cases e:p.1=j
  .rw [ZY e,ZY e,if_neg (λz=>hk (e.trans z))]
  .rw [ZT e,ZT e,ih]
theorem ZcS (kvs:List (κ×V)) (k j:κ) (y:V):valV (putK kvs k y) j=if j=k then some y else valV kvs j:=by
 unfold putK
 by_cases a:(kvs.any λkv=>decide (kv.1=k))=true
 .rw [if_pos a,Zhl]
  rw [Zce] at a
  by_cases e:j=k
  .obtain ⟨x,hx⟩:=Option.isSome_iff_exists.mp a
   rw [if_pos e,e,hx,Option.map_some,if_pos rfl]
  .rw [if_neg e]
   cases valV kvs j with
   | none=>rfl
   | some x=>rw [Option.map_some,if_neg e]
 .rw [if_neg a]
  refine Zfx k j y kvs ?_
  rw [Zce] at a
  cases q:valV kvs k with
  | none=>rfl
  | some x=>rw [q] at a; exact (a rfl).elim
theorem Zaq (kvs:List (κ×V)) (k:κ) (v:V):(putK kvs k v).length<=kvs.length+1:=by
 unfold putK
 split
 .rw [length_map]; omega
 .rw [length_append,length_cons,length_nil]; omega
theorem ZkL {kvs:List (κ×V)} {k:κ} (v:V) (h:valV kvs k=none):putK kvs k v=kvs++[(k,v)]:=by
 unfold putK
 rw [Zce,h]
 exact if_neg (by decide)
theorem RelO.isSome_eq {o:Option V} {u:Option Value} (r:RelO o u):o.isSome=u.isSome:=by
 cases o with
 | none=>cases u with
  | none=>rfl
  | some _=>exact (show False from r).elim
 | some _=>cases u with
  | none=>exact (show False from r).elim
  | some _=>rfl
theorem RelO.getD {o:Option V} {u:Option Value} {d:V} {d':Value} (r:RelO o u) (rd:RelV d d'):RelV (o.getD d) (u.getD d'):=by
 cases o with
 | none=>cases u with
  | none=>exact rd
  | some _=>exact (show False from r).elim
 | some _=>cases u with
  | none=>exact (show False from r).elim
  | some _=>exact r
theorem KV.val {kvs:List (κ×V)} {vs:List (κ×Value)} (r:KV kvs vs) (k:κ):RelO (valV kvs k) (valueAt vs k):=by
 unfold KV at r
 induction r with
 | nil=>exact True.intro
 | @cons p q ps qs h t ih =>
  obtain ⟨h1,h2⟩:=h
  by_cases e:p.1=k
  .have e':q.1=k:=h1.symm.trans e
   have b:valueAt (q :: qs) k=some q.2:=by simp [valueAt,find?_cons,e']
   rw [ZY e,b]; exact h2
  .have e':¬ q.1=k:=λz=>e (h1.trans z)
   have b:valueAt (q :: qs) k=valueAt qs k:=by simp [valueAt,find?_cons,e']
   rw [ZT e,b]; exact ih
theorem KV.any {kvs:List (κ×V)} {vs:List (κ×Value)} (r:KV kvs vs) (k:κ):(kvs.any λkv=>decide (kv.1=k))=vs.any λkv=>decide (kv.1=k):=by
 unfold KV at r
 induction r with
 | nil=>rfl
 | cons h t ih=>rw [any_cons,any_cons,ih,h.1]
theorem KV.repl {kvs:List (κ×V)} {vs:List (κ×Value)} (r:KV kvs vs) (k:κ) {y:V} {u:Value} (ry:RelV y u) :
  KV (kvs.map λkv=>if kv.1=k then (kv.1,y) else kv) (vs.map λkv=>if kv.1=k then (kv.1,u) else kv):=by
 unfold KV at r ⊢
 induction r with
 | nil=>exact .nil
 | @cons p q ps qs h t ih =>
  rw [map_cons,map_cons]
  refine .cons ?_ ih
  obtain ⟨h1,h2⟩:=h
  by_cases e:p.1=k
  .rw [if_pos e,if_pos (h1.symm.trans e)]; exact ⟨h1,ry⟩
  .rw [if_neg e,if_neg (λz=>e (h1.trans z))]; exact ⟨h1,h2⟩
theorem KV.put {kvs:List (κ×V)} {vs:List (κ×Value)} (r:KV kvs vs) (k:κ) {y:V} {u:Value} (ry:RelV y u):KV (putK kvs k y) (stored vs k u):=by
 unfold putK stored
 rw [r.any k]
 by_cases e:(vs.any λkv=>decide (kv.1=k))=true
 .rw [if_pos e,if_pos e]; exact r.repl k ry
 .rw [if_neg e,if_neg e]; exact Paired.snoc r ⟨rfl,ry⟩
theorem KV.drop {kvs:List (κ×V)} {vs:List (κ×Value)} (r:KV kvs vs) (k:κ):KV (dropK kvs k) (without vs k):=by
 unfold KV at r ⊢
 unfold dropK without
 induction r with
 | nil=>exact .nil
 | @cons p q ps qs h t ih =>
  obtain ⟨h1,h2⟩:=h
  rw [filter_cons,filter_cons]
  by_cases e:p.1=k
  .have a:¬ decide (p.1≠k)=true:=by simp [e]
   have b:¬ decide (q.1≠k)=true:=by simp [h1.symm.trans e]
   rw [if_neg a,if_neg b]; exact ih
  .have e':¬ q.1=k:=λz=>e (h1.trans z)
   have a:decide (p.1≠k)=true:=by simp [e]
   have b:decide (q.1≠k)=true:=by simp [e']
   rw [if_pos a,if_pos b]; exact .cons ⟨h1,h2⟩ ih
theorem KV.length {kvs:List (κ×V)} {vs:List (κ×Value)} (r:KV kvs vs):kvs.length=vs.length:=Paired.length r
theorem ZkM (kvs:List (κ×V)) (k:κ):(dropK kvs k).length<=kvs.length:=length_filter_le _ _
end
theorem kV_is {P:Program} {w:World} {k:Key} {u:Value} (r:RelV (kV k) u):(ZM P w).is k u=true:=by
 cases k with
 | inl i=>obtain ⟨t,e⟩:=(show ∃ t,u=Value.int i t from r); subst e; exact Zgf P w i t
 | inr x=>obtain ⟨t,e⟩:=(show ∃ t,u=Value.str x t from r); subst e; exact Zgg P w x t
theorem Zfy {P:Program} {w:World}:∀ {ks:List Key} {us:List Value},Vals (ks.map kV) us->ItemsAre (ZM P w) ks us
 | [],_,r=>by rw [map_nil] at r; cases r; exact .nil
 | k :: ks,_,r=>by
  rw [map_cons] at r
  cases r with
  | cons h t=>exact .cons (kV_is h) (Zfy t)
abbrev KT (H:Hp):List (List Key×V)->List (List Key×Addr×Value)->Prop:=Paired λp q=>p.1=q.1/\H q.2.1=some (.tup (p.1.map kV))/\RelV p.2 q.2.2
theorem KT.val {H:Hp} {kvs:List (List Key×V)} {xs:List (List Key×Addr×Value)} (r:KT H kvs xs) (k:List Key):RelO (valV kvs k) ((atKey xs k).map (·.2)):=by
 induction r with
 | nil=>exact True.intro
 | @cons p q ps qs h t ih =>
  obtain ⟨h1,_,h2⟩:=h
  by_cases e:p.1=k
  .have e':q.1=k:=h1.symm.trans e
   have b:atKey (q :: qs) k=some q.2:=by simp [atKey,find?_cons,e']
   rw [ZY e,b]; exact h2
  .have e':¬ q.1=k:=λz=>e (h1.trans z)
   have b:atKey (q :: qs) k=atKey qs k:=by simp [atKey,find?_cons,e']
   rw [ZT e,b]; exact ih
theorem KT.repl {H:Hp} {kvs:List (List Key×V)} {xs:List (List Key×Addr×Value)} (r:KT H kvs xs) (k:List Key) {y:V} {u:Value} (ry:RelV y u) :
  KT H (kvs.map λkv=>if kv.1=k then (kv.1,y) else kv) (xs.map (putAt k u)):=by
 induction r with
 | nil=>exact .nil
 | @cons p q ps qs h t ih =>
  rw [map_cons,map_cons]
  refine .cons ?_ ih
  obtain ⟨h1,h2,h3⟩:=h
  unfold putAt
  by_cases e:p.1=k
  .rw [if_pos e,if_pos (h1.symm.trans e)]; exact ⟨h1,h2,ry⟩
  .rw [if_neg e,if_neg (λz=>e (h1.trans z))]; exact ⟨h1,h2,h3⟩
theorem KT.put {H:Hp} {kvs:List (List Key×V)} {xs:List (List Key×Addr×Value)} (r:KT H kvs xs) (k:List Key) {b:Addr} {y:V} {u:Value} (hb:H b=some (.tup (k.map kV))) (ry:RelV y u) :
  KT H (putK kvs k y) (storedH xs k b u):=by
 have e:(kvs.any λkv=>decide (kv.1=k))=(atKey xs k).isSome:=by
  rw [Zce,(r.val k).isSome_eq,Option.isSome_map]
 unfold putK storedH
 rw [e]
 by_cases q:(atKey xs k).isSome=true
 .rw [if_pos q,if_pos q]; exact r.repl k ry
 .rw [if_neg q,if_neg q]; exact Paired.snoc r ⟨rfl,hb,ry⟩
theorem KT.keeps {H H':Hp} {kvs:List (List Key×V)} {xs:List (List Key×Addr×Value)} (r:KT H kvs xs) (ht:∀ b ys,H b=some (.tup ys)->H' b=some (.tup ys)):KT H' kvs xs :=
 Paired.mapP r λ_ _ z=>⟨z.1,ht _ _ z.2.1,z.2.2⟩
section
variable {P:Program} {w:World} {H:Hp} {h:Heap} {a:Addr}
theorem rd_of {u:HO} (ok:HOk P w H h) (e:Rd H a u):ObjOk P w H h a u:=e.ok ok
theorem dk_rd {kvs:List (Key×V)} (ok:HOk P w H h) (e:Rd H a (.dK kvs)):kvs.length<=sizeLine/\(a == sysModules)=false/\∃ vs,KV kvs vs/\h.DictOf (ZM P w) a vs :=
 show ObjOk P w H h a (.dK kvs) from rd_of ok e
theorem dk_of {kvs:List (Key×V)} (ok:HOk P w H h) (e:H a=some (.dK kvs)):kvs.length<=sizeLine/\(a == sysModules)=false/\∃ vs,KV kvs vs/\h.DictOf (ZM P w) a vs:=dk_rd ok (.inl e)
theorem Zfz {ks:List Key} (ok:HOk P w H h) (e:H a=some (.tup (ks.map kV))):(tupleKind (ZM P w)).is h ks a:=by
 obtain ⟨_,its,r,o,h1,h2,n,h3⟩:=(show ObjOk P w H h a (.tup (ks.map kV)) from ok a _ e)
 exact ⟨o,its.toArray,n,h1,h2,h3,by simpa using Zfy r⟩
theorem dt_rd {kvs:List (List Key×V)} (ok:HOk P w H h) (e:Rd H a (.dT kvs)):kvs.length<=sizeLine/\(a == sysModules)=false /\
  ∃ xs,KT H kvs xs/\h.DictOfH (tupleKind (ZM P w)) a xs:=by
 obtain ⟨z,y,xs,r,o,es,ep,h1,h2,h3,h4,h5⟩:=(show ObjOk P w H h a (.dT kvs) from rd_of ok e)
 refine ⟨z,y,xs,r,o,es,ep,h1,h2,h3,h4,λx hx=>?_,h5⟩
 have all:∀ {l:List (List Key×V)} {m:List (List Key×Addr×Value)},KT H l m->∀ x∈m,(tupleKind (ZM P w)).is h x.1 x.2.1:=by
  intro l m q
  induction q with
  | nil=>intro x hx; exact nomatch hx
  | @cons p q ps qs hq t ih =>
   intro x hx
   rcases List.mem_cons.mp hx with e | hx
   .subst e
    exact Zfz ok (by rw [← hq.1]; exact hq.2.1)
   .exact ih x hx
 exact all r x hx
theorem dt_of {kvs:List (List Key×V)} (ok:HOk P w H h) (e:H a=some (.dT kvs)):kvs.length<=sizeLine/\(a == sysModules)=false /\
  ∃ xs,KT H kvs xs/\h.DictOfH (tupleKind (ZM P w)) a xs:=dt_rd ok (.inl e)
end
def DGet (H:Hp) (a:Addr) (y:V) (r:Option V):Prop :=
 (∃ kvs k,Rd H a (.dK kvs)/\y=kV k/\r=valV kvs k)\/∃ kvs k b,Rd H a (.dT kvs)/\y=.ref b/\H b=some (.tup (k.map kV))/\r=valV kvs k
def DPut (H:Hp) (a:Addr) (y v:V) (H':Hp):Prop :=
 (∃ kvs k,H a=some (.dK kvs)/\y=kV k/\kvs.length<sizeLine/\H'=upd H a (.dK (putK kvs k v))) \/
 ∃ kvs k b,H a=some (.dT kvs)/\y=.ref b/\H b=some (.tup (k.map kV))/\kvs.length<sizeLine/\H'=upd H a (.dT (putK kvs k v))
theorem DGet.k {H:Hp} {a:Addr} {kvs:List (Key×V)} {k:Key} (e:H a=some (.dK kvs)):DGet H a (kV k) (valV kvs k):=.inl ⟨kvs,k,.inl e,rfl,rfl⟩
theorem DPut.k {H:Hp} {a:Addr} {kvs:List (Key×V)} {k:Key} {v:V} (e:H a=some (.dK kvs)) (hl:kvs.length<sizeLine):DPut H a (kV k) v (upd H a (.dK (putK kvs k v))):=.inl ⟨kvs,k,e,rfl,hl,rfl⟩
section
variable {X:Cx} {pins:List (Addr×Obj)} {σ:St} {H:Hp} {s:Shared} {a:Addr} {y v:V} {u r:Value} {o:Option V} {A:Around} {E:Value->Shared->Prop}
theorem Inv.big (I:Inv X pins σ H s):sysModules<s.heap.objs.size:=by
 have h:mainGlobals<s.heap.objs.size:=(I.mod.glob.keeps I.bk).lt
 exact Nat.lt_trans (by decide) h
theorem ZfA {Q:Value->Shared->Prop} (hu:A.units+1<cLine) (I:Inv X pins σ H s) (g:DGet H a y (some v)) (ry:RelV y u) (h:∀ w' s',Inv X pins σ H s'->RelV v w'->Q w' s') :
  wpAny (model X.prog X.w) A (getItem (.ref a) u) Q E s:=by
 rcases g with ⟨kvs,k,e,ey,l⟩ | ⟨kvs,k,b,e,ey,eb,l⟩
 .subst ey
  obtain ⟨z,hd,vs,rel,dd⟩:=dk_rd I.hok e
  obtain ⟨w',hw,rw'⟩:=RelO.some_of (v:=v) (o:=valueAt vs k) (by rw [l]; exact rel.val k)
  exact wpAny_getItem_of (kV_is ry) dd.mapOf hw (h w' _ (I.tok _) rw')
 .subst ey
  cases (show u=Value.ref b from ry)
  obtain ⟨z,hd,xs,rel,dd⟩:=dt_rd I.hok e
  obtain ⟨w',hw,rw'⟩:=RelO.some_of (v:=v) (o:=(atKey xs k).map (·.2)) (by rw [l]; exact rel.val k)
  obtain ⟨p,hp,hp2⟩:=Option.map_eq_some_iff.mp hw
  refine wpAny_getItem_heap (tupleKind_room_in1 hu) (Zfz I.hok eb) dd hp ?_
  rw [hp2]
  exact h w' _ (I.tok _) rw'
theorem d_in {Q:Value->Shared->Prop} (hu:A.units+1<cLine) (I:Inv X pins σ H s) (g:DGet H a y o) (ry:RelV y u) (h:∀ s',Inv X pins σ H s'->Q (.bool o.isSome) s') :
  wpAny (model X.prog X.w) A (compareOp .In u (.ref a)) Q E s:=by
 rcases g with ⟨kvs,k,e,ey,l⟩ | ⟨kvs,k,b,e,ey,eb,l⟩
 .subst ey
  obtain ⟨z,hd,vs,rel,dd⟩:=dk_rd I.hok e
  refine wpAny_in_of (kV_is ry) hd dd.mapOf ?_
  rw [← (rel.val k).isSome_eq,← l]
  exact h _ (I.tok _)
 .subst ey
  cases (show u=Value.ref b from ry)
  obtain ⟨z,hd,xs,rel,dd⟩:=dt_rd I.hok e
  refine wpAny_in_heap (tupleKind_room_in1 hu) (Zfz I.hok eb) hd dd ?_
  have q:=(rel.val k).isSome_eq
  rw [Option.isSome_map] at q
  rw [← q,← l]
  exact h _ (I.tok _)
theorem ZeG {h':Heap} {t':Nat} {ob:HO} (I:Inv X pins σ H s) (mu:Mut (H a)) (hs:Heap.SameBut a s.heap h') (he:∃ q,h'.get? a=some q) (new:ObjOk X.prog X.w (upd H a ob) h' a ob) :
  Inv X pins σ (upd H a ob) { s with heap:=h',toks:=t' } :=
 I.write (x:=a) (e:=a) mu (.inl rfl) (λb q hb z=>(hs.2 b hb).trans z) he new
theorem Zja {P:Program} {w:World} {H':Hp} {h':Heap} {kvs:List (Key×V)} {vs:List (Key×Value)} (z:kvs.length<=sizeLine) (hd:(a == sysModules)=false) (rel:KV kvs vs) (dd:h'.DictOf (ZM P w) a vs) :
  ObjOk P w H' h' a (.dK kvs):=⟨z,hd,vs,rel,dd⟩
theorem ZfB {H':Hp} {Q:Unit->Shared->Prop} (hu:A.units+1<cLine) (I:Inv X pins σ H s) (g:DPut H a y v H') (ry:RelV y u) (rv:RelV v r) (h:∀ s',Inv X pins σ H' s'->Q () s') :
  wpAny (model X.prog X.w) A (setItem (.ref a) u r) Q E s:=by
 rcases g with ⟨kvs,k,e,ey,l,eH⟩ | ⟨kvs,k,b,e,ey,eb,l,eH⟩
 .subst ey eH
  obtain ⟨z,hd,vs,rel,dd⟩:=dk_of I.hok e
  have hz:vs.length<=sizeLine:=by rw [← rel.length]; exact z
  have hl:(putK kvs k v).length<=sizeLine:=by have:=Zaq kvs k v; omega
  refine wpAny_setItem_pairs (hsz:=hz) (kV_is ry) dd λh' dd' hs=>h _ ?_
  have he:∃ q,h'.get? a=some q:=let ⟨q,_,_,hq,_⟩:=dd'; ⟨q,hq⟩
  exact ZeG I (by rw [e]; exact True.intro) hs he (Zja hl hd (rel.put k rv) dd')
 .subst ey eH
  cases (show u=Value.ref b from ry)
  obtain ⟨z,hd,xs,rel,dd⟩:=dt_of I.hok e
  have hz:xs.length<=sizeLine:=by rw [← Paired.length rel]; exact z
  have hl:(putK kvs k v).length<=sizeLine:=by have:=Zaq kvs k v; omega
  refine wpAny_setItem_heap (hsz:=hz) (tupleKind_room_in1 hu) (Zfz I.hok eb) dd λh' dd' hs=>h _ ?_
  obtain ⟨q,es,ep,hq,h2,h3,h4,_,h5⟩:=dd'
  refine ZeG I (by rw [e]; exact True.intro) hs ⟨q,hq⟩ ⟨hl,hd,_,(rel.put k eb rv).keeps λc ys ec=>?_,q,es,ep,hq,h2,h3,h4,h5⟩
  rw [Ze (ne_of ec e (λz=>nomatch z))]
  exact ec
end
section
variable {X:Cx} {pins:List (Addr×Obj)} {σ:St} {H:Hp} {s:Shared} {a:Addr} {kvs:List (Key×V)} {k:Key} {u:Value} {A:Around} {E:Value->Shared->Prop}
theorem d_pop {v:V} {more:List Value} {Q:Value->Shared->Prop} (I:Inv X pins σ H s) (e:H a=some (.dK kvs)) (ry:RelV (kV k) u) (l:valV kvs k=some v) (hm:more=[]\/∃ x,more=[x])
  (h:∀ w' s',Inv X pins σ (upd H a (.dK (dropK kvs k))) s'->RelV v w'->Q w' s'):wpAny (model X.prog X.w) A (call (.builtin "dict.pop") (.ref a :: u :: more)) Q E s:=by
 obtain ⟨z,hd,vs,rel,dd⟩:=dk_of I.hok e
 obtain ⟨w',hw,rw'⟩:=RelO.some_of (v:=v) (o:=valueAt vs k) (by rw [← l]; exact rel.val k)
 have hp:(keyPart u).isSome=true:=by
  cases k with
  | inl i=>obtain ⟨t,q⟩:=(show ∃ t,u=Value.int i t from ry); subst q; rfl
  | inr x=>obtain ⟨t,q⟩:=(show ∃ t,u=Value.str x t from ry); subst q; rfl
 have ha:argsOk "dict.pop" ⟨.ref a :: u :: more,[]⟩:=by
  rcases hm with q | ⟨x,q⟩
  .subst q; exact PySem.F.args_dict_pop_2 _ _
  .subst q; exact PySem.F.args_dict_pop_3 _ _ _
 refine call_meetsIn PySem.F.slot_dict_pop dd.typeIs PySem.F.entry_dict_pop ha (meets_dict_pop_there (ZM X.prog X.w) a (kV_is ry) more hm hp)
  ⟨vs,w',dd,by rw [← rel.length]; exact z,hw,λh' dd' hs=>h w' _ ?_ rw'⟩
 have he:∃ q,h'.get? a=some q:=let ⟨q,_,_,hq,_⟩:=dd'; ⟨q,hq⟩
 exact ZeG I (by rw [e]; exact True.intro) hs he (Zja (Nat.le_trans (ZkM kvs k) z) hd (rel.drop k) dd')
end
def NoSl (i:Expr):Prop:=∀ ov iv,subscripted i false ov iv=operate [ov,iv] (getItem ov iv)
theorem Zmu {prog:Program} {w:World} {A:Around} {E:Value->Shared->Prop} {s:Shared} {env:Env} {value slice:Expr} {pos:Pos} {T id:String} {Q:Value->Shared->Prop}
  (hl:typeLookup (.type T) "__getitem__" = pure (some (.builtin id))) (hs:NoSl slice)
  (h:wpAny (model prog w) A (eval value env) (λo s₁=>wpAny (model prog w) A (eval slice env) (λi s₂=>s₂.TypeIs o T/\wpAny (model prog w) A (getItem o i) Q E s₂) E s₁) E s) :
  wpAny (model prog w) A (eval (.Subscript value slice pos) env) Q E s:=by
 refine Subscript_ (wpAny_mono h (λo s₁ h₁=>wpAny_mono h₁ (λi s₂ h₂=>?_) λ_ _ x=>x) λ_ _ x=>x)
 obtain ⟨hT,h₂⟩:=h₂
 unfold subscriptTail
 refine wpAny_bind ?_
 rw [getitemInPython_of_ne hT.not_modules]
 refine wpAny_bind (wpAny_specialOf hT hl ?_)
 have fin:wpAny (model prog w) A (subscripted slice false o i) (λr s₃=>wpAny (model prog w) A (letTemporaryGo value o r >>= λ_=>pure r) Q E s₃) E s₂:=by
  rw [hs o i]
  exact wpAny_operating (wpAny_mono h₂ (λr s₃ h₃=>wpAny_bind (wpAny_letTemporaryGo (wpAny_pure h₃))) λ_ _ x=>x)
 first
  | exact wpAny_pure (wpAny_bind fin)
  | exact wpAny_bind (wpAny_pure (wpAny_bind fin))
  | exact wpAny_bind fin
theorem Zgm {X:Cx} {pins:List (Addr×Obj)} {σ:St} {H:Hp} {s:Shared} {a:Addr} {y:V} {o:Option V} (I:Inv X pins σ H s) (g:DGet H a y o):s.TypeIs (.ref a) "dict" := by
 rcases g with ⟨kvs,k,e,_,_⟩ | ⟨kvs,k,b,e,_,_,_⟩
 .obtain ⟨_,_,vs,_,dd⟩:=dk_rd I.hok e
  exact dd.typeIs
 .obtain ⟨_,_,xs,_,dd⟩:=dt_rd I.hok e
  exact dd.typeIs
def tDGet (td ty:TE):TE:=λσ H Q=>td σ H λx H1=>ty σ H1 λy H2=>∃ a v,x=.ref a/\DGet H2 a y (some v)/\Q v H2
def tDIn (ty td:TE):TE:=λσ H Q=>ty σ H λy H1=>td σ H1 λx H2=>∃ a o,x=.ref a/\DGet H2 a y o/\Q (.bl o.isSome) H2
def sDPut (td ty tv:TE):TS:=λD σ H=>tv σ H λv H1=>td σ H1 λx H2=>ty σ H2 λy H3=>∃ a H4,x=.ref a/\DPut H3 a y v H4/\D.nx σ H4
def sDAug (td ty tv:TE) (rd:V->V->Hp->VK->Prop):TS:=λD σ H=>td σ H λx H1=>ty σ H1 λy H2=>∃ a v,x=.ref a/\DGet H2 a y (some v) /\
 tv σ H2 λy2 H3=>rd v y2 H3 λz H4=>∃ H5,DPut H4 a y z H5/\D.nx σ H5
section
variable {X:Cx} {o i e value:Expr} {pos pos' tpos:Pos} {td ty tv:TE}
theorem Zjb (hu:X.A.units+1<cLine) (ho:PE X o td) (hi:PE X i ty) (hs:NoSl i):PE X (.Subscript o i pos) (tDGet td ty):=by
 intro pins s σ H Q I h
 refine Zmu PySem.F.slot_dict_getitem.lookup hs (thn (ho pins s σ H _ I h) λu s1 ⟨x,H1,I1,rx,q1⟩=>thn (hi pins s1 σ H1 _ I1 q1) λiv s2 ⟨y,H2,I2,ry,a,v,ex,g,q2⟩=>?_)
 subst ex
 obtain rfl:u=Value.ref a:=rx
 exact ⟨Zgm I2 g,ZfA hu I2 g ry λw' s3 I3 rw'=>⟨v,H2,I3,rw',q2⟩⟩
theorem Znm (hu:X.A.units+1<cLine) (hi:PE X i ty) (ho:PE X o td):PC X .In i o (tDIn ty td):=by
 intro pins s σ H Q I h
 refine thn (hi pins s σ H _ I h) λiv s1 ⟨y,H1,I1,ry,q1⟩=>thn (ho pins s1 σ H1 _ I1 q1) λu s2 ⟨x,H2,I2,rx,a,ov,ex,g,q2⟩=>?_
 subst ex
 obtain rfl:u=Value.ref a:=rx
 exact d_in hu I2 g ry λs3 I3=>⟨.bl ov.isSome,H2,I3,rfl,q2⟩
theorem Zgn (hu:X.A.units+1<cLine) (ho:PE X o td) (hi:PE X i ty) (hv:PE X value tv) (hs:swapsWith value (some (.Subscript o i pos')) pos.line X.env=pure false) :
  PS X (.Assign [.Subscript o i pos'] value pos) (sDPut td ty tv):=by
 intro pins s σ H D I h
 refine wpAny_Assign_Subscript (thn (hv pins s σ H _ I h) λr s1 ⟨v,H1,I1,rv,q1⟩=>thn (ho pins s1 σ H1 _ I1 q1) λu s2 ⟨x,H2,I2,rx,q2⟩=>thn (hi pins s2 σ H2 _ I2 q2) λiv s3 ⟨y,H3,I3,ry,a,H4,ex,g,q3⟩=>?_) hs
 subst ex
 obtain rfl:u=Value.ref a:=rx
 exact ZfB hu I3 g ry rv λs4 I4=>⟨σ,H4,I4,q3⟩
theorem Zmv {op:Operator} {rd:V->V->Hp->VK->Prop} (hu:X.A.units+1<cLine) (ho:PE X o td) (hi:PE X i ty) (hv:PE X value tv) (hop:InOp X op rd)
  (ha:∀ ov iv new,augStore i ov iv new=(do holding [new,ov,iv] (setItem ov iv new); release [new,ov,iv] []; pure .next)):PS X (.AugAssign (.Subscript o i tpos) op value pos) (sDAug td ty tv rd):=by
 intro pins s σ H D I h
 refine wpAny_AugAssign_SubscriptAny (thn (ho pins s σ H _ I h) λu s1 ⟨x,H1,I1,rx,q1⟩=>thn (hi pins s1 σ H1 _ I1 q1) λiv s2 ⟨y,H2,I2,ry,a,v,ex,g,q2⟩=>?_) ha
 subst ex
 obtain rfl:u=Value.ref a:=rx
 refine ZfA hu I2 g ry λw' s3 I3 rw'=>thn (hv pins s3 σ H2 _ I3 q2) λw2 s4 ⟨y2,H3,I4,ry2,q3⟩=>thn (hop pins s4 σ H3 v y2 w' w2 _ I4 rw' ry2 q3) λw3 s5 ⟨z,H4,I5,rz,H5,g5,q4⟩=>?_
 exact ZfB hu I5 g5 ry rz λs6 I6=>⟨σ,H5,I6,q4⟩
end
theorem ZkN {P:Program} {w:World} {H:Hp} (h:Heap) (hb:sysModules<h.objs.size):ObjOk P w H (h.push { cls:=.type "dict",data:=.dict #[] }) h.objs.size (.dK []) :=
 ⟨Nat.zero_le _,beq_eq_false_iff_ne.mpr (Ne.symm (Nat.ne_of_lt hb)),[],.nil,Heap.DictOf.new h⟩
def Znn:TE:=λ_ H Q=>∀ p,H p=none->Q (.ref p) (upd H p (.dK []))
section
variable {X:Cx} {pos:Pos}
theorem ZcT:PE X (.Dict [] [] pos) Znn:=λpins s σ H Q I h =>
 wpAny_Dict_empty ⟨.ref s.heap.objs.size,_,I.laid (a:=s.heap.objs.size) (o:=.dK []) (t':=s.toks) (λ_ _ q=>Heap.get?_push_of_some _ q) (Nat.le_refl _) (ZkN s.heap I.big),rfl,h _ (I.hok.fresh (Nat.le_refl _))⟩
end
structure M1 (X:Cx) (o:Expr) (m:Str) (apos:Pos) (e:Expr) (cpos:Pos):Prop where
 base:attributeBase o m X.env (eval o X.env)=eval o X.env
 few:((backTo cpos (starEach [e] X.env)).all (λx=>!x.1) && (backToKw cpos (keywordEach [] X.env)).all (λx=>x.1.isSome)
  && decide (([e]:List Expr).length+([]:List Keyword).length+(if ([]:List Keyword).isEmpty then 0 else 1)<30))=true
 line:(apos.endLine == cpos.line)=true
 trees:backTo cpos (starEach [e] X.env)=[(false,eval e X.env)]
structure M2 (X:Cx) (o:Expr) (m:Str) (apos:Pos) (e f:Expr) (cpos:Pos):Prop where
 base:attributeBase o m X.env (eval o X.env)=eval o X.env
 few:((backTo cpos (starEach [e,f] X.env)).all (λx=>!x.1) && (backToKw cpos (keywordEach [] X.env)).all (λx=>x.1.isSome)
  && decide (([e,f]:List Expr).length+([]:List Keyword).length+(if ([]:List Keyword).isEmpty then 0 else 1)<30))=true
 line:(apos.endLine == cpos.line)=true
 trees:backTo cpos (starEach [e,f] X.env)=[(false,eval e X.env),(false,eval f X.env)]
def IsD (H:Hp) (a:Addr):Prop:=(∃ kvs,Rd H a (.dK kvs))\/∃ kvs,Rd H a (.dT kvs)
theorem Zhm {X:Cx} {pins:List (Addr×Obj)} {σ:St} {H:Hp} {s:Shared} {a:Addr} (I:Inv X pins σ H s) (d:IsD H a) :
  s.TypeIs (.ref a) "dict" /\ (∀ b,Value.ref a=.ref b->∃ ob,s.heap.get? b=some ob/\ob.dict=none)/\(a == sysModules)=false:=by
 rcases d with ⟨kvs,e⟩ | ⟨kvs,e⟩
 .obtain ⟨_,hd,vs,_,dd⟩:=dk_rd I.hok e
  refine ⟨dd.typeIs,λb q=>?_,hd⟩
  cases q
  obtain ⟨ob,_,_,h1,h2,_⟩:=dd
  exact ⟨ob,h1,h2.2.1⟩
 .obtain ⟨_,hd,xs,_,dd⟩:=dt_rd I.hok e
  refine ⟨dd.typeIs,λb q=>?_,hd⟩
  cases q
  obtain ⟨ob,_,_,h1,h2,_⟩:=dd
  exact ⟨ob,h1,h2.2.1⟩
section
variable {X:Cx} {pins:List (Addr×Obj)} {σ:St} {H:Hp} {s:Shared} {a:Addr} {y d:V} {u r:Value} {o:Option V} {A:Around} {E:Value->Shared->Prop}
theorem Zno {Q:Value->Shared->Prop} (hu:A.units+1<cLine) (I:Inv X pins σ H s) (g:DGet H a y o) (ry:RelV y u) (rd:RelV d r) (h:∀ w' s',Inv X pins σ H s'->RelV (o.getD d) w'->Q w' s') :
  wpAny (model X.prog X.w) A (call (.builtin "dict.get") [.ref a,u,r]) Q E s:=by
 rcases g with ⟨kvs,k,e,ey,l⟩ | ⟨kvs,k,b,e,ey,eb,l⟩
 .subst ey
  obtain ⟨z,hd,vs,rel,dd⟩:=dk_rd I.hok e
  refine call_meetsIn PySem.F.slot_dict_get dd.typeIs PySem.F.entry_dict_get (PySem.F.args_dict_get_3 _ _ _) (meets_dict_get_default (ZM X.prog X.w) a (kV_is ry) hd r) ⟨_,dd.mapOf,h _ _ (I.tok _) ?_⟩
  rw [l]
  exact (rel.val k).getD rd
 .subst ey
  cases (show u=Value.ref b from ry)
  obtain ⟨z,hd,xs,rel,dd⟩:=dt_rd I.hok e
  refine call_meetsIn PySem.F.slot_dict_get dd.typeIs PySem.F.entry_dict_get (PySem.F.args_dict_get_3 _ _ _) (meetsH_dict_get_default (tupleKind (ZM X.prog X.w)) a b hd r) ⟨tupleKind_room_in1 hu,k,xs,Zfz I.hok eb,dd,h _ _ (I.tok _) ?_⟩
  rw [l]
  exact (rel.val k).getD rd
end
def Znp (td ty tx:TE):TE:=λσ H Q=>td σ H λx H1=>∃ a,x=.ref a/\IsD H1 a/\ty σ H1 λy H2=>tx σ H2 λz H3=>∃ o,DGet H3 a y o/\Q (o.getD z) H3
def Znq (td ty:TE):TE:=λσ H Q=>td σ H λx H1=>∃ a,x=.ref a/\IsD H1 a/\ty σ H1 λy H2=>∃ kvs k v,H2 a=some (.dK kvs)/\y=kV k/\valV kvs k=some v/\Q v (upd H2 a (.dK (dropK kvs k)))
section
variable {X:Cx} {o e f:Expr} {apos cpos:Pos} {td ty tx:TE}
theorem ZkO (hu:X.A.units+1<cLine) (ho:PE X o td) (he:PE X e ty) (hf:PE X f tx) (m:M2 X o "get" apos e f cpos):PE X (.Call (.Attribute o "get" apos) [e,f] [] cpos) (Znp td ty tx):=by
 intro pins s σ H Q I h
 refine wpAny_Call_method m.base m.few m.line PySem.F.plainAttrs_dict PySem.F.slot_dict_get PySem.F.type_dict_get (thn (ho pins s σ H _ I h) λu s1 ⟨x,H1,I1,rx,a,ex,d,q1⟩=>?_)
 subst ex
 obtain rfl:u=Value.ref a:=rx
 obtain ⟨t1,t2,_⟩:=Zhm I1 d
 refine ⟨t1,t2,?_⟩
 rw [m.trees]
 refine Calls.callWith_builtin rfl (Calls.evalArgs_plain (Calls.spliced_cons (thn (he pins s1 σ H1 _ I1 q1) λiv s2 ⟨y,H2,I2,ry,q2⟩ =>
  Calls.spliced_cons (thn (hf pins s2 σ H2 _ I2 q2) λfv s3 ⟨z,H3,I3,rz,ov,g,q3⟩=>Calls.spliced_nil ?_))))
 exact Zno hu I3 g ry rz λw' s4 I4 rw'=>⟨_,H3,I4,rw',q3⟩
theorem ZkP (ho:PE X o td) (he:PE X e ty) (m:M1 X o "pop" apos e cpos):PE X (.Call (.Attribute o "pop" apos) [e] [] cpos) (Znq td ty):=by
 intro pins s σ H Q I h
 refine wpAny_Call_method m.base m.few m.line PySem.F.plainAttrs_dict PySem.F.slot_dict_pop PySem.F.type_dict_pop (thn (ho pins s σ H _ I h) λu s1 ⟨x,H1,I1,rx,a,ex,d,q1⟩=>?_)
 subst ex
 obtain rfl:u=Value.ref a:=rx
 obtain ⟨t1,t2,_⟩:=Zhm I1 d
 refine ⟨t1,t2,?_⟩
 rw [m.trees]
 refine Calls.callWith_builtin rfl (Calls.evalArgs_plain (Calls.spliced_cons (thn (he pins s1 σ H1 _ I1 q1) λiv s2 ⟨y,H2,I2,ry,kvs,k,v,ea,ey,l,q2⟩=>Calls.spliced_nil ?_)))
 subst ey
 exact d_pop I2 ea ry l (.inl rfl) λw' s3 I3 rw'=>⟨v,_,I3,rw',q2⟩
end
section
variable {κ:Type} [DecidableEq κ]
theorem Zbd:∀ {l:List κ} {k:κ},l.Nodup->¬ k∈l->(l++[k]).Nodup
 | [],k,_,_=>by simp
 | a :: r,k,h,hk=>by
  obtain ⟨h1,h2⟩:=List.nodup_cons.mp h
  show (a :: (r++[k])).Nodup
  refine List.nodup_cons.mpr ⟨λm=>?_,Zbd h2 λm=>hk (List.mem_cons.mpr (Or.inr m))⟩
  rcases List.mem_append.mp m with q | q
  .exact h1 q
  .exact hk (List.mem_cons.mpr (Or.inl (List.mem_singleton.mp q).symm))
theorem Zjc {p:κ×V} {r:List (κ×V)} {k:κ} (e:p.1=k):dropK (p :: r) k=dropK r k:=by
 unfold dropK
 rw [filter_cons,if_neg (by simp [e])]
theorem Zjd {p:κ×V} {r:List (κ×V)} {k:κ} (e:¬ p.1=k):dropK (p :: r) k=p :: dropK r k:=by
 unfold dropK
 rw [filter_cons,if_pos (by simp [e])]
end
section
variable {X:Cx} {pins:List (Addr×Obj)} {σ:St} {H:Hp} {s:Shared} {d:Addr} {kvs:List (Key×V)} {o:Obj}
theorem Inv.frozen (I:Inv X pins σ H s) (h:H d=some (.dK kvs)) (ho:s.heap.get? d=some o):Inv X pins σ (upd H d (.frz o (.dK kvs))) s:=by
 have ne:∀ b u,H b=some u->u≠.dK kvs->b≠d:=λb u e n z=>by rw [z,h] at e; exact n (Option.some.inj e).symm
 have nn:∀ b,H b=none->b≠d:=λb e z=>by rw [z,h] at e; cases e
 have q:=I.step (g':=s.gens) (t':=s.toks) (d':=s.drawn) (ch:=[]) (h':=s.heap) (H':=upd H d (.frz o (.dK kvs))) (λ_ z=>nomatch z) (λb o' _ _ _ e _=>e) (λb o' _ _ _ e _=>⟨o'.slots,e⟩) (λb o' _ _ n=>by rw [Ze (nn b n)]; exact n) (λb o' _ e=>⟨o',e⟩)
  (λb xs e=>by rw [Ze (ne b _ e (by intro z; cases z))]; exact e) (λb o' u e=>by rw [Ze (ne b _ e (by intro z; cases z))]; exact e) (λb _ _ e=>by rw [Ze (ne b _ e (by intro z; cases z))]; exact e) (λm hm=>hm) (λb u e=>?_) I.bare
 .exact q
 .by_cases hb:b=d
  .subst hb
   rw [Za] at e
   cases e
   exact ⟨ho,I.hok b _ h⟩
  .rw [Ze hb] at e
   exact (I.hok b u e).stay (λ_ _ _ z=>z) (λc z=>by rw [Ze (ne c _ z (by intro y; cases y))]; exact z) (λc xs z=>by rw [Ze (ne c _ z (by intro y; cases y))]; exact z) λc oz z=>by rw [Ze (ne c _ z (by intro y; cases y))]; exact z
end
theorem Zje {P:Program} {w:World} {H:Hp} {h:Heap} {d:Addr} {o:Obj} {kvs:List (Key×V)} {es:Array DictEntry} {ep:Nat} (q:ObjOk P w H h d (.frz o (.dK kvs))) (he:o.data=.dict es ep):(d == sysModules)=false/\∃ vs,KV kvs vs/\h.DictAt (ZM P w) d vs ep:=by
 obtain ⟨ho,_,hs,vs,r,o',es',ep',h1,h2,h3,h4⟩:=q
 rw [ho] at h1; cases h1
 rw [he] at h3
 cases h3
 exact ⟨hs,vs,r,o,es,ho,h2,he,h4⟩
structure Src (P0:Program) (w0:World) (it l:Addr) (its:Array Value) (pos:Nat->Heap->Prop) (sq:Heap->Prop):Prop where
 item:∀ {A0:Around} {E0:Value->Shared->Prop} {t:Shared} {i:Nat} {x:Value} {Q0:Value->Shared->Prop},pos i t.heap->sq t.heap->its[i]?=some x->(∀ g,pos (i+1) g->Heap.SameBut it t.heap g->Q0 x { t with heap:=g })->wpAny (model P0 w0) A0 (Builtin.SmallTypes.nextOf (.ref it)) Q0 E0 t
 stop:∀ {A0:Around} {E0:Value->Shared->Prop} {t:Shared} {i:Nat} {Q0:Value->Shared->Prop},A0.handled=none->pos i t.heap->sq t.heap->its[i]?=none->(∀ g e,Heap.ExtBut it t.heap g->(∃ o,g.get? e=some o/\o.cls=.type "StopIteration")->E0 (.ref e) { t with heap:=g })->wpAny (model P0 w0) A0 (Builtin.SmallTypes.nextOf (.ref it)) Q0 E0 t
 pmove:∀ {i:Nat} {g g':Heap},pos i g->(∀ o,g.get? it=some o->g'.get? it=some o)->pos i g'
 smove:∀ {g g':Heap},sq g->(∀ o,g.get? l=some o->g'.get? l=some o)->sq g'
 obj:∀ {i:Nat} {g:Heap},pos i g->∃ o,g.get? it=some o/\∀ v,o.data≠.cell v
section
variable {P0:Program} {w0:World} {A0:Around} {E0:Value->Shared->Prop} {t:Shared}
theorem ZfC {it a:Addr} {i:Nat} {its:Array Value} {x:Value} {Q0:Value->Shared->Prop} (st:t.heap.IsTupleIter it a i) (tp:t.heap.IsTuple a its) (hx:its[i]?=some x)
  (k:∀ g,g.IsTupleIter it a (i+1)->Heap.SameBut it t.heap g->Q0 x { t with heap:=g }):wpAny (model P0 w0) A0 (Builtin.SmallTypes.nextOf (.ref it)) Q0 E0 t:=by
 obtain ⟨oi,gi,ci,di⟩:=id st
 obtain ⟨oa,ga,_,n,da⟩:=tp
 unfold Builtin.SmallTypes.nextOf
 refine wpAny_bind (wpAny_callSpecial?_slot (name:=Str.ofString "__next__") st.typeIs F.slot_tuple_iterator_next (wpAny_call_entry F.slot_tuple_iterator_next st.typeIs F.entry_tuple_iterator_next ?_ (F.args_tuple_iterator_next_1 _)))
 show wpAny _ _ (field (.ref it) 0 >>= _) _ _ t
 refine wpAny_bind (wpAny_field gi di (x:=.ref a) rfl ?_)
 show wpAny _ _ (if (Value.ref a == Value.none)=true then _ else _) _ _ t
 rw [if_neg (show ¬ ((Value.ref a == Value.none)=true) from Bool.false_ne_true)]
 show wpAny _ _ (field (.ref it) 1 >>= _) _ _ t
 refine wpAny_bind (wpAny_field gi di (x:=.int i 0) rfl ?_)
 show wpAny _ _ (seqItems? (.ref a) >>= _) _ _ t
 refine wpAny_bind (wpAny_seqItems ga da ?_)
 simp only [hx,Int.toNat_natCast]
 refine wpAny_bind (wpAny_setField gi di (by simp) (wpAny_pure ⟨x,rfl,wpAny_pure (k _ ⟨_,Heap.get?_update_self _ gi (Obj.isFreed_of_fields (Obj.data_mapFields di _)),(Obj.cls_mapFields ..).trans ci,?_⟩ (Heap.SameBut.update ..))⟩))
 rw [Obj.data_mapFields di]
 simp [rawInt]
theorem ZfD {it a:Addr} {i:Nat} {its:Array Value} {Q0:Value->Shared->Prop} (hA:A0.handled=none) (st:t.heap.IsTupleIter it a i) (tp:t.heap.IsTuple a its) (hx:its[i]?=none)
  (k:∀ g e,Heap.ExtBut it t.heap g->(∃ o,g.get? e=some o/\o.cls=.type "StopIteration")->E0 (.ref e) { t with heap:=g }):wpAny (model P0 w0) A0 (Builtin.SmallTypes.nextOf (.ref it)) Q0 E0 t:=by
 obtain ⟨oi,gi,ci,di⟩:=id st
 obtain ⟨oa,ga,_,n,da⟩:=tp
 unfold Builtin.SmallTypes.nextOf
 refine wpAny_bind (wpAny_callSpecial?_slot (name:=Str.ofString "__next__") st.typeIs F.slot_tuple_iterator_next (wpAny_call_entry F.slot_tuple_iterator_next st.typeIs F.entry_tuple_iterator_next ?_ (F.args_tuple_iterator_next_1 _)))
 show wpAny _ _ (field (.ref it) 0 >>= _) _ _ t
 refine wpAny_bind (wpAny_field gi di (x:=.ref a) rfl ?_)
 show wpAny _ _ (if (Value.ref a == Value.none)=true then _ else _) _ _ t
 rw [if_neg (show ¬ ((Value.ref a == Value.none)=true) from Bool.false_ne_true)]
 show wpAny _ _ (field (.ref it) 1 >>= _) _ _ t
 refine wpAny_bind (wpAny_field gi di (x:=.int i 0) rfl ?_)
 show wpAny _ _ (seqItems? (.ref a) >>= _) _ _ t
 refine wpAny_bind (wpAny_seqItems ga da ?_)
 simp only [hx,Int.toNat_natCast]
 refine wpAny_bind (wpAny_rule (wpAny_bind (wpAny_setField gi di (by simp) ?_)))
 show wpAny _ _ (newExc (.type "StopIteration") [] >>= _) _ _ _
 refine wpAny_bind ?_
 simp only [newTuple,newExc]
 refine wpAny_bind (wpAny_newObj_type (wpAny_bind (m:=firstArgMember _ _) (wpAny_of_eq (a:=Value.none) (by first | rfl | (simp only [firstArgMember]; rfl)) (wpAny_newObj_type ?_ (by size_fits)))) (by size_fits))
 simp only [raiseNew]
 refine wpAny_bind (wpAny_handled ?_)
 first | rw [show A0.in1.handled=none from hA] | rw [hA]
 exact wpAny_bind (wpAny_pure (wpAny_throw (k _ _ (((Heap.SameBut.update ..).extBut.push _).push _) ⟨_,Heap.get?_push_size _ rfl,rfl⟩)))
end
theorem Zbe {h:Heap} {it l:Addr} {i:Nat} (x:h.IsTupleIter it l i):∃ o,h.get? it=some o/\∀ v,o.data≠.cell v:=by
 obtain ⟨o,e,c,d⟩:=x
 exact ⟨o,e,λv z=>by rw [d] at z; cases z⟩
theorem ZeH {P0:Program} {w0:World} (it l:Addr) (its:Array Value):Src P0 w0 it l its (λi h=>h.IsTupleIter it l i) (λh=>h.IsTuple l its) where
 item:=λa b c d=>ZfC a b c d
 stop:=λa b c d e=>ZfD a b c d e
 pmove:=λa b=>a.at b
 smove:=λa b=>by obtain ⟨o,e,r⟩:=a; exact ⟨o,b o e,r⟩
 obj:=λa=>Zbe a
section
variable {P0:Program} {w0:World} {A0:Around} {E0:Value->Shared->Prop} {t:Shared} {z TI TO ia ib la lb:Addr} {p1 p2:Nat->Heap->Prop} {q1 q2:Heap->Prop} {xs ys:Array Value}
theorem Zjf {k:Nat} {x y u v:Value} {Q0:Value->Shared->Prop} (S1:Src P0 w0 ia la xs p1 q1) (S2:Src P0 w0 ib lb ys p2 q2) (D:ZipApart z TI TO ia ib la lb)
  (zz:IsZip t.heap z TI TO .none) (zI:IsPair t.heap TI (.ref ia) (.ref ib)) (zO:IsPair t.heap TO u v) (a1:p1 k t.heap) (a2:p2 k t.heap) (b1:q1 t.heap) (b2:q2 t.heap) (hx:xs[k]?=some x) (hy:ys[k]?=some y)
  (fin:∀ g,IsZip g z TI TO (rawInt t.heap.objs.size)->IsPair g TO x y->p1 (k+1) g->p2 (k+1) g->IsPair g t.heap.objs.size x y->g.objs.size=t.heap.objs.size+1 ->
   (∀ c o,c≠z->c≠TO->c≠ia->c≠ib->t.heap.get? c=some o->g.get? c=some o)->Q0 (.ref t.heap.objs.size) { t with heap:=g }) :
  wpAny (model P0 w0) A0 (Builtin.«zip.__next__» ⟨[.ref z],[]⟩) (λf s'=>∃ v,f=.done (.ret v)/\Q0 v s') E0 t:=by
 show wpAny _ _ (field (.ref z) 2 >>= _) _ _ _
 refine wpAny_bind (wpAny_field zz rfl (x:=.bool false) rfl ?_)
 show wpAny _ _ (field (.ref z) 3 >>= _) _ _ _
 refine wpAny_bind (wpAny_field zz rfl (x:=.ref TI) rfl (wpAny_bind (wpAny_seqItems zI rfl ?_)))
 show wpAny _ _ (Builtin.SmallTypes.ownedTupleIsFree (.ref z) >>= _) _ _ _
 refine wpAny_bind ?_
 unfold Builtin.SmallTypes.ownedTupleIsFree
 refine wpAny_bind (wpAny_field zz rfl (x:=.none) rfl (wpAny_pure ?_))
 simp only [if_true]
 refine wpAny_bind (wpAny_rule (wpAny_bind (wpAny_field zz rfl (x:=.ref TO) rfl (wpAny_bind (wpAny_setField_rec zz (by simp) λg1 z1 c1=>?_)))))
 replace z1:IsZip g1 z TI TO .ellipsis:=z1
 refine wpAny_bind ?_
 simp only [List.forIn_cons,List.forIn_nil,List.zipIdx_cons,List.zipIdx_nil]
 refine wpAny_bind (wpAny_bind (wpAny_onRaise ?_))
 show wpAny _ _ (Builtin.SmallTypes.nextOf (.ref ia) >>= _) _ _ _
 refine wpAny_bind (S1.item (S1.pmove a1 λo e=>c1.extBut _ o D.i1z e) (S1.smove b1 λo e=>c1.extBut _ o D.l1z e) hx λg2 a12 c2=>wpAny_pure ?_)
 have o2:IsPair g2 TO u v:=c2.extBut _ _ D.TOi1 (c1.extBut _ _ D.TOz zO)
 refine wpAny_bind (wpAny_seqItems o2 rfl (wpAny_bind (wpAny_updateSeq_pair o2 λg3 o3 c3=>?_)))
 replace o3:IsPair g3 TO x v:=o3
 refine wpAny_bind (wpAny_letGo (wpAny_pure ?_))
 refine wpAny_bind (wpAny_bind (wpAny_onRaise ?_))
 show wpAny _ _ (Builtin.SmallTypes.nextOf (.ref ib) >>= _) _ _ _
 have m3:∀ c o,c≠z->c≠ia->c≠TO->t.heap.get? c=some o->g3.get? c=some o:=λc o n1 n2 n3 e=>c3.extBut _ _ n3 (c2.extBut _ _ n2 (c1.extBut _ _ n1 e))
 refine wpAny_bind (S2.item (S2.pmove a2 λo e=>m3 _ o D.i2z D.i12.symm D.TOi2.symm e) (S2.smove b2 λo e=>m3 _ o D.l2z D.l2i1 D.l2TO e) hy λg4 a24 c4=>wpAny_pure ?_)
 have o4:IsPair g4 TO x v:=c4.extBut _ _ D.TOi2 o3
 refine wpAny_bind (wpAny_seqItems o4 rfl (wpAny_bind (wpAny_updateSeq_pair o4 λg5 o5 c5=>?_)))
 replace o5:IsPair g5 TO x y:=o5
 refine wpAny_bind (wpAny_letGo (wpAny_pure (wpAny_pure ?_)))
 refine wpAny_bind (wpAny_seqItems o5 rfl (wpAny_bind (wpAny_newTuple ?_)))
 have sz:g5.objs.size=t.heap.objs.size:=by rw [c5.1,c4.1,c3.1,c2.1,c1.1]
 have m5:∀ c o,c≠z->c≠TO->c≠ia->c≠ib->t.heap.get? c=some o->g5.get? c=some o:=λc o n1 n2 n3 n4 e=>c5.extBut _ _ n2 (c4.extBut _ _ n4 (m3 c o n1 n3 n2 e))
 have z5:IsZip g5 z TI TO .ellipsis:=c5.extBut _ _ D.TOz.symm (c4.extBut _ _ D.i2z.symm (c3.extBut _ _ D.TOz.symm (c2.extBut _ _ D.i1z.symm z1)))
 have a15:p1 (k+1) g5:=S1.pmove a12 λo e=>c5.extBut _ o D.TOi1.symm (c4.extBut _ o D.i12 (c3.extBut _ o D.TOi1.symm e))
 have a25:p2 (k+1) g5:=S2.pmove a24 λo e=>c5.extBut _ o D.TOi2.symm e
 have zlt:z<g5.objs.size:=Heap.lt_size z5
 show wpAny _ _ (Builtin.SmallTypes.ownedTupleHandOut (.ref z) (.ref g5.objs.size) >>= _) _ _ _
 refine wpAny_bind ?_
 unfold Builtin.SmallTypes.ownedTupleHandOut
 have z6:IsZip (g5.push { cls:=.type "tuple",data:=.seq #[x,y] }) z TI TO .ellipsis:=Heap.get?_push_of_some _ z5
 refine wpAny_bind (wpAny_setField_rec z6 (by simp) λg7 z7 c7=>?_)
 replace z7:IsZip g7 z TI TO (rawInt g5.objs.size):=z7
 refine wpAny_setField_rec z7 (by simp) λg8 z8 c8=>?_
 replace z8:IsZip g8 z TI TO (rawInt g5.objs.size):=z8
 have m8:∀ c o,c≠z->g5.get? c=some o->g8.get? c=some o:=λc o n1 e=>c8.extBut _ _ n1 (c7.extBut _ _ n1 (Heap.get?_push_of_some _ e))
 have t8:IsPair g8 g5.objs.size x y:=c8.extBut _ _ (Nat.ne_of_gt zlt) (c7.extBut _ _ (Nat.ne_of_gt zlt) (Heap.get?_push_size _ rfl))
 have s8:g8.objs.size=g5.objs.size+1:=by rw [c8.1,c7.1,Heap.size_push]
 rw [sz] at z8 t8 s8
 refine wpAny_pure ⟨_,rfl,?_⟩
 show Q0 (.ref g5.objs.size) _
 rw [sz]
 exact fin g8 z8 (m8 _ _ D.TOz o5) (S1.pmove a15 λo e=>m8 _ o D.i1z e) (S2.pmove a25 λo e=>m8 _ o D.i2z e) t8 s8 λc o n1 n2 n3 n4 e=>m8 c o n1 (m5 c o n1 n2 n3 n4 e)
theorem Zjg {k:Nat} {u v:Value} {Q0:Fin->Shared->Prop} (hA:A0.handled=none) (S1:Src P0 w0 ia la xs p1 q1) (S2:Src P0 w0 ib lb ys p2 q2) (D:ZipApart z TI TO ia ib la lb)
  (zz:IsZip t.heap z TI TO .none) (zI:IsPair t.heap TI (.ref ia) (.ref ib)) (zO:IsPair t.heap TO u v) (a1:p1 k t.heap) (b1:q1 t.heap) (hx:xs[k]?=none)
  (fin:∀ g e,(∀ c o,c≠z->c≠TO->c≠ia->c≠ib->t.heap.get? c=some o->g.get? c=some o)->(∃ o,g.get? e=some o/\o.cls=.type "StopIteration")->E0 (.ref e) { t with heap:=g }) :
  wpAny (model P0 w0) A0 (Builtin.«zip.__next__» ⟨[.ref z],[]⟩) Q0 E0 t:=by
 show wpAny _ _ (field (.ref z) 2 >>= _) _ _ _
 refine wpAny_bind (wpAny_field zz rfl (x:=.bool false) rfl ?_)
 show wpAny _ _ (field (.ref z) 3 >>= _) _ _ _
 refine wpAny_bind (wpAny_field zz rfl (x:=.ref TI) rfl (wpAny_bind (wpAny_seqItems zI rfl ?_)))
 show wpAny _ _ (Builtin.SmallTypes.ownedTupleIsFree (.ref z) >>= _) _ _ _
 refine wpAny_bind ?_
 unfold Builtin.SmallTypes.ownedTupleIsFree
 refine wpAny_bind (wpAny_field zz rfl (x:=.none) rfl (wpAny_pure ?_))
 simp only [if_true]
 refine wpAny_bind (wpAny_rule (wpAny_bind (wpAny_field zz rfl (x:=.ref TO) rfl (wpAny_bind (wpAny_setField_rec zz (by simp) λg1 z1 c1=>?_)))))
 replace z1:IsZip g1 z TI TO .ellipsis:=z1
 refine wpAny_bind ?_
 simp only [List.forIn_cons,List.forIn_nil,List.zipIdx_cons,List.zipIdx_nil]
 refine wpAny_bind (wpAny_bind (wpAny_onRaise ?_))
 show wpAny _ _ (Builtin.SmallTypes.nextOf (.ref ia) >>= _) _ _ _
 refine wpAny_bind (S1.stop hA (S1.pmove a1 λo e=>c1.extBut _ o D.i1z e) (S1.smove b1 λo e=>c1.extBut _ o D.l1z e) hx λg2 e c2 he=>?_)
 obtain ⟨oe,g2e,ce⟩:=he
 have z2:IsZip g2 z TI TO .ellipsis:=c2 _ _ D.i1z.symm z1
 have ne:e≠z:=λq=>by rw [q,z2] at g2e; cases g2e; simp at ce
 exact wpAny_setField_rec z2 (by simp) λg3 _ c3=>fin g3 e (λc o n1 _ n3 _ q=>c3.extBut _ _ n1 (c2 _ _ n3 (c1.extBut _ _ n1 q))) ⟨oe,c3.extBut _ _ ne g2e,ce⟩
theorem ZfE {k:Nat} {x y u v:Value} {Q0:Option Value->Shared->Prop} (S1:Src P0 w0 ia la xs p1 q1) (S2:Src P0 w0 ib lb ys p2 q2) (D:ZipApart z TI TO ia ib la lb)
  (zz:IsZip t.heap z TI TO .none) (zI:IsPair t.heap TI (.ref ia) (.ref ib)) (zO:IsPair t.heap TO u v) (a1:p1 k t.heap) (a2:p2 k t.heap) (b1:q1 t.heap) (b2:q2 t.heap) (hx:xs[k]?=some x) (hy:ys[k]?=some y)
  (fin:∀ g,IsZip g z TI TO (rawInt t.heap.objs.size)->IsPair g TO x y->p1 (k+1) g->p2 (k+1) g->IsPair g t.heap.objs.size x y->g.objs.size=t.heap.objs.size+1 ->
   (∀ c o,c≠z->c≠TO->c≠ia->c≠ib->t.heap.get? c=some o->g.get? c=some o)->Q0 (some (.ref t.heap.objs.size)) { t with heap:=g }):wpAny (model P0 w0) A0 (pyNext (.ref z)) Q0 E0 t:=by
 have ty:t.TypeIs (.ref z) "zip" := ⟨_,zz,rfl⟩
 unfold pyNext
 exact wpAny_bind (wpAny_attempt (wpAny_callSpecial?_slot (name:=Str.ofString "__next__") ty F.slot_zip_next (wpAny_call_entry F.slot_zip_next ty F.entry_zip_next (Zjf S1 S2 D zz zI zO a1 a2 b1 b2 hx hy λg r1 r2 r3 r4 r5 r6 r7=>wpAny_pure (fin g r1 r2 r3 r4 r5 r6 r7)) (F.args_zip_next_1 _))))
theorem ZfF {k:Nat} {u v:Value} {Q0:Option Value->Shared->Prop} (hA:A0.handled=none) (S1:Src P0 w0 ia la xs p1 q1) (S2:Src P0 w0 ib lb ys p2 q2) (D:ZipApart z TI TO ia ib la lb)
  (zz:IsZip t.heap z TI TO .none) (zI:IsPair t.heap TI (.ref ia) (.ref ib)) (zO:IsPair t.heap TO u v) (a1:p1 k t.heap) (b1:q1 t.heap) (hx:xs[k]?=none)
  (fin:∀ g,(∀ c o,c≠z->c≠TO->c≠ia->c≠ib->t.heap.get? c=some o->g.get? c=some o)->Q0 none { t with heap:=g }):wpAny (model P0 w0) A0 (pyNext (.ref z)) Q0 E0 t:=by
 have ty:t.TypeIs (.ref z) "zip" := ⟨_,zz,rfl⟩
 unfold pyNext
 refine wpAny_bind (wpAny_attempt (wpAny_callSpecial?_slot (name:=Str.ofString "__next__") ty F.slot_zip_next (wpAny_call_entry F.slot_zip_next ty F.entry_zip_next (Zjg hA S1 S2 D zz zI zO a1 b1 hx λg e kp he=>?_) (F.args_zip_next_1 _))))
 obtain ⟨oe,ge,ce⟩:=he
 exact wpAny_bind (wpAny_isInstance (T := "StopIteration") (b:=true) ⟨oe,ge,ce⟩ isSubtype_stop (wpAny_pure (fin _ kp)))
end
abbrev zt1 (h:Heap) (a:Addr):Heap:=h.push { cls:=.type "tuple_iterator",data:=.fields #[.ref a,.int 0 0] }
abbrev zt2 (h:Heap) (a b:Addr):Heap:=(zt1 h a).push { cls:=.type "tuple_iterator",data:=.fields #[.ref b,.int 0 0] }
abbrev zt3 (h:Heap) (a b:Addr):Heap:=(zt2 h a b).push { cls:=.type "tuple",data:=.seq #[.ref h.objs.size,.ref (zt1 h a).objs.size] }
abbrev zt4 (h:Heap) (a b:Addr):Heap:=(zt3 h a b).push { cls:=.type "tuple",data:=.seq #[.none,.none] }
abbrev zt5 (h:Heap) (a b:Addr):Heap:=(zt4 h a b).push { cls:=.type "zip",data:=.fields #[.none,.bool false,.bool false,.ref (zt2 h a b).objs.size,.ref (zt3 h a b).objs.size] }
theorem Zia (a b:Addr) (xs ys:Array Value) :
  Meets (Builtin.«zip.__new__» ⟨[.type "zip",.ref a,.ref b],[]⟩) (λ_ R s=>s.heap.IsTuple a xs/\s.heap.IsTuple b ys/\R (.ok (.ret (.ref (zt4 s.heap a b).objs.size))) { s with heap:=zt5 s.heap a b }) :=
 .of_wp λP0 w0 A0 R t h=>by
  obtain ⟨hp,gn,dr,tk,os⟩:=t
  obtain ⟨ta,tb,h⟩:=h
  have sub:=sub_zip
  have qa:Heap.IsTuple (Shared.heap ⟨hp,gn,dr,tk,os⟩) a xs:=ta
  have qb:Heap.IsTuple (Shared.heap ⟨hp.push { cls:=.type "tuple_iterator",data:=.fields #[.ref a,.int 0 0] },gn,dr,tk,os⟩) b ys:=Heap.IsTuple.push tb _
  wp_walk using wpAny_pyIter_tuple qa,wpAny_pyIter_tuple qb
  exact ⟨_,rfl,h⟩
theorem Zjh {P0:Program} {w0:World} {A0:Around} {E0:Value->Shared->Prop} {t:Shared} {a b:Addr} {xs ys:Array Value} {Q0:Value->Shared->Prop} (ta:t.heap.IsTuple a xs) (tb:t.heap.IsTuple b ys)
  (h:∀ g,IsZip g (t.heap.objs.size+4) (t.heap.objs.size+2) (t.heap.objs.size+3) .none->IsPair g (t.heap.objs.size+2) (.ref t.heap.objs.size) (.ref (t.heap.objs.size+1))->IsPair g (t.heap.objs.size+3) .none .none ->
   g.IsTupleIter t.heap.objs.size a 0->g.IsTupleIter (t.heap.objs.size+1) b 0->(∀ c o,t.heap.get? c=some o->g.get? c=some o)->Q0 (.ref (t.heap.objs.size+4)) { t with heap:=g }) :
  wpAny (model P0 w0) A0 (call (.type "zip") [.ref a,.ref b]) Q0 E0 t:=by
 refine callType_new F.called_zip (by decide) (F.typeCall_zip_2 _ _) (F.newCall_zip_2 _ _) (λobj=>F.args_object_init_3 obj _ _) F.entry_zip_new (Zia a b xs ys) ⟨ta,tb,?_⟩
 have n1:(zt1 t.heap a).objs.size=t.heap.objs.size+1:=Heap.size_push ..
 have n2:(zt2 t.heap a b).objs.size=t.heap.objs.size+2:=by rw [Heap.size_push,n1]
 have n3:(zt3 t.heap a b).objs.size=t.heap.objs.size+3:=by rw [Heap.size_push,n2]
 have n4:(zt4 t.heap a b).objs.size=t.heap.objs.size+4:=by rw [Heap.size_push,n3]
 have r5:(zt5 t.heap a b).get? (zt4 t.heap a b).objs.size=some _:=Heap.get?_push_size _ rfl
 have r4:(zt5 t.heap a b).get? (zt3 t.heap a b).objs.size=some _:=Heap.get?_push_of_some _ (Heap.get?_push_size _ rfl)
 have r3:(zt5 t.heap a b).get? (zt2 t.heap a b).objs.size=some _:=Heap.get?_push_of_some _ (Heap.get?_push_of_some _ (Heap.get?_push_size _ rfl))
 have r2:(zt5 t.heap a b).get? (zt1 t.heap a).objs.size=some _:=Heap.get?_push_of_some _ (Heap.get?_push_of_some _ (Heap.get?_push_of_some _ (Heap.get?_push_size _ rfl)))
 have r1:(zt5 t.heap a b).get? t.heap.objs.size=some _:=Heap.get?_push_of_some _ (Heap.get?_push_of_some _ (Heap.get?_push_of_some _ (Heap.get?_push_of_some _ (Heap.get?_push_size _ rfl))))
 show _/\_
 rw [n2,n3,n4] at r5
 rw [n1,n2] at r3
 rw [n3] at r4
 rw [n1] at r2
 rw [n4]
 refine ⟨⟨_,r5,rfl⟩,h _ r5 r3 r4 ⟨_,r1,rfl,rfl⟩ ⟨_,r2,rfl,rfl⟩ λc o q=>?_⟩
 iterate 5 refine Heap.get?_push_of_some _ ?_
 exact q
def Itzt (K:W.Frag) (a b:Addr):It :=
 ⟨λi H=>∃ xs ys x y,SqT K H a xs/\SqT K H b ys/\xs[i]?=some x/\ys[i]?=some y,
 λi H v H'=>∃ t x y,H t=none/\v=.ref t/\H'=upd H t (.tup [x,y])/\(∀ xs,SqT K H a xs->xs[i]?=some x)/\∀ ys,SqT K H b ys->ys[i]?=some y,
 λi H=>∃ xs,SqT K H a xs/\(∃ ys,SqT K H b ys)/\xs.length<=i⟩
theorem Zji {P:Program} {w:World} {K:W.Frag} {elts:List PySem.Expr} {x1} {pos:Pos} (z TI TO i1 i2 a b:Addr) (D:ZipApart z TI TO i1 i2 a b) :
  Turn P w K (.Tuple elts x1 pos) (Itzt K a b) [z,TI,TO,i1,i2] z (λi h=>IsZip h z TI TO .none/\IsPair h TI (.ref i1) (.ref i2)/\(∃ u v,IsPair h TO u v)/\h.IsTupleIter i1 a i/\h.IsTupleIter i2 b i) where
 mem:=by simp
 obj:=λi h st c hc=>by
  obtain ⟨hz,hTI,⟨u,v,hTO⟩,h1,h2⟩:=st
  simp only [mem_cons,not_mem_nil,or_false] at hc
  rcases hc with rfl | rfl | rfl | rfl | rfl
  .exact ⟨_,hz,λv e=>by cases e⟩
  .exact ⟨_,hTI,λv e=>by cases e⟩
  .exact ⟨_,hTO,λv e=>by cases e⟩
  .exact Zbe h1
  .exact Zbe h2
 keep:=λi h h' st k=>by
  obtain ⟨hz,hTI,⟨u,v,hTO⟩,h1,h2⟩:=st
  exact ⟨k z (by simp) _ hz,k TI (by simp) _ hTI,⟨u,v,k TO (by simp) _ hTO⟩,h1.at λo e=>k i1 (by simp) o e,h2.at λo e=>k i2 (by simp) o e⟩
 item:=by
  intro X hP hw hK hc i pins s σ H E I hf st hg
  subst hP hw hK
  obtain ⟨xs,ys,x,y,hqa,hqb,hx,hy⟩:=hg
  obtain ⟨hz,hTI,⟨u0,v0,hTO⟩,h1,h2⟩:=st
  obtain ⟨itsa,ra,pa,za⟩:=I.tuple hqa
  obtain ⟨itsb,rb,pb,zb⟩:=I.tuple hqb
  obtain ⟨ux,hux,rux⟩:=ra.get hx
  obtain ⟨uy,huy,ruy⟩:=rb.get hy
  refine ZfE (ZeH i1 a itsa.toArray) (ZeH i2 b itsb.toArray) D hz hTI hTO h1 h2 (show s.heap.IsTuple a itsa.toArray from pa) (show s.heap.IsTuple b itsb.toArray from pb) (x:=ux) (y:=uy) (by simpa using hux) (by simpa using huy) λh' a1 a2 a3 a4 a5 a6 a7=>?_
  refine ⟨.ref s.heap.objs.size,rfl,?_⟩
  refine wpAny_letOwnedTupleGo_zip a1 λh2' hz' hs'=>?_
  have hzlt:z<s.heap.objs.size:=Heap.lt_size hz
  have kk:∀ c o,c∉[z,TI,TO,i1,i2]->s.heap.get? c=some o->h2'.get? c=some o:=λc o hc e=>by
   simp only [mem_cons,not_mem_nil,or_false,not_or] at hc
   exact hs'.extBut c o hc.1 (a7 c o hc.1 hc.2.2.1 hc.2.2.2.1 hc.2.2.2.2 e)
  have tp:h2'.get? s.heap.objs.size=some { cls:=.type "tuple",data:=.seq #[ux,uy] }:=hs'.extBut _ _ (Nat.ne_of_gt hzlt) a5
  have I1:Inv X pins σ (upd H s.heap.objs.size (.tup [x,y])) { s with heap:=h2',toks:=s.toks } :=
   I.laidCh hf kk ⟨by show 2<=sizeLine; decide,[ux,uy],.cons rux (.cons ruy .nil),⟨_,tp,rfl,_,rfl⟩⟩
  have TIk:h2'.get? TI=s.heap.get? TI:=by
   rw [hTI]
   exact hs'.extBut _ _ D.TIz (a7 _ _ D.TIz D.TITO D.TIi1 D.TIi2 hTI)
  refine ⟨.ref s.heap.objs.size,_,I1,rfl,⟨s.heap.objs.size,x,y,I.hok.fresh (Nat.le_refl _),rfl,rfl,λxs' h=>by rw [I.tuple_inj h hqa]; exact hx,λys' h=>by rw [I.tuple_inj h hqb]; exact hy⟩,⟨hz',?_,⟨ux,uy,hs'.extBut _ _ D.TOz a2⟩,a3.at λo e=>hs'.extBut _ o D.i1z e,a4.at λo e=>hs'.extBut _ o D.i2z e⟩,λc hc=>?_⟩
  .show h2'.get? TI=_
   rw [TIk]; exact hTI
  .have hc':=hc
   have hlt:c<s.heap.objs.size:=by
    simp only [mem_cons,not_mem_nil,or_false] at hc'
    rcases hc' with rfl | rfl | rfl | rfl | rfl
    .exact hzlt
    .exact Heap.lt_size hTI
    .exact Heap.lt_size hTO
    .obtain ⟨o,e,_⟩:=Zbe h1; exact Heap.lt_size e
    .obtain ⟨o,e,_⟩:=Zbe h2; exact Heap.lt_size e
   rw [Ze (Nat.ne_of_lt hlt)]
   exact (hf c hc).1
 done:=by
  intro X hP hw hK hc i pins s σ H E I hf st hg
  subst hP hw hK
  obtain ⟨xs,hqa,⟨ys,hqb⟩,hend⟩:=hg
  obtain ⟨hz,hTI,⟨u0,v0,hTO⟩,h1,h2⟩:=st
  obtain ⟨itsa,ra,pa,za⟩:=I.tuple hqa
  obtain ⟨itsb,rb,pb,zb⟩:=I.tuple hqb
  have la:=ra.length
  refine ZfF (I.ok.hd hc) (ZeH i1 a itsa.toArray) (ZeH i2 b itsb.toArray) D hz hTI hTO h1 (show s.heap.IsTuple a itsa.toArray from pa) (by simp; omega) λh' hk=>⟨rfl,?_⟩
  refine I.turnedCh (t':=s.toks) hf λc o hc e=>?_
  simp only [mem_cons,not_mem_nil,or_false,not_or] at hc
  exact hk c o hc.1 hc.2.2.1 hc.2.2.2.1 hc.2.2.2.2 e
 self:=λ_ _ _ _ _ st h=>wpAny_pyIter_zip st.1 h
def iZipS (K:W.Frag) (ta:TA):TI:=λσ H R=>ta σ H λvs H1=>∃ a b,vs=[.ref a,.ref b]/\((∃ xs ys,SqL K H1 a xs/\SqL K H1 b ys/\R (Itz K a b) H1)\/∃ xs ys,SqT K H1 a xs/\SqT K H1 b ys/\R (Itzt K a b) H1)
section
variable {X:Cx}
theorem Zmw {elts:List PySem.Expr} {x1} {tpos:Pos} {a b:PySem.Expr} {ta:TA} {p pos:Pos} (hg:Gl X "zip") (hm:X.mg "zip" = none) (ha:PA X [a,b] ta) (hs:starEach [a,b] X.env=[(false,eval a X.env),(false,eval b X.env)]:=by rfl) (hs2:starEach [b] X.env=[(false,eval b X.env)]:=by rfl) :
  PI X (.Tuple elts x1 tpos) (.Call (.Name "zip" p) [a,b] [] pos) (iZipS X.K ta):=by
 intro pins s σ H R I h
 refine Call_ (ZbZ I hg hm Zhd (PyProof.Rows.callWith_type1 (thn (ha pos pins s σ H _ I h) λus s1 ⟨vs,H1,I1,r1,q1⟩=>?_) (by rw [hs,hs2]) (by rw [hs2]; rfl)))
 obtain ⟨l1,l2,e,q⟩:=q1
 subst e
 obtain ⟨v1,v2,rfl,r,r'⟩:=vals2 r1
 cases r
 cases r'
 have big:∀ c,c∈[s1.heap.objs.size+4,s1.heap.objs.size+2,s1.heap.objs.size+3,s1.heap.objs.size,s1.heap.objs.size+1]->s1.heap.objs.size<=c:=λc hc=>by
  simp only [mem_cons,not_mem_nil,or_false] at hc
  rcases hc with rfl | rfl | rfl | rfl | rfl <;> first | exact Nat.le_refl _ | exact Nat.le_add_right _ _
 rcases q with ⟨xs,ys,hqa,hqb,q⟩ | ⟨xs,ys,hqa,hqb,q⟩
 .obtain ⟨itsa,ra,pa,za⟩:=I1.list hqa
  obtain ⟨itsb,rb,pb,zb⟩:=I1.list hqb
  have lt1:l1<s1.heap.objs.size:=by obtain ⟨o,e,_⟩:=pa.isList; exact Heap.lt_size e
  have lt2:l2<s1.heap.objs.size:=by obtain ⟨o,e,_⟩:=pb.isList; exact Heap.lt_size e
  refine call_zip_2 pa.isList pb.isList λh' g5 g3 g4 g1 g2 hsz kp=>wpAny_pyIter_zip g5 ?_
  exact ⟨_,[_,_,_,_,_],_,_,H1,rfl,I1.kept (t':=s1.toks) kp,Zhc _ _ _ _ _ l1 l2 (Zds s1.heap.objs.size l1 l2 lt1 lt2),⟨g5,g3,⟨_,_,g4⟩,g1,g2⟩,λc hc=>I1.fpOk (big c hc) (I1.hok.fresh (big c hc)),q⟩
 .obtain ⟨itsa,ra,pa,za⟩:=I1.tuple hqa
  obtain ⟨itsb,rb,pb,zb⟩:=I1.tuple hqb
  have lt1:l1<s1.heap.objs.size:=Zhj pa
  have lt2:l2<s1.heap.objs.size:=Zhj pb
  refine Zjh (show s1.heap.IsTuple l1 itsa.toArray from pa) (show s1.heap.IsTuple l2 itsb.toArray from pb) λh' g5 g3 g4 g1 g2 kp=>wpAny_pyIter_zip g5 ?_
  exact ⟨_,[_,_,_,_,_],_,_,H1,rfl,I1.kept (t':=s1.toks) kp,Zji _ _ _ _ _ l1 l2 (Zds s1.heap.objs.size l1 l2 lt1 lt2),⟨g5,g3,⟨_,_,g4⟩,g1,g2⟩,λc hc=>I1.fpOk (big c hc) (I1.hok.fresh (big c hc)),q⟩
end
theorem Zjj {K:W.Frag} {a b:Addr} {xs zs:List V} {l:Addr} {g:TG} {tc:TT} {te:TE} {σ0:St} {H0:Hp} {Qf:Hp->Prop} (hlen:xs.length=zs.length) (Pv:Nat->List V->St->Hp->Prop) (h0:Pv 0 [] σ0 H0)
  (hl:∀ i ys σ' H',i<=xs.length->Pv i ys σ' H'->SqT K H' a xs/\SqT K H' b zs)
  (hs:∀ i x z t ys σ' H',i<xs.length->xs[i]?=some x->zs[i]?=some z->ys.length<=i->Pv i ys σ' H'->H' t=none->g (.ref t) σ' (upd H' t (.tup [x,z])) λσ2 H3=>tc σ2 H3 λb H4=>if b=true then te σ2 H4 λy H5=>CNx xs.length l Pv i ys σ2 y H5 else CNo xs.length Pv i ys σ2 H4)
  (hd:∀ ys σ' H',ys.length<=xs.length->Pv xs.length ys σ' H'->Qf H') :
  ∃ W:Nat->Nat->List V->St->Hp->Prop,(∃ m,W 0 m [] σ0 H0)/\∀ i m ys σ' H',W i m ys σ' H' ->
  ((Itzt K a b).stop i H'/\Qf H')\/((Itzt K a b).go i H'/\∀ x H2,(Itzt K a b).yld i H' x H2->g x σ' H2 λσ2 H3=>tc σ2 H3 λb H4 =>
    if b=true then te σ2 H4 λy H5=>H5 l=some (.lst ys)/\ys.length<sizeLine/\∃ m',m'<m/\W (i+1) m' (ys++[y]) σ2 (upd H5 l (.lst (ys++[y])))
    else ∃ m',m'<m/\W (i+1) m' ys σ2 H4):=by
 refine ⟨λi m ys σ' H'=>m=xs.length - i/\i<=xs.length/\ys.length<=i/\Pv i ys σ' H',⟨xs.length,rfl,Nat.zero_le _,Nat.le_refl _,h0⟩,?_⟩
 rintro i m ys σ' H' ⟨rfl,hi,hy,p⟩
 obtain ⟨qa,qb⟩:=hl i ys σ' H' hi p
 by_cases hlt:i<xs.length
 .have hlt':i<zs.length:=by omega
  refine .inr ⟨⟨xs,zs,xs[i],zs[i],qa,qb,by simp [hlt],by simp [hlt']⟩,λx H2 zq=>?_⟩
  obtain ⟨t,u,v,ht,rfl,rfl,z1,z2⟩:=zq
  exact hs i u v t ys σ' H' hlt (z1 xs qa) (z2 zs qb) hy p ht
 .have e:i=xs.length:=by omega
  subst e
  exact .inl ⟨⟨xs,qa,⟨zs,qb⟩,Nat.le_refl _⟩,hd ys σ' H' hy p⟩
section
variable {X:Cx} {K:W.Frag} {tg:PySem.Expr}
theorem Zaf (hK:X.K=K) {l:PySem.Expr} {tl:TE} (hl:PE X l tl):PI X tg l (iList K tl):=hK ▸ Zmf hl
end
section
variable {X:Cx} {K:W.Frag}
theorem hu_to {A:Around} {k:Nat} (hr:Room k A) (n:Nat) (h:n<=60):A.units+1+n<cLine:=by have:=hr.units; omega
end
section
variable {X:Cx}
theorem Zjk (hc:X.calm=true):CallR X (.builtin "any") (λxs H Q=>∃ (p:Addr) (bs:List Bool),xs=[.ref p]/\SqL X.K H p (bs.map V.bl)/\Q (.bl (bs.any id)) H):=by
 intro pins s σ H xs us Q I r h
 obtain ⟨p,bs,rfl,hq,q⟩:=h
 obtain ⟨u,rfl,rx⟩:=vals1 r
 cases rx
 obtain ⟨its,rv,pl,hz⟩:=I.list hq
 have e:=Zdw rv
 subst e
 refine call_any_walk (wpAny_pyIter_list pl.isList ?_)
 refine ⟨s.heap.objs.size,_,[s.heap.objs.size],_,_,_,λi=>bs.getD i true,rfl,Walks.list (A:=X.A.in1) (show X.A.in1.handled=none from I.ok.hd hc) s.heap.objs.size p ?_ (bs.map Value.bool).toArray,⟨⟨_,Heap.get?_push_size _ rfl,rfl,rfl⟩,pl.isList.at λo e=>Heap.get?_push_of_some _ e⟩,?_,?_⟩
 .obtain ⟨o,e,_⟩:=pl.isList; exact Nat.ne_of_lt (Heap.lt_size e)
 .intro i v s' Q' E' hP hQ
  have hP':(bs.map Value.bool)[i]?=some v:=by simpa using hP
  rw [getElem?_map] at hP'
  cases z:bs[i]? with
  | none=>rw [z] at hP'; cases hP'
  | some b =>
   rw [z] at hP'
   cases hP'
   have:bs.getD i true=b:=by rw [getD_eq_getElem?_getD,z]; rfl
   have hQ':Q' (bs.getD i true) s':=hQ
   rw [this] at hQ'
   exact wpAny_truthy_bool hQ'
 .intro h' tk hk
  refine ⟨.bl (bs.any id),H,I.kept (t':=tk) (λb o e=>hk b o (by simpa using Nat.ne_of_lt (Heap.lt_size e)) (Heap.get?_push_of_some _ e)),?_,q⟩
  have z:(List.range bs.length).map (λi=>bs.getD i true)=bs:=Zef _ λi b e=>by rw [getD_eq_getElem?_getD,e]; rfl
  have z2:(List.range bs.length).any (λi=>bs.getD i true)=bs.any id:=by
   conv=>rhs; rw [← z]
   rw [any_map]; rfl
  show Value.bool _=Value.bool _
  have z3:(bs.map Value.bool).toArray.size=bs.length:=by simp
  rw [z3,z2]
end
section
variable {X:Cx} {K:W.Frag}
def pickV (xs:List V) (lo hi st:Option Int):List V:=(sliceRange (sliceBounds lo hi st xs.length).1 (sliceBounds lo hi st xs.length).2.1 (sliceBounds lo hi st xs.length).2.2).filterMap (xs[·]?)
theorem Zdz {xs:List V} {us:List Value} (r:Vals xs us):∀ l:List Nat,Vals (l.filterMap (xs[·]?)) (l.filterMap (us[·]?))
 | []=>.nil
 | i :: l=>by
  rw [List.filterMap_cons,List.filterMap_cons]
  cases e:xs[i]? with
  | none=>rw [r.none_of e]; exact Zdz r l
  | some x =>
   obtain ⟨u,hu,ru⟩:=r.get e
   rw [hu]
   exact .cons ru (Zdz r l)
def tSl3 (K:W.Frag) (te:TE) (tl th ts:TO):TE:=λσ H Q=>te σ H λx H1=>tl σ H1 λl H2=>th σ H2 λu H3=>ts σ H3 λst H4=>∃ a xs,x=.ref a/\SqL K H4 a xs/\st≠some 0/\(pickV xs l u st).length<=sizeLine/\∀ p,H4 p=none->Q (.ref p) (upd H4 p (.lst (pickV xs l u st)))
theorem ZfG {e:PySem.Expr} {te:TE} {lo hi:Option PySem.Expr} {st:PySem.Expr} {tl th ts:TO} {p2 pos:Pos} (hK:X.K=K) (he:PE X e te) (hl:PO X lo tl) (hu:PO X hi th) (hst:PO X (some st) ts):PE X (.Subscript e (.Slice lo hi (some st) p2) pos) (tSl3 K te tl th ts):=by
 subst hK
 intro pins s σ H Q I h
 refine Subscript_ (thn (he pins s σ H _ I h) λv s1 ⟨x,H1,I1,r1,q1⟩=>?_)
 refine wpAny_Slice (thn (hl pins s1 σ H1 _ I1 q1) λvl s2 ⟨l,H2,I2,pl,q2⟩=>thn (hu pins s2 σ H2 _ I2 q2) λvu s3 ⟨u,H3,I3,pu,q3⟩=>thn (hst pins s3 σ H3 _ I3 q3) λvs s4 ⟨so,H4,I4,ps,q4⟩=>?_)
 obtain ⟨a,xs,rfl,hx,h0,hz,q⟩:=q4
 cases r1
 have I5:Inv X pins σ H4 { s4 with heap:=s4.heap.push { cls:=.type "slice",data:=.fields #[vl,vu,vs] } }:=I4.kept (t':=s4.toks) λb ob q=>Heap.get?_push_of_some _ q
 obtain ⟨its,r,ht,hzz⟩:=I5.list hx
 have hlen:=r.length
 show wpAny (model X.prog X.w) X.A (subscriptTail e (.Slice lo hi (some st) p2) (.ref a) (.ref s4.heap.objs.size)) (EP X pins σ Q) X.xe { s4 with heap:=s4.heap.push { cls:=.type "slice",data:=.fields #[vl,vu,vs] } }
 refine tail_any (ops:=[.ref a,.ref s4.heap.objs.size]) ht.isList.typeIs slot_list_getitem.lookup (wpAny_getItem_list_slice ht.isList (Heap.IsSliceOf.new ..) pl pu ps h0 ?_ (by rw [List.size_toArray] <;> omega)) (by with_unfolding_all rfl)
 refine ⟨.ref _,_,I5.laid (t':=s4.toks) (o:=.lst (pickV xs l u so)) (λb ob q=>Heap.get?_push_of_some _ q) (Nat.le_refl _) ?_,rfl,q _ (I5.hok.fresh (Nat.le_refl _))⟩
 refine ⟨hz,_,0,Zdz r (sliceRange (sliceBounds l u so xs.length).1 (sliceBounds l u so xs.length).2.1 (sliceBounds l u so xs.length).2.2),?_⟩
 have e2:slicePick its.toArray l u so=((sliceRange (sliceBounds l u so xs.length).1 (sliceBounds l u so xs.length).2.1 (sliceBounds l u so xs.length).2.2).filterMap (its[·]?)).toArray:=by
  unfold slicePick
  rw [List.size_toArray,← hlen]
  congr 1
  refine congrArg (λf=>List.filterMap f _) ?_
  funext i
  simp
 rw [e2]
 exact Heap.get?_push_size _ rfl
end
def ItDn (hi:Int) (n:Nat):It:=⟨λi _=>i<n,λi H x H'=>H'=H/\x=.int (hi - i),λi _=>n<=i⟩
theorem Zjl {P:Program} {w:World} {K:W.Frag} {tg:PySem.Expr} (it:Addr) (lo:Int) (n:Nat):Turn P w K tg (ItDn lo n) [it] it (λi h=>IsRangeIter h it (lo+(i:Nat) * (-1)) ((n:Int) - (i:Nat)) (-1)) where
 mem:=by simp
 obj:=λi h st b hb=>by
  have e:b=it:=by simpa using hb
  subst e
  exact ⟨_,st,λv z=>by
   have z':Data.fields _=Data.cell v:=z
   cases z'⟩
 keep:=λi h h' st k=>k it (by simp) _ st
 item:=by
  intro X hP hw hK hc i pins s σ H E I hf st hg
  subst hP hw hK
  obtain ⟨f0,f1,f2,f3,f4,f5⟩:=hf it (by simp)
  have W:=Walks.range (prog:=X.prog) (w:=X.w) (I.ok.hd hc) it lo (-1) n
  refine W.item i s _ _ hg st λv h' tk hv st' kk=>?_
  obtain ⟨t,rfl⟩:=hv
  have I1:Inv X pins σ H { s with heap:=h',toks:=tk }:=I.turned (λb o hb e=>kk b o (by simpa using hb) e) f0 f1 f3 f4 f5
  refine ⟨_,rfl,go_of (s:={ s with heap:=h',toks:=tk }) (n := "range_iterator") st' rfl rfl (by decide) ⟨.int (lo - i),H,I1,⟨t,?_⟩,⟨rfl,rfl⟩,st',λb hb=>(hf b hb).1⟩⟩
  rw [show lo+(i:Int) * (-1)=lo - i by omega]
 done:=by
  intro X hP hw hK hc i pins s σ H E I hf st hg
  subst hP hw hK
  obtain ⟨f0,f1,f2,f3,f4,f5⟩:=hf it (by simp)
  exact wpAny_pyNext_range_end (I.ok.hd hc) st (by have:n<=i:=hg; omega) λh' eb=>⟨rfl,I.turned (t':=s.toks) (λb o hb e=>eb b o hb e) f0 f1 f3 f4 f5⟩
 self:=λ_ _ _ _ _ st h=>wpAny_pyIter_rangeiter st h
section
variable {X:Cx} {tg:PySem.Expr}
theorem Zjm {pins:List (Addr×Obj)} {σ:St} {H:Hp} {s:Shared} {R:It->Hp->Prop} {E:Value->Shared->Prop} {lo hi:Int} {t u v:Tok} {tk:Nat} (I:Inv X pins σ H s) (h1 : -(2 ^ 62)<=lo) (h2:lo<2 ^ 62) (h3 : -(2 ^ 62)<=hi) (h4:hi<2 ^ 62)
  (q:R (ItDn lo (lo - hi).toNat) H):wpAny (model X.prog X.w) X.A (pyIter (.ref s.heap.objs.size)) (PIE X pins σ tg R) E { s with heap:=s.heap.push { cls:=.type "range",data:=.fields #[.int lo t,.int hi u,.int (-1) v] },toks:=tk }:=by
 refine wpAny_pyIter_range (IsRange.new ..) (W.small_down h1 h2 h3 h4) ?_
 have I1:Inv X pins σ H { s with heap:=s.heap.push { cls:=.type "range",data:=.fields #[.int lo t,.int hi u,.int (-1) v] },toks:=tk }:=I.kept λb o e=>Heap.get?_push_of_some _ e
 refine ⟨(s.heap.push { cls:=.type "range",data:=.fields #[.int lo t,.int hi u,.int (-1) v] }).objs.size,[(s.heap.push { cls:=.type "range",data:=.fields #[.int lo t,.int hi u,.int (-1) v] }).objs.size],_,_,H,rfl,
  I1.kept (t':=tk) λb o e=>Heap.get?_push_of_some _ e,Zjl _ lo (lo - hi).toNat,?_,λb hb=>?_,q⟩
 .have e1:lo+((0:Nat):Int) * (-1)=lo:=by simp
  have e2:(((lo - hi).toNat:Nat):Int) - ((0:Nat):Int)=Builtin.Range.rangeSize lo hi (-1):=by rw [W.rangeSize_downNat]; omega
  show IsRangeIter _ _ (lo+((0:Nat):Int) * (-1)) ((((lo - hi).toNat:Nat):Int) - ((0:Nat):Int)) (-1)
  rw [e1,e2]
  exact Heap.get?_push_size _ rfl
 .have e:b=(s.heap.push { cls:=.type "range",data:=.fields #[.int lo t,.int hi u,.int (-1) v] }).objs.size:=by simpa using hb
  subst e
  exact I1.fpOk (Nat.le_refl _) (I1.hok.fresh (Nat.le_refl _))
def iRngD (ta:TA):TI:=λσ H R=>ta σ H λvs H1=>∃ i j:Int,vs=[.int i,.int j,.int (-1)]/\(-(2 ^ 61)<=i/\i<2 ^ 61 /\ -(2 ^ 61)<=j/\j<2 ^ 61)/\R (ItDn i (i - j).toNat) H1
theorem ZfH {a b c:PySem.Expr} {ta:TA} {p pos:Pos} (hg:Gl X "range") (hm:X.mg "range" = none) (ha:PA X [a,b,c] ta) (hs:starEach [a,b,c] X.env=(false,eval a X.env) :: starEach [b,c] X.env:=by rfl) (hpl:(backTo pos (starEach [b,c] X.env)).any (·.1)=false:=by rfl) :
  PI X tg (.Call (.Name "range" p) [a,b,c] [] pos) (iRngD ta):=by
 intro pins s σ H R I h
 refine Call_ (ZbZ I hg hm boot_range (PyProof.Rows.callWith_type1 (thn (ha pos pins s σ H _ I h) λus s1 ⟨vs,H1,I1,r1,q1⟩=>?_) hs hpl))
 obtain ⟨i,j,e,⟨q1,q2,q3,q4⟩,q⟩:=q1
 subst e
 cases r1 with
 | cons r rr =>
  cases rr with
  | cons r' rr =>
   cases rr with
   | cons r'' rr =>
    cases rr
    obtain ⟨t,rfl⟩:=r
    obtain ⟨t',rfl⟩:=r'
    obtain ⟨t'',rfl⟩:=r''
    exact call_range_3 (by decide) (Zjm I1 (by omega) (by omega) (by omega) (by omega) q) (.inl (PyProof.noPylong_small (by omega)))
end
theorem Znr {H:Hp} {a:Addr} {o:HO} (h:H a=some o):upd H a o=H:=by
 funext b
 by_cases e:b=a
 .rw [e,Za,h]
 .rw [Ze e]
theorem Zhn {hi:Int} {n:Nat} {g:TG} {tb:TS} {D:Ends} {σ:St} {H:Hp} (Pv:Nat->St->Hp->Prop) (h0:Pv 0 σ H)
  (hs:∀ i σ H,i<n->Pv i σ H->g (.int (hi - i)) σ H λσ2 H2=>tb { D with nx:=Pv (i+1),ct:=Pv (i+1),bk:=D.nx } σ2 H2) (hd:∀ σ H,Pv n σ H->D.nx σ H) :
  ∃ W:Nat->Nat->St->Hp->Prop,(∃ m,W 0 m σ H)/\∀ i m σ H,W i m σ H ->
   ((ItDn hi n).stop i H/\D.nx σ H)\/((ItDn hi n).go i H/\∃ N:St->Hp->Prop,(∀ σ' H',N σ' H'->∃ m',m'<m/\W (i+1) m' σ' H')/\∀ x H',(ItDn hi n).yld i H x H'->g x σ H' λσ2 H2=>tb { D with nx:=N,ct:=N,bk:=D.nx } σ2 H2):=by
 refine ⟨λi m σ H=>m=n - i/\i<=n/\Pv i σ H,⟨n,by simp,Nat.zero_le _,h0⟩,?_⟩
 rintro i m σ H ⟨rfl,hi,p⟩
 by_cases hlt:i<n
 .refine .inr ⟨hlt,Pv (i+1),λσ' H' p'=>⟨n - (i+1),by omega,rfl,hlt,p'⟩,λx H' y=>?_⟩
  obtain ⟨e,y⟩:=y
  subst e y
  exact hs i σ _ hlt p
 .have e:i=n:=by omega
  subst e
  exact .inl ⟨Nat.le_refl _,hd σ H p⟩
theorem Zbf (xs:List V):∀ n,n<=xs.length->((List.range n).map λi=>n - 1 - i).filterMap (xs[·]?)=(xs.take n).reverse
 | 0,_=>by simp
 | n+1,h=>by
  have hn:n<xs.length:=h
  have ih:=Zbf xs n (by omega)
  rw [List.range_succ_eq_map,map_cons,map_map,List.filterMap_cons]
  have e0:n+1 - 1 - 0=n:=by omega
  rw [e0,getElem?_eq_getElem hn]
  have e1:(List.range n).map ((λi=>n+1 - 1 - i) ∘ Nat.succ)=(List.range n).map λi=>n - 1 - i:=by
   refine map_congr_left λi _=>?_
   show n+1 - 1 - (i+1)=n - 1 - i
   omega
  rw [e1,ih,take_succ,getElem?_eq_getElem hn,List.reverse_append]
  rfl
theorem Zcf (xs:List V):pickV xs none none (some (-1))=xs.reverse:=by
 have h:=Zbf xs xs.length (Nat.le_refl _)
 rw [take_length] at h
 rw [← h,← W.krv_sliceRange]
 rfl
theorem Zjn {K:W.Frag} {a b:Addr} {xs ys:List V} {g:TG} {tb:TS} {D:Ends} {σ:St} {H:Hp} (Pv:Nat->St->Hp->Prop) (hlen:xs.length=ys.length) (h0:Pv 0 σ H) (hl:∀ i σ H,i<=xs.length->Pv i σ H->SqL K H a xs/\SqL K H b ys)
  (hs:∀ i x y t σ H,xs[i]?=some x->ys[i]?=some y->Pv i σ H->H t=none->g (.ref t) σ (upd H t (.tup [x,y])) λσ2 H2=>tb { D with nx:=Pv (i+1),ct:=Pv (i+1),bk:=D.nx } σ2 H2) (hd:∀ σ H,Pv xs.length σ H->D.nx σ H) :
  ∃ W:Nat->Nat->St->Hp->Prop,(∃ m,W 0 m σ H)/\∀ i m σ H,W i m σ H ->
   ((Itz K a b).stop i H/\D.nx σ H)\/((Itz K a b).go i H/\∃ N:St->Hp->Prop,(∀ σ' H',N σ' H'->∃ m',m'<m/\W (i+1) m' σ' H')/\∀ x H',(Itz K a b).yld i H x H'->g x σ H' λσ2 H2=>tb { D with nx:=N,ct:=N,bk:=D.nx } σ2 H2):=by
 refine ⟨λi m σ H=>m=xs.length - i/\i<=xs.length/\Pv i σ H,⟨xs.length,by simp,Nat.zero_le _,h0⟩,?_⟩
 rintro i m σ H ⟨rfl,hi,p⟩
 obtain ⟨q1,q2⟩:=hl i σ H hi p
 by_cases hlt:i<xs.length
 .have hlt2:i<ys.length:=hlen ▸ hlt
  refine .inr ⟨⟨xs,ys,xs[i],ys[i],q1,q2,by simp [hlt],by simp [hlt2]⟩,Pv (i+1),λσ' H' p'=>⟨xs.length - (i+1),by omega,rfl,hlt,p'⟩,λx H' y=>?_⟩
  obtain ⟨t,x1,y1,ht,rfl,rfl,hx,hy⟩:=y
  exact hs i x1 y1 t σ _ (hx xs q1) (hy ys q2) p ht
 .have e:i=xs.length:=by omega
  subst e
  exact .inl ⟨⟨xs,ys,q1,q2,.inl (Nat.le_refl _)⟩,hd σ H p⟩
end L2
namespace L2.Stb
open PySem PySem.Spec PyProof.Rows
def Rk (ρ:Keyed->Nat) (xs:Array Keyed) (i:Nat):Nat:=(xs[i]?).elim 0 ρ
theorem Zcg {ρ:Keyed->Nat} {xs ys:Array Keyed} {i j:Nat} (h:xs[i]?=ys[j]?):Rk ρ xs i=Rk ρ ys j:=by unfold Rk; rw [h]
def VLt (ρ:Keyed->Nat) (xs:Array Keyed) (i j:Nat):Prop:=K xs i<K xs j\/(K xs i=K xs j/\Rk ρ xs i<Rk ρ xs j)
theorem VLt.trans {ρ:Keyed->Nat} {xs:Array Keyed} {i j k:Nat} (h1:VLt ρ xs i j) (h2:VLt ρ xs j k):VLt ρ xs i k:=by
 unfold VLt at *
 omega
def Inc (ρ:Keyed->Nat) (xs:Array Keyed) (n:Nat):Prop:=∀ i j,i<j->j<n->VLt ρ xs i j
def Dec (ρ:Keyed->Nat) (xs:Array Keyed) (n:Nat):Prop:=∀ i j,i<j->j<n->VLt ρ xs j i
def Idn (ρ:Keyed->Nat) (xs:Array Keyed) (n:Nat):Prop:=∀ i,n<=i->i<xs.size->Rk ρ xs i=i
theorem Idn.mono {ρ:Keyed->Nat} {xs:Array Keyed} {m n:Nat} (h:Idn ρ xs m) (l:m<=n):Idn ρ xs n:=λi hi hs=>h i (Nat.le_trans l hi) hs
theorem Zho {ρ:Keyed->Nat} {xs:Array Keyed} {i:Nat} (h:i<xs.size):(xs.toList.map ρ)[i]?=some (Rk ρ xs i):=by
 unfold Rk
 rw [getElem?_map,Array.getElem?_toList,Array.getElem?_eq_getElem h]
 rfl
structure Inj (ρ:Keyed->Nat) (xs:Array Keyed):Prop where
 inj:∀ i j,i<xs.size->j<xs.size->Rk ρ xs i=Rk ρ xs j->i=j
 lt:∀ i,i<xs.size->Rk ρ xs i<xs.size
theorem Zns {ρ:Keyed->Nat} {xs a₀:Array Keyed} (p:xs.Perm a₀) (h0:Idn ρ a₀ 0):Inj ρ xs:=by
 have e0:a₀.toList.map ρ=List.range a₀.size:=by
  apply List.ext_getElem?
  intro i
  by_cases h:i<a₀.size
  .rw [Zho h,getElem?_range h,h0 i (Nat.zero_le _) h]
  .rw [getElem?_eq_none (by simpa using h),getElem?_eq_none (by simpa using h)]
 have pm:(xs.toList.map ρ).Perm (List.range a₀.size):=by rw [← e0]; exact (Array.perm_iff_toList_perm.mp p).map ρ
 have nd:(xs.toList.map ρ).Nodup:=pm.nodup_iff.mpr List.nodup_range
 refine ⟨λi j hi hj e=>?_,λi hi=>?_⟩
 .refine (List.getElem?_inj (by rw [length_map,Array.length_toList]; exact hi) nd).mp ?_
  rw [Zho hi,Zho hj,e]
 .have m:Rk ρ xs i∈xs.toList.map ρ:=mem_of_getElem? (Zho hi)
  have:=List.mem_range.mp (pm.mem_iff.mp m)
  rw [p.size_eq]
  exact this
theorem Inj.below {ρ:Keyed->Nat} {xs:Array Keyed} (I:Inj ρ xs) {n:Nat} (h:Idn ρ xs n) {i:Nat} (hi:i<n) (hs:i<xs.size):Rk ρ xs i<n:=by
 by_cases c:Rk ρ xs i<n
 .exact c
 .have l:=I.lt i hs
  have e:=h (Rk ρ xs i) (by omega) l
  have:=I.inj _ _ l hs e
  omega
theorem ZdA {ρ:Keyed->Nat} {xs:Array Keyed} {src d:Nat} (hs:src<xs.size) (hd:d<=src) (k:Nat) :
  Rk ρ (bubble xs src d) k=if k=src - d then Rk ρ xs src else if src - d<k/\k<=src then Rk ρ xs (k - 1) else Rk ρ xs k:=by
 have e:=getElem?_bubble hs d hd k
 by_cases h1:k=src - d
 .rw [if_pos h1] at e ⊢
  exact Zcg e
 .rw [if_neg h1] at e ⊢
  by_cases h2:src - d<k/\k<=src
  .rw [if_pos h2] at e ⊢
   exact Zcg e
  .rw [if_neg h2] at e ⊢
   exact Zcg e
theorem ZaF {ρ:Keyed->Nat} {xs:Array Keyed} {i j:Nat} (hj:j<=xs.size) (k:Nat) :
  Rk ρ (mirror xs i j ((j - i) / 2)) k=if i<=k/\k<j then Rk ρ xs (i+j - 1 - k) else Rk ρ xs k:=by
 have e:=getElem?_mirror_all (i:=i) hj k
 by_cases h1:i<=k/\k<j
 .rw [if_pos h1] at e ⊢
  exact Zcg e
 .rw [if_neg h1] at e ⊢
  exact Zcg e
section
variable {prog:Program} {w:World} {A:Around} {E:Value->Shared->Prop} {s:Shared} {a₀:Array Keyed} {ρ:Keyed->Nat}
theorem SB.inj {st:SortSt} (h:SBase a₀ st) (hr:Idn ρ a₀ 0):Inj ρ (arrOf st):=Zns h.perm hr
theorem Znt {st:SortSt} {n ok:Nat} {Q:Bool->SortSt->Prop} (h0:IntKeys a₀) (hr:Idn ρ a₀ 0) (hn:n<=a₀.size) (hok:ok<=n) (h1k:1<=ok) (hB:SBase a₀ st) (hs:Inc ρ (arrOf st) ok) (hI:Idn ρ (arrOf st) ok)
  (h:∀ st',SBase a₀ st'->Inc ρ (arrOf st') n->Q true st'):wpS (model prog w) A E s (binarySort' 0 n ok) Q st:=by
 rw [binarySort'_eq]
 simp only [Nat.zero_add]
 refine wpS_bind (wpS_mono (wpS_forRange (I:=λk c st1=>c=(none,())/\SBase a₀ st1/\Inc ρ (arrOf st1) (min k n)/\Idn ρ (arrOf st1) (min k n))
  (Q:=λc st1=>c=(none,())/\SBase a₀ st1/\Inc ρ (arrOf st1) n) ?turn ?last ?first) ?after)
 case after =>
  rintro c st1 ⟨rfl,b1,i1⟩
  exact wpS_pure (h st1 b1 i1)
 case first =>
  rw [show min (max ok 1) n=ok by omega]
  exact ⟨rfl,hB,hs,hI⟩
 case last =>
  rintro c st1 ⟨hc,b1,i1,_⟩
  rw [show min (max (max ok 1) n) n=n by omega] at i1
  exact ⟨hc,b1,i1⟩
 case turn =>
  rintro k c st1 hak hkn ⟨rfl,b1,i1,d1⟩
  rw [show min k n=k by omega] at i1 d1
  have hk:k<a₀.size:=by omega
  have sz:=b1.size
  have J:=SB.inj b1 hr
  have rk:Rk ρ (arrOf st1) k=k:=d1 k (Nat.le_refl _) (by omega)
  have lo:∀ m,m<k->¬ K (arrOf st1) k<K (arrOf st1) m->VLt ρ (arrOf st1) m k:=λm hm c=>by
   have:=J.below d1 hm (by omega)
   unfold VLt
   omega
  refine wpS_bind (wpS_mono (wpS_forRange (I:=λx c st2=>st2=st1/\∃ l r,c=(none,l,r)/\l<=r/\r<=k/\r - l<=k - x/\(∀ i,i<l->VLt ρ (arrOf st1) i k)/\(∀ i,r<=i->i<k->VLt ρ (arrOf st1) k i))
   (Q:=λc st2=>st2=st1/\∃ l r,c=(none,l,r)/\l<=k/\(∀ i,i<l->VLt ρ (arrOf st1) i k)/\(∀ i,l<=i->i<k->VLt ρ (arrOf st1) k i)) ?iturn ?ilast ?ifirst) ?iafter)
  case ifirst=>exact ⟨rfl,0,k,rfl,by omega,by omega,by omega,λi hi=>absurd hi (by omega),λi p q=>absurd q (by omega)⟩
  case ilast =>
   rintro c st2 ⟨rfl,l,r,rfl,hlr,hrk,hm,u1,u2⟩
   have e:l=r:=by omega
   subst e
   exact ⟨rfl,l,l,rfl,hrk,u1,u2⟩
  case iturn =>
   rintro x c st2 _ hxk ⟨rfl,l,r,rfl,hlr,hrk,hm,u1,u2⟩
   dsimp only
   by_cases hge:l ≥ r
   .rw [if_pos hge]
    have e:l=r:=by omega
    subst e
    exact wpS_pure ⟨rfl,l,l,rfl,hrk,u1,u2⟩
   .rw [if_neg hge]
    refine wpS_bind (wpS_ltK b1 h0 hk (by omega) ?_)
    by_cases c:K (arrOf st2) k<K (arrOf st2) ((l+r) / 2)
    .simp only [c,decide_true,if_true]
     refine wpS_pure ⟨rfl,l,(l+r) / 2,rfl,by omega,by omega,by omega,u1,λi p q=>?_⟩
     by_cases e:i=(l+r) / 2
     .subst e; exact .inl c
     .exact VLt.trans (.inl c) (i1 _ _ (by omega) q)
    .simp only [c,decide_false,Bool.false_eq_true,if_false]
     refine wpS_pure ⟨rfl,(l+r) / 2+1,r,rfl,by omega,by omega,by omega,λi p=>?_,u2⟩
     have v:=lo _ (by omega) c
     by_cases e:i=(l+r) / 2
     .subst e; exact v
     .exact VLt.trans (i1 _ _ (by omega) (by omega)) v
  case iafter =>
   rintro c st2 ⟨rfl,l,r,rfl,hlk,u1,u2⟩
   show wpS _ _ _ _ (do moveDown' k l; pure (ForInStep.yield (none,()))) _ _
   rw [moveDown'_eq]
   refine wpS_bind (wpS_modify (wpS_pure ⟨rfl,b1.setArr (bubble_perm _ _ _),?_,?_⟩))
   .rw [show min (k+1) n=k+1 by omega]
    have hks:k<(arrOf st2).size:=by omega
    intro i j hij hj
    show VLt ρ (bubble (arrOf st2) k (k - l)) i j
    unfold VLt
    rw [K_bubble hks (by omega),K_bubble hks (by omega),ZdA hks (by omega),ZdA hks (by omega),show k - (k - l)=l by omega]
    by_cases a1:i=l
    .have b1':¬ j=l:=by omega
     have b2':l<j/\j<=k:=by omega
     rw [if_pos a1,if_pos a1,if_neg b1',if_neg b1',if_pos b2',if_pos b2']
     exact u2 _ (by omega) (by omega)
    .rw [if_neg a1,if_neg a1]
     by_cases a2:j=l
     .have b1':¬ (l<i/\i<=k):=by omega
      rw [if_pos a2,if_pos a2,if_neg b1',if_neg b1']
      exact u1 _ (by omega)
     .rw [if_neg a2,if_neg a2]
      by_cases a3:l<i/\i<=k
      .have b1':l<j/\j<=k:=by omega
       rw [if_pos a3,if_pos a3,if_pos b1',if_pos b1']
       exact i1 _ _ (by omega) (by omega)
      .rw [if_neg a3,if_neg a3]
       by_cases a4:l<j/\j<=k
       .rw [if_pos a4,if_pos a4]
        by_cases a5:i<j - 1
        .exact i1 _ _ a5 (by omega)
        .exfalso; omega
       .rw [if_neg a4,if_neg a4]
        exact i1 _ _ (by omega) (by omega)
   .rw [show min (k+1) n=k+1 by omega]
    intro i hi hs'
    have hs2:i<(arrOf st2).size:=by
     have:(arrOf (setArr st2 (bubble (arrOf st2) k (k - l)))).size=(arrOf st2).size:=bubble_size _ _ _
     omega
    show Rk ρ (bubble (arrOf st2) k (k - l)) i=i
    rw [ZdA (by omega) (by omega),if_neg (by omega),if_neg (by omega)]
    exact d1 i (by omega) hs2
theorem ZlJ {st:SortSt} {a nrem:Nat} {Q:AscSt->SortSt->Prop} (h0:IntKeys a₀) (hr:Idn ρ a₀ 0) (hn:nrem<=a₀.size) (ha:1<=a) (han:a<=nrem) (hB:SBase a₀ st) (hs:Inc ρ (arrOf st) a) (hI:Idn ρ (arrOf st) a)
  (h:∀ n,a<=n->n<=nrem->Inc ρ (arrOf st) n->(n=nrem\/K (arrOf st) n<K (arrOf st) (n - 1))->Q (none,n) st):wpS (model prog w) A E s (ascLoop a nrem) Q st:=by
 unfold ascLoop
 have sz:=hB.size
 have J:=SB.inj hB hr
 refine wpS_forRange (I:=λx c st1=>st1=st/\c=(none,x)/\Inc ρ (arrOf st) x) ?turn ?last ⟨rfl,rfl,hs⟩
 case last =>
  rintro c st1 ⟨rfl,rfl,i1⟩
  rw [show max a nrem=nrem by omega] at i1 ⊢
  exact h nrem han (Nat.le_refl _) i1 (.inl rfl)
 case turn =>
  rintro x c st1 hax hxn ⟨rfl,rfl,i1⟩
  dsimp only
  refine wpS_bind (wpS_ltK hB h0 (by omega) (by omega) ?_)
  by_cases c:K (arrOf st1) x<K (arrOf st1) (x - 1)
  .simp only [c,decide_true,if_true]
   exact wpS_pure (h x hax (by omega) i1 (.inr c))
  .simp only [c,decide_false,Bool.false_eq_true,if_false]
   refine wpS_pure ⟨rfl,rfl,λi j hij hj=>?_⟩
   by_cases hjx:j<x
   .exact i1 i j hij hjx
   .have ej:j=x:=by omega
    subst ej
    have dx:=hI.mono hax
    have r1:=J.below dx (i:=j - 1) (by omega) (by omega)
    have r2:=dx j (Nat.le_refl _) (by omega)
    have v:VLt ρ (arrOf st1) (j - 1) j:=by unfold VLt; omega
    by_cases e:i=j - 1
    .subst e; exact v
    .exact VLt.trans (i1 i (j - 1) (by omega) (by omega)) v
theorem Zjo {st:SortSt} {n nrem:Nat} {Q:Option Nat->SortSt->Prop} (h0:IntKeys a₀) (hr:Idn ρ a₀ 0) (hn:nrem<=a₀.size) (h1:1<=n) (hnn:n<=nrem) (hB:SBase a₀ st) (hs:Dec ρ (arrOf st) n) (hI:Idn ρ (arrOf st) n)
  (h:∀ m st',SBase a₀ st'->1<=m->m<=nrem->Inc ρ (arrOf st') m->Idn ρ (arrOf st') m->Q (some m) st'):wpS (model prog w) A E s (tail3 n nrem) Q st:=by
 unfold tail3
 have sz:=hB.size
 refine wpS_bind (wpS_reverse ?_)
 have b1:SBase a₀ (setArr st (mirror (arrOf st) 0 n ((n - 0) / 2))):=hB.setArr (mirror_perm _ _ _ _)
 have d1:Idn ρ (mirror (arrOf st) 0 n ((n - 0) / 2)) n:=λi hi hs'=>by
  rw [mirror_size] at hs'
  rw [ZaF (by omega),if_neg (by omega)]
  exact hI i hi hs'
 refine wpS_bind (ZlJ h0 hr hn h1 hnn b1 ?_ d1 λm m1 m2 i2 _=>wpS_pure (h m _ b1 (by omega) m2 i2 (d1.mono m1)))
 intro i j hij hj
 show VLt ρ (mirror (arrOf st) 0 n ((n - 0) / 2)) i j
 unfold VLt
 rw [K_mirror (by omega),K_mirror (by omega),ZaF (by omega),ZaF (by omega),if_pos (by omega),if_pos (by omega),if_pos (by omega),if_pos (by omega)]
 exact hs _ _ (by omega) (by omega)
structure DI (ρ:Keyed->Nat) (xs:Array Keyed) (x q:Nat):Prop where
 l:q+1<=x
 sz:x<=xs.size
 d:Dec ρ xs (x - (q+1))
 u:∀ i j,i<x - (q+1)->x - (q+1)<=j->j<x->K xs j<K xs i
 e:∀ i,x - (q+1)<=i->i<x->K xs i=K xs (x - 1)
 f:Idn ρ xs (x - (q+1))
theorem DI.dec0 {xs:Array Keyed} {x:Nat} (h:DI ρ xs x 0):Dec ρ xs x:=λi j hij hj=>by
 by_cases c:j<x - (0+1)
 .exact h.d i j hij c
 .exact .inl (h.u i j (by omega) (by omega) hj)
theorem DI.rev {xs:Array Keyed} {x q:Nat} (h:DI ρ xs x q):Dec ρ (mirror xs (x - (q+1)) x ((x - (x - (q+1))) / 2)) x/\Idn ρ (mirror xs (x - (q+1)) x ((x - (x - (q+1))) / 2)) x:=by
 have hl:=h.l
 have hz:=h.sz
 refine ⟨λi j hij hj=>?_,λi hi hs=>?_⟩
 .have ke:=K_mirror_equal (i:=x - (q+1)) hz h.e
  unfold VLt
  rw [ke,ke,ZaF hz,ZaF hz]
  by_cases c1:j<x - (q+1)
  .rw [if_neg (by omega),if_neg (by omega)]
   exact h.d i j hij c1
  .by_cases c2:i<x - (q+1)
   .exact .inl (h.u i j c2 (by omega) hj)
   .rw [if_pos (by omega),if_pos (by omega)]
    refine .inr ⟨(h.e j (by omega) hj).trans (h.e i (by omega) (by omega)).symm,?_⟩
    rw [h.f _ (by omega) (by omega),h.f _ (by omega) (by omega)]
    omega
 .rw [mirror_size] at hs
  rw [ZaF hz,if_neg (by omega)]
  exact h.f i (by omega) hs
theorem DI.of {xs:Array Keyed} {x:Nat} (hx:1<=x) (hz:x<xs.size) (hd:Dec ρ xs x) (hf:Idn ρ xs x) (hk:K xs x<K xs (x - 1)):DI ρ xs (x+1) 0:=by
 refine ⟨by omega,by omega,hd,λi j hi hj hj'=>?_,λi hi hi'=>?_,hf⟩
 .have ej:j=x:=by omega
  subst ej
  by_cases e:i=j - 1
  .subst e; exact hk
  .have v:=hd i (j - 1) (by omega) (by omega)
   unfold VLt at v
   omega
 .have ei:i=x:=by omega
  subst ei
  rfl
theorem DI.more {xs:Array Keyed} {x q:Nat} (h:DI ρ xs x q) (hz:x<xs.size) (hk:K xs x=K xs (x - 1)):DI ρ xs (x+1) (q+1):=by
 have hl:=h.l
 have e0:x+1 - (q+1+1)=x - (q+1):=by omega
 refine ⟨by omega,by omega,by rw [e0]; exact h.d,λi j hi hj hj'=>?_,λi hi hi'=>?_,by rw [e0]; exact h.f⟩
 .rw [e0] at hi hj
  by_cases c:j<x
  .exact h.u i j hi hj c
  .have ej:j=x:=by omega
   subst ej
   rw [hk]
   exact h.u i (j - 1) hi (by omega) (by omega)
 .rw [show x+1 - 1=x by omega]
  by_cases c:i<x
  .rw [hk]; exact h.e i (by omega) c
  .have ei:i=x:=by omega
   subst ei
   rfl
theorem Zmx {st:SortSt} {n nrem:Nat} {Q:DescSt->SortSt->Prop} (h0:IntKeys a₀) (hn:nrem<=a₀.size) (hnn:n<=nrem) (hB:SBase a₀ st) (hs:DI ρ (arrOf st) n 0)
  (h:∀ m q st',SBase a₀ st'->m<=nrem->DI ρ (arrOf st') m q->Q (none,m,q) st'):wpS (model prog w) A E s (descLoop n nrem) Q st:=by
 unfold descLoop
 refine wpS_forRange (I:=λx c st1=>∃ q,c=(none,x,q)/\SBase a₀ st1/\DI ρ (arrOf st1) x q) ?turn ?last ⟨0,rfl,hB,hs⟩
 case last =>
  rintro c st1 ⟨q,rfl,b1,d1⟩
  rw [show max n nrem=nrem by omega] at d1 ⊢
  exact h nrem q st1 b1 (Nat.le_refl _) d1
 case turn =>
  rintro x c st1 hax hxn ⟨q,rfl,b1,d1⟩
  dsimp only
  have sz:=b1.size
  have hl:=d1.l
  refine wpS_bind (wpS_ltK b1 h0 (by omega) (by omega) ?_)
  by_cases c:K (arrOf st1) x<K (arrOf st1) (x - 1)
  .simp only [c,decide_true,if_true]
   by_cases hq:q > 0
   .rw [if_pos hq]
    obtain ⟨r1,r2⟩:=d1.rev
    refine wpS_bind (wpS_reverse (wpS_pure ⟨0,rfl,b1.setArr (mirror_perm _ _ _ _),DI.of (by omega) (by show x<(mirror _ _ _ _).size; rw [mirror_size]; omega) r1 r2 ?_⟩))
    show K (mirror _ _ _ _) x<K (mirror _ _ _ _) (x - 1)
    rw [K_mirror_equal d1.sz d1.e,K_mirror_equal d1.sz d1.e]
    exact c
   .rw [if_neg hq]
    have e:q=0:=by omega
    subst e
    exact wpS_pure ⟨0,rfl,b1,DI.of (by omega) (by omega) d1.dec0 (d1.f.mono (by omega)) c⟩
  .simp only [c,decide_false,Bool.false_eq_true,if_false]
   refine wpS_bind (wpS_ltK b1 h0 (by omega) (by omega) ?_)
   by_cases c2:K (arrOf st1) (x - 1)<K (arrOf st1) x
   .simp only [c2,decide_true,if_true]
    exact wpS_pure (h x q st1 b1 (by omega) d1)
   .simp only [c2,decide_false,Bool.false_eq_true,if_false]
    exact wpS_pure ⟨q+1,rfl,b1,d1.more (by omega) (by omega)⟩
theorem Zjp {st:SortSt} {n nrem:Nat} {Q:Option Nat->SortSt->Prop} (h0:IntKeys a₀) (hr:Idn ρ a₀ 0) (hn:nrem<=a₀.size) (hnn:n+1<=nrem) (hB:SBase a₀ st) (hs:DI ρ (arrOf st) (n+1) 0)
  (h:∀ m st',SBase a₀ st'->1<=m->m<=nrem->Inc ρ (arrOf st') m->Idn ρ (arrOf st') m->Q (some m) st'):wpS (model prog w) A E s (descPart n nrem) Q st:=by
 unfold descPart
 refine wpS_bind (wpS_lift (wpAny_rule ⟨rfl,?_⟩))
 refine wpS_bind (Zmx h0 hn hnn hB hs λm q st1 b1 m2 d1=>?_)
 dsimp only
 have hl:=d1.l
 by_cases hq:q > 0
 .rw [if_pos hq]
  obtain ⟨r1,r2⟩:=d1.rev
  exact wpS_bind (wpS_reverse (Zjo h0 hr hn (by omega) m2 (b1.setArr (mirror_perm _ _ _ _)) r1 r2 h))
 .rw [if_neg hq]
  have e:q=0:=by omega
  subst e
  exact Zjo h0 hr hn (by omega) m2 b1 d1.dec0 (d1.f.mono (by omega)) h
theorem ZkQ {st:SortSt} {nrem:Nat} {Q:Option Nat->SortSt->Prop} (h0:IntKeys a₀) (hr:Idn ρ a₀ 0) (hn:nrem<=a₀.size) (h1:1<=nrem) (hB:SBase a₀ st) (hI:Idn ρ (arrOf st) 0)
  (h:∀ m st',SBase a₀ st'->1<=m->m<=nrem->Inc ρ (arrOf st') m->Idn ρ (arrOf st') m->Q (some m) st'):wpS (model prog w) A E s (countRun' 0 nrem) Q st:=by
 rw [countRun0_eq]
 have sz:=hB.size
 refine wpS_bind (ZlJ h0 hr hn (Nat.le_refl 1) h1 hB (λi j hij hj=>absurd hj (by omega)) (hI.mono (Nat.zero_le _)) λn n1 n2 i1 hor=>?_)
 dsimp only
 by_cases e:n=nrem
 .rw [if_pos (by simpa using e)]
  exact wpS_pure (h n st hB n1 n2 i1 (hI.mono (Nat.zero_le _)))
 .rw [if_neg (by simpa using e)]
  have lt:K (arrOf st) n<K (arrOf st) (n - 1):=hor.resolve_left e
  by_cases g:n > 1
  .rw [if_pos g]
   refine wpS_bind (wpS_ltK hB h0 (by omega) (by omega) ?_)
   by_cases c:K (arrOf st) 0<K (arrOf st) (n - 1)
   .simp only [c,decide_true,if_true]
    exact wpS_pure (h n st hB n1 n2 i1 (hI.mono (Nat.zero_le _)))
   .simp only [c,decide_false,Bool.false_eq_true,if_false]
    have all:∀ k,0<=k->k<n->K (arrOf st) k=K (arrOf st) (n - 1):=by
     intro k _ hk
     have a1:k=0\/VLt ρ (arrOf st) 0 k:=by
      by_cases z:k=0
      .exact .inl z
      .exact .inr (i1 0 k (by omega) hk)
     have a2:k=n - 1\/VLt ρ (arrOf st) k (n - 1):=by
      by_cases z:k=n - 1
      .exact .inl z
      .exact .inr (i1 k (n - 1) (by omega) (by omega))
     have a3:=i1 0 (n - 1) (by omega) (by omega)
     unfold VLt at a1 a2 a3
     rcases a1 with a1 | a1
     .subst a1; omega
     .rcases a2 with a2 | a2
      .subst a2; rfl
      .omega
    have ke:=K_mirror_equal (xs:=arrOf st) (i:=0) (j:=n) (by omega) all
    refine wpS_bind (wpS_reverse (Zjp h0 hr hn (by omega) (hB.setArr (mirror_perm _ _ _ _)) (DI.of (by omega) (by show n<(mirror _ _ _ _).size; rw [mirror_size]; omega) (λi j hij hj=>?_) (λi hi hs=>?_) ?_) h))
    .show VLt ρ (mirror (arrOf st) 0 n ((n - 0) / 2)) j i
     unfold VLt
     rw [ke,ke,all i (by omega) (by omega),all j (by omega) hj,ZaF (by omega),ZaF (by omega),if_pos (by omega),if_pos (by omega),hI _ (by omega) (by omega),hI _ (by omega) (by omega)]
     omega
    .have hs':i<(mirror (arrOf st) 0 n ((n - 0) / 2)).size:=hs
     rw [mirror_size] at hs'
     show Rk ρ (mirror (arrOf st) 0 n ((n - 0) / 2)) i=i
     rw [ZaF (by omega),if_neg (by omega)]
     exact hI i (by omega) hs'
    .show K (mirror (arrOf st) 0 n ((n - 0) / 2)) n<K (mirror (arrOf st) 0 n ((n - 0) / 2)) (n - 1)
     rw [ke,ke]
     exact lt
  .rw [if_neg g]
   have en:n=1:=by omega
   subst en
   exact Zjp h0 hr hn (by omega) hB (DI.of (by omega) (by omega) (λi j hij hj=>absurd hj (by omega)) (hI.mono (Nat.zero_le _)) lt) h
def SEnd (ρ:Keyed->Nat) (a₀:Array Keyed) (st:SortSt):Prop:=(arrOf st).Perm a₀/\failedOf st=none/\pendingOf st=#[(0,a₀.size,0)]/\Inc ρ (arrOf st) a₀.size
theorem SEnd.of {st:SortSt} (hB:SBase a₀ st) (hs:Inc ρ (arrOf st) a₀.size):SEnd ρ a₀ (setPending st ((pendingOf st).push (0,a₀.size,0))) :=
 ⟨hB.perm,hB.failed,by show (pendingOf st).push _=_; rw [hB.pend]; rfl,hs⟩
theorem Zmy {st:SortSt} {Q:Unit->SortSt->Prop} (h0:IntKeys a₀) (hr:Idn ρ a₀ 0) (hB:SBase a₀ st) (hI:Idn ρ (arrOf st) 0) (h2:2<=a₀.size) (h64:a₀.size<64)
  (h:∀ st',(arrOf st').Perm a₀->failedOf st'=none->Inc ρ (arrOf st') a₀.size->Q () st'):wpS (model prog w) A E s sortRuns' Q st:=by
 rw [sortRuns'_eq]
 refine wpS_bind (wpS_get ?_)
 dsimp only
 have mr:minRun' a₀.size a₀.size 0=a₀.size:=by
  obtain ⟨f,hf⟩:∃ f,a₀.size=f+1:=⟨a₀.size - 1,by omega⟩
  have e:minRun' (f+1) a₀.size 0=a₀.size:=by
   rw [minRun'_succ,if_pos h64]
   rfl
  rwa [← hf] at e
 simp only [hB.size,mr]
 refine wpS_bind (wpS_mono (wpS_forRange
  (I:=λx c st1=>(x=0/\c=(none,0)/\SBase a₀ st1/\Idn ρ (arrOf st1) 0)\/(1<=x/\c=(none,a₀.size)/\SEnd ρ a₀ st1))
  (Q:=λc st1=>c=(none,a₀.size)/\SEnd ρ a₀ st1) ?turn ?last (.inl ⟨rfl,rfl,hB,hI⟩)) ?after)
 case last =>
  rintro c st1 (⟨hx,_⟩ | ⟨_,hc,hD⟩)
  .omega
  .exact ⟨hc,hD⟩
 case turn =>
  rintro x c st1 _ hx (⟨rfl,rfl,b1,i1⟩ | ⟨hx1,rfl,hD⟩)
  .dsimp only
   rw [if_neg (by omega)]
   simp only [Nat.sub_zero,Nat.min_self,Nat.zero_add]
   refine wpS_bind (ZkQ h0 hr (Nat.le_refl _) (by omega) b1 i1 λm st2 b2 m1 m2 s2 d2=>?_)
   dsimp only
   by_cases lt:m<a₀.size
   .rw [if_pos lt]
    refine wpS_bind (wpS_lift (wpAny_rule ⟨rfl,?_⟩))
    refine wpS_bind (Znt h0 hr (Nat.le_refl _) m2 m1 b2 s2 d2 λst3 b3 s3=>?_)
    simp only [Bool.not_true,Bool.false_eq_true,if_false]
    refine wpS_bind (wpS_get ?_)
    have hb:(pendingOf st3).back?=none:=by
     rw [b3.pend]
     rfl
    rw [hb]
    dsimp only
    exact wpS_bind (wpS_modify (wpS_pure (.inr ⟨by omega,rfl,SEnd.of b3 s3⟩)))
   .rw [if_neg lt]
    have em:m=a₀.size:=by omega
    subst em
    refine wpS_bind (wpS_get ?_)
    have hb:(pendingOf st2).back?=none:=by
     rw [b2.pend]
     rfl
    rw [hb]
    dsimp only
    exact wpS_bind (wpS_modify (wpS_pure (.inr ⟨by omega,rfl,SEnd.of b2 s2⟩)))
  .dsimp only
   rw [if_pos (Nat.le_refl _)]
   exact wpS_pure ⟨rfl,hD⟩
 case after =>
  rintro c st1 ⟨rfl,hD⟩
  dsimp only
  refine wpS_bind (wpS_mono (wpS_forRange (I:=λ_ c st2=>st2=st1/\c=(none,())) (Q:=λc st2=>st2=st1/\c=(none,())) ?_ (λ_ _ hh=>hh) ⟨rfl,rfl⟩) ?_)
  .rintro x c st2 _ _ ⟨rfl,rfl⟩
   refine wpS_bind (wpS_get ?_)
   rw [if_pos (by rw [hD.2.2.1]; exact Nat.le_refl 1)]
   exact wpS_pure ⟨rfl,rfl⟩
  .rintro c st2 ⟨rfl,rfl⟩
   exact wpS_pure (h _ hD.1 hD.2.1 hD.2.2.2)
end
end L2.Stb
namespace L2
open PySem PySem.Spec PyProof.Rows
def BMod (base:Heap) (mg:Str->Option Value):Prop:=∃ bm o,mg "__builtins__" = some (.ref bm)/\bm≠builtinsNs/\bm≠mainGlobals/\base.get? bm=some o/\o.cls=.type "module" /\ o.dict=some builtinsNs/\o.data=.plain
section
variable {X:Cx} {pins:List (Addr×Obj)} {σ:St} {H:Hp} {s:Shared}
theorem Inv.grown {P c':Addr} {pos:Pos} {qual:Str} {ps:Array Value} {h':Heap} {tk:Nat} (I:Inv X pins σ H s) (hP:H P=some (.tbl pos qual)) (hx:Heap.ExtBut P s.heap h') (hge:s.heap.objs.size<=c') (hrec:h'.CodeRec (.ref c') qual)
  (htr:TriplesOk ps.toList) (hnf:codeAmong pos ps.toList=none) (htb:h'.get? P=some { cls:=.none,data:=.fields (ps++#[rawInt pos.line,rawInt pos.col,.ref c']) }) :
  ∃ oc vs t,h'.get? c'=some oc/\oc.data=.fields vs/\vs[1]?=some (.str qual t)/\Inv X pins σ (upd H c' (.frz oc (.own P))) { s with heap:=h',toks:=tk }:=by
 obtain ⟨c,oc,vs,t,z,hoc,hd,hv⟩:=hrec
 cases z
 have fr:H c'=none:=I.hok.fresh hge
 have nP:∀ b,H b=none->b≠P:=λb n z=>by rw [z,hP] at n; cases n
 have nc:∀ b u,H b=some u->b≠c':=λb u e=>Zb e fr
 have nh:∀ b o,s.heap.get? b=some o->b≠c':=λb o e=>Nat.ne_of_lt (Nat.lt_of_lt_of_le (Heap.lt_size e) hge)
 have cP:c'≠P:=λz=>by rw [z,hP] at fr; cases fr
 refine ⟨oc,vs,t,hoc,hd,hv,I.step (g':=s.gens) (d':=s.drawn) (t':=tk) (ch:=[]) (h':=h') (H':=upd H c' (.frz oc (.own P))) (λ_ z=>nomatch z) (λb o _ _ _ e n=>hx b o (nP b n) e) (λb o _ _ _ e n=>⟨o.slots,hx b o (nP b n) e⟩)
  (λb o _ e n=>by rw [Ze (nh b o e)]; exact n) (λb o _ e=>?_) (λb xs e=>by rw [Ze (nc b _ e)]; exact e) (λb o u e=>by rw [Ze (nc b _ e)]; exact e) (λb p q e=>by rw [Ze (nc b _ e)]; exact e) (λm hm=>?_) (λb u e=>?_) I.bare⟩
 .by_cases hb:b=P
  .subst hb; exact ⟨_,htb⟩
  .exact ⟨o,hx b o hb e⟩
 .obtain ⟨o,es,ep,ho,r⟩:=hm
  exact ⟨o,es,ep,hx _ o (nP _ I.free) ho,r⟩
 .by_cases hb:b=c'
  .subst hb
   rw [Za] at e
   cases e
   exact ⟨hoc,_,hoc⟩
  .rw [Ze hb] at e
   by_cases hbP:b=P
   .subst hbP
    rw [hP] at e
    cases e
    have e1:(ps++#[rawInt pos.line,rawInt pos.col,Value.ref c']).toList=ps.toList++[rawInt pos.line,rawInt pos.col,.ref c']:=by simp
    refine ⟨_,htb,?_,λcv hc=>?_⟩
    .rw [e1]; exact TriplesOk_snoc _ _ _ _ htr
    .rw [e1,codeAmong_snoc _ htr hnf] at hc
     cases hc
     exact ⟨c',oc,vs,t,rfl,Za,hd,hv⟩
   .refine (I.hok b u e).stay (λd v hd' q=>hx d v ?_ q) (λd q=>by rw [Ze (nc d _ q)]; exact q) (λd xs q=>by rw [Ze (nc d _ q)]; exact q) λd oz q=>by rw [Ze (nc d _ q)]; exact q
    rcases hd' with rfl | hd'
    .exact hbP
    .intro z; rw [z,hP] at hd'; cases hd'
structure LamOk (X:Cx) (scope:Scope) (x:Str) (fr:List Str) (js:List Nat):Prop where
 kind:scope.kind=.function
 co:scope.isCoroutine=false
 gen:scope.isGenerator=false
 nocell:∀ y∈scope.names,y.2≠.cell
 par:scope.names.lookup x=some .local
 free:∀ y∈scope.names,y.2=.free->X.env.kindOf y.1=some .cell\/X.env.kindOf y.1=some .free
 len:fr.length=js.length
 js:∀ (k j:Nat),js[k]?=some j->fr[k]?=X.N[j]?
 jf:∀ (k:Nat) (y:Str),fr[k]?=some y->scope.names.lookup y=some .free
def cxLam (X:Cx) (A:Around) (N:List Str) (qual:Str) (scope:Scope) (f:Addr) (cd:Value) (cl:List (Str×Addr)) (s:Shared) (H:Hp):Cx where
 prog:=X.prog
 w:=X.w
 K:=X.K
 mg:=X.mg
 base:=X.base
 A:=A.deeper (W.envX qual scope s.heap.objs.size f cd cl)
 N:=N
 s₀:=s
 H₀:=H
 env:=W.envX qual scope s.heap.objs.size f cd cl
 outer:=X.stack
 stack:=W.envX qual scope s.heap.objs.size f cd cl :: X.stack
 ex:=[]
 calm:=true
 fn:=λ_=>false
 pn:=[]
 xe:=λ_ _=>False
theorem Zmz {A:Around} {x:Str} {fr:List Str} {js:List Nat} {qual:Str} {scope:Scope} {f:Addr} {cd:Value} {cl:List (Str×Addr)} {s1:Shared} {u:Value} {v:V} (c:LamOk X scope x fr js) (I:Inv X pins σ H s) (hA:A.frames=some X.stack) (hh:A.handled=none)
  (cl1:∀ x c,cl.lookup x=some c->X.env.cells.lookup x=some c) (cl2:∀ p∈scope.names,p.2=.free->∃ c,cl.lookup p.1=some c) (r:RelV v u)
  (hn:s1.heap.Ns s.heap.objs.size λy=>[(x,u)].reverse.lookup y) (hk:∀ b o,s.heap.get? b=some o->s1.heap.get? b=some o) (hos:s1.os=s.os) (hg:s1.gens=s.gens) :
  Inv (cxLam X A (x :: fr) qual scope f cd cl s H) [] (some v :: js.map λj=>(σ[j]?).join) H s1:=by
 have noA:∀ b:Addr,b∉(cxLam X A (x :: fr) qual scope f cd cl s H).ex:=λb z=>absurd (show b∈([]:List Addr) from z) (by simp)
 have ok:(cxLam X A (x :: fr) qual scope f cd cl s H).Ok:=by
  refine ⟨I.ok.mod,c.kind,rfl,rfl,Nat.le_refl _,λy z d e1 e2=>I.ok.inj y z d (cl1 _ _ e1) (cl1 _ _ e2),λy hy=>?_,λy d z _=>absurd z (by simp [cxLam]),λ_=>hh,Around.frames_deeper hA,.inr ⟨rfl,rfl⟩,λb z=>absurd z (noA b),I.bs,Nat.le_trans I.ok.bsz I.sz,λb _ _=>noA b,λb z=>absurd z (noA b),I.stack,I.stkFree⟩
  have hy:scope.names.lookup y=some .cell\/scope.names.lookup y=some .free:=hy
  rcases hy with hy | hy
  .exact absurd rfl (c.nocell _ (Zad hy))
  .exact cl2 _ (Zad hy) rfl
 refine ⟨ok,hos,by rw [hg]; exact I.bare,Un.kept hk,⟨_,hn,λi y v' e1 e2 e3=>?_⟩,λy d e=>?_,I.hok.fresh (Nat.le_refl _),λy d e=>I.freeC y d (cl1 y d e),λp hp=>absurd (show p∈([]:List (Addr×Obj)) from hp) (by simp),I.hok.kept hk,?_⟩
 .cases i with
  | zero =>
   have e1':x=y:=by simpa [cxLam] using e1
   have e2':v=v':=by simpa using e2
   subst e1'
   subst e2'
   refine ⟨u,r,.inl ⟨c.par,?_⟩⟩
   show ([(x,u)]:List (Str×Value)).reverse.lookup x=some u
   simp
  | succ k =>
   have e1':fr[k]?=some y:=by simpa [cxLam] using e1
   rw [List.getElem?_cons_succ,getElem?_map] at e2
   cases q:js[k]? with
   | none=>rw [q] at e2; cases e2
   | some j =>
    rw [q] at e2
    have e2':(σ[j]?).join=some v':=by simpa using e2
    have e4:σ[j]?=some (some v'):=by
     cases z:σ[j]? with
     | none=>rw [z] at e2'; cases e2'
     | some o=>rw [z] at e2'; rw [show o=some v' from e2']
    have hXN:X.N[j]?=some y:=(c.js k j q).symm.trans e1'
    have hfr:=c.jf k y e1'
    have hk2:=c.free _ (Zad hfr) rfl
    have vis:Vis X.env.scope y:=by
     rcases hk2 with z | z
     .exact .inr (.inl z)
     .exact .inr (.inr z)
    obtain ⟨m,_,hl⟩:=I.loc
    obtain ⟨u',r',l⟩:=hl j y v' hXN e4 vis
    refine ⟨u',r',?_⟩
    rcases l with ⟨z,_⟩ | ⟨_,d,e,⟨od,ho,hd⟩⟩
    .rcases hk2 with y' | y'
     .rw [show X.env.kindOf y=_ from z] at y'; cases y'
     .rw [show X.env.kindOf y=_ from z] at y'; cases y'
    .obtain ⟨d',e'⟩:=cl2 _ (Zad hfr) rfl
     have z':=cl1 _ _ e'
     have:d'=d:=by rw [e] at z'; exact (Option.some.inj z').symm
     subst this
     exact .inr ⟨.inr hfr,d',e',⟨od,hk _ _ ho,hd⟩⟩
 .obtain ⟨v',⟨o,ho,hd⟩⟩:=I.cell y d (cl1 y d e)
  exact ⟨v',o,hk _ _ ho,hd⟩
 .show (some v :: _:List (Option V)).length=(x :: fr).length
  rw [length_cons,length_cons,length_map,c.len]
theorem ZkR {A:Around} {x:Str} {fr:List Str} {js:List Nat} {name qual:Str} {params:Arguments} {body:PySem.Expr} {scope:Scope} {f:Addr} {pm cd ct:Value} {cl:List (Str×Addr)} {u:Value} {v:V} {te:TE} {Q:VK} {E:Value->Shared->Prop} {of:Obj} (c:LamOk X scope x fr js) (I:Inv X pins σ H s)
  (hA:A.frames=some X.stack) (hh:A.handled=none) (hdep:A.depth<recursionLimit)
  (cl1:∀ x c,cl.lookup x=some c->X.env.cells.lookup x=some c) (cl2:∀ p∈scope.names,p.2=.free->∃ c,cl.lookup p.1=some c)
  (ho:s.heap.get? f=some of) (hof:of.data=.func (W.kla_fn name qual params body scope cl pm cd ct)) (hcd:s.heap.CodeRec cd qual)
  (hb:∀ u,bindArgs (W.kla_fn name qual params body scope cl pm cd ct) ⟨[u],[]⟩=pure [(x,u)]) (r:RelV v u)
  (he:∀ s,PE (cxLam X A (x :: fr) qual scope f cd cl s H) body te) (h:te (some v :: js.map λj=>(σ[j]?).join) H Q) :
  wpAny (model X.prog X.w) A (call (.ref f) [u]) (EP X pins σ Q) E s:=by
 refine wpAny_call (codeAny_mono (R:=λr s'=>∃ u',r=.ok (.ret u')/\CE X.stack X.prog X.w H s Q u' s') (W.kla_callFunE hdep ho hof c.co c.gen rfl hcd (by
  rw [hb u]
  refine wpAny_pure ?_
  refine wpAny_newFunctionEnv c.nocell (λy hy=>by rw [List.mem_singleton.mp hy]; exact c.par) (λh₁ hns hsb=>?_) c.kind
  have hk₁:∀ b o,s.heap.get? b=some o->h₁.get? b=some o:=λb o e=>hsb.extBut b o (Nat.ne_of_lt (Heap.lt_size e)) (Heap.get?_push_of_some _ e)
  refine ⟨I.nolimit.keeps hk₁,?_⟩
  have J:=Zmz (qual:=qual) (f:=f) (cd:=cd) (s1:={ s with heap:=h₁,toks:=s.toks+[(x,u)].length }) c I hA hh cl1 cl2 r hns hk₁ rfl rfl
  refine W.kla_codeExpr (wpAny_mono (he s [] _ _ H Q J h) (λu' s' hq=>?_) λ_ _ z=>z.elim)
  obtain ⟨v',H',J',rv,q⟩:=hq
  exact ⟨u',rfl,v',H',J'.os,J'.bare,J'.base,J'.hok,rv,q⟩)) λr s' hq=>?_)
 obtain ⟨u',rfl,hq⟩:=hq
 exact I.after hq
theorem ZkS {P c0:Addr} {x:Str} {fr:List Str} {js:List Nat} {params:Arguments} {body:PySem.Expr} {scope:Scope} {pos:Pos} {R:Value->Shared->Prop} (c:LamOk X scope x fr js) (I:Inv X pins σ H s) (hc0:X.env.code=.ref c0) (hcd:W.codeHdIn X.K c0 P=true)
  (bm:BMod X.base X.mg) (hP:H P=some (.tbl pos (X.env.qual ++ "<lambda>"))) (hd0:params.defaults=[]) (hk0:params.kw_defaults=[])
  (h:∀ f cl cd pm ct of H' s',Inv X pins σ H' s'->Same H H'->(∀ x c,cl.lookup x=some c->X.env.cells.lookup x=some c)->(∀ p∈scope.names,p.2=.free->∃ c,cl.lookup p.1=some c) -> 
   H' f=some (.frz of (.own 0))->of.data=.func (W.kla_fn "<lambda>" (X.env.qual ++ "<lambda>") params body scope cl pm cd ct)->(∃ c' oc vs t,cd=.ref c'/\H' c'=some (.frz oc (.own P))/\oc.data=.fields vs/\vs[1]?=some (.str (X.env.qual ++ "<lambda>") t))->R (.ref f) s') :
  wpAny (model X.prog X.w) X.A (eval (.Lambda params body scope pos) X.env) R X.xe s:=by
 obtain ⟨cl,e1,cl1,_,cl2⟩:=Zbc (env:=X.env) scope.names [] (λp hp hf=>I.ok.has _ (c.free p hp hf)) (λx d e=>by simp at e)
 have hclos:closureFor scope X.env=pure cl:=by
  unfold closureFor
  refine (congrArg (λz=>z >>= λcs=>pure cs) e1).trans ?_
  rfl
 have CH:=W.codeHd_of_K I.kIn hcd
 obtain ⟨ps,hps,htr,hcode⟩:=(show ObjOk X.prog X.w H s.heap P (.tbl pos (X.env.qual ++ "<lambda>")) from I.hok P _ hP)
 have hg:=I.ok.mod.glob.keeps I.bk
 have hgP:mainGlobals≠P:=λq=>by
  obtain ⟨o,es,ep,e,hd,_⟩:=hg
  rw [q,hps] at e; cases e; cases hd
 have hb:s.heap.BuiltinsAt X.mg P:=by
  obtain ⟨b,o,a1,a2,a3,a4,a5,a6,a7⟩:=bm
  have e:=I.bk _ _ a4
  exact ⟨b,o,a1,a2,a3,(λz=>by rw [z,hps] at e; cases e; cases a5),e,a5,a6,a7⟩
 rw [arm_eval_Lambda,defaultsOf_eq,hd0,hk0]
 show wpAny _ _ (do let dv ← evalAll (evalEach [] X.env); let kdv ← holding dv (evalAllOpt []); makeFunction "<lambda>" (X.env.qual ++ "<lambda>") params (.expr body) scope X.env dv kdv [] pos pos.line) _ _ s
 refine wpAny_bind (evalAll_nil ?_)
 refine wpAny_bind (wpAny_holding (wpAny_pure ?_))
 cases hf:codeAmong pos ps.toList with
 | some cv =>
  obtain ⟨c',oc,vs,t,rfl,hH,hd,hv⟩:=hcode cv hf
  refine W.kla_makeFunctionHit hclos I.ok.glob hg hc0 CH hps htr hf hb λctv h' tk hk hsz=>?_
  have I1:=I.laid (a:=h'.objs.size) (t':=tk) (o:=.frz { cls:=.type "function",data:=.func (W.kla_fn "<lambda>" (X.env.qual ++ "<lambda>") params body scope cl ((X.mg "__name__").getD .none) (.ref c') ctv) } (.own 0)) (h':=h'.push { cls:=.type "function",data:=.func (W.kla_fn "<lambda>" (X.env.qual ++ "<lambda>") params body scope cl ((X.mg "__name__").getD .none) (.ref c') ctv) }) (λb o e=>Heap.get?_push_of_some _ (hk b o e)) hsz ⟨Heap.get?_push_size _ rfl,_,Heap.get?_push_size _ rfl⟩
  have fr:=I.hok.fresh hsz
  exact h _ cl _ _ _ _ _ _ I1 (Zc fr _) cl1 cl2 Za rfl ⟨c',oc,vs,t,rfl,by rw [Ze (Zb hH fr)]; exact hH,hd,hv⟩
 | none =>
  refine W.kla_makeFunction hclos I.ok.glob hg hc0 CH hps htr hf hgP hb λc' ctv h' tk hx hge hlt hrec htb=>?_
  obtain ⟨oc,vs,t,hoc,hd,hv,I1⟩:=I.grown (tk:=tk) hP hx hge hrec htr hf htb
  have fr:H c'=none:=I.hok.fresh hge
  have fr2:upd H c' (.frz oc (.own P)) h'.objs.size=none:=I1.hok.fresh (Nat.le_refl _)
  have I2:=I1.laid (a:=h'.objs.size) (t':=tk) (o:=.frz (W.kla_obj "<lambda>" (X.env.qual ++ "<lambda>") params body scope cl ((X.mg "__name__").getD .none) c' ctv) (.own 0)) (h':=h'.push (W.kla_obj "<lambda>" (X.env.qual ++ "<lambda>") params body scope cl ((X.mg "__name__").getD .none) c' ctv)) (λb o e=>Heap.get?_push_of_some _ e) (Nat.le_refl _) ⟨Heap.get?_push_size _ rfl,_,Heap.get?_push_size _ rfl⟩
  exact h _ cl _ _ _ _ _ _ I2 ((Zc fr _).trans (Zc fr2 _)) cl1 cl2 Za rfl ⟨c',oc,vs,t,rfl,by rw [Ze (Zb Za fr2)]; exact Za,hd,hv⟩
end
end L2
namespace L2
open PySem PySem.Spec PyProof.Rows L2.Stb
def KLt (key:Int->Int) (ns:List Int) (a b:Int):Prop:=key a<key b\/(key a=key b/\ns.idxOf a<ns.idxOf b)
theorem ZkT {l:List Keyed} (h:∀ p∈l,∃ t,p.2=.int (numOf p.2) t):Vals ((l.map λp=>numOf p.2).map V.int) (l.map (·.2)):=by
 induction l with
 | nil=>exact .nil
 | cons p r ih =>
  obtain ⟨t,e⟩:=h p mem_cons_self
  exact .cons ⟨t,e⟩ (ih λq hq=>h q (mem_cons_of_mem _ hq))
theorem ZcU {vs:List Value} {ns:List Int} (h:IntsAre vs ns):∀ {i:Nat} {v:Value},vs[i]?=some v->∃ n t,ns[i]?=some n/\v=.int n t:=by
 induction h with
 | nil=>intro i v e; simp at e
 | cons n t _ ih =>
  intro i v e
  cases i with
  | zero=>exact ⟨n,t,rfl,by simpa using e.symm⟩
  | succ i=>exact ih (by simpa using e)
theorem ZlK:∀ {ns:List Int},ns.Nodup->∀ {i:Nat} {n:Int},ns[i]?=some n->ns.idxOf n=i
 | [],_,_,_,e=>by simp at e
 | x :: r,nd,0,n,e=>by
  have e':x=n:=by simpa using e
  subst e'
  simp
 | x :: r,nd,i+1,n,e=>by
  obtain ⟨h1,h2⟩:=List.nodup_cons.mp nd
  have e':r[i]?=some n:=by simpa using e
  have ne:x≠n:=λz=>h1 (z ▸ mem_of_getElem? e')
  rw [List.idxOf_cons,show (x == n)=false by simpa using ne]
  show r.idxOf n+1=i+1
  rw [ZlK h2 e']
theorem Zhp {keys:Array Value} {vs:List Value} {ns:List Int} {key:Int->Int} (hk:IntsAre keys.toList (ns.map key)) (hv:IntsAre vs ns) (nd:ns.Nodup) :
  Idn (λp=>ns.idxOf (numOf p.2)) (keys.zip vs.toArray) 0/\∀ xs:Array Keyed,xs.Perm (keys.zip vs.toArray)->Inc (λp=>ns.idxOf (numOf p.2)) xs xs.size ->
   ∃ os:List Int,Vals (os.map V.int) (xs.map (·.2)).toList/\os.Perm ns/\os.Pairwise (KLt key ns):=by
 have lk:keys.size=ns.length:=by have:=hk.length; rw [Array.length_toList,length_map] at this; omega
 have lv:vs.length=ns.length:=by have:=hv.length; omega
 have at0:∀ (i:Nat) (p:Keyed),(keys.zip vs.toArray)[i]?=some p->∃ n t t',ns[i]?=some n/\p=(Value.int (key n) t,Value.int n t'):=λi p e=>by
  have e':(keys.toList.zip vs)[i]?=some p:=by rw [← ksk_zip,Array.getElem?_toList]; exact e
  rw [List.getElem?_zip_eq_some] at e'
  obtain ⟨n1,t1,q1,r1⟩:=ZcU hk e'.1
  obtain ⟨n2,t2,q2,r2⟩:=ZcU hv e'.2
  rw [getElem?_map,q2] at q1
  have q1':key n2=n1:=by simpa using q1
  exact ⟨n2,t1,t2,q2,Prod.ext (by rw [r1,q1']) r2⟩
 have mem0:∀ p∈(keys.zip vs.toArray).toList,∃ n t t',n∈ns/\p=(Value.int (key n) t,Value.int n t'):=λp hp=>by
  obtain ⟨i,e⟩:=List.getElem?_of_mem hp
  rw [Array.getElem?_toList] at e
  obtain ⟨n,t,t',q,r⟩:=at0 i p e
  exact ⟨n,t,t',mem_of_getElem? q,r⟩
 refine ⟨λi _ hi=>?_,λxs hp hi=>?_⟩
 .obtain ⟨n,t,t',q,r⟩:=at0 i _ (Array.getElem?_eq_getElem hi)
  unfold Rk
  rw [Array.getElem?_eq_getElem hi,r]
  show ns.idxOf n=i
  exact ZlK nd q
 .have pm:=Array.perm_iff_toList_perm.mp hp
  have memx:∀ p∈xs.toList,∃ n t t',n∈ns/\p=(Value.int (key n) t,Value.int n t'):=λp hp'=>mem0 p (pm.mem_iff.mp hp')
  refine ⟨xs.toList.map λp=>numOf p.2,?_,?_,?_⟩
  .rw [Array.toList_map]
   refine ZkT λp hp'=>?_
   obtain ⟨n,t,t',_,rfl⟩:=memx p hp'
   exact ⟨t',rfl⟩
  .have e:(keys.zip vs.toArray).toList.map (λp=>numOf p.2)=ns:=by
    apply List.ext_getElem?
    intro i
    rw [getElem?_map,Array.getElem?_toList]
    by_cases hlt:i<(keys.zip vs.toArray).size
    .obtain ⟨n,t,t',q,r⟩:=at0 i _ (Array.getElem?_eq_getElem hlt)
     rw [Array.getElem?_eq_getElem hlt,r,q]
     rfl
    .have lz:(keys.zip vs.toArray).size=ns.length:=by rw [Array.size_zip,lk,List.size_toArray,lv,Nat.min_self]
     rw [Array.getElem?_eq_none (by omega),getElem?_eq_none (by omega)]
     rfl
   rw [← e]
   exact pm.map _
  .rw [pairwise_iff_getElem]
   intro i j hi' hj' hij
   have hi2:i<xs.size:=by simpa using hi'
   have hj2:j<xs.size:=by simpa using hj'
   have v:=hi i j hij hj2
   obtain ⟨n1,t1,t1',_,r1⟩:=memx xs[i] (by simp)
   obtain ⟨n2,t2,t2',_,r2⟩:=memx xs[j] (by simp)
   have k1:K xs i=key n1:=by rw [K_eq hi2,r1]; rfl
   have k2:K xs j=key n2:=by rw [K_eq hj2,r2]; rfl
   have q1:Rk (λp=>ns.idxOf (numOf p.2)) xs i=ns.idxOf n1:=by unfold Rk; rw [Array.getElem?_eq_getElem hi2,r1]; rfl
   have q2:Rk (λp=>ns.idxOf (numOf p.2)) xs j=ns.idxOf n2:=by unfold Rk; rw [Array.getElem?_eq_getElem hj2,r2]; rfl
   have g1:(xs.toList.map λp=>numOf p.2)[i]=n1:=by simp [r1,numOf]
   have g2:(xs.toList.map λp=>numOf p.2)[j]=n2:=by simp [r2,numOf]
   rw [g1,g2]
   unfold VLt at v
   rw [k1,k2,q1,q2] at v
   exact v
section
variable {X:Cx} {pins:List (Addr×Obj)} {σ:St} {H:Hp} {s:Shared} {d:Addr} {xs:List V} {o:Obj}
theorem Inv.thawedL (I:Inv X pins σ H s) (h:H d=some (.frz o (.lst xs))) (h0:∀ o' u,X.H₀ d≠some (.frz o' u)):Inv X pins σ (upd H d (.lst xs)) s:=by
 have ne:∀ b u,H b=some u->u≠.frz o (.lst xs)->b≠d:=λb u e n z=>by rw [z,h] at e; exact n (Option.some.inj e).symm
 have nn:∀ b,H b=none->b≠d:=λb e z=>by rw [z,h] at e; cases e
 refine ⟨I.ok,I.os,I.bare,⟨I.base.keep,I.base.slot,λb o' e n hx=>?_,I.base.there,λb ys e=>?_,λb o' u e=>?_,λb p r e=>?_⟩,I.loc,I.cell,?_,λx c e=>?_,λp hp=>?_,λb u e=>?_,I.len⟩
 .have q:=I.base.free b o' e n hx
  rw [Ze (nn b q)]
  exact q
 .have q:=I.base.tups b ys e
  rw [Ze (ne b _ q (by intro z; cases z))]
  exact q
 .have q:=I.base.frzs b o' u e
  rw [Ze (λz=>h0 o' u (by rw [← z]; exact e))]
  exact q
 .have q:=I.base.tbls b p r e
  rw [Ze (ne b _ q (by intro z; cases z))]
  exact q
 .rw [Ze (nn _ I.free)]
  exact I.free
 .rw [Ze (nn _ (I.freeC x c e))]
  exact I.freeC x c e
 .obtain ⟨a1,a2,a3⟩:=I.pin p hp
  exact ⟨a1,by rw [Ze (nn _ a2)]; exact a2,a3⟩
 .by_cases hb:b=d
  .subst hb
   rw [Za] at e
   cases e
   exact (I.hok b _ h).2
  .rw [Ze hb] at e
   exact (I.hok b u e).stay (λ_ _ _ z=>z) (λc z=>by rw [Ze (ne c _ z (by intro y; cases y))]; exact z) (λc ys z=>by rw [Ze (ne c _ z (by intro y; cases y))]; exact z) λc oz z=>by rw [Ze (ne c _ z (by intro y; cases y))]; exact z
theorem Zhq {a kS:Addr} {st:SortSt} {e1:Nat} {H1:Hp} {ns:List Int} {key:Int->Int} {keys:Array Value} {its:List Value} {ks:List V} {A:Around} {E:Value->Shared->Prop} {R:PySem.Fin->Shared->Prop} (I:Inv X pins σ H1 s) (hk:IntsAre keys.toList (ns.map key)) (hv:IntsAre its ns) (nd:ns.Nodup) (h64:ns.length<64)
  (ha:H1 a=some (.frz (seqObj "list" #[] e1) (.lst []))) (h0:∀ o' u,X.H₀ a≠some (.frz o' u)) (hkS:H1 kS=some (.lst ks)) (hlk:ks.length<=64) (hp:(arrOf st).Perm (keys.zip its.toArray)) (hi:Inc (λp=>ns.idxOf (numOf p.2)) (arrOf st) (arrOf st).size) (hf:failedOf st=none)
  (h:∀ (H':Hp) (s':Shared) (os:List Int),Inv X pins σ H' s'->(∀ b,b≠a->b≠kS->H' b=H1 b)->H' a=some (.lst (os.map V.int))->os.Perm ns->os.Pairwise (KLt key ns)->R (.done (.ret .none)) s') :
  wpAny (model X.prog X.w) A (ksk_tail a false e1 (.ref kS) st) R E s:=by
 have nak:a≠kS:=λz=>by rw [z,hkS] at ha; cases ha
 obtain ⟨os,vo,po,so⟩:=(Zhp hk hv nd).2 _ hp hi
 have lo:=po.length_eq
 unfold ksk_tail
 try dsimp only
 obtain ⟨_,itsK,n,rK,hlK,eK⟩:=I.lstM hkS
 have lK:itsK.length<=64:=by have:=rK.length; omega
 refine wpAny_bind (listUpdate_at eK rfl ?_ (by rw [List.size_toArray,sizeLine_eq]; omega) (Nat.zero_le _))
 have I6:=I.lset (t':=s.toks) (f:=λ_=>#[]) (its':=[]) (ys:=[]) hkS eK rfl .nil (Nat.zero_le _)
 have ha6:upd H1 kS (.lst []) a=some (.frz (seqObj "list" #[] e1) (.lst [])):=by rw [Ze nak]; exact ha
 have oa:=(I6.hok a _ ha6).1
 refine wpAny_bind (wpAny_letGo ?_)
 refine wpAny_bind (seqEpoch_at oa rfl ?_)
 have lo2:((arrOf st).map (·.2)).size=ns.length:=by
  have e:=vo.length
  rw [length_map] at e
  have e2:((arrOf st).map (·.2)).toList.length=((arrOf st).map (·.2)).size:=Array.length_toList
  omega
 refine wpAny_bind (listUpdate_at oa rfl ?_ (Nat.zero_le _) (by simp only [Bool.false_eq_true,if_false]; rw [lo2,sizeLine_eq]; omega))
 rw [hf]
 simp only [bne_self_eq_false,Bool.false_eq_true,if_false]
 have I7:=I6.thawedL ha6 h0
 have I8:=I7.lset (t':=s.toks) (f:=λ_=>(arrOf st).map (·.2)) (its:=[]) (its':=((arrOf st).map (·.2)).toList) (ys:=os.map V.int) Za oa (by exact (Array.toArray_toList).symm) vo (by rw [length_map,sizeLine_eq]; omega)
 refine wpAny_pure (h _ _ os I8 (λb n1 n2=>?_) Za po so)
 rw [Ze n1,Ze n1,Ze n2]
theorem ZmA {a kS:Addr} {e1:Nat} {H1:Hp} {ns:List Int} {key:Int->Int} {keys:Array Value} {its:List Value} {ks:List V} {A:Around} {E:Value->Shared->Prop} {R:PySem.Fin->Shared->Prop} (I:Inv X pins σ H1 s) (hk:IntsAre keys.toList (ns.map key)) (hv:IntsAre its ns) (nd:ns.Nodup) (h64:ns.length<64)
  (ha:H1 a=some (.frz (seqObj "list" #[] e1) (.lst []))) (h0:∀ o' u,X.H₀ a≠some (.frz o' u)) (hkS:H1 kS=some (.lst ks)) (hlk:ks.length<=64)
  (h:∀ (H':Hp) (s':Shared) (os:List Int),Inv X pins σ H' s'->(∀ b,b≠a->b≠kS->H' b=H1 b)->H' a=some (.lst (os.map V.int))->os.Perm ns->os.Pairwise (KLt key ns)->R (.done (.ret .none)) s') :
  wpAny (model X.prog X.w) A (ksk_end a false its.toArray e1 (.ref kS) keys) R E s:=by
 have lk:keys.size=ns.length:=by have:=hk.length; rw [Array.length_toList,length_map] at this; omega
 have lv:its.length=ns.length:=by have:=hv.length; omega
 have hzs:(keys.zip its.toArray).size=ns.length:=by rw [Array.size_zip,lk,List.size_toArray,lv,Nat.min_self]
 obtain ⟨idn,_⟩:=Zhp hk hv nd
 unfold ksk_end
 simp only [Bool.false_eq_true,if_false]
 by_cases h2:its.toArray.size<2
 .rw [if_pos h2,if_pos h2]
  refine wpAny_bind (wpAny_pure ?_)
  rw [StateT.run_pure]
  refine wpAny_bind (wpAny_pure ?_)
  try dsimp only
  refine Zhq (st:=SortSt.mk' general' (keys.zip its.toArray) #[] 7 none) I hk hv nd h64 ha h0 hkS hlk (Array.Perm.refl _) (λi j hij hj=>?_) rfl h
  have hj2:j<(keys.zip its.toArray).size:=hj
  rw [List.size_toArray] at h2
  omega
 .rw [if_neg h2,if_neg h2]
  rw [List.size_toArray] at h2
  rw [ksk_kind hk (by rw [lk]; omega)]
  refine wpAny_bind (wpAny_pure ?_)
  refine wpAny_bind (wpAny_mono (Zmy (ρ:=λp=>ns.idxOf (numOf p.2)) (a₀:=keys.zip its.toArray) (st:=SortSt.mk' oneType' (keys.zip its.toArray) #[] 7 none)
   (Q:=λ_ st1=>(arrOf st1).Perm (keys.zip its.toArray)/\failedOf st1=none/\Inc (λp=>ns.idxOf (numOf p.2)) (arrOf st1) (keys.zip its.toArray).size)
   (ksk_intKeys hk) idn ⟨Array.Perm.refl _,rfl,rfl,rfl⟩ idn (by rw [hzs]; omega) (by rw [hzs]; exact h64) λst1 a1 a2 a3=>⟨a1,a2,a3⟩) ?_ λ_ _ e=>e)
  rintro ⟨⟨⟩,st1⟩ s1 ⟨rfl,hp,hf,hs⟩
  try dsimp only
  exact Zhq I hk hv nd h64 ha h0 hkS hlk hp (by rw [hp.size_eq]; exact hs) hf h
theorem ZkU {l f:Addr} {ns:List Int} {key:Int->Int} {Q:VK} {E:Value->Shared->Prop} (I:Inv X pins σ H s) (hq:SqL X.K H l (ns.map V.int)) (h64:ns.length<64) (nd:ns.Nodup)
  (turn:∀ z∈ns,∀ H1 s1 u,Same H H1->Inv X pins σ H1 s1->RelV (.int z) u->wpAny (model X.prog X.w) X.A.in1.in1 (call (.ref f) [u]) (EP X pins σ λv H'=>v=.int (key z)/\H'=H1) (λ_ _=>False) s1)
  (q:∀ (D:Addr) (H':Hp) (os:List Int),H D=none->Same H H'->H' D=some (.lst (os.map V.int))->os.Perm ns->os.Pairwise (KLt key ns)->Q (.ref D) H') :
  wpAny (model X.prog X.w) X.A (call (.builtin "sorted") [.ref l] [(Str.ofString "key",.ref f)]) (EP X pins σ Q) E s:=by
 obtain ⟨its,rv,pl,hz⟩:=I.list hq
 have hv:=ZaW rv
 have lv:its.length=ns.length:=by have:=rv.length; rw [length_map] at this; exact this.symm
 refine call_function_entry_kw kind_sorted plain_sorted entry_sorted (ksk_s1 _ _) ?_
 unfold Builtin.«sorted»
 refine wpAny_bind (m:=checkCount "sorted" 1 1 _) (wpAny_pure ?_)
 refine wpAny_bind (collect_list pl.isList ?_ (by rw [sizeLine_eq]; omega))
 refine wpAny_bind (wpAny_newList ?_ (by rw [sizeLine_eq]; omega))
 have hsz:((s.heap.push (seqObj "list" #[] 0)).update s.heap.objs.size (Obj.mapSeq (·++its.toArray))).objs.size=s.heap.objs.size+1:=by
  rw [Heap.size_update,size_push']
 have hoL:(((s.heap.push (seqObj "list" #[] 0)).update s.heap.objs.size (Obj.mapSeq (·++its.toArray))).push (seqObj "list" its.toArray 0)).get? (s.heap.objs.size+1)=some (seqObj "list" its.toArray 0):=by
  rw [← hsz]
  exact Heap.get?_push_size _ rfl
 have keep:∀ b o,s.heap.get? b=some o->(((s.heap.push (seqObj "list" #[] 0)).update s.heap.objs.size (Obj.mapSeq (·++its.toArray))).push (seqObj "list" its.toArray 0)).get? b=some o:=λb o e=>by
  have lt:b<s.heap.objs.size:=Heap.lt_size e
  rw [Heap.get?_push_ne _ _ _ (by rw [hsz]; exact Nat.ne_of_lt (Nat.lt_succ_of_lt lt)),Heap.get?_update_ne _ _ _ _ (Nat.ne_of_lt lt),Heap.get?_push_ne _ _ _ (Nat.ne_of_lt lt)]
  exact e
 show wpAny _ _ _ _ _ { s with heap:=((s.heap.push (seqObj "list" #[] 0)).update s.heap.objs.size (Obj.mapSeq (·++its.toArray))).push (seqObj "list" its.toArray 0) }
 rw [hsz]
 have hsz1:(((s.heap.push (seqObj "list" #[] 0)).update s.heap.objs.size (Obj.mapSeq (·++its.toArray))).push (seqObj "list" its.toArray 0)).objs.size=s.heap.objs.size+2:=by rw [size_push',hsz]
 generalize ((s.heap.push (seqObj "list" #[] 0)).update s.heap.objs.size (Obj.mapSeq (·++its.toArray))).push (seqObj "list" its.toArray 0)=h1 at *
 refine wpAny_bind (wpAny_holding (wpAny_call_entry_kw slot_list_sort ⟨_,hoL,rfl⟩ entry_list_sort ?body (ksk_l1 _ _)))
 case body =>
  show wpAny (model X.prog X.w) X.A.in1.in1 (Builtin.«list.sort» ⟨[.ref (s.heap.objs.size+1)],[(Str.ofString "key",.ref f)]⟩) _ _ _
  rw [ksk_t1]
  unfold ksk_tree
  refine wpAny_bind (listItems_at hoL rfl ?_)
  refine wpAny_bind (listUpdate_at hoL rfl ?_ (by rw [List.size_toArray,sizeLine_eq]; omega) (Nat.zero_le _))
  obtain ⟨e1,ho1⟩:∃ e1,(h1.update (s.heap.objs.size+1) (Obj.mapSeq λ_=>(#[]:Array Value))).get? (s.heap.objs.size+1)=some (seqObj "list" #[] e1):=⟨_,get?_update_seq hoL λ_=>#[]⟩
  have keep2:∀ b o,s.heap.get? b=some o->(h1.update (s.heap.objs.size+1) (Obj.mapSeq λ_=>(#[]:Array Value))).get? b=some o:=λb o e=>by
   have lt:b<s.heap.objs.size:=Heap.lt_size e
   rw [Heap.get?_update_ne _ _ _ _ (Nat.ne_of_lt (Nat.lt_succ_of_lt lt))]
   exact keep b o e
  generalize h1.update (s.heap.objs.size+1) (Obj.mapSeq λ_=>(#[]:Array Value))=h2 at *
  refine wpAny_bind (seqEpoch_at ho1 rfl ?_)
  refine wpAny_bind (wpAny_newTuple ?_ (by show its.length<=_; rw [sizeLine_eq]; omega))
  refine wpAny_bind (wpAny_newList ?_ (Nat.zero_le _))
  refine wpAny_holding ?_
  have fr:H (s.heap.objs.size+1)=none:=I.hok.fresh (Nat.le_succ _)
  have h0:∀ o' u,X.H₀ (s.heap.objs.size+1)≠some (.frz o' u):=λo' u e=>by rw [I.base.frzs _ _ _ e] at fr; cases fr
  have ho2:(h2.push (seqObj "tuple" its.toArray 0)).get? (s.heap.objs.size+1)=some (seqObj "list" #[] e1):=Heap.get?_push_of_some _ ho1
  have I3:=I.laid (a:=s.heap.objs.size+1) (t':=s.toks) (o:=.frz (seqObj "list" #[] e1) (.lst [])) (h':=h2.push (seqObj "tuple" its.toArray 0)) (λb o e=>Heap.get?_push_of_some _ (keep2 b o e)) (Nat.le_succ _) ⟨ho2,Nat.zero_le _,[],e1,.nil,ho2⟩
  have fr3:=I3.hok.fresh (Nat.le_refl _)
  have I4:=I3.laid (t':=s.toks) (o:=.lst []) (h':=(h2.push (seqObj "tuple" its.toArray 0)).push (seqObj "list" #[] 0)) (λb o e=>Heap.get?_push_of_some _ e) (Nat.le_refl _) ⟨Nat.zero_le _,[],0,.nil,Heap.get?_push_size _ rfl⟩
  have nak:s.heap.objs.size+1≠(h2.push (seqObj "tuple" its.toArray 0)).objs.size:=Zb Za fr3
  have sm:Same H (upd (upd H (s.heap.objs.size+1) (.frz (seqObj "list" #[] e1) (.lst []))) (h2.push (seqObj "tuple" its.toArray 0)).objs.size (.lst [])):=(Zc fr _).trans (Zc fr3 _)
  have frK:H (h2.push (seqObj "tuple" its.toArray 0)).objs.size=none:=(Zc fr _).free fr3
  have hkS0:upd (upd H (s.heap.objs.size+1) (.frz (seqObj "list" #[] e1) (.lst []))) (h2.push (seqObj "tuple" its.toArray 0)).objs.size (.lst []) (h2.push (seqObj "tuple" its.toArray 0)).objs.size=some (.lst []):=Za
  have ha0:upd (upd H (s.heap.objs.size+1) (.frz (seqObj "list" #[] e1) (.lst []))) (h2.push (seqObj "tuple" its.toArray 0)).objs.size (.lst []) (s.heap.objs.size+1)=some (.frz (seqObj "list" #[] e1) (.lst [])):=by rw [Ze nak]; exact Za
  generalize upd (upd H (s.heap.objs.size+1) (.frz (seqObj "list" #[] e1) (.lst []))) (h2.push (seqObj "tuple" its.toArray 0)).objs.size (.lst [])=H4 at *
  show wpAny (model X.prog X.w) X.A.in1.in1 (ksk_rest (s.heap.objs.size+1) (.ref f) false its.toArray e1 (.ref (h2.push (seqObj "tuple" its.toArray 0)).objs.size)) _ _ { s with heap:=(h2.push (seqObj "tuple" its.toArray 0)).push (seqObj "list" #[] 0) }
  generalize (h2.push (seqObj "tuple" its.toArray 0)).objs.size=kS at *
  generalize (h2.push (seqObj "tuple" its.toArray 0)).push (seqObj "list" #[] 0)=h4 at *
  unfold ksk_rest
  refine wpAny_bind (wpAny_rule ?_)
  rw [List.forIn_toArray]
  refine wpAny_bind (ksk_fold (λi s1=>∃ H1:Hp,Inv X pins σ H1 s1/\Same H H1/\H1 (s.heap.objs.size+1)=some (.frz (seqObj "list" #[] e1) (.lst []))/\H1 kS=some (.lst (((ns.take i).map key).map V.int))) its 0 _
   ⟨H4,I4,sm,ha0,hkS0⟩ ?step ?done)
  case step =>
   rintro j x s1 hx ⟨H1,I1,s1',a1,k1⟩
   simp only [Nat.zero_add] at k1 ⊢
   obtain ⟨z,t,hz',rfl⟩:=ZcU hv hx
   have hj:j<ns.length:=(List.getElem?_eq_some_iff.mp hz').1
   refine wpAny_bind (wpAny_attempt (wpAny_mono (turn z (mem_of_getElem? hz') H1 s1 _ s1' I1 ⟨t,rfl⟩) (λv s2 he=>?_) λ_ _ hF=>hF.elim))
   obtain ⟨v',H',I2,r2,rfl,rfl⟩:=he
   try dsimp only
   obtain ⟨_,itsK,n,rK,hlK,eK⟩:=I2.lstM k1
   have lK:itsK.length<=ns.length:=by
    have:=rK.length
    rw [length_map,length_map,length_take] at this
    omega
   refine wpAny_bind (listUpdate_at eK rfl ?_ (by rw [List.size_toArray,sizeLine_eq]; omega) (by rw [Array.size_push,List.size_toArray,sizeLine_eq]; omega))
   have ek:ns.take (j+1)=ns.take j++[z]:=by rw [take_succ,hz']; rfl
   have I5:=I2.lset (t':=s2.toks) (f:=(·.push v)) (its':=itsK++[v]) (ys:=((ns.take (j+1)).map key).map V.int) k1 eK (by simp) (by rw [ek,map_append,map_append]; exact rK.append (.cons r2 .nil)) (by rw [length_map,length_map,length_take,sizeLine_eq]; omega)
   refine wpAny_pure ⟨rfl,_,I5,λb o y=>?_,?_,Za⟩
   .rw [Ze (Zb y frK)]
    exact s1' _ _ y
   .rw [Ze nak]
    exact a1
  case done =>
   rintro s1 ⟨H1,I1,s1',a1,k1⟩
   rw [Nat.zero_add,lv,take_length] at k1
   obtain ⟨_,itsK,n,rK,hlK,eK⟩:=I1.lstM k1
   try dsimp only
   refine wpAny_bind (listItems_at eK rfl ?_)
   refine ZmA (ns:=ns) (key:=key) I1 (by simpa using ZaW rK) hv nd h64 a1 h0 k1 (by rw [length_map,length_map]; omega) λH' s2 os I2 oth hD po so=>⟨_,rfl,?_⟩
   refine wpAny_pure ⟨_,rfl,.ref (s.heap.objs.size+1),H',I2,rfl,q _ H' os fr (λb o y=>?_) hD po so⟩
   rw [oth b (Zb y fr) (Zb y frK)]
   exact s1' _ _ y
end
end L2
namespace L2
open PySem PySem.Spec PyProof.Rows
structure MDef (P:Program) (w:World) (K:W.Frag) (mg:Str->Option Value) (base:Heap) (C:Addr) (m:Str) (k:Nat) (ps:List Str) (sp:Sp):Prop where
 ex:∃ (f:Addr) (fd:FuncData),FnOk P w K mg base CX0 k f fd ps sp/\Meth K C m f/\Binds K fd ps []
structure KDef (P:Program) (w:World) (K:W.Frag) (mg:Str->Option Value) (base:Heap) (C:Addr) (x:Str) (k:Nat) (ps:List Str) (sp:Sp):Prop where
 ex:∃ (f:Addr) (fd:FuncData),FnOk P w K mg base CX0 k f fd ps sp/\Mk K C f/\mg x=some (.ref C)/\Binds K fd ps []
section
variable {X:Cx} {x m:Str} {p pos apos:Pos} {e o:PySem.Expr} {es:List PySem.Expr} {ta:TE} {t:TA} {k:Nat} {ps:List Str} {sp:Sp} {C:Addr}
theorem ZZ {pl:Sem Bool} (M:MDef X.prog X.w X.K X.mg X.base C m k ps sp) (hr:Room k X.A) (c:Cls X.K C) (he:PE X o ta) (ha:PA X (e :: es) t) (hn:NSs (e :: es):=by repeat' (first | exact True.intro | refine ⟨?_,?_⟩))
  (ht:eval (.Call (.Attribute o m apos) (e :: es) [] pos) X.env=(do
   let ov ← eval o X.env
   standAt apos.atName
   let (f,first) ← holding [ov] (getMethod ov m pl)
   callWith pos f first (backTo pos (starEach (e :: es) X.env)) (backToKw pos (keywordEach [] X.env))):=by rfl) :
  PE X (.Call (.Attribute o m apos) (e :: es) [] pos) (tMeth C m sp [] E0 ta t):=by
 obtain ⟨f,fd,F,hm,hb⟩:=M.ex
 exact Zml he c hm F hr hb .nil pass0 ha (Zby hn.1) (Zcs hn.2) ht
theorem ZkV (M:KDef X.prog X.w X.K X.mg X.base C x k ps sp) (hr:Room (k+1) X.A) (hg:Gl X x) (ha:PA X (e :: es) t) (hn:NSs (e :: es):=by repeat' (first | exact True.intro | refine ⟨?_,?_⟩)) (hd:(x == ("__debug__" : Str))=false:=by decide) :
  PE X (.Call (.Name x p) (e :: es) [] pos) (tMake C sp [] E0 t):=by
 obtain ⟨f,fd,F,M',hm,hb⟩:=M.ex
 exact Zmm M' F hr hg hm hb .nil pass0 ha (hdb:=hd) (he:=Zby hn.1) (hpl:=Zcs hn.2)
def tNo:TS:=λ_ _ _=>False
theorem ps_no {st:Stmt}:PS X st tNo:=λ_ _ _ _ _ _ h=>False.elim h
end
theorem Fun.okC {P:Program} {w:World} {K:W.Frag} {mg:Str->Option Value} {base:Heap} {x qual:Str} {st:Stmt} {f:Addr} {fd:FuncData} {N ps:List Str} {k:Nat} {sp:Sp} (F:Fun K x qual st f fd) (S:FnScope N ps (Zg st)) (len:∀ vs H Q E,sp vs H Q E->vs.length=ps.length)
  (hbody:∀ (cdv:Value) (A:Around) (outer:List Env) (s:Shared) (H:Hp) (vs:List V) (Q:VK) (E:XK),fd.code=cdv->Room k (A.deeper (envOfC qual (Zg st) s.heap.objs.size f cdv))->sp vs H Q E ->
   ∃ t,PSs (cxOf CX0 P w K mg base N qual (Zg st) f cdv A outer s H E).nox (Zp st) t/\t { nx:=λ_ H'=>Q .non H',rt:=Q } (start N vs) H):FnOk P w K mg base CX0 (k+1) f fd ps sp:=by
 obtain ⟨oc,od,kV,doc,pm,an,cdv,ct,osl,rfl,lk,hcd⟩:=F.ex
 refine fn_of lk hcd S len λA outer s H vs Q E hr hsp=>?_
 obtain ⟨t,h,q⟩:=hbody cdv A outer s H vs Q E rfl hr hsp
 exact ⟨t,h.nox,q⟩
theorem Zbq {X:Cx} {K:W.Frag} {e:PySem.Expr} {f:Str} {pos:Pos} {ta:TE} (hK:X.K=K) (he:PE X e ta) (hb:attributeBase e f X.env (eval e X.env)=eval e X.env):PE X (.Attribute e f pos) (tFld K ta f):=by
 subst hK
 exact Zng he hb
def lamB (osc:Scope) (oN:List Str) (scope:Scope) (x:Str) (fr:List Str) (js:List Nat):Bool :=
 scope.kind == .function && !scope.isCoroutine && !scope.isGenerator && scope.names.all (λy=>y.2 != .cell) && scope.names.lookup x == some .local &&
 scope.names.all (λy=>y.2 != .free || (osc.names.lookup y.1 == some .cell || osc.names.lookup y.1 == some .free)) && fr.length == js.length &&
 (js.map λj=>oN[j]?) == fr.map some && fr.all λy=>scope.names.lookup y == some .free
theorem ZkW {X:Cx} {osc:Scope} {oN:List Str} {scope:Scope} {x:Str} {fr:List Str} {js:List Nat} (h:lamB osc oN scope x fr js=true) (hs:X.env.scope=osc) (hN:X.N=oN):LamOk X scope x fr js:=by
 unfold lamB at h
 simp only [Bool.and_eq_true,all_eq_true,Bool.or_eq_true,beq_iff_eq,bne_iff_ne,ne_eq,Bool.not_eq_true'] at h
 obtain ⟨⟨⟨⟨⟨⟨⟨⟨h1,h2⟩,h3⟩,h4⟩,h5⟩,h6⟩,h7⟩,h8⟩,h9⟩:=h
 refine ⟨h1,h2,h3,h4,h5,λy hy hf=>?_,h7,λk j e=>?_,λk y e=>h9 y (mem_of_getElem? e)⟩
 .rcases h6 y hy with q | q
  .exact absurd hf q
  .show X.env.scope.names.lookup y.1=_\/X.env.scope.names.lookup y.1=_
   rw [hs]; exact q
 .rw [hN]
  have z:=congrArg (λl=>l[k]?) h8
  simp only [getElem?_map,e,Option.map_some] at z
  cases q:fr[k]? with
  | none=>rw [q] at z; cases z
  | some y=>rw [q] at z; exact (Option.some.inj z).symm
theorem Znu {A:Around} {k:Nat} {env:Env} (hr:Room k A):(A.in1.in1.deeper env).units+1<cLine:=by
 have:=hr.un
 show A.units+1+1+3+1<cLine
 omega
def ZlL (K:W.Frag) (P:Addr) (lpos:Pos) (qual:Str) (js:List Nat) (te:TE) (σ:St) (Q:VK) (x:V) (H1:Hp):Prop:=∃ (l:Addr) (ns:List Int) (key:Int->Int),x=.ref l/\SqL K H1 l (ns.map V.int)/\ns.length<64/\ns.Nodup/\H1 P=some (.tbl lpos qual) /\
 (∀ z∈ns,∀ H2,Same H1 H2->te (some (.int z) :: js.map λj=>(σ[j]?).join) H2 λv H'=>v=.int (key z)/\H'=H2) /\
 ∀ (D:Addr) (H':Hp) (os:List Int),H1 D=none->Same H1 H'->H' D=some (.lst (os.map V.int))->os.Perm ns->os.Pairwise (KLt key ns)->Q (.ref D) H'
def Znv (K:W.Frag) (P:Addr) (lpos:Pos) (qual:Str) (js:List Nat) (txs te:TE):TE:=λσ H Q=>txs σ H λx H1=>ZlL K P lpos qual js te σ Q x H1
section
variable {X:Cx}
theorem ZkX {K:W.Frag} {P c0:Addr} {k:Nat} {y:Str} {fr:List Str} {js:List Nat} {qual:Str} {params:Arguments} {body xs:PySem.Expr} {scope:Scope} {p pos lpos kpos:Pos} {txs te:TE} (hK:X.K=K) (hr:Room k X.A) (hcl:X.calm=true) (hg:Gl X "sorted") (hm:X.mg "sorted" = none)
  (c:LamOk X scope y fr js) (hc0:X.env.code=.ref c0) (hcd:W.codeHdIn X.K c0 P=true) (bm:BMod X.base X.mg) (hq:X.env.qual ++ "<lambda>" = qual) (hd0:params.defaults=[]) (hk0:params.kw_defaults=[])
  (hb:∀ cl pm cd ct u,bindArgs (W.kla_fn "<lambda>" qual params body scope cl pm cd ct) ⟨[u],[]⟩=pure [(y,u)]) (ha:PE X xs txs)
  (he:∀ f cd cl s H,PE (cxLam X X.A.in1.in1 (y :: fr) qual scope f cd cl s H) body te) (hn:NSs [xs]:=by repeat' (first | exact True.intro | refine ⟨?_,?_⟩)) :
  PE X (.Call (.Name "sorted" p) [xs] [⟨some "key",.Lambda params body scope lpos,kpos⟩] pos) (Znv K P lpos qual js txs te):=by
 subst hK
 subst hq
 intro pins s σ H Q I h
 refine wpAny_Call_Name_kw (ZbZ I hg hm boot_sorted ?_ (by decide) (by decide))
 refine callWith_kw (thn ((pc ha Zd hn.1) pos pins s σ H (λvs H1=>match vs with | [x]=>ZlL X.K P lpos (X.env.qual ++ "<lambda>") js te σ Q x H1 | _=>False) I h) λus s1 ⟨vs,H1,I1,r1,q1⟩=>?_) (by rw [Zby hn.1]; rfl) (by rw [Zby hn.1]; rfl) rfl rfl
 match vs,r1,q1 with
 | [],_,z=>exact z.elim
 | _ :: _ :: _,_,z=>exact z.elim
 | [x],r1,q1 =>
  obtain ⟨l,ns,key,rfl,hS,h64,nd,hP,ht,q⟩:=q1
  obtain ⟨u,rfl,ru⟩:=vals1 r1
  cases ru
  show wpAny _ _ (evalAll [(do let v ← eval (.Lambda params body scope lpos) X.env; standAt pos; pure v)]) _ _ s1
  refine wpAny_evalAll_cons (wpAny_bind (ZkS c I1 hc0 hcd bm hP hd0 hk0 λf cl cd pm ct of H2 s2 I2 sm cl1 cl2 hf hof hcode=>wpAny_bind (wpAny_standAt (wpAny_pure (wpAny_evalAll_nil ?_)))))
  show wpAny _ _ (call (.builtin "sorted") [.ref l] [(Str.ofString "key",.ref f)]) _ _ s2
  refine ZkU I2 (sm.seq hS) h64 nd (λz hz H3 s3 u sm3 I3 ru=>?_) λD H' os hD sm' hl po so=>q D H' os (sm.free hD) (sm.trans sm') hl po so
  have of3:=(I3.hok f _ (sm3 _ _ hf)).1
  obtain ⟨c',oc,vs',t',rfl,hc',hd',hv'⟩:=hcode
  have oc3:=(I3.hok c' _ (sm3 _ _ hc')).1
  exact ZkR (A:=X.A.in1.in1) c I3 I3.ok.frames (I3.ok.hd hcl) hr.depth cl1 cl2 of3 hof ⟨c',oc,vs',t',rfl,oc3,hd',hv'⟩ (hb cl pm _ ct) ru (λs=>he f _ cl s H3) (ht z hz H3 (sm.trans sm3))
end
theorem Zjq {P:Program} {w:World} {K:W.Frag} {mg mb:Str->Option Value} {CX:CXT} {k:Nat} {fa a tp c0:Addr} {pos:Pos} {qual:Str} {fd:FuncData} {x:Str} {sp:Sp} {s₁:Shared} {vs:List Value} {ns:List Int}
  (KX:K.In s₁.heap) (hns:s₁.heap.Ns mainGlobals mg) (hb:s₁.heap.Ns builtinsNs mb) (hbb:∀ x:Str,x ≠ "__name__" -> mb x=bootBuiltins x) (hlim:s₁.heap.NoLimit) (hg:s₁.gens=#[])
  (ha:s₁.heap.get? a=some { cls:=.type "list",data:=.seq vs.toArray }) (hi:IntsAre vs ns) (hl:ns.length<=sizeLine) (hr:Room k callerA)
  (htp:s₁.heap.get? tp=some { cls:=.none,data:=.fields #[] }) (hch:W.codeHdIn K c0 tp=true) (hKt:K.lookup tp=none)
  (hbm:BMod s₁.heap mg) (F:∀ base:Heap,K.In base->base.Ns mainGlobals mg->BMod base mg->FnOk P w K mg base CX k fa fd [x] sp) (hbind:∀ (s:Shared) (u:Value),BindsTo s fd ⟨[u],[]⟩ [(x,u)])
  (hsp:∀ H:Hp,H tp=some (.tbl pos qual)->SqL K H a (ns.map V.int)->sp [.ref a] H (λv _=>v=.bl true) λ_ _ _=>False)
  (hCX:∀ H e s',CX [] H s₁ (λ_ _ _=>False) e s'->False) :
  codeAny (model P w) callerA (.call (.ref fa) ⟨[.ref a],[]⟩) (λr s'=>r=.ok (.ret (.bool true))/\OldK s₁.heap s'.heap/\s'.os=s₁.os/\AllBare s'.gens) s₁:=by
 have rv:=Zdo hi
 have lenV:=hi.length
 have nat:a≠tp:=λz=>by rw [z,htp] at ha; cases ha
 have core:∀ H:Hp,H tp=some (.tbl pos qual)->SqL K H a (ns.map V.int)->HOk P w H s₁.heap->(∀ b,H b≠none->b=tp\/(b=a/\∃ o xs,H b=some (.frz o (.lst xs))))->(H a≠none->K.lookup a=none) ->
   codeAny (model P w) callerA (.call (.ref fa) ⟨[.ref a],[]⟩) (λr s'=>r=.ok (.ret (.bool true))/\OldK s₁.heap s'.heap/\s'.os=s₁.os/\AllBare s'.gens) s₁:=by
  intro H hT hS hok hA hK
  have noD:∀ {b:Addr} {o:Obj} {es:Array DictEntry} {ep:Nat},s₁.heap.get? b=some o->o.data=.dict es ep->H b=none:=λ{b o es ep} e d=>by
   cases q:H b with
   | none=>rfl
   | some u =>
    rcases hA b (by rw [q]; simp) with z | ⟨z,_⟩
    .rw [z,htp] at e
     cases e
     cases d
    .rw [z,ha] at e
     cases e
     cases d
  have nsK:∀ {b:Addr} {m:Str->Option Value},s₁.heap.Ns b m->(hidT s₁.heap H).Ns b m:=λ{b m} ⟨o,es,ep,e,d,r⟩=>⟨o,es,ep,Zeu e (noD e d),d,r⟩
  have hKb:K.In (hidT s₁.heap H):=λb o e=>Zeu (KX b o e) (by
   cases q:H b with
   | none=>rfl
   | some u =>
    rcases hA b (by rw [q]; simp) with z | ⟨z,_⟩
    .rw [z,hKt] at e
     cases e
    .have n:H a≠none:=by rw [← z,q]; simp
     rw [z,hK n] at e
     cases e)
  have hM:Mod K mg (hidT s₁.heap H):=⟨hKb,nsK hns,⟨mb,nsK hb,hbb⟩,let ⟨mc,h1,h2⟩:=hlim; ⟨mc,nsK h1,h2⟩⟩
  have e0:Env0 P w K mg (hidT s₁.heap H) callerA [] s₁ H:=⟨rfl,hM,λb o e=>Zmd e,Nat.le_of_eq (Ziv _ _),trivial,λb hb=>absurd (show b∈([]:List Addr) from hb) (by simp),hok,.of_eq hg⟩
  have hB:BMod (hidT s₁.heap H) mg:=by
   obtain ⟨b,o,a1,a2,a3,a4,a5,a6,a7⟩:=hbm
   refine ⟨b,o,a1,a2,a3,Zeu a4 ?_,a5,a6,a7⟩
   cases q:H b with
   | none=>rfl
   | some u =>
    rcases hA b (by rw [q]; simp) with z | ⟨z,_⟩
    .rw [z,htp] at a4
     cases a4
     cases a5
    .rw [z,ha] at a4
     cases a4
     have a8:Value.type "list" = Value.type "module" := a5
     injection a8 with a8
     exact absurd a8 (by decide)
  refine codeAny_mono ((F _ hKb (nsK hns) hB).run callerA [] s₁ H ⟨[.ref a],[]⟩ [.ref a] [.ref a] _ _ hr e0 (hbind s₁ (.ref a)) (.cons rfl .nil) (hsp H hT hS)) λr s' h=>?_
  cases r with
  | error e=>exact (hCX H e s' h).elim
  | ok fl =>
   cases fl with
   | next=>exact False.elim h
   | brk=>exact False.elim h
   | cont=>exact False.elim h
   | ret u =>
    obtain ⟨v,H',os,bare,un,hok',r',q⟩:=h
    have q':v=.bl true:=q
    subst q'
    obtain rfl:u=Value.bool true:=r'
    have tab:=(W.codeHd_of_K KX hch).tab htp
    have t2:=hok' tp _ (un.tbls _ _ _ hT)
    obtain ⟨ps,hps,_⟩:=t2
    have old:∀ b o,s₁.heap.get? b=some o->b≠tp->s'.heap.get? b=some o:=λb o e nb=>by
     cases q:H b with
     | none=>exact un.keep b o e q (by intro z; exact absurd (show b∈([]:List Addr) from z) (by simp)) (by simp)
     | some u =>
      rcases hA b (by rw [q]; simp) with z | ⟨_,ob,xs,z⟩
      .exact absurd z nb
      .have z2:=un.frzs b ob _ z
       obtain ⟨e1,_⟩:=hok b _ z
       obtain ⟨e2,_⟩:=hok' b _ z2
       rw [e] at e1
       cases e1
       exact e2
    refine ⟨rfl,⟨λb o e=>?_,λb o e=>?_⟩,os,bare⟩
    .by_cases nb:b=tp
     .subst nb
      rw [htp] at e
      cases e
      exact .inr (.inl ⟨tab.isCodeTable,rfl,#[],ps,rfl,by rw [hps]; simp⟩)
     .exact .inl (old b o e nb)
    .by_cases nb:b=tp
     .subst nb
      exact ⟨_,hps⟩
     .exact ⟨o,old b o e nb⟩
 have tb:∀ H:Hp,ObjOk P w H s₁.heap tp (.tbl pos qual):=λH=>⟨#[],htp,True.intro,λcv e=>by cases e⟩
 cases hk:K.lookup a with
 | some o =>
  have e:=KX a o hk
  rw [ha] at e
  cases e
  refine core (λb=>if b=tp then some (.tbl pos qual) else none) (if_pos rfl) (.inr ⟨_,vs.toArray,_,hk,rfl,rfl,rfl,by rw [List.size_toArray,lenV]; exact hl,by simpa using rv⟩) (λb u z=>?_) (λb z=>?_) λz=>absurd (if_neg nat) z
  .by_cases hb:b=tp
   .have z':=(if_pos hb).symm.trans z
    cases z'
    subst hb
    exact tb _
   .have z':=(if_neg hb).symm.trans z
    cases z'
  .by_cases hb:b=tp
   .exact .inl hb
   .exact absurd (if_neg hb) z
 | none =>
  refine core (λb=>if b=tp then some (.tbl pos qual) else if b=a then some (.frz { cls:=.type "list",data:=.seq vs.toArray } (.lst (ns.map V.int))) else none) (if_pos rfl) (.inl (.inr ⟨{ cls:=.type "list",data:=.seq vs.toArray },(if_neg nat).trans (if_pos rfl)⟩)) (λb u z=>?_) (λb z=>?_) λ_=>hk
  .by_cases hb:b=tp
   .have z':=(if_pos hb).symm.trans z
    cases z'
    subst hb
    exact tb _
   .have z':=(if_neg hb).symm.trans z
    by_cases hb2:b=a
    .have z2:=(if_pos hb2).symm.trans z'
     cases z2
     subst hb2
     exact ⟨ha,by rw [length_map]; exact hl,vs,_,rv,ha⟩
    .have z2:=(if_neg hb2).symm.trans z'
     cases z2
  .by_cases hb:b=tp
   .exact .inl hb
   .by_cases hb2:b=a
    .exact .inr ⟨hb2,_,_,(if_neg hb).trans (if_pos hb2)⟩
    .exact absurd (by show (if b=tp then _ else if b=a then _ else none)=none; rw [if_neg hb,if_neg hb2]) z
theorem ZkY {l:W.OpenLaw} {n k:Nat} {q:Program} {loose:List Str} {XP:(Str->Option Value)->Heap->Prop} {YP:World->Heap->Prop} {d:DefRec} {K:Params->W.Frag} {CX:World->CXT} {sp:World->Sp} {x:Str} {tp:Addr} {pos:Pos} {qual:Str} {G:World->Prop}
  (hn:l.most=some n) (hn2:n<=sizeLine) (hdf:d.params.defaults=[]) (hr:Room k callerA)
  (hY:∀ (w:World) (h:Heap),YP w h->(K w.params).In h/\h.get? tp=some { cls:=.none,data:=.fields #[] })
  (F:∀ (w:World) (mg:Str->Option Value) (fa:Addr) (h:Heap),(K w.params).In h->h.Ns mainGlobals mg->mg d.name=some (.ref fa) ->
   G w/\(∃ c0,W.codeHdIn (K w.params) c0 tp=true)/\(K w.params).lookup tp=none/\∃ fd:FuncData,(∀ (s:Shared) (u:Value),BindsTo s fd ⟨[u],[]⟩ [(x,u)]) /\
    ∀ base:Heap,(K w.params).In base->base.Ns mainGlobals mg->BMod base mg->FnOk l.prog w (K w.params) mg base (CX w) k fa fd [x] (sp w))
  (hsp:∀ (w:World) (H:Hp) (a:Addr) (ns:List Int),G w->ns.length<=n->H tp=some (.tbl pos qual)->SqL (K w.params) H a (ns.map V.int)->sp w [.ref a] H (λv _=>v=.bl true) λ_ _ _=>False)
  (hCX:∀ (w:World) (H:Hp) (s:Shared) (e:Value) (s':Shared),CX w [] H s (λ_ _ _=>False) e s'->False) :
  W.WalkO q loose XP YP l.row.toRowW d [] (λf vs=>PySem.call f vs):=by
 refine Att.attach_call hn hdf λw s₀ s₁ mg mb fa o pm cd doc a vs ns G' Y ho hd hcd hmg hobj hints hlen hg=>?_
 obtain ⟨KX,htp⟩:=hY w _ Y
 obtain ⟨g,⟨c0,hc⟩,hk,fd,hb,hF⟩:=F w mg fa _ KX G'.T.g hmg
 have hbm:BMod s₁.heap mg:=by
  obtain ⟨bm,ob,b1,b2,b3,b4,b5,b6⟩:=G'.T.bmain
  refine ⟨bm,ob,b1,b2,λz=>?_,b3,b4,b5,b6⟩
  obtain ⟨o,es,ep,e,hd',_⟩:=G'.T.g
  rw [z,e] at b3
  cases b3
  rw [hd'] at b6
  cases b6
 exact Zjq KX G'.T.g G'.T.b G'.T.builtins G'.T.nolimit hg hobj hints (Nat.le_trans hlen hn2) hr htp hc hk hbm hF hb (λH hT hS=>hsp w H a ns g hlen hT hS) λH e s'=>hCX w H s₁ e s'
def clsOf (K:W.Frag) (x:Str):Addr:=match W.nsIn K mainGlobals x with
 | some (some (.ref C))=>C
 | _=>0
def tabOf (K:W.Frag) (x m:Str):Addr:=match W.findIn K (.ref (clsOf K x)) m with
 | some (some (.ref f))=>(match K.lookup f with
  | some ⟨_,_,.func fd,_⟩=>(match fd.code with
   | .ref c=>(match K.lookup c with
    | some ⟨_,_,.fields vs,_⟩=>(match (vs[11]?:Option Value) with
     | some (.ref P)=>P
     | _=>0)
    | _=>0)
   | _=>0)
  | _=>0)
 | _=>0
theorem ZkZ {K:W.Frag} {x:Str} {C:Addr} (h:W.nsIn K mainGlobals x=some (some (.ref C))):clsOf K x=C:=by
 unfold clsOf
 rw [h]
theorem Zla {K:W.Frag} {x m:Str} {f c P:Addr} {oc:Value} {od:Option Addr} {fd:FuncData} {sl:Array (Option Value)} (h1:W.findIn K (.ref (clsOf K x)) m=some (some (.ref f))) (h2:K.lookup f=some ⟨oc,od,.func fd,sl⟩) (h3:fd.code=.ref c)
  (h4:W.codeHdIn K c P=true):tabOf K x m=P:=by
 unfold W.codeHdIn at h4
 split at h4
 .rename_i vs _ hk
  simp only [Bool.and_eq_true] at h4
  obtain ⟨⟨⟨⟨⟨e1,_⟩,_⟩,_⟩,_⟩,_⟩:=h4
  split at e1
  .rename_i P' h11
   have hP:P'=P:=beq_iff_eq.mp e1
   subst hP
   unfold tabOf
   simp only [h1,h2,h3,hk,h11]
  .cases e1
 .cases h4
end L2
namespace L2
open PySem PySem.F PyProof.Rows PySem.MeetsSeq
variable {K:W.Frag} {X:Cx} {pins:List Pin} {σ:St} {H:Hp} {s:Shared}
theorem Zhr {ns:List Int}:∀ n,n<ns.length->∃ z,ns[argBest (λi j=>decide (ns.getD i 0<ns.getD j 0)) n]?=some z/\∀ m x,m<=n->ns[m]?=some x->z<=x
 | 0,h=>⟨ns[0],by rw [argBest]; exact getElem?_eq_getElem h,λm x hm e=>by
   obtain rfl:m=0:=by omega
   rw [getElem?_eq_getElem h] at e; cases e; exact Int.le_refl _⟩
 | n+1,h=>by
  obtain ⟨z,e,l⟩:=Zhr (ns:=ns) n (by omega)
  have e1:=getElem?_eq_getElem h
  have g1:ns.getD (n+1) 0=ns[n+1]:=by rw [getD_eq_getElem?_getD,e1]; rfl
  have g2:ns.getD (argBest (λi j=>decide (ns.getD i 0<ns.getD j 0)) n) 0=z:=by rw [getD_eq_getElem?_getD,e]; rfl
  rw [argBest]
  rw [g1,g2]
  by_cases c:ns[n+1]<z
  .rw [if_pos (decide_eq_true c)]
   refine ⟨_,e1,λm x hm q=>?_⟩
   by_cases q1:m=n+1
   .rw [q1,e1] at q; cases q; exact Int.le_refl _
   .exact Int.le_of_lt (Int.lt_of_lt_of_le c (l m x (by omega) q))
  .rw [if_neg (by simpa using c)]
   refine ⟨z,e,λm x hm q=>?_⟩
   by_cases q1:m=n+1
   .rw [q1,e1] at q; cases q; omega
   .exact l m x (by omega) q
def rMinI (K:W.Frag):List V->Hp->VK->Prop:=λxs H Q=>∃ (p:Addr) (ns:List Int),xs=[.ref p]/\SqL K H p (ns.map V.int)/\ns≠[]/\∀ z,z∈ns->(∀ x∈ns,z<=x)->Q (.int z) H
theorem Zjr (hc:X.calm=true) (hK:X.K=K):CallR X (.builtin "min") (rMinI K):=by
 subst hK
 intro pins s σ H xs us Q I r h
 obtain ⟨p,ns,rfl,hq,hne,q⟩:=h
 obtain ⟨u,rfl,rx⟩:=vals1 r
 cases rx
 obtain ⟨its,rv,pl,hz⟩:=I.list hq
 have hl:ns.length=its.length:=by have:=rv.length; rwa [length_map] at this
 have hval:∀ (i:Nat) (v:Value),its.toArray[i]?=some v->i<ns.length/\∃ t,v=.int (ns.getD i 0) t:=λi v e=>by
  have e':its[i]?=some v:=by simpa using e
  obtain ⟨n,t,e1,rfl⟩:=ZcU (ZaW rv) e'
  exact ⟨(List.getElem?_eq_some_iff.mp e1).1,t,by rw [getD_eq_getElem?_getD,e1]; rfl⟩
 have pos:0<its.length:=by rw [← hl]; exact List.length_pos_iff.mpr hne
 have lt:p<s.heap.objs.size:=by obtain ⟨o,e,_⟩:=pl.isList; exact Heap.lt_size e
 refine Zdx (wpAny_pyIter_list pl.isList ?_)
 refine ⟨s.heap.objs.size,_,[s.heap.objs.size],_,_,_,λi j=>decide (ns.getD i 0<ns.getD j 0),λ_=>True,rfl,Walks.list (A:=X.A.in1) (show X.A.in1.handled=none from I.ok.hd hc) s.heap.objs.size p (Nat.ne_of_lt lt) its.toArray,⟨⟨_,Heap.get?_push_size _ rfl,rfl,rfl⟩,pl.isList.at λo e=>Heap.get?_push_of_some _ e⟩,?_,by simpa using pos,True.intro,λ_ _ _ _=>True.intro,?_,?_⟩
 .intro b hb'
  show b<(s.heap.push _).objs.size
  rw [Heap.size_push]
  simp only [mem_cons,not_mem_nil,or_false] at hb'
  rcases hb' with rfl | rfl
  .exact Nat.lt_succ_self _
  .exact Nat.lt_succ_of_lt lt
 .intro i j u v t Q' E' g ai aj q'
  obtain ⟨_,t1,rfl⟩:=hval i u ai
  obtain ⟨_,t2,rfl⟩:=hval j v aj
  exact wpAny_lt_int q'
 .intro v h' tk hv hk
  obtain ⟨li,t,rfl⟩:=hval _ v hv
  obtain ⟨z,e,l⟩:=Zhr (ns:=ns) (its.toArray.size - 1) (by rw [List.size_toArray]; omega)
  have ez:ns.getD (argBest (λi j=>decide (ns.getD i 0<ns.getD j 0)) (its.toArray.size - 1)) 0=z:=by rw [getD_eq_getElem?_getD,e]; rfl
  refine ⟨.int z,H,I.kept (t':=tk) (λb o e=>hk b o (by simpa using Nat.ne_of_lt (Heap.lt_size e)) (Heap.get?_push_of_some _ e)),⟨t,by rw [ez]⟩,q z (mem_of_getElem? e) λx hx=>?_⟩
  obtain ⟨m,hm,rfl⟩:=List.getElem_of_mem hx
  exact l m _ (by rw [List.size_toArray]; omega) (getElem?_eq_getElem hm)
theorem ZaJ {e:PySem.Expr} {T:String} {r:V->List V->Hp->VK->Prop} {to:TE} {t:TA} (hK:X.K=K) (h:PE X e (tBM X.K T r to t)):PE X e (tBM K T r to t):=by
 subst hK; exact h
end L2
namespace L2
open PySem PySem.Calls PyProof.Rows PySem.MeetsSeq PySem.W
variable {K:W.Frag} {X:Cx} {pins:List Pin} {σ:St} {H:Hp} {s:Shared}
theorem Zjs {K:W.Frag} {a:Addr} {xs:List V} {l:Addr} {g:TG} {tc:TT} {te:TE} {σ0:St} {H0:Hp} {Qf:Hp->Prop} (Pv:Nat->List V->St->Hp->Prop) (h0:Pv 0 [] σ0 H0)
  (hl:∀ i ys σ' H',i<=xs.length->Pv i ys σ' H'->SqL K H' a xs)
  (hs:∀ i x t ys σ' H',i<xs.length->xs[i]?=some x->ys.length<=i->Pv i ys σ' H'->H' t=none->g (.ref t) σ' (upd H' t (.tup [.int i,x])) λσ2 H3=>tc σ2 H3 λb H4=>if b=true then te σ2 H4 λy H5=>CNx xs.length l Pv i ys σ2 y H5 else CNo xs.length Pv i ys σ2 H4)
  (hd:∀ ys σ' H',ys.length<=xs.length->Pv xs.length ys σ' H'->Qf H') :
  ∃ W:Nat->Nat->List V->St->Hp->Prop,(∃ m,W 0 m [] σ0 H0)/\∀ i m ys σ' H',W i m ys σ' H' ->
  ((Ite K a).stop i H'/\Qf H')\/((Ite K a).go i H'/\∀ x H2,(Ite K a).yld i H' x H2->g x σ' H2 λσ2 H3=>tc σ2 H3 λb H4 =>
    if b=true then te σ2 H4 λy H5=>H5 l=some (.lst ys)/\ys.length<sizeLine/\∃ m',m'<m/\W (i+1) m' (ys++[y]) σ2 (upd H5 l (.lst (ys++[y])))
    else ∃ m',m'<m/\W (i+1) m' ys σ2 H4):=by
 refine ⟨λi m ys σ' H'=>m=xs.length - i/\i<=xs.length/\ys.length<=i/\Pv i ys σ' H',⟨xs.length,rfl,Nat.zero_le _,Nat.le_refl _,h0⟩,?_⟩
 rintro i m ys σ' H' ⟨rfl,hi,hy,p⟩
 have q:=hl i ys σ' H' hi p
 by_cases hlt:i<xs.length
 .refine .inr ⟨⟨xs,xs[i],q,by simp [hlt]⟩,λx H2 z=>?_⟩
  obtain ⟨t,u,ht,rfl,rfl,z1⟩:=z
  exact hs i u t ys σ' _ hlt (z1 xs q) hy p ht
 .have e:i=xs.length:=by omega
  subst e
  exact .inl ⟨⟨xs,q,rfl⟩,hd ys σ' H' hy p⟩
end L2
namespace L2
open PySem PySem.Calls PySem.Spec PyProof.Rows PySem.W
theorem Room.m {j k:Nat} {A:Around} (r:Room k A) (h:j<=k:=by first | decide | omega):Room j A:=r.mono h
section
variable {X:Cx} {pos:Pos}
theorem pgn (i:Nat) {x:Str} (hN:X.N.Nodup) (hi:X.N[i]?=some x:=by rfl) (hx:Loc X.env.scope x:=by first | exact Or.inl rfl | exact Or.inr rfl) (hf:X.fn x=true\/X.env.scope.names.lookup x=some .local:=by first | exact .inl rfl | exact .inr rfl | assumption):PG X (.Name x pos) (gName i):=Zme hN hi hx hf
theorem pst (i:Nat) {x:Str} {e:PySem.Expr} {te:TE} {pos':Pos} (hN:X.N.Nodup) (he:PE X e te) (hi:X.N[i]?=some x:=by rfl) (hx:Loc X.env.scope x:=by first | exact Or.inl rfl | exact Or.inr rfl) (hs:swapsWith e (some (.Name x pos')) pos.line X.env=pure false:=by rfl) (hf:X.fn x=true\/X.env.scope.names.lookup x=some .local:=by first | exact .inl rfl | exact .inr rfl | assumption):PS X (.Assign [.Name x pos'] e pos) (tAsg te (gName i)):=Znc hN hi hx he hs hf
end
end L2
namespace L2
open PySem PySem.F PyProof.Rows
variable {K:W.Frag} {X:Cx} {pins:List (Addr×Obj)} {σ:St} {H H':Hp} {s:Shared}
def flatD:V->PyData->Prop
 | .non,d=>d=.none
 | .bl b,d=>d=.bool b
 | .int i,d=>d=.int i/\i.natAbs.log2<1920
 | .str x,d=>d=.str x
 | _,_=>False
def RdN (N:Addr->Prop) (H:Hp):Nat->V->PyData->Prop
 | 0=>flatD
 | n+1=>λv d=>flatD v d\/∃ a xs ds,v=.ref a/\¬ N a/\Paired (RdN N H n) xs ds/\((H a=some (.lst xs)/\d=.list ds)\/(H a=some (.tup xs)/\d=.tuple ds))
theorem RdN.keep {N M:Addr->Prop} (m:∀ a,M a->N a) (k:∀ a o,¬ N a->H a=some o->H' a=some o):∀ {n:Nat} {v:V} {d:PyData},RdN N H n v d->RdN M H' n v d
 | 0,_,_,h=>h
 | n+1,v,d,h=>by
  rcases h with h | ⟨a,xs,ds,e,na,r,c⟩
  .exact .inl h
  .exact .inr ⟨a,xs,ds,e,λz=>na (m a z),Paired.mapP r λ_ _ q=>RdN.keep m k q,c.imp (λc=>⟨k a _ na c.1,c.2⟩) λc=>⟨k a _ na c.1,c.2⟩⟩
theorem Zek {h:Heap} {v:V} {d:PyData} {u:Value} (f:flatD v d) (r:RelV v u):Reads h u d []/\d.showable=true/\d.hasDict=false/\d.depth=0:=by
 cases v with
 | non=>cases f; cases r; exact ⟨.none,rfl,rfl,rfl⟩
 | bl b=>cases f; cases r; exact ⟨.bool b,rfl,rfl,rfl⟩
 | int i =>
  obtain ⟨rfl,z⟩:=f
  obtain ⟨t,rfl⟩:=r
  exact ⟨.int i t,by simp only [PyData.showable]; exact decide_eq_true z,rfl,rfl⟩
 | str x=>cases f; obtain ⟨t,rfl⟩:=r; exact ⟨.str x t,rfl,rfl,rfl⟩
 | _=>exact f.elim
theorem ZdB {h:Heap} {n:Nat} {F:V->PyData->Prop} (hF:∀ v d u,F v d->RelV v u->∃ as,Reads h u d as/\d.showable=true/\d.hasDict=false/\d.depth<=n) :
  ∀ {xs:List V} {ds:List PyData} {us:List Value},Paired F xs ds->Vals xs us->∃ as,ReadsAll h us ds as/\PyData.showableAll ds=true/\PyData.hasDictAll ds=false/\PyData.depthAll ds<=n
 | _,_,_,.nil,.nil=>⟨[],.nil,rfl,rfl,Nat.zero_le _⟩
 | _,_,_,.cons f p,.cons r q=>by
  obtain ⟨as,r1,r2,r3,r4⟩:=hF _ _ _ f r
  obtain ⟨bs,t1,t2,t3,t4⟩:=ZdB hF p q
  refine ⟨as++bs,.cons r1 t1,?_,?_,?_⟩
  .simp only [PyData.showableAll,r2,t2,Bool.and_self]
  .simp only [PyData.hasDictAll,r3,t3,Bool.or_self]
  .simp only [PyData.depthAll]; exact Nat.max_le.mpr ⟨r4,t4⟩
theorem ZeI {N:Addr->Prop} (I:Inv X pins σ H s):∀ (n:Nat) {v:V} {d:PyData} {u:Value},RdN N H n v d->RelV v u->∃ as,Reads s.heap u d as/\d.showable=true/\d.hasDict=false/\d.depth<=n
 | 0,v,d,u,h,r=>let ⟨a,b,c,e⟩:=Zek h r; ⟨[],a,b,c,Nat.le_of_eq e⟩
 | n+1,v,d,u,h,r=>by
  rcases h with h | ⟨a,xs,ds,rfl,_,p,c⟩
  .obtain ⟨a,b,c,e⟩:=Zek h r
   exact ⟨[],a,b,c,by rw [e]; exact Nat.zero_le _⟩
  .cases r
   rcases c with ⟨c,rfl⟩ | ⟨c,rfl⟩
   .obtain ⟨its,rv,⟨o,m,e,hc,_,hd⟩,_⟩:=I.list (SqL.of c)
    obtain ⟨as,t1,t2,t3,t4⟩:=ZdB (λv d u f r=>ZeI I n f r) p rv
    refine ⟨a :: as,.list e hc hd (by simpa using t1),?_,?_,?_⟩
    .simp only [PyData.showable,t2]
    .simp only [PyData.hasDict,t3]
    .simp only [PyData.depth]; omega
   .obtain ⟨its,rv,⟨o,e,hc,m,hd⟩,_⟩:=I.tuple (SqT.of c)
    obtain ⟨as,t1,t2,t3,t4⟩:=ZdB (λv d u f r=>ZeI I n f r) p rv
    refine ⟨as,.tuple e hc hd (by simpa using t1),?_,?_,?_⟩
    .simp only [PyData.showable,t2]
    .simp only [PyData.hasDict,t3]
    .simp only [PyData.depth]; omega
def rStrD:List V->Hp->VK->Prop:=λxs H Q=>∃ (N:Addr->Prop) (a:Addr) (n:Nat) (d:PyData),xs=[.ref a]/\n<=10/\RdN N H n (.ref a) d/\d.shown.length<=sizeLine/\Q (.str d.shown) H
theorem ZfI (hg:X.A.guards=some []) (hu:X.A.units+1+20<cLine):CallR X (.type "str") rStrD:=by
 intro pins s σ H xs us Q I r h
 obtain ⟨N,a,n,d,rfl,hn,hr,hz,q⟩:=h
 obtain ⟨u,rfl,rx⟩:=vals1 r
 cases rx
 obtain ⟨as,rd,hs,hd,dp⟩:=ZeI I n hr rfl
 exact str_of_reads rd hs (λz=>by rw [hd] at z; cases z) hg (by omega) (λ_ _ e=>e) (λh' u tk k=>⟨.str d.shown,H,I.kept k,⟨u,rfl⟩,q⟩) hz
theorem ZfJ {B:Nat}:∀ {ds:List PyData},(∀ d∈ds,d.shown.length<=B)->((PyData.shownAll ds).map (·.length)).sum<=ds.length * B/\(PyData.shownAll ds).length=ds.length
 | [],_=>⟨by simp [PyData.shownAll],by simp [PyData.shownAll]⟩
 | d :: ds,h=>by
  obtain ⟨h1,h2⟩:=ZfJ (ds:=ds) λe he=>h e (mem_cons_of_mem _ he)
  have h0:=h d (mem_cons_self ..)
  simp only [PyData.shownAll,map_cons,List.sum_cons,length_cons,h2]
  refine ⟨?_,trivial⟩
  rw [Nat.add_mul]; omega
theorem Zel {B m:Nat} {ds:List PyData} (h:∀ d∈ds,d.shown.length<=B) (hm:ds.length<=m):(PyData.shown (.list ds)).length<=m * (B+2)+3:=by
 obtain ⟨h1,h2⟩:=ZfJ h
 have h3:=listText_len_le (PyData.shownAll ds)
 simp only [PyData.shown]
 have h4:ds.length * (B+2)<=m * (B+2):=Nat.mul_le_mul_right _ hm
 rw [Nat.mul_add] at h4
 omega
end L2
namespace L2
open PySem PySem.F PyProof.Rows PySem.MeetsSeq
variable {K:W.Frag} {X:Cx}
end L2
namespace L2.Stg
open PySem PySem.Spec PyProof.Rows
structure RR where
 r:Keyed->Nat
 g:Keyed->Int
def Kg (ρ:RR) (xs:Array Keyed) (i:Nat):Int:=(xs[i]?).elim 0 ρ.g
theorem Kg_congr {ρ:RR} {xs ys:Array Keyed} {i j:Nat} (h:xs[i]?=ys[j]?):Kg ρ xs i=Kg ρ ys j:=by unfold Kg; rw [h]
theorem Kg_bubble {ρ:RR} {xs:Array Keyed} {src d:Nat} (hs:src<xs.size) (hd:d<=src) (k:Nat) :
  Kg ρ (bubble xs src d) k=if k=src - d then Kg ρ xs src else if src - d<k/\k<=src then Kg ρ xs (k - 1) else Kg ρ xs k:=by
 have e:=getElem?_bubble hs d hd k
 by_cases c:k=src - d
 .rw [if_pos c] at e ⊢; exact Kg_congr e
 .by_cases c2:src - d<k/\k<=src
  .rw [if_neg c,if_pos c2] at e ⊢; exact Kg_congr e
  .rw [if_neg c,if_neg c2] at e ⊢; exact Kg_congr e
theorem Kg_mirror {ρ:RR} {xs:Array Keyed} {i j:Nat} (hj:j<=xs.size) (k:Nat) :
  Kg ρ (mirror xs i j ((j - i) / 2)) k=if i<=k/\k<j then Kg ρ xs (i+j - 1 - k) else Kg ρ xs k:=by
 have e:=getElem?_mirror_all (i:=i) hj k
 by_cases c:i<=k/\k<j
 .rw [if_pos c] at e ⊢; exact Kg_congr e
 .rw [if_neg c] at e ⊢; exact Kg_congr e
theorem Kg_mirror_equal {ρ:RR} {xs:Array Keyed} {i j:Nat} (hj:j<=xs.size) (al:∀ k,i<=k->k<j->Kg ρ xs k=Kg ρ xs (j - 1)) (k:Nat):Kg ρ (mirror xs i j ((j - i) / 2)) k=Kg ρ xs k:=by
 rw [Kg_mirror hj]
 by_cases c:i<=k/\k<j
 .rw [if_pos c,al _ (by omega) (by omega),al k c.1 c.2]
 .rw [if_neg c]
def Cmp (prog:Program) (w:World) (A:Around) (s:Shared) (κ:SortKind) (ρ:RR) (a₀:Array Keyed):Prop :=
 ∀ p,p∈a₀.toList->∀ q,q∈a₀.toList->∀ (E:Value->Shared->Prop) (Q:Bool->Shared->Prop),Q (decide (ρ.g p<ρ.g q)) s->wpAny (model prog w) A (keyLt' κ p.1 q.1) Q E s
end L2.Stg
namespace L2
open PySem PySem.Spec PyProof.Rows
section
open PySem.SeqAt
open PySem.AutoSeq1 (wpAny_loadPart')
open PySem.MeetsSeq PySem.MeetsSeq2 PySem.MeetsSeq3
end
section
variable {prog:Program} {w:World} {A:Around} {E:Value->Shared->Prop} {s:Shared}
def srtH (h:Heap) (a:Addr) (us:List Value):Heap:=((h.update a (Obj.mapSeq λ_=>#[])).push (seqObj "tuple" us.toArray 0)).push (seqObj "list" #[] 0)
theorem Zlb {h:Heap} {a b:Addr} {us:List Value} {o:Obj} (n:b≠a) (e:h.get? b=some o):(srtH h a us).get? b=some o :=
 Heap.get?_push_of_some _ (Heap.get?_push_of_some _ (by rw [Heap.get?_update_ne _ _ _ _ n]; exact e))
def srtG (h:Heap) (us:List Value):Heap:=((h.push (seqObj "list" #[] 0)).update h.objs.size (Obj.mapSeq (·++us.toArray))).push (seqObj "list" us.toArray 0)
theorem Zlc {h:Heap} {b:Addr} {us:List Value} {o:Obj} (e:h.get? b=some o):(srtG h us).get? b=some o :=
 Heap.get?_push_of_some _ (by rw [Heap.get?_update_ne _ _ _ _ (Nat.ne_of_lt (Heap.lt_size e))]; exact Heap.get?_push_of_some _ e)
end
variable {K:W.Frag} {X:Cx}
end L2
namespace L2.Stm
open PySem PySem.Spec PyProof.Rows
def Zcu:Bool->Keyed->Array Keyed->Nat->Nat->Nat->StateT SortSt Sem (Option Nat):=sortPriv% PySem.Builtin.gallop
def Zag:Nat->StateT SortSt Sem Unit:=sortPriv% PySem.Builtin.setMinGallop
def ZeJ:Array Keyed->Array Keyed->StateT SortSt Sem (Array Keyed):=sortPriv% PySem.Builtin.mergeLo
def ZeK:Array Keyed->Array Keyed->StateT SortSt Sem (Array Keyed):=sortPriv% PySem.Builtin.mergeHi
def byd (left:Bool) (key:Keyed) (arr:Array Keyed) (base i:Nat):StateT SortSt Sem (Option Bool):=do
 let x ← elem' arr (base+i)
 if left then lt' x key else return (← lt' key x).map (!·)
def gBin (left:Bool) (key:Keyed) (arr:Array Keyed) (base n lo0 hi0:Nat):StateT SortSt Sem (Option Nat):=do
 let mut lo:=lo0
 let mut hi:=hi0
 for _ in [0:n] do
  if lo ≥ hi then break
  let m:=lo+(hi - lo) / 2
  let some more ← byd left key arr base m | return none
  if more then lo:=m+1 else hi:=m
 return some hi
def gUp (left:Bool) (key:Keyed) (arr:Array Keyed) (base n hint:Nat):StateT SortSt Sem (Option Nat):=do
 let mut lastofs:=0
 let mut ofs:=1
 for _ in [0:n] do
  if ofs ≥ n - hint then break
  let some more ← byd left key arr base (hint+ofs) | return none
  if !more then break
  lastofs:=ofs
  ofs:=2 * ofs+1
 gBin left key arr base n (hint+lastofs+1) (hint+min ofs (n - hint))
def gDn (left:Bool) (key:Keyed) (arr:Array Keyed) (base n hint:Nat):StateT SortSt Sem (Option Nat):=do
 let mut lastofs:=0
 let mut ofs:=1
 for _ in [0:n] do
  if ofs ≥ hint+1 then break
  let some found ← byd left key arr base (hint - ofs) | return none
  if found then break
  lastofs:=ofs
  ofs:=2 * ofs+1
 gBin left key arr base n (hint+1 - min ofs (hint+1)) (hint - lastofs)
theorem Zib (left:Bool) (key:Keyed) (arr:Array Keyed) (base n hint:Nat):Zcu left key arr base n hint=(do
 let some right ← byd left key arr base hint | return none
 if right then gUp left key arr base n hint else gDn left key arr base n hint):=rfl
theorem ZcN (g:Nat):Zag g=modify (λs=>SortSt.mk' (kindOf s) (arrOf s) (pendingOf s) g (failedOf s)):=rfl
theorem by_eq {σ α:Type} {M:Model} {A:Around} {E:Value->Shared->Prop} {s:Shared} {m m':StateT σ Sem α} {Q:α->σ->Prop} {st:σ} (e:m=m') (h:wpS M A E s m' Q st):wpAny M A (m st) (λr s'=>s'=s/\Q r.1 r.2) E s:=by subst e; exact h
section
variable {prog:Program} {w:World} {A:Around} {E:Value->Shared->Prop} {s:Shared} {a₀:Array Keyed} {κ:SortKind} {ρ:Stg.RR}
theorem lt_ok {st:SortSt} {p q:Keyed} {Q:Option Bool->SortSt->Prop} (hk:kindOf st=κ) (h0:Stg.Cmp prog w A s κ ρ a₀) (mp:p∈a₀.toList) (mq:q∈a₀.toList) (h:Q (some (decide (ρ.g p<ρ.g q))) st):wpS (model prog w) A E s (lt' p q) Q st:=by
 rw [lt'_eq]
 refine wpS_bind (wpS_get ?_)
 rw [hk]
 exact wpS_bind (wpS_lift (wpAny_attempt (h0 p mp q mq _ _ ⟨rfl,wpS_pure h⟩)))
theorem ZG {st:SortSt} {arr:Array Keyed} {i:Nat} {Q:Keyed->SortSt->Prop} (hi:i<arr.size) (h:Q arr[i] st):wpS (model prog w) A E s (elem' arr i) Q st:=by
 rw [elem'_eq,getElem?_pos arr i hi]
 exact wpS_pure h
theorem kg_at {arr:Array Keyed} {i:Nat} (hi:i<arr.size):Stg.Kg ρ arr i=ρ.g arr[i]:=by
 unfold Stg.Kg
 rw [getElem?_pos arr i hi]
 rfl
def Bd (ρ:Stg.RR) (left:Bool) (kv:Int) (arr:Array Keyed) (base i:Nat):Bool:=if left then decide (Stg.Kg ρ arr (base+i)<kv) else !decide (kv<Stg.Kg ρ arr (base+i))
theorem Znw {st:SortSt} {left:Bool} {key:Keyed} {arr:Array Keyed} {base i:Nat} {Q:Option Bool->SortSt->Prop} (hk:kindOf st=κ) (h0:Stg.Cmp prog w A s κ ρ a₀) (ha:∀ p∈arr.toList,p∈a₀.toList) (mk:key∈a₀.toList) (hi:base+i<arr.size) (h:Q (some (Bd ρ left (ρ.g key) arr base i)) st):wpS (model prog w) A E s (byd left key arr base i) Q st:=by
 unfold byd
 refine wpS_bind (ZG hi ?_)
 have m:arr[base+i]∈a₀.toList:=ha _ (by simp)
 unfold Bd at h
 rw [kg_at hi] at h
 cases left with
 | true =>
  simp only [if_true] at h ⊢
  exact lt_ok hk h0 m mk h
 | false =>
  simp only [Bool.false_eq_true,if_false] at h ⊢
  exact wpS_bind (lt_ok hk h0 mk m (wpS_pure h))
structure Cut (ρ:Stg.RR) (left:Bool) (kv:Int) (arr:Array Keyed) (base n k:Nat):Prop where
 le:k<=n
 lo:∀ i,i<k->Bd ρ left kv arr base i=true
 hi:∀ i,k<=i->i<n->Bd ρ left kv arr base i=false
def Srt (ρ:Stg.RR) (arr:Array Keyed) (a b:Nat):Prop:=∀ i j,a<=i->i<=j->j<b->Stg.Kg ρ arr i<=Stg.Kg ρ arr j
theorem ZmB {left:Bool} {kv:Int} {arr:Array Keyed} {base n i j:Nat} (hs:Srt ρ arr base (base+n)) (hij:i<=j) (hj:j<n) (h:Bd ρ left kv arr base j=true):Bd ρ left kv arr base i=true:=by
 have q:=hs (base+i) (base+j) (by omega) (by omega) (by omega)
 unfold Bd at h ⊢
 cases left with
 | true =>
  simp only [if_true,decide_eq_true_eq] at h ⊢
  omega
 | false =>
  simp only [Bool.false_eq_true,if_false,Bool.not_eq_true',decide_eq_false_iff_not] at h ⊢
  omega
section
variable {st:SortSt} {left:Bool} {key:Keyed} {arr:Array Keyed} {base n:Nat} {Q:Option Nat->SortSt->Prop} {P:Nat->Bool}
theorem Zjt {lo hi:Nat} (B:∀ {i:Nat} {Q:Option Bool->SortSt->Prop},i<n->Q (some (P i)) st->wpS (model prog w) A E s (byd left key arr base i) Q st)
  (up:∀ {i j:Nat},i<=j->j<n->P j=true->P i=true) (dn:∀ {i j:Nat},i<=j->j<n->P i=false->P j=false)
  (h:∀ k,k<=n->(∀ i,i<k->P i=true)->(∀ i,k<=i->i<n->P i=false)->Q (some k) st)
  (hlh:lo<=hi) (hhn:hi<=n) (u1:∀ i,i<lo->P i=true) (u2:∀ i,hi<=i->i<n->P i=false):wpS (model prog w) A E s (gBin left key arr base n lo hi) Q st:=by
 unfold gBin
 refine wpS_bind (wpS_mono (wpS_forRange (I:=λx c st2=>st2=st/\∃ l r,c=(none,l,r)/\l<=r/\r<=n/\r - l<=n - x/\(∀ i,i<l->P i=true)/\(∀ i,r<=i->i<n->P i=false))
  (Q:=λc st2=>st2=st/\∃ r,c=(none,r,r)/\r<=n/\(∀ i,i<r->P i=true)/\(∀ i,r<=i->i<n->P i=false)) ?iturn ?ilast ?ifirst) ?iafter)
 case ifirst=>exact ⟨rfl,lo,hi,rfl,hlh,hhn,by omega,u1,u2⟩
 case ilast =>
  rintro c st2 ⟨rfl,l,r,rfl,hlr,hrk,hm,u1,u2⟩
  have e:l=r:=by omega
  subst e
  exact ⟨rfl,l,rfl,hrk,u1,u2⟩
 case iturn =>
  rintro x c st2 _ hxk ⟨rfl,l,r,rfl,hlr,hrk,hm,u1,u2⟩
  dsimp only
  by_cases hge:l ≥ r
  .rw [if_pos hge]
   have e:l=r:=by omega
   subst e
   exact wpS_pure ⟨rfl,l,rfl,hrk,u1,u2⟩
  .rw [if_neg hge]
   refine wpS_bind (B (by omega) ?_)
   dsimp only
   cases c:P (l+(r - l) / 2) with
   | true =>
    rw [if_pos rfl]
    exact wpS_pure ⟨rfl,l+(r - l) / 2+1,r,rfl,by omega,by omega,by omega,λi p=>up (j:=l+(r - l) / 2) (by omega) (by omega) c,u2⟩
   | false =>
    rw [if_neg (by simp)]
    exact wpS_pure ⟨rfl,l,l+(r - l) / 2,rfl,by omega,by omega,by omega,u1,λi p q=>dn p q c⟩
 case iafter =>
  rintro c st2 ⟨rfl,r,rfl,hrn,u1,u2⟩
  exact wpS_pure (h r hrn u1 u2)
end
theorem Zbs {st:SortSt} {left:Bool} {key:Keyed} {arr:Array Keyed} {base n hint:Nat} {Q:Option Nat->SortSt->Prop} (hk:kindOf st=κ) (h0:Stg.Cmp prog w A s κ ρ a₀) (ha:∀ p∈arr.toList,p∈a₀.toList) (mk:key∈a₀.toList) (hb:base+n<=arr.size) (hh:hint<n) (hs:Srt ρ arr base (base+n))
  (h:∀ k,Cut ρ left (ρ.g key) arr base n k->Q (some k) st):wpS (model prog w) A E s (Zcu left key arr base n hint) Q st:=by
 rw [Zib]
 have B:∀ {i:Nat} {Q:Option Bool->SortSt->Prop},i<n->Q (some (Bd ρ left (ρ.g key) arr base i)) st->wpS (model prog w) A E s (byd left key arr base i) Q st:=λ{i Q} hi hq=>Znw hk h0 ha mk (by omega) hq
 have up:∀ {i j:Nat},i<=j->j<n->Bd ρ left (ρ.g key) arr base j=true->Bd ρ left (ρ.g key) arr base i=true:=λhij hj hq=>ZmB hs hij hj hq
 have h:=λk c1 c2 c3=>h k ⟨c1,c2,c3⟩
 generalize Bd ρ left (ρ.g key) arr base=P at *
 have dn:∀ {i j:Nat},i<=j->j<n->P i=false->P j=false:=λ{i j} hij hj hq=>by
  cases e:P j with
  | false=>rfl
  | true=>rw [up hij hj e] at hq; exact hq
 refine wpS_bind (B hh ?_)
 dsimp only
 cases e:P hint with
 | true =>
  rw [if_pos rfl]
  unfold gUp
  refine wpS_bind (wpS_mono (wpS_forRange (I:=λx c st2=>st2=st/\∃ l o,c=(none,l,o)/\l<o/\x+1<=o/\hint+l<n/\P (hint+l)=true)
   (Q:=λc st2=>st2=st/\∃ l o,c=(none,l,o)/\l<o/\hint+l<n/\P (hint+l)=true/\(n - hint<=o\/hint+o<n/\P (hint+o)=false)) ?jturn ?jlast ?jfirst) ?jafter)
  case jfirst=>exact ⟨rfl,0,1,rfl,by omega,by omega,by omega,e⟩
  case jlast =>
   rintro c st2 ⟨rfl,l,o,rfl,hlo,hxo,hln,hp⟩
   exact ⟨rfl,l,o,rfl,hlo,hln,hp,.inl (by omega)⟩
  case jturn =>
   rintro x c st2 _ hxk ⟨rfl,l,o,rfl,hlo,hxo,hln,hp⟩
   dsimp only
   by_cases hge:o ≥ n - hint
   .rw [if_pos hge]
    exact wpS_pure ⟨rfl,l,o,rfl,hlo,hln,hp,.inl hge⟩
   .rw [if_neg hge]
    refine wpS_bind (B (by omega) ?_)
    dsimp only
    cases c:P (hint+o) with
    | true =>
     rw [if_neg (by simp)]
     exact wpS_pure ⟨rfl,o,2 * o+1,rfl,by omega,by omega,by omega,c⟩
    | false =>
     rw [if_pos (by simp)]
     exact wpS_pure ⟨rfl,l,o,rfl,hlo,hln,hp,.inr ⟨by omega,c⟩⟩
  case jafter =>
   rintro c st2 ⟨rfl,l,o,rfl,hlo,hln,hp,ho⟩
   refine Zjt B up dn h (by dsimp only; omega) (by dsimp only; omega) (λi hi=>up (j:=hint+l) (by dsimp only at hi; omega) hln hp) (λi p q=>?_)
   dsimp only at p
   rcases ho with ho | ⟨ho,c⟩
   .omega
   .exact dn (i:=hint+o) (by omega) q c
 | false =>
  rw [if_neg (by simp)]
  unfold gDn
  refine wpS_bind (wpS_mono (wpS_forRange (I:=λx c st2=>st2=st/\∃ l o,c=(none,l,o)/\l<o/\x+1<=o/\l<=hint/\P (hint - l)=false)
   (Q:=λc st2=>st2=st/\∃ l o,c=(none,l,o)/\l<o/\l<=hint/\P (hint - l)=false/\(hint+1<=o\/o<=hint/\P (hint - o)=true)) ?kturn ?klast ?kfirst) ?kafter)
  case kfirst=>exact ⟨rfl,0,1,rfl,by omega,by omega,by omega,e⟩
  case klast =>
   rintro c st2 ⟨rfl,l,o,rfl,hlo,hxo,hln,hp⟩
   exact ⟨rfl,l,o,rfl,hlo,hln,hp,.inl (by omega)⟩
  case kturn =>
   rintro x c st2 _ hxk ⟨rfl,l,o,rfl,hlo,hxo,hln,hp⟩
   dsimp only
   by_cases hge:o ≥ hint+1
   .rw [if_pos hge]
    exact wpS_pure ⟨rfl,l,o,rfl,hlo,hln,hp,.inl hge⟩
   .rw [if_neg hge]
    refine wpS_bind (B (by omega) ?_)
    dsimp only
    cases c:P (hint - o) with
    | true =>
     rw [if_pos rfl]
     exact wpS_pure ⟨rfl,l,o,rfl,hlo,hln,hp,.inr ⟨by omega,c⟩⟩
    | false =>
     rw [if_neg (by simp)]
     exact wpS_pure ⟨rfl,o,2 * o+1,rfl,by omega,by omega,by omega,c⟩
  case kafter =>
   rintro c st2 ⟨rfl,l,o,rfl,hlo,hln,hp,ho⟩
   refine Zjt B up dn h (by dsimp only; omega) (by dsimp only; omega) (λi hi=>?_) (λi p q=>dn (i:=hint - l) (by dsimp only at p; omega) q hp)
   dsimp only at hi
   rcases ho with ho | ⟨ho,c⟩
   .omega
   .exact up (j:=hint - o) (by omega) (by omega) c
end
def Lk (ρ:Stg.RR) (x y:Keyed):Prop:=ρ.g x<=ρ.g y
structure MI (ρ:Stg.RR) (A B out:List Keyed) (ia ib:Nat):Prop where
 perm:(out++A.drop ia++B.drop ib).Perm (A++B)
 sa:(out++A.drop ia).Pairwise (Lk ρ)
 sb:(out++B.drop ib).Pairwise (Lk ρ)
section
variable {ρ:Stg.RR} {A B out:List Keyed} {ia ib:Nat}
theorem MI.takeB (h:MI ρ A B out ia ib) (k:Nat) (hk:∀ t∈(B.drop ib).take k,∀ x∈A.drop ia,ρ.g t<=ρ.g x):MI ρ A B (out++(B.drop ib).take k) ia (ib+k):=by
 have e:B.drop (ib+k)=(B.drop ib).drop k:=by rw [drop_drop]
 have s:=h.sb
 have p:=h.perm
 rw [← take_append_drop k (B.drop ib)] at s p
 refine ⟨?_,?_,?_⟩
 .rw [e]
  refine List.Perm.trans ?_ p
  rw [append_assoc out,append_assoc out,append_assoc out,← append_assoc (A.drop ia)]
  exact (List.Perm.append_right _ List.perm_append_comm).append_left _
 .have s1:(out++(B.drop ib).take k).Pairwise (Lk ρ):=by
   rw [← append_assoc] at s
   exact (List.pairwise_append.1 s).1
  have a1:=List.pairwise_append.1 h.sa
  refine List.pairwise_append.2 ⟨s1,a1.2.1,λx hx y hy=>?_⟩
  rcases List.mem_append.1 hx with hx | hx
  .exact a1.2.2 x hx y hy
  .exact hk x hx y hy
 .rw [e,append_assoc]
  exact s
theorem MI.takeA (h:MI ρ A B out ia ib) (k:Nat) (hk:∀ t∈(A.drop ia).take k,∀ x∈B.drop ib,ρ.g t<=ρ.g x):MI ρ A B (out++(A.drop ia).take k) (ia+k) ib:=by
 have h2:MI ρ B A out ib ia:=⟨by
  refine List.Perm.trans ?_ (List.Perm.trans h.perm List.perm_append_comm)
  rw [append_assoc,append_assoc]
  exact List.perm_append_comm.append_left _,h.sb,h.sa⟩
 have h3:=h2.takeB k hk
 refine ⟨?_,h3.sb,h3.sa⟩
 refine List.Perm.trans ?_ (List.Perm.trans h3.perm List.perm_append_comm)
 rw [append_assoc _ (A.drop _),append_assoc _ (B.drop _)]
 exact List.perm_append_comm.append_left _
def Res (ρ:Stg.RR) (A B:List Keyed) (r:Array Keyed):Prop:=r.toList.Perm (A++B)/\r.toList.Pairwise (Lk ρ)
theorem Zhs (a:Array Keyed) (i:Nat):(a.extract i a.size).toList=a.toList.drop i:=by
 rw [Array.toList_extract,List.extract_eq_drop_take]
 exact take_of_length_le (by simp)
theorem Zgo (a:Array Keyed) (i k:Nat):(a.extract i (i+k)).toList=(a.toList.drop i).take k:=by
 rw [Array.toList_extract,List.extract_eq_drop_take]
 congr 1
 omega
theorem MI.res {a b out:Array Keyed} (h:MI ρ a.toList b.toList out.toList ia ib) (he:a.toList.drop ia=[]\/b.toList.drop ib=[]):Res ρ a.toList b.toList (out++a.extract ia a.size++b.extract ib b.size):=by
 unfold Res
 rw [Array.toList_append,Array.toList_append,Zhs,Zhs]
 refine ⟨h.perm,?_⟩
 rcases he with he | he
 .rw [he,append_nil]; exact h.sb
 .rw [he,append_nil]; exact h.sa
theorem MI.last {a b out:Array Keyed} (h:MI ρ a.toList b.toList out.toList ia ib) (hl:∀ y∈b.toList,∀ x∈a.toList.drop (a.size - 1),ρ.g y<=ρ.g x) (he:ia+1=a.size):Res ρ a.toList b.toList (out++b.extract ib b.size++a.extract ia a.size):=by
 have e:ia=a.size - 1:=by omega
 have h2:=h.takeB (b.toList.length) (λt ht x hx=>hl t (List.mem_of_mem_drop (List.mem_of_mem_take ht)) x (by rw [← e]; exact hx))
 have e2:(b.toList.drop ib).take b.toList.length=b.toList.drop ib:=take_of_length_le (by simp)
 have e3:b.toList.drop (ib+b.toList.length)=[]:=drop_of_length_le (by omega)
 rw [e2] at h2
 unfold Res
 rw [Array.toList_append,Array.toList_append,Zhs,Zhs]
 refine ⟨?_,h2.sa⟩
 have:=h2.perm
 rw [e3,append_nil] at this
 exact this
end
abbrev LoSt:=Option (Array Keyed)×Array Keyed×Nat×Nat×Nat×Nat×Nat
def lo3 (a b out:Array Keyed) (ia ib g k k1:Nat):StateT SortSt Sem (ForInStep LoSt):=do
 let x ← elem' a ia
 if ia+1+1 == a.size then pure (.done (some (out.push x++b.extract ib b.size++a.extract (ia+1) a.size),out.push x,ia+1,ib,g,k,k1))
 else if k<7 && k1<7 then pure (.done (none,out.push x,ia+1,ib,g,k,k1)) else pure (.yield (none,out.push x,ia+1,ib,g,k,k1))
def lo2 (a b out:Array Keyed) (ia ib g k bc:Nat):StateT SortSt Sem (ForInStep LoSt):=do
 let x ← elem' b ib
 if ib+1 == b.size then pure (.done (some (out.push x++a.extract ia a.size++b.extract (ib+1) b.size),out.push x,ia,ib+1,g,k,bc))
 else do
  let y ← elem' a ia
  let r ← Zcu true y b (ib+1) (b.size - (ib+1)) 0
  match r with
  | some k1 =>
   if k1 > 0 then
    if ib+1+k1 == b.size then pure (.done (some (out.push x++b.extract (ib+1) (ib+1+k1)++a.extract ia a.size++b.extract (ib+1+k1) b.size),out.push x++b.extract (ib+1) (ib+1+k1),ia,ib+1+k1,g,k,k1))
    else lo3 a b (out.push x++b.extract (ib+1) (ib+1+k1)) ia (ib+1+k1) g k k1
   else lo3 a b (out.push x) ia (ib+1) g k k1
  | none=>pure (.done (some (out.push x++a.extract ia a.size++b.extract (ib+1) b.size),out.push x,ia,ib+1,g,k,bc))
def lo1 (a b out:Array Keyed) (ia ib g ac bc:Nat):StateT SortSt Sem (ForInStep LoSt):=do
 Zag g
 let y ← elem' b ib
 let r ← Zcu false y a ia (a.size - ia) 0
 match r with
 | some k =>
  if k > 0 then
   if ia+k+1 == a.size then pure (.done (some (out++a.extract ia (ia+k)++b.extract ib b.size++a.extract (ia+k) a.size),out++a.extract ia (ia+k),ia+k,ib,g,k,bc))
   else if ia+k == a.size then pure (.done (some (out++a.extract ia (ia+k)++a.extract (ia+k) a.size++b.extract ib b.size),out++a.extract ia (ia+k),ia+k,ib,g,k,bc))
   else lo2 a b (out++a.extract ia (ia+k)) (ia+k) ib g k bc
  else lo2 a b out ia ib g k bc
 | none=>pure (.done (some (out++a.extract ia a.size++b.extract ib b.size),out,ia,ib,g,ac,bc))
abbrev CmSt:=Option (Array Keyed)×Array Keyed×Nat×Nat×Nat×Nat
def loC (a b:Array Keyed) (mg:Nat) (c:CmSt):StateT SortSt Sem (ForInStep CmSt):=do
 let y ← elem' b c.2.2.2.1
 let x ← elem' a c.2.2.1
 let r ← lt' y x
 match r with
 | some w =>
  if w then do
   let y ← elem' b c.2.2.2.1
   if c.2.2.2.1+1 == b.size then pure (.done (some (c.2.1.push y++a.extract c.2.2.1 a.size++b.extract (c.2.2.2.1+1) b.size),c.2.1.push y,c.2.2.1,c.2.2.2.1+1,0,c.2.2.2.2.2+1))
   else if c.2.2.2.2.2+1 ≥ mg then pure (.done (none,c.2.1.push y,c.2.2.1,c.2.2.2.1+1,0,c.2.2.2.2.2+1))
   else pure (.yield (none,c.2.1.push y,c.2.2.1,c.2.2.2.1+1,0,c.2.2.2.2.2+1))
  else do
   let x ← elem' a c.2.2.1
   if c.2.2.1+1+1 == a.size then pure (.done (some (c.2.1.push x++b.extract c.2.2.2.1 b.size++a.extract (c.2.2.1+1) a.size),c.2.1.push x,c.2.2.1+1,c.2.2.2.1,c.2.2.2.2.1+1,0))
   else if c.2.2.2.2.1+1 ≥ mg then pure (.done (none,c.2.1.push x,c.2.2.1+1,c.2.2.2.1,c.2.2.2.2.1+1,0))
   else pure (.yield (none,c.2.1.push x,c.2.2.1+1,c.2.2.2.1,c.2.2.2.2.1+1,0))
 | none=>pure (.done (some (c.2.1++a.extract c.2.2.1 a.size++b.extract c.2.2.2.1 b.size),c.2.1,c.2.2.1,c.2.2.2.1,c.2.2.2.2.1,c.2.2.2.2.2))
abbrev OuSt:=Option (Array Keyed)×Array Keyed×Nat×Nat×Nat
def loO (a b:Array Keyed) (c:OuSt):StateT SortSt Sem (ForInStep OuSt):=do
 let d ← forIn [0:a.size+b.size] ((none,c.2.1,c.2.2.1,c.2.2.2.1,0,0):CmSt) (λ_ d=>loC a b c.2.2.2.2 d)
 match d.1 with
 | some r=>pure (.done (some r,d.2.1,d.2.2.1,d.2.2.2.1,c.2.2.2.2))
 | none=>do
  rule "list.sort.gallop"
  let e ← forIn [0:a.size+b.size] ((none,d.2.1,d.2.2.1,d.2.2.2.1,c.2.2.2.2+1,d.2.2.2.2.1,d.2.2.2.2.2):LoSt) (λ_ e=>if e.2.2.2.2.1 > 1 then lo1 a b e.2.1 e.2.2.1 e.2.2.2.1 (e.2.2.2.2.1 - 1) e.2.2.2.2.2.1 e.2.2.2.2.2.2 else lo1 a b e.2.1 e.2.2.1 e.2.2.2.1 e.2.2.2.2.1 e.2.2.2.2.2.1 e.2.2.2.2.2.2)
  match e.1 with
  | some r=>pure (.done (some r,e.2.1,e.2.2.1,e.2.2.2.1,e.2.2.2.2.1))
  | none=>do
   Zag (e.2.2.2.2.1+1)
   pure (.yield (none,e.2.1,e.2.2.1,e.2.2.2.1,e.2.2.2.2.1+1))
theorem Zic {M:Model} {A:Around} {E:Value->Shared->Prop} {s:Shared} {Q:Array Keyed->SortSt->Prop} {st:SortSt} (a b:Array Keyed) (h:wpS M A E s (do
 rule "list.sort.merge-lo"
 let x ← elem' b 0
 if 1 == b.size then pure (#[x]++a.extract 0 a.size++b.extract 1 b.size)
 else if 0+1 == a.size then pure (#[x]++b.extract 1 b.size++a.extract 0 a.size)
 else do
  let st ← get
  let c ← forIn [0:a.size+b.size] ((none,#[x],0,1,gallopOf st):OuSt) (λ_ c=>loO a b c)
  match c.1 with
  | some r=>pure r
  | none=>unsupported "internal:list.sort.merge-bound") Q st):wpS M A E s (ZeJ a b) Q st:=by
 show wpAny M A (ZeJ a b st) _ E s
 wp_delta
 wp_delta
 refine by_eq ?_ h
 dsimp only
 refine bind_congr λ_=>bind_congr λx=>?_
 congr 1
 congr 1
 refine bind_congr λst=>?_
 congr 1
 .congr 1
  funext _ c
  unfold loO
  congr 1
  .congr 1
   funext _ d
   unfold loC
   refine bind_congr λy=>bind_congr λx=>bind_congr λr=>?_
   cases r with
   | some w =>
    cases w with
    | true=>rfl
    | false=>rfl
   | none=>rfl
  .funext d
   cases d.1 with
   | some r=>rfl
   | none =>
    dsimp only
    refine bind_congr λ_=>?_
    congr 1
    .congr 1
     funext _ e
     congr 1
     all_goals
      unfold lo1
      refine bind_congr λ_=>bind_congr λy=>bind_congr λr=>?_
      cases r with
      | none=>rfl
      | some k =>
       dsimp only
       congr 1
       .congr 1
        congr 1
        unfold lo2
        refine bind_congr λx=>?_
        congr 1
        refine bind_congr λy=>bind_congr λr=>?_
        cases r with
        | none=>rfl
        | some k1=>rfl
       .unfold lo2
        refine bind_congr λx=>?_
        congr 1
        refine bind_congr λy=>bind_congr λr=>?_
        cases r with
        | none=>rfl
        | some k1=>rfl
    .funext e
     cases e.1 with
     | some r=>rfl
     | none=>rfl
 .funext c
  cases c.1 with
  | some r=>rfl
  | none=>rfl
def Sm (st st':SortSt):Prop:=kindOf st'=kindOf st/\arrOf st'=arrOf st/\pendingOf st'=pendingOf st/\failedOf st'=failedOf st
theorem Sm.refl (st:SortSt):Sm st st:=⟨rfl,rfl,rfl,rfl⟩
theorem Sm.trans {a b c:SortSt} (h:Sm a b) (h':Sm b c):Sm a c:=⟨h'.1.trans h.1,h'.2.1.trans h.2.1,h'.2.2.1.trans h.2.2.1,h'.2.2.2.trans h.2.2.2⟩
section
variable {prog:Program} {w:World} {A:Around} {E:Value->Shared->Prop} {s:Shared} {a₀:Array Keyed} {κ:SortKind} {ρ:Stg.RR} {a b:Array Keyed}
theorem Zht {st:SortSt} {g:Nat} {Q:Unit->SortSt->Prop} (h:∀ st',Sm st st'->Q () st'):wpS (model prog w) A E s (Zag g) Q st:=by
 rw [ZcN]
 exact wpS_modify (h _ ⟨rfl,rfl,rfl,rfl⟩)
theorem ZlM (h:a.toList.Pairwise (Lk ρ)) (i j:Nat):Srt ρ a i (i+(a.size - i)):=by
 intro x y hx hxy hy
 have hy':y<a.size:=by omega
 rw [kg_at (show x<a.size by omega),kg_at hy']
 by_cases e:x=y
 .subst e; omega
 .exact List.pairwise_iff_getElem.1 h x y (by simpa using (show x<a.size by omega)) (by simpa using hy') (by omega)
theorem Zgp {i:Nat} {x:Keyed} (h:x∈a.toList.drop i):∃ j,∃ hj:i+j<a.size,x=a[i+j]:=by
 obtain ⟨j,hj,e⟩:=List.mem_iff_getElem.1 h
 rw [length_drop,Array.length_toList] at hj
 refine ⟨j,by omega,?_⟩
 rw [← e,getElem_drop,Array.getElem_toList]
theorem Zgq {i k:Nat} {x:Keyed} (h:x∈(a.toList.drop i).take k):∃ j,j<k/\∃ hj:i+j<a.size,x=a[i+j]:=by
 obtain ⟨j,hj,e⟩:=List.mem_iff_getElem.1 h
 rw [length_take,length_drop,Array.length_toList] at hj
 refine ⟨j,by omega,by omega,?_⟩
 rw [← e,getElem_take,getElem_drop,Array.getElem_toList]
theorem Cut.low {left:Bool} {kv:Int} {i k:Nat} (h:Cut ρ left kv a i (a.size - i) k) {x:Keyed} (hx:x∈(a.toList.drop i).take k):ρ.g x<=kv:=by
 obtain ⟨j,hj,hs,rfl⟩:=Zgq hx
 have:=h.lo j hj
 unfold Bd at this
 rw [kg_at hs] at this
 cases left with
 | true=>simp only [if_true,decide_eq_true_eq] at this; omega
 | false=>simp only [Bool.false_eq_true,if_false,Bool.not_eq_true',decide_eq_false_iff_not] at this; omega
theorem Cut.high {left:Bool} {kv:Int} {i k:Nat} (h:Cut ρ left kv a i (a.size - i) k) {x:Keyed} (hx:x∈a.toList.drop (i+k)):kv<=ρ.g x:=by
 obtain ⟨j,hs,rfl⟩:=Zgp hx
 have:=h.hi (k+j) (by omega) (by omega)
 unfold Bd at this
 rw [show i+(k+j)=i+k+j by omega,kg_at hs] at this
 cases left with
 | true=>simp only [if_true,decide_eq_false_iff_not] at this; omega
 | false=>simp only [Bool.false_eq_true,if_false,Bool.not_eq_false',decide_eq_true_eq] at this; omega
theorem Zch {i:Nat} (hi:i<a.size):(a.toList.drop i).take 1=[a[i]]:=by
 rw [List.drop_eq_getElem_cons (by simpa using hi)]
 rfl
theorem ZcV {i:Nat} (hi:i<a.size) (h:(a.toList.drop i).Pairwise (Lk ρ)) {x:Keyed} (hx:x∈a.toList.drop i):ρ.g a[i]<=ρ.g x:=by
 rw [List.drop_eq_getElem_cons (by simpa using hi)] at h hx
 rcases List.mem_cons.1 hx with rfl | hx
 .exact Int.le_refl _
 .exact (List.pairwise_cons.1 h).1 x hx
structure Two (ρ:Stg.RR) (a₀ a b:Array Keyed):Prop where
 ma:∀ p∈a.toList,p∈a₀.toList
 mb:∀ p∈b.toList,p∈a₀.toList
 sa:a.toList.Pairwise (Lk ρ)
 sb:b.toList.Pairwise (Lk ρ)
 last:∀ y∈b.toList,∀ x∈a.toList.drop (a.size - 1),ρ.g y<=ρ.g x
def Jm (ρ:Stg.RR) (a b:Array Keyed) (m:Nat) (out:Array Keyed) (ia ib:Nat):Prop:=MI ρ a.toList b.toList out.toList ia ib/\m<=ia+ib/\ia+1<a.size/\ib<b.size
def LoP (ρ:Stg.RR) (a b:Array Keyed) (m:Nat) (c:LoSt):Prop:=(∃ r q,c=(some r,q)/\Res ρ a.toList b.toList r)\/∃ out ia ib g k k1,c=(none,out,ia,ib,g,k,k1)/\Jm ρ a b m out ia ib
def LoR (ρ:Stg.RR) (a b:Array Keyed) (m:Nat) (st:SortSt) (r:ForInStep LoSt) (st':SortSt):Prop:=Sm st st'/\match r with
 | .done c=>LoP ρ a b m c
 | .yield c=>∃ out ia ib g k k1,c=(none,out,ia,ib,g,k,k1)/\Jm ρ a b m out ia ib
theorem MI.pushA {out:Array Keyed} {ia ib:Nat} (h:MI ρ a.toList b.toList out.toList ia ib) (hi:ia<a.size) (hk:∀ x∈b.toList.drop ib,ρ.g a[ia]<=ρ.g x):MI ρ a.toList b.toList (out.push a[ia]).toList (ia+1) ib:=by
 have:=h.takeA 1 (by rw [Zch hi]; intro t ht x hx; rw [List.mem_singleton.1 ht]; exact hk x hx)
 rw [Zch hi] at this
 rw [Array.toList_push]
 exact this
theorem MI.pushB {out:Array Keyed} {ia ib:Nat} (h:MI ρ a.toList b.toList out.toList ia ib) (hi:ib<b.size) (hk:∀ x∈a.toList.drop ia,ρ.g b[ib]<=ρ.g x):MI ρ a.toList b.toList (out.push b[ib]).toList ia (ib+1):=by
 have:=h.takeB 1 (by rw [Zch hi]; intro t ht x hx; rw [List.mem_singleton.1 ht]; exact hk x hx)
 rw [Zch hi] at this
 rw [Array.toList_push]
 exact this
theorem ZlN {st0 st:SortSt} {out:Array Keyed} {ia ib g k k1 m:Nat} (T:Two ρ a₀ a b) (hS:Sm st0 st) (h:Jm ρ a b m out ia ib) (hk:∀ x∈b.toList.drop ib,ρ.g (a[ia]'(by have:=h.2.2.1; omega))<=ρ.g x):wpS (model prog w) A E s (lo3 a b out ia ib g k k1) (LoR ρ a b (m+1) st0) st:=by
 obtain ⟨M,hm,ha,hb⟩:=h
 have ia':ia<a.size:=by omega
 unfold lo3
 refine wpS_bind (ZG ia' ?_)
 have M2:=M.pushA ia' hk
 by_cases e:ia+1+1=a.size
 .rw [if_pos (by simpa using e)]
  exact wpS_pure ⟨hS,.inl ⟨_,_,rfl,M2.last T.last e⟩⟩
 .rw [if_neg (by simpa using e)]
  have J:Jm ρ a b (m+1) (out.push a[ia]) (ia+1) ib:=⟨M2,by omega,by omega,hb⟩
  by_cases c:(decide (k<7) && decide (k1<7))=true
  .rw [if_pos c]
   exact wpS_pure ⟨hS,.inr ⟨_,_,_,_,_,_,rfl,J⟩⟩
  .rw [if_neg c]
   exact wpS_pure ⟨hS,_,_,_,_,_,_,rfl,J⟩
theorem ZlO {st0 st:SortSt} {out:Array Keyed} {ia ib g k bc m:Nat} (h0:Stg.Cmp prog w A s κ ρ a₀) (hk:kindOf st=κ) (T:Two ρ a₀ a b) (hS:Sm st0 st) (h:Jm ρ a b m out ia ib) (hq:∀ x∈a.toList.drop ia,ρ.g (b[ib]'(h.2.2.2))<=ρ.g x):wpS (model prog w) A E s (lo2 a b out ia ib g k bc) (LoR ρ a b (m+1) st0) st:=by
 obtain ⟨M,hm,ha,hb⟩:=h
 have ia':ia<a.size:=by omega
 unfold lo2
 refine wpS_bind (ZG hb ?_)
 have M2:=M.pushB hb hq
 by_cases e:ib+1=b.size
 .rw [if_pos (by simpa using e)]
  exact wpS_pure ⟨hS,.inl ⟨_,_,rfl,M2.res (.inr (drop_of_length_le (by simp; omega)))⟩⟩
 .rw [if_neg (by simpa using e)]
  refine wpS_bind (ZG ia' ?_)
  refine wpS_bind (Zbs hk h0 T.mb (T.ma _ (by simp)) (by omega) (by omega) (ZlM T.sb _ 0) (λk1 C=>?_))
  dsimp only
  have fa:∀ x∈a.toList.drop ia,ρ.g a[ia]<=ρ.g x:=λx hx=>ZcV ia' (List.Pairwise.sublist (drop_sublist _ _) T.sa) hx
  have M3:=M2.takeB k1 (λt ht x hx=>Int.le_trans (C.low ht) (fa x hx))
  rw [← Zgo,← Array.toList_append] at M3
  have hi:∀ x∈b.toList.drop (ib+1+k1),ρ.g a[ia]<=ρ.g x:=λx hx=>C.high hx
  by_cases c:k1 > 0
  .rw [if_pos c]
   by_cases e2:ib+1+k1=b.size
   .rw [if_pos (by simpa using e2)]
    exact wpS_pure ⟨hS,.inl ⟨_,_,rfl,M3.res (.inr (drop_of_length_le (by simp; omega)))⟩⟩
   .rw [if_neg (by simpa using e2)]
    have:=C.le
    exact ZlN T hS ⟨M3,by omega,ha,by omega⟩ hi
  .rw [if_neg c]
   have e3:k1=0:=by omega
   subst e3
   exact ZlN T hS ⟨M2,by omega,ha,by omega⟩ hi
theorem Znx {st0 st:SortSt} {out:Array Keyed} {ia ib g ac bc m:Nat} (h0:Stg.Cmp prog w A s κ ρ a₀) (hk:kindOf st=κ) (T:Two ρ a₀ a b) (hS:Sm st0 st) (h:Jm ρ a b m out ia ib):wpS (model prog w) A E s (lo1 a b out ia ib g ac bc) (LoR ρ a b (m+1) st0) st:=by
 obtain ⟨M,hm,ha,hb⟩:=h
 have ia':ia<a.size:=by omega
 unfold lo1
 refine wpS_bind (Zht λst1 hS1=>?_)
 have hk1:kindOf st1=κ:=hS1.1.trans hk
 have hS2:=hS.trans hS1
 refine wpS_bind (ZG hb ?_)
 refine wpS_bind (Zbs hk1 h0 T.ma (T.mb _ (by simp)) (by omega) (by omega) (ZlM T.sa _ 0) (λk C=>?_))
 dsimp only
 have fb:∀ x∈b.toList.drop ib,ρ.g b[ib]<=ρ.g x:=λx hx=>ZcV hb (List.Pairwise.sublist (drop_sublist _ _) T.sb) hx
 have M3:=M.takeA k (λt ht x hx=>Int.le_trans (C.low ht) (fb x hx))
 rw [← Zgo,← Array.toList_append] at M3
 have hi:∀ x∈a.toList.drop (ia+k),ρ.g b[ib]<=ρ.g x:=λx hx=>C.high hx
 have:=C.le
 by_cases c:k > 0
 .rw [if_pos c]
  by_cases e2:ia+k+1=a.size
  .rw [if_pos (by simpa using e2)]
   exact wpS_pure ⟨hS2,.inl ⟨_,_,rfl,M3.last T.last e2⟩⟩
  .rw [if_neg (by simpa using e2)]
   by_cases e3:ia+k=a.size
   .rw [if_pos (by simpa using e3)]
    exact wpS_pure ⟨hS2,.inl ⟨_,_,rfl,M3.res (.inl (drop_of_length_le (by simp; omega)))⟩⟩
   .rw [if_neg (by simpa using e3)]
    exact ZlO h0 hk1 T hS2 ⟨M3,by omega,by omega,hb⟩ hi
 .rw [if_neg c]
  have e3:k=0:=by omega
  subst e3
  exact ZlO h0 hk1 T hS2 ⟨M,by omega,ha,hb⟩ hi
def CmP (ρ:Stg.RR) (a b:Array Keyed) (m:Nat) (c:CmSt):Prop:=(∃ r q,c=(some r,q)/\Res ρ a.toList b.toList r)\/∃ out ia ib k k1,c=(none,out,ia,ib,k,k1)/\Jm ρ a b m out ia ib
theorem Zny {st:SortSt} {out:Array Keyed} {mg ia ib ac bc m:Nat} (h0:Stg.Cmp prog w A s κ ρ a₀) (hk:kindOf st=κ) (T:Two ρ a₀ a b) (h:Jm ρ a b m out ia ib):wpS (model prog w) A E s (loC a b mg (none,out,ia,ib,ac,bc)) (λr st'=>st'=st/\match r with
  | .done c=>CmP ρ a b (m+1) c
  | .yield c=>∃ out ia ib k k1,c=(none,out,ia,ib,k,k1)/\Jm ρ a b (m+1) out ia ib) st:=by
 obtain ⟨M,hm,ha,hb⟩:=h
 have ia':ia<a.size:=by omega
 have fa:∀ x∈a.toList.drop ia,ρ.g a[ia]<=ρ.g x:=λx hx=>ZcV ia' (List.Pairwise.sublist (drop_sublist _ _) T.sa) hx
 have fb:∀ x∈b.toList.drop ib,ρ.g b[ib]<=ρ.g x:=λx hx=>ZcV hb (List.Pairwise.sublist (drop_sublist _ _) T.sb) hx
 unfold loC
 dsimp only
 refine wpS_bind (ZG hb (wpS_bind (ZG ia' (wpS_bind (lt_ok hk h0 (T.mb _ (by simp)) (T.ma _ (by simp)) ?_)))))
 dsimp only
 by_cases c:ρ.g b[ib]<ρ.g a[ia]
 .rw [decide_eq_true c,if_pos rfl]
  refine wpS_bind (ZG hb ?_)
  have M2:=M.pushB hb (λx hx=>by have:=fa x hx; omega)
  by_cases e:ib+1=b.size
  .rw [if_pos (by simpa using e)]
   exact wpS_pure ⟨rfl,.inl ⟨_,_,rfl,M2.res (.inr (drop_of_length_le (by simp; omega)))⟩⟩
  .rw [if_neg (by simpa using e)]
   have J:Jm ρ a b (m+1) (out.push b[ib]) ia (ib+1):=⟨M2,by omega,ha,by omega⟩
   by_cases c2:bc+1 ≥ mg
   .rw [if_pos c2]
    exact wpS_pure ⟨rfl,.inr ⟨_,_,_,_,_,rfl,J⟩⟩
   .rw [if_neg c2]
    exact wpS_pure ⟨rfl,_,_,_,_,_,rfl,J⟩
 .rw [decide_eq_false c,if_neg (by simp)]
  refine wpS_bind (ZG ia' ?_)
  have M2:=M.pushA ia' (λx hx=>by have:=fb x hx; omega)
  by_cases e:ia+1+1=a.size
  .rw [if_pos (by simpa using e)]
   exact wpS_pure ⟨rfl,.inl ⟨_,_,rfl,M2.last T.last e⟩⟩
  .rw [if_neg (by simpa using e)]
   have J:Jm ρ a b (m+1) (out.push a[ia]) (ia+1) ib:=⟨M2,by omega,by omega,hb⟩
   by_cases c2:ac+1 ≥ mg
   .rw [if_pos c2]
    exact wpS_pure ⟨rfl,.inr ⟨_,_,_,_,_,rfl,J⟩⟩
   .rw [if_neg c2]
    exact wpS_pure ⟨rfl,_,_,_,_,_,rfl,J⟩
theorem Jm.weak {m m':Nat} {out:Array Keyed} {ia ib:Nat} (h:Jm ρ a b m out ia ib) (hm:m'<=m):Jm ρ a b m' out ia ib:=⟨h.1,by have:=h.2.1; omega,h.2.2.1,h.2.2.2⟩
theorem Znz {st:SortSt} {out:Array Keyed} {ia ib g m:Nat} (h0:Stg.Cmp prog w A s κ ρ a₀) (hk:kindOf st=κ) (T:Two ρ a₀ a b) (h:Jm ρ a b m out ia ib):wpS (model prog w) A E s (loO a b (none,out,ia,ib,g)) (λr st'=>Sm st st'/\match r with
  | .done c=>∃ r q,c=(some r,q)/\Res ρ a.toList b.toList r
  | .yield c=>∃ out ia ib g,c=(none,out,ia,ib,g)/\Jm ρ a b (m+1) out ia ib) st:=by
 have pos:0<a.size+b.size:=by have:=h.2.2.1; omega
 unfold loO
 dsimp only
 refine wpS_bind (wpS_mono (wpS_forRange (I:=λx c st2=>st2=st/\∃ out ia ib k k1,c=(none,out,ia,ib,k,k1)/\Jm ρ a b (m+x) out ia ib) (Q:=λc st2=>st2=st/\CmP ρ a b (m+1) c) ?turn ?last ?first) ?after)
 case first=>exact ⟨rfl,_,_,_,_,_,rfl,h⟩
 case last =>
  rintro c st2 ⟨rfl,out,ia,ib,k,k1,rfl,J⟩
  exact ⟨rfl,.inr ⟨_,_,_,_,_,rfl,J.weak (by omega)⟩⟩
 case turn =>
  rintro x c st2 _ hx ⟨rfl,out,ia,ib,k,k1,rfl,J⟩
  refine wpS_mono (Zny h0 hk T J) ?_
  rintro r st3 ⟨rfl,hr⟩
  cases r with
  | done c =>
   refine ⟨rfl,?_⟩
   rcases hr with hr | ⟨out,ia,ib,k,k1,rfl,J⟩
   .exact .inl hr
   .exact .inr ⟨_,_,_,_,_,rfl,J.weak (by omega)⟩
  | yield c=>exact ⟨rfl,hr⟩
 case after =>
  rintro c st2 ⟨rfl,hc⟩
  rcases hc with ⟨r,q,rfl,R⟩ | ⟨out,ia,ib,k,k1,rfl,J⟩
  .exact wpS_pure ⟨Sm.refl _,_,_,rfl,R⟩
  .dsimp only
   refine wpS_bind (wpS_lift (wpAny_rule ⟨rfl,?_⟩))
   refine wpS_bind (wpS_mono (wpS_forRange (I:=λx c st3=>Sm st2 st3/\∃ out ia ib g k k1,c=(none,out,ia,ib,g,k,k1)/\Jm ρ a b (m+x) out ia ib) (Q:=λc st3=>Sm st2 st3/\LoP ρ a b (m+1) c) ?jturn ?jlast ?jfirst) ?jafter)
   case jfirst=>exact ⟨Sm.refl _,_,_,_,_,_,_,rfl,J.weak (by omega)⟩
   case jlast =>
    rintro c st3 ⟨hS,out,ia,ib,g,k,k1,rfl,J⟩
    exact ⟨hS,.inr ⟨_,_,_,_,_,_,rfl,J.weak (by omega)⟩⟩
   case jturn =>
    rintro x c st3 _ hx ⟨hS,out,ia,ib,g,k,k1,rfl,J⟩
    have hk3:kindOf st3=κ:=hS.1.trans hk
    dsimp only
    rw [show (if g > 1 then lo1 a b out ia ib (g - 1) k k1 else lo1 a b out ia ib g k k1)=lo1 a b out ia ib (if g > 1 then g - 1 else g) k k1 by split <;> rfl]
    refine wpS_mono (Znx h0 hk3 T hS J) ?_
    rintro r st4 ⟨hS4,hr⟩
    cases r with
    | done c =>
     refine ⟨hS4,?_⟩
     rcases hr with hr | ⟨out,ia,ib,g,k,k1,rfl,J⟩
     .exact .inl hr
     .exact .inr ⟨_,_,_,_,_,_,rfl,J.weak (by omega)⟩
    | yield c=>exact ⟨hS4,hr⟩
   case jafter =>
    rintro c st3 ⟨hS,hc⟩
    rcases hc with ⟨r,q,rfl,R⟩ | ⟨out,ia,ib,g,k,k1,rfl,J⟩
    .exact wpS_pure ⟨hS,_,_,rfl,R⟩
    .refine wpS_bind (Zht λst4 hS4=>wpS_pure ⟨hS.trans hS4,_,_,_,_,rfl,J⟩)
theorem Zid {st:SortSt} {Q:Array Keyed->SortSt->Prop} (h0:Stg.Cmp prog w A s κ ρ a₀) (hk:kindOf st=κ) (T:Two ρ a₀ a b) (ha:0<a.size) (hb:0<b.size) (hf:∀ x∈a.toList,ρ.g b[0]<=ρ.g x)
  (h:∀ r st',Sm st st'->Res ρ a.toList b.toList r->Q r st'):wpS (model prog w) A E s (ZeJ a b) Q st:=by
 refine Zic _ _ ?_
 refine wpS_bind (wpS_lift (wpAny_rule ⟨rfl,?_⟩))
 refine wpS_bind (ZG hb ?_)
 have M0:MI ρ a.toList b.toList (#[]:Array Keyed).toList 0 0:=⟨by simp,by simpa using T.sa,by simpa using T.sb⟩
 have M1:MI ρ a.toList b.toList (#[b[0]]:Array Keyed).toList 0 1:=M0.pushB hb (λx hx=>hf x (by simpa using hx))
 by_cases e1:1=b.size
 .rw [if_pos (by simpa using e1)]
  exact wpS_pure (h _ _ (Sm.refl _) (M1.res (.inr (drop_of_length_le (by simp; omega)))))
 .rw [if_neg (by simpa using e1)]
  by_cases e2:0+1=a.size
  .rw [if_pos (by simpa using e2)]
   exact wpS_pure (h _ _ (Sm.refl _) (M1.last T.last e2))
  .rw [if_neg (by simpa using e2)]
   refine wpS_bind (wpS_get ?_)
   refine wpS_bind (wpS_mono (wpS_forRange (I:=λx c st2=>Sm st st2/\∃ out ia ib g,c=(none,out,ia,ib,g)/\Jm ρ a b (x+1) out ia ib) (Q:=λc st2=>Sm st st2/\∃ r q,c=(some r,q)/\Res ρ a.toList b.toList r) ?turn ?last ?first) ?after)
   case first=>exact ⟨Sm.refl _,_,_,_,_,rfl,M1,by omega,by omega,by omega⟩
   case last =>
    rintro c st2 ⟨_,out,ia,ib,g,rfl,J⟩
    have:=J.2.1
    have:=J.2.2.1
    have:=J.2.2.2
    omega
   case turn =>
    rintro x c st2 _ hx ⟨hS,out,ia,ib,g,rfl,J⟩
    refine wpS_mono (Znz h0 (hS.1.trans hk) T J) ?_
    rintro r st3 ⟨hS3,hr⟩
    cases r with
    | done c=>exact ⟨hS.trans hS3,hr⟩
    | yield c=>exact ⟨hS.trans hS3,hr⟩
   case after =>
    rintro c st2 ⟨hS,r,q,rfl,R⟩
    exact wpS_pure (h r st2 hS R)
end
structure MH (ρ:Stg.RR) (A B O:List Keyed) (na nb:Nat):Prop where
 perm:(A.take na++B.take nb++O).Perm (A++B)
 sa:(A.take na++O).Pairwise (Lk ρ)
 sb:(B.take nb++O).Pairwise (Lk ρ)
section
variable {ρ:Stg.RR} {A B O:List Keyed} {na nb:Nat}
theorem MH.takeB (h:MH ρ A B O na nb) (k:Nat) (hkn:k<=nb) (hk:∀ t∈(B.take nb).drop k,∀ x∈A.take na,ρ.g x<=ρ.g t):MH ρ A B ((B.take nb).drop k++O) na k:=by
 have e:B.take k=(B.take nb).take k:=by rw [List.take_take,Nat.min_eq_left hkn]
 have s:=h.sb
 have p:=h.perm
 rw [← take_append_drop k (B.take nb),append_assoc] at s
 rw [← take_append_drop k (B.take nb)] at p
 refine ⟨?_,?_,?_⟩
 .rw [e]
  refine List.Perm.trans ?_ p
  simp only [append_assoc]
  exact List.Perm.refl _
 .have s1:=(List.pairwise_append.1 s).2.1
  have a1:=List.pairwise_append.1 h.sa
  refine List.pairwise_append.2 ⟨a1.1,s1,λx hx y hy=>?_⟩
  rcases List.mem_append.1 hy with hy | hy
  .exact hk y hy x hx
  .exact a1.2.2 x hx y hy
 .rw [e]
  exact s
theorem MH.takeA (h:MH ρ A B O na nb) (k:Nat) (hkn:k<=na) (hk:∀ t∈(A.take na).drop k,∀ x∈B.take nb,ρ.g x<=ρ.g t):MH ρ A B ((A.take na).drop k++O) k nb:=by
 have h2:MH ρ B A O nb na:=⟨List.Perm.trans (List.perm_append_comm.append_right _) (List.Perm.trans h.perm List.perm_append_comm),h.sb,h.sa⟩
 have h3:=h2.takeB k hkn hk
 exact ⟨List.Perm.trans (List.perm_append_comm.append_right _) (List.Perm.trans h3.perm List.perm_append_comm),h3.sb,h3.sa⟩
theorem ex_to (a:Array Keyed) (k:Nat):(a.extract 0 k).toList=a.toList.take k:=by
 rw [Array.toList_extract,List.extract_eq_drop_take,List.drop_zero,Nat.sub_zero]
theorem Zem (a:Array Keyed) (i k:Nat):(a.extract i k).toList=(a.toList.take k).drop i:=by
 rw [Array.toList_extract,List.extract_eq_drop_take,drop_take]
theorem MH.res {a b out:Array Keyed} (h:MH ρ a.toList b.toList out.toList.reverse na nb) (he:na=0\/nb=0):Res ρ a.toList b.toList (a.extract 0 na++b.extract 0 nb++out.reverse):=by
 unfold Res
 rw [Array.toList_append,Array.toList_append,ex_to,ex_to,Array.toList_reverse]
 refine ⟨h.perm,?_⟩
 rcases he with rfl | rfl
 .rw [take_zero,List.nil_append]; exact h.sb
 .rw [take_zero,append_nil]; exact h.sa
theorem MH.first {a b out:Array Keyed} (h:MH ρ a.toList b.toList out.toList.reverse na 1) (hl:∀ y∈b.toList.take 1,∀ x∈a.toList,ρ.g y<=ρ.g x):Res ρ a.toList b.toList (b.extract 0 1++a.extract 0 na++out.reverse):=by
 have h2:=h.takeA 0 (Nat.zero_le _) (λt ht x hx=>hl x hx t (List.mem_of_mem_take (List.mem_of_mem_drop ht)))
 rw [List.drop_zero] at h2
 unfold Res
 rw [Array.toList_append,Array.toList_append,ex_to,ex_to,Array.toList_reverse]
 have p:=h2.perm
 have s:=h2.sb
 rw [take_zero,List.nil_append,← append_assoc] at p
 rw [← append_assoc] at s
 exact ⟨p,s⟩
end
abbrev HiSt:=Option (Array Keyed)×Nat×Nat×Array Keyed×Nat×Nat×Nat
def hi3 (a b:Array Keyed) (na nb:Nat) (out:Array Keyed) (g k k1:Nat):StateT SortSt Sem (ForInStep HiSt):=do
 let x ← elem' a (na - 1)
 if na - 1 == 0 then pure (.done (some (a.extract 0 (na - 1)++b.extract 0 nb++(out.push x).reverse),na - 1,nb,out.push x,g,k,k1))
 else if k<7 && k1<7 then pure (.done (none,na - 1,nb,out.push x,g,k,k1)) else pure (.yield (none,na - 1,nb,out.push x,g,k,k1))
def hi2 (a b:Array Keyed) (na nb:Nat) (out:Array Keyed) (g k bc:Nat):StateT SortSt Sem (ForInStep HiSt):=do
 let x ← elem' b (nb - 1)
 if nb - 1 == 1 then pure (.done (some (b.extract 0 (nb - 1)++a.extract 0 na++(out.push x).reverse),na,nb - 1,out.push x,g,k,bc))
 else do
  let y ← elem' a (na - 1)
  let r ← Zcu true y b 0 (nb - 1) (nb - 1 - 1)
  match r with
  | some i =>
   if nb - 1 - i > 0 then
    if i == 1 then pure (.done (some (b.extract 0 i++a.extract 0 na++(out.push x++(b.extract i (nb - 1)).reverse).reverse),na,i,out.push x++(b.extract i (nb - 1)).reverse,g,k,nb - 1 - i))
    else if i == 0 then pure (.done (some (a.extract 0 na++b.extract 0 i++(out.push x++(b.extract i (nb - 1)).reverse).reverse),na,i,out.push x++(b.extract i (nb - 1)).reverse,g,k,nb - 1 - i))
    else hi3 a b na i (out.push x++(b.extract i (nb - 1)).reverse) g k (nb - 1 - i)
   else hi3 a b na (nb - 1) (out.push x) g k (nb - 1 - i)
  | none=>pure (.done (some (a.extract 0 na++b.extract 0 (nb - 1)++(out.push x).reverse),na,nb - 1,out.push x,g,k,bc))
def hi1 (a b:Array Keyed) (na nb:Nat) (out:Array Keyed) (g ac bc:Nat):StateT SortSt Sem (ForInStep HiSt):=do
 Zag g
 let y ← elem' b (nb - 1)
 let r ← Zcu false y a 0 na (na - 1)
 match r with
 | some i =>
  if na - i > 0 then
   if i == 0 then pure (.done (some (a.extract 0 i++b.extract 0 nb++(out++(a.extract i na).reverse).reverse),i,nb,out++(a.extract i na).reverse,g,na - i,bc))
   else hi2 a b i nb (out++(a.extract i na).reverse) g (na - i) bc
  else hi2 a b na nb out g (na - i) bc
 | none=>pure (.done (some (a.extract 0 na++b.extract 0 nb++out.reverse),na,nb,out,g,ac,bc))
abbrev HcSt:=Option (Array Keyed)×Nat×Nat×Array Keyed×Nat×Nat
def hiC (a b:Array Keyed) (mg:Nat) (c:HcSt):StateT SortSt Sem (ForInStep HcSt):=do
 let y ← elem' b (c.2.2.1 - 1)
 let x ← elem' a (c.2.1 - 1)
 let r ← lt' y x
 match r with
 | some w =>
  if w then do
   let x ← elem' a (c.2.1 - 1)
   if c.2.1 - 1 == 0 then pure (.done (some (a.extract 0 (c.2.1 - 1)++b.extract 0 c.2.2.1++(c.2.2.2.1.push x).reverse),c.2.1 - 1,c.2.2.1,c.2.2.2.1.push x,c.2.2.2.2.1+1,0))
   else if c.2.2.2.2.1+1 ≥ mg then pure (.done (none,c.2.1 - 1,c.2.2.1,c.2.2.2.1.push x,c.2.2.2.2.1+1,0))
   else pure (.yield (none,c.2.1 - 1,c.2.2.1,c.2.2.2.1.push x,c.2.2.2.2.1+1,0))
  else do
   let y ← elem' b (c.2.2.1 - 1)
   if c.2.2.1 - 1 == 1 then pure (.done (some (b.extract 0 (c.2.2.1 - 1)++a.extract 0 c.2.1++(c.2.2.2.1.push y).reverse),c.2.1,c.2.2.1 - 1,c.2.2.2.1.push y,0,c.2.2.2.2.2+1))
   else if c.2.2.2.2.2+1 ≥ mg then pure (.done (none,c.2.1,c.2.2.1 - 1,c.2.2.2.1.push y,0,c.2.2.2.2.2+1))
   else pure (.yield (none,c.2.1,c.2.2.1 - 1,c.2.2.2.1.push y,0,c.2.2.2.2.2+1))
 | none=>pure (.done (some (a.extract 0 c.2.1++b.extract 0 c.2.2.1++c.2.2.2.1.reverse),c.2.1,c.2.2.1,c.2.2.2.1,c.2.2.2.2.1,c.2.2.2.2.2))
abbrev HoSt:=Option (Array Keyed)×Nat×Nat×Array Keyed×Nat
def hiO (a b:Array Keyed) (c:HoSt):StateT SortSt Sem (ForInStep HoSt):=do
 let d ← forIn [0:a.size+b.size] ((none,c.2.1,c.2.2.1,c.2.2.2.1,0,0):HcSt) (λ_ d=>hiC a b c.2.2.2.2 d)
 match d.1 with
 | some r=>pure (.done (some r,d.2.1,d.2.2.1,d.2.2.2.1,c.2.2.2.2))
 | none=>do
  rule "list.sort.gallop"
  let e ← forIn [0:a.size+b.size] ((none,d.2.1,d.2.2.1,d.2.2.2.1,c.2.2.2.2+1,d.2.2.2.2.1,d.2.2.2.2.2):HiSt) (λ_ e=>if e.2.2.2.2.1 > 1 then hi1 a b e.2.1 e.2.2.1 e.2.2.2.1 (e.2.2.2.2.1 - 1) e.2.2.2.2.2.1 e.2.2.2.2.2.2 else hi1 a b e.2.1 e.2.2.1 e.2.2.2.1 e.2.2.2.2.1 e.2.2.2.2.2.1 e.2.2.2.2.2.2)
  match e.1 with
  | some r=>pure (.done (some r,e.2.1,e.2.2.1,e.2.2.2.1,e.2.2.2.2.1))
  | none=>do
   Zag (e.2.2.2.2.1+1)
   pure (.yield (none,e.2.1,e.2.2.1,e.2.2.2.1,e.2.2.2.2.1+1))
theorem Zie {M:Model} {A:Around} {E:Value->Shared->Prop} {s:Shared} {Q:Array Keyed->SortSt->Prop} {st:SortSt} (a b:Array Keyed) (h:wpS M A E s (do
 rule "list.sort.merge-hi"
 let x ← elem' a (a.size - 1)
 if a.size - 1 == 0 then pure (a.extract 0 (a.size - 1)++b.extract 0 b.size++#[x].reverse)
 else if b.size == 1 then pure (b.extract 0 b.size++a.extract 0 (a.size - 1)++#[x].reverse)
 else do
  let st ← get
  let c ← forIn [0:a.size+b.size] ((none,a.size - 1,b.size,#[x],gallopOf st):HoSt) (λ_ c=>hiO a b c)
  match c.1 with
  | some r=>pure r
  | none=>unsupported "internal:list.sort.merge-bound") Q st):wpS M A E s (ZeK a b) Q st:=by
 show wpAny M A (ZeK a b st) _ E s
 wp_delta
 wp_delta
 refine by_eq ?_ h
 dsimp only
 refine bind_congr λ_=>bind_congr λx=>?_
 congr 1
 congr 1
 refine bind_congr λst=>?_
 congr 1
 .congr 1
  funext _ c
  unfold hiO
  congr 1
  .congr 1
   funext _ d
   unfold hiC
   refine bind_congr λy=>bind_congr λx=>bind_congr λr=>?_
   cases r with
   | some w =>
    cases w with
    | true=>rfl
    | false=>rfl
   | none=>rfl
  .funext d
   cases d.1 with
   | some r=>rfl
   | none =>
    dsimp only
    refine bind_congr λ_=>?_
    congr 1
    .congr 1
     funext _ e
     congr 1
     all_goals
      unfold hi1
      refine bind_congr λ_=>bind_congr λy=>bind_congr λr=>?_
      cases r with
      | none=>rfl
      | some k =>
       dsimp only
       congr 1
       .congr 1
        unfold hi2
        refine bind_congr λx=>?_
        congr 1
        refine bind_congr λy=>bind_congr λr=>?_
        cases r with
        | none=>rfl
        | some k1=>rfl
       .unfold hi2
        refine bind_congr λx=>?_
        congr 1
        refine bind_congr λy=>bind_congr λr=>?_
        cases r with
        | none=>rfl
        | some k1=>rfl
    .funext e
     cases e.1 with
     | some r=>rfl
     | none=>rfl
 .funext c
  cases c.1 with
  | some r=>rfl
  | none=>rfl
section
variable {prog:Program} {w:World} {A:Around} {E:Value->Shared->Prop} {s:Shared} {a₀:Array Keyed} {κ:SortKind} {ρ:Stg.RR} {a b:Array Keyed}
theorem Zju (h:a.toList.Pairwise (Lk ρ)) {n:Nat} (hn:n<=a.size):Srt ρ a 0 (0+n):=by
 intro x y hx hxy hy
 have hy':y<a.size:=by omega
 rw [kg_at (show x<a.size by omega),kg_at hy']
 by_cases e:x=y
 .subst e; omega
 .exact List.pairwise_iff_getElem.1 h x y (by simpa using (show x<a.size by omega)) (by simpa using hy') (by omega)
theorem Zjv {n:Nat} {x:Keyed} (h:x∈a.toList.take n):∃ j,j<n/\∃ hj:j<a.size,x=a[j]:=by
 obtain ⟨j,hj,e⟩:=List.mem_iff_getElem.1 h
 rw [length_take,Array.length_toList] at hj
 refine ⟨j,by omega,by omega,?_⟩
 rw [← e,getElem_take,Array.getElem_toList]
theorem Zgr {i n:Nat} {x:Keyed} (h:x∈(a.toList.take n).drop i):∃ j,i<=j/\j<n/\∃ hj:j<a.size,x=a[j]:=by
 obtain ⟨j,hj,e⟩:=List.mem_iff_getElem.1 h
 rw [length_drop,length_take,Array.length_toList] at hj
 refine ⟨i+j,by omega,by omega,by omega,?_⟩
 rw [← e,getElem_drop,getElem_take,Array.getElem_toList]
theorem Cut.low0 {left:Bool} {kv:Int} {n k:Nat} (h:Cut ρ left kv a 0 n k) {x:Keyed} (hx:x∈a.toList.take k):ρ.g x<=kv:=by
 obtain ⟨j,hj,hs,rfl⟩:=Zjv hx
 have:=h.lo j hj
 unfold Bd at this
 simp only [Nat.zero_add] at this
 rw [kg_at hs] at this
 cases left with
 | true=>simp only [if_true,decide_eq_true_eq] at this; omega
 | false=>simp only [Bool.false_eq_true,if_false,Bool.not_eq_true',decide_eq_false_iff_not] at this; omega
theorem Cut.high0 {left:Bool} {kv:Int} {n k:Nat} (h:Cut ρ left kv a 0 n k) {x:Keyed} (hx:x∈(a.toList.take n).drop k):kv<=ρ.g x:=by
 obtain ⟨j,hk,hj,hs,rfl⟩:=Zgr hx
 have:=h.hi j hk hj
 unfold Bd at this
 simp only [Nat.zero_add] at this
 rw [kg_at hs] at this
 cases left with
 | true=>simp only [if_true,decide_eq_false_iff_not] at this; omega
 | false=>simp only [Bool.false_eq_true,if_false,Bool.not_eq_false',decide_eq_true_eq] at this; omega
theorem ZcW {n:Nat} (hn:0<n) (hs:n<=a.size):(a.toList.take n).drop (n - 1)=[a[n - 1]]:=by
 rw [drop_take,show n - (n - 1)=1 by omega]
 exact Zch (by omega)
theorem ZeL {n:Nat} (hn:0<n) (hs:n<=a.size) (h:a.toList.Pairwise (Lk ρ)) {x:Keyed} (hx:x∈a.toList.take n):ρ.g x<=ρ.g a[n - 1]:=by
 obtain ⟨j,hj,hs2,rfl⟩:=Zjv hx
 have:=Zju h hs j (n - 1) (by omega) (by omega) (by omega)
 rw [kg_at hs2,kg_at (show n - 1<a.size by omega)] at this
 exact this
theorem MH.first' {out:Array Keyed} {na nb:Nat} (h:MH ρ a.toList b.toList out.toList.reverse na nb) (hl:∀ y∈b.toList.take 1,∀ x∈a.toList,ρ.g y<=ρ.g x) (e:nb=1):Res ρ a.toList b.toList (b.extract 0 nb++a.extract 0 na++out.reverse):=by
 subst e
 exact h.first hl
structure Twh (ρ:Stg.RR) (a₀ a b:Array Keyed):Prop where
 ma:∀ p∈a.toList,p∈a₀.toList
 mb:∀ p∈b.toList,p∈a₀.toList
 sa:a.toList.Pairwise (Lk ρ)
 sb:b.toList.Pairwise (Lk ρ)
 first:∀ y∈b.toList.take 1,∀ x∈a.toList,ρ.g y<=ρ.g x
structure Jh (ρ:Stg.RR) (a b:Array Keyed) (m na nb:Nat) (out:Array Keyed):Prop where
 M:MH ρ a.toList b.toList out.toList.reverse na nb
 bd:na+nb+m<=a.size+b.size
 la:na<=a.size
 lb:nb<=b.size
 pa:1<=na
 pb:2<=nb
theorem Jh.weak {m m' na nb:Nat} {out:Array Keyed} (h:Jh ρ a b m na nb out) (hm:m'<=m):Jh ρ a b m' na nb out:=⟨h.M,by have:=h.bd; omega,h.la,h.lb,h.pa,h.pb⟩
def HiP (ρ:Stg.RR) (a b:Array Keyed) (m:Nat) (c:HiSt):Prop:=(∃ r q,c=(some r,q)/\Res ρ a.toList b.toList r)\/∃ na nb out g k k1,c=(none,na,nb,out,g,k,k1)/\Jh ρ a b m na nb out
def HiR (ρ:Stg.RR) (a b:Array Keyed) (m:Nat) (st:SortSt) (r:ForInStep HiSt) (st':SortSt):Prop:=Sm st st'/\match r with
 | .done c=>HiP ρ a b m c
 | .yield c=>∃ na nb out g k k1,c=(none,na,nb,out,g,k,k1)/\Jh ρ a b m na nb out
theorem MH.pushA {out:Array Keyed} {na nb:Nat} (h:MH ρ a.toList b.toList out.toList.reverse na nb) (hn:0<na) (hs:na<=a.size) (hk:∀ x∈b.toList.take nb,ρ.g x<=ρ.g a[na - 1]):MH ρ a.toList b.toList (out.push a[na - 1]).toList.reverse (na - 1) nb:=by
 have:=h.takeA (na - 1) (by omega) (by rw [ZcW hn hs]; intro t ht x hx; rw [List.mem_singleton.1 ht]; exact hk x hx)
 rw [ZcW hn hs] at this
 rw [Array.toList_push,List.reverse_append]
 exact this
theorem MH.pushB {out:Array Keyed} {na nb:Nat} (h:MH ρ a.toList b.toList out.toList.reverse na nb) (hn:0<nb) (hs:nb<=b.size) (hk:∀ x∈a.toList.take na,ρ.g x<=ρ.g b[nb - 1]):MH ρ a.toList b.toList (out.push b[nb - 1]).toList.reverse na (nb - 1):=by
 have:=h.takeB (nb - 1) (by omega) (by rw [ZcW hn hs]; intro t ht x hx; rw [List.mem_singleton.1 ht]; exact hk x hx)
 rw [ZcW hn hs] at this
 rw [Array.toList_push,List.reverse_append]
 exact this
theorem ZlP (out:Array Keyed) (i n:Nat):(out++(a.extract i n).reverse).toList.reverse=(a.toList.take n).drop i++out.toList.reverse:=by
 rw [Array.toList_append,List.reverse_append,Array.toList_reverse,List.reverse_reverse,Zem]
theorem ZlQ {st0 st:SortSt} {out:Array Keyed} {na nb g k k1 m:Nat} (T:Twh ρ a₀ a b) (hS:Sm st0 st) (h:Jh ρ a b m na nb out) (hk:∀ x∈b.toList.take nb,ρ.g x<=ρ.g (a[na - 1]'(by have:=h.pa; have:=h.la; omega))):wpS (model prog w) A E s (hi3 a b na nb out g k k1) (HiR ρ a b (m+1) st0) st:=by
 obtain ⟨M,bd,la,lb,pa,pb⟩:=h
 unfold hi3
 refine wpS_bind (ZG (show na - 1<a.size by omega) ?_)
 have M2:=M.pushA (by omega) la hk
 by_cases e:na - 1=0
 .rw [if_pos (by simpa using e)]
  exact wpS_pure ⟨hS,.inl ⟨_,_,rfl,M2.res (.inl e)⟩⟩
 .rw [if_neg (by simpa using e)]
  have J:Jh ρ a b (m+1) (na - 1) nb (out.push a[na - 1]):=⟨M2,by omega,by omega,lb,by omega,pb⟩
  by_cases c:(decide (k<7) && decide (k1<7))=true
  .rw [if_pos c]
   exact wpS_pure ⟨hS,.inr ⟨_,_,_,_,_,_,rfl,J⟩⟩
  .rw [if_neg c]
   exact wpS_pure ⟨hS,_,_,_,_,_,_,rfl,J⟩
theorem ZlR {st0 st:SortSt} {out:Array Keyed} {na nb g k bc m:Nat} (h0:Stg.Cmp prog w A s κ ρ a₀) (hk:kindOf st=κ) (T:Twh ρ a₀ a b) (hS:Sm st0 st) (h:Jh ρ a b m na nb out) (hq:∀ x∈a.toList.take na,ρ.g x<=ρ.g (b[nb - 1]'(by have:=h.pb; have:=h.lb; omega))):wpS (model prog w) A E s (hi2 a b na nb out g k bc) (HiR ρ a b (m+1) st0) st:=by
 obtain ⟨M,bd,la,lb,pa,pb⟩:=h
 unfold hi2
 refine wpS_bind (ZG (show nb - 1<b.size by omega) ?_)
 have M2:=M.pushB (by omega) lb hq
 by_cases e:nb - 1=1
 .rw [if_pos (by simpa using e)]
  exact wpS_pure ⟨hS,.inl ⟨_,_,rfl,M2.first' T.first e⟩⟩
 .rw [if_neg (by simpa using e)]
  refine wpS_bind (ZG (show na - 1<a.size by omega) ?_)
  refine wpS_bind (Zbs hk h0 T.mb (T.ma _ (by simp)) (by omega) (by omega) (Zju T.sb (by omega)) (λi C=>?_))
  dsimp only
  have fa:∀ x∈a.toList.take na,ρ.g x<=ρ.g a[na - 1]:=λx hx=>ZeL (by omega) la T.sa hx
  have ci:=C.le
  have M3:=M2.takeB i (by omega) (λt ht x hx=>Int.le_trans (fa x hx) (C.high0 ht))
  rw [← ZlP] at M3
  have hi:∀ x∈b.toList.take i,ρ.g x<=ρ.g a[na - 1]:=λx hx=>C.low0 hx
  by_cases c:nb - 1 - i > 0
  .rw [if_pos c]
   by_cases e2:i=1
   .rw [if_pos (by simpa using e2)]
    exact wpS_pure ⟨hS,.inl ⟨_,_,rfl,M3.first' T.first e2⟩⟩
   .rw [if_neg (by simpa using e2)]
    by_cases e3:i=0
    .rw [if_pos (by simpa using e3)]
     exact wpS_pure ⟨hS,.inl ⟨_,_,rfl,M3.res (.inr e3)⟩⟩
    .rw [if_neg (by simpa using e3)]
     exact ZlQ T hS ⟨M3,by omega,la,by omega,pa,by omega⟩ hi
  .rw [if_neg c]
   have e3:i=nb - 1:=by omega
   subst e3
   exact ZlQ T hS ⟨M2,by omega,la,by omega,pa,by omega⟩ hi
theorem ZnA {st0 st:SortSt} {out:Array Keyed} {na nb g ac bc m:Nat} (h0:Stg.Cmp prog w A s κ ρ a₀) (hk:kindOf st=κ) (T:Twh ρ a₀ a b) (hS:Sm st0 st) (h:Jh ρ a b m na nb out):wpS (model prog w) A E s (hi1 a b na nb out g ac bc) (HiR ρ a b (m+1) st0) st:=by
 obtain ⟨M,bd,la,lb,pa,pb⟩:=h
 unfold hi1
 refine wpS_bind (Zht λst1 hS1=>?_)
 have hk1:kindOf st1=κ:=hS1.1.trans hk
 have hS2:=hS.trans hS1
 refine wpS_bind (ZG (show nb - 1<b.size by omega) ?_)
 refine wpS_bind (Zbs hk1 h0 T.ma (T.mb _ (by simp)) (by omega) (by omega) (Zju T.sa la) (λi C=>?_))
 dsimp only
 have fb:∀ x∈b.toList.take nb,ρ.g x<=ρ.g b[nb - 1]:=λx hx=>ZeL (by omega) lb T.sb hx
 have ci:=C.le
 have M3:=M.takeA i ci (λt ht x hx=>Int.le_trans (fb x hx) (C.high0 ht))
 rw [← ZlP] at M3
 have hi:∀ x∈a.toList.take i,ρ.g x<=ρ.g b[nb - 1]:=λx hx=>C.low0 hx
 by_cases c:na - i > 0
 .rw [if_pos c]
  by_cases e2:i=0
  .rw [if_pos (by simpa using e2)]
   exact wpS_pure ⟨hS2,.inl ⟨_,_,rfl,M3.res (.inl e2)⟩⟩
  .rw [if_neg (by simpa using e2)]
   exact ZlR h0 hk1 T hS2 ⟨M3,by omega,by omega,lb,by omega,pb⟩ hi
 .rw [if_neg c]
  have e3:i=na:=by omega
  subst e3
  exact ZlR h0 hk1 T hS2 ⟨M,by omega,la,lb,pa,pb⟩ hi
def HcP (ρ:Stg.RR) (a b:Array Keyed) (m:Nat) (c:HcSt):Prop:=(∃ r q,c=(some r,q)/\Res ρ a.toList b.toList r)\/∃ na nb out k k1,c=(none,na,nb,out,k,k1)/\Jh ρ a b m na nb out
theorem ZnB {st:SortSt} {out:Array Keyed} {mg na nb ac bc m:Nat} (h0:Stg.Cmp prog w A s κ ρ a₀) (hk:kindOf st=κ) (T:Twh ρ a₀ a b) (h:Jh ρ a b m na nb out):wpS (model prog w) A E s (hiC a b mg (none,na,nb,out,ac,bc)) (λr st'=>st'=st/\match r with
  | .done c=>HcP ρ a b (m+1) c
  | .yield c=>∃ na nb out k k1,c=(none,na,nb,out,k,k1)/\Jh ρ a b (m+1) na nb out) st:=by
 obtain ⟨M,bd,la,lb,pa,pb⟩:=h
 have fa:∀ x∈a.toList.take na,ρ.g x<=ρ.g a[na - 1]:=λx hx=>ZeL (by omega) la T.sa hx
 have fb:∀ x∈b.toList.take nb,ρ.g x<=ρ.g b[nb - 1]:=λx hx=>ZeL (by omega) lb T.sb hx
 have ha:na - 1<a.size:=by omega
 have hb:nb - 1<b.size:=by omega
 unfold hiC
 dsimp only
 refine wpS_bind (ZG hb (wpS_bind (ZG ha (wpS_bind (lt_ok hk h0 (T.mb _ (by simp)) (T.ma _ (by simp)) ?_)))))
 dsimp only
 by_cases c:ρ.g b[nb - 1]<ρ.g a[na - 1]
 .rw [decide_eq_true c,if_pos rfl]
  refine wpS_bind (ZG ha ?_)
  have M2:=M.pushA (by omega) la (λx hx=>by have:=fb x hx; omega)
  by_cases e:na - 1=0
  .rw [if_pos (by simpa using e)]
   exact wpS_pure ⟨rfl,.inl ⟨_,_,rfl,M2.res (.inl e)⟩⟩
  .rw [if_neg (by simpa using e)]
   have J:Jh ρ a b (m+1) (na - 1) nb (out.push a[na - 1]):=⟨M2,by omega,by omega,lb,by omega,pb⟩
   by_cases c2:ac+1 ≥ mg
   .rw [if_pos c2]
    exact wpS_pure ⟨rfl,.inr ⟨_,_,_,_,_,rfl,J⟩⟩
   .rw [if_neg c2]
    exact wpS_pure ⟨rfl,_,_,_,_,_,rfl,J⟩
 .rw [decide_eq_false c,if_neg (by simp)]
  refine wpS_bind (ZG hb ?_)
  have M2:=M.pushB (by omega) lb (λx hx=>by have:=fa x hx; omega)
  by_cases e:nb - 1=1
  .rw [if_pos (by simpa using e)]
   exact wpS_pure ⟨rfl,.inl ⟨_,_,rfl,M2.first' T.first e⟩⟩
  .rw [if_neg (by simpa using e)]
   have J:Jh ρ a b (m+1) na (nb - 1) (out.push b[nb - 1]):=⟨M2,by omega,la,by omega,pa,by omega⟩
   by_cases c2:bc+1 ≥ mg
   .rw [if_pos c2]
    exact wpS_pure ⟨rfl,.inr ⟨_,_,_,_,_,rfl,J⟩⟩
   .rw [if_neg c2]
    exact wpS_pure ⟨rfl,_,_,_,_,_,rfl,J⟩
theorem ZnC {st:SortSt} {out:Array Keyed} {na nb g m:Nat} (h0:Stg.Cmp prog w A s κ ρ a₀) (hk:kindOf st=κ) (T:Twh ρ a₀ a b) (h:Jh ρ a b m na nb out):wpS (model prog w) A E s (hiO a b (none,na,nb,out,g)) (λr st'=>Sm st st'/\match r with
  | .done c=>∃ r q,c=(some r,q)/\Res ρ a.toList b.toList r
  | .yield c=>∃ na nb out g,c=(none,na,nb,out,g)/\Jh ρ a b (m+1) na nb out) st:=by
 have pos:0<a.size+b.size:=by have:=h.la; have:=h.pa; omega
 unfold hiO
 dsimp only
 refine wpS_bind (wpS_mono (wpS_forRange (I:=λx c st2=>st2=st/\∃ na nb out k k1,c=(none,na,nb,out,k,k1)/\Jh ρ a b (m+x) na nb out) (Q:=λc st2=>st2=st/\HcP ρ a b (m+1) c) ?turn ?last ?first) ?after)
 case first=>exact ⟨rfl,_,_,_,_,_,rfl,h⟩
 case last =>
  rintro c st2 ⟨rfl,na,nb,out,k,k1,rfl,J⟩
  exact ⟨rfl,.inr ⟨_,_,_,_,_,rfl,J.weak (by omega)⟩⟩
 case turn =>
  rintro x c st2 _ hx ⟨rfl,na,nb,out,k,k1,rfl,J⟩
  refine wpS_mono (ZnB h0 hk T J) ?_
  rintro r st3 ⟨rfl,hr⟩
  cases r with
  | done c =>
   refine ⟨rfl,?_⟩
   rcases hr with hr | ⟨na,nb,out,k,k1,rfl,J⟩
   .exact .inl hr
   .exact .inr ⟨_,_,_,_,_,rfl,J.weak (by omega)⟩
  | yield c=>exact ⟨rfl,hr⟩
 case after =>
  rintro c st2 ⟨rfl,hc⟩
  rcases hc with ⟨r,q,rfl,R⟩ | ⟨na,nb,out,k,k1,rfl,J⟩
  .exact wpS_pure ⟨Sm.refl _,_,_,rfl,R⟩
  .dsimp only
   refine wpS_bind (wpS_lift (wpAny_rule ⟨rfl,?_⟩))
   refine wpS_bind (wpS_mono (wpS_forRange (I:=λx c st3=>Sm st2 st3/\∃ na nb out g k k1,c=(none,na,nb,out,g,k,k1)/\Jh ρ a b (m+x) na nb out) (Q:=λc st3=>Sm st2 st3/\HiP ρ a b (m+1) c) ?jturn ?jlast ?jfirst) ?jafter)
   case jfirst=>exact ⟨Sm.refl _,_,_,_,_,_,_,rfl,J.weak (by omega)⟩
   case jlast =>
    rintro c st3 ⟨hS,na,nb,out,g,k,k1,rfl,J⟩
    exact ⟨hS,.inr ⟨_,_,_,_,_,_,rfl,J.weak (by omega)⟩⟩
   case jturn =>
    rintro x c st3 _ hx ⟨hS,na,nb,out,g,k,k1,rfl,J⟩
    have hk3:kindOf st3=κ:=hS.1.trans hk
    dsimp only
    rw [show (if g > 1 then hi1 a b na nb out (g - 1) k k1 else hi1 a b na nb out g k k1)=hi1 a b na nb out (if g > 1 then g - 1 else g) k k1 by split <;> rfl]
    refine wpS_mono (ZnA h0 hk3 T hS J) ?_
    rintro r st4 ⟨hS4,hr⟩
    cases r with
    | done c =>
     refine ⟨hS4,?_⟩
     rcases hr with hr | ⟨na,nb,out,g,k,k1,rfl,J⟩
     .exact .inl hr
     .exact .inr ⟨_,_,_,_,_,_,rfl,J.weak (by omega)⟩
    | yield c=>exact ⟨hS4,hr⟩
   case jafter =>
    rintro c st3 ⟨hS,hc⟩
    rcases hc with ⟨r,q,rfl,R⟩ | ⟨na,nb,out,g,k,k1,rfl,J⟩
    .exact wpS_pure ⟨hS,_,_,rfl,R⟩
    .refine wpS_bind (Zht λst4 hS4=>wpS_pure ⟨hS.trans hS4,_,_,_,_,rfl,J⟩)
theorem Zif {st:SortSt} {Q:Array Keyed->SortSt->Prop} (h0:Stg.Cmp prog w A s κ ρ a₀) (hk:kindOf st=κ) (T:Twh ρ a₀ a b) (ha:0<a.size) (hb:0<b.size) (hf:∀ x∈b.toList,ρ.g x<=ρ.g a[a.size - 1])
  (h:∀ r st',Sm st st'->Res ρ a.toList b.toList r->Q r st'):wpS (model prog w) A E s (ZeK a b) Q st:=by
 refine Zie _ _ ?_
 refine wpS_bind (wpS_lift (wpAny_rule ⟨rfl,?_⟩))
 refine wpS_bind (ZG (show a.size - 1<a.size by omega) ?_)
 have ta:a.toList.take a.size=a.toList:=take_of_length_le (by simp)
 have tb:b.toList.take b.size=b.toList:=take_of_length_le (by simp)
 have M0:MH ρ a.toList b.toList (#[]:Array Keyed).toList.reverse a.size b.size:=⟨by rw [ta,tb]; simp,by rw [ta]; simpa using T.sa,by rw [tb]; simpa using T.sb⟩
 have M1:MH ρ a.toList b.toList (#[a[a.size - 1]]:Array Keyed).toList.reverse (a.size - 1) b.size:=M0.pushA ha (Nat.le_refl _) (λx hx=>hf x (by rw [tb] at hx; exact hx))
 by_cases e1:a.size - 1=0
 .rw [if_pos (by simpa using e1)]
  exact wpS_pure (h _ _ (Sm.refl _) (M1.res (.inl e1)))
 .rw [if_neg (by simpa using e1)]
  by_cases e2:b.size=1
  .rw [if_pos (by simpa using e2)]
   exact wpS_pure (h _ _ (Sm.refl _) (M1.first' T.first e2))
  .rw [if_neg (by simpa using e2)]
   refine wpS_bind (wpS_get ?_)
   refine wpS_bind (wpS_mono (wpS_forRange (I:=λx c st2=>Sm st st2/\∃ na nb out g,c=(none,na,nb,out,g)/\Jh ρ a b (x+1) na nb out) (Q:=λc st2=>Sm st st2/\∃ r q,c=(some r,q)/\Res ρ a.toList b.toList r) ?turn ?last ?first) ?after)
   case first=>exact ⟨Sm.refl _,_,_,_,_,rfl,M1,by omega,by omega,by omega,by omega,by omega⟩
   case last =>
    rintro c st2 ⟨_,na,nb,out,g,rfl,J⟩
    have:=J.bd
    have:=J.pa
    omega
   case turn =>
    rintro x c st2 _ hx ⟨hS,na,nb,out,g,rfl,J⟩
    refine wpS_mono (ZnC h0 (hS.1.trans hk) T J) ?_
    rintro r st3 ⟨hS3,hr⟩
    cases r with
    | done c=>exact ⟨hS.trans hS3,hr⟩
    | yield c=>exact ⟨hS.trans hS3,hr⟩
   case after =>
    rintro c st2 ⟨hS,r,q,rfl,R⟩
    exact wpS_pure (h r st2 hS R)
end
end L2.Stm
set_option maxHeartbeats 400000
namespace L2.Stm
open PySem PySem.Spec PyProof.Rows
def ZeM:Nat->StateT SortSt Sem Bool:=sortPriv% PySem.Builtin.mergeAt
def layAt (arr:Array Keyed) (at_:Nat) (l:List Keyed) (k:Nat):Array Keyed:=(l.zipIdx k).foldl (λa (p,j)=>a.setIfInBounds (at_+j) p) arr
theorem Zci (arr:Array Keyed) (at_:Nat) (l:List Keyed) (k i:Nat) (h:at_+k+l.length<=arr.size):(layAt arr at_ l k)[i]?=if at_+k<=i/\i<at_+k+l.length then l[i - (at_+k)]? else arr[i]?:=by
 induction l generalizing arr k with
 | nil=>rw [if_neg (by simp)]; rfl
 | cons x l ih =>
  have e:layAt arr at_ (x :: l) k=layAt (arr.setIfInBounds (at_+k) x) at_ l (k+1):=by
   unfold layAt
   rw [List.zipIdx_cons,List.foldl_cons]
  simp only [length_cons] at h ⊢
  rw [e,ih (arr.setIfInBounds (at_+k) x) (k+1) (by simp; omega)]
  by_cases c:at_+k=i
  .subst c
   rw [if_neg (by omega),if_pos (by omega),Nat.sub_self,Array.getElem?_setIfInBounds_self_of_lt (by omega)]
   rfl
  .by_cases c2:at_+(k+1)<=i/\i<at_+(k+1)+l.length
   .rw [if_pos c2,if_pos (by omega),show i - (at_+k)=(i - (at_+(k+1)))+1 by omega,List.getElem?_cons_succ]
   .rw [if_neg c2,if_neg (by omega),Array.getElem?_setIfInBounds_ne c]
theorem ZfK (arr:Array Keyed) (at_:Nat) (l:List Keyed) (h:at_+l.length<=arr.size):(layAt arr at_ l 0).toList=arr.toList.take at_++(l++arr.toList.drop (at_+l.length)):=by
 refine List.ext_getElem? λi=>?_
 rw [Array.getElem?_toList,Zci arr at_ l 0 i (by omega),Nat.add_zero]
 have hl:(arr.toList.take at_).length=at_:=by rw [length_take,Array.length_toList]; omega
 by_cases c1:i<at_
 .rw [if_neg (by omega),getElem?_append_left (by omega),List.getElem?_take_of_lt c1,Array.getElem?_toList]
 .rw [getElem?_append_right (by omega),hl]
  by_cases c2:i<at_+l.length
  .rw [if_pos (by omega),getElem?_append_left (by omega)]
  .rw [if_neg (by omega),getElem?_append_right (by omega),getElem?_drop,Array.getElem?_toList]
   congr 1
   omega
theorem Zig {arr:Array Keyed} {at_ n:Nat} {l:List Keyed} (h:at_+n<=arr.size) (p:l.Perm (arr.extract at_ (at_+n)).toList):(layAt arr at_ l 0).Perm arr:=by
 rw [Zgo] at p
 have e:l.length=n:=by rw [p.length_eq,length_take,length_drop,Array.length_toList]; omega
 refine Array.perm_iff_toList_perm.2 ?_
 rw [ZfK arr at_ l (by omega),e]
 have d:arr.toList=arr.toList.take at_++((arr.toList.drop at_).take n++arr.toList.drop (at_+n)):=by
  rw [← drop_drop,take_append_drop,take_append_drop]
 conv=>rhs; rw [d]
 exact (p.append_right _).append_left _
section
variable {prog:Program} {w:World} {A:Around} {E:Value->Shared->Prop} {s:Shared} {a₀:Array Keyed} {κ:SortKind} {ρ:Stg.RR}
theorem pw_ex {arr:Array Keyed} {i j:Nat} (hj:j<=arr.size) (h:Srt ρ arr i j):(arr.extract i j).toList.Pairwise (Lk ρ):=by
 refine List.pairwise_iff_getElem.2 λx y hx hy hxy=>?_
 simp only [Array.length_toList,Array.size_extract] at hx hy
 have:=h (i+x) (i+y) (by omega) (by omega) (by omega)
 rw [kg_at (show i+x<arr.size by omega),kg_at (show i+y<arr.size by omega)] at this
 simpa [Lk] using this
theorem ZlS {arr:Array Keyed} {i j:Nat} {x:Keyed} (h:x∈(arr.extract i j).toList):∃ k,i<=k/\k<j/\k<arr.size/\ρ.g x=Stg.Kg ρ arr k/\x∈arr.toList:=by
 rw [Zem] at h
 obtain ⟨k,h1,h2,h3,rfl⟩:=Zgr h
 exact ⟨k,h1,h2,h3,(kg_at h3).symm,by simp⟩
theorem Zjw {arr:Array Keyed} {at_:Nat} {l:List Keyed} (h:at_+l.length<=arr.size) {i:Nat} (h1:at_<=i) (h2:i<at_+l.length):Stg.Kg ρ (layAt arr at_ l 0) i=ρ.g (l[i - at_]'(by omega)):=by
 have:=Zci arr at_ l 0 i (by omega)
 rw [if_pos (by omega),Nat.add_zero,getElem?_eq_getElem (by omega)] at this
 unfold Stg.Kg
 rw [this]
 rfl
theorem Zen {arr:Array Keyed} {at_:Nat} {l:List Keyed} (h:at_+l.length<=arr.size) {i:Nat} (h1:i<at_\/at_+l.length<=i):Stg.Kg ρ (layAt arr at_ l 0) i=Stg.Kg ρ arr i:=by
 have:=Zci arr at_ l 0 i (by omega)
 rw [if_neg (by omega)] at this
 unfold Stg.Kg
 rw [this]
end
end L2.Stm
set_option maxHeartbeats 1000000
namespace L2.Stm
open PySem PySem.Spec PyProof.Rows
section
variable {prog:Program} {w:World} {A:Around} {E:Value->Shared->Prop} {s:Shared} {a₀:Array Keyed} {κ:SortKind} {ρ:Stg.RR}
theorem ZmC {arr:Array Keyed} {u lo hi:Nat} {r:List Keyed} (h:u+r.length<=arr.size) (hr:r.Pairwise (Lk ρ)) (hne:0<r.length) (hl:Srt ρ arr lo u) (hh:Srt ρ arr (u+r.length) hi)
  (bl:∀ i,lo<=i->i<u->∀ x∈r,Stg.Kg ρ arr i<=ρ.g x) (bh:∀ i,u+r.length<=i->i<hi->∀ x∈r,ρ.g x<=Stg.Kg ρ arr i):Srt ρ (layAt arr u r 0) lo hi:=by
 intro i j hi1 hij hj
 by_cases a1:i<u
 .rw [Zen h (.inl a1)]
  by_cases b1:j<u
  .rw [Zen h (.inl b1)]
   exact hl i j hi1 hij b1
  .by_cases b2:j<u+r.length
   .rw [Zjw h (by omega) b2]
    exact bl i hi1 a1 _ (getElem_mem _)
   .rw [Zen h (.inr (by omega))]
    exact Int.le_trans (bl i hi1 a1 (r[0]'hne) (getElem_mem _)) (bh j (by omega) hj _ (getElem_mem _))
 .by_cases a2:i<u+r.length
  .rw [Zjw h (by omega) a2]
   by_cases b2:j<u+r.length
   .rw [Zjw h (by omega) b2]
    by_cases e:i=j
    .subst e; exact Int.le_refl _
    .exact List.pairwise_iff_getElem.1 hr (i - u) (j - u) (by omega) (by omega) (by omega)
   .rw [Zen h (.inr (by omega))]
    exact bh j (by omega) hj _ (getElem_mem _)
  .rw [Zen h (.inr (by omega)),Zen h (.inr (by omega))]
   exact hh i j (by omega) hij hj
theorem Cut.lowK {left:Bool} {kv:Int} {arr:Array Keyed} {base n k:Nat} (h:Cut ρ left kv arr base n k) {i:Nat} (h1:base<=i) (h2:i<base+k):Stg.Kg ρ arr i<=kv:=by
 have:=h.lo (i - base) (by omega)
 unfold Bd at this
 rw [show base+(i - base)=i by omega] at this
 cases left with
 | true=>simp only [if_true,decide_eq_true_eq] at this; omega
 | false=>simp only [Bool.false_eq_true,if_false,Bool.not_eq_true',decide_eq_false_iff_not] at this; omega
theorem Cut.highK {left:Bool} {kv:Int} {arr:Array Keyed} {base n k:Nat} (h:Cut ρ left kv arr base n k) {i:Nat} (h1:base+k<=i) (h2:i<base+n):kv<=Stg.Kg ρ arr i:=by
 have:=h.hi (i - base) (by omega) (by omega)
 unfold Bd at this
 rw [show base+(i - base)=i by omega] at this
 cases left with
 | true=>simp only [if_true,decide_eq_false_iff_not] at this; omega
 | false=>simp only [Bool.false_eq_true,if_false,Bool.not_eq_false',decide_eq_true_eq] at this; omega
theorem ZmD {st st':SortSt} {Q:PUnit->SortSt->Prop} (h:Q ⟨⟩ st'):wpS (model prog w) A E s (set st') Q st:=wpS_modify (f:=λ_=>st') h
theorem Zih {st:SortSt} {i sa na p sb nb q:Nat} {Q:Bool->SortSt->Prop} (h0:Stg.Cmp prog w A s κ ρ a₀) (hk:kindOf st=κ) (ha:∀ x∈(arrOf st).toList,x∈a₀.toList) (hfl:failedOf st=none)
  (e1:(pendingOf st)[i]?=some (sa,na,p)) (e2:(pendingOf st)[i+1]?=some (sb,nb,q)) (hsb:sb=sa+na) (pa:0<na) (pb:0<nb) (hsz:sb+nb<=(arrOf st).size) (s1:Srt ρ (arrOf st) sa (sa+na)) (s2:Srt ρ (arrOf st) sb (sb+nb))
  (h:∀ st',kindOf st'=κ->failedOf st'=none->(arrOf st').Perm (arrOf st)->pendingOf st'=((pendingOf st).setIfInBounds i (sa,na+nb,p)).eraseIdxIfInBounds (i+1)->Srt ρ (arrOf st') sa (sb+nb) ->
   (∀ j,j<sa\/sb+nb<=j->(arrOf st')[j]?=(arrOf st)[j]?)->Q true st'):wpS (model prog w) A E s (ZeM i) Q st:=by
 show wpAny (model prog w) A (ZeM i st) _ E s
 wp_delta
 wp_delta
 refine by_eq rfl ?_
 refine wpS_bind (wpS_get ?_)
 rw [e1,e2]
 refine wpS_bind (ZmD (st':=SortSt.mk' (kindOf st) (arrOf st) (((pendingOf st).setIfInBounds i (sa,na+nb,p)).eraseIdxIfInBounds (i+1)) (gallopOf st) (failedOf st)) ?_)
 generalize hst1:SortSt.mk' (kindOf st) (arrOf st) (((pendingOf st).setIfInBounds i (sa,na+nb,p)).eraseIdxIfInBounds (i+1)) (gallopOf st) (failedOf st)=st1
 have k1:kindOf st1=κ:=by rw [← hst1]; exact hk
 have f1:failedOf st1=none:=by rw [← hst1]; exact hfl
 have a1:arrOf st1=arrOf st:=by rw [← hst1]
 have p1:pendingOf st1=((pendingOf st).setIfInBounds i (sa,na+nb,p)).eraseIdxIfInBounds (i+1):=by rw [← hst1]
 have hb0:sb<(arrOf st).size:=by omega
 refine wpS_bind (ZG hb0 ?_)
 refine wpS_bind (Zbs k1 h0 ha (ha _ (by simp)) (show sa+na<=(arrOf st).size by omega) pa s1 (λk C1=>?_))
 have c1:=C1.le
 rw [← kg_at hb0] at C1
 dsimp only
 have whole:(∀ x y,sa<=x->x<sb->sb<=y->y<sb+nb->Stg.Kg ρ (arrOf st) x<=Stg.Kg ρ (arrOf st) y)->Srt ρ (arrOf st) sa (sb+nb):=λhc x y hx hxy hy=>by
  by_cases u:y<sb
  .exact s1 x y hx hxy (by omega)
  .by_cases v:x<sb
   .exact hc x y hx v (by omega) hy
   .exact s2 x y (by omega) hxy hy
 by_cases z:na - k=0
 .rw [if_pos (by simpa using z)]
  refine wpS_pure (h st1 k1 f1 (by rw [a1]) p1 ?_ (λj _=>by rw [a1]))
  rw [a1]
  refine whole λx y hx hx2 hy hy2=>?_
  exact Int.le_trans (C1.lowK hx (by omega)) (s2 sb y (Nat.le_refl _) hy hy2)
 .rw [if_neg (by simpa using z)]
  have hl0:sa+k+(na - k) - 1<(arrOf st).size:=by omega
  refine wpS_bind (ZG hl0 ?_)
  refine wpS_bind (Zbs k1 h0 ha (ha _ (by simp)) (show sb+nb<=(arrOf st).size by omega) (by omega) s2 (λn2 C2=>?_))
  have c2:=C2.le
  rw [← kg_at hl0,show sa+k+(na - k) - 1=sb - 1 by omega] at C2
  dsimp only
  by_cases z2:n2=0
  .rw [if_pos (by simpa using z2)]
   refine wpS_pure (h st1 k1 f1 (by rw [a1]) p1 ?_ (λj _=>by rw [a1]))
   rw [a1]
   refine whole λx y hx hx2 hy hy2=>?_
   exact Int.le_trans (s1 x (sb - 1) hx (by omega) (by omega)) (C2.highK (by omega) hy2)
  .rw [if_neg (by simpa using z2)]
   have c3:=Nat.pos_of_ne_zero z2
   have mX:∀ x∈((arrOf st).extract (sa+k) sb).toList,∃ j,sa+k<=j/\j<sb/\j<(arrOf st).size/\ρ.g x=Stg.Kg ρ (arrOf st) j/\x∈(arrOf st).toList:=λx hx=>ZlS hx
   have mY:∀ x∈((arrOf st).extract sb (sb+n2)).toList,∃ j,sb<=j/\j<sb+n2/\j<(arrOf st).size/\ρ.g x=Stg.Kg ρ (arrOf st) j/\x∈(arrOf st).toList:=λx hx=>ZlS hx
   have sX:((arrOf st).extract (sa+k) sb).toList.Pairwise (Lk ρ):=pw_ex (by omega) (λx y p q r=>s1 x y (by omega) q (by omega))
   have sY:((arrOf st).extract sb (sb+n2)).toList.Pairwise (Lk ρ):=pw_ex (by omega) (λx y p q r=>s2 x y (by omega) q (by omega))
   have zX:((arrOf st).extract (sa+k) sb).size=na - k:=by rw [Array.size_extract]; omega
   have zY:((arrOf st).extract sb (sb+n2)).size=n2:=by rw [Array.size_extract]; omega
   have low:∀ x∈((arrOf st).extract (sa+k) sb).toList,Stg.Kg ρ (arrOf st) sb<=ρ.g x:=λx hx=>by
    obtain ⟨j,j1,j2,j3,e,_⟩:=mX x hx
    rw [e]
    exact C1.highK j1 (by omega)
   have high:∀ x∈((arrOf st).extract sb (sb+n2)).toList,ρ.g x<=Stg.Kg ρ (arrOf st) (sb - 1):=λx hx=>by
    obtain ⟨j,j1,j2,j3,e,_⟩:=mY x hx
    rw [e]
    exact C2.lowK j1 j2
   have fin:∀ r st',Sm st1 st'->Res ρ ((arrOf st).extract (sa+k) sb).toList ((arrOf st).extract sb (sb+n2)).toList r->wpS (model prog w) A E s (do
     modify λs=>SortSt.mk' (kindOf s) (layAt (arrOf s) (sa+k) r.toList 0) (pendingOf s) (gallopOf s) (failedOf s)
     return (failedOf (← get)).isNone) Q st':=by
    rintro r st' ⟨hS1,hS2,hS3,hS4⟩ ⟨rp,rs⟩
    refine wpS_bind (wpS_modify (wpS_bind (wpS_get (wpS_pure ?_))))
    have ex:((arrOf st).extract (sa+k) sb).toList++((arrOf st).extract sb (sb+n2)).toList=((arrOf st).extract (sa+k) (sa+k+(na - k+n2))).toList:=by
     rw [Zem,Zem,Zem,drop_take,drop_take,drop_take]
     rw [show sb - (sa+k)=na - k by omega,show sb+n2 - sb=n2 by omega,show sa+k+(na - k+n2) - (sa+k)=(na - k)+n2 by omega,List.take_add,drop_drop,show sa+k+(na - k)=sb by omega]
    have len:r.toList.length=na - k+n2:=by rw [rp.length_eq,length_append,Array.length_toList,Array.length_toList,zX,zY]
    have in_r:∀ x∈r.toList,Stg.Kg ρ (arrOf st) sb<=ρ.g x/\ρ.g x<=Stg.Kg ρ (arrOf st) (sb - 1):=λx hx=>by
     rcases List.mem_append.1 (rp.mem_iff.1 hx) with hx | hx
     .obtain ⟨j,j1,j2,j3,e,_⟩:=mX x hx
      exact ⟨low x hx,by rw [e]; exact s1 j (sb - 1) (by omega) (by omega) (by omega)⟩
     .obtain ⟨j,j1,j2,j3,e,_⟩:=mY x hx
      exact ⟨by rw [e]; exact s2 sb j (Nat.le_refl _) j1 (by omega),high x hx⟩
    have hs3:failedOf st'=none:=hS4.trans f1
    show Q (failedOf st').isNone _
    rw [hs3]
    refine h _ (hS1.trans k1) rfl ?_ (hS3.trans p1) ?_ ?_
    .show (layAt (arrOf st') (sa+k) r.toList 0).Perm (arrOf st)
     rw [hS2,a1]
     exact Zig (n:=na - k+n2) (by omega) (by rw [← ex]; exact rp)
    .show Srt ρ (layAt (arrOf st') (sa+k) r.toList 0) sa (sb+nb)
     rw [hS2,a1]
     refine ZmC (by omega) rs (by omega) (λx y p q r=>s1 x y p q (by omega)) (λx y p q r=>s2 x y (by omega) q r) (λi i1 i2 x hx=>?_) (λi i1 i2 x hx=>?_)
     .exact Int.le_trans (C1.lowK i1 (by omega)) (in_r x hx).1
     .exact Int.le_trans (in_r x hx).2 (C2.highK (by omega) i2)
    .intro j hj
     show (layAt (arrOf st') (sa+k) r.toList 0)[j]?=_
     rw [hS2,a1,Zci _ _ _ _ _ (by omega),if_neg (by omega)]
   by_cases c:na - k<=n2
   .rw [if_pos c]
    refine wpS_bind (Zid h0 k1 ⟨λx hx=>?_,λx hx=>?_,sX,sY,λy hy x hx=>?_⟩ (show 0<((arrOf st).extract (sa+k) sb).size by omega) (show 0<((arrOf st).extract sb (sb+n2)).size by omega) (λx hx=>?_) (λr st' hS R=>fin r st' hS R))
    .obtain ⟨_,_,_,_,_,m⟩:=mX x hx; exact ha x m
    .obtain ⟨_,_,_,_,_,m⟩:=mY x hx; exact ha x m
    .rw [zX,Zem,drop_drop] at hx
     obtain ⟨j,j1,j2,j3,rfl⟩:=Zgr hx
     have ej:j=sb - 1:=by omega
     subst ej
     rw [← kg_at j3]
     exact high y hy
    .rw [Array.getElem_extract,← kg_at]
     exact low x hx
   .rw [if_neg c]
    refine wpS_bind (Zif h0 k1 ⟨λx hx=>?_,λx hx=>?_,sX,sY,λy hy x hx=>?_⟩ (show 0<((arrOf st).extract (sa+k) sb).size by omega) (show 0<((arrOf st).extract sb (sb+n2)).size by omega) (λx hx=>?_) (λr st' hS R=>fin r st' hS R))
    .obtain ⟨_,_,_,_,_,m⟩:=mX x hx; exact ha x m
    .obtain ⟨_,_,_,_,_,m⟩:=mY x hx; exact ha x m
    .obtain ⟨j,j1,j2,rfl⟩:=Zjv hy
     rw [Array.getElem_extract,← kg_at,show sb+j=sb by omega]
     exact low x hx
    .rw [Array.getElem_extract,← kg_at]
     have:=high x hx
     rw [show sa+k+(((arrOf st).extract (sa+k) sb).size - 1)=sb - 1 by omega]
     exact this
end
structure GP (κ:SortKind) (a₀:Array Keyed) (P:Array (Nat×Nat×Nat)) (st:SortSt):Prop where
 perm:(arrOf st).Perm a₀
 kn:kindOf st=κ
 failed:failedOf st=none
 pend:pendingOf st=P
section
variable {prog:Program} {w:World} {A:Around} {E:Value->Shared->Prop} {s:Shared} {a₀:Array Keyed} {κ:SortKind} {ρ:Stg.RR} {P:Array (Nat×Nat×Nat)}
theorem GP.size {st:SortSt} (h:GP κ a₀ P st):(arrOf st).size=a₀.size:=h.perm.size_eq
theorem GP.setArr {st:SortSt} {xs:Array Keyed} (h:GP κ a₀ P st) (hp:xs.Perm (arrOf st)):GP κ a₀ P (setArr st xs):=⟨hp.trans h.perm,h.kn,h.failed,h.pend⟩
theorem GP.mem {st:SortSt} (h:GP κ a₀ P st):∀ x∈(arrOf st).toList,x∈a₀.toList:=λx hx=>(Array.perm_iff_toList_perm.mp h.perm).mem_iff.mp hx
theorem ZdC {st:SortSt} {i j:Nat} {Q:Option Bool->SortSt->Prop} (hB:GP κ a₀ P st) (h0:Stg.Cmp prog w A s κ ρ a₀) (hi:i<a₀.size) (hj:j<a₀.size)
  (h:Q (some (decide (Stg.Kg ρ (arrOf st) i<Stg.Kg ρ (arrOf st) j))) st):wpS (model prog w) A E s (ltAt' i j) Q st:=by
 have hi':i<(arrOf st).size:=by rw [hB.size]; exact hi
 have hj':j<(arrOf st).size:=by rw [hB.size]; exact hj
 rw [kg_at hi',kg_at hj'] at h
 rw [ltAt'_eq]
 refine wpS_bind (wpS_get ?_)
 refine wpS_bind (ZG hi' (wpS_bind (ZG hj' ?_)))
 exact lt_ok hB.kn h0 (hB.mem _ (by simp)) (hB.mem _ (by simp)) h
theorem ZmE {st:SortSt} {lo n ok:Nat} {Q:Bool->SortSt->Prop} (h0:Stg.Cmp prog w A s κ ρ a₀) (hn:lo+n<=a₀.size) (hok:ok<=n) (h1k:1<=ok) (hB:GP κ a₀ P st) (hs:Srt ρ (arrOf st) lo (lo+ok))
  (h:∀ st',GP κ a₀ P st'->Srt ρ (arrOf st') lo (lo+n)->(∀ j,j<lo\/lo+n<=j->(arrOf st')[j]?=(arrOf st)[j]?)->Q true st'):wpS (model prog w) A E s (binarySort' lo n ok) Q st:=by
 rw [binarySort'_eq]
 refine wpS_bind (wpS_mono (wpS_forRange (I:=λk c st1=>c=(none,())/\GP κ a₀ P st1/\Srt ρ (arrOf st1) lo (lo+min k n)/\∀ j,j<lo\/lo+n<=j->(arrOf st1)[j]?=(arrOf st)[j]?)
  (Q:=λc st1=>c=(none,())/\GP κ a₀ P st1/\Srt ρ (arrOf st1) lo (lo+n)/\∀ j,j<lo\/lo+n<=j->(arrOf st1)[j]?=(arrOf st)[j]?) ?turn ?last ?first) ?after)
 case after =>
  rintro c st1 ⟨rfl,b1,i1,o1⟩
  exact wpS_pure (h st1 b1 i1 o1)
 case first =>
  rw [show min (max ok 1) n=ok by omega]
  exact ⟨rfl,hB,hs,λ_ _=>rfl⟩
 case last =>
  rintro c st1 ⟨hc,b1,i1,o1⟩
  rw [show min (max (max ok 1) n) n=n by omega] at i1
  exact ⟨hc,b1,i1,o1⟩
 case turn =>
  rintro k c st1 hak hkn ⟨rfl,b1,i1,o1⟩
  rw [show min k n=k by omega] at i1
  have hk:lo+k<a₀.size:=by omega
  have sz:=b1.size
  refine wpS_bind (wpS_mono (wpS_forRange (I:=λx c st2=>st2=st1/\∃ l r,c=(none,l,r)/\l<=r/\r<=k/\r - l<=k - x/\(∀ i,i<l->Stg.Kg ρ (arrOf st1) (lo+i)<=Stg.Kg ρ (arrOf st1) (lo+k))/\(∀ i,r<=i->i<k->Stg.Kg ρ (arrOf st1) (lo+k)<=Stg.Kg ρ (arrOf st1) (lo+i)))
   (Q:=λc st2=>st2=st1/\∃ l r,c=(none,l,r)/\l<=k/\(∀ i,i<l->Stg.Kg ρ (arrOf st1) (lo+i)<=Stg.Kg ρ (arrOf st1) (lo+k))/\(∀ i,l<=i->i<k->Stg.Kg ρ (arrOf st1) (lo+k)<=Stg.Kg ρ (arrOf st1) (lo+i))) ?iturn ?ilast ?ifirst) ?iafter)
  case ifirst=>exact ⟨rfl,0,k,rfl,by omega,by omega,by omega,λi hi=>absurd hi (by omega),λi p q=>absurd q (by omega)⟩
  case ilast =>
   rintro c st2 ⟨rfl,l,r,rfl,hlr,hrk,hm,u1,u2⟩
   have e:l=r:=by omega
   subst e
   exact ⟨rfl,l,l,rfl,hrk,u1,u2⟩
  case iturn =>
   rintro x c st2 _ hxk ⟨rfl,l,r,rfl,hlr,hrk,hm,u1,u2⟩
   dsimp only
   by_cases hge:l ≥ r
   .rw [if_pos hge]
    have e:l=r:=by omega
    subst e
    exact wpS_pure ⟨rfl,l,l,rfl,hrk,u1,u2⟩
   .rw [if_neg hge]
    refine wpS_bind (ZdC b1 h0 hk (by omega) ?_)
    by_cases c:Stg.Kg ρ (arrOf st2) (lo+k)<Stg.Kg ρ (arrOf st2) (lo+(l+r) / 2)
    .simp only [c,decide_true,if_true]
     refine wpS_pure ⟨rfl,l,(l+r) / 2,rfl,by omega,by omega,by omega,u1,λi p q=>?_⟩
     have:=i1 (lo+(l+r) / 2) (lo+i) (by omega) (by omega) (by omega)
     omega
    .simp only [c,decide_false,Bool.false_eq_true,if_false]
     refine wpS_pure ⟨rfl,(l+r) / 2+1,r,rfl,by omega,by omega,by omega,λi p=>?_,u2⟩
     have:=i1 (lo+i) (lo+(l+r) / 2) (by omega) (by omega) (by omega)
     omega
  case iafter =>
   rintro c st2 ⟨rfl,l,r,rfl,hlk,u1,u2⟩
   show wpS _ _ _ _ (do moveDown' (lo+k) (lo+l); pure (ForInStep.yield (none,()))) _ _
   rw [moveDown'_eq]
   have hks:lo+k<(arrOf st2).size:=by omega
   refine wpS_bind (wpS_modify (wpS_pure ⟨rfl,b1.setArr (bubble_perm _ _ _),?_,?_⟩))
   .rw [show min (k+1) n=k+1 by omega]
    intro i j hi hij hj
    show Stg.Kg ρ (bubble (arrOf st2) (lo+k) (lo+k - (lo+l))) i<=Stg.Kg ρ (bubble (arrOf st2) (lo+k) (lo+k - (lo+l))) j
    rw [Stg.Kg_bubble hks (by omega),Stg.Kg_bubble hks (by omega),show lo+k - (lo+k - (lo+l))=lo+l by omega]
    have U1:∀ i,lo<=i->i<lo+l->Stg.Kg ρ (arrOf st2) i<=Stg.Kg ρ (arrOf st2) (lo+k):=λi p q=>by
     have:=u1 (i - lo) (by omega)
     rw [show lo+(i - lo)=i by omega] at this
     exact this
    have U2:∀ i,lo+l<=i->i<lo+k->Stg.Kg ρ (arrOf st2) (lo+k)<=Stg.Kg ρ (arrOf st2) i:=λi p q=>by
     have:=u2 (i - lo) (by omega) (by omega)
     rw [show lo+(i - lo)=i by omega] at this
     exact this
    by_cases a1:i=lo+l
    .rw [if_pos a1]
     by_cases b2:j=lo+l
     .rw [if_pos b2]; exact Int.le_refl _
     .rw [if_neg b2,if_pos (by omega)]
      exact U2 _ (by omega) (by omega)
    .rw [if_neg a1]
     by_cases a2:j=lo+l
     .rw [if_pos a2,if_neg (by omega)]
      exact U1 _ (by omega) (by omega)
     .rw [if_neg a2]
      by_cases a3:lo+l<i/\i<=lo+k
      .rw [if_pos a3,if_pos (by omega)]
       exact i1 _ _ (by omega) (by omega) (by omega)
      .rw [if_neg a3]
       by_cases a4:lo+l<j/\j<=lo+k
       .rw [if_pos a4]
        exact i1 _ _ (by omega) (by omega) (by omega)
       .rw [if_neg a4]
        exact i1 _ _ (by omega) (by omega) (by omega)
   .intro j hj
    show (bubble (arrOf st2) (lo+k) (lo+k - (lo+l)))[j]?=_
    rw [getElem?_bubble hks _ (by omega),if_neg (by omega),if_neg (by omega)]
    exact o1 j hj
end
abbrev AS:=Option (Option Nat)×Nat
abbrev DS:=Option (Option Nat)×Nat×Nat
def ascL (lo a nrem:Nat):StateT SortSt Sem AS:=forIn [a:nrem] ((none,a):AS) λ_ c=>do
 let x ← ltAt' (lo+c.2) (lo+c.2 - 1)
 match x with
 | some y=>if y=true then pure (.done (none,c.2)) else pure (.yield (none,c.2+1))
 | _=>pure (.done (some none,c.2))
def tailL (lo n nrem:Nat):StateT SortSt Sem (Option Nat):=do
 reverseSlice' lo (lo+n)
 let c ← ascL lo n nrem
 match c.1 with
 | some r=>pure r
 | none=>pure (some c.2)
def descL (lo n nrem:Nat):StateT SortSt Sem DS:=forIn [n:nrem] ((none,n,0):DS) λ_ c=>do
 let x ← ltAt' (lo+c.2.1) (lo+c.2.1 - 1)
 match x with
 | some y=>if y=true then (if c.2.2 > 0 then (do
    reverseSlice' (lo+c.2.1 - (c.2.2+1)) (lo+c.2.1)
    pure (.yield (none,c.2.1+1,0))) else pure (.yield (none,c.2.1+1,0))) else (do
   let x ← ltAt' (lo+c.2.1 - 1) (lo+c.2.1)
   match x with
   | some z=>if z=true then pure (.done (none,c.2.1,c.2.2)) else pure (.yield (none,c.2.1+1,c.2.2+1))
   | _=>pure (.done (some none,c.2.1,c.2.2)))
 | _=>pure (.done (some none,c.2.1,c.2.2))
def partL (lo n nrem:Nat):StateT SortSt Sem (Option Nat):=do
 liftM (rule "list.sort.descending-run")
 let c ← descL lo (n+1) nrem
 match c.1 with
 | some r=>pure r
 | none=>if c.2.2 > 0 then (do
   reverseSlice' (lo+c.2.1 - (c.2.2+1)) (lo+c.2.1)
   tailL lo c.2.1 nrem) else tailL lo c.2.1 nrem
theorem Zjx (lo nrem:Nat):countRun' lo nrem=(do
  let c ← ascL lo 1 nrem
  match c.1 with
  | some r=>pure r
  | none=>if (c.2 == nrem)=true then pure (some c.2) else if c.2 > 1 then (do
    let x ← ltAt' lo (lo+c.2 - 1)
    match x with
    | some y=>if y=true then pure (some c.2) else (do
      reverseSlice' lo (lo+c.2)
      partL lo c.2 nrem)
    | _=>pure none) else partL lo c.2 nrem):=by
 rw [countRun'_eq]
 unfold partL tailL descL ascL
 have tl:∀ {f g:AS->StateT SortSt Sem (Option Nat)} {m:StateT SortSt Sem AS},(∀ r n,f (r,n)=g (r,n))->(m >>= f)=(m >>= g):=λh=>congrArg _ (funext λ⟨r,n⟩=>h r n)
 have td:∀ {f g:DS->StateT SortSt Sem (Option Nat)} {m:StateT SortSt Sem DS},(∀ r n q,f (r,n,q)=g (r,n,q))->(m >>= f)=(m >>= g):=λh=>congrArg _ (funext λ⟨r,n,q⟩=>h r n q)
 have bc:∀ {α:Type} {f g:α->StateT SortSt Sem (Option Nat)} {m:StateT SortSt Sem α},(∀ x,f x=g x)->(m >>= f)=(m >>= g):=λh=>congrArg _ (funext h)
 refine tl λr n=>?_
 cases r with
 | some r=>rfl
 | none =>
  dsimp only
  split
  .rfl
  .split
   .refine bc λx=>?_
    cases x with
    | none=>rfl
    | some y =>
     dsimp only
     split
     .rfl
     .refine bc λ_=>bc λ_=>td λr n q=>?_
      cases r with
      | some r=>rfl
      | none =>
       dsimp only
       split
       .exact bc λ_=>bc λ_=>tl λr n=>by cases r <;> rfl
       .exact bc λ_=>tl λr n=>by cases r <;> rfl
   .refine bc λ_=>td λr n q=>?_
    cases r with
    | some r=>rfl
    | none =>
     dsimp only
     split
     .exact bc λ_=>bc λ_=>tl λr n=>by cases r <;> rfl
     .exact bc λ_=>tl λr n=>by cases r <;> rfl
section
variable {prog:Program} {w:World} {A:Around} {E:Value->Shared->Prop} {s:Shared} {a₀:Array Keyed} {κ:SortKind} {ρ:Stg.RR} {P:Array (Nat×Nat×Nat)}
def Out (lo n:Nat) (xs ys:Array Keyed):Prop:=∀ j,j<lo\/lo+n<=j->ys[j]?=xs[j]?
theorem ZbM {xs:Array Keyed} {lo n i j:Nat} (hj:j<=xs.size) (h1:lo<=i) (h2:j<=lo+n):Out lo n xs (mirror xs i j ((j - i) / 2)):=λk hk=>by
 rw [getElem?_mirror_all hj,if_neg (by omega)]
theorem Zjy {st:SortSt} {lo a nrem:Nat} {Q:AS->SortSt->Prop} (h0:Stg.Cmp prog w A s κ ρ a₀) (hn:lo+nrem<=a₀.size) (ha:1<=a) (han:a<=nrem) (hB:GP κ a₀ P st) (hs:Srt ρ (arrOf st) lo (lo+a))
  (h:∀ n,a<=n->n<=nrem->Srt ρ (arrOf st) lo (lo+n)->(n=nrem\/Stg.Kg ρ (arrOf st) (lo+n)<Stg.Kg ρ (arrOf st) (lo+n - 1))->Q (none,n) st):wpS (model prog w) A E s (ascL lo a nrem) Q st:=by
 unfold ascL
 refine wpS_forRange (I:=λx c st1=>st1=st/\c=(none,x)/\Srt ρ (arrOf st) lo (lo+x)) ?turn ?last ⟨rfl,rfl,hs⟩
 case last =>
  rintro c st1 ⟨rfl,rfl,i1⟩
  rw [show max a nrem=nrem by omega] at i1 ⊢
  exact h nrem han (Nat.le_refl _) i1 (.inl rfl)
 case turn =>
  rintro x c st1 hax hxn ⟨rfl,rfl,i1⟩
  dsimp only
  refine wpS_bind (ZdC hB h0 (by omega) (by omega) ?_)
  by_cases c:Stg.Kg ρ (arrOf st1) (lo+x)<Stg.Kg ρ (arrOf st1) (lo+x - 1)
  .simp only [c,decide_true,if_true]
   exact wpS_pure (h x hax (by omega) i1 (.inr c))
  .simp only [c,decide_false,Bool.false_eq_true,if_false]
   refine wpS_pure ⟨rfl,rfl,λi j hi hij hj=>?_⟩
   by_cases hjx:j<lo+x
   .exact i1 i j hi hij hjx
   .have ej:j=lo+x:=by omega
    subst ej
    by_cases e:i=lo+x
    .subst e; exact Int.le_refl _
    .have:=i1 i (lo+x - 1) hi (by omega) (by omega)
     omega
structure DX (ρ:Stg.RR) (xs:Array Keyed) (lo x q:Nat):Prop where
 l:q+1<=x
 d:∀ i j,lo<=i->i<=j->j<lo+x->Stg.Kg ρ xs j<=Stg.Kg ρ xs i
 e:∀ i,lo+x - (q+1)<=i->i<lo+x->Stg.Kg ρ xs i=Stg.Kg ρ xs (lo+x - 1)
theorem DX.rev {xs:Array Keyed} {lo x q:Nat} (h:DX ρ xs lo x q) (hz:lo+x<=xs.size):DX ρ (mirror xs (lo+x - (q+1)) (lo+x) ((lo+x - (lo+x - (q+1))) / 2)) lo x 0:=by
 have ke:=Stg.Kg_mirror_equal (ρ:=ρ) (i:=lo+x - (q+1)) hz h.e
 have:=h.l
 refine ⟨by omega,λi j h1 h2 h3=>?_,λi h1 h2=>?_⟩
 .rw [ke,ke]; exact h.d i j h1 h2 h3
 .have e:i=lo+x - 1:=by omega
  rw [e]
theorem DX.zero {xs:Array Keyed} {lo x q:Nat} (h:DX ρ xs lo x q):DX ρ xs lo x 0:=⟨by have:=h.l; omega,h.d,λi h1 h2=>by rw [show i=lo+x - 1 by have:=h.l; omega]⟩
theorem DX.less {xs:Array Keyed} {lo x:Nat} (h:DX ρ xs lo x 0) (k:Stg.Kg ρ xs (lo+x)<Stg.Kg ρ xs (lo+x - 1)):DX ρ xs lo (x+1) 0:=by
 have:=h.l
 refine ⟨by omega,λi j h1 h2 h3=>?_,λi h1 h2=>by rw [show i=lo+(x+1) - 1 by omega]⟩
 by_cases c:j<lo+x
 .exact h.d i j h1 h2 c
 .have ej:j=lo+x:=by omega
  subst ej
  by_cases e:i=lo+x
  .subst e; exact Int.le_refl _
  .have:=h.d i (lo+x - 1) h1 (by omega) (by omega)
   omega
theorem DX.more {xs:Array Keyed} {lo x q:Nat} (h:DX ρ xs lo x q) (k:Stg.Kg ρ xs (lo+x)=Stg.Kg ρ xs (lo+x - 1)):DX ρ xs lo (x+1) (q+1):=by
 have:=h.l
 refine ⟨by omega,λi j h1 h2 h3=>?_,λi h1 h2=>?_⟩
 .by_cases c:j<lo+x
  .exact h.d i j h1 h2 c
  .have ej:j=lo+x:=by omega
   subst ej
   by_cases e:i=lo+x
   .subst e; exact Int.le_refl _
   .have:=h.d i (lo+x - 1) h1 (by omega) (by omega)
    omega
 .rw [show lo+(x+1) - 1=lo+x by omega]
  by_cases c:i<lo+x
  .rw [k]; exact h.e i (by omega) c
  .rw [show i=lo+x by omega]
theorem Zld {st:SortSt} {lo n nrem:Nat} {Q:DS->SortSt->Prop} (h0:Stg.Cmp prog w A s κ ρ a₀) (hn:lo+nrem<=a₀.size) (hnn:n<=nrem) (hB:GP κ a₀ P st) (hs:DX ρ (arrOf st) lo n 0)
  (h:∀ m q st',GP κ a₀ P st'->m<=nrem->DX ρ (arrOf st') lo m q->Out lo nrem (arrOf st) (arrOf st')->Q (none,m,q) st'):wpS (model prog w) A E s (descL lo n nrem) Q st:=by
 unfold descL
 refine wpS_forRange (I:=λx c st1=>∃ q,c=(none,x,q)/\GP κ a₀ P st1/\DX ρ (arrOf st1) lo x q/\Out lo nrem (arrOf st) (arrOf st1)) ?turn ?last ⟨0,rfl,hB,hs,λ_ _=>rfl⟩
 case last =>
  rintro c st1 ⟨q,rfl,b1,d1,o1⟩
  rw [show max n nrem=nrem by omega] at d1 ⊢
  exact h nrem q st1 b1 (Nat.le_refl _) d1 o1
 case turn =>
  rintro x c st1 hax hxn ⟨q,rfl,b1,d1,o1⟩
  dsimp only
  have sz:=b1.size
  have hl:=d1.l
  refine wpS_bind (ZdC b1 h0 (by omega) (by omega) ?_)
  by_cases c:Stg.Kg ρ (arrOf st1) (lo+x)<Stg.Kg ρ (arrOf st1) (lo+x - 1)
  .simp only [c,decide_true,if_true]
   by_cases hq:q > 0
   .rw [if_pos hq]
    have ke:=Stg.Kg_mirror_equal (ρ:=ρ) (i:=lo+x - (q+1)) (by omega:lo+x<=(arrOf st1).size) d1.e
    refine wpS_bind (wpS_reverse (wpS_pure ⟨0,rfl,b1.setArr (mirror_perm _ _ _ _),(d1.rev (by omega)).less ?_,λk hk=>(ZbM (by omega) (by omega) (by omega) k hk).trans (o1 k hk)⟩))
    rw [ke,ke]; exact c
   .rw [if_neg hq]
    have e:q=0:=by omega
    subst e
    exact wpS_pure ⟨0,rfl,b1,d1.less c,o1⟩
  .simp only [c,decide_false,Bool.false_eq_true,if_false]
   refine wpS_bind (ZdC b1 h0 (by omega) (by omega) ?_)
   by_cases c2:Stg.Kg ρ (arrOf st1) (lo+x - 1)<Stg.Kg ρ (arrOf st1) (lo+x)
   .simp only [c2,decide_true,if_true]
    exact wpS_pure (h x q st1 b1 (by omega) d1 o1)
   .simp only [c2,decide_false,Bool.false_eq_true,if_false]
    exact wpS_pure ⟨q+1,rfl,b1,d1.more (by omega),o1⟩
theorem Zhu {st st0:SortSt} {lo n nrem:Nat} {Q:Option Nat->SortSt->Prop} (h0:Stg.Cmp prog w A s κ ρ a₀) (hn:lo+nrem<=a₀.size) (h1:1<=n) (hnn:n<=nrem) (hB:GP κ a₀ P st) (hs:DX ρ (arrOf st) lo n 0) (ho:Out lo nrem (arrOf st0) (arrOf st))
  (h:∀ m st',GP κ a₀ P st'->1<=m->m<=nrem->Srt ρ (arrOf st') lo (lo+m)->Out lo nrem (arrOf st0) (arrOf st')->Q (some m) st'):wpS (model prog w) A E s (tailL lo n nrem) Q st:=by
 unfold tailL
 have sz:=hB.size
 refine wpS_bind (wpS_reverse ?_)
 have b1:GP κ a₀ P (setArr st (mirror (arrOf st) lo (lo+n) ((lo+n - lo) / 2))):=hB.setArr (mirror_perm _ _ _ _)
 refine wpS_bind (Zjy h0 hn h1 hnn b1 ?_ λm m1 m2 i2 _=>wpS_pure (h m _ b1 (by omega) m2 i2 λk hk=>(ZbM (by omega) (by omega) (by omega) k hk).trans (ho k hk)))
 intro i j hi hij hj
 show Stg.Kg ρ (mirror (arrOf st) lo (lo+n) ((lo+n - lo) / 2)) i<=Stg.Kg ρ (mirror (arrOf st) lo (lo+n) ((lo+n - lo) / 2)) j
 rw [Stg.Kg_mirror (by omega),Stg.Kg_mirror (by omega),if_pos (by omega),if_pos (by omega)]
 exact hs.d _ _ (by omega) (by omega) (by omega)
theorem Zhv {st st0:SortSt} {lo n nrem:Nat} {Q:Option Nat->SortSt->Prop} (h0:Stg.Cmp prog w A s κ ρ a₀) (hn:lo+nrem<=a₀.size) (hnn:n+1<=nrem) (hB:GP κ a₀ P st) (hs:DX ρ (arrOf st) lo (n+1) 0) (ho:Out lo nrem (arrOf st0) (arrOf st))
  (h:∀ m st',GP κ a₀ P st'->1<=m->m<=nrem->Srt ρ (arrOf st') lo (lo+m)->Out lo nrem (arrOf st0) (arrOf st')->Q (some m) st'):wpS (model prog w) A E s (partL lo n nrem) Q st:=by
 unfold partL
 refine wpS_bind (wpS_lift (wpAny_rule ⟨rfl,?_⟩))
 refine wpS_bind (Zld h0 hn hnn hB hs λm q st1 b1 m2 d1 o1=>?_)
 dsimp only
 have hl:=d1.l
 have sz:=b1.size
 by_cases hq:q > 0
 .rw [if_pos hq]
  exact wpS_bind (wpS_reverse (Zhu h0 hn (by omega) m2 (b1.setArr (mirror_perm _ _ _ _)) (d1.rev (by omega)) (λk hk=>((ZbM (by omega) (by omega) (by omega) k hk).trans (o1 k hk)).trans (ho k hk)) h))
 .rw [if_neg hq]
  exact Zhu h0 hn (by omega) m2 b1 d1.zero (λk hk=>(o1 k hk).trans (ho k hk)) h
theorem Zjz {st:SortSt} {lo nrem:Nat} {Q:Option Nat->SortSt->Prop} (h0:Stg.Cmp prog w A s κ ρ a₀) (hn:lo+nrem<=a₀.size) (h1:1<=nrem) (hB:GP κ a₀ P st)
  (h:∀ m st',GP κ a₀ P st'->1<=m->m<=nrem->Srt ρ (arrOf st') lo (lo+m)->Out lo nrem (arrOf st) (arrOf st')->Q (some m) st'):wpS (model prog w) A E s (countRun' lo nrem) Q st:=by
 rw [Zjx]
 have sz:=hB.size
 refine wpS_bind (Zjy h0 hn (Nat.le_refl 1) h1 hB (λi j hi hij hj=>by rw [show i=j by omega]; exact Int.le_refl _) λn n1 n2 i1 hor=>?_)
 dsimp only
 by_cases e:n=nrem
 .rw [if_pos (by simpa using e)]
  exact wpS_pure (h n st hB n1 n2 i1 λ_ _=>rfl)
 .rw [if_neg (by simpa using e)]
  have lt:Stg.Kg ρ (arrOf st) (lo+n)<Stg.Kg ρ (arrOf st) (lo+n - 1):=hor.resolve_left e
  by_cases g:n > 1
  .rw [if_pos g]
   refine wpS_bind (ZdC hB h0 (by omega) (by omega) ?_)
   by_cases c:Stg.Kg ρ (arrOf st) lo<Stg.Kg ρ (arrOf st) (lo+n - 1)
   .simp only [c,decide_true,if_true]
    exact wpS_pure (h n st hB n1 n2 i1 λ_ _=>rfl)
   .simp only [c,decide_false,Bool.false_eq_true,if_false]
    have all:∀ k,lo<=k->k<lo+n->Stg.Kg ρ (arrOf st) k=Stg.Kg ρ (arrOf st) (lo+n - 1):=λk h1 h2=>by
     have a1:=i1 lo k (Nat.le_refl _) h1 h2
     have a2:=i1 k (lo+n - 1) h1 (by omega) (by omega)
     omega
    have ke:=Stg.Kg_mirror_equal (ρ:=ρ) (xs:=arrOf st) (i:=lo) (j:=lo+n) (by omega) all
    have dx:DX ρ (mirror (arrOf st) lo (lo+n) ((lo+n - lo) / 2)) lo n 0:=⟨by omega,λi j h1 h2 h3=>by rw [ke,ke,all i h1 (by omega),all j (by omega) h3]; exact Int.le_refl _,λi h1 h2=>by rw [show i=lo+n - 1 by omega]⟩
    exact wpS_bind (wpS_reverse (Zhv (st0:=st) h0 hn (by omega) (hB.setArr (mirror_perm _ _ _ _)) (dx.less (by rw [ke,ke]; exact lt)) (ZbM (by omega) (by omega) (by omega)) h))
  .rw [if_neg g]
   have en:n=1:=by omega
   subst en
   exact Zhv (st0:=st) h0 hn (by omega) hB (DX.less ⟨by omega,λi j h1 h2 h3=>by rw [show i=j by omega]; exact Int.le_refl _,λi h1 h2=>by rw [show i=lo+1 - 1 by omega]⟩ lt) (λ_ _=>rfl) h
end
abbrev Rn:=Nat×Nat×Nat
def Tile:List Rn->Nat->Nat->Prop
 | [],a,b=>a=b
 | t :: r,a,b=>t.1=a/\0<t.2.1/\Tile r (a+t.2.1) b
theorem tile_app:∀ {l m:List Rn} {a b:Nat},Tile (l++m) a b↔∃ c,Tile l a c/\Tile m c b
 | [],m,a,b=>⟨λh=>⟨a,rfl,h⟩,λ⟨c,h1,h2⟩=>by rw [show a=c from h1]; exact h2⟩
 | t :: r,m,a,b=>by
  constructor
  .rintro ⟨h1,h2,h3⟩
   obtain ⟨c,h4,h5⟩:=tile_app.mp h3
   exact ⟨c,⟨h1,h2,h4⟩,h5⟩
  .rintro ⟨c,⟨h1,h2,h4⟩,h5⟩
   exact ⟨h1,h2,tile_app.mpr ⟨c,h4,h5⟩⟩
theorem ZcX:∀ {l:List Rn} {a b:Nat},Tile l a b->l.length+a<=b
 | [],a,b,h=>by rw [show a=b from h]; show 0+b<=b; omega
 | t :: r,a,b,⟨_,h2,h3⟩=>by
  have:=ZcX h3
  rw [length_cons]
  omega
theorem ZeN:∀ {l:List Rn} {a b:Nat},Tile l a b->∀ t∈l,a<=t.1/\t.1+t.2.1<=b
 | [],a,b,h,t,ht=>nomatch ht
 | u :: r,a,b,⟨h1,h2,h3⟩,t,ht=>by
  have l:=ZcX h3
  rcases List.mem_cons.mp ht with e | ht
  .subst e; omega
  .have:=ZeN h3 t ht
   omega
theorem ZlT:∀ {l:List Rn} {i:Nat} {x y:Rn},l[i]?=some x->l[i+1]?=some y->l=l.take i++x :: y :: l.drop (i+2)
 | [],i,x,y,h,_=>by simp at h
 | [a],0,x,y,h,h2=>by simp at h2
 | a :: b :: r,0,x,y,h,h2=>by
  simp only [List.getElem?_cons_zero,List.getElem?_cons_succ,Option.some.injEq] at h h2
  subst h h2; rfl
 | a :: r,i+1,x,y,h,h2=>by
  have:=ZlT (l:=r) (i:=i) (x:=x) (y:=y) (by simpa using h) (by simpa using h2)
  show a :: r=a :: (r.take i++x :: y :: r.drop (i+2))
  rw [← this]
theorem ZjA (l m:List Rn) (x y v:Rn):((l++x :: y :: m).set l.length v).eraseIdx (l.length+1)=l++v :: m:=by
 induction l with
 | nil=>rfl
 | cons a r ih=>show a :: ((r++x :: y :: m).set r.length v).eraseIdx (r.length+1)=a :: (r++v :: m); rw [ih]
section
variable {prog:Program} {w:World} {A:Around} {E:Value->Shared->Prop} {s:Shared} {a₀:Array Keyed} {κ:SortKind} {ρ:Stg.RR} {P:Array Rn}
theorem ZfL {xs ys:Array Keyed} {a b:Nat} (h:Srt ρ xs a b) (e:∀ j,a<=j->j<b->ys[j]?=xs[j]?):Srt ρ ys a b:=λi j h1 h2 h3=>by
 rw [Stg.Kg_congr (e i h1 (by omega)),Stg.Kg_congr (e j (by omega) h3)]
 exact h i j h1 h2 h3
structure RI (κ:SortKind) (a₀:Array Keyed) (ρ:Stg.RR) (lo:Nat) (st:SortSt):Prop where
 perm:(arrOf st).Perm a₀
 kn:kindOf st=κ
 failed:failedOf st=none
 tile:Tile (pendingOf st).toList 0 lo
 srt:∀ t∈(pendingOf st).toList,Srt ρ (arrOf st) t.1 (t.1+t.2.1)
theorem RI.gp {lo:Nat} {st:SortSt} (h:RI κ a₀ ρ lo st):GP κ a₀ (pendingOf st) st:=⟨h.perm,h.kn,h.failed,rfl⟩
theorem RI.out {lo n:Nat} {st st':SortSt} (h:RI κ a₀ ρ lo st) (g:GP κ a₀ (pendingOf st) st') (o:Out lo n (arrOf st) (arrOf st')):RI κ a₀ ρ lo st' :=
 ⟨g.perm,g.kn,g.failed,by rw [g.pend]; exact h.tile,λt ht=>by
  rw [g.pend] at ht
  have:=ZeN h.tile t ht
  exact ZfL (h.srt t ht) λj h1 h2=>o j (.inl (by omega))⟩
theorem RI.merge {lo i:Nat} {x y:Rn} {st:SortSt} {Q:Bool->SortSt->Prop} (h0:Stg.Cmp prog w A s κ ρ a₀) (h:RI κ a₀ ρ lo st) (hlo:lo<=a₀.size) (e1:(pendingOf st)[i]?=some x) (e2:(pendingOf st)[i+1]?=some y)
  (k:∀ st',RI κ a₀ ρ lo st'->(pendingOf st').size+1=(pendingOf st).size->(∀ j,lo<=j->(arrOf st')[j]?=(arrOf st)[j]?)->Q true st'):wpS (model prog w) A E s (ZeM i) Q st:=by
 obtain ⟨sa,na,p⟩:=x
 obtain ⟨sb,nb,q⟩:=y
 have el:=ZlT (l:=(pendingOf st).toList) (i:=i) (by rw [Array.getElem?_toList]; exact e1) (by rw [Array.getElem?_toList]; exact e2)
 have hi:i<(pendingOf st).toList.length:=by
  rw [Array.length_toList]
  exact (Array.getElem?_eq_some_iff.mp e1).1
 have hti:((pendingOf st).toList.take i).length=i:=by rw [length_take]; omega
 have ht:=h.tile
 have hs:=h.srt
 have hsz:(pendingOf st).size=(pendingOf st).toList.length:=Array.length_toList.symm
 have hnew:(((pendingOf st).setIfInBounds i (sa,na+nb,p)).eraseIdxIfInBounds (i+1)).toList=(pendingOf st).toList.take i++(sa,na+nb,p) :: (pendingOf st).toList.drop (i+2):=by
  rw [Array.toList_eraseIdxIfInBounds,Array.toList_setIfInBounds]
  conv=>lhs; rw [el]
  have:=ZjA ((pendingOf st).toList.take i) ((pendingOf st).toList.drop (i+2)) (sa,na,p) (sb,nb,q) (sa,na+nb,p)
  rw [hti] at this
  exact this
 generalize (pendingOf st).toList.take i=l at *
 generalize (pendingOf st).toList.drop (i+2)=m at *
 rw [el] at ht hs hsz
 obtain ⟨c,t1,t2,t3,t4,t5,t6⟩:=tile_app.mp ht
 have t2:sa=c:=t2
 have t3:0<na:=t3
 have t4:sb=c+na:=t4
 have t5:0<nb:=t5
 have t6:Tile m (c+na+nb) lo:=t6
 have l6:=ZcX t6
 refine Zih h0 h.kn h.gp.mem h.failed e1 e2 (by omega) t3 t5 (by rw [h.gp.size]; omega) (hs (sa,na,p) (by simp)) (hs (sb,nb,q) (by simp)) λst' k1 f1 p1 pe s1 o1=>?_
 refine k st' ⟨p1.trans h.perm,k1,f1,?_,?_⟩ ?_ λj hj=>o1 j (.inr (by omega))
 .rw [pe,hnew]
  exact tile_app.mpr ⟨c,t1,t2,by show 0<na+nb; omega,by show Tile m (c+(na+nb)) lo; rw [← Nat.add_assoc]; exact t6⟩
 .rw [pe,hnew]
  intro t ht
  rcases List.mem_append.mp ht with ht | ht
  .have:=ZeN t1 t ht
   exact ZfL (hs t (mem_append_left _ ht)) λj h1 h2=>o1 j (.inl (by omega))
  .rcases List.mem_cons.mp ht with ht | ht
   .subst ht
    show Srt ρ (arrOf st') sa (sa+(na+nb))
    rw [show sa+(na+nb)=sb+nb by omega]
    exact s1
   .have:=ZeN t6 t ht
    exact ZfL (hs t (mem_append_right _ (mem_cons_of_mem _ (mem_cons_of_mem _ ht)))) λj h1 h2=>o1 j (.inr (by omega))
 .have z:(pendingOf st').size=(pendingOf st').toList.length:=Array.length_toList.symm
  rw [z,pe,hnew,hsz,length_append,length_append]
  rfl
theorem RI.push {lo n:Nat} {st:SortSt} (h:RI κ a₀ ρ lo st) (hn:0<n) (hs:Srt ρ (arrOf st) lo (lo+n)):RI κ a₀ ρ (lo+n) (setPending st ((pendingOf st).push (lo,n,0))):=by
 refine ⟨h.perm,h.kn,h.failed,?_,?_⟩
 .show Tile ((pendingOf st).push (lo,n,0)).toList 0 (lo+n)
  rw [Array.toList_push]
  exact tile_app.mpr ⟨lo,h.tile,rfl,hn,rfl⟩
 .show ∀ t∈((pendingOf st).push (lo,n,0)).toList,_
  rw [Array.toList_push]
  intro t ht
  rcases List.mem_append.mp ht with ht | ht
  .exact h.srt t ht
  .rw [List.mem_singleton.mp ht]; exact hs
theorem Zhw {f:Rn->Rn} (hf:∀ t,(f t).1=t.1/\(f t).2.1=t.2.1):∀ {l:List Rn} {i a b:Nat},Tile l a b->Tile (l.modify i f) a b
 | [],i,a,b,h=>by cases i <;> exact h
 | t :: r,0,a,b,⟨h1,h2,h3⟩=>by
  show Tile (f t :: r) a b
  exact ⟨(hf t).1.trans h1,by rw [(hf t).2]; exact h2,by rw [(hf t).2]; exact h3⟩
 | t :: r,i+1,a,b,⟨h1,h2,h3⟩=>⟨h1,h2,Zhw hf h3⟩
theorem Zeo {f:Rn->Rn}:∀ {l:List Rn} {i:Nat} {t:Rn},t∈l.modify i f->t∈l\/∃ u∈l,t=f u
 | [],i,t,h=>by cases i <;> exact nomatch h
 | u :: r,0,t,h=>by
  rcases List.mem_cons.mp (show t∈f u :: r from h) with e | h
  .exact .inr ⟨u,mem_cons_self,e⟩
  .exact .inl (mem_cons_of_mem _ h)
 | u :: r,i+1,t,h=>by
  rcases List.mem_cons.mp (show t∈u :: r.modify i f from h) with e | h
  .exact .inl (e ▸ mem_cons_self)
  .rcases Zeo h with h | ⟨v,hv,e⟩
   .exact .inl (mem_cons_of_mem _ h)
   .exact .inr ⟨v,mem_cons_of_mem _ hv,e⟩
theorem RI.pow {lo i:Nat} {st:SortSt} {f:Rn->Rn} (hf:∀ t,(f t).1=t.1/\(f t).2.1=t.2.1) (h:RI κ a₀ ρ lo st):RI κ a₀ ρ lo (setPending st ((pendingOf st).modify i f)):=by
 refine ⟨h.perm,h.kn,h.failed,?_,?_⟩
 .show Tile ((pendingOf st).modify i f).toList 0 lo
  rw [Array.toList_modify]
  exact Zhw hf h.tile
 .show ∀ t∈((pendingOf st).modify i f).toList,_
  rw [Array.toList_modify]
  intro t ht
  rcases Zeo ht with ht | ⟨u,hu,e⟩
  .exact h.srt t ht
  .rw [e,(hf u).1,(hf u).2]; exact h.srt u hu
theorem runsL_ok {st:SortSt} {Q:Unit->SortSt->Prop} (h0:Stg.Cmp prog w A s κ ρ a₀) (hP:(arrOf st).Perm a₀) (hk:kindOf st=κ) (hf:failedOf st=none) (hp:pendingOf st=#[])
  (h:∀ st',(arrOf st').Perm a₀->failedOf st'=none->Srt ρ (arrOf st') 0 a₀.size->Q () st'):wpS (model prog w) A E s sortRuns' Q st:=by
 rw [sortRuns'_eq]
 refine wpS_bind (wpS_get ?_)
 dsimp only
 have esz:(arrOf st).size=a₀.size:=hP.size_eq
 simp only [esz]
 generalize minRun' a₀.size a₀.size 0=mr
 have r0:RI κ a₀ ρ 0 st:=⟨hP,hk,hf,by rw [hp]; rfl,by rw [hp]; exact λt ht=>nomatch ht⟩
 refine wpS_bind (wpS_mono (wpS_forRange (I:=λx c st1=>∃ lo,c=(none,lo)/\lo<=a₀.size/\(x<=lo\/lo=a₀.size)/\RI κ a₀ ρ lo st1) (Q:=λc st1=>c=(none,a₀.size)/\RI κ a₀ ρ a₀.size st1) ?turn ?last ⟨0,rfl,Nat.zero_le _,.inl (Nat.le_refl _),r0⟩) ?after)
 case last =>
  rintro c st1 ⟨lo,rfl,hlo,hx,r1⟩
  have e:lo=a₀.size:=by omega
  subst e
  exact ⟨rfl,r1⟩
 case turn =>
  rintro x c st1 _ hx ⟨lo,rfl,hlo,hxl,r1⟩
  dsimp only
  by_cases g:lo ≥ a₀.size
  .rw [if_pos g]
   have e:lo=a₀.size:=by omega
   subst e
   exact wpS_pure ⟨rfl,r1⟩
  .rw [if_neg g]
   refine wpS_bind (Zjz h0 (by omega) (by omega) r1.gp λm st2 b2 m1 m2 s2 o2=>?_)
   dsimp only
   have r2:=r1.out b2 o2
   have fin:∀ {n:Nat} {st3:SortSt},0<n->lo+n<=a₀.size->RI κ a₀ ρ lo st3->Srt ρ (arrOf st3) lo (lo+n)->∃ lo',(none,lo+n)=((none,lo'):Option Unit×Nat)/\lo'<=a₀.size/\(x+1<=lo'\/lo'=a₀.size)/\RI κ a₀ ρ lo' (setPending st3 ((pendingOf st3).push (lo,n,0))):=λ{n st3} h1 h2 h3 h4=>⟨lo+n,rfl,h2,by omega,h3.push h1 h4⟩
   by_cases lt:m<mr
   .rw [if_pos lt]
    refine wpS_bind (wpS_lift (wpAny_rule ⟨rfl,?_⟩))
    refine wpS_bind (ZmE h0 (by omega) (by omega) m1 b2 s2 λst3 b3 s3 o3=>?_)
    simp only [Bool.not_true,Bool.false_eq_true,if_false]
    have r3:=r1.out (n:=a₀.size - lo) b3 λj hj=>(o3 j (by omega)).trans (o2 j hj)
    have hn:0<min (a₀.size - lo) mr:=by omega
    have hln:lo+min (a₀.size - lo) mr<=a₀.size:=by omega
    clear b3 o3 b2 s2 o2 r2 m1 m2 lt
    generalize min (a₀.size - lo) mr=n at *
    refine wpS_bind (wpS_get ?_)
    cases eb:(pendingOf st3).back? with
    | none =>
     dsimp only
     exact wpS_bind (wpS_modify (wpS_pure (fin hn hln r3 s3)))
    | some t =>
     obtain ⟨s1,n1,z⟩:=t
     dsimp only
     generalize power' a₀.size (2 * s1+n1) (2 * s1+n1+n1+n) a₀.size=pw
     refine wpS_bind (wpS_mono (wpS_forRange (I:=λ_ c st4=>c=(none,())/\RI κ a₀ ρ lo st4/\Srt ρ (arrOf st4) lo (lo+n)) (Q:=λc st4=>c=(none,())/\RI κ a₀ ρ lo st4/\Srt ρ (arrOf st4) lo (lo+n)) ?_ (λ_ _ hh=>hh) ⟨rfl,r3,s3⟩) ?_)
     .rintro y c st4 _ _ ⟨rfl,r4,h4⟩
      refine wpS_bind (wpS_get ?_)
      by_cases c2:(pendingOf st4).size > 1
      .have e1:(pendingOf st4)[(pendingOf st4).size - 2]?=some (pendingOf st4)[(pendingOf st4).size - 2]:=Array.getElem?_eq_getElem (by omega)
       have e2:(pendingOf st4)[(pendingOf st4).size - 2+1]?=some (pendingOf st4)[(pendingOf st4).size - 2+1]:=Array.getElem?_eq_getElem (by omega)
       simp only [if_pos c2]
       rw [e1]
       dsimp only
       by_cases c3:(pendingOf st4)[(pendingOf st4).size - 2].2.2<=pw
       .rw [if_pos c3]
        exact wpS_pure ⟨rfl,r4,h4⟩
       .rw [if_neg c3]
        refine wpS_bind (RI.merge h0 r4 hlo e1 e2 λst5 r5 _ o5=>?_)
        simp only [Bool.not_true,Bool.false_eq_true,if_false]
        exact wpS_pure ⟨rfl,r5,ZfL h4 λj h1 _=>o5 j h1⟩
      .simp only [if_neg c2]
       exact wpS_pure ⟨rfl,r4,h4⟩
     .rintro c st4 ⟨rfl,r4,h4⟩
      dsimp only
      exact wpS_bind (wpS_modify (wpS_bind (wpS_modify (wpS_pure (fin hn hln (r4.pow λ_=>⟨rfl,rfl⟩) h4)))))
   .rw [if_neg lt]
    have hn:0<m:=by omega
    have hln:lo+m<=a₀.size:=by omega
    have r3:=r2
    have s3:=s2
    clear b2 s2 o2 r2 m1 m2 lt
    generalize m=n at *
    generalize st2=st3 at *
    refine wpS_bind (wpS_get ?_)
    cases eb:(pendingOf st3).back? with
    | none =>
     dsimp only
     exact wpS_bind (wpS_modify (wpS_pure (fin hn hln r3 s3)))
    | some t =>
     obtain ⟨s1,n1,z⟩:=t
     dsimp only
     generalize power' a₀.size (2 * s1+n1) (2 * s1+n1+n1+n) a₀.size=pw
     refine wpS_bind (wpS_mono (wpS_forRange (I:=λ_ c st4=>c=(none,())/\RI κ a₀ ρ lo st4/\Srt ρ (arrOf st4) lo (lo+n)) (Q:=λc st4=>c=(none,())/\RI κ a₀ ρ lo st4/\Srt ρ (arrOf st4) lo (lo+n)) ?_ (λ_ _ hh=>hh) ⟨rfl,r3,s3⟩) ?_)
     .rintro y c st4 _ _ ⟨rfl,r4,h4⟩
      refine wpS_bind (wpS_get ?_)
      by_cases c2:(pendingOf st4).size > 1
      .have e1:(pendingOf st4)[(pendingOf st4).size - 2]?=some (pendingOf st4)[(pendingOf st4).size - 2]:=Array.getElem?_eq_getElem (by omega)
       have e2:(pendingOf st4)[(pendingOf st4).size - 2+1]?=some (pendingOf st4)[(pendingOf st4).size - 2+1]:=Array.getElem?_eq_getElem (by omega)
       simp only [if_pos c2]
       rw [e1]
       dsimp only
       by_cases c3:(pendingOf st4)[(pendingOf st4).size - 2].2.2<=pw
       .rw [if_pos c3]
        exact wpS_pure ⟨rfl,r4,h4⟩
       .rw [if_neg c3]
        refine wpS_bind (RI.merge h0 r4 hlo e1 e2 λst5 r5 _ o5=>?_)
        simp only [Bool.not_true,Bool.false_eq_true,if_false]
        exact wpS_pure ⟨rfl,r5,ZfL h4 λj h1 _=>o5 j h1⟩
      .simp only [if_neg c2]
       exact wpS_pure ⟨rfl,r4,h4⟩
     .rintro c st4 ⟨rfl,r4,h4⟩
      dsimp only
      exact wpS_bind (wpS_modify (wpS_bind (wpS_modify (wpS_pure (fin hn hln (r4.pow λ_=>⟨rfl,rfl⟩) h4)))))
 case after =>
  rintro c st1 ⟨rfl,r1⟩
  dsimp only
  have l1:=ZcX r1.tile
  rw [Array.length_toList] at l1
  refine wpS_bind (wpS_mono (wpS_forRange (I:=λx c st2=>c=(none,())/\RI κ a₀ ρ a₀.size st2/\(pendingOf st2).size+x<=a₀.size+1) (Q:=λc st2=>c=(none,())/\RI κ a₀ ρ a₀.size st2/\(pendingOf st2).size<=1) ?_ ?_ ⟨rfl,r1,by omega⟩) ?_)
  .rintro y c st2 _ _ ⟨rfl,r2,h2⟩
   refine wpS_bind (wpS_get ?_)
   by_cases c1:(pendingOf st2).size<=1
   .rw [if_pos c1]
    exact wpS_pure ⟨rfl,r2,c1⟩
   .rw [if_neg c1]
    obtain ⟨i,hi,hlt⟩:∃ i,(if Option.any (λx=>decide (x<(pendingOf st2)[(pendingOf st2).size - 2+1]?.elim 0 λx=>x.snd.fst)) (if (pendingOf st2).size - 2 > 0 then Option.map (λx=>x.snd.fst) (pendingOf st2)[(pendingOf st2).size - 2 - 1]? else none)=true then (pendingOf st2).size - 2 - 1 else (pendingOf st2).size - 2)=i/\i+1<(pendingOf st2).size:=⟨_,rfl,by generalize Option.any _ _=bb; cases bb <;> simp <;> omega⟩
    rw [hi]
    refine wpS_bind (RI.merge h0 r2 (Nat.le_refl _) (Array.getElem?_eq_getElem (by omega)) (Array.getElem?_eq_getElem hlt) λst5 r5 z5 _=>?_)
    simp only [Bool.not_true,Bool.false_eq_true,if_false]
    exact wpS_pure ⟨rfl,r5,by omega⟩
  .rintro c st2 ⟨rfl,r2,h2⟩
   exact ⟨rfl,r2,by omega⟩
  .rintro c st2 ⟨rfl,r2,h2⟩
   dsimp only
   refine wpS_pure (h st2 r2.perm r2.failed ?_)
   have ht:=r2.tile
   have hs:=r2.srt
   have z:(pendingOf st2).size=(pendingOf st2).toList.length:=Array.length_toList.symm
   rw [z] at h2
   generalize (pendingOf st2).toList=l at *
   match l,h2,ht,hs with
   | [],_,ht,_ =>
    have e:0=a₀.size:=ht
    intro i j _ _ hj
    omega
   | [t],_,⟨t1,t2,t3⟩,hs =>
    have e:0+t.2.1=a₀.size:=t3
    have q:=hs t (by simp)
    rw [t1,e] at q
    exact q
   | _ :: _ :: _,h2,_,_=>simp at h2
end
end L2.Stm
set_option maxHeartbeats 4000000
namespace L2
open PySem PySem.Spec PyProof.Rows
section
variable {prog:Program} {w:World} {A:Around} {E:Value->Shared->Prop} {s:Shared}
theorem ZnD {a:Addr} {us:List Value} {m:Nat} {P:PySem.Fin->Shared->Prop} {κ:SortKind} {ρ:Stg.RR} (ho:s.heap.get? a=some (seqObj "list" us.toArray m)) (z:us.length<=1000000)
  (hk:2<=us.length->(∀ (E:Value->Shared->Prop) (Q:SortKind->Shared->Prop),Q κ { s with heap:=srtH s.heap a us }->wpAny (model prog w) A (keyKind' us.toArray) Q E { s with heap:=srtH s.heap a us })/\Stg.Cmp prog w A { s with heap:=srtH s.heap a us } κ ρ (pairsOf us))
  (g:∀ q:SortSt,(arrOf q).Perm (pairsOf us)->Stm.Srt ρ (arrOf q) 0 (pairsOf us).size->P (.done (.ret .none)) { s with heap:=sortedHeap s.heap a us ((arrOf q).map (·.2)) }):wpAny (model prog w) A (Builtin.«list.sort» ⟨[.ref a],[]⟩) P E s:=by
 rw [list_sort_plain]
 have al:a<s.heap.objs.size:=Heap.lt_size ho
 obtain ⟨c,oc⟩:∃ c,(s.heap.update a (Obj.mapSeq λ_=>#[])).get? a=some (seqObj "list" #[] c):=⟨_,get?_update_seq ho (λ_=>#[])⟩
 have oc6:(srtH s.heap a us).get? a=some (seqObj "list" #[] c):=Heap.get?_push_of_some _ (Heap.get?_push_of_some _ oc)
 refine wpAny_bind (listItems_at ho rfl (wpAny_bind (listUpdate_at ho rfl (wpAny_bind (seqEpoch_at oc rfl (wpAny_bind (wpAny_newTuple (wpAny_bind (wpAny_newList (wpAny_holding ?_)))))))))) <;> try (rw [sizeLine_eq]; first | (rw [List.size_toArray]; omega) | omega)
 show wpAny (model prog w) A _ P E { s with heap:=srtH s.heap a us }
 dsimp only
 have us2:us.toArray.size=us.length:=List.size_toArray ..
 by_cases few:us.toArray.size<2
 .rw [if_pos few,if_pos few]
  refine wpAny_bind (wpAny_pure ?_)
  rw [StateT.run_pure]
  refine wpAny_bind (wpAny_pure (wpAny_bind (seqEpoch_at oc6 rfl (wpAny_bind (listUpdate_at oc6 rfl ?_ (hsz2:=by rw [Array.size_map]; show (pairsOf us).size<=_; rw [pairsOf_size,sizeLine_eq]; omega))))))
  simp only [bne_self_eq_false,Bool.false_eq_true,if_false]
  refine wpAny_pure (g (SortSt.mk' general' (us.toArray.zip us.toArray) #[] 7 none) (Array.Perm.refl _) λi j _ hij hj=>?_)
  rw [pairsOf_size] at hj
  rw [show i=j by omega]
  exact Int.le_refl _
 .rw [if_neg few,if_neg few]
  have two:2<=us.length:=by omega
  obtain ⟨k1,k2⟩:=hk two
  refine wpAny_bind (k1 _ _ (wpAny_bind (wpAny_mono (Stm.runsL_ok (a₀:=pairsOf us) (st:=SortSt.mk' κ (us.toArray.zip us.toArray) #[] 7 none) (Q:=λ_ q=>(arrOf q).Perm (pairsOf us)/\failedOf q=none/\Stm.Srt ρ (arrOf q) 0 (pairsOf us).size) k2 (Array.Perm.refl _) rfl rfl rfl λq a1 a2 a3=>⟨a1,a2,a3⟩) ?_ λ_ _ e=>e)))
  rintro ⟨⟨⟩,q⟩ t ⟨rfl,hp,hf,hs⟩
  refine wpAny_bind (seqEpoch_at oc6 rfl (wpAny_bind (listUpdate_at oc6 rfl ?_ (hsz2:=by rw [Array.size_map,hp.size_eq,pairsOf_size,sizeLine_eq]; omega))))
  dsimp only
  rw [hf]
  simp only [bne_self_eq_false,Bool.false_eq_true,if_false]
  exact wpAny_pure (g q hp hs)
theorem ZmF {l:Addr} {us:List Value} {Q:Value->Shared->Prop} {κ:SortKind} {ρ:Stg.RR} (hl:s.heap.IsList l us.toArray) (z:us.length<=1000000)
  (hk:2<=us.length->∀ h':Heap,(∀ b o,s.heap.get? b=some o->h'.get? b=some o)->(∀ (E:Value->Shared->Prop) (Q:SortKind->Shared->Prop),Q κ { s with heap:=h' }->wpAny (model prog w) A.in1.in1 (keyKind' us.toArray) Q E { s with heap:=h' })/\Stg.Cmp prog w A.in1.in1 { s with heap:=h' } κ ρ (pairsOf us))
  (g:∀ q:SortSt,(arrOf q).Perm (pairsOf us)->Stm.Srt ρ (arrOf q) 0 (pairsOf us).size->Q (.ref (s.heap.objs.size+1)) { s with heap:=sortedAll s.heap us ((arrOf q).map (·.2)) }):wpAny (model prog w) A (call (.builtin "sorted") [.ref l]) Q E s:=by
 have zz:us.length<=sizeLine:=by rw [sizeLine_eq]; omega
 refine Calls.call_function_entry kind_sorted plain_sorted entry_sorted (args_sorted1 _) ?_
 unfold Builtin.«sorted»
 refine wpAny_bind (m:=checkCount "sorted" 1 1 _) (wpAny_pure (wpAny_bind (collect_list hl (wpAny_bind (wpAny_newList ?_ zz)) zz)))
 have sz:((s.heap.push (seqObj "list" #[] 0)).update s.heap.objs.size (Obj.mapSeq (·++us.toArray))).objs.size=s.heap.objs.size+1:=by rw [Heap.size_update,size_push']
 have oL:(srtG s.heap us).get? (s.heap.objs.size+1)=some (seqObj "list" us.toArray 0):=by unfold srtG; rw [← sz]; exact Heap.get?_push_size _ rfl
 show wpAny _ _ _ _ _ { s with heap:=srtG s.heap us }
 rw [sz]
 refine wpAny_bind (wpAny_holding (wpAny_call_entry slot_list_sort ⟨_,oL,rfl⟩ entry_list_sort (ZnD (s:={ s with heap:=srtG s.heap us }) (κ:=κ) oL z (λtwo=>hk two _ λb o e=>Zlb (Nat.ne_of_lt (Nat.lt_succ_of_lt (Heap.lt_size e))) (Zlc e)) λq a1 a2=>⟨_,rfl,?_⟩) (args_list_sort _)))
 exact wpAny_pure ⟨_,rfl,g q a1 a2⟩
end
theorem ZnE {α:Type}:∀ {l:List α},2<=l.length->∃ a b r,l=a :: b :: r
 | [],h=>absurd h (Nat.not_succ_le_zero 1)
 | [_],h=>absurd h (Nat.lt_irrefl 1)
 | a :: b :: r,_=>⟨a,b,r,rfl⟩
def rrI:Stg.RR:=⟨λ_=>0,λp=>match p.1 with | .int n _=>n | _=>0⟩
theorem ZlU {xs:Array Keyed} {i:Nat}:Stg.Kg rrI xs i=PyProof.Rows.K xs i:=by
 unfold Stg.Kg PyProof.Rows.K
 cases xs[i]? with
 | none=>rfl
 | some p=>obtain ⟨v,u⟩:=p; cases v <;> rfl
def Zle (K:W.Frag):List V->Hp->VK->Prop:=λxs H Q=>∃ (p:Addr) (ns:List Int),xs=[.ref p]/\SqL K H p (ns.map V.int)/\ns.length<=1000000 /\
 ∀ (D:Addr) (os:List Int),H D=none->os.Perm ns->os.Pairwise (·<=·)->Q (.ref D) (upd H D (.lst (os.map V.int)))
variable {K:W.Frag} {X:Cx}
theorem ZfM (hK:X.K=K):CallR X (.builtin "sorted") (Zle K):=by
 subst hK
 intro pins s σ H xs us Q I r h
 obtain ⟨p,ns,rfl,hq,hz0,q⟩:=h
 obtain ⟨u,rfl,rx⟩:=vals1 r
 cases rx
 obtain ⟨its,rv,pl,hz⟩:=I.list hq
 have hv:=ZaW rv
 have lv:its.length=ns.length:=by have:=rv.length; rw [length_map] at this; exact this.symm
 refine ZmF (κ:=oneType') (ρ:=rrI) pl.isList (by omega) (λtwo h' kp=>⟨λE Q hQ=>?_,λx mx y my E Q hQ=>?_⟩) λst hp hs=>?_
 .obtain ⟨v1,v2,rest,e⟩:=ZnE two
  rw [e] at hv ⊢
  rw [keyKind_ints hv]
  exact wpAny_pure hQ
 .obtain ⟨a,t,ea⟩:=hv.intKeys x mx
  obtain ⟨b,t',eb⟩:=hv.intKeys y my
  rw [ea,eb]
  refine W.kat_lt_int ?_
  have e1:rrI.g x=a:=by unfold rrI; dsimp only; rw [ea]
  have e2:rrI.g y=b:=by unfold rrI; dsimp only; rw [eb]
  rw [e1,e2] at hQ
  exact hQ
 .obtain ⟨ns',h1,h2,h3⟩:=sorted_out hv hp (λi j hij hj=>by rw [← ZlU,← ZlU]; exact hs i j (Nat.zero_le _) hij hj)
  generalize (arrOf st).map (·.2)=out at *
  obtain ⟨e,he⟩:=sortedAll_at s.heap its out
  have hz2:(ns'.map V.int).length<=sizeLine:=by rw [length_map,h2.length_eq,sizeLine_eq]; omega
  have fr:H (s.heap.objs.size+1)=none:=I.hok.fresh (Nat.le_succ _)
  refine ⟨.ref (s.heap.objs.size+1),_,I.laid (a:=s.heap.objs.size+1) (t':=s.toks) (o:=.lst (ns'.map V.int)) (λb o z=>sortedAll_old z) (Nat.le_succ _) ⟨hz2,out.toList,e,Zdo h1,he⟩,rfl,q _ ns' fr h2 h3⟩
end L2
set_option maxHeartbeats 1000000
namespace L2
open PySem PySem.Spec PyProof.Rows
def Itv (d:Addr) (o:Obj) (kvs:List (Key×V)):It :=
 ⟨λi H=>H d=some (.frz o (.dK kvs))/\i<kvs.length,λi H x H'=>H'=H/\∃ k,kvs[i]?=some (k,x),λi H=>H d=some (.frz o (.dK kvs))/\kvs.length<=i⟩
theorem kv_at:∀ {kvs:List (Key×V)} {vs:List (Key×Value)},KV kvs vs->∀ {i:Nat} {k:Key} {v:Value},vs[i]?=some (k,v)->∃ x,kvs[i]?=some (k,x)/\RelV x v
 | _,_,.nil,i,k,v,h=>by simp at h
 | p :: r,q :: t,.cons a b,0,k,v,h=>by
  have e:q=(k,v):=by simpa using h
  subst e
  obtain ⟨p1,p2⟩:=p
  obtain ⟨h1,h2⟩:=a
  cases h1
  exact ⟨p2,rfl,h2⟩
 | p :: r,q :: t,.cons a b,i+1,k,v,h=>by
  obtain ⟨x,e,rx⟩:=kv_at b (i:=i) (by simpa using h)
  exact ⟨x,by simpa using e,rx⟩
theorem Zii {P:Program} {w:World} {K:W.Frag} {tg:Expr} (d it:Addr) {o:Obj} {kvs:List (Key×V)} {es:Array DictEntry} {ep:Nat} (he:o.data=.dict es ep):Turn P w K tg (Itv d o kvs) [it] it (λi h=>h.IsValIter it d i kvs.length ep) where
 mem:=by simp
 obj:=λi h st b hb=>by
  have e:b=it:=by simpa using hb
  subst e
  obtain ⟨o,e,c,d⟩:=st
  exact ⟨o,e,λv z=>by rw [d] at z; cases z⟩
 keep:=λi h h' ⟨o,ho,x⟩ k=>⟨o,k it (by simp) o ho,x⟩
 item:=by
  intro X hP hw hK hc i pins s σ H E I hf st hg
  subst hP hw hK
  obtain ⟨hd,hi⟩:=hg
  obtain ⟨hs,vs,r,m⟩:=Zje (I.hok d _ hd) he
  have hlen:=r.length
  rw [hlen] at st hi
  obtain ⟨f0,f1,f2,f3,f4,f5⟩:=hf it (by simp)
  obtain ⟨⟨k,v⟩,hx⟩:∃ p,vs[i]?=some p:=⟨vs[i],getElem?_eq_getElem hi⟩
  refine wpAny_pyNext_values_item st m hx λh' st' sb=>?_
  have I1:Inv X pins σ H { s with heap:=h' }:=I.turned (t':=s.toks) (λb o hb e=>(sb.2 b hb).trans e) f0 f1 f3 f4 f5
  obtain ⟨x,ex,rx⟩:=kv_at r hx
  refine ⟨v,rfl,letGo_valiter (s':={ s with heap:=h' }) st' ⟨x,H,I1,rx,⟨rfl,k,ex⟩,?_,λb hb=>(hf b hb).1⟩⟩
  show h'.IsValIter it d (i+1) kvs.length ep
  rw [hlen]; exact st'
 done:=by
  intro X hP hw hK hc i pins s σ H E I hf st hg
  subst hP hw hK
  obtain ⟨hd,hi⟩:=hg
  obtain ⟨hs,vs,r,m⟩:=Zje (I.hok d _ hd) he
  have hlen:=r.length
  rw [hlen] at st hi
  obtain ⟨f0,f1,f2,f3,f4,f5⟩:=hf it (by simp)
  exact wpAny_pyNext_values_end (I.ok.hd hc) st m (List.getElem?_eq_none_iff.mpr hi) λh' eb=>⟨rfl,I.turned (t':=s.toks) (λb o hb e=>eb b o hb e) f0 f1 f3 f4 f5⟩
 self:=λ_ _ _ _ _ st h=>wpAny_pyIter_valiter st h
section
variable {X:Cx} {tg:Expr}
def ZnF (tl:TE):TI:=λσ H R=>tl σ H λx H1=>∃ d kvs,x=.ref d/\H1 d=some (.dK kvs)/\∀ o,R (Itv d o kvs) (upd H1 d (.frz o (.dK kvs)))
theorem Zlf {l:Expr} {tl:TE} {apos cpos:Pos} (hl:PE X l tl) (hbase:attributeBase l "values" X.env (eval l X.env)=eval l X.env:=by rfl) (hline:(apos.endLine == cpos.line)=true:=by rfl):PI X tg (.Call (.Attribute l "values" apos) [] [] cpos) (ZnF tl):=by
 intro pins s σ H R I h
 refine wpAny_Call_method0_late hbase hline (thn (hl pins s σ H _ I h) λv s1 ⟨x,H1,I1,r1,q1⟩=>?_)
 obtain ⟨d,kvs,e,hd,q⟩:=q1
 subst e
 cases r1
 obtain ⟨t1,t2,_⟩:=Zhm I1 (.inl ⟨kvs,.inl hd⟩)
 obtain ⟨hz,hs,vs,rv,dd⟩:=I1.hok d _ hd
 obtain ⟨ep,m⟩:=dd.dictAt
 obtain ⟨o,es,ho,hx,he,rest⟩:=id m
 refine ⟨"dict", "dict.values",PySem.F.plainAttrs_dict,PySem.F.slot_dict_values,PySem.F.type_dict_values,t1,t2,Calls.callWith_builtin rfl (PySem.evalArgs_none ?_)⟩
 refine call_meetsIn PySem.F.slot_dict_values t1 PySem.F.entry_dict_values (PySem.F.args_dict_values_1 _) (meets_dict_values (ZM X.prog X.w) d hs) ⟨⟨vs,dd⟩,?_⟩
 generalize hh:s1.heap.push { cls:=.type "dict_values",data:=.fields #[.ref d] }=h2
 have up:∀ b o,s1.heap.get? b=some o->h2.get? b=some o:=λb o e=>by rw [← hh]; exact Heap.get?_push_of_some _ e
 have sz:s1.heap.objs.size<=h2.objs.size:=by rw [← hh,Heap.size_push]; exact Nat.le_succ _
 have hv:h2.IsValuesView s1.heap.objs.size d:=by rw [← hh]; exact ⟨_,Heap.get?_push_size _ rfl,rfl,rfl⟩
 have I2:Inv X pins σ (upd H1 d (.frz o (.dK kvs))) { s1 with heap:=h2 }:=(I1.frozen hd ho).kept (t':=s1.toks) λb o e=>up b o e
 have m2:h2.DictAt (ZM X.prog X.w) d vs ep:=m.at' λo e=>up d o e
 refine wpAny_pyIter_values (s:={ s1 with heap:=h2 }) hv m2 ?_
 refine ⟨h2.objs.size,[h2.objs.size],_,_,_,rfl,I2.kept (t':=s1.toks) λb o e=>Heap.get?_push_of_some _ e,Zii d _ (kvs:=kvs) he,?_,λb hb=>?_,q o⟩
 .show Heap.IsValIter _ _ d 0 kvs.length ep
  rw [rv.length]
  exact ⟨_,Heap.get?_push_size _ rfl,rfl,rfl⟩
 .have e:b=h2.objs.size:=by simpa using hb
  subst e
  exact I2.fpOk (Nat.le_refl _) (I2.hok.fresh (Nat.le_refl _))
end
theorem ZjB {d:Addr} {o:Obj} {kvs:List (Key×V)} {g:TG} {tb:TS} {D:Ends} {σ:St} {H:Hp} (Pv:Nat->St->Hp->Prop) (h0:Pv 0 σ H) (hl:∀ i σ H,i<=kvs.length->Pv i σ H->H d=some (.frz o (.dK kvs)))
  (hs:∀ i k v σ H,kvs[i]?=some (k,v)->Pv i σ H->g v σ H λσ2 H2=>tb { D with nx:=Pv (i+1),ct:=Pv (i+1),bk:=D.nx } σ2 H2) (hd:∀ σ H,Pv kvs.length σ H->D.nx σ H) :
  ∃ W:Nat->Nat->St->Hp->Prop,(∃ m,W 0 m σ H)/\∀ i m σ H,W i m σ H ->
   ((Itv d o kvs).stop i H/\D.nx σ H)\/((Itv d o kvs).go i H/\∃ N:St->Hp->Prop,(∀ σ' H',N σ' H'->∃ m',m'<m/\W (i+1) m' σ' H')/\∀ x H',(Itv d o kvs).yld i H x H'->g x σ H' λσ2 H2=>tb { D with nx:=N,ct:=N,bk:=D.nx } σ2 H2):=by
 refine ⟨λi m σ H=>m=kvs.length - i/\i<=kvs.length/\Pv i σ H,⟨kvs.length,by simp,Nat.zero_le _,h0⟩,?_⟩
 rintro i m σ H ⟨rfl,hi,p⟩
 have q:=hl i σ H hi p
 by_cases hlt:i<kvs.length
 .refine .inr ⟨⟨q,hlt⟩,Pv (i+1),λσ' H' z=>⟨kvs.length - (i+1),by omega,rfl,by omega,z⟩,λx H' z=>?_⟩
  obtain ⟨rfl,k,hkv⟩:=z
  exact hs i k x σ _ hkv p
 .have e:i=kvs.length:=by omega
  subst e
  exact .inl ⟨⟨q,Nat.le_refl _⟩,hd σ H p⟩
def ZnG (td ty tx:TE):TE:=λσ H Q=>td σ H λx H1=>∃ a,x=.ref a/\IsD H1 a/\ty σ H1 λy H2=>tx σ H2 λz H3=>∃ kvs k,H3 a=some (.dK kvs)/\y=kV k/\kvs.length<sizeLine /\
 (∀ v,valV kvs k=some v->Q v H3)/\(valV kvs k=none->Q z (upd H3 a (.dK (putK kvs k z))))
section
variable {X:Cx} {o e f:Expr} {apos cpos:Pos} {td ty tx:TE}
theorem Zlg (ho:PE X o td) (he:PE X e ty) (hf:PE X f tx) (m:M2 X o "setdefault" apos e f cpos):PE X (.Call (.Attribute o "setdefault" apos) [e,f] [] cpos) (ZnG td ty tx):=by
 intro pins s σ H Q I h
 refine wpAny_Call_method m.base m.few m.line PySem.F.plainAttrs_dict PySem.F.slot_dict_setdefault PySem.F.type_dict_setdefault (thn (ho pins s σ H _ I h) λu s1 ⟨x,H1,I1,rx,a,ex,d,q1⟩=>?_)
 subst ex
 obtain rfl:u=Value.ref a:=rx
 obtain ⟨t1,t2,_⟩:=Zhm I1 d
 refine ⟨t1,t2,?_⟩
 rw [m.trees]
 refine Calls.callWith_builtin rfl (Calls.evalArgs_plain (Calls.spliced_cons (thn (he pins s1 σ H1 _ I1 q1) λiv s2 ⟨y,H2,I2,ry,q2⟩ =>
  Calls.spliced_cons (thn (hf pins s2 σ H2 _ I2 q2) λfv s3 ⟨z,H3,I3,rz,kvs,k,ea,ey,hlt,q3,q4⟩=>Calls.spliced_nil ?_))))
 subst ey
 obtain ⟨zz,hd,vs,rel,dd⟩:=dk_of I3.hok ea
 have hz:vs.length<=sizeLine:=by rw [← rel.length]; exact zz
 refine call_meetsIn PySem.F.slot_dict_setdefault dd.typeIs PySem.F.entry_dict_setdefault (PySem.F.args_dict_setdefault_3 _ _ _) (kt_meets_setdefault (ZM X.prog X.w) a (kV_is ry) hd fv) ⟨vs,dd,hz,λv hv=>?_,λhn h' dd' hs=>?_⟩
 .have q:=rel.val k
  rw [hv] at q
  cases e:valV kvs k with
  | none=>rw [e] at q; cases RelO.none_of q
  | some w' =>
   rw [e] at q
   obtain ⟨u,eu,ru⟩:=q.some_of
   cases eu
   exact ⟨w',H3,I3.tok _,ru,q3 w' e⟩
 .have hn':valV kvs k=none:=by
   have q:=(rel.val k).isSome_eq
   rw [hn] at q
   cases e:valV kvs k with
   | none=>rfl
   | some _=>rw [e] at q; cases q
  have he:∃ q,h'.get? a=some q:=let ⟨q,_,_,hq,_⟩:=dd'; ⟨q,hq⟩
  have hl:(putK kvs k z).length<=sizeLine:=by have:=Zaq kvs k z; omega
  exact ⟨z,_,ZeG I3 (by rw [ea]; exact True.intro) hs he (Zja hl hd (rel.put k rz) dd'),rz,q4 hn'⟩
end
def ipL:TIp:=λx y H Q=>∃ l b xs zs,x=.ref l/\y=.ref b/\H l=some (.lst xs)/\H b=some (.lst zs)/\xs.length+zs.length<=sizeLine/\Q (.ref l) (upd H l (.lst (xs++zs)))
theorem ZdD:typeLookup (.type "list") (dunderI "add")=pure (some (.builtin "list.__iadd__")):=PySem.F.slot_list_iadd.lookup
theorem ZnH {X:Cx}:PIp X .Add ipL:=by
 intro pins s σ H x y v u Q I rx ry h
 obtain ⟨l,b,xs,zs,rfl,rfl,hH,hB,hz,q⟩:=h
 cases rx
 cases ry
 obtain ⟨z,its,n,r,hl,e⟩:=I.lstM hH
 obtain ⟨z2,its2,n2,r2,hl2,e2⟩:=I.lstM hB
 have hsz:its.toArray.size+its2.toArray.size<=sizeLine:=by rw [List.size_toArray,List.size_toArray]; omega
 have hlong:¬ (!its.toArray.isEmpty && Builtin.List.listTooLong (its.toArray.size+its2.toArray.size))=true:=by
  rw [ZkE hsz,Bool.and_false]
  exact Bool.false_ne_true
 have T1:s.TypeIs (.ref l) "list" := ⟨_,e,rfl⟩
 have T2:s.TypeIs (.ref b) "list" := ⟨_,e2,rfl⟩
 unfold inplaceOp
 refine wpAny_holding ?_
 have hfi:fillsInplaceSlot (.type "list") "add" (Operator.Add == .Add)=pure false:=by
  show (typeLookup (.type "list") (dunderI "add") >>= _)=_
  rw [ZdD]; rfl
 have hsi:seqSlot? (.type "list") (dunderI "add")=pure (some (.builtin "list.__iadd__")):=by
  unfold seqSlot?
  rw [ZdD]; rfl
 refine wpAny_bind (wpAny_typeOf T1 (wpAny_bind (wpAny_of_eq hfi ?_)))
 rw [if_neg Bool.false_ne_true]
 refine wpAny_bind (wpAny_binaryOp1_none (nm := "add") T1 T2 noFill_list_add ?_)
 refine wpAny_bind (wpAny_of_eq hsi (wpAny_bind (wpAny_rule ?_)))
 refine call_meets PySem.F.slot_list_iadd T1 PySem.F.entry_list_iadd (PySem.F.args_list_iadd_2 _ _) (AutoSeq1.list___iadd___list_list_0 l its.toArray n b its2.toArray n2 hlong (by rw [List.size_toArray]; omega) (by omega)) ⟨e,e2,?_⟩
 refine ⟨.ref l,_,I.lset (its':=its++its2) hH e (by simp) (r.append r2) ?_,rfl,q⟩
 rw [length_append]
 omega
end L2
set_option maxHeartbeats 4000000

namespace Mine
open PySem L2
theorem scm {N P:List Str} {s:Scope} (a:s.kind=.function:=by rfl) (b:s.isCoroutine=false:=by rfl) (c:s.isGenerator=false:=by rfl) (d:N.Nodup:=by decide +kernel) (e:N.take P.length=P:=by rfl) (f:∀ x ∈ P,s.names.lookup x=some .local\/s.names.lookup x=some .cell:=by decide +kernel) (g:∀ y ∈ s.names,y.2 ≠ .free:=by decide +kernel):FnScope N P s:=⟨a,b,c,d,e,f,g⟩
theorem sl (n:Nat) (h:n ≤ 99:=by decide):n ≤ sizeLine:=Nat.le_trans h (by rw [sizeLine_eq]; decide)
variable {P:Program} {w:World} {K:W.Frag} {mg:Str->Option Value} {base:Heap}
def top (i:Nat):Stmt:=PySem.Challenge.pw_nearstairs_k20_bounds_by_marks.main.body.getD i (.Pass ⟨0,0,0,0⟩)
abbrev ZaX:Stmt:=top 1
abbrev Zij:List Str:=["shelves", "board"]
abbrev Zah:List Str:=["shelves", "board"]
theorem sc_shelf_of:FnScope Zij Zah (Zg ZaX):=scm
abbrev ZaK:Stmt:=top 9
abbrev Zgs:List Str:=["thing"]
abbrev Zbg:List Str:=["thing"]
theorem sc_is_number:FnScope Zgs Zbg (Zg ZaK):=scm
abbrev ZbN:Stmt:=top 11
abbrev Zlh:List Str:=["places", "mates", "board", "out"]
abbrev Zcj:List Str:=["places", "mates", "board", "out"]
theorem sc_may_go:FnScope Zlh Zcj (Zg ZbN):=scm
abbrev Zep:Stmt:=top 12
abbrev ZnI:List Str:=["mates", "board", "out"]
abbrev Zeq:List Str:=["mates", "board", "out"]
theorem sc_come:FnScope ZnI Zeq (Zg Zep):=scm
abbrev ZN:Stmt:=top 13
abbrev ZbT:List Str:=["shelves", "places", "row", "order", "standing", "missed", "board", "out", "mates"]
abbrev Zal:List Str:=["shelves", "places", "row", "order"]
theorem sc_count_misses:FnScope ZbT Zal (Zg ZN):=scm
abbrev ZaL:Stmt:=top 14
abbrev Zgt:List Str:=["shelves", "places", "row", "order", "missed"]
abbrev Zbh:List Str:=["shelves", "places", "row", "order"]
theorem sc_misses_by:FnScope Zgt Zbh (Zg ZaL):=scm
abbrev Zai:Stmt:=top 15
abbrev ZeO:List Str:=["row", "told", "behind", "at", "board"]
abbrev ZU:List Str:=["row"]
theorem sc_asked_again:FnScope ZeO ZU (Zg Zai):=scm
abbrev Zax:Stmt:=top 16
abbrev Zcv:List Str:=["shelves", "places", "row", "standing", "again", "order", "board", "behind", "mates", "out", "latest"]
abbrev Zbt:List Str:=["shelves", "places", "row"]
theorem sc_farthest:FnScope Zcv Zbt (Zg Zax):=scm
abbrev Zab:Stmt:=top 18
abbrev ZcJ:List Str:=["row"]
abbrev ZaQ:List Str:=["row"]
theorem sc_returns_of:FnScope ZcJ ZaQ (Zg Zab):=scm
abbrev ZD:Stmt:=top 19
abbrev Zcw:List Str:=["shelves", "row", "told", "at", "board"]
abbrev ZP:List Str:=["shelves", "row"]
theorem sc_places_by_shelf:FnScope Zcw ZP (Zg ZD):=scm
abbrev ZI:Stmt:=top 20
abbrev ZcO:List Str:=["again", "costs", "at", "within", "choices", "ahead"]
abbrev ZX:List Str:=["again", "costs", "at"]
theorem sc_cheapest_ahead:FnScope ZcO ZX (Zg ZI):=scm
abbrev Zaj:Stmt:=top 21
abbrev ZeP:List Str:=["fee", "row", "again", "costs", "aheads", "at", "cost", "ahead", "marks", "mark"]
abbrev ZaG:List Str:=["fee", "row"]
theorem sc_least_marks:FnScope ZeP ZaG (Zg Zaj):=scm
abbrev Zar:Stmt:=top 23
abbrev ZdE:List Str:=["shelves", "row", "marks", "first", "last", "shelf"]
abbrev Zbi:List Str:=["shelves", "row", "marks", "first", "last"]
theorem sc_is_marked:FnScope ZdE Zbi (Zg Zar):=scm
abbrev ZbW:Stmt:=top 24
abbrev ZjC:List Str:=["shelves", "places", "row", "marks", "free"]
abbrev ZdF:List Str:=["shelves", "places", "row", "marks"]
theorem sc_bound:FnScope ZjC ZdF (Zg ZbW):=scm
abbrev Zay:Stmt:=top 25
abbrev Zcx:List Str:=["shelves", "places", "row", "marks", "spots", "asked"]
abbrev Zbu:List Str:=["shelves", "places", "row"]
theorem sc_marks_of:FnScope Zcx Zbu (Zg Zay):=scm
abbrev Zas:Stmt:=Zbx (top 27) 0
abbrev ZdG:List Str:=["self", "shelves", "places", "rule"]
abbrev Zbj:List Str:=["self", "shelves", "places", "rule"]
theorem sc_Room_init:FnScope ZdG Zbj (Zg Zas):=scm
abbrev ZaY:Stmt:=Zbx (top 27) 1
abbrev Zik:List Str:=["self", "board"]
abbrev ZaM:List Str:=["self", "board"]
theorem sc_Room_has:FnScope Zik ZaM (Zg ZaY):=scm
abbrev Zaz:Stmt:=Zbx (top 27) 2
abbrev ZfN:List Str:=["self", "board", "out"]
abbrev ZaR:List Str:=["self", "board"]
theorem sc_Room_bring:FnScope ZfN ZaR (Zg Zaz):=scm
abbrev ZaZ:Stmt:=Zbx (top 27) 3
abbrev Zil:List Str:=["self", "board", "mates"]
abbrev Zbv:List Str:=["self", "board"]
theorem sc_Room_use:FnScope Zil Zbv (Zg ZaZ):=scm
abbrev ZaN:Stmt:=Zbx (top 27) 4
abbrev Zgu:List Str:=["self", "board"]
abbrev Zbk:List Str:=["self", "board"]
theorem sc_Room_drop:FnScope Zgu Zbk (Zg ZaN):=scm
abbrev ZaO:Stmt:=Zbx (top 27) 7
abbrev Zgv:List Str:=["self", "board"]
abbrev ZaP:List Str:=["self", "board"]
theorem sc_Room_need:FnScope Zgv ZaP (Zg ZaO):=scm
abbrev ZaA:Stmt:=Zbx (top 27) 8
abbrev ZfO:List Str:=["self", "board"]
abbrev ZR:List Str:=["self", "board"]
theorem sc_Room_mates:FnScope ZfO ZR (Zg ZaA):=scm
abbrev ZE:Stmt:=Zbx (top 27) 9
abbrev Zcy:List Str:=["self", "board", "mates"]
abbrev ZQ:List Str:=["self", "board"]
theorem sc_Room_leaver_for:FnScope Zcy ZQ (Zg ZE):=scm
abbrev ZJ:Stmt:=Zbx (top 27) 10
abbrev ZbG:List Str:=["self", "mates"]
abbrev ZaS:List Str:=["self", "mates"]
theorem sc_Room_going:FnScope ZbG ZaS (Zg ZJ):=scm
abbrev s_ask:Stmt:=top 29
abbrev N_ask:List Str:=["room", "board"]
abbrev P_ask:List Str:=["room", "board"]
theorem sc_ask:FnScope N_ask P_ask (Zg s_ask):=scm
abbrev Zbl:Stmt:=top 30
abbrev ZfP:List Str:=["shelves", "places", "rule", "row", "room"]
abbrev ZbH:List Str:=["shelves", "places", "rule", "row"]
theorem sc_run_row:FnScope ZfP ZbH (Zg Zbl):=scm
abbrev ZbA:Stmt:=top 31
abbrev Zhx:List Str:=["shelves", "places", "rule", "row"]
abbrev Zck:List Str:=["shelves", "places", "rule", "row"]
theorem sc_misses:FnScope Zhx Zck (Zg ZbA):=scm
abbrev s_box:Stmt:=top 33
abbrev N_box:List Str:=["_law_script", "_law_k", "_law_cell"]
abbrev P_box:List Str:=["_law_script", "_law_k"]
theorem sc_box:FnScope N_box P_box (Zg s_box):=scm
abbrev Zer:Stmt:=top 34
abbrev ZnJ:List Str:=["_law_box_here", "_law_size", "_law_found", "_law_step", "_law_once", "_law_twice"]
abbrev Zcl:List Str:=["_law_box_here", "_law_size"]
theorem sc_take:FnScope ZnJ Zcl (Zg Zer):=scm
abbrev ZbO:Stmt:=top 35
abbrev Zli:List Str:=["_law_script", "_law_size", "_law_cells", "_law_k", "_law_cell"]
abbrev Zcm:List Str:=["_law_script", "_law_size"]
theorem sc_folded:FnScope Zli Zcm (Zg ZbO):=scm
abbrev ZV:Stmt:=top 36
abbrev Zcn:List Str:=["_law_box_here", "_law_size", "_law_many", "_law_way", "_law_begin", "_law_first", "_law_found", "_law_far", "_law_k", "_law_at"]
abbrev ZaH:List Str:=["_law_box_here", "_law_size"]
theorem sc_some_boards:FnScope Zcn ZaH (Zg ZV):=scm
abbrev Zcz:Stmt:=top 37
abbrev ZmG:List Str:=["_law_box_here", "_law_far", "_law_shelves"]
abbrev ZdH:List Str:=["_law_box_here"]
theorem sc_shape:FnScope ZmG ZdH (Zg Zcz):=scm
abbrev ZcA:Stmt:=top 38
abbrev ZmH:List Str:=["_law_box_here", "_law_few", "_law_most", "_law_some", "_law_size", "_law_way", "_law_found", "_law_k", "_law_drawn", "_law_back", "_law_turned", "_law_often"]
abbrev ZdI:List Str:=["_law_box_here", "_law_few", "_law_most"]
theorem sc_asked:FnScope ZmH ZdI (Zg ZcA):=scm
abbrev ZcK:Stmt:=top 39
abbrev ZlV:List Str:=["_law_found", "_law_due"]
abbrev ZcL:List Str:=["_law_found", "_law_due"]
theorem sc_same:FnScope ZlV ZcL (Zg ZcK):=scm
abbrev ZK:Stmt:=top 40
abbrev ZbB:List Str:=["_law_box_here", "_law_shelves", "_law_places", "_law_row", "_law_there", "_law_found", "_law_board", "_law_some", "_law_gone"]
abbrev ZaI:List Str:=["_law_box_here", "_law_shelves", "_law_places", "_law_row"]
theorem sc_drawn_order:FnScope ZbB ZaI (Zg ZK):=scm
abbrev ZaT:Stmt:=top 41
abbrev ZdJ:List Str:=["_law_shelves", "_law_places", "_law_row", "_law_marks", "_law_found", "_law_j", "_law_board", "_law_behind", "_law_over"]
abbrev ZbI:List Str:=["_law_shelves", "_law_places", "_law_row", "_law_marks"]
theorem sc_l_bound:FnScope ZdJ ZbI (Zg ZaT):=scm
abbrev ZaB:Stmt:=top 42
abbrev ZfQ:List Str:=["_law_box_here", "_law_row", "_law_way", "_law_found", "_law_place"]
abbrev ZaU:List Str:=["_law_box_here", "_law_row"]
theorem sc_some_marks:FnScope ZfQ ZaU (Zg ZaB):=scm
abbrev ZbJ:Stmt:=top 43
abbrev Zgw:List Str:=["_law_box_here", "_law_shelves", "_law_places", "_law_rule", "_law_row", "_law_handed_row", "_law_missed", "_law_choice", "_law_most", "_law_marks", "_law_kept", "_law_found", "_law_other", "_law_told"]
abbrev ZdK:List Str:=["_law_box_here"]
theorem sc_right:FnScope Zgw ZdK (Zg ZbJ):=scm
abbrev s_law:Stmt:=top 44
abbrev N_law:List Str:=["_law_script", "_law_cells"]
abbrev P_law:List Str:=["_law_script"]
theorem sc_law:FnScope N_law P_law (Zg s_law):=scm
structure Txt (K:W.Frag) (mg:Str->Option Value):Prop where
 vt_:mg "abs" = none
 vu_:mg "all" = none
 vw_:mg "any" = none
 vg_:mg "bool" = none
 vj_:mg "divmod" = none
 qj_:mg "enumerate" = none
 q9_:mg "int" = none
 qc_:mg "isinstance" = none
 qf_:mg "len" = none
 qo_:mg "list" = none
 vn_:mg "max" = none
 vo_:mg "min" = none
 qh_:mg "range" = none
 va_:mg "sorted" = none
 vb_:mg "str" = none
 vi_:mg "tuple" = none
 vp_:mg "zip" = none
 qa_:Cls K (clsOf K "Room")
 vf_:NoAttr K (clsOf K "Room") "places"
 q2_:NoAttr K (clsOf K "Room") "rule"
 q7_:NoAttr K (clsOf K "Room") "shelves"
 q0_:NoAttr K (clsOf K "Room") "standing"
 qk_:NoAttr K (clsOf K "Room") "uses"
structure BoxAt (H:Hp) (b:Addr) (a q c:Int):Prop where
 at':H b=some (.lst [.int a,.int q,.int c])
 a0:0<=a
 q0:0<=q
 q1:q<2147483647
 c0:0<=c
theorem BoxAt.sb {H H':Hp} {b x:Addr} {a q c:Int} (B:BoxAt H b a q c) (s:SB x H H') (n:b≠x):BoxAt H' b a q c:=⟨s _ _ n B.at',B.a0,B.q0,B.q1,B.c0⟩
theorem BoxAt.same {H H':Hp} {b:Addr} {a q c:Int} (B:BoxAt H b a q c) (s:Same H H'):BoxAt H' b a q c:=⟨s _ _ B.at',B.a0,B.q0,B.q1,B.c0⟩
def ZdL:Sp:=λvs H Q _=>∃ (b:Addr) (a q c n:Int),vs=[.ref b,.int n]/\BoxAt H b a q c/\c<1099511627776/\0<n/\n<1073741824 /\
 ∀ (r a' c':Int) (H':Hp),0<=r->r<n->BoxAt H' b a' q c'->c'<=c+1->SB b H H'->Q (.int r) H'
section
theorem em0 (a:Int) {b:Int} (h:0<b):0<=a % b:=Int.emod_nonneg a (by omega)
theorem em1 (a:Int) {b:Int} (h:0<b):a % b<b:=Int.emod_lt_of_pos a h
theorem ZmI (F:Fun K "_law_take" "_law_take" Zer f fd) (T:Txt K mg):FnOk P w K mg base CX0 1 f fd Zcl ZdL:=by
 refine F.ok sc_take (λvs H Q E h=>?_) (λcdv A outer s H vs Q E hr h=>?_)
 .obtain ⟨b,a,q,c,n,rfl,_⟩:=h
  rfl
 obtain ⟨b,a,q,c,n,rfl,B,hc,hn0,hn1,k⟩:=h
 have nd:=sc_take.nd
 refine ⟨_,(Zf (ps_if (Zs op_gt (pe_ix (Zo (K:=K) rfl) (pv 0) Zi (λ_ _=>rfl)) Zi (Zv _)) (Zf (Zca (Zk Zgh rfl T.vj_ Zgk (pc (pe_ix (Zo (K:=K) rfl) (pv 0) Zi (λ_ _=>rfl)) (pc (pv 1) Zd))) (Zap (K:=K) (n:=2) rfl rfl (Zt (Zea (pv 0) Zi ZbL) (Zt (pgn 2 nd) Zan))))
   (Zj (Zu (pv 2)))) Zy)
   (Zf (Zca (pe_op Zaa (pe_ix (Zo (K:=K) rfl) (pv 0) Zi (λ_ _=>rfl)) Zi) (Zea (pv 0) Zi ZbL))
   (Zf (pst 3 nd (pe_op Zaa Zi (pe_op Zbp (pe_ix (Zo (K:=K) rfl) (pv 0) Zi (λ_ _=>rfl)) (pe_ix (Zo (K:=K) rfl) (pv 0) Zi (λ_ _=>rfl)))))
   (Zf (pst 4 nd (pe_op Zat (pe_op Zbp (pe_op Zaa (pe_ix (Zo (K:=K) rfl) (pv 0) Zi (λ_ _=>rfl)) (pe_op Zbp Zi (pe_ix (Zo (K:=K) rfl) (pv 0) Zi (λ_ _=>rfl)))) (pv 3)) Zi))
   (Zf (pst 5 nd (pe_op Zat (pe_op Zaa (pe_op Zbp (pv 4) (pe_op Zaa (pe_op Zat (pv 4) Zi) Zi)) (pe_ix (Zo (K:=K) rfl) (pv 0) Zi (λ_ _=>rfl))) Zi))
   (Zj (Zu (pe_op Zat (pe_op Zdg (pe_op Zat (pe_op Zbp (pv 5) (pe_op Zaa (pe_op Zat (pv 5) Zi) Zi)) Zi) Zi) (pv 1))))))))),?_⟩
 have hb:=B.at'
 have hc0:=B.c0
 have hq0:=B.q0
 have hq1:=B.q1
 refine ⟨_,rfl,b,_,_,_,rfl,rfl,SqL.of hb,atI0,_,_,rfl,rfl,_,rfl,?_⟩
 refine ZO (λha=>?_) (λha=>?_)
 .refine ⟨_,rfl,b,_,_,_,rfl,rfl,SqL.of hb,atI0,_,rfl,_,_,rfl,⟨hn0,hn1⟩,λp hp=>?_⟩
  have hbp:upd H p (.tup [.int (a / n),.int (a % n)]) b=some (.lst [.int a,.int q,.int c]):=by rw [Ze (Zb hb hp)]; exact hb
  refine ⟨p,_,rfl,SqT.of Za,rfl,_,_,rfl,⟨_,rfl,b,_,_,0,rfl,rfl,hbp,rfl,?_⟩⟩
  refine ⟨_,_,rfl,rfl,_,rfl,?_⟩
  exact k _ (a / n) c _ (em0 _ hn0) (em1 _ hn0) ⟨Za,Int.ediv_nonneg B.a0 (by omega),hq0,hq1,hc0⟩ (by omega) ((Zc hp _).sb b |>.trans (Zeg b _ _))
 .refine ⟨_,rfl,b,_,_,_,rfl,rfl,SqL.of hb,atI2,_,_,rfl,rfl,_,rfl,b,_,_,2,rfl,rfl,hb,rfl,?_⟩
  have hb1:upd H b (.lst [.int a,.int q,.int (c+1)]) b=some (.lst [.int a,.int q,.int (c+1)]):=Za
  have i0:SqL K (upd H b (.lst [.int a,.int q,.int (c+1)])) b [.int a,.int q,.int (c+1)]:=SqL.of hb1
  refine ⟨_,rfl,b,_,_,_,rfl,rfl,i0,atI2,_,rfl,b,_,_,_,rfl,rfl,i0,atI2,_,_,rfl,rfl,.inl ⟨by omega,by omega⟩,_,_,rfl,rfl,?_⟩
  refine ⟨_,rfl,b,_,_,_,rfl,rfl,i0,atI1,_,rfl,b,_,_,_,rfl,rfl,i0,atI2,_,_,rfl,rfl,.inl ⟨by decide,by decide⟩,_,_,rfl,rfl,_,rfl,_,_,rfl,rfl,.inl ⟨by omega,by omega⟩,_,_,rfl,rfl,(by show (0:Int)<_; decide),?_⟩
  generalize hon:(q+39373 * (c+1)) * (69621+(c+1) * (c+1)) % 2147483587=on
  have on0:0<=on:=by rw [← hon]; exact em0 _ (by decide)
  have on1:on<2147483587:=by rw [← hon]; exact em1 _ (by decide)
  refine ⟨_,rfl,_,rfl,_,_,rfl,rfl,(by show (0:Int)<_; decide),_,_,rfl,rfl,_,_,rfl,rfl,.inl ⟨by omega,by omega⟩,_,rfl,b,_,_,_,rfl,rfl,i0,atI2,_,_,rfl,rfl,_,_,rfl,rfl,(by show (0:Int)<_; decide),?_⟩
  generalize htw:(on * (on % 30011+5)+(c+1)) % 2147483563=tw
  have tw0:0<=tw:=by rw [← htw]; exact em0 _ (by decide)
  have tw1:tw<2147483563:=by rw [← htw]; exact em1 _ (by decide)
  refine ⟨_,rfl,_,rfl,_,_,rfl,rfl,(by show (0:Int)<_; decide),_,_,rfl,rfl,_,_,rfl,rfl,.inl ⟨by omega,by omega⟩,_,_,rfl,rfl,(by show (0:Int)<_; decide),_,_,rfl,rfl,⟨by decide,by decide⟩,_,rfl,_,_,rfl,rfl,hn0,?_⟩
  exact k _ a (c+1) _ (em0 _ hn0) (em1 _ hn0) ⟨hb1,B.a0,hq0,hq1,by omega⟩ (by omega) (Zeg b _ _)
end
section
def spBox (K:W.Frag):Sp:=λvs H Q _=>∃ (l:Addr) (ns:List Int) (k:Int),vs=[.ref l,.int k]/\SqL K H l (ns.map V.int)/\0<=k/\k<1000000 /\
 ∀ (r:Addr) (a q:Int) (H':Hp),H r=none->Same H H'->BoxAt H' r a q 0->Q (.ref r) H'
theorem ite01 (b:Bool) : -(2 ^ 64)<(if b then 1 else 0:Int)/\(if b then 1 else 0:Int)<2 ^ 64:=by cases b <;> decide
theorem Zhy {ns:List Int} {k:Int} (h0:0<=k) (h:k<(ns.length:Int)):∃ v:Int,atI (ns.map V.int) k=some (.int v):=by
 have hk:k.toNat<ns.length:=by omega
 have q:atI (ns.map V.int) ((k.toNat:Nat):Int)=some (.int ns[k.toNat]):=Zao (by rw [getElem?_map,getElem?_eq_getElem hk] <;> rfl)
 rw [show ((k.toNat:Nat):Int)=k by omega] at q
 exact ⟨_,q⟩
theorem ZnK (i:Int):0<=(if i<0 then -i else i):=by split <;> omega
theorem ZjD (i:Int) (b:Bool):0<=(if i<0 then -i else i) * (if b then 1 else 0:Int):=Int.mul_nonneg (ZnK i) (by cases b <;> decide)
theorem ZnL (F:Fun K "_law_box" "_law_box" s_box f fd) (T:Txt K mg):FnOk P w K mg base CX0 1 f fd P_box (spBox K):=by
 refine F.ok sc_box (λvs H Q E h=>?_) (λcdv A outer s H vs Q E hr h=>?_)
 .obtain ⟨l,ns,k,rfl,_⟩:=h
  rfl
 obtain ⟨l,ns,k,rfl,hS,hk0,hk1,kk⟩:=h
 have nd:=sc_box.nd
 refine ⟨_,(Zf (pst 2 nd (ZaC (Zs op_lt (pv 1) (Zk (Zl (K:=K) rfl) rfl T.qf_ PySem.boot_len (pc (pv 0) Zd)) (Zv _)) (pe_ix (Zo (K:=K) rfl) (pv 0) (pv 1) (λ_ _=>rfl)) Zi))
   (Zj (Zu (Zz (pc (pe_op Zbp (Zk ZgV rfl T.vt_ Zhg (pc (pv 2) Zd)) (Zaw Zdh rfl T.q9_ ZbE (pc (Zbb op_ge (Zk ZgV rfl T.vt_ Zhg (pc (pv 2) Zd)) (pe_op Zne Zi Zi) (Zv _)) Zd))) (pc (pe_op Zat (pe_op Zbp (pe_op Zaa (pe_op Zaa (pe_op Zat (pv 2) Zi) (pe_op Zbp Zi (pv 1))) Zi) Zi) Zi) (pc Zi Zd))))))),?_⟩
 refine ⟨_,rfl,_,rfl,l,_,rfl,.inl hS,_,_,rfl,rfl,_,rfl,?_⟩
 refine ZO (λc=>?_) (λc=>?_)
 .rw [length_map] at c
  obtain ⟨v,hv⟩:=Zhy hk0 c
  refine ⟨_,rfl,_,rfl,l,_,_,_,rfl,rfl,hS,hv,?_⟩
  refine ⟨_,rfl,_,rfl,_,rfl,_,rfl,_,_,rfl,rfl,⟨by decide,by decide,by decide⟩,_,_,rfl,rfl,.inr ⟨_,rfl,_,_,rfl,rfl,.inr (ite01 _),?_⟩⟩
  refine ⟨_,rfl,_,_,rfl,rfl,(by show (0:Int)<_; decide),_,rfl,_,_,rfl,rfl,.inl ⟨by decide,by decide⟩,_,_,rfl,rfl,_,_,rfl,rfl,_,_,rfl,rfl,.inr ⟨by decide,by decide⟩,_,_,rfl,rfl,(by show (0:Int)<_; decide),(sl 3),λr hr=>?_⟩
  exact kk r _ _ _ hr (Zc hr _) ⟨Za,ZjD _ _,em0 _ (by decide),em1 _ (by decide),Int.le_refl _⟩
 .refine ⟨_,rfl,_,rfl,_,rfl,_,rfl,_,_,rfl,rfl,⟨by decide,by decide,by decide⟩,_,_,rfl,rfl,.inr ⟨_,rfl,_,_,rfl,rfl,.inr (ite01 _),?_⟩⟩
  refine ⟨_,rfl,_,_,rfl,rfl,(by show (0:Int)<_; decide),_,rfl,_,_,rfl,rfl,.inl ⟨by decide,by decide⟩,_,_,rfl,rfl,_,_,rfl,rfl,_,_,rfl,rfl,.inr ⟨by decide,by decide⟩,_,_,rfl,rfl,(by show (0:Int)<_; decide),(sl 3),λr hr=>?_⟩
  exact kk r _ _ _ hr (Zc hr _) ⟨Za,ZjD _ _,em0 _ (by decide),em1 _ (by decide),Int.le_refl _⟩
def ZeQ (K:W.Frag):Sp:=λvs H Q _=>∃ (a:Addr) (ns:List Int) (n:Nat),vs=[.ref a,.int (n:Int)]/\SqL K H a (ns.map V.int)/\ns.length<=63/\0<n/\n<=63 /\
 ∀ (r:Addr) (ms:List Int) (H':Hp),H r=none->Same H H'->H' r=some (.lst (ms.map V.int))->ms.length=min n ns.length->Q (.ref r) H'
theorem ZjE (ns:List Int) (lo hi:Option Int):cutV (ns.map V.int) lo hi=((ns.drop (HT.sIx ns.length 0 lo)).take (HT.sIx ns.length ns.length hi - HT.sIx ns.length 0 lo)).map V.int:=by
 unfold cutV
 rw [length_map,← List.map_drop,← List.map_take]
theorem ZcY (ms:List Int) (j:Nat) (v:Int):(ms.map V.int).set j (.int v)=(ms.set j v).map V.int:=by rw [List.map_set]
theorem ZjF {n:Nat} {i:Int} (h0:0<=i) (h:i<n):ixN n i=some i.toNat:=by unfold ixN; rw [if_pos h0,if_pos h]
theorem ZnM {ms:List Int} {i:Nat} {x:V} (h:(ms.map V.int)[i]?=some x):∃ z,x=V.int z/\i<ms.length:=by
 rw [getElem?_map] at h
 cases e:ms[i]? with
 | none=>rw [e] at h; cases h
 | some z=>rw [e] at h; exact ⟨z,(Option.some.inj h).symm,(List.getElem?_eq_some_iff.mp e).1⟩
theorem ZjG (F:Fun K "_law_folded" "_law_folded" ZbO f fd) (T:Txt K mg):FnOk P w K mg base CX0 1 f fd Zcm (ZeQ K):=by
 refine F.ok sc_folded (λvs H Q E h=>?_) (λcdv A outer s H vs Q E hr h=>?_)
 .obtain ⟨a,ns,n,rfl,_⟩:=h
  rfl
 obtain ⟨a,ns,n,rfl,hS,h63,hn0,hn1,k⟩:=h
 have nd:=sc_folded.nd
 refine ⟨_,(Zf (pst 2 nd (Zaw (Zbz (K:=K) rfl) rfl T.qo_ Zau (pc (ZgY (Zhh (K:=K) rfl) (pv 0) Zdk (Zdl (pv 1))) Zd)))
   (Zf (Zba PassesOwn.never rfl (ZeA rfl T.qj_ (pc (ZgY (Zhh (K:=K) rfl) (pv 0) (Zdl (pv 1)) (Zdl Zi)) Zd)) (Zap (K:=K) (n:=2) rfl rfl (Zt (pgn 3 nd) (Zt (pgn 4 nd) Zan))) (Zj (Zca (pe_op Zaa (pe_ix (Zo (K:=K) rfl) (pv 2) (pe_op Zat (pv 3) (pv 1)) (λ_ _=>rfl)) (pe_op Zbp (pv 4) (pe_op Zaa (pv 3) Zi))) (Zea (pv 2) (pe_op Zat (pv 3) (pv 1)) ZbL))))
   (Zj (Zu (pv 2))))),?_⟩
 refine ⟨_,rfl,_,rfl,_,rfl,a,_,rfl,hS,λp hp=>?_⟩
 have s1:=Zc hp (.lst (cutV (ns.map V.int) none (some (n:Int))))
 refine ⟨p,_,rfl,.inl (SqL.of Za),λr hr1=>?_⟩
 have s2:=s1.trans (Zc hr1 (.lst (cutV (ns.map V.int) none (some (n:Int)))))
 have hrH:H r=none:=s1.free hr1
 rw [ZjE] at *
 generalize hms:(ns.drop (HT.sIx ns.length 0 none)).take (HT.sIx ns.length ns.length (some (n:Int)) - HT.sIx ns.length 0 none)=ms at *
 have lms:ms.length=min n ns.length:=by
  rw [← hms,HT.sIx_none,HT.sIx_nat,length_take,length_drop]; omega
 generalize hH2:upd (upd H p (.lst (ms.map V.int))) r (.lst (ms.map V.int))=H2 at *
 have h2r:H2 r=some (.lst (ms.map V.int)):=by rw [← hH2]; exact Za
 refine ⟨_,rfl,_,rfl,_,rfl,_,rfl,a,_,rfl,s2.seq hS,λt ht=>?_⟩
 rw [ZjE]
 generalize hws:(ns.drop (HT.sIx ns.length 0 (some (n:Int)))).take (HT.sIx ns.length ns.length (some 63) - HT.sIx ns.length 0 (some (n:Int)))=ws
 have lws:0<ws.length->n<ns.length:=λh=>by
  rw [← hws,length_take,length_drop,HT.sIx_nat] at h; omega
 have lw63:ws.length<=63:=by rw [← hws,length_take,length_drop]; omega
 have s3:=s2.trans (Zc ht (.lst (ws.map V.int)))
 have nrt:r≠t:=Zb h2r ht
 refine ⟨t,rfl,⟨_,SqL.of Za⟩,ZeD (K:=K) (a:=t) (xs:=ws.map V.int) (λi σ H'=>∃ (ms':List Int) (v3 v4:Option V),σ=[some (.ref a),some (.int n),some (.ref r),v3,v4]/\ms'.length=min n ns.length/\H' r=some (.lst (ms'.map V.int))/\H' t=some (.lst (ws.map V.int))/\Same H H')
  ⟨ms,none,none,rfl,lms,by rw [Ze nrt]; exact h2r,Za,s3⟩ (λi σ H' _ ⟨_,_,_,_,_,_,q,_⟩=>SqL.of q) ?_ ?_⟩
 .rintro i x u σ H' hi ⟨ms',v3,v4,rfl,lm,h1,h2,s4⟩ hu
  obtain ⟨z,rfl,hlt⟩:=ZnM hi
  have hnl:=lws (by omega)
  have s5:=Zc hu (.tup [.int (i:Int),.int z])
  refine ⟨u,_,rfl,SqT.of Za,rfl,_,_,rfl,_,_,rfl,rfl,?_⟩
  have m0:0<=(i:Int) % (n:Int):=em0 _ (by omega)
  have m1:(i:Int) % (n:Int)<(n:Int):=em1 _ (by omega)
  obtain ⟨v,hv⟩:=Zhy (ns:=ms') m0 (by omega)
  refine ⟨_,rfl,_,rfl,_,rfl,_,_,rfl,rfl,(by show (0:Int)<_; omega),r,_,_,_,rfl,rfl,SqL.of (s5 _ _ h1),hv,?_⟩
  refine ⟨_,rfl,_,rfl,_,_,rfl,rfl,_,_,rfl,rfl,.inr ⟨by omega,by omega⟩,_,_,rfl,rfl,?_⟩
  refine ⟨_,rfl,_,rfl,_,rfl,_,_,rfl,rfl,(by show (0:Int)<_; omega),r,_,_,((i:Int) % (n:Int)).toNat,rfl,rfl,s5 _ _ h1,ZjF m0 (by rw [length_map]; omega),?_⟩
  refine ⟨ms'.set ((i:Int) % (n:Int)).toNat (v+z * ((i:Int)+2)),_,_,rfl,by rw [length_set]; exact lm,by rw [Za,ZcY],?_,?_⟩
  .rw [Ze (Ne.symm nrt)]; exact s5 _ _ h2
  .intro b o e
   rw [Ze (Zb e hrH)]
   exact s5 _ _ (s4 _ _ e)
 .rintro σ H' ⟨ms',v3,v4,rfl,lm,h1,h2,s4⟩
  exact ⟨_,rfl,k r ms' H' hrH s4 h1 lm⟩
end
theorem hide {t u:TS} {D:Ends} {σ:St} {H:Hp} (h:∀ u',u'=u->tSeq t u' D σ H):tSeq t u D σ H:=h u rfl
theorem cpE {te:TE} {σ:St} {H:Hp} {Q:VK} (Post:V->Hp->Prop) (h1:∀ Q':VK,(∀ v H1,Post v H1->Q' v H1)->te σ H Q') (h2:∀ v H1,Post v H1->Q v H1):te σ H Q:=h1 Q h2
theorem cpA {te:TE} {g:TG} {u:TS} {D:Ends} {σ:St} {H:Hp} (Post:V->Hp->Prop) (h1:∀ Q':VK,(∀ v H1,Post v H1->Q' v H1)->te σ H Q') (h2:∀ v H1,Post v H1->g v σ H1 (u D)):tSeq (tAsg te g) u D σ H:=h1 _ h2
theorem cpI {ts u:TS} {D:Ends} {σ:St} {H:Hp} (Post:St->Hp->Prop) (h1:∀ D':Ends,D'.rt=D.rt->(∀ σ1 H1,Post σ1 H1->D'.nx σ1 H1)->ts D' σ H) (h2:∀ σ1 H1,Post σ1 H1->u D σ1 H1):tSeq ts u D σ H:=h1 _ rfl h2
theorem cpIf {tt:TT} {ta tb:TE} {σ:St} {H:Hp} {Q:VK} (Post:Bool->Hp->Prop) (h1:∀ Q':Bool->Hp->Prop,(∀ v H1,Post v H1->Q' v H1)->tt σ H Q') (h2:∀ c H1,Post c H1->if c=true then ta σ H1 Q else tb σ H1 Q):tIf tt ta tb σ H Q:=h1 _ h2
theorem cpIfS {tt:TT} {ta tb:TS} {D:Ends} {σ:St} {H:Hp} (Post:Bool->Hp->Prop) (h1:∀ Q':Bool->Hp->Prop,(∀ v H1,Post v H1->Q' v H1)->tt σ H Q') (h2:∀ c H1,Post c H1->if c=true then ta D σ H1 else tb D σ H1):tIfS tt ta tb D σ H:=h1 _ h2
theorem cpOr {t u:TT} {σ:St} {H:Hp} {Q:Bool->Hp->Prop} (Post:Bool->Hp->Prop) (h1:∀ Q':Bool->Hp->Prop,(∀ v H1,Post v H1->Q' v H1)->t σ H Q') (h2:∀ c H1,Post c H1->if c=true then Q true H1 else u σ H1 Q):tOr t u σ H Q:=h1 _ h2
theorem ZcZ {b l:Addr} {H G:Hp} {xs:List V} (s:SB b H G) (hb:G b=some (.lst xs)) (hl:G l=none):H l=none:=by
 cases e:H l with
 | none=>rfl
 | some o =>
  by_cases h:l=b
  .rw [h,hb] at hl; cases hl
  .rw [s _ _ h e] at hl; cases hl
theorem ZdM {ns:List Int} {k:Int} (h0:0<=k) (h:k<(ns.length:Int)):∃ v:Int,atI (ns.map V.int) k=some (.int v)/\v∈ns:=by
 have hk:k.toNat<ns.length:=by omega
 have q:atI (ns.map V.int) ((k.toNat:Nat):Int)=some (.int ns[k.toNat]):=Zao (by rw [getElem?_map,getElem?_eq_getElem hk] <;> rfl)
 rw [show ((k.toNat:Nat):Int)=k by omega] at q
 exact ⟨_,q,getElem_mem hk⟩
theorem Zbm (ns:List Int):(ns.map V.int).all flatV=true:=by
 rw [all_eq_true]
 intro x hx
 obtain ⟨n,_,rfl⟩:=List.mem_map.mp hx
 rfl
theorem Zlj {n:Nat} (h:0<n):ixN n (-1)=some (n - 1):=by
 unfold ixN
 rw [if_neg (by decide),if_pos (by omega)]
 congr 1
 omega
theorem Zgx {ns:List Int} {j:Nat} {v x:Int} (h:x∈ns.set j v):x∈ns\/x=v:=by
 rcases List.mem_or_eq_of_mem_set h with h | h
 .exact .inl h
 .exact .inr h
theorem ifF {b:Bool} {A B:Prop} (h:b=false) (hB:B):if b=true then A else B:=by subst h; rw [if_neg Bool.false_ne_true]; exact hB
theorem ifT {b:Bool} {A B:Prop} (h:b=true) (hA:A):if b=true then A else B:=by subst h; rw [if_pos rfl]; exact hA
theorem Zda {α:Type} {xs:List α} {i:Int} (h0:0<=i) (h1:i<(xs.length:Int)):∃ v,atI xs i=some v/\v∈xs:=by
 have hk:i.toNat<xs.length:=by omega
 have q:atI xs ((i.toNat:Nat):Int)=some xs[i.toNat]:=Zao (getElem?_eq_getElem hk)
 rw [show ((i.toNat:Nat):Int)=i by omega] at q
 exact ⟨_,q,getElem_mem hk⟩
theorem ZnN (x y:Int) (k:Bool):∃ n:Int,atI [V.int x,V.int y] (if k=true then 1 else 0)=some (.int n)/\(n=x\/n=y):=by
 cases k with
 | true=>exact ⟨y,atI1,.inr rfl⟩
 | false=>exact ⟨x,atI0,.inl rfl⟩
theorem pick2 (x y r:Int) (h0:0<=r) (h1:r<2):∃ n:Int,atI [V.int x,V.int y] r=some (.int n)/\(n=x\/n=y):=by
 have h:r=0\/r=1:=by omega
 rcases h with rfl | rfl
 .exact ⟨x,atI0,.inl rfl⟩
 .exact ⟨y,atI1,.inr rfl⟩
theorem ZnO (r:Int) (h0:0<=r) (h1:r<4):∃ n:Int,atI [V.int 1,V.int 1,V.int 12,V.int 24] r=some (.int n)/\(n=1\/n=12\/n=24):=by
 obtain ⟨x,hx,m⟩:=Zda (xs:=[V.int 1,V.int 1,V.int 12,V.int 24]) h0 (by show r<((4:Nat):Int); omega)
 simp only [mem_cons,not_mem_nil,or_false] at m
 rcases m with rfl | rfl | rfl | rfl
 .exact ⟨_,hx,.inl rfl⟩
 .exact ⟨_,hx,.inl rfl⟩
 .exact ⟨_,hx,.inr (.inl rfl)⟩
 .exact ⟨_,hx,.inr (.inr rfl)⟩
theorem pick5 (r:Int) (h0:0<=r) (h1:r<5):∃ v,atI [V.int 1,V.int 1,V.int 2,V.int 3,V.int 4] r=some (.int v)/\1<=v/\v<=64:=by
 obtain ⟨x,hx,m⟩:=Zda (xs:=[V.int 1,V.int 1,V.int 2,V.int 3,V.int 4]) h0 (by show r<((5:Nat):Int); omega)
 simp only [mem_cons,not_mem_nil,or_false] at m
 rcases m with rfl | rfl | rfl | rfl | rfl <;> exact ⟨_,hx,by decide,by decide⟩
def Rule (z:Str):Prop:=z = "old" \/ z = "come" \/ z = "few"
theorem pickR (r:Int) (h0:0<=r) (h1:r<3):∃ z:Str,atI [V.str "old",V.str "come",V.str "few"] r=some (.str z)/\Rule z:=by
 obtain ⟨x,hx,m⟩:=Zda (xs:=[V.str "old",V.str "come",V.str "few"]) h0 (by show r<((3:Nat):Int); omega)
 simp only [mem_cons,not_mem_nil,or_false] at m
 rcases m with rfl | rfl | rfl
 .exact ⟨_,hx,.inl rfl⟩
 .exact ⟨_,hx,.inr (.inl rfl)⟩
 .exact ⟨_,hx,.inr (.inr rfl)⟩
theorem ZjH {s:Int} (h0:1<=s) (h1:s<=16):555<=9999 / s/\9999 / s<=9999/\1<=(if 10000 / s - 480 > 1 then 10000 / s - 480 else 1)/\(if 10000 / s - 480 > 1 then 10000 / s - 480 else 1)+455<=9999 / s:=by
 have key:∀ n:Fin 17,1<=(n.val:Int)->(555<=9999 / (n.val:Int)/\9999 / (n.val:Int)<=9999/\1<=(if 10000 / (n.val:Int) - 480 > 1 then 10000 / (n.val:Int) - 480 else 1)/\(if 10000 / (n.val:Int) - 480 > 1 then 10000 / (n.val:Int) - 480 else 1)+455<=9999 / (n.val:Int)):=by decide +kernel
 have e:((⟨s.toNat,by omega⟩:Fin 17).val:Int)=s:=by show ((s.toNat:Nat):Int)=s; omega
 have q:=key ⟨s.toNat,by omega⟩ (by rw [e]; exact h0)
 rw [e] at q
 exact q
def Bds (t:Int) (ns:List Int):Prop:=∀ n∈ns,0<=n/\n<=t
section
def ZeR:Sp:=λvs H Q _=>∃ (b:Addr) (a q c s:Int),vs=[.ref b,.int s]/\BoxAt H b a q c/\c<500000000/\1<=s/\s<=16 /\
 ∀ (l:Addr) (ns:List Int) (a' c':Int) (H':Hp),H l=none->H' l=some (.lst (ns.map V.int))->3<=ns.length->ns.length<=20->Bds (9999 / s) ns->BoxAt H' b a' q c'->c'<=c+40->SB b H H'->Q (.ref l) H'
theorem ZdU (F:Fun K "_law_some_boards" "_law_some_boards" ZV f fd) (T:Txt K mg) (qb_:Def P w K mg base "_law_take" 1 Zcl ZdL):FnOk P w K mg base CX0 2 f fd ZaH ZeR:=by
 refine F.ok sc_some_boards (λvs H Q E h=>?_) (λcdv A outer st H vs Q E hr h=>?_)
 .obtain ⟨b,a,q,c,s,rfl,_⟩:=h
  rfl
 obtain ⟨b,a,q,c,s,rfl,B,hc,hs0,hs1,k⟩:=h
 have nd:=sc_some_boards.nd
 obtain ⟨top0,top1,m0,m1⟩:=ZjH hs0 hs1
 refine ⟨_,(Zf (pst 2 nd (pe_op Zaa Zi (Zm qb_ hr.m rfl (pc (pv 0) (pc (pe_ix (Zo (K:=K) rfl) (Zz (pc Zi (pc Zi Zd))) (Zaw Zdh rfl T.q9_ ZbE (pc (Zbb op_eq (Zm qb_ hr.m rfl (pc (pv 0) (pc Zi Zd))) Zi (Zv _)) Zd)) (λ_ _=>rfl)) Zd)))))
   (Zf (Zca (ZbC (pc (Zm qb_ hr.m rfl (pc (pv 0) (pc Zi Zd))) (pc (Zm qb_ hr.m rfl (pc (pv 0) (pc Zi Zd))) Zd))) (Zap (K:=K) (n:=2) rfl rfl (Zt (pgn 3 nd) (Zt (pgn 4 nd) Zan))))
   (Zf (pst 5 nd (ZaC (Zs op_lt (pv 4) Zi (Zv _)) (pv 4) (Zm qb_ hr.m rfl (pc (pv 0) (pc (pe_ix (Zo (K:=K) rfl) (Zz (pc Zi (pc (Zk (Zfh rfl) rfl T.vn_ ZeB (pc Zi (pc (pe_op Zbo (pe_op Zdg Zi (pv 1)) Zi) Zd))) Zd))) (pe_op Zbo (pv 4) Zi) (λ_ _=>rfl)) Zd)))))
   (Zf (ZcQ 6 (Zw (osc:=(Zg ZV)) (oN:=Zcn) (N:=["_law_k", "_law_first", "_law_way"]) (own:=1) (js:=[5,3]) (by decide +kernel) rfl rfl) rfl nd rfl rfl (ZW rfl T.qh_ (pc (pv 2) Zd)) (λ_ _ _ _ _ _=>(pgn 0 (show List.Nodup (["_law_k", "_law_first", "_law_way"]:List Str) by decide +kernel))) (λ_ _ _ _ _ _=>(pe_op Zaa (pv 1) (pe_op Zbp (pe_ix (Zo (K:=K) rfl) (Zz (pc Zi (pc Zi (pc Zi (pc Zi Zd))))) (pv 2) (λ_ _=>rfl)) (pv 0)))))
   (Zf (pst 7 nd (ZaC (Zs op_eq (Zm qb_ hr.m rfl (pc (pv 0) (pc Zi Zd))) Zi (Zv _)) (pe_op Zdg Zi (pv 1)) (Zm qb_ hr.m rfl (pc (pv 0) (pc (pe_op Zaa Zi (pe_op Zdg Zi (pv 1))) Zd)))))
   (Zf (ps_if (PW.pt (pw_or (PW.pt (Zde (Zs op_eq (pv 3) Zi (Zv _)) (ZbU (Zs (ZaE (K:=K) rfl) (pv 7) (pv 6) rfl)))) (ZcF (PW.pt (Zde (Zs op_eq (pv 7) (pe_op Zdg Zi (pv 1)) (Zv _)) (ZbU (Zs (ZaE (K:=K) rfl) (pv 7) (pv 6) rfl))))))) (Zj (Zca (pv 7) (Zea (pv 6) (pe_un ZbD Zi) ZbL))) Zy)
   (Zf (Zba PassesOwn.never rfl (ZW rfl T.qh_ (pc (pe_op Zbo (pv 2) Zi) Zd)) (pgn 8 nd) (Zf (pst 9 nd (pe_op Zaa (pv 8) (Zm qb_ hr.m rfl (pc (pv 0) (pc (pe_op Zbo (pv 2) (pv 8)) Zd)))))
   (Zj (Zca (ZbC (pc (pe_ix (Zo (K:=K) rfl) (pv 6) (pv 9) (λ_ _=>rfl)) (pc (pe_ix (Zo (K:=K) rfl) (pv 6) (pv 8) (λ_ _=>rfl)) Zd))) (Zap (K:=K) (n:=2) rfl rfl (Zt (Zea (pv 6) (pv 8) ZbL) (Zt (Zea (pv 6) (pv 9) ZbL) Zan)))))))
   (Zj (Zu (pv 6)))))))))),?_⟩
 generalize hm:(if 10000 / s - 480 > 1 then 10000 / s - 480 else 1)=m at m0 m1
 generalize ht:(9999:Int) / s=top at *
 refine hide λuu ee=>?_
 refine ⟨_,rfl,(sl 2),λp1 hp1=>⟨_,rfl,b,a,q,c,6,rfl,B.same (Zc hp1 _),by omega,by decide,by decide,λr1 a1 c1 H1 r10 r11 B1 hc1 s1=>⟨rfl,.inr ⟨_,rfl,?_⟩⟩⟩⟩
 have q1:b≠p1:=Zb B.at' hp1
 obtain ⟨n,hn,hn'⟩:=ZnN 5 18 (decide (V.int r1=V.int 0))
 refine ⟨p1,_,_,_,rfl,rfl,SqL.of (s1 _ _ (Ne.symm q1) Za),hn,b,a1,q,c1,n,rfl,B1,by omega,by omega,by omega,λr2 a2 c2 H2 r20 r21 B2 hc2 s2=>⟨_,_,rfl,rfl,?_⟩⟩
 have mn0:3<=3+r2:=by omega
 have mn1:3+r2<=20:=by omega
 have u2:SB b H H2:=(((Zc hp1 _).sb b).trans s1).trans s2
 dsimp only [gName]
 subst ee
 try dsimp only
 refine hide λuu ee=>?_
 refine ⟨_,rfl,b,a2,q,c2,4,rfl,B2,by omega,by decide,by decide,λr3 a3 c3 H3 r30 r31 B3 hc3 s3=>?_⟩
 refine ⟨_,rfl,b,a3,q,c3,4,rfl,B3,by omega,by decide,by decide,λr4 a4 c4 H4' r40 r41 B4' hc4 s4=>⟨(sl 2),λp4 hp4=>⟨p4,_,rfl,SqT.of Za,rfl,_,_,rfl,_,_,rfl,rfl,?_⟩⟩⟩
 have B4:=B4'.same (Zc hp4 (.tup [.int r3,.int r4]))
 have u4:SB b H (upd H4' p4 (.tup [.int r3,.int r4])):=((u2.trans s3).trans s4).trans ((Zc hp4 _).sb b)
 generalize upd H4' p4 (.tup [.int r3,.int r4])=H4 at *
 subst ee
 try dsimp only
 refine cpA (λv G=>∃ z a' c',v=.int z/\0<=z/\z+456<=top/\BoxAt G b a' q c'/\c'<=c4+1/\SB b H G) (λQ' k'=>?_) ?_
 .refine ⟨_,rfl,_,_,rfl,rfl,_,rfl,ZO (λc2'=>⟨_,rfl,k' _ _ ⟨_,a4,c4,rfl,r40,by omega,B4,by omega,u4⟩⟩) (λc2'=>?_)⟩
  refine ⟨_,rfl,_,rfl,_,_,rfl,rfl,⟨by omega,by omega⟩,_,_,rfl,rfl,_,_,rfl,(sl 2),λp2 hp2=>?_⟩
  have q2:b≠p2:=Zb B4.at' hp2
  rw [hm]
  obtain ⟨n2,hn2,hn2'⟩:=pick2 100 m (r4 - 2) (by omega) (by omega)
  refine ⟨_,rfl,_,_,rfl,rfl,p2,_,_,_,rfl,rfl,SqL.of Za,hn2,b,a4,q,c4,n2,rfl,B4.same (Zc hp2 _),by omega,by omega,by omega,λr5 a5 c5 H5 r50 r51 B5 hc5 s5=>?_⟩
  exact k' _ _ ⟨r5,a5,c5,rfl,r50,by omega,B5,by omega,u4.trans (((Zc hp2 _).sb b).trans s5)⟩
 rintro _ H5 ⟨z,a5,c5,rfl,z0,z1,B5,hc5,u5⟩
 dsimp only [gName]
 refine hide λuu ee=>?_
 refine ⟨_,rfl,_,rfl,by omega,by omega,λl hl=>?_⟩
 have hlH:H l=none:=ZcZ u5 B5.at' hl
 have nlb:l≠b:=Ne.symm (Zb B5.at' hl)
 have hmn:(3+r2).toNat<=20:=by omega
 refine Zav (lo:=0) (n:=(3+r2).toNat) (l:=l) (λj ys σ G=>∃ (v0:Option V) (ns:List Int),σ=[v0,some (.int z),some (.int r3)]/\ys=ns.map V.int/\ns.length=j/\Bds top ns/\G l=some (.lst ys)/\Same H5 G)
  ⟨none,[],rfl,rfl,rfl,λn hn=>(nomatch hn),Za,Zc hl _⟩ ?_ ?_
 .rintro j ys σ G hj hy ⟨v0,ns,rfl,rfl,hj',hb',h1,h2⟩
  refine ⟨_,rfl,(sl 4),λp hp=>?_⟩
  obtain ⟨n4,hn4,hn4'⟩:=ZnO r3 r30 r31
  have np:l≠p:=Zb h1 hp
  have j20:(j:Int)<=19:=by omega
  refine ⟨_,rfl,p,_,_,_,rfl,rfl,SqL.of Za,hn4,_,rfl,_,_,rfl,rfl,.inl ⟨by omega,by omega⟩,_,_,rfl,rfl,CNx.of (Nat.le_trans hmn (by decide)) hj hy (by rw [Ze np]; exact h1) ⟨_,ns++[z+n4 * (0+(j:Int))],rfl,by rw [map_append]; rfl,by rw [length_append,hj']; rfl,λx hx=>?_,Za,λe o y=>?_⟩⟩
  .rcases List.mem_append.mp hx with h | h
   .exact hb' x h
   .have ex:x=z+n4 * (0+(j:Int)):=by simpa using h
    subst ex
    rcases hn4' with rfl | rfl | rfl
    .exact ⟨by omega,by omega⟩
    .exact ⟨by omega,by omega⟩
    .exact ⟨by omega,by omega⟩
  .rw [Ze (Zb y hl)]
   exact Zc hp _ _ _ (h2 _ _ y)
 rintro ys σ G hy ⟨v0,ns,rfl,rfl,hj',hb',h1,h2⟩
 have B6:=B5.same h2
 have u6:SB b H G:=u5.trans (h2.sb b)
 have ln3:3<=ns.length:=by omega
 have ln20:ns.length<=20:=by omega
 dsimp only [gName]
 subst ee
 try dsimp only
 refine cpA (λv G'=>∃ z a' c',v=.int z/\0<=z/\z<=top/\BoxAt G' b a' q c'/\c'<=c5+2/\SB b G G') (λQ' k'=>?_) ?_
 .refine ⟨_,rfl,b,a5,q,c5,5,rfl,B6,by omega,by decide,by decide,λr7 a7 c7 H7 r70 r71 B7 hc7 s7=>⟨rfl,_,rfl,ZO (λ_=>?_) (λ_=>?_)⟩⟩
  .refine ⟨_,rfl,_,_,rfl,rfl,⟨by omega,by omega⟩,?_⟩
   exact k' _ _ ⟨_,a7,c7,rfl,by rw [ht]; omega,by rw [ht]; omega,B7,by omega,s7⟩
  .refine ⟨_,rfl,_,rfl,_,_,rfl,rfl,⟨by omega,by omega⟩,_,_,rfl,rfl,b,a7,q,c7,_,rfl,B7,by omega,by rw [ht]; omega,by rw [ht]; omega,λr8 a8 c8 H8 r80 r81 B8 hc8 s8=>?_⟩
   exact k' _ _ ⟨_,a8,c8,rfl,r80,by rw [ht] at r81; omega,B8,by omega,s7.trans s8⟩
 rintro _ H7 ⟨fr,a7,c7,rfl,fr0,fr1,B7,hc7,s7⟩
 have h7:=s7 _ _ nlb h1
 have u7:SB b H H7:=u6.trans s7
 refine cpI (λσ G'=>∃ ns':List Int,σ=[some (.ref b),some (.int s),some (.int (3+r2)),some (.int r3),some (.int r4),some (.int z),some (.ref l),some (.int fr),none,none]/\G' l=some (.lst (ns'.map V.int))/\ns'.length=ns.length/\Bds top ns'/\BoxAt G' b a7 q c7/\SB b H G') (λD' _ k'=>?_) ?_
 .refine cpIfS (λ_ G'=>G'=H7) (λQ' k''=>?_) ?_
  .refine cpOr (λ_ G'=>G'=H7) (λQ'' k3=>?_) ?_
   .exact ⟨_,rfl,rfl,_,rfl,ZO (λ_=>⟨_,rfl,_,rfl,l,_,rfl,.inl (SqL.of h7),rfl,Zbm _,_,rfl,k3 _ _ rfl⟩) (λ_=>k3 _ _ rfl)⟩
   .rintro cb _ rfl
    cases cb with
    | true=>exact ifT rfl (k'' _ _ rfl)
    | false=>exact ifF rfl ⟨_,rfl,_,rfl,_,_,rfl,rfl,⟨by omega,by omega⟩,rfl,_,rfl,ZO (λ_=>⟨_,rfl,_,rfl,l,_,rfl,.inl (SqL.of h7),rfl,Zbm _,_,rfl,k'' _ _ rfl⟩) (λ_=>k'' _ _ rfl)⟩
  .rintro cb _ rfl
   cases cb with
   | false=>exact ifF rfl (k' _ _ ⟨ns,rfl,h7,rfl,hb',B7,u7⟩)
   | true =>
    refine ifT rfl ⟨_,rfl,_,rfl,_,rfl,l,_,_,_,rfl,rfl,h7,Zlj (by rw [length_map]; omega),k' _ _ ⟨ns.set (ns.length - 1) fr,rfl,?_,length_set,λx hx=>?_,B7.sb (Zeg l _ _) (Ne.symm nlb),λe o n' y=>?_⟩⟩
    .rw [Za,length_map,ZcY]
    .rcases Zgx hx with h | h
     .exact hb' x h
     .subst h; exact ⟨fr0,fr1⟩
    .rw [Ze (Zb y hlH)]; exact u7 _ _ n' y
 rintro _ H8 ⟨ns8,rfl,h8,l8,b8,B8,u8⟩
 refine ⟨_,rfl,_,_,rfl,rfl,_,rfl,by omega,by omega,Zcb (lo:=0) (n:=(3+r2 - 1).toNat) (λj σ G'=>∃ (ns':List Int) (v8 v9:Option V) (a' c':Int),σ=[some (.ref b),some (.int s),some (.int (3+r2)),some (.int r3),some (.int r4),some (.int z),some (.ref l),some (.int fr),v8,v9]/\G' l=some (.lst (ns'.map V.int))/\ns'.length=ns.length/\Bds top ns'/\BoxAt G' b a' q c'/\c'<=c7+(j:Int)/\SB b H G')
  ⟨ns8,_,_,a7,c7,rfl,h8,l8,b8,B8,by omega,u8⟩ ?_ ?_⟩
 .rintro j σ G' hj ⟨ns',v8,v9,a',c',rfl,h1',l',b',B',hc',u'⟩
  have j20:(j:Int)<=18:=by omega
  have jl:(j:Int)+1<3+r2:=by omega
  refine ⟨_,rfl,_,rfl,_,rfl,_,rfl,_,_,rfl,rfl,b,a',q,c',_,rfl,B',by omega,by omega,by omega,λr9 a9 c9 H9 r90 r91 B9 hc9 s9=>⟨_,_,rfl,rfl,?_⟩⟩
  have h9:=s9 _ _ nlb h1'
  obtain ⟨x1,hx1,mx1⟩:=ZdM (ns:=ns') (k:=0+(j:Int)+r9) (by omega) (by omega)
  obtain ⟨x2,hx2,mx2⟩:=ZdM (ns:=ns') (k:=0+(j:Int)) (by omega) (by omega)
  refine ⟨_,rfl,_,rfl,l,_,_,_,rfl,rfl,SqL.of h9,hx1,_,rfl,_,rfl,l,_,_,_,rfl,rfl,SqL.of h9,hx2,(sl 2),λt ht'=>?_⟩
  have nlt:l≠t:=Zb h9 ht'
  refine ⟨t,_,rfl,SqT.of Za,rfl,_,_,rfl,_,rfl,_,rfl,l,_,_,_,rfl,rfl,(by rw [Ze nlt]; exact h9),ZjF (by omega) (by rw [length_map]; omega),?_⟩
  refine ⟨_,_,rfl,_,rfl,_,rfl,l,_,_,_,rfl,rfl,Za,ZjF (by omega) (by rw [length_set,length_map]; omega),rfl,?_⟩
  refine ⟨(ns'.set (0+(j:Int)).toNat x1).set (0+(j:Int)+r9).toNat x2,_,_,a9,c9,rfl,by rw [Za,ZcY,ZcY],by rw [length_set,length_set]; exact l',λx hx=>?_,?_,by omega,λe o n' y=>?_⟩
  .rcases Zgx hx with h | h
   .rcases Zgx h with h | h
    .exact b' x h
    .subst h; exact b' _ mx1
   .subst h; exact b' _ mx2
  .exact ((B9.same (Zc ht' _)).sb (Zeg l _ _) (Ne.symm nlb)).sb (Zeg l _ _) (Ne.symm nlb)
  .have ne:e≠l:=Zb y hlH
   rw [Ze ne,Ze ne]
   exact Zc ht' _ _ _ (s9 _ _ n' (u' _ _ n' y))
 .rintro σ G' ⟨ns',v8,v9,a',c',rfl,h1',l',b',B',hc',u'⟩
  exact ⟨_,rfl,k l ns' a' c' G' hlH h1' (by omega) (by omega) b' B' (by omega) u'⟩
end
section
def Zgy:Sp:=λvs H Q _=>∃ (b:Addr) (a q c:Int),vs=[.ref b]/\BoxAt H b a q c/\c<500000000 /\
 ∀ (p:Addr) (sh pl:Int) (r:Str) (a' c':Int) (H':Hp),H' p=some (.tup [.int sh,.int pl,.str r])->1<=sh->sh<=64->1<=pl->pl<=16->Rule r->BoxAt H' b a' q c'->c'<=c+5->SB b H H'->Q (.ref p) H'
theorem Zlk (F:Fun K "_law_shape" "_law_shape" Zcz f fd) (T:Txt K mg) (qb_:Def P w K mg base "_law_take" 1 Zcl ZdL):FnOk P w K mg base CX0 2 f fd ZdH Zgy:=by
 refine F.ok sc_shape (λvs H Q E h=>?_) (λcdv A outer st H vs Q E hr h=>?_)
 .obtain ⟨b,a,q,c,rfl,_⟩:=h
  rfl
 obtain ⟨b,a,q,c,rfl,B,hc,k⟩:=h
 have nd:=sc_shape.nd
 refine ⟨_,(Zf (pst 1 nd (Zbb op_eq (Zm qb_ hr.m rfl (pc (pv 0) (pc Zi Zd))) Zi (Zv _)))
   (Zf (pst 2 nd (ZaC (Zbn (pv 1)) (pe_op Zaa Zi (Zm qb_ hr.m rfl (pc (pv 0) (pc Zi Zd)))) (pe_ix (Zo (K:=K) rfl) (Zz (pc Zi (pc Zi (pc Zi (pc Zi (pc Zi Zd)))))) (Zm qb_ hr.m rfl (pc (pv 0) (pc Zi Zd))) (λ_ _=>rfl))))
   (Zj (Zu (ZbC (pc (pv 2) (pc (pe_op Zaa Zi (Zm qb_ hr.m rfl (pc (pv 0) (pc (ZaC (Zbn (pv 1)) Zi Zi) Zd)))) (pc (pe_ix (Zo (K:=K) rfl) (Zz (pc Zff (pc Zff (pc Zff Zd)))) (Zm qb_ hr.m rfl (pc (pv 0) (pc Zi Zd))) (λ_ _=>rfl)) Zd)))))))),?_⟩
 refine ⟨_,rfl,b,a,q,c,6,rfl,B,by omega,by decide,by decide,λr1 a1 c1 H1 r10 r11 B1 hc1 s1=>⟨rfl,?_⟩⟩
 generalize decide (V.int r1=V.int 0)=far
 dsimp only
 refine cpA (λv G=>∃ z a' c',v=.int z/\1<=z/\z<=64/\BoxAt G b a' q c'/\c'<=c1+1/\SB b H G) (λQ' k'=>?_) ?_
 .refine ⟨_,rfl,_,rfl,?_⟩
  cases far with
  | true=>exact ifT rfl ⟨_,rfl,b,a1,q,c1,64,rfl,B1,by omega,by decide,by decide,λr2 a2 c2 H2 r20 r21 B2 hc2 s2=>⟨_,_,rfl,rfl,k' _ _ ⟨_,a2,c2,rfl,by omega,by omega,B2,by omega,s1.trans s2⟩⟩⟩
  | false =>
   refine ifF rfl ⟨(sl 5),λp0 hp0=>⟨_,rfl,b,a1,q,c1,5,rfl,B1.same (Zc hp0 _),by omega,by decide,by decide,λr2 a2 c2 H2 r20 r21 B2 hc2 s2=>?_⟩⟩
   have q0:b≠p0:=Zb B1.at' hp0
   obtain ⟨sh,hsh,sh0,sh1⟩:=pick5 r2 r20 r21
   exact ⟨p0,_,_,_,rfl,rfl,SqL.of (s2 _ _ (Ne.symm q0) Za),hsh,k' _ _ ⟨_,a2,c2,rfl,sh0,sh1,B2,by omega,s1.trans (((Zc hp0 _).sb b).trans s2)⟩⟩
 rintro _ H2 ⟨sh,a2,c2,rfl,sh0,sh1,B2,hc2,u2⟩
 refine ⟨_,rfl,_,rfl,?_⟩
 refine cpE (te:=tIf _ _ _) (λv G=>∃ z,v=.int z/\4<=z/\z<=16/\G=H2) (λQ' k'=>?_) ?_
 .refine ⟨_,rfl,_,rfl,?_⟩
  cases far with
  | true=>exact ifT rfl (k' _ _ ⟨_,rfl,by decide,by decide,rfl⟩)
  | false=>exact ifF rfl (k' _ _ ⟨_,rfl,by decide,by decide,rfl⟩)
 rintro _ _ ⟨n,rfl,n0,n1,rfl⟩
 refine ⟨b,a2,q,c2,_,rfl,B2,by omega,by omega,by omega,λr3 a3 c3 H3 r30 r31 B3 hc3 s3=>⟨_,_,rfl,rfl,(sl 3),λp3 hp3=>⟨_,rfl,b,a3,q,c3,3,rfl,B3.same (Zc hp3 _),by omega,by decide,by decide,λr4 a4 c4 H4 r40 r41 B4 hc4 s4=>?_⟩⟩⟩
 have q3:b≠p3:=Zb B3.at' hp3
 obtain ⟨ru,hru,iru⟩:=pickR r4 r40 r41
 refine ⟨p3,_,_,_,rfl,rfl,SqL.of (s4 _ _ (Ne.symm q3) Za),hru,(sl 3),λpp hpp=>?_⟩
 exact k pp sh _ ru a4 c4 _ Za sh0 sh1 (by omega) (by omega) iru (B4.same (Zc hpp _)) (by omega)
  (((u2.trans s3).trans (((Zc hp3 _).sb b).trans s4)).trans ((Zc hpp _).sb b))
def Zgz:Sp:=λvs H Q _=>∃ (b:Addr) (a q c fw mt:Int),vs=[.ref b,.int fw,.int mt]/\BoxAt H b a q c/\c<400000000/\0<=fw/\fw<=mt/\mt<=400 /\
 ∀ (l:Addr) (ns:List Int) (a' c':Int) (H':Hp),H l=none->H' l=some (.lst (ns.map V.int))->(ns.length:Int)<=mt->Bds 9999 ns->BoxAt H' b a' q c'->c'<=c+2000->SB b H H'->Q (.ref l) H'
theorem pickA (x0 x1 x2 x3 x4 r:Int) (h0:0<=r) (h1:r<5):∃ n:Int,atI [V.int x0,V.int x1,V.int x2,V.int x3,V.int x4] r=some (.int n)/\(n=x0\/n=x1\/n=x2\/n=x3\/n=x4):=by
 obtain ⟨x,hx,m⟩:=Zda (xs:=[V.int x0,V.int x1,V.int x2,V.int x3,V.int x4]) h0 (by show r<((5:Nat):Int); omega)
 simp only [mem_cons,not_mem_nil,or_false] at m
 rcases m with rfl | rfl | rfl | rfl | rfl
 .exact ⟨_,hx,.inl rfl⟩
 .exact ⟨_,hx,.inr (.inl rfl)⟩
 .exact ⟨_,hx,.inr (.inr (.inl rfl))⟩
 .exact ⟨_,hx,.inr (.inr (.inr (.inl rfl)))⟩
 .exact ⟨_,hx,.inr (.inr (.inr (.inr rfl)))⟩
theorem ZnP (x y:Int):(if y<x then y else x)<=x/\(if y<x then y else x)<=y/\((if y<x then y else x)=x\/(if y<x then y else x)=y):=by
 split <;> refine ⟨by omega,by omega,by omega⟩
theorem Zll (F:Fun K "_law_asked" "_law_asked" ZcA f fd) (T:Txt K mg) (qb_:Def P w K mg base "_law_take" 1 Zcl ZdL) (qr_:Def P w K mg base "_law_some_boards" 2 ZaH ZeR):FnOk P w K mg base CX0 3 f fd ZdI Zgz:=by
 refine F.ok sc_asked (λvs H Q E h=>?_) (λcdv A outer st H vs Q E hr h=>?_)
 .obtain ⟨b,a,q,c,fw,mt,rfl,_⟩:=h
  rfl
 obtain ⟨b,a,q,c,fw,mt,rfl,B,hc,hf0,hfm,hm1,k⟩:=h
 have nd:=sc_asked.nd
 refine ⟨_,(Zf (pst 3 nd (Zm qr_ hr.m rfl (pc (pv 0) (pc Zi Zd))))
   (Zf (pst 4 nd (ZaC (Zs op_eq (Zm qb_ hr.m rfl (pc (pv 0) (pc Zi Zd))) Zi (Zv _)) (Zm qb_ hr.m rfl (pc (pv 0) (pc (pe_op Zaa (pv 2) Zi) Zd))) (Zm qb_ hr.m rfl (pc (pv 0) (pc (pe_op Zaa (pv 1) Zi) Zd)))))
   (Zf (Ziz (i:=5) (j:=6) rfl nd rfl rfl (by decide) rfl rfl (pc (Zm qb_ hr.m rfl (pc (pv 0) (pc Zi Zd))) (pc (Zz Zd) Zd)) rfl)
   (Zf (Zba PassesOwn.never rfl (ZW rfl T.qh_ (pc (pv 4) Zd)) (pgn 7 nd) (Zf (pst 8 nd (ZaC (PW.pt (pw_or (Zs (Zct (K:=K) rfl) (pv 5) (ZbC (pc Zi (pc Zi Zd))) rfl) (ZcF (PW.pt (Zde (Zs op_eq (pv 5) Zi (Zv _)) (ZbU (Zs op_eq (pe_op Zat (pv 7) Zi) Zi (Zv _)))))))) (pe_ix (Zo (K:=K) rfl) (pv 3) (Zm qb_ hr.m rfl (pc (pv 0) (pc (Zk (Zl (K:=K) rfl) rfl T.qf_ PySem.boot_len (pc (pv 3) Zd)) Zd))) (λ_ _=>rfl)) Zi))
   (Zf (pst 9 nd (pe_op Zat (pv 7) (pe_op Zbo (pe_op Zbp Zi (Zk (Zl (K:=K) rfl) rfl T.qf_ PySem.boot_len (pc (pv 3) Zd))) Zi)))
   (Zf (pst 10 nd (pe_ix (Zo (K:=K) rfl) (pv 3) (Zk (ZiG rfl) rfl T.vo_ ZeC (pc (pv 9) (pc (pe_op Zbo (pe_op Zbo (pe_op Zbp Zi (Zk (Zl (K:=K) rfl) rfl T.qf_ PySem.boot_len (pc (pv 3) Zd))) Zi) (pv 9)) Zd))) (λ_ _=>rfl)))
   (Zf (pst 11 nd (ZaC (Zs op_eq (Zm qb_ hr.m rfl (pc (pv 0) (pc Zi Zd))) Zi (Zv _)) (pv 8) (pe_ix (Zo (K:=K) rfl) (pv 3) Zi (λ_ _=>rfl))))
   (Zj (ZA (ZaJ (K:=K) rfl (pe_bm PySem.F.plainAttrs_list PySem.F.slot_list_append PySem.F.type_list_append ZB (pv 6) (pc (pe_ix (Zo (K:=K) rfl) (Zz (pc (pv 8) (pc (pe_ix (Zo (K:=K) rfl) (pv 3) (pe_op Zat (pv 7) (Zk (Zl (K:=K) rfl) rfl T.qf_ PySem.boot_len (pc (pv 3) Zd))) (λ_ _=>rfl)) (pc (ZaC (Zs op_eq (pe_op Zat (pv 7) Zi) Zi (Zv _)) (pv 8) (pe_ix (Zo (K:=K) rfl) (pv 3) (pe_op Zat (pv 7) (Zk (Zl (K:=K) rfl) rfl T.qf_ PySem.boot_len (pc (pv 3) Zd))) (λ_ _=>rfl))) (pc (pv 10) (pc (pv 11) Zd)))))) (pv 5) (λ_ _=>rfl)) Zd))))))))))
   (Zj (Zu (pv 6))))))),?_⟩
 refine ⟨_,rfl,b,a,q,c,1,rfl,B,by omega,by decide,by decide,λl1 ns1 a1 c1 H1 hl1 e1 g3 g20 bd B1 hc1 s1=>?_⟩
 have bd':∀ n∈ns1,0<=n/\n<=9999:=bd
 have nl1:l1≠b:=λe=>by rw [e,B.at'] at hl1; cases hl1
 dsimp only
 refine cpA (λv G=>∃ z a' c',v=.int z/\0<=z/\z<=mt/\BoxAt G b a' q c'/\c'<=c1+2/\SB b H1 G) (λQ' k'=>?_) ?_
 .refine ⟨_,rfl,b,a1,q,c1,8,rfl,B1,by omega,by decide,by decide,λr2 a2 c2 H2 r20 r21 B2 hc2 s2=>⟨rfl,_,rfl,ZO (λ_=>?_) (λ_=>?_)⟩⟩
  .refine ⟨_,rfl,_,rfl,_,_,rfl,rfl,b,a2,q,c2,_,rfl,B2,by omega,by omega,by omega,λr3 a3 c3 H3 r30 r31 B3 hc3 s3=>?_⟩
   exact k' _ _ ⟨_,a3,c3,rfl,r30,by omega,B3,by omega,s2.trans s3⟩
  .refine ⟨_,rfl,_,rfl,_,_,rfl,rfl,b,a2,q,c2,_,rfl,B2,by omega,by omega,by omega,λr3 a3 c3 H3 r30 r31 B3 hc3 s3=>?_⟩
   exact k' _ _ ⟨_,a3,c3,rfl,r30,by omega,B3,by omega,s2.trans s3⟩
 rintro _ H3 ⟨sz,a3,c3,rfl,sz0,sz1,B3,hc3,s3⟩
 refine ⟨_,rfl,b,a3,q,c3,5,rfl,B3,by omega,by decide,by decide,λwy a4 c4 H4 wy0 wy1 B4 hc4 s4=>⟨(sl 0),λl hl=>⟨_,_,rfl,?_⟩⟩⟩
 have u4:SB b H H4:=s1.trans (s3.trans s4)
 have hlH:H l=none:=ZcZ u4 B4.at' hl
 have nlb:l≠b:=Ne.symm (Zb B4.at' hl)
 have e4:=s4 _ _ nl1 (s3 _ _ nl1 e1)
 have nll:l1≠l:=Zb e4 hl
 have L0:(3:Int)<=ns1.length:=by omega
 have L1:(ns1.length:Int)<=20:=by omega
 refine ⟨_,rfl,_,rfl,by omega,by omega,Zcb (lo:=0) (n:=sz.toNat) (λj σ G=>∃ (v7 v8 v9 v10 v11:Option V) (ns:List Int) (a' c':Int),σ=[some (.ref b),some (.int fw),some (.int mt),some (.ref l1),some (.int sz),some (.int wy),some (.ref l),v7,v8,v9,v10,v11]/\G l=some (.lst (ns.map V.int))/\ns.length=j/\Bds 9999 ns/\G l1=some (.lst (ns1.map V.int))/\BoxAt G b a' q c'/\c'<=c4+2 * (j:Int)/\SB b H G)
  ⟨_,_,_,_,_,[],a4,c4,rfl,Za,rfl,λn hn=>(nomatch hn),by rw [Ze nll]; exact e4,B4.same (Zc hl _),by omega,u4.trans ((Zc hl _).sb b)⟩ ?_ ?_⟩
 .rintro j σ G hj ⟨v7,v8,v9,v10,v11,ns,a',c',rfl,h1,h2,h3,h4,h5,h6,h7⟩
  have j400:(j:Int)<400:=by omega
  refine cpA (λv G'=>∃ z a'' c'',v=.int z/\0<=z/\z<=9999/\BoxAt G' b a'' q c''/\c''<=c'+1/\SB b G G') (λQ' k'=>?_) ?_
  .refine cpIf (λ_ G'=>Same G G') (λQ'' k''=>?_) ?_
   .refine ⟨_,rfl,(sl 2),λp hp=>⟨p,_,rfl,.inr (SqT.of Za),rfl,rfl,_,rfl,?_⟩⟩
    have sp:=Zc hp (.tup [.int 0,.int 4])
    generalize (if false=true then !inV (V.int wy) [V.int 0,V.int 4] else inV (V.int wy) [V.int 0,V.int 4])=cw
    cases cw with
    | true=>exact ifT rfl (k'' _ _ sp)
    | false=>exact ifF rfl ⟨_,rfl,rfl,_,rfl,ZO (λ_=>⟨_,rfl,_,_,rfl,rfl,(by show (0:Int)<3; decide),rfl,_,rfl,k'' _ _ sp⟩) (λ_=>k'' _ _ sp)⟩
   .rintro cb G' sg
    have B':=h5.same sg
    have h4':=sg _ _ h4
    cases cb with
    | false=>exact ifF rfl (k' _ _ ⟨0,a',c',rfl,by decide,by decide,B',by omega,sg.sb b⟩)
    | true =>
     refine ifT rfl ⟨_,rfl,_,rfl,_,rfl,l1,_,rfl,.inl (SqL.of h4'),b,a',q,c',_,rfl,B',by omega,by rw [length_map]; omega,by rw [length_map]; omega,λr8 a8 c8 H8 r80 r81 B8 hc8 s8=>?_⟩
     rw [length_map] at r81
     obtain ⟨x1,hx1,mx1⟩:=ZdM (ns:=ns1) r80 r81
     obtain ⟨y0,y1⟩:=bd' _ mx1
     exact ⟨l1,_,_,_,rfl,rfl,SqL.of (s8 _ _ nl1 h4'),hx1,k' _ _ ⟨_,a8,c8,rfl,y0,y1,B8,by omega,(sg.sb b).trans s8⟩⟩
  rintro _ G1 ⟨dr,a1',c1',rfl,dr0,dr1,B1',hc1',t1⟩
  have g4:=t1 _ _ nl1 h4
  have g1:=t1 _ _ nlb h1
  dsimp only [gName]
  refine hide λuu ee=>?_
  have len1:(ns1.map V.int).length=ns1.length:=length_map ..
  refine ⟨_,rfl,_,rfl,l1,_,rfl,.inl (SqL.of g4),_,_,rfl,rfl,.inl ⟨by decide,by decide⟩,_,_,rfl,rfl,_,_,rfl,rfl,(by show (0:Int)<_; rw [len1]; omega),?_⟩
  dsimp only [gName]
  subst ee
  try dsimp only
  refine hide λuu ee=>?_
  obtain ⟨x2,hx2,mx2⟩:∃ x2,atI (ns1.map V.int) (if 2 * (ns1.length:Int) - 2 - (0+(j:Int)) % (2 * (ns1.length:Int) - 2)<(0+(j:Int)) % (2 * (ns1.length:Int) - 2) then 2 * (ns1.length:Int) - 2 - (0+(j:Int)) % (2 * (ns1.length:Int) - 2) else (0+(j:Int)) % (2 * (ns1.length:Int) - 2))=some (.int x2)/\x2∈ns1:=by
   have bk0:0<=(0+(j:Int)) % (2 * (ns1.length:Int) - 2):=em0 _ (by omega)
   have bk1:(0+(j:Int)) % (2 * (ns1.length:Int) - 2)<2 * (ns1.length:Int) - 2:=em1 _ (by omega)
   generalize (0+(j:Int)) % (2 * (ns1.length:Int) - 2)=bk at *
   obtain ⟨mi1,mi2,mi3⟩:=ZnP bk (2 * (ns1.length:Int) - 2 - bk)
   generalize (if 2 * (ns1.length:Int) - 2 - bk<bk then 2 * (ns1.length:Int) - 2 - bk else bk)=mi at *
   exact ZdM (by omega) (by omega)
  obtain ⟨tu0,tu1⟩:=bd' _ mx2
  refine ⟨_,rfl,_,rfl,_,rfl,l1,_,rfl,.inl (SqL.of g4),_,_,rfl,rfl,.inl ⟨by decide,by decide⟩,_,_,rfl,rfl,_,rfl,_,_,rfl,rfl,_,_,rfl,l1,_,_,_,rfl,rfl,SqL.of g4,(by rw [len1]; exact hx2),?_⟩
  dsimp only [gName]
  subst ee
  try dsimp only
  obtain ⟨x0,hx0,mx0⟩:=ZdM (ns:=ns1) (k:=0) (by decide) (by omega)
  obtain ⟨of0,of1⟩:=bd' _ mx0
  refine cpA (λv G'=>∃ z a'' c'',v=.int z/\0<=z/\z<=9999/\BoxAt G' b a'' q c''/\c''<=c1'+1/\SB b G1 G') (λQ' k'=>?_) ?_
  .refine ⟨_,rfl,b,a1',q,c1',2,rfl,B1',by omega,by decide,by decide,λr9 a9 c9 H9 r90 r91 B9 hc9 s9=>⟨rfl,_,rfl,ZO (λ_=>⟨_,rfl,k' _ _ ⟨_,a9,c9,rfl,dr0,dr1,B9,by omega,s9⟩⟩) (λ_=>⟨_,rfl,l1,_,_,_,rfl,rfl,SqL.of (s9 _ _ nl1 g4),hx0,k' _ _ ⟨_,a9,c9,rfl,of0,of1,B9,by omega,s9⟩⟩)⟩⟩
  rintro _ G2 ⟨ft,a2',c2',rfl,ft0,ft1,B2',hc2',t2⟩
  have k4:=t2 _ _ nl1 g4
  have k1:=t2 _ _ nlb g1
  have md0:0<=(0+(j:Int)) % (ns1.length:Int):=em0 _ (by omega)
  have md1:(0+(j:Int)) % (ns1.length:Int)<ns1.length:=em1 _ (by omega)
  obtain ⟨x3,hx3,mx3⟩:=ZdM (ns:=ns1) md0 md1
  obtain ⟨y30,y31⟩:=bd' _ mx3
  refine ⟨_,rfl,.inl ⟨rfl,_,SqL.of k1⟩,_,rfl,_,rfl,_,rfl,_,rfl,l1,_,rfl,.inl (SqL.of k4),_,_,rfl,rfl,(by show (0:Int)<_; rw [len1]; omega),l1,_,_,_,rfl,rfl,SqL.of k4,(by rw [len1]; exact hx3),?_⟩
  refine cpE (te:=tIf _ _ _) (λv G'=>∃ z,v=.int z/\0<=z/\z<=9999/\G'=G2) (λQ' k'=>?_) ?_
  .refine ⟨_,rfl,_,_,rfl,rfl,(by show (0:Int)<3; decide),rfl,_,rfl,ZO (λ_=>⟨_,rfl,k' _ _ ⟨_,rfl,dr0,dr1,rfl⟩⟩) (λ_=>?_)⟩
   exact ⟨_,rfl,_,rfl,_,rfl,l1,_,rfl,.inl (SqL.of k4),_,_,rfl,rfl,(by show (0:Int)<_; rw [len1]; omega),l1,_,_,_,rfl,rfl,SqL.of k4,(by rw [len1]; exact hx3),k' _ _ ⟨_,rfl,y30,y31,rfl⟩⟩
  rintro _ _ ⟨mid,rfl,mid0,mid1,rfl⟩
  obtain ⟨pk,hpk,hpk'⟩:=pickA dr x3 mid x2 ft wy wy0 wy1
  refine ⟨_,rfl,_,rfl,(sl 5),λp hp=>⟨_,rfl,p,_,_,_,rfl,rfl,SqL.of Za,hpk,l,_,_,rfl,rfl,(by rw [Ze (Zb k1 hp)]; exact k1),Zn (by rw [length_map]; omega),?_⟩⟩
  have pk0:0<=pk/\pk<=9999:=by rcases hpk' with rfl | rfl | rfl | rfl | rfl <;> exact ⟨by omega,by omega⟩
  refine ⟨_,_,_,_,_,ns++[pk],a2',c2',rfl,by rw [Za,map_append]; rfl,by rw [length_append,h2]; rfl,λn hn=>?_,?_,(B2'.same (Zc hp _)).sb (Zeg l _ _) (Ne.symm nlb),by omega,λe o n' y=>?_⟩
  .rcases List.mem_append.mp hn with h | h
   .exact h3 n h
   .have en:n=pk:=by simpa using h
    subst en; exact pk0
  .rw [Ze nll]; exact Zc hp _ _ _ k4
  .rw [Ze (Zb y hlH)]
   exact Zc hp _ _ _ (t2 _ _ n' (t1 _ _ n' (h7 _ _ n' y)))
 .rintro σ G ⟨v7,v8,v9,v10,v11,ns,a',c',rfl,h1,h2,h3,h4,h5,h6,h7⟩
  exact ⟨_,rfl,k l ns a' c' G hlH h1 (by omega) h3 h5 (by omega) h7⟩
end
def Sc:V->Prop
 | .int _=>True
 | .bl _=>True
 | .non=>True
 | .str _=>True
 | _=>False
def Eqv:Nat->Hp->V->V->Prop
 | 0,_,x,y=>x=y/\Sc x
 | n+1,H,x,y=>(x=y/\Sc x)\/∃ (a b:Addr) (xs ys:List V),x=.ref a/\y=.ref b/\((H a=some (.lst xs)/\H b=some (.lst ys))\/(H a=some (.tup xs)/\H b=some (.tup ys)))/\xs.length=ys.length/\xs.length<=1000/\∀ (i:Nat) (u v:V),xs[i]?=some u->ys[i]?=some v->Eqv n H u v
theorem Eqv.same:∀ {n:Nat} {H H':Hp} {x y:V},Eqv n H x y->Same H H'->Eqv n H' x y
 | 0,_,_,_,_,h,_=>h
 | n+1,H,H',x,y,h,s=>by
  rcases h with h | ⟨a,b,xs,ys,h1,h2,h3,h5,h6,h7⟩
  .exact .inl h
  .refine .inr ⟨a,b,xs,ys,h1,h2,?_,h5,h6,λi u v e1 e2=>(h7 i u v e1 e2).same s⟩
   rcases h3 with ⟨h3,h4⟩ | ⟨h3,h4⟩
   .exact .inl ⟨s _ _ h3,s _ _ h4⟩
   .exact .inr ⟨s _ _ h3,s _ _ h4⟩
def ZeS (n:Nat):Sp:=λvs H Q _=>∃ x y,vs=[x,y]/\Eqv n H x y/\∀ H',Same H H'->Q (.bl true) H'
theorem Eqv.sc {H:Hp} {x:V} (h:Sc x):∀ n,Eqv n H x x
 | 0=>⟨rfl,h⟩
 | _+1=>.inl ⟨rfl,h⟩
theorem Eqv.flatN {H:Hp} {a b:Addr} {xs:List V} (n:Nat) (ha:H a=some (.lst xs)) (hb:H b=some (.lst xs)) (hl:xs.length<=1000) (hs:∀ x∈xs,Sc x):Eqv (n+1) H (.ref a) (.ref b) :=
 .inr ⟨a,b,xs,xs,rfl,rfl,.inl ⟨ha,hb⟩,rfl,hl,λi u v e1 e2=>by rw [e1] at e2; cases e2; exact Eqv.sc (hs u (mem_of_getElem? e1)) n⟩
theorem tyT {H:Hp} {a:Addr} {xs:List V} (h:H a=some (.tup xs)):tyN H (.ref a)=some "tuple" := by simp only [tyN,h]
theorem tyL {H:Hp} {a:Addr} {xs:List V} (h:H a=some (.lst xs)):tyN H (.ref a)=some "list" := by simp only [tyN,h]
section
theorem ZjI {n:Nat} {sp0:Sp} (hsp:∀ m,n=m+1->sp0=ZeS m) (F:Fun K "_law_same" "_law_same" ZcK f fd) (T:Txt K mg) (qv_:Def P w K mg base "_law_same" n ZcL sp0):FnOk P w K mg base CX0 (n+1) f fd ZcL (ZeS n):=by
 refine F.ok sc_same (λvs H Q E h=>?_) (λcdv A outer st H vs Q E hr h=>?_)
 .obtain ⟨x,y,rfl,_⟩:=h
  rfl
 obtain ⟨x,y,rfl,h,k⟩:=h
 have nd:=sc_same.nd
 refine ⟨_,(Zf (ps_if (Zbn (Zk Zfu rfl T.qc_ Zae (pc (pv 1) (pc (ZbC (pc (Zam (v:=.ty "list") rfl T.qo_ Zau rfl) (pc (Zam (v:=.ty "tuple") rfl T.vi_ Zdv rfl) Zd))) Zd)))) (Zf (ps_if (PW.pt (pw_or (ZcG (Zbn (Zk Zfu rfl T.qc_ Zae (pc (pv 0) (pc (ZbC (pc (Zam (v:=.ty "list") rfl T.qo_ Zau rfl) (pc (Zam (v:=.ty "tuple") rfl T.vi_ Zdv rfl) Zd))) Zd))))) (ZcF (Zs op_ne (Zk ZaD rfl T.qc_ Zae (pc (pv 0) (pc (Zam (v:=.ty "list") rfl T.qo_ Zau rfl) Zd))) (Zk ZaD rfl T.qc_ Zae (pc (pv 1) (pc (Zam (v:=.ty "list") rfl T.qo_ Zau rfl) Zd))) (Zv _))))) (Zj (Zu pe_bl)) Zy)
   (Zj (Zu (Zdf (Zbb op_eq (Zk (Zl (K:=K) rfl) rfl T.qf_ PySem.boot_len (pc (pv 0) Zd)) (Zk (Zl (K:=K) rfl) rfl T.qf_ PySem.boot_len (pc (pv 1) Zd)) (Zv _)) (ZdZ (Zk (Zfv rfl) rfl T.vu_ Zhf (pc (ZaV (Zw (osc:=(Zg ZcK)) (oN:=ZlV) (N:=["_law_one", "_law_other"]) (own:=2) (js:=[]) (by decide +kernel) rfl rfl) rfl (Zmw rfl T.vp_ (pc (pv 0) (pc (pv 1) Zd))) (λ_ _ _ _ _ _=>(Zap (K:=K) (n:=2) rfl rfl (Zt (pgn 0 (show List.Nodup (["_law_one", "_law_other"]:List Str) by decide +kernel)) (Zt (pgn 1 (show List.Nodup (["_law_one", "_law_other"]:List Str) by decide +kernel)) Zan)))) (λ_ _ _ _ _ _=>(Zm qv_ hr.m rfl (pc (pv 0) (pc (pv 1) Zd))))) Zd))))))) Zy)
   (Zf (ps_if (PW.pt (pw_or (ZgT (Zix (pv 1))) (ZcF (Zbn (Zk ZaD rfl T.qc_ Zae (pc (pv 1) (pc (Zam (v:=.ty "str") rfl T.vb_ ZbF rfl) Zd))))))) (Zj (Zu (Zdf (Zbb op_eq (pv 0) (pv 1) (Zv _)) (ZdZ (Zbb op_eq (Zk ZaD rfl T.qc_ Zae (pc (pv 0) (pc (Zam (v:=.ty "str") rfl T.vb_ ZbF rfl) Zd))) (Zk ZaD rfl T.qc_ Zae (pc (pv 1) (pc (Zam (v:=.ty "str") rfl T.vb_ ZbF rfl) Zd))) (Zv _)))))) Zy)
   (Zj (Zu (Zdf (Zk ZaD rfl T.qc_ Zae (pc (pv 0) (pc (Zam (v:=.ty "int") rfl T.q9_ ZbE rfl) Zd))) (Zdf (Zbb op_eq (Zk ZaD rfl T.qc_ Zae (pc (pv 0) (pc (Zam (v:=.ty "bool") rfl T.vg_ Zcr rfl) Zd))) (Zk ZaD rfl T.qc_ Zae (pc (pv 1) (pc (Zam (v:=.ty "bool") rfl T.vg_ Zcr rfl) Zd))) (Zv _)) (ZdZ (Zbb op_eq (pv 0) (pv 1) (Zv _))))))))),?_⟩
 have split:(x=y/\Sc x)\/∃ (m:Nat) (a b:Addr) (xs ys:List V),n=m+1/\x=.ref a/\y=.ref b/\((H a=some (.lst xs)/\H b=some (.lst ys))\/(H a=some (.tup xs)/\H b=some (.tup ys)))/\xs.length=ys.length/\xs.length<=1000/\∀ (i:Nat) (u v:V),xs[i]?=some u->ys[i]?=some v->Eqv m H u v:=by
  cases n with
  | zero=>exact .inl h
  | succ m =>
   rcases h with h | ⟨a,b,xs,ys,h1,h2,h3,h5,h6,h7⟩
   .exact .inl h
   .exact .inr ⟨m,a,b,xs,ys,rfl,h1,h2,h3,h5,h6,h7⟩
 rcases split with ⟨rfl,hs⟩ | ⟨m,a,b,xs,ys,rfl,rfl,rfl,⟨ha,hb⟩ | ⟨ha,hb⟩,hl,hlen,hi⟩
 .have key:∀ p,H p=none->∀ o,Same H (upd H p o):=λp hp o=>Zc hp o
  cases x with
  | int j =>
   refine ⟨_,rfl,(sl 2),λp hp=>⟨_,_,_,_,p,rfl,Za,rfl,by decide,by decide,_,rfl,ifF (by decide) ?_⟩⟩
   refine ⟨_,rfl,_,rfl,ifF (by simp) ⟨_,rfl,_,_,_,rfl,rfl,by decide,_,rfl,ifF (by decide) ?_⟩⟩
   refine ⟨_,rfl,_,_,_,rfl,rfl,by decide,_,rfl,ifT (by decide) ⟨_,rfl,_,_,_,rfl,rfl,by decide,_,rfl,_,_,_,rfl,rfl,by decide,rfl,_,rfl,ifT (by decide) ⟨_,rfl,_,rfl,rfl,?_⟩⟩⟩
   rw [decide_eq_true rfl]
   exact k _ (key p hp _)
  | bl j =>
   refine ⟨_,rfl,(sl 2),λp hp=>⟨_,_,_,_,p,rfl,Za,rfl,by decide,by decide,_,rfl,ifF (by decide) ?_⟩⟩
   refine ⟨_,rfl,_,rfl,ifF (by simp) ⟨_,rfl,_,_,_,rfl,rfl,by decide,_,rfl,ifF (by decide) ?_⟩⟩
   refine ⟨_,rfl,_,_,_,rfl,rfl,by decide,_,rfl,ifT (by decide) ⟨_,rfl,_,_,_,rfl,rfl,by decide,_,rfl,_,_,_,rfl,rfl,by decide,rfl,_,rfl,ifT (by decide) ⟨_,rfl,_,rfl,rfl,?_⟩⟩⟩
   rw [decide_eq_true rfl]
   exact k _ (key p hp _)
  | non =>
   refine ⟨_,rfl,(sl 2),λp hp=>⟨_,_,_,_,p,rfl,Za,rfl,by decide,by decide,_,rfl,ifF (by decide) ?_⟩⟩
   refine ⟨_,rfl,_,rfl,ifT (by simp) (ifT rfl ⟨_,rfl,_,rfl,rfl,_,rfl,ifT (by decide) ⟨_,rfl,_,_,_,rfl,rfl,by decide,_,rfl,_,_,_,rfl,rfl,by decide,rfl,?_⟩⟩)⟩
   rw [decide_eq_true rfl]
   exact k _ (key p hp _)
  | str z =>
   refine ⟨_,rfl,(sl 2),λp hp=>⟨_,_,_,_,p,rfl,Za,rfl,by decide,by decide,_,rfl,ifF (by decide) ?_⟩⟩
   refine ⟨_,rfl,_,rfl,ifF (by simp) ⟨_,rfl,_,_,_,rfl,rfl,by decide,_,rfl,ifT (by decide) ⟨_,rfl,_,rfl,rfl,_,rfl,ifT (by simp) ⟨_,rfl,_,_,_,rfl,rfl,by decide,_,rfl,_,_,_,rfl,rfl,by decide,rfl,?_⟩⟩⟩⟩
   rw [decide_eq_true rfl]
   exact k _ (key p hp _)
  | _=>exact hs.elim
 .have he:=hsp m rfl
  subst he
  refine ⟨_,rfl,(sl 2),λp hp=>?_⟩
  have s1:=Zc hp (.tup [.ty "list",.ty "tuple"])
  refine ⟨_,_,_,_,p,rfl,Za,tyL (s1 _ _ hb),by decide,by decide,_,rfl,ifT (by decide) ?_⟩
  refine ⟨_,rfl,(sl 2),λp2 hp2=>?_⟩
  have s2:=s1.trans (Zc hp2 (.tup [.ty "list",.ty "tuple"]))
  refine ⟨_,_,_,_,p2,rfl,Za,tyL (s2 _ _ ha),by decide,by decide,_,rfl,ifF (by decide) ?_⟩
  refine ⟨_,rfl,_,_,_,rfl,tyL (s2 _ _ ha),by decide,_,rfl,_,_,_,rfl,tyL (s2 _ _ hb),by decide,rfl,_,rfl,ifF (by decide) ?_⟩
  refine ⟨_,rfl,a,_,rfl,.inl (SqL.of (s2 _ _ ha)),_,rfl,b,_,rfl,.inl (SqL.of (s2 _ _ hb)),rfl,_,rfl,?_⟩
  generalize upd (upd H p (.tup [.ty "list",.ty "tuple"])) p2 (.tup [.ty "list",.ty "tuple"])=H2 at *
  refine ifT (by rw [hl]; simp) ?_
  refine ⟨_,rfl,_,rfl,a,b,rfl,.inl ⟨_,_,SqL.of (s2 _ _ ha),SqL.of (s2 _ _ hb),λl hl'=>?_⟩⟩
  have hlH:H l=none:=s2.free hl'
  refine ZkH (K:=K) (a:=a) (b:=b) (xs:=xs) (zs:=ys) (l:=l) hl (λi zs σ H'=>∃ v0 v1:Option V,σ=[v0,v1]/\zs=(List.replicate i true).map V.bl/\H' l=some (.lst zs)/\Same H H')
   ⟨none,none,rfl,by simp,Za,s2.trans (Zc hl' _)⟩ (λi zs σ H' _ ⟨_,_,_,_,_,q⟩=>⟨SqL.of (q _ _ ha),SqL.of (q _ _ hb)⟩) ?_ ?_
  .rintro i x z t zs σ H' hii hxi hzi hzl ⟨v0,v1,rfl,rfl,h1,s3⟩ ht
   have s4:=s3.trans (Zc ht (.tup [x,z]))
   have ntl:l≠t:=Zb h1 ht
   refine ⟨t,_,rfl,SqT.of Za,rfl,_,_,rfl,_,_,rfl,rfl,?_⟩
   refine ⟨_,rfl,_,rfl,x,z,rfl,(hi i x z hxi hzi).same s4,λH5 s5=>?_⟩
   refine CNx.of (Nat.le_of_lt (Zn hlen)) hii hzl (s5 _ _ (by rw [Ze ntl]; exact h1)) ⟨_,_,rfl,by rw [List.replicate_succ',map_append]; rfl,Za,?_⟩
   intro c o e
   rw [Ze (Zb e hlH)]
   exact s5 _ _ (s4 _ _ e)
  .rintro zs σ H' hzl ⟨v0,v1,rfl,rfl,h1,s3⟩
   refine ⟨l,_,rfl,SqL.of h1,?_⟩
   rw [show (List.replicate xs.length true).all id=true by rw [all_eq_true]; intro z hz; rw [(List.mem_replicate.mp hz).2]; rfl]
   exact k H' s3
 .have he:=hsp m rfl
  subst he
  refine ⟨_,rfl,(sl 2),λp hp=>?_⟩
  have s1:=Zc hp (.tup [.ty "list",.ty "tuple"])
  refine ⟨_,_,_,_,p,rfl,Za,tyT (s1 _ _ hb),by decide,by decide,_,rfl,ifT (by decide) ?_⟩
  refine ⟨_,rfl,(sl 2),λp2 hp2=>?_⟩
  have s2:=s1.trans (Zc hp2 (.tup [.ty "list",.ty "tuple"]))
  refine ⟨_,_,_,_,p2,rfl,Za,tyT (s2 _ _ ha),by decide,by decide,_,rfl,ifF (by decide) ?_⟩
  refine ⟨_,rfl,_,_,_,rfl,tyT (s2 _ _ ha),by decide,_,rfl,_,_,_,rfl,tyT (s2 _ _ hb),by decide,rfl,_,rfl,ifF (by decide) ?_⟩
  refine ⟨_,rfl,a,_,rfl,.inr (SqT.of (s2 _ _ ha)),_,rfl,b,_,rfl,.inr (SqT.of (s2 _ _ hb)),rfl,_,rfl,?_⟩
  generalize upd (upd H p (.tup [.ty "list",.ty "tuple"])) p2 (.tup [.ty "list",.ty "tuple"])=H2 at *
  refine ifT (by rw [hl]; simp) ?_
  refine ⟨_,rfl,_,rfl,a,b,rfl,.inr ⟨_,_,SqT.of (s2 _ _ ha),SqT.of (s2 _ _ hb),λl hl'=>?_⟩⟩
  have hlH:H l=none:=s2.free hl'
  refine Zjj (K:=K) (a:=a) (b:=b) (xs:=xs) (zs:=ys) (l:=l) hl (λi zs σ H'=>∃ v0 v1:Option V,σ=[v0,v1]/\zs=(List.replicate i true).map V.bl/\H' l=some (.lst zs)/\Same H H')
   ⟨none,none,rfl,by simp,Za,s2.trans (Zc hl' _)⟩ (λi zs σ H' _ ⟨_,_,_,_,_,q⟩=>⟨SqT.of (q _ _ ha),SqT.of (q _ _ hb)⟩) ?_ ?_
  .rintro i x z t zs σ H' hii hxi hzi hzl ⟨v0,v1,rfl,rfl,h1,s3⟩ ht
   have s4:=s3.trans (Zc ht (.tup [x,z]))
   have ntl:l≠t:=Zb h1 ht
   refine ⟨t,_,rfl,SqT.of Za,rfl,_,_,rfl,_,_,rfl,rfl,?_⟩
   refine ⟨_,rfl,_,rfl,x,z,rfl,(hi i x z hxi hzi).same s4,λH5 s5=>?_⟩
   refine CNx.of (Nat.le_of_lt (Zn hlen)) hii hzl (s5 _ _ (by rw [Ze ntl]; exact h1)) ⟨_,_,rfl,by rw [List.replicate_succ',map_append]; rfl,Za,?_⟩
   intro c o e
   rw [Ze (Zb e hlH)]
   exact s5 _ _ (s4 _ _ e)
  .rintro zs σ H' hzl ⟨v0,v1,rfl,rfl,h1,s3⟩
   refine ⟨l,_,rfl,SqL.of h1,?_⟩
   rw [show (List.replicate xs.length true).all id=true by rw [all_eq_true]; intro z hz; rw [(List.mem_replicate.mp hz).2]; rfl]
   exact k H' s3
def spNo:Sp:=λ_ _ _ _=>False
theorem Zhz (F:Fun K "_law_same" "_law_same" ZcK f fd) (bi:Binds K fd ZcL []) (m:mg "_law_same" = some (.ref f)) (T:Txt K mg):∀ n,Def P w K mg base "_law_same" (n+1) ZcL (ZeS n)
 | 0=>by
  have D0:Def P w K mg base "_law_same" 0 ZcL spNo:=⟨f,fd,⟨λ_ _ _ _ h=>h.elim,λ_ _ _ _ _ _ _ _ _ _ _ _ _ h=>h.elim⟩,m,F.kp,bi⟩
  exact ⟨f,fd,ZjI (n:=0) (λ_ h=>by omega) F T D0,m,F.kp,bi⟩
 | n+1=>⟨f,fd,ZjI (n:=n+1) (λj h=>by cases (show j=n by omega); rfl) F T (Zhz F bi m T n),m,F.kp,bi⟩
end
def optV:Option Int->V
 | none=>.non
 | some g=>.int g
theorem gN {i:Nat} {v:V} {σ:St} {H:Hp} {Q:St->Hp->Prop} (h:Q (σ.set i (some v)) H):gName i v σ H Q:=h
theorem ZhA {b:Bool} {A B:Prop} (h1:b=true->A) (h2:¬ b=true->B):if b=true then A else B:=by
 by_cases h:b=true
 .rw [if_pos h]; exact h1 h
 .rw [if_neg h]; exact h2 h
theorem Zbr {ns:List Int} {i:Nat} {x:V} (h:(ns.map V.int)[i]?=some x):∃ z,ns[i]?=some z/\x=V.int z:=by
 rw [getElem?_map] at h
 cases e:ns[i]? with
 | none=>rw [e] at h; cases h
 | some z=>rw [e] at h; exact ⟨z,rfl,(Option.some.inj h).symm⟩
theorem ZdN (z:Int) (ns:List Int):inV (.int z) (ns.map V.int)=decide (z∈ns):=by
 unfold inV
 rw [any_map,Bool.eq_iff_iff,any_eq_true,decide_eq_true_eq]
 constructor
 .rintro ⟨x,hx,e⟩
  have:x=z:=by simpa [eqV] using e
  rw [← this]; exact hx
 .intro h
  exact ⟨z,h,by simp [eqV]⟩
structure Rec where
 b:Int
 t0:Int
 t1:Int
 n:Int
def recOf (S:List Rec) (b:Int):Option Rec:=S.find? λr=>decide (r.b=b)
def putR (S:List Rec) (q:Rec):List Rec:=if S.any (λr=>decide (r.b=q.b)) then S.map (λr=>if r.b=q.b then q else r) else S++[q]
def dropR (S:List Rec) (b:Int):List Rec:=S.filter λr=>decide (r.b≠b)
def byL (ru:Str):List Int:=if ru = "old" then [1] else if ru = "come" then [0] else [2,0]
def fld (r:Rec) (k:Int):Int:=if k=0 then r.t0 else if k=1 then r.t1 else r.n
def keyR (ru:Str) (r:Rec):List Int:=(byL ru).map (fld r)
def Zac (sh b:Int) (S:List Rec):List Rec:=S.filter λr=>decide (V.int (r.b % sh)=V.int (b % sh))
def bestR (ru:Str) (S:List Rec):Nat:=argBest (λi j=>HT.lexLt ((S.map λr=>keyR ru r++[r.b]).getD i []) ((S.map λr=>keyR ru r++[r.b]).getD j [])) (S.length - 1)
def goesF (sh pl:Int) (ru:Str) (S:List Rec) (b:Int):Option Int:=if ((Zac sh b S).length:Int)<pl then none else ((Zac sh b S)[bestR ru (Zac sh b S)]?).map (·.b)
def Uq (S:List Rec):Prop:=(S.map (·.b)).Nodup
theorem Uq.rec:∀ {S:List Rec},Uq S->∀ r∈S,recOf S r.b=some r
 | [],_,_,h=>nomatch h
 | q :: S,u,r,h=>by
  have u':(q.b :: S.map (·.b)).Nodup:=u
  obtain ⟨u1,u2⟩:=List.nodup_cons.mp u'
  rcases List.mem_cons.mp h with rfl | h
  .unfold recOf
   rw [find?_cons_of_pos (by simp)]
  .have ne:¬ q.b=r.b:=λe=>u1 (by rw [e]; exact List.mem_map.mpr ⟨r,h,rfl⟩)
   unfold recOf
   rw [find?_cons_of_neg (by simpa using ne)]
   exact Uq.rec u2 r h
theorem ZnQ (S:List Rec) (q:Rec):(S.map λr=>if r.b=q.b then q else r).map (·.b)=S.map (·.b):=by
 rw [map_map]
 refine map_congr_left λr _=>?_
 show (if r.b=q.b then q else r).b=r.b
 split
 .rename_i e; exact e.symm
 .rfl
theorem Uq.put {S:List Rec} (u:Uq S) (q:Rec):Uq (putR S q):=by
 unfold putR
 by_cases e:(S.any λr=>decide (r.b=q.b))=true
 .rw [if_pos e]
  show ((S.map λr=>if r.b=q.b then q else r).map (·.b)).Nodup
  rw [ZnQ]; exact u
 .rw [if_neg e]
  show ((S++[q]).map (·.b)).Nodup
  rw [map_append]
  refine Zbd u λm=>e ?_
  obtain ⟨r,hr,z⟩:=List.mem_map.mp m
  exact List.any_eq_true.mpr ⟨r,hr,by simpa using z⟩
theorem Uq.drop {S:List Rec} (u:Uq S) (b:Int):Uq (dropR S b):=List.Nodup.sublist (List.Sublist.map _ filter_sublist) u
theorem ZjJ (S:List Rec) (q:Rec):(putR S q).length<=S.length+1:=by
 unfold putR
 split
 .rw [length_map]; omega
 .simp
theorem Zlm (S:List Rec) (b:Int):(dropR S b).length<=S.length:=length_filter_le ..
def lessR (S:List Rec):Option Int->List Rec
 | none=>S
 | some g=>dropR S g
def stepR (sh pl:Int) (ru:Str) (i:Nat) (b:Int) (S:List Rec):List Rec×(Bool×Option Int) :=
 match recOf S b with
 | some r=>(putR S ⟨b,r.t0,i,r.n+1⟩,(true,none))
 | none=>(putR (lessR S (goesF sh pl ru S b)) ⟨b,i,i,0⟩,(false,goesF sh pl ru S b))
def runR (sh pl:Int) (ru:Str) (row:List Int):Nat->List Rec×List (Bool×Option Int)
 | 0=>([],[])
 | i+1=>((stepR sh pl ru i (row.getD i 0) (runR sh pl ru row i).1).1,(runR sh pl ru row i).2++[(stepR sh pl ru i (row.getD i 0) (runR sh pl ru row i).1).2])
def rowF (sh pl:Int) (ru:Str) (row:List Int):List (Bool×Option Int):=(runR sh pl ru row row.length).2
theorem Uq.less {S:List Rec} (u:Uq S) (g:Option Int):Uq (lessR S g):=by
 cases g with
 | none=>exact u
 | some g=>exact u.drop g
theorem ZjK (S:List Rec) (g:Option Int):(lessR S g).length<=S.length:=by
 cases g with
 | none=>exact Nat.le_refl _
 | some g=>exact Zlm S g
theorem ZmJ (sh pl:Int) (ru:Str) (i:Nat) (b:Int) (S:List Rec) (u:Uq S):Uq (stepR sh pl ru i b S).1/\(stepR sh pl ru i b S).1.length<=S.length+1:=by
 unfold stepR
 cases recOf S b with
 | some r=>exact ⟨u.put _,ZjJ _ _⟩
 | none=>exact ⟨(u.less _).put _,Nat.le_trans (ZjJ _ _) (Nat.add_le_add_right (ZjK _ _) 1)⟩
theorem ZhB (sh pl:Int) (ru:Str) (row:List Int) (i:Nat):Uq (runR sh pl ru row i).1/\(runR sh pl ru row i).1.length<=i/\(runR sh pl ru row i).2.length=i:=by
 induction i with
 | zero=>exact ⟨nodup_nil,Nat.le_refl _,rfl⟩
 | succ i ih =>
  obtain ⟨h1,h2⟩:=ZmJ sh pl ru i (row.getD i 0) (runR sh pl ru row i).1 ih.1
  refine ⟨h1,Nat.le_trans h2 (Nat.add_le_add_right ih.2.1 1),?_⟩
  show ((runR sh pl ru row i).2++_).length=_
  rw [length_append,ih.2.2]; rfl
def Told (H:Hp) (l:Addr) (fs:List (Bool×Option Int)):Prop:=∃ ads:List Addr,H l=some (.lst (ads.map V.ref))/\ads.length=fs.length/\∀ (m:Nat) (ad:Addr) (f:Bool×Option Int),ads[m]?=some ad->fs[m]?=some f->H ad=some (.tup [.bl f.1,optV f.2])
theorem ZgA (sh pl:Int) (ru:Str) (row:List Int):(rowF sh pl ru row).length=row.length:=(ZhB sh pl ru row row.length).2.2
def tpos:Pos:=(match (Zp ZJ).head? with
 | some (.If _ (.Return (some (.Call _ _ (⟨_,.Lambda _ _ _ pos,_⟩ :: _) _)) _ :: _) _ _)=>pos
 | _=>⟨0,0,0,0⟩)
abbrev tqual:Str := "Room.going" ++ ".<locals>." ++ "<lambda>"
def Tb (K:W.Frag) (H:Hp):Prop:=H (tabOf K "Room" "going")=some (.tbl tpos tqual)
theorem Tb.same {K:W.Frag} {H H':Hp} (t:Tb K H) (s:Same H H'):Tb K H':=s _ _ t
def spRun (K:W.Frag):Sp:=λvs H Q _=>∃ (sh pl:Int) (ru:Str) (a:Addr) (row:List Int),vs=[.int sh,.int pl,.str ru,.ref a]/\SqL K H a (row.map V.int)/\1<=sh/\sh<=64/\1<=pl/\pl<=16/\Rule ru/\row.length<=400/\Bds 9999 row/\Tb K H /\
 ∀ (l:Addr) (H':Hp),H l=none->Same H H'->Told H' l (rowF sh pl ru row)->Q (.ref l) H'
theorem ZgB:∀ a:List Int,HT.lexLt a a=false
 | []=>rfl
 | x :: xs=>by rw [HT.lexLt_cons,if_pos rfl]; exact ZgB xs
theorem ZfR:∀ {a b c:List Int},HT.lexLt a b=true->HT.lexLt b c=true->HT.lexLt a c=true
 | [],[],_,h,_=>by rw [HT.lexLt_nil_nil] at h; cases h
 | [],_ :: _,[],_,h=>by rw [HT.lexLt_cons_nil] at h; cases h
 | [],_ :: _,_ :: _,_,_=>rfl
 | _ :: _,[],_,h,_=>by rw [HT.lexLt_cons_nil] at h; cases h
 | _ :: _,_ :: _,[],_,h=>by rw [HT.lexLt_cons_nil] at h; cases h
 | x :: xs,y :: ys,z :: zs,h1,h2=>by
  rw [HT.lexLt_cons] at h1 h2 ⊢
  by_cases e1:x=y
  .subst e1
   rw [if_pos rfl] at h1
   by_cases e2:x=z
   .subst e2
    rw [if_pos rfl] at h2 ⊢
    exact ZfR h1 h2
   .rw [if_neg e2] at h2 ⊢; exact h2
  .rw [if_neg e1] at h1
   have l1:=of_decide_eq_true h1
   by_cases e2:y=z
   .subst e2
    rw [if_neg e1]; exact h1
   .rw [if_neg e2] at h2
    have l2:=of_decide_eq_true h2
    rw [if_neg (by omega)]
    exact decide_eq_true (by omega)
theorem ZjL (f:Nat->List Int):∀ k,argBest (λi j=>HT.lexLt (f i) (f j)) k<=k/\∀ j,j<=k->HT.lexLt (f j) (f (argBest (λi j=>HT.lexLt (f i) (f j)) k))=false
 | 0=>⟨Nat.le_refl _,λj hj=>by
   have:j=0:=by omega
   subst this; exact ZgB _⟩
 | k+1=>by
  obtain ⟨h1,h2⟩:=ZjL f k
  unfold argBest
  by_cases c:HT.lexLt (f (k+1)) (f (argBest (λi j=>HT.lexLt (f i) (f j)) k))=true
  .rw [if_pos c]
   refine ⟨Nat.le_refl _,λj hj=>?_⟩
   by_cases e:j=k+1
   .subst e; exact ZgB _
   .cases q:HT.lexLt (f j) (f (k+1)) with
    | false=>rfl
    | true =>
     have:=ZfR q c
     rw [h2 j (by omega)] at this; cases this
  .rw [if_neg c]
   refine ⟨by omega,λj hj=>?_⟩
   by_cases e:j=k+1
   .subst e; simpa using c
   .exact h2 j (by omega)
theorem Zes {sh pl:Int} {ru:Str} {S:List Rec} {b:Int} (hpl:1<=pl) (hfull:¬ ((Zac sh b S).length:Int)<pl):∃ r∈Zac sh b S,goesF sh pl ru S b=some r.b/\∀ r'∈Zac sh b S,HT.lexLt (keyR ru r'++[r'.b]) (keyR ru r++[r.b])=false:=by
 unfold goesF
 rw [if_neg hfull]
 generalize Zac sh b S=T at *
 have pos:0<T.length:=by omega
 obtain ⟨h1,h2⟩:=ZjL (λi=>(T.map λr=>keyR ru r++[r.b]).getD i []) (T.length - 1)
 have e:argBest (λi j=>HT.lexLt ((T.map λr=>keyR ru r++[r.b]).getD i []) ((T.map λr=>keyR ru r++[r.b]).getD j [])) (T.length - 1)=bestR ru T:=rfl
 rw [e] at h1 h2
 have hlt:bestR ru T<T.length:=by omega
 have at':∀ i (h:i<T.length),(T.map λr=>keyR ru r++[r.b]).getD i []=keyR ru T[i]++[T[i].b]:=λi h=>by
  rw [getD_eq_getElem?_getD,getElem?_map,getElem?_eq_getElem h]; rfl
 refine ⟨T[bestR ru T],getElem_mem hlt,by rw [getElem?_eq_getElem hlt]; rfl,λr' hr'=>?_⟩
 obtain ⟨j,hj,rfl⟩:=List.getElem_of_mem hr'
 have q:=h2 j (by omega)
 rw [at' j hj,at' _ hlt] at q
 exact q
def bds (S:List Rec):List Int:=S.map (·.b)
theorem recOf_none {S:List Rec} {b:Int}:recOf S b=none↔b∉bds S:=by
 unfold recOf bds
 rw [List.find?_eq_none]
 constructor
 .intro h m
  obtain ⟨r,hr,e⟩:=List.mem_map.mp m
  exact h r hr (by simpa using e)
 .intro h r hr e
  exact h (List.mem_map.mpr ⟨r,hr,by simpa using e⟩)
theorem ZcB {S:List Rec} {b:Int} {r:Rec} (h:recOf S b=some r):r∈S/\r.b=b:=by
 unfold recOf at h
 exact ⟨List.mem_of_find?_eq_some h,by simpa using List.find?_some h⟩
theorem ZdO {S:List Rec} {q:Rec} (x:Int):recOf (putR S q) x=if x=q.b then some q else recOf S x:=by
 unfold putR
 by_cases e:(S.any λr=>decide (r.b=q.b))=true
 .rw [if_pos e]
  induction S with
  | nil=>simp at e
  | cons r S ih =>
   rw [map_cons]
   by_cases er:r.b=q.b
   .rw [if_pos er]
    by_cases ex:x=q.b
    .rw [if_pos ex]
     unfold recOf
     rw [find?_cons_of_pos (by simpa using ex.symm)]
    .rw [if_neg ex]
     have e1:recOf (q :: S.map λr=>if r.b=q.b then q else r) x=recOf (S.map λr=>if r.b=q.b then q else r) x:=by
      unfold recOf
      rw [find?_cons_of_neg (by simpa using Ne.symm ex)]
     have e2:recOf (r :: S) x=recOf S x:=by
      unfold recOf
      rw [find?_cons_of_neg (by rw [er]; simpa using Ne.symm ex)]
     rw [e1,e2]
     clear e ih e1 e2
     induction S with
     | nil=>rfl
     | cons s S ih2 =>
      rw [map_cons]
      by_cases es:s.b=q.b
      .rw [if_pos es]
       unfold recOf at ih2 ⊢
       rw [find?_cons_of_neg (by simpa using Ne.symm ex),find?_cons_of_neg (by rw [es]; simpa using Ne.symm ex)]
       exact ih2
      .rw [if_neg es]
       unfold recOf at ih2 ⊢
       by_cases esx:s.b=x
       .rw [find?_cons_of_pos (by simpa using esx),find?_cons_of_pos (by simpa using esx)]
       .rw [find?_cons_of_neg (by simpa using esx),find?_cons_of_neg (by simpa using esx)]
        exact ih2
   .rw [if_neg er]
    rw [any_cons] at e
    have e':(S.any λr=>decide (r.b=q.b))=true:=by
     rcases Bool.or_eq_true _ _ |>.mp e with h | h
     .exact absurd (of_decide_eq_true h) er
     .exact h
    have ih':=ih e'
    unfold recOf at ih' ⊢
    by_cases erx:r.b=x
    .rw [find?_cons_of_pos (by simpa using erx),find?_cons_of_pos (by simpa using erx),if_neg (by rw [← erx]; exact er)]
    .rw [find?_cons_of_neg (by simpa using erx),find?_cons_of_neg (by simpa using erx)]
     exact ih'
 .rw [if_neg e]
  unfold recOf
  rw [List.find?_append]
  by_cases ex:x=q.b
  .rw [if_pos ex]
   have:S.find? (λr=>decide (r.b=x))=none:=by
    rw [List.find?_eq_none]
    intro r hr hx
    exact e (List.any_eq_true.mpr ⟨r,hr,by rw [← ex]; exact hx⟩)
   rw [this,Option.none_or]
   rw [find?_cons_of_pos (by simpa using ex.symm)]
  .rw [if_neg ex]
   have:List.find? (λr=>decide (r.b=x)) [q]=none:=by
    rw [find?_cons_of_neg (by simpa using Ne.symm ex)]; rfl
   rw [this,Option.or_none]
theorem Zet {S:List Rec} {g:Int} (x:Int):recOf (dropR S g) x=if x=g then none else recOf S x:=by
 by_cases ex:x=g
 .rw [if_pos ex,recOf_none]
  intro m
  obtain ⟨r,hr,e⟩:=List.mem_map.mp m
  have:=(List.mem_filter.mp hr).2
  simp [e,ex] at this
 .rw [if_neg ex]
  induction S with
  | nil=>rfl
  | cons r S ih =>
   unfold dropR recOf at ih ⊢
   rw [filter_cons]
   by_cases er:r.b=g
   .rw [if_neg (by simp [er]),find?_cons_of_neg (by rw [er]; simpa using Ne.symm ex)]
    exact ih
   .rw [if_pos (by simpa using er)]
    by_cases erx:r.b=x
    .rw [find?_cons_of_pos (by simpa using erx),find?_cons_of_pos (by simpa using erx)]
    .rw [find?_cons_of_neg (by simpa using erx),find?_cons_of_neg (by simpa using erx)]
     exact ih
theorem ZeT {S:List Rec} {q:Rec} (x:Int):x∈bds (putR S q)↔x=q.b\/x∈bds S:=by
 have h:=ZdO (S:=S) (q:=q) x
 constructor
 .intro m
  by_cases e:x=q.b
  .exact .inl e
  .rw [if_neg e] at h
   refine .inr ?_
   by_cases c:x∈bds S
   .exact c
   .rw [recOf_none.mpr c] at h
    exact absurd m (recOf_none.mp h)
 .intro m
  by_cases c:x∈bds (putR S q)
  .exact c
  .rw [recOf_none.mpr c] at h
   by_cases e:x=q.b
   .rw [if_pos e] at h; cases h
   .rw [if_neg e] at h
    rcases m with m | m
    .exact absurd m e
    .exact absurd m (recOf_none.mp h.symm)
theorem Zln {S:List Rec} {g:Int} (x:Int):x∈bds (dropR S g)↔x∈bds S/\x≠g:=by
 have h:=Zet (S:=S) (g:=g) x
 constructor
 .intro m
  by_cases e:x=g
  .rw [if_pos e] at h
   exact absurd m (recOf_none.mp h)
  .rw [if_neg e] at h
   refine ⟨?_,e⟩
   by_cases c:x∈bds S
   .exact c
   .rw [recOf_none.mpr c] at h
    exact absurd m (recOf_none.mp h)
 .rintro ⟨m,e⟩
  rw [if_neg e] at h
  by_cases c:x∈bds (dropR S g)
  .exact c
  .rw [recOf_none.mpr c] at h
   exact absurd m (recOf_none.mp h.symm)
def Zh (sh s:Int) (there:List Int):List Int:=there.filter λo=>decide (o % sh=s)
theorem ZF (sh s b:Int) (there:List Int):Zh sh s (there++[b])=if b % sh=s then Zh sh s there++[b] else Zh sh s there:=by
 unfold Zh
 rw [filter_append]
 by_cases h:b % sh=s
 .rw [if_pos h,filter_cons,if_pos (by simpa using h),filter_nil]
 .rw [if_neg h,filter_cons,if_neg (by simpa using h),filter_nil,append_nil]
theorem ZL (sh s g:Int) (there:List Int):Zh sh s (there.erase g)=(Zh sh s there).erase g:=by
 unfold Zh
 rw [List.erase_filter]
theorem mem_shelfS {sh s b:Int} {there:List Int}:b∈Zh sh s there↔b∈there/\b % sh=s:=by
 unfold Zh
 rw [mem_filter,decide_eq_true_eq]
structure Shl (H:Hp) (ls:Addr) (ads:List Addr) (sh:Int) (there:List Int):Prop where
 top:H ls=some (.lst (ads.map V.ref))
 len:ads.length=sh.toNat
 nd:ads.Nodup
 off:ls∉ads
 at_:∀ (s:Nat) (ad:Addr),ads[s]?=some ad->H ad=some (.lst ((Zh sh s there).map V.int))
theorem Shl.other {H:Hp} {ls:Addr} {ads:List Addr} {sh:Int} {there:List Int} (h:Shl H ls ads sh there) {a:Addr} (o:HO) (h1:a≠ls) (h2:a∉ads):Shl (upd H a o) ls ads sh there :=
 ⟨by rw [Ze (Ne.symm h1)]; exact h.top,h.len,h.nd,h.off,λi ad e=>by rw [Ze (λz:ad=a=>h2 (z ▸ mem_of_getElem? e))]; exact h.at_ i ad e⟩
theorem Shl.put {H:Hp} {ls:Addr} {ads:List Addr} {sh:Int} {there there':List Int} (h:Shl H ls ads sh there) {s0:Nat} {ad:Addr} {ns:List Int} (e0:ads[s0]?=some ad) (hn:Zh sh s0 there'=ns) (ho:∀ s:Nat,s≠s0->Zh sh s there'=Zh sh s there):Shl (upd H ad (.lst (ns.map V.int))) ls ads sh there':=by
 refine ⟨by rw [Ze (λz:ls=ad=>h.off (z ▸ mem_of_getElem? e0))]; exact h.top,h.len,h.nd,h.off,λs a e=>?_⟩
 by_cases hs:s=s0
 .subst hs
  rw [e0] at e
  cases e
  rw [Za,hn]
 .have ne:a≠ad:=λz=>by
   subst z
   exact hs ((List.getElem?_inj (List.getElem?_eq_some_iff.mp e).1 h.nd).mp (e.trans e0.symm))
  rw [Ze ne,ho s hs]
  exact h.at_ s a e
theorem Shl.get {H:Hp} {ls:Addr} {ads:List Addr} {sh:Int} {there:List Int} (h:Shl H ls ads sh there) {k:Int} (h0:0<=k) (h1:k<sh):∃ (s:Nat) (ad:Addr),(s:Int)=k/\ads[s]?=some ad/\atI (ads.map V.ref) k=some (.ref ad)/\H ad=some (.lst ((Zh sh k there).map V.int)):=by
 have hk:k.toNat<ads.length:=by rw [h.len]; omega
 have e:ads[k.toNat]?=some ads[k.toNat]:=getElem?_eq_getElem hk
 have ek:((k.toNat:Nat):Int)=k:=by omega
 have q:atI (ads.map V.ref) ((k.toNat:Nat):Int)=some (.ref ads[k.toNat]):=Zao (by rw [getElem?_map,e]; rfl)
 have q2:=h.at_ _ _ e
 rw [ek] at q q2
 exact ⟨k.toNat,_,ek,e,q,q2⟩
theorem Shl.one {H:Hp} {ls:Addr} {ads:List Addr} {sh:Int} {there:List Int} (h:Shl H ls ads sh there) {ad:Addr} (m:ad∈ads):∃ xs,H ad=some (.lst xs):=by
 obtain ⟨s,e⟩:=List.getElem?_of_mem m
 exact ⟨_,h.at_ s ad e⟩
def flds (sh pl:Int) (ru:Str) (ls du:Addr):List (Str×V):=putF "uses" (.ref du) (putF "standing" (.ref ls) (putF "rule" (.str ru) (putF "places" (.int pl) (putF "shelves" (.int sh) []))))
theorem ZdP (sh pl:Int) (ru:Str) (ls du:Addr):(flds sh pl ru ls du).lookup ("uses" : Str)=some (.ref du):=by
 unfold flds
 rw [Zq,if_pos rfl]
theorem ZgC (sh pl:Int) (ru:Str) (ls du:Addr):(flds sh pl ru ls du).lookup ("standing" : Str)=some (.ref ls):=by
 unfold flds
 rw [Zq,if_neg (by decide +kernel),Zq,if_pos rfl]
theorem ZjM (sh pl:Int) (ru:Str) (ls du:Addr):(flds sh pl ru ls du).lookup ("rule" : Str)=some (.str ru):=by
 unfold flds
 rw [Zq,if_neg (by decide +kernel),Zq,if_neg (by decide +kernel),Zq,if_pos rfl]
theorem ZjN (sh pl:Int) (ru:Str) (ls du:Addr):(flds sh pl ru ls du).lookup ("places" : Str)=some (.int pl):=by
 unfold flds
 rw [Zq,if_neg (by decide +kernel),Zq,if_neg (by decide +kernel),Zq,if_neg (by decide +kernel),Zq,if_pos rfl]
theorem Zim (sh pl:Int) (ru:Str) (ls du:Addr):(flds sh pl ru ls du).lookup ("shelves" : Str)=some (.int sh):=by
 unfold flds
 rw [Zq,if_neg (by decide +kernel),Zq,if_neg (by decide +kernel),Zq,if_neg (by decide +kernel),Zq,if_neg (by decide +kernel),Zq,if_pos rfl]
theorem fl_no (sh pl:Int) (ru:Str) (ls du:Addr) {m:Str} (h1:¬ m = "uses" := by decide +kernel) (h2:¬ m = "standing" := by decide +kernel) (h3:¬ m = "rule" := by decide +kernel) (h4:¬ m = "places" := by decide +kernel) (h5:¬ m = "shelves" := by decide +kernel):(flds sh pl ru ls du).lookup m=none:=by
 unfold flds
 rw [Zq,if_neg h1,Zq,if_neg h2,Zq,if_neg h3,Zq,if_neg h4,Zq,if_neg h5]
 rfl
structure RoomAt (K:W.Frag) (H:Hp) (p:Addr) (sh pl:Int) (ru:Str) (ls:Addr) (ads:List Addr) (du:Addr) (seq:List Int) (us:Int->Int) (n:Nat):Prop where
 ob:∃ dx,H p=some (.ins (clsOf K "Room") dx (flds sh pl ru ls du))
 st:Shl H ls ads sh seq
 dc:∃ kvs,H du=some (.dK kvs)/\kvs.length<=n/\∀ b,valV kvs (Sum.inl b:Key)=if b∈seq then some (.int (us b)) else none
 nd:seq.Nodup
 s0:1<=sh
 s1:sh<=64
def SR (ads:List Addr) (du:Addr) (H H':Hp):Prop:=∀ b o,H b=some o->b≠du->b∉ads->H' b=some o
theorem SR.of {ads:List Addr} {du:Addr} {H H':Hp} (s:Same H H'):SR ads du H H':=λb o h _ _=>s b o h
theorem SR.trans {ads:List Addr} {du:Addr} {H H1 H2:Hp} (a:SR ads du H H1) (b:SR ads du H1 H2):SR ads du H H2:=λc o h n1 n2=>b c o (a c o h n1 n2) n1 n2
section
variable {K:W.Frag} {H H':Hp} {p:Addr} {sh pl:Int} {ru:Str} {ls:Addr} {ads:List Addr} {du:Addr} {seq:List Int} {us:Int->Int} {n:Nat}
theorem RoomAt.off (R:RoomAt K H p sh pl ru ls ads du seq us n):p≠du/\p∉ads/\ls≠du/\ls∉ads/\du∉ads/\p≠ls:=by
 obtain ⟨dx,h1⟩:=R.ob
 obtain ⟨kvs,h2,_⟩:=R.dc
 refine ⟨λz=>?_,λz=>?_,λz=>?_,R.st.off,λz=>?_,λz=>?_⟩
 .rw [z,h2] at h1; cases h1
 .obtain ⟨xs,e⟩:=R.st.one z
  rw [e] at h1; cases h1
 .have e:=R.st.top
  rw [z,h2] at e; cases e
 .obtain ⟨xs,e⟩:=R.st.one z
  rw [e] at h2; cases h2
 .have e:=R.st.top
  rw [← z,h1] at e; cases e
theorem RoomAt.same (R:RoomAt K H p sh pl ru ls ads du seq us n) (s:Same H H'):RoomAt K H' p sh pl ru ls ads du seq us n:=by
 obtain ⟨dx,h1⟩:=R.ob
 obtain ⟨kvs,h2,h3⟩:=R.dc
 exact ⟨⟨dx,s _ _ h1⟩,⟨s _ _ R.st.top,R.st.len,R.st.nd,R.st.off,λi ad e=>s _ _ (R.st.at_ i ad e)⟩,⟨kvs,s _ _ h2,h3⟩,R.nd,R.s0,R.s1⟩
theorem SR.keep {o:HO} {b:Addr} (s:SR ads du H H') (R:RoomAt K H p sh pl ru ls ads du seq us n) (h:H b=some o) (n1:∀ kvs,o≠.dK kvs) (n2:∀ xs,o≠.lst xs):H' b=some o:=by
 refine s _ _ h (λz=>?_) λz=>?_
 .obtain ⟨kvs,e,_⟩:=R.dc
  rw [z,e] at h
  exact n1 kvs (Option.some.inj h).symm
 .obtain ⟨xs,e⟩:=R.st.one z
  rw [e] at h
  exact n2 xs (Option.some.inj h).symm
theorem RoomAt.shelf (R:RoomAt K H p sh pl ru ls ads du seq us n) (b:Int):∃ (s:Nat) (ad:Addr),(s:Int)=b % sh/\ads[s]?=some ad/\atI (ads.map V.ref) (b % sh)=some (.ref ad)/\H ad=some (.lst ((Zh sh (b % sh) seq).map V.int)):=by
 have h0:=R.s0
 exact R.st.get (Int.emod_nonneg _ (by omega)) (Int.emod_lt_of_pos _ (by omega))
end
section
def ZbX:Sp:=λvs H Q _=>∃ sh b:Int,vs=[.int sh,.int b]/\1<=sh/\Q (.int (b % sh)) H
theorem ZgD (F:Fun K "shelf_of" "shelf_of" ZaX f fd) (T:Txt K mg):FnOk P w K mg base CX0 1 f fd Zah ZbX:=by
 refine F.ok sc_shelf_of (λvs H Q E h=>?_) (λcdv A outer st H vs Q E hr h=>?_)
 .obtain ⟨sh,b,rfl,_⟩:=h
  rfl
 obtain ⟨sh,b,rfl,h0,k⟩:=h
 have nd:=sc_shelf_of.nd
 refine ⟨_,(Zj (Zu (pe_op Zat (pv 1) (pv 0)))),?_⟩
 exact ⟨_,rfl,_,rfl,_,_,rfl,rfl,(by show 0<sh; omega),k⟩
def spHas (K:W.Frag):Sp:=λvs H Q _=>∃ (p:Addr) (b sh pl:Int) (ru:Str) (ls:Addr) (ads:List Addr) (du:Addr) (seq:List Int) (us:Int->Int) (n:Nat),vs=[.ref p,.int b]/\RoomAt K H p sh pl ru ls ads du seq us n/\Q (.bl (decide (b∈seq))) H
theorem ZgE (F:Fun K "has" "Room.has" ZaY f fd) (T:Txt K mg):FnOk P w K mg base CX0 1 f fd ZaM (spHas K):=by
 refine F.ok sc_Room_has (λvs H Q E h=>?_) (λcdv A outer st H vs Q E hr h=>?_)
 .obtain ⟨p,b,sh,pl,ru,ls,ads,du,seq,us,n,rfl,_⟩:=h
  rfl
 obtain ⟨p,b,sh,pl,ru,ls,ads,du,seq,us,n,rfl,R,k⟩:=h
 have nd:=sc_Room_has.nd
 have hu:=hu_of hr
 refine ⟨_,(Zj (Zu (Zly (Znm hu (pv 1) (Zbq (K:=K) rfl (pv 0) rfl))))),?_⟩
 obtain ⟨dx,h1⟩:=R.ob
 obtain ⟨kvs,h2,h3,h4⟩:=R.dc
 refine ⟨_,rfl,_,rfl,p,_,dx,_,_,rfl,h1,T.qa_,T.qk_,ZdP ..,du,_,rfl,DGet.k (k:=Sum.inl b) h2,?_⟩
 rw [h4 b]
 by_cases c:b∈seq
 .rw [if_pos c]
  rw [decide_eq_true c] at k
  exact k
 .rw [if_neg c]
  rw [decide_eq_false c] at k
  exact k
def ZcC (K:W.Frag):Sp:=λvs H Q _=>∃ (p:Addr) (b sh pl:Int) (ru:Str) (ls:Addr) (ads:List Addr) (du:Addr) (seq:List Int) (us:Int->Int) (n:Nat),vs=[.ref p,.int b]/\RoomAt K H p sh pl ru ls ads du seq us n /\
 ∀ (s:Nat) (ad:Addr),(s:Int)=b % sh->ads[s]?=some ad->H ad=some (.lst ((Zh sh (b % sh) seq).map V.int))->Q (.ref ad) H
theorem ZeU (F:Fun K "mates" "Room.mates" ZaA f fd) (T:Txt K mg) (qd_:Def P w K mg base "shelf_of" 1 Zah ZbX):FnOk P w K mg base CX0 2 f fd ZR (ZcC K):=by
 refine F.ok sc_Room_mates (λvs H Q E h=>?_) (λcdv A outer st H vs Q E hr h=>?_)
 .obtain ⟨p,b,sh,pl,ru,ls,ads,du,seq,us,n,rfl,_⟩:=h
  rfl
 obtain ⟨p,b,sh,pl,ru,ls,ads,du,seq,us,n,rfl,R,k⟩:=h
 have nd:=sc_Room_mates.nd
 refine ⟨_,(Zj (Zu (pe_ix (Zo (K:=K) rfl) (Zbq (K:=K) rfl (pv 0) rfl) (Zm qd_ hr.m rfl (pc (Zbq (K:=K) rfl (pv 0) rfl) (pc (pv 1) Zd))) (λ_ _=>rfl)))),?_⟩
 obtain ⟨dx,h1⟩:=R.ob
 obtain ⟨s,ad,e1,e2,e3,e4⟩:=R.shelf b
 exact ⟨_,rfl,p,_,dx,_,_,rfl,h1,T.qa_,T.q0_,ZgC ..,_,rfl,p,_,dx,_,_,rfl,h1,T.qa_,T.q7_,Zim ..,_,rfl,sh,b,rfl,R.s0,ls,_,_,_,rfl,rfl,SqL.of R.st.top,e3,k s ad e1 e2 e4⟩
def ZhC (K:W.Frag):Sp:=λvs H Q _=>∃ (p:Addr) (b sh pl:Int) (ru:Str) (ls:Addr) (ads:List Addr) (du:Addr) (seq:List Int) (us:Int->Int) (n:Nat),vs=[.ref p,.int b]/\RoomAt K H p sh pl ru ls ads du seq us n/\b∈seq/\Q .non H
theorem ZfS (F:Fun K "need" "Room.need" ZaO f fd) (T:Txt K mg) (qi_:MDef P w K mg base (clsOf K "Room") "has" 1 ZaM (spHas K)):FnOk P w K mg base CX0 2 f fd ZaP (ZhC K):=by
 refine F.ok sc_Room_need (λvs H Q E h=>?_) (λcdv A outer st H vs Q E hr h=>?_)
 .obtain ⟨p,b,sh,pl,ru,ls,ads,du,seq,us,n,rfl,_⟩:=h
  rfl
 obtain ⟨p,b,sh,pl,ru,ls,ads,du,seq,us,n,rfl,R,hb,k⟩:=h
 have nd:=sc_Room_need.nd
 refine ⟨_,(Zj (ps_if (ZcG (Zbn (ZZ qi_ hr.m T.qa_ (pv 0) (pc (pv 1) Zd)))) (Zj ps_no) Zy)),?_⟩
 obtain ⟨dx,h1⟩:=R.ob
 refine ⟨_,rfl,p,dx,_,rfl,h1,fl_no ..,_,rfl,p,b,sh,pl,ru,ls,ads,du,seq,us,n,rfl,R,?_⟩
 rw [decide_eq_true hb]
 exact ⟨_,rfl,ifF rfl k⟩
end
section
def ZgF (K:W.Frag):Sp:=λvs H Q _=>∃ (p m:Addr) (ms:List Int) (sh pl:Int) (ru:Str) (ls:Addr) (ads:List Addr) (du:Addr) (seq:List Int) (us:Int->Int) (n:Nat),vs=[.ref p,.ref m]/\RoomAt K H p sh pl ru ls ads du seq us n/\Tb K H/\H m=some (.lst (ms.map V.int))/\ms.length<64/\ms.Nodup/\(∀ b∈ms,b∈seq) /\
 ∀ (D:Addr) (H':Hp) (os:List Int),H D=none->Same H H'->H' D=some (.lst (os.map V.int))->os.Perm ms->(ru = "few" -> os.Pairwise (KLt us ms))->(ru ≠ "few" -> os=ms)->Q (.ref D) H'
theorem ZeV {f tp cg:Addr} {fd:FuncData} (F:Fun K "going" "Room.going" ZJ f fd) (hfc:fd.code=.ref cg) (htp:tabOf K "Room" "going" = tp) (hch:W.codeHdIn K cg tp=true) (bm:BMod base mg) (T:Txt K mg):FnOk P w K mg base CX0 2 f fd ZaS (ZgF K):=by
 refine F.okC sc_Room_going (λvs H Q E h=>?_) (λcdv A outer st H vs Q E hcv hr h=>?_)
 .obtain ⟨p,m,ms,sh,pl,ru,ls,ads,du,seq,us,n,rfl,_⟩:=h
  rfl
 obtain ⟨p,m,ms,sh,pl,ru,ls,ads,du,seq,us,n,rfl,R,tb,hm,h64,hnd,hin,k⟩:=h
 have nd:=sc_Room_going.nd
 have hu:=hu_of hr
 have hc0:cdv=.ref cg:=hcv.symm.trans hfc
 refine ⟨_,(Zf (ps_if (Zs op_eq (Zbq (K:=K) rfl (pv 0) rfl) Zff (Zv _)) (Zj (Zu (ZkX (X:=(cxOf CX0 P w K mg base ZbG "Room.going" (Zg ZJ) f cdv A outer st H E).nox) (K:=K) (P:=tp) (c0:=cg) rfl hr rfl rfl T.va_ (ZkW (osc:=(Zg ZJ)) (oN:=ZbG) (x := "board") (fr:=["self"]) (js:=[0]) (by decide +kernel) rfl rfl) hc0 hch bm rfl rfl rfl (λ_ _ _ _ _=>rfl) (pv 1) (λ_ _ _ _ _=>(Zjb (Znu hr) (Zbq (K:=K) rfl (pv 1) rfl) (pv 0) (λ_ _=>rfl)))))) Zy)
   (Zj (Zu (Zaw (Zbz (K:=K) rfl) rfl T.qo_ Zau (pc (pv 1) Zd))))),?_⟩
 obtain ⟨dx,h1⟩:=R.ob
 obtain ⟨kvs,h2,h3,h4⟩:=R.dc
 refine ⟨_,rfl,p,_,dx,_,_,rfl,h1,T.qa_,T.q2_,ZjM ..,rfl,_,rfl,?_⟩
 refine ZO (λc=>?_) (λc=>?_)
 .have c':ru = "few" := by injection c
  have tb':H tp=some (.tbl tpos tqual):=by
   have t:=tb
   unfold Tb at t
   rw [htp] at t
   exact t
  refine ⟨_,rfl,m,ms,us,rfl,SqL.of hm,h64,hnd,tb',λz hz H2 sm=>?_,λD H' os hD sm hl po so=>k D H' os hD sm hl po (λ_=>so) λz=>absurd c' z⟩
  have v:=h4 z
  rw [if_pos (hin z hz)] at v
  exact ⟨_,rfl,p,_,dx,_,_,rfl,sm _ _ h1,T.qa_,T.qk_,ZdP ..,_,rfl,du,_,rfl,(by have q:=DGet.k (k:=Sum.inl z) (sm _ _ h2); rw [v] at q; exact q),rfl,rfl⟩
 .have c':¬ ru = "few" := λz=>c (by rw [z])
  exact ⟨_,rfl,m,_,rfl,.inl (SqL.of hm),λD hD=>k D _ ms hD (Zc hD _) Za (List.Perm.refl _) (λz=>absurd z c') λ_=>rfl⟩
theorem Zlo {kvs:List (Key×V)} {k:Key} (j:Key):valV (dropK kvs k) j=if j=k then none else valV kvs j:=by
 induction kvs with
 | nil=>by_cases e:j=k <;> simp [dropK,valV,e]
 | cons q r ih =>
  by_cases e:q.1=k
  .rw [Zjc e,ih]
   by_cases c:j=k
   .rw [if_pos c,if_pos c]
   .rw [if_neg c,if_neg c,ZT (λz=>c (z.symm.trans e))]
  .rw [Zjd e]
   by_cases c:q.1=j
   .rw [ZY c,if_neg (λz=>e (c.trans z)),ZY c]
   .rw [ZT c,ih,ZT c]
theorem ZjO (kvs:List (Key×V)) (k:Key):(dropK kvs k).length<=kvs.length:=length_filter_le ..
def ZjP (K:W.Frag):Sp:=λvs H Q _=>∃ (p:Addr) (b sh pl:Int) (ru:Str) (ls:Addr) (ads:List Addr) (du:Addr) (seq:List Int) (us:Int->Int) (n:Nat),vs=[.ref p,.int b]/\RoomAt K H p sh pl ru ls ads du seq us n/\b∈seq /\
 ∀ H',RoomAt K H' p sh pl ru ls ads du (seq.erase b) us n->SR ads du H H'->Q .non H'
theorem ZfT (F:Fun K "drop" "Room.drop" ZaN f fd) (T:Txt K mg) (ql_:MDef P w K mg base (clsOf K "Room") "need" 2 ZaP (ZhC K)) (qe_:MDef P w K mg base (clsOf K "Room") "mates" 2 ZR (ZcC K)):FnOk P w K mg base CX0 3 f fd Zbk (ZjP K):=by
 refine F.ok sc_Room_drop (λvs H Q E h=>?_) (λcdv A outer st H vs Q E hr h=>?_)
 .obtain ⟨p,b,sh,pl,ru,ls,ads,du,seq,us,n,rfl,_⟩:=h
  rfl
 obtain ⟨p,b,sh,pl,ru,ls,ads,du,seq,us,n,rfl,R,hb,k⟩:=h
 have nd:=sc_Room_drop.nd
 refine ⟨_,(Zf (ZA (ZZ ql_ hr.m T.qa_ (pv 0) (pc (pv 1) Zd)))
   (Zf (ZA (ZaJ (K:=K) rfl (pe_bm PySem.F.plainAttrs_list PySem.F.slot_list_remove PySem.F.type_list_remove Zdy (ZZ qe_ hr.m T.qa_ (pv 0) (pc (pv 1) Zd)) (pc (pv 1) Zd))))
   (Zj (ZA (ZkP (Zbq (K:=K) rfl (pv 0) rfl) (pv 1) ⟨rfl,rfl,rfl,rfl⟩))))),?_⟩
 obtain ⟨dx,h1⟩:=R.ob
 obtain ⟨kvs,h2,h3,h4⟩:=R.dc
 obtain ⟨o1,o2,o3,o4,o5,o6⟩:=R.off
 refine ⟨_,rfl,p,dx,_,rfl,h1,fl_no ..,_,rfl,p,b,sh,pl,ru,ls,ads,du,seq,us,n,rfl,R,hb,?_⟩
 refine ⟨_,rfl,p,dx,_,rfl,h1,fl_no ..,_,rfl,p,b,sh,pl,ru,ls,ads,du,seq,us,n,rfl,R,λs ad es hs had=>?_⟩
 have mad:ad∈ads:=mem_of_getElem? hs
 have hmem:b∈Zh sh (b % sh) seq:=mem_shelfS.mpr ⟨hb,rfl⟩
 refine ⟨.inl ⟨rfl,_,SqL.of had⟩,_,rfl,ad,_,b,rfl,rfl,had,hmem,?_⟩
 have S1:Shl (upd H ad (.lst (((Zh sh (b % sh) seq).erase b).map V.int))) ls ads sh (seq.erase b):=by
  refine R.st.put hs ?_ λs' hs'=>?_
  .rw [ZL,es]
  .rw [ZL]
   exact erase_of_not_mem λm=>hs' (by have:=(mem_shelfS.mp m).2; omega)
 have np:p≠ad:=λz=>o2 (z ▸ mad)
 have nd':du≠ad:=λz=>o5 (z ▸ mad)
 have h1':upd H ad (.lst (((Zh sh (b % sh) seq).erase b).map V.int)) p=some (.ins (clsOf K "Room") dx (flds sh pl ru ls du)):=by rw [Ze np]; exact h1
 have h2':upd H ad (.lst (((Zh sh (b % sh) seq).erase b).map V.int)) du=some (.dK kvs):=by rw [Ze nd']; exact h2
 refine ⟨_,rfl,p,_,dx,_,_,rfl,h1',T.qa_,T.qk_,ZdP ..,du,rfl,.inl ⟨_,.inl h2'⟩,_,rfl,kvs,Sum.inl b,_,h2',rfl,(by rw [h4 b,if_pos hb]),?_⟩
 refine k _ ⟨⟨dx,by rw [Ze o1]; exact h1'⟩,S1.other _ (Ne.symm o3) o5,⟨_,Za,Nat.le_trans (ZjO _ _) h3,λx=>?_⟩,R.nd.erase b,R.s0,R.s1⟩ λx o e n1 n2=>?_
 .rw [Zlo,h4 x]
  by_cases c:x=b
  .subst c
   rw [if_pos rfl,if_neg (λm=>((List.Nodup.mem_erase_iff R.nd).mp m).1 rfl)]
  .rw [if_neg (λz=>c (Sum.inl.inj z))]
   by_cases m:x∈seq
   .rw [if_pos m,if_pos ((List.Nodup.mem_erase_iff R.nd).mpr ⟨c,m⟩)]
   .rw [if_neg m,if_neg (λz=>m (mem_of_mem_erase z))]
 .rw [Ze n1,Ze (λz:x=ad=>n2 (z ▸ mad))]
  exact e
def bump (us:Int->Int) (b:Int):Int->Int:=λx=>if x=b then us b+1 else us x
def spUse (K:W.Frag):Sp:=λvs H Q _=>∃ (p:Addr) (b sh pl:Int) (ru:Str) (ls:Addr) (ads:List Addr) (du:Addr) (seq:List Int) (us:Int->Int) (n:Nat),vs=[.ref p,.int b]/\RoomAt K H p sh pl ru ls ads du seq us n/\n<=900/\b∈seq/\seq.length<=900 /\
 ∀ H',RoomAt K H' p sh pl ru ls ads du (if ru = "old" then seq.erase b++[b] else seq) (bump us b) (n+1)->SR ads du H H'->Q .non H'
theorem ZgG (F:Fun K "use" "Room.use" ZaZ f fd) (T:Txt K mg) (ql_:MDef P w K mg base (clsOf K "Room") "need" 2 ZaP (ZhC K)) (qe_:MDef P w K mg base (clsOf K "Room") "mates" 2 ZR (ZcC K)):FnOk P w K mg base CX0 3 f fd Zbv (spUse K):=by
 refine F.ok sc_Room_use (λvs H Q E h=>?_) (λcdv A outer st H vs Q E hr h=>?_)
 .obtain ⟨p,b,sh,pl,ru,ls,ads,du,seq,us,n,rfl,_⟩:=h
  rfl
 obtain ⟨p,b,sh,pl,ru,ls,ads,du,seq,us,n,rfl,R,hn,hb,hsl,k⟩:=h
 have nd:=sc_Room_use.nd
 have hu:=hu_of hr
 refine ⟨_,(Zf (ZA (ZZ ql_ hr.m T.qa_ (pv 0) (pc (pv 1) Zd)))
   (Zf (Zmv hu (Zbq (K:=K) rfl (pv 0) rfl) (pv 1) Zi Znh (λ_ _ _=>rfl))
   (Zj (ps_if (Zs op_eq (Zbq (K:=K) rfl (pv 0) rfl) Zff (Zv _)) (Zf (pst 2 nd (ZZ qe_ hr.m T.qa_ (pv 0) (pc (pv 1) Zd)))
   (Zf (ZA (ZaJ (K:=K) rfl (pe_bm PySem.F.plainAttrs_list PySem.F.slot_list_remove PySem.F.type_list_remove Zdy (pv 2) (pc (pv 1) Zd))))
   (Zj (ZA (ZaJ (K:=K) rfl (pe_bm PySem.F.plainAttrs_list PySem.F.slot_list_append PySem.F.type_list_append ZB (pv 2) (pc (pv 1) Zd))))))) Zy)))),?_⟩
 obtain ⟨dx,h1⟩:=R.ob
 obtain ⟨kvs,h2,h3,h4⟩:=R.dc
 obtain ⟨o1,o2,o3,o4,o5,o6⟩:=R.off
 refine ⟨_,rfl,p,dx,_,rfl,h1,fl_no ..,_,rfl,p,b,sh,pl,ru,ls,ads,du,seq,us,n,rfl,R,hb,?_⟩
 refine ⟨_,rfl,p,_,dx,_,_,rfl,h1,T.qa_,T.qk_,ZdP ..,_,rfl,du,_,rfl,(by have q:=DGet.k (k:=Sum.inl b) h2; rw [h4 b,if_pos hb] at q; exact q),_,_,rfl,rfl,_,DPut.k (k:=Sum.inl b) h2 (Zn (by omega)),?_⟩
 have R1:RoomAt K (upd H du (.dK (putK kvs (Sum.inl b) (.int (us b+1))))) p sh pl ru ls ads du seq (bump us b) (n+1):=by
  refine ⟨⟨dx,by rw [Ze o1]; exact h1⟩,R.st.other _ (Ne.symm o3) o5,⟨_,Za,Nat.le_trans (Zaq ..) (by omega),λx=>?_⟩,R.nd,R.s0,R.s1⟩
  rw [ZcS]
  unfold bump
  by_cases c:x=b
  .subst c
   rw [if_pos rfl,if_pos hb,if_pos rfl]
  .rw [if_neg (λz=>c (Sum.inl.inj z)),h4 x,if_neg c]
 have s1:SR ads du H (upd H du (.dK (putK kvs (Sum.inl b) (.int (us b+1))))):=λx o e n1 n2=>by rw [Ze n1]; exact e
 generalize upd H du (.dK (putK kvs (Sum.inl b) (.int (us b+1))))=H1 at *
 obtain ⟨dx1,g1⟩:=R1.ob
 refine ⟨_,rfl,p,_,dx1,_,_,rfl,g1,T.qa_,T.q2_,ZjM ..,rfl,_,rfl,?_⟩
 refine ZO (λc=>?_) (λc=>?_)
 .have c':ru = "old" := by injection c
  rw [if_pos c'] at k
  refine ⟨_,rfl,p,dx1,_,rfl,g1,fl_no ..,_,rfl,p,b,sh,pl,ru,ls,ads,du,seq,_,_,rfl,R1,λs ad es hs had=>?_⟩
  have mad:ad∈ads:=mem_of_getElem? hs
  have hmem:b∈Zh sh (b % sh) seq:=mem_shelfS.mpr ⟨hb,rfl⟩
  refine ⟨_,rfl,.inl ⟨rfl,_,SqL.of had⟩,_,rfl,ad,_,b,rfl,rfl,had,hmem,?_⟩
  have ll:((Zh sh (b % sh) seq).erase b).length<=900:=Nat.le_trans length_erase_le (Nat.le_trans (length_filter_le ..) hsl)
  refine ⟨_,rfl,.inl ⟨rfl,_,SqL.of Za⟩,_,rfl,ad,_,_,rfl,rfl,Za,Zn (by rw [length_map]; omega),?_⟩
  rw [Zbw]
  have e1:(((Zh sh (b % sh) seq).erase b).map V.int++[V.int b])=((Zh sh (b % sh) seq).erase b++[b]).map V.int:=by rw [map_append]; rfl
  have S2:Shl (upd H1 ad (.lst (((Zh sh (b % sh) seq).erase b++[b]).map V.int))) ls ads sh (seq.erase b++[b]):=by
   refine R1.st.put hs ?_ λs' hs'=>?_
   .rw [ZF,if_pos es.symm,ZL,es]
   .rw [ZF,if_neg (by omega),ZL]
    exact erase_of_not_mem λm=>hs' (by have:=(mem_shelfS.mp m).2; omega)
  have np:p≠ad:=λz=>o2 (z ▸ mad)
  have ndu:du≠ad:=λz=>o5 (z ▸ mad)
  obtain ⟨kvs1,g2,g3,g4⟩:=R1.dc
  have hme:∀ x,x∈seq.erase b++[b]↔x∈seq:=λx=>by
   rw [mem_append,mem_singleton,List.Nodup.mem_erase_iff R.nd]
   constructor
   .rintro (⟨_,m⟩ | rfl)
    .exact m
    .exact hb
   .intro m
    by_cases z:x=b
    .exact .inr z
    .exact .inl ⟨z,m⟩
  rw [e1]
  refine k _ ⟨⟨dx1,by rw [Ze np]; exact g1⟩,S2,⟨kvs1,by rw [Ze ndu]; exact g2,g3,λx=>?_⟩,?_,R.s0,R.s1⟩ λx o e n1 n2=>?_
  .rw [g4 x]
   by_cases m:x∈seq
   .rw [if_pos m,if_pos ((hme x).mpr m)]
   .rw [if_neg m,if_neg (λz=>m ((hme x).mp z))]
  .refine Zbd (R.nd.erase b) λm=>((List.Nodup.mem_erase_iff R.nd).mp m).1 rfl
  .rw [Ze (λz:x=ad=>n2 (z ▸ mad))]
   exact s1 _ _ e n1 n2
 .have c':¬ ru = "old" := λz=>c (by rw [z])
  rw [if_neg c'] at k
  exact k _ R1 s1
end
def tmR (ru:Str) (r:Rec):Int:=if ru = "old" then r.t1 else r.t0
def tm (ru:Str) (S:List Rec) (x:Int):Int:=match recOf S x with
 | some r=>tmR ru r
 | none=>0
theorem ZfU {ru:Str} {S:List Rec} {r:Rec} (u:Uq S) (h:r∈S):tm ru S r.b=tmR ru r:=by
 unfold tm
 rw [u.rec r h]
def lessO (seq:List Int):Option Int->List Int
 | none=>seq
 | some g=>seq.erase g
structure Link (sh pl:Int) (ru:Str) (S:List Rec) (seq:List Int) (us:Int->Int) (i:Nat):Prop where
 uq:Uq S
 nd:seq.Nodup
 mem:∀ b,b∈seq↔b∈bds S
 ord:seq.Pairwise λa b=>tm ru S a<tm ru S b
 bnd:∀ b∈seq,tm ru S b<i
 usn:∀ r∈S,us r.b=r.n
 cap:∀ s,((Zh sh s seq).length:Int)<=pl
def goneP (ru:Str) (us:Int->Int) (pl:Int) (ms:List Int) (gone:Option Int):Prop :=
 ((ms.length:Int)<pl->gone=none)/\(¬ (ms.length:Int)<pl->∃ (g:Int) (rest:List Int),gone=some g/\(g :: rest).Perm ms/\(ru = "few" -> (g :: rest).Pairwise (KLt us ms))/\(ru ≠ "few" -> g :: rest=ms))
theorem ZbP:∀ {a b:List Int},a.Nodup->b.Nodup->(∀ x,x∈a↔x∈b)->a.length=b.length
 | [],b,_,_,h=>by
  cases b with
  | nil=>rfl
  | cons y r=>exact absurd ((h y).mpr mem_cons_self) (by simp)
 | x :: a,b,na,nb,h=>by
  obtain ⟨n1,n2⟩:=List.nodup_cons.mp na
  have mb:x∈b:=(h x).mp mem_cons_self
  have ih:=ZbP n2 (nb.erase x) λy=>by
   rw [List.Nodup.mem_erase_iff nb]
   constructor
   .intro m
    exact ⟨λz=>n1 (z ▸ m),(h y).mp (mem_cons_of_mem _ m)⟩
   .rintro ⟨z,m⟩
    rcases List.mem_cons.mp ((h y).mpr m) with q | q
    .exact absurd q z
    .exact q
  rw [length_cons,ih,length_erase_of_mem mb]
  have:0<b.length:=length_pos_of_mem mb
  omega
theorem Link.onsh {sh pl:Int} {ru:Str} {S:List Rec} {seq:List Int} {us:Int->Int} {i:Nat} (L:Link sh pl ru S seq us i) (z:Int):((Zac sh z S).length=(Zh sh (z % sh) seq).length)/\∀ x,x∈Zh sh (z % sh) seq↔∃ r∈Zac sh z S,r.b=x:=by
 have hm:∀ x,x∈Zh sh (z % sh) seq↔∃ r∈Zac sh z S,r.b=x:=λx=>by
  rw [mem_shelfS,L.mem x]
  constructor
  .rintro ⟨m,e⟩
   obtain ⟨r,hr,rfl⟩:=List.mem_map.mp m
   exact ⟨r,List.mem_filter.mpr ⟨hr,by simp [e]⟩,rfl⟩
  .rintro ⟨r,hr,rfl⟩
   obtain ⟨h1,h2⟩:=List.mem_filter.mp hr
   exact ⟨List.mem_map.mpr ⟨r,h1,rfl⟩,by simpa using h2⟩
 refine ⟨?_,hm⟩
 have nd1:((Zac sh z S).map (·.b)).Nodup:=List.Nodup.sublist (List.Sublist.map _ filter_sublist) L.uq
 have nd2:(Zh sh (z % sh) seq).Nodup:=List.Nodup.sublist filter_sublist L.nd
 have e:=ZbP nd1 nd2 λx=>by
  rw [hm x,mem_map]
 rw [length_map] at e
 exact e
theorem Zlp {R:Int->Int->Prop} {l:List Int} (p:l.Pairwise R) {a b:Int} (ha:a∈l) (hb:b∈l) (h:l.idxOf a<l.idxOf b):R a b:=by
 have la:=List.idxOf_lt_length_of_mem ha
 have lb:=List.idxOf_lt_length_of_mem hb
 have q:=List.pairwise_iff_getElem.mp p _ _ la lb h
 rwa [List.getElem_idxOf la,List.getElem_idxOf lb] at q
theorem ZgH {a b:Int} {x y:List Int} (h:a<b):HT.lexLt (a :: x) (b :: y)=true:=by
 rw [HT.lexLt_cons,if_neg (by omega),decide_eq_true h]
theorem ZmK {sh pl:Int} {ru:Str} {S:List Rec} {seq:List Int} {us:Int->Int} {i:Nat} {z:Int} {gone:Option Int} (L:Link sh pl ru S seq us i) (hpl:1<=pl) (hru:Rule ru) (G:goneP ru us pl (Zh sh (z % sh) seq) gone):goesF sh pl ru S z=gone:=by
 obtain ⟨hlen,hmem⟩:=L.onsh z
 by_cases c:((Zac sh z S).length:Int)<pl
 .rw [G.1 (by rw [← hlen]; exact c)]
  unfold goesF
  rw [if_pos c]
 .obtain ⟨g,rest,rfl,pm,h1,h2⟩:=G.2 (by rw [← hlen]; exact c)
  obtain ⟨r,hr,e,least⟩:=Zes (ru:=ru) hpl c
  rw [e]
  have hg:g∈Zh sh (z % sh) seq:=pm.mem_iff.mp mem_cons_self
  obtain ⟨r0,hr0,e0⟩:=(hmem g).mp hg
  have hrb:r.b∈Zh sh (z % sh) seq:=(hmem r.b).mpr ⟨r,hr,rfl⟩
  by_cases eq:r.b=g
  .rw [eq]
  .exfalso
   have hrest:r.b∈rest:=by
    rcases List.mem_cons.mp (pm.mem_iff.mpr hrb) with q | q
    .exact absurd q eq
    .exact q
   have inS:r∈S:=(List.mem_filter.mp hr).1
   have inS0:r0∈S:=(List.mem_filter.mp hr0).1
   have ordS:(Zh sh (z % sh) seq).Pairwise λa b=>tm ru S a<tm ru S b:=List.Pairwise.sublist filter_sublist L.ord
   have bad:=least r0 hr0
   have ht:∀ {a b:Int},a∈Zh sh (z % sh) seq->b∈Zh sh (z % sh) seq->(Zh sh (z % sh) seq).idxOf a<(Zh sh (z % sh) seq).idxOf b->tm ru S a<tm ru S b:=λha hb h=>Zlp ordS ha hb h
   by_cases few:ru = "few"
   .have k:=List.rel_of_pairwise_cons (h1 few) hrest
    have e1:tm ru S r0.b=r0.t0:=by rw [ZfU L.uq inS0,tmR,if_neg (by rw [few]; decide)]
    have e2:tm ru S r.b=r.t0:=by rw [ZfU L.uq inS,tmR,if_neg (by rw [few]; decide)]
    have u1:=L.usn r0 inS0
    have u2:=L.usn r inS
    have kk:∀ q:Rec,keyR ru q=[q.n,q.t0]:=λq=>by
     unfold keyR byL
     rw [few,if_neg (by decide),if_neg (by decide)]
     rfl
    rw [kk,kk] at bad
    rcases k with k | ⟨k1,k2⟩
    .rw [← e0,u1,u2] at k
     rw [show [r0.n,r0.t0]++[r0.b]=r0.n :: [r0.t0,r0.b] from rfl,show [r.n,r.t0]++[r.b]=r.n :: [r.t0,r.b] from rfl,ZgH k] at bad
     cases bad
    .have t:=ht hg hrb k2
     rw [← e0,e1,e2] at t
     rw [← e0,u1,u2] at k1
     rw [show [r0.n,r0.t0]++[r0.b]=r0.n :: [r0.t0,r0.b] from rfl,show [r.n,r.t0]++[r.b]=r.n :: [r.t0,r.b] from rfl,HT.lexLt_cons,if_pos k1,ZgH t] at bad
     cases bad
   .have e3:=h2 few
    have t:tm ru S g<tm ru S r.b:=by
     rw [← e3] at ordS
     exact List.rel_of_pairwise_cons ordS hrest
    rw [← e0,ZfU L.uq inS0,ZfU L.uq inS] at t
    have kk:∀ q:Rec,keyR ru q++[q.b]=[tmR ru q,q.b]:=λq=>by
     rcases hru with rfl | rfl | rfl
     .unfold keyR byL tmR
      rw [if_pos rfl,if_pos rfl]
      rfl
     .unfold keyR byL tmR
      rw [if_neg (by decide),if_pos rfl,if_neg (by decide)]
      rfl
     .exact absurd rfl few
    rw [kk,kk,ZgH t] at bad
    cases bad
theorem ZfV {ru:Str} {S:List Rec} {q:Rec} (x:Int):tm ru (putR S q) x=if x=q.b then tmR ru q else tm ru S x:=by
 unfold tm
 rw [ZdO]
 by_cases e:x=q.b
 .rw [if_pos e,if_pos e]
 .rw [if_neg e,if_neg e]
theorem ZmL {ru:Str} {S:List Rec} {g:Option Int} {x:Int} (h:∀ y,g=some y->x≠y):tm ru (lessR S g) x=tm ru S x:=by
 cases g with
 | none=>rfl
 | some y =>
  unfold tm
  rw [show recOf (lessR S (some y)) x=recOf S x by
   show recOf (dropR S y) x=_
   rw [Zet,if_neg (h y rfl)]]
theorem ZhD {seq:List Int} {g:Option Int}:(lessO seq g).length<=seq.length:=by
 cases g with
 | none=>exact Nat.le_refl _
 | some g=>exact length_erase_le
theorem less_sub {seq:List Int} {g:Option Int}:(lessO seq g).Sublist seq:=by
 cases g with
 | none=>exact List.Sublist.refl _
 | some g=>exact List.erase_sublist
theorem Zdb {seq:List Int} {g:Option Int} (nd:seq.Nodup) {x:Int}:x∈lessO seq g↔x∈seq/\∀ y,g=some y->x≠y:=by
 cases g with
 | none=>exact ⟨λh=>⟨h,λy e=>by cases e⟩,λh=>h.1⟩
 | some g =>
  show x∈seq.erase g↔_
  rw [List.Nodup.mem_erase_iff nd]
  exact ⟨λh=>⟨h.2,λy e=>by cases e; exact h.1⟩,λh=>⟨h.2 g rfl,h.1⟩⟩
theorem ZhE {S:List Rec} {g:Option Int} {x:Int}:x∈bds (lessR S g)↔x∈bds S/\∀ y,g=some y->x≠y:=by
 cases g with
 | none=>exact ⟨λh=>⟨h,λy e=>by cases e⟩,λh=>h.1⟩
 | some g =>
  show x∈bds (dropR S g)↔_
  rw [Zln]
  exact ⟨λh=>⟨h.1,λy e=>by cases e; exact h.2⟩,λh=>⟨h.1,h.2 g rfl⟩⟩
theorem Zin {S:List Rec} {o:Option Int} {r:Rec} (h:r∈lessR S o):r∈S:=by
 cases o with
 | none=>exact h
 | some g=>exact (List.mem_filter.mp h).1
theorem ZfW {S:List Rec} {q r:Rec} (u:Uq S) (h:r∈putR S q):r=q\/(r∈S/\r.b≠q.b):=by
 have e:=(u.put q).rec r h
 rw [ZdO] at e
 by_cases c:r.b=q.b
 .rw [if_pos c] at e
  exact .inl (Option.some.inj e).symm
 .rw [if_neg c] at e
  exact .inr ⟨(ZcB e).1,c⟩
theorem ZfX {R:Int->Int->Prop} {l:List Int} {z:Int} (p:l.Pairwise R) (h:∀ x∈l,R x z):(l++[z]).Pairwise R:=by
 rw [pairwise_append]
 exact ⟨p,List.pairwise_singleton _ _,λa ha b hb=>by rw [List.mem_singleton.mp hb]; exact h a ha⟩
theorem Link.missed {sh pl:Int} {ru:Str} {S:List Rec} {seq:List Int} {us us':Int->Int} {i:Nat} {z:Int} {gone:Option Int} (L:Link sh pl ru S seq us i) (hz:z∉seq) (hg:goesF sh pl ru S z=gone) (hu:∀ x,us' x=if x=z then 0 else us x)
  (hc:((Zh sh (z % sh) seq).length:Int)<pl\/∃ g∈Zh sh (z % sh) seq,gone=some g):Link sh pl ru (putR (lessR S gone) ⟨z,i,i,0⟩) (lessO seq gone++[z]) us' (i+1):=by
 have u1:=L.uq.less gone
 have nz:z∉lessO seq gone:=λm=>hz (less_sub.subset m)
 have tq:tmR ru ⟨z,i,i,0⟩=(i:Int):=by unfold tmR; split <;> rfl
 have te:∀ x∈lessO seq gone,tm ru (putR (lessR S gone) ⟨z,i,i,0⟩) x=tm ru S x:=λx m=>by
  obtain ⟨m1,m2⟩:=(Zdb L.nd).mp m
  rw [ZfV,if_neg (λe:x=z=>nz (e ▸ m)),ZmL m2]
 have tz:tm ru (putR (lessR S gone) ⟨z,i,i,0⟩) z=(i:Int):=by rw [ZfV,if_pos rfl,tq]
 refine ⟨u1.put _,Zbd (L.nd.sublist less_sub) nz,λx=>?_,ZfX ?_ ?_,λx m=>?_,λr hr=>?_,λs=>?_⟩
 .rw [mem_append,mem_singleton,ZeT,Zdb L.nd,ZhE,L.mem x]
  exact ⟨λh=>h.elim (λq=>.inr q) λq=>.inl q,λh=>h.elim (λq=>.inr q) λq=>.inl q⟩
 .have p:=L.ord.sublist (less_sub (g:=gone))
  exact p.imp_of_mem λha hb h=>by rw [te _ ha,te _ hb]; exact h
 .intro x m
  rw [te x m,tz]
  exact L.bnd x (less_sub.subset m)
 .rcases List.mem_append.mp m with m | m
  .rw [te x m]
   have:=L.bnd x (less_sub.subset m)
   omega
  .rw [List.mem_singleton.mp m,tz]
   omega
 .rcases ZfW u1 hr with rfl | ⟨h1,h2⟩
  .rw [hu,if_pos rfl]
  .rw [hu,if_neg h2]
   exact L.usn r (Zin h1)
 .rw [ZF]
  have hl:Zh sh s (lessO seq gone)=lessO (Zh sh s seq) gone:=by
   cases gone with
   | none=>rfl
   | some g=>exact ZL sh s g seq
  rw [hl]
  have cs:=L.cap s
  have ll:=ZhD (seq:=Zh sh s seq) (g:=gone)
  split
  .rename_i e
   rw [length_append]
   rcases hc with hc | ⟨g,hg',rfl⟩
   .rw [e] at hc
    have:[z].length=1:=rfl
    omega
   .rw [e] at hg'
    have e1:(lessO (Zh sh s seq) (some g)).length=(Zh sh s seq).length - 1:=length_erase_of_mem hg'
    have p0:0<(Zh sh s seq).length:=length_pos_of_mem hg'
    have:[z].length=1:=rfl
    omega
  .omega
theorem Link.found {sh pl:Int} {ru:Str} {S:List Rec} {seq:List Int} {us us':Int->Int} {i:Nat} {z:Int} {r:Rec} (L:Link sh pl ru S seq us i) (hr:recOf S z=some r) (hu:∀ x,us' x=if x=z then us z+1 else us x) :
  Link sh pl ru (putR S ⟨z,r.t0,i,r.n+1⟩) (if ru = "old" then seq.erase z++[z] else seq) us' (i+1):=by
 obtain ⟨rS,rb⟩:=ZcB hr
 subst rb
 have zin:r.b∈seq:=(L.mem _).mpr (List.mem_map.mpr ⟨r,rS,rfl⟩)
 have usr:∀ q∈putR S ⟨r.b,r.t0,i,r.n+1⟩,us' q.b=q.n:=λq hq=>by
  rcases ZfW L.uq hq with rfl | ⟨h1,h2⟩
  .rw [hu,if_pos rfl,L.usn r rS]
  .rw [hu,if_neg h2]
   exact L.usn q h1
 have memS:∀ x,x∈bds (putR S ⟨r.b,r.t0,i,r.n+1⟩)↔x∈bds S:=λx=>by
  rw [ZeT]
  constructor
  .rintro (rfl | h)
   .exact (L.mem _).mp zin
   .exact h
  .exact λh=>.inr h
 by_cases old:ru = "old"
 .rw [if_pos old]
  have nz:r.b∉seq.erase r.b:=λm=>((List.Nodup.mem_erase_iff L.nd).mp m).1 rfl
  have te:∀ x∈seq.erase r.b,tm ru (putR S ⟨r.b,r.t0,i,r.n+1⟩) x=tm ru S x:=λx m=>by
   rw [ZfV,if_neg (λe:x=r.b=>nz (e ▸ m))]
  have tz:tm ru (putR S ⟨r.b,r.t0,i,r.n+1⟩) r.b=(i:Int):=by rw [ZfV,if_pos rfl,tmR,if_pos old]
  refine ⟨L.uq.put _,Zbd (L.nd.erase _) nz,λx=>?_,ZfX ?_ ?_,λx m=>?_,usr,λs=>?_⟩
  .rw [memS,← L.mem x,mem_append,mem_singleton,List.Nodup.mem_erase_iff L.nd]
   constructor
   .rintro (⟨_,m⟩ | rfl)
    .exact m
    .exact zin
   .intro m
    by_cases e:x=r.b
    .exact .inr e
    .exact .inl ⟨e,m⟩
  .have p:=L.ord.sublist (List.erase_sublist (a:=r.b))
   exact p.imp_of_mem λha hb h=>by rw [te _ ha,te _ hb]; exact h
  .intro x m
   rw [te x m,tz]
   exact L.bnd x (mem_of_mem_erase m)
  .rcases List.mem_append.mp m with m | m
   .rw [te x m]
    have:=L.bnd x (mem_of_mem_erase m)
    omega
   .rw [List.mem_singleton.mp m,tz]
    omega
  .rw [ZF,ZL]
   have cs:=L.cap s
   split
   .rename_i e
    have hin:r.b∈Zh sh s seq:=mem_shelfS.mpr ⟨zin,e⟩
    rw [length_append,length_erase_of_mem hin]
    have p0:0<(Zh sh s seq).length:=length_pos_of_mem hin
    have:[r.b].length=1:=rfl
    omega
   .have:((Zh sh s seq).erase r.b).length<=(Zh sh s seq).length:=length_erase_le
    omega
 .rw [if_neg old]
  have te:∀ x,tm ru (putR S ⟨r.b,r.t0,i,r.n+1⟩) x=tm ru S x:=λx=>by
   rw [ZfV]
   by_cases e:x=r.b
   .rw [if_pos e,e,ZfU L.uq rS,tmR,tmR,if_neg old,if_neg old]
   .rw [if_neg e]
  refine ⟨L.uq.put _,L.nd,λx=>by rw [memS,L.mem x],L.ord.imp λh=>by rw [te,te]; exact h,λx m=>?_,usr,L.cap⟩
  rw [te]
  have:=L.bnd x m
  omega
section
def ZjQ (K:W.Frag):Sp:=λvs H Q _=>∃ (p dx:Addr) (sh pl:Int) (ru:Str),vs=[.ref p,.int sh,.int pl,.str ru]/\H p=some (.ins (clsOf K "Room") dx [])/\1<=sh/\sh<=64 /\
 ∀ (ls:Addr) (ads:List Addr) (du:Addr) (H':Hp),RoomAt K H' p sh pl ru ls ads du [] (λ_=>0) 0->H ls=none->H du=none->(∀ ad∈ads,H ad=none)->(∀ b o,H b=some o->b≠p->H' b=some o)->Q .non H'
theorem ZfY (F:Fun K "__init__" "Room.__init__" Zas f fd) (T:Txt K mg):FnOk P w K mg base CX0 1 f fd Zbj (ZjQ K):=by
 refine F.ok sc_Room_init (λvs H Q E h=>?_) (λcdv A outer st H vs Q E hr h=>?_)
 .obtain ⟨p,dx,sh,pl,ru,rfl,_⟩:=h
  rfl
 obtain ⟨p,dx,sh,pl,ru,rfl,hp,hs0,hs1,k⟩:=h
 have nd:=sc_Room_init.nd
 refine ⟨_,(Zf (Zfi (pv 0) (pv 1) rfl)
   (Zf (Zfi (pv 0) (pv 2) rfl)
   (Zf (Zfi (pv 0) (pv 3) rfl)
   (Zf (Zfi (pv 0) (ZaV (Zw (osc:=(Zg Zas)) (oN:=ZdG) (N:=["number"]) (own:=1) (js:=[]) (by decide +kernel) rfl rfl) rfl (ZW rfl T.qh_ (pc (pv 1) Zd)) (λ_ _ _ _ _ _=>(pgn 0 (show List.Nodup (["number"]:List Str) by decide +kernel))) (λ_ _ _ _ _ _=>(Zz Zd))) rfl)
   (Zj (Zfi (pv 0) ZcT rfl)))))),?_⟩
 refine ⟨_,rfl,_,rfl,p,_,dx,_,rfl,hp,T.qa_,T.q7_,(by show 0<1000; decide),?_⟩
 refine ⟨_,rfl,_,rfl,p,_,dx,_,rfl,Za,T.qa_,T.vf_,(by show 1<1000; decide),?_⟩
 refine ⟨_,rfl,_,rfl,p,_,dx,_,rfl,Za,T.qa_,T.q2_,(by show 2<1000; decide),?_⟩
 have e3:upd (upd (upd H p (.ins (clsOf K "Room") dx (putF "shelves" (.int sh) []))) p (.ins (clsOf K "Room") dx (putF "places" (.int pl) (putF "shelves" (.int sh) [])))) p (.ins (clsOf K "Room") dx (putF "rule" (.str ru) (putF "places" (.int pl) (putF "shelves" (.int sh) [])))) p=some (.ins (clsOf K "Room") dx (putF "rule" (.str ru) (putF "places" (.int pl) (putF "shelves" (.int sh) [])))):=Za
 have o3:∀ b o,H b=some o->b≠p->upd (upd (upd H p (.ins (clsOf K "Room") dx (putF "shelves" (.int sh) []))) p (.ins (clsOf K "Room") dx (putF "places" (.int pl) (putF "shelves" (.int sh) [])))) p (.ins (clsOf K "Room") dx (putF "rule" (.str ru) (putF "places" (.int pl) (putF "shelves" (.int sh) [])))) b=some o:=λb o e n=>by rw [Ze n,Ze n,Ze n]; exact e
 generalize upd (upd (upd H p (.ins (clsOf K "Room") dx (putF "shelves" (.int sh) []))) p (.ins (clsOf K "Room") dx (putF "places" (.int pl) (putF "shelves" (.int sh) [])))) p (.ins (clsOf K "Room") dx (putF "rule" (.str ru) (putF "places" (.int pl) (putF "shelves" (.int sh) []))))=H3 at *
 have f3:∀ b,H3 b=none->H b=none:=λb e=>by
  cases q:H b with
  | none=>rfl
  | some o =>
   by_cases z:b=p
   .rw [z,e3] at e; cases e
   .rw [o3 b o q z] at e; cases e
 refine ⟨_,rfl,sh,rfl,by omega,by omega,λls hls=>?_⟩
 refine Zav (lo:=0) (n:=sh.toNat) (l:=ls) (λj ys σ G=>∃ (v0:Option V) (ads:List Addr),σ=[v0]/\ys=ads.map V.ref/\ads.length=j/\ads.Nodup/\ls∉ads/\G ls=some (.lst ys)/\(∀ ad∈ads,H3 ad=none/\G ad=some (.lst []))/\Same H3 G)
  ⟨none,[],rfl,rfl,rfl,nodup_nil,by simp,Za,by simp,Zc hls _⟩ ?_ ?_
 .rintro j ys σ G hj hy ⟨v0,ads,rfl,rfl,hlen,hnd,hoff,g1,g2,s1⟩
  refine ⟨(sl 0),λq hq=>?_⟩
  have nq:ls≠q:=Zb g1 hq
  have niq:q∉ads:=λm=>by rw [(g2 q m).2] at hq; cases hq
  refine CNx.of (Nat.le_trans (by omega:sh.toNat<=64) (by decide)) hj hy (by rw [Ze nq]; exact g1) ⟨_,ads++[q],rfl,by rw [map_append]; rfl,by rw [length_append,hlen]; rfl,Zbd hnd niq,?_,Za,λad m=>?_,?_⟩
  .intro m
   rcases List.mem_append.mp m with m | m
   .exact hoff m
   .exact nq (by simpa using m)
  .rcases List.mem_append.mp m with m | m
   .rw [Ze (λz:ad=ls=>hoff (z ▸ m)),Ze (λz:ad=q=>niq (z ▸ m))]
    exact g2 ad m
   .have e:ad=q:=by simpa using m
    subst e
    rw [Ze (Ne.symm nq)]
    exact ⟨s1.free hq,Za⟩
  .intro e o y
   rw [Ze (Zb y hls),Ze (Zb (s1 _ _ y) hq)]
   exact s1 _ _ y
 rintro ys σ G hy ⟨v0,ads,rfl,rfl,hlen,hnd,hoff,g1,g2,s1⟩
 have gp:=s1 _ _ e3
 refine ⟨_,rfl,p,_,dx,_,rfl,gp,T.qa_,T.q0_,(by show 3<1000; decide),?_⟩
 intro du hdu
 have nls:ls≠p:=λz=>by rw [z,e3] at hls; cases hls
 have nas:∀ ad∈ads,ad≠p:=λad m z=>by have q:=(g2 ad m).1; rw [z,e3] at q; cases q
 have npd:p≠du:=Zb (Za (H:=G) (a:=p) (o:=.ins (clsOf K "Room") dx (putF "standing" (.ref ls) (putF "rule" (.str ru) (putF "places" (.int pl) (putF "shelves" (.int sh) [])))))) hdu
 have gl:ls≠du:=λz=>by rw [← z,Ze nls,g1] at hdu; cases hdu
 have ga:du∉ads:=λm=>by rw [Ze (Ne.symm npd),(g2 du m).2] at hdu; cases hdu
 refine ⟨_,rfl,p,_,dx,_,rfl,(by rw [Ze npd]; exact Za),T.qa_,T.qk_,(by show 4<1000; decide),?_⟩
 have hduH3:H3 du=none:=by
  rw [Ze (Ne.symm npd)] at hdu
  exact s1.free hdu
 refine k ls ads du _ ⟨⟨dx,Za⟩,⟨?_,hlen,hnd,hoff,λi ad e=>?_⟩,⟨[],?_,Nat.le_refl _,λb=>by simp [valV]⟩,nodup_nil,hs0,hs1⟩ (f3 _ hls) (f3 _ hduH3) (λad m=>f3 _ (g2 ad m).1) λb o e n=>?_
 .rw [Ze nls,Ze gl,Ze nls]
  exact g1
 .have m:=mem_of_getElem? e
  rw [Ze (nas ad m),Ze (λz:ad=du=>ga (z ▸ m)),Ze (nas ad m)]
  exact (g2 ad m).2
 .rw [Ze (Ne.symm npd)]
  exact Za
 .have q:=s1 _ _ (o3 b o e n)
  have nb:b≠du:=λz=>by
   rw [← z,Ze n,q] at hdu
   cases hdu
  rw [Ze n,Ze nb,Ze n]
  exact q
def zero (us:Int->Int) (b:Int):Int->Int:=λx=>if x=b then 0 else us x
def ZgI (K:W.Frag):Sp:=λvs H Q _=>∃ (p:Addr) (b sh pl:Int) (ru:Str) (ls:Addr) (ads:List Addr) (du:Addr) (seq:List Int) (us:Int->Int) (n:Nat),vs=[.ref p,.int b]/\RoomAt K H p sh pl ru ls ads du seq us n/\Tb K H/\n<=900/\b∉seq/\1<=pl/\(Zh sh (b % sh) seq).length<64 /\
 ∀ (gone:Option Int) (H':Hp),goneP ru us pl (Zh sh (b % sh) seq) gone->RoomAt K H' p sh pl ru ls ads du (lessO seq gone++[b]) (zero us b) (n+1)->SR ads du H H'->Q (optV gone) H'
def ZeW (K:W.Frag):Sp:=λvs H Q _=>∃ (p:Addr) (b sh pl:Int) (ru:Str) (ls:Addr) (ads:List Addr) (du:Addr) (seq:List Int) (us:Int->Int) (n:Nat),vs=[.ref p,.int b]/\RoomAt K H p sh pl ru ls ads du seq us n/\Tb K H/\1<=pl/\(Zh sh (b % sh) seq).length<64 /\
 ∀ (gone:Option Int) (H':Hp),goneP ru us pl (Zh sh (b % sh) seq) gone->Same H H'->Q (optV gone) H'
theorem Zco (F:Fun K "leaver_for" "Room.leaver_for" ZE f fd) (T:Txt K mg) (qe_:MDef P w K mg base (clsOf K "Room") "mates" 2 ZR (ZcC K)) (qw_:MDef P w K mg base (clsOf K "Room") "going" 2 ZaS (ZgF K)):FnOk P w K mg base CX0 3 f fd ZQ (ZeW K):=by
 refine F.ok sc_Room_leaver_for (λvs H Q E h=>?_) (λcdv A outer st H vs Q E hr h=>?_)
 .obtain ⟨p,b,sh,pl,ru,ls,ads,du,seq,us,n,rfl,_⟩:=h
  rfl
 obtain ⟨p,b,sh,pl,ru,ls,ads,du,seq,us,n,rfl,R,tb,hpl,h64,k⟩:=h
 have nd:=sc_Room_leaver_for.nd
 have hu:=hu_of hr
 refine ⟨_,(Zf (pst 2 nd (ZZ qe_ hr.m T.qa_ (pv 0) (pc (pv 1) Zd)))
   (Zf (ps_if (Zs op_lt (Zk (Zl (K:=K) rfl) rfl T.qf_ PySem.boot_len (pc (pv 2) Zd)) (Zbq (K:=K) rfl (pv 0) rfl) (Zv _)) (Zj (Zu ZdY)) Zy)
   (Zj (Zu (pe_ix (Zo (K:=K) rfl) (ZZ qw_ hr.m T.qa_ (pv 0) (pc (pv 2) Zd)) Zi (λ_ _=>rfl)))))),?_⟩
 obtain ⟨dx,h1⟩:=R.ob
 refine ⟨_,rfl,p,dx,_,rfl,h1,fl_no ..,_,rfl,p,b,sh,pl,ru,ls,ads,du,seq,us,n,rfl,R,λs ad es hs had=>?_⟩
 have hnd:(Zh sh (b % sh) seq).Nodup:=R.nd.sublist filter_sublist
 refine ⟨_,rfl,ad,_,rfl,.inl (SqL.of had),_,rfl,p,_,dx,_,_,rfl,h1,T.qa_,T.vf_,ZjN ..,_,_,rfl,rfl,_,rfl,?_⟩
 rw [length_map]
 refine ZO (λc=>?_) (λc=>?_)
 .exact k none H ⟨λ_=>rfl,λz=>absurd z (by omega)⟩ (Same.refl _)
 .refine ⟨_,rfl,p,dx,_,rfl,h1,fl_no ..,_,rfl,p,ad,Zh sh (b % sh) seq,sh,pl,ru,ls,ads,du,seq,us,n,rfl,R,tb,had,h64,hnd,(λx m=>(mem_shelfS.mp m).1),λD H' os hD sm hl po s1 s2=>?_⟩
  have lo:=po.length_eq
  match os,hl,po,s1,s2,lo with
  | [],_,_,_,_,lo=>exact absurd lo (by simp; omega)
  | g :: rest,hl,po,s1,s2,lo =>
   refine ⟨D,_,_,_,rfl,rfl,SqL.of hl,atI0,?_⟩
   exact k (some g) H' ⟨λz=>absurd c (by omega),λ_=>⟨g,rest,rfl,po,s1,s2⟩⟩ sm
theorem ZeX (F:Fun K "bring" "Room.bring" Zaz f fd) (T:Txt K mg) (qi_:MDef P w K mg base (clsOf K "Room") "has" 1 ZaM (spHas K)) (qm_:MDef P w K mg base (clsOf K "Room") "leaver_for" 3 ZQ (ZeW K)) (qe_:MDef P w K mg base (clsOf K "Room") "mates" 2 ZR (ZcC K)) (q3_:MDef P w K mg base (clsOf K "Room") "drop" 3 Zbk (ZjP K)):FnOk P w K mg base CX0 4 f fd ZaR (ZgI K):=by
 refine F.ok sc_Room_bring (λvs H Q E h=>?_) (λcdv A outer st H vs Q E hr h=>?_)
 .obtain ⟨p,b,sh,pl,ru,ls,ads,du,seq,us,n,rfl,_⟩:=h
  rfl
 obtain ⟨p,b,sh,pl,ru,ls,ads,du,seq,us,n,rfl,R,tb,hn,hb,hpl,h64,k⟩:=h
 have nd:=sc_Room_bring.nd
 have hu:=hu_of hr
 refine ⟨_,(Zf (ps_if (Zbn (ZZ qi_ hr.m T.qa_ (pv 0) (pc (pv 1) Zd))) (Zj ps_no) Zy)
   (Zf (pst 2 nd (ZZ qm_ hr.m T.qa_ (pv 0) (pc (pv 1) Zd)))
   (Zf (ps_if (ZgT (Ziy (pv 2))) (Zj (ZA (ZZ q3_ hr.m T.qa_ (pv 0) (pc (pv 2) Zd)))) Zy)
   (Zf (ZA (ZaJ (K:=K) rfl (pe_bm PySem.F.plainAttrs_list PySem.F.slot_list_append PySem.F.type_list_append ZB (ZZ qe_ hr.m T.qa_ (pv 0) (pc (pv 1) Zd)) (pc (pv 1) Zd))))
   (Zf (Zgn hu (Zbq (K:=K) rfl (pv 0) rfl) (pv 1) Zi rfl)
   (Zj (Zu (pv 2)))))))),?_⟩
 obtain ⟨dx,h1⟩:=R.ob
 refine ⟨_,rfl,p,dx,_,rfl,h1,fl_no ..,_,rfl,p,b,sh,pl,ru,ls,ads,du,seq,us,n,rfl,R,?_⟩
 rw [decide_eq_false hb]
 refine ⟨_,rfl,ifF rfl ?_⟩
 refine ⟨_,rfl,p,dx,_,rfl,h1,fl_no ..,_,rfl,p,b,sh,pl,ru,ls,ads,du,seq,us,n,rfl,R,tb,hpl,h64,λgone H1 gp sm=>?_⟩
 refine gN ?_
 dsimp only
 have R0:=R.same sm
 have hnd:(Zh sh (b % sh) seq).Nodup:=R.nd.sublist filter_sublist
 refine cpI (λσ G=>σ=[some (.ref p),some (.int b),some (optV gone)]/\RoomAt K G p sh pl ru ls ads du (lessO seq gone) us n/\SR ads du H G) (λD' _ k'=>?_) ?_
 .match gone,gp with
  | none,gp=>exact ⟨_,rfl,_,rfl,ifF rfl (k' _ _ ⟨rfl,R0,SR.of sm⟩)⟩
  | some g,gp =>
   have hg:g∈Zh sh (b % sh) seq:=by
    by_cases c:((Zh sh (b % sh) seq).length:Int)<pl
    .exact absurd (gp.1 c) (by simp)
    .obtain ⟨g',rest,e,po,_⟩:=gp.2 c
     injection e with e
     subst e
     exact po.mem_iff.mp mem_cons_self
   obtain ⟨dx',h1'⟩:=R0.ob
   exact ⟨_,rfl,_,rfl,ifT rfl ⟨_,rfl,p,dx',_,rfl,h1',fl_no ..,_,rfl,p,g,sh,pl,ru,ls,ads,du,seq,us,n,rfl,R0,(mem_shelfS.mp hg).1,λH2 R2 s3=>k' _ _ ⟨rfl,R2,(SR.of sm).trans s3⟩⟩⟩
 rintro _ G ⟨rfl,R1,s1⟩
 obtain ⟨dx1,g1⟩:=R1.ob
 obtain ⟨kvs,g2,g3,g4⟩:=R1.dc
 obtain ⟨o1,o2,o3,o4,o5,o6⟩:=R1.off
 refine ⟨_,rfl,p,dx1,_,rfl,g1,fl_no ..,_,rfl,p,b,sh,pl,ru,ls,ads,du,lessO seq gone,us,n,rfl,R1,λs ad es hs had0=>?_⟩
 have mad:ad∈ads:=mem_of_getElem? hs
 have had1:=R1.st.at_ s ad hs
 have ll:(Zh sh s (lessO seq gone)).length<=64:=by
  have q:(Zh sh s (lessO seq gone)).Sublist (Zh sh s seq):=List.Sublist.filter _ (less_sub (g:=gone))
  have q2:=q.length_le
  rw [es] at q2 ⊢
  omega
 refine ⟨.inl ⟨rfl,_,SqL.of had1⟩,_,rfl,ad,_,_,rfl,rfl,had1,Zn (by rw [length_map]; omega),?_⟩
 have nb:b∉lessO seq gone:=λm=>hb (less_sub.subset m)
 have e1:((Zh sh s (lessO seq gone)).map V.int++[V.int b])=(Zh sh s (lessO seq gone)++[b]).map V.int:=by rw [map_append]; rfl
 rw [e1]
 have S2:Shl (upd G ad (.lst ((Zh sh s (lessO seq gone)++[b]).map V.int))) ls ads sh (lessO seq gone++[b]):=by
  refine R1.st.put hs ?_ λs' hs'=>?_
  .rw [ZF,if_pos es.symm]
  .rw [ZF,if_neg (by omega)]
 have np:p≠ad:=λz=>o2 (z ▸ mad)
 have ndu:du≠ad:=λz=>o5 (z ▸ mad)
 have g1':upd G ad (.lst ((Zh sh s (lessO seq gone)++[b]).map V.int)) p=some (.ins (clsOf K "Room") dx1 (flds sh pl ru ls du)):=by rw [Ze np]; exact g1
 have g2':upd G ad (.lst ((Zh sh s (lessO seq gone)++[b]).map V.int)) du=some (.dK kvs):=by rw [Ze ndu]; exact g2
 refine ⟨_,rfl,p,_,dx1,_,_,rfl,g1',T.qa_,T.qk_,ZdP ..,_,rfl,du,_,rfl,DPut.k (k:=Sum.inl b) g2' (Zn (by omega)),?_⟩
 refine ⟨_,rfl,k gone _ gp ⟨⟨dx1,by rw [Ze o1]; exact g1'⟩,S2.other _ (Ne.symm o3) o5,⟨_,Za,Nat.le_trans (Zaq ..) (by omega),λx=>?_⟩,Zbd R1.nd nb,R.s0,R.s1⟩ λx o e n1 n2=>?_⟩
 .rw [ZcS]
  unfold zero
  by_cases c:x=b
  .subst c
   rw [if_pos rfl,if_pos (mem_append_right _ (List.mem_singleton.mpr rfl)),if_pos rfl]
  .rw [if_neg (λz=>c (Sum.inl.inj z)),g4 x,if_neg c]
   by_cases m:x∈lessO seq gone
   .rw [if_pos m,if_pos (mem_append_left _ m)]
   .rw [if_neg m,if_neg (λz=>(List.mem_append.mp z).elim m λq=>c (List.mem_singleton.mp q))]
 .rw [Ze n1,Ze (λz:x=ad=>n2 (z ▸ mad))]
  exact s1 _ _ e n1 n2
end
section
def spAsk (K:W.Frag):Sp:=λvs H Q _=>∃ (p:Addr) (b sh pl:Int) (ru:Str) (ls:Addr) (ads:List Addr) (du:Addr) (seq:List Int) (us:Int->Int) (n:Nat),vs=[.ref p,.int b]/\RoomAt K H p sh pl ru ls ads du seq us n/\Tb K H/\n<=900/\seq.length<=900/\1<=pl/\(Zh sh (b % sh) seq).length<64 /\
 (∀ (t:Addr) (H':Hp),b∈seq->H t=none->RoomAt K H' p sh pl ru ls ads du (if ru = "old" then seq.erase b++[b] else seq) (bump us b) (n+1)->SR ads du H H'->H' t=some (.tup [.bl true,.non])->Q (.ref t) H') /\
 ∀ (t:Addr) (gone:Option Int) (H':Hp),b∉seq->H t=none->goneP ru us pl (Zh sh (b % sh) seq) gone->RoomAt K H' p sh pl ru ls ads du (lessO seq gone++[b]) (zero us b) (n+1)->SR ads du H H'->H' t=some (.tup [.bl false,optV gone])->Q (.ref t) H'
theorem SR.free {ads:List Addr} {du:Addr} {H H':Hp} {p:Addr} {sh pl:Int} {ru:Str} {ls:Addr} {seq:List Int} {us:Int->Int} {n:Nat} (s:SR ads du H H') (R':RoomAt K H' p sh pl ru ls ads du seq us n) {t:Addr} (h:H' t=none):H t=none:=by
 cases q:H t with
 | none=>rfl
 | some o =>
  have n1:t≠du:=λz=>by
   obtain ⟨kvs,e,_⟩:=R'.dc
   rw [z,e] at h; cases h
  have n2:t∉ads:=λz=>by
   obtain ⟨xs,e⟩:=R'.st.one z
   rw [e] at h; cases h
  rw [s _ _ q n1 n2] at h
  cases h
theorem ZnR (F:Fun K "ask" "ask" s_ask f fd) (T:Txt K mg) (qi_:MDef P w K mg base (clsOf K "Room") "has" 1 ZaM (spHas K)) (vc_:MDef P w K mg base (clsOf K "Room") "use" 3 Zbv (spUse K)) (qx_:MDef P w K mg base (clsOf K "Room") "bring" 4 ZaR (ZgI K)):FnOk P w K mg base CX0 5 f fd P_ask (spAsk K):=by
 refine F.ok sc_ask (λvs H Q E h=>?_) (λcdv A outer st H vs Q E hr h=>?_)
 .obtain ⟨p,b,sh,pl,ru,ls,ads,du,seq,us,n,rfl,_⟩:=h
  rfl
 obtain ⟨p,b,sh,pl,ru,ls,ads,du,seq,us,n,rfl,R,tb,hn,hsl,hpl,h64,k1,k2⟩:=h
 have nd:=sc_ask.nd
 refine ⟨_,(Zf (ps_if (Zbn (ZZ qi_ hr.m T.qa_ (pv 0) (pc (pv 1) Zd))) (Zf (ZA (ZZ vc_ hr.m T.qa_ (pv 0) (pc (pv 1) Zd)))
   (Zj (Zu (ZbC (pc pe_bl (pc ZdY Zd)))))) Zy)
   (Zj (Zu (ZbC (pc pe_bl (pc (ZZ qx_ hr.m T.qa_ (pv 0) (pc (pv 1) Zd)) Zd)))))),?_⟩
 obtain ⟨dx,h1⟩:=R.ob
 refine ⟨_,rfl,p,dx,_,rfl,h1,fl_no ..,_,rfl,p,b,sh,pl,ru,ls,ads,du,seq,us,n,rfl,R,_,rfl,?_⟩
 refine ZO (λc=>?_) (λc=>?_)
 .refine ⟨_,rfl,p,dx,_,rfl,h1,fl_no ..,_,rfl,p,b,sh,pl,ru,ls,ads,du,seq,us,n,rfl,R,hn,c,hsl,λH1 R1 s1=>?_⟩
  exact ⟨(sl 2),λt ht=>k1 t _ c (s1.free R1 ht) (R1.same (Zc ht _)) (s1.trans (SR.of (Zc ht _))) Za⟩
 .refine ⟨_,rfl,p,dx,_,rfl,h1,fl_no ..,_,rfl,p,b,sh,pl,ru,ls,ads,du,seq,us,n,rfl,R,tb,hn,c,hpl,h64,λgone H1 gp R1 s1=>?_⟩
  exact ⟨(sl 2),λt ht=>k2 t gone _ c (s1.free R1 ht) gp (R1.same (Zc ht _)) (s1.trans (SR.of (Zc ht _))) Za⟩
end
section
theorem Link.nil (sh pl:Int) (ru:Str) (hpl:1<=pl):Link sh pl ru [] [] (λ_=>0) 0 :=
 ⟨nodup_nil,nodup_nil,λb=>by simp [bds],List.Pairwise.nil,(λb m=>nomatch m),(λr m=>nomatch m),λs=>by show ((0:Nat):Int)<=pl; omega⟩
theorem Zio (F:Fun K "run_row" "run_row" Zbl f fd) (T:Txt K mg) (vv_:KDef P w K mg base (clsOf K "Room") "Room" 1 Zbj (ZjQ K)) (vx_:Def P w K mg base "ask" 5 P_ask (spAsk K)):FnOk P w K mg base CX0 7 f fd ZbH (spRun K):=by
 refine F.ok sc_run_row (λvs H Q E h=>?_) (λcdv A outer st H vs Q E hr h=>?_)
 .obtain ⟨sh,pl,ru,a,row,rfl,_⟩:=h
  rfl
 obtain ⟨sh,pl,ru,a,row,rfl,hS,hs0,hs1,hp0,hp1,hru,hl,bd,tb,k⟩:=h
 have nd:=sc_run_row.nd
 refine ⟨_,(Zf (pst 4 nd (ZkV vv_ hr.m rfl (pc (pv 0) (pc (pv 1) (pc (pv 2) Zd)))))
   (Zj (Zu (ZaV (Zw (osc:=(Zg Zbl)) (oN:=ZfP) (N:=["board", "room"]) (own:=1) (js:=[4]) (by decide +kernel) rfl rfl) rfl (Zaf (K:=K) rfl (pv 3)) (λ_ _ _ _ _ _=>(pgn 0 (show List.Nodup (["board", "room"]:List Str) by decide +kernel))) (λ_ _ _ _ _ _=>(Zm vx_ hr.m rfl (pc (pv 1) (pc (pv 0) Zd)))))))),?_⟩
 refine ⟨_,rfl,_,rfl,_,rfl,λx dx nx ndx ne=>?_⟩
 have s0:Same H (upd (upd H dx (.own x)) x (.ins (clsOf K "Room") dx [])):=λb o e=>by
  rw [Ze (Zb e nx),Ze (Zb e ndx)]
  exact e
 refine ⟨x,dx,sh,pl,ru,rfl,Za,hs0,hs1,λls ads du H1 R1 fl fd' fa o1=>⟨rfl,?_⟩⟩
 have s1:Same H H1:=λb o e=>o1 b o (s0 b o e) (Zb e nx)
 have fls:=s0.free fl
 have fdu:=s0.free fd'
 have fads:∀ ad∈ads,H ad=none:=λad m=>s0.free (fa ad m)
 refine gN ?_
 dsimp only
 refine ⟨_,rfl,a,rfl,⟨_,s1.seq hS⟩,λl hl'=>?_⟩
 have hlH:H l=none:=s1.free hl'
 have nll:l≠ls:=λz'=>by rw [z',R1.st.top] at hl'; cases hl'
 have nlx:l∉ads/\l≠du:=by
  refine ⟨λm=>?_,λz=>?_⟩
  .obtain ⟨xs,e⟩:=R1.st.one m
   rw [e] at hl'; cases hl'
  .obtain ⟨kvs,e,_⟩:=R1.dc
   rw [z,e] at hl'; cases hl'
 refine Zak (K:=K) (a:=a) (xs:=row.map V.int) (l:=l) (λj ys σ' G=>∃ (v0:Option V) (as:List Addr) (seq:List Int) (us:Int->Int),σ'=[v0,some (.ref x)]/\ys=as.map V.ref/\as.length=j/\G l=some (.lst ys)/\RoomAt K G x sh pl ru ls ads du seq us j/\Link sh pl ru (runR sh pl ru row j).1 seq us j/\seq.length<=j /\
   (∀ (m:Nat) (ad:Addr) (f:Bool×Option Int),as[m]?=some ad->(runR sh pl ru row j).2[m]?=some f->G ad=some (.tup [.bl f.1,optV f.2]))/\Same H G)
  ⟨none,[],[],_,rfl,rfl,rfl,Za,R1.same (Zc hl' _),Link.nil sh pl ru hp0,Nat.le_refl _,λm ad f h=>(by simp at h),s1.trans (Zc hl' _)⟩ (λj ys σ' G _ ⟨_,_,_,_,_,_,_,_,_,_,_,_,q⟩=>q.seq hS) ?_ ?_
 .rintro j y ys σ' G hj hy hys ⟨v0,as,seq,us,rfl,rfl,hlen,g1,R,L,lsq,q2,s2⟩
  obtain ⟨z,hz,rfl⟩:=Zbr hy
  have hjr:j<row.length:=(List.getElem?_eq_some_iff.mp hz).1
  have eg:row.getD j 0=z:=by rw [getD_eq_getElem?_getD,hz]; rfl
  have c64:(Zh sh (z % sh) seq).length<64:=by have:=L.cap (z % sh); omega
  have tb2:Tb K G:=tb.same s2
  obtain ⟨_,rl1,rl2⟩:=ZhB sh pl ru row j
  have e1:(runR sh pl ru row (j+1)).1=(stepR sh pl ru j z (runR sh pl ru row j).1).1:=by rw [← eg]; rfl
  have e2:(runR sh pl ru row (j+1)).2=(runR sh pl ru row j).2++[(stepR sh pl ru j z (runR sh pl ru row j).1).2]:=by rw [← eg]; rfl
  have fin:∀ (t:Addr) (H':Hp) (seq':List Int) (us':Int->Int) (f:Bool×Option Int),G t=none->RoomAt K H' x sh pl ru ls ads du seq' us' (j+1)->SR ads du G H'->H' t=some (.tup [.bl f.1,optV f.2])->(stepR sh pl ru j z (runR sh pl ru row j).1).2=f->Link sh pl ru (runR sh pl ru row (j+1)).1 seq' us' (j+1)->seq'.length<=j+1 ->
    CNx (row.map V.int).length l (λj ys σ' G=>∃ (v0:Option V) (as:List Addr) (seq:List Int) (us:Int->Int),σ'=[v0,some (.ref x)]/\ys=as.map V.ref/\as.length=j/\G l=some (.lst ys)/\RoomAt K G x sh pl ru ls ads du seq us j/\Link sh pl ru (runR sh pl ru row j).1 seq us j/\seq.length<=j /\
     (∀ (m:Nat) (ad:Addr) (f:Bool×Option Int),as[m]?=some ad->(runR sh pl ru row j).2[m]?=some f->G ad=some (.tup [.bl f.1,optV f.2]))/\Same H G) j (as.map V.ref) [some (.int z),some (.ref x)] (.ref t) H':=by
   intro t H' seq' us' f ht R' sr hH' hf L' ls'
   have ntl:l≠t:=Zb g1 ht
   have g1':=sr _ _ g1 nlx.2 nlx.1
   have sG:Same H H':=λb o e=>sr _ _ (s2 _ _ e) (Zb e fdu) λm=>by rw [fads b m] at e; cases e
   refine CNx.of (Nat.le_of_lt (Zn (by rw [length_map]; omega))) hj hys g1' ⟨_,as++[t],seq',us',rfl,by rw [map_append]; rfl,by rw [length_append,hlen]; rfl,Za,?_,L',ls',λm ad f' hm hf'=>?_,?_⟩
   .obtain ⟨o1',o2',o3',o4',o5',o6'⟩:=R'.off
    obtain ⟨dx',w1⟩:=R'.ob
    obtain ⟨kvs,w2,w3⟩:=R'.dc
    have nxl:x≠l:=λz'=>by rw [z',g1'] at w1; cases w1
    exact ⟨⟨dx',by rw [Ze nxl]; exact w1⟩,R'.st.other _ nll nlx.1,⟨kvs,by rw [Ze (Ne.symm nlx.2)]; exact w2,w3⟩,R'.nd,R'.s0,R'.s1⟩
   .rw [e2,hf] at hf'
    by_cases hmj:m<as.length
    .rw [getElem?_append_left hmj] at hm
     rw [getElem?_append_left (by omega)] at hf'
     have q:=q2 m ad f' hm hf'
     have nal:ad≠l:=λe=>by rw [e,g1] at q; cases q
     rw [Ze nal]
     exact sr.keep R q (λ_ e=>by cases e) λ_ e=>by cases e
    .rw [getElem?_append_right (by omega)] at hm
     have em:m=as.length:=by
      have:=(List.getElem?_eq_some_iff.mp hm).1
      simp at this; omega
     subst em
     rw [Nat.sub_self] at hm
     cases hm
     rw [getElem?_append_right (by omega),rl2,hlen,Nat.sub_self] at hf'
     cases hf'
     rw [Ze (Ne.symm ntl)]
     exact hH'
   .intro e o y'
    rw [Ze (Zb y' hlH)]
    exact sG _ _ y'
  refine ⟨_,rfl,_,rfl,x,z,sh,pl,ru,ls,ads,du,seq,us,j,rfl,R,tb2,by omega,by omega,hp0,c64,λt H' hin ht R' sr hH'=>?_,λt gone H' hin ht gp R' sr hH'=>?_⟩
  .have hbS:z∈bds (runR sh pl ru row j).1:=(L.mem z).mp hin
   cases hr':recOf (runR sh pl ru row j).1 z with
   | none=>exact absurd hbS (recOf_none.mp hr')
   | some r =>
    have es:stepR sh pl ru j z (runR sh pl ru row j).1=(putR (runR sh pl ru row j).1 ⟨z,r.t0,j,r.n+1⟩,(true,none)):=by
     unfold stepR
     rw [hr']
    refine fin t H' _ _ (true,none) ht R' sr hH' (by rw [es]) ?_ ?_
    .rw [e1,es]
     exact L.found hr' λx=>rfl
    .split
     .rw [length_append,length_erase_of_mem hin]
      have:0<seq.length:=length_pos_of_mem hin
      have:[z].length=1:=rfl
      omega
     .omega
  .have hbS:z∉bds (runR sh pl ru row j).1:=λm=>hin ((L.mem z).mpr m)
   have hr':=recOf_none.mpr hbS
   have hg:=ZmK L hp0 hru gp
   have es:stepR sh pl ru j z (runR sh pl ru row j).1=(putR (lessR (runR sh pl ru row j).1 gone) ⟨z,j,j,0⟩,(false,gone)):=by
    unfold stepR
    rw [hr',hg]
   refine fin t H' _ _ (false,gone) ht R' sr hH' (by rw [es]) ?_ ?_
   .rw [e1,es]
    refine L.missed hin hg (λx=>rfl) ?_
    by_cases c:((Zh sh (z % sh) seq).length:Int)<pl
    .exact .inl c
    .obtain ⟨g,rest,rfl,pm,_⟩:=gp.2 c
     exact .inr ⟨g,pm.mem_iff.mp mem_cons_self,rfl⟩
   .rw [length_append]
    have:=ZhD (seq:=seq) (g:=gone)
    have:[z].length=1:=rfl
    omega
 .rintro ys σ' G hys ⟨v0,as,seq,us,rfl,rfl,hlen,g1,R,L,lsq,q2,s2⟩
  rw [length_map] at hlen
  refine k l G hlH s2 ⟨as,g1,?_,λm ad f h1 h2=>?_⟩
  .rw [ZgA,hlen]
  .refine q2 m ad f h1 ?_
   rw [length_map]
   exact h2
end
def missF (sh pl:Int) (ru:Str) (row:List Int):Nat:=(rowF sh pl ru row).countP λf=>!f.1
section
def ZjR (K:W.Frag):Sp:=λvs H Q _=>∃ (sh pl:Int) (ru:Str) (a:Addr) (row:List Int),vs=[.int sh,.int pl,.str ru,.ref a]/\SqL K H a (row.map V.int)/\1<=sh/\sh<=64/\1<=pl/\pl<=16/\Rule ru/\row.length<=400/\Bds 9999 row/\Tb K H /\
 ∀ H',Same H H'->Q (.int (missF sh pl ru row)) H'
theorem ZjS (F:Fun K "misses" "misses" ZbA f fd) (T:Txt K mg) (vh_:Def P w K mg base "run_row" 7 ZbH (spRun K)):FnOk P w K mg base CX0 8 f fd Zck (ZjR K):=by
 refine F.ok sc_misses (λvs H Q E h=>?_) (λcdv A outer st H vs Q E hr h=>?_)
 .obtain ⟨sh,pl,ru,a,row,rfl,_⟩:=h
  rfl
 obtain ⟨sh,pl,ru,a,row,rfl,hS,hs0,hs1,hp0,hp1,hru,hl,bd,tb,k⟩:=h
 have nd:=sc_misses.nd
 refine ⟨_,(Zj (Zu (Zk (Zl (K:=K) rfl) rfl T.qf_ PySem.boot_len (pc (ZcP (Zw (osc:=(Zg ZbA)) (oN:=Zhx) (N:=["found", "out"]) (own:=2) (js:=[]) (by decide +kernel) rfl rfl) rfl (Zaf (K:=K) rfl (Zm vh_ hr.m rfl (pc (pv 0) (pc (pv 1) (pc (pv 2) (pc (pv 3) Zd)))))) (λ_ _ _ _ _ _=>(Zap (K:=K) (n:=2) rfl rfl (Zt (pgn 0 (show List.Nodup (["found", "out"]:List Str) by decide +kernel)) (Zt (pgn 1 (show List.Nodup (["found", "out"]:List Str) by decide +kernel)) Zan)))) (λ_ _ _ _ _ _=>(ZcG (Zbn (pv 0)))) (λ_ _ _ _ _ _=>(pv 1))) Zd)))),?_⟩
 refine ⟨_,rfl,_,rfl,_,rfl,_,rfl,sh,pl,ru,a,row,rfl,hS,hs0,hs1,hp0,hp1,hru,hl,bd,tb,λlr H1 hlr s1 told=>?_⟩
 obtain ⟨ads,p1,p2,p3⟩:=told
 have rl:=ZgA sh pl ru row
 have hmiss:missF sh pl ru row=(rowF sh pl ru row).countP λf=>!f.1:=rfl
 generalize rowF sh pl ru row=fs at *
 refine ⟨lr,rfl,⟨_,SqL.of p1⟩,λl hl'=>?_⟩
 refine Zak (K:=K) (a:=lr) (xs:=ads.map V.ref) (l:=l) (λj ys σ' G'=>∃ v0 v1:Option V,σ'=[v0,v1]/\ys.length=(fs.take j).countP (λf=>!f.1)/\G'=upd H1 l (.lst ys))
  ⟨none,none,rfl,rfl,rfl⟩ (λj ys σ' G' _ ⟨_,_,_,_,q⟩=>SqL.of (by rw [q,Ze (Zb p1 hl')]; exact p1)) ?_ ?_
 .rintro j x ys σ' G' hj hxj hys ⟨v0,v1,rfl,hy,rfl⟩
  rw [getElem?_map] at hxj
  cases ea:ads[j]? with
  | none=>rw [ea] at hxj; cases hxj
  | some ad =>
   rw [ea] at hxj
   cases hxj
   have hjf:j<fs.length:=by rw [← p2]; exact (List.getElem?_eq_some_iff.mp ea).1
   have ad1:=p3 j ad fs[j] ea (getElem?_eq_getElem hjf)
   have tk:(fs.take (j+1)).countP (λf=>!f.1)=(fs.take j).countP (λf=>!f.1)+(if (!fs[j].1)=true then 1 else 0):=by
    rw [take_succ,getElem?_eq_getElem hjf,List.countP_append]
    show _+List.countP _ [fs[j]]=_
    rw [List.countP_cons,List.countP_nil,Nat.zero_add]
   refine ⟨ad,_,rfl,SqT.of (by rw [Ze (Zb ad1 hl')]; exact ad1),rfl,_,_,rfl,_,_,rfl,rfl,_,rfl,_,rfl,?_⟩
   refine ZhA (λc'=>?_) (λc'=>?_)
   .rw [if_pos c'] at tk
    exact ⟨_,rfl,CNx.of (Nat.le_of_lt (Zn (by rw [length_map]; omega))) hj hys Za ⟨_,_,rfl,by rw [length_append,hy,tk]; rfl,Zbw⟩⟩
   .rw [if_neg c',Nat.add_zero] at tk
    exact CNo.of hj hys ⟨_,_,rfl,hy.trans tk.symm,rfl⟩
 rintro ys σ' G' _ ⟨v0,v1,rfl,hy,rfl⟩
 rw [length_map,p2,take_length] at hy
 refine ⟨l,_,rfl,.inl (SqL.of Za),?_⟩
 rw [hy]
 have q:=k _ (s1.trans (Zc hl' (.lst ys)))
 rw [hmiss] at q
 exact q
end
def mayB (pl:Int) (ms:List Int) (b:Int) (o:Option Int):Bool :=
 if b∈ms\/(ms.length:Int)<pl then o.isNone else (match o with | some g=>decide (g∈ms) | none=>false)
def ordS (sh pl:Int) (b:Int) (o:Option Int) (S:List Int×Nat):Option (List Int×Nat) :=
 if mayB pl (Zh sh (b % sh) S.1) b o=true then (if b∈S.1 then some S else some (lessO S.1 o++[b],S.2+1)) else none
def ordR (sh pl:Int) (row:List Int) (os:List (Option Int)):Nat->Option (List Int×Nat)
 | 0=>some ([],0)
 | i+1=>(ordR sh pl row os i).bind (ordS sh pl (row.getD i 0) (os.getD i none))
def cntF (sh pl:Int) (row:List Int) (os:List (Option Int)):Option Int:=if os.length=row.length then (ordR sh pl row os row.length).map (λS=>(S.2:Int)) else none
theorem ZfZ {sh pl:Int} {row:List Int} {os:List (Option Int)} {i:Nat} (h:ordR sh pl row os i=none):∀ d,ordR sh pl row os (i+d)=none
 | 0=>h
 | d+1=>by
  show (ordR sh pl row os (i+d)).bind _=none
  rw [ZfZ h d]
  rfl
theorem ZeY {sh pl:Int} {row:List Int} {os:List (Option Int)}:∀ {i:Nat} {S:List Int×Nat},ordR sh pl row os i=some S->S.1.length<=i/\S.2<=i
 | 0,S,h=>by
  have:S=([],0):=(Option.some.inj h).symm
  subst this
  exact ⟨Nat.le_refl _,Nat.le_refl _⟩
 | i+1,S,h=>by
  have h':(ordR sh pl row os i).bind (ordS sh pl (row.getD i 0) (os.getD i none))=some S:=h
  cases e:ordR sh pl row os i with
  | none=>rw [e] at h'; cases h'
  | some T =>
   obtain ⟨h1,h2⟩:=ZeY e
   rw [e] at h'
   have h3:ordS sh pl (row.getD i 0) (os.getD i none) T=some S:=h'
   unfold ordS at h3
   split at h3
   .split at h3
    .cases h3
     exact ⟨by omega,by omega⟩
    .cases h3
     have:(lessO T.1 (os.getD i none)).length<=T.1.length:=by
      cases os.getD i none with
      | none=>exact Nat.le_refl _
      | some g=>exact length_erase_le
     refine ⟨?_,?_⟩
     .show (lessO T.1 (os.getD i none)++[_]).length<=_
      rw [length_append]
      show _+1<=_
      omega
     .show T.2+1<=_
      omega
   .cases h3
section
def ZjT:Sp:=λvs H Q _=>∃ o:Option Int,vs=[optV o]/\Q (.bl o.isSome) H
theorem Zga (F:Fun K "is_number" "is_number" ZaK f fd) (T:Txt K mg):FnOk P w K mg base CX0 1 f fd Zbg ZjT:=by
 refine F.ok sc_is_number (λvs H Q E h=>?_) (λcdv A outer s H vs Q E hr h=>?_)
 .obtain ⟨x,rfl,_⟩:=h
  rfl
 obtain ⟨x,rfl,q⟩:=h
 have nd:=sc_is_number.nd
 refine ⟨_,(Zj (Zu (Zdf (Zk ZaD rfl T.qc_ Zae (pc (pv 0) (pc (Zam (v:=.ty "int") rfl T.q9_ ZbE rfl) Zd))) (ZdZ (Zna (Zk ZaD rfl T.qc_ Zae (pc (pv 0) (pc (Zam (v:=.ty "bool") rfl T.vg_ Zcr rfl) Zd)))))))),?_⟩
 cases x with
 | none=>exact ⟨_,rfl,_,_,_,rfl,rfl,by decide,_,rfl,ifF (by decide) q⟩
 | some g=>exact ⟨_,rfl,_,_,_,rfl,rfl,by decide,_,rfl,ifT (by decide) ⟨_,rfl,_,_,_,rfl,rfl,by decide,_,rfl,q⟩⟩
def spMay (K:W.Frag):Sp:=λvs H Q _=>∃ (pl:Int) (m:Addr) (ms:List Int) (b:Int) (o:Option Int),vs=[.int pl,.ref m,.int b,optV o]/\H m=some (.lst (ms.map V.int))/\Q (.bl (mayB pl ms b o)) H
theorem ZjU (F:Fun K "may_go" "may_go" ZbN f fd) (T:Txt K mg) (q4_:Def P w K mg base "is_number" 1 Zbg ZjT):FnOk P w K mg base CX0 2 f fd Zcj (spMay K):=by
 refine F.ok sc_may_go (λvs H Q E h=>?_) (λcdv A outer st H vs Q E hr h=>?_)
 .obtain ⟨pl,m,ms,b,o,rfl,_⟩:=h
  rfl
 obtain ⟨pl,m,ms,b,o,rfl,hm,k⟩:=h
 have nd:=sc_may_go.nd
 refine ⟨_,(Zf (ps_if (PW.pt (pw_or (Zs (Zct (K:=K) rfl) (pv 2) (pv 1) rfl) (ZcF (Zs op_lt (Zk (Zl (K:=K) rfl) rfl T.qf_ PySem.boot_len (pc (pv 1) Zd)) (pv 0) (Zv _))))) (Zj (Zu (Zly (Zix (pv 3))))) Zy)
   (Zj (Zu (Zdf (Zm q4_ hr.m rfl (pc (pv 3) Zd)) (ZdZ (Zbb (Zct (K:=K) rfl) (pv 3) (pv 1) rfl)))))),?_⟩
 refine ⟨_,rfl,_,rfl,m,_,rfl,.inl (SqL.of hm),rfl,Zbm _,_,rfl,?_⟩
 rw [ZdN,if_neg (by decide)]
 have e1:b∈ms\/(ms.length:Int)<pl->mayB pl ms b o=decide (optV o=.non):=λc=>by
  unfold mayB
  rw [if_pos c]
  cases o <;> rfl
 by_cases c:b∈ms
 .rw [e1 (.inl c)] at k
  exact ifT (decide_eq_true c) (ifT rfl ⟨_,rfl,k⟩)
 .refine ifF (decide_eq_false c) ⟨_,rfl,m,_,rfl,.inl (SqL.of hm),_,rfl,_,_,rfl,rfl,_,rfl,?_⟩
  rw [length_map]
  refine ZO (λc2=>?_) (λc2=>?_)
  .rw [e1 (.inr c2)] at k
   exact ⟨_,rfl,k⟩
  .refine ⟨_,rfl,o,rfl,?_⟩
   have e2:¬ (b∈ms\/(ms.length:Int)<pl):=λq=>q.elim c c2
   unfold mayB at k
   rw [if_neg e2] at k
   cases o with
   | none=>exact ⟨_,rfl,ifF rfl k⟩
   | some g =>
    refine ⟨_,rfl,ifT rfl ⟨_,rfl,_,rfl,m,_,rfl,.inl (SqL.of hm),rfl,Zbm _,?_⟩⟩
    show Q (V.bl (inV (.int g) (ms.map V.int))) H
    rw [ZdN]
    exact k
def ZhF:Sp:=λvs H Q _=>∃ (m:Addr) (ms:List Int) (b:Int) (out:Option Int),vs=[.ref m,.int b,optV out]/\H m=some (.lst (ms.map V.int))/\ms.length<=900/\(∀ g,out=some g->g∈ms)/\Q .non (upd H m (.lst ((lessO ms out++[b]).map V.int)))
theorem ZmM (F:Fun K "come" "come" Zep f fd) (T:Txt K mg):FnOk P w K mg base CX0 1 f fd Zeq ZhF:=by
 refine F.ok sc_come (λvs H Q E h=>?_) (λcdv A outer st H vs Q E hr h=>?_)
 .obtain ⟨m,ms,b,out,rfl,_⟩:=h
  rfl
 obtain ⟨m,ms,b,out,rfl,hm,hl,hg,k⟩:=h
 have nd:=sc_come.nd
 refine ⟨_,(Zf (ps_if (ZgT (Ziy (pv 2))) (Zj (ZA (ZaJ (K:=K) rfl (pe_bm PySem.F.plainAttrs_list PySem.F.slot_list_remove PySem.F.type_list_remove Zdy (pv 0) (pc (pv 2) Zd))))) Zy)
   (Zj (ZA (ZaJ (K:=K) rfl (pe_bm PySem.F.plainAttrs_list PySem.F.slot_list_append PySem.F.type_list_append ZB (pv 0) (pc (pv 1) Zd)))))),?_⟩
 refine cpI (λσ G=>σ=[some (.ref m),some (.int b),some (optV out)]/\G=upd H m (.lst ((lessO ms out).map V.int))) (λD' _ k'=>?_) ?_
 .cases out with
  | none=>exact ⟨_,rfl,_,rfl,ifF rfl (k' _ _ ⟨rfl,by rw [show upd H m (.lst ((lessO ms none).map V.int))=H from Znr hm]⟩)⟩
  | some g=>exact ⟨_,rfl,_,rfl,ifT rfl ⟨_,rfl,.inl ⟨rfl,_,SqL.of hm⟩,_,rfl,m,ms,g,rfl,rfl,hm,hg g rfl,k' _ _ ⟨rfl,rfl⟩⟩⟩
 rintro _ _ ⟨rfl,rfl⟩
 have len:(lessO ms out).length<=ms.length:=by
  cases out with
  | none=>exact Nat.le_refl _
  | some g=>exact length_erase_le
 refine ⟨_,rfl,.inl ⟨rfl,_,SqL.of Za⟩,_,rfl,m,_,_,rfl,rfl,Za,Zn (by rw [length_map]; omega),?_⟩
 rw [Zbw]
 rw [map_append] at k
 exact k
def spCnt (K:W.Frag):Sp:=λvs H Q _=>∃ (sh pl:Int) (a lo:Addr) (row:List Int) (os:List (Option Int)),vs=[.int sh,.int pl,.ref a,.ref lo]/\SqL K H a (row.map V.int)/\H lo=some (.lst (os.map optV))/\1<=sh/\sh<=64/\row.length<=400 /\
 ∀ H',Same H H'->Q (optV (cntF sh pl row os)) H'
theorem ZdQ (F:Fun K "count_misses" "count_misses" ZN f fd) (T:Txt K mg) (qd_:Def P w K mg base "shelf_of" 1 Zah ZbX) (vk_:Def P w K mg base "may_go" 2 Zcj (spMay K)) (q8_:Def P w K mg base "come" 1 Zeq ZhF):FnOk P w K mg base CX0 3 f fd Zal (spCnt K):=by
 refine F.ok sc_count_misses (λvs H Q E h=>?_) (λcdv A outer st H vs Q E hr h=>?_)
 .obtain ⟨sh,pl,a,lo,row,os,rfl,_⟩:=h
  rfl
 obtain ⟨sh,pl,a,lo,row,os,rfl,hS,hO,hs0,hs1,hl,k⟩:=h
 have nd:=sc_count_misses.nd
 refine ⟨_,(Zf (ps_if (PW.pt (pw_or (ZcG (Zbn (Zk ZaD rfl T.qc_ Zae (pc (pv 3) (pc (Zam (v:=.ty "list") rfl T.qo_ Zau rfl) Zd))))) (ZcF (Zs op_ne (Zk (Zl (K:=K) rfl) rfl T.qf_ PySem.boot_len (pc (pv 3) Zd)) (Zk (Zl (K:=K) rfl) rfl T.qf_ PySem.boot_len (pc (pv 2) Zd)) (Zv _))))) (Zj (Zu ZdY)) Zy)
   (Zf (ZcQ 4 (Zw (osc:=(Zg ZN)) (oN:=ZbT) (N:=["number"]) (own:=1) (js:=[]) (by decide +kernel) rfl rfl) rfl nd rfl rfl (ZW rfl T.qh_ (pc (pv 0) Zd)) (λ_ _ _ _ _ _=>(pgn 0 (show List.Nodup (["number"]:List Str) by decide +kernel))) (λ_ _ _ _ _ _=>(Zz Zd)))
   (Zf (pst 5 nd Zi)
   (Zf (Zba PassesOwn.never rfl (ZlE rfl T.vp_ (pc (pv 2) (pc (pv 3) Zd))) (Zap (K:=K) (n:=2) rfl rfl (Zt (pgn 6 nd) (Zt (pgn 7 nd) Zan))) (Zf (pst 8 nd (pe_ix (Zo (K:=K) rfl) (pv 4) (Zm qd_ hr.m rfl (pc (pv 0) (pc (pv 6) Zd))) (λ_ _=>rfl)))
   (Zf (ps_if (ZcG (Zbn (Zm vk_ hr.m rfl (pc (pv 1) (pc (pv 8) (pc (pv 6) (pc (pv 7) Zd))))))) (Zj (Zu ZdY)) Zy)
   (Zj (ps_if (Zs (ZaE (K:=K) rfl) (pv 6) (pv 8) rfl) (Zf (ZiA (i:=5) nd rfl (by first | exact Or.inl rfl | exact Or.inr rfl) Zi Zlz)
   (Zj (ZA (Zm q8_ hr.m rfl (pc (pv 8) (pc (pv 6) (pc (pv 7) Zd))))))) Zy)))))
   (Zj (Zu (pv 5))))))),?_⟩
 have ty:tyN H (.ref lo)=some "list" := by simp only [tyN,hO]
 refine ⟨_,rfl,_,_,_,rfl,ty,by decide,_,rfl,ifF (by decide) ⟨_,rfl,lo,_,rfl,.inl (SqL.of hO),_,rfl,a,_,rfl,.inl hS,rfl,_,rfl,?_⟩⟩
 rw [length_map,length_map]
 by_cases hlen0:os.length=row.length
 case neg =>
  refine ifT (by simp; omega) ?_
  have q:=k H (Same.refl _)
  unfold cntF at q
  rw [if_neg hlen0] at q
  exact q
 refine ifF (by simp [hlen0]) ?_
 refine ⟨_,rfl,sh,rfl,by omega,by omega,λls hls=>?_⟩
 refine Zav (lo:=0) (n:=sh.toNat) (l:=ls) (λj ys σ G=>∃ (v0:Option V) (ads:List Addr),σ=[v0]/\ys=ads.map V.ref/\ads.length=j/\ads.Nodup/\ls∉ads/\G ls=some (.lst ys)/\(∀ ad∈ads,H ad=none/\G ad=some (.lst []))/\Same H G)
  ⟨none,[],rfl,rfl,rfl,nodup_nil,by simp,Za,by simp,Zc hls _⟩ ?_ ?_
 .rintro j ys σ G hj hy ⟨v0,ads,rfl,rfl,hlen,hnd,hoff,g1,g2,s1⟩
  refine ⟨(sl 0),λp hp=>?_⟩
  have np:ls≠p:=Zb g1 hp
  have nip:p∉ads:=λm=>by rw [(g2 p m).2] at hp; cases hp
  refine CNx.of (Nat.le_trans (by omega:sh.toNat<=64) (by decide)) hj hy (by rw [Ze np]; exact g1) ⟨_,ads++[p],rfl,by rw [map_append]; rfl,by rw [length_append,hlen]; rfl,Zbd hnd nip,?_,Za,λad m=>?_,?_⟩
  .intro m
   rcases List.mem_append.mp m with m | m
   .exact hoff m
   .exact np (by simpa using m)
  .rcases List.mem_append.mp m with m | m
   .rw [Ze (λz:ad=ls=>hoff (z ▸ m)),Ze (λz:ad=p=>nip (z ▸ m))]
    exact g2 ad m
   .have e:ad=p:=by simpa using m
    subst e
    rw [Ze (Ne.symm np)]
    exact ⟨s1.free hp,Za⟩
  .intro e o y
   rw [Ze (Zb y hls),Ze (Zb (s1 _ _ y) hp)]
   exact s1 _ _ y
 rintro ys σ G hy ⟨v0,ads,rfl,rfl,hlen,hnd,hoff,g1,g2,s1⟩
 refine gN ?_
 have S0:Shl G ls ads sh []:=⟨g1,hlen,hnd,hoff,λi ad e=>(g2 ad (mem_of_getElem? e)).2⟩
 have fr:∀ ad∈ads,H ad=none:=λad m=>(g2 ad m).1
 clear g1 g2 hy
 dsimp only
 refine gN ?_
 dsimp only
 refine ⟨_,rfl,_,rfl,a,lo,rfl,⟨_,s1.seq hS⟩,⟨_,SqL.of (s1 _ _ hO)⟩,Zjn (K:=K) (a:=a) (b:=lo) (xs:=row.map V.int) (ys:=os.map optV) (λi σ G=>∃ (v6 v7 v8:Option V) (S:List Int×Nat),σ=[some (.int sh),some (.int pl),some (.ref a),some (.ref lo),some (.ref ls),some (.int S.2),v6,v7,v8]/\ordR sh pl row os i=some S/\Shl G ls ads sh S.1/\Same H G)
  (by rw [length_map,length_map,hlen0]) ⟨none,none,none,([],0),rfl,rfl,S0,s1⟩ (λi σ G _ ⟨_,_,_,_,_,_,_,q⟩=>⟨q.seq hS,SqL.of (q _ _ hO)⟩) ?_ ?_⟩
 .clear S0 s1
  rintro i x y t σ G hx hy ⟨v6,v7,v8,S,rfl,hR,Sh,s1⟩ ht
  obtain ⟨z,hz,rfl⟩:=Zbr hx
  rw [getElem?_map] at hy
  cases ho:os[i]? with
  | none=>rw [ho] at hy; cases hy
  | some o =>
  rw [ho] at hy
  cases hy
  have hi:i<row.length:=(List.getElem?_eq_some_iff.mp hz).1
  have eg:row.getD i 0=z:=by rw [getD_eq_getElem?_getD,hz]; rfl
  have eo:os.getD i none=o:=by rw [getD_eq_getElem?_getD,ho]; rfl
  have r1:ordR sh pl row os (i+1)=ordS sh pl z o S:=by
   show (ordR sh pl row os i).bind _=_
   rw [hR,eg,eo]
   rfl
  obtain ⟨len1,len2⟩:=ZeY hR
  refine ⟨t,_,rfl,SqT.of Za,rfl,_,_,rfl,_,_,rfl,rfl,?_⟩
  have w:=Zc ht (.tup [.int z,optV o])
  have S1:Shl (upd G t (.tup [.int z,optV o])) ls ads sh S.1:=⟨w _ _ Sh.top,Sh.len,Sh.nd,Sh.off,λi ad e=>w _ _ (Sh.at_ i ad e)⟩
  have s2:=s1.trans w
  generalize upd G t (.tup [.int z,optV o])=G1 at *
  clear Sh s1 w
  obtain ⟨s0,ad,es0,had,hat,hm⟩:=S1.get (k:=z % sh) (Int.emod_nonneg _ (by omega)) (Int.emod_lt_of_pos _ (by omega))
  refine ⟨_,rfl,_,rfl,_,rfl,sh,z,rfl,hs0,ls,_,_,_,rfl,rfl,SqL.of S1.top,hat,?_⟩
  refine gN ?_
  dsimp only
  have lm:(Zh sh (z % sh) S.1).length<=S.1.length:=length_filter_le ..
  have hin:z∈Zh sh (z % sh) S.1↔z∈S.1:=⟨λm=>(mem_shelfS.mp m).1,λm=>mem_shelfS.mpr ⟨m,rfl⟩⟩
  unfold ordS at r1
  refine ⟨_,rfl,_,rfl,_,rfl,_,rfl,pl,ad,Zh sh (z % sh) S.1,z,o,rfl,hm,_,rfl,?_⟩
  by_cases c:mayB pl (Zh sh (z % sh) S.1) z o=true
  case neg =>
   rw [if_neg c] at r1
   refine ifT (by simpa using c) ?_
   have q:=k G1 s2
   have e:cntF sh pl row os=none:=by
    unfold cntF
    rw [if_pos hlen0]
    have:=ZfZ r1 (row.length - (i+1))
    rw [show i+1+(row.length - (i+1))=row.length by omega] at this
    rw [this]
    rfl
   rw [e] at q
   exact q
  rw [if_pos c] at r1
  refine ifF (by simpa using c) ?_
  refine ⟨_,rfl,_,rfl,ad,_,rfl,.inl (SqL.of hm),rfl,Zbm _,_,rfl,?_⟩
  rw [ZdN,if_pos rfl]
  by_cases c2:z∈S.1
  .rw [if_pos c2] at r1
   refine ifF (by simpa using hin.mpr c2) ?_
   exact ⟨_,_,_,S,rfl,r1,S1,s2⟩
  .rw [if_neg c2] at r1
   have c3:z∉Zh sh (z % sh) S.1:=λm=>c2 (hin.mp m)
   refine ifT (by simpa using c3) ?_
   have gmem:∀ g,o=some g->g∈Zh sh (z % sh) S.1:=λg e=>by
    subst e
    unfold mayB at c
    split at c
    .cases c
    .exact of_decide_eq_true c
   refine ⟨_,rfl,_,_,rfl,rfl,?_⟩
   refine ⟨_,rfl,_,rfl,_,rfl,ad,Zh sh (z % sh) S.1,z,o,rfl,hm,by omega,gmem,?_⟩
   refine ⟨_,_,_,(lessO S.1 o++[z],S.2+1),rfl,r1,?_,λe u y=>?_⟩
   .refine S1.put had ?_ λs hs=>?_
    .rw [ZF,if_pos es0.symm,es0]
     cases o with
     | none=>rfl
     | some g=>show Zh _ _ (S.1.erase g)++_=_; rw [ZL]; rfl
    .have ne:¬ z % sh=(s:Int):=λq=>hs (by omega)
     rw [ZF,if_neg ne]
     cases o with
     | none=>rfl
     | some g =>
      show Zh _ _ (S.1.erase g)=_
      rw [ZL]
      exact erase_of_not_mem λm=>ne ((mem_shelfS.mp (gmem g rfl)).2.symm.trans (mem_shelfS.mp m).2)
   .rw [Ze (Zb y (fr ad (mem_of_getElem? had)))]
    exact s2 _ _ y
 .rintro σ G3 ⟨v6,v7,v8,S,rfl,hR,Sh,s3⟩
  rw [length_map] at hR
  have q:=k G3 s3
  unfold cntF at q
  rw [if_pos hlen0,hR] at q
  exact ⟨_,rfl,q⟩
end
def nxtG (b:Int):Nat->List Int->Int
 | _,[]=>1000000
 | p,x :: xs=>if x=b then (p:Int) else nxtG b (p+1) xs
def nxtF (row:List Int) (p:Nat) (b:Int):Int:=nxtG b (p+1) (row.drop (p+1))
def Zgb (sh b:Int) (there:List Int):List Int:=there.filter λo=>decide (V.int (o % sh)=V.int (b % sh))
def bestF (row:List Int) (p:Nat) (some:List Int):Nat:=argBest (λi j=>HT.lexLt ((some.map λo=>[nxtF row p o,o]).getD j []) ((some.map λo=>[nxtF row p o,o]).getD i [])) (some.length - 1)
def goneF (sh pl:Int) (row:List Int) (p:Nat) (b:Int) (there:List Int):Option Int :=
 if b∉there/\pl<=((Zgb sh b there).length:Int) then (Zgb sh b there)[bestF row p (Zgb sh b there)]? else none
def addF (b:Int) (there:List Int):List Int:=if b∈there then there else there++[b]
def runF (sh pl:Int) (row:List Int):Nat->List Int×List (Option Int)
 | 0=>([],[])
 | i+1=>(addF (row.getD i 0) (lessO (runF sh pl row i).1 (goneF sh pl row i (row.getD i 0) (runF sh pl row i).1)),(runF sh pl row i).2++[goneF sh pl row i (row.getD i 0) (runF sh pl row i).1])
def dueF (sh pl:Int) (row:List Int):List (Option Int):=(runF sh pl row row.length).2
theorem Zlq (there:List Int) (g:Option Int):(lessO there g).length<=there.length:=by
 cases g with
 | none=>exact Nat.le_refl _
 | some g=>exact length_erase_le
theorem ZmN (b:Int) (there:List Int):(addF b there).length<=there.length+1:=by
 unfold addF
 split
 .omega
 .simp
theorem ZgJ (sh pl:Int) (row:List Int) (i:Nat):(runF sh pl row i).1.length<=i/\(runF sh pl row i).2.length=i:=by
 induction i with
 | zero=>exact ⟨Nat.le_refl _,rfl⟩
 | succ i ih =>
  refine ⟨?_,?_⟩
  .have h1:=ZmN (row.getD i 0) (lessO (runF sh pl row i).1 (goneF sh pl row i (row.getD i 0) (runF sh pl row i).1))
   have h2:=Zlq (runF sh pl row i).1 (goneF sh pl row i (row.getD i 0) (runF sh pl row i).1)
   show (addF _ _).length<=_
   omega
  .show ((runF sh pl row i).2++_).length=_
   rw [length_append,ih.2]; rfl
def spDue (K:W.Frag):Sp:=λvs H Q _=>∃ (sh pl:Int) (a:Addr) (row:List Int),vs=[.int sh,.int pl,.ref a]/\SqL K H a (row.map V.int)/\1<=sh/\sh<=64/\1<=pl/\pl<=16/\row.length<=400/\Bds 9999 row /\
 ∀ (l:Addr) (H':Hp),H l=none->Same H H'->H' l=some (.lst ((dueF sh pl row).map optV))->Q (.ref l) H'
def nxtD (d b:Int):Nat->List Int->Int
 | _,[]=>d
 | p,x :: xs=>if x=b then (p:Int) else nxtD d b (p+1) xs
theorem ZjV {d b:Int} {row:List Int} {p:Nat} {x:Int} (h:row[p]?=some x):nxtD d b p (row.drop p)=if x=b then (p:Int) else nxtD d b (p+1) (row.drop (p+1)):=by
 obtain ⟨hp,rfl⟩:=List.getElem?_eq_some_iff.mp h
 rw [List.drop_eq_getElem_cons hp]
 rfl
def agn (row:List Int) (p:Nat) (b:Int):Int:=nxtD row.length b p (row.drop p)
theorem ZgK {row:List Int} {p:Nat} {b:Int} (h:row.length<=p):agn row p b=row.length:=by
 unfold agn
 rw [List.drop_eq_nil_of_le h]
 rfl
theorem Zdc {row:List Int} {p:Nat} {b x:Int} (h:row[p]?=some x):agn row p b=if x=b then (p:Int) else agn row (p+1) b:=ZjV h
def ZC (row:List Int):List Int:=(List.range row.length).map λi=>agn row (i+1) (row.getD i 0)
def Zcp (row:List Int) (j:Nat):List Int:=(List.range j).map λk=>agn row (row.length - k) (row.getD (row.length - 1 - k) 0)
theorem Zip (row:List Int):(Zcp row row.length).reverse=ZC row:=by
 unfold Zcp ZC
 apply List.ext_getElem?
 intro i
 by_cases h:i<row.length
 .rw [List.getElem?_reverse (by simpa using h)]
  simp only [length_map,length_range,getElem?_map]
  rw [getElem?_range (by omega),getElem?_range h]
  show some (agn row (row.length - (row.length - 1 - i)) (row.getD (row.length - 1 - (row.length - 1 - i)) 0))=some (agn row (i+1) (row.getD i 0))
  rw [show row.length - (row.length - 1 - i)=i+1 by omega,show row.length - 1 - (row.length - 1 - i)=i by omega]
 .rw [getElem?_eq_none (by simpa using h),getElem?_eq_none (by simpa using h)]
theorem ZbQ (row:List Int):(ZC row).length=row.length:=by unfold ZC; simp
theorem ZjW {row:List Int} {i:Nat} {y:Int} (h:(ZC row)[i]?=some y):y=agn row (i+1) (row.getD i 0):=by
 have hi:i<row.length:=by rw [← ZbQ row]; exact (List.getElem?_eq_some_iff.mp h).1
 unfold ZC at h
 rw [getElem?_map,getElem?_range hi] at h
 exact (Option.some.inj h).symm
theorem ZgL (row:List Int) (j:Nat):Zcp row (j+1)=Zcp row j++[agn row (row.length - j) (row.getD (row.length - 1 - j) 0)]:=by
 unfold Zcp
 rw [List.range_succ,map_append]
 rfl
section
def ZdR (K:W.Frag):Sp:=λvs H Q _=>∃ (a:Addr) (row:List Int),vs=[.ref a]/\SqL K H a (row.map V.int)/\row.length<=400 /\
 ∀ (l:Addr) (H':Hp),H l=none->Same H H'->H' l=some (.lst ((ZC row).map V.int))->Q (.ref l) H'
theorem ZdV (F:Fun K "asked_again" "asked_again" Zai f fd) (T:Txt K mg):FnOk P w K mg base CX0 1 f fd ZU (ZdR K):=by
 refine F.ok sc_asked_again (λvs H Q E h=>?_) (λcdv A outer st H vs Q E hr h=>?_)
 .obtain ⟨a,row,rfl,_⟩:=h
  rfl
 obtain ⟨a,row,rfl,hS,hl,k⟩:=h
 have nd:=sc_asked_again.nd
 have hu:=hu_of hr
 refine ⟨_,(Zf (pst 1 nd (Zz Zd))
   (Zf (pst 2 nd ZcT)
   (Zf (Zba PassesOwn.never rfl (ZfH rfl T.qh_ (pc (pe_op Zbo (Zk (Zl (K:=K) rfl) rfl T.qf_ PySem.boot_len (pc (pv 0) Zd)) Zi) (pc (pe_un ZbD Zi) (pc (pe_un ZbD Zi) Zd)))) (pgn 3 nd) (Zf (pst 4 nd (pe_ix (Zo (K:=K) rfl) (pv 0) (pv 3) (λ_ _=>rfl)))
   (Zf (ZA (ZaJ (K:=K) rfl (pe_bm PySem.F.plainAttrs_list PySem.F.slot_list_append PySem.F.type_list_append ZB (pv 1) (pc (ZkO hu (pv 2) (pv 4) (Zk (Zl (K:=K) rfl) rfl T.qf_ PySem.boot_len (pc (pv 0) Zd)) ⟨rfl,rfl,rfl,rfl⟩) Zd))))
   (Zj (Zgn hu (pv 2) (pv 4) (pv 3) rfl)))))
   (Zj (Zu (ZfG (K:=K) rfl (pv 1) Zdk Zdk (Zdl (pe_un ZbD Zi)))))))),?_⟩
 have len:(row.map V.int).length=row.length:=length_map ..
 refine ⟨(sl 0),λlt hlt=>λld hld=>?_⟩
 have s0:=(Zc hlt (.lst [])).trans (Zc hld (.dK []))
 have hdH:H ld=none:=(Zc hlt (.lst [])).free hld
 have ntd:lt≠ld:=Zb (Za (H:=H) (a:=lt) (o:=.lst [])) hld
 refine ⟨_,rfl,a,_,rfl,.inl (s0.seq hS),_,_,rfl,rfl,_,rfl,_,rfl,_,_,rfl,⟨by omega,by omega,by omega,by omega⟩,Zhn (hi:=((row.map V.int).length:Int) - 1) (n:=(((row.map V.int).length:Int) - 1 - -1).toNat) (λj σ G=>∃ (v3 v4:Option V) (kvs:List (Key×V)),σ=[some (.ref a),some (.ref lt),some (.ref ld),v3,v4]/\G lt=some (.lst ((Zcp row j).map V.int))/\G ld=some (.dK kvs)/\kvs.length<=j/\(∀ b,(valV kvs (Sum.inl b:Key)).getD (.int row.length)=.int (agn row (row.length - j) b))/\Same H G)
  ⟨none,none,[],rfl,by rw [Ze ntd]; exact Za,Za,Nat.le_refl _,λb=>by rw [ZgK (by omega)]; rfl,s0⟩ ?_ ?_⟩
 .rintro j σ G hj ⟨v3,v4,kvs,rfl,h1,h2,hk,hv,s1⟩
  have hjn:j<row.length:=by omega
  have hlt':row.length - 1 - j<row.length:=by omega
  have hget:row[row.length - 1 - j]?=some row[row.length - 1 - j]:=getElem?_eq_getElem hlt'
  have hat:atI (row.map V.int) (((row.map V.int).length:Int) - 1 - (j:Int))=some (.int row[row.length - 1 - j]):=by
   have q:atI (row.map V.int) ((row.length - 1 - j:Nat):Int)=some (.int row[row.length - 1 - j]):=Zao (by rw [getElem?_map,hget]; rfl)
   rw [show ((row.length - 1 - j:Nat):Int)=((row.map V.int).length:Int) - 1 - (j:Int) by omega] at q
   exact q
  have eg:row.getD (row.length - 1 - j) 0=row[row.length - 1 - j]:=by rw [getD_eq_getElem?_getD,hget]; rfl
  have ea:=ZgL row j
  rw [eg] at ea
  generalize row[row.length - 1 - j]=z at *
  refine ⟨_,rfl,_,rfl,a,_,_,_,rfl,rfl,s1.seq hS,hat,?_⟩
  refine ⟨_,rfl,.inl ⟨rfl,_,SqL.of h1⟩,_,rfl,ld,rfl,.inl ⟨_,.inl h2⟩,_,rfl,_,rfl,a,_,rfl,.inl (s1.seq hS),_,DGet.k (k:=Sum.inl z) h2,lt,_,_,rfl,rfl,h1,Zn (by rw [length_map]; unfold Zcp; simp; omega),?_⟩
  rw [len,hv z]
  have h2':upd G lt (.lst ((Zcp row j).map V.int++[.int (agn row (row.length - j) z)])) ld=some (.dK kvs):=by rw [Ze (Ne.symm ntd)]; exact h2
  refine ⟨_,rfl,_,rfl,_,rfl,ld,_,rfl,DPut.k (k:=Sum.inl z) h2' (Zn (by omega)),⟨_,_,_,rfl,?_,Za,?_,λb=>?_,?_⟩⟩
  .rw [Ze ntd,Za,ea,map_append]; rfl
  .exact Nat.le_trans (Zaq ..) (by omega)
  .rw [ZcS,show row.length - (j+1)=row.length - 1 - j by omega,Zdc hget]
   by_cases e:z=b
   .subst e
    rw [if_pos rfl,if_pos rfl]
    show V.int _=V.int _
    congr 1
    omega
   .rw [if_neg (λq=>e (Sum.inl.inj q).symm),if_neg e,hv b,show row.length - 1 - j+1=row.length - j by omega]
  .intro e o y
   rw [Ze (Zb y hdH),Ze (Zb y hlt)]
   exact s1 _ _ y
 .rintro σ G ⟨v3,v4,kvs,rfl,h1,h2,hk,hv,s1⟩
  rw [show (((row.map V.int).length:Int) - 1 - -1).toNat=row.length by omega] at h1
  refine ⟨_,rfl,1,rfl,_,rfl,lt,_,rfl,SqL.of h1,by decide,?_,λp hp=>?_⟩
  .rw [Zcf,List.length_reverse,length_map]; unfold Zcp; simp; exact Nat.le_of_lt (Zn (by omega))
  .rw [Zcf,← List.map_reverse,Zip]
   exact k p _ (s1.free hp) (s1.trans (Zc hp _)) Za
end
theorem ZhG (sh b:Int) (there:List Int):Zgb sh b there=Zh sh (b % sh) there:=by
 unfold Zgb Zh
 refine List.filter_congr λo _=>?_
 rw [decide_eq_decide]
 exact ⟨λe=>by injection e,λe=>by rw [e]⟩
theorem ZdS (sh s:Int) (there:List Int) (g:Option Int):Zh sh s (lessO there g)=lessO (Zh sh s there) g:=by
 cases g with
 | none=>rfl
 | some g =>
  show (there.erase g).filter _=(there.filter _).erase g
  rw [List.erase_filter]
theorem ZjX {l:List Int} {g:Option Int} (h:∀ x,g=some x->x∉l):lessO l g=l:=by
 cases g with
 | none=>rfl
 | some g=>exact erase_of_not_mem (h g rfl)
theorem Shl.same {H H':Hp} {ls:Addr} {ads:List Addr} {sh:Int} {there:List Int} (h:Shl H ls ads sh there) (s:Same H H'):Shl H' ls ads sh there :=
 ⟨s _ _ h.top,h.len,h.nd,h.off,λi ad e=>s _ _ (h.at_ i ad e)⟩
theorem Shl.free {H:Hp} {ls:Addr} {ads:List Addr} {sh:Int} {there:List Int} (h:Shl H ls ads sh there) {p:Addr} (hp:H p=none):p≠ls/\p∉ads:=by
 refine ⟨λe=>?_,λm=>?_⟩
 .rw [e,h.top] at hp; cases hp
 .obtain ⟨s,e⟩:=List.getElem?_of_mem m
  rw [h.at_ s p e] at hp; cases hp
theorem ZcD {f g:Nat->Nat->Bool}:∀ k,(∀ i j,i<=k->j<=k->f i j=g i j)->argBest f k=argBest g k/\argBest g k<=k
 | 0,_=>⟨rfl,Nat.le_refl _⟩
 | k+1,h=>by
  obtain ⟨e,l⟩:=ZcD k λi j hi hj=>h i j (by omega) (by omega)
  unfold argBest
  rw [e,h (k+1) (argBest g k) (Nat.le_refl _) (by omega)]
  refine ⟨rfl,?_⟩
  split <;> omega
theorem nxtGD (d b:Int):∀ (xs:List Int) (p:Nat),(nxtG b p xs=1000000/\nxtD d b p xs=d)\/(nxtG b p xs=nxtD d b p xs/\(p:Int)<=nxtD d b p xs/\nxtD d b p xs<p+xs.length)
 | [],p=>.inl ⟨rfl,rfl⟩
 | x :: xs,p=>by
  unfold nxtG nxtD
  by_cases e:x=b
  .rw [if_pos e,if_pos e]
   refine .inr ⟨rfl,by omega,?_⟩
   rw [length_cons]; omega
  .rw [if_neg e,if_neg e]
   rcases nxtGD d b xs (p+1) with h | ⟨h1,h2,h3⟩
   .exact .inl h
   .refine .inr ⟨h1,by omega,?_⟩
    rw [length_cons]; omega
theorem ZjY {row:List Int} {i:Nat} {o:Int} (hi:i<row.length):(nxtF row i o=1000000/\agn row (i+1) o=row.length)\/(nxtF row i o=agn row (i+1) o/\agn row (i+1) o<row.length):=by
 rcases nxtGD row.length o (row.drop (i+1)) (i+1) with h | ⟨h1,h2,h3⟩
 .exact .inl h
 .refine .inr ⟨h1,?_⟩
  rw [length_drop] at h3
  show nxtD _ _ _ _<_
  omega
theorem lex2 (a b c d:Int):HT.lexLt [a,b] [c,d]=if a=c then decide (b<d) else decide (a<c):=by
 rw [HT.lexLt_cons,HT.lexLt_cons]
 split
 .split
  .rename_i _ e; subst e; simp [HT.lexLt]
  .rfl
 .rfl
theorem Zlr {row mates:List Int} {i:Nat} (hi:i<row.length) (hl:row.length<=400) (hne:mates≠[]) :
  argBest (λa b=>HT.lexLt ((mates.map λo=>[agn row (i+1) o,o]).getD b []) ((mates.map λo=>[agn row (i+1) o,o]).getD a [])) (mates.length - 1)=bestF row i mates:=by
 have pos:0<mates.length:=List.length_pos_iff.mpr hne
 refine (ZcD _ λa b ha hb=>?_).1
 have la:a<mates.length:=by omega
 have lb:b<mates.length:=by omega
 simp only [getD_eq_getElem?_getD,getElem?_map,getElem?_eq_getElem la,getElem?_eq_getElem lb,Option.map_some,Option.getD_some]
 rw [lex2,lex2]
 rcases ZjY (row:=row) (i:=i) (o:=mates[a]) hi with ⟨x1,x2⟩ | ⟨x1,x2⟩ <;> rcases ZjY (row:=row) (i:=i) (o:=mates[b]) hi with ⟨y1,y2⟩ | ⟨y1,y2⟩
 .rw [x1,x2,y1,y2]; simp
 .rw [x1,x2,y1,if_neg (by omega),if_neg (by omega),decide_eq_decide]; omega
 .rw [x1,y2,y1,if_neg (by omega),if_neg (by omega),decide_eq_decide]; omega
 .rw [x1,y1]
theorem hideD {t:TS} {D:Ends} {σ:St} {H:Hp} (h:∀ D':Ends,(∀ σ G,D.nx σ G->D'.nx σ G)->t D' σ H):t D σ H:=h D λ_ _ x=>x
section
theorem ZgM (F:Fun K "farthest" "farthest" Zax f fd) (T:Txt K mg) (qd_:Def P w K mg base "shelf_of" 1 Zah ZbX) (q8_:Def P w K mg base "come" 1 Zeq ZhF) (qg_:Def P w K mg base "asked_again" 1 ZU (ZdR K)):FnOk P w K mg base CX0 8 f fd Zbt (spDue K):=by
 refine F.ok sc_farthest (λvs H Q E h=>?_) (λcdv A outer st H vs Q E hr h=>?_)
 .obtain ⟨sh,pl,a,row,rfl,_⟩:=h
  rfl
 obtain ⟨sh,pl,a,row,rfl,hS,hs0,hs1,hp0,hp1,hl,bd,k⟩:=h
 have nd:=sc_farthest.nd
 have hu:=hu_of hr
 refine ⟨_,(Zf (ZcQ 3 (Zw (osc:=(Zg Zax)) (oN:=Zcv) (N:=["number"]) (own:=1) (js:=[]) (by decide +kernel) rfl rfl) rfl nd rfl rfl (ZW rfl T.qh_ (pc (pv 0) Zd)) (λ_ _ _ _ _ _=>(pgn 0 (show List.Nodup (["number"]:List Str) by decide +kernel))) (λ_ _ _ _ _ _=>(Zz Zd)))
   (Zf (pst 4 nd ZcT)
   (Zf (pst 5 nd (Zz Zd))
   (Zf (Zba PassesOwn.never rfl (ZlE rfl T.vp_ (pc (pv 2) (pc (Zm qg_ hr.m rfl (pc (pv 2) Zd)) Zd))) (Zap (K:=K) (n:=2) rfl rfl (Zt (pgn 6 nd) (Zt (pgn 7 nd) Zan))) (Zf (pst 8 nd (pe_ix (Zo (K:=K) rfl) (pv 3) (Zm qd_ hr.m rfl (pc (pv 0) (pc (pv 6) Zd))) (λ_ _=>rfl)))
   (Zf (pst 9 nd ZdY)
   (Zf (ps_if (Zs (ZaE (K:=K) rfl) (pv 6) (pv 8) rfl) (Zf (ps_if (Zs op_ge (Zk (Zl (K:=K) rfl) rfl T.qf_ PySem.boot_len (pc (pv 8) Zd)) (pv 1) (Zv _)) (Zj (Zca (Zk (ZiY rfl hu rfl) rfl T.vn_ ZeB (pc (ZaV (Zw (osc:=(Zg Zax)) (oN:=Zcv) (N:=["mate", "again"]) (own:=1) (js:=[4]) (by decide +kernel) rfl rfl) rfl (Zaf (K:=K) rfl (pv 8)) (λ_ _ _ _ _ _=>(pgn 0 (show List.Nodup (["mate", "again"]:List Str) by decide +kernel))) (λ_ _ _ _ _ _=>(ZbC (pc (Zjb hu (pv 1) (pv 0) (λ_ _=>rfl)) (pc (pv 0) Zd))))) Zd)) (Zap (K:=K) (n:=2) rfl rfl (Zt (pgn 10 nd) (Zt (pgn 9 nd) Zan))))) Zy)
   (Zj (ZA (Zm q8_ hr.m rfl (pc (pv 8) (pc (pv 6) (pc (pv 9) Zd))))))) Zy)
   (Zf (Zgn hu (pv 4) (pv 6) (pv 7) rfl)
   (Zj (ZA (ZaJ (K:=K) rfl (pe_bm PySem.F.plainAttrs_list PySem.F.slot_list_append PySem.F.type_list_append ZB (pv 5) (pc (pv 9) Zd))))))))))
   (Zj (Zu (pv 5))))))),?_⟩
 refine ⟨_,rfl,sh,rfl,by omega,by omega,λls hls=>?_⟩
 refine Zav (lo:=0) (n:=sh.toNat) (l:=ls) (λj ys σ G=>∃ (v0:Option V) (ads:List Addr),σ=[v0]/\ys=ads.map V.ref/\ads.length=j/\ads.Nodup/\ls∉ads/\G ls=some (.lst ys)/\(∀ ad∈ads,H ad=none/\G ad=some (.lst []))/\Same H G)
  ⟨none,[],rfl,rfl,rfl,nodup_nil,by simp,Za,by simp,Zc hls _⟩ ?_ ?_
 .rintro j ys σ G hj hy ⟨v0,ads,rfl,rfl,hlen,hnd,hoff,g1,g2,s1⟩
  refine ⟨(sl 0),λp hp=>?_⟩
  have np:ls≠p:=Zb g1 hp
  have nip:p∉ads:=λm=>by rw [(g2 p m).2] at hp; cases hp
  refine CNx.of (Nat.le_trans (by omega:sh.toNat<=64) (by decide)) hj hy (by rw [Ze np]; exact g1) ⟨_,ads++[p],rfl,by rw [map_append]; rfl,by rw [length_append,hlen]; rfl,Zbd hnd nip,?_,Za,λad m=>?_,?_⟩
  .intro m
   rcases List.mem_append.mp m with m | m
   .exact hoff m
   .exact np (by simpa using m)
  .rcases List.mem_append.mp m with m | m
   .rw [Ze (λz:ad=ls=>hoff (z ▸ m)),Ze (λz:ad=p=>nip (z ▸ m))]
    exact g2 ad m
   .have e:ad=p:=by simpa using m
    subst e
    rw [Ze (Ne.symm np)]
    exact ⟨s1.free hp,Za⟩
  .intro e o y
   rw [Ze (Zb y hls),Ze (Zb (s1 _ _ y) hp)]
   exact s1 _ _ y
 rintro ys σ G hy ⟨v0,ads,rfl,rfl,hlen,hnd,hoff,g1,g2,s1⟩
 refine gN ?_
 have S0:Shl G ls ads sh []:=⟨g1,hlen,hnd,hoff,λi ad e=>(g2 ad (mem_of_getElem? e)).2⟩
 have fr:∀ ad∈ads,H ad=none:=λad m=>(g2 ad m).1
 clear g1 g2 hy
 dsimp only
 intro ld hld
 refine ⟨(sl 0),λlo hlo=>?_⟩
 obtain ⟨nd1,nd2⟩:=S0.free hld
 have S1:=S0.same (Zc hld (.dK []))
 obtain ⟨no1,no2⟩:=S1.free hlo
 have S2:=S1.same (Zc hlo (.lst []))
 have nod:lo≠ld:=λe=>by rw [e,Za] at hlo; cases hlo
 have s3:=s1.trans ((Zc hld (.dK [])).trans (Zc hlo (.lst [])))
 have e1:upd (upd G ld (.dK [])) lo (.lst []) ld=some (.dK []):=by rw [Ze (Ne.symm nod)]; exact Za
 have e2:upd (upd G ld (.dK [])) lo (.lst []) lo=some (.lst []):=Za
 have hdH:H ld=none:=s1.free hld
 have hoH:H lo=none:=(s1.trans (Zc hld (.dK []))).free hlo
 generalize upd (upd G ld (.dK [])) lo (.lst [])=G2 at *
 refine ⟨_,rfl,_,rfl,a,row,rfl,s3.seq hS,hl,λla G3 hla s4 e3=>?_⟩
 obtain ⟨na1,na2⟩:=S2.free hla
 have nao:la≠lo:=λe=>by rw [e,e2] at hla; cases hla
 have nad:la≠ld:=λe=>by rw [e,e1] at hla; cases hla
 have s5:=s3.trans s4
 refine ⟨a,la,rfl,⟨_,s5.seq hS⟩,⟨_,SqL.of e3⟩,Zjn (K:=K) (a:=a) (b:=la) (xs:=row.map V.int) (ys:=(ZC row).map V.int) (λi σ G=>∃ (v6 v7 v8 v9 v10:Option V) (kvs:List (Key×V)),σ=[some (.int sh),some (.int pl),some (.ref a),some (.ref ls),some (.ref ld),some (.ref lo),v6,v7,v8,v9,v10]/\Shl G ls ads sh (runF sh pl row i).1/\G lo=some (.lst ((runF sh pl row i).2.map optV))/\G ld=some (.dK kvs)/\kvs.length<=i/\(∀ b∈(runF sh pl row i).1,valV kvs (Sum.inl b:Key)=some (.int (agn row i b)))/\G la=some (.lst ((ZC row).map V.int))/\Same H G)
  (by rw [length_map,length_map,ZbQ]) ⟨none,none,none,none,none,[],rfl,S2.same s4,s4 _ _ e2,s4 _ _ e1,Nat.le_refl _,λb m=>(nomatch m),e3,s5⟩ (λi σ G _ h=>by obtain ⟨_,_,_,_,_,_,_,_,_,_,_,_,q1,q2⟩:=h; exact ⟨q2.seq hS,SqL.of q1⟩) ?_ ?_⟩
 .clear S0 S1 S2 e1 e2 s3 s4 s5 e3 hld hlo hla s1
  rintro i x y t σ G hx hy ⟨v6,v7,v8,v9,v10,kvs,rfl,S,h1,h2,hk,hv,h3,s1⟩ ht
  obtain ⟨z,hz,rfl⟩:=Zbr hx
  obtain ⟨y,hy',rfl⟩:=Zbr hy
  have ey:=ZjW hy'
  have hi:i<row.length:=(List.getElem?_eq_some_iff.mp hz).1
  have eg:row.getD i 0=z:=by rw [getD_eq_getElem?_getD,hz]; rfl
  rw [eg] at ey
  obtain ⟨len1,len2⟩:=ZgJ sh pl row i
  have r1:(runF sh pl row (i+1)).1=addF z (lessO (runF sh pl row i).1 (goneF sh pl row i z (runF sh pl row i).1)):=by rw [← eg]; rfl
  have r2:(runF sh pl row (i+1)).2=(runF sh pl row i).2++[goneF sh pl row i z (runF sh pl row i).1]:=by rw [← eg]; rfl
  generalize (runF sh pl row i).1=there at *
  generalize (runF sh pl row i).2=found at *
  refine ⟨t,_,rfl,SqT.of Za,rfl,_,_,rfl,_,_,rfl,rfl,?_⟩
  refine hideD λDz hDz=>?_
  try dsimp only
  refine hide λu1 e1=>?_
  have w:=Zc ht (.tup [.int z,.int y])
  have S1:=S.same w
  have g1:=w _ _ h1
  have g2:=w _ _ h2
  have g3:=w _ _ h3
  have s2:=s1.trans w
  generalize upd G t (.tup [.int z,.int y])=G1 at *
  clear S h1 h2 h3 s1 w
  obtain ⟨s0,ad,es0,had,hat,hm⟩:=S1.get (k:=z % sh) (Int.emod_nonneg _ (by omega)) (Int.emod_lt_of_pos _ (by omega))
  refine ⟨_,rfl,_,rfl,_,rfl,sh,z,rfl,hs0,ls,_,_,_,rfl,rfl,SqL.of S1.top,hat,?_⟩
  have hg:goneF sh pl row i z there=if z∉there/\pl<=((Zh sh (z % sh) there).length:Int) then (Zh sh (z % sh) there)[bestF row i (Zh sh (z % sh) there)]? else none:=by unfold goneF; rw [ZhG]
  have lm:(Zh sh (z % sh) there).length<=there.length:=length_filter_le ..
  have hin:∀ b,b∈Zh sh (z % sh) there↔b∈there/\b % sh=z % sh:=λb=>mem_shelfS
  have hsl:∀ gone:Option Int,(∀ g,gone=some g->g∈Zh sh (z % sh) there)->z∉there->Shl (upd G1 ad (.lst ((lessO (Zh sh (z % sh) there) gone++[z]).map V.int))) ls ads sh (addF z (lessO there gone)):=λgone hgm hnz=>by
   have e:addF z (lessO there gone)=lessO there gone++[z]:=by
    unfold addF
    rw [if_neg]
    cases gone with
    | none=>exact hnz
    | some g=>exact λm=>hnz (mem_of_mem_erase m)
   refine S1.put had ?_ λs hs=>?_
   .rw [e,ZF,if_pos es0.symm,ZdS,es0]
   .have ne:¬ z % sh=(s:Int):=λq=>hs (by omega)
    rw [e,ZF,if_neg ne,ZdS]
    exact ZjX λx hx m=>ne (((hin x).mp (hgm x hx)).2.symm.trans (mem_shelfS.mp m).2)
  have hfar:∀ o∈Zh sh (z % sh) there,z∉there->valV kvs (Sum.inl o:Key)=some (.int (agn row (i+1) o)):=λo mo hnz=>by
   have mt:=((hin o).mp mo).1
   have ne:¬ z=o:=λe=>hnz (e ▸ mt)
   rw [hv o mt,Zdc hz,if_neg ne]
  generalize Zh sh (z % sh) there=mates at *
  generalize hgo:goneF sh pl row i z there=gone at *
  have gmem:∀ g,gone=some g->g∈mates:=λg e=>by
   rw [hg] at e
   split at e
   .exact mem_of_getElem? e
   .cases e
  refine gN ?_
  subst e1
  dsimp only
  refine cpA (λv G'=>v=.non/\G1=G') (λQ' k'=>k' _ _ ⟨rfl,rfl⟩) ?_
  rintro _ _ ⟨rfl,rfl⟩
  refine gN ?_
  refine cpI (λσ G'=>∃ v10:Option V,σ=[some (.int sh),some (.int pl),some (.ref a),some (.ref ls),some (.ref ld),some (.ref lo),some (.int z),some (.int y),some (.ref ad),some (optV gone),v10]/\Shl G' ls ads sh (addF z (lessO there gone))/\G' lo=some (.lst (found.map optV))/\G' ld=some (.dK kvs)/\G' la=some (.lst ((ZC row).map V.int))/\Same H G') (λD' _ k'=>?_) ?_
  .refine ⟨_,rfl,_,rfl,ad,_,rfl,.inl (SqL.of hm),rfl,Zbm _,_,rfl,?_⟩
   rw [ZdN,if_pos rfl]
   refine ZhA (λc=>?_) (λc=>?_)
   .have c':z∉mates:=by simpa using c
    have hnz:z∉there:=λm=>c' ((hin z).mpr ⟨m,rfl⟩)
    refine cpI (λσ G'=>∃ v10:Option V,σ=[some (.int sh),some (.int pl),some (.ref a),some (.ref ls),some (.ref ld),some (.ref lo),some (.int z),some (.int y),some (.ref ad),some (optV gone),v10]/\Same G1 G') (λD'' _ k''=>?_) ?_
    .refine ⟨_,rfl,ad,_,rfl,.inl (SqL.of hm),_,rfl,_,_,rfl,rfl,_,rfl,?_⟩
     rw [length_map]
     refine ZO (λc2=>?_) (λc2=>?_)
     .rw [if_pos ⟨hnz,c2⟩] at hg
      have pos:0<mates.length:=by omega
      refine ⟨_,rfl,ad,rfl,⟨_,SqL.of hm⟩,λl2 hl2=>?_⟩
      refine Zak (K:=K) (a:=ad) (xs:=mates.map V.int) (l:=l2) (λj ys σ' G'=>∃ (v0:Option V) (as:List Addr),σ'=[v0,some (.ref ld)]/\ys=as.map V.ref/\as.length=j/\G' l2=some (.lst ys)/\(∀ (m:Nat) (ad:Addr) (o:Int),as[m]?=some ad->mates[m]?=some o->G' ad=some (.tup [.int (agn row (i+1) o),.int o]))/\Same G1 G')
       ⟨none,[],rfl,rfl,rfl,Za,λm ad o h=>(by simp at h),Zc hl2 _⟩ (λj ys σ' G' _ h=>by obtain ⟨_,_,_,_,_,_,_,q⟩:=h; exact SqL.of (q _ _ hm)) ?_ ?_
      .rintro j x ys σ' G' hj hxj hys ⟨v0,as,rfl,rfl,hj',q1,q2,q3⟩
       obtain ⟨o,ho,rfl⟩:=Zbr hxj
       have ev:=hfar o (mem_of_getElem? ho) hnz
       refine ⟨_,rfl,_,rfl,ld,_,rfl,(by have q:=DGet.k (k:=Sum.inl o) (q3 _ _ g2); rw [ev] at q; exact q),_,rfl,(sl 2),λp hp=>?_⟩
       have np:l2≠p:=Zb q1 hp
       refine CNx.of (Nat.le_of_lt (Zn (by rw [length_map]; omega))) hj hys (by rw [Ze np]; exact q1) ⟨_,as++[p],rfl,by rw [map_append]; rfl,by rw [length_append,hj']; rfl,Za,λm ad o' hm ho'=>?_,?_⟩
       .by_cases hmj:m<as.length
        .rw [getElem?_append_left hmj] at hm
         have q:=q2 m ad o' hm ho'
         have na:ad≠l2:=λe=>by rw [e,q1] at q; cases q
         rw [Ze na,Ze (Zb q hp)]
         exact q
        .rw [getElem?_append_right (by omega)] at hm
         have em:m=as.length:=by
          have:=(List.getElem?_eq_some_iff.mp hm).1
          simp at this; omega
         subst em
         rw [Nat.sub_self] at hm
         cases hm
         rw [hj',ho] at ho'
         cases ho'
         rw [Ze (Ne.symm np)]
         exact Za
       .intro e o' y
        rw [Ze (Zb y hl2)]
        exact Zc hp _ _ _ (q3 _ _ y)
      .rintro ys σ' G' hys ⟨v0,as,rfl,rfl,hj',q1,q2,q3⟩
       rw [length_map] at hj'
       refine ⟨l2,as,mates.map (λo=>[agn row (i+1) o,o]),rfl,SqL.of q1,λe=>?_,by rw [length_map]; exact hj',λm ad ns hm hns=>?_,λm ad2 hm2 had2=>?_⟩
       .rw [e] at hj'; simp at hj'; omega
       .rw [getElem?_map] at hns
        cases ho:mates[m]? with
        | none=>rw [ho] at hns; cases hns
        | some o =>
         rw [ho] at hns
         cases hns
         exact SqT.of (q2 m ad o hm ho)
       .have hm':m=bestF row i mates:=by
         rw [hm2,hj']
         exact Zlr hi hl (List.length_pos_iff.mp pos)
        rw [← hm'] at hg
        have mlt:m<mates.length:=by rw [← hj']; exact (List.getElem?_eq_some_iff.mp had2).1
        rw [getElem?_eq_getElem mlt] at hg
        have q4:=q2 m ad2 _ had2 (getElem?_eq_getElem mlt)
        subst hg
        exact ⟨ad2,_,rfl,SqT.of q4,rfl,_,_,rfl,_,_,rfl,rfl,k'' _ _ ⟨_,rfl,q3⟩⟩
     .rw [if_neg (λq=>c2 q.2)] at hg
      subst hg
      exact k'' _ _ ⟨_,rfl,Same.refl _⟩
    .rintro _ G2 ⟨v10,rfl,t1⟩
     have hm2:=t1 _ _ hm
     have nal:ad≠lo:=λe:ad=lo=>no2 (e ▸ mem_of_getElem? had)
     have nad':ad≠ld:=λe:ad=ld=>nd2 (e ▸ mem_of_getElem? had)
     have naa:ad≠la:=λe:ad=la=>na2 (e ▸ mem_of_getElem? had)
     refine ⟨_,rfl,_,rfl,_,rfl,ad,mates,z,gone,rfl,hm2,by omega,gmem,k' _ _ ⟨_,rfl,?_,?_,?_,?_,?_⟩⟩
     .have S2:=hsl gone gmem hnz
      refine ⟨?_,S2.len,S2.nd,S2.off,λs a e=>?_⟩
      .rw [Ze (λz:ls=ad=>S1.off (z ▸ mem_of_getElem? had))]
       exact t1 _ _ S1.top
      .have q:=S2.at_ s a e
       by_cases ea:a=ad
       .subst ea
        rw [Za] at q ⊢
        exact q
       .rw [Ze ea] at q ⊢
        exact t1 _ _ q
     .rw [Ze (Ne.symm nal)]; exact t1 _ _ g1
     .rw [Ze (Ne.symm nad')]; exact t1 _ _ g2
     .rw [Ze (Ne.symm naa)]; exact t1 _ _ g3
     .intro e o q
      rw [Ze (Zb q (fr ad (mem_of_getElem? had)))]
      exact t1 _ _ (s2 _ _ q)
   .have c':z∈there:=((hin z).mp (by simpa using c)).1
    rw [if_neg (λq=>q.1 c')] at hg
    subst hg
    refine k' _ _ ⟨_,rfl,?_,g1,g2,g3,s2⟩
    show Shl G1 ls ads sh (addF z there)
    rw [addF,if_pos c']
    exact S1
  rintro _ G3 ⟨v10,rfl,S3,m1,m2,m3,s4⟩
  refine ⟨_,rfl,_,rfl,_,rfl,ld,_,rfl,DPut.k (k:=Sum.inl z) m2 (Zn (by omega)),?_⟩
  have m1':upd G3 ld (.dK (putK kvs (Sum.inl z) (.int y))) lo=some (.lst (found.map optV)):=by rw [Ze nod]; exact m1
  refine ⟨_,rfl,.inl ⟨rfl,_,SqL.of m1'⟩,_,rfl,lo,_,_,rfl,rfl,m1',Zn (by rw [length_map]; omega),hDz _ _ ⟨_,_,_,_,_,putK kvs (Sum.inl z) (.int y),rfl,?_,?_,?_,?_,?_,?_,?_⟩⟩
  .rw [r1]
   exact (S3.other _ nd1 nd2).other _ no1 no2
  .rw [Za,r2,map_append]; rfl
  .rw [Ze (Ne.symm nod)]; exact Za
  .exact Nat.le_trans (Zaq ..) (by omega)
  .intro b m
   rw [r1] at m
   rw [ZcS]
   by_cases e:b=z
   .subst e
    rw [if_pos rfl,ey]
   .rw [if_neg (λq=>e (Sum.inl.inj q))]
    have mt:b∈there:=by
     have m':b∈lessO there gone:=by
      unfold addF at m
      split at m
      .exact m
      .rcases List.mem_append.mp m with m | m
       .exact m
       .exact absurd (by simpa using m) e
     cases gone with
     | none=>exact m'
     | some g=>exact mem_of_mem_erase m'
    rw [hv b mt,Zdc hz,if_neg (λq=>e q.symm)]
  .rw [Ze nao,Ze nad]; exact m3
  .intro e o q
   rw [Ze (Zb q hoH),Ze (Zb q hdH)]
   exact s4 _ _ q
 .rintro σ G ⟨v6,v7,v8,v9,v10,kvs,rfl,S,h1,h2,hk,hv,h3,s1⟩
  rw [length_map] at h1
  exact ⟨_,rfl,k lo G hoH s1 h1⟩
end
theorem ZjZ (f:Nat->Nat->Bool) (k:Nat):argBest f k<=k:=(ZcD (f:=f) (g:=f) k λ_ _ _ _=>rfl).2
theorem ZlW {sh pl:Int} {row:List Int}:∀ {n i:Nat},i<n->(runF sh pl row n).2[i]?=some (goneF sh pl row i (row.getD i 0) (runF sh pl row i).1)
 | 0,i,h=>absurd h (Nat.not_lt_zero _)
 | n+1,i,h=>by
  have len:=(ZgJ sh pl row n).2
  show ((runF sh pl row n).2++[_])[i]?=_
  by_cases c:i<n
  .rw [getElem?_append_left (by rw [len]; exact c)]
   exact ZlW c
  .have e:i=n:=by omega
   subst e
   rw [getElem?_append_right (by rw [len]; exact Nat.le_refl _),len,Nat.sub_self]
   rfl
theorem Zka (sh pl:Int) (row:List Int):(dueF sh pl row).length=row.length:=(ZgJ sh pl row row.length).2
theorem ZmO {sh pl:Int} (hp:1<=pl) (row:List Int) (i:Nat) (b:Int) (there:List Int):mayB pl (Zh sh (b % sh) there) b (goneF sh pl row i b there)=true:=by
 have hin:b∈Zh sh (b % sh) there↔b∈there:=⟨λm=>(mem_shelfS.mp m).1,λm=>mem_shelfS.mpr ⟨m,rfl⟩⟩
 unfold goneF mayB
 rw [ZhG]
 by_cases c:b∈there\/((Zh sh (b % sh) there).length:Int)<pl
 .rw [if_pos (c.imp hin.mpr id),if_neg]
  .rfl
  .rintro ⟨q1,q2⟩
   rcases c with c | c
   .exact q1 c
   .omega
 .have c1:b∉there:=λq=>c (.inl q)
  have c2:pl<=((Zh sh (b % sh) there).length:Int):=by
   have:¬ ((Zh sh (b % sh) there).length:Int)<pl:=λq=>c (.inr q)
   omega
  rw [if_neg (λq=>c (q.imp hin.mp id)),if_pos ⟨c1,c2⟩]
  have lt:bestF row i (Zh sh (b % sh) there)<(Zh sh (b % sh) there).length:=by
   have:=ZjZ (λi' j=>HT.lexLt (((Zh sh (b % sh) there).map λo=>[nxtF row i o,o]).getD j []) (((Zh sh (b % sh) there).map λo=>[nxtF row i o,o]).getD i' [])) ((Zh sh (b % sh) there).length - 1)
   have e:bestF row i (Zh sh (b % sh) there)<=(Zh sh (b % sh) there).length - 1:=this
   omega
  rw [getElem?_eq_getElem lt]
  exact decide_eq_true (getElem_mem lt)
theorem Zkb {sh pl:Int} (hp:1<=pl) (row:List Int):∀ i,i<=row.length->∃ c,ordR sh pl row (dueF sh pl row) i=some ((runF sh pl row i).1,c)
 | 0,_=>⟨0,rfl⟩
 | i+1,h=>by
  obtain ⟨c,e⟩:=Zkb hp row i (by omega)
  have eo:(dueF sh pl row).getD i none=goneF sh pl row i (row.getD i 0) (runF sh pl row i).1:=by
   rw [getD_eq_getElem?_getD]
   unfold dueF
   rw [ZlW (by omega:i<row.length)]
   rfl
  have hm:=ZmO (sh:=sh) hp row i (row.getD i 0) (runF sh pl row i).1
  have r1:(runF sh pl row (i+1)).1=addF (row.getD i 0) (lessO (runF sh pl row i).1 (goneF sh pl row i (row.getD i 0) (runF sh pl row i).1)):=rfl
  have r2:ordR sh pl row (dueF sh pl row) (i+1)=ordS sh pl (row.getD i 0) (goneF sh pl row i (row.getD i 0) (runF sh pl row i).1) ((runF sh pl row i).1,c):=by
   show (ordR sh pl row (dueF sh pl row) i).bind _=_
   rw [e,eo]
   rfl
  rw [r1,r2]
  have hg:row.getD i 0∈(runF sh pl row i).1->goneF sh pl row i (row.getD i 0) (runF sh pl row i).1=none:=λm=>by
   unfold goneF
   rw [if_neg (λq=>q.1 m)]
  generalize goneF sh pl row i (row.getD i 0) (runF sh pl row i).1=o at *
  generalize row.getD i 0=b at *
  generalize (runF sh pl row i).1=there at *
  unfold ordS
  rw [if_pos hm]
  by_cases c2:b∈there
  .rw [if_pos c2,hg c2]
   refine ⟨c,?_⟩
   show some (there,c)=some (addF b there,c)
   unfold addF
   rw [if_pos c2]
  .rw [if_neg c2]
   refine ⟨c+1,?_⟩
   unfold addF
   rw [if_neg]
   cases o with
   | none=>exact c2
   | some g=>exact λm=>c2 (mem_of_mem_erase m)
theorem Zls {sh pl:Int} (hp:1<=pl) (row:List Int):∃ c:Nat,cntF sh pl row (dueF sh pl row)=some (c:Int)/\c<=row.length:=by
 obtain ⟨c,e⟩:=Zkb hp row row.length (Nat.le_refl _)
 refine ⟨c,?_,(ZeY e).2⟩
 unfold cntF
 rw [if_pos (Zka sh pl row),e]
 rfl
section
def spBy (K:W.Frag):Sp:=λvs H Q _=>∃ (sh pl:Int) (a lo:Addr) (row:List Int) (os:List (Option Int)) (c:Int),vs=[.int sh,.int pl,.ref a,.ref lo]/\SqL K H a (row.map V.int)/\H lo=some (.lst (os.map optV))/\1<=sh/\sh<=64/\row.length<=400/\cntF sh pl row os=some c /\
 ∀ H',Same H H'->Q (.int c) H'
theorem Zgc (F:Fun K "misses_by" "misses_by" ZaL f fd) (T:Txt K mg) (qq_:Def P w K mg base "count_misses" 3 Zal (spCnt K)):FnOk P w K mg base CX0 4 f fd Zbh (spBy K):=by
 refine F.ok sc_misses_by (λvs H Q E h=>?_) (λcdv A outer st H vs Q E hr h=>?_)
 .obtain ⟨sh,pl,a,lo,row,os,c,rfl,_⟩:=h
  rfl
 obtain ⟨sh,pl,a,lo,row,os,c,rfl,hS,hO,hs0,hs1,hl,hc,k⟩:=h
 have nd:=sc_misses_by.nd
 refine ⟨_,(Zf (pst 4 nd (Zm qq_ hr.m rfl (pc (pv 0) (pc (pv 1) (pc (pv 2) (pc (pv 3) Zd))))))
   (Zf (ps_if (ZgT (Zix (pv 4))) (Zj ps_no) Zy)
   (Zj (Zu (pv 4))))),?_⟩
 refine ⟨_,rfl,_,rfl,_,rfl,_,rfl,sh,pl,a,lo,row,os,rfl,hS,hO,hs0,hs1,hl,λH1 s1=>?_⟩
 rw [hc]
 exact ⟨_,rfl,_,rfl,ifF rfl ⟨_,rfl,k H1 s1⟩⟩
end
structure Pol (sh pl:Int) (row:List Int) (O:Nat->List Int) (m:Nat->Nat):Prop where
 z:O 0=[]/\m 0=0
 nd:∀ i,i<=row.length->(O i).Nodup
 sz:∀ i,i<=row.length->∀ s,((Zh sh s (O i)).length:Int)<=pl
 hit:∀ i,i<row.length->row.getD i 0∈O i->(∀ x∈O (i+1),x∈O i)/\m (i+1)=m i
 mis:∀ i,i<row.length->row.getD i 0∉O i->(∀ x∈O (i+1),x=row.getD i 0\/x∈O i)/\m (i+1)=m i+1
 now:∀ i,i<row.length->row.getD i 0∈O (i+1)
section
variable {sh pl:Int} {row:List Int} {os:List (Option Int)}
def oS (sh pl:Int) (row:List Int) (os:List (Option Int)) (i:Nat):List Int×Nat:=(ordR sh pl row os i).getD ([],0)
theorem ZlX {i:Nat} {S:List Int×Nat} (h:ordR sh pl row os (i+1)=some S):ordR sh pl row os i=some (oS sh pl row os i)/\ordS sh pl (row.getD i 0) (os.getD i none) (oS sh pl row os i)=some S:=by
 have h':(ordR sh pl row os i).bind (ordS sh pl (row.getD i 0) (os.getD i none))=some S:=h
 unfold oS
 cases e:ordR sh pl row os i with
 | none=>rw [e] at h'; cases h'
 | some U=>rw [e] at h'; exact ⟨rfl,h'⟩
theorem ZmP {n:Nat} {S:List Int×Nat} (h:ordR sh pl row os n=some S):∀ i,i<=n->ordR sh pl row os i=some (oS sh pl row os i):=by
 induction n generalizing S with
 | zero =>
  intro i hi
  have:i=0:=by omega
  subst this
  rfl
 | succ n ih =>
  intro i hi
  by_cases c:i=n+1
  .subst c; unfold oS; rw [h]; rfl
  .exact ih (ZlX h).1 i (by omega)
theorem Zdd {n i:Nat} {S:List Int×Nat} (h:ordR sh pl row os n=some S) (hi:i<n):mayB pl (Zh sh (row.getD i 0 % sh) (oS sh pl row os i).1) (row.getD i 0) (os.getD i none)=true/\(row.getD i 0∈(oS sh pl row os i).1->oS sh pl row os (i+1)=oS sh pl row os i)/\(row.getD i 0∉(oS sh pl row os i).1->oS sh pl row os (i+1)=(lessO (oS sh pl row os i).1 (os.getD i none)++[row.getD i 0],(oS sh pl row os i).2+1)):=by
 have q:=(ZlX (ZmP h (i+1) (by omega))).2
 unfold ordS at q
 split at q
 case isFalse=>cases q
 case isTrue c =>
  refine ⟨c,λhb=>?_,λhb=>?_⟩
  .rw [if_pos hb] at q; exact (Option.some.inj q).symm
  .rw [if_neg hb] at q; exact (Option.some.inj q).symm
theorem Zkc {l:List Int} {o:Option Int} {x:Int} (h:x∈lessO l o):x∈l:=by
 cases o with
 | none=>exact h
 | some g=>exact mem_of_mem_erase h
theorem ZmQ (hp:1<=pl) {S:List Int×Nat} (h:ordR sh pl row os row.length=some S):Pol sh pl row (λi=>(oS sh pl row os i).1) λi=>(oS sh pl row os i).2:=by
 have inv:∀ i,i<=row.length->(oS sh pl row os i).1.Nodup/\∀ s,((Zh sh s (oS sh pl row os i).1).length:Int)<=pl:=by
  intro i
  induction i with
  | zero=>exact λ_=>⟨nodup_nil,λs=>by show ((0:Nat):Int)<=pl; omega⟩
  | succ i ih =>
   intro hi
   obtain ⟨n1,z1⟩:=ih (by omega)
   obtain ⟨hm,hh,hn⟩:=Zdd h (by omega:i<row.length)
   by_cases c:row.getD i 0∈(oS sh pl row os i).1
   .rw [hh c]; exact ⟨n1,z1⟩
   .rw [hn c]
    have cb:row.getD i 0∉Zh sh (row.getD i 0 % sh) (oS sh pl row os i).1:=λm=>c (mem_shelfS.mp m).1
    refine ⟨?_,λs=>?_⟩
    .show (lessO _ _++[_]).Nodup
     rw [nodup_append]
     exact ⟨n1.sublist less_sub,by simp,λx hx y hy e=>c (by rw [List.mem_singleton.mp hy] at e; rw [← e]; exact Zkc hx)⟩
    .show ((Zh sh s (lessO _ _++[_])).length:Int)<=pl
     rw [ZF]
     have zs:=z1 s
     unfold mayB at hm
     cases eo:os.getD i none with
     | none =>
      rw [eo] at hm
      show ((if _ then Zh sh s (oS sh pl row os i).1++[_] else Zh sh s (oS sh pl row os i).1).length:Int)<=pl
      split
      .rename_i e
       rw [length_append,length_singleton]
       split at hm
       case isFalse=>cases hm
       case isTrue q =>
        rcases q with q | q
        .exact absurd q cb
        .rw [e] at q; omega
      .exact zs
     | some g =>
      rw [eo] at hm
      show ((if _ then Zh sh s ((oS sh pl row os i).1.erase g)++[_] else Zh sh s ((oS sh pl row os i).1.erase g)).length:Int)<=pl
      rw [ZL]
      split at hm
      case isTrue=>cases hm
      case isFalse q =>
       have mg:=of_decide_eq_true hm
       split
       .rename_i e
        rw [e] at mg
        rw [length_append,length_singleton,length_erase_of_mem mg]
        have:=length_pos_of_mem mg
        omega
       .have:=length_erase_le (a:=g) (l:=Zh sh s (oS sh pl row os i).1)
        omega
 refine ⟨⟨rfl,rfl⟩,λi hi=>(inv i hi).1,λi hi=>(inv i hi).2,λi hi hb=>?_,λi hi hb=>?_,λi hi=>?_⟩
 .obtain ⟨_,hh,_⟩:=Zdd h hi
  try dsimp only
  rw [hh hb]
  exact ⟨λx hx=>hx,rfl⟩
 .obtain ⟨_,_,hn⟩:=Zdd h hi
  try dsimp only
  rw [hn hb]
  refine ⟨λx hx=>?_,rfl⟩
  rcases List.mem_append.mp hx with hx | hx
  .exact .inr (Zkc hx)
  .exact .inl (List.mem_singleton.mp hx)
 .obtain ⟨_,hh,hn⟩:=Zdd h hi
  try dsimp only
  by_cases c:row.getD i 0∈(oS sh pl row os i).1
  .rw [hh c]; exact c
  .rw [hn c]; exact mem_append_right _ (List.mem_singleton.mpr rfl)
end
theorem ZlY {α:Type} [BEq α] [LawfulBEq α]:∀ {a b:List α},a.Nodup->(∀ x∈a,x∈b)->a.length<=b.length
 | [],_,_,_=>Nat.zero_le _
 | x :: a,b,h,m=>by
  obtain ⟨h1,h2⟩:=List.nodup_cons.mp h
  have q:=ZlY (b:=b.erase x) h2 λy hy=>(List.mem_erase_of_ne (λz:y=x=>h1 (by rw [← z]; exact hy))).mpr (m y (mem_cons_of_mem _ hy))
  rw [length_erase_of_mem (m x mem_cons_self)] at q
  have:=length_pos_of_mem (m x mem_cons_self)
  rw [length_cons]
  omega
theorem Zkd {α β:Type} {f:α->β}:∀ {l:List α},l.Nodup->(∀ x∈l,∀ y∈l,f x=f y->x=y)->(l.map f).Nodup
 | [],_,_=>nodup_nil
 | x :: l,h,i=>by
  obtain ⟨h1,h2⟩:=List.nodup_cons.mp h
  refine List.nodup_cons.mpr ⟨λz=>?_,Zkd h2 λa ha b hb=>i a (mem_cons_of_mem _ ha) b (mem_cons_of_mem _ hb)⟩
  obtain ⟨y,hy,e⟩:=List.mem_map.mp z
  exact h1 (by rw [← i y (mem_cons_of_mem _ hy) x mem_cons_self e]; exact hy)
theorem Zke {α:Type} [BEq α] [LawfulBEq α] {n:Nat} {p:Nat->Bool} {b:List α} (f:Nat->α) (h:∀ i,i<n->p i=true->f i∈b) (inj:∀ i j,i<n->j<n->p i=true->p j=true->f i=f j->i=j):(List.range n).countP p<=b.length:=by
 rw [List.countP_eq_length_filter]
 have nd:((List.range n).filter p).Nodup:=List.nodup_range.sublist filter_sublist
 have at':∀ x∈(List.range n).filter p,x<n/\p x=true:=λx hx=>⟨List.mem_range.mp (List.mem_filter.mp hx).1,(List.mem_filter.mp hx).2⟩
 have:=ZlY (a:=((List.range n).filter p).map f) (b:=b) (Zkd nd λx hx y hy e=>inj x y (at' x hx).1 (at' y hy).1 (at' x hx).2 (at' y hy).2 e) λy hy=>by
  obtain ⟨x,hx,rfl⟩:=List.mem_map.mp hy
  exact h x (at' x hx).1 (at' x hx).2
 rwa [length_map] at this
theorem Zkf {n:Nat} {p q:Nat->Bool} (f:Nat->Nat) (h:∀ i,i<n->p i=true->f i<n/\q (f i)=true) (inj:∀ i j,i<n->j<n->p i=true->p j=true->f i=f j->i=j):(List.range n).countP p<=(List.range n).countP q:=by
 rw [List.countP_eq_length_filter (p:=q)]
 exact Zke f (λi hi hp=>List.mem_filter.mpr ⟨List.mem_range.mpr (h i hi hp).1,(h i hi hp).2⟩) inj
def prv (row:List Int) (b:Int):Nat->Option Nat
 | 0=>none
 | j+1=>if row.getD j 0=b then some j else prv row b j
theorem ZbR {row:List Int} {b:Int}:∀ {j i:Nat},prv row b j=some i->i<j/\row.getD i 0=b/\∀ k,i<k->k<j->row.getD k 0≠b
 | 0,i,h=>nomatch h
 | j+1,i,h=>by
  unfold prv at h
  split at h
  .rename_i c
   cases h
   exact ⟨Nat.lt_succ_self _,c,λk h1 h2=>by omega⟩
  .rename_i c
   obtain ⟨h1,h2,h3⟩:=ZbR h
   refine ⟨by omega,h2,λk k1 k2=>?_⟩
   by_cases e:k=j
   .subst e; exact c
   .exact h3 k k1 (by omega)
theorem ZeZ {row:List Int} {b:Int}:∀ {j:Nat},prv row b j=none->∀ k,k<j->row.getD k 0≠b
 | 0,_,k,h=>by omega
 | j+1,h,k,hk=>by
  unfold prv at h
  split at h
  .cases h
  .rename_i c
   by_cases e:k=j
   .subst e; exact c
   .exact ZeZ h k (by omega)
theorem ZnS {row:List Int} {b:Int} {j i:Nat} (h1:i<j) (h2:row.getD i 0=b) (h3:∀ k,i<k->k<j->row.getD k 0≠b):prv row b j=some i:=by
 cases e:prv row b j with
 | none=>exact absurd h2 (ZeZ e i h1)
 | some k =>
  obtain ⟨k1,k2,k3⟩:=ZbR e
  congr 1
  by_cases c:k<i
  .exact absurd h2 (k3 i c h1)
  .by_cases c2:i<k
   .exact absurd k2 (h3 k c2 k1)
   .omega
theorem ZhH {row:List Int} {b:Int}:∀ (d p:Nat),p+d=row.length->(agn row p b=row.length/\∀ k,p<=k->k<row.length->row.getD k 0≠b)\/∃ j:Nat,p<=j/\j<row.length/\agn row p b=(j:Int)/\row.getD j 0=b/\∀ k,p<=k->k<j->row.getD k 0≠b
 | 0,p,h=>.inl ⟨ZgK (by omega),λk h1 h2=>by omega⟩
 | d+1,p,h=>by
  have hx:row[p]?=some (row.getD p 0):=by rw [getD_eq_getElem?_getD,getElem?_eq_getElem (by omega)]; rfl
  rw [Zdc hx]
  by_cases c:row.getD p 0=b
  .rw [if_pos c]
   exact .inr ⟨p,Nat.le_refl _,by omega,rfl,c,λk h1 h2=>by omega⟩
  .rw [if_neg c]
   rcases ZhH (row:=row) (b:=b) d (p+1) (by omega) with ⟨h1,h2⟩ | ⟨j,h1,h2,h3,h4,h5⟩
   .refine .inl ⟨h1,λk k1 k2=>?_⟩
    by_cases e:k=p
    .subst e; exact c
    .exact h2 k (by omega) k2
   .refine .inr ⟨j,by omega,h2,h3,h4,λk k1 k2=>?_⟩
    by_cases e:k=p
    .subst e; exact c
    .exact h5 k (by omega) k2
def nxP (row:List Int) (i:Nat):Int:=agn row (i+1) (row.getD i 0)
def crs (sh:Int) (row:List Int) (i j m:Nat):Bool:=(decide (i<m) && decide (m<j)) && decide (row.getD m 0 % sh=row.getD i 0 % sh)
def mkd (sh:Int) (row:List Int) (ms:List Nat) (i j:Nat):Bool:=ms.any (crs sh row i j)
def frI (sh:Int) (row:List Int) (ms:List Nat) (i:Nat):Bool:=decide (nxP row i<row.length) && !mkd sh row ms i (nxP row i).toNat
def spn (row:List Int) (f:Nat->Nat->Bool) (j:Nat):Bool:=match prv row (row.getD j 0) j with
 | some i=>f i j
 | none=>false
def frJ (sh:Int) (row:List Int) (ms:List Nat) (j:Nat):Bool:=spn row (λi j=>!mkd sh row ms i j) j
theorem Zkg {row:List Int} {i:Nat} (hi:i<row.length) (h:nxP row i<row.length):∃ j:Nat,nxP row i=(j:Int)/\i<j/\j<row.length/\row.getD j 0=row.getD i 0/\prv row (row.getD j 0) j=some i:=by
 rcases ZhH (row:=row) (b:=row.getD i 0) (row.length - (i+1)) (i+1) (by omega) with ⟨h1,_⟩ | ⟨j,h1,h2,h3,h4,h5⟩
 .unfold nxP at h; omega
 .exact ⟨j,h3,by omega,h2,h4,by rw [h4]; exact ZnS (by omega) rfl λk k1 k2=>h5 k (by omega) k2⟩
theorem Zkh {row:List Int} {i j:Nat} (hj:j<row.length) (h:prv row (row.getD j 0) j=some i):nxP row i=(j:Int):=by
 obtain ⟨h1,h2,h3⟩:=ZbR h
 rcases ZhH (row:=row) (b:=row.getD i 0) (row.length - (i+1)) (i+1) (by omega) with ⟨_,k2⟩ | ⟨k,k1,k2,k3,k4,k5⟩
 .exact absurd h2.symm (k2 j (by omega) hj)
 .unfold nxP
  rw [k3]
  congr 1
  by_cases c:k<j
  .exact absurd (k4.trans h2) (h3 k (by omega) c)
  .by_cases c2:j<k
   .exact absurd h2.symm (k5 j (by omega) c2)
   .omega
theorem ZnT (row:List Int) (f:Nat->Nat->Bool):(List.range row.length).countP (λi=>decide (nxP row i<row.length) && f i (nxP row i).toNat)=(List.range row.length).countP (spn row f):=by
 apply Nat.le_antisymm
 .refine Zkf (λi=>(nxP row i).toNat) (λi hi hp=>?_) (λi j hi hj hp hq e=>?_)
  .obtain ⟨h1,h2⟩:=(Bool.and_eq_true _ _).mp hp
   obtain ⟨j,e,h3,h4,h5,h6⟩:=Zkg hi (of_decide_eq_true h1)
   rw [e] at h2 ⊢
   refine ⟨h4,?_⟩
   unfold spn
   rw [show ((j:Int)).toNat=j from rfl,h6]
   exact h2
  .obtain ⟨h1,_⟩:=(Bool.and_eq_true _ _).mp hp
   obtain ⟨h2,_⟩:=(Bool.and_eq_true _ _).mp hq
   obtain ⟨x,e1,_,_,_,q1⟩:=Zkg hi (of_decide_eq_true h1)
   obtain ⟨y,e2,_,_,_,q2⟩:=Zkg hj (of_decide_eq_true h2)
   rw [e1,e2] at e
   have exy:x=y:=e
   rw [exy,q2] at q1
   exact (Option.some.inj q1).symm
 .refine Zkf (λj=>(prv row (row.getD j 0) j).getD 0) (λj hj hp=>?_) (λi j hi hj hp hq e=>?_)
  .unfold spn at hp
   cases e:prv row (row.getD j 0) j with
   | none=>rw [e] at hp; cases hp
   | some i =>
    rw [e] at hp
    have:=ZbR e
    have n:=Zkh hj e
    refine ⟨by show i<_; omega,?_⟩
    show (decide (nxP row i<row.length) && f i (nxP row i).toNat)=true
    rw [n,decide_eq_true (by omega)]
    exact hp
  .unfold spn at hp hq
   cases e1:prv row (row.getD i 0) i with
   | none=>rw [e1] at hp; cases hp
   | some x =>
    cases e2:prv row (row.getD j 0) j with
    | none=>rw [e2] at hq; cases hq
    | some y =>
     rw [e1,e2] at e
     have exy:x=y:=e
     have n1:=Zkh hi e1
     have n2:=Zkh hj e2
     rw [exy,n2] at n1
     omega
def bndF (sh pl:Int) (row:List Int) (ms:List Nat):Int:=(pl - 1) * ms.length+((List.range row.length).countP (frI sh row ms):Nat)
theorem bnd_J (sh pl:Int) (row:List Int) (ms:List Nat):bndF sh pl row ms=(pl - 1) * ms.length+((List.range row.length).countP (frJ sh row ms):Nat):=by
 unfold bndF frJ
 rw [← ZnT]
 rfl
section
variable {sh pl:Int} {row:List Int} {O:Nat->List Int} {m:Nat->Nat}
def hitB (row:List Int) (O:Nat->List Int) (j:Nat):Bool:=decide (row.getD j 0∈O j)
theorem Pol.cnt (o:Pol sh pl row O m):∀ i,i<=row.length->m i+(List.range i).countP (hitB row O)=i
 | 0,_=>by rw [o.z.2]; rfl
 | i+1,h=>by
  have ih:=o.cnt i (by omega)
  rw [List.range_succ,List.countP_append,List.countP_singleton]
  unfold hitB at ih ⊢
  by_cases c:row.getD i 0∈O i
  .rw [(o.hit i (by omega) c).2,if_pos (by simpa using c)]; omega
  .rw [(o.mis i (by omega) c).2,if_neg (by simpa using c)]; omega
theorem Pol.step (o:Pol sh pl row O m) {i:Nat} (hi:i<row.length) {x:Int} (h:x∈O (i+1)):x=row.getD i 0\/x∈O i:=by
 by_cases c:row.getD i 0∈O i
 .exact .inr ((o.hit i hi c).1 x h)
 .exact (o.mis i hi c).1 x h
theorem Pol.back (o:Pol sh pl row O m):∀ {j:Nat},j<=row.length->∀ {x:Int},x∈O j->∃ i,i<j/\row.getD i 0=x
 | 0,_,x,h=>by rw [o.z.1] at h; cases h
 | j+1,hj,x,h=>by
  rcases o.step (by omega) h with e | h
  .exact ⟨j,by omega,e.symm⟩
  .obtain ⟨i,h1,h2⟩:=o.back (by omega) h
   exact ⟨i,by omega,h2⟩
theorem Pol.stay (o:Pol sh pl row O m) {i:Nat} {x:Int}:∀ (d t:Nat),i<t->t+d<=row.length->x∈O (t+d)->(∀ k,i<k->k<t+d->row.getD k 0≠x)->x∈O t
 | 0,t,_,_,h,_=>h
 | d+1,t,h1,h2,h,h3=>by
  have q:=o.stay d (t+1) (by omega) (by omega) (by rw [show t+1+d=t+(d+1) by omega]; exact h) λk k1 k2=>h3 k k1 (by omega)
  rcases o.step (by omega) q with e | q
  .exact absurd e.symm (h3 t (by omega) (by omega))
  .exact q
theorem Pol.over (o:Pol sh pl row O m) {a:Nat} (ha:a<row.length):(((List.range row.length).countP λj=>hitB row O j && spn row (λi j=>crs sh row i j a) j:Nat):Int)<=pl - 1:=by
 have key:∀ j,j<row.length->(hitB row O j && spn row (λi j=>crs sh row i j a) j)=true->∃ i,i<a/\a<j/\row.getD i 0=row.getD j 0/\(∀ k,i<k->k<j->row.getD k 0≠row.getD j 0)/\row.getD a 0 % sh=row.getD j 0 % sh/\row.getD j 0∈O (a+1):=λj hj hp=>by
  obtain ⟨h1,h2⟩:=(Bool.and_eq_true _ _).mp hp
  have h1:row.getD j 0∈O j:=of_decide_eq_true h1
  unfold spn at h2
  cases e:prv row (row.getD j 0) j with
  | none=>rw [e] at h2; cases h2
  | some i =>
   rw [e] at h2
   obtain ⟨p1,p2,p3⟩:=ZbR e
   obtain ⟨c1,c3⟩:=(Bool.and_eq_true _ _).mp h2
   obtain ⟨c1,c2⟩:=(Bool.and_eq_true _ _).mp c1
   have c1:=of_decide_eq_true c1
   have c2:=of_decide_eq_true c2
   have c3:=of_decide_eq_true c3
   refine ⟨i,c1,c2,p2,p3,by rw [c3,p2],?_⟩
   exact o.stay (i:=i) (j - (a+1)) (a+1) (by omega) (by omega) (by rw [show a+1+(j - (a+1))=j by omega]; exact h1) λk k1 k2=>p3 k k1 (by omega)
 have ma:row.getD a 0∈Zh sh (row.getD a 0 % sh) (O (a+1)):=mem_shelfS.mpr ⟨o.now a ha,rfl⟩
 have le:=Zke (n:=row.length) (p:=λj=>hitB row O j && spn row (λi j=>crs sh row i j a) j) (b:=(Zh sh (row.getD a 0 % sh) (O (a+1))).erase (row.getD a 0)) (λj=>row.getD j 0) (λj hj hp=>?_) (λj k hj hk hp hq e=>?_)
 .have z:=o.sz (a+1) (by omega) (row.getD a 0 % sh)
  rw [length_erase_of_mem ma] at le
  have:=length_pos_of_mem ma
  omega
 .obtain ⟨i,h1,h2,h3,h4,h5,h6⟩:=key j hj hp
  exact (List.mem_erase_of_ne (λz:row.getD j 0=row.getD a 0=>h4 a h1 h2 z.symm)).mpr (mem_shelfS.mpr ⟨h6,h5.symm⟩)
 .obtain ⟨i,h1,h2,_,h4,_⟩:=key j hj hp
  obtain ⟨i',h1',h2',_,h4',_⟩:=key k hk hq
  by_cases c:j<k
  .exact absurd e (h4' j (by omega) c)
  .by_cases c2:k<j
   .exact absurd e.symm (h4 k (by omega) c2)
   .omega
theorem Zki {p q r s:Nat->Bool}:∀ l:List Nat,(∀ x∈l,p x=true->q x=true->r x=true\/s x=true)->l.countP (λx=>p x && q x)<=l.countP (λx=>p x && r x)+l.countP λx=>p x && s x
 | [],_=>Nat.le_refl _
 | x :: l,h=>by
  have ih:=Zki l λy hy=>h y (mem_cons_of_mem _ hy)
  simp only [List.countP_cons]
  have:=h x mem_cons_self
  cases hp:p x <;> cases hq:q x <;> cases hr:r x <;> cases hs:s x <;> simp_all <;> omega
theorem Pol.marked (o:Pol sh pl row O m):∀ ms:List Nat,(∀ x∈ms,x<row.length)->(((List.range row.length).countP λj=>hitB row O j && spn row (λi j=>mkd sh row ms i j) j:Nat):Int)<=(pl - 1) * ms.length
 | [],_=>by
  have:(List.range row.length).countP (λj=>hitB row O j && spn row (λi j=>mkd sh row [] i j) j)=0:=by
   rw [List.countP_eq_zero]
   intro j _ z
   obtain ⟨_,h2⟩:=(Bool.and_eq_true _ _).mp z
   unfold spn at h2
   split at h2 <;> cases h2
  rw [this]
  show (0:Int)<=(pl - 1) * ((0:Nat):Int)
  simp
 | a :: ms,h=>by
  have h1:=o.over (h a mem_cons_self)
  have h2:=o.marked ms λx hx=>h x (mem_cons_of_mem _ hx)
  have h3:=Zki (p:=hitB row O) (q:=spn row (λi j=>mkd sh row (a :: ms) i j)) (r:=spn row (λi j=>crs sh row i j a)) (s:=spn row (λi j=>mkd sh row ms i j)) (List.range row.length) (λx _ _ hx=>by
   unfold spn at hx ⊢
   cases e:prv row (row.getD x 0) x with
   | none=>rw [e] at hx; cases hx
   | some i =>
    rw [e] at hx
    have hx:(crs sh row i x a || mkd sh row ms i x)=true:=hx
    exact (Bool.or_eq_true _ _).mp hx)
  rw [length_cons,Int.natCast_succ,Int.mul_add,Int.mul_one]
  omega
theorem Pol.weak (o:Pol sh pl row O m) (ms:List Nat) (h:∀ x∈ms,x<row.length):(row.length:Int) - m row.length<=bndF sh pl row ms:=by
 have h1:=o.cnt row.length (Nat.le_refl _)
 have h2:=o.marked ms h
 rw [bnd_J]
 have h3:=Zki (p:=hitB row O) (q:=λ_=>true) (r:=spn row (λi j=>mkd sh row ms i j)) (s:=frJ sh row ms) (List.range row.length) (λx hm hx _=>by
  unfold frJ spn
  cases e:prv row (row.getD x 0) x with
  | none =>
   obtain ⟨i,i1,i2⟩:=o.back (Nat.le_of_lt (List.mem_range.mp hm)) (of_decide_eq_true hx)
   exact absurd i2 (ZeZ e i i1)
  | some i=>dsimp only; cases mkd sh row ms i x <;> simp)
 have h4:(List.range row.length).countP (λx=>hitB row O x && frJ sh row ms x)<=(List.range row.length).countP (frJ sh row ms):=List.countP_mono_left λx _ hx=>((Bool.and_eq_true _ _).mp hx).2
 have h5:(List.range row.length).countP (λx=>hitB row O x && true)=(List.range row.length).countP (hitB row O):=by simp only [Bool.and_true]
 omega
end
def mV (ms:List Nat):List V:=ms.map λm:Nat=>V.int (m:Int)
def rets (row:List Int):List Nat:=(List.range row.length).filter λi=>decide (nxP row i<row.length)
theorem Ziq (row:List Int) {i:Nat} (hi:i<row.length):(ZC row)[i]?=some (nxP row i):=by
 unfold ZC
 rw [getElem?_map,getElem?_range hi]
 rfl
section
def ZlZ (G:Hp) (l:Addr) (row:List Int) (ns:List Nat):Prop:=∃ ads:List Addr,G l=some (.lst (ads.map V.ref))/\ads.length=ns.length/\∀ (k:Nat) (ad:Addr) (i:Nat),ads[k]?=some ad->ns[k]?=some i->G ad=some (.tup [.int (i:Int),.int (nxP row i)])
def Zkj (K:W.Frag):Sp:=λvs H Q _=>∃ (a:Addr) (row:List Int),vs=[.ref a]/\SqL K H a (row.map V.int)/\row.length<=400 /\
 ∀ (l:Addr) (H':Hp),H l=none->Same H H'->ZlZ H' l row (rets row)->Q (.ref l) H'
theorem Zfa (F:Fun K "returns_of" "returns_of" Zab f fd) (T:Txt K mg) (qg_:Def P w K mg base "asked_again" 1 ZU (ZdR K)):FnOk P w K mg base CX0 2 f fd ZaQ (Zkj K):=by
 refine F.ok sc_returns_of (λvs H Q E h=>?_) (λcdv A outer st H vs Q E hr h=>?_)
 .obtain ⟨a,row,rfl,_⟩:=h
  rfl
 obtain ⟨a,row,rfl,hS,hl,k⟩:=h
 have nd:=sc_returns_of.nd
 refine ⟨_,(Zj (Zu (ZcP (Zw (osc:=(Zg Zab)) (oN:=ZcJ) (N:=["first", "last", "row"]) (own:=2) (js:=[0]) (by decide +kernel) rfl rfl) rfl (ZeA rfl T.qj_ (pc (Zm qg_ hr.m rfl (pc (pv 0) Zd)) Zd)) (λ_ _ _ _ _ _=>(Zap (K:=K) (n:=2) rfl rfl (Zt (pgn 0 (show List.Nodup (["first", "last", "row"]:List Str) by decide +kernel)) (Zt (pgn 1 (show List.Nodup (["first", "last", "row"]:List Str) by decide +kernel)) Zan)))) (λ_ _ _ _ _ _=>(Zs op_lt (pv 1) (Zk (Zl (K:=K) rfl) rfl T.qf_ PySem.boot_len (pc (pv 2) Zd)) (Zv _))) (λ_ _ _ _ _ _=>(ZbC (pc (pv 0) (pc (pv 1) Zd))))))),?_⟩
 refine ⟨_,rfl,a,row,rfl,hS,hl,λlg H1 hlg s1 e1=>⟨lg,rfl,⟨_,SqL.of e1⟩,λl hl'=>?_⟩⟩
 have la:((ZC row).map V.int).length=row.length:=by rw [length_map,ZbQ]
 refine Zjs (K:=K) (a:=lg) (xs:=(ZC row).map V.int) (l:=l) (λj ys σ' G'=>∃ (v0 v1:Option V),σ'=[v0,v1,some (.ref a)]/\G' l=some (.lst ys)/\ZlZ G' l row ((List.range j).filter λi=>decide (nxP row i<row.length))/\Same H1 G')
  ⟨none,none,rfl,Za,⟨[],Za,rfl,λk ad i h _=>by simp at h⟩,Zc hl' _⟩ (λj ys σ' G' _ ⟨_,_,_,_,_,s⟩=>SqL.of (s _ _ e1)) ?_ ?_
 .rintro j x t ys σ' G' hj hxj hys ⟨v0,v1,rfl,el,⟨ads,r1,r2,r3⟩,sg⟩ ht
  have hj':j<row.length:=by omega
  rw [getElem?_map,Ziq row hj'] at hxj
  cases hxj
  have nlt:l≠t:=Zb el ht
  have hx:((List.range (j+1)).filter λi=>decide (nxP row i<row.length))=((List.range j).filter λi=>decide (nxP row i<row.length))++(if nxP row j<row.length then [j] else []):=by
   rw [List.range_succ,filter_append,filter_cons,filter_nil]
   simp only [decide_eq_true_eq]
  have sx:=Zc (H:=G') ht (.tup [V.int (j:Int),V.int (nxP row j)])
  refine ⟨t,_,rfl,SqT.of Za,rfl,_,_,rfl,_,_,rfl,rfl,?_⟩
  refine ⟨_,rfl,_,rfl,a,_,rfl,.inl ((s1.trans (sg.trans sx)).seq hS),_,_,rfl,rfl,_,rfl,?_⟩
  generalize upd G' t (.tup [V.int (j:Int),V.int (nxP row j)])=G1 at *
  have el1:=sx _ _ el
  rw [length_map]
  refine ZO (λc=>?_) (λc=>?_)
  .rw [if_pos c] at hx
   refine ⟨_,rfl,_,rfl,(sl 2),λq hq=>?_⟩
   have sq:=Zc (H:=G1) hq (.tup [V.int (j:Int),V.int (nxP row j)])
   have eq:=Za (H:=G1) (a:=q) (o:=.tup [V.int (j:Int),V.int (nxP row j)])
   have nlq:l≠q:=Zb el1 hq
   dsimp only
   have sG:=sx.trans sq
   generalize upd G1 q (.tup [V.int (j:Int),V.int (nxP row j)])=G2 at *
   have ey:ys=ads.map V.ref:=by rw [el] at r1; cases r1; rfl
   subst ey
   refine CNx.of (by rw [la]; exact Nat.le_of_lt (Zn (by omega))) hj hys (sG _ _ el) ⟨_,_,rfl,Za,⟨ads++[q],by rw [Za,map_append]; rfl,by rw [hx,length_append,length_append,r2]; rfl,λk ad i h1 h2=>?_⟩,λx o e=>by rw [Ze (Zb e hl')]; exact sG _ _ (sg _ _ e)⟩
   rw [hx] at h2
   by_cases ck:k<ads.length
   .rw [getElem?_append_left ck] at h1
    rw [getElem?_append_left (by rw [← r2]; exact ck)] at h2
    have q3:=r3 k ad i h1 h2
    rw [Ze (λz=>by rw [z,el] at q3; cases q3)]
    exact sG _ _ q3
   .rw [getElem?_append_right (by omega)] at h1
    rw [getElem?_append_right (by rw [← r2]; omega),← r2] at h2
    cases ek:k - ads.length with
    | zero =>
     rw [ek] at h1 h2
     cases h1; cases h2
     rw [Ze (Ne.symm nlq)]
     exact eq
    | succ n=>rw [ek] at h1; simp at h1
  .rw [if_neg c,append_nil] at hx
   refine CNo.of hj hys ⟨_,_,rfl,el1,⟨ads,sx _ _ r1,by rw [hx]; exact r2,λk ad i h1 h2=>sx _ _ (r3 k ad i h1 (by rw [hx] at h2; exact h2))⟩,sg.trans sx⟩
 .rintro ys σ' G' _ ⟨v0,v1,rfl,el,rr,sg⟩
  rw [la] at rr
  exact k l G' (s1.free hl') (s1.trans sg) rr
def spMk (K:W.Frag):Sp:=λvs H Q _=>∃ (sh:Int) (a lm:Addr) (row:List Int) (ms:List Nat) (i j:Nat),vs=[.int sh,.ref a,.ref lm,.int (i:Int),.int (j:Int)]/\SqL K H a (row.map V.int)/\SqL K H lm (mV ms)/\1<=sh/\i<row.length/\(∀ x∈ms,x<row.length)/\ms.length<=900 /\
 ∀ H',Same H H'->Q (.bl (mkd sh row ms i j)) H'
theorem Zgd (F:Fun K "is_marked" "is_marked" Zar f fd) (T:Txt K mg) (qd_:Def P w K mg base "shelf_of" 1 Zah ZbX):FnOk P w K mg base CX0 2 f fd Zbi (spMk K):=by
 refine F.ok sc_is_marked (λvs H Q E h=>?_) (λcdv A outer st H vs Q E hr h=>?_)
 .obtain ⟨sh,a,lm,row,ms,i,j,rfl,_⟩:=h
  rfl
 obtain ⟨sh,a,lm,row,ms,i,j,rfl,hS,hM,hs0,hi,hm,hl,k⟩:=h
 have nd:=sc_is_marked.nd
 refine ⟨_,(Zf (pst 5 nd (Zm qd_ hr.m rfl (pc (pv 0) (pc (pe_ix (Zo (K:=K) rfl) (pv 1) (pv 3) (λ_ _=>rfl)) Zd))))
   (Zj (Zu (Zk (Zjk rfl) rfl T.vw_ ZkG (pc (ZaV (Zw (osc:=(Zg Zar)) (oN:=ZdE) (N:=["mark", "first", "last", "shelf", "shelves", "row"]) (own:=1) (js:=[3,4,5,0,1]) (by decide +kernel) rfl rfl) rfl (Zaf (K:=K) rfl (pv 2)) (λ_ _ _ _ _ _=>(pgn 0 (show List.Nodup (["mark", "first", "last", "shelf", "shelves", "row"]:List Str) by decide +kernel))) (λ_ _ _ _ _ _=>(Zdf (Zkw op_lt op_lt (pv 1) (pv 0) (pv 2)) (ZdZ (Zbb op_eq (Zm qd_ hr.m rfl (pc (pv 4) (pc (pe_ix (Zo (K:=K) rfl) (pv 5) (pv 0) (λ_ _=>rfl)) Zd))) (pv 3) (Zv _)))))) Zd))))),?_⟩
 have at':∀ x,x<row.length->atI (row.map V.int) (x:Int)=some (.int (row.getD x 0)):=λx hx=>Zao (by rw [getElem?_map,getD_eq_getElem?_getD,getElem?_eq_getElem hx]; rfl)
 refine ⟨_,rfl,_,rfl,_,rfl,a,_,_,_,rfl,rfl,hS,at' i hi,sh,_,rfl,hs0,gN ?_⟩
 refine ⟨_,rfl,lm,rfl,⟨_,hM⟩,λl hl'=>?_⟩
 have lV:(mV ms).length=ms.length:=length_map ..
 refine Zak (K:=K) (a:=lm) (xs:=mV ms) (l:=l) (λn ys σ' G'=>∃ (v0:Option V),σ'=[v0,some (.int (i:Int)),some (.int (j:Int)),some (.int (row.getD i 0 % sh)),some (.int sh),some (.ref a)]/\ys=((ms.take n).map (crs sh row i j)).map V.bl/\G' l=some (.lst ys)/\Same H G')
  ⟨none,rfl,rfl,Za,Zc hl' _⟩ (λn ys σ' G' _ ⟨_,_,_,_,s⟩=>s.seq hM) ?_ ?_
 .rintro n x ys σ' G' hn hxn hys ⟨v0,rfl,rfl,el,sg⟩
  have hn':n<ms.length:=by omega
  have em:ms[n]?=some ms[n]:=getElem?_eq_getElem hn'
  have ex:x=.int (ms[n]:Int):=by
   unfold mV at hxn
   rw [getElem?_map,em] at hxn
   exact (Option.some.inj hxn).symm
  subst ex
  have mr:=hm _ (mem_of_getElem? em)
  have tk:ms.take (n+1)=ms.take n++[ms[n]]:=by rw [take_succ,em]; rfl
  generalize ms[n]=z at *
  have fin:∀ {b:Bool},b=crs sh row i j z->CNx (mV ms).length l (λn ys σ' G'=>∃ (v0:Option V),σ'=[v0,some (.int (i:Int)),some (.int (j:Int)),some (.int (row.getD i 0 % sh)),some (.int sh),some (.ref a)]/\ys=((ms.take n).map (crs sh row i j)).map V.bl/\G' l=some (.lst ys)/\Same H G') n (((ms.take n).map (crs sh row i j)).map V.bl) [some (.int (z:Int)),some (.int (i:Int)),some (.int (j:Int)),some (.int (row.getD i 0 % sh)),some (.int sh),some (.ref a)] (.bl b) G':=λ{b} e =>
   CNx.of (by rw [lV]; exact Nat.le_of_lt (Zn (by omega))) hn hys el ⟨_,rfl,by rw [tk,e,map_append,map_append]; rfl,Za,λx o e=>by rw [Ze (Zb e hl')]; exact sg _ _ e⟩
  refine ⟨_,rfl,_,rfl,_,_,rfl,rfl,_,rfl,?_⟩
  by_cases c1:i<z
  .refine ifT (decide_eq_true (by omega)) ⟨_,rfl,_,_,rfl,rfl,_,rfl,?_⟩
   by_cases c2:z<j
   .refine ifT (decide_eq_true (by omega)) ⟨_,rfl,_,rfl,_,rfl,a,_,_,_,rfl,rfl,sg.seq hS,at' z mr,sh,_,rfl,hs0,_,rfl,rfl,fin ?_⟩
    unfold crs
    rw [decide_eq_true c1,decide_eq_true c2]
    simp
   .refine ifF (decide_eq_false (by omega)) (fin ?_)
    unfold crs
    rw [decide_eq_false c2,Bool.and_false,Bool.false_and]
  .refine ifF (decide_eq_false (by omega)) ⟨_,rfl,ifF rfl (fin ?_)⟩
   unfold crs
   rw [decide_eq_false c1,Bool.false_and,Bool.false_and]
 .rintro ys σ' G' _ ⟨v0,rfl,rfl,el,sg⟩
  rw [lV,take_length] at el
  refine ⟨l,_,rfl,SqL.of el,?_⟩
  rw [any_map]
  exact k G' sg
def spBnd (K:W.Frag):Sp:=λvs H Q _=>∃ (sh pl:Int) (a lm:Addr) (row:List Int) (ms:List Nat),vs=[.int sh,.int pl,.ref a,.ref lm]/\SqL K H a (row.map V.int)/\SqL K H lm (mV ms)/\1<=sh/\row.length<=400/\(∀ x∈ms,x<row.length)/\ms.length<=900 /\
 ∀ H',Same H H'->Q (.int (bndF sh pl row ms)) H'
theorem ZnU {row:List Int} {i:Nat}:0<=nxP row i:=by
 unfold nxP
 by_cases c:i+1<=row.length
 .rcases ZhH (row:=row) (b:=row.getD i 0) (row.length - (i+1)) (i+1) (by omega) with ⟨h1,_⟩ | ⟨j,_,_,h3,_⟩ <;> omega
 .rw [ZgK (by omega)]; omega
theorem Zlt (F:Fun K "bound" "bound" ZbW f fd) (T:Txt K mg) (qy_:Def P w K mg base "returns_of" 2 ZaQ (Zkj K)) (q5_:Def P w K mg base "is_marked" 2 Zbi (spMk K)):FnOk P w K mg base CX0 3 f fd ZdF (spBnd K):=by
 refine F.ok sc_bound (λvs H Q E h=>?_) (λcdv A outer st H vs Q E hr h=>?_)
 .obtain ⟨sh,pl,a,lm,row,ms,rfl,_⟩:=h
  rfl
 obtain ⟨sh,pl,a,lm,row,ms,rfl,hS,hM,hs0,hl,hm,hml,k⟩:=h
 have nd:=sc_bound.nd
 refine ⟨_,(Zf (Zez 4 (Zw (osc:=(Zg ZbW)) (oN:=ZjC) (N:=["first", "last", "shelves", "row", "marks"]) (own:=2) (js:=[0,2,3]) (by decide +kernel) rfl rfl) rfl nd rfl rfl (Zaf (K:=K) rfl (Zm qy_ hr.m rfl (pc (pv 2) Zd))) (λ_ _ _ _ _ _=>(Zap (K:=K) (n:=2) rfl rfl (Zt (pgn 0 (show List.Nodup (["first", "last", "shelves", "row", "marks"]:List Str) by decide +kernel)) (Zt (pgn 1 (show List.Nodup (["first", "last", "shelves", "row", "marks"]:List Str) by decide +kernel)) Zan)))) (λ_ _ _ _ _ _=>(ZcG (Zbn (Zm q5_ hr.m rfl (pc (pv 2) (pc (pv 3) (pc (pv 4) (pc (pv 0) (pc (pv 1) Zd))))))))) (λ_ _ _ _ _ _=>(pv 0)))
   (Zj (Zu (pe_op Zaa (pe_op Zbp (pe_op Zbo (pv 1) Zi) (Zk (Zl (K:=K) rfl) rfl T.qf_ PySem.boot_len (pc (pv 3) Zd))) (Zk (Zl (K:=K) rfl) rfl T.qf_ PySem.boot_len (pc (pv 4) Zd)))))),?_⟩
 refine ⟨_,rfl,a,row,rfl,hS,hl,λlr H1 hlr s1 rr=>?_⟩
 obtain ⟨ads,r1,r2,r3⟩:=rr
 refine ⟨lr,rfl,⟨_,SqL.of r1⟩,λl hl'=>?_⟩
 have lV:(ads.map V.ref).length=(rets row).length:=by rw [length_map,r2]
 have lr4:(rets row).length<=row.length:=by
  have:=length_filter_le (λi=>decide (nxP row i<row.length)) (List.range row.length)
  rw [length_range] at this
  exact this
 refine Zak (K:=K) (a:=lr) (xs:=ads.map V.ref) (l:=l) (λn ys σ' G'=>∃ (v0 v1:Option V),σ'=[v0,v1,some (.int sh),some (.ref a),some (.ref lm)]/\ys.length=((rets row).take n).countP (λi=>!mkd sh row ms i (nxP row i).toNat)/\G' l=some (.lst ys)/\Same H1 G')
  ⟨none,none,rfl,rfl,Za,Zc hl' _⟩ (λn ys σ' G' _ ⟨_,_,_,_,_,s⟩=>SqL.of (s _ _ r1)) ?_ ?_
 .rintro n x ys σ' G' hn hxn hys ⟨v0,v1,rfl,hy,el,sg⟩
  have hn':n<ads.length:=by rw [length_map] at hn; exact hn
  rw [getElem?_map,getElem?_eq_getElem hn'] at hxn
  cases hxn
  have ei:(rets row)[n]?=some (rets row)[n]:=getElem?_eq_getElem (by omega)
  have q3:=r3 n _ _ (getElem?_eq_getElem hn') ei
  have tk:(rets row).take (n+1)=(rets row).take n++[(rets row)[n]]:=by rw [take_succ,ei]; rfl
  obtain ⟨i1,i2⟩:=List.mem_filter.mp (mem_of_getElem? ei)
  have i1:=List.mem_range.mp i1
  generalize (rets row)[n]=i at *
  have ge:=ZnU (row:=row) (i:=i)
  refine ⟨_,_,rfl,SqT.of (sg _ _ q3),rfl,_,_,rfl,_,_,rfl,rfl,?_⟩
  refine ⟨_,rfl,_,rfl,_,rfl,_,rfl,_,rfl,sh,a,lm,row,ms,i,(nxP row i).toNat,by rw [Int.toNat_of_nonneg ge]; rfl,(s1.trans sg).seq hS,(s1.trans sg).seq hM,hs0,i1,hm,hml,λG2 s2=>?_⟩
  refine ⟨_,rfl,?_⟩
  have el2:=s2 _ _ el
  cases cb:mkd sh row ms i (nxP row i).toNat with
  | false =>
   refine ifT rfl ⟨_,rfl,CNx.of (by rw [lV]; exact Nat.le_of_lt (Zn (by omega))) hn hys el2 ⟨_,_,rfl,?_,Za,λx o e=>by rw [Ze (Zb e hl')]; exact s2 _ _ (sg _ _ e)⟩⟩
   rw [tk,List.countP_append,List.countP_singleton,length_append,hy,if_pos (by rw [cb]; rfl)]
   rfl
  | true =>
   refine ifF rfl (CNo.of hn hys ⟨_,_,rfl,?_,el2,sg.trans s2⟩)
   rw [tk,List.countP_append,List.countP_singleton,hy,if_neg (by rw [cb]; exact Bool.false_ne_true)]
   rfl
 .rintro ys σ' G' _ ⟨v0,v1,rfl,hy,el,sg⟩
  rw [lV,take_length] at hy
  have sG:=s1.trans sg
  have e:(rets row).countP (λi=>!mkd sh row ms i (nxP row i).toNat)=(List.range row.length).countP (frI sh row ms):=by
   unfold rets
   rw [List.countP_filter]
   refine List.countP_congr λi _=>?_
   unfold frI
   rw [Bool.and_comm]
  rw [e] at hy
  have lM:(mV ms).length=ms.length:=length_map ..
  refine gN ⟨_,rfl,_,_,rfl,rfl,_,rfl,lm,_,rfl,.inl (sG.seq hM),_,_,rfl,rfl,.inr (by rw [lM]; omega),_,rfl,l,_,rfl,.inl (SqL.of el),_,_,rfl,rfl,?_⟩
  rw [lM,hy]
  exact k G' sG
end
def ksF (sh:Int) (row:List Int):List Int:=row.foldl (λks b=>if b % sh∈ks then ks else ks++[b % sh]) []
theorem ZhI (sh:Int) (row:List Int) (b:Int):ksF sh (row++[b])=if b % sh∈ksF sh row then ksF sh row else ksF sh row++[b % sh]:=by
 unfold ksF
 rw [List.foldl_append]
 rfl
theorem ZhJ (sh:Int) (row:List Int):∀ n,n<=row.length->(ksF sh (row.take n)).Nodup/\(∀ s,s∈ksF sh (row.take n)↔∃ i,i<n/\row.getD i 0 % sh=s)/\(ksF sh (row.take n)).length<=n
 | 0,_=>⟨nodup_nil,λs=>⟨λh=>(nomatch h),λ⟨i,h,_⟩=>by omega⟩,Nat.le_refl _⟩
 | n+1,hn=>by
  obtain ⟨h1,h2,h3⟩:=ZhJ sh row n (by omega)
  have et:row.take (n+1)=row.take n++[row.getD n 0]:=by rw [take_succ,getD_eq_getElem?_getD,getElem?_eq_getElem (by omega:n<row.length)]; rfl
  rw [et,ZhI]
  have ex:∀ s,(∃ i,i<n+1/\row.getD i 0 % sh=s)↔(∃ i,i<n/\row.getD i 0 % sh=s)\/row.getD n 0 % sh=s:=λs=>by
   constructor
   .rintro ⟨i,h,e⟩
    by_cases c:i=n
    .subst c; exact .inr e
    .exact .inl ⟨i,by omega,e⟩
   .rintro (⟨i,h,e⟩ | e)
    .exact ⟨i,by omega,e⟩
    .exact ⟨n,by omega,e⟩
  by_cases c:row.getD n 0 % sh∈ksF sh (row.take n)
  .rw [if_pos c]
   refine ⟨h1,λs=>?_,by omega⟩
   rw [ex,h2]
   exact ⟨.inl,λz=>z.elim id λe=>(h2 s).mp (e ▸ c)⟩
  .rw [if_neg c]
   refine ⟨Zbd h1 c,λs=>?_,by rw [length_append]; show _+1<=_; omega⟩
   rw [ex,mem_append,mem_singleton,h2]
   exact ⟨λz=>z.imp id Eq.symm,λz=>z.imp id Eq.symm⟩
def spU (sh:Int) (row:List Int) (n:Nat) (s:Int):List Nat:=(List.range n).filter λi=>decide (row.getD i 0 % sh=s)
theorem Zfb (sh:Int) (row:List Int) (n:Nat) (s:Int):spU sh row (n+1) s=spU sh row n s++(if row.getD n 0 % sh=s then [n] else []):=by
 unfold spU
 rw [List.range_succ,filter_append,filter_cons,filter_nil]
 simp only [decide_eq_true_eq]
theorem ZcM (a b:List Nat):mV (a++b)=mV a++mV b:=map_append ..
theorem Zkk (sh:Int) (row:List Int) (n:Nat) (s:Int):(mV (spU sh row n s)).length<=n:=by
 unfold mV spU
 rw [length_map]
 have:=length_filter_le (λi=>decide (row.getD i 0 % sh=s)) (List.range n)
 rwa [length_range] at this
def pbV (p:Int×Addr):Key×V:=(Sum.inl p.1,V.ref p.2)
structure PbAt (G:Hp) (d:Addr) (sh:Int) (row:List Int) (n:Nat) (L:List (Int×Addr)):Prop where
 top:G d=some (.dK (L.map pbV))
 ks:L.map (·.1)=ksF sh (row.take n)
 nd:(L.map (·.2)).Nodup
 at':∀ p∈L,G p.2=some (.lst (mV (spU sh row n p.1)))
theorem Zkl:∀ (L:List (Int×Addr)) (s:Int),(∃ ad,(s,ad)∈L/\valV (L.map pbV) (Sum.inl s)=some (.ref ad))\/(s∉L.map (·.1)/\valV (L.map pbV) (Sum.inl s)=none)
 | [],s=>.inr ⟨λh=>(nomatch h),rfl⟩
 | (x,ad) :: L,s=>by
  by_cases c:x=s
  .subst c
   exact .inl ⟨ad,mem_cons_self,ZY (p:=pbV (x,ad)) rfl⟩
  .have e:valV ((pbV (x,ad)) :: L.map pbV) (Sum.inl s)=valV (L.map pbV) (Sum.inl s):=ZT λz=>c (Sum.inl.inj z)
   rw [map_cons,e]
   rcases Zkl L s with ⟨a,h1,h2⟩ | ⟨h1,h2⟩
   .exact .inl ⟨a,mem_cons_of_mem _ h1,h2⟩
   .exact .inr ⟨λz=>(List.mem_cons.mp z).elim (λz=>c z.symm) h1,h2⟩
theorem ZgN {α β:Type}:∀ {L:List (α×β)},(L.map (·.1)).Nodup->∀ {p q:α×β},p∈L->q∈L->p.1=q.1->p=q
 | [],_,_,_,h,_,_=>nomatch h
 | x :: L,nd,p,q,hp,hq,e=>by
  obtain ⟨n1,n2⟩:=List.nodup_cons.mp nd
  rcases List.mem_cons.mp hp with h1 | h1 <;> rcases List.mem_cons.mp hq with h2 | h2
  .rw [h1,h2]
  .exact absurd (List.mem_map.mpr ⟨q,h2,by rw [← e,h1]⟩) n1
  .exact absurd (List.mem_map.mpr ⟨p,h1,by rw [e,h2]⟩) n1
  .exact ZgN n2 h1 h2 e
theorem ZmR {α β:Type} {L:List (α×β)} (nd:(L.map (·.2)).Nodup) {p q:α×β} (hp:p∈L) (hq:q∈L) (e:p.2=q.2):p=q:=by
 have h:=ZgN (L:=L.map λx=>(x.2,x.1)) (by rw [map_map]; exact nd) (p:=(p.2,p.1)) (q:=(q.2,q.1)) (List.mem_map.mpr ⟨p,hp,rfl⟩) (List.mem_map.mpr ⟨q,hq,rfl⟩) e
 obtain ⟨a,b⟩:=p
 obtain ⟨c,d⟩:=q
 cases h; rfl
section
def spPb (K:W.Frag):Sp:=λvs H Q _=>∃ (sh:Int) (a:Addr) (row:List Int),vs=[.int sh,.ref a]/\SqL K H a (row.map V.int)/\1<=sh/\row.length<=400 /\
 ∀ (d:Addr) (H':Hp) (L:List (Int×Addr)),H d=none->Same H H'->PbAt H' d sh row row.length L->(∀ p∈L,H p.2=none)->Q (.ref d) H'
theorem Zcq (F:Fun K "places_by_shelf" "places_by_shelf" ZD f fd) (T:Txt K mg) (qd_:Def P w K mg base "shelf_of" 1 Zah ZbX):FnOk P w K mg base CX0 2 f fd ZP (spPb K):=by
 refine F.ok sc_places_by_shelf (λvs H Q E h=>?_) (λcdv A outer st H vs Q E hr h=>?_)
 .obtain ⟨sh,a,row,rfl,_⟩:=h
  rfl
 obtain ⟨sh,a,row,rfl,hS,hs0,hl,k⟩:=h
 have nd:=sc_places_by_shelf.nd
 refine ⟨_,(Zf (pst 2 nd ZcT)
   (Zf (Zba PassesOwn.never rfl (ZeA rfl T.qj_ (pc (pv 1) Zd)) (Zap (K:=K) (n:=2) rfl rfl (Zt (pgn 3 nd) (Zt (pgn 4 nd) Zan))) (Zj (ZA (ZaJ (K:=K) rfl (pe_bm PySem.F.plainAttrs_list PySem.F.slot_list_append PySem.F.type_list_append ZB (Zlg (pv 2) (Zm qd_ hr.m rfl (pc (pv 0) (pc (pv 4) Zd))) (Zz Zd) ⟨rfl,rfl,rfl,rfl⟩) (pc (pv 3) Zd))))))
   (Zj (Zu (pv 2))))),?_⟩
 refine λd hd=>⟨_,rfl,a,rfl,⟨_,(Zc hd _).seq hS⟩,ZeD (K:=K) (a:=a) (xs:=row.map V.int) (λi σ G=>∃ (v3 v4:Option V) (L:List (Int×Addr)),σ=[some (.int sh),some (.ref a),some (.ref d),v3,v4]/\PbAt G d sh row i L/\(∀ p∈L,H p.2=none)/\Same H G)
  ⟨none,none,[],rfl,⟨Za,rfl,nodup_nil,λp h=>(nomatch h)⟩,λp h=>(nomatch h),Zc hd _⟩ (λi σ G _ ⟨_,_,_,_,_,_,s⟩=>s.seq hS) ?_ ?_⟩
 .rintro i x t σ G hx ⟨v3,v4,L,rfl,B,nw,sg⟩ ht
  obtain ⟨z,hz,rfl⟩:=Zbr hx
  have hi:i<row.length:=(List.getElem?_eq_some_iff.mp hz).1
  have eg:row.getD i 0=z:=by rw [getD_eq_getElem?_getD,hz]; rfl
  have et:row.take (i+1)=row.take i++[z]:=by rw [take_succ,hz]; rfl
  obtain ⟨k1,k2,k3⟩:=ZhJ sh row i (by omega)
  have lL:L.length<=i:=by have:=congrArg List.length B.ks; rw [length_map] at this; omega
  refine ⟨t,_,rfl,SqT.of Za,rfl,_,_,rfl,gN ⟨_,_,rfl,gN ⟨rfl,?_⟩⟩⟩
  have s1:=Zc (H:=G) ht (.tup [V.int (i:Int),V.int z])
  generalize upd G t (.tup [V.int (i:Int),V.int z])=G1 at *
  have top1:=s1 _ _ B.top
  refine ⟨_,rfl,d,rfl,.inl ⟨_,.inl top1⟩,_,rfl,_,rfl,sh,z,rfl,hs0,(sl 0),λq hq=>?_⟩
  have s2:=Zc (H:=G1) hq (.lst [])
  have e2:upd G1 q (.lst []) q=some (.lst []):=Za
  have qH:H q=none:=(sg.trans s1).free hq
  have nqd:q≠d:=λz=>by rw [z,top1] at hq; cases hq
  have sG:=s1.trans s2
  have nqL:∀ p∈L,p.2≠q:=λp hp z=>by
   have h:=s1 _ _ (B.at' p hp)
   rw [z,hq] at h; cases h
  generalize upd G1 q (.lst [])=G2 at *
  have topG:=s2 _ _ top1
  have ndL:∀ p∈L,p.2≠d:=λp hp z=>by
   have h:=sG _ _ (B.at' p hp)
   rw [z,topG] at h; cases h
  clear top1 hq s1 s2
  have snc:ksF sh (row.take (i+1))=if z % sh∈ksF sh (row.take i) then ksF sh (row.take i) else ksF sh (row.take i)++[z % sh]:=by rw [et]; exact ZhI ..
  refine ⟨_,Sum.inl (z % sh),topG,rfl,Zn (by rw [length_map]; omega),λv hv=>?_,λhn=>?_⟩
  .rcases Zkl L (z % sh) with ⟨ad,h1,h2⟩ | ⟨h1,h2⟩
   .rw [hv] at h2
    cases h2
    have ea:=sG _ _ (B.at' _ h1)
    refine ⟨.inl ⟨rfl,_,SqL.of ea⟩,_,rfl,ad,_,_,rfl,rfl,ea,Zn (Nat.le_trans (Zkk sh row i (z % sh)) (by omega)),⟨_,_,L,rfl,⟨by rw [Ze (Ne.symm (ndL _ h1))]; exact topG,?_,B.nd,λp hp=>?_⟩,nw,λx o e=>by rw [Ze (Zb e (nw _ h1))]; exact sG _ _ (sg _ _ e)⟩⟩
    .rw [B.ks,snc,if_pos]
     rw [← B.ks]
     exact List.mem_map.mpr ⟨_,h1,rfl⟩
    .rw [Zfb,eg]
     by_cases c:p.2=ad
     .have ep:p=(z % sh,ad):=ZmR B.nd hp h1 c
      subst ep
      rw [Za,if_pos rfl,ZcM]
      rfl
     .rw [Ze c,if_neg,append_nil]
      .exact sG _ _ (B.at' p hp)
      .intro w
       have ep:p=(z % sh,ad):=ZgN (by rw [B.ks]; exact k1) hp h1 w.symm
       exact c (by rw [ep])
   .rw [hv] at h2; cases h2
  .rcases Zkl L (z % sh) with ⟨ad,h1,h2⟩ | ⟨h1,h2⟩
   .rw [hn] at h2; cases h2
   .rw [ZkL _ h2]
    have eq:upd G2 d (.dK (L.map pbV++[(Sum.inl (z % sh),V.ref q)])) q=some (.lst []):=by rw [Ze nqd]; exact e2
    refine ⟨.inl ⟨rfl,_,SqL.of eq⟩,_,rfl,q,_,_,rfl,rfl,eq,Zn (by show 0<=1000; omega),⟨_,_,L++[(z % sh,q)],rfl,⟨by rw [Ze (Ne.symm nqd),Za,map_append]; rfl,?_,?_,λp hp=>?_⟩,λp hp=>?_,λx o e=>by rw [Ze (Zb e qH),Ze (Zb e hd)]; exact sG _ _ (sg _ _ e)⟩⟩
    .rw [map_append,B.ks,snc,if_neg]
     .rfl
     .rw [← B.ks]; exact h1
    .rw [map_append]
     refine Zbd B.nd λw=>?_
     obtain ⟨p,hp,e⟩:=List.mem_map.mp w
     exact nqL p hp e
    .rw [Zfb,eg]
     rcases List.mem_append.mp hp with hp | hp
     .rw [Ze (nqL p hp),Ze (ndL p hp),if_neg,append_nil]
      .exact sG _ _ (B.at' p hp)
      .exact λw=>h1 (List.mem_map.mpr ⟨p,hp,w.symm⟩)
     .have ep:p=(z % sh,q):=by simpa using hp
      subst ep
      have e0:spU sh row i (z % sh)=[]:=by
       unfold spU
       rw [List.filter_eq_nil_iff]
       intro x hx w
       refine h1 ?_
       rw [B.ks,k2]
       exact ⟨x,List.mem_range.mp hx,of_decide_eq_true w⟩
      rw [Za,e0,if_pos rfl]
      rfl
    .rcases List.mem_append.mp hp with hp | hp
     .exact nw p hp
     .have ep:p=(z % sh,q):=by simpa using hp
      subst ep
      exact qH
 .rintro σ G ⟨v3,v4,L,rfl,B,nw,sg⟩
  rw [length_map] at B
  exact ⟨_,rfl,k d G L hd sg B nw⟩
end
def wiF (again:List Int) (n k:Nat):Nat:=(List.range k).countP λd=>decide (again.getD (n - 1 - d) 0<=(n:Int))
theorem Zlu (again:List Int) (n k:Nat):wiF again n (k+1)=wiF again n k+(if again.getD (n - 1 - k) 0<=(n:Int) then 1 else 0):=by
 unfold wiF
 rw [List.range_succ,List.countP_append,List.countP_singleton]
 simp only [decide_eq_true_eq]
def chD (again costs:List Int) (n d:Nat):Int×Int:=(costs.getD (n - 1 - d) 0+(wiF again n (d+1):Int),((n - 1 - d:Nat):Int))
def chA (again costs:List Int) (n:Nat):List (Int×Int):=(List.range n).map (chD again costs n)++[((wiF again n n:Int),-1)]
def prL (p:Int×Int):List Int:=[p.1,p.2]
def bstF (l:List (Int×Int)):Nat:=argBest (λi j=>HT.lexLt ((l.map prL).getD i []) ((l.map prL).getD j [])) (l.length - 1)
def chF (again costs:List Int) (n:Nat):Int×Int:=(chA again costs n).getD (bstF (chA again costs n)) (0,-1)
theorem Zkm (again costs:List Int) (n:Nat):(chA again costs n).length=n+1:=by unfold chA; simp
theorem ZnV {l:List (Int×Int)} (h:0<l.length):bstF l<l.length:=by
 have:=ZjZ (λi j=>HT.lexLt ((l.map prL).getD i []) ((l.map prL).getD j [])) (l.length - 1)
 unfold bstF
 omega
theorem Zkn (again costs:List Int) (n:Nat):(chA again costs n)[bstF (chA again costs n)]?=some (chF again costs n):=by
 have h:=ZnV (l:=chA again costs n) (by rw [Zkm]; omega)
 unfold chF
 rw [getD_eq_getElem?_getD,getElem?_eq_getElem h]
 rfl
theorem Zge (again costs:List Int) (n:Nat) : -1<=(chF again costs n).2/\(chF again costs n).2<n:=by
 have m:=mem_of_getElem? (Zkn again costs n)
 generalize chF again costs n=c at *
 unfold chA at m
 rcases List.mem_append.mp m with m | m
 .obtain ⟨d,hd,rfl⟩:=List.mem_map.mp m
  have:=List.mem_range.mp hd
  unfold chD
  dsimp only
  omega
 .rw [List.mem_singleton.mp m]
  dsimp only
  omega
def dpF (again:List Int) (fee:Int):Nat->List Int×List Int
 | 0=>([],[])
 | n+1=>((dpF again fee n).1++[(chF again (dpF again fee n).1 n).1+fee],(dpF again fee n).2++[(chF again (dpF again fee n).1 n).2])
theorem ZnW (again:List Int) (fee:Int) (n:Nat):(dpF again fee (n+1)).1=(dpF again fee n).1++[(chF again (dpF again fee n).1 n).1+fee]:=rfl
theorem ZnX (again:List Int) (fee:Int) (n:Nat):(dpF again fee (n+1)).2=(dpF again fee n).2++[(chF again (dpF again fee n).1 n).2]:=rfl
theorem ZhK (again:List Int) (fee:Int):∀ n,(dpF again fee n).1.length=n/\(dpF again fee n).2.length=n
 | 0=>⟨rfl,rfl⟩
 | n+1=>by
  obtain ⟨h1,h2⟩:=ZhK again fee n
  unfold dpF
  rw [length_append,length_append,h1,h2]
  exact ⟨rfl,rfl⟩
theorem Zfc (again:List Int) (fee:Int):∀ n i,i<n -> -1<=(dpF again fee n).2.getD i (-1)/\(dpF again fee n).2.getD i (-1)<i
 | 0,i,h=>by omega
 | n+1,i,h=>by
  have l:=(ZhK again fee n).2
  unfold dpF
  dsimp only
  rw [getD_eq_getElem?_getD]
  by_cases c:i<n
  .rw [getElem?_append_left (by omega),← getD_eq_getElem?_getD]
   exact Zfc again fee n i c
  .have e:i=n:=by omega
   subst e
   rw [getElem?_append_right (by omega),l,Nat.sub_self]
   exact Zge ..
def bkF (as:List Int):Nat->Int->List Nat
 | 0,_=>[]
 | f+1,m=>if 0<=m then m.toNat :: bkF as f (as.getD m.toNat (-1)) else []
theorem ZmS (as:List Int) (f:Nat) (m:Int):bkF as (f+1) m=if 0<=m then m.toNat :: bkF as f (as.getD m.toNat (-1)) else []:=rfl
def mk0 (as:List Int):Int:=as.getLast?.getD (-1)
def lmF (fee:Int) (row:List Int):List Nat:=(bkF (dpF (ZC row) fee row.length).2 row.length (mk0 (dpF (ZC row) fee row.length).2)).reverse
theorem Zma (again:List Int) (fee:Int) (n:Nat) : -1<=mk0 (dpF again fee n).2/\mk0 (dpF again fee n).2<n:=by
 unfold mk0
 cases n with
 | zero=>exact ⟨Int.le_refl _,(by show (-1:Int)<0; decide)⟩
 | succ n =>
  unfold dpF
  rw [List.getLast?_append]
  have:=Zge again (dpF again fee n).1 n
  show -1<=(chF again (dpF again fee n).1 n).2/\(chF again (dpF again fee n).1 n).2<((n+1:Nat):Int)
  omega
theorem bk_lt {as:List Int} {n:Nat} (h:∀ i,i<n->as.getD i (-1)<(i:Int)):∀ (f:Nat) (m:Int),m<n->∀ x∈bkF as f m,(x:Int)<=m
 | 0,_,_,x,hx=>nomatch hx
 | f+1,m,hm,x,hx=>by
  unfold bkF at hx
  by_cases c:0<=m
  .rw [if_pos c] at hx
   rcases List.mem_cons.mp hx with e | hx
   .omega
   .have q:=h m.toNat (by omega)
    have:=bk_lt h f _ (by omega) x hx
    omega
  .rw [if_neg c] at hx; cases hx
theorem lm_lt (fee:Int) (row:List Int):∀ x∈lmF fee row,x<row.length:=λx hx=>by
 unfold lmF at hx
 have q:=Zma (ZC row) fee row.length
 have:=bk_lt (λi hi=>(Zfc (ZC row) fee row.length i hi).2) _ _ q.2 x (List.mem_reverse.mp hx)
 omega
theorem Zko (as:List Int):∀ (f:Nat) (m:Int),(bkF as f m).length<=f
 | 0,_=>Nat.le_refl _
 | f+1,m=>by
  unfold bkF
  split
  .rw [length_cons]; have:=Zko as f (as.getD m.toNat (-1)); omega
  .exact Nat.zero_le _
theorem Zmb (fee:Int) (row:List Int):(lmF fee row).length<=row.length:=by
 unfold lmF
 rw [List.length_reverse]
 exact Zko ..
section
def spCh (K:W.Frag):Sp:=λvs H Q _=>∃ (ag co:Addr) (again costs:List Int) (n:Nat),vs=[.ref ag,.ref co,.int (n:Int)]/\H ag=some (.lst (again.map V.int))/\H co=some (.lst (costs.map V.int))/\n<=again.length/\n<=costs.length/\n<=400 /\
 ∀ (p:Addr) (H':Hp),Same H H'->H' p=some (.tup [.int (chF again costs n).1,.int (chF again costs n).2])->Q (.ref p) H'
def ChAt (G:Hp) (l:Addr) (ps:List (Int×Int)):Prop:=∃ ads:List Addr,G l=some (.lst (ads.map V.ref))/\ads.length=ps.length/\∀ (k:Nat) (ad:Addr) (p:Int×Int),ads[k]?=some ad->ps[k]?=some p->G ad=some (.tup [.int p.1,.int p.2])
theorem ChAt.push {G:Hp} {l q:Addr} {ps:List (Int×Int)} {p:Int×Int} (h:ChAt G l ps) (hq:G q=some (.tup [.int p.1,.int p.2])) {ads:List Addr} (e:G l=some (.lst (ads.map V.ref))):ChAt (upd G l (.lst (ads.map V.ref++[.ref q]))) l (ps++[p]):=by
 obtain ⟨as,r1,r2,r3⟩:=h
 have ea:ads.map V.ref=as.map V.ref:=by rw [r1] at e; exact (HO.lst.inj (Option.some.inj e)).symm
 refine ⟨as++[q],by rw [Za,ea,map_append]; rfl,by rw [length_append,length_append,r2]; rfl,λk ad p' h1 h2=>?_⟩
 by_cases ck:k<as.length
 .rw [getElem?_append_left ck] at h1
  rw [getElem?_append_left (by omega)] at h2
  have q3:=r3 k ad p' h1 h2
  rw [Ze (λz=>by rw [z,r1] at q3; cases q3)]
  exact q3
 .rw [getElem?_append_right (by omega)] at h1
  rw [getElem?_append_right (by omega),← r2] at h2
  cases ek:k - as.length with
  | zero =>
   rw [ek] at h1 h2
   cases h1; cases h2
   rw [Ze (λz=>by rw [z,r1] at hq; cases hq)]
   exact hq
  | succ n=>rw [ek] at h1; simp at h1
theorem ChAt.same {G G':Hp} {l:Addr} {ps:List (Int×Int)} (h:ChAt G l ps) (s:Same G G'):ChAt G' l ps:=by
 obtain ⟨as,r1,r2,r3⟩:=h
 exact ⟨as,s _ _ r1,r2,λk ad p h1 h2=>s _ _ (r3 k ad p h1 h2)⟩
theorem ZcE (F:Fun K "cheapest_ahead" "cheapest_ahead" ZI f fd) (T:Txt K mg):FnOk P w K mg base CX0 1 f fd ZX (spCh K):=by
 refine F.ok sc_cheapest_ahead (λvs H Q E h=>?_) (λcdv A outer st H vs Q E hr h=>?_)
 .obtain ⟨ag,co,again,costs,n,rfl,_⟩:=h
  rfl
 obtain ⟨ag,co,again,costs,n,rfl,hA,hC,l1,l2,hn,k⟩:=h
 have nd:=sc_cheapest_ahead.nd
 have hu:=hu_of hr
 refine ⟨_,(Zf (pst 3 nd Zi)
   (Zf (pst 4 nd (Zz Zd))
   (Zf (Zba PassesOwn.never rfl (ZfH rfl T.qh_ (pc (pe_op Zbo (pv 2) Zi) (pc (pe_un ZbD Zi) (pc (pe_un ZbD Zi) Zd)))) (pgn 5 nd) (Zf (ps_if (Zs op_le (pe_ix (Zo (K:=K) rfl) (pv 0) (pv 5) (λ_ _=>rfl)) (pv 2) (Zv _)) (Zj (ZiA (i:=3) nd rfl (by first | exact Or.inl rfl | exact Or.inr rfl) Zi Zlz)) Zy)
   (Zj (ZA (ZaJ (K:=K) rfl (pe_bm PySem.F.plainAttrs_list PySem.F.slot_list_append PySem.F.type_list_append ZB (pv 4) (pc (ZbC (pc (pe_op Zaa (pe_ix (Zo (K:=K) rfl) (pv 1) (pv 5) (λ_ _=>rfl)) (pv 3)) (pc (pv 5) Zd))) Zd)))))))
   (Zf (ZA (ZaJ (K:=K) rfl (pe_bm PySem.F.plainAttrs_list PySem.F.slot_list_append PySem.F.type_list_append ZB (pv 4) (pc (ZbC (pc (pv 3) (pc (pe_un ZbD Zi) Zd))) Zd))))
   (Zj (Zu (Zk (ZiZ rfl hu rfl) rfl T.vo_ ZeC (pc (pv 4) Zd)))))))),?_⟩
 refine gN ⟨(sl 0),λlc hlc=>gN ?_⟩
 have s0:=Zc (H:=H) hlc (.lst [])
 have atA:∀ i,i<again.length->atI (again.map V.int) (i:Int)=some (.int (again.getD i 0)):=λi hi=>Zao (by rw [getElem?_map,getD_eq_getElem?_getD,getElem?_eq_getElem hi]; rfl)
 have atC:∀ i,i<costs.length->atI (costs.map V.int) (i:Int)=some (.int (costs.getD i 0)):=λi hi=>Zao (by rw [getElem?_map,getD_eq_getElem?_getD,getElem?_eq_getElem hi]; rfl)
 refine ⟨_,rfl,_,_,rfl,rfl,_,rfl,_,rfl,_,_,rfl,⟨by omega,by omega,by omega,by omega⟩,Zhn (hi:=(n:Int) - 1) (n:=((n:Int) - 1 - -1).toNat) (λj σ G=>∃ (v5:Option V),σ=[some (.ref ag),some (.ref co),some (.int (n:Int)),some (.int (wiF again n j:Int)),some (.ref lc),v5]/\ChAt G lc ((List.range j).map (chD again costs n))/\Same H G)
  ⟨none,rfl,⟨[],Za,rfl,λk ad p h _=>by simp at h⟩,s0⟩ ?_ ?_⟩
 .rintro j σ G hj ⟨v5,rfl,C,sg⟩
  have hj':j<n:=by omega
  have hz:(n:Int) - 1 - (j:Int)=((n - 1 - j:Nat):Int):=by omega
  rw [hz]
  refine gN ?_
  refine cpI (λσ G'=>σ=[some (.ref ag),some (.ref co),some (.int (n:Int)),some (.int (wiF again n (j+1):Int)),some (.ref lc),some (.int ((n - 1 - j:Nat):Int))]/\G'=G) (λD' _ k'=>?_) ?_
  .refine ⟨_,rfl,_,rfl,ag,_,_,_,rfl,rfl,SqL.of (sg _ _ hA),atA _ (by omega),_,rfl,_,_,rfl,rfl,_,rfl,?_⟩
   have ws:=Zlu again n j
   refine ZO (λc=>?_) (λc=>?_)
   .rw [if_pos c] at ws
    refine ⟨_,rfl,_,_,rfl,rfl,k' _ _ ⟨?_,rfl⟩⟩
    rw [ws]; rfl
   .rw [if_neg c] at ws
    exact k' _ _ ⟨by rw [ws]; rfl,rfl⟩
  rintro _ G' ⟨rfl,rfl⟩
  obtain ⟨as,r1,r2,r3⟩:=id C
  refine ⟨_,rfl,.inl ⟨rfl,_,SqL.of r1⟩,_,rfl,_,rfl,co,_,_,_,rfl,rfl,SqL.of (sg _ _ hC),atC _ (by omega),_,rfl,_,_,rfl,rfl,_,rfl,(sl 2),λq hq=>?_⟩
  have sq:=Zc (H:=G') hq (.tup [V.int (costs.getD (n - 1 - j) 0+(wiF again n (j+1):Int)),V.int ((n - 1 - j:Nat):Int)])
  have eq:=Za (H:=G') (a:=q) (o:=.tup [V.int (costs.getD (n - 1 - j) 0+(wiF again n (j+1):Int)),V.int ((n - 1 - j:Nat):Int)])
  generalize upd G' q (.tup [V.int (costs.getD (n - 1 - j) 0+(wiF again n (j+1):Int)),V.int ((n - 1 - j:Nat):Int)])=G2 at *
  have la:(as.map V.ref).length<=1000:=by rw [length_map,r2,length_map,length_range]; omega
  refine ⟨lc,_,_,rfl,rfl,sq _ _ r1,Zn la,⟨_,rfl,?_,λx o e=>by rw [Ze (Zb e hlc)]; exact sq _ _ (sg _ _ e)⟩⟩
  rw [List.range_succ,map_append]
  exact (C.same sq).push (p:=chD again costs n j) eq (sq _ _ r1)
 .rintro σ G ⟨v5,rfl,C,sg⟩
  rw [show ((n:Int) - 1 - -1).toNat=n by omega] at C ⊢
  obtain ⟨as,r1,r2,r3⟩:=id C
  have la:(as.map V.ref).length<=1000:=by rw [length_map,r2,length_map,length_range]; omega
  refine ⟨_,rfl,.inl ⟨rfl,_,SqL.of r1⟩,_,rfl,_,rfl,(sl 2),λq hq=>?_⟩
  have sq:=Zc (H:=G) hq (.tup [V.int (wiF again n n:Int),V.int (-1)])
  have eq:=Za (H:=G) (a:=q) (o:=.tup [V.int (wiF again n n:Int),V.int (-1)])
  generalize upd G q (.tup [V.int (wiF again n n:Int),V.int (-1)])=G2 at *
  have P:=(C.same sq).push (p:=((wiF again n n:Int),-1)) eq (sq _ _ r1)
  have sH:Same H (upd G2 lc (.lst (as.map V.ref++[.ref q]))):=λx o e=>by rw [Ze (Zb e hlc)]; exact sq _ _ (sg _ _ e)
  have eP:(List.range n).map (chD again costs n)++[((wiF again n n:Int),-1)]=chA again costs n:=rfl
  rw [eP] at P
  refine ⟨lc,_,_,rfl,rfl,sq _ _ r1,Zn la,?_⟩
  generalize upd G2 lc (.lst (as.map V.ref++[.ref q]))=G3 at *
  obtain ⟨bs,p1,p2,p3⟩:=P
  refine ⟨_,rfl,lc,bs,(chA again costs n).map prL,rfl,SqL.of p1,λz=>?_,by rw [p2,length_map],λi a ns h1 h2=>?_,λm a hm ha=>?_⟩
  .rw [z,Zkm] at p2; cases p2
  .rw [getElem?_map] at h2
   cases e:(chA again costs n)[i]? with
   | none=>rw [e] at h2; cases h2
   | some p =>
    rw [e] at h2
    cases h2
    exact SqT.of (p3 i a p h1 e)
  .have em:m=bstF (chA again costs n):=by rw [hm,p2]; rfl
   exact k a G3 sH (p3 m a _ ha (by rw [em]; exact Zkn ..))
def spLm (K:W.Frag):Sp:=λvs H Q _=>∃ (fee:Int) (a:Addr) (row:List Int),vs=[.int fee,.ref a]/\SqL K H a (row.map V.int)/\row.length<=400 /\
 ∀ (l:Addr) (H':Hp),H l=none->Same H H'->H' l=some (.lst (mV (lmF fee row)))->Q (.ref l) H'
theorem ZdW (F:Fun K "least_marks" "least_marks" Zaj f fd) (T:Txt K mg) (qg_:Def P w K mg base "asked_again" 1 ZU (ZdR K)) (qp_:Def P w K mg base "cheapest_ahead" 1 ZX (spCh K)):FnOk P w K mg base CX0 2 f fd ZaG (spLm K):=by
 refine F.ok sc_least_marks (λvs H Q E h=>?_) (λcdv A outer st H vs Q E hr h=>?_)
 .obtain ⟨fee,a,row,rfl,_⟩:=h
  rfl
 obtain ⟨fee,a,row,rfl,hS,hl,k⟩:=h
 have nd:=sc_least_marks.nd
 have hu:=hu_of hr
 refine ⟨_,(Zf (pst 2 nd (Zm qg_ hr.m rfl (pc (pv 1) Zd)))
   (Zf (pst 3 nd (Zz Zd))
   (Zf (pst 4 nd (Zz Zd))
   (Zf (Zba PassesOwn.never rfl (ZW rfl T.qh_ (pc (Zk (Zl (K:=K) rfl) rfl T.qf_ PySem.boot_len (pc (pv 1) Zd)) Zd)) (pgn 5 nd) (Zf (Zca (Zm qp_ hr.m rfl (pc (pv 2) (pc (pv 3) (pc (pv 5) Zd)))) (Zap (K:=K) (n:=2) rfl rfl (Zt (pgn 6 nd) (Zt (pgn 7 nd) Zan))))
   (Zf (ZA (ZaJ (K:=K) rfl (pe_bm PySem.F.plainAttrs_list PySem.F.slot_list_append PySem.F.type_list_append ZB (pv 3) (pc (pe_op Zaa (pv 6) (pv 0)) Zd))))
   (Zj (ZA (ZaJ (K:=K) rfl (pe_bm PySem.F.plainAttrs_list PySem.F.slot_list_append PySem.F.type_list_append ZB (pv 4) (pc (pv 7) Zd))))))))
   (Zf (pst 8 nd (Zz Zd))
   (Zf (pst 9 nd (ZaC (Zky (pv 4) (λ_=>rfl)) (pe_ix (Zo (K:=K) rfl) (pv 4) (pe_un ZbD Zi) (λ_ _=>rfl)) (pe_un ZbD Zi)))
   (Zf (Zku PassesOwn.never (Zs op_ge (pv 9) Zi (Zv _)) (Zf (ZA (ZaJ (K:=K) rfl (pe_bm PySem.F.plainAttrs_list PySem.F.slot_list_append PySem.F.type_list_append ZB (pv 8) (pc (pv 9) Zd))))
   (Zj (pst 9 nd (pe_ix (Zo (K:=K) rfl) (pv 4) (pv 9) (λ_ _=>rfl))))))
   (Zj (Zu (ZfG (K:=K) rfl (pv 8) Zdk Zdk (Zdl (pe_un ZbD Zi)))))))))))),?_⟩
 refine ⟨_,rfl,a,row,rfl,hS,hl,λlg H1 hlg s1 e1=>gN ⟨(sl 0),λlc hlc=>gN ⟨(sl 0),λla hla=>gN ?_⟩⟩⟩
 have s2:=(Zc (H:=H1) hlc (.lst [])).trans (Zc hla (.lst []))
 have ec:upd (upd H1 lc (.lst [])) la (.lst []) lc=some (.lst []):=Zc hla _ _ _ Za
 have ea:upd (upd H1 lc (.lst [])) la (.lst []) la=some (.lst []):=Za
 have hla1:H1 la=none:=(Zc (H:=H1) hlc (.lst [])).free hla
 have nca:lc≠la:=Zb (Za (H:=H1) (a:=lc) (o:=.lst [])) hla
 generalize upd (upd H1 lc (.lst [])) la (.lst [])=H2 at *
 have lA:=ZbQ row
 have lR:(row.map V.int).length=row.length:=length_map ..
 refine ⟨_,rfl,a,_,rfl,.inl ((s1.trans s2).seq hS),_,rfl,by omega,by omega,Zcb (lo:=0) (n:=(((row.map V.int).length:Nat):Int).toNat) (λi σ G=>∃ (v5 v6 v7:Option V),σ=[some (.int fee),some (.ref a),some (.ref lg),some (.ref lc),some (.ref la),v5,v6,v7,none,none]/\G lc=some (.lst ((dpF (ZC row) fee i).1.map V.int))/\G la=some (.lst ((dpF (ZC row) fee i).2.map V.int))/\Same H1 G)
  ⟨none,none,none,rfl,ec,ea,s2⟩ ?_ ?_⟩
 .rintro i σ G hi ⟨v5,v6,v7,rfl,g1,g2,sg⟩
  have hi':i<row.length:=by rw [lR] at hi; omega
  obtain ⟨d1,d2⟩:=ZhK (ZC row) fee i
  rw [Int.zero_add]
  refine gN ⟨_,rfl,_,rfl,_,rfl,lg,lc,ZC row,(dpF (ZC row) fee i).1,i,rfl,sg _ _ e1,g1,by omega,by omega,by omega,λp G1 t1 ep=>⟨p,_,rfl,SqT.of ep,rfl,_,_,rfl,gN ⟨_,_,rfl,gN ⟨rfl,?_⟩⟩⟩⟩
  have g1':=t1 _ _ g1
  have g2':=t1 _ _ g2
  refine ⟨_,rfl,.inl ⟨rfl,_,SqL.of g1'⟩,_,rfl,_,rfl,_,_,rfl,rfl,lc,_,_,rfl,rfl,g1',Zn (by rw [length_map,d1]; omega),?_⟩
  have g2'':upd G1 lc (.lst ((dpF (ZC row) fee i).1.map V.int++[V.int ((chF (ZC row) (dpF (ZC row) fee i).1 i).1+fee)])) la=some (.lst ((dpF (ZC row) fee i).2.map V.int)):=by rw [Ze (Ne.symm nca)]; exact g2'
  refine ⟨_,rfl,.inl ⟨rfl,_,SqL.of g2''⟩,_,rfl,la,_,_,rfl,rfl,g2'',Zn (by rw [length_map,d2]; omega),⟨_,_,_,rfl,?_,?_,λx o e=>?_⟩⟩
  .rw [Ze nca,Za,ZnW,map_append]; rfl
  .rw [Za,ZnX,map_append]; rfl
  .rw [Ze (Zb e hla1),Ze (Zb e hlc)]
   exact t1 _ _ (sg _ _ e)
 .rintro σ G ⟨v5,v6,v7,rfl,g1,g2,sg⟩
  rw [show (((row.map V.int).length:Nat):Int).toNat=row.length by rw [lR]; rfl] at g1 g2
  have dl:=(ZhK (ZC row) fee row.length).2
  have da:=Zfc (ZC row) fee row.length
  have dm:=Zma (ZC row) fee row.length
  have hlm:(bkF (dpF (ZC row) fee row.length).2 row.length (mk0 (dpF (ZC row) fee row.length).2)).reverse=lmF fee row:=rfl
  generalize (dpF (ZC row) fee row.length).2=as at *
  refine ⟨(sl 0),λlm hlm'=>gN ?_⟩
  have s3:=Zc (H:=G) hlm' (.lst [])
  have e3:upd G lm (.lst []) lm=some (.lst []):=Za
  have hlmH1:H1 lm=none:=sg.free hlm'
  generalize upd G lm (.lst [])=G1 at *
  have g2':=s3 _ _ g2
  have s13:=sg.trans s3
  have nla:lm≠la:=λz=>by rw [z,g2] at hlm'; cases hlm'
  clear g1 g2 s3 hlm' sg
  dsimp only
  refine cpA (λv G=>v=.int (mk0 as)/\G=G1) (λQ' k'=>?_) ?_
  .refine ⟨_,rfl,_,.inl ⟨_,SqL.of g2',rfl⟩,?_⟩
   by_cases c:as=[]
   .subst c
    exact ifF rfl ⟨_,rfl,k' _ _ ⟨rfl,rfl⟩⟩
   .have ea:as=as.dropLast++[as.getLast c]:=(List.dropLast_concat_getLast c).symm
    have em:mk0 as=as.getLast c:=by unfold mk0; rw [List.getLast?_eq_some_getLast c]; rfl
    refine ifT (by cases as with | nil=>exact absurd rfl c | cons _ _=>rfl) ⟨_,rfl,_,rfl,la,_,_,_,rfl,rfl,SqL.of g2',?_,k' _ _ ⟨by rw [em],rfl⟩⟩
    conv=>lhs; rw [ea,map_append]
    exact ZgZ _ _
  rintro _ G2 ⟨rfl,rfl⟩
  have tl:=Zko as row.length (mk0 as)
  generalize hTT:bkF as row.length (mk0 as)=TT at *
  refine gN ⟨λm σ G=>∃ (mark:Int) (dn:List Nat) (fu:Nat),m=(mark+1).toNat/\σ=[some (.int fee),some (.ref a),some (.ref lg),some (.ref lc),some (.ref la),v5,v6,v7,some (.ref lm),some (.int mark)] /\ -1<=mark/\mark<fu/\mark<row.length/\dn++bkF as fu mark=TT/\G lm=some (.lst (mV dn))/\G la=some (.lst (as.map V.int))/\Same H1 G,⟨_,mk0 as,[],row.length,rfl,rfl,dm.1,dm.2,dm.2,hTT,e3,g2',s13⟩,?_⟩
  rintro m σ G ⟨mark,dn,fu,rfl,rfl,m1,m2,m3,hT,el,ela,sG⟩
  have ld:dn.length<=row.length:=by
   have:=congrArg List.length hT
   rw [length_append] at this
   omega
  refine ⟨_,rfl,_,_,rfl,rfl,_,rfl,?_⟩
  by_cases c:0<=mark
  .refine ifT (decide_eq_true c) ⟨λσ G=>∃ (mark':Int) (dn:List Nat) (fu:Nat),mark'<mark/\σ=[some (.int fee),some (.ref a),some (.ref lg),some (.ref lc),some (.ref la),v5,v6,v7,some (.ref lm),some (.int mark')] /\ -1<=mark'/\mark'<fu/\mark'<row.length/\dn++bkF as fu mark'=TT/\G lm=some (.lst (mV dn))/\G la=some (.lst (as.map V.int))/\Same H1 G,λσ' G' ⟨mark',dn,fu,q1,q2,q3,q4⟩=>⟨(mark'+1).toNat,by omega,mark',dn,fu,rfl,q2,q3,q4⟩,?_⟩
   obtain ⟨f',rfl⟩:∃ f',fu=f'+1:=⟨fu - 1,by omega⟩
   have hat:atI (as.map V.int) mark=some (.int (as.getD mark.toNat (-1))):=by
    have q:atI (as.map V.int) ((mark.toNat:Nat):Int)=some (.int (as.getD mark.toNat (-1))):=Zao (by rw [getElem?_map,getD_eq_getElem?_getD,getElem?_eq_getElem (by omega)]; rfl)
    rwa [Int.toNat_of_nonneg c] at q
   have dd:=da mark.toNat (by omega)
   refine ⟨_,rfl,.inl ⟨rfl,_,SqL.of el⟩,_,rfl,lm,_,_,rfl,rfl,el,Zn (by unfold mV; rw [length_map]; omega),?_⟩
   have ela':upd G lm (.lst (mV dn++[V.int mark])) la=some (.lst (as.map V.int)):=by rw [Ze (Ne.symm nla)]; exact ela
   refine ⟨_,rfl,_,rfl,la,_,_,_,rfl,rfl,SqL.of ela',hat,gN ⟨_,dn++[mark.toNat],f',by omega,rfl,dd.1,by omega,by omega,?_,?_,ela',λx o e=>by rw [Ze (Zb e hlmH1)]; exact sG _ _ e⟩⟩
   .rw [← hT,append_assoc]
    congr 1
    rw [ZmS,if_pos c]; rfl
   .rw [Za,ZcM]
    show _=some (HO.lst (mV dn++[V.int ((mark.toNat:Nat):Int)]))
    rw [Int.toNat_of_nonneg c]
  .refine ifF (decide_eq_false c) ?_
   have e0:bkF as fu mark=[]:=by
    cases fu with
    | zero=>rfl
    | succ f=>unfold bkF; rw [if_neg c]
   rw [e0,append_nil] at hT
   subst hT
   refine ⟨_,rfl,1,rfl,_,rfl,lm,_,rfl,SqL.of el,by decide,?_,λp hp=>?_⟩
   .rw [Zcf,List.length_reverse]; unfold mV; rw [length_map]; exact Nat.le_of_lt (Zn (by omega))
   .rw [Zcf]
    have e5:(mV dn).reverse=mV (lmF fee row):=by rw [← hlm]; unfold mV; rw [List.map_reverse]
    rw [e5]
    exact k p _ (s1.free (sG.free hp)) ((s1.trans sG).trans (Zc hp _)) Za
end
def askF (sh:Int) (row:List Int) (s:Int):List Int:=(spU sh row row.length s).map λi=>row.getD i 0
def mkS (sh pl:Int) (row:List Int) (s:Int):List Nat:=(lmF (pl - 1) (askF sh row s)).map λx=>(spU sh row row.length s).getD x 0
def catF (sh pl:Int) (row:List Int):List Nat:=(ksF sh row).flatMap (mkS sh pl row)
theorem ZmT {sh pl:Int} {row:List Int} {s:Int} {x:Nat} (h:x∈mkS sh pl row s):x<row.length/\row.getD x 0 % sh=s:=by
 obtain ⟨y,hy,rfl⟩:=List.mem_map.mp h
 have l:=lm_lt _ _ y hy
 unfold askF at l
 rw [length_map] at l
 have m:(spU sh row row.length s).getD y 0∈spU sh row row.length s:=by rw [getD_eq_getElem?_getD,getElem?_eq_getElem l]; exact getElem_mem l
 obtain ⟨h1,h2⟩:=List.mem_filter.mp m
 exact ⟨List.mem_range.mp h1,of_decide_eq_true h2⟩
theorem Zkp (sh:Int) (row:List Int):∀ (ks:List Int),ks.Nodup->∀ n,(ks.map λs=>(spU sh row n s).length).sum<=n
 | ks,nd,0=>by
  have:(ks.map λs=>(spU sh row 0 s).length).sum=0:=by
   induction ks with
   | nil=>rfl
   | cons s ks ih=>rw [map_cons,List.sum_cons,ih (List.nodup_cons.mp nd).2]; rfl
  omega
 | ks,nd,n+1=>by
  have ih:=Zkp sh row ks nd n
  have key:∀ ks:List Int,ks.Nodup->(ks.map λs=>(spU sh row (n+1) s).length).sum<=(ks.map λs=>(spU sh row n s).length).sum+(if row.getD n 0 % sh∈ks then 1 else 0):=by
   intro ks
   induction ks with
   | nil=>intro _; exact Nat.zero_le _
   | cons s ks ih =>
    intro nd
    obtain ⟨n1,n2⟩:=List.nodup_cons.mp nd
    have:=ih n2
    rw [map_cons,map_cons,List.sum_cons,List.sum_cons,Zfb,length_append]
    by_cases c:row.getD n 0 % sh=s
    .rw [if_pos c,if_pos (by rw [c]; exact mem_cons_self)]
     rw [if_neg (by rw [c]; exact n1)] at this
     show _+1+_<=_
     omega
    .rw [if_neg c]
     by_cases c2:row.getD n 0 % sh∈ks
     .rw [if_pos c2] at this; rw [if_pos (mem_cons_of_mem _ c2)]
      show _+0+_<=_
      omega
     .rw [if_neg c2] at this
      show _+0+_<=_
      omega
  have:=key ks nd
  split at this <;> omega
theorem ZgO {sh pl:Int} {row:List Int} (ks:List Int) (nd:ks.Nodup):(ks.flatMap (mkS sh pl row)).length<=row.length:=by
 refine Nat.le_trans ?_ (Zkp sh row ks nd row.length)
 clear nd
 induction ks with
 | nil=>exact Nat.le_refl _
 | cons s ks ih =>
  rw [List.flatMap_cons,length_append,map_cons,List.sum_cons]
  have:(mkS sh pl row s).length<=(spU sh row row.length s).length:=by
   unfold mkS
   rw [length_map]
   refine Nat.le_trans (Zmb ..) ?_
   unfold askF
   rw [length_map]
   exact Nat.le_refl _
  omega
theorem Zlv:∀ {os:List Int} {ns:List Nat},os.Perm (ns.map λm:Nat=>(m:Int))->os=(os.map Int.toNat).map λm:Nat=>(m:Int):=λ{os ns} h=>by
 rw [map_map]
 conv=>lhs; rw [← map_id os]
 refine map_congr_left λx hx=>?_
 obtain ⟨m,_,e⟩:=List.mem_map.mp (h.mem_iff.mp hx)
 show x=((x.toNat:Nat):Int)
 omega
section
def spMks (K:W.Frag):Sp:=λvs H Q _=>∃ (sh pl:Int) (a:Addr) (row:List Int),vs=[.int sh,.int pl,.ref a]/\SqL K H a (row.map V.int)/\1<=sh/\row.length<=400 /\
 ∀ (l:Addr) (H':Hp) (os:List Nat),H l=none->Same H H'->H' l=some (.lst (mV os))->os.Perm (catF sh pl row)->os.Pairwise (·<=·)->Q (.ref l) H'
theorem ZgP (F:Fun K "marks_of" "marks_of" Zay f fd) (T:Txt K mg) (qn_:Def P w K mg base "places_by_shelf" 2 ZP (spPb K)) (qs_:Def P w K mg base "least_marks" 2 ZaG (spLm K)):FnOk P w K mg base CX0 3 f fd Zbu (spMks K):=by
 refine F.ok sc_marks_of (λvs H Q E h=>?_) (λcdv A outer st H vs Q E hr h=>?_)
 .obtain ⟨sh,pl,a,row,rfl,_⟩:=h
  rfl
 obtain ⟨sh,pl,a,row,rfl,hS,hs0,hl,k⟩:=h
 have nd:=sc_marks_of.nd
 refine ⟨_,(Zf (pst 3 nd (Zz Zd))
   (Zf (Zba PassesOwn.never rfl (Zlf (Zm qn_ hr.m rfl (pc (pv 0) (pc (pv 2) Zd)))) (pgn 4 nd) (Zf (ZcQ 5 (Zw (osc:=(Zg Zay)) (oN:=Zcx) (N:=["spot", "row"]) (own:=1) (js:=[2]) (by decide +kernel) rfl rfl) rfl nd rfl rfl (Zaf (K:=K) rfl (pv 4)) (λ_ _ _ _ _ _=>(pgn 0 (show List.Nodup (["spot", "row"]:List Str) by decide +kernel))) (λ_ _ _ _ _ _=>(pe_ix (Zo (K:=K) rfl) (pv 1) (pv 0) (λ_ _=>rfl))))
   (Zj (ZiA (i:=3) nd rfl (by first | exact Or.inl rfl | exact Or.inr rfl) (ZaV (Zw (osc:=(Zg Zay)) (oN:=Zcx) (N:=["at", "spots"]) (own:=1) (js:=[4]) (by decide +kernel) rfl rfl) rfl (Zaf (K:=K) rfl (Zm qs_ hr.m rfl (pc (pe_op Zbo (pv 1) Zi) (pc (pv 5) Zd)))) (λ_ _ _ _ _ _=>(pgn 0 (show List.Nodup (["at", "spots"]:List Str) by decide +kernel))) (λ_ _ _ _ _ _=>(pe_ix (Zo (K:=K) rfl) (pv 1) (pv 0) (λ_ _=>rfl)))) ZnH))))
   (Zj (Zu (Zk (ZfM (K:=K) rfl) rfl T.va_ PyProof.Rows.boot_sorted (pc (pv 3) Zd)))))),?_⟩
 refine ⟨(sl 0),λlm hlm=>gN ?_⟩
 have s0:=Zc (H:=H) hlm (.lst [])
 have e0:upd H lm (.lst []) lm=some (.lst []):=Za
 generalize upd H lm (.lst [])=H0 at *
 refine ⟨_,rfl,_,rfl,sh,a,row,rfl,s0.seq hS,hs0,hl,λd H1 L hd s1 B nw=>⟨d,_,rfl,B.top,λo=>?_⟩⟩
 obtain ⟨k1,k2,k3⟩:=ZhJ sh row row.length (Nat.le_refl _)
 rw [take_length] at k1 k2 k3
 have bk:=B.ks
 rw [take_length] at bk
 have fz:∀ x o',H1 x=some o'->x≠d->upd H1 d (.frz o (.dK (L.map pbV))) x=some o':=λx o' e n=>by rw [Ze n]; exact e
 have sF:Same H (upd H1 d (.frz o (.dK (L.map pbV)))):=λx o' e=>fz x o' (s1 _ _ (s0 _ _ e)) (Zb (s0 _ _ e) hd)
 have nmd:lm≠d:=Zb e0 hd
 have em:upd H1 d (.frz o (.dK (L.map pbV))) lm=some (.lst []):=fz _ _ (s1 _ _ e0) nmd
 have el:∀ p∈L,upd H1 d (.frz o (.dK (L.map pbV))) p.2=some (.lst (mV (spU sh row row.length p.1))):=λp hp=>fz _ _ (B.at' p hp) λz=>by
  have h:=B.at' p hp
  rw [z,B.top] at h; cases h
 have ed:upd H1 d (.frz o (.dK (L.map pbV))) d=some (.frz o (.dK (L.map pbV))):=Za
 have nlm:∀ p∈L,p.2≠lm:=λp hp z=>by
  have h:=nw p hp
  rw [z,e0] at h; cases h
 generalize upd H1 d (.frz o (.dK (L.map pbV)))=H2 at *
 refine ZjB (d:=d) (o:=o) (kvs:=L.map pbV) (λi σ G=>∃ (v4 v5:Option V),σ=[some (.int sh),some (.int pl),some (.ref a),some (.ref lm),v4,v5]/\G lm=some (.lst (mV (((ksF sh row).take i).flatMap (mkS sh pl row))))/\∀ x o',H2 x=some o'->x≠lm->G x=some o')
  ⟨none,none,rfl,em,λx o' e _=>e⟩ (λi σ G _ ⟨_,_,_,_,s⟩=>s _ _ ed (Ne.symm nmd)) ?_ ?_
 .rintro i k' v σ G hkv ⟨v4,v5,rfl,gm,sg⟩
  rw [getElem?_map] at hkv
  cases eL:L[i]? with
  | none=>rw [eL] at hkv; cases hkv
  | some p =>
   rw [eL] at hkv
   cases hkv
   have hp:=mem_of_getElem? eL
   have ei:(ksF sh row)[i]?=some p.1:=by rw [← bk,getElem?_map,eL]; rfl
   have gp:=sg _ _ (el p hp) (nlm p hp)
   have sHG:Same H G:=λx o' e=>sg _ _ (sF _ _ e) (Zb e hlm)
   obtain ⟨s,ad⟩:=p
   dsimp only [pbV] at *
   refine gN ⟨_,rfl,ad,rfl,⟨_,SqL.of gp⟩,λla hla=>?_⟩
   have spM:∀ x∈spU sh row row.length s,x<row.length:=λx hx=>List.mem_range.mp (List.mem_filter.mp hx).1
   have lsp:(spU sh row row.length s).length<=row.length:=by have:=Zkk sh row row.length s; unfold mV at this; rwa [length_map] at this
   have at':∀ x,x<row.length->atI (row.map V.int) (x:Int)=some (.int (row.getD x 0)):=λx hx=>Zao (by rw [getElem?_map,getD_eq_getElem?_getD,getElem?_eq_getElem hx]; rfl)
   have ask:askF sh row s=(spU sh row row.length s).map λi=>row.getD i 0:=rfl
   have mks:mkS sh pl row s=(lmF (pl - 1) (askF sh row s)).map λx=>(spU sh row row.length s).getD x 0:=rfl
   have lmk:=lm_lt (pl - 1) (askF sh row s)
   have lmn:=Zmb (pl - 1) (askF sh row s)
   have lak:(askF sh row s).length=(spU sh row row.length s).length:=by rw [ask,length_map]
   have tkk:(ksF sh row).take (i+1)=(ksF sh row).take i++[s]:=by rw [take_succ,ei]; rfl
   have clen:=ZgO (sh:=sh) (pl:=pl) (row:=row) ((ksF sh row).take (i+1)) (k1.sublist (List.take_sublist ..))
   rw [tkk,List.flatMap_append,length_append] at clen
   have fone:[s].flatMap (mkS sh pl row)=mkS sh pl row s:=by simp
   rw [fone] at clen
   generalize spU sh row row.length s=sp at *
   have lV:(mV sp).length=sp.length:=length_map ..
   have mat:∀ {j:Nat} {x:V},(mV sp)[j]?=some x->∃ y,sp[j]?=some y/\x=.int (y:Int):=λ{j x} h=>by
    unfold mV at h
    rw [getElem?_map] at h
    cases e:sp[j]? with
    | none=>rw [e] at h; cases h
    | some y=>rw [e] at h; exact ⟨y,rfl,(Option.some.inj h).symm⟩
   refine Zak (K:=K) (a:=ad) (xs:=mV sp) (l:=la) (λj ys σ' G'=>∃ (v0:Option V),σ'=[v0,some (.ref a)]/\ys=((sp.take j).map λi=>row.getD i 0).map V.int/\G'=upd G la (.lst ys))
    ⟨none,rfl,rfl,rfl⟩ (λj ys σ' G' _ ⟨_,_,_,q⟩=>SqL.of (by rw [q,Ze (Zb gp hla)]; exact gp)) ?_ ?_
   .rintro j x ys σ' G' hj hxj hys ⟨v0,rfl,rfl,rfl⟩
    obtain ⟨y,ey,rfl⟩:=mat hxj
    refine ⟨_,rfl,_,rfl,a,_,_,_,rfl,rfl,(sHG.trans (Zc hla _)).seq hS,at' y (spM y (mem_of_getElem? ey)),CNx.of (by rw [lV]; exact Nat.le_of_lt (Zn (by omega))) hj hys Za ⟨_,rfl,?_,Zbw⟩⟩
    rw [take_succ,ey]
    simp
   rintro ys σ' G' _ ⟨v0,rfl,rfl,rfl⟩
   rw [lV,take_length,← ask]
   have s2:=Zc (H:=G) hla (.lst ((askF sh row s).map V.int))
   have ea:upd G la (.lst ((askF sh row s).map V.int)) la=some (.lst ((askF sh row s).map V.int)):=Za
   generalize upd G la (.lst ((askF sh row s).map V.int))=G1 at *
   have gm1:=s2 _ _ gm
   refine gN ⟨_,rfl,_,rfl,_,_,rfl,rfl,_,rfl,pl - 1,la,askF sh row s,rfl,SqL.of ea,by omega,λlb G2 hlb t2 eb=>⟨lb,rfl,⟨_,SqL.of eb⟩,λlz hlz=>?_⟩⟩
   have lW:(mV (lmF (pl - 1) (askF sh row s))).length=(lmF (pl - 1) (askF sh row s)).length:=length_map ..
   generalize lmF (pl - 1) (askF sh row s)=bs at *
   have mab:∀ {j:Nat} {x:V},(mV bs)[j]?=some x->∃ y,bs[j]?=some y/\x=.int (y:Int):=λ{j x} h=>by
    unfold mV at h
    rw [getElem?_map] at h
    cases e:bs[j]? with
    | none=>rw [e] at h; cases h
    | some y=>rw [e] at h; exact ⟨y,rfl,(Option.some.inj h).symm⟩
   have gp2:=t2 _ _ (s2 _ _ gp)
   refine Zak (K:=K) (a:=lb) (xs:=mV bs) (l:=lz) (λj ys σ' G'=>∃ (v0:Option V),σ'=[v0,some (.ref ad)]/\ys=mV ((bs.take j).map λx=>sp.getD x 0)/\G'=upd G2 lz (.lst ys))
    ⟨none,rfl,rfl,rfl⟩ (λj ys σ' G' _ ⟨_,_,_,q⟩=>SqL.of (by rw [q,Ze (Zb eb hlz)]; exact eb)) ?_ ?_
   .rintro j x ys σ' G' hj hxj hys ⟨v0,rfl,rfl,rfl⟩
    obtain ⟨y,ey,rfl⟩:=mab hxj
    have ly:y<sp.length:=by rw [← lak]; exact lmk y (mem_of_getElem? ey)
    refine ⟨_,rfl,_,rfl,ad,_,_,_,rfl,rfl,SqL.of (Zc hlz _ _ _ gp2),Zao (xs:=mV sp) (v:=.int ((sp.getD y 0:Nat):Int)) (by unfold mV; rw [getElem?_map,getD_eq_getElem?_getD,getElem?_eq_getElem ly]; rfl),CNx.of (by rw [lW]; exact Nat.le_of_lt (Zn (by omega))) hj hys Za ⟨_,rfl,?_,Zbw⟩⟩
    rw [take_succ,ey,map_append,ZcM]
    rfl
   rintro ys σ' G' _ ⟨v0,rfl,rfl,rfl⟩
   rw [lW,take_length,← mks]
   have s3:=Zc (H:=G2) hlz (.lst (mV (mkS sh pl row s)))
   have ez:upd G2 lz (.lst (mV (mkS sh pl row s))) lz=some (.lst (mV (mkS sh pl row s))):=Za
   have hzm:lm≠lz:=Zb (t2 _ _ gm1) hlz
   generalize upd G2 lz (.lst (mV (mkS sh pl row s)))=G3 at *
   have gm3:=s3 _ _ (t2 _ _ gm1)
   refine ⟨lm,lz,_,_,rfl,rfl,gm3,ez,?_,⟨_,_,rfl,?_,λx o' e n=>?_⟩⟩
   .unfold mV
    rw [length_map,length_map]
    exact Nat.le_of_lt (Zn (by omega))
   .rw [Za,tkk,List.flatMap_append,fone,ZcM]
   .rw [Ze n]
    exact s3 _ _ (t2 _ _ (s2 _ _ (sg _ _ e n)))
 .rintro σ G ⟨v4,v5,rfl,gm,sg⟩
  have lL:(L.map pbV).length=(ksF sh row).length:=by rw [length_map,← bk,length_map]
  rw [lL,take_length] at gm
  have cl:=ZgO (sh:=sh) (pl:=pl) (row:=row) (ksF sh row) k1
  have e9:(ksF sh row).flatMap (mkS sh pl row)=catF sh pl row:=rfl
  rw [e9] at gm cl
  have sHG:Same H G:=λx o' e=>sg _ _ (sF _ _ e) (Zb e hlm)
  have gm':G lm=some (.lst (((catF sh pl row).map λm:Nat=>(m:Int)).map V.int)):=by rw [gm,map_map]; rfl
  refine ⟨_,rfl,lm,_,rfl,SqL.of gm',by rw [length_map]; omega,λD os hD hp hw=>?_⟩
  have eo:=Zlv hp
  have hp2:(os.map Int.toNat).Perm (catF sh pl row):=by
   have q:=hp.map Int.toNat
   rw [map_map] at q
   refine q.trans (List.Perm.of_eq ?_)
   conv=>rhs; rw [← map_id (catF sh pl row)]
   exact map_congr_left λx _=>rfl
  refine k D _ (os.map Int.toNat) (sHG.free hD) (sHG.trans (Zc hD _)) ?_ hp2 ?_
  .rw [Za]
   conv=>lhs; rw [eo]
   rw [map_map]
   rfl
  .rw [List.pairwise_map]
   exact hw.imp λ{a b} h=>by omega
end
theorem ZhL (row:List Int) (b:Int):∀ j,((List.range j).filter λi=>decide (row.getD i 0=b)).getLast?=prv row b j
 | 0=>rfl
 | j+1=>by
  rw [List.range_succ,filter_append,filter_cons,filter_nil]
  unfold prv
  by_cases c:row.getD j 0=b
  .rw [if_pos (decide_eq_true c),if_pos c,List.getLast?_append]; rfl
  .rw [if_neg (by simpa using c),if_neg c,append_nil]
   exact ZhL row b j
theorem Zkq (ms:List Nat):mV ms=(ms.map λm:Nat=>(m:Int)).map V.int:=by unfold mV; rw [map_map]; rfl
section
theorem Zir (F:Fun K "_law_bound" "_law_bound" ZaT f fd) (T:Txt K mg):FnOk P w K mg base CX0 1 f fd ZbI (spBnd K):=by
 refine F.ok sc_l_bound (λvs H Q E h=>?_) (λcdv A outer st H vs Q E hr h=>?_)
 .obtain ⟨sh,pl,a,lm,row,ms,rfl,_⟩:=h
  rfl
 obtain ⟨sh,pl,a,lm,row,ms,rfl,hS,hM,hs0,hl,hm,hml,k⟩:=h
 have nd:=sc_l_bound.nd
 have hu:=hu_of hr
 refine ⟨_,(Zf (pst 4 nd (pe_op Zbp (pe_op Zbo (pv 1) Zi) (Zk (Zl (K:=K) rfl) rfl T.qf_ PySem.boot_len (pc (pv 3) Zd))))
   (Zf (Zba PassesOwn.never rfl (ZeA rfl T.qj_ (pc (pv 2) Zd)) (Zap (K:=K) (n:=2) rfl rfl (Zt (pgn 5 nd) (Zt (pgn 6 nd) Zan))) (Zf (pst 7 nd (ZcP (Zw (osc:=(Zg ZaT)) (oN:=ZdJ) (N:=["_law_i", "_law_board", "_law_row"]) (own:=1) (js:=[6,2]) (by decide +kernel) rfl rfl) rfl (ZW rfl T.qh_ (pc (pv 5) Zd)) (λ_ _ _ _ _ _=>(pgn 0 (show List.Nodup (["_law_i", "_law_board", "_law_row"]:List Str) by decide +kernel))) (λ_ _ _ _ _ _=>(Zs op_eq (pe_ix (Zo (K:=K) rfl) (pv 2) (pv 0) (λ_ _=>rfl)) (pv 1) (Zv _))) (λ_ _ _ _ _ _=>(pv 0))))
   (Zj (ps_if (Zs (ZlG (K:=K) (Nat.lt_of_succ_lt hu) rfl) (pv 7) (Zz Zd) (Zv _)) (Zf (Zez 8 (Zw (osc:=(Zg ZaT)) (oN:=ZdJ) (N:=["_law_mark", "_law_j", "_law_behind", "_law_shelves", "_law_board", "_law_row"]) (own:=1) (js:=[5,7,0,6,2]) (by decide +kernel) rfl rfl) rfl nd rfl rfl (Zaf (K:=K) rfl (pv 3)) (λ_ _ _ _ _ _=>(pgn 0 (show List.Nodup (["_law_mark", "_law_j", "_law_behind", "_law_shelves", "_law_board", "_law_row"]:List Str) by decide +kernel))) (λ_ _ _ _ _ _=>(PW.pt (Zde (Zkx op_lt op_lt (pe_ix (Zo (K:=K) rfl) (pv 2) (pe_un ZbD Zi) (λ_ _=>rfl)) (pv 0) (pv 1)) (ZbU (Zs op_eq (pe_op Zat (pe_ix (Zo (K:=K) rfl) (pv 5) (pv 0) (λ_ _=>rfl)) (pv 3)) (pe_op Zat (pv 4) (pv 3)) (Zv _)))))) (λ_ _ _ _ _ _=>(pv 0)))
   (Zj (pst 4 nd (pe_op Zaa (pv 4) (Zaw Zdh rfl T.q9_ ZbE (pc (Zbb (Znl (K:=K) (Nat.lt_of_succ_lt hu) rfl) (pv 8) (Zz Zd) (Zv _)) Zd)))))) Zy))))
   (Zj (Zu (pv 4))))),?_⟩
 have lM:(mV ms).length=ms.length:=length_map ..
 have at':∀ x,x<row.length->atI (row.map V.int) (x:Int)=some (.int (row.getD x 0)):=λx hx=>Zao (by rw [getElem?_map,getD_eq_getElem?_getD,getElem?_eq_getElem hx]; rfl)
 refine ⟨_,rfl,_,_,rfl,rfl,_,rfl,lm,_,rfl,.inl hM,_,_,rfl,rfl,.inr (by rw [lM]; omega),gN ?_⟩
 rw [lM]
 refine ⟨_,rfl,a,rfl,⟨_,hS⟩,ZeD (K:=K) (a:=a) (xs:=row.map V.int) (λj σ G=>∃ (v5 v6 v7 v8:Option V),σ=[some (.int sh),some (.int pl),some (.ref a),some (.ref lm),some (.int ((pl - 1) * (ms.length:Int)+((List.range j).countP (frJ sh row ms):Nat))),v5,v6,v7,v8]/\Same H G)
  ⟨none,none,none,none,?_,Same.refl _⟩ (λi σ G _ ⟨_,_,_,_,_,s⟩=>s.seq hS) ?_ ?_⟩
 .show _=[_,_,_,_,some (V.int ((pl - 1) * (ms.length:Int)+((0:Nat):Int))),_,_,_,_]
  rw [show (((0:Nat):Int))=0 from rfl,Int.add_zero]
  rfl
 .rintro j x t σ G hx ⟨v5,v6,v7,v8,rfl,sg⟩ ht
  obtain ⟨z,hz,rfl⟩:=Zbr hx
  have hj:j<row.length:=(List.getElem?_eq_some_iff.mp hz).1
  have eg:row.getD j 0=z:=by rw [getD_eq_getElem?_getD,hz]; rfl
  refine ⟨t,_,rfl,SqT.of Za,rfl,_,_,rfl,gN ⟨_,_,rfl,gN ⟨rfl,?_⟩⟩⟩
  have s1:=sg.trans (Zc (H:=G) ht (.tup [V.int (j:Int),V.int z]))
  generalize upd G t (.tup [V.int (j:Int),V.int z])=G1 at *
  have ec:(List.range (j+1)).countP (frJ sh row ms)=(List.range j).countP (frJ sh row ms)+(if frJ sh row ms j=true then 1 else 0):=by rw [List.range_succ,List.countP_append,List.countP_singleton]
  generalize hW:(pl - 1) * (ms.length:Int)+((List.range j).countP (frJ sh row ms):Nat)=W at *
  refine hide λu1 ee=>?_
  refine ⟨_,rfl,_,rfl,by omega,by omega,λlb hlb=>?_⟩
  refine Zav (lo:=0) (n:=((j:Nat):Int).toNat) (l:=lb) (λi ys σ' G'=>∃ (v0:Option V),σ'=[v0,some (.int z),some (.ref a)]/\ys=mV ((List.range i).filter λi=>decide (row.getD i 0=z))/\G'=upd G1 lb (.lst ys))
   ⟨none,rfl,rfl,rfl⟩ ?_ ?_
  .rintro i ys σ' G' hi hys ⟨v0,rfl,rfl,rfl⟩
   have hi':i<j:=by omega
   rw [Int.zero_add]
   have er:((List.range (i+1)).filter λi=>decide (row.getD i 0=z))=((List.range i).filter λi=>decide (row.getD i 0=z))++(if row.getD i 0=z then [i] else []):=by
    rw [List.range_succ,filter_append,filter_cons,filter_nil]
    simp only [decide_eq_true_eq]
   refine ⟨_,rfl,_,rfl,a,_,_,_,rfl,rfl,(s1.trans (Zc hlb _)).seq hS,at' i (by omega),_,rfl,rfl,_,rfl,?_⟩
   by_cases c:row.getD i 0=z
   .rw [if_pos c] at er
    refine ifT (by rw [c]; simp) ⟨_,rfl,CNx.of (by show j<=sizeLine; exact Nat.le_of_lt (Zn (by omega))) hi hys Za ⟨_,rfl,by rw [er,ZcM]; rfl,Zbw⟩⟩
   .rw [if_neg c,append_nil] at er
    refine ifF (by simpa using c) (CNo.of hi hys ⟨_,rfl,by rw [er],rfl⟩)
  subst ee
  rintro ys σ' G' _ ⟨v0,rfl,rfl,rfl⟩
  rw [show ((j:Nat):Int).toNat=j from rfl]
  have pl':=ZhL row z j
  have lB:((List.range j).filter λi=>decide (row.getD i 0=z)).length<=j:=by
   have:=length_filter_le (λi=>decide (row.getD i 0=z)) (List.range j)
   rwa [length_range] at this
  generalize ((List.range j).filter λi=>decide (row.getD i 0=z))=B at *
  have s2:=s1.trans (Zc (H:=G1) hlb (.lst (mV B)))
  have eb:upd G1 lb (.lst (mV B)) lb=some (.lst (mV B)):=Za
  generalize upd G1 lb (.lst (mV B))=G2 at *
  refine gN ?_
  dsimp only
  have fin:∀ (v7 v8:Option V) (W':Int) (G':Hp),W'=W+(if frJ sh row ms j=true then 1 else 0)->Same H G'->∃ (v5 v6 v7' v8':Option V),([some (.int sh),some (.int pl),some (.ref a),some (.ref lm),some (.int W'),some (.int (j:Int)),some (.int z),v7,v8]:St)=[some (.int sh),some (.int pl),some (.ref a),some (.ref lm),some (.int ((pl - 1) * (ms.length:Int)+((List.range (j+1)).countP (frJ sh row ms):Nat))),v5,v6,v7',v8']/\Same H G':=λv7 v8 W' G' e s=>⟨some (.int (j:Int)),some (.int z),v7,v8,by rw [show W'=(pl - 1) * (ms.length:Int)+((List.range (j+1)).countP (frJ sh row ms):Nat) by rw [e,ec,← hW]; split <;> omega],s⟩
  have eB:=eb
  rw [Zkq] at eB
  refine ⟨_,rfl,(sl 0),λl0 hl0=>?_⟩
  have s3:=s2.trans (Zc (H:=G2) hl0 (.lst []))
  have eb3:=Zc (H:=G2) hl0 (.lst []) _ _ eb
  have eB3:=Zc (H:=G2) hl0 (.lst []) _ _ eB
  have e03:upd G2 l0 (.lst []) l0=some (.lst (([]:List Int).map V.int)):=Za
  generalize upd G2 l0 (.lst [])=G3 at *
  refine ⟨lb,l0,_,[],rfl,rfl,SqL.of eB3,SqL.of e03,_,rfl,?_⟩
  have efr:frJ sh row ms j=match prv row z j with | some i=>!mkd sh row ms i j | none=>false:=by unfold frJ spn; rw [eg] <;> rfl
  by_cases c:B=[]
  .subst c
   refine ifF rfl (fin _ _ _ _ ?_ s3)
   rw [efr,← pl']
   simp
  .refine ifT (by cases B with | nil=>exact absurd rfl c | cons _ _=>simp) ?_
   have ea:B=B.dropLast++[B.getLast c]:=(List.dropLast_concat_getLast c).symm
   have em:prv row z j=some (B.getLast c):=by rw [← pl',List.getLast?_eq_some_getLast c]
   have hat:atI (mV B) (-1)=some (.int ((B.getLast c:Nat):Int)):=by
    conv=>lhs; rw [ea,ZcM]
    exact ZgZ _ _
   generalize B.getLast c=i at *
   obtain ⟨q1,q2,q3⟩:=ZbR em
   rw [em] at efr
   have hr':∀ x,crs sh row i j x=((decide (i<x) && decide (x<j)) && decide (row.getD x 0 % sh=z % sh)):=λx=>by unfold crs; rw [q2]
   refine hide λu1 ee=>?_
   refine ⟨_,rfl,lm,rfl,⟨_,s3.seq hM⟩,λlo hlo=>?_⟩
   refine Zak (K:=K) (a:=lm) (xs:=mV ms) (l:=lo) (λn ys σ' G'=>∃ (v0:Option V),σ'=[v0,some (.int (j:Int)),some (.ref lb),some (.int sh),some (.int z),some (.ref a)]/\ys=mV ((ms.take n).filter (crs sh row i j))/\G'=upd G3 lo (.lst ys))
    ⟨none,rfl,rfl,rfl⟩ (λn ys σ' G' _ ⟨_,_,_,q⟩=>by rw [q]; exact (s3.trans (Zc hlo _)).seq hM) ?_ ?_
   .rintro n x ys σ' G' hn hxn hys ⟨v0,rfl,rfl,rfl⟩
    have hn':n<ms.length:=by omega
    have em':ms[n]?=some ms[n]:=getElem?_eq_getElem hn'
    have ex:x=.int (ms[n]:Int):=by
     unfold mV at hxn
     rw [getElem?_map,em'] at hxn
     exact (Option.some.inj hxn).symm
    subst ex
    have mr:=hm _ (mem_of_getElem? em')
    have tk:(ms.take (n+1)).filter (crs sh row i j)=(ms.take n).filter (crs sh row i j)++(if crs sh row i j ms[n]=true then [ms[n]] else []):=by rw [take_succ,em',filter_append]; show _++List.filter _ [_]=_; rw [filter_cons,filter_nil]
    generalize ms[n]=y at *
    have big:(mV ms).length<=sizeLine:=by rw [lM]; exact Nat.le_of_lt (Zn (by omega))
    have no:crs sh row i j y=false->CNo (mV ms).length (λn ys σ' G'=>∃ (v0:Option V),σ'=[v0,some (.int (j:Int)),some (.ref lb),some (.int sh),some (.int z),some (.ref a)]/\ys=mV ((ms.take n).filter (crs sh row i j))/\G'=upd G3 lo (.lst ys)) n (mV ((ms.take n).filter (crs sh row i j))) [some (.int (y:Int)),some (.int (j:Int)),some (.ref lb),some (.int sh),some (.int z),some (.ref a)] (upd G3 lo (.lst (mV ((ms.take n).filter (crs sh row i j))))):=λe=>CNo.of hn hys ⟨_,rfl,by rw [tk,e]; simp,rfl⟩
    refine ⟨_,rfl,_,rfl,lb,_,_,_,rfl,rfl,SqL.of (Zc hlo _ _ _ eb3),hat,_,rfl,_,_,rfl,rfl,_,rfl,?_⟩
    by_cases c1:i<y
    .refine ifT (decide_eq_true (by omega)) ⟨_,rfl,_,_,rfl,rfl,_,rfl,?_⟩
     by_cases c2:y<j
     .refine ifT (decide_eq_true (by omega)) ⟨_,rfl,_,rfl,a,_,_,_,rfl,rfl,(s3.trans (Zc hlo _)).seq hS,at' y mr,_,rfl,_,_,rfl,rfl,by omega,_,rfl,_,rfl,_,_,rfl,rfl,by omega,rfl,_,rfl,?_⟩
      by_cases c3:row.getD y 0 % sh=z % sh
      .have e:crs sh row i j y=true:=by rw [hr',decide_eq_true c1,decide_eq_true c2,decide_eq_true c3]; rfl
       rw [if_pos e] at tk
       exact ifT (decide_eq_true (by show V.int _=V.int _; rw [c3])) ⟨_,rfl,CNx.of big hn hys Za ⟨_,rfl,by rw [tk,ZcM]; rfl,Zbw⟩⟩
      .exact ifF (decide_eq_false λz'=>c3 (V.int.inj z')) (no (by rw [hr',decide_eq_false c3,Bool.and_false]))
     .exact ifF (decide_eq_false (by omega)) (ifF rfl (no (by rw [hr',decide_eq_false c2,Bool.and_false,Bool.false_and])))
    .exact ifF (decide_eq_false (by omega)) ⟨_,rfl,ifF rfl (ifF rfl (no (by rw [hr',decide_eq_false c1,Bool.false_and,Bool.false_and])))⟩
   subst ee
   rintro ys σ' G' _ ⟨v0,rfl,rfl,rfl⟩
   rw [lM,take_length]
   have s4:=s3.trans (Zc (H:=G3) hlo (.lst (mV (ms.filter (crs sh row i j)))))
   have eo:upd G3 lo (.lst (mV (ms.filter (crs sh row i j)))) lo=some (.lst (((ms.filter (crs sh row i j)).map λm:Nat=>(m:Int)).map V.int)):=by rw [Za,Zkq]
   generalize upd G3 lo (.lst (mV (ms.filter (crs sh row i j))))=G4 at *
   refine gN ⟨_,rfl,_,rfl,(sl 0),λl5 hl5=>⟨lo,l5,_,[],rfl,rfl,SqL.of (Zc hl5 _ _ _ eo),SqL.of Za,?_⟩⟩
   refine .inr ⟨_,rfl,_,_,rfl,rfl,gN (fin _ _ _ _ ?_ (s4.trans (Zc hl5 _)))⟩
   have efr':frJ sh row ms j=!ms.any (crs sh row i j):=efr
   rw [efr']
   by_cases ce:ms.filter (crs sh row i j)=[]
   .rw [ce]
    have:ms.any (crs sh row i j)=false:=by
     rw [List.any_eq_false]
     exact λx hx=>List.filter_eq_nil_iff.mp ce x hx
    rw [this]
    simp
   .have:ms.any (crs sh row i j)=true:=by
     obtain ⟨x,hx⟩:=List.exists_mem_of_ne_nil _ ce
     exact List.any_eq_true.mpr ⟨x,(List.mem_filter.mp hx).1,(List.mem_filter.mp hx).2⟩
    rw [this]
    simp [ce]
 .rintro σ G ⟨v5,v6,v7,v8,rfl,sg⟩
  rw [length_map]
  have q:=k G sg
  rw [bnd_J] at q
  exact ⟨_,rfl,q⟩
end
section
def spSm (K:W.Frag):Sp:=λvs H Q _=>∃ (b lr:Addr) (a q c:Int) (row:List Int),vs=[.ref b,.ref lr]/\BoxAt H b a q c/\c<310000000/\H lr=some (.lst (row.map V.int))/\lr≠b/\row.length<=400 /\
 ∀ (D:Addr) (H':Hp) (ms:List Nat) (a' c':Int),H D=none->H' D=some (.lst (mV ms))->(∀ x∈ms,x<row.length)->ms.Pairwise (·<·)->ms.length<=row.length->BoxAt H' b a' q c'->c'<=c+1+row.length->SB b H H'->Q (.ref D) H'
theorem Zfd (F:Fun K "_law_some_marks" "_law_some_marks" ZaB f fd) (T:Txt K mg) (qb_:Def P w K mg base "_law_take" 1 Zcl ZdL):FnOk P w K mg base CX0 2 f fd ZaU (spSm K):=by
 refine F.ok sc_some_marks (λvs H Q E h=>?_) (λcdv A outer st H vs Q E hr h=>?_)
 .obtain ⟨b,lr,a,q,c,row,rfl,_⟩:=h
  rfl
 obtain ⟨b,lr,a,q,c,row,rfl,B,hc,hR,nlb,hl,k⟩:=h
 have nd:=sc_some_marks.nd
 refine ⟨_,(Zf (Ziz (i:=2) (j:=3) rfl nd rfl rfl (by decide) rfl rfl (pc (Zm qb_ hr.m rfl (pc (pv 0) (pc Zi Zd))) (pc (Zz Zd) Zd)) rfl)
   (Zf (Zba PassesOwn.never rfl (ZW rfl T.qh_ (pc (Zk (Zl (K:=K) rfl) rfl T.qf_ PySem.boot_len (pc (pv 1) Zd)) Zd)) (pgn 4 nd) (Zj (ps_if (PW.pt (pw_or (Zs op_eq (pv 2) Zi (Zv _)) (ZcF (PW.pt (Zde (Zs op_gt (pv 2) Zi (Zv _)) (ZbU (Zs op_eq (Zm qb_ hr.m rfl (pc (pv 0) (pc (pe_ix (Zo (K:=K) rfl) (Zz (pc Zi (pc Zi Zd))) (pe_op Zbo (pv 2) Zi) (λ_ _=>rfl)) Zd))) Zi (Zv _)))))))) (Zj (ZA (ZaJ (K:=K) rfl (pe_bm PySem.F.plainAttrs_list PySem.F.slot_list_append PySem.F.type_list_append ZB (pv 3) (pc (pv 4) Zd))))) Zy)))
   (Zj (Zu (pv 3))))),?_⟩
 refine ⟨_,rfl,b,a,q,c,4,rfl,B,by omega,by decide,by decide,λwy a1 c1 H1 w0 w1 B1 hc1 s1=>⟨(sl 0),λlf hlf=>⟨_,_,rfl,?_⟩⟩⟩
 try dsimp only
 have s2:=Zc (H:=H1) hlf (.lst [])
 have ef:upd H1 lf (.lst []) lf=some (.lst []):=Za
 have nbf:b≠lf:=Zb B1.at' hlf
 have B2:=B1.same s2
 have hlfH:H lf=none:=ZcZ s1 B1.at' hlf
 have u2:SB b H (upd H1 lf (.lst [])):=s1.trans (s2.sb b)
 generalize upd H1 lf (.lst [])=H2 at *
 have lR:(row.map V.int).length=row.length:=length_map ..
 refine ⟨_,rfl,lr,_,rfl,.inl (SqL.of (u2 _ _ nlb hR)),_,rfl,by omega,by omega,Zcb (lo:=0) (n:=(((row.map V.int).length:Nat):Int).toNat) (λi σ G=>∃ (v4:Option V) (ms:List Nat) (a' c':Int),σ=[some (.ref b),some (.ref lr),some (.int wy),some (.ref lf),v4]/\G lf=some (.lst (mV ms))/\(∀ x∈ms,x<i)/\ms.Pairwise (·<·)/\ms.length<=i/\BoxAt G b a' q c'/\c'<=c+1+i/\SB b H G)
  ⟨none,[],a1,c1,rfl,ef,λx h=>(nomatch h),List.Pairwise.nil,Nat.le_refl _,B2,by omega,u2⟩ ?_ ?_⟩
 .rintro i σ G hi ⟨v4,ms,a',c',rfl,gf,m1,m2,m3,Bg,hcg,sb⟩
  have hi':i<row.length:=by rw [lR] at hi; omega
  rw [Int.zero_add]
  refine gN ?_
  have mm1:∀ x∈ms++[i],x<i+1:=λx hx=>by
   rcases List.mem_append.mp hx with h | h
   .have:=m1 x h; omega
   .have e:x=i:=by simpa using h
    omega
  have mm2:(ms++[i]).Pairwise (·<·):=by
   rw [pairwise_append]
   refine ⟨m2,by simp,λx hx y hy=>?_⟩
   have e:y=i:=by simpa using hy
   have:=m1 x hx
   omega
  have yes:∀ {a2 c2:Int} {G':Hp},G' lf=some (.lst (mV ms))->BoxAt G' b a2 q c2->c2<=c+1+((i+1:Nat):Int)->SB b H G'->∃ (v4:Option V) (ms':List Nat) (a' c':Int),([some (.ref b),some (.ref lr),some (.int wy),some (.ref lf),some (.int (i:Int))]:St)=[some (.ref b),some (.ref lr),some (.int wy),some (.ref lf),v4]/\upd G' lf (.lst (mV ms++[V.int (i:Int)])) lf=some (.lst (mV ms'))/\(∀ x∈ms',x<i+1)/\ms'.Pairwise (·<·)/\ms'.length<=i+1/\BoxAt (upd G' lf (.lst (mV ms++[V.int (i:Int)]))) b a' q c'/\c'<=c+1+((i+1:Nat):Int)/\SB b H (upd G' lf (.lst (mV ms++[V.int (i:Int)]))):=λ{a2 c2 G'} g1 g2 g3 g4 =>
   ⟨_,ms++[i],a2,c2,rfl,by rw [Za,ZcM]; rfl,mm1,mm2,by rw [length_append]; show _+1<=_; omega,⟨by rw [Ze nbf]; exact g2.at',g2.a0,g2.q0,g2.q1,g2.c0⟩,g3,λx o nx e=>by rw [Ze (Zb e hlfH)]; exact g4 _ _ nx e⟩
  refine cpIfS (λ_ G'=>∃ a2 c2:Int,G' lf=some (.lst (mV ms))/\BoxAt G' b a2 q c2/\c2<=c+1+((i+1:Nat):Int)/\SB b H G') (λQ' k'=>?_) ?_
  .refine ⟨_,rfl,rfl,_,rfl,?_⟩
   have k0:=λv=>k' v G ⟨a',c',gf,Bg,by omega,sb⟩
   by_cases e1:wy=1
   .exact ifT (by rw [e1]; simp) (k0 _)
   .refine ifF (by simpa using e1) ⟨_,rfl,_,_,rfl,rfl,_,rfl,?_⟩
    by_cases e2:1<wy
    .refine ifT (decide_eq_true e2) ⟨_,rfl,(sl 2),λp0 hp0=>?_⟩
     have q0:b≠p0:=Zb Bg.at' hp0
     have s5:=Zc (H:=G) hp0 (.lst [V.int 2,V.int 5])
     obtain ⟨n,hn,n0,n1⟩:∃ n:Int,atI [V.int 2,V.int 5] (wy - 2)=some (.int n)/\0<n/\n<=5:=by
      have:wy=2\/wy=3:=by omega
      rcases this with rfl | rfl
      .exact ⟨2,rfl,by decide,by decide⟩
      .exact ⟨5,rfl,by decide,by decide⟩
     refine ⟨_,rfl,_,_,rfl,rfl,p0,_,_,_,rfl,rfl,SqL.of Za,hn,b,a',q,c',n,rfl,Bg.same s5,by omega,by omega,by omega,λr a2 c2 G2 r0 r1 B2 hc2 t2=>⟨rfl,_,rfl,k' _ _ ⟨a2,c2,t2 _ _ (Ne.symm nbf) (s5 _ _ gf),B2,by omega,(sb.trans (s5.sb b)).trans t2⟩⟩⟩
    .exact ifF (decide_eq_false e2) (k0 _)
  .rintro cc G' ⟨a2,c2,g1,g2,g3,g4⟩
   cases cc with
   | true=>exact ifT rfl ⟨_,rfl,.inl ⟨rfl,_,SqL.of g1⟩,_,rfl,lf,_,_,rfl,rfl,g1,Zn (by unfold mV; rw [length_map]; omega),yes g1 g2 g3 g4⟩
   | false=>exact ifF rfl ⟨_,ms,a2,c2,rfl,g1,λx hx=>Nat.lt_succ_of_lt (m1 x hx),m2,by omega,g2,g3,g4⟩
 .rintro σ G ⟨v4,ms,a',c',rfl,gf,m1,m2,m3,Bg,hcg,sb⟩
  rw [show (((row.map V.int).length:Nat):Int).toNat=row.length by rw [lR]; rfl] at m1 m3 hcg
  exact ⟨_,rfl,k lf G ms a' c' hlfH gf m1 m2 m3 Bg hcg sb⟩
end
theorem Zkr (sh pl:Int) (ru:Str) (row:List Int):∀ (n i:Nat),i<n->(runR sh pl ru row n).2[i]?=some (stepR sh pl ru i (row.getD i 0) (runR sh pl ru row i).1).2
 | 0,i,h=>absurd h (Nat.not_lt_zero _)
 | n+1,i,h=>by
  have l:=(ZhB sh pl ru row n).2.2
  show ((runR sh pl ru row n).2++[_])[i]?=_
  by_cases c:i<n
  .rw [getElem?_append_left (by omega)]
   exact Zkr sh pl ru row n i c
  .have e:i=n:=by omega
   subst e
   rw [getElem?_append_right (by omega),l,Nat.sub_self]; rfl
def ruO (sh pl:Int) (ru:Str) (row:List Int):List (Option Int):=(rowF sh pl ru row).map λf=>f.2
theorem Zks {sh:Int} {S:List Rec} {T:List Int} (u:Uq S) (nd:T.Nodup) (h:∀ x,x∈T↔x∈bds S) (b:Int):((Zh sh (b % sh) T).length=(Zac sh b S).length)/\∀ r∈Zac sh b S,r.b∈Zh sh (b % sh) T:=by
 have mem:∀ x,x∈Zh sh (b % sh) T↔x∈(Zac sh b S).map (·.b):=λx=>by
  rw [mem_shelfS,h x,mem_map]
  constructor
  .rintro ⟨h1,h2⟩
   obtain ⟨r,hr,e⟩:=List.mem_map.mp h1
   refine ⟨r,List.mem_filter.mpr ⟨hr,?_⟩,e⟩
   rw [← e] at h2
   simp [h2]
  .rintro ⟨r,hr,e⟩
   obtain ⟨h1,h2⟩:=List.mem_filter.mp hr
   refine ⟨List.mem_map.mpr ⟨r,h1,e⟩,?_⟩
   rw [← e]
   simpa using h2
 have nd1:(Zh sh (b % sh) T).Nodup:=nd.sublist filter_sublist
 have nd2:((Zac sh b S).map (·.b)).Nodup:=List.Nodup.sublist (List.Sublist.map _ filter_sublist) u
 refine ⟨?_,λr hr=>(mem _).mpr (List.mem_map_of_mem hr)⟩
 rw [ZbP nd1 nd2 mem,length_map]
theorem Zkt (sh pl:Int) (ru:Str) (row:List Int) (hpl:1<=pl):∀ i,i<=row.length->∃ T:List Int×Nat,ordR sh pl row (ruO sh pl ru row) i=some T/\T.1.Nodup/\(∀ x,x∈T.1↔x∈bds (runR sh pl ru row i).1)/\T.2=(runR sh pl ru row i).2.countP λf=>!f.1
 | 0,_=>⟨([],0),rfl,nodup_nil,λx=>by simp [runR,bds],rfl⟩
 | i+1,hi=>by
  obtain ⟨T,h1,h2,h3,h4⟩:=Zkt sh pl ru row hpl i (by omega)
  have u:=(ZhB sh pl ru row i).1
  have eg:(ruO sh pl ru row).getD i none=(stepR sh pl ru i (row.getD i 0) (runR sh pl ru row i).1).2.2:=by
   unfold ruO rowF
   rw [getD_eq_getElem?_getD,getElem?_map,Zkr sh pl ru row row.length i (by omega)]; rfl
  obtain ⟨sl,sm⟩:=Zks (sh:=sh) u h2 h3 (row.getD i 0)
  have e:ordR sh pl row (ruO sh pl ru row) (i+1)=ordS sh pl (row.getD i 0) (stepR sh pl ru i (row.getD i 0) (runR sh pl ru row i).1).2.2 T:=by
   show (ordR sh pl row (ruO sh pl ru row) i).bind _=_
   rw [h1,eg]; rfl
  rw [e]
  have ec:(runR sh pl ru row (i+1)).2.countP (λf=>!f.1)=T.2+(if (!(stepR sh pl ru i (row.getD i 0) (runR sh pl ru row i).1).2.1)=true then 1 else 0):=by
   show ((runR sh pl ru row i).2++[_]).countP _=_
   rw [List.countP_append,h4,List.countP_cons,List.countP_nil,Nat.zero_add]
  have eb:(runR sh pl ru row (i+1)).1=(stepR sh pl ru i (row.getD i 0) (runR sh pl ru row i).1).1:=rfl
  rw [ec,eb]
  generalize row.getD i 0=b at *
  generalize (runR sh pl ru row i).1=S at *
  have nb:∀ x:Int,b∈Zh sh (b % sh) T.1↔b∈T.1:=λ_=>by rw [mem_shelfS]; exact ⟨λz=>z.1,λz=>⟨z,rfl⟩⟩
  unfold stepR ordS
  cases er:recOf S b with
  | some r =>
   obtain ⟨r1,r2⟩:=ZcB er
   have hb:b∈T.1:=(h3 b).mpr (r2 ▸ List.mem_map_of_mem r1)
   have hm:mayB pl (Zh sh (b % sh) T.1) b none=true:=by unfold mayB; rw [if_pos (.inl ((nb 0).mpr hb))]; rfl
   refine ⟨T,by rw [if_pos hm,if_pos hb],h2,λx=>?_,by simp⟩
   rw [ZeT,h3 x]
   exact ⟨.inr,λz=>z.elim (λz=>(h3 x).mp (z ▸ hb)) id⟩
  | none =>
   have hb:b∉T.1:=λz=>recOf_none.mp er ((h3 b).mp z)
   have hm:mayB pl (Zh sh (b % sh) T.1) b (goesF sh pl ru S b)=true/\∀ g,goesF sh pl ru S b=some g->g∈T.1:=by
    by_cases c:((Zac sh b S).length:Int)<pl
    .have eg:goesF sh pl ru S b=none:=by unfold goesF; rw [if_pos c]
     rw [eg]
     exact ⟨by unfold mayB; rw [if_pos (.inr (by rw [sl]; exact c))]; rfl,λ_ z=>by cases z⟩
    .obtain ⟨r,hr,eg,_⟩:=Zes (ru:=ru) hpl c
     rw [eg]
     refine ⟨?_,λg z=>by cases z; exact (mem_shelfS.mp (sm r hr)).1⟩
     unfold mayB
     rw [if_neg (λz=>z.elim (λz=>hb ((nb 0).mp z)) (by rw [sl]; exact c))]
     exact decide_eq_true (sm r hr)
   refine ⟨(lessO T.1 (goesF sh pl ru S b)++[b],T.2+1),by rw [if_pos hm.1,if_neg hb],?_,λx=>?_,by simp⟩
   .rw [nodup_append]
    exact ⟨h2.sublist less_sub,by simp,λx hx y hy z=>hb (by rw [List.mem_singleton.mp hy] at z; rw [← z]; exact less_sub.subset hx)⟩
   .rw [mem_append,mem_singleton,Zdb h2,ZeT,ZhE,h3 x]
    exact Or.comm
theorem ZnY (sh pl:Int) (ru:Str) (row:List Int) (hpl:1<=pl):cntF sh pl row (ruO sh pl ru row)=some ((rowF sh pl ru row).countP (λf=>!f.1):Int):=by
 obtain ⟨T,h1,_,_,h4⟩:=Zkt sh pl ru row hpl row.length (Nat.le_refl _)
 unfold cntF
 rw [if_pos (by unfold ruO; rw [length_map,ZgA]),h1]
 show some (T.2:Int)=_
 rw [h4]; rfl
theorem ZhM {sh pl:Int} {row:List Int} {os:List (Option Int)} {c:Int} (hp:1<=pl) (h:cntF sh pl row os=some c) (ms:List Nat) (hm:∀ x∈ms,x<row.length):(row.length:Int) - c<=bndF sh pl row ms:=by
 unfold cntF at h
 split at h
 .cases e:ordR sh pl row os row.length with
  | none=>rw [e] at h; cases h
  | some S =>
   rw [e] at h
   have ec:(S.2:Int)=c:=Option.some.inj h
   have q:=(ZmQ hp e).weak ms hm
   have es:oS sh pl row os row.length=S:=by unfold oS; rw [e]; rfl
   rw [es,ec] at q
   exact q
 .cases h
theorem Zis {pl b:Int} {ms ms':List Int} {o:Option Int} (h1:∀ x,x∈ms↔x∈ms') (h2:ms.length=ms'.length):mayB pl ms b o=mayB pl ms' b o:=by
 unfold mayB
 rw [h2]
 have e:(b∈ms\/(ms'.length:Int)<pl)↔(b∈ms'\/(ms'.length:Int)<pl):=or_congr (h1 b) Iff.rfl
 by_cases c:b∈ms'\/(ms'.length:Int)<pl
 .rw [if_pos c,if_pos (e.mpr c)]
 .rw [if_neg c,if_neg (λz=>c (e.mp z))]
  cases o with
  | some g=>exact decide_eq_decide.mpr (h1 g)
  | none=>rfl
theorem ZhN {sh pl:Int} {row:List Int} {os:List (Option Int)} (y:Option Int):∀ i,i<=os.length->ordR sh pl row (os++[y]) i=ordR sh pl row os i
 | 0,_=>rfl
 | i+1,h=>by
  show (ordR sh pl row (os++[y]) i).bind _=(ordR sh pl row os i).bind _
  have e:(os++[y]).getD i none=os.getD i none:=by rw [getD_eq_getElem?_getD,getD_eq_getElem?_getD,getElem?_append_left (by omega)]
  rw [ZhN y i (by omega),e]
def keepP (y:V) (z:Int) (x:Int):Bool:=(!decide (V.int x=y)) && !decide (V.int x=V.int z)
theorem Zlw {sh pl z:Int} {o:Option Int} {S:List Int×Nat} {T:List Int} (nd:S.1.Nodup) (ndT:T.Nodup) (h:∀ x,x∈T↔x∈S.1) (c:mayB pl (Zh sh (z % sh) S.1) z o=true) :
  ∃ S',ordS sh pl z o S=some S'/\S'.1.Nodup/\(T.filter (keepP (optV o) z)++[z]).Nodup/\(∀ x,x∈T.filter (keepP (optV o) z)++[z]↔x∈S'.1)/\S'.2=S.2+(if z∈T then 0 else 1):=by
 have kp:∀ x,keepP (optV o) z x=true↔V.int x≠optV o/\x≠z:=λx=>by
  unfold keepP
  simp
 have nT:(T.filter (keepP (optV o) z)++[z]).Nodup:=by
  rw [nodup_append]
  exact ⟨ndT.sublist filter_sublist,by simp,λx hx w hw e=>((kp x).mp (List.mem_filter.mp hx).2).2 (e.trans (List.mem_singleton.mp hw))⟩
 have mT:∀ x,x∈T.filter (keepP (optV o) z)++[z]↔(x∈T/\V.int x≠optV o/\x≠z)\/x=z:=λx=>by
  rw [mem_append,mem_filter,kp,mem_singleton]
 unfold ordS
 rw [if_pos c]
 by_cases hz:z∈S.1
 .rw [if_pos hz]
  have ey:o=none:=by
   unfold mayB at c
   rw [if_pos (.inl (mem_shelfS.mpr ⟨hz,rfl⟩))] at c
   exact Option.isNone_iff_eq_none.mp c
  refine ⟨S,rfl,nd,nT,λx=>?_,by rw [if_pos ((h z).mpr hz)]; rfl⟩
  rw [mT,h x,ey]
  constructor
  .rintro (⟨h1,_⟩ | rfl)
   .exact h1
   .exact hz
  .intro h1
   by_cases e:x=z
   .exact .inr e
   .exact .inl ⟨h1,(λw=>nomatch w),e⟩
 .rw [if_neg hz]
  refine ⟨_,rfl,?_,nT,λx=>?_,by rw [if_neg (λw=>hz ((h z).mp w))]⟩
  .rw [nodup_append]
   exact ⟨nd.sublist less_sub,by simp,λx hx w hw e=>hz (by rw [List.mem_singleton.mp hw] at e; rw [← e]; exact less_sub.subset hx)⟩
  .rw [mT,mem_append,mem_singleton,Zdb nd,h x]
   constructor
   .rintro (⟨h1,h2,_⟩ | rfl)
    .exact .inl ⟨h1,λg eg e=>h2 (by rw [eg,e]; rfl)⟩
    .exact .inr rfl
   .rintro (⟨h1,h2⟩ | rfl)
    .refine .inl ⟨h1,λe=>?_,λe=>hz (e ▸ h1)⟩
     cases o with
     | none=>cases e
     | some g=>exact h2 g rfl (by cases e; rfl)
    .exact .inr rfl
section
def spDrw (K:W.Frag):Sp:=λvs H Q _=>∃ (b lr:Addr) (a q c sh pl:Int) (row:List Int),vs=[.ref b,.int sh,.int pl,.ref lr]/\BoxAt H b a q c/\c<310000000/\H lr=some (.lst (row.map V.int))/\lr≠b/\row.length<=200/\1<=sh/\1<=pl /\
 ∀ (D:Addr) (H':Hp) (os:List (Option Int)) (a' c':Int),H D=none->H' D=some (.lst (os.map optV))->os.length=row.length->(∃ c,cntF sh pl row os=some c)->BoxAt H' b a' q c'->c'<=c+row.length->SB b H H'->Q (.ref D) H'
theorem ZdX (F:Fun K "_law_drawn_order" "_law_drawn_order" ZK f fd) (T:Txt K mg) (qb_:Def P w K mg base "_law_take" 1 Zcl ZdL):FnOk P w K mg base CX0 2 f fd ZaI (spDrw K):=by
 refine F.ok sc_drawn_order (λvs H Q E h=>?_) (λcdv A outer st H vs Q E hr h=>?_)
 .obtain ⟨b,lr,a,q,c,sh,pl,row,rfl,_⟩:=h
  rfl
 obtain ⟨b,lr,a,q,c,sh,pl,row,rfl,B,hc,hR,nlb,hl,hs0,hp0,k⟩:=h
 have nd:=sc_drawn_order.nd
 refine ⟨_,(Zf (Ziz (i:=4) (j:=5) rfl nd rfl rfl (by decide) rfl rfl (pc (Zz Zd) (pc (Zz Zd) Zd)) rfl)
   (Zf (Zba PassesOwn.never rfl (Zaf (K:=K) rfl (pv 3)) (pgn 6 nd) (Zf (Zez 7 (Zw (osc:=(Zg ZK)) (oN:=ZbB) (N:=["_law_one", "_law_shelves", "_law_board"]) (own:=1) (js:=[1,6]) (by decide +kernel) rfl rfl) rfl nd rfl rfl (Zaf (K:=K) rfl (pv 4)) (λ_ _ _ _ _ _=>(pgn 0 (show List.Nodup (["_law_one", "_law_shelves", "_law_board"]:List Str) by decide +kernel))) (λ_ _ _ _ _ _=>(Zs op_eq (pe_op Zat (pv 0) (pv 1)) (pe_op Zat (pv 2) (pv 1)) (Zv _))) (λ_ _ _ _ _ _=>(pv 0)))
   (Zf (pst 8 nd ZdY)
   (Zf (ps_if (PW.pt (Zde (Zs (ZaE (K:=K) rfl) (pv 6) (pv 4) rfl) (ZbU (Zs op_ge (Zk (Zl (K:=K) rfl) rfl T.qf_ PySem.boot_len (pc (pv 7) Zd)) (pv 2) (Zv _))))) (Zj (pst 8 nd (pe_ix (Zo (K:=K) rfl) (pv 7) (Zm qb_ hr.m rfl (pc (pv 0) (pc (Zk (Zl (K:=K) rfl) rfl T.qf_ PySem.boot_len (pc (pv 7) Zd)) Zd))) (λ_ _=>rfl)))) Zy)
   (Zf (pst 4 nd (pe_op ZiO (ZcP (Zw (osc:=(Zg ZK)) (oN:=ZbB) (N:=["_law_one", "_law_gone", "_law_board"]) (own:=1) (js:=[8,6]) (by decide +kernel) rfl rfl) rfl (Zaf (K:=K) rfl (pv 4)) (λ_ _ _ _ _ _=>(pgn 0 (show List.Nodup (["_law_one", "_law_gone", "_law_board"]:List Str) by decide +kernel))) (λ_ _ _ _ _ _=>(PW.pt (Zde (Zs op_ne (pv 0) (pv 1) (Zv _)) (ZbU (Zs op_ne (pv 0) (pv 2) (Zv _)))))) (λ_ _ _ _ _ _=>(pv 0))) (Zz (pc (pv 6) Zd))))
   (Zj (ZA (ZaJ (K:=K) rfl (pe_bm PySem.F.plainAttrs_list PySem.F.slot_list_append PySem.F.type_list_append ZB (pv 5) (pc (pv 8) Zd))))))))))
   (Zj (Zu (pv 5))))),?_⟩
 refine ⟨(sl 0),λl0 hl0=>⟨(sl 0),λlf hlf=>⟨_,_,rfl,?_⟩⟩⟩
 try dsimp only
 have s0:=(Zc hl0 (.lst [])).trans (Zc hlf (.lst []))
 have e0:upd (upd H l0 (.lst [])) lf (.lst []) l0=some (.lst []):=Zc hlf _ _ _ Za
 have ef0:upd (upd H l0 (.lst [])) lf (.lst []) lf=some (.lst []):=Za
 have hlfH:H lf=none:=(Zc hl0 (.lst [])).free hlf
 have nf0:lf≠l0:=λz=>by rw [z,Za] at hlf; cases hlf
 have nbf:b≠lf:=Zb B.at' hlfH
 have nrf:lr≠lf:=Zb hR hlfH
 have B0:=B.same s0
 generalize upd (upd H l0 (.lst [])) lf (.lst [])=G0 at *
 refine ⟨_,rfl,lr,rfl,⟨_,SqL.of (s0 _ _ hR)⟩,Zev (K:=K) (a:=lr) (xs:=row.map V.int) (λi σ G=>∃ (v6 v7 v8:Option V) (lt:Addr) (TT:List Int) (os:List (Option Int)) (a' c':Int),σ=[some (.ref b),some (.int sh),some (.int pl),some (.ref lr),some (.ref lt),some (.ref lf),v6,v7,v8]/\lt≠lf/\lt≠b/\G lt=some (.lst (TT.map V.int))/\TT.length<=i/\G lf=some (.lst (os.map optV))/\os.length=i/\BoxAt G b a' q c'/\c'<=c+i/\SB b H G/\TT.Nodup/\∃ S:List Int×Nat,ordR sh pl row os i=some S/\S.1.Nodup/\∀ x,x∈TT↔x∈S.1)
  ⟨none,none,none,l0,[],[],a,c,rfl,Ne.symm nf0,(λz=>by rw [z,B.at'] at hl0; cases hl0),e0,Nat.le_refl _,ef0,rfl,B0,by omega,(λx o _ e=>s0 _ _ e),nodup_nil,([],0),rfl,nodup_nil,λ_=>Iff.rfl⟩ (λi σ G _ h=>by obtain ⟨_,_,_,_,_,_,_,_,_,_,_,_,_,_,_,_,_,sb,_⟩:=h; exact SqL.of (sb _ _ nlb hR)) ?_ ?_⟩
 .clear s0 e0 ef0 B0
  rintro i x σ G hx ⟨v6,v7,v8,lt,TT,os,a',c',rfl,nlf,nlb',elt,hTl,ef,hos,Bg,hcg,sb,nT,S,hR',nS,hmm⟩
  obtain ⟨z,hz,rfl⟩:=Zbr hx
  have hi:i<row.length:=(List.getElem?_eq_some_iff.mp hz).1
  have eg:row.getD i 0=z:=by rw [getD_eq_getElem?_getD,hz]; rfl
  have emay:∀ y,mayB pl (Zh sh (z % sh) TT) z y=mayB pl (Zh sh (z % sh) S.1) z y:=λy=>by
   have mm:∀ x,x∈Zh sh (z % sh) TT↔x∈Zh sh (z % sh) S.1:=λx=>by rw [mem_shelfS,mem_shelfS,hmm x]
   exact Zis mm (ZbP (nT.sublist filter_sublist) (nS.sublist filter_sublist) mm)
  have hin:z∈Zh sh (z % sh) TT↔z∈TT:=⟨λm=>(mem_shelfS.mp m).1,λm=>mem_shelfS.mpr ⟨m,rfl⟩⟩
  have hbig:(TT.map V.int).length<=sizeLine:=Nat.le_of_lt (Zn (by rw [length_map]; omega))
  refine gN ?_
  refine hideD λDz hDz=>?_
  try dsimp only
  refine hide λu1 e1=>?_
  refine ⟨_,rfl,lt,rfl,⟨_,SqL.of elt⟩,λls hls=>?_⟩
  refine Zak (K:=K) (a:=lt) (xs:=TT.map V.int) (l:=ls) (λi ys σ G'=>∃ v0:Option V,σ=[v0,some (.int sh),some (.int z)]/\ys=(Zh sh (z % sh) (TT.take i)).map V.int/\G'=upd G ls (.lst ys)) ⟨none,rfl,rfl,rfl⟩ (λi ys σ G' _ h=>by obtain ⟨_,_,_,q⟩:=h; exact SqL.of (by rw [q,Ze (Zb elt hls)]; exact elt)) ?_ ?_
  .rintro i x ys σ G hi hxi hys ⟨v0,rfl,rfl,rfl⟩
   obtain ⟨y,ey,rfl⟩:=Zbr hxi
   have ets:TT.take (i+1)=TT.take i++[y]:=by rw [take_succ,ey]; rfl
   refine ⟨_,rfl,_,rfl,_,_,rfl,rfl,by omega,_,rfl,_,rfl,_,_,rfl,rfl,by omega,rfl,_,rfl,?_⟩
   by_cases c:y % sh=z % sh
   .refine ifT (by simp [c]) ⟨_,rfl,CNx.of hbig hi hys Za ⟨_,rfl,?_,Zbw⟩⟩
    rw [ets,ZF,if_pos c,map_append]; rfl
   .refine ifF (by simp [c]) (CNo.of hi hys ⟨_,rfl,?_,rfl⟩)
    rw [ets,ZF,if_neg c]
  subst e1
  rintro ys σ G' _ ⟨v0,rfl,rfl,rfl⟩
  rw [length_map,take_length]
  refine gN ?_
  try dsimp only
  have ss:=Zc hls (.lst ((Zh sh (z % sh) TT).map V.int))
  have els:upd G ls (.lst ((Zh sh (z % sh) TT).map V.int)) ls=some (.lst ((Zh sh (z % sh) TT).map V.int)):=Za
  have nlsb:ls≠b:=λw=>by rw [w,Bg.at'] at hls; cases hls
  have elt:=ss _ _ elt
  have ef:=ss _ _ ef
  have Bg:=Bg.same ss
  have sb:SB b H (upd G ls (.lst ((Zh sh (z % sh) TT).map V.int))):=λx o nx e=>ss _ _ (sb _ _ nx e)
  generalize upd G ls (.lst ((Zh sh (z % sh) TT).map V.int))=G1 at *
  refine gN (i:=8) (v:=.non) ?_
  dsimp only
  refine cpI (λσ G=>∃ (o:Option Int) (a2 c2:Int),σ=[some (.ref b),some (.int sh),some (.int pl),some (.ref lr),some (.ref lt),some (.ref lf),some (.int z),some (.ref ls),some (optV o)]/\G lt=some (.lst (TT.map V.int))/\G lf=some (.lst (os.map optV))/\BoxAt G b a2 q c2/\c2<=c+(i+1)/\SB b H G/\mayB pl (Zh sh (z % sh) TT) z o=true) (λD' _ k'=>?_) ?_
  .refine ⟨_,rfl,_,rfl,lt,_,rfl,.inl (SqL.of elt),rfl,Zbm _,_,rfl,?_⟩
   rw [ZdN]
   have k0:=λm=>k' _ _ ⟨none,a',c',rfl,elt,ef,Bg,by omega,sb,m⟩
   have mN:(z∈Zh sh (z % sh) TT\/((Zh sh (z % sh) TT).length:Int)<pl)->mayB pl (Zh sh (z % sh) TT) z none=true:=λc=>by unfold mayB; rw [if_pos c]; rfl
   by_cases c1:z∈TT
   .exact ifF (by simp [c1]) (ifF rfl (k0 (mN (.inl (hin.mpr c1)))))
   .refine ifT (by simp [c1]) ⟨_,rfl,ls,_,rfl,.inl (SqL.of els),_,rfl,_,_,rfl,rfl,_,rfl,?_⟩
    rw [length_map]
    refine ZO (λc2=>?_) (λc2=>k0 (mN (.inr (by omega))))
    have l1:(Zh sh (z % sh) TT).length<=TT.length:=length_filter_le ..
    refine ⟨_,rfl,_,rfl,_,rfl,ls,_,rfl,.inl (SqL.of els),b,a',q,c',_,rfl,Bg,by omega,by rw [length_map]; omega,by rw [length_map]; omega,λr a2 c2 G2 r0 r1 B2 hc2 t2=>?_⟩
    rw [length_map] at r1
    obtain ⟨g,hg,gm⟩:=ZdM r0 r1
    have mS:mayB pl (Zh sh (z % sh) TT) z (some g)=true:=by unfold mayB; rw [if_neg (λw=>w.elim (λw=>c1 (hin.mp w)) (by omega))]; exact decide_eq_true gm
    exact ⟨ls,_,_,_,rfl,rfl,SqL.of (t2 _ _ nlsb els),hg,gN (k' _ _ ⟨some g,a2,c2,rfl,t2 _ _ nlb' elt,t2 _ _ (Ne.symm nbf) ef,B2,by omega,sb.trans t2,mS⟩)⟩
  clear elt ef Bg hcg sb els nlsb
  rintro _ G3 ⟨o,a2,c2,rfl,elt,ef,Bg,hcg,sb,hm⟩
  rw [emay] at hm
  obtain ⟨S',o1,o2,o3,o4,_⟩:=Zlw nS nT hmm hm
  try dsimp only
  refine hide λu1 e1=>?_
  refine ⟨_,rfl,lt,rfl,⟨_,SqL.of elt⟩,λlc hlc=>?_⟩
  refine Zak (K:=K) (a:=lt) (xs:=TT.map V.int) (l:=lc) (λj ys σ G=>∃ (v0:Option V),σ=[v0,some (optV o),some (.int z)]/\ys=((TT.take j).filter (keepP (optV o) z)).map V.int/\G=upd G3 lc (.lst ys)) ⟨none,rfl,rfl,rfl⟩ (λi ys σ G _ h=>by obtain ⟨_,_,_,q⟩:=h; exact SqL.of (by rw [q,Ze (Zb elt hlc)]; exact elt)) ?_ ?_
  .rintro j x ys σ G hj hxj hys ⟨v0,rfl,rfl,rfl⟩
   obtain ⟨x0,ex,rfl⟩:=Zbr hxj
   have ets:TT.take (j+1)=TT.take j++[x0]:=by rw [take_succ,ex]; rfl
   have sc:scal (V.int x0) (optV o)=true:=by cases o <;> rfl
   have e1:keepP (optV o) z x0=((!decide (V.int x0=optV o)) && !decide (V.int x0=V.int z)):=rfl
   refine ⟨_,rfl,_,rfl,sc,_,rfl,?_⟩
   cases c1:(!decide (V.int x0=optV o)) with
   | false =>
    rw [c1] at e1
    refine ifF rfl (ifF rfl (CNo.of hj hys ⟨_,rfl,?_,rfl⟩))
    rw [ets,filter_append,filter_cons,if_neg (by rw [e1,Bool.false_and]; exact Bool.false_ne_true)]; simp
   | true =>
    rw [c1,Bool.true_and] at e1
    refine ifT rfl ⟨_,rfl,_,rfl,rfl,_,rfl,?_⟩
    cases c2:(!decide (V.int x0=V.int z)) with
    | false =>
     rw [c2] at e1
     refine ifF rfl (CNo.of hj hys ⟨_,rfl,?_,rfl⟩)
     rw [ets,filter_append,filter_cons,if_neg (by rw [e1]; decide)]; simp
    | true =>
     rw [c2] at e1
     refine ifT rfl ⟨_,rfl,CNx.of hbig hj hys Za ⟨_,rfl,?_,Zbw⟩⟩
     rw [ets,filter_append,filter_cons,if_pos e1,map_append]; rfl
  subst e1
  rintro ys σ G _ ⟨v0,rfl,rfl,rfl⟩
  rw [length_map,take_length]
  have hzl:(TT.filter (keepP (optV o) z)).length<=TT.length:=length_filter_le ..
  generalize TT.filter (keepP (optV o) z)=zs at *
  have elc:upd G3 lc (.lst (zs.map V.int)) lc=some (.lst (zs.map V.int)):=Za
  refine ⟨_,rfl,(sl 1),λl1 hl1=>⟨lc,l1,_,_,rfl,rfl,Zc hl1 _ _ _ elc,Za,Nat.le_of_lt (Zn (by rw [length_map]; show _+1<=1000; omega)),λl2 hl2=>gN ?_⟩⟩
  have s4:=((Zc hlc (.lst (zs.map V.int))).trans (Zc hl1 (.lst [V.int z]))).trans (Zc hl2 (.lst (zs.map V.int++[V.int z])))
  have e2:upd (upd (upd G3 lc (.lst (zs.map V.int))) l1 (.lst [V.int z])) l2 (.lst (zs.map V.int++[V.int z])) l2=some (.lst ((zs++[z]).map V.int)):=by rw [Za,map_append]; rfl
  have n2:G3 l2=none:=((Zc hlc (.lst (zs.map V.int))).trans (Zc hl1 (.lst [V.int z]))).free hl2
  have ef3:=ef
  have ef:=s4 _ _ ef
  have Bg':=Bg.same s4
  try dsimp only
  generalize upd (upd (upd G3 lc (.lst (zs.map V.int))) l1 (.lst [V.int z])) l2 (.lst (zs.map V.int++[V.int z]))=G4 at *
  have n2f:l2≠lf:=λw=>by rw [w,ef3] at n2; cases n2
  refine ⟨_,rfl,.inl ⟨rfl,_,SqL.of ef⟩,_,rfl,lf,_,_,rfl,rfl,ef,Zn (by rw [length_map]; omega),?_⟩
  refine hDz _ _ ⟨_,_,_,l2,zs++[z],os++[o],a2,c2,rfl,n2f,(λw=>by rw [w,Bg.at'] at n2; cases n2),by rw [Ze n2f]; exact e2,by rw [length_append]; show _+1<=_; omega,by rw [Za,map_append]; rfl,by rw [length_append,hos]; rfl,⟨by rw [Ze nbf]; exact Bg'.at',Bg'.a0,Bg'.q0,Bg'.q1,Bg'.c0⟩,by omega,(λx o' nx e=>by rw [Ze (Zb e hlfH)]; exact s4 _ _ (sb _ _ nx e)),o3,S',?_,o2,o4⟩
  show (ordR sh pl row (os++[o]) i).bind _=_
  rw [ZhN _ i (by omega),hR',eg,getD_eq_getElem?_getD,getElem?_append_right (by omega),hos,Nat.sub_self]
  exact o1
 .rintro σ G ⟨v6,v7,v8,lt,TT,os,a',c',rfl,nlf,nlb',elt,hTl,ef,hos,Bg,hcg,sb,_,S,hR',_⟩
  rw [length_map] at hos hcg hR'
  exact ⟨_,rfl,k lf G os a' c' hlfH ef hos ⟨_,by unfold cntF; rw [if_pos hos,hR']; rfl⟩ Bg hcg sb⟩
end
theorem ZhO {R:V->PyData->Prop} {B:PyData->Prop}:∀ {ys:List V},(∀ y∈ys,∃ d,R y d/\B d)->∃ ds,Paired R ys ds/\ds.length=ys.length/\∀ d∈ds,B d
 | [],_=>⟨[],.nil,rfl,λ_ h=>nomatch h⟩
 | y :: ys,h=>by
  obtain ⟨d,h1,h2⟩:=h y (mem_cons_self ..)
  obtain ⟨ds,h3,h4,h5⟩:=ZhO λz hz=>h z (mem_cons_of_mem _ hz)
  exact ⟨d :: ds,.cons h1 h3,by rw [length_cons,length_cons,h4],λe he=>(List.mem_cons.mp he).elim (λq=>q ▸ h2) (h5 e)⟩
def RdY (N:Addr->Prop) (H:Hp) (n B:Nat) (y:V):Prop:=∃ d,RdN N H n y d/\d.shown.length<=B
theorem RdY.list {N:Addr->Prop} {H:Hp} {n m B:Nat} {l:Addr} {ys:List V} (hN:¬ N l) (e:H l=some (.lst ys)) (hl:ys.length<=m) (h:∀ y∈ys,RdY N H n B y):RdY N H (n+1) (m * (B+2)+3) (.ref l):=by
 obtain ⟨ds,h1,h2,h3⟩:=ZhO h
 exact ⟨.list ds,.inr ⟨l,ys,ds,rfl,hN,h1,.inl ⟨e,rfl⟩⟩,Zel h3 (by omega)⟩
theorem Zmc {N:Addr->Prop} {H:Hp} {g:Int} (h:g.natAbs<10 ^ 12):RdY N H 0 13 (.int g):=⟨.int g,⟨rfl,by
 have:g.natAbs.log2<=g.natAbs:=Nat.log2_le_self _
 by_cases z:g.natAbs=0
 .rw [z]; decide
 .exact Nat.lt_of_lt_of_le ((Nat.log2_lt z).mpr (Nat.lt_trans h (by decide:10 ^ 12<2 ^ 40))) (by decide)⟩,PyData.shown_int_le h⟩
section
def ZgQ (K:W.Frag):Sp:=λvs H Q _=>∃ (b:Addr) (a q c:Int),vs=[.ref b]/\BoxAt H b a q c/\c<300000000/\Tb K H/\∀ H',SB b H H'->Q (.bl true) H'
def Wk (sh pl:Int) (row:List Int) (x:Int):Prop:=∀ ms:List Nat,(∀ y∈ms,y<row.length)->(row.length:Int) - x<=bndF sh pl row ms
theorem ZmU {sh pl:Int} {ru:Str} {row:List Int} (hp:1<=pl):Wk sh pl row (missF sh pl ru row):=λms hm=>ZhM hp (ZnY sh pl ru row hp) ms hm
def OrdAt (sh pl:Int) (row:List Int) (G:Hp) (d:Addr):Prop:=∃ os:List (Option Int),G d=some (.lst (os.map optV))/\os.length=row.length/\∃ c,cntF sh pl row os=some c
def MkAt (row:List Int) (G:Hp) (d:Addr):Prop:=∃ ms:List Nat,G d=some (.lst (mV ms))/\(∀ x∈ms,x<row.length)/\ms.length<=900
theorem MkAt.same {row:List Int} {G G':Hp} {d:Addr} (h:MkAt row G d) (s:Same G G'):MkAt row G' d:=let ⟨ms,h1,h2⟩:=h; ⟨ms,s _ _ h1,h2⟩
theorem Zlx (F:Fun K "_law_right" "_law_right" ZbJ f fd) (T:Txt K mg) (vq_:Def P w K mg base "_law_shape" 2 ZdH Zgy) (vr_:Def P w K mg base "_law_asked" 3 ZdI Zgz) (vl_:Def P w K mg base "misses" 8 Zck (ZjR K)) (vd_:Def P w K mg base "farthest" 8 Zbt (spDue K)) (qt_:Def P w K mg base "_law_drawn_order" 2 ZaI (spDrw K)) (q6_:Def P w K mg base "misses_by" 4 Zbh (spBy K))
  (qz_:Def P w K mg base "_law_some_marks" 2 ZaU (spSm K)) (ve_:Def P w K mg base "marks_of" 3 Zbu (spMks K)) (qu_:Def P w K mg base "bound" 3 ZdF (spBnd K)) (q1_:Def P w K mg base "_law_bound" 1 ZbI (spBnd K)) (vz_:∀ n,Def P w K mg base "_law_same" (n+1) ZcL (ZeS n)):FnOk P w K mg base CX0 9 f fd ZdK (ZgQ K):=by
 refine F.ok sc_right (λvs H Q E h=>?_) (λcdv A outer st H vs Q E hr h=>?_)
 .obtain ⟨b,a,q,c,rfl,_⟩:=h
  rfl
 obtain ⟨b,a,q,c,rfl,B,hc,tb,k⟩:=h
 have ntb:tabOf K "Room" "going" ≠ b:=ne_of tb B.1 (by intro z; cases z)
 have nd:=sc_right.nd
 have hu:=hu_of hr
 have qv_:=vz_ 1
 refine ⟨_,(Zf (Zca (Zm vq_ hr.m rfl (pc (pv 0) Zd)) (Zap (K:=K) (n:=3) rfl rfl (Zt (pgn 1 nd) (Zt (pgn 2 nd) (Zt (pgn 3 nd) Zan)))))
   (Zf (pst 4 nd (Zm vr_ hr.m rfl (pc (pv 0) (pc Zi (pc Zi Zd)))))
   (Zf (pst 5 nd (Zaw (Zbz (K:=K) rfl) rfl T.qo_ Zau (pc (pv 4) Zd)))
   (Zf (pst 6 nd (Zz (pc (Zm vl_ hr.m rfl (pc (pv 1) (pc (pv 2) (pc (pv 3) (pc (pv 4) Zd))))) Zd)))
   (Zf (Zba PassesOwn.never rfl (Zaf (K:=K) rfl (pe_op ZiO (Zz (pc (Zm vd_ hr.m rfl (pc (pv 1) (pc (pv 2) (pc (pv 4) Zd)))) Zd)) (ZaV (Zw (osc:=(Zg ZbJ)) (oN:=Zgw) (N:=["_law_k", "_law_box_here", "_law_shelves", "_law_places", "_law_row"]) (own:=1) (js:=[0,1,2,4]) (by decide +kernel) rfl rfl) rfl (ZW rfl T.qh_ (pc Zi Zd)) (λ_ _ _ _ _ _=>(pgn 0 (show List.Nodup (["_law_k", "_law_box_here", "_law_shelves", "_law_places", "_law_row"]:List Str) by decide +kernel))) (λ_ _ _ _ _ _=>(Zm qt_ hr.m rfl (pc (pv 1) (pc (pv 2) (pc (pv 3) (pc (pv 4) Zd))))))))) (pgn 7 nd) (Zj (ZA (ZaJ (K:=K) rfl (pe_bm PySem.F.plainAttrs_list PySem.F.slot_list_append PySem.F.type_list_append ZB (pv 6) (pc (Zm q6_ hr.m rfl (pc (pv 1) (pc (pv 2) (pc (pv 4) (pc (pv 7) Zd))))) Zd))))))
   (Zf (pst 8 nd (pe_op Zbo (Zk (Zl (K:=K) rfl) rfl T.qf_ PySem.boot_len (pc (pv 4) Zd)) (Zk (Zjr rfl rfl) rfl T.vo_ ZeC (pc (pv 6) Zd))))
   (Zf (Zba PassesOwn.never rfl (Zaf (K:=K) rfl (pe_op ZiO (ZaV (Zw (osc:=(Zg ZbJ)) (oN:=Zgw) (N:=["_law_turn", "_law_box_here", "_law_row"]) (own:=1) (js:=[0,4]) (by decide +kernel) rfl rfl) rfl (ZW rfl T.qh_ (pc Zi Zd)) (λ_ _ _ _ _ _=>(pgn 0 (show List.Nodup (["_law_turn", "_law_box_here", "_law_row"]:List Str) by decide +kernel))) (λ_ _ _ _ _ _=>(Zm qz_ hr.m rfl (pc (pv 1) (pc (pv 2) Zd))))) (Zz (pc (Zm ve_ hr.m rfl (pc (pv 1) (pc (pv 2) (pc (pv 4) Zd)))) (pc (Zz Zd) Zd))))) (pgn 9 nd) (Zf (pst 10 nd (Zaw (ZfI hr.gd (hu_to hr 20 (by decide))) rfl T.vb_ ZbF (pc (Zz (pc (pv 4) (pc (pv 9) Zd))) Zd)))
   (Zf (pst 11 nd (Zm qu_ hr.m rfl (pc (pv 1) (pc (pv 2) (pc (pv 4) (pc (pv 9) Zd))))))
   (Zf (ps_if (PW.pt (pw_or (ZcG (Zbn (Zm qv_ hr.m rfl (pc (pv 11) (pc (Zm q1_ hr.m rfl (pc (pv 1) (pc (pv 2) (pc (pv 4) (pc (pv 9) Zd))))) Zd))))) (ZcF (Zs op_lt (pv 11) (pv 8) (Zv _))))) (Zj (Zu pe_bl)) Zy)
   (Zf (pst 12 nd (ZaC (Zs op_lt (pv 1) Zi (Zv _)) (pe_op Zaa (pv 1) Zi) Zi))
   (Zf (pst 13 nd (Zz (pc (Zm qu_ hr.m rfl (pc (pv 12) (pc (pv 2) (pc (pv 4) (pc (pv 9) Zd))))) (pc (Zm qu_ hr.m rfl (pc (pv 1) (pc (pv 2) (pc (pv 4) (pc (pv 9) Zd))))) Zd))))
   (Zf (ps_if (ZcG (Zbn (Zm qv_ hr.m rfl (pc (pv 13) (pc (Zz (pc (Zm q1_ hr.m rfl (pc (pv 12) (pc (pv 2) (pc (pv 4) (pc (pv 9) Zd))))) (pc (pv 11) Zd))) Zd))))) (Zj (Zu pe_bl)) Zy)
   (Zj (ps_if (Zs op_ne (Zaw (ZfI hr.gd (hu_to hr 20 (by decide))) rfl T.vb_ ZbF (pc (Zz (pc (pv 4) (pc (pv 9) Zd))) Zd)) (pv 10) (Zv _)) (Zj (Zu pe_bl)) Zy)))))))))
   (Zf (ps_if (Zs (ZlG (K:=K) (Nat.lt_of_succ_lt hu) rfl) (pv 4) (pv 5) (Zv _)) (Zj (Zu pe_bl)) Zy)
   (Zj (Zu (Zm qv_ hr.m rfl (pc (Zm qu_ hr.m rfl (pc (pv 1) (pc (pv 2) (pc (Zz Zd) (pc (Zz Zd) Zd))))) (pc Zi Zd))))))))))))),?_⟩
 refine hide λu1 ee=>?_
 refine ⟨_,rfl,b,a,q,c,rfl,B,by omega,λp sh pl ru a1 c1 H1 e1 sh0 sh1 pl0 pl1 hru B1 hc1 s1=>⟨p,_,rfl,SqT.of e1,rfl,_,_,rfl,gN ⟨_,_,rfl,gN ⟨_,_,rfl,gN ⟨rfl,?_⟩⟩⟩⟩⟩
 subst ee
 try dsimp only
 refine hide λu1 ee=>?_
 refine ⟨_,rfl,b,a1,q,c1,40,80,rfl,B1,by omega,by decide,by decide,by decide,λlr row a2 c2 H2 hlr e2 len2 bd B2 hc2 s2=>gN ?_⟩
 subst ee
 try dsimp only
 have u2:=s1.trans s2
 have nlr:lr≠b:=Ne.symm (Zb B1.at' hlr)
 refine hide λu1 ee=>?_
 refine ⟨_,rfl,lr,_,rfl,.inl (SqL.of e2),λlk hlk=>gN ?_⟩
 have g4:=Zc hlk (.lst (row.map V.int)) _ _ e2
 have g5:upd H2 lk (.lst (row.map V.int)) lk=some (.lst (row.map V.int)):=Za
 have u5:SB b H (upd H2 lk (.lst (row.map V.int))):=u2.trans ((Zc hlk _).sb b)
 have nlk:lk≠b:=Ne.symm (Zb B2.at' hlk)
 have B5:=B2.same (Zc hlk (.lst (row.map V.int)))
 have tb5:Tb K (upd H2 lk (.lst (row.map V.int))):=u5 _ _ ntb tb
 subst ee
 try dsimp only
 generalize upd H2 lk (.lst (row.map V.int))=H5 at *
 clear s1 s2 u2 B B1 B2 e1 e2 hlr hlk
 refine hide λu1 ee=>?_
 refine ⟨_,rfl,_,rfl,_,rfl,_,rfl,sh,pl,ru,lr,row,rfl,SqL.of g4,sh0,sh1,pl0,pl1,hru,by omega,bd,tb5,λH6 t6=>⟨(sl 1),λlm hlm=>gN ?_⟩⟩
 have s7:=t6.trans (Zc (H:=H6) hlm (.lst [V.int (missF sh pl ru row)]))
 have gm:upd H6 lm (.lst [V.int (missF sh pl ru row)]) lm=some (.lst ([(missF sh pl ru row:Int)].map V.int)):=Za
 have nmb:lm≠b:=Ne.symm (Zb (t6 _ _ B5.at') hlm)
 have hlm5:H5 lm=none:=t6.free hlm
 have nrm:lr≠lm:=Zb g4 hlm5
 have nkm:lk≠lm:=Zb g5 hlm5
 subst ee
 try dsimp only
 generalize upd H6 lm (.lst [V.int (missF sh pl ru row)])=H7 at *
 have w1:=ZmU (sh:=sh) (ru:=ru) (row:=row) pl0
 generalize (missF sh pl ru row:Int)=m1 at *
 have g4:=s7 _ _ g4
 have g5:=s7 _ _ g5
 have B7:=B5.same s7
 have u7:SB b H H7:=u5.trans (s7.sb b)
 have tb7:Tb K H7:=u7 _ _ ntb tb
 have hlmH:H lm=none:=ZcZ u5 B5.at' hlm5
 clear t6 s7 B5 u5 tb5 hlm hlm5
 refine hide λu1 ee=>?_
 refine ⟨_,rfl,_,rfl,_,rfl,sh,pl,lr,row,rfl,SqL.of g4,sh0,sh1,pl0,pl1,by omega,bd,λlo H8 hlo t8 e8=>⟨(sl 1),λl1 hl1=>?_⟩⟩
 obtain ⟨c0,f0,_⟩:=Zls (sh:=sh) pl0 row
 have O8:OrdAt sh pl row H8 lo:=⟨_,e8,Zka ..,c0,f0⟩
 have nob:lo≠b:=Ne.symm (Zb B7.at' hlo)
 have nom:lo≠lm:=Ne.symm (Zb gm hlo)
 have s9:=t8.trans (Zc (H:=H8) hl1 (.lst [V.ref lo]))
 have o9:OrdAt sh pl row (upd H8 l1 (.lst [V.ref lo])) lo:=by
  obtain ⟨os,h1,h2⟩:=O8
  exact ⟨os,Zc hl1 _ _ _ h1,h2⟩
 have e9:upd H8 l1 (.lst [V.ref lo]) l1=some (.lst [V.ref lo]):=Za
 have n1b:l1≠b:=Ne.symm (Zb (t8 _ _ B7.at') hl1)
 generalize upd H8 l1 (.lst [V.ref lo])=H9 at *
 clear t8 e8 O8 hl1
 have g4:=s9 _ _ g4
 have g5:=s9 _ _ g5
 have gm:=s9 _ _ gm
 have B9:=B7.same s9
 have u9:SB b H H9:=u7.trans (s9.sb b)
 clear s9 B7 u7 tb7
 refine ⟨_,rfl,by decide,by decide,λl2 hl2=>?_⟩
 have n2b:l2≠b:=Ne.symm (Zb B9.at' hl2)
 refine Zav (lo:=0) (n:=(3:Int).toNat) (l:=l2) (λj ys σ G=>∃ (v0:Option V) (ds:List Addr) (a' c':Int),σ=[v0,some (.ref b),some (.int sh),some (.int pl),some (.ref lr)]/\ys=ds.map V.ref/\ds.length=j/\G l2=some (.lst ys)/\(∀ d∈ds,OrdAt sh pl row G d/\d≠b/\d≠l2/\d≠lm)/\BoxAt G b a' q c'/\c'<=c2+200 * (j:Int)/\SB b H9 G)
  ⟨none,[],a2,c2,rfl,rfl,rfl,Za,λd h=>(nomatch h),B9.same (Zc hl2 _),by omega,(Zc hl2 _).sb b⟩ ?_ ?_
 .rintro j ys σ G hj hys ⟨v0,ds,a',c',rfl,rfl,hdl,gl,hds,Bg,hcg,sb⟩
  have hj3:j<3:=hj
  refine ⟨_,rfl,_,rfl,_,rfl,_,rfl,b,lr,a',q,c',sh,pl,row,rfl,Bg,by omega,sb _ _ nlr g4,nlr,by omega,sh0,pl0,λD G2 os a3 c3 hD eD lD fit B3 hc3 t3=>?_⟩
  have nDb:D≠b:=Ne.symm (Zb Bg.at' hD)
  have nD2:D≠l2:=Ne.symm (Zb gl hD)
  have nDm:D≠lm:=Ne.symm (Zb (sb _ _ nmb gm) hD)
  refine CNx.of (sl 3) hj hys (t3 _ _ n2b gl) ⟨_,ds++[D],a3,c3,rfl,by rw [map_append]; rfl,by rw [length_append,hdl]; rfl,Za,λd hd=>?_,⟨by rw [Ze (Ne.symm n2b)]; exact B3.at',B3.a0,B3.q0,B3.q1,B3.c0⟩,by omega,λx o nx e=>by rw [Ze (Zb e hl2)]; exact t3 _ _ nx (sb _ _ nx e)⟩
  rcases List.mem_append.mp hd with hd | hd
  .obtain ⟨⟨os',h1,h2⟩,h3,h4,h5⟩:=hds d hd
   exact ⟨⟨os',by rw [Ze h4]; exact t3 _ _ h3 h1,h2⟩,h3,h4,h5⟩
  .have e:d=D:=by simpa using hd
   subst e
   exact ⟨⟨os,by rw [Ze nD2]; exact eD,lD,fit⟩,nDb,nD2,nDm⟩
 rintro ys σ G _ ⟨v0,ds,a',c',rfl,rfl,hdl,gl,hds,Bg,hcg,sb⟩
 have g4:=sb _ _ nlr g4
 have g5:=sb _ _ nlk g5
 have gm:=sb _ _ nmb gm
 have e9:=sb _ _ n1b e9
 have o9:OrdAt sh pl row G lo:=by
  obtain ⟨os,h1,h2⟩:=o9
  exact ⟨os,sb _ _ nob h1,h2⟩
 have u10:SB b H G:=u9.trans sb
 clear sb u9 B9 hl2
 refine ⟨l1,l2,_,_,rfl,rfl,e9,gl,(by rw [length_map,hdl]; show 4<=sizeLine; decide),λl3 hl3=>?_⟩
 have n3m:l3≠lm:=Ne.symm (Zb gm hl3)
 have s11:=Zc (H:=G) hl3 (.lst ([V.ref lo]++ds.map V.ref))
 have e11:upd G l3 (.lst ([V.ref lo]++ds.map V.ref)) l3=some (.lst ((lo :: ds).map V.ref)):=Za
 have all11:∀ d∈lo :: ds,OrdAt sh pl row (upd G l3 (.lst ([V.ref lo]++ds.map V.ref))) d/\d≠lm:=λd hd=>by
  rcases List.mem_cons.mp hd with rfl | hd
  .obtain ⟨os,h1,h2⟩:=o9
   exact ⟨⟨os,s11 _ _ h1,h2⟩,nom⟩
  .obtain ⟨⟨os,h1,h2⟩,_,_,h5⟩:=hds d hd
   exact ⟨⟨os,s11 _ _ h1,h2⟩,h5⟩
 generalize upd G l3 (.lst ([V.ref lo]++ds.map V.ref))=H11 at *
 have g4:=s11 _ _ g4
 have g5:=s11 _ _ g5
 have gm:=s11 _ _ gm
 have B11:=Bg.same s11
 have u11:SB b H H11:=u10.trans (s11.sb b)
 clear s11 Bg u10 hds o9 e9 gl
 generalize hdd:lo :: ds=dd at *
 have lD:dd.length=4:=by rw [← hdd,length_cons,hdl]; rfl
 refine ⟨l3,rfl,⟨_,SqL.of e11⟩,Zev (K:=K) (a:=l3) (xs:=dd.map V.ref) (λi σ G=>∃ (v7:Option V) (ns:List Int),σ=[some (.ref b),some (.int sh),some (.int pl),some (.str ru),some (.ref lr),some (.ref lk),some (.ref lm),v7,none,none,none,none,none,none]/\G lm=some (.lst (ns.map V.int))/\ns.length=i+1/\(∀ x∈ns,Wk sh pl row x)/\∀ x o,H11 x=some o->x≠lm->G x=some o)
  ⟨none,[m1],rfl,gm,rfl,λx hx=>by rw [List.mem_singleton.mp hx]; exact w1,λx o e _=>e⟩ (λi σ G _ h=>by obtain ⟨_,_,_,_,_,_,s⟩:=h; exact SqL.of (s _ _ e11 n3m)) ?_ ?_⟩
 .rintro i x σ G hx ⟨v7,ns,rfl,gG,hnl,hW,sG⟩
  rw [getElem?_map] at hx
  cases ed:dd[i]? with
  | none=>rw [ed] at hx; cases hx
  | some d =>
   rw [ed] at hx
   cases hx
   have hi:i<dd.length:=(List.getElem?_eq_some_iff.mp ed).1
   obtain ⟨⟨os,h1,h2,cc,h3⟩,h4⟩:=all11 d (mem_of_getElem? ed)
   refine gN ⟨_,rfl,.inl ⟨rfl,_,SqL.of gG⟩,_,rfl,_,rfl,_,rfl,_,rfl,sh,pl,lr,d,row,os,cc,rfl,SqL.of (sG _ _ g4 nrm),sG _ _ h1 h4,sh0,sh1,by omega,h3,λG2 t2=>⟨lm,_,_,rfl,rfl,t2 _ _ gG,Zn (by rw [length_map]; omega),⟨_,ns++[cc],rfl,by rw [Za,map_append]; rfl,by rw [length_append,hnl]; rfl,λx hx=>?_,λx o e n=>by rw [Ze n]; exact t2 _ _ (sG _ _ e n)⟩⟩⟩
   rcases List.mem_append.mp hx with hx | hx
   .exact hW x hx
   .rw [List.mem_singleton.mp hx]
    exact λms hm=>ZhM pl0 h3 ms hm
 rintro σ G12 ⟨v7,ns,rfl,gG,hnl,hW,sG⟩
 subst ee
 try dsimp only
 refine hide λu1 ee=>?_
 refine ⟨_,rfl,lr,_,rfl,.inl (SqL.of (sG _ _ g4 nrm)),_,rfl,lm,ns,rfl,SqL.of gG,(λz=>by rw [z] at hnl; cases hnl),λmn hmn hmin=>⟨_,_,rfl,rfl,gN ?_⟩⟩
 have hw:=hW mn hmn
 rw [length_map]
 have g4:=sG _ _ g4 nrm
 have g5:=sG _ _ g5 nkm
 have B12:BoxAt G12 b a' q c':=⟨sG _ _ B11.at' (Ne.symm nmb),B11.a0,B11.q0,B11.q1,B11.c0⟩
 have u12:SB b H G12:=λx o nx e=>sG _ _ (u11 _ _ nx e) (Zb e hlmH)
 clear sG B11 u11 gm all11 gG hW hmin hmn hnl e11 o9
 subst ee
 try dsimp only
 generalize hmost:((row.length:Nat):Int) - mn=most at *
 refine hide λu1 ee=>?_
 refine ⟨_,rfl,by decide,by decide,λl4 hl4=>?_⟩
 have n4b:l4≠b:=Ne.symm (Zb B12.at' hl4)
 refine Zav (lo:=0) (n:=(4:Int).toNat) (l:=l4) (λj ys σ G=>∃ (v0:Option V) (ds:List Addr) (a' c3:Int),σ=[v0,some (.ref b),some (.ref lr)]/\ys=ds.map V.ref/\ds.length=j/\G l4=some (.lst ys)/\(∀ d∈ds,MkAt row G d/\d≠b/\d≠l4)/\BoxAt G b a' q c3/\c3<=c'+200 * (j:Int)/\SB b G12 G)
  ⟨none,[],a',c',rfl,rfl,rfl,Za,λd h=>(nomatch h),B12.same (Zc hl4 _),by omega,(Zc hl4 _).sb b⟩ ?_ ?_
 .rintro j ys σ G hj hys ⟨v0,ds,a6,c6,rfl,rfl,hdl',gl,hds,Bg,hcg',sb⟩
  have hj4:j<4:=hj
  refine ⟨_,rfl,_,rfl,b,lr,a6,q,c6,row,rfl,Bg,by omega,sb _ _ nlr g4,nlr,by omega,λD G2 ms a3 c3 hD eD lD fit lms B3 hc3 t3=>?_⟩
  have nDb:D≠b:=Ne.symm (Zb Bg.at' hD)
  have nD2:D≠l4:=Ne.symm (Zb gl hD)
  refine CNx.of (sl 4) hj hys (t3 _ _ n4b gl) ⟨_,ds++[D],a3,c3,rfl,by rw [map_append]; rfl,by rw [length_append,hdl']; rfl,Za,λd hd=>?_,⟨by rw [Ze (Ne.symm n4b)]; exact B3.at',B3.a0,B3.q0,B3.q1,B3.c0⟩,by omega,λx o nx e=>by rw [Ze (Zb e hl4)]; exact t3 _ _ nx (sb _ _ nx e)⟩
  rcases List.mem_append.mp hd with hd | hd
  .obtain ⟨⟨ms',h1,h2⟩,h3,h4⟩:=hds d hd
   exact ⟨⟨ms',by rw [Ze h4]; exact t3 _ _ h3 h1,h2⟩,h3,h4⟩
  .have e:d=D:=by simpa using hd
   subst e
   exact ⟨⟨ms,by rw [Ze nD2]; exact eD,lD,by omega⟩,nDb,nD2⟩
 rintro ys σ G _ ⟨v0,ds',a6,c6,rfl,rfl,hdl',gl,hds,Bg,hcg',sb⟩
 have g4:=sb _ _ nlr g4
 have g5:=sb _ _ nlk g5
 have u13:SB b H G:=u12.trans sb
 have mk13:∀ d∈ds',MkAt row G d:=λd hd=>(hds d hd).1
 clear sb u12 B12 hl4 hds
 refine ⟨_,rfl,_,rfl,_,rfl,sh,pl,lr,row,rfl,SqL.of g4,sh0,by omega,λlz G2 os hlz t2 ez hper _=>⟨(sl 0),λle hle=>⟨(sl 2),λl5 hl5=>?_⟩⟩⟩
 have s14:=(t2.trans (Zc (H:=G2) hle (.lst []))).trans (Zc hl5 (.lst [V.ref lz,V.ref le]))
 have mz:MkAt row (upd (upd G2 le (.lst [])) l5 (.lst [V.ref lz,V.ref le])) lz:=⟨os,Zc hl5 _ _ _ (Zc hle _ _ _ ez),λx hx=>by
  obtain ⟨s,_,hs⟩:=List.mem_flatMap.mp (hper.mem_iff.mp hx)
  exact (ZmT hs).1,by
  rw [hper.length_eq]
  have:=ZgO (sh:=sh) (pl:=pl) (row:=row) (ksF sh row) (by have:=(ZhJ sh row row.length (Nat.le_refl _)).1; rwa [take_length] at this)
  have e:(ksF sh row).flatMap (mkS sh pl row)=catF sh pl row:=rfl
  rw [e] at this
  omega⟩
 have me:MkAt row (upd (upd G2 le (.lst [])) l5 (.lst [V.ref lz,V.ref le])) le:=⟨[],Zc hl5 _ _ _ Za,λx h=>(nomatch h),Nat.zero_le _⟩
 have e5:upd (upd G2 le (.lst [])) l5 (.lst [V.ref lz,V.ref le]) l5=some (.lst [V.ref lz,V.ref le]):=Za
 generalize upd (upd G2 le (.lst [])) l5 (.lst [V.ref lz,V.ref le])=H14 at *
 have g4:=s14 _ _ g4
 have g5:=s14 _ _ g5
 have gl:=s14 _ _ gl
 have mk14:∀ d∈ds',MkAt row H14 d:=λd hd=>(mk13 d hd).same s14
 have u14:SB b H H14:=u13.trans (s14.sb b)
 clear mk13 u13 s14 t2 ez
 refine ⟨l4,l5,_,_,rfl,rfl,gl,e5,(by rw [length_map,hdl']; show 6<=sizeLine; decide),λl6 hl6=>?_⟩
 have s15:=Zc (H:=H14) hl6 (.lst (ds'.map V.ref++[V.ref lz,V.ref le]))
 have e6:upd H14 l6 (.lst (ds'.map V.ref++[V.ref lz,V.ref le])) l6=some (.lst ((ds'++[lz,le]).map V.ref)):=by rw [Za,map_append]; rfl
 have mk15:∀ d∈ds'++[lz,le],MkAt row (upd H14 l6 (.lst (ds'.map V.ref++[V.ref lz,V.ref le]))) d:=λd hd=>by
  rcases List.mem_append.mp hd with hd | hd
  .exact (mk14 d hd).same s15
  .rcases List.mem_cons.mp hd with rfl | hd
   .exact mz.same s15
   .rw [List.mem_singleton.mp hd]; exact me.same s15
 generalize upd H14 l6 (.lst (ds'.map V.ref++[V.ref lz,V.ref le]))=H15 at *
 have g4:=s15 _ _ g4
 have g5:=s15 _ _ g5
 have u15:SB b H H15:=u14.trans (s15.sb b)
 generalize ds'++[lz,le]=dd2 at *
 clear mk14 u14 s15 gl e5 mz me
 refine ⟨l6,rfl,⟨_,SqL.of e6⟩,Zev (K:=K) (a:=l6) (xs:=dd2.map V.ref) (λi σ G=>∃ (v9 v10 v11 v12 v13:Option V),σ=[some (.ref b),some (.int sh),some (.int pl),some (.str ru),some (.ref lr),some (.ref lk),some (.ref lm),v7,some (.int most),v9,v10,v11,v12,v13]/\Same H15 G)
  ⟨none,none,none,none,none,rfl,Same.refl _⟩ (λi σ G _ h=>by obtain ⟨_,_,_,_,_,_,s⟩:=h; exact SqL.of (s _ _ e6)) ?_ ?_⟩
 .rintro i x σ G hx ⟨v9,v10,v11,v12,v13,rfl,sG⟩
  rw [getElem?_map] at hx
  cases ed:dd2[i]? with
  | none=>rw [ed] at hx; cases hx
  | some d =>
   rw [ed] at hx
   cases hx
   obtain ⟨ms,h1,h2,h3⟩:=mk15 d (mem_of_getElem? ed)
   have g4:=sG _ _ g4
   have h1:=sG _ _ h1
   have lms:(mV ms).length=ms.length:=length_map ..
   obtain ⟨d1,r1,b1⟩:RdY (λ_=>False) G 1 (80 * 15+3) (.ref lr):=RdY.list id g4 (by rw [length_map]; omega) λy hy=>by
    obtain ⟨z,hz,rfl⟩:=List.mem_map.mp hy
    have:=bd z hz
    exact Zmc (by omega)
   obtain ⟨d2,r2,b2⟩:RdY (λ_=>False) G 1 (900 * 15+3) (.ref d):=RdY.list id h1 (by omega) λy hy=>by
    obtain ⟨z,hz,rfl⟩:=List.mem_map.mp hy
    have:=h2 z hz
    exact Zmc (by omega)
   have D12:∀ {G':Hp} {p:Addr},Same G G'->G' p=some (.lst [.ref lr,.ref d])->RdN (λ_=>False) G' 2 (.ref p) (.list [d1,d2]):=λ{G' p} s e=>.inr ⟨p,[.ref lr,.ref d],[d1,d2],rfl,id,.cons (r1.keep (λ_ z=>z) λa o _ e=>s a o e) (.cons (r2.keep (λ_ z=>z) λa o _ e=>s a o e) .nil),.inl ⟨e,rfl⟩⟩
   have Dl:(PyData.list [d1,d2]).shown.length<=sizeLine:=Nat.le_trans (Zel (B:=900 * 15+3) (m:=2) (λx hx=>by
    rcases List.mem_cons.mp hx with rfl | hx
    .omega
    .rw [List.mem_singleton.mp hx]; exact b2) (Nat.le_refl 2)) (by rw [sizeLine_eq]; decide)
   generalize hDD:PyData.list [d1,d2]=DD at *
   refine gN ?_
   refine hideD λDz hDz=>?_
   try dsimp only
   refine hide λu1 ee=>?_
   refine ⟨_,rfl,_,rfl,(sl 2),λp hp=>⟨_,p,2,_,rfl,by decide,D12 (Zc hp _) Za,Dl,gN ?_⟩⟩
   have s1:=Zc (H:=G) hp (.lst [V.ref lr,V.ref d])
   generalize upd G p (.lst [V.ref lr,V.ref d])=G1 at *
   have ga:=s1 _ _ g4
   have gb:=s1 _ _ h1
   subst ee
   dsimp only
   refine hide λu1 ee=>?_
   refine ⟨_,rfl,_,rfl,_,rfl,_,rfl,sh,pl,lr,d,row,ms,rfl,SqL.of ga,SqL.of gb,sh0,by omega,h2,h3,λG2 t2=>gN ?_⟩
   subst ee
   dsimp only
   have s2:=s1.trans t2
   clear s1 ga gb
   have wk:=hw ms h2
   have nlt:¬ bndF sh pl row ms<most:=by omega
   refine hide λu1 ee=>?_
   refine cpIfS (λc G'=>c=false/\Same G G') (λQ' k'=>?_) ?_
   .refine ⟨_,rfl,_,rfl,_,rfl,_,rfl,_,rfl,sh,pl,lr,d,row,ms,rfl,SqL.of (s2 _ _ g4),SqL.of (s2 _ _ h1),sh0,by omega,h2,h3,λG3 t3=>⟨_,_,rfl,Eqv.sc (show Sc (V.int (bndF sh pl row ms)) from trivial) 1,λG4 t4=>⟨_,rfl,ifF rfl ⟨_,rfl,_,rfl,_,_,rfl,rfl,_,rfl,?_⟩⟩⟩⟩
    rw [decide_eq_false nlt]
    exact k' _ _ ⟨rfl,(s2.trans t3).trans t4⟩
   rintro _ G4 ⟨rfl,s4⟩
   refine ifF rfl ?_
   subst ee
   dsimp only [tNext]
   clear s2 t2
   refine cpA (λv G'=>(∃ z:Int,v=.int z/\1<=z)/\G'=G4) (λQ' k'=>?_) ?_
   .exact ⟨_,rfl,_,_,rfl,rfl,_,rfl,ZO (λc=>⟨_,rfl,_,_,rfl,rfl,k' _ _ ⟨⟨_,rfl,by omega⟩,rfl⟩⟩) (λc=>k' _ _ ⟨⟨1,rfl,by decide⟩,rfl⟩)⟩
   rintro _ G5 ⟨⟨ot,rfl,ot0⟩,rfl⟩
   refine gN ?_
   try dsimp only
   refine hide λu1 ee=>?_
   refine ⟨_,rfl,_,rfl,_,rfl,_,rfl,ot,pl,lr,d,row,ms,rfl,SqL.of (s4 _ _ g4),SqL.of (s4 _ _ h1),ot0,by omega,h2,h3,λG6 t6=>⟨_,rfl,_,rfl,_,rfl,_,rfl,sh,pl,lr,d,row,ms,rfl,SqL.of (t6 _ _ (s4 _ _ g4)),SqL.of (t6 _ _ (s4 _ _ h1)),sh0,by omega,h2,h3,λG7 t7=>⟨(sl 2),λlt hlt=>gN ?_⟩⟩⟩
   have s8:=((s4.trans t6).trans t7).trans (Zc (H:=G7) hlt (.lst [V.int (bndF ot pl row ms),V.int (bndF sh pl row ms)]))
   have e8:upd G7 lt (.lst [V.int (bndF ot pl row ms),V.int (bndF sh pl row ms)]) lt=some (.lst [V.int (bndF ot pl row ms),V.int (bndF sh pl row ms)]):=Za
   generalize upd G7 lt (.lst [V.int (bndF ot pl row ms),V.int (bndF sh pl row ms)])=G8 at *
   clear t6 t7 hlt s4
   subst ee
   dsimp only
   refine hide λu1 ee=>?_
   refine cpIfS (λc G'=>c=false/\Same G G') (λQ' k'=>?_) ?_
   .refine ⟨_,rfl,_,rfl,_,rfl,_,rfl,_,rfl,ot,pl,lr,d,row,ms,rfl,SqL.of (s8 _ _ g4),SqL.of (s8 _ _ h1),ot0,by omega,h2,h3,λG9 t9=>⟨_,rfl,(sl 2),λl9 hl9=>⟨_,_,rfl,Eqv.flatN 0 (Zc hl9 _ _ _ (t9 _ _ e8)) Za (by show 2<=1000; decide) (λx hx=>?_),λG10 t10=>⟨_,rfl,k' _ _ ⟨rfl,((s8.trans t9).trans (Zc hl9 _)).trans t10⟩⟩⟩⟩⟩
    rcases List.mem_cons.mp hx with rfl | hx
    .exact trivial
    .rw [List.mem_singleton.mp hx]; exact trivial
   rintro _ G9 ⟨rfl,s9⟩
   refine ifF rfl ?_
   subst ee
   dsimp only [tNext]
   refine ⟨_,rfl,_,rfl,(sl 2),λp2 hp2=>⟨_,p2,2,_,rfl,by decide,D12 (s9.trans (Zc hp2 _)) Za,Dl,_,rfl,rfl,_,rfl,ifF (by simp) (hDz _ _ ⟨_,_,_,_,_,rfl,(sG.trans s9).trans (Zc hp2 _)⟩)⟩⟩
 rintro σ G ⟨v9,v10,v11,v12,v13,rfl,sG⟩
 subst ee
 try dsimp only
 refine ⟨_,rfl,_,rfl,lr,lk,row,row,rfl,rfl,SqL.of (sG _ _ g4),SqL.of (sG _ _ g5),_,rfl,ifF (by simp) ?_⟩
 refine ⟨_,rfl,_,rfl,(sl 0),λx1 hx1=>⟨(sl 0),λx2 hx2=>⟨sh,pl,x1,x2,[],[],rfl,SqL.of (Zc hx2 _ _ _ Za),SqL.of Za,sh0,by decide,λx h=>(nomatch h),Nat.zero_le _,λG2 t2=>⟨_,_,rfl,?_,λG3 t3=>k _ ?_⟩⟩⟩⟩
 .have e:bndF sh pl [] []=0:=by
   unfold bndF
   show (pl - 1) * ((0:Nat):Int)+((0:Nat):Int)=0
   simp
  rw [e]
  exact Eqv.sc (show Sc (V.int 0) from trivial) 1
 .intro x o nx e
  exact t3 _ _ (t2 _ _ (Zc hx2 _ _ _ (Zc hx1 _ _ _ (sG _ _ (u15 _ _ nx e)))))
end
section
def spLaw (K:W.Frag):Sp:=λvs H Q _=>∃ (a:Addr) (ns:List Int),vs=[.ref a]/\SqL K H a (ns.map V.int)/\ns.length<=63/\Tb K H/\∀ H',Q (.bl true) H'
theorem ZnZ (F:Fun K "law" "law" s_law f fd) (T:Txt K mg) (vy_:Def P w K mg base "_law_box" 1 P_box (spBox K)) (vm_:Def P w K mg base "_law_folded" 1 Zcm (ZeQ K)) (vs_:Def P w K mg base "_law_right" 9 ZdK (ZgQ K)):FnOk P w K mg base CX0 10 f fd P_law (spLaw K):=by
 refine F.ok sc_law (λvs H Q E h=>?_) (λcdv A outer st H vs Q E hr h=>?_)
 .obtain ⟨a,ns,rfl,_⟩:=h
  rfl
 obtain ⟨a,ns,rfl,hS,h63,tb,k⟩:=h
 have nd:=sc_law.nd
 have hu:=hu_of hr
 refine ⟨_,(Zf (pst 1 nd (Zm vm_ hr.m rfl (pc (pv 0) (pc Zi Zd))))
   (Zj (Zu (Zk (Zfv rfl) rfl T.vu_ Zhf (pc (ZaV (Zw (osc:=(Zg s_law)) (oN:=N_law) (N:=["_law_k", "_law_cells"]) (own:=1) (js:=[1]) (by decide +kernel) rfl rfl) rfl (ZW rfl T.qh_ (pc (Zk (Zfh rfl) rfl T.vn_ ZeB (pc Zi (pc (Zk (Zl (K:=K) rfl) rfl T.qf_ PySem.boot_len (pc (pv 1) Zd)) Zd))) Zd)) (λ_ _ _ _ _ _=>(pgn 0 (show List.Nodup (["_law_k", "_law_cells"]:List Str) by decide +kernel))) (λ_ _ _ _ _ _=>(Zm vs_ hr.m rfl (pc (Zm vy_ hr.m rfl (pc (pv 1) (pc (pv 0) Zd))) Zd)))) Zd))))),?_⟩
 refine ⟨_,rfl,a,ns,6,rfl,hS,h63,by decide,by decide,λr ms H1 hr' s1 e1 lm=>?_⟩
 have lc:(if ((ms.map V.int).length:Int) > 2 then ((ms.map V.int).length:Int) else 2)<=63:=by rw [length_map]; split <;> omega
 refine ⟨_,rfl,r,_,rfl,.inl (SqL.of e1),_,_,rfl,_,rfl,?_,?_,λl hl'=>?_⟩
 .split <;> omega
 .omega
 generalize (if ((ms.map V.int).length:Int) > 2 then ((ms.map V.int).length:Int) else 2)=n at *
 have n63:n.toNat<=63:=by omega
 have nrl:r≠l:=Zb e1 hl'
 have tb1:=tb.same s1
 have ntl:tabOf K "Room" "going" ≠ l:=Zb tb1 hl'
 refine Zav (lo:=0) (n:=n.toNat) (l:=l) (λj ys σ G=>∃ v0:Option V,σ=[v0,some (.ref r)]/\ys=(List.replicate j true).map V.bl/\G l=some (.lst ys)/\G r=some (.lst (ms.map V.int))/\Tb K G)
  ⟨none,rfl,rfl,Za,by rw [Ze nrl]; exact e1,by unfold Tb; rw [Ze ntl]; exact tb1⟩ ?_ ?_
 .rintro j ys σ G hj hy ⟨v0,rfl,rfl,g1,g2,g3⟩
  refine ⟨_,rfl,_,rfl,r,ms,_,rfl,SqL.of g2,by omega,by omega,λb ba bq G1 hb t1 B1=>?_⟩
  refine ⟨b,ba,bq,0,rfl,B1,by decide,g3.same t1,λG2 t2=>?_⟩
  have nlb:l≠b:=Zb g1 hb
  have nrb:r≠b:=Zb g2 hb
  have ntb:tabOf K "Room" "going" ≠ b:=Zb g3 hb
  refine CNx.of (Nat.le_trans n63 (by decide)) hj hy (t2 _ _ nlb (t1 _ _ g1)) ⟨_,rfl,by rw [List.replicate_succ',map_append]; rfl,Za,?_,?_⟩
  .rw [Ze nrl]
   exact t2 _ _ nrb (t1 _ _ g2)
  .unfold Tb
   rw [Ze ntl]
   exact t2 _ _ ntb (t1 _ _ g3)
 .rintro ys σ G hy ⟨v0,rfl,rfl,g1,g2,g3⟩
  refine ⟨l,_,rfl,SqL.of g1,?_⟩
  rw [show (List.replicate n.toNat true).all id=true by rw [all_eq_true]; intro z hz; rw [(List.mem_replicate.mp hz).2]; rfl]
  exact k G
end
theorem ln1 {fn:FuncData} {ps:List Str} {us:List Value} (hl:us.length=1) (h:∀ v0,bindArgs fn ⟨[v0],[]⟩=pure (ps.zip [v0])):bindArgs fn ⟨us,[]⟩=pure (ps.zip us):=match us,hl with | [v0],_=>(h v0)
theorem ln2 {fn:FuncData} {ps:List Str} {us:List Value} (hl:us.length=2) (h:∀ v0 v1,bindArgs fn ⟨[v0,v1],[]⟩=pure (ps.zip [v0,v1])):bindArgs fn ⟨us,[]⟩=pure (ps.zip us):=match us,hl with | [v0,v1],_=>(h v0 v1)
theorem ln3 {fn:FuncData} {ps:List Str} {us:List Value} (hl:us.length=3) (h:∀ v0 v1 v2,bindArgs fn ⟨[v0,v1,v2],[]⟩=pure (ps.zip [v0,v1,v2])):bindArgs fn ⟨us,[]⟩=pure (ps.zip us):=match us,hl with | [v0,v1,v2],_=>(h v0 v1 v2)
theorem ln4 {fn:FuncData} {ps:List Str} {us:List Value} (hl:us.length=4) (h:∀ v0 v1 v2 v3,bindArgs fn ⟨[v0,v1,v2,v3],[]⟩=pure (ps.zip [v0,v1,v2,v3])):bindArgs fn ⟨us,[]⟩=pure (ps.zip us):=match us,hl with | [v0,v1,v2,v3],_=>(h v0 v1 v2 v3)
theorem ln5 {fn:FuncData} {ps:List Str} {us:List Value} (hl:us.length=5) (h:∀ v0 v1 v2 v3 v4,bindArgs fn ⟨[v0,v1,v2,v3,v4],[]⟩=pure (ps.zip [v0,v1,v2,v3,v4])):bindArgs fn ⟨us,[]⟩=pure (ps.zip us):=match us,hl with | [v0,v1,v2,v3,v4],_=>(h v0 v1 v2 v3 v4)
theorem Zoa {l:W.OpenLaw} {w:World} {K:W.Frag} {h:Heap} {mg:Str->Option Value} {fa:Addr} {tp cg:Addr} (X:K.In h) (G:h.Ns mainGlobals mg) (hfa:mg "law" = some (.ref fa))
  {CaRoom:Addr} (aCRoom:W.nsIn K mainGlobals "Room" = some (some (.ref CaRoom)))
  (a0:W.nsIn K mainGlobals "_law_take" = some (some (.ref f0))) (l0:K.lookup f0=some ⟨oc0,od0,.func (W.fnOf "_law_take" "_law_take" (Zr Zer) (Zp Zer) (Zg Zer) .none kV0 dc0 pm0 an0 cd0 ct0),sl0⟩) (c0:W.codeIn K cd0 "_law_take" = true) (k0:W.keepIn K (.ref f0)=true)
  (a1:W.nsIn K mainGlobals "_law_box" = some (some (.ref f1))) (l1:K.lookup f1=some ⟨oc1,od1,.func (W.fnOf "_law_box" "_law_box" (Zr s_box) (Zp s_box) (Zg s_box) .none kV1 dc1 pm1 an1 cd1 ct1),sl1⟩) (c1:W.codeIn K cd1 "_law_box" = true) (k1:W.keepIn K (.ref f1)=true)
  (a2:W.nsIn K mainGlobals "_law_folded" = some (some (.ref f2))) (l2:K.lookup f2=some ⟨oc2,od2,.func (W.fnOf "_law_folded" "_law_folded" (Zr ZbO) (Zp ZbO) (Zg ZbO) .none kV2 dc2 pm2 an2 cd2 ct2),sl2⟩) (c2:W.codeIn K cd2 "_law_folded" = true) (k2:W.keepIn K (.ref f2)=true)
  (a3:W.nsIn K mainGlobals "_law_some_boards" = some (some (.ref f3))) (l3:K.lookup f3=some ⟨oc3,od3,.func (W.fnOf "_law_some_boards" "_law_some_boards" (Zr ZV) (Zp ZV) (Zg ZV) .none kV3 dc3 pm3 an3 cd3 ct3),sl3⟩) (c3:W.codeIn K cd3 "_law_some_boards" = true) (k3:W.keepIn K (.ref f3)=true)
  (a4:W.nsIn K mainGlobals "_law_shape" = some (some (.ref f4))) (l4:K.lookup f4=some ⟨oc4,od4,.func (W.fnOf "_law_shape" "_law_shape" (Zr Zcz) (Zp Zcz) (Zg Zcz) .none kV4 dc4 pm4 an4 cd4 ct4),sl4⟩) (c4:W.codeIn K cd4 "_law_shape" = true) (k4:W.keepIn K (.ref f4)=true)
  (a5:W.nsIn K mainGlobals "_law_asked" = some (some (.ref f5))) (l5:K.lookup f5=some ⟨oc5,od5,.func (W.fnOf "_law_asked" "_law_asked" (Zr ZcA) (Zp ZcA) (Zg ZcA) .none kV5 dc5 pm5 an5 cd5 ct5),sl5⟩) (c5:W.codeIn K cd5 "_law_asked" = true) (k5:W.keepIn K (.ref f5)=true)
  (a6:W.nsIn K mainGlobals "_law_same" = some (some (.ref f6))) (l6:K.lookup f6=some ⟨oc6,od6,.func (W.fnOf "_law_same" "_law_same" (Zr ZcK) (Zp ZcK) (Zg ZcK) .none kV6 dc6 pm6 an6 cd6 ct6),sl6⟩) (c6:W.codeIn K cd6 "_law_same" = true) (k6:W.keepIn K (.ref f6)=true)
  (a7:W.nsIn K mainGlobals "shelf_of" = some (some (.ref f7))) (l7:K.lookup f7=some ⟨oc7,od7,.func (W.fnOf "shelf_of" "shelf_of" (Zr ZaX) (Zp ZaX) (Zg ZaX) .none kV7 dc7 pm7 an7 cd7 ct7),sl7⟩) (c7:W.codeIn K cd7 "shelf_of" = true) (k7:W.keepIn K (.ref f7)=true)
  (a8:W.findIn K (.ref CaRoom) "has" = some (some (.ref f8))) (i8:W.isFn K (.ref f8)=true) (l8:K.lookup f8=some ⟨oc8,od8,.func (W.fnOf "has" "Room.has" (Zr ZaY) (Zp ZaY) (Zg ZaY) .none kV8 dc8 pm8 an8 cd8 ct8),sl8⟩) (c8:W.codeIn K cd8 "Room.has" = true) (k8:W.keepIn K (.ref f8)=true)
  (a9:W.findIn K (.ref CaRoom) "mates" = some (some (.ref f9))) (i9:W.isFn K (.ref f9)=true) (l9:K.lookup f9=some ⟨oc9,od9,.func (W.fnOf "mates" "Room.mates" (Zr ZaA) (Zp ZaA) (Zg ZaA) .none kV9 dc9 pm9 an9 cd9 ct9),sl9⟩) (c9:W.codeIn K cd9 "Room.mates" = true) (k9:W.keepIn K (.ref f9)=true)
  (a10:W.findIn K (.ref CaRoom) "need" = some (some (.ref f10))) (i10:W.isFn K (.ref f10)=true) (l10:K.lookup f10=some ⟨oc10,od10,.func (W.fnOf "need" "Room.need" (Zr ZaO) (Zp ZaO) (Zg ZaO) .none kV10 dc10 pm10 an10 cd10 ct10),sl10⟩) (c10:W.codeIn K cd10 "Room.need" = true) (k10:W.keepIn K (.ref f10)=true)
  (a11:W.findIn K (.ref CaRoom) "going" = some (some (.ref f11))) (i11:W.isFn K (.ref f11)=true) (l11:K.lookup f11=some ⟨oc11,od11,.func (W.fnOf "going" "Room.going" (Zr ZJ) (Zp ZJ) (Zg ZJ) .none kV11 dc11 pm11 an11 (.ref cg) ct11),sl11⟩) (c11:W.codeIn K (.ref cg) "Room.going" = true) (k11:W.keepIn K (.ref f11)=true)
  (a12:W.findIn K (.ref CaRoom) "drop" = some (some (.ref f12))) (i12:W.isFn K (.ref f12)=true) (l12:K.lookup f12=some ⟨oc12,od12,.func (W.fnOf "drop" "Room.drop" (Zr ZaN) (Zp ZaN) (Zg ZaN) .none kV12 dc12 pm12 an12 cd12 ct12),sl12⟩) (c12:W.codeIn K cd12 "Room.drop" = true) (k12:W.keepIn K (.ref f12)=true)
  (a13:W.findIn K (.ref CaRoom) "use" = some (some (.ref f13))) (i13:W.isFn K (.ref f13)=true) (l13:K.lookup f13=some ⟨oc13,od13,.func (W.fnOf "use" "Room.use" (Zr ZaZ) (Zp ZaZ) (Zg ZaZ) .none kV13 dc13 pm13 an13 cd13 ct13),sl13⟩) (c13:W.codeIn K cd13 "Room.use" = true) (k13:W.keepIn K (.ref f13)=true)
  (a14:W.findIn K (.ref CaRoom) "__init__" = some (some (.ref f14))) (i14:W.isFn K (.ref f14)=true) (l14:K.lookup f14=some ⟨oc14,od14,.func (W.fnOf "__init__" "Room.__init__" (Zr Zas) (Zp Zas) (Zg Zas) .none kV14 dc14 pm14 an14 cd14 ct14),sl14⟩) (c14:W.codeIn K cd14 "Room.__init__" = true) (k14:W.keepIn K (.ref f14)=true)
  (a15:W.findIn K (.ref CaRoom) "leaver_for" = some (some (.ref f15))) (i15:W.isFn K (.ref f15)=true) (l15:K.lookup f15=some ⟨oc15,od15,.func (W.fnOf "leaver_for" "Room.leaver_for" (Zr ZE) (Zp ZE) (Zg ZE) .none kV15 dc15 pm15 an15 cd15 ct15),sl15⟩) (c15:W.codeIn K cd15 "Room.leaver_for" = true) (k15:W.keepIn K (.ref f15)=true)
  (a16:W.findIn K (.ref CaRoom) "bring" = some (some (.ref f16))) (i16:W.isFn K (.ref f16)=true) (l16:K.lookup f16=some ⟨oc16,od16,.func (W.fnOf "bring" "Room.bring" (Zr Zaz) (Zp Zaz) (Zg Zaz) .none kV16 dc16 pm16 an16 cd16 ct16),sl16⟩) (c16:W.codeIn K cd16 "Room.bring" = true) (k16:W.keepIn K (.ref f16)=true)
  (a17:W.nsIn K mainGlobals "ask" = some (some (.ref f17))) (l17:K.lookup f17=some ⟨oc17,od17,.func (W.fnOf "ask" "ask" (Zr s_ask) (Zp s_ask) (Zg s_ask) .none kV17 dc17 pm17 an17 cd17 ct17),sl17⟩) (c17:W.codeIn K cd17 "ask" = true) (k17:W.keepIn K (.ref f17)=true)
  (a18:W.nsIn K mainGlobals "run_row" = some (some (.ref f18))) (l18:K.lookup f18=some ⟨oc18,od18,.func (W.fnOf "run_row" "run_row" (Zr Zbl) (Zp Zbl) (Zg Zbl) .none kV18 dc18 pm18 an18 cd18 ct18),sl18⟩) (c18:W.codeIn K cd18 "run_row" = true) (k18:W.keepIn K (.ref f18)=true)
  (a19:W.nsIn K mainGlobals "misses" = some (some (.ref f19))) (l19:K.lookup f19=some ⟨oc19,od19,.func (W.fnOf "misses" "misses" (Zr ZbA) (Zp ZbA) (Zg ZbA) .none kV19 dc19 pm19 an19 cd19 ct19),sl19⟩) (c19:W.codeIn K cd19 "misses" = true) (k19:W.keepIn K (.ref f19)=true)
  (a20:W.nsIn K mainGlobals "is_number" = some (some (.ref f20))) (l20:K.lookup f20=some ⟨oc20,od20,.func (W.fnOf "is_number" "is_number" (Zr ZaK) (Zp ZaK) (Zg ZaK) .none kV20 dc20 pm20 an20 cd20 ct20),sl20⟩) (c20:W.codeIn K cd20 "is_number" = true) (k20:W.keepIn K (.ref f20)=true)
  (a21:W.nsIn K mainGlobals "may_go" = some (some (.ref f21))) (l21:K.lookup f21=some ⟨oc21,od21,.func (W.fnOf "may_go" "may_go" (Zr ZbN) (Zp ZbN) (Zg ZbN) .none kV21 dc21 pm21 an21 cd21 ct21),sl21⟩) (c21:W.codeIn K cd21 "may_go" = true) (k21:W.keepIn K (.ref f21)=true)
  (a22:W.nsIn K mainGlobals "come" = some (some (.ref f22))) (l22:K.lookup f22=some ⟨oc22,od22,.func (W.fnOf "come" "come" (Zr Zep) (Zp Zep) (Zg Zep) .none kV22 dc22 pm22 an22 cd22 ct22),sl22⟩) (c22:W.codeIn K cd22 "come" = true) (k22:W.keepIn K (.ref f22)=true)
  (a23:W.nsIn K mainGlobals "count_misses" = some (some (.ref f23))) (l23:K.lookup f23=some ⟨oc23,od23,.func (W.fnOf "count_misses" "count_misses" (Zr ZN) (Zp ZN) (Zg ZN) .none kV23 dc23 pm23 an23 cd23 ct23),sl23⟩) (c23:W.codeIn K cd23 "count_misses" = true) (k23:W.keepIn K (.ref f23)=true)
  (a24:W.nsIn K mainGlobals "asked_again" = some (some (.ref f24))) (l24:K.lookup f24=some ⟨oc24,od24,.func (W.fnOf "asked_again" "asked_again" (Zr Zai) (Zp Zai) (Zg Zai) .none kV24 dc24 pm24 an24 cd24 ct24),sl24⟩) (c24:W.codeIn K cd24 "asked_again" = true) (k24:W.keepIn K (.ref f24)=true)
  (a25:W.nsIn K mainGlobals "farthest" = some (some (.ref f25))) (l25:K.lookup f25=some ⟨oc25,od25,.func (W.fnOf "farthest" "farthest" (Zr Zax) (Zp Zax) (Zg Zax) .none kV25 dc25 pm25 an25 cd25 ct25),sl25⟩) (c25:W.codeIn K cd25 "farthest" = true) (k25:W.keepIn K (.ref f25)=true)
  (a26:W.nsIn K mainGlobals "misses_by" = some (some (.ref f26))) (l26:K.lookup f26=some ⟨oc26,od26,.func (W.fnOf "misses_by" "misses_by" (Zr ZaL) (Zp ZaL) (Zg ZaL) .none kV26 dc26 pm26 an26 cd26 ct26),sl26⟩) (c26:W.codeIn K cd26 "misses_by" = true) (k26:W.keepIn K (.ref f26)=true)
  (a27:W.nsIn K mainGlobals "returns_of" = some (some (.ref f27))) (l27:K.lookup f27=some ⟨oc27,od27,.func (W.fnOf "returns_of" "returns_of" (Zr Zab) (Zp Zab) (Zg Zab) .none kV27 dc27 pm27 an27 cd27 ct27),sl27⟩) (c27:W.codeIn K cd27 "returns_of" = true) (k27:W.keepIn K (.ref f27)=true)
  (a28:W.nsIn K mainGlobals "is_marked" = some (some (.ref f28))) (l28:K.lookup f28=some ⟨oc28,od28,.func (W.fnOf "is_marked" "is_marked" (Zr Zar) (Zp Zar) (Zg Zar) .none kV28 dc28 pm28 an28 cd28 ct28),sl28⟩) (c28:W.codeIn K cd28 "is_marked" = true) (k28:W.keepIn K (.ref f28)=true)
  (a29:W.nsIn K mainGlobals "bound" = some (some (.ref f29))) (l29:K.lookup f29=some ⟨oc29,od29,.func (W.fnOf "bound" "bound" (Zr ZbW) (Zp ZbW) (Zg ZbW) .none kV29 dc29 pm29 an29 cd29 ct29),sl29⟩) (c29:W.codeIn K cd29 "bound" = true) (k29:W.keepIn K (.ref f29)=true)
  (a30:W.nsIn K mainGlobals "places_by_shelf" = some (some (.ref f30))) (l30:K.lookup f30=some ⟨oc30,od30,.func (W.fnOf "places_by_shelf" "places_by_shelf" (Zr ZD) (Zp ZD) (Zg ZD) .none kV30 dc30 pm30 an30 cd30 ct30),sl30⟩) (c30:W.codeIn K cd30 "places_by_shelf" = true) (k30:W.keepIn K (.ref f30)=true)
  (a31:W.nsIn K mainGlobals "cheapest_ahead" = some (some (.ref f31))) (l31:K.lookup f31=some ⟨oc31,od31,.func (W.fnOf "cheapest_ahead" "cheapest_ahead" (Zr ZI) (Zp ZI) (Zg ZI) .none kV31 dc31 pm31 an31 cd31 ct31),sl31⟩) (c31:W.codeIn K cd31 "cheapest_ahead" = true) (k31:W.keepIn K (.ref f31)=true)
  (a32:W.nsIn K mainGlobals "least_marks" = some (some (.ref f32))) (l32:K.lookup f32=some ⟨oc32,od32,.func (W.fnOf "least_marks" "least_marks" (Zr Zaj) (Zp Zaj) (Zg Zaj) .none kV32 dc32 pm32 an32 cd32 ct32),sl32⟩) (c32:W.codeIn K cd32 "least_marks" = true) (k32:W.keepIn K (.ref f32)=true)
  (a33:W.nsIn K mainGlobals "marks_of" = some (some (.ref f33))) (l33:K.lookup f33=some ⟨oc33,od33,.func (W.fnOf "marks_of" "marks_of" (Zr Zay) (Zp Zay) (Zg Zay) .none kV33 dc33 pm33 an33 cd33 ct33),sl33⟩) (c33:W.codeIn K cd33 "marks_of" = true) (k33:W.keepIn K (.ref f33)=true)
  (a34:W.nsIn K mainGlobals "_law_bound" = some (some (.ref f34))) (l34:K.lookup f34=some ⟨oc34,od34,.func (W.fnOf "_law_bound" "_law_bound" (Zr ZaT) (Zp ZaT) (Zg ZaT) .none kV34 dc34 pm34 an34 cd34 ct34),sl34⟩) (c34:W.codeIn K cd34 "_law_bound" = true) (k34:W.keepIn K (.ref f34)=true)
  (a35:W.nsIn K mainGlobals "_law_some_marks" = some (some (.ref f35))) (l35:K.lookup f35=some ⟨oc35,od35,.func (W.fnOf "_law_some_marks" "_law_some_marks" (Zr ZaB) (Zp ZaB) (Zg ZaB) .none kV35 dc35 pm35 an35 cd35 ct35),sl35⟩) (c35:W.codeIn K cd35 "_law_some_marks" = true) (k35:W.keepIn K (.ref f35)=true)
  (a36:W.nsIn K mainGlobals "_law_drawn_order" = some (some (.ref f36))) (l36:K.lookup f36=some ⟨oc36,od36,.func (W.fnOf "_law_drawn_order" "_law_drawn_order" (Zr ZK) (Zp ZK) (Zg ZK) .none kV36 dc36 pm36 an36 cd36 ct36),sl36⟩) (c36:W.codeIn K cd36 "_law_drawn_order" = true) (k36:W.keepIn K (.ref f36)=true)
  (a37:W.nsIn K mainGlobals "_law_right" = some (some (.ref f37))) (l37:K.lookup f37=some ⟨oc37,od37,.func (W.fnOf "_law_right" "_law_right" (Zr ZbJ) (Zp ZbJ) (Zg ZbJ) .none kV37 dc37 pm37 an37 cd37 ct37),sl37⟩) (c37:W.codeIn K cd37 "_law_right" = true) (k37:W.keepIn K (.ref f37)=true)
  (a38:W.nsIn K mainGlobals "law" = some (some (.ref f38))) (l38:K.lookup f38=some ⟨oc38,od38,.func (W.fnOf "law" "law" (Zr s_law) (Zp s_law) (Zg s_law) .none kV38 dc38 pm38 an38 cd38 ct38),sl38⟩) (c38:W.codeIn K cd38 "law" = true) (k38:W.keepIn K (.ref f38)=true)
  (vt_:W.nsIn K mainGlobals "abs" = some none)
  (vu_:W.nsIn K mainGlobals "all" = some none)
  (vw_:W.nsIn K mainGlobals "any" = some none)
  (vg_:W.nsIn K mainGlobals "bool" = some none)
  (vj_:W.nsIn K mainGlobals "divmod" = some none)
  (qj_:W.nsIn K mainGlobals "enumerate" = some none)
  (q9_:W.nsIn K mainGlobals "int" = some none)
  (qc_:W.nsIn K mainGlobals "isinstance" = some none)
  (qf_:W.nsIn K mainGlobals "len" = some none)
  (qo_:W.nsIn K mainGlobals "list" = some none)
  (vn_:W.nsIn K mainGlobals "max" = some none)
  (vo_:W.nsIn K mainGlobals "min" = some none)
  (qh_:W.nsIn K mainGlobals "range" = some none)
  (va_:W.nsIn K mainGlobals "sorted" = some none)
  (vb_:W.nsIn K mainGlobals "str" = some none)
  (vi_:W.nsIn K mainGlobals "tuple" = some none)
  (vp_:W.nsIn K mainGlobals "zip" = some none)
  (pgRoom:W.plainGet K CaRoom Str.empty=true) (hdRoom:W.hasDictIn K CaRoom=true) (poRoom:W.plainOver K CaRoom=true) (saRoom:W.findIn K (.ref CaRoom) "__setattr__" = some (some (.builtin "object.__setattr__"))) (mkRoom:W.makesIn K CaRoom=true) (kcRoom:W.keepIn K (.ref CaRoom)=true)
  (nRoom_places:W.findIn K (.ref CaRoom) "places" = some none)
  (nRoom_rule:W.findIn K (.ref CaRoom) "rule" = some none)
  (nRoom_shelves:W.findIn K (.ref CaRoom) "shelves" = some none)
  (nRoom_standing:W.findIn K (.ref CaRoom) "standing" = some none)
  (nRoom_uses:W.findIn K (.ref CaRoom) "uses" = some none)
  (ch:W.codeHdIn K cg tp=true) (kt:K.lookup tp=none)
  : tabOf K "Room" "going" = tp/\(∃ c0,W.codeHdIn K c0 tp=true)/\K.lookup tp=none/\∃ fd:FuncData,(∀ (s:Shared) (v:Value),BindsTo s fd ⟨[v],[]⟩ [("_law_script",v)])/\∀ base:Heap,K.In base->base.Ns mainGlobals mg->BMod base mg->FnOk l.prog w K mg base CX0 10 fa fd P_law (spLaw K):=by
 have e:=hfa.symm.trans (W.mg_of X G a38)
 cases e
 have hCRoom:=ZkZ aCRoom
 subst hCRoom
 have T:Txt K mg:=⟨W.mg_none_of X G vt_,W.mg_none_of X G vu_,W.mg_none_of X G vw_,W.mg_none_of X G vg_,W.mg_none_of X G vj_,W.mg_none_of X G qj_,W.mg_none_of X G q9_,W.mg_none_of X G qc_,W.mg_none_of X G qf_,W.mg_none_of X G qo_,W.mg_none_of X G vn_,W.mg_none_of X G vo_,W.mg_none_of X G qh_,W.mg_none_of X G va_,W.mg_none_of X G vb_,W.mg_none_of X G vi_,W.mg_none_of X G vp_,⟨pgRoom,hdRoom,poRoom,saRoom⟩,nRoom_places,nRoom_rule,nRoom_shelves,nRoom_standing,nRoom_uses⟩
 have F0:=Zx (st:=Zer) l0 c0 k0
 have b1000:=F0.binds (ps:=Zcl) λ_ _ _ _ _ _ us hl=>ln2 hl λ_ _=>rfl
 have F1:=Zx (st:=s_box) l1 c1 k1
 have b1001:=F1.binds (ps:=P_box) λ_ _ _ _ _ _ us hl=>ln2 hl λ_ _=>rfl
 have F2:=Zx (st:=ZbO) l2 c2 k2
 have b1002:=F2.binds (ps:=Zcm) λ_ _ _ _ _ _ us hl=>ln2 hl λ_ _=>rfl
 have F3:=Zx (st:=ZV) l3 c3 k3
 have b1003:=F3.binds (ps:=ZaH) λ_ _ _ _ _ _ us hl=>ln2 hl λ_ _=>rfl
 have F4:=Zx (st:=Zcz) l4 c4 k4
 have b1004:=F4.binds (ps:=ZdH) λ_ _ _ _ _ _ us hl=>ln1 hl λ_=>rfl
 have F5:=Zx (st:=ZcA) l5 c5 k5
 have b1005:=F5.binds (ps:=ZdI) λ_ _ _ _ _ _ us hl=>ln3 hl λ_ _ _=>rfl
 have F6:=Zx (st:=ZcK) l6 c6 k6
 have b1006:=F6.binds (ps:=ZcL) λ_ _ _ _ _ _ us hl=>ln2 hl λ_ _=>rfl
 have F7:=Zx (st:=ZaX) l7 c7 k7
 have b1007:=F7.binds (ps:=Zah) λ_ _ _ _ _ _ us hl=>ln2 hl λ_ _=>rfl
 have F8:=Zx (st:=ZaY) l8 c8 k8
 have b1008:=F8.binds (ps:=ZaM) λ_ _ _ _ _ _ us hl=>ln2 hl λ_ _=>rfl
 have F9:=Zx (st:=ZaA) l9 c9 k9
 have b1009:=F9.binds (ps:=ZR) λ_ _ _ _ _ _ us hl=>ln2 hl λ_ _=>rfl
 have F10:=Zx (st:=ZaO) l10 c10 k10
 have b1010:=F10.binds (ps:=ZaP) λ_ _ _ _ _ _ us hl=>ln2 hl λ_ _=>rfl
 have F11:=Zx (st:=ZJ) l11 c11 k11
 have b1011:=F11.binds (ps:=ZaS) λ_ _ _ _ _ _ us hl=>ln2 hl λ_ _=>rfl
 have F12:=Zx (st:=ZaN) l12 c12 k12
 have b1012:=F12.binds (ps:=Zbk) λ_ _ _ _ _ _ us hl=>ln2 hl λ_ _=>rfl
 have F13:=Zx (st:=ZaZ) l13 c13 k13
 have b1013:=F13.binds (ps:=Zbv) λ_ _ _ _ _ _ us hl=>ln2 hl λ_ _=>rfl
 have F14:=Zx (st:=Zas) l14 c14 k14
 have b1014:=F14.binds (ps:=Zbj) λ_ _ _ _ _ _ us hl=>ln4 hl λ_ _ _ _=>rfl
 have F15:=Zx (st:=ZE) l15 c15 k15
 have b1015:=F15.binds (ps:=ZQ) λ_ _ _ _ _ _ us hl=>ln2 hl λ_ _=>rfl
 have F16:=Zx (st:=Zaz) l16 c16 k16
 have b1016:=F16.binds (ps:=ZaR) λ_ _ _ _ _ _ us hl=>ln2 hl λ_ _=>rfl
 have F17:=Zx (st:=s_ask) l17 c17 k17
 have b1017:=F17.binds (ps:=P_ask) λ_ _ _ _ _ _ us hl=>ln2 hl λ_ _=>rfl
 have F18:=Zx (st:=Zbl) l18 c18 k18
 have b1018:=F18.binds (ps:=ZbH) λ_ _ _ _ _ _ us hl=>ln4 hl λ_ _ _ _=>rfl
 have F19:=Zx (st:=ZbA) l19 c19 k19
 have b1019:=F19.binds (ps:=Zck) λ_ _ _ _ _ _ us hl=>ln4 hl λ_ _ _ _=>rfl
 have F20:=Zx (st:=ZaK) l20 c20 k20
 have b1020:=F20.binds (ps:=Zbg) λ_ _ _ _ _ _ us hl=>ln1 hl λ_=>rfl
 have F21:=Zx (st:=ZbN) l21 c21 k21
 have b1021:=F21.binds (ps:=Zcj) λ_ _ _ _ _ _ us hl=>ln4 hl λ_ _ _ _=>rfl
 have F22:=Zx (st:=Zep) l22 c22 k22
 have b1022:=F22.binds (ps:=Zeq) λ_ _ _ _ _ _ us hl=>ln3 hl λ_ _ _=>rfl
 have F23:=Zx (st:=ZN) l23 c23 k23
 have b1023:=F23.binds (ps:=Zal) λ_ _ _ _ _ _ us hl=>ln4 hl λ_ _ _ _=>rfl
 have F24:=Zx (st:=Zai) l24 c24 k24
 have b1024:=F24.binds (ps:=ZU) λ_ _ _ _ _ _ us hl=>ln1 hl λ_=>rfl
 have F25:=Zx (st:=Zax) l25 c25 k25
 have b1025:=F25.binds (ps:=Zbt) λ_ _ _ _ _ _ us hl=>ln3 hl λ_ _ _=>rfl
 have F26:=Zx (st:=ZaL) l26 c26 k26
 have b1026:=F26.binds (ps:=Zbh) λ_ _ _ _ _ _ us hl=>ln4 hl λ_ _ _ _=>rfl
 have F27:=Zx (st:=Zab) l27 c27 k27
 have b1027:=F27.binds (ps:=ZaQ) λ_ _ _ _ _ _ us hl=>ln1 hl λ_=>rfl
 have F28:=Zx (st:=Zar) l28 c28 k28
 have b1028:=F28.binds (ps:=Zbi) λ_ _ _ _ _ _ us hl=>ln5 hl λ_ _ _ _ _=>rfl
 have F29:=Zx (st:=ZbW) l29 c29 k29
 have b1029:=F29.binds (ps:=ZdF) λ_ _ _ _ _ _ us hl=>ln4 hl λ_ _ _ _=>rfl
 have F30:=Zx (st:=ZD) l30 c30 k30
 have b1030:=F30.binds (ps:=ZP) λ_ _ _ _ _ _ us hl=>ln2 hl λ_ _=>rfl
 have F31:=Zx (st:=ZI) l31 c31 k31
 have b1031:=F31.binds (ps:=ZX) λ_ _ _ _ _ _ us hl=>ln3 hl λ_ _ _=>rfl
 have F32:=Zx (st:=Zaj) l32 c32 k32
 have b1032:=F32.binds (ps:=ZaG) λ_ _ _ _ _ _ us hl=>ln2 hl λ_ _=>rfl
 have F33:=Zx (st:=Zay) l33 c33 k33
 have b1033:=F33.binds (ps:=Zbu) λ_ _ _ _ _ _ us hl=>ln3 hl λ_ _ _=>rfl
 have F34:=Zx (st:=ZaT) l34 c34 k34
 have b1034:=F34.binds (ps:=ZbI) λ_ _ _ _ _ _ us hl=>ln4 hl λ_ _ _ _=>rfl
 have F35:=Zx (st:=ZaB) l35 c35 k35
 have b1035:=F35.binds (ps:=ZaU) λ_ _ _ _ _ _ us hl=>ln2 hl λ_ _=>rfl
 have F36:=Zx (st:=ZK) l36 c36 k36
 have b1036:=F36.binds (ps:=ZaI) λ_ _ _ _ _ _ us hl=>ln4 hl λ_ _ _ _=>rfl
 have F37:=Zx (st:=ZbJ) l37 c37 k37
 have b1037:=F37.binds (ps:=ZdK) λ_ _ _ _ _ _ us hl=>ln1 hl λ_=>rfl
 have F38:=Zx (st:=s_law) l38 c38 k38
 have b1038:=F38.binds (ps:=P_law) λ_ _ _ _ _ _ us hl=>ln1 hl λ_=>rfl
 have tq:=Zla a11 l11 rfl ch
 refine ⟨tq,⟨_,ch⟩,kt,?_⟩
 refine ⟨W.fnOf "law" "law" (Zr s_law) (Zp s_law) (Zg s_law) .none kV38 dc38 pm38 an38 cd38 ct38,λs v=>.of_eq rfl,λbase _ _ bm=>?_⟩
 have qb_:Def l.prog w K mg base "_law_take" 1 Zcl ZdL:=⟨_,_,ZmI F0 T ,W.mg_of X G a0,F0.kp,b1000⟩
 have vy_:Def l.prog w K mg base "_law_box" 1 P_box (spBox K):=⟨_,_,ZnL F1 T ,W.mg_of X G a1,F1.kp,b1001⟩
 have vm_:Def l.prog w K mg base "_law_folded" 1 Zcm (ZeQ K):=⟨_,_,ZjG F2 T ,W.mg_of X G a2,F2.kp,b1002⟩
 have qr_:Def l.prog w K mg base "_law_some_boards" 2 ZaH ZeR:=⟨_,_,ZdU F3 T qb_,W.mg_of X G a3,F3.kp,b1003⟩
 have vq_:Def l.prog w K mg base "_law_shape" 2 ZdH Zgy:=⟨_,_,Zlk F4 T qb_,W.mg_of X G a4,F4.kp,b1004⟩
 have vr_:Def l.prog w K mg base "_law_asked" 3 ZdI Zgz:=⟨_,_,Zll F5 T qb_ qr_,W.mg_of X G a5,F5.kp,b1005⟩
 have qv_:=Zhz (P:=l.prog) (w:=w) (base:=base) F6 b1006 (W.mg_of X G a6) T 
 have qd_:Def l.prog w K mg base "shelf_of" 1 Zah ZbX:=⟨_,_,ZgD F7 T ,W.mg_of X G a7,F7.kp,b1007⟩
 have qi_:MDef l.prog w K mg base (clsOf K "Room") "has" 1 ZaM (spHas K):=⟨_,_,ZgE F8 T ,⟨a8,i8,k8⟩,b1008⟩
 have qe_:MDef l.prog w K mg base (clsOf K "Room") "mates" 2 ZR (ZcC K):=⟨_,_,ZeU F9 T qd_,⟨a9,i9,k9⟩,b1009⟩
 have ql_:MDef l.prog w K mg base (clsOf K "Room") "need" 2 ZaP (ZhC K):=⟨_,_,ZfS F10 T qi_,⟨a10,i10,k10⟩,b1010⟩
 have qw_:MDef l.prog w K mg base (clsOf K "Room") "going" 2 ZaS (ZgF K):=⟨_,_,ZeV F11 rfl tq ch bm T ,⟨a11,i11,k11⟩,b1011⟩
 have q3_:MDef l.prog w K mg base (clsOf K "Room") "drop" 3 Zbk (ZjP K):=⟨_,_,ZfT F12 T ql_ qe_,⟨a12,i12,k12⟩,b1012⟩
 have vc_:MDef l.prog w K mg base (clsOf K "Room") "use" 3 Zbv (spUse K):=⟨_,_,ZgG F13 T ql_ qe_,⟨a13,i13,k13⟩,b1013⟩
 have vv_:KDef l.prog w K mg base (clsOf K "Room") "Room" 1 Zbj (ZjQ K):=⟨_,_,ZfY F14 T ,⟨mkRoom,a14,i14,kcRoom⟩,W.mg_of X G aCRoom,b1014⟩
 have qm_:MDef l.prog w K mg base (clsOf K "Room") "leaver_for" 3 ZQ (ZeW K):=⟨_,_,Zco F15 T qe_ qw_,⟨a15,i15,k15⟩,b1015⟩
 have qx_:MDef l.prog w K mg base (clsOf K "Room") "bring" 4 ZaR (ZgI K):=⟨_,_,ZeX F16 T qi_ qm_ qe_ q3_,⟨a16,i16,k16⟩,b1016⟩
 have vx_:Def l.prog w K mg base "ask" 5 P_ask (spAsk K):=⟨_,_,ZnR F17 T qi_ vc_ qx_,W.mg_of X G a17,F17.kp,b1017⟩
 have vh_:Def l.prog w K mg base "run_row" 7 ZbH (spRun K):=⟨_,_,Zio F18 T vv_ vx_,W.mg_of X G a18,F18.kp,b1018⟩
 have vl_:Def l.prog w K mg base "misses" 8 Zck (ZjR K):=⟨_,_,ZjS F19 T vh_,W.mg_of X G a19,F19.kp,b1019⟩
 have q4_:Def l.prog w K mg base "is_number" 1 Zbg ZjT:=⟨_,_,Zga F20 T ,W.mg_of X G a20,F20.kp,b1020⟩
 have vk_:Def l.prog w K mg base "may_go" 2 Zcj (spMay K):=⟨_,_,ZjU F21 T q4_,W.mg_of X G a21,F21.kp,b1021⟩
 have q8_:Def l.prog w K mg base "come" 1 Zeq ZhF:=⟨_,_,ZmM F22 T ,W.mg_of X G a22,F22.kp,b1022⟩
 have qq_:Def l.prog w K mg base "count_misses" 3 Zal (spCnt K):=⟨_,_,ZdQ F23 T qd_ vk_ q8_,W.mg_of X G a23,F23.kp,b1023⟩
 have qg_:Def l.prog w K mg base "asked_again" 1 ZU (ZdR K):=⟨_,_,ZdV F24 T ,W.mg_of X G a24,F24.kp,b1024⟩
 have vd_:Def l.prog w K mg base "farthest" 8 Zbt (spDue K):=⟨_,_,ZgM F25 T qd_ q8_ qg_,W.mg_of X G a25,F25.kp,b1025⟩
 have q6_:Def l.prog w K mg base "misses_by" 4 Zbh (spBy K):=⟨_,_,Zgc F26 T qq_,W.mg_of X G a26,F26.kp,b1026⟩
 have qy_:Def l.prog w K mg base "returns_of" 2 ZaQ (Zkj K):=⟨_,_,Zfa F27 T qg_,W.mg_of X G a27,F27.kp,b1027⟩
 have q5_:Def l.prog w K mg base "is_marked" 2 Zbi (spMk K):=⟨_,_,Zgd F28 T qd_,W.mg_of X G a28,F28.kp,b1028⟩
 have qu_:Def l.prog w K mg base "bound" 3 ZdF (spBnd K):=⟨_,_,Zlt F29 T qy_ q5_,W.mg_of X G a29,F29.kp,b1029⟩
 have qn_:Def l.prog w K mg base "places_by_shelf" 2 ZP (spPb K):=⟨_,_,Zcq F30 T qd_,W.mg_of X G a30,F30.kp,b1030⟩
 have qp_:Def l.prog w K mg base "cheapest_ahead" 1 ZX (spCh K):=⟨_,_,ZcE F31 T ,W.mg_of X G a31,F31.kp,b1031⟩
 have qs_:Def l.prog w K mg base "least_marks" 2 ZaG (spLm K):=⟨_,_,ZdW F32 T qg_ qp_,W.mg_of X G a32,F32.kp,b1032⟩
 have ve_:Def l.prog w K mg base "marks_of" 3 Zbu (spMks K):=⟨_,_,ZgP F33 T qn_ qs_,W.mg_of X G a33,F33.kp,b1033⟩
 have q1_:Def l.prog w K mg base "_law_bound" 1 ZbI (spBnd K):=⟨_,_,Zir F34 T ,W.mg_of X G a34,F34.kp,b1034⟩
 have qz_:Def l.prog w K mg base "_law_some_marks" 2 ZaU (spSm K):=⟨_,_,Zfd F35 T qb_,W.mg_of X G a35,F35.kp,b1035⟩
 have qt_:Def l.prog w K mg base "_law_drawn_order" 2 ZaI (spDrw K):=⟨_,_,ZdX F36 T qb_,W.mg_of X G a36,F36.kp,b1036⟩
 have vs_:Def l.prog w K mg base "_law_right" 9 ZdK (ZgQ K):=⟨_,_,Zlx F37 T vq_ vr_ vl_ vd_ qt_ q6_ qz_ ve_ qu_ q1_ qv_,W.mg_of X G a37,F37.kp,b1037⟩
 exact ZnZ F38 T vy_ vm_ vs_
theorem walk {l:W.OpenLaw} {q:Program} {loose:List Str} {XP:(Str->Option Value)->Heap->Prop} {YP:World->Heap->Prop} {d:DefRec} {K:Params->W.Frag} {tp:Addr} (hn:l.most=some 63) (hdf:d.params.defaults=[])
  (hY:∀ (w:World) (h:Heap),YP w h->(K w.params).In h/\h.get? tp=some { cls:=.none,data:=.fields #[] })
  (F:∀ (w:World) (mg:Str->Option Value) (fa:Addr) (h:Heap),(K w.params).In h->h.Ns mainGlobals mg->mg d.name=some (.ref fa) ->
   tabOf (K w.params) "Room" "going" = tp/\(∃ c0,W.codeHdIn (K w.params) c0 tp=true)/\(K w.params).lookup tp=none/\∃ fd:FuncData,(∀ (s:Shared) (u:Value),BindsTo s fd ⟨[u],[]⟩ [("_law_script",u)])/\∀ base:Heap,(K w.params).In base->base.Ns mainGlobals mg->BMod base mg->FnOk l.prog w (K w.params) mg base CX0 10 fa fd P_law (spLaw (K w.params))) :
  W.WalkO q loose XP YP l.row.toRowW d [] (λf vs=>PySem.call f vs) :=
 L2.ZkY (tp:=tp) (pos:=tpos) (qual:=tqual) (G:=λw=>tabOf (K w.params) "Room" "going" = tp) (n:=63) (k:=10) (x := "_law_script") (CX:=λ_=>CX0) (sp:=λw=>spLaw (K w.params)) hn (by decide) hdf ⟨rfl,by decide,by decide,rfl⟩ hY F (λ_ _ a ns g hl hT hS=>⟨a,ns,rfl,hS,hl,(by unfold Tb; rw [g]; exact hT),λ_=>rfl⟩) λ_ _ _ _ _ z=>z
end Mine
namespace PySem.W.Fast
abbrev Q:=Nat
def tw10004083478811774226:=Q
def tw10038914932571132017:=Q
def tw10055732663835135466:=Q
def tw10146437978396332315:=Q
def tw10332241434789088273:=Q
def tw10335403962715737126:=Q
def tw10464093428504926731:=Q
def tw10473033887709564997:=Q
def tw10508084926664526318:=Q
def tw10529317169677755173:=Q
def tw10569958683073339394:=Q
def tw10599539912861956021:=Q
def tw10659056862902655483:=Q
def tw1067082095839264113:=Q
def tw10706972305597991998:=Q
def tw10737007007134808977:=Q
def tw10760790950670369244:=Q
def tw10833276189468398670:=Q
def tw10849440647157179462:=Q
def tw10899239363841728573:=Q
def tw10920466871355504379:=Q
def tw10951801145580452500:=Q
def tw10972764056427877190:=Q
def tw11063918334849994750:=Q
def tw1109926789138389141:=Q
def tw11109975013033729530:=Q
def tw1111941202389868303:=Q
def tw11197973948175828653:=Q
def tw11277940213324524309:=Q
def tw11413602865753642738:=Q
def tw11430735836925263174:=Q
def tw11486801561390266533:=Q
def tw11512035193835883375:=Q
def tw11550397934845665097:=Q
def tw11560014883710206038:=Q
def tw1156899461859063855:=Q
def tw11609927730064900706:=Q
def tw11692573634376846485:=Q
def tw11727249143186480092:=Q
def tw11789301276682737012:=Q
def tw11823249872333877076:=Q
def tw11986409001501145574:=Q
def tw12057316491861276872:=Q
def tw12062680441892545248:=Q
def tw12103360831418205822:=Q
def tw12125228954875689382:=Q
def tw12144818919409851301:=Q
def tw12201596962734450035:=Q
def tw12236764238619110256:=Q
def tw12298275001783113710:=Q
def tw12344293741990736235:=Q
def tw1240330278344503736:=Q
def tw12412360249921312626:=Q
def tw12466151359939027326:=Q
def tw12494839909872767583:=Q
def tw12495983364589188323:=Q
def tw12511431774274147478:=Q
def tw12517027669102674715:=Q
def tw12547328237869314076:=Q
def tw12595532866560251452:=Q
def tw12617092075197763018:=Q
def tw12639526843704008500:=Q
def tw12680751814979930991:=Q
def tw12859759652604950649:=Q
def tw12893290793930853070:=Q
def tw12958027144547586853:=Q
def tw12999884581183792177:=Q
def tw13033673311802204075:=Q
def tw13117005215712595618:=Q
def tw13150007715975430279:=Q
def tw13156134334260781028:=Q
def tw13183428486069216079:=Q
def tw13273437983410272379:=Q
def tw13298529574838992519:=Q
def tw13302292286206533698:=Q
def tw1336413228290971207:=Q
def tw13369129757856988249:=Q
def tw13475748722508624289:=Q
def tw13478764518376913050:=Q
def tw13504785256397662009:=Q
def tw13545374199693158081:=Q
def tw13556227562422813981:=Q
def tw1362360452593287309:=Q
def tw13631973572548000659:=Q
def tw13655444001190277849:=Q
def tw13663186621039977496:=Q
def tw13673864347747327099:=Q
def tw13685235567242228259:=Q
def tw13711080099974192828:=Q
def tw13788521439305264645:=Q
def tw1387302235815104246:=Q
def tw13994654153827390830:=Q
def tw1404129375360848566:=Q
def tw14062784427760560177:=Q
def tw14071634732895663451:=Q
def tw14093430670129157749:=Q
def tw14192315687123551180:=Q
def tw14222859705106916679:=Q
def tw14279828222973444359:=Q
def tw14285745147970268430:=Q
def tw14318130097630858160:=Q
def tw14360825092759214478:=Q
def tw14534295891536970095:=Q
def tw14540153858068087471:=Q
def tw14545347447264173121:=Q
def tw14568793150716791359:=Q
def tw14587667411268539074:=Q
def tw1473001879975367146:=Q
def tw14746935121726691808:=Q
def tw14759694406658619751:=Q
def tw14782324833821018246:=Q
def tw1484954388985076004:=Q
def tw14878660404321999526:=Q
def tw14957807903062107228:=Q
def tw14974500539199210092:=Q
def tw15008370748556449401:=Q
def tw15020499833917332583:=Q
def tw15034901463093100648:=Q
def tw1506929613632689012:=Q
def tw15121057998963167244:=Q
def tw15138551038567206155:=Q
def tw15140657210489191099:=Q
def tw15189269507718798917:=Q
def tw15259361658009143897:=Q
def tw15337838069894805430:=Q
def tw15338020618097127191:=Q
def tw15348370614195663975:=Q
def tw15392993029324994135:=Q
def tw15429257332950959638:=Q
def tw15437127907486600699:=Q
def tw15499683159945958754:=Q
def tw15598052055133252527:=Q
def tw15662548916726727377:=Q
def tw15672081980251474301:=Q
def tw15720826494598220923:=Q
def tw15734775380125831119:=Q
def tw15821485423411131456:=Q
def tw15941102940280911532:=Q
def tw15964312678781642721:=Q
def tw16011964981872043183:=Q
def tw16016646834487873667:=Q
def tw16050011996877179593:=Q
def tw16189447678073425435:=Q
def tw16197030408184259064:=Q
def tw16209471402594551406:=Q
def tw16222262077408516210:=Q
def tw16317196073721604955:=Q
def tw16380431361923764551:=Q
def tw16426811931474258576:=Q
def tw16509627887521175455:=Q
def tw16519956976174837194:=Q
def tw16524280996901545462:=Q
def tw16603086870624534682:=Q
def tw1661962507781629237:=Q
def tw16622161347468766754:=Q
def tw16684843749034529368:=Q
def tw16782996425352414162:=Q
def tw16815803213779271948:=Q
def tw16859521996497684567:=Q
def tw16906831951716538999:=Q
def tw16959749139909470988:=Q
def tw16986420304821518820:=Q
def tw16999793537715977413:=Q
def tw17060300815745407294:=Q
def tw17091992963485479144:=Q
def tw17093138075741809852:=Q
def tw1717143515010337038:=Q
def tw1728647943482120672:=Q
def tw17330701017889819888:=Q
def tw17380593817621941159:=Q
def tw17411105241036087346:=Q
def tw17417736436057351506:=Q
def tw1743723170424766189:=Q
def tw17441127822991367073:=Q
def tw1746699959170993926:=Q
def tw17564885756434710610:=Q
def tw17595986842966205087:=Q
def tw17644075599535724344:=Q
def tw17657092958378145716:=Q
def tw17670027278208304197:=Q
def tw17691852698221570876:=Q
def tw1769537274996424158:=Q
def tw1776098871724544395:=Q
def tw17836368521324543215:=Q
def tw17911999067236470662:=Q
def tw17965007010297973749:=Q
def tw17971982293860775555:=Q
def tw17994861348858381241:=Q
def tw18027625265334846718:=Q
def tw18083497185683800361:=Q
def tw18118497421697718510:=Q
def tw1813695875683054975:=Q
def tw18186476683621841351:=Q
def tw18224846366708289566:=Q
def tw18242529974509244215:=Q
def tw18258111127577258374:=Q
def tw18292814327505490038:=Q
def tw18365064796620967711:=Q
def tw18411263707726586890:=Q
def tw18416140908322329419:=Q
def tw18427146425857310183:=Q
def tw18429467042117800535:=Q
def tw18433722879045874166:=Q
def tw1856762114714189728:=Q
def tw1867567309852883591:=Q
def tw1886524475669677544:=Q
def tw1981654642918497057:=Q
def tw2125029895100727581:=Q
def tw2131782924051548410:=Q
def tw2139491122171272258:=Q
def tw2176350026060970021:=Q
def tw2293818698972025234:=Q
def tw2304996551406178286:=Q
def tw2354416162868642733:=Q
def tw239225141249998285:=Q
def tw2433927494126052154:=Q
def tw2447429069461475028:=Q
def tw2466094000676292380:=Q
def tw2693370436037940170:=Q
def tw2725635596929201000:=Q
def tw2771986796491281850:=Q
def tw2775644382499726084:=Q
def tw2872321263583749503:=Q
def tw2901994698930250890:=Q
def tw293841825866035789:=Q
def tw2940081808116124206:=Q
def tw2940478143122672231:=Q
def tw3009323058397725785:=Q
def tw3054086664180303861:=Q
def tw3077998349784828705:=Q
def tw3184219090653826566:=Q
def tw3243548271482474147:=Q
def tw3297279358725579569:=Q
def tw3392286909854307902:=Q
def tw341976739339191905:=Q
def tw3422763245560353975:=Q
def tw3430807076936124946:=Q
def tw3436422608035024024:=Q
def tw3547597009273332380:=Q
def tw3581621153819685923:=Q
def tw3607070751885606499:=Q
def tw3647986441934186774:=Q
def tw3685406274946132697:=Q
def tw3694142496338633849:=Q
def tw3699027185692946416:=Q
def tw3716358386718864391:=Q
def tw3731495633265773383:=Q
def tw3846735457920247457:=Q
def tw3908511091030588003:=Q
def tw4027485397693184019:=Q
def tw4031186518256036981:=Q
def tw4117201121741417565:=Q
def tw41459103137980548:=Q
def tw4161846861974625662:=Q
def tw4204039139511809389:=Q
def tw4204246023109210425:=Q
def tw4219572223052748476:=Q
def tw4253735658989130138:=Q
def tw4358199477895713684:=Q
def tw4366393128327807216:=Q
def tw4434242344981591295:=Q
def tw444535452720915429:=Q
def tw4486035821789343664:=Q
def tw4612873198297584533:=Q
def tw4707041762665858480:=Q
def tw4708849228133955136:=Q
def tw4720408864626438516:=Q
def tw476670788343280472:=Q
def tw4836839511508737883:=Q
def tw4839684975812686270:=Q
def tw4890127321326596833:=Q
def tw5031467267543472699:=Q
def tw5045271285849339813:=Q
def tw5046545789401294402:=Q
def tw5110660171248049621:=Q
def tw517687598221857869:=Q
def tw5273689839150347279:=Q
def tw527803463035304224:=Q
def tw5278530312697064084:=Q
def tw5284011069634591138:=Q
def tw5289629761143312871:=Q
def tw5335839931087443991:=Q
def tw547583341781317331:=Q
def tw5527909366223272225:=Q
def tw5537962432970848566:=Q
def tw5578981218046984956:=Q
def tw5614314613219682647:=Q
def tw5618378644632727022:=Q
def tw5644403247776744440:=Q
def tw5685790092184765018:=Q
def tw5945217048711955723:=Q
def tw5950281860822840972:=Q
def tw5976917912814538729:=Q
def tw6049722416122584391:=Q
def tw605967745007188987:=Q
def tw6209617733501354398:=Q
def tw6236702922603258460:=Q
def tw6328405833360037128:=Q
def tw6329181779201558868:=Q
def tw6346869149577224658:=Q
def tw6375523374075175569:=Q
def tw6463309130931519548:=Q
def tw6479372327085948225:=Q
def tw6542529274246756116:=Q
def tw6554600858828519582:=Q
def tw6586715596275380694:=Q
def tw6617684261810000823:=Q
def tw6618261581305275561:=Q
def tw6665790071025090602:=Q
def tw6686167404122901535:=Q
def tw6796860609380716095:=Q
def tw6806952746795202081:=Q
def tw6808674919458270299:=Q
def tw682159301727589825:=Q
def tw6932888381966281350:=Q
def tw6953117997803239534:=Q
def tw6957301748924921953:=Q
def tw6972705888161086613:=Q
def tw7001049045348550139:=Q
def tw704167411833366695:=Q
def tw7099859611896105571:=Q
def tw7179448270146144508:=Q
def tw7245192892698015398:=Q
def tw7485645491231685317:=Q
def tw7508641974768577602:=Q
def tw7569027919097484295:=Q
def tw7708311279395573974:=Q
def tw780829645388411928:=Q
def tw7838900185003149646:=Q
def tw7842906137095479420:=Q
def tw7942344819865013164:=Q
def tw7991511316568337136:=Q
def tw8006256987162019960:=Q
def tw8047855537541060965:=Q
def tw808847803583251021:=Q
def tw8096211796747272723:=Q
def tw8102028439840064673:=Q
def tw81081396816395388:=Q
def tw8123275496627997219:=Q
def tw8169684755610416895:=Q
def tw8217960877574923489:=Q
def tw8220768857381325350:=Q
def tw8231970046828168243:=Q
def tw8250143281448937680:=Q
def tw8280839410216310584:=Q
def tw8323600799990865248:=Q
def tw8382895887197107715:=Q
def tw841987984027244465:=Q
def tw8428235759613457083:=Q
def tw8527427086976379978:=Q
def tw8596569749286332836:=Q
def tw8643147483882766853:=Q
def tw8715518248869609405:=Q
def tw8843015343649021758:=Q
def tw8875954959074396010:=Q
def tw8879104973802548886:=Q
def tw897342055128143121:=Q
def tw8981733076132962857:=Q
def tw9024220931948440935:=Q
def tw905446210559790814:=Q
def tw9069614854725666038:=Q
def tw9100422414330907583:=Q
def tw9149079511553795572:=Q
def tw9179347904225296262:=Q
def tw9226350371714963681:=Q
def tw9363133123234100866:=Q
def tw9388855307277648196:=Q
def tw9507199536713795001:=Q
def tw9543911666645808490:=Q
def tw9556977556116305864:=Q
def tw9612466700686728699:=Q
def tw9622006047813639482:=Q
def tw9627834436407532970:=Q
def tw9647901368006732781:=Q
def tw9662205203939867224:=Q
def tw9728500573977643529:=Q
def tw9762382714542653456:=Q
def tw9793781113209483858:=Q
def tw9821058742112742342:=Q
def tw9879148521898748562:=Q
def tw988322100927110489:=Q
def tw9909777645815551801:=Q
def tw9964050477582633313:=Q
end PySem.W.Fast
open PySem PySem.W PyProof.Rows
set_option maxRecDepth 100000 in
set_option maxHeartbeats 0 in
theorem PySem.Challenge.cw_nearstairs_k20_bounds_by_marks_holds : PySem.Challenge.rw_nearstairs_k20_bounds_by_marks.Holds := by
 w_on; o_law; k_head; (case hw=>w_witness2)
 k_fill
 refine Mine.walk (l:=PySem.Challenge.rw_nearstairs_k20_bounds_by_marks) rfl rfl (λw h Y=>⟨PySem.W.km_in_of Y,PySem.W.km_tabs_of Y _ mem_cons_self⟩) ?F
 case F =>
  intro w mg fa h KX G hmg
  refine' Mine.Zoa KX G hmg ?_ ?_ ?_ ?_ ?_ ?_ ?_ ?_ ?_ ?_ ?_ ?_ ?_ ?_ ?_ ?_ ?_ ?_ ?_ ?_ ?_ ?_ ?_ ?_ ?_ ?_ ?_ ?_ ?_ ?_ ?_ ?_ ?_ ?_ ?_ ?_ ?_ ?_ ?_ ?_ ?_ ?_ ?_ ?_ ?_ ?_ ?_ ?_ ?_ ?_ ?_ ?_ ?_ ?_ ?_ ?_ ?_ ?_ ?_ ?_ ?_ ?_ ?_ ?_ ?_ ?_ ?_ ?_ ?_ ?_ ?_ ?_ ?_ ?_ ?_ ?_ ?_ ?_ ?_ ?_ ?_ ?_ ?_ ?_ ?_ ?_ ?_ ?_ ?_ ?_ ?_ ?_ ?_ ?_ ?_ ?_ ?_ ?_ ?_ ?_ ?_ ?_ ?_ ?_ ?_ ?_ ?_ ?_ ?_ ?_ ?_ ?_ ?_ ?_ ?_ ?_ ?_ ?_ ?_ ?_ ?_ ?_ ?_ ?_ ?_ ?_ ?_ ?_ ?_ ?_ ?_ ?_ ?_ ?_ ?_ ?_ ?_ ?_ ?_ ?_ ?_ ?_ ?_ ?_ ?_ ?_ ?_ ?_ ?_ ?_ ?_ ?_ ?_ ?_ ?_ ?_ ?_ ?_ ?_ ?_ ?_ ?_ ?_ ?_ ?_ ?_ ?_ ?_ ?_ ?_ ?_ ?_ ?_ ?_ ?_ ?_ ?_ ?_ ?_ ?_ ?_ ?_ ?_ ?_ ?_ ?_ ?_ ?_ ?_ ?_ ?_ ?_ ?_ ?_ ?_ ?_
  all_goals try k_is
  all_goals kernel_rfl
