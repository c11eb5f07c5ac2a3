import PyProof.Rows.All
import Wide.All
import OpenK.AllK
import Wide.FinOn
import Lean
import PyProof.EqAt
import PyProof.EqKinds
import PyProof.TupleCall
import KE.KDictSum
import KE.KTryDeep
import KE.KTryMore
import PyProof.NsDelKeeps
import PyProof.FString
import PyProof.Rows.SetFrom
import PySem.Challenge.RW_nearstairs_k26_orders_of_stairs
open List (all_cons all_eq_true any_cons append_assoc append_nil erase_sublist filter_cons filter_sublist find?_cons getD_eq_getElem?_getD getElem?_append_left getElem?_append_right getElem?_eq_getElem getElem?_eq_none getElem?_eq_some_iff getElem?_map getElem?_range getElem?_set_ne getElem?_set_self getElem_mem length_append length_cons length_drop length_map length_range length_set length_singleton length_take map_append map_cons map_nil map_set mem_append mem_append_left mem_append_right mem_cons mem_cons_of_mem mem_cons_self mem_filter mem_filterMap mem_iff_getElem? mem_map mem_map_of_mem mem_of_getElem? mem_of_mem_erase mem_range mem_replicate mem_singleton nodup_cons nodup_nil not_mem_nil pairwise_cons take_length)
set_option Elab.async false
set_option compiler.extract_closed false
set_option linter.all false
set_option maxRecDepth 100000
namespace L2
open PySem PySem.Spec PyProof.Rows
abbrev Key:=Sum Int Str
def keyIs:Key->Value->Bool
 | .inl k,v=>Value.isInt k v
 | .inr x,v=>Value.isStrOf x v
def keyH (w:World):Key->Int
 | .inl k=>hashInt k
 | .inr x=>hashStr w x
theorem ZD:∀ {k:Key} {v:Value},keyIs k v=true->(∃ i t,k=Sum.inl i/\v=Value.int i t)\/(∃ x t,k=Sum.inr x/\v=Value.str x t)
 | .inl i,v,h=>by
  obtain ⟨t,e⟩:=Value.isInt_shape (k:=i) (v:=v) h
  exact .inl ⟨i,t,rfl,e⟩
 | .inr x,v,h=>by
  obtain ⟨t,e⟩:=Value.isStrOf_shape (x:=x) (v:=v) h
  exact .inr ⟨x,t,rfl,e⟩
theorem ZjA (i:Int) (t:Tok):keyIs (.inl i) (.int i t)=true:=by simp [keyIs,Value.isInt]
theorem ZjB (x:Str) (t:Tok):keyIs (.inr x) (.str x t)=true:=by simp [keyIs,Value.isStrOf]
theorem ZnS (a b:Int):decide ((Sum.inl a:Key)=Sum.inl b)=(a == b):=by
 by_cases e:a=b
 .subst e; simp
 .have h:¬ (Sum.inl a:Key)=Sum.inl b:=λq=>e (Sum.inl.inj q)
  rw [decide_eq_false h]
  exact (beq_eq_false_iff_ne.mpr e).symm
theorem ZnT (a b:Str):decide ((Sum.inr a:Key)=Sum.inr b)=decide (a=b):=by
 by_cases e:a=b
 .subst e; simp
 .have h:¬ (Sum.inr a:Key)=Sum.inr b:=λq=>e (Sum.inr.inj q)
  rw [decide_eq_false h,decide_eq_false e]
theorem ZnU (a:Int) (b:Str):decide ((Sum.inl a:Key)=Sum.inr b)=false:=decide_eq_false (λq=>nomatch q)
theorem ZnV (a:Str) (b:Int):decide ((Sum.inr a:Key)=Sum.inl b)=false:=decide_eq_false (λq=>nomatch q)
def ZE (prog:Program) (w:World):PySem.KeyKind prog w Key where
 is:=keyIs
 hash:=keyH w
 inj:=λv a b ha hb=>by
  rcases ZD ha with ⟨i,t,rfl,rfl⟩ | ⟨x,t,rfl,rfl⟩
  .rcases ZD hb with ⟨j,u,rfl,e⟩ | ⟨y,u,rfl,e⟩
   .injection e with e1 _; rw [e1]
   .exact nomatch e
  .rcases ZD hb with ⟨j,u,rfl,e⟩ | ⟨y,u,rfl,e⟩
   .exact nomatch e
   .injection e with e1 _; rw [e1]
 byValue:=λk v h=>by
  rcases ZD h with ⟨i,t,rfl,rfl⟩ | ⟨x,t,rfl,rfl⟩ <;> rfl
 pyHash:=λhv h=>by
  rcases ZD hv with ⟨i,t,rfl,rfl⟩ | ⟨x,t,rfl,rfl⟩
  .exact wpAny_pyHash_int h
  .exact wpAny_pyHash_str h
 eqBool:=λhu hv h=>by
  rcases ZD hu with ⟨i,t,rfl,rfl⟩ | ⟨x,t,rfl,rfl⟩
  .rcases ZD hv with ⟨j,u,rfl,rfl⟩ | ⟨y,u,rfl,rfl⟩
   .rw [ZnS] at h; exact wpAny_eqBool_int h
   .rw [ZnU] at h; exact SeqAt.EqAt.int_str i t y u _ _ _ _ h
  .rcases ZD hv with ⟨j,u,rfl,rfl⟩ | ⟨y,u,rfl,rfl⟩
   .rw [ZnV] at h; exact SeqAt.EqAt.str_int x t j u _ _ _ _ h
   .rw [ZnT] at h; exact wpAny_eqBool_str h
 «strs»:=λk x t v h=>by
  rcases ZD h with ⟨i,u,rfl,e⟩ | ⟨y,u,rfl,e⟩
  .exact nomatch e
  .injection e with e1 _
   subst e1
   cases v <;> rfl
theorem Zjg (prog:Program) (w:World) (k:Key) (v:Value):(ZE prog w).is k v=keyIs k v:=rfl
theorem Zht (prog:Program) (w:World) (i:Int) (t:Tok):(ZE prog w).is (.inl i) (.int i t)=true:=ZjA i t
theorem Zhu (prog:Program) (w:World) (x:Str) (t:Tok):(ZE prog w).is (.inr x) (.str x t)=true:=ZjB x t
inductive V where
 | non | bl (b:Bool) | int (i:Int) | str (x:Str) | byt (b:Array UInt8) | flt (b:UInt64) | ref (a:Addr) | ty (n:String)
 deriving DecidableEq
def RelV:V->Value->Prop
 | .non,u=>u=Value.none
 | .bl b,u=>u=Value.bool b
 | .int i,u=>∃ t,u=Value.int i t
 | .str x,u=>∃ t,u=Value.str x t
 | .byt b,u=>∃ t,u=Value.bytes b t
 | .flt b,u=>∃ t,u=Value.float b t
 | .ref a,u=>u=Value.ref a
 | .ty n,u=>u=Value.type n
abbrev Vals:List V->List Value->Prop:=Paired RelV
theorem Vals.length {xs:List V} {us:List Value} (r:Vals xs us):xs.length=us.length:=Paired.length r
theorem Vals.get:∀ {xs:List V} {us:List Value} {i:Nat} {x:V},Vals xs us->xs[i]?=some x->∃ u,us[i]?=some u/\RelV x u
 | _,_,_,_,.nil,e=>by simp at e
 | _,_,0,_,.cons r _,e=>by simp at e; subst e; exact ⟨_,rfl,r⟩
 | _,_,i+1,x,.cons _ t,e=>by
  obtain ⟨u,h1,h2⟩:=Vals.get (i:=i) (x:=x) t (by simpa using e)
  exact ⟨u,by simpa using h1,h2⟩
theorem Vals.set {x:V} {u:Value} (r:RelV x u):∀ {xs:List V} {us:List Value} (i:Nat),Vals xs us->Vals (xs.set i x) (us.set i u)
 | _,_,_,.nil=>.nil
 | _,_,0,.cons _ t=>.cons r t
 | _,_,i+1,.cons q t=>.cons q (Vals.set r i t)
theorem Vals.append:∀ {xs ys:List V} {us ws:List Value},Vals xs us->Vals ys ws->Vals (xs++ys) (us++ws)
 | _,_,_,_,.nil,s=>s
 | _,_,_,_,.cons r t,s=>.cons r (Vals.append t s)
theorem Vals.take:∀ {xs:List V} {us:List Value} (n:Nat),Vals xs us->Vals (xs.take n) (us.take n)
 | _,_,0,_=>.nil
 | _,_,_+1,.nil=>.nil
 | _,_,n+1,.cons r t=>.cons r (Vals.take n t)
theorem Vals.drop:∀ {xs:List V} {us:List Value} (n:Nat),Vals xs us->Vals (xs.drop n) (us.drop n)
 | _,_,0,r=>r
 | _,_,_+1,.nil=>.nil
 | _,_,n+1,.cons _ t=>Vals.drop n t
def RelO:Option V->Option Value->Prop
 | some v,some u=>RelV v u
 | none,none=>True
 | _,_=>False
def KV {κ:Type}:List (κ×V)->List (κ×Value)->Prop:=Paired λ(p:κ×V) (q:κ×Value)=>p.1=q.1/\RelV p.2 q.2
def kV:Key->V
 | .inl i=>.int i
 | .inr x=>.str x
inductive HO where
  | lst (xs:List V)
  | tup (xs:List V)
  | dK (kvs:List (Key×V)) | dT (kvs:List (List Key×V))
  | set (S:Int->Bool) (n:Nat)
  | ins (C dx:Addr) (fs:List (Str×V))
  | own (x:Addr)
  | xd (fs:List (Str×V))
  | met (f x:Addr)
  | rng (lo hi:Int)
  | frz (o:Obj) (u:HO)
  | tbl (pos:Pos) (qual:Str)
  | ext (φ:Heap->Prop)
abbrev Hp:=Addr->Option HO
def upd (H:Hp) (a:Addr) (o:HO):Hp:=λb=>if b=a then some o else H b
theorem Za {H:Hp} {a:Addr} {o:HO}:upd H a o a=some o:=by unfold upd; rw [if_pos rfl]
theorem Zc {H:Hp} {a b:Addr} {o:HO} (h:b≠a):upd H a o b=H b:=by unfold upd; rw [if_neg h]
theorem Zfx {H:Hp} {a:Addr} {o u:HO}:upd (upd H a o) a u=upd H a u:=by
 funext b; unfold upd; split <;> rfl
theorem ne_of {H:Hp} {a b:Addr} {o u:HO} (h:H a=some o) (h':H b=some u) (d:o≠u):a≠b:=by
 intro e; subst e; rw [h] at h'; exact d (Option.some.inj h')
theorem Ze {H:Hp} {a b:Addr} {o:HO} (h:H a=some o) (h':H b=none):a≠b:=by
 intro e; subst e; rw [h] at h'; cases h'
section
variable (P:Program) (w:World)
def ObjOk (H:Hp) (h:Heap) (a:Addr):HO->Prop
 | .lst xs=>xs.length<=sizeLine/\∃ (its:List Value) (n:Nat),Vals xs its/\h.get? a=some { cls:=.type "list",data:=.seq its.toArray n }
 | .tup xs=>xs.length<=sizeLine/\∃ its:List Value,Vals xs its/\IsTup h a its.toArray
 | .dK kvs=>kvs.length<=sizeLine/\(a == sysModules)=false/\∃ vs,KV kvs vs/\h.DictOf (ZE P w) a vs
 | .dT kvs=>kvs.length<=sizeLine/\(a == sysModules)=false/\∃ xs:List (List Key×Addr×Value),
   Paired (λ(p:List Key×V) (q:List Key×Addr×Value)=>p.1=q.1/\H q.2.1=some (.tup (p.1.map kV))/\RelV p.2 q.2.2) kvs xs /\
   ∃ o es ep,h.get? a=some o/\o.ExactDict/\o.data=.dict es ep/\es.toList=xs.map (entryOfKey (tupleKind (ZE P w)))/\(xs.map (·.1)).Nodup
 | .set S n=>h.SetOf (intKind P w) a S n
 | .ins C dx fs=>H dx=some (.own a)/\fs.length<=1000/\dx≠a/\h.get? a=some (W.instObj C dx) /\
   ∃ mA,h.Ns1 dx mA/\(∀ f,RelO (fs.lookup f) (mA f))/\PySem.Within mA (fs.map (·.1))
 | .own _=>∃ o,h.get? a=some o
 | .xd fs=>∃ mA,h.Ns1 a mA/\∀ f,RelO (fs.lookup f) (mA f)
 | .rng lo hi=>∃ t u v,h.get? a=some { cls:=.type "range",data:=.fields #[.int lo t,.int hi u,.int 1 v] }
 | .frz o u=>h.get? a=some o/\ObjOk H h a u
 | .tbl pos qual=>∃ ps,h.get? a=some { cls:=.none,data:=.fields ps }/\TriplesOk ps.toList/\∀ cv,codeAmong pos ps.toList=some cv->∃ c oc vs t,cv=.ref c/\H c=some (.frz oc (.own a))/\oc.data=.fields vs/\vs[1]?=some (.str qual t)
 | .met f x=>h.get? a=some (W.methodObj (.ref f) (.ref x))
 | .ext φ=>φ h/\(∃ o,h.get? a=some o)/\∀ h1 h2:Heap,φ h1->(∀ o,h1.get? a=some o->h2.get? a=some o)->φ h2
def HOk (H:Hp) (h:Heap):Prop:=∀ a o,H a=some o->ObjOk P w H h a o
end
section
variable {P:Program} {w:World} {H H':Hp} {h h':Heap} {a:Addr} {o:HO}
theorem ObjOk.lt (x:ObjOk P w H h a o):a<h.objs.size:=by
 cases o with
 | lst xs=>obtain ⟨_,_,_,_,e⟩:=x; exact Heap.lt_size e
 | tup xs=>obtain ⟨_,_,_,p⟩:=x; exact p.lt
 | dK kvs=>obtain ⟨_,_,_,_,o,_,_,e,_⟩:=x; exact Heap.lt_size e
 | dT kvs=>obtain ⟨_,_,_,_,o,_,_,e,_⟩:=x; exact Heap.lt_size e
 | set S n=>obtain ⟨o,_,_,_,e,_⟩:=x; exact Heap.lt_size e
 | ins C dx fs=>obtain ⟨_,_,_,e,_⟩:=x; exact Heap.lt_size e
 | own y=>obtain ⟨_,e⟩:=x; exact Heap.lt_size e
 | xd fs=>obtain ⟨_,⟨_,_,_,e,_⟩,_⟩:=x; exact Heap.lt_size e
 | rng lo hi=>obtain ⟨_,_,_,e⟩:=x; exact Heap.lt_size e
 | frz ob u=>obtain ⟨e,_⟩:=x; exact Heap.lt_size e
 | tbl p q=>obtain ⟨_,e,_⟩:=x; exact Heap.lt_size e
 | met f y=>exact Heap.lt_size (show h.get? a=some _ from x)
 | ext φ=>obtain ⟨_,⟨_,e⟩,_⟩:=x; exact Heap.lt_size e
theorem Paired.mapP {α β:Type} {F G:α->β->Prop}:∀ {l₁:List α} {l₂:List β},Paired F l₁ l₂->(∀ a b,F a b->G a b)->Paired G l₁ l₂
 | _,_,.nil,_=>.nil
 | _,_,.cons r t,f=>.cons (f _ _ r) (Paired.mapP t f)
theorem ObjOk.stay (x:ObjOk P w H h a o) (k:∀ b u,(b=a\/H b=some (.own a))->h.get? b=some u->h'.get? b=some u)
  (ho:∀ b,H b=some (.own a)->H' b=some (.own a)) (ht:∀ b xs,H b=some (.tup xs)->H' b=some (.tup xs))
  (hz:∀ b oz,H b=some (.frz oz (.own a))->H' b=some (.frz oz (.own a)):=by exact λ_ _ q=>q):ObjOk P w H' h' a o:=by
 induction o with
 | lst xs=>obtain ⟨z,its,n,r,e⟩:=x; exact ⟨z,its,n,r,k _ _ (.inl rfl) e⟩
 | tup xs=>obtain ⟨z,its,r,ob,e,c⟩:=x; exact ⟨z,its,r,ob,k _ _ (.inl rfl) e,c⟩
 | dK kvs=>obtain ⟨z,y,vs,r,ob,es,ep,e,c⟩:=x; exact ⟨z,y,vs,r,ob,es,ep,k _ _ (.inl rfl) e,c⟩
 | dT kvs =>
  obtain ⟨z,y,xs,r,ob,es,ep,e,c⟩:=x
  exact ⟨z,y,xs,Paired.mapP r λp q z=>⟨z.1,ht _ _ z.2.1,z.2.2⟩,ob,es,ep,k _ _ (.inl rfl) e,c⟩
 | set S n=>obtain ⟨ob,es,ep,t,e,c⟩:=x; exact ⟨ob,es,ep,t,k _ _ (.inl rfl) e,c⟩
 | ins C dx fs =>
  obtain ⟨d,z,ne,e,mA,⟨od,es,ep,e2,c⟩,r⟩:=x
  exact ⟨ho _ d,z,ne,k _ _ (.inl rfl) e,mA,⟨od,es,ep,k _ _ (.inr d) e2,c⟩,r⟩
 | own y=>obtain ⟨ob,e⟩:=x; exact ⟨ob,k _ _ (.inl rfl) e⟩
 | xd fs=>obtain ⟨mA,⟨od,es,ep,e,c⟩,r⟩:=x; exact ⟨mA,⟨od,es,ep,k _ _ (.inl rfl) e,c⟩,r⟩
 | rng lo hi=>obtain ⟨t,u,v,e⟩:=x; exact ⟨t,u,v,k _ _ (.inl rfl) e⟩
 | frz ob u ih=>obtain ⟨e,q⟩:=x; exact ⟨k _ _ (.inl rfl) e,ih q⟩
 | tbl p q =>
  obtain ⟨ps,e,tr,hc⟩:=x
  refine ⟨ps,k a _ (.inl rfl) e,tr,λcv e1=>?_⟩
  obtain ⟨c,oc,vs,tt,z,e2,r⟩:=hc cv e1
  exact ⟨c,oc,vs,tt,z,hz _ _ e2,r⟩
 | met f y =>
  have e:h.get? a=some (W.methodObj (.ref f) (.ref y)):=x
  show h'.get? a=some (W.methodObj (.ref f) (.ref y))
  exact k a _ (.inl rfl) e
 | ext φ=>obtain ⟨p,⟨o,e⟩,st⟩:=x; exact ⟨st _ _ p λo q=>k _ _ (.inl rfl) q,⟨o,k _ _ (.inl rfl) e⟩,st⟩
theorem HOk.lt (x:HOk P w H h) (e:H a=some o):a<h.objs.size:=(x a o e).lt
theorem HOk.fresh (x:HOk P w H h) (e:h.objs.size<=a):H a=none:=by
 cases q:H a with
 | none=>rfl
 | some u=>exact absurd (Nat.lt_of_lt_of_le (x.lt q) e) (Nat.lt_irrefl _)
theorem HOk.kept (x:HOk P w H h) (k:∀ b u,h.get? b=some u->h'.get? b=some u):HOk P w H h':=λa o e =>
 (x a o e).stay (λb u _ q=>k b u q) (λ_ q=>q) λ_ _ q=>q
theorem HOk.laid (x:HOk P w H h) (k:∀ b u,h.get? b=some u->h'.get? b=some u) (hp:h.objs.size<=a) (new:ObjOk P w (upd H a o) h' a o):HOk P w (upd H a o) h':=λb u e=>by
 have hn:=x.fresh hp
 by_cases hb:b=a
 .subst hb; rw [Za] at e; cases e; exact new
 .rw [Zc hb] at e
  exact (x b u e).stay (λc v _ q=>k c v q) (λc q=>by rw [Zc (Ze q hn)]; exact q) (λc xs q=>by rw [Zc (Ze q hn)]; exact q) λc oz q=>by rw [Zc (Ze q hn)]; exact q
end
def Rd (H:Hp) (a:Addr) (u:HO):Prop:=H a=some u\/∃ o,H a=some (.frz o u)
theorem Rd.ok {P:Program} {w:World} {H:Hp} {h:Heap} {a:Addr} {u:HO} (r:Rd H a u) (x:HOk P w H h):ObjOk P w H h a u:=by
 rcases r with r | ⟨o,r⟩
 .exact x a u r
 .obtain ⟨_,q⟩:=x a _ r
  exact q
def Mut:Option HO->Prop
 | some (.lst _)=>True
 | some (.dK _)=>True
 | some (.dT _)=>True
 | some (.set _ _)=>True
 | some (.ins _ _ _)=>True
 | some (.ext _)=>True
 | _=>False
section
variable {P:Program} {w:World} {H:Hp} {h h':Heap} {x e:Addr} {o':HO}
theorem HOk.write (ok:HOk P w H h) (mu:Mut (H x)) (he:e=x\/H e=some (.own x)) (k:∀ b u,b≠e->h.get? b=some u->h'.get? b=some u) (heo:∃ u,h'.get? e=some u)
  (new:ObjOk P w (upd H x o') h' x o'):HOk P w (upd H x o') h':=λb u q=>by
 have nown:∀ c y,H c=some (.own y)->c≠x:=λc y r z=>by subst z; rw [r] at mu; exact mu
 have ntup:∀ c xs,H c=some (.tup xs)->c≠x:=λc xs r z=>by subst z; rw [r] at mu; exact mu
 by_cases hb:b=x
 .subst hb; rw [Za] at q; cases q; exact new
 .rw [Zc hb] at q
  by_cases hbe:b=e
  .have q':H b=some (.own x):=by
    rcases he with z | z
    .exact absurd (hbe.trans z) hb
    .rw [hbe]; exact z
   rw [q] at q'; cases q'
   obtain ⟨v,hv⟩:=heo
   exact ⟨v,by rw [hbe]; exact hv⟩
  .refine (ok b u q).stay (λc v hc r=>k c v ?_ r) (λc r=>by rw [Zc (nown c b r)]; exact r) (λc xs r=>by rw [Zc (ntup c xs r)]; exact r) λc oz r=>by rw [Zc (λz=>by subst z; rw [r] at mu; exact mu)]; exact r
   rcases hc with rfl | hc
   .exact hbe
   .rintro rfl
    rcases he with z | z
    .exact nown c b hc z
    .rw [hc] at z; cases z; exact hb rfl
end
structure Un (fs ex:List Addr) (H H':Hp) (h h':Heap):Prop where
 keep:∀ b o,h.get? b=some o->H b=none->b∉fs->b∉ex->h'.get? b=some o
 slot:∀ b o,h.get? b=some o->H b=none->b∈fs->b∉ex->∃ sl,h'.get? b=some { o with slots:=sl }
 free:∀ b o,h.get? b=some o->H b=none->b∉ex->H' b=none
 there:∀ b o,h.get? b=some o->b∉ex->∃ o',h'.get? b=some o'
 tups:∀ b xs,H b=some (.tup xs)->H' b=some (.tup xs)
 frzs:∀ b o u,H b=some (.frz o u)->H' b=some (.frz o u)
 tbls:∀ b p q,H b=some (.tbl p q)->H' b=some (.tbl p q)
section
variable {fs fs' ex ex':List Addr} {H H1 H2:Hp} {h h1 h2 h':Heap} {a x e:Addr} {o:HO}
theorem Un.any (u:Un fs ex H H1 h h1) {b:Addr} {ob:Obj} (q:h.get? b=some ob) (n:H b=none) (hx:b∉ex):∃ sl,h1.get? b=some { ob with slots:=sl }:=by
 by_cases hb:b∈fs
 .exact u.slot b ob q n hb hx
 .exact ⟨ob.slots,u.keep b ob q n hb hx⟩
theorem Un.kept (k:∀ b u,h.get? b=some u->h'.get? b=some u):Un fs ex H H h h' :=
 ⟨λb ob q _ _ _=>k b ob q,λb ob q _ _ _=>⟨ob.slots,k b ob q⟩,λ_ _ _ n _=>n,λb ob q _=>⟨ob,k b ob q⟩,λ_ _ q=>q,λ_ _ _ q=>q,λ_ _ _ q=>q⟩
theorem Un.refl:Un fs ex H H h h:=Un.kept λ_ _ q=>q
theorem Un.laid (k:∀ b u,h.get? b=some u->h'.get? b=some u) (hp:h.objs.size<=a) (hn:H a=none):Un fs ex H (upd H a o) h h' where
 keep:=λb u q _ _ _=>k b u q
 slot:=λb u q _ _ _=>⟨u.slots,k b u q⟩
 free:=λb u q n _=>by rw [Zc (Nat.ne_of_lt (Nat.lt_of_lt_of_le (Heap.lt_size q) hp))]; exact n
 there:=λb u q _=>⟨u,k b u q⟩
 tups:=λb xs q=>by rw [Zc (Ze q hn)]; exact q
 frzs:=λb u xs q=>by rw [Zc (Ze q hn)]; exact q
 tbls:=λb _ _ q=>by rw [Zc (Ze q hn)]; exact q
theorem Un.write (mu:Mut (H x)) (he:e=x\/H e=some (.own x)) (k:∀ b u,b≠e->h.get? b=some u->h'.get? b=some u) (heo:∃ u,h'.get? e=some u):Un fs ex H (upd H x o) h h':=by
 have hx:∀ b,H b=none->b≠x:=λb n z=>by subst z; rw [n] at mu; exact mu
 have hb:∀ b,H b=none->b≠e:=λb n z=>by
  subst z
  rcases he with r | r
  .exact hx b n r
  .rw [n] at r; cases r
 have hm:∀ b u,H b=some u->¬ Mut (some u)->b≠x:=λb u q nm z=>by subst z; rw [q] at mu; exact nm mu
 refine ⟨λb u q n _ _=>k b u (hb b n) q,λb u q n _ _=>⟨u.slots,k b u (hb b n) q⟩,λb u q n _=>by rw [Zc (hx b n)]; exact n,λb u q _=>?_,
  λb xs q=>by rw [Zc (hm b _ q λz=>z)]; exact q,λb u xs q=>by rw [Zc (hm b _ q λz=>z)]; exact q,λb _ _ q=>by rw [Zc (hm b _ q λz=>z)]; exact q⟩
 by_cases hbe:b=e
 .subst hbe; exact heo
 .exact ⟨u,k b u hbe q⟩
end
def trk (h:Heap) (H:Hp):List Addr:=(List.range h.objs.size).filter λa=>(H a).isSome
def hidT (h:Heap) (H:Hp):Heap:=W.hideAll h (trk h H)
theorem ZjC (h:Heap) (H:Hp):(hidT h H).objs.size=h.objs.size:=W.hideAll_size _ _
theorem Zfy {h:Heap} {H:Hp} {b:Addr} {o:Obj} (e:h.get? b=some o) (n:H b=none):(hidT h H).get? b=some o :=
 W.hideAll_get _ e λhm=>by
  have q:(H b).isSome=true:=(List.mem_filter.mp hm).2
  rw [n] at q; simp at q
theorem ZmR {h:Heap} {H:Hp} {b:Addr} {o:Obj} (e:(hidT h H).get? b=some o):h.get? b=some o/\H b=none:=by
 have e':h.get? b=some o:=W.of_hideAll (trk h H) e
 refine ⟨e',?_⟩
 cases q:H b with
 | none=>rfl
 | some x =>
  have hm:b∈trk h H:=List.mem_filter.mpr ⟨List.mem_range.mpr (Heap.lt_size e'),by simp [q]⟩
  have z:(hidT h H).get? b=none:=W.hideAll_none (trk h H) hm
  rw [z] at e; cases e
structure Mod (K:W.Frag) (mg:Str->Option Value) (base:Heap):Prop where
 kin:K.In base
 glob:base.Ns mainGlobals mg
 blt:∃ mb,base.Ns builtinsNs mb/\∀ x:Str,x ≠ "__name__" -> mb x=bootBuiltins x
 nolimit:base.NoLimit
structure Cx where
 prog:Program
 w:World
 K:W.Frag
 mg:Str->Option Value
 base:Heap
 A:Around
 N:List Str
 s₀:Shared
 H₀:Hp
 env:Env
 outer:List Env
 stack:List Env
 ex:List Addr
 fn:Str->Bool
 calm:Bool
 pn:List (Addr×Obj)
 xe:Value->Shared->Prop
def frs (l:List Env):List Addr:=l.filterMap (·.frame)
abbrev Cx.fs (X:Cx):List Addr:=frs X.outer
def Vis (sc:Scope) (x:Str):Prop:=sc.names.lookup x=some .local\/sc.names.lookup x=some .cell\/sc.names.lookup x=some .free
def Loc (sc:Scope) (x:Str):Prop:=sc.names.lookup x=some .local\/sc.names.lookup x=some .cell
def Look (env:Env) (h:Heap) (m:Str->Option Value) (x:Str) (u:Value):Prop :=
 (env.kindOf x=some .local/\m x=some u)\/((env.kindOf x=some .cell\/env.kindOf x=some .free)/\∃ c,env.cells.lookup x=some c/\h.IsCell c (some u))
structure Cx.Ok (X:Cx):Prop where
 mod:Mod X.K X.mg X.base
 kind:X.env.scope.kind=.function
 glob:X.env.globals=mainGlobals
 blt:X.env.builtins=builtinsNs
 above:X.s₀.heap.objs.size<=X.env.locals
 inj:∀ x y c,X.env.cells.lookup x=some c->X.env.cells.lookup y=some c->x=y
 has:∀ x,(X.env.kindOf x=some .cell\/X.env.kindOf x=some .free)->∃ c,X.env.cells.lookup x=some c
 cab:∀ x c,X.fn x=true->X.env.cells.lookup x=some c->X.s₀.heap.objs.size<=c
 hd:X.calm=true->X.A.handled=none
 frames:X.A.frames=some X.stack
 stk:X.stack=X.outer\/(X.stack=X.env :: X.outer/\X.env.frame=some X.env.locals)
 exf:∀ b∈X.ex,b≠X.env.locals/\∀ x c,X.env.cells.lookup x=some c->c≠b
 bs:∀ b o,X.base.get? b=some o->X.s₀.heap.get? b=some o/\X.H₀ b=none
 bsz:X.base.objs.size<=X.s₀.heap.objs.size
 noex:∀ b o,X.base.get? b=some o->b∉X.ex
 exfs:∀ b∈X.ex,b∉X.fs
 funs:X.s₀.heap.FunFrames X.base X.outer
 frf:∀ b∈X.fs,X.H₀ b=none
structure Inv (X:Cx) (pins:List (Addr×Obj)) (σ:List (Option V)) (H:Hp) (s:Shared):Prop where
 ok:X.Ok
 os:s.os=X.s₀.os
 bare:AllBare s.gens
 base:Un X.fs X.ex X.H₀ H X.s₀.heap s.heap
 loc:∃ m,s.heap.Ns X.env.locals m/\∀ (i:Nat) (x:Str) (v:V),X.N[i]?=some x->σ[i]?=some (some v)->Vis X.env.scope x->∃ u,RelV v u/\Look X.env s.heap m x u
 cell:∀ x c,X.env.cells.lookup x=some c->∃ v,s.heap.IsCell c v
 free:H X.env.locals=none
 freeC:∀ x c,X.env.cells.lookup x=some c->H c=none
 pin:∀ p∈X.pn++pins,s.heap.get? p.1=some p.2/\H p.1=none/\p.1≠X.env.locals/\p.1∉X.fs/\∀ v,p.2.data≠.cell v
 hok:HOk X.prog X.w H s.heap
 len:σ.length=X.N.length
section
variable {X:Cx} {pins:List (Addr×Obj)} {σ:List (Option V)} {H H':Hp} {s:Shared} {h':Heap}
theorem Cx.Ok.nofr (ok:X.Ok) {b:Addr} {o:Obj} (e:X.base.get? b=some o):b∉X.fs:=λhb=>by
 have:=(ok.funs.mem hb).1
 rw [e] at this; cases this
theorem Inv.bs (I:Inv X pins σ H s):∀ b o,X.base.get? b=some o->s.heap.get? b=some o/\H b=none:=λb o e =>
 ⟨I.base.keep b o (I.ok.bs b o e).1 (I.ok.bs b o e).2 (I.ok.nofr e) (I.ok.noex b o e),I.base.free b o (I.ok.bs b o e).1 (I.ok.bs b o e).2 (I.ok.noex b o e)⟩
theorem Inv.bk (I:Inv X pins σ H s):∀ b o,X.base.get? b=some o->s.heap.get? b=some o:=λb o e=>(I.bs b o e).1
theorem Inv.mod (I:Inv X pins σ H s):Mod X.K X.mg X.base:=I.ok.mod
theorem Inv.kIn (I:Inv X pins σ H s):X.K.In s.heap:=I.ok.mod.kin.keeps I.bk
theorem Inv.nolimit (I:Inv X pins σ H s):s.heap.NoLimit:=I.ok.mod.nolimit.keeps I.bk
theorem Inv.lt (I:Inv X pins σ H s):X.env.locals<s.heap.objs.size:=let ⟨_,hn,_⟩:=I.loc; hn.lt
theorem Inv.sz (I:Inv X pins σ H s):X.s₀.heap.objs.size<=s.heap.objs.size:=Nat.le_trans I.ok.above (Nat.le_of_lt I.lt)
theorem Inv.nofs (I:Inv X pins σ H s) {a:Addr} (h:s.heap.objs.size<=a):a∉X.fs:=λhb=>by
 obtain ⟨_,o,ho,_⟩:=I.ok.funs.mem hb
 exact absurd (Nat.lt_of_lt_of_le (Heap.lt_size ho) (Nat.le_trans I.sz h)) (Nat.lt_irrefl _)
theorem Inv.cne (I:Inv X pins σ H s):∀ x c,X.env.cells.lookup x=some c->c≠X.env.locals:=λx c e z=>by
 obtain ⟨v,o,ho,hd⟩:=I.cell x c e
 obtain ⟨m,⟨o',es,ep,ho',hd',_⟩,_⟩:=I.loc
 rw [z,ho'] at ho; cases ho; rw [hd'] at hd; cases hd
theorem Inv.funs (I:Inv X pins σ H s):s.heap.FunFrames X.base X.outer:=by
 have all:∀ (l:List Env),(∀ b∈frs l,b∈X.fs)->X.s₀.heap.FunFrames X.base l->s.heap.FunFrames X.base l:=by
  intro l
  induction l with
  | nil=>intro _ _; trivial
  | cons env r ih =>
   intro hs hl
   obtain ⟨hk,⟨L,o,hf,hn,ho,hd⟩,hr⟩:=hl
   have hL:L∈X.fs:=hs L (by unfold frs; rw [List.filterMap_cons,hf]; exact mem_cons_self)
   obtain ⟨sl,e⟩:=I.base.slot L o ho (I.ok.frf L hL) hL λz=>I.ok.exfs L z hL
   exact ⟨hk,⟨L,_,hf,hn,e,hd⟩,ih (λb hb=>hs b (by unfold frs; rw [List.filterMap_cons,hf]; exact mem_cons_of_mem _ hb)) hr⟩
 exact all X.outer (λ_ hb=>hb) I.ok.funs
theorem Inv.stack (I:Inv X pins σ H s):s.heap.FunFrames X.base X.stack:=by
 rcases I.ok.stk with e | ⟨e,hf⟩
 .rw [e]; exact I.funs
 .rw [e]
  obtain ⟨m,hn,_⟩:=I.loc
  refine .cons (by rw [I.ok.kind]; decide) hf hn ?_ I.funs
  exact Heap.get?_none_of_le (Nat.le_trans I.ok.bsz I.ok.above)
theorem Inv.stkSub (I:Inv X pins σ H s):∀ b∈frs X.stack,b∈X.env.locals :: X.fs:=λb hb=>by
 rcases I.ok.stk with e | ⟨e,hf⟩
 .rw [e] at hb; exact mem_cons_of_mem _ hb
 .rw [e] at hb
  unfold frs at hb
  rw [List.filterMap_cons,hf] at hb
  exact hb
theorem Inv.stkFree (I:Inv X pins σ H s):∀ b∈frs X.stack,H b=none:=λb hb=>by
 rcases List.mem_cons.mp (I.stkSub b hb) with e | hb
 .rw [e]; exact I.free
 .obtain ⟨_,o,ho,_⟩:=I.ok.funs.mem hb
  exact I.base.free b o ho (I.ok.frf b hb) λz=>I.ok.exfs b z hb
theorem Inv.step {g':Array GenState} {t':Nat} {d':Drawn} {ch:List Addr} (I:Inv X pins σ H s)
  (hch:∀ b∈ch,(b∈X.ex\/X.s₀.heap.objs.size<=b)/\b≠X.env.locals/\(∀ x c,X.env.cells.lookup x=some c->c≠b)/\∀ p∈X.pn++pins,p.1≠b)
  (keep:∀ b o,b≠X.env.locals->b∉X.fs->b∉ch->s.heap.get? b=some o->H b=none->h'.get? b=some o)
  (slot:∀ b o,b≠X.env.locals->b∈X.fs->b∉ch->s.heap.get? b=some o->H b=none->∃ sl,h'.get? b=some { o with slots:=sl }) (free:∀ b o,b∉ch->s.heap.get? b=some o->H b=none->H' b=none)
  (there:∀ b o,b∉ch->s.heap.get? b=some o->∃ o',h'.get? b=some o')
  (tups:∀ b xs,H b=some (.tup xs)->H' b=some (.tup xs)) (frzs:∀ b o u,H b=some (.frz o u)->H' b=some (.frz o u)) (tbls:∀ b p q,H b=some (.tbl p q)->H' b=some (.tbl p q))
  (ns:∀ m,s.heap.Ns X.env.locals m->h'.Ns X.env.locals m) (hok:HOk X.prog X.w H' h') (hg:AllBare g') :
  Inv X pins σ H' { s with heap:=h',gens:=g',drawn:=d',toks:=t' }:=by
 have neL:∀ b o,X.s₀.heap.get? b=some o->b≠X.env.locals:=λb o e=>Nat.ne_of_lt (Nat.lt_of_lt_of_le (Heap.lt_size e) I.ok.above)
 have neC:∀ b o,X.s₀.heap.get? b=some o->b∉X.ex->b∉ch:=λb o e hx hb=>by
  rcases (hch b hb).1 with z | z
  .exact hx z
  .exact absurd (Nat.lt_of_lt_of_le (Heap.lt_size e) z) (Nat.lt_irrefl _)
 have cellK:∀ x c,X.env.cells.lookup x=some c->∀ v,s.heap.IsCell c v->h'.IsCell c v:=λx c e v ⟨o,ho,hd⟩=>by
  have nch:c∉ch:=λz=>(hch c z).2.2.1 x c e rfl
  by_cases hc:c∈X.fs
  .obtain ⟨sl,q⟩:=slot c o (I.cne x c e) hc nch ho (I.freeC x c e)
   exact ⟨_,q,hd⟩
  .exact ⟨o,keep c o (I.cne x c e) hc nch ho (I.freeC x c e),hd⟩
 refine ⟨I.ok,I.os,hg,⟨λb o e n hb hx=>?_,λb o e n hb hx=>?_,λb o e n hx=>?_,λb o e hx=>?_,λb xs e=>tups b xs (I.base.tups b xs e),λb o xs e=>frzs b o xs (I.base.frzs b o xs e),λb p r e=>tbls b p r (I.base.tbls b p r e)⟩,?_,λx c e=>?_,?_,λx c e=>?_,λp hp=>?_,hok,I.len⟩
 .exact keep b o (neL b o e) hb (neC b o e hx) (I.base.keep b o e n hb hx) (I.base.free b o e n hx)
 .obtain ⟨sl,e1⟩:=I.base.slot b o e n hb hx
  obtain ⟨sl',e2⟩:=slot b _ (neL b o e) hb (neC b o e hx) e1 (I.base.free b o e n hx)
  exact ⟨sl',e2⟩
 .obtain ⟨o',e1⟩:=I.base.there b o e hx
  exact free b o' (neC b o e hx) e1 (I.base.free b o e n hx)
 .obtain ⟨o',e1⟩:=I.base.there b o e hx
  exact there b o' (neC b o e hx) e1
 .obtain ⟨m,hn,hl⟩:=I.loc
  refine ⟨m,ns m hn,λi x v e1 e2 e3=>?_⟩
  obtain ⟨u,r,l⟩:=hl i x v e1 e2 e3
  refine ⟨u,r,?_⟩
  rcases l with l | ⟨k,c,e,z⟩
  .exact .inl l
  .exact .inr ⟨k,c,e,cellK x c e _ z⟩
 .obtain ⟨v,z⟩:=I.cell x c e
  exact ⟨v,cellK x c e v z⟩
 .obtain ⟨m,⟨o,_,_,ho,_⟩,_⟩:=I.loc
  exact free _ o (λz=>(hch _ z).2.1 rfl) ho I.free
 .obtain ⟨v,o,ho,hd⟩:=I.cell x c e
  exact free c o (λz=>(hch c z).2.2.1 x c e rfl) ho (I.freeC x c e)
 .obtain ⟨e,n,ne,nf,d⟩:=I.pin p hp
  have nch:p.1∉ch:=λz=>(hch p.1 z).2.2.2 p hp rfl
  exact ⟨keep p.1 p.2 ne nf nch e n,free p.1 p.2 nch e n,ne,nf,d⟩
theorem Inv.un {t':Nat} (I:Inv X pins σ H s) (u:Un X.fs [] H H' s.heap h') (hok:HOk X.prog X.w H' h'):Inv X pins σ H' { s with heap:=h',toks:=t' }:=by
 obtain ⟨m,⟨o,es,ep,ho,r⟩,_⟩:=id I.loc
 obtain ⟨sl,hL⟩:=u.any ho I.free (by simp)
 exact I.step (g':=s.gens) (d':=s.drawn) (ch:=[]) (λ_ z=>nomatch z) (λb o _ hb _ e n=>u.keep b o e n hb (by simp)) (λb o _ hb _ e n=>u.slot b o e n hb (by simp)) (λb o _ e n=>u.free b o e n (by simp)) (λb o _ e=>u.there b o e (by simp)) u.tups u.frzs u.tbls (λm' hm=>by
  obtain ⟨o',es',ep',ho',r'⟩:=hm
  rw [ho] at ho'; cases ho'
  exact ⟨_,es',ep',hL,r'⟩) hok I.bare
theorem Inv.call {g':Array GenState} {t':Nat} {d':Drawn} {ch:List Addr} (I:Inv X pins σ H s) (u:Un (frs X.stack) ch H H' s.heap h') (hok:HOk X.prog X.w H' h') (hg:AllBare g')
  (hch:∀ b∈ch,(b∈X.ex\/X.s₀.heap.objs.size<=b)/\b≠X.env.locals/\(∀ x c,X.env.cells.lookup x=some c->c≠b)/\∀ p∈X.pn++pins,p.1≠b) :
  Inv X pins σ H' { s with heap:=h',gens:=g',drawn:=d',toks:=t' }:=by
 obtain ⟨m,⟨o,es,ep,ho,r⟩,_⟩:=id I.loc
 obtain ⟨sl,hL⟩:=u.any ho I.free λz=>(hch _ z).2.1 rfl
 exact I.step (ch:=ch) hch (λb o hL hb hc e n=>u.keep b o e n (λz=>(List.mem_cons.mp (I.stkSub b z)).elim hL hb) hc) (λb o _ _ hc e n=>u.any e n hc) (λb o hc e n=>u.free b o e n hc) (λb o hc e=>u.there b o e hc) u.tups u.frzs u.tbls (λm' hm=>by
  obtain ⟨o',es',ep',ho',r'⟩:=hm
  rw [ho] at ho'; cases ho'
  exact ⟨_,es',ep',hL,r'⟩) hok hg
theorem Inv.turned {t':Nat} {it:Addr} (I:Inv X pins σ H s) (k:∀ b o,b≠it->s.heap.get? b=some o->h'.get? b=some o) (hn:H it=none) (hL:it≠X.env.locals)
  (h1:it∈X.ex\/X.s₀.heap.objs.size<=it) (h2:∀ x c,X.env.cells.lookup x=some c->c≠it) (h3:∀ p∈X.pn++pins,p.1≠it):Inv X pins σ H { s with heap:=h',toks:=t' }:=by
 have nit:∀ b u,H b=some u->b≠it:=λb u e z=>by rw [z,hn] at e; cases e
 refine I.step (g':=s.gens) (d':=s.drawn) (ch:=[it]) (λb hb=>?_) (λb o _ _ hc e _=>k b o (λz=>hc (by simp [z])) e) (λb o _ _ hc e _=>⟨o.slots,k b o (λz=>hc (by simp [z])) e⟩) (λ_ _ _ _ n=>n)
  (λb o hc e=>⟨o,k b o (λz=>hc (by simp [z])) e⟩) (λ_ _ e=>e) (λ_ _ _ e=>e) (λ_ _ _ e=>e) (λm hm=>?_) (λb u e=>?_) I.bare
 .have e:b=it:=by simpa using hb
  subst e
  exact ⟨h1,hL,h2,h3⟩
 .obtain ⟨o,es,ep,ho,r⟩:=hm
  exact ⟨o,es,ep,k _ o (Ne.symm hL) ho,r⟩
 .refine (I.hok b u e).stay (λc v hc q=>k c v ?_ q) (λ_ q=>q) λ_ _ q=>q
  rcases hc with z | z
  .rw [z]; exact nit b u e
  .exact nit c _ z
theorem Inv.tok (I:Inv X pins σ H s) (t:Nat):Inv X pins σ H { s with toks:=t }:=I.un (h':=s.heap) (t':=t) Un.refl I.hok
theorem Inv.kept {t':Nat} (I:Inv X pins σ H s) (k:∀ b u,s.heap.get? b=some u->h'.get? b=some u):Inv X pins σ H { s with heap:=h',toks:=t' }:=I.un (Un.kept k) (I.hok.kept k)
theorem Inv.laid {a:Addr} {o:HO} {t':Nat} (I:Inv X pins σ H s) (k:∀ b u,s.heap.get? b=some u->h'.get? b=some u) (hp:s.heap.objs.size<=a) (new:ObjOk X.prog X.w (upd H a o) h' a o) :
  Inv X pins σ (upd H a o) { s with heap:=h',toks:=t' }:=I.un (Un.laid k hp (I.hok.fresh hp)) (I.hok.laid k hp new)
theorem Inv.write {x e:Addr} {o:HO} {t':Nat} (I:Inv X pins σ H s) (mu:Mut (H x)) (he:e=x\/H e=some (.own x)) (k:∀ b u,b≠e->s.heap.get? b=some u->h'.get? b=some u) (heo:∃ u,h'.get? e=some u)
  (new:ObjOk X.prog X.w (upd H x o) h' x o):Inv X pins σ (upd H x o) { s with heap:=h',toks:=t' }:=I.un (Un.write mu he k heo) (I.hok.write mu he k heo new)
theorem Inv.pins_of {pins':List (Addr×Obj)} (I:Inv X pins σ H s) (h:∀ p∈pins',s.heap.get? p.1=some p.2/\H p.1=none/\p.1≠X.env.locals/\p.1∉X.fs/\∀ v,p.2.data≠.cell v):Inv X pins' σ H s :=
 ⟨I.ok,I.os,I.bare,I.base,I.loc,I.cell,I.free,I.freeC,λp hp=>(List.mem_append.mp hp).elim (λz=>I.pin p (mem_append_left _ z)) (h p),I.hok,I.len⟩
theorem Zfz {N:List Str} (hN:N.Nodup) {i j:Nat} {x:Str} (a:N[i]?=some x) (b:N[j]?=some x):i=j:=by
 obtain ⟨h1,e1⟩:=List.getElem?_eq_some_iff.mp a
 obtain ⟨h2,e2⟩:=List.getElem?_eq_some_iff.mp b
 exact (List.getElem_inj hN).mp (e1.trans e2.symm)
theorem Zgr {M:Model} {A:Around} {E:Value->Shared->Prop} {i:Nat} {x:Str} {v:V} {u:Value} {Q:Unit->Shared->Prop} (I:Inv X pins σ H s) (hN:X.N.Nodup) (hi:X.N[i]?=some x) (hx:Loc X.env.scope x) (r:RelV v u)
  (h:∀ s',Inv X pins (σ.set i (some v)) H s'->(∃ a,Heap.SameBut a s.heap s'.heap/\(a=X.env.locals\/X.env.cells.lookup x=some a))->Q () s') (hf:X.fn x=true\/X.env.scope.names.lookup x=some .local:=by first | exact .inl rfl | exact .inr rfl | assumption):wpAny M A (storeName X.env x u) Q E s:=by
 obtain ⟨m,hn,hl⟩:=id I.loc
 have hcls:(X.env.scope.kind == .class || (X.env.scope.kind == .module && X.env.locals != X.env.globals))=false:=by rw [I.ok.kind]; rfl
 have hiσ:i<σ.length:=by rw [I.len]; exact (List.getElem?_eq_some_iff.mp hi).1
 have cne:=I.cne
 have tracked:∀ {a:Addr} {h':Heap},(∃ o,s.heap.get? a=some o/\H a=none)->Heap.SameBut a s.heap h'->HOk X.prog X.w H h':=λ{a h'} ha hs b ob e=>by
  obtain ⟨_,_,hfree⟩:=ha
  refine (I.hok b ob e).stay (λc w' hc q=>(hs.2 c ?_).trans q) (λ_ q=>q) λ_ _ q=>q
  rintro rfl
  rcases hc with rfl | hc
  .rw [hfree] at e; cases e
  .rw [hfree] at hc; cases hc
 rcases hx with hk | hk
 .refine wpAny_storeName_local hk hn (λh' hn' hs=>?_) hcls
  obtain ⟨oL,_,_,hoL,_⟩:=id hn
  refine h _ ⟨I.ok,I.os,I.bare,⟨λb o e n hb hx=>?_,λb o e n hb hx=>?_,I.base.free,λb o e hx=>?_,I.base.tups,I.base.frzs,I.base.tbls⟩,⟨_,hn',λj y v' e1 e2 e3=>?_⟩,λy c e=>?_,I.free,I.freeC,λp hp=>?_,tracked ⟨oL,hoL,I.free⟩ hs,by simpa using I.len⟩ ⟨_,hs,.inl rfl⟩
  .exact (hs.2 b (Nat.ne_of_lt (Nat.lt_of_lt_of_le (Heap.lt_size e) I.ok.above))).trans (I.base.keep b o e n hb hx)
  .obtain ⟨sl,e1⟩:=I.base.slot b o e n hb hx
   exact ⟨sl,(hs.2 b (Nat.ne_of_lt (Nat.lt_of_lt_of_le (Heap.lt_size e) I.ok.above))).trans e1⟩
  .obtain ⟨o',e1⟩:=I.base.there b o e hx
   exact ⟨o',(hs.2 b (Nat.ne_of_lt (Nat.lt_of_lt_of_le (Heap.lt_size e) I.ok.above))).trans e1⟩
  .by_cases hj:j=i
   .subst hj
    rw [hi] at e1; cases e1
    rw [getElem?_set_self hiσ] at e2
    cases e2
    exact ⟨u,r,.inl ⟨hk,by simp⟩⟩
   .rw [getElem?_set_ne (Ne.symm hj)] at e2
    obtain ⟨u',r',q⟩:=hl j y v' e1 e2 e3
    refine ⟨u',r',?_⟩
    rcases q with ⟨k,e⟩ | ⟨k,c,e,z⟩
    .refine .inl ⟨k,?_⟩
     have:y≠x:=λe=>hj (Zfz hN e1 (e ▸ hi))
     simp [this,e]
    .exact .inr ⟨k,c,e,z.sameBut hs (cne y c e)⟩
  .obtain ⟨w',z⟩:=I.cell y c e
   exact ⟨w',z.sameBut hs (cne y c e)⟩
  .obtain ⟨e,n,ne,nf,d⟩:=I.pin p hp
   exact ⟨(hs.2 p.1 ne).trans e,n,ne,nf,d⟩
 .have hfn:X.fn x=true:=by
   rcases hf with z | z
   .exact z
   .rw [z] at hk; cases hk
  obtain ⟨c,hc⟩:=I.ok.has x (.inl hk)
  obtain ⟨w',z⟩:=I.cell x c hc
  refine wpAny_storeName_cell I.ok.kind hk hc z (λh' hc' hs=>?_)
  obtain ⟨oc,hoc,hocd⟩:=id z
  refine h { s with heap:=h' } ⟨I.ok,I.os,I.bare,⟨λb o e n hb hx=>?_,λb o e n hb hx=>?_,I.base.free,λb o e hx=>?_,I.base.tups,I.base.frzs,I.base.tbls⟩,⟨m,hn.sameBut hs (Ne.symm (cne x c hc)),λj y v' e1 e2 e3=>?_⟩,λy c' e=>?_,I.free,I.freeC,λp hp=>?_,tracked ⟨oc,hoc,I.freeC x c hc⟩ hs,by simpa using I.len⟩ ⟨c,hs,.inr hc⟩
  .exact (hs.2 b (Nat.ne_of_lt (Nat.lt_of_lt_of_le (Heap.lt_size e) (I.ok.cab x c hfn hc)))).trans (I.base.keep b o e n hb hx)
  .obtain ⟨sl,e1⟩:=I.base.slot b o e n hb hx
   exact ⟨sl,(hs.2 b (Nat.ne_of_lt (Nat.lt_of_lt_of_le (Heap.lt_size e) (I.ok.cab x c hfn hc)))).trans e1⟩
  .obtain ⟨o',e1⟩:=I.base.there b o e hx
   exact ⟨o',(hs.2 b (Nat.ne_of_lt (Nat.lt_of_lt_of_le (Heap.lt_size e) (I.ok.cab x c hfn hc)))).trans e1⟩
  .by_cases hj:j=i
   .subst hj
    rw [hi] at e1; cases e1
    rw [getElem?_set_self hiσ] at e2
    cases e2
    exact ⟨u,r,.inr ⟨.inl hk,c,hc,hc'⟩⟩
   .rw [getElem?_set_ne (Ne.symm hj)] at e2
    obtain ⟨u',r',q⟩:=hl j y v' e1 e2 e3
    refine ⟨u',r',?_⟩
    rcases q with q | ⟨k,c',e,z'⟩
    .exact .inl q
    .refine .inr ⟨k,c',e,z'.sameBut hs ?_⟩
     rintro rfl
     exact hj (Zfz hN e1 (I.ok.inj _ _ _ e hc ▸ hi))
  .by_cases hcc:c'=c
   .subst hcc; exact ⟨_,hc'⟩
   .obtain ⟨w2,z2⟩:=I.cell y c' e
    exact ⟨w2,z2.sameBut hs hcc⟩
  .obtain ⟨e,n,ne,nf,d⟩:=I.pin p hp
   refine ⟨(hs.2 p.1 ?_).trans e,n,ne,nf,d⟩
   intro q
   rw [q,hoc] at e
   have q':oc=p.2:=Option.some.inj e
   exact d w' (by rw [← q']; exact hocd)
theorem Zdb {M:Model} {A:Around} {E:Value->Shared->Prop} {i:Nat} {x:Str} {v:V} {u:Value} {Q:Unit->Shared->Prop} (I:Inv X pins σ H s) (hN:X.N.Nodup) (hi:X.N[i]?=some x) (hx:Loc X.env.scope x) (r:RelV v u)
  (h:∀ s',Inv X pins (σ.set i (some v)) H s'->Q () s') (hf:X.fn x=true\/X.env.scope.names.lookup x=some .local:=by first | exact .inl rfl | exact .inr rfl | assumption):wpAny M A (storeName X.env x u) Q E s :=
 Zgr I hN hi hx r (λs' I' _=>h s' I') hf
theorem Inv.call' {s':Shared} {ch:List Addr} (I:Inv X pins σ H s) (ho:s'.os=s.os) (u:Un (frs X.stack) ch H H' s.heap s'.heap) (hok:HOk X.prog X.w H' s'.heap) (hg:AllBare s'.gens)
  (hch:∀ b∈ch,(b∈X.ex\/X.s₀.heap.objs.size<=b)/\b≠X.env.locals/\(∀ x c,X.env.cells.lookup x=some c->c≠b)/\∀ p∈X.pn++pins,p.1≠b):Inv X pins σ H' s':=by
 obtain ⟨h',g',d',t',o'⟩:=s'
 have e:o'=s.os:=ho
 subst e
 exact I.call (g':=g') (t':=t') (d':=d') u hok hg hch
end
abbrev XK:=Value->Option Addr->Hp->Prop
abbrev St:=List (Option V)
abbrev VK:=V->Hp->Prop
abbrev TE:=St->Hp->VK->Prop
abbrev TT:=St->Hp->(Bool->Hp->Prop)->Prop
abbrev TA:=St->Hp->(List V->Hp->Prop)->Prop
structure Ends where
 nx:St->Hp->Prop
 rt:VK
 bk:St->Hp->Prop:=λ_ _=>False
 ct:St->Hp->Prop:=λ_ _=>False
abbrev TS:=Ends->St->Hp->Prop
def EP (X:Cx) (pins:List (Addr×Obj)) (σ:St) (Q:VK) (u:Value) (s':Shared):Prop:=∃ v H',Inv X pins σ H' s'/\RelV v u/\Q v H'
def TP (X:Cx) (pins:List (Addr×Obj)) (σ:St) (Q:Bool->Hp->Prop) (b:Bool) (s':Shared):Prop:=∃ H',Inv X pins σ H' s'/\Q b H'
def AP (X:Cx) (pins:List (Addr×Obj)) (σ:St) (Q:List V->Hp->Prop) (us:List Value) (s':Shared):Prop:=∃ vs H',Inv X pins σ H' s'/\Vals vs us/\Q vs H'
def SP (X:Cx) (pins:List (Addr×Obj)) (D:Ends) (f:Flow) (s':Shared):Prop :=
 match f with
 | .next=>∃ σ' H',Inv X pins σ' H' s'/\D.nx σ' H'
 | .brk=>∃ σ' H',Inv X pins σ' H' s'/\D.bk σ' H'
 | .cont=>∃ σ' H',Inv X pins σ' H' s'/\D.ct σ' H'
 | .ret u=>∃ v σ' H',Inv X pins σ' H' s'/\RelV v u/\D.rt v H'
def PE (X:Cx) (e:Expr) (t:TE):Prop :=
 ∀ (pins:List (Addr×Obj)) (s:Shared) (σ:St) (H:Hp) (Q:VK),Inv X pins σ H s->t σ H Q->wpAny (model X.prog X.w) X.A (eval e X.env) (EP X pins σ Q) X.xe s
def PT (X:Cx) (e:Expr) (t:TT):Prop :=
 ∀ (pins:List (Addr×Obj)) (s:Shared) (σ:St) (H:Hp) (Q:Bool->Hp->Prop),Inv X pins σ H s->t σ H Q->wpAny (model X.prog X.w) X.A (isTrue e X.env (eval e X.env)) (TP X pins σ Q) X.xe s
def PW (X:Cx) (e:Expr) (t:TT):Prop :=
 ∀ (whole:Sem Value) (pins:List (Addr×Obj)) (s:Shared) (σ:St) (H:Hp) (Q:Bool->Hp->Prop),Inv X pins σ H s->t σ H Q->wpAny (model X.prog X.w) X.A (isTrue e X.env whole) (TP X pins σ Q) X.xe s
theorem PW.pt {X:Cx} {e:Expr} {t:TT} (h:PW X e t):PT X e t:=h _
def PA (X:Cx) (es:List Expr) (t:TA):Prop :=
 ∀ (pos:Pos) (pins:List (Addr×Obj)) (s:Shared) (σ:St) (H:Hp) (Q:List V->Hp->Prop),Inv X pins σ H s->t σ H Q->wpAny (model X.prog X.w) X.A (spliced (backTo pos (starEach es X.env))) (AP X pins σ Q) X.xe s
def PS (X:Cx) (st:Stmt) (t:TS):Prop :=
 ∀ (pins:List (Addr×Obj)) (s:Shared) (σ:St) (H:Hp) (D:Ends),Inv X pins σ H s->t D σ H->wpAny (model X.prog X.w) X.A (exec st X.env) (SP X pins D) X.xe s
def PSs (X:Cx) (st:List Stmt) (t:TS):Prop :=
 ∀ (pins:List (Addr×Obj)) (s:Shared) (σ:St) (H:Hp) (D:Ends),Inv X pins σ H s->t D σ H->wpAny (model X.prog X.w) X.A (execs st X.env) (SP X pins D) X.xe s
theorem thn {α:Type} {t:Sem α} {Q Q':α->Shared->Prop} {M:Model} {A:Around} {E:Value->Shared->Prop} {s:Shared} (h:wpAny M A t Q E s) (hQ:∀ a s,Q a s->Q' a s):wpAny M A t Q' E s:=wpAny_mono h hQ λ_ _ x=>x
theorem thE {t : Sem Value} {Q : VK} {Q' : Value -> Shared -> Prop} {M : Model} {A : Around} {E : Value -> Shared -> Prop} {s : Shared} {X : Cx} {pins : List (Addr × Obj)} {σ : St} (h : wpAny M A t (EP X pins σ Q) E s) (k : ∀ v s x H, Inv X pins σ H s -> RelV x v -> Q x H -> Q' v s) : wpAny M A t Q' E s := wpAny_mono h (λv s z => by obtain ⟨x, H, i, r, q⟩ := z; exact k v s x H i r q) λ_ _ x => x
theorem thA {t : Sem (List Value)} {Q : List V -> Hp -> Prop} {Q' : List Value -> Shared -> Prop} {M : Model} {A : Around} {E : Value -> Shared -> Prop} {s : Shared} {X : Cx} {pins : List (Addr × Obj)} {σ : St} (h : wpAny M A t (AP X pins σ Q) E s) (k : ∀ v s x H, Inv X pins σ H s -> Vals x v -> Q x H -> Q' v s) : wpAny M A t Q' E s := wpAny_mono h (λv s z => by obtain ⟨x, H, i, r, q⟩ := z; exact k v s x H i r q) λ_ _ x => x
section
variable {X:Cx}
def tVar (i:Nat):TE:=λσ H Q=>∃ v,σ[i]?=some (some v)/\Q v H
def tC (v:V):TE:=λ_ H Q=>Q v H
theorem ZnW {i:Nat} {x:Str} {pos:Pos} (hN:X.N[i]?=some x) (hv:Vis X.env.scope x) (hd:(x == ("__debug__" : Str))=false:=by decide) (hcd:(x == ("__classdict__" : Str))=false:=by decide):PE X (.Name x pos) (tVar i):=by
 intro pins s σ H Q I h
 obtain ⟨v,e,h⟩:=h
 obtain ⟨m,hn,hl⟩:=I.loc
 obtain ⟨u,r,l⟩:=hl i x v hN e hv
 have fin:EP X pins σ Q u s:=⟨v,H,I,r,h⟩
 rcases l with ⟨hk,hm⟩ | ⟨hk,c,hc,hcell⟩
 .exact wpAny_Name (wpAny_loadName_local I.ok.kind hk hn hm fin) hd
 .rcases hk with hk | hk
  .exact wpAny_Name (wpAny_loadName_cell I.ok.kind hk hc hcell fin) hd
  .exact wpAny_Name (wpAny_loadName_free I.ok.kind hk hc hcell fin hcd) hd
theorem Zj {i j pos}:PE X (.Constant (.int i) j pos) (tC (.int i)):=λ_ _ _ H _ I h=>wpAny_Constant_int ⟨.int i,H,I.tok _,⟨_,rfl⟩,h⟩
theorem pe_bl {b j pos}:PE X (.Constant (.bool b) j pos) (tC (.bl b)):=λ_ _ _ H _ I h=>Constant_bool ⟨.bl b,H,I,rfl,h⟩
theorem Zmq {j pos}:PE X (.Constant .none j pos) (tC .non):=λ_ _ _ H _ I h=>Constant_none ⟨.non,H,I,rfl,h⟩
theorem ZP {x j pos}:PE X (.Constant (.str x) j pos) (tC (.str x)):=λ_ _ _ H _ I h=>Calls.Constant_str ⟨.str x,H,I.tok _,⟨_,rfl⟩,h⟩
def Gl (X:Cx) (x:Str):Prop:=X.env.kindOf x=some .globalImplicit
theorem Zep {E:Value->Shared->Prop} {pins:List (Addr×Obj)} {s:Shared} {σ:St} {H:Hp} {x:Str} {u:Value} {pos:Pos} {Q:Value->Shared->Prop} (I:Inv X pins σ H s) (hg:Gl X x) (hm:X.mg x=some u) (h:Q u s)
  (hd:(x == ("__debug__" : Str))=false:=by decide):wpAny (model X.prog X.w) X.A (eval (.Name x pos) X.env) Q E s :=
 Calls.Name_function_global I.ok.kind hg (Calls.loadGlobal_global (by rw [I.ok.glob]; exact I.mod.glob.keeps I.bk) hm h) hd
theorem Zbw {E:Value->Shared->Prop} {pins:List (Addr×Obj)} {s:Shared} {σ:St} {H:Hp} {x:Str} {u:Value} {pos:Pos} {Q:Value->Shared->Prop} (I:Inv X pins σ H s) (hg:Gl X x) (hm:X.mg x=none) (hv:bootBuiltins x=some u) (h:Q u s)
  (hn:x ≠ "__name__" := by decide) (hd:(x == ("__debug__" : Str))=false:=by decide):wpAny (model X.prog X.w) X.A (eval (.Name x pos) X.env) Q E s:=by
 obtain ⟨mb,h1,h2⟩:=I.mod.blt
 exact Calls.Name_function_global I.ok.kind hg (Calls.loadGlobal_builtin (by rw [I.ok.glob]; exact I.mod.glob.keeps I.bk) hm (by rw [I.ok.blt]; exact h1.keeps I.bk) ((h2 x hn).trans hv) h) hd
theorem ZmS {x:Str} {v:V} {u:Value} {pos:Pos} (hg:Gl X x) (hm:X.mg x=some u) (r:RelV v u) (hd:(x == ("__debug__" : Str))=false:=by decide):PE X (.Name x pos) (tC v) :=
 λ_ _ _ H _ I h=>Zep I hg hm ⟨v,H,I,r,h⟩ hd
theorem ZaC {x:Str} {v:V} {u:Value} {pos:Pos} (hg:Gl X x) (hm:X.mg x=none) (hv:bootBuiltins x=some u) (r:RelV v u) (hn:x ≠ "__name__" := by decide) (hd:(x == ("__debug__" : Str))=false:=by decide):PE X (.Name x pos) (tC v) :=
 λ_ _ _ H _ I h=>Zbw I hg hm hv ⟨v,H,I,r,h⟩ hn hd
variable {a b:Expr} {ta tb:TE} {pos:Pos}
def PC (X:Cx) (op:CmpOp) (a b:Expr) (t:TE):Prop :=
 ∀ (pins:List (Addr×Obj)) (s:Shared) (σ:St) (H:Hp) (Q:VK),Inv X pins σ H s->t σ H Q ->
  wpAny (model X.prog X.w) X.A (eval a X.env) (λv s₁=>wpAny (model X.prog X.w) X.A (eval b X.env) (λu s₂=>wpAny (model X.prog X.w) X.A (compareOp op v u) (EP X pins σ Q) X.xe s₂) X.xe s₁) X.xe s
theorem Zic (b:Expr) {op:CmpOp} (h:op≠.In) (h2:op≠.NotIn):behindInMarks op b=false:=by
 have e1:(op == CmpOp.In)=false:=by cases op <;> first | rfl | exact absurd rfl h
 have e2:(op == CmpOp.NotIn)=false:=by cases op <;> first | rfl | exact absurd rfl h2
 cases b <;> simp [behindInMarks,e1,e2]
def tIsN (ta:TE):TE:=λσ H Q=>ta σ H λx H1=>Q (.bl (decide (x=.non))) H1
def tNotN (ta:TE):TE:=λσ H Q=>ta σ H λx H1=>Q (.bl (!decide (x=.non))) H1
theorem RelV.none_iff {x:V} {v:Value} (r:RelV x v):(v == Value.none)=decide (x=.non):=by
 cases x with
 | non=>cases r; rfl
 | bl _=>cases r; rfl
 | int _=>obtain ⟨t,rfl⟩:=r; rfl
 | str _=>obtain ⟨t,rfl⟩:=r; rfl
 | byt _=>obtain ⟨t,rfl⟩:=r; rfl
 | flt _=>obtain ⟨t,rfl⟩:=r; rfl
 | ref _=>cases r; rfl
 | ty _=>cases r; rfl
theorem Zmr {j pos'} (ha:PE X a ta):PC X .Is a (.Constant .none j pos') (tIsN ta):=by
 intro pins s σ H Q I h
 refine thE (ha pins s σ H _ I h) λv s1 x H1 I1 r1 q1=>?_
 exact Constant_none (is_none_gen ⟨.bl _,H1,I1,by rw [r1.none_iff]; rfl,q1⟩)
theorem ZfA {j pos'} (ha:PE X a ta):PC X .IsNot a (.Constant .none j pos') (tNotN ta):=by
 intro pins s σ H Q I h
 refine thE (ha pins s σ H _ I h) λv s1 x H1 I1 r1 q1=>?_
 exact Constant_none (isnot_none_gen ⟨.bl _,H1,I1,by rw [r1.none_iff]; rfl,q1⟩)
def tB (t:TE):TT:=λσ H Q=>t σ H λx H1=>∃ c,x=.bl c/\Q c H1
theorem Zms {op:CmpOp} {t:TE} (h:PC X op a b t) (h1:behindInMarks op b=false:=by first | exact Zic _ (by decide) (by decide) | rfl):PE X (.Compare a [op] [b] pos) t:=λpins s σ H Q I hw=>wpAny_Compare1 (h pins s σ H Q I hw) h1
theorem Zgs {op:CmpOp} {t:TE} (h:PC X op a b t) (h1:behindInMarks op b=false:=by first | exact Zic _ (by decide) (by decide) | rfl):PT X (.Compare a [op] [b] pos) (tB t):=by
 intro pins s σ H Q I hw
 refine wpAny_isTrue_Compare1 (thn (h pins s σ H _ I hw) λv s1 h1=>thn h1 λu s2 h2=>thn h2 λc s3 ⟨x,H1,I1,r1,q1⟩=>?_) h1
 obtain ⟨d,rfl,q⟩:=q1
 cases r1
 exact wpAny_truthy_bool ⟨H1,I1,q⟩
theorem Zab {e:Expr} {t:TE} (h:PE X e t) (he:∀ whole,isTrue e X.env whole=(do let v ← whole; standAt e.pos; holding [v] (truthy v)):=by intro _; rfl):PT X e (tB t):=by
 intro pins s σ H Q I hw
 refine isTrue_plain (thE (h pins s σ H _ I hw) λv s1 x H1 I1 r1 q1=>?_) (he _)
 obtain ⟨d,rfl,q⟩:=q1
 cases r1
 exact wpAny_truthy_bool ⟨H1,I1,q⟩
variable {tA tB':TT} {rest:List Expr}
def tAnd (t u:TT):TT:=λσ H Q=>t σ H λc H1=>if c=true then u σ H1 Q else Q false H1
def tOr (t u:TT):TT:=λσ H Q=>t σ H λc H1=>if c=true then Q true H1 else u σ H1 Q
def tNot (t:TT):TT:=λσ H Q=>t σ H λc H1=>Q (!c) H1
theorem ZfB (ha:PT X a tA):PW X (.BoolOp .And [a] pos) tA:=by
 intro wh pins s σ H Q I h
 refine isTrue_and (thn (ha pins s σ H Q I h) λc s1 e=>?_)
 cases c with
 | true=>exact isTrue_and_nil e
 | false=>exact e
theorem Zgt (ha:PT X a tA):PW X (.BoolOp .Or [a] pos) tA:=by
 intro wh pins s σ H Q I h
 refine isTrue_or (thn (ha pins s σ H Q I h) λc s1 e=>?_)
 cases c with
 | false=>exact isTrue_or_nil e
 | true=>exact e
theorem Zid (ha:PT X a tA) (hb:PW X (.BoolOp .And (b :: rest) pos) tB'):PW X (.BoolOp .And (a :: b :: rest) pos) (tAnd tA tB'):=by
 intro wh pins s σ H Q I h
 refine isTrue_and (thn (ha pins s σ H _ I h) λc s1 ⟨H1,I1,q1⟩=>?_)
 cases c with
 | true=>exact hb wh pins s1 σ H1 Q I1 q1
 | false=>exact ⟨H1,I1,q1⟩
theorem pw_or (ha:PT X a tA) (hb:PW X (.BoolOp .Or (b :: rest) pos) tB'):PW X (.BoolOp .Or (a :: b :: rest) pos) (tOr tA tB'):=by
 intro wh pins s σ H Q I h
 refine isTrue_or (thn (ha pins s σ H _ I h) λc s1 ⟨H1,I1,q1⟩=>?_)
 cases c with
 | true=>exact ⟨H1,I1,q1⟩
 | false=>exact hb wh pins s1 σ H1 Q I1 q1
theorem Zcl (ha:PT X a tA):PT X (.UnaryOp .Not a pos) (tNot tA):=by
 intro pins s σ H Q I h
 exact isTrue_not (ha pins s σ H (λc H1=>Q (!c) H1) I h)
def tAndV (ta tb:TE):TE:=λσ H Q=>ta σ H λx H1=>∃ c,x=.bl c/\if c=true then tb σ H1 Q else Q (.bl false) H1
def tOrV (ta tb:TE):TE:=λσ H Q=>ta σ H λx H1=>∃ c,x=.bl c/\if c=true then Q (.bl true) H1 else tb σ H1 Q
theorem Zfn {op} {t:TE} (h:PE X a t):PE X (.BoolOp op [a] pos) t:=λpins s σ H Q I hw=>BoolOp_one (h pins s σ H Q I hw)
theorem Zfo (ha:PE X a ta) (hb:PE X (.BoolOp .And (b :: rest) pos) tb):PE X (.BoolOp .And (a :: b :: rest) pos) (tAndV ta tb):=by
 intro pins s σ H Q I h
 refine BoolOp_and (thE (ha pins s σ H _ I h) λv s1 x H1 I1 r1 q1=>?_)
 obtain ⟨c,rfl,q1⟩:=q1
 cases r1
 refine wpAny_truthy_bool ?_
 cases c with
 | true=>exact hb pins s1 σ H1 Q I1 q1
 | false=>exact ⟨.bl false,H1,I1,rfl,q1⟩
theorem pe_or (ha:PE X a ta) (hb:PE X (.BoolOp .Or (b :: rest) pos) tb):PE X (.BoolOp .Or (a :: b :: rest) pos) (tOrV ta tb):=by
 intro pins s σ H Q I h
 refine BoolOp_or (thE (ha pins s σ H _ I h) λv s1 x H1 I1 r1 q1=>?_)
 obtain ⟨c,rfl,q1⟩:=q1
 cases r1
 refine wpAny_truthy_bool ?_
 cases c with
 | false=>exact hb pins s1 σ H1 Q I1 q1
 | true=>exact ⟨.bl true,H1,I1,rfl,q1⟩
def tIf (t:TT) (ta tb:TE):TE:=λσ H Q=>t σ H λc H1=>if c=true then ta σ H1 Q else tb σ H1 Q
theorem Zbx {c:Expr} (hc:PT X c tA) (ha:PE X a ta) (hb:PE X b tb):PE X (.IfExp c a b pos) (tIf tA ta tb):=by
 intro pins s σ H Q I h
 refine wpAny_IfExp (thn (hc pins s σ H _ I h) λd s1 ⟨H1,I1,q1⟩=>?_)
 cases d with
 | true=>exact ha pins s1 σ H1 Q I1 q1
 | false=>exact hb pins s1 σ H1 Q I1 q1
end
def SqL (K:W.Frag) (H:Hp) (a:Addr) (xs:List V):Prop :=
 Rd H a (.lst xs) \/
  ∃ (o:Obj) (its:Array Value) (n:Nat),K.lookup a=some o/\o.cls=.type "list" /\ o.dict=none/\o.data=.seq its n/\its.size<=sizeLine/\Vals xs its.toList
def SqT (K:W.Frag) (H:Hp) (a:Addr) (xs:List V):Prop :=
 Rd H a (.tup xs) \/
  ∃ (o:Obj) (its:Array Value) (n:Nat),K.lookup a=some o/\o.cls=.type "tuple" /\ o.data=.seq its n/\its.size<=sizeLine/\Vals xs its.toList
def absV:Value->Option V
 | .none=>some .non
 | .bool b=>some (.bl b)
 | .int i _=>some (.int i)
 | .str x _=>some (.str x)
 | .bytes b _=>some (.byt b)
 | .float b _=>some (.flt b)
 | .ref a=>some (.ref a)
 | .type n=>some (.ty n)
 | _=>none
theorem RelV.abs {x:V} {u:Value} (r:RelV x u):absV u=some x:=by
 cases x with
 | non=>cases r; rfl
 | bl _=>cases r; rfl
 | int _=>obtain ⟨t,rfl⟩:=r; rfl
 | str _=>obtain ⟨t,rfl⟩:=r; rfl
 | byt _=>obtain ⟨t,rfl⟩:=r; rfl
 | flt _=>obtain ⟨t,rfl⟩:=r; rfl
 | ref _=>cases r; rfl
 | ty _=>cases r; rfl
theorem RelV.inj {x y:V} {u:Value} (r:RelV x u) (q:RelV y u):x=y:=Option.some.inj (r.abs.symm.trans q.abs)
theorem Vals.inj:∀ {xs ys:List V} {us:List Value},Vals xs us->Vals ys us->xs=ys
 | _,_,_,.nil,.nil=>rfl
 | _,_,_,.cons r t,.cons r' t'=>by rw [r.inj r',Vals.inj t t']
section
variable {X:Cx} {pins:List (Addr×Obj)} {σ:St} {H:Hp} {s:Shared} {a:Addr} {xs ys:List V}
theorem SqL.of {K:W.Frag} (h:H a=some (.lst xs)):SqL K H a xs:=.inl (.inl h)
theorem SqT.of {K:W.Frag} (h:H a=some (.tup xs)):SqT K H a xs:=.inl (.inl h)
theorem Inv.list (I:Inv X pins σ H s) (h:SqL X.K H a xs):∃ its:List Value,Vals xs its/\PlainL s.heap a its.toArray/\xs.length<=sizeLine:=by
 rcases h with h | ⟨o,its,n,hk,hc,hd,hs,hz,r⟩
 .obtain ⟨z,its,n,r,e⟩:=h.ok I.hok
  exact ⟨its,r,⟨_,n,e,rfl,rfl,rfl⟩,z⟩
 .refine ⟨its.toList,r,⟨o,n,I.kIn a o hk,hc,hd,by simpa using hs⟩,?_⟩
  have e:=r.length
  simp only [Array.length_toList] at e
  lia
theorem Inv.tuple (I:Inv X pins σ H s) (h:SqT X.K H a xs):∃ its:List Value,Vals xs its/\IsTup s.heap a its.toArray/\xs.length<=sizeLine:=by
 rcases h with h | ⟨o,its,n,hk,hc,hs,hz,r⟩
 .obtain ⟨z,its,r,p⟩:=h.ok I.hok
  exact ⟨its,r,p,z⟩
 .refine ⟨its.toList,r,⟨o,I.kIn a o hk,hc,n,by simpa using hs⟩,?_⟩
  have e:=r.length
  simp only [Array.length_toList] at e
  lia
theorem Inv.list_inj (I:Inv X pins σ H s) (h:SqL X.K H a xs) (h':SqL X.K H a ys):xs=ys:=by
 obtain ⟨its,r,⟨o,n,e,_,_,d⟩,_⟩:=I.list h
 obtain ⟨its',r',⟨o',n',e',_,_,d'⟩,_⟩:=I.list h'
 rw [e] at e'; cases e'
 rw [d] at d'
 injection d' with d1 _
 have:its=its':=by simpa using congrArg Array.toList d1
 subst this
 exact r.inj r'
theorem Inv.tuple_inj (I:Inv X pins σ H s) (h:SqT X.K H a xs) (h':SqT X.K H a ys):xs=ys:=by
 obtain ⟨its,r,⟨o,e,_,n,d⟩,_⟩:=I.tuple h
 obtain ⟨its',r',⟨o',e',_,n',d'⟩,_⟩:=I.tuple h'
 rw [e] at e'; cases e'
 rw [d] at d'
 injection d' with d1 _
 have:its=its':=by simpa using congrArg Array.toList d1
 subst this
 exact r.inj r'
end
abbrev Cx.wish (X:Cx) (E:Value->Shared->Prop):Cx:={ X with xe:=E }
abbrev Cx.nox (X:Cx):Cx:=X.wish λ_ _=>False
theorem Cx.Ok.wish {X:Cx} (ok:X.Ok) (E:Value->Shared->Prop):(X.wish E).Ok :=
 ⟨ok.mod,ok.kind,ok.glob,ok.blt,ok.above,ok.inj,ok.has,ok.cab,ok.hd,ok.frames,ok.stk,ok.exf,ok.bs,ok.bsz,ok.noex,ok.exfs,ok.funs,ok.frf⟩
theorem Cx.Ok.unwish {X:Cx} {E:Value->Shared->Prop} (ok:(X.wish E).Ok):X.Ok :=
 ⟨ok.mod,ok.kind,ok.glob,ok.blt,ok.above,ok.inj,ok.has,ok.cab,ok.hd,ok.frames,ok.stk,ok.exf,ok.bs,ok.bsz,ok.noex,ok.exfs,ok.funs,ok.frf⟩
section
variable {X:Cx} {pins:List (Addr×Obj)} {σ:St} {H:Hp} {s:Shared} {E:Value->Shared->Prop}
theorem Inv.wish (I:Inv X pins σ H s) (E:Value->Shared->Prop):Inv (X.wish E) pins σ H s:=⟨I.ok.wish E,I.os,I.bare,I.base,I.loc,I.cell,I.free,I.freeC,I.pin,I.hok,I.len⟩
theorem Inv.unwish (I:Inv (X.wish E) pins σ H s):Inv X pins σ H s:=⟨I.ok.unwish,I.os,I.bare,I.base,I.loc,I.cell,I.free,I.freeC,I.pin,I.hok,I.len⟩
theorem SP.unwish {D:Ends} {f:Flow} {s':Shared} (h:SP (X.wish E) pins D f s'):SP X pins D f s':=by
 cases f with
 | next=>obtain ⟨σ',H',I,q⟩:=h; exact ⟨σ',H',I.unwish,q⟩
 | brk=>obtain ⟨σ',H',I,q⟩:=h; exact ⟨σ',H',I.unwish,q⟩
 | cont=>obtain ⟨σ',H',I,q⟩:=h; exact ⟨σ',H',I.unwish,q⟩
 | ret u=>obtain ⟨v,σ',H',I,r,q⟩:=h; exact ⟨v,σ',H',I.unwish,r,q⟩
theorem PSs.nox {st:List Stmt} {t:TS} (h:PSs X.nox st t):PSs X st t:=λpins s σ H D I hw =>
 wpAny_mono (h pins s σ H D (I.wish _) hw) (λ_ _ q=>q.unwish) λ_ _ z=>False.elim z
end
section
variable {X:Cx} {st:Stmt} {rest:List Stmt} {t u:TS} {e:Expr} {te:TE} {pos:Pos}
def tNext:TS:=λD σ H=>D.nx σ H
def tSeq (t u:TS):TS:=λD σ H=>t { D with nx:=u D } σ H
theorem Zu:PSs X [] tNext:=λ_ _ σ H _ I h=>wpAny_execs_nil ⟨σ,H,I,h⟩
theorem Zd (h1:PS X st t) (h2:PSs X rest u):PSs X (st :: rest) (tSeq t u):=by
 intro pins s σ H D I h
 refine wpAny_execs_cons (thn (h1 pins s σ H { D with nx:=u D } I h) λf s1 q=>?_)
 cases f with
 | next =>
  obtain ⟨σ',H',I',q⟩:=q
  exact h2 pins s1 σ' H' D I' q
 | ret v=>exact q
 | brk=>exact q
 | cont=>exact q
theorem Zi (h1:PS X st t):PSs X [st] t:=by
 intro pins s σ H D I h
 refine wpAny_execs_cons (thn (h1 pins s σ H D I h) λf s1 q=>?_)
 cases f with
 | next=>exact wpAny_execs_nil q
 | ret v=>exact q
 | brk=>exact q
 | cont=>exact q
theorem Inv.quiet {pins:List (Addr×Obj)} {σ:St} {H:Hp} {s:Shared} (I:Inv X pins σ H s):interactive X.env=false:=by simp [interactive,I.ok.kind]
def tDrop (te:TE):TS:=λD σ H=>te σ H λ_ H1=>D.nx σ H1
theorem Zp (he:PE X e te) (hs:swapsWith e none pos.line X.env=pure false:=by rfl):PS X (.Expr e pos) (tDrop te):=by
 intro pins s σ H D I h
 exact wpAny_Expr_any (thE (he pins s σ H _ I h) λv s1 x H1 I1 r1 q1=>⟨σ,H1,I1,q1⟩) I.quiet hs
def tRet (te:TE):TS:=λD σ H=>te σ H D.rt
theorem Zt (he:PE X e te):PS X (.Return (some e) pos) (tRet te):=by
 intro pins s σ H D I h
 exact wpAny_Return_some (thE (he pins s σ H _ I h) λv s1 x H1 I1 r1 q1=>⟨x,σ,H1,I1,r1,q1⟩)
def tRetN:TS:=λD _ H=>D.rt .non H
theorem Zhv:PS X (.Return none pos) tRetN:=λ_ _ σ H _ I h=>wpAny_Return_none ⟨.non,σ,H,I,rfl,h⟩
def tIfS (c:TT) (t u:TS):TS:=λD σ H=>c σ H λb H1=>if b=true then t D σ H1 else u D σ H1
theorem ps_if {c:Expr} {a b:List Stmt} {tc:TT} (hc:PT X c tc) (ha:PSs X a t) (hb:PSs X b u):PS X (.If c a b pos) (tIfS tc t u):=by
 intro pins s σ H D I h
 refine wpAny_If (thn (hc pins s σ H _ I h) λd s1 ⟨H1,I1,q1⟩=>?_)
 cases d with
 | true=>exact ha pins s1 σ H1 D I1 q1
 | false=>exact hb pins s1 σ H1 D I1 q1
end
abbrev TG:=V->St->Hp->(St->Hp->Prop)->Prop
abbrev TGs:=List V->St->Hp->(St->Hp->Prop)->Prop
def PG (X:Cx) (target:Expr) (t:TG):Prop :=
 ∀ (pins:List (Addr×Obj)) (s:Shared) (σ:St) (H:Hp) (v:V) (u:Value) (Q:St->Hp->Prop),Inv X pins σ H s->RelV v u->t v σ H Q ->
  wpAny (model X.prog X.w) X.A (assign target X.env u) (λ_ s'=>∃ σ' H',Inv X pins σ' H' s'/\Q σ' H') X.xe s
def PGs (X:Cx) (ts:List Expr) (t:TGs):Prop :=
 ∀ (pins:List (Addr×Obj)) (s:Shared) (σ:St) (H:Hp) (vs:List V) (us:List Value) (Q:St->Hp->Prop),Inv X pins σ H s->Vals vs us->t vs σ H Q ->
  wpAny (model X.prog X.w) X.A (assignInOrder ((assignEach ts X.env).map (·.2)) us) (λ_ s'=>∃ σ' H',Inv X pins σ' H' s'/\Q σ' H') X.xe s
abbrev TSet:=V->V->V->Hp->(Hp->Prop)->Prop
def PSet (X:Cx) (t:TSet):Prop :=
 ∀ (pins:List (Addr×Obj)) (s:Shared) (σ:St) (H:Hp) (o i v:V) (ov iv u:Value) (Q:Hp->Prop),Inv X pins σ H s->RelV o ov->RelV i iv->RelV v u->t o i v H Q ->
  wpAny (model X.prog X.w) X.A (setItem ov iv u) (λ_ s'=>∃ H',Inv X pins σ H' s'/\Q H') X.xe s
section
variable {X:Cx} {pos:Pos}
def gName (i:Nat):TG:=λv σ H Q=>Q (σ.set i (some v)) H
theorem ZmT {i:Nat} {x:Str} (hN:X.N.Nodup) (hi:X.N[i]?=some x) (hx:Loc X.env.scope x) (hf:X.fn x=true\/X.env.scope.names.lookup x=some .local:=by first | exact .inl rfl | exact .inr rfl | assumption):PG X (.Name x pos) (gName i):=by
 intro pins s σ H v u Q I r h
 exact wpAny_assign_Name (Zdb I hN hi hx r (λs' I'=>⟨_,H,I',h⟩) hf)
def gNil:TGs:=λvs σ H Q=>vs=[]/\Q σ H
def gCons (t:TG) (u:TGs):TGs:=λvs σ H Q=>∃ v r,vs=v :: r/\t v σ H λσ' H'=>u r σ' H' Q
theorem Zac:PGs X [] gNil:=by
 intro pins s σ H vs us Q I r h
 obtain ⟨e,h⟩:=h
 subst e
 cases r
 exact assignInOrder_nil ⟨σ,H,I,h⟩
theorem Zs {e:Expr} {es:List Expr} {t:TG} {u:TGs} (h1:PG X e t) (h2:PGs X es u)
  (hs:(assignEach (e :: es) X.env).map (·.2)=assign e X.env :: (assignEach es X.env).map (·.2):=by rfl):PGs X (e :: es) (gCons t u):=by
 intro pins s σ H vs us Q I r h
 obtain ⟨v,vr,e1,h⟩:=h
 subst e1
 cases r with
 | cons r rr =>
  rw [hs]
  refine assignInOrder_cons (thn (h1 pins s σ H _ _ _ I r h) λ_ s1 ⟨σ1,H1,I1,q1⟩=>?_)
  exact h2 pins s1 σ1 H1 _ _ Q I1 rr q1
def gTup (K:W.Frag) (n:Nat) (t:TGs):TG:=λv σ H Q=>∃ a xs,v=.ref a/\SqT K H a xs/\xs.length=n/\t xs σ H Q
theorem ZnX {es:List Expr} {k:Nat} {t:TGs} {n:Nat} (hc:X.calm=true) (h:PGs X es t)
  (hn:(assignEach es X.env).length=n:=by rfl) (hst:(assignEach es X.env).findIdx? (·.1)=none:=by rfl):PG X (.Tuple es k pos) (gTup X.K n t):=by
 intro pins s σ H v u Q I r hw
 obtain ⟨a,xs,e1,hq,hl,hw⟩:=hw
 subst e1
 cases r
 obtain ⟨its,rv,ht,hz⟩:=I.tuple hq
 refine assign_Tuple_tuple (I.ok.hd hc) ht (by simp [hn,← hl,rv.length]) hst λh' hx=>?_
 have I1:Inv X pins σ H { s with heap:=h' }:=I.kept (t':=s.toks) λb o e=>hx b o (Nat.ne_of_lt (Heap.lt_size e)) e
 exact h pins _ σ H xs _ Q I1 (by simpa using rv) hw
def gSub (to ti:TE) (t:TSet):TG:=λv σ H Q=>to σ H λo H1=>ti σ H1 λi H2=>t o i v H2 λH3=>Q σ H3
theorem Zeq {o i:Expr} {to ti:TE} {t:TSet} (ho:PE X o to) (hi:PE X i ti) (hs:PSet X t)
  (ha:∀ v,assign (.Subscript o i pos) X.env v=(do
   let ov ← holding [v] (eval o X.env)
   let iv ← holding [v,ov] (eval i X.env)
   standAt pos
   holding [v,ov,iv] (setItem ov iv v)
   release [v,ov,iv] []):=by intro _; rfl):PG X (.Subscript o i pos) (gSub to ti t):=by
 intro pins s σ H v u Q I r h
 rw [ha]
 refine wpAny_bind (wpAny_holding (thE (ho pins s σ H _ I h) λov s1 x H1 I1 r1 q1=>?_))
 refine wpAny_bind (wpAny_holding (thE (hi pins s1 σ H1 _ I1 q1) λiv s2 y H2 I2 r2 q2=>?_))
 refine wpAny_bind (wpAny_standAt (wpAny_bind (wpAny_holding (thn (hs pins s2 σ H2 x y v ov iv u _ I2 r1 r2 r q2) λ_ s3 ⟨H3,I3,q3⟩=>?_))))
 exact wpAny_release ⟨σ,H3,I3,q3⟩
def tAsg (te:TE) (g:TG):TS:=λD σ H=>te σ H λx H1=>g x σ H1 D.nx
theorem Zby {tg e:Expr} {te:TE} {g:TG} (he:PE X e te) (hg:PG X tg g) (hs:swapsWithSole [tg] e pos.line X.env=pure false:=by rfl) (hw:swappedStores [tg] e X.env=pure none:=by rfl)
  (h1:(assignEach [tg] X.env).map (·.2)=[assign tg X.env]:=by rfl):PS X (.Assign [tg] e pos) (tAsg te g):=by
 intro pins s σ H D I h
 refine wpAny_Assign_stores (thE (he pins s σ H _ I h) λv s1 x H1 I1 r1 q1=>?_) hs hw
 rw [h1]
 exact thn (hg pins s1 σ H1 x v _ I1 r1 q1) λ_ s2 q=>q
theorem ZnY {i:Nat} {x:Str} {e:Expr} {te:TE} {pos':Pos} (hN:X.N.Nodup) (hi:X.N[i]?=some x) (hx:Loc X.env.scope x) (he:PE X e te) (hs:swapsWith e (some (.Name x pos')) pos.line X.env=pure false:=by rfl) (hf:X.fn x=true\/X.env.scope.names.lookup x=some .local:=by first | exact .inl rfl | exact .inr rfl | assumption) :
  PS X (.Assign [.Name x pos'] e pos) (tAsg te (gName i)):=by
 intro pins s σ H D I h
 refine wpAny_Assign_Name (thE (he pins s σ H _ I h) λv s1 y H1 I1 r1 q1=>?_) hs
 exact Zdb I1 hN hi hx r1 (λs2 I2=>⟨_,H1,I2,q1⟩) hf
def tPar (i j:Nat) (ta:TA):TS:=λD σ H=>ta σ H λvs H1=>∃ v w,vs=[v,w]/\D.nx ((σ.set i (some v)).set j (some w)) H1
theorem ZnZ {i j:Nat} {x y:Str} {a b:Expr} {ta:TA} {px py pt:Pos} {kt k2 pt2} (hc:X.calm=true) (hN:X.N.Nodup) (hi:X.N[i]?=some x) (hj:X.N[j]?=some y) (hij:i≠j)
  (hx:X.env.scope.names.lookup x=some .local) (hy:X.env.scope.names.lookup y=some .local) (ha:PA X [a,b] ta)
  (hw:swappedStores [.Tuple [.Name x px,.Name y py] kt pt] (.Tuple [a,b] k2 pt2) X.env=pure (some [x,y]))
  (hs:swapsWithSole [.Tuple [.Name x px,.Name y py] kt pt] (.Tuple [a,b] k2 pt2) pos.line X.env=pure false:=by rfl) :
  PS X (.Assign [.Tuple [.Name x px,.Name y py] kt pt] (.Tuple [a,b] k2 pt2) pos) (tPar i j ta):=by
 intro pins s σ H D I h
 rw [exec_Assign_arm]
 refine wpAny_bind (wpAny_standAt ?_)
 rw [hs]
 refine wpAny_bind (wpAny_pure ?_)
 rw [if_neg (by decide)]
 refine wpAny_bind (Tuple_ (thA (ha _ pins s σ H _ I h) λus s1 vs H1 I1 r1 q1=>?_))
 obtain ⟨v,w,e1,q1⟩:=q1
 subst e1
 obtain ⟨u1,u2,rfl,rv,rw'⟩:∃ u1 u2,us=[u1,u2]/\RelV v u1/\RelV w u2:=by
  cases r1 with
  | cons p q =>
   cases q with
   | cons p' q' =>
    cases q'
    exact ⟨_,_,rfl,p,p'⟩
 refine wpAny_newObj_type ?_ (by show 2<=sizeLine; decide)
 have I2:Inv X pins σ H1 { s1 with heap:=s1.heap.push { cls:=.type "tuple",data:=.seq [u1,u2].toArray } }:=I1.kept (t':=s1.toks) λb o e=>Heap.get?_push_of_some _ e
 rw [hw]
 refine wpAny_bind (wpAny_pure ?_)
 show wpAny (model X.prog X.w) X.A (do rule "assign.swapped-stores"; let items ← unpackItems (.ref s1.heap.objs.size) 2 none; assignInOrder [λv=>bindName X.env y v,λv=>bindName X.env x v] items.reverse; pure Flow.next) _ _ _
 refine wpAny_bind (wpAny_rule (wpAny_bind (unpackItems_tuple (items:=#[u1,u2]) (I.ok.hd hc) (IsTup.new s1.heap _) λh' hx'=>?_)))
 have I3:=I2.kept (h':=h') (t':=s1.toks) λb o e=>hx' b o (Nat.ne_of_lt (Heap.lt_size e)) e
 show wpAny _ _ (assignInOrder [λv=>bindName X.env y v,λv=>bindName X.env x v] [u2,u1] >>= λ_=>pure Flow.next) _ _ _
 refine wpAny_bind (assignInOrder_cons (wpAny_bindName (Zdb I3 hN hj (.inl hy) rw' (λs2 I4=>?_) (.inr hy))))
 refine assignInOrder_cons (wpAny_bindName (Zdb I4 hN hi (.inl hx) rv (λs3 I5=>assignInOrder_nil (wpAny_pure ?_)) (.inr hx)))
 rw [List.set_comm _ _ (Ne.symm hij)] at I5
 exact ⟨_,H1,I5,q1⟩
end
structure It where
 go:Nat->Hp->Prop
 yld:Nat->Hp->V->Hp->Prop
 stop:Nat->Hp->Prop
def FpOk (X:Cx) (pins:List (Addr×Obj)) (H:Hp) (b:Addr):Prop :=
 H b=none/\b≠X.env.locals/\b∉X.fs/\(b∈X.ex\/X.s₀.heap.objs.size<=b)/\(∀ x c,X.env.cells.lookup x=some c->c≠b)/\∀ p∈X.pn++pins,p.1≠b
theorem Inv.fpOk {X:Cx} {pins:List (Addr×Obj)} {σ:St} {H H':Hp} {s:Shared} {b:Addr} (I:Inv X pins σ H s) (hb:s.heap.objs.size<=b) (hn:H' b=none):FpOk X pins H' b:=by
 refine ⟨hn,Nat.ne_of_gt (Nat.lt_of_lt_of_le I.lt hb),I.nofs hb,.inr (Nat.le_trans I.sz hb),λx c e z=>?_,λp hp z=>?_⟩
 .obtain ⟨v,q⟩:=I.cell x c e
  exact absurd (Nat.lt_of_lt_of_le q.lt (by rw [z]; exact hb)) (Nat.lt_irrefl _)
 .exact absurd (Nat.lt_of_lt_of_le (Heap.lt_size (I.pin p hp).1) (by rw [z]; exact hb)) (Nat.lt_irrefl _)
structure Turn (P:Program) (w:World) (K:W.Frag) (tg:Expr) (J:It) (fp:List Addr) (it:Addr) (tn:Nat->Heap->Prop):Prop where
 mem:it∈fp
 obj:∀ i h,tn i h->∀ b∈fp,∃ o,h.get? b=some o/\∀ v,o.data≠.cell v
 keep:∀ i h h',tn i h->(∀ b∈fp,∀ o,h.get? b=some o->h'.get? b=some o)->tn i h'
 item:∀ (X:Cx),X.prog=P->X.w=w->X.K=K->X.calm=true->∀ (i:Nat) (pins:List (Addr×Obj)) (s:Shared) (σ:St) (H:Hp) (E:Value->Shared->Prop),Inv X pins σ H s->(∀ b∈fp,FpOk X pins H b)->tn i s.heap->J.go i H ->
  wpAny (model P w) X.A (pyNext (.ref it)) (λr s1=>∃ u,r=some u /\
   wpAny (model P w) X.A (letOwnedTupleGo tg (.ref it) u) (λ_ s2=>∃ x H',Inv X pins σ H' s2/\RelV x u/\J.yld i H x H'/\tn (i+1) s2.heap/\∀ b∈fp,H' b=none) E s1) E s
 done:∀ (X:Cx),X.prog=P->X.w=w->X.K=K->X.calm=true->∀ (i:Nat) (pins:List (Addr×Obj)) (s:Shared) (σ:St) (H:Hp) (E:Value->Shared->Prop),Inv X pins σ H s->(∀ b∈fp,FpOk X pins H b)->tn i s.heap->J.stop i H ->
  wpAny (model P w) X.A (pyNext (.ref it)) (λr s1=>r=none/\Inv X pins σ H s1) E s
 self:∀ (A:Around) (i:Nat) (s:Shared) (Q:Value->Shared->Prop) (E:Value->Shared->Prop),tn i s.heap->Q (.ref it) s->wpAny (model P w) A (pyIter (.ref it)) Q E s
abbrev TI:=St->Hp->(It->Hp->Prop)->Prop
def PIE (X:Cx) (pins:List (Addr×Obj)) (σ:St) (tg:Expr) (R:It->Hp->Prop) (itv:Value) (s2:Shared):Prop :=
 ∃ (it:Addr) (fp:List Addr) (tn:Nat->Heap->Prop) (J:It) (H':Hp),itv=.ref it/\Inv X pins σ H' s2/\Turn X.prog X.w X.K tg J fp it tn/\tn 0 s2.heap/\(∀ b∈fp,FpOk X pins H' b)/\R J H'
def PI (X:Cx) (tg iter:Expr) (wi:TI):Prop :=
 ∀ (pins:List (Addr×Obj)) (s:Shared) (σ:St) (H:Hp) (R:It->Hp->Prop),Inv X pins σ H s->wi σ H R ->
  wpAny (model X.prog X.w) X.A (eval iter X.env) (λv s1=>wpAny (model X.prog X.w) X.A (pyIter v) (PIE X pins σ tg R) X.xe s1) X.xe s
theorem go_of {M:Model} {A:Around} {E:Value->Shared->Prop} {s:Shared} {tg:Expr} {it:Addr} {u:Value} {o:Obj} {n:String} {vs:Array Value} {Q:Unit->Shared->Prop} (ho:s.heap.get? it=some o) (hc:o.cls=.type n) (hd:o.data=.fields vs)
  (hn:["enumerate", "zip", "dict_itemiterator", "dict_reverseitemiterator", "odict_iterator", "itertools.zip_longest", "itertools.pairwise"].contains n=false) (hQ:Q () s):wpAny M A (letOwnedTupleGo tg (.ref it) u) Q E s:=by
 unfold letOwnedTupleGo
 cases tg <;> first
  | exact wpAny_pure hQ
  | (cases u <;> first
    | exact wpAny_pure hQ
    | (refine wpAny_bind (wpAny_load ho ?_)
       rw [hc,hd]
       show wpAny M A (if (["enumerate", "zip", "dict_itemiterator", "dict_reverseitemiterator", "odict_iterator", "itertools.zip_longest", "itertools.pairwise"].contains n && vs[0]? == some (rawInt _))=true then _ else _) Q E s
       rw [if_neg (by intro h; rw [hn,Bool.false_and] at h; cases h)]
       exact wpAny_pure hQ))
def Itl (K:W.Frag) (a:Addr):It :=
 ⟨λi H=>∃ xs x,SqL K H a xs/\xs[i]?=some x,λi H x H'=>H'=H/\∀ xs,SqL K H a xs->xs[i]?=some x,λi H=>∃ xs,SqL K H a xs/\xs.length<=i⟩
def Itt (K:W.Frag) (a:Addr):It :=
 ⟨λi H=>∃ xs x,SqT K H a xs/\xs[i]?=some x,λi H x H'=>H'=H/\∀ xs,SqT K H a xs->xs[i]?=some x,λi H=>∃ xs,SqT K H a xs/\xs.length<=i⟩
def Itr (lo:Int) (n:Nat):It:=⟨λi _=>i<n,λi H x H'=>H'=H/\x=.int (lo+i),λi _=>n<=i⟩
theorem ZjD {P:Program} {w:World} {K:W.Frag} {tg:Expr} (a it:Addr):Turn P w K tg (Itl K a) [it] it (λi h=>h.IsListIter it a i) where
 mem:=by simp
 obj:=λi h st b hb=>by
  have e:b=it:=by simpa using hb
  subst e
  obtain ⟨o,e,c,d⟩:=st
  exact ⟨o,e,λv z=>by rw [d] at z; cases z⟩
 keep:=λi h h' st k=>st.at λo e=>k it (by simp) o e
 item:=by
  intro X hP hw hK hc i pins s σ H E I hf st hg
  subst hP hw hK
  obtain ⟨xs,x,hq,hx⟩:=hg
  obtain ⟨its,rv,p,hz⟩:=I.list hq
  obtain ⟨u,hu,ru⟩:=rv.get hx
  obtain ⟨f0,f1,f2,f3,f4,f5⟩:=hf it (by simp)
  refine wpAny_pyNext_list_item st p.isList (x:=u) (by simpa using hu) λh' st' sb=>?_
  have I1:Inv X pins σ H { s with heap:=h' }:=I.turned (t':=s.toks) (λb o hb e=>(sb.2 b hb).trans e) f0 f1 f3 f4 f5
  obtain ⟨o,e,c,d⟩:=id st'
  exact ⟨u,rfl,go_of (s:={ s with heap:=h' }) e c d (by decide) ⟨x,H,I1,ru,⟨rfl,λys hy=>by rw [I.list_inj hy hq]; exact hx⟩,st',λb hb=>(hf b hb).1⟩⟩
 done:=by
  intro X hP hw hK hc i pins s σ H E I hf st hg
  subst hP hw hK
  obtain ⟨xs,hq,hx⟩:=hg
  obtain ⟨its,rv,p,hz⟩:=I.list hq
  obtain ⟨f0,f1,f2,f3,f4,f5⟩:=hf it (by simp)
  have hl:=rv.length
  exact wpAny_pyNext_list_end (I.ok.hd hc) st p.isList (by simp; lia) λh' eb=>⟨rfl,I.turned (t':=s.toks) (λb o hb e=>eb b o hb e) f0 f1 f3 f4 f5⟩
 self:=λ_ _ _ _ _ st h=>wpAny_pyIter_listiter st h
theorem Zjh {P:Program} {w:World} {K:W.Frag} {tg:Expr} (a it:Addr):Turn P w K tg (Itt K a) [it] it (λi h=>h.IsTupleIter it a i) where
 mem:=by simp
 obj:=λi h st b hb=>by
  have e:b=it:=by simpa using hb
  subst e
  obtain ⟨o,e,c,d⟩:=st
  exact ⟨o,e,λv z=>by rw [d] at z; cases z⟩
 keep:=λi h h' st k=>st.at λo e=>k it (by simp) o e
 item:=by
  intro X hP hw hK hc i pins s σ H E I hf st hg
  subst hP hw hK
  obtain ⟨xs,x,hq,hx⟩:=hg
  obtain ⟨its,rv,p,hz⟩:=I.tuple hq
  obtain ⟨u,hu,ru⟩:=rv.get hx
  obtain ⟨f0,f1,f2,f3,f4,f5⟩:=hf it (by simp)
  refine wpAny_pyNext_tuple_item st (show s.heap.IsTuple a its.toArray from p) (x:=u) (by simpa using hu) λh' st' sb=>?_
  have I1:Inv X pins σ H { s with heap:=h' }:=I.turned (t':=s.toks) (λb o hb e=>(sb.2 b hb).trans e) f0 f1 f3 f4 f5
  obtain ⟨o,e,c,d⟩:=id st'
  exact ⟨u,rfl,go_of (s:={ s with heap:=h' }) e c d (by decide) ⟨x,H,I1,ru,⟨rfl,λys hy=>by rw [I.tuple_inj hy hq]; exact hx⟩,st',λb hb=>(hf b hb).1⟩⟩
 done:=by
  intro X hP hw hK hc i pins s σ H E I hf st hg
  subst hP hw hK
  obtain ⟨xs,hq,hx⟩:=hg
  obtain ⟨its,rv,p,hz⟩:=I.tuple hq
  obtain ⟨f0,f1,f2,f3,f4,f5⟩:=hf it (by simp)
  have hl:=rv.length
  exact wpAny_pyNext_tuple_end (I.ok.hd hc) st (show s.heap.IsTuple a its.toArray from p) (by simp; lia) λh' eb=>⟨rfl,I.turned (t':=s.toks) (λb o hb e=>eb b o hb e) f0 f1 f3 f4 f5⟩
 self:=λ_ _ _ _ _ st h=>wpAny_pyIter_tupleiter st h
theorem Zji {P:Program} {w:World} {K:W.Frag} {tg:Expr} (it:Addr) (lo:Int) (n:Nat):Turn P w K tg (Itr lo n) [it] it (λi h=>IsRangeIter h it (lo+(i:Nat) * 1) ((n:Int) - (i:Nat)) 1) where
 mem:=by simp
 obj:=λi h st b hb=>by
  have e:b=it:=by simpa using hb
  subst e
  exact ⟨_,st,λv z=>by
   have z':Data.fields _=Data.cell v:=z
   cases z'⟩
 keep:=λi h h' st k=>k it (by simp) _ st
 item:=by
  intro X hP hw hK hc i pins s σ H E I hf st hg
  subst hP hw hK
  obtain ⟨f0,f1,f2,f3,f4,f5⟩:=hf it (by simp)
  have W:=Walks.range (prog:=X.prog) (w:=X.w) (I.ok.hd hc) it lo 1 n
  refine W.item i s _ _ hg st λv h' tk hv st' kk=>?_
  obtain ⟨t,rfl⟩:=hv
  have I1:Inv X pins σ H { s with heap:=h',toks:=tk }:=I.turned (λb o hb e=>kk b o (by simpa using hb) e) f0 f1 f3 f4 f5
  refine ⟨_,rfl,go_of (s:={ s with heap:=h',toks:=tk }) (n := "range_iterator") st' rfl rfl (by decide) ⟨.int (lo+i),H,I1,⟨t,?_⟩,⟨rfl,rfl⟩,st',λb hb=>(hf b hb).1⟩⟩
  rw [Int.mul_one]
 done:=by
  intro X hP hw hK hc i pins s σ H E I hf st hg
  subst hP hw hK
  obtain ⟨f0,f1,f2,f3,f4,f5⟩:=hf it (by simp)
  exact wpAny_pyNext_range_end (I.ok.hd hc) st (by have:n<=i:=hg; lia) λh' eb=>⟨rfl,I.turned (t':=s.toks) (λb o hb e=>eb b o hb e) f0 f1 f3 f4 f5⟩
 self:=λ_ _ _ _ _ st h=>wpAny_pyIter_rangeiter st h
section
variable {X:Cx} {tg:Expr}
def iList (K:W.Frag) (tl:TE):TI:=λσ H R=>tl σ H λx H1=>∃ a,x=.ref a/\(∃ xs,SqL K H1 a xs)/\R (Itl K a) H1
def iTup (K:W.Frag) (tl:TE):TI:=λσ H R=>tl σ H λx H1=>∃ a,x=.ref a/\(∃ xs,SqT K H1 a xs)/\R (Itt K a) H1
theorem ZmU {l:Expr} {tl:TE} (hl:PE X l tl):PI X tg l (iList X.K tl):=by
 intro pins s σ H R I h
 refine thE (hl pins s σ H _ I h) λv s1 x H1 I1 r1 q1=>?_
 obtain ⟨a,e,⟨xs,hq⟩,q⟩:=q1
 subst e
 cases r1
 obtain ⟨its,rv,p,hz⟩:=I1.list hq
 refine wpAny_pyIter_list p.isList ?_
 refine ⟨s1.heap.objs.size,[s1.heap.objs.size],_,_,H1,rfl,I1.kept (t':=s1.toks) λb o e=>Heap.get?_push_of_some _ e,ZjD a _,⟨_,Heap.get?_push_size _ rfl,rfl,rfl⟩,λb hb=>?_,q⟩
 have e:b=s1.heap.objs.size:=by simpa using hb
 subst e
 exact I1.fpOk (Nat.le_refl _) (I1.hok.fresh (Nat.le_refl _))
theorem Zoa {l:Expr} {tl:TE} (hl:PE X l tl):PI X tg l (iTup X.K tl):=by
 intro pins s σ H R I h
 refine thE (hl pins s σ H _ I h) λv s1 x H1 I1 r1 q1=>?_
 obtain ⟨a,e,⟨xs,hq⟩,q⟩:=q1
 subst e
 cases r1
 obtain ⟨its,rv,p,hz⟩:=I1.tuple hq
 refine wpAny_pyIter_tuple (show s1.heap.IsTuple a its.toArray from p) ?_
 refine ⟨s1.heap.objs.size,[s1.heap.objs.size],_,_,H1,rfl,I1.kept (t':=s1.toks) λb o e=>Heap.get?_push_of_some _ e,Zjh a _,⟨_,Heap.get?_push_size _ rfl,rfl,rfl⟩,λb hb=>?_,q⟩
 have e:b=s1.heap.objs.size:=by simpa using hb
 subst e
 exact I1.fpOk (Nat.le_refl _) (I1.hok.fresh (Nat.le_refl _))
theorem Zie {pins:List (Addr×Obj)} {σ:St} {H:Hp} {s:Shared} {R:It->Hp->Prop} {E:Value->Shared->Prop} {lo hi:Int} {t u v:Tok} {tk:Nat} (I:Inv X pins σ H s) (h1 : -(2 ^ 62)<=lo) (h2:lo<2 ^ 62) (h3 : -(2 ^ 62)<=hi) (h4:hi<2 ^ 62)
  (q:R (Itr lo (hi - lo).toNat) H):wpAny (model X.prog X.w) X.A (pyIter (.ref s.heap.objs.size)) (PIE X pins σ tg R) E { s with heap:=s.heap.push { cls:=.type "range",data:=.fields #[.int lo t,.int hi u,.int 1 v] },toks:=tk }:=by
 refine wpAny_pyIter_range (IsRange.new ..) (small_one h1 h2 h3 h4) ?_
 have I1:Inv X pins σ H { s with heap:=s.heap.push { cls:=.type "range",data:=.fields #[.int lo t,.int hi u,.int 1 v] },toks:=tk }:=I.kept λb o e=>Heap.get?_push_of_some _ e
 refine ⟨(s.heap.push { cls:=.type "range",data:=.fields #[.int lo t,.int hi u,.int 1 v] }).objs.size,[(s.heap.push { cls:=.type "range",data:=.fields #[.int lo t,.int hi u,.int 1 v] }).objs.size],_,_,H,rfl,
  I1.kept (t':=tk) λb o e=>Heap.get?_push_of_some _ e,Zji _ lo (hi - lo).toNat,?_,λb hb=>?_,q⟩
 .have e1:lo+((0:Nat):Int) * 1=lo:=by simp
  have e2:(((hi - lo).toNat:Nat):Int) - ((0:Nat):Int)=Builtin.Range.rangeSize lo hi 1:=by rw [rangeSize_one]; split <;> lia
  show IsRangeIter _ _ (lo+((0:Nat):Int) * 1) ((((hi - lo).toNat:Nat):Int) - ((0:Nat):Int)) 1
  rw [e1,e2]
  exact Heap.get?_push_size _ rfl
 .have e:b=(s.heap.push { cls:=.type "range",data:=.fields #[.int lo t,.int hi u,.int 1 v] }).objs.size:=by simpa using hb
  subst e
  exact I1.fpOk (Nat.le_refl _) (I1.hok.fresh (Nat.le_refl _))
def iRng1 (ta:TA):TI:=λσ H R=>ta σ H λvs H1=>∃ j:Int,vs=[.int j] /\ -(2 ^ 62)<=j/\j<2 ^ 62/\R (Itr 0 j.toNat) H1
def iRng2 (ta:TA):TI:=λσ H R=>ta σ H λvs H1=>∃ i j:Int,vs=[.int i,.int j]/\(-(2 ^ 62)<=i/\i<2 ^ 62 /\ -(2 ^ 62)<=j/\j<2 ^ 62)/\R (Itr i (j - i).toNat) H1
theorem Zbg {a:Expr} {ta:TA} {p pos:Pos} (hg:Gl X "range") (hm:X.mg "range" = none) (ha:PA X [a] ta) (hs:starEach [a] X.env=[(false,eval a X.env)]:=by rfl):PI X tg (.Call (.Name "range" p) [a] [] pos) (iRng1 ta):=by
 intro pins s σ H R I h
 refine Call_ (Zbw I hg hm boot_range (PyProof.Rows.callWith_type1 (thA (ha pos pins s σ H _ I h) λus s1 vs H1 I1 r1 q1=>?_) hs rfl))
 obtain ⟨j,e,q1,q2,q⟩:=q1
 subst e
 cases r1 with
 | cons r rr =>
  cases rr
  obtain ⟨t,rfl⟩:=r
  exact call_range_1 (Zie I1 (by lia) (by lia) q1 q2 (by simpa using q))
theorem ZjE {a b:Expr} {ta:TA} {p pos:Pos} (hg:Gl X "range") (hm:X.mg "range" = none) (ha:PA X [a,b] ta) (hs:starEach [a,b] X.env=[(false,eval a X.env),(false,eval b X.env)]:=by rfl) (hs2:starEach [b] X.env=[(false,eval b X.env)]:=by rfl) :
  PI X tg (.Call (.Name "range" p) [a,b] [] pos) (iRng2 ta):=by
 intro pins s σ H R I h
 refine Call_ (Zbw I hg hm boot_range (PyProof.Rows.callWith_type1 (thA (ha pos pins s σ H _ I h) λus s1 vs H1 I1 r1 q1=>?_) (by rw [hs,hs2]) (by rw [hs2]; rfl)))
 obtain ⟨i,j,e,⟨q1,q2,q3,q4⟩,q⟩:=q1
 subst e
 cases r1 with
 | cons r rr =>
  cases rr with
  | cons r' rr =>
   cases rr
   obtain ⟨t,rfl⟩:=r
   obtain ⟨t',rfl⟩:=r'
   exact call_range_2 (Zie I1 q1 q2 q3 q4 q)
def tFor (wi:TI) (g:TG) (tb:TS):TS:=λD σ H=>wi σ H λJ H1=>∃ W:Nat->Nat->St->Hp->Prop,(∃ m,W 0 m σ H1)/\∀ i m σ H,W i m σ H ->
 (J.stop i H/\D.nx σ H)\/(J.go i H/\∃ N:St->Hp->Prop,(∀ σ' H',N σ' H'->∃ m',m'<m/\W (i+1) m' σ' H')/\∀ x H',J.yld i H x H'->g x σ H' λσ2 H2=>tb { D with nx:=N,ct:=N,bk:=D.nx } σ2 H2)
def Zgu (fp:List Addr) (h:Heap):List (Addr×Obj):=fp.filterMap λb=>(h.get? b).map λo=>(b,o)
theorem ZcB {fp:List Addr} {h:Heap} {b:Addr} {o:Obj} (hb:b∈fp) (e:h.get? b=some o):(b,o)∈Zgu fp h:=List.mem_filterMap.mpr ⟨b,hb,by rw [e]; rfl⟩
theorem ZjF {fp:List Addr} {h:Heap} {p:Addr×Obj} (hp:p∈Zgu fp h):p.1∈fp/\h.get? p.1=some p.2:=by
 obtain ⟨b,hb,e⟩:=List.mem_filterMap.mp hp
 cases q:h.get? b with
 | none=>rw [q] at e; cases e
 | some o =>
  rw [q] at e
  have e':(b,o)=p:=Option.some.inj e
  subst e'
  exact ⟨hb,q⟩
theorem Inv.pinned {pins:List (Addr×Obj)} {σ:St} {H:Hp} {s:Shared} {fp:List Addr} (I:Inv X pins σ H s) (hf:∀ b∈fp,FpOk X pins H b) (ho:∀ b∈fp,∃ o,s.heap.get? b=some o/\∀ v,o.data≠.cell v):Inv X (pins++Zgu fp s.heap) σ H s :=
 I.pins_of λp hp=>(List.mem_append.mp hp).elim (λz=>I.pin p (mem_append_right _ z)) λz=>by
  obtain ⟨hb,e⟩:=ZjF z
  obtain ⟨f0,f1,f2,_⟩:=hf p.1 hb
  obtain ⟨o,e',d⟩:=ho p.1 hb
  rw [e] at e'; cases e'
  exact ⟨e,f0,f1,f2,d⟩
theorem Inv.unpinned {pins pl:List (Addr×Obj)} {σ:St} {H:Hp} {s:Shared} (I:Inv X (pins++pl) σ H s):Inv X pins σ H s:=I.pins_of λp hp=>I.pin p (mem_append_right _ (mem_append_left _ hp))
theorem Zcj {iter:Expr} {body:List Stmt} {wi:TI} {g:TG} {tb:TS} {pos:Pos} (hp:PassesOwn (model X.prog X.w) X.A X.env X.xe) (hc:X.calm=true) (hi:PI X tg iter wi) (hg:PG X tg g) (hb:PSs X body tb)
  (hs:∀ x,foldedSetIterable iter X.env x=pure x:=by intro _; rfl):PS X (.For tg iter body [] pos) (tFor wi g tb):=by
 intro pins s σ H D I h
 refine wpAny_For (thn (hi pins s σ H _ I h) λv s1 h1=>thn h1 λitv s2 h2=>?_) hs
 obtain ⟨it,fp,tn,J,H2,e,I2,T,st2,f2,W,⟨m0,w0⟩,turn⟩:=h2
 subst e
 have stat:∀ {H':Hp},(∀ b∈fp,H' b=none)->∀ b∈fp,FpOk X pins H' b:=λhn b hb=>⟨hn b hb,(f2 b hb).2⟩
 refine codeAny_forLoop_any (λn s'=>∃ i σ' H',Inv X pins σ' H' s'/\tn i s'.heap/\(∀ b∈fp,H' b=none)/\W i n σ' H') ?_ m0 ⟨0,σ,H2,I2,st2,λb hb=>(f2 b hb).1,w0⟩
 rintro n s3 ⟨i,σ3,H3,I3,st3,fr3,w3⟩
 rcases turn i n σ3 H3 w3 with ⟨stop,qn⟩ | ⟨go,N,hN,step⟩
 .refine wpAny_passesOwn hp (thn (T.done X rfl rfl rfl hc i pins s3 σ3 H3 X.xe I3 (stat fr3) st3 stop) λr s4 ⟨hr,I4⟩=>?_)
  subst hr
  exact wpAny_execs_nil ⟨σ3,H3,I4,qn⟩
 .refine wpAny_passesOwn hp (thn (T.item X rfl rfl rfl hc i pins s3 σ3 H3 X.xe I3 (stat fr3) st3 go) λr s4 ⟨u,hr,h4⟩=>?_)
  subst hr
  refine wpAny_passesOwn hp (thn h4 λ_ s5 ⟨x,H5,I5,r5,y5,st5,fr5⟩=>?_)
  have I5':=I5.pinned (stat fr5) (T.obj _ _ st5)
  refine wpAny_passesOwn hp (thn (hg _ s5 σ3 H5 x u _ I5' r5 (step x H5 y5)) λ_ s6 ⟨σ6,H6,I6,q6⟩=>?_)
  refine wpAny_passesOwn hp (thn (hb _ s6 σ6 H6 _ I6 q6) λf s7 q7=>?_)
  have again:∀ {σ7:St} {H7:Hp},Inv X (pins++Zgu fp s5.heap) σ7 H7 s7->N σ7 H7->∃ m,m<n/\∃ i σ' H',Inv X pins σ' H' s7/\tn i s7.heap/\(∀ b∈fp,H' b=none)/\W i m σ' H':=λ{σ7 H7} I7 n7=>by
   obtain ⟨m',hm,w7⟩:=hN σ7 H7 n7
   refine ⟨m',hm,i+1,σ7,H7,I7.unpinned,T.keep _ _ _ st5 λb hb o e=>(I7.pin (b,o) (mem_append_right _ (mem_append_right _ (ZcB hb e)))).1,λb hb=>?_,w7⟩
   obtain ⟨o,e,d⟩:=T.obj _ _ st5 b hb
   exact (I7.pin (b,o) (mem_append_right _ (mem_append_right _ (ZcB hb e)))).2.1
  cases f with
  | next=>obtain ⟨σ7,H7,I7,n7⟩:=q7; exact again I7 n7
  | cont=>obtain ⟨σ7,H7,I7,n7⟩:=q7; exact again I7 n7
  | brk=>obtain ⟨σ7,H7,I7,q7⟩:=q7; exact ⟨σ7,H7,I7.unpinned,q7⟩
  | ret v=>obtain ⟨x7,σ7,H7,I7,r7,q7⟩:=q7; exact ⟨x7,σ7,H7,I7.unpinned,r7,q7⟩
end
theorem Zif {K:W.Frag} {a:Addr} {xs:List V} {g:TG} {tb:TS} {D:Ends} {σ:St} {H:Hp} (Pv:Nat->St->Hp->Prop) (h0:Pv 0 σ H) (hl:∀ i σ H,i<=xs.length->Pv i σ H->SqL K H a xs)
  (hs:∀ i x σ H,xs[i]?=some x->Pv i σ H->g x σ H λσ2 H2=>tb { D with nx:=Pv (i+1),ct:=Pv (i+1),bk:=D.nx } σ2 H2) (hd:∀ σ H,Pv xs.length σ H->D.nx σ H) :
  ∃ W:Nat->Nat->St->Hp->Prop,(∃ m,W 0 m σ H)/\∀ i m σ H,W i m σ H ->
   ((Itl K a).stop i H/\D.nx σ H)\/((Itl K a).go i H/\∃ N:St->Hp->Prop,(∀ σ' H',N σ' H'->∃ m',m'<m/\W (i+1) m' σ' H')/\∀ x H',(Itl K a).yld i H x H'->g x σ H' λσ2 H2=>tb { D with nx:=N,ct:=N,bk:=D.nx } σ2 H2):=by
 refine ⟨λi m σ H=>m=xs.length - i/\i<=xs.length/\Pv i σ H,⟨xs.length,by simp,Nat.zero_le _,h0⟩,?_⟩
 rintro i m σ H ⟨rfl,hi,p⟩
 have q:=hl i σ H hi p
 by_cases hlt:i<xs.length
 .refine .inr ⟨⟨xs,xs[i],q,by simp [hlt]⟩,Pv (i+1),λσ' H' p'=>⟨xs.length - (i+1),by lia,rfl,hlt,p'⟩,λx H' y=>?_⟩
  obtain ⟨e,y⟩:=y
  subst e
  exact hs i x σ _ (y xs q) p
 .have e:i=xs.length:=by lia
  subst e
  exact .inl ⟨⟨xs,q,Nat.le_refl _⟩,hd σ H p⟩
theorem Zdc {lo:Int} {n:Nat} {g:TG} {tb:TS} {D:Ends} {σ:St} {H:Hp} (Pv:Nat->St->Hp->Prop) (h0:Pv 0 σ H)
  (hs:∀ i σ H,i<n->Pv i σ H->g (.int (lo+i)) σ H λσ2 H2=>tb { D with nx:=Pv (i+1),ct:=Pv (i+1),bk:=D.nx } σ2 H2) (hd:∀ σ H,Pv n σ H->D.nx σ H) :
  ∃ W:Nat->Nat->St->Hp->Prop,(∃ m,W 0 m σ H)/\∀ i m σ H,W i m σ H ->
   ((Itr lo n).stop i H/\D.nx σ H)\/((Itr lo n).go i H/\∃ N:St->Hp->Prop,(∀ σ' H',N σ' H'->∃ m',m'<m/\W (i+1) m' σ' H')/\∀ x H',(Itr lo n).yld i H x H'->g x σ H' λσ2 H2=>tb { D with nx:=N,ct:=N,bk:=D.nx } σ2 H2):=by
 refine ⟨λi m σ H=>m=n - i/\i<=n/\Pv i σ H,⟨n,by simp,Nat.zero_le _,h0⟩,?_⟩
 rintro i m σ H ⟨rfl,hi,p⟩
 by_cases hlt:i<n
 .refine .inr ⟨hlt,Pv (i+1),λσ' H' p'=>⟨n - (i+1),by lia,rfl,hlt,p'⟩,λx H' y=>?_⟩
  obtain ⟨e,y⟩:=y
  subst e y
  exact hs i σ _ hlt p
 .have e:i=n:=by lia
  subst e
  exact .inl ⟨Nat.le_refl _,hd σ H p⟩
abbrev R2:=V->V->Hp->VK->Prop
def OpR (X:Cx) (f:Value->Value->Sem Value) (r:R2):Prop :=
 ∀ (pins:List (Addr×Obj)) (s:Shared) (σ:St) (H:Hp) (x y:V) (v u:Value) (Q:VK),Inv X pins σ H s->RelV x v->RelV y u->r x y H Q ->
  wpAny (model X.prog X.w) X.A (f v u) (EP X pins σ Q) X.xe s
def UnR (X:Cx) (f:Value->Sem Value) (r:V->Hp->VK->Prop):Prop :=
 ∀ (pins:List (Addr×Obj)) (s:Shared) (σ:St) (H:Hp) (x:V) (v:Value) (Q:VK),Inv X pins σ H s->RelV x v->r x H Q ->
  wpAny (model X.prog X.w) X.A (f v) (EP X pins σ Q) X.xe s
def CallR (X:Cx) (f:Value) (r:List V->Hp->VK->Prop):Prop :=
 ∀ (pins:List (Addr×Obj)) (s:Shared) (σ:St) (H:Hp) (xs:List V) (us:List Value) (Q:VK),Inv X pins σ H s->Vals xs us->r xs H Q ->
  wpAny (model X.prog X.w) X.A (call f us) (EP X pins σ Q) X.xe s
def tOp (r:R2) (ta tb:TE):TE:=λσ H Q=>ta σ H λx H1=>tb σ H1 λy H2=>r x y H2 Q
def tUn (r:V->Hp->VK->Prop) (ta:TE):TE:=λσ H Q=>ta σ H λx H1=>r x H1 Q
def rI (C:Int->Int->Prop) (g:Int->Int->V):R2:=λx y H Q=>∃ i j,x=.int i/\y=.int j/\C i j/\Q (g i j) H
def rI0 (g:Int->Int->V):R2:=λx y H Q=>∃ i j,x=.int i/\y=.int j/\Q (g i j) H
def rU (g:Int->V):V->Hp->VK->Prop:=λx H Q=>∃ i,x=.int i/\Q (g i) H
section
variable {X:Cx} {a b c:Expr} {ta tb tc:TE} {pos:Pos}
theorem binT (ha:PE X a ta) (hb:PE X b tb) {pins:List (Addr×Obj)} {s:Shared} {σ:St} {H:Hp} {R:V->V->Hp->Prop} (I:Inv X pins σ H s)
  (h:ta σ H λx H1=>tb σ H1 λy H2=>R x y H2) {Q:Value->Shared->Prop} {f:Value->Value->Sem Value}
  (hf:∀ v u s2 x y H2,Inv X pins σ H2 s2->RelV x v->RelV y u->R x y H2->wpAny (model X.prog X.w) X.A (f v u) Q X.xe s2) :
  wpAny (model X.prog X.w) X.A (eval a X.env) (λv s₁=>wpAny (model X.prog X.w) X.A (eval b X.env) (λu s₂=>wpAny (model X.prog X.w) X.A (f v u) Q X.xe s₂) X.xe s₁) X.xe s:=by
 refine thE (ha pins s σ H _ I h) λv s1 x H1 I1 r1 q1=>?_
 refine thE (hb pins s1 σ H1 _ I1 q1) λu s2 y H2 I2 r2 q2=>?_
 exact hf v u s2 x y H2 I2 r1 r2 q2
theorem pe_op {op:Operator} {r:R2} (ho:OpR X (binaryOp op) r) (ha:PE X a ta) (hb:PE X b tb):PE X (.BinOp a op b pos) (tOp r ta tb):=by
 intro pins s σ H Q I h
 exact wpAny_BinOp (binT ha hb I h λv u s2 x y H2 I2 rx ry q=>ho pins s2 σ H2 x y v u Q I2 rx ry q)
theorem pe_un {op:UnaryOp} {r:V->Hp->VK->Prop} (ho:UnR X (unaryOp op) r) (ha:PE X a ta):PE X (.UnaryOp op a pos) (tUn r ta):=by
 intro pins s σ H Q I h
 exact UnaryOp_ (thE (ha pins s σ H _ I h) λv s1 x H1 I1 r1 q1=>ho pins s1 σ H1 x v Q I1 r1 q1)
theorem opI {f:Value->Value->Sem Value} {C:Int->Int->Prop} {g:Int->Int->Int}
  (rule:∀ (i j:Int) (t u:Tok) (s:Shared) (Q:Value->Shared->Prop) (E:Value->Shared->Prop),C i j->Q (.int (g i j) s.toks) { s with toks:=s.toks+1 }->wpAny (model X.prog X.w) X.A (f (.int i t) (.int j u)) Q E s) :
  OpR X f (rI C λi j=>.int (g i j)):=by
 intro pins s σ H x y v u Q I rx ry h
 obtain ⟨i,j,rfl,rfl,hc,q⟩:=h
 obtain ⟨t,rfl⟩:=rx
 obtain ⟨t',rfl⟩:=ry
 exact rule i j t t' s _ _ hc ⟨.int (g i j),H,I.tok _,⟨_,rfl⟩,q⟩
theorem opI0 {f:Value->Value->Sem Value} {g:Int->Int->Int}
  (rule:∀ (i j:Int) (t u:Tok) (s:Shared) (Q:Value->Shared->Prop) (E:Value->Shared->Prop),Q (.int (g i j) s.toks) { s with toks:=s.toks+1 }->wpAny (model X.prog X.w) X.A (f (.int i t) (.int j u)) Q E s) :
  OpR X f (rI0 λi j=>.int (g i j)):=by
 intro pins s σ H x y v u Q I rx ry h
 obtain ⟨i,j,rfl,rfl,q⟩:=h
 obtain ⟨t,rfl⟩:=rx
 obtain ⟨t',rfl⟩:=ry
 exact rule i j t t' s _ _ ⟨.int (g i j),H,I.tok _,⟨_,rfl⟩,q⟩
theorem opB0 {f:Value->Value->Sem Value} {g:Int->Int->Bool}
  (rule:∀ (i j:Int) (t u:Tok) (s:Shared) (Q:Value->Shared->Prop) (E:Value->Shared->Prop),Q (.bool (g i j)) s->wpAny (model X.prog X.w) X.A (f (.int i t) (.int j u)) Q E s) :
  OpR X f (rI0 λi j=>.bl (g i j)):=by
 intro pins s σ H x y v u Q I rx ry h
 obtain ⟨i,j,rfl,rfl,q⟩:=h
 obtain ⟨t,rfl⟩:=rx
 obtain ⟨t',rfl⟩:=ry
 exact rule i j t t' s _ _ ⟨.bl (g i j),H,I,rfl,q⟩
def CDiv (i j:Int):Prop:=0<j/\j<1073741824
def CPow (i j:Int):Prop:=0<=j/\j<=1000000/\i.natAbs<2 ^ 64
def CMul (i j:Int):Prop:=(-(2 ^ 64)<i/\i<2 ^ 64)\/(-(2 ^ 64)<j/\j<2 ^ 64)
theorem CMul.ok {i j:Int} (h:CMul i j):IntMulOk i j:=by
 rcases h with ⟨h1,h2⟩ | ⟨h1,h2⟩
 .exact .of_left (intBits_le_64 h1 h2)
 .exact .of_right (intBits_le_64 h1 h2)
theorem ZF:OpR X (binaryOp .Add) (rI0 λi j=>.int (i+j)):=opI0 λ_ _ _ _ _ _ _ q=>add_int q
theorem ZcL:OpR X (binaryOp .Sub) (rI0 λi j=>.int (i - j)):=opI0 λ_ _ _ _ _ _ _ q=>sub_int q
theorem ZbN:OpR X (binaryOp .Mult) (rI CMul λi j=>.int (i * j)):=opI λ_ _ _ _ _ _ _ hc q=>mul_int q hc.ok
theorem ZcO:OpR X (binaryOp .FloorDiv) (rI CDiv λi j=>.int (i / j)):=opI λi j _ _ _ _ _ hc q=>by
 have h1:(0:Int)<j:=hc.1
 have h2:j<1073741824:=hc.2
 exact floordiv_int (by lia) (by rw [Int.fdiv_eq_ediv_of_nonneg i (by lia)]; exact q) (.inl (PyProof.noPylong_small (by lia)))
theorem Zbz:OpR X (binaryOp .Mod) (rI (λ_ j=>0<j) λi j=>.int (i % j)):=opI λi j _ _ _ _ _ hc q=>by
 have h1:(0:Int)<j:=hc
 exact mod_int' (by lia) (by rw [Int.fmod_eq_emod_of_nonneg i (by lia)]; exact q)
theorem ZjG:OpR X (binaryOp .Pow) (rI CPow λi j=>.int (i ^ j.toNat)):=opI λ_ _ _ _ _ _ _ hc q=>pow_int_small hc.1 hc.2.1 hc.2.2 q
theorem unI {f:Value->Sem Value} {g:Int->Int}
  (rule:∀ (i:Int) (t:Tok) (s:Shared) (Q:Value->Shared->Prop) (E:Value->Shared->Prop),Q (.int (g i) s.toks) { s with toks:=s.toks+1 }->wpAny (model X.prog X.w) X.A (f (.int i t)) Q E s) :
  UnR X f (rU λi=>.int (g i)):=by
 intro pins s σ H x v Q I rx h
 obtain ⟨i,rfl,q⟩:=h
 obtain ⟨t,rfl⟩:=rx
 exact rule i t s _ _ ⟨.int (g i),H,I.tok _,⟨_,rfl⟩,q⟩
theorem Zer:UnR X (unaryOp .USub) (rU λi=>.int (-i)):=unI λ_ _ _ _ _ q=>neg_int q
end
def scal:V->V->Bool
 | .non,.non=>true | .non,.int _=>true | .int _,.non=>true | .non,.bl _=>true | .bl _,.non=>true | .non,.str _=>true | .str _,.non=>true
 | .int _,.int _=>true | .bl _,.bl _=>true | .str _,.str _=>true | .byt _,.byt _=>true
 | .int _,.str _=>true | .str _,.int _=>true | .bl _,.str _=>true | .str _,.bl _=>true
 | _,_=>false
def rEq:R2:=λx y H Q=>scal x y=true/\Q (.bl (decide (x=y))) H
def rNe:R2:=λx y H Q=>scal x y=true/\Q (.bl (!decide (x=y))) H
theorem ZjH {i j:Int}:decide (V.int i=V.int j)=(i == j):=by
 rw [Bool.eq_iff_iff]
 simp
theorem Zmt {i j:Bool}:decide (V.bl i=V.bl j)=(i == j):=by
 rw [Bool.eq_iff_iff]
 simp
theorem ZjI {i j:Str}:decide (V.str i=V.str j)=(i == j):=by
 rw [Bool.eq_iff_iff]
 simp
theorem ZjJ {i j:Array UInt8}:decide (V.byt i=V.byt j)=(i.toList == j.toList):=by
 rw [Bool.eq_iff_iff]
 cases i
 cases j
 simp
section
variable {X:Cx} {a b c:Expr} {ta tb tc:TE} {pos:Pos}
theorem Zy {pins:List (Addr×Obj)} {σ:St} {H:Hp} {s:Shared} {Q:VK} {k k':Bool} (I:Inv X pins σ H s) (q:Q (.bl k) H) (e:k=k'):EP X pins σ Q (.bool k') s:=by
 subst e
 exact ⟨.bl k,H,I,rfl,q⟩
theorem op_eq:OpR X (compareOp .Eq) rEq:=by
 intro pins s σ H x y v u Q I rx ry h
 obtain ⟨hs,q⟩:=h
 cases x with
 | non =>
  cases rx
  cases y with
  | non=>cases ry; exact PySem.EqNone.eq_none_none (Zy I q (by simp))
  | bl j=>cases ry; exact PySem.EqNone.eq_none_bool (Zy I q (by simp))
  | int j=>obtain ⟨t',rfl⟩:=ry; exact PySem.EqNone.eq_none_int (Zy I q (by simp))
  | str j=>obtain ⟨t',rfl⟩:=ry; exact PySem.EqNone.eq_none_str (Zy I q (by simp))
  | _=>exact absurd (show false=true from hs) Bool.false_ne_true
 | bl i =>
  cases rx
  cases y with
  | non=>cases ry; exact PySem.EqNone.eq_bool_none (Zy I q (by simp))
  | bl j=>cases ry; exact eq_bool (Zy I q Zmt)
  | str j=>obtain ⟨t',rfl⟩:=ry; exact PySem.EqMixed.eq_bool_str (Zy I q (by simp))
  | _=>exact absurd (show false=true from hs) Bool.false_ne_true
 | int i =>
  obtain ⟨t,rfl⟩:=rx
  cases y with
  | non=>cases ry; exact PySem.EqNone.eq_int_none (Zy I q (by simp))
  | int j=>obtain ⟨t',rfl⟩:=ry; exact eq_int (Zy I q ZjH)
  | str j=>obtain ⟨t',rfl⟩:=ry; exact PySem.EqMixed.eq_int_str (Zy I q (by simp))
  | _=>exact absurd (show false=true from hs) Bool.false_ne_true
 | str i =>
  obtain ⟨t,rfl⟩:=rx
  cases y with
  | non=>cases ry; exact PySem.EqNone.eq_str_none (Zy I q (by simp))
  | bl j=>cases ry; exact PySem.EqMixed.eq_str_bool (Zy I q (by simp))
  | int j=>obtain ⟨t',rfl⟩:=ry; exact PySem.EqMixed.eq_str_int (Zy I q (by simp))
  | str j=>obtain ⟨t',rfl⟩:=ry; exact eq_str (Zy I q ZjI)
  | _=>exact absurd (show false=true from hs) Bool.false_ne_true
 | byt i =>
  obtain ⟨t,rfl⟩:=rx
  cases y with
  | byt j=>obtain ⟨t',rfl⟩:=ry; exact W.eq_bytes (Zy I q ZjJ)
  | _=>exact absurd (show false=true from hs) Bool.false_ne_true
 | _=>cases y <;> exact absurd (show false=true from hs) Bool.false_ne_true
theorem op_ne:OpR X (compareOp .NotEq) rNe:=by
 intro pins s σ H x y v u Q I rx ry h
 obtain ⟨hs,q⟩:=h
 cases x with
 | non =>
  cases rx
  cases y with
  | non=>cases ry; exact PySem.EqNone.ne_none_none (Zy I q (by simp))
  | bl j=>cases ry; exact PySem.EqNone.ne_none_bool (Zy I q (by simp))
  | int j=>obtain ⟨t',rfl⟩:=ry; exact PySem.EqNone.ne_none_int (Zy I q (by simp))
  | str j=>obtain ⟨t',rfl⟩:=ry; exact PySem.EqNone.ne_none_str (Zy I q (by simp))
  | _=>exact absurd (show false=true from hs) Bool.false_ne_true
 | bl i =>
  cases rx
  cases y with
  | non=>cases ry; exact PySem.EqNone.ne_bool_none (Zy I q (by simp))
  | bl j=>cases ry; exact ne_bool (Zy I q (congrArg not Zmt))
  | str j=>obtain ⟨t',rfl⟩:=ry; exact PySem.EqMixed.ne_bool_str (Zy I q (by simp))
  | _=>exact absurd (show false=true from hs) Bool.false_ne_true
 | int i =>
  obtain ⟨t,rfl⟩:=rx
  cases y with
  | non=>cases ry; exact PySem.EqNone.ne_int_none (Zy I q (by simp))
  | int j=>obtain ⟨t',rfl⟩:=ry; exact ne_int (Zy I q (congrArg not ZjH))
  | str j=>obtain ⟨t',rfl⟩:=ry; exact PySem.EqMixed.ne_int_str (Zy I q (by simp))
  | _=>exact absurd (show false=true from hs) Bool.false_ne_true
 | str i =>
  obtain ⟨t,rfl⟩:=rx
  cases y with
  | non=>cases ry; exact PySem.EqNone.ne_str_none (Zy I q (by simp))
  | bl j=>cases ry; exact PySem.EqMixed.ne_str_bool (Zy I q (by simp))
  | int j=>obtain ⟨t',rfl⟩:=ry; exact PySem.EqMixed.ne_str_int (Zy I q (by simp))
  | str j=>obtain ⟨t',rfl⟩:=ry; exact ne_str (Zy I q (congrArg not ZjI))
  | _=>exact absurd (show false=true from hs) Bool.false_ne_true
 | byt i =>
  obtain ⟨t,rfl⟩:=rx
  cases y with
  | byt j=>obtain ⟨t',rfl⟩:=ry; exact W.ne_bytes (Zy I q (congrArg not ZjJ))
  | _=>exact absurd (show false=true from hs) Bool.false_ne_true
 | _=>cases y <;> exact absurd (show false=true from hs) Bool.false_ne_true
theorem op_lt:OpR X (compareOp .Lt) (rI0 λi j=>.bl (decide (i<j))):=opB0 λ_ _ _ _ _ _ _ q=>lt_int q
theorem op_le:OpR X (compareOp .LtE) (rI0 λi j=>.bl (decide (i<=j))):=opB0 λ_ _ _ _ _ _ _ q=>le_int q
theorem op_gt:OpR X (compareOp .Gt) (rI0 λi j=>.bl (decide (j<i))):=opB0 λ_ _ _ _ _ _ _ q=>gt_int q
theorem op_ge:OpR X (compareOp .GtE) (rI0 λi j=>.bl (decide (j<=i))):=opB0 λ_ _ _ _ _ _ _ q=>ge_int q
theorem Zv (b:Expr) {op:CmpOp} (h:op≠.In:=by decide) (h2:op≠.NotIn:=by decide):behindInMarks op b=false:=by
 have e1:(op == CmpOp.In)=false:=by cases op <;> first | rfl | exact absurd rfl h
 have e2:(op == CmpOp.NotIn)=false:=by cases op <;> first | rfl | exact absurd rfl h2
 cases b <;> simp [behindInMarks,e1,e2]
theorem ZaN {op:CmpOp} {r:R2} (ho:OpR X (compareOp op) r) (ha:PE X a ta) (hb:PE X b tb) (hm:behindInMarks op b=false):PE X (.Compare a [op] [b] pos) (tOp r ta tb):=by
 intro pins s σ H Q I h
 exact wpAny_Compare1 (binT ha hb I h λv u s2 x y H2 I2 rx ry q=>ho pins s2 σ H2 x y v u Q I2 rx ry q) hm
def tTest (t:TE):TT:=λσ H Q=>t σ H λx H'=>∃ k,x=.bl k/\Q k H'
theorem Zw {op:CmpOp} {r:R2} (ho:OpR X (compareOp op) r) (ha:PE X a ta) (hb:PE X b tb) (hm:behindInMarks op b=false):PT X (.Compare a [op] [b] pos) (tTest (tOp r ta tb)):=by
 intro pins s σ H Q I h
 refine wpAny_isTrue_Compare1 (thE (ha pins s σ H _ I h) λv s1 x H1 I1 r1 q1=>thE (hb pins s1 σ H1 _ I1 q1) λu s2 y H2 I2 r2 q2 =>
  thn (ho pins s2 σ H2 x y v u _ I2 r1 r2 q2) λc s3 ⟨z,H3,I3,r3,k,e,q3⟩=>?_) hm
 subst e
 cases r3
 exact wpAny_truthy_bool ⟨H3,I3,q3⟩
def Zob (r r':R2) (ta tb tc:TE):TE:=λσ H Q=>ta σ H λx H1=>tb σ H1 λy H2=>r x y H2 λz H3=>∃ k,z=.bl k /\
 (if k=true then tc σ H3 λw' H4=>r' y w' H4 Q else Q (.bl false) H3)
theorem ZfC {op op':CmpOp} {r r':R2} (ho:OpR X (compareOp op) r) (ho':OpR X (compareOp op') r') (ha:PE X a ta) (hb:PE X b tb) (hc:PE X c tc)
  (hm:lastMarks [op,op'] [b,c]=false:=by with_unfolding_all rfl):PT X (.Compare a [op,op'] [b,c] pos) (tTest (Zob r r' ta tb tc)):=by
 intro pins s σ H Q I h
 refine isTrue_chain (thE (ha pins s σ H _ I h) λv s1 x H1 I1 r1 q1=>test_link (thE (hb pins s1 σ H1 _ I1 q1) λu s2 y H2 I2 r2 q2 =>
  thn (ho pins s2 σ H2 x y v u _ I2 r1 r2 q2) λd s3 ⟨z,H3,I3,r3,k,e,q3⟩=>?_)) hm
 subst e
 cases r3
 refine wpAny_truthy_bool ?_
 cases k with
 | false =>
  obtain ⟨k',e',q'⟩:=q3
  cases e'
  exact ite_ff ⟨H3,I3,q'⟩
 | true =>
  refine ite_tt (test_last (thE (hc pins s3 σ H3 _ I3 q3) λw' s4 z' H4 I4 r4 q4=>thn (ho' pins s4 σ H4 y z' u w' _ I4 r2 r4 q4) λd' s5 ⟨z2,H5,I5,r5,k2,e2,q5⟩=>?_))
  subst e2
  cases r5
  exact wpAny_truthy_bool ⟨H5,I5,q5⟩
theorem Zig:(sizeLine:Nat)<2 ^ 63:=by rw [sizeLine_eq]; decide
theorem vals1 {x:V} {us:List Value} (r:Vals [x] us):∃ u,us=[u]/\RelV x u:=by
 cases r with
 | cons r1 r2=>cases r2; exact ⟨_,rfl,r1⟩
theorem vals2 {x y:V} {us:List Value} (r:Vals [x,y] us):∃ u w',us=[u,w']/\RelV x u/\RelV y w':=by
 cases r with
 | cons r1 r2 =>
  cases r2 with
  | cons r3 r4=>cases r4; exact ⟨_,_,rfl,r1,r3⟩
theorem Zih:CallR X (.builtin "abs") (λxs H Q=>∃ i,xs=[.int i]/\Q (.int (if i<0 then -i else i)) H):=by
 intro pins s σ H xs us Q I r h
 obtain ⟨i,rfl,q⟩:=h
 obtain ⟨u,rfl,t,rfl⟩:=vals1 r
 exact call_abs_int λu tk=>⟨.int (if i<0 then -i else i),H,I.tok _,⟨_,rfl⟩,q⟩
theorem Zgv (hc:X.calm=true):CallR X (.builtin "max") (λxs H Q=>∃ i j,xs=[.int i,.int j]/\Q (.int (if j > i then j else i)) H):=by
 intro pins s σ H xs us Q I r h
 obtain ⟨i,j,rfl,q⟩:=h
 obtain ⟨u,w',rfl,⟨t,rfl⟩,⟨t',rfl⟩⟩:=vals2 r
 refine max_two_ints (I.ok.hd hc) λh' tk k=>⟨_,H,I.kept k,?_,q⟩
 by_cases hj:j > i
 .rw [if_pos hj,if_pos hj]; exact ⟨_,rfl⟩
 .rw [if_neg hj,if_neg hj]; exact ⟨_,rfl⟩
theorem ZjK (hc:X.calm=true):CallR X (.builtin "min") (λxs H Q=>∃ i j,xs=[.int i,.int j]/\Q (.int (if j<i then j else i)) H):=by
 intro pins s σ H xs us Q I r h
 obtain ⟨i,j,rfl,q⟩:=h
 obtain ⟨u,w',rfl,⟨t,rfl⟩,⟨t',rfl⟩⟩:=vals2 r
 refine min_two_ints (I.ok.hd hc) λh' tk k=>⟨_,H,I.kept k,?_,q⟩
 by_cases hj:j<i
 .rw [if_pos hj,if_pos hj]; exact ⟨_,rfl⟩
 .rw [if_neg hj,if_neg hj]; exact ⟨_,rfl⟩
theorem Zdd:CallR X (.type "int") (λxs H Q=>(∃ i,xs=[.int i]/\Q (.int i) H)\/∃ k,xs=[.bl k]/\Q (.int (if k then 1 else 0)) H):=by
 intro pins s σ H xs us Q I r h
 rcases h with ⟨i,rfl,q⟩ | ⟨k,rfl,q⟩
 .obtain ⟨u,rfl,t,rfl⟩:=vals1 r
  exact call_int_int ⟨.int i,H,I,⟨_,rfl⟩,q⟩
 .obtain ⟨u,rfl,r1⟩:=vals1 r
  cases r1
  exact call_int_bool ⟨.int (if k then 1 else 0),H,I.tok _,⟨_,rfl⟩,q⟩
theorem Zhw:CallR X (.builtin "divmod") (λxs H Q=>∃ i j,xs=[.int i,.int j]/\CDiv i j/\∀ p,H p=none->Q (.ref p) (upd H p (.tup [.int (i / j),.int (i % j)]))):=by
 intro pins s σ H xs us Q I r h
 obtain ⟨i,j,rfl,⟨h1,h2⟩,q⟩:=h
 obtain ⟨u,w',rfl,⟨t,rfl⟩,⟨t',rfl⟩⟩:=vals2 r
 refine divmod_int (by lia) ?_ (.inl (PyProof.noPylong_small (by lia)))
 rw [Int.fdiv_eq_ediv_of_nonneg i (by lia),Int.fmod_eq_emod_of_nonneg i (by lia)]
 have hn:H s.heap.objs.size=none:=I.hok.fresh (Nat.le_refl _)
 refine ⟨.ref s.heap.objs.size,_,?_,rfl,q _ hn⟩
 refine I.laid (λb o e=>Heap.get?_push_of_some _ e) (Nat.le_refl _) ⟨by simp only [length_cons,List.length_nil]; rw [sizeLine_eq]; decide,[.int (i / j) s.toks,.int (i % j) (s.toks+1)],.cons ⟨_,rfl⟩ (.cons ⟨_,rfl⟩ .nil),?_⟩
 exact ⟨_,Heap.get?_push_size s.heap rfl,rfl,0,rfl⟩
end
structure ObjM (h:Heap) (x dx C:Addr) (mA:Str->Option Value):Prop where
 obj:h.get? x=some (W.instObj C dx)
 ns:h.Ns1 dx mA
 ne:dx≠x
theorem ZjL {h:Heap} {dx:Addr} {mA:Str->Option Value} (n:h.Ns1 dx mA):∃ od,h.get? dx=some od/\∀ name,W.lookIn name od=some (mA name):=by
 obtain ⟨o,es,ep,ho,hd,hk,_,hm⟩:=n
 refine ⟨o,ho,λname=>?_⟩
 have e:=hm name
 unfold nsFind findBy at e
 rw [← Array.find?_toList] at e
 unfold W.lookIn
 rw [hd]
 dsimp only
 split
 .rename_i y q
  rw [q] at e
  exact congrArg some e
 .rename_i q
  rw [q] at e
  have a:es.toList.any (·.refKey)=false:=by
   rw [List.any_eq_false]
   intro y hy
   obtain ⟨z,t,hkey⟩:=hk y (Array.mem_toList_iff.mp hy)
   simp [DictEntry.refKey,hkey]
  have a':¬ es.toList.any (·.refKey)=true:=by rw [a]; exact Bool.false_ne_true
  rw [if_neg a']
  exact congrArg some e
theorem ObjM.look {h:Heap} {x dx C:Addr} {mA:Str->Option Value} (I:ObjM h x dx C mA):∃ od,W.InstAt h x (W.instObj C dx) C (some od)/\∀ name,W.lookIn name od=some (mA name) :=
 let ⟨od,ho,hl⟩:=ZjL I.ns
 ⟨od,⟨I.obj,rfl,rfl,ho⟩,hl⟩
section
variable {prog:Program} {w:World} {A:Around} {E:Value->Shared->Prop} {s:Shared} {K:W.Frag} {x dx C f:Addr} {mA:Str->Option Value} {name:Str} {v:Value}
theorem ZmV {expr:Bool} {Q:Value->Shared->Prop} (X:K.In s.heap) (I:ObjM s.heap x dx C mA) (hg:W.plainGet K C name=true) (hh:W.hasDictIn K C=true)
  (ha:W.findIn K (.ref C) name=some none) (hv:mA name=some v) (hv':W.handedIn v=true) (h:Q v { s with toks:=s.toks+1 }) :
  wpAny (model prog w) A (getAttr (.ref x) name expr) Q E s:=by
 obtain ⟨od,J,hl⟩:=I.look
 exact W.get_value X J (W.plainGet_of hg).1 (W.findObj_own hh ha rfl (by rw [hl,hv])) hv' h
theorem Zlr {pl:Sem Bool} {Q:Value×List Value->Shared->Prop} (X:K.In s.heap) (I:ObjM s.heap x dx C mA) (hg:W.plainGet K C name=true)
  (hf:W.findIn K (.ref C) name=some (some (.ref f))) (ht:W.isFn K (.ref f)=true) (hv:mA name=none) (h:Q (.ref f,[.ref x]) s) :
  wpAny (model prog w) A (getMethod (.ref x) name pl) Q E s:=by
 obtain ⟨od,J,hl⟩:=I.look
 exact W.method_fn X J (W.plainGet_of hg).1 (W.plainGet_of hg).2 hf (beq_iff_eq.mp ht) (by show (W.lookIn name od).map (·.isSome)=some false; rw [hl,hv]; rfl) h
theorem ZmW {ns:List Str} {Q:Unit->Shared->Prop} (X:K.In s.heap) (I:ObjM s.heap x dx C mA)
  (hs:W.findIn K (.ref C) "__setattr__" = some (some (.builtin "object.__setattr__"))) (hp:W.plainOver K C=true) (ht:W.takerIn K C name=some none) (hh:W.hasDictIn K C=true)
  (hw:PySem.Within mA ns) (hsz:ns.length<=sizeLine)
  (h:∀ h',ObjM h' x dx C (λy=>if y=name then some v else mA y)->Heap.SameBut dx s.heap h'->Q () { s with heap:=h',toks:=s.toks+2 }) :
  wpAny (model prog w) A (setAttr (.ref x) name v) Q E s:=by
 obtain ⟨od,J,hl⟩:=I.look
 refine W.set_plain X J hs (W.osa_open (s:={ s with toks:=s.toks+1 }) (r:=none) X J hp ht λb=>?_)
 obtain ⟨cd,hc,hd'⟩:=W.any_some hh
 have hx:s.heap.get? x=some ⟨.ref C,some dx,.plain,#[]⟩:=I.obj
 refine wpAny_bind (wpAny_pure (wpAny_bind (wpAny_bind (wpAny_loadPart hx (wpAny_bind (W.Looks.here (s:={ s with toks:=s.toks+1 }) (W.looks_clsIn X hc) ?_))))))
 rw [hd']
 refine wpAny_pure (a:=some dx) (wpAny_bind (wpAny_pure (wpAny_bind ?_)))
 refine wpAny_nsSet1 (s:={ s with toks:=s.toks+1 }) I.ns λh' hn2 hs2=>?_
 obtain ⟨oD,esD,epD,hoD,hdD,hcD⟩:=hn2.count (PySem.Within.cons name v hw)
 refine wpAny_bind (wpAny_lookBehind hoD (by rw [hdD]; exact pastItsLine_dict (Nat.le_trans hcD (by rw [length_cons]; lia))) ?_)
 exact wpAny_pure (h _ ⟨(hs2.2 _ (Ne.symm I.ne)).trans I.obj,hn2,I.ne⟩ hs2)
theorem Zls {R:Result->Shared->Prop} {vs:List Value} {kw:List (Str×Value)} (X:K.In s.heap) (hm:W.makesIn K C=true)
  (hi:W.findIn K (.ref C) "__init__" = some (some (.ref f))) (hf:W.typeIn K (.ref f)=some (.type "function"))
  (h:codeAny (model prog w) (A.under (.builtin "type.__call__" ⟨.ref C :: vs,kw⟩)) (.call (.ref f) ⟨.ref (s.heap.objs.size+1) :: vs,kw⟩) (W.InitBack (s.heap.objs.size+1) R)
   { s with heap:=(s.heap.push W.emptyDict).push (W.instObj C s.heap.objs.size) }) :
  codeAny (model prog w) A (.call (.ref C) ⟨vs,kw⟩) R s:=by
 obtain ⟨hh,g,d,t,os⟩:=s
 exact W.make_core (W.makes_of X hm) (W.looks_findIn X hi) (λself=>W.bind_fn X self hf) (.inl rfl) h
end
def putF (f:Str) (v:V):List (Str×V)->List (Str×V)
 | []=>[(f,v)]
 | (g,x) :: r=>if g=f then (g,v) :: r else (g,x) :: putF f v r
theorem Zf (f g:Str) (v:V):∀ fs:List (Str×V),(putF f v fs).lookup g=if g=f then some v else fs.lookup g
 | []=>by
  show List.lookup g [(f,v)]=_
  by_cases h:g=f
  .have hb:(g == f)=true:=beq_iff_eq.mpr h
   simp only [List.lookup,hb,if_pos h]
  .have hb:(g == f)=false:=beq_eq_false_iff_ne.mpr h
   simp only [List.lookup,hb,if_neg h]
 | (k,x) :: r=>by
  have ih:=Zf f g v r
  rw [show putF f v ((k,x) :: r)=(if k=f then (k,v) :: r else (k,x) :: putF f v r) from rfl]
  by_cases hk:k=f
  .rw [if_pos hk]
   by_cases h:g=k
   .have hb:(g == k)=true:=beq_iff_eq.mpr h
    simp only [List.lookup,hb,if_pos (h.trans hk)]
   .have hb:(g == k)=false:=beq_eq_false_iff_ne.mpr h
    simp only [List.lookup,hb,if_neg (λe:g=f=>h (e.trans hk.symm))]
  .rw [if_neg hk]
   by_cases h:g=k
   .have hb:(g == k)=true:=beq_iff_eq.mpr h
    simp only [List.lookup,hb,if_neg (λe:g=f=>hk (h.symm.trans e))]
   .have hb:(g == k)=false:=beq_eq_false_iff_ne.mpr h
    simp only [List.lookup,hb]
    exact ih
theorem Zes (f:Str) (v:V):∀ fs:List (Str×V),f∈(putF f v fs).map (·.1)/\∀ g,g∈fs.map (·.1)->g∈(putF f v fs).map (·.1)
 | []=>⟨by simp [putF],λg h=>by simp at h⟩
 | (k,x) :: r=>by
  obtain ⟨i1,i2⟩:=Zes f v r
  rw [show putF f v ((k,x) :: r)=(if k=f then (k,v) :: r else (k,x) :: putF f v r) from rfl]
  by_cases hk:k=f
  .rw [if_pos hk]
   subst hk
   exact ⟨by simp,λg h=>by simpa using h⟩
  .rw [if_neg hk]
   refine ⟨?_,λg h=>?_⟩
   .rw [map_cons]
    exact mem_cons_of_mem _ i1
   .rw [map_cons] at h ⊢
    rcases List.mem_cons.mp h with e | e
    .exact List.mem_cons.mpr (.inl e)
    .exact mem_cons_of_mem _ (i2 g e)
theorem Zet (f:Str) (v:V):∀ fs:List (Str×V),(putF f v fs).length<=fs.length+1
 | []=>by simp [putF]
 | (k,x) :: r=>by
  have ih:=Zet f v r
  rw [show putF f v ((k,x) :: r)=(if k=f then (k,v) :: r else (k,x) :: putF f v r) from rfl]
  by_cases hk:k=f
  .rw [if_pos hk,length_cons,length_cons]; lia
  .rw [if_neg hk,length_cons,length_cons]; lia
theorem RelO.some_of {v:V} {o:Option Value} (r:RelO (some v) o):∃ u,o=some u/\RelV v u:=by
 cases o with
 | none=>exact (show False from r).elim
 | some u=>exact ⟨u,rfl,r⟩
theorem RelO.none_of {o:Option Value} (r:RelO none o):o=none:=by
 cases o with
 | none=>rfl
 | some u=>exact (show False from r).elim
theorem ZjM {v:V} {u:Value} (r:RelV v u):W.handedIn u=true:=by
 cases v with
 | non=>cases (show u=Value.none from r); rfl
 | bl b=>cases (show u=Value.bool b from r); rfl
 | int i=>obtain ⟨t,e⟩:=(show ∃ t,u=Value.int i t from r); cases e; rfl
 | str x=>obtain ⟨t,e⟩:=(show ∃ t,u=Value.str x t from r); cases e; rfl
 | byt b=>obtain ⟨t,e⟩:=(show ∃ t,u=Value.bytes b t from r); cases e; rfl
 | flt b=>obtain ⟨t,e⟩:=(show ∃ t,u=Value.float b t from r); cases e; rfl
 | ref a=>cases (show u=Value.ref a from r); rfl
 | ty n=>cases (show u=Value.type n from r); rfl
section
variable {P:Program} {w:World} {H H':Hp} {h h':Heap} {a C dx:Addr} {fs fs':List (Str×V)}
theorem ZfD (hok:HOk P w H h) (e:H a=some (.ins C dx fs)):∃ mA,ObjM h a dx C mA/\(∀ f,RelO (fs.lookup f) (mA f))/\PySem.Within mA (fs.map (·.1))/\fs.length<=1000/\H dx=some (.own a):=by
 obtain ⟨d,z,ne,ob,mA,n,r,q⟩:=(show ObjOk P w H h a (.ins C dx fs) from hok a _ e)
 exact ⟨mA,⟨ob,n,ne⟩,r,q,z,d⟩
end
structure Cls (K:W.Frag) (C:Addr):Prop where
 pg:W.plainGet K C Str.empty=true
 hd:W.hasDictIn K C=true
 po:W.plainOver K C=true
 sa:W.findIn K (.ref C) "__setattr__" = some (some (.builtin "object.__setattr__"))
theorem Cls.get {K:W.Frag} {C:Addr} (c:Cls K C) (f:Str):W.plainGet K C f=true:=c.pg
def NoAttr (K:W.Frag) (C:Addr) (f:Str):Prop:=W.findIn K (.ref C) f=some none
theorem NoAttr.taker {K:W.Frag} {C:Addr} {f:Str} (n:NoAttr K C f):W.takerIn K C f=some none:=by
 unfold W.takerIn
 rw [show W.findIn K (.ref C) f=some none from n]
 rfl
structure Meth (K:W.Frag) (C:Addr) (m:Str) (f:Addr):Prop where
 at_:W.findIn K (.ref C) m=some (some (.ref f))
 fn:W.isFn K (.ref f)=true
 kp:W.keepIn K (.ref f)=true
section
variable {X:Cx} {pins:List (Addr×Obj)} {σ:St} {H:Hp} {s:Shared} {a C dx:Addr} {fs:List (Str×V)} {f:Str} {v:V} {A:Around} {E:Value->Shared->Prop}
theorem Zjj {b:Bool} {Q:Value->Shared->Prop} (I:Inv X pins σ H s) (e:H a=some (.ins C dx fs)) (c:Cls X.K C) (n:NoAttr X.K C f) (l:fs.lookup f=some v)
  (h:∀ u s',Inv X pins σ H s'->RelV v u->Q u s'):wpAny (model X.prog X.w) A (getAttr (.ref a) f b) Q E s:=by
 obtain ⟨mA,O,r,_,_,_⟩:=ZfD I.hok e
 obtain ⟨u,hu,ru⟩:=RelO.some_of (v:=v) (o:=mA f) (by rw [← l]; exact r f)
 exact ZmV I.kIn O (c.get f) c.hd n hu (ZjM ru) (h u _ (I.tok _) ru)
theorem Zdw {m:Str} {g:Addr} {pl:Sem Bool} {Q:Value×List Value->Shared->Prop} (I:Inv X pins σ H s) (e:H a=some (.ins C dx fs)) (c:Cls X.K C) (k:Meth X.K C m g) (l:fs.lookup m=none)
  (h:Q (.ref g,[.ref a]) s):wpAny (model X.prog X.w) A (getMethod (.ref a) m pl) Q E s:=by
 obtain ⟨mA,O,r,_,_,_⟩:=ZfD I.hok e
 have hn:mA m=none:=RelO.none_of (by rw [← l]; exact r m)
 exact Zlr I.kIn O (c.get m) k.at_ k.fn hn h
theorem Zjk {y:V} {u:Value} {Q:Unit->Shared->Prop} (I:Inv X pins σ H s) (e:H a=some (.ins C dx fs)) (c:Cls X.K C) (n:NoAttr X.K C f) (hl:fs.length<1000) (ry:RelV y u)
  (h:∀ s',Inv X pins σ (upd H a (.ins C dx (putF f y fs))) s'->Q () s'):wpAny (model X.prog X.w) A (setAttr (.ref a) f u) Q E s:=by
 obtain ⟨mA,O,r,wi,_,ho⟩:=ZfD I.hok e
 have hz:(fs.map (·.1)).length<=sizeLine:=by rw [length_map,sizeLine_eq]; lia
 refine ZmW I.kIn O c.sa c.po n.taker c.hd wi hz λh' O' sb=>h _ ?_
 have hd:∃ o,h'.get? dx=some o:=let ⟨o,_,_,e',_⟩:=O'.ns; ⟨o,e'⟩
 refine I.write (x:=a) (e:=dx) (by rw [e]; exact True.intro) (.inr ho) (λb q hb z=>(sb.2 b hb).trans z) hd ?_
 refine ⟨by rw [Zc O.ne]; exact ho,?_,O.ne,O'.obj,_,O'.ns,λg=>?_,λg hg=>?_⟩
 .have:=Zet f y fs; lia
 .show RelO ((putF f y fs).lookup g) (if g=f then some u else mA g)
  rw [Zf]
  by_cases q:g=f
  .rw [if_pos q,if_pos q]; exact ry
  .rw [if_neg q,if_neg q]; exact r g
 .by_cases q:g=f
  .rw [q]; exact (Zes f y fs).1
  .refine (Zes f y fs).2 g (wi g λz=>hg ?_)
   show (if g=f then some u else mA g)=none
   rw [if_neg q]; exact z
theorem Inv.made (I:Inv X pins σ H s):Inv X pins σ (upd (upd H s.heap.objs.size (.own (s.heap.objs.size+1))) (s.heap.objs.size+1) (.ins C s.heap.objs.size []))
  { s with heap:=(s.heap.push W.emptyDict).push (W.instObj C s.heap.objs.size) }:=by
 have e1:(s.heap.push W.emptyDict).get? s.heap.objs.size=some W.emptyDict:=Heap.get?_push_size s.heap rfl
 have e2:((s.heap.push W.emptyDict).push (W.instObj C s.heap.objs.size)).get? (s.heap.objs.size+1)=some (W.instObj C s.heap.objs.size):=by
  have:=Heap.get?_push_size (s.heap.push W.emptyDict) (o:=W.instObj C s.heap.objs.size) rfl
  rwa [Heap.size_push] at this
 have e3:(s.heap.push W.emptyDict).Ns s.heap.objs.size (λ_=>none):=⟨W.emptyDict,#[],_,e1,rfl,(λe he=>absurd he (by simp)),λ_=>rfl⟩
 have I1:=I.laid (a:=s.heap.objs.size) (o:=.own (s.heap.objs.size+1)) (h':=s.heap.push W.emptyDict) (t':=s.toks) (λb u q=>Heap.get?_push_of_some _ q) (Nat.le_refl _) ⟨_,e1⟩
 refine I1.laid (a:=s.heap.objs.size+1) (o:=.ins C s.heap.objs.size []) (t':=s.toks) (λb u q=>Heap.get?_push_of_some _ q) (Nat.le_of_eq (Heap.size_push _ _)) ?_
 have ne:s.heap.objs.size≠s.heap.objs.size+1:=Nat.ne_of_lt (Nat.lt_succ_self _)
 refine ⟨by rw [Zc ne,Za],Nat.zero_le _,ne,e2,λ_=>none,(Heap.Ns1.of_empty e3).at λo q=>Heap.get?_push_of_some _ q,λ_=>True.intro,λy hy=>absurd rfl hy⟩
theorem ZmX {prog:Program} {w:World} {env:Env} {e:Expr} {f:Str} {pos:Pos} {s:Shared} {Q:Value->Shared->Prop} (hb:attributeBase e f env (eval e env)=eval e env)
  (h:wpAny (model prog w) A (eval e env) (λo s₁=>wpAny (model prog w) A (getAttr o f true) Q E s₁) E s):wpAny (model prog w) A (eval (.Attribute e f pos) env) Q E s :=
 Attribute_any_ h (by rw [arm_eval_Attribute,hb])
end
def tFld (K:W.Frag) (ta:TE) (f:Str):TE:=λσ H Q=>ta σ H λx H1=>∃ a C dx fs v,x=.ref a/\H1 a=some (.ins C dx fs)/\Cls K C/\NoAttr K C f/\fs.lookup f=some v/\Q v H1
def sFld (K:W.Frag) (ta tv:TE) (f:Str):TS:=λD σ H=>tv σ H λy H1=>ta σ H1 λx H2=>∃ a C dx fs,x=.ref a/\H2 a=some (.ins C dx fs)/\Cls K C/\NoAttr K C f/\fs.length<1000 /\
 D.nx σ (upd H2 a (.ins C dx (putF f y fs)))
def InOp (X:Cx) (op:Operator) (rd:V->V->Hp->VK->Prop):Prop :=
 ∀ (pins:List (Addr×Obj)) (s:Shared) (σ:St) (H:Hp) (x y:V) (u v:Value) (Q:VK),Inv X pins σ H s->RelV x u->RelV y v->rd x y H Q->wpAny (model X.prog X.w) X.A (inplaceOp op u v) (EP X pins σ Q) X.xe s
section
variable {X:Cx} {o e value:Expr} {f:Str} {pos pos' tpos:Pos} {ta tv:TE}
theorem Zoc (he:PE X e ta) (hb:attributeBase e f X.env (eval e X.env)=eval e X.env):PE X (.Attribute e f pos) (tFld X.K ta f):=by
 intro pins s σ H Q I h
 refine ZmX hb (thn (he pins s σ H _ I h) λu s1 ⟨x,H1,I1,rx,a,C,dx,fs,v,ex,ea,c,n,l,q⟩=>?_)
 subst ex
 obtain rfl:u=Value.ref a:=rx
 exact Zjj I1 ea c n l λu' s2 I2 ru=>⟨v,H1,I2,ru,q⟩
theorem ZaA (ha:PE X o ta) (hv:PE X value tv) (hs:swapsWith value (some (.Attribute o f pos')) pos.line X.env=pure false):PS X (.Assign [.Attribute o f pos'] value pos) (sFld X.K ta tv f):=by
 intro pins s σ H D I h
 refine plainObj_wpAny_Assign_Attribute (thE (hv pins s σ H _ I h) λu s1 y H1 I1 ry q=>thn (ha pins s1 σ H1 _ I1 q) λov s2 ⟨x,H2,I2,rx,a,C,dx,fs,ex,ea,c,n,l,q2⟩=>?_) hs
 subst ex
 obtain rfl:ov=Value.ref a:=rx
 exact Zjk I2 ea c n l ry λs3 I3=>⟨σ,_,I3,q2⟩
def rAdd:V->V->Hp->VK->Prop:=λx y H Q=>∃ i j,x=.int i/\y=.int j/\Q (.int (i+j)) H
theorem Zod:InOp X .Add rAdd:=by
 rintro pins s σ H x y u v Q I rx ry ⟨i,j,rfl,rfl,q⟩
 obtain ⟨t,rfl⟩:=(show ∃ t,u=Value.int i t from rx)
 obtain ⟨t',rfl⟩:=(show ∃ t',v=Value.int j t' from ry)
 exact PyProof.Rows.iadd_int ⟨.int (i+j),H,I.tok _,⟨_,rfl⟩,q⟩
end
section
variable {X:Cx} {pins:List (Addr×Obj)} {σ:St} {H:Hp} {s:Shared} {A:Around} {E:Value->Shared->Prop} {Q:Value->Shared->Prop} {c:Value} {b:Bool}
inductive TyOf (K:W.Frag) (H:Hp):V->Value->Prop where
 | non:TyOf K H .non (.type "NoneType")
 | bl (x:Bool):TyOf K H (.bl x) (.type "bool")
 | int (i:Int):TyOf K H (.int i) (.type "int")
 | str (x:Str):TyOf K H (.str x) (.type "str")
 | flt (x:UInt64):TyOf K H (.flt x) (.type "float")
 | lst {a:Addr} {xs:List V} (e:H a=some (.lst xs)):TyOf K H (.ref a) (.type "list")
 | frz {a:Addr} {o:Obj} {xs:List V} (e:H a=some (.frz o (.lst xs))):TyOf K H (.ref a) (.type "list")
 | tup {a:Addr} {xs:List V} (e:H a=some (.tup xs)):TyOf K H (.ref a) (.type "tuple")
 | dK {a:Addr} {kvs:List (Key×V)} (e:H a=some (.dK kvs)):TyOf K H (.ref a) (.type "dict")
 | dT {a:Addr} {kvs:List (List Key×V)} (e:H a=some (.dT kvs)):TyOf K H (.ref a) (.type "dict")
 | ins {a C dx:Addr} {fs:List (Str×V)} (e:H a=some (.ins C dx fs)) (cl:Cls K C) (ha:W.findIn K (.ref C) "__class__" = some (some (.builtin "object.__class__")))
   (hn:W.specialIn K (.builtin "object.__class__") "__get__" = some (some (.builtin "getset_descriptor.__get__"))) (htk:W.takesIn K (.builtin "object.__class__")=some true)
   (hm:W.mroIn K C (.type "object")=some true):TyOf K H (.ref a) (.ref C)
theorem ZjN {x:V} {u t:Value} (I:Inv X pins σ H s) (rx:RelV x u) (ty:TyOf X.K H x t) (e:W.kitOne X.K t c=some b) (h:∀ tk,Q (.bool b) { s with toks:=tk }) :
  wpAny (model X.prog X.w) A (call (.builtin "isinstance") [u,c]) Q E s:=by
 cases ty with
 | non=>cases (show u=Value.none from rx); exact W.kia_one W.kitx_none I.kIn True.intro e (λz=>nomatch z) h
 | bl y=>cases (show u=Value.bool y from rx); exact W.kia_one W.kitx_bool I.kIn True.intro e (λz=>nomatch z) h
 | int i=>obtain ⟨t,q⟩:=(show ∃ t,u=Value.int i t from rx); cases q; exact W.kia_one W.kitx_int I.kIn True.intro e (λz=>nomatch z) h
 | str y=>obtain ⟨t,q⟩:=(show ∃ t,u=Value.str y t from rx); cases q; exact W.kia_one W.kitx_str I.kIn True.intro e (λz=>nomatch z) h
 | flt y=>obtain ⟨t,q⟩:=(show ∃ t,u=Value.float y t from rx); cases q; exact W.kia_one W.kitx_float I.kIn True.intro e (λz=>nomatch z) h
 | @lst a xs ea =>
  cases (show u=Value.ref a from rx)
  obtain ⟨_,_,n,_,h1⟩:=(show ObjOk X.prog X.w H s.heap a (.lst xs) from I.hok a _ ea)
  exact W.kia_one W.kitx_list I.kIn ⟨_,h1,rfl⟩ e (λz=>nomatch z) h
 | @frz a ob xs ea =>
  cases (show u=Value.ref a from rx)
  obtain ⟨_,_,_,n,_,h1⟩:=(show ObjOk X.prog X.w H s.heap a (.frz ob (.lst xs)) from I.hok a _ ea)
  exact W.kia_one W.kitx_list I.kIn ⟨_,h1,rfl⟩ e (λz=>nomatch z) h
 | @tup a xs ea =>
  cases (show u=Value.ref a from rx)
  obtain ⟨_,_,_,p⟩:=(show ObjOk X.prog X.w H s.heap a (.tup xs) from I.hok a _ ea)
  obtain ⟨o,h1,h2,_⟩:=p
  exact W.kia_one W.kitx_tuple I.kIn ⟨o,h1,h2⟩ e (λz=>nomatch z) h
 | @dK a kvs ea =>
  cases (show u=Value.ref a from rx)
  obtain ⟨_,_,vs,_,p⟩:=(show ObjOk X.prog X.w H s.heap a (.dK kvs) from I.hok a _ ea)
  obtain ⟨o,es,ep,h1,h2,_⟩:=p
  exact W.kia_one W.kitx_dict I.kIn ⟨o,h1,h2.1⟩ e (λz=>nomatch z) h
 | @dT a kvs ea =>
  cases (show u=Value.ref a from rx)
  obtain ⟨_,_,xs,_,o,es,ep,h1,h2,_⟩:=(show ObjOk X.prog X.w H s.heap a (.dT kvs) from I.hok a _ ea)
  exact W.kia_one W.kitx_dict I.kIn ⟨o,h1,h2.1⟩ e (λz=>nomatch z) h
 | @ins a C dx fs ea cl ha hn htk hm =>
  cases (show u=Value.ref a from rx)
  obtain ⟨mA,O,_⟩:=ZfD I.hok ea
  obtain ⟨od,J,_⟩:=O.look
  exact W.kia_one (W.kitx_own (cl.get _) cl.hd ha hn htk hm) I.kIn J e (λz=>nomatch z) h
end
structure Room (k:Nat) (A:Around):Prop where
 hd:A.handled=none
 dp:A.depth+3 * k+5<recursionLimit
 un:A.units+16 * k+200<cLine
 gd:A.guards=some []
theorem Room.mono {j k:Nat} {A:Around} (r:Room k A) (h:j<=k):Room j A:=⟨r.hd,by have:=r.dp; lia,by have:=r.un; lia,r.gd⟩
theorem Room.deeper {k:Nat} {A:Around} (r:Room (k+1) A) (env:Env):Room k (A.deeper env) :=
 ⟨r.hd,by have:=r.dp; show A.depth+1+3 * k+5<_; lia,by have:=r.un; show A.units+3+16 * k+200<_; lia,r.gd⟩
theorem Zjl {A:Around} {C:Addr} {us:List Value} {kw:List (Str×Value)}:(A.under (.builtin "type.__call__" ⟨.ref C :: us,kw⟩)).depth=A.depth+1:=by
 first | rfl | simp [Around.under,Code.weight,Code.isCreation,Code.isGuard,Code.isCaller,Code.frames,Code.isFrame,guardIds]
theorem Zjm {A:Around} {C:Addr} {us:List Value} {kw:List (Str×Value)}:(A.under (.builtin "type.__call__" ⟨.ref C :: us,kw⟩)).units=A.units+1:=by
 first | rfl | simp [Around.under,Code.cUnits,Code.frames,Code.isFrame]
theorem Room.make {k:Nat} {A:Around} (r:Room (k+1) A) (C:Addr) (us:List Value) (kw:List (Str×Value)):Room k (A.under (.builtin "type.__call__" ⟨.ref C :: us,kw⟩)) :=
 ⟨r.hd,by have:=r.dp; rw [Zjl]; lia,by have:=r.un; rw [Zjm]; lia,r.gd⟩
theorem Room.depth {k:Nat} {A:Around} (r:Room k A):A.depth<recursionLimit:=by have:=r.dp; lia
theorem Room.units {k:Nat} {A:Around} (r:Room k A):A.units+64<cLine:=by have:=r.un; lia
def tNil:TA:=λ_ H Q=>Q [] H
def tCons (ta:TE) (tr:TA):TA:=λσ H Q=>ta σ H λx H1=>tr σ H1 λxs H2=>Q (x :: xs) H2
section
variable {X:Cx} {e:Expr} {es:List Expr} {te:TE} {t:TA} {pos:Pos}
theorem Zb:PA X [] tNil:=λ_ _ _ _ H Q I h=>Calls.spliced_nil ⟨[],H,I,.nil,h⟩
theorem ZmY (ha:PE X e te) (hr:PA X es t) (hs:starEach (e :: es) X.env=(false,eval e X.env) :: starEach es X.env:=by rfl):PA X (e :: es) (tCons te t):=by
 intro pos pins s σ H Q I h
 rw [hs]
 show wpAny _ _ (spliced ((false,eval e X.env) :: backTo pos (starEach es X.env))) _ _ s
 refine Calls.spliced_cons (thE (ha pins s σ H _ I h) λu s1 x H1 I1 r1 q1=>?_)
 exact thA (hr pos pins s1 σ H1 _ I1 q1) λus s2 xs H2 I2 r2 q2=>⟨x :: xs,H2,I2,.cons r1 r2,q2⟩
def tTup (t:TA):TE:=λσ H Q=>t σ H λxs H1=>xs.length<=sizeLine/\∀ p,H1 p=none->Q (.ref p) (upd H1 p (.tup xs))
def tLst (t:TA):TE:=λσ H Q=>t σ H λxs H1=>xs.length<=sizeLine/\∀ p,H1 p=none->Q (.ref p) (upd H1 p (.lst xs))
theorem Zbh {x1} (h:PA X es t):PE X (.Tuple es x1 pos) (tTup t):=by
 intro pins s σ H Q I hq
 refine wpAny_Tuple_spliced (thn (h pos pins s σ H _ I hq) λus s1 ⟨xs,H1,I1,r,z,q⟩=>⟨by rw [← r.length]; exact z,?_⟩)
 have hf:H1 s1.heap.objs.size=none:=I1.hok.fresh (Nat.le_refl _)
 refine ⟨.ref s1.heap.objs.size,upd H1 s1.heap.objs.size (.tup xs),I1.laid (t':=s1.toks) (λb u e=>Heap.get?_push_of_some _ e) (Nat.le_refl _) ?_,rfl,q _ hf⟩
 exact ⟨z,us,r,⟨_,Heap.get?_push_size _ rfl,rfl,_,rfl⟩⟩
theorem ZaY (h:PA X es t):PE X (.List es pos) (tLst t):=by
 intro pins s σ H Q I hq
 refine wpAny_List_spliced (thn (h pos pins s σ H _ I hq) λus s1 ⟨xs,H1,I1,r,z,q⟩=>⟨by rw [← r.length]; exact z,?_⟩)
 have hf:H1 s1.heap.objs.size=none:=I1.hok.fresh (Nat.le_refl _)
 refine ⟨.ref s1.heap.objs.size,upd H1 s1.heap.objs.size (.lst xs),I1.laid (t':=s1.toks) (λb u e=>Heap.get?_push_of_some _ e) (Nat.le_refl _) ?_,rfl,q _ hf⟩
 exact ⟨z,us,0,r,Heap.get?_push_size _ rfl⟩
end
abbrev Sp:=List V->Hp->VK->XK->Prop
abbrev CXT:=List Env->Hp->Shared->XK->Value->Shared->Prop
structure Env0 (P:Program) (w:World) (K:W.Frag) (mg:Str->Option Value) (base:Heap) (A:Around) (outer:List Env) (s:Shared) (H:Hp):Prop where
 frames:A.frames=some outer
 mod:Mod K mg base
 bs:∀ b o,base.get? b=some o->s.heap.get? b=some o/\H b=none
 bsz:base.objs.size<=s.heap.objs.size
 funs:s.heap.FunFrames base outer
 frf:∀ b∈frs outer,H b=none
 hok:HOk P w H s.heap
 bare:AllBare s.gens
def CE (outer:List Env) (P:Program) (w:World) (H:Hp) (s:Shared) (Q:VK) (u:Value) (s':Shared):Prop :=
 ∃ v H',s'.os=s.os/\AllBare s'.gens/\Un (frs outer) [] H H' s.heap s'.heap/\HOk P w H' s'.heap/\RelV v u/\Q v H'
def CR (CX:CXT) (outer:List Env) (P:Program) (w:World) (H:Hp) (s:Shared) (Q:VK) (E:XK) (r:Result) (s':Shared):Prop :=
 match r with
 | .ok (.ret u)=>CE outer P w H s Q u s'
 | .ok _=>False
 | .error e=>CX outer H s E e s'
structure FnOk (P:Program) (w:World) (K:W.Frag) (mg:Str->Option Value) (base:Heap) (CX:CXT) (k:Nat) (f:Addr) (fd:FuncData) (ps:List Str) (sp:Sp):Prop where
 len:∀ vs H Q E,sp vs H Q E->vs.length=ps.length
 run:∀ (A:Around) (outer:List Env) (s:Shared) (H:Hp) (args:Args) (us:List Value) (vs:List V) (Q:VK) (E:XK),Room k A->Env0 P w K mg base A outer s H->BindsTo s fd args (ps.zip us)->Vals vs us->sp vs H Q E ->
  codeAny (model P w) A (.call (.ref f) args) (CR CX outer P w H s Q E) s
theorem Env0.make {P:Program} {w:World} {K:W.Frag} {mg:Str->Option Value} {base:Heap} {A:Around} {outer:List Env} {s:Shared} {H:Hp} (e:Env0 P w K mg base A outer s H) (C:Addr) (us:List Value) (kw:List (Str×Value)) :
  Env0 P w K mg base (A.under (.builtin "type.__call__" ⟨.ref C :: us,kw⟩)) outer s H:=⟨by first | exact e.frames | (simpa [Around.under,Code.envs,Code.isFrame,pushEnvs] using e.frames),e.mod,e.bs,e.bsz,e.funs,e.frf,e.hok,e.bare⟩
section
variable {X:Cx} {pins:List (Addr×Obj)} {σ:St} {H:Hp} {s s':Shared}
theorem Inv.env0 (I:Inv X pins σ H s):Env0 X.prog X.w X.K X.mg X.base X.A X.stack s H :=
 ⟨I.ok.frames,I.ok.mod,I.bs,Nat.le_trans I.ok.bsz I.sz,I.stack,I.stkFree,I.hok,I.bare⟩
theorem Inv.after {Q:VK} {u:Value} (I:Inv X pins σ H s) (h:CE X.stack X.prog X.w H s Q u s'):EP X pins σ Q u s':=by
 obtain ⟨v,H',os,bare,un,hok,r,q⟩:=h
 obtain ⟨hh,g,d,t,os'⟩:=s'
 obtain rfl:os'=s.os:=os
 exact ⟨v,H',I.call (h':=hh) (g':=g) (d':=d) (t':=t) (ch:=[]) un hok bare (λb z=>absurd z (by simp)),r,q⟩
end
def tCall (sp:Sp) (dvs:List V) (E:XK) (t:TA):TE:=λσ H Q=>t σ H λvs H1=>sp (vs++dvs) H1 Q E
def tMeth (C:Addr) (m:Str) (sp:Sp) (dvs:List V) (E:XK) (ta:TE) (t:TA):TE:=λσ H Q=>ta σ H λx H1=>∃ a dx fs,x=.ref a/\H1 a=some (.ins C dx fs)/\fs.lookup m=none /\
 t σ H1 λvs H2=>sp (x :: (vs++dvs)) H2 Q E
def tMake (C:Addr) (sp:Sp) (dvs:List V) (E:XK) (t:TA):TE:=λσ H Q=>t σ H λvs H1=>∀ x dx,H1 x=none->H1 dx=none->dx≠x ->
 sp (.ref x :: (vs++dvs)) (upd (upd H1 dx (.own x)) x (.ins C dx [])) (λv H2=>v=.non/\Q (.ref x) H2) E
def Binds (K:W.Frag) (fd:FuncData) (ps:List Str) (ds:List Value):Prop :=
 ∀ (s:Shared) (us:List Value),K.In s.heap->(us++ds).length=ps.length->BindsTo s fd ⟨us,[]⟩ (ps.zip (us++ds))
theorem Binds.all {K:W.Frag} {fd:FuncData} {ps:List Str} (h:∀ us:List Value,us.length=ps.length->bindArgs fd ⟨us,[]⟩=pure (ps.zip us)):Binds K fd ps []:=λs us _ hl=>by
 rw [append_nil] at hl ⊢
 exact .of_eq (h us hl)
def Zeu (CX:CXT) (X:Cx) (E:XK):Prop:=∀ (pins:List (Addr×Obj)) (σ:St) (H:Hp) (s:Shared) (e:Value) (s':Shared),Inv X pins σ H s->CX X.stack H s E e s'->X.xe e s'
section
variable {X:Cx} {CX:CXT} {k:Nat} {f C:Addr} {fd:FuncData} {ps:List Str} {sp:Sp} {dvs:List V} {ds:List Value} {E:XK} {x m:Str} {p pos apos:Pos} {e o:Expr} {es:List Expr} {ta:TE} {t:TA}
theorem Zii {pins:List (Addr×Obj)} {σ:St} {H:Hp} {s:Shared} {Q:VK} {us:List Value} {vs:List V} (F:FnOk X.prog X.w X.K X.mg X.base CX k f fd ps sp) (hr:Room k X.A) (hb:Binds X.K fd ps ds) (hd:Vals dvs ds) (hx:Zeu CX X E)
  (I:Inv X pins σ H s) (r:Vals vs us) (h:sp (vs++dvs) H Q E):wpAny (model X.prog X.w) X.A (call (.ref f) us) (EP X pins σ Q) X.xe s:=by
 have r2:Vals (vs++dvs) (us++ds):=r.append hd
 have hl:(us++ds).length=ps.length:=by rw [← r2.length]; exact F.len _ _ _ _ h
 refine wpAny_call (codeAny_mono (F.run X.A X.stack s H ⟨us,[]⟩ (us++ds) (vs++dvs) Q E hr I.env0 (hb s us I.kIn hl) r2 h) λr s' hq=>?_)
 cases r with
 | error e=>exact hx pins σ H s e s' I hq
 | ok fl =>
  cases fl with
  | ret u=>exact I.after hq
  | next=>exact False.elim hq
  | brk=>exact False.elim hq
  | cont=>exact False.elim hq
theorem ZmZ (F:FnOk X.prog X.w X.K X.mg X.base CX k f fd ps sp) (hr:Room k X.A) (hg:Gl X x) (hm:X.mg x=some (.ref f)) (hk:W.keepIn X.K (.ref f)=true) (hb:Binds X.K fd ps ds) (hd:Vals dvs ds) (hx:Zeu CX X E)
  (ha:PA X (e :: es) t) (hdb:(x == ("__debug__" : Str))=false:=by decide) (he:starEach (e :: es) X.env=(false,eval e X.env) :: starEach es X.env:=by rfl) (hpl:(backTo pos (starEach es X.env)).any (·.1)=false:=by rfl) :
  PE X (.Call (.Name x p) (e :: es) [] pos) (tCall sp dvs E t):=by
 intro pins s σ H Q I h
 refine wpAny_Call_Name_kw (Zep I hg hm ?_ hdb)
 refine W.callWith_K (h₀:=X.base) I.ok.mod.kin hk (thA (ha pos pins s σ H _ I h) λus s1 vs H1 I1 r q=>⟨I1.kIn,?_⟩) he hpl
 exact Zii F hr hb hd hx I1 r q
theorem Zna {pl:Sem Bool} (he:PE X o ta) (c:Cls X.K C) (hm:Meth X.K C m f) (F:FnOk X.prog X.w X.K X.mg X.base CX k f fd ps sp) (hr:Room k X.A) (hb:Binds X.K fd ps ds) (hd:Vals dvs ds) (hx:Zeu CX X E) (ha:PA X (e :: es) t)
  (hst:starEach (e :: es) X.env=(false,eval e X.env) :: starEach es X.env:=by rfl) (hpl:(backTo pos (starEach es X.env)).any (·.1)=false:=by rfl)
  (ht:eval (.Call (.Attribute o m apos) (e :: es) [] pos) X.env=(do
   let ov ← eval o X.env
   standAt apos.atName
   let (f,first) ← holding [ov] (getMethod ov m pl)
   callWith pos f first (backTo pos (starEach (e :: es) X.env)) (backToKw pos (keywordEach [] X.env))):=by rfl) :
  PE X (.Call (.Attribute o m apos) (e :: es) [] pos) (tMeth C m sp dvs E ta t):=by
 intro pins s σ H Q I h
 refine W.methodCall_KW (pl:=pl) (thn (he pins s σ H _ I h) λu s1 ⟨x,H1,I1,rx,a,dx,fs,ex,ea,l,q⟩=>?_) ht
 subst ex
 obtain rfl:u=Value.ref a:=rx
 refine Zdw I1 ea c hm l ?_
 refine W.callWith_K (first:=[.ref a]) (h₀:=X.base) I.ok.mod.kin hm.kp (thA (ha pos pins s1 σ H1 _ I1 q) λus s2 vs H2 I2 r q2=>⟨I2.kIn,?_⟩) hst hpl
 exact Zii (us:=.ref a :: us) (vs:=.ref a :: vs) F hr hb hd hx I2 (.cons rfl r) q2
theorem Zlt {pl:Sem Bool} (he:PE X o ta) (c:Cls X.K C) (hm:Meth X.K C m f) (F:FnOk X.prog X.w X.K X.mg X.base CX k f fd ps sp) (hr:Room k X.A) (hb:Binds X.K fd ps ds) (hd:Vals dvs ds) (hx:Zeu CX X E)
  (ht:eval (.Call (.Attribute o m apos) [] [] pos) X.env=(do
   let ov ← eval o X.env
   standAt apos.atName
   let (f,first) ← holding [ov] (getMethod ov m pl)
   callWith pos f first (backTo pos (starEach [] X.env)) (backToKw pos (keywordEach [] X.env))):=by rfl) :
  PE X (.Call (.Attribute o m apos) [] [] pos) (tMeth C m sp dvs E ta tNil):=by
 intro pins s σ H Q I h
 refine W.methodCall_KW (pl:=pl) (thn (he pins s σ H _ I h) λu s1 ⟨x,H1,I1,rx,a,dx,fs,ex,ea,l,q⟩=>?_) ht
 subst ex
 obtain rfl:u=Value.ref a:=rx
 refine Zdw I1 ea c hm l ?_
 exact W.callWith_K0 (first:=[.ref a]) I1.kIn hm.kp (Zii (us:=[.ref a]) (vs:=[.ref a]) F hr hb hd hx I1 (.cons rfl .nil) q)
structure Mk (K:W.Frag) (C f:Addr):Prop where
 makes:W.makesIn K C=true
 init:W.findIn K (.ref C) "__init__" = some (some (.ref f))
 fn:W.isFn K (.ref f)=true
 kp:W.keepIn K (.ref C)=true
theorem Zlu {pins:List (Addr×Obj)} {σ:St} {H:Hp} {s:Shared} {Q:VK} {us:List Value} {vs:List V} (M:Mk X.K C f) (F:FnOk X.prog X.w X.K X.mg X.base CX k f fd ps sp) (hr:Room (k+1) X.A) (hb:Binds X.K fd ps ds) (hd:Vals dvs ds)
  (hx:Zeu CX X E) (I:Inv X pins σ H s) (r:Vals vs us)
  (h:∀ x dx,H x=none->H dx=none->dx≠x->sp (.ref x :: (vs++dvs)) (upd (upd H dx (.own x)) x (.ins C dx [])) (λv H2=>v=.non/\Q (.ref x) H2) E) :
  wpAny (model X.prog X.w) X.A (call (.ref C) us) (EP X pins σ Q) X.xe s:=by
 have hq:=h (s.heap.objs.size+1) s.heap.objs.size (I.hok.fresh (Nat.le_succ _)) (I.hok.fresh (Nat.le_refl _)) (Nat.ne_of_lt (Nat.lt_succ_self _))
 have I2:=Inv.made (C:=C) I
 have r2:Vals (V.ref (s.heap.objs.size+1) :: (vs++dvs)) (Value.ref (s.heap.objs.size+1) :: (us++ds)):=.cons rfl (r.append hd)
 have hl:(Value.ref (s.heap.objs.size+1) :: us++ds).length=ps.length:=by
  have e:=r2.length
  rw [F.len _ _ _ _ hq] at e
  exact e.symm
 refine wpAny_call (Zls (f:=f) I.kIn M.makes M.init (beq_iff_eq.mp M.fn) (codeAny_mono (F.run _ X.stack _ _ ⟨Value.ref (s.heap.objs.size+1) :: us,[]⟩ (Value.ref (s.heap.objs.size+1) :: (us++ds)) _ _ E (hr.make C us [])
  (I2.env0.make C us []) (hb _ (Value.ref (s.heap.objs.size+1) :: us) I2.kIn hl) r2 hq) λr s' hq'=>?_))
 cases r with
 | error e=>exact hx pins σ _ _ e s' I2 hq'
 | ok fl =>
  cases fl with
  | ret u =>
   obtain ⟨v,H',I3,rv,ev,q3⟩:=I2.after hq'
   subst ev
   exact ⟨rv,⟨V.ref (s.heap.objs.size+1),H',I3,rfl,q3⟩⟩
  | next=>exact False.elim hq'
  | brk=>exact False.elim hq'
  | cont=>exact False.elim hq'
theorem Znb (M:Mk X.K C f) (F:FnOk X.prog X.w X.K X.mg X.base CX k f fd ps sp) (hr:Room (k+1) X.A) (hg:Gl X x) (hm:X.mg x=some (.ref C)) (hb:Binds X.K fd ps ds) (hd:Vals dvs ds) (hx:Zeu CX X E)
  (ha:PA X (e :: es) t) (hdb:(x == ("__debug__" : Str))=false:=by decide) (he:starEach (e :: es) X.env=(false,eval e X.env) :: starEach es X.env:=by rfl) (hpl:(backTo pos (starEach es X.env)).any (·.1)=false:=by rfl) :
  PE X (.Call (.Name x p) (e :: es) [] pos) (tMake C sp dvs E t):=by
 intro pins s σ H Q I h
 refine wpAny_Call_Name_kw (Zep I hg hm ?_ hdb)
 refine W.callWith_K (h₀:=X.base) I.ok.mod.kin M.kp (thA (ha pos pins s σ H _ I h) λus s1 vs H1 I1 r q=>⟨I1.kIn,?_⟩) he hpl
 exact Zlu M F hr hb hd hx I1 r q
end
structure FnScope (N P:List Str) (sc:Scope):Prop where
 kind:sc.kind=.function
 co:sc.isCoroutine=false
 gen:sc.isGenerator=false
 nd:N.Nodup
 pre:N.take P.length=P
 par:∀ x∈P,sc.names.lookup x=some .local\/sc.names.lookup x=some .cell
 nofree:∀ y∈sc.names,y.2≠.free
theorem Zgw {kindOf:Str->Option NameKind} {x:Str}:∀ {binds:List (Str×Value)} {m:Str->Option Value},(∀ v,(x,v)∉binds)->bindL kindOf binds m x=m x
 | [],_,_=>rfl
 | (n,v) :: r,m,h=>by
  unfold bindL
  rw [Zgw λw hw=>h w (mem_cons_of_mem _ hw)]
  split
  .have:x≠n:=by rintro rfl; exact h v mem_cons_self
   simp [this]
  .rfl
theorem Zgx {kindOf:Str->Option NameKind} {x:Str}:∀ {binds:List (Str×Value)} {m:Str->Option Value},(∀ v,(x,v)∉binds)->bindC kindOf binds m x=m x
 | [],_,_=>rfl
 | (n,v) :: r,m,h=>by
  unfold bindC
  rw [Zgx λw hw=>h w (mem_cons_of_mem _ hw)]
  split
  .rfl
  .have:x≠n:=by rintro rfl; exact h v mem_cons_self
   simp [this]
theorem Zgy {kindOf:Str->Option NameKind} {x:Str} {v:Value}:∀ {P:List Str} {vs:List Value} {i:Nat} {m:Str->Option Value},P.Nodup->P[i]?=some x->vs[i]?=some v->kindOf x=some .local ->
  bindL kindOf (P.zip vs) m x=some v
 | [],_,_,_,_,h,_,_=>by simp at h
 | _ :: _,[],_,_,_,_,h,_=>by simp at h
 | p :: P,w :: vs,0,m,nd,h1,h2,hk=>by
  simp at h1 h2; subst h1; subst h2
  show bindL kindOf ((p,w) :: P.zip vs) m p=_
  unfold bindL
  rw [Zgw λv hv=>(List.nodup_cons.mp nd).1 (List.of_mem_zip hv).1,if_pos hk]
  simp
 | p :: P,w :: vs,i+1,m,nd,h1,h2,hk=>by
  show bindL kindOf ((p,w) :: P.zip vs) m x=_
  unfold bindL
  exact Zgy (i:=i) (List.nodup_cons.mp nd).2 (by simpa using h1) (by simpa using h2) hk
theorem Zgz {kindOf:Str->Option NameKind} {x:Str} {v:Value}:∀ {P:List Str} {vs:List Value} {i:Nat} {m:Str->Option Value},P.Nodup->P[i]?=some x->vs[i]?=some v->kindOf x≠some .local ->
  bindC kindOf (P.zip vs) m x=some v
 | [],_,_,_,_,h,_,_=>by simp at h
 | _ :: _,[],_,_,_,_,h,_=>by simp at h
 | p :: P,w :: vs,0,m,nd,h1,h2,hk=>by
  simp at h1 h2; subst h1; subst h2
  show bindC kindOf ((p,w) :: P.zip vs) m p=_
  unfold bindC
  rw [Zgx λv hv=>(List.nodup_cons.mp nd).1 (List.of_mem_zip hv).1,if_neg hk]
  simp
 | p :: P,w :: vs,i+1,m,nd,h1,h2,hk=>by
  show bindC kindOf ((p,w) :: P.zip vs) m x=_
  unfold bindC
  exact Zgz (i:=i) (List.nodup_cons.mp nd).2 (by simpa using h1) (by simpa using h2) hk
def start (N:List Str) (vs:List V):St:=vs.map some++List.replicate (N.length - vs.length) none
def cxOf (CX:CXT) (P:Program) (w:World) (K:W.Frag) (mg:Str->Option Value) (base:Heap) (N:List Str) (qual:Str) (scope:Scope) (f:Addr) (cd:Value) (A:Around) (outer:List Env) (s:Shared) (H:Hp) (E:XK):Cx where
 prog:=P
 w:=w
 K:=K
 mg:=mg
 base:=base
 A:=A.deeper (envOfC qual scope s.heap.objs.size f cd)
 N:=N
 s₀:=s
 H₀:=H
 env:=envOfC qual scope s.heap.objs.size f cd
 outer:=outer
 stack:=envOfC qual scope s.heap.objs.size f cd :: outer
 ex:=[]
 calm:=true
 fn:=λ_=>true
 pn:=[]
 xe:=λe s'=>wpAny (model P w) (A.deeper (envOfC qual scope s.heap.objs.size f cd)) (leaving (envOfC qual scope s.heap.objs.size f cd) e) (λ_ s''=>CX outer H s E e s'') (λe' s''=>CX outer H s E e' s'') s'
theorem Zij {sc:Scope} {n:Nat} {x:Str} (h:sc.names.lookup x=some .cell):∃ c,(cellsFrom n sc.names []).lookup x=some c:=by
 have q:=W.cellsFrom_some sc.names n [] (.inl h)
 exact Option.isSome_iff_exists.mp q
theorem ZjO {CX:CXT} {P:Program} {w:World} {K:W.Frag} {mg:Str->Option Value} {base:Heap} {N ps:List Str} {qual:Str} {scope:Scope} {f:Addr} {cd:Value} {A:Around} {outer:List Env} {s s1:Shared} {H:Hp} {E:XK} {us:List Value} {vs:List V}
  (S:FnScope N ps scope) (hd:A.handled=none) (e0:Env0 P w K mg base A outer s H) (hl:vs.length=ps.length) (r:Vals vs us)
  (x:InCallC s s.heap.objs.size (bindL (envOfC qual scope s.heap.objs.size f cd).kindOf (ps.zip us) λ_=>none) (cellsFrom (s.heap.objs.size+1) scope.names []) (bindC (envOfC qual scope s.heap.objs.size f cd).kindOf (ps.zip us) λ_=>none) s1) :
  Inv (cxOf CX P w K mg base N qual scope f cd A outer s H E) [] (start N vs) H s1:=by
 have hpl:ps.length<=N.length:=by have:=congrArg List.length S.pre; rw [length_take] at this; lia
 obtain ⟨h1,tk,rfl,hk⟩:=x.done
 have noA:∀ b:Addr,b∉(cxOf CX P w K mg base N qual scope f cd A outer s H E).ex:=λb z=>absurd (show b∈([]:List Addr) from z) (by simp)
 refine ⟨⟨e0.mod,S.kind,rfl,rfl,Nat.le_refl _,λy z c h1 h2=>?_,λy hy=>?_,λy c _ h=>?_,λ_=>hd,Around.frames_deeper e0.frames,.inr ⟨rfl,rfl⟩,λb z=>absurd z (noA b),e0.bs,e0.bsz,λb _ _=>noA b,λb z=>absurd z (noA b),e0.funs,e0.frf⟩,
  rfl,e0.bare,Un.kept hk,⟨_,x.toInCall.ns,λi y v h1 h2 h3=>?_⟩,λy c h=>⟨_,x.cell y c h⟩,e0.hok.fresh (Nat.le_refl _),λy c h=>?_,λp hp=>absurd (show p∈([]:List (Addr×Obj)) from hp) (by simp),e0.hok.kept hk,?_⟩
 .exact name_of_addr x.apart (PySem.mem_of_lookup h1) (PySem.mem_of_lookup h2)
 .have hy:scope.names.lookup y=some .cell\/scope.names.lookup y=some .free:=hy
  rcases hy with hy | hy
  .exact Zij hy
  .exact absurd rfl (S.nofree _ (PySem.mem_of_lookup hy))
 .exact Nat.le_of_lt (x.above y c (PySem.mem_of_lookup h))
 .have hi:i<vs.length:=by
   unfold start at h2
   by_cases hi:i<vs.length
   .exact hi
   .rw [getElem?_append_right (by simpa using hi)] at h2
    rw [List.getElem?_replicate] at h2
    split at h2 <;> cases h2
  have ha:vs[i]?=some v:=by
   unfold start at h2
   rw [getElem?_append_left (by simpa using hi),getElem?_map] at h2
   cases e:vs[i]? with
   | none=>rw [e] at h2; cases h2
   | some a=>rw [e] at h2; cases h2; rfl
  obtain ⟨u,hu,rv⟩:=r.get ha
  have hp:ps[i]?=some y:=by
   rw [← S.pre,List.getElem?_take_of_lt (by lia)]; exact h1
  have ndP:ps.Nodup:=by rw [← S.pre]; exact S.nd.sublist (List.take_sublist _ _)
  refine ⟨u,rv,?_⟩
  rcases S.par y (mem_of_getElem? hp) with k | k
  .exact .inl ⟨k,Zgy ndP hp hu k⟩
  .obtain ⟨c,e⟩:=Zij (n:=s.heap.objs.size+1) k
   refine .inr ⟨.inl k,c,e,?_⟩
   have q:=x.cell y c e
   rw [Zgz ndP hp hu (by show scope.names.lookup y≠_; rw [k]; decide)] at q
   exact q
 .exact e0.hok.fresh (Nat.le_of_lt (x.above y c (PySem.mem_of_lookup h)))
 .unfold start
  show _=N.length
  rw [length_append,length_map,List.length_replicate]
  lia
theorem fn_of {CX:CXT} {P:Program} {w:World} {K:W.Frag} {mg:Str->Option Value} {base:Heap} {k:Nat} {f:Addr} {name qual:Str} {params:Arguments} {body:List Stmt} {scope:Scope} {dV kV doc pm cdv ct oc:Value} {an od:Option Addr}
  {osl:Array (Option Value)} {N ps:List Str} {sp:Sp} (lk:K.lookup f=some ⟨oc,od,.func (W.fnOf name qual params body scope dV kV doc pm an cdv ct),osl⟩) (hcd:W.codeIn K cdv qual=true) (S:FnScope N ps scope)
  (len:∀ vs H Q E,sp vs H Q E->vs.length=ps.length)
  (hbody:∀ (A:Around) (outer:List Env) (s:Shared) (H:Hp) (vs:List V) (Q:VK) (E:XK),Room k (A.deeper (envOfC qual scope s.heap.objs.size f cdv))->sp vs H Q E ->
   ∃ t,PSs (cxOf CX P w K mg base N qual scope f cdv A outer s H E) body t/\t { nx:=λ_ H'=>Q .non H',rt:=Q } (start N vs) H) :
  FnOk P w K mg base CX (k+1) f (W.fnOf name qual params body scope dV kV doc pm an cdv ct) ps sp:=by
 refine ⟨len,λA outer s H args us vs Q E hr e0 hb r hsp=>?_⟩
 have hl:=len _ _ _ _ hsp
 have KX:K.In s.heap:=e0.mod.kin.keeps λb o e=>(e0.bs b o e).1
 have lim:s.heap.NoLimit:=e0.mod.nolimit.keeps λb o e=>(e0.bs b o e).1
 have hkind:∀ y∈ps.zip us,scope.names.lookup y.1=some .local\/(scope.names.lookup y.1=some .cell/\((cellsFrom (s.heap.objs.size+1) scope.names []).lookup y.1).isSome=true):=λ⟨n,v⟩ hy=>by
  rcases S.par n (List.of_mem_zip hy).1 with q | q
  .exact .inl q
  .exact .inr ⟨q,W.cellsFrom_some _ _ _ (.inl q)⟩
 refine codeAny_call_function hr.depth (KX _ _ lk) rfl S.co S.gen rfl (W.codeRec_of KX hcd) (hb _ _ _ _ ?_)
 refine wpAny_newFunctionEnv_cells S.kind hkind λenv he s1 x=>?_
 subst he
 refine ⟨lim.keeps x.toInCall.keep,codeAny_func ?_⟩
 obtain ⟨t,ht,hq⟩:=hbody A outer s H vs Q E (hr.deeper _) hsp
 have I:Inv (cxOf CX P w K mg base N qual scope f cdv A outer s H E) [] (start N vs) H s1:=ZjO S hr.hd e0 hl r x
 refine wpAny_mono (ht [] s1 (start N vs) H _ I hq) (λfl s' hs=>?_) λe s' hs=>hs
 have fin:∀ {σ':St} {H':Hp} {v:V} {u:Value},Inv (cxOf CX P w K mg base N qual scope f cdv A outer s H E) [] σ' H' s'->RelV v u->Q v H'->CE outer P w H s Q u s' :=
  λ{σ' H' v u} J rv q=>⟨v,H',J.os,J.bare,J.base,J.hok,rv,q⟩
 cases fl with
 | ret u =>
  obtain ⟨v,σ',H',J,rv,q⟩:=hs
  exact fin J rv q
 | next =>
  obtain ⟨σ',H',J,q⟩:=hs
  exact fin (v:=V.non) (u:=Value.none) J rfl q
 | brk =>
  obtain ⟨_,_,_,q⟩:=hs
  exact False.elim q
 | cont =>
  obtain ⟨_,_,_,q⟩:=hs
  exact False.elim q
section
variable {X:Cx} {x:Str} {p pos:Pos} {e:Expr} {es:List Expr} {t:TA} {id T:String} {r:List V->Hp->VK->Prop}
def tCB (r:List V->Hp->VK->Prop) (t:TA):TE:=λσ H Q=>t σ H λvs H1=>r vs H1 Q
theorem Zlv (hc:CallR X (.builtin id) r) (hg:Gl X x) (hm:X.mg x=none) (hv:bootBuiltins x=some (.builtin id)) (ha:PA X (e :: es) t) (hn:x ≠ "__name__" := by decide) (hdb:(x == ("__debug__" : Str))=false:=by decide)
  (he:starEach (e :: es) X.env=(false,eval e X.env) :: starEach es X.env:=by rfl) (hpl:(backTo pos (starEach es X.env)).any (·.1)=false:=by rfl):PE X (.Call (.Name x p) (e :: es) [] pos) (tCB r t):=by
 intro pins s σ H Q I h
 refine wpAny_Call_Name_kw (Zbw I hg hm hv ?_ hn hdb)
 exact PyProof.Rows.callWith_builtin1 (thA (ha pos pins s σ H _ I h) λus s1 vs H1 I1 r1 q1=>hc pins s1 σ H1 vs us Q I1 r1 q1) he hpl
theorem ZjP (hc:CallR X (.type T) r) (hg:Gl X x) (hm:X.mg x=none) (hv:bootBuiltins x=some (.type T)) (ha:PA X (e :: es) t) (hn:x ≠ "__name__" := by decide) (hdb:(x == ("__debug__" : Str))=false:=by decide)
  (he:starEach (e :: es) X.env=(false,eval e X.env) :: starEach es X.env:=by rfl) (hpl:(backTo pos (starEach es X.env)).any (·.1)=false:=by rfl):PE X (.Call (.Name x p) (e :: es) [] pos) (tCB r t):=by
 intro pins s σ H Q I h
 refine wpAny_Call_Name_kw (Zbw I hg hm hv ?_ hn hdb)
 exact PyProof.Rows.callWith_type1 (thA (ha pos pins s σ H _ I h) λus s1 vs H1 I1 r1 q1=>hc pins s1 σ H1 vs us Q I1 r1 q1) he hpl
end
end L2
namespace HT
open PySem PyProof.Rows
section
open PySem.SeqAt
open PySem.AutoSeq1 (wpAny_loadPart')
open PySem.MeetsSeq PySem.MeetsSeq2 PySem.MeetsSeq3
end
section
variable {prog:Program} {w:World} {A:Around} {E:Value->Shared->Prop} {s:Shared}
theorem cat_tup {t b:Addr} {vs ws:List Value} {Q:Value->Shared->Prop} (ht:IsTup s.heap t vs.toArray) (hb:IsTup s.heap b ws.toArray) (hv:vs≠[])
  (h1:ws=[]->Q (.ref t) s) (h2:ws≠[]->Q (.ref s.heap.objs.size) { s with heap:=s.heap.push { cls:=.type "tuple",data:=.seq (vs++ws).toArray } })
  (hsz:vs.length+ws.length<=sizeLine):wpAny (model prog w) A (binaryOp .Add (.ref t) (.ref b)) Q E s:=by
 obtain ⟨⟨cls,dd,data,sl⟩,ho,hc,n,hd⟩:=id ht
 obtain ⟨⟨cls2,dd2,data2,sl2⟩,ho2,hc2,n2,hd2⟩:=id hb
 simp only at hc hd hc2 hd2
 subst hc hd hc2 hd2
 have e:vs.toArray++ws.toArray=(vs++ws).toArray:=by simp
 by_cases hw:ws=[]
 .exact concat_meets ⟨_,ho,rfl⟩ ⟨_,ho2,rfl⟩ noFill_tuple_add seq_tuple_add PySem.F.slot_tuple_add PySem.F.entry_tuple_add (PySem.F.args_tuple_add_2 _ _)
   (tuple_addW1 t b vs.toArray ws.toArray n n2 dd dd2 sl sl2 (by simpa using hv) (by simp [hw])) ⟨ho,ho2,h1 hw⟩
 .refine concat_meets ⟨_,ho,rfl⟩ ⟨_,ho2,rfl⟩ noFill_tuple_add seq_tuple_add PySem.F.slot_tuple_add PySem.F.entry_tuple_add (PySem.F.args_tuple_add_2 _ _)
   (tuple_addW2 t b vs.toArray ws.toArray n n2 dd dd2 sl sl2 (by simpa using hv) (by simpa using hw) (by rw [List.size_toArray,List.size_toArray]; exact hsz)) ⟨ho,ho2,?_⟩
  rw [e]
  exact h2 hw
def sIx (n d:Nat):Option Int->Nat
 | none=>d
 | some v=>if v<0 then (v+(n:Int)).toNat else min v.toNat n
theorem sIx_none (n d:Nat):sIx n d none=d:=rfl
theorem sIx_nat (n d k:Nat):sIx n d (some (k:Int))=min k n:=by
 show (if (k:Int)<0 then ((k:Int)+(n:Int)).toNat else min (k:Int).toNat n)=min k n
 rw [if_neg (by lia),Int.toNat_natCast]
theorem Zoe (n d:Nat) (hd:d<=n) (o:Option Int):sIx n d o<=n:=by
 cases o with
 | none=>exact hd
 | some v =>
  show (if v<0 then (v+(n:Int)).toNat else min v.toNat n)<=n
  by_cases hv:v<0
  .rw [if_pos hv]; lia
  .rw [if_neg hv]; exact Nat.min_le_right _ _
theorem ZjQ (v:Int) (n d:Nat):(if v<0 then max (v+(n:Int)) 0 else min v (n:Int))=((sIx n d (some v):Nat):Int):=by
 show (if v<0 then max (v+(n:Int)) 0 else min v (n:Int))=(((if v<0 then (v+(n:Int)).toNat else min v.toNat n):Nat):Int)
 by_cases hv:v<0
 .simp only [if_pos hv]; lia
 .simp only [if_neg hv]; lia
theorem Zjn (lo hi:Option Int) (n:Nat):Builtin.Slice.sliceAdjust lo hi 1 (n:Int)=(((sIx n 0 lo:Nat):Int),((sIx n n hi:Nat):Int)):=by
 have h1:¬ ((1:Int)<0):=by lia
 unfold Builtin.Slice.sliceAdjust
 simp only [h1,if_false]
 refine Prod.ext ?_ ?_
 .cases lo with
  | none=>rfl
  | some v=>exact ZjQ v n 0
 .cases hi with
  | none=>rfl
  | some v=>exact ZjQ v n n
theorem Zjo (i j:Nat):Builtin.Slice.slicePlaces (i:Int) (j:Int) 1=j - i:=by
 unfold Builtin.Slice.slicePlaces
 have h1:(1:Int) > 0:=by lia
 simp only [h1,if_true,Int.ediv_one]
 split <;> lia
theorem Zfp {v:Value} {o:Option Int} {Q:Option Int->Shared->Prop} (p:IsPart v o) (h:Q o s):wpAny (model prog w) A (Builtin.Slice.slicePartIndex v) Q E s:=by
 cases p with
 | none=>exact slicePart_none h
 | int i t=>exact slicePart_int h
theorem Zck {sl:Addr} {vl vu:Value} {lo hi:Option Int} {n:Nat} {Q:Int×Int×Nat->Shared->Prop} (hs:s.heap.IsSliceOf sl vl vu .none) (pl:IsPart vl lo) (pu:IsPart vu hi)
  (h:Q (((sIx n 0 lo:Nat):Int),1,sIx n n hi - sIx n 0 lo) s):wpAny (model prog w) A (Builtin.Slice.sliceApplied (.ref sl) (pure (n:Int))) Q E s:=by
 obtain ⟨os,hos,hcs,hds⟩:=id hs
 unfold Builtin.Slice.sliceApplied Builtin.Slice.sliceFields
 refine wpAny_bind (wpAny_bind (wpAny_field hos hds (x:=vl) rfl (wpAny_bind (wpAny_field hos hds (x:=vu) rfl (wpAny_bind (wpAny_field hos hds (x:=.none) rfl (wpAny_pure ?_)))))))
 refine wpAny_bind (slicePart_none ?_)
 show wpAny _ _ (if ((1:Int) == 0)=true then _ else _) _ _ s
 rw [if_neg (by decide)]
 refine wpAny_bind (Zfp pl (wpAny_bind (Zfp pu (wpAny_bind (wpAny_pure ?_)))))
 show wpAny _ _ (match Builtin.Slice.sliceAdjust lo hi 1 (n:Int) with | (lo,hi)=>pure (lo,(1:Int),Builtin.Slice.slicePlaces lo hi 1)) _ _ s
 rw [Zjn lo hi n]
 show wpAny _ _ (pure (((sIx n 0 lo:Nat):Int),(1:Int),Builtin.Slice.slicePlaces ((sIx n 0 lo:Nat):Int) ((sIx n n hi:Nat):Int) 1)) _ _ s
 rw [Zjo]
 exact wpAny_pure h
theorem Zlw (xs:Array Value) (i k:Nat):((List.range k).filterMap λ(m:Nat)=>xs[((i:Int)+(m:Int) * 1).toNat]?).toArray=((xs.toList.drop i).take k).toArray:=by
 have e:(λ(m:Nat)=>xs[((i:Int)+(m:Int) * 1).toNat]?)=λm=>xs[i+m]?:=by
  funext m
  have:((i:Int)+(m:Int) * 1).toNat=i+m:=by lia
  rw [this]
 rw [e]
 have:=pick_run xs i k
 rw [List.filterMap_map] at this
 have e2:((λx=>xs[x]?) ∘ λx=>i+x)=λm=>xs[i+m]?:=rfl
 rw [e2] at this
 rw [this]
theorem getItem_tuple_cut {t sl:Addr} {items:Array Value} {vl vu:Value} {lo hi:Option Int} {Q:Value->Shared->Prop} (ht:IsTup s.heap t items) (hs:s.heap.IsSliceOf sl vl vu .none) (pl:IsPart vl lo) (pu:IsPart vu hi)
  (hw:¬ (sIx items.size 0 lo=0/\sIx items.size items.size hi=items.size))
  (h:Q (.ref s.heap.objs.size) { s with heap:=s.heap.push { cls:=.type "tuple",data:=.seq ((items.toList.drop (sIx items.size 0 lo)).take (sIx items.size items.size hi - sIx items.size 0 lo)).toArray } })
  (hsz:items.size<=sizeLine):wpAny (model prog w) A (getItem (.ref t) (.ref sl)) Q E s:=by
 have htake:sizeOk (.seq ((items.toList.drop (sIx items.size 0 lo)).take (sIx items.size items.size hi - sIx items.size 0 lo)).toArray):=by
  show ((items.toList.drop (sIx items.size 0 lo)).take (sIx items.size items.size hi - sIx items.size 0 lo)).toArray.size<=sizeLine
  rw [List.size_toArray,length_take,length_drop,Array.length_toList]
  lia
 have hj:sIx items.size items.size hi<=items.size:=Zoe _ _ (Nat.le_refl _) hi
 obtain ⟨os,hos,hcs,hds⟩:=id hs
 have hTs:s.TypeIs (.ref sl) "slice" := ⟨os,hos,hcs⟩
 unfold getItem
 try with_reducible refine wpAny_holding ?_
 first | refine wpAny_bind (wpAny_pure ?_) | skip
 refine wpAny_bind (wpAny_sequenceKey ht.typeIs (by decide) ?_)
 refine wpAny_bind (wpAny_callSpecial?_slot (name:=Str.ofString "__getitem__") ht.typeIs PyProof.Rows.slot_tuple_getitem
  (wpAny_call_entry PyProof.Rows.slot_tuple_getitem ht.typeIs entry_tuple_getitem ?_ (args_tuple_getitem _ _)))
 show wpAny _ _ (Builtin.Tuple.tupleItemsOf (.ref t) >>= _) _ _ s
 refine wpAny_bind (tupleItemsOf_ ht ?_)
 refine wpAny_bind (wpAny_typeOf hTs ?_)
 rw [if_pos (by decide)]
 refine wpAny_bind (Zck hs pl pu ?_)
 have hno:¬ ((((sIx items.size 0 lo:Nat):Int) == 0 && (1:Int) == 1 && (sIx items.size items.size hi - sIx items.size 0 lo) == items.size)=true):=by
  intro q
  rw [Bool.and_eq_true,Bool.and_eq_true] at q
  have q1:((sIx items.size 0 lo:Nat):Int)=0:=eq_of_beq q.1.1
  have q2:sIx items.size items.size hi - sIx items.size 0 lo=items.size:=eq_of_beq q.2
  exact hw ⟨by lia,by lia⟩
 show wpAny _ _ (if (((sIx items.size 0 lo:Nat):Int) == 0 && (1:Int) == 1 && (sIx items.size items.size hi - sIx items.size 0 lo) == items.size)=true then _ else _) _ _ s
 rw [if_neg hno,Zlw]
 first
  | exact wpAny_bind (m:=Builtin.Tuple.tupleExact _) (wpAny_newObj_type (wpAny_pure ⟨_,rfl,wpAny_pure h⟩) htake)
  | exact wpAny_bind (m:=Builtin.Tuple.tupleExact _) (wpAny_newObj_type (wpAny_bind (wpAny_pure (wpAny_pure ⟨_,rfl,wpAny_pure h⟩))) htake)
  | exact wpAny_bind (wpAny_bind (m:=Builtin.Tuple.tupleExact _) (wpAny_newObj_type (wpAny_pure (wpAny_pure ⟨_,rfl,wpAny_pure h⟩)) htake))
  | exact wpAny_bind (wpAny_bind (m:=Builtin.Tuple.tupleExact _) (wpAny_newObj_type (wpAny_pure ⟨_,rfl,wpAny_pure h⟩) htake))
end
end HT
namespace L2
open PySem PySem.Spec PyProof.Rows
abbrev TO:=St->Hp->(Option Int->Hp->Prop)->Prop
def PO (X:Cx) (e:Option Expr) (t:TO):Prop :=
 ∀ (pins:List (Addr×Obj)) (s:Shared) (σ:St) (H:Hp) (Q:Option Int->Hp->Prop),Inv X pins σ H s->t σ H Q ->
  wpAny (model X.prog X.w) X.A (evalPart e X.env) (λu s'=>∃ o H',Inv X pins σ H' s'/\IsPart u o/\Q o H') X.xe s
def Znc:TO:=λ_ H Q=>Q none H
def tPart (t:TE):TO:=λσ H Q=>t σ H λx H1=>∃ i,x=.int i/\Q (some i) H1
theorem ZcC {ns:List Int}:∀ {us:List Value},Vals (ns.map V.int) us->IntsAre us ns:=by
 induction ns with
 | nil=>intro us r; rw [map_nil] at r; cases r; exact .nil
 | cons n ns ih =>
  intro us r
  rw [map_cons] at r
  cases r with
  | cons r1 r2 =>
   obtain ⟨t,e⟩:=r1
   subst e
   exact .cons n t (ih r2)
section
variable {X:Cx} {e:Expr} {te:TE} {lo hi:Option Expr} {tl th:TO} {pos p2:Pos}
theorem ZjR:PO X none Znc:=by
 intro pins s σ H Q I h
 rw [evalPart_none]
 exact wpAny_pure ⟨none,H,I,.none,h⟩
theorem ZfE (h:PE X e te):PO X (some e) (tPart te):=by
 intro pins s σ H Q I hw
 rw [evalPart_some]
 refine thE (h pins s σ H _ I hw) λu s1 x H1 I1 r1 q1=>?_
 obtain ⟨i,rfl,q⟩:=q1
 obtain ⟨t,rfl⟩:=r1
 exact ⟨some i,H1,I1,.int i t,q⟩
def SlR (X:Cx) (r:V->Option Int->Option Int->Hp->VK->Prop):Prop :=
 ∀ (pins:List (Addr×Obj)) (s:Shared) (σ:St) (H:Hp) (x:V) (v vl vu:Value) (lo hi:Option Int) (sl:Addr) (Q:VK),Inv X pins σ H s->RelV x v->s.heap.IsSliceOf sl vl vu .none->IsPart vl lo->IsPart vu hi->r x lo hi H Q ->
  ∃ T id,typeLookup (.type T) "__getitem__" = pure (some (.builtin id))/\s.TypeIs v T/\wpAny (model X.prog X.w) X.A (getItem v (.ref sl)) (EP X pins σ Q) X.xe s
def tSl (r:V->Option Int->Option Int->Hp->VK->Prop) (te:TE) (tl th:TO):TE:=λσ H Q=>te σ H λx H1=>tl σ H1 λl H2=>th σ H2 λu H3=>r x l u H3 Q
theorem ZfF {r:V->Option Int->Option Int->Hp->VK->Prop} (hr:SlR X r) (he:PE X e te) (hl:PO X lo tl) (hu:PO X hi th):PE X (.Subscript e (.Slice lo hi none p2) pos) (tSl r te tl th):=by
 intro pins s σ H Q I h
 refine Subscript_ (thE (he pins s σ H _ I h) λv s1 x H1 I1 r1 q1=>?_)
 refine wpAny_Slice (thn (hl pins s1 σ H1 _ I1 q1) λvl s2 ⟨l,H2,I2,pl,q2⟩=>thn (hu pins s2 σ H2 _ I2 q2) λvu s3 ⟨u,H3,I3,pu,q3⟩=>?_)
 rw [evalPart_none]
 refine wpAny_pure ?_
 have I4:Inv X pins σ H3 { s3 with heap:=s3.heap.push { cls:=.type "slice",data:=.fields #[vl,vu,.none] } }:=I3.kept (t':=s3.toks) λb ob q=>Heap.get?_push_of_some _ q
 obtain ⟨T,id,hT,ht,hg⟩:=hr pins { s3 with heap:=s3.heap.push { cls:=.type "slice",data:=.fields #[vl,vu,.none] } } σ H3 x v vl vu l u s3.heap.objs.size Q I4 r1 (Heap.IsSliceOf.new ..) pl pu q3
 show wpAny (model X.prog X.w) X.A (subscriptTail e (.Slice lo hi none p2) v (.ref s3.heap.objs.size)) (EP X pins σ Q) X.xe { s3 with heap:=s3.heap.push { cls:=.type "slice",data:=.fields #[vl,vu,.none] } }
 exact tail_any (ops:=[.ref s3.heap.objs.size,v]) ht hT hg (by with_unfolding_all rfl)
def cutV (xs:List V) (lo hi:Option Int):List V:=(xs.drop (HT.sIx xs.length 0 lo)).take (HT.sIx xs.length xs.length hi - HT.sIx xs.length 0 lo)
theorem Zev (xs:List V) (lo hi:Option Int):(cutV xs lo hi).length<=xs.length:=by
 unfold cutV
 rw [length_take,length_drop]
 lia
def rSlT (K:W.Frag):V->Option Int->Option Int->Hp->VK->Prop:=λx lo hi H Q=>∃ a xs,x=.ref a/\SqT K H a xs /\
 ¬ (HT.sIx xs.length 0 lo=0/\HT.sIx xs.length xs.length hi=xs.length)/\∀ p,H p=none->Q (.ref p) (upd H p (.tup (cutV xs lo hi)))
theorem Zof:SlR X (rSlT X.K):=by
 intro pins s σ H x v vl vu lo hi sl Q I rx hs pl pu h
 obtain ⟨a,xs,rfl,hx,hw,q⟩:=h
 cases rx
 obtain ⟨its,r,ht,hz⟩:=I.tuple hx
 have hlen:its.toArray.size=xs.length:=by rw [List.size_toArray]; exact r.length.symm
 refine ⟨"tuple",_,PyProof.Rows.slot_tuple_getitem.lookup,ht.typeIs,?_⟩
 refine HT.getItem_tuple_cut ht hs pl pu (by rw [hlen]; exact hw) ?_ (by rw [hlen]; exact hz)
 rw [hlen]
 refine ⟨.ref s.heap.objs.size,_,I.laid (t':=s.toks) (o:=.tup (cutV xs lo hi)) (λb ob q=>Heap.get?_push_of_some _ q) (Nat.le_refl _) ?_,rfl,q _ (I.hok.fresh (Nat.le_refl _))⟩
 exact ⟨Nat.le_trans (Zev xs lo hi) hz,_,(r.drop (HT.sIx xs.length 0 lo)).take (HT.sIx xs.length xs.length hi - HT.sIx xs.length 0 lo),IsTup.new _ _⟩
def rCatT (K:W.Frag):R2:=λx y H Q=>∃ a b xs ys,x=.ref a/\y=.ref b/\SqT K H a xs/\SqT K H b ys/\xs≠[]/\xs.length+ys.length<=sizeLine /\
 (ys=[]->Q (.ref a) H)/\(ys≠[]->∀ p,H p=none->Q (.ref p) (upd H p (.tup (xs++ys))))
theorem Vals.nil_iff {xs:List V} {us:List Value} (r:Vals xs us):us=[]↔xs=[]:=by
 cases r with
 | nil=>simp
 | cons _ _=>simp
theorem Znd:OpR X (binaryOp .Add) (rCatT X.K):=by
 intro pins s σ H x y v u Q I rx ry h
 obtain ⟨a,b,xs,ys,rfl,rfl,ha,hb,hx,hz,q1,q2⟩:=h
 cases rx
 cases ry
 obtain ⟨its,r1,p1,_⟩:=I.tuple ha
 obtain ⟨its2,r2,p2,_⟩:=I.tuple hb
 refine HT.cat_tup p1 p2 (λz=>hx (r1.nil_iff.mp z)) (λz=>⟨.ref a,H,I,rfl,q1 (r2.nil_iff.mp z)⟩) (λz=>?_) (by rw [← r1.length,← r2.length]; exact hz)
 refine ⟨.ref s.heap.objs.size,_,I.laid (t':=s.toks) (o:=.tup (xs++ys)) (λb ob q=>Heap.get?_push_of_some _ q) (Nat.le_refl _) ?_,rfl,q2 (λw=>z (r2.nil_iff.mpr w)) _ (I.hok.fresh (Nat.le_refl _))⟩
 exact ⟨by rw [length_append]; exact hz,_,r1.append r2,IsTup.new _ _⟩
end
def ixN (n:Nat) (i:Int):Option Nat:=if 0<=i then (if i<n then some i.toNat else none) else if -(n:Int)<=i then some (i+n).toNat else none
def atI {α:Type} (xs:List α) (i:Int):Option α:=(ixN xs.length i).bind λj=>xs[j]?
theorem ZjS {n:Nat} {i:Int} {j:Nat} (h:ixN n i=some j):seqIndex? i n=some j/\j<n /\ -(n:Int)<=i/\i<n:=by
 unfold ixN at h
 by_cases h0:0<=i
 .rw [if_pos h0] at h
  by_cases h1:i<n
  .rw [if_pos h1] at h
   have e:i.toNat=j:=Option.some.inj h
   exact ⟨by rw [seqIndex_of h0 h1,e],by lia,by lia,h1⟩
  .rw [if_neg h1] at h; cases h
 .rw [if_neg h0] at h
  by_cases h1 : -(n:Int)<=i
  .rw [if_pos h1] at h
   have e:(i+n).toNat=j:=Option.some.inj h
   exact ⟨by rw [seqIndex_neg (by lia) h1,e],by lia,h1,by lia⟩
  .rw [if_neg h1] at h; cases h
theorem ZjT {α:Type} {xs:List α} {i:Int} {v:α} (h:atI xs i=some v):∃ j,seqIndex? i xs.length=some j/\xs[j]?=some v/\j<xs.length /\ -(xs.length:Int)<=i/\i<xs.length:=by
 unfold atI at h
 cases e:ixN xs.length i with
 | none=>rw [e] at h; cases h
 | some j =>
  rw [e] at h
  obtain ⟨h1,h2,h3,h4⟩:=ZjS e
  exact ⟨j,h1,h,h2,h3,h4⟩
theorem ZR {α:Type} {xs:List α} {j:Nat} {v:α} (h:xs[j]?=some v):atI xs (j:Int)=some v:=by
 have hj:j<xs.length:=(List.getElem?_eq_some_iff.mp h).1
 have e:ixN xs.length (j:Int)=some j:=by
  unfold ixN
  rw [if_pos (by lia),if_pos (by lia)]; simp
 unfold atI; rw [e]; exact h
def Zne (b:Expr):Prop:=∀ o i,subscripted b false o i=operate [o,i] (getItem o i)
def IxR (X:Cx) (r:R2):Prop :=
 ∀ (value slice:Expr) (pins:List (Addr×Obj)) (s:Shared) (σ:St) (H:Hp) (x y:V) (v u:Value) (Q:VK),Inv X pins σ H s->RelV x v->RelV y u->r x y H Q ->
  subscripted slice false v u=operate [v,u] (getItem v u)->wpAny (model X.prog X.w) X.A (subscriptTail value slice v u) (EP X pins σ Q) X.xe s
def MtR (X:Cx) (id:String) (r:V->List V->Hp->VK->Prop):Prop :=
 ∀ (pins:List (Addr×Obj)) (s:Shared) (σ:St) (H:Hp) (x:V) (xs:List V) (v:Value) (us:List Value) (Q:VK),Inv X pins σ H s->RelV x v->Vals xs us->r x xs H Q ->
  wpAny (model X.prog X.w) X.A (call (.builtin id) (v :: us)) (EP X pins σ Q) X.xe s
section
variable {X:Cx} {a b:Expr} {ta tb:TE} {pos:Pos}
theorem pe_ix {r:R2} (hr:IxR X r) (ha:PE X a ta) (hb:PE X b tb) (hs:Zne b):PE X (.Subscript a b pos) (tOp r ta tb):=by
 intro pins s σ H Q I h
 exact Subscript_ (binT ha hb I h λv u s2 x y H2 I2 rx ry q=>hr a b pins s2 σ H2 x y v u Q I2 rx ry q (hs _ _))
def rIxL (K:W.Frag):R2:=λx y H Q=>∃ p xs i v,x=.ref p/\y=.int i/\SqL K H p xs/\atI xs i=some v/\Q v H
def rIxT (K:W.Frag):R2:=λx y H Q=>∃ p xs i v,x=.ref p/\y=.int i/\SqT K H p xs/\atI xs i=some v/\Q v H
theorem Znf:IxR X (rIxL X.K):=by
 intro value slice pins s σ H x y v u Q I rx ry h hs
 obtain ⟨p,xs,i,z,rfl,rfl,hq,he,q⟩:=h
 cases rx
 obtain ⟨t,rfl⟩:=ry
 obtain ⟨its,r,pl,hz⟩:=I.list hq
 obtain ⟨j,h1,h2,h3,h4,h5⟩:=ZjT he
 obtain ⟨w,ew,rw'⟩:=r.get h2
 have hl:=r.length
 have hn:=Zig
 have fin:EP X pins σ Q w s:=⟨z,H,I,rw',q⟩
 by_cases h0:0<=i
 .have hj:i.toNat=j:=by
   rw [seqIndex_of h0 h5] at h1
   exact Option.some.inj h1
  exact item_listR pl.isList h0 (by lia) (by rw [hj]; simpa using ew) fin hs
 .have hj:(i+(its.toArray.size:Int)).toNat=j:=by
   rw [seqIndex_neg (by lia) h4] at h1
   rw [List.size_toArray,← hl]
   exact Option.some.inj h1
  exact subscriptTail_builtinR (x:=w) pl.isList.typeIs slot_list_getitem.lookup
   (wpAny_getItem_list_neg (Q:=λr s'=>r=w/\EP X pins σ Q r s') pl.isList (by lia) (by rw [List.size_toArray] <;> lia) (by lia) (by rw [hj]; simpa using ew) ⟨rfl,fin⟩) hs
theorem Zog:IxR X (rIxT X.K):=by
 intro value slice pins s σ H x y v u Q I rx ry h hs
 obtain ⟨p,xs,i,z,rfl,rfl,hq,he,q⟩:=h
 cases rx
 obtain ⟨t,rfl⟩:=ry
 obtain ⟨its,r,pl,hz⟩:=I.tuple hq
 obtain ⟨j,h1,h2,h3,h4,h5⟩:=ZjT he
 obtain ⟨w,ew,rw'⟩:=r.get h2
 have hl:=r.length
 have hn:=Zig
 have fin:EP X pins σ Q w s:=⟨z,H,I,rw',q⟩
 exact subscriptTail_builtinR (x:=w) pl.typeIs slot_tuple_getitem.lookup
  (getItem_tuple (j:=j) (Q:=λr s'=>r=w/\EP X pins σ Q r s') pl (by lia) (by lia) (by rw [List.size_toArray,← hl]; exact h1) (by simpa using ew) ⟨rfl,fin⟩) hs
theorem Zjp (its:List Value) (n j:Nat) (u:Value):Obj.mapSeq (·.setIfInBounds j u) { cls:=.type "list",data:=.seq its.toArray n }={ cls:=.type "list",data:=.seq (its.set j u).toArray n }:=by
 simp [Obj.mapSeq]
theorem Inv.lst {pins:List (Addr×Obj)} {σ:St} {H:Hp} {s:Shared} {p:Addr} {xs:List V} (I:Inv X pins σ H s) (h:H p=some (.lst xs)) :
  ∃ (its:List Value) (n:Nat),Vals xs its/\s.heap.get? p=some { cls:=.type "list",data:=.seq its.toArray n }/\xs.length<=sizeLine:=by
 obtain ⟨z,its,n,r,e⟩:=I.hok p _ h
 exact ⟨its,n,r,e,z⟩
theorem Inv.lstUpd {pins:List (Addr×Obj)} {σ:St} {H:Hp} {s:Shared} {p:Addr} {xs ys:List V} {its its':List Value} {n n':Nat} {f:Obj->Obj} (I:Inv X pins σ H s) (h:H p=some (.lst xs))
  (ho:s.heap.get? p=some { cls:=.type "list",data:=.seq its.toArray n }) (hf:f { cls:=.type "list",data:=.seq its.toArray n }={ cls:=.type "list",data:=.seq its'.toArray n' }) (r:Vals ys its') (hz:ys.length<=sizeLine) (t:Nat) :
  Inv X pins σ (upd H p (.lst ys)) { s with heap:=s.heap.update p f,toks:=t }:=by
 have e:(s.heap.update p f).get? p=some { cls:=.type "list",data:=.seq its'.toArray n' }:=by
  rw [Heap.get?_update_self f ho (by rw [hf] <;> rfl),hf]
 refine I.write (x:=p) (e:=p) (by rw [h]; trivial) (.inl rfl) (λb u hb q=>(Heap.get?_update_other _ _ (Ne.symm hb)).trans q) ⟨_,e⟩ ?_
 exact ⟨hz,its',n',r,e⟩
def rSetL:V->V->V->Hp->(Hp->Prop)->Prop:=λo i v H Q=>∃ p xs k j,o=.ref p/\i=.int k/\H p=some (.lst xs)/\ixN xs.length k=some j/\Q (upd H p (.lst (xs.set j v)))
theorem ZbR:PSet X rSetL:=by
 intro pins s σ H o i v ov iv u Q I ro ri rv h
 obtain ⟨p,xs,k,j,rfl,rfl,hp,hj,q⟩:=h
 cases ro
 obtain ⟨t,rfl⟩:=ri
 obtain ⟨its,n,r,ho,hz⟩:=I.lst hp
 obtain ⟨h1,h2,h3,h4⟩:=ZjS hj
 have hl:=r.length
 have hn:=Zig
 have I':Inv X pins σ (upd H p (.lst (xs.set j v))) { s with heap:=s.heap.update p (Obj.mapSeq (·.setIfInBounds j u)) } :=
  I.lstUpd hp ho (Zjp its n j u) (r.set rv j) (by rw [length_set]; exact hz) s.toks
 by_cases h0:0<=k
 .have hk:k.toNat=j:=by
   rw [seqIndex_of h0 h4] at h1
   exact Option.some.inj h1
  exact W.ki_setAt ho h0 (by lia) (by rw [List.size_toArray,← hl]; exact h4) (by rw [hk]; exact ⟨_,I',q⟩)
 .have hk:(k+(its.toArray.size:Int)).toNat=j:=by
   rw [seqIndex_neg (by lia) h3] at h1
   rw [List.size_toArray,← hl]
   exact Option.some.inj h1
  exact W.ki_setBack ho (by lia) (by rw [List.size_toArray,← hl]; exact h3) (by lia) (by rw [hk]; exact ⟨_,I',q⟩)
theorem ZgA (lo hi:Option Int) (n:Nat):(sliceBounds lo hi none n).1=((HT.sIx n 0 lo:Nat):Int)/\(sliceBounds lo hi none n).2.1=((HT.sIx n n hi:Nat):Int)/\(sliceBounds lo hi none n).2.2=1:=by
 refine ⟨?_,?_,rfl⟩
 .cases lo with
  | none=>simp [sliceBounds,HT.sIx]
  | some i =>
   simp only [sliceBounds,HT.sIx,Option.getD_none,show (1:Int) > 0 by decide,if_true]
   by_cases h:i<0
   .simp only [h,if_true] <;> lia
   .simp only [h,if_false] <;> lia
 .cases hi with
  | none=>simp [sliceBounds,HT.sIx]
  | some i =>
   simp only [sliceBounds,HT.sIx,Option.getD_none,show (1:Int) > 0 by decide,if_true]
   by_cases h:i<0
   .simp only [h,if_true] <;> lia
   .simp only [h,if_false] <;> lia
theorem ZfG (its:List Value) (lo hi:Option Int):slicePick its.toArray lo hi none=((its.drop (HT.sIx its.length 0 lo)).take (HT.sIx its.length its.length hi - HT.sIx its.length 0 lo)).toArray:=by
 obtain ⟨h1,h2,h3⟩:=ZgA lo hi its.toArray.size
 unfold slicePick
 rw [h1,h2,h3]
 simp only [sliceRange_one,pick_run,List.size_toArray] <;> rfl
def rSlL (K:W.Frag):V->Option Int->Option Int->Hp->VK->Prop:=λx lo hi H Q=>∃ a xs,x=.ref a/\SqL K H a xs/\∀ p,H p=none->Q (.ref p) (upd H p (.lst (cutV xs lo hi)))
theorem Zng:SlR X (rSlL X.K):=by
 intro pins s σ H x v vl vu lo hi sl Q I rx hs pl pu h
 obtain ⟨a,xs,rfl,hx,q⟩:=h
 cases rx
 obtain ⟨its,r,ht,hz⟩:=I.list hx
 have hlen:=r.length
 refine ⟨"list",_,slot_list_getitem.lookup,ht.isList.typeIs,?_⟩
 refine wpAny_getItem_list_slice ht.isList hs pl pu .none (by simp) ?_ (by rw [List.size_toArray] <;> lia)
 rw [ZfG,← hlen]
 refine ⟨.ref s.heap.objs.size,_,I.laid (t':=s.toks) (o:=.lst (cutV xs lo hi)) (λb ob q=>Heap.get?_push_of_some _ q) (Nat.le_refl _) ?_,rfl,q _ (I.hok.fresh (Nat.le_refl _))⟩
 exact ⟨Nat.le_trans (Zev xs lo hi) hz,_,0,(r.drop (HT.sIx xs.length 0 lo)).take (HT.sIx xs.length xs.length hi - HT.sIx xs.length 0 lo),Heap.get?_push_size _ rfl⟩
def flatV:V->Bool
 | .non=>true
 | .bl _=>true
 | .int _=>true
 | .str _=>true
 | _=>false
def eqV:V->V->Bool
 | .non,.non=>true
 | .bl a,.bl b=>a == b
 | .bl a,.int b=>(if a then 1 else 0) == b
 | .int a,.bl b=>a == (if b then 1 else 0)
 | .int a,.int b=>a == b
 | .str a,.str b=>a == b
 | _,_=>false
theorem Zoh {A:Around} {s:Shared} {y x:V} {u v:Value} (ry:RelV y u) (rx:RelV x v) (fy:flatV y=true) (fx:flatV x=true):SeqAt.EqAt A s u v (eqV y x):=by
 cases y with
 | non =>
  cases ry
  cases x with
  | non=>cases rx; exact SeqAt.EqAt.same _
  | bl b=>cases rx; exact SeqAt.EqAt.none_bool b
  | int b=>obtain ⟨t,rfl⟩:=rx; exact SeqAt.EqAt.none_int b t
  | str b=>obtain ⟨t,rfl⟩:=rx; exact SeqAt.EqAt.none_str b t
  | _=>exact absurd (show false=true from fx) Bool.false_ne_true
 | bl a =>
  cases ry
  cases x with
  | non=>cases rx; exact SeqAt.EqAt.bool_none a
  | bl b=>cases rx; exact SeqAt.EqAt.bool_bool a b
  | int b=>obtain ⟨t,rfl⟩:=rx; exact SeqAt.EqAt.bool_int a b t
  | str b=>obtain ⟨t,rfl⟩:=rx; exact SeqAt.EqAt.bool_str a b t
  | _=>exact absurd (show false=true from fx) Bool.false_ne_true
 | int a =>
  obtain ⟨t',rfl⟩:=ry
  cases x with
  | non=>cases rx; exact SeqAt.EqAt.int_none a t'
  | bl b=>cases rx; exact SeqAt.EqAt.int_bool a t' b
  | int b=>obtain ⟨t,rfl⟩:=rx; exact SeqAt.EqAt.int_int a t' b t
  | str b=>obtain ⟨t,rfl⟩:=rx; exact SeqAt.EqAt.int_str a t' b t
  | _=>exact absurd (show false=true from fx) Bool.false_ne_true
 | str a =>
  obtain ⟨t',rfl⟩:=ry
  cases x with
  | non=>cases rx; exact SeqAt.EqAt.str_none a t'
  | bl b=>cases rx; exact SeqAt.EqAt.str_bool a t' b
  | int b=>obtain ⟨t,rfl⟩:=rx; exact SeqAt.EqAt.str_int a t' b t
  | str b=>obtain ⟨t,rfl⟩:=rx; exact SeqAt.EqAt.str_str a t' b t
  | _=>exact absurd (show false=true from fx) Bool.false_ne_true
 | _=>exact absurd (show false=true from fy) Bool.false_ne_true
def eqU (x:V) (u:Value):Bool:=match u with
 | .none=>eqV .non x
 | .bool b=>eqV (.bl b) x
 | .int i _=>eqV (.int i) x
 | .str z _=>eqV (.str z) x
 | _=>false
theorem Zmu {x y:V} {u:Value} (r:RelV y u) (f:flatV y=true):eqU x u=eqV y x:=by
 cases y with
 | non=>cases r; rfl
 | bl b=>cases r; rfl
 | int i=>obtain ⟨t,rfl⟩:=r; rfl
 | str z=>obtain ⟨t,rfl⟩:=r; rfl
 | _=>exact absurd (show false=true from f) Bool.false_ne_true
theorem Zhx {x:V}:∀ {xs:List V} {us:List Value},Vals xs us->xs.all flatV=true->us.any (eqU x)=xs.any λy=>eqV y x
 | _,_,.nil,_=>rfl
 | y :: xs,u :: us,.cons r t,f=>by
  rw [all_cons,Bool.and_eq_true] at f
  rw [any_cons,any_cons,Zmu r f.1,Zhx t f.2]
theorem ZfH {A:Around} {s:Shared} {x:V} {v:Value} (rx:RelV x v) (fx:flatV x=true):∀ {xs:List V} {us:List Value},Vals xs us->xs.all flatV=true->∀ u∈us,SeqAt.EqAt A s u v (eqU x u)
 | _,_,.nil,_=>λu hu=>by cases hu
 | y :: xs,u :: us,.cons r t,f=>λu' hu=>by
  rw [all_cons,Bool.and_eq_true] at f
  rcases List.mem_cons.mp hu with rfl | hu
  .rw [Zmu r f.1]; exact Zoh r rx f.1 fx
  .exact ZfH rx fx t f.2 u' hu
def inV (x:V) (xs:List V):Bool:=xs.any λy=>eqV y x
def rIn (K:W.Frag) (neg:Bool):R2:=λx y H Q=>∃ p xs,y=.ref p/\(SqL K H p xs\/SqT K H p xs)/\flatV x=true/\xs.all flatV=true/\Q (.bl (if neg then !inV x xs else inV x xs)) H
theorem ZgB:OpR X (compareOp .NotIn) (rIn X.K true):=by
 intro pins s σ H x y v u Q I rx ry h
 obtain ⟨p,xs,rfl,hq,fx,fs,q⟩:=h
 cases ry
 rcases hq with hq | hq
 .obtain ⟨its,r,pl,hz⟩:=I.list hq
  refine SeqAt.notIn_listAt (eqU x) pl.isList (λw hw=>ZfH rx fx r fs w (by simpa using hw)) ⟨.bl _,H,I,rfl,?_⟩
  rw [show its.toArray.any (eqU x)=its.any (eqU x) by simp,Zhx r fs]
  exact q
 .obtain ⟨its,r,pl,hz⟩:=I.tuple hq
  refine SeqAt.notIn_tupleAt (eqU x) pl (λw hw=>ZfH rx fx r fs w (by simpa using hw)) ⟨.bl _,H,I,rfl,?_⟩
  rw [show its.toArray.any (eqU x)=its.any (eqU x) by simp,Zhx r fs]
  exact q
theorem ZgC:CallR X (.builtin "len") (λxs H Q=>∃ p ys,xs=[.ref p]/\(SqL X.K H p ys\/SqT X.K H p ys)/\Q (.int ys.length) H):=by
 intro pins s σ H xs us Q I r h
 obtain ⟨p,ys,rfl,hq,q⟩:=h
 obtain ⟨u,rfl,rx⟩:=vals1 r
 cases rx
 have hn:=Zig
 rcases hq with hq | hq
 .obtain ⟨its,r',pl,hz⟩:=I.list hq
  have hlen:=r'.length
  exact Calls.call_len_list pl.isList (by simp only [List.size_toArray] <;> lia) ⟨.int ys.length,H,I.tok _,⟨s.toks+1,by rw [List.size_toArray,hlen]⟩,q⟩
 .obtain ⟨its,r',pl,hz⟩:=I.tuple hq
  have hlen:=r'.length
  exact len_tuple pl (by simp only [List.size_toArray] <;> lia) ⟨.int ys.length,H,I.tok _,⟨s.toks+1,by rw [List.size_toArray,hlen]⟩,q⟩
theorem ZgD:CallR X (.type "list") (λxs H Q=>∃ p ys,xs=[.ref p]/\(SqL X.K H p ys\/SqT X.K H p ys)/\∀ l,H l=none->Q (.ref l) (upd H l (.lst ys))):=by
 intro pins s σ H xs us Q I r h
 obtain ⟨p,ys,rfl,hq,q⟩:=h
 obtain ⟨u,rfl,rx⟩:=vals1 r
 cases rx
 have fin:∀ (its:List Value),Vals ys its->ys.length<=sizeLine->∀ (h':Heap) (c':Nat),(∀ b o',s.heap.get? b=some o'->h'.get? b=some o') ->
   h'.get? s.heap.objs.size=some { cls:=.type "list",dict:=none,data:=.seq its.toArray c',slots:=#[] }->EP X pins σ Q (.ref s.heap.objs.size) { s with heap:=h' }:=λits r' hz h' c' kp e =>
  ⟨.ref s.heap.objs.size,_,I.laid (t':=s.toks) kp (Nat.le_refl _) (show ObjOk X.prog X.w _ h' _ (.lst ys) from ⟨hz,its,c',r',e⟩),rfl,q _ (I.hok.fresh (Nat.le_refl _))⟩
 rcases hq with hq | hq
 .obtain ⟨its,r',pl,hz⟩:=I.list hq
  have hlen:=r'.length
  obtain ⟨o,ho,hc,n,hd⟩:=pl.isList
  exact call_list_seq p (.inl rfl) ho hc hd (λh' c' kp e=>fin its r' hz h' c' kp e) (by simp only [List.size_toArray] <;> lia)
 .obtain ⟨its,r',pl,hz⟩:=I.tuple hq
  have hlen:=r'.length
  obtain ⟨o,ho,hc,n,hd⟩:=pl
  exact call_list_seq p (.inr rfl) ho hc hd (λh' c' kp e=>fin its r' hz h' c' kp e) (by simp only [List.size_toArray] <;> lia)
theorem ZfI:CallR X (.type "tuple") (λxs H Q=>∃ p ys,xs=[.ref p]/\((SqL X.K H p ys/\∀ l,H l=none->Q (.ref l) (upd H l (.tup ys)))\/(SqT X.K H p ys/\Q (.ref p) H))):=by
 intro pins s σ H xs us Q I r h
 obtain ⟨p,ys,rfl,h⟩:=h
 obtain ⟨u,rfl,rx⟩:=vals1 r
 cases rx
 rcases h with ⟨hq,q⟩ | ⟨hq,q⟩
 .obtain ⟨its,r',pl,hz⟩:=I.list hq
  have hlen:=r'.length
  refine call_tuple_list pl.isList (λh' kp=>?_) (by simp only [List.size_toArray] <;> lia)
  have I1:Inv X pins σ H { s with heap:=h' }:=I.kept (t':=s.toks) kp
  have I2:Inv X pins σ (upd H h'.objs.size (.tup ys)) { s with heap:=h'.push { cls:=.type "tuple",data:=.seq its.toArray } } :=
   I1.laid (t':=s.toks) (λb o e=>Heap.get?_push_of_some _ e) (Nat.le_refl _) (show ObjOk X.prog X.w _ _ _ (.tup ys) from ⟨hz,its,r',IsTup.new _ _⟩)
  exact ⟨.ref h'.objs.size,_,I2,rfl,q _ (I1.hok.fresh (Nat.le_refl _))⟩
 .obtain ⟨its,r',pl,hz⟩:=I.tuple hq
  exact call_tuple_same pl ⟨.ref p,H,I,rfl,q⟩
def tyV (K:W.Frag) (T:String) (x:V) (H:Hp):Prop:=match x with
 | .str _=>T = "str"
 | .int _=>T = "int"
 | .ref p=>(T = "list" /\ ∃ xs,SqL K H p xs)\/(T = "tuple" /\ ∃ o,K.lookup p=some o/\o.cls=.type "tuple" /\ o.dict=none) \/
   (T = "dict" /\ ((∃ kvs,H p=some (.dK kvs))\/∃ kvs,H p=some (.dT kvs)))\/(T = "set" /\ ∃ S n,H p=some (.set S n))
 | _=>False
theorem Zmv {pins:List (Addr×Obj)} {σ:St} {H:Hp} {s:Shared} {T:String} {x:V} {v:Value} (I:Inv X pins σ H s) (r:RelV x v) (ty:tyV X.K T x H) :
  s.TypeIs v T/\∀ a,v=.ref a->∃ ob,s.heap.get? a=some ob/\ob.dict=none:=by
 cases x with
 | str z =>
  obtain ⟨t,rfl⟩:=r
  cases (show T = "str" from ty)
  exact ⟨typeIs_str s z t,λ_ e=>nomatch e⟩
 | int i =>
  obtain ⟨t,rfl⟩:=r
  cases (show T = "int" from ty)
  exact ⟨typeIs_int s i t,λ_ e=>nomatch e⟩
 | ref p =>
  cases r
  rcases ty with ⟨rfl,xs,hq⟩ | ⟨rfl,o,hk,hc,hd⟩ | ⟨rfl,hk⟩ | ⟨rfl,S,n,hk⟩
  .obtain ⟨its,_,pl,_⟩:=I.list hq
   refine ⟨pl.isList.typeIs,λa e=>?_⟩
   cases e
   obtain ⟨o,n,e,c,hd,_⟩:=pl
   exact ⟨o,e,hd⟩
  .refine ⟨⟨o,I.kIn p o hk,hc⟩,λa e=>?_⟩
   cases e
   exact ⟨o,I.kIn _ o hk,hd⟩
  .have z:∃ o,s.heap.get? p=some o/\o.ExactDict:=by
    rcases hk with ⟨kvs,hk⟩ | ⟨kvs,hk⟩
    .obtain ⟨_,_,_,_,o,_,_,e,ex,_⟩:=I.hok p _ hk
     exact ⟨o,e,ex⟩
    .obtain ⟨_,_,_,_,o,_,_,e,ex,_⟩:=I.hok p _ hk
     exact ⟨o,e,ex⟩
   obtain ⟨o,e,ex⟩:=z
   refine ⟨⟨o,e,ex.1⟩,λa e2=>?_⟩
   cases e2
   exact ⟨o,e,ex.2.1⟩
  .obtain ⟨o,_,_,_,e,ex,_⟩:=I.hok p _ hk
   refine ⟨⟨o,e,ex.1⟩,λa e2=>?_⟩
   cases e2
   exact ⟨o,e,ex.2.1⟩
 | _=>exact False.elim ty
def tBM0 (K:W.Frag) (T:String) (r:V->List V->Hp->VK->Prop) (to:TE):TE:=λσ H Q=>to σ H λx H1=>tyV K T x H1/\r x [] H1 Q
def tBM (K:W.Frag) (T:String) (r:V->List V->Hp->VK->Prop) (to:TE) (t:TA):TE:=λσ H Q=>to σ H λx H1=>tyV K T x H1/\t σ H1 λxs H2=>r x xs H2 Q
variable {o e:Expr} {es:List Expr} {to:TE} {t:TA} {name:Str} {apos cpos:Pos} {T id:String} {r:V->List V->Hp->VK->Prop}
theorem Zoi (pa:PlainAttrs T) (slot:Slot T name id) (hty:typeOf (.builtin id)=pure (.type "method_descriptor")) (hm:MtR X id r) (ho:PE X o to)
  (hbase:attributeBase o name X.env (eval o X.env)=eval o X.env:=by rfl) (hline:(apos.endLine == cpos.line)=true:=by rfl):PE X (.Call (.Attribute o name apos) [] [] cpos) (tBM0 X.K T r to):=by
 intro pins s σ H Q I h
 refine wpAny_Call_method0_late hbase hline (thn (ho pins s σ H _ I h) λv s1 ⟨x,H1,I1,r1,ty,q1⟩=>?_)
 obtain ⟨h1,h2⟩:=Zmv I1 r1 ty
 exact ⟨T,id,pa,slot,hty,h1,h2,Calls.callWith_builtin rfl (PySem.evalArgs_none (hm pins s1 σ H1 x [] v [] Q I1 r1 .nil q1))⟩
theorem pe_bm (pa:PlainAttrs T) (slot:Slot T name id) (hty:typeOf (.builtin id)=pure (.type "method_descriptor")) (hm:MtR X id r) (ho:PE X o to) (ha:PA X (e :: es) t)
  (hbase:attributeBase o name X.env (eval o X.env)=eval o X.env:=by rfl)
  (hfew:((backTo cpos (starEach (e :: es) X.env)).all (λx=>!x.1) && (backToKw cpos (keywordEach [] X.env)).all (λx=>x.1.isSome)
   && decide ((e :: es).length+([]:List Keyword).length+(if ([]:List Keyword).isEmpty then 0 else 1)<30))=true:=by rfl)
  (hline:(apos.endLine == cpos.line)=true:=by rfl) (hs:starEach (e :: es) X.env=(false,eval e X.env) :: starEach es X.env:=by rfl) (hplain:(backTo cpos (starEach es X.env)).any (·.1)=false:=by rfl) :
  PE X (.Call (.Attribute o name apos) (e :: es) [] cpos) (tBM X.K T r to t):=by
 intro pins s σ H Q I h
 refine wpAny_Call_method_late hbase hfew hline rfl (thn (ho pins s σ H _ I h) λv s1 ⟨x,H1,I1,r1,ty,q1⟩=>?_)
 obtain ⟨h1,h2⟩:=Zmv I1 r1 ty
 refine ⟨T,id,pa,slot,hty,h1,h2,?_⟩
 have hA:=ha cpos pins s1 σ H1 _ I1 q1
 rw [hs] at hA ⊢
 refine Calls.callWith_builtin (by show (false || (backTo cpos (starEach es X.env)).any (·.1))=false; rw [hplain] <;> rfl) (Calls.evalArgs_plain ?_)
 exact thn hA λus s2 ⟨vs,H2,I2,r2,q2⟩=>hm pins s2 σ H2 x vs v us Q I2 r1 r2 q2
/- xs.append(e),list.index on a module's tuple .. are MtR facts of 06m -/
end
def MtM (X:Cx) (id:String) (r:V->List V->Hp->VK->Prop):Prop :=
 ∀ (pins:List (Addr×Obj)) (s:Shared) (σ:St) (H:Hp) (x:V) (xs:List V) (v:Value) (us:List Value) (Q:VK),Inv X pins σ H s->RelV x v->Vals xs us->r x xs H Q ->
  wpAny (model X.prog X.w) X.A (call (.builtin id) (v :: us)) (EP X pins σ Q) X.xe s
theorem Vals.one:∀ {x:V} {us:List Value},Vals [x] us->∃ u,us=[u]/\RelV x u
 | _,_,.cons r .nil=>⟨_,rfl,r⟩
theorem Vals.zero:∀ {us:List Value},Vals [] us->us=[]
 | _,.nil=>rfl
theorem Vals.reverse {xs:List V} {us:List Value} (h:Vals xs us):Vals xs.reverse us.reverse:=by
 induction h with
 | nil=>exact .nil
 | cons r t ih=>rw [List.reverse_cons,List.reverse_cons]; exact Vals.append ih (.cons r .nil)
section
variable {X:Cx} {pins:List (Addr×Obj)} {σ:St} {H:Hp} {s:Shared} {l b:Addr} {xs ys zs:List V}
theorem Inv.lset {its its':List Value} {n:Nat} {f:Array Value->Array Value} {t':Nat} (I:Inv X pins σ H s) (hH:H l=some (.lst xs))
  (e:s.heap.get? l=some { cls:=.type "list",data:=.seq its.toArray n }) (hf:f its.toArray=its'.toArray) (hv:Vals ys its') (hz:ys.length<=sizeLine) :
  Inv X pins σ (upd H l (.lst ys)) { s with heap:=s.heap.update l (Obj.mapSeq f),toks:=t' }:=by
 have q:=PySem.IsL.update e f
 rw [hf] at q
 refine I.write (x:=l) (e:=l) (by rw [hH]; exact trivial) (.inl rfl) (λb' u hb hu=>(Heap.get?_update_other s.heap (Obj.mapSeq f) (Ne.symm hb)).trans hu) ⟨_,q⟩ ?_
 exact ⟨hz,its',_,hv,q⟩
theorem Inv.lnew {its:List Value} {t':Nat} (I:Inv X pins σ H s) (hv:Vals ys its) (hz:ys.length<=sizeLine) :
  Inv X pins σ (upd H s.heap.objs.size (.lst ys)) { s with heap:=s.heap.push { cls:=.type "list",data:=.seq its.toArray },toks:=t' } :=
 I.laid (λ_ _ q=>Heap.get?_push_of_some _ q) (Nat.le_refl _) ⟨hz,its,0,hv,Heap.get?_push_size _ rfl⟩
theorem Inv.fresh (I:Inv X pins σ H s):H s.heap.objs.size=none:=I.hok.fresh (Nat.le_refl _)
theorem Inv.lstM (I:Inv X pins σ H s) (hH:H l=some (.lst xs)):xs.length<=sizeLine/\∃ (its:List Value) (n:Nat),Vals xs its/\xs.length=its.length/\s.heap.get? l=some { cls:=.type "list",data:=.seq its.toArray n }:=by
 obtain ⟨z,its,n,r,e⟩:=I.hok l _ hH
 exact ⟨z,its,n,r,r.length,e⟩
end
section
variable {X:Cx}
def Znh:V->List V->Hp->VK->Prop:=λx vs H Q=>∃ l xs y,x=.ref l/\vs=[y]/\H l=some (.lst xs)/\xs.length<sizeLine/\Q .non (upd H l (.lst (xs++[y])))
theorem Zbi:MtM X "list.append" Znh:=by
 intro pins s σ H x vs v us Q I rx rv h
 obtain ⟨l,xs,y,rfl,rfl,hH,hz,q⟩:=h
 cases rx
 obtain ⟨u,rfl,ru⟩:=rv.one
 obtain ⟨z,its,n,r,hl,e⟩:=I.lstM hH
 refine call_meets F.slot_list_append ⟨_,e,rfl⟩ F.entry_list_append (F.args_list_append_2 _ _) (PySem.list_append l its.toArray n u (by rw [List.size_toArray]; lia)) ⟨e,?_⟩
 refine ⟨.non,_,I.lset (its':=its++[u]) hH e (by simp) (r.append (.cons ru .nil)) ?_,rfl,q⟩
 rw [length_append,length_singleton]
 lia
def Zlx:V->List V->Hp->VK->Prop:=λx vs H Q=>∃ l xs,x=.ref l/\vs=[]/\H l=some (.lst xs)/\Q .non (upd H l (.lst xs.reverse))
theorem Zjq:MtM X "list.reverse" Zlx:=by
 intro pins s σ H x vs v us Q I rx rv h
 obtain ⟨l,xs,rfl,rfl,hH,q⟩:=h
 cases rx
 have hus:=rv.zero
 subst hus
 obtain ⟨z,its,n,r,hl,e⟩:=I.lstM hH
 refine call_meets F.slot_list_reverse ⟨_,e,rfl⟩ F.entry_list_reverse (F.args_list_reverse_1 _) (AutoSeq1.list_reverse_list_0 l its.toArray n (by rw [List.size_toArray]; lia)) ⟨e,?_⟩
 refine ⟨.non,_,I.lset (its':=its.reverse) hH e (by simp) r.reverse ?_,rfl,q⟩
 rw [List.length_reverse]
 lia
def rCat:R2:=λx y H Q=>∃ l b xs zs,x=.ref l/\y=.ref b/\H l=some (.lst xs)/\H b=some (.lst zs)/\xs.length+zs.length<=sizeLine/\∀ p,H p=none->Q (.ref p) (upd H p (.lst (xs++zs)))
theorem Zoj:OpR X (binaryOp .Add) rCat:=by
 intro pins s σ H x y v u Q I rx ry h
 obtain ⟨l,b,xs,zs,rfl,rfl,hH,hB,hz,q⟩:=h
 cases rx
 cases ry
 obtain ⟨z,its,n,r,hl,e⟩:=I.lstM hH
 obtain ⟨z2,its2,n2,r2,hl2,e2⟩:=I.lstM hB
 refine PySem.P.add_list e e2 ?_ (by rw [List.size_toArray,List.size_toArray]; lia)
 have ea:its.toArray++its2.toArray=(its++its2).toArray:=by simp
 rw [ea]
 exact ⟨.ref _,_,I.lnew (t':=s.toks) (r.append r2) (by rw [length_append]; lia),rfl,q _ I.fresh⟩
end
end L2
namespace Att
open PySem PySem.W PySem.Calls PyProof.Rows
theorem Zew {P:Params} {h:Heap}:∀ (ns:List Int) (vs:List Value),WellAll P h vs (ns.map WData.int)->IntsAre vs ns:=by
 intro ns
 induction ns with
 | nil =>
  intro vs w
  rw [map_nil] at w
  cases w
  exact .nil
 | cons n ns ih =>
  intro vs w
  rw [map_cons] at w
  cases w with
  | cons a b =>
   cases a
   exact .cons _ _ (ih _ b)
theorem ZjU {l:OpenLaw} {n:Nat} (hn:l.most=some n) {P:Params} {h:Heap} {args:List WData} {vals:List Value}
  (hpre:l.row.toRowW.claim.pre args=true) (hwl:WellAll P h vals args) :
  ∃ a vs ns,vals=[Value.ref a]/\args=[WData.list (ns.map WData.int)]/\h.get? a=some { cls:=.type "list",data:=.seq vs.toArray }/\IntsAre vs ns/\ns.length<=n:=by
 have hsh:WShape.hasAll [] args [.list .int]=true:=(pre_splitW hpre).1
 have hc:l.pre.holds [] { args:=args }=true:=(pre_splitW hpre).2
 obtain ⟨d,r,rfl,h1,h2⟩:=hasAllW_cons hsh
 obtain rfl:=hasAllW_nil h2
 obtain ⟨xs,rfl,h3⟩:=hasW_list h1
 obtain ⟨ns,rfl⟩:=items_int h3
 have hlen:ns.length<=n:=by
  unfold OpenLaw.pre at hc
  have h4:(WTm.not (.lt (.lit (.int (n:Int))) (.len (.arg 0)))).holds [] { args:=[.list (ns.map .int)] }=true:=by
   have h4:=(holds_andW hc).1
   rw [hn] at h4
   exact h4
  have h5:=condW_of h4 (w_not (w_lt w_lit (w_len_list (w_arg rfl))))
  rw [length_map] at h5
  refine Nat.le_of_not_lt λq=>?_
  have q':(n:Int)<((ns.length:Nat):Int):=by lia
  first
   | (rw [decide_eq_true q'] at h5; exact absurd h5 (by decide))
   | (simp at h5; lia)
 cases hwl with
 | cons w1 w2 =>
  cases w2
  cases w1 with
  | list ho hall=>exact ⟨_,_,ns,rfl,rfl,ho,Zew ns _ hall,hlen⟩
theorem ZjV (l:OpenLaw) (args:List WData):l.row.toRowW.claim.post args (.bool true) args=true :=
 postW_of (r:=l.row.toRowW) (X:=(true == true))
  (show WShape.has [] (.bool true) .bool=true by first | rfl | decide | simp [WShape.has,WShape.arms,WShape.armsAll])
  (show (WTm.eq .res (.lit (.bool true))).value [] { args:=args,res:=some (.bool true),after:=args }=some (.bool (true == true)) from w_eq_bool (w_res rfl) w_lit) rfl
theorem attach_call {l:OpenLaw} {n:Nat} {q:Program} {loose:List Str} {XP:(Str->Option Value)->Heap->Prop} {YP:World->Heap->Prop} {d:DefRec}
  (hn:l.most=some n) (hdf:d.params.defaults=[])
  (call:∀ (w:World) (s₀ s₁:Shared) (mg mb:Str->Option Value) (fa:Addr) (o:Obj) (pm cd doc:Value) (a:Addr) (vs:List Value) (ns:List Int),
   Ground q loose [] XP w s₀ mg mb s₁.heap->YP w s₁.heap ->
   s₁.heap.get? fa=some o->o.data=.func (docDef d.name d.params d.body d.scope pm cd doc)->s₁.heap.CodeRec cd d.name->mg d.name=some (.ref fa) ->
   s₁.heap.get? a=some { cls:=.type "list",data:=.seq vs.toArray }->IntsAre vs ns->ns.length<=n->s₁.gens=#[] ->
   codeAny (model l.prog w) callerA (.call (.ref fa) ⟨[.ref a],[]⟩) (λr s'=>r=.ok (.ret (.bool true))/\OldK s₁.heap s'.heap/\s'.os=s₁.os/\AllBare s'.gens) s₁) :
  WalkO q loose XP YP l.row.toRowW d [] (λf vs=>PySem.call f vs):=by
 intro w s₀ s₁ mg mb G Y fa o pm cd doc dV kV ho hd hcd hD hmg hg args vals as hpre hlay hrd hwl hlo
 obtain rfl:dV=.none:=Dflts.none hD hdf
 obtain rfl:kV=.none:=Dflts.noKw hD
 obtain ⟨a,vs,ns,rfl,rfl,hobj,hints,hlen⟩:=ZjU hn hpre hwl
 refine enter_call (codeAny_mono (call w s₀ s₁ mg mb fa o pm cd doc a vs ns G Y ho (fd_plain hd) hcd hmg hobj hints hlen hg) λr s' hq=>?_)
 obtain ⟨rfl,h2,h3,h4⟩:=hq
 exact ⟨.inl ⟨.bool true,.bool true,[],rfl,λ_=>rfl,.bool true,ZjV l _,λ_=>⟨List.Pairwise.nil,λ_ hm=>(nomatch hm)⟩⟩,h2,h3,h4⟩
end Att
namespace L2
open PySem PySem.Spec PyProof.Rows
theorem Zde:∀ {vs:List Value} {ns:List Int},IntsAre vs ns->Vals (ns.map V.int) vs
 | _,_,.nil=>.nil
 | _,_,.cons n t h=>.cons ⟨t,rfl⟩ (Zde h)
def Zq (s:Stmt) (j:Nat):Stmt:=match s with
 | .ClassDef _ _ _ body _ _ _ _ _ _ _=>body.getD j (.Pass ⟨0,0,0,0⟩)
 | _=>.Pass ⟨0,0,0,0⟩
def ZO (s:Stmt):Arguments:=match s with
 | .FunctionDef _ a _ _ _ _ _ _ _ _=>a
 | _=>{ posonlyargs:=[],args:=[],vararg:=none,kwonlyargs:=[],kw_defaults:=[],kwarg:=none,defaults:=[] }
def Zz (s:Stmt):List Stmt:=match s with
 | .FunctionDef _ _ b _ _ _ _ _ _ _=>b
 | _=>[]
def Zh (s:Stmt):Scope:=match s with
 | .FunctionDef _ _ _ _ _ _ sc _ _ _=>sc
 | _=>{ kind:=.function,names:=[],isGenerator:=false,isCoroutine:=false }
abbrev CX0:CXT:=λ_ _ _ _ _ _=>False
abbrev E0:XK:=λ_ _ _=>False
theorem pass0 {X:Cx}:Zeu CX0 X E0:=λ_ _ _ _ _ _ _ h=>h.elim
structure Fun (K:W.Frag) (x qual:Str) (st:Stmt) (f:Addr) (fd:FuncData):Prop where
 ex:∃ (oc:Value) (od:Option Addr) (kV doc pm:Value) (an:Option Addr) (cdv ct:Value) (osl:Array (Option Value)),
  fd=W.fnOf x qual (ZO st) (Zz st) (Zh st) .none kV doc pm an cdv ct/\K.lookup f=some ⟨oc,od,.func fd,osl⟩/\W.codeIn K cdv qual=true
 kp:W.keepIn K (.ref f)=true
section
variable {P:Program} {w:World} {K:W.Frag} {mg:Str->Option Value} {base:Heap}
theorem Fun.ok {x qual:Str} {st:Stmt} {f:Addr} {fd:FuncData} {N ps:List Str} {k:Nat} {sp:Sp} (F:Fun K x qual st f fd) (S:FnScope N ps (Zh st)) (len:∀ vs H Q E,sp vs H Q E->vs.length=ps.length)
  (hbody:∀ (cdv:Value) (A:Around) (outer:List Env) (s:Shared) (H:Hp) (vs:List V) (Q:VK) (E:XK),Room k (A.deeper (envOfC qual (Zh st) s.heap.objs.size f cdv))->sp vs H Q E ->
   ∃ t,PSs (cxOf CX0 P w K mg base N qual (Zh st) f cdv A outer s H E).nox (Zz st) t/\t { nx:=λ_ H'=>Q .non H',rt:=Q } (start N vs) H):FnOk P w K mg base CX0 (k+1) f fd ps sp:=by
 obtain ⟨oc,od,kV,doc,pm,an,cdv,ct,osl,rfl,lk,hcd⟩:=F.ex
 refine fn_of lk hcd S len λA outer s H vs Q E hr hsp=>?_
 obtain ⟨t,h,q⟩:=hbody cdv A outer s H vs Q E hr hsp
 exact ⟨t,h.nox,q⟩
theorem Fun.binds {x qual:Str} {st:Stmt} {f:Addr} {fd:FuncData} {ps:List Str} (F:Fun K x qual st f fd)
  (h:∀ (kV doc pm:Value) (an:Option Addr) (cdv ct:Value) (us:List Value),us.length=ps.length->bindArgs (W.fnOf x qual (ZO st) (Zz st) (Zh st) .none kV doc pm an cdv ct) ⟨us,[]⟩=pure (ps.zip us)):Binds K fd ps []:=by
 obtain ⟨oc,od,kV,doc,pm,an,cdv,ct,osl,rfl,lk,hcd⟩:=F.ex
 exact .all (h kV doc pm an cdv ct)
theorem Zdf {x qual:Str} {st:Stmt} {f:Addr} {oc:Value} {od an:Option Addr} {osl:Array (Option Value)} {kV doc pm cdv ct:Value} (l:K.lookup f=some ⟨oc,od,.func (W.fnOf x qual (ZO st) (Zz st) (Zh st) .none kV doc pm an cdv ct),osl⟩)
  (c:W.codeIn K cdv qual=true) (k:W.keepIn K (.ref f)=true):Fun K x qual st f (W.fnOf x qual (ZO st) (Zz st) (Zh st) .none kV doc pm an cdv ct):=⟨⟨oc,od,kV,doc,pm,an,cdv,ct,osl,rfl,l,c⟩,k⟩
end
theorem hu_of {A:Around} {k:Nat} (hr:Room k A):A.units+1<cLine:=Nat.lt_of_le_of_lt (Nat.add_le_add_left (by decide:1<=64) _) hr.units
theorem ZA {n:Nat} (h:n<=1000):n<sizeLine:=Nat.lt_of_le_of_lt h (by decide)
section
variable {X:Cx}
theorem pv (i:Nat) {x:Str} {pos:Pos} (hN:X.N[i]?=some x:=by rfl) (hv:Vis X.env.scope x:=by first | exact Or.inl rfl | exact Or.inr (Or.inl rfl) | exact Or.inr (Or.inr rfl)) (hd:(x == ("__debug__" : Str))=false:=by decide)
  (hcd:(x == ("__classdict__" : Str))=false:=by decide):PE X (.Name x pos) (tVar i):=ZnW hN hv hd hcd
end
def Same (H H':Hp):Prop:=∀ b o,H b=some o->H' b=some o
theorem Same.refl (H:Hp):Same H H:=λ_ _ h=>h
theorem Same.trans {H H1 H2:Hp} (a:Same H H1) (b:Same H1 H2):Same H H2:=λc o h=>b c o (a c o h)
theorem Same.free {H H':Hp} (e:Same H H') {l:Addr} (h:H' l=Option.none):H l=Option.none:=by
 cases q:H l with
 | none=>rfl
 | some o =>
  rw [e l o q] at h
  cases h
theorem Same.seq {K:W.Frag} {H H':Hp} {a:Addr} {xs:List V} (e:Same H H') (h:SqL K H a xs):SqL K H' a xs:=by
 rcases h with (h | ⟨o,h⟩) | h
 .exact .inl (.inl (e _ _ h))
 .exact .inl (.inr ⟨o,e _ _ h⟩)
 .exact .inr h
end L2
set_option maxHeartbeats 4000000
namespace L2
open PySem PySem.Spec PyProof.Rows
def cxIn (X:Cx) (N:List Str) (scope:Scope) (cl:List (Str×Addr)) (C:Addr) (s0:Shared) (H0:Hp) (fp:List Addr) (pins:List (Addr×Obj)):Cx :=
 { X with N:=N,s₀:=s0,H₀:=H0,env:=compEnvC scope cl C X.env,outer:=X.stack,stack:=X.stack,ex:=fp,fn:=λx=>scope.names.lookup x == some .cell,pn:=X.pn++pins,xe:=λ_ _=>False }
theorem Zbj {env:Env}:∀ (names:List (Str×NameKind)) (acc:List (Str×Addr)),(∀ p∈names,p.2=.free->∃ c,env.cells.lookup p.1=some c)->(∀ x c,acc.lookup x=some c->env.cells.lookup x=some c) ->
  ∃ cl,(forIn names acc λ(x:Str×NameKind) cs=>(match x with | (name,kind)=>if (kind == NameKind.free)=true then do let a ← cellOf env name; pure (ForInStep.yield ((name,a) :: cs)) else pure (ForInStep.yield cs):Sem (ForInStep (List (Str×Addr)))))=(pure cl:Sem (List (Str×Addr))) /\
   (∀ x c,cl.lookup x=some c->env.cells.lookup x=some c)/\(∀ x c,acc.lookup x=some c->cl.lookup x=some c)/\∀ p∈names,p.2=.free->∃ c,cl.lookup p.1=some c
 | [],acc,_,h=>⟨acc,rfl,h,λ_ _ e=>e,λ_ z=>nomatch z⟩
 | (n,k) :: r,acc,h,ha=>by
  by_cases hk:k=.free
  .subst hk
   obtain ⟨c,hc⟩:=h (n,.free) mem_cons_self rfl
   have ha':∀ x d,((n,c) :: acc).lookup x=some d->env.cells.lookup x=some d:=λx d e=>by
    rw [List.lookup_cons] at e
    cases q:x == n with
    | true =>
     rw [q] at e
     have hxn:x=n:=by simpa using q
     subst hxn
     cases e
     exact hc
    | false =>
     rw [q] at e
     exact ha x d e
   obtain ⟨cl,e1,e2,e3,e4⟩:=Zbj r ((n,c) :: acc) (λp hp=>h p (mem_cons_of_mem _ hp)) ha'
   have top:∃ d,cl.lookup n=some d:=⟨c,e3 n c (by rw [List.lookup_cons]; simp)⟩
   refine ⟨cl,?_,e2,λx d e=>?_,λp hp hf=>?_⟩
   .rw [List.forIn_cons]
    simp only [cellOf,hc,beq_self_eq_true,if_true]
    exact e1
   .cases q:x == n with
    | true =>
     have hxn:x=n:=by simpa using q
     subst hxn
     have z:=ha x d e
     rw [hc] at z; cases z
     exact e3 x c (by rw [List.lookup_cons]; simp)
    | false=>exact e3 x d (by rw [List.lookup_cons,q]; exact e)
   .rcases List.mem_cons.mp hp with rfl | hp
    .exact top
    .exact e4 p hp hf
  .obtain ⟨cl,e1,e2,e3,e4⟩:=Zbj r acc (λp hp=>h p (mem_cons_of_mem _ hp)) ha
   have hb:(k == NameKind.free)=false:=by simpa using hk
   refine ⟨cl,?_,e2,e3,λp hp hf=>?_⟩
   .rw [List.forIn_cons]
    simp only [hb,Bool.false_eq_true,if_false]
    exact e1
   .rcases List.mem_cons.mp hp with rfl | hp
    .exact absurd hf hk
    .exact e4 p hp hf
theorem Zex {α:Type} (f:Str->α->α) (x:Str):∀ l:List (Str×α),(l.map λp=>(p.1,f p.1 p.2)).lookup x=(l.lookup x).map (f x)
 | []=>rfl
 | (n,k) :: r=>by
  have ih:=Zex f x r
  rw [map_cons,List.lookup_cons,List.lookup_cons]
  cases q:x == n with
  | true =>
   have e:x=n:=by simpa using q
   subst e
   rfl
  | false=>exact ih
def Zey (env:Env) (n:Str) (k:NameKind):NameKind:=if (k == NameKind.free && env.scope.kind == .function && env.kindOf n == some .cell)=true then .cell else k
theorem ZdS (scope:Scope) (env:Env) (x:Str):(relabel scope env).names.lookup x=(scope.names.lookup x).map (Zey env x):=by
 rw [← Zex (Zey env) x scope.names]
 show (scope.names.map _).lookup x=_
 congr 1
 refine List.map_congr_left λp _=>?_
 show (if _ then _ else _)=_
 unfold Zey
 split <;> rfl
theorem ZdT (env:Env) (n:Str) (k:NameKind):Zey env n k=k\/(k=.free/\Zey env n k=.cell):=by
 unfold Zey
 by_cases h:(k == NameKind.free && env.scope.kind == .function && env.kindOf n == some .cell)=true
 .refine .inr ⟨?_,if_pos h⟩
  rw [Bool.and_eq_true,Bool.and_eq_true] at h
  exact beq_iff_eq.mp h.1.1
 .exact .inl (if_neg h)
theorem ZcP {scope:Scope} {env:Env} {x:Str} {k:NameKind} (h:scope.names.lookup x=some k) :
  (relabel scope env).names.lookup x=some k\/(k=.free/\(relabel scope env).names.lookup x=some .cell):=by
 rw [ZdS,h]
 rcases ZdT env x k with q | ⟨q,q'⟩
 .exact .inl (congrArg some q)
 .exact .inr ⟨q,congrArg some q'⟩
theorem ZgE {scope:Scope} {env:Env} {x:Str} {k:NameKind} (h:(relabel scope env).names.lookup x=some k):∃ k',scope.names.lookup x=some k'/\(k'=k\/k'=.free):=by
 rw [ZdS] at h
 cases q:scope.names.lookup x with
 | none=>rw [q] at h; cases h
 | some k' =>
  rw [q] at h
  have h':Zey env x k'=k:=Option.some.inj h
  rcases ZdT env x k' with z | ⟨z,_⟩
  .exact ⟨k',rfl,.inl (z.symm.trans h')⟩
  .exact ⟨k',rfl,.inr z⟩
theorem ZU {α:Type} {x:Str}:∀ {l:List (Str×α)} {k:α},l.lookup x=some k->(x,k)∈l
 | [],_,h=>by simp at h
 | (n,k) :: r,k',h=>by
  rw [List.lookup_cons] at h
  cases hx:x == n with
  | true =>
   rw [hx] at h; cases h
   have:x=n:=by simpa using hx
   subst this
   exact mem_cons_self
  | false =>
   rw [hx] at h
   exact mem_cons_of_mem _ (ZU h)
theorem ZjW {prog:Program} {w:World} {A:Around} {s:Shared} {elt target iter:PySem.Expr} {ifs:List PySem.Expr} {scope:Scope} {pos:Pos} {it acc:Value} {env:Env} {R:Result->Shared->Prop} (I:Nat->Shared->Prop)
  (turn:∀ n s,I n s->wpAny (model prog w) A (pyNext it) (λr s1=>match r with
   | none=>R (.ok .next) s1
   | some v=>wpAny (model prog w) A (letOwnedTupleGo target it v) (λ_ s0=>wpAny (model prog w) A (assign target env v) (λ_ s2 =>
     wpAny (model prog w) A (forIn ifs true λc r=>if r=true then do let ok ← isTrue c env (eval c env); pure (ForInStep.yield ok) else pure (ForInStep.yield r)) (λok s3 =>
      if ok=true then wpAny (model prog w) A (eval elt env) (λx s4 =>
       wpAny (model prog w) A (call (.builtin "list.append") [acc,x]) (λ_ s5=>∃ m,m<n/\I m s5) (λ_ _=>False) s4) (λ_ _=>False) s3
      else ∃ m,m<n/\I m s3) (λ_ _=>False) s2) (λ_ _=>False) s0) (λ_ _=>False) s1) (λ_ _=>False) s)
  (n:Nat) (h:I n s):codeAny (model prog w) A (.compLoop (.ListComp elt [⟨target,iter,ifs,0⟩] scope pos) 0 it acc env) R s:=by
 have body:∀ n s,I n s->wpAny (model prog w) A (compTurn (.ListComp elt [⟨target,iter,ifs,0⟩] scope pos) 0 it acc env)
   (λfin s'=>match fin with | .done f=>R (.ok f) s' | .again c=>c=.compLoop (.ListComp elt [⟨target,iter,ifs,0⟩] scope pos) 0 it acc env/\∃ m,m<n/\I m s') (λ_ _=>False) s:=λn s hI=>by
  rw [compTurn_list]
  refine wpAny_bind (wpAny_standAt (wpAny_bind (thn (turn n s hI) λr s1 h1=>?_)))
  cases r with
  | none=>exact wpAny_pure h1
  | some v =>
   refine wpAny_bind (thn h1 λ_ s0 h0=>wpAny_bind (thn h0 λ_ s2 h2=>wpAny_bind (thn h2 λok s3 h3=>?_)))
   cases ok with
   | true=>exact wpAny_bind (wpAny_bind (thn h3 λx s4 h4=>wpAny_bind (thn h4 λ_ s5 h5=>wpAny_pure (wpAny_pure ⟨rfl,h5⟩))))
   | false=>exact wpAny_pure ⟨rfl,h3⟩
 exact codeAny_loop rfl I (λn s hI=>wpAny_noted (wpAny_mono (body n s hI) (λ_ _ q=>q) λ_ _ q=>q.elim)) n h
def tComp (own:Nat) (js:List Nat) (wi:TI) (g:TG) (tc:TT) (te:TE):TE:=λσ H Q=>wi σ H λJ H1=>∀ l,H1 l=none ->
 ∃ W:Nat->Nat->List V->St->Hp->Prop,(∃ m,W 0 m [] (List.replicate own none++js.map λj=>(σ[j]?).join) (upd H1 l (.lst [])))/\∀ i m ys σ' H',W i m ys σ' H' ->
  (J.stop i H'/\Q (.ref l) H')\/(J.go i H'/\∀ x H2,J.yld i H' x H2->g x σ' H2 λσ2 H3=>tc σ2 H3 λb H4 =>
   if b=true then te σ2 H4 λy H5=>H5 l=some (.lst ys)/\ys.length<sizeLine/\∃ m',m'<m/\W (i+1) m' (ys++[y]) σ2 (upd H5 l (.lst (ys++[y])))
   else ∃ m',m'<m/\W (i+1) m' ys σ2 H4)
def tTrue:TT:=λ_ H Q=>Q true H
structure CompOk (X:Cx) (scope:Scope) (N:List Str) (own:Nat) (js:List Nat):Prop where
 kind:scope.kind=.function
 cell:∀ y∈scope.names,y.2=.cell->scope.names.lookup y.1=some .cell
 names:∀ y∈scope.names,y.2=.local->scope.names.lookup y.1=some .local
 free:∀ y∈scope.names,y.2=.free->X.env.kindOf y.1=some .cell\/X.env.kindOf y.1=some .free
 len:N.length=own+js.length
 js:∀ k j,js[k]?=some j->N[own+k]?=X.N[j]?
 jf:∀ k x,N[own+k]?=some x->scope.names.lookup x=some .free
theorem Un.but {fs ex:List Addr} {H H':Hp} {h h1 h2:Heap} {C:Addr} (u:Un fs ex H H' h h1) (hc:h.objs.size<=C) (sb:∀ b o,b≠C->h1.get? b=some o->h2.get? b=some o):Un fs ex H H' h h2:=by
 have ne:∀ b o,h.get? b=some o->b≠C:=λb o e=>Nat.ne_of_lt (Nat.lt_of_lt_of_le (Heap.lt_size e) hc)
 refine ⟨λb o q n hb hx=>sb b o (ne b o q) (u.keep b o q n hb hx),λb o q n hb hx=>?_,u.free,λb o q hx=>?_,u.tups,u.frzs,u.tbls⟩
 .obtain ⟨sl,e⟩:=u.slot b o q n hb hx
  exact ⟨sl,sb b _ (ne b o q) e⟩
 .obtain ⟨o',e⟩:=u.there b o q hx
  exact ⟨o',sb b o' (ne b o q) e⟩
theorem Zez:∀ (names:List (Str×NameKind)) (n:Nat) (acc:List (Str×Addr)),cellsFrom n names acc=cellsFrom n names []++acc
 | [],_,_=>rfl
 | (x,k) :: r,n,acc=>by
  unfold cellsFrom
  by_cases hk:(k == NameKind.cell)=true
  .rw [if_pos hk,if_pos hk,Zez r (n+1) ((x,n) :: acc),Zez r (n+1) [(x,n)],append_assoc]
   rfl
  .rw [if_neg hk,if_neg hk]
   exact Zez r n acc
theorem Zhy:∀ (names:List (Str×NameKind)) (n:Nat) (x:Str) (c:Addr),(x,c)∈cellsFrom n names []->(x,NameKind.cell)∈names
 | [],_,_,_,h=>nomatch h
 | (y,k) :: r,n,x,c,h=>by
  unfold cellsFrom at h
  by_cases hk:(k == NameKind.cell)=true
  .rw [if_pos hk,Zez] at h
   rcases List.mem_append.mp h with q | q
   .exact mem_cons_of_mem _ (Zhy r _ x c q)
   .have e:(x,c)=(y,n):=by simpa using q
    cases e
    have hk':k=.cell:=by simpa using hk
    subst hk'
    exact mem_cons_self
  .rw [if_neg hk] at h
   exact mem_cons_of_mem _ (Zhy r _ x c h)
theorem Zdg {α:Type}:∀ {l:List (Str×α)} {x:Str} {c:α},(x,c)∈l->∃ d,l.lookup x=some d
 | (y,v) :: r,x,c,h=>by
  rw [List.lookup_cons]
  cases q:x == y with
  | true=>exact ⟨v,rfl⟩
  | false =>
   rcases List.mem_cons.mp h with e | e
   .cases e; simp at q
   .exact Zdg e
theorem ZjX:∀ (names:List (Str×NameKind)) (n:Nat) (x:Str),(x,NameKind.cell)∈names->∃ c,(x,c)∈cellsFrom n names []
 | [],_,_,h=>nomatch h
 | (y,k) :: r,n,x,h=>by
  unfold cellsFrom
  rcases List.mem_cons.mp h with e | e
  .cases e
   rw [if_pos (show (NameKind.cell == NameKind.cell)=true from rfl),Zez]
   exact ⟨n,mem_append_right _ (by simp)⟩
  .by_cases hk:(k == NameKind.cell)=true
   .rw [if_pos hk,Zez]
    obtain ⟨c,q⟩:=ZjX r (n+1) x e
    exact ⟨c,mem_append_left _ q⟩
   .rw [if_neg hk]
    exact ZjX r n x e
theorem Zfq {α:Type}:∀ (l m:List (Str×α)) (x:Str),(l++m).lookup x=match l.lookup x with | some c=>some c | none=>m.lookup x
 | [],m,x=>rfl
 | (y,v) :: r,m,x=>by
  rw [List.cons_append,List.lookup_cons,List.lookup_cons]
  cases x == y with
  | true=>rfl
  | false=>exact Zfq r m x
theorem ZgF {M:Model} {A:Around} {E:Value->Shared->Prop} {s:Shared} {scope:Scope} {globals:Addr} {cl:List (Str×Addr)} {qual:Str} {env:Env} {Q:Env->Shared->Prop}
  (h:Q (newEnv scope s.heap.objs.size globals (cellsFrom (s.heap.objs.size+1) scope.names cl) qual none .none (some env) builtinsNs) { s with heap:=pushCells (s.heap.push { cls:=.type "dict",data:=.dict #[] }) scope.names }) :
  wpAny M A (newFunctionEnv scope globals cl [] qual none .none (some env)) Q E s:=by
 simp only [newFunctionEnv,Option.isSome_some,if_true]
 refine wpAny_bind (wpAny_alloc (wpAny_bind (wpAny_layCells _ (λname kind cells=>by cases hkc:kind == NameKind.cell <;> simp [hkc]) _ _ _ _ ?_)))
 rw [show ({ s with heap:=s.heap.push { cls:=.type "dict",data:=.dict #[] } }:Shared).heap.objs.size=s.heap.objs.size+1 from Heap.size_push ..]
 rw [List.forIn_nil]
 exact wpAny_bind (wpAny_pure (wpAny_pure h))
structure CellsIn (X:Cx) (scope:Scope) (cl':List (Str×Addr)) (n:Nat) (h':Heap):Prop where
 k1:∀ x c,cl'.lookup x=some c->X.env.cells.lookup x=some c\/(n<c/\h'.IsCell c none/\(x,NameKind.cell)∈scope.names)
 k2:∀ x,scope.names.lookup x=some .free->∃ c,cl'.lookup x=some c/\X.env.cells.lookup x=some c
 k3:∀ p∈scope.names,p.2=.cell\/p.2=.free->∃ c,cl'.lookup p.1=some c
 k4:∀ x y c,cl'.lookup x=some c->cl'.lookup y=some c->x=y
 k5:∀ x c,scope.names.lookup x=some .cell->cl'.lookup x=some c->n<c
section
variable {X:Cx} {scope:Scope} {N:List Str} {own:Nat} {js:List Nat}
theorem Zjr {cl:List (Str×Addr)} {n:Nat} {h0:Heap} (c:CompOk X scope N own js) (cl1:∀ x c,cl.lookup x=some c->X.env.cells.lookup x=some c) (cl2:∀ p∈scope.names,p.2=.free->∃ c,cl.lookup p.1=some c)
  (inj:∀ x y c,X.env.cells.lookup x=some c->X.env.cells.lookup y=some c->x=y) (lt:∀ x c,X.env.cells.lookup x=some c->c<n) (hn:h0.objs.size=n+1):CellsIn X scope (cellsFrom (n+1) scope.names cl) n (pushCells h0 scope.names):=by
 have ok:=cellsFrom_ok scope.names h0 (n+1) [] ⟨λ_ _ hm=>(nomatch hm),List.Pairwise.nil⟩ (by rw [hn]; exact Nat.le_refl _)
 rw [hn] at ok
 have two:∀ x,(cellsFrom (n+1) scope.names cl).lookup x=match (cellsFrom (n+1) scope.names []).lookup x with | some c=>some c | none=>cl.lookup x:=λx=>by
  rw [Zez,Zfq]
  cases (cellsFrom (n+1) scope.names []).lookup x <;> rfl
 have own':∀ x d,(cellsFrom (n+1) scope.names []).lookup x=some d->(pushCells h0 scope.names).IsCell d none/\n<d/\(x,NameKind.cell)∈scope.names:=λx d e =>
  ⟨(ok.empty x d (mem_of_lookup e)).1,(ok.empty x d (mem_of_lookup e)).2,Zhy _ _ x d (mem_of_lookup e)⟩
 have part:∀ x d,(cellsFrom (n+1) scope.names cl).lookup x=some d->(cellsFrom (n+1) scope.names []).lookup x=some d\/((cellsFrom (n+1) scope.names []).lookup x=none/\cl.lookup x=some d):=λx d e=>by
  rw [two] at e
  cases q:(cellsFrom (n+1) scope.names []).lookup x with
  | some d'=>rw [q] at e; exact .inl e
  | none=>rw [q] at e; exact .inr ⟨rfl,e⟩
 have has:∀ x,(x,NameKind.cell)∈scope.names->∃ d,(cellsFrom (n+1) scope.names []).lookup x=some d:=λx m=>by
  obtain ⟨d,q⟩:=ZjX scope.names (n+1) x m
  exact Zdg q
 refine ⟨λx d e=>?_,λx e=>?_,λp hp hk=>?_,λx y d e1 e2=>?_,λx d e1 e2=>?_⟩
 .rcases part x d e with q | ⟨_,q⟩
  .exact .inr ⟨(own' x d q).2.1,(own' x d q).1,(own' x d q).2.2⟩
  .exact .inl (cl1 x d q)
 .obtain ⟨d,q⟩:=cl2 _ (ZU e) rfl
  have no:(cellsFrom (n+1) scope.names []).lookup x=none:=by
   cases z:(cellsFrom (n+1) scope.names []).lookup x with
   | none=>rfl
   | some d' =>
    have y:=c.cell _ (own' x d' z).2.2 rfl
    rw [show scope.names.lookup x=_ from e] at y
    cases y
  exact ⟨d,by rw [two,no]; exact q,cl1 x d q⟩
 .rw [two]
  cases z:(cellsFrom (n+1) scope.names []).lookup p.1 with
  | some d'=>exact ⟨d',rfl⟩
  | none =>
   rcases hk with hk | hk
   .obtain ⟨d,q⟩:=has p.1 (by rw [← hk]; exact hp)
    rw [z] at q; cases q
   .exact cl2 p hp hk
 .rcases part x d e1 with q1 | ⟨_,q1⟩
  .rcases part y d e2 with q2 | ⟨_,q2⟩
   .exact name_of_addr ok.apart (mem_of_lookup q1) (mem_of_lookup q2)
   .exact absurd (Nat.lt_trans (own' x d q1).2.1 (lt y d (cl1 y d q2))) (Nat.lt_irrefl _)
  .rcases part y d e2 with q2 | ⟨_,q2⟩
   .exact absurd (Nat.lt_trans (own' y d q2).2.1 (lt x d (cl1 x d q1))) (Nat.lt_irrefl _)
   .exact inj x y d (cl1 x d q1) (cl1 y d q2)
 .obtain ⟨d',q⟩:=has x (ZU e1)
  rw [two,q] at e2
  cases e2
  exact (own' x d q).2.1
theorem Zjs {pins:List (Addr×Obj)} {σ:St} {H:Hp} {s:Shared} {cl:List (Str×Addr)} {fp:List Addr} {h':Heap} {t':Nat} (c:CompOk X scope N own js) (I:Inv X pins σ H s) (hf:∀ b∈fp,FpOk X pins H b)
  (fo:∀ b∈fp,b<s.heap.objs.size)
  (ci:CellsIn X scope cl s.heap.objs.size h')
  (hn:h'.Ns s.heap.objs.size (λ_=>none)) (hk:∀ b o,s.heap.get? b=some o->h'.get? b=some o) :
  Inv (cxIn X N scope cl s.heap.objs.size s H fp pins) [] (List.replicate own none++js.map λj=>(σ[j]?).join) H { s with heap:=h',toks:=t' }:=by
 have cne:∀ x c,cl.lookup x=some c->c≠s.heap.objs.size:=λx c e=>by
  rcases ci.k1 x c e with q | ⟨q,_⟩
  .obtain ⟨v,q⟩:=I.cell x c q
   exact Nat.ne_of_lt q.lt
  .exact Nat.ne_of_gt q
 have ok:(cxIn X N scope cl s.heap.objs.size s H fp pins).Ok:=by
  refine ⟨I.ok.mod,c.kind,I.ok.glob,I.ok.blt,Nat.le_refl _,ci.k4,λx hx=>?_,λx d z e=>Nat.le_of_lt (ci.k5 x d (beq_iff_eq.mp (show (scope.names.lookup x == some .cell)=true from z)) e),I.ok.hd,I.ok.frames,.inl rfl,λb hb=>⟨Nat.ne_of_lt (fo b hb),λx d e=>(ci.k1 x d e).elim (λq=>(hf b hb).2.2.2.2.1 x d q) λq=>Nat.ne_of_gt (Nat.lt_trans (fo b hb) q.1)⟩,I.bs,
   Nat.le_trans I.ok.bsz I.sz,λb o e hb=>?_,λb hb z=>?_,I.stack,I.stkFree⟩
  .have back:∀ k,(relabel scope X.env).names.lookup x=some k->k=.cell\/k=.free->∃ k',(x,k')∈scope.names/\(k'=NameKind.cell\/k'=NameKind.free):=λk e hk=>by
    obtain ⟨k',e',z⟩:=ZgE e
    refine ⟨k',ZU e',?_⟩
    rcases z with z | z
    .subst z; exact hk
    .exact .inr z
   obtain ⟨k',m,hk'⟩:∃ k',(x,k')∈scope.names/\(k'=NameKind.cell\/k'=NameKind.free):=by
    rcases hx with hx | hx
    .exact back _ hx (.inl rfl)
    .exact back _ hx (.inr rfl)
   exact ci.k3 _ m hk'
  .rcases (hf b hb).2.2.2.1 with z | z
   .exact I.ok.noex b o e z
   .exact absurd (Nat.lt_of_lt_of_le (Nat.lt_of_lt_of_le (Heap.lt_size e) I.ok.bsz) z) (Nat.lt_irrefl _)
  .rcases List.mem_cons.mp (I.stkSub b z) with q | q
   .exact (hf b hb).2.1 q
   .exact (hf b hb).2.2.1 q
 refine ⟨ok,rfl,I.bare,Un.kept hk,⟨_,hn,λi x v e1 e2 e3=>?_⟩,λx d e=>?_,I.hok.fresh (Nat.le_refl _),λx d e=>(ci.k1 x d e).elim (λq=>I.freeC x d q) λq=>I.hok.fresh (Nat.le_of_lt q.1),λp hp=>?_,I.hok.kept hk,?_⟩
 .-- a name with a value is one that the block closes over
  have hi:own<=i:=by
   by_cases hi:i<own
   .rw [getElem?_append_left (by simpa using hi),List.getElem?_replicate] at e2
    split at e2 <;> cases e2
   .lia
  obtain ⟨k,rfl⟩:∃ k,i=own+k:=⟨i - own,by lia⟩
  rw [getElem?_append_right (by simp),List.length_replicate,Nat.add_sub_cancel_left,getElem?_map] at e2
  cases q:js[k]? with
  | none=>rw [q] at e2; cases e2
  | some j =>
   rw [q] at e2
   have e2':(σ[j]?).join=some v:=by simpa using e2
   have e4:σ[j]?=some (some v):=by
    cases z:σ[j]? with
    | none=>rw [z] at e2'; cases e2'
    | some o=>rw [z] at e2'; rw [show o=some v from e2']
   have e1':N[own+k]?=some x:=e1
   have hXN:X.N[j]?=some x:=(c.js k j q).symm.trans e1'
   have hfr:=c.jf k x e1'
   have hmem:=ZU hfr
   have hk2:=c.free _ hmem rfl
   have vis:Vis X.env.scope x:=by
    rcases hk2 with z | z
    .exact .inr (.inl z)
    .exact .inr (.inr z)
   obtain ⟨m,_,hl⟩:=I.loc
   obtain ⟨u,r,l⟩:=hl j x v hXN e4 vis
   refine ⟨u,r,?_⟩
   rcases l with ⟨z,_⟩ | ⟨_,d,e,⟨od,ho,hd⟩⟩
   .rcases hk2 with y | y
    .rw [show X.env.kindOf x=_ from z] at y; cases y
    .rw [show X.env.kindOf x=_ from z] at y; cases y
   .obtain ⟨d',e',z'⟩:=ci.k2 x hfr
    have:d'=d:=by have z:=z'; rw [e] at z; exact (Option.some.inj z).symm
    subst this
    refine .inr ⟨?_,d',e',⟨od,hk _ _ ho,hd⟩⟩
    rcases ZcP (scope:=scope) (env:=X.env) hfr with z | ⟨_,z⟩
    .exact .inr z
    .exact .inl z
 .rcases ci.k1 x d e with q | ⟨_,q,_⟩
  .obtain ⟨v,⟨o,ho,hd⟩⟩:=I.cell x d q
   exact ⟨v,o,hk _ _ ho,hd⟩
  .exact ⟨none,q⟩
 .have hp':p∈X.pn++pins:=by
   have z:p∈(X.pn++pins)++[]:=hp
   rwa [append_nil] at z
  obtain ⟨a1,a2,a3,a4,a5⟩:=I.pin p hp'
  refine ⟨hk _ _ a1,a2,Nat.ne_of_lt (Heap.lt_size a1),λz=>?_,a5⟩
  rcases List.mem_cons.mp (I.stkSub p.1 z) with q | q
  .exact a3 q
  .exact a4 q
 .show _=N.length
  rw [c.len]; simp
theorem Zfr {pins:List (Addr×Obj)} {σ:St} {H:Hp} {s:Shared} {elt target iter:PySem.Expr} {ifs:List PySem.Expr} {pos:Pos} {it:Addr} {fp:List Addr} {tn:Nat->Heap->Prop} {J:It} {cl:List (Str×Addr)} {g:TG} {tc:TT} {te:TE} {E:Value->Shared->Prop} {Q:VK}
  {RR:Value->Addr->Result->Shared->Prop}
  (c:CompOk X scope N own js) (hc:X.calm=true) (I:Inv X pins σ H s) (T:Turn X.prog X.w X.K target J fp it tn) (st:tn 0 s.heap) (hf:∀ b∈fp,FpOk X pins H b)
  (cl1:∀ x c,cl.lookup x=some c->X.env.cells.lookup x=some c) (cl2:∀ p∈scope.names,p.2=.free->∃ c,cl.lookup p.1=some c)
  (hg:∀ cl C s0 H0 fp pins,PG (cxIn X N scope cl C s0 H0 fp pins) target g)
  (ht:∀ cl C s0 H0 fp pins pins' s σ H Q,Inv (cxIn X N scope cl C s0 H0 fp pins) pins' σ H s->tc σ H Q->wpAny (model X.prog X.w) X.A (forIn ifs true λc r=>if r=true then do let ok ← isTrue c (compEnvC scope cl C X.env) (eval c (compEnvC scope cl C X.env)); pure (ForInStep.yield ok) else pure (ForInStep.yield r))
   (TP (cxIn X N scope cl C s0 H0 fp pins) pins' σ Q) (λ_ _=>False) s)
  (he:∀ cl C s0 H0 fp pins,PE (cxIn X N scope cl C s0 H0 fp pins) elt te)
  (h:∀ l,H l=none->∃ W:Nat->Nat->List V->St->Hp->Prop,(∃ m,W 0 m [] (List.replicate own none++js.map λj=>(σ[j]?).join) (upd H l (.lst [])))/\∀ i m ys σ' H',W i m ys σ' H' ->
   (J.stop i H'/\Q (.ref l) H')\/(J.go i H'/\∀ x H2,J.yld i H' x H2->g x σ' H2 λσ2 H3=>tc σ2 H3 λb H4 =>
    if b=true then te σ2 H4 λy H5=>H5 l=some (.lst ys)/\ys.length<sizeLine/\∃ m',m'<m/\W (i+1) m' (ys++[y]) σ2 (upd H5 l (.lst (ys++[y])))
    else ∃ m',m'<m/\W (i+1) m' ys σ2 H4))
  (hRR:∀ l C H' s' m',s.heap.objs.size<=C->s'.heap.Ns C m'->H' C=none->C≠X.env.locals->C∉X.fs->(∀ h2,Heap.SameBut C s'.heap h2->Inv X pins σ H' { s' with heap:=h2 })->Q (.ref l) H'->RR (.ref l) C (.ok .next) s') :
  wpAny (model X.prog X.w) X.A (newList []) (λacc s3=>wpAny (model X.prog X.w) X.A (newFunctionEnv scope X.env.globals cl [] X.env.qual none .none (some X.env)) (λcenv s4 =>
   codeAny (model X.prog X.w) X.A (.compStart (.ListComp elt [⟨target,iter,ifs,0⟩] scope pos) 0 (.ref it) acc { cenv with scope:=relabel scope X.env }) (RR acc cenv.locals) s4) E s3) E s:=by
 have I2:Inv X pins σ (upd H s.heap.objs.size (.lst [])) { s with heap:=s.heap.push { cls:=.type "list",dict:=none,data:=.seq ([]:List Value).toArray },toks:=s.toks }:=I.lnew (ys:=[]) .nil (Nat.zero_le _)
 obtain ⟨W,⟨m0,w0⟩,turn⟩:=h s.heap.objs.size I.fresh
 refine wpAny_newObj_type (ZgF ?_)
 dsimp only
 generalize hS:({ s with heap:=s.heap.push { cls:=.type "list",dict:=none,data:=.seq ([]:List Value).toArray },toks:=s.toks }:Shared)=s2 at I2
 have e2:s2.heap=s.heap.push { cls:=.type "list",dict:=none,data:=.seq ([]:List Value).toArray }:=by rw [← hS]
 have sz2:s2.heap.objs.size=s.heap.objs.size+1:=by rw [e2,Heap.size_push]
 rw [← e2]
 have ci:=Zjr (h0:=s2.heap.push { cls:=.type "dict",data:=.dict #[] }) (n:=s2.heap.objs.size) c cl1 cl2 I2.ok.inj (λx d e=>by obtain ⟨v,q⟩:=I2.cell x d e; exact q.lt) (Heap.size_push ..)
 have hns1':(pushCells (s2.heap.push { cls:=.type "dict",data:=.dict #[] }) scope.names).Ns s2.heap.objs.size (λ_=>none):=(Heap.Ns.new s2.heap (.type "dict")).keeps (pushCells_keeps _ _)
 have old:∀ b o,s2.heap.get? b=some o->(pushCells (s2.heap.push { cls:=.type "dict",data:=.dict #[] }) scope.names).get? b=some o:=λb o e=>pushCells_keeps _ _ b o (Heap.get?_push_of_some _ e)
 generalize pushCells (s2.heap.push { cls:=.type "dict",data:=.dict #[] }) scope.names=h1 at ci hns1' old ⊢
 generalize hcl:cellsFrom (s2.heap.objs.size+1) scope.names cl=cl' at ci ⊢
 have lt1:∀ b,b∈fp->b<s.heap.objs.size:=λb hb=>by
  obtain ⟨o,e,_⟩:=T.obj 0 _ st b hb
  exact Heap.lt_size e
 have hf2:∀ b∈fp,FpOk X pins (upd H s.heap.objs.size (.lst [])) b:=λb hb=>⟨by rw [Zc (Nat.ne_of_lt (lt1 b hb))]; exact (hf b hb).1,(hf b hb).2⟩
 have lt2:∀ b∈fp,b<s2.heap.objs.size:=λb hb=>by rw [sz2]; exact Nat.lt_succ_of_lt (lt1 b hb)
 have st2:tn 0 s2.heap:=T.keep 0 _ _ st λb _ o e=>by rw [e2]; exact Heap.get?_push_of_some _ e
 have I4:=Zjs (t':=s.toks) c I2 hf2 lt2 ci hns1' old
 have st4:tn 0 h1:=T.keep 0 _ _ st2 λb _ o e=>old b o e
 have es:({ s2 with heap:=h1,toks:=s.toks }:Shared)={ s with heap:=h1,toks:=s.toks }:=by rw [← hS]
 rw [es] at I4
 generalize hs4:({ s with heap:=h1,toks:=s.toks }:Shared)=s4 at I4
 have st4':tn 0 s4.heap:=by rw [← hs4]; exact st4
 have loop:codeAny (model X.prog X.w) X.A (.compLoop (.ListComp elt [⟨target,iter,ifs,0⟩] scope pos) 0 (.ref it) (.ref s.heap.objs.size) (compEnvC scope cl' s2.heap.objs.size X.env)) (RR (.ref s.heap.objs.size) s2.heap.objs.size) s4:=by
  refine ZjW (λn s'=>∃ i ys σ' H',Inv (cxIn X N scope cl' s2.heap.objs.size s2 (upd H s.heap.objs.size (.lst [])) fp pins) [] σ' H' s'/\tn i s'.heap/\(∀ b∈fp,H' b=none)/\W i n ys σ' H') ?_ m0
   ⟨0,[],_,_,I4,st4',λb hb=>(hf2 b hb).1,w0⟩
  rintro n s5 ⟨i,ys,σ5,H5,I5,st5,fr5,w5⟩
  have stat:∀ {H':Hp} {s':Shared} {σ':St},Inv (cxIn X N scope cl' s2.heap.objs.size s2 (upd H s.heap.objs.size (.lst [])) fp pins) [] σ' H' s'->(∀ b∈fp,H' b=none)->∀ b∈fp,FpOk (cxIn X N scope cl' s2.heap.objs.size s2 (upd H s.heap.objs.size (.lst [])) fp pins) [] H' b:=λJ' hn b hb =>
   ⟨hn b hb,(J'.ok.exf b hb).1,J'.ok.exfs b hb,.inl hb,(J'.ok.exf b hb).2,λp hp z=>by
    have hp':p∈X.pn++pins:=by
     have q:p∈(X.pn++pins)++[]:=hp
     rwa [append_nil] at q
    exact (hf b hb).2.2.2.2.2 p hp' z⟩
  rcases turn i n ys σ5 H5 w5 with ⟨stop,q⟩ | ⟨go,step⟩
  .refine wpAny_mono (T.done (cxIn X N scope cl' s2.heap.objs.size s2 (upd H s.heap.objs.size (.lst [])) fp pins) rfl rfl rfl hc i [] s5 σ5 H5 (λ_ _=>False) I5 (stat I5 fr5) st5 stop) (λr s6 ⟨hr,I6⟩=>?_) λ_ _ z=>z
   subst hr
   obtain ⟨m',hn',_⟩:=I6.loc
   have hC:s.heap.objs.size<=s2.heap.objs.size:=by rw [sz2]; exact Nat.le_succ _
   refine hRR _ _ H5 s6 m' hC hn' I6.free ?_ ?_ (λh2 sb=>?_) q
   .exact Nat.ne_of_gt I2.lt
   .exact I2.nofs (Nat.le_refl _)
   .have u:Un (frs X.stack) fp (upd H s.heap.objs.size (.lst [])) H5 s2.heap h2:=I6.base.but (Nat.le_refl _) sb.extBut
    have z6:H5 s2.heap.objs.size=none:=I6.free
    have hok:HOk X.prog X.w H5 h2:=λb ob e=>(I6.hok b ob e).stay (λd w' hd z=>sb.extBut d w' (by
     rintro rfl
     rcases hd with rfl | hd
     .rw [z6] at e; cases e
     .rw [z6] at hd; cases hd) z) (λ_ z=>z) λ_ _ z=>z
    have J:=I2.call' (s':={ s6 with heap:=h2 }) (ch:=fp) (by show s6.os=s2.os; exact I6.os) u hok I6.bare λb hb=>⟨(hf b hb).2.2.2.1,(hf b hb).2.1,(hf b hb).2.2.2.2.1,(hf b hb).2.2.2.2.2⟩
    exact J
  .refine wpAny_mono (T.item (cxIn X N scope cl' s2.heap.objs.size s2 (upd H s.heap.objs.size (.lst [])) fp pins) rfl rfl rfl hc i [] s5 σ5 H5 (λ_ _=>False) I5 (stat I5 fr5) st5 go) (λr s6 ⟨u,hr,h6⟩=>?_) λ_ _ z=>z
   subst hr
   refine wpAny_mono h6 (λ_ s7 ⟨x,H7,I7,r7,y7,st7,fr7⟩=>?_) λ_ _ z=>z
   have I7':=I7.pinned (stat I7 fr7) (T.obj _ _ st7)
   refine wpAny_mono (hg _ _ _ _ _ _ _ s7 σ5 H7 x u _ I7' r7 (step x H7 y7)) (λ_ s8 ⟨σ8,H8,I8,q8⟩=>?_) λ_ _ z=>z
   refine wpAny_mono (ht _ _ _ _ _ _ _ s8 σ8 H8 _ I8 q8) (λb s9 ⟨H9,I9,q9⟩=>?_) λ_ _ z=>z
   have fin:∀ {s':Shared} {H':Hp} {m':Nat} {ys':List V},Inv (cxIn X N scope cl' s2.heap.objs.size s2 (upd H s.heap.objs.size (.lst [])) fp pins) ([]++Zgu fp s7.heap) σ8 H' s'->m'<n->W (i+1) m' ys' σ8 H' ->
     ∃ m,m<n/\∃ i ys σ' H',Inv (cxIn X N scope cl' s2.heap.objs.size s2 (upd H s.heap.objs.size (.lst [])) fp pins) [] σ' H' s'/\tn i s'.heap/\(∀ b∈fp,H' b=none)/\W i m ys σ' H':=λ{s' H' m' ys'} J' hm w'=>by
    refine ⟨m',hm,i+1,ys',σ8,H',J'.unpinned,T.keep _ _ _ st7 λb hb o e=>(J'.pin (b,o) (mem_append_right _ (mem_append_right _ (ZcB hb e)))).1,λb hb=>?_,w'⟩
    obtain ⟨o,e,d⟩:=T.obj _ _ st7 b hb
    exact (J'.pin (b,o) (mem_append_right _ (mem_append_right _ (ZcB hb e)))).2.1
   cases b with
   | false =>
    rw [if_neg Bool.false_ne_true] at q9 ⊢
    obtain ⟨m',hm,w'⟩:=q9
    exact fin I9 hm w'
   | true =>
    rw [if_pos rfl] at q9 ⊢
    refine wpAny_mono (he _ _ _ _ _ _ _ s9 σ8 H9 _ I9 q9) (λy s10 ⟨z,H10,I10,r10,el,ez,m',hm,w'⟩=>?_) λ_ _ z=>z
    refine wpAny_mono (Zbi (X:=cxIn X N scope cl' s2.heap.objs.size s2 (upd H s.heap.objs.size (.lst [])) fp pins) _ s10 σ8 H10 (.ref s.heap.objs.size) [z] _ [y] (λ_ H'=>H'=upd H10 s.heap.objs.size (.lst (ys++[z]))) I10 rfl (.cons r10 .nil) ⟨_,_,_,rfl,rfl,el,ez,rfl⟩) (λ_ s11 ⟨_,H11,I11,_,e11⟩=>?_) λ_ _ z=>z
    subst e11
    exact fin I11 hm w'
 have fin:codeAny (model X.prog X.w) X.A (.compStart (.ListComp elt [⟨target,iter,ifs,0⟩] scope pos) 0 (.ref it) (.ref s.heap.objs.size) (compEnvC scope cl' s2.heap.objs.size X.env)) (RR (.ref s.heap.objs.size) s2.heap.objs.size) s4 :=
  codeAny_compStart_list loop (T.self X.A 0 s4 _ _ st4' loop)
 exact fin
theorem Zly {elt target iter:PySem.Expr} {ifs:List PySem.Expr} {pos:Pos} {wi:TI} {g:TG} {tc:TT} {te:TE} (c:CompOk X scope N own js) (hc:X.calm=true) (hi:PI X target iter wi)
  (hg:∀ cl C s0 H0 fp pins,PG (cxIn X N scope cl C s0 H0 fp pins) target g)
  (ht:∀ cl C s0 H0 fp pins pins' s σ H Q,Inv (cxIn X N scope cl C s0 H0 fp pins) pins' σ H s->tc σ H Q->wpAny (model X.prog X.w) X.A (forIn ifs true λc r=>if r=true then do let ok ← isTrue c (compEnvC scope cl C X.env) (eval c (compEnvC scope cl C X.env)); pure (ForInStep.yield ok) else pure (ForInStep.yield r))
   (TP (cxIn X N scope cl C s0 H0 fp pins) pins' σ Q) (λ_ _=>False) s)
  (he:∀ cl C s0 H0 fp pins,PE (cxIn X N scope cl C s0 H0 fp pins) elt te)
  (hs:∀ x,foldedSetIterable iter X.env x=pure x:=by intro _; rfl):PE X (.ListComp elt [⟨target,iter,ifs,0⟩] scope pos) (tComp own js wi g tc te):=by
 intro pins s σ H Q I h
 obtain ⟨cl,e1,cl1,_,cl2⟩:=Zbj (env:=X.env) scope.names [] (λp hp hf=>I.ok.has _ (c.free p hp hf)) (λx d e=>by simp at e)
 have hclos:closureFor scope X.env=pure cl:=by
  unfold closureFor
  refine (congrArg (λz=>z >>= λcs=>pure cs) e1).trans ?_
  rfl
 rw [eval_ListComp]
 refine wpAny_comprehension_free (use:=none) rfl hs hclos c.kind c.names (wpAny_mono (hi pins s σ H _ I h) (λx s1 h1=>wpAny_mono h1 (λitv s2 h2=>?_) λ_ _ e=>e) λ_ _ e=>e)
 obtain ⟨it,fp,tn,J,H2,e,I2,T,st2,f2,q⟩:=h2
 subst e
 refine Zfr (Q:=Q) (RR:=λacc C=>compPost (model X.prog X.w) X.A X.xe none (EP X pins σ Q) acc C) c hc I2 T st2 f2 cl1 cl2 hg ht he q ?_
 intro l C H' s' m' hC hn hf hL hfs hI hq
 exact ⟨m',hn,λh2 sb=>⟨.ref l,H',hI h2 sb,rfl,hq⟩⟩
theorem Zlz {elt target iter:PySem.Expr} {ifs:List PySem.Expr} {pos pos' spos:Pos} {y:Str} {k:Nat} {wi:TI} {g:TG} {tc:TT} {te:TE} (c:CompOk X scope N own js) (hc:X.calm=true) (hN:X.N.Nodup) (hk:X.N[k]?=some y) (hy:X.env.scope.names.lookup y=some .local) (hi:PI X target iter wi)
  (hg:∀ cl C s0 H0 fp pins,PG (cxIn X N scope cl C s0 H0 fp pins) target g)
  (ht:∀ cl C s0 H0 fp pins pins' s σ H Q,Inv (cxIn X N scope cl C s0 H0 fp pins) pins' σ H s->tc σ H Q->wpAny (model X.prog X.w) X.A (forIn ifs true λc r=>if r=true then do let ok ← isTrue c (compEnvC scope cl C X.env) (eval c (compEnvC scope cl C X.env)); pure (ForInStep.yield ok) else pure (ForInStep.yield r))
   (TP (cxIn X N scope cl C s0 H0 fp pins) pins' σ Q) (λ_ _=>False) s)
  (he:∀ cl C s0 H0 fp pins,PE (cxIn X N scope cl C s0 H0 fp pins) elt te)
  (hs:∀ x,foldedSetIterable iter X.env x=pure x:=by intro _; rfl)
  (hsw:swapsWith (.ListComp elt [⟨target,iter,ifs,0⟩] scope pos) (some (.Name y pos')) spos.line X.env=pure true:=by rfl):PS X (.Assign [.Name y pos'] (.ListComp elt [⟨target,iter,ifs,0⟩] scope pos) spos) (tAsg (tComp own js wi g tc te) (gName k)):=by
 intro pins s σ H D I h
 obtain ⟨cl,e1,cl1,_,cl2⟩:=Zbj (env:=X.env) scope.names [] (λp hp hf=>I.ok.has _ (c.free p hp hf)) (λx d e=>by simp at e)
 have hclos:closureFor scope X.env=pure cl:=by
  unfold closureFor
  refine (congrArg (λz=>z >>= λcs=>pure cs) e1).trans ?_
  rfl
 rw [exec_Assign_Name_used _ _ _ _ hsw]
 refine wpAny_bind (wpAny_standAt (wpAny_bind ?_))
 show wpAny _ X.A (do let _ ← comprehension (.ListComp elt [⟨target,iter,ifs,0⟩] scope pos) scope X.env _ (newList []) false (eval iter X.env) (some (assign (.Name y pos') X.env))) _ _ s
 refine wpAny_bind (wpAny_mono (wpAny_comprehension_free (use:=some (assign (.Name y pos') X.env)) (Q:=λ_ s'=>SP X pins D .next s') rfl hs hclos c.kind c.names
  (wpAny_mono (hi pins s σ H _ I h) (λxv s1 h1=>wpAny_mono h1 (λit s2 h2=>?_) λ_ _ e=>e) λ_ _ e=>e)) (λ_ s' hq=>wpAny_pure (wpAny_pure hq)) λ_ _ e=>e)
 obtain ⟨it,fp,tn,J,H2,e,I2,T,st2,f2,q⟩:=h2
 subst e
 refine Zfr (Q:=λx H1=>gName k x σ H1 D.nx) (RR:=λacc C=>compPost (model X.prog X.w) X.A X.xe (some (assign (.Name y pos') X.env)) (λ_ s'=>SP X pins D .next s') acc C) c hc I2 T st2 f2 cl1 cl2 hg ht he q ?_
 intro l C H' s' m' hC hn hf hL hfs hI hq
 have J0:=hI s'.heap (Heap.SameBut.refl ..)
 show wpAny _ X.A (assign (.Name y pos') X.env (.ref l)) _ _ _
 have J1:Inv X pins σ H' s':=J0
 refine wpAny_assign_Name (Zgr (v:=.ref l) J1 hN hk (.inl hy) rfl (λs'' I'' hsb=>?_) (.inr hy))
 obtain ⟨a,sb,ha⟩:=hsb
 have hne:C≠a:=by
  rcases ha with rfl | ha
  .exact hL
  .rintro rfl
   obtain ⟨v,⟨o,ho,hd⟩⟩:=J1.cell y C ha
   obtain ⟨o',es,ep,ho',hd',_⟩:=hn
   rw [ho] at ho'; cases ho'
   rw [hd] at hd'; cases hd'
 refine ⟨m',hn.sameBut sb hne,λh2 sb2=>?_⟩
 have hok:HOk X.prog X.w H' h2:=λb ob e=>(I''.hok b ob e).stay (λd w' hd z=>sb2.extBut d w' (by
  rintro rfl
  rcases hd with rfl | hd
  .rw [hf] at e; cases e
  .rw [hf] at hd; cases hd) z) (λ_ z=>z) λ_ _ z=>z
 have cne:∀ x d,X.env.cells.lookup x=some d->d≠C:=λx d e z=>by
  subst z
  obtain ⟨v,⟨o,ho,hd⟩⟩:=J1.cell x d e
  obtain ⟨o',es,ep,ho',hd',_⟩:=hn
  rw [ho] at ho'; cases ho'
  rw [hd] at hd'; cases hd'
 have hpn:∀ p∈X.pn++pins,p.1≠C:=λp hp z=>by
  have a1:=(I2.pin p hp).1
  exact absurd (Nat.lt_of_lt_of_le (Heap.lt_size a1) (by rw [z]; exact hC)) (Nat.lt_irrefl _)
 have fin:Inv X pins (σ.set k (some (.ref l))) H' { s'' with heap:=h2 }:=I''.turned (t':=s''.toks) (it:=C) (λb o hb e=>sb2.extBut b o hb e) hf hL (.inr (Nat.le_trans I2.sz hC)) cne hpn
 exact ⟨_,H',fin,hq⟩
theorem ZbA {elt target iter:PySem.Expr} {pos:Pos} {wi:TI} {g:TG} {te:TE} (c:CompOk X scope N own js) (hc:X.calm=true) (hi:PI X target iter wi)
  (hg:∀ cl C s0 H0 fp pins,PG (cxIn X N scope cl C s0 H0 fp pins) target g) (he:∀ cl C s0 H0 fp pins,PE (cxIn X N scope cl C s0 H0 fp pins) elt te)
  (hs:∀ x,foldedSetIterable iter X.env x=pure x:=by intro _; rfl):PE X (.ListComp elt [⟨target,iter,[],0⟩] scope pos) (tComp own js wi g tTrue te) :=
 Zly c hc hi hg (λcl C s0 H0 fp pins pins' s σ H Q I h=>wpAny_tests_nil ⟨H,I,h⟩) he hs
theorem Zik {elt target iter:PySem.Expr} {pos pos' spos:Pos} {y:Str} (k:Nat) {wi:TI} {g:TG} {te:TE} (c:CompOk X scope N own js) (hc:X.calm=true) (hN:X.N.Nodup) (hk:X.N[k]?=some y) (hy:X.env.scope.names.lookup y=some .local) (hi:PI X target iter wi)
  (hg:∀ cl C s0 H0 fp pins,PG (cxIn X N scope cl C s0 H0 fp pins) target g) (he:∀ cl C s0 H0 fp pins,PE (cxIn X N scope cl C s0 H0 fp pins) elt te)
  (hs:∀ x,foldedSetIterable iter X.env x=pure x:=by intro _; rfl)
  (hsw:swapsWith (.ListComp elt [⟨target,iter,[],0⟩] scope pos) (some (.Name y pos')) spos.line X.env=pure true:=by rfl):PS X (.Assign [.Name y pos'] (.ListComp elt [⟨target,iter,[],0⟩] scope pos) spos) (tAsg (tComp own js wi g tTrue te) (gName k)) :=
 Zlz c hc hN hk hy hi hg (λcl C s0 H0 fp pins pins' s σ H Q I h=>wpAny_tests_nil ⟨H,I,h⟩) he hs hsw
end
section
variable {X:Cx} {pins:List (Addr×Obj)} {σ:St} {H:Hp} {s:Shared}
theorem HOk.offCh {P:Program} {w:World} {h h':Heap} {ch:List Addr} (hok:HOk P w H h) (hn:∀ b∈ch,H b=none) (k:∀ b o,b∉ch->h.get? b=some o->h'.get? b=some o):HOk P w H h':=λb ob e =>
 (hok b ob e).stay (λd u hd z=>k d u (λm=>by
  rcases hd with rfl | hd
  .rw [hn _ m] at e; cases e
  .rw [hn _ m] at hd; cases hd) z) (λ_ z=>z) λ_ _ z=>z
theorem Inv.turnedCh {ch:List Addr} {h':Heap} {t':Nat} (I:Inv X pins σ H s) (hch:∀ b∈ch,FpOk X pins H b) (k:∀ b o,b∉ch->s.heap.get? b=some o->h'.get? b=some o) :
  Inv X pins σ H { s with heap:=h',toks:=t' }:=by
 have u:Un (frs X.stack) ch H H s.heap h':=⟨λb o q _ _ hx=>k b o hx q,λb o q _ _ hx=>⟨o.slots,k b o hx q⟩,λ_ _ _ n _=>n,λb o q hx=>⟨o,k b o hx q⟩,λ_ _ q=>q,λ_ _ _ q=>q,λ_ _ _ q=>q⟩
 exact I.call (g':=s.gens) (d':=s.drawn) (t':=t') u (I.hok.offCh (λb hb=>(hch b hb).1) k) I.bare λb hb=>⟨(hch b hb).2.2.2.1,(hch b hb).2.1,(hch b hb).2.2.2.2.1,(hch b hb).2.2.2.2.2⟩
theorem Inv.laidCh {ch:List Addr} {h':Heap} {t':Nat} {o:HO} (I:Inv X pins σ H s) (hch:∀ b∈ch,FpOk X pins H b) (k:∀ b o,b∉ch->s.heap.get? b=some o->h'.get? b=some o)
  (new:ObjOk X.prog X.w (upd H s.heap.objs.size o) h' s.heap.objs.size o):Inv X pins σ (upd H s.heap.objs.size o) { s with heap:=h',toks:=t' }:=by
 have fr:H s.heap.objs.size=none:=I.hok.fresh (Nat.le_refl _)
 have ne:∀ b ob,s.heap.get? b=some ob->b≠s.heap.objs.size:=λb ob e=>Nat.ne_of_lt (Heap.lt_size e)
 have nt:∀ b ob,H b=some ob->b≠s.heap.objs.size:=λb ob e=>Ze e fr
 have u:Un (frs X.stack) ch H (upd H s.heap.objs.size o) s.heap h':=⟨λb o q _ _ hx=>k b o hx q,λb o q _ _ hx=>⟨o.slots,k b o hx q⟩,λb ob q n _=>by rw [Zc (ne b ob q)]; exact n,λb o q hx=>⟨o,k b o hx q⟩,
  λb xs q=>by rw [Zc (nt b _ q)]; exact q,λb ob xs q=>by rw [Zc (nt b _ q)]; exact q,λb _ _ q=>by rw [Zc (nt b _ q)]; exact q⟩
 have hok:HOk X.prog X.w (upd H s.heap.objs.size o) h':=λb ob e=>by
  by_cases hb:b=s.heap.objs.size
  .subst hb
   rw [Za] at e; cases e
   exact new
  .rw [Zc hb] at e
   refine (I.hok b ob e).stay (λd u hd z=>k d u (λm=>?_) z) (λd z=>by rw [Zc (nt d _ z)]; exact z) (λd xs z=>by rw [Zc (nt d _ z)]; exact z) λd oz z=>by rw [Zc (nt d _ z)]; exact z
   have hn:=(hch d m).1
   rcases hd with rfl | hd
   .rw [hn] at e; cases e
   .rw [hn] at hd; cases hd
 exact I.call (g':=s.gens) (d':=s.drawn) (t':=t') u hok I.bare λb hb=>⟨(hch b hb).2.2.2.1,(hch b hb).2.1,(hch b hb).2.2.2.2.1,(hch b hb).2.2.2.2.2⟩
end
theorem nne {a b:Nat} (h:a<b\/b<a):@Ne Addr a b:=λe=>by
 have e':a=b:=e
 lia
theorem ZeA (n l1 l2:Nat) (h1:l1<n) (h2:l2<n):ZipApart (n+4) (n+2) (n+3) n (n+1) l1 l2 :=
 ⟨nne (by lia),nne (by lia),nne (by lia),nne (by lia),nne (by lia),nne (by lia),nne (by lia),nne (by lia),nne (by lia),nne (by lia),nne (by lia),nne (by lia),nne (by lia),nne (by lia),nne (by lia),nne (by lia),nne (by lia),nne (by lia)⟩
def Itz (K:W.Frag) (a b:Addr):It :=
 ⟨λi H=>∃ xs ys x y,SqL K H a xs/\SqL K H b ys/\xs[i]?=some x/\ys[i]?=some y,
 λi H v H'=>∃ t x y,H t=none/\v=.ref t/\H'=upd H t (.tup [x,y])/\(∀ xs,SqL K H a xs->xs[i]?=some x)/\∀ ys,SqL K H b ys->ys[i]?=some y,
 λi H=>∃ xs ys,SqL K H a xs/\SqL K H b ys/\(xs.length<=i\/ys.length<=i)⟩
theorem Zek {h:Heap} {it l:Addr} {i:Nat} (x:h.IsListIter it l i):∃ o,h.get? it=some o/\∀ v,o.data≠.cell v:=by
 obtain ⟨o,e,c,d⟩:=x
 exact ⟨o,e,λv z=>by rw [d] at z; cases z⟩
theorem Zil {P:Program} {w:World} {K:W.Frag} {elts:List PySem.Expr} {x1} {pos:Pos} (z TI TO i1 i2 a b:Addr) (D:ZipApart z TI TO i1 i2 a b) :
  Turn P w K (.Tuple elts x1 pos) (Itz K a b) [z,TI,TO,i1,i2] z (λi h=>IsZip h z TI TO .none/\IsPair h TI (.ref i1) (.ref i2)/\(∃ u v,IsPair h TO u v)/\h.IsListIter i1 a i/\h.IsListIter i2 b i) where
 mem:=by simp
 obj:=λi h st c hc=>by
  obtain ⟨hz,hTI,⟨u,v,hTO⟩,h1,h2⟩:=st
  simp only [mem_cons,not_mem_nil,or_false] at hc
  rcases hc with rfl | rfl | rfl | rfl | rfl
  .exact ⟨_,hz,λv e=>by cases e⟩
  .exact ⟨_,hTI,λv e=>by cases e⟩
  .exact ⟨_,hTO,λv e=>by cases e⟩
  .exact Zek h1
  .exact Zek h2
 keep:=λi h h' st k=>by
  obtain ⟨hz,hTI,⟨u,v,hTO⟩,h1,h2⟩:=st
  exact ⟨k z (by simp) _ hz,k TI (by simp) _ hTI,⟨u,v,k TO (by simp) _ hTO⟩,h1.at λo e=>k i1 (by simp) o e,h2.at λo e=>k i2 (by simp) o e⟩
 item:=by
  intro X hP hw hK hc i pins s σ H E I hf st hg
  subst hP hw hK
  obtain ⟨xs,ys,x,y,hqa,hqb,hx,hy⟩:=hg
  obtain ⟨hz,hTI,⟨u0,v0,hTO⟩,h1,h2⟩:=st
  obtain ⟨itsa,ra,pa,za⟩:=I.list hqa
  obtain ⟨itsb,rb,pb,zb⟩:=I.list hqb
  obtain ⟨ux,hux,rux⟩:=ra.get hx
  obtain ⟨uy,huy,ruy⟩:=rb.get hy
  refine wpAny_pyNext_zip_item D hz hTI hTO h1 h2 pa.isList pb.isList (x:=ux) (y:=uy) (by simpa using hux) (by simpa using huy) λh' a1 a2 a3 a4 a5 a6 a7=>?_
  refine ⟨.ref s.heap.objs.size,rfl,?_⟩
  refine wpAny_letOwnedTupleGo_zip a1 λh2' hz' hs'=>?_
  have hzlt:z<s.heap.objs.size:=Heap.lt_size hz
  have kk:∀ c o,c∉[z,TI,TO,i1,i2]->s.heap.get? c=some o->h2'.get? c=some o:=λc o hc e=>by
   simp only [mem_cons,not_mem_nil,or_false,not_or] at hc
   exact hs'.extBut c o hc.1 (a7 c o hc.1 hc.2.2.1 hc.2.2.2.1 hc.2.2.2.2 e)
  have tp:h2'.get? s.heap.objs.size=some { cls:=.type "tuple",data:=.seq #[ux,uy] }:=hs'.extBut _ _ (Nat.ne_of_gt hzlt) a5
  have I1:Inv X pins σ (upd H s.heap.objs.size (.tup [x,y])) { s with heap:=h2',toks:=s.toks } :=
   I.laidCh hf kk ⟨by show 2<=sizeLine; decide,[ux,uy],.cons rux (.cons ruy .nil),⟨_,tp,rfl,_,rfl⟩⟩
  have TIk:h2'.get? TI=s.heap.get? TI:=by
   rw [hTI]
   exact hs'.extBut _ _ D.TIz (a7 _ _ D.TIz D.TITO D.TIi1 D.TIi2 hTI)
  refine ⟨.ref s.heap.objs.size,_,I1,rfl,⟨s.heap.objs.size,x,y,I.hok.fresh (Nat.le_refl _),rfl,rfl,λxs' h=>by rw [I.list_inj h hqa]; exact hx,λys' h=>by rw [I.list_inj h hqb]; exact hy⟩,⟨hz',?_,⟨ux,uy,hs'.extBut _ _ D.TOz a2⟩,a3.at λo e=>hs'.extBut _ o D.i1z e,a4.at λo e=>hs'.extBut _ o D.i2z e⟩,λc hc=>?_⟩
  .show h2'.get? TI=_
   rw [TIk]; exact hTI
  .have hc':=hc
   have hlt:c<s.heap.objs.size:=by
    simp only [mem_cons,not_mem_nil,or_false] at hc'
    rcases hc' with rfl | rfl | rfl | rfl | rfl
    .exact hzlt
    .exact Heap.lt_size hTI
    .exact Heap.lt_size hTO
    .obtain ⟨o,e,_⟩:=Zek h1; exact Heap.lt_size e
    .obtain ⟨o,e,_⟩:=Zek h2; exact Heap.lt_size e
   rw [Zc (Nat.ne_of_lt hlt)]
   exact (hf c hc).1
 done:=by
  intro X hP hw hK hc i pins s σ H E I hf st hg
  subst hP hw hK
  obtain ⟨xs,ys,hqa,hqb,hend⟩:=hg
  obtain ⟨hz,hTI,⟨u0,v0,hTO⟩,h1,h2⟩:=st
  obtain ⟨itsa,ra,pa,za⟩:=I.list hqa
  obtain ⟨itsb,rb,pb,zb⟩:=I.list hqb
  have la:=ra.length
  have lb:=rb.length
  refine wpAny_pyNext_zip_end (I.ok.hd hc) D hz hTI hTO h1 h2 pa.isList pb.isList ?_ λh' hk=>⟨rfl,?_⟩
  .rcases hend with q | q
   .exact .inl (by simp; lia)
   .exact .inr (by simp; lia)
  .refine I.turnedCh (t':=s.toks) hf λc o hc e=>?_
   simp only [mem_cons,not_mem_nil,or_false,not_or] at hc
   exact hk c o hc.1 hc.2.2.1 hc.2.2.2.1 hc.2.2.2.2 e
 self:=λ_ _ _ _ _ st h=>wpAny_pyIter_zip st.1 h
def iZip (K:W.Frag) (ta:TA):TI:=λσ H R=>ta σ H λvs H1=>∃ a b,vs=[.ref a,.ref b]/\(∃ xs,SqL K H1 a xs)/\(∃ ys,SqL K H1 b ys)/\R (Itz K a b) H1
section
variable {X:Cx}
theorem Zim:bootBuiltins "zip" = some (.type "zip"):=by first | rfl | decide +kernel | kernel_rfl
theorem Zfb:bootBuiltins "enumerate" = some (.type "enumerate"):=by first | rfl | decide +kernel | kernel_rfl
theorem Zok {elts:List PySem.Expr} {x1} {tpos:Pos} {a b:PySem.Expr} {ta:TA} {p pos:Pos} (hg:Gl X "zip") (hm:X.mg "zip" = none) (ha:PA X [a,b] ta) (hs:starEach [a,b] X.env=[(false,eval a X.env),(false,eval b X.env)]:=by rfl) (hs2:starEach [b] X.env=[(false,eval b X.env)]:=by rfl) :
  PI X (.Tuple elts x1 tpos) (.Call (.Name "zip" p) [a,b] [] pos) (iZip X.K ta):=by
 intro pins s σ H R I h
 refine Call_ (Zbw I hg hm Zim (PyProof.Rows.callWith_type1 (thA (ha pos pins s σ H _ I h) λus s1 vs H1 I1 r1 q1=>?_) (by rw [hs,hs2]) (by rw [hs2]; rfl)))
 obtain ⟨l1,l2,e,⟨xs,hqa⟩,⟨ys,hqb⟩,q⟩:=q1
 subst e
 obtain ⟨v1,v2,rfl,r,r'⟩:=vals2 r1
 cases r
 cases r'
 obtain ⟨itsa,ra,pa,za⟩:=I1.list hqa
 obtain ⟨itsb,rb,pb,zb⟩:=I1.list hqb
 have lt1:l1<s1.heap.objs.size:=by obtain ⟨o,e,_⟩:=pa.isList; exact Heap.lt_size e
 have lt2:l2<s1.heap.objs.size:=by obtain ⟨o,e,_⟩:=pb.isList; exact Heap.lt_size e
 refine call_zip_2 pa.isList pb.isList λh' g5 g3 g4 g1 g2 hsz kp=>wpAny_pyIter_zip g5 ?_
 refine ⟨_,[_,_,_,_,_],_,_,H1,rfl,I1.kept (t':=s1.toks) kp,Zil _ _ _ _ _ l1 l2 (ZeA s1.heap.objs.size l1 l2 lt1 lt2),⟨g5,g3,⟨_,_,g4⟩,g1,g2⟩,λc hc=>?_,q⟩
 have hc':s1.heap.objs.size<=c:=by
  simp only [mem_cons,not_mem_nil,or_false] at hc
  rcases hc with rfl | rfl | rfl | rfl | rfl <;> first | exact Nat.le_refl _ | exact Nat.le_add_right _ _
 exact I1.fpOk hc' (I1.hok.fresh hc')
def Ite (K:W.Frag) (a:Addr):It :=
 ⟨λi H=>∃ xs x,SqL K H a xs/\xs[i]?=some x,
 λi H v H'=>∃ t x,H t=none/\v=.ref t/\H'=upd H t (.tup [.int i,x])/\∀ xs,SqL K H a xs->xs[i]?=some x,
 λi H=>∃ xs,SqL K H a xs/\xs.length=i⟩
theorem ZjY {P:Program} {w:World} {K:W.Frag} {elts:List PySem.Expr} {x1} {pos:Pos} (e it a:Addr) (hei:e≠it) (hae:a≠e) (hai:a≠it) :
  Turn P w K (.Tuple elts x1 pos) (Ite K a) [e,it] e (λi h=>(∃ old,IsEnum h e it i old)/\h.IsListIter it a i) where
 mem:=by simp
 obj:=λi h st c hc=>by
  obtain ⟨⟨old,he⟩,h1⟩:=st
  simp only [mem_cons,not_mem_nil,or_false] at hc
  rcases hc with rfl | rfl
  .exact ⟨_,he,λv z=>by cases z⟩
  .obtain ⟨o,q,c,d⟩:=h1; exact ⟨o,q,λv z=>by rw [d] at z; cases z⟩
 keep:=λi h h' st k=>by
  obtain ⟨⟨old,he⟩,h1⟩:=st
  exact ⟨⟨old,k e (by simp) _ he⟩,h1.at λo q=>k it (by simp) o q⟩
 item:=by
  intro X hP hw hK hc i pins s σ H E I hf st hg
  subst hP hw hK
  obtain ⟨xs,x,hq,hx⟩:=hg
  obtain ⟨⟨old,he⟩,h1⟩:=st
  obtain ⟨its,rv,p,hz⟩:=I.list hq
  obtain ⟨u,hu,ru⟩:=rv.get hx
  have hlt:i<its.toArray.size:=by
   have:=(List.getElem?_eq_some_iff.mp hu).1
   simpa using this
  refine wpAny_pyNext_enum_itemD (Draws.list (A:=X.A.in1) (show X.A.in1.handled=none from I.ok.hd hc) it a hai its.toArray) he ⟨h1,p.isList⟩ hlt hei (by simp [hei,Ne.symm hae]) λv h' tk hP ho hs' hT hsz hk=>?_
  have hP':v=u:=by
   have z:its[i]?=some v:=by simpa using hP
   rw [hu] at z; exact (Option.some.inj z).symm
  subst hP'
  refine ⟨.ref s.heap.objs.size,rfl,?_⟩
  refine wpAny_letOwnedTupleGo_enum ho λh2 he2 sb2=>?_
  have helt:e<s.heap.objs.size:=Heap.lt_size he
  have kk:∀ c o,c∉[e,it]->s.heap.get? c=some o->h2.get? c=some o:=λc o hc q=>by
   simp only [mem_cons,not_mem_nil,or_false,not_or] at hc
   exact (sb2.2 c hc.1).trans (hk c o hc.1 hc.2 q)
  have tp:h2.get? s.heap.objs.size=some { cls:=.type "tuple",data:=.seq #[.int i tk,v] }:=(sb2.2 _ (Nat.ne_of_gt helt)).trans hT
  have I1:Inv X pins σ (upd H s.heap.objs.size (.tup [.int i,x])) { s with heap:=h2,toks:=tk+1 } :=
   I.laidCh hf kk ⟨by show 2<=sizeLine; decide,[.int i tk,v],.cons ⟨tk,rfl⟩ (.cons ru .nil),⟨_,tp,rfl,_,rfl⟩⟩
  refine ⟨.ref s.heap.objs.size,_,I1,rfl,⟨s.heap.objs.size,x,I.hok.fresh (Nat.le_refl _),rfl,rfl,λys hy=>by rw [I.list_inj hy hq]; exact hx⟩,⟨⟨v,by simpa using he2⟩,hs'.1.at λo q=>(sb2.2 _ (Ne.symm hei)).trans q⟩,λc hc=>?_⟩
  have hlt':c<s.heap.objs.size:=by
   simp only [mem_cons,not_mem_nil,or_false] at hc
   rcases hc with rfl | rfl
   .exact helt
   .obtain ⟨o,q,_⟩:=h1; exact Heap.lt_size q
  rw [Zc (Nat.ne_of_lt hlt')]
  exact (hf c hc).1
 done:=by
  intro X hP hw hK hc i pins s σ H E I hf st hg
  subst hP hw hK
  obtain ⟨xs,hq,hx⟩:=hg
  obtain ⟨⟨old,he⟩,h1⟩:=st
  obtain ⟨its,rv,p,hz⟩:=I.list hq
  have hl:=rv.length
  have ei:i=its.toArray.size:=by simp; lia
  subst ei
  refine wpAny_pyNext_enum_endD (Draws.list (A:=X.A.in1) (show X.A.in1.handled=none from I.ok.hd hc) it a hai its.toArray) he ⟨h1,p.isList⟩ λh' hx'=>⟨rfl,?_⟩
  refine I.turnedCh (t':=s.toks) hf λc o hc q=>?_
  simp only [mem_cons,not_mem_nil,or_false,not_or] at hc
  exact hx' c o hc.2 q
 self:=λ_ _ _ _ _ st h=>by
  obtain ⟨⟨old,he⟩,_⟩:=st
  exact wpAny_pyIter_enum he h
def iEnum (K:W.Frag) (ta:TA):TI:=λσ H R=>ta σ H λvs H1=>∃ a,vs=[.ref a]/\(∃ xs,SqL K H1 a xs)/\R (Ite K a) H1
theorem Zhz {elts:List PySem.Expr} {x1} {tpos:Pos} {a:PySem.Expr} {ta:TA} {p pos:Pos} (hg:Gl X "enumerate") (hm:X.mg "enumerate" = none) (ha:PA X [a] ta) (hs:starEach [a] X.env=[(false,eval a X.env)]:=by rfl) :
  PI X (.Tuple elts x1 tpos) (.Call (.Name "enumerate" p) [a] [] pos) (iEnum X.K ta):=by
 intro pins s σ H R I h
 refine Call_ (Zbw I hg hm Zfb (PyProof.Rows.callWith_type1 (thA (ha pos pins s σ H _ I h) λus s1 vs H1 I1 r1 q1=>?_) hs rfl))
 obtain ⟨l,e,⟨xs,hq⟩,q⟩:=q1
 subst e
 cases r1 with
 | cons r rr =>
  cases rr
  cases r
  obtain ⟨its,rv,pl,hz⟩:=I1.list hq
  have lt1:l<s1.heap.objs.size:=by obtain ⟨o,e,_⟩:=pl.isList; exact Heap.lt_size e
  refine call_enumerate_list pl.isList λh' he hi hsz hk=>?_
  refine wpAny_pyIter_enum he ?_
  refine ⟨s1.heap.objs.size+1,[s1.heap.objs.size+1,s1.heap.objs.size],_,_,H1,rfl,I1.kept (t':=s1.toks) hk,ZjY (s1.heap.objs.size+1) s1.heap.objs.size l (Nat.succ_ne_self _) (nne (.inl (Nat.lt_succ_of_lt lt1))) (Nat.ne_of_lt lt1),⟨⟨_,he⟩,hi⟩,λc hc=>?_,q⟩
  have hc':s1.heap.objs.size<=c:=by
   simp only [mem_cons,not_mem_nil,or_false] at hc
   rcases hc with rfl | rfl <;> lia
  exact I1.fpOk hc' (I1.hok.fresh hc')
end
def tyN (H:Hp):V->Option String
 | .non=>some "NoneType"
 | .bl _=>some "bool"
 | .int _=>some "int"
 | .str _=>some "str"
 | .ref a=>match H a with
  | some (.lst _)=>some "list"
  | some (.frz _ (.lst _))=>some "list"
  | some (.tup _)=>some "tuple"
  | some (.dK _)=>some "dict"
  | some (.dT _)=>some "dict"
  | _=>none
 | _=>none
theorem Zmw {K:W.Frag} {H:Hp} {x:V} {t:String} (h:tyN H x=some t):TyOf K H x (.type t):=by
 cases x with
 | non=>cases h; exact .non
 | bl b=>cases h; exact .bl b
 | int i=>cases h; exact .int i
 | str z=>cases h; exact .str z
 | ref a =>
  simp only [tyN] at h
  split at h
  .rename_i e; cases h; exact .lst e
  .rename_i e; cases h; exact .frz e
  .rename_i e; cases h; exact .tup e
  .rename_i e; cases h; exact .dK e
  .rename_i e; cases h; exact .dT e
  .cases h
 | _=>cases h
def subT (t c:String):Bool:=t == c || (t == "bool" && c == "int")
def Zin:List String:=["NoneType", "bool", "int", "str", "list", "tuple", "dict"]
def ZeB:List String:=["bool", "int", "str", "list", "tuple", "dict"]
theorem ZeC (K:W.Frag):∀ t∈Zin,∀ c∈ZeB,W.kitOne K (.type t) (.type c)=some (subT t c):=by
 intro t ht c hc
 simp only [Zin,mem_cons,not_mem_nil,or_false] at ht
 simp only [ZeB,mem_cons,not_mem_nil,or_false] at hc
 rcases ht with rfl | rfl | rfl | rfl | rfl | rfl | rfl <;> rcases hc with rfl | rfl | rfl | rfl | rfl | rfl <;> rfl
theorem ZgG {H:Hp} {x:V} {t:String} (h:tyN H x=some t):t∈Zin:=by
 cases x with
 | non=>cases h; decide
 | bl b=>cases h; decide
 | int i=>cases h; decide
 | str z=>cases h; decide
 | ref a =>
  simp only [tyN] at h
  split at h <;> first | (cases h; decide) | cases h
 | _=>cases h
section
variable {X:Cx}
def rIsi:List V->Hp->VK->Prop:=λxs H Q=>∃ x t c,xs=[x,.ty c]/\tyN H x=some t/\c∈ZeB/\Q (.bl (subT t c)) H
theorem ZbB:CallR X (.builtin "isinstance") rIsi:=by
 intro pins s σ H xs us Q I r h
 obtain ⟨x,t,c,rfl,ht,hc,q⟩:=h
 obtain ⟨u,w',rfl,rx,rc⟩:=vals2 r
 cases rc
 exact ZjN I rx (Zmw ht) (ZeC X.K t (ZgG ht) c hc) λtk=>⟨.bl _,H,I.tok tk,rfl,q⟩
def rIsi2:List V->Hp->VK->Prop:=λxs H Q=>∃ x t c d p,xs=[x,.ref p]/\H p=some (.tup [.ty c,.ty d])/\tyN H x=some t/\c∈ZeB/\d∈ZeB/\Q (.bl (subT t c || subT t d)) H
theorem ZlA (K:W.Frag) {t c d:String} (ht:t∈Zin) (hc:c∈ZeB) (hd:d∈ZeB):W.kitAny K (.type t) [.type c,.type d]=some (subT t c || subT t d):=by
 unfold W.kitAny
 rw [ZeC K t ht c hc]
 cases subT t c with
 | true=>rfl
 | false =>
  show W.kitAny K (.type t) [.type d]=some (subT t d)
  unfold W.kitAny
  rw [ZeC K t ht d hd]
  cases subT t d <;> rfl
theorem ZgH:CallR X (.builtin "isinstance") rIsi2:=by
 intro pins s σ H xs us Q I r h
 obtain ⟨x,t,c,d,p,rfl,hp,ht,hc,hd,q⟩:=h
 obtain ⟨u,w',rfl,rx,rc⟩:=vals2 r
 cases rc
 obtain ⟨_,its,rv,⟨o,ho,hcl,n,hdt⟩⟩:=(show ObjOk X.prog X.w H s.heap p (.tup [.ty c,.ty d]) from I.hok p _ hp)
 obtain ⟨u1,u2,rfl,r1,r2⟩:=vals2 rv
 cases r1
 cases r2
 have e:=ZlA X.K (ZgG ht) hc hd
 have fin:∀ tk,EP X pins σ Q (.bool (subT t c || subT t d)) { s with toks:=tk }:=λtk=>⟨.bl _,H,I.tok tk,rfl,q⟩
 have htp:s.heap.get? p=some ⟨.type "tuple",o.dict,.seq [Value.type c,Value.type d].toArray n,o.slots⟩:=by
  rw [ho]
  obtain ⟨oc,od,odt,osl⟩:=o
  cases hcl; cases hdt
  rfl
 have ty:=Zmw (K:=X.K) ht
 generalize hT:Value.type t=T at ty e
 cases ty with
 | non=>cases (show u=Value.none from rx); exact W.kia_tup W.kitx_none I.kIn True.intro htp e (λz=>nomatch z) fin
 | bl y=>cases (show u=Value.bool y from rx); exact W.kia_tup W.kitx_bool I.kIn True.intro htp e (λz=>nomatch z) fin
 | int i=>obtain ⟨t,q⟩:=(show ∃ t,u=Value.int i t from rx); cases q; exact W.kia_tup W.kitx_int I.kIn True.intro htp e (λz=>nomatch z) fin
 | str y=>obtain ⟨t,q⟩:=(show ∃ t,u=Value.str y t from rx); cases q; exact W.kia_tup W.kitx_str I.kIn True.intro htp e (λz=>nomatch z) fin
 | flt y=>obtain ⟨t,q⟩:=(show ∃ t,u=Value.float y t from rx); cases q; exact W.kia_tup W.kitx_float I.kIn True.intro htp e (λz=>nomatch z) fin
 | @lst a xs ea =>
  cases (show u=Value.ref a from rx)
  obtain ⟨_,_,n,_,h1⟩:=(show ObjOk X.prog X.w H s.heap a (.lst xs) from I.hok a _ ea)
  exact W.kia_tup W.kitx_list I.kIn ⟨_,h1,rfl⟩ htp e (λz=>nomatch z) fin
 | @frz a ob xs ea =>
  cases (show u=Value.ref a from rx)
  obtain ⟨_,_,_,n,_,h1⟩:=(show ObjOk X.prog X.w H s.heap a (.frz ob (.lst xs)) from I.hok a _ ea)
  exact W.kia_tup W.kitx_list I.kIn ⟨_,h1,rfl⟩ htp e (λz=>nomatch z) fin
 | @tup a xs ea =>
  cases (show u=Value.ref a from rx)
  obtain ⟨_,_,_,p⟩:=(show ObjOk X.prog X.w H s.heap a (.tup xs) from I.hok a _ ea)
  obtain ⟨o,h1,h2,_⟩:=p
  exact W.kia_tup W.kitx_tuple I.kIn ⟨o,h1,h2⟩ htp e (λz=>nomatch z) fin
 | @dK a kvs ea =>
  cases (show u=Value.ref a from rx)
  obtain ⟨_,_,vs,_,p⟩:=(show ObjOk X.prog X.w H s.heap a (.dK kvs) from I.hok a _ ea)
  obtain ⟨o,es,ep,h1,h2,_⟩:=p
  exact W.kia_tup W.kitx_dict I.kIn ⟨o,h1,h2.1⟩ htp e (λz=>nomatch z) fin
 | @dT a kvs ea =>
  cases (show u=Value.ref a from rx)
  obtain ⟨_,_,xs,_,o,es,ep,h1,h2,_⟩:=(show ObjOk X.prog X.w H s.heap a (.dT kvs) from I.hok a _ ea)
  exact W.kia_tup W.kitx_dict I.kIn ⟨o,h1,h2.1⟩ htp e (λz=>nomatch z) fin
 | ins e'=>cases hT
theorem Zar:bootBuiltins "isinstance" = some (.builtin "isinstance"):=by first | rfl | decide +kernel | kernel_rfl
theorem Zio:bootBuiltins "all" = some (.builtin "all"):=by first | rfl | decide +kernel | kernel_rfl
theorem Zip:bootBuiltins "max" = some (.builtin "max"):=by first | rfl | decide +kernel | kernel_rfl
theorem ZlB:bootBuiltins "min" = some (.builtin "min"):=by first | rfl | decide +kernel | kernel_rfl
theorem Ziq:bootBuiltins "abs" = some (.builtin "abs"):=by first | rfl | decide +kernel | kernel_rfl
theorem ZhA:bootBuiltins "divmod" = some (.builtin "divmod"):=by first | rfl | decide +kernel | kernel_rfl
theorem Zcm:bootBuiltins "int" = some (.type "int"):=by first | rfl | decide +kernel | kernel_rfl
theorem Zfs:bootBuiltins "bool" = some (.type "bool"):=by first | rfl | decide +kernel | kernel_rfl
theorem ZeD:bootBuiltins "str" = some (.type "str"):=by first | rfl | decide +kernel | kernel_rfl
theorem ZV:bootBuiltins "list" = some (.type "list"):=by first | rfl | decide +kernel | kernel_rfl
theorem ZcQ:bootBuiltins "tuple" = some (.type "tuple"):=by first | rfl | decide +kernel | kernel_rfl
theorem ZgI:∀ {bs:List Bool} {its:List Value},Vals (bs.map V.bl) its->its=bs.map Value.bool
 | [],_,.nil=>rfl
 | b :: bs,_,.cons r t=>by rw [ZgI t]; cases r; rfl
theorem Zjt {bs:List Bool} (f:Nat->Bool) (hf:∀ i b,bs[i]?=some b->f i=b):(List.range bs.length).map f=bs:=by
 apply List.ext_getElem?
 intro i
 rw [getElem?_map]
 by_cases h:i<bs.length
 .rw [getElem?_range h,getElem?_eq_getElem h]
  simp only [Option.map_some]
  rw [hf i _ (getElem?_eq_getElem h)]
 .rw [getElem?_eq_none (by simpa using h),getElem?_eq_none (by lia)]; rfl
theorem ZgJ (hc:X.calm=true):CallR X (.builtin "all") (λxs H Q=>∃ (p:Addr) (bs:List Bool),xs=[.ref p]/\SqL X.K H p (bs.map V.bl)/\Q (.bl (bs.all id)) H):=by
 intro pins s σ H xs us Q I r h
 obtain ⟨p,bs,rfl,hq,q⟩:=h
 obtain ⟨u,rfl,rx⟩:=vals1 r
 cases rx
 obtain ⟨its,rv,pl,hz⟩:=I.list hq
 have e:=ZgI rv
 subst e
 refine call_all_walk (wpAny_pyIter_list pl.isList ?_)
 refine ⟨s.heap.objs.size,_,[s.heap.objs.size],_,_,_,λi=>bs.getD i true,rfl,Walks.list (A:=X.A.in1) (show X.A.in1.handled=none from I.ok.hd hc) s.heap.objs.size p ?_ (bs.map Value.bool).toArray,⟨⟨_,Heap.get?_push_size _ rfl,rfl,rfl⟩,pl.isList.at λo e=>Heap.get?_push_of_some _ e⟩,?_,?_⟩
 .obtain ⟨o,e,_⟩:=pl.isList; exact Nat.ne_of_lt (Heap.lt_size e)
 .intro i v s' Q' E' hP hQ
  have hP':(bs.map Value.bool)[i]?=some v:=by simpa using hP
  rw [getElem?_map] at hP'
  cases z:bs[i]? with
  | none=>rw [z] at hP'; cases hP'
  | some b =>
   rw [z] at hP'
   cases hP'
   have:bs.getD i true=b:=by rw [getD_eq_getElem?_getD,z]; rfl
   have hQ':Q' (bs.getD i true) s':=hQ
   rw [this] at hQ'
   exact wpAny_truthy_bool hQ'
 .intro h' tk hk
  refine ⟨.bl (bs.all id),H,I.kept (t':=tk) (λb o e=>hk b o (by simpa using Nat.ne_of_lt (Heap.lt_size e)) (Heap.get?_push_of_some _ e)),?_,q⟩
  have z:(List.range bs.length).map (λi=>bs.getD i true)=bs:=Zjt _ λi b e=>by rw [getD_eq_getElem?_getD,e]; rfl
  have z2:(List.range bs.length).all (λi=>bs.getD i true)=bs.all id:=by
   conv=>rhs; rw [← z]
   rw [List.all_map]; rfl
  show Value.bool _=Value.bool _
  have z3:(bs.map Value.bool).toArray.size=bs.length:=by simp
  rw [z3,z2]
theorem Zol (lo:Int) (n:Nat):∀ {acc:Array Value},ItemsOf (λi v=>∃ t,v=.int (lo+i * 1) t) acc n->Vals ((List.range n).map λi=>V.int (lo+(i:Nat))) acc.toList:=by
 intro acc h
 obtain ⟨hs,hi⟩:=h
 have gen:∀ (l:List Value) (k:Nat) (xs:List V),xs.length=l.length->(∀ (j:Nat) (v:Value) (x:V),l[j]?=some v->xs[j]?=some x->RelV x v)->Vals xs l:=by
  intro l
  induction l with
  | nil=>intro k xs hl _; cases xs with | nil=>exact .nil | cons _ _=>simp at hl
  | cons u l ih =>
   intro k xs hl hr
   cases xs with
   | nil=>simp at hl
   | cons x xs=>exact .cons (hr 0 u x rfl rfl) (ih k xs (by simpa using hl) λj v y e1 e2=>hr (j+1) v y (by simpa using e1) (by simpa using e2))
 refine gen _ 0 _ (by simp [hs]) λj v x e1 e2=>?_
 have e1':acc[j]?=some v:=by simpa using e1
 obtain ⟨t,rfl⟩:=hi j v e1'
 have hj:j<n:=by rw [← hs]; exact (Array.getElem?_eq_some_iff.mp e1').1
 rw [getElem?_map,getElem?_range hj] at e2
 cases e2
 exact ⟨t,by simp⟩
def Zju (ta:TA):TE:=λσ H Q=>ta σ H λvs H1=>∃ i j:Int,vs=[.int i,.int j]/\(-(2 ^ 62)<=i/\i<2 ^ 62 /\ -(2 ^ 62)<=j/\j<2 ^ 62)/\(j - i).toNat<=sizeLine /\
 ∀ p,H1 p=none->Q (.ref p) (upd H1 p (.lst ((List.range (j - i).toNat).map λk=>V.int (i+(k:Nat)))))
theorem ZgK {a b:PySem.Expr} {ta:TA} {p q pos pos2:Pos} (hc:X.calm=true) (hg1:Gl X "list") (hm1:X.mg "list" = none) (hg:Gl X "range") (hm:X.mg "range" = none) (ha:PA X [a,b] ta)
  (hs:starEach [a,b] X.env=[(false,eval a X.env),(false,eval b X.env)]:=by rfl) (hs2:starEach [b] X.env=[(false,eval b X.env)]:=by rfl)
  (hs3:starEach [PySem.Expr.Call (.Name "range" p) [a,b] [] pos] X.env=[(false,eval (PySem.Expr.Call (.Name "range" p) [a,b] [] pos) X.env)]:=by rfl) :
  PE X (.Call (.Name "list" q) [.Call (.Name "range" p) [a,b] [] pos] [] pos2) (Zju ta):=by
 intro pins s σ H Q I h
 refine Call_ (Zbw I hg1 hm1 ZV (PyProof.Rows.callWith_type1 (Q:=EP X pins σ Q) ?_ hs3 rfl))
 rw [hs3]
 refine Calls.spliced_cons (Call_ (Zbw I hg hm boot_range (PyProof.Rows.callWith_type1 (thA (ha pos pins s σ H _ I h) λus s1 vs H1 I1 r1 q1=>?_) (by rw [hs,hs2]) (by rw [hs2]; rfl))))
 obtain ⟨i,j,e,⟨q1,q2,q3,q4⟩,hz,q⟩:=q1
 subst e
 cases r1 with
 | cons r rr =>
  cases rr with
  | cons r' rr =>
   cases rr
   obtain ⟨t,rfl⟩:=r
   obtain ⟨t',rfl⟩:=r'
   refine call_range_2 (Calls.spliced_nil ?_)
   have I2:Inv X pins σ H1 { s1 with heap:=s1.heap.push { cls:=.type "range",data:=.fields #[.int i t,.int j t',.int 1 s1.toks] },toks:=s1.toks+1 }:=I1.kept λb o e=>Heap.get?_push_of_some _ e
   have hsz:sizeLine=16777216:=sizeLine_eq
   refine call_list_range (n:=(j - i).toNat) (I.ok.hd hc) (IsRange.new ..) (small_one q1 q2 q3 q4) (by rw [rangeSize_one]; split <;> lia) (by lia) λh' tk acc' c' hk hS hit=>?_
   refine ⟨.ref _,_,I2.laid (o:=.lst ((List.range (j - i).toNat).map λk=>V.int (i+(k:Nat)))) hk (Nat.le_refl _) ⟨by simpa using hz,acc'.toList,c',Zol i _ hit,by simpa using hS⟩,rfl,q _ (I2.hok.fresh (Nat.le_refl _))⟩
end
structure Def (P:Program) (w:World) (K:W.Frag) (mg:Str->Option Value) (base:Heap) (x:Str) (k:Nat) (ps:List Str) (sp:Sp):Prop where
 ex:∃ (f:Addr) (fd:FuncData),FnOk P w K mg base CX0 k f fd ps sp/\mg x=some (.ref f)/\W.keepIn K (.ref f)=true/\Binds K fd ps []
section
variable {X:Cx} {x:Str} {p pos:Pos} {e:PySem.Expr} {es:List PySem.Expr} {t:TA} {k:Nat} {ps:List Str} {sp:Sp}
theorem Zom (D:Def X.prog X.w X.K X.mg X.base x k ps sp) (hr:Room k X.A) (hg:Gl X x) (ha:PA X (e :: es) t)
  (he:starEach (e :: es) X.env=(false,eval e X.env) :: starEach es X.env:=by rfl) (hpl:(backTo pos (starEach es X.env)).any (·.1)=false:=by rfl) (hd:(x == ("__debug__" : Str))=false:=by decide) :
  PE X (.Call (.Name x p) (e :: es) [] pos) (tCall sp [] E0 t):=by
 obtain ⟨f,fd,F,hm,hk,hb⟩:=D.ex
 exact ZmZ F hr hg hm hk hb .nil pass0 ha (hdb:=hd) (he:=he) (hpl:=hpl)
end
theorem Zad {X:Cx} {K:W.Frag} {es:List PySem.Expr} {k:Nat} {t:TGs} {n:Nat} {pos:Pos} (hK:X.K=K) (hc:X.calm=true) (h:PGs X es t)
  (hn:(assignEach es X.env).length=n:=by rfl) (hst:(assignEach es X.env).findIdx? (·.1)=none:=by rfl):PG X (.Tuple es k pos) (gTup K n t):=by
 subst hK
 exact ZnX hc h hn hst
def compB (osc:Scope) (oN:List Str) (scope:Scope) (N:List Str) (own:Nat) (js:List Nat):Bool :=
 scope.kind == .function && scope.names.all (λy=>y.2 != .cell || scope.names.lookup y.1 == some .cell) && scope.names.all (λy=>y.2 != .local || scope.names.lookup y.1 == some .local) &&
 scope.names.all (λy=>y.2 != .free || (osc.names.lookup y.1 == some .cell || osc.names.lookup y.1 == some .free)) && N.length == own+js.length &&
 (js.map λj=>oN[j]?) == (N.drop own).map some && (N.drop own).all λx=>scope.names.lookup x == some .free
theorem Zag {X:Cx} {osc:Scope} {oN:List Str} {scope:Scope} {N:List Str} {own:Nat} {js:List Nat} (h:compB osc oN scope N own js=true) (hs:X.env.scope=osc) (hN:X.N=oN):CompOk X scope N own js:=by
 unfold compB at h
 simp only [Bool.and_eq_true,all_eq_true,Bool.or_eq_true,beq_iff_eq,bne_iff_ne,ne_eq] at h
 obtain ⟨⟨⟨⟨⟨⟨h1,h2⟩,h3⟩,h4⟩,h5⟩,h6⟩,h7⟩:=h
 refine ⟨h1,λy hy hl=>?_,λy hy hl=>?_,λy hy hf=>?_,h5,λk j e=>?_,λk x e=>?_⟩
 .rcases h2 y hy with q | q
  .exact absurd hl q
  .exact q
 .rcases h3 y hy with q | q
  .exact absurd hl q
  .exact q
 .rcases h4 y hy with q | q
  .exact absurd hf q
  .show X.env.scope.names.lookup y.1=_\/X.env.scope.names.lookup y.1=_
   rw [hs]; exact q
 .rw [hN]
  have z:=congrArg (λl=>l[k]?) h6
  simp only [getElem?_map,e,Option.map_some,List.getElem?_drop] at z
  cases q:N[own+k]? with
  | none=>rw [q] at z; cases z
  | some y=>rw [q] at z; exact (Option.some.inj z).symm
 .refine h7 x ?_
  exact mem_of_getElem? (i:=k) (by rw [List.getElem?_drop]; exact e)
def SB (b:Addr) (H H':Hp):Prop:=∀ a o,a≠b->H a=some o->H' a=some o
theorem SB.trans {b:Addr} {H H1 H2:Hp} (x:SB b H H1) (y:SB b H1 H2):SB b H H2:=λa o n h=>y a o n (x a o n h)
theorem Same.sb {H H':Hp} (x:Same H H') (b:Addr):SB b H H':=λa o _ h=>x a o h
theorem Zft (b:Addr) (H:Hp) (o:HO):SB b H (upd H b o):=λa u n h=>by rw [Zc n]; exact h
theorem Zg {H:Hp} {p:Addr} (h:H p=none) (o:HO):Same H (upd H p o):=λb u q=>by rw [Zc (Ze q h)]; exact q
def CNx (n:Nat) (l:Addr) (Pv:Nat->List V->St->Hp->Prop) (i:Nat) (ys:List V) (σ:St) (y:V) (H:Hp):Prop :=
 H l=some (.lst ys)/\ys.length<sizeLine/\∃ m',m'<n - i/\(m'=n - (i+1)/\i+1<=n/\(ys++[y]).length<=i+1/\Pv (i+1) (ys++[y]) σ (upd H l (.lst (ys++[y]))))
def CNo (n:Nat) (Pv:Nat->List V->St->Hp->Prop) (i:Nat) (ys:List V) (σ:St) (H:Hp):Prop:=∃ m',m'<n - i/\(m'=n - (i+1)/\i+1<=n/\ys.length<=i+1/\Pv (i+1) ys σ H)
theorem CNx.of {n:Nat} {l:Addr} {Pv:Nat->List V->St->Hp->Prop} {i:Nat} {ys:List V} {σ:St} {y:V} {H:Hp} (hn:n<=sizeLine) (hi:i<n) (hy:ys.length<=i) (h1:H l=some (.lst ys)) (h2:Pv (i+1) (ys++[y]) σ (upd H l (.lst (ys++[y])))):CNx n l Pv i ys σ y H :=
 ⟨h1,by lia,n - (i+1),by lia,rfl,hi,by rw [length_append,length_singleton]; lia,h2⟩
theorem ZcD {lo:Int} {n:Nat} {l:Addr} {g:TG} {tc:TT} {te:TE} {σ0:St} {H0:Hp} {Qf:Hp->Prop} (Pv:Nat->List V->St->Hp->Prop) (h0:Pv 0 [] σ0 H0)
  (hs:∀ i ys σ' H',i<n->ys.length<=i->Pv i ys σ' H'->g (.int (lo+i)) σ' H' λσ2 H3=>tc σ2 H3 λb H4=>if b=true then te σ2 H4 λy H5=>CNx n l Pv i ys σ2 y H5 else CNo n Pv i ys σ2 H4)
  (hd:∀ ys σ' H',ys.length<=n->Pv n ys σ' H'->Qf H') :
  ∃ W:Nat->Nat->List V->St->Hp->Prop,(∃ m,W 0 m [] σ0 H0)/\∀ i m ys σ' H',W i m ys σ' H' ->
  ((Itr lo n).stop i H'/\Qf H')\/((Itr lo n).go i H'/\∀ x H2,(Itr lo n).yld i H' x H2->g x σ' H2 λσ2 H3=>tc σ2 H3 λb H4 =>
    if b=true then te σ2 H4 λy H5=>H5 l=some (.lst ys)/\ys.length<sizeLine/\∃ m',m'<m/\W (i+1) m' (ys++[y]) σ2 (upd H5 l (.lst (ys++[y])))
    else ∃ m',m'<m/\W (i+1) m' ys σ2 H4):=by
 refine ⟨λi m ys σ' H'=>m=n - i/\i<=n/\ys.length<=i/\Pv i ys σ' H',⟨n,rfl,Nat.zero_le _,Nat.le_refl _,h0⟩,?_⟩
 rintro i m ys σ' H' ⟨rfl,hi,hy,p⟩
 by_cases hlt:i<n
 .refine .inr ⟨hlt,λx H2 q=>?_⟩
  obtain ⟨rfl,rfl⟩:=q
  exact hs i ys σ' _ hlt hy p
 .have e:i=n:=by lia
  subst e
  exact .inl ⟨Nat.le_refl _,hd ys σ' H' hy p⟩
theorem ZeE {K:W.Frag} {a:Addr} {xs:List V} {l:Addr} {g:TG} {tc:TT} {te:TE} {σ0:St} {H0:Hp} {Qf:Hp->Prop} (Pv:Nat->List V->St->Hp->Prop) (h0:Pv 0 [] σ0 H0)
  (hl:∀ i ys σ' H',i<=xs.length->Pv i ys σ' H'->SqL K H' a xs)
  (hs:∀ i x ys σ' H',i<xs.length->xs[i]?=some x->ys.length<=i->Pv i ys σ' H'->g x σ' H' λσ2 H3=>tc σ2 H3 λb H4=>if b=true then te σ2 H4 λy H5=>CNx xs.length l Pv i ys σ2 y H5 else CNo xs.length Pv i ys σ2 H4)
  (hd:∀ ys σ' H',ys.length<=xs.length->Pv xs.length ys σ' H'->Qf H') :
  ∃ W:Nat->Nat->List V->St->Hp->Prop,(∃ m,W 0 m [] σ0 H0)/\∀ i m ys σ' H',W i m ys σ' H' ->
  ((Itl K a).stop i H'/\Qf H')\/((Itl K a).go i H'/\∀ x H2,(Itl K a).yld i H' x H2->g x σ' H2 λσ2 H3=>tc σ2 H3 λb H4 =>
    if b=true then te σ2 H4 λy H5=>H5 l=some (.lst ys)/\ys.length<sizeLine/\∃ m',m'<m/\W (i+1) m' (ys++[y]) σ2 (upd H5 l (.lst (ys++[y])))
    else ∃ m',m'<m/\W (i+1) m' ys σ2 H4):=by
 refine ⟨λi m ys σ' H'=>m=xs.length - i/\i<=xs.length/\ys.length<=i/\Pv i ys σ' H',⟨xs.length,rfl,Nat.zero_le _,Nat.le_refl _,h0⟩,?_⟩
 rintro i m ys σ' H' ⟨rfl,hi,hy,p⟩
 have q:=hl i ys σ' H' hi p
 by_cases hlt:i<xs.length
 .refine .inr ⟨⟨xs,xs[i],q,by simp [hlt]⟩,λx H2 z=>?_⟩
  obtain ⟨rfl,z⟩:=z
  exact hs i x ys σ' _ hlt (z xs q) hy p
 .have e:i=xs.length:=by lia
  subst e
  exact .inl ⟨⟨xs,q,Nat.le_refl _⟩,hd ys σ' H' hy p⟩
theorem ZlC {K:W.Frag} {a b:Addr} {xs zs:List V} {l:Addr} {g:TG} {tc:TT} {te:TE} {σ0:St} {H0:Hp} {Qf:Hp->Prop} (hlen:xs.length=zs.length) (Pv:Nat->List V->St->Hp->Prop) (h0:Pv 0 [] σ0 H0)
  (hl:∀ i ys σ' H',i<=xs.length->Pv i ys σ' H'->SqL K H' a xs/\SqL K H' b zs)
  (hs:∀ i x z t ys σ' H',i<xs.length->xs[i]?=some x->zs[i]?=some z->ys.length<=i->Pv i ys σ' H'->H' t=none->g (.ref t) σ' (upd H' t (.tup [x,z])) λσ2 H3=>tc σ2 H3 λb H4=>if b=true then te σ2 H4 λy H5=>CNx xs.length l Pv i ys σ2 y H5 else CNo xs.length Pv i ys σ2 H4)
  (hd:∀ ys σ' H',ys.length<=xs.length->Pv xs.length ys σ' H'->Qf H') :
  ∃ W:Nat->Nat->List V->St->Hp->Prop,(∃ m,W 0 m [] σ0 H0)/\∀ i m ys σ' H',W i m ys σ' H' ->
  ((Itz K a b).stop i H'/\Qf H')\/((Itz K a b).go i H'/\∀ x H2,(Itz K a b).yld i H' x H2->g x σ' H2 λσ2 H3=>tc σ2 H3 λb H4 =>
    if b=true then te σ2 H4 λy H5=>H5 l=some (.lst ys)/\ys.length<sizeLine/\∃ m',m'<m/\W (i+1) m' (ys++[y]) σ2 (upd H5 l (.lst (ys++[y])))
    else ∃ m',m'<m/\W (i+1) m' ys σ2 H4):=by
 refine ⟨λi m ys σ' H'=>m=xs.length - i/\i<=xs.length/\ys.length<=i/\Pv i ys σ' H',⟨xs.length,rfl,Nat.zero_le _,Nat.le_refl _,h0⟩,?_⟩
 rintro i m ys σ' H' ⟨rfl,hi,hy,p⟩
 have q:=hl i ys σ' H' hi p
 by_cases hlt:i<xs.length
 .have hz:i<zs.length:=by lia
  refine .inr ⟨⟨xs,zs,xs[i],zs[i],q.1,q.2,by simp [hlt],by simp [hz]⟩,λx H2 z=>?_⟩
  obtain ⟨t,u,v,ht,rfl,rfl,z1,z2⟩:=z
  exact hs i u v t ys σ' _ hlt (z1 xs q.1) (z2 zs q.2) hy p ht
 .have e:i=xs.length:=by lia
  subst e
  exact .inl ⟨⟨xs,zs,q.1,q.2,.inl (Nat.le_refl _)⟩,hd ys σ' H' hy p⟩
theorem ZfJ {K:W.Frag} {a:Addr} {xs:List V} {g:TG} {tb:TS} {D:Ends} {σ:St} {H:Hp} (Pv:Nat->St->Hp->Prop) (h0:Pv 0 σ H) (hl:∀ i σ H,i<=xs.length->Pv i σ H->SqL K H a xs)
  (hs:∀ i x t σ H,xs[i]?=some x->Pv i σ H->H t=none->g (.ref t) σ (upd H t (.tup [.int i,x])) λσ2 H2=>tb { D with nx:=Pv (i+1),ct:=Pv (i+1),bk:=D.nx } σ2 H2) (hd:∀ σ H,Pv xs.length σ H->D.nx σ H) :
  ∃ W:Nat->Nat->St->Hp->Prop,(∃ m,W 0 m σ H)/\∀ i m σ H,W i m σ H ->
   ((Ite K a).stop i H/\D.nx σ H)\/((Ite K a).go i H/\∃ N:St->Hp->Prop,(∀ σ' H',N σ' H'->∃ m',m'<m/\W (i+1) m' σ' H')/\∀ x H',(Ite K a).yld i H x H'->g x σ H' λσ2 H2=>tb { D with nx:=N,ct:=N,bk:=D.nx } σ2 H2):=by
 refine ⟨λi m σ H=>m=xs.length - i/\i<=xs.length/\Pv i σ H,⟨xs.length,by simp,Nat.zero_le _,h0⟩,?_⟩
 rintro i m σ H ⟨rfl,hi,p⟩
 have q:=hl i σ H hi p
 by_cases hlt:i<xs.length
 .refine .inr ⟨⟨xs,xs[i],q,by simp [hlt]⟩,Pv (i+1),λσ' H' p'=>⟨xs.length - (i+1),by lia,rfl,hlt,p'⟩,λx H' y=>?_⟩
  obtain ⟨t,u,ht,rfl,rfl,y⟩:=y
  exact hs i u t σ _ (y xs q) p ht
 .have e:i=xs.length:=by lia
  subst e
  exact .inl ⟨⟨xs,q,rfl⟩,hd σ H p⟩
theorem atI0 {α:Type} {x:α} {xs:List α}:atI (x :: xs) 0=some x:=ZR (j:=0) rfl
theorem atI1 {α:Type} {x y:α} {xs:List α}:atI (x :: y :: xs) 1=some y:=ZR (j:=1) rfl
theorem atI2 {α:Type} {x y z:α} {xs:List α}:atI (x :: y :: z :: xs) 2=some z:=ZR (j:=2) rfl
theorem ZaD {p A B:Prop} [Decidable p] (h1:p->A) (h2:¬ p->B):if decide p=true then A else B:=by
 by_cases h:p
 .rw [if_pos (decide_eq_true h)]; exact h1 h
 .rw [if_neg (by rw [decide_eq_false h]; exact Bool.false_ne_true)]; exact h2 h
end L2
namespace HT
open PySem PySem.Spec PyProof.Rows
section
variable {prog:Program} {w:World} {A:Around} {E:Value->Shared->Prop} {s:Shared}
theorem cat_tup0 {t b:Addr} {ws:List Value} {Q:Value->Shared->Prop} (ht:IsTup s.heap t #[]) (hb:IsTup s.heap b ws.toArray) (h0:Q (.ref b) s):wpAny (model prog w) A (binaryOp .Add (.ref t) (.ref b)) Q E s:=by
 obtain ⟨o1,ho,hc,n,hd⟩:=ht
 obtain ⟨o2,ho2,hc2,n2,hd2⟩:=hb
 have e1:s.heap.get? t=some ⟨.type "tuple",o1.dict,.seq #[] n,o1.slots⟩:=by
  rw [ho]; obtain ⟨_,_,_,_⟩:=o1; cases hc; cases hd; rfl
 have e2:s.heap.get? b=some ⟨.type "tuple",o2.dict,.seq ws.toArray n2,o2.slots⟩:=by
  rw [ho2]; obtain ⟨_,_,_,_⟩:=o2; cases hc2; cases hd2; rfl
 exact concat_meets ⟨_,e1,rfl⟩ ⟨_,e2,rfl⟩ noFill_tuple_add seq_tuple_add PySem.F.slot_tuple_add PySem.F.entry_tuple_add (PySem.F.args_tuple_add_2 _ _) (tuple_addW0 t b #[] ws.toArray n n2 o1.dict o2.dict o1.slots o2.slots rfl) ⟨e1,e2,h0⟩
theorem getItem_tuple_whole {t sl:Addr} {items:Array Value} {vl vu:Value} {lo hi:Option Int} {Q:Value->Shared->Prop} (ht:IsTup s.heap t items) (hs:s.heap.IsSliceOf sl vl vu .none) (pl:IsPart vl lo) (pu:IsPart vu hi)
  (h0:sIx items.size 0 lo=0) (h1:sIx items.size items.size hi=items.size) (h:Q (.ref t) s):wpAny (model prog w) A (getItem (.ref t) (.ref sl)) Q E s:=by
 obtain ⟨os,hos,hcs,hds⟩:=id hs
 have hTs:s.TypeIs (.ref sl) "slice" := ⟨os,hos,hcs⟩
 unfold getItem
 try with_reducible refine wpAny_holding ?_
 first | refine wpAny_bind (wpAny_pure ?_) | skip
 refine wpAny_bind (wpAny_sequenceKey ht.typeIs (by decide) ?_)
 refine wpAny_bind (wpAny_callSpecial?_slot (name:=Str.ofString "__getitem__") ht.typeIs PyProof.Rows.slot_tuple_getitem
  (wpAny_call_entry PyProof.Rows.slot_tuple_getitem ht.typeIs entry_tuple_getitem ?_ (args_tuple_getitem _ _)))
 show wpAny _ _ (Builtin.Tuple.tupleItemsOf (.ref t) >>= _) _ _ s
 refine wpAny_bind (tupleItemsOf_ ht ?_)
 refine wpAny_bind (wpAny_typeOf hTs ?_)
 rw [if_pos (by decide)]
 refine wpAny_bind (Zck hs pl pu ?_)
 show wpAny _ _ (if (((sIx items.size 0 lo:Nat):Int) == 0 && (1:Int) == 1 && (sIx items.size items.size hi - sIx items.size 0 lo) == items.size)=true then _ else _) _ _ s
 rw [h0,h1,if_pos (by simp)]
 refine wpAny_bind (m:=Builtin.Tuple.tupleIsExact _) ?_
 unfold Builtin.Tuple.tupleIsExact
 refine wpAny_bind (wpAny_typeOf ht.typeIs (wpAny_pure ?_))
 simp only [beq_self_eq_true,if_true]
 first
  | exact wpAny_bind (wpAny_rule (wpAny_pure ⟨_,rfl,wpAny_pure h⟩))
  | exact wpAny_bind (wpAny_rule (wpAny_bind (wpAny_pure (wpAny_pure ⟨_,rfl,wpAny_pure h⟩))))
end
end HT
namespace L2
open PySem PySem.Spec PyProof.Rows
section
variable {X:Cx}
def rCatG:R2:=λx y H Q=>∃ a b xs ys,x=.ref a/\y=.ref b/\H a=some (.tup xs)/\H b=some (.tup ys)/\xs.length+ys.length<=sizeLine/\∀ p H',Same H H'->H' p=some (.tup (xs++ys))->Q (.ref p) H'
theorem Zni:OpR X (binaryOp .Add) rCatG:=by
 intro pins s σ H x y v u Q I rx ry h
 obtain ⟨a,b,xs,ys,rfl,rfl,ha,hb,hz,q⟩:=h
 by_cases hx:xs=[]
 .subst hx
  cases rx
  cases ry
  obtain ⟨its,r1,p1,_⟩:=I.tuple (SqT.of ha)
  obtain ⟨its2,r2,p2,_⟩:=I.tuple (SqT.of hb)
  cases r1
  exact HT.cat_tup0 p1 p2 ⟨.ref b,H,I,rfl,q b H (Same.refl H) hb⟩
 .refine Znd pins s σ H _ _ v u Q I rx ry ⟨a,b,xs,ys,rfl,rfl,SqT.of ha,SqT.of hb,hx,hz,λe=>?_,λ_ p hp=>q p _ (Zg hp _) Za⟩
  subst e
  exact q a H (Same.refl H) (by rw [append_nil]; exact ha)
def rSlG:V->Option Int->Option Int->Hp->VK->Prop:=λx lo hi H Q=>∃ a xs,x=.ref a/\H a=some (.tup xs)/\∀ p H',Same H H'->H' p=some (.tup (cutV xs lo hi))->Q (.ref p) H'
theorem Znj:SlR X rSlG:=by
 intro pins s σ H x v vl vu lo hi sl Q I rx hs pl pu h
 obtain ⟨a,xs,rfl,hx,q⟩:=h
 by_cases hw:HT.sIx xs.length 0 lo=0/\HT.sIx xs.length xs.length hi=xs.length
 .cases rx
  obtain ⟨its,r,ht,hz⟩:=I.tuple (SqT.of hx)
  have hlen:its.toArray.size=xs.length:=by rw [List.size_toArray]; exact r.length.symm
  refine ⟨"tuple",_,PyProof.Rows.slot_tuple_getitem.lookup,ht.typeIs,?_⟩
  refine HT.getItem_tuple_whole ht hs pl pu (by rw [hlen]; exact hw.1) (by rw [hlen]; exact hw.2) ⟨.ref a,H,I,rfl,q a H (Same.refl H) ?_⟩
  unfold cutV
  rw [hw.1,hw.2,List.drop_zero,Nat.sub_zero,take_length]
  exact hx
 .exact Zof pins s σ H _ v vl vu lo hi sl Q I rx hs pl pu ⟨a,xs,rfl,SqT.of hx,hw,λp hp=>q p _ (Zg hp _) Za⟩
end
def NS:PySem.Expr->Prop
 | .Starred _ _=>False
 | _=>True
theorem ZaE {e:PySem.Expr} {es:List PySem.Expr} {env:Env} (h:NS e):starEach (e :: es) env=(false,eval e env) :: starEach es env:=by
 cases e <;> first | rfl | exact h.elim
def NSs:List PySem.Expr->Prop
 | []=>True
 | e :: es=>NS e/\NSs es
theorem Zcn {pos:Pos} {env:Env}:∀ {es:List PySem.Expr},NSs es->(backTo pos (starEach es env)).any (·.1)=false
 | [],_=>rfl
 | e :: es,h=>by
  rw [ZaE h.1]
  have ih:=Zcn (pos:=pos) (env:=env) h.2
  simp only [backTo] at ih ⊢
  simpa using ih
section
variable {X:Cx} {x:Str} {p pos:Pos} {e:PySem.Expr} {es:List PySem.Expr} {te:TE} {t:TA} {k:Nat} {ps:List Str} {sp:Sp} {id T:String} {r:List V->Hp->VK->Prop}
theorem pc (ha:PE X e te) (hr:PA X es t) (hn:NS e:=by exact True.intro):PA X (e :: es) (tCons te t):=ZmY ha hr (ZaE hn)
theorem Zo (D:Def X.prog X.w X.K X.mg X.base x k ps sp) (hr:Room k X.A) (hg:Gl X x) (ha:PA X (e :: es) t) (hn:NSs (e :: es):=by repeat' (first | exact True.intro | refine ⟨?_,?_⟩)) (hd:(x == ("__debug__" : Str))=false:=by decide) :
  PE X (.Call (.Name x p) (e :: es) [] pos) (tCall sp [] E0 t):=Zom D hr hg ha (ZaE hn.1) (Zcn hn.2) hd
theorem Zr (hc:CallR X (.builtin id) r) (hg:Gl X x) (hm:X.mg x=none) (hv:bootBuiltins x=some (.builtin id)) (ha:PA X (e :: es) t) (hnn:NSs (e :: es):=by repeat' (first | exact True.intro | refine ⟨?_,?_⟩)) (hn:x ≠ "__name__" := by decide) (hdb:(x == ("__debug__" : Str))=false:=by decide) :
  PE X (.Call (.Name x p) (e :: es) [] pos) (tCB r t):=Zlv hc hg hm hv ha hn hdb (ZaE hnn.1) (Zcn hnn.2)
theorem ZW (hc:CallR X (.type T) r) (hg:Gl X x) (hm:X.mg x=none) (hv:bootBuiltins x=some (.type T)) (ha:PA X (e :: es) t) (hnn:NSs (e :: es):=by repeat' (first | exact True.intro | refine ⟨?_,?_⟩)) (hn:x ≠ "__name__" := by decide) (hdb:(x == ("__debug__" : Str))=false:=by decide) :
  PE X (.Call (.Name x p) (e :: es) [] pos) (tCB r t):=ZjP hc hg hm hv ha hn hdb (ZaE hnn.1) (Zcn hnn.2)
end
theorem Zir {K:W.Frag} {a:Addr} {xs:List V} {l:Addr} {g:TG} {tc:TT} {te:TE} {σ0:St} {H0:Hp} {Qf:Hp->Prop} (Pv:Nat->List V->St->Hp->Prop) (h0:Pv 0 [] σ0 H0)
  (hl:∀ i ys σ' H',i<=xs.length->Pv i ys σ' H'->SqT K H' a xs)
  (hs:∀ i x ys σ' H',i<xs.length->xs[i]?=some x->ys.length<=i->Pv i ys σ' H'->g x σ' H' λσ2 H3=>tc σ2 H3 λb H4=>if b=true then te σ2 H4 λy H5=>CNx xs.length l Pv i ys σ2 y H5 else CNo xs.length Pv i ys σ2 H4)
  (hd:∀ ys σ' H',ys.length<=xs.length->Pv xs.length ys σ' H'->Qf H') :
  ∃ W:Nat->Nat->List V->St->Hp->Prop,(∃ m,W 0 m [] σ0 H0)/\∀ i m ys σ' H',W i m ys σ' H' ->
  ((Itt K a).stop i H'/\Qf H')\/((Itt K a).go i H'/\∀ x H2,(Itt K a).yld i H' x H2->g x σ' H2 λσ2 H3=>tc σ2 H3 λb H4 =>
    if b=true then te σ2 H4 λy H5=>H5 l=some (.lst ys)/\ys.length<sizeLine/\∃ m',m'<m/\W (i+1) m' (ys++[y]) σ2 (upd H5 l (.lst (ys++[y])))
    else ∃ m',m'<m/\W (i+1) m' ys σ2 H4):=by
 refine ⟨λi m ys σ' H'=>m=xs.length - i/\i<=xs.length/\ys.length<=i/\Pv i ys σ' H',⟨xs.length,rfl,Nat.zero_le _,Nat.le_refl _,h0⟩,?_⟩
 rintro i m ys σ' H' ⟨rfl,hi,hy,p⟩
 have q:=hl i ys σ' H' hi p
 by_cases hlt:i<xs.length
 .refine .inr ⟨⟨xs,xs[i],q,by simp [hlt]⟩,λx H2 z=>?_⟩
  obtain ⟨rfl,z⟩:=z
  exact hs i x ys σ' _ hlt (z xs q) hy p
 .have e:i=xs.length:=by lia
  subst e
  exact .inl ⟨⟨xs,q,Nat.le_refl _⟩,hd ys σ' H' hy p⟩
theorem ZeF:fillsNumberSlot (.type "tuple") "mul" = pure false:=by first | rfl | kernel_rfl | decide +kernel
theorem Zis:seqRepeat? (.type "tuple")=pure (some (.builtin "tuple.__mul__")):=by first | rfl | kernel_rfl | (unfold seqRepeat?; simp; rfl)
theorem Zit (a:Int) (t:Tok) (l:Addr) (items:Array Value) (n:Nat) (dd:Option Addr) (sl:Array (Option Value)) :
  Meets (Builtin.«int.__rmul__» ⟨[.int a t,.ref l],[]⟩) (λ_ R s=>s.heap.get? l=some ⟨.type "tuple",dd,.seq items n,sl⟩/\R (.ok (.ret Value.notImplemented)) s) :=
 .of_wp λprog w A R s h=>by
  obtain ⟨hp,g,d,tk,os⟩:=s
  obtain ⟨hl,h⟩:=h
  wp_walk
  exact ⟨_,rfl,h⟩
section
variable {X:Cx} {K:W.Frag}
theorem Zn (hK:X.K=K):IxR X (rIxL K):=hK ▸ Znf
theorem ZG (hK:X.K=K):IxR X (rIxT K):=hK ▸ Zog
theorem Ziu (hK:X.K=K):SlR X (rSlL K):=hK ▸ Zng
theorem Zdh (hK:X.K=K):OpR X (compareOp .NotIn) (rIn K true):=hK ▸ ZgB
theorem Zx (hK:X.K=K):CallR X (.builtin "len") (λxs H Q=>∃ p ys,xs=[.ref p]/\(SqL K H p ys\/SqT K H p ys)/\Q (.int ys.length) H):=hK ▸ ZgC
theorem ZaZ (hK:X.K=K):CallR X (.type "list") (λxs H Q=>∃ p ys,xs=[.ref p]/\(SqL K H p ys\/SqT K H p ys)/\∀ l,H l=none->Q (.ref l) (upd H l (.lst ys))):=hK ▸ ZgD
theorem Zfc (hK:X.K=K):CallR X (.type "tuple") (λxs H Q=>∃ p ys,xs=[.ref p]/\((SqL K H p ys/\∀ l,H l=none->Q (.ref l) (upd H l (.tup ys)))\/(SqT K H p ys/\Q (.ref p) H))):=hK ▸ ZfI
end
end L2
namespace HT
open PySem PyProof.Rows
section
open PySem.SeqAt
open PySem.AutoSeq1 (wpAny_loadPart')
open PySem.MeetsSeq PySem.MeetsSeq2 PySem.MeetsSeq3
end
end HT
namespace L2
open PySem PySem.Spec PyProof.Rows
theorem Zmx {h:Heap} {a:Addr} {us:Array Value} (x:IsTup h a us):a<h.objs.size:=by
 obtain ⟨o,ho,_⟩:=x
 exact Heap.lt_size ho
section
variable {X:Cx}
def Znk:V->List V->Hp->VK->Prop:=λx vs H Q=>∃ (l:Addr) (ns:List Int) (k:Int),x=.ref l/\vs=[.int k]/\H l=some (.lst (ns.map V.int))/\k∈ns/\Q .non (upd H l (.lst ((ns.erase k).map V.int)))
theorem Ziv (k:Int):∀ (ns:List Int),k∈ns->∃ j,ns[j]?=some k/\(∀ m z,m<j->ns[m]?=some z->z≠k)/\ns.erase k=ns.eraseIdx j
 | [],h=>nomatch h
 | x :: ns,h=>by
  by_cases hx:x=k
  .subst hx
   exact ⟨0,rfl,λm z hm=>absurd hm (Nat.not_lt_zero _),by rw [List.erase_cons_head,List.eraseIdx_cons_zero]⟩
  .have hm:k∈ns:=by
    rcases List.mem_cons.mp h with e | e
    .exact absurd e.symm hx
    .exact e
   obtain ⟨j,h1,h2,h3⟩:=Ziv k ns hm
   refine ⟨j+1,by simpa using h1,λm z hm hz=>?_,?_⟩
   .cases m with
    | zero =>
     have e:x=z:=by simpa using hz
     rw [← e]; exact hx
    | succ m=>exact h2 m z (by lia) (by simpa using hz)
   .rw [List.erase_cons_tail (by simpa using hx),h3,List.eraseIdx_cons_succ]
theorem Zjv {xs:List V} {us:List Value}:∀ (j:Nat),Vals xs us->Vals (xs.eraseIdx j) (us.eraseIdx j):=by
 intro j r
 induction r generalizing j with
 | nil=>exact .nil
 | cons h t ih =>
  cases j with
  | zero=>exact t
  | succ j=>exact .cons h (ih j)
theorem ZgL:MtM X "list.remove" Znk:=by
 intro pins s σ H x vs v us Q I rx rv h
 obtain ⟨l,ns,k,rfl,rfl,hH,hk,q⟩:=h
 cases rx
 obtain ⟨u,rfl,ru⟩:=rv.one
 obtain ⟨tk,rfl⟩:=ru
 obtain ⟨z,its,n,r,hl,e⟩:=I.lstM hH
 rw [length_map] at hl z
 obtain ⟨j,h1,h2,h3⟩:=Ziv k ns hk
 have get:∀ (m:Nat) (hm:m<its.toArray.size),∃ (i:Int) (t:Tok),ns[m]?=some i/\its.toArray[m]=.int i t:=λm hm=>by
  have hm':m<ns.length:=by rw [hl]; simpa using hm
  obtain ⟨w,hw,rw'⟩:=r.get (i:=m) (x:=.int ns[m]) (by rw [getElem?_map,getElem?_eq_getElem hm']; rfl)
  obtain ⟨t,rfl⟩:=rw'
  refine ⟨ns[m],t,getElem?_eq_getElem hm',?_⟩
  have:its[m]?=some its[m]:=getElem?_eq_getElem (by simpa using hm)
  rw [hw] at this
  simpa using (Option.some.inj this).symm
 have hj:j<its.toArray.size:=by
  have:=(List.getElem?_eq_some_iff.mp h1).1
  rw [hl] at this; simpa using this
 refine call_meets F.slot_list_remove ⟨_,e,rfl⟩ F.entry_list_remove (F.args_list_remove_2 _ _) (MeetsSeq.list_remove l its.toArray n (.int k tk) (λy=>match y with | .int i _=>i == k | _=>false) (λy hy=>?_) j hj ?_ (λm hm hmj=>?_) (by rw [List.size_toArray,← hl]; exact z)) ⟨e,?_⟩
 .obtain ⟨m,hm,rfl⟩:=Array.getElem_of_mem hy
  obtain ⟨i,t,_,e2⟩:=get m hm
  rw [e2]
  exact MeetsSeq.EqGives.int i k t tk
 .obtain ⟨i,t,e1,e2⟩:=get j hj
  rw [h1] at e1; cases e1
  rw [e2]
  simp
 .obtain ⟨i,t,e1,e2⟩:=get m hm
  rw [e2]
  simpa using h2 m i hmj e1
 .refine ⟨.non,_,I.lset (its':=its.eraseIdx j) (ys:=(ns.erase k).map V.int) hH e ?_ ?_ ?_,rfl,q⟩
  .rw [List.eraseIdxIfInBounds_toArray]
  .rw [h3]
   have em:∀ (xs:List Int) (i:Nat),(xs.eraseIdx i).map V.int=(xs.map V.int).eraseIdx i:=λxs=>by
    induction xs with
    | nil=>intro i; rfl
    | cons y xs ih=>intro i; cases i with
     | zero=>rfl
     | succ i=>rw [List.eraseIdx_cons_succ,map_cons,map_cons,List.eraseIdx_cons_succ,ih]
   rw [em]
   exact Zjv j r
  .rw [length_map]
   exact Nat.le_trans List.length_erase_le z
end
section
variable {κ:Type} [DecidableEq κ]
def valV (kvs:List (κ×V)) (k:κ):Option V:=(kvs.find? λkv=>decide (kv.1=k)).map (·.2)
def putK (kvs:List (κ×V)) (k:κ) (v:V):List (κ×V) :=
 if (kvs.any λkv=>decide (kv.1=k))=true then kvs.map (λkv=>if kv.1=k then (kv.1,v) else kv) else kvs++[(k,v)]
def dropK (kvs:List (κ×V)) (k:κ):List (κ×V):=kvs.filter λkv=>decide (kv.1≠k)
theorem ZX {p:κ×V} {r:List (κ×V)} {k:κ} (e:p.1=k):valV (p :: r) k=some p.2:=by simp [valV,find?_cons,e]
theorem ZQ {p:κ×V} {r:List (κ×V)} {k:κ} (e:¬ p.1=k):valV (p :: r) k=valV r k:=by simp [valV,find?_cons,e]
theorem Zdi (k:κ):∀ kvs:List (κ×V),(kvs.any λkv=>decide (kv.1=k))=(valV kvs k).isSome
 | []=>rfl
 | p :: r=>by
  rw [any_cons]
  by_cases e:p.1=k
  .simp only [ZX e,decide_eq_true e,Bool.true_or,Option.isSome_some]
  .rw [ZQ e,decide_eq_false e,Bool.false_or]; exact Zdi k r
theorem Ziw (k j:κ) (y:V):∀ kvs:List (κ×V),valV (kvs.map λkv=>if kv.1=k then (kv.1,y) else kv) j=(valV kvs j).map λx=>if j=k then y else x
 | []=>rfl
 | p :: r=>by
  have ih:=Ziw k j y r
  rw [map_cons]
  by_cases h:p.1=k
  .rw [if_pos h]
   by_cases e:p.1=j
   .rw [ZX (p:=(p.1,y)) e,ZX e,Option.map_some,if_pos (e.symm.trans h)]
   .rw [ZQ (p:=(p.1,y)) e,ZQ e,ih]
  .rw [if_neg h]
   by_cases e:p.1=j
   .rw [ZX (p:=p) e,ZX e,Option.map_some,if_neg (λz=>h (e.trans z))]
   .rw [ZQ (p:=p) e,ZQ e,ih]
theorem ZgM (k j:κ) (y:V):∀ kvs:List (κ×V),valV kvs k=none->valV (kvs++[(k,y)]) j=if j=k then some y else valV kvs j
 | [],_=>by
  by_cases e:k=j
  .rw [if_pos e.symm]; exact ZX (p:=(k,y)) e
  .rw [if_neg (λz=>e z.symm)]; exact ZQ (p:=(k,y)) e
 | p :: r,hn=>by
  rw [List.cons_append]
  have hk:¬ p.1=k:=λz=>by rw [ZX z] at hn; cases hn
  rw [ZQ hk] at hn
  have ih:=ZgM k j y r hn
  by_cases e:p.1=j
  .rw [ZX e,ZX e,if_neg (λz=>hk (e.trans z))]
  .rw [ZQ e,ZQ e,ih]
theorem Zdj (kvs:List (κ×V)) (k j:κ) (y:V):valV (putK kvs k y) j=if j=k then some y else valV kvs j:=by
 unfold putK
 by_cases a:(kvs.any λkv=>decide (kv.1=k))=true
 .rw [if_pos a,Ziw]
  rw [Zdi] at a
  by_cases e:j=k
  .obtain ⟨x,hx⟩:=Option.isSome_iff_exists.mp a
   rw [if_pos e,e,hx,Option.map_some,if_pos rfl]
  .rw [if_neg e]
   cases valV kvs j with
   | none=>rfl
   | some x=>rw [Option.map_some,if_neg e]
 .rw [if_neg a]
  refine ZgM k j y kvs ?_
  rw [Zdi] at a
  cases q:valV kvs k with
  | none=>rfl
  | some x=>rw [q] at a; exact (a rfl).elim
theorem ZbS (kvs:List (κ×V)) (k:κ) (v:V):(putK kvs k v).length<=kvs.length+1:=by
 unfold putK
 split
 .rw [length_map]; lia
 .rw [length_append,length_cons,List.length_nil]; lia
theorem RelO.isSome_eq {o:Option V} {u:Option Value} (r:RelO o u):o.isSome=u.isSome:=by
 cases o with
 | none=>cases u with
  | none=>rfl
  | some _=>exact (show False from r).elim
 | some _=>cases u with
  | none=>exact (show False from r).elim
  | some _=>rfl
theorem RelO.getD {o:Option V} {u:Option Value} {d:V} {d':Value} (r:RelO o u) (rd:RelV d d'):RelV (o.getD d) (u.getD d'):=by
 cases o with
 | none=>cases u with
  | none=>exact rd
  | some _=>exact (show False from r).elim
 | some _=>cases u with
  | none=>exact (show False from r).elim
  | some _=>exact r
theorem KV.val {kvs:List (κ×V)} {vs:List (κ×Value)} (r:KV kvs vs) (k:κ):RelO (valV kvs k) (valueAt vs k):=by
 unfold KV at r
 induction r with
 | nil=>exact True.intro
 | @cons p q ps qs h t ih =>
  obtain ⟨h1,h2⟩:=h
  by_cases e:p.1=k
  .have e':q.1=k:=h1.symm.trans e
   have b:valueAt (q :: qs) k=some q.2:=by simp [valueAt,find?_cons,e']
   rw [ZX e,b]; exact h2
  .have e':¬ q.1=k:=λz=>e (h1.trans z)
   have b:valueAt (q :: qs) k=valueAt qs k:=by simp [valueAt,find?_cons,e']
   rw [ZQ e,b]; exact ih
theorem KV.any {kvs:List (κ×V)} {vs:List (κ×Value)} (r:KV kvs vs) (k:κ):(kvs.any λkv=>decide (kv.1=k))=vs.any λkv=>decide (kv.1=k):=by
 unfold KV at r
 induction r with
 | nil=>rfl
 | cons h t ih=>rw [any_cons,any_cons,ih,h.1]
theorem KV.repl {kvs:List (κ×V)} {vs:List (κ×Value)} (r:KV kvs vs) (k:κ) {y:V} {u:Value} (ry:RelV y u) :
  KV (kvs.map λkv=>if kv.1=k then (kv.1,y) else kv) (vs.map λkv=>if kv.1=k then (kv.1,u) else kv):=by
 unfold KV at r ⊢
 induction r with
 | nil=>exact .nil
 | @cons p q ps qs h t ih =>
  rw [map_cons,map_cons]
  refine .cons ?_ ih
  obtain ⟨h1,h2⟩:=h
  by_cases e:p.1=k
  .rw [if_pos e,if_pos (h1.symm.trans e)]; exact ⟨h1,ry⟩
  .rw [if_neg e,if_neg (λz=>e (h1.trans z))]; exact ⟨h1,h2⟩
theorem KV.put {kvs:List (κ×V)} {vs:List (κ×Value)} (r:KV kvs vs) (k:κ) {y:V} {u:Value} (ry:RelV y u):KV (putK kvs k y) (stored vs k u):=by
 unfold putK stored
 rw [r.any k]
 by_cases e:(vs.any λkv=>decide (kv.1=k))=true
 .rw [if_pos e,if_pos e]; exact r.repl k ry
 .rw [if_neg e,if_neg e]; exact Paired.snoc r ⟨rfl,ry⟩
theorem KV.drop {kvs:List (κ×V)} {vs:List (κ×Value)} (r:KV kvs vs) (k:κ):KV (dropK kvs k) (without vs k):=by
 unfold KV at r ⊢
 unfold dropK without
 induction r with
 | nil=>exact .nil
 | @cons p q ps qs h t ih =>
  obtain ⟨h1,h2⟩:=h
  rw [filter_cons,filter_cons]
  by_cases e:p.1=k
  .have a:¬ decide (p.1≠k)=true:=by simp [e]
   have b:¬ decide (q.1≠k)=true:=by simp [h1.symm.trans e]
   rw [if_neg a,if_neg b]; exact ih
  .have e':¬ q.1=k:=λz=>e (h1.trans z)
   have a:decide (p.1≠k)=true:=by simp [e]
   have b:decide (q.1≠k)=true:=by simp [e']
   rw [if_pos a,if_pos b]; exact .cons ⟨h1,h2⟩ ih
theorem KV.length {kvs:List (κ×V)} {vs:List (κ×Value)} (r:KV kvs vs):kvs.length=vs.length:=Paired.length r
theorem ZlD (kvs:List (κ×V)) (k:κ):(dropK kvs k).length<=kvs.length:=List.length_filter_le _ _
end
theorem kV_is {P:Program} {w:World} {k:Key} {u:Value} (r:RelV (kV k) u):(ZE P w).is k u=true:=by
 cases k with
 | inl i=>obtain ⟨t,e⟩:=(show ∃ t,u=Value.int i t from r); subst e; exact Zht P w i t
 | inr x=>obtain ⟨t,e⟩:=(show ∃ t,u=Value.str x t from r); subst e; exact Zhu P w x t
theorem ZgN {P:Program} {w:World}:∀ {ks:List Key} {us:List Value},Vals (ks.map kV) us->ItemsAre (ZE P w) ks us
 | [],_,r=>by rw [map_nil] at r; cases r; exact .nil
 | k :: ks,_,r=>by
  rw [map_cons] at r
  cases r with
  | cons h t=>exact .cons (kV_is h) (ZgN t)
abbrev KT (H:Hp):List (List Key×V)->List (List Key×Addr×Value)->Prop:=Paired λp q=>p.1=q.1/\H q.2.1=some (.tup (p.1.map kV))/\RelV p.2 q.2.2
theorem KT.val {H:Hp} {kvs:List (List Key×V)} {xs:List (List Key×Addr×Value)} (r:KT H kvs xs) (k:List Key):RelO (valV kvs k) ((atKey xs k).map (·.2)):=by
 induction r with
 | nil=>exact True.intro
 | @cons p q ps qs h t ih =>
  obtain ⟨h1,_,h2⟩:=h
  by_cases e:p.1=k
  .have e':q.1=k:=h1.symm.trans e
   have b:atKey (q :: qs) k=some q.2:=by simp [atKey,find?_cons,e']
   rw [ZX e,b]; exact h2
  .have e':¬ q.1=k:=λz=>e (h1.trans z)
   have b:atKey (q :: qs) k=atKey qs k:=by simp [atKey,find?_cons,e']
   rw [ZQ e,b]; exact ih
theorem KT.repl {H:Hp} {kvs:List (List Key×V)} {xs:List (List Key×Addr×Value)} (r:KT H kvs xs) (k:List Key) {y:V} {u:Value} (ry:RelV y u) :
  KT H (kvs.map λkv=>if kv.1=k then (kv.1,y) else kv) (xs.map (putAt k u)):=by
 induction r with
 | nil=>exact .nil
 | @cons p q ps qs h t ih =>
  rw [map_cons,map_cons]
  refine .cons ?_ ih
  obtain ⟨h1,h2,h3⟩:=h
  unfold putAt
  by_cases e:p.1=k
  .rw [if_pos e,if_pos (h1.symm.trans e)]; exact ⟨h1,h2,ry⟩
  .rw [if_neg e,if_neg (λz=>e (h1.trans z))]; exact ⟨h1,h2,h3⟩
theorem KT.put {H:Hp} {kvs:List (List Key×V)} {xs:List (List Key×Addr×Value)} (r:KT H kvs xs) (k:List Key) {b:Addr} {y:V} {u:Value} (hb:H b=some (.tup (k.map kV))) (ry:RelV y u) :
  KT H (putK kvs k y) (storedH xs k b u):=by
 have e:(kvs.any λkv=>decide (kv.1=k))=(atKey xs k).isSome:=by
  rw [Zdi,(r.val k).isSome_eq,Option.isSome_map]
 unfold putK storedH
 rw [e]
 by_cases q:(atKey xs k).isSome=true
 .rw [if_pos q,if_pos q]; exact r.repl k ry
 .rw [if_neg q,if_neg q]; exact Paired.snoc r ⟨rfl,hb,ry⟩
theorem KT.keeps {H H':Hp} {kvs:List (List Key×V)} {xs:List (List Key×Addr×Value)} (r:KT H kvs xs) (ht:∀ b ys,H b=some (.tup ys)->H' b=some (.tup ys)):KT H' kvs xs :=
 Paired.mapP r λ_ _ z=>⟨z.1,ht _ _ z.2.1,z.2.2⟩
section
variable {P:Program} {w:World} {H:Hp} {h:Heap} {a:Addr}
theorem rd_of {u:HO} (ok:HOk P w H h) (e:Rd H a u):ObjOk P w H h a u:=e.ok ok
theorem dk_rd {kvs:List (Key×V)} (ok:HOk P w H h) (e:Rd H a (.dK kvs)):kvs.length<=sizeLine/\(a == sysModules)=false/\∃ vs,KV kvs vs/\h.DictOf (ZE P w) a vs :=
 show ObjOk P w H h a (.dK kvs) from rd_of ok e
theorem dk_of {kvs:List (Key×V)} (ok:HOk P w H h) (e:H a=some (.dK kvs)):kvs.length<=sizeLine/\(a == sysModules)=false/\∃ vs,KV kvs vs/\h.DictOf (ZE P w) a vs:=dk_rd ok (.inl e)
theorem ZgO {ks:List Key} (ok:HOk P w H h) (e:H a=some (.tup (ks.map kV))):(tupleKind (ZE P w)).is h ks a:=by
 obtain ⟨_,its,r,o,h1,h2,n,h3⟩:=(show ObjOk P w H h a (.tup (ks.map kV)) from ok a _ e)
 exact ⟨o,its.toArray,n,h1,h2,h3,by simpa using ZgN r⟩
theorem dt_rd {kvs:List (List Key×V)} (ok:HOk P w H h) (e:Rd H a (.dT kvs)):kvs.length<=sizeLine/\(a == sysModules)=false /\
  ∃ xs,KT H kvs xs/\h.DictOfH (tupleKind (ZE P w)) a xs:=by
 obtain ⟨z,y,xs,r,o,es,ep,h1,h2,h3,h4,h5⟩:=(show ObjOk P w H h a (.dT kvs) from rd_of ok e)
 refine ⟨z,y,xs,r,o,es,ep,h1,h2,h3,h4,λx hx=>?_,h5⟩
 have all:∀ {l:List (List Key×V)} {m:List (List Key×Addr×Value)},KT H l m->∀ x∈m,(tupleKind (ZE P w)).is h x.1 x.2.1:=by
  intro l m q
  induction q with
  | nil=>intro x hx; exact nomatch hx
  | @cons p q ps qs hq t ih =>
   intro x hx
   rcases List.mem_cons.mp hx with e | hx
   .subst e
    exact ZgO ok (by rw [← hq.1]; exact hq.2.1)
   .exact ih x hx
 exact all r x hx
theorem dt_of {kvs:List (List Key×V)} (ok:HOk P w H h) (e:H a=some (.dT kvs)):kvs.length<=sizeLine/\(a == sysModules)=false /\
  ∃ xs,KT H kvs xs/\h.DictOfH (tupleKind (ZE P w)) a xs:=dt_rd ok (.inl e)
end
def DGet (H:Hp) (a:Addr) (y:V) (r:Option V):Prop :=
 (∃ kvs k,Rd H a (.dK kvs)/\y=kV k/\r=valV kvs k)\/∃ kvs k b,Rd H a (.dT kvs)/\y=.ref b/\H b=some (.tup (k.map kV))/\r=valV kvs k
def DPut (H:Hp) (a:Addr) (y v:V) (H':Hp):Prop :=
 (∃ kvs k,H a=some (.dK kvs)/\y=kV k/\kvs.length<sizeLine/\H'=upd H a (.dK (putK kvs k v))) \/
 ∃ kvs k b,H a=some (.dT kvs)/\y=.ref b/\H b=some (.tup (k.map kV))/\kvs.length<sizeLine/\H'=upd H a (.dT (putK kvs k v))
theorem DGet.k {H:Hp} {a:Addr} {kvs:List (Key×V)} {k:Key} (e:H a=some (.dK kvs)):DGet H a (kV k) (valV kvs k):=.inl ⟨kvs,k,.inl e,rfl,rfl⟩
theorem DPut.k {H:Hp} {a:Addr} {kvs:List (Key×V)} {k:Key} {v:V} (e:H a=some (.dK kvs)) (hl:kvs.length<sizeLine):DPut H a (kV k) v (upd H a (.dK (putK kvs k v))):=.inl ⟨kvs,k,e,rfl,hl,rfl⟩
section
variable {X:Cx} {pins:List (Addr×Obj)} {σ:St} {H:Hp} {s:Shared} {a:Addr} {y v:V} {u r:Value} {o:Option V} {A:Around} {E:Value->Shared->Prop}
theorem Inv.big (I:Inv X pins σ H s):sysModules<s.heap.objs.size:=by
 have h:mainGlobals<s.heap.objs.size:=(I.mod.glob.keeps I.bk).lt
 exact Nat.lt_trans (by decide) h
theorem ZgP {Q:Value->Shared->Prop} (hu:A.units+1<cLine) (I:Inv X pins σ H s) (g:DGet H a y (some v)) (ry:RelV y u) (h:∀ w' s',Inv X pins σ H s'->RelV v w'->Q w' s') :
  wpAny (model X.prog X.w) A (getItem (.ref a) u) Q E s:=by
 rcases g with ⟨kvs,k,e,ey,l⟩ | ⟨kvs,k,b,e,ey,eb,l⟩
 .subst ey
  obtain ⟨z,hd,vs,rel,dd⟩:=dk_rd I.hok e
  obtain ⟨w',hw,rw'⟩:=RelO.some_of (v:=v) (o:=valueAt vs k) (by rw [l]; exact rel.val k)
  exact wpAny_getItem_of (kV_is ry) dd.mapOf hw (h w' _ (I.tok _) rw')
 .subst ey
  cases (show u=Value.ref b from ry)
  obtain ⟨z,hd,xs,rel,dd⟩:=dt_rd I.hok e
  obtain ⟨w',hw,rw'⟩:=RelO.some_of (v:=v) (o:=(atKey xs k).map (·.2)) (by rw [l]; exact rel.val k)
  obtain ⟨p,hp,hp2⟩:=Option.map_eq_some_iff.mp hw
  refine wpAny_getItem_heap (tupleKind_room_in1 hu) (ZgO I.hok eb) dd hp ?_
  rw [hp2]
  exact h w' _ (I.tok _) rw'
theorem d_in {Q:Value->Shared->Prop} (hu:A.units+1<cLine) (I:Inv X pins σ H s) (g:DGet H a y o) (ry:RelV y u) (h:∀ s',Inv X pins σ H s'->Q (.bool o.isSome) s') :
  wpAny (model X.prog X.w) A (compareOp .In u (.ref a)) Q E s:=by
 rcases g with ⟨kvs,k,e,ey,l⟩ | ⟨kvs,k,b,e,ey,eb,l⟩
 .subst ey
  obtain ⟨z,hd,vs,rel,dd⟩:=dk_rd I.hok e
  refine wpAny_in_of (kV_is ry) hd dd.mapOf ?_
  rw [← (rel.val k).isSome_eq,← l]
  exact h _ (I.tok _)
 .subst ey
  cases (show u=Value.ref b from ry)
  obtain ⟨z,hd,xs,rel,dd⟩:=dt_rd I.hok e
  refine wpAny_in_heap (tupleKind_room_in1 hu) (ZgO I.hok eb) hd dd ?_
  have q:=(rel.val k).isSome_eq
  rw [Option.isSome_map] at q
  rw [← q,← l]
  exact h _ (I.tok _)
theorem ZhB {h':Heap} {t':Nat} {ob:HO} (I:Inv X pins σ H s) (mu:Mut (H a)) (hs:Heap.SameBut a s.heap h') (he:∃ q,h'.get? a=some q) (new:ObjOk X.prog X.w (upd H a ob) h' a ob) :
  Inv X pins σ (upd H a ob) { s with heap:=h',toks:=t' } :=
 I.write (x:=a) (e:=a) mu (.inl rfl) (λb q hb z=>(hs.2 b hb).trans z) he new
theorem Zmy {P:Program} {w:World} {H':Hp} {h':Heap} {kvs:List (Key×V)} {vs:List (Key×Value)} (z:kvs.length<=sizeLine) (hd:(a == sysModules)=false) (rel:KV kvs vs) (dd:h'.DictOf (ZE P w) a vs) :
  ObjOk P w H' h' a (.dK kvs):=⟨z,hd,vs,rel,dd⟩
theorem ZgQ {H':Hp} {Q:Unit->Shared->Prop} (hu:A.units+1<cLine) (I:Inv X pins σ H s) (g:DPut H a y v H') (ry:RelV y u) (rv:RelV v r) (h:∀ s',Inv X pins σ H' s'->Q () s') :
  wpAny (model X.prog X.w) A (setItem (.ref a) u r) Q E s:=by
 rcases g with ⟨kvs,k,e,ey,l,eH⟩ | ⟨kvs,k,b,e,ey,eb,l,eH⟩
 .subst ey eH
  obtain ⟨z,hd,vs,rel,dd⟩:=dk_of I.hok e
  have hz:vs.length<=sizeLine:=by rw [← rel.length]; exact z
  have hl:(putK kvs k v).length<=sizeLine:=by have:=ZbS kvs k v; lia
  refine wpAny_setItem_pairs (hsz:=hz) (kV_is ry) dd λh' dd' hs=>h _ ?_
  have he:∃ q,h'.get? a=some q:=let ⟨q,_,_,hq,_⟩:=dd'; ⟨q,hq⟩
  exact ZhB I (by rw [e]; exact True.intro) hs he (Zmy hl hd (rel.put k rv) dd')
 .subst ey eH
  cases (show u=Value.ref b from ry)
  obtain ⟨z,hd,xs,rel,dd⟩:=dt_of I.hok e
  have hz:xs.length<=sizeLine:=by rw [← Paired.length rel]; exact z
  have hl:(putK kvs k v).length<=sizeLine:=by have:=ZbS kvs k v; lia
  refine wpAny_setItem_heap (hsz:=hz) (tupleKind_room_in1 hu) (ZgO I.hok eb) dd λh' dd' hs=>h _ ?_
  obtain ⟨q,es,ep,hq,h2,h3,h4,_,h5⟩:=dd'
  refine ZhB I (by rw [e]; exact True.intro) hs ⟨q,hq⟩ ⟨hl,hd,_,(rel.put k eb rv).keeps λc ys ec=>?_,q,es,ep,hq,h2,h3,h4,h5⟩
  rw [Zc (ne_of ec e (λz=>nomatch z))]
  exact ec
end
section
variable {X:Cx} {pins:List (Addr×Obj)} {σ:St} {H:Hp} {s:Shared} {a:Addr} {kvs:List (Key×V)} {k:Key} {u:Value} {A:Around} {E:Value->Shared->Prop}
theorem d_pop {v:V} {more:List Value} {Q:Value->Shared->Prop} (I:Inv X pins σ H s) (e:H a=some (.dK kvs)) (ry:RelV (kV k) u) (l:valV kvs k=some v) (hm:more=[]\/∃ x,more=[x])
  (h:∀ w' s',Inv X pins σ (upd H a (.dK (dropK kvs k))) s'->RelV v w'->Q w' s'):wpAny (model X.prog X.w) A (call (.builtin "dict.pop") (.ref a :: u :: more)) Q E s:=by
 obtain ⟨z,hd,vs,rel,dd⟩:=dk_of I.hok e
 obtain ⟨w',hw,rw'⟩:=RelO.some_of (v:=v) (o:=valueAt vs k) (by rw [← l]; exact rel.val k)
 have hp:(keyPart u).isSome=true:=by
  cases k with
  | inl i=>obtain ⟨t,q⟩:=(show ∃ t,u=Value.int i t from ry); subst q; rfl
  | inr x=>obtain ⟨t,q⟩:=(show ∃ t,u=Value.str x t from ry); subst q; rfl
 have ha:argsOk "dict.pop" ⟨.ref a :: u :: more,[]⟩:=by
  rcases hm with q | ⟨x,q⟩
  .subst q; exact PySem.F.args_dict_pop_2 _ _
  .subst q; exact PySem.F.args_dict_pop_3 _ _ _
 refine call_meetsIn PySem.F.slot_dict_pop dd.typeIs PySem.F.entry_dict_pop ha (meets_dict_pop_there (ZE X.prog X.w) a (kV_is ry) more hm hp)
  ⟨vs,w',dd,by rw [← rel.length]; exact z,hw,λh' dd' hs=>h w' _ ?_ rw'⟩
 have he:∃ q,h'.get? a=some q:=let ⟨q,_,_,hq,_⟩:=dd'; ⟨q,hq⟩
 exact ZhB I (by rw [e]; exact True.intro) hs he (Zmy (Nat.le_trans (ZlD kvs k) z) hd (rel.drop k) dd')
theorem Zon {r:Value} {Q:Value->Shared->Prop} (I:Inv X pins σ H s) (e:H a=some (.dK kvs)) (ry:RelV (kV k) u) (l:valV kvs k=none) (h:∀ s',Inv X pins σ H s'->Q r s') :
  wpAny (model X.prog X.w) A (call (.builtin "dict.pop") [.ref a,u,r]) Q E s:=by
 obtain ⟨z,hd,vs,rel,dd⟩:=dk_of I.hok e
 have hn:valueAt vs k=none:=RelO.none_of (by rw [← l]; exact rel.val k)
 have hp:(keyPart u).isSome=true:=by
  cases k with
  | inl i=>obtain ⟨t,q⟩:=(show ∃ t,u=Value.int i t from ry); subst q; rfl
  | inr x=>obtain ⟨t,q⟩:=(show ∃ t,u=Value.str x t from ry); subst q; rfl
 exact call_meetsIn PySem.F.slot_dict_pop dd.typeIs PySem.F.entry_dict_pop (PySem.F.args_dict_pop_3 _ _ _) (meets_dict_pop_default (ZE X.prog X.w) a (kV_is ry) hd hp r) ⟨vs,dd,hn,h _ (I.tok _)⟩
end
def NoSl (i:Expr):Prop:=∀ ov iv,subscripted i false ov iv=operate [ov,iv] (getItem ov iv)
theorem Znl {prog:Program} {w:World} {A:Around} {E:Value->Shared->Prop} {s:Shared} {env:Env} {value slice:Expr} {pos:Pos} {T id:String} {Q:Value->Shared->Prop}
  (hl:typeLookup (.type T) "__getitem__" = pure (some (.builtin id))) (hs:NoSl slice)
  (h:wpAny (model prog w) A (eval value env) (λo s₁=>wpAny (model prog w) A (eval slice env) (λi s₂=>s₂.TypeIs o T/\wpAny (model prog w) A (getItem o i) Q E s₂) E s₁) E s) :
  wpAny (model prog w) A (eval (.Subscript value slice pos) env) Q E s:=by
 refine Subscript_ (wpAny_mono h (λo s₁ h₁=>wpAny_mono h₁ (λi s₂ h₂=>?_) λ_ _ x=>x) λ_ _ x=>x)
 obtain ⟨hT,h₂⟩:=h₂
 unfold subscriptTail
 refine wpAny_bind ?_
 rw [getitemInPython_of_ne hT.not_modules]
 refine wpAny_bind (wpAny_specialOf hT hl ?_)
 have fin:wpAny (model prog w) A (subscripted slice false o i) (λr s₃=>wpAny (model prog w) A (letTemporaryGo value o r >>= λ_=>pure r) Q E s₃) E s₂:=by
  rw [hs o i]
  exact wpAny_operating (wpAny_mono h₂ (λr s₃ h₃=>wpAny_bind (wpAny_letTemporaryGo (wpAny_pure h₃))) λ_ _ x=>x)
 first
  | exact wpAny_pure (wpAny_bind fin)
  | exact wpAny_bind (wpAny_pure (wpAny_bind fin))
  | exact wpAny_bind fin
theorem ZhC {X:Cx} {pins:List (Addr×Obj)} {σ:St} {H:Hp} {s:Shared} {a:Addr} {y:V} {o:Option V} (I:Inv X pins σ H s) (g:DGet H a y o):s.TypeIs (.ref a) "dict" := by
 rcases g with ⟨kvs,k,e,_,_⟩ | ⟨kvs,k,b,e,_,_,_⟩
 .obtain ⟨_,_,vs,_,dd⟩:=dk_rd I.hok e
  exact dd.typeIs
 .obtain ⟨_,_,xs,_,dd⟩:=dt_rd I.hok e
  exact dd.typeIs
def tDGet (td ty:TE):TE:=λσ H Q=>td σ H λx H1=>ty σ H1 λy H2=>∃ a v,x=.ref a/\DGet H2 a y (some v)/\Q v H2
def tDIn (ty td:TE):TE:=λσ H Q=>ty σ H λy H1=>td σ H1 λx H2=>∃ a o,x=.ref a/\DGet H2 a y o/\Q (.bl o.isSome) H2
def sDPut (td ty tv:TE):TS:=λD σ H=>tv σ H λv H1=>td σ H1 λx H2=>ty σ H2 λy H3=>∃ a H4,x=.ref a/\DPut H3 a y v H4/\D.nx σ H4
def sDAug (td ty tv:TE) (rd:V->V->Hp->VK->Prop):TS:=λD σ H=>td σ H λx H1=>ty σ H1 λy H2=>∃ a v,x=.ref a/\DGet H2 a y (some v) /\
 tv σ H2 λy2 H3=>rd v y2 H3 λz H4=>∃ H5,DPut H4 a y z H5/\D.nx σ H5
section
variable {X:Cx} {o i e value:Expr} {pos pos' tpos:Pos} {td ty tv:TE}
theorem ZhD (hu:X.A.units+1<cLine) (ho:PE X o td) (hi:PE X i ty) (hs:NoSl i):PE X (.Subscript o i pos) (tDGet td ty):=by
 intro pins s σ H Q I h
 refine Znl PySem.F.slot_dict_getitem.lookup hs (thE (ho pins s σ H _ I h) λu s1 x H1 I1 rx q1=>thn (hi pins s1 σ H1 _ I1 q1) λiv s2 ⟨y,H2,I2,ry,a,v,ex,g,q2⟩=>?_)
 subst ex
 obtain rfl:u=Value.ref a:=rx
 exact ⟨ZhC I2 g,ZgP hu I2 g ry λw' s3 I3 rw'=>⟨v,H2,I3,rw',q2⟩⟩
theorem Zoo (hu:X.A.units+1<cLine) (hi:PE X i ty) (ho:PE X o td):PC X .In i o (tDIn ty td):=by
 intro pins s σ H Q I h
 refine thE (hi pins s σ H _ I h) λiv s1 y H1 I1 ry q1=>thn (ho pins s1 σ H1 _ I1 q1) λu s2 ⟨x,H2,I2,rx,a,ov,ex,g,q2⟩=>?_
 subst ex
 obtain rfl:u=Value.ref a:=rx
 exact d_in hu I2 g ry λs3 I3=>⟨.bl ov.isSome,H2,I3,rfl,q2⟩
theorem ZfK (hu:X.A.units+1<cLine) (ho:PE X o td) (hi:PE X i ty) (hv:PE X value tv) (hs:swapsWith value (some (.Subscript o i pos')) pos.line X.env=pure false) :
  PS X (.Assign [.Subscript o i pos'] value pos) (sDPut td ty tv):=by
 intro pins s σ H D I h
 refine wpAny_Assign_Subscript (thE (hv pins s σ H _ I h) λr s1 v H1 I1 rv q1=>thE (ho pins s1 σ H1 _ I1 q1) λu s2 x H2 I2 rx q2=>thn (hi pins s2 σ H2 _ I2 q2) λiv s3 ⟨y,H3,I3,ry,a,H4,ex,g,q3⟩=>?_) hs
 subst ex
 obtain rfl:u=Value.ref a:=rx
 exact ZgQ hu I3 g ry rv λs4 I4=>⟨σ,H4,I4,q3⟩
theorem Znm {op:Operator} {rd:V->V->Hp->VK->Prop} (hu:X.A.units+1<cLine) (ho:PE X o td) (hi:PE X i ty) (hv:PE X value tv) (hop:InOp X op rd)
  (ha:∀ ov iv new,augStore i ov iv new=(do holding [new,ov,iv] (setItem ov iv new); release [new,ov,iv] []; pure .next)):PS X (.AugAssign (.Subscript o i tpos) op value pos) (sDAug td ty tv rd):=by
 intro pins s σ H D I h
 refine wpAny_AugAssign_SubscriptAny (thE (ho pins s σ H _ I h) λu s1 x H1 I1 rx q1=>thn (hi pins s1 σ H1 _ I1 q1) λiv s2 ⟨y,H2,I2,ry,a,v,ex,g,q2⟩=>?_) ha
 subst ex
 obtain rfl:u=Value.ref a:=rx
 refine ZgP hu I2 g ry λw' s3 I3 rw'=>thE (hv pins s3 σ H2 _ I3 q2) λw2 s4 y2 H3 I4 ry2 q3=>thn (hop pins s4 σ H3 v y2 w' w2 _ I4 rw' ry2 q3) λw3 s5 ⟨z,H4,I5,rz,H5,g5,q4⟩=>?_
 exact ZgQ hu I5 g5 ry rz λs6 I6=>⟨σ,H5,I6,q4⟩
end
theorem ZlE {P:Program} {w:World} {H:Hp} (h:Heap) (hb:sysModules<h.objs.size):ObjOk P w H (h.push { cls:=.type "dict",data:=.dict #[] }) h.objs.size (.dK []) :=
 ⟨Nat.zero_le _,beq_eq_false_iff_ne.mpr (Ne.symm (Nat.ne_of_lt hb)),[],.nil,Heap.DictOf.new h⟩
def Zop:TE:=λ_ H Q=>∀ p,H p=none->Q (.ref p) (upd H p (.dK []))
section
variable {X:Cx} {pos:Pos}
theorem Zel:PE X (.Dict [] [] pos) Zop:=λpins s σ H Q I h =>
 wpAny_Dict_empty ⟨.ref s.heap.objs.size,_,I.laid (a:=s.heap.objs.size) (o:=.dK []) (t':=s.toks) (λ_ _ q=>Heap.get?_push_of_some _ q) (Nat.le_refl _) (ZlE s.heap I.big),rfl,h _ (I.hok.fresh (Nat.le_refl _))⟩
end
structure M1 (X:Cx) (o:Expr) (m:Str) (apos:Pos) (e:Expr) (cpos:Pos):Prop where
 base:attributeBase o m X.env (eval o X.env)=eval o X.env
 few:((backTo cpos (starEach [e] X.env)).all (λx=>!x.1) && (backToKw cpos (keywordEach [] X.env)).all (λx=>x.1.isSome)
  && decide (([e]:List Expr).length+([]:List Keyword).length+(if ([]:List Keyword).isEmpty then 0 else 1)<30))=true
 line:(apos.endLine == cpos.line)=true
 trees:backTo cpos (starEach [e] X.env)=[(false,eval e X.env)]
structure M2 (X:Cx) (o:Expr) (m:Str) (apos:Pos) (e f:Expr) (cpos:Pos):Prop where
 base:attributeBase o m X.env (eval o X.env)=eval o X.env
 few:((backTo cpos (starEach [e,f] X.env)).all (λx=>!x.1) && (backToKw cpos (keywordEach [] X.env)).all (λx=>x.1.isSome)
  && decide (([e,f]:List Expr).length+([]:List Keyword).length+(if ([]:List Keyword).isEmpty then 0 else 1)<30))=true
 line:(apos.endLine == cpos.line)=true
 trees:backTo cpos (starEach [e,f] X.env)=[(false,eval e X.env),(false,eval f X.env)]
def IsD (H:Hp) (a:Addr):Prop:=(∃ kvs,Rd H a (.dK kvs))\/∃ kvs,Rd H a (.dT kvs)
theorem ZjZ {X:Cx} {pins:List (Addr×Obj)} {σ:St} {H:Hp} {s:Shared} {a:Addr} (I:Inv X pins σ H s) (d:IsD H a) :
  s.TypeIs (.ref a) "dict" /\ (∀ b,Value.ref a=.ref b->∃ ob,s.heap.get? b=some ob/\ob.dict=none)/\(a == sysModules)=false:=by
 rcases d with ⟨kvs,e⟩ | ⟨kvs,e⟩
 .obtain ⟨_,hd,vs,_,dd⟩:=dk_rd I.hok e
  refine ⟨dd.typeIs,λb q=>?_,hd⟩
  cases q
  obtain ⟨ob,_,_,h1,h2,_⟩:=dd
  exact ⟨ob,h1,h2.2.1⟩
 .obtain ⟨_,hd,xs,_,dd⟩:=dt_rd I.hok e
  refine ⟨dd.typeIs,λb q=>?_,hd⟩
  cases q
  obtain ⟨ob,_,_,h1,h2,_⟩:=dd
  exact ⟨ob,h1,h2.2.1⟩
section
variable {X:Cx} {pins:List (Addr×Obj)} {σ:St} {H:Hp} {s:Shared} {a:Addr} {y d:V} {u r:Value} {o:Option V} {A:Around} {E:Value->Shared->Prop}
theorem Zoq {Q:Value->Shared->Prop} (hu:A.units+1<cLine) (I:Inv X pins σ H s) (g:DGet H a y o) (ry:RelV y u) (rd:RelV d r) (h:∀ w' s',Inv X pins σ H s'->RelV (o.getD d) w'->Q w' s') :
  wpAny (model X.prog X.w) A (call (.builtin "dict.get") [.ref a,u,r]) Q E s:=by
 rcases g with ⟨kvs,k,e,ey,l⟩ | ⟨kvs,k,b,e,ey,eb,l⟩
 .subst ey
  obtain ⟨z,hd,vs,rel,dd⟩:=dk_rd I.hok e
  refine call_meetsIn PySem.F.slot_dict_get dd.typeIs PySem.F.entry_dict_get (PySem.F.args_dict_get_3 _ _ _) (meets_dict_get_default (ZE X.prog X.w) a (kV_is ry) hd r) ⟨_,dd.mapOf,h _ _ (I.tok _) ?_⟩
  rw [l]
  exact (rel.val k).getD rd
 .subst ey
  cases (show u=Value.ref b from ry)
  obtain ⟨z,hd,xs,rel,dd⟩:=dt_rd I.hok e
  refine call_meetsIn PySem.F.slot_dict_get dd.typeIs PySem.F.entry_dict_get (PySem.F.args_dict_get_3 _ _ _) (meetsH_dict_get_default (tupleKind (ZE X.prog X.w)) a b hd r) ⟨tupleKind_room_in1 hu,k,xs,ZgO I.hok eb,dd,h _ _ (I.tok _) ?_⟩
  rw [l]
  exact (rel.val k).getD rd
end
def Zor (td ty tx:TE):TE:=λσ H Q=>td σ H λx H1=>∃ a,x=.ref a/\IsD H1 a/\ty σ H1 λy H2=>tx σ H2 λz H3=>∃ o,DGet H3 a y o/\Q (o.getD z) H3
def Zos (td ty:TE):TE:=λσ H Q=>td σ H λx H1=>∃ a,x=.ref a/\IsD H1 a/\ty σ H1 λy H2=>∃ kvs k v,H2 a=some (.dK kvs)/\y=kV k/\valV kvs k=some v/\Q v (upd H2 a (.dK (dropK kvs k)))
def Zot (td ty tx:TE):TE:=λσ H Q=>td σ H λx H1=>∃ a,x=.ref a/\IsD H1 a/\ty σ H1 λy H2=>tx σ H2 λz H3=>∃ kvs k,H3 a=some (.dK kvs)/\y=kV k /\
 (∀ v,valV kvs k=some v->Q v (upd H3 a (.dK (dropK kvs k))))/\(valV kvs k=none->Q z H3)
section
variable {X:Cx} {o e f:Expr} {apos cpos:Pos} {td ty tx:TE}
theorem ZlF (hu:X.A.units+1<cLine) (ho:PE X o td) (he:PE X e ty) (hf:PE X f tx) (m:M2 X o "get" apos e f cpos):PE X (.Call (.Attribute o "get" apos) [e,f] [] cpos) (Zor td ty tx):=by
 intro pins s σ H Q I h
 refine wpAny_Call_method m.base m.few m.line PySem.F.plainAttrs_dict PySem.F.slot_dict_get PySem.F.type_dict_get (thn (ho pins s σ H _ I h) λu s1 ⟨x,H1,I1,rx,a,ex,d,q1⟩=>?_)
 subst ex
 obtain rfl:u=Value.ref a:=rx
 obtain ⟨t1,t2,_⟩:=ZjZ I1 d
 refine ⟨t1,t2,?_⟩
 rw [m.trees]
 refine Calls.callWith_builtin rfl (Calls.evalArgs_plain (Calls.spliced_cons (thE (he pins s1 σ H1 _ I1 q1) λiv s2 y H2 I2 ry q2 =>
  Calls.spliced_cons (thn (hf pins s2 σ H2 _ I2 q2) λfv s3 ⟨z,H3,I3,rz,ov,g,q3⟩=>Calls.spliced_nil ?_))))
 exact Zoq hu I3 g ry rz λw' s4 I4 rw'=>⟨_,H3,I4,rw',q3⟩
theorem Zix (ho:PE X o td) (he:PE X e ty) (m:M1 X o "pop" apos e cpos):PE X (.Call (.Attribute o "pop" apos) [e] [] cpos) (Zos td ty):=by
 intro pins s σ H Q I h
 refine wpAny_Call_method m.base m.few m.line PySem.F.plainAttrs_dict PySem.F.slot_dict_pop PySem.F.type_dict_pop (thn (ho pins s σ H _ I h) λu s1 ⟨x,H1,I1,rx,a,ex,d,q1⟩=>?_)
 subst ex
 obtain rfl:u=Value.ref a:=rx
 obtain ⟨t1,t2,_⟩:=ZjZ I1 d
 refine ⟨t1,t2,?_⟩
 rw [m.trees]
 refine Calls.callWith_builtin rfl (Calls.evalArgs_plain (Calls.spliced_cons (thn (he pins s1 σ H1 _ I1 q1) λiv s2 ⟨y,H2,I2,ry,kvs,k,v,ea,ey,l,q2⟩=>Calls.spliced_nil ?_)))
 subst ey
 exact d_pop I2 ea ry l (.inl rfl) λw' s3 I3 rw'=>⟨v,_,I3,rw',q2⟩
theorem Ziy (ho:PE X o td) (he:PE X e ty) (hf:PE X f tx) (m:M2 X o "pop" apos e f cpos):PE X (.Call (.Attribute o "pop" apos) [e,f] [] cpos) (Zot td ty tx):=by
 intro pins s σ H Q I h
 refine wpAny_Call_method m.base m.few m.line PySem.F.plainAttrs_dict PySem.F.slot_dict_pop PySem.F.type_dict_pop (thn (ho pins s σ H _ I h) λu s1 ⟨x,H1,I1,rx,a,ex,d,q1⟩=>?_)
 subst ex
 obtain rfl:u=Value.ref a:=rx
 obtain ⟨t1,t2,_⟩:=ZjZ I1 d
 refine ⟨t1,t2,?_⟩
 rw [m.trees]
 refine Calls.callWith_builtin rfl (Calls.evalArgs_plain (Calls.spliced_cons (thE (he pins s1 σ H1 _ I1 q1) λiv s2 y H2 I2 ry q2 =>
  Calls.spliced_cons (thn (hf pins s2 σ H2 _ I2 q2) λfv s3 ⟨z,H3,I3,rz,kvs,k,ea,ey,q3,q4⟩=>Calls.spliced_nil ?_))))
 subst ey
 cases l:valV kvs k with
 | some v=>exact d_pop I3 ea ry l (.inr ⟨fv,rfl⟩) λw' s4 I4 rw'=>⟨v,_,I4,rw',q3 v l⟩
 | none=>exact Zon I3 ea ry l λs4 I4=>⟨z,H3,I4,rz,q4 l⟩
end
section
variable {κ:Type} [DecidableEq κ]
theorem ZeG:∀ {l:List κ} {k:κ},l.Nodup->¬ k∈l->(l++[k]).Nodup
 | [],k,_,_=>by simp
 | a :: r,k,h,hk=>by
  obtain ⟨h1,h2⟩:=List.nodup_cons.mp h
  show (a :: (r++[k])).Nodup
  refine List.nodup_cons.mpr ⟨λm=>?_,ZeG h2 λm=>hk (List.mem_cons.mpr (Or.inr m))⟩
  rcases List.mem_append.mp m with q | q
  .exact h1 q
  .exact hk (List.mem_cons.mpr (Or.inl (List.mem_singleton.mp q).symm))
theorem Zka {p:κ×V} {r:List (κ×V)} {k:κ} (e:p.1=k):dropK (p :: r) k=dropK r k:=by
 unfold dropK
 rw [filter_cons,if_neg (by simp [e])]
theorem Zkb {p:κ×V} {r:List (κ×V)} {k:κ} (e:¬ p.1=k):dropK (p :: r) k=p :: dropK r k:=by
 unfold dropK
 rw [filter_cons,if_pos (by simp [e])]
end
theorem ZlG {P:Program} {w:World} {k:Key} {u:Value} (h:(ZE P w).is k u=true):RelV (kV k) u:=by
 rw [Zjg] at h
 rcases ZD h with ⟨i,t,rfl,rfl⟩ | ⟨x,t,rfl,rfl⟩
 .exact ⟨t,rfl⟩
 .exact ⟨t,rfl⟩
structure Src (P0:Program) (w0:World) (it l:Addr) (its:Array Value) (pos:Nat->Heap->Prop) (sq:Heap->Prop):Prop where
 item:∀ {A0:Around} {E0:Value->Shared->Prop} {t:Shared} {i:Nat} {x:Value} {Q0:Value->Shared->Prop},pos i t.heap->sq t.heap->its[i]?=some x->(∀ g,pos (i+1) g->Heap.SameBut it t.heap g->Q0 x { t with heap:=g })->wpAny (model P0 w0) A0 (Builtin.SmallTypes.nextOf (.ref it)) Q0 E0 t
 stop:∀ {A0:Around} {E0:Value->Shared->Prop} {t:Shared} {i:Nat} {Q0:Value->Shared->Prop},A0.handled=none->pos i t.heap->sq t.heap->its[i]?=none->(∀ g e,Heap.ExtBut it t.heap g->(∃ o,g.get? e=some o/\o.cls=.type "StopIteration")->E0 (.ref e) { t with heap:=g })->wpAny (model P0 w0) A0 (Builtin.SmallTypes.nextOf (.ref it)) Q0 E0 t
 pmove:∀ {i:Nat} {g g':Heap},pos i g->(∀ o,g.get? it=some o->g'.get? it=some o)->pos i g'
 smove:∀ {g g':Heap},sq g->(∀ o,g.get? l=some o->g'.get? l=some o)->sq g'
 obj:∀ {i:Nat} {g:Heap},pos i g->∃ o,g.get? it=some o/\∀ v,o.data≠.cell v
section
variable {P0:Program} {w0:World} {A0:Around} {E0:Value->Shared->Prop} {t:Shared}
theorem ZgR {it a:Addr} {i:Nat} {its:Array Value} {x:Value} {Q0:Value->Shared->Prop} (st:t.heap.IsTupleIter it a i) (tp:t.heap.IsTuple a its) (hx:its[i]?=some x)
  (k:∀ g,g.IsTupleIter it a (i+1)->Heap.SameBut it t.heap g->Q0 x { t with heap:=g }):wpAny (model P0 w0) A0 (Builtin.SmallTypes.nextOf (.ref it)) Q0 E0 t:=by
 obtain ⟨oi,gi,ci,di⟩:=id st
 obtain ⟨oa,ga,_,n,da⟩:=tp
 unfold Builtin.SmallTypes.nextOf
 refine wpAny_bind (wpAny_callSpecial?_slot (name:=Str.ofString "__next__") st.typeIs F.slot_tuple_iterator_next (wpAny_call_entry F.slot_tuple_iterator_next st.typeIs F.entry_tuple_iterator_next ?_ (F.args_tuple_iterator_next_1 _)))
 show wpAny _ _ (field (.ref it) 0 >>= _) _ _ t
 refine wpAny_bind (wpAny_field gi di (x:=.ref a) rfl ?_)
 show wpAny _ _ (if (Value.ref a == Value.none)=true then _ else _) _ _ t
 rw [if_neg (show ¬ ((Value.ref a == Value.none)=true) from Bool.false_ne_true)]
 show wpAny _ _ (field (.ref it) 1 >>= _) _ _ t
 refine wpAny_bind (wpAny_field gi di (x:=.int i 0) rfl ?_)
 show wpAny _ _ (seqItems? (.ref a) >>= _) _ _ t
 refine wpAny_bind (wpAny_seqItems ga da ?_)
 simp only [hx,Int.toNat_natCast]
 refine wpAny_bind (wpAny_setField gi di (by simp) (wpAny_pure ⟨x,rfl,wpAny_pure (k _ ⟨_,Heap.get?_update_self _ gi (Obj.isFreed_of_fields (Obj.data_mapFields di _)),(Obj.cls_mapFields ..).trans ci,?_⟩ (Heap.SameBut.update ..))⟩))
 rw [Obj.data_mapFields di]
 simp [rawInt]
theorem ZgS {it a:Addr} {i:Nat} {its:Array Value} {Q0:Value->Shared->Prop} (hA:A0.handled=none) (st:t.heap.IsTupleIter it a i) (tp:t.heap.IsTuple a its) (hx:its[i]?=none)
  (k:∀ g e,Heap.ExtBut it t.heap g->(∃ o,g.get? e=some o/\o.cls=.type "StopIteration")->E0 (.ref e) { t with heap:=g }):wpAny (model P0 w0) A0 (Builtin.SmallTypes.nextOf (.ref it)) Q0 E0 t:=by
 obtain ⟨oi,gi,ci,di⟩:=id st
 obtain ⟨oa,ga,_,n,da⟩:=tp
 unfold Builtin.SmallTypes.nextOf
 refine wpAny_bind (wpAny_callSpecial?_slot (name:=Str.ofString "__next__") st.typeIs F.slot_tuple_iterator_next (wpAny_call_entry F.slot_tuple_iterator_next st.typeIs F.entry_tuple_iterator_next ?_ (F.args_tuple_iterator_next_1 _)))
 show wpAny _ _ (field (.ref it) 0 >>= _) _ _ t
 refine wpAny_bind (wpAny_field gi di (x:=.ref a) rfl ?_)
 show wpAny _ _ (if (Value.ref a == Value.none)=true then _ else _) _ _ t
 rw [if_neg (show ¬ ((Value.ref a == Value.none)=true) from Bool.false_ne_true)]
 show wpAny _ _ (field (.ref it) 1 >>= _) _ _ t
 refine wpAny_bind (wpAny_field gi di (x:=.int i 0) rfl ?_)
 show wpAny _ _ (seqItems? (.ref a) >>= _) _ _ t
 refine wpAny_bind (wpAny_seqItems ga da ?_)
 simp only [hx,Int.toNat_natCast]
 refine wpAny_bind (wpAny_rule (wpAny_bind (wpAny_setField gi di (by simp) ?_)))
 show wpAny _ _ (newExc (.type "StopIteration") [] >>= _) _ _ _
 refine wpAny_bind ?_
 simp only [newTuple,newExc]
 refine wpAny_bind (wpAny_newObj_type (wpAny_bind (m:=firstArgMember _ _) (wpAny_of_eq (a:=Value.none) (by first | rfl | (simp only [firstArgMember]; rfl)) (wpAny_newObj_type ?_ (by size_fits)))) (by size_fits))
 simp only [raiseNew]
 refine wpAny_bind (wpAny_handled ?_)
 first | rw [show A0.in1.handled=none from hA] | rw [hA]
 exact wpAny_bind (wpAny_pure (wpAny_throw (k _ _ (((Heap.SameBut.update ..).extBut.push _).push _) ⟨_,Heap.get?_push_size _ rfl,rfl⟩)))
end
theorem Zbk {h:Heap} {it l:Addr} {i:Nat} (x:h.IsTupleIter it l i):∃ o,h.get? it=some o/\∀ v,o.data≠.cell v:=by
 obtain ⟨o,e,c,d⟩:=x
 exact ⟨o,e,λv z=>by rw [d] at z; cases z⟩
theorem ZfL {P0:Program} {w0:World} (it l:Addr) (its:Array Value):Src P0 w0 it l its (λi h=>h.IsTupleIter it l i) (λh=>h.IsTuple l its) where
 item:=λa b c d=>ZgR a b c d
 stop:=λa b c d e=>ZgS a b c d e
 pmove:=λa b=>a.at b
 smove:=λa b=>by obtain ⟨o,e,r⟩:=a; exact ⟨o,b o e,r⟩
 obj:=λa=>Zbk a
section
variable {P0:Program} {w0:World} {A0:Around} {E0:Value->Shared->Prop} {t:Shared} {z TI TO ia ib la lb:Addr} {p1 p2:Nat->Heap->Prop} {q1 q2:Heap->Prop} {xs ys:Array Value}
theorem Zkc {k:Nat} {x y u v:Value} {Q0:Value->Shared->Prop} (S1:Src P0 w0 ia la xs p1 q1) (S2:Src P0 w0 ib lb ys p2 q2) (D:ZipApart z TI TO ia ib la lb)
  (zz:IsZip t.heap z TI TO .none) (zI:IsPair t.heap TI (.ref ia) (.ref ib)) (zO:IsPair t.heap TO u v) (a1:p1 k t.heap) (a2:p2 k t.heap) (b1:q1 t.heap) (b2:q2 t.heap) (hx:xs[k]?=some x) (hy:ys[k]?=some y)
  (fin:∀ g,IsZip g z TI TO (rawInt t.heap.objs.size)->IsPair g TO x y->p1 (k+1) g->p2 (k+1) g->IsPair g t.heap.objs.size x y->g.objs.size=t.heap.objs.size+1 ->
   (∀ c o,c≠z->c≠TO->c≠ia->c≠ib->t.heap.get? c=some o->g.get? c=some o)->Q0 (.ref t.heap.objs.size) { t with heap:=g }) :
  wpAny (model P0 w0) A0 (Builtin.«zip.__next__» ⟨[.ref z],[]⟩) (λf s'=>∃ v,f=.done (.ret v)/\Q0 v s') E0 t:=by
 show wpAny _ _ (field (.ref z) 2 >>= _) _ _ _
 refine wpAny_bind (wpAny_field zz rfl (x:=.bool false) rfl ?_)
 show wpAny _ _ (field (.ref z) 3 >>= _) _ _ _
 refine wpAny_bind (wpAny_field zz rfl (x:=.ref TI) rfl (wpAny_bind (wpAny_seqItems zI rfl ?_)))
 show wpAny _ _ (Builtin.SmallTypes.ownedTupleIsFree (.ref z) >>= _) _ _ _
 refine wpAny_bind ?_
 unfold Builtin.SmallTypes.ownedTupleIsFree
 refine wpAny_bind (wpAny_field zz rfl (x:=.none) rfl (wpAny_pure ?_))
 simp only [if_true]
 refine wpAny_bind (wpAny_rule (wpAny_bind (wpAny_field zz rfl (x:=.ref TO) rfl (wpAny_bind (wpAny_setField_rec zz (by simp) λg1 z1 c1=>?_)))))
 replace z1:IsZip g1 z TI TO .ellipsis:=z1
 refine wpAny_bind ?_
 simp only [List.forIn_cons,List.forIn_nil,List.zipIdx_cons,List.zipIdx_nil]
 refine wpAny_bind (wpAny_bind (wpAny_onRaise ?_))
 show wpAny _ _ (Builtin.SmallTypes.nextOf (.ref ia) >>= _) _ _ _
 refine wpAny_bind (S1.item (S1.pmove a1 λo e=>c1.extBut _ o D.i1z e) (S1.smove b1 λo e=>c1.extBut _ o D.l1z e) hx λg2 a12 c2=>wpAny_pure ?_)
 have o2:IsPair g2 TO u v:=c2.extBut _ _ D.TOi1 (c1.extBut _ _ D.TOz zO)
 refine wpAny_bind (wpAny_seqItems o2 rfl (wpAny_bind (wpAny_updateSeq_pair o2 λg3 o3 c3=>?_)))
 replace o3:IsPair g3 TO x v:=o3
 refine wpAny_bind (wpAny_letGo (wpAny_pure ?_))
 refine wpAny_bind (wpAny_bind (wpAny_onRaise ?_))
 show wpAny _ _ (Builtin.SmallTypes.nextOf (.ref ib) >>= _) _ _ _
 have m3:∀ c o,c≠z->c≠ia->c≠TO->t.heap.get? c=some o->g3.get? c=some o:=λc o n1 n2 n3 e=>c3.extBut _ _ n3 (c2.extBut _ _ n2 (c1.extBut _ _ n1 e))
 refine wpAny_bind (S2.item (S2.pmove a2 λo e=>m3 _ o D.i2z D.i12.symm D.TOi2.symm e) (S2.smove b2 λo e=>m3 _ o D.l2z D.l2i1 D.l2TO e) hy λg4 a24 c4=>wpAny_pure ?_)
 have o4:IsPair g4 TO x v:=c4.extBut _ _ D.TOi2 o3
 refine wpAny_bind (wpAny_seqItems o4 rfl (wpAny_bind (wpAny_updateSeq_pair o4 λg5 o5 c5=>?_)))
 replace o5:IsPair g5 TO x y:=o5
 refine wpAny_bind (wpAny_letGo (wpAny_pure (wpAny_pure ?_)))
 refine wpAny_bind (wpAny_seqItems o5 rfl (wpAny_bind (wpAny_newTuple ?_)))
 have sz:g5.objs.size=t.heap.objs.size:=by rw [c5.1,c4.1,c3.1,c2.1,c1.1]
 have m5:∀ c o,c≠z->c≠TO->c≠ia->c≠ib->t.heap.get? c=some o->g5.get? c=some o:=λc o n1 n2 n3 n4 e=>c5.extBut _ _ n2 (c4.extBut _ _ n4 (m3 c o n1 n3 n2 e))
 have z5:IsZip g5 z TI TO .ellipsis:=c5.extBut _ _ D.TOz.symm (c4.extBut _ _ D.i2z.symm (c3.extBut _ _ D.TOz.symm (c2.extBut _ _ D.i1z.symm z1)))
 have a15:p1 (k+1) g5:=S1.pmove a12 λo e=>c5.extBut _ o D.TOi1.symm (c4.extBut _ o D.i12 (c3.extBut _ o D.TOi1.symm e))
 have a25:p2 (k+1) g5:=S2.pmove a24 λo e=>c5.extBut _ o D.TOi2.symm e
 have zlt:z<g5.objs.size:=Heap.lt_size z5
 show wpAny _ _ (Builtin.SmallTypes.ownedTupleHandOut (.ref z) (.ref g5.objs.size) >>= _) _ _ _
 refine wpAny_bind ?_
 unfold Builtin.SmallTypes.ownedTupleHandOut
 have z6:IsZip (g5.push { cls:=.type "tuple",data:=.seq #[x,y] }) z TI TO .ellipsis:=Heap.get?_push_of_some _ z5
 refine wpAny_bind (wpAny_setField_rec z6 (by simp) λg7 z7 c7=>?_)
 replace z7:IsZip g7 z TI TO (rawInt g5.objs.size):=z7
 refine wpAny_setField_rec z7 (by simp) λg8 z8 c8=>?_
 replace z8:IsZip g8 z TI TO (rawInt g5.objs.size):=z8
 have m8:∀ c o,c≠z->g5.get? c=some o->g8.get? c=some o:=λc o n1 e=>c8.extBut _ _ n1 (c7.extBut _ _ n1 (Heap.get?_push_of_some _ e))
 have t8:IsPair g8 g5.objs.size x y:=c8.extBut _ _ (Nat.ne_of_gt zlt) (c7.extBut _ _ (Nat.ne_of_gt zlt) (Heap.get?_push_size _ rfl))
 have s8:g8.objs.size=g5.objs.size+1:=by rw [c8.1,c7.1,Heap.size_push]
 rw [sz] at z8 t8 s8
 refine wpAny_pure ⟨_,rfl,?_⟩
 show Q0 (.ref g5.objs.size) _
 rw [sz]
 exact fin g8 z8 (m8 _ _ D.TOz o5) (S1.pmove a15 λo e=>m8 _ o D.i1z e) (S2.pmove a25 λo e=>m8 _ o D.i2z e) t8 s8 λc o n1 n2 n3 n4 e=>m8 c o n1 (m5 c o n1 n2 n3 n4 e)
theorem Zkd {k:Nat} {u v:Value} {Q0:Fin->Shared->Prop} (hA:A0.handled=none) (S1:Src P0 w0 ia la xs p1 q1) (S2:Src P0 w0 ib lb ys p2 q2) (D:ZipApart z TI TO ia ib la lb)
  (zz:IsZip t.heap z TI TO .none) (zI:IsPair t.heap TI (.ref ia) (.ref ib)) (zO:IsPair t.heap TO u v) (a1:p1 k t.heap) (b1:q1 t.heap) (hx:xs[k]?=none)
  (fin:∀ g e,(∀ c o,c≠z->c≠TO->c≠ia->c≠ib->t.heap.get? c=some o->g.get? c=some o)->(∃ o,g.get? e=some o/\o.cls=.type "StopIteration")->E0 (.ref e) { t with heap:=g }) :
  wpAny (model P0 w0) A0 (Builtin.«zip.__next__» ⟨[.ref z],[]⟩) Q0 E0 t:=by
 show wpAny _ _ (field (.ref z) 2 >>= _) _ _ _
 refine wpAny_bind (wpAny_field zz rfl (x:=.bool false) rfl ?_)
 show wpAny _ _ (field (.ref z) 3 >>= _) _ _ _
 refine wpAny_bind (wpAny_field zz rfl (x:=.ref TI) rfl (wpAny_bind (wpAny_seqItems zI rfl ?_)))
 show wpAny _ _ (Builtin.SmallTypes.ownedTupleIsFree (.ref z) >>= _) _ _ _
 refine wpAny_bind ?_
 unfold Builtin.SmallTypes.ownedTupleIsFree
 refine wpAny_bind (wpAny_field zz rfl (x:=.none) rfl (wpAny_pure ?_))
 simp only [if_true]
 refine wpAny_bind (wpAny_rule (wpAny_bind (wpAny_field zz rfl (x:=.ref TO) rfl (wpAny_bind (wpAny_setField_rec zz (by simp) λg1 z1 c1=>?_)))))
 replace z1:IsZip g1 z TI TO .ellipsis:=z1
 refine wpAny_bind ?_
 simp only [List.forIn_cons,List.forIn_nil,List.zipIdx_cons,List.zipIdx_nil]
 refine wpAny_bind (wpAny_bind (wpAny_onRaise ?_))
 show wpAny _ _ (Builtin.SmallTypes.nextOf (.ref ia) >>= _) _ _ _
 refine wpAny_bind (S1.stop hA (S1.pmove a1 λo e=>c1.extBut _ o D.i1z e) (S1.smove b1 λo e=>c1.extBut _ o D.l1z e) hx λg2 e c2 he=>?_)
 obtain ⟨oe,g2e,ce⟩:=he
 have z2:IsZip g2 z TI TO .ellipsis:=c2 _ _ D.i1z.symm z1
 have ne:e≠z:=λq=>by rw [q,z2] at g2e; cases g2e; simp at ce
 exact wpAny_setField_rec z2 (by simp) λg3 _ c3=>fin g3 e (λc o n1 _ n3 _ q=>c3.extBut _ _ n1 (c2 _ _ n3 (c1.extBut _ _ n1 q))) ⟨oe,c3.extBut _ _ ne g2e,ce⟩
theorem ZgT {k:Nat} {x y u v:Value} {Q0:Option Value->Shared->Prop} (S1:Src P0 w0 ia la xs p1 q1) (S2:Src P0 w0 ib lb ys p2 q2) (D:ZipApart z TI TO ia ib la lb)
  (zz:IsZip t.heap z TI TO .none) (zI:IsPair t.heap TI (.ref ia) (.ref ib)) (zO:IsPair t.heap TO u v) (a1:p1 k t.heap) (a2:p2 k t.heap) (b1:q1 t.heap) (b2:q2 t.heap) (hx:xs[k]?=some x) (hy:ys[k]?=some y)
  (fin:∀ g,IsZip g z TI TO (rawInt t.heap.objs.size)->IsPair g TO x y->p1 (k+1) g->p2 (k+1) g->IsPair g t.heap.objs.size x y->g.objs.size=t.heap.objs.size+1 ->
   (∀ c o,c≠z->c≠TO->c≠ia->c≠ib->t.heap.get? c=some o->g.get? c=some o)->Q0 (some (.ref t.heap.objs.size)) { t with heap:=g }):wpAny (model P0 w0) A0 (pyNext (.ref z)) Q0 E0 t:=by
 have ty:t.TypeIs (.ref z) "zip" := ⟨_,zz,rfl⟩
 unfold pyNext
 exact wpAny_bind (wpAny_attempt (wpAny_callSpecial?_slot (name:=Str.ofString "__next__") ty F.slot_zip_next (wpAny_call_entry F.slot_zip_next ty F.entry_zip_next (Zkc S1 S2 D zz zI zO a1 a2 b1 b2 hx hy λg r1 r2 r3 r4 r5 r6 r7=>wpAny_pure (fin g r1 r2 r3 r4 r5 r6 r7)) (F.args_zip_next_1 _))))
theorem ZgU {k:Nat} {u v:Value} {Q0:Option Value->Shared->Prop} (hA:A0.handled=none) (S1:Src P0 w0 ia la xs p1 q1) (S2:Src P0 w0 ib lb ys p2 q2) (D:ZipApart z TI TO ia ib la lb)
  (zz:IsZip t.heap z TI TO .none) (zI:IsPair t.heap TI (.ref ia) (.ref ib)) (zO:IsPair t.heap TO u v) (a1:p1 k t.heap) (b1:q1 t.heap) (hx:xs[k]?=none)
  (fin:∀ g,(∀ c o,c≠z->c≠TO->c≠ia->c≠ib->t.heap.get? c=some o->g.get? c=some o)->Q0 none { t with heap:=g }):wpAny (model P0 w0) A0 (pyNext (.ref z)) Q0 E0 t:=by
 have ty:t.TypeIs (.ref z) "zip" := ⟨_,zz,rfl⟩
 unfold pyNext
 refine wpAny_bind (wpAny_attempt (wpAny_callSpecial?_slot (name:=Str.ofString "__next__") ty F.slot_zip_next (wpAny_call_entry F.slot_zip_next ty F.entry_zip_next (Zkd hA S1 S2 D zz zI zO a1 b1 hx λg e kp he=>?_) (F.args_zip_next_1 _))))
 obtain ⟨oe,ge,ce⟩:=he
 exact wpAny_bind (wpAny_isInstance (T := "StopIteration") (b:=true) ⟨oe,ge,ce⟩ isSubtype_stop (wpAny_pure (fin _ kp)))
end
abbrev zt1 (h:Heap) (a:Addr):Heap:=h.push { cls:=.type "tuple_iterator",data:=.fields #[.ref a,.int 0 0] }
abbrev zt2 (h:Heap) (a b:Addr):Heap:=(zt1 h a).push { cls:=.type "tuple_iterator",data:=.fields #[.ref b,.int 0 0] }
abbrev zt3 (h:Heap) (a b:Addr):Heap:=(zt2 h a b).push { cls:=.type "tuple",data:=.seq #[.ref h.objs.size,.ref (zt1 h a).objs.size] }
abbrev zt4 (h:Heap) (a b:Addr):Heap:=(zt3 h a b).push { cls:=.type "tuple",data:=.seq #[.none,.none] }
abbrev zt5 (h:Heap) (a b:Addr):Heap:=(zt4 h a b).push { cls:=.type "zip",data:=.fields #[.none,.bool false,.bool false,.ref (zt2 h a b).objs.size,.ref (zt3 h a b).objs.size] }
theorem Zjw (a b:Addr) (xs ys:Array Value) :
  Meets (Builtin.«zip.__new__» ⟨[.type "zip",.ref a,.ref b],[]⟩) (λ_ R s=>s.heap.IsTuple a xs/\s.heap.IsTuple b ys/\R (.ok (.ret (.ref (zt4 s.heap a b).objs.size))) { s with heap:=zt5 s.heap a b }) :=
 .of_wp λP0 w0 A0 R t h=>by
  obtain ⟨hp,gn,dr,tk,os⟩:=t
  obtain ⟨ta,tb,h⟩:=h
  have sub:=sub_zip
  have qa:Heap.IsTuple (Shared.heap ⟨hp,gn,dr,tk,os⟩) a xs:=ta
  have qb:Heap.IsTuple (Shared.heap ⟨hp.push { cls:=.type "tuple_iterator",data:=.fields #[.ref a,.int 0 0] },gn,dr,tk,os⟩) b ys:=Heap.IsTuple.push tb _
  wp_walk using wpAny_pyIter_tuple qa,wpAny_pyIter_tuple qb
  exact ⟨_,rfl,h⟩
theorem Zke {P0:Program} {w0:World} {A0:Around} {E0:Value->Shared->Prop} {t:Shared} {a b:Addr} {xs ys:Array Value} {Q0:Value->Shared->Prop} (ta:t.heap.IsTuple a xs) (tb:t.heap.IsTuple b ys)
  (h:∀ g,IsZip g (t.heap.objs.size+4) (t.heap.objs.size+2) (t.heap.objs.size+3) .none->IsPair g (t.heap.objs.size+2) (.ref t.heap.objs.size) (.ref (t.heap.objs.size+1))->IsPair g (t.heap.objs.size+3) .none .none ->
   g.IsTupleIter t.heap.objs.size a 0->g.IsTupleIter (t.heap.objs.size+1) b 0->(∀ c o,t.heap.get? c=some o->g.get? c=some o)->Q0 (.ref (t.heap.objs.size+4)) { t with heap:=g }) :
  wpAny (model P0 w0) A0 (call (.type "zip") [.ref a,.ref b]) Q0 E0 t:=by
 refine callType_new F.called_zip (by decide) (F.typeCall_zip_2 _ _) (F.newCall_zip_2 _ _) (λobj=>F.args_object_init_3 obj _ _) F.entry_zip_new (Zjw a b xs ys) ⟨ta,tb,?_⟩
 have n1:(zt1 t.heap a).objs.size=t.heap.objs.size+1:=Heap.size_push ..
 have n2:(zt2 t.heap a b).objs.size=t.heap.objs.size+2:=by rw [Heap.size_push,n1]
 have n3:(zt3 t.heap a b).objs.size=t.heap.objs.size+3:=by rw [Heap.size_push,n2]
 have n4:(zt4 t.heap a b).objs.size=t.heap.objs.size+4:=by rw [Heap.size_push,n3]
 have r5:(zt5 t.heap a b).get? (zt4 t.heap a b).objs.size=some _:=Heap.get?_push_size _ rfl
 have r4:(zt5 t.heap a b).get? (zt3 t.heap a b).objs.size=some _:=Heap.get?_push_of_some _ (Heap.get?_push_size _ rfl)
 have r3:(zt5 t.heap a b).get? (zt2 t.heap a b).objs.size=some _:=Heap.get?_push_of_some _ (Heap.get?_push_of_some _ (Heap.get?_push_size _ rfl))
 have r2:(zt5 t.heap a b).get? (zt1 t.heap a).objs.size=some _:=Heap.get?_push_of_some _ (Heap.get?_push_of_some _ (Heap.get?_push_of_some _ (Heap.get?_push_size _ rfl)))
 have r1:(zt5 t.heap a b).get? t.heap.objs.size=some _:=Heap.get?_push_of_some _ (Heap.get?_push_of_some _ (Heap.get?_push_of_some _ (Heap.get?_push_of_some _ (Heap.get?_push_size _ rfl))))
 show _/\_
 rw [n2,n3,n4] at r5
 rw [n1,n2] at r3
 rw [n3] at r4
 rw [n1] at r2
 rw [n4]
 refine ⟨⟨_,r5,rfl⟩,h _ r5 r3 r4 ⟨_,r1,rfl,rfl⟩ ⟨_,r2,rfl,rfl⟩ λc o q=>?_⟩
 iterate 5 refine Heap.get?_push_of_some _ ?_
 exact q
def Itzt (K:W.Frag) (a b:Addr):It :=
 ⟨λi H=>∃ xs ys x y,SqT K H a xs/\SqT K H b ys/\xs[i]?=some x/\ys[i]?=some y,
 λi H v H'=>∃ t x y,H t=none/\v=.ref t/\H'=upd H t (.tup [x,y])/\(∀ xs,SqT K H a xs->xs[i]?=some x)/\∀ ys,SqT K H b ys->ys[i]?=some y,
 λi H=>∃ xs,SqT K H a xs/\(∃ ys,SqT K H b ys)/\xs.length<=i⟩
theorem Zkf {P:Program} {w:World} {K:W.Frag} {elts:List PySem.Expr} {x1} {pos:Pos} (z TI TO i1 i2 a b:Addr) (D:ZipApart z TI TO i1 i2 a b) :
  Turn P w K (.Tuple elts x1 pos) (Itzt K a b) [z,TI,TO,i1,i2] z (λi h=>IsZip h z TI TO .none/\IsPair h TI (.ref i1) (.ref i2)/\(∃ u v,IsPair h TO u v)/\h.IsTupleIter i1 a i/\h.IsTupleIter i2 b i) where
 mem:=by simp
 obj:=λi h st c hc=>by
  obtain ⟨hz,hTI,⟨u,v,hTO⟩,h1,h2⟩:=st
  simp only [mem_cons,not_mem_nil,or_false] at hc
  rcases hc with rfl | rfl | rfl | rfl | rfl
  .exact ⟨_,hz,λv e=>by cases e⟩
  .exact ⟨_,hTI,λv e=>by cases e⟩
  .exact ⟨_,hTO,λv e=>by cases e⟩
  .exact Zbk h1
  .exact Zbk h2
 keep:=λi h h' st k=>by
  obtain ⟨hz,hTI,⟨u,v,hTO⟩,h1,h2⟩:=st
  exact ⟨k z (by simp) _ hz,k TI (by simp) _ hTI,⟨u,v,k TO (by simp) _ hTO⟩,h1.at λo e=>k i1 (by simp) o e,h2.at λo e=>k i2 (by simp) o e⟩
 item:=by
  intro X hP hw hK hc i pins s σ H E I hf st hg
  subst hP hw hK
  obtain ⟨xs,ys,x,y,hqa,hqb,hx,hy⟩:=hg
  obtain ⟨hz,hTI,⟨u0,v0,hTO⟩,h1,h2⟩:=st
  obtain ⟨itsa,ra,pa,za⟩:=I.tuple hqa
  obtain ⟨itsb,rb,pb,zb⟩:=I.tuple hqb
  obtain ⟨ux,hux,rux⟩:=ra.get hx
  obtain ⟨uy,huy,ruy⟩:=rb.get hy
  refine ZgT (ZfL i1 a itsa.toArray) (ZfL i2 b itsb.toArray) D hz hTI hTO h1 h2 (show s.heap.IsTuple a itsa.toArray from pa) (show s.heap.IsTuple b itsb.toArray from pb) (x:=ux) (y:=uy) (by simpa using hux) (by simpa using huy) λh' a1 a2 a3 a4 a5 a6 a7=>?_
  refine ⟨.ref s.heap.objs.size,rfl,?_⟩
  refine wpAny_letOwnedTupleGo_zip a1 λh2' hz' hs'=>?_
  have hzlt:z<s.heap.objs.size:=Heap.lt_size hz
  have kk:∀ c o,c∉[z,TI,TO,i1,i2]->s.heap.get? c=some o->h2'.get? c=some o:=λc o hc e=>by
   simp only [mem_cons,not_mem_nil,or_false,not_or] at hc
   exact hs'.extBut c o hc.1 (a7 c o hc.1 hc.2.2.1 hc.2.2.2.1 hc.2.2.2.2 e)
  have tp:h2'.get? s.heap.objs.size=some { cls:=.type "tuple",data:=.seq #[ux,uy] }:=hs'.extBut _ _ (Nat.ne_of_gt hzlt) a5
  have I1:Inv X pins σ (upd H s.heap.objs.size (.tup [x,y])) { s with heap:=h2',toks:=s.toks } :=
   I.laidCh hf kk ⟨by show 2<=sizeLine; decide,[ux,uy],.cons rux (.cons ruy .nil),⟨_,tp,rfl,_,rfl⟩⟩
  have TIk:h2'.get? TI=s.heap.get? TI:=by
   rw [hTI]
   exact hs'.extBut _ _ D.TIz (a7 _ _ D.TIz D.TITO D.TIi1 D.TIi2 hTI)
  refine ⟨.ref s.heap.objs.size,_,I1,rfl,⟨s.heap.objs.size,x,y,I.hok.fresh (Nat.le_refl _),rfl,rfl,λxs' h=>by rw [I.tuple_inj h hqa]; exact hx,λys' h=>by rw [I.tuple_inj h hqb]; exact hy⟩,⟨hz',?_,⟨ux,uy,hs'.extBut _ _ D.TOz a2⟩,a3.at λo e=>hs'.extBut _ o D.i1z e,a4.at λo e=>hs'.extBut _ o D.i2z e⟩,λc hc=>?_⟩
  .show h2'.get? TI=_
   rw [TIk]; exact hTI
  .have hc':=hc
   have hlt:c<s.heap.objs.size:=by
    simp only [mem_cons,not_mem_nil,or_false] at hc'
    rcases hc' with rfl | rfl | rfl | rfl | rfl
    .exact hzlt
    .exact Heap.lt_size hTI
    .exact Heap.lt_size hTO
    .obtain ⟨o,e,_⟩:=Zbk h1; exact Heap.lt_size e
    .obtain ⟨o,e,_⟩:=Zbk h2; exact Heap.lt_size e
   rw [Zc (Nat.ne_of_lt hlt)]
   exact (hf c hc).1
 done:=by
  intro X hP hw hK hc i pins s σ H E I hf st hg
  subst hP hw hK
  obtain ⟨xs,hqa,⟨ys,hqb⟩,hend⟩:=hg
  obtain ⟨hz,hTI,⟨u0,v0,hTO⟩,h1,h2⟩:=st
  obtain ⟨itsa,ra,pa,za⟩:=I.tuple hqa
  obtain ⟨itsb,rb,pb,zb⟩:=I.tuple hqb
  have la:=ra.length
  refine ZgU (I.ok.hd hc) (ZfL i1 a itsa.toArray) (ZfL i2 b itsb.toArray) D hz hTI hTO h1 (show s.heap.IsTuple a itsa.toArray from pa) (by simp; lia) λh' hk=>⟨rfl,?_⟩
  refine I.turnedCh (t':=s.toks) hf λc o hc e=>?_
  simp only [mem_cons,not_mem_nil,or_false,not_or] at hc
  exact hk c o hc.1 hc.2.2.1 hc.2.2.2.1 hc.2.2.2.2 e
 self:=λ_ _ _ _ _ st h=>wpAny_pyIter_zip st.1 h
def iZipS (K:W.Frag) (ta:TA):TI:=λσ H R=>ta σ H λvs H1=>∃ a b,vs=[.ref a,.ref b]/\((∃ xs ys,SqL K H1 a xs/\SqL K H1 b ys/\R (Itz K a b) H1)\/∃ xs ys,SqT K H1 a xs/\SqT K H1 b ys/\R (Itzt K a b) H1)
section
variable {X:Cx}
theorem Znn {elts:List PySem.Expr} {x1} {tpos:Pos} {a b:PySem.Expr} {ta:TA} {p pos:Pos} (hg:Gl X "zip") (hm:X.mg "zip" = none) (ha:PA X [a,b] ta) (hs:starEach [a,b] X.env=[(false,eval a X.env),(false,eval b X.env)]:=by rfl) (hs2:starEach [b] X.env=[(false,eval b X.env)]:=by rfl) :
  PI X (.Tuple elts x1 tpos) (.Call (.Name "zip" p) [a,b] [] pos) (iZipS X.K ta):=by
 intro pins s σ H R I h
 refine Call_ (Zbw I hg hm Zim (PyProof.Rows.callWith_type1 (thA (ha pos pins s σ H _ I h) λus s1 vs H1 I1 r1 q1=>?_) (by rw [hs,hs2]) (by rw [hs2]; rfl)))
 obtain ⟨l1,l2,e,q⟩:=q1
 subst e
 obtain ⟨v1,v2,rfl,r,r'⟩:=vals2 r1
 cases r
 cases r'
 have big:∀ c,c∈[s1.heap.objs.size+4,s1.heap.objs.size+2,s1.heap.objs.size+3,s1.heap.objs.size,s1.heap.objs.size+1]->s1.heap.objs.size<=c:=λc hc=>by
  simp only [mem_cons,not_mem_nil,or_false] at hc
  rcases hc with rfl | rfl | rfl | rfl | rfl <;> first | exact Nat.le_refl _ | exact Nat.le_add_right _ _
 rcases q with ⟨xs,ys,hqa,hqb,q⟩ | ⟨xs,ys,hqa,hqb,q⟩
 .obtain ⟨itsa,ra,pa,za⟩:=I1.list hqa
  obtain ⟨itsb,rb,pb,zb⟩:=I1.list hqb
  have lt1:l1<s1.heap.objs.size:=by obtain ⟨o,e,_⟩:=pa.isList; exact Heap.lt_size e
  have lt2:l2<s1.heap.objs.size:=by obtain ⟨o,e,_⟩:=pb.isList; exact Heap.lt_size e
  refine call_zip_2 pa.isList pb.isList λh' g5 g3 g4 g1 g2 hsz kp=>wpAny_pyIter_zip g5 ?_
  exact ⟨_,[_,_,_,_,_],_,_,H1,rfl,I1.kept (t':=s1.toks) kp,Zil _ _ _ _ _ l1 l2 (ZeA s1.heap.objs.size l1 l2 lt1 lt2),⟨g5,g3,⟨_,_,g4⟩,g1,g2⟩,λc hc=>I1.fpOk (big c hc) (I1.hok.fresh (big c hc)),q⟩
 .obtain ⟨itsa,ra,pa,za⟩:=I1.tuple hqa
  obtain ⟨itsb,rb,pb,zb⟩:=I1.tuple hqb
  have lt1:l1<s1.heap.objs.size:=Zmx pa
  have lt2:l2<s1.heap.objs.size:=Zmx pb
  refine Zke (show s1.heap.IsTuple l1 itsa.toArray from pa) (show s1.heap.IsTuple l2 itsb.toArray from pb) λh' g5 g3 g4 g1 g2 kp=>wpAny_pyIter_zip g5 ?_
  exact ⟨_,[_,_,_,_,_],_,_,H1,rfl,I1.kept (t':=s1.toks) kp,Zkf _ _ _ _ _ l1 l2 (ZeA s1.heap.objs.size l1 l2 lt1 lt2),⟨g5,g3,⟨_,_,g4⟩,g1,g2⟩,λc hc=>I1.fpOk (big c hc) (I1.hok.fresh (big c hc)),q⟩
end
theorem Zkg {K:W.Frag} {a b:Addr} {xs zs:List V} {l:Addr} {g:TG} {tc:TT} {te:TE} {σ0:St} {H0:Hp} {Qf:Hp->Prop} (hlen:xs.length=zs.length) (Pv:Nat->List V->St->Hp->Prop) (h0:Pv 0 [] σ0 H0)
  (hl:∀ i ys σ' H',i<=xs.length->Pv i ys σ' H'->SqT K H' a xs/\SqT K H' b zs)
  (hs:∀ i x z t ys σ' H',i<xs.length->xs[i]?=some x->zs[i]?=some z->ys.length<=i->Pv i ys σ' H'->H' t=none->g (.ref t) σ' (upd H' t (.tup [x,z])) λσ2 H3=>tc σ2 H3 λb H4=>if b=true then te σ2 H4 λy H5=>CNx xs.length l Pv i ys σ2 y H5 else CNo xs.length Pv i ys σ2 H4)
  (hd:∀ ys σ' H',ys.length<=xs.length->Pv xs.length ys σ' H'->Qf H') :
  ∃ W:Nat->Nat->List V->St->Hp->Prop,(∃ m,W 0 m [] σ0 H0)/\∀ i m ys σ' H',W i m ys σ' H' ->
  ((Itzt K a b).stop i H'/\Qf H')\/((Itzt K a b).go i H'/\∀ x H2,(Itzt K a b).yld i H' x H2->g x σ' H2 λσ2 H3=>tc σ2 H3 λb H4 =>
    if b=true then te σ2 H4 λy H5=>H5 l=some (.lst ys)/\ys.length<sizeLine/\∃ m',m'<m/\W (i+1) m' (ys++[y]) σ2 (upd H5 l (.lst (ys++[y])))
    else ∃ m',m'<m/\W (i+1) m' ys σ2 H4):=by
 refine ⟨λi m ys σ' H'=>m=xs.length - i/\i<=xs.length/\ys.length<=i/\Pv i ys σ' H',⟨xs.length,rfl,Nat.zero_le _,Nat.le_refl _,h0⟩,?_⟩
 rintro i m ys σ' H' ⟨rfl,hi,hy,p⟩
 obtain ⟨qa,qb⟩:=hl i ys σ' H' hi p
 by_cases hlt:i<xs.length
 .have hlt':i<zs.length:=by lia
  refine .inr ⟨⟨xs,zs,xs[i],zs[i],qa,qb,by simp [hlt],by simp [hlt']⟩,λx H2 zq=>?_⟩
  obtain ⟨t,u,v,ht,rfl,rfl,z1,z2⟩:=zq
  exact hs i u v t ys σ' H' hlt (z1 xs qa) (z2 zs qb) hy p ht
 .have e:i=xs.length:=by lia
  subst e
  exact .inl ⟨⟨xs,qa,⟨zs,qb⟩,Nat.le_refl _⟩,hd ys σ' H' hy p⟩
section
variable {X:Cx} {K:W.Frag} {tg:PySem.Expr}
theorem Zdk (hK:X.K=K) {l:PySem.Expr} {tl:TE} (hl:PE X l tl):PI X tg l (iList K tl):=hK ▸ ZmU hl
theorem Zkh (hK:X.K=K) {l:PySem.Expr} {tl:TE} (hl:PE X l tl):PI X tg l (iTup K tl):=hK ▸ Zoa hl
end
theorem Zki:bootBuiltins "set" = some (.type "set"):=by first | rfl | decide +kernel | kernel_rfl
def ItDn (hi:Int) (n:Nat):It:=⟨λi _=>i<n,λi H x H'=>H'=H/\x=.int (hi - i),λi _=>n<=i⟩
theorem Zkj {P:Program} {w:World} {K:W.Frag} {tg:PySem.Expr} (it:Addr) (lo:Int) (n:Nat):Turn P w K tg (ItDn lo n) [it] it (λi h=>IsRangeIter h it (lo+(i:Nat) * (-1)) ((n:Int) - (i:Nat)) (-1)) where
 mem:=by simp
 obj:=λi h st b hb=>by
  have e:b=it:=by simpa using hb
  subst e
  exact ⟨_,st,λv z=>by
   have z':Data.fields _=Data.cell v:=z
   cases z'⟩
 keep:=λi h h' st k=>k it (by simp) _ st
 item:=by
  intro X hP hw hK hc i pins s σ H E I hf st hg
  subst hP hw hK
  obtain ⟨f0,f1,f2,f3,f4,f5⟩:=hf it (by simp)
  have W:=Walks.range (prog:=X.prog) (w:=X.w) (I.ok.hd hc) it lo (-1) n
  refine W.item i s _ _ hg st λv h' tk hv st' kk=>?_
  obtain ⟨t,rfl⟩:=hv
  have I1:Inv X pins σ H { s with heap:=h',toks:=tk }:=I.turned (λb o hb e=>kk b o (by simpa using hb) e) f0 f1 f3 f4 f5
  refine ⟨_,rfl,go_of (s:={ s with heap:=h',toks:=tk }) (n := "range_iterator") st' rfl rfl (by decide) ⟨.int (lo - i),H,I1,⟨t,?_⟩,⟨rfl,rfl⟩,st',λb hb=>(hf b hb).1⟩⟩
  rw [show lo+(i:Int) * (-1)=lo - i by lia]
 done:=by
  intro X hP hw hK hc i pins s σ H E I hf st hg
  subst hP hw hK
  obtain ⟨f0,f1,f2,f3,f4,f5⟩:=hf it (by simp)
  exact wpAny_pyNext_range_end (I.ok.hd hc) st (by have:n<=i:=hg; lia) λh' eb=>⟨rfl,I.turned (t':=s.toks) (λb o hb e=>eb b o hb e) f0 f1 f3 f4 f5⟩
 self:=λ_ _ _ _ _ st h=>wpAny_pyIter_rangeiter st h
section
variable {X:Cx} {tg:PySem.Expr}
theorem Zkk {pins:List (Addr×Obj)} {σ:St} {H:Hp} {s:Shared} {R:It->Hp->Prop} {E:Value->Shared->Prop} {lo hi:Int} {t u v:Tok} {tk:Nat} (I:Inv X pins σ H s) (h1 : -(2 ^ 62)<=lo) (h2:lo<2 ^ 62) (h3 : -(2 ^ 62)<=hi) (h4:hi<2 ^ 62)
  (q:R (ItDn lo (lo - hi).toNat) H):wpAny (model X.prog X.w) X.A (pyIter (.ref s.heap.objs.size)) (PIE X pins σ tg R) E { s with heap:=s.heap.push { cls:=.type "range",data:=.fields #[.int lo t,.int hi u,.int (-1) v] },toks:=tk }:=by
 refine wpAny_pyIter_range (IsRange.new ..) (W.small_down h1 h2 h3 h4) ?_
 have I1:Inv X pins σ H { s with heap:=s.heap.push { cls:=.type "range",data:=.fields #[.int lo t,.int hi u,.int (-1) v] },toks:=tk }:=I.kept λb o e=>Heap.get?_push_of_some _ e
 refine ⟨(s.heap.push { cls:=.type "range",data:=.fields #[.int lo t,.int hi u,.int (-1) v] }).objs.size,[(s.heap.push { cls:=.type "range",data:=.fields #[.int lo t,.int hi u,.int (-1) v] }).objs.size],_,_,H,rfl,
  I1.kept (t':=tk) λb o e=>Heap.get?_push_of_some _ e,Zkj _ lo (lo - hi).toNat,?_,λb hb=>?_,q⟩
 .have e1:lo+((0:Nat):Int) * (-1)=lo:=by simp
  have e2:(((lo - hi).toNat:Nat):Int) - ((0:Nat):Int)=Builtin.Range.rangeSize lo hi (-1):=by rw [W.rangeSize_downNat]; lia
  show IsRangeIter _ _ (lo+((0:Nat):Int) * (-1)) ((((lo - hi).toNat:Nat):Int) - ((0:Nat):Int)) (-1)
  rw [e1,e2]
  exact Heap.get?_push_size _ rfl
 .have e:b=(s.heap.push { cls:=.type "range",data:=.fields #[.int lo t,.int hi u,.int (-1) v] }).objs.size:=by simpa using hb
  subst e
  exact I1.fpOk (Nat.le_refl _) (I1.hok.fresh (Nat.le_refl _))
def iRngD (ta:TA):TI:=λσ H R=>ta σ H λvs H1=>∃ i j:Int,vs=[.int i,.int j,.int (-1)]/\(-(2 ^ 61)<=i/\i<2 ^ 61 /\ -(2 ^ 61)<=j/\j<2 ^ 61)/\R (ItDn i (i - j).toNat) H1
theorem ZgV {a b c:PySem.Expr} {ta:TA} {p pos:Pos} (hg:Gl X "range") (hm:X.mg "range" = none) (ha:PA X [a,b,c] ta) (hs:starEach [a,b,c] X.env=(false,eval a X.env) :: starEach [b,c] X.env:=by rfl) (hpl:(backTo pos (starEach [b,c] X.env)).any (·.1)=false:=by rfl) :
  PI X tg (.Call (.Name "range" p) [a,b,c] [] pos) (iRngD ta):=by
 intro pins s σ H R I h
 refine Call_ (Zbw I hg hm boot_range (PyProof.Rows.callWith_type1 (thA (ha pos pins s σ H _ I h) λus s1 vs H1 I1 r1 q1=>?_) hs hpl))
 obtain ⟨i,j,e,⟨q1,q2,q3,q4⟩,q⟩:=q1
 subst e
 cases r1 with
 | cons r rr =>
  cases rr with
  | cons r' rr =>
   cases rr with
   | cons r'' rr =>
    cases rr
    obtain ⟨t,rfl⟩:=r
    obtain ⟨t',rfl⟩:=r'
    obtain ⟨t'',rfl⟩:=r''
    exact call_range_3 (by decide) (Zkk I1 (by lia) (by lia) (by lia) (by lia) q) (.inl (PyProof.noPylong_small (by lia)))
end
theorem Ziz {hi:Int} {n:Nat} {g:TG} {tb:TS} {D:Ends} {σ:St} {H:Hp} (Pv:Nat->St->Hp->Prop) (h0:Pv 0 σ H)
  (hs:∀ i σ H,i<n->Pv i σ H->g (.int (hi - i)) σ H λσ2 H2=>tb { D with nx:=Pv (i+1),ct:=Pv (i+1),bk:=D.nx } σ2 H2) (hd:∀ σ H,Pv n σ H->D.nx σ H) :
  ∃ W:Nat->Nat->St->Hp->Prop,(∃ m,W 0 m σ H)/\∀ i m σ H,W i m σ H ->
   ((ItDn hi n).stop i H/\D.nx σ H)\/((ItDn hi n).go i H/\∃ N:St->Hp->Prop,(∀ σ' H',N σ' H'->∃ m',m'<m/\W (i+1) m' σ' H')/\∀ x H',(ItDn hi n).yld i H x H'->g x σ H' λσ2 H2=>tb { D with nx:=N,ct:=N,bk:=D.nx } σ2 H2):=by
 refine ⟨λi m σ H=>m=n - i/\i<=n/\Pv i σ H,⟨n,by simp,Nat.zero_le _,h0⟩,?_⟩
 rintro i m σ H ⟨rfl,hi,p⟩
 by_cases hlt:i<n
 .refine .inr ⟨hlt,Pv (i+1),λσ' H' p'=>⟨n - (i+1),by lia,rfl,hlt,p'⟩,λx H' y=>?_⟩
  obtain ⟨e,y⟩:=y
  subst e y
  exact hs i σ _ hlt p
 .have e:i=n:=by lia
  subst e
  exact .inl ⟨Nat.le_refl _,hd σ H p⟩
theorem Zno {K:W.Frag} {a b:Addr} {xs ys:List V} {g:TG} {tb:TS} {D:Ends} {σ:St} {H:Hp} (Pv:Nat->St->Hp->Prop) (hlen:xs.length=ys.length) (h0:Pv 0 σ H) (hl:∀ i σ H,i<=xs.length->Pv i σ H->SqL K H a xs/\SqL K H b ys)
  (hs:∀ i x y t σ H,xs[i]?=some x->ys[i]?=some y->Pv i σ H->H t=none->g (.ref t) σ (upd H t (.tup [x,y])) λσ2 H2=>tb { D with nx:=Pv (i+1),ct:=Pv (i+1),bk:=D.nx } σ2 H2) (hd:∀ σ H,Pv xs.length σ H->D.nx σ H) :
  ∃ W:Nat->Nat->St->Hp->Prop,(∃ m,W 0 m σ H)/\∀ i m σ H,W i m σ H ->
   ((Itz K a b).stop i H/\D.nx σ H)\/((Itz K a b).go i H/\∃ N:St->Hp->Prop,(∀ σ' H',N σ' H'->∃ m',m'<m/\W (i+1) m' σ' H')/\∀ x H',(Itz K a b).yld i H x H'->g x σ H' λσ2 H2=>tb { D with nx:=N,ct:=N,bk:=D.nx } σ2 H2):=by
 refine ⟨λi m σ H=>m=xs.length - i/\i<=xs.length/\Pv i σ H,⟨xs.length,by simp,Nat.zero_le _,h0⟩,?_⟩
 rintro i m σ H ⟨rfl,hi,p⟩
 obtain ⟨q1,q2⟩:=hl i σ H hi p
 by_cases hlt:i<xs.length
 .have hlt2:i<ys.length:=hlen ▸ hlt
  refine .inr ⟨⟨xs,ys,xs[i],ys[i],q1,q2,by simp [hlt],by simp [hlt2]⟩,Pv (i+1),λσ' H' p'=>⟨xs.length - (i+1),by lia,rfl,hlt,p'⟩,λx H' y=>?_⟩
  obtain ⟨t,x1,y1,ht,rfl,rfl,hx,hy⟩:=y
  exact hs i x1 y1 t σ _ (hx xs q1) (hy ys q2) p ht
 .have e:i=xs.length:=by lia
  subst e
  exact .inl ⟨⟨xs,ys,q1,q2,.inl (Nat.le_refl _)⟩,hd σ H p⟩
end L2
namespace L2.Stb
open PySem PySem.Spec PyProof.Rows
def Rk (ρ:Keyed->Nat) (xs:Array Keyed) (i:Nat):Nat:=(xs[i]?).elim 0 ρ
theorem Zdl {ρ:Keyed->Nat} {xs ys:Array Keyed} {i j:Nat} (h:xs[i]?=ys[j]?):Rk ρ xs i=Rk ρ ys j:=by unfold Rk; rw [h]
def VLt (ρ:Keyed->Nat) (xs:Array Keyed) (i j:Nat):Prop:=K xs i<K xs j\/(K xs i=K xs j/\Rk ρ xs i<Rk ρ xs j)
theorem VLt.trans {ρ:Keyed->Nat} {xs:Array Keyed} {i j k:Nat} (h1:VLt ρ xs i j) (h2:VLt ρ xs j k):VLt ρ xs i k:=by
 unfold VLt at *
 lia
def Inc (ρ:Keyed->Nat) (xs:Array Keyed) (n:Nat):Prop:=∀ i j,i<j->j<n->VLt ρ xs i j
def Dec (ρ:Keyed->Nat) (xs:Array Keyed) (n:Nat):Prop:=∀ i j,i<j->j<n->VLt ρ xs j i
def Idn (ρ:Keyed->Nat) (xs:Array Keyed) (n:Nat):Prop:=∀ i,n<=i->i<xs.size->Rk ρ xs i=i
theorem Idn.mono {ρ:Keyed->Nat} {xs:Array Keyed} {m n:Nat} (h:Idn ρ xs m) (l:m<=n):Idn ρ xs n:=λi hi hs=>h i (Nat.le_trans l hi) hs
theorem ZiA {ρ:Keyed->Nat} {xs:Array Keyed} {i:Nat} (h:i<xs.size):(xs.toList.map ρ)[i]?=some (Rk ρ xs i):=by
 unfold Rk
 rw [getElem?_map,Array.getElem?_toList,Array.getElem?_eq_getElem h]
 rfl
structure Inj (ρ:Keyed->Nat) (xs:Array Keyed):Prop where
 inj:∀ i j,i<xs.size->j<xs.size->Rk ρ xs i=Rk ρ xs j->i=j
 lt:∀ i,i<xs.size->Rk ρ xs i<xs.size
theorem Zou {ρ:Keyed->Nat} {xs a₀:Array Keyed} (p:xs.Perm a₀) (h0:Idn ρ a₀ 0):Inj ρ xs:=by
 have e0:a₀.toList.map ρ=List.range a₀.size:=by
  apply List.ext_getElem?
  intro i
  by_cases h:i<a₀.size
  .rw [ZiA h,getElem?_range h,h0 i (Nat.zero_le _) h]
  .rw [getElem?_eq_none (by simpa using h),getElem?_eq_none (by simpa using h)]
 have pm:(xs.toList.map ρ).Perm (List.range a₀.size):=by rw [← e0]; exact (Array.perm_iff_toList_perm.mp p).map ρ
 have nd:(xs.toList.map ρ).Nodup:=pm.nodup_iff.mpr List.nodup_range
 refine ⟨λi j hi hj e=>?_,λi hi=>?_⟩
 .refine (List.getElem?_inj (by rw [length_map,Array.length_toList]; exact hi) nd).mp ?_
  rw [ZiA hi,ZiA hj,e]
 .have m:Rk ρ xs i∈xs.toList.map ρ:=mem_of_getElem? (ZiA hi)
  have:=List.mem_range.mp (pm.mem_iff.mp m)
  rw [p.size_eq]
  exact this
theorem Inj.below {ρ:Keyed->Nat} {xs:Array Keyed} (I:Inj ρ xs) {n:Nat} (h:Idn ρ xs n) {i:Nat} (hi:i<n) (hs:i<xs.size):Rk ρ xs i<n:=by
 by_cases c:Rk ρ xs i<n
 .exact c
 .have l:=I.lt i hs
  have e:=h (Rk ρ xs i) (by lia) l
  have:=I.inj _ _ l hs e
  lia
theorem ZeH {ρ:Keyed->Nat} {xs:Array Keyed} {src d:Nat} (hs:src<xs.size) (hd:d<=src) (k:Nat) :
  Rk ρ (bubble xs src d) k=if k=src - d then Rk ρ xs src else if src - d<k/\k<=src then Rk ρ xs (k - 1) else Rk ρ xs k:=by
 have e:=getElem?_bubble hs d hd k
 by_cases h1:k=src - d
 .rw [if_pos h1] at e ⊢
  exact Zdl e
 .rw [if_neg h1] at e ⊢
  by_cases h2:src - d<k/\k<=src
  .rw [if_pos h2] at e ⊢
   exact Zdl e
  .rw [if_neg h2] at e ⊢
   exact Zdl e
theorem Zas {ρ:Keyed->Nat} {xs:Array Keyed} {i j:Nat} (hj:j<=xs.size) (k:Nat) :
  Rk ρ (mirror xs i j ((j - i) / 2)) k=if i<=k/\k<j then Rk ρ xs (i+j - 1 - k) else Rk ρ xs k:=by
 have e:=getElem?_mirror_all (i:=i) hj k
 by_cases h1:i<=k/\k<j
 .rw [if_pos h1] at e ⊢
  exact Zdl e
 .rw [if_neg h1] at e ⊢
  exact Zdl e
section
variable {prog:Program} {w:World} {A:Around} {E:Value->Shared->Prop} {s:Shared} {a₀:Array Keyed} {ρ:Keyed->Nat}
theorem SB.inj {st:SortSt} (h:SBase a₀ st) (hr:Idn ρ a₀ 0):Inj ρ (arrOf st):=Zou h.perm hr
theorem Zov {st:SortSt} {n ok:Nat} {Q:Bool->SortSt->Prop} (h0:IntKeys a₀) (hr:Idn ρ a₀ 0) (hn:n<=a₀.size) (hok:ok<=n) (h1k:1<=ok) (hB:SBase a₀ st) (hs:Inc ρ (arrOf st) ok) (hI:Idn ρ (arrOf st) ok)
  (h:∀ st',SBase a₀ st'->Inc ρ (arrOf st') n->Q true st'):wpS (model prog w) A E s (binarySort' 0 n ok) Q st:=by
 rw [binarySort'_eq]
 simp only [Nat.zero_add]
 refine wpS_bind (wpS_mono (wpS_forRange (I:=λk c st1=>c=(none,())/\SBase a₀ st1/\Inc ρ (arrOf st1) (min k n)/\Idn ρ (arrOf st1) (min k n))
  (Q:=λc st1=>c=(none,())/\SBase a₀ st1/\Inc ρ (arrOf st1) n) ?turn ?last ?first) ?after)
 case after =>
  rintro c st1 ⟨rfl,b1,i1⟩
  exact wpS_pure (h st1 b1 i1)
 case first =>
  rw [show min (max ok 1) n=ok by lia]
  exact ⟨rfl,hB,hs,hI⟩
 case last =>
  rintro c st1 ⟨hc,b1,i1,_⟩
  rw [show min (max (max ok 1) n) n=n by lia] at i1
  exact ⟨hc,b1,i1⟩
 case turn =>
  rintro k c st1 hak hkn ⟨rfl,b1,i1,d1⟩
  rw [show min k n=k by lia] at i1 d1
  have hk:k<a₀.size:=by lia
  have sz:=b1.size
  have J:=SB.inj b1 hr
  have rk:Rk ρ (arrOf st1) k=k:=d1 k (Nat.le_refl _) (by lia)
  have lo:∀ m,m<k->¬ K (arrOf st1) k<K (arrOf st1) m->VLt ρ (arrOf st1) m k:=λm hm c=>by
   have:=J.below d1 hm (by lia)
   unfold VLt
   lia
  refine wpS_bind (wpS_mono (wpS_forRange (I:=λx c st2=>st2=st1/\∃ l r,c=(none,l,r)/\l<=r/\r<=k/\r - l<=k - x/\(∀ i,i<l->VLt ρ (arrOf st1) i k)/\(∀ i,r<=i->i<k->VLt ρ (arrOf st1) k i))
   (Q:=λc st2=>st2=st1/\∃ l r,c=(none,l,r)/\l<=k/\(∀ i,i<l->VLt ρ (arrOf st1) i k)/\(∀ i,l<=i->i<k->VLt ρ (arrOf st1) k i)) ?iturn ?ilast ?ifirst) ?iafter)
  case ifirst=>exact ⟨rfl,0,k,rfl,by lia,by lia,by lia,λi hi=>absurd hi (by lia),λi p q=>absurd q (by lia)⟩
  case ilast =>
   rintro c st2 ⟨rfl,l,r,rfl,hlr,hrk,hm,u1,u2⟩
   have e:l=r:=by lia
   subst e
   exact ⟨rfl,l,l,rfl,hrk,u1,u2⟩
  case iturn =>
   rintro x c st2 _ hxk ⟨rfl,l,r,rfl,hlr,hrk,hm,u1,u2⟩
   dsimp only
   by_cases hge:l ≥ r
   .rw [if_pos hge]
    have e:l=r:=by lia
    subst e
    exact wpS_pure ⟨rfl,l,l,rfl,hrk,u1,u2⟩
   .rw [if_neg hge]
    refine wpS_bind (wpS_ltK b1 h0 hk (by lia) ?_)
    by_cases c:K (arrOf st2) k<K (arrOf st2) ((l+r) / 2)
    .simp only [c,decide_true,if_true]
     refine wpS_pure ⟨rfl,l,(l+r) / 2,rfl,by lia,by lia,by lia,u1,λi p q=>?_⟩
     by_cases e:i=(l+r) / 2
     .subst e; exact .inl c
     .exact VLt.trans (.inl c) (i1 _ _ (by lia) q)
    .simp only [c,decide_false,Bool.false_eq_true,if_false]
     refine wpS_pure ⟨rfl,(l+r) / 2+1,r,rfl,by lia,by lia,by lia,λi p=>?_,u2⟩
     have v:=lo _ (by lia) c
     by_cases e:i=(l+r) / 2
     .subst e; exact v
     .exact VLt.trans (i1 _ _ (by lia) (by lia)) v
  case iafter =>
   rintro c st2 ⟨rfl,l,r,rfl,hlk,u1,u2⟩
   show wpS _ _ _ _ (do moveDown' k l; pure (ForInStep.yield (none,()))) _ _
   rw [moveDown'_eq]
   refine wpS_bind (wpS_modify (wpS_pure ⟨rfl,b1.setArr (bubble_perm _ _ _),?_,?_⟩))
   .rw [show min (k+1) n=k+1 by lia]
    have hks:k<(arrOf st2).size:=by lia
    intro i j hij hj
    show VLt ρ (bubble (arrOf st2) k (k - l)) i j
    unfold VLt
    rw [K_bubble hks (by lia),K_bubble hks (by lia),ZeH hks (by lia),ZeH hks (by lia),show k - (k - l)=l by lia]
    by_cases a1:i=l
    .have b1':¬ j=l:=by lia
     have b2':l<j/\j<=k:=by lia
     rw [if_pos a1,if_pos a1,if_neg b1',if_neg b1',if_pos b2',if_pos b2']
     exact u2 _ (by lia) (by lia)
    .rw [if_neg a1,if_neg a1]
     by_cases a2:j=l
     .have b1':¬ (l<i/\i<=k):=by lia
      rw [if_pos a2,if_pos a2,if_neg b1',if_neg b1']
      exact u1 _ (by lia)
     .rw [if_neg a2,if_neg a2]
      by_cases a3:l<i/\i<=k
      .have b1':l<j/\j<=k:=by lia
       rw [if_pos a3,if_pos a3,if_pos b1',if_pos b1']
       exact i1 _ _ (by lia) (by lia)
      .rw [if_neg a3,if_neg a3]
       by_cases a4:l<j/\j<=k
       .rw [if_pos a4,if_pos a4]
        by_cases a5:i<j - 1
        .exact i1 _ _ a5 (by lia)
        .exfalso; lia
       .rw [if_neg a4,if_neg a4]
        exact i1 _ _ (by lia) (by lia)
   .rw [show min (k+1) n=k+1 by lia]
    intro i hi hs'
    have hs2:i<(arrOf st2).size:=by
     have:(arrOf (setArr st2 (bubble (arrOf st2) k (k - l)))).size=(arrOf st2).size:=bubble_size _ _ _
     lia
    show Rk ρ (bubble (arrOf st2) k (k - l)) i=i
    rw [ZeH (by lia) (by lia),if_neg (by lia),if_neg (by lia)]
    exact d1 i (by lia) hs2
theorem Zmz {st:SortSt} {a nrem:Nat} {Q:AscSt->SortSt->Prop} (h0:IntKeys a₀) (hr:Idn ρ a₀ 0) (hn:nrem<=a₀.size) (ha:1<=a) (han:a<=nrem) (hB:SBase a₀ st) (hs:Inc ρ (arrOf st) a) (hI:Idn ρ (arrOf st) a)
  (h:∀ n,a<=n->n<=nrem->Inc ρ (arrOf st) n->(n=nrem\/K (arrOf st) n<K (arrOf st) (n - 1))->Q (none,n) st):wpS (model prog w) A E s (ascLoop a nrem) Q st:=by
 unfold ascLoop
 have sz:=hB.size
 have J:=SB.inj hB hr
 refine wpS_forRange (I:=λx c st1=>st1=st/\c=(none,x)/\Inc ρ (arrOf st) x) ?turn ?last ⟨rfl,rfl,hs⟩
 case last =>
  rintro c st1 ⟨rfl,rfl,i1⟩
  rw [show max a nrem=nrem by lia] at i1 ⊢
  exact h nrem han (Nat.le_refl _) i1 (.inl rfl)
 case turn =>
  rintro x c st1 hax hxn ⟨rfl,rfl,i1⟩
  dsimp only
  refine wpS_bind (wpS_ltK hB h0 (by lia) (by lia) ?_)
  by_cases c:K (arrOf st1) x<K (arrOf st1) (x - 1)
  .simp only [c,decide_true,if_true]
   exact wpS_pure (h x hax (by lia) i1 (.inr c))
  .simp only [c,decide_false,Bool.false_eq_true,if_false]
   refine wpS_pure ⟨rfl,rfl,λi j hij hj=>?_⟩
   by_cases hjx:j<x
   .exact i1 i j hij hjx
   .have ej:j=x:=by lia
    subst ej
    have dx:=hI.mono hax
    have r1:=J.below dx (i:=j - 1) (by lia) (by lia)
    have r2:=dx j (Nat.le_refl _) (by lia)
    have v:VLt ρ (arrOf st1) (j - 1) j:=by unfold VLt; lia
    by_cases e:i=j - 1
    .subst e; exact v
    .exact VLt.trans (i1 i (j - 1) (by lia) (by lia)) v
theorem Zkl {st:SortSt} {n nrem:Nat} {Q:Option Nat->SortSt->Prop} (h0:IntKeys a₀) (hr:Idn ρ a₀ 0) (hn:nrem<=a₀.size) (h1:1<=n) (hnn:n<=nrem) (hB:SBase a₀ st) (hs:Dec ρ (arrOf st) n) (hI:Idn ρ (arrOf st) n)
  (h:∀ m st',SBase a₀ st'->1<=m->m<=nrem->Inc ρ (arrOf st') m->Idn ρ (arrOf st') m->Q (some m) st'):wpS (model prog w) A E s (tail3 n nrem) Q st:=by
 unfold tail3
 have sz:=hB.size
 refine wpS_bind (wpS_reverse ?_)
 have b1:SBase a₀ (setArr st (mirror (arrOf st) 0 n ((n - 0) / 2))):=hB.setArr (mirror_perm _ _ _ _)
 have d1:Idn ρ (mirror (arrOf st) 0 n ((n - 0) / 2)) n:=λi hi hs'=>by
  rw [mirror_size] at hs'
  rw [Zas (by lia),if_neg (by lia)]
  exact hI i hi hs'
 refine wpS_bind (Zmz h0 hr hn h1 hnn b1 ?_ d1 λm m1 m2 i2 _=>wpS_pure (h m _ b1 (by lia) m2 i2 (d1.mono m1)))
 intro i j hij hj
 show VLt ρ (mirror (arrOf st) 0 n ((n - 0) / 2)) i j
 unfold VLt
 rw [K_mirror (by lia),K_mirror (by lia),Zas (by lia),Zas (by lia),if_pos (by lia),if_pos (by lia),if_pos (by lia),if_pos (by lia)]
 exact hs _ _ (by lia) (by lia)
structure DI (ρ:Keyed->Nat) (xs:Array Keyed) (x q:Nat):Prop where
 l:q+1<=x
 sz:x<=xs.size
 d:Dec ρ xs (x - (q+1))
 u:∀ i j,i<x - (q+1)->x - (q+1)<=j->j<x->K xs j<K xs i
 e:∀ i,x - (q+1)<=i->i<x->K xs i=K xs (x - 1)
 f:Idn ρ xs (x - (q+1))
theorem DI.dec0 {xs:Array Keyed} {x:Nat} (h:DI ρ xs x 0):Dec ρ xs x:=λi j hij hj=>by
 by_cases c:j<x - (0+1)
 .exact h.d i j hij c
 .exact .inl (h.u i j (by lia) (by lia) hj)
theorem DI.rev {xs:Array Keyed} {x q:Nat} (h:DI ρ xs x q):Dec ρ (mirror xs (x - (q+1)) x ((x - (x - (q+1))) / 2)) x/\Idn ρ (mirror xs (x - (q+1)) x ((x - (x - (q+1))) / 2)) x:=by
 have hl:=h.l
 have hz:=h.sz
 refine ⟨λi j hij hj=>?_,λi hi hs=>?_⟩
 .have ke:=K_mirror_equal (i:=x - (q+1)) hz h.e
  unfold VLt
  rw [ke,ke,Zas hz,Zas hz]
  by_cases c1:j<x - (q+1)
  .rw [if_neg (by lia),if_neg (by lia)]
   exact h.d i j hij c1
  .by_cases c2:i<x - (q+1)
   .exact .inl (h.u i j c2 (by lia) hj)
   .rw [if_pos (by lia),if_pos (by lia)]
    refine .inr ⟨(h.e j (by lia) hj).trans (h.e i (by lia) (by lia)).symm,?_⟩
    rw [h.f _ (by lia) (by lia),h.f _ (by lia) (by lia)]
    lia
 .rw [mirror_size] at hs
  rw [Zas hz,if_neg (by lia)]
  exact h.f i (by lia) hs
theorem DI.of {xs:Array Keyed} {x:Nat} (hx:1<=x) (hz:x<xs.size) (hd:Dec ρ xs x) (hf:Idn ρ xs x) (hk:K xs x<K xs (x - 1)):DI ρ xs (x+1) 0:=by
 refine ⟨by lia,by lia,hd,λi j hi hj hj'=>?_,λi hi hi'=>?_,hf⟩
 .have ej:j=x:=by lia
  subst ej
  by_cases e:i=j - 1
  .subst e; exact hk
  .have v:=hd i (j - 1) (by lia) (by lia)
   unfold VLt at v
   lia
 .have ei:i=x:=by lia
  subst ei
  rfl
theorem DI.more {xs:Array Keyed} {x q:Nat} (h:DI ρ xs x q) (hz:x<xs.size) (hk:K xs x=K xs (x - 1)):DI ρ xs (x+1) (q+1):=by
 have hl:=h.l
 have e0:x+1 - (q+1+1)=x - (q+1):=by lia
 refine ⟨by lia,by lia,by rw [e0]; exact h.d,λi j hi hj hj'=>?_,λi hi hi'=>?_,by rw [e0]; exact h.f⟩
 .rw [e0] at hi hj
  by_cases c:j<x
  .exact h.u i j hi hj c
  .have ej:j=x:=by lia
   subst ej
   rw [hk]
   exact h.u i (j - 1) hi (by lia) (by lia)
 .rw [show x+1 - 1=x by lia]
  by_cases c:i<x
  .rw [hk]; exact h.e i (by lia) c
  .have ei:i=x:=by lia
   subst ei
   rfl
theorem Znp {st:SortSt} {n nrem:Nat} {Q:DescSt->SortSt->Prop} (h0:IntKeys a₀) (hn:nrem<=a₀.size) (hnn:n<=nrem) (hB:SBase a₀ st) (hs:DI ρ (arrOf st) n 0)
  (h:∀ m q st',SBase a₀ st'->m<=nrem->DI ρ (arrOf st') m q->Q (none,m,q) st'):wpS (model prog w) A E s (descLoop n nrem) Q st:=by
 unfold descLoop
 refine wpS_forRange (I:=λx c st1=>∃ q,c=(none,x,q)/\SBase a₀ st1/\DI ρ (arrOf st1) x q) ?turn ?last ⟨0,rfl,hB,hs⟩
 case last =>
  rintro c st1 ⟨q,rfl,b1,d1⟩
  rw [show max n nrem=nrem by lia] at d1 ⊢
  exact h nrem q st1 b1 (Nat.le_refl _) d1
 case turn =>
  rintro x c st1 hax hxn ⟨q,rfl,b1,d1⟩
  dsimp only
  have sz:=b1.size
  have hl:=d1.l
  refine wpS_bind (wpS_ltK b1 h0 (by lia) (by lia) ?_)
  by_cases c:K (arrOf st1) x<K (arrOf st1) (x - 1)
  .simp only [c,decide_true,if_true]
   by_cases hq:q > 0
   .rw [if_pos hq]
    obtain ⟨r1,r2⟩:=d1.rev
    refine wpS_bind (wpS_reverse (wpS_pure ⟨0,rfl,b1.setArr (mirror_perm _ _ _ _),DI.of (by lia) (by show x<(mirror _ _ _ _).size; rw [mirror_size]; lia) r1 r2 ?_⟩))
    show K (mirror _ _ _ _) x<K (mirror _ _ _ _) (x - 1)
    rw [K_mirror_equal d1.sz d1.e,K_mirror_equal d1.sz d1.e]
    exact c
   .rw [if_neg hq]
    have e:q=0:=by lia
    subst e
    exact wpS_pure ⟨0,rfl,b1,DI.of (by lia) (by lia) d1.dec0 (d1.f.mono (by lia)) c⟩
  .simp only [c,decide_false,Bool.false_eq_true,if_false]
   refine wpS_bind (wpS_ltK b1 h0 (by lia) (by lia) ?_)
   by_cases c2:K (arrOf st1) (x - 1)<K (arrOf st1) x
   .simp only [c2,decide_true,if_true]
    exact wpS_pure (h x q st1 b1 (by lia) d1)
   .simp only [c2,decide_false,Bool.false_eq_true,if_false]
    exact wpS_pure ⟨q+1,rfl,b1,d1.more (by lia) (by lia)⟩
theorem Zkm {st:SortSt} {n nrem:Nat} {Q:Option Nat->SortSt->Prop} (h0:IntKeys a₀) (hr:Idn ρ a₀ 0) (hn:nrem<=a₀.size) (hnn:n+1<=nrem) (hB:SBase a₀ st) (hs:DI ρ (arrOf st) (n+1) 0)
  (h:∀ m st',SBase a₀ st'->1<=m->m<=nrem->Inc ρ (arrOf st') m->Idn ρ (arrOf st') m->Q (some m) st'):wpS (model prog w) A E s (descPart n nrem) Q st:=by
 unfold descPart
 refine wpS_bind (wpS_lift (wpAny_rule ⟨rfl,?_⟩))
 refine wpS_bind (Znp h0 hn hnn hB hs λm q st1 b1 m2 d1=>?_)
 dsimp only
 have hl:=d1.l
 by_cases hq:q > 0
 .rw [if_pos hq]
  obtain ⟨r1,r2⟩:=d1.rev
  exact wpS_bind (wpS_reverse (Zkl h0 hr hn (by lia) m2 (b1.setArr (mirror_perm _ _ _ _)) r1 r2 h))
 .rw [if_neg hq]
  have e:q=0:=by lia
  subst e
  exact Zkl h0 hr hn (by lia) m2 b1 d1.dec0 (d1.f.mono (by lia)) h
theorem ZlH {st:SortSt} {nrem:Nat} {Q:Option Nat->SortSt->Prop} (h0:IntKeys a₀) (hr:Idn ρ a₀ 0) (hn:nrem<=a₀.size) (h1:1<=nrem) (hB:SBase a₀ st) (hI:Idn ρ (arrOf st) 0)
  (h:∀ m st',SBase a₀ st'->1<=m->m<=nrem->Inc ρ (arrOf st') m->Idn ρ (arrOf st') m->Q (some m) st'):wpS (model prog w) A E s (countRun' 0 nrem) Q st:=by
 rw [countRun0_eq]
 have sz:=hB.size
 refine wpS_bind (Zmz h0 hr hn (Nat.le_refl 1) h1 hB (λi j hij hj=>absurd hj (by lia)) (hI.mono (Nat.zero_le _)) λn n1 n2 i1 hor=>?_)
 dsimp only
 by_cases e:n=nrem
 .rw [if_pos (by simpa using e)]
  exact wpS_pure (h n st hB n1 n2 i1 (hI.mono (Nat.zero_le _)))
 .rw [if_neg (by simpa using e)]
  have lt:K (arrOf st) n<K (arrOf st) (n - 1):=hor.resolve_left e
  by_cases g:n > 1
  .rw [if_pos g]
   refine wpS_bind (wpS_ltK hB h0 (by lia) (by lia) ?_)
   by_cases c:K (arrOf st) 0<K (arrOf st) (n - 1)
   .simp only [c,decide_true,if_true]
    exact wpS_pure (h n st hB n1 n2 i1 (hI.mono (Nat.zero_le _)))
   .simp only [c,decide_false,Bool.false_eq_true,if_false]
    have all:∀ k,0<=k->k<n->K (arrOf st) k=K (arrOf st) (n - 1):=by
     intro k _ hk
     have a1:k=0\/VLt ρ (arrOf st) 0 k:=by
      by_cases z:k=0
      .exact .inl z
      .exact .inr (i1 0 k (by lia) hk)
     have a2:k=n - 1\/VLt ρ (arrOf st) k (n - 1):=by
      by_cases z:k=n - 1
      .exact .inl z
      .exact .inr (i1 k (n - 1) (by lia) (by lia))
     have a3:=i1 0 (n - 1) (by lia) (by lia)
     unfold VLt at a1 a2 a3
     rcases a1 with a1 | a1
     .subst a1; lia
     .rcases a2 with a2 | a2
      .subst a2; rfl
      .lia
    have ke:=K_mirror_equal (xs:=arrOf st) (i:=0) (j:=n) (by lia) all
    refine wpS_bind (wpS_reverse (Zkm h0 hr hn (by lia) (hB.setArr (mirror_perm _ _ _ _)) (DI.of (by lia) (by show n<(mirror _ _ _ _).size; rw [mirror_size]; lia) (λi j hij hj=>?_) (λi hi hs=>?_) ?_) h))
    .show VLt ρ (mirror (arrOf st) 0 n ((n - 0) / 2)) j i
     unfold VLt
     rw [ke,ke,all i (by lia) (by lia),all j (by lia) hj,Zas (by lia),Zas (by lia),if_pos (by lia),if_pos (by lia),hI _ (by lia) (by lia),hI _ (by lia) (by lia)]
     lia
    .have hs':i<(mirror (arrOf st) 0 n ((n - 0) / 2)).size:=hs
     rw [mirror_size] at hs'
     show Rk ρ (mirror (arrOf st) 0 n ((n - 0) / 2)) i=i
     rw [Zas (by lia),if_neg (by lia)]
     exact hI i (by lia) hs'
    .show K (mirror (arrOf st) 0 n ((n - 0) / 2)) n<K (mirror (arrOf st) 0 n ((n - 0) / 2)) (n - 1)
     rw [ke,ke]
     exact lt
  .rw [if_neg g]
   have en:n=1:=by lia
   subst en
   exact Zkm h0 hr hn (by lia) hB (DI.of (by lia) (by lia) (λi j hij hj=>absurd hj (by lia)) (hI.mono (Nat.zero_le _)) lt) h
def SEnd (ρ:Keyed->Nat) (a₀:Array Keyed) (st:SortSt):Prop:=(arrOf st).Perm a₀/\failedOf st=none/\pendingOf st=#[(0,a₀.size,0)]/\Inc ρ (arrOf st) a₀.size
theorem SEnd.of {st:SortSt} (hB:SBase a₀ st) (hs:Inc ρ (arrOf st) a₀.size):SEnd ρ a₀ (setPending st ((pendingOf st).push (0,a₀.size,0))) :=
 ⟨hB.perm,hB.failed,by show (pendingOf st).push _=_; rw [hB.pend]; rfl,hs⟩
theorem Znq {st:SortSt} {Q:Unit->SortSt->Prop} (h0:IntKeys a₀) (hr:Idn ρ a₀ 0) (hB:SBase a₀ st) (hI:Idn ρ (arrOf st) 0) (h2:2<=a₀.size) (h64:a₀.size<64)
  (h:∀ st',(arrOf st').Perm a₀->failedOf st'=none->Inc ρ (arrOf st') a₀.size->Q () st'):wpS (model prog w) A E s sortRuns' Q st:=by
 rw [sortRuns'_eq]
 refine wpS_bind (wpS_get ?_)
 dsimp only
 have mr:minRun' a₀.size a₀.size 0=a₀.size:=by
  obtain ⟨f,hf⟩:∃ f,a₀.size=f+1:=⟨a₀.size - 1,by lia⟩
  have e:minRun' (f+1) a₀.size 0=a₀.size:=by
   rw [minRun'_succ,if_pos h64]
   rfl
  rwa [← hf] at e
 simp only [hB.size,mr]
 refine wpS_bind (wpS_mono (wpS_forRange
  (I:=λx c st1=>(x=0/\c=(none,0)/\SBase a₀ st1/\Idn ρ (arrOf st1) 0)\/(1<=x/\c=(none,a₀.size)/\SEnd ρ a₀ st1))
  (Q:=λc st1=>c=(none,a₀.size)/\SEnd ρ a₀ st1) ?turn ?last (.inl ⟨rfl,rfl,hB,hI⟩)) ?after)
 case last =>
  rintro c st1 (⟨hx,_⟩ | ⟨_,hc,hD⟩)
  .lia
  .exact ⟨hc,hD⟩
 case turn =>
  rintro x c st1 _ hx (⟨rfl,rfl,b1,i1⟩ | ⟨hx1,rfl,hD⟩)
  .dsimp only
   rw [if_neg (by lia)]
   simp only [Nat.sub_zero,Nat.min_self,Nat.zero_add]
   refine wpS_bind (ZlH h0 hr (Nat.le_refl _) (by lia) b1 i1 λm st2 b2 m1 m2 s2 d2=>?_)
   dsimp only
   by_cases lt:m<a₀.size
   .rw [if_pos lt]
    refine wpS_bind (wpS_lift (wpAny_rule ⟨rfl,?_⟩))
    refine wpS_bind (Zov h0 hr (Nat.le_refl _) m2 m1 b2 s2 d2 λst3 b3 s3=>?_)
    simp only [Bool.not_true,Bool.false_eq_true,if_false]
    refine wpS_bind (wpS_get ?_)
    have hb:(pendingOf st3).back?=none:=by
     rw [b3.pend]
     rfl
    rw [hb]
    dsimp only
    exact wpS_bind (wpS_modify (wpS_pure (.inr ⟨by lia,rfl,SEnd.of b3 s3⟩)))
   .rw [if_neg lt]
    have em:m=a₀.size:=by lia
    subst em
    refine wpS_bind (wpS_get ?_)
    have hb:(pendingOf st2).back?=none:=by
     rw [b2.pend]
     rfl
    rw [hb]
    dsimp only
    exact wpS_bind (wpS_modify (wpS_pure (.inr ⟨by lia,rfl,SEnd.of b2 s2⟩)))
  .dsimp only
   rw [if_pos (Nat.le_refl _)]
   exact wpS_pure ⟨rfl,hD⟩
 case after =>
  rintro c st1 ⟨rfl,hD⟩
  dsimp only
  refine wpS_bind (wpS_mono (wpS_forRange (I:=λ_ c st2=>st2=st1/\c=(none,())) (Q:=λc st2=>st2=st1/\c=(none,())) ?_ (λ_ _ hh=>hh) ⟨rfl,rfl⟩) ?_)
  .rintro x c st2 _ _ ⟨rfl,rfl⟩
   refine wpS_bind (wpS_get ?_)
   rw [if_pos (by rw [hD.2.2.1]; exact Nat.le_refl 1)]
   exact wpS_pure ⟨rfl,rfl⟩
  .rintro c st2 ⟨rfl,rfl⟩
   exact wpS_pure (h _ hD.1 hD.2.1 hD.2.2.2)
end
end L2.Stb
namespace L2
open PySem PySem.Spec PyProof.Rows
def BMod (base:Heap) (mg:Str->Option Value):Prop:=∃ bm o,mg "__builtins__" = some (.ref bm)/\bm≠builtinsNs/\bm≠mainGlobals/\base.get? bm=some o/\o.cls=.type "module" /\ o.dict=some builtinsNs/\o.data=.plain
section
variable {X:Cx} {pins:List (Addr×Obj)} {σ:St} {H:Hp} {s:Shared}
theorem Inv.grown {P c':Addr} {pos:Pos} {qual:Str} {ps:Array Value} {h':Heap} {tk:Nat} (I:Inv X pins σ H s) (hP:H P=some (.tbl pos qual)) (hx:Heap.ExtBut P s.heap h') (hge:s.heap.objs.size<=c') (hrec:h'.CodeRec (.ref c') qual)
  (htr:TriplesOk ps.toList) (hnf:codeAmong pos ps.toList=none) (htb:h'.get? P=some { cls:=.none,data:=.fields (ps++#[rawInt pos.line,rawInt pos.col,.ref c']) }) :
  ∃ oc vs t,h'.get? c'=some oc/\oc.data=.fields vs/\vs[1]?=some (.str qual t)/\Inv X pins σ (upd H c' (.frz oc (.own P))) { s with heap:=h',toks:=tk }:=by
 obtain ⟨c,oc,vs,t,z,hoc,hd,hv⟩:=hrec
 cases z
 have fr:H c'=none:=I.hok.fresh hge
 have nP:∀ b,H b=none->b≠P:=λb n z=>by rw [z,hP] at n; cases n
 have nc:∀ b u,H b=some u->b≠c':=λb u e=>Ze e fr
 have nh:∀ b o,s.heap.get? b=some o->b≠c':=λb o e=>Nat.ne_of_lt (Nat.lt_of_lt_of_le (Heap.lt_size e) hge)
 have cP:c'≠P:=λz=>by rw [z,hP] at fr; cases fr
 refine ⟨oc,vs,t,hoc,hd,hv,I.step (g':=s.gens) (d':=s.drawn) (t':=tk) (ch:=[]) (h':=h') (H':=upd H c' (.frz oc (.own P))) (λ_ z=>nomatch z) (λb o _ _ _ e n=>hx b o (nP b n) e) (λb o _ _ _ e n=>⟨o.slots,hx b o (nP b n) e⟩)
  (λb o _ e n=>by rw [Zc (nh b o e)]; exact n) (λb o _ e=>?_) (λb xs e=>by rw [Zc (nc b _ e)]; exact e) (λb o u e=>by rw [Zc (nc b _ e)]; exact e) (λb p q e=>by rw [Zc (nc b _ e)]; exact e) (λm hm=>?_) (λb u e=>?_) I.bare⟩
 .by_cases hb:b=P
  .subst hb; exact ⟨_,htb⟩
  .exact ⟨o,hx b o hb e⟩
 .obtain ⟨o,es,ep,ho,r⟩:=hm
  exact ⟨o,es,ep,hx _ o (nP _ I.free) ho,r⟩
 .by_cases hb:b=c'
  .subst hb
   rw [Za] at e
   cases e
   exact ⟨hoc,_,hoc⟩
  .rw [Zc hb] at e
   by_cases hbP:b=P
   .subst hbP
    rw [hP] at e
    cases e
    have e1:(ps++#[rawInt pos.line,rawInt pos.col,Value.ref c']).toList=ps.toList++[rawInt pos.line,rawInt pos.col,.ref c']:=by simp
    refine ⟨_,htb,?_,λcv hc=>?_⟩
    .rw [e1]; exact TriplesOk_snoc _ _ _ _ htr
    .rw [e1,codeAmong_snoc _ htr hnf] at hc
     cases hc
     exact ⟨c',oc,vs,t,rfl,Za,hd,hv⟩
   .refine (I.hok b u e).stay (λd v hd' q=>hx d v ?_ q) (λd q=>by rw [Zc (nc d _ q)]; exact q) (λd xs q=>by rw [Zc (nc d _ q)]; exact q) λd oz q=>by rw [Zc (nc d _ q)]; exact q
    rcases hd' with rfl | hd'
    .exact hbP
    .intro z; rw [z,hP] at hd'; cases hd'
structure LamOk (X:Cx) (scope:Scope) (x:Str) (fr:List Str) (js:List Nat):Prop where
 kind:scope.kind=.function
 co:scope.isCoroutine=false
 gen:scope.isGenerator=false
 nocell:∀ y∈scope.names,y.2≠.cell
 par:scope.names.lookup x=some .local
 free:∀ y∈scope.names,y.2=.free->X.env.kindOf y.1=some .cell\/X.env.kindOf y.1=some .free
 len:fr.length=js.length
 js:∀ (k j:Nat),js[k]?=some j->fr[k]?=X.N[j]?
 jf:∀ (k:Nat) (y:Str),fr[k]?=some y->scope.names.lookup y=some .free
def cxLam (X:Cx) (A:Around) (N:List Str) (qual:Str) (scope:Scope) (f:Addr) (cd:Value) (cl:List (Str×Addr)) (s:Shared) (H:Hp):Cx where
 prog:=X.prog
 w:=X.w
 K:=X.K
 mg:=X.mg
 base:=X.base
 A:=A.deeper (W.envX qual scope s.heap.objs.size f cd cl)
 N:=N
 s₀:=s
 H₀:=H
 env:=W.envX qual scope s.heap.objs.size f cd cl
 outer:=X.stack
 stack:=W.envX qual scope s.heap.objs.size f cd cl :: X.stack
 ex:=[]
 calm:=true
 fn:=λ_=>false
 pn:=[]
 xe:=λ_ _=>False
theorem Znr {A:Around} {x:Str} {fr:List Str} {js:List Nat} {qual:Str} {scope:Scope} {f:Addr} {cd:Value} {cl:List (Str×Addr)} {s1:Shared} {u:Value} {v:V} (c:LamOk X scope x fr js) (I:Inv X pins σ H s) (hA:A.frames=some X.stack) (hh:A.handled=none)
  (cl1:∀ x c,cl.lookup x=some c->X.env.cells.lookup x=some c) (cl2:∀ p∈scope.names,p.2=.free->∃ c,cl.lookup p.1=some c) (r:RelV v u)
  (hn:s1.heap.Ns s.heap.objs.size λy=>[(x,u)].reverse.lookup y) (hk:∀ b o,s.heap.get? b=some o->s1.heap.get? b=some o) (hos:s1.os=s.os) (hg:s1.gens=s.gens) :
  Inv (cxLam X A (x :: fr) qual scope f cd cl s H) [] (some v :: js.map λj=>(σ[j]?).join) H s1:=by
 have noA:∀ b:Addr,b∉(cxLam X A (x :: fr) qual scope f cd cl s H).ex:=λb z=>absurd (show b∈([]:List Addr) from z) (by simp)
 have ok:(cxLam X A (x :: fr) qual scope f cd cl s H).Ok:=by
  refine ⟨I.ok.mod,c.kind,rfl,rfl,Nat.le_refl _,λy z d e1 e2=>I.ok.inj y z d (cl1 _ _ e1) (cl1 _ _ e2),λy hy=>?_,λy d z _=>absurd z (by simp [cxLam]),λ_=>hh,Around.frames_deeper hA,.inr ⟨rfl,rfl⟩,λb z=>absurd z (noA b),I.bs,Nat.le_trans I.ok.bsz I.sz,λb _ _=>noA b,λb z=>absurd z (noA b),I.stack,I.stkFree⟩
  have hy:scope.names.lookup y=some .cell\/scope.names.lookup y=some .free:=hy
  rcases hy with hy | hy
  .exact absurd rfl (c.nocell _ (ZU hy))
  .exact cl2 _ (ZU hy) rfl
 refine ⟨ok,hos,by rw [hg]; exact I.bare,Un.kept hk,⟨_,hn,λi y v' e1 e2 e3=>?_⟩,λy d e=>?_,I.hok.fresh (Nat.le_refl _),λy d e=>I.freeC y d (cl1 y d e),λp hp=>absurd (show p∈([]:List (Addr×Obj)) from hp) (by simp),I.hok.kept hk,?_⟩
 .cases i with
  | zero =>
   have e1':x=y:=by simpa [cxLam] using e1
   have e2':v=v':=by simpa using e2
   subst e1'
   subst e2'
   refine ⟨u,r,.inl ⟨c.par,?_⟩⟩
   show ([(x,u)]:List (Str×Value)).reverse.lookup x=some u
   simp
  | succ k =>
   have e1':fr[k]?=some y:=by simpa [cxLam] using e1
   rw [List.getElem?_cons_succ,getElem?_map] at e2
   cases q:js[k]? with
   | none=>rw [q] at e2; cases e2
   | some j =>
    rw [q] at e2
    have e2':(σ[j]?).join=some v':=by simpa using e2
    have e4:σ[j]?=some (some v'):=by
     cases z:σ[j]? with
     | none=>rw [z] at e2'; cases e2'
     | some o=>rw [z] at e2'; rw [show o=some v' from e2']
    have hXN:X.N[j]?=some y:=(c.js k j q).symm.trans e1'
    have hfr:=c.jf k y e1'
    have hk2:=c.free _ (ZU hfr) rfl
    have vis:Vis X.env.scope y:=by
     rcases hk2 with z | z
     .exact .inr (.inl z)
     .exact .inr (.inr z)
    obtain ⟨m,_,hl⟩:=I.loc
    obtain ⟨u',r',l⟩:=hl j y v' hXN e4 vis
    refine ⟨u',r',?_⟩
    rcases l with ⟨z,_⟩ | ⟨_,d,e,⟨od,ho,hd⟩⟩
    .rcases hk2 with y' | y'
     .rw [show X.env.kindOf y=_ from z] at y'; cases y'
     .rw [show X.env.kindOf y=_ from z] at y'; cases y'
    .obtain ⟨d',e'⟩:=cl2 _ (ZU hfr) rfl
     have z':=cl1 _ _ e'
     have:d'=d:=by rw [e] at z'; exact (Option.some.inj z').symm
     subst this
     exact .inr ⟨.inr hfr,d',e',⟨od,hk _ _ ho,hd⟩⟩
 .obtain ⟨v',⟨o,ho,hd⟩⟩:=I.cell y d (cl1 y d e)
  exact ⟨v',o,hk _ _ ho,hd⟩
 .show (some v :: _:List (Option V)).length=(x :: fr).length
  rw [length_cons,length_cons,length_map,c.len]
theorem ZlI {A:Around} {x:Str} {fr:List Str} {js:List Nat} {name qual:Str} {params:Arguments} {body:PySem.Expr} {scope:Scope} {f:Addr} {pm cd ct:Value} {cl:List (Str×Addr)} {u:Value} {v:V} {te:TE} {Q:VK} {E:Value->Shared->Prop} {of:Obj} (c:LamOk X scope x fr js) (I:Inv X pins σ H s)
  (hA:A.frames=some X.stack) (hh:A.handled=none) (hdep:A.depth<recursionLimit)
  (cl1:∀ x c,cl.lookup x=some c->X.env.cells.lookup x=some c) (cl2:∀ p∈scope.names,p.2=.free->∃ c,cl.lookup p.1=some c)
  (ho:s.heap.get? f=some of) (hof:of.data=.func (W.kla_fn name qual params body scope cl pm cd ct)) (hcd:s.heap.CodeRec cd qual)
  (hb:∀ u,bindArgs (W.kla_fn name qual params body scope cl pm cd ct) ⟨[u],[]⟩=pure [(x,u)]) (r:RelV v u)
  (he:∀ s,PE (cxLam X A (x :: fr) qual scope f cd cl s H) body te) (h:te (some v :: js.map λj=>(σ[j]?).join) H Q) :
  wpAny (model X.prog X.w) A (call (.ref f) [u]) (EP X pins σ Q) E s:=by
 refine wpAny_call (codeAny_mono (R:=λr s'=>∃ u',r=.ok (.ret u')/\CE X.stack X.prog X.w H s Q u' s') (W.kla_callFunE hdep ho hof c.co c.gen rfl hcd (by
  rw [hb u]
  refine wpAny_pure ?_
  refine wpAny_newFunctionEnv c.nocell (λy hy=>by rw [List.mem_singleton.mp hy]; exact c.par) (λh₁ hns hsb=>?_) c.kind
  have hk₁:∀ b o,s.heap.get? b=some o->h₁.get? b=some o:=λb o e=>hsb.extBut b o (Nat.ne_of_lt (Heap.lt_size e)) (Heap.get?_push_of_some _ e)
  refine ⟨I.nolimit.keeps hk₁,?_⟩
  have J:=Znr (qual:=qual) (f:=f) (cd:=cd) (s1:={ s with heap:=h₁,toks:=s.toks+[(x,u)].length }) c I hA hh cl1 cl2 r hns hk₁ rfl rfl
  refine W.kla_codeExpr (wpAny_mono (he s [] _ _ H Q J h) (λu' s' hq=>?_) λ_ _ z=>z.elim)
  obtain ⟨v',H',J',rv,q⟩:=hq
  exact ⟨u',rfl,v',H',J'.os,J'.bare,J'.base,J'.hok,rv,q⟩)) λr s' hq=>?_)
 obtain ⟨u',rfl,hq⟩:=hq
 exact I.after hq
theorem ZlJ {P c0:Addr} {x:Str} {fr:List Str} {js:List Nat} {params:Arguments} {body:PySem.Expr} {scope:Scope} {pos:Pos} {R:Value->Shared->Prop} (c:LamOk X scope x fr js) (I:Inv X pins σ H s) (hc0:X.env.code=.ref c0) (hcd:W.codeHdIn X.K c0 P=true)
  (bm:BMod X.base X.mg) (hP:H P=some (.tbl pos (X.env.qual ++ "<lambda>"))) (hd0:params.defaults=[]) (hk0:params.kw_defaults=[])
  (h:∀ f cl cd pm ct of H' s',Inv X pins σ H' s'->Same H H'->(∀ x c,cl.lookup x=some c->X.env.cells.lookup x=some c)->(∀ p∈scope.names,p.2=.free->∃ c,cl.lookup p.1=some c) -> 
   H' f=some (.frz of (.own 0))->of.data=.func (W.kla_fn "<lambda>" (X.env.qual ++ "<lambda>") params body scope cl pm cd ct)->(∃ c' oc vs t,cd=.ref c'/\H' c'=some (.frz oc (.own P))/\oc.data=.fields vs/\vs[1]?=some (.str (X.env.qual ++ "<lambda>") t))->R (.ref f) s') :
  wpAny (model X.prog X.w) X.A (eval (.Lambda params body scope pos) X.env) R X.xe s:=by
 obtain ⟨cl,e1,cl1,_,cl2⟩:=Zbj (env:=X.env) scope.names [] (λp hp hf=>I.ok.has _ (c.free p hp hf)) (λx d e=>by simp at e)
 have hclos:closureFor scope X.env=pure cl:=by
  unfold closureFor
  refine (congrArg (λz=>z >>= λcs=>pure cs) e1).trans ?_
  rfl
 have CH:=W.codeHd_of_K I.kIn hcd
 obtain ⟨ps,hps,htr,hcode⟩:=(show ObjOk X.prog X.w H s.heap P (.tbl pos (X.env.qual ++ "<lambda>")) from I.hok P _ hP)
 have hg:=I.ok.mod.glob.keeps I.bk
 have hgP:mainGlobals≠P:=λq=>by
  obtain ⟨o,es,ep,e,hd,_⟩:=hg
  rw [q,hps] at e; cases e; cases hd
 have hb:s.heap.BuiltinsAt X.mg P:=by
  obtain ⟨b,o,a1,a2,a3,a4,a5,a6,a7⟩:=bm
  have e:=I.bk _ _ a4
  exact ⟨b,o,a1,a2,a3,(λz=>by rw [z,hps] at e; cases e; cases a5),e,a5,a6,a7⟩
 rw [arm_eval_Lambda,defaultsOf_eq,hd0,hk0]
 show wpAny _ _ (do let dv ← evalAll (evalEach [] X.env); let kdv ← holding dv (evalAllOpt []); makeFunction "<lambda>" (X.env.qual ++ "<lambda>") params (.expr body) scope X.env dv kdv [] pos pos.line) _ _ s
 refine wpAny_bind (evalAll_nil ?_)
 refine wpAny_bind (wpAny_holding (wpAny_pure ?_))
 cases hf:codeAmong pos ps.toList with
 | some cv =>
  obtain ⟨c',oc,vs,t,rfl,hH,hd,hv⟩:=hcode cv hf
  refine W.kla_makeFunctionHit hclos I.ok.glob hg hc0 CH hps htr hf hb λctv h' tk hk hsz=>?_
  have I1:=I.laid (a:=h'.objs.size) (t':=tk) (o:=.frz { cls:=.type "function",data:=.func (W.kla_fn "<lambda>" (X.env.qual ++ "<lambda>") params body scope cl ((X.mg "__name__").getD .none) (.ref c') ctv) } (.own 0)) (h':=h'.push { cls:=.type "function",data:=.func (W.kla_fn "<lambda>" (X.env.qual ++ "<lambda>") params body scope cl ((X.mg "__name__").getD .none) (.ref c') ctv) }) (λb o e=>Heap.get?_push_of_some _ (hk b o e)) hsz ⟨Heap.get?_push_size _ rfl,_,Heap.get?_push_size _ rfl⟩
  have fr:=I.hok.fresh hsz
  exact h _ cl _ _ _ _ _ _ I1 (Zg fr _) cl1 cl2 Za rfl ⟨c',oc,vs,t,rfl,by rw [Zc (Ze hH fr)]; exact hH,hd,hv⟩
 | none =>
  refine W.kla_makeFunction hclos I.ok.glob hg hc0 CH hps htr hf hgP hb λc' ctv h' tk hx hge hlt hrec htb=>?_
  obtain ⟨oc,vs,t,hoc,hd,hv,I1⟩:=I.grown (tk:=tk) hP hx hge hrec htr hf htb
  have fr:H c'=none:=I.hok.fresh hge
  have fr2:upd H c' (.frz oc (.own P)) h'.objs.size=none:=I1.hok.fresh (Nat.le_refl _)
  have I2:=I1.laid (a:=h'.objs.size) (t':=tk) (o:=.frz (W.kla_obj "<lambda>" (X.env.qual ++ "<lambda>") params body scope cl ((X.mg "__name__").getD .none) c' ctv) (.own 0)) (h':=h'.push (W.kla_obj "<lambda>" (X.env.qual ++ "<lambda>") params body scope cl ((X.mg "__name__").getD .none) c' ctv)) (λb o e=>Heap.get?_push_of_some _ e) (Nat.le_refl _) ⟨Heap.get?_push_size _ rfl,_,Heap.get?_push_size _ rfl⟩
  exact h _ cl _ _ _ _ _ _ I2 ((Zg fr _).trans (Zg fr2 _)) cl1 cl2 Za rfl ⟨c',oc,vs,t,rfl,by rw [Zc (Ze Za fr2)]; exact Za,hd,hv⟩
end
end L2
namespace L2
open PySem PySem.Spec PyProof.Rows L2.Stb
def KLt (key:Int->Int) (ns:List Int) (a b:Int):Prop:=key a<key b\/(key a=key b/\ns.idxOf a<ns.idxOf b)
theorem ZlK {l:List Keyed} (h:∀ p∈l,∃ t,p.2=.int (numOf p.2) t):Vals ((l.map λp=>numOf p.2).map V.int) (l.map (·.2)):=by
 induction l with
 | nil=>exact .nil
 | cons p r ih =>
  obtain ⟨t,e⟩:=h p mem_cons_self
  exact .cons ⟨t,e⟩ (ih λq hq=>h q (mem_cons_of_mem _ hq))
theorem ZfM {vs:List Value} {ns:List Int} (h:IntsAre vs ns):∀ {i:Nat} {v:Value},vs[i]?=some v->∃ n t,ns[i]?=some n/\v=.int n t:=by
 induction h with
 | nil=>intro i v e; simp at e
 | cons n t _ ih =>
  intro i v e
  cases i with
  | zero=>exact ⟨n,t,rfl,by simpa using e.symm⟩
  | succ i=>exact ih (by simpa using e)
theorem ZmA:∀ {ns:List Int},ns.Nodup->∀ {i:Nat} {n:Int},ns[i]?=some n->ns.idxOf n=i
 | [],_,_,_,e=>by simp at e
 | x :: r,nd,0,n,e=>by
  have e':x=n:=by simpa using e
  subst e'
  simp
 | x :: r,nd,i+1,n,e=>by
  obtain ⟨h1,h2⟩:=List.nodup_cons.mp nd
  have e':r[i]?=some n:=by simpa using e
  have ne:x≠n:=λz=>h1 (z ▸ mem_of_getElem? e')
  rw [List.idxOf_cons,show (x == n)=false by simpa using ne]
  show r.idxOf n+1=i+1
  rw [ZmA h2 e']
theorem ZiB {keys:Array Value} {vs:List Value} {ns:List Int} {key:Int->Int} (hk:IntsAre keys.toList (ns.map key)) (hv:IntsAre vs ns) (nd:ns.Nodup) :
  Idn (λp=>ns.idxOf (numOf p.2)) (keys.zip vs.toArray) 0/\∀ xs:Array Keyed,xs.Perm (keys.zip vs.toArray)->Inc (λp=>ns.idxOf (numOf p.2)) xs xs.size ->
   ∃ os:List Int,Vals (os.map V.int) (xs.map (·.2)).toList/\os.Perm ns/\os.Pairwise (KLt key ns):=by
 have lk:keys.size=ns.length:=by have:=hk.length; rw [Array.length_toList,length_map] at this; lia
 have lv:vs.length=ns.length:=by have:=hv.length; lia
 have at0:∀ (i:Nat) (p:Keyed),(keys.zip vs.toArray)[i]?=some p->∃ n t t',ns[i]?=some n/\p=(Value.int (key n) t,Value.int n t'):=λi p e=>by
  have e':(keys.toList.zip vs)[i]?=some p:=by rw [← ksk_zip,Array.getElem?_toList]; exact e
  rw [List.getElem?_zip_eq_some] at e'
  obtain ⟨n1,t1,q1,r1⟩:=ZfM hk e'.1
  obtain ⟨n2,t2,q2,r2⟩:=ZfM hv e'.2
  rw [getElem?_map,q2] at q1
  have q1':key n2=n1:=by simpa using q1
  exact ⟨n2,t1,t2,q2,Prod.ext (by rw [r1,q1']) r2⟩
 have mem0:∀ p∈(keys.zip vs.toArray).toList,∃ n t t',n∈ns/\p=(Value.int (key n) t,Value.int n t'):=λp hp=>by
  obtain ⟨i,e⟩:=List.getElem?_of_mem hp
  rw [Array.getElem?_toList] at e
  obtain ⟨n,t,t',q,r⟩:=at0 i p e
  exact ⟨n,t,t',mem_of_getElem? q,r⟩
 refine ⟨λi _ hi=>?_,λxs hp hi=>?_⟩
 .obtain ⟨n,t,t',q,r⟩:=at0 i _ (Array.getElem?_eq_getElem hi)
  unfold Rk
  rw [Array.getElem?_eq_getElem hi,r]
  show ns.idxOf n=i
  exact ZmA nd q
 .have pm:=Array.perm_iff_toList_perm.mp hp
  have memx:∀ p∈xs.toList,∃ n t t',n∈ns/\p=(Value.int (key n) t,Value.int n t'):=λp hp'=>mem0 p (pm.mem_iff.mp hp')
  refine ⟨xs.toList.map λp=>numOf p.2,?_,?_,?_⟩
  .rw [Array.toList_map]
   refine ZlK λp hp'=>?_
   obtain ⟨n,t,t',_,rfl⟩:=memx p hp'
   exact ⟨t',rfl⟩
  .have e:(keys.zip vs.toArray).toList.map (λp=>numOf p.2)=ns:=by
    apply List.ext_getElem?
    intro i
    rw [getElem?_map,Array.getElem?_toList]
    by_cases hlt:i<(keys.zip vs.toArray).size
    .obtain ⟨n,t,t',q,r⟩:=at0 i _ (Array.getElem?_eq_getElem hlt)
     rw [Array.getElem?_eq_getElem hlt,r,q]
     rfl
    .have lz:(keys.zip vs.toArray).size=ns.length:=by rw [Array.size_zip,lk,List.size_toArray,lv,Nat.min_self]
     rw [Array.getElem?_eq_none (by lia),getElem?_eq_none (by lia)]
     rfl
   rw [← e]
   exact pm.map _
  .rw [List.pairwise_iff_getElem]
   intro i j hi' hj' hij
   have hi2:i<xs.size:=by simpa using hi'
   have hj2:j<xs.size:=by simpa using hj'
   have v:=hi i j hij hj2
   obtain ⟨n1,t1,t1',_,r1⟩:=memx xs[i] (by simp)
   obtain ⟨n2,t2,t2',_,r2⟩:=memx xs[j] (by simp)
   have k1:K xs i=key n1:=by rw [K_eq hi2,r1]; rfl
   have k2:K xs j=key n2:=by rw [K_eq hj2,r2]; rfl
   have q1:Rk (λp=>ns.idxOf (numOf p.2)) xs i=ns.idxOf n1:=by unfold Rk; rw [Array.getElem?_eq_getElem hi2,r1]; rfl
   have q2:Rk (λp=>ns.idxOf (numOf p.2)) xs j=ns.idxOf n2:=by unfold Rk; rw [Array.getElem?_eq_getElem hj2,r2]; rfl
   have g1:(xs.toList.map λp=>numOf p.2)[i]=n1:=by simp [r1,numOf]
   have g2:(xs.toList.map λp=>numOf p.2)[j]=n2:=by simp [r2,numOf]
   rw [g1,g2]
   unfold VLt at v
   rw [k1,k2,q1,q2] at v
   exact v
section
variable {X:Cx} {pins:List (Addr×Obj)} {σ:St} {H:Hp} {s:Shared} {d:Addr} {xs:List V} {o:Obj}
theorem Inv.thawedL (I:Inv X pins σ H s) (h:H d=some (.frz o (.lst xs))) (h0:∀ o' u,X.H₀ d≠some (.frz o' u)):Inv X pins σ (upd H d (.lst xs)) s:=by
 have ne:∀ b u,H b=some u->u≠.frz o (.lst xs)->b≠d:=λb u e n z=>by rw [z,h] at e; exact n (Option.some.inj e).symm
 have nn:∀ b,H b=none->b≠d:=λb e z=>by rw [z,h] at e; cases e
 refine ⟨I.ok,I.os,I.bare,⟨I.base.keep,I.base.slot,λb o' e n hx=>?_,I.base.there,λb ys e=>?_,λb o' u e=>?_,λb p r e=>?_⟩,I.loc,I.cell,?_,λx c e=>?_,λp hp=>?_,λb u e=>?_,I.len⟩
 .have q:=I.base.free b o' e n hx
  rw [Zc (nn b q)]
  exact q
 .have q:=I.base.tups b ys e
  rw [Zc (ne b _ q (by intro z; cases z))]
  exact q
 .have q:=I.base.frzs b o' u e
  rw [Zc (λz=>h0 o' u (by rw [← z]; exact e))]
  exact q
 .have q:=I.base.tbls b p r e
  rw [Zc (ne b _ q (by intro z; cases z))]
  exact q
 .rw [Zc (nn _ I.free)]
  exact I.free
 .rw [Zc (nn _ (I.freeC x c e))]
  exact I.freeC x c e
 .obtain ⟨a1,a2,a3⟩:=I.pin p hp
  exact ⟨a1,by rw [Zc (nn _ a2)]; exact a2,a3⟩
 .by_cases hb:b=d
  .subst hb
   rw [Za] at e
   cases e
   exact (I.hok b _ h).2
  .rw [Zc hb] at e
   exact (I.hok b u e).stay (λ_ _ _ z=>z) (λc z=>by rw [Zc (ne c _ z (by intro y; cases y))]; exact z) (λc ys z=>by rw [Zc (ne c _ z (by intro y; cases y))]; exact z) λc oz z=>by rw [Zc (ne c _ z (by intro y; cases y))]; exact z
theorem ZiC {a kS:Addr} {st:SortSt} {e1:Nat} {H1:Hp} {ns:List Int} {key:Int->Int} {keys:Array Value} {its:List Value} {ks:List V} {A:Around} {E:Value->Shared->Prop} {R:PySem.Fin->Shared->Prop} (I:Inv X pins σ H1 s) (hk:IntsAre keys.toList (ns.map key)) (hv:IntsAre its ns) (nd:ns.Nodup) (h64:ns.length<64)
  (ha:H1 a=some (.frz (seqObj "list" #[] e1) (.lst []))) (h0:∀ o' u,X.H₀ a≠some (.frz o' u)) (hkS:H1 kS=some (.lst ks)) (hlk:ks.length<=64) (hp:(arrOf st).Perm (keys.zip its.toArray)) (hi:Inc (λp=>ns.idxOf (numOf p.2)) (arrOf st) (arrOf st).size) (hf:failedOf st=none)
  (h:∀ (H':Hp) (s':Shared) (os:List Int),Inv X pins σ H' s'->(∀ b,b≠a->b≠kS->H' b=H1 b)->H' a=some (.lst (os.map V.int))->os.Perm ns->os.Pairwise (KLt key ns)->R (.done (.ret .none)) s') :
  wpAny (model X.prog X.w) A (ksk_tail a false e1 (.ref kS) st) R E s:=by
 have nak:a≠kS:=λz=>by rw [z,hkS] at ha; cases ha
 obtain ⟨os,vo,po,so⟩:=(ZiB hk hv nd).2 _ hp hi
 have lo:=po.length_eq
 unfold ksk_tail
 try dsimp only
 obtain ⟨_,itsK,n,rK,hlK,eK⟩:=I.lstM hkS
 have lK:itsK.length<=64:=by have:=rK.length; lia
 refine wpAny_bind (listUpdate_at eK rfl ?_ (by rw [List.size_toArray,sizeLine_eq]; lia) (Nat.zero_le _))
 have I6:=I.lset (t':=s.toks) (f:=λ_=>#[]) (its':=[]) (ys:=[]) hkS eK rfl .nil (Nat.zero_le _)
 have ha6:upd H1 kS (.lst []) a=some (.frz (seqObj "list" #[] e1) (.lst [])):=by rw [Zc nak]; exact ha
 have oa:=(I6.hok a _ ha6).1
 refine wpAny_bind (wpAny_letGo ?_)
 refine wpAny_bind (seqEpoch_at oa rfl ?_)
 have lo2:((arrOf st).map (·.2)).size=ns.length:=by
  have e:=vo.length
  rw [length_map] at e
  have e2:((arrOf st).map (·.2)).toList.length=((arrOf st).map (·.2)).size:=Array.length_toList
  lia
 refine wpAny_bind (listUpdate_at oa rfl ?_ (Nat.zero_le _) (by simp only [Bool.false_eq_true,if_false]; rw [lo2,sizeLine_eq]; lia))
 rw [hf]
 simp only [bne_self_eq_false,Bool.false_eq_true,if_false]
 have I7:=I6.thawedL ha6 h0
 have I8:=I7.lset (t':=s.toks) (f:=λ_=>(arrOf st).map (·.2)) (its:=[]) (its':=((arrOf st).map (·.2)).toList) (ys:=os.map V.int) Za oa (by exact (Array.toArray_toList).symm) vo (by rw [length_map,sizeLine_eq]; lia)
 refine wpAny_pure (h _ _ os I8 (λb n1 n2=>?_) Za po so)
 rw [Zc n1,Zc n1,Zc n2]
theorem Zns {a kS:Addr} {e1:Nat} {H1:Hp} {ns:List Int} {key:Int->Int} {keys:Array Value} {its:List Value} {ks:List V} {A:Around} {E:Value->Shared->Prop} {R:PySem.Fin->Shared->Prop} (I:Inv X pins σ H1 s) (hk:IntsAre keys.toList (ns.map key)) (hv:IntsAre its ns) (nd:ns.Nodup) (h64:ns.length<64)
  (ha:H1 a=some (.frz (seqObj "list" #[] e1) (.lst []))) (h0:∀ o' u,X.H₀ a≠some (.frz o' u)) (hkS:H1 kS=some (.lst ks)) (hlk:ks.length<=64)
  (h:∀ (H':Hp) (s':Shared) (os:List Int),Inv X pins σ H' s'->(∀ b,b≠a->b≠kS->H' b=H1 b)->H' a=some (.lst (os.map V.int))->os.Perm ns->os.Pairwise (KLt key ns)->R (.done (.ret .none)) s') :
  wpAny (model X.prog X.w) A (ksk_end a false its.toArray e1 (.ref kS) keys) R E s:=by
 have lk:keys.size=ns.length:=by have:=hk.length; rw [Array.length_toList,length_map] at this; lia
 have lv:its.length=ns.length:=by have:=hv.length; lia
 have hzs:(keys.zip its.toArray).size=ns.length:=by rw [Array.size_zip,lk,List.size_toArray,lv,Nat.min_self]
 obtain ⟨idn,_⟩:=ZiB hk hv nd
 unfold ksk_end
 simp only [Bool.false_eq_true,if_false]
 by_cases h2:its.toArray.size<2
 .rw [if_pos h2,if_pos h2]
  refine wpAny_bind (wpAny_pure ?_)
  rw [StateT.run_pure]
  refine wpAny_bind (wpAny_pure ?_)
  try dsimp only
  refine ZiC (st:=SortSt.mk' general' (keys.zip its.toArray) #[] 7 none) I hk hv nd h64 ha h0 hkS hlk (Array.Perm.refl _) (λi j hij hj=>?_) rfl h
  have hj2:j<(keys.zip its.toArray).size:=hj
  rw [List.size_toArray] at h2
  lia
 .rw [if_neg h2,if_neg h2]
  rw [List.size_toArray] at h2
  rw [ksk_kind hk (by rw [lk]; lia)]
  refine wpAny_bind (wpAny_pure ?_)
  refine wpAny_bind (wpAny_mono (Znq (ρ:=λp=>ns.idxOf (numOf p.2)) (a₀:=keys.zip its.toArray) (st:=SortSt.mk' oneType' (keys.zip its.toArray) #[] 7 none)
   (Q:=λ_ st1=>(arrOf st1).Perm (keys.zip its.toArray)/\failedOf st1=none/\Inc (λp=>ns.idxOf (numOf p.2)) (arrOf st1) (keys.zip its.toArray).size)
   (ksk_intKeys hk) idn ⟨Array.Perm.refl _,rfl,rfl,rfl⟩ idn (by rw [hzs]; lia) (by rw [hzs]; exact h64) λst1 a1 a2 a3=>⟨a1,a2,a3⟩) ?_ λ_ _ e=>e)
  rintro ⟨⟨⟩,st1⟩ s1 ⟨rfl,hp,hf,hs⟩
  try dsimp only
  exact ZiC I hk hv nd h64 ha h0 hkS hlk hp (by rw [hp.size_eq]; exact hs) hf h
theorem ZlL {l f:Addr} {ns:List Int} {key:Int->Int} {Q:VK} {E:Value->Shared->Prop} (I:Inv X pins σ H s) (hq:SqL X.K H l (ns.map V.int)) (h64:ns.length<64) (nd:ns.Nodup)
  (turn:∀ z∈ns,∀ H1 s1 u,Same H H1->Inv X pins σ H1 s1->RelV (.int z) u->wpAny (model X.prog X.w) X.A.in1.in1 (call (.ref f) [u]) (EP X pins σ λv H'=>v=.int (key z)/\H'=H1) (λ_ _=>False) s1)
  (q:∀ (D:Addr) (H':Hp) (os:List Int),H D=none->Same H H'->H' D=some (.lst (os.map V.int))->os.Perm ns->os.Pairwise (KLt key ns)->Q (.ref D) H') :
  wpAny (model X.prog X.w) X.A (call (.builtin "sorted") [.ref l] [(Str.ofString "key",.ref f)]) (EP X pins σ Q) E s:=by
 obtain ⟨its,rv,pl,hz⟩:=I.list hq
 have hv:=ZcC rv
 have lv:its.length=ns.length:=by have:=rv.length; rw [length_map] at this; exact this.symm
 refine call_function_entry_kw kind_sorted plain_sorted entry_sorted (ksk_s1 _ _) ?_
 unfold Builtin.«sorted»
 refine wpAny_bind (m:=checkCount "sorted" 1 1 _) (wpAny_pure ?_)
 refine wpAny_bind (collect_list pl.isList ?_ (by rw [sizeLine_eq]; lia))
 refine wpAny_bind (wpAny_newList ?_ (by rw [sizeLine_eq]; lia))
 have hsz:((s.heap.push (seqObj "list" #[] 0)).update s.heap.objs.size (Obj.mapSeq (·++its.toArray))).objs.size=s.heap.objs.size+1:=by
  rw [Heap.size_update,size_push']
 have hoL:(((s.heap.push (seqObj "list" #[] 0)).update s.heap.objs.size (Obj.mapSeq (·++its.toArray))).push (seqObj "list" its.toArray 0)).get? (s.heap.objs.size+1)=some (seqObj "list" its.toArray 0):=by
  rw [← hsz]
  exact Heap.get?_push_size _ rfl
 have keep:∀ b o,s.heap.get? b=some o->(((s.heap.push (seqObj "list" #[] 0)).update s.heap.objs.size (Obj.mapSeq (·++its.toArray))).push (seqObj "list" its.toArray 0)).get? b=some o:=λb o e=>by
  have lt:b<s.heap.objs.size:=Heap.lt_size e
  rw [Heap.get?_push_ne _ _ _ (by rw [hsz]; exact Nat.ne_of_lt (Nat.lt_succ_of_lt lt)),Heap.get?_update_ne _ _ _ _ (Nat.ne_of_lt lt),Heap.get?_push_ne _ _ _ (Nat.ne_of_lt lt)]
  exact e
 show wpAny _ _ _ _ _ { s with heap:=((s.heap.push (seqObj "list" #[] 0)).update s.heap.objs.size (Obj.mapSeq (·++its.toArray))).push (seqObj "list" its.toArray 0) }
 rw [hsz]
 have hsz1:(((s.heap.push (seqObj "list" #[] 0)).update s.heap.objs.size (Obj.mapSeq (·++its.toArray))).push (seqObj "list" its.toArray 0)).objs.size=s.heap.objs.size+2:=by rw [size_push',hsz]
 generalize ((s.heap.push (seqObj "list" #[] 0)).update s.heap.objs.size (Obj.mapSeq (·++its.toArray))).push (seqObj "list" its.toArray 0)=h1 at *
 refine wpAny_bind (wpAny_holding (wpAny_call_entry_kw slot_list_sort ⟨_,hoL,rfl⟩ entry_list_sort ?body (ksk_l1 _ _)))
 case body =>
  show wpAny (model X.prog X.w) X.A.in1.in1 (Builtin.«list.sort» ⟨[.ref (s.heap.objs.size+1)],[(Str.ofString "key",.ref f)]⟩) _ _ _
  rw [ksk_t1]
  unfold ksk_tree
  refine wpAny_bind (listItems_at hoL rfl ?_)
  refine wpAny_bind (listUpdate_at hoL rfl ?_ (by rw [List.size_toArray,sizeLine_eq]; lia) (Nat.zero_le _))
  obtain ⟨e1,ho1⟩:∃ e1,(h1.update (s.heap.objs.size+1) (Obj.mapSeq λ_=>(#[]:Array Value))).get? (s.heap.objs.size+1)=some (seqObj "list" #[] e1):=⟨_,get?_update_seq hoL λ_=>#[]⟩
  have keep2:∀ b o,s.heap.get? b=some o->(h1.update (s.heap.objs.size+1) (Obj.mapSeq λ_=>(#[]:Array Value))).get? b=some o:=λb o e=>by
   have lt:b<s.heap.objs.size:=Heap.lt_size e
   rw [Heap.get?_update_ne _ _ _ _ (Nat.ne_of_lt (Nat.lt_succ_of_lt lt))]
   exact keep b o e
  generalize h1.update (s.heap.objs.size+1) (Obj.mapSeq λ_=>(#[]:Array Value))=h2 at *
  refine wpAny_bind (seqEpoch_at ho1 rfl ?_)
  refine wpAny_bind (wpAny_newTuple ?_ (by show its.length<=_; rw [sizeLine_eq]; lia))
  refine wpAny_bind (wpAny_newList ?_ (Nat.zero_le _))
  refine wpAny_holding ?_
  have fr:H (s.heap.objs.size+1)=none:=I.hok.fresh (Nat.le_succ _)
  have h0:∀ o' u,X.H₀ (s.heap.objs.size+1)≠some (.frz o' u):=λo' u e=>by rw [I.base.frzs _ _ _ e] at fr; cases fr
  have ho2:(h2.push (seqObj "tuple" its.toArray 0)).get? (s.heap.objs.size+1)=some (seqObj "list" #[] e1):=Heap.get?_push_of_some _ ho1
  have I3:=I.laid (a:=s.heap.objs.size+1) (t':=s.toks) (o:=.frz (seqObj "list" #[] e1) (.lst [])) (h':=h2.push (seqObj "tuple" its.toArray 0)) (λb o e=>Heap.get?_push_of_some _ (keep2 b o e)) (Nat.le_succ _) ⟨ho2,Nat.zero_le _,[],e1,.nil,ho2⟩
  have fr3:=I3.hok.fresh (Nat.le_refl _)
  have I4:=I3.laid (t':=s.toks) (o:=.lst []) (h':=(h2.push (seqObj "tuple" its.toArray 0)).push (seqObj "list" #[] 0)) (λb o e=>Heap.get?_push_of_some _ e) (Nat.le_refl _) ⟨Nat.zero_le _,[],0,.nil,Heap.get?_push_size _ rfl⟩
  have nak:s.heap.objs.size+1≠(h2.push (seqObj "tuple" its.toArray 0)).objs.size:=Ze Za fr3
  have sm:Same H (upd (upd H (s.heap.objs.size+1) (.frz (seqObj "list" #[] e1) (.lst []))) (h2.push (seqObj "tuple" its.toArray 0)).objs.size (.lst [])):=(Zg fr _).trans (Zg fr3 _)
  have frK:H (h2.push (seqObj "tuple" its.toArray 0)).objs.size=none:=(Zg fr _).free fr3
  have hkS0:upd (upd H (s.heap.objs.size+1) (.frz (seqObj "list" #[] e1) (.lst []))) (h2.push (seqObj "tuple" its.toArray 0)).objs.size (.lst []) (h2.push (seqObj "tuple" its.toArray 0)).objs.size=some (.lst []):=Za
  have ha0:upd (upd H (s.heap.objs.size+1) (.frz (seqObj "list" #[] e1) (.lst []))) (h2.push (seqObj "tuple" its.toArray 0)).objs.size (.lst []) (s.heap.objs.size+1)=some (.frz (seqObj "list" #[] e1) (.lst [])):=by rw [Zc nak]; exact Za
  generalize upd (upd H (s.heap.objs.size+1) (.frz (seqObj "list" #[] e1) (.lst []))) (h2.push (seqObj "tuple" its.toArray 0)).objs.size (.lst [])=H4 at *
  show wpAny (model X.prog X.w) X.A.in1.in1 (ksk_rest (s.heap.objs.size+1) (.ref f) false its.toArray e1 (.ref (h2.push (seqObj "tuple" its.toArray 0)).objs.size)) _ _ { s with heap:=(h2.push (seqObj "tuple" its.toArray 0)).push (seqObj "list" #[] 0) }
  generalize (h2.push (seqObj "tuple" its.toArray 0)).objs.size=kS at *
  generalize (h2.push (seqObj "tuple" its.toArray 0)).push (seqObj "list" #[] 0)=h4 at *
  unfold ksk_rest
  refine wpAny_bind (wpAny_rule ?_)
  rw [List.forIn_toArray]
  refine wpAny_bind (ksk_fold (λi s1=>∃ H1:Hp,Inv X pins σ H1 s1/\Same H H1/\H1 (s.heap.objs.size+1)=some (.frz (seqObj "list" #[] e1) (.lst []))/\H1 kS=some (.lst (((ns.take i).map key).map V.int))) its 0 _
   ⟨H4,I4,sm,ha0,hkS0⟩ ?step ?done)
  case step =>
   rintro j x s1 hx ⟨H1,I1,s1',a1,k1⟩
   simp only [Nat.zero_add] at k1 ⊢
   obtain ⟨z,t,hz',rfl⟩:=ZfM hv hx
   have hj:j<ns.length:=(List.getElem?_eq_some_iff.mp hz').1
   refine wpAny_bind (wpAny_attempt (wpAny_mono (turn z (mem_of_getElem? hz') H1 s1 _ s1' I1 ⟨t,rfl⟩) (λv s2 he=>?_) λ_ _ hF=>hF.elim))
   obtain ⟨v',H',I2,r2,rfl,rfl⟩:=he
   try dsimp only
   obtain ⟨_,itsK,n,rK,hlK,eK⟩:=I2.lstM k1
   have lK:itsK.length<=ns.length:=by
    have:=rK.length
    rw [length_map,length_map,length_take] at this
    lia
   refine wpAny_bind (listUpdate_at eK rfl ?_ (by rw [List.size_toArray,sizeLine_eq]; lia) (by rw [Array.size_push,List.size_toArray,sizeLine_eq]; lia))
   have ek:ns.take (j+1)=ns.take j++[z]:=by rw [List.take_succ,hz']; rfl
   have I5:=I2.lset (t':=s2.toks) (f:=(·.push v)) (its':=itsK++[v]) (ys:=((ns.take (j+1)).map key).map V.int) k1 eK (by simp) (by rw [ek,map_append,map_append]; exact rK.append (.cons r2 .nil)) (by rw [length_map,length_map,length_take,sizeLine_eq]; lia)
   refine wpAny_pure ⟨rfl,_,I5,λb o y=>?_,?_,Za⟩
   .rw [Zc (Ze y frK)]
    exact s1' _ _ y
   .rw [Zc nak]
    exact a1
  case done =>
   rintro s1 ⟨H1,I1,s1',a1,k1⟩
   rw [Nat.zero_add,lv,take_length] at k1
   obtain ⟨_,itsK,n,rK,hlK,eK⟩:=I1.lstM k1
   try dsimp only
   refine wpAny_bind (listItems_at eK rfl ?_)
   refine Zns (ns:=ns) (key:=key) I1 (by simpa using ZcC rK) hv nd h64 a1 h0 k1 (by rw [length_map,length_map]; lia) λH' s2 os I2 oth hD po so=>⟨_,rfl,?_⟩
   refine wpAny_pure ⟨_,rfl,.ref (s.heap.objs.size+1),H',I2,rfl,q _ H' os fr (λb o y=>?_) hD po so⟩
   rw [oth b (Ze y fr) (Ze y frK)]
   exact s1' _ _ y
end
end L2
namespace L2
open PySem PySem.Spec PyProof.Rows
structure MDef (P:Program) (w:World) (K:W.Frag) (mg:Str->Option Value) (base:Heap) (C:Addr) (m:Str) (k:Nat) (ps:List Str) (sp:Sp):Prop where
 ex:∃ (f:Addr) (fd:FuncData),FnOk P w K mg base CX0 k f fd ps sp/\Meth K C m f/\Binds K fd ps []
structure KDef (P:Program) (w:World) (K:W.Frag) (mg:Str->Option Value) (base:Heap) (C:Addr) (x:Str) (k:Nat) (ps:List Str) (sp:Sp):Prop where
 ex:∃ (f:Addr) (fd:FuncData),FnOk P w K mg base CX0 k f fd ps sp/\Mk K C f/\mg x=some (.ref C)/\Binds K fd ps []
section
variable {X:Cx} {x m:Str} {p pos apos:Pos} {e o:PySem.Expr} {es:List PySem.Expr} {ta:TE} {t:TA} {k:Nat} {ps:List Str} {sp:Sp} {C:Addr}
theorem Zk {pl:Sem Bool} (M:MDef X.prog X.w X.K X.mg X.base C m k ps sp) (hr:Room k X.A) (c:Cls X.K C) (he:PE X o ta) (ha:PA X (e :: es) t) (hn:NSs (e :: es):=by repeat' (first | exact True.intro | refine ⟨?_,?_⟩))
  (ht:eval (.Call (.Attribute o m apos) (e :: es) [] pos) X.env=(do
   let ov ← eval o X.env
   standAt apos.atName
   let (f,first) ← holding [ov] (getMethod ov m pl)
   callWith pos f first (backTo pos (starEach (e :: es) X.env)) (backToKw pos (keywordEach [] X.env))):=by rfl) :
  PE X (.Call (.Attribute o m apos) (e :: es) [] pos) (tMeth C m sp [] E0 ta t):=by
 obtain ⟨f,fd,F,hm,hb⟩:=M.ex
 exact Zna he c hm F hr hb .nil pass0 ha (ZaE hn.1) (Zcn hn.2) ht
theorem Zdm (M:KDef X.prog X.w X.K X.mg X.base C x k ps sp) (hr:Room (k+1) X.A) (hg:Gl X x) (ha:PA X (e :: es) t) (hn:NSs (e :: es):=by repeat' (first | exact True.intro | refine ⟨?_,?_⟩)) (hd:(x == ("__debug__" : Str))=false:=by decide) :
  PE X (.Call (.Name x p) (e :: es) [] pos) (tMake C sp [] E0 t):=by
 obtain ⟨f,fd,F,M',hm,hb⟩:=M.ex
 exact Znb M' F hr hg hm hb .nil pass0 ha (hdb:=hd) (he:=ZaE hn.1) (hpl:=Zcn hn.2)
def tNo:TS:=λ_ _ _=>False
theorem ps_no {st:Stmt}:PS X st tNo:=λ_ _ _ _ _ _ h=>False.elim h
end
theorem Fun.okC {P:Program} {w:World} {K:W.Frag} {mg:Str->Option Value} {base:Heap} {x qual:Str} {st:Stmt} {f:Addr} {fd:FuncData} {N ps:List Str} {k:Nat} {sp:Sp} (F:Fun K x qual st f fd) (S:FnScope N ps (Zh st)) (len:∀ vs H Q E,sp vs H Q E->vs.length=ps.length)
  (hbody:∀ (cdv:Value) (A:Around) (outer:List Env) (s:Shared) (H:Hp) (vs:List V) (Q:VK) (E:XK),fd.code=cdv->Room k (A.deeper (envOfC qual (Zh st) s.heap.objs.size f cdv))->sp vs H Q E ->
   ∃ t,PSs (cxOf CX0 P w K mg base N qual (Zh st) f cdv A outer s H E).nox (Zz st) t/\t { nx:=λ_ H'=>Q .non H',rt:=Q } (start N vs) H):FnOk P w K mg base CX0 (k+1) f fd ps sp:=by
 obtain ⟨oc,od,kV,doc,pm,an,cdv,ct,osl,rfl,lk,hcd⟩:=F.ex
 refine fn_of lk hcd S len λA outer s H vs Q E hr hsp=>?_
 obtain ⟨t,h,q⟩:=hbody cdv A outer s H vs Q E rfl hr hsp
 exact ⟨t,h.nox,q⟩
theorem Zm {X:Cx} {K:W.Frag} {e:PySem.Expr} {f:Str} {pos:Pos} {ta:TE} (hK:X.K=K) (he:PE X e ta) (hb:attributeBase e f X.env (eval e X.env)=eval e X.env):PE X (.Attribute e f pos) (tFld K ta f):=by
 subst hK
 exact Zoc he hb
def lamB (osc:Scope) (oN:List Str) (scope:Scope) (x:Str) (fr:List Str) (js:List Nat):Bool :=
 scope.kind == .function && !scope.isCoroutine && !scope.isGenerator && scope.names.all (λy=>y.2 != .cell) && scope.names.lookup x == some .local &&
 scope.names.all (λy=>y.2 != .free || (osc.names.lookup y.1 == some .cell || osc.names.lookup y.1 == some .free)) && fr.length == js.length &&
 (js.map λj=>oN[j]?) == fr.map some && fr.all λy=>scope.names.lookup y == some .free
theorem ZlM {X:Cx} {osc:Scope} {oN:List Str} {scope:Scope} {x:Str} {fr:List Str} {js:List Nat} (h:lamB osc oN scope x fr js=true) (hs:X.env.scope=osc) (hN:X.N=oN):LamOk X scope x fr js:=by
 unfold lamB at h
 simp only [Bool.and_eq_true,all_eq_true,Bool.or_eq_true,beq_iff_eq,bne_iff_ne,ne_eq,Bool.not_eq_true'] at h
 obtain ⟨⟨⟨⟨⟨⟨⟨⟨h1,h2⟩,h3⟩,h4⟩,h5⟩,h6⟩,h7⟩,h8⟩,h9⟩:=h
 refine ⟨h1,h2,h3,h4,h5,λy hy hf=>?_,h7,λk j e=>?_,λk y e=>h9 y (mem_of_getElem? e)⟩
 .rcases h6 y hy with q | q
  .exact absurd hf q
  .show X.env.scope.names.lookup y.1=_\/X.env.scope.names.lookup y.1=_
   rw [hs]; exact q
 .rw [hN]
  have z:=congrArg (λl=>l[k]?) h8
  simp only [getElem?_map,e,Option.map_some] at z
  cases q:fr[k]? with
  | none=>rw [q] at z; cases z
  | some y=>rw [q] at z; exact (Option.some.inj z).symm
theorem Zow {A:Around} {k:Nat} {env:Env} (hr:Room k A):(A.in1.in1.deeper env).units+1<cLine:=by
 have:=hr.un
 show A.units+1+1+3+1<cLine
 lia
def ZmB (K:W.Frag) (P:Addr) (lpos:Pos) (qual:Str) (js:List Nat) (te:TE) (σ:St) (Q:VK) (x:V) (H1:Hp):Prop:=∃ (l:Addr) (ns:List Int) (key:Int->Int),x=.ref l/\SqL K H1 l (ns.map V.int)/\ns.length<64/\ns.Nodup/\H1 P=some (.tbl lpos qual) /\
 (∀ z∈ns,∀ H2,Same H1 H2->te (some (.int z) :: js.map λj=>(σ[j]?).join) H2 λv H'=>v=.int (key z)/\H'=H2) /\
 ∀ (D:Addr) (H':Hp) (os:List Int),H1 D=none->Same H1 H'->H' D=some (.lst (os.map V.int))->os.Perm ns->os.Pairwise (KLt key ns)->Q (.ref D) H'
def Zox (K:W.Frag) (P:Addr) (lpos:Pos) (qual:Str) (js:List Nat) (txs te:TE):TE:=λσ H Q=>txs σ H λx H1=>ZmB K P lpos qual js te σ Q x H1
section
variable {X:Cx}
theorem ZlN {K:W.Frag} {P c0:Addr} {k:Nat} {y:Str} {fr:List Str} {js:List Nat} {qual:Str} {params:Arguments} {body xs:PySem.Expr} {scope:Scope} {p pos lpos kpos:Pos} {txs te:TE} (hK:X.K=K) (hr:Room k X.A) (hcl:X.calm=true) (hg:Gl X "sorted") (hm:X.mg "sorted" = none)
  (c:LamOk X scope y fr js) (hc0:X.env.code=.ref c0) (hcd:W.codeHdIn X.K c0 P=true) (bm:BMod X.base X.mg) (hq:X.env.qual ++ "<lambda>" = qual) (hd0:params.defaults=[]) (hk0:params.kw_defaults=[])
  (hb:∀ cl pm cd ct u,bindArgs (W.kla_fn "<lambda>" qual params body scope cl pm cd ct) ⟨[u],[]⟩=pure [(y,u)]) (ha:PE X xs txs)
  (he:∀ f cd cl s H,PE (cxLam X X.A.in1.in1 (y :: fr) qual scope f cd cl s H) body te) (hn:NSs [xs]:=by repeat' (first | exact True.intro | refine ⟨?_,?_⟩)) :
  PE X (.Call (.Name "sorted" p) [xs] [⟨some "key",.Lambda params body scope lpos,kpos⟩] pos) (Zox K P lpos qual js txs te):=by
 subst hK
 subst hq
 intro pins s σ H Q I h
 refine wpAny_Call_Name_kw (Zbw I hg hm boot_sorted ?_ (by decide) (by decide))
 refine callWith_kw (thA ((pc ha Zb hn.1) pos pins s σ H (λvs H1=>match vs with | [x]=>ZmB X.K P lpos (X.env.qual ++ "<lambda>") js te σ Q x H1 | _=>False) I h) λus s1 vs H1 I1 r1 q1=>?_) (by rw [ZaE hn.1]; rfl) (by rw [ZaE hn.1]; rfl) rfl rfl
 match vs,r1,q1 with
 | [],_,z=>exact z.elim
 | _ :: _ :: _,_,z=>exact z.elim
 | [x],r1,q1 =>
  obtain ⟨l,ns,key,rfl,hS,h64,nd,hP,ht,q⟩:=q1
  obtain ⟨u,rfl,ru⟩:=vals1 r1
  cases ru
  show wpAny _ _ (evalAll [(do let v ← eval (.Lambda params body scope lpos) X.env; standAt pos; pure v)]) _ _ s1
  refine wpAny_evalAll_cons (wpAny_bind (ZlJ c I1 hc0 hcd bm hP hd0 hk0 λf cl cd pm ct of H2 s2 I2 sm cl1 cl2 hf hof hcode=>wpAny_bind (wpAny_standAt (wpAny_pure (wpAny_evalAll_nil ?_)))))
  show wpAny _ _ (call (.builtin "sorted") [.ref l] [(Str.ofString "key",.ref f)]) _ _ s2
  refine ZlL I2 (sm.seq hS) h64 nd (λz hz H3 s3 u sm3 I3 ru=>?_) λD H' os hD sm' hl po so=>q D H' os (sm.free hD) (sm.trans sm') hl po so
  have of3:=(I3.hok f _ (sm3 _ _ hf)).1
  obtain ⟨c',oc,vs',t',rfl,hc',hd',hv'⟩:=hcode
  have oc3:=(I3.hok c' _ (sm3 _ _ hc')).1
  exact ZlI (A:=X.A.in1.in1) c I3 I3.ok.frames (I3.ok.hd hcl) hr.depth cl1 cl2 of3 hof ⟨c',oc,vs',t',rfl,oc3,hd',hv'⟩ (hb cl pm _ ct) ru (λs=>he f _ cl s H3) (ht z hz H3 (sm.trans sm3))
end
theorem Zkn {P:Program} {w:World} {K:W.Frag} {mg mb:Str->Option Value} {CX:CXT} {k:Nat} {fa a tp c0:Addr} {pos:Pos} {qual:Str} {fd:FuncData} {x:Str} {sp:Sp} {s₁:Shared} {vs:List Value} {ns:List Int}
  (KX:K.In s₁.heap) (hns:s₁.heap.Ns mainGlobals mg) (hb:s₁.heap.Ns builtinsNs mb) (hbb:∀ x:Str,x ≠ "__name__" -> mb x=bootBuiltins x) (hlim:s₁.heap.NoLimit) (hg:s₁.gens=#[])
  (ha:s₁.heap.get? a=some { cls:=.type "list",data:=.seq vs.toArray }) (hi:IntsAre vs ns) (hl:ns.length<=sizeLine) (hr:Room k callerA)
  (htp:s₁.heap.get? tp=some { cls:=.none,data:=.fields #[] }) (hch:W.codeHdIn K c0 tp=true) (hKt:K.lookup tp=none)
  (hbm:BMod s₁.heap mg) (F:∀ base:Heap,K.In base->base.Ns mainGlobals mg->BMod base mg->FnOk P w K mg base CX k fa fd [x] sp) (hbind:∀ (s:Shared) (u:Value),BindsTo s fd ⟨[u],[]⟩ [(x,u)])
  (hsp:∀ H:Hp,H tp=some (.tbl pos qual)->SqL K H a (ns.map V.int)->sp [.ref a] H (λv _=>v=.bl true) λ_ _ _=>False)
  (hCX:∀ H e s',CX [] H s₁ (λ_ _ _=>False) e s'->False) :
  codeAny (model P w) callerA (.call (.ref fa) ⟨[.ref a],[]⟩) (λr s'=>r=.ok (.ret (.bool true))/\OldK s₁.heap s'.heap/\s'.os=s₁.os/\AllBare s'.gens) s₁:=by
 have rv:=Zde hi
 have lenV:=hi.length
 have nat:a≠tp:=λz=>by rw [z,htp] at ha; cases ha
 have core:∀ H:Hp,H tp=some (.tbl pos qual)->SqL K H a (ns.map V.int)->HOk P w H s₁.heap->(∀ b,H b≠none->b=tp\/(b=a/\∃ o xs,H b=some (.frz o (.lst xs))))->(H a≠none->K.lookup a=none) ->
   codeAny (model P w) callerA (.call (.ref fa) ⟨[.ref a],[]⟩) (λr s'=>r=.ok (.ret (.bool true))/\OldK s₁.heap s'.heap/\s'.os=s₁.os/\AllBare s'.gens) s₁:=by
  intro H hT hS hok hA hK
  have noD:∀ {b:Addr} {o:Obj} {es:Array DictEntry} {ep:Nat},s₁.heap.get? b=some o->o.data=.dict es ep->H b=none:=λ{b o es ep} e d=>by
   cases q:H b with
   | none=>rfl
   | some u =>
    rcases hA b (by rw [q]; simp) with z | ⟨z,_⟩
    .rw [z,htp] at e
     cases e
     cases d
    .rw [z,ha] at e
     cases e
     cases d
  have nsK:∀ {b:Addr} {m:Str->Option Value},s₁.heap.Ns b m->(hidT s₁.heap H).Ns b m:=λ{b m} ⟨o,es,ep,e,d,r⟩=>⟨o,es,ep,Zfy e (noD e d),d,r⟩
  have hKb:K.In (hidT s₁.heap H):=λb o e=>Zfy (KX b o e) (by
   cases q:H b with
   | none=>rfl
   | some u =>
    rcases hA b (by rw [q]; simp) with z | ⟨z,_⟩
    .rw [z,hKt] at e
     cases e
    .have n:H a≠none:=by rw [← z,q]; simp
     rw [z,hK n] at e
     cases e)
  have hM:Mod K mg (hidT s₁.heap H):=⟨hKb,nsK hns,⟨mb,nsK hb,hbb⟩,let ⟨mc,h1,h2⟩:=hlim; ⟨mc,nsK h1,h2⟩⟩
  have e0:Env0 P w K mg (hidT s₁.heap H) callerA [] s₁ H:=⟨rfl,hM,λb o e=>ZmR e,Nat.le_of_eq (ZjC _ _),trivial,λb hb=>absurd (show b∈([]:List Addr) from hb) (by simp),hok,.of_eq hg⟩
  have hB:BMod (hidT s₁.heap H) mg:=by
   obtain ⟨b,o,a1,a2,a3,a4,a5,a6,a7⟩:=hbm
   refine ⟨b,o,a1,a2,a3,Zfy a4 ?_,a5,a6,a7⟩
   cases q:H b with
   | none=>rfl
   | some u =>
    rcases hA b (by rw [q]; simp) with z | ⟨z,_⟩
    .rw [z,htp] at a4
     cases a4
     cases a5
    .rw [z,ha] at a4
     cases a4
     have a8:Value.type "list" = Value.type "module" := a5
     injection a8 with a8
     exact absurd a8 (by decide)
  refine codeAny_mono ((F _ hKb (nsK hns) hB).run callerA [] s₁ H ⟨[.ref a],[]⟩ [.ref a] [.ref a] _ _ hr e0 (hbind s₁ (.ref a)) (.cons rfl .nil) (hsp H hT hS)) λr s' h=>?_
  cases r with
  | error e=>exact (hCX H e s' h).elim
  | ok fl =>
   cases fl with
   | next=>exact False.elim h
   | brk=>exact False.elim h
   | cont=>exact False.elim h
   | ret u =>
    obtain ⟨v,H',os,bare,un,hok',r',q⟩:=h
    have q':v=.bl true:=q
    subst q'
    obtain rfl:u=Value.bool true:=r'
    have tab:=(W.codeHd_of_K KX hch).tab htp
    have t2:=hok' tp _ (un.tbls _ _ _ hT)
    obtain ⟨ps,hps,_⟩:=t2
    have old:∀ b o,s₁.heap.get? b=some o->b≠tp->s'.heap.get? b=some o:=λb o e nb=>by
     cases q:H b with
     | none=>exact un.keep b o e q (by intro z; exact absurd (show b∈([]:List Addr) from z) (by simp)) (by simp)
     | some u =>
      rcases hA b (by rw [q]; simp) with z | ⟨_,ob,xs,z⟩
      .exact absurd z nb
      .have z2:=un.frzs b ob _ z
       obtain ⟨e1,_⟩:=hok b _ z
       obtain ⟨e2,_⟩:=hok' b _ z2
       rw [e] at e1
       cases e1
       exact e2
    refine ⟨rfl,⟨λb o e=>?_,λb o e=>?_⟩,os,bare⟩
    .by_cases nb:b=tp
     .subst nb
      rw [htp] at e
      cases e
      exact .inr (.inl ⟨tab.isCodeTable,rfl,#[],ps,rfl,by rw [hps]; simp⟩)
     .exact .inl (old b o e nb)
    .by_cases nb:b=tp
     .subst nb
      exact ⟨_,hps⟩
     .exact ⟨o,old b o e nb⟩
 have tb:∀ H:Hp,ObjOk P w H s₁.heap tp (.tbl pos qual):=λH=>⟨#[],htp,True.intro,λcv e=>by cases e⟩
 cases hk:K.lookup a with
 | some o =>
  have e:=KX a o hk
  rw [ha] at e
  cases e
  refine core (λb=>if b=tp then some (.tbl pos qual) else none) (if_pos rfl) (.inr ⟨_,vs.toArray,_,hk,rfl,rfl,rfl,by rw [List.size_toArray,lenV]; exact hl,by simpa using rv⟩) (λb u z=>?_) (λb z=>?_) λz=>absurd (if_neg nat) z
  .by_cases hb:b=tp
   .have z':=(if_pos hb).symm.trans z
    cases z'
    subst hb
    exact tb _
   .have z':=(if_neg hb).symm.trans z
    cases z'
  .by_cases hb:b=tp
   .exact .inl hb
   .exact absurd (if_neg hb) z
 | none =>
  refine core (λb=>if b=tp then some (.tbl pos qual) else if b=a then some (.frz { cls:=.type "list",data:=.seq vs.toArray } (.lst (ns.map V.int))) else none) (if_pos rfl) (.inl (.inr ⟨{ cls:=.type "list",data:=.seq vs.toArray },(if_neg nat).trans (if_pos rfl)⟩)) (λb u z=>?_) (λb z=>?_) λ_=>hk
  .by_cases hb:b=tp
   .have z':=(if_pos hb).symm.trans z
    cases z'
    subst hb
    exact tb _
   .have z':=(if_neg hb).symm.trans z
    by_cases hb2:b=a
    .have z2:=(if_pos hb2).symm.trans z'
     cases z2
     subst hb2
     exact ⟨ha,by rw [length_map]; exact hl,vs,_,rv,ha⟩
    .have z2:=(if_neg hb2).symm.trans z'
     cases z2
  .by_cases hb:b=tp
   .exact .inl hb
   .by_cases hb2:b=a
    .exact .inr ⟨hb2,_,_,(if_neg hb).trans (if_pos hb2)⟩
    .exact absurd (by show (if b=tp then _ else if b=a then _ else none)=none; rw [if_neg hb,if_neg hb2]) z
theorem ZlO {l:W.OpenLaw} {n k:Nat} {q:Program} {loose:List Str} {XP:(Str->Option Value)->Heap->Prop} {YP:World->Heap->Prop} {d:DefRec} {K:Params->W.Frag} {CX:World->CXT} {sp:World->Sp} {x:Str} {tp:Addr} {pos:Pos} {qual:Str} {G:World->Prop}
  (hn:l.most=some n) (hn2:n<=sizeLine) (hdf:d.params.defaults=[]) (hr:Room k callerA)
  (hY:∀ (w:World) (h:Heap),YP w h->(K w.params).In h/\h.get? tp=some { cls:=.none,data:=.fields #[] })
  (F:∀ (w:World) (mg:Str->Option Value) (fa:Addr) (h:Heap),(K w.params).In h->h.Ns mainGlobals mg->mg d.name=some (.ref fa) ->
   G w/\(∃ c0,W.codeHdIn (K w.params) c0 tp=true)/\(K w.params).lookup tp=none/\∃ fd:FuncData,(∀ (s:Shared) (u:Value),BindsTo s fd ⟨[u],[]⟩ [(x,u)]) /\
    ∀ base:Heap,(K w.params).In base->base.Ns mainGlobals mg->BMod base mg->FnOk l.prog w (K w.params) mg base (CX w) k fa fd [x] (sp w))
  (hsp:∀ (w:World) (H:Hp) (a:Addr) (ns:List Int),G w->ns.length<=n->H tp=some (.tbl pos qual)->SqL (K w.params) H a (ns.map V.int)->sp w [.ref a] H (λv _=>v=.bl true) λ_ _ _=>False)
  (hCX:∀ (w:World) (H:Hp) (s:Shared) (e:Value) (s':Shared),CX w [] H s (λ_ _ _=>False) e s'->False) :
  W.WalkO q loose XP YP l.row.toRowW d [] (λf vs=>PySem.call f vs):=by
 refine Att.attach_call hn hdf λw s₀ s₁ mg mb fa o pm cd doc a vs ns G' Y ho hd hcd hmg hobj hints hlen hg=>?_
 obtain ⟨KX,htp⟩:=hY w _ Y
 obtain ⟨g,⟨c0,hc⟩,hk,fd,hb,hF⟩:=F w mg fa _ KX G'.T.g hmg
 have hbm:BMod s₁.heap mg:=by
  obtain ⟨bm,ob,b1,b2,b3,b4,b5,b6⟩:=G'.T.bmain
  refine ⟨bm,ob,b1,b2,λz=>?_,b3,b4,b5,b6⟩
  obtain ⟨o,es,ep,e,hd',_⟩:=G'.T.g
  rw [z,e] at b3
  cases b3
  rw [hd'] at b6
  cases b6
 exact Zkn KX G'.T.g G'.T.b G'.T.builtins G'.T.nolimit hg hobj hints (Nat.le_trans hlen hn2) hr htp hc hk hbm hF hb (λH hT hS=>hsp w H a ns g hlen hT hS) λH e s'=>hCX w H s₁ e s'
def clsOf (K:W.Frag) (x:Str):Addr:=match W.nsIn K mainGlobals x with
 | some (some (.ref C))=>C
 | _=>0
def tabOf (K:W.Frag) (x m:Str):Addr:=match W.findIn K (.ref (clsOf K x)) m with
 | some (some (.ref f))=>(match K.lookup f with
  | some ⟨_,_,.func fd,_⟩=>(match fd.code with
   | .ref c=>(match K.lookup c with
    | some ⟨_,_,.fields vs,_⟩=>(match (vs[11]?:Option Value) with
     | some (.ref P)=>P
     | _=>0)
    | _=>0)
   | _=>0)
  | _=>0)
 | _=>0
theorem ZcE {K:W.Frag} {x:Str} {C:Addr} (h:W.nsIn K mainGlobals x=some (some (.ref C))):clsOf K x=C:=by
 unfold clsOf
 rw [h]
theorem ZlP {K:W.Frag} {x m:Str} {f c P:Addr} {oc:Value} {od:Option Addr} {fd:FuncData} {sl:Array (Option Value)} (h1:W.findIn K (.ref (clsOf K x)) m=some (some (.ref f))) (h2:K.lookup f=some ⟨oc,od,.func fd,sl⟩) (h3:fd.code=.ref c)
  (h4:W.codeHdIn K c P=true):tabOf K x m=P:=by
 unfold W.codeHdIn at h4
 split at h4
 .rename_i vs _ hk
  simp only [Bool.and_eq_true] at h4
  obtain ⟨⟨⟨⟨⟨e1,_⟩,_⟩,_⟩,_⟩,_⟩:=h4
  split at e1
  .rename_i P' h11
   have hP:P'=P:=beq_iff_eq.mp e1
   subst hP
   unfold tabOf
   simp only [h1,h2,h3,hk,h11]
  .cases e1
 .cases h4
end L2
namespace L2
open PySem PySem.F PyProof.Rows PySem.MeetsSeq
variable {K:W.Frag} {X:Cx} {pins:List Pin} {σ:St} {H:Hp} {s:Shared}
theorem ZdU {e:PySem.Expr} {T:String} {r:V->List V->Hp->VK->Prop} {to:TE} {t:TA} (hK:X.K=K) (h:PE X e (tBM X.K T r to t)):PE X e (tBM K T r to t):=by
 subst hK; exact h
theorem Znt {e:PySem.Expr} {T:String} {r:V->List V->Hp->VK->Prop} {to:TE} (hK:X.K=K) (h:PE X e (tBM0 X.K T r to)):PE X e (tBM0 K T r to):=by
 subst hK; exact h
def tNev:TS:=λ_ _ _=>False
end L2
namespace L2
open PySem PySem.Calls PyProof.Rows PySem.MeetsSeq PySem.W
variable {K:W.Frag} {X:Cx} {pins:List Pin} {σ:St} {H:Hp} {s:Shared}
def ZlQ:List V->Hp->VK->Prop:=λxs H Q=>∃ (d:Addr) (kvs:List (Key×V)) (ns:List Int),xs=[.ref d]/\H d=some (.dK kvs)/\kvs.map Prod.fst=ns.map Sum.inl/\ns.length<64 /\
 ∀ (D:Addr) (os:List Int),H D=none->os.Perm ns->os.Pairwise (·<=·)->Q (.ref D) (upd H D (.lst (os.map V.int)))
theorem Zko:∀ {xs:List V} {us:List Value},xs.length=us.length->(∀ (i:Nat) x u,xs[i]?=some x->us[i]?=some u->RelV x u)->Vals xs us
 | [],[],_,_=>.nil
 | [],_ :: _,h,_=>nomatch h
 | _ :: _,[],h,_=>nomatch h
 | x :: xs,u :: us,h,k=>.cons (k 0 x u rfl rfl) (Zko (by simpa using h) λi x' u' h1 h2=>k (i+1) x' u' (by simpa using h1) (by simpa using h2))
theorem ZmC:∀ {kvs:List (Key×V)} {vs:List (Key×Value)},KV kvs vs->∀ {i:Nat} {p:Key×V} {q:Key×Value},kvs[i]?=some p->vs[i]?=some q->p.1=q.1
 | _,_,.nil,_,_,_,h,_=>nomatch h
 | _,_,.cons r t,0,_,_,h1,h2=>by cases h1; cases h2; exact r.1
 | _,_,.cons r t,i+1,_,_,h1,h2=>ZmC (i:=i) t (by simpa using h1) (by simpa using h2)
theorem Zkp {P:Program} {w:World} {kvs:List (Key×V)} {vs:List (Key×Value)} {ns:List Int} {acc:Array Value} (r:KV kvs vs) (e:kvs.map Prod.fst=ns.map Sum.inl) (h:ItemsOf (λi v=>∃ k x,vs[i]?=some (k,x)/\(ZE P w).is k v=true) acc vs.length):IntsAre acc.toList ns:=by
 have lv:kvs.length=vs.length:=Paired.length r
 have ln:kvs.length=ns.length:=by have:=congrArg List.length e; simpa using this
 refine ZcC (Zko (by have l3:acc.toList.length=acc.size:=Array.length_toList; have l4:=h.1; rw [length_map]; lia) λi x u hx hu=>?_)
 rw [Array.getElem?_toList] at hu
 obtain ⟨k,y,h1,h2⟩:=h.2 i u hu
 have hi:i<kvs.length:=by rw [lv]; exact (List.getElem?_eq_some_iff.mp h1).1
 have e1:=ZmC r (getElem?_eq_getElem hi) h1
 have e2:(kvs.map Prod.fst)[i]?=some k:=by rw [getElem?_map,getElem?_eq_getElem hi]; exact congrArg some e1
 rw [e,getElem?_map] at e2
 rw [getElem?_map] at hx
 cases g:ns[i]? with
 | none=>rw [g] at hx; cases hx
 | some z =>
  rw [g] at hx e2
  cases hx; cases e2
  exact ZlG h2
theorem ZgW (hc:X.calm=true):CallR X (.builtin "sorted") ZlQ:=by
 intro pins s σ H xs us Q I r h
 obtain ⟨d,kvs,ns,rfl,hd,hk,h64,q⟩:=h
 obtain ⟨u,rfl,rx⟩:=vals1 r
 cases rx
 obtain ⟨hz,hs,vs,rv,hD⟩:=I.hok d _ hd
 obtain ⟨ep,hat⟩:=hD.dictAt
 have hl:vs.length=ns.length:=by have l1:kvs.length=vs.length:=Paired.length rv; have l2:=congrArg List.length hk; simp at l2; lia
 refine call_function_entry kind_sorted plain_sorted entry_sorted (args_sorted1 _) ?_
 unfold Builtin.«sorted»
 refine wpAny_bind (m:=checkCount "sorted" 1 1 _) (wpAny_pure ?_)
 refine wpAny_bind (kdu_collect (A:=X.A.in1) (kdl_dict (knd:=ZE X.prog X.w) (kvs:=vs) (ep:=ep) hs) (show X.A.in1.handled=none from I.ok.hd hc) hat (by rw [sizeLine_eq]; lia) λh' tk acc hk' hacc=>?_)
 have hI:=Zkp rv hk hacc
 have la:acc.toList.length=ns.length:=by rw [Array.length_toList,hacc.1,hl]
 refine wpAny_bind (wpAny_newList ?_ (by rw [la,sizeLine_eq]; lia))
 have hoL:(h'.push (seqObj "list" acc.toList.toArray 0)).get? h'.objs.size=some (seqObj "list" acc.toList.toArray 0):=Heap.get?_push_size _ rfl
 have I1:=I.kept (t':=tk) hk'
 show wpAny _ _ _ _ _ { s with heap:=h'.push (seqObj "list" acc.toList.toArray 0),toks:=tk }
 refine wpAny_bind (wpAny_holding (wpAny_call_entry slot_list_sort ⟨_,hoL,rfl⟩ entry_list_sort (list_sort_tree hoL hI (by lia) λout ns' a1 a2 a3=>⟨_,rfl,?_⟩) (args_list_sort _)))
 refine wpAny_pure ⟨_,rfl,?_⟩
 obtain ⟨e,he⟩:=sortedHeap_at (out:=out) hoL
 have fr:H h'.objs.size=none:=I1.hok.fresh (Nat.le_refl _)
 have lo:=a2.length_eq
 refine ⟨.ref h'.objs.size,_,I1.laid (a:=h'.objs.size) (t':=tk) (o:=.lst (ns'.map V.int)) (λb o z=>?_) (Nat.le_refl _) ⟨by rw [length_map,lo,sizeLine_eq]; lia,out.toList,e,Zde a1,he⟩,rfl,q _ ns' fr a2 a3⟩
 have z':h'.get? b=some o:=z
 have lt:=Heap.lt_size z'
 rw [sortedHeap_old (Nat.ne_of_lt lt) (by rw [size_push']; exact Nat.lt_succ_of_lt lt),Heap.get?_push_ne _ _ _ (Nat.ne_of_lt lt)]
 exact z'
theorem Zco {C:Addr} {m:Str} {k:Nat} {ps:List Str} {sp:Sp} {o:PySem.Expr} {ta:TE} {apos pos:Pos} {pl:Sem Bool} (M:MDef X.prog X.w X.K X.mg X.base C m k ps sp) (hr:Room k X.A) (c:Cls X.K C) (he:PE X o ta)
  (ht:eval (.Call (.Attribute o m apos) [] [] pos) X.env=(do
   let ov ← eval o X.env
   standAt apos.atName
   let (f,first) ← holding [ov] (getMethod ov m pl)
   callWith pos f first (backTo pos (starEach [] X.env)) (backToKw pos (keywordEach [] X.env))):=by rfl) :
  PE X (.Call (.Attribute o m apos) [] [] pos) (tMeth C m sp [] E0 ta tNil):=by
 obtain ⟨f,fd,F,hm,hb⟩:=M
 exact Zlt he c hm F hr hb .nil (λ_ _ _ _ _ _ _ z=>z.elim) ht
end L2
namespace L2
open PySem PySem.Calls PySem.Spec PyProof.Rows PySem.W
structure Flies (P:Program) (w:World) (l:List Env) (H:Hp) (s:Shared) (H':Hp) (a C:Addr) (s':Shared):Prop where
 os:s'.os=s.os
 bare:AllBare s'.gens
 ex:∃ (h0 B:Heap) (t:Addr),Un (frs l) [] H H' s.heap h0/\HOk P w H' h0/\(∀ b∈frs l,H' b=none/\∃ o,h0.get? b=some o/\∀ vs,o.data≠.fields vs) /\
  (∀ b o,h0.get? b=some o->b∉frs l->((∃ o1,s.heap.get? b=some o1)\/H' b≠none)->B.get? b=some o)/\Heap.FlyingW B l a (.ref C) (.ref t) s'.heap/\h0.UpToSlots s'.heap
section
variable {P:Program} {w:World} {l:List Env} {H H':Hp} {s s':Shared} {a C:Addr}
theorem Flies.un (f:Flies P w l H s H' a C s'):Un (frs l) [] H H' s.heap s'.heap:=by
 obtain ⟨h0,B,t,u,hok,hf,hB,fl,up⟩:=f.ex
 refine ⟨λb o e n nf nx=>fl.1 _ _ (hB b o (u.keep b o e n nf nx) nf (.inl ⟨o,e⟩)),λb o e n hb nx=>?_,u.free,λb o e nx=>?_,u.tups,u.frzs,u.tbls⟩
 .obtain ⟨sl,e0⟩:=u.slot b o e n hb nx
  obtain ⟨_,o',e',hd⟩:=hf b hb
  rw [e0] at e'
  cases e'
  obtain ⟨sl2,e2⟩:=up b _ e0 hd
  exact ⟨sl2,e2⟩
 .obtain ⟨o0,e0⟩:=u.there b o e nx
  by_cases hb:b∈frs l
  .obtain ⟨_,o',e',hd⟩:=hf b hb
   rw [e0] at e'
   cases e'
   obtain ⟨sl2,e2⟩:=up b _ e0 hd
   exact ⟨_,e2⟩
  .exact ⟨o0,fl.1 _ _ (hB b o0 e0 hb (.inl ⟨o,e⟩))⟩
theorem Flies.hok (f:Flies P w l H s H' a C s'):HOk P w H' s'.heap:=λb u e=>by
 obtain ⟨h0,B,t,_,hok,hf,hB,fl,_⟩:=f.ex
 have kp:∀ c v,H' c≠none->h0.get? c=some v->s'.heap.get? c=some v:=λc v n ev=>fl.1 _ _ (hB c v ev (λz=>n (hf c z).1) (.inr n))
 refine (hok b u e).stay (λc v hc ev=>kp c v ?_ ev) (λ_ z=>z) (λ_ _ z=>z)
 rcases hc with rfl | hc
 .rw [e]; exact Option.some_ne_none _
 .rw [hc]; exact Option.some_ne_none _
end
def CXr (P:Program) (w:World):CXT:=λouter H s E e s'=>∃ a C H',e=.ref a/\Flies P w outer H s H' a C s'/\E (.ref C) (some a) H'
def XP (m:Prop) (X:Cx) (pins:List (Addr×Obj)) (Ex:St->Hp->Addr->Addr->Prop) (e:Value) (s':Shared):Prop :=
 ∃ a C σ H',e=.ref a/\Ex σ H' C a/\((∃ H0 s0,Inv X pins σ H0 s0/\Flies X.prog X.w X.stack H0 s0 H' a C s')\/(m/\∃ s0 vs,Inv X pins σ H' s0/\s'.os=s0.os/\s'.gens=s0.gens/\Heap.MadeExcOf s0.heap s'.heap a (.ref C) vs))
def PX (m:Prop) (X:Cx) (st:Stmt) (t:(St->Hp->Addr->Addr->Prop)->TS):Prop :=
 ∀ (pins:List (Addr×Obj)) (s:Shared) (σ:St) (H:Hp) (D:Ends) (Ex:St->Hp->Addr->Addr->Prop),Inv X pins σ H s->t Ex D σ H->wpAny (model X.prog X.w) X.A (exec st X.env) (SP X pins D) (XP m X pins Ex) s
def PXs (m:Prop) (X:Cx) (st:List Stmt) (t:(St->Hp->Addr->Addr->Prop)->TS):Prop :=
 ∀ (pins:List (Addr×Obj)) (s:Shared) (σ:St) (H:Hp) (D:Ends) (Ex:St->Hp->Addr->Addr->Prop),Inv X pins σ H s->t Ex D σ H->wpAny (model X.prog X.w) X.A (execs st X.env) (SP X pins D) (XP m X pins Ex) s
section
variable {X:Cx}
variable {m:Prop}
abbrev XK':=St->Hp->Addr->Addr->Prop
def PEx (m:Prop) (X:Cx) (e:PySem.Expr) (t:XK'->TE):Prop :=
 ∀ (pins:List (Addr×Obj)) (s:Shared) (σ:St) (H:Hp) (Q:VK) (Ex:XK'),Inv X pins σ H s->t Ex σ H Q->wpAny (model X.prog X.w) X.A (eval e X.env) (EP X pins σ Q) (XP m X pins Ex) s
theorem ZlR {st:Stmt} {rest:List Stmt} {t u:XK'->TS} (h1:PX m X st t) (h2:PXs m X rest u):PXs m X (st :: rest) (λEx=>tSeq (t Ex) (u Ex)):=by
 intro pins s σ H D Ex I h
 refine wpAny_execs_cons (thn (h1 pins s σ H { D with nx:=u Ex D } Ex I h) λf s1 q=>?_)
 cases f with
 | next=>obtain ⟨σ',H',I',q'⟩:=q; exact h2 pins s1 σ' H' D Ex I' q'
 | brk=>exact q
 | cont=>exact q
 | ret u=>exact q
theorem ZhE {st:Stmt} {t:XK'->TS} (h1:PX m X st t):PXs m X [st] t:=by
 intro pins s σ H D Ex I h
 refine wpAny_execs_cons (thn (h1 pins s σ H D Ex I h) λf s1 q=>?_)
 cases f with
 | next=>exact wpAny_execs_nil q
 | brk=>exact q
 | cont=>exact q
 | ret u=>exact q
theorem px_if {c:PySem.Expr} {a b:List Stmt} {pos:Pos} {tc:TT} {t u:XK'->TS} (hx:∀ e s,¬ X.xe e s) (hc:PT X c tc) (ha:PXs m X a t) (hb:PXs m X b u):PX m X (.If c a b pos) (λEx=>tIfS tc (t Ex) (u Ex)):=by
 intro pins s σ H D Ex I h
 refine wpAny_If (wpAny_mono (hc pins s σ H _ I h) (λd s1 ⟨H1,I1,q1⟩=>?_) λe s' z=>absurd z (hx e s'))
 cases d with
 | true=>exact ha pins s1 σ H1 D Ex I1 (by rw [if_pos rfl] at q1; exact q1)
 | false=>exact hb pins s1 σ H1 D Ex I1 (by rw [if_neg Bool.false_ne_true] at q1; exact q1)
theorem Znu {e:PySem.Expr} {te:XK'->TE} {pos:Pos} (he:PEx m X e te) (hs:swapsWith e none pos.line X.env=pure false:=by rfl):PX m X (.Expr e pos) (λEx=>tDrop (te Ex)):=by
 intro pins s σ H D Ex I h
 exact wpAny_Expr_any (thE (he pins s σ H _ Ex I h) λv s1 x H1 I1 r1 q1=>⟨σ,H1,I1,q1⟩) I.quiet hs
def ZmD (C:Addr) (m:Str) (sp:Sp) (ta:TE) (t:TA) (Ex:XK'):TE:=λσ H Q=>ta σ H λx H1=>∃ a dx fs,x=.ref a/\H1 a=some (.ins C dx fs)/\fs.lookup m=none /\
 t σ H1 λvs H2=>sp (x :: vs) H2 Q (λc a' H3=>∃ C' a1,c=.ref C'/\a'=some a1/\Ex σ H3 C' a1)
theorem Znv {pins:List (Addr×Obj)} {σ:St} {H:Hp} {s:Shared} {Q:VK} {us:List Value} {vs:List V} {k:Nat} {f:Addr} {fd:FuncData} {ps:List Str} {sp:Sp} {Ex:XK'} (F:FnOk X.prog X.w X.K X.mg X.base (CXr X.prog X.w) k f fd ps sp) (hr:Room k X.A) (hb:Binds X.K fd ps [])
  (I:Inv X pins σ H s) (r:Vals vs us) (h:sp vs H Q (λc a' H3=>∃ C' a1,c=.ref C'/\a'=some a1/\Ex σ H3 C' a1)):wpAny (model X.prog X.w) X.A (call (.ref f) us) (EP X pins σ Q) (XP m X pins Ex) s:=by
 have hl:us.length=ps.length:=by rw [← r.length]; exact F.len _ _ _ _ h
 have hb':=hb s us I.kIn (by rw [append_nil]; exact hl)
 rw [append_nil] at hb'
 refine wpAny_call (codeAny_mono (F.run X.A X.stack s H ⟨us,[]⟩ us vs Q _ hr I.env0 hb' r h) λr s' hq=>?_)
 cases r with
 | error e =>
  obtain ⟨a,C,H',rfl,fl,C',a1,e1,e2,q⟩:=hq
  cases e1; cases e2
  exact ⟨a,C,σ,H',rfl,q,.inl ⟨H,s,I,fl⟩⟩
 | ok fl =>
  cases fl with
  | ret u=>exact I.after hq
  | next=>exact False.elim hq
  | brk=>exact False.elim hq
  | cont=>exact False.elim hq
theorem ZlS {C:Addr} {mt:Str} {k:Nat} {f:Addr} {fd:FuncData} {ps:List Str} {sp:Sp} {o e:PySem.Expr} {es:List PySem.Expr} {ta:TE} {t:TA} {apos pos:Pos} {pl:Sem Bool} (hx:∀ e s,¬ X.xe e s) (he:PE X o ta) (c:Cls X.K C) (hm:Meth X.K C mt f) (F:FnOk X.prog X.w X.K X.mg X.base (CXr X.prog X.w) k f fd ps sp) (hr:Room k X.A) (hb:Binds X.K fd ps []) (ha:PA X (e :: es) t)
  (hst:starEach (e :: es) X.env=(false,eval e X.env) :: starEach es X.env) (hpl:(backTo pos (starEach es X.env)).any (·.1)=false)
  (ht:eval (.Call (.Attribute o mt apos) (e :: es) [] pos) X.env=(do
   let ov ← eval o X.env
   standAt apos.atName
   let (f,first) ← holding [ov] (getMethod ov mt pl)
   callWith pos f first (backTo pos (starEach (e :: es) X.env)) (backToKw pos (keywordEach [] X.env))):=by rfl) :
  PEx m X (.Call (.Attribute o mt apos) (e :: es) [] pos) (ZmD C mt sp ta t):=by
 intro pins s σ H Q Ex I h
 have no:∀ {A:Type} (e:Value) (s':Shared),X.xe e s'->XP m X pins Ex e s':=λe s' z=>absurd z (hx e s')
 refine W.methodCall_KW (pl:=pl) (wpAny_mono (he pins s σ H _ I h) (λu s1 ⟨x,H1,I1,rx,a,dx,fs,ex,ea,l,q⟩=>?_) λe s' z=>absurd z (hx e s')) ht
 subst ex
 obtain rfl:u=Value.ref a:=rx
 refine Zdw I1 ea c hm l ?_
 refine W.callWith_K (first:=[.ref a]) (h₀:=X.base) I.ok.mod.kin hm.kp (wpAny_mono (ha pos pins s1 σ H1 _ I1 q) (λus s2 ⟨vs,H2,I2,r,q2⟩=>⟨I2.kIn,?_⟩) λe s' z=>absurd z (hx e s')) hst hpl
 exact Znv (us:=.ref a :: us) (vs:=.ref a :: vs) F hr hb I2 (.cons rfl r) q2
end
theorem Zoy {X:Cx} {pins:List (Addr×Obj)} {σ:St} {H0 H':Hp} {s0:Shared} {h0:Heap} (I:Inv X pins σ H0 s0) (hex:X.ex=[]) (u:Un (frs X.stack) [] H0 H' s0.heap h0):Un (frs X.outer) [] X.H₀ H' X.s₀.heap h0:=by
 have ib:=I.base
 rw [hex] at ib
 have ne:∀ b o,X.s₀.heap.get? b=some o->b≠X.env.locals:=λb o e z=>by have q1:=Heap.lt_size e; have q2:=I.ok.above; rw [← z] at q2; exact absurd q1 (Nat.not_lt.mpr q2)
 have st:∀ b,b∈frs X.stack->b=X.env.locals\/b∈frs X.outer:=λb hb=>List.mem_cons.mp (I.stkSub b hb)
 have su:∀ b,b∈frs X.outer->b∈frs X.stack:=λb hb=>by
  rcases I.ok.stk with e | ⟨e,_⟩
  .rw [e]; exact hb
  .rw [e]
   obtain ⟨v,hv,hf⟩:=List.mem_filterMap.mp hb
   exact List.mem_filterMap.mpr ⟨v,.tail _ hv,hf⟩
 refine ⟨λb o e n nf nx=>u.keep b o (ib.keep b o e n nf nx) (ib.free b o e n nx) (λz=>(st b z).elim (ne b o e) nf) nx,λb o e n hb nx=>?_,λb o e n nx=>?_,λb o e nx=>?_,λb xs e=>u.tups _ _ (ib.tups _ _ e),λb o v e=>u.frzs _ _ _ (ib.frzs _ _ _ e),λb p q e=>u.tbls _ _ _ (ib.tbls _ _ _ e)⟩
 .obtain ⟨sl,e1⟩:=ib.slot b o e n hb nx
  obtain ⟨sl2,e2⟩:=u.slot b _ e1 (ib.free b o e n nx) (su b hb) nx
  exact ⟨sl2,e2⟩
 .obtain ⟨o1,e1⟩:=ib.there b o e nx
  exact u.free b o1 e1 (ib.free b o e n nx) nx
 .obtain ⟨o1,e1⟩:=ib.there b o e nx
  exact u.there b o1 e1 nx
theorem ZlT {P:Program} {w:World} {K:W.Frag} {mg:Str->Option Value} {base:Heap} {N:List Str} {qual:Str} {scope:Scope} {f:Addr} {cd:Value} {A:Around} {outer:List Env} {s:Shared} {H:Hp} {E:XK} {pins:List (Addr×Obj)} {e:Value} {s':Shared}
  (x:XP True (cxOf (CXr P w) P w K mg base N qual scope f cd A outer s H E).nox pins (λ_ H' C a=>E (.ref C) (some a) H') e s'):(cxOf (CXr P w) P w K mg base N qual scope f cd A outer s H E).xe e s':=by
 obtain ⟨a,C,σ,H',rfl,hE,h⟩:=x
 rcases h with ⟨H0,s0,I,fl⟩ | ⟨_,s0,vs,I,ho,hg,hx⟩
 .obtain ⟨h0,B,t,u,hok,hf,hB,fw,up⟩:=fl.ex
  have u2:=Zoy I rfl u
  refine wpAny_leaves_onW (outer:=outer) I.ok.frames rfl fw λh' fw' up'=>⟨a,C,H',rfl,⟨fl.os.trans I.os,fl.bare,h0,B,t,u2,hok,λb hb=>hf b ?_,λb o e nf hor=>?_,fw',up.trans up'⟩,hE⟩
  .obtain ⟨v,hv,hf'⟩:=List.mem_filterMap.mp hb
   exact List.mem_filterMap.mpr ⟨v,.tail _ hv,hf'⟩
  .have nb:b∉frs (cxOf (CXr P w) P w K mg base N qual scope f cd A outer s H E).nox.stack:=λz=>by
    rcases List.mem_cons.mp (I.stkSub b z) with e1 | e1
    .rcases hor with ⟨o1,e2⟩ | n
     .have q1:=Heap.lt_size e2; have q2:=I.ok.above; rw [← e1] at q2; exact absurd q1 (Nat.not_lt.mpr q2)
     .exact n (hf b z).1
    .exact nf e1
   refine hB b o e nb (hor.imp (λ⟨o1,e2⟩=>?_) id)
   exact I.base.there b o1 e2 (λz=>nomatch z)
 .have E0:=I.env0
  have hin:∀ env∈(cxOf (CXr P w) P w K mg base N qual scope f cd A outer s H E).nox.stack,∀ b,env.frame=some b->b∈frs (cxOf (CXr P w) P w K mg base N qual scope f cd A outer s H E).nox.stack:=λenv he b hb=>List.mem_filterMap.mpr ⟨env,he,hb⟩
  refine wpAny_leaves_madeW (outer:=outer) (base:=hideAll s0.heap (frs (cxOf (CXr P w) P w K mg base N qual scope f cd A outer s H E).nox.stack)) I.ok.frames rfl (λb o q=>of_hideAll _ q) (funFrames_hide E0.funs hin) hx λh' t fw' tu nt up=>⟨a,C,H',rfl,⟨ho.trans I.os,by rw [hg]; exact I.bare,s0.heap,_,t,I.base,I.hok,λb hb=>?_,λb o e nf hor=>?_,fw',(Heap.UpToSlots.of_keeps hx.keeps).trans up⟩,hE⟩
  .have hb':b∈frs (cxOf (CXr P w) P w K mg base N qual scope f cd A outer s H E).nox.stack:=by
    obtain ⟨v,hv,hf'⟩:=List.mem_filterMap.mp hb
    exact List.mem_filterMap.mpr ⟨v,.tail _ hv,hf'⟩
   obtain ⟨_,o,e1,e2⟩:=E0.funs.mem hb'
   exact ⟨E0.frf b hb',o,e1,e2⟩
  .refine hideAll_get _ e λz=>?_
   rcases List.mem_cons.mp (I.stkSub b z) with e1 | e1
   .rcases hor with ⟨o1,e2⟩ | n
    .have q1:=Heap.lt_size e2; have q2:=I.ok.above; rw [← e1] at q2; exact absurd q1 (Nat.not_lt.mpr q2)
    .exact n (E0.frf b z)
   .exact nf e1
theorem Fun.okx {P:Program} {w:World} {K:W.Frag} {mg:Str->Option Value} {base:Heap} {x qual:Str} {st:Stmt} {f:Addr} {fd:FuncData} {N ps:List Str} {k:Nat} {sp:Sp} (F:Fun K x qual st f fd) (S:FnScope N ps (Zh st)) (len:∀ vs H Q E,sp vs H Q E->vs.length=ps.length)
  (hb:∀ (cdv:Value) (A:Around) (outer:List Env) (s:Shared) (H:Hp) (vs:List V) (Q:VK) (E:XK),Room k (A.deeper (envOfC qual (Zh st) s.heap.objs.size f cdv))->sp vs H Q E ->
   ∃ t,PXs True (cxOf (CXr P w) P w K mg base N qual (Zh st) f cdv A outer s H E).nox (Zz st) t/\t (λ_ H' C a=>E (.ref C) (some a) H') { nx:=λ_ H'=>Q .non H',rt:=Q } (start N vs) H):FnOk P w K mg base (CXr P w) (k+1) f fd ps sp:=by
 obtain ⟨oc,od,kV,doc,pm,an,cdv,ct,osl,rfl,lk,hcd⟩:=F.ex
 refine fn_of lk hcd S len λA outer s H vs Q E hr hsp=>?_
 obtain ⟨t,h,q⟩:=hb cdv A outer s H vs Q E hr hsp
 refine ⟨t (λ_ H' C a=>E (.ref C) (some a) H'),λpins s1 σ H1 D I hw=>?_,q⟩
 exact wpAny_mono (h pins s1 σ H1 D _ (I.wish _) hw) (λ_ _ z=>z.unwish) λe s' z=>ZlT z
abbrev bmVE:List Value:=[.type "ValueError",.type "Exception",.type "BaseException",.type "object"]
structure XCls (K:W.Frag) (C:Addr):Prop where
 ex:∃ (nm q:Str) (N:Addr) (bs bm:List Value) (hdct:Bool) (sn:List Str) (sub:List Value) (ab:Bool) (col:Option Bool) (dd:Option Addr) (k0 k1 k2 k3 k5:Option Value),
  K.lookup C=some (excClassObj nm q C N bs bm hdct sn sub ab col dd k0 k1 k2 k3 k5 "ValueError.__new__")/\W.tailIn K bmVE bm=true/\W.nsOkIn K N=true/\W.nsIn K N "__init__" = some none
section
variable {X:Cx}
def Znw (C:Addr) (t:TA) (Ex:XK'):TS:=λ_ σ H=>t σ H λvs H1=>vs.length<=sizeLine/\∀ a,Ex σ H1 C a
theorem ZlU {x:Str} {C:Addr} {np cpos pos:Pos} {e:PySem.Expr} {es:List PySem.Expr} {t:TA} (hx:∀ e s,¬ X.xe e s) (hc:X.calm=true) (hg:Gl X x) (hm:X.mg x=some (.ref C)) (c:XCls X.K C) (ha:PA X (e :: es) t)
  (hst:starEach (e :: es) X.env=(false,eval e X.env) :: starEach es X.env:=by rfl) (hpl:(backTo cpos (starEach es X.env)).any (·.1)=false:=by rfl) (hd:(x == ("__debug__" : Str))=false:=by decide) :
  PX True X (.Raise (some (.Call (.Name x np) (e :: es) [] cpos)) none pos) (Znw C t):=by
 intro pins s σ H D Ex I h
 obtain ⟨nm,q,N,bs,bm,hdct,sn,sub,ab,col,dd,k0,k1,k2,k3,k5,hl,ht,hn,hi⟩:=c.ex
 have T:=W.tail_of_in I.mod.kin ht
 refine wpAny_Raise_call_subU (C:=C) (nm:=nm) (q:=q) (N:=N) (bs:=bs) (bm:=bm) (hdct:=hdct) (sn:=sn) (sub:=sub) (ab:=ab) (col:=col) (dd:=dd) (k0:=k0) (k1:=k1) (k2:=k2) (k3:=k3) (k5:=k5)
  F.excBase_ValueError (by decide) F.excBase_ValueError (mN:=X.base.nsMap N) (T.hasType F.excBase_ValueError.hasBase) (I.ok.hd hc) (by rw [hst]; show (false || (backTo cpos (starEach es X.env)).any (·.1))=false; rw [hpl]; rfl)
  (W.nsMap_none_of_in I.mod.kin hn hi) (Zep I hg hm ⟨rfl,?_⟩ hd)
 have h1:=ha cpos pins s σ H _ I h
 rw [hst] at h1 ⊢
 refine Calls.evalArgs_plain (wpAny_mono h1 (λus s1 ⟨vs,H1,I1,r,hv,q⟩=>⟨rfl,?_,I1.kIn _ _ hl,(Heap.Ns.of_isNs (W.isNs_of_in I.mod.kin hn)).keeps I1.bk,T.keeps I1.bk,λh' a M=>?_⟩) λe s' z=>absurd z (hx e s'))
 .show us.length<=sizeLine
  rw [← r.length]; exact hv
 .exact ⟨a,C,σ,H1,rfl,q a,.inr ⟨True.intro,s1,us,I1,rfl,rfl,M⟩⟩
def tFstr (ta:TE):TE:=λσ H Q=>ta σ H λx H1=>∃ i:Int,x=.int i/\i.natAbs<2 ^ 100/\∀ y:Str,Q (.str y) H1
end
theorem ObjOk.got {P:Program} {w:World} {H:Hp} {h:Heap} {a:Addr} {o:HO} (x:ObjOk P w H h a o):∃ ob,h.get? a=some ob:=by
 cases o with
 | lst xs=>obtain ⟨_,_,_,_,e⟩:=x; exact ⟨_,e⟩
 | tup xs=>obtain ⟨_,_,_,_,e,_⟩:=x; exact ⟨_,e⟩
 | dK kvs=>obtain ⟨_,_,_,_,o,_,_,e,_⟩:=x; exact ⟨_,e⟩
 | dT kvs=>obtain ⟨_,_,_,_,o,_,_,e,_⟩:=x; exact ⟨_,e⟩
 | set S n=>obtain ⟨o,_,_,_,e,_⟩:=x; exact ⟨_,e⟩
 | ins C dx fs=>obtain ⟨_,_,_,e,_⟩:=x; exact ⟨_,e⟩
 | own y=>obtain ⟨_,e⟩:=x; exact ⟨_,e⟩
 | xd fs=>obtain ⟨_,⟨_,_,_,e,_⟩,_⟩:=x; exact ⟨_,e⟩
 | rng lo hi=>obtain ⟨_,_,_,e⟩:=x; exact ⟨_,e⟩
 | frz ob u=>obtain ⟨e,_⟩:=x; exact ⟨_,e⟩
 | tbl p q=>obtain ⟨_,e,_⟩:=x; exact ⟨_,e⟩
 | met f y=>exact ⟨_,(show h.get? a=some _ from x)⟩
 | ext φ=>obtain ⟨_,e,_⟩:=x; exact e
def isX (a C:Addr):HO:=.ext λh=>∃ ob,h.get? a=some ob/\ob.cls=.ref C
section
variable {P:Program} {w:World} {l:List Env} {H H':Hp} {s s':Shared} {a C:Addr}
theorem Flies.got (f:Flies P w l H s H' a C s'):∃ ob,s'.heap.get? a=some ob/\ob.cls=.ref C:=by
 obtain ⟨h0,B,t,u,hok,hf,hB,fl,up⟩:=f.ex
 exact fl.there
theorem Flies.fresh (f:Flies P w l H s H' a C s'):H' a=none/\s.heap.get? a=none:=by
 obtain ⟨h0,B,t,u,hok,hf,hB,fl,up⟩:=f.ex
 obtain ⟨oe,vs,he,_,hd,_⟩:=fl.first
 have nf:a∉frs l:=λz=>by
  obtain ⟨_,o,e0,nd⟩:=hf a z
  obtain ⟨sl,e1⟩:=up a o e0 nd
  rw [he] at e1
  cases e1
  exact nd _ hd
 have nB:∀ o,B.get? a=some o->False:=λo e=>by rw [fl.2.1] at e; cases e
 refine ⟨?_,?_⟩
 .cases e:H' a with
  | none=>rfl
  | some v=>obtain ⟨o,eo⟩:=(hok a v e).got; exact (nB o (hB a o eo nf (.inr (by rw [e]; exact Option.some_ne_none _)))).elim
 .cases e:s.heap.get? a with
  | none=>rfl
  | some v=>obtain ⟨o,eo⟩:=u.there a v e (λz=>nomatch z); exact (nB o (hB a o eo nf (.inl ⟨v,e⟩))).elim
theorem Flies.unX (f:Flies P w l H s H' a C s'):Un (frs l) [] H (upd H' a (isX a C)) s.heap s'.heap/\HOk P w (upd H' a (isX a C)) s'.heap:=by
 obtain ⟨n1,n2⟩:=f.fresh
 have u:=f.un
 have ne:∀ {b:Addr} {v:HO},H' b=some v->b≠a:=λq z=>by rw [z,n1] at q; cases q
 refine ⟨⟨u.keep,u.slot,λb o e n nx=>?_,u.there,λb xs e=>?_,λb o v e=>?_,λb p q e=>?_⟩,λb v e=>?_⟩
 .rw [Zc (λz=>by rw [z,n2] at e; cases e)]; exact u.free b o e n nx
 .rw [Zc (ne (u.tups b xs e))]; exact u.tups b xs e
 .rw [Zc (ne (u.frzs b o v e))]; exact u.frzs b o v e
 .rw [Zc (ne (u.tbls b p q e))]; exact u.tbls b p q e
 .by_cases hb:b=a
  .subst hb
   rw [Za] at e
   cases e
   obtain ⟨ob,g,c⟩:=f.got
   exact ⟨⟨ob,g,c⟩,⟨ob,g⟩,λh1 h2 ⟨o,e,c⟩ k=>⟨o,k o e,c⟩⟩
  .rw [Zc hb] at e
   exact (f.hok b v e).stay (λc x _ q=>q) (λc q=>by rw [Zc (ne q)]; exact q) (λc xs q=>by rw [Zc (ne q)]; exact q) λc oz q=>by rw [Zc (ne q)]; exact q
theorem Flies.invX {X:Cx} {pins:List (Addr×Obj)} {σ:St} (I:Inv X pins σ H s) (f:Flies X.prog X.w X.stack H s H' a C s'):Inv X pins σ (upd H' a (isX a C)) s' :=
 I.call' f.os f.unX.1 f.unX.2 f.bare (λb h=>nomatch h)
end
abbrev Cx.held (X:Cx) (a:Addr):Cx:={ X with A:=X.A.mark (some (.ref a)),calm:=false,xe:=λ_ _=>False }
section
variable {X:Cx} {pins:List (Addr×Obj)} {σ:St} {H H':Hp} {s s':Shared} {a C:Addr}
theorem Inv.held (I:Inv X pins σ H s) (a:Addr):Inv (X.held a) pins σ H s :=
 ⟨⟨I.ok.mod,I.ok.kind,I.ok.glob,I.ok.blt,I.ok.above,I.ok.inj,I.ok.has,I.ok.cab,(λz=>nomatch z),I.ok.frames,I.ok.stk,I.ok.exf,I.ok.bs,I.ok.bsz,I.ok.noex,I.ok.exfs,I.ok.funs,I.ok.frf⟩,I.os,I.bare,I.base,I.loc,I.cell,I.free,I.freeC,I.pin,I.hok,I.len⟩
theorem Inv.unheld (I:Inv (X.held a) pins σ H s) (ok:X.Ok):Inv X pins σ H s :=
 ⟨ok,I.os,I.bare,I.base,I.loc,I.cell,I.free,I.freeC,I.pin,I.hok,I.len⟩
theorem Znx {M:Model} {A:Around} {E:Value->Shared->Prop} {i:Nat} {x:Str} {pos:Pos} {Q:Unit->Shared->Prop} (I:Inv X pins σ H s) (hN:X.N.Nodup) (hi:X.N[i]?=some x) (hk:X.env.kindOf x=some .local)
  (h:∀ s',Inv X pins (σ.set i none) H s'->Q () s'):wpAny M A (do bindName X.env x .none; unbindBehindTheSuite X.env x pos) Q E s:=by
 obtain ⟨m,hn,hl⟩:=id I.loc
 have hcls:(X.env.scope.kind == .class || (X.env.scope.kind == .module && X.env.locals != X.env.globals))=false:=by rw [I.ok.kind]; rfl
 have hiσ:i<σ.length:=by rw [I.len]; exact (List.getElem?_eq_some_iff.mp hi).1
 have cne:=I.cne
 refine wpAny_nameGoes_keeps hk hn hcls λh' v hn' hs=>?_
 obtain ⟨oL,_,_,hoL,_⟩:=id hn
 have hok:HOk X.prog X.w H h':=λb ob e=>by
  refine (I.hok b ob e).stay (λc w' hc q=>(hs.2 c ?_).trans q) (λ_ q=>q) λ_ _ q=>q
  rintro rfl
  rcases hc with rfl | hc
  .rw [I.free] at e; cases e
  .rw [I.free] at hc; cases hc
 refine h _ ⟨I.ok,I.os,I.bare,⟨λb o e n hb hx=>?_,λb o e n hb hx=>?_,I.base.free,λb o e hx=>?_,I.base.tups,I.base.frzs,I.base.tbls⟩,⟨_,hn',λj y v' e1 e2 e3=>?_⟩,λy c e=>?_,I.free,I.freeC,λp hp=>?_,hok,by simpa using I.len⟩
 .exact (hs.2 b (Nat.ne_of_lt (Nat.lt_of_lt_of_le (Heap.lt_size e) I.ok.above))).trans (I.base.keep b o e n hb hx)
 .obtain ⟨sl,e1⟩:=I.base.slot b o e n hb hx
  exact ⟨sl,(hs.2 b (Nat.ne_of_lt (Nat.lt_of_lt_of_le (Heap.lt_size e) I.ok.above))).trans e1⟩
 .obtain ⟨o',e1⟩:=I.base.there b o e hx
  exact ⟨o',(hs.2 b (Nat.ne_of_lt (Nat.lt_of_lt_of_le (Heap.lt_size e) I.ok.above))).trans e1⟩
 .by_cases hj:j=i
  .subst hj
   rw [getElem?_set_self hiσ] at e2
   cases e2
  .rw [getElem?_set_ne (Ne.symm hj)] at e2
   obtain ⟨u',r',q⟩:=hl j y v' e1 e2 e3
   refine ⟨u',r',?_⟩
   rcases q with ⟨k,e⟩ | ⟨k,c,e,z⟩
   .refine .inl ⟨k,?_⟩
    have:y≠x:=λe=>hj (Zfz hN e1 (e ▸ hi))
    simp [this,e]
   .exact .inr ⟨k,c,e,z.sameBut hs (cne y c e)⟩
 .obtain ⟨w',z⟩:=I.cell y c e
  exact ⟨w',z.sameBut hs (cne y c e)⟩
 .obtain ⟨e,n,ne,nf,d⟩:=I.pin p hp
  exact ⟨(hs.2 p.1 ne).trans e,n,ne,nf,d⟩
end
section
variable {X:Cx}
def tTryX (K:W.Frag) (D0:Addr) (i:Nat) (t:XK'->TS) (u:TS):TS:=λD σ H =>
 t (λσ1 H1 C a=>W.exmOne K (.ref C) (.ref D0)=some true/\∀ H2,H1 a=none->H2=upd H1 a (isX a C)->u { nx:=λσ2 H3=>D.nx (σ2.set i none) H3,bk:=λ_ _=>False,ct:=λ_ _=>False,rt:=λ_ _=>False } (σ1.set i (some (.ref a))) H2) D σ H
theorem Zny {body:List Stmt} {x n:Str} {D0:Addr} {i:Nat} {np hpos pos:Pos} {b0:Stmt} {suite:List Stmt} {t:XK'->TS} {u:TS} (hf:X.env.frame=some X.env.locals) (hsk:X.stack=X.env :: X.outer) (hg:Gl X x) (hm:X.mg x=some (.ref D0))
  (hN:X.N.Nodup) (hi:X.N[i]?=some n) (hl:X.env.scope.names.lookup n=some .local) (h:PXs False X body t) (hs:∀ a,PSs (X.held a) (b0 :: suite) u) (hd:(x == ("__debug__" : Str))=false:=by decide) :
  PS X (.Try body [.ExceptHandler (some (.Name x np)) (some n) (b0 :: suite) hpos] [] [] pos) (tTryX X.K D0 i t u):=by
 intro pins s σ H D I ht
 refine wpAny_Try_except (wpAny_mono (h pins s σ H D _ I ht) (λf s1 q=>?_) λe s1 q=>?_)
 .cases f with
  | next=>exact wpAny_execs_nil q
  | _=>exact q
 obtain ⟨a,C,σ1,H1,rfl,⟨hx,hk⟩,⟨H0,s0,I0,f⟩ | ⟨z,_⟩⟩:=q
 .have hfr:X.A.frames=some (X.env :: X.outer):=by rw [← hsk]; exact I.ok.frames
  obtain ⟨h0,B,tt,uu,hok,hff,hB,fl,u0⟩:=f.ex
  have fl':=fl
  rw [hsk] at fl'
  refine wpAny_looks_onW hfr hf fl' λh4 hh4 up4=>?_
  refine wpAny_landsW hh4 λh5 fl5 up5=>?_
  have f5:∀ tk,Flies X.prog X.w X.stack H0 s0 H1 a C { s1 with heap:=h5,toks:=tk }:=λtk=>⟨f.os,f.bare,h0,B,tt,uu,hok,hff,hB,by rw [hsk]; exact fl5,(u0.trans up4).trans up5⟩
  have I5:=((f5 s1.toks).invX I0).held a
  refine wpAny_handleBy_cons (codeAny_handlers_test (Zep I5 hg hm ?_ hd)) (by intro q; cases q)
  obtain ⟨ob,hob,hc⟩:=(f5 s1.toks).got
  have LT:W.Looks (model X.prog X.w) h5 (typeOf (.ref a)) (.ref C):=hc ▸ (W.Looks.ld hob).andThen .now
  refine (W.exm_one I5.kIn LT hx).here (codeAny_handlers_suite_as ?_)
  refine lands_againW (show Heap.FlyingW B (X.env :: X.outer) a (.ref C) (.ref tt) h5 from fl5) λh6 fl6 up6=>?_
  have f6:Flies X.prog X.w X.stack H0 s0 H1 a C { s1 with heap:=h6 }:=⟨f.os,f.bare,h0,B,tt,uu,hok,hff,hB,by rw [hsk]; exact fl6,((u0.trans up4).trans up5).trans up6⟩
  have I6:=(f6.invX I0).held a
  refine Zdb (X:=X.held a) I6 hN hi (.inl hl) (v:=.ref a) rfl (λs7 I7=>?_) (.inr hl)
  refine wpAny_mono (hs a pins s7 _ _ _ I7 (hk _ f.fresh.1 rfl)) (λfw s8 q=>?_) λe s8 q=>q.elim
  cases fw with
  | next =>
   obtain ⟨σ2,H2,I8,q⟩:=q
   exact Znx (I8.unheld I.ok) hN hi hl λs9 I9=>⟨_,_,I9,q⟩
  | brk=>obtain ⟨_,_,_,z⟩:=q; exact z.elim
  | cont=>obtain ⟨_,_,_,z⟩:=q; exact z.elim
  | ret v=>obtain ⟨_,_,_,_,_,z⟩:=q; exact z.elim
 .exact z.elim
end
end L2
namespace L2
open PySem PySem.Calls PySem.Spec PyProof.Rows PySem.W Builtin Builtin.ObjectAttr Builtin.Getset_descriptor
structure XAsk (K:W.Frag) (C:Addr):Prop where
 ga:W.findIn K (.ref C) "__getattribute__" = some (some (.builtin "BaseException.__getattribute__"))
 gn:W.findIn K (.ref C) "__getattr__" = some none
 mb:W.mroIn K C (.type "BaseException")=some true
 cl:(W.clsIn K C).isSome=true
 ha:W.findIn K (.ref C) "__class__" = some (some (.builtin "object.__class__"))
 hn:W.specialIn K (.builtin "object.__class__") "__get__" = some (some (.builtin "getset_descriptor.__get__"))
 ht:W.takesIn K (.builtin "object.__class__")=some true
 hm:W.mroIn K C (.type "object")=some true
section
variable {K:W.Frag} {prog:Program} {w:World} {A:Around} {E:Value->Shared->Prop} {s:Shared} {x C:Addr}
def IsOf (x C:Addr) (h:Heap):Prop:=∃ ob,h.get? x=some ob/\ob.cls=.ref C
theorem IsOf.ty {M:Model} {h:Heap} (i:IsOf x C h):W.Looks M h (typeOf (.ref x)) (.ref C):=by
 obtain ⟨ob,e,c⟩:=i
 exact c ▸ (W.Looks.ld e).andThen .now
theorem XAsk.find {M:Model} {h:Heap} (k:XAsk K C) (X:K.In h):W.Looks M h (find (.ref x) (.ref C) "__class__") (.bind (.builtin "getset_descriptor.__get__") (.builtin "object.__class__")):=by
 have L2:W.Looks M h (getOf (some (.builtin "object.__class__"))) (some (.builtin "getset_descriptor.__get__")):=W.looks_specialIn X k.hn
 have L3:=W.looks_takesIn (M:=M) X k.ht
 exact (W.looks_findIn X k.ha).andThen (L2.andThen ((show W.Looks M h (dataDescriptor? (some _) (some _)) (some (_,_)) from L3.andThen .now).andThen (W.Looks.tag .now)))
theorem XAsk.get {R:Result->Shared->Prop} {tp:Value} (k:XAsk K C) (X:K.In s.heap) (i:IsOf x C s.heap) (h:R (.ok (.ret (.ref C))) s) :
  codeAny (model prog w) A (.call (.builtin "getset_descriptor.__get__") ⟨[.builtin "object.__class__",.ref x,tp],[]⟩) R s:=by
 obtain ⟨hh,g,dr,t,os⟩:=s
 have L0:=i.ty (M:=model prog w)
 have L1:=W.looks_mroIn (M:=model prog w) X k.hm
 refine codeAny_call_builtin KF.slot_gs.plain KF.entry_gs (KF.slot_gs.check _ _ _ _ _ _ _ _ KF.type_class (KF.args_gs _ _ _) ?_)
 unfold Builtin.«getset_descriptor.__get__» descrGet
 rw [dga_obj]
 refine wpAny_bind (wpAny_pure ?_)
 unfold descrGetter descrCheckInstance descrNameAndClass isInstance
 simp only [KF.owner_class]
 repeat lk
 refine ⟨Code.quiet_builtin _ (by decide +kernel),codeAny_builtin KF.entry_class ?_⟩
 unfold Builtin.«object.__class__» shownTypeOf
 repeat lk
 exact h
theorem XAsk.entry {tk:Tok} {Q:Fin->Shared->Prop} (k:XAsk K C) (X:K.In s.heap) (i:IsOf x C s.heap) (h:Q (.done (.ret (.ref C))) s):wpAny (model prog w) A (Builtin.«object.__getattribute__» ⟨[.ref x,.str "__class__" tk],[]⟩) Q E s:=by
 obtain ⟨hh,g,d,t,os⟩:=s
 have L0:=i.ty (M:=model prog w)
 have L2:=k.find (M:=model prog w) (x:=x) X
 unfold Builtin.«object.__getattribute__»
 refine wpAny_bind (wpAny_pure ?_)
 refine wpAny_bind (wpAny_pure (wpAny_bind (L0.at (wpAny_bind (L2.at ?_)))))
 show wpAny _ _ (holding [_] (call _ [_,.ref x,.ref C]) >>= ret) _ _ _
 exact wpAny_bind (wpAny_holding (wpAny_call (k.get (s:=⟨hh,g,d,t,os⟩) X i (wpAny_pure h))))
theorem XAsk.check {v:Value} {Q:Unit->Shared->Prop} (k:XAsk K C) (X:K.In s.heap) (i:IsOf x C s.heap) (h:Q () s):wpAny (model prog w) A (checkBuiltinCall "BaseException.__getattribute__" ⟨[.ref x,v],[]⟩) Q E s:=by
 have hk:builtinKind "BaseException.__getattribute__" = some .slot:=by decide +kernel
 have hsplit:splitId "BaseException.__getattribute__" = some ("BaseException", "__getattribute__"):=by decide +kernel
 have L0:=i.ty (M:=model prog w)
 have L1:=W.looks_mroIn (M:=model prog w) X k.mb
 have ha:=F.args_bexc_ga (.ref x) v
 obtain ⟨hh,g,d,t,os⟩:=s
 simp only [checkBuiltinCall,hk,hsplit]
 refine wpAny_bind ?_
 unfold isInstance
 repeat lk
 exact h
theorem XAsk.call {tk:Tok} {R:Result->Shared->Prop} (k:XAsk K C) (X:K.In s.heap) (i:IsOf x C s.heap) (h:R (.ok (.ret (.ref C))) s) :
  codeAny (model prog w) A (.call (.builtin "BaseException.__getattribute__") ⟨[.ref x,.str "__class__" tk],[]⟩) R s :=
 codeAny_call_builtin F.excAttr_ValueError.ga.plain F.entry_bexc_ga (k.check X i (k.entry X i h))
theorem XAsk.cls {Q:Option Value->Shared->Prop} (k:XAsk K C) (X:K.In s.heap) (i:IsOf x C s.heap) (h:Q (some (.ref C)) { s with toks:=s.toks+1 }):wpAny (model prog w) A (getAttr? (.ref x) "__class__") Q E s:=by
 obtain ⟨hh,g,d,t,os⟩:=s
 have L0:=i.ty (M:=model prog w)
 have L1:=W.looks_findIn (M:=model prog w) X k.ga
 have L3:=W.looks_findIn (M:=model prog w) X k.gn
 unfold getAttr? getAttrBy? getAttrBy
 refine wpAny_bind (wpAny_mkText (wpAny_bind (wpAny_attempt (wpAny_holding (wpAny_bind (L0.at (wpAny_bind (L1.at ?_))))))))
 show wpAny _ _ (getAttrByItsOwn _ _ _ _ _ _) _ _ _
 unfold getAttrByItsOwn
 refine wpAny_bind (L3.at (wpAny_bind (wpAny_attempt (wpAny_holding ?_))))
 show wpAny _ _ (boundAndCalled _ _ _) _ _ _
 unfold boundAndCalled
 rw [F.excAttr_ValueError.ga.bind]
 refine wpAny_bind (wpAny_pure (wpAny_call (k.call (s:=⟨hh,g,d,t+1,os⟩) X i ?_)))
 exact W.handed_on rfl (wpAny_pure h)
theorem XAsk.kit (k:XAsk K C):W.KitX K (.ref x) (.ref C) (IsOf x C) where
 ty:=λ_ _ _ i=>i.ty
 it:=λ_ _ X _=>by
  obtain ⟨cd,hc⟩:=Option.isSome_iff_exists.mp k.cl
  unfold W.clsIn at hc
  split at hc
  .rename_i ho
   intro A' Q' E' s' k q
   unfold isType loadHead
   exact wpAny_bind (wpAny_loadPart (k _ _ (X _ _ ho)) (wpAny_pure q))
  .cases hc
 ne:=λh tp dd its n sl X htp=>by
  obtain ⟨cd,hc⟩:=Option.isSome_iff_exists.mp k.cl
  refine Bool.eq_false_iff.mpr λq=>?_
  have e:C=tp:=Value.ref.inj (beq_iff_eq.mp q)
  subst e
  unfold W.clsIn at hc
  split at hc
  .rename_i ho
   have z:=(X _ _ ho).symm.trans htp
   cases z
  .cases hc
 ca:=λX i q=>k.cls X i q
end
end L2
namespace L2
open PySem PySem.Calls PySem.Spec PyProof.Rows PySem.W
def askIn (K:W.Frag) (C:Addr):Bool:=W.findIn K (.ref C) "__getattribute__" == some (some (.builtin "BaseException.__getattribute__")) && W.findIn K (.ref C) "__getattr__" == some none && W.mroIn K C (.type "BaseException") == some true && (W.clsIn K C).isSome && W.findIn K (.ref C) "__class__" == some (some (.builtin "object.__class__")) && W.specialIn K (.builtin "object.__class__") "__get__" == some (some (.builtin "getset_descriptor.__get__")) && W.takesIn K (.builtin "object.__class__") == some true && W.mroIn K C (.type "object") == some true
theorem Zoz {K:W.Frag} {C:Addr} (h:askIn K C=true):XAsk K C:=by
 unfold askIn at h
 simp only [Bool.and_eq_true,beq_iff_eq] at h
 obtain ⟨⟨⟨⟨⟨⟨⟨h0,h7⟩,h8⟩,h2⟩,h3⟩,h4⟩,h5⟩,h6⟩:=h
 exact ⟨h0,h7,h8,h2,h3,h4,h5,h6⟩
theorem ZoA {K:W.Frag} {C:Addr} (h:W.excIn K C bmVE "ValueError.__new__" = true):XCls K C:=by
 unfold W.excIn at h
 split at h
 .rename_i dd cd sl hl
  split at h
  .rename_i hm hs
   simp only [Bool.and_eq_true,beq_iff_eq,Bool.not_eq_true'] at h
   obtain ⟨⟨⟨⟨⟨h1,h2⟩,h3⟩,h4⟩,h5⟩,h6⟩:=h
   subst h1 h2
   cases cd
   cases sl
   simp only at hm hs h3 h5 h6
   subst hm hs h3
   exact ⟨_,_,_,_,_,_,_,_,_,_,_,_,_,_,_,_,hl,h4,h5,h6⟩
  .cases h
 .cases h
def xIn (K:W.Frag) (S:Addr) (Cs Ds:List Addr):Bool:=decide Cs.Nodup && Cs.all λC=>W.excIn K C bmVE "ValueError.__new__" && askIn K C && W.exmOne K (.ref C) (.ref S) == some true &&
 (Cs.all λD=>W.kitOne K (.ref C) (.ref D) == some (decide (C=D))) && (Ds.all λD=>W.kitOne K (.ref C) (.ref D) == some false) && W.kitOne K (.ref C) (.type "ValueError") == some true
structure XOk (K:W.Frag) (S C:Addr) (Cs Ds:List Addr):Prop where
 n:Cs.Nodup
 c:XCls K C
 a:XAsk K C
 s:W.exmOne K (.ref C) (.ref S)=some true
 k:∀ D∈Cs,W.kitOne K (.ref C) (.ref D)=some (decide (C=D))
 d:∀ D∈Ds,W.kitOne K (.ref C) (.ref D)=some false
 v:W.kitOne K (.ref C) (.type "ValueError")=some true
theorem ZoB {K:W.Frag} {S C:Addr} {Cs Ds:List Addr} (h:xIn K S Cs Ds=true) (m:C∈Cs):XOk K S C Cs Ds:=by
 unfold xIn at h
 rw [Bool.and_eq_true,decide_eq_true_eq] at h
 have q:=List.all_eq_true.mp h.2 C m
 simp only [Bool.and_eq_true,beq_iff_eq,all_eq_true] at q
 obtain ⟨⟨⟨⟨⟨h1,h2⟩,h3⟩,h4⟩,h5⟩,h6⟩:=q
 exact ⟨h.1,ZoA h1,Zoz h2,h3,h4,h5,h6⟩
section
variable {X:Cx} {K:W.Frag}
def rIsx (K:W.Frag):List V->Hp->VK->Prop:=λxs H Q=>∃ (a C:Addr) (c:V) (u:Value) (b:Bool),xs=[.ref a,c]/\H a=some (isX a C)/\XAsk K C/\(∀ v,RelV c v->v=u)/\W.kitOne K (.ref C) u=some b/\Q (.bl b) H
theorem ZlV (hK:X.K=K):CallR X (.builtin "isinstance") (rIsx K):=by
 subst hK
 intro pins s σ H xs us Q I r h
 obtain ⟨a,C,c,u,b,rfl,ha,k,hu,hb,q⟩:=h
 obtain ⟨v1,v2,rfl,r1,r2⟩:=vals2 r
 cases r1
 obtain rfl:=hu _ r2
 obtain ⟨i,_⟩:=(show ObjOk X.prog X.w H s.heap a (isX a C) from I.hok a _ ha)
 exact W.kia_one k.kit I.kIn i hb (λz=>nomatch z) λtk=>⟨.bl b,H,I.tok tk,rfl,q⟩
end
structure MDefX (P:Program) (w:World) (K:W.Frag) (mg:Str->Option Value) (base:Heap) (C:Addr) (m:Str) (k:Nat) (ps:List Str) (sp:Sp):Prop where
 ex:∃ (f:Addr) (fd:FuncData),FnOk P w K mg base (CXr P w) k f fd ps sp/\Meth K C m f/\Binds K fd ps []
section
variable {P:Program} {w:World} {K:W.Frag} {mg:Str->Option Value} {base:Heap} {k:Nat} {f:Addr} {fd:FuncData} {ps:List Str} {sp sp':Sp}
theorem FnOk.rise (F:FnOk P w K mg base CX0 k f fd ps sp):FnOk P w K mg base (CXr P w) k f fd ps sp :=
 ⟨F.len,λA outer s H args us vs Q E hr he hb hv hs=>codeAny_mono (F.run A outer s H args us vs Q E hr he hb hv hs) λr s' q=>by
  cases r with
  | error e=>exact q.elim
  | ok fl =>
   cases fl with
   | ret u=>exact q
   | next=>exact q
   | brk=>exact q
   | cont=>exact q⟩
def spOr (a b:Sp):Sp:=λvs H Q E=>a vs H Q E\/b vs H Q E
theorem FnOk.or (F:FnOk P w K mg base (CXr P w) k f fd ps sp) (G:FnOk P w K mg base (CXr P w) k f fd ps sp'):FnOk P w K mg base (CXr P w) k f fd ps (spOr sp sp') :=
 ⟨λvs H Q E h=>h.elim (F.len vs H Q E) (G.len vs H Q E),λA outer s H args us vs Q E hr he hb hv hs=>hs.elim (F.run A outer s H args us vs Q E hr he hb hv) (G.run A outer s H args us vs Q E hr he hb hv)⟩
end
section
variable {X:Cx} {m:Prop} {mt:Str} {pos apos:Pos} {e o:PySem.Expr} {es:List PySem.Expr} {ta:TE} {t:TA} {k:Nat} {ps:List Str} {sp:Sp} {C:Addr}
theorem ZgX {pl:Sem Bool} (M:MDefX X.prog X.w X.K X.mg X.base C mt k ps sp) (hx:∀ e s,¬ X.xe e s) (hr:Room k X.A) (c:Cls X.K C) (he:PE X o ta) (ha:PA X (e :: es) t) (hn:NSs (e :: es):=by repeat' (first | exact True.intro | refine ⟨?_,?_⟩))
  (ht:eval (.Call (.Attribute o mt apos) (e :: es) [] pos) X.env=(do
   let ov ← eval o X.env
   standAt apos.atName
   let (f,first) ← holding [ov] (getMethod ov mt pl)
   callWith pos f first (backTo pos (starEach (e :: es) X.env)) (backToKw pos (keywordEach [] X.env))):=by rfl) :
  PEx m X (.Call (.Attribute o mt apos) (e :: es) [] pos) (ZmD C mt sp ta t):=by
 obtain ⟨f,fd,F,hm,hb⟩:=M.ex
 exact ZlS hx he c hm F hr hb ha (ZaE hn.1) (Zcn hn.2) ht
theorem Znz:PXs m X [] (λ_=>tNext):=λpins s σ H D Ex I q=>wpAny_execs_nil ⟨σ,H,I,q⟩
theorem ZnA {l:List Stmt}:PXs m X l (λ_=>tNev):=λ_ _ _ _ _ _ _ h=>h.elim
end
theorem ZlW {X:Cx} {K:W.Frag} {body:List Stmt} {x n:Str} {D0:Addr} {i:Nat} {np hpos pos:Pos} {b0:Stmt} {suite:List Stmt} {t:XK'->TS} {u:TS} (hK:X.K=K) (hf:X.env.frame=some X.env.locals) (hsk:X.stack=X.env :: X.outer) (hg:Gl X x) (hm:X.mg x=some (.ref D0))
  (hN:X.N.Nodup) (hi:X.N[i]?=some n) (hl:X.env.scope.names.lookup n=some .local) (h:PXs False X body t) (hs:∀ a,PSs (X.held a) (b0 :: suite) u) (hd:(x == ("__debug__" : Str))=false:=by decide) :
  PS X (.Try body [.ExceptHandler (some (.Name x np)) (some n) (b0 :: suite) hpos] [] [] pos) (tTryX K D0 i t u):=by
 subst hK; exact Zny hf hsk hg hm hN hi hl h hs hd
theorem Zed:bootBuiltins "ValueError" = some (.type "ValueError"):=by first | rfl | decide +kernel | kernel_rfl
theorem ZlX {X:Cx} {a:Str} {k1:Nat} {p1 p2 pos:Pos} {e:PySem.Expr} {ta:TE} (he:PE X e ta) (hl:a.length<=1000) :
  PE X (.JoinedStr [.Constant (.str a) k1 p1,.FormattedValue e (-1) none p2] pos) (tFstr ta):=by
 intro pins s σ H Q I h
 refine wpAny_JoinedStr ?_
 show Joins _ _ _ [eval (.Constant (.str a) k1 p1) X.env,eval (.FormattedValue e (-1) none p2) X.env] _ _ _
 have hz:∀ n,n<=3000->n<=sizeLine:=λn q=>Nat.le_trans q (by decide)
 refine Calls.Constant_str ⟨a,_,rfl,?_,?_⟩
 .rw [strLen_append]; exact hz _ (by have:Str.empty.length=0:=rfl; lia)
 refine wpAny_FormattedValue_plain (wpAny_mono (he pins _ σ H _ (I.tok _) h) (λu s1 ⟨x,H1,I1,r,i,hx,hi,q⟩=>?_) λ_ _ z=>z)
 subst hx
 obtain ⟨tk,rfl⟩:=r
 have hd:i.natAbs.log2<1920:=by
  by_cases z:i.natAbs=0
  .rw [z]; decide
  .exact Nat.lt_of_lt_of_le ((Nat.log2_lt z).mpr hi) (by decide)
 have hlen:((toString i:String):Str).length<=1930:=by
  show (Str.ofString (toString i)).length<=1930
  have e:=int_text_length_le (k:=1920) (by decide) hd
  rw [PySem.ofString_length]; lia
 have e0:Str.empty.length=0:=rfl
 refine wpAny_formatField_int hd ⟨_,_,rfl,?_,?_,?_⟩
 .rw [strLen_append,strLen_append]; exact hz _ (by lia)
 .rw [strLen_append,strLen_append]; exact hz _ (by lia)
 .exact ⟨.str _,H1,((I1.tok _).tok _),⟨_,rfl⟩,q _⟩
structure ClsFn (K:W.Frag) (C:Addr) (m:Str) (f:Addr):Prop where
 ga:W.specialIn K (.ref C) "__getattribute__" = some (some (.builtin "type.__getattribute__"))
 rd:∃ mc,W.readsIn K C mc=true/\W.findCls K (.ref C) mc m=some (.val (.ref f))
 kp:W.keepIn K (.ref f)=true
structure CDef (P:Program) (w:World) (K:W.Frag) (mg:Str->Option Value) (base:Heap) (x m:Str) (k:Nat) (ps:List Str) (sp:Sp):Prop where
 ex:∃ (C f:Addr) (fd:FuncData),FnOk P w K mg base CX0 k f fd ps sp/\ClsFn K C m f/\mg x=some (.ref C)/\Binds K fd ps []
section
variable {X:Cx} {x m:Str} {p pos apos:Pos} {e o:PySem.Expr} {es:List PySem.Expr} {ta:TE} {t:TA} {k:Nat} {ps:List Str} {sp:Sp} {C:Addr}
theorem ZnB {pl:Sem Bool} (M:CDef X.prog X.w X.K X.mg X.base x m k ps sp) (hr:Room k X.A) (hg:Gl X x) (ha:PA X (e :: es) t) (hn:NSs (e :: es):=by repeat' (first | exact True.intro | refine ⟨?_,?_⟩)) (hd:(x == ("__debug__" : Str))=false:=by decide)
  (ht:eval (.Call (.Attribute (.Name x p) m apos) (e :: es) [] pos) X.env=(do
   let ov ← eval (.Name x p) X.env
   standAt apos.atName
   let (f,first) ← holding [ov] (getMethod ov m pl)
   callWith pos f first (backTo pos (starEach (e :: es) X.env)) (backToKw pos (keywordEach [] X.env))):=by rfl) :
  PE X (.Call (.Attribute (.Name x p) m apos) (e :: es) [] pos) (tCall sp [] E0 t):=by
 obtain ⟨C,f,fd,F,c,hm,hb⟩:=M.ex
 obtain ⟨mc,hr1,hr2⟩:=c.rd
 intro pins s σ H Q I h
 have he:PE X (.Name x p) (tC (.ref C)):=ZmS (v:=.ref C) hg hm rfl hd
 refine W.methodCall_KW (pl:=pl) (thn (he pins s σ H (λv H1=>v=.ref C/\H1=H) I ⟨rfl,rfl⟩) λu s1 ⟨x,H1,I1,rx,e1,e2⟩=>?_) ht
 subst e1 e2
 obtain rfl:u=Value.ref C:=rx
 have I2:Inv X pins σ H1 { s1 with toks:=s1.toks+1 }:=I1.kept (t':=s1.toks+1) λb o e=>e
 refine W.method_cls I1.kIn c.ga (W.cls_value I1.kIn hr1 hr2 rfl ?_)
 refine W.callWith_K (first:=[]) (h₀:=X.base) I.ok.mod.kin c.kp (thA (ha pos pins _ σ H1 _ I2 h) λus s2 vs H2 I3 r q2=>⟨I3.kIn,?_⟩) (ZaE hn.1) (Zcn hn.2)
 exact Zii (us:=us) (vs:=vs) F hr hb .nil pass0 I3 r q2
end
theorem Room.m {j k:Nat} {A:Around} (r:Room k A) (h:j<=k:=by first | decide | lia):Room j A:=r.mono h
section
variable {X:Cx} {pos:Pos}
theorem pgn (i:Nat) {x:Str} (hN:X.N.Nodup) (hi:X.N[i]?=some x:=by rfl) (hx:Loc X.env.scope x:=by first | exact Or.inl rfl | exact Or.inr rfl) (hf:X.fn x=true\/X.env.scope.names.lookup x=some .local:=by first | exact .inl rfl | exact .inr rfl | assumption):PG X (.Name x pos) (gName i):=ZmT hN hi hx hf
theorem pst (i:Nat) {x:Str} {e:PySem.Expr} {te:TE} {pos':Pos} (hN:X.N.Nodup) (he:PE X e te) (hi:X.N[i]?=some x:=by rfl) (hx:Loc X.env.scope x:=by first | exact Or.inl rfl | exact Or.inr rfl) (hs:swapsWith e (some (.Name x pos')) pos.line X.env=pure false:=by rfl) (hf:X.fn x=true\/X.env.scope.names.lookup x=some .local:=by first | exact .inl rfl | exact .inr rfl | assumption):PS X (.Assign [.Name x pos'] e pos) (tAsg te (gName i)):=ZnY hN hi hx he hs hf
end
end L2
namespace L2
open PySem PySem.Calls PyProof.Rows PySem.MeetsSeq PySem.W PySem.Spec
def Up (xs:Array Nat):Prop:=∀ i j,i<j->(h:j<xs.size)->xs.getD i 0<xs.getD j 0
theorem ZfN (xs:Array Nat) (j:Nat):∀ (f lo hi:Nat),hi - lo<=f->lo<=hi->hi<=xs.size->(∀ i,i<lo->xs.getD i 0<j)->(∀ i,hi<=i->i<xs.size->¬ xs.getD i 0<j)->Up xs ->
  SetTable.below.go xs j f lo hi<=xs.size/\(∀ i,i<SetTable.below.go xs j f lo hi->xs.getD i 0<j)/\∀ i,SetTable.below.go xs j f lo hi<=i->i<xs.size->¬ xs.getD i 0<j
 | 0,lo,hi,h1,h2,h3,a,b,u=>by
  unfold SetTable.below.go
  have e:lo=hi:=by lia
  subst e
  exact ⟨h3,a,b⟩
 | f+1,lo,hi,h1,h2,h3,a,b,u=>by
  unfold SetTable.below.go
  by_cases c:lo<hi
  .rw [if_pos c]
   have m1:(lo+hi) / 2<hi:=by lia
   have m2:lo<=(lo+hi) / 2:=by lia
   have ms:(lo+hi) / 2<xs.size:=by lia
   have eD:xs.getD ((lo+hi) / 2) j=xs.getD ((lo+hi) / 2) 0:=by simp [Array.getD,ms]
   dsimp only
   rw [eD]
   by_cases d:xs.getD ((lo+hi) / 2) 0<j
   .rw [if_pos d]
    refine ZfN xs j f _ _ (by lia) (by lia) h3 (λi hi'=>?_) b u
    by_cases e:i=(lo+hi) / 2
    .rw [e]; exact d
    .exact Nat.lt_trans (u i _ (by lia) ms) d
   .rw [if_neg d]
    refine ZfN xs j f _ _ (by lia) m2 (by lia) a (λi h4 h5=>?_) u
    by_cases e:i=(lo+hi) / 2
    .rw [e]; exact d
    .have:=u _ i (by lia:(lo+hi) / 2<i) h5; lia
  .rw [if_neg c]
   have e:lo=hi:=by lia
   subst e
   exact ⟨h3,a,b⟩
theorem ZfO {xs:Array Nat} (j:Nat) (u:Up xs):SetTable.below xs j<=xs.size/\(∀ i,i<SetTable.below xs j->xs.getD i 0<j)/\∀ i,SetTable.below xs j<=i->i<xs.size->¬ xs.getD i 0<j :=
 ZfN xs j xs.size 0 xs.size (by lia) (Nat.zero_le _) (Nat.le_refl _) (λi h=>by lia) (λi h h'=>by lia) u
theorem ZcM {xs:List Nat} (h:xs.Pairwise (·<·)):Up xs.toArray:=λi j hij hj=>by
 have hj':j<xs.length:=by simpa using hj
 have hi':i<xs.length:=by lia
 have:=(List.pairwise_iff_getElem.mp h) i j hi' hj' hij
 simpa [Array.getD,hi',hj'] using this
theorem Zfd {xs:Array Nat} (u:Up xs):xs.toList.Pairwise (·<·):=by
 rw [List.pairwise_iff_getElem]
 intro i j hi hj hij
 have h1:i<xs.size:=by simpa using hi
 have h2:j<xs.size:=by simpa using hj
 have:=u i j hij h2; simpa [Array.getD,h1,h2] using this
theorem ZfP {α:Type} (xs:Array α) (p:Nat) (x:α) (h:p<=xs.size):(SetTable.insertAt xs p x).toList=xs.toList.take p++x :: xs.toList.drop p:=by
 unfold SetTable.insertAt
 simp [Array.toList_extract,List.extract_eq_drop_take]
 have:xs.size - p=(xs.toList.drop p).length:=by simp
 rw [this,take_length]
theorem Zkq {xs:Array Nat} {j:Nat} (u:Up xs) (hn:xs[SetTable.below xs j]?≠some j):Up (SetTable.insertAt xs (SetTable.below xs j) j):=by
 obtain ⟨a,b,c⟩:=ZfO j u
 have hl:=ZfP xs (SetTable.below xs j) j a
 have hp:=Zfd u
 generalize hq:SetTable.below xs j=p at *
 have e:SetTable.insertAt xs p j=(xs.toList.take p++j :: xs.toList.drop p).toArray:=by rw [← hl]
 rw [e]
 refine ZcM ?_
 rw [List.pairwise_append]
 refine ⟨hp.sublist (List.take_sublist _ _),?_,?_⟩
 .rw [pairwise_cons]
  refine ⟨λy hy=>?_,hp.sublist (List.drop_sublist _ _)⟩
  obtain ⟨i,hi,rfl⟩:=List.mem_iff_getElem.mp hy
  rw [List.getElem_drop]
  have hi':p+i<xs.size:=by simp at hi; lia
  have h1:=c (p+i) (by lia) hi'
  have e1:xs.getD (p+i) 0=xs[p+i]:=by simp [Array.getD,hi']
  rw [e1] at h1
  show j<xs.toList[p+i]
  rw [Array.getElem_toList]
  rcases Nat.lt_or_ge j xs[p+i] with h | h
  .exact h
  .exfalso
   have e2:xs[p+i]=j:=by lia
   by_cases h0:i=0
   .subst h0
    exact hn (by rw [Array.getElem?_eq_getElem (show p<xs.size by lia)]; exact congrArg some e2)
   .have h3:=u p (p+i) (by lia) hi'
    have h4:=c p (Nat.le_refl _) (by lia)
    rw [e1] at h3
    lia
 .intro y hy z hz
  obtain ⟨i,hi,rfl⟩:=List.mem_iff_getElem.mp hy
  rw [List.getElem_take]
  have hip:i<p:=by simp at hi; lia
  have his:i<xs.size:=by lia
  have h1:=b i hip
  have e1:xs.getD i 0=xs[i]:=by simp [Array.getD,his]
  rw [e1] at h1
  rw [Array.getElem_toList]; rcases List.mem_cons.mp hz with rfl | hz
  .exact h1
  .obtain ⟨k,hk,rfl⟩:=List.mem_iff_getElem.mp hz
   rw [List.getElem_drop]
   have hk':p+k<xs.size:=by simp at hk; lia
   have:=u i (p+k) (by lia) hk'
   rw [e1] at this
   have e3:xs.getD (p+k) 0=xs[p+k]:=by simp [Array.getD,hk']
   rw [e3] at this
   rw [Array.getElem_toList]
   exact this
def Ris (t:SetTable):Prop:=Up t.place/\t.dummies=#[]
theorem ZlY (n:Nat):Up (Array.range n):=λi j hij hj=>by
 have hj':j<n:=by simpa using hj
 have hi':i<n:=by lia
 simpa [Array.getD,hi',hj'] using hij
theorem Zdn (t:SetTable) (n:Nat):Ris (t.standIn n):=⟨ZlY n,rfl⟩
theorem ZiD (t:SetTable) (f:Nat->Int) (h:Int) (hd:t.dummies=#[]):∀ (fu:Nat) (p:SetTable.Probe),p.dummy=none->∀ j d,SetTable.probe.go t f h fu p=some (.empty j d)->d=none/\t.place[SetTable.below t.place j]?≠some j
 | 0,p,h0,j,d,e=>by simp [SetTable.probe.go] at e
 | fu+1,p,h0,j,d,e=>by
  unfold SetTable.probe.go at e
  have ha:∀ q:SetTable.Probe,q.dummy=none->(t.advance q).dummy=none:=λq hq=>by
   unfold SetTable.advance
   split
   .exact hq
   .exact hq
  cases hs:t.slot p.j with
  | empty =>
   rw [hs] at e
   simp only [Option.some.injEq,SetTable.Met.empty.injEq] at e
   obtain ⟨rfl,rfl⟩:=e
   refine ⟨h0,λz=>?_⟩
   unfold SetTable.slot at hs
   simp [z] at hs
  | dummy =>
   exfalso
   unfold SetTable.slot at hs
   dsimp only at hs
   split at hs
   .cases hs
   .rw [hd] at hs
    simp [SetTable.has] at hs
  | live i =>
   rw [hs] at e
   dsimp only at e
   split at e
   .cases e
   .exact ZiD t f h hd fu _ (ha p h0) j d e
theorem ZnC {t:SetTable} (r:Ris t) (es:Array (Int×Value)) (h:Int) (x:Value):Ris (layNew t es h x).2.1/\(layNew t es h x).2.1.led=t.led:=by
 unfold layNew
 cases hf:t.freeSlot h with
 | none=>exact ⟨Zdn _ _,rfl⟩
 | some q =>
  obtain ⟨slot,was⟩:=q
  dsimp only
  have key:Ris (t.put slot).1/\(t.put slot).1.led=t.led:=by
   refine ⟨⟨?_,?_⟩,rfl⟩
   .refine Zkq r.1 ?_
    unfold SetTable.freeSlot SetTable.probe at hf
    cases hg:SetTable.probe.go t (λ_=>h+1) h (10 * SetTable.turns t.mask) (t.probeStart h) with
    | none=>rw [hg] at hf; cases hf
    | some m =>
     rw [hg] at hf
     cases m with
     | candidate a b c=>cases hf
     | empty j d =>
      obtain ⟨rfl,hn⟩:=ZiD t _ h r.2 _ _ rfl j d hg
      dsimp only at hf
      simp at hf
      obtain ⟨rfl,_⟩:=hf
      exact hn
   .show (if SetTable.has t.dummies slot=true then _ else t.dummies)=#[]
    rw [r.2]
    simp [SetTable.has]
  unfold SetTable.orStandIn
  split
  .exact key
  .exact ⟨Zdn _ _,key.2⟩
theorem Zkr {t:SetTable} (r:Ris t) (es:Array (Int×Value)) (n:Nat):Ris (relayAll t es n).2.1/\(relayAll t es n).2.1.led=t.led:=by
 unfold relayAll
 cases hl:t.relaid (es.map (·.1)) n with
 | none=>exact ⟨Zdn _ _,rfl⟩
 | some q =>
  obtain ⟨t',order⟩:=q
  dsimp only
  have key:Ris t'/\t'.led=t.led:=by
   unfold SetTable.relaid SetTable.laid at hl
   cases ho:SetTable.layClean (SetTable.sizeAbove n - 1) (es.map (·.1)) with
   | none=>rw [ho] at hl; cases hl
   | some owner =>
    rw [ho] at hl
    have e:=(Prod.mk.inj (Option.some.inj hl)).1
    rw [← e]
    refine ⟨⟨?_,rfl⟩,rfl⟩
    refine ZcM ?_
    rw [List.pairwise_map,List.pairwise_filterMap]
    refine List.Pairwise.imp ?_ List.pairwise_lt_range
    intro a b hab c hc d hd
    simp only [Option.map_eq_some_iff] at hc hd
    obtain ⟨_,_,rfl⟩:=hc
    obtain ⟨_,_,rfl⟩:=hd
    exact hab
  split
  .exact key
  .exact ⟨Zdn _ _,rfl⟩
theorem Zks {α:Type} (f:Nat->Nat):∀ (n k:Nat) (left:List α) (out:Array α),left.length=n->(pickOrder.go f n k left out).toList.Perm (out.toList++left)
 | 0,k,left,out,h=>by
  have:left=[]:=List.eq_nil_of_length_eq_zero h
  subst this
  simp [pickOrder.go]
 | n+1,k,left,out,h=>by
  unfold pickOrder.go
  have hm:f k % left.length<left.length:=Nat.mod_lt _ (by lia)
  rw [getElem?_eq_getElem hm]
  dsimp only
  refine (Zks f n (k+1) _ _ (by rw [List.length_eraseIdx,if_pos hm]; lia)).trans ?_
  rw [Array.toList_push,append_assoc]
  refine List.Perm.append_left _ ?_; show (left[f k % left.length] :: left.eraseIdx (f k % left.length)).Perm left
  generalize f k % left.length=i at hm ⊢
  have e:left.take i++left[i] :: left.drop (i+1)=left:=by rw [← List.drop_eq_getElem_cons hm,List.take_append_drop]
  rw [List.eraseIdx_eq_take_drop_succ]
  exact List.perm_middle.symm.trans (List.Perm.of_eq e)
theorem Zkt {α:Type} (f:Nat->Nat) (xs:Array α):(pickOrder f xs).toList.Perm xs.toList:=by
 have:=Zks f xs.size 0 xs.toList #[] (by simp)
 simpa [pickOrder] using this
def kOf:Int×Value->Int:=λe=>match e.2 with | .int k _=>k | _=>0
structure SetG (P:Program) (w:World) (o:Obj) (es:Array (Int×Value)) (ep:Nat) (t:SetTable):Prop where
 ex:o.ExactSet
 dat:o.data=.set es ep t
 el:ElemsOf (intKind P w) es.toList
 nd:(es.toList.map kOf).Nodup
 fit:t.fits es.size=true
 ris:Ris t
 led:w.params.followText "set-order" = true\/t.led=true
 lit:es.size<scanBound
section
variable {P:Program} {w:World} {A:Around} {E:Value->Shared->Prop} {s:Shared} {a:Addr} {o:Obj} {es:Array (Int×Value)} {ep:Nat} {t:SetTable}
theorem ZmE {e:Int×Value} {k:Int} (h:(intKind P w).is k e.2=true):kOf e=k:=by
 obtain ⟨tk,q⟩:=Value.isInt_shape (show Value.isInt k e.2=true from h)
 unfold kOf; rw [q]
theorem ZmF {e:Int×Value} (h:(∃ k,(intKind P w).is k e.2=true/\e.1=(intKind P w).hash k)/\e.2.scannable=true):(intKind P w).is (kOf e) e.2=true:=by
 obtain ⟨⟨k,q,_⟩,_⟩:=h
 rw [ZmE q]; exact q
theorem SetG.store (ho:s.heap.get? a=some o) (hx:o.ExactSet) (hd:o.data=.set es ep t) {es':Array (Int×Value)} {t':SetTable} (el:ElemsOf (intKind P w) es'.toList) (nd:(es'.toList.map kOf).Nodup) (f:t'.fits es'.size=true) (r:Ris t')
  (l:w.params.followText "set-order" = true\/t'.led=true) (b:es'.size<scanBound) :
  (s.heap.update a (Obj.putSet es' t')).get? a=some { o with data:=.set es' (ep+1) t' }/\SetG P w { o with data:=.set es' (ep+1) t' } es' (ep+1) t' :=
 ⟨(SetOf_store (knd:=intKind P w) (S':=λk=>decide (∃ e∈es'.toList,(intKind P w).is k e.2=true)) ho hx hd el (λk=>by simp) b f).1,⟨hx,rfl,el,nd,f,r,l,b⟩⟩
theorem addG {k:Int} {tk:Tok} {Q:Bool->Shared->Prop} (ho:s.heap.get? a=some o) (g:SetG P w o es ep t) (hr:es.size+1<scanBound)
  (h:∀ b h' o' es' ep' t',Heap.SameBut a s.heap h'->h'.get? a=some o'->SetG P w o' es' ep' t'->es'.size<=es.size+1->(∀ k',k'∈es'.toList.map kOf↔k'∈es.toList.map kOf\/k'=k)->Q b { s with heap:=h' }) :
  wpAny (model P w) A (setAddHashed a (.int k tk) ((intKind P w).hash k)) Q E s:=by
 have hk:(intKind P w).is k (.int k tk)=true:=intKind_is _ _ _ _
 have sc:(Value.int k tk).scannable=true:=rfl
 unfold setAddHashed setAddHashedIn; refine wpAny_holding (wpAny_bind (wpAny_setState_of ho g.dat g.fit ?_)); dsimp only
 rw [byScan_of sc g.lit g.el,if_pos rfl]
 unfold setAddByScan
 refine wpAny_bind (wpAny_bind (wpAny_rule (wpAny_bind (wpAny_setScan_of hk ho g.dat g.fit g.el ?_))))
 cases hf:List.findIdx? (λe=>(intKind P w).is k e.2) es.toList with
 | some j =>
  refine wpAny_pure (wpAny_pure ?_); obtain ⟨hj,pj,_⟩:=List.findIdx?_eq_some_iff_getElem.mp hf
  have hm:k∈es.toList.map kOf:=List.mem_map.mpr ⟨_,getElem_mem hj,ZmE pj⟩
  exact h _ s.heap o es ep t (Heap.SameBut.refl a s.heap) ho g (Nat.le_succ _) λk'=>⟨.inl,λz=>z.elim id λe=>e ▸ hm⟩
 | none =>
  dsimp only
  have hno:k∉es.toList.map kOf:=λz=>by
   obtain ⟨e,he,q⟩:=List.mem_map.mp z
   have:=List.findIdx?_eq_none_iff.mp hf e he
   rw [← q,ZmF (g.el e he)] at this; cases this
  have hp:=layNew_perm t es ((intKind P w).hash k) (.int k tk)
  have hfit:=layNew_fits t es ((intKind P w).hash k) (.int k tk)
  have hris:=ZnC g.ris es ((intKind P w).hash k) (.int k tk)
  generalize layNew t es ((intKind P w).hash k) (.int k tk)=L at hp hfit hris ⊢
  obtain ⟨es1,t1,was,gave⟩:=L
  dsimp only at hp hfit hris ⊢
  rw [Array.toList_push] at hp
  have el1:ElemsOf (intKind P w) es1.toList:=(g.el.push hk sc).perm hp
  have mp:=hp.map kOf
  rw [map_append,map_cons,map_nil,show kOf ((intKind P w).hash k,Value.int k tk)=k from rfl] at mp
  have nd1:(es1.toList.map kOf).Nodup:=mp.nodup_iff.mpr (by
   rw [List.nodup_append]
   exact ⟨g.nd,by simp,λx hx y hy e=>hno (by rw [mem_singleton] at hy; rw [← hy,← e]; exact hx)⟩)
  have sz1:es1.size=es.size+1:=by rw [← Array.length_toList,hp.length_eq,length_append,Array.length_toList]; rfl
  have l1:w.params.followText "set-order" = true\/t1.led=true:=g.led.imp id λz=>by rw [hris.2]; exact z
  have mem1:∀ k',k'∈es1.toList.map kOf↔k'∈es.toList.map kOf\/k'=k:=λk'=>by rw [mp.mem_iff]; simp
  have gw:∀ (b:Bool) {s₁:Shared} {Q':Unit->Shared->Prop},Q' () s₁->wpAny (model P w) A (match b with | true=>rule "set.scan.the-table-gave-way" | false=>pure ()) Q' E s₁:=λb s₁ Q' hq=>by
   cases b
   .exact wpAny_pure hq
   .exact wpAny_rule hq
  refine wpAny_bind (gw _ ?_)
  have pl:hashByValue 8 (.int k tk)=pure true:=hashByValue_scannable 8 sc
  have fin:∀ (X:Sem (Option Bool)),X=(do storeSet a es1 t1; (if (!was && t1.tooFull)=true then do (match (relayAll t1 es1 (SetTable.grown es1.size)).2.2 with | true=>rule "set.scan.the-table-gave-way" | false=>pure ()); storeSet a (relayAll t1 es1 (SetTable.grown es1.size)).1 (relayAll t1 es1 (SetTable.grown es1.size)).2.1; pure (some true) else pure (some true))) ->
    wpAny (model P w) A X (λr s'=>wpAny (model P w) A (match r with | some added=>pure added | none=>setAddHashedIn a (.int k tk) ((intKind P w).hash k) 99999) Q E s') E s:=by
   rintro X rfl
   refine wpAny_bind (wpAny_storeSet_of ho g.dat ?_ (fits_of_scanBound (by lia)))
   obtain ⟨ho1,g1⟩:=SetG.store (P:=P) (w:=w) (s:=s) ho g.ex g.dat el1 nd1 hfit hris.1 l1 (by lia)
   have sb1:=Heap.SameBut.update s.heap a (Obj.putSet es1 t1)
   split
   .have hp2:=relayAll_perm t1 es1 (SetTable.grown es1.size)
    have hf2:=relayAll_fits t1 es1 (SetTable.grown es1.size)
    have hr2:=Zkr hris.1 es1 (SetTable.grown es1.size)
    generalize relayAll t1 es1 (SetTable.grown es1.size)=L2 at hp2 hf2 hr2 ⊢
    obtain ⟨es2,t2,gave2⟩:=L2
    dsimp only at hp2 hf2 hr2 ⊢
    have sz2:es2.size=es1.size:=by rw [← Array.length_toList,hp2.length_eq,Array.length_toList]
    refine wpAny_bind (gw _ (wpAny_bind (wpAny_storeSet_of ho1 rfl (wpAny_pure ?_) (fits_of_scanBound (by lia)))))
    obtain ⟨ho2,g2⟩:=SetG.store (P:=P) (w:=w) (s:={ s with heap:=s.heap.update a (Obj.putSet es1 t1) }) ho1 g.ex rfl (el1.perm hp2) ((hp2.map kOf).nodup_iff.mpr nd1) hf2 hr2.1 (l1.imp id λz=>by rw [hr2.2]; exact z) (by lia)
    exact wpAny_pure (h _ _ _ _ _ _ (sb1.trans (Heap.SameBut.update _ a _)) ho2 g2 (by lia) λk'=>(hp2.map kOf).mem_iff.trans (mem1 k'))
   .exact wpAny_pure (wpAny_pure (h _ _ _ _ _ _ sb1 ho1 g1 (by lia) mem1))
  split
  .refine wpAny_bind ?_
   rw [pl]
   refine wpAny_pure ?_
   rw [if_pos rfl]
   exact fin _ rfl
  .refine wpAny_bind (wpAny_pure ?_); rw [if_pos rfl]
   exact fin _ rfl
end
def GSet (P:Program) (w:World) (h:Heap) (a:Addr) (ns:List Int):Prop:=∃ o es ep t,h.get? a=some o/\SetG P w o es ep t/\es.size<=ns.length/\∀ k,k∈es.toList.map kOf↔k∈ns
theorem GSet.at {P:Program} {w:World} {h h':Heap} {a:Addr} {ns:List Int} (x:GSet P w h a ns) (k:∀ o,h.get? a=some o->h'.get? a=some o):GSet P w h' a ns:=by
 obtain ⟨o,es,ep,t,ho,r⟩:=x
 exact ⟨o,es,ep,t,k o ho,r⟩
section
variable {P:Program} {w:World} {A:Around} {R:Result->Shared->Prop} {I:Addr} {fp wr:List Addr} {G:Array GenState->Array GenState->Prop} {St:Nat->Shared->Prop} {ns:List Int} {Pv:Nat->Value->Prop}
theorem loopG (W:WalksS P w A.in1 I fp wr G ns.length Pv St) (S:Addr) (hS:S∉fp) (hv:∀ i v,Pv i v->∃ t,v=.int (ns.getD i 0) t) (hb:ns.length+1<scanBound) :
  ∀ (k i:Nat) (s:Shared),ns.length - i=k->i<=ns.length->St i s->GSet P w s.heap S (ns.take i) ->
   (∀ s',Moved (S :: wr) G s s'->GSet P w s'.heap S ns->R (.ok (.ret .none)) s') ->
   codeAny (model P w) A (.builtin "set.update.loop" ⟨[.ref S,.ref I],[]⟩) R s:=by
 have sw:S∉wr:=λh=>hS (W.sub _ h)
 have up:∀ b∈wr,b∈S :: wr:=λb h=>mem_cons_of_mem _ h
 intro k
 induction k with
 | zero =>
  intro i s hk hi st g hR
  obtain rfl:i=ns.length:=by lia
  refine codeAny_builtin F.entry_set_update_loop ?_; rw [Around.under_plainId F.plain_set_update_loop _]
  show wpAny _ A.in1 (pyNext (.ref I) >>= _) _ _ s; refine wpAny_bind (W.done s _ _ st λs' m=>?_)
  show wpAny _ A.in1 (ret Value.none) _ _ s'; rw [take_length] at g
  exact wpAny_pure (hR s' (m.mono up) (g.at λo e=>m.heap S o sw e))
 | succ k ih =>
  intro i s hk hi st g hR
  have lt:i<ns.length:=by lia
  refine codeAny_builtin F.entry_set_update_loop ?_; rw [Around.under_plainId F.plain_set_update_loop _]
  show wpAny _ A.in1 (pyNext (.ref I) >>= _) _ _ s; refine wpAny_bind (W.item i s _ _ lt st λv s' hP st' m=>?_)
  obtain ⟨t,rfl⟩:=hv i v hP
  obtain ⟨o,es,ep,tb,ho,g',sz,mem⟩:=g.at (h':=s'.heap) λo e=>m.heap S o sw e
  have sz':es.size<=i:=by rw [length_take] at sz; lia
  show wpAny _ A.in1 (holding [Value.int (ns.getD i 0) t] (setAdd S (.int (ns.getD i 0) t)) >>= _) _ _ s'
  refine wpAny_bind (wpAny_holding ?_); unfold setAdd
  refine wpAny_holding (wpAny_bind ((intKind P w).pyHash (k:=ns.getD i 0) (intKind_is _ _ _ _) ?_))
  refine addG (s:={ s' with toks:=s'.toks+1 }) ho g' (by lia) λb h' o' es' ep' t' sb ho' g2 sz2 mem2=>?_
  have et:ns.take (i+1)=ns.take i++[ns.getD i 0]:=by rw [List.take_succ_eq_append_getElem lt]; simp [List.getD,lt]
  have gi:GSet P w h' S (ns.take (i+1)):=⟨o',es',ep',t',ho',g2,by rw [length_take]; lia,λk'=>by rw [mem2 k',mem k',et]; simp⟩
  refine wpAny_pure ⟨plainId_quiet F.plain_set_update_loop _,ih (i+1) _ (by lia) lt (W.frame _ s' _ _ st' (Nat.le_succ _) λb hb o e=>?_) gi λs'' m'' gs=>?_⟩
  .rw [sb.2 b (λh:b=S=>hS (h ▸ hb))]; exact e
  .refine hR s'' (Moved.trans W.gtrans ((m.mono up).then_heap (Nat.le_succ _) λb o hb e=>?_) m'') gs
   rw [sb.2 b (λh:b=S=>hb (h ▸ mem_cons_self))]; exact e
end
section
variable {P:Program} {w:World} {A:Around} {E:Value->Shared->Prop} {s:Shared}
theorem newG (a:Value) {Q:Value->Shared->Prop} (h:∀ led:Bool,(w.params.followText "set-order" = true\/led=true)->Q (.ref s.heap.objs.size) { s with heap:=s.heap.push { cls:=.type "set",dict:=none,data:=.set #[] 0 (.fresh 0 0 led) } }) :
  codeAny (model P w) A (.call (.builtin "set.__new__") ⟨[.type "set",a],[]⟩) (wants Q E) s:=by
 refine codeAny_of_tree ?_
 show wpAny _ A.in1 (checkBuiltinCall "set.__new__" ⟨[.type "set",a],[]⟩ >>= λ_=>again (.builtin "set.__new__" ⟨[.type "set",a],[]⟩)) _ _ s
 refine wpAny_bind (wpAny_of_eq (F.newCall_set_1 a) (wpAny_pure ⟨plainId_quiet F.plain_set_new _,codeAny_builtin F.entry_set_new ?_⟩)); rw [Around.under_plainId F.plain_set_new _]
 unfold Builtin.«set.__new__» Builtin.Frozenset.newClass; have hsub:=sub_set_self
 obtain ⟨hp,g,d,tk,os⟩:=s; dsimp only
 wp_walk
 refine wpAny_askSetting (wpAny_pure ?_); dsimp only; simp only [newObj]
 refine wpAny_bind (wpAny_alloc (wpAny_pure (wpAny_pure (h _ ?_))))
 cases e:w.params.followText "set-order"
 .exact .inr (by show (!(w.params.followText "set-order"))=true; rw [e]; rfl)
 .exact .inl rfl
theorem callG {l:Addr} {items:Array Value} {ns:List Int} {Q:Value->Shared->Prop} (hh:A.handled=none) (hl:s.heap.IsList l items) (hi:IntsAre items.toList ns) (hb:ns.length+1<scanBound)
  (h:∀ (h':Heap) (tk:Nat),GSet P w h' s.heap.objs.size ns->(∀ b o,b<s.heap.objs.size->s.heap.get? b=some o->h'.get? b=some o)->Q (.ref s.heap.objs.size) { s with heap:=h',toks:=tk }) :
  wpAny (model P w) A (call (.type "set") [.ref l]) Q E s:=by
 obtain ⟨c,tl,hmro⟩:=F.called_set.mro; have hmade:=F.called_set.made
 have hsub:=F.called_set.sub; refine wpAny_call (codeAny_of_tree ?_)
 show wpAny _ _ (callAny (.type "set") _) _ _ _; refine wpAny_pure ⟨Code.quiet_builtin _ (by decide +kernel),codeAny_builtin F.entry_type_call ?_⟩
 rw [Around.under_plain (weight_type_call_type "set" [.ref l] []) rfl]; have h1:=F.called_set.notType; have h2:=F.called_set.canCreate; have hct:=F.typeCall_set_1 (.ref l)
 (repeat (any_goals (first | assumption | wp_step)))
 refine codeAny_mono (newG (.ref l) (E:=E) (Q:=λobj s₁=>∃ led:Bool,(w.params.followText "set-order" = true\/led=true)/\obj=.ref s.heap.objs.size/\s₁={ s with heap:=s.heap.push { cls:=.type "set",dict:=none,data:=.set #[] 0 (.fresh 0 0 led) } }) λled z=>⟨led,z,rfl,rfl⟩) λr s₁ hr=>?_
 cases r with
 | error e=>exact hr
 | ok fl =>
  cases fl with
  | ret obj =>
   obtain ⟨led,hled,rfl,rfl⟩:=hr
   generalize ez:({ cls:=.type "set",dict:=none,data:=.set #[] 0 (.fresh 0 0 led) }:Obj)=z
   have hS:(s.heap.push z).get? s.heap.objs.size=some z:=Heap.get?_push_size _ (by rw [← ez]; rfl)
   have hT:Shared.TypeIs { s with heap:=s.heap.push z } (.ref s.heap.objs.size) "set" := ⟨_,hS,by rw [← ez]⟩
   have g0:GSet P w (s.heap.push z) s.heap.objs.size []:=⟨z,#[],0,.fresh 0 0 led,hS,⟨by rw [← ez]; exact ⟨rfl,rfl,rfl⟩,by rw [← ez],λe he=>by simp at he,by simp,rfl,⟨λi j _ hj=>by simp [SetTable.fresh] at hj,rfl⟩,hled,by decide⟩,Nat.le_refl _,λk=>by simp⟩
   have hli:=F.called_set.init.lookup; have hbi:=F.called_set.init.bind (.ref s.heap.objs.size)
   (repeat (any_goals (first | assumption | wp_step)))
   refine codeAny_mono (codeAny_call_builtin (R:=wants (λr s₂=>r=.none/\∃ h' tk,s₂={ s with heap:=h',toks:=tk }/\GSet P w h' s.heap.objs.size ns/\∀ b o,b<s.heap.objs.size->s.heap.get? b=some o->h'.get? b=some o) E) F.called_set.init.plain F.entry_set_init (check_set_init_1 hT ?_)) λr₂ s₂ hr₂=>?_
   .obtain ⟨ol,hol,hcl,nl,hdl⟩:=hl; obtain ⟨ocls,odict,odata,oslots⟩:=ol
    simp only at hcl hdl
    subst hcl; subst hdl
    have hol':=Heap.get?_push_of_some z hol
    have hsls:=F.sub_list_set; have hslf:=F.sub_list_frozenset
    have hne:(Value.type "list" == Value.type "dict")=false:=(by decide)
    have hl1:(s.heap.push z).IsList l items:=⟨_,hol',rfl,nl,rfl⟩
    subst ez
    unfold Builtin.«set.__init__» noKeywords Builtin.Frozenset.updateFrom; generalize hPI:pyIter=PI
    wp_walk
    subst hPI
    refine wpAny_pyIter_list hl1 ?_; refine wpAny_bind (wpAny_runValue ?_)
    generalize ez:({ cls:=.type "set",dict:=none,data:=.set #[] 0 (.fresh 0 0 led) }:Obj)=z at *
    have lS:l<s.heap.objs.size:=Heap.lt_size hol
    have h3:A.in1.in1.in1.handled=none:=by simp [hh]
    have sz:(s.heap.push z).objs.size=s.heap.objs.size+1:=Heap.size_push _ _
    have nI:l≠(s.heap.push z).objs.size:=by rw [sz]; exact Nat.ne_of_lt (Nat.lt_succ_of_lt lS)
    have hSf:s.heap.objs.size∉[(s.heap.push z).objs.size,l]:=by
     rw [sz]; simp only [mem_cons,not_mem_nil,or_false,not_or]
     exact ⟨Nat.ne_of_lt (Nat.lt_succ_self _),Nat.ne_of_gt lS⟩
    have hv:∀ (i:Nat) (v:Value),items[i]?=some v->∃ t,v=.int (ns.getD i 0) t:=λi v q=>IntsAre.int_at hi i v (by rw [Array.getElem?_toList]; exact q)
    have ln:items.size=ns.length:=by rw [← Array.length_toList]; exact IntsAre.length hi
    have W:=(Walks.list (prog:=P) (w:=w) h3 _ l nI items).toS
    rw [ln] at W
    refine loopG W s.heap.objs.size hSf hv hb (ns.length - 0) 0 _ (by lia) (Nat.zero_le _) ⟨⟨_,Heap.get?_push_size _ rfl,rfl,rfl⟩,hl1.push _⟩ (g0.at λo e=>Heap.get?_push_of_some _ e) λs' m gs=>?_
    rw [Moved.eq_with m]
    refine wpAny_pure ?_
    show wpAny _ _ (ret Value.none) _ _ _; refine wpAny_pure ⟨rfl,s'.heap,s'.toks,rfl,gs,λb o hb' e=>?_⟩
    refine m.heap b o ?_ (Heap.get?_push_of_some _ (Heap.get?_push_of_some _ e))
    rw [sz]; simp only [mem_cons,not_mem_nil,or_false,not_or]
    exact ⟨Nat.ne_of_lt hb',Nat.ne_of_lt (Nat.lt_succ_of_lt hb')⟩
   .cases r₂ with
    | error e=>exact hr₂
    | ok fl₂ =>
     cases fl₂ with
     | ret r =>
      obtain ⟨rfl,h',tk,rfl,gs,hk⟩:=hr₂
      (repeat (any_goals (first | assumption | wp_step)))
      exact h _ _ gs hk
     | _=>exact hr₂.elim
  | _=>exact hr.elim
end
theorem Zfe:entryFor table "set.__iter__" = some Builtin.«frozenset.__iter__»:=entryFor_alias (id' := "frozenset.__iter__") (by kernel_rfl) rfl (by decide +kernel) (by kernel_rfl)
theorem ZiE:Manifest.owners.lookup (String.ofList ['r','o','t','a','r','e','t','i','_','t','e','s'].reverse)=some Manifest.sig_set_iterator:=by kernel_rfl
theorem si_slot_next:Slot "set_iterator" "__next__" "set_iterator.__next__" := .of (owner := "set_iterator") (n := "__next__") (by rw [typeLookup_type,builtinLookup_eq_fast]; kernel_rfl) (by decide +kernel) (by decide +kernel) (by decide +kernel) (.inl (by decide +kernel)) (by rw [isSubtype_type]; kernel_rfl)
theorem Zdo:entryFor table "set_iterator.__next__" = some Builtin.«set_iterator.__next__»:=entryFor_of_tree (by kernel_rfl)
theorem ZdV (a:Value):argsOk "set_iterator.__next__" ⟨[a],[]⟩:=by unfold argsOk; rw [signature?_of (id := "set_iterator.__next__") (n:=['_','_','t','x','e','n','_','_']) (o:=['r','o','t','a','r','e','t','i','_','t','e','s']) (by kernel_rfl) ZiE]; kernel_rfl
theorem ZdW:Slot "set_iterator" "__iter__" "set_iterator.__iter__" := .of (owner := "set_iterator") (n := "__iter__") (by rw [typeLookup_type,builtinLookup_eq_fast]; kernel_rfl) (by decide +kernel) (by decide +kernel) (by decide +kernel) (.inl (by decide +kernel)) (by rw [isSubtype_type]; kernel_rfl)
theorem ZfQ:entryFor table "set_iterator.__iter__" = some Builtin.«dict_keyiterator.__iter__»:=entryFor_alias (id' := "dict_keyiterator.__iter__") (by kernel_rfl) rfl (by decide +kernel) (by kernel_rfl)
theorem ZgY (a:Value):argsOk "set_iterator.__iter__" ⟨[a],[]⟩:=by unfold argsOk; rw [signature?_of (id := "set_iterator.__iter__") (n:=['_','_','r','e','t','i','_','_']) (o:=['r','o','t','a','r','e','t','i','_','t','e','s']) (by kernel_rfl) ZiE]; kernel_rfl
theorem ZoC:typeLookup (.type "set") "__len__" = pure (some (.builtin "set.__len__")):=F.slot_set_len.lookup
section
variable {P:Program} {w:World} {A:Around} {E:Value->Shared->Prop} {s:Shared} {a:Addr} {o:Obj} {es:Array (Int×Value)} {ep:Nat} {t:SetTable}
theorem Zjx {src:Source} {n:Nat} {Q:Nat->Shared->Prop} (hn:n≠0) (h:∀ i d,i<n->Q i { s with drawn:=d }):wpAny (model P w) A (choose src n) Q E s :=
 λΓ p hΓ=>⟨hn,h _ _ (Nat.mod_lt _ (Nat.pos_of_ne_zero hn))⟩
theorem Zku {α:Type}:∀ (n:Nat) (xs:List α) (s:Shared) (Q:List α->Shared->Prop),xs.length=n->(∀ ys d,ys.Perm xs->Q ys { s with drawn:=d })->wpAny (model P w) A (drawOrder n xs) Q E s
 | 0,xs,s,Q,h,k=>by
  have:xs=[]:=List.eq_nil_of_length_eq_zero h
  subst this
  unfold drawOrder
  exact wpAny_pure (k [] s.drawn .nil)
 | n+1,[],s,Q,h,k=>nomatch h
 | n+1,x :: xs,s,Q,h,k=>by
  unfold drawOrder
  refine wpAny_bind (Zjx (by simp) λi d hi=>?_)
  rw [getElem?_eq_getElem hi]
  dsimp only
  refine wpAny_bind (Zku n _ _ _ (by rw [List.length_eraseIdx,if_pos hi,h]; rfl) λys d' hp=>wpAny_pure (k _ d' ?_))
  have e:(x :: xs).take i++(x :: xs)[i] :: (x :: xs).drop (i+1)=x :: xs:=by rw [← List.drop_eq_getElem_cons hi,List.take_append_drop]
  refine (hp.cons _).trans ?_
  rw [List.eraseIdx_eq_take_drop_succ]
  exact List.perm_middle.symm.trans (List.Perm.of_eq e)
def itO (first:Value) (i n ep:Nat) (a:Addr):Obj:={ cls:=.type "set_iterator",dict:=none,data:=.fields #[first,.int i 0,.ref a,.int n 0,.int ep 0],slots:=#[] }
def Zkv (t:SetTable):Nat->Nat | 0=>0 | i+1=>t.place.getD i 0+1
theorem ZiF {t:SetTable} (u:Up t.place):∀ i,i<=t.place.size->SetTable.below t.place (Zkv t i)=i
 | 0,h=>by
  obtain ⟨h1,h2,h3⟩:=ZfO 0 u
  rcases Nat.eq_zero_or_pos (SetTable.below t.place 0) with e | e
  .exact e
  .exact absurd (h2 0 e) (Nat.not_lt_zero _)
 | i+1,h=>by
  obtain ⟨h1,h2,h3⟩:=ZfO (t.place.getD i 0+1) u
  show SetTable.below t.place (t.place.getD i 0+1)=i+1
  generalize SetTable.below t.place (t.place.getD i 0+1)=b at h1 h2 h3 ⊢
  rcases Nat.lt_trichotomy b (i+1) with q | q | q
  .exact absurd (Nat.lt_succ_self _) (h3 i (by lia) (by lia))
  .exact q
  .have z1:=h2 (i+1) q
   have z2:=u i (i+1) (Nat.lt_succ_self _) (by lia)
   lia
inductive Way (w:World) (a:Addr) (es:Array (Int×Value)) (ep:Nat) (t:SetTable) (h:Heap):List (Int×Value)->Nat->Value->Prop
 | text {i j:Nat} (e:w.params.followText "set-order" = true):Way w a es ep t h (pickOrder (w.params.setOrder a ep) es).toList i (.int j 0)
 | place {i:Nat} (e:w.params.followText "set-order" = false) (d:(!t.plain && decide (es.size > 1))=false):Way w a es ep t h es.toList i (.int (Zkv t i:Nat) 0)
 | draw {i:Nat} {tp:Addr} {ot:Obj} {c:Nat} {ix:List Nat} (e:h.get? tp=some ot) (d:ot.data=.seq (ix.map λ(k:Nat)=>(Value.int k 0)).toArray c) (pm:ix.Perm (List.range es.size)):Way w a es ep t h (ix.filterMap λk=>es[k]?) i (.ref tp)
theorem ZhF {I:Addr} {first:Value} {i n:Nat} (h:s.heap.get? I=some (itO first i n ep a)):s.TypeIs (.ref I) "set_iterator" := ⟨_,h,rfl⟩
end
section
variable {P:Program} {w:World} {A:Around} {E:Value->Shared->Prop} {s:Shared} {a:Addr} {o:Obj} {es:Array (Int×Value)} {ep:Nat} {t:SetTable}
theorem ZgZ {j i:Nat} {Q:Option (Value×Nat)->Shared->Prop} (ha:s.heap.get? a=some o) (g:SetG P w o es ep t) (e:w.params.followText "set-order" = true) (h:Q (((pickOrder (w.params.setOrder a ep) es)[i]?).map λe=>(e.2,j)) s) :
  wpAny (model P w) A (setNext a j i ep) Q E s:=by
 unfold setNext setsByText
 refine wpAny_bind (wpAny_setState_of ha g.dat g.fit ?_); dsimp only
 refine wpAny_bind (wpAny_bind (wpAny_askSetting (wpAny_pure ?_))); dsimp only
 rw [show (model P w).w.params.followText "set-order" = true from e,if_pos rfl,if_neg (by simp)]
 unfold setWalk setsByText
 refine wpAny_bind (wpAny_bind (wpAny_setState_of ha g.dat g.fit ?_)); dsimp only
 refine wpAny_bind (wpAny_bind (wpAny_askSetting (wpAny_pure ?_))); dsimp only
 rw [show (model P w).w.params.followText "set-order" = true from e,if_pos rfl]
 refine wpAny_bind (wpAny_askSetting (wpAny_pure (wpAny_pure ?_)))
 exact h
theorem Zfu {j i:Nat} {Q:Option (Value×Nat)->Shared->Prop} (ha:s.heap.get? a=some o) (g:SetG P w o es ep t) (e:w.params.followText "set-order" = false) (d:(!t.plain && decide (es.size > 1))=false)
  (h:Q (match es[SetTable.below t.place j]?,t.place[SetTable.below t.place j]? with | some (_,x),some j=>some (x,j+1) | _,_=>none) s):wpAny (model P w) A (setNext a j i ep) Q E s:=by
 have hl:t.led=true:=g.led.elim (λz=>by rw [e] at z; cases z) id
 unfold setNext setsByText
 refine wpAny_bind (wpAny_setState_of ha g.dat g.fit ?_); dsimp only
 refine wpAny_bind (wpAny_bind (wpAny_askSetting (wpAny_pure ?_))); dsimp only
 rw [show (model P w).w.params.followText "set-order" = false from e,if_neg (by decide)]
 show wpAny _ _ (if (!t.plain && decide (es.size > 1))=true then _ else _) _ _ _
 rw [d,if_neg (by decide)]
 refine wpAny_bind ?_
 show wpAny _ _ (if (!t.led && !es.isEmpty)=true then unsupported _ else pure ()) _ _ _
 rw [hl,if_neg (by simp)]; exact wpAny_pure (wpAny_pure h)
theorem ZhG {I:Addr} {h h':Heap} (x:Heap.SameBut I h h') {b:Addr} (hb:b≠I):h'.get? b=h.get? b:=x.2 b hb
theorem ZnD {I:Addr} {out:List (Int×Value)} {first:Value} {i:Nat} {e:Int×Value} {Q:Option Value->Shared->Prop} (hI:s.heap.get? I=some (itO first i es.size ep a)) (ha:s.heap.get? a=some o) (g:SetG P w o es ep t) (y:Way w a es ep t s.heap out i first) (he:out[i]?=some e)
  (hQ:∀ h' f',Heap.SameBut I s.heap h'->h'.get? I=some (itO f' (i+1) es.size ep a)->Way w a es ep t h' out (i+1) f'->(∀ tp,f'=.ref tp->first=.ref tp)->Q (some e.2) { s with heap:=h' }):wpAny (model P w) A (pyNext (.ref I)) Q E s:=by
 have T:=ZhF hI
 unfold pyNext
 refine wpAny_bind (wpAny_attempt (wpAny_callSpecial?_slot (name:=Str.ofString "__next__") T si_slot_next (wpAny_call_entry si_slot_next T Zdo ?_ (ZdV _))))
 unfold Builtin.«set_iterator.__next__»
 refine wpAny_bind (wpAny_pure ?_); refine wpAny_bind (wpAny_fieldsOf hI rfl ?_)
 show wpAny _ _ (setEntries a >>= _) _ _ s
 refine wpAny_bind (wpAny_setEntries_of ha g.dat g.fit ?_); dsimp only
 rw [if_neg (by simp)]
 have two:∀ (x:Nat),wpAny (model P w) A.in1 (do setField (.ref I) 0 (rawInt x); setField (.ref I) 1 (rawInt ((i:Int)+1)); ret e.2) (λfin s'=>∃ v,fin=Fin.done (Flow.ret v)/\∃ h',v=e.2/\Heap.SameBut I s.heap h'/\h'.get? I=some (itO (.int x 0) (i+1) es.size ep a)/\s'={ s with heap:=h' }) (λ_ _=>False) s:=λx=>by
  refine wpAny_bind (wpAny_setField_rec hI (by simp) λh1 e1 sb1=>?_)
  refine wpAny_bind (wpAny_setField_rec e1 (by simp) λh2 e2 sb2=>?_)
  exact wpAny_pure ⟨_,rfl,h2,rfl,sb1.trans sb2,e2,rfl⟩
 cases y with
 | text eT =>
  rename_i j
  refine wpAny_bind (ZgZ ha g eT ?_)
  simp only [Int.toNat_natCast]
  rw [← Array.getElem?_toList,he]
  refine wpAny_mono (two (Int.toNat (j:Int))) (λfin s' z=>?_) λ_ _ z=>z.elim
  obtain ⟨v,rfl,h',rfl,sb,gi,rfl⟩:=z
  exact ⟨_,rfl,wpAny_pure (hQ h' _ sb gi (.text eT) λ_ e=>nomatch e)⟩
 | place eT d =>
  have hsz:t.place.size=es.size:=by have:=g.fit; simp [SetTable.fits] at this; exact this.1
  have hi:i<es.size:=by have:=(List.getElem?_eq_some_iff.mp he).1; simpa using this
  refine wpAny_bind (Zfu ha g eT d ?_)
  simp only [Int.toNat_natCast]
  rw [ZiF g.ris.1 i (by lia)]
  rw [Array.getElem?_toList] at he
  rw [he,Array.getElem?_eq_getElem (show i<t.place.size by lia)]
  have ep:t.place[i]'(by lia)=t.place.getD i 0:=by simp [Array.getD,show i<t.place.size by lia]
  refine wpAny_mono (two (t.place[i]'(by lia)+1)) (λfin s' z=>?_) λ_ _ z=>z.elim
  obtain ⟨v,rfl,h',rfl,sb,gi,rfl⟩:=z
  refine ⟨_,rfl,wpAny_pure (hQ h' _ sb gi ?_ λ_ e=>nomatch e)⟩
  rw [ep]
  exact .place (i:=i+1) eT d
 | draw et dt pm =>
  rename_i tp ot c ix
  have nI:tp≠I:=λz=>by
   rw [z,hI] at et
   have:=Option.some.inj et
   rw [← this] at dt
   exact nomatch dt
  have full:∀ (l:List Nat),(∀ k∈l,k<es.size)->∀ (i:Nat) (e:Int×Value),(l.filterMap λk=>es[k]?)[i]?=some e->∃ k:Nat,l[i]?=some k/\es[k]?=some e:=by
   intro l
   induction l with
   | nil=>intro _ i e z; simp at z
   | cons q l ih =>
    intro hq i e z
    have hq':q<es.size:=hq q (by simp)
    rw [List.filterMap_cons_some (Array.getElem?_eq_getElem hq')] at z
    cases i with
    | zero=>exact ⟨q,rfl,by rw [Array.getElem?_eq_getElem hq']; simpa using z⟩
    | succ i=>exact ih (λk hk=>hq k (by simp [hk])) i e (by simpa using z)
  obtain ⟨k,hk,hek⟩:=full ix (λk hk=>by have:=pm.mem_iff.mp hk; simpa using this) i e he
  refine wpAny_bind (wpAny_seqItems et dt ?_)
  have hx:((ix.map λ(k:Nat)=>(Value.int k 0)).toArray)[Int.toNat (i:Int)]?=some (.int k 0):=by
   rw [show (Int.toNat (i:Int))=i from rfl]
   simp [hk]
  dsimp only
  rw [hx]
  dsimp only
  unfold setNextDrawn
  refine wpAny_bind (wpAny_bind (wpAny_setState_of ha g.dat g.fit ?_)); dsimp only
  rw [if_neg (by simp),show (Int.toNat (k:Int))=k from rfl,hek]
  refine wpAny_pure ?_
  refine wpAny_bind (wpAny_setField_rec hI (by simp) λh1 e1 sb1=>wpAny_pure ⟨_,rfl,wpAny_pure (hQ h1 _ sb1 e1 ?_ λ_ e=>e)⟩)
  exact .draw (by rw [ZhG sb1 nI]; exact et) dt pm
end
section
variable {P:Program} {w:World} {A:Around} {E:Value->Shared->Prop} {s:Shared} {a:Addr} {o:Obj} {es:Array (Int×Value)} {ep:Nat} {t:SetTable}
theorem stopG {α:Type} {Q:α->Shared->Prop} (hh:A.handled=none) (h:∀ h' e,(∀ b o,s.heap.get? b=some o->h'.get? b=some o)->Shared.TypeIs { s with heap:=h' } e "StopIteration" -> E e { s with heap:=h' }) :
  wpAny (model P w) A (newExc (.type "StopIteration") [] >>= λe=>(raiseNew e:Sem α)) Q E s:=by
 refine wpAny_bind ?_; simp only [newExc,newTuple]
 refine wpAny_bind (wpAny_newObj_type ?_ (by size_fits)); refine wpAny_bind (m:=firstArgMember _ _) (wpAny_of_eq (a:=Value.none) (by first | rfl | (simp only [firstArgMember]; rfl)) ?_)
 refine wpAny_newObj_type (wpAny_raiseNew_none hh (h _ _ (λb o e=>Heap.get?_push_of_some _ (Heap.get?_push_of_some _ e)) ⟨_,Heap.get?_push_size _ rfl,rfl⟩)) (by size_fits)
theorem ZhH {h:Heap} {out:List (Int×Value)} {i:Nat} {f:Value} (y:Way w a es ep t h out i f):out.Perm es.toList:=by
 cases y with
 | text _=>exact Zkt _ _
 | place _ _=>exact .refl _
 | draw _ _ pm =>
  rename_i tp ot c ix et dt
  refine (pm.filterMap _).trans (List.Perm.of_eq ?_)
  refine List.ext_getElem? λi=>?_
  have key:∀ (n:Nat),n<=es.size->((List.range n).filterMap λk=>es[k]?)=es.toList.take n:=by
   intro n
   induction n with
   | zero=>intro _; simp
   | succ n ih =>
    intro hn
    rw [List.range_succ,List.filterMap_append,ih (by lia),List.take_succ_eq_append_getElem (show n<es.toList.length by rw [Array.length_toList]; lia)]
    rw [List.filterMap_cons_some (Array.getElem?_eq_getElem (show n<es.size by lia))]
    simp
  rw [key es.size (Nat.le_refl _),← Array.length_toList,take_length]
theorem ZnE {I:Addr} {out:List (Int×Value)} {first:Value} {Q:Option Value->Shared->Prop} (hh:A.handled=none) (hI:s.heap.get? I=some (itO first es.size es.size ep a)) (ha:s.heap.get? a=some o) (g:SetG P w o es ep t) (y:Way w a es ep t s.heap out es.size first)
  (hQ:∀ h',(∀ b o,b≠I->s.heap.get? b=some o->h'.get? b=some o)->Q none { s with heap:=h' }):wpAny (model P w) A (pyNext (.ref I)) Q E s:=by
 have T:=ZhF hI
 have lo:out.length=es.size:=by rw [(ZhH y).length_eq,Array.length_toList]
 unfold pyNext
 refine wpAny_bind (wpAny_attempt (wpAny_callSpecial?_slot (name:=Str.ofString "__next__") T si_slot_next (wpAny_call_entry si_slot_next T Zdo ?_ (ZdV _))))
 unfold Builtin.«set_iterator.__next__»
 refine wpAny_bind (wpAny_pure ?_); refine wpAny_bind (wpAny_fieldsOf hI rfl ?_)
 show wpAny _ _ (setEntries a >>= _) _ _ s
 refine wpAny_bind (wpAny_setEntries_of ha g.dat g.fit ?_); dsimp only
 rw [if_neg (by simp)]
 have h1:A.in1.handled=none:=by simp [hh]
 have fin:∀ (s1:Shared),(∀ b o,b≠I->s.heap.get? b=some o->s1.heap.get? b=some o)->s1={ s with heap:=s1.heap }->wpAny (model P w) A.in1 (newExc (.type "StopIteration") [] >>= λe=>(raiseNew e:Sem PySem.Fin))
   (λfin s'=>∃ v,fin=Fin.done (Flow.ret v)/\wpAny (model P w) A (pure (some v)) Q E s') (λe s'=>wpAny (model P w) A (do let r ← isInstance e (Value.type "StopIteration"); if r=true then pure none else throw e) Q E s') s1:=λs1 k1 e1=>by
  refine stopG h1 λh' e k T'=>?_
  refine wpAny_bind (wpAny_isInstance (b:=true) T' isSubtype_stop ?_)
  rw [if_pos rfl]
  have:=hQ h' λb o hb z=>k b o (k1 b o hb z)
  rw [e1]
  exact wpAny_pure this
 cases y with
 | text eT =>
  rename_i j
  refine wpAny_bind (ZgZ ha g eT ?_)
  simp only [Int.toNat_natCast]
  rw [← Array.getElem?_toList,getElem?_eq_none (by lia)]
  refine wpAny_bind (wpAny_setField_rec hI (by simp) λh1 e1 sb1=>fin _ (λb o hb z=>(sb1.2 b hb).trans z) rfl)
 | place eT d =>
  have hsz:t.place.size=es.size:=by have:=g.fit; simp [SetTable.fits] at this; exact this.1
  refine wpAny_bind (Zfu ha g eT d ?_)
  simp only [Int.toNat_natCast]
  rw [ZiF g.ris.1 es.size (by lia),Array.getElem?_eq_none (Nat.le_refl _)]
  refine wpAny_bind (wpAny_setField_rec hI (by simp) λh1 e1 sb1=>fin _ (λb o hb z=>(sb1.2 b hb).trans z) rfl)
 | draw et dt pm =>
  rename_i tp ot c ix
  have li:ix.length=es.size:=by rw [pm.length_eq,length_range]
  refine wpAny_bind (wpAny_seqItems et dt ?_)
  have hx:((ix.map λ(k:Nat)=>(Value.int k 0)).toArray)[Int.toNat (es.size:Int)]?=none:=by
   rw [Int.toNat_natCast,Array.getElem?_eq_none (by simp [li])]
  dsimp only
  rw [hx]
  refine wpAny_bind (wpAny_setField_rec hI (by simp) λh1 e1 sb1=>?_)
  refine wpAny_bind (wpAny_setField_rec e1 (by simp) λh2 e2 sb2=>fin _ (λb o hb z=>(sb2.2 b hb).trans ((sb1.2 b hb).trans z)) rfl)
theorem iterG {Q:Value->Shared->Prop} (ha:s.heap.get? a=some o) (g:SetG P w o es ep t)
  (hQ:∀ h' d I first out,(∀ b o,s.heap.get? b=some o->h'.get? b=some o)->s.heap.get? I=none->h'.get? I=some (itO first 0 es.size ep a)->Way w a es ep t h' out 0 first->(∀ tp,first=.ref tp->s.heap.get? tp=none/\tp≠I)->Q (.ref I) { s with heap:=h',drawn:=d }) :
  wpAny (model P w) A (pyIter (.ref a)) Q E s:=by
 have T:s.TypeIs (.ref a) "set" := ⟨o,ha,g.ex.1⟩
 refine wpAny_pyIter_slot T F.slot_set_iter (wpAny_call_entry F.slot_set_iter T Zfe ?_ (F.args_set_iter_1 _))
 unfold Builtin.«frozenset.__iter__» Builtin.Frozenset.slot0 Builtin.Frozenset.sizeOf setDrawn setsByText
 refine wpAny_bind (wpAny_bind (wpAny_pure (wpAny_pure ?_)))
 refine wpAny_bind (wpAny_bind (wpAny_setEntries_of ha g.dat g.fit (wpAny_pure ?_)))
 refine wpAny_bind (wpAny_bind (wpAny_setState_of ha g.dat g.fit ?_)); dsimp only
 refine wpAny_bind (wpAny_bind (wpAny_askSetting (wpAny_pure ?_))); dsimp only
 refine wpAny_pure ?_
 have fin:∀ (s1:Shared) (first:Value) (out:List (Int×Value)),(∀ b o,s.heap.get? b=some o->s1.heap.get? b=some o)->(∃ d,s1={ s with heap:=s1.heap,drawn:=d })->Way w a es ep t s1.heap out 0 first->(∀ tp,first=.ref tp->s.heap.get? tp=none)->s.heap.objs.size<=s1.heap.objs.size ->
   wpAny (model P w) A.in1 (do let e ← setEpoch a; let r ← newFields "set_iterator" [first,rawInt 0,Value.ref a,rawInt es.size,rawInt e]; ret r) (λfin s'=>∃ v,fin=Fin.done (Flow.ret v)/\∃ T' r,s'.TypeIs v T'/\typeLookup (Value.type T') (Str.ofString "__next__")=pure (some r)/\Q v s') E s1:=λs1 first out k e1 y ft le=>by
  obtain ⟨d,e1⟩:=e1
  refine wpAny_bind (wpAny_setEpoch_of (k _ _ ha) g.dat g.fit ?_)
  refine wpAny_bind (wpAny_newObj_type ?_ (by size_fits)); have hI:(s1.heap.push (itO first 0 es.size ep a)).get? s1.heap.objs.size=some (itO first 0 es.size ep a):=Heap.get?_push_size _ rfl
  refine wpAny_pure ⟨_,rfl, "set_iterator",_,⟨_,hI,rfl⟩,si_slot_next.lookup,?_⟩
  have hn:s.heap.get? s1.heap.objs.size=none:=by
   cases z:s.heap.get? s1.heap.objs.size with
   | none=>rfl
   | some q=>exact absurd (Heap.lt_size z) (Nat.not_lt.mpr le)
  rw [e1]
  refine hQ _ d _ first out (λb o z=>Heap.get?_push_of_some _ (k b o z)) hn hI ?_ λtp e=>⟨ft tp e,λz=>?_⟩
  .cases y with
   | text q=>exact .text q
   | place q r=>exact .place (i:=0) q r
   | draw q r pm=>exact .draw (Heap.get?_push_of_some _ q) r pm
  .subst e
   cases y with
   | draw q r pm=>exact absurd (Heap.lt_size q) (by rw [z]; exact Nat.lt_irrefl _)
 split
 .refine wpAny_bind (Zku es.size _ _ _ (by simp) λys d hp=>?_)
  refine wpAny_bind (wpAny_newObj_type ?_ (show (List.map (λi:Nat=>rawInt (i:Int)) ys).toArray.size<=sizeLine by have:=hp.length_eq; simp at this; simp only [List.size_toArray,length_map]; exact fits_of_scanBound (by rw [this]; exact g.lit)))
  refine fin _ (.ref s.heap.objs.size) (ys.filterMap λk=>es[k]?) (λb o z=>Heap.get?_push_of_some _ z) ⟨d,rfl⟩ (.draw (Heap.get?_push_size _ rfl) rfl hp) (λtp e=>?_) (by rw [Heap.size_push]; exact Nat.le_succ _)
  cases e
  cases z:s.heap.get? s.heap.objs.size with
  | none=>rfl
  | some q=>exact absurd (Heap.lt_size z) (Nat.lt_irrefl _)
 .rename_i hc
  refine wpAny_bind (wpAny_pure ?_)
  cases eT:w.params.followText "set-order" with
  | true=>exact fin s (.int (0:Nat) 0) _ (λ_ _ z=>z) ⟨s.drawn,rfl⟩ (.text eT) (λ_ e=>nomatch e) (Nat.le_refl _)
  | false =>
   refine fin s (.int (Zkv t 0:Nat) 0) _ (λ_ _ z=>z) ⟨s.drawn,rfl⟩ (.place (i:=0) eT ?_) (λ_ e=>nomatch e) (Nat.le_refl _)
   have hc':¬ ((!(w.params.followText "set-order") && (!t.plain && decide (es.size > 1)))=true):=hc
   rw [eT] at hc'
   simpa using hc'
end
section
variable {P:Program} {w:World} {A:Around} {E:Value->Shared->Prop} {s:Shared} {a:Addr} {o:Obj} {es:Array (Int×Value)} {ep:Nat} {t:SetTable}
theorem walkG (hh:A.handled=none) {I:Addr} {out:List (Int×Value)} {rest:List Addr} (g:SetG P w o es ep t) (po:out.length=es.size) (hne:a≠I) :
  WalksS P w A I (I :: a :: rest) [I] (λx y=>y=x) es.size (λi v=>∃ e,out[i]?=some e/\v=e.2) (λi s=>s.heap.get? a=some o/\∃ f,s.heap.get? I=some (itO f i es.size ep a)/\Way w a es ep t s.heap out i f/\∀ tp,f=.ref tp->tp∈rest/\tp≠I) where
 sub:=λc hc=>by simp at hc; simp [hc]
 grefl:=λ_=>rfl
 gtrans:=λx y z h1 h2=>by rw [h2,h1]
 frame:=λi s h' tk st _ k=>by
  obtain ⟨ha,f,hI,y,hf⟩:=st
  refine ⟨k a (by simp) _ ha,f,k I (by simp) _ hI,?_,hf⟩
  cases y with
  | text q=>exact .text q
  | place q r=>exact .place q r
  | draw q r pm=>exact .draw (k _ (by simp [(hf _ rfl).1]) _ q) r pm
 item:=λi s Q E hi st hQ=>by
  obtain ⟨ha,f,hI,y,hf⟩:=st
  have he:out[i]?=some (out[i]'(by lia)):=getElem?_eq_getElem (by lia)
  refine ZnD hI ha g y he λh' f' sb gI y' yf=>hQ _ _ ⟨_,he,rfl⟩ ⟨by rw [sb.2 a hne]; exact ha,f',gI,y',λtp e=>hf tp (yf tp e)⟩ ⟨λb o hb z=>(sb.2 b (λq=>hb (by simp [q]))).trans z,rfl,rfl,rfl,Nat.le_refl _⟩
 done:=λs Q E st hQ=>by
  obtain ⟨ha,f,hI,y,hf⟩:=st
  exact ZnE hh hI ha g y λh' k=>hQ _ ⟨λb o hb z=>k b o (λq=>hb (by simp [q])) z,rfl,rfl,rfl,Nat.le_refl _⟩
 self:=λi s Q E st hQ=>by
  obtain ⟨ha,f,hI,y,hf⟩:=st
  have T:=ZhF hI
  refine wpAny_pyIter_slot T ZdW (wpAny_call_entry ZdW T ZfQ ?_ (ZgY _))
  show wpAny _ _ (ret (.ref I)) _ _ s
  exact wpAny_pure ⟨_,rfl, "set_iterator",_,T,si_slot_next.lookup,hQ⟩
theorem hintG {r:Addr} {Q:Bool->Shared->Prop} (hT:s.TypeIs (.ref r) "set") (h:Q false s):wpAny (model P w) A (Builtin.List.listLengthHint (.ref r)) Q E s:=by
 unfold Builtin.List.listLengthHint; refine wpAny_bind (wpAny_specialOf hT ZoC ?_)
 generalize hid:("set.__len__" : String)=id0; wp_delta
 rw [show splitId id0=some ("set", "__len__") from by subst hid; decide +kernel]; subst hid
 refine wpAny_bind (wpAny_isInstance (T := "set") (b:=true) hT sub_set_self ?_)
 refine wpAny_ite_split (λq=>absurd q (by decide)) λ_=>wpAny_ite_split (λ_=>?_) λq=>absurd (by decide +kernel) q
 exact wpAny_bind (wpAny_typeOf hT (wpAny_pure h))
theorem ZlZ {Q:List Value->Shared->Prop} (hh:A.handled=none) (ha:s.heap.get? a=some o) (g:SetG P w o es ep t)
  (hQ:∀ h' tk d (out:List (Int×Value)),(∀ b o,s.heap.get? b=some o->h'.get? b=some o)->out.Perm es.toList->Q (out.map Prod.snd) { s with heap:=h',toks:=tk,drawn:=d }):wpAny (model P w) A (collect (.ref a)) Q E s:=by
 have T:s.TypeIs (.ref a) "set" := ⟨o,ha,g.ex.1⟩
 unfold collect
 refine wpAny_bind (wpAny_runValue (codeAny_builtin entry_proto_collect' ?_)); rw [Around.under_plainId PySem.F.plain_proto_collect _]
 show wpAny _ A.in1 (newList [] >>= λl=>again (.builtin "list.__iadd__" ⟨[l,.ref a],[]⟩)) _ _ s
 refine wpAny_bind (wpAny_newObj_type (wpAny_pure ⟨plainId_quiet PySem.F.plain_list_iadd _,codeAny_builtin entry_list_iadd' ?_⟩)); rw [Around.under_plainId PySem.F.plain_list_iadd _]
 generalize hL:s.heap.objs.size=L
 generalize h1:s.heap.push { cls:=.type "list",data:=.seq ([]:List Value).toArray }=hp1
 have gL:hp1.get? L=some { cls:=.type "list",dict:=none,data:=.seq #[] 0,slots:=#[] }:=by rw [← h1,← hL]; exact Heap.get?_push_size _ rfl
 have k1:∀ b o,s.heap.get? b=some o->hp1.get? b=some o:=λb o e=>by rw [← h1]; exact Heap.get?_push_of_some _ e
 have nL:∀ b o,s.heap.get? b=some o->b≠L:=λb o e=>by rw [← hL]; exact Nat.ne_of_lt (Heap.lt_size e)
 show wpAny _ A.in1 (Builtin.List.listExtendWith (.ref L) (.ref a) (.ref L)) _ _ _
 unfold Builtin.List.listExtendWith; have T1:Shared.TypeIs { s with heap:=hp1 } (.ref a) "set" := ⟨o,k1 _ _ ha,g.ex.1⟩
 refine wpAny_bind (wpAny_typeOf T1 ?_)
 have sr:Builtin.List.listSameRef (.ref L) (.ref a)=false:=by simp [Builtin.List.listSameRef,(nL a o ha).symm]
 rw [sr,if_neg (by decide)]
 refine wpAny_bind (iterG (s:={ s with heap:=hp1 }) (k1 _ _ ha) g λh' d I first out k nI gI y ft=>?_)
 have nIL:L≠I:=λe=>by rw [e] at gL; rw [show hp1.get? I=none from nI] at gL; cases gL
 have nIa:a≠I:=λe=>by have:=k1 _ _ ha; rw [e] at this; rw [show hp1.get? I=none from nI] at this; cases this
 have po:out.length=es.size:=by rw [(ZhH y).length_eq,Array.length_toList]
 refine wpAny_bind (wpAny_holding (hintG ⟨o,k _ _ (k1 _ _ ha),g.ex.1⟩ ?_))
 obtain ⟨rest,hr1,hr2⟩:∃ rest:List Addr,(∀ tp,first=.ref tp->tp∈rest/\tp≠I)/\L∉I :: a :: rest:=by
  have n0:L∉[I,a]:=by simp only [mem_cons,not_mem_nil,or_false,not_or]; exact ⟨nIL,(nL a o ha).symm⟩
  cases first with
  | ref tp =>
   refine ⟨[tp],λtp' e=>by cases e; exact ⟨by simp,(ft tp rfl).2⟩,?_⟩
   have nt:L≠tp:=λe=>by rw [e] at gL; rw [show hp1.get? tp=none from (ft tp rfl).1] at gL; cases gL
   simp only [mem_cons,not_mem_nil,or_false,not_or]
   exact ⟨nIL,(nL a o ha).symm,nt⟩
  | _=>exact ⟨[],(λ_ e=>nomatch e),n0⟩
 have W:=walkG (A:=A.in1) (by simp [hh]) (I:=I) (out:=out) (rest:=rest) g po nIa
 rw [if_pos (by decide +kernel)]
 have key:∀ (h2:Heap) (c:Nat),(∀ b o,b≠L->h'.get? b=some o->h2.get? b=some o)->h2.get? L=some { cls:=.type "list",dict:=none,data:=.seq #[] c,slots:=#[] } ->
   codeAny (model P w) A (.builtin "list.extend.loop" ⟨[.ref L,.ref I,.ref L],[]⟩) (λr s'=>∃ (h3:Heap) (tk:Nat) (acc:Array Value) (c':Nat),r=.ok (.ret (.ref L))/\s'={ s with heap:=h3,toks:=tk,drawn:=d }/\(∀ b o,s.heap.get? b=some o->h3.get? b=some o)/\h3.get? L=some { cls:=.type "list",dict:=none,data:=.seq acc c',slots:=#[] }/\acc.toList=out.map Prod.snd) { s with heap:=h2,drawn:=d }:=λh2 c k2 g2=>by
  refine codeAny_extend_loopS W (fits_of_scanBound g.lit) L hr2 (.ref L) es.size 0 _ #[] c (by lia) (Nat.zero_le _) ?_ g2 (ItemsOf.nil _) λs' acc' c' m gL' hacc=>?_
  .refine ⟨k2 _ _ (nL a o ha) (k _ _ (k1 _ _ ha)),first,k2 _ _ nIL.symm gI,?_,hr1⟩
   cases y with
   | text q=>exact .text q
   | place q r=>exact .place (i:=0) q r
   | draw q r pm =>
    refine .draw (k2 _ _ (λe=>hr2 ?_) q) r pm
    rw [← e]; simp [(hr1 _ rfl).1]
  .rw [Moved.eq_with m]
   refine ⟨s'.heap,s'.toks,acc',c',rfl,rfl,λb o z=>m.heap b o ?_ (k2 b o (nL b o z) (k b o (k1 b o z))),gL',?_⟩
   .have nb:b≠I:=λe=>by have:=k1 b o z; rw [e] at this; rw [show hp1.get? I=none from nI] at this; cases this
    simp only [mem_cons,not_mem_nil,or_false,not_or]
    exact ⟨nL b o z,nb⟩
   .refine List.ext_getElem? λi=>?_
    by_cases hi:i<es.size
    .have hv:acc'.toList[i]?=some (acc'.toList[i]'(by rw [Array.length_toList,hacc.1]; exact hi)):=getElem?_eq_getElem _
     obtain ⟨e,he,hv2⟩:=hacc.2 i _ (by rw [← Array.getElem?_toList]; exact hv)
     rw [hv,hv2,getElem?_map,he]; rfl
    .rw [getElem?_eq_none (by rw [Array.length_toList,hacc.1]; lia),getElem?_eq_none (by rw [length_map]; lia)]
 refine wpAny_bind (wpAny_rule ?_); refine wpAny_bind ?_
 have gL1:h'.get? L=some { cls:=.type "list",dict:=none,data:=.seq #[] 0,slots:=#[] }:=k _ _ gL
 show wpAny _ _ (updateSeq L (·.push .none) >>= λ_=>updateSeq L (·.pop)) _ _ _
 refine wpAny_bind (wpAny_updateSeq gL1 rfl ?_)
 have gL2:=Heap.get?_update_self (Obj.mapSeq (·.push Value.none)) gL1 rfl
 refine wpAny_updateSeq (hz:=by seq_fits) gL2 rfl ?_
 have gL3:=Heap.get?_update_self (Obj.mapSeq (·.pop)) gL2 rfl
 refine wpAny_pure ⟨plainId_quiet PySem.F.plain_extend_loop _,?_⟩
 refine codeAny_mono (key _ _ (λb o hb z=>(Heap.get?_update_other _ _ (Ne.symm hb)).trans ((Heap.get?_update_other _ _ (Ne.symm hb)).trans z)) gL3) λr s' q=>?_
 obtain ⟨h3,tk,acc,c',rfl,rfl,k3,gL4,ea⟩:=q
 show wpAny _ A (load L >>= _) _ _ _
 refine wpAny_bind (wpAny_load gL4 ?_)
 have:=hQ h3 tk d out k3 (ZhH y)
 rw [← ea] at this
 exact wpAny_pure this
end
section
variable {X:Cx}
def rSetG (P:Program) (w:World):List V->Hp->VK->Prop:=λxs H Q=>∃ (l:Addr) (ns:List Int),xs=[.ref l]/\H l=some (.lst (ns.map V.int))/\ns.length<4000/\∀ q,H q=none->Q (.ref q) (upd H q (.ext λh=>GSet P w h q ns))
theorem Zkw (hc:X.calm=true):CallR X (.type "set") (rSetG X.prog X.w):=by
 intro pins s σ H xs us Q I r h
 obtain ⟨l,ns,rfl,hl,h64,q⟩:=h
 obtain ⟨u,rfl,rx⟩:=vals1 r
 cases rx
 obtain ⟨hz,its,n,rv,ho⟩:=I.hok l _ hl
 have hi:IntsAre its.toArray.toList ns:=by simpa using ZcC rv
 refine callG (items:=its.toArray) (ns:=ns) (I.ok.hd hc) ⟨_,ho,rfl,n,rfl⟩ hi (by show ns.length+1<4096; lia) λh' tk g k=>?_
 have hn:H s.heap.objs.size=none:=I.hok.fresh (Nat.le_refl _); refine ⟨.ref s.heap.objs.size,_,I.laid (a:=s.heap.objs.size) (t':=tk) (o:=.ext λh=>GSet X.prog X.w h s.heap.objs.size ns) (λb o e=>k b o (Heap.lt_size e) e) (Nat.le_refl _) ⟨g,?_,λh1 h2 g1 k1=>g1.at k1⟩,rfl,q _ hn⟩
 obtain ⟨o,_,_,_,e,_⟩:=g
 exact ⟨o,e⟩
def Fw (ns:List Int):Prop:=ns.length<4000/\∀ os:List Int,os.Nodup->(∀ k,k∈os↔k∈ns)->os.length<64
def Zma (P:Program) (w:World):List V->Hp->VK->Prop:=λxs H Q=>∃ (a:Addr) (ns:List Int),xs=[.ref a]/\H a=some (.ext λh=>GSet P w h a ns)/\Fw ns /\
 ∀ (D:Addr) (os:List Int),H D=none->os.Nodup->(∀ k,k∈os↔k∈ns)->os.Pairwise (·<=·)->Q (.ref D) (upd H D (.lst (os.map V.int)))
theorem ZiG {P:Program} {w:World}:∀ {l:List (Int×Value)},ElemsOf (intKind P w) l->IntsAre (l.map Prod.snd) (l.map kOf)
 | [],_=>.nil
 | e :: l,h=>by
  obtain ⟨tk,q⟩:=Value.isInt_shape (show Value.isInt (kOf e) e.2=true from ZmF (h e (by simp)))
  have r:=ZiG (l:=l) λx hx=>h x (by simp [hx])
  show IntsAre (e.2 :: l.map Prod.snd) (kOf e :: l.map kOf)
  rw [q]
  exact .cons _ _ r
theorem Zha (hc:X.calm=true):CallR X (.builtin "sorted") (Zma X.prog X.w):=by
 intro pins s σ H xs us Q I r h
 obtain ⟨a,ns,rfl,ha,h64,q⟩:=h
 obtain ⟨u,rfl,rx⟩:=vals1 r
 cases rx
 obtain ⟨⟨o,es,ep,t,ho,g,sz,mem⟩,_⟩:=I.hok a _ ha
 refine call_function_entry kind_sorted plain_sorted entry_sorted (args_sorted1 _) ?_; unfold Builtin.«sorted»
 refine wpAny_bind (m:=checkCount "sorted" 1 1 _) (wpAny_pure ?_); refine wpAny_bind (ZlZ (A:=X.A.in1) (show X.A.in1.handled=none from I.ok.hd hc) ho g λh' tk d out hk' hp=>?_)
 have el:ElemsOf (intKind X.prog X.w) out:=g.el.perm hp
 have hI:=ZiG el
 have lo:out.length=es.size:=by rw [hp.length_eq,Array.length_toList]
 have h64:es.size<64:=by
  have:=h64.2 (es.toList.map kOf) g.nd mem
  rwa [length_map,Array.length_toList] at this
 refine wpAny_bind (wpAny_newList ?_ (by rw [length_map,lo,sizeLine_eq]; lia))
 have hoL:(h'.push (seqObj "list" (out.map Prod.snd).toArray 0)).get? h'.objs.size=some (seqObj "list" (out.map Prod.snd).toArray 0):=Heap.get?_push_size _ rfl
 have I0:Inv X pins σ H { s with drawn:=d }:=⟨I.ok,I.os,I.bare,I.base,I.loc,I.cell,I.free,I.freeC,I.pin,I.hok,I.len⟩
 have I1:=I0.kept (t':=tk) (h':=h') hk'
 show wpAny _ _ _ _ _ { s with heap:=h'.push (seqObj "list" (out.map Prod.snd).toArray 0),toks:=tk,drawn:=d }
 refine wpAny_bind (wpAny_holding (wpAny_call_entry slot_list_sort ⟨_,hoL,rfl⟩ entry_list_sort (list_sort_tree hoL (by simpa using hI) (by rw [length_map]; lia) λout' ns' a1 a2 a3=>⟨_,rfl,?_⟩) (args_list_sort _)))
 refine wpAny_pure ⟨_,rfl,?_⟩; obtain ⟨e,he⟩:=sortedHeap_at (out:=out') hoL
 have fr:H h'.objs.size=none:=I1.hok.fresh (Nat.le_refl _)
 have lo':=a2.length_eq
 have pm:ns'.Perm (es.toList.map kOf):=a2.trans (hp.map kOf)
 refine ⟨.ref h'.objs.size,_,I1.laid (a:=h'.objs.size) (t':=tk) (o:=.lst (ns'.map V.int)) (λb o z=>?_) (Nat.le_refl _) ⟨by rw [length_map,lo',length_map,lo,sizeLine_eq]; lia,out'.toList,e,Zde a1,he⟩,rfl,q _ ns' fr (pm.nodup_iff.mpr g.nd) (λk=>pm.mem_iff.trans (mem k)) a3⟩
 have z':h'.get? b=some o:=z
 have lt:=Heap.lt_size z'
 rw [sortedHeap_old (Nat.ne_of_lt lt) (by rw [size_push']; exact Nat.lt_succ_of_lt lt),Heap.get?_push_ne _ _ _ (Nat.ne_of_lt lt)]
 exact z'
def tSSw (C:List Int->Prop) (t:TA):TE:=λσ H Q=>t σ H λvs H1=>∃ (l:Addr) (ns:List Int),vs=[.ref l]/\H1 l=some (.lst (ns.map V.int))/\C ns /\
 ∀ (q D:Addr) (φ:Heap->Prop) (os:List Int),H1 q=none->H1 D=none->D≠q->os.Nodup->(∀ k,k∈os↔k∈ns)->os.Pairwise (·<=·)->Q (.ref D) (upd (upd H1 q (.ext φ)) D (.lst (os.map V.int)))
theorem Zmb {C:List Int->Prop} {p p':Pos} {pos pos':Pos} {e:Expr} {t:TA} (hC:∀ ns,C ns->Fw ns) (hc:X.calm=true) (hg:Gl X "sorted") (hm:X.mg "sorted" = none) (hg':Gl X "set") (hm':X.mg "set" = none) (ha:PA X [e] t) (hnn:NSs [e]:=by repeat' (first | exact True.intro | refine ⟨?_,?_⟩)) :
  PE X (.Call (.Name "sorted" p) [.Call (.Name "set" p') [e] [] pos'] [] pos) (tSSw C t):=by
 intro pins s σ H Q I h
 have hs:starEach [e] X.env=[(false,eval e X.env)]:=ZaE hnn.1
 have hs3:starEach [PySem.Expr.Call (.Name "set" p') [e] [] pos'] X.env=[(false,eval (PySem.Expr.Call (.Name "set" p') [e] [] pos') X.env)]:=ZaE (show NS (PySem.Expr.Call (.Name "set" p') [e] [] pos') from True.intro)
 refine Call_ (Zbw I hg hm PyProof.Rows.boot_sorted (PyProof.Rows.callWith_builtin1 (Q:=EP X pins σ Q) ?_ hs3 rfl))
 rw [hs3]
 refine Calls.spliced_cons (Call_ (Zbw I hg' hm' Zki (PyProof.Rows.callWith_type1 (thA (ha pos' pins s σ H _ I h) λus s1 vs H1 I1 r1 q1=>?_) hs rfl)))
 obtain ⟨l,ns,rfl,hl,h64,q⟩:=q1
 have h64:=hC _ h64
 refine thE (Zkw hc pins s1 σ H1 _ us (λx H2=>∃ q,x=.ref q/\H1 q=none/\H2=upd H1 q (.ext λh=>GSet X.prog X.w h q ns)) I1 r1 ⟨l,ns,rfl,hl,h64.1,λq hq=>⟨q,rfl,hq,rfl⟩⟩) λu s2 x H2 I2 rx q2=>?_
 obtain ⟨q',rfl,hq',rfl⟩:=q2
 refine Calls.spliced_nil ?_
 refine Zha hc pins s2 σ _ [.ref q'] [u] Q I2 (.cons rx .nil) ⟨q',ns,rfl,Za,h64,λD os hD nd mem pw=>?_⟩
 have nD:D≠q':=λe=>by rw [e,Za] at hD; cases hD
 rw [Zc nD] at hD
 exact q q' D _ os hq' hD nD nd mem pw
theorem fw_of {ns:List Int} (h:ns.length<64):Fw ns:=⟨by lia,λos nd m=>Nat.lt_of_le_of_lt (nd.length_le_of_subset λk hk=>(m k).mp hk) h⟩
def tSS:TA->TE:=tSSw λns=>ns.length<64
theorem ZnF {p p':Pos} {pos pos':Pos} {e:Expr} {t:TA} (hc:X.calm=true) (hg:Gl X "sorted") (hm:X.mg "sorted" = none) (hg':Gl X "set") (hm':X.mg "set" = none) (ha:PA X [e] t) (hnn:NSs [e]:=by repeat' (first | exact True.intro | refine ⟨?_,?_⟩)) :
  PE X (.Call (.Name "sorted" p) [.Call (.Name "set" p') [e] [] pos'] [] pos) (tSS t):=Zmb (λ_=>fw_of) hc hg hm hg' hm' ha hnn
end
end L2
namespace L2
open PySem PySem.F PyProof.Rows
variable {K:W.Frag} {X:Cx} {pins:List (Addr×Obj)} {σ:St} {H H':Hp} {s:Shared}
end L2
namespace L2
open PySem PySem.F PyProof.Rows PySem.MeetsSeq
variable {K:W.Frag} {X:Cx}
end L2
namespace L2
open PySem PySem.Spec PyProof.Rows
section
open PySem.SeqAt
open PySem.AutoSeq1 (wpAny_loadPart')
open PySem.MeetsSeq PySem.MeetsSeq2 PySem.MeetsSeq3
end
variable {K:W.Frag} {X:Cx}
end L2
namespace L2
open PySem PySem.Spec PyProof.Rows
theorem Zmc (t:Tok) (l:Addr) (items:Array Value) (n:Nat) (dd:Option Addr) (sl:Array (Option Value)) :
  Meets (Builtin.«tuple.__mul__» ⟨[.ref l,.int 1 t],[]⟩) (λ_ R s=>s.heap.get? l=some ⟨.type "tuple",dd,.seq items n,sl⟩/\R (.ok (.ret (.ref l))) s) :=
 .of_wp λprog w A R s h=>by
  obtain ⟨hp,g,d,tk,os⟩:=s
  obtain ⟨hl,h⟩:=h
  wp_walk
  exact ⟨_,rfl,h⟩
theorem Zmd (t:Tok) (l:Addr) (items:Array Value) (n:Nat) (dd:Option Addr) (sl:Array (Option Value)) (h0:¬ items.isEmpty=true) :
  Meets (Builtin.«tuple.__mul__» ⟨[.ref l,.int 0 t],[]⟩) (λ_ R s=>s.heap.get? l=some ⟨.type "tuple",dd,.seq items n,sl⟩/\R (.ok (.ret (.ref s.heap.objs.size))) { s with heap:=s.heap.push { cls:=.type "tuple",data:=.seq #[] } }) :=
 .of_wp λprog w A R s h=>by
  obtain ⟨hp,g,d,tk,os⟩:=s
  obtain ⟨hl,h⟩:=h
  wp_walk
  exact ⟨_,rfl,h⟩
section
variable {X:Cx}
def ZoD:R2:=λx y H Q=>∃ (a:Addr) (z:V) (k:Int),x=.ref a/\y=.int k/\H a=some (.tup [z])/\(k=0\/k=1)/\∀ p H',Same H H'->H' p=some (.tup (if k=1 then [z] else []))->Q (.ref p) H'
theorem Zme:OpR X (binaryOp .Mult) ZoD:=by
 intro pins s σ H x y v u Q I rx ry h
 obtain ⟨a,z,k,rfl,rfl,ha,hk,q⟩:=h
 cases rx
 obtain ⟨t,rfl⟩:=ry
 obtain ⟨its,r,⟨o,ho,hc,n,hd⟩,hz⟩:=I.tuple (SqT.of ha)
 have e:s.heap.get? a=some ⟨.type "tuple",o.dict,.seq its.toArray n,o.slots⟩:=by
  rw [ho]; obtain ⟨_,_,_,_⟩:=o; cases hc; cases hd; rfl
 have hi:¬ its.toArray.isEmpty=true:=by
  intro z
  have:its=[]:=by simpa using z
  exact absurd (r.nil_iff.mp this) (by simp)
 have T:∀ {k:Int},s.TypeIs (.int k t) "int" := λ{k}=>typeIs_int s k t
 rcases hk with rfl | rfl
 .refine wpAny_binaryOp_repeat_ref (T := "tuple") (U := "int") (by decide) ⟨_,e,rfl⟩ (λs'=>typeIs_int s' 0 t) ZeF F.fills_int_mul F.slot_int_rmul Zis F.slot_int_index.lookup
   (call_meets F.slot_int_rmul (typeIs_int s 0 t) F.entry_int_rmul (F.args_int_rmul_2 _ _) (Zit 0 t a its.toArray n o.dict o.slots)
    ⟨e,rfl,⟨_,e,rfl⟩,call_meets F.slot_tuple_mul ⟨_,e,rfl⟩ F.entry_tuple_mul (F.args_tuple_mul_2 _ _) (Zmd t a its.toArray n o.dict o.slots hi) ⟨e,?_⟩⟩)
  exact ⟨.ref _,_,I.laid (t':=s.toks) (o:=.tup []) (λb ob q=>Heap.get?_push_of_some _ q) (Nat.le_refl _) ⟨Nat.zero_le _,[],.nil,IsTup.new _ _⟩,rfl,q _ _ (Zg (I.hok.fresh (Nat.le_refl _)) _) Za⟩
 .refine wpAny_binaryOp_repeat_ref (T := "tuple") (U := "int") (by decide) ⟨_,e,rfl⟩ (λs'=>typeIs_int s' 1 t) ZeF F.fills_int_mul F.slot_int_rmul Zis F.slot_int_index.lookup
   (call_meets F.slot_int_rmul (typeIs_int s 1 t) F.entry_int_rmul (F.args_int_rmul_2 _ _) (Zit 1 t a its.toArray n o.dict o.slots)
    ⟨e,rfl,⟨_,e,rfl⟩,call_meets F.slot_tuple_mul ⟨_,e,rfl⟩ F.entry_tuple_mul (F.args_tuple_mul_2 _ _) (Zmc t a its.toArray n o.dict o.slots) ⟨e,?_⟩⟩)
  exact ⟨.ref a,H,I,rfl,q _ _ (Same.refl _) ha⟩
end
theorem ZoE {X:Cx} {m:Prop} {e:PySem.Expr} {te:XK'->TE} {pos:Pos} (he:PEx m X e te):PX m X (.Return (some e) pos) (λEx=>tRet (te Ex)):=by
 intro pins s σ H D Ex I h
 exact wpAny_Return_some (thE (he pins s σ H _ Ex I h) λv s1 x H1 I1 r1 q1=>⟨x,σ,H1,I1,r1,q1⟩)
end L2
namespace Mine
open PySem L2
variable {P:Program} {w:World} {K:W.Frag} {mg:Str->Option Value} {base:Heap}
def top (i:Nat):Stmt:=PySem.Challenge.pw_nearstairs_k26_orders_of_stairs.main.body.getD i (.Pass ⟨0,0,0,0⟩)
theorem scM {N P:List Str} {sc:Scope} (a:sc.kind=.function:=by rfl) (b:sc.isCoroutine=false:=by rfl) (c:sc.isGenerator=false:=by rfl) (d:N.Nodup:=by decide +kernel) (e:N.take P.length=P:=by rfl) (f:∀ x∈P,sc.names.lookup x=some .local\/sc.names.lookup x=some .cell:=by decide +kernel) (g:∀ y∈sc.names,y.2≠.free:=by decide +kernel):FnScope N P sc:=⟨a,b,c,d,e,f,g⟩
abbrev Zdx:Stmt:=top 2
abbrev N_board_of:List Str:=["size", "spot"]
abbrev Zbe:List Str:=N_board_of.take 2
theorem sc_board_of:FnScope N_board_of Zbe (Zh Zdx):=scM
abbrev Zdy:Stmt:=top 3
abbrev N_spots_of:List Str:=["size", "board", "first"]
abbrev ZcF:List Str:=N_spots_of.take 2
theorem sc_spots_of:FnScope N_spots_of ZcF (Zh Zdy):=scM
abbrev Zdz:Stmt:=top 4
abbrev N_shelf_of:List Str:=["shelves", "board"]
abbrev ZdA:List Str:=N_shelf_of.take 2
theorem sc_shelf_of:FnScope N_shelf_of ZdA (Zh Zdz):=scM
abbrev ZbT:Stmt:=Zq (top 12) 0
abbrev N_Room_init:List Str:=["self", "shelves", "places", "rule"]
abbrev ZbU:List Str:=N_Room_init.take 4
theorem sc_Room_init:FnScope N_Room_init ZbU (Zh ZbT):=scM
abbrev ZdB:Stmt:=Zq (top 12) 1
abbrev N_Room_has:List Str:=["self", "board"]
abbrev Zbf:List Str:=N_Room_has.take 2
theorem sc_Room_has:FnScope N_Room_has Zbf (Zh ZdB):=scM
abbrev Zcp:Stmt:=Zq (top 12) 2
abbrev N_Room_bring:List Str:=["self", "board", "out"]
abbrev ZbC:List Str:=N_Room_bring.take 2
theorem sc_Room_bring:FnScope N_Room_bring ZbC (Zh Zcp):=scM
abbrev ZdC:Stmt:=Zq (top 12) 3
abbrev N_Room_use:List Str:=["self", "board", "mates"]
abbrev ZcG:List Str:=N_Room_use.take 2
theorem sc_Room_use:FnScope N_Room_use ZcG (Zh ZdC):=scM
abbrev ZcR:Stmt:=Zq (top 12) 4
abbrev N_Room_drop:List Str:=["self", "board"]
abbrev Zbl:List Str:=N_Room_drop.take 2
theorem sc_Room_drop:FnScope N_Room_drop Zbl (Zh ZcR):=scM
abbrev ZbV:Stmt:=Zq (top 12) 5
abbrev N_Room_boards:List Str:=["self"]
abbrev Zba:List Str:=N_Room_boards.take 1
theorem sc_Room_boards:FnScope N_Room_boards Zba (Zh ZbV):=scM
abbrev ZbD:Stmt:=Zq (top 12) 6
abbrev N_Room_shelf:List Str:=["self", "number"]
abbrev ZS:List Str:=N_Room_shelf.take 2
theorem sc_Room_shelf:FnScope N_Room_shelf ZS (Zh ZbD):=scM
abbrev ZcS:Stmt:=Zq (top 12) 7
abbrev N_Room_need:List Str:=["self", "board"]
abbrev Zbm:List Str:=N_Room_need.take 2
theorem sc_Room_need:FnScope N_Room_need Zbm (Zh ZcS):=scM
abbrev Zcq:Stmt:=Zq (top 12) 8
abbrev N_Room_mates:List Str:=["self", "board"]
abbrev Zan:List Str:=N_Room_mates.take 2
theorem sc_Room_mates:FnScope N_Room_mates Zan (Zh Zcq):=scM
abbrev ZaF:Stmt:=Zq (top 12) 9
abbrev N_Room_leaver_for:List Str:=["self", "board", "mates"]
abbrev ZY:List Str:=N_Room_leaver_for.take 2
theorem sc_Room_leaver_for:FnScope N_Room_leaver_for ZY (Zh ZaF):=scM
abbrev ZB:Stmt:=Zq (top 12) 10
abbrev N_Room_going:List Str:=["self", "mates"]
abbrev Zao:List Str:=N_Room_going.take 2
theorem sc_Room_going:FnScope N_Room_going Zao (Zh ZB):=scM
abbrev Zcr:Stmt:=Zq (top 14) 0
abbrev N_Store_init:List Str:=["self", "room_plan", "shelves", "places", "rule", "writing"]
abbrev Zcs:List Str:=N_Store_init.take 2
theorem sc_Store_init:FnScope N_Store_init Zcs (Zh Zcr):=scM
abbrev ZcT:Stmt:=Zq (top 14) 1
abbrev N_Store_has:List Str:=["self", "board"]
abbrev Zbn:List Str:=N_Store_has.take 2
theorem sc_Store_has:FnScope N_Store_has Zbn (Zh ZcT):=scM
abbrev Zbo:Stmt:=Zq (top 14) 2
abbrev N_Store_take_in:List Str:=["self", "board", "words"]
abbrev Zbp:List Str:=N_Store_take_in.take 3
theorem sc_Store_take_in:FnScope N_Store_take_in Zbp (Zh Zbo):=scM
abbrev ZaO:Stmt:=Zq (top 14) 3
abbrev N_Store_give_out:List Str:=["self", "board"]
abbrev ZaP:List Str:=N_Store_give_out.take 2
theorem sc_Store_give_out:FnScope N_Store_give_out ZaP (Zh ZaO):=scM
abbrev ZaQ:Stmt:=Zq (top 14) 4
abbrev N_Store_words_of:List Str:=["self", "board"]
abbrev ZK:List Str:=N_Store_words_of.take 2
theorem sc_Store_words_of:FnScope N_Store_words_of ZK (Zh ZaQ):=scM
abbrev ZcU:Stmt:=Zq (top 14) 5
abbrev N_Store_lay:List Str:=["self", "board", "words"]
abbrev ZbW:List Str:=N_Store_lay.take 3
theorem sc_Store_lay:FnScope N_Store_lay ZbW (Zh ZcU):=scM
abbrev ZaR:Stmt:=Zq (top 14) 6
abbrev N_Store_lay_word:List Str:=["self", "board", "at", "word"]
abbrev ZaS:List Str:=N_Store_lay_word.take 4
theorem sc_Store_lay_word:FnScope N_Store_lay_word ZaS (Zh ZaR):=scM
abbrev Zbq:Stmt:=Zq (top 14) 8
abbrev N_Store_freshen:List Str:=["self", "board"]
abbrev Zat:List Str:=N_Store_freshen.take 2
theorem sc_Store_freshen:FnScope N_Store_freshen Zat (Zh Zbq):=scM
abbrev ZbX:Stmt:=Zq (top 15) 0
abbrev N_Memory_init:List Str:=["self", "size"]
abbrev ZbY:List Str:=N_Memory_init.take 2
theorem sc_Memory_init:FnScope N_Memory_init ZbY (Zh ZbX):=scM
abbrev ZZ:Stmt:=Zq (top 15) 2
abbrev N_Memory_words_of:List Str:=["self", "board"]
abbrev ZaG:List Str:=N_Memory_words_of.take 2
theorem sc_Memory_words_of:FnScope N_Memory_words_of ZaG (Zh ZZ):=scM
abbrev Zct:Stmt:=Zq (top 15) 3
abbrev N_Memory_lay:List Str:=["self", "board", "words", "spot", "word"]
abbrev Zcu:List Str:=N_Memory_lay.take 3
theorem sc_Memory_lay:FnScope N_Memory_lay Zcu (Zh Zct):=scM
abbrev ZT:Stmt:=Zq (top 17) 0
abbrev N_Steps_init:List Str:=["self", "size", "room_plans"]
abbrev ZaM:List Str:=N_Steps_init.take 3
theorem sc_Steps_init:FnScope N_Steps_init ZaM (Zh ZT):=scM
abbrev Zcv:Stmt:=Zq (top 17) 1
abbrev N_Steps_lies:List Str:=["self", "k"]
abbrev Zcw:List Str:=N_Steps_lies.take 2
theorem sc_Steps_lies:FnScope N_Steps_lies Zcw (Zh Zcv):=scM
abbrev ZbZ:Stmt:=Zq (top 17) 3
abbrev N_Steps_words:List Str:=["self", "k", "board"]
abbrev Zbb:List Str:=N_Steps_words.take 3
theorem sc_Steps_words:FnScope N_Steps_words Zbb (Zh ZbZ):=scM
abbrev Zca:Stmt:=Zq (top 17) 5
abbrev N_Steps_store:List Str:=["self", "k"]
abbrev Zaa:List Str:=N_Steps_store.take 2
theorem sc_Steps_store:FnScope N_Steps_store Zaa (Zh Zca):=scM
abbrev ZaT:Stmt:=Zq (top 17) 6
abbrev N_Steps_happened:List Str:=["self", "events"]
abbrev Zaj:List Str:=N_Steps_happened.take 1
theorem sc_Steps_happened:FnScope N_Steps_happened Zaj (Zh ZaT):=scM
abbrev ZbE:Stmt:=Zq (top 17) 7
abbrev N_Steps_leaver:List Str:=["self", "k", "board"]
abbrev Zah:List Str:=N_Steps_leaver.take 3
theorem sc_Steps_leaver:FnScope N_Steps_leaver Zah (Zh ZbE):=scM
abbrev Zau:Stmt:=Zq (top 17) 8
abbrev N_Steps_tell_found:List Str:=["self", "k"]
abbrev Zav:List Str:=N_Steps_tell_found.take 2
theorem sc_Steps_tell_found:FnScope N_Steps_tell_found Zav (Zh Zau):=scM
abbrev ZbF:Stmt:=Zq (top 17) 9
abbrev N_Steps_use_in:List Str:=["self", "k", "board"]
abbrev ZaH:List Str:=N_Steps_use_in.take 3
theorem sc_Steps_use_in:FnScope N_Steps_use_in ZaH (Zh ZbF):=scM
abbrev Zbr:Stmt:=Zq (top 17) 10
abbrev N_Steps_come_in:List Str:=["self", "k", "board", "words"]
abbrev Zaw:List Str:=N_Steps_come_in.take 4
theorem sc_Steps_come_in:FnScope N_Steps_come_in Zaw (Zh Zbr):=scM
abbrev ZbG:Stmt:=Zq (top 17) 11
abbrev N_Steps_go_out:List Str:=["self", "k", "board"]
abbrev ZM:List Str:=N_Steps_go_out.take 3
theorem sc_Steps_go_out:FnScope N_Steps_go_out ZM (Zh ZbG):=scM
abbrev ZcV:Stmt:=Zq (top 17) 12
abbrev N_Steps_put:List Str:=["self", "k", "board", "words"]
abbrev Zbs:List Str:=N_Steps_put.take 4
theorem sc_Steps_put:FnScope N_Steps_put Zbs (Zh ZcV):=scM
abbrev Zbt:Stmt:=Zq (top 17) 13
abbrev N_Steps_word_in:List Str:=["self", "k", "spot"]
abbrev Zbu:List Str:=N_Steps_word_in.take 3
theorem sc_Steps_word_in:FnScope N_Steps_word_in Zbu (Zh Zbt):=scM
abbrev ZaU:Stmt:=Zq (top 17) 14
abbrev N_Steps_put_word:List Str:=["self", "k", "spot", "word"]
abbrev ZaV:List Str:=N_Steps_put_word.take 4
theorem sc_Steps_put_word:FnScope N_Steps_put_word ZaV (Zh ZaU):=scM
abbrev Zcb:Stmt:=Zq (top 19) 0
abbrev N_Stairs_init:List Str:=["self", "plan", "size", "kind", "room_plans"]
abbrev Zcc:List Str:=N_Stairs_init.take 2
theorem sc_Stairs_init:FnScope N_Stairs_init Zcc (Zh Zcb):=scM
abbrev Zcd:Stmt:=Zq (top 19) 1
abbrev N_Stairs_read:List Str:=["self", "spot", "board"]
abbrev Zce:List Str:=N_Stairs_read.take 2
theorem sc_Stairs_read:FnScope N_Stairs_read Zce (Zh Zcd):=scM
abbrev ZbH:Stmt:=Zq (top 19) 2
abbrev N_Stairs_write:List Str:=["self", "spot", "word", "board"]
abbrev ZbI:List Str:=N_Stairs_write.take 3
theorem sc_Stairs_write:FnScope N_Stairs_write ZbI (Zh ZbH):=scM
abbrev ZaI:Stmt:=Zq (top 19) 4
abbrev N_Stairs_order:List Str:=["self", "k", "shelf"]
abbrev ZN:List Str:=N_Stairs_order.take 3
theorem sc_Stairs_order:FnScope N_Stairs_order ZN (Zh ZaI):=scM
abbrev ZbJ:Stmt:=Zq (top 19) 5
abbrev N_Stairs_fetch:List Str:=["self", "board", "k"]
abbrev ZaJ:List Str:=N_Stairs_fetch.take 2
theorem sc_Stairs_fetch:FnScope N_Stairs_fetch ZaJ (Zh ZbJ):=scM
abbrev ZaW:Stmt:=Zq (top 19) 6
abbrev N_Stairs_nearest:List Str:=["self", "board", "k", "store"]
abbrev ZaX:List Str:=N_Stairs_nearest.take 2
theorem sc_Stairs_nearest:FnScope N_Stairs_nearest ZaX (Zh ZaW):=scM
abbrev Zbv:Stmt:=Zq (top 19) 7
abbrev N_Stairs_change:List Str:=["self", "k", "board", "store"]
abbrev Zax:List Str:=N_Stairs_change.take 3
theorem sc_Stairs_change:FnScope N_Stairs_change Zax (Zh Zbv):=scM
abbrev ZbK:Stmt:=Zq (top 19) 8
abbrev N_Stairs_go_on:List Str:=["self", "k", "board", "words", "far", "store"]
abbrev ZaK:List Str:=N_Stairs_go_on.take 4
theorem sc_Stairs_go_on:FnScope N_Stairs_go_on ZaK (Zh ZbK):=scM
abbrev Zak:Stmt:=Zq (top 19) 9
abbrev N_Stairs_fetch_down:List Str:=["self", "k", "board", "words", "near", "out"]
abbrev Zal:List Str:=N_Stairs_fetch_down.take 3
theorem sc_Stairs_fetch_down:FnScope N_Stairs_fetch_down Zal (Zh Zak):=scM
abbrev Zay:Stmt:=Zq (top 19) 10
abbrev N_Stairs_drive_out:List Str:=["self", "k", "board", "words", "fresh", "near", "fresh_near"]
abbrev Zaz:List Str:=N_Stairs_drive_out.take 3
theorem sc_Stairs_drive_out:FnScope N_Stairs_drive_out Zaz (Zh Zay):=scM
abbrev Zae:Stmt:=Zq (top 19) 11
abbrev N_Stairs_fetch_apart:List Str:=["self", "k", "board", "words", "fresh"]
abbrev Zaf:List Str:=N_Stairs_fetch_apart.take 3
theorem sc_Stairs_fetch_apart:FnScope N_Stairs_fetch_apart Zaf (Zh Zae):=scM
abbrev ZH:Stmt:=Zq (top 19) 12
abbrev N_Stairs_push:List Str:=["self", "k", "board", "words", "fresh", "out", "out_words", "out_fresh"]
abbrev ZC:List Str:=N_Stairs_push.take 5
theorem sc_Stairs_push:FnScope N_Stairs_push ZC (Zh ZH):=scM
abbrev Zam:Stmt:=Zq (top 19) 13
abbrev N_Stairs_come_apart:List Str:=["self", "k", "board", "words", "fresh"]
abbrev ZI:List Str:=N_Stairs_come_apart.take 5
theorem sc_Stairs_come_apart:FnScope N_Stairs_come_apart ZI (Zh Zam):=scM
abbrev s_box:Stmt:=top 21
abbrev N_box:List Str:=["_law_script", "_law_k", "_law_cell"]
abbrev P_box:List Str:=N_box.take 2
theorem sc_box:FnScope N_box P_box (Zh s_box):=scM
abbrev Zkx:Stmt:=top 22
abbrev N_take:List Str:=["_law_box_here", "_law_size", "_law_found", "_law_step", "_law_once", "_law_twice"]
abbrev Zdp:List Str:=N_take.take 2
theorem sc_take:FnScope N_take Zdp (Zh Zkx):=scM
abbrev ZfR:Stmt:=top 23
abbrev N_folded:List Str:=["_law_script", "_law_size", "_law_cells", "_law_k", "_law_cell"]
abbrev ZfS:List Str:=N_folded.take 2
theorem sc_folded:FnScope N_folded ZfS (Zh ZfR):=scM
abbrev ZdX:Stmt:=top 24
abbrev N_same:List Str:=["_law_found", "_law_due"]
abbrev ZdY:List Str:=N_same.take 2
theorem sc_same:FnScope N_same ZdY (Zh ZdX):=scM
abbrev ZcW:Stmt:=top 25
abbrev N_room_plan:List Str:=["_law_box_here", "_law_far", "_law_shelves", "_law_places", "_law_rule"]
abbrev ZcX:List Str:=N_room_plan.take 1
theorem sc_room_plan:FnScope N_room_plan ZcX (Zh ZcW):=scM
abbrev ZiH:Stmt:=top 26
abbrev N_plan:List Str:=["_law_box_here", "_law_kind", "_law_size"]
abbrev Zky:List Str:=N_plan.take 1
theorem sc_plan:FnScope N_plan Zky (Zh ZiH):=scM
abbrev Zbc:Stmt:=top 27
abbrev N_some_boards:List Str:=["_law_box_here", "_law_size", "_law_many_here", "_law_way", "_law_begin", "_law_first", "_law_found", "_law_far", "_law_k", "_law_at"]
abbrev Zcf:List Str:=N_some_boards.take 2
theorem sc_some_boards:FnScope N_some_boards Zcf (Zh Zbc):=scM
abbrev Zkz:Stmt:=top 28
abbrev N_word:List Str:=["_law_box_here", "_law_way", "_law_number", "_law_turn"]
abbrev ZkA:List Str:=N_word.take 1
theorem sc_word:FnScope N_word ZkA (Zh Zkz):=scM
abbrev ZkB:Stmt:=top 29
abbrev N_deed:List Str:=["_law_box_here", "_law_size", "_law_some", "_law_write", "_law_spot"]
abbrev ZkC:List Str:=N_deed.take 3
theorem sc_deed:FnScope N_deed ZkC (Zh ZkB):=scM
abbrev ZkD:Stmt:=top 30
abbrev N_many:List Str:=["_law_box_here", "_law_few", "_law_most", "_law_great"]
abbrev ZkE:List Str:=N_many.take 3
theorem sc_many:FnScope N_many ZkE (Zh ZkD):=scM
abbrev ZcH:Stmt:=top 31
abbrev N_followed:List Str:=["_law_rooms", "_law_events", "_law_board", "_law_word_here", "_law_k", "_law_other"]
abbrev ZdD:List Str:=N_followed.take 3
theorem sc_followed:FnScope N_followed ZdD (Zh ZcH):=scM
abbrev ZdE:Stmt:=top 32
abbrev N_no_shelf:List Str:=["_law_stairs", "_law_k", "_law_number", "_law_caught", "error"]
abbrev ZdF:List Str:=N_no_shelf.take 3
theorem sc_no_shelf:FnScope N_no_shelf ZdF (Zh ZdE):=scM
abbrev ZaL:Stmt:=top 33
abbrev N_orders_right:List Str:=["_law_stairs", "_law_plan_here", "_law_rooms", "_law_k", "_law_room", "_law_shelves", "_law_places", "_law_numbers", "_law_number", "_law_row"]
abbrev ZbL:List Str:=N_orders_right.take 3
theorem sc_orders_right:FnScope N_orders_right ZbL (Zh ZaL):=scM
abbrev ZfT:Stmt:=top 34
abbrev N_right:List Str:=["_law_box_here", "_law_plan_here", "_law_some", "_law_stairs", "_law_rooms", "_law_turn", "_law_deed_here", "_law_events", "_law_k", "_law_far"]
abbrev ZhI:List Str:=N_right.take 1
theorem sc_right:FnScope N_right ZhI (Zh ZfT):=scM
abbrev s_law:Stmt:=top 35
abbrev N_law:List Str:=["_law_script", "_law_cells"]
abbrev P_law:List Str:=N_law.take 1
theorem sc_law:FnScope N_law P_law (Zh s_law):=scM
structure Txt (K:W.Frag) (mg:Str->Option Value):Prop where
 v9_:mg "ValueError" = none
 j0_:mg "abs" = none
 j1_:mg "all" = none
 jt_:mg "bool" = none
 jp_:mg "divmod" = none
 vo_:mg "enumerate" = none
 jl_:mg "int" = none
 qi_:mg "isinstance" = none
 vp_:mg "len" = none
 vg_:mg "list" = none
 j2_:mg "max" = none
 j8_:mg "min" = none
 q2_:mg "range" = none
 j9_:mg "set" = none
 ja_:mg "sorted" = none
 ju_:mg "str" = none
 ji_:mg "tuple" = none
 j3_:mg "zip" = none
 qb_:Cls K (clsOf K "Room")
 jo_:NoAttr K (clsOf K "Room") "places"
 jg_:NoAttr K (clsOf K "Room") "rule"
 vk_:NoAttr K (clsOf K "Room") "shelves"
 vv_:NoAttr K (clsOf K "Room") "standing"
 vb_:NoAttr K (clsOf K "Room") "uses"
 qc_:Cls K (clsOf K "Store")
 v3_:NoAttr K (clsOf K "Store") "fresh"
 vh_:NoAttr K (clsOf K "Store") "held"
 jb_:NoAttr K (clsOf K "Store") "late"
 qo_:NoAttr K (clsOf K "Store") "room"
 va_:Cls K (clsOf K "Memory")
 vq_:NoAttr K (clsOf K "Memory") "kept"
 v4_:NoAttr K (clsOf K "Memory") "size"
 qa_:Cls K (clsOf K "Stairs")
 vw_:NoAttr K (clsOf K "Stairs") "bottom"
 qr_:NoAttr K (clsOf K "Stairs") "events"
 v5_:NoAttr K (clsOf K "Stairs") "kind"
 qk_:NoAttr K (clsOf K "Stairs") "last"
 q0_:NoAttr K (clsOf K "Stairs") "size"
 qe_:NoAttr K (clsOf K "Stairs") "stores"
 jy_:mg "NoShelf" = some (.ref (clsOf K "NoShelf"))
 jz_:XOk K (clsOf K "NoShelf") (clsOf K "NoShelf") [clsOf K "NoShelf"] []
structure BoxAt (H:Hp) (b:Addr) (a q c:Int):Prop where
 at':H b=some (.lst [.int a,.int q,.int c])
 a0:0<=a
 q0:0<=q
 q1:q<2147483647
 c0:0<=c
theorem BoxAt.sb {H H':Hp} {b x:Addr} {a q c:Int} (B:BoxAt H b a q c) (s:SB x H H') (n:b≠x):BoxAt H' b a q c:=⟨s _ _ n B.at',B.a0,B.q0,B.q1,B.c0⟩
theorem BoxAt.same {H H':Hp} {b:Addr} {a q c:Int} (B:BoxAt H b a q c) (s:Same H H'):BoxAt H' b a q c:=⟨s _ _ B.at',B.a0,B.q0,B.q1,B.c0⟩
def ZdZ:Sp:=λvs H Q _=>∃ (b:Addr) (a q c n:Int),vs=[.ref b,.int n]/\BoxAt H b a q c/\c<1099511627776/\0<n/\n<1073741824 /\
 ∀ (r a' c':Int) (H':Hp),0<=r->r<n->BoxAt H' b a' q c'->c'<=c+1->SB b H H'->Q (.int r) H'
section
theorem em0 (a:Int) {b:Int} (h:0<b):0<=a % b:=Int.emod_nonneg a (by lia)
theorem em1 (a:Int) {b:Int} (h:0<b):a % b<b:=Int.emod_lt_of_pos a h
theorem ZnG (F:Fun K "_law_take" "_law_take" Zkx f fd) (T:Txt K mg):FnOk P w K mg base CX0 1 f fd Zdp ZdZ:=by
 refine F.ok sc_take (λvs H Q E h=>?_) (λcdv A outer s H vs Q E hr h=>?_)
 .obtain ⟨b,a,q,c,n,rfl,_⟩:=h
  rfl
 obtain ⟨b,a,q,c,n,rfl,B,hc,hn0,hn1,k⟩:=h
 have nd:=sc_take.nd
 refine ⟨_,(Zd (ps_if (Zw op_gt (pe_ix (Zn (K:=K) rfl) (pv 0) Zj (λ_ _=>rfl)) Zj (Zv _)) (Zd (Zby (Zr Zhw rfl T.jp_ ZhA (pc (pe_ix (Zn (K:=K) rfl) (pv 0) Zj (λ_ _=>rfl)) (pc (pv 1) Zb))) (Zad (K:=K) (n:=2) rfl rfl (Zs (Zeq (pv 0) Zj ZbR) (Zs (pgn 2 nd) Zac))))
   (Zi (Zt (pv 2)))) Zu)
   (Zd (Zby (pe_op ZF (pe_ix (Zn (K:=K) rfl) (pv 0) Zj (λ_ _=>rfl)) Zj) (Zeq (pv 0) Zj ZbR))
   (Zd (pst 3 nd (pe_op ZF Zj (pe_op ZbN (pe_ix (Zn (K:=K) rfl) (pv 0) Zj (λ_ _=>rfl)) (pe_ix (Zn (K:=K) rfl) (pv 0) Zj (λ_ _=>rfl)))))
   (Zd (pst 4 nd (pe_op Zbz (pe_op ZbN (pe_op ZF (pe_ix (Zn (K:=K) rfl) (pv 0) Zj (λ_ _=>rfl)) (pe_op ZbN Zj (pe_ix (Zn (K:=K) rfl) (pv 0) Zj (λ_ _=>rfl)))) (pv 3)) Zj))
   (Zd (pst 5 nd (pe_op Zbz (pe_op ZF (pe_op ZbN (pv 4) (pe_op ZF (pe_op Zbz (pv 4) Zj) Zj)) (pe_ix (Zn (K:=K) rfl) (pv 0) Zj (λ_ _=>rfl))) Zj))
   (Zi (Zt (pe_op Zbz (pe_op ZcO (pe_op Zbz (pe_op ZbN (pv 5) (pe_op ZF (pe_op Zbz (pv 5) Zj) Zj)) Zj) Zj) (pv 1))))))))),?_⟩
 have hb:=B.at'
 have hc0:=B.c0
 have hq0:=B.q0
 have hq1:=B.q1
 refine ⟨_,rfl,b,_,_,_,rfl,rfl,SqL.of hb,atI0,_,_,rfl,rfl,_,rfl,?_⟩
 refine ZaD (λha=>?_) (λha=>?_)
 .refine ⟨_,rfl,b,_,_,_,rfl,rfl,SqL.of hb,atI0,_,rfl,_,_,rfl,⟨hn0,hn1⟩,λp hp=>?_⟩
  have hbp:upd H p (.tup [.int (a / n),.int (a % n)]) b=some (.lst [.int a,.int q,.int c]):=by rw [Zc (Ze hb hp)]; exact hb
  refine ⟨p,_,rfl,SqT.of Za,rfl,_,_,rfl,⟨_,rfl,b,_,_,0,rfl,rfl,hbp,rfl,?_⟩⟩
  refine ⟨_,_,rfl,rfl,_,rfl,?_⟩
  exact k _ (a / n) c _ (em0 _ hn0) (em1 _ hn0) ⟨Za,Int.ediv_nonneg B.a0 (by lia),hq0,hq1,hc0⟩ (by lia) ((Zg hp _).sb b |>.trans (Zft b _ _))
 .refine ⟨_,rfl,b,_,_,_,rfl,rfl,SqL.of hb,atI2,_,_,rfl,rfl,_,rfl,b,_,_,2,rfl,rfl,hb,rfl,?_⟩
  have hb1:upd H b (.lst [.int a,.int q,.int (c+1)]) b=some (.lst [.int a,.int q,.int (c+1)]):=Za
  have i0:SqL K (upd H b (.lst [.int a,.int q,.int (c+1)])) b [.int a,.int q,.int (c+1)]:=SqL.of hb1
  refine ⟨_,rfl,b,_,_,_,rfl,rfl,i0,atI2,_,rfl,b,_,_,_,rfl,rfl,i0,atI2,_,_,rfl,rfl,.inl ⟨by lia,by lia⟩,_,_,rfl,rfl,?_⟩
  refine ⟨_,rfl,b,_,_,_,rfl,rfl,i0,atI1,_,rfl,b,_,_,_,rfl,rfl,i0,atI2,_,_,rfl,rfl,.inl ⟨by decide,by decide⟩,_,_,rfl,rfl,_,rfl,_,_,rfl,rfl,.inl ⟨by lia,by lia⟩,_,_,rfl,rfl,(by show (0:Int)<_; decide),?_⟩
  generalize hon:(q+39373 * (c+1)) * (69621+(c+1) * (c+1)) % 2147483587=on
  have on0:0<=on:=by rw [← hon]; exact em0 _ (by decide)
  have on1:on<2147483587:=by rw [← hon]; exact em1 _ (by decide)
  refine ⟨_,rfl,_,rfl,_,_,rfl,rfl,(by show (0:Int)<_; decide),_,_,rfl,rfl,_,_,rfl,rfl,.inl ⟨by lia,by lia⟩,_,rfl,b,_,_,_,rfl,rfl,i0,atI2,_,_,rfl,rfl,_,_,rfl,rfl,(by show (0:Int)<_; decide),?_⟩
  generalize htw:(on * (on % 30011+5)+(c+1)) % 2147483563=tw
  have tw0:0<=tw:=by rw [← htw]; exact em0 _ (by decide)
  have tw1:tw<2147483563:=by rw [← htw]; exact em1 _ (by decide)
  refine ⟨_,rfl,_,rfl,_,_,rfl,rfl,(by show (0:Int)<_; decide),_,_,rfl,rfl,_,_,rfl,rfl,.inl ⟨by lia,by lia⟩,_,_,rfl,rfl,(by show (0:Int)<_; decide),_,_,rfl,rfl,⟨by decide,by decide⟩,_,rfl,_,_,rfl,rfl,hn0,?_⟩
  exact k _ a (c+1) _ (em0 _ hn0) (em1 _ hn0) ⟨hb1,B.a0,hq0,hq1,by lia⟩ (by lia) (Zft b _ _)
end
section
def spBox (K:W.Frag):Sp:=λvs H Q _=>∃ (l:Addr) (ns:List Int) (k:Int),vs=[.ref l,.int k]/\SqL K H l (ns.map V.int)/\0<=k/\k<1000000 /\
 ∀ (r:Addr) (a q:Int) (H':Hp),H r=none->Same H H'->BoxAt H' r a q 0->Q (.ref r) H'
theorem ite01 (b:Bool) : -(2 ^ 64)<(if b then 1 else 0:Int)/\(if b then 1 else 0:Int)<2 ^ 64:=by cases b <;> decide
theorem ZiI {ns:List Int} {k:Int} (h0:0<=k) (h:k<(ns.length:Int)):∃ v:Int,atI (ns.map V.int) k=some (.int v):=by
 have hk:k.toNat<ns.length:=by lia
 have q:atI (ns.map V.int) ((k.toNat:Nat):Int)=some (.int ns[k.toNat]):=ZR (by rw [getElem?_map,getElem?_eq_getElem hk] <;> rfl)
 rw [show ((k.toNat:Nat):Int)=k by lia] at q
 exact ⟨_,q⟩
theorem ZoF (i:Int):0<=(if i<0 then -i else i):=by split <;> lia
theorem ZkF (i:Int) (b:Bool):0<=(if i<0 then -i else i) * (if b then 1 else 0:Int):=Int.mul_nonneg (ZoF i) (by cases b <;> decide)
theorem ZoG (F:Fun K "_law_box" "_law_box" s_box f fd) (T:Txt K mg):FnOk P w K mg base CX0 1 f fd P_box (spBox K):=by
 refine F.ok sc_box (λvs H Q E h=>?_) (λcdv A outer s H vs Q E hr h=>?_)
 .obtain ⟨l,ns,k,rfl,_⟩:=h
  rfl
 obtain ⟨l,ns,k,rfl,hS,hk0,hk1,kk⟩:=h
 have nd:=sc_box.nd
 refine ⟨_,(Zd (pst 2 nd (Zbx (Zw op_lt (pv 1) (Zr (Zx (K:=K) rfl) rfl T.vp_ PySem.boot_len (pc (pv 0) Zb)) (Zv _)) (pe_ix (Zn (K:=K) rfl) (pv 0) (pv 1) (λ_ _=>rfl)) Zj))
   (Zi (Zt (ZaY (pc (pe_op ZbN (Zr Zih rfl T.j0_ Ziq (pc (pv 2) Zb)) (ZW Zdd rfl T.jl_ Zcm (pc (ZaN op_ge (Zr Zih rfl T.j0_ Ziq (pc (pv 2) Zb)) (pe_op ZjG Zj Zj) (Zv _)) Zb))) (pc (pe_op Zbz (pe_op ZbN (pe_op ZF (pe_op ZF (pe_op Zbz (pv 2) Zj) (pe_op ZbN Zj (pv 1))) Zj) Zj) Zj) (pc Zj Zb))))))),?_⟩
 refine ⟨_,rfl,_,rfl,l,_,rfl,.inl hS,_,_,rfl,rfl,_,rfl,?_⟩
 refine ZaD (λc=>?_) (λc=>?_)
 .rw [length_map] at c
  obtain ⟨v,hv⟩:=ZiI hk0 c
  refine ⟨_,rfl,_,rfl,l,_,_,_,rfl,rfl,hS,hv,?_⟩
  refine ⟨_,rfl,_,rfl,_,rfl,_,rfl,_,_,rfl,rfl,⟨by decide,by decide,by decide⟩,_,_,rfl,rfl,.inr ⟨_,rfl,_,_,rfl,rfl,.inr (ite01 _),?_⟩⟩
  refine ⟨_,rfl,_,_,rfl,rfl,(by show (0:Int)<_; decide),_,rfl,_,_,rfl,rfl,.inl ⟨by decide,by decide⟩,_,_,rfl,rfl,_,_,rfl,rfl,_,_,rfl,rfl,.inr ⟨by decide,by decide⟩,_,_,rfl,rfl,(by show (0:Int)<_; decide),(by show 3<=sizeLine; decide),λr hr=>?_⟩
  exact kk r _ _ _ hr (Zg hr _) ⟨Za,ZkF _ _,em0 _ (by decide),em1 _ (by decide),Int.le_refl _⟩
 .refine ⟨_,rfl,_,rfl,_,rfl,_,rfl,_,_,rfl,rfl,⟨by decide,by decide,by decide⟩,_,_,rfl,rfl,.inr ⟨_,rfl,_,_,rfl,rfl,.inr (ite01 _),?_⟩⟩
  refine ⟨_,rfl,_,_,rfl,rfl,(by show (0:Int)<_; decide),_,rfl,_,_,rfl,rfl,.inl ⟨by decide,by decide⟩,_,_,rfl,rfl,_,_,rfl,rfl,_,_,rfl,rfl,.inr ⟨by decide,by decide⟩,_,_,rfl,rfl,(by show (0:Int)<_; decide),(by show 3<=sizeLine; decide),λr hr=>?_⟩
  exact kk r _ _ _ hr (Zg hr _) ⟨Za,ZkF _ _,em0 _ (by decide),em1 _ (by decide),Int.le_refl _⟩
def ZiJ (K:W.Frag):Sp:=λvs H Q _=>∃ (a:Addr) (ns:List Int) (n:Nat),vs=[.ref a,.int (n:Int)]/\SqL K H a (ns.map V.int)/\ns.length<=63/\0<n/\n<=63 /\
 ∀ (r:Addr) (ms:List Int) (H':Hp),H r=none->Same H H'->H' r=some (.lst (ms.map V.int))->ms.length=min n ns.length->Q (.ref r) H'
theorem ZkG (ns:List Int) (lo hi:Option Int):cutV (ns.map V.int) lo hi=((ns.drop (HT.sIx ns.length 0 lo)).take (HT.sIx ns.length ns.length hi - HT.sIx ns.length 0 lo)).map V.int:=by
 unfold cutV
 rw [length_map,← List.map_drop,← List.map_take]
theorem Zem (ms:List Int) (j:Nat) (v:Int):(ms.map V.int).set j (.int v)=(ms.set j v).map V.int:=by rw [map_set]
theorem ZkH {n:Nat} {i:Int} (h0:0<=i) (h:i<n):ixN n i=some i.toNat:=by unfold ixN; rw [if_pos h0,if_pos h]
theorem ZoH {ms:List Int} {i:Nat} {x:V} (h:(ms.map V.int)[i]?=some x):∃ z,x=V.int z/\i<ms.length:=by
 rw [getElem?_map] at h
 cases e:ms[i]? with
 | none=>rw [e] at h; cases h
 | some z=>rw [e] at h; exact ⟨z,(Option.some.inj h).symm,(List.getElem?_eq_some_iff.mp e).1⟩
theorem ZkI (F:Fun K "_law_folded" "_law_folded" ZfR f fd) (T:Txt K mg):FnOk P w K mg base CX0 1 f fd ZfS (ZiJ K):=by
 refine F.ok sc_folded (λvs H Q E h=>?_) (λcdv A outer s H vs Q E hr h=>?_)
 .obtain ⟨a,ns,n,rfl,_⟩:=h
  rfl
 obtain ⟨a,ns,n,rfl,hS,h63,hn0,hn1,k⟩:=h
 have nd:=sc_folded.nd
 refine ⟨_,(Zd (pst 2 nd (ZW (ZaZ (K:=K) rfl) rfl T.vg_ ZV (pc (ZfF (Ziu (K:=K) rfl) (pv 0) ZjR (ZfE (pv 1))) Zb)))
   (Zd (Zcj PassesOwn.never rfl (Zhz rfl T.vo_ (pc (ZfF (Ziu (K:=K) rfl) (pv 0) (ZfE (pv 1)) (ZfE Zj)) Zb)) (Zad (K:=K) (n:=2) rfl rfl (Zs (pgn 3 nd) (Zs (pgn 4 nd) Zac))) (Zi (Zby (pe_op ZF (pe_ix (Zn (K:=K) rfl) (pv 2) (pe_op Zbz (pv 3) (pv 1)) (λ_ _=>rfl)) (pe_op ZbN (pv 4) (pe_op ZF (pv 3) Zj))) (Zeq (pv 2) (pe_op Zbz (pv 3) (pv 1)) ZbR))))
   (Zi (Zt (pv 2))))),?_⟩
 refine ⟨_,rfl,_,rfl,_,rfl,a,_,rfl,hS,λp hp=>?_⟩
 have s1:=Zg hp (.lst (cutV (ns.map V.int) none (some (n:Int))))
 refine ⟨p,_,rfl,.inl (SqL.of Za),λr hr1=>?_⟩
 have s2:=s1.trans (Zg hr1 (.lst (cutV (ns.map V.int) none (some (n:Int)))))
 have hrH:H r=none:=s1.free hr1
 rw [ZkG] at *
 generalize hms:(ns.drop (HT.sIx ns.length 0 none)).take (HT.sIx ns.length ns.length (some (n:Int)) - HT.sIx ns.length 0 none)=ms at *
 have lms:ms.length=min n ns.length:=by
  rw [← hms,HT.sIx_none,HT.sIx_nat,length_take,length_drop]; lia
 generalize hH2:upd (upd H p (.lst (ms.map V.int))) r (.lst (ms.map V.int))=H2 at *
 have h2r:H2 r=some (.lst (ms.map V.int)):=by rw [← hH2]; exact Za
 refine ⟨_,rfl,_,rfl,_,rfl,_,rfl,a,_,rfl,s2.seq hS,λt ht=>?_⟩
 rw [ZkG]
 generalize hws:(ns.drop (HT.sIx ns.length 0 (some (n:Int)))).take (HT.sIx ns.length ns.length (some 63) - HT.sIx ns.length 0 (some (n:Int)))=ws
 have lws:0<ws.length->n<ns.length:=λh=>by
  rw [← hws,length_take,length_drop,HT.sIx_nat] at h; lia
 have lw63:ws.length<=63:=by rw [← hws,length_take,length_drop]; lia
 have s3:=s2.trans (Zg ht (.lst (ws.map V.int)))
 have nrt:r≠t:=Ze h2r ht
 refine ⟨t,rfl,⟨_,SqL.of Za⟩,ZfJ (K:=K) (a:=t) (xs:=ws.map V.int) (λi σ H'=>∃ (ms':List Int) (v3 v4:Option V),σ=[some (.ref a),some (.int n),some (.ref r),v3,v4]/\ms'.length=min n ns.length/\H' r=some (.lst (ms'.map V.int))/\H' t=some (.lst (ws.map V.int))/\Same H H')
  ⟨ms,none,none,rfl,lms,by rw [Zc nrt]; exact h2r,Za,s3⟩ (λi σ H' _ ⟨_,_,_,_,_,_,q,_⟩=>SqL.of q) ?_ ?_⟩
 .rintro i x u σ H' hi ⟨ms',v3,v4,rfl,lm,h1,h2,s4⟩ hu
  obtain ⟨z,rfl,hlt⟩:=ZoH hi
  have hnl:=lws (by lia)
  have s5:=Zg hu (.tup [.int (i:Int),.int z])
  refine ⟨u,_,rfl,SqT.of Za,rfl,_,_,rfl,_,_,rfl,rfl,?_⟩
  have m0:0<=(i:Int) % (n:Int):=em0 _ (by lia)
  have m1:(i:Int) % (n:Int)<(n:Int):=em1 _ (by lia)
  obtain ⟨v,hv⟩:=ZiI (ns:=ms') m0 (by lia)
  refine ⟨_,rfl,_,rfl,_,rfl,_,_,rfl,rfl,(by show (0:Int)<_; lia),r,_,_,_,rfl,rfl,SqL.of (s5 _ _ h1),hv,?_⟩
  refine ⟨_,rfl,_,rfl,_,_,rfl,rfl,_,_,rfl,rfl,.inr ⟨by lia,by lia⟩,_,_,rfl,rfl,?_⟩
  refine ⟨_,rfl,_,rfl,_,rfl,_,_,rfl,rfl,(by show (0:Int)<_; lia),r,_,_,((i:Int) % (n:Int)).toNat,rfl,rfl,s5 _ _ h1,ZkH m0 (by rw [length_map]; lia),?_⟩
  refine ⟨ms'.set ((i:Int) % (n:Int)).toNat (v+z * ((i:Int)+2)),_,_,rfl,by rw [length_set]; exact lm,by rw [Za,Zem],?_,?_⟩
  .rw [Zc (Ne.symm nrt)]; exact s5 _ _ h2
  .intro b o e
   rw [Zc (Ze e hrH)]
   exact s5 _ _ (s4 _ _ e)
 .rintro σ H' ⟨ms',v3,v4,rfl,lm,h1,h2,s4⟩
  exact ⟨_,rfl,k r ms' H' hrH s4 h1 lm⟩
end
theorem hide {t u:TS} {D:Ends} {σ:St} {H:Hp} (h:∀ u',u'=u->tSeq t u' D σ H):tSeq t u D σ H:=h u rfl
theorem cpA {te:TE} {g:TG} {u:TS} {D:Ends} {σ:St} {H:Hp} (Post:V->Hp->Prop) (h1:∀ Q':VK,(∀ v H1,Post v H1->Q' v H1)->te σ H Q') (h2:∀ v H1,Post v H1->g v σ H1 (u D)):tSeq (tAsg te g) u D σ H:=h1 _ h2
theorem cpI {ts u:TS} {D:Ends} {σ:St} {H:Hp} (Post:St->Hp->Prop) (h1:∀ D':Ends,D'.rt=D.rt->(∀ σ1 H1,Post σ1 H1->D'.nx σ1 H1)->ts D' σ H) (h2:∀ σ1 H1,Post σ1 H1->u D σ1 H1):tSeq ts u D σ H:=h1 _ rfl h2
theorem cpIfS {tt:TT} {ta tb:TS} {D:Ends} {σ:St} {H:Hp} (Post:Bool->Hp->Prop) (h1:∀ Q':Bool->Hp->Prop,(∀ v H1,Post v H1->Q' v H1)->tt σ H Q') (h2:∀ c H1,Post c H1->if c=true then ta D σ H1 else tb D σ H1):tIfS tt ta tb D σ H:=h1 _ h2
theorem cpOr {t u:TT} {σ:St} {H:Hp} {Q:Bool->Hp->Prop} (Post:Bool->Hp->Prop) (h1:∀ Q':Bool->Hp->Prop,(∀ v H1,Post v H1->Q' v H1)->t σ H Q') (h2:∀ c H1,Post c H1->if c=true then Q true H1 else u σ H1 Q):tOr t u σ H Q:=h1 _ h2
theorem Zen {b l:Addr} {H G:Hp} {xs:List V} (s:SB b H G) (hb:G b=some (.lst xs)) (hl:G l=none):H l=none:=by
 cases e:H l with
 | none=>rfl
 | some o =>
  by_cases h:l=b
  .rw [h,hb] at hl; cases hl
  .rw [s _ _ h e] at hl; cases hl
theorem ZoI {ns:List Int} {k:Int} (h0:0<=k) (h:k<(ns.length:Int)):∃ v:Int,atI (ns.map V.int) k=some (.int v)/\v∈ns:=by
 have hk:k.toNat<ns.length:=by lia
 have q:atI (ns.map V.int) ((k.toNat:Nat):Int)=some (.int ns[k.toNat]):=ZR (by rw [getElem?_map,getElem?_eq_getElem hk] <;> rfl)
 rw [show ((k.toNat:Nat):Int)=k by lia] at q
 exact ⟨_,q,getElem_mem hk⟩
theorem Zhb (ns:List Int):(ns.map V.int).all flatV=true:=by
 rw [all_eq_true]
 intro x hx
 obtain ⟨n,_,rfl⟩:=List.mem_map.mp hx
 rfl
theorem Zmf {n:Nat} (h:0<n):ixN n (-1)=some (n - 1):=by
 unfold ixN
 rw [if_neg (by decide),if_pos (by lia)]
 congr 1
 lia
theorem ZhJ {ns:List Int} {j:Nat} {v x:Int} (h:x∈ns.set j v):x∈ns\/x=v:=by
 rcases List.mem_or_eq_of_mem_set h with h | h
 .exact .inl h
 .exact .inr h
theorem ZdG {i j:Int} {A B:Prop} (h1:i=j->A) (h2:¬ i=j->B):if decide (V.int i=V.int j)=true then A else B :=
 ZaD (λe=>h1 (by injection e)) (λe=>h2 λz=>e (by rw [z]))
theorem ifF {b:Bool} {A B:Prop} (h:b=false) (hB:B):if b=true then A else B:=by subst h; rw [if_neg Bool.false_ne_true]; exact hB
theorem ifT {b:Bool} {A B:Prop} (h:b=true) (hA:A):if b=true then A else B:=by subst h; rw [if_pos rfl]; exact hA
theorem ZfU {α:Type} {xs:List α} {i:Int} (h0:0<=i) (h1:i<(xs.length:Int)):∃ v,atI xs i=some v/\v∈xs:=by
 have hk:i.toNat<xs.length:=by lia
 have q:atI xs ((i.toNat:Nat):Int)=some xs[i.toNat]:=ZR (getElem?_eq_getElem hk)
 rw [show ((i.toNat:Nat):Int)=i by lia] at q
 exact ⟨_,q,getElem_mem hk⟩
theorem ZmG (x y:Int) (k:Bool):∃ n:Int,atI [V.int x,V.int y] (if k=true then 1 else 0)=some (.int n)/\(n=x\/n=y):=by
 cases k with
 | true=>exact ⟨y,atI1,.inr rfl⟩
 | false=>exact ⟨x,atI0,.inl rfl⟩
theorem pick2 (x y r:Int) (h0:0<=r) (h1:r<2):∃ n:Int,atI [V.int x,V.int y] r=some (.int n)/\(n=x\/n=y):=by
 have h:r=0\/r=1:=by lia
 rcases h with rfl | rfl
 .exact ⟨x,atI0,.inl rfl⟩
 .exact ⟨y,atI1,.inr rfl⟩
theorem ZoJ (r:Int) (h0:0<=r) (h1:r<4):∃ n:Int,atI [V.int 1,V.int 1,V.int 12,V.int 24] r=some (.int n)/\(n=1\/n=12\/n=24):=by
 obtain ⟨x,hx,m⟩:=ZfU (xs:=[V.int 1,V.int 1,V.int 12,V.int 24]) h0 (by show r<((4:Nat):Int); lia)
 simp only [mem_cons,not_mem_nil,or_false] at m
 rcases m with rfl | rfl | rfl | rfl
 .exact ⟨_,hx,.inl rfl⟩
 .exact ⟨_,hx,.inl rfl⟩
 .exact ⟨_,hx,.inr (.inl rfl)⟩
 .exact ⟨_,hx,.inr (.inr rfl)⟩
theorem pick5 (r:Int) (h0:0<=r) (h1:r<5):∃ v,atI [V.int 1,V.int 1,V.int 2,V.int 3,V.int 4] r=some (.int v)/\1<=v/\v<=64:=by
 obtain ⟨x,hx,m⟩:=ZfU (xs:=[V.int 1,V.int 1,V.int 2,V.int 3,V.int 4]) h0 (by show r<((5:Nat):Int); lia)
 simp only [mem_cons,not_mem_nil,or_false] at m
 rcases m with rfl | rfl | rfl | rfl | rfl <;> exact ⟨_,hx,by decide,by decide⟩
def Rule (z:Str):Prop:=z = "old" \/ z = "come" \/ z = "few"
theorem pickR (r:Int) (h0:0<=r) (h1:r<3):∃ z:Str,atI [V.str "old",V.str "come",V.str "few"] r=some (.str z)/\Rule z:=by
 obtain ⟨x,hx,m⟩:=ZfU (xs:=[V.str "old",V.str "come",V.str "few"]) h0 (by show r<((3:Nat):Int); lia)
 simp only [mem_cons,not_mem_nil,or_false] at m
 rcases m with rfl | rfl | rfl
 .exact ⟨_,hx,.inl rfl⟩
 .exact ⟨_,hx,.inr (.inl rfl)⟩
 .exact ⟨_,hx,.inr (.inr rfl)⟩
theorem ZkJ {s:Int} (h0:1<=s) (h1:s<=16):555<=9999 / s/\9999 / s<=9999/\1<=(if 10000 / s - 480 > 1 then 10000 / s - 480 else 1)/\(if 10000 / s - 480 > 1 then 10000 / s - 480 else 1)+455<=9999 / s:=by
 have key:∀ n:Fin 17,1<=(n.val:Int)->(555<=9999 / (n.val:Int)/\9999 / (n.val:Int)<=9999/\1<=(if 10000 / (n.val:Int) - 480 > 1 then 10000 / (n.val:Int) - 480 else 1)/\(if 10000 / (n.val:Int) - 480 > 1 then 10000 / (n.val:Int) - 480 else 1)+455<=9999 / (n.val:Int)):=by decide +kernel
 have e:((⟨s.toNat,by lia⟩:Fin 17).val:Int)=s:=by show ((s.toNat:Nat):Int)=s; lia
 have q:=key ⟨s.toNat,by lia⟩ (by rw [e]; exact h0)
 rw [e] at q
 exact q
def Bds (t:Int) (ns:List Int):Prop:=∀ n∈ns,0<=n/\n<=t
def Low (t:Int) (ns:List Int):Prop:=∃ x∈ns,x+1<=t
theorem ZmH {ns:List Int} {k:Int} (h0:0<=k) (h:k<(ns.length:Int)):∃ v:Int,atI (ns.map V.int) k=some (.int v)/\ns[k.toNat]?=some v:=by
 have hk:k.toNat<ns.length:=by lia
 have q:atI (ns.map V.int) ((k.toNat:Nat):Int)=some (.int ns[k.toNat]):=ZR (by rw [getElem?_map,getElem?_eq_getElem hk] <;> rfl)
 rw [show ((k.toNat:Nat):Int)=k by lia] at q
 exact ⟨_,q,getElem?_eq_getElem hk⟩
theorem Zmg {ns:List Int} {i j:Nat} {x1 x2 x:Int} (h1:ns[j]?=some x1) (h2:ns[i]?=some x2) (h:x∈ns):x∈(ns.set i x1).set j x2:=by
 obtain ⟨p,hp⟩:=List.getElem?_of_mem h
 have li:=(List.getElem?_eq_some_iff.mp h2).1
 have lj:=(List.getElem?_eq_some_iff.mp h1).1
 by_cases e:p=i
 .subst e
  rw [h2] at hp; cases hp
  exact mem_of_getElem? (getElem?_set_self (i:=j) (by rw [length_set]; exact lj))
 .by_cases e':p=j
  .subst e'
   rw [h1] at hp; cases hp
   refine mem_of_getElem? (i:=i) ?_
   rw [getElem?_set_ne e,getElem?_set_self li]
  .refine mem_of_getElem? (i:=p) ?_
   rw [getElem?_set_ne (λz=>e' z.symm),getElem?_set_ne (λz=>e z.symm)]
   exact hp
section
def ZiK:Sp:=λvs H Q _=>∃ (b:Addr) (a q c s:Int),vs=[.ref b,.int s]/\BoxAt H b a q c/\c<500000000/\1<=s/\s<=16 /\
 ∀ (l:Addr) (ns:List Int) (a' c':Int) (H':Hp),H l=none->H' l=some (.lst (ns.map V.int))->3<=ns.length->ns.length<=20->Bds (9999 / s) ns->Low (9999 / s) ns->BoxAt H' b a' q c'->c'<=c+40->SB b H H'->Q (.ref l) H'
theorem Zff (F:Fun K "_law_some_boards" "_law_some_boards" Zbc f fd) (T:Txt K mg) (qd_:Def P w K mg base "_law_take" 1 Zdp ZdZ):FnOk P w K mg base CX0 2 f fd Zcf ZiK:=by
 refine F.ok sc_some_boards (λvs H Q E h=>?_) (λcdv A outer st H vs Q E hr h=>?_)
 .obtain ⟨b,a,q,c,s,rfl,_⟩:=h
  rfl
 obtain ⟨b,a,q,c,s,rfl,B,hc,hs0,hs1,k⟩:=h
 have nd:=sc_some_boards.nd
 obtain ⟨top0,top1,m0,m1⟩:=ZkJ hs0 hs1
 refine ⟨_,(Zd (pst 2 nd (pe_op ZF Zj (Zo qd_ hr.m rfl (pc (pv 0) (pc (pe_ix (Zn (K:=K) rfl) (ZaY (pc Zj (pc Zj Zb))) (ZW Zdd rfl T.jl_ Zcm (pc (ZaN op_eq (Zo qd_ hr.m rfl (pc (pv 0) (pc Zj Zb))) Zj (Zv _)) Zb)) (λ_ _=>rfl)) Zb)))))
   (Zd (Zby (Zbh (pc (Zo qd_ hr.m rfl (pc (pv 0) (pc Zj Zb))) (pc (Zo qd_ hr.m rfl (pc (pv 0) (pc Zj Zb))) Zb))) (Zad (K:=K) (n:=2) rfl rfl (Zs (pgn 3 nd) (Zs (pgn 4 nd) Zac))))
   (Zd (pst 5 nd (Zbx (Zw op_lt (pv 4) Zj (Zv _)) (pv 4) (Zo qd_ hr.m rfl (pc (pv 0) (pc (pe_ix (Zn (K:=K) rfl) (ZaY (pc Zj (pc (Zr (Zgv rfl) rfl T.j2_ Zip (pc Zj (pc (pe_op ZcL (pe_op ZcO Zj (pv 1)) Zj) Zb))) Zb))) (pe_op ZcL (pv 4) Zj) (λ_ _=>rfl)) Zb)))))
   (Zd (Zik 6 (Zag (osc:=(Zh Zbc)) (oN:=N_some_boards) (N:=["_law_k", "_law_first", "_law_way"]) (own:=1) (js:=[5,3]) (by decide +kernel) rfl rfl) rfl nd rfl rfl (Zbg rfl T.q2_ (pc (pv 2) Zb)) (λ_ _ _ _ _ _=>(pgn 0 (show List.Nodup (["_law_k", "_law_first", "_law_way"]:List Str) by decide +kernel))) (λ_ _ _ _ _ _=>(pe_op ZF (pv 1) (pe_op ZbN (pe_ix (Zn (K:=K) rfl) (ZaY (pc Zj (pc Zj (pc Zj (pc Zj Zb))))) (pv 2) (λ_ _=>rfl)) (pv 0)))))
   (Zd (pst 7 nd (Zbx (Zw op_eq (Zo qd_ hr.m rfl (pc (pv 0) (pc Zj Zb))) Zj (Zv _)) (pe_op ZcO Zj (pv 1)) (Zo qd_ hr.m rfl (pc (pv 0) (pc (pe_op ZF Zj (pe_op ZcO Zj (pv 1))) Zb)))))
   (Zd (ps_if (PW.pt (pw_or (PW.pt (Zid (Zw op_eq (pv 3) Zj (Zv _)) (ZfB (Zw (Zdh (K:=K) rfl) (pv 7) (pv 6) rfl)))) (Zgt (PW.pt (Zid (Zw op_eq (pv 7) (pe_op ZcO Zj (pv 1)) (Zv _)) (ZfB (Zw (Zdh (K:=K) rfl) (pv 7) (pv 6) rfl))))))) (Zi (Zby (pv 7) (Zeq (pv 6) (pe_un Zer Zj) ZbR))) Zu)
   (Zd (Zcj PassesOwn.never rfl (Zbg rfl T.q2_ (pc (pe_op ZcL (pv 2) Zj) Zb)) (pgn 8 nd) (Zd (pst 9 nd (pe_op ZF (pv 8) (Zo qd_ hr.m rfl (pc (pv 0) (pc (pe_op ZcL (pv 2) (pv 8)) Zb)))))
   (Zi (Zby (Zbh (pc (pe_ix (Zn (K:=K) rfl) (pv 6) (pv 9) (λ_ _=>rfl)) (pc (pe_ix (Zn (K:=K) rfl) (pv 6) (pv 8) (λ_ _=>rfl)) Zb))) (Zad (K:=K) (n:=2) rfl rfl (Zs (Zeq (pv 6) (pv 8) ZbR) (Zs (Zeq (pv 6) (pv 9) ZbR) Zac)))))))
   (Zi (Zt (pv 6)))))))))),?_⟩
 generalize hm:(if 10000 / s - 480 > 1 then 10000 / s - 480 else 1)=m at m0 m1
 generalize ht:(9999:Int) / s=top at *
 refine hide λuu ee=>?_
 refine ⟨_,rfl,(by show 2<=sizeLine; decide),λp1 hp1=>⟨_,rfl,b,a,q,c,6,rfl,B.same (Zg hp1 _),by lia,by decide,by decide,λr1 a1 c1 H1 r10 r11 B1 hc1 s1=>⟨rfl,.inr ⟨_,rfl,?_⟩⟩⟩⟩
 have q1:b≠p1:=Ze B.at' hp1
 obtain ⟨n,hn,hn'⟩:=ZmG 5 18 (decide (V.int r1=V.int 0))
 refine ⟨p1,_,_,_,rfl,rfl,SqL.of (s1 _ _ (Ne.symm q1) Za),hn,b,a1,q,c1,n,rfl,B1,by lia,by lia,by lia,λr2 a2 c2 H2 r20 r21 B2 hc2 s2=>⟨_,_,rfl,rfl,?_⟩⟩
 have mn0:3<=3+r2:=by lia
 have mn1:3+r2<=20:=by lia
 have u2:SB b H H2:=(((Zg hp1 _).sb b).trans s1).trans s2
 dsimp only [gName]
 subst ee
 try dsimp only
 refine hide λuu ee=>?_
 refine ⟨_,rfl,b,a2,q,c2,4,rfl,B2,by lia,by decide,by decide,λr3 a3 c3 H3 r30 r31 B3 hc3 s3=>?_⟩
 refine ⟨_,rfl,b,a3,q,c3,4,rfl,B3,by lia,by decide,by decide,λr4 a4 c4 H4' r40 r41 B4' hc4 s4=>⟨(by show 2<=sizeLine; decide),λp4 hp4=>⟨p4,_,rfl,SqT.of Za,rfl,_,_,rfl,_,_,rfl,rfl,?_⟩⟩⟩
 have B4:=B4'.same (Zg hp4 (.tup [.int r3,.int r4]))
 have u4:SB b H (upd H4' p4 (.tup [.int r3,.int r4])):=((u2.trans s3).trans s4).trans ((Zg hp4 _).sb b)
 generalize upd H4' p4 (.tup [.int r3,.int r4])=H4 at *
 subst ee
 try dsimp only
 refine cpA (λv G=>∃ z a' c',v=.int z/\0<=z/\z+456<=top/\BoxAt G b a' q c'/\c'<=c4+1/\SB b H G) (λQ' k'=>?_) ?_
 .refine ⟨_,rfl,_,_,rfl,rfl,_,rfl,ZaD (λc2'=>⟨_,rfl,k' _ _ ⟨_,a4,c4,rfl,r40,by lia,B4,by lia,u4⟩⟩) (λc2'=>?_)⟩
  refine ⟨_,rfl,_,rfl,_,_,rfl,rfl,⟨by lia,by lia⟩,_,_,rfl,rfl,_,_,rfl,(by show 2<=sizeLine; decide),λp2 hp2=>?_⟩
  have q2:b≠p2:=Ze B4.at' hp2
  rw [hm]
  obtain ⟨n2,hn2,hn2'⟩:=pick2 100 m (r4 - 2) (by lia) (by lia)
  refine ⟨_,rfl,_,_,rfl,rfl,p2,_,_,_,rfl,rfl,SqL.of Za,hn2,b,a4,q,c4,n2,rfl,B4.same (Zg hp2 _),by lia,by lia,by lia,λr5 a5 c5 H5 r50 r51 B5 hc5 s5=>?_⟩
  exact k' _ _ ⟨r5,a5,c5,rfl,r50,by lia,B5,by lia,u4.trans (((Zg hp2 _).sb b).trans s5)⟩
 rintro _ H5 ⟨z,a5,c5,rfl,z0,z1,B5,hc5,u5⟩
 dsimp only [gName]
 refine hide λuu ee=>?_
 refine ⟨_,rfl,_,rfl,by lia,by lia,λl hl=>?_⟩
 have hlH:H l=none:=Zen u5 B5.at' hl
 have nlb:l≠b:=Ne.symm (Ze B5.at' hl)
 have hmn:(3+r2).toNat<=20:=by lia
 refine ZcD (lo:=0) (n:=(3+r2).toNat) (l:=l) (λj ys σ G=>∃ (v0:Option V) (ns:List Int),σ=[v0,some (.int z),some (.int r3)]/\ys=ns.map V.int/\ns.length=j/\(Bds top ns/\(0<j->ns[0]?=some z))/\G l=some (.lst ys)/\Same H5 G)
  ⟨none,[],rfl,rfl,rfl,⟨λn hn=>(nomatch hn),λz=>absurd z (Nat.lt_irrefl 0)⟩,Za,Zg hl _⟩ ?_ ?_
 .rintro j ys σ G hj hy ⟨v0,ns,rfl,rfl,hj',⟨hb',hz'⟩,h1,h2⟩
  refine ⟨_,rfl,(by show 4<=sizeLine; decide),λp hp=>?_⟩
  obtain ⟨n4,hn4,hn4'⟩:=ZoJ r3 r30 r31
  have np:l≠p:=Ze h1 hp
  have j20:(j:Int)<=19:=by lia
  refine ⟨_,rfl,p,_,_,_,rfl,rfl,SqL.of Za,hn4,_,rfl,_,_,rfl,rfl,.inl ⟨by lia,by lia⟩,_,_,rfl,rfl,CNx.of (Nat.le_trans hmn (by decide)) hj hy (by rw [Zc np]; exact h1) ⟨_,ns++[z+n4 * (0+(j:Int))],rfl,by rw [map_append]; rfl,by rw [length_append,hj']; rfl,⟨λx hx=>?_,λ_=>?_⟩,Za,λe o y=>?_⟩⟩
  .rcases List.mem_append.mp hx with h | h
   .exact hb' x h
   .have ex:x=z+n4 * (0+(j:Int)):=by simpa using h
    subst ex
    rcases hn4' with rfl | rfl | rfl
    .exact ⟨by lia,by lia⟩
    .exact ⟨by lia,by lia⟩
    .exact ⟨by lia,by lia⟩
  .by_cases j0:j=0
   .have:ns=[]:=List.eq_nil_of_length_eq_zero (by lia)
    rw [this,j0]
    show some (z+n4 * (0+((0:Nat):Int)))=some z
    rw [show (0:Int)+((0:Nat):Int)=0 by lia,Int.mul_zero,Int.add_zero]
   .rw [getElem?_append_left (by lia)]
    exact hz' (by lia)
  .rw [Zc (Ze y hl)]
   exact Zg hp _ _ _ (h2 _ _ y)
 rintro ys σ G hy ⟨v0,ns,rfl,rfl,hj',⟨hb',hz'⟩,h1,h2⟩
 have B6:=B5.same h2
 have u6:SB b H G:=u5.trans (h2.sb b)
 have ln3:3<=ns.length:=by lia
 have ln20:ns.length<=20:=by lia
 have hz0:ns[0]?=some z:=hz' (by lia)
 dsimp only [gName]
 subst ee
 try dsimp only
 refine cpA (λv G'=>∃ z a' c',v=.int z/\0<=z/\z<=top/\BoxAt G' b a' q c'/\c'<=c5+2/\SB b G G') (λQ' k'=>?_) ?_
 .refine ⟨_,rfl,b,a5,q,c5,5,rfl,B6,by lia,by decide,by decide,λr7 a7 c7 H7 r70 r71 B7 hc7 s7=>⟨rfl,_,rfl,ZaD (λ_=>?_) (λ_=>?_)⟩⟩
  .refine ⟨_,rfl,_,_,rfl,rfl,⟨by lia,by lia⟩,?_⟩
   exact k' _ _ ⟨_,a7,c7,rfl,by rw [ht]; lia,by rw [ht]; lia,B7,by lia,s7⟩
  .refine ⟨_,rfl,_,rfl,_,_,rfl,rfl,⟨by lia,by lia⟩,_,_,rfl,rfl,b,a7,q,c7,_,rfl,B7,by lia,by rw [ht]; lia,by rw [ht]; lia,λr8 a8 c8 H8 r80 r81 B8 hc8 s8=>?_⟩
   exact k' _ _ ⟨_,a8,c8,rfl,r80,by rw [ht] at r81; lia,B8,by lia,s7.trans s8⟩
 rintro _ H7 ⟨fr,a7,c7,rfl,fr0,fr1,B7,hc7,s7⟩
 have h7:=s7 _ _ nlb h1
 have u7:SB b H H7:=u6.trans s7
 refine cpI (λσ G'=>∃ ns':List Int,σ=[some (.ref b),some (.int s),some (.int (3+r2)),some (.int r3),some (.int r4),some (.int z),some (.ref l),some (.int fr),none,none]/\G' l=some (.lst (ns'.map V.int))/\ns'.length=ns.length/\(Bds top ns'/\Low top ns')/\BoxAt G' b a7 q c7/\SB b H G') (λD' _ k'=>?_) ?_
 .refine cpIfS (λ_ G'=>G'=H7) (λQ' k''=>?_) ?_
  .refine cpOr (λ_ G'=>G'=H7) (λQ'' k3=>?_) ?_
   .exact ⟨_,rfl,rfl,_,rfl,ZaD (λ_=>⟨_,rfl,_,rfl,l,_,rfl,.inl (SqL.of h7),rfl,Zhb _,_,rfl,k3 _ _ rfl⟩) (λ_=>k3 _ _ rfl)⟩
   .rintro cb _ rfl
    cases cb with
    | true=>exact ifT rfl (k'' _ _ rfl)
    | false=>exact ifF rfl ⟨_,rfl,_,rfl,_,_,rfl,rfl,⟨by lia,by lia⟩,rfl,_,rfl,ZaD (λ_=>⟨_,rfl,_,rfl,l,_,rfl,.inl (SqL.of h7),rfl,Zhb _,_,rfl,k'' _ _ rfl⟩) (λ_=>k'' _ _ rfl)⟩
  .rintro cb _ rfl
   cases cb with
   | false=>exact ifF rfl (k' _ _ ⟨ns,rfl,h7,rfl,⟨hb',z,mem_of_getElem? hz0,by lia⟩,B7,u7⟩)
   | true =>
    refine ifT rfl ⟨_,rfl,_,rfl,_,rfl,l,_,_,_,rfl,rfl,h7,Zmf (by rw [length_map]; lia),k' _ _ ⟨ns.set (ns.length - 1) fr,rfl,?_,length_set,⟨λx hx=>?_,z,?_,by lia⟩,B7.sb (Zft l _ _) (Ne.symm nlb),λe o n' y=>?_⟩⟩
    .rw [Za,length_map,Zem]
    .rcases ZhJ hx with h | h
     .exact hb' x h
     .subst h; exact ⟨fr0,fr1⟩
    .refine mem_of_getElem? (i:=0) ?_
     rw [getElem?_set_ne (by lia)]
     exact hz0
    .rw [Zc (Ze y hlH)]; exact u7 _ _ n' y
 rintro _ H8 ⟨ns8,rfl,h8,l8,b8,B8,u8⟩
 refine ⟨_,rfl,_,_,rfl,rfl,_,rfl,by lia,by lia,Zdc (lo:=0) (n:=(3+r2 - 1).toNat) (λj σ G'=>∃ (ns':List Int) (v8 v9:Option V) (a' c':Int),σ=[some (.ref b),some (.int s),some (.int (3+r2)),some (.int r3),some (.int r4),some (.int z),some (.ref l),some (.int fr),v8,v9]/\G' l=some (.lst (ns'.map V.int))/\ns'.length=ns.length/\(Bds top ns'/\Low top ns')/\BoxAt G' b a' q c'/\c'<=c7+(j:Int)/\SB b H G')
  ⟨ns8,_,_,a7,c7,rfl,h8,l8,b8,B8,by lia,u8⟩ ?_ ?_⟩
 .rintro j σ G' hj ⟨ns',v8,v9,a',c',rfl,h1',l',⟨b',lo'⟩,B',hc',u'⟩
  have j20:(j:Int)<=18:=by lia
  have jl:(j:Int)+1<3+r2:=by lia
  refine ⟨_,rfl,_,rfl,_,rfl,_,rfl,_,_,rfl,rfl,b,a',q,c',_,rfl,B',by lia,by lia,by lia,λr9 a9 c9 H9 r90 r91 B9 hc9 s9=>⟨_,_,rfl,rfl,?_⟩⟩
  have h9:=s9 _ _ nlb h1'
  obtain ⟨x1,hx1,gx1⟩:=ZmH (ns:=ns') (k:=0+(j:Int)+r9) (by lia) (by lia)
  have mx1:=mem_of_getElem? gx1
  obtain ⟨x2,hx2,gx2⟩:=ZmH (ns:=ns') (k:=0+(j:Int)) (by lia) (by lia)
  have mx2:=mem_of_getElem? gx2
  refine ⟨_,rfl,_,rfl,l,_,_,_,rfl,rfl,SqL.of h9,hx1,_,rfl,_,rfl,l,_,_,_,rfl,rfl,SqL.of h9,hx2,(by show 2<=sizeLine; decide),λt ht'=>?_⟩
  have nlt:l≠t:=Ze h9 ht'
  refine ⟨t,_,rfl,SqT.of Za,rfl,_,_,rfl,_,rfl,_,rfl,l,_,_,_,rfl,rfl,(by rw [Zc nlt]; exact h9),ZkH (by lia) (by rw [length_map]; lia),?_⟩
  refine ⟨_,_,rfl,_,rfl,_,rfl,l,_,_,_,rfl,rfl,Za,ZkH (by lia) (by rw [length_set,length_map]; lia),rfl,?_⟩
  refine ⟨(ns'.set (0+(j:Int)).toNat x1).set (0+(j:Int)+r9).toNat x2,_,_,a9,c9,rfl,by rw [Za,Zem,Zem],by rw [length_set,length_set]; exact l',⟨λx hx=>?_,(by obtain ⟨x,m,q⟩:=lo'; exact ⟨x,Zmg gx1 gx2 m,q⟩)⟩,?_,by lia,λe o n' y=>?_⟩
  .rcases ZhJ hx with h | h
   .rcases ZhJ h with h | h
    .exact b' x h
    .subst h; exact b' _ mx1
   .subst h; exact b' _ mx2
  .exact ((B9.same (Zg ht' _)).sb (Zft l _ _) (Ne.symm nlb)).sb (Zft l _ _) (Ne.symm nlb)
  .have ne:e≠l:=Ze y hlH
   rw [Zc ne,Zc ne]
   exact Zg ht' _ _ _ (s9 _ _ n' (u' _ _ n' y))
 .rintro σ G' ⟨ns',v8,v9,a',c',rfl,h1',l',⟨b',lo'⟩,B',hc',u'⟩
  exact ⟨_,rfl,k l ns' a' c' G' hlH h1' (by lia) (by lia) b' lo' B' (by lia) u'⟩
end
def Sc:V->Prop
 | .int _=>True
 | .bl _=>True
 | .non=>True
 | .str _=>True
 | _=>False
def Eqv:Nat->Hp->V->V->Prop
 | 0,_,x,y=>x=y/\Sc x
 | n+1,H,x,y=>(x=y/\Sc x)\/∃ (a b:Addr) (xs ys:List V),x=.ref a/\y=.ref b/\((H a=some (.lst xs)/\H b=some (.lst ys))\/(H a=some (.tup xs)/\H b=some (.tup ys)))/\xs.length=ys.length/\xs.length<=1000/\∀ (i:Nat) (u v:V),xs[i]?=some u->ys[i]?=some v->Eqv n H u v
theorem Eqv.same:∀ {n:Nat} {H H':Hp} {x y:V},Eqv n H x y->Same H H'->Eqv n H' x y
 | 0,_,_,_,_,h,_=>h
 | n+1,H,H',x,y,h,s=>by
  rcases h with h | ⟨a,b,xs,ys,h1,h2,h3,h5,h6,h7⟩
  .exact .inl h
  .refine .inr ⟨a,b,xs,ys,h1,h2,?_,h5,h6,λi u v e1 e2=>(h7 i u v e1 e2).same s⟩
   rcases h3 with ⟨h3,h4⟩ | ⟨h3,h4⟩
   .exact .inl ⟨s _ _ h3,s _ _ h4⟩
   .exact .inr ⟨s _ _ h3,s _ _ h4⟩
theorem Eqv.flat {H:Hp} {a b:Addr} {xs:List V} (ha:H a=some (.lst xs)) (hb:H b=some (.lst xs)) (hl:xs.length<=1000) (hs:∀ x∈xs,Sc x):Eqv 1 H (.ref a) (.ref b) :=
 .inr ⟨a,b,xs,xs,rfl,rfl,.inl ⟨ha,hb⟩,rfl,hl,λi u v e1 e2=>by rw [e1] at e2; cases e2; exact ⟨rfl,hs u (mem_of_getElem? e1)⟩⟩
def ZfV (n:Nat):Sp:=λvs H Q _=>∃ x y,vs=[x,y]/\Eqv n H x y/\∀ H',Same H H'->Q (.bl true) H'
theorem tyT {H:Hp} {a:Addr} {xs:List V} (h:H a=some (.tup xs)):tyN H (.ref a)=some "tuple" := by simp only [tyN,h]
theorem tyL {H:Hp} {a:Addr} {xs:List V} (h:H a=some (.lst xs)):tyN H (.ref a)=some "list" := by simp only [tyN,h]
section
theorem ZkK {n:Nat} {sp0:Sp} (hsp:∀ m,n=m+1->sp0=ZfV m) (F:Fun K "_law_same" "_law_same" ZdX f fd) (T:Txt K mg) (jj_:Def P w K mg base "_law_same" n ZdY sp0):FnOk P w K mg base CX0 (n+1) f fd ZdY (ZfV n):=by
 refine F.ok sc_same (λvs H Q E h=>?_) (λcdv A outer st H vs Q E hr h=>?_)
 .obtain ⟨x,y,rfl,_⟩:=h
  rfl
 obtain ⟨x,y,rfl,h,k⟩:=h
 have nd:=sc_same.nd
 refine ⟨_,(Zd (ps_if (Zab (Zr ZgH rfl T.qi_ Zar (pc (pv 1) (pc (Zbh (pc (ZaC (v:=.ty "list") rfl T.vg_ ZV rfl) (pc (ZaC (v:=.ty "tuple") rfl T.ji_ ZcQ rfl) Zb))) Zb)))) (Zd (ps_if (PW.pt (pw_or (Zcl (Zab (Zr ZgH rfl T.qi_ Zar (pc (pv 0) (pc (Zbh (pc (ZaC (v:=.ty "list") rfl T.vg_ ZV rfl) (pc (ZaC (v:=.ty "tuple") rfl T.ji_ ZcQ rfl) Zb))) Zb))))) (Zgt (Zw op_ne (Zr ZbB rfl T.qi_ Zar (pc (pv 0) (pc (ZaC (v:=.ty "list") rfl T.vg_ ZV rfl) Zb))) (Zr ZbB rfl T.qi_ Zar (pc (pv 1) (pc (ZaC (v:=.ty "list") rfl T.vg_ ZV rfl) Zb))) (Zv _))))) (Zi (Zt pe_bl)) Zu)
   (Zi (Zt (Zfo (ZaN op_eq (Zr (Zx (K:=K) rfl) rfl T.vp_ PySem.boot_len (pc (pv 0) Zb)) (Zr (Zx (K:=K) rfl) rfl T.vp_ PySem.boot_len (pc (pv 1) Zb)) (Zv _)) (Zfn (Zr (ZgJ rfl) rfl T.j1_ Zio (pc (ZbA (Zag (osc:=(Zh ZdX)) (oN:=N_same) (N:=["_law_one", "_law_other"]) (own:=2) (js:=[]) (by decide +kernel) rfl rfl) rfl (Znn rfl T.j3_ (pc (pv 0) (pc (pv 1) Zb))) (λ_ _ _ _ _ _=>(Zad (K:=K) (n:=2) rfl rfl (Zs (pgn 0 (show List.Nodup (["_law_one", "_law_other"]:List Str) by decide +kernel)) (Zs (pgn 1 (show List.Nodup (["_law_one", "_law_other"]:List Str) by decide +kernel)) Zac)))) (λ_ _ _ _ _ _=>(Zo jj_ hr.m rfl (pc (pv 0) (pc (pv 1) Zb))))) Zb))))))) Zu)
   (Zd (ps_if (PW.pt (pw_or (Zgs (Zmr (pv 1))) (Zgt (Zab (Zr ZbB rfl T.qi_ Zar (pc (pv 1) (pc (ZaC (v:=.ty "str") rfl T.ju_ ZeD rfl) Zb))))))) (Zi (Zt (Zfo (ZaN op_eq (pv 0) (pv 1) (Zv _)) (Zfn (ZaN op_eq (Zr ZbB rfl T.qi_ Zar (pc (pv 0) (pc (ZaC (v:=.ty "str") rfl T.ju_ ZeD rfl) Zb))) (Zr ZbB rfl T.qi_ Zar (pc (pv 1) (pc (ZaC (v:=.ty "str") rfl T.ju_ ZeD rfl) Zb))) (Zv _)))))) Zu)
   (Zi (Zt (Zfo (Zr ZbB rfl T.qi_ Zar (pc (pv 0) (pc (ZaC (v:=.ty "int") rfl T.jl_ Zcm rfl) Zb))) (Zfo (ZaN op_eq (Zr ZbB rfl T.qi_ Zar (pc (pv 0) (pc (ZaC (v:=.ty "bool") rfl T.jt_ Zfs rfl) Zb))) (Zr ZbB rfl T.qi_ Zar (pc (pv 1) (pc (ZaC (v:=.ty "bool") rfl T.jt_ Zfs rfl) Zb))) (Zv _)) (Zfn (ZaN op_eq (pv 0) (pv 1) (Zv _))))))))),?_⟩
 have split:(x=y/\Sc x)\/∃ (m:Nat) (a b:Addr) (xs ys:List V),n=m+1/\x=.ref a/\y=.ref b/\((H a=some (.lst xs)/\H b=some (.lst ys))\/(H a=some (.tup xs)/\H b=some (.tup ys)))/\xs.length=ys.length/\xs.length<=1000/\∀ (i:Nat) (u v:V),xs[i]?=some u->ys[i]?=some v->Eqv m H u v:=by
  cases n with
  | zero=>exact .inl h
  | succ m =>
   rcases h with h | ⟨a,b,xs,ys,h1,h2,h3,h5,h6,h7⟩
   .exact .inl h
   .exact .inr ⟨m,a,b,xs,ys,rfl,h1,h2,h3,h5,h6,h7⟩
 rcases split with ⟨rfl,hs⟩ | ⟨m,a,b,xs,ys,rfl,rfl,rfl,⟨ha,hb⟩ | ⟨ha,hb⟩,hl,hlen,hi⟩
 .have key:∀ p,H p=none->∀ o,Same H (upd H p o):=λp hp o=>Zg hp o
  cases x with
  | int j =>
   refine ⟨_,rfl,(by show 2<=sizeLine; decide),λp hp=>⟨_,_,_,_,p,rfl,Za,rfl,by decide,by decide,_,rfl,ifF (by decide) ?_⟩⟩
   refine ⟨_,rfl,_,rfl,ifF (by simp) ⟨_,rfl,_,_,_,rfl,rfl,by decide,_,rfl,ifF (by decide) ?_⟩⟩
   refine ⟨_,rfl,_,_,_,rfl,rfl,by decide,_,rfl,ifT (by decide) ⟨_,rfl,_,_,_,rfl,rfl,by decide,_,rfl,_,_,_,rfl,rfl,by decide,rfl,_,rfl,ifT (by decide) ⟨_,rfl,_,rfl,rfl,?_⟩⟩⟩
   rw [decide_eq_true rfl]
   exact k _ (key p hp _)
  | bl j =>
   refine ⟨_,rfl,(by show 2<=sizeLine; decide),λp hp=>⟨_,_,_,_,p,rfl,Za,rfl,by decide,by decide,_,rfl,ifF (by decide) ?_⟩⟩
   refine ⟨_,rfl,_,rfl,ifF (by simp) ⟨_,rfl,_,_,_,rfl,rfl,by decide,_,rfl,ifF (by decide) ?_⟩⟩
   refine ⟨_,rfl,_,_,_,rfl,rfl,by decide,_,rfl,ifT (by decide) ⟨_,rfl,_,_,_,rfl,rfl,by decide,_,rfl,_,_,_,rfl,rfl,by decide,rfl,_,rfl,ifT (by decide) ⟨_,rfl,_,rfl,rfl,?_⟩⟩⟩
   rw [decide_eq_true rfl]
   exact k _ (key p hp _)
  | non =>
   refine ⟨_,rfl,(by show 2<=sizeLine; decide),λp hp=>⟨_,_,_,_,p,rfl,Za,rfl,by decide,by decide,_,rfl,ifF (by decide) ?_⟩⟩
   refine ⟨_,rfl,_,rfl,ifT (by simp) (ifT rfl ⟨_,rfl,_,rfl,rfl,_,rfl,ifT (by decide) ⟨_,rfl,_,_,_,rfl,rfl,by decide,_,rfl,_,_,_,rfl,rfl,by decide,rfl,?_⟩⟩)⟩
   rw [decide_eq_true rfl]
   exact k _ (key p hp _)
  | str z =>
   refine ⟨_,rfl,(by show 2<=sizeLine; decide),λp hp=>⟨_,_,_,_,p,rfl,Za,rfl,by decide,by decide,_,rfl,ifF (by decide) ?_⟩⟩
   refine ⟨_,rfl,_,rfl,ifF (by simp) ⟨_,rfl,_,_,_,rfl,rfl,by decide,_,rfl,ifT (by decide) ⟨_,rfl,_,rfl,rfl,_,rfl,ifT (by simp) ⟨_,rfl,_,_,_,rfl,rfl,by decide,_,rfl,_,_,_,rfl,rfl,by decide,rfl,?_⟩⟩⟩⟩
   rw [decide_eq_true rfl]
   exact k _ (key p hp _)
  | _=>exact hs.elim
 .have he:=hsp m rfl
  subst he
  refine ⟨_,rfl,(by show 2<=sizeLine; decide),λp hp=>?_⟩
  have s1:=Zg hp (.tup [.ty "list",.ty "tuple"])
  refine ⟨_,_,_,_,p,rfl,Za,tyL (s1 _ _ hb),by decide,by decide,_,rfl,ifT (by decide) ?_⟩
  refine ⟨_,rfl,(by show 2<=sizeLine; decide),λp2 hp2=>?_⟩
  have s2:=s1.trans (Zg hp2 (.tup [.ty "list",.ty "tuple"]))
  refine ⟨_,_,_,_,p2,rfl,Za,tyL (s2 _ _ ha),by decide,by decide,_,rfl,ifF (by decide) ?_⟩
  refine ⟨_,rfl,_,_,_,rfl,tyL (s2 _ _ ha),by decide,_,rfl,_,_,_,rfl,tyL (s2 _ _ hb),by decide,rfl,_,rfl,ifF (by decide) ?_⟩
  refine ⟨_,rfl,a,_,rfl,.inl (SqL.of (s2 _ _ ha)),_,rfl,b,_,rfl,.inl (SqL.of (s2 _ _ hb)),rfl,_,rfl,?_⟩
  generalize upd (upd H p (.tup [.ty "list",.ty "tuple"])) p2 (.tup [.ty "list",.ty "tuple"])=H2 at *
  refine ifT (by rw [hl]; simp) ?_
  refine ⟨_,rfl,_,rfl,a,b,rfl,.inl ⟨_,_,SqL.of (s2 _ _ ha),SqL.of (s2 _ _ hb),λl hl'=>?_⟩⟩
  have hlH:H l=none:=s2.free hl'
  refine ZlC (K:=K) (a:=a) (b:=b) (xs:=xs) (zs:=ys) (l:=l) hl (λi zs σ H'=>∃ v0 v1:Option V,σ=[v0,v1]/\zs=(List.replicate i true).map V.bl/\H' l=some (.lst zs)/\Same H H')
   ⟨none,none,rfl,by simp,Za,s2.trans (Zg hl' _)⟩ (λi zs σ H' _ ⟨_,_,_,_,_,q⟩=>⟨SqL.of (q _ _ ha),SqL.of (q _ _ hb)⟩) ?_ ?_
  .rintro i x z t zs σ H' hii hxi hzi hzl ⟨v0,v1,rfl,rfl,h1,s3⟩ ht
   have s4:=s3.trans (Zg ht (.tup [x,z]))
   have ntl:l≠t:=Ze h1 ht
   refine ⟨t,_,rfl,SqT.of Za,rfl,_,_,rfl,_,_,rfl,rfl,?_⟩
   refine ⟨_,rfl,_,rfl,x,z,rfl,(hi i x z hxi hzi).same s4,λH5 s5=>?_⟩
   refine CNx.of (Nat.le_of_lt (ZA hlen)) hii hzl (s5 _ _ (by rw [Zc ntl]; exact h1)) ⟨_,_,rfl,by rw [List.replicate_succ',map_append]; rfl,Za,?_⟩
   intro c o e
   rw [Zc (Ze e hlH)]
   exact s5 _ _ (s4 _ _ e)
  .rintro zs σ H' hzl ⟨v0,v1,rfl,rfl,h1,s3⟩
   refine ⟨l,_,rfl,SqL.of h1,?_⟩
   rw [show (List.replicate xs.length true).all id=true by rw [all_eq_true]; intro z hz; rw [(List.mem_replicate.mp hz).2]; rfl]
   exact k H' s3
 .have he:=hsp m rfl
  subst he
  refine ⟨_,rfl,(by show 2<=sizeLine; decide),λp hp=>?_⟩
  have s1:=Zg hp (.tup [.ty "list",.ty "tuple"])
  refine ⟨_,_,_,_,p,rfl,Za,tyT (s1 _ _ hb),by decide,by decide,_,rfl,ifT (by decide) ?_⟩
  refine ⟨_,rfl,(by show 2<=sizeLine; decide),λp2 hp2=>?_⟩
  have s2:=s1.trans (Zg hp2 (.tup [.ty "list",.ty "tuple"]))
  refine ⟨_,_,_,_,p2,rfl,Za,tyT (s2 _ _ ha),by decide,by decide,_,rfl,ifF (by decide) ?_⟩
  refine ⟨_,rfl,_,_,_,rfl,tyT (s2 _ _ ha),by decide,_,rfl,_,_,_,rfl,tyT (s2 _ _ hb),by decide,rfl,_,rfl,ifF (by decide) ?_⟩
  refine ⟨_,rfl,a,_,rfl,.inr (SqT.of (s2 _ _ ha)),_,rfl,b,_,rfl,.inr (SqT.of (s2 _ _ hb)),rfl,_,rfl,?_⟩
  generalize upd (upd H p (.tup [.ty "list",.ty "tuple"])) p2 (.tup [.ty "list",.ty "tuple"])=H2 at *
  refine ifT (by rw [hl]; simp) ?_
  refine ⟨_,rfl,_,rfl,a,b,rfl,.inr ⟨_,_,SqT.of (s2 _ _ ha),SqT.of (s2 _ _ hb),λl hl'=>?_⟩⟩
  have hlH:H l=none:=s2.free hl'
  refine Zkg (K:=K) (a:=a) (b:=b) (xs:=xs) (zs:=ys) (l:=l) hl (λi zs σ H'=>∃ v0 v1:Option V,σ=[v0,v1]/\zs=(List.replicate i true).map V.bl/\H' l=some (.lst zs)/\Same H H')
   ⟨none,none,rfl,by simp,Za,s2.trans (Zg hl' _)⟩ (λi zs σ H' _ ⟨_,_,_,_,_,q⟩=>⟨SqT.of (q _ _ ha),SqT.of (q _ _ hb)⟩) ?_ ?_
  .rintro i x z t zs σ H' hii hxi hzi hzl ⟨v0,v1,rfl,rfl,h1,s3⟩ ht
   have s4:=s3.trans (Zg ht (.tup [x,z]))
   have ntl:l≠t:=Ze h1 ht
   refine ⟨t,_,rfl,SqT.of Za,rfl,_,_,rfl,_,_,rfl,rfl,?_⟩
   refine ⟨_,rfl,_,rfl,x,z,rfl,(hi i x z hxi hzi).same s4,λH5 s5=>?_⟩
   refine CNx.of (Nat.le_of_lt (ZA hlen)) hii hzl (s5 _ _ (by rw [Zc ntl]; exact h1)) ⟨_,_,rfl,by rw [List.replicate_succ',map_append]; rfl,Za,?_⟩
   intro c o e
   rw [Zc (Ze e hlH)]
   exact s5 _ _ (s4 _ _ e)
  .rintro zs σ H' hzl ⟨v0,v1,rfl,rfl,h1,s3⟩
   refine ⟨l,_,rfl,SqL.of h1,?_⟩
   rw [show (List.replicate xs.length true).all id=true by rw [all_eq_true]; intro z hz; rw [(List.mem_replicate.mp hz).2]; rfl]
   exact k H' s3
def spNo:Sp:=λ_ _ _ _=>False
theorem ZiL (F:Fun K "_law_same" "_law_same" ZdX f fd) (bi:Binds K fd ZdY []) (m:mg "_law_same" = some (.ref f)) (T:Txt K mg):∀ n,Def P w K mg base "_law_same" (n+1) ZdY (ZfV n)
 | 0=>by
  have D0:Def P w K mg base "_law_same" 0 ZdY spNo:=⟨f,fd,⟨λ_ _ _ _ h=>h.elim,λ_ _ _ _ _ _ _ _ _ _ _ _ _ h=>h.elim⟩,m,F.kp,bi⟩
  exact ⟨f,fd,ZkK (n:=0) (λ_ h=>by lia) F T D0,m,F.kp,bi⟩
 | n+1=>⟨f,fd,ZkK (n:=n+1) (λj h=>by cases (show j=n by lia); rfl) F T (ZiL F bi m T n),m,F.kp,bi⟩
end
def optV:Option Int->V
 | none=>.non
 | some g=>.int g
theorem gN {i:Nat} {v:V} {σ:St} {H:Hp} {Q:St->Hp->Prop} (h:Q (σ.set i (some v)) H):gName i v σ H Q:=h
theorem ZfW {b:Bool} {A B:Prop} (h1:b=true->A) (h2:¬ b=true->B):if b=true then A else B:=by
 by_cases h:b=true
 .rw [if_pos h]; exact h1 h
 .rw [if_neg h]; exact h2 h
theorem ZkL {ns:List Int} {i:Nat} {x:V} (h:(ns.map V.int)[i]?=some x):∃ z,ns[i]?=some z/\x=V.int z:=by
 rw [getElem?_map] at h
 cases e:ns[i]? with
 | none=>rw [e] at h; cases h
 | some z=>rw [e] at h; exact ⟨z,rfl,(Option.some.inj h).symm⟩
def tpos:Pos:=(match (Zz ZB).head? with
 | some (.If _ (.Return (some (.Call _ _ (⟨_,.Lambda _ _ _ pos,_⟩ :: _) _)) _ :: _) _ _)=>pos
 | _=>⟨0,0,0,0⟩)
abbrev tqual:Str := "Room.going" ++ ".<locals>." ++ "<lambda>"
def Tb (K:W.Frag) (H:Hp):Prop:=H (tabOf K "Room" "going")=some (.tbl tpos tqual)
theorem Tb.same {K:W.Frag} {H H':Hp} (t:Tb K H) (s:Same H H'):Tb K H':=s _ _ t
def Zl (sh s:Int) (there:List Int):List Int:=there.filter λo=>decide (o % sh=s)
theorem ZbO (sh s b:Int) (there:List Int):Zl sh s (there++[b])=if b % sh=s then Zl sh s there++[b] else Zl sh s there:=by
 unfold Zl
 rw [List.filter_append]
 by_cases h:b % sh=s
 .rw [if_pos h,filter_cons,if_pos (by simpa using h),List.filter_nil]
 .rw [if_neg h,filter_cons,if_neg (by simpa using h),List.filter_nil,append_nil]
theorem Zap (sh s g:Int) (there:List Int):Zl sh s (there.erase g)=(Zl sh s there).erase g:=by
 unfold Zl
 rw [List.erase_filter]
theorem mem_shelfS {sh s b:Int} {there:List Int}:b∈Zl sh s there↔b∈there/\b % sh=s:=by
 unfold Zl
 rw [mem_filter,decide_eq_true_eq]
structure Shl (H:Hp) (ls:Addr) (ads:List Addr) (sh:Int) (there:List Int):Prop where
 top:H ls=some (.lst (ads.map V.ref))
 len:ads.length=sh.toNat
 nd:ads.Nodup
 off:ls∉ads
 at_:∀ (s:Nat) (ad:Addr),ads[s]?=some ad->H ad=some (.lst ((Zl sh s there).map V.int))
theorem Shl.other {H:Hp} {ls:Addr} {ads:List Addr} {sh:Int} {there:List Int} (h:Shl H ls ads sh there) {a:Addr} (o:HO) (h1:a≠ls) (h2:a∉ads):Shl (upd H a o) ls ads sh there :=
 ⟨by rw [Zc (Ne.symm h1)]; exact h.top,h.len,h.nd,h.off,λi ad e=>by rw [Zc (λz:ad=a=>h2 (z ▸ mem_of_getElem? e))]; exact h.at_ i ad e⟩
theorem Shl.put {H:Hp} {ls:Addr} {ads:List Addr} {sh:Int} {there there':List Int} (h:Shl H ls ads sh there) {s0:Nat} {ad:Addr} {ns:List Int} (e0:ads[s0]?=some ad) (hn:Zl sh s0 there'=ns) (ho:∀ s:Nat,s≠s0->Zl sh s there'=Zl sh s there):Shl (upd H ad (.lst (ns.map V.int))) ls ads sh there':=by
 refine ⟨by rw [Zc (λz:ls=ad=>h.off (z ▸ mem_of_getElem? e0))]; exact h.top,h.len,h.nd,h.off,λs a e=>?_⟩
 by_cases hs:s=s0
 .subst hs
  rw [e0] at e
  cases e
  rw [Za,hn]
 .have ne:a≠ad:=λz=>by
   subst z
   exact hs ((List.getElem?_inj (List.getElem?_eq_some_iff.mp e).1 h.nd).mp (e.trans e0.symm))
  rw [Zc ne,ho s hs]
  exact h.at_ s a e
theorem Shl.get {H:Hp} {ls:Addr} {ads:List Addr} {sh:Int} {there:List Int} (h:Shl H ls ads sh there) {k:Int} (h0:0<=k) (h1:k<sh):∃ (s:Nat) (ad:Addr),(s:Int)=k/\ads[s]?=some ad/\atI (ads.map V.ref) k=some (.ref ad)/\H ad=some (.lst ((Zl sh k there).map V.int)):=by
 have hk:k.toNat<ads.length:=by rw [h.len]; lia
 have e:ads[k.toNat]?=some ads[k.toNat]:=getElem?_eq_getElem hk
 have ek:((k.toNat:Nat):Int)=k:=by lia
 have q:atI (ads.map V.ref) ((k.toNat:Nat):Int)=some (.ref ads[k.toNat]):=ZR (by rw [getElem?_map,e]; rfl)
 have q2:=h.at_ _ _ e
 rw [ek] at q q2
 exact ⟨k.toNat,_,ek,e,q,q2⟩
theorem Shl.one {H:Hp} {ls:Addr} {ads:List Addr} {sh:Int} {there:List Int} (h:Shl H ls ads sh there) {ad:Addr} (m:ad∈ads):∃ xs,H ad=some (.lst xs):=by
 obtain ⟨s,e⟩:=List.getElem?_of_mem m
 exact ⟨_,h.at_ s ad e⟩
def flds (sh pl:Int) (ru:Str) (ls du:Addr):List (Str×V):=putF "uses" (.ref du) (putF "standing" (.ref ls) (putF "rule" (.str ru) (putF "places" (.int pl) (putF "shelves" (.int sh) []))))
theorem ZdH (sh pl:Int) (ru:Str) (ls du:Addr):(flds sh pl ru ls du).lookup ("uses" : Str)=some (.ref du):=by
 unfold flds
 rw [Zf,if_pos rfl]
theorem ZeI (sh pl:Int) (ru:Str) (ls du:Addr):(flds sh pl ru ls du).lookup ("standing" : Str)=some (.ref ls):=by
 unfold flds
 rw [Zf,if_neg (by decide +kernel),Zf,if_pos rfl]
theorem ZkM (sh pl:Int) (ru:Str) (ls du:Addr):(flds sh pl ru ls du).lookup ("rule" : Str)=some (.str ru):=by
 unfold flds
 rw [Zf,if_neg (by decide +kernel),Zf,if_neg (by decide +kernel),Zf,if_pos rfl]
theorem ZkN (sh pl:Int) (ru:Str) (ls du:Addr):(flds sh pl ru ls du).lookup ("places" : Str)=some (.int pl):=by
 unfold flds
 rw [Zf,if_neg (by decide +kernel),Zf,if_neg (by decide +kernel),Zf,if_neg (by decide +kernel),Zf,if_pos rfl]
theorem ZdI (sh pl:Int) (ru:Str) (ls du:Addr):(flds sh pl ru ls du).lookup ("shelves" : Str)=some (.int sh):=by
 unfold flds
 rw [Zf,if_neg (by decide +kernel),Zf,if_neg (by decide +kernel),Zf,if_neg (by decide +kernel),Zf,if_neg (by decide +kernel),Zf,if_pos rfl]
theorem fl_no (sh pl:Int) (ru:Str) (ls du:Addr) {m:Str} (h1:¬ m = "uses" := by decide +kernel) (h2:¬ m = "standing" := by decide +kernel) (h3:¬ m = "rule" := by decide +kernel) (h4:¬ m = "places" := by decide +kernel) (h5:¬ m = "shelves" := by decide +kernel):(flds sh pl ru ls du).lookup m=none:=by
 unfold flds
 rw [Zf,if_neg h1,Zf,if_neg h2,Zf,if_neg h3,Zf,if_neg h4,Zf,if_neg h5]
 rfl
def KI (kvs:List (Key×V)):Prop:=∃ ks:List Int,kvs.map Prod.fst=ks.map Sum.inl/\ks.Nodup
theorem KI.nil:KI []:=⟨[],rfl,nodup_nil⟩
theorem KI.put {kvs:List (Key×V)} (h:KI kvs) (b:Int) (v:V):KI (putK kvs (Sum.inl b) v):=by
 obtain ⟨ks,e,nd⟩:=h
 unfold putK
 split
 .refine ⟨ks,?_,nd⟩
  rw [← e,List.map_map]
  exact List.map_congr_left λq _=>by
   show (if q.1=Sum.inl b then (q.1,v) else q).1=q.1
   split <;> rfl
 .rename_i c
  refine ⟨ks++[b],by rw [map_append,map_append,e]; rfl,?_⟩
  rw [List.nodup_append]
  refine ⟨nd,by simp,λx hx y hy z=>c ?_⟩
  rw [List.mem_singleton.mp hy] at z
  subst z
  have m:(Sum.inl x:Key)∈kvs.map Prod.fst:=by rw [e]; exact mem_map_of_mem hx
  obtain ⟨q,hq,eq⟩:=List.mem_map.mp m
  exact List.any_eq_true.mpr ⟨q,hq,by simpa using eq⟩
theorem KI.drop {kvs:List (Key×V)} (h:KI kvs) (b:Int):KI (dropK kvs (Sum.inl b)):=by
 obtain ⟨ks,e,nd⟩:=h
 unfold dropK
 refine ⟨ks.filter λx=>decide (x≠b),?_,nd.sublist filter_sublist⟩
 have l:(kvs.filter λkv=>decide (kv.1≠Sum.inl b)).map Prod.fst=(kvs.map Prod.fst).filter λk=>decide (k≠Sum.inl b):=by
  rw [List.filter_map]; rfl
 rw [l,e,List.filter_map]
 congr 1
 refine List.filter_congr λx _=>?_
 show decide ((Sum.inl x:Key)≠Sum.inl b)=decide (x≠b)
 rw [decide_eq_decide]
 exact ⟨λz y=>z (by rw [y]),λz y=>z (Sum.inl.inj y)⟩
theorem ZfX {kvs:List (Key×V)} (k:Key):(valV kvs k).isSome=true↔k∈kvs.map Prod.fst:=by
 rw [← Zdi,List.any_eq_true,mem_map]
 exact ⟨λ⟨q,h1,h2⟩=>⟨q,h1,by simpa using h2⟩,λ⟨q,h1,h2⟩=>⟨q,h1,by simpa using h2⟩⟩
structure RoomAt (K:W.Frag) (H:Hp) (p:Addr) (sh pl:Int) (ru:Str) (ls:Addr) (ads:List Addr) (du:Addr) (seq:List Int) (us:Int->Int) (n:Nat):Prop where
 ob:∃ dx,H p=some (.ins (clsOf K "Room") dx (flds sh pl ru ls du))
 st:Shl H ls ads sh seq
 dc:∃ kvs,H du=some (.dK kvs)/\(kvs.length<=n/\KI kvs)/\∀ b,valV kvs (Sum.inl b:Key)=if b∈seq then some (.int (us b)) else none
 nd:seq.Nodup
 s0:1<=sh
 s1:sh<=64
def SR (ads:List Addr) (du:Addr) (H H':Hp):Prop:=∀ b o,H b=some o->b≠du->b∉ads->H' b=some o
theorem SR.of {ads:List Addr} {du:Addr} {H H':Hp} (s:Same H H'):SR ads du H H':=λb o h _ _=>s b o h
theorem SR.trans {ads:List Addr} {du:Addr} {H H1 H2:Hp} (a:SR ads du H H1) (b:SR ads du H1 H2):SR ads du H H2:=λc o h n1 n2=>b c o (a c o h n1 n2) n1 n2
section
variable {K:W.Frag} {H H':Hp} {p:Addr} {sh pl:Int} {ru:Str} {ls:Addr} {ads:List Addr} {du:Addr} {seq:List Int} {us:Int->Int} {n:Nat}
theorem RoomAt.off (R:RoomAt K H p sh pl ru ls ads du seq us n):p≠du/\p∉ads/\ls≠du/\ls∉ads/\du∉ads/\p≠ls:=by
 obtain ⟨dx,h1⟩:=R.ob
 obtain ⟨kvs,h2,_⟩:=R.dc
 refine ⟨λz=>?_,λz=>?_,λz=>?_,R.st.off,λz=>?_,λz=>?_⟩
 .rw [z,h2] at h1; cases h1
 .obtain ⟨xs,e⟩:=R.st.one z
  rw [e] at h1; cases h1
 .have e:=R.st.top
  rw [z,h2] at e; cases e
 .obtain ⟨xs,e⟩:=R.st.one z
  rw [e] at h2; cases h2
 .have e:=R.st.top
  rw [← z,h1] at e; cases e
theorem RoomAt.same (R:RoomAt K H p sh pl ru ls ads du seq us n) (s:Same H H'):RoomAt K H' p sh pl ru ls ads du seq us n:=by
 obtain ⟨dx,h1⟩:=R.ob
 obtain ⟨kvs,h2,h3⟩:=R.dc
 exact ⟨⟨dx,s _ _ h1⟩,⟨s _ _ R.st.top,R.st.len,R.st.nd,R.st.off,λi ad e=>s _ _ (R.st.at_ i ad e)⟩,⟨kvs,s _ _ h2,h3⟩,R.nd,R.s0,R.s1⟩
theorem SR.keep {o:HO} {b:Addr} (s:SR ads du H H') (R:RoomAt K H p sh pl ru ls ads du seq us n) (h:H b=some o) (n1:∀ kvs,o≠.dK kvs) (n2:∀ xs,o≠.lst xs):H' b=some o:=by
 refine s _ _ h (λz=>?_) λz=>?_
 .obtain ⟨kvs,e,_⟩:=R.dc
  rw [z,e] at h
  exact n1 kvs (Option.some.inj h).symm
 .obtain ⟨xs,e⟩:=R.st.one z
  rw [e] at h
  exact n2 xs (Option.some.inj h).symm
theorem RoomAt.shelf (R:RoomAt K H p sh pl ru ls ads du seq us n) (b:Int):∃ (s:Nat) (ad:Addr),(s:Int)=b % sh/\ads[s]?=some ad/\atI (ads.map V.ref) (b % sh)=some (.ref ad)/\H ad=some (.lst ((Zl sh (b % sh) seq).map V.int)):=by
 have h0:=R.s0
 exact R.st.get (Int.emod_nonneg _ (by lia)) (Int.emod_lt_of_pos _ (by lia))
end
section
def ZkO:Sp:=λvs H Q _=>∃ sh b:Int,vs=[.int sh,.int b]/\1<=sh/\Q (.int (b % sh)) H
theorem ZhK (F:Fun K "shelf_of" "shelf_of" Zdz f fd) (T:Txt K mg):FnOk P w K mg base CX0 1 f fd ZdA ZkO:=by
 refine F.ok sc_shelf_of (λvs H Q E h=>?_) (λcdv A outer st H vs Q E hr h=>?_)
 .obtain ⟨sh,b,rfl,_⟩:=h
  rfl
 obtain ⟨sh,b,rfl,h0,k⟩:=h
 have nd:=sc_shelf_of.nd
 refine ⟨_,(Zi (Zt (pe_op Zbz (pv 1) (pv 0)))),?_⟩
 exact ⟨_,rfl,_,rfl,_,_,rfl,rfl,(by show 0<sh; lia),k⟩
def spHas (K:W.Frag):Sp:=λvs H Q _=>∃ (p:Addr) (b sh pl:Int) (ru:Str) (ls:Addr) (ads:List Addr) (du:Addr) (seq:List Int) (us:Int->Int) (n:Nat),vs=[.ref p,.int b]/\RoomAt K H p sh pl ru ls ads du seq us n/\Q (.bl (decide (b∈seq))) H
theorem ZhL (F:Fun K "has" "Room.has" ZdB f fd) (T:Txt K mg):FnOk P w K mg base CX0 1 f fd Zbf (spHas K):=by
 refine F.ok sc_Room_has (λvs H Q E h=>?_) (λcdv A outer st H vs Q E hr h=>?_)
 .obtain ⟨p,b,sh,pl,ru,ls,ads,du,seq,us,n,rfl,_⟩:=h
  rfl
 obtain ⟨p,b,sh,pl,ru,ls,ads,du,seq,us,n,rfl,R,k⟩:=h
 have nd:=sc_Room_has.nd
 have hu:=hu_of hr
 refine ⟨_,(Zi (Zt (Zms (Zoo hu (pv 1) (Zm (K:=K) rfl (pv 0) rfl))))),?_⟩
 obtain ⟨dx,h1⟩:=R.ob
 obtain ⟨kvs,h2,h3,h4⟩:=R.dc
 refine ⟨_,rfl,_,rfl,p,_,dx,_,_,rfl,h1,T.qb_,T.vb_,ZdH ..,du,_,rfl,DGet.k (k:=Sum.inl b) h2,?_⟩
 rw [h4 b]
 by_cases c:b∈seq
 .rw [if_pos c]
  rw [decide_eq_true c] at k
  exact k
 .rw [if_neg c]
  rw [decide_eq_false c] at k
  exact k
def ZeJ (K:W.Frag):Sp:=λvs H Q _=>∃ (p:Addr) (b sh pl:Int) (ru:Str) (ls:Addr) (ads:List Addr) (du:Addr) (seq:List Int) (us:Int->Int) (n:Nat),vs=[.ref p,.int b]/\RoomAt K H p sh pl ru ls ads du seq us n /\
 ∀ (s:Nat) (ad:Addr),(s:Int)=b % sh->ads[s]?=some ad->H ad=some (.lst ((Zl sh (b % sh) seq).map V.int))->Q (.ref ad) H
theorem ZfY (F:Fun K "mates" "Room.mates" Zcq f fd) (T:Txt K mg) (jm_:Def P w K mg base "shelf_of" 1 ZdA ZkO):FnOk P w K mg base CX0 2 f fd Zan (ZeJ K):=by
 refine F.ok sc_Room_mates (λvs H Q E h=>?_) (λcdv A outer st H vs Q E hr h=>?_)
 .obtain ⟨p,b,sh,pl,ru,ls,ads,du,seq,us,n,rfl,_⟩:=h
  rfl
 obtain ⟨p,b,sh,pl,ru,ls,ads,du,seq,us,n,rfl,R,k⟩:=h
 have nd:=sc_Room_mates.nd
 refine ⟨_,(Zi (Zt (pe_ix (Zn (K:=K) rfl) (Zm (K:=K) rfl (pv 0) rfl) (Zo jm_ hr.m rfl (pc (Zm (K:=K) rfl (pv 0) rfl) (pc (pv 1) Zb))) (λ_ _=>rfl)))),?_⟩
 obtain ⟨dx,h1⟩:=R.ob
 obtain ⟨s,ad,e1,e2,e3,e4⟩:=R.shelf b
 exact ⟨_,rfl,p,_,dx,_,_,rfl,h1,T.qb_,T.vv_,ZeI ..,_,rfl,p,_,dx,_,_,rfl,h1,T.qb_,T.vk_,ZdI ..,_,rfl,sh,b,rfl,R.s0,ls,_,_,_,rfl,rfl,SqL.of R.st.top,e3,k s ad e1 e2 e4⟩
def ZiM (K:W.Frag):Sp:=λvs H Q _=>∃ (p:Addr) (b sh pl:Int) (ru:Str) (ls:Addr) (ads:List Addr) (du:Addr) (seq:List Int) (us:Int->Int) (n:Nat),vs=[.ref p,.int b]/\RoomAt K H p sh pl ru ls ads du seq us n/\b∈seq/\Q .non H
theorem Zhc (F:Fun K "need" "Room.need" ZcS f fd) (T:Txt K mg) (qn_:MDef P w K mg base (clsOf K "Room") "has" 1 Zbf (spHas K)):FnOk P w K mg base CX0 2 f fd Zbm (ZiM K):=by
 refine F.ok sc_Room_need (λvs H Q E h=>?_) (λcdv A outer st H vs Q E hr h=>?_)
 .obtain ⟨p,b,sh,pl,ru,ls,ads,du,seq,us,n,rfl,_⟩:=h
  rfl
 obtain ⟨p,b,sh,pl,ru,ls,ads,du,seq,us,n,rfl,R,hb,k⟩:=h
 have nd:=sc_Room_need.nd
 refine ⟨_,(Zi (ps_if (Zcl (Zab (Zk qn_ hr.m T.qb_ (pv 0) (pc (pv 1) Zb)))) (Zi ps_no) Zu)),?_⟩
 obtain ⟨dx,h1⟩:=R.ob
 refine ⟨_,rfl,p,dx,_,rfl,h1,fl_no ..,_,rfl,p,b,sh,pl,ru,ls,ads,du,seq,us,n,rfl,R,?_⟩
 rw [decide_eq_true hb]
 exact ⟨_,rfl,ifF rfl k⟩
end
section
def ZfZ (K:W.Frag):Sp:=λvs H Q _=>∃ (p m:Addr) (ms:List Int) (sh pl:Int) (ru:Str) (ls:Addr) (ads:List Addr) (du:Addr) (seq:List Int) (us:Int->Int) (n:Nat),vs=[.ref p,.ref m]/\RoomAt K H p sh pl ru ls ads du seq us n/\Tb K H/\H m=some (.lst (ms.map V.int))/\ms.length<64/\ms.Nodup/\(∀ b∈ms,b∈seq) /\
 ∀ (D:Addr) (H':Hp) (os:List Int),H D=none->Same H H'->H' D=some (.lst (os.map V.int))->os.Perm ms->(ru = "few" -> os.Pairwise (KLt us ms))->(ru ≠ "few" -> os=ms)->Q (.ref D) H'
theorem Zga {f tp cg:Addr} {fd:FuncData} (F:Fun K "going" "Room.going" ZB f fd) (hfc:fd.code=.ref cg) (htp:tabOf K "Room" "going" = tp) (hch:W.codeHdIn K cg tp=true) (bm:BMod base mg) (T:Txt K mg):FnOk P w K mg base CX0 2 f fd Zao (ZfZ K):=by
 refine F.okC sc_Room_going (λvs H Q E h=>?_) (λcdv A outer st H vs Q E hcv hr h=>?_)
 .obtain ⟨p,m,ms,sh,pl,ru,ls,ads,du,seq,us,n,rfl,_⟩:=h
  rfl
 obtain ⟨p,m,ms,sh,pl,ru,ls,ads,du,seq,us,n,rfl,R,tb,hm,h64,hnd,hin,k⟩:=h
 have nd:=sc_Room_going.nd
 have hu:=hu_of hr
 have hc0:cdv=.ref cg:=hcv.symm.trans hfc
 refine ⟨_,(Zd (ps_if (Zw op_eq (Zm (K:=K) rfl (pv 0) rfl) ZP (Zv _)) (Zi (Zt (ZlN (X:=(cxOf CX0 P w K mg base N_Room_going "Room.going" (Zh ZB) f cdv A outer st H E).nox) (K:=K) (P:=tp) (c0:=cg) rfl hr rfl rfl T.ja_ (ZlM (osc:=(Zh ZB)) (oN:=N_Room_going) (x := "board") (fr:=["self"]) (js:=[0]) (by decide +kernel) rfl rfl) hc0 hch bm rfl rfl rfl (λ_ _ _ _ _=>rfl) (pv 1) (λ_ _ _ _ _=>(ZhD (Zow hr) (Zm (K:=K) rfl (pv 1) rfl) (pv 0) (λ_ _=>rfl)))))) Zu)
   (Zi (Zt (ZW (ZaZ (K:=K) rfl) rfl T.vg_ ZV (pc (pv 1) Zb))))),?_⟩
 obtain ⟨dx,h1⟩:=R.ob
 obtain ⟨kvs,h2,h3,h4⟩:=R.dc
 refine ⟨_,rfl,p,_,dx,_,_,rfl,h1,T.qb_,T.jg_,ZkM ..,rfl,_,rfl,?_⟩
 refine ZaD (λc=>?_) (λc=>?_)
 .have c':ru = "few" := by injection c
  have tb':H tp=some (.tbl tpos tqual):=by
   have t:=tb
   unfold Tb at t
   rw [htp] at t
   exact t
  refine ⟨_,rfl,m,ms,us,rfl,SqL.of hm,h64,hnd,tb',λz hz H2 sm=>?_,λD H' os hD sm hl po so=>k D H' os hD sm hl po (λ_=>so) λz=>absurd c' z⟩
  have v:=h4 z
  rw [if_pos (hin z hz)] at v
  exact ⟨_,rfl,p,_,dx,_,_,rfl,sm _ _ h1,T.qb_,T.vb_,ZdH ..,_,rfl,du,_,rfl,(by have q:=DGet.k (k:=Sum.inl z) (sm _ _ h2); rw [v] at q; exact q),rfl,rfl⟩
 .have c':¬ ru = "few" := λz=>c (by rw [z])
  exact ⟨_,rfl,m,_,rfl,.inl (SqL.of hm),λD hD=>k D _ ms hD (Zg hD _) Za (List.Perm.refl _) (λz=>absurd z c') λ_=>rfl⟩
theorem Zeo {kvs:List (Key×V)} {k:Key} (j:Key):valV (dropK kvs k) j=if j=k then none else valV kvs j:=by
 induction kvs with
 | nil=>by_cases e:j=k <;> simp [dropK,valV,e]
 | cons q r ih =>
  by_cases e:q.1=k
  .rw [Zka e,ih]
   by_cases c:j=k
   .rw [if_pos c,if_pos c]
   .rw [if_neg c,if_neg c,ZQ (λz=>c (z.symm.trans e))]
  .rw [Zkb e]
   by_cases c:q.1=j
   .rw [ZX c,if_neg (λz=>e (c.trans z)),ZX c]
   .rw [ZQ c,ih,ZQ c]
theorem ZkP (kvs:List (Key×V)) (k:Key):(dropK kvs k).length<=kvs.length:=List.length_filter_le ..
def ZiN (K:W.Frag):Sp:=λvs H Q _=>∃ (p:Addr) (b sh pl:Int) (ru:Str) (ls:Addr) (ads:List Addr) (du:Addr) (seq:List Int) (us:Int->Int) (n:Nat),vs=[.ref p,.int b]/\RoomAt K H p sh pl ru ls ads du seq us n/\b∈seq /\
 ∀ H',RoomAt K H' p sh pl ru ls ads du (seq.erase b) us n->SR ads du H H'->Q .non H'
theorem Zhd (F:Fun K "drop" "Room.drop" ZcR f fd) (T:Txt K mg) (qu_:MDef P w K mg base (clsOf K "Room") "need" 2 Zbm (ZiM K)) (ql_:MDef P w K mg base (clsOf K "Room") "mates" 2 Zan (ZeJ K)):FnOk P w K mg base CX0 3 f fd Zbl (ZiN K):=by
 refine F.ok sc_Room_drop (λvs H Q E h=>?_) (λcdv A outer st H vs Q E hr h=>?_)
 .obtain ⟨p,b,sh,pl,ru,ls,ads,du,seq,us,n,rfl,_⟩:=h
  rfl
 obtain ⟨p,b,sh,pl,ru,ls,ads,du,seq,us,n,rfl,R,hb,k⟩:=h
 have nd:=sc_Room_drop.nd
 refine ⟨_,(Zd (Zp (Zk qu_ hr.m T.qb_ (pv 0) (pc (pv 1) Zb)))
   (Zd (Zp (ZdU (K:=K) rfl (pe_bm PySem.F.plainAttrs_list PySem.F.slot_list_remove PySem.F.type_list_remove ZgL (Zk ql_ hr.m T.qb_ (pv 0) (pc (pv 1) Zb)) (pc (pv 1) Zb))))
   (Zi (Zp (Zix (Zm (K:=K) rfl (pv 0) rfl) (pv 1) ⟨rfl,rfl,rfl,rfl⟩))))),?_⟩
 obtain ⟨dx,h1⟩:=R.ob
 obtain ⟨kvs,h2,h3,h4⟩:=R.dc
 obtain ⟨o1,o2,o3,o4,o5,o6⟩:=R.off
 refine ⟨_,rfl,p,dx,_,rfl,h1,fl_no ..,_,rfl,p,b,sh,pl,ru,ls,ads,du,seq,us,n,rfl,R,hb,?_⟩
 refine ⟨_,rfl,p,dx,_,rfl,h1,fl_no ..,_,rfl,p,b,sh,pl,ru,ls,ads,du,seq,us,n,rfl,R,λs ad es hs had=>?_⟩
 have mad:ad∈ads:=mem_of_getElem? hs
 have hmem:b∈Zl sh (b % sh) seq:=mem_shelfS.mpr ⟨hb,rfl⟩
 refine ⟨.inl ⟨rfl,_,SqL.of had⟩,_,rfl,ad,_,b,rfl,rfl,had,hmem,?_⟩
 have S1:Shl (upd H ad (.lst (((Zl sh (b % sh) seq).erase b).map V.int))) ls ads sh (seq.erase b):=by
  refine R.st.put hs ?_ λs' hs'=>?_
  .rw [Zap,es]
  .rw [Zap]
   exact List.erase_of_not_mem λm=>hs' (by have:=(mem_shelfS.mp m).2; lia)
 have np:p≠ad:=λz=>o2 (z ▸ mad)
 have nd':du≠ad:=λz=>o5 (z ▸ mad)
 have h1':upd H ad (.lst (((Zl sh (b % sh) seq).erase b).map V.int)) p=some (.ins (clsOf K "Room") dx (flds sh pl ru ls du)):=by rw [Zc np]; exact h1
 have h2':upd H ad (.lst (((Zl sh (b % sh) seq).erase b).map V.int)) du=some (.dK kvs):=by rw [Zc nd']; exact h2
 refine ⟨_,rfl,p,_,dx,_,_,rfl,h1',T.qb_,T.vb_,ZdH ..,du,rfl,.inl ⟨_,.inl h2'⟩,_,rfl,kvs,Sum.inl b,_,h2',rfl,(by rw [h4 b,if_pos hb]),?_⟩
 refine k _ ⟨⟨dx,by rw [Zc o1]; exact h1'⟩,S1.other _ (Ne.symm o3) o5,⟨_,Za,⟨Nat.le_trans (ZkP _ _) h3.1,h3.2.drop b⟩,λx=>?_⟩,R.nd.erase b,R.s0,R.s1⟩ λx o e n1 n2=>?_
 .rw [Zeo,h4 x]
  by_cases c:x=b
  .subst c
   rw [if_pos rfl,if_neg (λm=>((List.Nodup.mem_erase_iff R.nd).mp m).1 rfl)]
  .rw [if_neg (λz=>c (Sum.inl.inj z))]
   by_cases m:x∈seq
   .rw [if_pos m,if_pos ((List.Nodup.mem_erase_iff R.nd).mpr ⟨c,m⟩)]
   .rw [if_neg m,if_neg (λz=>m (mem_of_mem_erase z))]
 .rw [Zc n1,Zc (λz:x=ad=>n2 (z ▸ mad))]
  exact e
def bump (us:Int->Int) (b:Int):Int->Int:=λx=>if x=b then us b+1 else us x
def spUse (K:W.Frag):Sp:=λvs H Q _=>∃ (p:Addr) (b sh pl:Int) (ru:Str) (ls:Addr) (ads:List Addr) (du:Addr) (seq:List Int) (us:Int->Int) (n:Nat),vs=[.ref p,.int b]/\RoomAt K H p sh pl ru ls ads du seq us n/\n<=900/\b∈seq/\seq.length<=900 /\
 ∀ H',RoomAt K H' p sh pl ru ls ads du (if ru = "old" then seq.erase b++[b] else seq) (bump us b) (n+1)->SR ads du H H'->Q .non H'
theorem ZhM (F:Fun K "use" "Room.use" ZdC f fd) (T:Txt K mg) (qu_:MDef P w K mg base (clsOf K "Room") "need" 2 Zbm (ZiM K)) (ql_:MDef P w K mg base (clsOf K "Room") "mates" 2 Zan (ZeJ K)):FnOk P w K mg base CX0 3 f fd ZcG (spUse K):=by
 refine F.ok sc_Room_use (λvs H Q E h=>?_) (λcdv A outer st H vs Q E hr h=>?_)
 .obtain ⟨p,b,sh,pl,ru,ls,ads,du,seq,us,n,rfl,_⟩:=h
  rfl
 obtain ⟨p,b,sh,pl,ru,ls,ads,du,seq,us,n,rfl,R,hn,hb,hsl,k⟩:=h
 have nd:=sc_Room_use.nd
 have hu:=hu_of hr
 refine ⟨_,(Zd (Zp (Zk qu_ hr.m T.qb_ (pv 0) (pc (pv 1) Zb)))
   (Zd (Znm hu (Zm (K:=K) rfl (pv 0) rfl) (pv 1) Zj Zod (λ_ _ _=>rfl))
   (Zi (ps_if (Zw op_eq (Zm (K:=K) rfl (pv 0) rfl) ZP (Zv _)) (Zd (pst 2 nd (Zk ql_ hr.m T.qb_ (pv 0) (pc (pv 1) Zb)))
   (Zd (Zp (ZdU (K:=K) rfl (pe_bm PySem.F.plainAttrs_list PySem.F.slot_list_remove PySem.F.type_list_remove ZgL (pv 2) (pc (pv 1) Zb))))
   (Zi (Zp (ZdU (K:=K) rfl (pe_bm PySem.F.plainAttrs_list PySem.F.slot_list_append PySem.F.type_list_append Zbi (pv 2) (pc (pv 1) Zb))))))) Zu)))),?_⟩
 obtain ⟨dx,h1⟩:=R.ob
 obtain ⟨kvs,h2,h3,h4⟩:=R.dc
 obtain ⟨o1,o2,o3,o4,o5,o6⟩:=R.off
 refine ⟨_,rfl,p,dx,_,rfl,h1,fl_no ..,_,rfl,p,b,sh,pl,ru,ls,ads,du,seq,us,n,rfl,R,hb,?_⟩
 refine ⟨_,rfl,p,_,dx,_,_,rfl,h1,T.qb_,T.vb_,ZdH ..,_,rfl,du,_,rfl,(by have q:=DGet.k (k:=Sum.inl b) h2; rw [h4 b,if_pos hb] at q; exact q),_,_,rfl,rfl,_,DPut.k (k:=Sum.inl b) h2 (ZA (by lia)),?_⟩
 have R1:RoomAt K (upd H du (.dK (putK kvs (Sum.inl b) (.int (us b+1))))) p sh pl ru ls ads du seq (bump us b) (n+1):=by
  refine ⟨⟨dx,by rw [Zc o1]; exact h1⟩,R.st.other _ (Ne.symm o3) o5,⟨_,Za,⟨Nat.le_trans (ZbS ..) (by have:=h3.1; lia),h3.2.put b _⟩,λx=>?_⟩,R.nd,R.s0,R.s1⟩
  rw [Zdj]
  unfold bump
  by_cases c:x=b
  .subst c
   rw [if_pos rfl,if_pos hb,if_pos rfl]
  .rw [if_neg (λz=>c (Sum.inl.inj z)),h4 x,if_neg c]
 have s1:SR ads du H (upd H du (.dK (putK kvs (Sum.inl b) (.int (us b+1))))):=λx o e n1 n2=>by rw [Zc n1]; exact e
 generalize upd H du (.dK (putK kvs (Sum.inl b) (.int (us b+1))))=H1 at *
 obtain ⟨dx1,g1⟩:=R1.ob
 refine ⟨_,rfl,p,_,dx1,_,_,rfl,g1,T.qb_,T.jg_,ZkM ..,rfl,_,rfl,?_⟩
 refine ZaD (λc=>?_) (λc=>?_)
 .have c':ru = "old" := by injection c
  rw [if_pos c'] at k
  refine ⟨_,rfl,p,dx1,_,rfl,g1,fl_no ..,_,rfl,p,b,sh,pl,ru,ls,ads,du,seq,_,_,rfl,R1,λs ad es hs had=>?_⟩
  have mad:ad∈ads:=mem_of_getElem? hs
  have hmem:b∈Zl sh (b % sh) seq:=mem_shelfS.mpr ⟨hb,rfl⟩
  refine ⟨_,rfl,.inl ⟨rfl,_,SqL.of had⟩,_,rfl,ad,_,b,rfl,rfl,had,hmem,?_⟩
  have ll:((Zl sh (b % sh) seq).erase b).length<=900:=Nat.le_trans List.length_erase_le (Nat.le_trans (List.length_filter_le ..) hsl)
  refine ⟨_,rfl,.inl ⟨rfl,_,SqL.of Za⟩,_,rfl,ad,_,_,rfl,rfl,Za,ZA (by rw [length_map]; lia),?_⟩
  rw [Zfx]
  have e1:(((Zl sh (b % sh) seq).erase b).map V.int++[V.int b])=((Zl sh (b % sh) seq).erase b++[b]).map V.int:=by rw [map_append]; rfl
  have S2:Shl (upd H1 ad (.lst (((Zl sh (b % sh) seq).erase b++[b]).map V.int))) ls ads sh (seq.erase b++[b]):=by
   refine R1.st.put hs ?_ λs' hs'=>?_
   .rw [ZbO,if_pos es.symm,Zap,es]
   .rw [ZbO,if_neg (by lia),Zap]
    exact List.erase_of_not_mem λm=>hs' (by have:=(mem_shelfS.mp m).2; lia)
  have np:p≠ad:=λz=>o2 (z ▸ mad)
  have ndu:du≠ad:=λz=>o5 (z ▸ mad)
  obtain ⟨kvs1,g2,g3,g4⟩:=R1.dc
  have hme:∀ x,x∈seq.erase b++[b]↔x∈seq:=λx=>by
   rw [mem_append,mem_singleton,List.Nodup.mem_erase_iff R.nd]
   constructor
   .rintro (⟨_,m⟩ | rfl)
    .exact m
    .exact hb
   .intro m
    by_cases z:x=b
    .exact .inr z
    .exact .inl ⟨z,m⟩
  rw [e1]
  refine k _ ⟨⟨dx1,by rw [Zc np]; exact g1⟩,S2,⟨kvs1,by rw [Zc ndu]; exact g2,g3,λx=>?_⟩,?_,R.s0,R.s1⟩ λx o e n1 n2=>?_
  .rw [g4 x]
   by_cases m:x∈seq
   .rw [if_pos m,if_pos ((hme x).mpr m)]
   .rw [if_neg m,if_neg (λz=>m ((hme x).mp z))]
  .refine ZeG (R.nd.erase b) λm=>((List.Nodup.mem_erase_iff R.nd).mp m).1 rfl
  .rw [Zc (λz:x=ad=>n2 (z ▸ mad))]
   exact s1 _ _ e n1 n2
 .have c':¬ ru = "old" := λz=>c (by rw [z])
  rw [if_neg c'] at k
  exact k _ R1 s1
end
def lessO (seq:List Int):Option Int->List Int
 | none=>seq
 | some g=>seq.erase g
def goneP (ru:Str) (us:Int->Int) (pl:Int) (ms:List Int) (gone:Option Int):Prop :=
 ((ms.length:Int)<pl->gone=none)/\(¬ (ms.length:Int)<pl->∃ (g:Int) (rest:List Int),gone=some g/\(g :: rest).Perm ms/\(ru = "few" -> (g :: rest).Pairwise (KLt us ms))/\(ru ≠ "few" -> g :: rest=ms))
theorem less_sub {seq:List Int} {g:Option Int}:(lessO seq g).Sublist seq:=by
 cases g with
 | none=>exact List.Sublist.refl _
 | some g=>exact erase_sublist
section
def ZkQ (K:W.Frag):Sp:=λvs H Q _=>∃ (p dx:Addr) (sh pl:Int) (ru:Str),vs=[.ref p,.int sh,.int pl,.str ru]/\H p=some (.ins (clsOf K "Room") dx [])/\1<=sh/\sh<=64 /\
 ∀ (ls:Addr) (ads:List Addr) (du:Addr) (H':Hp),RoomAt K H' p sh pl ru ls ads du [] (λ_=>0) 0->H ls=none->H du=none->(∀ ad∈ads,H ad=none)->(∀ b o,H b=some o->b≠p->H' b=some o)->Q .non H'
theorem Zhe (F:Fun K "__init__" "Room.__init__" ZbT f fd) (T:Txt K mg):FnOk P w K mg base CX0 1 f fd ZbU (ZkQ K):=by
 refine F.ok sc_Room_init (λvs H Q E h=>?_) (λcdv A outer st H vs Q E hr h=>?_)
 .obtain ⟨p,dx,sh,pl,ru,rfl,_⟩:=h
  rfl
 obtain ⟨p,dx,sh,pl,ru,rfl,hp,hs0,hs1,k⟩:=h
 have nd:=sc_Room_init.nd
 refine ⟨_,(Zd (ZaA (pv 0) (pv 1) rfl)
   (Zd (ZaA (pv 0) (pv 2) rfl)
   (Zd (ZaA (pv 0) (pv 3) rfl)
   (Zd (ZaA (pv 0) (ZbA (Zag (osc:=(Zh ZbT)) (oN:=N_Room_init) (N:=["number"]) (own:=1) (js:=[]) (by decide +kernel) rfl rfl) rfl (Zbg rfl T.q2_ (pc (pv 1) Zb)) (λ_ _ _ _ _ _=>(pgn 0 (show List.Nodup (["number"]:List Str) by decide +kernel))) (λ_ _ _ _ _ _=>(ZaY Zb))) rfl)
   (Zi (ZaA (pv 0) Zel rfl)))))),?_⟩
 refine ⟨_,rfl,_,rfl,p,_,dx,_,rfl,hp,T.qb_,T.vk_,(by show 0<1000; decide),?_⟩
 refine ⟨_,rfl,_,rfl,p,_,dx,_,rfl,Za,T.qb_,T.jo_,(by show 1<1000; decide),?_⟩
 refine ⟨_,rfl,_,rfl,p,_,dx,_,rfl,Za,T.qb_,T.jg_,(by show 2<1000; decide),?_⟩
 have e3:upd (upd (upd H p (.ins (clsOf K "Room") dx (putF "shelves" (.int sh) []))) p (.ins (clsOf K "Room") dx (putF "places" (.int pl) (putF "shelves" (.int sh) [])))) p (.ins (clsOf K "Room") dx (putF "rule" (.str ru) (putF "places" (.int pl) (putF "shelves" (.int sh) [])))) p=some (.ins (clsOf K "Room") dx (putF "rule" (.str ru) (putF "places" (.int pl) (putF "shelves" (.int sh) [])))):=Za
 have o3:∀ b o,H b=some o->b≠p->upd (upd (upd H p (.ins (clsOf K "Room") dx (putF "shelves" (.int sh) []))) p (.ins (clsOf K "Room") dx (putF "places" (.int pl) (putF "shelves" (.int sh) [])))) p (.ins (clsOf K "Room") dx (putF "rule" (.str ru) (putF "places" (.int pl) (putF "shelves" (.int sh) [])))) b=some o:=λb o e n=>by rw [Zc n,Zc n,Zc n]; exact e
 generalize upd (upd (upd H p (.ins (clsOf K "Room") dx (putF "shelves" (.int sh) []))) p (.ins (clsOf K "Room") dx (putF "places" (.int pl) (putF "shelves" (.int sh) [])))) p (.ins (clsOf K "Room") dx (putF "rule" (.str ru) (putF "places" (.int pl) (putF "shelves" (.int sh) []))))=H3 at *
 have f3:∀ b,H3 b=none->H b=none:=λb e=>by
  cases q:H b with
  | none=>rfl
  | some o =>
   by_cases z:b=p
   .rw [z,e3] at e; cases e
   .rw [o3 b o q z] at e; cases e
 refine ⟨_,rfl,sh,rfl,by lia,by lia,λls hls=>?_⟩
 refine ZcD (lo:=0) (n:=sh.toNat) (l:=ls) (λj ys σ G=>∃ (v0:Option V) (ads:List Addr),σ=[v0]/\ys=ads.map V.ref/\ads.length=j/\ads.Nodup/\ls∉ads/\G ls=some (.lst ys)/\(∀ ad∈ads,H3 ad=none/\G ad=some (.lst []))/\Same H3 G)
  ⟨none,[],rfl,rfl,rfl,nodup_nil,by simp,Za,by simp,Zg hls _⟩ ?_ ?_
 .rintro j ys σ G hj hy ⟨v0,ads,rfl,rfl,hlen,hnd,hoff,g1,g2,s1⟩
  refine ⟨(by show 0<=sizeLine; decide),λq hq=>?_⟩
  have nq:ls≠q:=Ze g1 hq
  have niq:q∉ads:=λm=>by rw [(g2 q m).2] at hq; cases hq
  refine CNx.of (Nat.le_trans (by lia:sh.toNat<=64) (by decide)) hj hy (by rw [Zc nq]; exact g1) ⟨_,ads++[q],rfl,by rw [map_append]; rfl,by rw [length_append,hlen]; rfl,ZeG hnd niq,?_,Za,λad m=>?_,?_⟩
  .intro m
   rcases List.mem_append.mp m with m | m
   .exact hoff m
   .exact nq (by simpa using m)
  .rcases List.mem_append.mp m with m | m
   .rw [Zc (λz:ad=ls=>hoff (z ▸ m)),Zc (λz:ad=q=>niq (z ▸ m))]
    exact g2 ad m
   .have e:ad=q:=by simpa using m
    subst e
    rw [Zc (Ne.symm nq)]
    exact ⟨s1.free hq,Za⟩
  .intro e o y
   rw [Zc (Ze y hls),Zc (Ze (s1 _ _ y) hq)]
   exact s1 _ _ y
 rintro ys σ G hy ⟨v0,ads,rfl,rfl,hlen,hnd,hoff,g1,g2,s1⟩
 have gp:=s1 _ _ e3
 refine ⟨_,rfl,p,_,dx,_,rfl,gp,T.qb_,T.vv_,(by show 3<1000; decide),?_⟩
 intro du hdu
 have nls:ls≠p:=λz=>by rw [z,e3] at hls; cases hls
 have nas:∀ ad∈ads,ad≠p:=λad m z=>by have q:=(g2 ad m).1; rw [z,e3] at q; cases q
 have npd:p≠du:=Ze (Za (H:=G) (a:=p) (o:=.ins (clsOf K "Room") dx (putF "standing" (.ref ls) (putF "rule" (.str ru) (putF "places" (.int pl) (putF "shelves" (.int sh) [])))))) hdu
 have gl:ls≠du:=λz=>by rw [← z,Zc nls,g1] at hdu; cases hdu
 have ga:du∉ads:=λm=>by rw [Zc (Ne.symm npd),(g2 du m).2] at hdu; cases hdu
 refine ⟨_,rfl,p,_,dx,_,rfl,(by rw [Zc npd]; exact Za),T.qb_,T.vb_,(by show 4<1000; decide),?_⟩
 have hduH3:H3 du=none:=by
  rw [Zc (Ne.symm npd)] at hdu
  exact s1.free hdu
 refine k ls ads du _ ⟨⟨dx,Za⟩,⟨?_,hlen,hnd,hoff,λi ad e=>?_⟩,⟨[],?_,⟨Nat.le_refl _,KI.nil⟩,λb=>by simp [valV]⟩,nodup_nil,hs0,hs1⟩ (f3 _ hls) (f3 _ hduH3) (λad m=>f3 _ (g2 ad m).1) λb o e n=>?_
 .rw [Zc nls,Zc gl,Zc nls]
  exact g1
 .have m:=mem_of_getElem? e
  rw [Zc (nas ad m),Zc (λz:ad=du=>ga (z ▸ m)),Zc (nas ad m)]
  exact (g2 ad m).2
 .rw [Zc (Ne.symm npd)]
  exact Za
 .have q:=s1 _ _ (o3 b o e n)
  have nb:b≠du:=λz=>by
   rw [← z,Zc n,q] at hdu
   cases hdu
  rw [Zc n,Zc nb,Zc n]
  exact q
def zero (us:Int->Int) (b:Int):Int->Int:=λx=>if x=b then 0 else us x
def ZhN (K:W.Frag):Sp:=λvs H Q _=>∃ (p:Addr) (b sh pl:Int) (ru:Str) (ls:Addr) (ads:List Addr) (du:Addr) (seq:List Int) (us:Int->Int) (n:Nat),vs=[.ref p,.int b]/\RoomAt K H p sh pl ru ls ads du seq us n/\Tb K H/\n<=900/\b∉seq/\1<=pl/\(Zl sh (b % sh) seq).length<64 /\
 ∀ (gone:Option Int) (H':Hp),goneP ru us pl (Zl sh (b % sh) seq) gone->RoomAt K H' p sh pl ru ls ads du (lessO seq gone++[b]) (zero us b) (n+1)->SR ads du H H'->Q (optV gone) H'
def Zgb (K:W.Frag):Sp:=λvs H Q _=>∃ (p:Addr) (b sh pl:Int) (ru:Str) (ls:Addr) (ads:List Addr) (du:Addr) (seq:List Int) (us:Int->Int) (n:Nat),vs=[.ref p,.int b]/\RoomAt K H p sh pl ru ls ads du seq us n/\Tb K H/\1<=pl/\(Zl sh (b % sh) seq).length<64 /\
 ∀ (gone:Option Int) (H':Hp),goneP ru us pl (Zl sh (b % sh) seq) gone->Same H H'->Q (optV gone) H'
theorem Zdq (F:Fun K "leaver_for" "Room.leaver_for" ZaF f fd) (T:Txt K mg) (ql_:MDef P w K mg base (clsOf K "Room") "mates" 2 Zan (ZeJ K)) (q6_:MDef P w K mg base (clsOf K "Room") "going" 2 Zao (ZfZ K)):FnOk P w K mg base CX0 3 f fd ZY (Zgb K):=by
 refine F.ok sc_Room_leaver_for (λvs H Q E h=>?_) (λcdv A outer st H vs Q E hr h=>?_)
 .obtain ⟨p,b,sh,pl,ru,ls,ads,du,seq,us,n,rfl,_⟩:=h
  rfl
 obtain ⟨p,b,sh,pl,ru,ls,ads,du,seq,us,n,rfl,R,tb,hpl,h64,k⟩:=h
 have nd:=sc_Room_leaver_for.nd
 have hu:=hu_of hr
 refine ⟨_,(Zd (pst 2 nd (Zk ql_ hr.m T.qb_ (pv 0) (pc (pv 1) Zb)))
   (Zd (ps_if (Zw op_lt (Zr (Zx (K:=K) rfl) rfl T.vp_ PySem.boot_len (pc (pv 2) Zb)) (Zm (K:=K) rfl (pv 0) rfl) (Zv _)) (Zi (Zt Zmq)) Zu)
   (Zi (Zt (pe_ix (Zn (K:=K) rfl) (Zk q6_ hr.m T.qb_ (pv 0) (pc (pv 2) Zb)) Zj (λ_ _=>rfl)))))),?_⟩
 obtain ⟨dx,h1⟩:=R.ob
 refine ⟨_,rfl,p,dx,_,rfl,h1,fl_no ..,_,rfl,p,b,sh,pl,ru,ls,ads,du,seq,us,n,rfl,R,λs ad es hs had=>?_⟩
 have hnd:(Zl sh (b % sh) seq).Nodup:=R.nd.sublist filter_sublist
 refine ⟨_,rfl,ad,_,rfl,.inl (SqL.of had),_,rfl,p,_,dx,_,_,rfl,h1,T.qb_,T.jo_,ZkN ..,_,_,rfl,rfl,_,rfl,?_⟩
 rw [length_map]
 refine ZaD (λc=>?_) (λc=>?_)
 .exact k none H ⟨λ_=>rfl,λz=>absurd z (by lia)⟩ (Same.refl _)
 .refine ⟨_,rfl,p,dx,_,rfl,h1,fl_no ..,_,rfl,p,ad,Zl sh (b % sh) seq,sh,pl,ru,ls,ads,du,seq,us,n,rfl,R,tb,had,h64,hnd,(λx m=>(mem_shelfS.mp m).1),λD H' os hD sm hl po s1 s2=>?_⟩
  have lo:=po.length_eq
  match os,hl,po,s1,s2,lo with
  | [],_,_,_,_,lo=>exact absurd lo (by simp; lia)
  | g :: rest,hl,po,s1,s2,lo =>
   refine ⟨D,_,_,_,rfl,rfl,SqL.of hl,atI0,?_⟩
   exact k (some g) H' ⟨λz=>absurd c (by lia),λ_=>⟨g,rest,rfl,po,s1,s2⟩⟩ sm
theorem Zgc (F:Fun K "bring" "Room.bring" Zcp f fd) (T:Txt K mg) (qn_:MDef P w K mg base (clsOf K "Room") "has" 1 Zbf (spHas K)) (qs_:MDef P w K mg base (clsOf K "Room") "leaver_for" 3 ZY (Zgb K)) (ql_:MDef P w K mg base (clsOf K "Room") "mates" 2 Zan (ZeJ K)) (qv_:MDef P w K mg base (clsOf K "Room") "drop" 3 Zbl (ZiN K)):FnOk P w K mg base CX0 4 f fd ZbC (ZhN K):=by
 refine F.ok sc_Room_bring (λvs H Q E h=>?_) (λcdv A outer st H vs Q E hr h=>?_)
 .obtain ⟨p,b,sh,pl,ru,ls,ads,du,seq,us,n,rfl,_⟩:=h
  rfl
 obtain ⟨p,b,sh,pl,ru,ls,ads,du,seq,us,n,rfl,R,tb,hn,hb,hpl,h64,k⟩:=h
 have nd:=sc_Room_bring.nd
 have hu:=hu_of hr
 refine ⟨_,(Zd (ps_if (Zab (Zk qn_ hr.m T.qb_ (pv 0) (pc (pv 1) Zb))) (Zi ps_no) Zu)
   (Zd (pst 2 nd (Zk qs_ hr.m T.qb_ (pv 0) (pc (pv 1) Zb)))
   (Zd (ps_if (Zgs (ZfA (pv 2))) (Zi (Zp (Zk qv_ hr.m T.qb_ (pv 0) (pc (pv 2) Zb)))) Zu)
   (Zd (Zp (ZdU (K:=K) rfl (pe_bm PySem.F.plainAttrs_list PySem.F.slot_list_append PySem.F.type_list_append Zbi (Zk ql_ hr.m T.qb_ (pv 0) (pc (pv 1) Zb)) (pc (pv 1) Zb))))
   (Zd (ZfK hu (Zm (K:=K) rfl (pv 0) rfl) (pv 1) Zj rfl)
   (Zi (Zt (pv 2)))))))),?_⟩
 obtain ⟨dx,h1⟩:=R.ob
 refine ⟨_,rfl,p,dx,_,rfl,h1,fl_no ..,_,rfl,p,b,sh,pl,ru,ls,ads,du,seq,us,n,rfl,R,?_⟩
 rw [decide_eq_false hb]
 refine ⟨_,rfl,ifF rfl ?_⟩
 refine ⟨_,rfl,p,dx,_,rfl,h1,fl_no ..,_,rfl,p,b,sh,pl,ru,ls,ads,du,seq,us,n,rfl,R,tb,hpl,h64,λgone H1 gp sm=>?_⟩
 refine gN ?_
 dsimp only
 have R0:=R.same sm
 have hnd:(Zl sh (b % sh) seq).Nodup:=R.nd.sublist filter_sublist
 refine cpI (λσ G=>σ=[some (.ref p),some (.int b),some (optV gone)]/\RoomAt K G p sh pl ru ls ads du (lessO seq gone) us n/\SR ads du H G) (λD' _ k'=>?_) ?_
 .match gone,gp with
  | none,gp=>exact ⟨_,rfl,_,rfl,ifF rfl (k' _ _ ⟨rfl,R0,SR.of sm⟩)⟩
  | some g,gp =>
   have hg:g∈Zl sh (b % sh) seq:=by
    by_cases c:((Zl sh (b % sh) seq).length:Int)<pl
    .exact absurd (gp.1 c) (by simp)
    .obtain ⟨g',rest,e,po,_⟩:=gp.2 c
     injection e with e
     subst e
     exact po.mem_iff.mp mem_cons_self
   obtain ⟨dx',h1'⟩:=R0.ob
   exact ⟨_,rfl,_,rfl,ifT rfl ⟨_,rfl,p,dx',_,rfl,h1',fl_no ..,_,rfl,p,g,sh,pl,ru,ls,ads,du,seq,us,n,rfl,R0,(mem_shelfS.mp hg).1,λH2 R2 s3=>k' _ _ ⟨rfl,R2,(SR.of sm).trans s3⟩⟩⟩
 rintro _ G ⟨rfl,R1,s1⟩
 obtain ⟨dx1,g1⟩:=R1.ob
 obtain ⟨kvs,g2,g3,g4⟩:=R1.dc
 obtain ⟨o1,o2,o3,o4,o5,o6⟩:=R1.off
 refine ⟨_,rfl,p,dx1,_,rfl,g1,fl_no ..,_,rfl,p,b,sh,pl,ru,ls,ads,du,lessO seq gone,us,n,rfl,R1,λs ad es hs had0=>?_⟩
 have mad:ad∈ads:=mem_of_getElem? hs
 have had1:=R1.st.at_ s ad hs
 have ll:(Zl sh s (lessO seq gone)).length<=64:=by
  have q:(Zl sh s (lessO seq gone)).Sublist (Zl sh s seq):=List.Sublist.filter _ (less_sub (g:=gone))
  have q2:=q.length_le
  rw [es] at q2 ⊢
  lia
 refine ⟨.inl ⟨rfl,_,SqL.of had1⟩,_,rfl,ad,_,_,rfl,rfl,had1,ZA (by rw [length_map]; lia),?_⟩
 have nb:b∉lessO seq gone:=λm=>hb (less_sub.subset m)
 have e1:((Zl sh s (lessO seq gone)).map V.int++[V.int b])=(Zl sh s (lessO seq gone)++[b]).map V.int:=by rw [map_append]; rfl
 rw [e1]
 have S2:Shl (upd G ad (.lst ((Zl sh s (lessO seq gone)++[b]).map V.int))) ls ads sh (lessO seq gone++[b]):=by
  refine R1.st.put hs ?_ λs' hs'=>?_
  .rw [ZbO,if_pos es.symm]
  .rw [ZbO,if_neg (by lia)]
 have np:p≠ad:=λz=>o2 (z ▸ mad)
 have ndu:du≠ad:=λz=>o5 (z ▸ mad)
 have g1':upd G ad (.lst ((Zl sh s (lessO seq gone)++[b]).map V.int)) p=some (.ins (clsOf K "Room") dx1 (flds sh pl ru ls du)):=by rw [Zc np]; exact g1
 have g2':upd G ad (.lst ((Zl sh s (lessO seq gone)++[b]).map V.int)) du=some (.dK kvs):=by rw [Zc ndu]; exact g2
 refine ⟨_,rfl,p,_,dx1,_,_,rfl,g1',T.qb_,T.vb_,ZdH ..,_,rfl,du,_,rfl,DPut.k (k:=Sum.inl b) g2' (ZA (by lia)),?_⟩
 refine ⟨_,rfl,k gone _ gp ⟨⟨dx1,by rw [Zc o1]; exact g1'⟩,S2.other _ (Ne.symm o3) o5,⟨_,Za,⟨Nat.le_trans (ZbS ..) (by have:=g3.1; lia),g3.2.put b _⟩,λx=>?_⟩,ZeG R1.nd nb,R.s0,R.s1⟩ λx o e n1 n2=>?_⟩
 .rw [Zdj]
  unfold zero
  by_cases c:x=b
  .subst c
   rw [if_pos rfl,if_pos (mem_append_right _ (List.mem_singleton.mpr rfl)),if_pos rfl]
  .rw [if_neg (λz=>c (Sum.inl.inj z)),g4 x,if_neg c]
   by_cases m:x∈lessO seq gone
   .rw [if_pos m,if_pos (mem_append_left _ m)]
   .rw [if_neg m,if_neg (λz=>(List.mem_append.mp z).elim m λq=>c (List.mem_singleton.mp q))]
 .rw [Zc n1,Zc (λz:x=ad=>n2 (z ▸ mad))]
  exact s1 _ _ e n1 n2
end
theorem Zhf:∀ {a b:List Int},a.Nodup->(∀ x∈a,x∈b)->a.length<=b.length
 | [],_,_,_=>Nat.zero_le _
 | x :: a,b,nd,h=>by
  have nd':=List.nodup_cons.mp nd
  have mx:=h x mem_cons_self
  have q:=Zhf (b:=b.erase x) nd'.2 λy hy=>(List.mem_erase_of_ne (λz:y=x=>nd'.1 (by rw [← z]; exact hy))).mpr (h y (mem_cons_of_mem _ hy))
  rw [List.length_erase_of_mem mx] at q
  have:=List.length_pos_of_mem mx
  show a.length+1<=b.length
  lia
theorem ZkR {kvs:List (Key×V)} {seq:List Int} (h:KI kvs) (nd:seq.Nodup) (e:∀ b,(valV kvs (Sum.inl b:Key)).isSome=true↔b∈seq):kvs.length=seq.length:=by
 obtain ⟨ks,h4,h5⟩:=h
 have per:ks.Perm seq:=by
  refine (List.perm_ext_iff_of_nodup h5 nd).mpr λb=>?_
  rw [← e b,ZfX,h4,mem_map]
  constructor
  .intro m
   exact ⟨b,m,rfl⟩
  .rintro ⟨x,hx,q⟩
   rw [← Sum.inl.inj q]; exact hx
 have l:=congrArg List.length h4
 rw [length_map,length_map] at l
 rw [l,per.length_eq]
theorem RoomAt.norm {K:W.Frag} {H:Hp} {p:Addr} {sh pl:Int} {ru:Str} {ls:Addr} {ads:List Addr} {du:Addr} {seq:List Int} {us:Int->Int} {n:Nat} (R:RoomAt K H p sh pl ru ls ads du seq us n):RoomAt K H p sh pl ru ls ads du seq us seq.length:=by
 obtain ⟨kvs,h2,⟨h3,h5⟩,h4⟩:=R.dc
 refine ⟨R.ob,R.st,⟨kvs,h2,⟨Nat.le_of_eq (ZkR h5 R.nd λb=>?_),h5⟩,h4⟩,R.nd,R.s0,R.s1⟩
 rw [h4 b]
 by_cases c:b∈seq
 .simp [c]
 .simp [c]
structure SA where
 sp:Addr
 rp:Addr
 ls:Addr
 ads:List Addr
 du:Addr
 dh:Addr
 df:Addr
structure Cf where
 sh:Int
 pl:Int
 ru:Str
 late:Bool
def sflds (rp:Addr) (late:Bool) (dh df:Addr):List (Str×V):=putF "fresh" (.ref df) (putF "held" (.ref dh) (putF "late" (.bl late) (putF "room" (.ref rp) [])))
theorem ZiO (rp:Addr) (late:Bool) (dh df:Addr):(sflds rp late dh df).lookup ("fresh" : Str)=some (.ref df):=by
 unfold sflds; rw [Zf,if_pos rfl]
theorem Zgd (rp:Addr) (late:Bool) (dh df:Addr):(sflds rp late dh df).lookup ("held" : Str)=some (.ref dh):=by
 unfold sflds; rw [Zf,if_neg (by decide +kernel),Zf,if_pos rfl]
theorem ZkS (rp:Addr) (late:Bool) (dh df:Addr):(sflds rp late dh df).lookup ("late" : Str)=some (.bl late):=by
 unfold sflds; rw [Zf,if_neg (by decide +kernel),Zf,if_neg (by decide +kernel),Zf,if_pos rfl]
theorem Zcg (rp:Addr) (late:Bool) (dh df:Addr):(sflds rp late dh df).lookup ("room" : Str)=some (.ref rp):=by
 unfold sflds; rw [Zf,if_neg (by decide +kernel),Zf,if_neg (by decide +kernel),Zf,if_neg (by decide +kernel),Zf,if_pos rfl]
theorem sf_no (rp:Addr) (late:Bool) (dh df:Addr) {m:Str} (h1:¬ m = "fresh" := by decide +kernel) (h2:¬ m = "held" := by decide +kernel) (h3:¬ m = "late" := by decide +kernel) (h4:¬ m = "room" := by decide +kernel):(sflds rp late dh df).lookup m=none:=by
 unfold sflds
 rw [Zf,if_neg h1,Zf,if_neg h2,Zf,if_neg h3,Zf,if_neg h4]
 rfl
structure Rm where
 seq:List Int
 us:Int->Int
 wd:Int->List Int
 fr:Int->Bool
def Mt:HO->Prop
 | .lst _=>True
 | .dK _=>True
 | .ins _ _ _=>True
 | _=>False
structure Pst (O:Addr->Prop) (H H':Hp) (O':Addr->Prop):Prop where
 kp:∀ x o,H x=some o->(O x->¬ Mt o)->H' x=some o
 fr:∀ x,O' x->O x\/H x=none
theorem Pst.trans {O O1 O2:Addr->Prop} {H H1 H2:Hp} (a:Pst O H H1 O1) (b:Pst O1 H1 H2 O2):Pst O H H2 O2:=by
 refine ⟨λx o e n=>b.kp x o (a.kp x o e n) λh=>(a.fr x h).elim n (λz=>by rw [e] at z; cases z),λx h=>(b.fr x h).elim (a.fr x) λz=>?_⟩
 by_cases c:O x
 .exact .inl c
 .cases q:H x with
  | none=>exact .inr rfl
  | some o=>rw [a.kp x o q λh=>absurd h c] at z; cases z
theorem Pst.same {O:Addr->Prop} {H H':Hp} (s:Same H H'):Pst O H H' O:=⟨λx o e _=>s x o e,λ_ h=>.inl h⟩
theorem RoomAt.frame {K:W.Frag} {H H':Hp} {p:Addr} {sh pl:Int} {ru:Str} {ls:Addr} {ads:List Addr} {du:Addr} {seq:List Int} {us:Int->Int} {n:Nat} (R:RoomAt K H p sh pl ru ls ads du seq us n) (h:∀ x o,x=p\/x=ls\/x∈ads\/x=du->H x=some o->H' x=some o):RoomAt K H' p sh pl ru ls ads du seq us n:=by
 obtain ⟨dx,h1⟩:=R.ob
 obtain ⟨kvs,h2,h3⟩:=R.dc
 exact ⟨⟨dx,h _ _ (.inl rfl) h1⟩,⟨h _ _ (.inr (.inl rfl)) R.st.top,R.st.len,R.st.nd,R.st.off,λi ad e=>h _ _ (.inr (.inr (.inl (mem_of_getElem? e)))) (R.st.at_ i ad e)⟩,⟨kvs,h _ _ (.inr (.inr (.inr rfl))) h2,h3⟩,R.nd,R.s0,R.s1⟩
structure HldAt (H:Hp) (dh ls:Addr) (ads:List Addr) (O:Addr->Prop) (seq:List Int) (wd:Int->List Int) (kvs:List (Key×V)) (wl:Int->Addr):Prop where
 dc:H dh=some (.dK kvs)
 ki:KI kvs
 v:∀ b,valV kvs (Sum.inl b:Key)=if b∈seq then some (.ref (wl b)) else none
 at_:∀ b∈seq,H (wl b)=some (.lst ((wd b).map V.int))/\O (wl b)/\wl b∉ads/\wl b≠ls
 inj:∀ b∈seq,∀ c∈seq,wl b=wl c->b=c
structure Sto (K:W.Frag) (H:Hp) (a:SA) (c:Cf) (seq:List Int) (us:Int->Int) (O:Addr->Prop):Prop where
 ob:∃ dx,H a.sp=some (.ins (clsOf K "Store") dx (sflds a.rp c.late a.dh a.df))
 room:RoomAt K H a.rp c.sh c.pl c.ru a.ls a.ads a.du seq us seq.length
 d1:∃ kvs,H a.dh=some (.dK kvs)
 d2:∃ kvs,H a.df=some (.dK kvs)
 n1:a.du≠a.dh
 n2:a.df≠a.dh
 n3:a.df≠a.du
 own:∀ x,x=a.sp\/x=a.rp\/x=a.ls\/x∈a.ads\/x=a.du\/x=a.dh\/x=a.df->O x
 ex:∀ x,O x->H x≠none
structure StoreAt (K:W.Frag) (H:Hp) (a:SA) (c:Cf) (s:Rm) (O:Addr->Prop):Prop where
 sto:Sto K H a c s.seq s.us O
 held:∃ kvs wl,HldAt H a.dh a.ls a.ads O s.seq s.wd kvs wl
 fresh:∃ kvs,H a.df=some (.dK kvs)/\KI kvs/\∀ b,valV kvs (Sum.inl b:Key)=if s.fr b=true then some (.bl true) else none
 ffr:∀ b,s.fr b=true->b∈s.seq
section
variable {K:W.Frag} {H H':Hp} {a:SA} {c:Cf} {s:Rm} {O O':Addr->Prop} {kvs:List (Key×V)} {wl:Int->Addr} {seq:List Int} {us:Int->Int}
theorem HldAt.frame {dh ls:Addr} {ads:List Addr} {wd:Int->List Int} (h:HldAt H dh ls ads O seq wd kvs wl) (hO:O dh) (f:∀ x o,O x->H x=some o->H' x=some o):HldAt H' dh ls ads O seq wd kvs wl :=
 ⟨f _ _ hO h.dc,h.ki,h.v,λb m=>⟨f _ _ (h.at_ b m).2.1 (h.at_ b m).1,(h.at_ b m).2⟩,h.inj⟩
theorem ex_of {x:Addr} (h:H x≠none) (f:∀ o,H x=some o->H' x=some o):H' x≠none:=λz=>by
 cases q:H x with
 | none=>exact h q
 | some o=>rw [f o q] at z; cases z
theorem ZkT {x y:Addr} {o:HO} (h:H x≠none):upd H y o x≠none:=by
 by_cases z:x=y
 .rw [z,Za]; simp
 .rw [Zc z]; exact h
theorem Sto.frame (S:Sto K H a c seq us O) (f:∀ x o,O x->H x=some o->H' x=some o):Sto K H' a c seq us O:=by
 obtain ⟨dx,h1⟩:=S.ob
 obtain ⟨k1,h2⟩:=S.d1
 obtain ⟨k2,h3⟩:=S.d2
 exact ⟨⟨dx,f _ _ (S.own _ (by simp)) h1⟩,S.room.frame λx o m e=>f x o (S.own x (by rcases m with m | m | m | m <;> simp [m])) e,⟨k1,f _ _ (S.own _ (by simp)) h2⟩,⟨k2,f _ _ (S.own _ (by simp)) h3⟩,S.n1,S.n2,S.n3,S.own,λx h=>ex_of (S.ex x h) λo=>f x o h⟩
theorem StoreAt.frame (S:StoreAt K H a c s O) (f:∀ x o,O x->H x=some o->H' x=some o):StoreAt K H' a c s O:=by
 obtain ⟨kvs,wl,h2⟩:=S.held
 obtain ⟨kf,h3,h4⟩:=S.fresh
 exact ⟨S.sto.frame f,⟨kvs,wl,h2.frame (S.sto.own _ (by simp)) f⟩,⟨kf,f _ _ (S.sto.own _ (by simp)) h3,h4⟩,S.ffr⟩
theorem StoreAt.same (S:StoreAt K H a c s O) (h:Same H H'):StoreAt K H' a c s O:=S.frame λx o _ e=>h x o e
theorem Sto.same (S:Sto K H a c seq us O) (h:Same H H'):Sto K H' a c seq us O:=S.frame λx o _ e=>h x o e
theorem Sto.kinds (S:Sto K H a c seq us O) {x:Addr} {kvs:List (Key×V)} (h:H x=some (.dK kvs)):x≠a.sp/\x≠a.rp/\x≠a.ls/\x∉a.ads:=by
 obtain ⟨dx,h1⟩:=S.ob
 obtain ⟨dr,h2⟩:=S.room.ob
 refine ⟨λz=>?_,λz=>?_,λz=>?_,λm=>?_⟩
 .rw [← z,h] at h1; cases h1
 .rw [← z,h] at h2; cases h2
 .have q:=S.room.st.top; rw [← z,h] at q; cases q
 .obtain ⟨xs,e⟩:=S.room.st.one m; rw [h] at e; cases e
theorem Sto.put (S:Sto K H a c seq us O) {x:Addr} (hx:x=a.dh\/x=a.df) (kvs:List (Key×V)):Sto K (upd H x (.dK kvs)) a c seq us O:=by
 obtain ⟨kx,ex⟩:∃ kx,H x=some (.dK kx):=hx.elim (λz=>z ▸ S.d1) λz=>z ▸ S.d2
 obtain ⟨q1,q2,q3,q4⟩:=S.kinds ex
 have nu:x≠a.du:=hx.elim (λz=>z ▸ Ne.symm S.n1) λz=>z ▸ S.n3
 obtain ⟨dx,h1⟩:=S.ob
 have dd:∀ {y},(∃ k,H y=some (.dK k))->∃ k,upd H x (.dK kvs) y=some (.dK k):=λ{y} h=>by
  by_cases z:y=x
  .rw [z,Za]; exact ⟨_,rfl⟩
  .rw [Zc z]; exact h
 exact ⟨⟨dx,by rw [Zc (Ne.symm q1)]; exact h1⟩,S.room.frame λy o m e=>by
  rw [Zc (λz:y=x=>by subst z; exact m.elim q2 λm=>m.elim q3 λm=>m.elim q4 nu)]; exact e,dd S.d1,dd S.d2,S.n1,S.n2,S.n3,S.own,λy h=>ZkT (S.ex y h)⟩
theorem Sto.mono (S:Sto K H a c seq us O) (h1:∀ x,x=a.sp\/x=a.rp\/x=a.ls\/x∈a.ads\/x=a.du\/x=a.dh\/x=a.df->O' x) (h2:∀ x,O' x->H x≠none):Sto K H a c seq us O':=⟨S.ob,S.room,S.d1,S.d2,S.n1,S.n2,S.n3,h1,h2⟩
theorem Sto.deed {seq':List Int} {us':Int->Int} {n:Nat} (S:Sto K H a c seq us O) (R:RoomAt K H' a.rp c.sh c.pl c.ru a.ls a.ads a.du seq' us' n) (r:SR a.ads a.du H H'):Sto K H' a c seq' us' O:=by
 obtain ⟨dx,h1⟩:=S.ob
 obtain ⟨k1,h2⟩:=S.d1
 obtain ⟨k2,h3⟩:=S.d2
 refine ⟨⟨dx,r.keep S.room h1 (λ_ z=>by cases z) (λ_ z=>by cases z)⟩,R.norm,⟨k1,r _ _ h2 (Ne.symm S.n1) (S.kinds h2).2.2.2⟩,⟨k2,r _ _ h3 S.n3 (S.kinds h3).2.2.2⟩,S.n1,S.n2,S.n3,S.own,λx h=>?_⟩
 by_cases z:x=a.du
 .obtain ⟨kv,e,_⟩:=R.dc
  rw [z,e]; simp
 .by_cases m:x∈a.ads
  .obtain ⟨xs,e⟩:=R.st.one m
   rw [e]; simp
  .exact ex_of (S.ex x h) λo e=>r x o e z m
theorem Sto.pst (S:Sto K H a c seq us O) (r:SR a.ads a.du H H'):Pst O H H' O:=by
 refine ⟨λx o e n=>r x o e (λz=>?_) λm=>?_,λ_ h=>.inl h⟩
 .obtain ⟨kv,q,_⟩:=S.room.dc
  rw [z,q] at e
  cases e
  exact n (S.own x (by simp [z])) trivial
 .obtain ⟨xs,q⟩:=S.room.st.one m
  rw [q] at e
  cases e
  exact n (S.own x (by simp [m])) trivial
theorem Sto.hld {wd:Int->List Int} {seq':List Int} (S:Sto K H a c seq us O) (h:HldAt H a.dh a.ls a.ads O seq' wd kvs wl) (r:SR a.ads a.du H H'):HldAt H' a.dh a.ls a.ads O seq' wd kvs wl:=by
 obtain ⟨kr,g,_⟩:=S.room.dc
 exact ⟨r _ _ h.dc (Ne.symm S.n1) (S.kinds h.dc).2.2.2,h.ki,h.v,λx m=>⟨r _ _ (h.at_ x m).1 (λz=>by have e:=(h.at_ x m).1; rw [z,g] at e; cases e) (h.at_ x m).2.2.1,(h.at_ x m).2⟩,h.inj⟩
theorem HldAt.seqs {dh ls:Addr} {ads:List Addr} {seq':List Int} {wd:Int->List Int} (h:HldAt H dh ls ads O seq wd kvs wl) (hs:∀ b,b∈seq'↔b∈seq):HldAt H dh ls ads O seq' wd kvs wl :=
 ⟨h.dc,h.ki,λb=>by rw [h.v b]; exact ite_congr (propext (hs b).symm) (λ_=>rfl) λ_=>rfl,λb m=>h.at_ b ((hs b).mp m),λb m c m'=>h.inj b ((hs b).mp m) c ((hs c).mp m')⟩
theorem StoreAt.deed {seq':List Int} {us':Int->Int} {n:Nat} (S:StoreAt K H a c s O) (R:RoomAt K H' a.rp c.sh c.pl c.ru a.ls a.ads a.du seq' us' n) (r:SR a.ads a.du H H') (hs:∀ b,b∈seq'↔b∈s.seq):StoreAt K H' a c ⟨seq',us',s.wd,s.fr⟩ O:=by
 obtain ⟨kvs,wl,h2⟩:=S.held
 obtain ⟨kf,h3,h4⟩:=S.fresh
 exact ⟨S.sto.deed R r,⟨kvs,wl,(S.sto.hld h2 r).seqs hs⟩,⟨kf,r _ _ h3 S.sto.n3 (S.sto.kinds h3).2.2.2,h4⟩,λb h=>(hs b).mpr (S.ffr b h)⟩
theorem Sto.pput (S:Sto K H a c seq us O) {x:Addr} (hx:x=a.dh\/x=a.df) (kvs:List (Key×V)):Pst O H (upd H x (.dK kvs)) O:=by
 refine ⟨λy o e n=>?_,λ_ h=>.inl h⟩
 rw [Zc (λz=>?_)]
 .exact e
 obtain ⟨kx,ex⟩:∃ kx,H x=some (.dK kx):=hx.elim (λz=>z ▸ S.d1) λz=>z ▸ S.d2
 rw [z,ex] at e
 cases e
 exact n (S.own y (by rw [z]; rcases hx with h | h <;> simp [h])) trivial
theorem HldAt.put {dh ls:Addr} {ads:List Addr} {seq':List Int} {wd:Int->List Int} (h:HldAt H dh ls ads O seq wd kvs wl) {b:Int} {l:Addr} (ws:List Int) (hl:H l=none) (ex:∀ x,O x->H x≠none) (na:∀ x∈ads,H x≠none) (nl:H ls≠none) (hs:∀ x,x∈seq'↔x=b\/x∈seq) :
  HldAt (upd (upd H l (.lst (ws.map V.int))) dh (.dK (putK kvs (Sum.inl b) (.ref l)))) dh ls ads (λx=>O x\/x=l) seq' (λx=>if x=b then ws else wd x) (putK kvs (Sum.inl b) (.ref l)) (λx=>if x=b then l else wl x):=by
 have nd:l≠dh:=λz=>by rw [z,h.dc] at hl; cases hl
 have nw:∀ x∈seq,wl x≠l:=λx m z=>by have q:=(h.at_ x m).1; rw [z,hl] at q; cases q
 have md:∀ x,x∈seq'->x≠b->x∈seq:=λx m n=>((hs x).mp m).resolve_left n
 refine ⟨Za,h.ki.put b _,λx=>?_,λx m=>?_,λx m y m' e=>?_⟩
 .rw [Zdj]
  by_cases z:x=b
  .rw [if_pos (by rw [z]),if_pos ((hs x).mpr (.inl z)),if_pos z]
  .rw [if_neg (λq=>z (Sum.inl.inj q)),h.v x,if_neg z]
   exact ite_congr (propext ⟨λm=>(hs x).mpr (.inr m),λm=>md x m z⟩) (λ_=>rfl) λ_=>rfl
 .by_cases z:x=b
  .rw [if_pos z,if_pos z,Zc nd,Za]
   exact ⟨rfl,.inr rfl,λm=>na l m hl,λq=>nl (q ▸ hl)⟩
  .rw [if_neg z,if_neg z]
   obtain ⟨e1,e2,e3,e4⟩:=h.at_ x (md x m z)
   exact ⟨by rw [Zc (λq=>by rw [q,h.dc] at e1; cases e1),Zc (nw x (md x m z))]; exact e1,.inl e2,e3,e4⟩
 .by_cases z:x=b
  .by_cases z':y=b
   .rw [z,z']
   .rw [if_pos z,if_neg z'] at e
    exact absurd e.symm (nw y (md y m' z'))
  .by_cases z':y=b
   .rw [if_neg z,if_pos z'] at e
    exact absurd e (nw x (md x m z))
   .rw [if_neg z,if_neg z'] at e
    exact h.inj x (md x m z) y (md y m' z') e
theorem StoreAt.hln (S:StoreAt K H a c s O) (h:HldAt H a.dh a.ls a.ads O s.seq s.wd kvs wl):kvs.length=s.seq.length:=by
 refine ZkR h.ki S.sto.room.nd λb=>?_
 rw [h.v b]
 by_cases m:b∈s.seq
 .simp [m]
 .simp [m]
theorem StoreAt.fln {kf:List (Key×V)} (S:StoreAt K H a c s O) (h:KI kf) (v:∀ b,valV kf (Sum.inl b:Key)=if s.fr b=true then some (.bl true) else none):kf.length<=s.seq.length:=by
 obtain ⟨ks,e,nd⟩:=h
 have l:=congrArg List.length e
 rw [length_map,length_map] at l
 rw [l]
 refine Zhf nd λb m=>S.ffr b ?_
 have q:=ZfX (kvs:=kf) (Sum.inl b)
 rw [v b,e] at q
 have:=q.mpr (mem_map_of_mem m)
 by_cases z:s.fr b=true
 .exact z
 .rw [if_neg z] at this; cases this
end
section
variable {K:W.Frag} {H H':Hp} {a:SA} {c:Cf} {s:Rm} {O O':Addr->Prop} {kvs:List (Key×V)} {wl:Int->Addr} {seq:List Int} {us:Int->Int}
theorem Sto.laid {wd:Int->List Int} {seq0 seq':List Int} {b:Int} {l:Addr} (S:Sto K H a c seq us O) (h:HldAt H a.dh a.ls a.ads O seq0 wd kvs wl) (ws:List Int) (hl:H l=none) (hs:∀ x,x∈seq'↔x=b\/x∈seq0) :
  (Sto K (upd (upd H l (.lst (ws.map V.int))) a.dh (.dK (putK kvs (Sum.inl b) (.ref l)))) a c seq us (λx=>O x\/x=l)/\HldAt (upd (upd H l (.lst (ws.map V.int))) a.dh (.dK (putK kvs (Sum.inl b) (.ref l)))) a.dh a.ls a.ads (λx=>O x\/x=l) seq' (λx=>if x=b then ws else wd x) (putK kvs (Sum.inl b) (.ref l)) (λx=>if x=b then l else wl x)) /\
   Pst O H (upd (upd H l (.lst (ws.map V.int))) a.dh (.dK (putK kvs (Sum.inl b) (.ref l)))) (λx=>O x\/x=l):=by
 have sm:=Zg hl (.lst (ws.map V.int))
 have S1:=S.same sm
 refine ⟨⟨((S1.put (x:=a.dh) (.inl rfl) _).mono (λx m=>.inl (S.own x m)) λx m=>ZkT ?_),h.put ws hl S.ex (λx m=>S.ex x (S.own x (by simp [m]))) (S.ex _ (S.own _ (by simp))) hs⟩,?_⟩
 .rcases m with m | m
  .exact S1.ex x m
  .rw [m,Za]; simp
 .have p:=(Pst.same sm).trans (S1.pput (x:=a.dh) (.inl rfl) (putK kvs (Sum.inl b) (.ref l)))
  exact ⟨p.kp,λx m=>m.elim .inl λz=>.inr (by rw [z]; exact hl)⟩
theorem HldAt.pop {wd:Int->List Int} {b:Int} (h:HldAt H a.dh a.ls a.ads O seq wd kvs wl) (nn:seq.Nodup) (hb:b∈seq) (S:Sto K H a c (seq.erase b) us O):HldAt (upd H a.dh (.dK (dropK kvs (Sum.inl b)))) a.dh a.ls a.ads (λx=>O x/\x≠wl b) (seq.erase b) wd (dropK kvs (Sum.inl b)) wl:=by
 have mm:∀ {x},x∈seq.erase b->x≠b/\x∈seq:=λ{x} m=>(List.Nodup.mem_erase_iff nn).mp m
 refine ⟨Za,h.ki.drop b,λx=>?_,λx m=>?_,λx m y m'=>h.inj x (mm m).2 y (mm m').2⟩
 .rw [Zeo]
  by_cases z:x=b
  .rw [if_pos (by rw [z]),if_neg (λm=>(mm m).1 z)]
  .rw [if_neg (λq=>z (Sum.inl.inj q)),h.v x]
   exact ite_congr (propext ⟨λm=>(List.Nodup.mem_erase_iff nn).mpr ⟨z,m⟩,λm=>(mm m).2⟩) (λ_=>rfl) λ_=>rfl
 .obtain ⟨e1,e2,e3,e4⟩:=h.at_ x (mm m).2
  exact ⟨by rw [Zc (λz=>by rw [z,h.dc] at e1; cases e1)]; exact e1,⟨e2,λz=>(mm m).1 (h.inj x (mm m).2 b hb z)⟩,e3,e4⟩
end
section
def Rm0:Rm:=⟨[],λ_=>0,λ_=>[],λ_=>false⟩
def ZkU (K:W.Frag):Sp:=λvs H Q _=>∃ (p dx tp:Addr) (sh pl:Int) (ru wr:Str),vs=[.ref p,.ref tp]/\H p=some (.ins (clsOf K "Store") dx [])/\SqT K H tp [.int sh,.int pl,.str ru,.str wr]/\1<=sh/\sh<=64 /\
 ∀ (a:SA) (H':Hp),a.sp=p->StoreAt K H' a ⟨sh,pl,ru,decide (wr = "late")⟩ Rm0 (λx=>x=p\/(H x=none/\H' x≠none))->(∀ b o,H b=some o->b≠p->H' b=some o)->Q .non H'
theorem Zge (F:Fun K "__init__" "Store.__init__" Zcr f fd) (T:Txt K mg) (jk_:KDef P w K mg base (clsOf K "Room") "Room" 1 ZbU (ZkQ K)):FnOk P w K mg base CX0 3 f fd Zcs (ZkU K):=by
 refine F.ok sc_Store_init (λvs H Q E h=>?_) (λcdv A outer st H vs Q E hr h=>?_)
 .obtain ⟨p,dx,tp,sh,pl,ru,wr,rfl,_⟩:=h
  rfl
 obtain ⟨p,dx,tp,sh,pl,ru,wr,rfl,hp,htp,s0,s1,k⟩:=h
 have nd:=sc_Store_init.nd
 refine ⟨_,(Zd (Zby (pv 1) (Zad (K:=K) (n:=4) rfl rfl (Zs (pgn 2 nd) (Zs (pgn 3 nd) (Zs (pgn 4 nd) (Zs (pgn 5 nd) Zac))))))
   (Zd (ZaA (pv 0) (Zdm jk_ hr.m rfl (pc (pv 2) (pc (pv 3) (pc (pv 4) Zb)))) rfl)
   (Zd (ZaA (pv 0) (ZaN op_eq (pv 5) ZP (Zv _)) rfl)
   (Zd (ZaA (pv 0) Zel rfl)
   (Zi (ZaA (pv 0) Zel rfl)))))),?_⟩
 refine ⟨_,rfl,tp,_,rfl,htp,rfl,_,_,rfl,gN ⟨_,_,rfl,gN ⟨_,_,rfl,gN ⟨_,_,rfl,gN ⟨rfl,?_⟩⟩⟩⟩⟩
 try dsimp only
 refine ⟨_,rfl,_,rfl,_,rfl,λrp rx hrp hrx nrx=>⟨rp,rx,sh,pl,ru,rfl,Za,s0,s1,λls ads du H1 R1 f1 f2 f3 k1=>⟨rfl,?_⟩⟩⟩
 have npr:p≠rp:=Ze hp hrp
 have k1':∀ x o,H x=some o->H1 x=some o:=λx o e=>k1 x o (by rw [Zc (Ze e hrp),Zc (Ze e hrx)]; exact e) (Ze e hrp)
 have fr:∀ x,upd (upd H rx (.own rp)) rp (.ins (clsOf K "Room") rx []) x=none->H x=none:=λx e=>by
  cases q:H x with
  | none=>rfl
  | some o=>rw [Zc (Ze q hrp),Zc (Ze q hrx),q] at e; cases e
 have f1:=fr _ f1
 have f2:=fr _ f2
 have f3:∀ ad∈ads,H ad=none:=λad m=>fr _ (f3 ad m)
 have h1:=k1' _ _ hp
 refine ⟨_,rfl,p,_,dx,_,rfl,h1,T.qc_,T.qo_,(by show 0<1000; decide),?_⟩
 obtain ⟨o1,o2,o3,o4,o5,o6⟩:=R1.off
 have q1:p≠ls:=λz=>by rw [z,R1.st.top] at h1; cases h1
 have q2:p≠du:=λz=>by obtain ⟨kv,g,_⟩:=R1.dc; rw [z,g] at h1; cases h1
 have q3:p∉ads:=λz=>by obtain ⟨xs,g⟩:=R1.st.one z; rw [g] at h1; cases h1
 have put:∀ {G:Hp} {o:HO},RoomAt K G rp sh pl ru ls ads du [] (λ_=>0) 0->RoomAt K (upd G p o) rp sh pl ru ls ads du [] (λ_=>0) 0:=λ{G o} R=>by
  obtain ⟨dx',e1⟩:=R.ob
  obtain ⟨kv,e2,e3⟩:=R.dc
  exact ⟨⟨dx',by rw [Zc (Ne.symm npr)]; exact e1⟩,R.st.other o q1 q3,⟨kv,by rw [Zc (Ne.symm q2)]; exact e2,e3⟩,R.nd,R.s0,R.s1⟩
 have R2:=put (o:=.ins (clsOf K "Store") dx (putF "room" (.ref rp) [])) R1
 have e2:upd H1 p (.ins (clsOf K "Store") dx (putF "room" (.ref rp) [])) p=some (.ins (clsOf K "Store") dx (putF "room" (.ref rp) [])):=Za
 have k2:∀ x o,H x=some o->x≠p->upd H1 p (.ins (clsOf K "Store") dx (putF "room" (.ref rp) [])) x=some o:=λx o e n=>by rw [Zc n]; exact k1' x o e
 generalize upd H1 p (.ins (clsOf K "Store") dx (putF "room" (.ref rp) []))=H2 at *
 refine ⟨_,rfl,rfl,_,rfl,p,_,dx,_,rfl,e2,T.qc_,T.jb_,(by show 1<1000; decide),?_⟩
 have el:decide (V.str wr=V.str "late")=decide (wr = "late"):=decide_eq_decide.mpr ⟨λe=>by injection e,λe=>by rw [e]⟩
 rw [el]
 have R3:=put (o:=.ins (clsOf K "Store") dx (putF "late" (.bl (decide (wr = "late"))) (putF "room" (.ref rp) []))) R2
 have e3:upd H2 p (.ins (clsOf K "Store") dx (putF "late" (.bl (decide (wr = "late"))) (putF "room" (.ref rp) []))) p=some (.ins (clsOf K "Store") dx (putF "late" (.bl (decide (wr = "late"))) (putF "room" (.ref rp) []))):=Za
 have k3:∀ x o,H x=some o->x≠p->upd H2 p (.ins (clsOf K "Store") dx (putF "late" (.bl (decide (wr = "late"))) (putF "room" (.ref rp) []))) x=some o:=λx o e n=>by rw [Zc n]; exact k2 x o e n
 generalize upd H2 p (.ins (clsOf K "Store") dx (putF "late" (.bl (decide (wr = "late"))) (putF "room" (.ref rp) [])))=H3 at *
 refine λdh hdh=>?_
 have nh:p≠dh:=Ze e3 hdh
 refine ⟨_,rfl,p,_,dx,_,rfl,(by rw [Zc nh]; exact e3),T.qc_,T.vh_,(by show 2<1000; decide),?_⟩
 have R4:=put (o:=.ins (clsOf K "Store") dx (putF "held" (.ref dh) (putF "late" (.bl (decide (wr = "late"))) (putF "room" (.ref rp) [])))) (R3.same (Zg hdh (.dK [])))
 have e4:upd (upd H3 dh (.dK [])) p (.ins (clsOf K "Store") dx (putF "held" (.ref dh) (putF "late" (.bl (decide (wr = "late"))) (putF "room" (.ref rp) [])))) p=some (.ins (clsOf K "Store") dx (putF "held" (.ref dh) (putF "late" (.bl (decide (wr = "late"))) (putF "room" (.ref rp) [])))):=Za
 have d4:upd (upd H3 dh (.dK [])) p (.ins (clsOf K "Store") dx (putF "held" (.ref dh) (putF "late" (.bl (decide (wr = "late"))) (putF "room" (.ref rp) [])))) dh=some (.dK []):=by rw [Zc (Ne.symm nh)]; exact Za
 have fdh:H dh=none:=by
  cases q:H dh with
  | none=>rfl
  | some o=>rw [k3 dh o q (Ne.symm nh)] at hdh; cases hdh
 have k4:∀ x o,H x=some o->x≠p->upd (upd H3 dh (.dK [])) p (.ins (clsOf K "Store") dx (putF "held" (.ref dh) (putF "late" (.bl (decide (wr = "late"))) (putF "room" (.ref rp) [])))) x=some o:=λx o e n=>by rw [Zc n,Zc (λz:x=dh=>by rw [z,fdh] at e; cases e)]; exact k3 x o e n
 generalize upd (upd H3 dh (.dK [])) p (.ins (clsOf K "Store") dx (putF "held" (.ref dh) (putF "late" (.bl (decide (wr = "late"))) (putF "room" (.ref rp) []))))=H4 at *
 refine λdf hdf=>?_
 have nf:p≠df:=Ze e4 hdf
 refine ⟨_,rfl,p,_,dx,_,rfl,(by rw [Zc nf]; exact e4),T.qc_,T.v3_,(by show 3<1000; decide),?_⟩
 have fdf:H df=none:=by
  cases q:H df with
  | none=>rfl
  | some o=>rw [k4 df o q (Ne.symm nf)] at hdf; cases hdf
 have nhf:dh≠df:=λz=>by rw [← z,d4] at hdf; cases hdf
 obtain ⟨kv,g,_⟩:=R3.dc
 obtain ⟨kv4,g4,_⟩:=R4.dc
 have R5:=put (o:=.ins (clsOf K "Store") dx (sflds rp (decide (wr = "late")) dh df)) (R4.same (Zg hdf (.dK [])))
 have e5:upd (upd H4 df (.dK [])) p (.ins (clsOf K "Store") dx (sflds rp (decide (wr = "late")) dh df)) p=some (.ins (clsOf K "Store") dx (sflds rp (decide (wr = "late")) dh df)):=Za
 have d5:upd (upd H4 df (.dK [])) p (.ins (clsOf K "Store") dx (sflds rp (decide (wr = "late")) dh df)) dh=some (.dK []):=by rw [Zc (Ne.symm nh),Zc nhf]; exact d4
 have f5:upd (upd H4 df (.dK [])) p (.ins (clsOf K "Store") dx (sflds rp (decide (wr = "late")) dh df)) df=some (.dK []):=by rw [Zc (Ne.symm nf)]; exact Za
 have k5:∀ x o,H x=some o->x≠p->upd (upd H4 df (.dK [])) p (.ins (clsOf K "Store") dx (sflds rp (decide (wr = "late")) dh df)) x=some o:=λx o e n=>by rw [Zc n,Zc (λz:x=df=>by rw [z,fdf] at e; cases e)]; exact k4 x o e n
 change Q .non (upd (upd H4 df (.dK [])) p (.ins (clsOf K "Store") dx (sflds rp (decide (wr = "late")) dh df)))
 generalize upd (upd H4 df (.dK [])) p (.ins (clsOf K "Store") dx (sflds rp (decide (wr = "late")) dh df))=H5 at *
 refine k ⟨p,rp,ls,ads,du,dh,df⟩ _ rfl ⟨⟨⟨dx,e5⟩,R5,⟨_,d5⟩,⟨_,f5⟩,λz=>?_,Ne.symm nhf,λz=>?_,λx hx=>?_,λx hx=>?_⟩,⟨[],λ_=>p,d5,KI.nil,λ_=>rfl,(λb m=>absurd m (by simp [Rm0])),λb m=>absurd m (by simp [Rm0])⟩,⟨[],f5,KI.nil,λ_=>rfl⟩,λb h=>by cases h⟩ k5
 .have z:du=dh:=z
  rw [← z,g] at hdh; cases hdh
 .have z:df=du:=z
  rw [z,g4] at hdf; cases hdf
 .obtain ⟨dr5,r5⟩:=R5.ob
  obtain ⟨ku5,u5,_⟩:=R5.dc
  rcases hx with rfl | rfl | rfl | hx | rfl | rfl | rfl
  .exact .inl rfl
  .exact .inr ⟨hrp,by rw [r5]; simp⟩
  .exact .inr ⟨f1,by rw [R5.st.top]; simp⟩
  .obtain ⟨xs,q⟩:=R5.st.one hx
   exact .inr ⟨f3 x hx,by rw [q]; simp⟩
  .exact .inr ⟨f2,by rw [u5]; simp⟩
  .exact .inr ⟨fdh,by rw [d5]; simp⟩
  .exact .inr ⟨fdf,by rw [f5]; simp⟩
 .rcases hx with rfl | hx
  .rw [e5]; simp
  .exact hx.2
end
section
def ZiP (K:W.Frag):Sp:=λvs H Q _=>∃ (a:SA) (c:Cf) (s:Rm) (O:Addr->Prop) (b:Int),vs=[.ref a.sp,.int b]/\StoreAt K H a c s O/\Q (.bl (decide (b∈s.seq))) H
theorem Zhg (F:Fun K "has" "Store.has" ZcT f fd) (T:Txt K mg) (qn_:MDef P w K mg base (clsOf K "Room") "has" 1 Zbf (spHas K)):FnOk P w K mg base CX0 2 f fd Zbn (ZiP K):=by
 refine F.ok sc_Store_has (λvs H Q E h=>?_) (λcdv A outer st H vs Q E hr h=>?_)
 .obtain ⟨a,c,s,O,b,rfl,_⟩:=h
  rfl
 obtain ⟨a,c,s,O,b,rfl,S,k⟩:=h
 have nd:=sc_Store_has.nd
 refine ⟨_,(Zi (Zt (Zk qn_ hr.m T.qb_ (Zm (K:=K) rfl (pv 0) rfl) (pc (pv 1) Zb)))),?_⟩
 obtain ⟨dx,h1⟩:=S.sto.ob
 obtain ⟨dr,h2⟩:=S.sto.room.ob
 exact ⟨_,rfl,a.sp,_,dx,_,_,rfl,h1,T.qc_,T.qo_,Zcg ..,a.rp,dr,_,rfl,h2,fl_no ..,_,rfl,a.rp,b,c.sh,c.pl,c.ru,a.ls,a.ads,a.du,s.seq,s.us,_,rfl,S.sto.room,k⟩
def spLay (K:W.Frag):Sp:=λvs H Q _=>∃ (p dx rp dh df:Addr) (late:Bool) (kvs:List (Key×V)) (b:Int) (lw:Addr) (zs:List V),vs=[.ref p,.int b,.ref lw]/\H p=some (.ins (clsOf K "Store") dx (sflds rp late dh df))/\H dh=some (.dK kvs)/\kvs.length<=900/\H lw=some (.lst zs) /\
 ∀ l,H l=none->Q .non (upd (upd H l (.lst zs)) dh (.dK (putK kvs (Sum.inl b) (.ref l))))
theorem Zhh (F:Fun K "lay" "Store.lay" ZcU f fd) (T:Txt K mg):FnOk P w K mg base CX0 1 f fd ZbW (spLay K):=by
 refine F.ok sc_Store_lay (λvs H Q E h=>?_) (λcdv A outer st H vs Q E hr h=>?_)
 .obtain ⟨p,dx,rp,dh,df,late,kvs,b,lw,zs,rfl,_⟩:=h
  rfl
 obtain ⟨p,dx,rp,dh,df,late,kvs,b,lw,zs,rfl,hp,hd,hl,hw,k⟩:=h
 have nd:=sc_Store_lay.nd
 have hu:=hu_of hr
 refine ⟨_,(Zi (ZfK hu (Zm (K:=K) rfl (pv 0) rfl) (pv 1) (ZW (ZaZ (K:=K) rfl) rfl T.vg_ ZV (pc (pv 2) Zb)) rfl)),?_⟩
 refine ⟨_,rfl,lw,_,rfl,.inl (SqL.of hw),λl hl'=>?_⟩
 have s1:=Zg hl' (.lst zs)
 exact ⟨_,rfl,p,_,dx,_,_,rfl,s1 _ _ hp,T.qc_,T.vh_,Zgd ..,_,rfl,dh,_,rfl,DPut.k (k:=Sum.inl b) (s1 _ _ hd) (ZA (by lia)),k l hl'⟩
def inS (s:Rm) (b:Int) (ws:List Int):Rm:=⟨s.seq++[b],zero s.us b,λx=>if x=b then ws else s.wd x,s.fr⟩
def outS (s:Rm) (b:Int):Rm:=⟨s.seq.erase b,s.us,s.wd,λx=>if x=b then false else s.fr x⟩
def layS (s:Rm) (b:Int) (ws:List Int):Rm:=⟨s.seq,s.us,λx=>if x=b then ws else s.wd x,s.fr⟩
def frS (s:Rm) (b:Int):Rm:=⟨s.seq,s.us,s.wd,λx=>if x=b then true else s.fr x⟩
def ZiQ (K:W.Frag):Sp:=λvs H Q _=>∃ (a:SA) (c:Cf) (s:Rm) (O:Addr->Prop) (b:Int) (lw:Addr) (ws:List Int),vs=[.ref a.sp,.int b,.ref lw]/\StoreAt K H a c s O/\Tb K H/\H lw=some (.lst (ws.map V.int))/\¬ O lw/\b∉s.seq/\s.seq.length<=800/\1<=c.pl/\c.pl<=16/\((Zl c.sh (b % c.sh) s.seq).length:Int)<c.pl /\
 ∀ H' O',StoreAt K H' a c (inS s b ws) O'->Pst O H H' O'->Q .non H'
theorem Zee (F:Fun K "take_in" "Store.take_in" Zbo f fd) (T:Txt K mg) (vc_:MDef P w K mg base (clsOf K "Room") "bring" 4 ZbC (ZhN K)) (ve_:MDef P w K mg base (clsOf K "Store") "lay" 1 ZbW (spLay K)):FnOk P w K mg base CX0 5 f fd Zbp (ZiQ K):=by
 refine F.ok sc_Store_take_in (λvs H Q E h=>?_) (λcdv A outer st H vs Q E hr h=>?_)
 .obtain ⟨a,c,s,O,b,lw,ws,rfl,_⟩:=h
  rfl
 obtain ⟨a,c,s,O,b,lw,ws,rfl,S,tb,hlw,hO,hb,hsl,hpl,hpl2,hsh,k⟩:=h
 have nd:=sc_Store_take_in.nd
 refine ⟨_,(Zd (Zp (Zk vc_ hr.m T.qb_ (Zm (K:=K) rfl (pv 0) rfl) (pc (pv 1) Zb)))
   (Zi (Zp (Zk ve_ hr.m T.qc_ (pv 0) (pc (pv 1) (pc (pv 2) Zb)))))),?_⟩
 obtain ⟨dx,h1⟩:=S.sto.ob
 obtain ⟨dr,h2⟩:=S.sto.room.ob
 refine ⟨_,rfl,a.sp,_,dx,_,_,rfl,h1,T.qc_,T.qo_,Zcg ..,a.rp,dr,_,rfl,h2,fl_no ..,_,rfl,a.rp,b,c.sh,c.pl,c.ru,a.ls,a.ads,a.du,s.seq,s.us,_,rfl,S.sto.room,tb,by lia,hb,hpl,by lia,λgone G gp R1 r1=>?_⟩
 obtain rfl:gone=none:=gp.1 hsh
 obtain ⟨kvs,wl,h3⟩:=S.held
 obtain ⟨kf,h4,h5⟩:=S.fresh
 have kl:=S.hln h3
 have p1:=S.sto.pst r1
 have h3:=S.sto.hld h3 r1
 have h4:=r1 _ _ h4 S.sto.n3 (S.sto.kinds h4).2.2.2
 have S1:=S.sto.deed R1 r1
 obtain ⟨dx,h1⟩:=S1.ob
 refine ⟨_,rfl,a.sp,dx,_,rfl,h1,sf_no ..,_,rfl,_,rfl,a.sp,dx,a.rp,a.dh,a.df,c.late,kvs,b,lw,_,rfl,h1,h3.dc,by lia,p1.kp _ _ hlw (λh=>absurd h hO),λl hl=>?_⟩
 obtain ⟨S2,p2⟩:=S1.laid h3 ws hl (seq':=s.seq++[b]) (b:=b) (λx=>by rw [mem_append,mem_singleton]; exact Or.comm)
 exact k _ _ ⟨S2.1,⟨_,_,S2.2⟩,⟨kf,by rw [Zc S.sto.n2]; exact Zg hl _ _ _ h4,h5⟩,λx h=>mem_append_left _ (S.ffr x h)⟩ (p1.trans p2)
def Zhi (K:W.Frag):Sp:=λvs H Q _=>∃ (a:SA) (c:Cf) (s:Rm) (O:Addr->Prop) (b:Int),vs=[.ref a.sp,.int b]/\StoreAt K H a c s O/\b∈s.seq /\
 ∀ (t l:Addr) (H':Hp) (O':Addr->Prop),H' t=some (.tup [.ref l,.bl (s.fr b)])->H' l=some (.lst ((s.wd b).map V.int))->¬ O' l->StoreAt K H' a c (outS s b) O'->Pst O H H' O'->(O l\/H l=none)->Q (.ref t) H'
theorem ZdJ (F:Fun K "give_out" "Store.give_out" ZaO f fd) (T:Txt K mg) (qv_:MDef P w K mg base (clsOf K "Room") "drop" 3 Zbl (ZiN K)):FnOk P w K mg base CX0 4 f fd ZaP (Zhi K):=by
 refine F.ok sc_Store_give_out (λvs H Q E h=>?_) (λcdv A outer st H vs Q E hr h=>?_)
 .obtain ⟨a,c,s,O,b,rfl,_⟩:=h
  rfl
 obtain ⟨a,c,s,O,b,rfl,S,hb,k⟩:=h
 have nd:=sc_Store_give_out.nd
 refine ⟨_,(Zd (Zp (Zk qv_ hr.m T.qb_ (Zm (K:=K) rfl (pv 0) rfl) (pc (pv 1) Zb)))
   (Zi (Zt (Zbh (pc (Zix (Zm (K:=K) rfl (pv 0) rfl) (pv 1) ⟨rfl,rfl,rfl,rfl⟩) (pc (Ziy (Zm (K:=K) rfl (pv 0) rfl) (pv 1) pe_bl ⟨rfl,rfl,rfl,rfl⟩) Zb)))))),?_⟩
 obtain ⟨dx,h1⟩:=S.sto.ob
 obtain ⟨dr,h2⟩:=S.sto.room.ob
 refine ⟨_,rfl,a.sp,_,dx,_,_,rfl,h1,T.qc_,T.qo_,Zcg ..,a.rp,dr,_,rfl,h2,fl_no ..,_,rfl,a.rp,b,c.sh,c.pl,c.ru,a.ls,a.ads,a.du,s.seq,s.us,_,rfl,S.sto.room,hb,λG R1 r1=>?_⟩
 obtain ⟨kvs,wl,h3⟩:=S.held
 obtain ⟨kf,h4,h5,h6⟩:=S.fresh
 have p1:=S.sto.pst r1
 have h3:=S.sto.hld h3 r1
 have h4:=r1 _ _ h4 S.sto.n3 (S.sto.kinds h4).2.2.2
 have S1:=S.sto.deed R1 r1
 obtain ⟨dx,h1⟩:=S1.ob
 have vb:=h3.v b
 rw [if_pos hb] at vb
 obtain ⟨w1,w2,w3,w4⟩:=h3.at_ b hb
 refine ⟨_,rfl,a.sp,_,dx,_,_,rfl,h1,T.qc_,T.vh_,Zgd ..,a.dh,rfl,.inl ⟨_,.inl h3.dc⟩,_,rfl,kvs,Sum.inl b,_,h3.dc,rfl,vb,?_⟩
 have nn:s.seq.Nodup:=S.sto.room.nd
 have H3:=h3.pop nn hb S1
 have S2:=S1.put (x:=a.dh) (.inl rfl) (dropK kvs (Sum.inl b))
 have p2:=p1.trans (S1.pput (x:=a.dh) (.inl rfl) (dropK kvs (Sum.inl b)))
 have h4:upd G a.dh (.dK (dropK kvs (Sum.inl b))) a.df=some (.dK kf):=by rw [Zc S.sto.n2]; exact h4
 have w1:upd G a.dh (.dK (dropK kvs (Sum.inl b))) (wl b)=some (.lst ((s.wd b).map V.int)):=by rw [Zc (λz=>by rw [z,h3.dc] at w1; cases w1)]; exact w1
 generalize upd G a.dh (.dK (dropK kvs (Sum.inl b)))=G2 at *
 obtain ⟨dx,h1⟩:=S2.ob
 have fin:∀ (G3:Hp) (kf':List (Key×V)),Sto K G3 a c (s.seq.erase b) s.us O->Pst O H G3 O->HldAt G3 a.dh a.ls a.ads (λx=>O x/\x≠wl b) (s.seq.erase b) s.wd (dropK kvs (Sum.inl b)) wl->G3 a.df=some (.dK kf')->KI kf'->(∀ x,valV kf' (Sum.inl x:Key)=if (outS s b).fr x=true then some (.bl true) else none)->G3 (wl b)=some (.lst ((s.wd b).map V.int)) ->
   2<=sizeLine/\∀ t,G3 t=none->Q (.ref t) (upd G3 t (.tup [.ref (wl b),.bl (s.fr b)])):=λG3 kf' S3 p3 h3' e1 e2 e3 e4=>by
  refine ⟨by decide,λt ht=>?_⟩
  have sm:=Zg ht (.tup [.ref (wl b),.bl (s.fr b)])
  have core:∀ x,x=a.sp\/x=a.rp\/x=a.ls\/x∈a.ads\/x=a.du\/x=a.dh\/x=a.df->O x/\x≠wl b:=λx m=>⟨S3.own x m,λz=>by
   subst z
   rcases m with m | m | m | m | m | m | m
   .obtain ⟨d,q⟩:=S3.ob; rw [← m,e4] at q; cases q
   .obtain ⟨d,q⟩:=S3.room.ob; rw [← m,e4] at q; cases q
   .exact w4 m
   .exact w3 m
   .obtain ⟨d,q,_⟩:=S3.room.dc; rw [← m,e4] at q; cases q
   .obtain ⟨d,q⟩:=S3.d1; rw [← m,e4] at q; cases q
   .rw [← m,e4] at e1; cases e1⟩
  have S4:=(S3.mono core λx h=>S3.ex x h.1).same sm
  refine k t (wl b) _ (λx=>O x/\x≠wl b) Za (sm _ _ e4) (λh=>h.2 rfl) ⟨S4,⟨_,_,h3'.frame (core _ (by simp)) λx o _ e=>sm x o e⟩,⟨kf',sm _ _ e1,e2,e3⟩,λx h=>?_⟩ ⟨λx o e n=>sm _ _ (p3.kp x o e n),λx h=>.inl h.1⟩ (.inl w2)
  have h:(if x=b then false else s.fr x)=true:=h
  by_cases z:x=b
  .rw [if_pos z] at h; cases h
  .rw [if_neg z] at h
   exact (List.Nodup.mem_erase_iff nn).mpr ⟨z,S.ffr x h⟩
 refine ⟨_,rfl,a.sp,_,dx,_,_,rfl,h1,T.qc_,T.v3_,ZiO ..,a.df,rfl,.inl ⟨_,.inl h4⟩,_,rfl,kf,Sum.inl b,h4,rfl,λv hv=>?_,λhv=>?_⟩
 .have hf:s.fr b=true:=by
   by_cases z:s.fr b=true
   .exact z
   .rw [h6 b,if_neg z] at hv; cases hv
  rw [h6 b,if_pos hf] at hv
  cases hv
  have S3:=S2.put (x:=a.df) (.inr rfl) (dropK kf (Sum.inl b))
  have fin:=fin _ (dropK kf (Sum.inl b)) S3 (p2.trans (S2.pput (x:=a.df) (.inr rfl) _)) ⟨by rw [Zc (Ne.symm S.sto.n2)]; exact H3.dc,H3.ki,H3.v,λx m=>⟨by rw [Zc (λz=>by have q:=(H3.at_ x m).1; rw [z,h4] at q; cases q)]; exact (H3.at_ x m).1,(H3.at_ x m).2⟩,H3.inj⟩ Za (h5.drop b) (λx=>?_) (by rw [Zc (λz=>by rw [z,h4] at w1; cases w1)]; exact w1)
  .rw [hf] at fin
   exact fin
  .rw [Zeo]
   by_cases z:x=b
   .rw [if_pos (by rw [z])]
    unfold outS
    simp [z]
   .rw [if_neg (λq=>z (Sum.inl.inj q)),h6 x]
    unfold outS
    simp [z]
 .have hf:s.fr b=false:=by
   cases z:s.fr b with
   | false=>rfl
   | true=>rw [h6 b,if_pos z] at hv; cases hv
  have fin:=fin _ kf S2 p2 H3 h4 h5 (λx=>?_) w1
  .rw [hf] at fin
   exact fin
  .rw [h6 x]
   unfold outS
   by_cases z:x=b
   .simp [z,hf]
   .simp [z]
end
section
def Zdr (K:W.Frag):Sp:=λvs H Q _=>∃ (a:SA) (c:Cf) (s:Rm) (O:Addr->Prop) (b:Int),vs=[.ref a.sp,.int b]/\StoreAt K H a c s O/\b∈s.seq/\∀ l,H l=none->Q (.ref l) (upd H l (.lst ((s.wd b).map V.int)))
theorem ZdK (F:Fun K "words_of" "Store.words_of" ZaQ f fd) (T:Txt K mg) (qu_:MDef P w K mg base (clsOf K "Room") "need" 2 Zbm (ZiM K)):FnOk P w K mg base CX0 3 f fd ZK (Zdr K):=by
 refine F.ok sc_Store_words_of (λvs H Q E h=>?_) (λcdv A outer st H vs Q E hr h=>?_)
 .obtain ⟨a,c,s,O,b,rfl,_⟩:=h
  rfl
 obtain ⟨a,c,s,O,b,rfl,S,hb,k⟩:=h
 have nd:=sc_Store_words_of.nd
 have hu:=hu_of hr
 refine ⟨_,(Zd (Zp (Zk qu_ hr.m T.qb_ (Zm (K:=K) rfl (pv 0) rfl) (pc (pv 1) Zb)))
   (Zi (Zt (ZW (ZaZ (K:=K) rfl) rfl T.vg_ ZV (pc (ZhD hu (Zm (K:=K) rfl (pv 0) rfl) (pv 1) (λ_ _=>rfl)) Zb))))),?_⟩
 obtain ⟨dx,h1⟩:=S.sto.ob
 obtain ⟨dr,h2⟩:=S.sto.room.ob
 obtain ⟨kvs,wl,h3⟩:=S.held
 have vb:=h3.v b
 rw [if_pos hb] at vb
 refine ⟨_,rfl,a.sp,_,dx,_,_,rfl,h1,T.qc_,T.qo_,Zcg ..,a.rp,dr,_,rfl,h2,fl_no ..,_,rfl,a.rp,b,c.sh,c.pl,c.ru,a.ls,a.ads,a.du,s.seq,s.us,_,rfl,S.sto.room,hb,?_⟩
 exact ⟨_,rfl,a.sp,_,dx,_,_,rfl,h1,T.qc_,T.vh_,Zgd ..,_,rfl,a.dh,_,rfl,(by have q:=DGet.k (k:=Sum.inl b) h3.dc; rw [vb] at q; exact q),wl b,_,rfl,.inl (SqL.of (h3.at_ b hb).1),k⟩
theorem StoreAt.lay {H:Hp} {a:SA} {c:Cf} {s:Rm} {O:Addr->Prop} (S:StoreAt K H a c s O) {b:Int} (hb:b∈s.seq) (ws:List Int) {Q:Hp->Prop} (k:∀ H' O',StoreAt K H' a c (layS s b ws) O'->Pst O H H' O'->Q H') :
  ∃ dx kvs,H a.sp=some (.ins (clsOf K "Store") dx (sflds a.rp c.late a.dh a.df))/\H a.dh=some (.dK kvs)/\kvs.length=s.seq.length/\∀ l,H l=none->Q (upd (upd H l (.lst (ws.map V.int))) a.dh (.dK (putK kvs (Sum.inl b) (.ref l)))):=by
 obtain ⟨dx,h1⟩:=S.sto.ob
 obtain ⟨kvs,wl,h3⟩:=S.held
 obtain ⟨kf,h4,h5⟩:=S.fresh
 refine ⟨dx,kvs,h1,h3.dc,S.hln h3,λl hl=>?_⟩
 obtain ⟨S2,p2⟩:=S.sto.laid h3 ws hl (seq':=s.seq) (b:=b) (λx=>⟨.inr,λm=>m.elim (λz=>z ▸ hb) id⟩)
 exact k _ _ ⟨S2.1,⟨_,_,S2.2⟩,⟨kf,by rw [Zc S.sto.n2]; exact Zg hl _ _ _ h4,h5⟩,S.ffr⟩ p2
theorem Sto.lst {H:Hp} {a:SA} {c:Cf} {seq:List Int} {us:Int->Int} {O:Addr->Prop} (S:Sto K H a c seq us O) {l:Addr} {xs:List V} (hl:H l=some (.lst xs)) (n1:l≠a.ls) (n2:l∉a.ads) (u:List V):Sto K (upd H l (.lst u)) a c seq us O:=by
 obtain ⟨dx,h1⟩:=S.ob
 obtain ⟨dr,h2⟩:=S.room.ob
 obtain ⟨kr,h3,_⟩:=S.room.dc
 obtain ⟨k1,h4⟩:=S.d1
 obtain ⟨k2,h5⟩:=S.d2
 have ne:∀ {y o},H y=some o->(∀ xs,o≠.lst xs)->upd H l (.lst u) y=some o:=λ{y o} e n=>by rw [Zc (λz=>by rw [z,hl] at e; exact n xs (Option.some.inj e).symm)]; exact e
 have R:RoomAt K (upd H l (.lst u)) a.rp c.sh c.pl c.ru a.ls a.ads a.du seq us seq.length:=S.room.frame λy o m e=>by
  rw [Zc (λz:y=l=>by
   subst z
   rcases m with m | m | m | m
   .rw [m,h2] at hl; cases hl
   .exact n1 m
   .exact n2 m
   .rw [m,h3] at hl; cases hl)]
  exact e
 exact ⟨⟨dx,ne h1 (λ_ z=>by cases z)⟩,R,⟨k1,ne h4 (λ_ z=>by cases z)⟩,⟨k2,ne h5 (λ_ z=>by cases z)⟩,S.n1,S.n2,S.n3,S.own,λy h=>ZkT (S.ex y h)⟩
def Zhj (K:W.Frag):Sp:=λvs H Q _=>∃ (a:SA) (c:Cf) (s:Rm) (O:Addr->Prop) (b i x:Int),vs=[.ref a.sp,.int b,.int i,.int x]/\StoreAt K H a c s O/\b∈s.seq/\0<=i/\i<(s.wd b).length/\∀ H',StoreAt K H' a c (layS s b ((s.wd b).set i.toNat x)) O->Pst O H H' O->Q .non H'
theorem ZdL (F:Fun K "lay_word" "Store.lay_word" ZaR f fd) (T:Txt K mg):FnOk P w K mg base CX0 1 f fd ZaS (Zhj K):=by
 refine F.ok sc_Store_lay_word (λvs H Q E h=>?_) (λcdv A outer st H vs Q E hr h=>?_)
 .obtain ⟨a,c,s,O,b,i,x,rfl,_⟩:=h
  rfl
 obtain ⟨a,c,s,O,b,i,x,rfl,S,hb,i0,i1,k⟩:=h
 have nd:=sc_Store_lay_word.nd
 have hu:=hu_of hr
 refine ⟨_,(Zi (Zby (pv 3) (Zeq (ZhD hu (Zm (K:=K) rfl (pv 0) rfl) (pv 1) (λ_ _=>rfl)) (pv 2) ZbR))),?_⟩
 obtain ⟨dx,h1⟩:=S.sto.ob
 obtain ⟨kvs,wl,h3⟩:=S.held
 obtain ⟨kf,h4,h5⟩:=S.fresh
 have vb:=h3.v b
 rw [if_pos hb] at vb
 obtain ⟨w1,w2,w3,w4⟩:=h3.at_ b hb
 refine ⟨_,rfl,_,rfl,a.sp,_,dx,_,_,rfl,h1,T.qc_,T.vh_,Zgd ..,_,rfl,a.dh,_,rfl,(by have q:=DGet.k (k:=Sum.inl b) h3.dc; rw [vb] at q; exact q),_,rfl,wl b,_,i,i.toNat,rfl,rfl,w1,?_,?_⟩
 .unfold ixN
  rw [if_pos i0,if_pos (by rw [length_map]; exact i1)]
 .rw [← map_set]
  refine k _ ⟨S.sto.lst w1 w4 w3 _,⟨kvs,wl,by rw [Zc (λz=>by rw [← z,h3.dc] at w1; cases w1)]; exact h3.dc,h3.ki,h3.v,λy m=>?_,h3.inj⟩,⟨kf,by rw [Zc (λz=>by rw [← z,h4] at w1; cases w1)]; exact h4,h5⟩,S.ffr⟩ ⟨λy o e n=>?_,λ_ h=>.inl h⟩
  .show _=some (HO.lst ((if y=b then (s.wd b).set i.toNat x else s.wd y).map V.int))/\_
   by_cases z:y=b
   .rw [if_pos z,z,Za]
    exact ⟨rfl,w2,w3,w4⟩
   .obtain ⟨e1,e2⟩:=h3.at_ y m
    rw [if_neg z,Zc (λq=>z (h3.inj y m b hb q))]
    exact ⟨e1,e2⟩
  .rw [Zc (λz=>?_)]
   .exact e
   .rw [z,w1] at e
    cases e
    exact n (z ▸ w2) trivial
def ZeK (K:W.Frag):Sp:=λvs H Q _=>∃ (a:SA) (c:Cf) (s:Rm) (O:Addr->Prop) (b:Int),vs=[.ref a.sp,.int b]/\StoreAt K H a c s O/\b∈s.seq/\s.seq.length<=800/\∀ H',StoreAt K H' a c (frS s b) O->Pst O H H' O->Q .non H'
theorem Zef (F:Fun K "freshen" "Store.freshen" Zbq f fd) (T:Txt K mg):FnOk P w K mg base CX0 1 f fd Zat (ZeK K):=by
 refine F.ok sc_Store_freshen (λvs H Q E h=>?_) (λcdv A outer st H vs Q E hr h=>?_)
 .obtain ⟨a,c,s,O,b,rfl,_⟩:=h
  rfl
 obtain ⟨a,c,s,O,b,rfl,S,hb,hl,k⟩:=h
 have nd:=sc_Store_freshen.nd
 have hu:=hu_of hr
 refine ⟨_,(Zi (ZfK hu (Zm (K:=K) rfl (pv 0) rfl) (pv 1) pe_bl rfl)),?_⟩
 obtain ⟨dx,h1⟩:=S.sto.ob
 obtain ⟨kvs,wl,h3⟩:=S.held
 obtain ⟨kf,h4,h5,h6⟩:=S.fresh
 have fl:=S.fln h5 h6
 refine ⟨_,rfl,a.sp,_,dx,_,_,rfl,h1,T.qc_,T.v3_,ZiO ..,_,rfl,a.df,_,rfl,DPut.k (k:=Sum.inl b) h4 (ZA (by lia)),?_⟩
 have S2:=S.sto.put (x:=a.df) (.inr rfl) (putK kf (Sum.inl b) (.bl true))
 refine k _ ⟨S2,⟨kvs,wl,by rw [Zc (Ne.symm S.sto.n2)]; exact h3.dc,h3.ki,h3.v,λx m=>⟨by rw [Zc (λz=>by have q:=(h3.at_ x m).1; rw [z,h4] at q; cases q)]; exact (h3.at_ x m).1,(h3.at_ x m).2⟩,h3.inj⟩,⟨_,Za,h5.put b _,λx=>?_⟩,λx h=>?_⟩ (S.sto.pput (x:=a.df) (.inr rfl) _)
 .rw [Zdj]
  show _=if (if x=b then true else s.fr x)=true then _ else _
  by_cases z:x=b
  .rw [if_pos (by rw [z]),if_pos z,if_pos rfl]
  .rw [if_neg (λq=>z (Sum.inl.inj q)),h6 x,if_neg z]
 .by_cases z:x=b
  .exact z ▸ hb
  .exact S.ffr x ((if_neg z:(if x=b then true else s.fr x)=s.fr x).symm.trans h)
end
section
def ZeL:Sp:=λvs H Q _=>∃ s p:Int,vs=[.int s,.int p]/\0<s/\s<1073741824/\Q (.int (p / s)) H
theorem ZhO (F:Fun K "board_of" "board_of" Zdx f fd) (T:Txt K mg):FnOk P w K mg base CX0 1 f fd Zbe ZeL:=by
 refine F.ok sc_board_of (λvs H Q E h=>?_) (λcdv A outer s H vs Q E hr h=>?_)
 .obtain ⟨s,p,rfl,_⟩:=h
  rfl
 obtain ⟨s,p,rfl,h0,h1,k⟩:=h
 have nd:=sc_board_of.nd
 refine ⟨_,(Zi (Zt (pe_op ZcO (pv 1) (pv 0)))),?_⟩
 exact ⟨_,rfl,_,rfl,_,_,rfl,rfl,⟨h0,h1⟩,k⟩
def spots (s b:Int):List V:=(List.range s.toNat).map λk=>V.int (b * s+(k:Nat))
def ZhP:Sp:=λvs H Q _=>∃ s b:Int,vs=[.int s,.int b]/\0<s/\s<=1000/\0<=b/\b<=1000000/\∀ (r:Addr) (H':Hp),H r=none->Same H H'->H' r=some (.lst (spots s b))->Q (.ref r) H'
theorem ZoK {b s:Int} (h0:0<=b) (h1:b<=1000000) (s0:0<s) (s1:s<=1000):0<=b * s/\b * s<=1000000000:=by
 refine ⟨Int.mul_nonneg h0 (by lia),?_⟩
 exact Int.le_trans (Int.mul_le_mul_of_nonneg_right h1 (by lia)) (Int.mul_le_mul_of_nonneg_left s1 (by decide))
theorem ZhQ (F:Fun K "spots_of" "spots_of" Zdy f fd) (T:Txt K mg):FnOk P w K mg base CX0 1 f fd ZcF ZhP:=by
 refine F.ok sc_spots_of (λvs H Q E h=>?_) (λcdv A outer s H vs Q E hr h=>?_)
 .obtain ⟨s,p,rfl,_⟩:=h
  rfl
 obtain ⟨s,b,rfl,s0,s1,b0,b1,k⟩:=h
 have nd:=sc_spots_of.nd
 refine ⟨_,(Zd (pst 2 nd (pe_op ZbN (pv 1) (pv 0)))
   (Zi (Zt (ZgK rfl rfl T.vg_ rfl T.q2_ (pc (pv 2) (pc (pe_op ZF (pv 2) (pv 0)) Zb)))))),?_⟩
 obtain ⟨m0,m1⟩:=ZoK b0 b1 s0 s1
 have e:(b * s+s - b * s).toNat=s.toNat:=by lia
 refine ⟨_,rfl,_,rfl,_,_,rfl,rfl,.inl ⟨by lia,by lia⟩,?_⟩
 refine ⟨_,rfl,_,rfl,_,rfl,_,_,rfl,rfl,_,_,rfl,⟨by lia,by lia,by lia,by lia⟩,?_⟩
 rw [e]
 refine ⟨Nat.le_of_lt (ZA (by lia)),λp hp=>?_⟩
 exact k p _ hp (Zg hp _) Za
def mflds (size:Int) (dk:Addr):List (Str×V):=putF "kept" (.ref dk) (putF "size" (.int size) [])
theorem ZhR (size:Int) (dk:Addr):(mflds size dk).lookup ("kept" : Str)=some (.ref dk):=by
 unfold mflds; rw [Zf,if_pos rfl]
theorem ZkV (size:Int) (dk:Addr):(mflds size dk).lookup ("size" : Str)=some (.int size):=by
 unfold mflds; rw [Zf,if_neg (by decide +kernel),Zf,if_pos rfl]
theorem mf_no (size:Int) (dk:Addr) {m:Str} (h1:¬ m = "kept" := by decide +kernel) (h2:¬ m = "size" := by decide +kernel):(mflds size dk).lookup m=none:=by
 unfold mflds
 rw [Zf,if_neg h1,Zf,if_neg h2]
 rfl
structure MemAt (K:W.Frag) (H:Hp) (bm dk:Addr) (size:Int) (mem:Int->Int) (U:List Int):Prop where
 ob:∃ dx,H bm=some (.ins (clsOf K "Memory") dx (mflds size dk))
 kept:∃ kvs,H dk=some (.dK kvs)/\KI kvs/\∀ s,valV kvs (Sum.inl s:Key)=if mem s=0 then none else some (.int (mem s))
 sup:∀ s,mem s≠0->s / size∈U
theorem MemAt.frame {H H':Hp} {bm dk:Addr} {size:Int} {mem:Int->Int} {U:List Int} (m:MemAt K H bm dk size mem U) (f:∀ x o,x=bm\/x=dk->H x=some o->H' x=some o):MemAt K H' bm dk size mem U:=by
 obtain ⟨dx,e⟩:=m.ob
 obtain ⟨kvs,e2,r⟩:=m.kept
 exact ⟨⟨dx,f _ _ (.inl rfl) e⟩,⟨kvs,f _ _ (.inr rfl) e2,r⟩,m.sup⟩
theorem ZnH {size:Int} {mem:Int->Int} {U:List Int} {kvs:List (Key×V)} (z0:0<size) (h:KI kvs) (v:∀ s,valV kvs (Sum.inl s:Key)=if mem s=0 then none else some (.int (mem s))) (sup:∀ s,mem s≠0->s / size∈U):kvs.length<=U.length * size.toNat:=by
 obtain ⟨ks,e,nd⟩:=h
 have l:=congrArg List.length e
 rw [length_map,length_map] at l
 rw [l]
 have q:=Zhf nd (b:=U.flatMap λb=>(List.range size.toNat).map λk=>b * size+(k:Nat)) λs m=>?_
 .refine Nat.le_trans q (Nat.le_of_eq ?_)
  clear q sup
  induction U with
  | nil=>simp
  | cons x U ih=>rw [List.flatMap_cons,length_append,ih,length_map,length_range,length_cons,Nat.succ_mul,Nat.add_comm]
 .have q:=ZfX (kvs:=kvs) (Sum.inl s)
  rw [v s,e] at q
  have hs:=q.mpr (mem_map_of_mem m)
  have nz:mem s≠0:=λz=>by rw [if_pos z] at hs; cases hs
  rw [List.mem_flatMap]
  have m0:0<=s % size:=Int.emod_nonneg _ (by lia)
  have m1:s % size<size:=Int.emod_lt_of_pos _ (by lia)
  refine ⟨s / size,sup s nz,List.mem_map.mpr ⟨(s % size).toNat,List.mem_range.mpr (by lia),?_⟩⟩
  have:=Int.mul_ediv_add_emod s size
  rw [Int.toNat_of_nonneg m0,Int.mul_comm]
  exact this
def spMem (K:W.Frag):Sp:=λvs H Q _=>∃ (p dx:Addr) (size:Int),vs=[.ref p,.int size]/\H p=some (.ins (clsOf K "Memory") dx []) /\
 ∀ (dk:Addr) (H':Hp),(∀ U,MemAt K H' p dk size (λ_=>0) U)->H dk=none->(∀ b o,H b=some o->b≠p->H' b=some o)->Q .non H'
theorem Zfg (F:Fun K "__init__" "Memory.__init__" ZbX f fd) (T:Txt K mg):FnOk P w K mg base CX0 1 f fd ZbY (spMem K):=by
 refine F.ok sc_Memory_init (λvs H Q E h=>?_) (λcdv A outer st H vs Q E hr h=>?_)
 .obtain ⟨p,dx,size,rfl,_⟩:=h
  rfl
 obtain ⟨p,dx,size,rfl,hp,k⟩:=h
 have nd:=sc_Memory_init.nd
 refine ⟨_,(Zd (ZaA (pv 0) (pv 1) rfl)
   (Zi (ZaA (pv 0) Zel rfl))),?_⟩
 refine ⟨_,rfl,_,rfl,p,_,dx,_,rfl,hp,T.va_,T.v4_,(by show 0<1000; decide),λdk hdk=>?_⟩
 have np:p≠dk:=Ze (Za (H:=H) (a:=p) (o:=.ins (clsOf K "Memory") dx (putF "size" (.int size) []))) hdk
 refine ⟨_,rfl,p,_,dx,_,rfl,(by rw [Zc np]; exact Za),T.va_,T.vq_,(by show 1<1000; decide),?_⟩
 rw [Zc (Ne.symm np)] at hdk
 refine k dk _ (λU=>⟨⟨dx,Za⟩,⟨[],by rw [Zc (Ne.symm np)]; exact Za,KI.nil,λ_=>rfl⟩,λs h=>absurd rfl h⟩) hdk λx o e n=>?_
 rw [Zc n,Zc (Ze e hdk),Zc n]
 exact e
def memW (size:Int) (mem:Int->Int) (b:Int):List Int:=(List.range size.toNat).map λk=>mem (b * size+(k:Nat))
def layI (size:Int) (mem:Int->Int) (b:Int) (ws:List Int) (i:Nat):Int->Int:=λs=>if b * size<=s/\s<b * size+i then ws.getD (s - b * size).toNat 0 else mem s
def layM (size:Int) (mem:Int->Int) (b:Int) (ws:List Int):Int->Int:=layI size mem b ws size.toNat
theorem ZiR {s b:Int} {i:Nat} {x:V} (h:(spots s b)[i]?=some x):x=.int (b * s+(i:Nat))/\i<s.toNat:=by
 unfold spots at h
 rw [getElem?_map] at h
 by_cases c:i<s.toNat
 .rw [getElem?_range c] at h
  exact ⟨(Option.some.inj h).symm,c⟩
 .rw [getElem?_eq_none (by rw [length_range]; lia)] at h
  cases h
def ZiS (K:W.Frag):Sp:=λvs H Q _=>∃ (bm dk:Addr) (size b:Int) (mem:Int->Int) (U:List Int),vs=[.ref bm,.int b]/\MemAt K H bm dk size mem U/\0<size/\size<=1000/\0<=b/\b<=1000000/\∀ l H',H l=none->Same H H'->H' l=some (.lst ((memW size mem b).map V.int))->Q (.ref l) H'
theorem Zds (F:Fun K "words_of" "Memory.words_of" ZZ f fd) (T:Txt K mg) (vl_:Def P w K mg base "spots_of" 1 ZcF ZhP):FnOk P w K mg base CX0 2 f fd ZaG (ZiS K):=by
 refine F.ok sc_Memory_words_of (λvs H Q E h=>?_) (λcdv A outer st H vs Q E hr h=>?_)
 .obtain ⟨bm,dk,size,b,mem,U,rfl,_⟩:=h
  rfl
 obtain ⟨bm,dk,size,b,mem,U,rfl,M,z0,z1,b0,b1,k⟩:=h
 have nd:=sc_Memory_words_of.nd
 have hu:=hu_of hr
 refine ⟨_,(Zi (Zt (ZbA (Zag (osc:=(Zh ZZ)) (oN:=N_Memory_words_of) (N:=["spot", "self"]) (own:=1) (js:=[0]) (by decide +kernel) rfl rfl) rfl (Zdk (K:=K) rfl (Zo vl_ hr.m rfl (pc (Zm (K:=K) rfl (pv 0) rfl) (pc (pv 1) Zb)))) (λ_ _ _ _ _ _=>(pgn 0 (show List.Nodup (["spot", "self"]:List Str) by decide +kernel))) (λ_ _ _ _ _ _=>(ZlF hu (Zm (K:=K) rfl (pv 1) rfl) (pv 0) Zj ⟨rfl,rfl,rfl,rfl⟩))))),?_⟩
 obtain ⟨dx,h1⟩:=M.ob
 obtain ⟨kvs,h2,h3,h4⟩:=M.kept
 refine ⟨_,rfl,bm,_,dx,_,_,rfl,h1,T.va_,T.v4_,ZkV ..,_,rfl,size,b,rfl,z0,z1,b0,b1,λr H1 hr1 s1 e1=>⟨r,rfl,⟨_,SqL.of e1⟩,λl hl=>?_⟩⟩
 have h1':=s1 _ _ h1
 have hk:=s1 _ _ h2
 have lsp:(spots size b).length=size.toNat:=by unfold spots; rw [length_map,length_range]
 refine ZeE (K:=K) (a:=r) (xs:=spots size b) (l:=l) (λi ys σ' G'=>∃ v0:Option V,σ'=[v0,some (.ref bm)]/\ys=((List.range i).map λk=>mem (b * size+(k:Nat))).map V.int/\G'=upd H1 l (.lst ys)) ⟨none,rfl,rfl,rfl⟩ (λi ys σ' G' _ ⟨_,_,_,q⟩=>SqL.of (by rw [q,Zc (Ze e1 hl)]; exact e1)) ?_ ?_
 .rintro i x ys σ' G' hi hxi hys ⟨v0,rfl,rfl,rfl⟩
  obtain ⟨rfl,_⟩:=ZiR hxi
  have sl:=Zg hl (.lst (((List.range i).map λk=>mem (b * size+(k:Nat))).map V.int))
  have q:=DGet.k (k:=Sum.inl (b * size+(i:Nat))) (sl _ _ hk)
  rw [h4] at q
  refine ⟨_,rfl,bm,_,dx,_,_,rfl,sl _ _ h1',T.va_,T.vq_,ZhR ..,dk,rfl,.inl ⟨_,.inl (sl _ _ hk)⟩,_,rfl,_,q,?_⟩
  have eg:(if mem (b * size+(i:Nat))=0 then none else some (V.int (mem (b * size+(i:Nat))))).getD (V.int 0)=V.int (mem (b * size+(i:Nat))):=by
   by_cases c:mem (b * size+(i:Nat))=0
   .rw [if_pos c,c]; rfl
   .rw [if_neg c]; rfl
  rw [eg]
  exact CNx.of (Nat.le_of_lt (ZA (by lia))) hi hys Za ⟨_,rfl,by rw [List.range_succ,map_append,map_append]; rfl,Zfx⟩
 .rintro ys σ' G' _ ⟨v0,rfl,rfl,rfl⟩
  rw [lsp]
  exact k l _ (s1.free hl) (s1.trans (Zg hl _)) Za
def ZmI (K:W.Frag):Sp:=λvs H Q _=>∃ (bm dk:Addr) (size b:Int) (mem:Int->Int) (U:List Int) (lw:Addr) (ws:List Int),vs=[.ref bm,.int b,.ref lw]/\MemAt K H bm dk size mem U/\0<size/\size<=1000/\0<=b/\b<=1000000/\b∈U/\U.length<=800/\H lw=some (.lst (ws.map V.int))/\ws.length=size.toNat/\∀ H',MemAt K H' bm dk size (layM size mem b ws) U->(∀ x o,H x=some o->x≠dk->H' x=some o)->Q .non H'
theorem ZkW {size:Int} {mem:Int->Int} {b:Int} {ws:List Int} {i:Nat} {x:Int} (h:ws[i]?=some x) (s:Int):layI size mem b ws (i+1) s=if s=b * size+(i:Nat) then x else layI size mem b ws i s:=by
 unfold layI
 have gd:ws.getD i 0=x:=by rw [getD_eq_getElem?_getD,h]; rfl
 by_cases c:s=b * size+(i:Nat)
 .rw [if_pos c,if_pos (by lia)]
  have:(s - b * size).toNat=i:=by lia
  rw [this,gd]
 .rw [if_neg c]
  by_cases d:b * size<=s/\s<b * size+(i:Nat)
  .rw [if_pos d,if_pos (by lia)]
  .rw [if_neg d,if_neg (by lia)]
theorem Zjy {size b:Int} {i:Nat} (z0:0<size) (hi:i<size.toNat):(b * size+(i:Nat)) / size=b:=by
 rw [Int.add_comm,Int.add_mul_ediv_right _ _ (by lia),Int.ediv_eq_zero_of_lt (by lia) (by lia)]
 lia
theorem Zgf (F:Fun K "lay" "Memory.lay" Zct f fd) (T:Txt K mg) (vl_:Def P w K mg base "spots_of" 1 ZcF ZhP):FnOk P w K mg base CX0 2 f fd Zcu (ZmI K):=by
 refine F.ok sc_Memory_lay (λvs H Q E h=>?_) (λcdv A outer st H vs Q E hr h=>?_)
 .obtain ⟨bm,dk,size,b,mem,U,lw,ws,rfl,_⟩:=h
  rfl
 obtain ⟨bm,dk,size,b,mem,U,lw,ws,rfl,M,z0,z1,b0,b1,bU,lU,hlw,lws,k⟩:=h
 have nd:=sc_Memory_lay.nd
 have hu:=hu_of hr
 refine ⟨_,(Zi (Zcj PassesOwn.never rfl (Zok rfl T.j3_ (pc (Zo vl_ hr.m rfl (pc (Zm (K:=K) rfl (pv 0) rfl) (pc (pv 1) Zb))) (pc (pv 2) Zb))) (Zad (K:=K) (n:=2) rfl rfl (Zs (pgn 3 nd) (Zs (pgn 4 nd) Zac))) (Zi (ps_if (Zw op_eq (pv 4) Zj (Zv _)) (Zi (Zp (Ziy (Zm (K:=K) rfl (pv 0) rfl) (pv 3) Zj ⟨rfl,rfl,rfl,rfl⟩))) (Zi (ZfK hu (Zm (K:=K) rfl (pv 0) rfl) (pv 3) (pv 4) rfl)))))),?_⟩
 obtain ⟨dx,h1⟩:=M.ob
 obtain ⟨kv0,h2,_⟩:=M.kept
 refine ⟨_,rfl,bm,_,dx,_,_,rfl,h1,T.va_,T.v4_,ZkV ..,_,rfl,size,b,rfl,z0,z1,b0,b1,λr H1 hr1 s1 e1=>?_⟩
 have lsp:(spots size b).length=size.toNat:=by unfold spots; rw [length_map,length_range]
 have nrd:r≠dk:=λz=>by rw [z,h2] at hr1; cases hr1
 have nld:lw≠dk:=λz=>by rw [z,h2] at hlw; cases hlw
 refine ⟨_,rfl,r,lw,rfl,⟨_,SqL.of e1⟩,⟨_,SqL.of (s1 _ _ hlw)⟩,Zno (K:=K) (a:=r) (b:=lw) (xs:=spots size b) (ys:=ws.map V.int) (λi σ G=>∃ v3 v4:Option V,σ=[some (.ref bm),some (.int b),some (.ref lw),v3,v4]/\MemAt K G bm dk size (layI size mem b ws i) U/\∀ x o,H1 x=some o->x≠dk->G x=some o) (by rw [lsp,length_map,lws])
  ⟨none,none,rfl,?_,λ_ _ e _=>e⟩ (λi σ G _ ⟨_,_,_,_,q⟩=>⟨SqL.of (q _ _ e1 nrd),SqL.of (q _ _ (s1 _ _ hlw) nld)⟩) ?_ ?_⟩
 .have e0:layI size mem b ws 0=mem:=by
   funext s
   unfold layI
   rw [if_neg (by lia)]
  rw [e0]
  exact M.frame λx o _ e=>s1 x o e
 .rintro i x y t σ G hx hy ⟨v3,v4,rfl,M',fr⟩ ht
  obtain ⟨rfl,hi⟩:=ZiR hx
  obtain ⟨z,hz,rfl⟩:∃ z,ws[i]?=some z/\y=V.int z:=by
   rw [getElem?_map] at hy
   cases e:ws[i]? with
   | none=>rw [e] at hy; cases hy
   | some z=>rw [e] at hy; exact ⟨z,rfl,(Option.some.inj hy).symm⟩
  have s2:=Zg ht (.tup [V.int (b * size+(i:Nat)),V.int z])
  refine ⟨t,_,rfl,SqT.of Za,rfl,_,_,rfl,gN ⟨_,_,rfl,gN ⟨rfl,?_⟩⟩⟩
  have M2:MemAt K (upd G t (.tup [V.int (b * size+(i:Nat)),V.int z])) bm dk size (layI size mem b ws i) U:=M'.frame λx o _ e=>s2 x o e
  have fr2:∀ x o,H1 x=some o->x≠dk->upd G t (.tup [V.int (b * size+(i:Nat)),V.int z]) x=some o:=λx o e n=>s2 _ _ (fr x o e n)
  generalize upd G t (.tup [V.int (b * size+(i:Nat)),V.int z])=G2 at *
  obtain ⟨dx2,g1⟩:=M2.ob
  obtain ⟨kvs,g2,g3,g4⟩:=M2.kept
  have nbd:bm≠dk:=λq=>by rw [q,g2] at g1; cases g1
  have sp:=Zjy (b:=b) z0 hi
  have es:=ZkW (size:=size) (mem:=mem) (b:=b) hz
  have fin:∀ kvs',KI kvs'->(∀ s,valV kvs' (Sum.inl s:Key)=if s=b * size+(i:Nat) then (if z=0 then none else some (.int z)) else valV kvs (Sum.inl s:Key))->MemAt K (upd G2 dk (.dK kvs')) bm dk size (layI size mem b ws (i+1)) U/\∀ x o,H1 x=some o->x≠dk->upd G2 dk (.dK kvs') x=some o:=λkvs' ki hv=>by
   refine ⟨⟨⟨dx2,by rw [Zc nbd]; exact g1⟩,⟨kvs',Za,ki,λs=>?_⟩,λs hs=>?_⟩,λx o e n=>by rw [Zc n]; exact fr2 x o e n⟩
   .by_cases c:s=b * size+(i:Nat)
    .rw [hv s,(es s).trans (if_pos c),if_pos c]
    .rw [hv s,(es s).trans (if_neg c),if_neg c,g4 s]
   .rw [es s] at hs
    by_cases c:s=b * size+(i:Nat)
    .rw [c,sp]; exact bU
    .rw [if_neg c] at hs
     exact M2.sup s hs
  refine ⟨_,rfl,rfl,_,rfl,ZfW (λc=>?_) (λc=>?_)⟩
  .have c:z=0:=by simpa using c
   refine ⟨_,rfl,bm,_,dx2,_,_,rfl,g1,T.va_,T.vq_,ZhR ..,dk,rfl,.inl ⟨_,.inl g2⟩,_,rfl,kvs,Sum.inl (b * size+(i:Nat)),g2,rfl,λv hv=>?_,λhv=>?_⟩
   .obtain ⟨f1,f2⟩:=fin _ (g3.drop (b * size+(i:Nat))) (λs=>by
     rw [Zeo,if_pos c]
     by_cases q:s=b * size+(i:Nat)
     .rw [if_pos (by rw [q]),if_pos q]
     .rw [if_neg (λy=>q (Sum.inl.inj y)),if_neg q])
    exact ⟨_,_,rfl,f1,f2⟩
   .rw [g4] at hv
    have e0:layI size mem b ws i (b * size+(i:Nat))=0:=by
     by_cases q:layI size mem b ws i (b * size+(i:Nat))=0
     .exact q
     .rw [if_neg q] at hv; cases hv
    have e:layI size mem b ws (i+1)=layI size mem b ws i:=by
     funext s
     rw [es s]
     by_cases q:s=b * size+(i:Nat)
     .rw [if_pos q,q,e0,c]
     .rw [if_neg q]
    exact ⟨_,_,rfl,by rw [e]; exact M2,fr2⟩
  .have c:z≠0:=λq=>c (by rw [q]; simp)
   have kl:=ZnH z0 g3 g4 M2.sup
   have kb:kvs.length<sizeLine:=Nat.lt_of_le_of_lt (Nat.le_trans kl (Nat.mul_le_mul lU (by lia:size.toNat<=1000))) (by decide)
   refine ⟨_,rfl,_,rfl,bm,_,dx2,_,_,rfl,g1,T.va_,T.vq_,ZhR ..,_,rfl,dk,_,rfl,DPut.k (k:=Sum.inl (b * size+(i:Nat))) g2 kb,?_⟩
   obtain ⟨f1,f2⟩:=fin _ (g3.put (b * size+(i:Nat)) (.int z)) (λs=>by
     rw [Zdj,if_neg c]
     by_cases q:s=b * size+(i:Nat)
     .rw [if_pos (by rw [q]),if_pos q]
     .rw [if_neg (λy=>q (Sum.inl.inj y)),if_neg q])
   exact ⟨_,_,rfl,f1,f2⟩
 .rintro σ G ⟨v3,v4,rfl,M',fr⟩
  rw [lsp] at M'
  exact k G M' λx o e n=>fr x o (s1 _ _ e) n
end
structure Pln where
 size:Int
 kind:Str
 cfs:List Cf
 U:List Int
structure WF (g:Pln):Prop where
 cf:∀ c∈g.cfs,1<=c.pl/\c.pl<=16
 z0:1<=g.size
 z1:g.size<=1000
 lU:g.U.length<=800
 ub:∀ b∈g.U,0<=b/\b<=1000000
 l4:g.cfs.length<=4
 l1:1<=g.cfs.length
structure Stt where
 rm:List Rm
 mem:Int->Int
 ev:List (List V)
def Stt.at_ (st:Stt) (k:Nat):Rm:=st.rm.getD k Rm0
def Stt.set (st:Stt) (k:Nat) (s:Rm):Stt:={ st with rm:=st.rm.set k s }
def Stt.tell (st:Stt) (e:List V):Stt:={ st with ev:=st.ev++[e] }
structure TA where
 p:Addr
 ss:Addr
 bm:Addr
 dk:Addr
 ev:Addr
 as:List SA
abbrev OS:=Nat->Addr->Prop
def OS.set (os:OS) (k:Nat) (O:Addr->Prop):OS:=λj=>if j=k then O else os j
def Bs (A:TA) (x:Addr):Prop:=x=A.p\/x=A.ss\/x=A.bm\/x=A.dk\/x=A.ev
def OW (A:TA) (os:OS) (x:Addr):Prop:=Bs A x\/∃ k,k<A.as.length/\os k x
def Ev (n:Nat) (e:List V):Prop:=(∃ k:Nat,k<=n/\e=[.str "found",.int (k:Int)])\/(∃ (k:Nat) (b:Int),(k<n/\0<=b/\b<=1000000)/\(e=[.str "in",.int (k:Int),.int b]\/e=[.str "out",.int (k:Int),.int b]))\/∃ (k:Nat) (b:Int),(k<=n/\0<=b/\b<=1000000)/\e=[.str "words",.int (k:Int),.int b]
def EvL (n:Nat) (H:Hp) (l:Addr) (es:List (List V)):Prop:=(∀ e∈es,Ev n e)/\∃ ts:List Addr,H l=some (.lst (ts.map V.ref))/\ts.length=es.length/\∀ (i:Nat) (t:Addr) (e:List V),ts[i]?=some t->es[i]?=some e->H t=some (.tup e)
def tflds (size:Int) (ss bm:Addr) (last:Nat) (ev:Addr) (kind:Str):List (Str×V):=putF "kind" (.str kind) (putF "events" (.ref ev) (putF "last" (.int last) (putF "bottom" (.ref bm) (putF "stores" (.ref ss) (putF "size" (.int size) [])))))
section
variable (size:Int) (ss bm:Addr) (last:Nat) (ev:Addr) (kind:Str)
theorem ZkX:(tflds size ss bm last ev kind).lookup ("kind" : Str)=some (.str kind):=by
 unfold tflds; rw [Zf,if_pos rfl]
theorem Zcx:(tflds size ss bm last ev kind).lookup ("events" : Str)=some (.ref ev):=by
 unfold tflds; rw [Zf,if_neg (by decide +kernel),Zf,if_pos rfl]
theorem ZbM:(tflds size ss bm last ev kind).lookup ("last" : Str)=some (.int last):=by
 unfold tflds; rw [Zf,if_neg (by decide +kernel),Zf,if_neg (by decide +kernel),Zf,if_pos rfl]
theorem Zhk:(tflds size ss bm last ev kind).lookup ("bottom" : Str)=some (.ref bm):=by
 unfold tflds; rw [Zf,if_neg (by decide +kernel),Zf,if_neg (by decide +kernel),Zf,if_neg (by decide +kernel),Zf,if_pos rfl]
theorem ZL:(tflds size ss bm last ev kind).lookup ("stores" : Str)=some (.ref ss):=by
 unfold tflds; rw [Zf,if_neg (by decide +kernel),Zf,if_neg (by decide +kernel),Zf,if_neg (by decide +kernel),Zf,if_neg (by decide +kernel),Zf,if_pos rfl]
theorem ZdM:(tflds size ss bm last ev kind).lookup ("size" : Str)=some (.int size):=by
 unfold tflds; rw [Zf,if_neg (by decide +kernel),Zf,if_neg (by decide +kernel),Zf,if_neg (by decide +kernel),Zf,if_neg (by decide +kernel),Zf,if_neg (by decide +kernel),Zf,if_pos rfl]
theorem tf_no {m:Str} (h1:¬ m = "kind" := by decide +kernel) (h2:¬ m = "events" := by decide +kernel) (h3:¬ m = "last" := by decide +kernel) (h4:¬ m = "bottom" := by decide +kernel) (h5:¬ m = "stores" := by decide +kernel) (h6:¬ m = "size" := by decide +kernel):(tflds size ss bm last ev kind).lookup m=none:=by
 unfold tflds
 rw [Zf,if_neg h1,Zf,if_neg h2,Zf,if_neg h3,Zf,if_neg h4,Zf,if_neg h5,Zf,if_neg h6]
 rfl
theorem ZJ {f g:Str} {v x:V} {r:List (Str×V)} (h:¬ g=f):putF f v ((g,x) :: r)=(g,x) :: putF f v r:=by
 show (if g=f then _ else _)=_; rw [if_neg h]
theorem ZnI {f:Str} {v x:V} {r:List (Str×V)}:putF f v ((f,x) :: r)=(f,v) :: r:=by
 show (if f=f then _ else _)=_; rw [if_pos rfl]
theorem ZcI {f:Str} {v:V}:putF f v []=[(f,v)]:=rfl
theorem ZdN:tflds size ss bm last ev kind=([(("size" : Str),V.int size),(("stores" : Str),V.ref ss),(("bottom" : Str),V.ref bm),(("last" : Str),V.int last),(("events" : Str),V.ref ev),(("kind" : Str),V.str kind)]:List (Str×V)):=by
 unfold tflds
 have a1:¬ ("size" : Str) = "stores" := by decide +kernel
 have a2:¬ ("size" : Str) = "bottom" := by decide +kernel
 have a3:¬ ("size" : Str) = "last" := by decide +kernel
 have a4:¬ ("size" : Str) = "events" := by decide +kernel
 have a5:¬ ("size" : Str) = "kind" := by decide +kernel
 have b2:¬ ("stores" : Str) = "bottom" := by decide +kernel
 have b3:¬ ("stores" : Str) = "last" := by decide +kernel
 have b4:¬ ("stores" : Str) = "events" := by decide +kernel
 have b5:¬ ("stores" : Str) = "kind" := by decide +kernel
 have c3:¬ ("bottom" : Str) = "last" := by decide +kernel
 have c4:¬ ("bottom" : Str) = "events" := by decide +kernel
 have c5:¬ ("bottom" : Str) = "kind" := by decide +kernel
 have d4:¬ ("last" : Str) = "events" := by decide +kernel
 have d5:¬ ("last" : Str) = "kind" := by decide +kernel
 have e5:¬ ("events" : Str) = "kind" := by decide +kernel
 rw [ZcI,ZJ a1,ZcI,ZJ a2,ZJ b2,ZcI,ZJ a3,ZJ b3,ZJ c3,ZcI,ZJ a4,ZJ b4,ZJ c4,ZJ d4,ZcI,ZJ a5,ZJ b5,ZJ c5,ZJ d5,ZJ e5,ZcI]
theorem ZoL (ev':Addr):putF "events" (.ref ev') (tflds size ss bm last ev kind)=tflds size ss bm last ev' kind:=by
 rw [ZdN,ZdN]
 have a4:¬ ("size" : Str) = "events" := by decide +kernel
 have b4:¬ ("stores" : Str) = "events" := by decide +kernel
 have c4:¬ ("bottom" : Str) = "events" := by decide +kernel
 have d4:¬ ("last" : Str) = "events" := by decide +kernel
 rw [ZJ a4,ZJ b4,ZJ c4,ZJ d4,ZnI]
end
structure StairsAt (K:W.Frag) (H:Hp) (A:TA) (g:Pln) (st:Stt) (os:OS) (n:Nat):Prop where
 ob:∃ dx,H A.p=some (.ins (clsOf K "Stairs") dx (tflds g.size A.ss A.bm A.as.length A.ev g.kind))
 ss:H A.ss=some (.lst (A.as.map λa=>V.ref a.sp))
 mem:MemAt K H A.bm A.dk g.size st.mem g.U
 ev:EvL g.cfs.length H A.ev st.ev
 evn:st.ev.length<=n
 lc:g.cfs.length=A.as.length
 lS:st.rm.length=A.as.length
 sto:∀ (k:Nat) (a:SA) (c:Cf) (s:Rm),A.as[k]?=some a->g.cfs[k]?=some c->st.rm[k]?=some s->StoreAt K H a c s (os k)
 off:∀ k,k<A.as.length->∀ x,os k x->¬ Bs A x
 dis:∀ i j,i<A.as.length->j<A.as.length->i≠j->∀ x,os i x->¬ os j x
 nse:A.ss≠A.ev
 npb:A.p≠A.bm
 uni:∀ s∈st.rm,∀ b∈s.seq,b∈g.U
 full:∀ (k:Nat) (c:Cf) (s:Rm),g.cfs[k]?=some c->st.rm[k]?=some s->∀ t,((Zl c.sh t s.seq).length:Int)<=c.pl
 wl:∀ s∈st.rm,∀ b∈s.seq,(s.wd b).length=g.size.toNat
 wf:WF g
 tb:Tb K H
section
variable {K:W.Frag} {H H':Hp} {A:TA} {g:Pln} {st:Stt} {os:OS} {n:Nat} {a:SA} {c:Cf} {s:Rm}
theorem EvL.frame {m:Nat} {l:Addr} {es:List (List V)} (h:EvL m H l es) (f1:∀ o,H l=some o->H' l=some o) (f2:∀ x ys,H x=some (.tup ys)->H' x=some (.tup ys)):EvL m H' l es:=by
 obtain ⟨h0,ts,h1,h2,h3⟩:=h
 exact ⟨h0,ts,f1 _ h1,h2,λi t e a b=>f2 _ _ (h3 i t e a b)⟩
theorem StairsAt.frame (T:StairsAt K H A g st os n) (f:∀ x o,H x=some o->(OW A os x\/¬ Mt o)->H' x=some o):StairsAt K H' A g st os n:=by
 obtain ⟨dx,h1⟩:=T.ob
 have fb:∀ {x o},Bs A x->H x=some o->H' x=some o:=λ{x o} h e=>f x o e (.inl (.inl h))
 have ft:∀ x ys,H x=some (.tup ys)->H' x=some (.tup ys):=λx ys e=>f x _ e (.inr id)
 refine ⟨⟨dx,fb (.inl rfl) h1⟩,fb (by simp [Bs]) T.ss,T.mem.frame λx o m e=>fb (by rcases m with m | m <;> simp [Bs,m]) e,T.ev.frame (λo e=>fb (by simp [Bs]) e) ft,T.evn,T.lc,T.lS,λk a c s h1 h2 h3=>(T.sto k a c s h1 h2 h3).frame λx o h e=>f x o e (.inl (.inr ⟨k,(List.getElem?_eq_some_iff.mp h1).1,h⟩)),T.off,T.dis,T.nse,T.npb,T.uni,T.full,T.wl,T.wf,f _ _ T.tb (.inr id)⟩
theorem StairsAt.same (T:StairsAt K H A g st os n) (h:Same H H'):StairsAt K H' A g st os n:=T.frame λx o e _=>h x o e
theorem StairsAt.le {m:Nat} (T:StairsAt K H A g st os n) (h:n<=m):StairsAt K H A g st os m:=⟨T.ob,T.ss,T.mem,T.ev,Nat.le_trans T.evn h,T.lc,T.lS,T.sto,T.off,T.dis,T.nse,T.npb,T.uni,T.full,T.wl,T.wf,T.tb⟩
theorem StairsAt.ex (T:StairsAt K H A g st os n):∀ x,OW A os x->H x≠none:=λx h=>by
 rcases h with h | ⟨k,hk,h⟩
 .obtain ⟨dx,h1⟩:=T.ob
  obtain ⟨dm,h2⟩:=T.mem.ob
  obtain ⟨kv,h3,_⟩:=T.mem.kept
  obtain ⟨_,ts,h4,_⟩:=T.ev
  rcases h with rfl | rfl | rfl | rfl | rfl
  .rw [h1]; simp
  .rw [T.ss]; simp
  .rw [h2]; simp
  .rw [h3]; simp
  .rw [h4]; simp
 .have h1:A.as[k]?=some A.as[k]:=getElem?_eq_getElem hk
  have h2:g.cfs[k]?=some (g.cfs[k]'(by rw [T.lc]; exact hk)):=getElem?_eq_getElem _
  have h3:st.rm[k]?=some (st.rm[k]'(by rw [T.lS]; exact hk)):=getElem?_eq_getElem _
  exact (T.sto _ _ _ _ h1 h2 h3).sto.ex x h
theorem Stt.at_of {k:Nat} (h:k<st.rm.length):st.rm[k]?=some (st.at_ k):=by
 unfold Stt.at_
 rw [getD_eq_getElem?_getD,getElem?_eq_getElem h]
 rfl
theorem Stt.at_set {k j:Nat} {s:Rm} (h:k<st.rm.length):(st.set k s).at_ j=if j=k then s else st.at_ j:=by
 unfold Stt.at_ Stt.set
 rw [getD_eq_getElem?_getD,getD_eq_getElem?_getD]
 by_cases z:j=k
 .rw [if_pos z,z,getElem?_set_self h]; rfl
 .rw [if_neg z,getElem?_set_ne (Ne.symm z)]
def Pln.cf (g:Pln) (k:Nat):Cf:=g.cfs.getD k ⟨1,1, "old",true⟩
theorem StairsAt.at_ (T:StairsAt K H A g st os n) {k:Nat} (hk:k<A.as.length):∃ a,A.as[k]?=some a/\g.cfs[k]?=some (g.cf k)/\st.rm[k]?=some (st.at_ k)/\StoreAt K H a (g.cf k) (st.at_ k) (os k):=by
 have h1:A.as[k]?=some A.as[k]:=getElem?_eq_getElem hk
 have h2:g.cfs[k]?=some (g.cf k):=by
  unfold Pln.cf
  rw [getD_eq_getElem?_getD,getElem?_eq_getElem (by rw [T.lc]; exact hk)]
  rfl
 have h3:=Stt.at_of (st:=st) (k:=k) (by rw [T.lS]; exact hk)
 exact ⟨_,h1,h2,h3,T.sto _ _ _ _ h1 h2 h3⟩
theorem StairsAt.bds (T:StairsAt K H A g st os n) {k:Nat} (hk:k<A.as.length):(st.at_ k).seq.length<=800/\(∀ b∈(st.at_ k).seq,b∈g.U/\((st.at_ k).wd b).length=g.size.toNat)/\(∀ t,((Zl (g.cf k).sh t (st.at_ k).seq).length:Int)<=(g.cf k).pl)/\1<=(g.cf k).pl/\(g.cf k).pl<=16/\(st.at_ k).seq.Nodup:=by
 obtain ⟨a,h1,h2,h3,S⟩:=T.at_ hk
 have m:=mem_of_getElem? h3
 obtain ⟨c1,c2⟩:=T.wf.cf _ (mem_of_getElem? h2)
 exact ⟨Nat.le_trans (Zhf S.sto.room.nd (T.uni _ m)) T.wf.lU,λb h=>⟨T.uni _ m b h,T.wl _ m b h⟩,T.full _ _ _ h2 h3,c1,c2,S.sto.room.nd⟩
theorem ZoM {k:Nat} {O':Addr->Prop} (T:StairsAt K H A g st os n) (hk:k<A.as.length) (p:Pst (os k) H H' O'):Pst (OW A os) H H' (OW A (os.set k O')):=by
 refine ⟨λx o e nn=>p.kp x o e λh=>nn (.inr ⟨k,hk,h⟩),λx h=>?_⟩
 rcases h with h | ⟨j,hj,h⟩
 .exact .inl (.inl h)
 .unfold OS.set at h
  by_cases z:j=k
  .rw [if_pos z] at h
   exact (p.fr x h).elim (λq=>.inl (.inr ⟨k,hk,q⟩)) .inr
  .rw [if_neg z] at h
   exact .inl (.inr ⟨j,hj,h⟩)
theorem StairsAt.deed {k:Nat} {s':Rm} {O':Addr->Prop} (T:StairsAt K H A g st os n) (ha:A.as[k]?=some a) (hc:g.cfs[k]?=some c) (S:StoreAt K H' a c s' O') (p:Pst (os k) H H' O') (hu:∀ b∈s'.seq,b∈g.U/\(s'.wd b).length=g.size.toNat) (hf:∀ t,((Zl c.sh t s'.seq).length:Int)<=c.pl) :
  StairsAt K H' A g (st.set k s') (os.set k O') n/\Pst (OW A os) H H' (OW A (os.set k O')):=by
 have hk:k<A.as.length:=(List.getElem?_eq_some_iff.mp ha).1
 refine ⟨?_,ZoM T hk p⟩
 have nb:∀ {x o},Bs A x->H x=some o->H' x=some o:=λ{x o} h e=>p.kp x o e λq=>absurd h (T.off k hk x q)
 have nt:∀ x ys,H x=some (.tup ys)->H' x=some (.tup ys):=λx ys e=>p.kp x _ e λ_=>id
 obtain ⟨dx,h1⟩:=T.ob
 refine ⟨⟨dx,nb (.inl rfl) h1⟩,nb (by simp [Bs]) T.ss,T.mem.frame λx o m e=>nb (by rcases m with m | m <;> simp [Bs,m]) e,T.ev.frame (λo e=>nb (by simp [Bs]) e) nt,T.evn,T.lc,by show (st.rm.set k s').length=_; rw [length_set]; exact T.lS,λj b cb sb hb hcb hsb=>?_,λj hj x h=>?_,λi j hi hj hij x h1 h2=>?_,T.nse,T.npb,λq hq b hb=>?_,λj cb sb hcb hsb=>?_,λq hq b hb=>?_,T.wf,p.kp _ _ T.tb λ_=>id⟩
 .have hj:=(List.getElem?_eq_some_iff.mp hb).1
  unfold OS.set
  by_cases e:j=k
  .subst e
   rw [ha] at hb; cases hb
   rw [hc] at hcb; cases hcb
   have hsb:(st.rm.set j s')[j]?=some sb:=hsb
   rw [getElem?_set_self (by rw [T.lS]; exact hk)] at hsb
   cases hsb
   rw [if_pos rfl]
   exact S
  .have hsb:(st.rm.set k s')[j]?=some sb:=hsb
   rw [getElem?_set_ne (Ne.symm e)] at hsb
   rw [if_neg e]
   exact (T.sto j b cb sb hb hcb hsb).frame λx o h q=>p.kp x o q λz=>absurd z (T.dis j k hj hk e x h)
 .unfold OS.set at h
  by_cases e:j=k
  .rw [if_pos e] at h
   rcases p.fr x h with q | q
   .exact T.off k hk x q
   .exact λz=>T.ex x (.inl z) q
  .rw [if_neg e] at h
   exact T.off j hj x h
 .unfold OS.set at h1 h2
  by_cases e1:i=k
  .rw [if_pos e1] at h1
   rw [if_neg (λz=>hij (e1.trans z.symm))] at h2
   rcases p.fr x h1 with q | q
   .exact T.dis k j hk hj (λz=>hij (e1.trans z)) x q h2
   .exact T.ex x (.inr ⟨j,hj,h2⟩) q
  .rw [if_neg e1] at h1
   by_cases e2:j=k
   .rw [if_pos e2] at h2
    rcases p.fr x h2 with q | q
    .exact T.dis i k hi hk e1 x h1 q
    .exact T.ex x (.inr ⟨i,hi,h1⟩) q
   .rw [if_neg e2] at h2
    exact T.dis i j hi hj hij x h1 h2
 .rcases List.mem_or_eq_of_mem_set hq with hq | rfl
  .exact T.uni q hq b hb
  .exact (hu b hb).1
 .by_cases e:j=k
  .subst e
   rw [hc] at hcb; cases hcb
   have hsb:(st.rm.set j s')[j]?=some sb:=hsb
   rw [getElem?_set_self (by rw [T.lS]; exact hk)] at hsb
   cases hsb
   exact hf
  .have hsb:(st.rm.set k s')[j]?=some sb:=hsb
   rw [getElem?_set_ne (Ne.symm e)] at hsb
   exact T.full j cb sb hcb hsb
 .rcases List.mem_or_eq_of_mem_set hq with hq | rfl
  .exact T.wl q hq b hb
  .exact (hu b hb).2
theorem StairsAt.event (T:StairsAt K H A g st os n) {t:Addr} (e:List V) (he:Ev g.cfs.length e) (ht:H t=none):∃ ts:List Addr,H A.ev=some (.lst (ts.map V.ref))/\ts.length<=n/\StairsAt K (upd (upd H t (.tup e)) A.ev (.lst (ts.map V.ref++[.ref t]))) A g (st.tell e) os (n+1)/\Pst (OW A os) H (upd (upd H t (.tup e)) A.ev (.lst (ts.map V.ref++[.ref t]))) (OW A os):=by
 obtain ⟨h0,ts,h1,h2,h3⟩:=T.ev
 have s1:=Zg ht (.tup e)
 have T1:=T.same s1
 have nte:t≠A.ev:=λz=>by rw [z,h1] at ht; cases ht
 have off:∀ {x o},H x=some o->x≠A.ev->upd (upd H t (.tup e)) A.ev (.lst (ts.map V.ref++[.ref t])) x=some o:=λ{x o} q z=>by rw [Zc z]; exact s1 _ _ q
 have nk:∀ {x o},H x=some o->(∀ xs,o≠.lst xs)->x≠A.ev:=λ{x o} q m z=>by rw [z,h1] at q; exact m _ (Option.some.inj q).symm
 have evn:=T.evn
 refine ⟨ts,h1,by lia,?_,⟨λx o q m=>off q λz=>?_,λx h=>.inl h⟩⟩
 .obtain ⟨dx,g1⟩:=T.ob
  obtain ⟨dm,g2⟩:=T.mem.ob
  obtain ⟨kv,g3,g4⟩:=T.mem.kept
  refine ⟨⟨dx,off g1 (nk g1 (λ_ z=>by cases z))⟩,off T.ss T.nse,⟨⟨dm,off g2 (nk g2 (λ_ z=>by cases z))⟩,⟨kv,off g3 (nk g3 (λ_ z=>by cases z)),g4⟩,T.mem.sup⟩,⟨λe' m=>(List.mem_append.mp m).elim (h0 e') λm=>by rw [List.mem_singleton.mp m]; exact he,ts++[t],by rw [Za,map_append]; rfl,by rw [length_append]; show _=(st.ev++[e]).length; rw [length_append,h2]; rfl,λi t' e' q1 q2=>?_⟩,by show (st.ev++[e]).length<=n+1; rw [length_append]; show st.ev.length+1<=n+1; lia,T.lc,T.lS,λk a c s q1 q2 q3=>(T.sto k a c s q1 q2 q3).frame λx o h q=>off q λz=>T.off k (List.getElem?_eq_some_iff.mp q1).1 x h (by simp [Bs,z]),T.off,T.dis,T.nse,T.npb,T.uni,T.full,T.wl,T.wf,off T.tb (nk T.tb (λ_ z=>by cases z))⟩
  have q2:(st.ev++[e])[i]?=some e':=q2
  by_cases hi:i<ts.length
  .rw [getElem?_append_left hi] at q1
   rw [getElem?_append_left (by lia)] at q2
   have q:=h3 i t' e' q1 q2
   exact off q (nk q (λ_ z=>by cases z))
  .have hl:=(List.getElem?_eq_some_iff.mp q1).1
   rw [length_append,length_singleton] at hl
   have:i=ts.length:=by lia
   rw [getElem?_append_right (by lia),this,Nat.sub_self] at q1
   rw [getElem?_append_right (by lia),show i - st.ev.length=0 by lia] at q2
   cases q1
   cases q2
   rw [Zc nte]
   exact Za
 .rw [z,h1] at q
  cases q
  exact m (.inl (by simp [Bs,z])) trivial
end
theorem Zgg {R:Int->Int->Prop} (anti:∀ a b,R a b->R b a->a=b):∀ {l1 l2:List Int},l1.Perm l2->l1.Pairwise R->l2.Pairwise R->l1=l2
 | [],l2,p,_,_=>(List.nil_perm.mp p).symm
 | a :: l1,l2,p,h1,h2=>by
  match l2,p,h2 with
  | [],p,_=>exact absurd p.length_eq (by simp)
  | b :: l2,p,h2 =>
   have e:a=b:=by
    by_cases c:a=b
    .exact c
    .have ma:a∈l2:=(List.mem_cons.mp (p.mem_iff.mp mem_cons_self)).resolve_left c
     have mb:b∈l1:=(List.mem_cons.mp (p.mem_iff.mpr mem_cons_self)).resolve_left (λz=>c z.symm)
     exact anti a b ((List.pairwise_cons.mp h1).1 b mb) ((List.pairwise_cons.mp h2).1 a ma)
   subst e
   rw [Zgg anti (List.Perm.cons_inv p) (List.pairwise_cons.mp h1).2 (List.pairwise_cons.mp h2).2]
theorem ZiT {us:Int->Int} {ms:List Int} (a b:Int) (h1:KLt us ms a b) (h2:KLt us ms b a):a=b:=by
 rcases h1 with h1 | ⟨h1,h3⟩ <;> rcases h2 with h2 | ⟨h2,h4⟩ <;> lia
theorem ZkY {ru:Str} {us:Int->Int} {pl:Int} {ms:List Int} {g g':Option Int} (h:goneP ru us pl ms g) (h':goneP ru us pl ms g'):g=g':=by
 by_cases c:(ms.length:Int)<pl
 .rw [h.1 c,h'.1 c]
 .obtain ⟨x,r,rfl,p,f,n⟩:=h.2 c
  obtain ⟨x',r',rfl,p',f',n'⟩:=h'.2 c
  have e:x :: r=x' :: r':=by
   by_cases q:ru = "few"
   .exact Zgg ZiT (p.trans p'.symm) (f q) (f' q)
   .rw [n q,n' q]
  injection e with e1 _
  rw [e1]
open Classical in
noncomputable def goneF (c:Cf) (s:Rm) (b:Int):Option Int:=if h:∃ g,goneP c.ru s.us c.pl (Zl c.sh (b % c.sh) s.seq) g then Classical.choose h else none
theorem Zmh {c:Cf} {s:Rm} {b:Int} {g:Option Int} (h:goneP c.ru s.us c.pl (Zl c.sh (b % c.sh) s.seq) g):goneF c s b=g:=by
 unfold goneF
 have e:∃ g,goneP c.ru s.us c.pl (Zl c.sh (b % c.sh) s.seq) g:=⟨g,h⟩
 rw [dif_pos e]
 exact ZkY (Classical.choose_spec e) h
theorem ZeM {sh pl:Int} {seq seq':List Int} (h:∀ s,((Zl sh s seq).length:Int)<=pl) (hs:seq'.Sublist seq):∀ s,((Zl sh s seq').length:Int)<=pl:=λs=>by
 have q:(Zl sh s seq').Sublist (Zl sh s seq):=List.Sublist.filter _ hs
 have:=q.length_le
 have:=h s
 lia
theorem Zhl {sh pl:Int} {seq seq':List Int} (h:∀ s,((Zl sh s seq).length:Int)<=pl) (hs:seq'.Perm seq):∀ s,((Zl sh s seq').length:Int)<=pl:=λs=>by
 have q:(Zl sh s seq').Perm (Zl sh s seq):=List.Perm.filter _ hs
 rw [q.length_eq]
 exact h s
theorem ZkZ {sh pl b:Int} {seq:List Int} (h:∀ s,((Zl sh s seq).length:Int)<=pl) (hb:((Zl sh (b % sh) seq).length:Int)<pl):∀ s,((Zl sh s (seq++[b])).length:Int)<=pl:=λs=>by
 rw [ZbO]
 split
 .rename_i e
  rw [← e,length_append]
  show ((_+1:Nat):Int)<=pl
  lia
 .exact h s
def useS (c:Cf) (s:Rm) (b:Int):Rm:=⟨if c.ru = "old" then s.seq.erase b++[b] else s.seq,bump s.us b,s.wd,s.fr⟩
theorem Zbd {c:Cf} {s:Rm} {b:Int} (hb:b∈s.seq):(useS c s b).seq.Perm s.seq:=by
 unfold useS
 by_cases e:c.ru = "old"
 .rw [if_pos e]; exact (List.perm_append_comm).trans (List.perm_cons_erase hb).symm
 .rw [if_neg e]
def eW (k:Nat) (b:Int):List V:=[.str "words",.int (k:Int),.int b]
def eI (k:Nat) (b:Int):List V:=[.str "in",.int (k:Int),.int b]
def eO (k:Nat) (b:Int):List V:=[.str "out",.int (k:Int),.int b]
def eF (k:Nat):List V:=[.str "found",.int (k:Int)]
def Pln.n (g:Pln):Nat:=g.cfs.length
def putS (g:Pln) (k:Nat) (b:Int) (ws:List Int) (st:Stt):Stt:=if k=g.n then Stt.tell { st with mem:=layM g.size st.mem b ws } (eW k b) else (st.set k (layS (st.at_ k) b ws)).tell (eW k b)
def comeS (k:Nat) (b:Int) (ws:List Int) (st:Stt):Stt:=(st.set k (inS (st.at_ k) b ws)).tell (eI k b)
def goS (k:Nat) (b:Int) (st:Stt):Stt:=(st.tell (eO k b)).set k (outS (st.at_ k) b)
def clr (st:Stt):Stt:={ st with ev:=[] }
def TA.re (A:TA) (e:Addr):TA:={ A with ev:=e }
def Res (K:W.Frag) (H:Hp) (A:TA) (g:Pln) (os:OS) (st':Stt) (m:Nat) (Q:Hp->Prop):Prop:=∀ H' os',StairsAt K H' A g st' os' m->Pst (OW A os) H H' (OW A os')->Q H'
theorem tups {O O':Addr->Prop} {H H':Hp} (p:Pst O H H' O') {x:Addr} {ys:List V} (h:H x=some (.tup ys)):H' x=some (.tup ys):=p.kp x _ h λ_=>id
section
variable {K:W.Frag} {H H':Hp} {A:TA} {g:Pln} {st:Stt} {os:OS} {n:Nat}
theorem StairsAt.ix {k:Nat} {a:SA} (ha:A.as[k]?=some a):atI (A.as.map λa=>V.ref a.sp) (k:Int)=some (.ref a.sp):=ZR (by rw [getElem?_map,ha]; rfl)
theorem StairsAt.ln (T:StairsAt K H A g st os n):g.n=A.as.length:=T.lc
theorem Pst.out {O O':Addr->Prop} (p:Pst O H H' O') {x:Addr} {o:HO} (h:H x=some o) (n:¬ O x):H' x=some o/\¬ O' x:=⟨p.kp x o h λz=>absurd z n,λz=>(p.fr x z).elim n λq=>by rw [h] at q; cases q⟩
theorem StairsAt.fresh (T:StairsAt K H A g st os n) {x:Addr} (h:H x=none):¬ OW A os x:=λz=>T.ex x z h
theorem StairsAt.told (T:StairsAt K H A g st os n) {e' dx:Addr} (he:H e'=none):StairsAt K (upd (upd H e' (.lst [])) A.p (.ins (clsOf K "Stairs") dx (tflds g.size A.ss A.bm A.as.length e' g.kind))) (A.re e') g (clr st) os 0:=by
 obtain ⟨d0,h1⟩:=T.ob
 obtain ⟨dm,h2⟩:=T.mem.ob
 obtain ⟨kv,h3,h4⟩:=T.mem.kept
 have s:=Zg he (.lst ([]:List V))
 have npe:A.p≠e':=Ze h1 he
 have off:∀ {x o},H x=some o->x≠A.p->upd (upd H e' (.lst [])) A.p (.ins (clsOf K "Stairs") dx (tflds g.size A.ss A.bm A.as.length e' g.kind)) x=some o:=λ{x o} q z=>by rw [Zc z]; exact s _ _ q
 have nk:∀ {x o},H x=some o->(∀ C d f,o≠.ins C d f)->x≠A.p:=λ{x o} q m z=>by rw [z,h1] at q; exact m _ _ _ (Option.some.inj q).symm
 have nb:∀ x,(∃ k,k<A.as.length/\os k x)->¬ Bs (A.re e') x:=λx ⟨k,hk,h⟩ z=>by
  rcases z with z | z | z | z | z
  .exact T.off k hk x h (.inl z)
  .exact T.off k hk x h (.inr (.inl z))
  .exact T.off k hk x h (.inr (.inr (.inl z)))
  .exact T.off k hk x h (.inr (.inr (.inr (.inl z))))
  .have z:x=e':=z
   exact T.ex x (.inr ⟨k,hk,h⟩) (z ▸ he)
 refine ⟨⟨dx,Za⟩,off T.ss (nk T.ss (λ_ _ _ z=>by cases z)),⟨⟨dm,off h2 (Ne.symm T.npb)⟩,⟨kv,off h3 (nk h3 (λ_ _ _ z=>by cases z)),h4⟩,T.mem.sup⟩,⟨(λe m=>by cases m),[],by show _=some (HO.lst []); rw [show (A.re e').ev=e' from rfl,Zc (Ne.symm npe)]; exact Za,rfl,λi t e q _=>by simp at q⟩,Nat.le_refl _,T.lc,T.lS,λk a c s' q1 q2 q3=>(T.sto k a c s' q1 q2 q3).frame λx o h q=>off q λz=>T.off k (List.getElem?_eq_some_iff.mp q1).1 x h (.inl z),λk hk x h=>nb x ⟨k,hk,h⟩,T.dis,λz=>?_,T.npb,T.uni,T.full,T.wl,T.wf,off T.tb (nk T.tb (λ_ _ _ z=>by cases z))⟩
 have z:A.ss=e':=z
 have q:=T.ss
 rw [z,he] at q; cases q
end
section
def Zdt (K:W.Frag):Sp:=λvs H Q _=>∃ (A:TA) (g:Pln) (st:Stt) (os:OS) (n k:Nat) (a:SA),vs=[.ref A.p,.int (k:Int)]/\StairsAt K H A g st os n/\A.as[k]?=some a/\Q (.ref a.sp) H
theorem Zfh (F:Fun K "store" "Steps.store" Zca f fd) (T:Txt K mg):FnOk P w K mg base CX0 1 f fd Zaa (Zdt K):=by
 refine F.ok sc_Steps_store (λvs H Q E h=>?_) (λcdv A outer s0 H vs Q E hr h=>?_)
 .obtain ⟨A,g,st,os,n,k,a,rfl,_⟩:=h
  rfl
 obtain ⟨A,g,st,os,n,k,a,rfl,R,ha,q⟩:=h
 have nd:=sc_Steps_store.nd
 refine ⟨_,(Zd (ps_if (Zcl (ZfC op_le op_lt Zj (pv 1) (Zm (K:=K) rfl (pv 0) rfl))) (Zi ps_no) Zu)
   (Zi (Zt (pe_ix (Zn (K:=K) rfl) (Zm (K:=K) rfl (pv 0) rfl) (pv 1) (λ_ _=>rfl))))),?_⟩
 obtain ⟨dx,h1⟩:=R.ob
 have hk:k<A.as.length:=(List.getElem?_eq_some_iff.mp ha).1
 refine ⟨_,rfl,_,_,rfl,rfl,_,rfl,ifT (decide_eq_true (by lia)) ⟨_,rfl,A.p,_,dx,_,_,rfl,h1,T.qa_,T.qk_,ZbM ..,_,_,rfl,rfl,_,rfl,ifF (by rw [decide_eq_true (by lia)]; rfl) ?_⟩⟩
 exact ⟨_,rfl,A.p,_,dx,_,_,rfl,h1,T.qa_,T.qe_,ZL ..,_,rfl,A.ss,_,_,_,rfl,rfl,SqL.of R.ss,StairsAt.ix ha,q⟩
def ZeN (g:Pln) (st:Stt) (k:Nat) (b:Int):List Int:=if k=g.n then memW g.size st.mem b else (st.at_ k).wd b
def Zgh (K:W.Frag):Sp:=λvs H Q _=>∃ (A:TA) (g:Pln) (st:Stt) (os:OS) (n k:Nat) (b:Int),vs=[.ref A.p,.int (k:Int),.int b]/\StairsAt K H A g st os n/\k<=g.n/\(k<g.n->b∈(st.at_ k).seq)/\0<=b/\b<=1000000/\∀ l H',H l=none->Same H H'->H' l=some (.lst ((ZeN g st k b).map V.int))->Q (.ref l) H'
theorem Zfi (F:Fun K "words" "Steps.words" ZbZ f fd) (T:Txt K mg) (vn_:MDef P w K mg base (clsOf K "Memory") "words_of" 2 ZaG (ZiS K)) (qg_:MDef P w K mg base (clsOf K "Stairs") "store" 1 Zaa (Zdt K)) (qj_:MDef P w K mg base (clsOf K "Store") "words_of" 3 ZK (Zdr K)):FnOk P w K mg base CX0 4 f fd Zbb (Zgh K):=by
 refine F.ok sc_Steps_words (λvs H Q E h=>?_) (λcdv A outer s0 H vs Q E hr h=>?_)
 .obtain ⟨A,g,st,os,n,k,b,rfl,_⟩:=h
  rfl
 obtain ⟨A,g,st,os,n,k,b,rfl,R,hk,hb,b0,b1,q⟩:=h
 have nd:=sc_Steps_words.nd
 refine ⟨_,(Zd (ps_if (Zw op_eq (pv 1) (Zm (K:=K) rfl (pv 0) rfl) (Zv _)) (Zi (Zt (Zk vn_ hr.m T.va_ (Zm (K:=K) rfl (pv 0) rfl) (pc (pv 2) Zb)))) Zu)
   (Zi (Zt (Zk qj_ hr.m T.qc_ (Zk qg_ hr.m T.qa_ (pv 0) (pc (pv 1) Zb)) (pc (pv 2) Zb))))),?_⟩
 obtain ⟨dx,h1⟩:=R.ob
 obtain ⟨dm,h2⟩:=R.mem.ob
 have ln:=R.ln
 unfold ZeN at q
 refine ⟨_,rfl,_,rfl,A.p,_,dx,_,_,rfl,h1,T.qa_,T.qk_,ZbM ..,rfl,_,rfl,ZdG (λe=>?_) (λe=>?_)⟩
 .rw [if_pos (by lia)] at q
  exact ⟨_,rfl,A.p,_,dx,_,_,rfl,h1,T.qa_,T.vw_,Zhk ..,A.bm,dm,_,rfl,h2,mf_no ..,_,rfl,A.bm,A.dk,g.size,b,st.mem,g.U,rfl,R.mem,by have:=R.wf.z0; lia,R.wf.z1,b0,b1,q⟩
 .rw [if_neg (by lia)] at q
  obtain ⟨a,e1,e2,e3,B⟩:=R.at_ (k:=k) (by lia)
  obtain ⟨ds,h3⟩:=B.sto.ob
  exact ⟨_,rfl,A.p,dx,_,rfl,h1,tf_no ..,_,rfl,A,g,st,os,n,k,a,rfl,R,e1,a.sp,ds,_,rfl,h3,sf_no ..,_,rfl,a,_,_,_,b,rfl,B,hb (by lia),λl hl=>q l _ hl (Zg hl _) Za⟩
def ZdO (K:W.Frag):Sp:=λvs H Q _=>∃ (A:TA) (g:Pln) (st:Stt) (os:OS) (n:Nat),vs=[.ref A.p]/\StairsAt K H A g st os n/\∀ e' H',StairsAt K H' (A.re e') g (clr st) os 0->EvL g.n H' A.ev st.ev->¬ OW (A.re e') os A.ev->Pst (OW A os) H H' (OW (A.re e') os)->Q (.ref A.ev) H'
theorem ZdP (F:Fun K "happened" "Steps.happened" ZaT f fd) (T:Txt K mg):FnOk P w K mg base CX0 1 f fd Zaj (ZdO K):=by
 refine F.ok sc_Steps_happened (λvs H Q E h=>?_) (λcdv A outer s0 H vs Q E hr h=>?_)
 .obtain ⟨A,g,st,os,n,rfl,_⟩:=h
  rfl
 obtain ⟨A,g,st,os,n,rfl,R,q⟩:=h
 have nd:=sc_Steps_happened.nd
 refine ⟨_,(Zd (pst 1 nd (Zm (K:=K) rfl (pv 0) rfl))
   (Zd (ZaA (pv 0) (ZaY Zb) rfl)
   (Zi (Zt (pv 1))))),?_⟩
 obtain ⟨dx,h1⟩:=R.ob
 refine ⟨_,rfl,A.p,_,dx,_,_,rfl,h1,T.qa_,T.qr_,Zcx ..,gN ?_⟩
 try dsimp only
 refine ⟨(by show 0<=sizeLine; decide),λe' he=>⟨_,rfl,A.p,_,dx,_,rfl,Zg he _ _ _ h1,T.qa_,T.qr_,(by rw [ZdN]; show 6<1000; decide),?_⟩⟩
 rw [ZoL]
 have off:∀ {x o},H x=some o->x≠A.p->upd (upd H e' (.lst [])) A.p (.ins (clsOf K "Stairs") dx (tflds g.size A.ss A.bm A.as.length e' g.kind)) x=some o:=λ{x o} q z=>by rw [Zc z]; exact Zg he _ _ _ q
 have np:∀ {x o},H x=some o->(∀ C d f,o≠.ins C d f)->x≠A.p:=λ{x o} q m z=>by rw [z,h1] at q; exact m _ _ _ (Option.some.inj q).symm
 obtain ⟨v0,ts,v1,v2,v3⟩:=R.ev
 have nve:A.ev≠e':=Ze v1 he
 refine ⟨_,rfl,q e' _ (R.told he) ⟨v0,ts,off v1 (np v1 (λ_ _ _ z=>by cases z)),v2,λi t e a b=>off (v3 i t e a b) (np (v3 i t e a b) (λ_ _ _ z=>by cases z))⟩ (λz=>?_) ⟨λx o e m=>off e λz=>?_,λx h=>?_⟩⟩
 .rcases z with z | ⟨k,hk,z⟩
  .obtain ⟨dm,h2⟩:=R.mem.ob
   obtain ⟨kv,h3,_⟩:=R.mem.kept
   rcases z with z | z | z | z | z
   .exact np v1 (λ_ _ _ z=>by cases z) z
   .exact R.nse z.symm
   .rw [show (A.re e').bm=A.bm from rfl] at z
    rw [z,h2] at v1; cases v1
   .rw [show (A.re e').dk=A.dk from rfl] at z
    rw [z,h3] at v1; cases v1
   .exact nve z
  .exact R.off k hk _ z (by simp [Bs])
 .rw [z,h1] at e
  cases e
  exact m (.inl (.inl z)) trivial
 .rcases h with h | h
  .rcases h with h | h | h | h | h
   .exact .inl (.inl (.inl h))
   .exact .inl (.inl (.inr (.inl h)))
   .exact .inl (.inl (.inr (.inr (.inl h))))
   .exact .inl (.inl (.inr (.inr (.inr (.inl h)))))
   .exact .inr (by rw [h]; exact he)
  .exact .inl (.inr h)
def ZiU (K:W.Frag):Sp:=λvs H Q _=>∃ (A:TA) (g:Pln) (st:Stt) (os:OS) (n k:Nat) (b:Int),vs=[.ref A.p,.int (k:Int),.int b]/\StairsAt K H A g st os n/\k<g.n/\∀ H',Same H H'->goneP (g.cf k).ru (st.at_ k).us (g.cf k).pl (Zl (g.cf k).sh (b % (g.cf k).sh) (st.at_ k).seq) (goneF (g.cf k) (st.at_ k) b)->Q (optV (goneF (g.cf k) (st.at_ k) b)) H'
theorem ZeO (F:Fun K "leaver" "Steps.leaver" ZbE f fd) (T:Txt K mg) (qs_:MDef P w K mg base (clsOf K "Room") "leaver_for" 3 ZY (Zgb K)):FnOk P w K mg base CX0 4 f fd Zah (ZiU K):=by
 refine F.ok sc_Steps_leaver (λvs H Q E h=>?_) (λcdv A outer s0 H vs Q E hr h=>?_)
 .obtain ⟨A,g,st,os,n,k,b,rfl,_⟩:=h
  rfl
 obtain ⟨A,g,st,os,n,k,b,rfl,R,hk,q⟩:=h
 have nd:=sc_Steps_leaver.nd
 refine ⟨_,(Zi (Zt (Zk qs_ hr.m T.qb_ (Zm (K:=K) rfl (pe_ix (Zn (K:=K) rfl) (Zm (K:=K) rfl (pv 0) rfl) (pv 1) (λ_ _=>rfl)) rfl) (pc (pv 2) Zb)))),?_⟩
 obtain ⟨dx,h1⟩:=R.ob
 have ln:=R.ln
 obtain ⟨a,e1,e2,e3,B⟩:=R.at_ (k:=k) (by lia)
 obtain ⟨u1,u2,u3,u4,u5,u6⟩:=R.bds (k:=k) (by lia)
 obtain ⟨ds,h3⟩:=B.sto.ob
 obtain ⟨dr,h4⟩:=B.sto.room.ob
 have fl:=u3 (b % (g.cf k).sh)
 refine ⟨_,rfl,A.p,_,dx,_,_,rfl,h1,T.qa_,T.qe_,ZL ..,_,rfl,A.ss,_,_,_,rfl,rfl,SqL.of R.ss,StairsAt.ix e1,a.sp,_,ds,_,_,rfl,h3,T.qc_,T.qo_,Zcg ..,a.rp,dr,_,rfl,h4,fl_no ..,_,rfl,a.rp,b,(g.cf k).sh,(g.cf k).pl,(g.cf k).ru,a.ls,a.ads,a.du,(st.at_ k).seq,(st.at_ k).us,_,rfl,B.sto.room,R.tb,u4,by lia,λgone H' gp sm=>?_⟩
 have e:=Zmh (s:=st.at_ k) gp
 have q':=q H' sm (by rw [e]; exact gp)
 rw [e] at q'
 exact q'
def ZmJ (K:W.Frag):Sp:=λvs H Q _=>∃ (A:TA) (g:Pln) (st:Stt) (os:OS) (n k:Nat),vs=[.ref A.p,.int (k:Int)]/\StairsAt K H A g st os n/\k<=g.n/\n<=900000/\Res K H A g os (st.tell (eF k)) (n+1) (Q .non)
theorem big {n m:Nat} (h:n<=m) (hm:m<=900000):n<sizeLine:=Nat.lt_of_le_of_lt (Nat.le_trans h hm) (by decide)
theorem ZcY (F:Fun K "tell_found" "Steps.tell_found" Zau f fd) (T:Txt K mg):FnOk P w K mg base CX0 1 f fd Zav (ZmJ K):=by
 refine F.ok sc_Steps_tell_found (λvs H Q E h=>?_) (λcdv A outer s0 H vs Q E hr h=>?_)
 .obtain ⟨A,g,st,os,n,k,rfl,_⟩:=h
  rfl
 obtain ⟨A,g,st,os,n,k,rfl,R,hk4,hl,q⟩:=h
 have nd:=sc_Steps_tell_found.nd
 refine ⟨_,(Zi (Zp (ZdU (K:=K) rfl (pe_bm PySem.F.plainAttrs_list PySem.F.slot_list_append PySem.F.type_list_append Zbi (Zm (K:=K) rfl (pv 0) rfl) (pc (Zbh (pc ZP (pc (pv 1) Zb))) Zb))))),?_⟩
 obtain ⟨dx,h1⟩:=R.ob
 obtain ⟨_,ts0,v1,_⟩:=R.ev
 refine ⟨_,rfl,A.p,_,dx,_,_,rfl,h1,T.qa_,T.qr_,Zcx ..,.inl ⟨rfl,_,SqL.of v1⟩,_,rfl,(by show 2<=sizeLine; decide),λt ht=>?_⟩
 obtain ⟨ts,w1,w2,R2,p2⟩:=R.event (eF k) (.inl ⟨k,hk4,rfl⟩) ht
 exact ⟨A.ev,_,_,rfl,rfl,Zg ht _ _ _ w1,big (by rw [length_map]; exact w2) hl,q _ _ R2 p2⟩
def ZhS (K:W.Frag):Sp:=λvs H Q _=>∃ (A:TA) (g:Pln) (st:Stt) (os:OS) (n k:Nat) (b:Int),vs=[.ref A.p,.int (k:Int),.int b]/\StairsAt K H A g st os n/\k<g.n/\b∈(st.at_ k).seq/\Res K H A g os (st.set k (useS (g.cf k) (st.at_ k) b)) n (Q .non)
theorem ZeP (F:Fun K "use_in" "Steps.use_in" ZbF f fd) (T:Txt K mg) (vm_:MDef P w K mg base (clsOf K "Room") "use" 3 ZcG (spUse K)):FnOk P w K mg base CX0 4 f fd ZaH (ZhS K):=by
 refine F.ok sc_Steps_use_in (λvs H Q E h=>?_) (λcdv A outer s0 H vs Q E hr h=>?_)
 .obtain ⟨A,g,st,os,n,k,b,rfl,_⟩:=h
  rfl
 obtain ⟨A,g,st,os,n,k,b,rfl,R,hk,hb,q⟩:=h
 have nd:=sc_Steps_use_in.nd
 refine ⟨_,(Zi (Zp (Zk vm_ hr.m T.qb_ (Zm (K:=K) rfl (pe_ix (Zn (K:=K) rfl) (Zm (K:=K) rfl (pv 0) rfl) (pv 1) (λ_ _=>rfl)) rfl) (pc (pv 2) Zb)))),?_⟩
 obtain ⟨dx,h1⟩:=R.ob
 have ln:=R.ln
 obtain ⟨a,e1,e2,e3,B⟩:=R.at_ (k:=k) (by lia)
 obtain ⟨u1,u2,u3,u4,u5,u6⟩:=R.bds (k:=k) (by lia)
 obtain ⟨ds,h3⟩:=B.sto.ob
 obtain ⟨dr,h4⟩:=B.sto.room.ob
 refine ⟨_,rfl,A.p,_,dx,_,_,rfl,h1,T.qa_,T.qe_,ZL ..,_,rfl,A.ss,_,_,_,rfl,rfl,SqL.of R.ss,StairsAt.ix e1,a.sp,_,ds,_,_,rfl,h3,T.qc_,T.qo_,Zcg ..,a.rp,dr,_,rfl,h4,fl_no ..,_,rfl,a.rp,b,(g.cf k).sh,(g.cf k).pl,(g.cf k).ru,a.ls,a.ads,a.du,(st.at_ k).seq,(st.at_ k).us,_,rfl,B.sto.room,by lia,hb,by lia,λH' R1 r1=>?_⟩
 have um:=λx=>(Zbd (c:=g.cf k) hb).mem_iff (a:=x)
 obtain ⟨R2,p2⟩:=R.deed e1 e2 (B.deed R1 r1 um) (B.sto.pst r1) (λx hx=>u2 x ((um x).mp hx)) (Zhl u3 (Zbd (c:=g.cf k) hb))
 exact q H' _ R2 p2
def Zgi (K:W.Frag):Sp:=λvs H Q _=>∃ (A:TA) (g:Pln) (st:Stt) (os:OS) (n k:Nat) (b:Int) (lw:Addr) (ws:List Int),vs=[.ref A.p,.int (k:Int),.int b,.ref lw]/\StairsAt K H A g st os n/\k<g.n/\b∉(st.at_ k).seq/\b∈g.U/\((Zl (g.cf k).sh (b % (g.cf k).sh) (st.at_ k).seq).length:Int)<(g.cf k).pl/\H lw=some (.lst (ws.map V.int))/\¬ OW A os lw/\ws.length=g.size.toNat/\n<=900000/\Res K H A g os (comeS k b ws st) (n+1) (Q .non)
theorem Zeg (F:Fun K "come_in" "Steps.come_in" Zbr f fd) (T:Txt K mg) (vx_:MDef P w K mg base (clsOf K "Store") "take_in" 5 Zbp (ZiQ K)):FnOk P w K mg base CX0 6 f fd Zaw (Zgi K):=by
 refine F.ok sc_Steps_come_in (λvs H Q E h=>?_) (λcdv A outer s0 H vs Q E hr h=>?_)
 .obtain ⟨A,g,st,os,n,k,b,lw,ws,rfl,_⟩:=h
  rfl
 obtain ⟨A,g,st,os,n,k,b,lw,ws,rfl,R,hk,hb,hbU,hsh,hlw,nO,lws,hl,q⟩:=h
 have nd:=sc_Steps_come_in.nd
 refine ⟨_,(Zd (Zp (Zk vx_ hr.m T.qc_ (pe_ix (Zn (K:=K) rfl) (Zm (K:=K) rfl (pv 0) rfl) (pv 1) (λ_ _=>rfl)) (pc (pv 2) (pc (pv 3) Zb))))
   (Zi (Zp (ZdU (K:=K) rfl (pe_bm PySem.F.plainAttrs_list PySem.F.slot_list_append PySem.F.type_list_append Zbi (Zm (K:=K) rfl (pv 0) rfl) (pc (Zbh (pc ZP (pc (pv 1) (pc (pv 2) Zb)))) Zb)))))),?_⟩
 obtain ⟨dx,h1⟩:=R.ob
 have ln:=R.ln
 obtain ⟨a,e1,e2,e3,B⟩:=R.at_ (k:=k) (by lia)
 obtain ⟨u1,u2,u3,u4,u5,u6⟩:=R.bds (k:=k) (by lia)
 obtain ⟨ds,h3⟩:=B.sto.ob
 refine ⟨_,rfl,A.p,_,dx,_,_,rfl,h1,T.qa_,T.qe_,ZL ..,_,rfl,A.ss,_,_,_,rfl,rfl,SqL.of R.ss,StairsAt.ix e1,a.sp,ds,_,rfl,h3,sf_no ..,_,rfl,_,rfl,a,_,_,_,b,lw,ws,rfl,B,R.tb,hlw,(λz=>nO (.inr ⟨k,by lia,z⟩)),hb,u1,u4,u5,hsh,λH1 O1 B1 p1=>?_⟩
 obtain ⟨R2,p2⟩:=R.deed e1 e2 B1 p1 (λx hx=>by
  show x∈g.U/\(if x=b then ws else (st.at_ k).wd x).length=_
  by_cases z:x=b
  .rw [if_pos z,z]; exact ⟨hbU,lws⟩
  .rw [if_neg z]
   exact u2 x ((List.mem_append.mp hx).resolve_right λm=>z (List.mem_singleton.mp m))) (ZkZ u3 hsh)
 obtain ⟨dx2,g2⟩:=R2.ob
 obtain ⟨_,ts0,v1,_⟩:=R2.ev
 refine ⟨_,rfl,A.p,_,dx2,_,_,rfl,g2,T.qa_,T.qr_,Zcx ..,.inl ⟨rfl,_,SqL.of v1⟩,_,rfl,_,rfl,(by show 3<=sizeLine; decide),λt ht=>?_⟩
 obtain ⟨ts,w1,w2,R4,p4⟩:=R2.event (eI k b) (.inr (.inl ⟨k,b,⟨hk,R.wf.ub b hbU⟩,.inl rfl⟩)) ht
 exact ⟨A.ev,_,_,rfl,rfl,Zg ht _ _ _ w1,big (by rw [length_map]; exact w2) hl,q _ _ R4 (p2.trans p4)⟩
def ZeQ (K:W.Frag):Sp:=λvs H Q _=>∃ (A:TA) (g:Pln) (st:Stt) (os:OS) (n k:Nat) (b:Int),vs=[.ref A.p,.int (k:Int),.int b]/\StairsAt K H A g st os n/\k<g.n/\b∈(st.at_ k).seq/\n<=900000 /\
 ∀ H' os' t l,H' t=some (.tup [.ref l,.bl ((st.at_ k).fr b)])->H' l=some (.lst (((st.at_ k).wd b).map V.int))->¬ OW A os' l->StairsAt K H' A g (goS k b st) os' (n+1)->Pst (OW A os) H H' (OW A os')->Q (.ref t) H'
theorem ZeR (F:Fun K "go_out" "Steps.go_out" ZbG f fd) (T:Txt K mg) (vr_:MDef P w K mg base (clsOf K "Store") "give_out" 4 ZaP (Zhi K)):FnOk P w K mg base CX0 5 f fd ZM (ZeQ K):=by
 refine F.ok sc_Steps_go_out (λvs H Q E h=>?_) (λcdv A outer s0 H vs Q E hr h=>?_)
 .obtain ⟨A,g,st,os,n,k,b,rfl,_⟩:=h
  rfl
 obtain ⟨A,g,st,os,n,k,b,rfl,R,hk,hb,hl,q⟩:=h
 have nd:=sc_Steps_go_out.nd
 refine ⟨_,(Zd (Zp (ZdU (K:=K) rfl (pe_bm PySem.F.plainAttrs_list PySem.F.slot_list_append PySem.F.type_list_append Zbi (Zm (K:=K) rfl (pv 0) rfl) (pc (Zbh (pc ZP (pc (pv 1) (pc (pv 2) Zb)))) Zb))))
   (Zi (Zt (Zk vr_ hr.m T.qc_ (pe_ix (Zn (K:=K) rfl) (Zm (K:=K) rfl (pv 0) rfl) (pv 1) (λ_ _=>rfl)) (pc (pv 2) Zb))))),?_⟩
 obtain ⟨dx,h1⟩:=R.ob
 obtain ⟨_,ts0,v1,_⟩:=R.ev
 have ln:=R.ln
 refine ⟨_,rfl,A.p,_,dx,_,_,rfl,h1,T.qa_,T.qr_,Zcx ..,.inl ⟨rfl,_,SqL.of v1⟩,_,rfl,_,rfl,(by show 3<=sizeLine; decide),λt ht=>?_⟩
 obtain ⟨ts,w1,w2,R4,p4⟩:=R.event [.str "out",.int (k:Int),.int b] (.inr (.inl ⟨k,b,⟨hk,R.wf.ub b ((R.bds (k:=k) (by lia)).2.1 b hb).1⟩,.inr rfl⟩)) ht
 refine ⟨A.ev,_,_,rfl,rfl,Zg ht _ _ _ w1,big (by rw [length_map]; exact w2) hl,?_⟩
 generalize upd (upd H t (.tup [.str "out",.int (k:Int),.int b])) A.ev (.lst (ts.map V.ref++[.ref t]))=H4 at *
 obtain ⟨dx4,g4⟩:=R4.ob
 obtain ⟨a,e1,e2,e3,B⟩:=R4.at_ (k:=k) (by lia)
 obtain ⟨u1,u2,u3,u4,u5,u6⟩:=R4.bds (k:=k) (by lia)
 obtain ⟨ds,h3⟩:=B.sto.ob
 refine ⟨_,rfl,A.p,_,dx4,_,_,rfl,g4,T.qa_,T.qe_,ZL ..,_,rfl,A.ss,_,_,_,rfl,rfl,SqL.of R4.ss,StairsAt.ix e1,a.sp,ds,_,rfl,h3,sf_no ..,_,rfl,a,_,_,_,b,rfl,B,hb,λt2 l H5 O5 et el nl B' p5 own=>?_⟩
 obtain ⟨R5,p6⟩:=R4.deed e1 e2 B' p5 (λx hx=>u2 x (mem_of_mem_erase hx)) (ZeM u3 erase_sublist)
 refine q H5 _ t2 l et el (λz=>?_) R5 (p4.trans p6)
 rcases z with z | ⟨j,hj,z⟩
 .rcases own with o | o
  .exact R4.off k (by lia) l o z
  .exact R4.ex l (.inl z) o
 .unfold OS.set at z
  by_cases e:j=k
  .rw [if_pos e] at z; exact nl z
  .rw [if_neg e] at z
   rcases own with o | o
   .exact R4.dis j k hj (by lia) e l z o
   .exact R4.ex l (.inr ⟨j,hj,z⟩) o
end
section
variable {K:W.Frag} {H H':Hp} {A:TA} {g:Pln} {st:Stt} {os:OS} {n:Nat}
theorem StairsAt.memp {mem':Int->Int} (T:StairsAt K H A g st os n) (M:MemAt K H' A.bm A.dk g.size mem' g.U) (f:∀ x o,H x=some o->x≠A.dk->H' x=some o):StairsAt K H' A g { st with mem:=mem' } os n/\Pst (OW A os) H H' (OW A os):=by
 obtain ⟨dx,h1⟩:=T.ob
 obtain ⟨kv,h2,_⟩:=T.mem.kept
 have nk:∀ {x o},H x=some o->(∀ k,o≠.dK k)->H' x=some o:=λ{x o} q m=>f x o q λz=>by rw [z,h2] at q; exact m _ (Option.some.inj q).symm
 refine ⟨⟨⟨dx,nk h1 (λ_ z=>by cases z)⟩,nk T.ss (λ_ z=>by cases z),M,T.ev.frame (λo e=>?_) (λx ys e=>nk e (λ_ z=>by cases z)),T.evn,T.lc,T.lS,λk a c s q1 q2 q3=>(T.sto k a c s q1 q2 q3).frame λx o h q=>f x o q λz=>T.off k (List.getElem?_eq_some_iff.mp q1).1 x h (by simp [Bs,z]),T.off,T.dis,T.nse,T.npb,T.uni,T.full,T.wl,T.wf,nk T.tb (λ_ z=>by cases z)⟩,⟨λx o e m=>f x o e λz=>?_,λx h=>.inl h⟩⟩
 .obtain ⟨_,ts,v,_⟩:=T.ev
  rw [v] at e; cases e
  exact nk v (λ_ z=>by cases z)
 .rw [z,h2] at e
  cases e
  exact m (.inl (by simp [Bs,z])) trivial
end
section
def spPut (K:W.Frag):Sp:=λvs H Q _=>∃ (A:TA) (g:Pln) (st:Stt) (os:OS) (n k:Nat) (b:Int) (lw:Addr) (ws:List Int),vs=[.ref A.p,.int (k:Int),.int b,.ref lw]/\StairsAt K H A g st os n/\k<=g.n/\(k<g.n->b∈(st.at_ k).seq)/\b∈g.U/\H lw=some (.lst (ws.map V.int))/\¬ OW A os lw/\ws.length=g.size.toNat/\n<=900000/\Res K H A g os (putS g k b ws st) (n+1) (Q .non)
theorem Zhm (F:Fun K "put" "Steps.put" ZcV f fd) (T:Txt K mg) (jc_:MDef P w K mg base (clsOf K "Memory") "lay" 2 Zcu (ZmI K)) (ve_:MDef P w K mg base (clsOf K "Store") "lay" 1 ZbW (spLay K)):FnOk P w K mg base CX0 3 f fd Zbs (spPut K):=by
 refine F.ok sc_Steps_put (λvs H Q E h=>?_) (λcdv A outer s0 H vs Q E hr h=>?_)
 .obtain ⟨A,g,st,os,n,k,b,lw,ws,rfl,_⟩:=h
  rfl
 obtain ⟨A,g,st,os,n,k,b,lw,ws,rfl,R,hk,hb,bU,hlw,nO,lws,hl,q⟩:=h
 have nd:=sc_Steps_put.nd
 refine ⟨_,(Zd (ps_if (Zw op_eq (pv 1) (Zm (K:=K) rfl (pv 0) rfl) (Zv _)) (Zi (Zp (Zk jc_ hr.m T.va_ (Zm (K:=K) rfl (pv 0) rfl) (pc (pv 2) (pc (pv 3) Zb))))) (Zi (Zp (Zk ve_ hr.m T.qc_ (pe_ix (Zn (K:=K) rfl) (Zm (K:=K) rfl (pv 0) rfl) (pv 1) (λ_ _=>rfl)) (pc (pv 2) (pc (pv 3) Zb))))))
   (Zi (Zp (ZdU (K:=K) rfl (pe_bm PySem.F.plainAttrs_list PySem.F.slot_list_append PySem.F.type_list_append Zbi (Zm (K:=K) rfl (pv 0) rfl) (pc (Zbh (pc ZP (pc (pv 1) (pc (pv 2) Zb)))) Zb)))))),?_⟩
 obtain ⟨dx,h1⟩:=R.ob
 have ln:=R.ln
 refine cpI (λσ G=>σ=[some (.ref A.p),some (.int (k:Int)),some (.int b),some (.ref lw)]/\∃ os',StairsAt K G A g (if k=g.n then { st with mem:=layM g.size st.mem b ws } else st.set k (layS (st.at_ k) b ws)) os' n/\Pst (OW A os) H G (OW A os')) (λD' _ k'=>?_) ?_
 .refine ⟨_,rfl,_,rfl,A.p,_,dx,_,_,rfl,h1,T.qa_,T.qk_,ZbM ..,rfl,_,rfl,ZdG (λe=>?_) (λe=>?_)⟩
  .obtain ⟨dm,h2⟩:=R.mem.ob
   have z0:=R.wf.z0
   obtain ⟨b0,b1⟩:=R.wf.ub b bU
   refine ⟨_,rfl,A.p,_,dx,_,_,rfl,h1,T.qa_,T.vw_,Zhk ..,A.bm,dm,_,rfl,h2,mf_no ..,_,rfl,_,rfl,A.bm,A.dk,g.size,b,st.mem,g.U,lw,ws,rfl,R.mem,by lia,R.wf.z1,b0,b1,bU,R.wf.lU,hlw,lws,λH1 M1 f1=>?_⟩
   obtain ⟨R1,p1⟩:=R.memp M1 f1
   rw [if_pos (by lia)] at k'
   exact k' _ _ ⟨rfl,_,R1,p1⟩
  .obtain ⟨a,e1,e2,e3,B⟩:=R.at_ (k:=k) (by lia)
   obtain ⟨u1,u2,u3,u4,u5,u6⟩:=R.bds (k:=k) (by lia)
   obtain ⟨ds,kvs,h3,h4,h5,h6⟩:=B.lay (hb (by lia)) ws (Q:=D'.nx [some (.ref A.p),some (.int (k:Int)),some (.int b),some (.ref lw)]) (λH' O' B' p'=>by
    obtain ⟨R1,p1⟩:=R.deed e1 e2 B' p' (λx hx=>by
     show x∈g.U/\(if x=b then ws else (st.at_ k).wd x).length=_
     by_cases z:x=b
     .rw [if_pos z,z]; exact ⟨bU,lws⟩
     .rw [if_neg z]; exact u2 x hx) u3
    rw [if_neg (by lia)] at k'
    exact k' _ _ ⟨rfl,_,R1,p1⟩)
   exact ⟨_,rfl,A.p,_,dx,_,_,rfl,h1,T.qa_,T.qe_,ZL ..,_,rfl,A.ss,_,_,_,rfl,rfl,SqL.of R.ss,StairsAt.ix e1,a.sp,ds,_,rfl,h3,sf_no ..,_,rfl,_,rfl,a.sp,ds,a.rp,a.dh,a.df,(g.cf k).late,kvs,b,lw,_,rfl,h3,h4,by lia,hlw,h6⟩
 rintro _ G ⟨rfl,os1,R2,p2⟩
 obtain ⟨dx2,g2⟩:=R2.ob
 obtain ⟨_,ts0,v1,_⟩:=R2.ev
 refine ⟨_,rfl,A.p,_,dx2,_,_,rfl,g2,T.qa_,T.qr_,Zcx ..,.inl ⟨rfl,_,SqL.of v1⟩,_,rfl,_,rfl,(by show 3<=sizeLine; decide),λt ht=>?_⟩
 obtain ⟨ts,w1,w2,R4,p4⟩:=R2.event (eW k b) (.inr (.inr ⟨k,b,⟨hk,R.wf.ub b bU⟩,rfl⟩)) ht
 refine ⟨A.ev,_,_,rfl,rfl,Zg ht _ _ _ w1,big (by rw [length_map]; exact w2) hl,q _ _ ?_ (p2.trans p4)⟩
 unfold putS
 by_cases c:k=g.n
 .rw [if_pos c] at R4 ⊢; exact R4
 .rw [if_neg c] at R4 ⊢; exact R4
def wordF (g:Pln) (s:Rm) (sp:Int):Int:=(s.wd (sp / g.size)).getD (sp % g.size).toNat 0
def ZiV (K:W.Frag):Sp:=λvs H Q _=>∃ (A:TA) (g:Pln) (st:Stt) (os:OS) (n k:Nat) (sp:Int),vs=[.ref A.p,.int (k:Int),.int sp]/\StairsAt K H A g st os n/\k<g.n/\sp / g.size∈(st.at_ k).seq/\∀ H',Same H H'->Q (.int (wordF g (st.at_ k) sp)) H'
theorem at_gd {ws:List Int} {m:Nat} {i:Int} (l:ws.length=m) (h0:0<=i) (h1:i<m):atI (ws.map V.int) i=some (.int (ws.getD i.toNat 0)):=by
 have e:(i.toNat:Int)=i:=by lia
 have hi:i.toNat<ws.length:=by lia
 have q:atI (ws.map V.int) (i.toNat:Int)=some (.int (ws.getD i.toNat 0)):=ZR (by
  rw [getElem?_map,getD_eq_getElem?_getD,getElem?_eq_getElem hi]; rfl)
 rw [e] at q
 exact q
theorem Zeh (F:Fun K "word_in" "Steps.word_in" Zbt f fd) (T:Txt K mg) (qj_:MDef P w K mg base (clsOf K "Store") "words_of" 3 ZK (Zdr K)) (qq_:Def P w K mg base "board_of" 1 Zbe ZeL):FnOk P w K mg base CX0 4 f fd Zbu (ZiV K):=by
 refine F.ok sc_Steps_word_in (λvs H Q E h=>?_) (λcdv A outer s0 H vs Q E hr h=>?_)
 .obtain ⟨A,g,st,os,n,k,sp,rfl,_⟩:=h
  rfl
 obtain ⟨A,g,st,os,n,k,sp,rfl,R,hk,hb,q⟩:=h
 have nd:=sc_Steps_word_in.nd
 refine ⟨_,(Zi (Zt (pe_ix (Zn (K:=K) rfl) (Zk qj_ hr.m T.qc_ (pe_ix (Zn (K:=K) rfl) (Zm (K:=K) rfl (pv 0) rfl) (pv 1) (λ_ _=>rfl)) (pc (Zo qq_ hr.m rfl (pc (Zm (K:=K) rfl (pv 0) rfl) (pc (pv 2) Zb))) Zb)) (pe_op Zbz (pv 2) (Zm (K:=K) rfl (pv 0) rfl)) (λ_ _=>rfl)))),?_⟩
 obtain ⟨dx,h1⟩:=R.ob
 have ln:=R.ln
 obtain ⟨a,e1,e2,e3,B⟩:=R.at_ (k:=k) (by lia)
 obtain ⟨u1,u2,u3,u4,u5,u6⟩:=R.bds (k:=k) (by lia)
 obtain ⟨ds,h3⟩:=B.sto.ob
 have z0:=R.wf.z0
 have z1:=R.wf.z1
 refine ⟨_,rfl,A.p,_,dx,_,_,rfl,h1,T.qa_,T.qe_,ZL ..,_,rfl,A.ss,_,_,_,rfl,rfl,SqL.of R.ss,StairsAt.ix e1,a.sp,ds,_,rfl,h3,sf_no ..,_,rfl,A.p,_,dx,_,_,rfl,h1,T.qa_,T.q0_,ZdM ..,_,rfl,g.size,sp,rfl,by lia,by lia,a,_,_,_,_,rfl,B,hb,λl hl=>?_⟩
 have s1:=Zg hl (.lst (((st.at_ k).wd (sp / g.size)).map V.int))
 have m0:0<=sp % g.size:=Int.emod_nonneg _ (by lia)
 have m1:sp % g.size<g.size:=Int.emod_lt_of_pos _ (by lia)
 exact ⟨_,rfl,_,rfl,A.p,_,dx,_,_,rfl,s1 _ _ h1,T.qa_,T.q0_,ZdM ..,_,_,rfl,rfl,(by show 0<g.size; lia),l,_,_,_,rfl,rfl,SqL.of Za,at_gd (u2 _ hb).2 m0 (by lia),q _ s1⟩
def pwS (g:Pln) (s:Rm) (sp x:Int):Rm:=layS s (sp / g.size) ((s.wd (sp / g.size)).set (sp % g.size).toNat x)
def Zhn (K:W.Frag):Sp:=λvs H Q _=>∃ (A:TA) (g:Pln) (st:Stt) (os:OS) (n k:Nat) (sp x:Int),vs=[.ref A.p,.int (k:Int),.int sp,.int x]/\StairsAt K H A g st os n/\k<g.n/\sp / g.size∈(st.at_ k).seq/\Res K H A g os (st.set k (pwS g (st.at_ k) sp x)) n (Q .non)
theorem ZdQ (F:Fun K "put_word" "Steps.put_word" ZaU f fd) (T:Txt K mg) (vs_:MDef P w K mg base (clsOf K "Store") "lay_word" 1 ZaS (Zhj K)) (qq_:Def P w K mg base "board_of" 1 Zbe ZeL):FnOk P w K mg base CX0 2 f fd ZaV (Zhn K):=by
 refine F.ok sc_Steps_put_word (λvs H Q E h=>?_) (λcdv A outer s0 H vs Q E hr h=>?_)
 .obtain ⟨A,g,st,os,n,k,sp,x,rfl,_⟩:=h
  rfl
 obtain ⟨A,g,st,os,n,k,sp,x,rfl,R,hk,hb,q⟩:=h
 have nd:=sc_Steps_put_word.nd
 refine ⟨_,(Zi (Zp (Zk vs_ hr.m T.qc_ (pe_ix (Zn (K:=K) rfl) (Zm (K:=K) rfl (pv 0) rfl) (pv 1) (λ_ _=>rfl)) (pc (Zo qq_ hr.m rfl (pc (Zm (K:=K) rfl (pv 0) rfl) (pc (pv 2) Zb))) (pc (pe_op Zbz (pv 2) (Zm (K:=K) rfl (pv 0) rfl)) (pc (pv 3) Zb)))))),?_⟩
 obtain ⟨dx,h1⟩:=R.ob
 have ln:=R.ln
 obtain ⟨a,e1,e2,e3,B⟩:=R.at_ (k:=k) (by lia)
 obtain ⟨u1,u2,u3,u4,u5,u6⟩:=R.bds (k:=k) (by lia)
 obtain ⟨ds,h3⟩:=B.sto.ob
 have z0:=R.wf.z0
 have z1:=R.wf.z1
 have m0:0<=sp % g.size:=Int.emod_nonneg _ (by lia)
 have m1:sp % g.size<g.size:=Int.emod_lt_of_pos _ (by lia)
 have lw:=(u2 _ hb).2
 refine ⟨_,rfl,A.p,_,dx,_,_,rfl,h1,T.qa_,T.qe_,ZL ..,_,rfl,A.ss,_,_,_,rfl,rfl,SqL.of R.ss,StairsAt.ix e1,a.sp,ds,_,rfl,h3,sf_no ..,_,rfl,A.p,_,dx,_,_,rfl,h1,T.qa_,T.q0_,ZdM ..,_,rfl,g.size,sp,rfl,by lia,by lia,_,rfl,_,rfl,A.p,_,dx,_,_,rfl,h1,T.qa_,T.q0_,ZdM ..,_,_,rfl,rfl,(by show 0<g.size; lia),_,rfl,a,_,_,_,_,_,x,rfl,B,hb,m0,by lia,λH1 B1 p1=>?_⟩
 obtain ⟨R1,p2⟩:=R.deed e1 e2 B1 p1 (λy hy=>by
  show y∈g.U/\(if y=sp / g.size then _ else (st.at_ k).wd y).length=_
  by_cases z:y=sp / g.size
  .rw [if_pos z,length_set,z]; exact u2 _ hb
  .rw [if_neg z]; exact u2 y hy) u3
 exact q _ _ R1 p2
end
def Wr (s:Str):Prop:=s = "late" \/ s = "through"
structure PlanAt (K:W.Frag) (H:Hp) (tp:Addr) (ts:List Addr) (cfs:List Cf):Prop where
 top:H tp=some (.tup (ts.map V.ref))
 len:ts.length=cfs.length
 at_:∀ (i:Nat) (t:Addr) (c:Cf),ts[i]?=some t->cfs[i]?=some c->∃ wr:Str,H t=some (.tup [.int c.sh,.int c.pl,.str c.ru,.str wr])/\c.late=decide (wr = "late")/\Wr wr
 cf:∀ c∈cfs,1<=c.sh/\c.sh<=64/\1<=c.pl/\c.pl<=16/\Rule c.ru
theorem PlanAt.frame {K:W.Frag} {H H':Hp} {tp:Addr} {ts:List Addr} {cfs:List Cf} (p:PlanAt K H tp ts cfs) (s:∀ x ys,H x=some (.tup ys)->H' x=some (.tup ys)):PlanAt K H' tp ts cfs :=
 ⟨s _ _ p.top,p.len,λi t c h1 h2=>by obtain ⟨wr,e1,e2⟩:=p.at_ i t c h1 h2; exact ⟨wr,s _ _ e1,e2⟩,p.cf⟩
theorem PlanAt.same {K:W.Frag} {H H':Hp} {tp:Addr} {ts:List Addr} {cfs:List Cf} (p:PlanAt K H tp ts cfs) (s:Same H H'):PlanAt K H' tp ts cfs :=
 ⟨s _ _ p.top,p.len,λi t c h1 h2=>by obtain ⟨wr,e1,e2⟩:=p.at_ i t c h1 h2; exact ⟨wr,s _ _ e1,e2⟩,p.cf⟩
def tf0 (size:Int) (ss bm:Addr) (last:Nat) (ev:Addr):List (Str×V):=putF "events" (.ref ev) (putF "last" (.int last) (putF "bottom" (.ref bm) (putF "stores" (.ref ss) (putF "size" (.int size) []))))
structure Mks (K:W.Frag) (H G:Hp) (as:List SA) (cfs:List Cf) (os:OS):Prop where
 at_:∀ (i:Nat) (a:SA) (c:Cf),as[i]?=some a->cfs[i]?=some c->StoreAt K G a c Rm0 (os i)
 fr:∀ i,i<as.length->∀ x,os i x->H x=none
 dis:∀ i j,i<as.length->j<as.length->i≠j->∀ x,os i x->¬ os j x
theorem Mks.frame {K:W.Frag} {H G G':Hp} {as:List SA} {cfs:List Cf} {os:OS} {p:Addr} (m:Mks K H G as cfs os) (hp:H p≠none) (f:∀ x o,G x=some o->x≠p->G' x=some o):Mks K H G' as cfs os :=
 ⟨λi a c h1 h2=>(m.at_ i a c h1 h2).frame λx o h e=>f x o e λz=>hp (z ▸ m.fr i (List.getElem?_eq_some_iff.mp h1).1 x h),m.fr,m.dis⟩
theorem Mks.ex {K:W.Frag} {H G:Hp} {as:List SA} {cfs:List Cf} {os:OS} (m:Mks K H G as cfs os) (l:as.length<=cfs.length) {i:Nat} (hi:i<as.length) {x:Addr} (h:os i x):G x≠none :=
 (m.at_ i _ _ (getElem?_eq_getElem hi) (getElem?_eq_getElem (Nat.lt_of_lt_of_le hi l))).sto.ex x h
def St0 (n:Nat):Stt:=⟨List.replicate n Rm0,λ_=>0,[]⟩
section
def ZhT (K:W.Frag):Sp:=λvs H Q _=>∃ (p dx tp:Addr) (size:Int) (ts:List Addr) (cfs:List Cf),vs=[.ref p,.int size,.ref tp]/\H p=some (.ins (clsOf K "Stairs") dx [])/\PlanAt K H tp ts cfs/\cfs.length<=4/\Tb K H /\
 ∀ (A:TA) (os:OS) (H':Hp),A.p=p->H' p=some (.ins (clsOf K "Stairs") dx (tf0 size A.ss A.bm A.as.length A.ev))->(∀ kind U,WF ⟨size,kind,cfs,U⟩->StairsAt K (upd H' p (.ins (clsOf K "Stairs") dx (tflds size A.ss A.bm A.as.length A.ev kind))) A ⟨size,kind,cfs,U⟩ (St0 cfs.length) os 0) ->
  (∀ x,OW A os x->x≠p->H x=none)->(∀ b o,H b=some o->b≠p->H' b=some o)->Q .non H'
theorem Zgj (F:Fun K "__init__" "Steps.__init__" ZT f fd) (T:Txt K mg) (jv_:KDef P w K mg base (clsOf K "Store") "Store" 3 Zcs (ZkU K)) (jq_:KDef P w K mg base (clsOf K "Memory") "Memory" 1 ZbY (spMem K)):FnOk P w K mg base CX0 5 f fd ZaM (ZhT K):=by
 refine F.ok sc_Steps_init (λvs H Q E h=>?_) (λcdv A outer s0 H vs Q E hr h=>?_)
 .obtain ⟨p,dx,tp,size,ts,cfs,rfl,_⟩:=h
  rfl
 obtain ⟨p,dx,tp,size,ts,cfs,rfl,hp,pa,l4,tb,k⟩:=h
 have nd:=sc_Steps_init.nd
 refine ⟨_,(Zd (ZaA (pv 0) (pv 1) rfl)
   (Zd (ZaA (pv 0) (ZbA (Zag (osc:=(Zh ZT)) (oN:=N_Steps_init) (N:=["room_plan"]) (own:=1) (js:=[]) (by decide +kernel) rfl rfl) rfl (Zkh (K:=K) rfl (pv 2)) (λ_ _ _ _ _ _=>(pgn 0 (show List.Nodup (["room_plan"]:List Str) by decide +kernel))) (λ_ _ _ _ _ _=>(Zdm jv_ hr.m rfl (pc (pv 0) Zb)))) rfl)
   (Zd (ZaA (pv 0) (Zdm jq_ hr.m rfl (pc (pv 1) Zb)) rfl)
   (Zd (ZaA (pv 0) (Zr (Zx (K:=K) rfl) rfl T.vp_ PySem.boot_len (pc (Zm (K:=K) rfl (pv 0) rfl) Zb)) rfl)
   (Zi (ZaA (pv 0) (ZaY Zb) rfl)))))),?_⟩
 refine ⟨_,rfl,_,rfl,p,_,dx,_,rfl,hp,T.qa_,T.q0_,(by show 0<1000; decide),?_⟩
 have fu:∀ {G:Hp} {o':HO} x o,G x=some o->x≠p->upd G p o' x=some o:=λx o e n=>by rw [Zc n]; exact e
 have hpn:H p≠none:=by rw [hp]; simp
 have nk:∀ {x o},H x=some o->(∀ C d f,o≠.ins C d f)->x≠p:=λ{x o} q m z=>by rw [z,hp] at q; exact m _ _ _ (Option.some.inj q).symm
 have e1:upd H p (.ins (clsOf K "Stairs") dx (putF "size" (.int size) [])) p=some (.ins (clsOf K "Stairs") dx (putF "size" (.int size) [])):=Za
 have f1:∀ x o,H x=some o->x≠p->upd H p (.ins (clsOf K "Stairs") dx (putF "size" (.int size) [])) x=some o:=fu
 have n1:∀ x,upd H p (.ins (clsOf K "Stairs") dx (putF "size" (.int size) [])) x=none->H x=none:=λx e=>by
  by_cases z:x=p
  .rw [z,Za] at e; cases e
  .rw [Zc z] at e; exact e
 generalize upd H p (.ins (clsOf K "Stairs") dx (putF "size" (.int size) []))=H1 at *
 have pa1:=pa.frame (H':=H1) λx ys e=>f1 x _ e (nk e (λ_ _ _ z=>by cases z))
 refine ⟨_,rfl,tp,rfl,⟨_,SqT.of pa1.top⟩,λss hss=>?_⟩
 refine Zir (K:=K) (a:=tp) (xs:=ts.map V.ref) (l:=ss) (λj ys σ G=>∃ (v0:Option V) (as:List SA) (os:OS),σ=[v0]/\ys=as.map (λa=>V.ref a.sp)/\as.length=j/\G ss=some (.lst ys)/\Same H1 G/\Mks K H G as cfs os/\∀ i,i<as.length->¬ os i ss)
  ⟨none,[],λ_ _=>False,rfl,rfl,rfl,Za,Zg hss _,⟨λi a c h=>by simp at h,λi h=>by simp at h,λi j h=>by simp at h⟩,λi h=>by simp at h⟩ (λj ys σ G _ ⟨_,_,_,_,_,_,_,s,_⟩=>SqT.of (s _ _ pa1.top)) ?_ ?_
 .rintro j x ys σ G hj hxj hys ⟨v0,as,os,rfl,rfl,hlen,g1,s1,mk,ns⟩
  rw [length_map] at hj
  rw [getElem?_map] at hxj
  obtain ⟨t,et,rfl⟩:∃ t,ts[j]?=some t/\V.ref t=x:=by
   cases e:ts[j]? with
   | none=>rw [e] at hxj; cases hxj
   | some t=>rw [e] at hxj; exact ⟨t,rfl,Option.some.inj hxj⟩
  have hjc:j<cfs.length:=by rw [← pa.len]; exact hj
  have ec:cfs[j]?=some cfs[j]:=getElem?_eq_getElem hjc
  obtain ⟨wr,q1,q2,_⟩:=pa1.at_ j t _ et ec
  have cb:=pa.cf _ (getElem_mem hjc)
  have q1':=s1 _ _ q1
  refine ⟨_,rfl,λx dx' hx hdx ne=>⟨x,dx',t,cfs[j].sh,cfs[j].pl,cfs[j].ru,wr,rfl,Za,SqT.of ?_,cb.1,cb.2.1,λa G1 ea S1 k2=>⟨rfl,?_⟩⟩⟩
  .rw [Zc (Ze q1' hx),Zc (Ze q1' hdx)]; exact q1'
  have sG:Same G G1:=λy o e=>k2 y o (by rw [Zc (Ze e hx),Zc (Ze e hdx)]; exact e) (Ze e hx)
  have newG:∀ y,(y=x\/(upd (upd G dx' (.own x)) x (.ins (clsOf K "Store") dx' []) y=none/\G1 y≠none))->G y=none:=λy h=>by
   rcases h with h | h
   .rw [h]; exact hx
   .cases q:G y with
    | none=>rfl
    | some o=>have e:=h.1; rw [Zc (Ze q hx),Zc (Ze q hdx),q] at e; cases e
  rw [show (⟨cfs[j].sh,cfs[j].pl,cfs[j].ru,decide (wr = "late")⟩:Cf)=cfs[j] by rw [← q2]] at S1
  rw [show V.ref x=V.ref a.sp by rw [ea]]
  have g1':=sG _ _ g1
  have lle:as.length<=cfs.length:=by lia
  obtain ⟨N,S1,newG⟩:∃ N:Addr->Prop,StoreAt K G1 a cfs[j] Rm0 N/\∀ y,N y->G y=none:=⟨_,S1,newG⟩
  have nN:¬ N ss:=λh=>by have q:=newG ss h; rw [g1] at q; cases q
  have la:∀ {i:Nat} {b:SA},(as++[a])[i]?=some b->(i<as.length/\as[i]?=some b)\/(i=as.length/\b=a):=λ{i b} hb=>by
   by_cases hi:i<as.length
   .rw [getElem?_append_left hi] at hb; exact .inl ⟨hi,hb⟩
   .have:=(List.getElem?_eq_some_iff.mp hb).1
    rw [length_append,length_singleton] at this
    have hi2:i=as.length:=by lia
    subst hi2
    rw [getElem?_append_right (Nat.le_refl _),Nat.sub_self] at hb
    cases hb
    exact .inr ⟨rfl,rfl⟩
  have os':∀ {i},i<as.length->(os.set as.length N) i=os i:=λ{i} h=>if_neg (by lia)
  have osN:(os.set as.length N) as.length=N:=if_pos rfl
  have cs:∀ {i},i<(as++[a]).length->i<as.length\/i=as.length:=λ{i} h=>by rw [length_append,length_singleton] at h; lia
  refine CNx.of (Nat.le_of_lt (ZA (by rw [length_map,pa.len]; lia))) (by rw [length_map]; exact hj) hys g1' ⟨_,as++[a],os.set as.length N,rfl,by rw [map_append]; rfl,by rw [length_append,hlen]; rfl,Za,λy o e=>?_,⟨λi b c hb hc=>?_,λi hi y hy=>?_,λi i' hi hi' nn y h1 h2=>?_⟩,λi hi=>?_⟩
  .rw [Zc (Ze e hss)]; exact sG _ _ (s1 _ _ e)
  .rcases la hb with ⟨hi,hb⟩ | ⟨hi,rfl⟩
   .rw [os' hi]
    exact (mk.at_ i b c hb hc).frame λy o h e=>by rw [Zc (λz:y=ss=>ns i hi (z ▸ h))]; exact sG _ _ e
   .subst hi
    rw [osN]
    rw [hlen,ec] at hc; cases hc
    exact S1.frame λy o h e=>by rw [Zc (λz:y=ss=>nN (z ▸ h))]; exact e
  .rcases cs hi with h | h
   .rw [os' h] at hy; exact mk.fr i h y hy
   .rw [h,osN] at hy; exact n1 _ (s1.free (newG y hy))
  .rcases cs hi with a1 | a1
   .rw [os' a1] at h1
    rcases cs hi' with a2 | a2
    .rw [os' a2] at h2; exact mk.dis i i' a1 a2 nn y h1 h2
    .rw [a2,osN] at h2; exact mk.ex lle a1 h1 (newG y h2)
   .rw [a1,osN] at h1
    rcases cs hi' with a2 | a2
    .rw [os' a2] at h2; exact mk.ex lle a2 h2 (newG y h1)
    .exact nn (a1.trans a2.symm)
  .rcases cs hi with h | h
   .rw [os' h]; exact ns i h
   .rw [h,osN]; exact nN
 rintro ys σ G hys ⟨v0,as,os,rfl,rfl,hlen,g1,s1,mk,ns⟩
 rw [length_map,pa.len] at hlen
 have hp2:=s1 _ _ e1
 have fG:∀ x o,H x=some o->x≠p->G x=some o:=λx o e n=>s1 _ _ (f1 x o e n)
 refine ⟨_,rfl,p,_,dx,_,rfl,hp2,T.qa_,T.qe_,(by show 1<1000; decide),?_⟩
 have nsp:ss≠p:=λz=>by rw [z,hp2] at g1; cases g1
 have e2:upd G p (.ins (clsOf K "Stairs") dx (putF "stores" (.ref ss) (putF "size" (.int size) []))) p=some (.ins (clsOf K "Stairs") dx (putF "stores" (.ref ss) (putF "size" (.int size) []))):=Za
 have f2:∀ x o,G x=some o->x≠p->upd G p (.ins (clsOf K "Stairs") dx (putF "stores" (.ref ss) (putF "size" (.int size) []))) x=some o:=fu
 generalize upd G p (.ins (clsOf K "Stairs") dx (putF "stores" (.ref ss) (putF "size" (.int size) [])))=H2 at *
 have mk2:=mk.frame hpn f2
 refine ⟨_,rfl,λbm bx hbm hbx nbx=>⟨bm,bx,size,rfl,Za,λdk H3 M3 fdk k3=>⟨rfl,?_⟩⟩⟩
 have s3:Same H2 H3:=λy o e=>k3 y o (by rw [Zc (Ze e hbm),Zc (Ze e hbx)]; exact e) (Ze e hbm)
 have ndk:H2 dk=none:=by
  cases q:H2 dk with
  | none=>rfl
  | some o=>rw [Zc (Ze q hbm),Zc (Ze q hbx),q] at fdk; cases fdk
 have e3:=s3 _ _ e2
 have npb:p≠bm:=Ze e2 hbm
 have npk:p≠dk:=Ze e2 ndk
 refine ⟨_,rfl,p,_,dx,_,rfl,e3,T.qa_,T.vw_,(by show 2<1000; decide),?_⟩
 have e4:upd H3 p (.ins (clsOf K "Stairs") dx (putF "bottom" (.ref bm) (putF "stores" (.ref ss) (putF "size" (.int size) [])))) p=some (.ins (clsOf K "Stairs") dx (putF "bottom" (.ref bm) (putF "stores" (.ref ss) (putF "size" (.int size) [])))):=Za
 have f4:∀ x o,H3 x=some o->x≠p->upd H3 p (.ins (clsOf K "Stairs") dx (putF "bottom" (.ref bm) (putF "stores" (.ref ss) (putF "size" (.int size) [])))) x=some o:=fu
 generalize upd H3 p (.ins (clsOf K "Stairs") dx (putF "bottom" (.ref bm) (putF "stores" (.ref ss) (putF "size" (.int size) []))))=H4 at *
 have g4:=f4 _ _ (s3 _ _ (f2 _ _ g1 nsp)) nsp
 have lks:(putF "bottom" (.ref bm) (putF "stores" (.ref ss) (putF "size" (.int size) [])):List (Str×V)).lookup ("stores" : Str)=some (.ref ss):=by rw [Zf,if_neg (by decide +kernel),Zf,if_pos rfl]
 refine ⟨_,rfl,p,_,dx,_,_,rfl,e4,T.qa_,T.qe_,lks,ss,_,rfl,.inl (SqL.of g4),_,rfl,p,_,dx,_,rfl,e4,T.qa_,T.qk_,(by show 3<1000; decide),?_⟩
 rw [length_map]
 have e5:upd H4 p (.ins (clsOf K "Stairs") dx (putF "last" (.int (as.length:Int)) (putF "bottom" (.ref bm) (putF "stores" (.ref ss) (putF "size" (.int size) []))))) p=some (.ins (clsOf K "Stairs") dx (putF "last" (.int (as.length:Int)) (putF "bottom" (.ref bm) (putF "stores" (.ref ss) (putF "size" (.int size) []))))):=Za
 have f5:∀ x o,H4 x=some o->x≠p->upd H4 p (.ins (clsOf K "Stairs") dx (putF "last" (.int (as.length:Int)) (putF "bottom" (.ref bm) (putF "stores" (.ref ss) (putF "size" (.int size) []))))) x=some o:=fu
 generalize upd H4 p (.ins (clsOf K "Stairs") dx (putF "last" (.int (as.length:Int)) (putF "bottom" (.ref bm) (putF "stores" (.ref ss) (putF "size" (.int size) [])))))=H5 at *
 have f35:∀ x o,H3 x=some o->x≠p->H5 x=some o:=λx o e n=>f5 _ _ (f4 _ _ e n) n
 have f25:∀ x o,H2 x=some o->x≠p->H5 x=some o:=λx o e n=>f35 _ _ (s3 _ _ e) n
 have mk5:=mk2.frame hpn f25
 have f05:∀ x o,H x=some o->x≠p->H5 x=some o:=λx o e n=>f25 _ _ (f2 _ _ (fG x o e n) n) n
 refine ⟨(by show 0<=sizeLine; decide),λev hev=>⟨_,rfl,p,_,dx,_,rfl,Zg hev _ _ _ e5,T.qa_,T.qr_,(by show 4<1000; decide),?_⟩⟩
 have s6:=Zg hev (.lst ([]:List V))
 have nev:ev≠p:=λz=>by rw [z,e5] at hev; cases hev
 have lle:as.length<=cfs.length:=by lia
 have nH:∀ {x},H5 x=none->x≠p->H x=none:=λ{x} h n=>by
  cases q:H x with
  | none=>rfl
  | some o=>rw [f05 x o q n] at h; cases h
 have nH2:∀ {x},H2 x=none->x≠p->H x=none:=λ{x} h n=>by
  cases q:H x with
  | none=>rfl
  | some o=>rw [f2 _ _ (fG x o q n) n] at h; cases h
 refine k ⟨p,ss,bm,dk,ev,as⟩ os _ rfl Za (λkind U wf=>?_) (λx hx n=>?_) λx o e n=>?_
 .rw [Zfx]
  have ff:∀ x o,H5 x=some o->x≠p->upd (upd H5 ev (.lst [])) p (.ins (clsOf K "Stairs") dx (tflds size ss bm as.length ev kind)) x=some o:=λx o e n=>fu x o (s6 _ _ e) n
  have mk6:=mk5.frame hpn ff
  have g5:=f5 _ _ g4 nsp
  have rp:∀ {s:Rm},s∈List.replicate cfs.length Rm0->s=Rm0:=λh=>(List.mem_replicate.mp h).2
  refine ⟨⟨dx,Za⟩,ff _ _ g5 nsp,(M3 U).frame λx o m e=>ff x o (f35 x o e ?_) ?_,⟨(λe m=>by cases m),[],by show upd _ p _ ev=_; rw [Zc nev]; exact Za,rfl,λi t e q _=>by simp at q⟩,Nat.le_refl _,hlen.symm,by show (List.replicate _ _).length=_; rw [List.length_replicate]; exact hlen.symm,λj b c s hb hc hs=>?_,λj hj x h z=>?_,mk6.dis,Ze g5 hev,npb,λs hs b hb=>?_,λj c s hc hs t=>?_,λs hs b hb=>?_,wf,ff _ _ (f05 _ _ tb (nk tb (λ_ _ _ z=>by cases z))) (nk tb (λ_ _ _ z=>by cases z))⟩
  .rcases m with rfl | rfl; exact Ne.symm npb; exact Ne.symm npk
  .rcases m with rfl | rfl; exact Ne.symm npb; exact Ne.symm npk
  .have hs:(List.replicate cfs.length Rm0)[j]?=some s:=hs
   rw [rp (mem_of_getElem? hs)]
   exact mk6.at_ j b c hb hc
  .rcases z with z | z | z | z | z
   .exact hpn ((show x=p from z) ▸ mk6.fr j hj x h)
   .exact ns j hj ((show x=ss from z) ▸ h)
   .exact mk2.ex lle hj h (by rw [z]; exact hbm)
   .exact mk2.ex lle hj h (by rw [z]; exact ndk)
   .exact mk5.ex lle hj h (by rw [z]; exact hev)
  .rw [rp hs] at hb; exact absurd hb (by simp [Rm0])
  .have hs:(List.replicate cfs.length Rm0)[j]?=some s:=hs
   rw [rp (mem_of_getElem? hs)]
   show ((0:Nat):Int)<=c.pl
   have:=(wf.cf c (mem_of_getElem? hc)).1
   lia
  .rw [rp hs] at hb; exact absurd hb (by simp [Rm0])
 .rcases hx with hx | ⟨j,hj,hx⟩
  .rcases hx with z | z | z | z | z
   .exact absurd z n
   .rw [z]; exact n1 _ hss
   .rw [z]; exact nH2 hbm (Ne.symm npb)
   .rw [z]; exact nH2 ndk (Ne.symm npk)
   .rw [z]; exact nH hev nev
  .exact mk5.fr j hj x hx
 .rw [Zc n]
  exact s6 _ _ (f05 x o e n)
def ZiW (K:W.Frag):Sp:=λvs H Q _=>∃ (p dx pp tp:Addr) (size:Int) (kind:Str) (ts:List Addr) (cfs:List Cf),vs=[.ref p,.ref pp]/\H p=some (.ins (clsOf K "Stairs") dx [])/\H pp=some (.tup [.int size,.str kind,.ref tp])/\PlanAt K H tp ts cfs/\cfs.length<=4/\Tb K H /\
 ∀ (A:TA) (os:OS) (H':Hp),A.p=p->(∀ U,WF ⟨size,kind,cfs,U⟩->StairsAt K H' A ⟨size,kind,cfs,U⟩ (St0 cfs.length) os 0)->(∀ x,OW A os x->x≠p->H x=none)->(∀ b o,H b=some o->b≠p->H' b=some o)->Q .non H'
theorem Zfj (F:Fun K "__init__" "Stairs.__init__" Zcb f fd) (T:Txt K mg) (jd_:CDef P w K mg base "Steps" "__init__" 5 ZaM (ZhT K)):FnOk P w K mg base CX0 6 f fd Zcc (ZiW K):=by
 refine F.ok sc_Stairs_init (λvs H Q E h=>?_) (λcdv A outer s0 H vs Q E hr h=>?_)
 .obtain ⟨p,dx,pp,tp,size,kind,ts,cfs,rfl,_⟩:=h
  rfl
 obtain ⟨p,dx,pp,tp,size,kind,ts,cfs,rfl,hp,hpp,pa,l4,tb,q⟩:=h
 have nd:=sc_Stairs_init.nd
 refine ⟨_,(Zd (Zby (pv 1) (Zad (K:=K) (n:=3) rfl rfl (Zs (pgn 2 nd) (Zs (pgn 3 nd) (Zs (pgn 4 nd) Zac)))))
   (Zd (Zp (ZnB jd_ hr.m rfl (pc (pv 0) (pc (pv 2) (pc (pv 4) Zb)))))
   (Zi (ZaA (pv 0) (pv 3) rfl)))),?_⟩
 refine ⟨_,rfl,pp,_,rfl,SqT.of hpp,rfl,_,_,rfl,gN ⟨_,_,rfl,gN ⟨_,_,rfl,gN ⟨rfl,?_⟩⟩⟩⟩
 try dsimp only
 refine ⟨_,rfl,_,rfl,_,rfl,p,dx,tp,size,ts,cfs,rfl,hp,pa,l4,tb,λA os H1 ep h1 RS f1 k1=>?_⟩
 refine ⟨_,rfl,_,rfl,p,_,dx,_,rfl,h1,T.qa_,T.v5_,(by show 5<1000; decide),?_⟩
 exact q A os _ ep (λU wf=>RS kind U wf) f1 λx o e n=>by rw [Zc n]; exact k1 x o e n
end
def nearF (st:Stt) (b:Int):Nat:=st.rm.findIdx λs=>decide (b∈s.seq)
def ZiX (k:Nat) (b:Int) (st:Stt):Stt:=st.set k (frS (st.at_ k) b)
def goOn (g:Pln) (b:Int) (ws:List Int):Nat->Nat->Stt->Stt
 | 0,k,st=>putS g k b ws st
 | r+1,k,st=>if b∈(st.at_ k).seq then (if (g.cf k).late=true then ZiX k b (putS g k b ws st) else goOn g b ws r (k+1) (putS g k b ws st)) else goOn g b ws r (k+1) st
def Zch (g:Pln) (k:Nat) (b:Int) (st:Stt):Stt:=if (g.cf k).late=true then ZiX k b st else goOn g b ((st.at_ k).wd b) (g.n - (k+1)) (k+1) st
def outsS (b:Int):Nat->Stt->List Int->Bool->Stt×List Int×Bool
 | 0,st,ws,fr=>(st,ws,fr)
 | j+1,st,ws,fr=>if b∈(st.at_ j).seq then outsS b j (goS j b st) ((st.at_ j).wd b) (fr || (st.at_ j).fr b) else outsS b j st ws fr
def drv1 (g:Pln) (k:Nat) (b:Int) (st:Stt):Stt×List Int×Bool:=if g.kind = "within" then outsS b k (goS k b st) ((st.at_ k).wd b) ((st.at_ k).fr b) else (goS k b st,(st.at_ k).wd b,(st.at_ k).fr b)
def Zea (g:Pln) (k:Nat) (b:Int) (st:Stt):Stt:=if (drv1 g k b st).2.2=true then goOn g b (drv1 g k b st).2.1 (g.n - (k+1)) (k+1) (drv1 g k b st).1 else (drv1 g k b st).1
noncomputable def ZaB (g:Pln) (j:Nat) (b:Int) (st:Stt):Stt:=match goneF (g.cf j) (st.at_ j) b with
 | none=>st
 | some o=>Zea g j o st
noncomputable def downS (g:Pln) (b:Int) (ws:List Int):Nat->Stt->Stt
 | 0,st=>st
 | j+1,st=>downS g b ws j (comeS j b ws (ZaB g j b st))
def usedS (g:Pln) (k:Nat) (b:Int) (st:Stt):Stt:=if k<g.n then st.set k (useS (g.cf k) (st.at_ k) b) else st
noncomputable def Zho (g:Pln) (k:Nat) (b:Int) (st:Stt):Stt:=downS g b (ZeN g (usedS g k b st) k b) k (usedS g k b st)
def comeA (g:Pln) (k:Nat) (b:Int) (ws:List Int) (fr:Bool) (st:Stt):Stt:=if fr=true then Zch g k b (comeS k b ws st) else comeS k b ws st
noncomputable def pushS (g:Pln):Nat->Nat->Int->List Int->Bool->Stt->Stt
 | 0,k,b,ws,fr,st=>if fr=true then putS g k b ws st else st
 | r+1,k,b,ws,fr,st=>match goneF (g.cf k) (st.at_ k) b with
  | none=>comeA g k b ws fr st
  | some o=>pushS g r (k+1) o ((st.at_ k).wd o) ((st.at_ k).fr o) (comeA g k b ws fr (goS k o st))
noncomputable def Zfv (g:Pln) (k:Nat) (b:Int) (st:Stt):Stt:=if k=0 then usedS g 0 b st else if k=g.n then pushS g g.n 0 b (memW g.size st.mem b) false st else pushS g g.n 0 b ((st.at_ k).wd b) ((st.at_ k).fr b) (goS k b st)
noncomputable def Zaq (g:Pln) (b:Int) (st:Stt):Stt:=if g.kind = "apart" then Zfv g (nearF st b) b (st.tell (eF (nearF st b))) else Zho g (nearF st b) b (st.tell (eF (nearF st b)))
noncomputable def Zeb (g:Pln) (sp x:Int) (st:Stt):Stt:=(λs1:Stt=>Zch g 0 (sp / g.size) (s1.set 0 (pwS g (s1.at_ 0) sp x))) (Zaq g (sp / g.size) st)
theorem ZcZ {st:Stt} {k j:Nat} {s:Rm}:(st.set k s).at_ j=if j=k/\k<st.rm.length then s else st.at_ j:=by
 by_cases h:k<st.rm.length
 .rw [Stt.at_set h]
  by_cases z:j=k
  .rw [if_pos z,if_pos ⟨z,h⟩]
  .rw [if_neg z,if_neg (λq=>z q.1)]
 .rw [if_neg (λq=>h q.2)]
  unfold Stt.at_ Stt.set
  rw [List.set_eq_of_length_le (by lia)]
theorem ZnJ {st:Stt} {e:List V} {j:Nat}:(st.tell e).at_ j=st.at_ j:=rfl
theorem ZiY {st:Stt} {k j:Nat} {s:Rm} (h:s.seq=(st.at_ k).seq):((st.set k s).at_ j).seq=(st.at_ j).seq:=by
 rw [ZcZ]
 split
 .rename_i q; rw [h,q.1]
 .rfl
theorem set_len {st:Stt} {k:Nat} {s:Rm}:(st.set k s).rm.length=st.rm.length:=length_set ..
theorem ZeS {g:Pln} {k:Nat} {b:Int} {ws:List Int} {st:Stt} {j:Nat}:((putS g k b ws st).at_ j).seq=(st.at_ j).seq:=by
 unfold putS
 split
 .rfl
 .exact ZiY rfl
theorem Zgk {g:Pln} {k:Nat} {b:Int} {ws:List Int} {st:Stt}:(putS g k b ws st).rm.length=st.rm.length:=by
 unfold putS
 split
 .rfl
 .exact set_len
theorem ZiZ {k j:Nat} {b:Int} {st:Stt}:((ZiX k b st).at_ j).seq=(st.at_ j).seq:=ZiY rfl
theorem goOn_sq {g:Pln} {b:Int} {ws:List Int} {j:Nat}:∀ {r k:Nat} {st:Stt},((goOn g b ws r k st).at_ j).seq=(st.at_ j).seq
 | 0,k,st=>ZeS
 | r+1,k,st=>by
  rw [goOn]
  split
  .split
   .rw [ZiZ,ZeS]
   .exact goOn_sq.trans ZeS
  .exact goOn_sq
theorem change_sq {g:Pln} {k:Nat} {b:Int} {st:Stt} {j:Nat}:((Zch g k b st).at_ j).seq=(st.at_ j).seq:=by
 unfold Zch
 split
 .exact ZiZ
 .exact goOn_sq
theorem go_sq {k j:Nat} {b:Int} {st:Stt} (h:k<st.rm.length):((goS k b st).at_ j).seq=if j=k then (st.at_ j).seq.erase b else (st.at_ j).seq:=by
 unfold goS
 rw [Stt.at_set (by exact h)]
 by_cases z:j=k
 .rw [if_pos z,if_pos z,z]; rfl
 .rw [if_neg z,if_neg z]; rfl
theorem Zec {k:Nat} {b:Int} {st:Stt}:(goS k b st).rm.length=st.rm.length:=set_len
theorem ZhU {b:Int} {j:Nat}:∀ {k:Nat} {st:Stt} {ws:List Int} {fr:Bool},k<=st.rm.length->((outsS b k st ws fr).1.at_ j).seq=if j<k then (st.at_ j).seq.erase b else (st.at_ j).seq
 | 0,st,ws,fr,_=>by rw [outsS,if_neg (by lia)]
 | k+1,st,ws,fr,h=>by
  rw [outsS]
  split
  .rw [ZhU (by rw [Zec]; lia),go_sq (by lia)]
   by_cases z:j=k
   .rw [if_neg (by lia),if_pos z,if_pos (by lia)]
   .rw [if_neg z]
    by_cases y:j<k
    .rw [if_pos y,if_pos (by lia)]
    .rw [if_neg y,if_neg (by lia)]
  .rename_i m
   rw [ZhU (by lia)]
   by_cases z:j=k
   .rw [if_neg (by lia),if_pos (by lia),z,List.erase_of_not_mem m]
   .by_cases y:j<k
    .rw [if_pos y,if_pos (by lia)]
    .rw [if_neg y,if_neg (by lia)]
theorem Zla {g:Pln} {k:Nat} {b:Int} {st:Stt} {j:Nat} (h:k<st.rm.length):((drv1 g k b st).1.at_ j).seq=if j=k\/(g.kind = "within" /\ j<k) then (st.at_ j).seq.erase b else (st.at_ j).seq:=by
 unfold drv1
 split
 .rename_i w
  rw [ZhU (by rw [Zec]; lia),go_sq h]
  by_cases z:j=k
  .rw [if_neg (by lia),if_pos z,if_pos (.inl z)]
  .rw [if_neg z]
   by_cases y:j<k
   .rw [if_pos y,if_pos (.inr ⟨w,y⟩)]
   .rw [if_neg y,if_neg (by lia)]
 .rename_i w
  show ((goS k b st).at_ j).seq=_
  rw [go_sq h]
  by_cases z:j=k
  .rw [if_pos z,if_pos (.inl z)]
  .rw [if_neg z,if_neg (λq=>q.elim z λq=>w q.1)]
theorem Zgl {g:Pln} {k:Nat} {b:Int} {st:Stt} {j:Nat} (h:k<st.rm.length):((Zea g k b st).at_ j).seq=if j=k\/(g.kind = "within" /\ j<k) then (st.at_ j).seq.erase b else (st.at_ j).seq:=by
 unfold Zea
 split
 .rw [goOn_sq]; exact Zla h
 .exact Zla h
theorem ZeT {k j:Nat} {b:Int} {ws:List Int} {st:Stt} (h:k<st.rm.length):((comeS k b ws st).at_ j).seq=if j=k then (st.at_ j).seq++[b] else (st.at_ j).seq:=by
 unfold comeS
 rw [ZnJ,Stt.at_set h]
 by_cases z:j=k
 .rw [if_pos z,if_pos z,z]; rfl
 .rw [if_neg z,if_neg z]
theorem Zgm {g:Pln} {k j:Nat} {b:Int} {ws:List Int} {fr:Bool} {st:Stt} (h:k<st.rm.length):((comeA g k b ws fr st).at_ j).seq=if j=k then (st.at_ j).seq++[b] else (st.at_ j).seq:=by
 unfold comeA
 split
 .rw [change_sq]; exact ZeT h
 .exact ZeT h
theorem Zgn {st:Stt} {b:Int} (h:nearF st b<st.rm.length):b∈(st.at_ (nearF st b)).seq:=by
 have e:=Stt.at_of h
 rw [getElem?_eq_getElem h] at e
 have:=List.findIdx_getElem (w:=h)
 rw [decide_eq_true_eq] at this
 rw [← Option.some.inj e]
 exact this
theorem Zdu {st:Stt} {b:Int} {j:Nat} (h:j<nearF st b) (hl:j<st.rm.length):b∉(st.at_ j).seq:=by
 have e:=Stt.at_of hl
 rw [getElem?_eq_getElem hl] at e
 rw [← Option.some.inj e]
 have:=List.not_of_lt_findIdx h
 simpa using this
theorem ZeU (st:Stt) (b:Int):nearF st b<=st.rm.length:=List.findIdx_le_length
theorem ZbP {c:Cf} {s:Rm} {b g:Int} (h:goneF c s b=some g):g∈s.seq/\g % c.sh=b % c.sh/\goneP c.ru s.us c.pl (Zl c.sh (b % c.sh) s.seq) (some g):=by
 unfold goneF at h
 split at h
 .rename_i e
  have q:=Classical.choose_spec e
  rw [h] at q
  by_cases l:((Zl c.sh (b % c.sh) s.seq).length:Int)<c.pl
  .exact absurd (q.1 l) (by simp)
  .obtain ⟨g',r,e',p,_⟩:=q.2 l
   cases e'
   have m:=mem_shelfS.mp (p.mem_iff.mp mem_cons_self)
   exact ⟨m.1,m.2,q⟩
 .cases h
theorem Zlb {c:Cf} {s:Rm} {b:Int} (h:goneP c.ru s.us c.pl (Zl c.sh (b % c.sh) s.seq) none):((Zl c.sh (b % c.sh) s.seq).length:Int)<c.pl:=by
 by_cases l:((Zl c.sh (b % c.sh) s.seq).length:Int)<c.pl
 .exact l
 .obtain ⟨_,_,z,_⟩:=h.2 l
  cases z
theorem Zja {c:Cf} {seq:List Int} {b g:Int} (hf:∀ t,((Zl c.sh t seq).length:Int)<=c.pl) (h:g∈seq) (e:g % c.sh=b % c.sh):((Zl c.sh (b % c.sh) (seq.erase g)).length:Int)<c.pl:=by
 have m:g∈Zl c.sh (b % c.sh) seq:=mem_shelfS.mpr ⟨h,e⟩
 rw [Zap,List.length_erase_of_mem m]
 have:=List.length_pos_of_mem m
 have:=hf (b % c.sh)
 lia
section
def Zhp (K:W.Frag):Sp:=λvs H Q _=>∃ (A:TA) (g:Pln) (st:Stt) (os:OS) (n:Nat) (b:Int),vs=[.ref A.p,.int b]/\StairsAt K H A g st os n/\∀ H',Same H H'->Q (.int (nearF st b:Nat)) H'
theorem ZdR (F:Fun K "nearest" "Stairs.nearest" ZaW f fd) (T:Txt K mg) (qw_:MDef P w K mg base (clsOf K "Store") "has" 2 Zbn (ZiP K)):FnOk P w K mg base CX0 3 f fd ZaX (Zhp K):=by
 refine F.ok sc_Stairs_nearest (λvs H Q E h=>?_) (λcdv A outer s0 H vs Q E hr h=>?_)
 .obtain ⟨A,g,st,os,n,b,rfl,_⟩:=h
  rfl
 obtain ⟨A,g,st,os,n,b,rfl,R,q⟩:=h
 have nd:=sc_Stairs_nearest.nd
 refine ⟨_,(Zd (Zcj PassesOwn.never rfl (Zhz rfl T.vo_ (pc (Zm (K:=K) rfl (pv 0) rfl) Zb)) (Zad (K:=K) (n:=2) rfl rfl (Zs (pgn 2 nd) (Zs (pgn 3 nd) Zac))) (Zi (ps_if (Zab (Zk qw_ hr.m T.qc_ (pv 3) (pc (pv 1) Zb))) (Zi (Zt (pv 2))) Zu)))
   (Zi (Zt (Zm (K:=K) rfl (pv 0) rfl)))),?_⟩
 obtain ⟨dx,h1⟩:=R.ob
 have lS:=R.lS
 refine ⟨_,rfl,A.p,_,dx,_,_,rfl,h1,T.qa_,T.qe_,ZL ..,A.ss,rfl,⟨_,SqL.of R.ss⟩,ZfJ (K:=K) (a:=A.ss) (xs:=A.as.map λa=>V.ref a.sp) (λi σ G=>∃ v2 v3:Option V,σ=[some (.ref A.p),some (.int b),v2,v3]/\Same H G/\i<=nearF st b) ⟨_,_,rfl,Same.refl _,Nat.zero_le _⟩ (λi σ G _ ⟨_,_,_,s,_⟩=>SqL.of (s _ _ R.ss)) ?_ ?_⟩
 .rintro i x t σ G hi ⟨v2,v3,rfl,s,hle⟩ ht
  rw [getElem?_map] at hi
  obtain ⟨a,ea,rfl⟩:∃ a,A.as[i]?=some a/\V.ref a.sp=x:=by
   cases e:A.as[i]? with
   | none=>rw [e] at hi; cases hi
   | some a=>rw [e] at hi; exact ⟨a,rfl,Option.some.inj hi⟩
  have hil:=(List.getElem?_eq_some_iff.mp ea).1
  obtain ⟨a',e1,e2,e3,B⟩:=R.at_ hil
  rw [ea] at e1; cases e1
  refine ⟨t,_,rfl,SqT.of Za,rfl,_,_,rfl,gN ⟨_,_,rfl,gN ⟨rfl,?_⟩⟩⟩
  try dsimp only
  have s2:=s.trans (Zg ht (.tup [.int (i:Int),.ref a.sp]))
  have B':=B.same s2
  obtain ⟨ds,h3⟩:=B'.sto.ob
  refine ⟨_,rfl,a.sp,ds,_,rfl,h3,sf_no ..,_,rfl,a,_,_,_,b,rfl,B',_,rfl,?_⟩
  by_cases m:b∈(st.at_ i).seq
  .refine ifT (decide_eq_true m) ⟨_,rfl,?_⟩
   have e:nearF st b=i:=by
    by_cases z:i<nearF st b
    .exact absurd m (Zdu z (by lia))
    .lia
   have q':=q _ s2
   rw [e] at q'
   exact q'
  .refine ifF (decide_eq_false m) ⟨_,_,rfl,s2,?_⟩
   by_cases z:i=nearF st b
   .exact absurd (z ▸ Zgn (st:=st) (b:=b) (by lia)) m
   .lia
 .rintro σ G ⟨v2,v3,rfl,s,hle⟩
  rw [length_map] at hle
  have e:nearF st b=A.as.length:=by have:=ZeU st b; lia
  have q':=q _ s
  rw [e] at q'
  exact ⟨_,rfl,A.p,_,dx,_,_,rfl,s _ _ h1,T.qa_,T.qk_,ZbM ..,q'⟩
def Zlc (K:W.Frag):Sp:=λvs H Q _=>∃ (A:TA) (g:Pln) (st:Stt) (os:OS) (n k:Nat) (b:Int) (lw:Addr) (ws:List Int),vs=[.ref A.p,.int (k:Int),.int b,.ref lw]/\StairsAt K H A g st os n/\k<=g.n/\b∈g.U/\H lw=some (.lst (ws.map V.int))/\¬ OW A os lw/\ws.length=g.size.toNat/\n<=800000/\Res K H A g os (goOn g b ws (g.n - k) k st) (n+5) (Q .non)
theorem ZeV (F:Fun K "go_on" "Stairs.go_on" ZbK f fd) (T:Txt K mg) (qw_:MDef P w K mg base (clsOf K "Store") "has" 2 Zbn (ZiP K)) (qp_:MDef P w K mg base (clsOf K "Stairs") "put" 3 Zbs (spPut K)) (qx_:MDef P w K mg base (clsOf K "Store") "freshen" 1 Zat (ZeK K)):FnOk P w K mg base CX0 4 f fd ZaK (Zlc K):=by
 refine F.ok sc_Stairs_go_on (λvs H Q E h=>?_) (λcdv A outer s0 H vs Q E hr h=>?_)
 .obtain ⟨A,g,st,os,n,k,b,lw,ws,rfl,_⟩:=h
  rfl
 obtain ⟨A,g,st,os,n,k,b,lw,ws,rfl,R,hk,bU,hlw,nO,lws,hn,q⟩:=h
 have nd:=sc_Stairs_go_on.nd
 refine ⟨_,(Zd (Zcj PassesOwn.never rfl (ZjE rfl T.q2_ (pc (pv 1) (pc (Zm (K:=K) rfl (pv 0) rfl) Zb))) (pgn 4 nd) (Zd (pst 5 nd (pe_ix (Zn (K:=K) rfl) (Zm (K:=K) rfl (pv 0) rfl) (pv 4) (λ_ _=>rfl)))
   (Zi (ps_if (Zab (Zk qw_ hr.m T.qc_ (pv 5) (pc (pv 2) Zb))) (Zd (Zp (Zk qp_ hr.m T.qa_ (pv 0) (pc (pv 4) (pc (pv 2) (pc (pv 3) Zb)))))
   (Zi (ps_if (Zab (Zm (K:=K) rfl (pv 5) rfl)) (Zd (Zp (Zk qx_ hr.m T.qc_ (pv 5) (pc (pv 2) Zb)))
   (Zi Zhv)) Zu))) Zu))))
   (Zi (Zp (Zk qp_ hr.m T.qa_ (pv 0) (pc (Zm (K:=K) rfl (pv 0) rfl) (pc (pv 2) (pc (pv 3) Zb))))))),?_⟩
 obtain ⟨dx,h1⟩:=R.ob
 have ln:=R.ln
 have l4:g.n<=4:=R.wf.l4
 refine ⟨_,rfl,_,rfl,A.p,_,dx,_,_,rfl,h1,T.qa_,T.qk_,ZbM ..,_,_,rfl,⟨by lia,by lia,by lia,by lia⟩,Zdc (lo:=(k:Int)) (n:=((A.as.length:Int) - (k:Int)).toNat) (λi σ G=>∃ (v4 v5:Option V) (st':Stt) (os':OS),σ=[some (.ref A.p),some (.int (k:Int)),some (.int b),some (.ref lw),v4,v5]/\k+i<=g.n/\StairsAt K G A g st' os' (n+i)/\Pst (OW A os) H G (OW A os')/\goOn g b ws (g.n - (k+i)) (k+i) st'=goOn g b ws (g.n - k) k st/\G lw=some (.lst (ws.map V.int))/\¬ OW A os' lw)
  ⟨_,_,st,os,rfl,hk,R,Pst.same (Same.refl _),rfl,hlw,nO⟩ ?_ ?_⟩
 .rintro i σ G hi ⟨v4,v5,st',os',rfl,hki,R1,p1,eg,hlw1,nO1⟩
  have en:((k:Int)+(i:Int))=((k+i:Nat):Int):=by lia
  rw [en]
  refine gN ?_
  try dsimp only
  obtain ⟨dx1,g1⟩:=R1.ob
  obtain ⟨a,e1,e2,e3,B⟩:=R1.at_ (k:=k+i) (by lia)
  obtain ⟨ds,h3⟩:=B.sto.ob
  have er:g.n - (k+i)=(g.n - (k+(i+1)))+1:=by lia
  rw [er,goOn] at eg
  refine ⟨_,rfl,A.p,_,dx1,_,_,rfl,g1,T.qa_,T.qe_,ZL ..,_,rfl,A.ss,_,_,_,rfl,rfl,SqL.of R1.ss,StairsAt.ix e1,gN ?_⟩
  try dsimp only
  refine ⟨_,rfl,a.sp,ds,_,rfl,h3,sf_no ..,_,rfl,a,_,_,_,b,rfl,B,_,rfl,?_⟩
  by_cases m:b∈(st'.at_ (k+i)).seq
  .rw [if_pos m] at eg
   refine ifT (decide_eq_true m) ⟨_,rfl,A.p,dx1,_,rfl,g1,tf_no ..,_,rfl,_,rfl,_,rfl,A,g,st',os',n+i,k+i,b,lw,ws,rfl,R1,hki,λ_=>m,bU,hlw1,nO1,lws,by lia,λG2 os2 R2 p2=>?_⟩
   obtain ⟨a2,e4,e5,e6,B2⟩:=R2.at_ (k:=k+i) (by lia)
   rw [e1] at e4; cases e4
   obtain ⟨d2,h4⟩:=B2.sto.ob
   obtain ⟨hlw2,nO2⟩:=p2.out hlw1 nO1
   refine ⟨_,rfl,a.sp,_,d2,_,_,rfl,h4,T.qc_,T.jb_,ZkS ..,_,rfl,?_⟩
   by_cases c:(g.cf (k+i)).late=true
   .rw [if_pos c] at eg
    refine ifT c ?_
    have m2:b∈((putS g (k+i) b ws st').at_ (k+i)).seq:=by rw [ZeS]; exact m
    obtain ⟨u1,u2,u3,u4,u5,u6⟩:=R2.bds (k:=k+i) (by lia)
    refine ⟨_,rfl,a.sp,d2,_,rfl,h4,sf_no ..,_,rfl,a,_,_,_,b,rfl,B2,m2,u1,λG3 B3 p3=>?_⟩
    obtain ⟨R3,p4⟩:=R2.deed e1 e2 B3 p3 u2 u3
    have R3:StairsAt K G3 A g (goOn g b ws (g.n - k) k st) (os2.set (k+i) (os2 (k+i))) (n+i+1):=by rw [← eg]; exact R3
    exact q _ _ (R3.le (by lia)) ((p1.trans p2).trans p4)
   .rw [if_neg c] at eg
    exact ifF (by simpa using c) ⟨_,_,_,os2,rfl,by lia,R2,p1.trans p2,eg,hlw2,nO2⟩
  .rw [if_neg m] at eg
   exact ifF (decide_eq_false m) ⟨_,_,st',os',rfl,by lia,R1.le (by lia),p1,eg,hlw1,nO1⟩
 .rintro σ G ⟨v4,v5,st',os',rfl,hki,R1,p1,eg,hlw1,nO1⟩
  have en:((A.as.length:Int) - (k:Int)).toNat=g.n - k:=by lia
  rw [en] at eg hki R1
  have ek:k+(g.n - k)=g.n:=by lia
  rw [ek,Nat.sub_self,goOn] at eg
  obtain ⟨dx1,g1⟩:=R1.ob
  refine ⟨_,rfl,A.p,dx1,_,rfl,g1,tf_no ..,_,rfl,A.p,_,dx1,_,_,rfl,g1,T.qa_,T.qk_,ZbM ..,_,rfl,_,rfl,A,g,st',os',_,g.n,b,lw,ws,by rw [ln]; rfl,R1,Nat.le_refl _,λh=>absurd h (Nat.lt_irrefl _),bU,hlw1,nO1,lws,by lia,λG2 os2 R2 p2=>?_⟩
  rw [eg] at R2
  exact q _ _ (R2.le (by lia)) (p1.trans p2)
def Zgo (K:W.Frag):Sp:=λvs H Q _=>∃ (A:TA) (g:Pln) (st:Stt) (os:OS) (n k:Nat) (b:Int),vs=[.ref A.p,.int (k:Int),.int b]/\StairsAt K H A g st os n/\k<g.n/\b∈(st.at_ k).seq/\n<=800000/\Res K H A g os (Zch g k b st) (n+5) (Q .non)
theorem Zei (F:Fun K "change" "Stairs.change" Zbv f fd) (T:Txt K mg) (qx_:MDef P w K mg base (clsOf K "Store") "freshen" 1 Zat (ZeK K)) (q3_:MDef P w K mg base (clsOf K "Stairs") "go_on" 4 ZaK (Zlc K)) (qj_:MDef P w K mg base (clsOf K "Store") "words_of" 3 ZK (Zdr K)):FnOk P w K mg base CX0 5 f fd Zax (Zgo K):=by
 refine F.ok sc_Stairs_change (λvs H Q E h=>?_) (λcdv A outer s0 H vs Q E hr h=>?_)
 .obtain ⟨A,g,st,os,n,k,b,rfl,_⟩:=h
  rfl
 obtain ⟨A,g,st,os,n,k,b,rfl,R,hk,hb,hn,q⟩:=h
 have nd:=sc_Stairs_change.nd
 refine ⟨_,(Zd (pst 3 nd (pe_ix (Zn (K:=K) rfl) (Zm (K:=K) rfl (pv 0) rfl) (pv 1) (λ_ _=>rfl)))
   (Zi (ps_if (Zab (Zm (K:=K) rfl (pv 3) rfl)) (Zi (Zp (Zk qx_ hr.m T.qc_ (pv 3) (pc (pv 2) Zb)))) (Zi (Zp (Zk q3_ hr.m T.qa_ (pv 0) (pc (pe_op ZF (pv 1) Zj) (pc (pv 2) (pc (Zk qj_ hr.m T.qc_ (pv 3) (pc (pv 2) Zb)) Zb))))))))),?_⟩
 obtain ⟨dx,h1⟩:=R.ob
 have ln:=R.ln
 obtain ⟨a,e1,e2,e3,B⟩:=R.at_ (k:=k) (by lia)
 obtain ⟨u1,u2,u3,u4,u5,u6⟩:=R.bds (k:=k) (by lia)
 obtain ⟨ds,h3⟩:=B.sto.ob
 unfold Zch at q
 refine ⟨_,rfl,A.p,_,dx,_,_,rfl,h1,T.qa_,T.qe_,ZL ..,_,rfl,A.ss,_,_,_,rfl,rfl,SqL.of R.ss,StairsAt.ix e1,gN ?_⟩
 try dsimp only
 refine ⟨_,rfl,a.sp,_,ds,_,_,rfl,h3,T.qc_,T.jb_,ZkS ..,_,rfl,?_⟩
 by_cases c:(g.cf k).late=true
 .rw [if_pos c] at q
  refine ifT c ⟨_,rfl,a.sp,ds,_,rfl,h3,sf_no ..,_,rfl,a,_,_,_,b,rfl,B,hb,u1,λG3 B3 p3=>?_⟩
  obtain ⟨R3,p4⟩:=R.deed e1 e2 B3 p3 u2 u3
  exact q _ _ (R3.le (by lia)) p4
 .rw [if_neg c] at q
  refine ifF (by simpa using c) ⟨_,rfl,A.p,dx,_,rfl,h1,tf_no ..,_,rfl,_,_,rfl,rfl,_,rfl,_,rfl,a.sp,ds,_,rfl,h3,sf_no ..,_,rfl,a,_,_,_,b,rfl,B,hb,λl hl=>?_⟩
  have sm:=Zg hl (.lst (((st.at_ k).wd b).map V.int))
  exact ⟨A,g,st,os,n,k+1,b,l,_,rfl,R.same sm,hk,(u2 b hb).1,Za,R.fresh hl,(u2 b hb).2,hn,λG2 os2 R2 p2=>q _ _ R2 ((Pst.same sm).trans p2)⟩
end
section
def Zld (K:W.Frag):Sp:=λvs H Q _=>∃ (A:TA) (g:Pln) (st:Stt) (os:OS) (n k:Nat) (b:Int),vs=[.ref A.p,.int (k:Int),.int b]/\StairsAt K H A g st os n/\k<g.n/\b∈(st.at_ k).seq/\n<=700000/\Res K H A g os (Zea g k b st) (n+10) (Q .non)
theorem Zda (F:Fun K "drive_out" "Stairs.drive_out" Zay f fd) (T:Txt K mg) (qf_:MDef P w K mg base (clsOf K "Stairs") "go_out" 5 ZM (ZeQ K)) (qw_:MDef P w K mg base (clsOf K "Store") "has" 2 Zbn (ZiP K)) (q3_:MDef P w K mg base (clsOf K "Stairs") "go_on" 4 ZaK (Zlc K)):FnOk P w K mg base CX0 6 f fd Zaz (Zld K):=by
 refine F.ok sc_Stairs_drive_out (λvs H Q E h=>?_) (λcdv A outer s0 H vs Q E hr h=>?_)
 .obtain ⟨A,g,st,os,n,k,b,rfl,_⟩:=h
  rfl
 obtain ⟨A,g,st,os,n,k,b,rfl,R,hk,hb,hn,q⟩:=h
 have nd:=sc_Stairs_drive_out.nd
 refine ⟨_,(Zd (Zby (Zk qf_ hr.m T.qa_ (pv 0) (pc (pv 1) (pc (pv 2) Zb))) (Zad (K:=K) (n:=2) rfl rfl (Zs (pgn 3 nd) (Zs (pgn 4 nd) Zac))))
   (Zd (ps_if (Zw op_eq (Zm (K:=K) rfl (pv 0) rfl) ZP (Zv _)) (Zi (Zcj PassesOwn.never rfl (ZgV rfl T.q2_ (pc (pe_op ZcL (pv 1) Zj) (pc (pe_un Zer Zj) (pc (pe_un Zer Zj) Zb)))) (pgn 5 nd) (Zi (ps_if (Zab (Zk qw_ hr.m T.qc_ (pe_ix (Zn (K:=K) rfl) (Zm (K:=K) rfl (pv 0) rfl) (pv 5) (λ_ _=>rfl)) (pc (pv 2) Zb))) (Zd (Zby (Zk qf_ hr.m T.qa_ (pv 0) (pc (pv 5) (pc (pv 2) Zb))) (Zad (K:=K) (n:=2) rfl rfl (Zs (pgn 3 nd) (Zs (pgn 6 nd) Zac))))
   (Zi (pst 4 nd (pe_or (pv 4) (Zfn (pv 6)))))) Zu)))) Zu)
   (Zi (ps_if (Zab (pv 4)) (Zi (Zp (Zk q3_ hr.m T.qa_ (pv 0) (pc (pe_op ZF (pv 1) Zj) (pc (pv 2) (pc (pv 3) Zb)))))) Zu)))),?_⟩
 obtain ⟨dx,h1⟩:=R.ob
 have ln:=R.ln
 have lS:=R.lS
 have l4:g.n<=4:=R.wf.l4
 obtain ⟨u1,u2,u3,u4,u5,u6⟩:=R.bds (k:=k) (by lia)
 obtain ⟨bU,bl⟩:=u2 b hb
 refine hide λu1 e1=>?_
 refine ⟨_,rfl,A.p,dx,_,rfl,h1,tf_no ..,_,rfl,_,rfl,A,g,st,os,n,k,b,rfl,R,hk,hb,by lia,λH1 os1 t l et el nl R1 p1=>⟨t,_,rfl,SqT.of et,rfl,_,_,rfl,gN ⟨_,_,rfl,gN ⟨rfl,?_⟩⟩⟩⟩
 subst e1
 try dsimp only
 refine cpI (λσ G=>∃ (v5 v6:Option V) (l:Addr) (os':OS),σ=[some (.ref A.p),some (.int (k:Int)),some (.int b),some (.ref l),some (.bl (drv1 g k b st).2.2),v5,v6]/\StairsAt K G A g (drv1 g k b st).1 os' (n+5)/\Pst (OW A os) H G (OW A os')/\G l=some (.lst ((drv1 g k b st).2.1.map V.int))/\¬ OW A os' l/\(drv1 g k b st).2.1.length=g.size.toNat) (λD' _ k'=>?_) ?_
 .obtain ⟨dx1,g1⟩:=R1.ob
  refine ⟨_,rfl,A.p,_,dx1,_,_,rfl,g1,T.qa_,T.v5_,ZkX ..,rfl,_,rfl,ZaD (λc=>?_) (λc=>?_)⟩
  .have c':g.kind = "within" := by injection c
   have ed:drv1 g k b st=outsS b k (goS k b st) ((st.at_ k).wd b) ((st.at_ k).fr b):=if_pos c'
   rw [ed] at k'
   refine ⟨_,rfl,_,_,rfl,rfl,_,rfl,_,rfl,_,_,rfl,⟨by lia,by lia,by lia,by lia⟩,Ziz (hi:=(k:Int) - 1) (n:=((k:Int) - 1 - -1).toNat) (λi σ G=>∃ (v5 v6:Option V) (l:Addr) (st':Stt) (os':OS) (ws:List Int) (fr:Bool),σ=[some (.ref A.p),some (.int (k:Int)),some (.int b),some (.ref l),some (.bl fr),v5,v6]/\i<=k/\StairsAt K G A g st' os' (n+1+i)/\Pst (OW A os) H G (OW A os')/\G l=some (.lst (ws.map V.int))/\¬ OW A os' l/\ws.length=g.size.toNat/\outsS b (k - i) st' ws fr=outsS b k (goS k b st) ((st.at_ k).wd b) ((st.at_ k).fr b))
    ⟨_,_,l,_,os1,_,_,rfl,Nat.zero_le _,R1,p1,el,nl,bl,rfl⟩ ?_ ?_⟩
   .rintro i σ G hi ⟨v5,v6,l,st',os',ws,fr,rfl,hik,R2,p2,el,nl,lw,eo⟩
    have hi':i<k:=by lia
    have en:((k:Int) - 1 - (i:Int))=((k - 1 - i:Nat):Int):=by lia
    rw [en]
    refine gN ?_
    try dsimp only
    obtain ⟨a,e1,e2,e3,B⟩:=R2.at_ (k:=k - 1 - i) (by lia)
    obtain ⟨w1,w2,w3,w4,w5,w6⟩:=R2.bds (k:=k - 1 - i) (by lia)
    obtain ⟨ds,h3⟩:=B.sto.ob
    obtain ⟨dx2,g2⟩:=R2.ob
    have ek:k - i=(k - 1 - i)+1:=by lia
    rw [ek,outsS] at eo
    refine ⟨_,rfl,A.p,_,dx2,_,_,rfl,g2,T.qa_,T.qe_,ZL ..,_,rfl,A.ss,_,_,_,rfl,rfl,SqL.of R2.ss,StairsAt.ix e1,a.sp,ds,_,rfl,h3,sf_no ..,_,rfl,a,_,_,_,b,rfl,B,_,rfl,?_⟩
    by_cases m:b∈(st'.at_ (k - 1 - i)).seq
    .rw [if_pos m] at eo
     refine ifT (decide_eq_true m) ⟨_,rfl,A.p,dx2,_,rfl,g2,tf_no ..,_,rfl,_,rfl,A,g,st',os',_,k - 1 - i,b,rfl,R2,by lia,m,by lia,λH3 os3 t3 l3 et3 el3 nl3 R3 p3=>⟨t3,_,rfl,SqT.of et3,rfl,_,_,rfl,gN ⟨_,_,rfl,gN ⟨rfl,?_⟩⟩⟩⟩
     try dsimp only
     have fin:∃ (v5 v6:Option V) (l:Addr) (st'':Stt) (os':OS) (ws:List Int) (fr':Bool),[some (.ref A.p),some (.int (k:Int)),some (.int b),some (.ref l3),some (.bl (fr || (st'.at_ (k - 1 - i)).fr b)),some (.int ((k - 1 - i:Nat):Int)),some (.bl ((st'.at_ (k - 1 - i)).fr b))]=[some (V.ref A.p),some (.int (k:Int)),some (.int b),some (.ref l),some (.bl fr'),v5,v6]/\i+1<=k/\StairsAt K H3 A g st'' os' (n+1+(i+1))/\Pst (OW A os) H H3 (OW A os')/\H3 l=some (.lst (ws.map V.int))/\¬ OW A os' l/\ws.length=g.size.toNat/\outsS b (k - (i+1)) st'' ws fr'=outsS b k (goS k b st) ((st.at_ k).wd b) ((st.at_ k).fr b) :=
      ⟨_,_,l3,_,os3,_,_,rfl,by lia,R3,p2.trans p3,el3,nl3,(w2 b m).2,by rw [show k - (i+1)=k - 1 - i by lia]; exact eo⟩
     cases fr with
     | true=>exact ⟨_,rfl,_,rfl,ifT rfl (gN fin)⟩
     | false=>exact ⟨_,rfl,_,rfl,ifF rfl ⟨_,rfl,gN fin⟩⟩
    .rw [if_neg m] at eo
     exact ifF (decide_eq_false m) ⟨_,_,l,st',os',ws,fr,rfl,by lia,R2.le (by lia),p2,el,nl,lw,by rw [show k - (i+1)=k - 1 - i by lia]; exact eo⟩
   .rintro σ G ⟨v5,v6,l,st',os',ws,fr,rfl,hik,R2,p2,el,nl,lw,eo⟩
    have en:((k:Int) - 1 - -1).toNat=k:=by lia
    rw [en,Nat.sub_self,outsS] at eo
    rw [en] at R2
    rw [← eo] at k'
    exact k' _ _ ⟨_,_,l,os',rfl,R2.le (by lia),p2,el,nl,lw⟩
  .have c':¬ g.kind = "within" := λz=>c (by rw [z])
   have ed:drv1 g k b st=(goS k b st,(st.at_ k).wd b,(st.at_ k).fr b):=if_neg c'
   rw [ed] at k'
   exact k' _ _ ⟨_,_,l,os1,rfl,R1.le (by lia),p1,el,nl,bl⟩
 rintro _ G ⟨v5,v6,l2,os2,rfl,R2,p2,el2,nl2,lw2⟩
 unfold Zea at q
 generalize drv1 g k b st=dq at *
 obtain ⟨st2,ws,fr⟩:=dq
 dsimp only at *
 cases fr with
 | true =>
  rw [if_pos rfl] at q
  obtain ⟨dx2,g2⟩:=R2.ob
  exact ⟨_,rfl,_,rfl,ifT rfl ⟨_,rfl,A.p,dx2,_,rfl,g2,tf_no ..,_,rfl,_,_,rfl,rfl,_,rfl,_,rfl,A,g,st2,os2,_,k+1,b,l2,ws,rfl,R2,hk,bU,el2,nl2,lw2,by lia,λG3 os3 R3 p3=>q _ _ R3 (p2.trans p3)⟩⟩
 | false =>
  rw [if_neg (by decide)] at q
  exact ⟨_,rfl,_,rfl,ifF rfl (q _ _ (R2.le (by lia)) p2)⟩
def ZmK (K:W.Frag):Sp:=λvs H Q _=>∃ (A:TA) (g:Pln) (st:Stt) (os:OS) (n k:Nat) (b:Int),vs=[.ref A.p,.int (k:Int),.int b]/\StairsAt K H A g st os n/\k=nearF st b/\b∈g.U/\n<=600000/\(b∈((Zho g k b st).at_ 0).seq->Res K H A g os (Zho g k b st) (n+50) (Q .non))
theorem ZcJ (F:Fun K "fetch_down" "Stairs.fetch_down" Zak f fd) (T:Txt K mg) (q4_:MDef P w K mg base (clsOf K "Stairs") "use_in" 4 ZaH (ZhS K)) (q8_:MDef P w K mg base (clsOf K "Stairs") "words" 4 Zbb (Zgh K)) (qm_:MDef P w K mg base (clsOf K "Stairs") "leaver" 4 Zah (ZiU K)) (vi_:MDef P w K mg base (clsOf K "Stairs") "drive_out" 6 Zaz (Zld K)) (qy_:MDef P w K mg base (clsOf K "Stairs") "come_in" 6 Zaw (Zgi K)):FnOk P w K mg base CX0 7 f fd Zal (ZmK K):=by
 refine F.ok sc_Stairs_fetch_down (λvs H Q E h=>?_) (λcdv A outer s0 H vs Q E hr h=>?_)
 .obtain ⟨A,g,st,os,n,k,b,rfl,_⟩:=h
  rfl
 obtain ⟨A,g,st,os,n,k,b,rfl,R,hk,bU,hn,q⟩:=h
 have nd:=sc_Stairs_fetch_down.nd
 refine ⟨_,(Zd (ps_if (Zw op_lt (pv 1) (Zm (K:=K) rfl (pv 0) rfl) (Zv _)) (Zi (Zp (Zk q4_ hr.m T.qa_ (pv 0) (pc (pv 1) (pc (pv 2) Zb))))) Zu)
   (Zd (pst 3 nd (Zk q8_ hr.m T.qa_ (pv 0) (pc (pv 1) (pc (pv 2) Zb))))
   (Zi (Zcj PassesOwn.never rfl (ZgV rfl T.q2_ (pc (pe_op ZcL (pv 1) Zj) (pc (pe_un Zer Zj) (pc (pe_un Zer Zj) Zb)))) (pgn 4 nd) (Zd (pst 5 nd (Zk qm_ hr.m T.qa_ (pv 0) (pc (pv 4) (pc (pv 2) Zb))))
   (Zd (ps_if (Zgs (ZfA (pv 5))) (Zi (Zp (Zk vi_ hr.m T.qa_ (pv 0) (pc (pv 4) (pc (pv 5) Zb))))) Zu)
   (Zi (Zp (Zk qy_ hr.m T.qa_ (pv 0) (pc (pv 4) (pc (pv 2) (pc (pv 3) Zb)))))))))))),?_⟩
 have ln:=R.ln
 have lS:=R.lS
 have l4:g.n<=4:=R.wf.l4
 obtain ⟨b0,b1⟩:=R.wf.ub b bU
 have hkl:k<=g.n:=by rw [hk]; have:=ZeU st b; lia
 have inb:k<g.n->b∈(st.at_ k).seq:=λh=>by rw [hk]; exact Zgn (by lia)
 refine cpI (λσ G=>σ=[some (.ref A.p),some (.int (k:Int)),some (.int b),none,none,none]/\∃ os',StairsAt K G A g (usedS g k b st) os' n/\Pst (OW A os) H G (OW A os')) (λD' _ k'=>?_) ?_
 .obtain ⟨dx,h1⟩:=R.ob
  refine ⟨_,rfl,_,rfl,A.p,_,dx,_,_,rfl,h1,T.qa_,T.qk_,ZbM ..,_,_,rfl,rfl,_,rfl,?_⟩
  by_cases c:k<g.n
  .have eu:usedS g k b st=st.set k (useS (g.cf k) (st.at_ k) b):=if_pos c
   rw [eu] at k'
   exact ifT (decide_eq_true (by lia)) ⟨_,rfl,A.p,dx,_,rfl,h1,tf_no ..,_,rfl,_,rfl,A,g,st,os,n,k,b,rfl,R,c,inb c,λH1 os1 R1 p1=>k' _ _ ⟨rfl,os1,R1,p1⟩⟩
  .have eu:usedS g k b st=st:=if_neg c
   rw [eu] at k'
   exact ifF (decide_eq_false (by lia)) (k' _ _ ⟨rfl,os,R,Pst.same (Same.refl _)⟩)
 rintro _ G ⟨rfl,os0,R0,p0⟩
 have sq0:∀ j,j≠k->((usedS g k b st).at_ j).seq=(st.at_ j).seq:=λj hj=>by
  unfold usedS
  split
  .rw [ZcZ,if_neg (λz=>hj z.1)]
  .rfl
 have inb0:k<g.n->b∈((usedS g k b st).at_ k).seq:=λh=>by
  have e:usedS g k b st=st.set k (useS (g.cf k) (st.at_ k) b):=if_pos h
  rw [e,Stt.at_set (by lia),if_pos rfl]
  exact (Zbd (inb h)).mem_iff.mpr (inb h)
 have nb:∀ j,j<k->b∉((usedS g k b st).at_ j).seq:=λj hj=>by
  rw [sq0 j (by lia)]
  exact Zdu (by lia) (by lia)
 unfold Zho at q
 generalize usedS g k b st=st0 at *
 obtain ⟨dx,h1⟩:=R0.ob
 refine hide λu1 e1=>?_
 refine ⟨_,rfl,A.p,dx,_,rfl,h1,tf_no ..,_,rfl,_,rfl,A,g,st0,os0,n,k,b,rfl,R0,hkl,inb0,b0,b1,λlw H1 hlw s1 ew=>gN ?_⟩
 subst e1
 try dsimp only
 have nO:=R0.fresh hlw
 have lws:(ZeN g st0 k b).length=g.size.toNat:=by
  unfold ZeN
  split
  .unfold memW; rw [length_map,length_range]
  .exact ((R0.bds (k:=k) (by lia)).2.1 b (inb0 (by lia))).2
 generalize ZeN g st0 k b=ws at *
 have R1:=R0.same s1
 refine ⟨_,rfl,_,_,rfl,rfl,_,rfl,_,rfl,_,_,rfl,⟨by lia,by lia,by lia,by lia⟩,Ziz (hi:=(k:Int) - 1) (n:=((k:Int) - 1 - -1).toNat) (λi σ G'=>∃ (v4 v5:Option V) (st':Stt) (os':OS),σ=[some (.ref A.p),some (.int (k:Int)),some (.int b),some (.ref lw),v4,v5]/\i<=k/\StairsAt K G' A g st' os' (n+11 * i)/\Pst (OW A os) H G' (OW A os')/\downS g b ws (k - i) st'=downS g b ws k st0/\(∀ j,j<k - i->b∉(st'.at_ j).seq)/\(k - i<g.n->b∈(st'.at_ (k - i)).seq)/\G' lw=some (.lst (ws.map V.int))/\¬ OW A os' lw)
  ⟨_,_,st0,os0,rfl,Nat.zero_le _,R1,p0.trans (Pst.same s1),rfl,nb,inb0,ew,nO⟩ ?_ ?_⟩
 .rintro i σ G' hi ⟨v4,v5,st',os',rfl,hik,R2,p2,ed,nb2,inb2,ew2,nO2⟩
  have hi':i<k:=by lia
  have en:((k:Int) - 1 - (i:Int))=((k - 1 - i:Nat):Int):=by lia
  rw [en]
  refine gN ?_
  try dsimp only
  have hlt:k - 1 - i<g.n:=by lia
  have lS2:=R2.lS
  have hbn:b∉(st'.at_ (k - 1 - i)).seq:=nb2 (k - 1 - i) (by lia)
  obtain ⟨w1,w2,w3,w4,w5,w6⟩:=R2.bds (k:=k - 1 - i) (by lia)
  obtain ⟨dx2,g2⟩:=R2.ob
  have edn:k - i=(k - 1 - i)+1:=by lia
  rw [edn,downS] at ed
  refine hide λu1 e1=>?_
  refine ⟨_,rfl,A.p,dx2,_,rfl,g2,tf_no ..,_,rfl,_,rfl,A,g,st',os',_,k - 1 - i,b,rfl,R2,hlt,λH3 s3 gp=>gN ?_⟩
  subst e1
  try dsimp only
  have R3:=R2.same s3
  have ew3:=s3 _ _ ew2
  obtain ⟨dx3,g3⟩:=R3.ob
  refine cpI (λσ' G3=>σ'=[some (.ref A.p),some (.int (k:Int)),some (.int b),some (.ref lw),some (.int ((k - 1 - i:Nat):Int)),some (optV (goneF (g.cf (k - 1 - i)) (st'.at_ (k - 1 - i)) b))]/\∃ os1,StairsAt K G3 A g (ZaB g (k - 1 - i) b st') os1 (n+11 * i+10)/\Pst (OW A os') H3 G3 (OW A os1)/\b∉((ZaB g (k - 1 - i) b st').at_ (k - 1 - i)).seq/\((Zl (g.cf (k - 1 - i)).sh (b % (g.cf (k - 1 - i)).sh) ((ZaB g (k - 1 - i) b st').at_ (k - 1 - i)).seq).length:Int)<(g.cf (k - 1 - i)).pl/\∀ j,j<k - 1 - i->b∉((ZaB g (k - 1 - i) b st').at_ j).seq) (λD' _ k'=>?_) ?_
  .cases eg:goneF (g.cf (k - 1 - i)) (st'.at_ (k - 1 - i)) b with
   | none =>
    have el:ZaB g (k - 1 - i) b st'=st':=by unfold ZaB; rw [eg]
    rw [eg] at gp k'
    rw [el] at k'
    exact ⟨_,rfl,_,rfl,ifF rfl (k' _ _ ⟨rfl,os',R3.le (by lia),Pst.same (Same.refl _),hbn,Zlb gp,λj hj=>nb2 j (by lia)⟩)⟩
   | some go =>
    have el:ZaB g (k - 1 - i) b st'=Zea g (k - 1 - i) go st':=by unfold ZaB; rw [eg]
    rw [eg] at gp k'
    rw [el] at k'
    obtain ⟨m1,m2,m3⟩:=ZbP eg
    have sq:=λj=>Zgl (g:=g) (k:=k - 1 - i) (b:=go) (st:=st') (j:=j) (by lia)
    refine ⟨_,rfl,_,rfl,ifT rfl ⟨_,rfl,A.p,dx3,_,rfl,g3,tf_no ..,_,rfl,_,rfl,A,g,st',os',_,k - 1 - i,go,rfl,R3,hlt,m1,by lia,λH4 os4 R4 p4=>k' _ _ ⟨rfl,os4,R4,p4,?_,?_,λj hj=>?_⟩⟩⟩
    .rw [sq,if_pos (.inl rfl)]
     exact λm=>hbn (mem_of_mem_erase m)
    .rw [sq,if_pos (.inl rfl)]
     exact Zja w3 m1 m2
    .rw [sq]
     have:=nb2 j (by lia)
     split
     .exact λm=>this (mem_of_mem_erase m)
     .exact this
  rintro _ G3 ⟨rfl,os4,R4,p4,hb4,hsh,nb4⟩
  obtain ⟨ew4,nO4⟩:=p4.out ew3 nO2
  obtain ⟨dx4,g4⟩:=R4.ob
  have lS4:=R4.lS
  refine ⟨_,rfl,A.p,dx4,_,rfl,g4,tf_no ..,_,rfl,_,rfl,_,rfl,A,g,_,os4,_,k - 1 - i,b,lw,ws,rfl,R4,hlt,hb4,bU,hsh,ew4,nO4,lws,by lia,λH5 os5 R5 p5=>?_⟩
  obtain ⟨ew5,nO5⟩:=p5.out ew4 nO4
  have sq:=λj=>ZeT (k:=k - 1 - i) (b:=b) (ws:=ws) (st:=ZaB g (k - 1 - i) b st') (j:=j) (by lia)
  refine ⟨_,_,_,os5,rfl,by lia,R5.le (by lia),((p2.trans (Pst.same s3)).trans p4).trans p5,?_,λj hj=>?_,λ_=>?_,ew5,nO5⟩
  .rw [show k - (i+1)=k - 1 - i by lia]
   exact ed
  .rw [sq,if_neg (by lia)]
   exact nb4 j (by lia)
  .rw [show k - (i+1)=k - 1 - i by lia,sq,if_pos rfl]
   exact mem_append_right _ (List.mem_singleton.mpr rfl)
 .rintro σ G' ⟨v4,v5,st',os',rfl,hik,R2,p2,ed,nb2,inb2,ew2,nO2⟩
  have en:((k:Int) - 1 - -1).toNat=k:=by lia
  have l1:1<=g.n:=R.wf.l1
  rw [en,Nat.sub_self] at ed inb2
  rw [en] at R2
  have ed:st'=downS g b ws k st0:=ed
  rw [← ed] at q
  exact q (inb2 (by lia)) _ _ (R2.le (by lia)) p2
end
def Disj (st:Stt):Prop:=∀ i j,i<st.rm.length->j<st.rm.length->i≠j->∀ x∈(st.at_ i).seq,x∉(st.at_ j).seq
def Nowh (st:Stt) (b:Int):Prop:=∀ j,j<st.rm.length->b∉(st.at_ j).seq
theorem ZeW {g:Pln} {k:Nat} {b:Int} {ws:List Int} {fr:Bool} {st:Stt}:(comeA g k b ws fr st).rm.length=st.rm.length:=by
 have go:∀ {r k:Nat} {st:Stt} {ws:List Int},(goOn g b ws r k st).rm.length=st.rm.length:=λ{r}=>by
  induction r with
  | zero=>intro k st ws; exact Zgk
  | succ r ih =>
   intro k st ws
   rw [goOn]
   split
   .split
    .exact set_len.trans Zgk
    .exact ih.trans Zgk
   .exact ih
 unfold comeA Zch
 split
 .split
  .exact set_len.trans set_len
  .exact go.trans set_len
 .exact set_len
theorem Zle {st st':Stt} {k:Nat} {b:Int} (d:Disj st) (h:Nowh st b) (l:st'.rm.length=st.rm.length) (sq:∀ j,(st'.at_ j).seq=if j=k then (st.at_ j).seq++[b] else (st.at_ j).seq):Disj st':=λi j hi hj hij x hx hx'=>by
 rw [l] at hi hj
 rw [sq] at hx hx'
 by_cases z:i=k
 .rw [if_pos z] at hx
  rw [if_neg (by lia)] at hx'
  rcases List.mem_append.mp hx with m | m
  .exact d i j hi hj hij x m hx'
  .exact h j hj (List.mem_singleton.mp m ▸ hx')
 .rw [if_neg z] at hx
  by_cases y:j=k
  .rw [if_pos y] at hx'
   rcases List.mem_append.mp hx' with m | m
   .exact d i j hi hj hij x hx m
   .exact h i hi (List.mem_singleton.mp m ▸ hx)
  .rw [if_neg y] at hx'
   exact d i j hi hj hij x hx hx'
theorem Zjb {st:Stt} {k:Nat} {b:Int} (d:Disj st) (hk:k<st.rm.length) (nn:(st.at_ k).seq.Nodup) (hb:b∈(st.at_ k).seq):Disj (goS k b st)/\Nowh (goS k b st) b:=by
 have sq:=λj=>go_sq (b:=b) (j:=j) hk
 refine ⟨λi j hi hj hij x hx hx'=>?_,λj hj m=>?_⟩
 .rw [Zec] at hi hj
  rw [sq] at hx hx'
  refine d i j hi hj hij x ?_ ?_
  .split at hx
   .exact mem_of_mem_erase hx
   .exact hx
  .split at hx'
   .exact mem_of_mem_erase hx'
   .exact hx'
 .rw [Zec] at hj
  rw [sq] at m
  split at m
  .rename_i z
   rw [z] at m
   exact ((List.Nodup.mem_erase_iff nn).mp m).1 rfl
  .rename_i z
   exact d k j hk hj (λy=>z y.symm) b hb m
section
def ZhV (K:W.Frag):Sp:=λvs H Q _=>∃ (A:TA) (g:Pln) (st:Stt) (os:OS) (n k:Nat) (b:Int) (lw:Addr) (ws:List Int) (fr:Bool),vs=[.ref A.p,.int (k:Int),.int b,.ref lw,.bl fr]/\StairsAt K H A g st os n/\k<g.n/\b∉(st.at_ k).seq/\b∈g.U/\((Zl (g.cf k).sh (b % (g.cf k).sh) (st.at_ k).seq).length:Int)<(g.cf k).pl/\H lw=some (.lst (ws.map V.int))/\¬ OW A os lw/\ws.length=g.size.toNat/\n<=700000/\Res K H A g os (comeA g k b ws fr st) (n+6) (Q .non)
theorem ZcK (F:Fun K "come_apart" "Stairs.come_apart" Zam f fd) (T:Txt K mg) (qy_:MDef P w K mg base (clsOf K "Stairs") "come_in" 6 Zaw (Zgi K)) (qz_:MDef P w K mg base (clsOf K "Stairs") "change" 5 Zax (Zgo K)):FnOk P w K mg base CX0 7 f fd ZI (ZhV K):=by
 refine F.ok sc_Stairs_come_apart (λvs H Q E h=>?_) (λcdv A outer s0 H vs Q E hr h=>?_)
 .obtain ⟨A,g,st,os,n,k,b,lw,ws,fr,rfl,_⟩:=h
  rfl
 obtain ⟨A,g,st,os,n,k,b,lw,ws,fr,rfl,R,hk,hb,bU,hsh,hlw,nO,lws,hn,q⟩:=h
 have nd:=sc_Stairs_come_apart.nd
 refine ⟨_,(Zd (Zp (Zk qy_ hr.m T.qa_ (pv 0) (pc (pv 1) (pc (pv 2) (pc (pv 3) Zb)))))
   (Zi (ps_if (Zab (pv 4)) (Zi (Zp (Zk qz_ hr.m T.qa_ (pv 0) (pc (pv 1) (pc (pv 2) Zb))))) Zu))),?_⟩
 obtain ⟨dx,h1⟩:=R.ob
 have ln:=R.ln
 have lS:=R.lS
 refine ⟨_,rfl,A.p,dx,_,rfl,h1,tf_no ..,_,rfl,_,rfl,_,rfl,A,g,st,os,n,k,b,lw,ws,rfl,R,hk,hb,bU,hsh,hlw,nO,lws,by lia,λH1 os1 R1 p1=>?_⟩
 unfold comeA at q
 cases fr with
 | true =>
  rw [if_pos rfl] at q
  obtain ⟨dx1,g1⟩:=R1.ob
  exact ⟨_,rfl,_,rfl,ifT rfl ⟨_,rfl,A.p,dx1,_,rfl,g1,tf_no ..,_,rfl,_,rfl,A,g,_,os1,_,k,b,rfl,R1,hk,by rw [ZeT (by lia),if_pos rfl]; exact mem_append_right _ (List.mem_singleton.mpr rfl),by lia,λH2 os2 R2 p2=>q _ _ R2 (p1.trans p2)⟩⟩
 | false =>
  rw [if_neg (by decide)] at q
  exact ⟨_,rfl,_,rfl,ifF rfl (q _ _ (R1.le (by lia)) p1)⟩
def Zjc (K:W.Frag) (r:Nat):Sp:=λvs H Q _=>∃ (A:TA) (g:Pln) (st:Stt) (os:OS) (n k:Nat) (b:Int) (lw:Addr) (ws:List Int) (fr:Bool),vs=[.ref A.p,.int (k:Int),.int b,.ref lw,.bl fr]/\StairsAt K H A g st os n/\k+r=g.n/\Nowh st b/\Disj st/\b∈g.U/\H lw=some (.lst (ws.map V.int))/\¬ OW A os lw/\ws.length=g.size.toNat/\n+7 * r<=600000/\(Disj (pushS g r k b ws fr st)->(0<r->b∈((pushS g r k b ws fr st).at_ k).seq)->(∀ j,j<k->((pushS g r k b ws fr st).at_ j).seq=(st.at_ j).seq)->Res K H A g os (pushS g r k b ws fr st) (n+7 * r+1) (Q .non))
def ZnK:Sp:=λ_ _ _ _=>False
theorem ZcN {r:Nat} {sp0:Sp} (hsp:∀ m,r=m+1->sp0=Zjc K m) (F:Fun K "push" "Stairs.push" ZH f fd) (T:Txt K mg) (qp_:MDef P w K mg base (clsOf K "Stairs") "put" 3 Zbs (spPut K)) (qm_:MDef P w K mg base (clsOf K "Stairs") "leaver" 4 Zah (ZiU K)) (qh_:MDef P w K mg base (clsOf K "Stairs") "come_apart" 7 ZI (ZhV K)) (qf_:MDef P w K mg base (clsOf K "Stairs") "go_out" 5 ZM (ZeQ K)) (q9_:MDef P w K mg base (clsOf K "Stairs") "push" (r+7) ZC sp0):FnOk P w K mg base CX0 (r+8) f fd ZC (Zjc K r):=by
 refine F.ok sc_Stairs_push (λvs H Q E h=>?_) (λcdv A outer s0 H vs Q E hr h=>?_)
 .obtain ⟨A,g,st,os,n,k,b,lw,ws,fr,rfl,_⟩:=h
  rfl
 obtain ⟨A,g,st,os,n,k,b,lw,ws,fr,rfl,R,hk,hb,dj,bU,hlw,nO,lws,hn,q⟩:=h
 have nd:=sc_Stairs_push.nd
 refine ⟨_,(Zd (ps_if (Zw op_eq (pv 1) (Zm (K:=K) rfl (pv 0) rfl) (Zv _)) (Zd (ps_if (Zab (pv 4)) (Zi (Zp (Zk qp_ hr.m T.qa_ (pv 0) (pc (pv 1) (pc (pv 2) (pc (pv 3) Zb)))))) Zu)
   (Zi Zhv)) Zu)
   (Zd (pst 5 nd (Zk qm_ hr.m T.qa_ (pv 0) (pc (pv 1) (pc (pv 2) Zb))))
   (Zd (ps_if (Zgs (Zmr (pv 5))) (Zd (Zp (Zk qh_ hr.m T.qa_ (pv 0) (pc (pv 1) (pc (pv 2) (pc (pv 3) (pc (pv 4) Zb))))))
   (Zi Zhv)) Zu)
   (Zd (Zby (Zk qf_ hr.m T.qa_ (pv 0) (pc (pv 1) (pc (pv 5) Zb))) (Zad (K:=K) (n:=2) rfl rfl (Zs (pgn 6 nd) (Zs (pgn 7 nd) Zac))))
   (Zd (Zp (Zk qh_ hr.m T.qa_ (pv 0) (pc (pv 1) (pc (pv 2) (pc (pv 3) (pc (pv 4) Zb))))))
   (Zi (Zp (Zk q9_ hr.m T.qa_ (pv 0) (pc (pe_op ZF (pv 1) Zj) (pc (pv 5) (pc (pv 6) (pc (pv 7) Zb)))))))))))),?_⟩
 obtain ⟨dx,h1⟩:=R.ob
 have ln:=R.ln
 have lS:=R.lS
 cases r with
 | zero =>
  have ek:k=g.n:=by lia
  refine ⟨_,rfl,_,rfl,A.p,_,dx,_,_,rfl,h1,T.qa_,T.qk_,ZbM ..,rfl,_,rfl,ZdG (λe=>?_) (λe=>absurd (show (k:Int)=(A.as.length:Int) by lia) e)⟩
  rw [pushS] at q
  cases fr with
  | true =>
   rw [if_pos rfl] at q
   refine ⟨_,rfl,_,rfl,ifT rfl ⟨_,rfl,A.p,dx,_,rfl,h1,tf_no ..,_,rfl,_,rfl,_,rfl,A,g,st,os,n,k,b,lw,ws,rfl,R,by lia,(λh=>absurd h (by lia)),bU,hlw,nO,lws,by lia,λH2 os2 R2 p2=>q (λi j hi hj hij x=>?_) (λh=>absurd h (Nat.lt_irrefl _)) (λj _=>ZeS) _ _ (R2.le (by lia)) p2⟩⟩
   rw [ZeS,ZeS]
   rw [Zgk] at hi hj
   exact dj i j hi hj hij x
  | false =>
   rw [if_neg (by decide)] at q
   exact ⟨_,rfl,_,rfl,ifF rfl (q dj (λh=>absurd h (Nat.lt_irrefl _)) (λ_ _=>rfl) _ _ (R.le (by lia)) (Pst.same (Same.refl _)))⟩
 | succ r =>
  have hkl:k<g.n:=by lia
  obtain ⟨u1,u2,u3,u4,u5,u6⟩:=R.bds (k:=k) (by lia)
  refine ⟨_,rfl,_,rfl,A.p,_,dx,_,_,rfl,h1,T.qa_,T.qk_,ZbM ..,rfl,_,rfl,ZdG (λe=>absurd e (by lia)) (λe=>?_)⟩
  dsimp only [tNext]
  refine hide λu1 eu=>?_
  refine ⟨_,rfl,A.p,dx,_,rfl,h1,tf_no ..,_,rfl,_,rfl,A,g,st,os,n,k,b,rfl,R,hkl,λH1 s1 gp=>gN ?_⟩
  subst eu
  try dsimp only
  have R1:=R.same s1
  have hlw1:=s1 _ _ hlw
  obtain ⟨dx1,h2⟩:=R1.ob
  have hbs:=hb k (by lia)
  rw [pushS] at q
  cases eg:goneF (g.cf k) (st.at_ k) b with
  | none =>
   rw [eg] at gp q
   dsimp only at q
   have sq:=λj=>Zgm (g:=g) (k:=k) (b:=b) (ws:=ws) (fr:=fr) (st:=st) (j:=j) (by lia)
   refine ⟨_,rfl,_,rfl,ifT rfl ⟨_,rfl,A.p,dx1,_,rfl,h2,tf_no ..,_,rfl,_,rfl,_,rfl,_,rfl,A,g,st,os,n,k,b,lw,ws,fr,rfl,R1,hkl,hbs,bU,Zlb gp,hlw1,nO,lws,by lia,λH2 os2 R2 p2=>?_⟩⟩
   exact q (Zle dj hb ZeW sq) (λ_=>by rw [sq,if_pos rfl]; exact mem_append_right _ (List.mem_singleton.mpr rfl)) (λj hj=>by rw [sq,if_neg (by lia)]) _ _ (R2.le (by lia)) ((Pst.same s1).trans p2)
  | some go =>
   rw [eg] at gp q
   dsimp only at q
   obtain ⟨m1,m2,m3⟩:=ZbP eg
   refine ⟨_,rfl,_,rfl,ifF rfl ?_⟩
   dsimp only [tNext]
   refine hide λu1 eu=>?_
   refine ⟨_,rfl,A.p,dx1,_,rfl,h2,tf_no ..,_,rfl,_,rfl,A,g,st,os,n,k,go,rfl,R1,hkl,m1,by lia,λH2 os2 t l et el nl R2 p2=>⟨t,_,rfl,SqT.of et,rfl,_,_,rfl,gN ⟨_,_,rfl,gN ⟨rfl,?_⟩⟩⟩⟩
   subst eu
   try dsimp only
   obtain ⟨hlw2,nO2⟩:=p2.out hlw1 nO
   obtain ⟨dx2,h3⟩:=R2.ob
   obtain ⟨d2,nw2⟩:=Zjb dj (by lia) u6 m1
   have sg:=λj=>go_sq (b:=go) (j:=j) (st:=st) (k:=k) (by lia)
   have sgk:((goS k go st).at_ k).seq=(st.at_ k).seq.erase go:=by rw [sg,if_pos rfl]
   have nb2:Nowh (goS k go st) b:=λj hj m=>by
    rw [Zec] at hj
    rw [sg] at m
    split at m
    .exact hb j hj (mem_of_mem_erase m)
    .exact hb j hj m
   refine ⟨_,rfl,A.p,dx2,_,rfl,h3,tf_no ..,_,rfl,_,rfl,_,rfl,_,rfl,A,g,_,os2,_,k,b,lw,ws,fr,rfl,R2,hkl,nb2 k (by rw [Zec]; lia),bU,by rw [sgk]; exact Zja u3 m1 m2,hlw2,nO2,lws,by lia,λH3 os3 R3 p3=>?_⟩
   obtain ⟨el3,nl3⟩:=p3.out el nl
   obtain ⟨dx3,h4⟩:=R3.ob
   have sq:=λj=>Zgm (g:=g) (k:=k) (b:=b) (ws:=ws) (fr:=fr) (st:=goS k go st) (j:=j) (by rw [Zec]; lia)
   have ne:go≠b:=λz=>hbs (z ▸ m1)
   have d3:=Zle d2 nb2 (ZeW (g:=g) (k:=k) (b:=b) (ws:=ws) (fr:=fr)) sq
   have nw3:Nowh (comeA g k b ws fr (goS k go st)) go:=λj hj m=>by
    rw [ZeW] at hj
    rw [sq] at m
    split at m
    .rcases List.mem_append.mp m with m | m
     .exact nw2 j hj m
     .exact ne (List.mem_singleton.mp m)
    .exact nw2 j hj m
   have e0:=hsp r rfl
   subst e0
   refine ⟨_,rfl,A.p,dx3,_,rfl,h4,tf_no ..,_,rfl,_,_,rfl,rfl,_,rfl,_,rfl,_,rfl,A,g,_,os3,_,k+1,go,l,_,_,rfl,R3,by lia,nw3,d3,(u2 go m1).1,el3,nl3,(u2 go m1).2,by lia,λz1 z2 z3 H4 os4 R4 p4=>?_⟩
   refine q z1 (λ_=>?_) (λj hj=>?_) _ _ (R4.le (by lia)) ((((Pst.same s1).trans p2).trans p3).trans p4)
   .rw [z3 k (by lia),sq,if_pos rfl]
    exact mem_append_right _ (List.mem_singleton.mpr rfl)
   .rw [z3 j (by lia),sq,if_neg (by lia),sg,if_neg (by lia)]
theorem Zcy (F:Fun K "push" "Stairs.push" ZH f fd) (bi:Binds K fd ZC []) (m:Meth K (clsOf K "Stairs") "push" f) (T:Txt K mg) (qp_:MDef P w K mg base (clsOf K "Stairs") "put" 3 Zbs (spPut K)) (qm_:MDef P w K mg base (clsOf K "Stairs") "leaver" 4 Zah (ZiU K)) (qh_:MDef P w K mg base (clsOf K "Stairs") "come_apart" 7 ZI (ZhV K)) (qf_:MDef P w K mg base (clsOf K "Stairs") "go_out" 5 ZM (ZeQ K)):∀ n,MDef P w K mg base (clsOf K "Stairs") "push" (n+8) ZC (Zjc K n)
 | 0=>by
  have M0:MDef P w K mg base (clsOf K "Stairs") "push" 7 ZC ZnK:=⟨f,fd,⟨λ_ _ _ _ h=>h.elim,λ_ _ _ _ _ _ _ _ _ _ _ _ _ h=>h.elim⟩,m,bi⟩
  exact ⟨f,fd,ZcN (r:=0) (λ_ h=>by lia) F T qp_ qm_ qh_ qf_ M0,m,bi⟩
 | n+1=>⟨f,fd,ZcN (r:=n+1) (λj h=>by cases (show j=n by lia); rfl) F T qp_ qm_ qh_ qf_ (Zcy F bi m T qp_ qm_ qh_ qf_ n),m,bi⟩
end
section
def Zlf (K:W.Frag):Sp:=λvs H Q _=>∃ (A:TA) (g:Pln) (st:Stt) (os:OS) (n:Nat) (b:Int),vs=[.ref A.p,.int (nearF st b:Nat),.int b]/\StairsAt K H A g st os n/\Disj st/\b∈g.U/\n<=500000/\(Disj (Zfv g (nearF st b) b st)->b∈((Zfv g (nearF st b) b st).at_ 0).seq->Res K H A g os (Zfv g (nearF st b) b st) (n+50) (Q .non))
theorem Zcz (F:Fun K "fetch_apart" "Stairs.fetch_apart" Zae f fd) (T:Txt K mg) (q4_:MDef P w K mg base (clsOf K "Stairs") "use_in" 4 ZaH (ZhS K)) (q8_:MDef P w K mg base (clsOf K "Stairs") "words" 4 Zbb (Zgh K)) (qf_:MDef P w K mg base (clsOf K "Stairs") "go_out" 5 ZM (ZeQ K)) (jw_:∀ n,MDef P w K mg base (clsOf K "Stairs") "push" (n+8) ZC (Zjc K n)):FnOk P w K mg base CX0 13 f fd Zaf (Zlf K):=by
 refine F.ok sc_Stairs_fetch_apart (λvs H Q E h=>?_) (λcdv A outer s0 H vs Q E hr h=>?_)
 .obtain ⟨A,g,st,os,n,b,rfl,_⟩:=h
  rfl
 obtain ⟨A,g,st,os,n,b,rfl,R,dj,bU,hn,q⟩:=h
 have nd:=sc_Stairs_fetch_apart.nd
 have l4:g.n<=4:=R.wf.l4
 have l1:1<=g.n:=R.wf.l1
 have q9_:=jw_ g.n
 refine ⟨_,(Zi (ps_if (Zw op_eq (pv 1) Zj (Zv _)) (Zi (Zp (Zk q4_ hr.m T.qa_ (pv 0) (pc (pv 1) (pc (pv 2) Zb))))) (Zi (ps_if (Zw op_eq (pv 1) (Zm (K:=K) rfl (pv 0) rfl) (Zv _)) (Zi (Zp (Zk q9_ hr.m T.qa_ (pv 0) (pc Zj (pc (pv 2) (pc (Zk q8_ hr.m T.qa_ (pv 0) (pc (pv 1) (pc (pv 2) Zb))) (pc pe_bl Zb))))))) (Zd (Zby (Zk qf_ hr.m T.qa_ (pv 0) (pc (pv 1) (pc (pv 2) Zb))) (Zad (K:=K) (n:=2) rfl rfl (Zs (pgn 3 nd) (Zs (pgn 4 nd) Zac))))
   (Zi (Zp (Zk q9_ hr.m T.qa_ (pv 0) (pc Zj (pc (pv 2) (pc (pv 3) (pc (pv 4) Zb)))))))))))),?_⟩
 obtain ⟨dx,h1⟩:=R.ob
 have ln:=R.ln
 have lS:=R.lS
 obtain ⟨b0,b1⟩:=R.wf.ub b bU
 have nle:=ZeU st b
 have nlt:=Zgn (st:=st) (b:=b)
 have nno:=λj=>Zdu (st:=st) (b:=b) (j:=j)
 generalize nearF st b=k at *
 unfold Zfv at q
 refine ⟨_,rfl,rfl,_,rfl,ZdG (λe=>?_) (λe=>?_)⟩
 .have e0:k=0:=by lia
  subst e0
  rw [if_pos rfl] at q
  have hb:=nlt (by lia)
  have eu:usedS g 0 b st=st.set 0 (useS (g.cf 0) (st.at_ 0) b):=if_pos (by lia)
  rw [eu] at q
  have sq:∀ j,((st.set 0 (useS (g.cf 0) (st.at_ 0) b)).at_ j).seq.Perm (st.at_ j).seq:=λj=>by
   rw [ZcZ]
   split
   .rename_i z; rw [z.1]; exact Zbd hb
   .exact List.Perm.refl _
  refine ⟨_,rfl,A.p,dx,_,rfl,h1,tf_no ..,_,rfl,_,rfl,A,g,st,os,n,0,b,rfl,R,by lia,hb,λH1 os1 R1 p1=>q (λi j hi hj hij x hx hx'=>?_) ((sq 0).mem_iff.mpr hb) _ _ (R1.le (by lia)) p1⟩
  rw [set_len] at hi hj
  exact dj i j hi hj hij x ((sq i).mem_iff.mp hx) ((sq j).mem_iff.mp hx')
 .have n0:k≠0:=by lia
  rw [if_neg n0] at q
  refine ⟨_,rfl,_,rfl,A.p,_,dx,_,_,rfl,h1,T.qa_,T.qk_,ZbM ..,rfl,_,rfl,ZdG (λe'=>?_) (λe'=>?_)⟩
  .have ek:k=g.n:=by lia
   rw [if_pos ek] at q
   refine ⟨_,rfl,A.p,dx,_,rfl,h1,tf_no ..,_,rfl,_,rfl,A.p,dx,_,rfl,h1,tf_no ..,_,rfl,_,rfl,A,g,st,os,n,k,b,rfl,R,by lia,(λh=>absurd h (by lia)),b0,b1,λlw H1 hlw s1 ew=>?_⟩
   have ew:H1 lw=some (.lst ((memW g.size st.mem b).map V.int)):=by rw [ew]; unfold ZeN; rw [if_pos ek]
   exact ⟨A,g,st,os,n,0,b,lw,_,false,rfl,R.same s1,by lia,λj hj=>nno j (by lia) hj,dj,bU,ew,R.fresh hlw,by unfold memW; rw [length_map,length_range],by lia,λz1 z2 _ H2 os2 R2 p2=>q z1 (z2 (by lia)) _ _ (R2.le (by lia)) ((Pst.same s1).trans p2)⟩
  .have hkl:k<g.n:=by lia
   rw [if_neg (by lia)] at q
   have hb:=nlt (by lia)
   obtain ⟨u1,u2,u3,u4,u5,u6⟩:=R.bds (k:=k) (by lia)
   obtain ⟨d2,nw2⟩:=Zjb dj (by lia) u6 hb
   refine ⟨_,rfl,A.p,dx,_,rfl,h1,tf_no ..,_,rfl,_,rfl,A,g,st,os,n,k,b,rfl,R,hkl,hb,by lia,λH2 os2 t l et el nl R2 p2=>⟨t,_,rfl,SqT.of et,rfl,_,_,rfl,gN ⟨_,_,rfl,gN ⟨rfl,?_⟩⟩⟩⟩
   try dsimp only
   obtain ⟨dx2,h2⟩:=R2.ob
   exact ⟨_,rfl,A.p,dx2,_,rfl,h2,tf_no ..,_,rfl,_,rfl,_,rfl,A,g,_,os2,_,0,b,l,_,_,rfl,R2,by lia,nw2,d2,bU,el,nl,(u2 b hb).2,by lia,λz1 z2 _ H3 os3 R3 p3=>q z1 (z2 (by lia)) _ _ (R3.le (by lia)) (p2.trans p3)⟩
def ZhW (K:W.Frag):Sp:=λvs H Q _=>∃ (A:TA) (g:Pln) (st:Stt) (os:OS) (n:Nat) (b:Int),vs=[.ref A.p,.int b]/\StairsAt K H A g st os n/\(g.kind = "apart" -> Disj st)/\b∈g.U/\n<=400000/\((g.kind = "apart" -> Disj (Zaq g b st))->b∈((Zaq g b st).at_ 0).seq->Res K H A g os (Zaq g b st) (n+60) (Q .non))
theorem ZeX (F:Fun K "fetch" "Stairs.fetch" ZbJ f fd) (T:Txt K mg) (vt_:MDef P w K mg base (clsOf K "Stairs") "nearest" 3 ZaX (Zhp K)) (vj_:MDef P w K mg base (clsOf K "Stairs") "tell_found" 1 Zav (ZmJ K)) (vd_:MDef P w K mg base (clsOf K "Stairs") "fetch_apart" 13 Zaf (Zlf K)) (vf_:MDef P w K mg base (clsOf K "Stairs") "fetch_down" 7 Zal (ZmK K)):FnOk P w K mg base CX0 14 f fd ZaJ (ZhW K):=by
 refine F.ok sc_Stairs_fetch (λvs H Q E h=>?_) (λcdv A outer s0 H vs Q E hr h=>?_)
 .obtain ⟨A,g,st,os,n,b,rfl,_⟩:=h
  rfl
 obtain ⟨A,g,st,os,n,b,rfl,R,dj,bU,hn,q⟩:=h
 have nd:=sc_Stairs_fetch.nd
 refine ⟨_,(Zd (pst 2 nd (Zk vt_ hr.m T.qa_ (pv 0) (pc (pv 1) Zb)))
   (Zd (Zp (Zk vj_ hr.m T.qa_ (pv 0) (pc (pv 2) Zb)))
   (Zi (ps_if (Zw op_eq (Zm (K:=K) rfl (pv 0) rfl) ZP (Zv _)) (Zi (Zp (Zk vd_ hr.m T.qa_ (pv 0) (pc (pv 2) (pc (pv 1) Zb))))) (Zi (Zp (Zk vf_ hr.m T.qa_ (pv 0) (pc (pv 2) (pc (pv 1) Zb))))))))),?_⟩
 obtain ⟨dx,h1⟩:=R.ob
 refine ⟨_,rfl,A.p,dx,_,rfl,h1,tf_no ..,_,rfl,A,g,st,os,n,b,rfl,R,λH1 s1=>gN ?_⟩
 try dsimp only
 have R1:=R.same s1
 refine ⟨_,rfl,A.p,dx,_,rfl,s1 _ _ h1,tf_no ..,_,rfl,A,g,st,os,n,nearF st b,rfl,R1,(by have:=ZeU st b; have:=R.lS; have:=R.ln; lia),by lia,λH2 os2 R2 p2=>?_⟩
 obtain ⟨dx2,h2⟩:=R2.ob
 unfold Zaq at q
 refine ⟨_,rfl,A.p,_,dx2,_,_,rfl,h2,T.qa_,T.v5_,ZkX ..,rfl,_,rfl,ZaD (λc=>?_) (λc=>?_)⟩
 .have c':g.kind = "apart" := by injection c
  rw [if_pos c'] at q
  exact ⟨_,rfl,A.p,dx2,_,rfl,h2,tf_no ..,_,rfl,_,rfl,A,g,st.tell (eF (nearF st b)),os2,_,b,rfl,R2,dj c',bU,by lia,λz1 z2 H3 os3 R3 p3=>q (λ_=>z1) z2 _ _ (R3.le (by lia)) (((Pst.same s1).trans p2).trans p3)⟩
 .have c':¬ g.kind = "apart" := λz=>c (by rw [z])
  rw [if_neg c'] at q
  exact ⟨_,rfl,A.p,dx2,_,rfl,h2,tf_no ..,_,rfl,_,rfl,A,g,st.tell (eF (nearF st b)),os2,_,nearF st b,b,rfl,R2,rfl,bU,by lia,λz2 H3 os3 R3 p3=>q (λz=>absurd z c') z2 _ _ (R3.le (by lia)) (((Pst.same s1).trans p2).trans p3)⟩
def ZmL (K:W.Frag):Sp:=λvs H Q _=>∃ (A:TA) (g:Pln) (st:Stt) (os:OS) (sp:Int),vs=[.ref A.p,.int sp]/\StairsAt K H A g st os 0/\(g.kind = "apart" -> Disj st)/\sp / g.size∈g.U /\
 ∀ H' e' os' tp,H' tp=some (.tup [.int (wordF g ((Zaq g (sp / g.size) st).at_ 0) sp),.ref A.ev])->StairsAt K H' (A.re e') g (clr (Zaq g (sp / g.size) st)) os' 0->EvL g.n H' A.ev (Zaq g (sp / g.size) st).ev->(Zaq g (sp / g.size) st).ev.length<=100->¬ OW (A.re e') os' A.ev->Pst (OW A os) H H' (OW (A.re e') os')->(g.kind = "apart" -> Disj (Zaq g (sp / g.size) st))->sp / g.size∈((Zaq g (sp / g.size) st).at_ 0).seq->Q (.ref tp) H'
theorem Zfk (F:Fun K "read" "Stairs.read" Zcd f fd) (T:Txt K mg) (qq_:Def P w K mg base "board_of" 1 Zbe ZeL) (q5_:MDef P w K mg base (clsOf K "Stairs") "fetch" 14 ZaJ (ZhW K)) (vy_:MDef P w K mg base (clsOf K "Stairs") "word_in" 4 Zbu (ZiV K)) (qt_:MDef P w K mg base (clsOf K "Stairs") "happened" 1 Zaj (ZdO K)):FnOk P w K mg base CX0 15 f fd Zce (ZmL K):=by
 refine F.ok sc_Stairs_read (λvs H Q E h=>?_) (λcdv A outer s0 H vs Q E hr h=>?_)
 .obtain ⟨A,g,st,os,sp,rfl,_⟩:=h
  rfl
 obtain ⟨A,g,st,os,sp,rfl,R,dj,bU,q⟩:=h
 have nd:=sc_Stairs_read.nd
 refine ⟨_,(Zd (pst 2 nd (Zo qq_ hr.m rfl (pc (Zm (K:=K) rfl (pv 0) rfl) (pc (pv 1) Zb))))
   (Zd (Zp (Zk q5_ hr.m T.qa_ (pv 0) (pc (pv 2) Zb)))
   (Zi (Zt (Zbh (pc (Zk vy_ hr.m T.qa_ (pv 0) (pc Zj (pc (pv 1) Zb))) (pc (Zco qt_ hr.m T.qa_ (pv 0)) Zb))))))),?_⟩
 obtain ⟨dx,h1⟩:=R.ob
 have z0:=R.wf.z0
 have z1:=R.wf.z1
 have l1:1<=g.n:=R.wf.l1
 refine ⟨_,rfl,A.p,_,dx,_,_,rfl,h1,T.qa_,T.q0_,ZdM ..,_,rfl,g.size,sp,rfl,by lia,by lia,gN ?_⟩
 try dsimp only
 refine ⟨_,rfl,A.p,dx,_,rfl,h1,tf_no ..,_,rfl,A,g,st,os,0,_,rfl,R,dj,bU,by decide,λy1 y2 H1 os1 R1 p1=>?_⟩
 obtain ⟨dx1,h2⟩:=R1.ob
 refine ⟨_,rfl,A.p,dx1,_,rfl,h2,tf_no ..,_,rfl,A,g,_,os1,_,0,sp,rfl,R1,l1,y2,λH2 s2=>?_⟩
 have R2:=R1.same s2
 refine ⟨_,rfl,A.p,dx1,_,rfl,s2 _ _ h2,tf_no ..,A,g,_,os1,_,rfl,R2,λe' H3 R3 ev3 ne3 p3=>⟨(by show 2<=sizeLine; decide),λtp htp=>?_⟩⟩
 have s4:=Zg htp (.tup [.int (wordF g ((Zaq g (sp / g.size) st).at_ 0) sp),.ref A.ev])
 exact q _ e' os1 tp Za (R3.same s4) (ev3.frame (λo e=>s4 _ _ e) λx ys e=>s4 _ _ e) (Nat.le_trans R1.evn (by decide)) ne3 (((p1.trans (Pst.same s2)).trans p3).trans (Pst.same s4)) y1 y2
def Zlg (K:W.Frag):Sp:=λvs H Q _=>∃ (A:TA) (g:Pln) (st:Stt) (os:OS) (sp x:Int),vs=[.ref A.p,.int sp,.int x]/\StairsAt K H A g st os 0/\(g.kind = "apart" -> Disj st)/\sp / g.size∈g.U /\
 ∀ H' e' os',StairsAt K H' (A.re e') g (clr (Zeb g sp x st)) os' 0->EvL g.n H' A.ev (Zeb g sp x st).ev->(Zeb g sp x st).ev.length<=100->¬ OW (A.re e') os' A.ev->Pst (OW A os) H H' (OW (A.re e') os')->(g.kind = "apart" -> Disj (Zeb g sp x st))->sp / g.size∈((Zeb g sp x st).at_ 0).seq->Q (.ref A.ev) H'
theorem ZnL {st st':Stt} (d:Disj st) (l:st'.rm.length=st.rm.length) (sq:∀ j,(st'.at_ j).seq=(st.at_ j).seq):Disj st':=λi j hi hj hij x hx hx'=>by
 rw [l] at hi hj
 rw [sq] at hx hx'
 exact d i j hi hj hij x hx hx'
theorem ZeY (F:Fun K "write" "Stairs.write" ZbH f fd) (T:Txt K mg) (qq_:Def P w K mg base "board_of" 1 Zbe ZeL) (q5_:MDef P w K mg base (clsOf K "Stairs") "fetch" 14 ZaJ (ZhW K)) (vu_:MDef P w K mg base (clsOf K "Stairs") "put_word" 2 ZaV (Zhn K)) (qz_:MDef P w K mg base (clsOf K "Stairs") "change" 5 Zax (Zgo K)) (qt_:MDef P w K mg base (clsOf K "Stairs") "happened" 1 Zaj (ZdO K)):FnOk P w K mg base CX0 15 f fd ZbI (Zlg K):=by
 refine F.ok sc_Stairs_write (λvs H Q E h=>?_) (λcdv A outer s0 H vs Q E hr h=>?_)
 .obtain ⟨A,g,st,os,sp,x,rfl,_⟩:=h
  rfl
 obtain ⟨A,g,st,os,sp,x,rfl,R,dj,bU,q⟩:=h
 have nd:=sc_Stairs_write.nd
 refine ⟨_,(Zd (pst 3 nd (Zo qq_ hr.m rfl (pc (Zm (K:=K) rfl (pv 0) rfl) (pc (pv 1) Zb))))
   (Zd (Zp (Zk q5_ hr.m T.qa_ (pv 0) (pc (pv 3) Zb)))
   (Zd (Zp (Zk vu_ hr.m T.qa_ (pv 0) (pc Zj (pc (pv 1) (pc (pv 2) Zb)))))
   (Zd (Zp (Zk qz_ hr.m T.qa_ (pv 0) (pc Zj (pc (pv 3) Zb))))
   (Zi (Zt (Zco qt_ hr.m T.qa_ (pv 0)))))))),?_⟩
 obtain ⟨dx,h1⟩:=R.ob
 have z0:=R.wf.z0
 have z1:=R.wf.z1
 have l1:1<=g.n:=R.wf.l1
 refine ⟨_,rfl,A.p,_,dx,_,_,rfl,h1,T.qa_,T.q0_,ZdM ..,_,rfl,g.size,sp,rfl,by lia,by lia,gN ?_⟩
 try dsimp only
 refine ⟨_,rfl,A.p,dx,_,rfl,h1,tf_no ..,_,rfl,A,g,st,os,0,_,rfl,R,dj,bU,by decide,λy1 y2 H1 os1 R1 p1=>?_⟩
 obtain ⟨dx1,h2⟩:=R1.ob
 refine ⟨_,rfl,A.p,dx1,_,rfl,h2,tf_no ..,_,rfl,_,rfl,A,g,_,os1,_,0,sp,x,rfl,R1,l1,y2,λH2 os2 R2 p2=>?_⟩
 obtain ⟨dx2,h3⟩:=R2.ob
 have sq2:∀ j,(((Zaq g (sp / g.size) st).set 0 (pwS g ((Zaq g (sp / g.size) st).at_ 0) sp x)).at_ j).seq=((Zaq g (sp / g.size) st).at_ j).seq:=λj=>ZiY rfl
 refine ⟨_,rfl,A.p,dx2,_,rfl,h3,tf_no ..,_,rfl,A,g,_,os2,_,0,_,rfl,R2,l1,by rw [sq2]; exact y2,by decide,λH3 os3 R3 p3=>?_⟩
 obtain ⟨dx3,h4⟩:=R3.ob
 have sq3:∀ j,((Zeb g sp x st).at_ j).seq=((Zaq g (sp / g.size) st).at_ j).seq:=λj=>change_sq.trans (sq2 j)
 refine ⟨_,rfl,A.p,dx3,_,rfl,h4,tf_no ..,A,g,_,os3,_,rfl,R3,λe' H4 R4 ev4 ne4 p4=>?_⟩
 exact q _ e' os3 R4 ev4 (Nat.le_trans R3.evn (by decide)) ne4 (((p1.trans p2).trans p3).trans p4) (λc=>ZnL (y1 c) (by have a1:=R3.lS; have a2:=R1.lS; show (Zeb g sp x st).rm.length=_; rw [a2]; exact a1) sq3) (by rw [sq3]; exact y2)
end
section
theorem ZoN (x y:Str) (r:Int) (h0:0<=r) (h1:r<2):∃ z:Str,atI [V.str x,V.str y] r=some (.str z)/\(z=x\/z=y):=by
 have h:r=0\/r=1:=by lia
 rcases h with rfl | rfl
 .exact ⟨x,atI0,.inl rfl⟩
 .exact ⟨y,atI1,.inr rfl⟩
def ZmM:Sp:=λvs H Q _=>∃ (b:Addr) (a q c:Int),vs=[.ref b]/\BoxAt H b a q c/\c<400000000 /\
 ∀ (p:Addr) (sh pl:Int) (r wr:Str) (a' c':Int) (H':Hp),H' p=some (.tup [.int sh,.int pl,.str r,.str wr])->1<=sh->sh<=64->1<=pl->pl<=16->Rule r->Wr wr->BoxAt H' b a' q c'->c'<=c+6->SB b H H'->Q (.ref p) H'
theorem Zhq (F:Fun K "_law_room_plan" "_law_room_plan" ZcW f fd) (T:Txt K mg) (qd_:Def P w K mg base "_law_take" 1 Zdp ZdZ):FnOk P w K mg base CX0 2 f fd ZcX ZmM:=by
 refine F.ok sc_room_plan (λvs H Q E h=>?_) (λcdv A outer st H vs Q E hr h=>?_)
 .obtain ⟨b,a,q,c,rfl,_⟩:=h
  rfl
 obtain ⟨b,a,q,c,rfl,B,hc,k⟩:=h
 have nd:=sc_room_plan.nd
 refine ⟨_,(Zd (pst 1 nd (ZaN op_eq (Zo qd_ hr.m rfl (pc (pv 0) (pc Zj Zb))) Zj (Zv _)))
   (Zd (pst 2 nd (Zbx (Zab (pv 1)) (pe_op ZF Zj (Zo qd_ hr.m rfl (pc (pv 0) (pc Zj Zb)))) (pe_ix (Zn (K:=K) rfl) (ZaY (pc Zj (pc Zj (pc Zj (pc Zj (pc Zj Zb)))))) (Zo qd_ hr.m rfl (pc (pv 0) (pc Zj Zb))) (λ_ _=>rfl))))
   (Zd (pst 3 nd (pe_op ZF Zj (Zo qd_ hr.m rfl (pc (pv 0) (pc (Zbx (Zab (pv 1)) Zj Zj) Zb)))))
   (Zd (pst 4 nd (pe_ix (Zn (K:=K) rfl) (ZaY (pc ZP (pc ZP (pc ZP Zb)))) (Zo qd_ hr.m rfl (pc (pv 0) (pc Zj Zb))) (λ_ _=>rfl)))
   (Zi (Zt (Zbh (pc (pv 2) (pc (pv 3) (pc (pv 4) (pc (pe_ix (Zn (K:=K) rfl) (ZaY (pc ZP (pc ZP Zb))) (Zo qd_ hr.m rfl (pc (pv 0) (pc Zj Zb))) (λ_ _=>rfl)) Zb))))))))))),?_⟩
 refine ⟨_,rfl,b,a,q,c,6,rfl,B,by lia,by decide,by decide,λr1 a1 c1 H1 r10 r11 B1 hc1 s1=>⟨rfl,?_⟩⟩
 generalize decide (V.int r1=V.int 0)=far
 try dsimp only
 refine cpA (λv G=>∃ z a' c',v=.int z/\1<=z/\z<=64/\BoxAt G b a' q c'/\c'<=c1+1/\SB b H G) (λQ' k'=>?_) ?_
 .refine ⟨_,rfl,_,rfl,?_⟩
  cases far with
  | true=>exact ifT rfl ⟨_,rfl,b,a1,q,c1,64,rfl,B1,by lia,by decide,by decide,λr2 a2 c2 H2 r20 r21 B2 hc2 s2=>⟨_,_,rfl,rfl,k' _ _ ⟨_,a2,c2,rfl,by lia,by lia,B2,by lia,s1.trans s2⟩⟩⟩
  | false =>
   refine ifF rfl ⟨(by show 5<=sizeLine; decide),λp0 hp0=>⟨_,rfl,b,a1,q,c1,5,rfl,B1.same (Zg hp0 _),by lia,by decide,by decide,λr2 a2 c2 H2 r20 r21 B2 hc2 s2=>?_⟩⟩
   have q0:b≠p0:=Ze B1.at' hp0
   obtain ⟨sh,hsh,sh0,sh1⟩:=pick5 r2 r20 r21
   exact ⟨p0,_,_,_,rfl,rfl,SqL.of (s2 _ _ (Ne.symm q0) Za),hsh,k' _ _ ⟨_,a2,c2,rfl,sh0,sh1,B2,by lia,s1.trans (((Zg hp0 _).sb b).trans s2)⟩⟩
 rintro _ H2 ⟨sh,a2,c2,rfl,sh0,sh1,B2,hc2,u2⟩
 refine gN ?_
 try dsimp only
 refine cpA (λv G=>∃ z a' c',v=.int z/\1<=z/\z<=16/\BoxAt G b a' q c'/\c'<=c2+1/\SB b H G) (λQ' k'=>?_) ?_
 .refine ⟨_,rfl,_,rfl,_,rfl,?_⟩
  cases far with
  | true=>exact ifT rfl ⟨b,a2,q,c2,16,rfl,B2,by lia,by decide,by decide,λr3 a3 c3 H3 r30 r31 B3 hc3 s3=>⟨_,_,rfl,rfl,k' _ _ ⟨_,a3,c3,rfl,by lia,by lia,B3,by lia,u2.trans s3⟩⟩⟩
  | false=>exact ifF rfl ⟨b,a2,q,c2,4,rfl,B2,by lia,by decide,by decide,λr3 a3 c3 H3 r30 r31 B3 hc3 s3=>⟨_,_,rfl,rfl,k' _ _ ⟨_,a3,c3,rfl,by lia,by lia,B3,by lia,u2.trans s3⟩⟩⟩
 rintro _ H3 ⟨pl,a3,c3,rfl,pl0,pl1,B3,hc3,u3⟩
 refine gN ?_
 try dsimp only
 refine ⟨(by show 3<=sizeLine; decide),λp3 hp3=>⟨_,rfl,b,a3,q,c3,3,rfl,B3.same (Zg hp3 _),by lia,by decide,by decide,λr4 a4 c4 H4 r40 r41 B4 hc4 s4=>?_⟩⟩
 have q3:b≠p3:=Ze B3.at' hp3
 obtain ⟨ru,hru,iru⟩:=pickR r4 r40 r41
 refine ⟨p3,_,_,_,rfl,rfl,SqL.of (s4 _ _ (Ne.symm q3) Za),hru,?_⟩
 have u4:SB b H H4:=u3.trans (((Zg hp3 _).sb b).trans s4)
 refine ⟨_,rfl,_,rfl,_,rfl,(by show 2<=sizeLine; decide),λp5 hp5=>⟨_,rfl,b,a4,q,c4,2,rfl,B4.same (Zg hp5 _),by lia,by decide,by decide,λr5 a5 c5 H5 r50 r51 B5 hc5 s5=>?_⟩⟩
 have q5:b≠p5:=Ze B4.at' hp5
 obtain ⟨wr,hwr,iwr⟩:=ZoN "late" "through" r5 r50 r51
 refine ⟨p5,_,_,_,rfl,rfl,SqL.of (s5 _ _ (Ne.symm q5) Za),hwr,(by show 4<=sizeLine; decide),λpp hpp=>?_⟩
 exact k pp sh pl ru wr a5 c5 _ Za sh0 sh1 pl0 pl1 iru iwr (B5.same (Zg hpp _)) (by lia)
  ((u4.trans (((Zg hp5 _).sb b).trans s5)).trans ((Zg hpp _).sb b))
end
theorem ZoO (r:Int) (h0:0<=r) (h1:r<3):∃ z:Str,atI [V.str "within",V.str "apart",V.str "free"] r=some (.str z)/\(z = "within" \/ z = "apart" \/ z = "free"):=by
 have h:r=0\/r=1\/r=2:=by lia
 rcases h with rfl | rfl | rfl
 .exact ⟨_,atI0,.inl rfl⟩
 .exact ⟨_,atI1,.inr (.inl rfl)⟩
 .exact ⟨_,atI2,.inr (.inr rfl)⟩
section
def Zlh (K:W.Frag):Sp:=λvs H Q _=>∃ (b:Addr) (a q c:Int),vs=[.ref b]/\BoxAt H b a q c/\c<300000000 /\
 ∀ (pp tp:Addr) (ts:List Addr) (size:Int) (kind:Str) (cfs:List Cf) (a' c':Int) (H':Hp),H' pp=some (.tup [.int size,.str kind,.ref tp])->PlanAt K H' tp ts cfs->(kind = "within" \/ kind = "apart" \/ kind = "free")->1<=size->size<=16->1<=cfs.length->cfs.length<=4->BoxAt H' b a' q c'->c'<=c+40->SB b H H'->Q (.ref pp) H'
theorem ZnM (F:Fun K "_law_plan" "_law_plan" ZiH f fd) (T:Txt K mg) (qd_:Def P w K mg base "_law_take" 1 Zdp ZdZ) (jh_:Def P w K mg base "_law_room_plan" 2 ZcX ZmM):FnOk P w K mg base CX0 3 f fd Zky (Zlh K):=by
 refine F.ok sc_plan (λvs H Q E h=>?_) (λcdv A outer st H vs Q E hr h=>?_)
 .obtain ⟨b,a,q,c,rfl,_⟩:=h
  rfl
 obtain ⟨b,a,q,c,rfl,B,hc,k⟩:=h
 have nd:=sc_plan.nd
 refine ⟨_,(Zd (pst 1 nd (pe_ix (Zn (K:=K) rfl) (ZaY (pc ZP (pc ZP (pc ZP Zb)))) (Zo qd_ hr.m rfl (pc (pv 0) (pc Zj Zb))) (λ_ _=>rfl)))
   (Zd (pst 2 nd (pe_op ZF Zj (Zo qd_ hr.m rfl (pc (pv 0) (pc (pe_ix (Zn (K:=K) rfl) (ZaY (pc Zj (pc Zj Zb))) (ZW Zdd rfl T.jl_ Zcm (pc (ZaN op_eq (Zo qd_ hr.m rfl (pc (pv 0) (pc Zj Zb))) Zj (Zv _)) Zb)) (λ_ _=>rfl)) Zb)))))
   (Zi (Zt (Zbh (pc (pv 2) (pc (pv 1) (pc (ZW (Zfc (K:=K) rfl) rfl T.ji_ ZcQ (pc (ZbA (Zag (osc:=(Zh ZiH)) (oN:=N_plan) (N:=["_law_k", "_law_box_here"]) (own:=1) (js:=[0]) (by decide +kernel) rfl rfl) rfl (Zbg rfl T.q2_ (pc (pe_op ZF Zj (Zo qd_ hr.m rfl (pc (pv 0) (pc Zj Zb)))) Zb)) (λ_ _ _ _ _ _=>(pgn 0 (show List.Nodup (["_law_k", "_law_box_here"]:List Str) by decide +kernel))) (λ_ _ _ _ _ _=>(Zo jh_ hr.m rfl (pc (pv 1) Zb)))) Zb)) Zb)))))))),?_⟩
 refine ⟨(by show 3<=sizeLine; decide),λp1 hp1=>⟨_,rfl,b,a,q,c,3,rfl,B.same (Zg hp1 _),by lia,by decide,by decide,λr1 a1 c1 H1 r10 r11 B1 hc1 s1=>?_⟩⟩
 have q1:b≠p1:=Ze B.at' hp1
 obtain ⟨kd,hkd,ikd⟩:=ZoO r1 r10 r11
 refine ⟨p1,_,_,_,rfl,rfl,SqL.of (s1 _ _ (Ne.symm q1) Za),hkd,gN ?_⟩
 try dsimp only
 have u1:SB b H H1:=((Zg hp1 _).sb b).trans s1
 refine ⟨_,rfl,(by show 2<=sizeLine; decide),λp2 hp2=>⟨_,rfl,b,a1,q,c1,8,rfl,B1.same (Zg hp2 _),by lia,by decide,by decide,λr2 a2 c2 H2 r20 r21 B2 hc2 s2=>⟨rfl,.inr ⟨_,rfl,?_⟩⟩⟩⟩
 have q2:b≠p2:=Ze B1.at' hp2
 obtain ⟨n,hn,hn'⟩:=ZmG 4 16 (decide (V.int r2=V.int 0))
 refine ⟨p2,_,_,_,rfl,rfl,SqL.of (s2 _ _ (Ne.symm q2) Za),hn,b,a2,q,c2,n,rfl,B2,by lia,by lia,by lia,λr3 a3 c3 H3 r30 r31 B3 hc3 s3=>⟨_,_,rfl,rfl,gN ?_⟩⟩
 try dsimp only
 have u3:SB b H H3:=(((u1.trans ((Zg hp2 _).sb b)).trans s2)).trans s3
 refine ⟨_,rfl,_,rfl,_,rfl,b,a3,q,c3,4,rfl,B3,by lia,by decide,by decide,λr4 a4 c4 H4 r40 r41 B4 hc4 s4=>⟨_,_,rfl,rfl,_,rfl,by lia,by lia,λl hl=>?_⟩⟩
 have nlb:l≠b:=Ne.symm (Ze B4.at' hl)
 have u4:=u3.trans s4
 refine ZcD (lo:=0) (n:=(1+r4).toNat) (l:=l) (λj ys σ G=>∃ (v0:Option V) (ts:List Addr) (cfs:List Cf) (a' c':Int),σ=[v0,some (.ref b)]/\ys=ts.map V.ref/\ts.length=j/\cfs.length=j/\(∀ (i:Nat) (t:Addr) (c:Cf),ts[i]?=some t->cfs[i]?=some c->∃ wr:Str,G t=some (.tup [.int c.sh,.int c.pl,.str c.ru,.str wr])/\c.late=decide (wr = "late")/\Wr wr)/\(∀ c∈cfs,1<=c.sh/\c.sh<=64/\1<=c.pl/\c.pl<=16/\Rule c.ru)/\G l=some (.lst ys)/\BoxAt G b a' q c'/\c'<=c4+6 * (j:Int)/\SB b H G)
  ⟨none,[],[],a4,c4,rfl,rfl,rfl,rfl,(λi t c h=>by simp at h),(λc h=>by simp at h),Za,B4.same (Zg hl _),by lia,u4.trans ((Zg hl _).sb b)⟩ ?_ ?_
 .rintro j ys σ G hj hys ⟨v0,ts,cfs,a',c',rfl,rfl,hl1,hl2,hat,hcf,g1,B',hc',u'⟩
  refine ⟨_,rfl,b,a',q,c',rfl,B',by lia,λp sh pl r wr a5 c5 G5 ep sh0 sh1 pl0 pl1 hr hw B5 hc5 s5=>?_⟩
  have g5:=s5 _ _ nlb g1
  have npl:p≠l:=λz=>by rw [z,g5] at ep; cases ep
  refine CNx.of (Nat.le_trans (by lia:(1+r4).toNat<=4) (by decide)) hj hys g5 ⟨_,ts++[p],cfs++[⟨sh,pl,r,decide (wr = "late")⟩],a5,c5,rfl,by rw [map_append]; rfl,by rw [length_append,hl1]; rfl,by rw [length_append,hl2]; rfl,λi t c h1 h2=>?_,λc hc=>?_,Za,B5.sb (Zft l _ _) (Ne.symm nlb),by lia,λx o nx e=>?_⟩
  .by_cases hi:i<j
   .rw [getElem?_append_left (by lia)] at h1 h2
    obtain ⟨wr',e1,e2⟩:=hat i t c h1 h2
    refine ⟨wr',?_,e2⟩
    have ntb:t≠b:=λz=>by rw [z,B'.at'] at e1; cases e1
    have e1':=s5 _ _ ntb e1
    rw [Zc (λz=>by rw [z,g5] at e1'; cases e1')]
    exact e1'
   .have hi2:i=j:=by have:=(List.getElem?_eq_some_iff.mp h1).1; rw [length_append,length_singleton] at this; lia
    subst hi2
    rw [getElem?_append_right (by lia),show i - ts.length=0 by lia] at h1
    rw [getElem?_append_right (by lia),show i - cfs.length=0 by lia] at h2
    cases h1; cases h2
    exact ⟨wr,by rw [Zc npl]; exact ep,rfl,hw⟩
  .rcases List.mem_append.mp hc with hc | hc
   .exact hcf c hc
   .rw [List.mem_singleton.mp hc]; exact ⟨sh0,sh1,pl0,pl1,hr⟩
  .have nx2:x≠l:=λz=>by
    rw [z] at e
    have:=u4 _ _ nlb e
    rw [this] at hl; cases hl
   rw [Zc nx2]
   exact s5 _ _ nx (u' _ _ nx e)
 rintro ys σ G _ ⟨v0,ts,cfs,a',c',rfl,rfl,hl1,hl2,hat,hcf,g1,B',hc',u'⟩
 refine ⟨l,_,rfl,.inl ⟨SqL.of g1,λtp htp=>⟨(by show 3<=sizeLine; decide),λpp hpp=>?_⟩⟩⟩
 have s5:=Zg htp (.tup (ts.map V.ref))
 have s6:=s5.trans (Zg hpp (.tup [.int (1+r3),.str kd,.ref tp]))
 refine k pp tp ts (1+r3) kd cfs a' c' _ Za ⟨Zg hpp _ _ _ Za,by show ts.length=cfs.length; lia,λi t c h1 h2=>by obtain ⟨wr,e1,e2⟩:=hat i t c h1 h2; exact ⟨wr,s6 _ _ e1,e2⟩,hcf⟩ ikd (by show 1<=1+r3; lia) (by show 1+r3<=16; lia) (by show 1<=cfs.length; lia) (by show cfs.length<=4; lia) (B'.same s6) (by lia) (u'.trans (s6.sb b))
end
section
def ZmN:Sp:=λvs H Q _=>∃ (b:Addr) (a q c x y:Int),vs=[.ref b,.int x,.int y]/\BoxAt H b a q c/\c<1099511627770/\0<x/\x<=y/\y<1073741824 /\
 ∀ (r a' c':Int) (H':Hp),1<=r->r<=y->BoxAt H' b a' q c'->c'<=c+2->SB b H H'->Q (.int r) H'
theorem ZnN (F:Fun K "_law_many" "_law_many" ZkD f fd) (T:Txt K mg) (qd_:Def P w K mg base "_law_take" 1 Zdp ZdZ):FnOk P w K mg base CX0 2 f fd ZkE ZmN:=by
 refine F.ok sc_many (λvs H Q E h=>?_) (λcdv A outer st H vs Q E hr h=>?_)
 .obtain ⟨b,a,q,c,x,y,rfl,_⟩:=h
  rfl
 obtain ⟨b,a,q,c,x,y,rfl,B,hc,x0,xy,y1,k⟩:=h
 have nd:=sc_many.nd
 refine ⟨_,(Zd (pst 3 nd (ZaN op_eq (Zo qd_ hr.m rfl (pc (pv 0) (pc Zj Zb))) Zj (Zv _)))
   (Zi (Zt (pe_op ZF Zj (Zo qd_ hr.m rfl (pc (pv 0) (pc (Zbx (Zab (pv 3)) (pv 2) (pv 1)) Zb))))))),?_⟩
 refine ⟨_,rfl,b,a,q,c,8,rfl,B,by lia,by decide,by decide,λr a1 c1 G1 r0 r1 B1 hc1 t1=>?_⟩
 refine ⟨rfl,gN ?_⟩
 refine ⟨_,rfl,_,rfl,_,rfl,ZfW (λz=>?_) (λz=>?_)⟩
 .refine ⟨_,rfl,b,a1,q,c1,y,rfl,B1,by lia,by lia,by lia,λr2 a2 c2 G2 r20 r21 B2 hc2 t2=>?_⟩
  exact ⟨_,_,rfl,rfl,k (1+r2) a2 c2 G2 (by lia) (by lia) B2 (by lia) (t1.trans t2)⟩
 .refine ⟨_,rfl,b,a1,q,c1,x,rfl,B1,by lia,by lia,by lia,λr2 a2 c2 G2 r20 r21 B2 hc2 t2=>?_⟩
  exact ⟨_,_,rfl,rfl,k (1+r2) a2 c2 G2 (by lia) (by lia) B2 (by lia) (t1.trans t2)⟩
end
inductive Dd where
 | rd (sp:Int)
 | wt (sp x:Int)
def Dd.sp:Dd->Int
 | .rd sp=>sp
 | .wt sp _=>sp
def Dd.vs:Dd->List V
 | .rd sp=>[.str "read",.int sp]
 | .wt sp x=>[.str "write",.int sp,.int x]
def Dd.ok:Dd->Prop
 | .rd sp=>0<=sp/\sp<=9999
 | .wt sp x=>(0<=sp/\sp<=9999)/\x.natAbs<10 ^ 40
section
def Zli:Sp:=λvs H Q _=>∃ (b:Addr) (a q c:Int),vs=[.ref b]/\BoxAt H b a q c/\c<400000000/\∀ (x a' c':Int) (H':Hp),x.natAbs<10 ^ 40->BoxAt H' b a' q c'->c'<=c+8->SB b H H'->Q (.int x) H'
theorem ZnO (F:Fun K "_law_word" "_law_word" Zkz f fd) (T:Txt K mg) (qd_:Def P w K mg base "_law_take" 1 Zdp ZdZ):FnOk P w K mg base CX0 2 f fd ZkA Zli:=by
 refine F.ok sc_word (λvs H Q E h=>?_) (λcdv A outer s0 H vs Q E hr h=>?_)
 .obtain ⟨b,a,q,c,rfl,_⟩:=h
  rfl
 obtain ⟨b,a,q,c,rfl,B,hc,k⟩:=h
 have nd:=sc_word.nd
 refine ⟨_,(Zd (pst 1 nd (Zo qd_ hr.m rfl (pc (pv 0) (pc Zj Zb))))
   (Zd (ps_if (Zw op_lt (pv 1) Zj (Zv _)) (Zd (pst 2 nd (Zo qd_ hr.m rfl (pc (pv 0) (pc (pe_ix (Zn (K:=K) rfl) (ZaY (pc Zj (pc Zj (pc Zj Zb)))) (pv 1) (λ_ _=>rfl)) Zb))))
   (Zi (Zt (pe_ix (Zn (K:=K) rfl) (ZaY (pc (pv 2) (pc (pe_op ZF Zj (pv 2)) (pc (pe_op ZcL (pe_un Zer Zj) (pv 2)) Zb)))) (pv 1) (λ_ _=>rfl))))) Zu)
   (Zd (pst 2 nd Zj)
   (Zd (Zcj PassesOwn.never rfl (Zbg rfl T.q2_ (pc (pe_op ZF Zj (Zo qd_ hr.m rfl (pc (pv 0) (pc Zj Zb)))) Zb)) (pgn 3 nd) (Zi (pst 2 nd (pe_op ZF (pe_op ZbN (pv 2) (pe_op ZjG Zj Zj)) (Zo qd_ hr.m rfl (pc (pv 0) (pc (pe_op ZjG Zj Zj) Zb)))))))
   (Zi (Zt (pe_ix (Zn (K:=K) rfl) (ZaY (pc (pv 2) (pc (pe_op ZcL Zj (pv 2)) Zb))) (Zo qd_ hr.m rfl (pc (pv 0) (pc Zj Zb))) (λ_ _=>rfl)))))))),?_⟩
 refine ⟨_,rfl,b,a,q,c,4,rfl,B,by lia,by decide,by decide,λr1 a1 c1 H1 r10 r11 B1 hc1 s1=>gN ?_⟩
 try dsimp only
 refine ⟨_,rfl,_,_,rfl,rfl,_,rfl,ZaD (λz=>?_) (λz=>?_)⟩
 .obtain ⟨n,hn,n0,n1⟩:∃ n:Int,atI [V.int 9,V.int 99,V.int 99] r1=some (.int n)/\1<=n/\n<=99:=by
   have h:r1=0\/r1=1\/r1=2:=by lia
   rcases h with rfl | rfl | rfl
   .exact ⟨9,atI0,by decide,by decide⟩
   .exact ⟨99,atI1,by decide,by decide⟩
   .exact ⟨99,atI2,by decide,by decide⟩
  refine ⟨_,rfl,(by show 3<=sizeLine; decide),λp1 hp1=>⟨_,rfl,p1,_,_,_,rfl,rfl,SqL.of Za,hn,b,a1,q,c1,n,rfl,B1.same (Zg hp1 _),by lia,by lia,by lia,λr2 a2 c2 H2 r20 r21 B2 hc2 s2=>gN ?_⟩⟩
  try dsimp only
  refine ⟨_,rfl,_,rfl,_,_,rfl,rfl,_,rfl,_,rfl,_,_,rfl,rfl,(by show 3<=sizeLine; decide),λp2 hp2=>⟨_,rfl,p2,?_⟩⟩
  obtain ⟨x,hx,x1⟩:∃ x:Int,atI [V.int r2,V.int (1+r2),V.int (-1 - r2)] r1=some (.int x)/\x.natAbs<10 ^ 40:=by
   have h:r1=0\/r1=1\/r1=2:=by lia
   have b40:1000<=10 ^ 40:=by decide
   rcases h with rfl | rfl | rfl
   .exact ⟨_,atI0,by lia⟩
   .exact ⟨_,atI1,by lia⟩
   .exact ⟨_,atI2,by lia⟩
  exact ⟨_,_,_,rfl,rfl,SqL.of Za,hx,k x a2 c2 _ x1 (B2.same (Zg hp2 _)) (by lia) (((s1.trans ((Zg hp1 _).sb b)).trans s2).trans ((Zg hp2 _).sb b))⟩
 .dsimp only [tNext]
  refine gN ?_
  try dsimp only
  refine ⟨_,rfl,b,a1,q,c1,4,rfl,B1,by lia,by decide,by decide,λr2 a2 c2 H2 r20 r21 B2 hc2 s2=>⟨_,_,rfl,rfl,_,rfl,by lia,by lia,?_⟩⟩
  have e7:(10:Int) ^ (7:Int).toNat=10000000:=by decide
  refine Zdc (lo:=0) (n:=(1+r2).toNat) (λi σ G=>∃ (v3:Option V) (z a' c':Int),σ=[some (.ref b),some (.int r1),some (.int z),v3]/\0<=z/\z<10000000 ^ i/\BoxAt G b a' q c'/\c'<=c2+(i:Int)/\SB b H G)
   ⟨none,0,a2,c2,rfl,by decide,by decide,B2,by lia,s1.trans s2⟩ ?_ ?_
  .rintro i σ G hi ⟨v3,z,a',c',rfl,z0,z1,B',hc',s'⟩
   refine gN ?_
   try dsimp only
   refine ⟨_,rfl,_,_,rfl,rfl,⟨by decide,by decide,by decide⟩,_,_,rfl,rfl,.inr (by rw [e7]; decide),_,rfl,_,_,rfl,rfl,⟨by decide,by decide,by decide⟩,b,a',q,c',_,rfl,B',by lia,by rw [e7]; decide,by rw [e7]; decide,λr3 a3 c3 H3 r30 r31 B3 hc3 s3=>⟨_,_,rfl,rfl,gN ⟨_,_,a3,c3,rfl,?_,?_,B3,by lia,s'.trans s3⟩⟩⟩
   .rw [e7]
    lia
   .rw [e7] at r31 ⊢
    rw [Int.pow_succ]
    generalize (10000000:Int) ^ i=X at *
    lia
  .rintro σ G ⟨v3,z,a',c',rfl,z0,z1,B',hc',s'⟩
   have zb:z<10000000000000000000000000000:=by
    have h:(1+r2).toNat=1\/(1+r2).toNat=2\/(1+r2).toNat=3\/(1+r2).toNat=4:=by lia
    have p1:(10000000:Int) ^ 1=10000000:=by decide
    have p2:(10000000:Int) ^ 2=100000000000000:=by decide
    have p3:(10000000:Int) ^ 3=1000000000000000000000:=by decide
    have p4:(10000000:Int) ^ 4=10000000000000000000000000000:=by decide
    rcases h with e | e | e | e <;> rw [e] at z1 <;> lia
   have b40:10000000000000000000000000000<=10 ^ 40:=by decide
   refine ⟨_,rfl,_,rfl,_,_,rfl,rfl,(by show 2<=sizeLine; decide),λp2 hp2=>⟨_,rfl,b,a',q,c',2,rfl,B'.same (Zg hp2 _),by lia,by decide,by decide,λr4 a4 c4 H4 r40 r41 B4 hc4 s4=>?_⟩⟩
   have np:b≠p2:=Ze B'.at' hp2
   obtain ⟨x,hx,x1⟩:∃ x:Int,atI [V.int z,V.int (0 - z)] r4=some (.int x)/\x.natAbs<10 ^ 40:=by
    have h:r4=0\/r4=1:=by lia
    rcases h with rfl | rfl
    .exact ⟨_,atI0,by lia⟩
    .exact ⟨_,atI1,by lia⟩
   exact ⟨p2,_,_,_,rfl,rfl,SqL.of (s4 _ _ (Ne.symm np) Za),hx,k x a4 c4 _ x1 B4 (by lia) ((s'.trans ((Zg hp2 _).sb b)).trans s4)⟩
def Zlj:Sp:=λvs H Q _=>∃ (b l:Addr) (a q c size:Int) (ns:List Int),vs=[.ref b,.int size,.ref l]/\BoxAt H b a q c/\l≠b/\c<350000000/\1<=size/\size<=16/\H l=some (.lst (ns.map V.int))/\1<=ns.length/\ns.length<=20/\(∀ x∈ns,0<=x/\x<=100000)/\∀ (t:Addr) (d:Dd) (a' c':Int) (H':Hp),H' t=some (.tup d.vs)->d.ok->d.sp / size∈(9999 / size) :: ns->BoxAt H' b a' q c'->c'<=c+12->SB b H H'->Q (.ref t) H'
theorem ZnP (F:Fun K "_law_deed" "_law_deed" ZkB f fd) (T:Txt K mg) (qd_:Def P w K mg base "_law_take" 1 Zdp ZdZ) (j4_:Def P w K mg base "_law_word" 2 ZkA Zli):FnOk P w K mg base CX0 3 f fd ZkC Zlj:=by
 refine F.ok sc_deed (λvs H Q E h=>?_) (λcdv A outer s0 H vs Q E hr h=>?_)
 .obtain ⟨b,l,a,q,c,size,ns,rfl,_⟩:=h
  rfl
 obtain ⟨b,l,a,q,c,size,ns,rfl,B,nlb,hc,z0,z1,hl,l0,l1,nsB,k⟩:=h
 have nd:=sc_deed.nd
 refine ⟨_,(Zd (pst 3 nd (Zo qd_ hr.m rfl (pc (pv 0) (pc Zj Zb))))
   (Zd (pst 4 nd (Zr (ZjK rfl) rfl T.j8_ ZlB (pc Zj (pc (pe_op ZF (pe_op ZbN (pe_ix (Zn (K:=K) rfl) (pv 2) (Zo qd_ hr.m rfl (pc (pv 0) (pc (Zr (Zx (K:=K) rfl) rfl T.vp_ PySem.boot_len (pc (pv 2) Zb)) Zb))) (λ_ _=>rfl)) (pv 1)) (Zo qd_ hr.m rfl (pc (pv 0) (pc (pv 1) Zb)))) Zb))))
   (Zi (Zt (Zbx (Zw op_eq (pv 3) Zj (Zv _)) (Zbh (pc ZP (pc (pv 4) (pc (Zo j4_ hr.m rfl (pc (pv 0) Zb)) Zb)))) (Zbh (pc ZP (pc (pv 4) Zb)))))))),?_⟩
 refine ⟨_,rfl,b,a,q,c,2,rfl,B,by lia,by decide,by decide,λr1 a1 c1 H1 r10 r11 B1 hc1 s1=>gN ?_⟩
 try dsimp only
 have hl1:=s1 _ _ nlb hl
 refine ⟨_,rfl,_,rfl,_,rfl,l,_,rfl,.inl (SqL.of hl1),b,a1,q,c1,_,rfl,B1,by lia,by rw [length_map]; lia,by rw [length_map]; lia,λr2 a2 c2 H2 r20 r21 B2 hc2 s2=>?_⟩
 rw [length_map] at r21
 obtain ⟨x,hx,xm⟩:=ZoI r20 r21
 have xb:=nsB x xm
 refine ⟨l,_,_,_,rfl,rfl,SqL.of (s2 _ _ nlb hl1),hx,_,rfl,_,_,rfl,rfl,.inl ⟨by lia,by lia⟩,_,rfl,_,rfl,b,a2,q,c2,size,rfl,B2,by lia,by lia,by lia,λr3 a3 c3 H3 r30 r31 B3 hc3 s3=>⟨_,_,rfl,rfl,_,_,rfl,gN ?_⟩⟩
 have m0:0<=x * size:=Int.mul_nonneg xb.1 (by lia)
 have ok:0<=(if x * size+r3<9999 then x * size+r3 else 9999)/\(if x * size+r3<9999 then x * size+r3 else 9999)<=9999:=by split <;> lia
 have inU:(if x * size+r3<9999 then x * size+r3 else 9999) / size∈(9999 / size) :: ns:=by
  split
  .have e:(x * size+r3) / size=x:=by
    rw [Int.add_comm,Int.add_mul_ediv_right _ _ (by lia),Int.ediv_eq_zero_of_lt r30 r31,Int.zero_add]
   rw [e]
   exact mem_cons_of_mem _ xm
  .exact mem_cons_self
 generalize (if x * size+r3<9999 then x * size+r3 else 9999)=sp at *
 try dsimp only
 have u3:=(s1.trans s2).trans s3
 refine ⟨_,rfl,rfl,_,rfl,ZfW (λz=>?_) (λz=>?_)⟩
 .exact ⟨_,rfl,_,rfl,b,a3,q,c3,rfl,B3,by lia,λy a4 c4 H4 yb B4 hc4 s4=>⟨(by show 3<=sizeLine; decide),λt ht=>k t (.wt sp y) a4 c4 _ Za ⟨ok,yb⟩ inU (B4.same (Zg ht _)) (by lia) ((u3.trans s4).trans ((Zg ht _).sb b))⟩⟩
 .exact ⟨_,rfl,(by show 2<=sizeLine; decide),λt ht=>k t (.rd sp) a3 c3 _ Za ok inU (B3.same (Zg ht _)) (by lia) (u3.trans ((Zg ht _).sb b))⟩
end
noncomputable def stepS (g:Pln) (d:Dd) (st:Stt):Stt:=match d with
 | .rd sp=>Zaq g (sp / g.size) st
 | .wt sp x=>Zeb g sp x st
section
structure Rdy (K:W.Frag) (H:Hp) (A:TA) (g:Pln) (st:Stt) (os:OS):Prop where
 at_:StairsAt K H A g st os 0
 dj:g.kind = "apart" -> Disj st
theorem Rdy.frame {H H':Hp} {A:TA} {g:Pln} {st:Stt} {os:OS} (r:Rdy K H A g st os) (f:∀ x o,H x=some o->(OW A os x\/¬ Mt o)->H' x=some o):Rdy K H' A g st os:=⟨r.at_.frame f,r.dj⟩
end
structure Lk (a b:Stt):Prop where
 len:b.rm.length=a.rm.length
 sq:∀ j,(b.at_ j).seq=(a.at_ j).seq
 us:∀ j,(b.at_ j).us=(a.at_ j).us
theorem Lk.trans {a b c:Stt} (x:Lk a b) (y:Lk b c):Lk a c:=⟨y.len.trans x.len,λj=>(y.sq j).trans (x.sq j),λj=>(y.us j).trans (x.us j)⟩
theorem Zlk {st:Stt} {k:Nat} {s:Rm} (h1:s.seq=(st.at_ k).seq) (h2:s.us=(st.at_ k).us):Lk st (st.set k s):=by
 refine ⟨set_len,λj=>ZiY h1,λj=>?_⟩
 rw [ZcZ]
 split
 .rename_i q; rw [h2,q.1]
 .rfl
theorem ZoP {g:Pln} {k:Nat} {b:Int} {ws:List Int} {st:Stt}:Lk st (putS g k b ws st):=by
 unfold putS
 split
 .exact ⟨rfl,λ_=>rfl,λ_=>rfl⟩
 .have q:=Zlk (st:=st) (k:=k) (s:=layS (st.at_ k) b ws) rfl rfl
  exact ⟨q.len,q.sq,q.us⟩
theorem Zmi {g:Pln} {k j:Nat} {b:Int} {st:Stt} (hk:k<st.rm.length):(((ZaB g k b st).at_ j).seq=(st.at_ j).seq)\/∃ o,o∈(st.at_ k).seq/\o % (g.cf k).sh=b % (g.cf k).sh/\goneF (g.cf k) (st.at_ k) b=some o/\((ZaB g k b st).at_ j).seq=if j=k\/(g.kind = "within" /\ j<k) then (st.at_ j).seq.erase o else (st.at_ j).seq:=by
 unfold ZaB
 split
 .exact .inl rfl
 .rename_i o e
  exact .inr ⟨o,(ZbP e).1,(ZbP e).2.1,e,Zgl hk⟩
theorem Zll {g:Pln} {k j:Nat} {b:Int} {st:Stt} (hk:k<st.rm.length) (hb:b∉(st.at_ k).seq):b∈((ZaB g k b st).at_ j).seq↔b∈(st.at_ j).seq:=by
 rcases Zmi (g:=g) (j:=j) (b:=b) hk with e | ⟨o,ho,_,_,e⟩
 .rw [e]
 .rw [e]
  split
  .exact List.mem_erase_of_ne λz=>hb (z ▸ ho)
  .exact Iff.rfl
section
def ZbQ (K:W.Frag):Sp:=λvs H Q _=>∃ (p:Addr) (s sh pl:Int) (ru:Str) (ls:Addr) (ads:List Addr) (du:Addr) (seq:List Int) (us:Int->Int) (n:Nat),vs=[.ref p,.int s]/\RoomAt K H p sh pl ru ls ads du seq us n/\Tb K H/\0<=s/\s<sh/\(Zl sh s seq).length<64 /\
 ∀ (D:Addr) (H':Hp) (os:List Int),H D=none->Same H H'->H' D=some (.lst (os.map V.int))->os.Perm (Zl sh s seq)->(ru = "few" -> os.Pairwise (KLt us (Zl sh s seq)))->(ru ≠ "few" -> os=Zl sh s seq)->Q (.ref D) H'
theorem Zdv (F:Fun K "shelf" "Room.shelf" ZbD f fd) (T:Txt K mg) (q6_:MDef P w K mg base (clsOf K "Room") "going" 2 Zao (ZfZ K)):FnOk P w K mg base CX0 3 f fd ZS (ZbQ K):=by
 refine F.ok sc_Room_shelf (λvs H Q E h=>?_) (λcdv A outer st H vs Q E hr h=>?_)
 .obtain ⟨p,s,sh,pl,ru,ls,ads,du,seq,us,n,rfl,_⟩:=h
  rfl
 obtain ⟨p,s,sh,pl,ru,ls,ads,du,seq,us,n,rfl,R,tb,s0,s1,h64,k⟩:=h
 have nd:=sc_Room_shelf.nd
 have hu:=hu_of hr
 refine ⟨_,(Zd (ps_if (Zcl (ZfC op_le op_lt Zj (pv 1) (Zm (K:=K) rfl (pv 0) rfl))) (Zi ps_no) Zu)
   (Zi (Zt (Zk q6_ hr.m T.qb_ (pv 0) (pc (pe_ix (Zn (K:=K) rfl) (Zm (K:=K) rfl (pv 0) rfl) (pv 1) (λ_ _=>rfl)) Zb))))),?_⟩
 obtain ⟨dx,h1⟩:=R.ob
 obtain ⟨i,ad,e1,e2,e3,e4⟩:=R.st.get s0 s1
 have hnd:(Zl sh s seq).Nodup:=R.nd.sublist filter_sublist
 refine ⟨_,rfl,_,_,rfl,rfl,_,rfl,ifT (decide_eq_true s0) ⟨_,rfl,p,_,dx,_,_,rfl,h1,T.qb_,T.vk_,ZdI ..,_,_,rfl,rfl,_,rfl,ifF (by rw [decide_eq_true s1]; rfl) ?_⟩⟩
 refine ⟨_,rfl,p,dx,_,rfl,h1,fl_no ..,_,rfl,p,_,dx,_,_,rfl,h1,T.qb_,T.vv_,ZeI ..,_,rfl,ls,_,_,_,rfl,rfl,SqL.of R.st.top,e3,p,ad,Zl sh s seq,sh,pl,ru,ls,ads,du,seq,us,n,rfl,R,tb,e4,h64,hnd,(λx m=>(mem_shelfS.mp m).1),k⟩
end
section
def ZmO (K:W.Frag):Sp:=λvs H _ E=>∃ (p:Addr) (b sh pl:Int) (ru:Str) (ls:Addr) (ads:List Addr) (du:Addr) (seq:List Int) (us:Int->Int) (n:Nat),vs=[.ref p,.int b]/\RoomAt K H p sh pl ru ls ads du seq us n/\(b<0\/sh<=b)/\b.natAbs<2 ^ 100/\∀ a,E (.ref (clsOf K "NoShelf")) (some a) H
theorem Zfl (F:Fun K "shelf" "Room.shelf" ZbD f fd) (T:Txt K mg) (G:FnOk P w K mg base CX0 3 f fd ZS (ZbQ K)):FnOk P w K mg base (CXr P w) 3 f fd ZS (spOr (ZbQ K) (ZmO K)):=by
 refine G.rise.or (F.okx sc_Room_shelf (λvs H Q E h=>?_) (λcdv A outer st H vs Q E hr h=>?_))
 .obtain ⟨p,b,sh,pl,ru,ls,ads,du,seq,us,n,rfl,_⟩:=h
  rfl
 obtain ⟨p,b,sh,pl,ru,ls,ads,du,seq,us,n,rfl,R,hb,hz,k⟩:=h
 have nd:=sc_Room_shelf.nd
 refine ⟨_,(ZlR (px_if (λ_ _ h=>h) (Zcl (ZfC op_le op_lt Zj (pv 1) (Zm (K:=K) rfl (pv 0) rfl))) (ZhE (ZlU (λ_ _ h=>h) rfl rfl T.jy_ T.jz_.c (pc (ZlX (pv 1) (by decide)) Zb))) Znz)
   ZnA),?_⟩
 obtain ⟨dx,h1⟩:=R.ob
 by_cases c:b<0
 .refine ⟨_,rfl,_,_,rfl,rfl,_,rfl,ifF (decide_eq_false (by lia)) ?_⟩
  exact ⟨_,rfl,ifT rfl ⟨_,rfl,b,rfl,hz,λy=>⟨(by show 1<=sizeLine; decide),k⟩⟩⟩
 .exact ⟨_,rfl,_,_,rfl,rfl,_,rfl,ifT (decide_eq_true (by lia)) ⟨_,rfl,p,_,dx,_,_,rfl,h1,T.qb_,T.vk_,ZdI ..,_,_,rfl,rfl,_,rfl,ifT (by rw [decide_eq_false (by lia)]; rfl) ⟨_,rfl,b,rfl,hz,λy=>⟨(by show 1<=sizeLine; decide),k⟩⟩⟩⟩
end
section
def spBds (K:W.Frag):Sp:=λvs H Q _=>∃ (p:Addr) (sh pl:Int) (ru:Str) (ls:Addr) (ads:List Addr) (du:Addr) (seq:List Int) (us:Int->Int) (n:Nat),vs=[.ref p]/\RoomAt K H p sh pl ru ls ads du seq us n/\seq.length<64 /\
 ∀ (D:Addr) (os:List Int),H D=none->os.Perm seq->os.Pairwise (·<=·)->Q (.ref D) (upd H D (.lst (os.map V.int)))
theorem Zfm (F:Fun K "boards" "Room.boards" ZbV f fd) (T:Txt K mg):FnOk P w K mg base CX0 1 f fd Zba (spBds K):=by
 refine F.ok sc_Room_boards (λvs H Q E h=>?_) (λcdv A outer st H vs Q E hr h=>?_)
 .obtain ⟨p,sh,pl,ru,ls,ads,du,seq,us,n,rfl,_⟩:=h
  rfl
 obtain ⟨p,sh,pl,ru,ls,ads,du,seq,us,n,rfl,R,h64,k⟩:=h
 have nd:=sc_Room_boards.nd
 refine ⟨_,(Zi (Zt (Zr (ZgW rfl) rfl T.ja_ PyProof.Rows.boot_sorted (pc (Zm (K:=K) rfl (pv 0) rfl) Zb)))),?_⟩
 obtain ⟨dx,h1⟩:=R.ob
 obtain ⟨kvs,h2,⟨h3,ks,h4,h5⟩,h6⟩:=R.dc
 have per:ks.Perm seq:=by
  refine (List.perm_ext_iff_of_nodup h5 R.nd).mpr λb=>?_
  have q:=ZfX (kvs:=kvs) (Sum.inl b)
  rw [h6 b,h4] at q
  constructor
  .intro m
   have:=q.mpr (mem_map_of_mem m)
   by_cases c:b∈seq
   .exact c
   .rw [if_neg c] at this; cases this
  .intro m
   rw [if_pos m] at q
   obtain ⟨x,hx,e⟩:=List.mem_map.mp (q.mp rfl)
   rw [← Sum.inl.inj e]; exact hx
 exact ⟨_,rfl,p,_,dx,_,_,rfl,h1,T.qb_,T.vb_,ZdH ..,du,kvs,ks,rfl,h2,h4,by rw [per.length_eq]; exact h64,λD os hD po pw=>k D os hD (po.trans per) pw⟩
end
section
def ZmP (K:W.Frag):Sp:=λvs H Q _=>∃ (A:TA) (g:Pln) (st:Stt) (os:OS) (n k:Nat),vs=[.ref A.p,.int (k:Int)]/\StairsAt K H A g st os n/\k<g.n/\(st.at_ k).seq.length<64/\∀ (D:Addr) (bs:List Int),H D=none->bs.Perm (st.at_ k).seq->bs.Pairwise (·<=·)->Q (.ref D) (upd H D (.lst (bs.map V.int)))
theorem Zgp (F:Fun K "lies" "Steps.lies" Zcv f fd) (T:Txt K mg) (qg_:MDef P w K mg base (clsOf K "Stairs") "store" 1 Zaa (Zdt K)) (q1_:MDef P w K mg base (clsOf K "Room") "boards" 1 Zba (spBds K)):FnOk P w K mg base CX0 2 f fd Zcw (ZmP K):=by
 refine F.ok sc_Steps_lies (λvs H Q E h=>?_) (λcdv A outer s0 H vs Q E hr h=>?_)
 .obtain ⟨A,g,st,os,n,k,rfl,_⟩:=h
  rfl
 obtain ⟨A,g,st,os,n,k,rfl,R,hk,h64,q⟩:=h
 have nd:=sc_Steps_lies.nd
 refine ⟨_,(Zi (Zt (Zco q1_ hr.m T.qb_ (Zm (K:=K) rfl (Zk qg_ hr.m T.qa_ (pv 0) (pc (pv 1) Zb)) rfl)))),?_⟩
 obtain ⟨dx,h1⟩:=R.ob
 have ln:=R.ln
 obtain ⟨a,e1,e2,e3,B⟩:=R.at_ (k:=k) (by lia)
 obtain ⟨ds,h3⟩:=B.sto.ob
 obtain ⟨dr,h4⟩:=B.sto.room.ob
 exact ⟨_,rfl,A.p,dx,_,rfl,h1,tf_no ..,_,rfl,A,g,st,os,n,k,a,rfl,R,e1,a.sp,_,ds,_,_,rfl,h3,T.qc_,T.qo_,Zcg ..,a.rp,dr,_,rfl,h4,fl_no ..,a.rp,(g.cf k).sh,(g.cf k).pl,(g.cf k).ru,a.ls,a.ads,a.du,(st.at_ k).seq,(st.at_ k).us,_,rfl,B.sto.room,h64,q⟩
end
section
def ZeZ (K:W.Frag):Sp:=λvs H Q _=>∃ (A:TA) (g:Pln) (st:Stt) (os:OS) (n k:Nat) (s:Int),vs=[.ref A.p,.int (k:Int),.int s]/\StairsAt K H A g st os n/\k<g.n/\0<=s/\s<(g.cf k).sh /\
 ∀ (D:Addr) (H':Hp) (os:List Int),H D=none->Same H H'->H' D=some (.lst (os.map V.int))->os.Perm (Zl (g.cf k).sh s (st.at_ k).seq)->((g.cf k).ru = "few" -> os.Pairwise (KLt (st.at_ k).us (Zl (g.cf k).sh s (st.at_ k).seq)))->((g.cf k).ru ≠ "few" -> os=Zl (g.cf k).sh s (st.at_ k).seq)->Q (.ref D) H'
theorem ZcA (F:Fun K "order" "Stairs.order" ZaI f fd) (T:Txt K mg) (qg_:MDef P w K mg base (clsOf K "Stairs") "store" 1 Zaa (Zdt K)) (q7_:MDef P w K mg base (clsOf K "Room") "shelf" 3 ZS (ZbQ K)):FnOk P w K mg base CX0 4 f fd ZN (ZeZ K):=by
 refine F.ok sc_Stairs_order (λvs H Q E h=>?_) (λcdv A outer s0 H vs Q E hr h=>?_)
 .obtain ⟨A,g,st,os,n,k,s,rfl,_⟩:=h
  rfl
 obtain ⟨A,g,st,os,n,k,s,rfl,R,hk,n0,n1,q⟩:=h
 have nd:=sc_Stairs_order.nd
 refine ⟨_,(Zi (Zt (Zk q7_ hr.m T.qb_ (Zm (K:=K) rfl (Zk qg_ hr.m T.qa_ (pv 0) (pc (pv 1) Zb)) rfl) (pc (pv 2) Zb)))),?_⟩
 obtain ⟨dx,h1⟩:=R.ob
 have ln:=R.ln
 obtain ⟨a,e1,e2,e3,B⟩:=R.at_ (k:=k) (by lia)
 obtain ⟨u1,u2,u3,u4,u5,u6⟩:=R.bds (k:=k) (by lia)
 obtain ⟨ds,h3⟩:=B.sto.ob
 obtain ⟨dr,h4⟩:=B.sto.room.ob
 have fl:=u3 s
 exact ⟨_,rfl,A.p,dx,_,rfl,h1,tf_no ..,_,rfl,A,g,st,os,n,k,a,rfl,R,e1,a.sp,_,ds,_,_,rfl,h3,T.qc_,T.qo_,Zcg ..,a.rp,dr,_,rfl,h4,fl_no ..,_,rfl,a.rp,s,(g.cf k).sh,(g.cf k).pl,(g.cf k).ru,a.ls,a.ads,a.du,(st.at_ k).seq,(st.at_ k).us,_,rfl,B.sto.room,R.tb,n0,n1,by lia,q⟩
end
section
def Zlm (K:W.Frag):Sp:=λvs H _ E=>∃ (A:TA) (g:Pln) (st:Stt) (os:OS) (n k:Nat) (s:Int),vs=[.ref A.p,.int (k:Int),.int s]/\StairsAt K H A g st os n/\k<g.n/\(s<0\/(g.cf k).sh<=s)/\s.natAbs<2 ^ 100/\∀ a,E (.ref (clsOf K "NoShelf")) (some a) H
theorem Zej (F:Fun K "order" "Stairs.order" ZaI f fd) (T:Txt K mg) (G:FnOk P w K mg base CX0 4 f fd ZN (ZeZ K)) (qg_:MDef P w K mg base (clsOf K "Stairs") "store" 1 Zaa (Zdt K)) (je_:MDefX P w K mg base (clsOf K "Room") "shelf" 3 ZS (spOr (ZbQ K) (ZmO K))):FnOk P w K mg base (CXr P w) 4 f fd ZN (spOr (ZeZ K) (Zlm K)):=by
 refine G.rise.or (F.okx sc_Stairs_order (λvs H Q E h=>?_) (λcdv A outer st H vs Q E hr h=>?_))
 .obtain ⟨A,g,st,os,n,k,s,rfl,_⟩:=h
  rfl
 obtain ⟨A,g,st,os,n,k,s,rfl,R,hk,hs,hz,q⟩:=h
 have nd:=sc_Stairs_order.nd
 refine ⟨_,(ZhE (ZoE (ZgX je_ (λ_ _ h=>h) hr.m T.qb_ (Zm (K:=K) rfl (Zk qg_ hr.m T.qa_ (pv 0) (pc (pv 1) Zb)) rfl) (pc (pv 2) Zb)))),?_⟩
 obtain ⟨dx,h1⟩:=R.ob
 have ln:=R.ln
 obtain ⟨a,e1,e2,e3,B⟩:=R.at_ (k:=k) (by lia)
 obtain ⟨ds,h3⟩:=B.sto.ob
 obtain ⟨dr,h4⟩:=B.sto.room.ob
 exact ⟨_,rfl,A.p,dx,_,rfl,h1,tf_no ..,_,rfl,A,g,st,os,n,k,a,rfl,R,e1,a.sp,_,ds,_,_,rfl,h3,T.qc_,T.qo_,Zcg ..,a.rp,dr,_,rfl,h4,fl_no ..,_,rfl,.inr ⟨a.rp,s,(g.cf k).sh,(g.cf k).pl,(g.cf k).ru,a.ls,a.ads,a.du,(st.at_ k).seq,(st.at_ k).us,_,rfl,B.sto.room,hs,hz,λy=>⟨_,_,rfl,rfl,q y⟩⟩⟩
def Zhr (K:W.Frag):Sp:=λvs H Q _=>∃ (A:TA) (g:Pln) (st:Stt) (os:OS) (n k:Nat) (s:Int),vs=[.ref A.p,.int (k:Int),.int s]/\StairsAt K H A g st os n/\k<g.n/\(s<0\/(g.cf k).sh<=s)/\s.natAbs<2 ^ 100/\∀ H',Same H H'->Q (.bl true) H'
theorem ZhX (F:Fun K "_law_no_shelf" "_law_no_shelf" ZdE f fd) (T:Txt K mg) (vz_:MDefX P w K mg base (clsOf K "Stairs") "order" 4 ZN (spOr (ZeZ K) (Zlm K))):FnOk P w K mg base CX0 5 f fd ZdF (Zhr K):=by
 refine F.ok sc_no_shelf (λvs H Q E h=>?_) (λcdv A outer s0 H vs Q E hr h=>?_)
 .obtain ⟨A,g,st,os,n,k,s,rfl,_⟩:=h
  rfl
 obtain ⟨A,g,st,os,n,k,s,rfl,R,hk,hs,hz,q⟩:=h
 have nd:=sc_no_shelf.nd
 have hu:=hu_of hr
 refine ⟨_,(Zd (pst 3 nd Zmq)
   (Zd (ZlW (K:=K) (i:=4) rfl rfl rfl rfl T.jy_ nd rfl rfl (ZhE (Znu (ZgX vz_ (λ_ _ h=>h) hr.m T.qa_ (pv 0) (pc (pv 1) (pc (pv 2) Zb))))) (λ_=>(Zi (pst 3 nd (pv 4)))))
   (Zi (Zt (Zfo (Zms (ZfA (pv 3))) (Zfn (Zr (ZlV (K:=K) rfl) rfl T.qi_ Zar (pc (pv 3) (pc (ZaC (v:=.ty "ValueError") rfl T.v9_ Zed rfl) Zb))))))))),?_⟩
 obtain ⟨dx,h1⟩:=R.ob
 have nd3:=T.jz_
 refine ⟨_,rfl,A.p,dx,_,rfl,h1,tf_no ..,_,rfl,_,rfl,.inr ⟨A,g,st,os,n,k,s,rfl,R,hk,hs,hz,λa=>⟨_,_,rfl,rfl,nd3.s,λH2 ha e2=>⟨_,rfl,?_⟩⟩⟩⟩
 subst e2
 exact ⟨_,rfl,_,rfl,ifT rfl ⟨_,rfl,a,_,_,.type "ValueError",true,rfl,Za,nd3.a,(λv r=>r),nd3.v,q _ (Zg ha _)⟩⟩
end
theorem Zmj {ru:Str} {us:Int->Int} {pl:Int} {ms:List Int} (nd:ms.Nodup) (hp:1<=pl):∃ g,goneP ru us pl ms g:=by
 by_cases c:(ms.length:Int)<pl
 .exact ⟨none,λ_=>rfl,λn=>absurd c n⟩
 .by_cases r:ru = "few"
  .have tr:∀ a b d:Int,decide (us a<us b\/(us a=us b/\ms.idxOf a<=ms.idxOf b))=true->decide (us b<us d\/(us b=us d/\ms.idxOf b<=ms.idxOf d))=true->decide (us a<us d\/(us a=us d/\ms.idxOf a<=ms.idxOf d))=true:=λa b d h1 h2=>by
    have h1:=of_decide_eq_true h1
    have h2:=of_decide_eq_true h2
    exact decide_eq_true (by lia)
   have to:∀ a b:Int,(decide (us a<us b\/(us a=us b/\ms.idxOf a<=ms.idxOf b)) || decide (us b<us a\/(us b=us a/\ms.idxOf b<=ms.idxOf a)))=true:=λa b=>by
    rw [Bool.or_eq_true,decide_eq_true_eq,decide_eq_true_eq]
    lia
   have pm:=List.mergeSort_perm ms λa b=>decide (us a<us b\/(us a=us b/\ms.idxOf a<=ms.idxOf b))
   have so:=List.pairwise_mergeSort tr to ms
   generalize ms.mergeSort (λa b=>decide (us a<us b\/(us a=us b/\ms.idxOf a<=ms.idxOf b)))=os at *
   have ndo:os.Nodup:=pm.nodup_iff.mpr nd
   have pw:os.Pairwise (KLt us ms):=by
    have h2:=List.nodup_iff_pairwise_ne.mp ndo
    refine (so.and h2).imp_of_mem λ{a b} ha hb ⟨q1,q2⟩=>?_
    have q1:=of_decide_eq_true q1
    have ne:ms.idxOf a≠ms.idxOf b:=λz=>q2 (by
     have e1:=List.getElem_idxOf (List.idxOf_lt_length_of_mem (pm.mem_iff.mp ha))
     have e2:=List.getElem_idxOf (List.idxOf_lt_length_of_mem (pm.mem_iff.mp hb))
     rw [← e1,← e2]
     congr 1)
    unfold KLt
    lia
   cases os with
   | nil=>have:=pm.length_eq; simp at this; lia
   | cons g rest=>exact ⟨some g,λn=>absurd n c,λ_=>⟨g,rest,rfl,pm,λ_=>pw,λn=>absurd r n⟩⟩
  .cases ms with
   | nil=>simp at c; lia
   | cons g rest=>exact ⟨some g,λn=>absurd n c,λ_=>⟨g,rest,rfl,List.Perm.refl _,λn=>absurd n r,λ_=>rfl⟩⟩
theorem Zmk {c:Cf} {s:Rm} {b:Int} (nd:s.seq.Nodup) (hp:1<=c.pl):goneP c.ru s.us c.pl (Zl c.sh (b % c.sh) s.seq) (goneF c s b):=by
 have e:=Zmj (ru:=c.ru) (us:=s.us) (pl:=c.pl) (ms:=Zl c.sh (b % c.sh) s.seq) (nd.sublist filter_sublist) hp
 unfold goneF
 rw [dif_pos e]
 exact Classical.choose_spec e
abbrev Rs:=Nat->Rm
def fset (ρ:Rs) (k:Nat) (s:Rm):Rs:=λj=>if j=k then s else ρ j
inductive Stp (g:Pln) (b:Int):Rs->List V->Rs->Prop
 | fd {k:Nat} {ρ:Rs}:k<g.n->b∈(ρ k).seq->Stp g b ρ (eF k) (fset ρ k (useS (g.cf k) (ρ k) b))
 | fm {ρ:Rs}:Stp g b ρ (eF g.n) ρ
 | out {k:Nat} {o:Int} {ρ:Rs}:k<g.n->o∈(ρ k).seq->Stp g b ρ (eO k o) (fset ρ k (outS (ρ k) o))
 | inn {k:Nat} {o:Int} {ws:List Int} {ρ:Rs}:k<g.n->o∉(ρ k).seq->((Zl (g.cf k).sh (o % (g.cf k).sh) (ρ k).seq).length:Int)<(g.cf k).pl->Stp g b ρ (eI k o) (fset ρ k (inS (ρ k) o ws))
 | wds {k:Nat} {o:Int} {ρ:Rs}:Stp g b ρ (eW k o) ρ
def RpL (g:Pln) (b:Int):List (List V)->Rs->Rs->Prop
 | [],ρ,ρ'=>ρ=ρ'
 | e :: es,ρ,ρ'=>∃ ρ1,Stp g b ρ e ρ1/\RpL g b es ρ1 ρ'
theorem RpL.snoc {g:Pln} {b:Int} {e:List V} {ρ2:Rs}:∀ {es:List (List V)} {ρ ρ1:Rs},RpL g b es ρ ρ1->Stp g b ρ1 e ρ2->RpL g b (es++[e]) ρ ρ2
 | [],ρ,ρ1,h,s=>⟨ρ2,by rw [show ρ=ρ1 from h]; exact s,rfl⟩
 | _ :: _,_,_,⟨r,h1,h2⟩,s=>⟨r,h1,h2.snoc s⟩
theorem RpL.wds {g:Pln} {b:Int} {ρ ρ1:Rs}:∀ {fs es:List (List V)},RpL g b es ρ ρ1->(∀ e∈fs,∃ k o,e=eW k o)->RpL g b (es++fs) ρ ρ1
 | [],es,h,_=>by rw [append_nil]; exact h
 | f :: fs,es,h,n=>by
  obtain ⟨k,o,rfl⟩:=n f mem_cons_self
  have q:=RpL.wds (fs:=fs) (h.snoc (Stp.wds (k:=k) (o:=o))) λe he=>n e (mem_cons_of_mem _ he)
  rw [append_assoc] at q
  exact q
def Ag (ρ:Rs) (st:Stt):Prop:=∀ k,(ρ k).seq=(st.at_ k).seq/\∀ x∈(st.at_ k).seq,(ρ k).us x=(st.at_ k).us x
def Wx (a b:Stt):Prop:=Lk a b/\∃ es,b.ev=a.ev++es/\∀ e∈es,∃ k o,e=eW k o
theorem Wx.trans {a b c:Stt} (x:Wx a b) (y:Wx b c):Wx a c:=by
 obtain ⟨l1,p,hp,h1⟩:=x
 obtain ⟨l2,q,hq,h2⟩:=y
 exact ⟨l1.trans l2,p++q,by rw [hq,hp,append_assoc],λe h=>(List.mem_append.mp h).elim (h1 e) (h2 e)⟩
theorem Wx.of {a b:Stt} (l:Lk a b) (e:b.ev=a.ev):Wx a b:=⟨l,[],by rw [e,append_nil],λe h=>(nomatch h)⟩
section
variable {g:Pln} {b:Int} {a:Rs} {st st':Stt} {k:Nat} {o:Int} {ws:List Int}
theorem wx_put:Wx st (putS g k o ws st):=by
 refine ⟨ZoP,[eW k o],?_,λe h=>⟨k,o,List.mem_singleton.mp h⟩⟩
 unfold putS
 split <;> rfl
theorem Zjd:Wx st (ZiX k o st):=Wx.of (Zlk (s:=frS (st.at_ k) o) rfl rfl) rfl
theorem Zgq:∀ {r k:Nat} {st:Stt},Wx st (goOn g o ws r k st)
 | 0,k,st=>wx_put
 | r+1,k,st=>by
  rw [goOn]
  split
  .split
   .exact wx_put.trans Zjd
   .exact wx_put.trans Zgq
  .exact Zgq
theorem Zhs:Wx st (Zch g k o st):=by
 unfold Zch
 split
 .exact Zjd
 .exact Zgq
structure Rv (g:Pln) (b:Int) (a:Rs) (st:Stt):Prop where
 len:st.rm.length=g.n
 rp:∃ ρ,RpL g b st.ev a ρ/\Ag ρ st
 full:∀ k,k<g.n->∀ t,((Zl (g.cf k).sh t (st.at_ k).seq).length:Int)<=(g.cf k).pl
 nd:∀ k,(st.at_ k).seq.Nodup
theorem Rv.wx (h:Rv g b a st) (x:Wx st st'):Rv g b a st':=by
 obtain ⟨l,es,e,n⟩:=x
 obtain ⟨ρ,h1,h2⟩:=h.rp
 refine ⟨l.len.trans h.len,⟨ρ,by rw [e]; exact h1.wds n,λk=>?_⟩,λk hk=>by rw [l.sq]; exact h.full k hk,λk=>by rw [l.sq]; exact h.nd k⟩
 rw [l.sq,l.us]
 exact h2 k
theorem rv_up (h:Rv g b a st) {s:Rm} {e:List V} {ρ ρ':Rs} (hk:k<g.n) (hr:st'.rm=st.rm.set k s) (he:st'.ev=st.ev++[e]) (h1:RpL g b st.ev a ρ) (h2:Stp g b ρ e ρ') (ag:∀ j,j≠k->ρ' j=ρ j) (ag1:∀ j,j≠k->(ρ j).seq=(st.at_ j).seq/\∀ x∈(st.at_ j).seq,(ρ j).us x=(st.at_ j).us x) (agk:(ρ' k).seq=s.seq/\∀ x∈s.seq,(ρ' k).us x=s.us x) (hf:∀ t,((Zl (g.cf k).sh t s.seq).length:Int)<=(g.cf k).pl) (nd:s.seq.Nodup):Rv g b a st':=by
 have ha:∀ j,st'.at_ j=if j=k then s else st.at_ j:=λj=>by
  have e2:st'.at_ j=(st.set k s).at_ j:=by unfold Stt.at_ Stt.set; rw [hr]
  rw [e2,ZcZ]
  by_cases c:j=k
  .rw [if_pos ⟨c,by rw [h.len]; exact hk⟩,if_pos c]
  .rw [if_neg λz=>c z.1,if_neg c]
 refine ⟨by rw [hr,length_set]; exact h.len,⟨ρ',by rw [he]; exact h1.snoc h2,λj=>?_⟩,λj hj=>?_,λj=>?_⟩
 .rw [ha]
  by_cases c:j=k
  .rw [if_pos c,c]; exact agk
  .rw [if_neg c,ag j c]; exact ag1 j c
 .rw [ha]
  by_cases c:j=k
  .rw [if_pos c,c]; exact hf
  .rw [if_neg c]; exact h.full j hj
 .rw [ha]
  by_cases c:j=k
  .rw [if_pos c]; exact nd
  .rw [if_neg c]; exact h.nd j
theorem Zai {ρ:Rs} {s:Rm}:fset ρ k s k=s:=if_pos rfl
theorem Zci {ρ:Rs} {s:Rm} {j:Nat} (h:j≠k):fset ρ k s j=ρ j:=if_neg h
theorem rv_go (h:Rv g b a st) (hk:k<g.n) (ho:o∈(st.at_ k).seq):Rv g b a (goS k o st):=by
 obtain ⟨ρ,h1,h2⟩:=h.rp
 refine rv_up (s:=outS (st.at_ k) o) h hk rfl rfl h1 (.out hk (by rw [(h2 k).1]; exact ho)) (λj c=>Zci c) (λj _=>h2 j) ?_ (ZeM (h.full k hk) erase_sublist) ((h.nd k).erase _)
 rw [Zai]
 refine ⟨by show (ρ k).seq.erase o=_; rw [(h2 k).1]; rfl,λx hx=>(h2 k).2 x (mem_of_mem_erase hx)⟩
theorem ZhY (h:Rv g b a st) (hk:k<g.n) (ho:o∉(st.at_ k).seq) (hl:((Zl (g.cf k).sh (o % (g.cf k).sh) (st.at_ k).seq).length:Int)<(g.cf k).pl):Rv g b a (comeS k o ws st):=by
 obtain ⟨ρ,h1,h2⟩:=h.rp
 refine rv_up (s:=inS (st.at_ k) o ws) h hk rfl rfl h1 (.inn (ws:=ws) hk (by rw [(h2 k).1]; exact ho) (by rw [(h2 k).1]; exact hl)) (λj c=>Zci c) (λj _=>h2 j) ?_ (ZkZ (h.full k hk) hl) (ZeG (h.nd k) ho)
 rw [Zai]
 refine ⟨by show (ρ k).seq++[o]=_; rw [(h2 k).1]; rfl,λx hx=>?_⟩
 show zero (ρ k).us o x=zero (st.at_ k).us o x
 unfold zero
 by_cases c:x=o
 .rw [if_pos c,if_pos c]
 .rw [if_neg c,if_neg c]
  rcases List.mem_append.mp hx with hx | hx
  .exact (h2 k).2 x hx
  .exact absurd (List.mem_singleton.mp hx) c
theorem ZhZ:∀ {k:Nat} {st:Stt} {ws:List Int} {fr:Bool},k<=g.n->Rv g b a st->Rv g b a (outsS o k st ws fr).1
 | 0,st,ws,fr,_,h=>h
 | k+1,st,ws,fr,hk,h=>by
  rw [outsS]
  split
  .rename_i c
   exact ZhZ (by lia) (rv_go h (by lia) c)
  .exact ZhZ (by lia) h
theorem Zml (h:Rv g b a st) (hk:k<g.n) (ho:o∈(st.at_ k).seq):Rv g b a (Zea g k o st):=by
 have h1:=rv_go h hk ho
 have h2:Rv g b a (drv1 g k o st).1:=by
  unfold drv1
  split
  .exact ZhZ (by lia) h1
  .exact h1
 unfold Zea
 split
 .exact h2.wx Zgq
 .exact h2
theorem Zmm (h:Rv g b a st) (hk:k<g.n):Rv g b a (ZaB g k o st):=by
 unfold ZaB
 split
 .exact h
 .rename_i x e
  exact Zml h hk (ZbP e).1
theorem Zln {c:Cf} {s:Rm} (nd:s.seq.Nodup) (hp:1<=c.pl) (hf:∀ t,((Zl c.sh t s.seq).length:Int)<=c.pl) {x:Option Int} (e:goneF c s o=x):((Zl c.sh (o % c.sh) (lessO s.seq x)).length:Int)<c.pl:=by
 have q:=Zmk (b:=o) nd hp
 rw [e] at q
 by_cases c1:((Zl c.sh (o % c.sh) s.seq).length:Int)<c.pl
 .have ex:=q.1 c1
  subst ex
  exact c1
 .obtain ⟨y,rest,rfl,po,_⟩:=q.2 c1
  have my:y∈Zl c.sh (o % c.sh) s.seq:=po.mem_iff.mp mem_cons_self
  show ((Zl c.sh (o % c.sh) (s.seq.erase y)).length:Int)<c.pl
  rw [Zap,List.length_erase_of_mem my]
  have:=List.length_pos_of_mem my
  have:=hf (o % c.sh)
  lia
theorem Zmn (h:Rv g b a st) (hk:k<g.n) (hp:1<=(g.cf k).pl):((Zl (g.cf k).sh (o % (g.cf k).sh) ((ZaB g k o st).at_ k).seq).length:Int)<(g.cf k).pl:=by
 have q:=λx=>Zln (o:=o) (x:=x) (h.nd k) hp (h.full k hk)
 unfold ZaB
 split
 .rename_i e
  exact q _ e
 .rename_i y e
  rw [Zgl (by rw [h.len]; exact hk),if_pos (.inl rfl)]
  exact q _ e
theorem Zlo (hp:∀ k,k<g.n->1<=(g.cf k).pl):∀ {k:Nat} {st:Stt},k<=g.n->Rv g b a st->(∀ j,j<k->o∉(st.at_ j).seq)->Rv g b a (downS g o ws k st)
 | 0,st,_,h,_=>h
 | k+1,st,hk,h,hb=>by
  have hkl:k<st.rm.length:=by rw [h.len]; lia
  have lm:=λj=>Zll (g:=g) (j:=j) hkl (hb k (by lia))
  have nl:=Zmn (o:=o) h (by lia) (hp k (by lia))
  have h1:=Zmm (o:=o) h (show k<g.n by lia)
  refine Zlo hp (k:=k) (by lia) (ZhY h1 (by lia) (λz=>hb k (by lia) ((lm k).mp z)) nl) λj hj z=>?_
  rw [ZeT (by rw [h1.len]; lia),if_neg (by lia)] at z
  exact hb j (by lia) ((lm j).mp z)
theorem Zje {fr:Bool} (h:Rv g b a st) (hk:k<g.n) (ho:o∉(st.at_ k).seq) (hl:((Zl (g.cf k).sh (o % (g.cf k).sh) (st.at_ k).seq).length:Int)<(g.cf k).pl):Rv g b a (comeA g k o ws fr st):=by
 unfold comeA
 split
 .exact (ZhY h hk ho hl).wx Zhs
 .exact ZhY h hk ho hl
theorem Zia (hp:∀ k,k<g.n->1<=(g.cf k).pl):∀ {r k:Nat} {o:Int} {ws:List Int} {fr:Bool} {st:Stt},k+r=g.n->Rv g b a st->(∀ j,k<=j->j<g.n->o∉(st.at_ j).seq)->(∀ i j x,k<=i->i<j->j<g.n->x∈(st.at_ i).seq->x∉(st.at_ j).seq)->Rv g b a (pushS g r k o ws fr st)
 | 0,k,o,ws,fr,st,e,h,_,_=>by
  unfold pushS
  split
  .exact h.wx wx_put
  .exact h
 | r+1,k,o,ws,fr,st,e,h,hb,hd=>by
  have hk:k<g.n:=by lia
  have q:=λx=>Zln (o:=o) (x:=x) (h.nd k) (hp k hk) (h.full k hk)
  unfold pushS
  split
  .rename_i eo
   exact Zje h hk (hb k (Nat.le_refl _) hk) (q _ eo)
  .rename_i y eo
   have om:=(ZbP eo).1
   have len1:k<st.rm.length:=by rw [h.len]; exact hk
   have h1:=rv_go h hk om
   have sk:((goS k y st).at_ k).seq=(st.at_ k).seq.erase y:=by rw [go_sq len1,if_pos rfl]
   have nb:o∉((goS k y st).at_ k).seq:=λz=>by
    rw [sk] at z
    exact hb k (Nat.le_refl _) hk (mem_of_mem_erase z)
   have sq2:∀ (fr:Bool) j,k+1<=j->((comeA g k o ws fr (goS k y st)).at_ j).seq=(st.at_ j).seq:=λfr j hj=>by
    rw [Zgm (by rw [h1.len]; exact hk),if_neg (by lia),go_sq len1,if_neg (by lia)]
   refine Zia hp (by lia) (Zje (fr:=fr) h1 hk nb (by rw [sk]; exact q _ eo)) (λj h4 h5=>?_) λi j x h4 h5 h6=>?_
   .rw [sq2 _ j h4]
    exact hd k j y (Nat.le_refl _) (by lia) h5 om
   .rw [sq2 _ i h4,sq2 _ j (by lia)]
    exact hd i j x (by lia) h5 h6
theorem Zjf (hp:∀ k,k<g.n->1<=(g.cf k).pl) (len:st.rm.length=g.n) (he:st.ev=[]) (ag:Ag a st) (full:∀ k,k<g.n->∀ t,((Zl (g.cf k).sh t (st.at_ k).seq).length:Int)<=(g.cf k).pl) (nd:∀ k,(st.at_ k).seq.Nodup) (dj:g.kind = "apart" -> Disj st):Rv g b a (Zaq g b st):=by
 have h0:Rv g b a st:=⟨len,⟨a,by rw [he]; rfl,ag⟩,full,nd⟩
 have nl:=ZeU st b
 have r0:RpL g b st.ev a a:=by rw [he]; rfl
 have hn:nearF st b<g.n->b∈(st.at_ (nearF st b)).seq:=λc=>Zgn (by rw [len]; exact c)
 have useAg:∀ {k:Nat},b∈(st.at_ k).seq->(useS (g.cf k) (a k) b).seq=(useS (g.cf k) (st.at_ k) b).seq/\∀ x∈(useS (g.cf k) (st.at_ k) b).seq,(useS (g.cf k) (a k) b).us x=(useS (g.cf k) (st.at_ k) b).us x:=λ{k} hb=>by
  refine ⟨by unfold useS; dsimp only; rw [(ag k).1],λx hx=>?_⟩
  have hx':=(Zbd hb).mem_iff.mp hx
  show bump (a k).us b x=bump (st.at_ k).us b x
  unfold bump
  rw [(ag k).2 x hx',(ag k).2 b hb]
 have used:nearF st b<g.n->Rv g b a (usedS g (nearF st b) b (st.tell (eF (nearF st b)))):=λc=>by
  have hb:=hn c
  unfold usedS
  rw [if_pos c]
  refine rv_up (s:=useS (g.cf (nearF st b)) (st.at_ (nearF st b)) b) h0 c rfl rfl r0 (.fd c (by rw [(ag _).1]; exact hb)) (λj c=>Zci c) (λj _=>ag j) ?_ (Zhl (full _ c) (Zbd hb)) ((Zbd hb).nodup_iff.mpr (nd _))
  rw [Zai]
  exact useAg hb
 have mem:¬ nearF st b<g.n->Rv g b a (st.tell (eF (nearF st b))):=λc=>by
  have e:nearF st b=g.n:=by lia
  rw [e]
  exact ⟨len,⟨a,r0.snoc .fm,ag⟩,full,nd⟩
 unfold Zaq
 split
 .rename_i ka
  have D:=dj ka
  have dd:∀ i j x,0<=i->i<j->j<g.n->x∈(st.at_ i).seq->x∉(st.at_ j).seq:=λi j x _ h1 h2=>D i j (by rw [len]; lia) (by rw [len]; exact h2) (by lia) x
  unfold Zfv
  split
  .rename_i c
   by_cases z:nearF st b<g.n
   .have q:=used z
    rw [c] at q ⊢
    exact q
   .have q:=mem z
    unfold usedS
    rw [if_neg (by lia)]
    exact q
  .split
   .rename_i c
    exact Zia hp (by lia) (mem (by lia)) (λj _ hj=>Zdu (st:=st) (by lia) (by rw [len]; exact hj)) dd
   .rename_i c1 c2
    have hk:nearF st b<g.n:=by lia
    have hb:=hn hk
    have hl:nearF st b<(st.tell (eF (nearF st b))).rm.length:=by show _<st.rm.length; rw [len]; exact hk
    have q:Rv g b a (goS (nearF st b) b (st.tell (eF (nearF st b)))):=by
     have r1:=r0.snoc (Stp.fd (g:=g) (b:=b) (ρ:=a) hk (by rw [(ag _).1]; exact hb))
     have m2:b∈(fset a (nearF st b) (useS (g.cf (nearF st b)) (a (nearF st b)) b) (nearF st b)).seq:=by
      rw [Zai,(useAg hb).1]
      exact (Zbd hb).mem_iff.mpr hb
     have r2:=r1.snoc (Stp.out (g:=g) (b:=b) hk m2)
     have ha:∀ j,(goS (nearF st b) b (st.tell (eF (nearF st b)))).at_ j=if j=nearF st b then outS (st.at_ (nearF st b)) b else st.at_ j:=λj=>by
      unfold goS
      rw [ZcZ]
      by_cases c:j=nearF st b
      .rw [if_pos ⟨c,hl⟩,if_pos c]; rfl
      .rw [if_neg λz=>c z.1,if_neg c]; rfl
     have er:(useS (g.cf (nearF st b)) (st.at_ (nearF st b)) b).seq.erase b=(st.at_ (nearF st b)).seq.erase b:=by
      show (if _ then _ else _:List Int).erase b=_
      split
      .rw [List.erase_append_right _ (λz=>((nd _).mem_erase_iff.mp z).1 rfl)]; simp
      .rfl
     refine ⟨by rw [Zec]; exact len,⟨_,r2,λj=>?_⟩,λj hj=>?_,λj=>?_⟩
     .rw [ha]
      by_cases c:j=nearF st b
      .rw [if_pos c,c,Zai,Zai]
       refine ⟨?_,λx hx=>?_⟩
       .show (useS _ (a (nearF st b)) b).seq.erase b=_
        rw [(useAg hb).1,er]; rfl
       .have hx':x∈(st.at_ (nearF st b)).seq.erase b:=hx
        obtain ⟨n1,n2⟩:=(nd _).mem_erase_iff.mp hx'
        show bump (a (nearF st b)).us b x=(st.at_ (nearF st b)).us x
        unfold bump
        rw [if_neg n1]
        exact (ag _).2 x n2
      .rw [if_neg c,Zci c,Zci c]
       exact ag j
     .rw [ha]
      split
      .rename_i c; rw [c]; exact ZeM (full _ hk) erase_sublist
      .exact full j hj
     .rw [ha]
      split
      .exact (nd _).erase _
      .exact nd j
    refine Zia hp (by lia) q (λj _ hj z=>?_) λi j x _ h1 h2 hx z=>?_
    .rw [go_sq hl] at z
     split at z
     .rename_i c
      exact ((nd _).mem_erase_iff.mp (by rw [c] at z; exact z)).1 rfl
     .rename_i c
      exact D (nearF st b) j (by rw [len]; exact hk) (by rw [len]; exact hj) (λq=>c q.symm) b hb z
    .have sub:∀ j x,x∈((goS (nearF st b) b (st.tell (eF (nearF st b)))).at_ j).seq->x∈(st.at_ j).seq:=λj x z=>by
      rw [go_sq hl] at z
      split at z
      .exact mem_of_mem_erase z
      .exact z
     exact dd i j x (Nat.zero_le _) h1 h2 (sub i x hx) (sub j x z)
 .unfold Zho
  have um:∀ j,((usedS g (nearF st b) b (st.tell (eF (nearF st b)))).at_ j).seq=(st.at_ j).seq\/j=nearF st b:=λj=>by
   by_cases c:j=nearF st b
   .exact .inr c
   .refine .inl ?_
    unfold usedS
    split
    .rw [ZcZ,if_neg λz=>c z.1]; rfl
    .rfl
  have q:Rv g b a (usedS g (nearF st b) b (st.tell (eF (nearF st b)))):=by
   by_cases z:nearF st b<g.n
   .exact used z
   .have q:=mem z
    unfold usedS
    rw [if_neg z]
    exact q
  refine Zlo hp (by lia) q λj hj=>?_
  rw [(um j).resolve_right (by lia)]
  exact Zdu hj (by lia)
theorem ZnQ {d:Dd} (hp:∀ k,k<g.n->1<=(g.cf k).pl) (len:st.rm.length=g.n) (he:st.ev=[]) (ag:Ag a st) (full:∀ k,k<g.n->∀ t,((Zl (g.cf k).sh t (st.at_ k).seq).length:Int)<=(g.cf k).pl) (nd:∀ k,(st.at_ k).seq.Nodup) (dj:g.kind = "apart" -> Disj st):Rv g (d.sp / g.size) a (stepS g d st):=by
 cases d with
 | rd sp=>exact Zjf hp len he ag full nd dj
 | wt sp v=>exact (Zjf (b:=sp / g.size) hp len he ag full nd dj).wx ((Wx.of (Zlk (s:=pwS g ((Zaq g (sp / g.size) st).at_ 0) sp v) rfl rfl) rfl).trans Zhs)
end
structure RA where
 p:Addr
 ls:Addr
 du:Addr
 ads:List Addr
def RA.ow (r:RA) (x:Addr):Prop:=x=r.p\/x=r.ls\/x∈r.ads\/x=r.du
structure RsAt (K:W.Frag) (G:Hp) (lq:Addr) (rs:List RA) (g:Pln) (ρ:Rs):Prop where
 el:G lq=some (.lst (rs.map λr=>V.ref r.p))
 len:rs.length=g.n
 at_:∀ (k:Nat) (r:RA),rs[k]?=some r->RoomAt K G r.p (g.cf k).sh (g.cf k).pl (g.cf k).ru r.ls r.ads r.du (ρ k).seq (ρ k).us (ρ k).seq.length
 ap:∀ (i j:Nat) (ri rj:RA),rs[i]?=some ri->rs[j]?=some rj->i≠j->∀ x,x∈ri.ads\/x=ri.du->¬ rj.ow x
 nl:∀ (k:Nat) (r:RA),rs[k]?=some r->lq∉r.ads/\lq≠r.du
def SRs (rs:List RA) (G G1:Hp):Prop:=∀ x o,G x=some o->(∀ r∈rs,x∉r.ads/\x≠r.du)->G1 x=some o
theorem SRs.of {rs:List RA} {G G1:Hp} (s:Same G G1):SRs rs G G1:=λx o e _=>s x o e
theorem SRs.trans {rs:List RA} {G G1 G2:Hp} (a:SRs rs G G1) (b:SRs rs G1 G2):SRs rs G G2:=λx o e n=>b x o (a x o e n) n
theorem SRs.tup {K:W.Frag} {G G1:Hp} {lq:Addr} {rs:List RA} {g:Pln} {ρ:Rs} (h:RsAt K G lq rs g ρ) (s:SRs rs G G1) {x:Addr} {o:HO} (e:G x=some o) (n:¬ Mt o):G1 x=some o:=s x o e λr hr=>by
 obtain ⟨k,hk⟩:=List.mem_iff_getElem?.mp hr
 have R:=h.at_ k r hk
 refine ⟨λz=>?_,λz=>?_⟩
 .obtain ⟨xs,q⟩:=R.st.one z
  rw [q] at e; cases e; exact n trivial
 .obtain ⟨kv,q,_⟩:=R.dc
  rw [z,q] at e; cases e; exact n trivial
section
variable {K:W.Frag} {G G1:Hp} {lq:Addr} {rs:List RA} {g:Pln} {ρ:Rs}
theorem RsAt.frame (h:RsAt K G lq rs g ρ) (f:∀ x o,G x=some o->(x=lq\/∃ r∈rs,r.ow x)->G1 x=some o):RsAt K G1 lq rs g ρ :=
 ⟨f _ _ h.el (.inl rfl),h.len,λk r e=>(h.at_ k r e).frame λx o z q=>f x o q (.inr ⟨r,mem_of_getElem? e,z⟩),h.ap,h.nl⟩
theorem RsAt.same (h:RsAt K G lq rs g ρ) (s:Same G G1):RsAt K G1 lq rs g ρ:=h.frame λx o e _=>s x o e
theorem RsAt.step {k:Nat} {r:RA} {s':Rm} {n:Nat} (h:RsAt K G lq rs g ρ) (hr:rs[k]?=some r) (R:RoomAt K G1 r.p (g.cf k).sh (g.cf k).pl (g.cf k).ru r.ls r.ads r.du s'.seq s'.us n) (s:SR r.ads r.du G G1):RsAt K G1 lq rs g (fset ρ k s')/\SRs rs G G1:=by
 refine ⟨⟨s _ _ h.el (h.nl k r hr).2 (h.nl k r hr).1,h.len,λj t e=>?_,h.ap,h.nl⟩,λx o e n=>s x o e (n r (mem_of_getElem? hr)).2 (n r (mem_of_getElem? hr)).1⟩
 by_cases c:j=k
 .subst c
  rw [hr] at e
  cases e
  rw [Zai]
  exact R.norm
 .rw [Zci c]
  exact (h.at_ j t e).frame λx o z q=>s x o q (λy=>h.ap k j r t hr e (Ne.symm c) x (.inr y) z) λy=>h.ap k j r t hr e (Ne.symm c) x (.inl y) z
theorem RsAt.get (h:RsAt K G lq rs g ρ) {k:Nat} (hk:k<g.n):∃ r,rs[k]?=some r/\(rs.map λr=>V.ref r.p)[k]?=some (V.ref r.p):=by
 have e:rs[k]?=some (rs[k]'(by rw [h.len]; exact hk)):=getElem?_eq_getElem _
 exact ⟨_,e,by rw [getElem?_map,e]; rfl⟩
end
theorem RsAt.fresh {K:W.Frag} {G:Hp} {lq:Addr} {rs:List RA} {g:Pln} {ρ:Rs} (h:RsAt K G lq rs g ρ) {x:Addr} (e:G x=none):∀ r∈rs,x∉r.ads/\x≠r.du:=λr hr=>by
 obtain ⟨k,hk⟩:=List.mem_iff_getElem?.mp hr
 have R:=h.at_ k r hk
 refine ⟨λz=>?_,λz=>?_⟩
 .obtain ⟨xs,q⟩:=R.st.one z
  rw [q] at e; cases e
 .obtain ⟨kv,q,_⟩:=R.dc
  rw [z,q] at e; cases e
def e3 (b:Int):List V->List V
 | [x,y]=>[x,y,.int b]
 | e=>e
theorem ev_e3 {n:Nat} {b:Int} {e:List V} (h:Ev n e):∃ (s:Str) (r:List V),e=.str s :: r/\e.length<=3/\(if s = "found" then e++[.int b] else e++[])=e3 b e:=by
 rcases h with ⟨k,_,rfl⟩ | ⟨k,o,_,rfl | rfl⟩ | ⟨k,o,_,rfl⟩
 .exact ⟨_,_,rfl,Nat.le_of_ble_eq_true rfl,by rw [if_pos rfl]; rfl⟩
 .exact ⟨_,_,rfl,Nat.le_of_ble_eq_true rfl,by rw [if_neg (by decide +kernel)]; rfl⟩
 .exact ⟨_,_,rfl,Nat.le_of_ble_eq_true rfl,by rw [if_neg (by decide +kernel)]; rfl⟩
 .exact ⟨_,_,rfl,Nat.le_of_ble_eq_true rfl,by rw [if_neg (by decide +kernel)]; rfl⟩
section
def Zfw (K:W.Frag):Sp:=λvs H Q _=>∃ (lq le:Addr) (rs:List RA) (g:Pln) (ρ ρ':Rs) (b:Int) (es:List (List V)),vs=[.ref lq,.ref le,.int b]/\RsAt K H lq rs g ρ/\Tb K H/\EvL g.n H le es/\es.length<=100/\RpL g b es ρ ρ'/\(∀ k,(ρ k).seq.length<=100)/\(∀ k,k<g.n->1<=(g.cf k).pl/\(g.cf k).pl<=16)/\g.n<=4/\∀ H',RsAt K H' lq rs g ρ'->SRs rs H H'->Q (.bl true) H'
theorem Zib (F:Fun K "_law_followed" "_law_followed" ZcH f fd) (T:Txt K mg) (qn_:MDef P w K mg base (clsOf K "Room") "has" 1 Zbf (spHas K)) (vm_:MDef P w K mg base (clsOf K "Room") "use" 3 ZcG (spUse K)) (qv_:MDef P w K mg base (clsOf K "Room") "drop" 3 Zbl (ZiN K)) (vc_:MDef P w K mg base (clsOf K "Room") "bring" 4 ZbC (ZhN K)):FnOk P w K mg base CX0 5 f fd ZdD (Zfw K):=by
 refine F.ok sc_followed (λvs H Q E h=>?_) (λcdv A outer s0 H vs Q E hr h=>?_)
 .obtain ⟨lq,le,rs,g,ρ,ρ',b,es,rfl,_⟩:=h
  rfl
 obtain ⟨lq,le,rs,g,ρ,ρ',b,es,rfl,R,tb,ev,l100,rp,l64,pls,l4,q⟩:=h
 have nd:=sc_followed.nd
 refine ⟨_,(Zd (Zcj PassesOwn.never rfl (Zdk (K:=K) rfl (ZbA (Zag (osc:=(Zh ZcH)) (oN:=N_followed) (N:=["_law_event", "_law_board"]) (own:=1) (js:=[2]) (by decide +kernel) rfl rfl) rfl (Zdk (K:=K) rfl (pv 1)) (λ_ _ _ _ _ _=>(pgn 0 (show List.Nodup (["_law_event", "_law_board"]:List Str) by decide +kernel))) (λ_ _ _ _ _ _=>(pe_op Zni (pv 0) (pe_op Zme (Zbh (pc (pv 1) Zb)) (ZW Zdd rfl T.jl_ Zcm (pc (ZaN op_eq (pe_ix (ZG (K:=K) rfl) (pv 0) Zj (λ_ _=>rfl)) ZP (Zv _)) Zb))))))) (Zad (K:=K) (n:=3) rfl rfl (Zs (pgn 3 nd) (Zs (pgn 4 nd) (Zs (pgn 5 nd) Zac)))) (Zi (ps_if (PW.pt (Zid (Zw op_eq (pv 3) ZP (Zv _)) (ZfB (Zw op_lt (pv 4) (Zr (Zx (K:=K) rfl) rfl T.vp_ PySem.boot_len (pc (pv 0) Zb)) (Zv _))))) (Zd (ps_if (Zcl (Zab (Zk qn_ hr.m T.qb_ (pe_ix (Zn (K:=K) rfl) (pv 0) (pv 4) (λ_ _=>rfl)) (pc (pv 2) Zb)))) (Zi (Zt pe_bl)) Zu)
   (Zi (Zp (Zk vm_ hr.m T.qb_ (pe_ix (Zn (K:=K) rfl) (pv 0) (pv 4) (λ_ _=>rfl)) (pc (pv 2) Zb))))) (Zi (ps_if (Zw op_eq (pv 3) ZP (Zv _)) (Zd (ps_if (Zcl (Zab (Zk qn_ hr.m T.qb_ (pe_ix (Zn (K:=K) rfl) (pv 0) (pv 4) (λ_ _=>rfl)) (pc (pv 5) Zb)))) (Zi (Zt pe_bl)) Zu)
   (Zi (Zp (Zk qv_ hr.m T.qb_ (pe_ix (Zn (K:=K) rfl) (pv 0) (pv 4) (λ_ _=>rfl)) (pc (pv 5) Zb))))) (Zi (ps_if (PW.pt (Zid (Zw op_eq (pv 3) ZP (Zv _)) (ZfB (Zgs (ZfA (Zk vc_ hr.m T.qb_ (pe_ix (Zn (K:=K) rfl) (pv 0) (pv 4) (λ_ _=>rfl)) (pc (pv 5) Zb))))))) (Zi (Zt pe_bl)) Zu)))))))
   (Zi (Zt pe_bl))),?_⟩
 obtain ⟨hev,ts,he,lts,hat⟩:=ev
 refine ⟨_,rfl,le,rfl,⟨_,SqL.of he⟩,λl hl=>?_⟩
 refine ZeE (K:=K) (a:=le) (xs:=ts.map V.ref) (l:=l) (λj ys σ G=>∃ (v0:Option V) (us:List Addr),σ=[v0,some (.int b)]/\ys=us.map V.ref/\us.length=j/\G l=some (.lst ys)/\Same H G/\∀ (i:Nat) (u:Addr) (e:List V),us[i]?=some u->es[i]?=some e->G u=some (.tup (e3 b e))) ⟨none,[],rfl,rfl,rfl,Za,Zg hl _,λi u e h=>(nomatch h)⟩ (λj ys σ G _ ⟨_,_,_,_,_,_,s,_⟩=>SqL.of (s _ _ he)) ?_ ?_
 .rintro j x ys σ G hj hxj hys ⟨v0,us,rfl,rfl,lus,gl,s1,old⟩
  rw [length_map] at hj
  obtain ⟨e,ee⟩:∃ e,es[j]?=some e:=⟨_,getElem?_eq_getElem (by rw [← lts]; exact hj)⟩
  obtain ⟨t,et⟩:∃ t,ts[j]?=some t:=⟨_,getElem?_eq_getElem hj⟩
  rw [getElem?_map,et] at hxj
  cases hxj
  obtain ⟨s,r,rfl,l3,e3e⟩:=ev_e3 (b:=b) (hev e (mem_of_getElem? ee))
  have ht:=s1 _ _ (hat j t _ et ee)
  refine ⟨_,rfl,_,rfl,Nat.le_of_ble_eq_true rfl,λp1 hp1=>⟨_,rfl,t,_,_,_,rfl,rfl,SqT.of (Zg hp1 _ _ _ ht),atI0,rfl,.inr ⟨_,rfl,p1,.int b,_,rfl,rfl,Za,?_,λp2 G2 s2 e2=>⟨t,p2,_,_,rfl,rfl,s2 _ _ (Zg hp1 _ _ _ ht),e2,?_,λp3 G3 s3 e3'=>?_⟩⟩⟩⟩
  .split
   .exact .inr rfl
   .exact .inl rfl
  .have:(if (if decide (V.str s=V.str "found")=true then (1:Int) else 0)=1 then [V.int b] else []).length<=1:=by split <;> simp
   exact Nat.le_trans (Nat.add_le_add l3 this) (by decide)
  have s4:=(Zg hp1 (.tup [V.int b])).trans (s2.trans s3)
  have nl:∀ {u o},G u=some o->u≠l->upd G3 l (.lst (us.map V.ref++[.ref p3])) u=some o:=λ{u o} h n=>by rw [Zc n]; exact s4 _ _ h
  refine CNx.of (Nat.le_of_lt (ZA (by rw [length_map,lts]; lia))) (by rw [length_map]; exact hj) hys (s4 _ _ gl) ⟨_,us++[p3],rfl,by rw [map_append]; rfl,by rw [length_append,lus]; rfl,Za,λx o h=>nl (s1 _ _ h) (Ze h hl),λi u e h1 h2=>?_⟩
  by_cases c:i<us.length
  .rw [getElem?_append_left c] at h1
   have q:=old i u e h1 h2
   exact nl q λz=>by rw [z,gl] at q; cases q
  .have ci:i=j:=by
    have:=(List.getElem?_eq_some_iff.mp h1).1
    rw [length_append,length_singleton] at this
    lia
   subst ci
   rw [ee] at h2
   cases h2
   rw [getElem?_append_right (by lia),lus,Nat.sub_self] at h1
   cases h1
   have n3:p3≠l:=λz=>by rw [z,s4 _ _ gl] at e3'; cases e3'
   rw [Zc n3,e3',← e3e]
   by_cases cf:s = "found"
   .rw [if_pos cf,cf]; rfl
   .rw [if_neg cf,decide_eq_false (by intro z; injection z with z; exact cf z)]; rfl
 rintro ys σ G hys ⟨v0,us,rfl,rfl,lus,gl,s1,all⟩
 rw [length_map,lts] at lus
 have fr:=R.fresh hl
 have R1:=R.same s1
 have tb1:=tb.same s1
 refine ⟨l,rfl,⟨_,SqL.of gl⟩,Zif (K:=K) (a:=l) (xs:=us.map V.ref) (λi σ G'=>∃ (v3 v4 v5:Option V) (cur:Rs),σ=[some (.ref lq),some (.ref le),some (.int b),v3,v4,v5]/\RsAt K G' lq rs g cur/\SRs rs G G'/\RpL g b (es.drop i) cur ρ'/\∀ k,(cur k).seq.length<=100+i) ⟨_,_,_,ρ,rfl,R1,λx o e _=>e,rp,l64⟩ (λi σ G' _ ⟨_,_,_,_,_,_,s,_⟩=>SqL.of (s _ _ gl fr)) ?_ ?_⟩
 .rintro i x σ G' hi ⟨v3,v4,v5,cur,rfl,R2,s2,rp2,ls2⟩
  rw [getElem?_map] at hi
  cases eu:us[i]? with
  | none=>rw [eu] at hi; cases hi
  | some u =>
   rw [eu] at hi
   cases hi
   have hi':i<es.length:=by rw [← lus]; exact (List.getElem?_eq_some_iff.mp eu).1
   obtain ⟨e,ee⟩:∃ e,es[i]?=some e:=⟨_,getElem?_eq_getElem hi'⟩
   have gu:=s2.tup R1 (all i u e eu ee) id
   have tb2:Tb K G':=s2.tup R1 tb1 id
   rw [List.drop_eq_getElem_cons hi'] at rp2
   rw [getElem?_eq_getElem hi'] at ee
   rw [Option.some.inj ee] at rp2
   obtain ⟨ρ1,stp,rp3⟩:=rp2
   have i100:i<=100:=by lia
   cases stp with
   | @fd k ρ0 hk hb =>
    obtain ⟨r,er,er2⟩:=R2.get hk
    have Rr:=R2.at_ k r er
    obtain ⟨dx,ob⟩:=Rr.ob
    have ls:=ls2 k
    refine ⟨u,_,rfl,SqT.of gu,rfl,_,_,rfl,gN ⟨_,_,rfl,gN ⟨_,_,rfl,gN ⟨rfl,?_⟩⟩⟩⟩
    try dsimp only
    refine ⟨_,rfl,rfl,_,rfl,ifT (decide_eq_true rfl) ⟨_,rfl,_,rfl,lq,_,rfl,.inl (SqL.of R2.el),_,_,rfl,rfl,_,rfl,ifT (decide_eq_true (by rw [length_map,R2.len]; exact Int.ofNat_lt.mpr hk)) ?_⟩⟩
    refine ⟨_,rfl,_,rfl,lq,_,_,_,rfl,rfl,SqL.of R2.el,ZR er2,r.p,dx,_,rfl,ob,fl_no ..,_,rfl,r.p,b,_,_,_,r.ls,r.ads,r.du,_,_,_,rfl,Rr,_,rfl,ifF (by rw [decide_eq_true hb]; rfl) ?_⟩
    dsimp only [tNext]
    refine ⟨_,rfl,_,rfl,lq,_,_,_,rfl,rfl,SqL.of R2.el,ZR er2,r.p,dx,_,rfl,ob,fl_no ..,_,rfl,r.p,b,_,_,_,r.ls,r.ads,r.du,_,_,_,rfl,Rr,by lia,hb,by lia,λG1 Rn sn=>?_⟩
    obtain ⟨R3,s3⟩:=R2.step (s':=useS (g.cf k) (cur k) b) er Rn sn
    refine ⟨_,_,_,_,rfl,R3,s2.trans s3,rp3,λj=>?_⟩
    by_cases c:j=k
    .rw [c,Zai,(Zbd hb).length_eq]; lia
    .rw [Zci c]; have:=ls2 j; lia
   | fm =>
    refine ⟨u,_,rfl,SqT.of gu,rfl,_,_,rfl,gN ⟨_,_,rfl,gN ⟨_,_,rfl,gN ⟨rfl,?_⟩⟩⟩⟩
    try dsimp only
    refine ⟨_,rfl,rfl,_,rfl,ifT (decide_eq_true rfl) ⟨_,rfl,_,rfl,lq,_,rfl,.inl (SqL.of R2.el),_,_,rfl,rfl,_,rfl,ifF (decide_eq_false (by rw [length_map,R2.len]; lia)) ?_⟩⟩
    refine ⟨_,rfl,rfl,_,rfl,ifF (by decide +kernel) ?_⟩
    refine ⟨_,rfl,rfl,_,rfl,ifF (by decide +kernel) ?_⟩
    refine ifF rfl ?_
    dsimp only [tNext]
    exact ⟨_,_,_,cur,rfl,R2,s2,rp3,λj=>by have:=ls2 j; lia⟩
   | @out k o ρ0 hk ho =>
    obtain ⟨r,er,er2⟩:=R2.get hk
    have Rr:=R2.at_ k r er
    obtain ⟨dx,ob⟩:=Rr.ob
    have ls:=ls2 k
    refine ⟨u,_,rfl,SqT.of gu,rfl,_,_,rfl,gN ⟨_,_,rfl,gN ⟨_,_,rfl,gN ⟨rfl,?_⟩⟩⟩⟩
    try dsimp only
    refine ⟨_,rfl,rfl,_,rfl,ifF (by decide +kernel) ?_⟩
    refine ⟨_,rfl,rfl,_,rfl,ifT (decide_eq_true rfl) ?_⟩
    refine ⟨_,rfl,_,rfl,lq,_,_,_,rfl,rfl,SqL.of R2.el,ZR er2,r.p,dx,_,rfl,ob,fl_no ..,_,rfl,r.p,o,_,_,_,r.ls,r.ads,r.du,_,_,_,rfl,Rr,_,rfl,ifF (by rw [decide_eq_true ho]; rfl) ?_⟩
    dsimp only [tNext]
    refine ⟨_,rfl,_,rfl,lq,_,_,_,rfl,rfl,SqL.of R2.el,ZR er2,r.p,dx,_,rfl,ob,fl_no ..,_,rfl,r.p,o,_,_,_,r.ls,r.ads,r.du,_,_,_,rfl,Rr,?_⟩
    refine ⟨ho,λG1 Rn sn=>?_⟩
    obtain ⟨R3,s3⟩:=R2.step (s':=outS (cur k) o) er Rn sn
    refine ⟨_,_,_,_,rfl,R3,s2.trans s3,rp3,λj=>?_⟩
    by_cases c:j=k
    .rw [c,Zai]
     have:(outS (cur k) o).seq.length<=(cur k).seq.length:=List.erase_sublist.length_le
     lia
    .rw [Zci c]; have:=ls2 j; lia
   | @inn k o ws ρ0 hk ho hf =>
    obtain ⟨r,er,er2⟩:=R2.get hk
    have Rr:=R2.at_ k r er
    obtain ⟨dx,ob⟩:=Rr.ob
    have ls:=ls2 k
    refine ⟨u,_,rfl,SqT.of gu,rfl,_,_,rfl,gN ⟨_,_,rfl,gN ⟨_,_,rfl,gN ⟨rfl,?_⟩⟩⟩⟩
    try dsimp only
    refine ⟨_,rfl,rfl,_,rfl,ifF (by decide +kernel) ?_⟩
    refine ⟨_,rfl,rfl,_,rfl,ifF (by decide +kernel) ?_⟩
    refine ⟨_,rfl,rfl,_,rfl,ifT (decide_eq_true rfl) ?_⟩
    refine ⟨_,rfl,_,rfl,lq,_,_,_,rfl,rfl,SqL.of R2.el,ZR er2,r.p,dx,_,rfl,ob,fl_no ..,_,rfl,r.p,o,_,_,_,r.ls,r.ads,r.du,_,_,_,rfl,Rr,tb2,by lia,ho,(pls k hk).1,by have:=(pls k hk).2; lia,λgone G1 gp Rn sn=>?_⟩
    have eg:gone=none:=gp.1 hf
    subst eg
    obtain ⟨R3,s3⟩:=R2.step (s':=inS (cur k) o ws) er Rn sn
    refine ⟨_,rfl,ifF rfl ?_⟩
    dsimp only [tNext]
    refine ⟨_,_,_,_,rfl,R3,s2.trans s3,rp3,λj=>?_⟩
    by_cases c:j=k
    .rw [c,Zai]
     show ((cur k).seq++[o]).length<=_
     rw [length_append,length_singleton]
     lia
    .rw [Zci c]; have:=ls2 j; lia
   | wds =>
    refine ⟨u,_,rfl,SqT.of gu,rfl,_,_,rfl,gN ⟨_,_,rfl,gN ⟨_,_,rfl,gN ⟨rfl,?_⟩⟩⟩⟩
    try dsimp only
    refine ⟨_,rfl,rfl,_,rfl,ifF (by decide +kernel) ?_⟩
    refine ⟨_,rfl,rfl,_,rfl,ifF (by decide +kernel) ?_⟩
    refine ⟨_,rfl,rfl,_,rfl,ifF (by decide +kernel) ?_⟩
    refine ifF rfl ?_
    dsimp only [tNext]
    exact ⟨_,_,_,cur,rfl,R2,s2,rp3,λj=>by have:=ls2 j; lia⟩
 .rintro σ G' ⟨v3,v4,v5,cur,rfl,R2,s2,rp2,_⟩
  rw [length_map,lus,List.drop_length] at rp2
  rw [← show cur=ρ' from rp2] at q
  exact q G' R2 ((SRs.of s1).trans s2)
end
theorem Zjz {sh s:Int} {seq:List Int} {ru:Str} {us us2:Int->Int} {os os':List Int} (p:os.Perm (Zl sh s seq)) (f:ru = "few" -> os.Pairwise (KLt us (Zl sh s seq))) (n:ru ≠ "few" -> os=Zl sh s seq) (hu:∀ x∈seq,us2 x=us x) (p':os'.Perm (Zl sh s seq)) (f':ru = "few" -> os'.Pairwise (KLt us2 (Zl sh s seq))) (n':ru ≠ "few" -> os'=Zl sh s seq):os=os':=by
 by_cases c:ru = "few"
 .refine Zgg ZiT (p.trans p'.symm) (f c) ?_
  have sub:∀ x∈os',x∈seq:=λx hx=>(mem_shelfS.mp (p'.mem_iff.mp hx)).1
  exact (f' c).imp_of_mem λ{a b} ha hb h=>by
   unfold KLt at h ⊢
   rw [hu a (sub a ha),hu b (sub b hb)] at h
   exact h
 .rw [n c,n' c]
theorem Zmo {os os' seq:List Int} (p:os.Perm seq) (f:os.Pairwise (·<=·)) (p':os'.Perm seq) (f':os'.Pairwise (·<=·)):os=os':=Zgg (λa b h1 h2=>Int.le_antisymm h1 h2) (p.trans p'.symm) f f'
section
theorem StairsAt.leU {H:Hp} {A:TA} {g:Pln} {st:Stt} {os:OS} {n:Nat} (T:StairsAt K H A g st os n) {k:Nat} (hk:k<g.n):(st.at_ k).seq.length<=g.U.length:=by
 have ln:=T.ln
 obtain ⟨a,e1,e2,e3,B⟩:=T.at_ (k:=k) (by lia)
 exact Zhf B.sto.room.nd λx hx=>T.uni _ (mem_of_getElem? e3) x hx
theorem EqvI {G:Hp} {D1 D2:Addr} {o:List Int} (h1:G D1=some (.lst (o.map V.int))) (h2:G D2=some (.lst (o.map V.int))) (l:o.length<=1000):Eqv 1 G (.ref D1) (.ref D2):=Eqv.flat h1 h2 (by rw [length_map]; exact l) λx hx=>by
 obtain ⟨y,_,rfl⟩:=List.mem_map.mp hx
 trivial
def ZmQ (K:W.Frag):Sp:=λvs H Q _=>∃ (A:TA) (g:Pln) (st:Stt) (os:OS) (n:Nat) (pp tp lq:Addr) (tss:List Addr) (rs:List RA) (ρ:Rs),vs=[.ref A.p,.ref pp,.ref lq]/\StairsAt K H A g st os n/\H pp=some (.tup [.int g.size,.str g.kind,.ref tp])/\PlanAt K H tp tss g.cfs/\RsAt K H lq rs g ρ/\Ag ρ st/\g.U.length<=21/\(∀ k,k<g.n->∀ t,((Zl (g.cf k).sh t (st.at_ k).seq).length:Int)<=(g.cf k).pl)/\∀ H',Same H H'->Q (.bl true) H'
theorem Zfa (F:Fun K "_law_orders_right" "_law_orders_right" ZaL f fd) (T:Txt K mg) (jf_:MDef P w K mg base (clsOf K "Stairs") "lies" 2 Zcw (ZmP K)) (q1_:MDef P w K mg base (clsOf K "Room") "boards" 1 Zba (spBds K)) (v0_:MDef P w K mg base (clsOf K "Stairs") "order" 4 ZN (ZeZ K)) (q7_:MDef P w K mg base (clsOf K "Room") "shelf" 3 ZS (ZbQ K)) (yb_:∀ n,Def P w K mg base "_law_same" (n+1) ZdY (ZfV n)):FnOk P w K mg base CX0 16 f fd ZbL (ZmQ K):=by
 refine F.ok sc_orders_right (λvs H Q E h=>?_) (λcdv A0 outer s0 H vs Q E hr h=>?_)
 .obtain ⟨A,g,st,os,n,pp,tp,lq,tss,rs,ρ,rfl,_⟩:=h
  rfl
 obtain ⟨A,g,st,os,n,pp,tp,lq,tss,rs,ρ,rfl,R,hpp,pa,RS,ag,U21,full,k⟩:=h
 have nd:=sc_orders_right.nd
 have hu:=hu_of hr
 have jj_:=yb_ 1
 refine ⟨_,(Zd (Zcj PassesOwn.never rfl (Zhz rfl T.vo_ (pc (pv 2) Zb)) (Zad (K:=K) (n:=2) rfl rfl (Zs (pgn 3 nd) (Zs (pgn 4 nd) Zac))) (Zd (Zby (ZfF Znj (pe_ix (ZG (K:=K) rfl) (pe_ix (ZG (K:=K) rfl) (pv 1) Zj (λ_ _=>rfl)) (pv 3) (λ_ _=>rfl)) ZjR (ZfE Zj)) (Zad (K:=K) (n:=2) rfl rfl (Zs (pgn 5 nd) (Zs (pgn 6 nd) Zac))))
   (Zd (ps_if (Zcl (Zab (Zo jj_ hr.m rfl (pc (Zk jf_ hr.m T.qa_ (pv 0) (pc (pv 3) Zb)) (pc (Zco q1_ hr.m T.qb_ (pv 4)) Zb))))) (Zi (Zt pe_bl)) Zu)
   (Zd (pst 7 nd (ZnF rfl rfl T.ja_ rfl T.j9_ (pc (pe_op Zoj (ZbA (Zag (osc:=(Zh ZaL)) (oN:=N_orders_right) (N:=["_law_board", "_law_shelves"]) (own:=1) (js:=[5]) (by decide +kernel) rfl rfl) rfl (Zdk (K:=K) rfl (Zco q1_ hr.m T.qb_ (pv 4))) (λ_ _ _ _ _ _=>(pgn 0 (show List.Nodup (["_law_board", "_law_shelves"]:List Str) by decide +kernel))) (λ_ _ _ _ _ _=>(pe_op Zbz (pv 0) (pv 1)))) (ZaY (pc Zj (pc (pe_op ZcL (pv 5) Zj) Zb)))) Zb)))
   (Zi (Zcj PassesOwn.never rfl (Zdk (K:=K) rfl (pv 7)) (pgn 8 nd) (Zd (pst 9 nd (Zk v0_ hr.m T.qa_ (pv 0) (pc (pv 3) (pc (pv 8) Zb))))
   (Zd (ps_if (PW.pt (pw_or (Zcl (Zab (Zo jj_ hr.m rfl (pc (pv 9) (pc (Zk q7_ hr.m T.qb_ (pv 4) (pc (pv 8) Zb)) Zb))))) (Zgt (Zw op_gt (Zr (Zx (K:=K) rfl) rfl T.vp_ PySem.boot_len (pc (pv 9) Zb)) (pv 6) (Zv _))))) (Zi (Zt pe_bl)) Zu)
   (Zi (Zp (Znt (K:=K) rfl (Zoi PySem.F.plainAttrs_list PySem.F.slot_list_reverse PySem.F.type_list_reverse Zjq (pv 9)))))))))))))
   (Zi (Zt pe_bl))),?_⟩
 refine ⟨_,rfl,lq,rfl,⟨_,SqL.of RS.el⟩,ZfJ (K:=K) (a:=lq) (xs:=rs.map λr=>V.ref r.p) (λi σ G=>∃ (v3 v4 v5 v6 v7 v8 v9:Option V),σ=[some (.ref A.p),some (.ref pp),some (.ref lq),v3,v4,v5,v6,v7,v8,v9]/\Same H G) ⟨none,none,none,none,none,none,none,rfl,Same.refl _⟩ (λi σ G _ h=>by obtain ⟨_,_,_,_,_,_,_,_,s⟩:=h; exact SqL.of (s _ _ RS.el)) ?_ ?_⟩
 .rintro i x t σ G hi ⟨v3,v4,v5,v6,v7,v8,v9,rfl,s1⟩ ht
  rw [getElem?_map] at hi
  cases er:rs[i]? with
  | none=>rw [er] at hi; cases hi
  | some r =>
   rw [er] at hi
   cases hi
   have hin:i<g.n:=by rw [← RS.len]; exact (List.getElem?_eq_some_iff.mp er).1
   have s2:=Zg ht (.tup [V.int (i:Int),V.ref r.p])
   have et:=Za (H:=G) (a:=t) (o:=.tup [V.int (i:Int),V.ref r.p])
   have s3:=s1.trans s2
   generalize upd G t (.tup [V.int (i:Int),V.ref r.p])=G1 at *
   have R1:=R.same s3
   have RS1:=RS.same s3
   have Rr:=RS1.at_ i r er
   obtain ⟨dx,ob⟩:=R1.ob
   obtain ⟨dr,or⟩:=Rr.ob
   have tb1:=R1.tb
   obtain ⟨ti,eti⟩:∃ ti,tss[i]?=some ti:=⟨_,getElem?_eq_getElem (by rw [pa.len]; exact hin)⟩
   have ec:g.cfs[i]?=some (g.cf i):=by
    unfold Pln.cf
    rw [getD_eq_getElem?_getD,getElem?_eq_getElem (show i<g.cfs.length from hin)]
    rfl
   obtain ⟨wr,ew,_,_⟩:=pa.at_ i ti _ eti ec
   obtain ⟨sh0,sh1,pl0,pl1,_⟩:=pa.cf _ (mem_of_getElem? ec)
   have ati:atI (tss.map V.ref) (i:Int)=some (.ref ti):=ZR (by rw [getElem?_map,eti]; rfl)
   have sl:(st.at_ i).seq.length<=21:=Nat.le_trans (R.leU hin) U21
   have es:=(ag i).1
   have eu:=(ag i).2
   refine ⟨t,_,rfl,SqT.of et,rfl,_,_,rfl,gN ⟨_,_,rfl,gN ⟨rfl,?_⟩⟩⟩
   try dsimp only
   refine ⟨_,rfl,pp,_,_,_,rfl,rfl,SqT.of (s3 _ _ hpp),atI2,_,rfl,tp,_,_,_,rfl,rfl,SqT.of (s3 _ _ pa.top),ati,_,rfl,ti,_,rfl,s3 _ _ ew,λp2 G2 s4 e2=>⟨p2,_,rfl,SqT.of e2,rfl,_,_,rfl,gN ⟨_,_,rfl,gN ⟨rfl,?_⟩⟩⟩⟩
   try dsimp only
   have R2:=R1.same s4
   have Rr2:=Rr.same s4
   have or2:=s4 _ _ or
   have s14:=s3.trans s4
   refine ⟨_,rfl,A.p,dx,_,rfl,s4 _ _ ob,tf_no ..,_,rfl,A,g,st,os,n,i,rfl,R2,hin,by lia,λD1 b1 hD1 p1 w1=>⟨_,rfl,r.p,dr,_,rfl,Zg hD1 _ _ _ or2,fl_no ..,r.p,(g.cf i).sh,(g.cf i).pl,(g.cf i).ru,r.ls,r.ads,r.du,_,_,_,rfl,Rr2.same (Zg hD1 _),by rw [es]; lia,λD2 b2 hD2 p2' w2=>?_⟩⟩
   rw [es] at p2'
   obtain rfl:=Zmo p1 w1 p2' w2
   have l1:b1.length<=1000:=by rw [p1.length_eq]; lia
   refine ⟨_,_,rfl,EqvI (Zg hD2 _ _ _ Za) Za l1,λG3 s5=>⟨_,rfl,ifF rfl ?_⟩⟩
   dsimp only [tNext]
   have s6:=(Zg hD1 (.lst (b1.map V.int))).trans ((Zg hD2 (.lst (b1.map V.int))).trans s5)
   have R3:=R2.same s6
   have Rr3:=Rr2.same s6
   have or3:=s6 _ _ or2
   have s16:=s14.trans s6
   clear p2' w2
   refine ⟨_,rfl,r.p,dr,_,rfl,or3,fl_no ..,r.p,(g.cf i).sh,(g.cf i).pl,(g.cf i).ru,r.ls,r.ads,r.du,_,_,_,rfl,Rr3,by rw [es]; lia,λD3 b3 hD3 p3 w3=>⟨D3,rfl,⟨_,SqL.of Za⟩,λlz hlz=>?_⟩⟩
   have s7:=Zg hD3 (.lst (b3.map V.int))
   have eD3:=Za (H:=G3) (a:=D3) (o:=.lst (b3.map V.int))
   generalize upd G3 D3 (.lst (b3.map V.int))=G4 at *
   have l3:b3.length<=21:=by rw [p3.length_eq,es]; exact sl
   refine ZeE (K:=K) (a:=D3) (xs:=b3.map V.int) (l:=lz) (λj ys σ G=>∃ v0:Option V,σ=[v0,some (.int (g.cf i).sh)]/\ys=((b3.take j).map λx=>x % (g.cf i).sh).map V.int/\G=upd G4 lz (.lst ys)) ⟨none,rfl,rfl,rfl⟩ (λj ys σ G _ ⟨_,_,_,h⟩=>by subst h; exact SqL.of (Zg hlz _ _ _ eD3)) ?_ ?_
   .rintro j x ys σ G5 hj hxj hys ⟨v0,rfl,rfl,rfl⟩
    obtain ⟨y,ey,rfl⟩:=ZkL hxj
    refine ⟨_,rfl,_,rfl,_,_,rfl,rfl,by lia,?_⟩
    refine CNx.of (Nat.le_of_lt (ZA (by rw [length_map]; lia))) hj hys Za ⟨_,rfl,?_,Zfx⟩
    rw [List.take_succ,ey,map_append,map_append]
    rfl
   rintro ys σ G5 _ ⟨v0,rfl,rfl,rfl⟩
   rw [length_map,take_length]
   refine ⟨_,rfl,_,_,rfl,rfl,(by show 2<=sizeLine; decide),λp4 hp4=>⟨lz,p4,_,_,rfl,rfl,Zg hp4 _ _ _ Za,Za,(by rw [length_map,length_map]; exact Nat.le_trans (Nat.add_le_add l3 (Nat.le_refl 2)) (by decide)),λp5 hp5=>⟨p5,(b3.map λx=>x % (g.cf i).sh)++[0,(g.cf i).sh - 1],rfl,(by rw [Za,map_append]; rfl),(by show List.length _<64; rw [length_append,length_map]; show b3.length+2<64; lia),λq D φ zs hq hD nDq ndo mem pw=>gN ?_⟩⟩⟩
   have s8:Same H (upd (upd (upd (upd (upd G4 lz (.lst ((b3.map λx=>x % (g.cf i).sh).map V.int))) p4 (.lst [V.int 0,V.int ((g.cf i).sh - 1)])) p5 (.lst ((b3.map λx=>x % (g.cf i).sh).map V.int++[V.int 0,V.int ((g.cf i).sh - 1)]))) q (.ext φ)) D (.lst (zs.map V.int))):=s16.trans (s7.trans ((Zg hlz _).trans ((Zg hp4 _).trans ((Zg hp5 _).trans ((Zg hq _).trans (Zg (by rw [Zc nDq]; exact hD) _))))))
   have eD:=Za (H:=upd (upd (upd (upd G4 lz (.lst ((b3.map λx=>x % (g.cf i).sh).map V.int))) p4 (.lst [V.int 0,V.int ((g.cf i).sh - 1)])) p5 (.lst ((b3.map λx=>x % (g.cf i).sh).map V.int++[V.int 0,V.int ((g.cf i).sh - 1)]))) q (.ext φ)) (a:=D) (o:=.lst (zs.map V.int))
   generalize upd (upd (upd (upd (upd G4 lz (.lst ((b3.map λx=>x % (g.cf i).sh).map V.int))) p4 (.lst [V.int 0,V.int ((g.cf i).sh - 1)])) p5 (.lst ((b3.map λx=>x % (g.cf i).sh).map V.int++[V.int 0,V.int ((g.cf i).sh - 1)]))) q (.ext φ)) D (.lst (zs.map V.int))=G5 at *
   have sb:∀ s∈zs,0<=s/\s<(g.cf i).sh:=λs hs=>by
    rcases List.mem_append.mp ((mem s).mp hs) with h | h
    .obtain ⟨x,_,rfl⟩:=List.mem_map.mp h
     exact ⟨Int.emod_nonneg _ (by lia),Int.emod_lt_of_pos _ (by lia)⟩
    .simp at h
     lia
   clear s7 eD3 hlz hp4 hp5 hq hD
   refine ⟨_,rfl,D,rfl,⟨_,SqL.of eD⟩,Zif (K:=K) (a:=D) (xs:=zs.map V.int) (λj σ G=>∃ (v8 v9:Option V),σ=[some (.ref A.p),some (.ref pp),some (.ref lq),some (.int (i:Int)),some (.ref r.p),some (.int (g.cf i).sh),some (.int (g.cf i).pl),some (.ref D),v8,v9]/\Same G5 G) ⟨v8,v9,rfl,Same.refl _⟩ (λj σ G _ h=>by obtain ⟨_,_,_,s⟩:=h; exact SqL.of (s _ _ eD)) ?_ ?_⟩
   .rintro j x σ G6 hj ⟨u8,u9,rfl,s9⟩
    obtain ⟨s,es',rfl⟩:=ZkL hj
    obtain ⟨s0,s1'⟩:=sb s (mem_of_getElem? es')
    have sA:=s8.trans s9
    have R6:=R.same sA
    have Rr6:=(RS.same sA).at_ i r er
    obtain ⟨dx6,ob6⟩:=R6.ob
    obtain ⟨dr6,or6⟩:=Rr6.ob
    have fl:=full i hin s
    have shl:(Zl (g.cf i).sh s (st.at_ i).seq).length<=16:=by lia
    refine gN ?_
    try dsimp only
    refine ⟨_,rfl,A.p,dx6,_,rfl,ob6,tf_no ..,_,rfl,_,rfl,A,g,st,os,n,i,s,rfl,R6,hin,s0,s1',λD1 G7 o1 hD1 s10 eD1 p1 f1 n1=>gN ?_⟩
    try dsimp only
    refine ⟨_,rfl,_,rfl,r.p,dr6,_,rfl,s10 _ _ or6,fl_no ..,_,rfl,r.p,s,(g.cf i).sh,(g.cf i).pl,(g.cf i).ru,r.ls,r.ads,r.du,_,_,_,rfl,Rr6.same s10,(R6.same s10).tb,s0,s1',by rw [es]; lia,λD2 G8 o2 hD2 s11 eD2 p2 f2 n2=>?_⟩
    rw [es] at p2 f2 n2
    obtain rfl:=Zjz p1 f1 n1 eu p2 f2 n2
    have lo1:o1.length<=16:=by rw [p1.length_eq]; lia
    refine ⟨_,_,rfl,EqvI (s11 _ _ eD1) eD2 (by lia),λG9 s12=>⟨_,rfl,ifF rfl ⟨_,rfl,D1,_,rfl,.inl (SqL.of (s12 _ _ (s11 _ _ eD1))),_,rfl,_,_,rfl,rfl,_,rfl,ifF (decide_eq_false (by rw [length_map,p1.length_eq]; lia)) ?_⟩⟩⟩
    dsimp only [tNext]
    have eR:=s12 _ _ (s11 _ _ eD1)
    refine ⟨_,rfl,.inl ⟨rfl,_,SqL.of eR⟩,D1,_,rfl,rfl,eR,?_⟩
    refine ⟨_,_,rfl,λx o e=>?_⟩
    have q:=s12 _ _ (s11 _ _ (s10 _ _ (s9 _ _ e)))
    by_cases c:x=D1
    .have q2:=s9 _ _ e
     rw [c,hD1] at q2
     cases q2
    .rw [Zc c]
     exact q
   .rintro σ G6 ⟨u8,u9,rfl,s9⟩
    exact ⟨_,_,_,_,_,_,_,rfl,s8.trans s9⟩
 .rintro σ G ⟨v3,v4,v5,v6,v7,v8,v9,rfl,s1⟩
  exact k G s1
end
theorem hideD {t:TS} {D:Ends} {σ:St} {H:Hp} (h:∀ D':Ends,(∀ σ G,D.nx σ G->D'.nx σ G)->t D' σ H):t D σ H:=h D λ_ _ x=>x
structure WR (K:W.Frag) (H G:Hp) (b lo pp tp lq:Addr) (tss:List Addr) (rs:List RA) (ns:List Int) (g:Pln) (A:TA) (os:OS) (st:Stt) (ρ:Rs):Prop where
 rd:Rdy K G A g st os
 ev:st.ev=[]
 full:∀ k,k<g.n->∀ t,((Zl (g.cf k).sh t (st.at_ k).seq).length:Int)<=(g.cf k).pl
 ag:Ag ρ st
 rr:RsAt K G lq rs g ρ
 elo:G lo=some (.lst (ns.map V.int))
 pl:G pp=some (.tup [.int g.size,.str g.kind,.ref tp])
 pa:PlanAt K G tp tss g.cfs
 kp:SB b H G
 nw:∀ x,OW A os x\/x=lo\/x=lq\/(∃ r∈rs,r.ow x)->H x=none
 of:¬ OW A os b/\¬ OW A os lo
 ro:∀ x,x=lq\/(∃ r∈rs,r.ow x)->¬ OW A os x/\x≠b/\x≠lo
 nb:lo≠b
section
variable {K:W.Frag} {H G G1:Hp} {b lo pp tp lq:Addr} {tss:List Addr} {rs:List RA} {ns:List Int} {g:Pln} {A:TA} {os:OS} {st:Stt} {ρ:Rs} {a q c:Int}
theorem RsAt.ex (h:RsAt K G lq rs g ρ) {x:Addr} (z:x=lq\/∃ r∈rs,r.ow x):G x≠none:=λe=>by
 rcases z with rfl | ⟨r,hr,z⟩
 .rw [h.el] at e; cases e
 .obtain ⟨k,hk⟩:=List.mem_iff_getElem?.mp hr
  have R:=h.at_ k r hk
  obtain ⟨dx,h1⟩:=R.ob
  obtain ⟨kvs,h2,_⟩:=R.dc
  rcases z with z | z | z | z
  .rw [z,h1] at e; cases e
  .rw [z,R.st.top] at e; cases e
  .obtain ⟨xs,q⟩:=R.st.one z
   rw [q] at e; cases e
  .rw [z,h2] at e; cases e
theorem WR.sb (w:WR K H G b lo pp tp lq tss rs ns g A os st ρ) (B:BoxAt G b a q c) (s:SB b G G1):WR K H G1 b lo pp tp lq tss rs ns g A os st ρ:=by
 have nt:∀ {x ys},G x=some (.tup ys)->x≠b:=λ{x ys} e z=>by rw [z,B.at'] at e; cases e
 refine ⟨w.rd.frame λx o e z=>s x o (λy=>?_) e,w.ev,w.full,w.ag,w.rr.frame λx o e z=>s x o (w.ro x z).2.1 e,s _ _ w.nb w.elo,s _ _ (nt w.pl) w.pl,w.pa.frame λx ys e=>s _ _ (nt e) e,w.kp.trans s,w.nw,w.of,w.ro,w.nb⟩
 subst y
 rcases z with z | z
 .exact w.of.1 z
 .rw [B.at'] at e; cases e; exact z trivial
theorem WR.same (w:WR K H G b lo pp tp lq tss rs ns g A os st ρ) (B:BoxAt G b a q c) (s:Same G G1):WR K H G1 b lo pp tp lq tss rs ns g A os st ρ:=w.sb B (s.sb b)
theorem WR.new (w:WR K H G b lo pp tp lq tss rs ns g A os st ρ) (B:BoxAt G b a q c) {x:Addr} (h:G x=none):H x=none:=by
 cases e:H x with
 | none=>rfl
 | some o =>
  by_cases z:x=b
  .rw [z,B.at'] at h; cases h
  .rw [w.kp x o z e] at h; cases h
structure WM (K:W.Frag) (H G:Hp) (b lo pp tp lq:Addr) (tss:List Addr) (rs:List RA) (ns:List Int) (g:Pln) (A:TA) (os:OS) (st:Stt) (ρ:Rs):Prop where
 rd:Rdy K G A g st os
 rr:RsAt K G lq rs g ρ
 elo:G lo=some (.lst (ns.map V.int))
 pl:G pp=some (.tup [.int g.size,.str g.kind,.ref tp])
 pa:PlanAt K G tp tss g.cfs
 kp:SB b H G
 nw:∀ x,OW A os x\/x=lo\/x=lq\/(∃ r∈rs,r.ow x)->H x=none
 of:¬ OW A os b/\¬ OW A os lo
 ro:∀ x,x=lq\/(∃ r∈rs,r.ow x)->¬ OW A os x/\x≠b/\x≠lo
 nb:lo≠b
theorem WR.mv (w:WR K H G b lo pp tp lq tss rs ns g A os st ρ) (B:BoxAt G b a q c) {A':TA} {os':OS} {st':Stt} (R:Rdy K G1 A' g st' os') (p:Pst (OW A os) G G1 (OW A' os')):WM K H G1 b lo pp tp lq tss rs ns g A' os' st' ρ/\BoxAt G1 b a q c:=by
 have nf:∀ {x},(x=lq\/∃ r∈rs,r.ow x)->¬ OW A' os' x:=λ{x} z y=>(p.fr x y).elim (w.ro x z).1 (w.rr.ex z)
 obtain ⟨e1,n1⟩:=p.out w.elo w.of.2
 obtain ⟨e2,n2⟩:=p.out B.at' w.of.1
 refine ⟨⟨R,w.rr.frame λx o e z=>(p.out e (w.ro x z).1).1,e1,tups p w.pl,w.pa.frame λx ys e=>tups p e,λx o n e=>?_,λx z=>?_,⟨n2,n1⟩,λx z=>⟨nf z,(w.ro x z).2⟩,w.nb⟩,⟨e2,B.a0,B.q0,B.q1,B.c0⟩⟩
 .refine (p.out (w.kp x o n e) λz=>?_).1
  have z:=w.nw x (.inl z)
  rw [z] at e; cases e
 .rcases z with z | z
  .exact (p.fr x z).elim (λz=>w.nw x (.inl z)) λz=>w.new B z
  .exact w.nw x (.inr z)
theorem WM.rf {ρ':Rs} {st':Stt} (w:WM K H G b lo pp tp lq tss rs ns g A os st' ρ) (B:BoxAt G b a q c) (R:RsAt K G1 lq rs g ρ') (s:SRs rs G G1) (he:st'.ev=[]) (full:∀ k,k<g.n->∀ t,((Zl (g.cf k).sh t (st'.at_ k).seq).length:Int)<=(g.cf k).pl) (ag:Ag ρ' st'):WR K H G1 b lo pp tp lq tss rs ns g A os st' ρ'/\BoxAt G1 b a q c:=by
 have own:∀ {r x},r∈rs->(x∈r.ads\/x=r.du)->∃ r∈rs,r.ow x:=λ{r x} hr z=>⟨r,hr,z.elim (λz=>.inr (.inr (.inl z))) λz=>.inr (.inr (.inr z))⟩
 have nx:∀ {x o},G x=some o->(¬ ∃ r∈rs,r.ow x)->G1 x=some o:=λ{x o} e n=>s x o e λr hr=>⟨λz=>n (own hr (.inl z)),λz=>n (own hr (.inr z))⟩
 have tu:∀ {x ys},G x=some (.tup ys)->G1 x=some (.tup ys):=λ{x ys} e=>s.tup w.rr e id
 refine ⟨⟨w.rd.frame λx o e z=>?_,he,full,ag,R,nx w.elo λz=>(w.ro _ (.inr z)).2.2 rfl,tu w.pl,w.pa.frame λx ys e=>tu e,λx o n e=>nx (w.kp x o n e) λz=>?_,w.nw,w.of,w.ro,w.nb⟩,⟨nx B.at' λz=>(w.ro _ (.inr z)).2.1 rfl,B.a0,B.q0,B.q1,B.c0⟩⟩
 .rcases z with z | z
  .exact nx e λy=>(w.ro x (.inr y)).1 z
  .exact s.tup w.rr e z
 .have z:=w.nw x (.inr (.inr (.inr z)))
  rw [z] at e; cases e
end
structure Rks (K:W.Frag) (H G:Hp) (ls:Addr) (rs:List RA) (cfs:List Cf):Prop where
 at_:∀ (k:Nat) (r:RA) (c:Cf),rs[k]?=some r->cfs[k]?=some c->RoomAt K G r.p c.sh c.pl c.ru r.ls r.ads r.du [] (λ_=>0) 0
 fr:∀ r∈rs,∀ x,r.ow x->H x=none/\x≠ls
 ap:∀ (i j:Nat) (ri rj:RA),rs[i]?=some ri->rs[j]?=some rj->i≠j->∀ x,ri.ow x->¬ rj.ow x
section
variable {K:W.Frag} {H G G1 G2:Hp} {ls:Addr} {rs:List RA} {cfs:List Cf}
theorem Rks.nil:Rks K H G ls [] cfs:=⟨λk r c h=>(nomatch h),λr h=>(nomatch h),λi j ri rj h=>(nomatch h)⟩
theorem ZnR {sh pl:Int} {ru:Str} {seq:List Int} {us:Int->Int} {n:Nat} {r:RA} (R:RoomAt K G r.p sh pl ru r.ls r.ads r.du seq us n) {x:Addr} (z:r.ow x):G x≠none:=λe=>by
 obtain ⟨dx,h1⟩:=R.ob
 obtain ⟨kvs,h2,_⟩:=R.dc
 rcases z with z | z | z | z
 .rw [z,h1] at e; cases e
 .rw [z,R.st.top] at e; cases e
 .obtain ⟨xs,q⟩:=R.st.one z
  rw [q] at e; cases e
 .rw [z,h2] at e; cases e
theorem Rks.ex (m:Rks K H G ls rs cfs) (l:rs.length<=cfs.length) {r:RA} (hr:r∈rs) {x:Addr} (z:r.ow x):G x≠none:=by
 obtain ⟨k,hk⟩:=List.mem_iff_getElem?.mp hr
 have kl:=(List.getElem?_eq_some_iff.mp hk).1
 exact ZnR (m.at_ k r _ hk (getElem?_eq_getElem (show k<cfs.length by lia))) z
theorem Rks.add (m:Rks K H G ls rs cfs) {r:RA} {c:Cf} (l:rs.length<cfs.length) (ec:cfs[rs.length]?=some c) (s0:Same H G) (s:Same G G1) (R:RoomAt K G1 r.p c.sh c.pl c.ru r.ls r.ads r.du [] (λ_=>0) 0) (nw:∀ x,r.ow x->G x=none) (hl:G ls≠none) (f:∀ x o,G1 x=some o->x≠ls->G2 x=some o):Rks K H G2 ls (rs++[r]) cfs:=by
 have la:∀ {i:Nat} {b:RA},(rs++[r])[i]?=some b->(i<rs.length/\rs[i]?=some b)\/(i=rs.length/\b=r):=λ{i b} hb=>by
  by_cases hi:i<rs.length
  .rw [getElem?_append_left hi] at hb; exact .inl ⟨hi,hb⟩
  .have:=(List.getElem?_eq_some_iff.mp hb).1
   rw [length_append,length_singleton] at this
   have hi2:i=rs.length:=by lia
   subst hi2
   rw [getElem?_append_right (Nat.le_refl _),Nat.sub_self] at hb
   cases hb
   exact .inr ⟨rfl,rfl⟩
 have nls:∀ {x},r.ow x->x≠ls:=λ{x} z y=>hl (y ▸ nw x z)
 refine ⟨λk b d hb hd=>?_,λb hb x z=>?_,λi j ri rj hi hj n x z1 z2=>?_⟩
 .rcases la hb with ⟨hk,hb⟩ | ⟨hk,rfl⟩
  .exact (m.at_ k b d hb hd).frame λx o z e=>f _ _ (s _ _ e) (m.fr b (mem_of_getElem? hb) x z).2
  .subst hk
   rw [ec] at hd
   cases hd
   exact R.frame λx o z e=>f _ _ e (nls z)
 .rcases List.mem_append.mp hb with hb | hb
  .exact m.fr b hb x z
  .rw [List.mem_singleton.mp hb] at z
   exact ⟨s0.free (nw x z),nls z⟩
 .rcases la hi with ⟨hk,hi2⟩ | ⟨hk,e1⟩
  .rcases la hj with ⟨hk2,hj2⟩ | ⟨hk2,e2⟩
   .exact m.ap i j ri rj hi2 hj2 n x z1 z2
   .exact m.ex (Nat.le_of_lt l) (mem_of_getElem? hi2) z1 (nw x (e2 ▸ z2))
  .rcases la hj with ⟨hk2,hj2⟩ | ⟨hk2,e2⟩
   .exact m.ex (Nat.le_of_lt l) (mem_of_getElem? hj2) z2 (nw x (e1 ▸ z1))
   .exact n (hk.trans hk2.symm)
theorem Rks.rsAt {g:Pln} (m:Rks K H G ls rs g.cfs) (el:G ls=some (.lst (rs.map λr=>V.ref r.p))) (len:rs.length=g.n):RsAt K G ls rs g λ_=>Rm0:=by
 refine ⟨el,len,λk r hr=>?_,λi j ri rj hi hj n x z y=>m.ap i j ri rj hi hj n x (z.elim (λz=>.inr (.inr (.inl z))) λz=>.inr (.inr (.inr z))) y,λk r hr=>⟨λz=>(m.fr r (mem_of_getElem? hr) ls (.inr (.inr (.inl z)))).2 rfl,λz=>(m.fr r (mem_of_getElem? hr) ls (.inr (.inr (.inr z)))).2 rfl⟩⟩
 have hk:k<g.cfs.length:=by have:=(List.getElem?_eq_some_iff.mp hr).1; rw [len] at this; exact this
 have ec:g.cfs[k]?=some (g.cf k):=by
  unfold Pln.cf
  rw [getD_eq_getElem?_getD,getElem?_eq_getElem hk]
  rfl
 exact m.at_ k r _ hr ec
end
theorem Zlp {n k:Nat}:(St0 n).at_ k=Rm0:=by
 unfold St0 Stt.at_
 rw [getD_eq_getElem?_getD,List.getElem?_replicate]
 split <;> rfl
section
def Zlq (K:W.Frag):Sp:=λvs H Q _=>∃ (b:Addr) (a q:Int),vs=[.ref b]/\BoxAt H b a q 0/\Tb K H/\∀ H',SB b H H'->Q (.bl true) H'
theorem Zmp (F:Fun K "_law_right" "_law_right" ZfT f fd) (T:Txt K mg) (j5_:Def P w K mg base "_law_plan" 3 Zky (Zlh K)) (v6_:Def P w K mg base "_law_some_boards" 2 Zcf ZiK) (j6_:Def P w K mg base "_law_deed" 3 ZkC Zlj) (j7_:Def P w K mg base "_law_many" 2 ZkE ZmN) (qd_:Def P w K mg base "_law_take" 1 Zdp ZdZ) (jr_:KDef P w K mg base (clsOf K "Stairs") "Stairs" 6 Zcc (ZiW K)) (jk_:KDef P w K mg base (clsOf K "Room") "Room" 1 ZbU (ZkQ K)) (v7_:MDef P w K mg base (clsOf K "Stairs") "read" 15 Zce (ZmL K)) (v1_:MDef P w K mg base (clsOf K "Stairs") "write" 15 ZbI (Zlg K)) (jn_:Def P w K mg base "_law_followed" 5 ZdD (Zfw K)) (v2_:Def P w K mg base "_law_orders_right" 16 ZbL (ZmQ K)) (v8_:Def P w K mg base "_law_no_shelf" 5 ZdF (Zhr K)):FnOk P w K mg base CX0 18 f fd ZhI (Zlq K):=by
 refine F.ok sc_right (λvs H Q E h=>?_) (λcdv A outer s0 H vs Q E hr h=>?_)
 .obtain ⟨b,a,q,rfl,_⟩:=h
  rfl
 obtain ⟨b,a,q,rfl,B,tb,k⟩:=h
 have nd:=sc_right.nd
 have hu:=hu_of hr
 refine ⟨_,(Zd (pst 1 nd (Zo j5_ hr.m rfl (pc (pv 0) Zb)))
   (Zd (ZnZ (i:=2) (j:=3) rfl nd rfl rfl (by decide) rfl rfl (pc (Zo v6_ hr.m rfl (pc (pv 0) (pc (pe_ix (ZG (K:=K) rfl) (pv 1) Zj (λ_ _=>rfl)) Zb))) (pc (Zdm jr_ hr.m rfl (pc (pv 1) Zb)) Zb)) rfl)
   (Zd (Zik 4 (Zag (osc:=(Zh ZfT)) (oN:=N_right) (N:=["_law_room"]) (own:=1) (js:=[]) (by decide +kernel) rfl rfl) rfl nd rfl rfl (Zkh (K:=K) rfl (pe_ix (ZG (K:=K) rfl) (pv 1) Zj (λ_ _=>rfl))) (λ_ _ _ _ _ _=>(pgn 0 (show List.Nodup (["_law_room"]:List Str) by decide +kernel))) (λ_ _ _ _ _ _=>(Zdm jk_ hr.m rfl (pc (pe_ix (ZG (K:=K) rfl) (pv 0) Zj (λ_ _=>rfl)) (pc (pe_ix (ZG (K:=K) rfl) (pv 0) Zj (λ_ _=>rfl)) (pc (pe_ix (ZG (K:=K) rfl) (pv 0) Zj (λ_ _=>rfl)) Zb))))))
   (Zd (Zcj PassesOwn.never rfl (Zbg rfl T.q2_ (pc (Zo j7_ hr.m rfl (pc (pv 0) (pc Zj (pc Zj Zb)))) Zb)) (pgn 5 nd) (Zd (pst 6 nd (Zo j6_ hr.m rfl (pc (pv 0) (pc (pe_ix (ZG (K:=K) rfl) (pv 1) Zj (λ_ _=>rfl)) (pc (pv 2) Zb)))))
   (Zd (pst 7 nd (Zbx (Zw op_eq (pe_ix (ZG (K:=K) rfl) (pv 6) Zj (λ_ _=>rfl)) ZP (Zv _)) (pe_ix (ZG (K:=K) rfl) (Zk v7_ hr.m T.qa_ (pv 3) (pc (pe_ix (ZG (K:=K) rfl) (pv 6) Zj (λ_ _=>rfl)) Zb)) Zj (λ_ _=>rfl)) (Zk v1_ hr.m T.qa_ (pv 3) (pc (pe_ix (ZG (K:=K) rfl) (pv 6) Zj (λ_ _=>rfl)) (pc (pe_ix (ZG (K:=K) rfl) (pv 6) Zj (λ_ _=>rfl)) Zb)))))
   (Zi (ps_if (PW.pt (pw_or (Zcl (Zab (Zo jn_ hr.m rfl (pc (pv 4) (pc (pv 7) (pc (pe_op ZcO (pe_ix (ZG (K:=K) rfl) (pv 6) Zj (λ_ _=>rfl)) (pe_ix (ZG (K:=K) rfl) (pv 1) Zj (λ_ _=>rfl))) Zb)))))) (Zgt (Zcl (Zab (Zo v2_ hr.m rfl (pc (pv 3) (pc (pv 1) (pc (pv 4) Zb))))))))) (Zi (Zt pe_bl)) Zu)))))
   (Zd (pst 8 nd (Zo qd_ hr.m rfl (pc (pv 0) (pc (Zr (Zx (K:=K) rfl) rfl T.vp_ PySem.boot_len (pc (pv 4) Zb)) Zb))))
   (Zd (pst 9 nd (pe_op ZF (pe_ix (ZG (K:=K) rfl) (pe_ix (ZG (K:=K) rfl) (pe_ix (ZG (K:=K) rfl) (pv 1) Zj (λ_ _=>rfl)) (pv 8) (λ_ _=>rfl)) Zj (λ_ _=>rfl)) (Zo qd_ hr.m rfl (pc (pv 0) (pc Zj Zb)))))
   (Zi (Zt (Zfo (Zo v8_ hr.m rfl (pc (pv 3) (pc (pv 8) (pc (pv 9) Zb)))) (Zfn (Zo v8_ hr.m rfl (pc (pv 3) (pc (pv 8) (pc (pe_op ZcL (pe_un Zer Zj) (Zo qd_ hr.m rfl (pc (pv 0) (pc Zj Zb)))) Zb)))))))))))))),?_⟩
 refine hide λu1 e1=>?_
 refine ⟨_,rfl,b,a,q,0,rfl,B,by decide,λp2 tp tss size kind cfs a1 c1 H2 hp2' pa2 ikd z0 z1 l1 l4 B2 hc1 u2=>gN ?_⟩
 subst e1
 try dsimp only
 have npb2:∀ {x ys},H2 x=some (.tup ys)->x≠b:=λ{x ys} e z=>by rw [z,B2.at'] at e; cases e
 refine hide λu1 e1=>?_
 refine ⟨_,rfl,_,rfl,p2,_,_,_,rfl,rfl,SqT.of hp2',atI0,b,a1,q,c1,size,rfl,B2,by lia,z0,z1,λlo ns a3 c3 H3 hlo elo n3 n20 bdn _ B3 hc3 t3=>⟨_,rfl,λp dx hp hdx npd=>?_⟩⟩
 have hpp3:=t3 _ _ (npb2 hp2') hp2'
 have pa3:=pa2.frame (H':=H3) λx ys e=>t3 _ _ (npb2 e) e
 have u3:SB b H H3:=u2.trans t3
 have nlb:lo≠b:=λz=>by rw [z,B2.at'] at hlo; cases hlo
 have hloH:H lo=none:=Zen u2 B2.at' hlo
 have tb3:Tb K H3:=u3 _ _ (λz=>by have t:=tb; unfold Tb at t; rw [z,B.at'] at t; cases t) tb
 have nsB:∀ x∈ns,0<=x/\x<=100000:=λx hx=>by
  have:=bdn x hx
  have s9:9999 / size<=9999:=Int.ediv_le_self _ (by decide)
  lia
 obtain ⟨g,eg⟩:∃ g:Pln,g=⟨size,kind,cfs,(9999 / size) :: ns⟩:=⟨_,rfl⟩
 have wf:WF g:=by
  rw [eg]
  refine ⟨λc hc=>⟨(pa2.cf c hc).2.2.1,(pa2.cf c hc).2.2.2.1⟩,z0,by show size<=1000; lia,by show _+1<=800; lia,λb hb=>?_,l4,l1⟩
  have s9:9999 / size<=9999:=Int.ediv_le_self _ (by decide)
  have s0:0<=9999 / size:=Int.ediv_nonneg (by decide) (by lia)
  rcases List.mem_cons.mp hb with rfl | hb
  .lia
  .have:=nsB b hb; lia
 have U21:g.U.length<=21:=by rw [eg]; show ns.length+1<=21; lia
 have gU:g.U=(9999 / g.size) :: ns:=by rw [eg]
 have eg1:size=g.size:=by rw [eg]
 have eg2:kind=g.kind:=by rw [eg]
 have eg3:cfs=g.cfs:=by rw [eg]
 rw [eg1,eg2] at hpp3
 rw [eg3] at pa3
 rw [eg1] at z0 z1
 rw [eg2] at ikd
 clear eg
 clear eg1 eg2 eg3 pa2 hp2' bdn l1 l4
 have l1:1<=g.n:=wf.l1
 have l4:g.n<=4:=wf.l4
 have m1:Same H3 (upd (upd H3 dx (.own p)) p (.ins (clsOf K "Stairs") dx [])):=λx o e=>by rw [Zc (Ze e hp),Zc (Ze e hdx)]; exact e
 have hp1:=Za (H:=upd H3 dx (.own p)) (a:=p) (o:=.ins (clsOf K "Stairs") dx [])
 have fr1:∀ x,upd (upd H3 dx (.own p)) p (.ins (clsOf K "Stairs") dx []) x=none->H3 x=none:=λx e=>m1.free e
 generalize upd (upd H3 dx (.own p)) p (.ins (clsOf K "Stairs") dx [])=H4 at *
 refine ⟨p,dx,p2,tp,g.size,g.kind,tss,g.cfs,rfl,hp1,m1 _ _ hpp3,pa3.same m1,wf.l4,tb3.same m1,λA0 os0 H5 ep RS own k2=>⟨rfl,_,_,rfl,?_⟩⟩
 have m2:Same H3 H5:=λx o e=>k2 x o (m1 _ _ e) (Ze e hp)
 have hO:∀ x,OW A0 os0 x->H3 x=none:=λx h=>by
  by_cases z:x=p
  .rw [z]; exact hp
  .exact fr1 x (own x h z)
 have R5:=RS g.U wf
 subst e1
 try dsimp only
 rw [show V.ref p=V.ref A0.p by rw [ep]]
 have B5:=B3.same m2
 clear m1 hp1 fr1 RS own k2 ep
 have hpp5:=m2 _ _ hpp3
 have pa5:=pa3.same m2
 have elo5:=m2 _ _ elo
 have u5:SB b H H5:=u3.trans (m2.sb b)
 refine hide λu1 e1=>?_
 refine ⟨_,rfl,p2,_,_,_,rfl,rfl,SqT.of hpp5,atI2,tp,rfl,⟨_,SqT.of pa5.top⟩,λlq hlq=>?_⟩
 have lt:tss.length=g.n:=pa5.len
 refine Zir (K:=K) (a:=tp) (xs:=tss.map V.ref) (l:=lq) (λj ys σ G=>∃ (v0:Option V) (rs:List RA),σ=[v0]/\ys=rs.map (λr=>V.ref r.p)/\rs.length=j/\G lq=some (.lst ys)/\Same H5 G/\Rks K H5 G lq rs g.cfs) ⟨none,[],rfl,rfl,rfl,Za,Zg hlq _,Rks.nil⟩ (λj ys σ G _ ⟨_,_,_,_,_,_,s,_⟩=>SqT.of (s _ _ pa5.top)) ?_ ?_
 .rintro j x ys σ G hj hxj hys ⟨v0,rs,rfl,rfl,hlen,g1,s1,mk⟩
  rw [length_map] at hj
  rw [getElem?_map] at hxj
  obtain ⟨t,et,rfl⟩:∃ t,tss[j]?=some t/\V.ref t=x:=by
   cases e:tss[j]? with
   | none=>rw [e] at hxj; cases hxj
   | some t=>rw [e] at hxj; exact ⟨t,rfl,Option.some.inj hxj⟩
  have hjn:j<g.cfs.length:=by have:=lt; unfold Pln.n at this; lia
  have ec:g.cfs[j]?=some (g.cf j):=by
   unfold Pln.cf
   rw [getD_eq_getElem?_getD,getElem?_eq_getElem hjn]
   rfl
  obtain ⟨wr,ew,_,_⟩:=pa5.at_ j t _ et ec
  obtain ⟨sh0,sh1,pl0,pl1,_⟩:=pa5.cf _ (mem_of_getElem? ec)
  have ew1:=s1 _ _ ew
  refine ⟨_,rfl,t,_,_,_,rfl,rfl,SqT.of ew1,atI0,_,rfl,t,_,_,_,rfl,rfl,SqT.of ew1,atI1,_,rfl,t,_,_,_,rfl,rfl,SqT.of ew1,atI2,λrp dr hrp hdr nrd=>?_⟩
  have r1:Same G (upd (upd G dr (.own rp)) rp (.ins (clsOf K "Room") dr [])):=λx o e=>by rw [Zc (Ze e hrp),Zc (Ze e hdr)]; exact e
  have hrp1:=Za (H:=upd G dr (.own rp)) (a:=rp) (o:=.ins (clsOf K "Room") dr [])
  generalize upd (upd G dr (.own rp)) rp (.ins (clsOf K "Room") dr [])=G1 at *
  refine ⟨rp,dr,(g.cf j).sh,(g.cf j).pl,(g.cf j).ru,rfl,hrp1,sh0,sh1,λls ads du G2 RM hls hdu hads k8=>⟨rfl,?_⟩⟩
  have r2:Same G G2:=λx o e=>k8 x o (r1 _ _ e) (Ze e hrp)
  refine CNx.of (Nat.le_of_lt (ZA (by rw [length_map,lt]; lia))) (by rw [length_map]; exact hj) hys (r2 _ _ g1) ⟨_,rs++[⟨rp,ls,du,ads⟩],rfl,by rw [map_append]; rfl,by rw [length_append,hlen]; rfl,Za,λy o e=>?_,mk.add (c:=g.cf j) (by rw [hlen]; exact hjn) (by rw [hlen]; exact ec) s1 r2 RM (λx z=>?_) (by rw [g1]; simp) λx o e n=>by rw [Zc n]; exact e⟩
  .rw [Zc (Ze e hlq)]; exact r2 _ _ (s1 _ _ e)
  .rcases z with z | z | z | z
   .rw [z]; exact hrp
   .rw [z]; exact r1.free hls
   .exact r1.free (hads x z)
   .rw [z]; exact r1.free hdu
 rintro ys σ H6 _ ⟨v0,rs,rfl,rfl,hlen,g1,s6,mk⟩
 refine gN ?_
 subst e1
 try dsimp only
 rw [length_map,lt] at hlen
 have RS0:=mk.rsAt g1 hlen
 have B6:=B5.same s6
 have new5:∀ {x},H5 x=none->H x=none:=λ{x} e=>Zen u5 B5.at' e
 have ro5:∀ x,x=lq\/(∃ r∈rs,r.ow x)->H5 x=none:=λx z=>by
  rcases z with z | ⟨r,hr,z⟩
  .rw [z]; exact hlq
  .exact (mk.fr r hr x z).1
 have w0:WR K H H6 b lo p2 tp lq tss rs ns g A0 os0 (St0 g.n) λ_=>Rm0:=by
  refine ⟨⟨R5.same s6,λ_ i j hi hj hij x hx=>?_⟩,rfl,λk hk t=>?_,λk=>?_,RS0,s6 _ _ elo5,s6 _ _ hpp5,pa5.same s6,u5.trans (s6.sb b),λx z=>?_,⟨λz=>?_,λz=>?_⟩,λx z=>?_,nlb⟩
  .have hx:x∈((St0 g.n).at_ i).seq:=hx
   rw [Zlp] at hx
   exact absurd hx (by simp [Rm0])
  .rw [Zlp]
   have:=(wf.cf (g.cf k) (by unfold Pln.cf; rw [getD_eq_getElem?_getD,getElem?_eq_getElem (show k<g.cfs.length from hk)]; exact getElem_mem _)).1
   show (0:Int)<=_
   lia
  .rw [Zlp]
   exact ⟨rfl,λx hx=>(nomatch hx)⟩
  .rcases z with z | z | z
   .exact Zen u3 B3.at' (hO x z)
   .rw [z]; exact hloH
   .exact new5 (ro5 x z)
  .have z:=hO b z
   rw [B3.at'] at z; cases z
  .have z:=hO lo z
   rw [elo] at z; cases z
  .have e:=ro5 x z
   exact ⟨R5.fresh e,Ne.symm (Ze B5.at' e),Ne.symm (Ze elo5 e)⟩
 clear mk RS0 g1 s6 ro5 new5 u5 elo5 pa5 hpp5 R5 B5 hO m2 hlq
 refine hide λu1 e1=>?_
 refine ⟨_,rfl,b,a3,q,c3,30,100,rfl,B6,by lia,by decide,by decide,by decide,λmn a4 c4 H9 m0 m1' B9 hc4 t4=>⟨_,rfl,by lia,by lia,Zdc (lo:=0) (n:=mn.toNat) (λi σ G=>∃ (v5 v6 v7 v8 v9:Option V) (A:TA) (os:OS) (st:Stt) (ρ:Rs) (a' c':Int),σ=[some (.ref b),some (.ref p2),some (.ref lo),some (.ref A0.p),some (.ref lq),v5,v6,v7,v8,v9]/\A.p=A0.p/\WR K H G b lo p2 tp lq tss rs ns g A os st ρ/\BoxAt G b a' q c'/\c'<=c4+12 * (i:Int))
  ⟨_,_,_,_,_,A0,os0,_,_,a4,c4,rfl,rfl,w0.sb B6 t4,B9,by lia⟩ ?_ ?_⟩⟩
 .rintro i σ G hi ⟨v5,v6,v7,v8,v9,A,os,st,ρ,a',c',rfl,eA,w,B',hc'⟩
  refine gN ?_
  refine hideD λD' hD'=>?_
  try dsimp only
  rw [← eA] at hD' ⊢
  refine hide λu1 e1=>?_
  refine ⟨_,rfl,_,rfl,p2,_,_,_,rfl,rfl,SqT.of w.pl,atI0,_,rfl,b,lo,a',q,c',g.size,ns,rfl,B',nlb,by lia,z0,z1,w.elo,by lia,n20,nsB,λt d a5 c5 G1 et ok5 iU B5 hc5 s5=>gN ?_⟩
  subst e1
  try dsimp only
  have w:=w.sb B' s5
  have bU:d.sp / g.size∈g.U:=by rw [gU]; exact iU
  have at1:atI d.vs 1=some (.int d.sp):=by cases d <;> exact atI1
  obtain ⟨dx,ob⟩:=w.rd.at_.ob
  refine hide λu1 e1=>?_
  refine cpA (λv G=>∃ e' os',v=.ref A.ev/\Rdy K G (A.re e') g (clr (stepS g d st)) os'/\EvL g.n G A.ev (stepS g d st).ev/\(stepS g d st).ev.length<=100/\¬ OW (A.re e') os' A.ev/\Pst (OW A os) G1 G (OW (A.re e') os')) (λQ' k'=>?_) ?_
  .cases d with
   | rd sp=>exact ⟨_,rfl,t,_,_,_,rfl,rfl,SqT.of et,atI0,rfl,_,rfl,ifT (decide_eq_true rfl) ⟨_,rfl,A.p,dx,_,rfl,ob,tf_no ..,_,rfl,t,_,_,_,rfl,rfl,SqT.of et,atI1,A,g,st,os,sp,rfl,w.rd.at_,w.rd.dj,bU,λH1 e' os1 tp etp r1 r2 r3 r4 r5 r6 r7=>⟨tp,_,_,_,rfl,rfl,SqT.of etp,atI1,k' _ _ ⟨e',os1,rfl,⟨r1,r6⟩,r2,r3,r4,r5⟩⟩⟩⟩
   | wt sp v=>exact ⟨_,rfl,t,_,_,_,rfl,rfl,SqT.of et,atI0,rfl,_,rfl,ifF (by decide +kernel) ⟨_,rfl,A.p,dx,_,rfl,ob,tf_no ..,_,rfl,t,_,_,_,rfl,rfl,SqT.of et,atI1,_,rfl,t,_,_,_,rfl,rfl,SqT.of et,atI2,A,g,st,os,sp,v,rfl,w.rd.at_,w.rd.dj,bU,λH2 e' os1 r1 r2 r3 r4 r5 r6 r7=>k' _ _ ⟨e',os1,rfl,⟨r1,r6⟩,r2,r3,r4,r5⟩⟩⟩
  rintro _ G2 ⟨e',os2,rfl,R2,ev2,l100,nev,p2'⟩
  refine gN ?_
  subst e1
  try dsimp only
  obtain ⟨wm,B6⟩:=w.mv B5 R2 p2'
  have et2:=tups p2' et
  have full2:∀ k,k<g.n->1<=(g.cf k).pl/\(g.cf k).pl<=16:=λk hk=>wf.cf (g.cf k) (by unfold Pln.cf; rw [getD_eq_getElem?_getD,getElem?_eq_getElem (show k<g.cfs.length from hk)]; exact getElem_mem _)
  have lS:=w.rd.at_.lS
  have lnA:=w.rd.at_.ln
  have ndA:∀ k,(st.at_ k).seq.Nodup:=λk=>by
   by_cases hk:k<g.n
   .obtain ⟨_,_,_,_,B⟩:=w.rd.at_.at_ (k:=k) (by lia)
    exact B.sto.room.nd
   .have e:st.at_ k=Rm0:=by
     unfold Stt.at_
     rw [getD_eq_getElem?_getD,getElem?_eq_none (by lia)]
     rfl
    rw [e]
    exact nodup_nil
  have rv:=ZnQ (g:=g) (d:=d) (λk hk=>(full2 k hk).1) (by lia) w.ev w.ag w.full ndA w.rd.dj
  obtain ⟨ρ2,rp,ag2⟩:=rv.rp
  have spb:0<=d.sp/\d.sp<=9999:=by cases d with
   | rd sp=>exact ok5
   | wt sp x=>exact ok5.1
  refine cpIfS (λc G=>c=false/\WR K H G b lo p2 tp lq tss rs ns g (A.re e') os2 (clr (stepS g d st)) ρ2/\BoxAt G b a5 q c5) (λQ' k'=>?_) ?_
  .refine ⟨_,rfl,_,rfl,_,rfl,t,_,_,_,rfl,rfl,SqT.of et2,at1,_,rfl,p2,_,_,_,rfl,rfl,SqT.of wm.pl,atI0,_,_,rfl,rfl,⟨by lia,by lia⟩,lq,A.ev,rs,g,ρ,ρ2,_,_,rfl,wm.rr,wm.rd.at_.tb,ev2,l100,rp,λk=>?_,full2,wf.l4,λG3 RS3 s3=>⟨_,rfl,ifF rfl ?_⟩⟩
   .rw [(w.ag k).1]
    by_cases hk:k<g.n
    .have:=w.rd.at_.leU hk; lia
    .have e:st.at_ k=Rm0:=by
      unfold Stt.at_
      rw [getD_eq_getElem?_getD,getElem?_eq_none (by lia)]
      rfl
     rw [e]
     exact Nat.zero_le _
   obtain ⟨w3,B7⟩:=wm.rf B6 RS3 s3 rfl rv.full ag2
   exact ⟨_,rfl,_,rfl,_,rfl,A.re e',g,_,os2,0,p2,tp,lq,tss,rs,ρ2,rfl,w3.rd.at_,w3.pl,w3.pa,w3.rr,w3.ag,U21,w3.full,λG4 s4=>⟨_,rfl,k' _ _ ⟨rfl,w3.same B7 s4,B7.same s4⟩⟩⟩
  rintro c G3 ⟨rfl,w3,B7⟩
  refine ifF rfl ?_
  dsimp only [tNext]
  exact hD' _ _ ⟨_,_,_,_,_,A.re e',os2,_,_,a5,c5,rfl,rfl,w3,B7,by lia⟩
 .rintro σ G ⟨v5,v6,v7,v8,v9,A,os,st,ρ,a',c',rfl,eA,w,B',hc'⟩
  subst e1
  try dsimp only
  rw [← eA]
  have lrs:(rs.map λr=>V.ref r.p).length=g.n:=by rw [length_map,w.rr.len]
  refine ⟨_,rfl,_,rfl,lq,_,rfl,.inl (SqL.of w.rr.el),b,a',q,c',(g.n:Int),by rw [lrs]; rfl,B',by lia,by lia,by lia,λr1 a5 c5 G1 r10 r11 B5 hc5 s5=>gN ?_⟩
  try dsimp only
  have w1:=w.sb B' s5
  obtain ⟨j,rfl,jn⟩:∃ j:Nat,r1=(j:Int)/\j<g.n:=⟨r1.toNat,by lia,by lia⟩
  obtain ⟨t,et⟩:∃ t,tss[j]?=some t:=⟨_,getElem?_eq_getElem (by rw [lt]; exact jn)⟩
  have ec:g.cfs[j]?=some (g.cf j):=by
   unfold Pln.cf
   rw [getD_eq_getElem?_getD,getElem?_eq_getElem (show j<g.cfs.length from jn)]
   rfl
  obtain ⟨wr,ew,_,_⟩:=w1.pa.at_ j t _ et ec
  obtain ⟨sh0,sh1,pl0,pl1,_⟩:=w1.pa.cf _ (mem_of_getElem? ec)
  have atj:atI (tss.map V.ref) (j:Int)=some (.ref t):=ZR (by rw [getElem?_map,et]; rfl)
  refine ⟨_,rfl,p2,_,_,_,rfl,rfl,SqT.of w1.pl,atI2,_,rfl,tp,_,_,_,rfl,rfl,SqT.of w1.pa.top,atj,t,_,_,_,rfl,rfl,SqT.of ew,atI0,_,rfl,b,a5,q,c5,3,rfl,B5,by lia,by decide,by decide,λr2 a6 c6 G2 r20 r21 B6' hc6 s6=>⟨_,_,rfl,rfl,gN ?_⟩⟩
  try dsimp only
  have w2:=w1.sb B5 s6
  have b100:1000<2 ^ 100:=by decide
  refine ⟨_,rfl,_,rfl,_,rfl,A,g,st,os,0,j,_,rfl,w2.rd.at_,jn,.inr (by lia),by lia,λG3 s7=>⟨_,rfl,ifT rfl ⟨_,rfl,_,rfl,_,rfl,_,rfl,b,a6,q,c6,3,rfl,B6'.same s7,by lia,by decide,by decide,λr3 a7 c7 G4 r30 r31 B7 hc7 s8=>⟨_,_,rfl,rfl,?_⟩⟩⟩⟩
  have w4:=(w2.same B6' s7).sb (B6'.same s7) s8
  exact ⟨A,g,st,os,0,j,_,rfl,w4.rd.at_,jn,.inl (by lia),by lia,λG5 s9=>k _ (w4.kp.trans (s9.sb b))⟩
end
section
def spLaw (K:W.Frag):Sp:=λvs H Q _=>∃ (a:Addr) (ns:List Int),vs=[.ref a]/\SqL K H a (ns.map V.int)/\ns.length<=63/\Tb K H/\∀ H',Q (.bl true) H'
theorem ZoQ (F:Fun K "law" "law" s_law f fd) (T:Txt K mg) (ya_:Def P w K mg base "_law_box" 1 P_box (spBox K)) (js_:Def P w K mg base "_law_folded" 1 ZfS (ZiJ K)) (jx_:Def P w K mg base "_law_right" 18 ZhI (Zlq K)):FnOk P w K mg base CX0 19 f fd P_law (spLaw K):=by
 refine F.ok sc_law (λvs H Q E h=>?_) (λcdv A outer st H vs Q E hr h=>?_)
 .obtain ⟨a,ns,rfl,_⟩:=h
  rfl
 obtain ⟨a,ns,rfl,hS,h63,tb,k⟩:=h
 have nd:=sc_law.nd
 have hu:=hu_of hr
 refine ⟨_,(Zd (pst 1 nd (Zo js_ hr.m rfl (pc (pv 0) (pc Zj Zb))))
   (Zi (Zt (Zr (ZgJ rfl) rfl T.j1_ Zio (pc (ZbA (Zag (osc:=(Zh s_law)) (oN:=N_law) (N:=["_law_k", "_law_cells"]) (own:=1) (js:=[1]) (by decide +kernel) rfl rfl) rfl (Zbg rfl T.q2_ (pc (Zr (Zgv rfl) rfl T.j2_ Zip (pc Zj (pc (Zr (Zx (K:=K) rfl) rfl T.vp_ PySem.boot_len (pc (pv 1) Zb)) Zb))) Zb)) (λ_ _ _ _ _ _=>(pgn 0 (show List.Nodup (["_law_k", "_law_cells"]:List Str) by decide +kernel))) (λ_ _ _ _ _ _=>(Zo jx_ hr.m rfl (pc (Zo ya_ hr.m rfl (pc (pv 1) (pc (pv 0) Zb))) Zb)))) Zb))))),?_⟩
 refine ⟨_,rfl,a,ns,3,rfl,hS,h63,by decide,by decide,λr ms H1 hr' s1 e1 lm=>?_⟩
 have lc:(if ((ms.map V.int).length:Int) > 1 then ((ms.map V.int).length:Int) else 1)<=63:=by rw [length_map]; split <;> lia
 refine ⟨_,rfl,r,_,rfl,.inl (SqL.of e1),_,_,rfl,_,rfl,?_,?_,λl hl'=>?_⟩
 .split <;> lia
 .lia
 generalize (if ((ms.map V.int).length:Int) > 1 then ((ms.map V.int).length:Int) else 1)=n at *
 have n63:n.toNat<=63:=by lia
 have nrl:r≠l:=Ze e1 hl'
 have tb1:=tb.same s1
 have ntl:tabOf K "Room" "going" ≠ l:=Ze tb1 hl'
 refine ZcD (lo:=0) (n:=n.toNat) (l:=l) (λj ys σ G=>∃ v0:Option V,σ=[v0,some (.ref r)]/\ys=(List.replicate j true).map V.bl/\G l=some (.lst ys)/\G r=some (.lst (ms.map V.int))/\Tb K G)
  ⟨none,rfl,rfl,Za,by rw [Zc nrl]; exact e1,by unfold Tb; rw [Zc ntl]; exact tb1⟩ ?_ ?_
 .rintro j ys σ G hj hy ⟨v0,rfl,rfl,g1,g2,g3⟩
  refine ⟨_,rfl,_,rfl,r,ms,_,rfl,SqL.of g2,by lia,by lia,λb ba bq G1 hb t1 B1=>?_⟩
  refine ⟨b,ba,bq,rfl,B1,g3.same t1,λG2 t2=>?_⟩
  have nlb:l≠b:=Ze g1 hb
  have nrb:r≠b:=Ze g2 hb
  have ntb:tabOf K "Room" "going" ≠ b:=Ze g3 hb
  refine CNx.of (Nat.le_trans n63 (by decide)) hj hy (t2 _ _ nlb (t1 _ _ g1)) ⟨_,rfl,by rw [List.replicate_succ',map_append]; rfl,Za,?_,?_⟩
  .rw [Zc nrl]
   exact t2 _ _ nrb (t1 _ _ g2)
  .unfold Tb
   rw [Zc ntl]
   exact t2 _ _ ntb (t1 _ _ g3)
 .rintro ys σ G hy ⟨v0,rfl,rfl,g1,g2,g3⟩
  refine ⟨l,_,rfl,SqL.of g1,?_⟩
  rw [show (List.replicate n.toNat true).all id=true by rw [all_eq_true]; intro z hz; rw [(List.mem_replicate.mp hz).2]; rfl]
  exact k G
end
theorem pl1 {us:List Value} {n:Nat} (h:us.length=n+1):∃ v r,us=v :: r/\r.length=n:=by
 cases us with
 | nil=>cases h
 | cons v r=>exact ⟨v,r,rfl,Nat.succ.inj h⟩
theorem ln1 {fn:Value->Value->Value->Option Addr->Value->Value->FuncData} {ps:List Str} (h:∀ a b c d e f v0,bindArgs (fn a b c d e f) ⟨[v0],[]⟩=pure (ps.zip [v0])) (hp:ps.length=1:=by rfl) (a b c:Value) (d:Option Addr) (e f:Value) (us:List Value) (hl:us.length=ps.length):bindArgs (fn a b c d e f) ⟨us,[]⟩=pure (ps.zip us):=by
 rw [hp] at hl
 obtain ⟨v0,r0,rfl,q0⟩:=pl1 hl
 cases List.eq_nil_of_length_eq_zero q0
 exact h a b c d e f v0
theorem ln2 {fn:Value->Value->Value->Option Addr->Value->Value->FuncData} {ps:List Str} (h:∀ a b c d e f v0 v1,bindArgs (fn a b c d e f) ⟨[v0,v1],[]⟩=pure (ps.zip [v0,v1])) (hp:ps.length=2:=by rfl) (a b c:Value) (d:Option Addr) (e f:Value) (us:List Value) (hl:us.length=ps.length):bindArgs (fn a b c d e f) ⟨us,[]⟩=pure (ps.zip us):=by
 rw [hp] at hl
 obtain ⟨v0,r0,rfl,q0⟩:=pl1 hl
 obtain ⟨v1,r1,rfl,q1⟩:=pl1 q0
 cases List.eq_nil_of_length_eq_zero q1
 exact h a b c d e f v0 v1
theorem ln3 {fn:Value->Value->Value->Option Addr->Value->Value->FuncData} {ps:List Str} (h:∀ a b c d e f v0 v1 v2,bindArgs (fn a b c d e f) ⟨[v0,v1,v2],[]⟩=pure (ps.zip [v0,v1,v2])) (hp:ps.length=3:=by rfl) (a b c:Value) (d:Option Addr) (e f:Value) (us:List Value) (hl:us.length=ps.length):bindArgs (fn a b c d e f) ⟨us,[]⟩=pure (ps.zip us):=by
 rw [hp] at hl
 obtain ⟨v0,r0,rfl,q0⟩:=pl1 hl
 obtain ⟨v1,r1,rfl,q1⟩:=pl1 q0
 obtain ⟨v2,r2,rfl,q2⟩:=pl1 q1
 cases List.eq_nil_of_length_eq_zero q2
 exact h a b c d e f v0 v1 v2
theorem ln4 {fn:Value->Value->Value->Option Addr->Value->Value->FuncData} {ps:List Str} (h:∀ a b c d e f v0 v1 v2 v3,bindArgs (fn a b c d e f) ⟨[v0,v1,v2,v3],[]⟩=pure (ps.zip [v0,v1,v2,v3])) (hp:ps.length=4:=by rfl) (a b c:Value) (d:Option Addr) (e f:Value) (us:List Value) (hl:us.length=ps.length):bindArgs (fn a b c d e f) ⟨us,[]⟩=pure (ps.zip us):=by
 rw [hp] at hl
 obtain ⟨v0,r0,rfl,q0⟩:=pl1 hl
 obtain ⟨v1,r1,rfl,q1⟩:=pl1 q0
 obtain ⟨v2,r2,rfl,q2⟩:=pl1 q1
 obtain ⟨v3,r3,rfl,q3⟩:=pl1 q2
 cases List.eq_nil_of_length_eq_zero q3
 exact h a b c d e f v0 v1 v2 v3
theorem ln5 {fn:Value->Value->Value->Option Addr->Value->Value->FuncData} {ps:List Str} (h:∀ a b c d e f v0 v1 v2 v3 v4,bindArgs (fn a b c d e f) ⟨[v0,v1,v2,v3,v4],[]⟩=pure (ps.zip [v0,v1,v2,v3,v4])) (hp:ps.length=5:=by rfl) (a b c:Value) (d:Option Addr) (e f:Value) (us:List Value) (hl:us.length=ps.length):bindArgs (fn a b c d e f) ⟨us,[]⟩=pure (ps.zip us):=by
 rw [hp] at hl
 obtain ⟨v0,r0,rfl,q0⟩:=pl1 hl
 obtain ⟨v1,r1,rfl,q1⟩:=pl1 q0
 obtain ⟨v2,r2,rfl,q2⟩:=pl1 q1
 obtain ⟨v3,r3,rfl,q3⟩:=pl1 q2
 obtain ⟨v4,r4,rfl,q4⟩:=pl1 q3
 cases List.eq_nil_of_length_eq_zero q4
 exact h a b c d e f v0 v1 v2 v3 v4
def CGF (K:W.Frag) (nm:Str) (st:Stmt):Prop:=∃ (f:Addr) (od an:Option Addr) (sl:Array (Option Value)) (oc kV dc pm cd ct:Value),W.nsIn K mainGlobals nm=some (some (.ref f))/\K.lookup f=some ⟨oc,od,.func (W.fnOf nm nm (ZO st) (Zz st) (Zh st) .none kV dc pm an cd ct),sl⟩/\W.codeIn K cd nm=true/\W.keepIn K (.ref f)=true
def CMF (K:W.Frag) (Ca:Addr) (nm q:Str) (st:Stmt):Prop:=∃ (f:Addr) (od an:Option Addr) (sl:Array (Option Value)) (oc kV dc pm cd ct:Value),W.findIn K (.ref Ca) nm=some (some (.ref f))/\W.isFn K (.ref f)=true/\K.lookup f=some ⟨oc,od,.func (W.fnOf nm q (ZO st) (Zz st) (Zh st) .none kV dc pm an cd ct),sl⟩/\W.codeIn K cd q=true/\W.keepIn K (.ref f)=true
theorem CGF.mk {K:W.Frag} {nm:Str} {st:Stmt} {f:Addr} {od an:Option Addr} {sl:Array (Option Value)} {oc kV dc pm cd ct:Value} (a:W.nsIn K mainGlobals nm=some (some (.ref f))) (l:K.lookup f=some ⟨oc,od,.func (W.fnOf nm nm (ZO st) (Zz st) (Zh st) .none kV dc pm an cd ct),sl⟩) (c:W.codeIn K cd nm=true) (k:W.keepIn K (.ref f)=true):CGF K nm st:=⟨_,_,_,_,_,_,_,_,_,_,a,l,c,k⟩
theorem CMF.mk {K:W.Frag} {Ca:Addr} {nm q:Str} {st:Stmt} {f:Addr} {od an:Option Addr} {sl:Array (Option Value)} {oc kV dc pm cd ct:Value} (a:W.findIn K (.ref Ca) nm=some (some (.ref f))) (i:W.isFn K (.ref f)=true) (l:K.lookup f=some ⟨oc,od,.func (W.fnOf nm q (ZO st) (Zz st) (Zh st) .none kV dc pm an cd ct),sl⟩) (c:W.codeIn K cd q=true) (k:W.keepIn K (.ref f)=true):CMF K Ca nm q st:=⟨_,_,_,_,_,_,_,_,_,_,a,i,l,c,k⟩
def CBs (P:Program) (w:World) (K:W.Frag) (mg:Str->Option Value) (base:Heap):Prop:=∃ h,K.In h/\h.Ns mainGlobals mg
section
variable {P:Program} {w:World} {K:W.Frag} {mg:Str->Option Value} {base:Heap} {Ca:Addr} {nm q:Str} {st:Stmt} {n:Nat} {ps:List Str} {sp:Sp} (B:CBs P w K mg base)
include B
theorem CBs.df (x:CGF K nm st) (ok:∀ {f fd},Fun K nm nm st f fd->FnOk P w K mg base CX0 n f fd ps sp) (hb:∀ (kV dc pm:Value) (an:Option Addr) (cd ct:Value) (us:List Value),us.length=ps.length->bindArgs (W.fnOf nm nm (ZO st) (Zz st) (Zh st) .none kV dc pm an cd ct) ⟨us,[]⟩=pure (ps.zip us)):Def P w K mg base nm n ps sp:=by
 obtain ⟨f,od,an,sl,oc,kV,dc,pm,cd,ct,a,l,c,k⟩:=x
 obtain ⟨h,X,G⟩:=B
 have F:=Zdf l c k
 exact ⟨_,_,ok F,W.mg_of X G a,F.kp,F.binds hb⟩
theorem CBs.md (x:CMF K Ca nm q st) (ok:∀ {f fd},Fun K nm q st f fd->FnOk P w K mg base CX0 n f fd ps sp) (hb:∀ (kV dc pm:Value) (an:Option Addr) (cd ct:Value) (us:List Value),us.length=ps.length->bindArgs (W.fnOf nm q (ZO st) (Zz st) (Zh st) .none kV dc pm an cd ct) ⟨us,[]⟩=pure (ps.zip us)):MDef P w K mg base Ca nm n ps sp:=by
 obtain ⟨f,od,an,sl,oc,kV,dc,pm,cd,ct,a,i,l,c,k⟩:=x
 have F:=Zdf l c k
 exact ⟨_,_,ok F,⟨a,i,k⟩,F.binds hb⟩
theorem CBs.kd {y:Str} (x:CMF K Ca "__init__" q st) (mk:W.makesIn K Ca=true) (kc:W.keepIn K (.ref Ca)=true) (aC:W.nsIn K mainGlobals y=some (some (.ref Ca))) (ok:∀ {f fd},Fun K "__init__" q st f fd->FnOk P w K mg base CX0 n f fd ps sp) (hb:∀ (kV dc pm:Value) (an:Option Addr) (cd ct:Value) (us:List Value),us.length=ps.length->bindArgs (W.fnOf "__init__" q (ZO st) (Zz st) (Zh st) .none kV dc pm an cd ct) ⟨us,[]⟩=pure (ps.zip us)):KDef P w K mg base Ca y n ps sp:=by
 obtain ⟨f,od,an,sl,oc,kV,dc,pm,cd,ct,a,i,l,c,k⟩:=x
 obtain ⟨h,X,G⟩:=B
 have F:=Zdf l c k
 exact ⟨_,_,ok F,⟨mk,a,i,kc⟩,W.mg_of X G aC,F.binds hb⟩
theorem CBs.mx (x:CMF K Ca nm q st) (ok:∀ {f fd},Fun K nm q st f fd->FnOk P w K mg base (CXr P w) n f fd ps sp) (hb:∀ (kV dc pm:Value) (an:Option Addr) (cd ct:Value) (us:List Value),us.length=ps.length->bindArgs (W.fnOf nm q (ZO st) (Zz st) (Zh st) .none kV dc pm an cd ct) ⟨us,[]⟩=pure (ps.zip us)):MDefX P w K mg base Ca nm n ps sp:=by
 obtain ⟨f,od,an,sl,oc,kV,dc,pm,cd,ct,a,i,l,c,k⟩:=x
 have F:=Zdf l c k
 exact ⟨_,_,ok F,⟨a,i,k⟩,F.binds hb⟩
end
theorem ZoR {l:W.OpenLaw} {w:World} {K:W.Frag} {h:Heap} {mg:Str->Option Value} {fa:Addr} {tp cg:Addr} (X:K.In h) (G:h.Ns mainGlobals mg) (hfa:mg "law" = some (.ref fa))
  {CaRoom:Addr} (aCRoom:W.nsIn K mainGlobals "Room" = some (some (.ref CaRoom)))
  {CaStore:Addr} (aCStore:W.nsIn K mainGlobals "Store" = some (some (.ref CaStore)))
  {CaMemory:Addr} (aCMemory:W.nsIn K mainGlobals "Memory" = some (some (.ref CaMemory)))
  {CaStairs:Addr} (aCStairs:W.nsIn K mainGlobals "Stairs" = some (some (.ref CaStairs)))
  {CaNoShelf:Addr} (aCNoShelf:W.nsIn K mainGlobals "NoShelf" = some (some (.ref CaNoShelf)))
  {CaSteps:Addr} (aCSteps:W.nsIn K mainGlobals "Steps" = some (some (.ref CaSteps)))
  (x0:CGF K "_law_take" Zkx)
  (x1:CGF K "_law_box" s_box)
  (x2:CGF K "_law_folded" ZfR)
  (x3:CGF K "_law_some_boards" Zbc)
  (a4:W.nsIn K mainGlobals "_law_same" = some (some (.ref f4))) (l4:K.lookup f4=some ⟨oc4,od4,.func (W.fnOf "_law_same" "_law_same" (ZO ZdX) (Zz ZdX) (Zh ZdX) .none kV4 dc4 pm4 an4 cd4 ct4),sl4⟩) (c4:W.codeIn K cd4 "_law_same" = true) (k4:W.keepIn K (.ref f4)=true)
  (x5:CGF K "shelf_of" Zdz)
  (x6:CMF K CaRoom "has" "Room.has" ZdB)
  (x7:CMF K CaRoom "mates" "Room.mates" Zcq)
  (x8:CMF K CaRoom "need" "Room.need" ZcS)
  (a9:W.findIn K (.ref CaRoom) "going" = some (some (.ref f9))) (i9:W.isFn K (.ref f9)=true) (l9:K.lookup f9=some ⟨oc9,od9,.func (W.fnOf "going" "Room.going" (ZO ZB) (Zz ZB) (Zh ZB) .none kV9 dc9 pm9 an9 (.ref cg) ct9),sl9⟩) (c9:W.codeIn K (.ref cg) "Room.going" = true) (k9:W.keepIn K (.ref f9)=true)
  (x10:CMF K CaRoom "drop" "Room.drop" ZcR)
  (x11:CMF K CaRoom "use" "Room.use" ZdC)
  (x12:CMF K CaRoom "__init__" "Room.__init__" ZbT)
  (x13:CMF K CaRoom "leaver_for" "Room.leaver_for" ZaF)
  (x14:CMF K CaRoom "bring" "Room.bring" Zcp)
  (x15:CMF K CaStore "__init__" "Store.__init__" Zcr)
  (x16:CMF K CaStore "has" "Store.has" ZcT)
  (x17:CMF K CaStore "lay" "Store.lay" ZcU)
  (x18:CMF K CaStore "take_in" "Store.take_in" Zbo)
  (x19:CMF K CaStore "give_out" "Store.give_out" ZaO)
  (x20:CMF K CaStore "words_of" "Store.words_of" ZaQ)
  (x21:CMF K CaStore "lay_word" "Store.lay_word" ZaR)
  (x22:CMF K CaStore "freshen" "Store.freshen" Zbq)
  (x23:CGF K "board_of" Zdx)
  (x24:CGF K "spots_of" Zdy)
  (x25:CMF K CaMemory "__init__" "Memory.__init__" ZbX)
  (x26:CMF K CaMemory "words_of" "Memory.words_of" ZZ)
  (x27:CMF K CaMemory "lay" "Memory.lay" Zct)
  (x28:CMF K CaStairs "store" "Steps.store" Zca)
  (x29:CMF K CaStairs "words" "Steps.words" ZbZ)
  (x30:CMF K CaStairs "happened" "Steps.happened" ZaT)
  (x31:CMF K CaStairs "leaver" "Steps.leaver" ZbE)
  (x32:CMF K CaStairs "tell_found" "Steps.tell_found" Zau)
  (x33:CMF K CaStairs "use_in" "Steps.use_in" ZbF)
  (x34:CMF K CaStairs "come_in" "Steps.come_in" Zbr)
  (x35:CMF K CaStairs "go_out" "Steps.go_out" ZbG)
  (x36:CMF K CaStairs "put" "Steps.put" ZcV)
  (x37:CMF K CaStairs "word_in" "Steps.word_in" Zbt)
  (x38:CMF K CaStairs "put_word" "Steps.put_word" ZaU)
  (g39:W.specialIn K (.ref CaSteps) "__getattribute__" = some (some (.builtin "type.__getattribute__"))) (r39:W.readsIn K CaSteps (.type "type")=true) (a39:W.findCls K (.ref CaSteps) (.type "type") "__init__" = some (.val (.ref f39))) (l39:K.lookup f39=some ⟨oc39,od39,.func (W.fnOf "__init__" "Steps.__init__" (ZO ZT) (Zz ZT) (Zh ZT) .none kV39 dc39 pm39 an39 cd39 ct39),sl39⟩) (c39:W.codeIn K cd39 "Steps.__init__" = true) (k39:W.keepIn K (.ref f39)=true)
  (x40:CMF K CaStairs "__init__" "Stairs.__init__" Zcb)
  (x41:CMF K CaStairs "nearest" "Stairs.nearest" ZaW)
  (x42:CMF K CaStairs "go_on" "Stairs.go_on" ZbK)
  (x43:CMF K CaStairs "change" "Stairs.change" Zbv)
  (x44:CMF K CaStairs "drive_out" "Stairs.drive_out" Zay)
  (x45:CMF K CaStairs "fetch_down" "Stairs.fetch_down" Zak)
  (x46:CMF K CaStairs "come_apart" "Stairs.come_apart" Zam)
  (a47:W.findIn K (.ref CaStairs) "push" = some (some (.ref f47))) (i47:W.isFn K (.ref f47)=true) (l47:K.lookup f47=some ⟨oc47,od47,.func (W.fnOf "push" "Stairs.push" (ZO ZH) (Zz ZH) (Zh ZH) .none kV47 dc47 pm47 an47 cd47 ct47),sl47⟩) (c47:W.codeIn K cd47 "Stairs.push" = true) (k47:W.keepIn K (.ref f47)=true)
  (x48:CMF K CaStairs "fetch_apart" "Stairs.fetch_apart" Zae)
  (x49:CMF K CaStairs "fetch" "Stairs.fetch" ZbJ)
  (x50:CMF K CaStairs "read" "Stairs.read" Zcd)
  (x51:CMF K CaStairs "write" "Stairs.write" ZbH)
  (x52:CGF K "_law_room_plan" ZcW)
  (x53:CGF K "_law_plan" ZiH)
  (x54:CGF K "_law_many" ZkD)
  (x55:CGF K "_law_word" Zkz)
  (x56:CGF K "_law_deed" ZkB)
  (x57:CMF K CaRoom "shelf" "Room.shelf" ZbD)
  (x58:CMF K CaRoom "boards" "Room.boards" ZbV)
  (x59:CMF K CaStairs "lies" "Steps.lies" Zcv)
  (x60:CMF K CaStairs "order" "Stairs.order" ZaI)
  (x61:CGF K "_law_no_shelf" ZdE)
  (x62:CGF K "_law_followed" ZcH)
  (x63:CGF K "_law_orders_right" ZaL)
  (x64:CGF K "_law_right" ZfT)
  (a65:W.nsIn K mainGlobals "law" = some (some (.ref f65))) (l65:K.lookup f65=some ⟨oc65,od65,.func (W.fnOf "law" "law" (ZO s_law) (Zz s_law) (Zh s_law) .none kV65 dc65 pm65 an65 cd65 ct65),sl65⟩) (c65:W.codeIn K cd65 "law" = true) (k65:W.keepIn K (.ref f65)=true)
  (v9_:W.nsIn K mainGlobals "ValueError" = some none)
  (j0_:W.nsIn K mainGlobals "abs" = some none)
  (j1_:W.nsIn K mainGlobals "all" = some none)
  (jt_:W.nsIn K mainGlobals "bool" = some none)
  (jp_:W.nsIn K mainGlobals "divmod" = some none)
  (vo_:W.nsIn K mainGlobals "enumerate" = some none)
  (jl_:W.nsIn K mainGlobals "int" = some none)
  (qi_:W.nsIn K mainGlobals "isinstance" = some none)
  (vp_:W.nsIn K mainGlobals "len" = some none)
  (vg_:W.nsIn K mainGlobals "list" = some none)
  (j2_:W.nsIn K mainGlobals "max" = some none)
  (j8_:W.nsIn K mainGlobals "min" = some none)
  (q2_:W.nsIn K mainGlobals "range" = some none)
  (j9_:W.nsIn K mainGlobals "set" = some none)
  (ja_:W.nsIn K mainGlobals "sorted" = some none)
  (ju_:W.nsIn K mainGlobals "str" = some none)
  (ji_:W.nsIn K mainGlobals "tuple" = some none)
  (j3_:W.nsIn K mainGlobals "zip" = some none)
  (xx:xIn K CaNoShelf [CaNoShelf] []=true)
  (pgRoom:W.plainGet K CaRoom Str.empty=true) (hdRoom:W.hasDictIn K CaRoom=true) (poRoom:W.plainOver K CaRoom=true) (saRoom:W.findIn K (.ref CaRoom) "__setattr__" = some (some (.builtin "object.__setattr__"))) (mkRoom:W.makesIn K CaRoom=true) (kcRoom:W.keepIn K (.ref CaRoom)=true)
  (nRoom_places:W.findIn K (.ref CaRoom) "places" = some none)
  (nRoom_rule:W.findIn K (.ref CaRoom) "rule" = some none)
  (nRoom_shelves:W.findIn K (.ref CaRoom) "shelves" = some none)
  (nRoom_standing:W.findIn K (.ref CaRoom) "standing" = some none)
  (nRoom_uses:W.findIn K (.ref CaRoom) "uses" = some none)
  (pgStore:W.plainGet K CaStore Str.empty=true) (hdStore:W.hasDictIn K CaStore=true) (poStore:W.plainOver K CaStore=true) (saStore:W.findIn K (.ref CaStore) "__setattr__" = some (some (.builtin "object.__setattr__"))) (mkStore:W.makesIn K CaStore=true) (kcStore:W.keepIn K (.ref CaStore)=true)
  (nStore_fresh:W.findIn K (.ref CaStore) "fresh" = some none)
  (nStore_held:W.findIn K (.ref CaStore) "held" = some none)
  (nStore_late:W.findIn K (.ref CaStore) "late" = some none)
  (nStore_room:W.findIn K (.ref CaStore) "room" = some none)
  (pgMemory:W.plainGet K CaMemory Str.empty=true) (hdMemory:W.hasDictIn K CaMemory=true) (poMemory:W.plainOver K CaMemory=true) (saMemory:W.findIn K (.ref CaMemory) "__setattr__" = some (some (.builtin "object.__setattr__"))) (mkMemory:W.makesIn K CaMemory=true) (kcMemory:W.keepIn K (.ref CaMemory)=true)
  (nMemory_kept:W.findIn K (.ref CaMemory) "kept" = some none)
  (nMemory_size:W.findIn K (.ref CaMemory) "size" = some none)
  (pgStairs:W.plainGet K CaStairs Str.empty=true) (hdStairs:W.hasDictIn K CaStairs=true) (poStairs:W.plainOver K CaStairs=true) (saStairs:W.findIn K (.ref CaStairs) "__setattr__" = some (some (.builtin "object.__setattr__"))) (mkStairs:W.makesIn K CaStairs=true) (kcStairs:W.keepIn K (.ref CaStairs)=true)
  (nStairs_bottom:W.findIn K (.ref CaStairs) "bottom" = some none)
  (nStairs_events:W.findIn K (.ref CaStairs) "events" = some none)
  (nStairs_kind:W.findIn K (.ref CaStairs) "kind" = some none)
  (nStairs_last:W.findIn K (.ref CaStairs) "last" = some none)
  (nStairs_size:W.findIn K (.ref CaStairs) "size" = some none)
  (nStairs_stores:W.findIn K (.ref CaStairs) "stores" = some none)
  (ch:W.codeHdIn K cg tp=true) (kt:K.lookup tp=none)
  : tabOf K "Room" "going" = tp/\(∃ c0,W.codeHdIn K c0 tp=true)/\K.lookup tp=none/\∃ fd:FuncData,(∀ (s:Shared) (v:Value),BindsTo s fd ⟨[v],[]⟩ [("_law_script",v)])/\∀ base:Heap,K.In base->base.Ns mainGlobals mg->BMod base mg->FnOk l.prog w K mg base CX0 19 fa fd P_law (spLaw K):=by
 have e:=hfa.symm.trans (W.mg_of X G a65)
 cases e
 have hCRoom:=ZcE aCRoom
 subst hCRoom
 have hCStore:=ZcE aCStore
 subst hCStore
 have hCMemory:=ZcE aCMemory
 subst hCMemory
 have hCStairs:=ZcE aCStairs
 subst hCStairs
 have hCNoShelf:=ZcE aCNoShelf
 subst hCNoShelf
 have hCSteps:=ZcE aCSteps
 subst hCSteps
 have T:Txt K mg:=⟨W.mg_none_of X G v9_,W.mg_none_of X G j0_,W.mg_none_of X G j1_,W.mg_none_of X G jt_,W.mg_none_of X G jp_,W.mg_none_of X G vo_,W.mg_none_of X G jl_,W.mg_none_of X G qi_,W.mg_none_of X G vp_,W.mg_none_of X G vg_,W.mg_none_of X G j2_,W.mg_none_of X G j8_,W.mg_none_of X G q2_,W.mg_none_of X G j9_,W.mg_none_of X G ja_,W.mg_none_of X G ju_,W.mg_none_of X G ji_,W.mg_none_of X G j3_,⟨pgRoom,hdRoom,poRoom,saRoom⟩,nRoom_places,nRoom_rule,nRoom_shelves,nRoom_standing,nRoom_uses,⟨pgStore,hdStore,poStore,saStore⟩,nStore_fresh,nStore_held,nStore_late,nStore_room,⟨pgMemory,hdMemory,poMemory,saMemory⟩,nMemory_kept,nMemory_size,⟨pgStairs,hdStairs,poStairs,saStairs⟩,nStairs_bottom,nStairs_events,nStairs_kind,nStairs_last,nStairs_size,nStairs_stores,W.mg_of X G aCNoShelf,ZoB xx (by simp)⟩
 have F4:=Zdf (st:=ZdX) l4 c4 k4
 have b1004:=F4.binds (ps:=ZdY) (ln2 λ_ _ _ _ _ _ _ _=>rfl)
 have F9:=Zdf (st:=ZB) l9 c9 k9
 have b1009:=F9.binds (ps:=Zao) (ln2 λ_ _ _ _ _ _ _ _=>rfl)
 have F39:=Zdf (st:=ZT) l39 c39 k39
 have b1039:=F39.binds (ps:=ZaM) (ln3 λ_ _ _ _ _ _ _ _ _=>rfl)
 have F47:=Zdf (st:=ZH) l47 c47 k47
 have b1047:=F47.binds (ps:=ZC) (ln5 λ_ _ _ _ _ _ _ _ _ _ _=>rfl)
 have F65:=Zdf (st:=s_law) l65 c65 k65
 have b1065:=F65.binds (ps:=P_law) (ln1 λ_ _ _ _ _ _ _=>rfl)
 have tq:=ZlP a9 l9 rfl ch
 refine ⟨tq,⟨_,ch⟩,kt,?_⟩
 refine ⟨W.fnOf "law" "law" (ZO s_law) (Zz s_law) (Zh s_law) .none kV65 dc65 pm65 an65 cd65 ct65,λs v=>.of_eq rfl,λbase _ _ bm=>?_⟩
 have B:CBs l.prog w K mg base:=⟨_,X,G⟩
 have qd_:=B.df x0 (λF=>ZnG F T ) (ln2 λ_ _ _ _ _ _ _ _=>rfl)
 have ya_:=B.df x1 (λF=>ZoG F T ) (ln2 λ_ _ _ _ _ _ _ _=>rfl)
 have js_:=B.df x2 (λF=>ZkI F T ) (ln2 λ_ _ _ _ _ _ _ _=>rfl)
 have v6_:=B.df x3 (λF=>Zff F T qd_) (ln2 λ_ _ _ _ _ _ _ _=>rfl)
 have jj_:=ZiL (P:=l.prog) (w:=w) (base:=base) F4 b1004 (W.mg_of X G a4) T 
 have jm_:=B.df x5 (λF=>ZhK F T ) (ln2 λ_ _ _ _ _ _ _ _=>rfl)
 have qn_:=B.md x6 (λF=>ZhL F T ) (ln2 λ_ _ _ _ _ _ _ _=>rfl)
 have ql_:=B.md x7 (λF=>ZfY F T jm_) (ln2 λ_ _ _ _ _ _ _ _=>rfl)
 have qu_:=B.md x8 (λF=>Zhc F T qn_) (ln2 λ_ _ _ _ _ _ _ _=>rfl)
 have q6_:MDef l.prog w K mg base (clsOf K "Room") "going" 2 Zao (ZfZ K):=⟨_,_,Zga F9 rfl tq ch bm T ,⟨a9,i9,k9⟩,b1009⟩
 have qv_:=B.md x10 (λF=>Zhd F T qu_ ql_) (ln2 λ_ _ _ _ _ _ _ _=>rfl)
 have vm_:=B.md x11 (λF=>ZhM F T qu_ ql_) (ln2 λ_ _ _ _ _ _ _ _=>rfl)
 have jk_:=B.kd x12 mkRoom kcRoom aCRoom (λF=>Zhe F T ) (ln4 λ_ _ _ _ _ _ _ _ _ _=>rfl)
 have qs_:=B.md x13 (λF=>Zdq F T ql_ q6_) (ln2 λ_ _ _ _ _ _ _ _=>rfl)
 have vc_:=B.md x14 (λF=>Zgc F T qn_ qs_ ql_ qv_) (ln2 λ_ _ _ _ _ _ _ _=>rfl)
 have jv_:=B.kd x15 mkStore kcStore aCStore (λF=>Zge F T jk_) (ln2 λ_ _ _ _ _ _ _ _=>rfl)
 have qw_:=B.md x16 (λF=>Zhg F T qn_) (ln2 λ_ _ _ _ _ _ _ _=>rfl)
 have ve_:=B.md x17 (λF=>Zhh F T ) (ln3 λ_ _ _ _ _ _ _ _ _=>rfl)
 have vx_:=B.md x18 (λF=>Zee F T vc_ ve_) (ln3 λ_ _ _ _ _ _ _ _ _=>rfl)
 have vr_:=B.md x19 (λF=>ZdJ F T qv_) (ln2 λ_ _ _ _ _ _ _ _=>rfl)
 have qj_:=B.md x20 (λF=>ZdK F T qu_) (ln2 λ_ _ _ _ _ _ _ _=>rfl)
 have vs_:=B.md x21 (λF=>ZdL F T ) (ln4 λ_ _ _ _ _ _ _ _ _ _=>rfl)
 have qx_:=B.md x22 (λF=>Zef F T ) (ln2 λ_ _ _ _ _ _ _ _=>rfl)
 have qq_:=B.df x23 (λF=>ZhO F T ) (ln2 λ_ _ _ _ _ _ _ _=>rfl)
 have vl_:=B.df x24 (λF=>ZhQ F T ) (ln2 λ_ _ _ _ _ _ _ _=>rfl)
 have jq_:=B.kd x25 mkMemory kcMemory aCMemory (λF=>Zfg F T ) (ln2 λ_ _ _ _ _ _ _ _=>rfl)
 have vn_:=B.md x26 (λF=>Zds F T vl_) (ln2 λ_ _ _ _ _ _ _ _=>rfl)
 have jc_:=B.md x27 (λF=>Zgf F T vl_) (ln3 λ_ _ _ _ _ _ _ _ _=>rfl)
 have qg_:=B.md x28 (λF=>Zfh F T ) (ln2 λ_ _ _ _ _ _ _ _=>rfl)
 have q8_:=B.md x29 (λF=>Zfi F T vn_ qg_ qj_) (ln3 λ_ _ _ _ _ _ _ _ _=>rfl)
 have qt_:=B.md x30 (λF=>ZdP F T ) (ln1 λ_ _ _ _ _ _ _=>rfl)
 have qm_:=B.md x31 (λF=>ZeO F T qs_) (ln3 λ_ _ _ _ _ _ _ _ _=>rfl)
 have vj_:=B.md x32 (λF=>ZcY F T ) (ln2 λ_ _ _ _ _ _ _ _=>rfl)
 have q4_:=B.md x33 (λF=>ZeP F T vm_) (ln3 λ_ _ _ _ _ _ _ _ _=>rfl)
 have qy_:=B.md x34 (λF=>Zeg F T vx_) (ln4 λ_ _ _ _ _ _ _ _ _ _=>rfl)
 have qf_:=B.md x35 (λF=>ZeR F T vr_) (ln3 λ_ _ _ _ _ _ _ _ _=>rfl)
 have qp_:=B.md x36 (λF=>Zhm F T jc_ ve_) (ln4 λ_ _ _ _ _ _ _ _ _ _=>rfl)
 have vy_:=B.md x37 (λF=>Zeh F T qj_ qq_) (ln3 λ_ _ _ _ _ _ _ _ _=>rfl)
 have vu_:=B.md x38 (λF=>ZdQ F T vs_ qq_) (ln4 λ_ _ _ _ _ _ _ _ _ _=>rfl)
 have jd_:CDef l.prog w K mg base "Steps" "__init__" 5 ZaM (ZhT K):=⟨_,_,_,Zgj F39 T jv_ jq_,⟨g39,⟨_,r39,a39⟩,k39⟩,W.mg_of X G aCSteps,b1039⟩
 have jr_:=B.kd x40 mkStairs kcStairs aCStairs (λF=>Zfj F T jd_) (ln2 λ_ _ _ _ _ _ _ _=>rfl)
 have vt_:=B.md x41 (λF=>ZdR F T qw_) (ln2 λ_ _ _ _ _ _ _ _=>rfl)
 have q3_:=B.md x42 (λF=>ZeV F T qw_ qp_ qx_) (ln4 λ_ _ _ _ _ _ _ _ _ _=>rfl)
 have qz_:=B.md x43 (λF=>Zei F T qx_ q3_ qj_) (ln3 λ_ _ _ _ _ _ _ _ _=>rfl)
 have vi_:=B.md x44 (λF=>Zda F T qf_ qw_ q3_) (ln3 λ_ _ _ _ _ _ _ _ _=>rfl)
 have vf_:=B.md x45 (λF=>ZcJ F T q4_ q8_ qm_ vi_ qy_) (ln3 λ_ _ _ _ _ _ _ _ _=>rfl)
 have qh_:=B.md x46 (λF=>ZcK F T qy_ qz_) (ln5 λ_ _ _ _ _ _ _ _ _ _ _=>rfl)
 have q9_:=Zcy (P:=l.prog) (w:=w) (base:=base) F47 b1047 ⟨a47,i47,k47⟩ T qp_ qm_ qh_ qf_
 have vd_:=B.md x48 (λF=>Zcz F T q4_ q8_ qf_ q9_) (ln3 λ_ _ _ _ _ _ _ _ _=>rfl)
 have q5_:=B.md x49 (λF=>ZeX F T vt_ vj_ vd_ vf_) (ln2 λ_ _ _ _ _ _ _ _=>rfl)
 have v7_:=B.md x50 (λF=>Zfk F T qq_ q5_ vy_ qt_) (ln2 λ_ _ _ _ _ _ _ _=>rfl)
 have v1_:=B.md x51 (λF=>ZeY F T qq_ q5_ vu_ qz_ qt_) (ln3 λ_ _ _ _ _ _ _ _ _=>rfl)
 have jh_:=B.df x52 (λF=>Zhq F T qd_) (ln1 λ_ _ _ _ _ _ _=>rfl)
 have j5_:=B.df x53 (λF=>ZnM F T qd_ jh_) (ln1 λ_ _ _ _ _ _ _=>rfl)
 have j7_:=B.df x54 (λF=>ZnN F T qd_) (ln3 λ_ _ _ _ _ _ _ _ _=>rfl)
 have j4_:=B.df x55 (λF=>ZnO F T qd_) (ln1 λ_ _ _ _ _ _ _=>rfl)
 have j6_:=B.df x56 (λF=>ZnP F T qd_ j4_) (ln3 λ_ _ _ _ _ _ _ _ _=>rfl)
 have q7_:=B.md x57 (λF=>Zdv F T q6_) (ln2 λ_ _ _ _ _ _ _ _=>rfl)
 have je_:=B.mx x57 (λF=>Zfl F T (Zdv F T q6_) ) (ln2 λ_ _ _ _ _ _ _ _=>rfl)
 have q1_:=B.md x58 (λF=>Zfm F T ) (ln1 λ_ _ _ _ _ _ _=>rfl)
 have jf_:=B.md x59 (λF=>Zgp F T qg_ q1_) (ln2 λ_ _ _ _ _ _ _ _=>rfl)
 have v0_:=B.md x60 (λF=>ZcA F T qg_ q7_) (ln3 λ_ _ _ _ _ _ _ _ _=>rfl)
 have vz_:=B.mx x60 (λF=>Zej F T (ZcA F T qg_ q7_) qg_ je_) (ln3 λ_ _ _ _ _ _ _ _ _=>rfl)
 have v8_:=B.df x61 (λF=>ZhX F T vz_) (ln3 λ_ _ _ _ _ _ _ _ _=>rfl)
 have jn_:=B.df x62 (λF=>Zib F T qn_ vm_ qv_ vc_) (ln3 λ_ _ _ _ _ _ _ _ _=>rfl)
 have v2_:=B.df x63 (λF=>Zfa F T jf_ q1_ v0_ q7_ jj_) (ln3 λ_ _ _ _ _ _ _ _ _=>rfl)
 have jx_:=B.df x64 (λF=>Zmp F T j5_ v6_ j6_ j7_ qd_ jr_ jk_ v7_ v1_ jn_ v2_ v8_) (ln1 λ_ _ _ _ _ _ _=>rfl)
 exact ZoQ F65 T ya_ js_ jx_
theorem walk {l:W.OpenLaw} {q:Program} {loose:List Str} {XP:(Str->Option Value)->Heap->Prop} {YP:World->Heap->Prop} {d:DefRec} {K:Params->W.Frag} {tp:Addr} (hn:l.most=some 63) (hdf:d.params.defaults=[])
  (hY:∀ (w:World) (h:Heap),YP w h->(K w.params).In h/\h.get? tp=some { cls:=.none,data:=.fields #[] })
  (F:∀ (w:World) (mg:Str->Option Value) (fa:Addr) (h:Heap),(K w.params).In h->h.Ns mainGlobals mg->mg d.name=some (.ref fa) ->
   tabOf (K w.params) "Room" "going" = tp/\(∃ c0,W.codeHdIn (K w.params) c0 tp=true)/\(K w.params).lookup tp=none/\∃ fd:FuncData,(∀ (s:Shared) (u:Value),BindsTo s fd ⟨[u],[]⟩ [("_law_script",u)])/\∀ base:Heap,(K w.params).In base->base.Ns mainGlobals mg->BMod base mg->FnOk l.prog w (K w.params) mg base CX0 19 fa fd P_law (spLaw (K w.params))) :
  W.WalkO q loose XP YP l.row.toRowW d [] (λf vs=>PySem.call f vs) :=
 L2.ZlO (tp:=tp) (pos:=tpos) (qual:=tqual) (G:=λw=>tabOf (K w.params) "Room" "going" = tp) (n:=63) (k:=19) (x := "_law_script") (CX:=λ_=>CX0) (sp:=λw=>spLaw (K w.params)) hn (by decide) hdf ⟨rfl,by decide,by decide,rfl⟩ hY F (λ_ _ a ns g hl hT hS=>⟨a,ns,rfl,hS,hl,(by unfold Tb; rw [g]; exact hT),λ_=>rfl⟩) λ_ _ _ _ _ z=>z
end Mine
namespace PySem.W.Fast
abbrev Q:=Nat
open Lean in
local macro_rules|`(command|#reduce 0)=>do
 let f:=λ(n:Name)=>`(command|def $(mkIdent (.mkSimple s!"tw{n.hash}")):ident:=Q)
 let mut r:=#[<-f `PySem.Challenge.pw_nearstairs_k26_orders_of_stairs]
 for (x,l) in [("o_",List.range' 43 834),("tree_",[47,91,106,121,136,151,242,243,330,379,498,581,585,699,778,864,876]),("sts_",[49,92,107,122,137,152,243,245,331,380,585,587,782,865]),("thread_",[581,778]),("env_",[41]),("heap_",[39,46,877]),("view_",[39])] do for i in l do r:=r.push (<-f (.str `PySem.Challenge.cw_nearstairs_k26_orders_of_stairs_holds s!"{x}{i}"))
 return mkNullNode r
#reduce 0
end PySem.W.Fast
open PySem PySem.W PyProof.Rows
set_option maxRecDepth 100000 in
set_option maxHeartbeats 0 in
theorem PySem.Challenge.cw_nearstairs_k26_orders_of_stairs_holds : PySem.Challenge.rw_nearstairs_k26_orders_of_stairs.Holds := by
 w_on; o_law; k_head; (case hw=>w_witness2)
 k_fill
 refine Mine.walk (l:=PySem.Challenge.rw_nearstairs_k26_orders_of_stairs) rfl rfl (λw h Y=>⟨PySem.W.km_in_of Y,PySem.W.km_tabs_of Y _ mem_cons_self⟩) ?F
 case F =>
  intro w mg fa h KX G hmg
  refine' Mine.ZoR KX G hmg ?_ ?_ ?_ ?_ ?_ ?_ ?_ ?_ ?_ ?_ ?_ ?_ ?_ ?_ ?_ ?_ ?_ ?_ ?_ ?_ ?_ ?_ ?_ ?_ ?_ ?_ ?_ ?_ ?_ ?_ ?_ ?_ ?_ ?_ ?_ ?_ ?_ ?_ ?_ ?_ ?_ ?_ ?_ ?_ ?_ ?_ ?_ ?_ ?_ ?_ ?_ ?_ ?_ ?_ ?_ ?_ ?_ ?_ ?_ ?_ ?_ ?_ ?_ ?_ ?_ ?_ ?_ ?_ ?_ ?_ ?_ ?_ ?_ ?_ ?_ ?_ ?_ ?_ ?_ ?_ ?_ ?_ ?_ ?_ ?_ ?_ ?_ ?_ ?_ ?_ ?_ ?_ ?_ ?_ ?_ ?_ ?_ ?_ ?_ ?_ ?_ ?_ ?_ ?_ ?_ ?_ ?_ ?_ ?_ ?_ ?_ ?_ ?_ ?_ ?_ ?_ ?_ ?_ ?_ ?_ ?_ ?_ ?_ ?_ ?_ ?_ ?_ ?_ ?_ ?_ ?_ ?_ ?_ ?_ ?_ ?_ ?_ ?_ ?_ ?_ ?_ ?_ ?_ ?_ ?_ ?_ ?_ ?_ ?_ ?_ ?_ ?_ ?_
  all_goals try refine' Mine.CGF.mk ?_ ?_ ?_ ?_
  all_goals try refine' Mine.CMF.mk ?_ ?_ ?_ ?_ ?_
  all_goals try k_is
  all_goals kernel_rfl
